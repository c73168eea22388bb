import PyProof.Rows.All
import Wide.All
import OpenK.AllK
import Wide.FinOn
import Lean
import PyProof.EqAt
import PyProof.EqKinds
import PyProof.TupleCall
import PyProof.Cells
import PyProof.AutoSeq1
import PyProof.MaxThree
import KE.KSortTup
import KE.KDflt
import PyProof.ListOps
import PyProof.AttrMissHeap
import PyProof.FactsAll.zip
import KE.KItemsList
import PyProof.DictUpdate
import PyProof.NeKinds
import KE.KRevIter
import PyProof.ListStr
import PySem.Challenge.RW_ladderworth_k87_whole_put_and_taken_at_t
set_option linter.all false
set_option maxRecDepth 100000
set_option Elab.async false
set_option maxHeartbeats 4000000
local macro_rules | `(tactic| trivial) => `(tactic| first | exact .inl rfl | exact .inr rfl | assumption)
local notation "KKf"=>PySem.W.Frag
abbrev AA:=@PySem.wpAny_bind
abbrev AB:=@PySem.Heap.get?_push_of_some
abbrev AC:=@PySem.wpAny_pure
abbrev AD:=@List.getElem?_eq_getElem
abbrev AE:=@List.length_map
abbrev AF:=@Nat.le_refl
abbrev AG:=@PySem.Heap.get?_push_size
abbrev AH:=@PySem.Heap.lt_size
abbrev AI:=@if_neg
abbrev AJ:=@List.mem_cons_of_mem
abbrev AK:=@List.mem_cons_self
abbrev AL:=@Nat.lt_of_lt_of_le
abbrev AM:=@List.length_append
abbrev AN:=@if_pos
abbrev AO:=@Nat.le_trans
abbrev AQ:=@decide_eq_true
abbrev AR:=@List.size_toArray
abbrev AS:=@Nat.ne_of_lt
abbrev AU:=@List.mem_cons
abbrev AV:=@Nat.zero_le
abbrev AW:=@List.mem_singleton
abbrev AX:=@List.mem_append_right
abbrev AY:=@List.length_cons
abbrev AZ:=@of_decide_eq_true
abbrev BA:=@decide_eq_false
abbrev BC:=@Bool.false_ne_true
abbrev BD:=@Int.mul_assoc
abbrev BE:=@List.map_cons
abbrev BF:=@List.getD_eq_getElem?_getD
abbrev BG:=@List.mem_map
abbrev BH:=@List.mem_of_getElem?
abbrev BI:=@List.getElem?_eq_some_iff
abbrev BJ:=@List.getElem?_map
abbrev BK:=@Array.length_toList
abbrev BL:=@Bool.false_eq_true
abbrev BM:=@of_decide_eq_false
abbrev BN:=@List.getElem?_append_right
abbrev BO:=@Nat.lt_of_le_of_lt
abbrev BP:=@PySem.wpAny_mono
abbrev BQ:=@List.length_take
abbrev BR:=@Bool.and_eq_true
abbrev BS:=@PySem.wpAny_newObj_type
abbrev BU:=@PySem.Heap.SameBut.update
abbrev BV:=@List.mem_append
abbrev BW:=@PySem.Heap.size_push
abbrev BX:=@PyProof.Rows.callWith_type1
abbrev BY:=@List.pairwise_cons
abbrev BZ:=@List.mem_range
abbrev CA:=@PySem.Heap.get?_update_self
abbrev CB:=@List.map_append
abbrev CC:=@PySem.wpAny_callSpecial?_slot
abbrev CD:=@Nat.lt_succ_of_lt
abbrev CF:=@List.getElem?_append_left
abbrev CG:=@List.append_nil
abbrev CH:=@List.all_eq_true
abbrev CI:=@List.take_add_one
abbrev CJ:=@PySem.W.kia_one
abbrev CK:=@PySem.Obj.data_mapFields
abbrev CL:=@PySem.sizeLine_eq
abbrev CM:=@Ne.symm
abbrev CN:=@List.append_assoc
abbrev CO:=@bne_self_eq_false
abbrev CP:=@Nat.ne_of_gt
abbrev CQ:=@PySem.wpAny_field
abbrev CS:=@PySem.wpAny_holding
abbrev CT:=@Nat.le_succ
abbrev CU:=@PySem.wpAny_seqItems
abbrev CV:=@PySem.wpAny_truthy_bool
abbrev CW:=@Int.toNat_natCast
abbrev CY:=@Int.emod_nonneg
abbrev CZ:=@List.length_filter_le
abbrev DA:=@List.getElem?_eq_none
abbrev DB:=@PySem.Calls.spliced_cons
abbrev DC:=@PySem.wpAny_Call_Name_kw
abbrev DD:=@if_false
abbrev DE:=@PySem.F.called_set
abbrev DF:=@PySem.Around.under_plainId
abbrev DG:=@PySem.Calls.spliced_nil
abbrev DH:=@List.nodup_cons
abbrev DI:=@PySem.PassesOwn.never
abbrev DJ:=@beq_eq_false_iff_ne
abbrev DK:=@Nat.le_of_lt
abbrev DL:=@Nat.lt_irrefl
abbrev DM:=@Nat.lt_succ_self
abbrev DN:=@List.length_drop
abbrev DO:=@List.length_singleton
abbrev DP:=@Array.getElem?_toList
abbrev DQ:=@List.length_range
abbrev DR:=@List.getElem?_replicate
abbrev DS:=@List.getElem?_cons_succ
abbrev DT:=@List.filterMap_cons
abbrev DU:=@Nat.le_of_not_lt
abbrev DV:=@PySem.wpAny_setField
abbrev DW:=@List.lookup_cons
abbrev DX:=@List.take_length
abbrev DY:=@PySem.Heap.get?_update_other
abbrev DZ:=@Option.map_eq_some_iff
abbrev EA:=@List.take_of_length_le
abbrev EB:=@Int.mul_pos
abbrev EC:=@List.mem_filterMap
abbrev ED:=@Int.mul_comm
abbrev EE:=@PySem.wpAny_setField_rec
abbrev EF:=@PyProof.Rows.F.plain_set_update_loop
abbrev EG:=@PySem.wpAny_passesOwn
abbrev EH:=@List.length_replicate
abbrev EI:=@PySem.Obj.isFreed_of_fields
abbrev EJ:=@PySem.F.slot_tuple_iterator_next
abbrev EK:=@PySem.wpAny_setState_of
abbrev EL:=@List.mem_append_left
abbrev EM:=@List.drop_eq_getElem_cons
abbrev EN:=@List.pairwise_iff_getElem
abbrev EO:=@List.mem_of_mem_take
abbrev ER:=@Bool.false_and
abbrev ES:=@PySem.wpAny_isInstance
abbrev ET:=@List.getElem_mem
abbrev EU:=@PySem.wpAny_askSetting
abbrev EV:=@List.map_map
abbrev EW:=@PySem.AutoSeq1.wpAny_loadPart'
abbrev EX:=@PySem.mem_of_lookup
abbrev EY:=@PySem.wpAny_setEntries_of
abbrev EZ:=@PyProof.Rows.slot_tuple_getitem
abbrev FA:=@PySem.wpAny_getItem_str_slice
abbrev FC:=@List.pairwise_singleton
abbrev FD:=@PySem.F.plain_list_iadd
abbrev FE:=@Bool.true_and
abbrev FF:=@PyProof.Rows.listUpdate_at
abbrev FG:=@List.mem_filter
abbrev FH:=@Bool.eq_iff_iff
abbrev FI:=@PySem.W.callWith_K
abbrev FJ:=@List.find?_cons
abbrev FK:=@PySem.Calls.callWith_builtin
abbrev FL:=@Option.map_eq_none_iff
abbrev FM:=@PySem.fits_of_scanBound
abbrev FN:=@PySem.codeAny_mono
abbrev FO:=@if_true
abbrev FP:=@List.getElem?_toArray
abbrev FQ:=@PySem.builtinLookup_eq_fast
abbrev FR:=@beq_iff_eq
abbrev FS:=@PySem.Calls.evalArgs_plain
abbrev FT:=@List.not_mem_nil
abbrev FU:=@decide_eq_decide
abbrev FV:=@List.any_cons
abbrev FW:=@PySem.plainId_quiet
abbrev FX:=@PySem.wpAny_newList
abbrev FY:=@Int.mul_fdiv_cancel
abbrev FZ:=@PySem.W.looks_mroIn
abbrev GA:=@List.getElem_of_mem
abbrev GB:=@PySem.wpAny_execs_nil
abbrev GC:=@List.of_mem_zip
abbrev GD:=@Nat.min_eq_left
abbrev GE:=@Nat.min_le_left
abbrev GF:=@Decidable.byContradiction
abbrev GG:=@Classical.byContradiction
abbrev GH:=@PySem.tupleKind_room_in1
abbrev GI:=@List.filter_append
abbrev GJ:=@PySem.typeIs_str
abbrev GK:=@PySem.wpAny_rule
abbrev GL:=@List.drop_zero
abbrev GM:=@Bool.and_false
abbrev GN:=@PySem.F.plainAttrs_dict
abbrev GP:=@Nat.add_sub_cancel_left
abbrev GQ:=@List.length_eq_zero_iff
abbrev GR:=@List.filter_cons_of_pos
abbrev GS:=@List.filter_cons_of_neg
abbrev GT:=@PySem.F.plainAttrs_list
abbrev GU:=@PySem.wpAny_pyIter_list
abbrev GV:=@PySem.Obj.cls_mapFields
abbrev GW:=@PySem.wpAny_loadPart_at
abbrev GX:=@List.ext_getElem?
abbrev GY:=@PySem.Heap.get?_push_ne
abbrev GZ:=@Array.getElem?_eq_none
abbrev HA:=@Nat.le_add_right
abbrev HB:=@PySem.F.slot_dict_get
abbrev HC:=@Array.size_eq_one_iff
abbrev HD:=@PySem.W.methodCall_KW
abbrev HE:=@Option.map_some
abbrev HF:=@PySem.wpAny_specialOf
abbrev HG:=@PySem.F.slot_zip_next
abbrev HH:=@PySem.post_val_or_str
abbrev HI:=@PySem.Txt.slice_le
abbrev HJ:=@PySem.typeLookup_type
abbrev HK:=@PySem.wpAny_updateSeq
abbrev HM:=@PySem.wpAny_ite_split
abbrev HN:=@Int.ne_of_gt
local macro "#r":term=>`(by rfl)
local macro "#d":term=>`(by decide)
local macro "#o":term=>`(by omega)
local macro "#t":term=>`(by trivial)
local macro "#k":term=>`(by decide +kernel)
local macro "eC" t:term : tactic =>`(tactic|exact $t)
local macro "rA" t:term : tactic =>`(tactic|refine $t)
namespace L2
open PySem PySem.Spec PyProof.Rows
abbrev B4:=Sum Int Str
def N8:B4→Value→Bool
 |.inl k,v=>Value.isInt k v
 |.inr x,v=>Value.isStrOf x v
def Asj (w:World):B4→Int
 |.inl k=>hashInt k
 |.inr x=>hashStr w x
theorem Bw:∀{k:B4} {v:Value},N8 k v=true→(∃i t,k=Sum.inl i∧v=Value.int i t)∨(∃x t,k=Sum.inr x∧v=Value.str x t)
 |.inl i,v,h=>by
  obtain ⟨t,e⟩:=Value.isInt_shape (k:=i) (v:=v) h
  eC .inl ⟨i,t,rfl,e⟩
 |.inr x,v,h=>by
  obtain ⟨t,e⟩:=Value.isStrOf_shape (x:=x) (v:=v) h
  eC .inr ⟨x,t,rfl,e⟩
theorem Adk (i:Int)(t:Tok):N8 (.inl i) (.int i t)=true:=by simp [N8,Value.isInt]
theorem Adg (x:Str)(t:Tok):N8 (.inr x) (.str x t)=true:=by simp [N8,Value.isStrOf]
theorem Al2 (a b:Int):decide ((Sum.inl a:B4)=Sum.inl b)=(a==b):=by
 by_cases e:a=b
 ·subst e;simp
 ·have h:¬(Sum.inl a:B4)=Sum.inl b:=fun q=>e (Sum.inl.inj q)
  rw [BA h]
  eC (DJ.mpr e).symm
theorem Amy (a b:Str):decide ((Sum.inr a:B4)=Sum.inr b)=decide (a=b):=by
 by_cases e:a=b
 ·subst e;simp
 ·have h:¬(Sum.inr a:B4)=Sum.inr b:=fun q=>e (Sum.inr.inj q)
  rw [BA h,BA e]
theorem Alb (a:Int)(b:Str):decide ((Sum.inl a:B4)=Sum.inr b)=false:=BA (fun q=>nomatch q)
theorem Amt (a:Str)(b:Int):decide ((Sum.inr a:B4)=Sum.inl b)=false:=BA (fun q=>nomatch q)
def A9 (prog:Program)(w:World):PySem.KeyKind prog w B4 where
 is:=N8
 hash:=Asj w
 inj:=fun v a b ha hb=>by
  rcases Bw ha with ⟨i,t,rfl,rfl⟩|⟨x,t,rfl,rfl⟩
  ·rcases Bw hb with ⟨j,u,rfl,e⟩|⟨y,u,rfl,e⟩
   ·injection e with e1 _;rw [e1]
   ·eC nomatch e
  ·rcases Bw hb with ⟨j,u,rfl,e⟩|⟨y,u,rfl,e⟩
   ·eC nomatch e
   ·injection e with e1 _;rw [e1]
 byValue:=fun k v h=>by
  rcases Bw h with ⟨i,t,rfl,rfl⟩|⟨x,t,rfl,rfl⟩<;>rfl
 pyHash:=fun hv h=>by
  rcases Bw hv with ⟨i,t,rfl,rfl⟩|⟨x,t,rfl,rfl⟩
  ·eC wpAny_pyHash_int h
  ·eC wpAny_pyHash_str h
 eqBool:=fun hu hv h=>by
  rcases Bw hu with ⟨i,t,rfl,rfl⟩|⟨x,t,rfl,rfl⟩
  ·rcases Bw hv with ⟨j,u,rfl,rfl⟩|⟨y,u,rfl,rfl⟩
   ·rw [Al2] at h;eC wpAny_eqBool_int h
   ·rw [Alb] at h;eC SeqAt.EqAt.int_str i t y u _ _ _ _ h
  ·rcases Bw hv with ⟨j,u,rfl,rfl⟩|⟨y,u,rfl,rfl⟩
   ·rw [Amt] at h;eC SeqAt.EqAt.str_int x t j u _ _ _ _ h
   ·rw [Amy] at h;eC wpAny_eqBool_str h
 «strs»:=fun k x t v h=>by
  rcases Bw h with ⟨i,u,rfl,e⟩|⟨y,u,rfl,e⟩
  ·eC nomatch e
  ·injection e with e1 _
   subst e1
   cases v<;>rfl
theorem Wf (prog:Program)(w:World)(i:Int)(t:Tok):(A9 prog w).is (.inl i) (.int i t)=true:=Adk i t
theorem Ii (prog:Program)(w:World)(x:Str)(t:Tok):(A9 prog w).is (.inr x) (.str x t)=true:=Adg x t
end L2
namespace L2
open PySem PySem.Spec PyProof.Rows
inductive V where
 |non|bl (b:Bool)|int (i:Int)|str (x:Str)|byt (b:Array UInt8)|flt (b:UInt64)|ref (a:Addr)|ty (n:String)
 deriving DecidableEq
def RelV:V→Value→Prop
 |.non,u=>u=Value.none
 |.bl b,u=>u=Value.bool b
 |.int i,u=>∃t,u=Value.int i t
 |.str x,u=>∃t,u=Value.str x t
 |.byt b,u=>∃t,u=Value.bytes b t
 |.flt b,u=>∃t,u=Value.float b t
 |.ref a,u=>u=Value.ref a
 |.ty n,u=>u=Value.type n
abbrev A7:List V→List Value→Prop:=Paired RelV
theorem A7.length {xs:List V}{us:List Value}(r:A7 xs us):xs.length=us.length:=Paired.length r
theorem A7.get:∀{xs:List V} {us:List Value} {i:Nat} {x:V},A7 xs us→xs[i]? =some x→∃u,us[i]? =some u∧RelV x u
 |_,_,_,_,.nil,e=>by simp at e
 |_,_,0,_,.cons r _,e=>by simp at e;subst e;eC ⟨_,rfl,r⟩
 |_,_,i+1,x,.cons _ t,e=>by
  obtain ⟨u,h1,h2⟩:=A7.get (i:=i) (x:=x) t (by simpa using e)
  eC ⟨u,by simpa using h1,h2⟩
theorem A7.append:∀{xs ys:List V} {us ws:List Value},A7 xs us→A7 ys ws→A7 (xs++ys) (us++ws)
 |_,_,_,_,.nil,s=>s
 |_,_,_,_,.cons r t,s=>.cons r (A7.append t s)
theorem A7.take:∀{xs:List V} {us:List Value} (n:Nat),A7 xs us→A7 (xs.take n) (us.take n)
 |_,_,0,_=>.nil
 |_,_,_+1,.nil=>.nil
 |_,_,n+1,.cons r t=>.cons r (A7.take n t)
theorem A7.drop:∀{xs:List V} {us:List Value} (n:Nat),A7 xs us→A7 (xs.drop n) (us.drop n)
 |_,_,0,r=>r
 |_,_,_+1,.nil=>.nil
 |_,_,n+1,.cons _ t=>A7.drop n t
def Gj:Option V→Option Value→Prop
 |some v,some u=>RelV v u
 |none,none=>True
 |_,_=>False
def KV {κ:Type}:List (κ×V)→List (κ×Value)→Prop:=Paired fun (p:κ×V) (q:κ×Value)=>p.1=q.1∧RelV p.2 q.2
def kV:B4→V
 |.inl i=>.int i
 |.inr x=>.str x
inductive HO where
 |lst (xs:List V)
 |tup (xs:List V)
 |dK (kvs:List (B4×V))|dT (kvs:List (List B4×V))
 |set (S:Int→Bool) (n:Nat)
 |ins (C dx:Addr) (fs:List (Str×V))
 |own (x:Addr)
 |xd (fs:List (Str×V))
 |met (f x:Addr)
 |rng (lo hi:Int)
 |frz (o:Obj) (u:HO)
 |tbl (ps:Array Value)
 |ext (φ:Heap→Prop)
abbrev Hp:=Addr→Option HO
def upd (H:Hp)(a:Addr)(o:HO):Hp:=fun b=>if b=a then some o else H b
theorem Ag {H:Hp}{a:Addr}{o:HO}:upd H a o a=some o:=by unfold upd;rw [AN rfl]
theorem Ao {H:Hp}{a b:Addr}{o:HO}(h:b≠a):upd H a o b=H b:=by unfold upd;rw [AI h]
theorem Aaz {H:Hp}{a:Addr}{o u:HO}:upd (upd H a o) a u=upd H a u:=by
 funext b;unfold upd;split<;>rfl
theorem Ap9 {H:Hp}{a b:Addr}{o u:HO}(h:H a=some o)(h':H b=some u)(d:o≠u):a≠b:=by
 intro e;subst e;rw [h] at h';eC d (Option.some.inj h')
theorem Bs {H:Hp}{a b:Addr}{o:HO}(h:H a=some o)(h':H b=none):a≠b:=by
 intro e;subst e;rw [h] at h';cases h'
section
variable (P:Program)(w:World)
def Bg (H:Hp)(h:Heap)(a:Addr):HO→Prop
 |.lst xs=>xs.length≤sizeLine∧∃(its:List Value) (n:Nat),A7 xs its∧h.get? a=some { cls:=.type "list",data:=.seq its.toArray n }
 |.tup xs=>xs.length≤sizeLine∧∃its:List Value,A7 xs its∧IsTup h a its.toArray
 |.dK kvs=>kvs.length≤sizeLine∧(a==sysModules)=false∧∃vs,KV kvs vs∧h.DictOf (A9 P w) a vs
 | .dT kvs=>kvs.length≤sizeLine∧(a==sysModules)=false∧∃xs:List (List B4×Addr×Value),
   Paired (fun (p:List B4×V) (q:List B4×Addr×Value)=>p.1=q.1∧H q.2.1=some (.tup (p.1.map kV))∧RelV p.2 q.2.2) kvs xs ∧
   ∃o es ep,h.get? a=some o∧o.ExactDict∧o.data=.dict es ep∧es.toList=xs.map (entryOfKey (tupleKind (A9 P w)))∧(xs.map (·.1)).Nodup
 |.set S n=>h.SetOf (intKind P w) a S n
 | .ins C dx fs=>H dx=some (.own a)∧fs.length≤1000∧dx≠a∧h.get? a=some (PySem.W.instObj C dx) ∧
   ∃mA,h.Ns1 dx mA∧(∀f,Gj (fs.lookup f) (mA f))∧PySem.Within mA (fs.map (·.1))
 |.own _=>∃o,h.get? a=some o
 |.xd fs=>∃mA,h.Ns1 a mA∧∀f,Gj (fs.lookup f) (mA f)
 |.rng lo hi=>∃t u v,h.get? a=some { cls:=.type "range",data:=.fields #[.int lo t,.int hi u,.int 1 v] }
 |.frz o u=>h.get? a=some o∧Bg H h a u
 |.tbl ps=>h.get? a=some { cls:=.none,data:=.fields ps }
 |.met f x=>h.get? a=some (PySem.W.methodObj (.ref f) (.ref x))
 |.ext φ=>φ h∧(∃o,h.get? a=some o)∧∀h1 h2:Heap,φ h1→(∀o,h1.get? a=some o→h2.get? a=some o)→φ h2
def Jy (H:Hp)(h:Heap):Prop:=∀a o,H a=some o→Bg P w H h a o
end
section
variable {P:Program}{w:World}{H H':Hp}{h h':Heap}{a:Addr}{o:HO}
theorem Bg.lt (x:Bg P w H h a o):a<h.objs.size:=by
 cases o with
 |lst xs=>obtain ⟨_,_,_,_,e⟩:=x;eC AH e
 |tup xs=>obtain ⟨_,_,_,p⟩:=x;eC p.lt
 |dK kvs=>obtain ⟨_,_,_,_,o,_,_,e,_⟩:=x;eC AH e
 |dT kvs=>obtain ⟨_,_,_,_,o,_,_,e,_⟩:=x;eC AH e
 |set S n=>obtain ⟨o,_,_,_,e,_⟩:=x;eC AH e
 |ins C dx fs=>obtain ⟨_,_,_,e,_⟩:=x;eC AH e
 |own y=>obtain ⟨_,e⟩:=x;eC AH e
 |xd fs=>obtain ⟨_,⟨_,_,_,e,_⟩,_⟩:=x;eC AH e
 |rng lo hi=>obtain ⟨_,_,_,e⟩:=x;eC AH e
 |frz ob u=>obtain ⟨e,_⟩:=x;eC AH e
 |tbl ps=>eC AH (show h.get? a=some _ from x)
 |met f y=>eC AH (show h.get? a=some _ from x)
 |ext φ=>obtain ⟨_,⟨_,e⟩,_⟩:=x;eC AH e
theorem Paired.mapP {α β:Type}{F G:α→β→Prop}:∀{l₁:List α} {l₂:List β},Paired F l₁ l₂→(∀a b,F a b→G a b)→Paired G l₁ l₂
 |_,_,.nil,_=>.nil
 |_,_,.cons r t,f=>.cons (f _ _ r) (Paired.mapP t f)
theorem Bg.stay (x:Bg P w H h a o)(k:∀b u,(b=a∨H b=some (.own a))→h.get? b=some u→h'.get? b=some u)
  (ho:∀b,H b=some (.own a)→H' b=some (.own a)) (ht:∀b xs,H b=some (.tup xs)→H' b=some (.tup xs)):Bg P w H' h' a o:=by
 induction o with
 |lst xs=>obtain ⟨z,its,n,r,e⟩:=x;eC ⟨z,its,n,r,k _ _ (.inl rfl) e⟩
 |tup xs=>obtain ⟨z,its,r,ob,e,c⟩:=x;eC ⟨z,its,r,ob,k _ _ (.inl rfl) e,c⟩
 |dK kvs=>obtain ⟨z,y,vs,r,ob,es,ep,e,c⟩:=x;eC ⟨z,y,vs,r,ob,es,ep,k _ _ (.inl rfl) e,c⟩
 |dT kvs=>
  obtain ⟨z,y,xs,r,ob,es,ep,e,c⟩:=x
  eC ⟨z,y,xs,Paired.mapP r fun p q z=>⟨z.1,ht _ _ z.2.1,z.2.2⟩,ob,es,ep,k _ _ (.inl rfl) e,c⟩
 |set S n=>obtain ⟨ob,es,ep,t,e,c⟩:=x;eC ⟨ob,es,ep,t,k _ _ (.inl rfl) e,c⟩
 |ins C dx fs=>
  obtain ⟨d,z,ne,e,mA,⟨od,es,ep,e2,c⟩,r⟩:=x
  eC ⟨ho _ d,z,ne,k _ _ (.inl rfl) e,mA,⟨od,es,ep,k _ _ (.inr d) e2,c⟩,r⟩
 |own y=>obtain ⟨ob,e⟩:=x;eC ⟨ob,k _ _ (.inl rfl) e⟩
 |xd fs=>obtain ⟨mA,⟨od,es,ep,e,c⟩,r⟩:=x;eC ⟨mA,⟨od,es,ep,k _ _ (.inl rfl) e,c⟩,r⟩
 |rng lo hi=>obtain ⟨t,u,v,e⟩:=x;eC ⟨t,u,v,k _ _ (.inl rfl) e⟩
 |frz ob u ih=>obtain ⟨e,q⟩:=x;eC ⟨k _ _ (.inl rfl) e,ih q⟩
 |tbl ps=>
  have e:h.get? a=some { cls:=.none,data:=.fields ps }:=x
  show h'.get? a=some { cls:=.none,data:=.fields ps }
  eC k a _ (.inl rfl) e
 |met f y=>
  have e:h.get? a=some (PySem.W.methodObj (.ref f) (.ref y)):=x
  show h'.get? a=some (PySem.W.methodObj (.ref f) (.ref y))
  eC k a _ (.inl rfl) e
 |ext φ=>obtain ⟨p,⟨o,e⟩,st⟩:=x;eC ⟨st _ _ p fun o q=>k _ _ (.inl rfl) q,⟨o,k _ _ (.inl rfl) e⟩,st⟩
theorem Jy.lt (x:Jy P w H h)(e:H a=some o):a<h.objs.size:=(x a o e).lt
theorem Jy.fresh (x:Jy P w H h)(e:h.objs.size≤a):H a=none:=by
 cases q:H a with
 |none=>rfl
 |some u=>eC absurd (AL (x.lt q) e) (DL _)
theorem Jy.kept (x:Jy P w H h)(k:∀b u,h.get? b=some u→h'.get? b=some u):Jy P w H h':=fun a o e=>
 (x a o e).stay (fun b u _ q=>k b u q) (fun _ q=>q) fun _ _ q=>q
theorem Jy.laid (x:Jy P w H h)(k:∀b u,h.get? b=some u→h'.get? b=some u)(hp:h.objs.size≤a)(new:Bg P w (upd H a o) h' a o):Jy P w (upd H a o) h':=fun b u e=>by
 have hn:=x.fresh hp
 by_cases hb:b=a
 ·subst hb;rw [Ag] at e;cases e;eC new
 ·rw [Ao hb] at e
  eC (x b u e).stay (fun c v _ q=>k c v q) (fun c q=>by rw [Ao (Bs q hn)];eC q) fun c xs q=>by rw [Ao (Bs q hn)];eC q
end
def Rd (H:Hp)(a:Addr)(u:HO):Prop:=H a=some u∨∃o,H a=some (.frz o u)
theorem Rd.ok {P:Program}{w:World}{H:Hp}{h:Heap}{a:Addr}{u:HO}(r:Rd H a u)(x:Jy P w H h):Bg P w H h a u:=by
 rcases r with r|⟨o,r⟩
 ·eC x a u r
 ·obtain ⟨_,q⟩:=x a _ r
  eC q
def Mut:Option HO→Prop
 |some (.lst _)=>True
 |some (.dK _)=>True
 |some (.dT _)=>True
 |some (.set _ _)=>True
 |some (.ins _ _ _)=>True
 |some (.ext _)=>True
 |_=>False
section
variable {P:Program}{w:World}{H:Hp}{h h':Heap}{x e:Addr}{o':HO}
theorem Jy.write (ok:Jy P w H h)(mu:Mut (H x))(he:e=x∨H e=some (.own x))(k:∀b u,b≠e→h.get? b=some u→h'.get? b=some u)(heo:∃u,h'.get? e=some u)
  (new:Bg P w (upd H x o') h' x o'):Jy P w (upd H x o') h':=fun b u q=>by
 have nown:∀c y,H c=some (.own y)→c≠x:=fun c y r z=>by subst z;rw [r] at mu;eC mu
 have ntup:∀c xs,H c=some (.tup xs)→c≠x:=fun c xs r z=>by subst z;rw [r] at mu;eC mu
 by_cases hb:b=x
 ·subst hb;rw [Ag] at q;cases q;eC new
 ·rw [Ao hb] at q
  by_cases hbe:b=e
  ·have q':H b=some (.own x):=by
    rcases he with z|z
    ·eC absurd (hbe.trans z) hb
    ·rw [hbe];eC z
   rw [q] at q';cases q'
   obtain ⟨v,hv⟩:=heo
   eC ⟨v,by rw [hbe];eC hv⟩
  ·rA (ok b u q).stay (fun c v hc r=>k c v ?_ r) (fun c r=>by rw [Ao (nown c b r)];eC r) fun c xs r=>by rw [Ao (ntup c xs r)];eC r
   rcases hc with rfl|hc
   ·eC hbe
   ·rintro rfl
    rcases he with z|z
    ·eC nown c b hc z
    ·rw [hc] at z;cases z;eC hb rfl
end
structure Un (fs ex:List Addr)(H H':Hp)(h h':Heap):Prop where
 keep:∀b o,h.get? b=some o→H b=none→b∉fs→b∉ex→h'.get? b=some o
 slot:∀b o,h.get? b=some o→H b=none→b∈fs→b∉ex→∃sl,h'.get? b=some { o with slots:=sl }
 free:∀b o,h.get? b=some o→H b=none→b∉ex→H' b=none
 there:∀b o,h.get? b=some o→b∉ex→∃o',h'.get? b=some o'
 tups:∀b xs,H b=some (.tup xs)→H' b=some (.tup xs)
 frzs:∀b o u,H b=some (.frz o u)→H' b=some (.frz o u)
 tbls:∀b ps,H b=some (.tbl ps)→∃more,H' b=some (.tbl (ps++more))
section
variable {fs fs' ex ex':List Addr}{H H1 H2:Hp}{h h1 h2 h':Heap}{a x e:Addr}{o:HO}
theorem Un.any (u:Un fs ex H H1 h h1){b:Addr}{ob:Obj}(q:h.get? b=some ob)(n:H b=none)(hx:b∉ex):∃sl,h1.get? b=some { ob with slots:=sl }:=by
 by_cases hb:b∈fs
 ·eC u.slot b ob q n hb hx
 ·eC ⟨ob.slots,u.keep b ob q n hb hx⟩
theorem Un.kept (k:∀b u,h.get? b=some u→h'.get? b=some u):Un fs ex H H h h' :=
 ⟨fun b ob q _ _ _=>k b ob q,fun b ob q _ _ _=>⟨ob.slots,k b ob q⟩,fun _ _ _ n _=>n,fun b ob q _=>⟨ob,k b ob q⟩,fun _ _ q=>q,fun _ _ _ q=>q,fun _ ps q=>⟨#[],by rw [q];simp⟩⟩
theorem Un.refl:Un fs ex H H h h:=Un.kept fun _ _ q=>q
theorem Un.laid (k:∀b u,h.get? b=some u→h'.get? b=some u)(hp:h.objs.size≤a)(hn:H a=none):Un fs ex H (upd H a o) h h' where
 keep:=fun b u q _ _ _=>k b u q
 slot:=fun b u q _ _ _=>⟨u.slots,k b u q⟩
 free:=fun b u q n _=>by rw [Ao (AS (AL (AH q) hp))];eC n
 there:=fun b u q _=>⟨u,k b u q⟩
 tups:=fun b xs q=>by rw [Ao (Bs q hn)];eC q
 frzs:=fun b u xs q=>by rw [Ao (Bs q hn)];eC q
 tbls:=fun b ps q=>⟨#[],by rw [Ao (Bs q hn),q];simp⟩
theorem Un.write (mu:Mut (H x))(he:e=x∨H e=some (.own x))(k:∀b u,b≠e→h.get? b=some u→h'.get? b=some u)(heo:∃u,h'.get? e=some u):Un fs ex H (upd H x o) h h':=by
 have hx:∀b,H b=none→b≠x:=fun b n z=>by subst z;rw [n] at mu;eC mu
 have hb:∀b,H b=none→b≠e:=fun b n z=>by
  subst z
  rcases he with r|r
  ·eC hx b n r
  ·rw [n] at r;cases r
 have hm:∀b u,H b=some u→¬Mut (some u)→b≠x:=fun b u q nm z=>by subst z;rw [q] at mu;eC nm mu
 rA ⟨fun b u q n _ _=>k b u (hb b n) q,fun b u q n _ _=>⟨u.slots,k b u (hb b n) q⟩,fun b u q n _=>by rw [Ao (hx b n)];eC n,fun b u q _=>?_,
  fun b xs q=>by rw [Ao (hm b _ q fun z=>z)];eC q,fun b u xs q=>by rw [Ao (hm b _ q fun z=>z)];eC q,fun b ps q=>⟨#[],by rw [Ao (hm b _ q fun z=>z),q];simp⟩⟩
 by_cases hbe:b=e
 ·subst hbe;eC heo
 ·eC ⟨u,k b u hbe q⟩
end
def trk (h:Heap)(H:Hp):List Addr:=(List.range h.objs.size).filter fun a=>(H a).isSome
def U6 (h:Heap)(H:Hp):Heap:=PySem.W.hideAll h (trk h H)
theorem Adb (h:Heap)(H:Hp):(U6 h H).objs.size=h.objs.size:=PySem.W.hideAll_size _ _
theorem Pe {h:Heap}{H:Hp}{b:Addr}{o:Obj}(e:h.get? b=some o)(n:H b=none):(U6 h H).get? b=some o:=
 PySem.W.hideAll_get _ e fun hm=>by
  have q:(H b).isSome=true:=(FG.mp hm).2
  rw [n] at q;simp at q
theorem Aji {h:Heap}{H:Hp}{b:Addr}{o:Obj}(e:(U6 h H).get? b=some o):h.get? b=some o∧H b=none:=by
 have e':h.get? b=some o:=PySem.W.of_hideAll (trk h H) e
 rA ⟨e',?_⟩
 cases q:H b with
 |none=>rfl
 |some x=>
  have hm:b∈trk h H:=FG.mpr ⟨BZ.mpr (AH e'),by simp [q]⟩
  have z:(U6 h H).get? b=none:=PySem.W.hideAll_none (trk h H) hm
  rw [z] at e;cases e
def Ai1 (g h:Heap)(L:Addr):List (Addr×Obj):=(List.range h.objs.size).filterMap fun a=>if a=L∨(g.get? a).isSome=true then none else (h.get? a).map fun o=>(a,o)
def Es (g h:Heap)(L d:Addr):List (Addr×Obj):=(Ai1 g h L).filter fun p=>decide (p.1≠d)
end L2
namespace L2
open PySem PySem.Spec PyProof.Rows
structure Mod (K:KKf)(mg:Str→Option Value)(base:Heap):Prop where
 kin:K.In base
 glob:base.Ns mainGlobals mg
 blt:∃mb,base.Ns builtinsNs mb∧∀x:Str,x≠"__name__"→mb x=bootBuiltins x
 nolimit:base.NoLimit
/-- the context: a def's body (or a comprehension's block) running. base: fixed through the whole law;s₀,H₀: the entry;outer: the frames whose slots others may change (a def's callers);stack: all frames that run;
   ex: iterators that were made ahead of the entry and are walked here (a comprehension's);fn: the names whose cells were made at the entry (a def: all;a comprehension's block: its own);calm: not within an except suite;pn: pins that every state bears;xe: what is wanted of an exception that leaves the code -/
structure Cx where
 prog:Program
 w:World
 K:KKf
 mg:Str→Option Value
 base:Heap
 A:Around
 N:List Str
 s₀:Shared
 H₀:Hp
 env:Env
 outer:List Env
 stack:List Env
 ex:List Addr
 fn:Str→Bool
 calm:Bool
 pn:List (Addr×Obj)
 xe:Value→Shared→Prop
def K5 (l:List Env):List Addr:=l.filterMap (·.frame)
abbrev Cx.fs (X:Cx):List Addr:=K5 X.outer
def Vis (sc:Scope)(x:Str):Prop:=sc.names.lookup x=some .local∨sc.names.lookup x=some .cell∨sc.names.lookup x=some .free
def Loc (sc:Scope)(x:Str):Prop:=sc.names.lookup x=some .local∨sc.names.lookup x=some .cell
def Ak6 (env:Env)(h:Heap)(m:Str→Option Value)(x:Str)(u:Value):Prop:=
 (env.kindOf x=some .local∧m x=some u)∨((env.kindOf x=some .cell∨env.kindOf x=some .free)∧∃c,env.cells.lookup x=some c∧h.IsCell c (some u))
structure Cx.Ok (X:Cx):Prop where
 mod:Mod X.K X.mg X.base
 kind:X.env.scope.kind=.function
 glob:X.env.globals=mainGlobals
 blt:X.env.builtins=builtinsNs
 above:X.s₀.heap.objs.size≤X.env.locals
 inj:∀x y c,X.env.cells.lookup x=some c→X.env.cells.lookup y=some c→x=y
 has:∀x,(X.env.kindOf x=some .cell∨X.env.kindOf x=some .free)→∃c,X.env.cells.lookup x=some c
 cab:∀x c,X.fn x=true→X.env.cells.lookup x=some c→X.s₀.heap.objs.size≤c
 hd:X.calm=true→X.A.handled=none
 frames:X.A.frames=some X.stack
 stk:X.stack=X.outer∨(X.stack=X.env::X.outer∧X.env.frame=some X.env.locals)
 exf:∀b∈X.ex,b≠X.env.locals∧∀x c,X.env.cells.lookup x=some c→c≠b
 bs:∀b o,X.base.get? b=some o→X.s₀.heap.get? b=some o∧X.H₀ b=none
 bsz:X.base.objs.size≤X.s₀.heap.objs.size
 noex:∀b o,X.base.get? b=some o→b∉X.ex
 exfs:∀b∈X.ex,b∉X.fs
 funs:X.s₀.heap.FunFrames X.base X.outer
 frf:∀b∈X.fs,X.H₀ b=none
structure Ar (X:Cx)(pins:List (Addr×Obj))(σ:List (Option V))(H:Hp)(s:Shared):Prop where
 ok:X.Ok
 os:s.os=X.s₀.os
 bare:AllBare s.gens
 base:Un X.fs X.ex X.H₀ H X.s₀.heap s.heap
 loc:∃m,s.heap.Ns X.env.locals m∧∀(i:Nat) (x:Str) (v:V),X.N[i]? =some x→σ[i]? =some (some v)→Vis X.env.scope x→∃u,RelV v u∧Ak6 X.env s.heap m x u
 cell:∀x c,X.env.cells.lookup x=some c→∃v,s.heap.IsCell c v
 free:H X.env.locals=none
 freeC:∀x c,X.env.cells.lookup x=some c→H c=none
 pin:∀p∈X.pn++pins,s.heap.get? p.1=some p.2∧H p.1=none∧p.1≠X.env.locals∧p.1∉X.fs∧∀v,p.2.data≠.cell v
 hok:Jy X.prog X.w H s.heap
 len:σ.length=X.N.length
section
variable {X:Cx}{pins:List (Addr×Obj)}{σ:List (Option V)}{H H':Hp}{s:Shared}{h':Heap}
theorem Cx.Ok.nofr (ok:X.Ok){b:Addr}{o:Obj}(e:X.base.get? b=some o):b∉X.fs:=fun hb=>by
 have:=(ok.funs.mem hb).1
 rw [e] at this;cases this
theorem Ar.bs (I:Ar X pins σ H s):∀b o,X.base.get? b=some o→s.heap.get? b=some o∧H b=none:=fun b o e=>
 ⟨I.base.keep b o (I.ok.bs b o e).1 (I.ok.bs b o e).2 (I.ok.nofr e) (I.ok.noex b o e),I.base.free b o (I.ok.bs b o e).1 (I.ok.bs b o e).2 (I.ok.noex b o e)⟩
theorem Ar.bk (I:Ar X pins σ H s):∀b o,X.base.get? b=some o→s.heap.get? b=some o:=fun b o e=>(I.bs b o e).1
theorem Ar.mod (I:Ar X pins σ H s):Mod X.K X.mg X.base:=I.ok.mod
theorem Ar.kIn (I:Ar X pins σ H s):X.K.In s.heap:=I.ok.mod.kin.keeps I.bk
theorem Ar.nolimit (I:Ar X pins σ H s):s.heap.NoLimit:=I.ok.mod.nolimit.keeps I.bk
theorem Ar.lt (I:Ar X pins σ H s):X.env.locals<s.heap.objs.size:=let ⟨_,hn,_⟩:=I.loc;hn.lt
theorem Ar.sz (I:Ar X pins σ H s):X.s₀.heap.objs.size≤s.heap.objs.size:=AO I.ok.above (DK I.lt)
theorem Ar.nofs (I:Ar X pins σ H s){a:Addr}(h:s.heap.objs.size≤a):a∉X.fs:=fun hb=>by
 obtain ⟨_,o,ho,_⟩:=I.ok.funs.mem hb
 eC absurd (AL (AH ho) (AO I.sz h)) (DL _)
theorem Ar.cne (I:Ar X pins σ H s):∀x c,X.env.cells.lookup x=some c→c≠X.env.locals:=fun x c e z=>by
 obtain ⟨v,o,ho,hd⟩:=I.cell x c e
 obtain ⟨m,⟨o',es,ep,ho',hd',_⟩,_⟩:=I.loc
 rw [z,ho'] at ho;cases ho;rw [hd'] at hd;cases hd
theorem Ar.funs (I:Ar X pins σ H s):s.heap.FunFrames X.base X.outer:=by
 have all:∀(l:List Env),(∀b∈K5 l,b∈X.fs)→X.s₀.heap.FunFrames X.base l→s.heap.FunFrames X.base l:=by
  intro l
  induction l with
  |nil=>intro _ _;trivial
  |cons env r ih=>
   intro hs hl
   obtain ⟨hk,⟨L,o,hf,hn,ho,hd⟩,hr⟩:=hl
   have hL:L∈X.fs:=hs L (by unfold K5;rw [DT,hf];eC AK)
   obtain ⟨sl,e⟩:=I.base.slot L o ho (I.ok.frf L hL) hL fun z=>I.ok.exfs L z hL
   eC ⟨hk,⟨L,_,hf,hn,e,hd⟩,ih (fun b hb=>hs b (by unfold K5;rw [DT,hf];eC AJ _ hb)) hr⟩
 eC all X.outer (fun _ hb=>hb) I.ok.funs
theorem Ar.stack (I:Ar X pins σ H s):s.heap.FunFrames X.base X.stack:=by
 rcases I.ok.stk with e|⟨e,hf⟩
 ·rw [e];eC I.funs
 ·rw [e]
  obtain ⟨m,hn,_⟩:=I.loc
  rA .cons (by rw [I.ok.kind];decide) hf hn ?_ I.funs
  eC Heap.get?_none_of_le (AO I.ok.bsz I.ok.above)
theorem Ar.stkSub (I:Ar X pins σ H s):∀b∈K5 X.stack,b∈X.env.locals::X.fs:=fun b hb=>by
 rcases I.ok.stk with e|⟨e,hf⟩
 ·rw [e] at hb;eC AJ _ hb
 ·rw [e] at hb
  unfold K5 at hb
  rw [DT,hf] at hb
  eC hb
theorem Ar.stkFree (I:Ar X pins σ H s):∀b∈K5 X.stack,H b=none:=fun b hb=>by
 rcases AU.mp (I.stkSub b hb) with e|hb
 ·rw [e];eC I.free
 ·obtain ⟨_,o,ho,_⟩:=I.ok.funs.mem hb
  eC I.base.free b o ho (I.ok.frf b hb) fun z=>I.ok.exfs b z hb
theorem Ar.step {g':Array GenState}{t':Nat}{d':Drawn}{ch:List Addr}(I:Ar X pins σ H s)
  (hch:∀b∈ch,(b∈X.ex∨X.s₀.heap.objs.size≤b)∧b≠X.env.locals∧(∀x c,X.env.cells.lookup x=some c→c≠b)∧∀p∈X.pn++pins,p.1≠b)
  (keep:∀b o,b≠X.env.locals→b∉X.fs→b∉ch→s.heap.get? b=some o→H b=none→h'.get? b=some o)
  (slot:∀b o,b≠X.env.locals→b∈X.fs→b∉ch→s.heap.get? b=some o→H b=none→∃sl,h'.get? b=some { o with slots:=sl }) (free:∀b o,b∉ch→s.heap.get? b=some o→H b=none→H' b=none)
  (there:∀b o,b∉ch→s.heap.get? b=some o→∃o',h'.get? b=some o')
  (tups:∀b xs,H b=some (.tup xs)→H' b=some (.tup xs)) (frzs:∀b o u,H b=some (.frz o u)→H' b=some (.frz o u)) (tbls:∀b ps,H b=some (.tbl ps)→∃more,H' b=some (.tbl (ps++more)))
  (ns:∀m,s.heap.Ns X.env.locals m→h'.Ns X.env.locals m) (hok:Jy X.prog X.w H' h') (hg:AllBare g') :
  Ar X pins σ H' { s with heap:=h',gens:=g',drawn:=d',toks:=t' }:=by
 have neL:∀b o,X.s₀.heap.get? b=some o→b≠X.env.locals:=fun b o e=>AS (AL (AH e) I.ok.above)
 have neC:∀b o,X.s₀.heap.get? b=some o→b∉X.ex→b∉ch:=fun b o e hx hb=>by
  rcases (hch b hb).1 with z|z
  ·eC hx z
  ·eC absurd (AL (AH e) z) (DL _)
 have cellK:∀x c,X.env.cells.lookup x=some c→∀v,s.heap.IsCell c v→h'.IsCell c v:=fun x c e v ⟨o,ho,hd⟩=>by
  have nch:c∉ch:=fun z=>(hch c z).2.2.1 x c e rfl
  by_cases hc:c∈X.fs
  ·obtain ⟨sl,q⟩:=slot c o (I.cne x c e) hc nch ho (I.freeC x c e)
   eC ⟨_,q,hd⟩
  ·eC ⟨o,keep c o (I.cne x c e) hc nch ho (I.freeC x c e),hd⟩
 rA ⟨I.ok,I.os,hg,⟨fun b o e n hb hx=>?_,fun b o e n hb hx=>?_,fun b o e n hx=>?_,fun b o e hx=>?_,fun b xs e=>tups b xs (I.base.tups b xs e),fun b o xs e=>frzs b o xs (I.base.frzs b o xs e),fun b ps e=>?_⟩,?_,fun x c e=>?_,?_,fun x c e=>?_,fun p hp=>?_,hok,I.len⟩
 ·eC keep b o (neL b o e) hb (neC b o e hx) (I.base.keep b o e n hb hx) (I.base.free b o e n hx)
 ·obtain ⟨sl,e1⟩:=I.base.slot b o e n hb hx
  obtain ⟨sl',e2⟩:=slot b _ (neL b o e) hb (neC b o e hx) e1 (I.base.free b o e n hx)
  eC ⟨sl',e2⟩
 ·obtain ⟨o',e1⟩:=I.base.there b o e hx
  eC free b o' (neC b o e hx) e1 (I.base.free b o e n hx)
 ·obtain ⟨o',e1⟩:=I.base.there b o e hx
  eC there b o' (neC b o e hx) e1
 ·obtain ⟨m1,e1⟩:=I.base.tbls b ps e
  obtain ⟨m2,e2⟩:=tbls b _ e1
  eC ⟨m1++m2,by rw [e2,Array.append_assoc]⟩
 ·obtain ⟨m,hn,hl⟩:=I.loc
  rA ⟨m,ns m hn,fun i x v e1 e2 e3=>?_⟩
  obtain ⟨u,r,l⟩:=hl i x v e1 e2 e3
  rA ⟨u,r,?_⟩
  rcases l with l|⟨k,c,e,z⟩
  ·eC .inl l
  ·eC .inr ⟨k,c,e,cellK x c e _ z⟩
 ·obtain ⟨v,z⟩:=I.cell x c e
  eC ⟨v,cellK x c e v z⟩
 ·obtain ⟨m,⟨o,_,_,ho,_⟩,_⟩:=I.loc
  eC free _ o (fun z=>(hch _ z).2.1 rfl) ho I.free
 ·obtain ⟨v,o,ho,hd⟩:=I.cell x c e
  eC free c o (fun z=>(hch c z).2.2.1 x c e rfl) ho (I.freeC x c e)
 ·obtain ⟨e,n,ne,nf,d⟩:=I.pin p hp
  have nch:p.1∉ch:=fun z=>(hch p.1 z).2.2.2 p hp rfl
  eC ⟨keep p.1 p.2 ne nf nch e n,free p.1 p.2 nch e n,ne,nf,d⟩
theorem Ar.un {t':Nat}(I:Ar X pins σ H s)(u:Un X.fs [] H H' s.heap h')(hok:Jy X.prog X.w H' h'):Ar X pins σ H' { s with heap:=h',toks:=t' }:=by
 obtain ⟨m,⟨o,es,ep,ho,r⟩,_⟩:=id I.loc
 obtain ⟨sl,hL⟩:=u.any ho I.free (by simp)
 eC I.step (g':=s.gens) (d':=s.drawn) (ch:=[]) (fun _ z=>nomatch z) (fun b o _ hb _ e n=>u.keep b o e n hb (by simp)) (fun b o _ hb _ e n=>u.slot b o e n hb (by simp)) (fun b o _ e n=>u.free b o e n (by simp)) (fun b o _ e=>u.there b o e (by simp)) u.tups u.frzs u.tbls (fun m' hm=>by
  obtain ⟨o',es',ep',ho',r'⟩:=hm
  rw [ho] at ho';cases ho'
  eC ⟨_,es',ep',hL,r'⟩) hok I.bare
theorem Ar.call {g':Array GenState}{t':Nat}{d':Drawn}{ch:List Addr}(I:Ar X pins σ H s)(u:Un (K5 X.stack) ch H H' s.heap h')(hok:Jy X.prog X.w H' h')(hg:AllBare g')
  (hch:∀b∈ch,(b∈X.ex∨X.s₀.heap.objs.size≤b)∧b≠X.env.locals∧(∀x c,X.env.cells.lookup x=some c→c≠b)∧∀p∈X.pn++pins,p.1≠b) :
  Ar X pins σ H' { s with heap:=h',gens:=g',drawn:=d',toks:=t' }:=by
 obtain ⟨m,⟨o,es,ep,ho,r⟩,_⟩:=id I.loc
 obtain ⟨sl,hL⟩:=u.any ho I.free fun z=>(hch _ z).2.1 rfl
 eC I.step (ch:=ch) hch (fun b o hL hb hc e n=>u.keep b o e n (fun z=>(AU.mp (I.stkSub b z)).elim hL hb) hc) (fun b o _ _ hc e n=>u.any e n hc) (fun b o hc e n=>u.free b o e n hc) (fun b o hc e=>u.there b o e hc) u.tups u.frzs u.tbls (fun m' hm=>by
  obtain ⟨o',es',ep',ho',r'⟩:=hm
  rw [ho] at ho';cases ho'
  eC ⟨_,es',ep',hL,r'⟩) hok hg
theorem Ar.turned {t':Nat}{it:Addr}(I:Ar X pins σ H s)(k:∀b o,b≠it→s.heap.get? b=some o→h'.get? b=some o)(hn:H it=none)(hL:it≠X.env.locals)
  (h1:it∈X.ex∨X.s₀.heap.objs.size≤it) (h2:∀x c,X.env.cells.lookup x=some c→c≠it) (h3:∀p∈X.pn++pins,p.1≠it):Ar X pins σ H { s with heap:=h',toks:=t' }:=by
 have nit:∀b u,H b=some u→b≠it:=fun b u e z=>by rw [z,hn] at e;cases e
 rA I.step (g':=s.gens) (d':=s.drawn) (ch:=[it]) (fun b hb=>?_) (fun b o _ _ hc e _=>k b o (fun z=>hc (by simp [z])) e) (fun b o _ _ hc e _=>⟨o.slots,k b o (fun z=>hc (by simp [z])) e⟩) (fun _ _ _ _ n=>n)
  (fun b o hc e=>⟨o,k b o (fun z=>hc (by simp [z])) e⟩) (fun _ _ e=>e) (fun _ _ _ e=>e) (fun b ps e=>⟨#[],by rw [e];simp⟩) (fun m hm=>?_) (fun b u e=>?_) I.bare
 ·have e:b=it:=by simpa using hb
  subst e
  eC ⟨h1,hL,h2,h3⟩
 ·obtain ⟨o,es,ep,ho,r⟩:=hm
  eC ⟨o,es,ep,k _ o (CM hL) ho,r⟩
 ·rA (I.hok b u e).stay (fun c v hc q=>k c v ?_ q) (fun _ q=>q) fun _ _ q=>q
  rcases hc with z|z
  ·rw [z];eC nit b u e
  ·eC nit c _ z
theorem Ar.tok (I:Ar X pins σ H s)(t:Nat):Ar X pins σ H { s with toks:=t }:=I.un (h':=s.heap) (t':=t) Un.refl I.hok
theorem Ar.kept {t':Nat}(I:Ar X pins σ H s)(k:∀b u,s.heap.get? b=some u→h'.get? b=some u):Ar X pins σ H { s with heap:=h',toks:=t' }:=I.un (Un.kept k) (I.hok.kept k)
theorem Ar.laid {a:Addr}{o:HO}{t':Nat}(I:Ar X pins σ H s)(k:∀b u,s.heap.get? b=some u→h'.get? b=some u)(hp:s.heap.objs.size≤a)(new:Bg X.prog X.w (upd H a o) h' a o) :
  Ar X pins σ (upd H a o) { s with heap:=h',toks:=t' }:=I.un (Un.laid k hp (I.hok.fresh hp)) (I.hok.laid k hp new)
theorem Ar.write {x e:Addr}{o:HO}{t':Nat}(I:Ar X pins σ H s)(mu:Mut (H x))(he:e=x∨H e=some (.own x))(k:∀b u,b≠e→s.heap.get? b=some u→h'.get? b=some u)(heo:∃u,h'.get? e=some u)
  (new:Bg X.prog X.w (upd H x o) h' x o):Ar X pins σ (upd H x o) { s with heap:=h',toks:=t' }:=I.un (Un.write mu he k heo) (I.hok.write mu he k heo new)
theorem Ar.weak {σ':List (Option V)}(I:Ar X pins σ H s)(hl:σ'.length=σ.length)(w:∀(i:Nat) v,σ'[i]? =some (some v)→σ[i]? =some (some v)):Ar X pins σ' H s:=
 ⟨I.ok,I.os,I.bare,I.base,let ⟨m,hn,hl'⟩:=I.loc;⟨m,hn,fun i x v e1 e2 e3=>hl' i x v e1 (w i v e2) e3⟩,I.cell,I.free,I.freeC,I.pin,I.hok,hl.trans I.len⟩
theorem Ar.pins_of {pins':List (Addr×Obj)}(I:Ar X pins σ H s)(h:∀p∈pins',s.heap.get? p.1=some p.2∧H p.1=none∧p.1≠X.env.locals∧p.1∉X.fs∧∀v,p.2.data≠.cell v):Ar X pins' σ H s:=
 ⟨I.ok,I.os,I.bare,I.base,I.loc,I.cell,I.free,I.freeC,fun p hp=>(BV.mp hp).elim (fun z=>I.pin p (EL _ z)) (h p),I.hok,I.len⟩
theorem Wj {N:List Str}(hN:N.Nodup){i j:Nat}{x:Str}(a:N[i]? =some x)(b:N[j]? =some x):i=j:=by
 obtain ⟨h1,e1⟩:=BI.mp a
 obtain ⟨h2,e2⟩:=BI.mp b
 eC (List.getElem_inj hN).mp (e1.trans e2.symm)
theorem Rz {M:Model}{A:Around}{E:Value→Shared→Prop}{i:Nat}{x:Str}{v:V}{u:Value}{Q:Unit→Shared→Prop}(I:Ar X pins σ H s)(hN:X.N.Nodup)(hi:X.N[i]? =some x)(hx:Loc X.env.scope x)(r:RelV v u)
  (h:∀s',Ar X pins (σ.set i (some v)) H s'→(∃a,Heap.SameBut a s.heap s'.heap∧(a=X.env.locals∨X.env.cells.lookup x=some a))→Q () s') (hf:X.fn x=true∨X.env.scope.names.lookup x=some .local:=by first|eC .inl rfl|eC .inr rfl|assumption):wpAny M A (storeName X.env x u) Q E s:=by
 obtain ⟨m,hn,hl⟩:=id I.loc
 have hcls:(X.env.scope.kind==.class||(X.env.scope.kind==.module&&X.env.locals != X.env.globals))=false:=by rw [I.ok.kind];rfl
 have hiσ:i<σ.length:=by rw [I.len];eC (BI.mp hi).1
 have cne:=I.cne
 have tracked:∀{a:Addr} {h':Heap},(∃o,s.heap.get? a=some o∧H a=none)→Heap.SameBut a s.heap h'→Jy X.prog X.w H h':=fun {a h'} ha hs b ob e=>by
  obtain ⟨_,_,hfree⟩:=ha
  rA (I.hok b ob e).stay (fun c w' hc q=>(hs.2 c ?_).trans q) (fun _ q=>q) fun _ _ q=>q
  rintro rfl
  rcases hc with rfl|hc
  ·rw [hfree] at e;cases e
  ·rw [hfree] at hc;cases hc
 rcases hx with hk|hk
 ·rA wpAny_storeName_local hk hn (fun h' hn' hs=>?_) hcls
  obtain ⟨oL,_,_,hoL,_⟩:=id hn
  rA h _ ⟨I.ok,I.os,I.bare,⟨fun b o e n hb hx=>?_,fun b o e n hb hx=>?_,I.base.free,fun b o e hx=>?_,I.base.tups,I.base.frzs,I.base.tbls⟩,⟨_,hn',fun j y v' e1 e2 e3=>?_⟩,fun y c e=>?_,I.free,I.freeC,fun p hp=>?_,tracked ⟨oL,hoL,I.free⟩ hs,by simpa using I.len⟩ ⟨_,hs,.inl rfl⟩
  ·eC (hs.2 b (AS (AL (AH e) I.ok.above))).trans (I.base.keep b o e n hb hx)
  ·obtain ⟨sl,e1⟩:=I.base.slot b o e n hb hx
   eC ⟨sl,(hs.2 b (AS (AL (AH e) I.ok.above))).trans e1⟩
  ·obtain ⟨o',e1⟩:=I.base.there b o e hx
   eC ⟨o',(hs.2 b (AS (AL (AH e) I.ok.above))).trans e1⟩
  ·by_cases hj:j=i
   ·subst hj
    rw [hi] at e1;cases e1
    rw [List.getElem?_set_self hiσ] at e2
    cases e2
    eC ⟨u,r,.inl ⟨hk,by simp⟩⟩
   ·rw [List.getElem?_set_ne (CM hj)] at e2
    obtain ⟨u',r',q⟩:=hl j y v' e1 e2 e3
    rA ⟨u',r',?_⟩
    rcases q with ⟨k,e⟩|⟨k,c,e,z⟩
    ·rA .inl ⟨k,?_⟩
     have:y≠x:=fun e=>hj (Wj hN e1 (e▸hi))
     simp [this,e]
    ·eC .inr ⟨k,c,e,z.sameBut hs (cne y c e)⟩
  ·obtain ⟨w',z⟩:=I.cell y c e
   eC ⟨w',z.sameBut hs (cne y c e)⟩
  ·obtain ⟨e,n,ne,nf,d⟩:=I.pin p hp
   eC ⟨(hs.2 p.1 ne).trans e,n,ne,nf,d⟩
 ·have hfn:X.fn x=true:=by
   rcases hf with z|z
   ·eC z
   ·rw [z] at hk;cases hk
  obtain ⟨c,hc⟩:=I.ok.has x (.inl hk)
  obtain ⟨w',z⟩:=I.cell x c hc
  rA wpAny_storeName_cell I.ok.kind hk hc z (fun h' hc' hs=>?_)
  obtain ⟨oc,hoc,hocd⟩:=id z
  rA h { s with heap:=h' } ⟨I.ok,I.os,I.bare,⟨fun b o e n hb hx=>?_,fun b o e n hb hx=>?_,I.base.free,fun b o e hx=>?_,I.base.tups,I.base.frzs,I.base.tbls⟩,⟨m,hn.sameBut hs (CM (cne x c hc)),fun j y v' e1 e2 e3=>?_⟩,fun y c' e=>?_,I.free,I.freeC,fun p hp=>?_,tracked ⟨oc,hoc,I.freeC x c hc⟩ hs,by simpa using I.len⟩ ⟨c,hs,.inr hc⟩
  ·eC (hs.2 b (AS (AL (AH e) (I.ok.cab x c hfn hc)))).trans (I.base.keep b o e n hb hx)
  ·obtain ⟨sl,e1⟩:=I.base.slot b o e n hb hx
   eC ⟨sl,(hs.2 b (AS (AL (AH e) (I.ok.cab x c hfn hc)))).trans e1⟩
  ·obtain ⟨o',e1⟩:=I.base.there b o e hx
   eC ⟨o',(hs.2 b (AS (AL (AH e) (I.ok.cab x c hfn hc)))).trans e1⟩
  ·by_cases hj:j=i
   ·subst hj
    rw [hi] at e1;cases e1
    rw [List.getElem?_set_self hiσ] at e2
    cases e2
    eC ⟨u,r,.inr ⟨.inl hk,c,hc,hc'⟩⟩
   ·rw [List.getElem?_set_ne (CM hj)] at e2
    obtain ⟨u',r',q⟩:=hl j y v' e1 e2 e3
    rA ⟨u',r',?_⟩
    rcases q with q|⟨k,c',e,z'⟩
    ·eC .inl q
    ·rA .inr ⟨k,c',e,z'.sameBut hs ?_⟩
     rintro rfl
     eC hj (Wj hN e1 (I.ok.inj _ _ _ e hc▸hi))
  ·by_cases hcc:c'=c
   ·subst hcc;eC ⟨_,hc'⟩
   ·obtain ⟨w2,z2⟩:=I.cell y c' e
    eC ⟨w2,z2.sameBut hs hcc⟩
  ·obtain ⟨e,n,ne,nf,d⟩:=I.pin p hp
   rA ⟨(hs.2 p.1 ?_).trans e,n,ne,nf,d⟩
   intro q
   rw [q,hoc] at e
   have q':oc=p.2:=Option.some.inj e
   eC d w' (by rw [←q'];eC hocd)
theorem Vx {M:Model}{A:Around}{E:Value→Shared→Prop}{i:Nat}{x:Str}{v:V}{u:Value}{Q:Unit→Shared→Prop}(I:Ar X pins σ H s)(hN:X.N.Nodup)(hi:X.N[i]? =some x)(hx:Loc X.env.scope x)(r:RelV v u)
  (h:∀s',Ar X pins (σ.set i (some v)) H s'→Q () s') (hf:X.fn x=true∨X.env.scope.names.lookup x=some .local:=by first|eC .inl rfl|eC .inr rfl|assumption):wpAny M A (storeName X.env x u) Q E s:=
 Rz I hN hi hx r (fun s' I' _=>h s' I') hf
theorem Ar.call' {s':Shared}{ch:List Addr}(I:Ar X pins σ H s)(ho:s'.os=s.os)(u:Un (K5 X.stack) ch H H' s.heap s'.heap)(hok:Jy X.prog X.w H' s'.heap)(hg:AllBare s'.gens)
  (hch:∀b∈ch,(b∈X.ex∨X.s₀.heap.objs.size≤b)∧b≠X.env.locals∧(∀x c,X.env.cells.lookup x=some c→c≠b)∧∀p∈X.pn++pins,p.1≠b):Ar X pins σ H' s':=by
 obtain ⟨h',g',d',t',o'⟩:=s'
 have e:o'=s.os:=ho
 subst e
 eC I.call (g':=g') (t':=t') (d':=d') u hok hg hch
end
abbrev XK:=Value→Option Addr→Hp→Prop
abbrev St:=List (Option V)
abbrev VK:=V→Hp→Prop
abbrev TE:=St→Hp→VK→Prop
abbrev TT:=St→Hp→(Bool→Hp→Prop)→Prop
abbrev TA:=St→Hp→(List V→Hp→Prop)→Prop
structure Og where
 nx:St→Hp→Prop
 rt:VK
 bk:St→Hp→Prop:=fun _ _=>False
 ct:St→Hp→Prop:=fun _ _=>False
abbrev TS:=Og→St→Hp→Prop
def EP (X:Cx)(pins:List (Addr×Obj))(σ:St)(Q:VK)(u:Value)(s':Shared):Prop:=∃v H',Ar X pins σ H' s'∧RelV v u∧Q v H'
def TP (X:Cx)(pins:List (Addr×Obj))(σ:St)(Q:Bool→Hp→Prop)(b:Bool)(s':Shared):Prop:=∃H',Ar X pins σ H' s'∧Q b H'
def AP (X:Cx)(pins:List (Addr×Obj))(σ:St)(Q:List V→Hp→Prop)(us:List Value)(s':Shared):Prop:=∃vs H',Ar X pins σ H' s'∧A7 vs us∧Q vs H'
def SP (X:Cx)(pins:List (Addr×Obj))(D:Og)(f:Flow)(s':Shared):Prop:=
 match f with
 |.next=>∃σ' H',Ar X pins σ' H' s'∧D.nx σ' H'
 |.brk=>∃σ' H',Ar X pins σ' H' s'∧D.bk σ' H'
 |.cont=>∃σ' H',Ar X pins σ' H' s'∧D.ct σ' H'
 |.ret u=>∃v σ' H',Ar X pins σ' H' s'∧RelV v u∧D.rt v H'
def PE (X:Cx)(e:Expr)(t:TE):Prop:=
 ∀(pins:List (Addr×Obj)) (s:Shared) (σ:St) (H:Hp) (Q:VK),Ar X pins σ H s→t σ H Q→wpAny (model X.prog X.w) X.A (eval e X.env) (EP X pins σ Q) X.xe s
def PT (X:Cx)(e:Expr)(t:TT):Prop:=
 ∀(pins:List (Addr×Obj)) (s:Shared) (σ:St) (H:Hp) (Q:Bool→Hp→Prop),Ar X pins σ H s→t σ H Q→wpAny (model X.prog X.w) X.A (isTrue e X.env (eval e X.env)) (TP X pins σ Q) X.xe s
def PW (X:Cx)(e:Expr)(t:TT):Prop:=
 ∀(whole:Sem Value) (pins:List (Addr×Obj)) (s:Shared) (σ:St) (H:Hp) (Q:Bool→Hp→Prop),Ar X pins σ H s→t σ H Q→wpAny (model X.prog X.w) X.A (isTrue e X.env whole) (TP X pins σ Q) X.xe s
theorem PW.pt {X:Cx}{e:Expr}{t:TT}(h:PW X e t):PT X e t:=h _
def PA (X:Cx)(es:List Expr)(t:TA):Prop:=
 ∀(pos:Pos) (pins:List (Addr×Obj)) (s:Shared) (σ:St) (H:Hp) (Q:List V→Hp→Prop),Ar X pins σ H s→t σ H Q→wpAny (model X.prog X.w) X.A (spliced (backTo pos (starEach es X.env))) (AP X pins σ Q) X.xe s
def PS (X:Cx)(st:Stmt)(t:TS):Prop:=
 ∀(pins:List (Addr×Obj)) (s:Shared) (σ:St) (H:Hp) (D:Og),Ar X pins σ H s→t D σ H→wpAny (model X.prog X.w) X.A (exec st X.env) (SP X pins D) X.xe s
def Ny (X:Cx)(st:List Stmt)(t:TS):Prop:=
 ∀(pins:List (Addr×Obj)) (s:Shared) (σ:St) (H:Hp) (D:Og),Ar X pins σ H s→t D σ H→wpAny (model X.prog X.w) X.A (execs st X.env) (SP X pins D) X.xe s
theorem Bi {α:Type}{t:Sem α}{Q Q':α→Shared→Prop}{M:Model}{A:Around}{E:Value→Shared→Prop}{s:Shared}(h:wpAny M A t Q E s)(hQ:∀a s,Q a s→Q' a s):wpAny M A t Q' E s:=BP h hQ fun _ _ x=>x
end L2
namespace L2
open PySem PySem.Spec PyProof.Rows
section
variable {X:Cx}
def Amx (i:Nat):TE:=fun σ H Q=>∃v,σ[i]? =some (some v)∧Q v H
def tC (v:V):TE:=fun _ H Q=>Q v H
theorem Akl {i:Nat}{x:Str}{pos:Pos}(hN:X.N[i]? =some x)(hv:Vis X.env.scope x)(hd:(x==("__debug__":Str))=false:=by decide)(hcd:(x==("__classdict__":Str))=false:=by decide):PE X (.Name x pos) (Amx i):=by
 intro pins s σ H Q I h
 obtain ⟨v,e,h⟩:=h
 obtain ⟨m,hn,hl⟩:=I.loc
 obtain ⟨u,r,l⟩:=hl i x v hN e hv
 have fin:EP X pins σ Q u s:=⟨v,H,I,r,h⟩
 rcases l with ⟨hk,hm⟩|⟨hk,c,hc,hcell⟩
 ·eC wpAny_Name (wpAny_loadName_local I.ok.kind hk hn hm fin) hd
 ·rcases hk with hk|hk
  ·eC wpAny_Name (wpAny_loadName_cell I.ok.kind hk hc hcell fin) hd
  ·eC wpAny_Name (wpAny_loadName_free I.ok.kind hk hc hcell fin hcd) hd
theorem Ab {i j pos}:PE X (.Constant (.int i) j pos) (tC (.int i)):=fun _ _ _ H _ I h=>wpAny_Constant_int ⟨.int i,H,I.tok _,⟨_,rfl⟩,h⟩
theorem Lv {b j pos}:PE X (.Constant (.bool b) j pos) (tC (.bl b)):=fun _ _ _ H _ I h=>Constant_bool ⟨.bl b,H,I,rfl,h⟩
theorem Am2 {j pos}:PE X (.Constant .none j pos) (tC .non):=fun _ _ _ H _ I h=>Constant_none ⟨.non,H,I,rfl,h⟩
theorem A6 {x j pos}:PE X (.Constant (.str x) j pos) (tC (.str x)):=fun _ _ _ H _ I h=>Calls.Constant_str ⟨.str x,H,I.tok _,⟨_,rfl⟩,h⟩
def Gl (X:Cx)(x:Str):Prop:=X.env.kindOf x=some .globalImplicit
theorem Jq {E:Value→Shared→Prop}{pins:List (Addr×Obj)}{s:Shared}{σ:St}{H:Hp}{x:Str}{u:Value}{pos:Pos}{Q:Value→Shared→Prop}(I:Ar X pins σ H s)(hg:Gl X x)(hm:X.mg x=some u)(h:Q u s)
  (hd:(x==("__debug__":Str))=false:=by decide):wpAny (model X.prog X.w) X.A (eval (.Name x pos) X.env) Q E s:=
 Calls.Name_function_global I.ok.kind hg (Calls.loadGlobal_global (by rw [I.ok.glob];eC I.mod.glob.keeps I.bk) hm h) hd
theorem E7 {E:Value→Shared→Prop}{pins:List (Addr×Obj)}{s:Shared}{σ:St}{H:Hp}{x:Str}{u:Value}{pos:Pos}{Q:Value→Shared→Prop}(I:Ar X pins σ H s)(hg:Gl X x)(hm:X.mg x=none)(hv:bootBuiltins x=some u)(h:Q u s)
  (hn:x≠"__name__":=by decide) (hd:(x==("__debug__":Str))=false:=by decide):wpAny (model X.prog X.w) X.A (eval (.Name x pos) X.env) Q E s:=by
 obtain ⟨mb,h1,h2⟩:=I.mod.blt
 eC Calls.Name_function_global I.ok.kind hg (Calls.loadGlobal_builtin (by rw [I.ok.glob];eC I.mod.glob.keeps I.bk) hm (by rw [I.ok.blt];eC h1.keeps I.bk) ((h2 x hn).trans hv) h) hd
theorem Ahk {x:Str}{v:V}{u:Value}{pos:Pos}(hg:Gl X x)(hm:X.mg x=some u)(r:RelV v u)(hd:(x==("__debug__":Str))=false:=by decide):PE X (.Name x pos) (tC v):=
 fun _ _ _ H _ I h=>Jq I hg hm ⟨v,H,I,r,h⟩ hd
theorem Ah5 {x:Str}{v:V}{u:Value}{pos:Pos}(hg:Gl X x)(hm:X.mg x=none)(hv:bootBuiltins x=some u)(r:RelV v u)(hn:x≠"__name__":=by decide)(hd:(x==("__debug__":Str))=false:=by decide):PE X (.Name x pos) (tC v):=
 fun _ _ _ H _ I h=>E7 I hg hm hv ⟨v,H,I,r,h⟩ hn hd
variable {a b:Expr}{ta tb:TE}{pos:Pos}
def PC (X:Cx)(op:CmpOp)(a b:Expr)(t:TE):Prop:=
 ∀(pins:List (Addr×Obj)) (s:Shared) (σ:St) (H:Hp) (Q:VK),Ar X pins σ H s→t σ H Q →
  wpAny (model X.prog X.w) X.A (eval a X.env) (fun v s₁=>wpAny (model X.prog X.w) X.A (eval b X.env) (fun u s₂=>wpAny (model X.prog X.w) X.A (compareOp op v u) (EP X pins σ Q) X.xe s₂) X.xe s₁) X.xe s
theorem Aft (b:Expr){op:CmpOp}(h:op≠.In)(h2:op≠.NotIn):behindInMarks op b=false:=by
 have e1:(op==CmpOp.In)=false:=by cases op<;>first|rfl|eC absurd rfl h
 have e2:(op==CmpOp.NotIn)=false:=by cases op<;>first|rfl|eC absurd rfl h2
 cases b<;>simp [behindInMarks,e1,e2]
def Apg (ta:TE):TE:=fun σ H Q=>ta σ H fun x H1=>Q (.bl (decide (x=.non))) H1
theorem RelV.none_iff {x:V}{v:Value}(r:RelV x v):(v==Value.none)=decide (x=.non):=by
 cases x with
 |non=>cases r;rfl
 |bl _=>cases r;rfl
 |int _=>obtain ⟨t,rfl⟩:=r;rfl
 |str _=>obtain ⟨t,rfl⟩:=r;rfl
 |byt _=>obtain ⟨t,rfl⟩:=r;rfl
 |flt _=>obtain ⟨t,rfl⟩:=r;rfl
 |ref _=>cases r;rfl
 |ty _=>cases r;rfl
theorem Amm {j pos'}(ha:PE X a ta):PC X .Is a (.Constant .none j pos') (Apg ta):=by
 intro pins s σ H Q I h
 rA Bi (ha pins s σ H _ I h) fun v s1 ⟨x,H1,I1,r1,q1⟩=>?_
 eC Constant_none (is_none_gen ⟨.bl _,H1,I1,by rw [r1.none_iff];rfl,q1⟩)
def tB (t:TE):TT:=fun σ H Q=>t σ H fun x H1=>∃c,x=.bl c∧Q c H1
theorem Tw {op:CmpOp}{t:TE}(h:PC X op a b t)(h1:behindInMarks op b=false:=by first|eC Aft _ #d (by decide)|rfl):PT X (.Compare a [op] [b] pos) (tB t):=by
 intro pins s σ H Q I hw
 rA wpAny_isTrue_Compare1 (Bi (h pins s σ H _ I hw) fun v s1 h1=>Bi h1 fun u s2 h2=>Bi h2 fun c s3 ⟨x,H1,I1,r1,q1⟩=>?_) h1
 obtain ⟨d,rfl,q⟩:=q1
 cases r1
 eC CV ⟨H1,I1,q⟩
theorem Amq {e:Expr}{t:TE}(h:PE X e t)(he:∀whole,isTrue e X.env whole=(do let v ←whole;standAt e.pos;holding [v] (truthy v)):=by intro _;rfl):PT X e (tB t):=by
 intro pins s σ H Q I hw
 rA isTrue_plain (Bi (h pins s σ H _ I hw) fun v s1 ⟨x,H1,I1,r1,q1⟩=>?_) (he _)
 obtain ⟨d,rfl,q⟩:=q1
 cases r1
 eC CV ⟨H1,I1,q⟩
variable {tA tB':TT}{Es:List Expr}
def Als (t u:TT):TT:=fun σ H Q=>t σ H fun c H1=>if c=true then u σ H1 Q else Q false H1
def tOr (t u:TT):TT:=fun σ H Q=>t σ H fun c H1=>if c=true then Q true H1 else u σ H1 Q
def Asf (t:TT):TT:=fun σ H Q=>t σ H fun c H1=>Q (!c) H1
theorem Lg (ha:PT X a tA):PW X (.BoolOp .And [a] pos) tA:=by
 intro wh pins s σ H Q I h
 rA isTrue_and (Bi (ha pins s σ H Q I h) fun c s1 e=>?_)
 cases c with
 |true=>eC isTrue_and_nil e
 |false=>eC e
theorem Gc (ha:PT X a tA):PW X (.BoolOp .Or [a] pos) tA:=by
 intro wh pins s σ H Q I h
 rA isTrue_or (Bi (ha pins s σ H Q I h) fun c s1 e=>?_)
 cases c with
 |false=>eC isTrue_or_nil e
 |true=>eC e
theorem Ali (ha:PT X a tA)(hb:PW X (.BoolOp .And (b::Es) pos) tB'):PW X (.BoolOp .And (a::b::Es) pos) (Als tA tB'):=by
 intro wh pins s σ H Q I h
 rA isTrue_and (Bi (ha pins s σ H _ I h) fun c s1 ⟨H1,I1,q1⟩=>?_)
 cases c with
 |true=>eC hb wh pins s1 σ H1 Q I1 q1
 |false=>eC ⟨H1,I1,q1⟩
theorem Apy (ha:PT X a tA)(hb:PW X (.BoolOp .Or (b::Es) pos) tB'):PW X (.BoolOp .Or (a::b::Es) pos) (tOr tA tB'):=by
 intro wh pins s σ H Q I h
 rA isTrue_or (Bi (ha pins s σ H _ I h) fun c s1 ⟨H1,I1,q1⟩=>?_)
 cases c with
 |true=>eC ⟨H1,I1,q1⟩
 |false=>eC hb wh pins s1 σ H1 Q I1 q1
theorem Bx (ha:PT X a tA):PT X (.UnaryOp .Not a pos) (Asf tA):=by
 intro pins s σ H Q I h
 eC isTrue_not (ha pins s σ H (fun c H1=>Q (!c) H1) I h)
def Ag6 (ta tb:TE):TE:=fun σ H Q=>ta σ H fun x H1=>∃c,x=.bl c∧if c=true then tb σ H1 Q else Q (.bl false) H1
def Af6 (ta:TE):TE:=fun σ H Q=>ta σ H fun x H1=>∃c,x=.bl c∧Q (.bl (!c)) H1
theorem Mg {op}{t:TE}(h:PE X a t):PE X (.BoolOp op [a] pos) t:=fun pins s σ H Q I hw=>BoolOp_one (h pins s σ H Q I hw)
theorem Akp (ha:PE X a ta)(hb:PE X (.BoolOp .And (b::Es) pos) tb):PE X (.BoolOp .And (a::b::Es) pos) (Ag6 ta tb):=by
 intro pins s σ H Q I h
 rA BoolOp_and (Bi (ha pins s σ H _ I h) fun v s1 ⟨x,H1,I1,r1,q1⟩=>?_)
 obtain ⟨c,rfl,q1⟩:=q1
 cases r1
 rA CV ?_
 cases c with
 |true=>eC hb pins s1 σ H1 Q I1 q1
 |false=>eC ⟨.bl false,H1,I1,rfl,q1⟩
theorem Ank (ha:PE X a ta):PE X (.UnaryOp .Not a pos) (Af6 ta):=by
 intro pins s σ H Q I h
 rA UnaryOp_ (Bi (ha pins s σ H _ I h) fun v s1 ⟨x,H1,I1,r1,q1⟩=>?_)
 obtain ⟨c,rfl,q1⟩:=q1
 cases r1
 eC not_of (CV ⟨.bl (!c),H1,I1,rfl,q1⟩)
def tIf (t:TT)(ta tb:TE):TE:=fun σ H Q=>t σ H fun c H1=>if c=true then ta σ H1 Q else tb σ H1 Q
theorem Ad3 {c:Expr}(hc:PT X c tA)(ha:PE X a ta)(hb:PE X b tb):PE X (.IfExp c a b pos) (tIf tA ta tb):=by
 intro pins s σ H Q I h
 rA wpAny_IfExp (Bi (hc pins s σ H _ I h) fun d s1 ⟨H1,I1,q1⟩=>?_)
 cases d with
 |true=>eC ha pins s1 σ H1 Q I1 q1
 |false=>eC hb pins s1 σ H1 Q I1 q1
end
end L2
namespace L2
open PySem PySem.Spec PyProof.Rows
def A3 (K:KKf)(H:Hp)(a:Addr)(xs:List V):Prop:=
 Rd H a (.lst xs) ∨
  ∃(o:Obj) (its:Array Value) (n:Nat),K.lookup a=some o∧o.cls=.type "list"∧o.dict=none∧o.data=.seq its n∧its.size≤sizeLine∧A7 xs its.toList
def Ec (K:KKf)(H:Hp)(a:Addr)(xs:List V):Prop:=
 Rd H a (.tup xs) ∨
  ∃(o:Obj) (its:Array Value) (n:Nat),K.lookup a=some o∧o.cls=.type "tuple"∧o.data=.seq its n∧its.size≤sizeLine∧A7 xs its.toList
def Aso:Value→Option V
 |.none=>some .non
 |.bool b=>some (.bl b)
 |.int i _=>some (.int i)
 |.str x _=>some (.str x)
 |.bytes b _=>some (.byt b)
 |.float b _=>some (.flt b)
 |.ref a=>some (.ref a)
 |.type n=>some (.ty n)
 |_=>none
theorem RelV.abs {x:V}{u:Value}(r:RelV x u):Aso u=some x:=by
 cases x with
 |non=>cases r;rfl
 |bl _=>cases r;rfl
 |int _=>obtain ⟨t,rfl⟩:=r;rfl
 |str _=>obtain ⟨t,rfl⟩:=r;rfl
 |byt _=>obtain ⟨t,rfl⟩:=r;rfl
 |flt _=>obtain ⟨t,rfl⟩:=r;rfl
 |ref _=>cases r;rfl
 |ty _=>cases r;rfl
theorem RelV.inj {x y:V}{u:Value}(r:RelV x u)(q:RelV y u):x=y:=Option.some.inj (r.abs.symm.trans q.abs)
theorem A7.inj:∀{xs ys:List V} {us:List Value},A7 xs us→A7 ys us→xs=ys
 |_,_,_,.nil,.nil=>rfl
 |_,_,_,.cons r t,.cons r' t'=>by rw [r.inj r',A7.inj t t']
section
variable {X:Cx}{pins:List (Addr×Obj)}{σ:St}{H:Hp}{s:Shared}{a:Addr}{xs ys:List V}
theorem A3.of {K:KKf}(h:H a=some (.lst xs)):A3 K H a xs:=.inl (.inl h)
theorem Ec.of {K:KKf}(h:H a=some (.tup xs)):Ec K H a xs:=.inl (.inl h)
theorem Ar.list (I:Ar X pins σ H s)(h:A3 X.K H a xs):∃its:List Value,A7 xs its∧PlainL s.heap a its.toArray∧xs.length≤sizeLine:=by
 rcases h with h|⟨o,its,n,hk,hc,hd,hs,hz,r⟩
 ·obtain ⟨z,its,n,r,e⟩:=h.ok I.hok
  eC ⟨its,r,⟨_,n,e,rfl,rfl,rfl⟩,z⟩
 ·rA ⟨its.toList,r,⟨o,n,I.kIn a o hk,hc,hd,by simpa using hs⟩,?_⟩
  have e:=r.length
  simp only [BK] at e
  omega
theorem Ar.tuple (I:Ar X pins σ H s)(h:Ec X.K H a xs):∃its:List Value,A7 xs its∧IsTup s.heap a its.toArray∧xs.length≤sizeLine:=by
 rcases h with h|⟨o,its,n,hk,hc,hs,hz,r⟩
 ·obtain ⟨z,its,r,p⟩:=h.ok I.hok
  eC ⟨its,r,p,z⟩
 ·rA ⟨its.toList,r,⟨o,I.kIn a o hk,hc,n,by simpa using hs⟩,?_⟩
  have e:=r.length
  simp only [BK] at e
  omega
theorem Ar.list_inj (I:Ar X pins σ H s)(h:A3 X.K H a xs)(h':A3 X.K H a ys):xs=ys:=by
 obtain ⟨its,r,⟨o,n,e,_,_,d⟩,_⟩:=I.list h
 obtain ⟨its',r',⟨o',n',e',_,_,d'⟩,_⟩:=I.list h'
 rw [e] at e';cases e'
 rw [d] at d'
 injection d' with d1 _
 have:its=its':=by simpa using congrArg Array.toList d1
 subst this
 eC r.inj r'
theorem Ar.tuple_inj (I:Ar X pins σ H s)(h:Ec X.K H a xs)(h':Ec X.K H a ys):xs=ys:=by
 obtain ⟨its,r,⟨o,e,_,n,d⟩,_⟩:=I.tuple h
 obtain ⟨its',r',⟨o',e',_,n',d'⟩,_⟩:=I.tuple h'
 rw [e] at e';cases e'
 rw [d] at d'
 injection d' with d1 _
 have:its=its':=by simpa using congrArg Array.toList d1
 subst this
 eC r.inj r'
end
abbrev Cx.wish (X:Cx)(E:Value→Shared→Prop):Cx:={ X with xe:=E }
abbrev Cx.nox (X:Cx):Cx:=X.wish fun _ _=>False
theorem Cx.Ok.wish {X:Cx}(ok:X.Ok)(E:Value→Shared→Prop):(X.wish E).Ok:=
 ⟨ok.mod,ok.kind,ok.glob,ok.blt,ok.above,ok.inj,ok.has,ok.cab,ok.hd,ok.frames,ok.stk,ok.exf,ok.bs,ok.bsz,ok.noex,ok.exfs,ok.funs,ok.frf⟩
theorem Cx.Ok.unwish {X:Cx}{E:Value→Shared→Prop}(ok:(X.wish E).Ok):X.Ok:=
 ⟨ok.mod,ok.kind,ok.glob,ok.blt,ok.above,ok.inj,ok.has,ok.cab,ok.hd,ok.frames,ok.stk,ok.exf,ok.bs,ok.bsz,ok.noex,ok.exfs,ok.funs,ok.frf⟩
section
variable {X:Cx}{pins:List (Addr×Obj)}{σ:St}{H:Hp}{s:Shared}{E:Value→Shared→Prop}
theorem Ar.wish (I:Ar X pins σ H s)(E:Value→Shared→Prop):Ar (X.wish E) pins σ H s:=⟨I.ok.wish E,I.os,I.bare,I.base,I.loc,I.cell,I.free,I.freeC,I.pin,I.hok,I.len⟩
theorem Ar.unwish (I:Ar (X.wish E) pins σ H s):Ar X pins σ H s:=⟨I.ok.unwish,I.os,I.bare,I.base,I.loc,I.cell,I.free,I.freeC,I.pin,I.hok,I.len⟩
theorem SP.unwish {D:Og}{f:Flow}{s':Shared}(h:SP (X.wish E) pins D f s'):SP X pins D f s':=by
 cases f with
 |next=>obtain ⟨σ',H',I,q⟩:=h;eC ⟨σ',H',I.unwish,q⟩
 |brk=>obtain ⟨σ',H',I,q⟩:=h;eC ⟨σ',H',I.unwish,q⟩
 |cont=>obtain ⟨σ',H',I,q⟩:=h;eC ⟨σ',H',I.unwish,q⟩
 |ret u=>obtain ⟨v,σ',H',I,r,q⟩:=h;eC ⟨v,σ',H',I.unwish,r,q⟩
theorem Ny.nox {st:List Stmt}{t:TS}(h:Ny X.nox st t):Ny X st t:=fun pins s σ H D I hw=>
 BP (h pins s σ H D (I.wish _) hw) (fun _ _ q=>q.unwish) fun _ _ z=>False.elim z
end
section
variable {X:Cx}{st:Stmt}{Es:List Stmt}{t u:TS}{e:Expr}{te:TE}{pos:Pos}
def Apr:TS:=fun D σ H=>D.nx σ H
def Ar7 (t u:TS):TS:=fun D σ H=>t { D with nx:=u D } σ H
theorem Aw:Ny X [] Apr:=fun _ _ σ H _ I h=>GB ⟨σ,H,I,h⟩
theorem Ad (h1:PS X st t)(h2:Ny X Es u):Ny X (st::Es) (Ar7 t u):=by
 intro pins s σ H D I h
 rA wpAny_execs_cons (Bi (h1 pins s σ H { D with nx:=u D } I h) fun f s1 q=>?_)
 cases f with
 |next=>
  obtain ⟨σ',H',I',q⟩:=q
  eC h2 pins s1 σ' H' D I' q
 |ret v=>eC q
 |brk=>eC q
 |cont=>eC q
theorem Ae (h1:PS X st t):Ny X [st] t:=by
 intro pins s σ H D I h
 rA wpAny_execs_cons (Bi (h1 pins s σ H D I h) fun f s1 q=>?_)
 cases f with
 |next=>eC GB q
 |ret v=>eC q
 |brk=>eC q
 |cont=>eC q
theorem Ar.quiet {pins:List (Addr×Obj)}{σ:St}{H:Hp}{s:Shared}(I:Ar X pins σ H s):interactive X.env=false:=by simp [interactive,I.ok.kind]
def Ap0 (te:TE):TS:=fun D σ H=>te σ H fun _ H1=>D.nx σ H1
theorem F3 (he:PE X e te)(hs:swapsWith e none pos.line X.env=pure false:=by rfl):PS X (.Expr e pos) (Ap0 te):=by
 intro pins s σ H D I h
 eC wpAny_Expr_any (Bi (he pins s σ H _ I h) fun v s1 ⟨x,H1,I1,r1,q1⟩=>⟨σ,H1,I1,q1⟩) I.quiet hs
def Ar3 (te:TE):TS:=fun D σ H=>te σ H D.rt
theorem Al (he:PE X e te):PS X (.Return (some e) pos) (Ar3 te):=by
 intro pins s σ H D I h
 eC wpAny_Return_some (Bi (he pins s σ H _ I h) fun v s1 ⟨x,H1,I1,r1,q1⟩=>⟨x,σ,H1,I1,r1,q1⟩)
def Aln (c:TT)(t u:TS):TS:=fun D σ H=>c σ H fun b H1=>if b=true then t D σ H1 else u D σ H1
theorem Aqd {c:Expr}{a b:List Stmt}{tc:TT}(hc:PT X c tc)(ha:Ny X a t)(hb:Ny X b u):PS X (.If c a b pos) (Aln tc t u):=by
 intro pins s σ H D I h
 rA wpAny_If (Bi (hc pins s σ H _ I h) fun d s1 ⟨H1,I1,q1⟩=>?_)
 cases d with
 |true=>eC ha pins s1 σ H1 D I1 q1
 |false=>eC hb pins s1 σ H1 D I1 q1
def Alr:TS:=fun _ _ _=>False
theorem Cq:PS X st Alr:=fun _ _ _ _ _ _ h=>h.elim
end
abbrev TG:=V→St→Hp→(St→Hp→Prop)→Prop
abbrev TGs:=List V→St→Hp→(St→Hp→Prop)→Prop
def PG (X:Cx)(target:Expr)(t:TG):Prop:=
 ∀(pins:List (Addr×Obj)) (s:Shared) (σ:St) (H:Hp) (v:V) (u:Value) (Q:St→Hp→Prop),Ar X pins σ H s→RelV v u→t v σ H Q →
  wpAny (model X.prog X.w) X.A (assign target X.env u) (fun _ s'=>∃σ' H',Ar X pins σ' H' s'∧Q σ' H') X.xe s
def PGs (X:Cx)(ts:List Expr)(t:TGs):Prop:=
 ∀(pins:List (Addr×Obj)) (s:Shared) (σ:St) (H:Hp) (vs:List V) (us:List Value) (Q:St→Hp→Prop),Ar X pins σ H s→A7 vs us→t vs σ H Q →
  wpAny (model X.prog X.w) X.A (assignInOrder ((assignEach ts X.env).map (·.2)) us) (fun _ s'=>∃σ' H',Ar X pins σ' H' s'∧Q σ' H') X.xe s
section
variable {X:Cx}{pos:Pos}
def Abd (i:Nat):TG:=fun v σ H Q=>Q (σ.set i (some v)) H
theorem Au {i:Nat}{x:Str}(hN:X.N.Nodup)(hi:X.N[i]? =some x)(hx:Loc X.env.scope x)(hf:X.fn x=true∨X.env.scope.names.lookup x=some .local:=by first|eC .inl rfl|eC .inr rfl|assumption):PG X (.Name x pos) (Abd i):=by
 intro pins s σ H v u Q I r h
 eC wpAny_assign_Name (Vx I hN hi hx r (fun s' I'=>⟨_,H,I',h⟩) hf)
def Asm:TGs:=fun vs σ H Q=>vs=[]∧Q σ H
def Api (t:TG)(u:TGs):TGs:=fun vs σ H Q=>∃v r,vs=v::r∧t v σ H fun σ' H'=>u r σ' H' Q
theorem Eb:PGs X [] Asm:=by
 intro pins s σ H vs us Q I r h
 obtain ⟨e,h⟩:=h
 subst e
 cases r
 eC assignInOrder_nil ⟨σ,H,I,h⟩
theorem A5 {e:Expr}{es:List Expr}{t:TG}{u:TGs}(h1:PG X e t)(h2:PGs X es u)
  (hs:(assignEach (e::es) X.env).map (·.2)=assign e X.env::(assignEach es X.env).map (·.2):=by rfl):PGs X (e::es) (Api t u):=by
 intro pins s σ H vs us Q I r h
 obtain ⟨v,vr,e1,h⟩:=h
 subst e1
 cases r with
 |cons r rr=>
  rw [hs]
  rA assignInOrder_cons (Bi (h1 pins s σ H _ _ _ I r h) fun _ s1 ⟨σ1,H1,I1,q1⟩=>?_)
  eC h2 pins s1 σ1 H1 _ _ Q I1 rr q1
def V5 (K:KKf)(n:Nat)(t:TGs):TG:=fun v σ H Q=>∃a xs,v=.ref a∧Ec K H a xs∧xs.length=n∧t xs σ H Q
theorem Ft {es:List Expr}{k:Nat}{t:TGs}{n:Nat}(hc:X.calm=true)(h:PGs X es t)
  (hn:(assignEach es X.env).length=n:=by rfl) (hst:(assignEach es X.env).findIdx? (·.1)=none:=by rfl):PG X (.Tuple es k pos) (V5 X.K n t):=by
 intro pins s σ H v u Q I r hw
 obtain ⟨a,xs,e1,hq,hl,hw⟩:=hw
 subst e1
 cases r
 obtain ⟨its,rv,ht,hz⟩:=I.tuple hq
 rA assign_Tuple_tuple (I.ok.hd hc) ht (by simp [hn,←hl,rv.length]) hst fun h' hx=>?_
 have I1:Ar X pins σ H { s with heap:=h' }:=I.kept (t':=s.toks) fun b o e=>hx b o (AS (AH e)) e
 eC h pins _ σ H xs _ Q I1 (by simpa using rv) hw
def Aiq (te:TE)(g:TG):TS:=fun D σ H=>te σ H fun x H1=>g x σ H1 D.nx
theorem Z0 {tg e:Expr}{te:TE}{g:TG}(he:PE X e te)(hg:PG X tg g)(hs:swapsWithSole [tg] e pos.line X.env=pure false:=by rfl)(hw:swappedStores [tg] e X.env=pure none:=by rfl)
  (h1:(assignEach [tg] X.env).map (·.2)=[assign tg X.env]:=by rfl):PS X (.Assign [tg] e pos) (Aiq te g):=by
 intro pins s σ H D I h
 rA wpAny_Assign_stores (Bi (he pins s σ H _ I h) fun v s1 ⟨x,H1,I1,r1,q1⟩=>?_) hs hw
 rw [h1]
 eC Bi (hg pins s1 σ H1 x v _ I1 r1 q1) fun _ s2 q=>q
theorem An {i:Nat}{x:Str}{e:Expr}{te:TE}{pos':Pos}(hN:X.N.Nodup)(hi:X.N[i]? =some x)(hx:Loc X.env.scope x)(he:PE X e te)(hs:swapsWith e (some (.Name x pos')) pos.line X.env=pure false:=by rfl)(hf:X.fn x=true∨X.env.scope.names.lookup x=some .local:=by first|eC .inl rfl|eC .inr rfl|assumption) :
  PS X (.Assign [.Name x pos'] e pos) (Aiq te (Abd i)):=by
 intro pins s σ H D I h
 rA wpAny_Assign_Name (Bi (he pins s σ H _ I h) fun v s1 ⟨y,H1,I1,r1,q1⟩=>?_) hs
 eC Vx I1 hN hi hx r1 (fun s2 I2=>⟨_,H1,I2,q1⟩) hf
end
structure It where
 go:Nat→Hp→Prop
 yld:Nat→Hp→V→Hp→Prop
 stop:Nat→Hp→Prop
def Ma (X:Cx)(pins:List (Addr×Obj))(H:Hp)(b:Addr):Prop:=
 H b=none∧b≠X.env.locals∧b∉X.fs∧(b∈X.ex∨X.s₀.heap.objs.size≤b)∧(∀x c,X.env.cells.lookup x=some c→c≠b)∧∀p∈X.pn++pins,p.1≠b
theorem Ar.fpOk {X:Cx}{pins:List (Addr×Obj)}{σ:St}{H H':Hp}{s:Shared}{b:Addr}(I:Ar X pins σ H s)(hb:s.heap.objs.size≤b)(hn:H' b=none):Ma X pins H' b:=by
 rA ⟨hn,CP (AL I.lt hb),I.nofs hb,.inr (AO I.sz hb),fun x c e z=>?_,fun p hp z=>?_⟩
 ·obtain ⟨v,q⟩:=I.cell x c e
  eC absurd (AL q.lt (by rw [z];eC hb)) (DL _)
 ·eC absurd (AL (AH (I.pin p hp).1) (by rw [z];eC hb)) (DL _)
structure Vz (P:Program)(w:World)(K:KKf)(tg:Expr)(J:It)(fp:List Addr)(it:Addr)(tn:Nat→Heap→Prop):Prop where
 mem:it∈fp
 obj:∀i h,tn i h→∀b∈fp,∃o,h.get? b=some o∧∀v,o.data≠.cell v
 keep:∀i h h',tn i h→(∀b∈fp,∀o,h.get? b=some o→h'.get? b=some o)→tn i h'
 item:∀(X:Cx),X.prog=P→X.w=w→X.K=K→X.calm=true→∀(i:Nat) (pins:List (Addr×Obj)) (s:Shared) (σ:St) (H:Hp) (E:Value→Shared→Prop),Ar X pins σ H s→(∀b∈fp,Ma X pins H b)→tn i s.heap→J.go i H →
  wpAny (model P w) X.A (pyNext (.ref it)) (fun r s1=>∃u,r=some u ∧
   wpAny (model P w) X.A (letOwnedTupleGo tg (.ref it) u) (fun _ s2=>∃x H',Ar X pins σ H' s2∧RelV x u∧J.yld i H x H'∧tn (i+1) s2.heap∧∀b∈fp,H' b=none) E s1) E s
 done:∀(X:Cx),X.prog=P→X.w=w→X.K=K→X.calm=true→∀(i:Nat) (pins:List (Addr×Obj)) (s:Shared) (σ:St) (H:Hp) (E:Value→Shared→Prop),Ar X pins σ H s→(∀b∈fp,Ma X pins H b)→tn i s.heap→J.stop i H →
  wpAny (model P w) X.A (pyNext (.ref it)) (fun r s1=>r=none∧Ar X pins σ H s1) E s
 self:∀(A:Around) (i:Nat) (s:Shared) (Q:Value→Shared→Prop) (E:Value→Shared→Prop),tn i s.heap→Q (.ref it) s→wpAny (model P w) A (pyIter (.ref it)) Q E s
abbrev TI:=St→Hp→(It→Hp→Prop)→Prop
def PIE (X:Cx)(pins:List (Addr×Obj))(σ:St)(tg:Expr)(R:It→Hp→Prop)(itv:Value)(s2:Shared):Prop:=
 ∃(it:Addr) (fp:List Addr) (tn:Nat→Heap→Prop) (J:It) (H':Hp),itv=.ref it∧Ar X pins σ H' s2∧Vz X.prog X.w X.K tg J fp it tn∧tn 0 s2.heap∧(∀b∈fp,Ma X pins H' b)∧R J H'
def PI (X:Cx)(tg iter:Expr)(wi:TI):Prop:=
 ∀(pins:List (Addr×Obj)) (s:Shared) (σ:St) (H:Hp) (R:It→Hp→Prop),Ar X pins σ H s→wi σ H R →
  wpAny (model X.prog X.w) X.A (eval iter X.env) (fun v s1=>wpAny (model X.prog X.w) X.A (pyIter v) (PIE X pins σ tg R) X.xe s1) X.xe s
theorem V6 {M:Model}{A:Around}{E:Value→Shared→Prop}{s:Shared}{tg:Expr}{it:Addr}{u:Value}{o:Obj}{n:String}{vs:Array Value}{Q:Unit→Shared→Prop}(ho:s.heap.get? it=some o)(hc:o.cls=.type n)(hd:o.data=.fields vs)
  (hn:["enumerate","zip","dict_itemiterator","dict_reverseitemiterator","odict_iterator","itertools.zip_longest","itertools.pairwise"].contains n=false) (hQ:Q () s):wpAny M A (letOwnedTupleGo tg (.ref it) u) Q E s:=by
 unfold letOwnedTupleGo
 cases tg<;>first
  |eC AC hQ
  | (cases u<;>first
    |eC AC hQ
    | (refine AA (wpAny_load ho ?_)
       rw [hc,hd]
       show wpAny M A (if (["enumerate","zip","dict_itemiterator","dict_reverseitemiterator","odict_iterator","itertools.zip_longest","itertools.pairwise"].contains n&&vs[0]? ==some (rawInt _))=true then _ else _) Q E s
       rw [AI (by intro h;rw [hn,ER] at h;cases h)]
       eC AC hQ))
def Itl (K:KKf)(a:Addr):It:=
 ⟨fun i H=>∃xs x,A3 K H a xs∧xs[i]? =some x,fun i H x H'=>H'=H∧∀xs,A3 K H a xs→xs[i]? =some x,fun i H=>∃xs,A3 K H a xs∧xs.length≤i⟩
def Itt (K:KKf)(a:Addr):It:=
 ⟨fun i H=>∃xs x,Ec K H a xs∧xs[i]? =some x,fun i H x H'=>H'=H∧∀xs,Ec K H a xs→xs[i]? =some x,fun i H=>∃xs,Ec K H a xs∧xs.length≤i⟩
def Itr (lo:Int)(n:Nat):It:=⟨fun i _=>i<n,fun i H x H'=>H'=H∧x=.int (lo+i),fun i _=>n≤i⟩
theorem Ac7 {P:Program}{w:World}{K:KKf}{tg:Expr}(a it:Addr):Vz P w K tg (Itl K a) [it] it (fun i h=>h.IsListIter it a i) where
 mem:=by simp
 obj:=fun i h st b hb=>by
  have e:b=it:=by simpa using hb
  subst e
  obtain ⟨o,e,c,d⟩:=st
  eC ⟨o,e,fun v z=>by rw [d] at z;cases z⟩
 keep:=fun i h h' st k=>st.at fun o e=>k it (by simp) o e
 item:=by
  intro X hP hw hK hc i pins s σ H E I hf st hg
  subst hP hw hK
  obtain ⟨xs,x,hq,hx⟩:=hg
  obtain ⟨its,rv,p,hz⟩:=I.list hq
  obtain ⟨u,hu,ru⟩:=rv.get hx
  obtain ⟨f0,f1,f2,f3,f4,f5⟩:=hf it (by simp)
  rA wpAny_pyNext_list_item st p.isList (x:=u) (by simpa using hu) fun h' st' sb=>?_
  have I1:Ar X pins σ H { s with heap:=h' }:=I.turned (t':=s.toks) (fun b o hb e=>(sb.2 b hb).trans e) f0 f1 f3 f4 f5
  obtain ⟨o,e,c,d⟩:=id st'
  eC ⟨u,rfl,V6 (s:={ s with heap:=h' }) e c d #d ⟨x,H,I1,ru,⟨rfl,fun ys hy=>by rw [I.list_inj hy hq];eC hx⟩,st',fun b hb=>(hf b hb).1⟩⟩
 done:=by
  intro X hP hw hK hc i pins s σ H E I hf st hg
  subst hP hw hK
  obtain ⟨xs,hq,hx⟩:=hg
  obtain ⟨its,rv,p,hz⟩:=I.list hq
  obtain ⟨f0,f1,f2,f3,f4,f5⟩:=hf it (by simp)
  have hl:=rv.length
  eC wpAny_pyNext_list_end (I.ok.hd hc) st p.isList (by simp;omega) fun h' eb=>⟨rfl,I.turned (t':=s.toks) (fun b o hb e=>eb b o hb e) f0 f1 f3 f4 f5⟩
 self:=fun _ _ _ _ _ st h=>wpAny_pyIter_listiter st h
theorem Yf {P:Program}{w:World}{K:KKf}{tg:Expr}(a it:Addr):Vz P w K tg (Itt K a) [it] it (fun i h=>h.IsTupleIter it a i) where
 mem:=by simp
 obj:=fun i h st b hb=>by
  have e:b=it:=by simpa using hb
  subst e
  obtain ⟨o,e,c,d⟩:=st
  eC ⟨o,e,fun v z=>by rw [d] at z;cases z⟩
 keep:=fun i h h' st k=>st.at fun o e=>k it (by simp) o e
 item:=by
  intro X hP hw hK hc i pins s σ H E I hf st hg
  subst hP hw hK
  obtain ⟨xs,x,hq,hx⟩:=hg
  obtain ⟨its,rv,p,hz⟩:=I.tuple hq
  obtain ⟨u,hu,ru⟩:=rv.get hx
  obtain ⟨f0,f1,f2,f3,f4,f5⟩:=hf it (by simp)
  rA wpAny_pyNext_tuple_item st (show s.heap.IsTuple a its.toArray from p) (x:=u) (by simpa using hu) fun h' st' sb=>?_
  have I1:Ar X pins σ H { s with heap:=h' }:=I.turned (t':=s.toks) (fun b o hb e=>(sb.2 b hb).trans e) f0 f1 f3 f4 f5
  obtain ⟨o,e,c,d⟩:=id st'
  eC ⟨u,rfl,V6 (s:={ s with heap:=h' }) e c d #d ⟨x,H,I1,ru,⟨rfl,fun ys hy=>by rw [I.tuple_inj hy hq];eC hx⟩,st',fun b hb=>(hf b hb).1⟩⟩
 done:=by
  intro X hP hw hK hc i pins s σ H E I hf st hg
  subst hP hw hK
  obtain ⟨xs,hq,hx⟩:=hg
  obtain ⟨its,rv,p,hz⟩:=I.tuple hq
  obtain ⟨f0,f1,f2,f3,f4,f5⟩:=hf it (by simp)
  have hl:=rv.length
  eC wpAny_pyNext_tuple_end (I.ok.hd hc) st (show s.heap.IsTuple a its.toArray from p) (by simp;omega) fun h' eb=>⟨rfl,I.turned (t':=s.toks) (fun b o hb e=>eb b o hb e) f0 f1 f3 f4 f5⟩
 self:=fun _ _ _ _ _ st h=>wpAny_pyIter_tupleiter st h
theorem Yt {P:Program}{w:World}{K:KKf}{tg:Expr}(it:Addr)(lo:Int)(n:Nat):Vz P w K tg (Itr lo n) [it] it (fun i h=>IsRangeIter h it (lo+(i:Nat)*1) ((n:Int)-(i:Nat)) 1) where
 mem:=by simp
 obj:=fun i h st b hb=>by
  have e:b=it:=by simpa using hb
  subst e
  eC ⟨_,st,fun v z=>by
   have z':Data.fields _=Data.cell v:=z
   cases z'⟩
 keep:=fun i h h' st k=>k it (by simp) _ st
 item:=by
  intro X hP hw hK hc i pins s σ H E I hf st hg
  subst hP hw hK
  obtain ⟨f0,f1,f2,f3,f4,f5⟩:=hf it (by simp)
  have W:=Walks.range (prog:=X.prog) (w:=X.w) (I.ok.hd hc) it lo 1 n
  rA W.item i s _ _ hg st fun v h' tk hv st' kk=>?_
  obtain ⟨t,rfl⟩:=hv
  have I1:Ar X pins σ H { s with heap:=h',toks:=tk }:=I.turned (fun b o hb e=>kk b o (by simpa using hb) e) f0 f1 f3 f4 f5
  rA ⟨_,rfl,V6 (s:={ s with heap:=h',toks:=tk }) (n:="range_iterator") st' rfl rfl #d ⟨.int (lo+i),H,I1,⟨t,?_⟩,⟨rfl,rfl⟩,st',fun b hb=>(hf b hb).1⟩⟩
  rw [Int.mul_one]
 done:=by
  intro X hP hw hK hc i pins s σ H E I hf st hg
  subst hP hw hK
  obtain ⟨f0,f1,f2,f3,f4,f5⟩:=hf it (by simp)
  eC wpAny_pyNext_range_end (I.ok.hd hc) st (by have:n≤i:=hg;omega) fun h' eb=>⟨rfl,I.turned (t':=s.toks) (fun b o hb e=>eb b o hb e) f0 f1 f3 f4 f5⟩
 self:=fun _ _ _ _ _ st h=>wpAny_pyIter_rangeiter st h
end L2
namespace L2
open PySem PySem.Spec PyProof.Rows
section
variable {X:Cx}{tg:Expr}
def Aoo (K:KKf)(tl:TE):TI:=fun σ H R=>tl σ H fun x H1=>∃a,x=.ref a∧(∃xs,A3 K H1 a xs)∧R (Itl K a) H1
def Arn (K:KKf)(tl:TE):TI:=fun σ H R=>tl σ H fun x H1=>∃a,x=.ref a∧(∃xs,Ec K H1 a xs)∧R (Itt K a) H1
theorem By {l:Expr}{tl:TE}(hl:PE X l tl):PI X tg l (Aoo X.K tl):=by
 intro pins s σ H R I h
 rA Bi (hl pins s σ H _ I h) fun v s1 ⟨x,H1,I1,r1,q1⟩=>?_
 obtain ⟨a,e,⟨xs,hq⟩,q⟩:=q1
 subst e
 cases r1
 obtain ⟨its,rv,p,hz⟩:=I1.list hq
 rA GU p.isList ?_
 rA ⟨s1.heap.objs.size,[s1.heap.objs.size],_,_,H1,rfl,I1.kept (t':=s1.toks) fun b o e=>AB _ e,Ac7 a _,⟨_,AG _ rfl,rfl,rfl⟩,fun b hb=>?_,q⟩
 have e:b=s1.heap.objs.size:=by simpa using hb
 subst e
 eC I1.fpOk (AF _) (I1.hok.fresh (AF _))
theorem Ak4 {l:Expr}{tl:TE}(hl:PE X l tl):PI X tg l (Arn X.K tl):=by
 intro pins s σ H R I h
 rA Bi (hl pins s σ H _ I h) fun v s1 ⟨x,H1,I1,r1,q1⟩=>?_
 obtain ⟨a,e,⟨xs,hq⟩,q⟩:=q1
 subst e
 cases r1
 obtain ⟨its,rv,p,hz⟩:=I1.tuple hq
 rA wpAny_pyIter_tuple (show s1.heap.IsTuple a its.toArray from p) ?_
 rA ⟨s1.heap.objs.size,[s1.heap.objs.size],_,_,H1,rfl,I1.kept (t':=s1.toks) fun b o e=>AB _ e,Yf a _,⟨_,AG _ rfl,rfl,rfl⟩,fun b hb=>?_,q⟩
 have e:b=s1.heap.objs.size:=by simpa using hb
 subst e
 eC I1.fpOk (AF _) (I1.hok.fresh (AF _))
theorem X3 {pins:List (Addr×Obj)}{σ:St}{H:Hp}{s:Shared}{R:It→Hp→Prop}{E:Value→Shared→Prop}{lo hi:Int}{t u v:Tok}{tk:Nat}(I:Ar X pins σ H s)(h1:-(2 ^ 62)≤lo)(h2:lo<2 ^ 62)(h3:-(2 ^ 62)≤hi)(h4:hi<2 ^ 62)
  (q:R (Itr lo (hi-lo).toNat) H):wpAny (model X.prog X.w) X.A (pyIter (.ref s.heap.objs.size)) (PIE X pins σ tg R) E { s with heap:=s.heap.push { cls:=.type "range",data:=.fields #[.int lo t,.int hi u,.int 1 v] },toks:=tk }:=by
 rA wpAny_pyIter_range (IsRange.new ..) (small_one h1 h2 h3 h4) ?_
 have I1:Ar X pins σ H { s with heap:=s.heap.push { cls:=.type "range",data:=.fields #[.int lo t,.int hi u,.int 1 v] },toks:=tk }:=I.kept fun b o e=>AB _ e
 rA ⟨(s.heap.push { cls:=.type "range",data:=.fields #[.int lo t,.int hi u,.int 1 v] }).objs.size,[(s.heap.push { cls:=.type "range",data:=.fields #[.int lo t,.int hi u,.int 1 v] }).objs.size],_,_,H,rfl,
  I1.kept (t':=tk) fun b o e=>AB _ e,Yt _ lo (hi-lo).toNat,?_,fun b hb=>?_,q⟩
 ·have e1:lo+((0:Nat):Int)*1=lo:=by simp
  have e2:(((hi-lo).toNat:Nat):Int)-((0:Nat):Int)=Builtin.Range.rangeSize lo hi 1:=by rw [rangeSize_one];split<;>omega
  show IsRangeIter _ _ (lo+((0:Nat):Int)*1) ((((hi-lo).toNat:Nat):Int)-((0:Nat):Int)) 1
  rw [e1,e2]
  eC AG _ rfl
 ·have e:b=(s.heap.push { cls:=.type "range",data:=.fields #[.int lo t,.int hi u,.int 1 v] }).objs.size:=by simpa using hb
  subst e
  eC I1.fpOk (AF _) (I1.hok.fresh (AF _))
def Aol (ta:TA):TI:=fun σ H R=>ta σ H fun vs H1=>∃j:Int,vs=[.int j]∧-(2 ^ 62)≤j∧j<2 ^ 62∧R (Itr 0 j.toNat) H1
def Ap8 (ta:TA):TI:=fun σ H R=>ta σ H fun vs H1=>∃i j:Int,vs=[.int i,.int j]∧(-(2 ^ 62)≤i∧i<2 ^ 62∧-(2 ^ 62)≤j∧j<2 ^ 62)∧R (Itr i (j-i).toNat) H1
theorem S0 {a:Expr}{ta:TA}{p pos:Pos}(hg:Gl X "range")(hm:X.mg "range"=none)(ha:PA X [a] ta)(hs:starEach [a] X.env=[(false,eval a X.env)]:=by rfl):PI X tg (.Call (.Name "range" p) [a] [] pos) (Aol ta):=by
 intro pins s σ H R I h
 rA Call_ (E7 I hg hm boot_range (BX (Bi (ha pos pins s σ H _ I h) fun us s1 ⟨vs,H1,I1,r1,q1⟩=>?_) hs rfl))
 obtain ⟨j,e,q1,q2,q⟩:=q1
 subst e
 cases r1 with
 |cons r rr=>
  cases rr
  obtain ⟨t,rfl⟩:=r
  eC call_range_1 (X3 I1 #o #o q1 q2 (by simpa using q))
theorem Ack {a b:Expr}{ta:TA}{p pos:Pos}(hg:Gl X "range")(hm:X.mg "range"=none)(ha:PA X [a,b] ta)(hs:starEach [a,b] X.env=[(false,eval a X.env),(false,eval b X.env)]:=by rfl)(hs2:starEach [b] X.env=[(false,eval b X.env)]:=by rfl) :
  PI X tg (.Call (.Name "range" p) [a,b] [] pos) (Ap8 ta):=by
 intro pins s σ H R I h
 rA Call_ (E7 I hg hm boot_range (BX (Bi (ha pos pins s σ H _ I h) fun us s1 ⟨vs,H1,I1,r1,q1⟩=>?_) (by rw [hs,hs2]) (by rw [hs2];rfl)))
 obtain ⟨i,j,e,⟨q1,q2,q3,q4⟩,q⟩:=q1
 subst e
 cases r1 with
 | cons r rr=>
  cases rr with
  |cons r' rr=>
   cases rr
   obtain ⟨t,rfl⟩:=r
   obtain ⟨t',rfl⟩:=r'
   eC call_range_2 (X3 I1 q1 q2 q3 q4 q)
def Asi (wi:TI)(g:TG)(tb:TS):TS:=fun D σ H=>wi σ H fun J H1=>∃W:Nat→Nat→St→Hp→Prop,(∃m,W 0 m σ H1)∧∀i m σ H,W i m σ H →
 (J.stop i H∧D.nx σ H)∨(J.go i H∧∃N:St→Hp→Prop,(∀σ' H',N σ' H'→∃m',m'<m∧W (i+1) m' σ' H')∧∀x H',J.yld i H x H'→g x σ H' fun σ2 H2=>tb { D with nx:=N,ct:=N,bk:=D.nx } σ2 H2)
def Ua (fp:List Addr)(h:Heap):List (Addr×Obj):=fp.filterMap fun b=>(h.get? b).map fun o=>(b,o)
theorem C2 {fp:List Addr}{h:Heap}{b:Addr}{o:Obj}(hb:b∈fp)(e:h.get? b=some o):(b,o)∈Ua fp h:=EC.mpr ⟨b,hb,by rw [e];rfl⟩
theorem Ac9 {fp:List Addr}{h:Heap}{p:Addr×Obj}(hp:p∈Ua fp h):p.1∈fp∧h.get? p.1=some p.2:=by
 obtain ⟨b,hb,e⟩:=EC.mp hp
 cases q:h.get? b with
 |none=>rw [q] at e;cases e
 |some o=>
  rw [q] at e
  have e':(b,o)=p:=Option.some.inj e
  subst e'
  eC ⟨hb,q⟩
theorem Ar.pinned {pins:List (Addr×Obj)}{σ:St}{H:Hp}{s:Shared}{fp:List Addr}(I:Ar X pins σ H s)(hf:∀b∈fp,Ma X pins H b)(ho:∀b∈fp,∃o,s.heap.get? b=some o∧∀v,o.data≠.cell v):Ar X (pins++Ua fp s.heap) σ H s:=
 I.pins_of fun p hp=>(BV.mp hp).elim (fun z=>I.pin p (AX _ z)) fun z=>by
  obtain ⟨hb,e⟩:=Ac9 z
  obtain ⟨f0,f1,f2,_⟩:=hf p.1 hb
  obtain ⟨o,e',d⟩:=ho p.1 hb
  rw [e] at e';cases e'
  eC ⟨e,f0,f1,f2,d⟩
theorem Ar.unpinned {pins pl:List (Addr×Obj)}{σ:St}{H:Hp}{s:Shared}(I:Ar X (pins++pl) σ H s):Ar X pins σ H s:=I.pins_of fun p hp=>I.pin p (AX _ (EL _ hp))
theorem K2 {iter:Expr}{body:List Stmt}{wi:TI}{g:TG}{tb:TS}{pos:Pos}(hp:PassesOwn (model X.prog X.w) X.A X.env X.xe)(hc:X.calm=true)(hi:PI X tg iter wi)(hg:PG X tg g)(hb:Ny X body tb)
  (hs:∀x,foldedSetIterable iter X.env x=pure x:=by intro _;rfl):PS X (.For tg iter body [] pos) (Asi wi g tb):=by
 intro pins s σ H D I h
 rA wpAny_For (Bi (hi pins s σ H _ I h) fun v s1 h1=>Bi h1 fun itv s2 h2=>?_) hs
 obtain ⟨it,fp,tn,J,H2,e,I2,T,st2,f2,W,⟨m0,w0⟩,turn⟩:=h2
 subst e
 have stat:∀{H':Hp},(∀b∈fp,H' b=none)→∀b∈fp,Ma X pins H' b:=fun hn b hb=>⟨hn b hb,(f2 b hb).2⟩
 rA codeAny_forLoop_any (fun n s'=>∃i σ' H',Ar X pins σ' H' s'∧tn i s'.heap∧(∀b∈fp,H' b=none)∧W i n σ' H') ?_ m0 ⟨0,σ,H2,I2,st2,fun b hb=>(f2 b hb).1,w0⟩
 rintro n s3 ⟨i,σ3,H3,I3,st3,fr3,w3⟩
 rcases turn i n σ3 H3 w3 with ⟨stop,qn⟩|⟨go,N,hN,step⟩
 ·rA EG hp (Bi (T.done X rfl rfl rfl hc i pins s3 σ3 H3 X.xe I3 (stat fr3) st3 stop) fun r s4 ⟨hr,I4⟩=>?_)
  subst hr
  eC GB ⟨σ3,H3,I4,qn⟩
 ·rA EG hp (Bi (T.item X rfl rfl rfl hc i pins s3 σ3 H3 X.xe I3 (stat fr3) st3 go) fun r s4 ⟨u,hr,h4⟩=>?_)
  subst hr
  rA EG hp (Bi h4 fun _ s5 ⟨x,H5,I5,r5,y5,st5,fr5⟩=>?_)
  have I5':=I5.pinned (stat fr5) (T.obj _ _ st5)
  rA EG hp (Bi (hg _ s5 σ3 H5 x u _ I5' r5 (step x H5 y5)) fun _ s6 ⟨σ6,H6,I6,q6⟩=>?_)
  rA EG hp (Bi (hb _ s6 σ6 H6 _ I6 q6) fun f s7 q7=>?_)
  have again:∀{σ7:St} {H7:Hp},Ar X (pins++Ua fp s5.heap) σ7 H7 s7→N σ7 H7→∃m,m<n∧∃i σ' H',Ar X pins σ' H' s7∧tn i s7.heap∧(∀b∈fp,H' b=none)∧W i m σ' H':=fun {σ7 H7} I7 n7=>by
   obtain ⟨m',hm,w7⟩:=hN σ7 H7 n7
   rA ⟨m',hm,i+1,σ7,H7,I7.unpinned,T.keep _ _ _ st5 fun b hb o e=>(I7.pin (b,o) (AX _ (AX _ (C2 hb e)))).1,fun b hb=>?_,w7⟩
   obtain ⟨o,e,d⟩:=T.obj _ _ st5 b hb
   eC (I7.pin (b,o) (AX _ (AX _ (C2 hb e)))).2.1
  cases f with
  |next=>obtain ⟨σ7,H7,I7,n7⟩:=q7;eC again I7 n7
  |cont=>obtain ⟨σ7,H7,I7,n7⟩:=q7;eC again I7 n7
  |brk=>obtain ⟨σ7,H7,I7,q7⟩:=q7;eC ⟨σ7,H7,I7.unpinned,q7⟩
  |ret v=>obtain ⟨x7,σ7,H7,I7,r7,q7⟩:=q7;eC ⟨x7,σ7,H7,I7.unpinned,r7,q7⟩
end
theorem L3 {K:KKf}{a:Addr}{xs:List V}{g:TG}{tb:TS}{D:Og}{σ:St}{H:Hp}(Pv:Nat→St→Hp→Prop)(h0:Pv 0 σ H)(hl:∀i σ H,i≤xs.length→Pv i σ H→A3 K H a xs)
  (hs:∀i x σ H,xs[i]? =some x→Pv i σ H→g x σ H fun σ2 H2=>tb { D with nx:=Pv (i+1),ct:=Pv (i+1),bk:=D.nx } σ2 H2) (hd:∀σ H,Pv xs.length σ H→D.nx σ H) :
  ∃W:Nat→Nat→St→Hp→Prop,(∃m,W 0 m σ H)∧∀i m σ H,W i m σ H →
   ((Itl K a).stop i H∧D.nx σ H)∨((Itl K a).go i H∧∃N:St→Hp→Prop,(∀σ' H',N σ' H'→∃m',m'<m∧W (i+1) m' σ' H')∧∀x H',(Itl K a).yld i H x H'→g x σ H' fun σ2 H2=>tb { D with nx:=N,ct:=N,bk:=D.nx } σ2 H2):=by
 rA ⟨fun i m σ H=>m=xs.length-i∧i≤xs.length∧Pv i σ H,⟨xs.length,by simp,AV _,h0⟩,?_⟩
 rintro i m σ H ⟨rfl,hi,p⟩
 have q:=hl i σ H hi p
 by_cases hlt:i<xs.length
 ·rA .inr ⟨⟨xs,xs[i],q,by simp [hlt]⟩,Pv (i+1),fun σ' H' p'=>⟨xs.length-(i+1),by omega,rfl,hlt,p'⟩,fun x H' y=>?_⟩
  obtain ⟨e,y⟩:=y
  subst e
  eC hs i x σ _ (y xs q) p
 ·have e:i=xs.length:=by omega
  subst e
  eC .inl ⟨⟨xs,q,AF _⟩,hd σ H p⟩
theorem Ahj {K:KKf}{a:Addr}{xs:List V}{g:TG}{tb:TS}{D:Og}{σ:St}{H:Hp}(Pv:Nat→St→Hp→Prop)(h0:Pv 0 σ H)(hl:∀i σ H,i≤xs.length→Pv i σ H→Ec K H a xs)
  (hs:∀i x σ H,xs[i]? =some x→Pv i σ H→g x σ H fun σ2 H2=>tb { D with nx:=Pv (i+1),ct:=Pv (i+1),bk:=D.nx } σ2 H2) (hd:∀σ H,Pv xs.length σ H→D.nx σ H) :
  ∃W:Nat→Nat→St→Hp→Prop,(∃m,W 0 m σ H)∧∀i m σ H,W i m σ H →
   ((Itt K a).stop i H∧D.nx σ H)∨((Itt K a).go i H∧∃N:St→Hp→Prop,(∀σ' H',N σ' H'→∃m',m'<m∧W (i+1) m' σ' H')∧∀x H',(Itt K a).yld i H x H'→g x σ H' fun σ2 H2=>tb { D with nx:=N,ct:=N,bk:=D.nx } σ2 H2):=by
 rA ⟨fun i m σ H=>m=xs.length-i∧i≤xs.length∧Pv i σ H,⟨xs.length,by simp,AV _,h0⟩,?_⟩
 rintro i m σ H ⟨rfl,hi,p⟩
 have q:=hl i σ H hi p
 by_cases hlt:i<xs.length
 ·rA .inr ⟨⟨xs,xs[i],q,by simp [hlt]⟩,Pv (i+1),fun σ' H' p'=>⟨xs.length-(i+1),by omega,rfl,hlt,p'⟩,fun x H' y=>?_⟩
  obtain ⟨e,y⟩:=y
  subst e
  eC hs i x σ _ (y xs q) p
 ·have e:i=xs.length:=by omega
  subst e
  eC .inl ⟨⟨xs,q,AF _⟩,hd σ H p⟩
theorem Rr {lo:Int}{n:Nat}{g:TG}{tb:TS}{D:Og}{σ:St}{H:Hp}(Pv:Nat→St→Hp→Prop)(h0:Pv 0 σ H)
  (hs:∀i σ H,i<n→Pv i σ H→g (.int (lo+i)) σ H fun σ2 H2=>tb { D with nx:=Pv (i+1),ct:=Pv (i+1),bk:=D.nx } σ2 H2) (hd:∀σ H,Pv n σ H→D.nx σ H) :
  ∃W:Nat→Nat→St→Hp→Prop,(∃m,W 0 m σ H)∧∀i m σ H,W i m σ H →
   ((Itr lo n).stop i H∧D.nx σ H)∨((Itr lo n).go i H∧∃N:St→Hp→Prop,(∀σ' H',N σ' H'→∃m',m'<m∧W (i+1) m' σ' H')∧∀x H',(Itr lo n).yld i H x H'→g x σ H' fun σ2 H2=>tb { D with nx:=N,ct:=N,bk:=D.nx } σ2 H2):=by
 rA ⟨fun i m σ H=>m=n-i∧i≤n∧Pv i σ H,⟨n,by simp,AV _,h0⟩,?_⟩
 rintro i m σ H ⟨rfl,hi,p⟩
 by_cases hlt:i<n
 ·rA .inr ⟨hlt,Pv (i+1),fun σ' H' p'=>⟨n-(i+1),by omega,rfl,hlt,p'⟩,fun x H' y=>?_⟩
  obtain ⟨e,y⟩:=y
  subst e y
  eC hs i σ _ hlt p
 ·have e:i=n:=by omega
  subst e
  eC .inl ⟨AF _,hd σ H p⟩
end L2
namespace L2
open PySem PySem.Spec PyProof.Rows
abbrev R2:=V→V→Hp→VK→Prop
def Dy (X:Cx)(f:Value→Value→Sem Value)(r:R2):Prop:=
 ∀(pins:List (Addr×Obj)) (s:Shared) (σ:St) (H:Hp) (x y:V) (v u:Value) (Q:VK),Ar X pins σ H s→RelV x v→RelV y u→r x y H Q →
  wpAny (model X.prog X.w) X.A (f v u) (EP X pins σ Q) X.xe s
def UnR (X:Cx)(f:Value→Sem Value)(r:V→Hp→VK→Prop):Prop:=
 ∀(pins:List (Addr×Obj)) (s:Shared) (σ:St) (H:Hp) (x:V) (v:Value) (Q:VK),Ar X pins σ H s→RelV x v→r x H Q →
  wpAny (model X.prog X.w) X.A (f v) (EP X pins σ Q) X.xe s
def Dg (X:Cx)(f:Value)(r:List V→Hp→VK→Prop):Prop:=
 ∀(pins:List (Addr×Obj)) (s:Shared) (σ:St) (H:Hp) (xs:List V) (us:List Value) (Q:VK),Ar X pins σ H s→A7 xs us→r xs H Q →
  wpAny (model X.prog X.w) X.A (call f us) (EP X pins σ Q) X.xe s
def tOp (r:R2)(ta tb:TE):TE:=fun σ H Q=>ta σ H fun x H1=>tb σ H1 fun y H2=>r x y H2 Q
def tUn (r:V→Hp→VK→Prop)(ta:TE):TE:=fun σ H Q=>ta σ H fun x H1=>r x H1 Q
def rI (C:Int→Int→Prop)(g:Int→Int→V):R2:=fun x y H Q=>∃i j,x=.int i∧y=.int j∧C i j∧Q (g i j) H
def rI0 (g:Int→Int→V):R2:=fun x y H Q=>∃i j,x=.int i∧y=.int j∧Q (g i j) H
def rU (g:Int→V):V→Hp→VK→Prop:=fun x H Q=>∃i,x=.int i∧Q (g i) H
section
variable {X:Cx}{a b c:Expr}{ta tb tc:TE}{pos:Pos}
theorem Ak7 (ha:PE X a ta)(hb:PE X b tb){pins:List (Addr×Obj)}{s:Shared}{σ:St}{H:Hp}{R:V→V→Hp→Prop}(I:Ar X pins σ H s)
  (h:ta σ H fun x H1=>tb σ H1 fun y H2=>R x y H2) {Q:Value→Shared→Prop} {f:Value→Value→Sem Value}
  (hf:∀v u s2 x y H2,Ar X pins σ H2 s2→RelV x v→RelV y u→R x y H2→wpAny (model X.prog X.w) X.A (f v u) Q X.xe s2) :
  wpAny (model X.prog X.w) X.A (eval a X.env) (fun v s₁=>wpAny (model X.prog X.w) X.A (eval b X.env) (fun u s₂=>wpAny (model X.prog X.w) X.A (f v u) Q X.xe s₂) X.xe s₁) X.xe s:=by
 rA Bi (ha pins s σ H _ I h) fun v s1 ⟨x,H1,I1,r1,q1⟩=>?_
 rA Bi (hb pins s1 σ H1 _ I1 q1) fun u s2 ⟨y,H2,I2,r2,q2⟩=>?_
 eC hf v u s2 x y H2 I2 r1 r2 q2
theorem Am {op:Operator}{r:R2}(ho:Dy X (binaryOp op) r)(ha:PE X a ta)(hb:PE X b tb):PE X (.BinOp a op b pos) (tOp r ta tb):=by
 intro pins s σ H Q I h
 eC wpAny_BinOp (Ak7 ha hb I h fun v u s2 x y H2 I2 rx ry q=>ho pins s2 σ H2 x y v u Q I2 rx ry q)
theorem L4 {op:UnaryOp}{r:V→Hp→VK→Prop}(ho:UnR X (unaryOp op) r)(ha:PE X a ta):PE X (.UnaryOp op a pos) (tUn r ta):=by
 intro pins s σ H Q I h
 eC UnaryOp_ (Bi (ha pins s σ H _ I h) fun v s1 ⟨x,H1,I1,r1,q1⟩=>ho pins s1 σ H1 x v Q I1 r1 q1)
theorem opI {f:Value→Value→Sem Value}{C:Int→Int→Prop}{g:Int→Int→Int}
  (rule:∀(i j:Int) (t u:Tok) (s:Shared) (Q:Value→Shared→Prop) (E:Value→Shared→Prop),C i j→Q (.int (g i j) s.toks) { s with toks:=s.toks+1 }→wpAny (model X.prog X.w) X.A (f (.int i t) (.int j u)) Q E s) :
  Dy X f (rI C fun i j=>.int (g i j)):=by
 intro pins s σ H x y v u Q I rx ry h
 obtain ⟨i,j,rfl,rfl,hc,q⟩:=h
 obtain ⟨t,rfl⟩:=rx
 obtain ⟨t',rfl⟩:=ry
 eC rule i j t t' s _ _ hc ⟨.int (g i j),H,I.tok _,⟨_,rfl⟩,q⟩
theorem Aoa {f:Value→Value→Sem Value}{g:Int→Int→Int}
  (rule:∀(i j:Int) (t u:Tok) (s:Shared) (Q:Value→Shared→Prop) (E:Value→Shared→Prop),Q (.int (g i j) s.toks) { s with toks:=s.toks+1 }→wpAny (model X.prog X.w) X.A (f (.int i t) (.int j u)) Q E s) :
  Dy X f (rI0 fun i j=>.int (g i j)):=by
 intro pins s σ H x y v u Q I rx ry h
 obtain ⟨i,j,rfl,rfl,q⟩:=h
 obtain ⟨t,rfl⟩:=rx
 obtain ⟨t',rfl⟩:=ry
 eC rule i j t t' s _ _ ⟨.int (g i j),H,I.tok _,⟨_,rfl⟩,q⟩
theorem Aiu {f:Value→Value→Sem Value}{g:Int→Int→Bool}
  (rule:∀(i j:Int) (t u:Tok) (s:Shared) (Q:Value→Shared→Prop) (E:Value→Shared→Prop),Q (.bool (g i j)) s→wpAny (model X.prog X.w) X.A (f (.int i t) (.int j u)) Q E s) :
  Dy X f (rI0 fun i j=>.bl (g i j)):=by
 intro pins s σ H x y v u Q I rx ry h
 obtain ⟨i,j,rfl,rfl,q⟩:=h
 obtain ⟨t,rfl⟩:=rx
 obtain ⟨t',rfl⟩:=ry
 eC rule i j t t' s _ _ ⟨.bl (g i j),H,I,rfl,q⟩
def Aow (i j:Int):Prop:=0≤j∧j≤1000000∧i.natAbs<2 ^ 64
def Al9 (i j:Int):Prop:=(-(2 ^ 64)<i∧i<2 ^ 64)∨(-(2 ^ 64)<j∧j<2 ^ 64)
theorem Al9.ok {i j:Int}(h:Al9 i j):IntMulOk i j:=by
 rcases h with ⟨h1,h2⟩|⟨h1,h2⟩
 ·eC .of_left (intBits_le_64 h1 h2)
 ·eC .of_right (intBits_le_64 h1 h2)
theorem Amh:Dy X (binaryOp .Add) (rI0 fun i j=>.int (i+j)):=Aoa fun _ _ _ _ _ _ _ q=>add_int q
theorem Amn:Dy X (binaryOp .Sub) (rI0 fun i j=>.int (i-j)):=Aoa fun _ _ _ _ _ _ _ q=>sub_int q
theorem Ald:Dy X (binaryOp .Mod) (rI (fun _ j=>0<j) fun i j=>.int (i % j)):=opI fun i j _ _ _ _ _ hc q=>by
 have h1:(0:Int)<j:=hc
 eC mod_int' #o (by rw [Int.fmod_eq_emod_of_nonneg i #o];eC q)
theorem Ahu:Dy X (binaryOp .Mod) (rI (fun _ j=>j≠0) fun i j=>.int (i.fmod j)):=opI fun _ _ _ _ _ _ _ hc q=>mod_int' hc q
theorem Amz:Dy X (binaryOp .Pow) (rI Aow fun i j=>.int (i ^ j.toNat)):=opI fun _ _ _ _ _ _ _ hc q=>pow_int_small hc.1 hc.2.1 hc.2.2 q
theorem unI {f:Value→Sem Value}{g:Int→Int}
  (rule:∀(i:Int) (t:Tok) (s:Shared) (Q:Value→Shared→Prop) (E:Value→Shared→Prop),Q (.int (g i) s.toks) { s with toks:=s.toks+1 }→wpAny (model X.prog X.w) X.A (f (.int i t)) Q E s) :
  UnR X f (rU fun i=>.int (g i)):=by
 intro pins s σ H x v Q I rx h
 obtain ⟨i,rfl,q⟩:=h
 obtain ⟨t,rfl⟩:=rx
 eC rule i t s _ _ ⟨.int (g i),H,I.tok _,⟨_,rfl⟩,q⟩
theorem Anb:UnR X (unaryOp .USub) (rU fun i=>.int (-i)):=unI fun _ _ _ _ _ q=>neg_int q
end
def Aqm:V→V→Bool
 |.non,.non=>true|.non,.int _=>true|.int _,.non=>true|.non,.bl _=>true|.bl _,.non=>true|.non,.str _=>true|.str _,.non=>true
 |.int _,.int _=>true|.bl _,.bl _=>true|.str _,.str _=>true|.byt _,.byt _=>true
 |.int _,.str _=>true|.str _,.int _=>true|.bl _,.str _=>true|.str _,.bl _=>true
 |_,_=>false
def rEq:R2:=fun x y H Q=>Aqm x y=true∧Q (.bl (decide (x=y))) H
def rNe:R2:=fun x y H Q=>Aqm x y=true∧Q (.bl (!decide (x=y))) H
theorem Abf {i j:Int}:decide (V.int i=V.int j)=(i==j):=by
 rw [FH]
 simp
theorem U3 {i j:Bool}:decide (V.bl i=V.bl j)=(i==j):=by
 rw [FH]
 simp
theorem Ab1 {i j:Str}:decide (V.str i=V.str j)=(i==j):=by
 rw [FH]
 simp
theorem Abg {i j:Array UInt8}:decide (V.byt i=V.byt j)=(i.toList==j.toList):=by
 rw [FH]
 cases i
 cases j
 simp
section
variable {X:Cx}{a b c:Expr}{ta tb tc:TE}{pos:Pos}
theorem Bh {pins:List (Addr×Obj)}{σ:St}{H:Hp}{s:Shared}{Q:VK}{k k':Bool}(I:Ar X pins σ H s)(q:Q (.bl k) H)(e:k=k'):EP X pins σ Q (.bool k') s:=by
 subst e
 eC ⟨.bl k,H,I,rfl,q⟩
theorem Aoi:Dy X (compareOp .Eq) rEq:=by
 intro pins s σ H x y v u Q I rx ry h
 obtain ⟨hs,q⟩:=h
 cases x with
 |non=>
  cases rx
  cases y with
  |non=>cases ry;eC PySem.EqNone.eq_none_none (Bh I q (by simp))
  |bl j=>cases ry;eC PySem.EqNone.eq_none_bool (Bh I q (by simp))
  |int j=>obtain ⟨t',rfl⟩:=ry;eC PySem.EqNone.eq_none_int (Bh I q (by simp))
  |str j=>obtain ⟨t',rfl⟩:=ry;eC PySem.EqNone.eq_none_str (Bh I q (by simp))
  |_=>eC absurd (show false=true from hs) BC
 |bl i=>
  cases rx
  cases y with
  |non=>cases ry;eC PySem.EqNone.eq_bool_none (Bh I q (by simp))
  |bl j=>cases ry;eC eq_bool (Bh I q U3)
  |str j=>obtain ⟨t',rfl⟩:=ry;eC PySem.EqMixed.eq_bool_str (Bh I q (by simp))
  |_=>eC absurd (show false=true from hs) BC
 |int i=>
  obtain ⟨t,rfl⟩:=rx
  cases y with
  |non=>cases ry;eC PySem.EqNone.eq_int_none (Bh I q (by simp))
  |int j=>obtain ⟨t',rfl⟩:=ry;eC eq_int (Bh I q Abf)
  |str j=>obtain ⟨t',rfl⟩:=ry;eC PySem.EqMixed.eq_int_str (Bh I q (by simp))
  |_=>eC absurd (show false=true from hs) BC
 |str i=>
  obtain ⟨t,rfl⟩:=rx
  cases y with
  |non=>cases ry;eC PySem.EqNone.eq_str_none (Bh I q (by simp))
  |bl j=>cases ry;eC PySem.EqMixed.eq_str_bool (Bh I q (by simp))
  |int j=>obtain ⟨t',rfl⟩:=ry;eC PySem.EqMixed.eq_str_int (Bh I q (by simp))
  |str j=>obtain ⟨t',rfl⟩:=ry;eC eq_str (Bh I q Ab1)
  |_=>eC absurd (show false=true from hs) BC
 |byt i=>
  obtain ⟨t,rfl⟩:=rx
  cases y with
  |byt j=>obtain ⟨t',rfl⟩:=ry;eC PySem.W.eq_bytes (Bh I q Abg)
  |_=>eC absurd (show false=true from hs) BC
 |_=>cases y<;>eC absurd (show false=true from hs) BC
theorem Aqc:Dy X (compareOp .NotEq) rNe:=by
 intro pins s σ H x y v u Q I rx ry h
 obtain ⟨hs,q⟩:=h
 cases x with
 |non=>
  cases rx
  cases y with
  |non=>cases ry;eC PySem.EqNone.ne_none_none (Bh I q (by simp))
  |bl j=>cases ry;eC PySem.EqNone.ne_none_bool (Bh I q (by simp))
  |int j=>obtain ⟨t',rfl⟩:=ry;eC PySem.EqNone.ne_none_int (Bh I q (by simp))
  |str j=>obtain ⟨t',rfl⟩:=ry;eC PySem.EqNone.ne_none_str (Bh I q (by simp))
  |_=>eC absurd (show false=true from hs) BC
 |bl i=>
  cases rx
  cases y with
  |non=>cases ry;eC PySem.EqNone.ne_bool_none (Bh I q (by simp))
  |bl j=>cases ry;eC ne_bool (Bh I q (congrArg not U3))
  |str j=>obtain ⟨t',rfl⟩:=ry;eC PySem.EqMixed.ne_bool_str (Bh I q (by simp))
  |_=>eC absurd (show false=true from hs) BC
 |int i=>
  obtain ⟨t,rfl⟩:=rx
  cases y with
  |non=>cases ry;eC PySem.EqNone.ne_int_none (Bh I q (by simp))
  |int j=>obtain ⟨t',rfl⟩:=ry;eC ne_int (Bh I q (congrArg not Abf))
  |str j=>obtain ⟨t',rfl⟩:=ry;eC PySem.EqMixed.ne_int_str (Bh I q (by simp))
  |_=>eC absurd (show false=true from hs) BC
 |str i=>
  obtain ⟨t,rfl⟩:=rx
  cases y with
  |non=>cases ry;eC PySem.EqNone.ne_str_none (Bh I q (by simp))
  |bl j=>cases ry;eC PySem.EqMixed.ne_str_bool (Bh I q (by simp))
  |int j=>obtain ⟨t',rfl⟩:=ry;eC PySem.EqMixed.ne_str_int (Bh I q (by simp))
  |str j=>obtain ⟨t',rfl⟩:=ry;eC ne_str (Bh I q (congrArg not Ab1))
  |_=>eC absurd (show false=true from hs) BC
 |byt i=>
  obtain ⟨t,rfl⟩:=rx
  cases y with
  |byt j=>obtain ⟨t',rfl⟩:=ry;eC PySem.W.ne_bytes (Bh I q (congrArg not Abg))
  |_=>eC absurd (show false=true from hs) BC
 |_=>cases y<;>eC absurd (show false=true from hs) BC
theorem Aqe:Dy X (compareOp .Lt) (rI0 fun i j=>.bl (decide (i<j))):=Aiu fun _ _ _ _ _ _ _ q=>lt_int q
theorem Aov:Dy X (compareOp .LtE) (rI0 fun i j=>.bl (decide (i≤j))):=Aiu fun _ _ _ _ _ _ _ q=>le_int q
theorem Ap3:Dy X (compareOp .Gt) (rI0 fun i j=>.bl (decide (j<i))):=Aiu fun _ _ _ _ _ _ _ q=>gt_int q
theorem Apj:Dy X (compareOp .GtE) (rI0 fun i j=>.bl (decide (j≤i))):=Aiu fun _ _ _ _ _ _ _ q=>ge_int q
theorem Adl:Dy X (compareOp .In) (fun x y H Q=>∃i j,x=.str i∧y=.str j∧Q (.bl (!(Builtin.Str.occurrences j i 0 j.length 1).isEmpty)) H):=by
 intro pins s σ H x y v u Q I rx ry h
 obtain ⟨i,j,rfl,rfl,q⟩:=h
 obtain ⟨t,rfl⟩:=rx
 obtain ⟨t',rfl⟩:=ry
 eC in_str (Bh I q rfl)
theorem Ay (b:Expr){op:CmpOp}(h:op≠.In:=by decide)(h2:op≠.NotIn:=by decide):behindInMarks op b=false:=by
 have e1:(op==CmpOp.In)=false:=by cases op<;>first|rfl|eC absurd rfl h
 have e2:(op==CmpOp.NotIn)=false:=by cases op<;>first|rfl|eC absurd rfl h2
 cases b<;>simp [behindInMarks,e1,e2]
theorem Co {op:CmpOp}{r:R2}(ho:Dy X (compareOp op) r)(ha:PE X a ta)(hb:PE X b tb)(hm:behindInMarks op b=false):PE X (.Compare a [op] [b] pos) (tOp r ta tb):=by
 intro pins s σ H Q I h
 eC wpAny_Compare1 (Ak7 ha hb I h fun v u s2 x y H2 I2 rx ry q=>ho pins s2 σ H2 x y v u Q I2 rx ry q) hm
def Aae (t:TE):TT:=fun σ H Q=>t σ H fun x H'=>∃k,x=.bl k∧Q k H'
theorem Aie {op:CmpOp}{r:R2}(ho:Dy X (compareOp op) r)(ha:PE X a ta)(hb:PE X b tb)(hm:behindInMarks op b=false):PT X (.Compare a [op] [b] pos) (Aae (tOp r ta tb)):=by
 intro pins s σ H Q I h
 rA wpAny_isTrue_Compare1 (Bi (ha pins s σ H _ I h) fun v s1 ⟨x,H1,I1,r1,q1⟩=>Bi (hb pins s1 σ H1 _ I1 q1) fun u s2 ⟨y,H2,I2,r2,q2⟩=>
  Bi (ho pins s2 σ H2 x y v u _ I2 r1 r2 q2) fun c s3 ⟨z,H3,I3,r3,k,e,q3⟩=>?_) hm
 subst e
 cases r3
 eC CV ⟨H3,I3,q3⟩
def Vq (r r':R2)(ta tb tc:TE):TE:=fun σ H Q=>ta σ H fun x H1=>tb σ H1 fun y H2=>r x y H2 fun z H3=>∃k,z=.bl k ∧
 (if k=true then tc σ H3 fun w' H4=>r' y w' H4 Q else Q (.bl false) H3)
theorem Afz {op op':CmpOp}{r r':R2}(ho:Dy X (compareOp op) r)(ho':Dy X (compareOp op') r')(ha:PE X a ta)(hb:PE X b tb)(hc:PE X c tc)
  (hm:lastMarks [op,op'] [b,c]=false:=by with_unfolding_all rfl):PE X (.Compare a [op,op'] [b,c] pos) (Vq r r' ta tb tc):=by
 intro pins s σ H Q I h
 rA Compare_chain (Bi (ha pins s σ H _ I h) fun v s1 ⟨x,H1,I1,r1,q1⟩=>chain_link (Bi (hb pins s1 σ H1 _ I1 q1) fun u s2 ⟨y,H2,I2,r2,q2⟩=>
  Bi (ho pins s2 σ H2 x y v u _ I2 r1 r2 q2) fun d s3 ⟨z,H3,I3,r3,k,e,q3⟩=>?_)) hm
 subst e
 cases r3
 rA CV ?_
 cases k with
 |false=>eC ite_ff ⟨.bl false,H3,I3,rfl,q3⟩
 |true=>eC ite_tt (chain_last (Bi (hc pins s3 σ H3 _ I3 q3) fun w' s4 ⟨z',H4,I4,r4,q4⟩=>ho' pins s4 σ H4 y z' u w' Q I4 r2 r4 q4))
theorem Ae5 {op op':CmpOp}{r r':R2}(ho:Dy X (compareOp op) r)(ho':Dy X (compareOp op') r')(ha:PE X a ta)(hb:PE X b tb)(hc:PE X c tc)
  (hm:lastMarks [op,op'] [b,c]=false:=by with_unfolding_all rfl):PT X (.Compare a [op,op'] [b,c] pos) (Aae (Vq r r' ta tb tc)):=by
 intro pins s σ H Q I h
 rA isTrue_chain (Bi (ha pins s σ H _ I h) fun v s1 ⟨x,H1,I1,r1,q1⟩=>test_link (Bi (hb pins s1 σ H1 _ I1 q1) fun u s2 ⟨y,H2,I2,r2,q2⟩=>
  Bi (ho pins s2 σ H2 x y v u _ I2 r1 r2 q2) fun d s3 ⟨z,H3,I3,r3,k,e,q3⟩=>?_)) hm
 subst e
 cases r3
 rA CV ?_
 cases k with
 |false=>
  obtain ⟨k',e',q'⟩:=q3
  cases e'
  eC ite_ff ⟨H3,I3,q'⟩
 |true=>
  rA ite_tt (test_last (Bi (hc pins s3 σ H3 _ I3 q3) fun w' s4 ⟨z',H4,I4,r4,q4⟩=>Bi (ho' pins s4 σ H4 y z' u w' _ I4 r2 r4 q4) fun d' s5 ⟨z2,H5,I5,r5,k2,e2,q5⟩=>?_))
  subst e2
  cases r5
  eC CV ⟨H5,I5,q5⟩
theorem Ng:(sizeLine:Nat)<2 ^ 63:=by rw [CL];decide
theorem Zx:Dy X (binaryOp .Add) (fun x y H Q=>∃i j,x=.str i∧y=.str j∧i.length+j.length≤sizeLine∧Q (.str (i++j)) H):=by
 intro pins s σ H x y v u Q I rx ry h
 obtain ⟨i,j,rfl,rfl,hz,q⟩:=h
 obtain ⟨t,rfl⟩:=rx
 obtain ⟨t',rfl⟩:=ry
 eC add_str (fun t' tk=>⟨.str (i++j),H,I.tok _,⟨_,rfl⟩,q⟩) hz
theorem F2 {x:V}{us:List Value}(r:A7 [x] us):∃u,us=[u]∧RelV x u:=by
 cases r with
 |cons r1 r2=>cases r2;eC ⟨_,rfl,r1⟩
theorem Iz {x y:V}{us:List Value}(r:A7 [x,y] us):∃u w',us=[u,w']∧RelV x u∧RelV y w':=by
 cases r with
 |cons r1 r2=>
  cases r2 with
  |cons r3 r4=>cases r4;eC ⟨_,_,rfl,r1,r3⟩
theorem Ad7:Dg X (.builtin "abs") (fun xs H Q=>∃i,xs=[.int i]∧Q (.int (if i<0 then -i else i)) H):=by
 intro pins s σ H xs us Q I r h
 obtain ⟨i,rfl,q⟩:=h
 obtain ⟨u,rfl,t,rfl⟩:=F2 r
 eC call_abs_int fun u tk=>⟨.int (if i<0 then -i else i),H,I.tok _,⟨_,rfl⟩,q⟩
theorem Ac8 (hc:X.calm=true):Dg X (.builtin "max") (fun xs H Q=>∃i j,xs=[.int i,.int j]∧Q (.int (if j>i then j else i)) H):=by
 intro pins s σ H xs us Q I r h
 obtain ⟨i,j,rfl,q⟩:=h
 obtain ⟨u,w',rfl,⟨t,rfl⟩,⟨t',rfl⟩⟩:=Iz r
 rA max_two_ints (I.ok.hd hc) fun h' tk k=>⟨_,H,I.kept k,?_,q⟩
 by_cases hj:j>i
 ·rw [AN hj,AN hj];eC ⟨_,rfl⟩
 ·rw [AI hj,AI hj];eC ⟨_,rfl⟩
theorem So (hc:X.calm=true):Dg X (.builtin "min") (fun xs H Q=>∃i j,xs=[.int i,.int j]∧Q (.int (if j<i then j else i)) H):=by
 intro pins s σ H xs us Q I r h
 obtain ⟨i,j,rfl,q⟩:=h
 obtain ⟨u,w',rfl,⟨t,rfl⟩,⟨t',rfl⟩⟩:=Iz r
 rA min_two_ints (I.ok.hd hc) fun h' tk k=>⟨_,H,I.kept k,?_,q⟩
 by_cases hj:j<i
 ·rw [AN hj,AN hj];eC ⟨_,rfl⟩
 ·rw [AI hj,AI hj];eC ⟨_,rfl⟩
theorem Ve:Dg X (.type "str") (fun xs H Q=>∃i,xs=[.int i]∧i.natAbs.log2<1920∧Q (.str (toString i)) H):=by
 intro pins s σ H xs us Q I r h
 obtain ⟨i,rfl,hz,q⟩:=h
 obtain ⟨u,rfl,t,rfl⟩:=F2 r
 eC PySem.P.str_of_int hz ⟨.str _,H,I.tok _,⟨_,rfl⟩,q⟩
end
end L2
namespace L2
open PySem PySem.Spec PyProof.Rows
structure Y4 (h:Heap)(x dx C:Addr)(mA:Str→Option Value):Prop where
 obj:h.get? x=some (PySem.W.instObj C dx)
 ns:h.Ns1 dx mA
 ne:dx≠x
theorem Ac2 {h:Heap}{dx:Addr}{mA:Str→Option Value}(n:h.Ns1 dx mA):∃od,h.get? dx=some od∧∀name,PySem.W.lookIn name od=some (mA name):=by
 obtain ⟨o,es,ep,ho,hd,hk,_,hm⟩:=n
 rA ⟨o,ho,fun name=>?_⟩
 have e:=hm name
 unfold nsFind findBy at e
 rw [←Array.find?_toList] at e
 unfold PySem.W.lookIn
 rw [hd]
 dsimp only
 split
 ·rename_i y q
  rw [q] at e
  eC congrArg some e
 ·rename_i q
  rw [q] at e
  have a:es.toList.any (·.refKey)=false:=by
   rw [List.any_eq_false]
   intro y hy
   obtain ⟨z,t,hkey⟩:=hk y (Array.mem_toList_iff.mp hy)
   simp [DictEntry.refKey,hkey]
  have a':¬es.toList.any (·.refKey)=true:=by rw [a];eC BC
  rw [AI a']
  eC congrArg some e
theorem Y4.look {h:Heap}{x dx C:Addr}{mA:Str→Option Value}(I:Y4 h x dx C mA):∃od,PySem.W.InstAt h x (PySem.W.instObj C dx) C (some od)∧∀name,PySem.W.lookIn name od=some (mA name):=
 let ⟨od,ho,hl⟩:=Ac2 I.ns
 ⟨od,⟨I.obj,rfl,rfl,ho⟩,hl⟩
section
variable {prog:Program}{w:World}{A:Around}{E:Value→Shared→Prop}{s:Shared}{K:KKf}{x dx C f:Addr}{mA:Str→Option Value}{name:Str}{v:Value}
theorem Ahl {expr:Bool}{Q:Value→Shared→Prop}(X:K.In s.heap)(I:Y4 s.heap x dx C mA)(hg:PySem.W.plainGet K C name=true)(hh:PySem.W.hasDictIn K C=true)
  (ha:PySem.W.findIn K (.ref C) name=some none) (hv:mA name=some v) (hv':PySem.W.handedIn v=true) (h:Q v { s with toks:=s.toks+1 }) :
  wpAny (model prog w) A (getAttr (.ref x) name expr) Q E s:=by
 obtain ⟨od,J,hl⟩:=I.look
 eC PySem.W.get_value X J (PySem.W.plainGet_of hg).1 (PySem.W.findObj_own hh ha rfl (by rw [hl,hv])) hv' h
theorem Afe {pl:Sem Bool}{Q:Value×List Value→Shared→Prop}(X:K.In s.heap)(I:Y4 s.heap x dx C mA)(hg:PySem.W.plainGet K C name=true)
  (hf:PySem.W.findIn K (.ref C) name=some (some (.ref f))) (ht:PySem.W.isFn K (.ref f)=true) (hv:mA name=none) (h:Q (.ref f,[.ref x]) s) :
  wpAny (model prog w) A (getMethod (.ref x) name pl) Q E s:=by
 obtain ⟨od,J,hl⟩:=I.look
 eC PySem.W.method_fn X J (PySem.W.plainGet_of hg).1 (PySem.W.plainGet_of hg).2 hf (FR.mp ht) (by show (PySem.W.lookIn name od).map (·.isSome)=some false;rw [hl,hv];rfl) h
theorem Ajo {ns:List Str}{Q:Unit→Shared→Prop}(X:K.In s.heap)(I:Y4 s.heap x dx C mA)
  (hs:PySem.W.findIn K (.ref C) "__setattr__"=some (some (.builtin "object.__setattr__"))) (hp:PySem.W.plainOver K C=true) (ht:PySem.W.takerIn K C name=some none) (hh:PySem.W.hasDictIn K C=true)
  (hw:PySem.Within mA ns) (hsz:ns.length≤sizeLine)
  (h:∀h',Y4 h' x dx C (fun y=>if y=name then some v else mA y)→Heap.SameBut dx s.heap h'→Q () { s with heap:=h',toks:=s.toks+2 }) :
  wpAny (model prog w) A (setAttr (.ref x) name v) Q E s:=by
 obtain ⟨od,J,hl⟩:=I.look
 rA PySem.W.set_plain X J hs (PySem.W.osa_open (s:={ s with toks:=s.toks+1 }) (r:=none) X J hp ht fun b=>?_)
 obtain ⟨cd,hc,hd'⟩:=PySem.W.any_some hh
 have hx:s.heap.get? x=some ⟨.ref C,some dx,.plain,#[]⟩:=I.obj
 rA AA (AC (AA (AA (wpAny_loadPart hx (AA (PySem.W.Looks.here (s:={ s with toks:=s.toks+1 }) (PySem.W.looks_clsIn X hc) ?_))))))
 rw [hd']
 rA AC (a:=some dx) (AA (AC (AA ?_)))
 rA wpAny_nsSet1 (s:={ s with toks:=s.toks+1 }) I.ns fun h' hn2 hs2=>?_
 obtain ⟨oD,esD,epD,hoD,hdD,hcD⟩:=hn2.count (PySem.Within.cons name v hw)
 rA AA (wpAny_lookBehind hoD (by rw [hdD];eC pastItsLine_dict (AO hcD (by rw [AY];omega))) ?_)
 eC AC (h _ ⟨(hs2.2 _ (CM I.ne)).trans I.obj,hn2,I.ne⟩ hs2)
theorem Agk {R:Result→Shared→Prop}{vs:List Value}{kw:List (Str×Value)}(X:K.In s.heap)(hm:PySem.W.makesIn K C=true)
  (hi:PySem.W.findIn K (.ref C) "__init__"=some (some (.ref f))) (hf:PySem.W.typeIn K (.ref f)=some (.type "function"))
  (h:codeAny (model prog w) (A.under (.builtin "type.__call__" ⟨.ref C::vs,kw⟩)) (.call (.ref f) ⟨.ref (s.heap.objs.size+1)::vs,kw⟩) (PySem.W.InitBack (s.heap.objs.size+1) R)
   { s with heap:=(s.heap.push PySem.W.emptyDict).push (PySem.W.instObj C s.heap.objs.size) }) :
  codeAny (model prog w) A (.call (.ref C) ⟨vs,kw⟩) R s:=by
 obtain ⟨hh,g,d,t,os⟩:=s
 eC PySem.W.make_core (PySem.W.makes_of X hm) (PySem.W.looks_findIn X hi) (fun self=>PySem.W.bind_fn X self hf) (.inl rfl) h
end
def Bc (f:Str)(v:V):List (Str×V)→List (Str×V)
 |[]=>[(f,v)]
 |(g,x)::r=>if g=f then (g,v)::r else (g,x)::Bc f v r
theorem F4 (f g:Str)(v:V):∀fs:List (Str×V),(Bc f v fs).lookup g=if g=f then some v else fs.lookup g
 | []=>by
  show List.lookup g [(f,v)]=_
  by_cases h:g=f
  ·have hb:(g==f)=true:=FR.mpr h
   simp only [List.lookup,hb,AN h]
  ·have hb:(g==f)=false:=DJ.mpr h
   simp only [List.lookup,hb,AI h]
 | (k,x)::r=>by
  have ih:=F4 f g v r
  rw [show Bc f v ((k,x)::r)=(if k=f then (k,v)::r else (k,x)::Bc f v r) from rfl]
  by_cases hk:k=f
  ·rw [AN hk]
   by_cases h:g=k
   ·have hb:(g==k)=true:=FR.mpr h
    simp only [List.lookup,hb,AN (h.trans hk)]
   ·have hb:(g==k)=false:=DJ.mpr h
    simp only [List.lookup,hb,AI (fun e:g=f=>h (e.trans hk.symm))]
  ·rw [AI hk]
   by_cases h:g=k
   ·have hb:(g==k)=true:=FR.mpr h
    simp only [List.lookup,hb,AI (fun e:g=f=>hk (h.symm.trans e))]
   ·have hb:(g==k)=false:=DJ.mpr h
    simp only [List.lookup,hb]
    eC ih
theorem Nf (f:Str)(v:V):∀fs:List (Str×V),f∈(Bc f v fs).map (·.1)∧∀g,g∈fs.map (·.1)→g∈(Bc f v fs).map (·.1)
 |[]=>⟨by simp [Bc],fun g h=>by simp at h⟩
 | (k,x)::r=>by
  obtain ⟨i1,i2⟩:=Nf f v r
  rw [show Bc f v ((k,x)::r)=(if k=f then (k,v)::r else (k,x)::Bc f v r) from rfl]
  by_cases hk:k=f
  ·rw [AN hk]
   subst hk
   eC ⟨by simp,fun g h=>by simpa using h⟩
  ·rw [AI hk]
   rA ⟨?_,fun g h=>?_⟩
   ·rw [BE]
    eC AJ _ i1
   ·rw [BE] at h ⊢
    rcases AU.mp h with e|e
    ·eC AU.mpr (.inl e)
    ·eC AJ _ (i2 g e)
theorem Cm (f:Str)(v:V):∀fs:List (Str×V),(Bc f v fs).length≤fs.length+1
 |[]=>by simp [Bc]
 |(k,x)::r=>by
  have ih:=Cm f v r
  rw [show Bc f v ((k,x)::r)=(if k=f then (k,v)::r else (k,x)::Bc f v r) from rfl]
  by_cases hk:k=f
  ·rw [AN hk,AY,AY];omega
  ·rw [AI hk,AY,AY];omega
theorem Gj.some_of {v:V}{o:Option Value}(r:Gj (some v) o):∃u,o=some u∧RelV v u:=by
 cases o with
 |none=>eC (show False from r).elim
 |some u=>eC ⟨u,rfl,r⟩
theorem Gj.none_of {o:Option Value}(r:Gj none o):o=none:=by
 cases o with
 |none=>rfl
 |some u=>eC (show False from r).elim
theorem Acf {v:V}{u:Value}(r:RelV v u):PySem.W.handedIn u=true:=by
 cases v with
 |non=>cases (show u=Value.none from r);rfl
 |bl b=>cases (show u=Value.bool b from r);rfl
 |int i=>obtain ⟨t,e⟩:=(show ∃t,u=Value.int i t from r);cases e;rfl
 |str x=>obtain ⟨t,e⟩:=(show ∃t,u=Value.str x t from r);cases e;rfl
 |byt b=>obtain ⟨t,e⟩:=(show ∃t,u=Value.bytes b t from r);cases e;rfl
 |flt b=>obtain ⟨t,e⟩:=(show ∃t,u=Value.float b t from r);cases e;rfl
 |ref a=>cases (show u=Value.ref a from r);rfl
 |ty n=>cases (show u=Value.type n from r);rfl
section
variable {P:Program}{w:World}{H H':Hp}{h h':Heap}{a C dx:Addr}{fs fs':List (Str×V)}
theorem Oz (hok:Jy P w H h)(e:H a=some (.ins C dx fs)):∃mA,Y4 h a dx C mA∧(∀f,Gj (fs.lookup f) (mA f))∧PySem.Within mA (fs.map (·.1))∧fs.length≤1000∧H dx=some (.own a):=by
 obtain ⟨d,z,ne,ob,mA,n,r,q⟩:=(show Bg P w H h a (.ins C dx fs) from hok a _ e)
 eC ⟨mA,⟨ob,n,ne⟩,r,q,z,d⟩
end
structure Ow (K:KKf)(C:Addr):Prop where
 pg:PySem.W.plainGet K C Str.empty=true
 hd:PySem.W.hasDictIn K C=true
 po:PySem.W.plainOver K C=true
 sa:PySem.W.findIn K (.ref C) "__setattr__"=some (some (.builtin "object.__setattr__"))
theorem Ow.get {K:KKf}{C:Addr}(c:Ow K C)(f:Str):PySem.W.plainGet K C f=true:=c.pg
def NoAttr (K:KKf)(C:Addr)(f:Str):Prop:=PySem.W.findIn K (.ref C) f=some none
theorem NoAttr.taker {K:KKf}{C:Addr}{f:Str}(n:NoAttr K C f):PySem.W.takerIn K C f=some none:=by
 unfold PySem.W.takerIn
 rw [show PySem.W.findIn K (.ref C) f=some none from n]
 rfl
structure Con (K:KKf)(C:Addr)(f:Str)(v:V)(u:Value):Prop where
 at_:PySem.W.findIn K (.ref C) f=some (some u)
 rel:RelV v u
 get:PySem.W.specialIn K u "__get__"=some none
 cp:PySem.W.copiedNames.contains f=false
structure Ad8 (K:KKf)(C:Addr)(m:Str)(f:Addr):Prop where
 at_:PySem.W.findIn K (.ref C) m=some (some (.ref f))
 fn:PySem.W.isFn K (.ref f)=true
 kp:PySem.W.keepIn K (.ref f)=true
section
variable {X:Cx}{pins:List (Addr×Obj)}{σ:St}{H:Hp}{s:Shared}{a C dx:Addr}{fs:List (Str×V)}{f:Str}{v:V}{A:Around}{E:Value→Shared→Prop}
theorem Z5 {b:Bool}{Q:Value→Shared→Prop}(I:Ar X pins σ H s)(e:H a=some (.ins C dx fs))(c:Ow X.K C)(n:NoAttr X.K C f)(l:fs.lookup f=some v)
  (h:∀u s',Ar X pins σ H s'→RelV v u→Q u s'):wpAny (model X.prog X.w) A (getAttr (.ref a) f b) Q E s:=by
 obtain ⟨mA,O,r,_,_,_⟩:=Oz I.hok e
 obtain ⟨u,hu,ru⟩:=Gj.some_of (v:=v) (o:=mA f) (by rw [←l];eC r f)
 eC Ahl I.kIn O (c.get f) c.hd n hu (Acf ru) (h u _ (I.tok _) ru)
theorem J9 {m:Str}{g:Addr}{pl:Sem Bool}{Q:Value×List Value→Shared→Prop}(I:Ar X pins σ H s)(e:H a=some (.ins C dx fs))(c:Ow X.K C)(k:Ad8 X.K C m g)(l:fs.lookup m=none)
  (h:Q (.ref g,[.ref a]) s):wpAny (model X.prog X.w) A (getMethod (.ref a) m pl) Q E s:=by
 obtain ⟨mA,O,r,_,_,_⟩:=Oz I.hok e
 have hn:mA m=none:=Gj.none_of (by rw [←l];eC r m)
 eC Afe I.kIn O (c.get m) k.at_ k.fn hn h
theorem Zs {y:V}{u:Value}{Q:Unit→Shared→Prop}(I:Ar X pins σ H s)(e:H a=some (.ins C dx fs))(c:Ow X.K C)(n:NoAttr X.K C f)(hl:fs.length<1000)(ry:RelV y u)
  (h:∀s',Ar X pins σ (upd H a (.ins C dx (Bc f y fs))) s'→Q () s'):wpAny (model X.prog X.w) A (setAttr (.ref a) f u) Q E s:=by
 obtain ⟨mA,O,r,wi,_,ho⟩:=Oz I.hok e
 have hz:(fs.map (·.1)).length≤sizeLine:=by rw [AE,CL];omega
 rA Ajo I.kIn O c.sa c.po n.taker c.hd wi hz fun h' O' sb=>h _ ?_
 have hd:∃o,h'.get? dx=some o:=let ⟨o,_,_,e',_⟩:=O'.ns;⟨o,e'⟩
 rA I.write (x:=a) (e:=dx) (by rw [e];eC True.intro) (.inr ho) (fun b q hb z=>(sb.2 b hb).trans z) hd ?_
 rA ⟨by rw [Ao O.ne];eC ho,?_,O.ne,O'.obj,_,O'.ns,fun g=>?_,fun g hg=>?_⟩
 ·have:=Cm f y fs;omega
 ·show Gj ((Bc f y fs).lookup g) (if g=f then some u else mA g)
  rw [F4]
  by_cases q:g=f
  ·rw [AN q,AN q];eC ry
  ·rw [AI q,AI q];eC r g
 ·by_cases q:g=f
  ·rw [q];eC (Nf f y fs).1
  ·rA (Nf f y fs).2 g (wi g fun z=>hg ?_)
   show (if g=f then some u else mA g)=none
   rw [AI q];eC z
theorem Ar.made (I:Ar X pins σ H s):Ar X pins σ (upd (upd H s.heap.objs.size (.own (s.heap.objs.size+1))) (s.heap.objs.size+1) (.ins C s.heap.objs.size []))
  { s with heap:=(s.heap.push PySem.W.emptyDict).push (PySem.W.instObj C s.heap.objs.size) }:=by
 have e1:(s.heap.push PySem.W.emptyDict).get? s.heap.objs.size=some PySem.W.emptyDict:=AG s.heap rfl
 have e2:((s.heap.push PySem.W.emptyDict).push (PySem.W.instObj C s.heap.objs.size)).get? (s.heap.objs.size+1)=some (PySem.W.instObj C s.heap.objs.size):=by
  have:=AG (s.heap.push PySem.W.emptyDict) (o:=PySem.W.instObj C s.heap.objs.size) rfl
  rwa [BW] at this
 have e3:(s.heap.push PySem.W.emptyDict).Ns s.heap.objs.size (fun _=>none):=⟨PySem.W.emptyDict,#[],_,e1,rfl,(fun e he=>absurd he (by simp)),fun _=>rfl⟩
 have I1:=I.laid (a:=s.heap.objs.size) (o:=.own (s.heap.objs.size+1)) (h':=s.heap.push PySem.W.emptyDict) (t':=s.toks) (fun b u q=>AB _ q) (AF _) ⟨_,e1⟩
 rA I1.laid (a:=s.heap.objs.size+1) (o:=.ins C s.heap.objs.size []) (t':=s.toks) (fun b u q=>AB _ q) (Nat.le_of_eq (BW _ _)) ?_
 have ne:s.heap.objs.size≠s.heap.objs.size+1:=AS (DM _)
 rA ⟨by rw [Ao ne,Ag],AV _,ne,e2,fun _=>none,(Heap.Ns1.of_empty e3).at fun o q=>AB _ q,fun _=>True.intro,fun y hy=>absurd rfl hy⟩
theorem Ahi {prog:Program}{w:World}{env:Env}{e:Expr}{f:Str}{pos:Pos}{s:Shared}{Q:Value→Shared→Prop}(hb:attributeBase e f env (eval e env)=eval e env)
  (h:wpAny (model prog w) A (eval e env) (fun o s₁=>wpAny (model prog w) A (getAttr o f true) Q E s₁) E s):wpAny (model prog w) A (eval (.Attribute e f pos) env) Q E s:=
 Attribute_any_ h (by rw [arm_eval_Attribute,hb])
end
def Asp (K:KKf)(ta:TE)(f:Str):TE:=fun σ H Q=>ta σ H fun x H1=>∃a C dx fs v,x=.ref a∧H1 a=some (.ins C dx fs)∧Ow K C∧NoAttr K C f∧fs.lookup f=some v∧Q v H1
def Arq (K:KKf)(ta tv:TE)(f:Str):TS:=fun D σ H=>tv σ H fun y H1=>ta σ H1 fun x H2=>∃a C dx fs,x=.ref a∧H2 a=some (.ins C dx fs)∧Ow K C∧NoAttr K C f∧fs.length<1000 ∧
 D.nx σ (upd H2 a (.ins C dx (Bc f y fs)))
section
variable {X:Cx}{o e value:Expr}{f:Str}{pos pos' tpos:Pos}{ta tv:TE}
theorem B0 (he:PE X e ta)(hb:attributeBase e f X.env (eval e X.env)=eval e X.env):PE X (.Attribute e f pos) (Asp X.K ta f):=by
 intro pins s σ H Q I h
 rA Ahi hb (Bi (he pins s σ H _ I h) fun u s1 ⟨x,H1,I1,rx,a,C,dx,fs,v,ex,ea,c,n,l,q⟩=>?_)
 subst ex
 obtain rfl:u=Value.ref a:=rx
 eC Z5 I1 ea c n l fun u' s2 I2 ru=>⟨v,H1,I2,ru,q⟩
theorem G4 (ha:PE X o ta)(hv:PE X value tv)(hs:swapsWith value (some (.Attribute o f pos')) pos.line X.env=pure false):PS X (.Assign [.Attribute o f pos'] value pos) (Arq X.K ta tv f):=by
 intro pins s σ H D I h
 rA plainObj_wpAny_Assign_Attribute (Bi (hv pins s σ H _ I h) fun u s1 ⟨y,H1,I1,ry,q⟩=>Bi (ha pins s1 σ H1 _ I1 q) fun ov s2 ⟨x,H2,I2,rx,a,C,dx,fs,ex,ea,c,n,l,q2⟩=>?_) hs
 subst ex
 obtain rfl:ov=Value.ref a:=rx
 eC Zs I2 ea c n l ry fun s3 I3=>⟨σ,_,I3,q2⟩
end
section
variable {X:Cx}{pins:List (Addr×Obj)}{σ:St}{H:Hp}{s:Shared}{A:Around}{E:Value→Shared→Prop}{Q:Value→Shared→Prop}{c:Value}{b:Bool}
inductive Mx (K:KKf)(H:Hp):V→Value→Prop where
 |non:Mx K H .non (.type "NoneType")
 |bl (x:Bool):Mx K H (.bl x) (.type "bool")
 |int (i:Int):Mx K H (.int i) (.type "int")
 |str (x:Str):Mx K H (.str x) (.type "str")
 |flt (x:UInt64):Mx K H (.flt x) (.type "float")
 |lst {a:Addr} {xs:List V} (e:H a=some (.lst xs)):Mx K H (.ref a) (.type "list")
 |frz {a:Addr} {o:Obj} {xs:List V} (e:H a=some (.frz o (.lst xs))):Mx K H (.ref a) (.type "list")
 |tup {a:Addr} {xs:List V} (e:H a=some (.tup xs)):Mx K H (.ref a) (.type "tuple")
 |dK {a:Addr} {kvs:List (B4×V)} (e:H a=some (.dK kvs)):Mx K H (.ref a) (.type "dict")
 |dT {a:Addr} {kvs:List (List B4×V)} (e:H a=some (.dT kvs)):Mx K H (.ref a) (.type "dict")
 | ins {a C dx:Addr} {fs:List (Str×V)} (e:H a=some (.ins C dx fs)) (cl:Ow K C) (ha:PySem.W.findIn K (.ref C) "__class__"=some (some (.builtin "object.__class__")))
   (hn:PySem.W.specialIn K (.builtin "object.__class__") "__get__"=some (some (.builtin "getset_descriptor.__get__"))) (htk:PySem.W.takesIn K (.builtin "object.__class__")=some true)
   (hm:PySem.W.mroIn K C (.type "object")=some true):Mx K H (.ref a) (.ref C)
theorem Fe {x:V}{u t:Value}(I:Ar X pins σ H s)(rx:RelV x u)(ty:Mx X.K H x t)(e:PySem.W.kitOne X.K t c=some b)(h:∀tk,Q (.bool b) { s with toks:=tk }) :
  wpAny (model X.prog X.w) A (call (.builtin "isinstance") [u,c]) Q E s:=by
 cases ty with
 |non=>cases (show u=Value.none from rx);eC CJ PySem.W.kitx_none I.kIn True.intro e (fun z=>nomatch z) h
 |bl y=>cases (show u=Value.bool y from rx);eC CJ PySem.W.kitx_bool I.kIn True.intro e (fun z=>nomatch z) h
 |int i=>obtain ⟨t,q⟩:=(show ∃t,u=Value.int i t from rx);cases q;eC CJ PySem.W.kitx_int I.kIn True.intro e (fun z=>nomatch z) h
 |str y=>obtain ⟨t,q⟩:=(show ∃t,u=Value.str y t from rx);cases q;eC CJ PySem.W.kitx_str I.kIn True.intro e (fun z=>nomatch z) h
 |flt y=>obtain ⟨t,q⟩:=(show ∃t,u=Value.float y t from rx);cases q;eC CJ PySem.W.kitx_float I.kIn True.intro e (fun z=>nomatch z) h
 |@lst a xs ea=>
  cases (show u=Value.ref a from rx)
  obtain ⟨_,_,n,_,h1⟩:=(show Bg X.prog X.w H s.heap a (.lst xs) from I.hok a _ ea)
  eC CJ PySem.W.kitx_list I.kIn ⟨_,h1,rfl⟩ e (fun z=>nomatch z) h
 |@frz a ob xs ea=>
  cases (show u=Value.ref a from rx)
  obtain ⟨_,_,_,n,_,h1⟩:=(show Bg X.prog X.w H s.heap a (.frz ob (.lst xs)) from I.hok a _ ea)
  eC CJ PySem.W.kitx_list I.kIn ⟨_,h1,rfl⟩ e (fun z=>nomatch z) h
 |@tup a xs ea=>
  cases (show u=Value.ref a from rx)
  obtain ⟨_,_,_,p⟩:=(show Bg X.prog X.w H s.heap a (.tup xs) from I.hok a _ ea)
  obtain ⟨o,h1,h2,_⟩:=p
  eC CJ PySem.W.kitx_tuple I.kIn ⟨o,h1,h2⟩ e (fun z=>nomatch z) h
 |@dK a kvs ea=>
  cases (show u=Value.ref a from rx)
  obtain ⟨_,_,vs,_,p⟩:=(show Bg X.prog X.w H s.heap a (.dK kvs) from I.hok a _ ea)
  obtain ⟨o,es,ep,h1,h2,_⟩:=p
  eC CJ PySem.W.kitx_dict I.kIn ⟨o,h1,h2.1⟩ e (fun z=>nomatch z) h
 |@dT a kvs ea=>
  cases (show u=Value.ref a from rx)
  obtain ⟨_,_,xs,_,o,es,ep,h1,h2,_⟩:=(show Bg X.prog X.w H s.heap a (.dT kvs) from I.hok a _ ea)
  eC CJ PySem.W.kitx_dict I.kIn ⟨o,h1,h2.1⟩ e (fun z=>nomatch z) h
 |@ins a C dx fs ea cl ha hn htk hm=>
  cases (show u=Value.ref a from rx)
  obtain ⟨mA,O,_⟩:=Oz I.hok ea
  obtain ⟨od,J,_⟩:=O.look
  eC CJ (PySem.W.kitx_own (cl.get _) cl.hd ha hn htk hm) I.kIn J e (fun z=>nomatch z) h
end
end L2
namespace L2
open PySem PySem.Spec PyProof.Rows
structure B6 (k:Nat)(A:Around):Prop where
 hd:A.handled=none
 dp:A.depth+3*k+5<recursionLimit
 un:A.units+16*k+200<cLine
theorem B6.mono {j k:Nat}{A:Around}(r:B6 k A)(h:j≤k):B6 j A:=⟨r.hd,by have:=r.dp;omega,by have:=r.un;omega⟩
theorem B6.deeper {k:Nat}{A:Around}(r:B6 (k+1) A)(env:Env):B6 k (A.deeper env):=
 ⟨r.hd,by have:=r.dp;show A.depth+1+3*k+5<_;omega,by have:=r.un;show A.units+3+16*k+200<_;omega⟩
theorem B6.in1 {k:Nat}{A:Around}(r:B6 (k+1) A):B6 k A.in1:=
 ⟨r.hd,by have:=r.dp;show A.depth+3*k+5<_;omega,by have:=r.un;show A.units+1+16*k+200<_;omega⟩
theorem Zl {A:Around}{C:Addr}{us:List Value}{kw:List (Str×Value)}:(A.under (.builtin "type.__call__" ⟨.ref C::us,kw⟩)).depth=A.depth+1:=by
 first|rfl|simp [Around.under,Code.weight,Code.isCreation,Code.isGuard,Code.isCaller,Code.frames,Code.isFrame,guardIds]
theorem Z2 {A:Around}{C:Addr}{us:List Value}{kw:List (Str×Value)}:(A.under (.builtin "type.__call__" ⟨.ref C::us,kw⟩)).units=A.units+1:=by
 first|rfl|simp [Around.under,Code.cUnits,Code.frames,Code.isFrame]
theorem B6.make {k:Nat}{A:Around}(r:B6 (k+1) A)(C:Addr)(us:List Value)(kw:List (Str×Value)):B6 k (A.under (.builtin "type.__call__" ⟨.ref C::us,kw⟩)):=
 ⟨r.hd,by have:=r.dp;rw [Zl];omega,by have:=r.un;rw [Z2];omega⟩
theorem B6.depth {k:Nat}{A:Around}(r:B6 k A):A.depth<recursionLimit:=by have:=r.dp;omega
theorem B6.units {k:Nat}{A:Around}(r:B6 k A):A.units+64<cLine:=by have:=r.un;omega
def Aco:TA:=fun _ H Q=>Q [] H
def Afu (ta:TE)(tr:TA):TA:=fun σ H Q=>ta σ H fun x H1=>tr σ H1 fun xs H2=>Q (x::xs) H2
section
variable {X:Cx}{e:Expr}{es:List Expr}{te:TE}{t:TA}{pos:Pos}
theorem Ac:PA X [] Aco:=fun _ _ _ _ H Q I h=>DG ⟨[],H,I,.nil,h⟩
theorem Aa (ha:PE X e te)(hr:PA X es t)(hs:starEach (e::es) X.env=(false,eval e X.env)::starEach es X.env:=by rfl):PA X (e::es) (Afu te t):=by
 intro pos pins s σ H Q I h
 rw [hs]
 show wpAny _ _ (spliced ((false,eval e X.env)::backTo pos (starEach es X.env))) _ _ s
 rA DB (Bi (ha pins s σ H _ I h) fun u s1 ⟨x,H1,I1,r1,q1⟩=>?_)
 eC Bi (hr pos pins s1 σ H1 _ I1 q1) fun us s2 ⟨xs,H2,I2,r2,q2⟩=>⟨x::xs,H2,I2,.cons r1 r2,q2⟩
def Ar1 (t:TA):TE:=fun σ H Q=>t σ H fun xs H1=>xs.length≤sizeLine∧∀p,H1 p=none→Q (.ref p) (upd H1 p (.lst xs))
theorem Tr (h:PA X es t):PE X (.List es pos) (Ar1 t):=by
 intro pins s σ H Q I hq
 rA wpAny_List_spliced (Bi (h pos pins s σ H _ I hq) fun us s1 ⟨xs,H1,I1,r,z,q⟩=>⟨by rw [←r.length];eC z,?_⟩)
 have hf:H1 s1.heap.objs.size=none:=I1.hok.fresh (AF _)
 rA ⟨.ref s1.heap.objs.size,upd H1 s1.heap.objs.size (.lst xs),I1.laid (t':=s1.toks) (fun b u e=>AB _ e) (AF _) ?_,rfl,q _ hf⟩
 eC ⟨z,us,0,r,AG _ rfl⟩
end
abbrev Sp:=List V→Hp→VK→XK→Prop
abbrev CXT:=List Env→Hp→Shared→XK→Value→Shared→Prop
structure Zw (P:Program)(w:World)(K:KKf)(mg:Str→Option Value)(base:Heap)(A:Around)(outer:List Env)(s:Shared)(H:Hp):Prop where
 frames:A.frames=some outer
 mod:Mod K mg base
 bs:∀b o,base.get? b=some o→s.heap.get? b=some o∧H b=none
 bsz:base.objs.size≤s.heap.objs.size
 funs:s.heap.FunFrames base outer
 frf:∀b∈K5 outer,H b=none
 hok:Jy P w H s.heap
 bare:AllBare s.gens
def CE (outer:List Env)(P:Program)(w:World)(H:Hp)(s:Shared)(Q:VK)(u:Value)(s':Shared):Prop:=
 ∃v H',s'.os=s.os∧AllBare s'.gens∧Un (K5 outer) [] H H' s.heap s'.heap∧Jy P w H' s'.heap∧RelV v u∧Q v H'
def CR (CX:CXT)(outer:List Env)(P:Program)(w:World)(H:Hp)(s:Shared)(Q:VK)(E:XK)(r:Result)(s':Shared):Prop:=
 match r with
 |.ok (.ret u)=>CE outer P w H s Q u s'
 |.ok _=>False
 |.error e=>CX outer H s E e s'
structure Gy (P:Program)(w:World)(K:KKf)(mg:Str→Option Value)(base:Heap)(CX:CXT)(k:Nat)(f:Addr)(fd:FuncData)(ps:List Str)(sp:Sp):Prop where
 len:∀vs H Q E,sp vs H Q E→vs.length=ps.length
 run:∀(A:Around) (outer:List Env) (s:Shared) (H:Hp) (args:Args) (us:List Value) (vs:List V) (Q:VK) (E:XK),B6 k A→Zw P w K mg base A outer s H→BindsTo s fd args (ps.zip us)→A7 vs us→sp vs H Q E →
  codeAny (model P w) A (.call (.ref f) args) (CR CX outer P w H s Q E) s
theorem Gy.mono {P:Program}{w:World}{K:KKf}{mg:Str→Option Value}{base:Heap}{CX:CXT}{j k:Nat}{f:Addr}{fd:FuncData}{ps:List Str}{sp:Sp}(F:Gy P w K mg base CX j f fd ps sp)(h:j≤k) :
  Gy P w K mg base CX k f fd ps sp:=⟨F.len,fun A outer s H args us vs Q E hr=>F.run A outer s H args us vs Q E (hr.mono h)⟩
theorem Zw.make {P:Program}{w:World}{K:KKf}{mg:Str→Option Value}{base:Heap}{A:Around}{outer:List Env}{s:Shared}{H:Hp}(e:Zw P w K mg base A outer s H)(C:Addr)(us:List Value)(kw:List (Str×Value)) :
  Zw P w K mg base (A.under (.builtin "type.__call__" ⟨.ref C::us,kw⟩)) outer s H:=⟨by first|eC e.frames|(simpa [Around.under,Code.envs,Code.isFrame,pushEnvs] using e.frames),e.mod,e.bs,e.bsz,e.funs,e.frf,e.hok,e.bare⟩
section
variable {X:Cx}{pins:List (Addr×Obj)}{σ:St}{H:Hp}{s s':Shared}
theorem Ar.env0 (I:Ar X pins σ H s):Zw X.prog X.w X.K X.mg X.base X.A X.stack s H:=
 ⟨I.ok.frames,I.ok.mod,I.bs,AO I.ok.bsz I.sz,I.stack,I.stkFree,I.hok,I.bare⟩
theorem Ar.after {Q:VK}{u:Value}(I:Ar X pins σ H s)(h:CE X.stack X.prog X.w H s Q u s'):EP X pins σ Q u s':=by
 obtain ⟨v,H',os,bare,un,hok,r,q⟩:=h
 obtain ⟨hh,g,d,t,os'⟩:=s'
 obtain rfl:os'=s.os:=os
 eC ⟨v,H',I.call (h':=hh) (g':=g) (d':=d) (t':=t) (ch:=[]) un hok bare (fun b z=>absurd z (by simp)),r,q⟩
end
def Xs (sp:Sp)(dvs:List V)(E:XK)(t:TA):TE:=fun σ H Q=>t σ H fun vs H1=>sp (vs++dvs) H1 Q E
def Abn (C:Addr)(sp:Sp)(dvs:List V)(E:XK)(t:TA):TE:=fun σ H Q=>t σ H fun vs H1=>∀x dx,H1 x=none→H1 dx=none→dx≠x →
 sp (.ref x::(vs++dvs)) (upd (upd H1 dx (.own x)) x (.ins C dx [])) (fun v H2=>v=.non∧Q (.ref x) H2) E
def Ee (K:KKf)(fd:FuncData)(ps:List Str)(ds:List Value):Prop:=
 ∀(s:Shared) (us:List Value),K.In s.heap→(us++ds).length=ps.length→BindsTo s fd ⟨us,[]⟩ (ps.zip (us++ds))
theorem Ee.all {K:KKf}{fd:FuncData}{ps:List Str}(h:∀us:List Value,us.length=ps.length→bindArgs fd ⟨us,[]⟩=pure (ps.zip us)):Ee K fd ps []:=fun s us _ hl=>by
 rw [CG] at hl ⊢
 eC .of_eq (h us hl)
def Eg (CX:CXT)(X:Cx)(E:XK):Prop:=∀(pins:List (Addr×Obj)) (σ:St) (H:Hp) (s:Shared) (e:Value) (s':Shared),Ar X pins σ H s→CX X.stack H s E e s'→X.xe e s'
section
variable {X:Cx}{CX:CXT}{k:Nat}{f C:Addr}{fd:FuncData}{ps:List Str}{sp:Sp}{dvs:List V}{ds:List Value}{E:XK}{x m:Str}{p pos apos:Pos}{e o:Expr}{es:List Expr}{ta:TE}{t:TA}
theorem Va {pins:List (Addr×Obj)}{σ:St}{H:Hp}{s:Shared}{Q:VK}{us:List Value}{vs:List V}(F:Gy X.prog X.w X.K X.mg X.base CX k f fd ps sp)(hr:B6 k X.A)(hb:Ee X.K fd ps ds)(hd:A7 dvs ds)(hx:Eg CX X E)
  (I:Ar X pins σ H s) (r:A7 vs us) (h:sp (vs++dvs) H Q E):wpAny (model X.prog X.w) X.A (call (.ref f) us) (EP X pins σ Q) X.xe s:=by
 have r2:A7 (vs++dvs) (us++ds):=r.append hd
 have hl:(us++ds).length=ps.length:=by rw [←r2.length];eC F.len _ _ _ _ h
 rA wpAny_call (FN (F.run X.A X.stack s H ⟨us,[]⟩ (us++ds) (vs++dvs) Q E hr I.env0 (hb s us I.kIn hl) r2 h) fun r s' hq=>?_)
 cases r with
 |error e=>eC hx pins σ H s e s' I hq
 |ok fl=>
  cases fl with
  |ret u=>eC I.after hq
  |next=>eC False.elim hq
  |brk=>eC False.elim hq
  |cont=>eC False.elim hq
theorem Aa5 (F:Gy X.prog X.w X.K X.mg X.base CX k f fd ps sp)(hr:B6 k X.A)(hg:Gl X x)(hm:X.mg x=some (.ref f))(hk:PySem.W.keepIn X.K (.ref f)=true)(hb:Ee X.K fd ps ds)(hd:A7 dvs ds)(hx:Eg CX X E)
  (ha:PA X (e::es) t) (hdb:(x==("__debug__":Str))=false:=by decide) (he:starEach (e::es) X.env=(false,eval e X.env)::starEach es X.env:=by rfl) (hpl:(backTo pos (starEach es X.env)).any (·.1)=false:=by rfl) :
  PE X (.Call (.Name x p) (e::es) [] pos) (Xs sp dvs E t):=by
 intro pins s σ H Q I h
 rA DC (Jq I hg hm ?_ hdb)
 rA FI (h₀:=X.base) I.ok.mod.kin hk (Bi (ha pos pins s σ H _ I h) fun us s1 ⟨vs,H1,I1,r,q⟩=>⟨I1.kIn,?_⟩) he hpl
 eC Va F hr hb hd hx I1 r q
structure Mk (K:KKf)(C f:Addr):Prop where
 makes:PySem.W.makesIn K C=true
 init:PySem.W.findIn K (.ref C) "__init__"=some (some (.ref f))
 fn:PySem.W.isFn K (.ref f)=true
 kp:PySem.W.keepIn K (.ref C)=true
theorem Xr {pins:List (Addr×Obj)}{σ:St}{H:Hp}{s:Shared}{Q:VK}{us:List Value}{vs:List V}(M:Mk X.K C f)(F:Gy X.prog X.w X.K X.mg X.base CX k f fd ps sp)(hr:B6 (k+1) X.A)(hb:Ee X.K fd ps ds)(hd:A7 dvs ds)
  (hx:Eg CX X E) (I:Ar X pins σ H s) (r:A7 vs us)
  (h:∀x dx,H x=none→H dx=none→dx≠x→sp (.ref x::(vs++dvs)) (upd (upd H dx (.own x)) x (.ins C dx [])) (fun v H2=>v=.non∧Q (.ref x) H2) E) :
  wpAny (model X.prog X.w) X.A (call (.ref C) us) (EP X pins σ Q) X.xe s:=by
 have hq:=h (s.heap.objs.size+1) s.heap.objs.size (I.hok.fresh (CT _)) (I.hok.fresh (AF _)) (AS (DM _))
 have I2:=Ar.made (C:=C) I
 have r2:A7 (V.ref (s.heap.objs.size+1)::(vs++dvs)) (Value.ref (s.heap.objs.size+1)::(us++ds)):=.cons rfl (r.append hd)
 have hl:(Value.ref (s.heap.objs.size+1)::us++ds).length=ps.length:=by
  have e:=r2.length
  rw [F.len _ _ _ _ hq] at e
  eC e.symm
 rA wpAny_call (Agk (f:=f) I.kIn M.makes M.init (FR.mp M.fn) (FN (F.run _ X.stack _ _ ⟨Value.ref (s.heap.objs.size+1)::us,[]⟩ (Value.ref (s.heap.objs.size+1)::(us++ds)) _ _ E (hr.make C us [])
  (I2.env0.make C us []) (hb _ (Value.ref (s.heap.objs.size+1)::us) I2.kIn hl) r2 hq) fun r s' hq'=>?_))
 cases r with
 |error e=>eC hx pins σ _ _ e s' I2 hq'
 | ok fl=>
  cases fl with
  |ret u=>
   obtain ⟨v,H',I3,rv,ev,q3⟩:=I2.after hq'
   subst ev
   eC ⟨rv,⟨V.ref (s.heap.objs.size+1),H',I3,rfl,q3⟩⟩
  |next=>eC False.elim hq'
  |brk=>eC False.elim hq'
  |cont=>eC False.elim hq'
theorem Ahw (M:Mk X.K C f)(F:Gy X.prog X.w X.K X.mg X.base CX k f fd ps sp)(hr:B6 (k+1) X.A)(hg:Gl X x)(hm:X.mg x=some (.ref C))(hb:Ee X.K fd ps ds)(hd:A7 dvs ds)(hx:Eg CX X E)
  (ha:PA X (e::es) t) (hdb:(x==("__debug__":Str))=false:=by decide) (he:starEach (e::es) X.env=(false,eval e X.env)::starEach es X.env:=by rfl) (hpl:(backTo pos (starEach es X.env)).any (·.1)=false:=by rfl) :
  PE X (.Call (.Name x p) (e::es) [] pos) (Abn C sp dvs E t):=by
 intro pins s σ H Q I h
 rA DC (Jq I hg hm ?_ hdb)
 rA FI (h₀:=X.base) I.ok.mod.kin M.kp (Bi (ha pos pins s σ H _ I h) fun us s1 ⟨vs,H1,I1,r,q⟩=>⟨I1.kIn,?_⟩) he hpl
 eC Xr M F hr hb hd hx I1 r q
theorem Aek (M:Mk X.K C f)(F:Gy X.prog X.w X.K X.mg X.base CX k f fd ps sp)(hr:B6 (k+1) X.A)(hg:Gl X x)(hm:X.mg x=some (.ref C))(hb:Ee X.K fd ps ds)(hd:A7 dvs ds)(hx:Eg CX X E)
  (hdb:(x==("__debug__":Str))=false:=by decide):PE X (.Call (.Name x p) [] [] pos) (Abn C sp dvs E Aco):=by
 intro pins s σ H Q I h
 rA DC (Jq I hg hm ?_ hdb)
 eC PySem.W.callWith_K0 I.kIn M.kp (Xr (us:=[]) M F hr hb hd hx I .nil h)
end
section
variable {X:Cx}{CX:CXT}{k:Nat}{f C:Addr}{fd:FuncData}{ps ks:List Str}{sp:Sp}{E:XK}{x m:Str}{p pos apos kpos:Pos}{e o:Expr}{es:List Expr}{kws:List Keyword}{te ta:TE}{t tk:TA}{nm:Option Str}
structure Arj (K:KKf)(fd:FuncData)(ps ks:List Str)(g:List Value→List Value→List Value)(gV:List V→List V→List V):Prop where
 to:∀(s:Shared) (us ws:List Value),K.In s.heap→(g us ws).length=ps.length→BindsTo s fd ⟨us,ks.zip ws⟩ (ps.zip (g us ws))
 rel:∀{vs:List V} {us:List Value} {zs:List V} {ws:List Value},A7 vs us→A7 zs ws→A7 (gV vs zs) (g us ws)
variable {g:List Value→List Value→List Value}{gV:List V→List V→List V}
end
structure Ai (N P:List Str)(sc:Scope):Prop where
 kind:sc.kind=.function
 co:sc.isCoroutine=false
 gen:sc.isGenerator=false
 nd:N.Nodup
 pre:N.take P.length=P
 par:∀x∈P,sc.names.lookup x=some .local∨sc.names.lookup x=some .cell
 nofree:∀y∈sc.names,y.2≠.free
theorem R9 {kindOf:Str→Option NameKind}{x:Str}:∀{binds:List (Str×Value)} {m:Str→Option Value},(∀v,(x,v)∉binds)→bindL kindOf binds m x=m x
 |[],_,_=>rfl
 | (n,v)::r,m,h=>by
  unfold bindL
  rw [R9 fun w hw=>h w (AJ _ hw)]
  split
  ·have:x≠n:=by rintro rfl;eC h v AK
   simp [this]
  ·rfl
theorem Ro {kindOf:Str→Option NameKind}{x:Str}:∀{binds:List (Str×Value)} {m:Str→Option Value},(∀v,(x,v)∉binds)→bindC kindOf binds m x=m x
 |[],_,_=>rfl
 | (n,v)::r,m,h=>by
  unfold bindC
  rw [Ro fun w hw=>h w (AJ _ hw)]
  split
  ·rfl
  ·have:x≠n:=by rintro rfl;eC h v AK
   simp [this]
theorem Sb {kindOf:Str→Option NameKind}{x:Str}{v:Value}:∀{P:List Str} {vs:List Value} {i:Nat} {m:Str→Option Value},P.Nodup→P[i]? =some x→vs[i]? =some v→kindOf x=some .local →
  bindL kindOf (P.zip vs) m x=some v
 |[],_,_,_,_,h,_,_=>by simp at h
 |_::_,[],_,_,_,_,h,_=>by simp at h
 |p::P,w::vs,0,m,nd,h1,h2,hk=>by
  simp at h1 h2;subst h1;subst h2
  show bindL kindOf ((p,w)::P.zip vs) m p=_
  unfold bindL
  rw [R9 fun v hv=>(DH.mp nd).1 (GC hv).1,AN hk]
  simp
 |p::P,w::vs,i+1,m,nd,h1,h2,hk=>by
  show bindL kindOf ((p,w)::P.zip vs) m x=_
  unfold bindL
  eC Sb (i:=i) (DH.mp nd).2 (by simpa using h1) (by simpa using h2) hk
theorem Ru {kindOf:Str→Option NameKind}{x:Str}{v:Value}:∀{P:List Str} {vs:List Value} {i:Nat} {m:Str→Option Value},P.Nodup→P[i]? =some x→vs[i]? =some v→kindOf x≠some .local →
  bindC kindOf (P.zip vs) m x=some v
 |[],_,_,_,_,h,_,_=>by simp at h
 |_::_,[],_,_,_,_,h,_=>by simp at h
 |p::P,w::vs,0,m,nd,h1,h2,hk=>by
  simp at h1 h2;subst h1;subst h2
  show bindC kindOf ((p,w)::P.zip vs) m p=_
  unfold bindC
  rw [Ro fun v hv=>(DH.mp nd).1 (GC hv).1,AI hk]
  simp
 |p::P,w::vs,i+1,m,nd,h1,h2,hk=>by
  show bindC kindOf ((p,w)::P.zip vs) m x=_
  unfold bindC
  eC Ru (i:=i) (DH.mp nd).2 (by simpa using h1) (by simpa using h2) hk
def Ho (N:List Str)(vs:List V):St:=vs.map some++List.replicate (N.length-vs.length) none
def Ct (CX:CXT)(P:Program)(w:World)(K:KKf)(mg:Str→Option Value)(base:Heap)(N:List Str)(qual:Str)(scope:Scope)(f:Addr)(cd:Value)(A:Around)(outer:List Env)(s:Shared)(H:Hp)(E:XK):Cx where
 prog:=P
 w:=w
 K:=K
 mg:=mg
 base:=base
 A:=A.deeper (envOfC qual scope s.heap.objs.size f cd)
 N:=N
 s₀:=s
 H₀:=H
 env:=envOfC qual scope s.heap.objs.size f cd
 outer:=outer
 stack:=envOfC qual scope s.heap.objs.size f cd::outer
 ex:=[]
 calm:=true
 fn:=fun _=>true
 pn:=[]
 xe:=fun e s'=>wpAny (model P w) (A.deeper (envOfC qual scope s.heap.objs.size f cd)) (leaving (envOfC qual scope s.heap.objs.size f cd) e) (fun _ s''=>CX outer H s E e s'') (fun e' s''=>CX outer H s E e' s'') s'
theorem V4 {sc:Scope}{n:Nat}{x:Str}(h:sc.names.lookup x=some .cell):∃c,(cellsFrom n sc.names []).lookup x=some c:=by
 have q:=PySem.W.cellsFrom_some sc.names n [] (.inl h)
 eC Option.isSome_iff_exists.mp q
theorem Acx {CX:CXT}{P:Program}{w:World}{K:KKf}{mg:Str→Option Value}{base:Heap}{N ps:List Str}{qual:Str}{scope:Scope}{f:Addr}{cd:Value}{A:Around}{outer:List Env}{s s1:Shared}{H:Hp}{E:XK}{us:List Value}{vs:List V}
  (S:Ai N ps scope) (hd:A.handled=none) (e0:Zw P w K mg base A outer s H) (hl:vs.length=ps.length) (r:A7 vs us)
  (x:InCallC s s.heap.objs.size (bindL (envOfC qual scope s.heap.objs.size f cd).kindOf (ps.zip us) fun _=>none) (cellsFrom (s.heap.objs.size+1) scope.names []) (bindC (envOfC qual scope s.heap.objs.size f cd).kindOf (ps.zip us) fun _=>none) s1) :
  Ar (Ct CX P w K mg base N qual scope f cd A outer s H E) [] (Ho N vs) H s1:=by
 have hpl:ps.length≤N.length:=by have:=congrArg List.length S.pre;rw [BQ] at this;omega
 obtain ⟨h1,tk,rfl,hk⟩:=x.done
 have noA:∀b:Addr,b∉(Ct CX P w K mg base N qual scope f cd A outer s H E).ex:=fun b z=>absurd (show b∈([]:List Addr) from z) (by simp)
 rA ⟨⟨e0.mod,S.kind,rfl,rfl,AF _,fun y z c h1 h2=>?_,fun y hy=>?_,fun y c _ h=>?_,fun _=>hd,Around.frames_deeper e0.frames,.inr ⟨rfl,rfl⟩,fun b z=>absurd z (noA b),e0.bs,e0.bsz,fun b _ _=>noA b,fun b z=>absurd z (noA b),e0.funs,e0.frf⟩,
  rfl,e0.bare,Un.kept hk,⟨_,x.toInCall.ns,fun i y v h1 h2 h3=>?_⟩,fun y c h=>⟨_,x.cell y c h⟩,e0.hok.fresh (AF _),fun y c h=>?_,fun p hp=>absurd (show p∈([]:List (Addr×Obj)) from hp) (by simp),e0.hok.kept hk,?_⟩
 ·eC name_of_addr x.apart (EX h1) (EX h2)
 ·have hy:scope.names.lookup y=some .cell∨scope.names.lookup y=some .free:=hy
  rcases hy with hy|hy
  ·eC V4 hy
  ·eC absurd rfl (S.nofree _ (EX hy))
 ·eC DK (x.above y c (EX h))
 ·have hi:i<vs.length:=by
   unfold Ho at h2
   by_cases hi:i<vs.length
   ·eC hi
   ·rw [BN (by simpa using hi)] at h2
    rw [DR] at h2
    split at h2<;>cases h2
  have ha:vs[i]? =some v:=by
   unfold Ho at h2
   rw [CF (by simpa using hi),BJ] at h2
   cases e:vs[i]? with
   |none=>rw [e] at h2;cases h2
   |some a=>rw [e] at h2;cases h2;rfl
  obtain ⟨u,hu,rv⟩:=r.get ha
  have hp:ps[i]? =some y:=by
   rw [←S.pre,List.getElem?_take_of_lt #o];eC h1
  have ndP:ps.Nodup:=by rw [←S.pre];eC S.nd.sublist (List.take_sublist _ _)
  rA ⟨u,rv,?_⟩
  rcases S.par y (BH hp) with k|k
  ·eC .inl ⟨k,Sb ndP hp hu k⟩
  ·obtain ⟨c,e⟩:=V4 (n:=s.heap.objs.size+1) k
   rA .inr ⟨.inl k,c,e,?_⟩
   have q:=x.cell y c e
   rw [Ru ndP hp hu (by show scope.names.lookup y≠_;rw [k];decide)] at q
   eC q
 ·eC e0.hok.fresh (DK (x.above y c (EX h)))
 ·unfold Ho
  show _=N.length
  rw [AM,AE,EH]
  omega
theorem Agj {CX:CXT}{P:Program}{w:World}{K:KKf}{mg:Str→Option Value}{base:Heap}{k:Nat}{f:Addr}{name qual:Str}{params:Arguments}{body:List Stmt}{scope:Scope}{dV kV doc pm cdv ct oc:Value}{an od:Option Addr}
  {osl:Array (Option Value)} {N ps:List Str} {sp:Sp} (lk:K.lookup f=some ⟨oc,od,.func (PySem.W.fnOf name qual params body scope dV kV doc pm an cdv ct),osl⟩) (hcd:PySem.W.codeIn K cdv qual=true) (S:Ai N ps scope)
  (len:∀vs H Q E,sp vs H Q E→vs.length=ps.length)
  (hbody:∀(A:Around) (outer:List Env) (s:Shared) (H:Hp) (vs:List V) (Q:VK) (E:XK),B6 k (A.deeper (envOfC qual scope s.heap.objs.size f cdv))→sp vs H Q E →
   ∃t,Ny (Ct CX P w K mg base N qual scope f cdv A outer s H E) body t∧t { nx:=fun _ H'=>Q .non H',rt:=Q } (Ho N vs) H) :
  Gy P w K mg base CX (k+1) f (PySem.W.fnOf name qual params body scope dV kV doc pm an cdv ct) ps sp:=by
 rA ⟨len,fun A outer s H args us vs Q E hr e0 hb r hsp=>?_⟩
 have hl:=len _ _ _ _ hsp
 have KX:K.In s.heap:=e0.mod.kin.keeps fun b o e=>(e0.bs b o e).1
 have lim:s.heap.NoLimit:=e0.mod.nolimit.keeps fun b o e=>(e0.bs b o e).1
 have hkind:∀y∈ps.zip us,scope.names.lookup y.1=some .local∨(scope.names.lookup y.1=some .cell∧((cellsFrom (s.heap.objs.size+1) scope.names []).lookup y.1).isSome=true):=fun ⟨n,v⟩ hy=>by
  rcases S.par n (GC hy).1 with q|q
  ·eC .inl q
  ·eC .inr ⟨q,PySem.W.cellsFrom_some _ _ _ (.inl q)⟩
 rA codeAny_call_function hr.depth (KX _ _ lk) rfl S.co S.gen rfl (PySem.W.codeRec_of KX hcd) (hb _ _ _ _ ?_)
 rA wpAny_newFunctionEnv_cells S.kind hkind fun env he s1 x=>?_
 subst he
 rA ⟨lim.keeps x.toInCall.keep,codeAny_func ?_⟩
 obtain ⟨t,ht,hq⟩:=hbody A outer s H vs Q E (hr.deeper _) hsp
 have I:Ar (Ct CX P w K mg base N qual scope f cdv A outer s H E) [] (Ho N vs) H s1:=Acx S hr.hd e0 hl r x
 rA BP (ht [] s1 (Ho N vs) H _ I hq) (fun fl s' hs=>?_) fun e s' hs=>hs
 have fin:∀{σ':St} {H':Hp} {v:V} {u:Value},Ar (Ct CX P w K mg base N qual scope f cdv A outer s H E) [] σ' H' s'→RelV v u→Q v H'→CE outer P w H s Q u s' :=
  fun {σ' H' v u} J rv q=>⟨v,H',J.os,J.bare,J.base,J.hok,rv,q⟩
 cases fl with
 |ret u=>
  obtain ⟨v,σ',H',J,rv,q⟩:=hs
  eC fin J rv q
 |next=>
  obtain ⟨σ',H',J,q⟩:=hs
  eC fin (v:=V.non) (u:=Value.none) J rfl q
 |brk=>
  obtain ⟨_,_,_,q⟩:=hs
  eC False.elim q
 |cont=>
  obtain ⟨_,_,_,q⟩:=hs
  eC False.elim q
end L2
namespace L2
open PySem PySem.Spec PyProof.Rows
section
variable {X:Cx}{x:Str}{p pos:Pos}{e:Expr}{es:List Expr}{t:TA}{id T:String}{r:List V→Hp→VK→Prop}
def tCB (r:List V→Hp→VK→Prop)(t:TA):TE:=fun σ H Q=>t σ H fun vs H1=>r vs H1 Q
theorem Aq (hc:Dg X (.builtin id) r)(hg:Gl X x)(hm:X.mg x=none)(hv:bootBuiltins x=some (.builtin id))(ha:PA X (e::es) t)(hn:x≠"__name__":=by decide)(hdb:(x==("__debug__":Str))=false:=by decide)
  (he:starEach (e::es) X.env=(false,eval e X.env)::starEach es X.env:=by rfl) (hpl:(backTo pos (starEach es X.env)).any (·.1)=false:=by rfl):PE X (.Call (.Name x p) (e::es) [] pos) (tCB r t):=by
 intro pins s σ H Q I h
 rA DC (E7 I hg hm hv ?_ hn hdb)
 eC PyProof.Rows.callWith_builtin1 (Bi (ha pos pins s σ H _ I h) fun us s1 ⟨vs,H1,I1,r1,q1⟩=>hc pins s1 σ H1 vs us Q I1 r1 q1) he hpl
theorem Bl (hc:Dg X (.type T) r)(hg:Gl X x)(hm:X.mg x=none)(hv:bootBuiltins x=some (.type T))(ha:PA X (e::es) t)(hn:x≠"__name__":=by decide)(hdb:(x==("__debug__":Str))=false:=by decide)
  (he:starEach (e::es) X.env=(false,eval e X.env)::starEach es X.env:=by rfl) (hpl:(backTo pos (starEach es X.env)).any (·.1)=false:=by rfl):PE X (.Call (.Name x p) (e::es) [] pos) (tCB r t):=by
 intro pins s σ H Q I h
 rA DC (E7 I hg hm hv ?_ hn hdb)
 eC BX (Bi (ha pos pins s σ H _ I h) fun us s1 ⟨vs,H1,I1,r1,q1⟩=>hc pins s1 σ H1 vs us Q I1 r1 q1) he hpl
end
end L2
namespace HT
open PySem PyProof.Rows
section
variable {prog:Program}{w:World}{A:Around}{E:Value→Shared→Prop}{s:Shared}
def sIx (n d:Nat):Option Int→Nat
 |none=>d
 |some v=>if v<0 then (v+(n:Int)).toNat else min v.toNat n
theorem sIx_none (n d:Nat):sIx n d none=d:=rfl
theorem sIx_nat (n d k:Nat):sIx n d (some (k:Int))=min k n:=by
 show (if (k:Int)<0 then ((k:Int)+(n:Int)).toNat else min (k:Int).toNat n)=min k n
 rw [AI #o,CW]
theorem sIx_le (n d:Nat)(hd:d≤n)(o:Option Int):sIx n d o≤n:=by
 cases o with
 |none=>eC hd
 |some v=>
  show (if v<0 then (v+(n:Int)).toNat else min v.toNat n)≤n
  by_cases hv:v<0
  ·rw [AN hv];omega
  ·rw [AI hv];eC Nat.min_le_right _ _
theorem Aao (v:Int)(n d:Nat):(if v<0 then max (v+(n:Int)) 0 else min v (n:Int))=((sIx n d (some v):Nat):Int):=by
 show (if v<0 then max (v+(n:Int)) 0 else min v (n:Int))=(((if v<0 then (v+(n:Int)).toNat else min v.toNat n):Nat):Int)
 by_cases hv:v<0
 ·simp only [AN hv];omega
 ·simp only [AI hv];omega
theorem Zm (lo hi:Option Int)(n:Nat):Builtin.Slice.sliceAdjust lo hi 1 (n:Int)=(((sIx n 0 lo:Nat):Int),((sIx n n hi:Nat):Int)):=by
 have h1:¬((1:Int)<0):=by omega
 unfold Builtin.Slice.sliceAdjust
 simp only [h1,DD]
 rA Prod.ext ?_ ?_
 ·cases lo with
  |none=>rfl
  |some v=>eC Aao v n 0
 ·cases hi with
  |none=>rfl
  |some v=>eC Aao v n n
theorem Z6 (i j:Nat):Builtin.Slice.slicePlaces (i:Int) (j:Int) 1=j-i:=by
 unfold Builtin.Slice.slicePlaces
 have h1:(1:Int)>0:=by omega
 simp only [h1,FO,Int.ediv_one]
 split<;>omega
theorem Pt {v:Value}{o:Option Int}{Q:Option Int→Shared→Prop}(p:IsPart v o)(h:Q o s):wpAny (model prog w) A (Builtin.Slice.slicePartIndex v) Q E s:=by
 cases p with
 |none=>eC slicePart_none h
 |int i t=>eC slicePart_int h
theorem Nk {sl:Addr}{vl vu:Value}{lo hi:Option Int}{n:Nat}{Q:Int×Int×Nat→Shared→Prop}(hs:s.heap.IsSliceOf sl vl vu .none)(pl:IsPart vl lo)(pu:IsPart vu hi)
  (h:Q (((sIx n 0 lo:Nat):Int),1,sIx n n hi-sIx n 0 lo) s):wpAny (model prog w) A (Builtin.Slice.sliceApplied (.ref sl) (pure (n:Int))) Q E s:=by
 obtain ⟨os,hos,hcs,hds⟩:=id hs
 unfold Builtin.Slice.sliceApplied Builtin.Slice.sliceFields
 rA AA (AA (CQ hos hds (x:=vl) rfl (AA (CQ hos hds (x:=vu) rfl (AA (CQ hos hds (x:=.none) rfl (AC ?_)))))))
 rA AA (slicePart_none ?_)
 show wpAny _ _ (if ((1:Int)==0)=true then _ else _) _ _ s
 rw [AI #d]
 rA AA (Pt pl (AA (Pt pu (AA (AC ?_)))))
 show wpAny _ _ (match Builtin.Slice.sliceAdjust lo hi 1 (n:Int) with|(lo,hi)=>pure (lo,(1:Int),Builtin.Slice.slicePlaces lo hi 1)) _ _ s
 rw [Zm lo hi n]
 show wpAny _ _ (pure (((sIx n 0 lo:Nat):Int),(1:Int),Builtin.Slice.slicePlaces ((sIx n 0 lo:Nat):Int) ((sIx n n hi:Nat):Int) 1)) _ _ s
 rw [Z6]
 eC AC h
theorem Af0 (xs:Array Value)(i k:Nat):((List.range k).filterMap fun (m:Nat)=>xs[((i:Int)+(m:Int)*1).toNat]?).toArray=((xs.toList.drop i).take k).toArray:=by
 have e:(fun (m:Nat)=>xs[((i:Int)+(m:Int)*1).toNat]?)=fun m=>xs[i+m]?:=by
  funext m
  have:((i:Int)+(m:Int)*1).toNat=i+m:=by omega
  rw [this]
 rw [e]
 have:=pick_run xs i k
 rw [List.filterMap_map] at this
 have e2:((fun x=>xs[x]?) ∘ fun x=>i+x)=fun m=>xs[i+m]?:=rfl
 rw [e2] at this
 rw [this]
theorem getItem_tuple_cut {t sl:Addr}{items:Array Value}{vl vu:Value}{lo hi:Option Int}{Q:Value→Shared→Prop}(ht:IsTup s.heap t items)(hs:s.heap.IsSliceOf sl vl vu .none)(pl:IsPart vl lo)(pu:IsPart vu hi)
  (hw:¬(sIx items.size 0 lo=0∧sIx items.size items.size hi=items.size))
  (h:Q (.ref s.heap.objs.size) { s with heap:=s.heap.push { cls:=.type "tuple",data:=.seq ((items.toList.drop (sIx items.size 0 lo)).take (sIx items.size items.size hi-sIx items.size 0 lo)).toArray } })
  (hsz:items.size≤sizeLine):wpAny (model prog w) A (getItem (.ref t) (.ref sl)) Q E s:=by
 have htake:sizeOk (.seq ((items.toList.drop (sIx items.size 0 lo)).take (sIx items.size items.size hi-sIx items.size 0 lo)).toArray):=by
  show ((items.toList.drop (sIx items.size 0 lo)).take (sIx items.size items.size hi-sIx items.size 0 lo)).toArray.size≤sizeLine
  rw [AR,BQ,DN,BK]
  omega
 have hj:sIx items.size items.size hi≤items.size:=sIx_le _ _ (AF _) hi
 obtain ⟨os,hos,hcs,hds⟩:=id hs
 have hTs:s.TypeIs (.ref sl) "slice":=⟨os,hos,hcs⟩
 unfold getItem
 try with_reducible rA CS ?_
 first|rA AA (AC ?_)|skip
 rA AA (wpAny_sequenceKey ht.typeIs #d ?_)
 rA AA (CC (name:=Str.ofString "__getitem__") ht.typeIs EZ
  (wpAny_call_entry EZ ht.typeIs entry_tuple_getitem ?_ (args_tuple_getitem _ _)))
 show wpAny _ _ (Builtin.Tuple.tupleItemsOf (.ref t) >>= _) _ _ s
 rA AA (tupleItemsOf_ ht ?_)
 rA AA (wpAny_typeOf hTs ?_)
 rw [AN #d]
 rA AA (Nk hs pl pu ?_)
 have hno:¬((((sIx items.size 0 lo:Nat):Int)==0&&(1:Int)==1&&(sIx items.size items.size hi-sIx items.size 0 lo)==items.size)=true):=by
  intro q
  rw [BR,BR] at q
  have q1:((sIx items.size 0 lo:Nat):Int)=0:=eq_of_beq q.1.1
  have q2:sIx items.size items.size hi-sIx items.size 0 lo=items.size:=eq_of_beq q.2
  eC hw ⟨by omega,by omega⟩
 show wpAny _ _ (if (((sIx items.size 0 lo:Nat):Int)==0&&(1:Int)==1&&(sIx items.size items.size hi-sIx items.size 0 lo)==items.size)=true then _ else _) _ _ s
 rw [AI hno,Af0]
 first
  |eC AA (m:=Builtin.Tuple.tupleExact _) (BS (AC ⟨_,rfl,AC h⟩) htake)
  |eC AA (m:=Builtin.Tuple.tupleExact _) (BS (AA (AC (AC ⟨_,rfl,AC h⟩))) htake)
  |eC AA (AA (m:=Builtin.Tuple.tupleExact _) (BS (AC (AC ⟨_,rfl,AC h⟩)) htake))
  |eC AA (AA (m:=Builtin.Tuple.tupleExact _) (BS (AC ⟨_,rfl,AC h⟩) htake))
end
end HT
namespace L2
open PySem PySem.Spec PyProof.Rows
abbrev TO:=St→Hp→(Option Int→Hp→Prop)→Prop
def PO (X:Cx)(e:Option Expr)(t:TO):Prop:=
 ∀(pins:List (Addr×Obj)) (s:Shared) (σ:St) (H:Hp) (Q:Option Int→Hp→Prop),Ar X pins σ H s→t σ H Q →
  wpAny (model X.prog X.w) X.A (evalPart e X.env) (fun u s'=>∃o H',Ar X pins σ H' s'∧IsPart u o∧Q o H') X.xe s
def Ahm:TO:=fun _ H Q=>Q none H
def Apm (t:TE):TO:=fun σ H Q=>t σ H fun x H1=>∃i,x=.int i∧Q (some i) H1
section
variable {X:Cx}{e:Expr}{te:TE}{lo hi:Option Expr}{tl th:TO}{pos p2:Pos}
theorem Jt:PO X none Ahm:=by
 intro pins s σ H Q I h
 rw [evalPart_none]
 eC AC ⟨none,H,I,.none,h⟩
theorem Dj (h:PE X e te):PO X (some e) (Apm te):=by
 intro pins s σ H Q I hw
 rw [evalPart_some]
 rA Bi (h pins s σ H _ I hw) fun u s1 ⟨x,H1,I1,r1,q1⟩=>?_
 obtain ⟨i,rfl,q⟩:=q1
 obtain ⟨t,rfl⟩:=r1
 eC ⟨some i,H1,I1,.int i t,q⟩
def SlR (X:Cx)(r:V→Option Int→Option Int→Hp→VK→Prop):Prop:=
 ∀(pins:List (Addr×Obj)) (s:Shared) (σ:St) (H:Hp) (x:V) (v vl vu:Value) (lo hi:Option Int) (sl:Addr) (Q:VK),Ar X pins σ H s→RelV x v→s.heap.IsSliceOf sl vl vu .none→IsPart vl lo→IsPart vu hi→r x lo hi H Q →
  ∃T id,typeLookup (.type T) "__getitem__"=pure (some (.builtin id))∧s.TypeIs v T∧wpAny (model X.prog X.w) X.A (getItem v (.ref sl)) (EP X pins σ Q) X.xe s
def tSl (r:V→Option Int→Option Int→Hp→VK→Prop)(te:TE)(tl th:TO):TE:=fun σ H Q=>te σ H fun x H1=>tl σ H1 fun l H2=>th σ H2 fun u H3=>r x l u H3 Q
theorem D7 {r:V→Option Int→Option Int→Hp→VK→Prop}(hr:SlR X r)(he:PE X e te)(hl:PO X lo tl)(hu:PO X hi th):PE X (.Subscript e (.Slice lo hi none p2) pos) (tSl r te tl th):=by
 intro pins s σ H Q I h
 rA Subscript_ (Bi (he pins s σ H _ I h) fun v s1 ⟨x,H1,I1,r1,q1⟩=>?_)
 rA wpAny_Slice (Bi (hl pins s1 σ H1 _ I1 q1) fun vl s2 ⟨l,H2,I2,pl,q2⟩=>Bi (hu pins s2 σ H2 _ I2 q2) fun vu s3 ⟨u,H3,I3,pu,q3⟩=>?_)
 rw [evalPart_none]
 rA AC ?_
 have I4:Ar X pins σ H3 { s3 with heap:=s3.heap.push { cls:=.type "slice",data:=.fields #[vl,vu,.none] } }:=I3.kept (t':=s3.toks) fun b ob q=>AB _ q
 obtain ⟨T,id,hT,ht,hg⟩:=hr pins { s3 with heap:=s3.heap.push { cls:=.type "slice",data:=.fields #[vl,vu,.none] } } σ H3 x v vl vu l u s3.heap.objs.size Q I4 r1 (Heap.IsSliceOf.new ..) pl pu q3
 show wpAny (model X.prog X.w) X.A (subscriptTail e (.Slice lo hi none p2) v (.ref s3.heap.objs.size)) (EP X pins σ Q) X.xe { s3 with heap:=s3.heap.push { cls:=.type "slice",data:=.fields #[vl,vu,.none] } }
 eC tail_any (ops:=[.ref s3.heap.objs.size,v]) ht hT hg (by with_unfolding_all rfl)
def Ms (xs:List V)(lo hi:Option Int):List V:=(xs.drop (HT.sIx xs.length 0 lo)).take (HT.sIx xs.length xs.length hi-HT.sIx xs.length 0 lo)
theorem N4 (xs:List V)(lo hi:Option Int):(Ms xs lo hi).length≤xs.length:=by
 unfold Ms
 rw [BQ,DN]
 omega
def Ar6 (K:KKf):V→Option Int→Option Int→Hp→VK→Prop:=fun x lo hi H Q=>∃a xs,x=.ref a∧Ec K H a xs ∧
 ¬(HT.sIx xs.length 0 lo=0∧HT.sIx xs.length xs.length hi=xs.length)∧∀p,H p=none→Q (.ref p) (upd H p (.tup (Ms xs lo hi)))
theorem Z7:SlR X (Ar6 X.K):=by
 intro pins s σ H x v vl vu lo hi sl Q I rx hs pl pu h
 obtain ⟨a,xs,rfl,hx,hw,q⟩:=h
 cases rx
 obtain ⟨its,r,ht,hz⟩:=I.tuple hx
 have hlen:its.toArray.size=xs.length:=by rw [AR];eC r.length.symm
 rA ⟨"tuple",_,EZ.lookup,ht.typeIs,?_⟩
 rA HT.getItem_tuple_cut ht hs pl pu (by rw [hlen];eC hw) ?_ (by rw [hlen];eC hz)
 rw [hlen]
 rA ⟨.ref s.heap.objs.size,_,I.laid (t':=s.toks) (o:=.tup (Ms xs lo hi)) (fun b ob q=>AB _ q) (AF _) ?_,rfl,q _ (I.hok.fresh (AF _))⟩
 eC ⟨AO (N4 xs lo hi) hz,_,(r.drop (HT.sIx xs.length 0 lo)).take (HT.sIx xs.length xs.length hi-HT.sIx xs.length 0 lo),IsTup.new _ _⟩
end
end L2
namespace L2
open PySem PySem.Spec PyProof.Rows
def ixN (n:Nat)(i:Int):Option Nat:=if 0≤i then (if i<n then some i.toNat else none) else if -(n:Int)≤i then some (i+n).toNat else none
def Q6 {α:Type}(xs:List α)(i:Int):Option α:=(ixN xs.length i).bind fun j=>xs[j]?
theorem Ai6 {n:Nat}{i:Int}{j:Nat}(h:ixN n i=some j):seqIndex? i n=some j∧j<n∧-(n:Int)≤i∧i<n:=by
 unfold ixN at h
 by_cases h0:0≤i
 ·rw [AN h0] at h
  by_cases h1:i<n
  ·rw [AN h1] at h
   have e:i.toNat=j:=Option.some.inj h
   eC ⟨by rw [seqIndex_of h0 h1,e],by omega,by omega,h1⟩
  ·rw [AI h1] at h;cases h
 ·rw [AI h0] at h
  by_cases h1:-(n:Int)≤i
  ·rw [AN h1] at h
   have e:(i+n).toNat=j:=Option.some.inj h
   eC ⟨by rw [seqIndex_neg #o h1,e],by omega,h1,by omega⟩
  ·rw [AI h1] at h;cases h
theorem Ug {α:Type}{xs:List α}{i:Int}{v:α}(h:Q6 xs i=some v):∃j,seqIndex? i xs.length=some j∧xs[j]? =some v∧j<xs.length∧-(xs.length:Int)≤i∧i<xs.length:=by
 unfold Q6 at h
 cases e:ixN xs.length i with
 |none=>rw [e] at h;cases h
 |some j=>
  rw [e] at h
  obtain ⟨h1,h2,h3,h4⟩:=Ai6 e
  eC ⟨j,h1,h,h2,h3,h4⟩
theorem A4 {α:Type}{xs:List α}{j:Nat}{v:α}(h:xs[j]? =some v):Q6 xs (j:Int)=some v:=by
 have hj:j<xs.length:=(BI.mp h).1
 have e:ixN xs.length (j:Int)=some j:=by
  unfold ixN
  rw [AN #o,AN #o];simp
 unfold Q6;rw [e];eC h
def Aiy (b:Expr):Prop:=∀o i,subscripted b false o i=operate [o,i] (getItem o i)
def IxR (X:Cx)(r:R2):Prop:=
 ∀(value slice:Expr) (pins:List (Addr×Obj)) (s:Shared) (σ:St) (H:Hp) (x y:V) (v u:Value) (Q:VK),Ar X pins σ H s→RelV x v→RelV y u→r x y H Q →
  subscripted slice false v u=operate [v,u] (getItem v u)→wpAny (model X.prog X.w) X.A (subscriptTail value slice v u) (EP X pins σ Q) X.xe s
def MtR (X:Cx)(id:String)(r:V→List V→Hp→VK→Prop):Prop:=
 ∀(pins:List (Addr×Obj)) (s:Shared) (σ:St) (H:Hp) (x:V) (xs:List V) (v:Value) (us:List Value) (Q:VK),Ar X pins σ H s→RelV x v→A7 xs us→r x xs H Q →
  wpAny (model X.prog X.w) X.A (call (.builtin id) (v::us)) (EP X pins σ Q) X.xe s
section
variable {X:Cx}{a b:Expr}{ta tb:TE}{pos:Pos}
theorem Aj {r:R2}(hr:IxR X r)(ha:PE X a ta)(hb:PE X b tb)(hs:Aiy b):PE X (.Subscript a b pos) (tOp r ta tb):=by
 intro pins s σ H Q I h
 eC Subscript_ (Ak7 ha hb I h fun v u s2 x y H2 I2 rx ry q=>hr a b pins s2 σ H2 x y v u Q I2 rx ry q (hs _ _))
def Asg (K:KKf):R2:=fun x y H Q=>∃p xs i v,x=.ref p∧y=.int i∧A3 K H p xs∧Q6 xs i=some v∧Q v H
def Arf (K:KKf):R2:=fun x y H Q=>∃p xs i v,x=.ref p∧y=.int i∧Ec K H p xs∧Q6 xs i=some v∧Q v H
def Ars:R2:=fun x y H Q=>∃z i c,x=.str z∧y=.int i∧z.length≤sizeLine∧Q6 z.cps.toList i=some c∧Q (.str ⟨#[c]⟩) H
theorem Ahy:IxR X (Asg X.K):=by
 intro value slice pins s σ H x y v u Q I rx ry h hs
 obtain ⟨p,xs,i,z,rfl,rfl,hq,he,q⟩:=h
 cases rx
 obtain ⟨t,rfl⟩:=ry
 obtain ⟨its,r,pl,hz⟩:=I.list hq
 obtain ⟨j,h1,h2,h3,h4,h5⟩:=Ug he
 obtain ⟨w,ew,rw'⟩:=r.get h2
 have hl:=r.length
 have hn:=Ng
 have fin:EP X pins σ Q w s:=⟨z,H,I,rw',q⟩
 by_cases h0:0≤i
 ·have hj:i.toNat=j:=by
   rw [seqIndex_of h0 h5] at h1
   eC Option.some.inj h1
  eC item_listR pl.isList h0 #o (by rw [hj];simpa using ew) fin hs
 ·have hj:(i+(its.toArray.size:Int)).toNat=j:=by
   rw [seqIndex_neg #o h4] at h1
   rw [AR,←hl]
   eC Option.some.inj h1
  eC subscriptTail_builtinR (x:=w) pl.isList.typeIs slot_list_getitem.lookup
   (wpAny_getItem_list_neg (Q:=fun r s'=>r=w∧EP X pins σ Q r s') pl.isList #o (by rw [AR]<;>omega) #o (by rw [hj];simpa using ew) ⟨rfl,fin⟩) hs
theorem Yz:IxR X (Arf X.K):=by
 intro value slice pins s σ H x y v u Q I rx ry h hs
 obtain ⟨p,xs,i,z,rfl,rfl,hq,he,q⟩:=h
 cases rx
 obtain ⟨t,rfl⟩:=ry
 obtain ⟨its,r,pl,hz⟩:=I.tuple hq
 obtain ⟨j,h1,h2,h3,h4,h5⟩:=Ug he
 obtain ⟨w,ew,rw'⟩:=r.get h2
 have hl:=r.length
 have hn:=Ng
 have fin:EP X pins σ Q w s:=⟨z,H,I,rw',q⟩
 eC subscriptTail_builtinR (x:=w) pl.typeIs slot_tuple_getitem.lookup
  (getItem_tuple (j:=j) (Q:=fun r s'=>r=w∧EP X pins σ Q r s') pl #o #o (by rw [AR,←hl];eC h1) (by simpa using ew) ⟨rfl,fin⟩) hs
theorem Akr:IxR X Ars:=by
 intro value slice pins s σ H x y v u Q I rx ry h hs
 obtain ⟨z,i,c,rfl,rfl,hz,he,q⟩:=h
 obtain ⟨t,rfl⟩:=rx
 obtain ⟨t',rfl⟩:=ry
 obtain ⟨j,h1,h2,h3,h4,h5⟩:=Ug he
 have hl:z.cps.toList.length=z.length:=by simp [Str.length]
 rw [hl] at h1 h4 h5
 have hn:=Ng
 eC tail_any (GJ s z t) slot_str_getitem.lookup (getItem_str (c:=c) (by
  have e1:decide (i < -(2 ^ 63:Int))=false:=BA #o
  have e2:decide (i≥2 ^ 63)=false:=BA #o
  rw [e1,e2,Bool.or_false]) (by rw [h1];simpa using h2) ⟨.str ⟨#[c]⟩,H,I.tok _,⟨_,rfl⟩,q⟩) hs
theorem Ud (lo hi:Option Int)(n:Nat):(sliceBounds lo hi none n).1=((HT.sIx n 0 lo:Nat):Int)∧(sliceBounds lo hi none n).2.1=((HT.sIx n n hi:Nat):Int)∧(sliceBounds lo hi none n).2.2=1:=by
 rA ⟨?_,?_,rfl⟩
 ·cases lo with
  |none=>simp [sliceBounds,HT.sIx]
  |some i=>
   simp only [sliceBounds,HT.sIx,Option.getD_none,show (1:Int)>0 by decide,FO]
   by_cases h:i<0
   ·simp only [h,FO]<;>omega
   ·simp only [h,DD]<;>omega
 ·cases hi with
  |none=>simp [sliceBounds,HT.sIx]
  |some i=>
   simp only [sliceBounds,HT.sIx,Option.getD_none,show (1:Int)>0 by decide,FO]
   by_cases h:i<0
   ·simp only [h,FO]<;>omega
   ·simp only [h,DD]<;>omega
theorem Q0 (its:List Value)(lo hi:Option Int):slicePick its.toArray lo hi none=((its.drop (HT.sIx its.length 0 lo)).take (HT.sIx its.length its.length hi-HT.sIx its.length 0 lo)).toArray:=by
 obtain ⟨h1,h2,h3⟩:=Ud lo hi its.toArray.size
 unfold slicePick
 rw [h1,h2,h3]
 simp only [sliceRange_one,pick_run,AR]<;>rfl
def Asa (K:KKf):V→Option Int→Option Int→Hp→VK→Prop:=fun x lo hi H Q=>∃a xs,x=.ref a∧A3 K H a xs∧∀p,H p=none→Q (.ref p) (upd H p (.lst (Ms xs lo hi)))
theorem Ai3:SlR X (Asa X.K):=by
 intro pins s σ H x v vl vu lo hi sl Q I rx hs pl pu h
 obtain ⟨a,xs,rfl,hx,q⟩:=h
 cases rx
 obtain ⟨its,r,ht,hz⟩:=I.list hx
 have hlen:=r.length
 rA ⟨"list",_,slot_list_getitem.lookup,ht.isList.typeIs,?_⟩
 rA wpAny_getItem_list_slice ht.isList hs pl pu .none (by simp) ?_ (by rw [AR]<;>omega)
 rw [Q0,←hlen]
 rA ⟨.ref s.heap.objs.size,_,I.laid (t':=s.toks) (o:=.lst (Ms xs lo hi)) (fun b ob q=>AB _ q) (AF _) ?_,rfl,q _ (I.hok.fresh (AF _))⟩
 eC ⟨AO (N4 xs lo hi) hz,_,0,(r.drop (HT.sIx xs.length 0 lo)).take (HT.sIx xs.length xs.length hi-HT.sIx xs.length 0 lo),AG _ rfl⟩
def Fl:V→Bool
 |.non=>true
 |.bl _=>true
 |.int _=>true
 |.str _=>true
 |_=>false
def eqV:V→V→Bool
 |.non,.non=>true
 |.bl a,.bl b=>a==b
 |.bl a,.int b=>(if a then 1 else 0)==b
 |.int a,.bl b=>a==(if b then 1 else 0)
 |.int a,.int b=>a==b
 |.str a,.str b=>a==b
 |_,_=>false
theorem Al4 {A:Around}{s:Shared}{y x:V}{u v:Value}(ry:RelV y u)(rx:RelV x v)(fy:Fl y=true)(fx:Fl x=true):SeqAt.EqAt A s u v (eqV y x):=by
 cases y with
 |non=>
  cases ry
  cases x with
  |non=>cases rx;eC SeqAt.EqAt.same _
  |bl b=>cases rx;eC SeqAt.EqAt.none_bool b
  |int b=>obtain ⟨t,rfl⟩:=rx;eC SeqAt.EqAt.none_int b t
  |str b=>obtain ⟨t,rfl⟩:=rx;eC SeqAt.EqAt.none_str b t
  |_=>eC absurd (show false=true from fx) BC
 |bl a=>
  cases ry
  cases x with
  |non=>cases rx;eC SeqAt.EqAt.bool_none a
  |bl b=>cases rx;eC SeqAt.EqAt.bool_bool a b
  |int b=>obtain ⟨t,rfl⟩:=rx;eC SeqAt.EqAt.bool_int a b t
  |str b=>obtain ⟨t,rfl⟩:=rx;eC SeqAt.EqAt.bool_str a b t
  |_=>eC absurd (show false=true from fx) BC
 |int a=>
  obtain ⟨t',rfl⟩:=ry
  cases x with
  |non=>cases rx;eC SeqAt.EqAt.int_none a t'
  |bl b=>cases rx;eC SeqAt.EqAt.int_bool a t' b
  |int b=>obtain ⟨t,rfl⟩:=rx;eC SeqAt.EqAt.int_int a t' b t
  |str b=>obtain ⟨t,rfl⟩:=rx;eC SeqAt.EqAt.int_str a t' b t
  |_=>eC absurd (show false=true from fx) BC
 |str a=>
  obtain ⟨t',rfl⟩:=ry
  cases x with
  |non=>cases rx;eC SeqAt.EqAt.str_none a t'
  |bl b=>cases rx;eC SeqAt.EqAt.str_bool a t' b
  |int b=>obtain ⟨t,rfl⟩:=rx;eC SeqAt.EqAt.str_int a t' b t
  |str b=>obtain ⟨t,rfl⟩:=rx;eC SeqAt.EqAt.str_str a t' b t
  |_=>eC absurd (show false=true from fx) BC
 |_=>eC absurd (show false=true from fy) BC
def X6 (x:V)(u:Value):Bool:=match u with
 |.none=>eqV .non x
 |.bool b=>eqV (.bl b) x
 |.int i _=>eqV (.int i) x
 |.str z _=>eqV (.str z) x
 |_=>false
theorem S4 {x y:V}{u:Value}(r:RelV y u)(f:Fl y=true):X6 x u=eqV y x:=by
 cases y with
 |non=>cases r;rfl
 |bl b=>cases r;rfl
 |int i=>obtain ⟨t,rfl⟩:=r;rfl
 |str z=>obtain ⟨t,rfl⟩:=r;rfl
 |_=>eC absurd (show false=true from f) BC
theorem L7 {x:V}:∀{xs:List V} {us:List Value},A7 xs us→xs.all Fl=true→us.any (X6 x)=xs.any fun y=>eqV y x
 |_,_,.nil,_=>rfl
 |y::xs,u::us,.cons r t,f=>by
  rw [List.all_cons,BR] at f
  rw [FV,FV,S4 r f.1,L7 t f.2]
theorem Gp {A:Around}{s:Shared}{x:V}{v:Value}(rx:RelV x v)(fx:Fl x=true):∀{xs:List V} {us:List Value},A7 xs us→xs.all Fl=true→∀u∈us,SeqAt.EqAt A s u v (X6 x u)
 |_,_,.nil,_=>fun u hu=>by cases hu
 |y::xs,u::us,.cons r t,f=>fun u' hu=>by
  rw [List.all_cons,BR] at f
  rcases AU.mp hu with rfl|hu
  ·rw [S4 r f.1];eC Al4 r rx f.1 fx
  ·eC Gp rx fx t f.2 u' hu
def inV (x:V)(xs:List V):Bool:=xs.any fun y=>eqV y x
def rIn (K:KKf)(neg:Bool):R2:=fun x y H Q=>∃p xs,y=.ref p∧(A3 K H p xs∨Ec K H p xs)∧Fl x=true∧xs.all Fl=true∧Q (.bl (if neg then !inV x xs else inV x xs)) H
theorem Acm:Dy X (compareOp .In) (rIn X.K false):=by
 intro pins s σ H x y v u Q I rx ry h
 obtain ⟨p,xs,rfl,hq,fx,fs,q⟩:=h
 cases ry
 rcases hq with hq|hq
 ·obtain ⟨its,r,pl,hz⟩:=I.list hq
  rA SeqAt.in_listAt (X6 x) pl.isList (fun w hw=>Gp rx fx r fs w (by simpa using hw)) ⟨.bl _,H,I,rfl,?_⟩
  rw [show its.toArray.any (X6 x)=its.any (X6 x) by simp,L7 r fs]
  eC q
 ·obtain ⟨its,r,pl,hz⟩:=I.tuple hq
  rA SeqAt.in_tupleAt (X6 x) pl (fun w hw=>Gp rx fx r fs w (by simpa using hw)) ⟨.bl _,H,I,rfl,?_⟩
  rw [show its.toArray.any (X6 x)=its.any (X6 x) by simp,L7 r fs]
  eC q
theorem Vo:Dy X (compareOp .NotIn) (rIn X.K true):=by
 intro pins s σ H x y v u Q I rx ry h
 obtain ⟨p,xs,rfl,hq,fx,fs,q⟩:=h
 cases ry
 rcases hq with hq|hq
 ·obtain ⟨its,r,pl,hz⟩:=I.list hq
  rA SeqAt.notIn_listAt (X6 x) pl.isList (fun w hw=>Gp rx fx r fs w (by simpa using hw)) ⟨.bl _,H,I,rfl,?_⟩
  rw [show its.toArray.any (X6 x)=its.any (X6 x) by simp,L7 r fs]
  eC q
 ·obtain ⟨its,r,pl,hz⟩:=I.tuple hq
  rA SeqAt.notIn_tupleAt (X6 x) pl (fun w hw=>Gp rx fx r fs w (by simpa using hw)) ⟨.bl _,H,I,rfl,?_⟩
  rw [show its.toArray.any (X6 x)=its.any (X6 x) by simp,L7 r fs]
  eC q
theorem U1:Dg X (.builtin "len") (fun xs H Q=>∃p ys,xs=[.ref p]∧(A3 X.K H p ys∨Ec X.K H p ys)∧Q (.int ys.length) H):=by
 intro pins s σ H xs us Q I r h
 obtain ⟨p,ys,rfl,hq,q⟩:=h
 obtain ⟨u,rfl,rx⟩:=F2 r
 cases rx
 have hn:=Ng
 rcases hq with hq|hq
 ·obtain ⟨its,r',pl,hz⟩:=I.list hq
  have hlen:=r'.length
  eC Calls.call_len_list pl.isList (by simp only [AR]<;>omega) ⟨.int ys.length,H,I.tok _,⟨s.toks+1,by rw [AR,hlen]⟩,q⟩
 ·obtain ⟨its,r',pl,hz⟩:=I.tuple hq
  have hlen:=r'.length
  eC len_tuple pl (by simp only [AR]<;>omega) ⟨.int ys.length,H,I.tok _,⟨s.toks+1,by rw [AR,hlen]⟩,q⟩
theorem Td:Dg X (.builtin "len") (fun xs H Q=>∃z,xs=[.str z]∧z.length≤sizeLine∧Q (.int z.length) H):=by
 intro pins s σ H xs us Q I r h
 obtain ⟨z,rfl,hz,q⟩:=h
 obtain ⟨u,rfl,t,rfl⟩:=F2 r
 have hn:=Ng
 eC len_str #o ⟨.int z.length,H,I.tok _,⟨_,rfl⟩,q⟩
theorem Ld:Dg X (.type "list") (fun xs H Q=>∃p ys,xs=[.ref p]∧(A3 X.K H p ys∨Ec X.K H p ys)∧∀l,H l=none→Q (.ref l) (upd H l (.lst ys))):=by
 intro pins s σ H xs us Q I r h
 obtain ⟨p,ys,rfl,hq,q⟩:=h
 obtain ⟨u,rfl,rx⟩:=F2 r
 cases rx
 have fin:∀(its:List Value),A7 ys its→ys.length≤sizeLine→∀(h':Heap) (c':Nat),(∀b o',s.heap.get? b=some o'→h'.get? b=some o') →
   h'.get? s.heap.objs.size=some { cls:=.type "list",dict:=none,data:=.seq its.toArray c',slots:=#[] }→EP X pins σ Q (.ref s.heap.objs.size) { s with heap:=h' }:=fun its r' hz h' c' kp e=>
  ⟨.ref s.heap.objs.size,_,I.laid (t':=s.toks) kp (AF _) (show Bg X.prog X.w _ h' _ (.lst ys) from ⟨hz,its,c',r',e⟩),rfl,q _ (I.hok.fresh (AF _))⟩
 rcases hq with hq|hq
 ·obtain ⟨its,r',pl,hz⟩:=I.list hq
  have hlen:=r'.length
  obtain ⟨o,ho,hc,n,hd⟩:=pl.isList
  eC call_list_seq p (.inl rfl) ho hc hd (fun h' c' kp e=>fin its r' hz h' c' kp e) (by simp only [AR]<;>omega)
 ·obtain ⟨its,r',pl,hz⟩:=I.tuple hq
  have hlen:=r'.length
  obtain ⟨o,ho,hc,n,hd⟩:=pl
  eC call_list_seq p (.inr rfl) ho hc hd (fun h' c' kp e=>fin its r' hz h' c' kp e) (by simp only [AR]<;>omega)
def tyV (K:KKf)(T:String)(x:V)(H:Hp):Prop:=match x with
 |.str _=>T="str"
 |.int _=>T="int"
 | .ref p=>(T="list"∧∃xs,A3 K H p xs)∨(T="tuple"∧∃o,K.lookup p=some o∧o.cls=.type "tuple"∧o.dict=none) ∨
   (T="dict"∧((∃kvs,H p=some (.dK kvs))∨∃kvs,H p=some (.dT kvs)))∨(T="set"∧∃S n,H p=some (.set S n))
 |_=>False
theorem Anr {pins:List (Addr×Obj)}{σ:St}{H:Hp}{s:Shared}{T:String}{x:V}{v:Value}(I:Ar X pins σ H s)(r:RelV x v)(ty:tyV X.K T x H) :
  s.TypeIs v T∧∀a,v=.ref a→∃ob,s.heap.get? a=some ob∧ob.dict=none:=by
 cases x with
 |str z=>
  obtain ⟨t,rfl⟩:=r
  cases (show T="str" from ty)
  eC ⟨GJ s z t,fun _ e=>nomatch e⟩
 |int i=>
  obtain ⟨t,rfl⟩:=r
  cases (show T="int" from ty)
  eC ⟨typeIs_int s i t,fun _ e=>nomatch e⟩
 | ref p=>
  cases r
  rcases ty with ⟨rfl,xs,hq⟩|⟨rfl,o,hk,hc,hd⟩|⟨rfl,hk⟩|⟨rfl,S,n,hk⟩
  ·obtain ⟨its,_,pl,_⟩:=I.list hq
   rA ⟨pl.isList.typeIs,fun a e=>?_⟩
   cases e
   obtain ⟨o,n,e,c,hd,_⟩:=pl
   eC ⟨o,e,hd⟩
  ·rA ⟨⟨o,I.kIn p o hk,hc⟩,fun a e=>?_⟩
   cases e
   eC ⟨o,I.kIn _ o hk,hd⟩
  ·have z:∃o,s.heap.get? p=some o∧o.ExactDict:=by
    rcases hk with ⟨kvs,hk⟩|⟨kvs,hk⟩
    ·obtain ⟨_,_,_,_,o,_,_,e,ex,_⟩:=I.hok p _ hk
     eC ⟨o,e,ex⟩
    ·obtain ⟨_,_,_,_,o,_,_,e,ex,_⟩:=I.hok p _ hk
     eC ⟨o,e,ex⟩
   obtain ⟨o,e,ex⟩:=z
   rA ⟨⟨o,e,ex.1⟩,fun a e2=>?_⟩
   cases e2
   eC ⟨o,e,ex.2.1⟩
  ·obtain ⟨o,_,_,_,e,ex,_⟩:=I.hok p _ hk
   rA ⟨⟨o,e,ex.1⟩,fun a e2=>?_⟩
   cases e2
   eC ⟨o,e,ex.2.1⟩
 |_=>eC False.elim ty
def tBM (K:KKf)(T:String)(r:V→List V→Hp→VK→Prop)(to:TE)(t:TA):TE:=fun σ H Q=>to σ H fun x H1=>tyV K T x H1∧t σ H1 fun xs H2=>r x xs H2 Q
variable {o e:Expr}{es:List Expr}{to:TE}{t:TA}{name:Str}{apos cpos:Pos}{T id:String}{r:V→List V→Hp→VK→Prop}
theorem Lu (pa:PlainAttrs T)(slot:Slot T name id)(hty:typeOf (.builtin id)=pure (.type "method_descriptor"))(hm:MtR X id r)(ho:PE X o to)(ha:PA X (e::es) t)
  (hbase:attributeBase o name X.env (eval o X.env)=eval o X.env:=by rfl)
  (hfew:((backTo cpos (starEach (e::es) X.env)).all (fun x=>!x.1)&&(backToKw cpos (keywordEach [] X.env)).all (fun x=>x.1.isSome)
   && decide ((e::es).length+([]:List Keyword).length+(if ([]:List Keyword).isEmpty then 0 else 1)<30))=true:=by rfl)
  (hline:(apos.endLine==cpos.line)=true:=by rfl) (hs:starEach (e::es) X.env=(false,eval e X.env)::starEach es X.env:=by rfl) (hplain:(backTo cpos (starEach es X.env)).any (·.1)=false:=by rfl) :
  PE X (.Call (.Attribute o name apos) (e::es) [] cpos) (tBM X.K T r to t):=by
 intro pins s σ H Q I h
 rA wpAny_Call_method_late hbase hfew hline rfl (Bi (ho pins s σ H _ I h) fun v s1 ⟨x,H1,I1,r1,ty,q1⟩=>?_)
 obtain ⟨h1,h2⟩:=Anr I1 r1 ty
 rA ⟨T,id,pa,slot,hty,h1,h2,?_⟩
 have hA:=ha cpos pins s1 σ H1 _ I1 q1
 rw [hs] at hA ⊢
 rA FK (by show (false||(backTo cpos (starEach es X.env)).any (·.1))=false;rw [hplain]<;>rfl) (FS ?_)
 eC Bi hA fun us s2 ⟨vs,H2,I2,r2,q2⟩=>hm pins s2 σ H2 x vs v us Q I2 r1 r2 q2
/- xs.append(e),list.index on a module's tuple .. are MtR facts of 06m -/
end
end L2
namespace L2
open PySem PySem.Spec PyProof.Rows
def MtM (X:Cx)(id:String)(r:V→List V→Hp→VK→Prop):Prop:=
 ∀(pins:List (Addr×Obj)) (s:Shared) (σ:St) (H:Hp) (x:V) (xs:List V) (v:Value) (us:List Value) (Q:VK),Ar X pins σ H s→RelV x v→A7 xs us→r x xs H Q →
  wpAny (model X.prog X.w) X.A (call (.builtin id) (v::us)) (EP X pins σ Q) X.xe s
theorem A7.one:∀{x:V} {us:List Value},A7 [x] us→∃u,us=[u]∧RelV x u
 |_,_,.cons r .nil=>⟨_,rfl,r⟩
section
variable {X:Cx}{pins:List (Addr×Obj)}{σ:St}{H:Hp}{s:Shared}{l b:Addr}{xs ys zs:List V}
theorem Ar.lset {its its':List Value}{n:Nat}{f:Array Value→Array Value}{t':Nat}(I:Ar X pins σ H s)(hH:H l=some (.lst xs))
  (e:s.heap.get? l=some { cls:=.type "list",data:=.seq its.toArray n }) (hf:f its.toArray=its'.toArray) (hv:A7 ys its') (hz:ys.length≤sizeLine) :
  Ar X pins σ (upd H l (.lst ys)) { s with heap:=s.heap.update l (Obj.mapSeq f),toks:=t' }:=by
 have q:=PySem.IsL.update e f
 rw [hf] at q
 rA I.write (x:=l) (e:=l) (by rw [hH];eC trivial) (.inl rfl) (fun b' u hb hu=>(DY s.heap (Obj.mapSeq f) (CM hb)).trans hu) ⟨_,q⟩ ?_
 eC ⟨hz,its',_,hv,q⟩
theorem Ar.lnew {its:List Value}{t':Nat}(I:Ar X pins σ H s)(hv:A7 ys its)(hz:ys.length≤sizeLine) :
  Ar X pins σ (upd H s.heap.objs.size (.lst ys)) { s with heap:=s.heap.push { cls:=.type "list",data:=.seq its.toArray },toks:=t' } :=
 I.laid (fun _ _ q=>AB _ q) (AF _) ⟨hz,its,0,hv,AG _ rfl⟩
theorem Ar.fresh (I:Ar X pins σ H s):H s.heap.objs.size=none:=I.hok.fresh (AF _)
theorem Ar.lstM (I:Ar X pins σ H s)(hH:H l=some (.lst xs)):xs.length≤sizeLine∧∃(its:List Value) (n:Nat),A7 xs its∧xs.length=its.length∧s.heap.get? l=some { cls:=.type "list",data:=.seq its.toArray n }:=by
 obtain ⟨z,its,n,r,e⟩:=I.hok l _ hH
 eC ⟨z,its,n,r,r.length,e⟩
theorem Ad5 {n:Nat}(h:n≤sizeLine):Builtin.List.listTooLong n=false:=by
 unfold Builtin.List.listTooLong
 eC BA #o
end
section
variable {X:Cx}
def Aib:V→List V→Hp→VK→Prop:=fun x vs H Q=>∃l xs y,x=.ref l∧vs=[y]∧H l=some (.lst xs)∧xs.length<sizeLine∧Q .non (upd H l (.lst (xs++[y])))
theorem Ju:MtM X "list.append" Aib:=by
 intro pins s σ H x vs v us Q I rx rv h
 obtain ⟨l,xs,y,rfl,rfl,hH,hz,q⟩:=h
 cases rx
 obtain ⟨u,rfl,ru⟩:=rv.one
 obtain ⟨z,its,n,r,hl,e⟩:=I.lstM hH
 rA call_meets F.slot_list_append ⟨_,e,rfl⟩ F.entry_list_append (F.args_list_append_2 _ _) (PySem.list_append l its.toArray n u (by rw [AR];omega)) ⟨e,?_⟩
 rA ⟨.non,_,I.lset (its':=its++[u]) hH e (by simp) (r.append (.cons ru .nil)) ?_,rfl,q⟩
 rw [AM,DO]
 omega
def Asd:R2:=fun x y H Q=>∃l b xs zs,x=.ref l∧y=.ref b∧H l=some (.lst xs)∧H b=some (.lst zs)∧xs.length+zs.length≤sizeLine∧∀p,H p=none→Q (.ref p) (upd H p (.lst (xs++zs)))
theorem Amw:Dy X (binaryOp .Add) Asd:=by
 intro pins s σ H x y v u Q I rx ry h
 obtain ⟨l,b,xs,zs,rfl,rfl,hH,hB,hz,q⟩:=h
 cases rx
 cases ry
 obtain ⟨z,its,n,r,hl,e⟩:=I.lstM hH
 obtain ⟨z2,its2,n2,r2,hl2,e2⟩:=I.lstM hB
 rA PySem.P.add_list e e2 ?_ (by rw [AR,AR];omega)
 have ea:its.toArray++its2.toArray=(its++its2).toArray:=by simp
 rw [ea]
 eC ⟨.ref _,_,I.lnew (t':=s.toks) (r.append r2) (by rw [AM];omega),rfl,q _ I.fresh⟩
end
end L2
namespace Att
open PySem PySem.W PySem.Calls PyProof.Rows
theorem Of {P:Params}{h:Heap}:∀(ns:List Int) (vs:List Value),WellAll P h vs (ns.map WData.int)→IntsAre vs ns:=by
 intro ns
 induction ns with
 |nil=>
  intro vs w
  rw [List.map_nil] at w
  cases w
  eC .nil
 | cons n ns ih=>
  intro vs w
  rw [BE] at w
  cases w with
  |cons a b=>
   cases a
   eC .cons _ _ (ih _ b)
theorem script_of {l:OpenLaw}{n:Nat}(hn:l.most=some n){P:Params}{h:Heap}{args:List WData}{vals:List Value}
  (hpre:l.row.toRowW.claim.pre args=true) (hwl:WellAll P h vals args) :
  ∃a vs ns,vals=[Value.ref a]∧args=[WData.list (ns.map WData.int)]∧h.get? a=some { cls:=.type "list",data:=.seq vs.toArray }∧IntsAre vs ns∧ns.length≤n:=by
 have hsh:WShape.hasAll [] args [.list .int]=true:=(pre_splitW hpre).1
 have hc:l.pre.holds [] { args:=args }=true:=(pre_splitW hpre).2
 obtain ⟨d,r,rfl,h1,h2⟩:=hasAllW_cons hsh
 obtain rfl:=hasAllW_nil h2
 obtain ⟨xs,rfl,h3⟩:=hasW_list h1
 obtain ⟨ns,rfl⟩:=items_int h3
 have hlen:ns.length≤n:=by
  unfold OpenLaw.pre at hc
  have h4:(WTm.not (.lt (.lit (.int (n:Int))) (.len (.arg 0)))).holds [] { args:=[.list (ns.map .int)] }=true:=by
   have h4:=(holds_andW hc).1
   rw [hn] at h4
   eC h4
  have h5:=condW_of h4 (w_not (w_lt w_lit (w_len_list (w_arg rfl))))
  rw [AE] at h5
  rA DU fun q=>?_
  have q':(n:Int)<((ns.length:Nat):Int):=by omega
  first
   |(rw [AQ q'] at h5;eC absurd h5 #d)
   |(simp at h5;omega)
 cases hwl with
 |cons w1 w2=>
  cases w2
  cases w1 with
  |list ho hall=>eC ⟨_,_,ns,rfl,rfl,ho,Of ns _ hall,hlen⟩
theorem post_true (l:OpenLaw)(args:List WData):l.row.toRowW.claim.post args (.bool true) args=true:=
 postW_of (r:=l.row.toRowW) (X:=(true==true))
  (show WShape.has [] (.bool true) .bool=true by first|rfl|decide|simp [WShape.has,WShape.arms,WShape.armsAll])
  (show (WTm.eq .res (.lit (.bool true))).value [] { args:=args,res:=some (.bool true),after:=args }=some (.bool (true==true)) from w_eq_bool (w_res rfl) w_lit) rfl
section
variable {prog:Program}{w:World}{A:Around}{E:Value→Shared→Prop}{s:Shared}{K:Frag}
def Ar9 (h:Heap)(L d:Addr):List (Addr×Obj):=(List.range h.objs.size).filterMap fun a=>if a=L∨a=d then none else (h.get? a).map fun o=>(a,o)
end
end Att
namespace L2
open PySem PySem.Spec PyProof.Rows
theorem Sa:∀{vs:List Value} {ns:List Int},IntsAre vs ns→A7 (ns.map V.int) vs
 |_,_,.nil=>.nil
 |_,_,.cons n t h=>.cons ⟨t,rfl⟩ (Sa h)
end L2
namespace L2
open PySem PySem.Spec PyProof.Rows
end L2
/- THE LAST THEOREM (shape;LID,My.* are yours):
   My.Adr: a structure of the addresses that your layer names (classes,functions);My.Txt K t: a structure (Prop) of the equations over K;
   My.txt_mk:{K} {implicit addresses ..} (e1:nsIn K mainGlobals "law"=some (some (.ref f))) (e2:K.lookup f=some ⟨oc,od,.func (fnOf "law" "law" params body scope dV kV doc pm an cdv ct),sl⟩) (e3:codeIn K cdv "law"=true) ..:∃t,My.Txt K t
set_option maxRecDepth 100000 in
set_option maxHeartbeats 0 in
(the tactic k_is has no namespace: write k_is) -/
namespace L2
open PySem PySem.Spec PyProof.Rows
def Dx (s:Stmt)(j:Nat):Stmt:=match s with
 |.ClassDef _ _ _ body _ _ _ _ _ _ _=>body.getD j (.Pass ⟨0,0,0,0⟩)
 |_=>.Pass ⟨0,0,0,0⟩
def Cd (s:Stmt):Arguments:=match s with
 |.FunctionDef _ a _ _ _ _ _ _ _ _=>a
 |_=>{ posonlyargs:=[],args:=[],vararg:=none,kwonlyargs:=[],kw_defaults:=[],kwarg:=none,defaults:=[] }
def Bt (s:Stmt):List Stmt:=match s with
 |.FunctionDef _ _ b _ _ _ _ _ _ _=>b
 |_=>[]
def Af (s:Stmt):Scope:=match s with
 |.FunctionDef _ _ _ _ _ _ sc _ _ _=>sc
 |_=>{ kind:=.function,names:=[],isGenerator:=false,isCoroutine:=false }
abbrev E0:XK:=fun _ _ _=>False
structure Fun (K:KKf)(x qual:Str)(st:Stmt)(f:Addr)(fd:FuncData):Prop where
 ex:∃(oc:Value) (od:Option Addr) (kV doc pm:Value) (an:Option Addr) (cdv ct:Value) (osl:Array (Option Value)),
  fd=PySem.W.fnOf x qual (Cd st) (Bt st) (Af st) .none kV doc pm an cdv ct∧K.lookup f=some ⟨oc,od,.func fd,osl⟩∧PySem.W.codeIn K cdv qual=true
 kp:PySem.W.keepIn K (.ref f)=true
section
variable {P:Program}{w:World}{K:KKf}{mg:Str→Option Value}{base:Heap}
theorem Fun.binds {x qual:Str}{st:Stmt}{f:Addr}{fd:FuncData}{ps:List Str}(F:Fun K x qual st f fd)
  (h:∀(kV doc pm:Value) (an:Option Addr) (cdv ct:Value) (us:List Value),us.length=ps.length→bindArgs (PySem.W.fnOf x qual (Cd st) (Bt st) (Af st) .none kV doc pm an cdv ct) ⟨us,[]⟩=pure (ps.zip us)):Ee K fd ps []:=by
 obtain ⟨oc,od,kV,doc,pm,an,cdv,ct,osl,rfl,lk,hcd⟩:=F.ex
 eC .all (h kV doc pm an cdv ct)
theorem Gd {x qual:Str}{st:Stmt}{f:Addr}{oc:Value}{od an:Option Addr}{osl:Array (Option Value)}{kV doc pm cdv ct:Value}(l:K.lookup f=some ⟨oc,od,.func (PySem.W.fnOf x qual (Cd st) (Bt st) (Af st) .none kV doc pm an cdv ct),osl⟩)
  (c:PySem.W.codeIn K cdv qual=true) (k:PySem.W.keepIn K (.ref f)=true):Fun K x qual st f (PySem.W.fnOf x qual (Cd st) (Bt st) (Af st) .none kV doc pm an cdv ct):=⟨⟨oc,od,kV,doc,pm,an,cdv,ct,osl,rfl,l,c⟩,k⟩
end
def Ah (H H':Hp):Prop:=∀b o,H b=some o→H' b=some o
theorem Ah.refl (H:Hp):Ah H H:=fun _ _ h=>h
theorem Ah.trans {H H1 H2:Hp}(a:Ah H H1)(b:Ah H1 H2):Ah H H2:=fun c o h=>b c o (a c o h)
theorem Ah.seq {K:KKf}{H H':Hp}{a:Addr}{xs:List V}(e:Ah H H')(h:A3 K H a xs):A3 K H' a xs:=by
 rcases h with (h|⟨o,h⟩)|h
 ·eC .inl (.inl (e _ _ h))
 ·eC .inl (.inr ⟨o,e _ _ h⟩)
 ·eC .inr h
end L2
section
namespace L2
open PySem PySem.Spec PyProof.Rows
section
variable {κ:Type}[DecidableEq κ]
def Cj (kvs:List (κ×V))(k:κ):Option V:=(kvs.find? fun kv=>decide (kv.1=k)).map (·.2)
def Do (kvs:List (κ×V))(k:κ)(v:V):List (κ×V):=
 if (kvs.any fun kv=>decide (kv.1=k))=true then kvs.map (fun kv=>if kv.1=k then (kv.1,v) else kv) else kvs++[(k,v)]
def Gn (kvs:List (κ×V))(k:κ):List (κ×V):=kvs.filter fun kv=>decide (kv.1≠k)
theorem Cv {p:κ×V}{r:List (κ×V)}{k:κ}(e:p.1=k):Cj (p::r) k=some p.2:=by simp [Cj,FJ,e]
theorem Cg {p:κ×V}{r:List (κ×V)}{k:κ}(e:¬p.1=k):Cj (p::r) k=Cj r k:=by simp [Cj,FJ,e]
theorem Iq (k:κ):∀kvs:List (κ×V),(kvs.any fun kv=>decide (kv.1=k))=(Cj kvs k).isSome
 |[]=>rfl
 |p::r=>by
  rw [FV]
  by_cases e:p.1=k
  ·simp only [Cv e,AQ e,Bool.true_or,Option.isSome_some]
  ·rw [Cg e,BA e,Bool.false_or];eC Iq k r
theorem Xc (k j:κ)(y:V):∀kvs:List (κ×V),Cj (kvs.map fun kv=>if kv.1=k then (kv.1,y) else kv) j=(Cj kvs j).map fun x=>if j=k then y else x
 |[]=>rfl
 | p::r=>by
  have ih:=Xc k j y r
  rw [BE]
  by_cases h:p.1=k
  ·rw [AN h]
   by_cases e:p.1=j
   ·rw [Cv (p:=(p.1,y)) e,Cv e,HE,AN (e.symm.trans h)]
   ·rw [Cg (p:=(p.1,y)) e,Cg e,ih]
  ·rw [AI h]
   by_cases e:p.1=j
   ·rw [Cv (p:=p) e,Cv e,HE,AI (fun z=>h (e.trans z))]
   ·rw [Cg (p:=p) e,Cg e,ih]
theorem Sm (k j:κ)(y:V):∀kvs:List (κ×V),Cj kvs k=none→Cj (kvs++[(k,y)]) j=if j=k then some y else Cj kvs j
 |[],_=>by
  by_cases e:k=j
  ·rw [AN e.symm];eC Cv (p:=(k,y)) e
  ·rw [AI (fun z=>e z.symm)];eC Cg (p:=(k,y)) e
 |p::r,hn=>by
  rw [List.cons_append]
  have hk:¬p.1=k:=fun z=>by rw [Cv z] at hn;cases hn
  rw [Cg hk] at hn
  have ih:=Sm k j y r hn
  by_cases e:p.1=j
  ·rw [Cv e,Cv e,AI (fun z=>hk (e.trans z))]
  ·rw [Cg e,Cg e,ih]
theorem Fp (kvs:List (κ×V))(k j:κ)(y:V):Cj (Do kvs k y) j=if j=k then some y else Cj kvs j:=by
 unfold Do
 by_cases a:(kvs.any fun kv=>decide (kv.1=k))=true
 ·rw [AN a,Xc]
  rw [Iq] at a
  by_cases e:j=k
  ·obtain ⟨x,hx⟩:=Option.isSome_iff_exists.mp a
   rw [AN e,e,hx,HE,AN rfl]
  ·rw [AI e]
   cases Cj kvs j with
   |none=>rfl
   |some x=>rw [HE,AI e]
 ·rw [AI a]
  rA Sm k j y kvs ?_
  rw [Iq] at a
  cases q:Cj kvs k with
  |none=>rfl
  |some x=>rw [q] at a;eC (a rfl).elim
theorem Du (kvs:List (κ×V))(k:κ)(v:V):(Do kvs k v).length≤kvs.length+1:=by
 unfold Do
 split
 ·rw [AE];omega
 ·rw [AM,AY,List.length_nil];omega
theorem Ae6 {kvs:List (κ×V)}{k:κ}(v:V)(h:Cj kvs k=none):Do kvs k v=kvs++[(k,v)]:=by
 unfold Do
 rw [Iq,h]
 eC AI #d
theorem Gj.isSome_eq {o:Option V}{u:Option Value}(r:Gj o u):o.isSome=u.isSome:=by
 cases o with
 |none=>cases u with
  |none=>rfl
  |some _=>eC (show False from r).elim
 |some _=>cases u with
  |none=>eC (show False from r).elim
  |some _=>rfl
theorem Gj.getD {o:Option V}{u:Option Value}{d:V}{d':Value}(r:Gj o u)(rd:RelV d d'):RelV (o.getD d) (u.getD d'):=by
 cases o with
 |none=>cases u with
  |none=>eC rd
  |some _=>eC (show False from r).elim
 |some _=>cases u with
  |none=>eC (show False from r).elim
  |some _=>eC r
theorem KV.val {kvs:List (κ×V)}{vs:List (κ×Value)}(r:KV kvs vs)(k:κ):Gj (Cj kvs k) (valueAt vs k):=by
 unfold KV at r
 induction r with
 |nil=>eC True.intro
 | @cons p q ps qs h t ih=>
  obtain ⟨h1,h2⟩:=h
  by_cases e:p.1=k
  ·have e':q.1=k:=h1.symm.trans e
   have b:valueAt (q::qs) k=some q.2:=by simp [valueAt,FJ,e']
   rw [Cv e,b];eC h2
  ·have e':¬q.1=k:=fun z=>e (h1.trans z)
   have b:valueAt (q::qs) k=valueAt qs k:=by simp [valueAt,FJ,e']
   rw [Cg e,b];eC ih
theorem KV.any {kvs:List (κ×V)}{vs:List (κ×Value)}(r:KV kvs vs)(k:κ):(kvs.any fun kv=>decide (kv.1=k))=vs.any fun kv=>decide (kv.1=k):=by
 unfold KV at r
 induction r with
 |nil=>rfl
 |cons h t ih=>rw [FV,FV,ih,h.1]
theorem KV.repl {kvs:List (κ×V)}{vs:List (κ×Value)}(r:KV kvs vs)(k:κ){y:V}{u:Value}(ry:RelV y u) :
  KV (kvs.map fun kv=>if kv.1=k then (kv.1,y) else kv) (vs.map fun kv=>if kv.1=k then (kv.1,u) else kv):=by
 unfold KV at r ⊢
 induction r with
 |nil=>eC .nil
 |@cons p q ps qs h t ih=>
  rw [BE,BE]
  rA .cons ?_ ih
  obtain ⟨h1,h2⟩:=h
  by_cases e:p.1=k
  ·rw [AN e,AN (h1.symm.trans e)];eC ⟨h1,ry⟩
  ·rw [AI e,AI (fun z=>e (h1.trans z))];eC ⟨h1,h2⟩
theorem KV.put {kvs:List (κ×V)}{vs:List (κ×Value)}(r:KV kvs vs)(k:κ){y:V}{u:Value}(ry:RelV y u):KV (Do kvs k y) (stored vs k u):=by
 unfold Do stored
 rw [r.any k]
 by_cases e:(vs.any fun kv=>decide (kv.1=k))=true
 ·rw [AN e,AN e];eC r.repl k ry
 ·rw [AI e,AI e];eC Paired.snoc r ⟨rfl,ry⟩
theorem KV.drop {kvs:List (κ×V)}{vs:List (κ×Value)}(r:KV kvs vs)(k:κ):KV (Gn kvs k) (without vs k):=by
 unfold KV at r ⊢
 unfold Gn without
 induction r with
 |nil=>eC .nil
 | @cons p q ps qs h t ih=>
  obtain ⟨h1,h2⟩:=h
  rw [List.filter_cons,List.filter_cons]
  by_cases e:p.1=k
  ·have a:¬decide (p.1≠k)=true:=by simp [e]
   have b:¬decide (q.1≠k)=true:=by simp [h1.symm.trans e]
   rw [AI a,AI b];eC ih
  ·have e':¬q.1=k:=fun z=>e (h1.trans z)
   have a:decide (p.1≠k)=true:=by simp [e]
   have b:decide (q.1≠k)=true:=by simp [e']
   rw [AN a,AN b];eC .cons ⟨h1,h2⟩ ih
theorem KV.keys {kvs:List (κ×V)}{vs:List (κ×Value)}(r:KV kvs vs):kvs.map (·.1)=vs.map (·.1):=by
 unfold KV at r
 induction r with
 |nil=>rfl
 |cons h t ih=>rw [BE,BE,ih,h.1]
theorem KV.length {kvs:List (κ×V)}{vs:List (κ×Value)}(r:KV kvs vs):kvs.length=vs.length:=Paired.length r
theorem Aev (kvs:List (κ×V))(k:κ):(Gn kvs k).length≤kvs.length:=CZ _ _
end
theorem Lm {P:Program}{w:World}{k:B4}{u:Value}(r:RelV (kV k) u):(A9 P w).is k u=true:=by
 cases k with
 |inl i=>obtain ⟨t,e⟩:=(show ∃t,u=Value.int i t from r);subst e;eC Wf P w i t
 |inr x=>obtain ⟨t,e⟩:=(show ∃t,u=Value.str x t from r);subst e;eC Ii P w x t
theorem Sl {P:Program}{w:World}:∀{ks:List B4} {us:List Value},A7 (ks.map kV) us→ItemsAre (A9 P w) ks us
 |[],_,r=>by rw [List.map_nil] at r;cases r;eC .nil
 |k::ks,_,r=>by
  rw [BE] at r
  cases r with
  |cons h t=>eC .cons (Lm h) (Sl t)
abbrev KT (H:Hp):List (List B4×V)→List (List B4×Addr×Value)→Prop:=Paired fun p q=>p.1=q.1∧H q.2.1=some (.tup (p.1.map kV))∧RelV p.2 q.2.2
theorem KT.val {H:Hp}{kvs:List (List B4×V)}{xs:List (List B4×Addr×Value)}(r:KT H kvs xs)(k:List B4):Gj (Cj kvs k) ((atKey xs k).map (·.2)):=by
 induction r with
 |nil=>eC True.intro
 | @cons p q ps qs h t ih=>
  obtain ⟨h1,_,h2⟩:=h
  by_cases e:p.1=k
  ·have e':q.1=k:=h1.symm.trans e
   have b:atKey (q::qs) k=some q.2:=by simp [atKey,FJ,e']
   rw [Cv e,b];eC h2
  ·have e':¬q.1=k:=fun z=>e (h1.trans z)
   have b:atKey (q::qs) k=atKey qs k:=by simp [atKey,FJ,e']
   rw [Cg e,b];eC ih
theorem KT.repl {H:Hp}{kvs:List (List B4×V)}{xs:List (List B4×Addr×Value)}(r:KT H kvs xs)(k:List B4){y:V}{u:Value}(ry:RelV y u) :
  KT H (kvs.map fun kv=>if kv.1=k then (kv.1,y) else kv) (xs.map (putAt k u)):=by
 induction r with
 |nil=>eC .nil
 |@cons p q ps qs h t ih=>
  rw [BE,BE]
  rA .cons ?_ ih
  obtain ⟨h1,h2,h3⟩:=h
  unfold putAt
  by_cases e:p.1=k
  ·rw [AN e,AN (h1.symm.trans e)];eC ⟨h1,h2,ry⟩
  ·rw [AI e,AI (fun z=>e (h1.trans z))];eC ⟨h1,h2,h3⟩
theorem KT.put {H:Hp}{kvs:List (List B4×V)}{xs:List (List B4×Addr×Value)}(r:KT H kvs xs)(k:List B4){b:Addr}{y:V}{u:Value}(hb:H b=some (.tup (k.map kV)))(ry:RelV y u) :
  KT H (Do kvs k y) (storedH xs k b u):=by
 have e:(kvs.any fun kv=>decide (kv.1=k))=(atKey xs k).isSome:=by
  rw [Iq,(r.val k).isSome_eq,Option.isSome_map]
 unfold Do storedH
 rw [e]
 by_cases q:(atKey xs k).isSome=true
 ·rw [AN q,AN q];eC r.repl k ry
 ·rw [AI q,AI q];eC Paired.snoc r ⟨rfl,hb,ry⟩
theorem KT.keeps {H H':Hp}{kvs:List (List B4×V)}{xs:List (List B4×Addr×Value)}(r:KT H kvs xs)(ht:∀b ys,H b=some (.tup ys)→H' b=some (.tup ys)):KT H' kvs xs:=
 Paired.mapP r fun _ _ z=>⟨z.1,ht _ _ z.2.1,z.2.2⟩
section
variable {P:Program}{w:World}{H:Hp}{h:Heap}{a:Addr}
theorem Ajv {u:HO}(ok:Jy P w H h)(e:Rd H a u):Bg P w H h a u:=e.ok ok
theorem Pk {kvs:List (B4×V)}(ok:Jy P w H h)(e:Rd H a (.dK kvs)):kvs.length≤sizeLine∧(a==sysModules)=false∧∃vs,KV kvs vs∧h.DictOf (A9 P w) a vs:=
 show Bg P w H h a (.dK kvs) from Ajv ok e
theorem Aav {kvs:List (B4×V)}(ok:Jy P w H h)(e:H a=some (.dK kvs)):kvs.length≤sizeLine∧(a==sysModules)=false∧∃vs,KV kvs vs∧h.DictOf (A9 P w) a vs:=Pk ok (.inl e)
theorem Pf {ks:List B4}(ok:Jy P w H h)(e:H a=some (.tup (ks.map kV))):(tupleKind (A9 P w)).is h ks a:=by
 obtain ⟨_,its,r,o,h1,h2,n,h3⟩:=(show Bg P w H h a (.tup (ks.map kV)) from ok a _ e)
 eC ⟨o,its.toArray,n,h1,h2,h3,by simpa using Sl r⟩
theorem Sr {kvs:List (List B4×V)}(ok:Jy P w H h)(e:Rd H a (.dT kvs)):kvs.length≤sizeLine∧(a==sysModules)=false ∧
  ∃xs,KT H kvs xs∧h.DictOfH (tupleKind (A9 P w)) a xs:=by
 obtain ⟨z,y,xs,r,o,es,ep,h1,h2,h3,h4,h5⟩:=(show Bg P w H h a (.dT kvs) from Ajv ok e)
 rA ⟨z,y,xs,r,o,es,ep,h1,h2,h3,h4,fun x hx=>?_,h5⟩
 have all:∀{l:List (List B4×V)} {m:List (List B4×Addr×Value)},KT H l m→∀x∈m,(tupleKind (A9 P w)).is h x.1 x.2.1:=by
  intro l m q
  induction q with
  |nil=>intro x hx;eC nomatch hx
  | @cons p q ps qs hq t ih=>
   intro x hx
   rcases AU.mp hx with e|hx
   ·subst e
    eC Pf ok (by rw [←hq.1];eC hq.2.1)
   ·eC ih x hx
 eC all r x hx
theorem Aqb {kvs:List (List B4×V)}(ok:Jy P w H h)(e:H a=some (.dT kvs)):kvs.length≤sizeLine∧(a==sysModules)=false ∧
  ∃xs,KT H kvs xs∧h.DictOfH (tupleKind (A9 P w)) a xs:=Sr ok (.inl e)
end
def Hk (H:Hp)(a:Addr)(y:V)(r:Option V):Prop:=
 (∃kvs k,Rd H a (.dK kvs)∧y=kV k∧r=Cj kvs k)∨∃kvs k b,Rd H a (.dT kvs)∧y=.ref b∧H b=some (.tup (k.map kV))∧r=Cj kvs k
def Wd (H:Hp)(a:Addr)(y v:V)(H':Hp):Prop:=
 (∃kvs k,H a=some (.dK kvs)∧y=kV k∧kvs.length<sizeLine∧H'=upd H a (.dK (Do kvs k v))) ∨
 ∃kvs k b,H a=some (.dT kvs)∧y=.ref b∧H b=some (.tup (k.map kV))∧kvs.length<sizeLine∧H'=upd H a (.dT (Do kvs k v))
theorem Hk.k {H:Hp}{a:Addr}{kvs:List (B4×V)}{k:B4}(e:H a=some (.dK kvs)):Hk H a (kV k) (Cj kvs k):=.inl ⟨kvs,k,.inl e,rfl,rfl⟩
theorem Wd.k {H:Hp}{a:Addr}{kvs:List (B4×V)}{k:B4}{v:V}(e:H a=some (.dK kvs))(hl:kvs.length<sizeLine):Wd H a (kV k) v (upd H a (.dK (Do kvs k v))):=.inl ⟨kvs,k,e,rfl,hl,rfl⟩
section
variable {X:Cx}{pins:List (Addr×Obj)}{σ:St}{H:Hp}{s:Shared}{a:Addr}{y v:V}{u r:Value}{o:Option V}{A:Around}{E:Value→Shared→Prop}
theorem Ar.big (I:Ar X pins σ H s):sysModules<s.heap.objs.size:=by
 have h:mainGlobals<s.heap.objs.size:=(I.mod.glob.keeps I.bk).lt
 eC Nat.lt_trans #d h
theorem Adc {Q:Value→Shared→Prop}(hu:A.units+1<cLine)(I:Ar X pins σ H s)(g:Hk H a y (some v))(ry:RelV y u)(h:∀w' s',Ar X pins σ H s'→RelV v w'→Q w' s') :
  wpAny (model X.prog X.w) A (getItem (.ref a) u) Q E s:=by
 rcases g with ⟨kvs,k,e,ey,l⟩|⟨kvs,k,b,e,ey,eb,l⟩
 ·subst ey
  obtain ⟨z,hd,vs,rel,dd⟩:=Pk I.hok e
  obtain ⟨w',hw,rw'⟩:=Gj.some_of (v:=v) (o:=valueAt vs k) (by rw [l];eC rel.val k)
  eC wpAny_getItem_of (Lm ry) dd.mapOf hw (h w' _ (I.tok _) rw')
 ·subst ey
  cases (show u=Value.ref b from ry)
  obtain ⟨z,hd,xs,rel,dd⟩:=Sr I.hok e
  obtain ⟨w',hw,rw'⟩:=Gj.some_of (v:=v) (o:=(atKey xs k).map (·.2)) (by rw [l];eC rel.val k)
  obtain ⟨p,hp,hp2⟩:=DZ.mp hw
  rA wpAny_getItem_heap (GH hu) (Pf I.hok eb) dd hp ?_
  rw [hp2]
  eC h w' _ (I.tok _) rw'
theorem Ah9 {Q:Value→Shared→Prop}(hu:A.units+1<cLine)(I:Ar X pins σ H s)(g:Hk H a y o)(ry:RelV y u)(h:∀s',Ar X pins σ H s'→Q (.bool (!o.isSome)) s') :
  wpAny (model X.prog X.w) A (compareOp .NotIn u (.ref a)) Q E s:=by
 rcases g with ⟨kvs,k,e,ey,l⟩|⟨kvs,k,b,e,ey,eb,l⟩
 ·subst ey
  obtain ⟨z,hd,vs,rel,dd⟩:=Pk I.hok e
  rA wpAny_notIn_of (Lm ry) hd dd.mapOf ?_
  rw [←(rel.val k).isSome_eq,←l]
  eC h _ (I.tok _)
 ·subst ey
  cases (show u=Value.ref b from ry)
  obtain ⟨z,hd,xs,rel,dd⟩:=Sr I.hok e
  rA wpAny_notIn_heap (GH hu) (Pf I.hok eb) hd dd ?_
  have q:=(rel.val k).isSome_eq
  rw [Option.isSome_map] at q
  rw [←q,←l]
  eC h _ (I.tok _)
theorem U7 {h':Heap}{t':Nat}{ob:HO}(I:Ar X pins σ H s)(mu:Mut (H a))(hs:Heap.SameBut a s.heap h')(he:∃q,h'.get? a=some q)(new:Bg X.prog X.w (upd H a ob) h' a ob) :
  Ar X pins σ (upd H a ob) { s with heap:=h',toks:=t' } :=
 I.write (x:=a) (e:=a) mu (.inl rfl) (fun b q hb z=>(hs.2 b hb).trans z) he new
theorem Ady {P:Program}{w:World}{H':Hp}{h':Heap}{kvs:List (B4×V)}{vs:List (B4×Value)}(z:kvs.length≤sizeLine)(hd:(a==sysModules)=false)(rel:KV kvs vs)(dd:h'.DictOf (A9 P w) a vs) :
  Bg P w H' h' a (.dK kvs):=⟨z,hd,vs,rel,dd⟩
theorem Acu {H':Hp}{Q:Unit→Shared→Prop}(hu:A.units+1<cLine)(I:Ar X pins σ H s)(g:Wd H a y v H')(ry:RelV y u)(rv:RelV v r)(h:∀s',Ar X pins σ H' s'→Q () s') :
  wpAny (model X.prog X.w) A (setItem (.ref a) u r) Q E s:=by
 rcases g with ⟨kvs,k,e,ey,l,eH⟩|⟨kvs,k,b,e,ey,eb,l,eH⟩
 ·subst ey eH
  obtain ⟨z,hd,vs,rel,dd⟩:=Aav I.hok e
  have hz:vs.length≤sizeLine:=by rw [←rel.length];eC z
  have hl:(Do kvs k v).length≤sizeLine:=by have:=Du kvs k v;omega
  rA wpAny_setItem_pairs (hsz:=hz) (Lm ry) dd fun h' dd' hs=>h _ ?_
  have he:∃q,h'.get? a=some q:=let ⟨q,_,_,hq,_⟩:=dd';⟨q,hq⟩
  eC U7 I (by rw [e];eC True.intro) hs he (Ady hl hd (rel.put k rv) dd')
 ·subst ey eH
  cases (show u=Value.ref b from ry)
  obtain ⟨z,hd,xs,rel,dd⟩:=Aqb I.hok e
  have hz:xs.length≤sizeLine:=by rw [←Paired.length rel];eC z
  have hl:(Do kvs k v).length≤sizeLine:=by have:=Du kvs k v;omega
  rA wpAny_setItem_heap (hsz:=hz) (GH hu) (Pf I.hok eb) dd fun h' dd' hs=>h _ ?_
  obtain ⟨q,es,ep,hq,h2,h3,h4,_,h5⟩:=dd'
  rA U7 I (by rw [e];eC True.intro) hs ⟨q,hq⟩ ⟨hl,hd,_,(rel.put k eb rv).keeps fun c ys ec=>?_,q,es,ep,hq,h2,h3,h4,h5⟩
  rw [Ao (Ap9 ec e (fun z=>nomatch z))]
  eC ec
end
section
variable {X:Cx}{pins:List (Addr×Obj)}{σ:St}{H:Hp}{s:Shared}{a:Addr}{kvs:List (B4×V)}{k:B4}{u:Value}{A:Around}{E:Value→Shared→Prop}
theorem Apo {v:V}{more:List Value}{Q:Value→Shared→Prop}(I:Ar X pins σ H s)(e:H a=some (.dK kvs))(ry:RelV (kV k) u)(l:Cj kvs k=some v)(hm:more=[]∨∃x,more=[x])
  (h:∀w' s',Ar X pins σ (upd H a (.dK (Gn kvs k))) s'→RelV v w'→Q w' s'):wpAny (model X.prog X.w) A (call (.builtin "dict.pop") (.ref a::u::more)) Q E s:=by
 obtain ⟨z,hd,vs,rel,dd⟩:=Aav I.hok e
 obtain ⟨w',hw,rw'⟩:=Gj.some_of (v:=v) (o:=valueAt vs k) (by rw [←l];eC rel.val k)
 have hp:(keyPart u).isSome=true:=by
  cases k with
  |inl i=>obtain ⟨t,q⟩:=(show ∃t,u=Value.int i t from ry);subst q;rfl
  |inr x=>obtain ⟨t,q⟩:=(show ∃t,u=Value.str x t from ry);subst q;rfl
 have ha:argsOk "dict.pop" ⟨.ref a::u::more,[]⟩:=by
  rcases hm with q|⟨x,q⟩
  ·subst q;eC PySem.F.args_dict_pop_2 _ _
  ·subst q;eC PySem.F.args_dict_pop_3 _ _ _
 rA call_meetsIn PySem.F.slot_dict_pop dd.typeIs PySem.F.entry_dict_pop ha (meets_dict_pop_there (A9 X.prog X.w) a (Lm ry) more hm hp)
  ⟨vs,w',dd,by rw [←rel.length];eC z,hw,fun h' dd' hs=>h w' _ ?_ rw'⟩
 have he:∃q,h'.get? a=some q:=let ⟨q,_,_,hq,_⟩:=dd';⟨q,hq⟩
 eC U7 I (by rw [e];eC True.intro) hs he (Ady (AO (Aev kvs k) z) hd (rel.drop k) dd')
end
def Alv (i:Expr):Prop:=∀ov iv,subscripted i false ov iv=operate [ov,iv] (getItem ov iv)
theorem Aa2 {prog:Program}{w:World}{A:Around}{E:Value→Shared→Prop}{s:Shared}{env:Env}{value slice:Expr}{pos:Pos}{T id:String}{Q:Value→Shared→Prop}
  (hl:typeLookup (.type T) "__getitem__"=pure (some (.builtin id))) (hs:Alv slice)
  (h:wpAny (model prog w) A (eval value env) (fun o s₁=>wpAny (model prog w) A (eval slice env) (fun i s₂=>s₂.TypeIs o T∧wpAny (model prog w) A (getItem o i) Q E s₂) E s₁) E s) :
  wpAny (model prog w) A (eval (.Subscript value slice pos) env) Q E s:=by
 rA Subscript_ (BP h (fun o s₁ h₁=>BP h₁ (fun i s₂ h₂=>?_) fun _ _ x=>x) fun _ _ x=>x)
 obtain ⟨hT,h₂⟩:=h₂
 unfold subscriptTail
 rA AA ?_
 rw [getitemInPython_of_ne hT.not_modules]
 rA AA (HF hT hl ?_)
 have fin:wpAny (model prog w) A (subscripted slice false o i) (fun r s₃=>wpAny (model prog w) A (letTemporaryGo value o r >>= fun _=>pure r) Q E s₃) E s₂:=by
  rw [hs o i]
  eC wpAny_operating (BP h₂ (fun r s₃ h₃=>AA (wpAny_letTemporaryGo (AC h₃))) fun _ _ x=>x)
 first
  |eC AC (AA fin)
  |eC AA (AC (AA fin))
  |eC AA fin
theorem V3 {X:Cx}{pins:List (Addr×Obj)}{σ:St}{H:Hp}{s:Shared}{a:Addr}{y:V}{o:Option V}(I:Ar X pins σ H s)(g:Hk H a y o):s.TypeIs (.ref a) "dict":=by
 rcases g with ⟨kvs,k,e,_,_⟩|⟨kvs,k,b,e,_,_,_⟩
 ·obtain ⟨_,_,vs,_,dd⟩:=Pk I.hok e
  eC dd.typeIs
 ·obtain ⟨_,_,xs,_,dd⟩:=Sr I.hok e
  eC dd.typeIs
def Aqp (td ty:TE):TE:=fun σ H Q=>td σ H fun x H1=>ty σ H1 fun y H2=>∃a v,x=.ref a∧Hk H2 a y (some v)∧Q v H2
def Aa3 (ty td:TE):TE:=fun σ H Q=>ty σ H fun y H1=>td σ H1 fun x H2=>∃a o,x=.ref a∧Hk H2 a y o∧Q (.bl (!o.isSome)) H2
def Apt (td ty tv:TE):TS:=fun D σ H=>tv σ H fun v H1=>td σ H1 fun x H2=>ty σ H2 fun y H3=>∃a H4,x=.ref a∧Wd H3 a y v H4∧D.nx σ H4
section
variable {X:Cx}{o i e value:Expr}{pos pos' tpos:Pos}{td ty tv:TE}
theorem Li (hu:X.A.units+1<cLine)(ho:PE X o td)(hi:PE X i ty)(hs:Alv i):PE X (.Subscript o i pos) (Aqp td ty):=by
 intro pins s σ H Q I h
 rA Aa2 PySem.F.slot_dict_getitem.lookup hs (Bi (ho pins s σ H _ I h) fun u s1 ⟨x,H1,I1,rx,q1⟩=>Bi (hi pins s1 σ H1 _ I1 q1) fun iv s2 ⟨y,H2,I2,ry,a,v,ex,g,q2⟩=>?_)
 subst ex
 obtain rfl:u=Value.ref a:=rx
 eC ⟨V3 I2 g,Adc hu I2 g ry fun w' s3 I3 rw'=>⟨v,H2,I3,rw',q2⟩⟩
theorem Ac4 (hu:X.A.units+1<cLine)(hi:PE X i ty)(ho:PE X o td):PC X .NotIn i o (Aa3 ty td):=by
 intro pins s σ H Q I h
 rA Bi (hi pins s σ H _ I h) fun iv s1 ⟨y,H1,I1,ry,q1⟩=>Bi (ho pins s1 σ H1 _ I1 q1) fun u s2 ⟨x,H2,I2,rx,a,ov,ex,g,q2⟩=>?_
 subst ex
 obtain rfl:u=Value.ref a:=rx
 eC Ah9 hu I2 g ry fun s3 I3=>⟨.bl (!ov.isSome),H2,I3,rfl,q2⟩
theorem O2 (hu:X.A.units+1<cLine)(ho:PE X o td)(hi:PE X i ty)(hv:PE X value tv)(hs:swapsWith value (some (.Subscript o i pos')) pos.line X.env=pure false) :
  PS X (.Assign [.Subscript o i pos'] value pos) (Apt td ty tv):=by
 intro pins s σ H D I h
 rA wpAny_Assign_Subscript (Bi (hv pins s σ H _ I h) fun r s1 ⟨v,H1,I1,rv,q1⟩=>Bi (ho pins s1 σ H1 _ I1 q1) fun u s2 ⟨x,H2,I2,rx,q2⟩=>Bi (hi pins s2 σ H2 _ I2 q2) fun iv s3 ⟨y,H3,I3,ry,a,H4,ex,g,q3⟩=>?_) hs
 subst ex
 obtain rfl:u=Value.ref a:=rx
 eC Acu hu I3 g ry rv fun s4 I4=>⟨σ,H4,I4,q3⟩
end
theorem Ags {P:Program}{w:World}{H:Hp}(h:Heap)(hb:sysModules<h.objs.size):Bg P w H (h.push { cls:=.type "dict",data:=.dict #[] }) h.objs.size (.dK []):=
 ⟨AV _,DJ.mpr (CM (AS hb)),[],.nil,Heap.DictOf.new h⟩
def Anh:TE:=fun _ H Q=>∀p,H p=none→Q (.ref p) (upd H p (.dK []))
section
variable {X:Cx}{pos:Pos}
theorem Jj:PE X (.Dict [] [] pos) Anh:=fun pins s σ H Q I h=>
 wpAny_Dict_empty ⟨.ref s.heap.objs.size,_,I.laid (a:=s.heap.objs.size) (o:=.dK []) (t':=s.toks) (fun _ _ q=>AB _ q) (AF _) (Ags s.heap I.big),rfl,h _ (I.hok.fresh (AF _))⟩
end
structure M1 (X:Cx)(o:Expr)(m:Str)(apos:Pos)(e:Expr)(cpos:Pos):Prop where
 base:attributeBase o m X.env (eval o X.env)=eval o X.env
 few:((backTo cpos (starEach [e] X.env)).all (fun x=>!x.1)&&(backToKw cpos (keywordEach [] X.env)).all (fun x=>x.1.isSome)
  && decide (([e]:List Expr).length+([]:List Keyword).length+(if ([]:List Keyword).isEmpty then 0 else 1)<30))=true
 line:(apos.endLine==cpos.line)=true
 trees:backTo cpos (starEach [e] X.env)=[(false,eval e X.env)]
structure M2 (X:Cx)(o:Expr)(m:Str)(apos:Pos)(e f:Expr)(cpos:Pos):Prop where
 base:attributeBase o m X.env (eval o X.env)=eval o X.env
 few:((backTo cpos (starEach [e,f] X.env)).all (fun x=>!x.1)&&(backToKw cpos (keywordEach [] X.env)).all (fun x=>x.1.isSome)
  && decide (([e,f]:List Expr).length+([]:List Keyword).length+(if ([]:List Keyword).isEmpty then 0 else 1)<30))=true
 line:(apos.endLine==cpos.line)=true
 trees:backTo cpos (starEach [e,f] X.env)=[(false,eval e X.env),(false,eval f X.env)]
def IsD (H:Hp)(a:Addr):Prop:=(∃kvs,Rd H a (.dK kvs))∨∃kvs,Rd H a (.dT kvs)
theorem Yw {X:Cx}{pins:List (Addr×Obj)}{σ:St}{H:Hp}{s:Shared}{a:Addr}(I:Ar X pins σ H s)(d:IsD H a) :
  s.TypeIs (.ref a) "dict"∧(∀b,Value.ref a=.ref b→∃ob,s.heap.get? b=some ob∧ob.dict=none)∧(a==sysModules)=false:=by
 rcases d with ⟨kvs,e⟩|⟨kvs,e⟩
 ·obtain ⟨_,hd,vs,_,dd⟩:=Pk I.hok e
  rA ⟨dd.typeIs,fun b q=>?_,hd⟩
  cases q
  obtain ⟨ob,_,_,h1,h2,_⟩:=dd
  eC ⟨ob,h1,h2.2.1⟩
 ·obtain ⟨_,hd,xs,_,dd⟩:=Sr I.hok e
  rA ⟨dd.typeIs,fun b q=>?_,hd⟩
  cases q
  obtain ⟨ob,_,_,h1,h2,_⟩:=dd
  eC ⟨ob,h1,h2.2.1⟩
section
variable {X:Cx}{pins:List (Addr×Obj)}{σ:St}{H:Hp}{s:Shared}{a:Addr}{y d:V}{u r:Value}{o:Option V}{A:Around}{E:Value→Shared→Prop}
theorem Am0 {Q:Value→Shared→Prop}(hu:A.units+1<cLine)(I:Ar X pins σ H s)(g:Hk H a y o)(ry:RelV y u)(rd:RelV d r)(h:∀w' s',Ar X pins σ H s'→RelV (o.getD d) w'→Q w' s') :
  wpAny (model X.prog X.w) A (call (.builtin "dict.get") [.ref a,u,r]) Q E s:=by
 rcases g with ⟨kvs,k,e,ey,l⟩|⟨kvs,k,b,e,ey,eb,l⟩
 ·subst ey
  obtain ⟨z,hd,vs,rel,dd⟩:=Pk I.hok e
  rA call_meetsIn HB dd.typeIs PySem.F.entry_dict_get (PySem.F.args_dict_get_3 _ _ _) (meets_dict_get_default (A9 X.prog X.w) a (Lm ry) hd r) ⟨_,dd.mapOf,h _ _ (I.tok _) ?_⟩
  rw [l]
  eC (rel.val k).getD rd
 ·subst ey
  cases (show u=Value.ref b from ry)
  obtain ⟨z,hd,xs,rel,dd⟩:=Sr I.hok e
  rA call_meetsIn HB dd.typeIs PySem.F.entry_dict_get (PySem.F.args_dict_get_3 _ _ _) (meetsH_dict_get_default (tupleKind (A9 X.prog X.w)) a b hd r) ⟨GH hu,k,xs,Pf I.hok eb,dd,h _ _ (I.tok _) ?_⟩
  rw [l]
  eC (rel.val k).getD rd
end
def Alw (td ty tx:TE):TE:=fun σ H Q=>td σ H fun x H1=>∃a,x=.ref a∧IsD H1 a∧ty σ H1 fun y H2=>tx σ H2 fun z H3=>∃o,Hk H3 a y o∧Q (o.getD z) H3
def Amb (td ty:TE):TE:=fun σ H Q=>td σ H fun x H1=>∃a,x=.ref a∧IsD H1 a∧ty σ H1 fun y H2=>∃kvs k v,H2 a=some (.dK kvs)∧y=kV k∧Cj kvs k=some v∧Q v (upd H2 a (.dK (Gn kvs k)))
section
variable {X:Cx}{o e f:Expr}{apos cpos:Pos}{td ty tx:TE}
theorem Ik (hu:X.A.units+1<cLine)(ho:PE X o td)(he:PE X e ty)(hf:PE X f tx)(m:M2 X o "get" apos e f cpos):PE X (.Call (.Attribute o "get" apos) [e,f] [] cpos) (Alw td ty tx):=by
 intro pins s σ H Q I h
 rA wpAny_Call_method m.base m.few m.line GN HB PySem.F.type_dict_get (Bi (ho pins s σ H _ I h) fun u s1 ⟨x,H1,I1,rx,a,ex,d,q1⟩=>?_)
 subst ex
 obtain rfl:u=Value.ref a:=rx
 obtain ⟨t1,t2,_⟩:=Yw I1 d
 rA ⟨t1,t2,?_⟩
 rw [m.trees]
 rA FK rfl (FS (DB (Bi (he pins s1 σ H1 _ I1 q1) fun iv s2 ⟨y,H2,I2,ry,q2⟩=>
  DB (Bi (hf pins s2 σ H2 _ I2 q2) fun fv s3 ⟨z,H3,I3,rz,ov,g,q3⟩=>DG ?_))))
 eC Am0 hu I3 g ry rz fun w' s4 I4 rw'=>⟨_,H3,I4,rw',q3⟩
theorem Agp (ho:PE X o td)(he:PE X e ty)(m:M1 X o "pop" apos e cpos):PE X (.Call (.Attribute o "pop" apos) [e] [] cpos) (Amb td ty):=by
 intro pins s σ H Q I h
 rA wpAny_Call_method m.base m.few m.line GN PySem.F.slot_dict_pop PySem.F.type_dict_pop (Bi (ho pins s σ H _ I h) fun u s1 ⟨x,H1,I1,rx,a,ex,d,q1⟩=>?_)
 subst ex
 obtain rfl:u=Value.ref a:=rx
 obtain ⟨t1,t2,_⟩:=Yw I1 d
 rA ⟨t1,t2,?_⟩
 rw [m.trees]
 rA FK rfl (FS (DB (Bi (he pins s1 σ H1 _ I1 q1) fun iv s2 ⟨y,H2,I2,ry,kvs,k,v,ea,ey,l,q2⟩=>DG ?_)))
 subst ey
 eC Apo I2 ea ry l (.inl rfl) fun w' s3 I3 rw'=>⟨v,_,I3,rw',q2⟩
end
end L2
namespace L2
open PySem PySem.Spec PyProof.Rows
end L2
end
section
set_option autoImplicit false
namespace Lw
open PySem PySem.Spec PyProof.Rows L2
def Ed {α:Type}:Sem α→Prop
 |.pure _=>True
 |.raise _=>True
 |.unsupported _=>True
 |.finish _=>True
 |.rule _ k=>Ed (k ())
 |.at _ k=>Ed (k ())
 |.load _ _ k=>∀o,Ed (k o)
 |.update _ _ f k=>(∀o,(f o).dict=o.dict∧(f o).isFreed=o.isFreed)∧Ed (k ())
 |.alloc _ k=>∀a,Ed (k a)
 |.stack k=>∀l,Ed (k l)
 |_=>False
def J6 (e:Addr)(d:Option Addr)(h:Heap):Prop:=∃o,h.get? e=some o∧o.dict=d
theorem Ah7 {α:Type}{M:Model}{Γ:PySem.Ctx}{e:Addr}{d:Option Addr}{t:Sem α}:∀{Q:α→Pos→Shared→Prop} {E:Value→Pos→Shared→Prop} {p:Pos} {s:Shared},Ed t→Sem.wp M Γ t Q E p s→J6 e d s.heap →
  Sem.wp M Γ t (fun a p' s'=>Q a p' s'∧J6 e d s'.heap) (fun v p' s'=>E v p' s'∧J6 e d s'.heap) p s:=by
 induction t with
 |pure a=>intro Q E p s _ h D;eC ⟨h,D⟩
 |raise v=>intro Q E p s _ h D;eC ⟨h,D⟩
 |unsupported _=>intro Q E p s _ h D;eC h.elim
 |finish _=>intro Q E p s _ h D;eC h.elim
 |rule _ k ih=>intro Q E p s m h D;eC ih () m h D
 |«at» _ k ih=>intro Q E p s m h D;eC ih () m h D
 |load a _ k ih=>
  intro Q E p s m h D
  obtain ⟨o,ho,h⟩:=h
  eC ⟨o,ho,ih o (m o) h D⟩
 | update a _ f k ih=>
  intro Q E p s m h D
  obtain ⟨ha,h⟩:=h
  rA ⟨ha,ih () m.2 h ?_⟩
  obtain ⟨o,ho,hd⟩:=D
  show J6 e d (s.heap.update a f)
  by_cases q:a=e
  ·subst q
   have hf:o.isFreed=false:=(Heap.get?_some_iff.mp ho).2
   eC ⟨_,CA f ho ((m.1 o).2.trans hf),(m.1 o).1.trans hd⟩
  ·eC ⟨o,(DY _ f q).trans ho,hd⟩
 |alloc o k ih=>
  intro Q E p s m h D
  rA ih _ (m _) h ?_
  obtain ⟨o',ho,hd⟩:=D
  eC ⟨o',AB _ ho,hd⟩
 |stack k ih=>intro Q E p s m h D;eC ih _ (m _) h D
 |loadIfAlive _ _ _|point _ _ _|register _ _ _|fresh _ _|ask _ _|choose _ _ _ _|os _ _ _ _|call _ _ _ _ _ _|handled _ _ _|newGen _ _ _|genState _ _ _|resume _ _ _ _ _|yield _ _ _ _ _|fork _ _ _|thread _ _|await _ _ _ _ _ _=>intro Q E p s m;eC m.elim
theorem Jm {α:Type}{M:Model}{A:Around}{e:Addr}{d:Option Addr}{t:Sem α}{Q:α→Shared→Prop}{E:Value→Shared→Prop}{s:Shared}(m:Ed t)(D:J6 e d s.heap)(h:wpAny M A t Q E s) :
  wpAny M A t (fun a s'=>Q a s'∧J6 e d s'.heap) E s:=fun Γ p hΓ=>
 Sem.wp_mono M Γ t (fun _ _ _ x=>x) (fun _ _ _ x=>x.1) p s (Ah7 m (h Γ p hΓ) D)
theorem A1 {α β:Type}{m:Sem α}{f:α→Sem β}(h:Ed m)(k:∀a,Ed (f a)):Ed (m >>= f):=by
 show Ed (m.bind f)
 induction m with
 |pure a=>eC k a
 |raise v=>eC trivial
 |unsupported _=>eC trivial
 |finish _=>eC trivial
 |rule _ g ih=>eC ih () h
 |«at» _ g ih=>eC ih () h
 |load a _ g ih=>eC fun o=>ih o (h o)
 |update a _ f g ih=>eC ⟨h.1,ih () h.2⟩
 |alloc o g ih=>eC fun a=>ih a (h a)
 |stack g ih=>eC fun l=>ih l (h l)
 |loadIfAlive _ _ _|point _ _ _|register _ _ _|fresh _ _|ask _ _|choose _ _ _ _|os _ _ _ _|call _ _ _ _ _ _|handled _ _ _|newGen _ _ _|genState _ _ _|resume _ _ _ _ _|yield _ _ _ _ _|fork _ _ _|thread _ _|await _ _ _ _ _ _=>eC h.elim
theorem Mz {a:Addr}:Ed (load a):=fun _=>trivial
theorem Ky:Ed stack:=fun _=>trivial
theorem A8 {α:Type}{a:α}:Ed (pure a:Sem α):=trivial
theorem Dh {α:Type}{w:String}:Ed (unsupported w:Sem α):=trivial
theorem Acw {a:Addr}{g:Array Value→Array Value}:Ed (update a (Obj.mapFields g)):=⟨fun o=>by
 obtain ⟨c,d,dt,sl⟩:=o
 cases dt<;>eC ⟨rfl,rfl⟩,trivial⟩
theorem Hl {v:Value}{i:Nat}:Ed (field v i):=by
 unfold field fieldsOf
 rA A1 ?_ fun vs=>?_
 ·cases v<;>first|eC Dh|skip
  rA A1 Mz fun o=>?_
  cases o.data<;>first|eC A8|eC Dh
 ·cases vs[i]?<;>first|eC A8|eC Dh
theorem Ga {v x:Value}{i:Nat}:Ed (setField v i x):=by
 unfold setField
 cases v<;>first|eC Dh|skip
 rA A1 Mz fun o=>?_
 cases o.data<;>first|eC Dh|skip
 dsimp only
 split
 ·eC Acw
 ·eC Dh
theorem Fo {e:Value}{fr:Option Addr}:Ed (setFlight e fr):=by
 unfold setFlight
 rA A1 Hl fun tb=>?_
 split
 ·eC Ga
 ·eC A8
theorem Qp:∀{l:List Env},Ed (readyFrames l)
 |[]=>A8
 | env::outer=>by
  unfold readyFrames
  cases env.frame with
  |none=>eC Dh
  | some f=>
   rA A1 Mz fun o=>?_
   split
   ·eC A8
   ·rA A1 (m:=behindIsImport env outer) ?_ fun imp=>A1 (m:=keptBack env imp outer) ?_ fun back=>A1 ?_ fun _=>Qp
    ·unfold behindIsImport
     split
     ·eC A8
     ·split
      ·eC A8
      ·eC A1 Hl fun _=>A8
    ·cases outer with
     |cons c r=>eC A8
     | nil=>
      show Ed (if (env.scope.isGenerator||env.scope.isCoroutine)=true then _ else _)
      split
      ·eC A8
      ·unfold underTheClaimsCaller
       rA A1 (A1 Ky fun _=>A8) fun _=>?_
       eC A8
    ·eC ⟨fun o=>by obtain ⟨c,d,dt,sl⟩:=o;cases dt<;>eC ⟨rfl,rfl⟩,trivial⟩
theorem Tf {env:Env}:Ed (PySem.frameOf env):=by
 unfold PySem.frameOf frameEnvs
 rA A1 (A1 Ky fun _=>A8) fun l=>A1 ?_ fun r=>?_
 ·generalize List.dropWhile _ l=l'
  cases l' with
  |nil=>eC A8
  |cons x xs=>eC A1 Qp fun _=>A8
 ·cases r<;>first|eC A8|eC Dh
theorem Z3 {a b c d e:Value}{pl:List Value}:Ed (EntryCells.newEntry a b c d e pl):=by
 unfold EntryCells.newEntry newFields
 generalize [a,b,c,d,e]++_=l
 unfold newObj newObjAsIs
 dsimp only
 split
 ·eC A1 Dh fun _=>A1 (m:=alloc _) (fun _=>trivial) fun _=>A8
 ·eC A1 (m:=alloc _) (fun _=>trivial) fun _=>A8
theorem Zu {f:Addr}{b:Bool}:Ed (entryPlaceOf f b):=by
 unfold entryPlaceOf
 rA A1 Ky fun acts=>?_
 cases List.find? _ acts with
 |none=>eC A8
 |some x=>eC A8
theorem Sk {e:Value}{env:Env}:Ed (noteFrame e env):=by
 unfold noteFrame
 cases env.frame with
 |none=>eC Dh
 | some f=>
  have tl:∀head:Value,Ed (do setField e 1 (←EntryCells.newEntry head (←PySem.frameOf env) .none (rawInt f) .none (←entryPlaceOf f (head != .none)))):=fun head=>
   A1 Tf fun _=>A1 Zu fun _=>A1 Z3 fun _=>Ga
  rA A1 Hl fun head=>?_
  dsimp only
  split
  ·rA A1 Hl fun x=>?_
   split
   ·eC A8
   ·eC A1 Ga fun _=>tl head
  ·eC tl head
theorem Ls {e:Value}{env:Env}:Ed (leaving env e):=A1 Sk fun _=>Fo
end Lw
end
section
namespace Lw
open PySem PySem.Spec PyProof.Rows L2
theorem Qg {P:Program}{w:World}{H:Hp}{h:Heap}{a:Addr}{o:HO}(x:Bg P w H h a o):∃u,h.get? a=some u:=by
 cases o with
 |lst xs=>obtain ⟨_,_,_,_,e⟩:=x;eC ⟨_,e⟩
 |tup xs=>obtain ⟨_,_,_,o,e,_⟩:=x;eC ⟨_,e⟩
 |dK kvs=>obtain ⟨_,_,_,_,o,_,_,e,_⟩:=x;eC ⟨_,e⟩
 |dT kvs=>obtain ⟨_,_,_,_,o,_,_,e,_⟩:=x;eC ⟨_,e⟩
 |set S n=>obtain ⟨o,_,_,_,e,_⟩:=x;eC ⟨_,e⟩
 |ins C dx fs=>obtain ⟨_,_,_,e,_⟩:=x;eC ⟨_,e⟩
 |own y=>eC x
 |xd fs=>obtain ⟨_,⟨_,_,_,e,_⟩,_⟩:=x;eC ⟨_,e⟩
 |rng lo hi=>obtain ⟨_,_,_,e⟩:=x;eC ⟨_,e⟩
 |frz ob u=>eC ⟨_,x.1⟩
 |tbl ps=>eC ⟨_,x⟩
 |met f y=>eC ⟨_,x⟩
 |ext φ=>eC x.2.1
structure Fly (P:Program)(w:World)(outer:List Env)(H:Hp)(s:Shared)(H':Hp)(a:Addr)(cls:Value)(d:Option Addr)(B:Heap)(a0:Value)(s':Shared):Prop where
 os:s'.os=s.os
 bare:AllBare s'.gens
 un:Un (K5 outer) [] H H' s.heap s'.heap
 hok:Jy P w H' s'.heap
 fresh:s.heap.get? a=none
 free:H' a=none
 fly:Heap.FlyingW B outer a cls a0 s'.heap
 trk:∀b o,H' b≠none→s'.heap.get? b=some o→B.get? b=some o
 old:∀b o,s.heap.get? b=some o→H b=none→b∉K5 outer→B.get? b=some o
 any:∀b o,s.heap.get? b=some o→b∉K5 outer→∃o',B.get? b=some o'
 dct:J6 a d s'.heap
section
variable {P:Program}{w:World}{outer:List Env}{H H':Hp}{s s':Shared}{a:Addr}{cls a0:Value}{d:Option Addr}{B h5:Heap}
theorem Fly.slots (F:Fly P w outer H s H' a cls d B a0 s')(U:s'.heap.UpToSlots h5){b:Addr}{o:Obj}(hb:b∈K5 outer)(e:s'.heap.get? b=some o):∃sl,h5.get? b=some { o with slots:=sl }:=by
 obtain ⟨_,o',e',nf⟩:=F.fly.2.2.1.mem hb
 rw [e] at e'
 cases e'
 eC U b o e nf
theorem Fly.un5 (F:Fly P w outer H s H' a cls d B a0 s')(St:B.StaysIn h5)(U:s'.heap.UpToSlots h5):Un (K5 outer) [] H H' s.heap h5 where
 keep:=fun b o e n hb _=>St b o (F.old b o e n hb)
 slot:=fun b o e n hb hx=>by
  obtain ⟨sl,e1⟩:=F.un.slot b o e n hb hx
  obtain ⟨sl2,e2⟩:=F.slots U hb e1
  eC ⟨sl2,e2⟩
 free:=F.un.free
 there:=fun b o e hx=>by
  by_cases hb:b∈K5 outer
  ·obtain ⟨o',e1⟩:=F.un.there b o e hx
   obtain ⟨sl,e2⟩:=F.slots U hb e1
   eC ⟨_,e2⟩
  ·obtain ⟨o',e1⟩:=F.any b o e hb
   eC ⟨o',St b o' e1⟩
 tups:=F.un.tups
 frzs:=F.un.frzs
 tbls:=F.un.tbls
theorem Fly.hok5 (F:Fly P w outer H s H' a cls d B a0 s')(St:B.StaysIn h5):Jy P w H' h5:=fun b u e=>by
 rA (F.hok b u e).stay (fun c v hc q=>St c v (F.trk c v ?_ q)) (fun _ q=>q) fun _ _ q=>q
 rcases hc with z|z
 ·rw [z,e];simp
 ·rw [z];simp
theorem Fly.trk5 (F:Fly P w outer H s H' a cls d B a0 s')(St:B.StaysIn h5):∀b o,H' b≠none→h5.get? b=some o→B.get? b=some o:=fun b o n e=>by
 cases q:H' b with
 |none=>eC absurd q n
 |some u=>
  obtain ⟨o1,e1⟩:=Qg (F.hok b u q)
  have e2:=F.trk b o1 n e1
  have e3:=St b o1 e2
  rw [e] at e3
  cases e3
  eC e2
end
structure S3 (X:Cx):Prop where
 stk:X.stack=X.env::X.outer
 fr:X.env.frame=some X.env.locals
 ex:X.ex=[]
section
variable {X:Cx}{pins:List (Addr×Obj)}{σ:L2.St}{H H':Hp}{s s':Shared}{M:Model}{E:Value→Shared→Prop}{Q:Unit→Shared→Prop}
theorem Ou (I:Ar X pins σ H s){b:Addr}{o:Obj}(e:X.s₀.heap.get? b=some o)(hb:b∉X.fs):b∉K5 X.stack:=fun z=>by
 rcases AU.mp (I.stkSub b z) with q|q
 ·subst q
  eC DL _ (AL (AH e) I.ok.above)
 ·eC hb q
theorem W4 (D:S3 X)(I:Ar X pins σ H s){a:Addr}(n:s.heap.get? a=none):X.s₀.heap.get? a=none:=by
 cases q:X.s₀.heap.get? a with
 |none=>rfl
 |some o=>
  obtain ⟨o',e⟩:=I.base.there a o q (by rw [D.ex];simp)
  rw [n] at e
  cases e
theorem Akn {a:Addr}{cls a0:Value}{d:Option Addr}{B:Heap}(D:S3 X)(I:Ar X pins σ H s)(F:Fly X.prog X.w X.stack H s H' a cls d B a0 s')
  (k:∀s'',Fly X.prog X.w X.outer X.H₀ X.s₀ H' a cls d B a0 s''→Q () s''):wpAny M X.A (leaving X.env (.ref a)) Q E s':=by
 have hfr:X.A.frames=some (X.env::X.outer):=by rw [I.ok.frames,D.stk]
 have hfl:=F.fly
 rw [D.stk] at hfl
 have hex:∀b:Addr,b∉X.ex:=fun b=>by rw [D.ex];simp
 rA BP (Jm Ls F.dct (wpAny_leaves_onW (Q:=fun _ s5=>∃h5,s5={ s' with heap:=h5 }∧Heap.FlyingW B X.outer a cls a0 h5∧s'.heap.UpToSlots h5) hfr D.fr hfl fun h5 f5 u5=>⟨h5,rfl,f5,u5⟩)) (fun _ s5 ⟨⟨h5,e5,f5,u5⟩,d5⟩=>?_) fun _ _ z=>z
 subst e5
 rA k _ ?_
 have I5:Ar X pins σ H' { s' with heap:=h5 }:=I.call' (s':={ s' with heap:=h5 }) (ch:=[]) F.os (F.un5 f5.1 u5) (F.hok5 f5.1) F.bare fun b hb=>absurd hb (by simp)
 rA ⟨I5.os,I5.bare,?_,I5.hok,W4 D I F.fresh,F.free,f5,F.trk5 f5.1,fun b o e n hb=>?_,fun b o e hb=>?_,d5⟩
 ·have u:=I5.base
  rw [D.ex] at u
  eC u
 ·eC F.old b o (I.base.keep b o e n hb (hex b)) (I.base.free b o e n (hex b)) (Ou I e hb)
 ·obtain ⟨o1,e1⟩:=I.base.there b o e (hex b)
  eC F.any b o1 e1 (Ou I e hb)
theorem Afh {h':Heap}{e:Addr}{cls:Value}{vs:List Value}(D:S3 X)(I:Ar X pins σ H s)(hx:Heap.MadeExcOf s.heap h' e cls vs)
  (k:∀s'' B a0,Fly X.prog X.w X.outer X.H₀ X.s₀ H e cls none B a0 s''→Q () s''):wpAny M X.A (leaving X.env (.ref e)) Q E { s with heap:=h' }:=by
 have hfr:X.A.frames=some (X.env::X.outer):=by rw [I.ok.frames,D.stk]
 have hex:∀b:Addr,b∉X.ex:=fun b=>by rw [D.ex];simp
 have hB:∀b o,s.heap.get? b=some o→b∉K5 X.stack→(PySem.W.hideAll s.heap (K5 X.stack)).get? b=some o:=fun b o q nm=>PySem.W.hideAll_get _ q nm
 have hl:s.heap.FunFrames (PySem.W.hideAll s.heap (K5 X.stack)) (X.env::X.outer):=by
  have z:=PySem.W.funFrames_hide (as:=K5 X.stack) I.stack fun env he b hb=>EC.mpr ⟨env,he,hb⟩
  rw [D.stk] at z ⊢
  eC z
 have tn:∀b,H b≠none→b∉K5 X.stack:=fun b n z=>n (I.stkFree b z)
 have D0:J6 e none ({ s with heap:=h' }:Shared).heap:=by
  obtain ⟨t,q,_⟩:=hx.there
  eC ⟨_,q,rfl⟩
 rA BP (Jm Ls D0 (wpAny_leaves_madeW (s:={ s with heap:=h' }) (Q:=fun _ s5=>∃h5 t,s5={ s with heap:=h5 }∧Heap.FlyingW (PySem.W.hideAll s.heap (K5 X.stack)) X.outer e cls (.ref t) h5∧h'.UpToSlots h5) hfr D.fr (fun b o q=>PySem.W.of_hideAll _ q) hl hx fun h5 t f5 _ _ u5=>⟨h5,t,rfl,f5,u5⟩)) (fun _ s5 ⟨⟨h5,t,e5,f5,u5⟩,d5⟩=>?_) fun _ _ z=>z
 subst e5
 rA k _ (PySem.W.hideAll s.heap (K5 X.stack)) (.ref t) ?_
 have St:=f5.1
 have un5:Un (K5 X.stack) [] H H s.heap h5:=by
  have sl:∀b o,s.heap.get? b=some o→b∈K5 X.stack→∃sl,h5.get? b=some { o with slots:=sl }:=fun b o e hb=>by
   obtain ⟨_,o',e',nf⟩:=I.stack.mem hb
   rw [e] at e'
   cases e'
   eC u5 b o (hx.keeps b o e) nf
  rA ⟨fun b o e n hb _=>St b o (hB b o e hb),fun b o e n hb _=>sl b o e hb,fun _ _ _ n _=>n,fun b o e _=>?_,fun _ _ q=>q,fun _ _ _ q=>q,fun b ps q=>⟨#[],by rw [q];simp⟩⟩
  by_cases hb:b∈K5 X.stack
  ·obtain ⟨z,e1⟩:=sl b o e hb
   eC ⟨_,e1⟩
  ·eC ⟨o,St b o (hB b o e hb)⟩
 have hok5:Jy X.prog X.w H h5:=fun b u e=>by
  rA (I.hok b u e).stay (fun c v hc q=>St c v (hB c v q (tn c ?_))) (fun _ q=>q) fun _ _ q=>q
  rcases hc with z|z
  ·rw [z,e];simp
  ·rw [z];simp
 have I5:Ar X pins σ H { s with heap:=h5 }:=I.call' (s':={ s with heap:=h5 }) (ch:=[]) rfl un5 hok5 I.bare fun b hb=>absurd hb (by simp)
 rA ⟨I5.os,I5.bare,?_,hok5,W4 D I hx.new,?_,f5,fun b o n q=>?_,fun b o e n hb=>?_,fun b o e hb=>?_,d5⟩
 ·have u:=I5.base
  rw [D.ex] at u
  eC u
 ·cases q:H e with
  |none=>rfl
  |some u=>
   obtain ⟨o,z⟩:=Qg (I.hok e u q)
   rw [hx.new] at z
   cases z
 ·cases z:H b with
  |none=>eC absurd z n
  |some u=>
   obtain ⟨o1,e1⟩:=Qg (I.hok b u z)
   have e2:=hB b o1 e1 (tn b n)
   have e3:=St b o1 e2
   have q':h5.get? b=some o:=q
   rw [q'] at e3
   cases e3
   eC e2
 ·eC hB b o (I.base.keep b o e n hb (hex b)) (Ou I e hb)
 ·obtain ⟨o1,e1⟩:=I.base.there b o e (hex b)
  eC ⟨o1,hB b o1 e1 (Ou I e hb)⟩
end
def Ew (P:Program)(w:World):CXT:=fun outer H s E e s'=>∃a cls d H' B a0,e=.ref a∧Fly P w outer H s H' a cls d B a0 s'∧E cls d H'
theorem Aos {P:Program}{w:World}{outer:List Env}{H:Hp}{s s':Shared}{e:Value}(h:Ew P w outer H s (fun _ _ _=>False) e s'):False:=by
 obtain ⟨_,_,_,_,_,_,_,_,z⟩:=h
 eC z
theorem P7 {X:Cx}:Eg (Ew X.prog X.w) X E0:=fun _ _ _ _ _ _ _ h=>(Aos h).elim
section
variable {P:Program}{w:World}{K:KKf}{mg:Str→Option Value}{base:Heap}{N:List Str}{qual:Str}{scope:Scope}{f:Addr}{cd:Value}{A:Around}{outer:List Env}{s₀:Shared}{H₀:Hp}{E:XK}
theorem Aal:Eg (Ew P w) (Ct (Ew P w) P w K mg base N qual scope f cd A outer s₀ H₀ E) E:=by
 intro pins σ H1 s1 e s' I h
 obtain ⟨a,cls,d,H',B,a0,rfl,F,q⟩:=h
 eC Akn (X:=Ct (Ew P w) P w K mg base N qual scope f cd A outer s₀ H₀ E) ⟨rfl,rfl,rfl⟩ I F fun s'' F'=>⟨a,cls,d,H',B,a0,rfl,F',q⟩
theorem Amr {pins:List (Addr×Obj)}{σ:L2.St}{H:Hp}{s:Shared}{h':Heap}{e:Addr}{cls:Value}{vs:List Value}(I:Ar (Ct (Ew P w) P w K mg base N qual scope f cd A outer s₀ H₀ E) pins σ H s)(hx:Heap.MadeExcOf s.heap h' e cls vs)(q:E cls none H) :
  (Ct (Ew P w) P w K mg base N qual scope f cd A outer s₀ H₀ E).xe (.ref e) { s with heap:=h' } :=
 Afh (X:=Ct (Ew P w) P w K mg base N qual scope f cd A outer s₀ H₀ E) ⟨rfl,rfl,rfl⟩ I hx fun s'' B a0 F'=>⟨e,cls,none,H,B,a0,rfl,F',q⟩
end
end Lw
end
section
namespace Lw
open PySem PySem.Spec PyProof.Rows L2
def Br (b:Bool)(A B:Prop):Prop:=(b=true→A)∧(b=false→B)
theorem Rt (b:Bool)(A B:Prop):Br b A B=(if b=true then A else B):=by
 unfold Br
 cases b<;>simp
def Amj (i:Nat):TE:=fun σ H Q=>match σ[i]? with
 |some (some v)=>Q v H
 |_=>False
theorem Ah3 (i:Nat):Amj i=Amx i:=by
 funext σ H Q
 apply propext
 unfold Amj Amx
 cases h:σ[i]? with
 |none=>simp
 |some o=>cases o<;>simp
def dI (C:Int→Int→Prop)(g:Int→Int→V):R2:=fun x y H Q=>match x,y with
 |.int i,.int j=>C i j∧Q (g i j) H
 |_,_=>False
def dI0 (g:Int→Int→V):R2:=fun x y H Q=>match x,y with
 |.int i,.int j=>Q (g i j) H
 |_,_=>False
def dU (g:Int→V):V→Hp→VK→Prop:=fun x H Q=>match x with
 |.int i=>Q (g i) H
 |_=>False
def J1 (t:TE):TT:=fun σ H Q=>t σ H fun x H'=>match x with
 |.bl k=>Q k H'
 |_=>False
theorem Px (t:TE):J1 t=Aae t:=by
 funext σ H Q
 unfold J1 Aae
 congr 1
 funext x H'
 apply propext
 cases x<;>simp
theorem Gi (t:TE):J1 t=tB t:=Px t
def Alu (t u:TT):TT:=fun σ H Q=>t σ H fun c H1=>Br c (u σ H1 Q) (Q false H1)
def dOr (t u:TT):TT:=fun σ H Q=>t σ H fun c H1=>Br c (Q true H1) (u σ H1 Q)
theorem Aia (t u:TT):Alu t u=Als t u:=by
 funext σ H Q
 unfold Alu Als
 simp only [Rt]
theorem Ame (t u:TT):dOr t u=tOr t u:=by
 funext σ H Q
 unfold dOr tOr
 simp only [Rt]
def Ad2 (ta tb:TE):TE:=fun σ H Q=>ta σ H fun x H1=>match x with
 |.bl c=>Br c (tb σ H1 Q) (Q (.bl false) H1)
 |_=>False
def Aex (ta:TE):TE:=fun σ H Q=>ta σ H fun x H1=>match x with
 |.bl c=>Q (.bl (!c)) H1
 |_=>False
theorem Agl (t u:TE):Ad2 t u=Ag6 t u:=by
 funext σ H Q
 unfold Ad2 Ag6
 congr 1
 funext x H'
 apply propext
 cases x<;>simp [Rt]
theorem Agu (t:TE):Aex t=Af6 t:=by
 funext σ H Q
 unfold Aex Af6
 congr 1
 funext x H'
 apply propext
 cases x<;>simp
def Ano (c:TT)(t u:TS):TS:=fun D σ H=>c σ H fun b H1=>Br b (t D σ H1) (u D σ H1)
theorem Ah6 (c:TT)(t u:TS):Ano c t u=Aln c t u:=by
 funext D σ H
 unfold Ano Aln
 simp only [Rt]
def dIf (t:TT)(ta tb:TE):TE:=fun σ H Q=>t σ H fun c H1=>Br c (ta σ H1 Q) (tb σ H1 Q)
theorem Ant (c:TT)(t u:TE):dIf c t u=tIf c t u:=by
 funext D σ H
 unfold dIf tIf
 simp only [Rt]
section
variable {X:Cx}{a b c:Expr}{ta tb tc:TE}{pos:Pos}{tA tB':TT}{Es:List Expr}
theorem dv (i:Nat){x:Str}{pos:Pos}(hN:X.N[i]? =some x:=by rfl)(hv:Vis X.env.scope x:=by first|eC Or.inl rfl|eC Or.inr (Or.inl rfl)|eC Or.inr (Or.inr rfl))(hd:(x==("__debug__":Str))=false:=by decide)
  (hcd:(x==("__classdict__":Str))=false:=by decide):PE X (.Name x pos) (Amj i):=by
 rw [Ah3]
 eC Akl hN hv hd hcd
theorem opD {f:Value→Value→Sem Value}{C:Int→Int→Prop}{g:Int→Int→V}(h:Dy X f (rI C g)):Dy X f (dI C g):=by
 intro pins s σ H x y v u Q I rx ry q
 cases x<;>cases y<;>first
  |eC False.elim q
  |eC h _ _ _ _ _ _ _ _ _ I rx ry ⟨_,_,rfl,rfl,q.1,q.2⟩
theorem Ado {f:Value→Value→Sem Value}{g:Int→Int→V}(h:Dy X f (rI0 g)):Dy X f (dI0 g):=by
 intro pins s σ H x y v u Q I rx ry q
 cases x<;>cases y<;>first
  |eC False.elim q
  |eC h _ _ _ _ _ _ _ _ _ I rx ry ⟨_,_,rfl,rfl,q⟩
theorem unD {f:Value→Sem Value}{g:Int→V}(h:UnR X f (rU g)):UnR X f (dU g):=by
 intro pins s σ H x v Q I rx q
 cases x<;>first
  |eC False.elim q
  |eC h _ _ _ _ _ _ _ I rx ⟨_,rfl,q⟩
def Bd (n:Nat)(x:Int):Prop:=x.natAbs<2 ^ n
theorem Bd.bits {n:Nat}{x:Int}(h:Bd n x):Builtin.Int.intBits x≤n:=intBits_le_iff.mpr h
def COk (i j:Int):Prop:=(Bd 4000 i∧Bd 4000 j)∨Al9 i j
theorem COk.ok {i j:Int}(h:COk i j):IntMulOk i j:=by
 rcases h with ⟨h1,h2⟩|h
 ·eC PySem.IntMulOk.of_bits (AO h1.bits #d) (AO h2.bits #d)
 ·eC h.ok
theorem Mb {n:Nat}{x:Int}(h:Bd n x)(h0:0<n):x.natAbs.log2<n:=by
 by_cases z:x.natAbs=0
 ·rw [z]
  simpa using h0
 ·eC (Nat.log2_lt z).mpr h
theorem Fx:Dy X (binaryOp .Add) (dI0 fun i j=>.int (i+j)):=Ado Amh
theorem Xa:Dy X (binaryOp .Sub) (dI0 fun i j=>.int (i-j)):=Ado Amn
theorem Ef:Dy X (binaryOp .Mult) (dI COk fun i j=>.int (i*j)):=opD (opI fun _ _ _ _ _ _ _ hc q=>mul_int q hc.ok)
theorem Hv:Dy X (binaryOp .FloorDiv) (dI (fun _ j=>0<j∧Bd 4000 j) fun i j=>.int (i / j)):=opD (opI fun i j _ _ _ _ _ hc q=>by
 have h1:(0:Int)<j:=hc.1
 eC floordiv_int #o (by rw [Int.fdiv_eq_ediv_of_nonneg i #o];eC q) (.inl (PyProof.noPylong_of_log2 (Nat.lt_trans (Mb hc.2 #d) #d))))
theorem Aeu:Dy X (binaryOp .FloorDiv) (dI (fun _ j=>j≠0∧Bd 4000 j) fun i j=>.int (i.fdiv j)):=opD (opI fun i j _ _ _ _ _ hc q=>by
 eC floordiv_int hc.1 q (.inl (PyProof.noPylong_of_log2 (Nat.lt_trans (Mb hc.2 #d) #d))))
theorem Eu:Dy X (binaryOp .Mod) (dI (fun _ j=>0<j) fun i j=>.int (i % j)):=opD Ald
theorem Am8:Dy X (binaryOp .Mod) (dI (fun _ j=>j≠0) fun i j=>.int (i.fmod j)):=opD Ahu
theorem Apk:Dy X (binaryOp .Pow) (dI Aow fun i j=>.int (i ^ j.toNat)):=opD Amz
theorem Ws:Dy X (compareOp .Lt) (dI0 fun i j=>.bl (decide (i<j))):=Ado Aqe
theorem Qz:Dy X (compareOp .LtE) (dI0 fun i j=>.bl (decide (i≤j))):=Ado Aov
theorem Aec:Dy X (compareOp .Gt) (dI0 fun i j=>.bl (decide (j<i))):=Ado Ap3
theorem Aq9:Dy X (compareOp .GtE) (dI0 fun i j=>.bl (decide (j≤i))):=Ado Apj
theorem Lf:UnR X (unaryOp .USub) (dU fun i=>.int (-i)):=unD Anb
def dEq:R2:=fun x y H Q=>match x,y with
 |.int i,.int j=>Q (.bl (decide (i=j))) H
 |.bl i,.bl j=>Q (.bl (i==j)) H
 |.str i,.str j=>Q (.bl (decide (i=j))) H
 |_,_=>False
def dNe:R2:=fun x y H Q=>match x,y with
 |.int i,.int j=>Q (.bl (!decide (i=j))) H
 |.bl i,.bl j=>Q (.bl (i != j)) H
 |.str i,.str j=>Q (.bl (!decide (i=j))) H
 |_,_=>False
theorem Gg:Dy X (compareOp .Eq) dEq:=by
 intro pins s σ H x y v u Q I rx ry q
 cases x<;>cases y<;>first
  |eC False.elim q
  | (refine Aoi _ _ _ _ _ _ _ _ _ I rx ry ⟨rfl,?_⟩
     have e:∀(i j:Int),decide (V.int i=V.int j)=decide (i=j):=fun i j=>by simp
     have e2:∀(i j:Str),decide (V.str i=V.str j)=decide (i=j):=fun i j=>by simp
     first
       |(rw [e];eC q)
       |(rw [e2];eC q)
       |(rw [U3];eC q))
theorem Acb:Dy X (compareOp .NotEq) dNe:=by
 intro pins s σ H x y v u Q I rx ry q
 cases x<;>cases y<;>first
  |eC False.elim q
  | (refine Aqc _ _ _ _ _ _ _ _ _ I rx ry ⟨rfl,?_⟩
     have e:∀(i j:Int),decide (V.int i=V.int j)=decide (i=j):=fun i j=>by simp
     have e2:∀(i j:Str),decide (V.str i=V.str j)=decide (i=j):=fun i j=>by simp
     first
       |(rw [e];eC q)
       |(rw [e2];eC q)
       |(rw [U3];eC q))
theorem Bm {op:CmpOp}{r:R2}(ho:Dy X (compareOp op) r)(ha:PE X a ta)(hb:PE X b tb)(hm:behindInMarks op b=false):PT X (.Compare a [op] [b] pos) (J1 (tOp r ta tb)):=by
 rw [Px]
 eC Aie ho ha hb hm
theorem Ao6 {j pos'}(ha:PE X a ta):PT X (.Compare a [.Is] [.Constant .none j pos'] pos) (J1 (Apg ta)):=by
 rw [Gi]
 eC Tw (Amm ha)
theorem Ce {e:Expr}{t:TE}(h:PE X e t)(he:∀whole,isTrue e X.env whole=(do let v ←whole;standAt e.pos;holding [v] (truthy v)):=by intro _;rfl):PT X e (J1 t):=by
 rw [Gi]
 eC Amq h he
theorem Xf (ha:PT X a tA)(hb:PW X (.BoolOp .And (b::Es) pos) tB'):PW X (.BoolOp .And (a::b::Es) pos) (Alu tA tB'):=by
 rw [Aia]
 eC Ali ha hb
theorem Oa (ha:PT X a tA)(hb:PW X (.BoolOp .Or (b::Es) pos) tB'):PW X (.BoolOp .Or (a::b::Es) pos) (dOr tA tB'):=by
 rw [Ame]
 eC Apy ha hb
theorem Rx (ha:PE X a ta)(hb:PE X (.BoolOp .And (b::Es) pos) tb):PE X (.BoolOp .And (a::b::Es) pos) (Ad2 ta tb):=by
 rw [Agl]
 eC Akp ha hb
theorem Aj6 (ha:PE X a ta):PE X (.UnaryOp .Not a pos) (Aex ta):=by
 rw [Agu]
 eC Ank ha
theorem Yu {c:Expr}(hc:PT X c tA)(ha:PE X a ta)(hb:PE X b tb):PE X (.IfExp c a b pos) (dIf tA ta tb):=by
 rw [Ant]
 eC Ad3 hc ha hb
theorem B9 {c:Expr}{a b:List Stmt}{tc:TT}{t u:TS}(hc:PT X c tc)(ha:Ny X a t)(hb:Ny X b u):PS X (.If c a b pos) (Ano tc t u):=by
 rw [Ah6]
 eC Aqd hc ha hb
def Ar5 (R:L2.St→Hp→Prop)(t u:TS):TS:=fun D σ H=>t { D with nx:=R } σ H∧∀σ' H',R σ' H'→u D σ' H'
theorem Yl (R:L2.St→Hp→Prop){st:Stmt}{r:List Stmt}{t u:TS}(h1:PS X st t)(h2:Ny X r u):Ny X (st::r) (Ar5 R t u):=by
 intro pins s σ H D I h
 rA wpAny_execs_cons (Bi (h1 pins s σ H { D with nx:=R } I h.1) fun f s1 q=>?_)
 cases f with
 |next=>
  obtain ⟨σ',H',I',q⟩:=q
  eC h2 pins s1 σ' H' D I' (h.2 σ' H' q)
 |ret v=>eC q
 |brk=>eC q
 |cont=>eC q
structure Ba (P:Program)(w:World)(K:KKf)(mg:Str→Option Value)(base:Heap)(x:Str)(ps:List Str)(k:Nat)(sp:Sp):Prop where
 ex:∃(f:Addr) (fd:FuncData),mg x=some (.ref f)∧PySem.W.keepIn K (.ref f)=true∧Ee K fd ps []∧Gy P w K mg base (Ew P w) k f fd ps sp ∧
  ∃(oc:Value) (od:Option Addr) (osl:Array (Option Value)),K.lookup f=some ⟨oc,od,.func fd,osl⟩
def Afq (sp:Sp)(t:TA):TE:=fun σ H Q=>t σ H fun vs H1=>sp vs H1 Q E0
theorem Af8 (sp:Sp)(t:TA):Afq sp t=Xs sp [] E0 t:=by
 funext σ H Q
 unfold Afq Xs
 simp only [CG]
theorem Ak {x:Str}{ps:List Str}{k k':Nat}{sp:Sp}{p:Pos}{e:Expr}{es:List Expr}{t:TA}(C:Ba X.prog X.w X.K X.mg X.base x ps k sp)(hr:B6 k' X.A)(hk:k≤k')(hg:Gl X x)
  (ha:PA X (e::es) t) (hdb:(x==("__debug__":Str))=false:=by decide) (he:starEach (e::es) X.env=(false,eval e X.env)::starEach es X.env:=by rfl) (hpl:(backTo pos (starEach es X.env)).any (·.1)=false:=by rfl) :
  PE X (.Call (.Name x p) (e::es) [] pos) (Afq sp t):=by
 obtain ⟨f,fd,h1,h2,h3,h4,_⟩:=C.ex
 rw [Af8]
 eC Aa5 (h4.mono hk) hr hg h1 h2 h3 .nil P7 ha hdb he hpl
def L5 (xs:List V):Bool:=Nat.ble xs.length 1000
theorem Xw {xs:List V}(h:L5 xs=true):xs.length≤sizeLine:=AO (Nat.le_of_ble_eq_true h) #d
def Ari (t:TA):TE:=fun σ H Q=>t σ H fun xs H1=>match L5 xs with
 |true=>∀p H',Ah H1 H'→H' p=some (.tup xs)→Q (.ref p) H'
 |false=>False
def Aoc (t:TA):TE:=fun σ H Q=>t σ H fun xs H1=>match L5 xs with
 |true=>∀p H',Ah H1 H'→H' p=some (.lst xs)→Q (.ref p) H'
 |false=>False
theorem Ap {H:Hp}{p:Addr}{o:HO}(h:H p=none):Ah H (upd H p o):=fun b u e=>by
 rw [Ao (Bs e h)]
 eC e
theorem B8 {es:List Expr}{t:TA}{x1}(h:PA X es t):PE X (.Tuple es x1 pos) (Ari t):=by
 intro pins s σ H Q I hq
 rA wpAny_Tuple_spliced (Bi (h pos pins s σ H _ I hq) fun us s1 ⟨xs,H1,I1,r,q⟩=>?_)
 cases hl:L5 xs with
 |false=>
  have q':(match L5 xs with|true=>_|false=>False:Prop):=q
  rw [hl] at q'
  eC q'.elim
 |true=>
  have z:=Xw hl
  have q':(match L5 xs with|true=>∀p H',Ah H1 H'→H' p=some (.tup xs)→Q (.ref p) H'|false=>False:Prop):=q
  rw [hl] at q'
  rA ⟨by rw [←r.length];eC z,?_⟩
  have hf:H1 s1.heap.objs.size=none:=I1.hok.fresh (AF _)
  rA ⟨.ref s1.heap.objs.size,upd H1 s1.heap.objs.size (.tup xs),I1.laid (t':=s1.toks) (fun b u e=>AB _ e) (AF _) ?_,rfl,q' _ _ (Ap hf) Ag⟩
  eC ⟨z,us,r,⟨_,AG _ rfl,rfl,_,rfl⟩⟩
theorem E9 {es:List Expr}{t:TA}(h:PA X es t):PE X (.List es pos) (Aoc t):=by
 intro pins s σ H Q I hq
 rA wpAny_List_spliced (Bi (h pos pins s σ H _ I hq) fun us s1 ⟨xs,H1,I1,r,q⟩=>?_)
 cases hl:L5 xs with
 |false=>
  have q':(match L5 xs with|true=>_|false=>False:Prop):=q
  rw [hl] at q'
  eC q'.elim
 |true=>
  have z:=Xw hl
  have q':(match L5 xs with|true=>∀p H',Ah H1 H'→H' p=some (.lst xs)→Q (.ref p) H'|false=>False:Prop):=q
  rw [hl] at q'
  rA ⟨by rw [←r.length];eC z,?_⟩
  have hf:H1 s1.heap.objs.size=none:=I1.hok.fresh (AF _)
  rA ⟨.ref s1.heap.objs.size,upd H1 s1.heap.objs.size (.lst xs),I1.laid (t':=s1.toks) (fun b u e=>AB _ e) (AF _) ?_,rfl,q' _ _ (Ap hf) Ag⟩
  eC ⟨z,us,0,r,AG _ rfl⟩
def Af5 (xs:List V):Int→Option V
 |.ofNat n=>xs[n]?
 |.negSucc _=>none
theorem Aag {xs:List V}{i:Int}{v:V}(h:Af5 xs i=some v):Q6 xs i=some v:=by
 cases i with
 |ofNat n=>eC A4 h
 |negSucc n=>cases h
def Asn:R2:=fun x y H Q=>match x,y with
 |.ref p,.int i=>∃xs,H p=some (.tup xs)∧match Af5 xs i with
  |some v=>Q v H
  |none=>False
 |_,_=>False
def Al1 (K:KKf):R2:=fun x y H Q=>match x,y with
 |.ref p,.int i=>∃xs v,A3 K H p xs∧Q6 xs i=some v∧Q v H
 |_,_=>False
theorem A0:IxR X Asn:=by
 intro value slice pins s σ H x y v u Q I rx ry h hs
 cases x<;>cases y<;>first
  |eC False.elim h
  | (obtain ⟨xs,e,q⟩:=h
     cases z:Af5 xs _ with
     | none=>
       rw [z] at q
       eC q.elim
     | some w=>
       rw [z] at q
       eC Yz value slice pins s σ H _ _ v u Q I rx ry ⟨_,xs,_,w,rfl,rfl,Ec.of e,Aag z,q⟩ hs)
theorem Cn:IxR X (Al1 X.K):=by
 intro value slice pins s σ H x y v u Q I rx ry h hs
 cases x<;>cases y<;>first
  |eC False.elim h
  | (obtain ⟨xs,w,e,z,q⟩:=h
     eC Ahy value slice pins s σ H _ _ v u Q I rx ry ⟨_,xs,_,w,rfl,rfl,e,z,q⟩ hs)
theorem Zr (T:String){x:Str}(hg:Gl X x)(hm:X.mg x=none)(hv:bootBuiltins x=some (.type T))(hn:x≠"__name__":=by decide)(hd:(x==("__debug__":Str))=false:=by decide):PE X (.Name x pos) (tC (.ty T)):=
 Ah5 hg hm hv rfl hn hd
def Arw:List V→Hp→VK→Prop:=fun xs H Q=>match xs with
 |[.int i]=>Q (.int (i.natAbs:Int)) H
 |_=>False
theorem Aj4:Dg X (.builtin "abs") Arw:=by
 intro pins s σ H xs us Q I r h
 match xs,h with
 |[.int i],h=>
  have e:(if i<0 then -i else i)=(i.natAbs:Int):=by split<;>omega
  eC Ad7 pins s σ H _ us Q I r ⟨i,rfl,by rw [e];eC h⟩
def Ash (K:KKf):List V→Hp→VK→Prop:=fun xs H Q=>match xs with
 |[.ref p]=>∃ys,(A3 K H p ys∨Ec K H p ys)∧Q (.int ys.length) H
 |[.str z]=>z.length≤sizeLine∧Q (.int z.length) H
 |_=>False
theorem C9:Dg X (.builtin "len") (Ash X.K):=by
 intro pins s σ H xs us Q I r h
 match xs,h with
 |[.ref p],⟨ys,h1,q⟩=>eC U1 pins s σ H _ us Q I r ⟨p,ys,rfl,h1,q⟩
 |[.str z],⟨h1,q⟩=>eC Td pins s σ H _ us Q I r ⟨z,rfl,h1,q⟩
def tyB (t c:String):Option Bool:=
 if t=c then some true else if t="bool"∧c="int" then some true
 else if (t="int"∨t="bool"∨t="str"∨t="tuple"∨t="list"∨t="dict"∨t="NoneType")∧(c="int"∨c="bool"∨c="str"∨c="tuple"∨c="list") then some false else none
def Amg:HO→Option String
 |.lst _=>some "list"
 |.frz _ (.lst _)=>some "list"
 |.tup _=>some "tuple"
 |.dK _=>some "dict"
 |.dT _=>some "dict"
 |_=>none
def Ar8:List V→Hp→VK→Prop:=fun xs H Q=>match xs with
 |[.non,.ty c]=>∃b,tyB "NoneType" c=some b∧Q (.bl b) H
 |[.bl _,.ty c]=>∃b,tyB "bool" c=some b∧Q (.bl b) H
 |[.int _,.ty c]=>∃b,tyB "int" c=some b∧Q (.bl b) H
 |[.str _,.ty c]=>∃b,tyB "str" c=some b∧Q (.bl b) H
 |[.ref p,.ty c]=>∃u b t,H p=some u∧Amg u=some t∧tyB t c=some b∧Q (.bl b) H
 |_=>False
theorem G8 (K:KKf){t c:String}{b:Bool}(h:tyB t c=some b):PySem.W.kitOne K (.type t) (.type c)=some b:=by
 unfold tyB at h
 split at h
 ·rename_i e
  subst e
  cases h
  unfold PySem.W.kitOne
  rw [AN (by simp)]
 ·split at h
  ·rename_i e
   obtain ⟨rfl,rfl⟩:=e
   cases h
   kernel_rfl
  ·split at h
   ·rename_i e1 e2 e
    cases h
    obtain ⟨ht,hc⟩:=e
    rcases ht with rfl|rfl|rfl|rfl|rfl|rfl|rfl<;>rcases hc with rfl|rfl|rfl|rfl|rfl<;>first
     |eC absurd rfl e1
     |eC absurd ⟨rfl,rfl⟩ e2
     |kernel_rfl
   ·cases h
theorem Sg:Dg X (.builtin "isinstance") Ar8:=by
 intro pins s σ H xs us Q I r h
 match xs,h with
 |[.non,.ty c],⟨b,e,q⟩=>
  obtain ⟨u,w',rfl,r1,r2⟩:=Iz r
  cases (show w'=Value.type c from r2)
  eC Fe I r1 .non (G8 X.K e) fun tk=>⟨.bl b,H,I.tok _,rfl,q⟩
 |[.bl y,.ty c],⟨b,e,q⟩=>
  obtain ⟨u,w',rfl,r1,r2⟩:=Iz r
  cases (show w'=Value.type c from r2)
  eC Fe I r1 (.bl y) (G8 X.K e) fun tk=>⟨.bl b,H,I.tok _,rfl,q⟩
 |[.int y,.ty c],⟨b,e,q⟩=>
  obtain ⟨u,w',rfl,r1,r2⟩:=Iz r
  cases (show w'=Value.type c from r2)
  eC Fe I r1 (.int y) (G8 X.K e) fun tk=>⟨.bl b,H,I.tok _,rfl,q⟩
 |[.str y,.ty c],⟨b,e,q⟩=>
  obtain ⟨u,w',rfl,r1,r2⟩:=Iz r
  cases (show w'=Value.type c from r2)
  eC Fe I r1 (.str y) (G8 X.K e) fun tk=>⟨.bl b,H,I.tok _,rfl,q⟩
 | [.ref p,.ty c],⟨o,b,t,e1,e2,e,q⟩=>
  obtain ⟨u,w',rfl,r1,r2⟩:=Iz r
  cases (show w'=Value.type c from r2)
  have ty:Mx X.K H (.ref p) (.type t):=by
   cases o with
   |lst ys=>cases e2;eC .lst e1
   |tup ys=>cases e2;eC .tup e1
   |dK ys=>cases e2;eC .dK e1
   |dT ys=>cases e2;eC .dT e1
   |frz ob u=>
    cases u with
    |lst ys=>cases e2;eC .frz e1
    |_=>cases e2
   |_=>cases e2
  eC Fe I r1 ty (G8 X.K e) fun tk=>⟨.bl b,H,I.tok _,rfl,q⟩
end
section
variable {X:Cx}{pos:Pos}
def Amc (c:TT)(tb:TS):TS:=fun D σ H=>∃W:Nat→L2.St→Hp→Prop,(∃m,W m σ H)∧∀m σ H,W m σ H →
 c σ H fun b H1=>Br b (tb { D with nx:=fun σ' H'=>∃m',m'<m∧W m' σ' H',ct:=fun σ' H'=>∃m',m'<m∧W m' σ' H',bk:=D.nx } σ H1) (D.nx σ H1)
theorem Aar {c:Expr}{body:List Stmt}{tc:TT}{tb:TS}(hp:PassesOwn (model X.prog X.w) X.A X.env X.xe)(hc:PT X c tc)(hb:Ny X body tb):PS X (.While c body [] pos) (Amc tc tb):=by
 intro pins s σ H D I h
 obtain ⟨W,⟨m0,w0⟩,turn⟩:=h
 rA wpAny_While (codeAny_whileLoop (fun n s'=>∃σ' H',Ar X pins σ' H' s'∧W n σ' H') ?_ m0 ⟨σ,H,I,w0⟩)
 rintro n s1 ⟨σ1,H1,I1,w1⟩
 rA EG hp (Bi (hc pins s1 σ1 H1 _ I1 (turn n σ1 H1 w1)) fun b s2 ⟨H2,I2,q2⟩=>?_)
 cases b with
 | true=>
  have q2:=q2.1 rfl
  rw [AN rfl]
  rA EG hp (Bi (hb pins s2 σ1 H2 _ I2 q2) fun f s3 q3=>?_)
  cases f with
  |next=>
   obtain ⟨σ3,H3,I3,m',hm,w3⟩:=q3
   eC ⟨m',hm,σ3,H3,I3,w3⟩
  |cont=>
   obtain ⟨σ3,H3,I3,m',hm,w3⟩:=q3
   eC ⟨m',hm,σ3,H3,I3,w3⟩
  |brk=>eC q3
  |ret v=>eC q3
 |false=>
  rw [AI BC]
  eC GB ⟨σ1,H2,I2,q2.2 rfl⟩
end
structure Bj (K:KKf)(mg:Str→Option Value)(x:Str)(st:Stmt)(ps:List Str):Prop where
 ex:∃(f:Addr) (fd:FuncData),Fun K x x st f fd∧mg x=some (.ref f)∧Ee K fd ps []
section
variable {P:Program}{w:World}{K:KKf}{mg:Str→Option Value}{base:Heap}
theorem Bj.calX {x:Str}{st:Stmt}{N ps:List Str}{k:Nat}{sp:Sp}(d:Bj K mg x st ps)(S:Ai N ps (Af st))(len:∀vs H Q E,sp vs H Q E→vs.length=ps.length)
  (hbody:∀(f:Addr) (cdv:Value) (A:Around) (outer:List Env) (s:Shared) (H:Hp) (vs:List V) (Q:VK) (E:XK),B6 k (A.deeper (envOfC x (Af st) s.heap.objs.size f cdv))→sp vs H Q E →
   ∃t,Ny (Ct (Ew P w) P w K mg base N x (Af st) f cdv A outer s H E) (Bt st) t∧t { nx:=fun _ H'=>Q .non H',rt:=Q } (Ho N vs) H):Ba P w K mg base x ps (k+1) sp:=by
 obtain ⟨f,fd,F,hm,hb⟩:=d.ex
 obtain ⟨oc,od,kV,doc,pm,an,cdv,ct,osl,rfl,lk,hcd⟩:=F.ex
 eC ⟨f,_,hm,F.kp,hb,Agj lk hcd S len fun A outer s H vs Q E hr hsp=>hbody f cdv A outer s H vs Q E hr hsp,oc,od,osl,lk⟩
theorem Bj.cal {x:Str}{st:Stmt}{N ps:List Str}{k:Nat}{sp:Sp}(d:Bj K mg x st ps)(S:Ai N ps (Af st))(len:∀vs H Q E,sp vs H Q E→vs.length=ps.length)
  (hbody:∀(f:Addr) (cdv:Value) (A:Around) (outer:List Env) (s:Shared) (H:Hp) (vs:List V) (Q:VK) (E:XK),B6 k (A.deeper (envOfC x (Af st) s.heap.objs.size f cdv))→sp vs H Q E →
   ∃t,Ny (Ct (Ew P w) P w K mg base N x (Af st) f cdv A outer s H E).nox (Bt st) t∧t { nx:=fun _ H'=>Q .non H',rt:=Q } (Ho N vs) H):Ba P w K mg base x ps (k+1) sp:=
 d.calX S len fun f cdv A outer s H vs Q E hr hsp=>by
  obtain ⟨t,h,q⟩:=hbody f cdv A outer s H vs Q E hr hsp
  eC ⟨t,h.nox,q⟩
end
theorem Ym {K:KKf}{H H':Hp}{a:Addr}{xs:List V}(e:Ah H H')(h:Ec K H a xs):Ec K H' a xs:=by
 rcases h with (h|⟨o,h⟩)|h
 ·eC .inl (.inl (e _ _ h))
 ·eC .inl (.inr ⟨o,e _ _ h⟩)
 ·eC .inr h
mutual
inductive Rp (K:KKf)(H:Hp):V→PyData→Prop where
 |non:Rp K H .non .none
 |bl (b:Bool):Rp K H (.bl b) (.bool b)
 |int (i:Int):Rp K H (.int i) (.int i)
 |str (x:Str):Rp K H (.str x) (.str x)
 |tup {p:Addr} {xs:List V} {ds:List PyData}:Ec K H p xs→Rj K H xs ds→Rp K H (.ref p) (.tuple ds)
 |lst {p:Addr} {xs:List V} {ds:List PyData}:A3 K H p xs→Rj K H xs ds→Rp K H (.ref p) (.list ds)
inductive Rj (K:KKf)(H:Hp):List V→List PyData→Prop where
 |nil:Rj K H [] []
 |cons {v:V} {d:PyData} {vs:List V} {ds:List PyData}:Rp K H v d→Rj K H vs ds→Rj K H (v::vs) (d::ds)
end
mutual
theorem Rp.up {K:KKf}{H H':Hp}(s:Ah H H'):∀{v:V} {d:PyData},Rp K H v d→Rp K H' v d
 |_,_,.non=>.non
 |_,_,.bl b=>.bl b
 |_,_,.int i=>.int i
 |_,_,.str x=>.str x
 |_,_,.tup h r=>.tup (Ym s h) (Rj.up s r)
 |_,_,.lst h r=>.lst (s.seq h) (Rj.up s r)
theorem Rj.up {K:KKf}{H H':Hp}(s:Ah H H'):∀{v:List V} {d:List PyData},Rj K H v d→Rj K H' v d
 |_,_,.nil=>.nil
 |_,_,.cons h r=>.cons (Rp.up s h) (Rj.up s r)
end
section
variable {X:Cx}
mutual
theorem Rp.reads {pins:List (Addr×Obj)}{σ:L2.St}{H:Hp}{s:Shared}(I:Ar X pins σ H s):∀{v:V} {d:PyData} {u:Value},Rp X.K H v d→L2.RelV v u→∃as,Reads s.heap u d as
 |_,_,_,.non,r=>by cases r;eC ⟨_,Reads.none⟩
 |_,_,_,.bl b,r=>by cases r;eC ⟨_,Reads.bool b⟩
 |_,_,_,.int i,r=>by obtain ⟨t,rfl⟩:=r;eC ⟨_,Reads.int i t⟩
 |_,_,_,.str i,r=>by obtain ⟨t,rfl⟩:=r;eC ⟨_,Reads.str i t⟩
 |_,_,_,.tup h q,r=>by
  cases r
  obtain ⟨its,rv,⟨o,e,c,n,dd⟩,_⟩:=I.tuple h
  obtain ⟨as,ra⟩:=Rj.reads I q rv
  eC ⟨as,reads_tuple_at e c dd (by simpa using ra)⟩
 |_,_,_,.lst h q,r=>by
  cases r
  obtain ⟨its,rv,⟨o,n,e,c,_,dd⟩,_⟩:=I.list h
  obtain ⟨as,ra⟩:=Rj.reads I q rv
  eC ⟨_,reads_list_at e c dd (by simpa using ra)⟩
theorem Rj.reads {pins:List (Addr×Obj)}{σ:L2.St}{H:Hp}{s:Shared}(I:Ar X pins σ H s):∀{v:List V} {d:List PyData} {u:List Value},Rj X.K H v d→A7 v u→∃as,ReadsAll s.heap u d as
 |_,_,_,.nil,r=>by cases r;eC ⟨_,ReadsAll.nil⟩
 | _,_,_,.cons h q,r=>by
  cases r with
  |cons r1 r2=>
   obtain ⟨as,ra⟩:=Rp.reads I h r1
   obtain ⟨bs,rb⟩:=Rj.reads I q r2
   eC ⟨_,ReadsAll.cons ra rb⟩
end
def Arl (K:KKf):R2:=fun x y H Q=>∃d e,Rp K H x d∧Rp K H y e∧SeqAt.shaped d=true∧SeqAt.shaped e=true∧Q (.bl (PyData.eqv d e)) H
def Arc (K:KKf):R2:=fun x y H Q=>∃d e,Rp K H x d∧Rp K H y e∧SeqAt.shaped d=true∧SeqAt.shaped e=true∧Q (.bl (!PyData.eqv d e)) H
theorem V7 (hu:X.A.units+64<cLine):Dy X (compareOp .Eq) (Arl X.K):=by
 intro pins s σ H x y v u Q I rx ry q
 obtain ⟨d,e,h1,h2,h3,h4,q⟩:=q
 obtain ⟨as,r1⟩:=h1.reads I rx
 obtain ⟨bs,r2⟩:=h2.reads I ry
 eC PyProof.Rows.eq_dataH r1 r2 h3 h4 hu ⟨.bl _,H,I,rfl,q⟩
theorem Aj2 (hu:X.A.units+64<cLine):Dy X (compareOp .NotEq) (Arc X.K):=by
 intro pins s σ H x y v u Q I rx ry q
 obtain ⟨d,e,h1,h2,h3,h4,q⟩:=q
 obtain ⟨as,r1⟩:=h1.reads I rx
 obtain ⟨bs,r2⟩:=h2.reads I ry
 eC PyProof.Rows.ne_dataH r1 r2 h3 h4 hu ⟨.bl _,H,I,rfl,q⟩
end
end Lw
end
section
set_option exponentiation.threshold 5000
namespace Lw
open PySem PySem.Spec PyProof.Rows L2
def cell (ns:List Int)(k:Int):Int:=if ns.length=0 then 0 else ns.getD (k % (ns.length:Int)).toNat 0
theorem A2 {n:Nat}{x:Int}(h:Nat.blt x.natAbs (2 ^ n)=true):Bd n x:=by
 unfold Bd
 eC AL (Nat.lt_of_succ_le (Nat.le_of_ble_eq_true h)) (AF _)
theorem Bd.mono {m n:Nat}{x:Int}(h:Bd m x)(l:m≤n):Bd n x:=AL h (Nat.pow_le_pow_right #d l)
theorem Bd.mul {m n:Nat}{x y:Int}(h:Bd m x)(l:Bd n y):Bd (m+n) (x*y):=by
 unfold Bd at *
 rw [Int.natAbs_mul,Nat.pow_add]
 by_cases z:y.natAbs=0
 ·rw [z,Nat.mul_zero]
  eC Nat.mul_pos (Nat.pow_pos #d) (Nat.pow_pos #d)
 ·eC AL (Nat.mul_lt_mul_of_pos_right h (Nat.pos_of_ne_zero z)) (Nat.mul_le_mul_left _ (DK l))
theorem Bd.add {n:Nat}{x y:Int}(h:Bd n x)(l:Bd n y):Bd (n+1) (x+y):=by
 unfold Bd at *
 have:=Int.natAbs_add_le x y
 rw [Nat.pow_succ]
 omega
theorem Bd.sub {n:Nat}{x y:Int}(h:Bd n x)(l:Bd n y):Bd (n+1) (x-y):=by
 unfold Bd at *
 have:(x-y).natAbs≤x.natAbs+y.natAbs:=by omega
 rw [Nat.pow_succ]
 omega
theorem Bd.neg {n:Nat}{x:Int}(h:Bd n x):Bd n (-x):=by
 unfold Bd at *
 omega
theorem Bd.of_le {n:Nat}{x y:Int}(h:Bd n y)(l:x.natAbs≤y.natAbs):Bd n x:=BO l h
theorem Dt {x b:Int}{n:Nat}(h1:-b≤x)(h2:x≤b)(h:Bd n b):Bd n x:=h.of_le #o
def Mm (t b:Int):Int:=t / (Int.gcd t b:Int)
def Kx (t b:Int):Int:=b / (Int.gcd t b:Int)
theorem P9 (t b:Int):Mm t b*(Int.gcd t b:Int)=t:=Int.ediv_mul_cancel (Int.gcd_dvd_left ..)
theorem Md (t b:Int):Kx t b*(Int.gcd t b:Int)=b:=Int.ediv_mul_cancel (Int.gcd_dvd_right ..)
theorem Acd (t b:Int):Mm t b*b=t*Kx t b:=by
 have h1:=P9 t b
 have h2:=Md t b
 calc Mm t b*b=Mm t b*(Kx t b*(Int.gcd t b:Int)):=by rw [h2]
  _=(Mm t b*(Int.gcd t b:Int))*Kx t b:=by rw [ED (Kx t b),BD]
  _=t*Kx t b:=by rw [h1]
theorem Hw (x:Int)(g:Nat):(x / (g:Int)).natAbs≤x.natAbs:=Int.natAbs_ediv_le_natAbs x g
theorem Ahn {n:Nat}{t b:Int}(h:Bd n t):Bd n (Mm t b):=h.of_le (Hw ..)
theorem Ai5 {n:Nat}{t b:Int}(h:Bd n b):Bd n (Kx t b):=h.of_le (Hw ..)
structure Fq (n:Nat)(H:Hp)(p:Addr)(a b:Int):Prop where
 at':H p=some (.tup [.int a,.int b])
 pos:0<b
 ba:Bd n a
 bb:Bd n b
theorem Fq.up {n:Nat}{H H':Hp}{p:Addr}{a b:Int}(s:Ah H H')(h:Fq n H p a b):Fq n H' p a b:=⟨s _ _ h.at',h.pos,h.ba,h.bb⟩
theorem Fq.mono {m n:Nat}{H:Hp}{p:Addr}{a b:Int}(h:Fq m H p a b)(l:m≤n):Fq n H p a b:=⟨h.at',h.pos,h.ba.mono l,h.bb.mono l⟩
abbrev Q2:=Int×Int
def ltQ (x y:Q2):Bool:=decide (x.1*y.2<y.1*x.2)
theorem Xz {m n:Nat}{i j:Int}(h:Bd m i)(h':Bd n j)(l:m≤4000)(l':n≤4000):COk i j:=.inl ⟨h.mono l,h'.mono l'⟩
structure Pq (n:Nat)(H:Hp)(r:Addr)(lo:Q2)(hi:Option Q2):Prop where
 ex:∃l x,H r=some (.tup [.ref l,x])∧Fq n H l lo.1 lo.2∧(hi=none∧x=.non∨∃q y,hi=some y∧x=.ref q∧Fq n H q y.1 y.2)
theorem Ae3 (a b:Int):Int.gcd b (a.fmod b)=Int.gcd a b:=by
 rw [Int.fmod_def,Int.gcd_sub_mul_left_right,Int.gcd_comm]
theorem Aje (a:Int){b:Int}(h:b≠0):(a.fmod b).natAbs<b.natAbs:=by
 have e0:=CY a h
 have e1:=Int.emod_lt a h
 rw [Int.fmod_eq_emod]
 by_cases c:0≤b∨b∣a
 ·rw [AN c]
  omega
 ·rw [AI c]
  have e2:a % b≠0:=fun z=>c (.inr (Int.dvd_of_emod_eq_zero z))
  have:¬0≤b:=fun z=>c (.inl z)
  omega
def Qa (t b:Int):Int:=if b<0 then -Mm t b else Mm t b
def Oc (t b:Int):Int:=if b<0 then -Kx t b else Kx t b
def dvs (t b:Int):Int:=if b<0 then -(Int.gcd t b:Int) else (Int.gcd t b:Int)
theorem S7 (t:Int){b:Int}(hb:b≠0):0<(Int.gcd t b:Int):=by
 have:0<Int.gcd t b:=Int.gcd_pos_of_ne_zero_right _ hb
 omega
theorem Amp (t:Int){b:Int}(hb:b≠0):dvs t b≠0:=by
 have:=S7 t hb
 unfold dvs
 split<;>omega
theorem Ans {n:Nat}(t:Int){b:Int}(hb:b≠0)(h:Bd n b):Bd n (dvs t b):=by
 have l:=Nat.le_of_dvd (by omega:0<b.natAbs) (show Int.gcd t b∣b.natAbs from Nat.gcd_dvd_right ..)
 rA h.of_le ?_
 unfold dvs
 split<;>omega
theorem Aki (t:Int){b:Int}(hb:b≠0):t.fdiv (dvs t b)=Qa t b:=by
 have g:=S7 t hb
 have h:=P9 t b
 unfold dvs Qa
 split
 ·have e:t=(-Mm t b)*(-(Int.gcd t b:Int)):=by rw [Int.neg_mul_neg];eC h.symm
  eC (congrArg (fun z=>z.fdiv (-(Int.gcd t b:Int))) e).trans (FY _ #o)
 ·eC (congrArg (fun z=>z.fdiv (Int.gcd t b:Int)) h.symm).trans (FY _ #o)
theorem Akk (t:Int){b:Int}(hb:b≠0):b.fdiv (dvs t b)=Oc t b:=by
 have g:=S7 t hb
 have h:=Md t b
 unfold dvs Oc
 split
 ·have e:b=(-Kx t b)*(-(Int.gcd t b:Int)):=by rw [Int.neg_mul_neg];eC h.symm
  eC (congrArg (fun z=>z.fdiv (-(Int.gcd t b:Int))) e).trans (FY _ #o)
 ·eC (congrArg (fun z=>z.fdiv (Int.gcd t b:Int)) h.symm).trans (FY _ #o)
theorem K7 (t:Int){b:Int}(hb:b≠0):0<Oc t b:=by
 have g:=S7 t hb
 have h:=Md t b
 unfold Oc
 split
 ·rA Int.lt_of_not_ge fun c=>?_
  have:=Int.mul_nonneg (show 0≤Kx t b by omega) (Int.le_of_lt g)
  omega
 ·rA Int.lt_of_not_ge fun c=>?_
  have:=Int.mul_nonpos_of_nonpos_of_nonneg c (Int.le_of_lt g)
  omega
theorem W6 (t b:Int):Qa t b*b=t*Oc t b:=by
 have c:=Acd t b
 unfold Qa Oc
 split
 ·rw [Int.neg_mul,Int.mul_neg,c]
 ·eC c
theorem Am4 (t:Int){b:Int}(hb:b≠0):Int.gcd (Qa t b) (Oc t b)=1:=by
 have c:Int.gcd (Mm t b) (Kx t b)=1:=Int.gcd_ediv_gcd_ediv_gcd_of_ne_zero_right hb
 unfold Qa Oc
 split
 ·rw [Int.gcd_neg,Int.neg_gcd]
  eC c
 ·eC c
theorem Ul {n:Nat}{t b:Int}(h:Bd n t):Bd n (Qa t b):=by
 have:=Ahn (b:=b) h
 unfold Qa
 split
 ·eC this.neg
 ·eC this
theorem Vb {n:Nat}{t b:Int}(h:Bd n b):Bd n (Oc t b):=by
 have:=Ai5 (t:=t) h
 unfold Oc
 split
 ·eC this.neg
 ·eC this
structure Ada (H:Hp)(p:Addr)(t b:Int):Prop where
 at':H p=some (.tup [.int (Qa t b),.int (Oc t b)])
theorem Ada.fq {n:Nat}{H:Hp}{p:Addr}{t b:Int}(h:Ada H p t b)(hb:b≠0)(h1:Bd n t)(h2:Bd n b):Fq n H p (Qa t b) (Oc t b):=⟨h.at',K7 t hb,Ul h1,Vb h2⟩
end Lw
end
section
namespace Lw
open PySem PySem.Spec PyProof.Rows L2
def Wi (kd:Bool)(h:Heap)(it l:Addr)(k:Nat):Prop:=match kd with
 |true=>h.IsListIter it l k
 |false=>h.IsTupleIter it l k
def Qx (kd:Bool)(h:Heap)(l:Addr)(xs:Array Value):Prop:=match kd with
 |true=>h.IsList l xs
 |false=>h.IsTuple l xs
def X5 (kd:Bool)(K:KKf)(H:Hp)(a:Addr)(xs:List V):Prop:=match kd with
 |true=>A3 K H a xs
 |false=>Ec K H a xs
theorem Wi.ob {kd:Bool}{h:Heap}{it l:Addr}{k:Nat}(x:Wi kd h it l k):∃o,h.get? it=some o∧∀v,o.data≠.cell v:=by
 cases kd with
 |true=>obtain ⟨o,e,_,d⟩:=x;eC ⟨o,e,fun v z=>by rw [d] at z;cases z⟩
 |false=>obtain ⟨o,e,_,d⟩:=x;eC ⟨o,e,fun v z=>by rw [d] at z;cases z⟩
theorem Wi.mv {kd:Bool}{h h':Heap}{it l:Addr}{k:Nat}(x:Wi kd h it l k)(q:∀o,h.get? it=some o→h'.get? it=some o):Wi kd h' it l k:=by
 cases kd with
 |true=>obtain ⟨o,e,r⟩:=x;eC ⟨o,q o e,r⟩
 |false=>obtain ⟨o,e,r⟩:=x;eC ⟨o,q o e,r⟩
theorem Qx.mv {kd:Bool}{h h':Heap}{l:Addr}{xs:Array Value}(x:Qx kd h l xs)(q:∀o,h.get? l=some o→h'.get? l=some o):Qx kd h' l xs:=by
 cases kd with
 |true=>obtain ⟨o,e,r⟩:=x;eC ⟨o,q o e,r⟩
 |false=>obtain ⟨o,e,r⟩:=x;eC ⟨o,q o e,r⟩
theorem Qx.lt {kd:Bool}{h:Heap}{l:Addr}{xs:Array Value}(x:Qx kd h l xs):l<h.objs.size:=by
 cases kd with
 |true=>obtain ⟨o,e,r⟩:=x;eC AH e
 |false=>obtain ⟨o,e,r⟩:=x;eC AH e
section
variable {prog:Program}{w:World}{A:Around}{E:Value→Shared→Prop}{s:Shared}
theorem J8 {kd:Bool}{it l:Addr}{k:Nat}{xs:Array Value}{x:Value}{Q:Value→Shared→Prop}(h1:Wi kd s.heap it l k)(h2:Qx kd s.heap l xs)(hx:xs[k]? =some x)
  (q:∀g,Wi kd g it l (k+1)→Heap.SameBut it s.heap g→Q x { s with heap:=g }):wpAny (model prog w) A (Builtin.SmallTypes.nextOf (.ref it)) Q E s:=by
 cases kd with
 |true=>eC wpAny_nextOf_list_item h1 h2 hx q
 |false=>
  have h1':s.heap.IsTupleIter it l k:=h1
  obtain ⟨io,e1,c1,d1⟩:=id h1'
  obtain ⟨lo,e2,_,m2,d2⟩:=(show s.heap.IsTuple l xs from h2)
  have ty:=h1'.typeIs
  unfold Builtin.SmallTypes.nextOf;rA AA (CC (name:=Str.ofString "__next__") ty EJ (wpAny_call_entry EJ ty F.entry_tuple_iterator_next ?_ (F.args_tuple_iterator_next_1 _)))
  show wpAny _ _ (field (Value.ref it) 0 >>= _) _ _ _
  rA AA (CQ e1 d1 (x:=.ref l) rfl ?_)
  show wpAny _ _ (if (Value.ref l==Value.none)=true then _ else _) _ _ _
  rw [AI (show ¬(Value.ref l==Value.none)=true from BC)]
  show wpAny _ _ (field (Value.ref it) 1 >>= _) _ _ _
  rA AA (CQ e1 d1 (x:=.int k 0) rfl ?_)
  show wpAny _ _ (seqItems? (Value.ref l) >>= _) _ _ _
  rA AA (CU e2 d2 ?_)
  simp only [CW,hx]
  rA AA (DV e1 d1 (by simp) (AC ⟨x,rfl,AC (q _ ?_ (BU ..))⟩))
  rA ⟨_,CA _ e1 (EI (CK d1 _)),(GV ..).trans c1,?_⟩
  rw [CK d1]
  simp [rawInt]
theorem Ry {kd:Bool}{it l:Addr}{k:Nat}{xs:Array Value}{Q:Value→Shared→Prop}(hh:A.handled=none)(h1:Wi kd s.heap it l k)(h2:Qx kd s.heap l xs)(hx:xs[k]? =none)
  (q:∀g e,Heap.ExtBut it s.heap g→(∃o,g.get? e=some o∧o.cls=.type "StopIteration")→E (.ref e) { s with heap:=g }):wpAny (model prog w) A (Builtin.SmallTypes.nextOf (.ref it)) Q E s:=by
 cases kd with
 |true=>eC wpAny_nextOf_list_end hh h1 h2 hx q
 |false=>
  have h1':s.heap.IsTupleIter it l k:=h1
  obtain ⟨io,e1,c1,d1⟩:=id h1'
  obtain ⟨lo,e2,_,m2,d2⟩:=(show s.heap.IsTuple l xs from h2)
  have ty:=h1'.typeIs
  unfold Builtin.SmallTypes.nextOf;rA AA (CC (name:=Str.ofString "__next__") ty EJ (wpAny_call_entry EJ ty F.entry_tuple_iterator_next ?_ (F.args_tuple_iterator_next_1 _)))
  show wpAny _ _ (field (Value.ref it) 0 >>= _) _ _ _
  rA AA (CQ e1 d1 (x:=.ref l) rfl ?_)
  show wpAny _ _ (if (Value.ref l==Value.none)=true then _ else _) _ _ _
  rw [AI (show ¬(Value.ref l==Value.none)=true from BC)]
  show wpAny _ _ (field (Value.ref it) 1 >>= _) _ _ _
  rA AA (CQ e1 d1 (x:=.int k 0) rfl ?_)
  show wpAny _ _ (seqItems? (Value.ref l) >>= _) _ _ _
  rA AA (CU e2 d2 ?_)
  simp only [CW,hx]
  rA AA (GK (AA (DV e1 d1 (by simp) ?_)));show wpAny _ _ (newExc (.type "StopIteration") [] >>= _) _ _ _;rA AA ?_;simp only [newExc,newTuple]
  rA AA (BS ?_ (by size_fits));rA AA (m:=firstArgMember _ _) (wpAny_of_eq (a:=Value.none) (by first|rfl|(simp only [firstArgMember];rfl)) ?_)
  rA BS ?_ (by size_fits);simp only [raiseNew];rA AA (wpAny_handled ?_);first|rw [show A.in1.handled=none from hh]|rw [hh]
  rA AA (AC (wpAny_throw ?_))
  eC q _ _ (((BU ..).extBut.push _).push _) ⟨_,AG _ rfl,rfl⟩
structure ZAt (k1 k2:Bool)(z TI TO i1 i2 l1 l2:Addr)(n:Nat)(h:Heap):Prop where
 z:IsZip h z TI TO .none
 ti:IsPair h TI (.ref i1) (.ref i2)
 to:∃a b,IsPair h TO a b
 a:Wi k1 h i1 l1 n
 b:Wi k2 h i2 l2 n
theorem Adi {k1 k2:Bool}{z TI TO i1 i2 l1 l2:Addr}{n:Nat}{xs ys:Array Value}{x y:Value}{Q:Option Value→Shared→Prop}(D:ZipApart z TI TO i1 i2 l1 l2)(Z:ZAt k1 k2 z TI TO i1 i2 l1 l2 n s.heap)
  (hl1:Qx k1 s.heap l1 xs) (hl2:Qx k2 s.heap l2 ys) (hx:xs[n]? =some x) (hy:ys[n]? =some y)
  (q:∀g,IsZip g z TI TO (rawInt s.heap.objs.size)→IsPair g TO x y→Wi k1 g i1 l1 (n+1)→Wi k2 g i2 l2 (n+1)→IsPair g s.heap.objs.size x y →
   (∀c o,c≠z→c≠TO→c≠i1→c≠i2→s.heap.get? c=some o→g.get? c=some o)→Q (some (.ref s.heap.objs.size)) { s with heap:=g }) :
  wpAny (model prog w) A (pyNext (.ref z)) Q E s:=by
 obtain ⟨Zz,Zi,⟨a,b,Zo⟩,Za,Zb⟩:=Z
 have hT:s.TypeIs (.ref z) "zip":=⟨_,Zz,rfl⟩
 unfold pyNext;rA AA (wpAny_attempt (CC (name:=Str.ofString "__next__") hT HG (wpAny_call_entry HG hT F.entry_zip_next ?_ (F.args_zip_next_1 _))))
 show wpAny _ _ (field (Value.ref z) 2 >>= _) _ _ _
 rA AA (CQ Zz rfl (x:=.bool false) rfl ?_)
 show wpAny _ _ (field (Value.ref z) 3 >>= _) _ _ _
 rA AA (CQ Zz rfl (x:=.ref TI) rfl ?_)
 rA AA (CU Zi rfl ?_)
 show wpAny _ _ (Builtin.SmallTypes.ownedTupleIsFree (Value.ref z) >>= _) _ _ _
 rA AA ?_;unfold Builtin.SmallTypes.ownedTupleIsFree
 rA AA (CQ Zz rfl (x:=.none) rfl (AC ?_));simp only [FO];rA AA (GK ?_)
 rA AA (CQ Zz rfl (x:=.ref TO) rfl ?_)
 rA AA (EE Zz (by simp) fun g1 z1 s1=>?_)
 have z1:IsZip g1 z TI TO .ellipsis:=z1
 rA AA ?_;simp only [List.zipIdx_cons,List.zipIdx_nil,List.forIn_cons,List.forIn_nil]
 rA AA (AA (wpAny_onRaise ?_));show wpAny _ _ (Builtin.SmallTypes.nextOf (Value.ref i1) >>= _) _ _ _
 rA AA (J8 (Za.mv fun o e=>s1.extBut _ _ D.i1z e) (hl1.mv fun o e=>s1.extBut _ _ D.l1z e) hx fun g2 a2 s2=>AC ?_)
 have o2:IsPair g2 TO a b:=s2.extBut _ _ D.TOi1 (s1.extBut _ _ D.TOz Zo)
 rA AA (CU o2 rfl ?_)
 rA AA (wpAny_updateSeq_pair o2 fun g3 o3 s3=>?_)
 have o3:IsPair g3 TO x b:=o3
 rA AA (wpAny_letGo (AC ?_))
 rA AA (AA (wpAny_onRaise ?_));show wpAny _ _ (Builtin.SmallTypes.nextOf (Value.ref i2) >>= _) _ _ _
 rA AA (J8 (Zb.mv fun o e=>s3.extBut _ _ D.TOi2.symm (s2.extBut _ _ D.i12.symm (s1.extBut _ _ D.i2z e))) (hl2.mv fun o e=>s3.extBut _ _ D.l2TO (s2.extBut _ _ D.l2i1 (s1.extBut _ _ D.l2z e))) hy fun g4 a4 s4=>AC ?_)
 have o4:IsPair g4 TO x b:=s4.extBut _ _ D.TOi2 o3
 rA AA (CU o4 rfl ?_)
 rA AA (wpAny_updateSeq_pair o4 fun g5 o5 s5=>?_)
 have o5:IsPair g5 TO x y:=o5
 rA AA (wpAny_letGo (AC (AC ?_)))
 rA AA (CU o5 rfl ?_)
 rA AA (wpAny_newTuple ?_)
 have sz:g5.objs.size=s.heap.objs.size:=by rw [s5.1,s4.1,s3.1,s2.1,s1.1]
 have z5:IsZip g5 z TI TO .ellipsis:=s5.extBut _ _ D.TOz.symm (s4.extBut _ _ D.i2z.symm (s3.extBut _ _ D.TOz.symm (s2.extBut _ _ D.i1z.symm z1)))
 have kp:∀c o,c≠z→c≠TO→c≠i1→c≠i2→s.heap.get? c=some o→g5.get? c=some o:=fun c o n1 n2 n3 n4 e=>s5.extBut _ _ n2 (s4.extBut _ _ n4 (s3.extBut _ _ n2 (s2.extBut _ _ n3 (s1.extBut _ _ n1 e))))
 have a5:Wi k1 g5 i1 l1 (n+1):=a2.mv fun o e=>s5.extBut _ _ D.TOi1.symm (s4.extBut _ _ D.i12 (s3.extBut _ _ D.TOi1.symm e))
 have b5:Wi k2 g5 i2 l2 (n+1):=a4.mv fun o e=>s5.extBut _ _ D.TOi2.symm e
 have zlt:z<g5.objs.size:=AH z5
 show wpAny _ _ (Builtin.SmallTypes.ownedTupleHandOut (Value.ref z) (Value.ref g5.objs.size) >>= _) _ _ _
 rA AA ?_;unfold Builtin.SmallTypes.ownedTupleHandOut
 have z6:IsZip (g5.push { cls:=.type "tuple",data:=.seq #[x,y] }) z TI TO .ellipsis:=AB _ z5
 rA AA (EE z6 (by simp) fun g7 z7 s7=>?_)
 have z7:IsZip g7 z TI TO (rawInt g5.objs.size):=z7
 rA EE z7 (by simp) fun g8 z8 s8=>?_
 have z8:IsZip g8 z TI TO (rawInt g5.objs.size):=z8
 have up:∀c o,c≠z→g5.get? c=some o→g8.get? c=some o:=fun c o n1 e=>s8.extBut _ _ n1 (s7.extBut _ _ n1 (AB _ e))
 have t8:IsPair g8 g5.objs.size x y:=s8.extBut _ _ (CP zlt) (s7.extBut _ _ (CP zlt) (AG _ rfl))
 rw [sz] at z8 t8
 rA AC ⟨_,rfl,?_⟩
 show wpAny _ _ (pure (some (Value.ref g5.objs.size))) _ _ _
 rw [sz]
 eC AC (q g8 z8 (up _ _ D.TOz o5) (a5.mv fun o e=>up _ o D.i1z e) (b5.mv fun o e=>up _ o D.i2z e) t8 fun c o n1 n2 n3 n4 e=>up c o n1 (kp c o n1 n2 n3 n4 e))
theorem Ad4 {k1 k2:Bool}{z TI TO i1 i2 l1 l2:Addr}{n:Nat}{xs ys:Array Value}{Q:Option Value→Shared→Prop}(hh:A.handled=none)(D:ZipApart z TI TO i1 i2 l1 l2)(Z:ZAt k1 k2 z TI TO i1 i2 l1 l2 n s.heap)
  (hl1:Qx k1 s.heap l1 xs) (hl2:Qx k2 s.heap l2 ys) (hend:xs[n]? =none∨ys[n]? =none)
  (q:∀g,(∀c o,c≠z→c≠TO→c≠i1→c≠i2→s.heap.get? c=some o→g.get? c=some o)→Q none { s with heap:=g }):wpAny (model prog w) A (pyNext (.ref z)) Q E s:=by
 obtain ⟨Zz,Zi,⟨a,b,Zo⟩,Za,Zb⟩:=Z
 have hT:s.TypeIs (.ref z) "zip":=⟨_,Zz,rfl⟩
 unfold pyNext;rA AA (wpAny_attempt (CC (name:=Str.ofString "__next__") hT HG (wpAny_call_entry HG hT F.entry_zip_next ?_ (F.args_zip_next_1 _))))
 show wpAny _ _ (field (Value.ref z) 2 >>= _) _ _ _
 rA AA (CQ Zz rfl (x:=.bool false) rfl ?_)
 show wpAny _ _ (field (Value.ref z) 3 >>= _) _ _ _
 rA AA (CQ Zz rfl (x:=.ref TI) rfl ?_)
 rA AA (CU Zi rfl ?_)
 show wpAny _ _ (Builtin.SmallTypes.ownedTupleIsFree (Value.ref z) >>= _) _ _ _
 rA AA ?_;unfold Builtin.SmallTypes.ownedTupleIsFree
 rA AA (CQ Zz rfl (x:=.none) rfl (AC ?_));simp only [FO];rA AA (GK ?_)
 rA AA (CQ Zz rfl (x:=.ref TO) rfl ?_)
 rA AA (EE Zz (by simp) fun g1 z1 s1=>?_)
 have z1:IsZip g1 z TI TO .ellipsis:=z1
 rA AA ?_;simp only [List.zipIdx_cons,List.zipIdx_nil,List.forIn_cons,List.forIn_nil]
 rA AA (AA (wpAny_onRaise ?_));show wpAny _ _ (Builtin.SmallTypes.nextOf (Value.ref i1) >>= _) _ _ _
 cases hx:xs[n]? with
 |none=>
  rA AA (Ry hh (Za.mv fun o e=>s1.extBut _ _ D.i1z e) (hl1.mv fun o e=>s1.extBut _ _ D.l1z e) hx fun g2 e s2 ⟨oe,he,ce⟩=>?_)
  have z2:IsZip g2 z TI TO .ellipsis:=s2 _ _ D.i1z.symm z1
  have ne:e≠z:=fun x=>by subst x;rw [z2] at he;cases he;simp at ce
  rA EE z2 (by simp) fun g3 _ s3=>?_
  eC AA (ES (T:="StopIteration") (b:=true) ⟨oe,s3.extBut _ _ ne he,ce⟩ isSubtype_stop (AC (q g3 fun c o n1 _ n3 _ x=>s3.extBut _ _ n1 (s2 _ _ n3 (s1.extBut _ _ n1 x)))))
 |some x=>
  have hy:ys[n]? =none:=by rcases hend with h|h;rw [hx] at h;cases h;eC h
  rA AA (J8 (Za.mv fun o e=>s1.extBut _ _ D.i1z e) (hl1.mv fun o e=>s1.extBut _ _ D.l1z e) hx fun g2 a2 s2=>AC ?_)
  have o2:IsPair g2 TO a b:=s2.extBut _ _ D.TOi1 (s1.extBut _ _ D.TOz Zo)
  rA AA (CU o2 rfl ?_)
  rA AA (wpAny_updateSeq_pair o2 fun g3 o3 s3=>?_)
  rA AA (wpAny_letGo (AC ?_))
  rA AA (AA (wpAny_onRaise ?_));show wpAny _ _ (Builtin.SmallTypes.nextOf (Value.ref i2) >>= _) _ _ _
  rA AA (Ry hh (Zb.mv fun o e=>s3.extBut _ _ D.TOi2.symm (s2.extBut _ _ D.i12.symm (s1.extBut _ _ D.i2z e))) (hl2.mv fun o e=>s3.extBut _ _ D.l2TO (s2.extBut _ _ D.l2i1 (s1.extBut _ _ D.l2z e))) hy fun g4 e s4 ⟨oe,he,ce⟩=>?_)
  have z4:IsZip g4 z TI TO .ellipsis:=s4 _ _ D.i2z.symm (s3.extBut _ _ D.TOz.symm (s2.extBut _ _ D.i1z.symm z1))
  have ne:e≠z:=fun x=>by subst x;rw [z4] at he;cases he;simp at ce
  rA EE z4 (by simp) fun g5 _ s5=>?_
  eC AA (ES (T:="StopIteration") (b:=true) ⟨oe,s5.extBut _ _ ne he,ce⟩ isSubtype_stop (AC (q g5 fun c o n1 n2 n3 n4 x=>s5.extBut _ _ n1 (s4 _ _ n4 (s3.extBut _ _ n2 (s2.extBut _ _ n3 (s1.extBut _ _ n1 x)))))))
def itO (kd:Bool)(l:Addr):Obj:=match kd with
 |true=>{ cls:=.type "list_iterator",data:=.fields #[.ref l,.int 0 0] }
 |false=>{ cls:=.type "tuple_iterator",data:=.fields #[.ref l,.int 0 0] }
theorem Ajy {kd:Bool}{l:Addr}{xs:Array Value}{Q:Value→Shared→Prop}(h:Qx kd s.heap l xs)(q:Q (.ref s.heap.objs.size) { s with heap:=s.heap.push (itO kd l) }):wpAny (model prog w) A (pyIter (.ref l)) Q E s:=by
 cases kd with
 |true=>eC GU h q
 |false=>eC wpAny_pyIter_tuple h q
theorem Aeb {kd:Bool}{h:Heap}{i l:Addr}(e:h.get? i=some (itO kd l)):Wi kd h i l 0:=by
 cases kd with
 |true=>eC ⟨_,e,rfl,rfl⟩
 |false=>eC ⟨_,e,rfl,rfl⟩
end
abbrev zK1 (k1:Bool)(h:Heap)(l1:Addr):Heap:=h.push (itO k1 l1)
abbrev zK2 (k1 k2:Bool)(h:Heap)(l1 l2:Addr):Heap:=(zK1 k1 h l1).push (itO k2 l2)
abbrev zK3 (k1 k2:Bool)(h:Heap)(l1 l2:Addr):Heap:=(zK2 k1 k2 h l1 l2).push { cls:=.type "tuple",data:=.seq #[.ref h.objs.size,.ref (zK1 k1 h l1).objs.size] }
abbrev zK4 (k1 k2:Bool)(h:Heap)(l1 l2:Addr):Heap:=(zK3 k1 k2 h l1 l2).push { cls:=.type "tuple",data:=.seq #[.none,.none] }
abbrev zK5 (k1 k2:Bool)(h:Heap)(l1 l2:Addr):Heap:=(zK4 k1 k2 h l1 l2).push { cls:=.type "zip",data:=.fields #[.none,.bool false,.bool false,.ref (zK2 k1 k2 h l1 l2).objs.size,.ref (zK3 k1 k2 h l1 l2).objs.size] }
theorem Ag2 (k1 k2:Bool)(l1 l2:Addr)(xs ys:Array Value) :
  Meets (Builtin.«zip.__new__» ⟨[.type "zip",.ref l1,.ref l2],[]⟩) (fun _ R s=>Qx k1 s.heap l1 xs∧Qx k2 s.heap l2 ys∧R (.ok (.ret (.ref (zK4 k1 k2 s.heap l1 l2).objs.size))) { s with heap:=zK5 k1 k2 s.heap l1 l2 }):=
 .of_wp fun prog w A R s h=>by
  obtain ⟨hp,g,d,tk,os⟩:=s;obtain ⟨a1,a2,h⟩:=h
  have hsub:=sub_zip
  have b1:Qx k1 (Shared.heap ⟨hp,g,d,tk,os⟩) l1 xs:=a1
  have b2:Qx k2 (Shared.heap ⟨hp.push (itO k1 l1),g,d,tk,os⟩) l2 ys:=a2.mv fun o e=>AB _ e
  wp_walk using Ajy b1,Ajy b2
  eC ⟨_,rfl,h⟩
section
variable {prog:Program}{w:World}{A:Around}{E:Value→Shared→Prop}{s:Shared}
theorem Acv {k1 k2:Bool}{l1 l2:Addr}{xs ys:Array Value}{Q:Value→Shared→Prop}(h1:Qx k1 s.heap l1 xs)(h2:Qx k2 s.heap l2 ys)
  (q:∀g,ZAt k1 k2 (s.heap.objs.size+4) (s.heap.objs.size+2) (s.heap.objs.size+3) s.heap.objs.size (s.heap.objs.size+1) l1 l2 0 g→(∀c o,s.heap.get? c=some o→g.get? c=some o)→Q (.ref (s.heap.objs.size+4)) { s with heap:=g }) :
  wpAny (model prog w) A (call (.type "zip") [.ref l1,.ref l2]) Q E s:=by
 rA callType_new F.called_zip #d (F.typeCall_zip_2 _ _) (F.newCall_zip_2 _ _) (fun obj=>F.args_object_init_3 obj _ _) F.entry_zip_new (Ag2 k1 k2 l1 l2 xs ys) ⟨h1,h2,?_⟩
 have m1:(zK1 k1 s.heap l1).objs.size=s.heap.objs.size+1:=BW ..
 have m2:(zK2 k1 k2 s.heap l1 l2).objs.size=s.heap.objs.size+2:=by rw [BW,m1]
 have m3:(zK3 k1 k2 s.heap l1 l2).objs.size=s.heap.objs.size+3:=by rw [BW,m2]
 have m4:(zK4 k1 k2 s.heap l1 l2).objs.size=s.heap.objs.size+4:=by rw [BW,m3]
 have fz:∀l,(itO k1 l).isFreed=false:=fun l=>by cases k1<;>rfl
 have fz2:∀l,(itO k2 l).isFreed=false:=fun l=>by cases k2<;>rfl
 have g5:(zK5 k1 k2 s.heap l1 l2).get? (zK4 k1 k2 s.heap l1 l2).objs.size=some _:=AG _ rfl
 have g4:(zK5 k1 k2 s.heap l1 l2).get? (zK3 k1 k2 s.heap l1 l2).objs.size=some _:=AB _ (AG _ rfl)
 have g3:(zK5 k1 k2 s.heap l1 l2).get? (zK2 k1 k2 s.heap l1 l2).objs.size=some _:=AB _ (AB _ (AG _ rfl))
 have g2:(zK5 k1 k2 s.heap l1 l2).get? (zK1 k1 s.heap l1).objs.size=some (itO k2 l2):=AB _ (AB _ (AB _ (AG _ (fz2 _))))
 have g1:(zK5 k1 k2 s.heap l1 l2).get? s.heap.objs.size=some (itO k1 l1):=AB _ (AB _ (AB _ (AB _ (AG _ (fz _)))))
 show _∧_
 rw [m2,m3,m4] at g5
 rw [m1,m2] at g3
 rw [m3] at g4
 rw [m1] at g2
 rw [m4]
 eC ⟨⟨_,g5,rfl⟩,q _ ⟨g5,g3,⟨_,_,g4⟩,Aeb g1,Aeb g2⟩ fun c o x=>AB _ (AB _ (AB _ (AB _ (AB _ x))))⟩
end
section
variable {X:Cx}
theorem M3 {pins:List (Addr×Obj)}{σ:L2.St}{H:Hp}{s:Shared}{h':Heap}{t':Nat}{fp:List Addr}(I:Ar X pins σ H s)(k:∀b o,b∉fp→s.heap.get? b=some o→h'.get? b=some o)(hf:∀b∈fp,Ma X pins H b) :
  Ar X pins σ H { s with heap:=h',toks:=t' }:=by
 have nit:∀b u,H b=some u→b∉fp:=fun b u e z=>by rw [(hf b z).1] at e;cases e
 rA I.step (g':=s.gens) (d':=s.drawn) (ch:=fp) (fun b hb=>?_) (fun b o _ _ hc e _=>k b o hc e) (fun b o _ _ hc e _=>⟨o.slots,k b o hc e⟩) (fun _ _ _ _ n=>n) (fun b o hc e=>⟨o,k b o hc e⟩) (fun _ _ e=>e) (fun _ _ _ e=>e)
  (fun b ps e=>⟨#[],by rw [e];simp⟩) (fun m hm=>?_) (fun b u e=>?_) I.bare
 ·obtain ⟨_,f1,f2,f3,f4,f5⟩:=hf b hb
  eC ⟨f3,f1,f4,f5⟩
 ·obtain ⟨o,es,ep,ho,r⟩:=hm
  eC ⟨o,es,ep,k _ o (fun z=>(hf _ z).2.1 rfl) ho,r⟩
 ·rA (I.hok b u e).stay (fun c v hc q=>k c v ?_ q) (fun _ q=>q) fun _ _ q=>q
  rcases hc with z|z
  ·rw [z];eC nit b u e
  ·eC nit c _ z
theorem Y8 {pins:List (Addr×Obj)}{σ:L2.St}{H:Hp}{s:Shared}{h':Heap}{t':Nat}{fp:List Addr}{a:Addr}{o:HO}(I:Ar X pins σ H s)(k:∀b o,b∉fp→s.heap.get? b=some o→h'.get? b=some o)(hf:∀b∈fp,Ma X pins H b)
  (hp:s.heap.objs.size≤a) (new:Bg X.prog X.w (upd H a o) h' a o):Ar X pins σ (upd H a o) { s with heap:=h',toks:=t' }:=by
 have hn:=I.hok.fresh hp
 have nit:∀b u,H b=some u→b∉fp:=fun b u e z=>by rw [(hf b z).1] at e;cases e
 have old:∀b u,H b=some u→upd H a o b=some u:=fun b u e=>by rw [Ao (Bs e hn)];eC e
 rA I.step (g':=s.gens) (d':=s.drawn) (ch:=fp) (fun b hb=>?_) (fun b o _ _ hc e _=>k b o hc e) (fun b o _ _ hc e _=>⟨o.slots,k b o hc e⟩) (fun b u _ e n=>?_) (fun b o hc e=>⟨o,k b o hc e⟩) (fun b xs e=>old b _ e) (fun b ob u e=>old b _ e)
  (fun b ps e=>⟨#[],by rw [old b _ e];simp⟩) (fun m hm=>?_) (fun b u e=>?_) I.bare
 ·obtain ⟨_,f1,f2,f3,f4,f5⟩:=hf b hb
  eC ⟨f3,f1,f4,f5⟩
 ·rw [Ao (AS (AL (AH e) hp))]
  eC n
 ·obtain ⟨o,es,ep,ho,r⟩:=hm
  eC ⟨o,es,ep,k _ o (fun z=>(hf _ z).2.1 rfl) ho,r⟩
 ·by_cases hb:b=a
  ·subst hb;rw [Ag] at e;cases e;eC new
  ·rw [Ao hb] at e
   rA (I.hok b u e).stay (fun c v hc q=>k c v ?_ q) (fun c q=>old c _ q) fun c xs q=>old c _ q
   rcases hc with z|z
   ·rw [z];eC nit b u e
   ·eC nit c _ z
theorem Nr {kd:Bool}{pins:List (Addr×Obj)}{σ:L2.St}{H:Hp}{s:Shared}{a:Addr}{xs:List V}(I:Ar X pins σ H s)(h:X5 kd X.K H a xs):∃its:List Value,A7 xs its∧Qx kd s.heap a its.toArray:=by
 cases kd with
 |true=>obtain ⟨its,r,p,_⟩:=I.list h;eC ⟨its,r,p.isList⟩
 |false=>obtain ⟨its,r,p,_⟩:=I.tuple h;eC ⟨its,r,p⟩
theorem Aeq {kd:Bool}{pins:List (Addr×Obj)}{σ:L2.St}{H:Hp}{s:Shared}{a:Addr}{xs ys:List V}(I:Ar X pins σ H s)(h:X5 kd X.K H a xs)(h':X5 kd X.K H a ys):xs=ys:=by
 cases kd with
 |true=>eC I.list_inj h h'
 |false=>eC I.tuple_inj h h'
def Itz (k1 k2:Bool)(K:KKf)(a b:Addr):It:=
 ⟨fun i H=>∃xs ys x y,X5 k1 K H a xs∧X5 k2 K H b ys∧xs[i]? =some x∧ys[i]? =some y,
  fun i H v H'=>∃t x y,v=.ref t∧H t=none∧H'=upd H t (.tup [x,y])∧(∀xs,X5 k1 K H a xs→xs[i]? =some x)∧∀ys,X5 k2 K H b ys→ys[i]? =some y,
  fun i H=>∃xs ys,X5 k1 K H a xs∧X5 k2 K H b ys∧(xs.length≤i∨ys.length≤i)⟩
theorem Adf {n l1 l2:Nat}(h1:l1<n)(h2:l2<n):ZipApart (n+4) (n+2) (n+3) n (n+1) l1 l2:=by
 constructor<;>(show @Ne Nat _ _)<;>omega
theorem Agd {P:Program}{w:World}{K:KKf}{es:List Expr}{x1}{pos:Pos}{k1 k2:Bool}{z TI TO i1 i2 a b:Addr}(D:ZipApart z TI TO i1 i2 a b) :
  Vz P w K (.Tuple es x1 pos) (Itz k1 k2 K a b) [z,TI,TO,i1,i2] z (ZAt k1 k2 z TI TO i1 i2 a b) where
 mem:=by simp
 obj:=fun i h Z c hc=>by
  have hc:c=z∨c=TI∨c=TO∨c=i1∨c=i2:=by simpa using hc
  rcases hc with rfl|rfl|rfl|rfl|rfl
  ·eC ⟨_,Z.z,fun v e=>by cases e⟩
  ·eC ⟨_,Z.ti,fun v e=>by cases e⟩
  ·obtain ⟨u,v,e⟩:=Z.to
   eC ⟨_,e,fun v e=>by cases e⟩
  ·eC Z.a.ob
  ·eC Z.b.ob
 keep:=fun i h h' Z k=>by
  obtain ⟨u,v,e⟩:=Z.to
  eC ⟨k z (by simp) _ Z.z,k TI (by simp) _ Z.ti,⟨u,v,k TO (by simp) _ e⟩,Z.a.mv fun o q=>k i1 (by simp) o q,Z.b.mv fun o q=>k i2 (by simp) o q⟩
 item:=by
  intro X hP hw hK hc i pins s σ H E I hf Z hg
  subst hP hw hK
  obtain ⟨xs,ys,x,y,q1,q2,e1,e2⟩:=hg
  obtain ⟨us,r1,p1⟩:=Nr I q1
  obtain ⟨vs,r2,p2⟩:=Nr I q2
  obtain ⟨u,hu,ru⟩:=r1.get e1
  obtain ⟨v,hv,rv⟩:=r2.get e2
  have F:=fun c (m:c∈[z,TI,TO,i1,i2])=>hf c m
  have hfr:H s.heap.objs.size=none:=I.hok.fresh (AF _)
  rA Adi D Z p1 p2 (x:=u) (y:=v) (by simpa using hu) (by simpa using hv) fun g a1 a2 a3 a4 a5 kp=>⟨_,rfl,?_⟩
  have zlt:z<s.heap.objs.size:=AH Z.z
  have tlt:TO<s.heap.objs.size:=by obtain ⟨_,_,e⟩:=Z.to;eC AH e
  have ilt:i1<s.heap.objs.size:=by obtain ⟨_,e,_⟩:=Z.a.ob;eC AH e
  have jlt:i2<s.heap.objs.size:=by obtain ⟨_,e,_⟩:=Z.b.ob;eC AH e
  rA wpAny_letOwnedTupleGo_zip (s:={ s with heap:=g }) a1 fun g' z' s'=>?_
  have kp':∀c o,c≠z→c≠TO→c≠i1→c≠i2→s.heap.get? c=some o→g'.get? c=some o:=fun c o n1 n2 n3 n4 e=>s'.extBut _ _ n1 (kp c o n1 n2 n3 n4 e)
  have a5':IsPair g' s.heap.objs.size u v:=s'.extBut _ _ (CP zlt) a5
  have I1:Ar X pins σ (upd H s.heap.objs.size (.tup [x,y])) { s with heap:=g' }:=by
   rA Y8 I (fp:=[z,TO,i1,i2]) (fun c o hc e=>kp' c o (fun x=>hc (by simp [x])) (fun x=>hc (by simp [x])) (fun x=>hc (by simp [x])) (fun x=>hc (by simp [x])) e) ?_ (AF _) ?_
   ·intro c hc
    eC hf c (by simp at hc ⊢;rcases hc with h|h|h|h<;>simp [h])
   ·eC ⟨by show 2≤sizeLine;decide,[u,v],.cons ru (.cons rv .nil),⟨_,a5',rfl,_,rfl⟩⟩
  rA ⟨.ref s.heap.objs.size,_,I1,rfl,⟨_,x,y,rfl,hfr,rfl,fun zs hz=>by rw [Aeq I hz q1];eC e1,fun zs hz=>by rw [Aeq I hz q2];eC e2⟩,?_,?_⟩
  ·eC ⟨z',kp' _ _ D.TIz D.TITO D.TIi1 D.TIi2 Z.ti,⟨_,_,s'.extBut _ _ D.TOz a2⟩,a3.mv fun o e=>s'.extBut _ _ D.i1z e,a4.mv fun o e=>s'.extBut _ _ D.i2z e⟩
  ·intro c hc
   have hlt:c<s.heap.objs.size:=by
    have hc:c=z∨c=TI∨c=TO∨c=i1∨c=i2:=by simpa using hc
    rcases hc with rfl|rfl|rfl|rfl|rfl
    ·eC zlt
    ·eC AH Z.ti
    ·eC tlt
    ·eC ilt
    ·eC jlt
   rw [Ao (AS hlt)]
   eC (hf c hc).1
 done:=by
  intro X hP hw hK hc i pins s σ H E I hf Z hg
  subst hP hw hK
  obtain ⟨xs,ys,q1,q2,e⟩:=hg
  obtain ⟨us,r1,p1⟩:=Nr I q1
  obtain ⟨vs,r2,p2⟩:=Nr I q2
  have l1:=r1.length
  have l2:=r2.length
  have he:us.toArray[i]? =none∨vs.toArray[i]? =none:=by
   rcases e with e|e
   ·left
    simp
    omega
   ·right
    simp
    omega
  rA Ad4 (I.ok.hd hc) D Z p1 p2 he fun g kp=>⟨rfl,?_⟩
  rA M3 I (fp:=[z,TO,i1,i2]) (fun c o hc e=>kp c o (fun x=>hc (by simp [x])) (fun x=>hc (by simp [x])) (fun x=>hc (by simp [x])) (fun x=>hc (by simp [x])) e) ?_
  intro c hc
  eC hf c (by simp at hc ⊢;rcases hc with h|h|h|h<;>simp [h])
 self:=fun _ _ _ _ _ Z h=>wpAny_pyIter_zip Z.z h
def Are (k1 k2:Bool)(K:KKf)(ta:TA):TI:=fun σ H R=>ta σ H fun vs H1=>match vs with
 |[.ref a,.ref b]=>(∃xs,X5 k1 K H1 a xs)∧(∃ys,X5 k2 K H1 b ys)∧R (Itz k1 k2 K a b) H1
 |_=>False
theorem Afn (k1 k2:Bool){a b:Expr}{ta:TA}{p pos:Pos}{es:List Expr}{x1}{tp:Pos}(hg:Gl X "zip")(hm:X.mg "zip"=none)(ha:PA X [a,b] ta)(hs:starEach [a,b] X.env=[(false,eval a X.env),(false,eval b X.env)]:=by rfl)
  (hs2:starEach [b] X.env=[(false,eval b X.env)]:=by rfl):PI X (.Tuple es x1 tp) (.Call (.Name "zip" p) [a,b] [] pos) (Are k1 k2 X.K ta):=by
 intro pins s σ H R I h
 rA Call_ (E7 I hg hm boot_zip (BX (Bi (ha pos pins s σ H _ I h) fun us s1 ⟨vs,H1,I1,r1,q1⟩=>?_) (by rw [hs,hs2]) (by rw [hs2];rfl)))
 match vs,q1 with
 | [.ref l1,.ref l2],⟨⟨xs,hx⟩,⟨ys,hy⟩,q⟩=>
  obtain ⟨u,v,rfl,e1,e2⟩:=Iz r1
  cases (show u=Value.ref l1 from e1)
  cases (show v=Value.ref l2 from e2)
  obtain ⟨us',_,p1⟩:=Nr I1 hx
  obtain ⟨vs',_,p2⟩:=Nr I1 hy
  have lt1:=p1.lt
  have lt2:=p2.lt
  rA Acv p1 p2 fun g Z kp=>wpAny_pyIter_zip (s:={ s1 with heap:=g }) Z.z ?_
  have I2:Ar X pins σ H1 { s1 with heap:=g }:=I1.kept (t':=s1.toks) kp
  rA ⟨_,[s1.heap.objs.size+4,s1.heap.objs.size+2,s1.heap.objs.size+3,s1.heap.objs.size,s1.heap.objs.size+1],_,_,H1,rfl,I2,Agd (Adf lt1 lt2),Z,fun c hc=>?_,q⟩
  have hc:@LE.le Nat _ s1.heap.objs.size c:=by
   have hc:c=s1.heap.objs.size+4∨c=s1.heap.objs.size+2∨c=s1.heap.objs.size+3∨c=s1.heap.objs.size∨c=s1.heap.objs.size+1:=by simpa using hc
   rcases hc with h|h|h|h|h<;>rw [h]<;>first|eC AF _|eC HA _ _
  eC I1.fpOk hc (I1.hok.fresh hc)
end
section
variable {X:Cx}
def Aqf:R2:=fun x y H Q=>match x,y with
 |.ref l,.ref b=>∃xs zs,H l=some (.lst xs)∧H b=some (.lst zs)∧xs.length+zs.length≤1000∧∀p H',Ah H H'→H' p=some (.lst (xs++zs))→Q (.ref p) H'
 |_,_=>False
theorem Km:Dy X (binaryOp .Add) Aqf:=by
 intro pins s σ H x y v u Q I rx ry q
 cases x<;>cases y<;>first
  |eC False.elim q
  | (obtain ⟨xs,zs,h1,h2,h3,q⟩:=q
     eC Amw _ _ _ _ _ _ _ _ _ I rx ry ⟨_,_,xs,zs,rfl,rfl,h1,h2,AO h3 #d,fun p hp=>q p _ (Ap hp) Ag⟩)
def Ark (K:KKf):V→Option Int→Option Int→Hp→VK→Prop:=fun x lo hi H Q=>match x with
 |.ref a=>∃xs,A3 K H a xs∧∀p H',Ah H H'→H' p=some (.lst (Ms xs lo hi))→Q (.ref p) H'
 |_=>False
theorem Aej:SlR X (Ark X.K):=by
 intro pins s σ H x v vl vu lo hi sl Q I rx hs pl pu h
 cases x<;>first
  |eC False.elim h
  | (obtain ⟨xs,h1,q⟩:=h
     eC Ai3 _ _ _ _ _ _ _ _ _ _ _ _ I rx hs pl pu ⟨_,xs,rfl,h1,fun p hp=>q p _ (Ap hp) Ag⟩)
end
end Lw
end
section
namespace Lw
open PySem PySem.Spec PyProof.Rows L2
section
variable {prog:Program}{w:World}{A:Around}{R:Result→Shared→Prop}{s:Shared}
theorem Ail (elt tg iter:Expr)(scope:Scope)(pos:Pos)(it acc:Value)(env:Env) :
  compTurn (.ListComp elt [⟨tg,iter,[],0⟩] scope pos) 0 it acc env=(standAt iter.pos >>= fun _=>pyNext it >>= fun r=>match r with
   |none=>pure (.done .next)
   |some v=>letOwnedTupleGo tg it v >>= fun _=>assign tg env v >>= fun _=>(eval elt env >>= fun x=>call (.builtin "list.append") [acc,x] >>= fun _=>pure ()) >>= fun _=>again (.compLoop (.ListComp elt [⟨tg,iter,[],0⟩] scope pos) 0 it acc env)):=rfl
theorem Ac5 {elt tg iter:Expr}{scope:Scope}{pos:Pos}{it acc:Value}{env:Env}(I:Nat→Shared→Prop)
  (turn:∀n s,I n s→wpAny (model prog w) A (pyNext it) (fun r s1=>(r=none∧R (.ok .next) s1)∨∃v,r=some v∧wpAny (model prog w) A (letOwnedTupleGo tg it v) (fun _ s2=>wpAny (model prog w) A (assign tg env v) (fun _ s3=>
   wpAny (model prog w) A (eval elt env) (fun x s4=>wpAny (model prog w) A (call (.builtin "list.append") [acc,x]) (fun _ s5=>∃m,m<n∧I m s5) (fun _ _=>False) s4) (fun _ _=>False) s3) (fun _ _=>False) s2) (fun _ _=>False) s1) (fun _ _=>False) s)
  (n:Nat) (h:I n s):codeAny (model prog w) A (.compLoop (.ListComp elt [⟨tg,iter,[],0⟩] scope pos) 0 it acc env) R s:=by
 rA codeAny_loop rfl I (fun n s hI=>?_) n h
 show wpAny _ _ ((compTurn (.ListComp elt [⟨tg,iter,[],0⟩] scope pos) 0 it acc env).onRaise (fun x=>do noteFrame x env;theTreesLotGoes x)) _ _ s
 rA wpAny_noted ?_
 rw [Ail]
 rA AA (wpAny_standAt (AA (BP (turn n s hI) (fun r s1 h1=>?_) fun _ _ z=>z.elim)))
 rcases h1 with ⟨rfl,h1⟩|⟨v,rfl,h1⟩
 ·eC AC h1
 ·rA AA (BP h1 (fun _ s2 h2=>?_) fun _ _ z=>z.elim)
  rA AA (BP h2 (fun _ s3 h3=>?_) fun _ _ z=>z.elim)
  rA AA (AA (BP h3 (fun x s4 h4=>?_) fun _ _ z=>z.elim))
  rA AA (BP h4 (fun _ s5 h5=>?_) fun _ _ z=>z.elim)
  eC AC (AC ⟨rfl,h5⟩)
end
abbrev Jr (X:Cx)(N:List Str)(s₀:Shared)(H₀:Hp)(env:Env)(fp:List Addr):Cx:=
 { X with N:=N,s₀:=s₀,H₀:=H₀,env:=env,outer:=X.stack,ex:=fp,fn:=fun _=>false,pn:=[],xe:=fun _ _=>False }
structure Cap (X:Cx)(sc:Scope)(cl:List (Str×Addr))(j:Nat)(y:Str):Prop where
 nm:X.N[j]? =some y
 ko:X.env.kindOf y=some .cell
 ki:sc.names.lookup y=some .cell
 cl:cl.lookup y=X.env.cells.lookup y
def capσ (js:List Nat)(σ:L2.St):L2.St:=js.map fun j=>(σ[j]?).join
@[irreducible] def Hq (J:It) (g:TG) (te:TE) (k:Nat) (js:List Nat) (σ:L2.St) (H1:Hp) (Q:VK):Prop:=∀D,H1 D=none→∃W:Nat→Nat→Hp→Prop,(∃m,W 0 m (upd H1 D (.lst [])))∧∀i m H,W i m H →
 (J.stop i H∧Q (.ref D) H)∨(J.go i H∧∀x H',J.yld i H x H'→g x (List.replicate k none++capσ js σ) H' fun σ2 H2=>σ2.drop k=capσ js σ∧te σ2 H2 fun v H3=>∃xs,H3 D=some (.lst xs)∧xs.length<sizeLine∧∃m',m'<m∧W (i+1) m' (upd H3 D (.lst (xs++[v]))))
def Aee (wi:TI)(g:TG)(te:TE)(k:Nat)(js:List Nat):TE:=fun σ H Q=>wi σ H fun J H1=>Hq J g te k js σ H1 Q
section
variable {X:Cx}
theorem Aau {pins:List (Addr×Obj)}{σ:L2.St}{H:Hp}{s:Shared}{N:List Str}{scope:Scope}{cl:List (Str×Addr)}{C:Addr}{fp:List Addr}(I:Ar X pins σ H s)(hk:scope.kind=.function)(hC:s.heap.objs.size≤C)
  (hcl:∀y c,cl.lookup y=some c→X.env.cells.lookup y=some c) (hhas:∀y,((relabel scope X.env).names.lookup y=some .cell∨(relabel scope X.env).names.lookup y=some .free)→∃c,cl.lookup y=some c)
  (hf:∀b∈fp,Ma X pins H b∧b<s.heap.objs.size):(Jr X N s H (compEnvC scope cl C X.env) fp).Ok where
 mod:=I.ok.mod
 kind:=hk
 glob:=I.ok.glob
 blt:=I.ok.blt
 above:=hC
 inj:=fun x y c e1 e2=>I.ok.inj x y c (hcl x c e1) (hcl y c e2)
 has:=fun x h=>hhas x h
 cab:=fun x c z=>absurd z (by simp)
 hd:=I.ok.hd
 frames:=I.ok.frames
 stk:=.inl rfl
 exf:=fun b hb=>⟨AS (AL (hf b hb).2 hC),fun x c e=>(hf b hb).1.2.2.2.2.1 x c (hcl x c e)⟩
 bs:=I.bs
 bsz:=AO I.ok.bsz I.sz
 noex:=fun b o e hb=>by
  rcases (hf b hb).1.2.2.2.1 with z|z
  ·eC I.ok.noex b o e z
  ·eC absurd (AL (AH (I.ok.bs b o e).1) z) (DL _)
 exfs:=fun b hb hm=>by
  rcases AU.mp (I.stkSub b hm) with z|z
  ·eC (hf b hb).1.2.1 z
  ·eC (hf b hb).1.2.2.1 z
 funs:=I.stack
 frf:=I.stkFree
theorem Ac6 {elt iter tg:Expr}{scope:Scope}{pos:Pos}{wi:TI}{te:TE}{g:TG}{N:List Str}{cl:List (Str×Addr)}(k:Nat)(js:List Nat)(hi:PI X tg iter wi)
  (hg:∀C s H fp,PG (Jr X N s H (compEnvC scope cl C X.env) fp) tg g) (he:∀C s H fp,PE (Jr X N s H (compEnvC scope cl C X.env) fp) elt te) (hcalm:X.calm=true)
  (hclos:closureFor scope X.env=pure cl) (hkind:scope.kind=.function) (hcell:∀y∈scope.names,y.2≠.cell) (hnames:∀y∈scope.names,y.2=.local→scope.names.lookup y.1=some .local)
  (hcl:∀y c,cl.lookup y=some c→X.env.cells.lookup y=some c) (hhas:∀y,((relabel scope X.env).names.lookup y=some .cell∨(relabel scope X.env).names.lookup y=some .free)→∃c,cl.lookup y=some c)
  (hlen:N.length=k+js.length) (hcap:∀i j,js[i]? =some j→∃y,N[k+i]? =some y∧Cap X (relabel scope X.env) cl j y)
  (hs:∀x,foldedSetIterable iter X.env x=pure x) {pins:List (Addr×Obj)} {s:Shared} {σ:L2.St} {H:Hp} {Q:VK} (I:Ar X pins σ H s) (h:Aee wi g te k js σ H Q) {cpos:Pos} {use:Option (Value→Sem Unit)} {Qv:Value→Shared→Prop}
  (fin:∀(s6:Shared) (H5:Hp) (D C:Addr) (m:Str→Option Value),Ar X pins σ H5 s6→s6.heap.Ns C m→H5 C=none→X.s₀.heap.objs.size≤C→C≠X.env.locals→(∀x c,X.env.cells.lookup x=some c→c≠C)→(∀p∈X.pn++pins,p.1≠C)→Q (.ref D) H5 →
   compPost (model X.prog X.w) X.A X.xe use Qv (.ref D) C (.ok .next) s6) :
  wpAny (model X.prog X.w) X.A (comprehension (.ListComp elt [⟨tg,iter,[],0⟩] scope pos) scope X.env cpos (newList []) false (eval iter X.env) use) Qv X.xe s:=by
 rA wpAny_comprehension_free (use:=use) rfl hs hclos hkind hnames (Bi (hi pins s σ H _ I h) fun v s1 h1=>Bi h1 fun itv s2 h2=>?_)
 obtain ⟨it,fp,tn,J,H2,rfl,I2,T,st2,f2,h2⟩:=h2
 rA BS ?_
 have hD:H2 s2.heap.objs.size=none:=I2.hok.fresh (AF _)
 unfold Hq at h2
 obtain ⟨W,⟨m0,w0⟩,turn⟩:=h2 _ hD
 have I3:Ar X pins σ (upd H2 s2.heap.objs.size (.lst [])) { s2 with heap:=s2.heap.push { cls:=.type "list",dict:=none,data:=.seq ([]:List Value).toArray } } :=
  I2.laid (t':=s2.toks) (fun b u e=>AB _ e) (AF _) ⟨AV _,[],0,.nil,AG _ rfl⟩
 have hlt:∀b∈fp,b<s2.heap.objs.size:=fun b hb=>by
  obtain ⟨o,e,_⟩:=T.obj _ _ st2 b hb
  eC AH e
 have f3:∀b∈fp,Ma X pins (upd H2 s2.heap.objs.size (.lst [])) b:=fun b hb=>⟨by rw [Ao (AS (hlt b hb))];eC (f2 b hb).1,(f2 b hb).2⟩
 have st3:tn 0 (s2.heap.push { cls:=.type "list",dict:=none,data:=.seq ([]:List Value).toArray }):=T.keep _ _ _ st2 fun b hb o e=>AB _ e
 have hlt3:∀b∈fp,b<(s2.heap.push { cls:=.type "list",dict:=none,data:=.seq ([]:List Value).toArray }).objs.size:=fun b hb=>AL (hlt b hb) (by rw [BW];eC CT _)
 generalize hs3:({ s2 with heap:=s2.heap.push { cls:=.type "list",dict:=none,data:=.seq ([]:List Value).toArray } }:Shared)=s3 at I3
 have eh:s3.heap=s2.heap.push { cls:=.type "list",dict:=none,data:=.seq ([]:List Value).toArray }:=by rw [←hs3]
 rw [←eh] at st3 hlt3
 generalize hDD:s2.heap.objs.size=D at *
 generalize hH3:upd H2 D (.lst [])=H3 at *
 clear hs3 eh
 rA wpAny_newFunctionEnv (s:=s3) hcell (by intro y hy;simp at hy) (fun h4 n4 sb4=>?_) hkind
 have Ok:=Aau (N:=N) (C:=s3.heap.objs.size) I3 hkind (AF _) hcl hhas fun b hb=>⟨f3 b hb,hlt3 b hb⟩
 show codeAny _ _ (.compStart (.ListComp elt [⟨tg,iter,[],0⟩] scope pos) 0 (.ref it) (.ref D) (compEnvC scope cl s3.heap.objs.size X.env)) _ _
 generalize hC:s3.heap.objs.size=C at *
 have old:∀b o,s3.heap.get? b=some o→h4.get? b=some o:=fun b o e=>sb4.extBut b o (by rw [←hC];eC AS (AH e)) (AB _ e)
 have fresh:H3 C=none:=I3.hok.fresh (by rw [hC];eC AF _)
 have hcapl:∀{i:Nat} {x:Str} {v:V},N[i]? =some x→(List.replicate k none++capσ js σ)[i]? =some (some v)→∃u,L2.RelV v u∧Ak6 (compEnvC scope cl C X.env) h4 (fun _=>none) x u:=by
  intro i x v e1 e2
  by_cases hik:i<k
  ·rw [CF (by simpa using hik)] at e2
   rw [DR] at e2
   simp [hik] at e2
  ·rw [BN (by simpa using DU hik),EH] at e2
   unfold capσ at e2
   rw [BJ] at e2
   cases ej:js[i-k]? with
   |none=>
    rw [ej] at e2
    cases e2
   | some j=>
    rw [ej] at e2
    have e2:(σ[j]?).join=some v:=Option.some.inj e2
    obtain ⟨y,hy,cp⟩:=hcap _ _ ej
    rw [show k+(i-k)=i by omega,e1] at hy
    cases hy
    obtain ⟨m,_,hl⟩:=I3.loc
    have e3:σ[j]? =some (some v):=by
     cases q:σ[j]? with
     |none=>
      rw [q] at e2
      cases e2
     |some o=>
      rw [q] at e2
      have:o=some v:=e2
      rw [this]
    obtain ⟨u,ru,lk⟩:=hl j x v cp.nm e3 (.inr (.inl cp.ko))
    rA ⟨u,ru,?_⟩
    rcases lk with ⟨z,_⟩|⟨_,c,hc,z⟩
    ·rw [cp.ko] at z
     cases z
    ·rA .inr ⟨.inl cp.ki,c,by rw [←hc];eC cp.cl,?_⟩
     obtain ⟨o,e,d⟩:=z
     eC ⟨o,old _ _ e,d⟩
 have I4:Ar (Jr X N s3 H3 (compEnvC scope cl C X.env) fp) [] (List.replicate k none++capσ js σ) H3 { s3 with heap:=h4,toks:=s3.toks+([]:List (Str×Value)).length }:=by
  rA ⟨Ok,rfl,I3.bare,Un.kept old,⟨_,n4,fun i x v e1 e2 e3=>?_⟩,fun x c e=>?_,fresh,fun x c e=>I3.freeC x c (hcl x c e),fun p hp=>absurd hp (by simp),I3.hok.kept old,?_⟩
  ·obtain ⟨u,ru,lk⟩:=hcapl e1 e2
   rA ⟨u,ru,?_⟩
   rcases lk with ⟨z,q⟩|q
   ·cases q
   ·eC .inr q
  ·obtain ⟨v,o,e1,d⟩:=I3.cell x c (hcl x c e)
   eC ⟨v,o,old _ _ e1,d⟩
  ·simp [capσ,hlen]
 have fp4:∀{H':Hp},(∀b∈fp,H' b=none)→∀b∈fp,Ma (Jr X N s3 H3 (compEnvC scope cl C X.env) fp) [] H' b:=fun hn b hb=>
  ⟨hn b hb,(Ok.exf b hb).1,Ok.exfs b hb,.inl hb,fun x c e=>(Ok.exf b hb).2 x c e,fun p hp=>absurd hp (by simp)⟩
 have st4:tn 0 h4:=T.keep _ _ _ st3 fun b hb o e=>old b o e
 have run:∀s4:Shared,s4={ s3 with heap:=h4,toks:=s3.toks+([]:List (Str×Value)).length } →
   codeAny (model X.prog X.w) X.A (.compLoop (.ListComp elt [⟨tg,iter,[],0⟩] scope pos) 0 (.ref it) (.ref D) (compEnvC scope cl C X.env)) (compPost (model X.prog X.w) X.A X.xe use Qv (.ref D) C) s4:=by
  rintro s4 rfl
  rA Ac5 (fun n s'=>∃i H' σ',Ar (Jr X N s3 H3 (compEnvC scope cl C X.env) fp) [] σ' H' s'∧(∀j:Nat,∀v,(List.replicate k none++capσ js σ)[j]? =some (some v)→σ'[j]? =some (some v))∧tn i s'.heap∧(∀b∈fp,H' b=none)∧W i n H') ?_ m0
   ⟨0,H3,_,I4,fun _ _ z=>z,st4,fun b hb=>(f3 b hb).1,w0⟩
  rintro n s5 ⟨i,H5,σ5,I5,cap5,st5,fr5,w5⟩
  have I5':=I5.weak (σ':=List.replicate k none++capσ js σ) (by rw [I5.len];simp [capσ,hlen]) cap5
  rcases turn i n H5 w5 with ⟨stop,q⟩|⟨go,step⟩
  ·rA Bi (T.done (Jr X N s3 H3 (compEnvC scope cl C X.env) fp) rfl rfl rfl hcalm i [] s5 σ5 H5 _ I5 (fp4 fr5) st5 stop) fun r s6 ⟨hr,I6⟩=>.inl ⟨hr,?_⟩
   obtain ⟨m6,n6,_⟩:=I6.loc
   have hCf:H5 C=none:=I6.free
   have u6:=I6.base
   have uC:Un (K5 X.stack) fp H3 H5 s3.heap s6.heap:=⟨u6.keep,u6.slot,u6.free,u6.there,u6.tups,u6.frzs,u6.tbls⟩
   have I7:Ar X pins σ H5 s6:=I3.call' (s':=s6) I6.os uC I6.hok I6.bare fun b hb=>⟨(f3 b hb).2.2.2.1,(f3 b hb).2.1,(f3 b hb).2.2.2.2.1,(f3 b hb).2.2.2.2.2⟩
   have lt3:∀b o,s3.heap.get? b=some o→b≠C:=fun b o e=>by rw [←hC];eC AS (AH e)
   rA fin s6 H5 D C m6 I7 n6 hCf (by rw [←hC];eC I3.sz) (by rw [←hC];eC CP I3.lt) (fun x c e=>?_) (fun p hp=>lt3 p.1 p.2 (I3.pin p hp).1) q
   obtain ⟨v,o,e1,_⟩:=I3.cell x c e
   eC lt3 c o e1
  ·rA Bi (T.item (Jr X N s3 H3 (compEnvC scope cl C X.env) fp) rfl rfl rfl hcalm i [] s5 _ H5 _ I5' (fp4 fr5) st5 go) fun r s6 ⟨u,hr,h6⟩=>.inr ⟨u,hr,?_⟩
   rA Bi h6 fun _ s7 ⟨x,H7,I7,r7,y7,st7,fr7⟩=>?_
   have I7':=I7.pinned (fp4 fr7) (T.obj _ _ st7)
   rA Bi (hg C s3 H3 fp _ s7 _ H7 x u _ I7' r7 (step x H7 y7)) fun _ s8 ⟨σ8,H8,I8,d8,q8⟩=>?_
   rA Bi (he C s3 H3 fp _ s8 σ8 H8 _ I8 q8) fun vv s9 ⟨vx,H9,I9,r9,xs,hx9,hz9,m',hm',w9⟩=>?_
   obtain ⟨z9,its,n9,rl,e9⟩:=(show Bg X.prog X.w H9 s9.heap D (.lst xs) from I9.hok D _ hx9)
   have app:=Ju (X:=Jr X N s3 H3 (compEnvC scope cl C X.env) fp) _ s9 σ8 H9 (.ref D) [vx] (.ref D) [vv] (fun _ H'=>H'=upd H9 D (.lst (xs++[vx]))) I9 rfl (.cons r9 .nil) ⟨D,xs,vx,rfl,rfl,hx9,hz9,rfl⟩
   rA Bi app fun _ s10 ⟨_,H10,I10,_,e10⟩=>?_
   subst e10
   rA ⟨m',hm',i+1,_,σ8,I10.unpinned (pins:=[]),?_,T.keep _ _ _ st7 fun b hb o e=>(I10.pin (b,o) (AX _ (AX _ (C2 hb e)))).1,fun b hb=>?_,w9⟩
   ·intro j v e
    by_cases hjk:j<k
    ·rw [CF (by simpa using hjk),DR] at e
     simp [hjk] at e
    ·rw [BN (by simpa using DU hjk),EH,←d8,List.getElem?_drop] at e
     rw [show k+(j-k)=j by omega] at e
     eC e
   ·obtain ⟨o,e,d⟩:=T.obj _ _ st7 b hb
    eC (I10.pin (b,o) (AX _ (AX _ (C2 hb e)))).2.1
 eC codeAny_compStart_list (run _ rfl) (T.self X.A 0 _ _ _ st4 (run _ rfl))
theorem Ane {elt iter tg:Expr}{scope:Scope}{pos:Pos}{wi:TI}{te:TE}{g:TG}{N:List Str}{cl:List (Str×Addr)}(k:Nat)(js:List Nat)(hi:PI X tg iter wi)
  (hg:∀C s H fp,PG (Jr X N s H (compEnvC scope cl C X.env) fp) tg g) (he:∀C s H fp,PE (Jr X N s H (compEnvC scope cl C X.env) fp) elt te) (hcalm:X.calm=true)
  (hclos:closureFor scope X.env=pure cl) (hkind:scope.kind=.function) (hcell:∀y∈scope.names,y.2≠.cell) (hnames:∀y∈scope.names,y.2=.local→scope.names.lookup y.1=some .local)
  (hcl:∀y c,cl.lookup y=some c→X.env.cells.lookup y=some c) (hhas:∀y,((relabel scope X.env).names.lookup y=some .cell∨(relabel scope X.env).names.lookup y=some .free)→∃c,cl.lookup y=some c)
  (hlen:N.length=k+js.length) (hcap:∀i j,js[i]? =some j→∃y,N[k+i]? =some y∧Cap X (relabel scope X.env) cl j y)
  (hs:∀x,foldedSetIterable iter X.env x=pure x:=by intro _;rfl):PE X (.ListComp elt [⟨tg,iter,[],0⟩] scope pos) (Aee wi g te k js):=by
 intro pins s σ H Q I h
 rw [eval_ListComp]
 rA Ac6 k js hi hg he hcalm hclos hkind hcell hnames hcl hhas hlen hcap hs I h fun s6 H5 D C m I6 n6 z1 z2 z3 z4 z5 q=>⟨m,n6,fun h7 sb7=>⟨.ref D,H5,?_,rfl,q⟩⟩
 eC I6.turned (t':=s6.toks) (fun b o hb e=>(sb7.2 b hb).trans e) z1 z3.symm.symm (.inr z2) z4 z5
def Rc (X:Cx)(sc:Scope)(cl:List (Str×Addr)):List Str→List Nat→Prop
 |y::ys,j::js=>Cap X sc cl j y∧Rc X sc cl ys js
 |[],[]=>True
 |_,_=>False
theorem Rc.len {sc:Scope}{cl:List (Str×Addr)}:∀{ys:List Str} {js:List Nat},Rc X sc cl ys js→ys.length=js.length
 |[],[],_=>rfl
 |_::_,_::_,h=>congrArg (· + 1) (Rc.len h.2)
 |[],_::_,h=>h.elim
 |_::_,[],h=>h.elim
theorem Rc.at {sc:Scope}{cl:List (Str×Addr)}:∀{ys:List Str} {js:List Nat},Rc X sc cl ys js→∀(i j:Nat),js[i]? =some j→∃y,ys[i]? =some y∧Cap X sc cl j y
 |[],[],_,i,j,e=>by simp at e
 |y::ys,j::js,h,0,j',e=>by
  cases e
  eC ⟨y,rfl,h.1⟩
 |y::ys,j::js,h,i+1,j',e=>Rc.at h.2 i j' (by simpa using e)
 |[],_::_,h,_,_,_=>h.elim
 |_::_,[],h,_,_,_=>h.elim
def Po (cells:List (Str×Addr)):List (Str×Addr)→Prop
 |[]=>True
 |(y,c)::r=>cells.lookup y=some c∧Po cells r
theorem Po.at {cells:List (Str×Addr)}:∀{cl:List (Str×Addr)},Po cells cl→∀y c,cl.lookup y=some c→cells.lookup y=some c
 |[],_,y,c,e=>by simp at e
 | (z,d)::r,h,y,c,e=>by
  rw [DW] at e
  cases q:y==z with
  |true=>
   rw [q] at e
   cases e
   rw [eq_of_beq q]
   eC h.1
  |false=>
   rw [q] at e
   eC Po.at h.2 y c e
theorem G7 {y:Str}:∀{cl:List (Str×Addr)},(cl.map (·.1)).contains y=true→∃c,cl.lookup y=some c
 |[],h=>by simp at h
 | (z,d)::r,h=>by
  rw [DW]
  cases q:y==z with
  |true=>eC ⟨d,rfl⟩
  |false=>
   rA G7 (cl:=r) ?_
   rw [BE,List.contains_cons,q,Bool.false_or] at h
   eC h
theorem Ck {env:Env}{y:Str}:∀{names:List (Str×NameKind)} {k:NameKind},(names.map fun (n,k)=>if (k==NameKind.free&&env.scope.kind==.function&&env.kindOf n==some .cell) then (n,NameKind.cell) else (n,k)).lookup y=some k →
  (k=.cell∨k=.free)→∃z∈names,z.1=y∧(z.2=.free∨z.2=.cell)
 |[],_,h,_=>by simp at h
 | (n,kd)::r,k,h,hk=>by
  rw [BE] at h
  by_cases hc:(kd==NameKind.free&&env.scope.kind==.function&&env.kindOf n==some .cell)=true
  ·rw [show (match (n,kd) with|(n,k)=>if (k==NameKind.free&&env.scope.kind==.function&&env.kindOf n==some .cell)=true then (n,NameKind.cell) else (n,k))=(n,NameKind.cell) from AN hc,DW] at h
   cases q:y==n with
   |true=>
    rw [BR,BR] at hc
    eC ⟨(n,kd),AK,(eq_of_beq q).symm,.inl (eq_of_beq hc.1.1)⟩
   |false=>
    rw [q] at h
    obtain ⟨z,hz,r1⟩:=Ck (names:=r) h hk
    eC ⟨z,AJ _ hz,r1⟩
  ·rw [show (match (n,kd) with|(n,k)=>if (k==NameKind.free&&env.scope.kind==.function&&env.kindOf n==some .cell)=true then (n,NameKind.cell) else (n,k))=(n,kd) from AI hc,DW] at h
   cases q:y==n with
   |true=>
    rw [q] at h
    cases h
    eC ⟨(n,kd),AK,(eq_of_beq q).symm,hk.symm⟩
   |false=>
    rw [q] at h
    obtain ⟨z,hz,r1⟩:=Ck (names:=r) h hk
    eC ⟨z,AJ _ hz,r1⟩
theorem B5 {elt iter tg:Expr}{scope:Scope}{pos:Pos}{wi:TI}{te:TE}{g:TG}{cl:List (Str×Addr)}(own ys:List Str)(js:List Nat)(hclos:closureFor scope X.env=pure cl)(hi:PI X tg iter wi)
  (hg:∀C s H fp,PG (Jr X (own++ys) s H (compEnvC scope cl C X.env) fp) tg g) (he:∀C s H fp,PE (Jr X (own++ys) s H (compEnvC scope cl C X.env) fp) elt te) (hcalm:X.calm=true) (hkind:scope.kind=.function)
  (hcell:(scope.names.all fun y=>y.2 != .cell)=true) (hnames:(scope.names.all fun y=>y.2 != .local||scope.names.lookup y.1==some .local)=true) (hfr:(scope.names.all fun y=>y.2 != .free||(cl.map (·.1)).contains y.1)=true)
  (hcl:Po X.env.cells cl) (hcap:Rc X (relabel scope X.env) cl ys js) (hs:∀x,foldedSetIterable iter X.env x=pure x:=by intro _;rfl) :
  PE X (.ListComp elt [⟨tg,iter,[],0⟩] scope pos) (Aee wi g te own.length js):=by
 rw [CH] at hcell hnames hfr
 have hc:∀y∈scope.names,y.2≠.cell:=fun y hy z=>by
  have:=hcell y hy
  rw [z] at this
  cases this
 rA Ane own.length js hi hg he hcalm hclos hkind hc (fun y hy z=>?_) hcl.at (fun y h=>?_) (by rw [AM,hcap.len]) (fun i j e=>?_) hs
 ·have:=hnames y hy
  rw [z] at this
  simpa using this
 ·obtain ⟨z,hz,rfl,hk⟩:∃z∈scope.names,z.1=y∧(z.2=.free∨z.2=.cell):=by
   rcases h with h|h
   ·eC Ck h (.inl rfl)
   ·eC Ck h (.inr rfl)
  rcases hk with hk|hk
  ·have:=hfr z hz
   rw [hk] at this
   eC G7 (by simpa using this)
  ·eC absurd hk (hc z hz)
 ·obtain ⟨y,h1,h2⟩:=hcap.at i j e
  eC ⟨y,by rw [BN (HA _ _),GP];eC h1,h2⟩
end
end Lw
end
section
namespace Lw
open PySem PySem.Spec PyProof.Rows L2
section
variable {X:Cx}{pos p2 p3 p4:Pos}{e:Expr}{te:TE}
def Arh:V→Option Int→Option Int→Hp→VK→Prop:=fun x lo hi H Q=>match x with
 |.str z=>z.length≤sizeLine∧Q (.str (Txt.slice z lo hi)) H
 |_=>False
theorem Vn:SlR X Arh:=by
 intro pins s σ H x v vl vu lo hi sl Q I rx hs pl pu h
 cases x<;>first
  |eC False.elim h
  | (obtain ⟨hz,q⟩:=h
     obtain ⟨t,rfl⟩:=rx
     rA ⟨"str",_,F.slot_str_getitem.lookup,GJ _ _ _,?_⟩
     cases pl<;>cases pu
     ·eC FA (l:=none) (u:=none) (st:=none) hs rfl (HH ⟨AO (HI _ _ _) hz,fun t' k=>⟨.str _,H,I.tok _,⟨_,rfl⟩,q⟩⟩)
     ·eC FA (l:=none) (u:=some (_,_)) (st:=none) hs rfl (HH ⟨AO (HI _ _ _) hz,fun t' k=>⟨.str _,H,I.tok _,⟨_,rfl⟩,q⟩⟩)
     ·eC FA (l:=some (_,_)) (u:=none) (st:=none) hs rfl (HH ⟨AO (HI _ _ _) hz,fun t' k=>⟨.str _,H,I.tok _,⟨_,rfl⟩,q⟩⟩)
     ·eC FA (l:=some (_,_)) (u:=some (_,_)) (st:=none) hs rfl (HH ⟨AO (HI _ _ _) hz,fun t' k=>⟨.str _,H,I.tok _,⟨_,rfl⟩,q⟩⟩))
def Ao4:R2:=fun x y H Q=>match x,y with
 |.str i,.str j=>i.length+j.length≤sizeLine∧Q (.str (i++j)) H
 |_,_=>False
theorem C5:Dy X (binaryOp .Add) Ao4:=by
 intro pins s σ H x y v u Q I rx ry q
 cases x<;>cases y<;>first
  |eC False.elim q
  |eC Zx _ _ _ _ _ _ _ _ _ I rx ry ⟨_,_,rfl,rfl,q.1,q.2⟩
def Arz:R2:=fun x y H Q=>match x,y with
 |.str z,.int i=>∃c,z.length≤sizeLine∧Q6 z.cps.toList i=some c∧Q (.str ⟨#[c]⟩) H
 |_,_=>False
theorem Aj0:IxR X Arz:=by
 intro value slice pins s σ H x y v u Q I rx ry h hs
 cases x<;>cases y<;>first
  |eC False.elim h
  | (obtain ⟨c,h1,h2,q⟩:=h
     eC Akr value slice pins s σ H _ _ v u Q I rx ry ⟨_,_,c,rfl,rfl,h1,h2,q⟩ hs)
theorem Uq:∀{ys:List Str} {us:List Value},A7 (ys.map V.str) us→StrsAre us ys
 |[],_,r=>by
  cases r
  eC .nil
 | y::ys,_,r=>by
  cases r with
  |cons r1 r2=>
   obtain ⟨t,rfl⟩:=r1
   eC .cons y t (Uq r2)
def Aez (K:KKf):V→List V→Hp→VK→Prop:=fun x xs H Q=>match x,xs with
 |.str sep,[.ref p]=>∃ys:List Str,A3 K H p (ys.map V.str)∧(ys.map (·.length)).sum+ys.length*sep.length≤16777216∧Q (.str (Txt.join sep ys)) H
 |_,_=>False
theorem Anx:MtR X "str.join" (Aez X.K):=by
 intro pins s σ H x xs v us Q I rx rs h
 match x,xs,h with
 |.str sep,[.ref p],⟨ys,h1,h2,q⟩=>
  obtain ⟨t,rfl⟩:=rx
  obtain ⟨u,rfl,r1⟩:=F2 rs
  cases r1
  obtain ⟨its,r,pl,_⟩:=I.list h1
  eC PyProof.Rows.join_list pl.isList (Uq r) h2 fun t' k=>⟨.str _,H,I.tok _,⟨_,rfl⟩,q⟩
theorem Ni {o:Expr}{to ta:_}{name:Str}{apos cpos:Pos}(ho:PE X o to)(ha:PA X [e] ta)(hbase:attributeBase o "join" X.env (eval o X.env)=eval o X.env:=by rfl)
  (hfew:((backTo cpos (starEach [e] X.env)).all (fun x=>!x.1)&&(backToKw cpos (keywordEach [] X.env)).all (fun x=>x.1.isSome)&&decide ([e].length+([]:List Keyword).length+(if ([]:List Keyword).isEmpty then 0 else 1)<30))=true:=by rfl)
  (hline:(apos.endLine==cpos.line)=true:=by rfl) (hs:starEach [e] X.env=(false,eval e X.env)::starEach [] X.env:=by rfl) (hplain:(backTo cpos (starEach [] X.env)).any (·.1)=false:=by rfl) :
  PE X (.Call (.Attribute o "join" apos) [e] [] cpos) (tBM X.K "str" (Aez X.K) to ta):=Lu F.plainAttrs_str F.slot_str_join F.type_str_join Anx ho ha hbase hfew hline hs hplain
def Ar0 (K:KKf):R2:=fun x y H Q=>match y with
 |.ref p=>∃xs,(A3 K H p xs∨Ec K H p xs)∧Fl x=true∧xs.all Fl=true∧Q (.bl (inV x xs)) H
 |_=>False
theorem Apq:Dy X (compareOp .In) (Ar0 X.K):=by
 intro pins s σ H x y v u Q I rx ry q
 cases y<;>first
  |eC False.elim q
  | (obtain ⟨xs,h1,h2,h3,q⟩:=q
     eC Acm _ _ _ _ _ _ _ _ _ I rx ry ⟨_,xs,rfl,h1,h2,h3,q⟩)
theorem W7:∀{xs:List V} {us:List Value},A7 xs us→A7 xs.reverse us.reverse
 |_,_,.nil=>.nil
 |x::xs,u::us,.cons r t=>by
  rw [List.reverse_cons,List.reverse_cons]
  eC (W7 t).append (.cons r .nil)
end
end Lw
end
section
namespace Lw
open PySem PySem.Spec PyProof.Rows L2
def co (x:Str):List Nat:=x.cps.toList
theorem Bo (x:Str):(co x).length=x.length:=by simp [co,Str.length]
theorem Bq (x y:Str):co (x++y)=co x++co y:=by
 show (x.cps++y.cps).toList=x.cps.toList++y.cps.toList
 rw [Array.toList_append]
theorem M9 (c:Nat):co ⟨#[c]⟩=[c]:=rfl
theorem Dn {x y:Str}(h:co x=co y):x=y:=by
 obtain ⟨x⟩:=x
 obtain ⟨y⟩:=y
 have:x=y:=Array.toList_inj.mp h
 rw [this]
theorem Bf (x y:Str):(x++y).length=x.length+y.length:=by
 rw [←Bo,Bq,AM,Bo,Bo]
theorem Jw (sep:Str):∀ys:List Str,co (Txt.join sep ys)=co (Str.join sep ys):=fun ys=>by
 show co (Builtin.Str.glued sep ys)=_
 rw [StrLaws.glued_eq_join]
theorem Ai8 (a b:Nat):sliceRange (a:Int) (b:Int) 1=(List.range (b-a)).map (fun k=>a+k):=by
 unfold sliceRange
 simp only [show ((1:Int)>0)=True from by simp,FO]
 by_cases h:(a:Int)<b
 ·have e3:(((b:Int)-a+1-1) / 1).toNat=b-a:=by omega
  simp only [h,FO,e3]
  rA List.map_congr_left fun k _=>?_
  omega
 ·have:b-a=0:=by omega
  simp [h,this]
theorem Me (n d:Nat)(i:Int):max (0:Int) (min (if i<0 then i+(n:Int) else i) (n:Int))=((HT.sIx n d (some i):Nat):Int):=by
 show _=(((if i<0 then (i+(n:Int)).toNat else min i.toNat n):Nat):Int)
 by_cases h:i<0
 ·simp only [AN h];omega
 ·simp only [AI h];omega
theorem Aid (lo hi:Option Int)(n:Nat):Builtin.Str.strSliceIndices lo hi 1 n=(List.range (HT.sIx n n hi-HT.sIx n 0 lo)).map (fun k=>HT.sIx n 0 lo+k):=by
 rw [←Ai8]
 unfold Builtin.Str.strSliceIndices
 simp only [show ((1:Int)>0)=True from by simp,FO]
 cases lo with
 | none=>
  cases hi with
  |none=>rfl
  |some j=>
   show sliceRange 0 (max (0:Int) (min (if j<0 then j+(n:Int) else j) (n:Int))) 1=_
   rw [Me n n j]
   rfl
 | some i=>
  cases hi with
  |none=>
   show sliceRange (max (0:Int) (min (if i<0 then i+(n:Int) else i) (n:Int))) (n:Int) 1=_
   rw [Me n 0 i]
   rfl
  |some j=>
   show sliceRange (max (0:Int) (min (if i<0 then i+(n:Int) else i) (n:Int))) (max (0:Int) (min (if j<0 then j+(n:Int) else j) (n:Int))) 1=_
   rw [Me n 0 i,Me n n j]
theorem Ql (x:Str)(lo hi:Option Int):co (Txt.slice x lo hi)=((co x).drop (HT.sIx x.length 0 lo)).take (HT.sIx x.length x.length hi-HT.sIx x.length 0 lo):=by
 have ha:=HT.sIx_le x.length 0 (AV _) lo
 have hb:=HT.sIx_le x.length x.length (AF _) hi
 have hl:=Bo x
 unfold Txt.slice
 rw [Aid]
 generalize HT.sIx x.length 0 lo=a at *
 generalize HT.sIx x.length x.length hi=b at *
 split
 ·rename_i h
  have h2:b-a=x.length:=by simpa using h
  have a0:a=0:=by omega
  subst a0
  rw [GL,EA #o]
 ·have p:=StrLaws.picks (co x) (b-a) a #o
  rw [←p]
  show (List.filterMap _ _).toArray.toList=_
  rw [List.toList_toArray]
  congr 1
  funext k
  show x.cps[k]? =x.cps.toList[k]?
  rw [DP]
theorem Akd {x:Str}{j:Nat}(h:j≤x.length):co (Txt.slice x none (some (j:Int)))=(co x).take j:=by
 rw [Ql,HT.sIx_none,HT.sIx_nat,GD h,GL,Nat.sub_zero]
theorem Aic {x:Str}{i:Nat}(h:i≤x.length):co (Txt.slice x (some (i:Int)) none)=(co x).drop i:=by
 rw [Ql,HT.sIx_none,HT.sIx_nat,GD h,EA]
 rw [DN,Bo]
 eC AF _
def abc:Str:=Str.ofString "abcdefghijklmnopqrstuvwxyz"
def lt (n:Int):Nat:=97+(n % 26).toNat
structure Nm (x:Str):Prop where
 len1:1≤(co x).length
 len8:(co x).length≤8
 abc:∀c∈co x,97≤c∧c<123
theorem Apn {x:Str}(h:∀c∈co x,c<1114112):PyData.strOk x=true:=by
 unfold PyData.strOk
 rw [←Array.all_toList,CH]
 eC fun c hc=>AQ (h c hc)
end Lw
end
section
set_option autoImplicit false
namespace Lw
open PySem PySem.Spec PyProof.Rows L2
def vB:List Value:=[.type "ValueError",.type "Exception",.type "BaseException",.type "object"]
def clsIn (K:KKf)(C:Addr):Bool:=match K.lookup C with
 |some ⟨.type "type",_,.cls _,_⟩=>true
 |_=>false
structure Ago (K:KKf)(C:Addr):Prop where
 nw:clsIn K C=true
 ga:PySem.W.findIn K (.ref C) "__getattribute__"=some (some (.builtin "BaseException.__getattribute__"))
 gn:PySem.W.findIn K (.ref C) "__getattr__"=some none
 cl:PySem.W.findIn K (.ref C) "__class__"=some (some (.builtin "object.__class__"))
 mo:PySem.W.mroIn K C (.type "object")=some true
 mb:PySem.W.mroIn K C (.type "BaseException")=some true
theorem Ajf {K:KKf}{h:Heap}{mg:Str→Option Value}{x:Str}{C:Addr}{bmB:List Value}{newId:String}(X:K.In h)(b:mg x=some (.ref C))(q:PySem.W.excIn K C bmB newId=true):OwnCls x C bmB newId mg h:=by
 rA ⟨b,?_⟩
 unfold PySem.W.excIn at q
 split at q
 ·rename_i d0 cd sl lk
  split at q
  ·rename_i C' bm a0 a1 a2 a3 n a5 hm hs
   simp only [BR,FR,Bool.not_eq_true'] at q
   obtain ⟨⟨⟨⟨⟨e1,e2⟩,hdel⟩,ht⟩,hok⟩,hni⟩:=q
   subst e1 e2
   obtain ⟨nm,bs,mro,ns,qn,hd,sn,sub,ab,col,del⟩:=cd
   dsimp only at hm hdel hok hni
   subst hm hdel
   have e:sl=#[a0,a1,a2,a3,some (.builtin n),a5]:=by
    obtain ⟨l⟩:=sl
    simp only at hs
    rw [hs]
   subst e
   have N0:h.isNs ns=true:=PySem.W.isNs_of_in X hok
   eC ⟨bm,ns,nm,qn,bs,hd,sn,sub,ab,col,d0,a0,a1,a2,a3,a5,_,X _ _ lk,.of_isNs N0,PySem.W.nsMap_none_of_in X hok hni,PySem.W.tail_of_in X ht⟩
  ·cases q
 ·cases q
theorem Amd {K:KKf}{C:Addr}(q:clsIn K C=true):∃dd cd sl,K.lookup C=some ⟨.type "type",dd,.cls cd,sl⟩:=by
 unfold clsIn at q
 split at q
 ·rename_i d0 cd sl lk
  eC ⟨_,_,_,lk⟩
 ·cases q
def Ak1 (E:XK)(cls:Value):TS:=fun _ _ H=>E cls none H
section
variable {P:Program}{w:World}{K:KKf}{mg:Str→Option Value}{base:Heap}{N:List Str}{qual:Str}{scope:Scope}{f:Addr}{cd:Value}{A:Around}{outer:List Env}{s₀:Shared}{H₀:Hp}{E:XK}
theorem C3 {x:Str}{C:Addr}{np cpos pos p:Pos}{txt:Str}{j:Nat}(hb:mg x=some (.ref C))(c:PySem.W.excIn K C vB "ValueError.__new__"=true)(hg:Gl (Ct (Ew P w) P w K mg base N qual scope f cd A outer s₀ H₀ E) x)(hd:(x==("__debug__":Str))=false:=by decide) :
  PS (Ct (Ew P w) P w K mg base N qual scope f cd A outer s₀ H₀ E) (.Raise (some (.Call (.Name x np) [.Constant (.str txt) j p] [] cpos)) none pos) (Ak1 E (.ref C)):=by
 intro pins s σ H D I h
 have O:=Ajf (h:=s.heap) I.kIn hb c
 obtain ⟨tl,ns,nm,q,bs,hdct,sn,sub,ab,col,dd,k0,k1,k2,k3,k5,mN,hC,hN,hni,T⟩:=O.obj
 have FB:=PySem.F.excBase_ValueError
 rA wpAny_Raise_call_subT (C:=C) (nm:=nm) (q:=q) (N:=ns) (bs:=bs) (bm:=tl) (hdct:=hdct) (sn:=sn) (sub:=sub) (ab:=ab) (col:=col) (dd:=dd) (k0:=k0) (k1:=k1) (k2:=k2) (k3:=k3) (k5:=k5)
  (mN:=mN) FB (T.hasType FB.hasBase) (I.ok.hd rfl) rfl hni (Jq I hg hb ⟨rfl,?_⟩ hd)
 rA FS ?_
 rA spliced_more (Calls.Constant_str (DG ?_))
 eC ⟨rfl,(by show 1≤sizeLine;decide),hC,hN,T,fun h' e hx=>Amr (I.tok _) hx h⟩
end
def Yj (sp:Sp)(E:XK)(t:TA):TE:=fun σ H Q=>t σ H fun vs H1=>sp vs H1 Q E
section
variable {P:Program}{w:World}{K:KKf}{mg:Str→Option Value}{base:Heap}{N:List Str}{qual:Str}{scope:Scope}{f:Addr}{cd:Value}{A:Around}{outer:List Env}{s₀:Shared}{H₀:Hp}{E:XK}
theorem O4 {x:Str}{ps:List Str}{k k':Nat}{sp:Sp}{p pos:Pos}{e:Expr}{es:List Expr}{t:TA}(C:Ba P w K mg base x ps k sp)(hr:B6 k' (Ct (Ew P w) P w K mg base N qual scope f cd A outer s₀ H₀ E).A)(hk:k≤k')(hg:Gl (Ct (Ew P w) P w K mg base N qual scope f cd A outer s₀ H₀ E) x)
  (ha:PA (Ct (Ew P w) P w K mg base N qual scope f cd A outer s₀ H₀ E) (e::es) t) (hdb:(x==("__debug__":Str))=false:=by decide)
  (he:starEach (e::es) (Ct (Ew P w) P w K mg base N qual scope f cd A outer s₀ H₀ E).env=(false,eval e (Ct (Ew P w) P w K mg base N qual scope f cd A outer s₀ H₀ E).env)::starEach es (Ct (Ew P w) P w K mg base N qual scope f cd A outer s₀ H₀ E).env:=by rfl)
  (hpl:(backTo pos (starEach es (Ct (Ew P w) P w K mg base N qual scope f cd A outer s₀ H₀ E).env)).any (·.1)=false:=by rfl) :
  PE (Ct (Ew P w) P w K mg base N qual scope f cd A outer s₀ H₀ E) (.Call (.Name x p) (e::es) [] pos) (Yj sp E t):=by
 obtain ⟨f',fd,h1,h2,h3,h4,_⟩:=C.ex
 have z:=Aa5 (X:=Ct (Ew P w) P w K mg base N qual scope f cd A outer s₀ H₀ E) (pos:=pos) (p:=p) (h4.mono hk) hr hg h1 h2 h3 .nil (Aal (E:=E)) ha hdb he hpl
 have e1:Xs sp [] E t=Yj sp E t:=by
  funext σ H Q
  unfold Xs Yj
  simp only [CG]
 rw [e1] at z
 eC z
end
abbrev cxM (X:Cx)(v:Value):Cx:={ X with A:=X.A.mark (some v),calm:=false,xe:=fun _ _=>False }
section
variable {X:Cx}{pins:List (Addr×Obj)}{σ:L2.St}{H:Hp}{s:Shared}
theorem Xq (I:Ar X pins σ H s)(v:Value):Ar (cxM X v) pins σ H s:=
 ⟨⟨I.ok.mod,I.ok.kind,I.ok.glob,I.ok.blt,I.ok.above,I.ok.inj,I.ok.has,I.ok.cab,fun z=>(nomatch z),I.ok.frames,I.ok.stk,I.ok.exf,I.ok.bs,I.ok.bsz,I.ok.noex,I.ok.exfs,I.ok.funs,I.ok.frf⟩,I.os,I.bare,I.base,I.loc,I.cell,I.free,I.freeC,I.pin,I.hok,I.len⟩
theorem G6 {v:Value}(ok:X.Ok)(I:Ar (cxM X v) pins σ H s):Ar X pins σ H s:=⟨ok,I.os,I.bare,I.base,I.loc,I.cell,I.free,I.freeC,I.pin,I.hok,I.len⟩
end
structure Cat (K:KKf)(D:Addr):Prop where
 lk:∃dd cd sl,K.lookup D=some ⟨.type "type",dd,.cls cd,sl⟩
 mb:PySem.W.mroIn K D (.type "BaseException")=some true
theorem Ago.cat {K:KKf}{C:Addr}(c:Ago K C):Cat K C:=⟨Amd c.nw,c.mb⟩
theorem Ac3 {M:Model}{A:Around}{E:Value→Shared→Prop}{K:KKf}{a C D:Addr}{s:Shared}{Q:Bool→Shared→Prop}(X:K.In s.heap)(p:∃o,s.heap.get? a=some o∧o.cls=.ref C)(c:Cat K D)
  (hm:PySem.W.mroIn K C (.ref D)=some true) (hq:Q true s):wpAny M A (excMatches (.ref a) (.ref D)) Q E s:=by
 obtain ⟨h,g,d,t,os⟩:=s
 obtain ⟨o,e,ec⟩:=p
 obtain ⟨dd,cd,sl,lk⟩:=c.lk
 have eD:=X _ _ lk
 have f:=tc_notTuple
 have l1:=FZ (M:=M) X c.mb
 have l2:=FZ (M:=M) X hm
 unfold excMatches
 repeat (first|with_reducible rA l1.at ?_|with_reducible rA l2.at ?_|(with_reducible rA GW e ?_;rw [ec])|with_reducible rA GW eD ?_|wp_step)
 eC hq
end Lw
end
section
namespace Lw
open PySem PySem.Spec PyProof.Rows L2
section
variable {X:Cx}{a b c:Expr}{ta tb tc:TE}{pos:Pos}{tg:Expr}
def Gv (mg:Str→Option Value)(x:Str)(v:V):Prop:=∃u,mg x=some u∧RelV v u
theorem Cu {x:Str}{v:V}(k:Gv X.mg x v)(hg:Gl X x)(hd:(x==("__debug__":Str))=false:=by decide):PE X (.Name x pos) (tC v):=by
 obtain ⟨u,h1,h2⟩:=k
 eC Ahk hg h1 h2 hd
def Aod (K:KKf):R2:=fun x y H Q=>match x,y with
 |.ref p,.int i=>∃xs v,Ec K H p xs∧Q6 xs i=some v∧Q v H
 |_,_=>False
theorem Akt:IxR X (Aod X.K):=by
 intro value slice pins s σ H x y v u Q I rx ry h hs
 cases x<;>cases y<;>first
  |eC False.elim h
  | (obtain ⟨xs,w,e,z,q⟩:=h
     eC Yz value slice pins s σ H _ _ v u Q I rx ry ⟨_,xs,_,w,rfl,rfl,e,z,q⟩ hs)
def Tp (r r':R2)(ta tb tc:TE):TE:=fun σ H Q=>ta σ H fun x H1=>tb σ H1 fun y H2=>r x y H2 fun z H3=>match z with
 |.bl k=>Br k (tc σ H3 fun w' H4=>r' y w' H4 Q) (Q (.bl false) H3)
 |_=>False
theorem Si (r r':R2)(ta tb tc:TE):Tp r r' ta tb tc=Vq r r' ta tb tc:=by
 funext σ H Q
 unfold Tp Vq
 congr 1
 funext x H1
 congr 1
 funext y H2
 congr 1
 funext z H3
 apply propext
 cases z<;>simp [Rt]
theorem Ahz {op op':CmpOp}{r r':R2}(ho:Dy X (compareOp op) r)(ho':Dy X (compareOp op') r')(ha:PE X a ta)(hb:PE X b tb)(hc:PE X c tc)
  (hm:lastMarks [op,op'] [b,c]=false:=by with_unfolding_all rfl):PE X (.Compare a [op,op'] [b,c] pos) (Tp r r' ta tb tc):=by
 rw [Si]
 eC Afz ho ho' ha hb hc hm
theorem Ot {op op':CmpOp}{r r':R2}(ho:Dy X (compareOp op) r)(ho':Dy X (compareOp op') r')(ha:PE X a ta)(hb:PE X b tb)(hc:PE X c tc)
  (hm:lastMarks [op,op'] [b,c]=false:=by with_unfolding_all rfl):PT X (.Compare a [op,op'] [b,c] pos) (J1 (Tp r r' ta tb tc)):=by
 rw [Px,Si]
 eC Ae5 ho ho' ha hb hc hm
def Ard:R2:=fun x y H Q=>match x,y with
 |.str i,.str j=>∃c,i=⟨#[c]⟩∧Q (.bl (decide (c∈co j))) H
 |_,_=>False
theorem Akh:Dy X (compareOp .In) Ard:=by
 intro pins s σ H x y v u Q I rx ry q
 cases x<;>cases y<;>first
  |eC False.elim q
  | (obtain ⟨k,rfl,q⟩:=q
     eC Adl _ _ _ _ _ _ _ _ _ I rx ry ⟨_,_,rfl,rfl,by rw [StrLaws.found_one];eC q⟩)
def Its (x:Str):It:=⟨fun i _=>i<x.length,fun i H v H'=>H'=H∧∃c,(co x)[i]? =some c∧v=.str ⟨#[c]⟩,fun i _=>x.length≤i⟩
theorem Acq {P:Program}{w:World}{K:KKf}(x:Str)(t:Tok)(it:Addr):Vz P w K tg (Its x) [it] it (fun i h=>h.IsStrIter it "str_ascii_iterator" x t i) where
 mem:=by simp
 obj:=fun i h st b hb=>by
  have e:b=it:=by simpa using hb
  subst e
  obtain ⟨o,e,_,d⟩:=st
  eC ⟨o,e,fun v z=>by rw [d] at z;cases z⟩
 keep:=fun i h h' st k=>by
  obtain ⟨o,e,r⟩:=st
  eC ⟨o,k it (by simp) o e,r⟩
 item:=by
  intro X hP hw hK hc i pins s σ H E I hf st hg
  subst hP hw hK
  have hg:i<x.cps.size:=hg
  obtain ⟨f0,f1,f2,f3,f4,f5⟩:=hf it (by simp)
  rA wpAny_pyNext_ascii_item st (c:=x.cps[i]) (by simp [hg]) fun h' st' sb=>?_
  have I1:Ar X pins σ H { s with heap:=h',toks:=s.toks+1 }:=I.turned (fun b o hb e=>(sb.2 b hb).trans e) f0 f1 f3 f4 f5
  obtain ⟨o,e,c,d⟩:=id st'
  eC ⟨_,rfl,V6 (s:={ s with heap:=h',toks:=s.toks+1 }) e c d #d ⟨.str _,H,I1,⟨_,rfl⟩,⟨rfl,_,by simp [co,hg],rfl⟩,st',fun b hb=>(hf b hb).1⟩⟩
 done:=by
  intro X hP hw hK hc i pins s σ H E I hf st hg
  subst hP hw hK
  have hg:x.cps.size≤i:=hg
  obtain ⟨f0,f1,f2,f3,f4,f5⟩:=hf it (by simp)
  eC wpAny_pyNext_ascii_end (I.ok.hd hc) st (by simp [hg]) fun h' eb=>⟨rfl,I.turned (t':=s.toks) (fun b o hb e=>eb b o hb e) f0 f1 f3 f4 f5⟩
 self:=fun _ _ _ _ _ st h=>wpAny_pyIter_striter_ascii st h
theorem Ach {P:Program}{w:World}{K:KKf}(x:Str)(t:Tok)(it:Addr):Vz P w K tg (Its x) [it] it (fun i h=>h.IsStrIter it "str_iterator" x t i) where
 mem:=by simp
 obj:=fun i h st b hb=>by
  have e:b=it:=by simpa using hb
  subst e
  obtain ⟨o,e,_,d⟩:=st
  eC ⟨o,e,fun v z=>by rw [d] at z;cases z⟩
 keep:=fun i h h' st k=>by
  obtain ⟨o,e,r⟩:=st
  eC ⟨o,k it (by simp) o e,r⟩
 item:=by
  intro X hP hw hK hc i pins s σ H E I hf st hg
  subst hP hw hK
  have hg:i<x.cps.size:=hg
  obtain ⟨f0,f1,f2,f3,f4,f5⟩:=hf it (by simp)
  rA wpAny_pyNext_wide_item st (c:=x.cps[i]) (by simp [hg]) fun h' st' sb=>?_
  have I1:Ar X pins σ H { s with heap:=h',toks:=s.toks+1 }:=I.turned (fun b o hb e=>(sb.2 b hb).trans e) f0 f1 f3 f4 f5
  obtain ⟨o,e,c,d⟩:=id st'
  eC ⟨_,rfl,V6 (s:={ s with heap:=h',toks:=s.toks+1 }) e c d #d ⟨.str _,H,I1,⟨_,rfl⟩,⟨rfl,_,by simp [co,hg],rfl⟩,st',fun b hb=>(hf b hb).1⟩⟩
 done:=by
  intro X hP hw hK hc i pins s σ H E I hf st hg
  subst hP hw hK
  have hg:x.cps.size≤i:=hg
  obtain ⟨f0,f1,f2,f3,f4,f5⟩:=hf it (by simp)
  eC wpAny_pyNext_wide_end (I.ok.hd hc) st (by simp [hg]) fun h' eb=>⟨rfl,I.turned (t':=s.toks) (fun b o hb e=>eb b o hb e) f0 f1 f3 f4 f5⟩
 self:=fun _ _ _ _ _ st h=>wpAny_pyIter_striter_wide st h
def Aro (tl:TE):TI:=fun σ H R=>tl σ H fun x H1=>match x with
 |.str z=>R (Its z) H1
 |_=>False
theorem Aey {l:Expr}{tl:TE}(hl:PE X l tl):PI X tg l (Aro tl):=by
 intro pins s σ H R I h
 rA Bi (hl pins s σ H _ I h) fun v s1 ⟨x,H1,I1,r1,q1⟩=>?_
 cases x<;>first
  |eC False.elim q1
  | (rename_i z
     obtain ⟨t,rfl⟩:=r1
     have fp:∀(o:Obj),∀b∈[s1.heap.objs.size],Ma X pins H1 b:=fun o b hb=>by
       have e:b=s1.heap.objs.size:=by simpa using hb
       subst e
       eC I1.fpOk (AF _) (I1.hok.fresh (AF _))
     cases ha:z.cps.all (· < 128) with
     | true=>
       rA wpAny_pyIter_ascii ha ⟨s1.heap.objs.size,[s1.heap.objs.size],_,_,H1,rfl,I1.kept (t':=s1.toks) fun b o e=>AB _ e,Acq z t _,⟨_,AG _ rfl,rfl,rfl⟩,fp default,q1⟩
     | false=>
       rA wpAny_pyIter_wide ha ⟨s1.heap.objs.size,[s1.heap.objs.size],_,_,H1,rfl,I1.kept (t':=s1.toks) fun b o e=>AB _ e,Ach z t _,⟨_,AG _ rfl,rfl,rfl⟩,fp default,q1⟩)
theorem Wu {x:Str}{g:TG}{te:TE}{k:Nat}{js:List Nat}{σ:L2.St}{H1:Hp}{Q:VK}(f:Nat→V)(hz:x.length≤1000)
  (hs:∀c H2,c∈co x→Ah H1 H2→∀P:VK,P (f c) H2→g (.str ⟨#[c]⟩) (List.replicate k none++capσ js σ) H2 fun σ2 H3=>σ2.drop k=capσ js σ∧te σ2 H3 P)
  (hq:∀D H',Ah H1 H'→H' D=some (.lst ((co x).map f))→Q (.ref D) H') :
  Hq (Its x) g te k js σ H1 Q:=by
 unfold Hq
 intro D hD
 have hl:=Bo x
 rA ⟨fun i m H=>m=x.length-i∧i≤x.length∧H=upd H1 D (.lst (((co x).take i).map f)),⟨x.length,by simp,AV _,rfl⟩,?_⟩
 rintro i m H ⟨rfl,hi,rfl⟩
 by_cases hlt:i<x.length
 ·rA .inr ⟨hlt,fun v H' y=>?_⟩
  obtain ⟨e1,c,hc,rfl⟩:=y
  subst e1
  rA hs c _ (BH hc) (Ap hD) _ ⟨_,Ag,?_,x.length-(i+1),by omega,rfl,hlt,?_⟩
  ·rw [AE,BQ]
   eC BO (GE _ _) (AL hlt (AO hz #d))
  ·rw [Aaz,CI,hc,CB]
   rfl
 ·have e:i=x.length:=by omega
  subst e
  rA .inl ⟨AF _,hq D _ (Ap hD) ?_⟩
  rw [Ag,EA #o]
def Apc:List V→Hp→VK→Prop:=fun xs H Q=>match xs with
 |[.int i]=>i.natAbs.log2<1920∧Q (.str (toString i)) H
 |_=>False
theorem N1:Dg X (.type "str") Apc:=by
 intro pins s σ H xs us Q I r h
 match xs,h with
 |[.int i],⟨h1,q⟩=>eC Ve pins s σ H _ us Q I r ⟨i,rfl,h1,q⟩
def Arv (K:KKf):List V→Hp→VK→Prop:=fun xs H Q=>match xs with
 |[.ref p]=>∃bs:List Bool,A3 K H p (bs.map V.bl)∧Q (.bl (bs.all id)) H
 |_=>False
theorem W9:∀{bs:List Bool} {us:List Value},A7 (bs.map V.bl) us→us=bs.map Value.bool
 |[],_,r=>by cases r;rfl
 |d::ds,_,r=>by
  cases r with
  |cons r1 r2=>rw [show _=Value.bool d from r1,W9 r2];rfl
theorem Adn:∀bs:List Bool,((List.range bs.length).all fun i=>bs.getD i true)=bs.all id:=by
 intro bs
 rw [FH,CH,CH]
 constructor
 ·intro h b hb
  obtain ⟨i,hi,rfl⟩:=GA hb
  have:=h i (BZ.mpr hi)
  rw [BF,AD hi] at this
  eC this
 ·intro h i hi
  have hi:=BZ.mp hi
  rw [BF,AD hi]
  eC h _ (ET hi)
theorem Abw (hc:X.calm=true):Dg X (.builtin "all") (Arv X.K):=by
 intro pins s σ H xs us Q I r h
 match xs,h with
 | [.ref p],⟨bs,h1,q⟩=>
  obtain ⟨u,rfl,r1⟩:=F2 r
  cases (show u=Value.ref p from r1)
  obtain ⟨its,rv,pl,_⟩:=I.list h1
  have e:=W9 rv
  subst e
  have hh:=I.ok.hd hc
  have il:=pl.isList
  obtain ⟨ob,eb,rb⟩:=id il
  have ne:p≠s.heap.objs.size:=AS (AH eb)
  rA call_all_walk (GU il ?_)
  rA ⟨s.heap.objs.size,_,_,_,_,_,fun i=>bs.getD i true,rfl,Walks.list (A:=X.A.in1) hh s.heap.objs.size p ne (bs.map Value.bool).toArray,⟨⟨_,AG _ rfl,rfl,rfl⟩,⟨ob,AB _ eb,rb⟩⟩,fun i v s2 Q2 E2 hP hQ=>?_,fun h' tk k=>?_⟩
  ·have hP:(bs.map Value.bool).toArray[i]? =some v:=hP
   rw [FP,BJ] at hP
   cases e2:bs[i]? with
   |none=>
    rw [e2] at hP
    cases hP
   |some d=>
    rw [e2] at hP
    cases hP
    rA CV ?_
    have:bs.getD i true=d:=by rw [BF,e2];rfl
    rw [←this]
    eC hQ
  ·rA ⟨.bl (bs.all id),H,I.kept (t':=tk) fun b o e=>k b o ?_ (AB _ e),?_,q⟩
   ·intro z
    have z:b=s.heap.objs.size:=by simpa using z
    eC DL _ (z▸AH e)
   ·show Value.bool _=Value.bool _
    rw [AR,AE,Adn]
end
end Lw
end
namespace Lw
open L2
end Lw
section
namespace Lw
open PySem PySem.Spec PyProof.Rows L2
section
variable {X:Cx}
def Aqa (t u:TS):TS:=fun D σ H=>∃R:L2.St→Hp→Prop,t { D with nx:=R } σ H∧∀σ' H',R σ' H'→u D σ' H'
theorem Er {st:Stmt}{r:List Stmt}{t u:TS}(h1:PS X st t)(h2:Ny X r u):Ny X (st::r) (Aqa t u):=by
 intro pins s σ H D I h
 obtain ⟨R,h⟩:=h
 eC Yl R h1 h2 pins s σ H D I h
end
end Lw
end
section
set_option autoImplicit false
namespace Lw
open PySem PySem.Spec PyProof.Rows L2
section
variable {X:Cx}{pos:Pos}
def Y0 (K:KKf):List V→Hp→VK→Prop:=fun xs H Q=>match xs with
 |[.ref p]=>∃ys,(A3 K H p ys∨Ec K H p ys)∧∀l,H l=none→Q (.ref l) (upd H l (.lst ys))
 |_=>False
theorem Ox:Dg X (.type "list") (Y0 X.K):=by
 intro pins s σ H xs us Q I r h
 match xs,h with
 |[.ref p],⟨ys,h1,q⟩=>eC Ld pins s σ H _ us Q I r ⟨p,ys,rfl,h1,q⟩
end
end Lw
end
section
set_option autoImplicit false
namespace Lw
open PySem PySem.Spec PyProof.Rows L2
section
variable {X:Cx}{pos:Pos}
structure B1 (K:KKf)(a:Addr)(xs:List V):Prop where
 sq:∀H,Ec K H a xs
 ty:∃o,K.lookup a=some o∧o.cls=.type "tuple"∧o.dict=none
theorem B1.tyV {K:KKf}{a:Addr}{xs:List V}(h:B1 K a xs)(H:Hp):tyV K "tuple" (.ref a) H:=.inr (.inl ⟨rfl,h.ty⟩)
def Ahs (K:KKf):R2:=fun x y H Q=>match y with
 |.ref p=>∃xs,(A3 K H p xs∨Ec K H p xs)∧Fl x=true∧xs.all Fl=true∧Q (.bl (!inV x xs)) H
 |_=>False
theorem Ahf:Dy X (compareOp .NotIn) (Ahs X.K):=by
 intro pins s σ H x y v u Q I rx ry q
 cases y<;>first
  |eC False.elim q
  | (obtain ⟨xs,h1,h2,h3,q⟩:=q
     eC Vo _ _ _ _ _ _ _ _ _ I rx ry ⟨_,xs,rfl,h1,h2,h3,q⟩)
def Apx:List V→Hp→VK→Prop:=fun xs H Q=>match xs with
 |[.str x]=>∃n,PySem.intText? x=some n∧x.length≤640∧Q (.int n) H
 |_=>False
theorem Z1:Dg X (.type "int") Apx:=by
 intro pins s σ H xs us Q I r h
 match xs,h with
 |[.str x],⟨n,h1,h2,q⟩=>
  obtain ⟨u,rfl,r1⟩:=F2 r
  obtain ⟨t,rfl⟩:=r1
  eC PySem.W.KIN.call_text h1 h2 ⟨.int n,H,I.tok _,⟨_,rfl⟩,q⟩
def Aoy:V→List V→Hp→VK→Prop:=fun x xs H Q=>match x,xs with
 |.str x,[.str y]=>Q (.bl (Txt.endswith x y)) H
 |_,_=>False
theorem Al0:MtR X "str.endswith" Aoy:=by
 intro pins s σ H x xs v us Q I rx rs h
 match x,xs,h with
 |.str x,[.str y],q=>
  obtain ⟨t,rfl⟩:=rx
  obtain ⟨u,rfl,r1⟩:=F2 rs
  obtain ⟨t',rfl⟩:=r1
  eC PySem.SC.endswith ⟨.bl _,H,I,rfl,q⟩
def Alm:V→List V→Hp→VK→Prop:=fun x xs H Q=>match x,xs with
 |.str x,[.str y]=>(y.length==0)=false∧x.length≤1000∧∀l H',Ah H H'→H' l=some (.lst ((Txt.split x y).map V.str))→Q (.ref l) H'
 |_,_=>False
theorem Rq:∀(tk:Nat) (xs:List Str),A7 (xs.map V.str) (strsFrom tk xs)
 |_,[]=>.nil
 |tk,x::r=>.cons ⟨_,rfl⟩ (Rq (tk+1) r)
theorem Aaq:MtR X "str.split" Alm:=by
 intro pins s σ H x xs v us Q I rx rs h
 match x,xs,h with
 | .str x,[.str y],⟨hy,hx,q⟩=>
  obtain ⟨t,rfl⟩:=rx
  obtain ⟨u,rfl,r1⟩:=F2 rs
  obtain ⟨t',rfl⟩:=r1
  have big:(1002:Nat)≤sizeLine:=by decide
  have hl:=PyProof.Rows.split_le x y
  have hn:=I.hok.fresh (AF _)
  have out:∀(l:List Value) (tk:Nat),A7 ((Txt.split x y).map V.str) l→EP X pins σ Q (.ref s.heap.objs.size) { s with heap:=s.heap.push { cls:=.type "list",data:=.seq l.toArray },toks:=tk }:=by
   intro l tk hv
   rA ⟨.ref _,_,I.laid (t':=tk) (o:=.lst ((Txt.split x y).map V.str)) (fun b ob q=>AB _ q) (AF _) ?_,rfl,q _ _ (Ap hn) Ag⟩
   eC ⟨by rw [AE];omega,l,0,hv,AG _ rfl⟩
  cases h1:(decide (x.length<y.length)||decide (Builtin.Str.strKind x<Builtin.Str.strKind y))
  ·cases hf:(Builtin.Str.occurrences x y 0 x.length (x.length+1)).isEmpty
   ·have e:Txt.split x y=Builtin.Str.partsBetween x (Builtin.Str.occurrences x y 0 x.length (x.length+1)) y.length:=(AI (ne_true_of_eq_false h1)).trans (AI (ne_true_of_eq_false hf))
    rA call_meets F.slot_str_split (GJ _ _ _) F.entry_str_split (F.args_str_split_2 _ _) (meets_str_split_sep x y t t' h1 hy hf #o (by rw [←e];omega)) ?_
    show wants (EP X pins σ Q) X.xe _ { s with toks:=_,heap:=s.heap.push { cls:=.type "list",data:=.seq (strsFrom s.toks (Builtin.Str.partsBetween x (Builtin.Str.occurrences x y 0 x.length (x.length+1)) y.length)).toArray } }
    eC out _ _ (by rw [e];eC Rq _ _)
   ·have e:Txt.split x y=[x]:=(AI (ne_true_of_eq_false h1)).trans (AN hf)
    eC call_meets F.slot_str_split (GJ _ _ _) F.entry_str_split (F.args_str_split_2 _ _) (meets_str_split_not_found x y t t' h1 hy hf) (out [.str x t] s.toks (by rw [e];eC .cons ⟨_,rfl⟩ .nil))
  ·have e:Txt.split x y=[x]:=AN h1
   eC call_meets F.slot_str_split (GJ _ _ _) F.entry_str_split (F.args_str_split_2 _ _) (meets_str_split_cannot_occur x y t t' h1) (out [.str x t] s.toks (by rw [e];eC .cons ⟨_,rfl⟩ .nil))
def PJ (X:Cx)(es:List Expr)(t:Str→L2.St→Hp→VK→Prop):Prop:=∀(pins:List (Addr×Obj)) (s:Shared) (σ:L2.St) (H:Hp) (acc:Str) (Q:VK),Ar X pins σ H s→t acc σ H Q→wpAny (model X.prog X.w) X.A (joinParts acc (evalEach es X.env)) (EP X pins σ Q) X.xe s
def tJ0:Str→L2.St→Hp→VK→Prop:=fun acc _ H Q=>acc.length≤sizeLine∧Q (.str acc) H
theorem Alh:PJ X [] tJ0:=fun pins s σ H acc Q I h=>PyProof.Rows.joinParts_nil ⟨.str acc,H,I.tok _,⟨_,rfl⟩,h.2⟩ h.1
def tJS (y:Str)(t:Str→L2.St→Hp→VK→Prop):Str→L2.St→Hp→VK→Prop:=fun acc σ H Q=>(acc++y).length≤sizeLine∧t (acc++y) σ H Q
theorem Zf {es:List Expr}{t:Str→L2.St→Hp→VK→Prop}{y:Str}{j:Nat}(hz:y.length≤sizeLine:=by decide +kernel)(h:PJ X es t):PJ X (.Constant (.str y) j pos::es) (tJS y t):=by
 intro pins s σ H acc Q I q
 rA PyProof.Rows.joinParts_cons (Bi (A6 (x:=y) (j:=j) (pos:=pos) pins s σ H (fun v H'=>v=.str y∧H'=H) I ⟨rfl,rfl⟩) fun v s1 ⟨x,H1,I1,r1,e1,e2⟩=>?_)
 subst e1 e2
 obtain ⟨tk,rfl⟩:=r1
 eC ⟨q.1,h pins s1 σ H1 _ Q I1 q.2⟩
def tJV (te:TE)(t:Str→L2.St→Hp→VK→Prop):Str→L2.St→Hp→VK→Prop:=fun acc σ H Q=>te σ H fun x H1=>match x with
 |.str y=>y.length≤sizeLine∧(acc++y).length≤sizeLine∧t (acc++y) σ H1 Q
 |.int i=>i.natAbs.log2<1920∧(acc++(toString i:Str)).length≤sizeLine∧t (acc++(toString i:Str)) σ H1 Q
 |_=>False
theorem U8 {e:Expr}{es:List Expr}{te:TE}{t:Str→L2.St→Hp→VK→Prop}(he:PE X e te)(h:PJ X es t):PJ X (.FormattedValue e (-1) none pos::es) (tJV te t):=by
 intro pins s σ H acc Q I q
 rA PyProof.Rows.joinParts_cons (PyProof.Rows.FormattedValue_plain (Bi (he pins s σ H _ I q) fun v s1 ⟨x,H1,I1,r1,q1⟩=>?_))
 cases x<;>first
  |eC False.elim q1
  | (rename_i y
     obtain ⟨tk,rfl⟩:=r1
     first
       |eC PyProof.Rows.formatField_str (fun t' k=>⟨q1.2.1,h pins _ σ H1 _ Q (I1.tok _) q1.2.2⟩) q1.1
       |eC PyProof.Rows.formatField_int_small q1.1 ⟨q1.2.1,h pins _ σ H1 _ Q (I1.tok _) q1.2.2⟩)
def dFS (t:Str→L2.St→Hp→VK→Prop):TE:=fun σ H Q=>t Str.empty σ H Q
theorem Anl {a b:Expr}{es:List Expr}{t:Str→L2.St→Hp→VK→Prop}(h:PJ X (a::b::es) t):PE X (.JoinedStr (a::b::es) pos) (dFS t):=fun pins s σ H Q I q=>PyProof.Rows.JoinedStr_many (h pins s σ H Str.empty Q I q)
end
section
open PySem.AutoSeq1 (wpAny_loadPart')
open PySem.MeetsSeq PySem.MeetsSeq2 PySem.MeetsSeq3 PySem.SeqRoads2 PySem.SeqAt
theorem Qt (l:Addr)(items:Array Value)(n:Nat)(dd:Option Addr)(sl:Array (Option Value))(x:Value)(e:Value→Bool)(j:Nat)(hj:j<items.size)(hit:e items[j]=true)(hno:∀m (hm:m<items.size),m<j→e items[m]=false) :
  Meets (Builtin.«tuple.index» ⟨[.ref l,x],[]⟩)
   (fun A R s=>s.heap.get? l=some { cls:=.type "tuple",dict:=dd,data:=.seq items n,slots:=sl }∧(∀y,y∈items→EqAt A.in1 s y x (e y))∧R (.ok (.ret (.int j s.toks))) { s with toks:=s.toks+1 }):=
 .of_wp fun prog w A R s h=>by
  obtain ⟨hp,g,d,tk,os⟩:=s;obtain ⟨hl,he,h⟩:=h
  unfold Builtin.«tuple.index»
  simp only [Std.Legacy.Range.forIn_eq_forIn_range']
  wp_walk using wpAny_loadPart' hl,wpAny_forIn_list _ (fun Es b s'=>b.1=none∧s'=⟨hp,g,d,tk,os⟩∧∃i,i≤j∧Es=(List.range' 0 items.size).drop i) _
  case turn=>
   rintro k Es b s' ⟨hb,rfl,i,hij,hz⟩
   have hlt:i<(List.range' 0 items.size).length:=by simp;omega
   rw [EM hlt] at hz
   injection hz with hk hrest
   have hk:k=i:=by rw [hk];simp
   subst hk
   have hi:k<items.size:=by simpa using hlt
   have e0:items[k]? =some items[k]:=by simp [hi]
   rw [e0]
   rA AA (he items[k] (Array.getElem_mem hi) prog w _ _ ?_)
   by_cases hkj:k=j
   ·subst hkj
    rw [hit]
    wp_walk
    eC ⟨_,rfl,h⟩
   ·rw [hno k hi #o]
    wp_walk
    eC ⟨rfl,rfl,k+1,by omega,hrest⟩
  case fin=>
   rintro ⟨b1,b2⟩ s' ⟨hb,rfl,i,hij,hz⟩
   have hlt:i<(List.range' 0 items.size).length:=by simp;omega
   rw [EM hlt] at hz
   cases hz
  case h=>
   rA ⟨rfl,rfl,0,AV _,?_⟩
   rw [GL]
   congr 1
   simp [Std.Legacy.Range.size]
section
variable {X:Cx}{pos:Pos}
def Ar4 (K:KKf):V→List V→Hp→VK→Prop:=fun x xs H Q=>match x,xs with
 |.ref p,[v]=>∃(ys:List V) (j:Nat) (y:V),Ec K H p ys∧Fl v=true∧ys.all Fl=true∧ys[j]? =some y∧eqV y v=true∧(∀m z,m<j→ys[m]? =some z→eqV z v=false)∧Q (.int (j:Int)) H
 |_,_=>False
theorem P8:∀{xs:List V} {us:List Value} {i:Nat} {u:Value},A7 xs us→us[i]? =some u→∃x,xs[i]? =some x∧RelV x u
 |_,_,i,_,.nil,h=>by simp at h
 |x::_,_::_,0,u,.cons r _,h=>by
  simp at h
  subst h
  eC ⟨x,rfl,r⟩
 |_::_,_::_,i+1,u,.cons _ t,h=>by
  simp at h
  obtain ⟨x,h1,h2⟩:=P8 t h
  eC ⟨x,by simpa using h1,h2⟩
theorem Amk:MtR X "tuple.index" (Ar4 X.K):=by
 intro pins s σ H x xs v us Q I rx rs h
 match x,xs,h with
 | .ref p,[z],⟨ys,j,y,h1,fz,fs,hj,hit,hno,q⟩=>
  cases rx
  obtain ⟨u,rfl,r1⟩:=F2 rs
  obtain ⟨its,rv,⟨o,e,c,n,dd⟩,_⟩:=I.tuple h1
  obtain ⟨oc,od,odt,osl⟩:=o
  cases c
  cases dd
  have hlen:=rv.length
  have hj1:j<its.length:=by
   rw [←hlen]
   eC (BI.mp hj).1
  rA call_meets F.slot_tuple_index (T:="tuple") ⟨_,e,rfl⟩ F.entry_tuple_index (F.args_tuple_index_2 _ _) (Qt p its.toArray n od osl u (X6 z) j (by simpa using hj1) ?_ ?_) ⟨e,fun w hw=>Gp r1 fz rv fs w (by simpa using hw),⟨.int _,H,I.tok _,⟨_,rfl⟩,q⟩⟩
  ·obtain ⟨y',h2,h3⟩:=P8 rv (i:=j) (u:=its[j]) (by simp [hj1])
   rw [hj] at h2
   cases h2
   have:=S4 (x:=z) h3 (CH.mp fs _ (BH hj))
   simpa [this] using hit
  ·intro m hm hmj
   have hm:m<its.length:=by simpa using hm
   obtain ⟨y',h2,h3⟩:=P8 rv (i:=m) (u:=its[m]) (by simp [hm])
   have:=S4 (x:=z) h3 (CH.mp fs _ (BH h2))
   simpa [this] using hno m y' hmj h2
end
end
theorem Wv {c:Nat}:∀{a b X Y:List Nat},a++c::X=b++c::Y→c∉a→c∉b→a=b∧X=Y
 |[],[],_,_,h,_,_=>⟨rfl,(List.cons.inj h).2⟩
 |[],d::b,_,_,h,_,hb=>absurd (AU.mpr (.inl (List.cons.inj h).1)) hb
 |d::a,[],_,_,h,ha,_=>absurd (AU.mpr (.inl (List.cons.inj h).1.symm)) ha
 |d::a,e::b,_,_,h,ha,hb=>by
  obtain ⟨h1,h2⟩:=List.cons.inj h
  obtain ⟨h3,h4⟩:=Wv h2 (fun z=>ha (AJ _ z)) (fun z=>hb (AJ _ z))
  eC ⟨by rw [h1,h3],h4⟩
theorem Cr (c:Nat)(a b:Str)(r:List Str):co (Str.join ⟨#[c]⟩ (a::b::r))=co a++c::co (Str.join ⟨#[c]⟩ (b::r)):=by
 show co (a++⟨#[c]⟩++Str.join ⟨#[c]⟩ (b::r))=_
 rw [Bq,Bq,M9,CN]
 rfl
theorem R5 (c:Nat):∀{ws vs:List Str},ws≠[]→vs≠[]→(∀p∈ws,c∉co p)→(∀p∈vs,c∉co p)→co (Str.join ⟨#[c]⟩ ws)=co (Str.join ⟨#[c]⟩ vs)→ws=vs
 |[],_,h,_,_,_,_=>absurd rfl h
 |_::_,[],_,h,_,_,_=>absurd rfl h
 |[a],[b],_,_,_,_,h=>by
  have:a=b:=Dn h
  rw [this]
 |[a],b::b'::r,_,_,ha,_,h=>by
  rw [Cr] at h
  have h:co a=_:=h
  rA absurd ?_ (ha a (AW.mpr rfl))
  rw [h]
  simp
 |a::a'::r,[b],_,_,_,hb,h=>by
  rw [Cr] at h
  have h:_=co b:=h
  rA absurd ?_ (hb b (AW.mpr rfl))
  rw [←h]
  simp
 |a::a'::r,b::b'::q,_,_,ha,hb,h=>by
  rw [Cr,Cr] at h
  obtain ⟨h1,h2⟩:=Wv h (ha a (AK ..)) (hb b (AK ..))
  have:=R5 c (ws:=a'::r) (vs:=b'::q) (by simp) (by simp) (fun p hp=>ha p (AJ _ hp)) (fun p hp=>hb p (AJ _ hp)) h2
  rw [Dn h1,this]
theorem Pr (c:Nat){ws:List Str}(h:ws≠[])(hf:∀p∈ws,c∉co p){x:Str}(hx:co x=co (Str.join ⟨#[c]⟩ ws)):Txt.split x ⟨#[c]⟩=ws:=by
 have h1:Txt.split x ⟨#[c]⟩≠[]:=by
  intro e
  have:=split_pos x ⟨#[c]⟩
  rw [e] at this
  eC absurd this #d
 eC R5 c h1 h (fun p hp=>StrLaws.split_free x c p hp) hf (by rw [StrLaws.join_split,hx])
theorem Apw (x:Str)(c:Nat):Txt.endswith x ⟨#[c]⟩=decide ((co x).getLast? =some c):=by
 have hl:=Bo x
 unfold Txt.endswith
 show (decide (0+1≤x.length)&&Builtin.Str.subAt x ⟨#[c]⟩ (x.length-1))=_
 by_cases h0:x.length=0
 ·have e:co x=[]:=List.eq_nil_of_length_eq_zero #o
  rw [e,h0]
  rfl
 ·have hlt:x.length-1<x.cps.size:=by
   show x.length-1<x.length
   omega
  rw [AQ #o,FE]
  unfold Builtin.Str.subAt
  have e1:x.cps.extract (x.length-1) (x.length-1+(⟨#[c]⟩:Str).length)=#[x.cps[x.length-1]]:=by
   show x.cps.extract (x.length-1) (x.length-1+1)=_
   apply Array.toList_inj.mp
   rw [Array.toList_extract,List.extract_eq_take_drop]
   simp [EM (show x.length-1<x.cps.toList.length by simpa using hlt)]
  have e2:(co x).getLast? =some x.cps[x.length-1]:=by
   rw [List.getLast?_eq_getElem?,hl]
   unfold co
   rw [DP]
   simp [hlt]
  rw [e1,e2]
  by_cases hc:x.cps[x.length-1]=c
  ·rw [hc]
   simp
  ·have:¬(#[x.cps[x.length-1]]:Array Nat)=#[c]:=by simpa using hc
   simp [hc]
theorem Ahd (x:Str):co (Txt.slice x none (some (-1)))=(co x).dropLast:=by
 have hl:=Bo x
 rw [Ql,HT.sIx_none,GL,Nat.sub_zero,List.dropLast_eq_take]
 congr 1
 show (if (-1:Int)<0 then (-1+(x.length:Int)).toNat else min (-1:Int).toNat x.length)=_
 rw [AN #d]
 omega
def fg (m:Nat):List Nat:=co (Str.ofString (toString ((m:Nat):Int)))
theorem Abb (m:Nat):fg m=(Nat.toDigits 10 m).map Char.toNat:=PySem.W.KIN.signs_num m
theorem Sv:∀d:Nat,d<10→(Nat.digitChar d).toNat=48+d:=by decide
theorem Xy {m:Nat}(h:m<10):fg m=[48+m]:=by
 rw [Abb,Nat.toDigits_of_lt_base h]
 simp [Sv m h]
theorem Sn {m:Nat}(h:10≤m):fg m=fg (m / 10)++[48+m % 10]:=by
 have hm:m % 10<10:=Nat.mod_lt m #d
 have t:Nat.toDigits 10 (m / 10)++Nat.toDigits 10 (m % 10)=Nat.toDigits 10 (10*(m / 10)+m % 10):=Nat.toDigits_append_toDigits #d #o hm
 rw [Nat.div_add_mod] at t
 rw [Abb,←t,CB,←Abb,Nat.toDigits_of_lt_base hm]
 simp [Sv _ hm]
theorem Yb:∀(m:Nat),∀c∈fg m,48≤c∧c≤57:=by
 intro m
 induction m using Nat.strongRecOn with
 | _ m ih=>
  intro c hc
  by_cases h:m<10
  ·rw [Xy h] at hc
   have:c=48+m:=by simpa using hc
   omega
  ·rw [Sn #o] at hc
   rcases BV.mp hc with hc|hc
   ·eC ih (m / 10) #o c hc
   ·have:c=48+m % 10:=by simpa using hc
    omega
theorem Aih:∀(m:Nat),0<m→∃c r,fg m=c::r∧49≤c:=by
 intro m
 induction m using Nat.strongRecOn with
 | _ m ih=>
  intro h0
  by_cases h:m<10
  ·eC ⟨_,_,Xy h,by omega⟩
  ·obtain ⟨c,r,h1,h2⟩:=ih (m / 10) #o #o
   rw [Sn #o,h1]
   eC ⟨c,_,rfl,h2⟩
theorem Afl {m:Nat}(h:m<10000):1≤(fg m).length∧(fg m).length≤4:=by
 have l1:∀k,k<10→(fg k).length=1:=fun k hk=>by rw [Xy hk];rfl
 have l2:∀k,k<100→1≤(fg k).length∧(fg k).length≤2:=fun k hk=>by
  by_cases h:k<10
  ·rw [l1 k h];omega
  ·rw [Sn #o,AM,l1 _ #o];simp
 have l3:∀k,k<1000→1≤(fg k).length∧(fg k).length≤3:=fun k hk=>by
  by_cases h:k<100
  ·have:=l2 k h;omega
  ·have:=l2 (k / 10) #o
   rw [Sn #o,AM];simp;omega
 by_cases h:m<1000
 ·have:=l3 m h;omega
 ·have:=l3 (m / 10) #o
  rw [Sn #o,AM];simp;omega
theorem Af7 (m:Nat):NumText.digitsVal (fg m)=m:=by
 rw [Abb]
 eC PySem.W.KIN.val_back m
end Lw
end
section
set_option autoImplicit false
namespace Lw
open PySem PySem.Spec PyProof.Rows L2
section
variable {X:Cx}{pos p2 p3 p4:Pos}
def Aqq:List V→Hp→VK→Prop:=fun xs H Q=>match xs with
 |[.bl b]=>Q (.int (if b then 1 else 0)) H
 |_=>False
theorem Afk:Dg X (.type "int") Aqq:=by
 intro pins s σ H xs us Q I r h
 match xs,h with
 |[.bl b],q=>
  obtain ⟨u,rfl,r1⟩:=F2 r
  cases (show u=Value.bool b from r1)
  eC PySem.call_int_bool ⟨.int _,H,I.tok _,⟨_,rfl⟩,q⟩
end
end Lw
end
section
namespace Lw
open PySem PySem.Spec PyProof.Rows L2
section
variable {prog:Program}{w:World}{A:Around}{R:Result→Shared→Prop}{s:Shared}
theorem Adu (elt tg iter cd:Expr)(scope:Scope)(pos:Pos)(it acc:Value)(env:Env) :
  compTurn (.ListComp elt [⟨tg,iter,[cd],0⟩] scope pos) 0 it acc env=(standAt iter.pos >>= fun _=>pyNext it >>= fun r=>match r with
   |none=>pure (.done .next)
   |some v=>letOwnedTupleGo tg it v >>= fun _=>assign tg env v >>= fun _=>isTrue cd env (eval cd env) >>= fun b=>if b=true then ((eval elt env >>= fun x=>call (.builtin "list.append") [acc,x] >>= fun _=>pure ()) >>= fun _=>again (.compLoop (.ListComp elt [⟨tg,iter,[cd],0⟩] scope pos) 0 it acc env)) else again (.compLoop (.ListComp elt [⟨tg,iter,[cd],0⟩] scope pos) 0 it acc env)):=by
 unfold compTurn
 simp only [List.getElem?_cons_zero,CO,BL,DD,List.forIn_cons,List.forIn_nil,FO]
 congr 1
 funext _
 congr 1
 funext r
 cases r with
 |none=>rfl
 |some v=>
  simp only [bind_assoc,pure_bind]
  rfl
theorem Zg {elt tg iter cd:Expr}{scope:Scope}{pos:Pos}{it acc:Value}{env:Env}(I:Nat→Shared→Prop)
  (turn:∀n s,I n s→wpAny (model prog w) A (pyNext it) (fun r s1=>(r=none∧R (.ok .next) s1)∨∃v,r=some v∧wpAny (model prog w) A (letOwnedTupleGo tg it v) (fun _ s2=>wpAny (model prog w) A (assign tg env v) (fun _ s3=>
   wpAny (model prog w) A (isTrue cd env (eval cd env)) (fun b s3=>Br b (wpAny (model prog w) A (eval elt env) (fun x s4=>wpAny (model prog w) A (call (.builtin "list.append") [acc,x]) (fun _ s5=>∃m,m<n∧I m s5) (fun _ _=>False) s4) (fun _ _=>False) s3) (∃m,m<n∧I m s3)) (fun _ _=>False) s3) (fun _ _=>False) s2) (fun _ _=>False) s1) (fun _ _=>False) s)
  (n:Nat) (h:I n s):codeAny (model prog w) A (.compLoop (.ListComp elt [⟨tg,iter,[cd],0⟩] scope pos) 0 it acc env) R s:=by
 rA codeAny_loop rfl I (fun n s hI=>?_) n h
 show wpAny _ _ ((compTurn (.ListComp elt [⟨tg,iter,[cd],0⟩] scope pos) 0 it acc env).onRaise (fun x=>do noteFrame x env;theTreesLotGoes x)) _ _ s
 rA wpAny_noted ?_
 rw [Adu]
 rA AA (wpAny_standAt (AA (BP (turn n s hI) (fun r s1 h1=>?_) fun _ _ z=>z.elim)))
 rcases h1 with ⟨rfl,h1⟩|⟨v,rfl,h1⟩
 ·eC AC h1
 ·rA AA (BP h1 (fun _ s2 h2=>?_) fun _ _ z=>z.elim)
  rA AA (BP h2 (fun _ s3 h3=>?_) fun _ _ z=>z.elim)
  rA AA (BP h3 (fun b s3 h3=>?_) fun _ _ z=>z.elim)
  cases b with
  |true=>
   rA AA (AA (BP (h3.1 rfl) (fun x s4 h4=>?_) fun _ _ z=>z.elim))
   rA AA (BP h4 (fun _ s5 h5=>?_) fun _ _ z=>z.elim)
   eC AC (AC ⟨rfl,h5⟩)
  |false=>eC AC ⟨rfl,h3.2 rfl⟩
end
@[irreducible] def Mv (J:It) (g:TG) (tc:TT) (te:TE) (k:Nat) (js:List Nat) (σ:L2.St) (H1:Hp) (Q:VK):Prop:=∀D,H1 D=none→∃W:Nat→Nat→Hp→Prop,(∃m,W 0 m (upd H1 D (.lst [])))∧∀i m H,W i m H →
 (J.stop i H∧Q (.ref D) H)∨(J.go i H∧∀x H',J.yld i H x H'→g x (List.replicate k none++capσ js σ) H' fun σ2 H2=>σ2.drop k=capσ js σ∧tc σ2 H2 fun b H3=>Br b (te σ2 H3 fun v H4=>∃xs,H4 D=some (.lst xs)∧xs.length<sizeLine∧∃m',m'<m∧W (i+1) m' (upd H4 D (.lst (xs++[v])))) (∃m',m'<m∧W (i+1) m' H3))
def Qs (wi:TI)(g:TG)(tc:TT)(te:TE)(k:Nat)(js:List Nat):TE:=fun σ H Q=>wi σ H fun J H1=>Mv J g tc te k js σ H1 Q
section
variable {X:Cx}
theorem O5 {elt iter tg cd:Expr}{scope:Scope}{pos:Pos}{wi:TI}{te:TE}{tc:TT}{g:TG}{N:List Str}{cl:List (Str×Addr)}(k:Nat)(js:List Nat)(hi:PI X tg iter wi)
  (hg:∀C s H fp,PG (Jr X N s H (compEnvC scope cl C X.env) fp) tg g) (hd:∀C s H fp,PT (Jr X N s H (compEnvC scope cl C X.env) fp) cd tc) (he:∀C s H fp,PE (Jr X N s H (compEnvC scope cl C X.env) fp) elt te) (hcalm:X.calm=true)
  (hclos:closureFor scope X.env=pure cl) (hkind:scope.kind=.function) (hcell:∀y∈scope.names,y.2≠.cell) (hnames:∀y∈scope.names,y.2=.local→scope.names.lookup y.1=some .local)
  (hcl:∀y c,cl.lookup y=some c→X.env.cells.lookup y=some c) (hhas:∀y,((relabel scope X.env).names.lookup y=some .cell∨(relabel scope X.env).names.lookup y=some .free)→∃c,cl.lookup y=some c)
  (hlen:N.length=k+js.length) (hcap:∀i j,js[i]? =some j→∃y,N[k+i]? =some y∧Cap X (relabel scope X.env) cl j y)
  (hs:∀x,foldedSetIterable iter X.env x=pure x) {pins:List (Addr×Obj)} {s:Shared} {σ:L2.St} {H:Hp} {Q:VK} (I:Ar X pins σ H s) (h:Qs wi g tc te k js σ H Q) {cpos:Pos} {use:Option (Value→Sem Unit)} {Qv:Value→Shared→Prop}
  (fin:∀(s6:Shared) (H5:Hp) (D C:Addr) (m:Str→Option Value),Ar X pins σ H5 s6→s6.heap.Ns C m→H5 C=none→X.s₀.heap.objs.size≤C→C≠X.env.locals→(∀x c,X.env.cells.lookup x=some c→c≠C)→(∀p∈X.pn++pins,p.1≠C)→Q (.ref D) H5 →
   compPost (model X.prog X.w) X.A X.xe use Qv (.ref D) C (.ok .next) s6) :
  wpAny (model X.prog X.w) X.A (comprehension (.ListComp elt [⟨tg,iter,[cd],0⟩] scope pos) scope X.env cpos (newList []) false (eval iter X.env) use) Qv X.xe s:=by
 rA wpAny_comprehension_free (use:=use) rfl hs hclos hkind hnames (Bi (hi pins s σ H _ I h) fun v s1 h1=>Bi h1 fun itv s2 h2=>?_)
 obtain ⟨it,fp,tn,J,H2,rfl,I2,T,st2,f2,h2⟩:=h2
 rA BS ?_
 have hD:H2 s2.heap.objs.size=none:=I2.hok.fresh (AF _)
 unfold Mv at h2
 obtain ⟨W,⟨m0,w0⟩,turn⟩:=h2 _ hD
 have I3:Ar X pins σ (upd H2 s2.heap.objs.size (.lst [])) { s2 with heap:=s2.heap.push { cls:=.type "list",dict:=none,data:=.seq ([]:List Value).toArray } } :=
  I2.laid (t':=s2.toks) (fun b u e=>AB _ e) (AF _) ⟨AV _,[],0,.nil,AG _ rfl⟩
 have hlt:∀b∈fp,b<s2.heap.objs.size:=fun b hb=>by
  obtain ⟨o,e,_⟩:=T.obj _ _ st2 b hb
  eC AH e
 have f3:∀b∈fp,Ma X pins (upd H2 s2.heap.objs.size (.lst [])) b:=fun b hb=>⟨by rw [Ao (AS (hlt b hb))];eC (f2 b hb).1,(f2 b hb).2⟩
 have st3:tn 0 (s2.heap.push { cls:=.type "list",dict:=none,data:=.seq ([]:List Value).toArray }):=T.keep _ _ _ st2 fun b hb o e=>AB _ e
 have hlt3:∀b∈fp,b<(s2.heap.push { cls:=.type "list",dict:=none,data:=.seq ([]:List Value).toArray }).objs.size:=fun b hb=>AL (hlt b hb) (by rw [BW];eC CT _)
 generalize hs3:({ s2 with heap:=s2.heap.push { cls:=.type "list",dict:=none,data:=.seq ([]:List Value).toArray } }:Shared)=s3 at I3
 have eh:s3.heap=s2.heap.push { cls:=.type "list",dict:=none,data:=.seq ([]:List Value).toArray }:=by rw [←hs3]
 rw [←eh] at st3 hlt3
 generalize hDD:s2.heap.objs.size=D at *
 generalize hH3:upd H2 D (.lst [])=H3 at *
 clear hs3 eh
 rA wpAny_newFunctionEnv (s:=s3) hcell (by intro y hy;simp at hy) (fun h4 n4 sb4=>?_) hkind
 have Ok:=Aau (N:=N) (C:=s3.heap.objs.size) I3 hkind (AF _) hcl hhas fun b hb=>⟨f3 b hb,hlt3 b hb⟩
 show codeAny _ _ (.compStart (.ListComp elt [⟨tg,iter,[cd],0⟩] scope pos) 0 (.ref it) (.ref D) (compEnvC scope cl s3.heap.objs.size X.env)) _ _
 generalize hC:s3.heap.objs.size=C at *
 have old:∀b o,s3.heap.get? b=some o→h4.get? b=some o:=fun b o e=>sb4.extBut b o (by rw [←hC];eC AS (AH e)) (AB _ e)
 have fresh:H3 C=none:=I3.hok.fresh (by rw [hC];eC AF _)
 have hcapl:∀{i:Nat} {x:Str} {v:V},N[i]? =some x→(List.replicate k none++capσ js σ)[i]? =some (some v)→∃u,L2.RelV v u∧Ak6 (compEnvC scope cl C X.env) h4 (fun _=>none) x u:=by
  intro i x v e1 e2
  by_cases hik:i<k
  ·rw [CF (by simpa using hik)] at e2
   rw [DR] at e2
   simp [hik] at e2
  ·rw [BN (by simpa using DU hik),EH] at e2
   unfold capσ at e2
   rw [BJ] at e2
   cases ej:js[i-k]? with
   |none=>
    rw [ej] at e2
    cases e2
   | some j=>
    rw [ej] at e2
    have e2:(σ[j]?).join=some v:=Option.some.inj e2
    obtain ⟨y,hy,cp⟩:=hcap _ _ ej
    rw [show k+(i-k)=i by omega,e1] at hy
    cases hy
    obtain ⟨m,_,hl⟩:=I3.loc
    have e3:σ[j]? =some (some v):=by
     cases q:σ[j]? with
     |none=>
      rw [q] at e2
      cases e2
     |some o=>
      rw [q] at e2
      have:o=some v:=e2
      rw [this]
    obtain ⟨u,ru,lk⟩:=hl j x v cp.nm e3 (.inr (.inl cp.ko))
    rA ⟨u,ru,?_⟩
    rcases lk with ⟨z,_⟩|⟨_,c,hc,z⟩
    ·rw [cp.ko] at z
     cases z
    ·rA .inr ⟨.inl cp.ki,c,by rw [←hc];eC cp.cl,?_⟩
     obtain ⟨o,e,d⟩:=z
     eC ⟨o,old _ _ e,d⟩
 have I4:Ar (Jr X N s3 H3 (compEnvC scope cl C X.env) fp) [] (List.replicate k none++capσ js σ) H3 { s3 with heap:=h4,toks:=s3.toks+([]:List (Str×Value)).length }:=by
  rA ⟨Ok,rfl,I3.bare,Un.kept old,⟨_,n4,fun i x v e1 e2 e3=>?_⟩,fun x c e=>?_,fresh,fun x c e=>I3.freeC x c (hcl x c e),fun p hp=>absurd hp (by simp),I3.hok.kept old,?_⟩
  ·obtain ⟨u,ru,lk⟩:=hcapl e1 e2
   rA ⟨u,ru,?_⟩
   rcases lk with ⟨z,q⟩|q
   ·cases q
   ·eC .inr q
  ·obtain ⟨v,o,e1,d⟩:=I3.cell x c (hcl x c e)
   eC ⟨v,o,old _ _ e1,d⟩
  ·simp [capσ,hlen]
 have fp4:∀{H':Hp},(∀b∈fp,H' b=none)→∀b∈fp,Ma (Jr X N s3 H3 (compEnvC scope cl C X.env) fp) [] H' b:=fun hn b hb=>
  ⟨hn b hb,(Ok.exf b hb).1,Ok.exfs b hb,.inl hb,fun x c e=>(Ok.exf b hb).2 x c e,fun p hp=>absurd hp (by simp)⟩
 have st4:tn 0 h4:=T.keep _ _ _ st3 fun b hb o e=>old b o e
 have run:∀s4:Shared,s4={ s3 with heap:=h4,toks:=s3.toks+([]:List (Str×Value)).length } →
   codeAny (model X.prog X.w) X.A (.compLoop (.ListComp elt [⟨tg,iter,[cd],0⟩] scope pos) 0 (.ref it) (.ref D) (compEnvC scope cl C X.env)) (compPost (model X.prog X.w) X.A X.xe use Qv (.ref D) C) s4:=by
  rintro s4 rfl
  rA Zg (fun n s'=>∃i H' σ',Ar (Jr X N s3 H3 (compEnvC scope cl C X.env) fp) [] σ' H' s'∧(∀j:Nat,∀v,(List.replicate k none++capσ js σ)[j]? =some (some v)→σ'[j]? =some (some v))∧tn i s'.heap∧(∀b∈fp,H' b=none)∧W i n H') ?_ m0
   ⟨0,H3,_,I4,fun _ _ z=>z,st4,fun b hb=>(f3 b hb).1,w0⟩
  rintro n s5 ⟨i,H5,σ5,I5,cap5,st5,fr5,w5⟩
  have I5':=I5.weak (σ':=List.replicate k none++capσ js σ) (by rw [I5.len];simp [capσ,hlen]) cap5
  rcases turn i n H5 w5 with ⟨stop,q⟩|⟨go,step⟩
  ·rA Bi (T.done (Jr X N s3 H3 (compEnvC scope cl C X.env) fp) rfl rfl rfl hcalm i [] s5 σ5 H5 _ I5 (fp4 fr5) st5 stop) fun r s6 ⟨hr,I6⟩=>.inl ⟨hr,?_⟩
   obtain ⟨m6,n6,_⟩:=I6.loc
   have hCf:H5 C=none:=I6.free
   have u6:=I6.base
   have uC:Un (K5 X.stack) fp H3 H5 s3.heap s6.heap:=⟨u6.keep,u6.slot,u6.free,u6.there,u6.tups,u6.frzs,u6.tbls⟩
   have I7:Ar X pins σ H5 s6:=I3.call' (s':=s6) I6.os uC I6.hok I6.bare fun b hb=>⟨(f3 b hb).2.2.2.1,(f3 b hb).2.1,(f3 b hb).2.2.2.2.1,(f3 b hb).2.2.2.2.2⟩
   have lt3:∀b o,s3.heap.get? b=some o→b≠C:=fun b o e=>by rw [←hC];eC AS (AH e)
   rA fin s6 H5 D C m6 I7 n6 hCf (by rw [←hC];eC I3.sz) (by rw [←hC];eC CP I3.lt) (fun x c e=>?_) (fun p hp=>lt3 p.1 p.2 (I3.pin p hp).1) q
   obtain ⟨v,o,e1,_⟩:=I3.cell x c e
   eC lt3 c o e1
  ·rA Bi (T.item (Jr X N s3 H3 (compEnvC scope cl C X.env) fp) rfl rfl rfl hcalm i [] s5 _ H5 _ I5' (fp4 fr5) st5 go) fun r s6 ⟨u,hr,h6⟩=>.inr ⟨u,hr,?_⟩
   rA Bi h6 fun _ s7 ⟨x,H7,I7,r7,y7,st7,fr7⟩=>?_
   have I7':=I7.pinned (fp4 fr7) (T.obj _ _ st7)
   rA Bi (hg C s3 H3 fp _ s7 _ H7 x u _ I7' r7 (step x H7 y7)) fun _ s8 ⟨σ8,H8,I8,d8,q8⟩=>?_
   have capk:∀(j:Nat) v,(List.replicate k none++capσ js σ)[j]? =some (some v)→σ8[j]? =some (some v):=fun j v e=>by
    by_cases hjk:j<k
    ·rw [CF (by simpa using hjk),DR] at e
     simp [hjk] at e
    ·rw [BN (by simpa using DU hjk),EH,←d8,List.getElem?_drop] at e
     rw [show k+(j-k)=j by omega] at e
     eC e
   rA Bi (hd C s3 H3 fp _ s8 σ8 H8 _ I8 q8) fun b s8' ⟨H8',I8',q8'⟩=>⟨fun hb=>?_,fun hb=>?_⟩
   ·rA Bi (he C s3 H3 fp _ s8' σ8 H8' _ I8' (q8'.1 hb)) fun vv s9 ⟨vx,H9,I9,r9,xs,hx9,hz9,m',hm',w9⟩=>?_
    obtain ⟨z9,its,n9,rl,e9⟩:=(show Bg X.prog X.w H9 s9.heap D (.lst xs) from I9.hok D _ hx9)
    have app:=Ju (X:=Jr X N s3 H3 (compEnvC scope cl C X.env) fp) _ s9 σ8 H9 (.ref D) [vx] (.ref D) [vv] (fun _ H'=>H'=upd H9 D (.lst (xs++[vx]))) I9 rfl (.cons r9 .nil) ⟨D,xs,vx,rfl,rfl,hx9,hz9,rfl⟩
    rA Bi app fun _ s10 ⟨_,H10,I10,_,e10⟩=>?_
    subst e10
    rA ⟨m',hm',i+1,_,σ8,I10.unpinned (pins:=[]),capk,T.keep _ _ _ st7 fun b hb o e=>(I10.pin (b,o) (AX _ (AX _ (C2 hb e)))).1,fun b hb=>?_,w9⟩
    obtain ⟨o,e,d⟩:=T.obj _ _ st7 b hb
    eC (I10.pin (b,o) (AX _ (AX _ (C2 hb e)))).2.1
   ·obtain ⟨m',hm',w9⟩:=q8'.2 hb
    rA ⟨m',hm',i+1,_,σ8,I8'.unpinned (pins:=[]),capk,T.keep _ _ _ st7 fun b hb o e=>(I8'.pin (b,o) (AX _ (AX _ (C2 hb e)))).1,fun b hb=>?_,w9⟩
    obtain ⟨o,e,d⟩:=T.obj _ _ st7 b hb
    eC (I8'.pin (b,o) (AX _ (AX _ (C2 hb e)))).2.1
 eC codeAny_compStart_list (run _ rfl) (T.self X.A 0 _ _ _ st4 (run _ rfl))
theorem Ahc {elt iter tg cd:Expr}{scope:Scope}{pos:Pos}{wi:TI}{te:TE}{tc:TT}{g:TG}{N:List Str}{cl:List (Str×Addr)}(k:Nat)(js:List Nat)(hi:PI X tg iter wi)
  (hg:∀C s H fp,PG (Jr X N s H (compEnvC scope cl C X.env) fp) tg g) (hd:∀C s H fp,PT (Jr X N s H (compEnvC scope cl C X.env) fp) cd tc) (he:∀C s H fp,PE (Jr X N s H (compEnvC scope cl C X.env) fp) elt te) (hcalm:X.calm=true)
  (hclos:closureFor scope X.env=pure cl) (hkind:scope.kind=.function) (hcell:∀y∈scope.names,y.2≠.cell) (hnames:∀y∈scope.names,y.2=.local→scope.names.lookup y.1=some .local)
  (hcl:∀y c,cl.lookup y=some c→X.env.cells.lookup y=some c) (hhas:∀y,((relabel scope X.env).names.lookup y=some .cell∨(relabel scope X.env).names.lookup y=some .free)→∃c,cl.lookup y=some c)
  (hlen:N.length=k+js.length) (hcap:∀i j,js[i]? =some j→∃y,N[k+i]? =some y∧Cap X (relabel scope X.env) cl j y)
  (hs:∀x,foldedSetIterable iter X.env x=pure x:=by intro _;rfl):PE X (.ListComp elt [⟨tg,iter,[cd],0⟩] scope pos) (Qs wi g tc te k js):=by
 intro pins s σ H Q I h
 rw [eval_ListComp]
 rA O5 k js hi hg hd he hcalm hclos hkind hcell hnames hcl hhas hlen hcap hs I h fun s6 H5 D C m I6 n6 z1 z2 z3 z4 z5 q=>⟨m,n6,fun h7 sb7=>⟨.ref D,H5,?_,rfl,q⟩⟩
 eC I6.turned (t':=s6.toks) (fun b o hb e=>(sb7.2 b hb).trans e) z1 z3.symm.symm (.inr z2) z4 z5
theorem Adj {elt iter tg cd:Expr}{scope:Scope}{pos py spos:Pos}{i:Nat}{y:Str}{wi:TI}{te:TE}{tc:TT}{g:TG}{N:List Str}{cl:List (Str×Addr)}(k:Nat)(js:List Nat)(hi:PI X tg iter wi)
  (hg:∀C s H fp,PG (Jr X N s H (compEnvC scope cl C X.env) fp) tg g) (hd:∀C s H fp,PT (Jr X N s H (compEnvC scope cl C X.env) fp) cd tc) (he:∀C s H fp,PE (Jr X N s H (compEnvC scope cl C X.env) fp) elt te) (hcalm:X.calm=true)
  (hclos:closureFor scope X.env=pure cl) (hkind:scope.kind=.function) (hcell:∀y∈scope.names,y.2≠.cell) (hnames:∀y∈scope.names,y.2=.local→scope.names.lookup y.1=some .local)
  (hcl:∀y c,cl.lookup y=some c→X.env.cells.lookup y=some c) (hhas:∀y,((relabel scope X.env).names.lookup y=some .cell∨(relabel scope X.env).names.lookup y=some .free)→∃c,cl.lookup y=some c)
  (hlen:N.length=k+js.length) (hcap:∀i j,js[i]? =some j→∃y,N[k+i]? =some y∧Cap X (relabel scope X.env) cl j y)
  (hs:∀x,foldedSetIterable iter X.env x=pure x) (hN:X.N.Nodup) (hi':X.N[i]? =some y) (hy:X.env.scope.names.lookup y=some .local) (hsw:swapsWith (.ListComp elt [⟨tg,iter,[cd],0⟩] scope pos) (some (.Name y py)) spos.line X.env=pure true) :
  PS X (.Assign [.Name y py] (.ListComp elt [⟨tg,iter,[cd],0⟩] scope pos) spos) (Aiq (Qs wi g tc te k js) (Abd i)):=by
 intro pins s σ H D I h
 rw [exec_Assign_Name_used _ _ _ _ hsw]
 rA AA (wpAny_standAt (AA ?_))
 show wpAny _ X.A (do let _ ←comprehension (.ListComp elt [⟨tg,iter,[cd],0⟩] scope pos) scope X.env _ (newList []) false (eval iter X.env) (some (assign (.Name y py) X.env))) _ _ s
 rA AA (BP (O5 k js hi hg hd he hcalm hclos hkind hcell hnames hcl hhas hlen hcap hs (use:=some (assign (.Name y py) X.env)) (Qv:=fun _ s'=>SP X pins D .next s') I h fun s6 H5 D' C m I6 n6 z1 z2 z3 z4 z5 q=>?_)
  (fun _ s' hq=>AC (AC hq)) fun _ _ e=>e)
 show wpAny _ X.A (assign (.Name y py) X.env (.ref D')) _ _ _
 rA wpAny_assign_Name (Rz I6 hN hi' (.inl hy) (v:=.ref D') rfl (fun s8 I8 ⟨a,sb,ha⟩=>?_) (.inr hy))
 have na:C≠a:=by
  rcases ha with rfl|ha
  ·eC z3
  ·eC CM (z4 _ _ ha)
 eC ⟨m,n6.sameBut sb na,fun h9 sb9=>⟨_,H5,I8.turned (t':=s8.toks) (fun b o hb e=>(sb9.2 b hb).trans e) z1 z3 (.inr z2) z4 z5,q⟩⟩
theorem Ael {elt iter tg cd:Expr}{scope:Scope}{pos:Pos}{wi:TI}{te:TE}{tc:TT}{g:TG}{cl:List (Str×Addr)}(own ys:List Str)(js:List Nat)(hclos:closureFor scope X.env=pure cl)(hi:PI X tg iter wi)
  (hg:∀C s H fp,PG (Jr X (own++ys) s H (compEnvC scope cl C X.env) fp) tg g) (hd:∀C s H fp,PT (Jr X (own++ys) s H (compEnvC scope cl C X.env) fp) cd tc) (he:∀C s H fp,PE (Jr X (own++ys) s H (compEnvC scope cl C X.env) fp) elt te) (hcalm:X.calm=true) (hkind:scope.kind=.function)
  (hcell:(scope.names.all fun y=>y.2 != .cell)=true) (hnames:(scope.names.all fun y=>y.2 != .local||scope.names.lookup y.1==some .local)=true) (hfr:(scope.names.all fun y=>y.2 != .free||(cl.map (·.1)).contains y.1)=true)
  (hcl:Po X.env.cells cl) (hcap:Rc X (relabel scope X.env) cl ys js) (hs:∀x,foldedSetIterable iter X.env x=pure x:=by intro _;rfl) :
  PE X (.ListComp elt [⟨tg,iter,[cd],0⟩] scope pos) (Qs wi g tc te own.length js):=by
 rw [CH] at hcell hnames hfr
 have hc:∀y∈scope.names,y.2≠.cell:=fun y hy z=>by
  have:=hcell y hy
  rw [z] at this
  cases this
 rA Ahc own.length js hi hg hd he hcalm hclos hkind hc (fun y hy z=>?_) hcl.at (fun y h=>?_) (by rw [AM,hcap.len]) (fun i j e=>?_) hs
 ·have:=hnames y hy
  rw [z] at this
  simpa using this
 ·obtain ⟨z,hz,rfl,hk⟩:∃z∈scope.names,z.1=y∧(z.2=.free∨z.2=.cell):=by
   rcases h with h|h
   ·eC Ck h (.inl rfl)
   ·eC Ck h (.inr rfl)
  rcases hk with hk|hk
  ·have:=hfr z hz
   rw [hk] at this
   eC G7 (by simpa using this)
  ·eC absurd hk (hc z hz)
 ·obtain ⟨y,h1,h2⟩:=hcap.at i j e
  eC ⟨y,by rw [BN (HA _ _),GP];eC h1,h2⟩
theorem Sy {elt iter tg cd:Expr}{scope:Scope}{pos py spos:Pos}{i:Nat}{y:Str}{wi:TI}{te:TE}{tc:TT}{g:TG}{cl:List (Str×Addr)}(own ys:List Str)(js:List Nat)(hclos:closureFor scope X.env=pure cl)(hi:PI X tg iter wi)
  (hg:∀C s H fp,PG (Jr X (own++ys) s H (compEnvC scope cl C X.env) fp) tg g) (hd:∀C s H fp,PT (Jr X (own++ys) s H (compEnvC scope cl C X.env) fp) cd tc) (he:∀C s H fp,PE (Jr X (own++ys) s H (compEnvC scope cl C X.env) fp) elt te) (hcalm:X.calm=true) (hkind:scope.kind=.function)
  (hcell:(scope.names.all fun y=>y.2 != .cell)=true) (hnames:(scope.names.all fun y=>y.2 != .local||scope.names.lookup y.1==some .local)=true) (hfr:(scope.names.all fun y=>y.2 != .free||(cl.map (·.1)).contains y.1)=true)
  (hcl:Po X.env.cells cl) (hcap:Rc X (relabel scope X.env) cl ys js) (hN:X.N.Nodup) (hi':X.N[i]? =some y) (hy:X.env.scope.names.lookup y=some .local) (hs:∀x,foldedSetIterable iter X.env x=pure x:=by intro _;rfl) (hsw:swapsWith (.ListComp elt [⟨tg,iter,[cd],0⟩] scope pos) (some (.Name y py)) spos.line X.env=pure true:=by rfl) :
  PS X (.Assign [.Name y py] (.ListComp elt [⟨tg,iter,[cd],0⟩] scope pos) spos) (Aiq (Qs wi g tc te own.length js) (Abd i)):=by
 rw [CH] at hcell hnames hfr
 have hc:∀y∈scope.names,y.2≠.cell:=fun y hy z=>by
  have:=hcell y hy
  rw [z] at this
  cases this
 rA Adj own.length js hi hg hd he hcalm hclos hkind hc (fun y hy z=>?_) hcl.at (fun y h=>?_) (by rw [AM,hcap.len]) (fun i j e=>?_) hs hN hi' hy hsw
 ·have:=hnames y hy
  rw [z] at this
  simpa using this
 ·obtain ⟨z,hz,rfl,hk⟩:∃z∈scope.names,z.1=y∧(z.2=.free∨z.2=.cell):=by
   rcases h with h|h
   ·eC Ck h (.inl rfl)
   ·eC Ck h (.inr rfl)
  rcases hk with hk|hk
  ·have:=hfr z hz
   rw [hk] at this
   eC G7 (by simpa using this)
  ·eC absurd hk (hc z hz)
 ·obtain ⟨y,h1,h2⟩:=hcap.at i j e
  eC ⟨y,by rw [BN (HA _ _),GP];eC h1,h2⟩
end
end Lw
end
section
namespace Lw
open PySem PySem.Spec PyProof.Rows L2
def dd (l:List Str)(x:Str):List Str:=if x∈l then l else l++[x]
def lS (a b:Str):Prop:=a.cps.toList<b.cps.toList
instance:DecidableRel lS:=fun a b=>inferInstanceAs (Decidable (a.cps.toList<b.cps.toList))
theorem Zy (a:Str):¬lS a a:=List.lt_irrefl _
theorem Ajt {a b c:Str}(h:lS a b)(h':lS b c):lS a c:=List.lt_trans h h'
theorem Yp {a b:Str}(h:¬lS a b)(h':¬lS b a):a=b:=by
 have e:=List.le_antisymm (List.not_lt.mp h') (List.not_lt.mp h)
 cases a;cases b
 simpa using Array.toList_inj.mp e
theorem Ao1 {a b:Str}(h:lS a b):¬lS b a:=List.lt_asymm h
abbrev Inc (l:List Str):Prop:=l.Pairwise lS
theorem Le:∀{l m:List Str},Inc l→Inc m→(∀x,x∈l↔x∈m)→l=m
 |[],[],_,_,_=>rfl
 |[],b::m,_,_,h=>absurd ((h b).mpr (AK ..)) (by simp)
 |a::l,[],_,_,h=>absurd ((h a).mp (AK ..)) (by simp)
 | a::l,b::m,h1,h2,h=>by
  have ⟨a1,a2⟩:=BY.mp h1
  have ⟨b1,b2⟩:=BY.mp h2
  have e:a=b:=by
   rcases AU.mp ((h a).mp (AK ..)) with e|e
   ·eC e
   ·rcases AU.mp ((h b).mpr (AK ..)) with f|f
    ·eC f.symm
    ·eC absurd (b1 a e) (Ao1 (a1 b f))
  subst e
  rw [Le a2 b2 fun x=>⟨fun hx=>?_,fun hx=>?_⟩]
  ·rcases AU.mp ((h x).mp (AJ _ hx)) with e|e
   ·subst e
    eC absurd (a1 x hx) (Zy x)
   ·eC e
  ·rcases AU.mp ((h x).mpr (AJ _ hx)) with e|e
   ·subst e
    eC absurd (b1 x hx) (Zy x)
   ·eC e
def Xp (x:Str):List Str→List Str
 |[]=>[x]
 |y::l=>if lS x y then x::y::l else if lS y x then y::Xp x l else y::l
theorem Pw {x z:Str}:∀{l:List Str},z∈Xp x l↔z=x∨z∈l
 |[]=>by simp [Xp]
 | y::l=>by
  unfold Xp
  split
  ·simp
  ·split
   ·simp only [AU,Pw (l:=l)]
    constructor
    ·rintro (h|h|h)
     ·eC .inr (.inl h)
     ·eC .inl h
     ·eC .inr (.inr h)
    ·rintro (h|h|h)
     ·eC .inr (.inl h)
     ·eC .inl h
     ·eC .inr (.inr h)
   ·rename_i h1 h2
    have e:=Yp h1 h2
    subst e
    simp
theorem X4 {x:Str}:∀{l:List Str},Inc l→Inc (Xp x l)
 |[],_=>FC ..
 | y::l,h=>by
  have ⟨h1,h2⟩:=BY.mp h
  unfold Xp
  split
  ·rename_i c
   eC BY.mpr ⟨fun z hz=>(AU.mp hz).elim (fun e=>e▸c) (fun e=>Ajt c (h1 z e)),h⟩
  ·split
   ·rename_i c
    eC BY.mpr ⟨fun z hz=>(Pw.mp hz).elim (fun e=>e▸c) (h1 z),X4 h2⟩
   ·eC h
def Vu (l:List Str):List Str:=l.foldr Xp []
theorem C8:∀(l:List Str),Inc (Vu l)
 |[]=>List.Pairwise.nil
 |x::l=>X4 (C8 l)
theorem Fc {x:Str}:∀{l:List Str},x∈Vu l↔x∈l
 |[]=>Iff.rfl
 |y::l=>by
  show x∈Xp y (Vu l)↔_
  rw [Pw,Fc (l:=l),AU]
theorem Zh {l:List Str}{x z:Str}:z∈dd l x↔z∈l∨z=x:=by
 unfold dd
 split
 ·rename_i h
  constructor
  ·eC .inl
  ·rintro (h'|rfl)
   ·eC h'
   ·eC h
 ·simp
theorem O8 {l:List Str}{x:Str}(h:l.Nodup):(dd l x).Nodup:=by
 unfold dd
 split
 ·eC h
 ·rename_i c
  rw [List.nodup_append]
  eC ⟨h,DH.mpr ⟨by simp,List.nodup_nil⟩,fun a ha b hb e=>by
   rw [AW] at hb
   subst hb e
   eC c ha⟩
def ddn (val:Nat→Str)(i:Nat):List Str:=((List.range i).map val).foldl dd []
theorem Lc (val:Nat→Str)(i:Nat):ddn val (i+1)=dd (ddn val i) (val i):=by
 unfold ddn
 rw [List.range_succ,CB,List.foldl_append]
 rfl
theorem Na (val:Nat→Str):∀i,(ddn val i).Nodup
 |0=>List.nodup_nil
 |i+1=>by
  rw [Lc]
  eC O8 (Na val i)
theorem Z9 {val:Nat→Str}{x:Str}:∀{i:Nat},x∈ddn val i↔∃j,j<i∧val j=x
 |0=>⟨fun h=>(by cases h),fun ⟨j,h,_⟩=>absurd h (Nat.not_lt_zero _)⟩
 | i+1=>by
  rw [Lc,Zh,Z9 (i:=i)]
  constructor
  ·rintro (⟨j,h,e⟩|e)
   ·eC ⟨j,CD h,e⟩
   ·eC ⟨i,DM _,e.symm⟩
  ·rintro ⟨j,h,e⟩
   rcases Nat.lt_succ_iff_lt_or_eq.mp h with h|rfl
   ·eC .inl ⟨j,h,e⟩
   ·eC .inr e.symm
theorem Lj {l:List Str}(h:l.Pairwise fun a b=>¬lS b a)(n:l.Nodup):Inc l:=by
 induction l with
 |nil=>eC List.Pairwise.nil
 |cons a l ih=>
  have ⟨h1,h2⟩:=BY.mp h
  have ⟨n1,n2⟩:=DH.mp n
  rA BY.mpr ⟨fun b hb=>?_,ih h2 n2⟩
  rA GF fun c=>n1 ?_
  have e:=Yp c (h1 b hb)
  eC e▸hb
theorem K1 {α:Type}:∀(l:List α) (i:Nat) (x:α),l[i]? =some x→(x::l.eraseIdx i).Perm l
 |[],i,x,h=>by simp at h
 |a::l,0,x,h=>by
  simp at h
  subst h
  eC List.Perm.refl _
 |a::l,i+1,x,h=>by
  simp only [DS] at h
  show (x::a::l.eraseIdx i).Perm (a::l)
  eC (List.Perm.swap ..).trans ((K1 l i x h).cons a)
theorem G9 {α:Type}[DecidableEq α]:∀{l m:List α},l.Nodup→(∀x∈l,x∈m)→l.length≤m.length
 |[],m,_,_=>AV _
 |a::l,m,n,h=>by
  have ⟨n1,n2⟩:=DH.mp n
  have ha:a∈m:=h a (AK ..)
  have:=G9 (l:=l) (m:=m.erase a) n2 fun x hx=>(List.mem_erase_of_ne (fun e:x=a=>n1 (e▸hx))).mpr (h x (AJ _ hx))
  rw [List.length_erase_of_mem ha] at this
  have:0<m.length:=List.length_pos_of_mem ha
  rw [AY]
  omega
theorem Fd {l:List Str}(h:Inc l):l.Nodup:=List.Pairwise.imp (S:=fun a b=>a≠b) (fun {a b} (h:lS a b) (e:a=b)=>Zy a (e▸h)) h
theorem Ab5 {names:List Str}{x:Str}:x∈ddn (fun i=>names.getD i ⟨#[]⟩) names.length↔x∈names:=by
 rw [Z9]
 constructor
 ·rintro ⟨j,h,rfl⟩
  rw [BF,AD h]
  eC ET h
 ·intro h
  obtain ⟨j,hj,e⟩:=List.mem_iff_getElem.mp h
  eC ⟨j,hj,by rw [BF,AD hj];eC e⟩
theorem Ahg (names:List Str):(ddn (fun i=>names.getD i ⟨#[]⟩) names.length).length≤(Vu names).length:=
 G9 (Na _ _) fun x hx=>Fc.mpr (Ab5.mp hx)
end Lw
end
section
namespace Lw
open PySem PySem.Spec PyProof.Rows L2
def Ll (w:World):Bool:=w.params.followText "set-order"
def tx (e:Int×Value):Str:=strOf e.2
structure Hn (prog:Program)(w:World)(o:Obj)(ss:List Str)(es:Array (Int×Value))(ep:Nat)(t:SetTable):Prop where
 ex:o.ExactSet
 dat:o.data=.set es ep t
 el:ElemsOf (PySem.strKind prog w) es.toList
 pm:(es.toList.map tx).Perm ss
 fit:t.fits es.size=true
 bd:es.size<scanBound
 led:t.led=!Ll w
 pl:0<es.size→t.plain=false
def Qo (prog:Program)(w:World)(h:Heap)(a:Addr)(ss:List Str):Prop:=∃o es ep t,h.get? a=some o∧Hn prog w o ss es ep t
theorem Hn.size {prog:Program}{w:World}{o:Obj}{ss:List Str}{es:Array (Int×Value)}{ep:Nat}{t:SetTable}(S:Hn prog w o ss es ep t):es.size=ss.length:=by
 rw [←S.pm.length_eq,AE,BK]
theorem Vh {t t':SetTable}{hs:Array Int}{n:Nat}{o:Array Nat}(h:t.relaid hs n=some (t',o)):t'.led=t.led∧t'.plain=t.plain:=by
 unfold SetTable.relaid SetTable.laid at h
 cases hl:SetTable.layClean (SetTable.sizeAbove n-1) hs with
 |none=>
  rw [hl] at h
  cases h
 |some ow=>
  rw [hl] at h
  cases h
  eC ⟨rfl,rfl⟩
theorem Ph (t:SetTable)(es:Array (Int×Value))(n:Nat):(relayAll t es n).2.1.led=t.led∧(t.plain=false→(relayAll t es n).2.1.plain=false):=by
 unfold relayAll
 split
 ·rename_i t' o e
  obtain ⟨h1,h2⟩:=Vh e
  dsimp only
  split
  ·eC ⟨h1,fun h=>h2.trans h⟩
  ·eC ⟨rfl,fun _=>rfl⟩
 ·eC ⟨rfl,fun _=>rfl⟩
theorem Rf (t:SetTable)(n:Nat):(t.orStandIn n).led=t.led:=by
 unfold SetTable.orStandIn
 split<;>rfl
theorem Y6 (t:SetTable)(es:Array (Int×Value))(h:Int)(x:Value):(layNew t es h x).2.1.led=t.led:=by
 unfold layNew
 split
 ·eC Rf _ _
 ·rfl
theorem Ajr {prog:Program}{w:World}{k:Str}{e:Int×Value}(h:(PySem.strKind prog w).is k e.2=true):tx e=k:=by
 obtain ⟨t,z⟩:=Value.isStrOf_shape h
 unfold tx
 rw [z]
 rfl
theorem Ad9 {prog:Program}{w:World}{h:Heap}{a:Addr}{o:Obj}{ss ss':List Str}{es es':Array (Int×Value)}{ep:Nat}{t t':SetTable}(ho:h.get? a=some o)(S:Hn prog w o ss es ep t)
  (e1:ElemsOf (PySem.strKind prog w) es'.toList) (e2:(es'.toList.map tx).Perm ss') (e3:t'.fits es'.size=true) (e4:es'.size<scanBound) (e5:t'.led=!Ll w) (e6:t'.plain=false) :
  ∃o',(h.update a (Obj.putSet es' t')).get? a=some o'∧Hn prog w o' ss' es' (ep+1) t':=by
 have g:=CA (Obj.putSet es' t') ho (by rw [putSet_of es' t' S.dat];rfl)
 rw [putSet_of es' t' S.dat] at g
 eC ⟨_,g,⟨S.ex,rfl,e1,e2,e3,e4,e5,fun _=>e6⟩⟩
section
variable {prog:Program}{w:World}{A:Around}{E:Value→Shared→Prop}{s:Shared}
theorem Ajs {f:Bool→Sem Unit}(hf:∀(b:Bool) (s1:Shared) (Q':Unit→Shared→Prop),Q' () s1→wpAny (model prog w) A (f b) Q' E s1){a:Addr}{o:Obj}{ss ss':List Str}{es es':Array (Int×Value)}{ep:Nat}{t t':SetTable}
  (ho:s.heap.get? a=some o) (S:Hn prog w o ss es ep t) (e1:ElemsOf (PySem.strKind prog w) es'.toList) (e2:(es'.toList.map tx).Perm ss') (e3:t'.fits es'.size=true) (e4:es'.size<scanBound) (e5:t'.led=!Ll w)
  (e6:t'.plain=false) {wd:Bool} {R:Option Bool→Shared→Prop} (q:∀g,Heap.SameBut a s.heap g→Qo prog w g a ss'→R (some true) { s with heap:=g }) :
  wpAny (model prog w) A (do
   storeSet a es' t'
   if (!wd&&t'.tooFull)=true then do { f (relayAll t' es' (SetTable.grown es'.size)).2.2;storeSet a (relayAll t' es' (SetTable.grown es'.size)).1 (relayAll t' es' (SetTable.grown es'.size)).2.1;pure (some true) } else pure (some true)) R E s:=by
 rA AA (wpAny_storeSet_of ho S.dat ?_ (FM e4))
 obtain ⟨o1,g1,S1⟩:=Ad9 ho S e1 e2 e3 e4 e5 e6
 have b1:=BU s.heap a (Obj.putSet es' t')
 split
 ·have r1:=relayAll_perm t' es' (SetTable.grown es'.size)
  have r2:=relayAll_fits t' es' (SetTable.grown es'.size)
  have r3:=Ph t' es' (SetTable.grown es'.size)
  generalize relayAll t' es' (SetTable.grown es'.size)=L at r1 r2 r3 ⊢
  obtain ⟨fs,u,gv⟩:=L
  dsimp only at r1 r2 r3 ⊢
  have hz:fs.size=es'.size:=by rw [←BK,r1.length_eq,BK]
  have hb:fs.size<scanBound:=by rw [hz];eC e4
  rA AA (hf _ _ _ (AA (wpAny_storeSet_of g1 S1.dat ?_ (FM hb))))
  obtain ⟨o2,g2,S2⟩:=Ad9 g1 S1 (e1.perm r1) ((r1.map tx).trans e2) r2 hb (r3.1.trans e5) (r3.2 e6)
  eC AC (q _ (b1.trans (BU _ a _)) ⟨o2,fs,_,u,g2,S2⟩)
 ·eC AC (q _ b1 ⟨o1,es',_,t',g1,S1⟩)
theorem Ase {a:Addr}{ss:List Str}{x:Str}{tk:Tok}{Q:Bool→Shared→Prop}(hS:Qo prog w s.heap a ss)(room:ss.length+1<scanBound)
  (q:∀b g,Heap.SameBut a s.heap g→Qo prog w g a (dd ss x)→Q b { s with heap:=g }):wpAny (model prog w) A (setAddHashed a (.str x tk) ((PySem.strKind prog w).hash x)) Q E s:=by
 obtain ⟨o,es,ep,t,ho,S⟩:=hS
 have key:(PySem.strKind prog w).is x (.str x tk)=true:=by
  show (x==x)=true
  simp
 have scn:(Value.str x tk).scannable=true:=rfl
 have hz:=S.size
 unfold setAddHashed setAddHashedIn
 rA CS (AA (EK ho S.dat S.fit ?_))
 dsimp only
 rw [byScan_of scn S.bd S.el]
 simp only [↓reduceIte]
 unfold setAddByScan
 rA AA (AA (GK (AA (wpAny_setScan_of (knd:=PySem.strKind prog w) key ho S.dat S.fit S.el ?_))))
 cases hr:List.findIdx? (fun e=>(PySem.strKind prog w).is x e.2) es.toList with
 |some j=>
  dsimp only
  obtain ⟨hj,hp,_⟩:=List.findIdx?_eq_some_iff_getElem.mp hr
  have hx:x∈ss:=S.pm.mem_iff.mp (BG.mpr ⟨_,ET hj,Ajr hp⟩)
  rA AC (AC ?_)
  rA q false s.heap (Heap.SameBut.refl a s.heap) ⟨o,es,ep,t,ho,?_⟩
  rw [show dd ss x=ss from AN hx]
  eC S
 | none=>
  dsimp only
  have hx:x∉ss:=fun h=>by
   obtain ⟨e,he,z⟩:=BG.mp (S.pm.mem_iff.mpr h)
   obtain ⟨⟨k,hk,_⟩,_⟩:=S.el e he
   have z':=(Ajr hk).symm.trans z
   subst z'
   have:=List.findIdx?_eq_none_iff.mp hr e he
   rw [hk] at this
   cases this
  have gw:∀(b:Bool) (s1:Shared) (Q':Unit→Shared→Prop),Q' () s1→wpAny (model prog w) A (match b with|true=>rule "set.scan.the-table-gave-way"|false=>pure ()) Q' E s1:=fun b s1 Q' h=>by
   cases b with
   |true=>eC GK h
   |false=>eC AC h
  have r1:=layNew_perm t es ((PySem.strKind prog w).hash x) (.str x tk)
  have r2:=layNew_fits t es ((PySem.strKind prog w).hash x) (.str x tk)
  have r3:=Y6 t es ((PySem.strKind prog w).hash x) (.str x tk)
  generalize layNew t es ((PySem.strKind prog w).hash x) (.str x tk)=L at r1 r2 r3 ⊢
  obtain ⟨fs,u,wd,gv⟩:=L
  dsimp only at r1 r2 r3 ⊢
  rw [Array.toList_push] at r1
  have f1:ElemsOf (PySem.strKind prog w) fs.toList:=(S.el.push key scn).perm r1
  have f2:(fs.toList.map tx).Perm (dd ss x):=by
   rw [show dd ss x=ss++[x] from AI hx]
   rA (r1.map tx).trans ?_
   rw [CB]
   eC S.pm.append_right _
  have fz:fs.size=es.size+1:=by rw [←BK,r1.length_eq,AM,BK];rfl
  have fb:fs.size<scanBound:=by rw [fz,hz];eC room
  have fin:∀g,Heap.SameBut a s.heap g→Qo prog w g a (dd ss x)→wpAny (model prog w) A (pure true) Q E { s with heap:=g }:=fun g b h=>AC (q true g b h)
  rA AA (gw _ _ _ ?_)
  split
  ·rA AA ?_
   rw [hashByValue_scannable 8 scn]
   rA AC ?_
   rA Ajs gw ho S f1 f2 (SetTable.fits_plain_off r2) fb (r3.trans S.led) rfl ?_
   intro g b h
   dsimp only
   eC fin g b h
  ·rename_i np
   rA AA (AC ?_)
   simp only [↓reduceIte]
   rA Ajs gw ho S f1 f2 r2 fb (r3.trans S.led) (by simpa using np) ?_
   intro g b h
   dsimp only
   eC fin g b h
theorem Ab9 (val:Nat→Str):∀i,(ddn val i).length≤i
 |0=>AF _
 | i+1=>by
  have h:=Ab9 val i
  rw [Lc]
  unfold dd
  split
  ·omega
  ·rw [AM,DO]
   omega
theorem Apz {R:Result→Shared→Prop}{I:Addr}{fp wr:List Addr}{G:Array GenState→Array GenState→Prop}{n:Nat}{P:Nat→Value→Prop}{St:Nat→Shared→Prop}(W:WalksS prog w A.in1 I fp wr G n P St)(S:Addr)(nS:S∉fp)
  (val:Nat→Str) (hv:∀i v,P i v→∃t,v=.str (val i) t) (hb:n+1<scanBound):∀(k i:Nat) (s:Shared),n-i=k→i≤n→St i s→Qo prog w s.heap S (ddn val i) →
   (∀s',Moved (S::wr) G s s'→Qo prog w s'.heap S (ddn val n)→R (.ok (.ret .none)) s')→codeAny (model prog w) A (.builtin "set.update.loop" ⟨[.ref S,.ref I],[]⟩) R s:=by
 have nw:S∉wr:=fun h=>nS (W.sub _ h)
 have sub:∀b∈wr,b∈S::wr:=fun b hb=>AJ _ hb
 have keepS:∀{s s':Shared} {ss:List Str},Moved wr G s s'→Qo prog w s.heap S ss→Qo prog w s'.heap S ss:=fun m ⟨o,es,ep,t,h,z⟩=>⟨o,es,ep,t,m.heap S _ nw h,z⟩
 intro k
 induction k with
 |zero=>
  intro i s hk hi st hS hR
  have e:i=n:=by omega
  subst e
  rA codeAny_builtin PyProof.Rows.F.entry_set_update_loop ?_
  rw [DF EF _]
  show wpAny _ A.in1 (pyNext (.ref I) >>= _) _ _ s
  rA AA (W.done s _ _ st fun s' m=>AC (hR s' (m.mono sub) (keepS m hS)))
 | succ k ih=>
  intro i s hk hi st hS hR
  have lt:i<n:=by omega
  rA codeAny_builtin PyProof.Rows.F.entry_set_update_loop ?_
  rw [DF EF _]
  show wpAny _ A.in1 (pyNext (.ref I) >>= _) _ _ s
  rA AA (W.item i s _ _ lt st fun v s' hP st' m=>?_)
  obtain ⟨t,rfl⟩:=hv i v hP
  have hS':=keepS m hS
  show wpAny _ A.in1 (holding [Value.str (val i) t] (setAdd S (.str (val i) t)) >>= _) _ _ s'
  rA AA (CS ?_)
  unfold setAdd
  rA CS (AA ((PySem.strKind prog w).pyHash (k:=val i) (by show (val i==val i)=true;simp) ?_))
  have room:(ddn val i).length+1<scanBound:=by have:=Ab9 val i;omega
  rA Ase (s:={ s' with toks:=s'.toks+1 }) hS' room fun b g sb hS2=>?_
  rw [←Lc] at hS2
  rA AC ⟨FW EF _,ih (i+1) _ #o lt (W.frame _ s' _ _ st' (CT _) fun c hc o e=>?_) hS2 fun s2 m2 z2=>?_⟩
  ·rw [sb.2 c (fun h:c=S=>nS (h▸hc))]
   eC e
  ·rA hR s2 (Moved.trans W.gtrans ((m.mono sub).then_heap (CT _) fun c o hc e=>?_) m2) z2
   rw [sb.2 c (fun h:c=S=>hc (by rw [h];eC AK))]
   eC e
def fsO (w:World):Obj:={ cls:=.type "set",dict:=none,data:=.set #[] 0 (.fresh 0 0 (!Ll w)) }
theorem fsS (h:Heap):Qo prog w (h.push (fsO w)) h.objs.size []:=
 ⟨fsO w,#[],0,_,AG _ rfl,⟨⟨rfl,rfl,rfl⟩,rfl,fun e he=>by simp at he,List.Perm.refl _,rfl,by decide,rfl,fun h=>absurd h #d⟩⟩
theorem Agc (v:Value){Q:Value→Shared→Prop}(q:Q (.ref s.heap.objs.size) { s with heap:=s.heap.push (fsO w) }):codeAny (model prog w) A (.call (.builtin "set.__new__") ⟨[.type "set",v],[]⟩) (wants Q E) s:=by
 rA codeAny_of_tree ?_
 show wpAny _ A.in1 (do { checkBuiltinCall "set.__new__" ⟨[.type "set",v],[]⟩;again (.builtin "set.__new__" ⟨[.type "set",v],[]⟩) }) _ _ s
 rA AA (wpAny_of_eq (PySem.F.newCall_set_1 v) (AC ⟨FW PySem.F.plain_set_new _,codeAny_builtin PySem.F.entry_set_new ?_⟩))
 rw [DF PySem.F.plain_set_new _];unfold Builtin.«set.__new__» Builtin.Frozenset.newClass
 have sub:=sub_set_self;obtain ⟨hp,g,d,tk,os⟩:=s;dsimp only
 wp_walk
 rA EU (AC ?_);dsimp only;simp only [newObj]
 rA AA (wpAny_alloc (AC (AC ?_)))
 eC q
theorem Ab4:∀{vs:List Value} {ss:List Str},StrsAre vs ss→∀(i:Nat) (v:Value),vs[i]? =some v→∃t,v=.str (ss.getD i ⟨#[]⟩) t
 |_,_,.nil,i,v,h=>by simp at h
 |_,_,.cons x t r,0,v,h=>by
  simp at h
  eC ⟨t,h.symm⟩
 |_,_,.cons x t r,i+1,v,h=>by
  simp only [DS] at h
  obtain ⟨t',e⟩:=Ab4 r i v h
  eC ⟨t',by rw [e];rfl⟩
theorem Acz {l:Addr}{vs:List Value}{ss:List Str}{Q:Value→Shared→Prop}(hh:A.handled=none)(hl:s.heap.IsList l vs.toArray)(hi:StrsAre vs ss)(hb:vs.length+1<scanBound)
  (q:∀g tk,Qo prog w g s.heap.objs.size (ddn (fun i=>ss.getD i ⟨#[]⟩) vs.length)→(∀b o,s.heap.get? b=some o→g.get? b=some o)→Q (.ref s.heap.objs.size) { s with heap:=g,toks:=tk }) :
  wpAny (model prog w) A (call (.type "set") [.ref l]) Q E s:=by
 obtain ⟨c,tl,mro⟩:=DE.mro
 have made:=DE.made
 have sub:=DE.sub
 rA wpAny_call (codeAny_of_tree ?_)
 show wpAny _ _ (callAny (.type "set") _) _ _ _
 rA AC ⟨Code.quiet_builtin _ #k,codeAny_builtin PySem.F.entry_type_call ?_⟩
 rw [Around.under_plain (weight_type_call_type "set" [.ref l] []) rfl]
 have z1:=DE.notType
 have z2:=DE.canCreate
 have z3:=PySem.F.typeCall_set_1 (.ref l)
 repeat (any_goals (first|assumption|wp_step))
 rA FN (Agc (.ref l) (E:=E) (Q:=fun v s1=>v=.ref s.heap.objs.size∧s1={ s with heap:=s.heap.push (fsO w) }) ⟨rfl,rfl⟩) fun r s1 hr=>?_
 match r,hr with
 |.error e,hr=>eC hr
 | .ok (.ret v),hr=>
  obtain ⟨rfl,rfl⟩:=hr
  have gS:(s.heap.push (fsO w)).get? s.heap.objs.size=some (fsO w):=AG _ rfl
  have ty:Shared.TypeIs { s with heap:=s.heap.push (fsO w) } (.ref s.heap.objs.size) "set":=⟨_,gS,rfl⟩
  have z4:=DE.init.lookup
  have z5:=DE.init.bind (.ref s.heap.objs.size)
  repeat (any_goals (first|assumption|wp_step))
  rA FN (codeAny_call_builtin (R:=wants (fun r s2=>r=.none∧∃g tk,s2={ s with heap:=g,toks:=tk }∧Qo prog w g s.heap.objs.size (ddn (fun i=>ss.getD i ⟨#[]⟩) vs.length)∧∀b o,s.heap.get? b=some o→g.get? b=some o) E)
   DE.init.plain PySem.F.entry_set_init (check_set_init_1 ty ?_)) fun r2 s2 hr2=>?_
  ·obtain ⟨ol,hol,hcl,nl,hdl⟩:=hl
   obtain ⟨oc,od,odt,osl⟩:=ol
   simp only at hcl hdl
   subst hcl hdl
   have hol1:(s.heap.push (fsO w)).get? l=some { cls:=.type "list",dict:=od,data:=.seq vs.toArray nl,slots:=osl }:=AB _ hol
   have gS1:(s.heap.push (fsO w)).get? s.heap.objs.size=some { cls:=.type "set",dict:=none,data:=.set #[] 0 (.fresh 0 0 (!Ll w)) }:=gS
   have z6:=PySem.F.sub_list_set
   have z7:=PySem.F.sub_list_frozenset
   have z8:(Value.type "list"==Value.type "dict")=false:=by decide
   have hl1:(s.heap.push (fsO w)).IsList l vs.toArray:=⟨_,hol1,rfl,nl,rfl⟩
   have lt:l<s.heap.objs.size:=AH hol
   clear gS hol
   generalize hg:s.heap.push (fsO w)=g0 at *
   unfold Builtin.«set.__init__» noKeywords Builtin.Frozenset.updateFrom
   generalize hPI:pyIter=PI
   wp_walk
   subst hPI
   rA GU hl1 ?_
   rA AA (wpAny_runValue ?_)
   have sz:g0.objs.size=s.heap.objs.size+1:=by rw [←hg];eC BW ..
   have neI:l≠g0.objs.size:=by rw [sz];eC AS (CD lt)
   have nf:s.heap.objs.size∉[g0.objs.size,l]:=by
    rw [sz]
    simp only [AU,FT,or_false,not_or]
    eC ⟨AS (DM _),CP lt⟩
   have hval:∀(i:Nat) (v:Value),vs.toArray[i]? =some v→∃t,v=.str ((fun i=>ss.getD i ⟨#[]⟩) i) t:=fun i v hv=>Ab4 hi i v (by rw [←hv];simp)
   rA Apz ((Walks.list (by simp [hh]) _ l neI vs.toArray).toS) s.heap.objs.size nf (fun i=>ss.getD i ⟨#[]⟩) hval (by simpa using hb) (vs.toArray.size-0) 0 _ #o (AV _) ⟨⟨_,AG _ rfl,rfl,rfl⟩,hl1.push _⟩ ?hS0 ?hR
   case hS0=>
    obtain ⟨o,es,ep,t,h1,h2⟩:=fsS (prog:=prog) (w:=w) s.heap
    rw [hg] at h1
    eC ⟨o,es,ep,t,AB _ h1,h2⟩
   case hR=>
    intro s' m hS'
    obtain ⟨g',gn,dr,tk,os⟩:=s'
    obtain ⟨m1,m2,m3,m4,m5⟩:=m
    dsimp only at m1 m2 m3 m4 m5
    subst m2 m3 m4
    show wpAny _ _ _ _ _ _
    rA AC ?_
    show wpAny _ _ (ret Value.none) _ _ _
    rA AC ⟨rfl,g',tk,rfl,?_,fun b o e=>m1 b o ?_ (AB _ ?_)⟩
    ·simpa using hS'
    ·have hb:=AH e
     rw [sz]
     simp only [AU,FT,or_false,not_or]
     eC ⟨AS hb,AS (CD hb)⟩
    ·rw [←hg]
     eC AB _ e
  ·match r2,hr2 with
   |.error e,hr2=>eC hr2
   |.ok (.ret v),hr2=>
    obtain ⟨rfl,g,tk,rfl,h1,h2⟩:=hr2
    repeat (any_goals (first|assumption|wp_step))
    eC q _ _ h1 h2
   |.ok .next,hr2=>eC hr2.elim
   |.ok .brk,hr2=>eC hr2.elim
   |.ok .cont,hr2=>eC hr2.elim
 |.ok .next,hr=>eC hr.elim
 |.ok .brk,hr=>eC hr.elim
 |.ok .cont,hr=>eC hr.elim
end
end Lw
end
section
namespace Lw
open PySem PySem.Spec PyProof.Rows L2
theorem Bv:Slot "set_iterator" "__next__" "set_iterator.__next__":=.of (owner:="set_iterator") (n:="__next__") (by rw [HJ,FQ];kernel_rfl) #k #k #k (by first|eC .inl (by decide +kernel)|eC .inr #k) (by rw [isSubtype_type];kernel_rfl)
theorem Fy:entryFor table "set_iterator.__next__"=some Builtin.«set_iterator.__next__»:=entryFor_of_tree (by kernel_rfl)
theorem Wg:entryFor table "set.__iter__"=some Builtin.«frozenset.__iter__»:=entryFor_alias (id':="frozenset.__iter__") (by kernel_rfl) rfl #k (by kernel_rfl)
def SI (h:Heap)(I:Addr)(f:Value)(i:Nat)(a:Addr)(n ep:Nat):Prop:=∃o,h.get? I=some o∧o.cls=.type "set_iterator"∧o.data=.fields #[f,.int i 0,.ref a,.int n 0,.int ep 0]
theorem SI.mv {h h':Heap}{I a:Addr}{f:Value}{i n ep:Nat}(x:SI h I f i a n ep)(q:∀o,h.get? I=some o→h'.get? I=some o):SI h' I f i a n ep:=by
 obtain ⟨o,e,r⟩:=x
 eC ⟨o,q o e,r⟩
theorem Abv {α:Type}(nx:Nat→Nat):∀(fuel k:Nat) (left:List α) (out:Array α),left.length=fuel→(pickOrder.go nx fuel k left out).toList.Perm (out.toList++left)
 |0,k,left,out,h=>by
  have:left=[]:=GQ.mp h
  subst this
  rw [CG]
  eC List.Perm.refl _
 |fuel+1,k,left,out,h=>by
  have hp:0<left.length:=by omega
  have hj:nx k % left.length<left.length:=Nat.mod_lt _ hp
  have e:left[nx k % left.length]? =some left[nx k % left.length]:=AD hj
  unfold pickOrder.go
  rw [e]
  dsimp only
  rA (Abv nx fuel (k+1) _ _ (by rw [List.length_eraseIdx_of_lt hj,h];rfl)).trans ?_
  rw [Array.toList_push,CN]
  eC (K1 left _ _ e).append_left _
theorem Gh {α:Type}(nx:Nat→Nat)(xs:Array α):(pickOrder nx xs).toList.Perm xs.toList:=by
 have:=Abv nx xs.size 0 xs.toList #[] (by simp)
 simpa [pickOrder] using this
section
variable {prog:Program}{w:World}{A:Around}{E:Value→Shared→Prop}{s:Shared}
theorem Alj {M:Model}{src:Source}{n:Nat}{Q:Nat→Shared→Prop}(hn:n≠0)(q:∀i d,i<n→Q i { s with drawn:=d }):wpAny M A (choose src n) Q E s:=
 fun _ _ _=>⟨hn,q _ _ (Nat.mod_lt _ (Nat.pos_of_ne_zero hn))⟩
theorem Su {M:Model}{α:Type}:∀(n:Nat) (xs:List α) (s:Shared) {Q:List α→Shared→Prop},xs.length=n→(∀ys d,ys.Perm xs→Q ys { s with drawn:=d })→wpAny M A (drawOrder n xs) Q E s
 |0,xs,s,Q,h,q=>by
  have:xs=[]:=GQ.mp h
  subst this
  unfold drawOrder
  eC AC (q [] s.drawn (List.Perm.refl _))
 |n+1,[],s,Q,h,q=>by simp at h
 |n+1,x::xs,s,Q,h,q=>by
  unfold drawOrder
  rA AA (Alj (by simp) fun i d hi=>?_)
  have e:(x::xs)[i]? =some (x::xs)[i]:=AD hi
  rw [e]
  dsimp only
  rA AA (Su n _ _ (by rw [List.length_eraseIdx_of_lt hi,h];rfl) fun ys d' hp=>AC ?_)
  eC q _ d' ((hp.cons _).trans (K1 _ _ _ e))
theorem Qd {I a:Addr}{slot nx i:Nat}{o:Obj}{ss:List Str}{es:Array (Int×Value)}{ep:Nat}{t:SetTable}{x:Value}{Q:Option Value→Shared→Prop}(hit:SI s.heap I (.int slot 0) i a es.size ep)(ho:s.heap.get? a=some o)(S:Hn prog w o ss es ep t)
  (hn:∀(Q':Option (Value×Nat)→Shared→Prop) (E':Value→Shared→Prop),Q' (some (x,nx)) s→wpAny (model prog w) A.in1 (setNext a slot i ep) Q' E' s)
  (q:∀g,SI g I (.int nx 0) (i+1) a es.size ep→Heap.SameBut I s.heap g→Q (some x) { s with heap:=g }):wpAny (model prog w) A (pyNext (.ref I)) Q E s:=by
 obtain ⟨io,e1,c1,d1⟩:=id hit
 have ty:s.TypeIs (.ref I) "set_iterator":=⟨io,e1,c1⟩
 unfold pyNext
 rA AA (wpAny_attempt (CC (name:=Str.ofString "__next__") ty Bv (wpAny_call_entry Bv ty Fy ?_)))
 unfold Builtin.«set_iterator.__next__»
 rA AA (m:=slotArgs "__next__" 0 _) (AC ?_)
 rA AA (wpAny_fieldsOf e1 d1 ?_)
 dsimp only
 rA AA (EY ho S.dat S.fit ?_)
 simp only [CO,BL,DD,CW]
 rA AA (hn _ _ ?_)
 dsimp only
 rA AA (DV e1 d1 (by simp) ?_)
 have g1:=CA (Obj.mapFields (·.setIfInBounds 0 (rawInt (nx:Int)))) e1 (EI (CK d1 _))
 have d2:=CK d1 (·.setIfInBounds 0 (rawInt (nx:Int)))
 rA AA (DV g1 d2 (by simp) ?_)
 rA AC ⟨_,rfl,AC (q _ ?_ ((BU ..).trans (BU ..)))⟩
 rA ⟨_,CA _ g1 (EI (CK d2 _)),(GV ..).trans ((GV ..).trans c1),?_⟩
 rw [CK d2]
 simp [rawInt]
theorem Sh {I a:Addr}{slot i:Nat}{o:Obj}{ss:List Str}{es:Array (Int×Value)}{ep:Nat}{t:SetTable}{Q:Option Value→Shared→Prop}(hh:A.handled=none)(hit:SI s.heap I (.int slot 0) i a es.size ep)(ho:s.heap.get? a=some o)(S:Hn prog w o ss es ep t)
  (hn:∀(Q':Option (Value×Nat)→Shared→Prop) (E':Value→Shared→Prop),Q' none s→wpAny (model prog w) A.in1 (setNext a slot i ep) Q' E' s)
  (q:∀g,Heap.ExtBut I s.heap g→Q none { s with heap:=g }):wpAny (model prog w) A (pyNext (.ref I)) Q E s:=by
 obtain ⟨io,e1,c1,d1⟩:=id hit
 have ty:s.TypeIs (.ref I) "set_iterator":=⟨io,e1,c1⟩
 unfold pyNext
 rA AA (wpAny_attempt (CC (name:=Str.ofString "__next__") ty Bv (wpAny_call_entry Bv ty Fy ?_)))
 unfold Builtin.«set_iterator.__next__»
 rA AA (m:=slotArgs "__next__" 0 _) (AC ?_)
 rA AA (wpAny_fieldsOf e1 d1 ?_)
 dsimp only
 rA AA (EY ho S.dat S.fit ?_)
 simp only [CO,BL,DD,CW]
 rA AA (hn _ _ ?_)
 dsimp only
 rA AA (DV e1 d1 (by simp) ?_)
 show wpAny _ _ (newExc (.type "StopIteration") [] >>= _) _ _ _;rA AA ?_;simp only [newExc,newTuple]
 rA AA (BS ?_ (by size_fits));rA AA (m:=firstArgMember _ _) (wpAny_of_eq (a:=Value.none) (by first|rfl|(simp only [firstArgMember];rfl)) ?_)
 rA BS ?_ (by size_fits);simp only [raiseNew];rA AA (wpAny_handled ?_);rw [show A.in1.handled=none from hh]
 rA AA (AC (wpAny_throw ?_))
 eC AA (ES (T:="StopIteration") (b:=true) ⟨_,AG _ rfl,rfl⟩ isSubtype_stop (AC (q _ (((BU ..).extBut.push _).push _))))
theorem Zt {I a T:Addr}{i p:Nat}{o oT:Obj}{ss:List Str}{es:Array (Int×Value)}{ep nT:Nat}{t:SetTable}{vs:Array Value}{x:Int×Value}{Q:Option Value→Shared→Prop}(hit:SI s.heap I (.ref T) i a es.size ep)(ho:s.heap.get? a=some o)(S:Hn prog w o ss es ep t)
  (hT:s.heap.get? T=some oT) (dT:oT.data=.seq vs nT) (hv:vs[i]? =some (.int p 0)) (hx:es[p]? =some x)
  (q:∀g,SI g I (.ref T) (i+1) a es.size ep→Heap.SameBut I s.heap g→Q (some x.2) { s with heap:=g }):wpAny (model prog w) A (pyNext (.ref I)) Q E s:=by
 obtain ⟨io,e1,c1,d1⟩:=id hit
 have ty:s.TypeIs (.ref I) "set_iterator":=⟨io,e1,c1⟩
 unfold pyNext
 rA AA (wpAny_attempt (CC (name:=Str.ofString "__next__") ty Bv (wpAny_call_entry Bv ty Fy ?_)))
 unfold Builtin.«set_iterator.__next__»
 rA AA (m:=slotArgs "__next__" 0 _) (AC ?_)
 rA AA (wpAny_fieldsOf e1 d1 ?_)
 dsimp only
 rA AA (EY ho S.dat S.fit ?_)
 simp only [CO,BL,DD,CW]
 rA AA (CU hT dT ?_)
 dsimp only
 rw [hv]
 dsimp only
 simp only [CW]
 unfold setNextDrawn
 rA AA (AA (EK ho S.dat S.fit ?_))
 dsimp only
 simp only [CO,BL,DD]
 rw [hx]
 dsimp only
 rA AC ?_
 rA AA (DV e1 d1 (by simp) (AC ⟨_,rfl,AC (q _ ?_ (BU ..))⟩))
 rA ⟨_,CA _ e1 (EI (CK d1 _)),(GV ..).trans c1,?_⟩
 rw [CK d1]
 simp [rawInt]
theorem Acg {I a T:Addr}{i:Nat}{o oT:Obj}{ss:List Str}{es:Array (Int×Value)}{ep nT:Nat}{t:SetTable}{vs:Array Value}{Q:Option Value→Shared→Prop}(hh:A.handled=none)(hit:SI s.heap I (.ref T) i a es.size ep)(ho:s.heap.get? a=some o)(S:Hn prog w o ss es ep t)
  (hT:s.heap.get? T=some oT) (dT:oT.data=.seq vs nT) (hv:vs[i]? =none)
  (q:∀g,Heap.ExtBut I s.heap g→Q none { s with heap:=g }):wpAny (model prog w) A (pyNext (.ref I)) Q E s:=by
 obtain ⟨io,e1,c1,d1⟩:=id hit
 have ty:s.TypeIs (.ref I) "set_iterator":=⟨io,e1,c1⟩
 unfold pyNext
 rA AA (wpAny_attempt (CC (name:=Str.ofString "__next__") ty Bv (wpAny_call_entry Bv ty Fy ?_)))
 unfold Builtin.«set_iterator.__next__»
 rA AA (m:=slotArgs "__next__" 0 _) (AC ?_)
 rA AA (wpAny_fieldsOf e1 d1 ?_)
 dsimp only
 rA AA (EY ho S.dat S.fit ?_)
 simp only [CO,BL,DD,CW]
 rA AA (CU hT dT ?_)
 dsimp only
 rw [hv]
 dsimp only
 rA AA (DV e1 d1 (by simp) ?_)
 have g1:=CA (Obj.mapFields (·.setIfInBounds 0 (rawInt 0))) e1 (EI (CK d1 _))
 have d2:=CK d1 (·.setIfInBounds 0 (rawInt 0))
 rA AA (DV g1 d2 (by simp) ?_)
 show wpAny _ _ (newExc (.type "StopIteration") [] >>= _) _ _ _;rA AA ?_;simp only [newExc,newTuple]
 rA AA (BS ?_ (by size_fits));rA AA (m:=firstArgMember _ _) (wpAny_of_eq (a:=Value.none) (by first|rfl|(simp only [firstArgMember];rfl)) ?_)
 rA BS ?_ (by size_fits);simp only [raiseNew];rA AA (wpAny_handled ?_);rw [show A.in1.handled=none from hh]
 rA AA (AC (wpAny_throw ?_))
 eC AA (ES (T:="StopIteration") (b:=true) ⟨_,AG _ rfl,rfl⟩ isSubtype_stop (AC (q _ ((((BU ..).trans (BU ..)).extBut.push _).push _))))
theorem Abm {a:Addr}{slot i:Nat}{o:Obj}{ss:List Str}{es:Array (Int×Value)}{ep:Nat}{t:SetTable}{Q:Option (Value×Nat)→Shared→Prop}(ho:s.heap.get? a=some o)(S:Hn prog w o ss es ep t)(hb:Ll w=true)
  (q:Q (((pickOrder (w.params.setOrder a ep) es)[i]?).map fun e=>(e.2,slot)) s):wpAny (model prog w) A (setNext a slot i ep) Q E s:=by
 have hb':(model prog w).w.params.followText "set-order"=true:=hb
 unfold setNext
 rA AA (EK ho S.dat S.fit ?_)
 dsimp only
 unfold setsByText
 rA AA (AA (EU (AC ?_)))
 dsimp only
 rw [hb']
 simp only [↓reduceIte,CO,BL,DD]
 unfold setWalk
 rA AA (AA (EK ho S.dat S.fit ?_))
 dsimp only
 unfold setsByText
 rA AA (AA (EU (AC ?_)))
 dsimp only
 rw [hb']
 simp only [↓reduceIte]
 rA AA (EU (AC (AC ?_)))
 eC q
theorem Xv {a:Addr}{slot i:Nat}{o:Obj}{ss:List Str}{es:Array (Int×Value)}{ep:Nat}{t:SetTable}{Q:Option (Value×Nat)→Shared→Prop}(ho:s.heap.get? a=some o)(S:Hn prog w o ss es ep t)(hb:Ll w=false)(hz:es.size≤1)
  (q:Q (match es[SetTable.below t.place slot]?,t.place[SetTable.below t.place slot]? with|some (_,x),some j=>some (x,j+1)|_,_=>none) s):wpAny (model prog w) A (setNext a slot i ep) Q E s:=by
 have hb':(model prog w).w.params.followText "set-order"=false:=hb
 have hl:t.led=true:=by rw [S.led,hb];rfl
 unfold setNext
 rA AA (EK ho S.dat S.fit ?_)
 dsimp only
 unfold setsByText
 rA AA (AA (EU (AC ?_)))
 dsimp only
 rw [hb']
 simp only [BL,DD]
 split
 ·rename_i h
  have h':(!t.plain&&decide (es.size>1))=true:=h
  have:decide (es.size>1)=false:=BA #o
  rw [this,GM] at h'
  cases h'
 ·rA AA ?_
  show wpAny _ _ (if (!t.led&&!es.isEmpty)=true then _ else _) _ _ _
  rw [hl,AI (by simp)]
  eC AC (AC q)
theorem Anm (p:Nat):SetTable.below #[p] 0=0:=by
 unfold SetTable.below
 simp [SetTable.below.go]
theorem Amf (p:Nat):SetTable.below #[p] (p+1)=1:=by
 unfold SetTable.below
 simp [SetTable.below.go]
theorem Nu:Slot "set_iterator" "__iter__" "set_iterator.__iter__":=.of (owner:="set_iterator") (n:="__iter__") (by rw [HJ,FQ];kernel_rfl) #k #k #k (by first|eC .inl (by decide +kernel)|eC .inr #k) (by rw [isSubtype_type];kernel_rfl)
theorem W8:entryFor table "set_iterator.__iter__"=some Builtin.«dict_keyiterator.__iter__»:=entryFor_alias (id':="dict_keyiterator.__iter__") (by kernel_rfl) rfl #k (by kernel_rfl)
theorem Pa {I a:Addr}{f:Value}{i n ep:Nat}{Q:Value→Shared→Prop}(hit:SI s.heap I f i a n ep)(q:Q (.ref I) s):wpAny (model prog w) A (pyIter (.ref I)) Q E s:=by
 obtain ⟨io,e1,c1,d1⟩:=hit
 have ty:s.TypeIs (.ref I) "set_iterator":=⟨io,e1,c1⟩
 rA wpAny_pyIter_slot ty Nu (wpAny_call_entry Nu ty W8 ?_)
 show wpAny _ _ (ret (.ref I)) _ _ s
 eC AC ⟨_,rfl,"set_iterator",_,ty,Bv.lookup,q⟩
theorem Gq {I:Addr}{g:Heap}(sb:Heap.ExtBut I s.heap g):Moved [I] (fun a b=>b=a) s { s with heap:=g } :=
 ⟨fun b o hb e=>sb b o (fun z=>hb (by rw [z];eC AK)) e,rfl,rfl,rfl,AF _⟩
theorem Ajg {I a:Addr}{o:Obj}{ss:List Str}{es:Array (Int×Value)}{ep:Nat}{t:SetTable}(S:Hn prog w o ss es ep t)(hb:Ll w=true)(ne:a≠I){B:Around}(hh:B.handled=none) :
  WalksS prog w B I [I,a] [I] (fun a b=>b=a) es.size (fun i v=>((pickOrder (w.params.setOrder a ep) es).toList.map (·.2))[i]? =some v) (fun i s=>SI s.heap I (.int (0:Nat) 0) i a es.size ep∧s.heap.get? a=some o) where
 sub:=fun b hb=>by simp at hb;simp [hb]
 grefl:=fun _=>rfl
 gtrans:=fun _ _ _ h1 h2=>h2.trans h1
 frame:=fun i s h' _ st _ k=>⟨st.1.mv fun o e=>k I (by simp) o e,k a (by simp) _ st.2⟩
 item:=fun i s Q E hi st hQ=>by
  have hz:(pickOrder (w.params.setOrder a ep) es).size=es.size:=by rw [←BK,(Gh _ es).length_eq,BK]
  have e:(pickOrder (w.params.setOrder a ep) es)[i]? =some (pickOrder (w.params.setOrder a ep) es)[i]:=Array.getElem?_eq_getElem #o
  rA Qd (slot:=0) (nx:=0) st.1 st.2 S (fun Q' E' h=>Abm st.2 S hb (by rw [e];eC h)) fun g hg sb=>hQ _ _ ?_ ⟨hg,sb.extBut a _ ne st.2⟩ (Gq sb.extBut)
  rw [BJ,DP,e]
  rfl
 done:=fun s Q E st hQ=>by
  have hz:(pickOrder (w.params.setOrder a ep) es).size=es.size:=by rw [←BK,(Gh _ es).length_eq,BK]
  have e:(pickOrder (w.params.setOrder a ep) es)[es.size]? =none:=GZ #o
  eC Sh hh st.1 st.2 S (fun Q' E' h=>Abm st.2 S hb (by rw [e];eC h)) fun g sb=>hQ _ (Gq sb)
 self:=fun i s Q E st hQ=>Pa st.1 hQ
theorem Aii {I a T:Addr}{o oT:Obj}{ss:List Str}{es:Array (Int×Value)}{ep nT:Nat}{t:SetTable}(S:Hn prog w o ss es ep t)(ps:List Nat)(hp:∀p∈ps,p<es.size)(hl:ps.length=es.size)(dT:oT.data=.seq (ps.map fun (p:Nat)=>rawInt p).toArray nT)(ne:a≠I)(neT:T≠I){B:Around}(hh:B.handled=none) :
  WalksS prog w B I [I,a,T] [I] (fun a b=>b=a) es.size (fun i v=>(ps.map fun p=>((es[p]?).map (·.2)).getD .none)[i]? =some v) (fun i s=>SI s.heap I (.ref T) i a es.size ep∧s.heap.get? a=some o∧s.heap.get? T=some oT) where
 sub:=fun b hb=>by simp at hb;simp [hb]
 grefl:=fun _=>rfl
 gtrans:=fun _ _ _ h1 h2=>h2.trans h1
 frame:=fun i s h' _ st _ k=>⟨st.1.mv fun o e=>k I (by simp) o e,k a (by simp) _ st.2.1,k T (by simp) _ st.2.2⟩
 item:=fun i s Q E hi st hQ=>by
  have hi':i<ps.length:=by omega
  have h1:((ps.map fun (p:Nat)=>rawInt p).toArray)[i]? =some (.int (ps[i]:Nat) 0):=by
   rw [FP,BJ,AD hi']
   rfl
  have h2:=hp ps[i] (ET hi')
  have h3:es[ps[i]]? =some es[ps[i]]:=Array.getElem?_eq_getElem h2
  rA Zt st.1 st.2.1 S st.2.2 dT h1 h3 fun g hg sb=>hQ _ _ ?_ ⟨hg,sb.extBut a _ ne st.2.1,sb.extBut T _ neT st.2.2⟩ (Gq sb.extBut)
  rw [BJ,AD hi']
  simp [h3]
 done:=fun s Q E st hQ=>by
  have h1:((ps.map fun (p:Nat)=>rawInt p).toArray)[es.size]? =none:=by
   rw [FP,BJ,DA #o]
   rfl
  eC Acg hh st.1 st.2.1 S st.2.2 dT h1 fun g sb=>hQ _ (Gq sb)
 self:=fun i s Q E st hQ=>Pa st.1 hQ
theorem Af4 {I a:Addr}{o:Obj}{ss:List Str}{es:Array (Int×Value)}{ep:Nat}{t:SetTable}(S:Hn prog w o ss es ep t)(hb:Ll w=false)(hz:es.size≤1)(ne:a≠I){B:Around}(hh:B.handled=none) :
  WalksS prog w B I [I,a] [I] (fun a b=>b=a) es.size (fun i v=>(es.toList.map (·.2))[i]? =some v) (fun i s=>(∃slot:Nat,SI s.heap I (.int slot 0) i a es.size ep∧(i=0→slot=0)∧(i=1→∀p,t.place=#[p]→slot=p+1))∧s.heap.get? a=some o) where
 sub:=fun b hb=>by simp at hb;simp [hb]
 grefl:=fun _=>rfl
 gtrans:=fun _ _ _ h1 h2=>h2.trans h1
 frame:=fun i s h' _ st _ k=>by
  obtain ⟨⟨slot,st,r⟩,st2⟩:=st
  eC ⟨⟨slot,st.mv fun o e=>k I (by simp) o e,r⟩,k a (by simp) _ st2⟩
 item:=fun i s Q E hi st hQ=>by
  obtain ⟨⟨slot,st,r,_⟩,st2⟩:=st
  have i0:i=0:=by omega
  have z1:es.size=1:=by omega
  subst i0
  have hs:=r rfl
  subst hs
  obtain ⟨e,he⟩:∃e,es=#[e]:=HC.mp z1
  have pz:t.place.size=1:=by
   have:=S.fit
   simp only [SetTable.fits,BR,FR] at this
   rw [this.1,z1]
  obtain ⟨p,hp⟩:∃p,t.place=#[p]:=HC.mp pz
  rA Qd (slot:=0) (nx:=p+1) (x:=e.2) st st2 S (fun Q' E' h=>Xv st2 S hb hz ?_) fun g hg sb=>hQ _ _ ?_ ⟨⟨p+1,hg,fun z=>absurd z #d,fun _ p' hp'=>?_⟩,sb.extBut a _ ne st2⟩ (Gq sb.extBut)
  ·rw [hp,Anm,he]
   eC h
  ·rw [he]
   rfl
  ·rw [hp] at hp'
   cases hp'
   rfl
 done:=fun s Q E st hQ=>by
  obtain ⟨⟨slot,st,r0,r1⟩,st2⟩:=st
  rA Sh hh st st2 S (fun Q' E' h=>Xv st2 S hb hz ?_) fun g sb=>hQ _ (Gq sb)
  have:es.size=0∨es.size=1:=by omega
  rcases this with z|z
  ·have e0:es[SetTable.below t.place slot]? =none:=GZ #o
   rw [e0]
   eC h
  ·have pz:t.place.size=1:=by
    have:=S.fit
    simp only [SetTable.fits,BR,FR] at this
    rw [this.1,z]
   obtain ⟨p,hp⟩:∃p,t.place=#[p]:=HC.mp pz
   have hs:=r1 z p hp
   subst hs
   have e0:es[SetTable.below t.place (p+1)]? =none:=by
    rw [hp,Amf]
    eC GZ #o
   rw [e0]
   eC h
 self:=fun i s Q E st hQ=>by
  obtain ⟨⟨slot,st,_⟩,_⟩:=st
  eC Pa st hQ
theorem Uw {o:Obj}{ss:List Str}{es:Array (Int×Value)}{ep:Nat}{t:SetTable}(S:Hn prog w o ss es ep t){e:Int×Value}(h:e∈es.toList):∃x tk,e.2=.str x tk:=by
 obtain ⟨⟨k,hk,_⟩,_⟩:=S.el e h
 obtain ⟨tk,z⟩:=Value.isStrOf_shape hk
 eC ⟨k,tk,z⟩
theorem Ao2 {a:Addr}{o:Obj}{ss:List Str}{es:Array (Int×Value)}{ep:Nat}{t:SetTable}{Q:Value→Shared→Prop}(ho:s.heap.get? a=some o)(S:Hn prog w o ss es ep t)
  (q:∀(I:Addr) (g:Heap) (d:Drawn) (xs:List Value) (fp:List Addr) (St:Nat→Shared→Prop),(∀b o,s.heap.get? b=some o→g.get? b=some o)→s.heap.objs.size≤I→I∈fp→(∀b∈fp,b=a∨s.heap.objs.size≤b∧b<g.objs.size)→(xs.map strOf).Perm ss →
   (∀v∈xs,∃x tk,v=.str x tk)→xs.length=es.size→(∀B:Around,B.handled=none→WalksS prog w B I fp [I] (fun a b=>b=a) es.size (fun i v=>xs[i]? =some v) St)→St 0 { s with heap:=g,drawn:=d }→Q (.ref I) { s with heap:=g,drawn:=d }) :
  wpAny (model prog w) A (pyIter (.ref a)) Q E s:=by
 have ty:s.TypeIs (.ref a) "set":=⟨o,ho,S.ex.1⟩
 have la:a<s.heap.objs.size:=AH ho
 rA wpAny_pyIter_slot ty PySem.F.slot_set_iter (wpAny_call_entry PySem.F.slot_set_iter ty Wg ?_ (PySem.F.args_set_iter_1 _))
 unfold Builtin.«frozenset.__iter__» Builtin.Frozenset.slot0
 rA AA (AA (m:=slotArgs "__iter__" 0 _) (AC (AC ?_)))
 unfold Builtin.Frozenset.sizeOf
 rA AA (AA (EY ho S.dat S.fit (AC ?_)))
 unfold setDrawn
 rA AA (AA (EK ho S.dat S.fit ?_))
 dsimp only
 unfold setsByText
 rA AA (AA (EU (AC ?_)))
 dsimp only
 rA AC ?_
 split
 ·rename_i hc
  have hc':(!Ll w&&(!t.plain&&decide (es.size>1)))=true:=hc
  have hb:Ll w=false:=by
   cases h:Ll w with
   |false=>rfl
   |true=>rw [h] at hc';simp at hc'
  have h1:1<es.size:=by
   have:decide (es.size>1)=true:=by
    cases h:decide (es.size>1) with
    |true=>rfl
    |false=>rw [h] at hc';simp at hc'
   eC AZ this
  rA AA (Su es.size _ s (by simp) fun ps d hp=>?_)
  have hl:ps.length=es.size:=by rw [hp.length_eq,DQ]
  have hlt:∀p∈ps,p<es.size:=fun p h=>BZ.mp (hp.mem_iff.mp h)
  have hs:es.size≤sizeLine:=FM S.bd
  rA AA (wpAny_newTuple ?_ (by rw [AE,hl];eC hs))
  have ho1:(s.heap.push { cls:=.type "tuple",data:=.seq (ps.map fun (p:Nat)=>rawInt p).toArray }).get? a=some o:=AB _ ho
  rA AA (wpAny_setEpoch_of (s:={ s with heap:=_,drawn:=d }) ho1 S.dat S.fit ?_)
  rA AA (BS ?_ (by size_fits))
  have hT:(s.heap.push { cls:=.type "tuple",data:=.seq (ps.map fun (p:Nat)=>rawInt p).toArray }).get? s.heap.objs.size=some _:=AG _ rfl
  have e1:(s.heap.push { cls:=.type "tuple",data:=.seq (ps.map fun (p:Nat)=>rawInt p).toArray }).objs.size=s.heap.objs.size+1:=BW ..
  rA AC ⟨_,rfl,"set_iterator",_,⟨_,AG _ rfl,rfl⟩,Bv.lookup,?_⟩
  have neA:a≠(s.heap.push { cls:=.type "tuple",data:=.seq (ps.map fun (p:Nat)=>rawInt p).toArray }).objs.size:=by rw [e1];eC AS (CD la)
  have neT:s.heap.objs.size≠(s.heap.push { cls:=.type "tuple",data:=.seq (ps.map fun (p:Nat)=>rawInt p).toArray }).objs.size:=by rw [e1];eC AS (DM _)
  rA q _ _ d (ps.map fun p=>((es[p]?).map (·.2)).getD .none) [_,a,s.heap.objs.size] _ (fun b o e=>AB _ (AB _ e)) (by simp only [e1];omega) AK ?_ ?_ ?_ (by rw [AE,hl]) (fun B hh=>Aii S ps hlt hl rfl neA neT hh) ⟨⟨_,AG _ rfl,rfl,rfl⟩,AB _ ho1,AB _ hT⟩
  ·intro b hb
   simp only [AU,FT,or_false] at hb
   rcases hb with rfl|rfl|rfl
   ·eC .inr ⟨by rw [e1];eC CT _,by simp only [BW];eC DM _⟩
   ·eC .inl rfl
   ·eC .inr ⟨AF _,by rw [BW,e1];eC CD (DM _)⟩
  ·have r:((List.range es.size).map fun p=>((es[p]?).map (·.2)).getD .none)=es.toList.map (·.2):=by
    apply GX
    intro i
    simp only [BJ]
    by_cases hi:i<es.size
    ·simp [hi]
    ·simp [hi]
   have:=((hp.map fun p=>((es[p]?).map (·.2)).getD .none).map strOf)
   rw [r] at this
   eC this.trans (by rw [EV];eC S.pm)
  ·intro v hv
   obtain ⟨p,h,rfl⟩:=BG.mp hv
   have hp':=hlt p h
   obtain ⟨x,tk,z⟩:=Uw S (e:=es[p]) (by simp)
   eC ⟨x,tk,by simp [hp',z]⟩
 ·rename_i hc
  have hc':¬(!Ll w&&(!t.plain&&decide (es.size>1)))=true:=hc
  rA AA (AC (AA (wpAny_setEpoch_of ho S.dat S.fit ?_)))
  rA AA (BS ?_ (by size_fits))
  rA AC ⟨_,rfl,"set_iterator",_,⟨_,AG _ rfl,rfl⟩,Bv.lookup,?_⟩
  have keep:∀{ob:Obj} (b:Addr) (o:Obj),s.heap.get? b=some o→(s.heap.push ob).get? b=some o:=fun b o e=>AB _ e
  have fpk:∀{ob:Obj} (b:Addr),b∈[s.heap.objs.size,a]→b=a∨s.heap.objs.size≤b∧b<(s.heap.push ob).objs.size:=fun b hb=>by
   simp only [AU,FT,or_false] at hb
   rcases hb with rfl|rfl
   ·eC .inr ⟨AF _,by rw [BW];eC DM _⟩
   ·eC .inl rfl
  cases hb:Ll w with
  | true=>
   rA q _ _ s.drawn ((pickOrder (w.params.setOrder a ep) es).toList.map (·.2)) [_,a] _ keep (AF _) AK fpk ?_ ?_ ?_ (fun B hh=>Ajg S hb (AS la) hh) ⟨⟨_,AG _ rfl,rfl,rfl⟩,AB _ ho⟩
   ·rw [EV]
    eC ((Gh _ es).map tx).trans S.pm
   ·intro v hv
    obtain ⟨e,h,rfl⟩:=BG.mp hv
    eC Uw S ((Gh _ es).mem_iff.mp h)
   ·rw [AE,(Gh _ es).length_eq,BK]
  | false=>
   have hz:es.size≤1:=by
    rA DU fun h=>hc' ?_
    rw [hb,S.pl #o]
    simpa using h
   rA q _ _ s.drawn (es.toList.map (·.2)) [_,a] _ keep (AF _) AK fpk ?_ ?_ (by simp) (fun B hh=>Af4 S hb hz (AS la) hh) ⟨⟨0,⟨_,AG _ rfl,rfl,rfl⟩,fun _=>rfl,fun h=>absurd h #d⟩,AB _ ho⟩
   ·rw [EV]
    eC S.pm
   ·intro v hv
    obtain ⟨e,h,rfl⟩:=BG.mp hv
    eC Uw S h
theorem Afm {a:Addr}{o:Obj}{ss:List Str}{es:Array (Int×Value)}{ep:Nat}{t:SetTable}{Q:List Value→Shared→Prop}(hh:A.handled=none)(ho:s.heap.get? a=some o)(S:Hn prog w o ss es ep t)
  (q:∀xs g d tk,(∀b o,s.heap.get? b=some o→g.get? b=some o)→s.heap.objs.size<g.objs.size→(xs.map strOf).Perm ss→(∀v∈xs,∃x tk,v=.str x tk)→Q xs { s with heap:=g,drawn:=d,toks:=tk }):wpAny (model prog w) A (collect (.ref a)) Q E s:=by
 have la:a<s.heap.objs.size:=AH ho
 have hs:es.size≤sizeLine:=FM S.bd
 unfold collect
 rA AA (wpAny_runValue (codeAny_builtin PySem.F.entry_proto_collect ?_))
 rw [DF PySem.F.plain_proto_collect _]
 show wpAny _ A.in1 (newList [] >>= fun l=>again (.builtin "list.__iadd__" ⟨[l,.ref a],[]⟩)) _ _ s
 rA AA (BS (AC ⟨FW FD _,codeAny_builtin PySem.F.entry_list_iadd ?_⟩))
 rw [DF FD _]
 show wpAny _ A.in1 (Builtin.List.listExtendWith (.ref s.heap.objs.size) (.ref a) (.ref s.heap.objs.size)) _ _ _
 generalize hob:({ cls:=.type "list",data:=.seq ([]:List Value).toArray }:Obj)=ob
 have hL:(s.heap.push ob).get? s.heap.objs.size=some ob:=AG _ (by rw [←hob];rfl)
 have ho1:(s.heap.push ob).get? a=some o:=AB _ ho
 have sz1:(s.heap.push ob).objs.size=s.heap.objs.size+1:=BW ..
 unfold Builtin.List.listExtendWith
 rA AA (wpAny_typeOf (T:="set") ⟨o,ho1,S.ex.1⟩ ?_)
 have h1:Builtin.List.listSameRef (.ref s.heap.objs.size) (.ref a)=false:=by simp [Builtin.List.listSameRef,CP la]
 have h2:(Value.type "set"==Value.type "list")=false:=by decide
 have h3:(Value.type "set"==Value.type "tuple")=false:=by decide
 simp only [h1,h2,h3,Bool.or_false,BL,DD]
 rA AA (Ao2 (s:={ s with heap:=s.heap.push ob }) ho1 S fun I g d xs fp St keep lI mI hfp pm hst len W st=>?_)
 rA AA (CS ?_)
 unfold Builtin.List.listLengthHint
 have ty:Shared.TypeIs { s with heap:=g,drawn:=d } (.ref a) "set":=⟨o,keep _ _ ho1,S.ex.1⟩
 rA AA (HF ty PySem.F.slot_set_len.lookup ?_)
 dsimp only
 rw [show splitId "set.__len__"=some ("set","__len__") by kernel_rfl]
 dsimp only
 rA AA (ES ty sub_set_self ?_)
 simp only [Bool.not_true,BL,DD]
 rA wpAny_ite ?_
 rw [AN #k]
 rA AA (wpAny_typeOf ty ?_)
 rA AC ?_
 rA wpAny_ite ?_
 rw [AN #k]
 rA AA (GK (AA ?_))
 have hLg:g.get? s.heap.objs.size=some ob:=keep _ _ hL
 rw [←hob] at hLg
 show wpAny _ A.in1 (updateSeq s.heap.objs.size (·.push .none) >>= fun _=>updateSeq s.heap.objs.size (·.pop)) _ _ _
 rA AA (HK hLg rfl ?_)
 have u1:=CA (Obj.mapSeq (·.push Value.none)) hLg rfl
 rA HK u1 rfl ?_
 have u2:=CA (Obj.mapSeq (·.pop)) u1 rfl
 have oth:∀b o,b≠s.heap.objs.size→g.get? b=some o→((g.update s.heap.objs.size (Obj.mapSeq (·.push Value.none))).update s.heap.objs.size (Obj.mapSeq (·.pop))).get? b=some o:=
  fun b o nb e=>(DY _ _ (CM nb)).trans ((DY _ _ (CM nb)).trans e)
 have nf:s.heap.objs.size∉fp:=fun h=>by
  rcases hfp _ h with z|⟨z,_⟩
  ·eC absurd z (CP la)
  ·have z':(s.heap.push ob).objs.size≤s.heap.objs.size:=z
   rw [sz1] at z'
   eC absurd z' (Nat.not_succ_le_self _)
 have W':=W A.in1 (by simp [hh])
 rA AC ⟨FW PySem.F.plain_extend_loop _,codeAny_extend_loopS W' hs _ nf _ es.size 0 _ _ _ rfl (AV _) (W'.frame 0 ({ s with heap:=g,drawn:=d }:Shared) _ s.toks st (AF _) fun b hb o e=>oth b o (fun h=>nf (h▸hb)) e) u2 (ItemsOf.nil _) fun s' acc c m hS' it=>?_⟩
 show wpAny _ A (load s.heap.objs.size >>= _) _ _ s'
 rA AA (wpAny_load hS' (AC ?_))
 have ex:acc.toList=xs:=by
  obtain ⟨z,h⟩:=it
  apply GX
  intro j
  rw [DP]
  cases e:acc[j]? with
  |some v=>eC (h j v e).symm
  | none=>
   have:es.size≤j:=by
    have:=Array.getElem?_eq_none_iff.mp e
    omega
   eC (DA #o).symm
 rw [ex]
 obtain ⟨g',gn,dr,tk,os⟩:=s'
 obtain ⟨m1,m2,m3,m4,m5⟩:=m
 dsimp only at m1 m2 m3 m4 m5
 subst m2 m3 m4
 rA q xs g' _ tk (fun b o e=>m1 b o (fun h=>?_) (oth b o ?_ (keep _ _ (AB _ e)))) (AH hS') pm hst
 ·rcases AU.mp h with z|z
  ·subst z
   eC absurd (AH e) (DL _)
  ·rw [AW] at z
   subst z
   have z':(s.heap.push ob).objs.size≤b:=lI
   rw [sz1] at z'
   eC absurd (AH e) (Nat.not_lt_of_le (Nat.le_of_succ_le z'))
 ·eC AS (AH e)
theorem R7:∀{l:List Str} {p:Str},risingS p l=true→(∀y∈l,¬lS y p)∧l.Pairwise fun a b=>¬lS b a
 |[],_,_=>⟨fun _ h=>absurd h (by simp),List.Pairwise.nil⟩
 | x::r,p,h=>by
  have h':(!ltCps x.cps.toList p.cps.toList&&risingS x r)=true:=h
  rw [BR,Bool.not_eq_true',ltCps_eq] at h'
  obtain ⟨h1,h2⟩:=h'
  have n1:¬lS x p:=BM h1
  obtain ⟨i1,i2⟩:=R7 h2
  rA ⟨fun y hy=>?_,BY.mpr ⟨i1,i2⟩⟩
  rcases AU.mp hy with rfl|hy
  ·eC n1
  ·intro c
   eC i1 y hy (GF fun d=>n1 (GF fun n1'=>by
    by_cases e:lS p x
    ·eC d (Ajt c e)
    ·have e2:=Yp n1' e
     subst e2
     eC d c))
theorem Rv {l:List Str}(h:sortedS l=true):l.Pairwise fun a b=>¬lS b a:=by
 cases l with
 |nil=>eC List.Pairwise.nil
 |cons x r=>
  obtain ⟨h1,h2⟩:=R7 (p:=x) (l:=r) h
  eC BY.mpr ⟨h1,h2⟩
theorem Ye {a:Addr}{o:Obj}{ss:List Str}{es:Array (Int×Value)}{ep:Nat}{t:SetTable}{Q:Value→Shared→Prop}(hh:A.handled=none)(ho:s.heap.get? a=some o)(S:Hn prog w o ss es ep t)(h64:es.size<64)
  (q:∀(r:Addr) (us:List Value) (ys:List Str) (n:Nat) g d tk,s.heap.objs.size≤r→g.get? r=some (seqObj "list" us.toArray n)→(∀b o,s.heap.get? b=some o→g.get? b=some o)→StrsAre us ys→ys.Perm ss→(ys.Pairwise fun a b=>¬lS b a) →
   Q (.ref r) { s with heap:=g,drawn:=d,toks:=tk }):wpAny (model prog w) A (call (.builtin "sorted") [.ref a]) Q E s:=by
 rA Calls.call_function_entry kind_sorted plain_sorted entry_sorted (args_sorted1 _) ?_
 unfold Builtin.«sorted»
 rA AA (m:=checkCount "sorted" 1 1 _) (AC (AA (Afm (by simp [hh]) ho S fun xs g d tk keep lg pm hst=>?_)))
 have hl:xs.length=es.size:=by
  have:=pm.length_eq
  rw [AE] at this
  rw [this,S.size]
 rA AA (FX ?_ (by rw [hl];eC FM S.bd))
 have sa:StrsAre xs (xs.map strOf):=strsAre_map xs hst
 have hoL:(g.push (seqObj "list" xs.toArray 0)).get? g.objs.size=some (seqObj "list" xs.toArray 0):=AG _ rfl
 rA AA (CS (wpAny_call_entry slot_list_sort ⟨_,hoL,rfl⟩ entry_list_sort (list_sort_treeK strKind_oneLt hoL sa.keysOf (fun v1 v2 r e=>keyKind_strs (by rw [←e];eC sa)) #o fun st' a1 a2=>⟨_,rfl,AC ⟨_,rfl,?_⟩⟩) (args_list_sort _)))
 obtain ⟨ys,b1,b2,b3⟩:=sorted_out_str sa a1 a2
 obtain ⟨n,hn⟩:=sortedHeap_at (out:=(arrOf st').map (·.2)) hoL
 rA q g.objs.size ((arrOf st').map (·.2)).toList ys n _ d tk (DK lg) (by rw [hn]) (fun b ob e=>?_) b1 (b2.trans pm) (Rv b3)
 have hb:=AH (keep b ob e)
 show (sortedHeap _ _ _ _).get? b=some ob
 rw [sortedHeap_old (AS hb) (by rw [BW];eC CD hb)]
 eC AB _ (keep b ob e)
end
section
variable {X:Cx}
theorem Pb:∀{us:List Value} {ys:List Str},StrsAre us ys→A7 (ys.map V.str) us
 |_,_,.nil=>.nil
 |_,_,.cons x t r=>.cons ⟨t,rfl⟩ (Pb r)
theorem Nw:bootBuiltins "sorted"=some (.builtin "sorted"):=by decide +kernel
theorem Ad1:bootBuiltins "set"=some (.type "set"):=by decide +kernel
def Aoq (K:KKf)(te:TE):TE:=fun σ H Q=>te σ H fun x H1=>match x with
 |.ref l=>∃names:List Str,A3 K H1 l (names.map V.str)∧names.length≤1000∧(Vu names).length<64∧∀D,H1 D=none→Q (.ref D) (upd H1 D (.lst ((Vu names).map V.str)))
 |_=>False
theorem Yx {e:Expr}{te:TE}{p p' pos pos':Pos}(hg1:Gl X "sorted")(hm1:X.mg "sorted"=none)(hg2:Gl X "set")(hm2:X.mg "set"=none)(he:PE X e te)(hc:X.calm=true:=by rfl)
  (hs:starEach [.Call (.Name "set" p') [e] [] pos'] X.env=[(false,eval (.Call (.Name "set" p') [e] [] pos') X.env)]:=by rfl) (hs2:starEach [e] X.env=[(false,eval e X.env)]:=by rfl) :
  PE X (.Call (.Name "sorted" p) [.Call (.Name "set" p') [e] [] pos'] [] pos) (Aoq X.K te):=by
 intro pins s σ H Q I h
 rA DC (E7 I hg1 hm1 Nw ?_)
 rA PyProof.Rows.callWith_builtin1 ?_ hs rfl
 rw [hs]
 show wpAny _ _ (spliced ((false,eval (.Call (.Name "set" p') [e] [] pos') X.env)::backTo pos (starEach [] X.env))) _ _ s
 rA DB ?_
 rA DC (E7 I hg2 hm2 Ad1 ?_)
 rA BX ?_ hs2 rfl
 rw [hs2]
 show wpAny _ _ (spliced ((false,eval e X.env)::backTo pos' (starEach [] X.env))) _ _ s
 rA DB (Bi (he pins s σ H _ I h) fun u s1 ⟨x,H1,I1,r1,q1⟩=>DG ?_)
 match x,q1 with
 |.ref l,⟨names,hq,hn,h64,q⟩=>
  cases (show u=Value.ref l from r1)
  obtain ⟨its,rv,⟨oL,nL,eL,cL,dL,xL⟩,hz⟩:=I1.list hq
  have sa:StrsAre its names:=Uq rv
  have hl:its.length=names.length:=by rw [←rv.length,AE]
  have hh:X.A.handled=none:=I1.ok.hd hc
  rA Acz hh ⟨oL,eL,cL,nL,xL⟩ sa (by rw [hl];eC BO (Nat.succ_le_succ hn) #d) fun g tk hS keep=>DG ?_
  obtain ⟨o,es,ep,t,ho,S⟩:=hS
  rw [hl] at S
  rA Ye hh ho S (by rw [S.size];eC BO (Ahg names) h64) fun r us ys n g2 d tk2 lr hr keep2 sa2 pm pw=>?_
  have ey:ys=Vu names:=Le (Lj pw (pm.nodup_iff.mpr (Na _ _))) (C8 _) fun x=>by rw [pm.mem_iff,Ab5,Fc]
  subst ey
  have fr:s1.heap.objs.size≤r:=AO (DK (AH ho)) lr
  have I2:=I1.laid (t':=tk2) (h':=g2) (a:=r) (o:=.lst ((Vu names).map V.str)) (fun b u e=>keep2 _ _ (keep _ _ e)) fr ⟨by rw [AE];eC AO (DK h64) #d,us,n,Pb sa2,hr⟩
  eC ⟨.ref r,_,⟨I2.ok,I2.os,I2.bare,I2.base,I2.loc,I2.cell,I2.free,I2.freeC,I2.pin,I2.hok,I2.len⟩,rfl,q r (I1.hok.fresh fr)⟩
end
end Lw
end
section
namespace Lw
open PySem PySem.Spec PyProof.Rows L2
inductive Az {α β:Type}(R:α→β→Prop):List α→List β→Prop where
 |nil:Az R [] []
 |cons {a:α} {b:β} {l:List α} {m:List β}:R a b→Az R l m→Az R (a::l) (b::m)
theorem Az.len {α β:Type}{R:α→β→Prop}:∀{l:List α} {m:List β},Az R l m→l.length=m.length
 |_,_,.nil=>rfl
 |_,_,.cons _ r=>by rw [AY,AY,r.len]
theorem Az.imp {α β:Type}{R S:α→β→Prop}(h:∀a b,R a b→S a b):∀{l:List α} {m:List β},Az R l m→Az S l m
 |_,_,.nil=>.nil
 |_,_,.cons x r=>.cons (h _ _ x) (r.imp h)
theorem Az.snoc {α β:Type}{R:α→β→Prop}{a:α}{b:β}(x:R a b):∀{l:List α} {m:List β},Az R l m→Az R (l++[a]) (m++[b])
 |_,_,.nil=>.cons x .nil
 |_,_,.cons y r=>.cons y (r.snoc x)
theorem Az.get {α β:Type}{R:α→β→Prop}:∀{l:List α} {m:List β},Az R l m→∀{i:Nat} {a:α},l[i]? =some a→∃b,m[i]? =some b∧R a b
 |_,_,.nil,i,a,h=>by simp at h
 |_,_,.cons x r,0,a,h=>by
  simp at h
  subst h
  eC ⟨_,rfl,x⟩
 |_,_,.cons x r,i+1,a,h=>by
  simp only [DS] at h ⊢
  eC r.get h
def Kt (H H':Hp):Prop:=∀p xs,H p=some (.tup xs)→H' p=some (.tup xs)
theorem Kt.trans {H H1 H2:Hp}(a:Kt H H1)(b:Kt H1 H2):Kt H H2:=fun p xs h=>b p xs (a p xs h)
theorem Be {H H':Hp}(s:Ah H H'):Kt H H':=fun p xs h=>s p _ h
theorem Mj {H:Hp}{D:Addr}{zs:List V}{o:HO}(h:H D=some (.lst zs)):Kt H (upd H D o):=fun p xs e=>by
 have ne:p≠D:=fun z=>by
  subst z
  rw [h] at e
  cases e
 rw [Ao ne]
 eC e
theorem Ff {H0 H:Hp}{D:Addr}{o:HO}(s:Ah H0 H)(h:H0 D=none):Ah H0 (upd H D o):=fun b u e=>by
 rw [Ao (Bs e h)]
 eC s b u e
theorem Cf {β:Type}{K:KKf}{a:Addr}{xs:List V}{ms:List β}{g:TG}{te:TE}{k:Nat}{js:List Nat}{σ:L2.St}{H1:Hp}{Q:VK}(M:Hp→V→β→Prop)(upM:∀v m H H',Kt H H'→M H v m→M H' v m)(R:Hp→β→V→Prop)(up:∀m y H H',Kt H H'→R H m y→R H' m y)
  (hz:xs.length≤1000) (hx:A3 K H1 a xs) (hm:Az (M H1) xs ms)
  (hs:∀v m H2,M H2 v m→m∈ms→Ah H1 H2→∀P:VK,(∀y H3,Ah H2 H3→R H3 m y→P y H3)→g v (List.replicate k none++capσ js σ) H2 fun σ2 H3=>σ2.drop k=capσ js σ∧te σ2 H3 P)
  (hq:∀D H' ys,Ah H1 H'→H1 D=none→H' D=some (.lst ys)→Az (R H') ms ys→Q (.ref D) H'):Hq (Itl K a) g te k js σ H1 Q:=by
 unfold Hq
 intro D hD
 have hl:=hm.len
 rA ⟨fun i m H=>m=xs.length-i∧i≤xs.length∧Ah H1 H∧∃ys,H D=some (.lst ys)∧Az (R H) (ms.take i) ys,⟨xs.length,by simp,AV _,Ap hD,[],Ag,.nil⟩,?_⟩
 rintro i m H ⟨rfl,hi,sm,ys,hH,ar⟩
 have sq:=sm.seq hx
 by_cases hlt:i<xs.length
 ·have e:xs[i]? =some xs[i]:=by simp [hlt]
  rA .inr ⟨⟨xs,_,sq,e⟩,fun x H' y=>?_⟩
  obtain ⟨e1,e2⟩:=y
  subst e1
  have hv:=e2 xs sq
  obtain ⟨m,hmi,hM⟩:=hm.get hv
  rA hs x m _ (upM _ _ _ _ (Be sm) hM) (BH hmi) sm _ fun y H3 s3 r3=>⟨ys,s3 _ _ hH,?_,xs.length-(i+1),by omega,rfl,hlt,Ff (sm.trans s3) hD,ys++[y],Ag,?_⟩
  ·rw [←ar.len,BQ]
   eC BO (GE _ _) (AL hlt (AO hz #d))
  ·have kt:Kt H3 (upd H3 D (.lst (ys++[y]))):=Mj (s3 _ _ hH)
   rw [CI,hmi]
   eC (ar.imp fun v y r=>up v y _ _ ((Be s3).trans kt) r).snoc (up _ _ _ _ kt r3)
 ·have e:i=xs.length:=by omega
  subst e
  rw [hl,DX] at ar
  eC .inl ⟨⟨xs,sq,AF _⟩,hq D _ ys sm hD hH ar⟩
theorem Ss {β:Type}{K:KKf}{a:Addr}{xs:List V}{ms:List β}{g:TG}{tc:TT}{te:TE}{k:Nat}{js:List Nat}{σ:L2.St}{H1:Hp}{Q:VK}(M:Hp→V→β→Prop)(upM:∀v m H H',Kt H H'→M H v m→M H' v m)(R:Hp→β→V→Prop)(up:∀m y H H',Kt H H'→R H m y→R H' m y)
  (c:β→Bool) (hz:xs.length≤1000) (hx:A3 K H1 a xs) (hm:Az (M H1) xs ms)
  (hs:∀v m H2,M H2 v m→m∈ms→Ah H1 H2→∀(P:VK) (P':Hp→Prop),(c m=true→∀y H3,Ah H2 H3→R H3 m y→P y H3)→(c m=false→∀H3,Ah H2 H3→P' H3)→g v (List.replicate k none++capσ js σ) H2 fun σ2 H3=>σ2.drop k=capσ js σ∧tc σ2 H3 fun b H4=>Br b (te σ2 H4 P) (P' H4))
  (hq:∀D H' ys,Ah H1 H'→H1 D=none→H' D=some (.lst ys)→Az (R H') (ms.filter c) ys→Q (.ref D) H'):Mv (Itl K a) g tc te k js σ H1 Q:=by
 unfold Mv
 intro D hD
 have hl:=hm.len
 rA ⟨fun i m H=>m=xs.length-i∧i≤xs.length∧Ah H1 H∧∃ys,H D=some (.lst ys)∧Az (R H) ((ms.take i).filter c) ys,⟨xs.length,by simp,AV _,Ap hD,[],Ag,.nil⟩,?_⟩
 rintro i m H ⟨rfl,hi,sm,ys,hH,ar⟩
 have sq:=sm.seq hx
 by_cases hlt:i<xs.length
 ·have e:xs[i]? =some xs[i]:=by simp [hlt]
  rA .inr ⟨⟨xs,_,sq,e⟩,fun x H' y=>?_⟩
  obtain ⟨e1,e2⟩:=y
  subst e1
  have hv:=e2 xs sq
  obtain ⟨m,hmi,hM⟩:=hm.get hv
  have yl:ys.length<sizeLine:=by
   rw [←ar.len]
   rA BO (CZ _ _) ?_
   rw [BQ]
   eC BO (GE _ _) (AL hlt (AO hz #d))
  rA hs x m _ (upM _ _ _ _ (Be sm) hM) (BH hmi) sm _ _ (fun hc y H3 s3 r3=>⟨ys,s3 _ _ hH,yl,xs.length-(i+1),by omega,rfl,hlt,Ff (sm.trans s3) hD,ys++[y],Ag,?_⟩) fun hc H3 s3=>⟨xs.length-(i+1),by omega,rfl,hlt,sm.trans s3,ys,s3 _ _ hH,?_⟩
  ·have kt:Kt H3 (upd H3 D (.lst (ys++[y]))):=Mj (s3 _ _ hH)
   rw [CI,hmi,GI]
   have ef:(Option.toList (some m)).filter c=[m]:=by simp [hc]
   rw [ef]
   eC (ar.imp fun v y r=>up v y _ _ ((Be s3).trans kt) r).snoc (up _ _ _ _ kt r3)
  ·rw [CI,hmi,GI]
   have ef:(Option.toList (some m)).filter c=[]:=by simp [hc]
   rw [ef,CG]
   eC ar.imp fun v y r=>up v y _ _ (Be s3) r
 ·have e:i=xs.length:=by omega
  subst e
  rw [hl,DX] at ar
  eC .inl ⟨⟨xs,sq,AF _⟩,hq D _ ys sm hD hH ar⟩
structure Gm where
 d:Int
 a:Str
 b:Str
 h:Int
 s:Int
def B7 (H:Hp)(v:V)(g:Gm):Prop:=∃p,v=.ref p∧H p=some (.tup [.int g.d,.str g.a,.str g.b,.int g.h,.int g.s])
theorem Cw (v:V)(g:Gm)(H H':Hp)(k:Kt H H')(h:B7 H v g):B7 H' v g:=by
 obtain ⟨p,e,r⟩:=h
 eC ⟨p,e,k _ _ r⟩
def Bk (K:KKf)(H:Hp)(L:Addr)(gs:List Gm):Prop:=∃vs,A3 K H L vs∧Az (B7 H) vs gs∧gs.length≤100
def trn (g:Gm):Gm:=⟨g.d,g.b,g.a,2-g.h,-g.s⟩
def Ge (gs:List Gm):List Str:=Vu (gs.map (·.a)++gs.map (·.b))
def Asl (n:Str)(g:Gm):Bool:=n==g.a||n==g.b
def Ao9 (n:Str)(g:Gm):Gm:=if g.a=n then g else trn g
def tld (n:Str)(gs:List Gm):List Gm:=(gs.filter (Asl n)).map (Ao9 n)
def tkr (n:Str)(gs:List Gm):List Str:=Vu (((tld n gs).filter fun g=>decide (g.h<2)).map (·.b))
theorem Gs {f:Gm→Str}:∀{gs:List Gm} {ys:List V},Az (fun g y=>y=V.str (f g)) gs ys→ys=(gs.map f).map V.str
 |_,_,.nil=>rfl
 |_,_,.cons e r=>by rw [e,Gs r];rfl
theorem Cy {gs:List Gm}{x:Str}:x∈Ge gs↔∃g∈gs,x=g.a∨x=g.b:=by
 unfold Ge
 rw [Fc,BV,BG,BG]
 constructor
 ·rintro (⟨g,h,rfl⟩|⟨g,h,rfl⟩)
  ·eC ⟨g,h,.inl rfl⟩
  ·eC ⟨g,h,.inr rfl⟩
 ·rintro ⟨g,h,rfl|rfl⟩
  ·eC .inl ⟨g,h,rfl⟩
  ·eC .inr ⟨g,h,rfl⟩
def gd (g:Gm):PyData:=.tuple [.int g.d,.str g.a,.str g.b,.int g.h,.int g.s]
theorem Ab7:∀{l:List Str},(∀x∈l,PyData.strOk x=true)→PyData.canLayAll0 (l.map PyData.str)=true
 |[],_=>rfl
 |x::l,h=>by
  show (PyData.strOk x&&PyData.canLayAll0 (l.map PyData.str))=true
  rw [h x (AK ..),Ab7 fun y hy=>h y (AJ _ hy)]
  rfl
theorem Abo:∀(l:List Str),PyData.depthAll (l.map PyData.str)=0
 |[]=>rfl
 |x::l=>by
  show max 0 (PyData.depthAll (l.map PyData.str))=0
  rw [Abo l]
  rfl
theorem Ag1:∀{gs:List Gm},(∀g∈gs,PyData.strOk g.a=true∧PyData.strOk g.b=true)→PyData.canLayAll0 (gs.map gd)=true
 |[],_=>rfl
 |g::gs,h=>by
  obtain ⟨h1,h2⟩:=h g (AK ..)
  show ((true&&(PyData.strOk g.a&&(PyData.strOk g.b&&true)))&&PyData.canLayAll0 (gs.map gd))=true
  rw [h1,h2,Ag1 fun y hy=>h y (AJ _ hy)]
  rfl
theorem Agg:∀(gs:List Gm),PyData.depthAll (gs.map gd)≤1
 |[]=>AV _
 |g::gs=>by
  have e:(gd g).depth=1:=rfl
  show max (gd g).depth (PyData.depthAll (gs.map gd))≤1
  rw [e]
  have:=Agg gs
  omega
theorem Ajd {l:List Str}(h:∀x∈l,PyData.strOk x=true):SeqAt.shaped (.list (l.map PyData.str))=true:=by
 unfold SeqAt.shaped
 rw [show (PyData.list (l.map PyData.str)).canLay0=true from Ab7 h,show (PyData.list (l.map PyData.str)).depth=0+1 from congrArg (· + 1) (Abo l)]
 rfl
theorem Ana {gs:List Gm}(h:∀g∈gs,PyData.strOk g.a=true∧PyData.strOk g.b=true):SeqAt.shaped (.list (gs.map gd))=true:=by
 unfold SeqAt.shaped
 have e:(PyData.list (gs.map gd)).depth=PyData.depthAll (gs.map gd)+1:=rfl
 have:=Agg gs
 rw [show (PyData.list (gs.map gd)).canLay0=true from Ag1 h,e,FE]
 eC AQ #o
theorem Xo {K:KKf}{H:Hp}:∀(l:List Str),Rj K H (l.map V.str) (l.map PyData.str)
 |[]=>.nil
 |x::l=>.cons (.str x) (Xo l)
theorem Abj {K:KKf}{H:Hp}{p:Addr}{l:List Str}(h:A3 K H p (l.map V.str)):Rp K H (.ref p) (.list (l.map PyData.str)):=.lst h (Xo l)
theorem Aa1 {K:KKf}{H:Hp}:∀{vs:List V} {gs:List Gm},Az (B7 H) vs gs→Rj K H vs (gs.map gd)
 |_,_,.nil=>.nil
 |_,_,.cons ⟨p,e,h⟩ r=>by
  subst e
  eC .cons (.tup (Ec.of h) (.cons (.int _) (.cons (.str _) (.cons (.str _) (.cons (.int _) (.cons (.int _) .nil)))))) (Aa1 r)
theorem Al5 {K:KKf}{H:Hp}{p:Addr}{vs:List V}{gs:List Gm}(h:A3 K H p vs)(a:Az (B7 H) vs gs):Rp K H (.ref p) (.list (gs.map gd)):=.lst h (Aa1 a)
theorem Yy {d:PyData}(h:SeqAt.shaped d=true):PyData.eqv d d=true:=SeqAt.eqv_refl d (SeqAt.canLay_of_shaped h)
theorem Z8 {nm:List Str}{gs:List Gm}(h:∀g∈gs,g.a∈nm∧g.b∈nm){x:Str}(hx:x∈Ge gs):x∈nm:=by
 obtain ⟨g,hg,rfl|rfl⟩:=Cy.mp hx
 ·eC (h g hg).1
 ·eC (h g hg).2
theorem Ahr {nm:List Str}{gs:List Gm}(h:∀g∈gs,g.a∈nm∧g.b∈nm):(Ge gs).length≤nm.length:=G9 (Fd (C8 _)) fun x hx=>Z8 h hx
end Lw
end
section
namespace Lw
open PySem PySem.Spec PyProof.Rows L2
theorem Aks {fs es:List Expr}{x:Nat}{p:Pos}{env:Env}:starEach (.Tuple fs x p::es) env=(false,eval (.Tuple fs x p) env)::starEach es env:=rfl
theorem Amv {c:Const}{es:List Expr}{x:Nat}{p:Pos}{env:Env}:starEach (.Constant c x p::es) env=(false,eval (.Constant c x p) env)::starEach es env:=rfl
theorem B3 {X:Cx}{c:Const}{es:List Expr}{x1:Nat}{p:Pos}{te:TE}{t:TA}(ha:PE X (.Constant c x1 p) te)(hr:PA X es t):PA X (.Constant c x1 p::es) (Afu te t):=Aa ha hr Amv
structure QA (X:Cx)(es:List Expr)(t:TA):Prop where
 pa:PA X es t
theorem Alo {X:Cx}:QA X [] Aco:=⟨Ac⟩
theorem L8 {X:Cx}{fs es:List Expr}{x1:Nat}{p:Pos}{te:TE}{t:TA}(ha:PE X (.Tuple fs x1 p) te)(hr:QA X es t):QA X (.Tuple fs x1 p::es) (Afu te t):=⟨Aa ha hr.pa Aks⟩
theorem Aky {X:Cx}{es:List Expr}{t:TA}{pos:Pos}(h:QA X es t):PE X (.List es pos) (Aoc t):=E9 h.pa
end Lw
end
section
namespace Lw
open PySem PySem.Spec PyProof.Rows L2
def Agq (ns:List Int):Prop:=∀n∈ns,Builtin.Int.intBits n≤2 ^ 20
theorem Ais {ns:List Int}(h:PySem.W.WData.layableAll [PySem.W.WData.list (ns.map PySem.W.WData.int)]=true):Agq ns:=fun n hn=>by
 have h1:=PySem.W.layableW_arg h _ (AW.mpr rfl)
 have h2:=PySem.W.layableW_item h1 (.int n) (BG.mpr ⟨n,hn,rfl⟩)
 have h3:=PySem.W.lay0_int h2
 have h4:PyData.layable0 (.int n)=true:=by
  have:=h3
  simp only [PyData.layableAll0,List.all_cons,List.all_nil,Bool.and_true] at this
  eC this
 eC PyData.bits_of_layable h4
open PySem PySem.W PySem.Calls PyProof.Rows in
theorem Vr {l:OpenLaw}{n:Nat}{q:Program}{loose:List Str}{XP:(Str→Option Value)→Heap→Prop}{YP:World→Heap→Prop}{d:DefRec}(hn:l.most=some n)(nodf:d.params.defaults=[])
  (go:∀(w:World) (t₀ t:Shared) (mg mb:Str→Option Value) (fa:Addr) (o:Obj) (pm cd doc:Value) (a:Addr) (vs:List Value) (ns:List Int),Agq ns→Ground q loose [] XP w t₀ mg mb t.heap→YP w t.heap→t.heap.get? fa=some o→o.data=.func (docDef d.name d.params d.body d.scope pm cd doc)→t.heap.CodeRec cd d.name→mg d.name=some (.ref fa)→t.heap.get? a=some { cls:=.type "list",data:=.seq vs.toArray }→IntsAre vs ns→ns.length≤n→t.gens=#[] →
   codeAny (model l.prog w) callerA (.call (.ref fa) ⟨[.ref a],[]⟩) (fun r z=>r=.ok (.ret (.bool true))∧OldK t.heap z.heap∧z.os=t.os∧AllBare z.gens) t):WalkO q loose XP YP l.row.toRowW d [] (fun f vs=>PySem.call f vs):=by
 intro w t₀ t mg mb G Y fa o pm cd doc dV kV x1 x2 x3 x4 x5 x6 args vals as pre lay rd wl lo
 have e1:dV=.none:=Dflts.none x4 nodf
 have e2:kV=.none:=Dflts.noKw x4
 subst e1 e2
 obtain ⟨a,vs,ns,rfl,rfl,y1,y2,y3⟩:=Att.script_of hn pre wl
 have run:=go w t₀ t mg mb fa o pm cd doc a vs ns (Ais lay) G Y x1 (fd_plain x2) x3 x5 y1 y2 y3 x6
 rA enter_call (FN run fun r z hq=>?_)
 obtain ⟨rfl,z2,z3,z4⟩:=hq
 rA ⟨.inl ⟨.bool true,.bool true,[],rfl,fun _=>rfl,.bool true,Att.post_true l _,fun _=>⟨List.Pairwise.nil,fun _ no=>(nomatch no)⟩⟩,z2,z3,z4⟩
end Lw
end
section
namespace Lw
open PySem PySem.Spec PySem.W PyProof.Rows
def Rn {α:Type}(key:Nat→Int)(n:Nat):KasT α→(α→Prop)→Prop
 |.ret a,R=>R a
 |.ask i j k,R=>i<n∧j<n∧Rn key n (k (decide (key i<key j))) R
theorem Rn.bind {α β:Type}{key:Nat→Int}{n:Nat}{f:α→KasT β}{R:β→Prop}:∀{t:KasT α},Rn key n t (fun a=>Rn key n (f a) R)→Rn key n (t.bind f) R
 |.ret _,h=>h
 |.ask _ _ k,⟨h1,h2,h3⟩=>⟨h1,h2,Rn.bind (t:=k _) h3⟩
theorem Rn.mono {α:Type}{key:Nat→Int}{n:Nat}{R R':α→Prop}(hr:∀a,R a→R' a):∀{t:KasT α},Rn key n t R→Rn key n t R'
 |.ret a,h=>hr a h
 |.ask _ _ k,⟨h1,h2,h3⟩=>⟨h1,h2,Rn.mono hr (t:=k _) h3⟩
theorem Rn.wp {α:Type}{key:Nat→Int}{n:Nat}{cmp:Nat→Nat→(Bool→Shared→Prop)→Shared→Prop}{s:Shared}(hc:∀i j,i<n→j<n→∀C:Bool→Shared→Prop,C (decide (key i<key j)) s→cmp i j C s){Q:α→Shared→Prop}:∀{t:KasT α},Rn key n t (fun a=>Q a s)→t.kasWp cmp Q s
 |.ret _,h=>h
 |.ask i j k,⟨h1,h2,h3⟩=>hc i j h1 h2 _ (Rn.wp hc (t:=k _) h3)
section
variable {key:Nat→Int}{N:Nat}
def Pv (p:Array Nat)(k:Nat):Nat:=p[k]?.getD 0
theorem Fw (p:Array Nat)(k:Nat):p.getD k 0=Pv p k:=by
 unfold Pv
 eC Array.getD_eq_getD_getElem? ..
theorem F6 {p:Array Nat}{i j:Nat}(hj:j≤p.size)(k:Nat):Pv (kas_rev p i j) k=if i≤k∧k<j then Pv p (i+j-1-k) else Pv p k:=by
 unfold Pv kas_rev
 rw [getElem?_mirror_all hj]
 split<;>rfl
theorem Akm {p:Array Nat}{src d:Nat}(hs:src<p.size)(hd:d≤src)(k:Nat):Pv (bubble p src d) k=if k=src-d then Pv p src else if src-d<k∧k≤src then Pv p (k-1) else Pv p k:=by
 unfold Pv
 rw [getElem?_bubble hs d hd]
 split
 ·rfl
 ·split<;>rfl
theorem Ad0 (p:Array Nat)(i j:Nat):(kas_rev p i j).size=p.size:=mirror_size _ _ _ _
def Lt (key:Nat→Int)(i j:Nat):Prop:=key i<key j∨(key i=key j∧i<j)
structure Lr (N:Nat)(p:Array Nat)(n:Nat):Prop where
 sz:p.size=N
 tl:∀k,n≤k→k<N→Pv p k=k
 hd:∀k,k<n→Pv p k<n
 le:n≤N
theorem Lr.lt {p:Array Nat}{n:Nat}(h:Lr N p n){k:Nat}(hk:k<N):Pv p k<N:=by
 by_cases c:k<n
 ·have:=h.hd k c
  have:=h.le
  omega
 ·rw [h.tl k #o hk]
  eC hk
theorem Lr.one {p:Array Nat}{n:Nat}(h:Lr N p n)(hn:n<N):Lr N p (n+1):=⟨h.sz,fun k h1 h2=>h.tl k #o h2,fun k hk=>by
 by_cases c:k<n
 ·have:=h.hd k c
  omega
 ·have:k=n:=by omega
  subst this
  rw [h.tl k (AF _) hn]
  eC hk,hn⟩
theorem Lr.rev {p:Array Nat}{n i:Nat}(h:Lr N p n){j:Nat}(hj:j≤n):Lr N (kas_rev p i j) n:=⟨by rw [Ad0,h.sz],fun k h1 h2=>by
 rw [F6 (by rw [h.sz];have:=h.le;omega),AI #o]
 eC h.tl k h1 h2,fun k hk=>by
 rw [F6 (by rw [h.sz];have:=h.le;omega)]
 split
 ·eC h.hd _ #o
 ·eC h.hd k hk,h.le⟩
def As (key:Nat→Int)(p:Array Nat)(n:Nat):Prop:=∀a b,a<b→b<n→Lt key (Pv p a) (Pv p b)
theorem Am5 {p:Array Nat}{n:Nat}(h:Lr N p n)(ha:As key p n)(h1:1≤n)(hn:n<N)(hk:¬key (Pv p n)<key (Pv p (n-1))):As key p (n+1):=fun a b hab hb=>by
 by_cases c:b<n
 ·eC ha a b hab c
 ·have:b=n:=by omega
  subst this
  have e:=h.tl b (AF _) hn
  have l:=h.hd a hab
  rw [e] at hk ⊢
  have q:key (Pv p a)≤key (Pv p (b-1)):=by
   by_cases d:a=b-1
   ·rw [d]
    eC Int.le_refl _
   ·rcases ha a (b-1) #o #o with x|x<;>omega
  by_cases d:key (Pv p a)<key b
  ·eC .inl d
  ·eC .inr ⟨by omega,l⟩
theorem Zv {p:Array Nat}:∀(f n:Nat),Lr N p n→As key p n→1≤n→n+f=N→Rn key N (kas_asc p f n) fun m=>Lr N p m∧As key p m∧n≤m∧(m<N→key (Pv p m)<key (Pv p (m-1)))
 |0,n,h,ha,h1,e=>⟨h,ha,AF _,fun c=>by omega⟩
 | f+1,n,h,ha,h1,e=>by
  show _<N∧_<N∧Rn key N _ _
  rw [Fw,Fw]
  rA ⟨h.lt #o,h.lt #o,?_⟩
  by_cases c:key (Pv p n)<key (Pv p (n-1))
  ·rw [AQ c]
   eC ⟨h,ha,AF _,fun _=>c⟩
  ·rw [BA c]
   eC Rn.mono (fun m ⟨a1,a2,a3,a4⟩=>⟨a1,a2,by omega,a4⟩) (Zv f (n+1) (h.one #o) (Am5 h ha h1 #o c) #o #o)
def Da (key:Nat→Int)(p:Array Nat)(n:Nat):Prop:=∀a b,a<b→b<n→Lt key (Pv p b) (Pv p a)
structure De (key:Nat→Int)(p:Array Nat)(n q:Nat):Prop where
 ql:q<n
 dn:∀a b,a<b→b<n→a+q+1<n→Lt key (Pv p b) (Pv p a)
 gp:∀a,a+q+1<n→key (Pv p (n-1))<key (Pv p a)
 eq:∀a b,n≤a+q+1→a<b→b<n→key (Pv p a)=key (Pv p b)∧Pv p a<Pv p b
theorem De.all {p:Array Nat}{n q:Nat}(h:Lr N p n)(d:De key p n q):Da key (kas_rev p (n-(q+1)) n) n:=by
 have hz:n≤p.size:=by rw [h.sz];eC h.le
 have ql:=d.ql
 rA fun a b hab hb=>?_
 rw [F6 hz,F6 hz]
 by_cases ca:n-(q+1)≤a
 ·rw [AN ⟨by omega,hb⟩,AN ⟨ca,by omega⟩]
  obtain ⟨e,l⟩:=d.eq (n-(q+1)+n-1-b) (n-(q+1)+n-1-a) #o #o #o
  eC .inr ⟨e,l⟩
 ·rw [AI (show ¬(n-(q+1)≤a∧a<n) by omega)]
  split
  ·eC d.dn a _ #o #o #o
  ·eC d.dn a b hab hb #o
theorem De.zero {p:Array Nat}{n:Nat}(d:De key p n 0):Da key p n:=fun a b hab hb=>d.dn a b hab hb #o
theorem De.last {p:Array Nat}{n q:Nat}(d:De key p n q){a:Nat}(ha:a<n):key (Pv p (n-1))≤key (Pv p a):=by
 have ql:=d.ql
 by_cases e:a=n-1
 ·rw [e]
  eC Int.le_refl _
 ·by_cases c:a+q+1<n
  ·eC Int.le_of_lt (d.gp a c)
  ·have:=(d.eq a (n-1) #o #o #o).1
   omega
theorem Da.below {p:Array Nat}{n:Nat}(h:Lr N p n)(d:Da key p n)(hn:n<N)(hk:∀a,a<n→key n<key (Pv p a)):De key p (n+1) 0:=⟨by omega,fun a b hab hb _=>by
 by_cases c:b<n
 ·eC d a b hab c
 ·have:b=n:=by omega
  subst this
  rw [h.tl b (AF _) hn]
  eC .inl (hk a hab),fun a ha=>by
 show key (Pv p n)<_
 rw [h.tl n (AF _) hn]
 eC hk a #o,fun a b h1 h2 h3=>by omega⟩
theorem De.same {p:Array Nat}{n q:Nat}(h:Lr N p n)(d:De key p n q)(hn:n<N)(hk:key n=key (Pv p (n-1))):De key p (n+1) (q+1):=by
 have ql:=d.ql
 have e:=h.tl n (AF _) hn
 rA ⟨by omega,fun a b hab hb hq=>?_,fun a ha=>?_,fun a b h1 h2 h3=>?_⟩
 ·by_cases c:b<n
  ·eC d.dn a b hab c #o
  ·have:b=n:=by omega
   subst this
   rw [e]
   have:=d.gp a #o
   eC .inl #o
 ·show key (Pv p n)<_
  rw [e,hk]
  eC d.gp a #o
 ·by_cases c:b<n
  ·eC d.eq a b #o h2 c
  ·have:b=n:=by omega
   subst this
   rw [e]
   rA ⟨?_,h.hd a h2⟩
   by_cases z:a=b-1
   ·rw [z]
    eC hk.symm
   ·rw [hk]
    eC (d.eq a (b-1) #o #o #o).1
theorem Ov:∀(f:Nat) {p:Array Nat} {n q:Nat},Lr N p n→De key p n q→n+f=N→Rn key N (kas_desc f p n q) fun r=>Lr N r.1 r.2.1∧De key r.1 r.2.1 r.2.2
 |0,p,n,q,h,d,e=>⟨h,d⟩
 | f+1,p,n,q,h,d,e=>by
  have ql:=d.ql
  have hn:n<N:=by omega
  show _<N∧_<N∧Rn key N _ _
  rw [Fw,Fw]
  have en:=h.tl n (AF _) hn
  rA ⟨h.lt hn,h.lt #o,?_⟩
  by_cases c:key (Pv p n)<key (Pv p (n-1))
  ·simp only [AQ c,↓reduceIte]
   rw [en] at c
   by_cases z:q>0
   ·rw [AN z]
    have h':=h.rev (i:=n-(q+1)) (AF n)
    rA Ov f (h'.one hn) ((d.all h).below h' hn fun a ha=>?_) #o
    rw [F6 (by rw [h.sz];omega)]
    split
    ·have:=d.last (a:=n-(q+1)+n-1-a) #o
     omega
    ·have:=d.last ha
     omega
   ·rw [AI z]
    have:q=0:=by omega
    subst this
    eC Ov f (h.one hn) (d.zero.below h hn fun a ha=>by have:=d.last ha;omega) #o
  ·simp only [BA c,BL,↓reduceIte]
   show _<N∧_<N∧Rn key N _ _
   rA ⟨h.lt #o,h.lt hn,?_⟩
   by_cases c':key (Pv p (n-1))<key (Pv p n)
   ·simp only [AQ c',↓reduceIte]
    eC ⟨h,d⟩
   ·simp only [BA c',BL,↓reduceIte]
    eC Ov f (h.one hn) (d.same h hn (by rw [en] at c c';omega)) #o
theorem Da.turn {p:Array Nat}{n:Nat}(h:Lr N p n)(d:Da key p n):As key (kas_rev p 0 n) n:=fun a b hab hb=>by
 have hz:n≤p.size:=by rw [h.sz];eC h.le
 rw [F6 hz,F6 hz,AN ⟨AV _,by omega⟩,AN ⟨AV _,hb⟩]
 eC d _ _ #o #o
theorem W0 {p:Array Nat}{n:Nat}(h:Lr N p n)(d:Da key p n)(h1:1≤n):Rn key N (kas_tail3 n N p) fun r=>Lr N r.2 r.1∧As key r.2 r.1∧1≤r.1:=by
 unfold kas_tail3
 eC Rn.bind (Rn.mono (fun m ⟨a1,a2,a3,_⟩=>⟨a1,a2,by omega⟩) (Zv (N-n) n (h.rev (AF n)) (d.turn h) h1 (by have:=h.le;omega)))
theorem Aa6 {p:Array Nat}{n:Nat}(h:Lr N p n)(d:Da key p n)(h1:1≤n)(hn:n<N)(hk:∀a,a<n→key n<key (Pv p a)):Rn key N (kas_descPart n N p) fun r=>Lr N r.2 r.1∧As key r.2 r.1∧1≤r.1:=by
 unfold kas_descPart
 rA Rn.bind (Rn.mono ?_ (Ov (N-(n+1)) (h.one hn) (d.below h hn hk) #o))
 rintro ⟨p',n',q'⟩ ⟨h',d'⟩
 have ql:=d'.ql
 have ql:q'<n':=ql
 show Rn key N (if q'>0 then kas_tail3 n' N (kas_rev p' (n'-(q'+1)) n') else kas_tail3 n' N p') _
 by_cases z:q'>0
 ·rw [AN z]
  eC W0 (h'.rev (AF _)) (d'.all h') #o
 ·rw [AI z]
  have:q'=0:=by omega
  subst this
  eC W0 h' d'.zero #o
theorem Agw {p:Array Nat}(h:Lr N p 1)(hN:1≤N):Rn key N (kas_count N p) fun r=>Lr N r.2 r.1∧As key r.2 r.1∧1≤r.1:=by
 unfold kas_count
 rA Rn.bind (Rn.mono ?_ (Zv (N-1) 1 h (fun a b h1 h2=>by omega) (AF _) #o))
 intro n ⟨h',a',n1,lo⟩
 have le:=h'.le
 by_cases e:(n==N)=true
 ·rw [AN e]
  eC ⟨h',a',n1⟩
 ·rw [AI e]
  have hn:n<N:=by
   have:n≠N:=fun c=>e (by simp [c])
   omega
  have lo:=lo hn
  rw [h'.tl n (AF _) hn] at lo
  by_cases z:n>1
  ·rw [AN z]
   show _<N∧_<N∧Rn key N _ _
   rw [Fw,Fw]
   rA ⟨h'.lt #o,h'.lt #o,?_⟩
   by_cases c:key (Pv p 0)<key (Pv p (n-1))
   ·simp only [AQ c,↓reduceIte]
    eC ⟨h',a',n1⟩
   ·simp only [BA c,BL,↓reduceIte]
    have hz:n≤p.size:=by rw [h'.sz];eC le
    have mono:∀a b,a≤b→b<n→key (Pv p a)≤key (Pv p b):=fun a b hab hb=>by
     by_cases e:a=b
     ·rw [e]
      eC Int.le_refl _
     ·rcases a' a b #o hb with x|x<;>omega
    have alike:∀a,a<n→key (Pv p a)=key (Pv p (n-1)):=fun a ha=>by
     have:=mono 0 a #o ha
     have:=mono a (n-1) #o #o
     omega
    rA Aa6 (h'.rev (AF n)) (fun a b hab hb=>?_) n1 hn fun a ha=>?_
    ·rw [F6 hz,F6 hz,AN ⟨AV _,hb⟩,AN ⟨AV _,by omega⟩]
     eC a' _ _ #o #o
    ·rw [F6 hz,AN ⟨AV _,ha⟩,alike _ #o]
     eC lo
  ·rw [AI z]
   have:n=1:=by omega
   subst this
   eC Aa6 h' (fun a b h1 h2=>by omega) n1 hn fun a ha=>by
    have:a=0:=by omega
    subst this
    eC lo
theorem Qn {p:Array Nat}{k:Nat}(h:Lr N p k)(ha:As key p k)(hk:k<N):∀(f l r:Nat),l≤r→r≤k→r≤l+f→(∀a,a<l→¬key k<key (Pv p a))→(∀a,r≤a→a<k→key k<key (Pv p a))→Rn key N (kas_place p k f l r) fun m=>m≤k∧(∀a,a<m→¬key k<key (Pv p a))∧∀a,m≤a→a<k→key k<key (Pv p a)
 |0,l,r,lr,rk,rf,lo,hi=>⟨by omega,lo,fun a h1 h2=>hi a #o h2⟩
 | f+1,l,r,lr,rk,rf,lo,hi=>by
  unfold kas_place
  by_cases c:l≥r
  ·rw [AN c]
   eC ⟨by omega,lo,fun a h1 h2=>hi a #o h2⟩
  ·rw [AI c]
   show _<N∧_<N∧Rn key N _ _
   rw [Fw,Fw]
   rA ⟨h.lt hk,h.lt #o,?_⟩
   rw [h.tl k (AF _) hk]
   have mono:∀a b,a≤b→b<k→key (Pv p a)≤key (Pv p b):=fun a b hab hb=>by
    by_cases e:a=b
    ·rw [e]
     eC Int.le_refl _
    ·rcases ha a b #o hb with x|x<;>omega
   by_cases d:key k<key (Pv p ((l+r) / 2))
   ·simp only [AQ d,↓reduceIte]
    rA Qn h ha hk f l ((l+r) / 2) #o #o #o lo fun a h1 h2=>?_
    have:=mono _ _ h1 h2
    omega
   ·simp only [BA d,BL,↓reduceIte]
    rA Qn h ha hk f ((l+r) / 2+1) r #o rk #o (fun a h1=>?_) hi
    have:=mono a ((l+r) / 2) #o #o
    omega
theorem Af3:∀(f:Nat) {p:Array Nat} {k:Nat},Lr N p k→As key p k→k+f=N→Rn key N (kas_bin f p k) fun p'=>Lr N p' N∧As key p' N
 |0,p,k,h,ha,e=>by
  have:k=N:=by omega
  subst this
  eC ⟨h,ha⟩
 | f+1,p,k,h,ha,e=>by
  have hk:k<N:=by omega
  unfold kas_bin
  rA Rn.bind (Rn.mono ?_ (Qn h ha hk k 0 k (AV _) (AF _) #o (fun a h1=>by omega) fun a h1 h2=>by omega))
  intro m ⟨mk,lo,hi⟩
  have hs:k<p.size:=by rw [h.sz];eC hk
  have at':=Akm hs (d:=k-m) #o
  have e1:k-(k-m)=m:=by omega
  rw [e1] at at'
  have en:=h.tl k (AF _) hk
  rw [en] at at'
  rA Af3 f ⟨by rw [bubble_size,h.sz],fun a h1 h2=>?_,fun a h1=>?_,by omega⟩ (fun a b hab hb=>?_) #o
  ·rw [at',AI #o,AI #o]
   eC h.tl a #o h2
  ·rw [at']
   split
   ·omega
   ·split
    ·have:=h.hd (a-1) #o
     omega
    ·have:=h.hd a #o
     omega
  ·rw [at',at']
   by_cases ca:a=m
   ·rw [AN ca,AI #o,AN #o]
    eC .inl (hi (b-1) #o #o)
   ·rw [AI ca]
    by_cases cb:b=m
    ·rw [AN cb,AI #o]
     have:=lo a #o
     have l:=h.hd a #o
     by_cases d:key (Pv p a)<key k
     ·eC .inl d
     ·eC .inr ⟨by omega,l⟩
    ·rw [AI cb]
     by_cases c1:m<a
     ·rw [AN #o,AN #o]
      eC ha _ _ #o #o
     ·rw [AI #o]
      by_cases c2:m<b
      ·rw [AN #o]
       eC ha _ _ #o #o
      ·rw [AI #o]
       eC ha a b hab #o
theorem Afw {N k:Nat}(h:k<N):Pv (List.toArray (List.range N)) k=k:=by
 unfold Pv
 simp [h]
theorem Abi (hN:1≤N):Rn key N (kas_sort N) fun p=>Lr N p N∧As key p N:=by
 unfold kas_sort
 rA Rn.bind (Rn.mono ?_ (Agw (p:=List.toArray (List.range N)) ⟨by simp,fun k _ h2=>Afw h2,fun k hk=>by
  have:k=0:=by omega
  subst this
  rw [Afw #o]
  omega,hN⟩ hN))
 rintro ⟨m,p⟩ ⟨h,ha,m1⟩
 have h:Lr N p m:=h
 have m1:1≤m:=m1
 show Rn key N (if m<N then kas_bin (N-max m 1) p (max m 1) else .ret p) _
 have le:=h.le
 by_cases c:m<N
 ·rw [AN c,Nat.max_eq_left m1]
  eC Af3 (N-m) h ha #o
 ·rw [AI c]
  have:m=N:=by omega
  subst this
  eC ⟨h,ha⟩
end
end Lw
end
section
namespace Lw
open PySem PySem.Spec PySem.W PyProof.Rows L2
def Jp (key:Nat→Int)(n:Nat)(p:List Nat):Prop:=p.length=n∧(∀i∈p,i<n)∧p.Pairwise (Lt key)
def Kp (a:Addr)(h h':Heap):Prop:=∀b o,b≠a→h.get? b=some o→h'.get? b=some o
def Ks (key:Nat→Int)(ks:List Value):Prop:=∀i k,ks[i]? =some k→∃t,k=Value.int (key i) t
theorem Ks.snoc {key:Nat→Int}{ks:List Value}{t:Tok}(h:Ks key ks):Ks key (ks++[Value.int (key ks.length) t]):=fun i k e=>by
 rw [List.getElem?_append] at e
 split at e
 ·eC h i k e
 ·rename_i c
  cases q:i-ks.length with
  |zero=>
   rw [q] at e
   have e:Value.int (key ks.length) t=k:=by simpa using e
   have:i=ks.length:=by omega
   rw [this]
   eC ⟨t,e.symm⟩
  |succ m=>
   rw [q] at e
   simp at e
def Hy (vs:List Value)(p:List Nat):List Value:=p.map fun i=>vs.getD i Value.none
theorem P1 (vs:List Value):Hy vs (List.range vs.length)=vs:=by
 rA List.ext_getElem (by simp [Hy]) fun i h1 h2=>?_
 simp [Hy,h2]
theorem Abt {key:Nat→Int}{n:Nat}(h:n<2):Jp key n (List.range n):=by
 rA ⟨DQ,fun i hi=>BZ.mp hi,?_⟩
 match n,h with
 |0,_=>eC .nil
 |1,_=>eC FC _ _
theorem Afj {key:Nat→Int}{n:Nat}{p:Array Nat}(h:Lr n p n)(ha:As key p n):Jp key n p.toList:=by
 have pv:∀i (hi:i<p.toList.length),p.toList[i]=Pv p i:=fun i hi=>by
  have hi':i<p.size:=by simpa using hi
  unfold Pv
  simp [hi']
 rA ⟨by rw [BK,h.sz],fun i hi=>?_,EN.mpr fun i j hi hj hij=>?_⟩
 ·obtain ⟨k,hk,rfl⟩:=GA hi
  rw [pv k hk]
  eC h.lt (by rw [BK,h.sz] at hk;eC hk)
 ·rw [pv i hi,pv j hj]
  eC ha i j hij (by rw [BK,h.sz] at hj;eC hj)
section
variable {prog:Program}{w:World}{A:Around}{E:Value→Shared→Prop}{s:Shared}{a kS:Addr}{vs:List Value}
theorem Aad {st:SortSt}{e e1:Nat}{ks out:List Value}{P:PySem.Fin→Shared→Prop}(hne:kS≠a)(hk:s.heap.get? kS=some (seqObj "list" (List.toArray ks) e))(ha:s.heap.get? a=some (seqObj "list" #[] e1))
  (hout:(arrOf st).map (·.2)=List.toArray out) (hz:out.length<64) (hkz:ks.length<64) (hf:failedOf st=none)
  (h:∀h' n,(∀b o,b≠a→b≠kS→s.heap.get? b=some o→h'.get? b=some o)→h'.get? a=some (seqObj "list" (List.toArray out) n)→P (.done (.ret .none)) { s with heap:=h' }) :
  wpAny (model prog w) A (ksk_tail a false e1 (.ref kS) st) P E s:=by
 have s1:=BU s.heap kS (Obj.mapSeq fun _=>(#[]:Array Value))
 have ha1:(s.heap.update kS (Obj.mapSeq fun _=>(#[]:Array Value))).get? a=some (seqObj "list" #[] e1):=(s1.2 a (CM hne)).trans ha
 have s2:=BU (s.heap.update kS (Obj.mapSeq fun _=>(#[]:Array Value))) a (Obj.mapSeq fun _=>List.toArray out)
 obtain ⟨c2,hc2⟩:∃c2,((s.heap.update kS (Obj.mapSeq fun _=>(#[]:Array Value))).update a (Obj.mapSeq fun _=>List.toArray out)).get? a=some (seqObj "list" (List.toArray out) c2):=⟨_,get?_update_seq ha1 fun _=>List.toArray out⟩
 unfold ksk_tail
 try dsimp only
 rw [hout]
 rA AA (FF hk rfl ?_ (by rw [AR,CL];omega) (AV _))
 rA AA (wpAny_letGo ?_)
 rA AA (seqEpoch_at ha1 rfl ?_)
 rA AA (FF ha1 rfl ?_ (AV _) (by show (List.toArray out).size≤_;rw [AR,CL];omega))
 rw [hf]
 simp only [CO,BL,DD]
 eC AC (h _ c2 (fun b o n1 n2 q=>(s2.2 b n1).trans ((s1.2 b n2).trans q)) hc2)
theorem Alq {key:Nat→Int}{e e1:Nat}{ks:List Value}{P:PySem.Fin→Shared→Prop}(hne:kS≠a)(hk:s.heap.get? kS=some (seqObj "list" (List.toArray ks) e))(ha:s.heap.get? a=some (seqObj "list" #[] e1))(hl:ks.length=vs.length)(h64:vs.length<64)(hks:Ks key ks)
  (h:∀h' n p,Jp key vs.length p→(∀b o,b≠a→b≠kS→s.heap.get? b=some o→h'.get? b=some o)→h'.get? a=some (seqObj "list" (List.toArray (Hy vs p)) n)→P (.done (.ret .none)) { s with heap:=h' }) :
  wpAny (model prog w) A (ksk_end a false vs.toArray e1 (.ref kS) (List.toArray ks)) P E s:=by
 unfold ksk_end
 try dsimp only
 simp only [BL,DD]
 by_cases h2:vs.length<2
 ·have h2':vs.toArray.size<2:=by rwa [AR]
  rw [AN h2',AN h2']
  rA AA (AC ?_)
  rw [StateT.run_pure]
  rA AA (AC ?_)
  try dsimp only
  rA Aad (out:=Hy vs (List.range vs.length)) hne hk ha ?_ (by rw [P1];eC h64) #o rfl (fun h' n=>h h' n _ (Abt h2))
  rw [P1]
  show ((List.toArray ks).zip vs.toArray).map (·.2)=_
  rA Array.ext (by simp [hl]) fun i h1 h2=>?_
  simp
 ·have h2':¬vs.toArray.size<2:=by rwa [AR]
  rw [AI h2',AI h2']
  rA AA (kas_kind (T:=.type "int") #o (fun v hv=>?_) rfl rfl ?_)
  ·obtain ⟨i,hi,rfl⟩:=GA hv
   obtain ⟨t,e⟩:=hks i _ (AD hi)
   rw [e]
   eC .now
  ·rA AA (BP (kat_run (E:=E) (Q:=fun st' s'=>s'=s∧∃p:Array Nat,Jp key vs.length p.toList∧(arrOf st').map (·.2)=List.toArray (Hy vs p.toList)∧failedOf st'=none)
    (G:=fun p s'=>s'=s∧Jp key vs.length p.toList) hl #o h64 (fun p' st' s' a1 a2 a3 ⟨a4,a5⟩=>⟨a4,p',a5,kat_snds hl a2,a3⟩) ?_) (fun r s' hq=>?_) fun _ _ x=>x)
   ·rA Rn.wp (key:=key) (n:=vs.length) (fun i j hi hj C c=>?_) (Rn.mono (fun p hp=>⟨rfl,Afj hp.1 hp.2⟩) (Abi #o))
    unfold kas_ask
    have gi:∀i,i<vs.length→∃t,ks.getD i Value.none=.int (key i) t:=fun i hi=>by
     have hi':i<ks.length:=by omega
     obtain ⟨t,e⟩:=hks i _ (AD hi')
     eC ⟨t,by rw [BF,AD hi',Option.getD_some,e]⟩
    obtain ⟨t1,e1⟩:=gi i hi
    obtain ⟨t2,e2⟩:=gi j hj
    rw [e1,e2]
    eC kat_lt_int c
   ·obtain ⟨rfl,p,hs,ho,hf⟩:=hq
    obtain ⟨⟨⟩,st'⟩:=r
    try dsimp only
    eC Aad hne hk ha ho (by unfold Hy;rw [AE,hs.1];eC h64) #o hf fun h' n=>h h' n _ hs
theorem Aof {key:Nat→Int}{f:Value}{n:Nat}{P:PySem.Fin→Shared→Prop}(ho:s.heap.get? a=some (seqObj "list" vs.toArray n))(h64:vs.length<64)
  (hk:∀(i:Nat) (v:Value) (h1:Heap) (t1:Nat),vs[i]? =some v→Kp a s.heap h1→∀Q:Value→Shared→Prop,(∀h2 t2 t,(∀b o,h1.get? b=some o→h2.get? b=some o)→Q (.int (key i) t) { s with heap:=h2,toks:=t2 }) →
   wpAny (model prog w) A (call f [v]) Q (fun _ _=>False) { s with heap:=h1,toks:=t1 })
  (h:∀h' t n p,Jp key vs.length p→Kp a s.heap h'→h'.get? a=some (seqObj "list" (List.toArray (Hy vs p)) n)→P (.done (.ret .none)) { s with heap:=h',toks:=t }) :
  wpAny (model prog w) A (ksk_tree a f false) P E s:=by
 have al:a<s.heap.objs.size:=AH ho
 have s1:=BU s.heap a (Obj.mapSeq fun _=>(#[]:Array Value))
 obtain ⟨e1,ho1⟩:∃e1,(s.heap.update a (Obj.mapSeq fun _=>(#[]:Array Value))).get? a=some (seqObj "list" #[] e1):=⟨_,get?_update_seq ho fun _=>#[]⟩
 have hkS:((s.heap.update a (Obj.mapSeq fun _=>(#[]:Array Value))).push (seqObj "tuple" vs.toArray 0)).objs.size=s.heap.objs.size+1:=by rw [size_push',Heap.size_update]
 unfold ksk_tree
 rA AA (listItems_at ho rfl ?_)
 rA AA (FF ho rfl ?_ (by rw [AR,CL];omega) (AV _))
 rA AA (seqEpoch_at ho1 rfl ?_)
 rA AA (wpAny_newTuple ?_ (by show vs.length≤_;rw [CL];omega))
 rA AA (FX ?_ (AV _))
 rA CS ?_
 have kne:((s.heap.update a (Obj.mapSeq fun _=>(#[]:Array Value))).push (seqObj "tuple" vs.toArray 0)).objs.size≠a:=by rw [hkS];eC CP (CD al)
 have kk:=AG ((s.heap.update a (Obj.mapSeq fun _=>(#[]:Array Value))).push (seqObj "tuple" vs.toArray 0)) (o:=seqObj "list" #[] 0) rfl
 have ka:(((s.heap.update a (Obj.mapSeq fun _=>(#[]:Array Value))).push (seqObj "tuple" vs.toArray 0)).push (seqObj "list" #[] 0)).get? a=some (seqObj "list" #[] e1):=AB _ (AB _ ho1)
 have kp:Kp a s.heap (((s.heap.update a (Obj.mapSeq fun _=>(#[]:Array Value))).push (seqObj "tuple" vs.toArray 0)).push (seqObj "list" #[] 0)):=fun b o ne e=>
  AB _ (AB _ ((s1.2 b ne).trans e))
 have kold:s.heap.objs.size≤((s.heap.update a (Obj.mapSeq fun _=>(#[]:Array Value))).push (seqObj "tuple" vs.toArray 0)).objs.size:=by rw [hkS];eC CT _
 show wpAny (model prog w) A (ksk_rest a f false vs.toArray e1 (.ref ((s.heap.update a (Obj.mapSeq fun _=>(#[]:Array Value))).push (seqObj "tuple" vs.toArray 0)).objs.size)) P E { s with heap:=((s.heap.update a (Obj.mapSeq fun _=>(#[]:Array Value))).push (seqObj "tuple" vs.toArray 0)).push (seqObj "list" #[] 0) }
 generalize ((s.heap.update a (Obj.mapSeq fun _=>(#[]:Array Value))).push (seqObj "tuple" vs.toArray 0)).push (seqObj "list" #[] 0)=g at kk ka kp
 generalize ((s.heap.update a (Obj.mapSeq fun _=>(#[]:Array Value))).push (seqObj "tuple" vs.toArray 0)).objs.size=kS at kk kne kold
 unfold ksk_rest
 rA AA (GK ?_)
 first
  |rw [List.forIn_toArray]
  |(rw [←Array.forIn_toList];simp only [List.toList_toArray])
  |rw [←Array.forIn_toList]
 rA AA (ksk_fold (fun i s'=>∃h' t ks e,s'={ s with heap:=h',toks:=t }∧Kp a s.heap h'∧h'.get? a=some (seqObj "list" #[] e1)∧h'.get? kS=some (seqObj "list" (List.toArray ks) e)∧ks.length=i∧Ks key ks) vs 0 _ ⟨g,s.toks,[],0,rfl,kp,ka,kk,rfl,fun i k e=>by simp at e⟩ (fun j x s' hx ⟨h',t,ks,e,es,k1,k2,k3,k4,k5⟩=>?_) fun s' ⟨h',t,ks,e,es,k1,k2,k3,k4,k5⟩=>?_)
 ·subst es
  rw [Nat.zero_add] at k4
  rA AA (wpAny_attempt (BP (hk j x h' t hx k1 (fun k s''=>∃h2 t2 tk,k=.int (key j) tk∧s''={ s with heap:=h2,toks:=t2 }∧∀b o,h'.get? b=some o→h2.get? b=some o) fun h2 t2 tk kk=>⟨h2,t2,tk,rfl,rfl,kk⟩) (fun k s'' hq=>?_) fun _ _ x=>x.elim))
  obtain ⟨h2,t2,tk,rfl,rfl,kk2⟩:=hq
  have jl:j<vs.length:=(BI.mp hx).1
  have ea:(List.toArray ks).push (Value.int (key j) tk)=List.toArray (ks++[Value.int (key j) tk]):=by simp
  have s3:=BU h2 kS (Obj.mapSeq (·.push (Value.int (key j) tk)))
  obtain ⟨c2,hc2⟩:∃c2,(h2.update kS (Obj.mapSeq (·.push (Value.int (key j) tk)))).get? kS=some (seqObj "list" (List.toArray (ks++[Value.int (key j) tk])) c2):=⟨_,by rw [←ea];eC get?_update_seq (kk2 _ _ k3) (·.push (Value.int (key j) tk))⟩
  try dsimp only
  rA AA (FF (kk2 _ _ k3) rfl ?_ (by rw [AR,CL];omega) (AO (Nat.le_of_eq (Array.size_push ..)) (by rw [AR,CL];omega)))
  rA AC ⟨rfl,_,t2,ks++[Value.int (key j) tk],c2,rfl,fun b o ne q=>(s3.2 b ?_).trans (kk2 _ _ (k1 b o ne q)),(s3.2 a (CM kne)).trans (kk2 _ _ k2),hc2,by rw [AM,k4];simp,?_⟩
  ·intro e
   eC absurd (AH q) (by rw [e];eC Nat.not_lt.mpr kold)
  ·have:=k5.snoc (t:=tk)
   rwa [k4] at this
 ·subst es
  rw [Nat.zero_add] at k4
  rA AA (listItems_at k3 rfl ?_)
  rA Alq (key:=key) kne k3 k2 k4 h64 k5 fun h2 n2 p hp kk2 hc=>h h2 t n2 p hp (fun b o ne q=>kk2 b o ne ?_ (k1 b o ne q)) hc
  intro e
  eC absurd (AH q) (by rw [e];eC Nat.not_lt.mpr kold)
theorem Ahv {key:Nat→Int}{f l:Addr}{Q:Value→Shared→Prop}(hl:s.heap.IsList l vs.toArray)(h64:vs.length<64)
  (hk:∀(i:Nat) (v:Value) (h1:Heap) (t1:Nat),vs[i]? =some v→(∀b o,s.heap.get? b=some o→h1.get? b=some o)→∀Q:Value→Shared→Prop,(∀h2 t2 t,(∀b o,h1.get? b=some o→h2.get? b=some o)→Q (.int (key i) t) { s with heap:=h2,toks:=t2 }) →
   wpAny (model prog w) A.in1.in1 (call (.ref f) [v]) Q (fun _ _=>False) { s with heap:=h1,toks:=t1 })
  (h:∀D h' t n p,s.heap.objs.size≤D→Jp key vs.length p→(∀b o,s.heap.get? b=some o→h'.get? b=some o)→h'.get? D=some (seqObj "list" (List.toArray (Hy vs p)) n)→Q (.ref D) { s with heap:=h',toks:=t }) :
  wpAny (model prog w) A (call (.builtin "sorted") [.ref l] [(Str.ofString "key",.ref f)]) Q E s:=by
 rA call_function_entry_kw kind_sorted plain_sorted entry_sorted (ksk_s1 _ _) ?_
 unfold Builtin.«sorted»
 rA AA (m:=checkCount "sorted" 1 1 _) (AC ?_)
 rA AA (collect_list hl ?_ (by rw [CL];omega))
 rA AA (FX ?_ (by rw [CL];omega))
 have hsz:((s.heap.push (seqObj "list" #[] 0)).update s.heap.objs.size (Obj.mapSeq (· ++ vs.toArray))).objs.size=s.heap.objs.size+1:=by
  rw [Heap.size_update,size_push']
 have hoL:(((s.heap.push (seqObj "list" #[] 0)).update s.heap.objs.size (Obj.mapSeq (· ++ vs.toArray))).push (seqObj "list" vs.toArray 0)).get? (s.heap.objs.size+1)=some (seqObj "list" vs.toArray 0):=by
  rw [←hsz];eC AG _ rfl
 have keep:∀b o,s.heap.get? b=some o→(((s.heap.push (seqObj "list" #[] 0)).update s.heap.objs.size (Obj.mapSeq (· ++ vs.toArray))).push (seqObj "list" vs.toArray 0)).get? b=some o:=fun b o q=>by
  have hlt:b<s.heap.objs.size:=AH q
  rw [GY _ _ _ (by rw [hsz];eC AS (CD hlt)),Heap.get?_update_ne _ _ _ _ (AS hlt),GY _ _ _ (AS hlt)]
  eC q
 show wpAny _ _ _ _ _ { s with heap:=((s.heap.push (seqObj "list" #[] 0)).update s.heap.objs.size (Obj.mapSeq (· ++ vs.toArray))).push (seqObj "list" vs.toArray 0) }
 rw [hsz]
 have ne:∀b o,s.heap.get? b=some o→b≠s.heap.objs.size+1:=fun b o e=>AS (CD (AH e))
 rA AA (CS (wpAny_call_entry_kw slot_list_sort ⟨_,hoL,rfl⟩ entry_list_sort ?body (ksk_l1 _ _)))
 case body=>
  show wpAny (model prog w) A.in1.in1 (Builtin.«list.sort» ⟨[.ref (s.heap.objs.size+1)],[(Str.ofString "key",.ref f)]⟩) _ _ _
  rw [ksk_t1]
  rA Aof (s:={ s with heap:=((s.heap.push (seqObj "list" #[] 0)).update s.heap.objs.size (Obj.mapSeq (· ++ vs.toArray))).push (seqObj "list" vs.toArray 0) }) (key:=key) hoL h64 (fun i v h1 t1 hv k Q hq=>hk i v h1 t1 hv (fun b o e=>k b o (ne b o e) (keep b o e)) Q hq) fun h' t n p hp k hD=>?_
  eC ⟨_,rfl,AC ⟨_,rfl,h _ h' t n p (CT _) hp (fun b o e=>k b o (ne b o e) (keep b o e)) hD⟩⟩
end
abbrev Q1 (v:Str)(p1 p2 p3:Pos):Expr:=.Subscript (.Name v p1) (.Constant (.int 0) 0 p2) p3
abbrev S6 (v:Str)(p:Pos):Arguments:={ posonlyargs:=[],args:=[{ arg:=v,annotation:=none,pos:=p }],vararg:=none,kwonlyargs:=[],kw_defaults:=[],kwarg:=none,defaults:=[] }
abbrev Ob (v:Str):Scope:={ kind:=.function,names:=[(v,.local)],isGenerator:=false,isCoroutine:=false,more:=[] }
section
variable {prog:Program}{w:World}{A:Around}{E:Value→Shared→Prop}{s:Shared}
theorem Afs {v:Str}{p1 p2 p3 p4:Pos}{name qual:Str}{pm ctv:Value}{c f a:Addr}{l:List Value}{x:Value}{Q:Value→Shared→Prop}
  (hroom:A.depth<recursionLimit) (ho:s.heap.get? f=some (kla_obj name qual (S6 v p4) (Q1 v p1 p2 p3) (Ob v) [] pm c ctv)) (hcd:s.heap.CodeRec (.ref c) qual) (hnl:s.heap.NoLimit)
  (hd:(v==("__debug__":Str))=false) (hb:bindArgs (kla_fn name qual (S6 v p4) (Q1 v p1 p2 p3) (Ob v) [] pm (.ref c) ctv) ⟨[.ref a],[]⟩=pure [(v,.ref a)])
  (ht:IsTup s.heap a l.toArray) (hx:l[0]? =some x)
  (h:∀h' t,(∀b o,s.heap.get? b=some o→h'.get? b=some o)→Q x { s with heap:=h',toks:=t }) :
  wpAny (model prog w) A (call (.ref f) [.ref a]) Q E s:=by
 rA wpAny_call (kla_callFunE hroom ho rfl rfl rfl rfl hcd ?_)
 show wpAny (model prog w) A.in1 (bindArgs (kla_fn name qual (S6 v p4) (Q1 v p1 p2 p3) (Ob v) [] pm (.ref c) ctv) ⟨[.ref a],[]⟩) _ _ _
 rw [hb]
 have lk:(Ob v).names.lookup v=some .local:=by
  show List.lookup v [(v,NameKind.local)]=_
  rw [DW,beq_self_eq_true]
 rA AC (wpAny_newFunctionEnv (fun y hy=>?_) (fun y hy=>?_) (fun h1 hns hsb=>⟨hnl.fresh _ hsb,?_⟩) rfl)
 ·obtain rfl:y=(v,.local):=AW.mp hy
  eC fun z=>nomatch z
 ·obtain rfl:y=(v,.ref a):=AW.mp hy
  eC lk
 have hk1:∀b o,s.heap.get? b=some o→h1.get? b=some o:=fun b o e=>hsb.extBut b o (AS (AH e)) (AB _ e)
 show codeAny _ _ (.expr (Q1 v p1 p2 p3) (envX qual (Ob v) s.heap.objs.size f (.ref c) [])) _ _
 rA kla_codeExpr (Subscript_ ?_)
 rw [eval_Name _ _ _ hd]
 rA AA (wpAny_standAt (wpAny_loadName_local rfl lk hns (v:=.ref a) ?_ ?_))
 ·show List.lookup v [(v,Value.ref a)]=_
  rw [DW,beq_self_eq_true]
 ·have ht1:IsTup h1 a l.toArray:=by
   obtain ⟨o,e1,e2⟩:=ht
   eC ⟨o,hk1 _ _ e1,e2⟩
  have l0:0<l.length:=(BI.mp hx).1
  rA wpAny_Constant_int ?_
  rA item_tupleL (j:=0) ht1 #d #d (by rw [seqIndex_of #d #o];rfl) hx ?_
  eC h _ _ hk1
end
def Ahe (c:Addr)(q:Str):HO:=.ext fun h=>h.CodeRec (.ref c) q
theorem U2 {c:Addr}{q:Str}{h1 h2:Heap}(h:h1.CodeRec (.ref c) q)(k:∀o,h1.get? c=some o→h2.get? c=some o):h2.CodeRec (.ref c) q:=by
 obtain ⟨c',oc,vs,t,e,ho,r⟩:=h
 cases e
 eC ⟨c,oc,vs,t,rfl,k _ ho,r⟩
def Av (H:Hp)(P:Addr)(pos:Pos)(q:Str):Prop:=∃ps,H P=some (.tbl ps)∧TriplesOk ps.toList∧(codeAmong pos ps.toList=none∨∃c,codeAmong pos ps.toList=some (.ref c)∧H c=some (Ahe c q))
theorem Av.up {H H':Hp}{P:Addr}{pos:Pos}{q:Str}(s:Ah H H')(h:Av H P pos q):Av H' P pos q:=by
 obtain ⟨ps,h1,h2,h3⟩:=h
 rA ⟨ps,s _ _ h1,h2,h3.imp id ?_⟩
 rintro ⟨c,e1,e2⟩
 eC ⟨c,e1,s _ _ e2⟩
theorem Wy {pos:Pos}{c:Value}:∀(l:List Value),TriplesOk l→TriplesOk (l++[rawInt pos.line,rawInt pos.col,c]):=fun l h=>by
 fun_induction TriplesOk l with
 |case1=>eC trivial
 |case2 a t b u x Es ih=>eC ih h
 |case3=>eC h.elim
def BmB (mg:Str→Option Value)(base:Heap):Prop:=∃(bm:Addr) (ob:Obj),mg "__builtins__"=some (.ref bm)∧bm≠builtinsNs∧base.get? bm=some ob∧ob.cls=.type "module"∧ob.dict=some builtinsNs∧ob.data=.plain
structure Agv (K:KKf)(mg:Str→Option Value)(base:Heap)(cdv:Value)(P:Addr):Prop where
 c:∃c,cdv=.ref c∧codeHdIn K c P=true
 bm:BmB mg base
section
variable {X:Cx}{pins:List (Addr×Obj)}{σ:L2.St}{H:Hp}{s:Shared}{P:Addr}{lp:Pos}{q:Str}
theorem Ajx (tf:Agv X.K X.mg X.base X.env.code P)(I:Ar X pins σ H s){ps:Array Value}(e:s.heap.get? P=some (tabObj ps)):s.heap.BuiltinsAt X.mg P:=by
 obtain ⟨bm,ob,h1,h2,h3,h4,h5,h6⟩:=tf.bm
 have e2:=I.bk _ _ h3
 rA ⟨bm,_,h1,h2,fun z=>?_,fun z=>?_,e2,h4,h5,h6⟩
 ·obtain ⟨o,es,ep,ho,hd,_⟩:=I.mod.glob
  rw [z,I.bk _ _ ho] at e2
  cases e2
  rw [hd] at h6
  cases h6
 ·rw [z,e] at e2
  cases e2
  cases h4
theorem Agi {h':Heap}{t':Nat}{ps more:Array Value}{c:Addr}(I:Ar X pins σ H s)(e:H P=some (.tbl ps))(k:Heap.ExtBut P s.heap h')(hP:h'.get? P=some (tabObj (ps++more)))(hc:s.heap.objs.size≤c)(hr:h'.CodeRec (.ref c) q) :
  Ar X pins σ (upd (upd H P (.tbl (ps++more))) c (Ahe c q)) { s with heap:=h',toks:=t' }:=by
 have hcn:H c=none:=I.hok.fresh hc
 have Pl:P<s.heap.objs.size:=I.hok.lt e
 have Pc:P≠c:=AS (AL Pl hc)
 have up:∀b o,b≠P→H b=some o→upd (upd H P (.tbl (ps++more))) c (Ahe c q) b=some o:=fun b o n x=>by
  rw [Ao (Bs x hcn),Ao n]
  eC x
 have nP:∀b,H b=none→b≠P:=fun b n z=>by
  rw [z,e] at n
  cases n
 rA I.un ⟨fun b o x n _ _=>k b o (nP b n) x,fun b o x n _ _=>⟨o.slots,k b o (nP b n) x⟩,fun b o x n _=>?_,fun b o x _=>?_,fun b xs x=>?_,fun b o u x=>?_,fun b qs x=>?_⟩ fun b u x=>?_
 ·rw [Ao (AS (AL (AH x) hc)),Ao (nP b n)]
  eC n
 ·by_cases z:b=P
  ·rw [z]
   eC ⟨_,hP⟩
  ·eC ⟨_,k b o z x⟩
 ·eC up b _ (fun z=>by rw [z,e] at x;cases x) x
 ·eC up b _ (fun z=>by rw [z,e] at x;cases x) x
 ·by_cases z:b=P
  ·rw [z,e] at x
   cases x
   rw [z,Ao Pc,Ag]
   eC ⟨more,rfl⟩
  ·eC ⟨#[],by rw [up b _ z x];simp⟩
 ·by_cases z:b=c
  ·rw [z,Ag] at x
   cases x
   obtain ⟨c',oc,vs,t,e',ho,r⟩:=id hr
   cases e'
   rw [z]
   eC ⟨hr,⟨oc,ho⟩,fun h1 h2 a b=>U2 a b⟩
  ·rw [Ao z] at x
   by_cases z2:b=P
   ·rw [z2,Ag] at x
    cases x
    rw [z2]
    eC hP
   ·rw [Ao z2] at x
    rA (I.hok b u x).stay (fun d v hd y=>k d v ?_ y) (fun d y=>up d _ (fun z=>by rw [z,e] at y;cases y) y) fun d xs y=>up d _ (fun z=>by rw [z,e] at y;cases y) y
    rcases hd with rfl|hd
    ·eC z2
    ·intro z
     rw [z,e] at hd
     cases hd
theorem Agz {v:Str}{p1 p2 p3 p4:Pos}{Q:Value→Shared→Prop}(tf:Agv X.K X.mg X.base X.env.code P)(I:Ar X pins σ H s)(hT:Av H P lp (X.env.qual++"<lambda>"))
  (h:∀f c H' s' pm ctv,Ar X pins σ H' s'→(∀b o,b≠P→H b=some o→H' b=some o)→Av H' P lp (X.env.qual++"<lambda>")→s'.heap.get? f=some (kla_obj "<lambda>" (X.env.qual++"<lambda>") (S6 v p4) (Q1 v p1 p2 p3) (Ob v) [] pm c ctv)→s'.heap.CodeRec (.ref c) (X.env.qual++"<lambda>")→Q (.ref f) s') :
  wpAny (model X.prog X.w) X.A (eval (.Lambda (S6 v p4) (Q1 v p1 p2 p3) (Ob v) lp) X.env) Q X.xe s:=by
 obtain ⟨ps,e,tr,hT⟩:=hT
 obtain ⟨c,ec,hd⟩:=tf.c
 have eP:s.heap.get? P=some (tabObj ps):=I.hok P _ e
 have C:CodeHd s.heap c P:=codeHd_of_K I.kIn hd
 have G:s.heap.Ns mainGlobals X.mg:=I.mod.glob.keeps I.bk
 have hcl:closureFor (Ob v) X.env=pure []:=rfl
 rA kla_eval rfl ?_
 rcases hT with hn|⟨c',hc',ec'⟩
 ·have gP:mainGlobals≠P:=fun z=>by
   obtain ⟨o,es,ep,ho,hd,_⟩:=G
   rw [z,eP] at ho
   cases ho
   cases hd
  rA kla_makeFunction hcl I.ok.glob G ec C eP tr hn gP (Ajx tf I eP) fun c' ctv h' tk k1 k2 k3 k4 k5=>?_
  have I2:=Agi (t':=tk) I e k1 k5 k2 k4
  have I3:=I2.kept (h':=h'.push (kla_obj "<lambda>" (X.env.qual++"<lambda>") (S6 v p4) (Q1 v p1 p2 p3) (Ob v) [] ((X.mg "__name__").getD .none) c' ctv)) (t':=tk) fun b u x=>AB _ x
  have hcn:H c'=none:=I.hok.fresh k2
  rA h _ c' _ _ _ ctv I3 (fun b o n x=>by rw [Ao (Bs x hcn),Ao n];eC x) ⟨ps++#[rawInt lp.line,rawInt lp.col,.ref c'],?_,?_,.inr ⟨c',?_,Ag⟩⟩ (AG _ rfl) ?_
  ·rw [Ao (Bs e hcn),Ag]
  ·rw [Array.toList_append]
   eC Wy _ tr
  ·rw [Array.toList_append]
   eC codeAmong_snoc _ tr hn
  ·eC U2 k4 fun o x=>AB _ x
 ·rA kla_makeFunctionHit hcl I.ok.glob G ec C eP tr hc' (Ajx tf I eP) fun ctv h' tk k1 k2=>?_
  have I3:=I.kept (h':=h'.push (kla_obj "<lambda>" (X.env.qual++"<lambda>") (S6 v p4) (Q1 v p1 p2 p3) (Ob v) [] ((X.mg "__name__").getD .none) c' ctv)) (t':=tk) fun b u x=>AB _ (k1 _ _ x)
  rA h _ c' _ _ _ ctv I3 (fun b o n x=>x) ⟨ps,e,tr,.inr ⟨c',hc',ec'⟩⟩ (AG _ rfl) ?_
  obtain ⟨y1,_,y3⟩:Bg X.prog X.w H s.heap c' (Ahe c' (X.env.qual++"<lambda>")):=I.hok c' _ ec'
  eC y3 _ _ y1 fun o x=>AB _ (k1 _ _ x)
def Anv (K:KKf)(P:Addr)(lp:Pos)(q:Str):List V→Hp→VK→Prop:=fun us H1 Q=>∃(l:Addr) (xs:List V) (key:Nat→Int),us=[.ref l]∧A3 K H1 l xs∧xs.length<64 ∧
 (∀i v,xs[i]? =some v→∃a ys,v=.ref a∧H1 a=some (.tup (.int (key i)::ys)))∧Av H1 P lp q ∧
 ∀D H2 p,(∀b o,b≠P→H1 b=some o→H2 b=some o)→H1 D=none→H2 D=some (.lst (p.map fun i=>xs.getD i .non))→Av H2 P lp q→Jp key xs.length p→Q (.ref D) H2
theorem R6 {xs:List V}{its:List Value}(rv:A7 xs its):∀{L:List Nat},(∀i∈L,i<xs.length)→A7 (L.map fun i=>xs.getD i .non) (L.map fun i=>its.getD i Value.none)
 |[],_=>.nil
 |i::L,h=>by
  have hi:=h i AK
  obtain ⟨v,hv,r⟩:=rv.get (AD hi)
  rw [BE,BE]
  rA .cons ?_ (R6 rv fun j hj=>h j (AJ _ hj))
  rw [BF,BF,hv,AD hi]
  eC r
theorem Aho {v:Str}{e:Expr}{ta:TA}{p p1 p2 p3 p4 kp pos:Pos}{k:Nat}(tf:Agv X.K X.mg X.base X.env.code P)(hr:B6 (k+2) X.A)(hg:Gl X "sorted")(hm:X.mg "sorted"=none)(ha:PA X [e] ta)(hd:(v==("__debug__":Str))=false:=by decide)
  (hst:starEach [e] X.env=[(false,eval e X.env)]:=by rfl) (hb:∀(nm ql:Str) (pm cd ct:Value) (a:Addr),bindArgs (PySem.W.kla_fn nm ql (S6 v p4) (Q1 v p1 p2 p3) (Ob v) [] pm cd ct) ⟨[.ref a],[]⟩=pure [(v,.ref a)]:=by intros;rfl) :
  PE X (.Call (.Name "sorted" p) [e] [⟨some "key",.Lambda (S6 v p4) (Q1 v p1 p2 p3) (Ob v) lp,kp⟩] pos) (tCB (Anv X.K P lp (X.env.qual++"<lambda>")) ta):=by
 intro pins s σ H Q I h
 rA DC (E7 I hg hm Nw ?_)
 rA callWith_kw (Bi (ha pos pins s σ H _ I h) fun us s1 ⟨vs,H1,I1,r1,q1⟩=>?_) (by rw [hst];rfl) (by rw [hst];rfl)
 obtain ⟨l,xs,key,ex,hq,hl,ht,hT,q⟩:=q1
 subst ex
 obtain ⟨u,rfl,ru⟩:=r1.one
 cases (show u=Value.ref l from ru)
 rA kws_cons ?_
 rA Agz (v:=v) (p1:=p1) (p2:=p2) (p3:=p3) (p4:=p4) tf I1 hT fun f c H2 s2 pm ctv I2 k2 hT2 hf hcd=>?_
 rA kws_nil ?_
 show wpAny (model X.prog X.w) X.A (call (.builtin "sorted") [.ref l] [(Str.ofString "key",.ref f)]) _ _ _
 obtain ⟨ps,eP,_⟩:=hT
 have hq2:A3 X.K H2 l xs:=by
  rcases hq with (h|⟨o,h⟩)|h
  ·eC .inl (.inl (k2 _ _ (fun z=>by rw [z,eP] at h;cases h) h))
  ·eC .inl (.inr ⟨o,k2 _ _ (fun z=>by rw [z,eP] at h;cases h) h⟩)
  ·eC .inr h
 obtain ⟨its,rv,⟨oL,nL,eL,cL,dL,xL⟩,hz⟩:=I2.list hq2
 have hlen:its.length=xs.length:=rv.length.symm
 rA Ahv (key:=key) (vs:=its) ⟨oL,eL,cL,nL,xL⟩ #o (fun i v' h1 t1 hv k1 Q' hQ=>?_) fun D h' t n pp hD st k' hd'=>?_
 ·have hi:i<xs.length:=by
   rw [←hlen]
   eC (BI.mp hv).1
  obtain ⟨a,ys,e1,e2⟩:=ht i _ (AD hi)
  have g:=rv.get (AD hi)
  rw [e1] at g
  obtain ⟨u',hu,ru'⟩:=g
  rw [hv] at hu
  cases hu
  cases (show v'=Value.ref a from ru')
  have e3:=k2 _ _ (fun z=>by rw [z,eP] at e2;cases e2) e2
  obtain ⟨_,tl,rt,ob,ho,r2⟩:Bg X.prog X.w H2 s2.heap a (.tup (.int (key i)::ys)):=I2.hok a _ e3
  cases rt with
  |cons r3 r4=>
   obtain ⟨tk,rfl⟩:=r3
   rA Afs (s:={ s2 with heap:=h1,toks:=t1 }) (hr.in1.in1.depth) (k1 _ _ hf) (U2 hcd fun o x=>k1 _ _ x) (I2.nolimit.keeps k1) hd (hb _ _ _ _ _ _) (l:=Value.int (key i) tk::_) ⟨ob,k1 _ _ ho,r2⟩ rfl fun h2 t2 k3=>hQ h2 t2 tk k3
 ·have hn2:H2 D=none:=I2.hok.fresh hD
  have hn1:H1 D=none:=by
   cases c:H1 D with
   |none=>rfl
   | some o=>
    by_cases z:D=P
    ·obtain ⟨ps2,e2,_⟩:=hT2
     rw [z,e2] at hn2
     cases hn2
    ·rw [k2 _ _ z c] at hn2
     cases hn2
  have I3:=I2.laid (t':=t) (h':=h') (a:=D) (o:=.lst (pp.map fun i=>xs.getD i .non)) k' hD ⟨by rw [AE,st.1,hlen];eC hz,Hy its pp,n,R6 rv fun i hi=>by rw [←hlen];eC st.2.1 i hi,hd'⟩
  rA ⟨.ref D,_,I3,rfl,q D _ pp (fun b o nb x=>?_) hn1 Ag (hT2.up fun b o x=>?_) (by rw [←hlen];eC st)⟩
  ·have x2:=k2 b o nb x
   rw [Ao (Bs x2 hn2)]
   eC x2
  ·rw [Ao (Bs x hn2)]
   eC x
end
def Ta (K:KKf)(x:Str):Addr:=match PySem.W.tabIn K x with
 |some (_,P)=>P
 |none=>0
structure Al3 (K:KKf)(mg:Str→Option Value)(base:Heap)(x:Str):Prop where
 tb:∃(f:Addr) (oc:Value) (od:Option Addr) (fd:FuncData) (sl:Array (Option Value)) (c:Addr),mg x=some (.ref f)∧K.lookup f=some ⟨oc,od,.func fd,sl⟩∧fd.code=.ref c∧codeHdIn K c (Ta K x)=true
 bm:BmB mg base
theorem Ak9 {K:KKf}{x:Str}{f c P:Addr}{oc cl:Value}{od cd:Option Addr}{fd:FuncData}{sl cs:Array (Option Value)}{vs:Array Value}(h1:PySem.W.nsIn K mainGlobals x=some (some (.ref f)))(h2:K.lookup f=some ⟨oc,od,.func fd,sl⟩)(h3:fd.code=.ref c)(h4:K.lookup c=some ⟨cl,cd,.fields vs,cs⟩)(h5:(vs[11]?:Option Value)=some (.ref P)):PySem.W.tabIn K x=some (c,P):=by
 unfold PySem.W.tabIn
 rw [h1]
 dsimp only
 rw [h2]
 dsimp only
 rw [h3]
 dsimp only
 rw [h4]
 dsimp only
 rw [h5]
theorem Ab3 {K:KKf}{x:Str}{c P:Addr}(h:PySem.W.tabIn K x=some (c,P)):Ta K x=P:=by
 unfold Ta
 rw [h]
section
variable {P:Program}{w:World}{K:KKf}{mg:Str→Option Value}{base:Heap}
theorem Bj.calT {x:Str}{st:Stmt}{N ps:List Str}{k:Nat}{sp:Sp}(d:Bj K mg x st ps)(tk:Al3 K mg base x)(S:Ai N ps (Af st))(len:∀vs H Q E,sp vs H Q E→vs.length=ps.length)
  (hbody:∀(f:Addr) (cdv:Value) (A:Around) (outer:List Env) (s:Shared) (H:Hp) (vs:List V) (Q:VK) (E:XK),Agv K mg base cdv (Ta K x)→B6 k (A.deeper (envOfC x (Af st) s.heap.objs.size f cdv))→sp vs H Q E →
   ∃t,Ny (Ct (Ew P w) P w K mg base N x (Af st) f cdv A outer s H E).nox (Bt st) t∧t { nx:=fun _ H'=>Q .non H',rt:=Q } (Ho N vs) H):Ba P w K mg base x ps (k+1) sp:=by
 obtain ⟨f,fd,F,hm,hb⟩:=d.ex
 obtain ⟨oc,od,kV,doc,pm,an,cdv,ct,osl,rfl,lk,hcd⟩:=F.ex
 obtain ⟨f',oc',od',fd',sl',c,m1,m2,m3,m4⟩:=tk.tb
 rw [hm] at m1
 cases m1
 rw [lk] at m2
 cases m2
 have tf:Agv K mg base cdv (Ta K x):=⟨⟨c,m3,m4⟩,tk.bm⟩
 eC ⟨f,_,hm,F.kp,hb,Agj lk hcd S len fun A outer s H vs Q E hr hsp=>by
  obtain ⟨t,h,q⟩:=hbody f cdv A outer s H vs Q E tf hr hsp
  eC ⟨t,h.nox,q⟩,oc,od,osl,lk⟩
end
def Ae7 (T:Addr)(H:Hp):Prop:=H T=some (.tbl #[])∧∀b,b≠T→H b=none∨∃o xs,H b=some (.frz o (.lst xs))
theorem Ac1 {P:Program}{w:World}{K:KKf}{mg mb:Str→Option Value}{CX:CXT}{k:Nat}{fa a cc T:Addr}{fd:FuncData}{x:Str}{sp:Sp}{t:Shared}{vs:List Value}{ns:List Int}
  (KX:K.In t.heap) (glob:t.heap.Ns mainGlobals mg) (blt:t.heap.Ns builtinsNs mb) (boot:∀x:Str,x≠"__name__"→mb x=bootBuiltins x) (lim:t.heap.NoLimit) (gens:t.gens=#[])
  (ca:t.heap.get? a=some { cls:=.type "list",data:=.seq vs.toArray }) (ia:IntsAre vs ns) (short:ns.length≤sizeLine) (room:B6 k callerA)
  (C:CodeHd t.heap cc T) (eT:t.heap.get? T=some (tabObj #[])) (kT:K.lookup T=none)
  (bmT:BmB mg t.heap) (F:∀base:Heap,K.In base→base.Ns mainGlobals mg→BmB mg base→Gy P w K mg base CX k fa fd [x] sp) (bind:∀(s:Shared) (u:Value),BindsTo s fd ⟨[u],[]⟩ [(x,u)])
  (want:∀H:Hp,Ae7 T H→A3 K H a (ns.map V.int)→sp [.ref a] H (fun v _=>v=.bl true) fun _ _ _=>False)
  (fly:∀H e s',CX [] H t (fun _ _ _=>False) e s'→False) :
  codeAny (model P w) callerA (.call (.ref fa) ⟨[.ref a],[]⟩) (fun r z=>r=.ok (.ret (.bool true))∧OldK t.heap z.heap∧z.os=t.os∧AllBare z.gens) t:=by
 have aT:a≠T:=fun z=>by
  rw [z,eT] at ca
  cases ca
 have core:∀H:Hp,Ae7 T H→A3 K H a (ns.map V.int)→Jy P w H t.heap→(∀b,H b≠none→b=a∨b=T)→(H a≠none→K.lookup a=none) →
   codeAny (model P w) callerA (.call (.ref fa) ⟨[.ref a],[]⟩) (fun r z=>r=.ok (.ret (.bool true))∧OldK t.heap z.heap∧z.os=t.os∧AllBare z.gens) t:=by
  intro H only sq hok two notK
  have nodict:∀{b:Addr} {o:Obj} {es:Array DictEntry} {ep:Nat},t.heap.get? b=some o→o.data=.dict es ep→H b=none:=fun {b o es ep} e d=>by
   cases c:H b with
   |none=>rfl
   | some u=>
    rcases two b (by rw [c];simp) with z|z
    ·subst z
     rw [ca] at e
     cases e
     cases d
    ·subst z
     rw [eT] at e
     cases e
     cases d
  have nsB:∀{b:Addr} {m:Str→Option Value},t.heap.Ns b m→(U6 t.heap H).Ns b m:=fun ⟨o,es,ep,e,d,r⟩=>⟨o,es,ep,Pe e (nodict e d),d,r⟩
  have kB:K.In (U6 t.heap H):=fun b o e=>Pe (KX b o e) (by
   cases c:H b with
   |none=>rfl
   | some u=>
    rcases two b (by rw [c];simp) with z|z
    ·subst z
     rw [notK (by rw [c];simp)] at e
     cases e
    ·subst z
     rw [kT] at e
     cases e)
  have md:Mod K mg (U6 t.heap H):=⟨kB,nsB glob,⟨mb,nsB blt,boot⟩,let ⟨mc,y1,y2⟩:=lim;⟨mc,nsB y1,y2⟩⟩
  have e0:Zw P w K mg (U6 t.heap H) callerA [] t H:=⟨rfl,md,fun b o e=>Aji e,Nat.le_of_eq (Adb _ _),trivial,fun b hb=>absurd (show b∈([]:List Addr) from hb) (by simp),hok,.of_eq gens⟩
  have bmB:BmB mg (U6 t.heap H):=by
   obtain ⟨bm,ob,h1,h2,h3,h4,h5,h6⟩:=bmT
   rA ⟨bm,ob,h1,h2,Pe h3 ?_,h4,h5,h6⟩
   cases c:H bm with
   |none=>rfl
   | some u=>
    rcases two bm (by rw [c];simp) with z|z
    ·subst z
     rw [ca] at h3
     cases h3
     cases h6
    ·subst z
     rw [eT] at h3
     cases h3
     cases h6
  rA FN ((F _ kB (nsB glob) bmB).run callerA [] t H ⟨[.ref a],[]⟩ [.ref a] [.ref a] _ _ room e0 (bind t (.ref a)) (.cons rfl .nil) (want H only sq)) fun r z y=>?_
  cases r with
  |error e=>eC (fly H e z y).elim
  | ok fl=>
   cases fl with
   |next=>eC y.elim
   |brk=>eC y.elim
   |cont=>eC y.elim
   | ret u=>
    obtain ⟨v,H',os,bare,un,hok',rv,yes⟩:=y
    obtain rfl:v=.bl true:=yes
    obtain rfl:u=Value.bool true:=rv
    obtain ⟨more,em⟩:=un.tbls T #[] only.1
    have zT:z.heap.get? T=some (tabObj (#[]++more)):=hok' T _ em
    have kp:∀b o,b≠T→t.heap.get? b=some o→z.heap.get? b=some o:=fun b o n e=>by
     rcases only.2 b n with c|⟨ob,xs,c⟩
     ·eC un.keep b o e c (fun q=>absurd (show b∈([]:List Addr) from q) (by simp)) (by simp)
     ·obtain ⟨g1,_⟩:=hok b _ c
      obtain ⟨g2,_⟩:=hok' b _ (un.frzs b ob _ c)
      rw [e] at g1
      cases g1
      eC g2
    rA ⟨rfl,⟨fun b o e=>?_,fun b o e=>?_⟩,os,bare⟩
    ·by_cases n:b=T
     ·subst n
      rw [eT] at e
      cases e
      eC .inr (.inl ⟨(C.tab eT).isCodeTable,rfl,#[],more,rfl,zT⟩)
     ·eC .inl (kp b o n e)
    ·by_cases n:b=T
     ·eC ⟨_,n▸zT⟩
     ·eC ⟨o,kp b o n e⟩
 have rv:=Sa ia
 have ln:=ia.length
 cases hk:K.lookup a with
 | some o=>
  have e:=KX a o hk
  rw [ca] at e
  cases e
  rA core (upd (fun _=>none) T (.tbl #[])) ⟨Ag,fun b n=>.inl (Ao n)⟩ (.inr ⟨_,vs.toArray,_,hk,rfl,rfl,rfl,by rw [AR,ln];eC short,by simpa using rv⟩) (fun b u z=>?_) (fun b z=>?_) fun z=>absurd (Ao aT) z
  ·by_cases n:b=T
   ·subst n
    rw [Ag] at z
    cases z
    eC eT
   ·rw [Ao n] at z
    cases z
  ·by_cases n:b=T
   ·eC .inr n
   ·eC absurd (Ao n) z
 | none=>
  rA core (upd (upd (fun _=>none) a (.frz { cls:=.type "list",data:=.seq vs.toArray } (.lst (ns.map V.int)))) T (.tbl #[])) ⟨Ag,fun b n=>?_⟩ (.inl (.inr ⟨{ cls:=.type "list",data:=.seq vs.toArray },?_⟩)) (fun b u z=>?_) (fun b z=>?_) fun _=>hk
  ·rw [Ao n]
   by_cases n2:b=a
   ·rw [n2,Ag]
    eC .inr ⟨_,_,rfl⟩
   ·eC .inl (Ao n2)
  ·rw [Ao aT,Ag]
  ·by_cases n:b=T
   ·subst n
    rw [Ag] at z
    cases z
    eC eT
   ·rw [Ao n] at z
    by_cases n2:b=a
    ·subst n2
     rw [Ag] at z
     cases z
     eC ⟨ca,by rw [AE];eC short,vs,_,rv,ca⟩
    ·rw [Ao n2] at z
     cases z
  ·by_cases n:b=T
   ·eC .inr n
   ·by_cases n2:b=a
    ·eC .inl n2
    ·eC absurd ((Ao n).trans (Ao n2)) z
end Lw
end
section
set_option autoImplicit false
namespace Lw
open PySem PySem.Spec PyProof.Rows L2 PySem.W
def W5 (x:Str)(K:KKf)(ns:List Int):Sp:=fun vs H Q _=>match vs with
 |[.ref a]=>A3 K H a (ns.map V.int)∧ns.length≤63∧Agq ns∧H (Ta K x)=some (.tbl #[])∧∀H',Q (.bl true) H'
 |_=>False
def Js (x:Str)(K:KKf):Sp:=fun vs H Q _=>∃(ns:List Int) (a:Addr),vs=[.ref a]∧A3 K H a (ns.map V.int)∧ns.length≤63∧Agq ns∧H (Ta K x)=some (.tbl #[])∧∀H',Q (.bl true) H'
section
variable {P:Program}{w:World}{K:KKf}{mg:Str→Option Value}{base:Heap}
theorem Afi {x:Str}{k:Nat}{st:Stmt}{f:Addr}{fd:FuncData}(F:Fun K "law" "law" st f fd)(hm:mg "law"=some (.ref f))(C:∀ns,Ba P w K mg base "law" ["_law_script"] k (W5 x K ns)):Gy P w K mg base (Ew P w) k f fd ["_law_script"] (Js x K):=by
 rA ⟨fun vs H Q E h=>?_,fun A outer s H args us vs Q E hr he hb hv hs=>?_⟩
 ·obtain ⟨ns,a,rfl,_⟩:=h
  rfl
 ·obtain ⟨ns,a,rfl,h1,h2,h3,h4,h5⟩:=hs
  obtain ⟨f',fd',e1,e2,e3,G,oc',od',osl',lk'⟩:=(C ns).ex
  obtain ⟨oc,od,kV,doc,pm,an,cdv,ct,osl,_,lk,_⟩:=F.ex
  rw [hm] at e1
  cases e1
  rw [lk] at lk'
  cases lk'
  eC G.run A outer s H args us _ Q E hr he hb hv ⟨h1,h2,h3,h4,h5⟩
end
theorem walk_ofBT {l:PySem.W.OpenLaw}{n k:Nat}{q:Program}{loose:List Str}{XP:(Str→Option Value)→Heap→Prop}{YP:World→Heap→Prop}{d:DefRec}{K:Params→KKf}{CX:World→CXT}{sp:World→Sp}{x y:Str}{ts:List Addr}
  (hn:l.most=some n) (hn2:n≤sizeLine) (hdf:d.params.defaults=[]) (hr:B6 k callerA) (hY:∀(w:World) (h:Heap),YP w h→(K w.params).In h)
  (hT:∀(w:World) (h:Heap),YP w h→∀P∈ts,h.get? P=some (tabObj #[]))
  (F:∀(w:World) (mg:Str→Option Value) (fa:Addr) (h:Heap),(K w.params).In h→h.Ns mainGlobals mg→mg d.name=some (.ref fa)→(∃c P,PySem.W.tabIn (K w.params) y=some (c,P)∧codeHdIn (K w.params) c P=true∧(K w.params).lookup P=none∧P∈ts)∧∃fd:FuncData,(∀(s:Shared) (u:Value),BindsTo s fd ⟨[u],[]⟩ [(x,u)])∧∀base:Heap,(K w.params).In base→base.Ns mainGlobals mg→BmB mg base→Gy l.prog w (K w.params) mg base (CX w) k fa fd [x] (sp w))
  (hsp:∀(w:World) (H:Hp) (a:Addr) (ns:List Int),ns.length≤n→Agq ns→Ae7 (Ta (K w.params) y) H→A3 (K w.params) H a (ns.map V.int)→sp w [.ref a] H (fun v _=>v=.bl true) fun _ _ _=>False)
  (hCX:∀(w:World) (H:Hp) (s:Shared) (e:Value) (s':Shared),CX w [] H s (fun _ _ _=>False) e s'→False):PySem.W.WalkO q loose XP YP l.row.toRowW d [] (fun f vs=>PySem.call f vs):=by
 rA Vr hn hdf fun w t₀ t mg mb fa o pm cd doc a vs ns bits G Y x1 x2 x3 x5 y1 y2 y3 x6=>?_
 have KX:=hY w _ Y
 obtain ⟨⟨c,T,tb,hC,kT,mT⟩,fd,bd,ok⟩:=F w mg fa _ KX G.T.g x5
 have C:CodeHd t.heap c T:=codeHd_of_K KX hC
 have eT:=hT w _ Y T mT
 eC Ac1 KX G.T.g G.T.b G.T.builtins G.T.nolimit x6 y1 y2 (AO y3 hn2) hr C eT kT G.T.bmain ok bd (fun H only sq=>hsp w H a ns y3 bits (by rw [Ab3 tb];eC only) sq) fun H e z=>hCX w H t e z
end Lw
end
section
namespace Lw
open PySem PySem.Spec PyProof.Rows L2
theorem u1 {n m:Nat}(h:n+64<m):n+1<m:=by omega
structure TL (kvs:List (B4×V))(ks:List Str)(f:Str→Int):Prop where
 key:kvs.map (·.1)=ks.map Sum.inr
 nd:ks.Nodup
 val:∀x,Cj kvs (Sum.inr x)=if x∈ks then some (.int (f x)) else none
 out:∀x,x∉ks→f x=0
theorem Xl {kvs:List (B4×V)}{ks:List Str}(h:kvs.map (·.1)=ks.map Sum.inr)(x:Str)(v:V):(Do kvs (Sum.inr x) v).map (·.1)=(dd ks x).map Sum.inr:=by
 have hany:(kvs.any fun kv=>decide (kv.1=Sum.inr x))=decide (x∈ks):=by
  have e:(kvs.any fun kv=>decide (kv.1=Sum.inr x))=(kvs.map (·.1)).any fun k=>decide (k=Sum.inr x):=by rw [List.any_map];rfl
  rw [e,h,List.any_map]
  by_cases hx:x∈ks
  ·rw [AQ hx,List.any_eq_true]
   eC ⟨x,hx,by simp⟩
  ·rw [BA hx,List.any_eq_false]
   intro y hy c
   have:y=x:=by simpa using c
   eC hx (this▸hy)
 unfold Do dd
 rw [hany]
 by_cases hx:x∈ks
 ·rw [AQ hx,AN rfl,AN hx,EV,←h]
  rA List.map_congr_left fun kv _=>?_
  show (if kv.1=Sum.inr x then (kv.1,v) else kv).1=kv.1
  split<;>rfl
 ·rw [BA hx,AI #d,AI hx,CB,h,CB]
  rfl
def kf (gs:List Gm):List Str:=gs.foldl (fun l g=>dd (dd l g.a) g.b) []
end Lw
end
section
namespace Lw
open PySem PySem.Spec PyProof.Rows L2
section
variable {prog:Program}{w:World}{A:Around}{E:Value→Shared→Prop}{s:Shared}
theorem Aem {d:Addr}{vs:List (B4×Value)}{ep:Nat}{Q:List Value→Shared→Prop}(hh:A.handled=none)(hok:s.heap.DictAt (A9 prog w) d vs ep)(lo:(d==sysModules)=false)(hn:vs.length≤sizeLine)
  (q:∀xs g tk,(∀b o,s.heap.get? b=some o→g.get? b=some o)→s.heap.objs.size<g.objs.size→xs.length=vs.length→(∀(j:Nat) v,xs[j]? =some v→∃k x,vs[j]? =some (k,x)∧(A9 prog w).is k v=true)→Q xs { s with heap:=g,toks:=tk }) :
  wpAny (model prog w) A (collect (.ref d)) Q E s:=by
 have la:d<s.heap.objs.size:=hok.lt_size
 unfold collect
 rA AA (wpAny_runValue (codeAny_builtin PySem.F.entry_proto_collect ?_))
 rw [DF PySem.F.plain_proto_collect _]
 show wpAny _ A.in1 (newList [] >>= fun l=>again (.builtin "list.__iadd__" ⟨[l,.ref d],[]⟩)) _ _ s
 rA AA (BS (AC ⟨FW FD _,codeAny_builtin PySem.F.entry_list_iadd ?_⟩))
 rw [DF FD _]
 show wpAny _ A.in1 (Builtin.List.listExtendWith (.ref s.heap.objs.size) (.ref d) (.ref s.heap.objs.size)) _ _ _
 have hS:(s.heap.push { cls:=.type "list",data:=.seq ([]:List Value).toArray }).get? s.heap.objs.size=some { cls:=.type "list",data:=.seq #[] 0 }:=AG _ rfl
 rA PySem.W.kdl_extend (R:=wants (fun v s'=>wpAny (model prog w) A (match v with|Value.ref a=>(do let o ←load a;match o.data with|.seq xs _=>pure xs.toList|_=>unsupported "internal:collect")|_=>unsupported "internal:collect") Q E s') E) (s:={ s with heap:=s.heap.push { cls:=.type "list",data:=.seq ([]:List Value).toArray } }) (PySem.W.kdl_dict lo) hh (hok.push _) s.heap.objs.size (CP la) (CP la) (.ref s.heap.objs.size) 0 hS (fun h' tk acc c hk hS' it=>?_) hn
 show wpAny _ A (load s.heap.objs.size >>= _) _ _ _
 rA AA (wpAny_load hS' (AC (q acc.toList h' tk (fun b o e=>hk b o (AS (AH e)) (AB _ e)) (AH hS') (by rw [BK];eC it.1) fun j v hv=>it.2 j v (by rw [←DP];eC hv))))
theorem N7:∀{names:List Str} {us:List Value},us.length=names.length→(∀(j:Nat) v,us[j]? =some v→∃x t,names[j]? =some x∧v=Value.str x t)→StrsAre us names
 |[],[],_,_=>.nil
 |[],_::_,h,_=>by simp at h
 |_::_,[],h,_=>by simp at h
 |x::names,u::us,h,a=>by
  obtain ⟨y,t,e1,e2⟩:=a 0 u rfl
  simp at e1
  subst e1 e2
  rA .cons _ t (N7 (by simpa using h) fun j v hv=>?_)
  have:=a (j+1) v (by simpa using hv)
  simpa using this
end
section
variable {X:Cx}
def Aku:List V→Hp→VK→Prop:=fun xs H Q=>match xs with
 |[.ref d]=>∃(kvs:List (B4×V)) (names:List Str),H d=some (.dK kvs)∧kvs.map (·.1)=names.map Sum.inr∧names.length<64∧names.Nodup∧∀D,H D=none→Q (.ref D) (upd H D (.lst ((Vu names).map V.str)))
 |_=>False
theorem Ah1 (hc:X.calm=true:=by rfl):Dg X (.builtin "sorted") Aku:=by
 intro pins s σ H xs us Q I r h
 match xs,h with
 | [.ref d],⟨kvs,names,e,hk,h64,nd,q⟩=>
  obtain ⟨u,rfl,ru⟩:=r.one
  cases (show u=Value.ref d from ru)
  obtain ⟨z,lo,vs,rel,dd⟩:=Aav I.hok e
  have kk:=rel.keys
  have kl:=rel.length
  obtain ⟨o,es,ep,r1⟩:=dd
  have at':s.heap.DictAt (A9 X.prog X.w) d vs ep:=⟨o,es,r1⟩
  have nl:kvs.length=names.length:=by
   have:=congrArg List.length hk
   simpa using this
  have hh:=I.ok.hd hc
  rA Calls.call_function_entry kind_sorted plain_sorted entry_sorted (args_sorted1 _) ?_
  unfold Builtin.«sorted»
  rA AA (m:=checkCount "sorted" 1 1 _) (AC (AA (Aem (by simp [hh]) at' lo #o fun xs g tk keep lg hl hg=>?_)))
  have sa:StrsAre xs names:=N7 #o fun j v hv=>by
   obtain ⟨k,x,h1,h2⟩:=hg j v hv
   have h3:(vs.map (·.1))[j]? =some k:=by rw [BJ,h1];rfl
   rw [←kk,hk,BJ] at h3
   cases hn:names[j]? with
   |none=>
    rw [hn] at h3
    cases h3
   | some y=>
    rw [hn] at h3
    cases h3
    rcases Bw (show N8 (Sum.inr y) v=true from h2) with ⟨i,t,e1,_⟩|⟨y',t,e1,e2⟩
    ·cases e1
    ·cases e1
     eC ⟨y,t,rfl,e2⟩
  rA AA (FX ?_ #o)
  have hoL:(g.push (seqObj "list" xs.toArray 0)).get? g.objs.size=some (seqObj "list" xs.toArray 0):=AG _ rfl
  rA AA (CS (wpAny_call_entry slot_list_sort ⟨_,hoL,rfl⟩ entry_list_sort (list_sort_treeK strKind_oneLt hoL sa.keysOf (fun v1 v2 r e=>keyKind_strs (by rw [←e];eC sa)) #o fun st' a1 a2=>⟨_,rfl,AC ⟨_,rfl,?_⟩⟩) (args_list_sort _)))
  obtain ⟨ys,b1,b2,b3⟩:=sorted_out_str sa a1 a2
  obtain ⟨n,hn⟩:=sortedHeap_at (out:=(arrOf st').map (·.2)) hoL
  have ey:ys=Vu names:=Le (Lj (Rv b3) (b2.nodup_iff.mpr nd)) (C8 _) fun x=>by rw [b2.mem_iff,Fc]
  subst ey
  have keep2:∀b ob,s.heap.get? b=some ob→(sortedHeap (g.push (seqObj "list" xs.toArray 0)) g.objs.size xs ((arrOf st').map (·.2))).get? b=some ob:=fun b ob e=>by
   have hb:=AH (keep b ob e)
   rw [sortedHeap_old (AS hb) (by rw [BW];eC CD hb)]
   eC AB _ (keep b ob e)
  have I2:=I.laid (t':=tk) (h':=sortedHeap (g.push (seqObj "list" xs.toArray 0)) g.objs.size xs ((arrOf st').map (·.2))) (a:=g.objs.size) (o:=.lst ((Vu names).map V.str)) keep2 (DK lg) ⟨by rw [AE,b2.length_eq];omega,((arrOf st').map (·.2)).toList,n,Pb b1,by rw [hn]⟩
  eC ⟨.ref g.objs.size,_,I2,rfl,q _ (I.hok.fresh (DK lg))⟩
end
inductive Rch (gs:List Gm)(n:Str):Str→Prop where
 |here:Rch gs n n
 |step {x y:Str}:Rch gs n x→y∈tkr x gs→Rch gs n y
end Lw
end
namespace PySem
open Sem (wp)
namespace F
end F
end PySem
section
namespace Lw
open PySem PySem.Spec PyProof.Rows L2
abbrev Ar2 (h:Heap)(z TI TO a:Addr)(b:Bool):Prop:=
 h.get? z=some { cls:=.type "zip",data:=.fields #[rawInt a,.bool b,.bool false,.ref TI,.ref TO] }
section
variable {prog:Program}{w:World}{A:Around}{E:Value→Shared→Prop}{s:Shared}
section
variable {K:Type}[DecidableEq K]{knd:KeyKind prog w K}
structure Dz (knd:KeyKind prog w K)(k1 k2:Bool)(z TI TO i1 i2 l1 l2 D:Addr)(xs ys:Array Value)(kvs:List (K×Value))(h0:Heap)(i:Nat)(h:Heap):Prop where
 dd:h.DictOf knd D (kvs.take i)
 ia:Wi k1 h i1 l1 i
 ib:Wi k2 h i2 l2 i
 sx:Qx k1 h l1 xs
 sy:Qx k2 h l2 ys
 ti:IsPair h TI (.ref i1) (.ref i2)
 zz:(i=0∧IsZip h z TI TO .none∧∃u v,IsPair h TO u v)∨∃p q oa,Ar2 h z TI TO p q∧h.get? p=some oa∧p≠z∧p≠i1∧p≠i2∧p≠D
 old:∀c o,c≠z→c≠TO→c≠i1→c≠i2→c≠D→h0.get? c=some o→h.get? c=some o
end
end
end Lw
end
section
namespace Lw
open PySem PySem.Spec PyProof.Rows L2
section
variable {prog:Program}{w:World}{A:Around}{E:Value→Shared→Prop}{s:Shared}
variable {K:Type}[DecidableEq K]{knd:KeyKind prog w K}
structure Dp (knd:KeyKind prog w K)(I l D:Addr)(xs:Array Value)(kvs:List (K×Value))(h0:Heap)(i:Nat)(h:Heap):Prop where
 dd:h.DictOf knd D (kvs.take i)
 st:h.IsListIter I l i∧h.IsList l xs
 old:∀c o,c≠I→c≠D→h0.get? c=some o→h.get? c=some o
end
end Lw
end
section
namespace Lw
open PySem PySem.Spec PyProof.Rows L2
section
variable {X:Cx}
theorem Ajp {pins:List (Addr×Obj)}{σ:L2.St}{H:Hp}{s:Shared}{a:Addr}{kvs:List (B4×V)}{o:Obj}(I:Ar X pins σ H s)(ha:H a=some (.dK kvs))(ho:s.heap.get? a=some o):Ar X pins σ (upd H a (.frz o (.dK kvs))) s:=by
 have old:∀b u,H b=some u→b≠a→upd H a (.frz o (.dK kvs)) b=some u:=fun b u e n=>by rw [Ao n];eC e
 rA I.step (g':=s.gens) (d':=s.drawn) (t':=s.toks) (h':=s.heap) (ch:=[]) (fun _ z=>nomatch z) (fun b o _ _ _ e _=>e) (fun b o _ _ _ e _=>⟨o.slots,e⟩) (fun b u _ e n=>?_) (fun b o _ e=>⟨o,e⟩) (fun b xs e=>old b _ e ?_) (fun b ob u e=>old b _ e ?_)
  (fun b ps e=>⟨#[],by rw [old b _ e (fun z=>by rw [z,ha] at e;cases e)];simp⟩) (fun m hm=>hm) (fun b u e=>?_) I.bare
 ·rw [Ao (fun z=>by rw [z,ha] at n;cases n)]
  eC n
 ·intro z
  rw [z,ha] at e
  cases e
 ·intro z
  rw [z,ha] at e
  cases e
 ·have ho':∀b c,H b=some (.own c)→upd H a (.frz o (.dK kvs)) b=some (.own c):=fun b c e=>old b _ e fun z=>by rw [z,ha] at e;cases e
  have ht':∀b xs,H b=some (.tup xs)→upd H a (.frz o (.dK kvs)) b=some (.tup xs):=fun b xs e=>old b _ e fun z=>by rw [z,ha] at e;cases e
  by_cases hb:b=a
  ·subst hb
   rw [Ag] at e
   cases e
   eC ⟨ho,(I.hok b _ ha).stay (fun c v _ q=>q) (fun c q=>ho' c _ q) ht'⟩
  ·rw [Ao hb] at e
   eC (I.hok b u e).stay (fun c v _ q=>q) (fun c q=>ho' c _ q) ht'
end
end Lw
end
section
namespace Lw
open PySem PySem.Spec PyProof.Rows L2
theorem Ahh {kvs:List (B4×V)}{vs:List (B4×Value)}(r:KV kvs vs):A7 (kvs.map (·.2)) (vs.map (·.2)):=by
 unfold KV at r
 induction r with
 |nil=>eC .nil
 |cons h _ ih=>eC .cons h.2 ih
def Am1 (td:TE):TE:=fun σ H Q=>td σ H fun x H1=>∃(d:Addr) (kvs:List (B4×V)),x=.ref d∧Rd H1 d (.dK kvs)∧∀D H',Ah H1 H'→H1 D=none→H' D=some (.lst (kvs.map (·.2)))→Q (.ref D) H'
section
variable {X:Cx}
theorem Xb {o:Expr}{td:TE}{p apos cpos pos:Pos}(hg:Gl X "list")(hm:X.mg "list"=none)(ho:PE X o td)(hcalm:X.calm=true)
  (hbase:attributeBase o "values" X.env (eval o X.env)=eval o X.env:=by rfl) (hline:(apos.endLine==cpos.line)=true:=by rfl) :
  PE X (.Call (.Name "list" p) [.Call (.Attribute o "values" apos) [] [] cpos] [] pos) (Am1 td):=by
 intro pins s σ H Q I h
 rA Call_ (E7 I hg hm PyProof.Rows.boot_list (BX ?_))
 rA DB ?_
 rA wpAny_Call_method0_late hbase hline (Bi (ho pins s σ H _ I h) fun u s1 ⟨x,H1,I1,rx,d,kvs,ex,hd,q⟩=>?_)
 subst ex
 obtain rfl:u=Value.ref d:=rx
 obtain ⟨t1,t2,lo⟩:=Yw I1 (.inl ⟨kvs,hd⟩)
 obtain ⟨z,_,vs,rel,dd⟩:=Pk I1.hok hd
 rA ⟨"dict","dict.values",GN,PySem.F.slot_dict_values,PySem.F.type_dict_values,t1,t2,FK rfl (PySem.evalArgs_none ?_)⟩
 rA call_meetsIn PySem.F.slot_dict_values t1 PySem.F.entry_dict_values (PySem.F.args_dict_values_1 _) (meets_dict_values (A9 X.prog X.w) d lo) ⟨⟨vs,dd⟩,DG ?_⟩
 obtain ⟨o',es,ep,r1⟩:=dd
 have at':s1.heap.DictAt (A9 X.prog X.w) d vs ep:=⟨o',es,r1⟩
 have kl:=rel.length
 have sz:(s1.heap.push { cls:=.type "dict_values",data:=.fields #[.ref d] }).objs.size=s1.heap.objs.size+1:=size_push' _ _
 rA PySem.W.kdl_call (s:={ s1 with heap:=s1.heap.push { cls:=.type "dict_values",data:=.fields #[.ref d] } }) (PySem.W.kdl_values (knd:=A9 X.prog X.w) (kvs:=vs) (ep:=ep) (r:=s1.heap.objs.size) (d:=d)) (I1.ok.hd hcalm) ⟨⟨_,AG _ rfl,rfl,rfl⟩,at'.push _⟩ #o fun h' tk acc c keep hS it=>?_
 have ea:acc.toList=vs.map (·.2):=PySem.W.kdl_vals_eq acc.toList (by rw [BK];eC it.1) fun j v hv=>it.2 j v (by rw [←DP];eC hv)
 have hD:H1 (s1.heap.objs.size+1)=none:=I1.hok.fresh (CT _)
 rw [sz] at hS ⊢
 rA ⟨.ref (s1.heap.objs.size+1),_,I1.laid (a:=s1.heap.objs.size+1) (o:=.lst (kvs.map (·.2))) (t':=tk) (fun b ob eb=>keep b ob (AB _ eb)) (CT _) (show Bg X.prog X.w _ h' _ (.lst (kvs.map (·.2))) from ⟨by rw [AE];eC z,vs.map (·.2),c,Ahh rel,?_⟩),rfl,q _ _ (Ap hD) hD Ag⟩
 rw [hS,←ea]
theorem Ad6 {pins:List (Addr×Obj)}{σ:L2.St}{H:Hp}{s:Shared}{a:Addr}{kvs:List (B4×V)}{o:Obj}(I:Ar X pins σ H s)(ha:H a=some (.frz o (.dK kvs)))(h0:∀o u,X.H₀ a≠some (.frz o u)):Ar X pins σ (upd H a (.dK kvs)) s:=by
 have ne:∀{b:Addr},H b=none→b≠a:=fun e z=>by rw [z,ha] at e;cases e
 have old:∀b u,H b=some u→b≠a→upd H a (.dK kvs) b=some u:=fun b u e n=>by rw [Ao n];eC e
 have nn:∀{b:Addr},H b=none→upd H a (.dK kvs) b=none:=fun e=>by rw [Ao (ne e)];eC e
 refine { ok:=I.ok,os:=I.os,bare:=I.bare,base:=?_,loc:=I.loc,cell:=I.cell,free:=nn I.free,freeC:=fun x c e=>nn (I.freeC x c e),pin:=fun p hp=>?_,hok:=fun b u e=>?_,len:=I.len }
 ·refine { keep:=I.base.keep,slot:=I.base.slot,free:=fun b o e n x=>nn (I.base.free b o e n x),there:=I.base.there,tups:=fun b xs e=>old b _ (I.base.tups b xs e) fun z=>?_,frzs:=fun b o u e=>old b _ (I.base.frzs b o u e) fun z=>?_,tbls:=fun b ps e=>?_ }
  ·have:=I.base.tups b xs e
   rw [z,ha] at this
   cases this
  ·eC h0 o u (z▸e)
  ·obtain ⟨more,e'⟩:=I.base.tbls b ps e
   eC ⟨more,old b _ e' fun z=>by rw [z,ha] at e';cases e'⟩
 ·obtain ⟨p1,p2,p3⟩:=I.pin p hp
  eC ⟨p1,nn p2,p3⟩
 ·have ho':∀b c,H b=some (.own c)→upd H a (.dK kvs) b=some (.own c):=fun b c e=>old b _ e fun z=>by rw [z,ha] at e;cases e
  have ht':∀b xs,H b=some (.tup xs)→upd H a (.dK kvs) b=some (.tup xs):=fun b xs e=>old b _ e fun z=>by rw [z,ha] at e;cases e
  by_cases hb:b=a
  ·subst hb
   rw [Ag] at e
   cases e
   have:=(show Bg X.prog X.w H s.heap b (.frz o (.dK kvs)) from I.hok b _ ha)
   eC (show Bg X.prog X.w H s.heap b (.dK kvs) from this.2).stay (fun c v _ q=>q) (fun c q=>ho' c _ q) ht'
  ·rw [Ao hb] at e
   eC (I.hok b u e).stay (fun c v _ q=>q) (fun c q=>ho' c _ q) ht'
def Aoj (H0:Hp)(te:TE):TE:=fun σ H Q=>te σ H fun v H'=>∃a o kvs,H' a=some (.frz o (.dK kvs))∧(∀o u,H0 a≠some (.frz o u))∧Q v (upd H' a (.dK kvs))
theorem Aiz {e:Expr}{te:TE}(he:PE X e te):PE X e (Aoj X.H₀ te):=by
 intro pins s σ H Q I h
 rA Bi (he pins s σ H _ I h) fun v s1 ⟨x,H1,I1,rx,a,o,kvs,ea,h0,q⟩=>?_
 eC ⟨x,_,Ad6 I1 ea h0,rx,q⟩
def Anz (a:Addr)(o:Obj)(ks:List B4):It:=
 ⟨fun i H=>(∃kvs,H a=some (.frz o (.dK kvs))∧kvs.map (·.1)=ks)∧i<ks.length,
  fun i H v H'=>H'=H∧∃x,ks[i]? =some x∧v=kV x,
  fun i H=>(∃kvs,H a=some (.frz o (.dK kvs))∧kvs.map (·.1)=ks)∧ks.length≤i⟩
theorem X8 {P:Program}{w:World}{K:KKf}{tg:Expr}{it a:Addr}{o:Obj}{names:List B4}{es:Array DictEntry}{ep:Nat}(ho:o.data=.dict es ep) :
  Vz P w K tg (Anz a o names) [it] it (fun i h=>h.IsKeyIter it a i names.length ep) where
 mem:=by simp
 obj:=fun i h Z c hc=>by
  have hc:c=it:=by simpa using hc
  subst hc
  obtain ⟨o,e,_,d⟩:=Z
  eC ⟨o,e,fun v z=>by rw [d] at z;cases z⟩
 keep:=fun i h h' Z k=>by
  obtain ⟨o,e,r⟩:=Z
  eC ⟨o,k it (by simp) o e,r⟩
 item:=by
  intro X hP hw hK hc i pins s σ H E I hf Z hg
  subst hP hw hK
  obtain ⟨⟨kvs,e,hk⟩,hi⟩:=hg
  obtain ⟨e0,z,lo,vs,rel,dd⟩:=(show Bg X.prog X.w H s.heap a (.frz o (.dK kvs)) from I.hok a _ e)
  have kk:=rel.keys
  have kl:=rel.length
  have nl:kvs.length=names.length:=by
   have:=congrArg List.length hk
   simpa using this
  obtain ⟨o',es',ep',r0,r1,r2,r3⟩:=dd
  rw [e0] at r0
  cases r0
  rw [ho] at r2
  cases r2
  have at':s.heap.DictAt (A9 X.prog X.w) a vs ep:=⟨o,es,e0,r1,ho,r3⟩
  have vl:vs.length=names.length:=by omega
  have hx:vs[i]? =some (vs[i]'#o):=AD #o
  generalize vs[i]'(by omega)=kv at hx
  obtain ⟨k,u⟩:=kv
  have h3:(vs.map (·.1))[i]? =some k:=by rw [BJ,hx];rfl
  rw [←kk,hk] at h3
  have hn:names[i]? =some names[i]:=AD hi
  have hkn:k=names[i]:=by
   rw [hn] at h3
   eC (Option.some.inj h3).symm
  have Z:s.heap.IsKeyIter it a i vs.length ep:=by rw [vl];eC Z
  rA wpAny_pyNext_dict_item Z at' hx fun key g hkey hit sb=>⟨_,rfl,?_⟩
  rA letGo_keyiter (s':={ s with heap:=g }) hit ?_
  have I1:Ar X pins σ H { s with heap:=g }:=M3 I (t':=s.toks) (fp:=[it]) (fun c o hc e=>sb.extBut c o (fun x=>hc (by simp [x])) e) hf
  rcases Bw (show N8 k key=true from hkey) with ⟨i',t,e1,e2⟩|⟨y',t,e1,e2⟩
  ·rA ⟨.int i',H,I1,⟨t,e2⟩,⟨rfl,_,h3,by rw [e1];rfl⟩,?_,fun b hb=>(hf b hb).1⟩
   rw [←vl]
   eC hit
  ·rA ⟨.str y',H,I1,⟨t,e2⟩,⟨rfl,_,h3,by rw [e1];rfl⟩,?_,fun b hb=>(hf b hb).1⟩
   rw [←vl]
   eC hit
 done:=by
  intro X hP hw hK hc i pins s σ H E I hf Z hg
  subst hP hw hK
  obtain ⟨⟨kvs,e,hk⟩,hi⟩:=hg
  obtain ⟨e0,z,lo,vs,rel,dd⟩:=(show Bg X.prog X.w H s.heap a (.frz o (.dK kvs)) from I.hok a _ e)
  have kl:=rel.length
  have nl:kvs.length=names.length:=by
   have:=congrArg List.length hk
   simpa using this
  obtain ⟨o',es',ep',r0,r1,r2,r3⟩:=dd
  rw [e0] at r0
  cases r0
  rw [ho] at r2
  cases r2
  have at':s.heap.DictAt (A9 X.prog X.w) a vs ep:=⟨o,es,e0,r1,ho,r3⟩
  have vl:vs.length=names.length:=by omega
  have Z:s.heap.IsKeyIter it a i vs.length ep:=by rw [vl];eC Z
  rA wpAny_pyNext_dict_end (I.ok.hd hc) Z at' (DA #o) fun g kp=>⟨rfl,?_⟩
  eC M3 I (t':=s.toks) (fp:=[it]) (fun c o hc e=>kp c o (fun x=>hc (by simp [x])) e) hf
 self:=fun _ _ _ _ _ Z h=>wpAny_pyIter_keyiter Z h
def Aml (te:TE):TI:=fun σ H R=>te σ H fun x H1=>∃a kvs,x=.ref a∧H1 a=some (.dK kvs)∧∀o,R (Anz a o (kvs.map (·.1))) (upd H1 a (.frz o (.dK kvs)))
theorem Aed {tg l:Expr}{te:TE}(hl:PE X l te):PI X tg l (Aml te):=by
 intro pins s σ H R I h
 rA Bi (hl pins s σ H _ I h) fun v s1 ⟨x,H1,I1,r1,q1⟩=>?_
 obtain ⟨a,kvs,e,ea,q⟩:=q1
 subst e
 cases r1
 obtain ⟨z,lo,vs,rel,dd⟩:=Aav I1.hok ea
 have kl:=rel.length
 obtain ⟨o,es,ep,r0,r1,r2,r3⟩:=dd
 have I2:=Ajp I1 ea r0
 have at':s1.heap.DictAt (A9 X.prog X.w) a vs ep:=⟨o,es,r0,r1,r2,r3⟩
 rA wpAny_pyIter_dict lo at' ?_
 rA ⟨s1.heap.objs.size,[s1.heap.objs.size],_,_,_,rfl,I2.kept (t':=s1.toks) fun b o e=>AB _ e,X8 (a:=a) (names:=kvs.map (·.1)) (ep:=ep) r2,⟨_,AG _ rfl,rfl,?_⟩,fun b hb=>?_,q o⟩
 ·show Data.fields _=Data.fields _
  rw [show vs.length=(kvs.map (·.1)).length by rw [AE];omega]
  rfl
 ·have e:b=s1.heap.objs.size:=by simpa using hb
  subst e
  eC I2.fpOk (AF _) (I2.hok.fresh (AF _))
theorem Wz {a:Addr}{o:Obj}{kvs:List (B4×V)}{g:TG}{tc:TT}{te:TE}{k:Nat}{js:List Nat}{σ:L2.St}{H1:Hp}{Q:VK}(R:Hp→B4→V→Prop)(up:∀m y H H',Kt H H'→R H m y→R H' m y)(c:B4→Bool)
  (hz:kvs.length≤1000) (hx:H1 a=some (.frz o (.dK kvs)))
  (hs:∀x H2,x∈kvs.map (·.1)→Ah H1 H2→∀(P:VK) (P':Hp→Prop),(c x=true→∀y H3,Ah H2 H3→R H3 x y→P y H3)→(c x=false→∀H3,Ah H2 H3→P' H3)→g (kV x) (List.replicate k none++capσ js σ) H2 fun σ2 H3=>σ2.drop k=capσ js σ∧tc σ2 H3 fun b H4=>Br b (te σ2 H4 P) (P' H4))
  (hq:∀D H' ys,Ah H1 H'→H1 D=none→H' D=some (.lst ys)→Az (R H') ((kvs.map (·.1)).filter c) ys→Q (.ref D) H'):Mv (Anz a o (kvs.map (·.1))) g tc te k js σ H1 Q:=by
 unfold Mv
 intro D hD
 rA ⟨fun i m H=>m=(kvs.map (·.1)).length-i∧i≤(kvs.map (·.1)).length∧Ah H1 H∧∃ys,H D=some (.lst ys)∧Az (R H) (((kvs.map (·.1)).take i).filter c) ys,⟨(kvs.map (·.1)).length,by simp,AV _,Ap hD,[],Ag,.nil⟩,?_⟩
 rintro i m H ⟨rfl,hi,sm,ys,hH,ar⟩
 have sq:=sm _ _ hx
 by_cases hlt:i<(kvs.map (·.1)).length
 ·rA .inr ⟨⟨⟨kvs,sq,rfl⟩,hlt⟩,fun v H' y=>?_⟩
  obtain ⟨rfl,x,hxi,rfl⟩:=y
  have yl:ys.length<sizeLine:=by
   rw [←ar.len]
   rA BO (CZ _ _) ?_
   rw [BQ]
   eC BO (GE _ _) (AL hlt (AO (by rw [AE];eC hz) #d))
  rA hs x _ (BH hxi) sm _ _ (fun hc y H3 s3 r3=>⟨ys,s3 _ _ hH,yl,(kvs.map (·.1)).length-(i+1),by omega,rfl,hlt,Ff (sm.trans s3) hD,ys++[y],Ag,?_⟩) fun hc H3 s3=>⟨(kvs.map (·.1)).length-(i+1),by omega,rfl,hlt,sm.trans s3,ys,s3 _ _ hH,?_⟩
  ·have kt:Kt H3 (upd H3 D (.lst (ys++[y]))):=Mj (s3 _ _ hH)
   rw [CI,hxi,GI]
   have ef:(Option.toList (some x)).filter c=[x]:=by simp [hc]
   rw [ef]
   eC (ar.imp fun v y r=>up v y _ _ ((Be s3).trans kt) r).snoc (up _ _ _ _ kt r3)
  ·rw [CI,hxi,GI]
   have ef:(Option.toList (some x)).filter c=[]:=by simp [hc]
   rw [ef,CG]
   eC ar.imp fun v y r=>up v y _ _ (Be s3) r
 ·have e:i=(kvs.map (·.1)).length:=by omega
  subst e
  rw [DX] at ar
  eC .inl ⟨⟨⟨kvs,sq,rfl⟩,AF _⟩,hq D _ ys sm hD hH ar⟩
theorem Ace (l:Addr)(items:Array Value)(n:Nat)(b:Addr)(items2:Array Value)(n2:Nat)(dd:Option Addr)(sl:Array (Option Value))(hs0:¬(!items.isEmpty&&Builtin.List.listTooLong (items.size+items2.size))=true)(hs1:items.size≤sizeLine)(hs2:items.size+items2.size≤sizeLine+1) :
  Meets (Builtin.«list.extend» ⟨[.ref l,.ref b],[]⟩) (fun _ R s=>s.heap.get? l=some { cls:=.type "list",dict:=none,data:=.seq items n,slots:=#[] }∧s.heap.get? b=some { cls:=.type "tuple",dict:=dd,data:=.seq items2 n2,slots:=sl }∧R (.ok (.ret Value.none)) { s with heap:=s.heap.update l (Obj.mapSeq fun x=>x++items2),toks:=s.toks }):=
 .of_wp fun prog w A R s h=>by
  obtain ⟨hp,g,d,tk,os⟩:=s;obtain ⟨hl,hb,h⟩:=h;have f1:=AutoSeq1.idx_int;have f2:=AutoSeq1.sub_tuple_tuple;have f3:=AutoSeq1.sub_list_list;have f4:=AutoSeq1.sub_tuple_list;have f5:=AutoSeq1.sub_list_tuple
  have hz':(items++items2).size≤sizeLine+1:=by rw [Array.size_append];eC hs2
  wp_walk using (HK hl rfl (hz:=hs1) (_hz':=hz')),EW hl,EW hb
  eC ⟨_,rfl,h⟩
def Ape:V→List V→Hp→VK→Prop:=fun x vs H Q=>∃l b xs zs,x=.ref l∧vs=[.ref b]∧H l=some (.lst xs)∧H b=some (.tup zs)∧xs.length+zs.length≤sizeLine∧Q .non (upd H l (.lst (xs++zs)))
theorem Ajj:MtM X "list.extend" Ape:=by
 intro pins s σ H x vs v us Q I rx rv h
 obtain ⟨l,b,xs,zs,rfl,rfl,hH,hB,hz,q⟩:=h
 cases rx
 obtain ⟨u,rfl,ru⟩:=rv.one
 cases ru
 obtain ⟨z,its,n,r,hl,e⟩:=I.lstM hH
 obtain ⟨z2,its2,r2,⟨c2,d2,b2,l2⟩,f1,f2,n2,f3⟩:=(show Bg X.prog X.w H s.heap _ (.tup zs) from I.hok _ _ hB)
 simp only at f2 f3
 subst f2 f3
 have hl2:=r2.length
 have hsz:its.toArray.size+its2.toArray.size≤sizeLine:=by rw [AR,AR];omega
 have hlong:¬(!its.toArray.isEmpty&&Builtin.List.listTooLong (its.toArray.size+its2.toArray.size))=true:=by
  rw [Ad5 hsz,GM]
  eC BC
 rA call_meets F.slot_list_extend ⟨_,e,rfl⟩ F.entry_list_extend (F.args_list_extend_2 _ _)
  (Ace l its.toArray n b its2.toArray n2 d2 l2 hlong (by rw [AR];omega) #o) ⟨e,f1,?_⟩
 rA ⟨.non,_,I.lset (its':=its++its2) hH e (by simp) (r.append r2) ?_,rfl,q⟩
 rw [AM]
 omega
theorem Ai2 {i o:Expr}{ty td:TE}{pos:Pos}(hu:X.A.units+1<cLine)(hi:PE X i ty)(ho:PE X o td)(hm:behindInMarks .NotIn o=false):PT X (.Compare i [.NotIn] [o] pos) (J1 (Aa3 ty td)):=by
 rw [Gi]
 eC Tw (Ac4 hu hi ho) hm
end
end Lw
end
section
namespace Lw
open PySem PySem.Spec PyProof.Rows L2
def gt2 (x1 x2 y1 y2:Int):Bool:=decide (y1<x1∨x1=y1∧y2<x2)
theorem Se {prog:Program}{w:World}{A:Around}{E:Value→Shared→Prop}{s:Shared}{a b:Int}{t u:Tok}{Q:Value→Shared→Prop}(h:Q (.bool (decide (a>b))) s):wpAny (model prog w) A (richCompare .Gt (.int a t) (.int b u)) Q E s:=gt_int h
theorem Acp (l b:Addr)(x1 x2 y1 y2:Int)(t1 t2 u1 u2 n n2:Nat)(dd dd2:Option Addr)(sl sl2:Array (Option Value)) :
  Meets (Builtin.«tuple.__gt__» ⟨[.ref l,.ref b],[]⟩)
   (fun A R s=>s.heap.get? l=some { cls:=.type "tuple",dict:=dd,data:=.seq #[.int x1 t1,.int x2 t2] n,slots:=sl }∧s.heap.get? b=some { cls:=.type "tuple",dict:=dd2,data:=.seq #[.int y1 u1,.int y2 u2] n2,slots:=sl2 } ∧
    R (.ok (.ret (.bool (gt2 x1 x2 y1 y2)))) s):=
 .of_wp fun prog w A R s h=>by
  obtain ⟨hp,g,d,tk,os⟩:=s;obtain ⟨hl,hb,h⟩:=h
  have f2:=AutoSeq1.sub_tuple_tuple
  wp_walk using EW hl,EW hb,wpAny_forIn_list _ (fun Es b s'=>b.1=none∧s'=⟨hp,g,d,tk,os⟩∧(Es=[(Value.int x1 t1,Value.int y1 u1),(Value.int x2 t2,Value.int y2 u2)]∨(Es=[(Value.int x2 t2,Value.int y2 u2)]∧x1=y1)∨(Es=[]∧x1=y1∧x2=y2))) _
  case turn=>
   rintro ⟨y,x⟩ Es b s' ⟨hb',rfl,hz⟩
   rcases hz with hz|⟨hz,e1⟩|⟨hz,_⟩
   ·injection hz with hyx hrest
    injection hyx with hy hx
    subst hy hx
    rA AA (MeetsSeq.EqGives.int x1 y1 t1 u1 _ _ _ _ _ _ ?_)
    cases c:(x1==y1) with
    |true=>
     have c:x1=y1:=by simpa using c
     wp_walk
     eC ⟨rfl,rfl,.inr (.inl ⟨hrest,c⟩)⟩
    | false=>
     have c:¬x1=y1:=by simpa using c
     have e:decide (x1>y1)=gt2 x1 x2 y1 y2:=by
      unfold gt2
      eC FU.mpr ⟨.inl,fun h=>h.resolve_right fun z=>c z.1⟩
     wp_walk using Se
     eC ⟨_,rfl,by rw [e];eC h⟩
   ·injection hz with hyx hrest
    injection hyx with hy hx
    subst hy hx
    rA AA (MeetsSeq.EqGives.int x2 y2 t2 u2 _ _ _ _ _ _ ?_)
    cases c:(x2==y2) with
    |true=>
     have c:x2=y2:=by simpa using c
     wp_walk
     eC ⟨rfl,rfl,.inr (.inr ⟨hrest,e1,c⟩)⟩
    | false=>
     have c:¬x2=y2:=by simpa using c
     have e:decide (x2>y2)=gt2 x1 x2 y1 y2:=by
      unfold gt2
      eC FU.mpr ⟨fun h=>.inr ⟨e1,h⟩,fun h=>h.elim (fun z=>absurd z #o) fun z=>z.2⟩
     wp_walk using Se
     eC ⟨_,rfl,by rw [e];eC h⟩
   ·cases hz
  case fin=>
   rintro ⟨b1,b2⟩ s' ⟨hb',rfl,hz⟩
   simp only at hb'
   subst hb'
   rcases hz with hz|⟨hz,_⟩|⟨_,e1,e2⟩
   ·cases hz
   ·cases hz
   ·have e:gt2 x1 x2 y1 y2=false:=BA #o
    rw [e] at h
    wp_walk
    eC ⟨_,rfl,h⟩
  case h=>
   eC ⟨rfl,rfl,.inl rfl⟩
section
variable {X:Cx}
def Ao3:R2:=fun x y H Q=>match x,y with
 |.ref a,.ref b=>∃x1 x2 y1 y2:Int,H a=some (.tup [.int x1,.int x2])∧H b=some (.tup [.int y1,.int y2])∧Q (.bl (gt2 x1 x2 y1 y2)) H
 |_,_=>False
theorem Ao7 (hu:X.A.units+64<cLine):Dy X (compareOp .Gt) Ao3:=by
 intro pins s σ H x y v u Q I rx ry q
 cases x<;>cases y<;>first
  |eC False.elim q
  | (obtain ⟨x1,x2,y1,y2,h1,h2,q⟩:=q
     cases rx
     cases ry
     obtain ⟨_,its,r,⟨c1,d1,b1,l1⟩,e1,e2,n,e3⟩:=(show Bg X.prog X.w H s.heap _ (.tup [.int x1,.int x2]) from I.hok _ _ h1)
     obtain ⟨_,its2,r2,⟨c2,d2,b2,l2⟩,f1,f2,n2,f3⟩:=(show Bg X.prog X.w H s.heap _ (.tup [.int y1,.int y2]) from I.hok _ _ h2)
     obtain ⟨w1,w2,rfl,⟨t1,rfl⟩,⟨t2,rfl⟩⟩:=Iz r
     obtain ⟨w3,w4,rfl,⟨u1,rfl⟩,⟨u2,rfl⟩⟩:=Iz r2
     simp only at e2 e3 f2 f3
     subst e2 e3 f2 f3
     eC richCompare_meets_room (op:=.Gt) ⟨_,e1,rfl⟩ ⟨_,f1,rfl⟩ F.slot_tuple_gt F.entry_tuple_gt (F.args_tuple_gt_2 _ _) (Acp _ _ x1 x2 y1 y2 t1 t2 u1 u2 n n2 d1 d2 l1 l2)
       ⟨e1,f1,show Value.bool (gt2 x1 x2 y1 y2)≠Value.notImplemented∧_ from ⟨(fun x=>nomatch x),.bl _,H,I,rfl,q⟩⟩ #o)
end
end Lw
end
section
set_option autoImplicit false
namespace Lw
open PySem PySem.Spec PyProof.Rows L2
structure Ej (K:KKf)(Cs Ds:List Addr)(m qual:Str)(st:Stmt)(ps:List Str):Prop where
 ex:∃(f:Addr) (fd:FuncData),Fun K m qual st f fd∧(∀C∈Cs,Ad8 K C m f)∧(∀C∈Ds,PySem.W.findCls K (.ref C) (.type "type") m=some (.val (.ref f)))∧Ee K fd ps []
structure Df (P:Program)(w:World)(K:KKf)(mg:Str→Option Value)(base:Heap)(Cs Ds:List Addr)(m:Str)(ps:List Str)(k:Nat)(sp:Sp):Prop where
 ex:∃(f:Addr) (fd:FuncData),(∀C∈Cs,Ad8 K C m f)∧(∀C∈Ds,PySem.W.findCls K (.ref C) (.type "type") m=some (.val (.ref f)))∧PySem.W.keepIn K (.ref f)=true∧Ee K fd ps []∧Gy P w K mg base (Ew P w) k f fd ps sp
section
variable {P:Program}{w:World}{K:KKf}{mg:Str→Option Value}{base:Heap}{Cs Ds:List Addr}
theorem Ej.calX {m qual:Str}{st:Stmt}{N ps:List Str}{k:Nat}{sp:Sp}(d:Ej K Cs Ds m qual st ps)(S:Ai N ps (Af st))(len:∀vs H Q E,sp vs H Q E→vs.length=ps.length)
  (hbody:∀(f:Addr) (cdv:Value) (A:Around) (outer:List Env) (s:Shared) (H:Hp) (vs:List V) (Q:VK) (E:XK),B6 k (A.deeper (envOfC qual (Af st) s.heap.objs.size f cdv))→sp vs H Q E →
   ∃t,Ny (Ct (Ew P w) P w K mg base N qual (Af st) f cdv A outer s H E) (Bt st) t∧t { nx:=fun _ H'=>Q .non H',rt:=Q } (Ho N vs) H):Df P w K mg base Cs Ds m ps (k+1) sp:=by
 obtain ⟨f,fd,F,hm,hd,hb⟩:=d.ex
 obtain ⟨oc,od,kV,doc,pm,an,cdv,ct,osl,rfl,lk,hcd⟩:=F.ex
 eC ⟨f,_,hm,hd,F.kp,hb,Agj lk hcd S len fun A outer s H vs Q E hr hsp=>hbody f cdv A outer s H vs Q E hr hsp⟩
theorem Ej.cal {m qual:Str}{st:Stmt}{N ps:List Str}{k:Nat}{sp:Sp}(d:Ej K Cs Ds m qual st ps)(S:Ai N ps (Af st))(len:∀vs H Q E,sp vs H Q E→vs.length=ps.length)
  (hbody:∀(f:Addr) (cdv:Value) (A:Around) (outer:List Env) (s:Shared) (H:Hp) (vs:List V) (Q:VK) (E:XK),B6 k (A.deeper (envOfC qual (Af st) s.heap.objs.size f cdv))→sp vs H Q E →
   ∃t,Ny (Ct (Ew P w) P w K mg base N qual (Af st) f cdv A outer s H E).nox (Bt st) t∧t { nx:=fun _ H'=>Q .non H',rt:=Q } (Ho N vs) H):Df P w K mg base Cs Ds m ps (k+1) sp:=
 d.calX S len fun f cdv A outer s H vs Q E hr hsp=>by
  obtain ⟨t,h,q⟩:=hbody f cdv A outer s H vs Q E hr hsp
  eC ⟨t,h.nox,q⟩
def MV (P:Program)(w:World)(K:KKf)(mg:Str→Option Value)(base:Heap)(m:Str)(k:Nat)(T:List (Addr×Sp)):Prop:=
 ∀p∈T,∃(f:Addr) (fd:FuncData) (ps:List Str),Ow K p.1∧Ad8 K p.1 m f∧Ee K fd ps []∧Gy P w K mg base (Ew P w) k f fd ps p.2
theorem Fu {m:Str}{k:Nat}:MV P w K mg base m k []:=fun p hp=>by cases hp
theorem Dv {C:Addr}{m:Str}{ps:List Str}{k k':Nat}{sp:Sp}{T:List (Addr×Sp)}(c:Df P w K mg base Cs Ds m ps k sp)(hC:C∈Cs)(cl:Ow K C)(hk:k≤k')(r:MV P w K mg base m k' T):MV P w K mg base m k' ((C,sp)::T):=fun p hp=>by
 rcases AU.mp hp with rfl|hp
 ·obtain ⟨f,fd,h1,_,_,h3,h4⟩:=c.ex
  eC ⟨f,fd,ps,cl,h1 C hC,h3,h4.mono hk⟩
 ·eC r p hp
end
def P0 (T:List (Addr×Sp))(m:Str)(E:XK)(ta:TE)(t:TA):TE:=fun σ H Q=>ta σ H fun x H1=>∃a C dx fs sp,x=.ref a∧H1 a=some (.ins C dx fs)∧(C,sp)∈T∧fs.lookup m=none∧t σ H1 fun vs H2=>sp (.ref a::vs) H2 Q E
structure MkC (K:KKf)(C:Addr):Prop where
 makes:PySem.W.makesIn K C=true
 kp:PySem.W.keepIn K (.ref C)=true
structure RdC (K:KKf)(C:Addr):Prop where
 reads:PySem.W.readsIn K C (.type "type")=true
 ga:PySem.W.specialIn K (.ref C) "__getattribute__"=some (some (.builtin "type.__getattribute__"))
def Xm (C:Addr)(sp:Sp)(E:XK)(t:TA):TE:=fun σ H Q=>t σ H fun vs H1=>∀x dx,H1 x=none→H1 dx=none→dx≠x →
 sp (.ref x::vs) (upd (upd H1 dx (.own x)) x (.ins C dx [])) (fun v H2=>v=.non∧Q (.ref x) H2) E
theorem Wl (C:Addr)(sp:Sp)(E:XK)(t:TA):Xm C sp E t=Abn C sp [] E t:=by
 funext σ H Q
 unfold Xm Abn
 simp only [CG]
section
variable {X:Cx}{pos p:Pos}{Cs Ds:List Addr}{E:XK}
theorem Akc {o e:Expr}{es:List Expr}{ta:TE}{t:TA}{T:List (Addr×Sp)}{m:Str}{k:Nat}{apos:Pos}{pl:Sem Bool}(he:PE X o ta)(hT:MV X.prog X.w X.K X.mg X.base m k T)(hr:B6 k X.A)(hx:Eg (Ew X.prog X.w) X E)(ha:PA X (e::es) t)
  (hst:starEach (e::es) X.env=(false,eval e X.env)::starEach es X.env) (hpl:(backTo pos (starEach es X.env)).any (·.1)=false)
  (ht:eval (.Call (.Attribute o m apos) (e::es) [] pos) X.env=(do
   let ov ←eval o X.env
   standAt apos.atName
   let (f,first) ←holding [ov] (getMethod ov m pl)
   callWith pos f first (backTo pos (starEach (e::es) X.env)) (backToKw pos (keywordEach [] X.env)))) :
  PE X (.Call (.Attribute o m apos) (e::es) [] pos) (P0 T m E ta t):=by
 intro pins s σ H Q I h
 rA HD (pl:=pl) (Bi (he pins s σ H _ I h) fun u s1 ⟨x,H1,I1,rx,a,C,dx,fs,sp,ex,ea,hC,l,q⟩=>?_) ht
 subst ex
 obtain rfl:u=Value.ref a:=rx
 obtain ⟨f,fd,ps,c,hm,hb,F⟩:=hT _ hC
 rA J9 I1 ea c hm l ?_
 rA FI (first:=[.ref a]) (h₀:=X.base) I.ok.mod.kin hm.kp (Bi (ha pos pins s1 σ H1 _ I1 q) fun us s2 ⟨vs,H2,I2,r,q2⟩=>⟨I2.kIn,?_⟩) hst hpl
 eC Va (us:=.ref a::us) (vs:=.ref a::vs) (dvs:=[]) F hr hb .nil hx I2 (.cons rfl r) (by rw [CG];eC q2)
theorem Alc {o:Expr}{ta:TE}{T:List (Addr×Sp)}{m:Str}{k:Nat}{apos:Pos}{pl:Sem Bool}(he:PE X o ta)(hT:MV X.prog X.w X.K X.mg X.base m k T)(hr:B6 k X.A)(hx:Eg (Ew X.prog X.w) X E)
  (ht:eval (.Call (.Attribute o m apos) [] [] pos) X.env=(do
   let ov ←eval o X.env
   standAt apos.atName
   let (f,first) ←holding [ov] (getMethod ov m pl)
   callWith pos f first (backTo pos (starEach [] X.env)) (backToKw pos (keywordEach [] X.env)))) :
  PE X (.Call (.Attribute o m apos) [] [] pos) (P0 T m E ta Aco):=by
 intro pins s σ H Q I h
 rA HD (pl:=pl) (Bi (he pins s σ H _ I h) fun u s1 ⟨x,H1,I1,rx,a,C,dx,fs,sp,ex,ea,hC,l,q⟩=>?_) ht
 subst ex
 obtain rfl:u=Value.ref a:=rx
 obtain ⟨f,fd,ps,c,hm,hb,F⟩:=hT _ hC
 rA J9 I1 ea c hm l ?_
 eC PySem.W.callWith_K0 (first:=[.ref a]) I1.kIn hm.kp (Va (us:=[.ref a]) (vs:=[.ref a]) (dvs:=[]) F hr hb .nil hx I1 (.cons rfl .nil) q)
theorem O1 {o e:Expr}{es:List Expr}{ta:TE}{t:TA}{T:List (Addr×Sp)}{m:Str}{k:Nat}{apos:Pos}{pl:Sem Bool}(he:PE X o ta)(hT:MV X.prog X.w X.K X.mg X.base m k T)(hr:B6 k X.A)(ha:PA X (e::es) t)
  (hst:starEach (e::es) X.env=(false,eval e X.env)::starEach es X.env:=by rfl) (hpl:(backTo pos (starEach es X.env)).any (·.1)=false:=by rfl)
  (ht:eval (.Call (.Attribute o m apos) (e::es) [] pos) X.env=(do
   let ov ←eval o X.env
   standAt apos.atName
   let (f,first) ←holding [ov] (getMethod ov m pl)
   callWith pos f first (backTo pos (starEach (e::es) X.env)) (backToKw pos (keywordEach [] X.env))):=by rfl) :
  PE X (.Call (.Attribute o m apos) (e::es) [] pos) (P0 T m E0 ta t):=Akc he hT hr P7 ha hst hpl ht
theorem L9 {o:Expr}{ta:TE}{T:List (Addr×Sp)}{m:Str}{k:Nat}{apos:Pos}{pl:Sem Bool}(he:PE X o ta)(hT:MV X.prog X.w X.K X.mg X.base m k T)(hr:B6 k X.A)
  (ht:eval (.Call (.Attribute o m apos) [] [] pos) X.env=(do
   let ov ←eval o X.env
   standAt apos.atName
   let (f,first) ←holding [ov] (getMethod ov m pl)
   callWith pos f first (backTo pos (starEach [] X.env)) (backToKw pos (keywordEach [] X.env))):=by rfl) :
  PE X (.Call (.Attribute o m apos) [] [] pos) (P0 T m E0 ta Aco):=Alc he hT hr P7 ht
theorem Aoh {x:Str}{C:Addr}{ps:List Str}{k k':Nat}{sp:Sp}{e:Expr}{es:List Expr}{t:TA}(c:Df X.prog X.w X.K X.mg X.base Cs Ds "__init__" ps k sp)(hC:C∈Cs)(M:MkC X.K C)(hr:B6 k' X.A)(hk:k+1≤k')(hg:Gl X x)(hm:X.mg x=some (.ref C))(hx:Eg (Ew X.prog X.w) X E)
  (ha:PA X (e::es) t) (hdb:(x==("__debug__":Str))=false) (he:starEach (e::es) X.env=(false,eval e X.env)::starEach es X.env) (hpl:(backTo pos (starEach es X.env)).any (·.1)=false) :
  PE X (.Call (.Name x p) (e::es) [] pos) (Xm C sp E t):=by
 obtain ⟨f,fd,h1,_,_,h3,h4⟩:=c.ex
 rw [Wl]
 eC Ahw ⟨M.makes,(h1 C hC).at_,(h1 C hC).fn,M.kp⟩ h4 (hr.mono hk) hg hm h3 .nil hx ha hdb he hpl
theorem Ut {x:Str}{C:Addr}{ps:List Str}{k k':Nat}{sp:Sp}{e:Expr}{es:List Expr}{t:TA}(c:Df X.prog X.w X.K X.mg X.base Cs Ds "__init__" ps k sp)(hC:C∈Cs)(M:MkC X.K C)(hr:B6 k' X.A)(hk:k+1≤k')(hg:Gl X x)(hm:X.mg x=some (.ref C))
  (ha:PA X (e::es) t) (hdb:(x==("__debug__":Str))=false:=by decide) (he:starEach (e::es) X.env=(false,eval e X.env)::starEach es X.env:=by rfl) (hpl:(backTo pos (starEach es X.env)).any (·.1)=false:=by rfl) :
  PE X (.Call (.Name x p) (e::es) [] pos) (Xm C sp E0 t):=Aoh c hC M hr hk hg hm P7 ha hdb he hpl
structure IsC (K:KKf)(C:Addr):Prop where
 ha:PySem.W.findIn K (.ref C) "__class__"=some (some (.builtin "object.__class__"))
 hn:PySem.W.specialIn K (.builtin "object.__class__") "__get__"=some (some (.builtin "getset_descriptor.__get__"))
 ht:PySem.W.takesIn K (.builtin "object.__class__")=some true
 hm:PySem.W.mroIn K C (.type "object")=some true
theorem ac_nil {p:Addr→Prop}:∀C∈([]:List Addr),p C:=fun _ h=>by cases h
theorem ac_cons {p:Addr→Prop}{c:Addr}{l:List Addr}(h:p c)(r:∀C∈l,p C):∀C∈c::l,p C:=fun C hC=>by
 rcases AU.mp hC with rfl|hC
 ·eC h
 ·eC r C hC
end
end Lw
end
section
set_option autoImplicit false
namespace Lw
open PySem PySem.Spec PyProof.Rows L2
abbrev cxT (X:Cx)(σ0:L2.St)(p0:List (Addr×Obj))(Eh:XK):Cx:={ X with pn:=X.pn++p0,xe:=fun e s'=>∃H1 s1,Ar X p0 σ0 H1 s1∧Ew X.prog X.w X.stack H1 s1 Eh e s' }
section
variable {X:Cx}{p0 pins:List (Addr×Obj)}{σ0 σ:L2.St}{H:Hp}{s:Shared}{Eh:XK}
theorem Adp (I:Ar X p0 σ H s):Ar (cxT X σ0 p0 Eh) [] σ H s:=
 ⟨⟨I.ok.mod,I.ok.kind,I.ok.glob,I.ok.blt,I.ok.above,I.ok.inj,I.ok.has,I.ok.cab,I.ok.hd,I.ok.frames,I.ok.stk,I.ok.exf,I.ok.bs,I.ok.bsz,I.ok.noex,I.ok.exfs,I.ok.funs,I.ok.frf⟩,I.os,I.bare,I.base,I.loc,I.cell,I.free,I.freeC,fun p hp=>I.pin p (by
  have hp:p∈(X.pn++p0)++[]:=hp
  rwa [CG] at hp),I.hok,I.len⟩
theorem Fj (I:Ar (cxT X σ0 p0 Eh) pins σ H s):Ar X p0 σ H s:=
 ⟨⟨I.ok.mod,I.ok.kind,I.ok.glob,I.ok.blt,I.ok.above,I.ok.inj,I.ok.has,I.ok.cab,I.ok.hd,I.ok.frames,I.ok.stk,I.ok.exf,I.ok.bs,I.ok.bsz,I.ok.noex,I.ok.exfs,I.ok.funs,I.ok.frf⟩,I.os,I.bare,I.base,I.loc,I.cell,I.free,I.freeC,fun p hp=>I.pin p (EL _ hp),I.hok,I.len⟩
end
section
variable {X:Cx}{p0:List (Addr×Obj)}{σ0:L2.St}{Eh:XK}{pos p:Pos}
theorem Aja {k:Nat}{f:Addr}{fd:FuncData}{ps:List Str}{sp:Sp}{pins:List (Addr×Obj)}{H:Hp}{s:Shared}{Q:VK}{us:List Value}{vs:List V}(F:Gy X.prog X.w X.K X.mg X.base (Ew X.prog X.w) k f fd ps sp)(hr:B6 k X.A)(hb:Ee X.K fd ps [])
  (I:Ar (cxT X σ0 p0 Eh) pins σ0 H s) (r:A7 vs us) (h:sp vs H Q Eh):wpAny (model X.prog X.w) X.A (call (.ref f) us) (EP (cxT X σ0 p0 Eh) pins σ0 Q) (cxT X σ0 p0 Eh).xe s:=by
 have hl:(us++[]).length=ps.length:=by
  rw [CG,←r.length]
  eC F.len _ _ _ _ h
 have hb':=hb s us I.kIn hl
 rw [CG] at hb'
 rA wpAny_call (FN (F.run X.A X.stack s H ⟨us,[]⟩ us vs Q Eh hr I.env0 hb' r h) fun res s' hq=>?_)
 cases res with
 |error er=>eC ⟨H,s,Fj I,hq⟩
 |ok fl=>
  cases fl with
  |ret u=>eC I.after hq
  |next=>eC False.elim hq
  |brk=>eC False.elim hq
  |cont=>eC False.elim hq
def Ann (T:List (Addr×Sp))(m:Str)(σ0:L2.St)(E:XK)(ta:TE)(t:TA):TE:=fun σ H Q=>ta σ H fun x H1=>∃a C dx fs sp,x=.ref a∧H1 a=some (.ins C dx fs)∧(C,sp)∈T∧fs.lookup m=none∧t σ H1 fun vs H2=>σ=σ0∧sp (.ref a::vs) H2 Q E
theorem Ajk {o e:Expr}{es:List Expr}{ta:TE}{t:TA}{T:List (Addr×Sp)}{m:Str}{k:Nat}{apos:Pos}{pl:Sem Bool}(he:PE (cxT X σ0 p0 Eh) o ta)(hT:MV X.prog X.w X.K X.mg X.base m k T)(hr:B6 k X.A)(ha:PA (cxT X σ0 p0 Eh) (e::es) t)
  (hst:starEach (e::es) X.env=(false,eval e X.env)::starEach es X.env:=by rfl) (hpl:(backTo pos (starEach es X.env)).any (·.1)=false:=by rfl)
  (ht:eval (.Call (.Attribute o m apos) (e::es) [] pos) X.env=(do
   let ov ←eval o X.env
   standAt apos.atName
   let (f,first) ←holding [ov] (getMethod ov m pl)
   callWith pos f first (backTo pos (starEach (e::es) X.env)) (backToKw pos (keywordEach [] X.env))):=by rfl) :
  PE (cxT X σ0 p0 Eh) (.Call (.Attribute o m apos) (e::es) [] pos) (Ann T m σ0 Eh ta t):=by
 intro pins s σ H Q I h
 rA HD (pl:=pl) (Bi (he pins s σ H _ I h) fun u s1 ⟨x,H1,I1,rx,a,C,dx,fs,sp,ex,ea,hC,l,q⟩=>?_) ht
 subst ex
 obtain rfl:u=Value.ref a:=rx
 obtain ⟨f,fd,ps,c,hm,hb,F⟩:=hT _ hC
 rA J9 I1 ea c hm l ?_
 rA FI (first:=[.ref a]) (h₀:=X.base) I.ok.mod.kin hm.kp (Bi (ha pos pins s1 σ H1 _ I1 q) fun us s2 ⟨vs,H2,I2,r,eσ,q2⟩=>⟨I2.kIn,?_⟩) hst hpl
 subst eσ
 eC Aja (us:=.ref a::us) (vs:=.ref a::vs) F hr hb I2 (.cons rfl r) q2
end
section
variable {P:Program}{w:World}{K:KKf}{mg:Str→Option Value}{base:Heap}{N:List Str}{qual:Str}{scope:Scope}{f:Addr}{cd:Value}{A:Around}{outer:List Env}{s₀:Shared}{H₀:Hp}{E:XK}{pos:Pos}
theorem Aaa {o e:Expr}{es:List Expr}{ta:TE}{t:TA}{T:List (Addr×Sp)}{m:Str}{k:Nat}{apos:Pos}{pl:Sem Bool}(he:PE (Ct (Ew P w) P w K mg base N qual scope f cd A outer s₀ H₀ E) o ta)(hT:MV P w K mg base m k T)(hr:B6 k (Ct (Ew P w) P w K mg base N qual scope f cd A outer s₀ H₀ E).A)(ha:PA (Ct (Ew P w) P w K mg base N qual scope f cd A outer s₀ H₀ E) (e::es) t)
  (hst:starEach (e::es) (Ct (Ew P w) P w K mg base N qual scope f cd A outer s₀ H₀ E).env=(false,eval e (Ct (Ew P w) P w K mg base N qual scope f cd A outer s₀ H₀ E).env)::starEach es (Ct (Ew P w) P w K mg base N qual scope f cd A outer s₀ H₀ E).env:=by rfl) (hpl:(backTo pos (starEach es (Ct (Ew P w) P w K mg base N qual scope f cd A outer s₀ H₀ E).env)).any (·.1)=false:=by rfl)
  (ht:eval (.Call (.Attribute o m apos) (e::es) [] pos) (Ct (Ew P w) P w K mg base N qual scope f cd A outer s₀ H₀ E).env=(do
   let ov ←eval o (Ct (Ew P w) P w K mg base N qual scope f cd A outer s₀ H₀ E).env
   standAt apos.atName
   let (f',first) ←holding [ov] (getMethod ov m pl)
   callWith pos f' first (backTo pos (starEach (e::es) (Ct (Ew P w) P w K mg base N qual scope f cd A outer s₀ H₀ E).env)) (backToKw pos (keywordEach [] (Ct (Ew P w) P w K mg base N qual scope f cd A outer s₀ H₀ E).env))):=by rfl) :
  PE (Ct (Ew P w) P w K mg base N qual scope f cd A outer s₀ H₀ E) (.Call (.Attribute o m apos) (e::es) [] pos) (P0 T m E ta t):=Akc he hT hr Aal ha hst hpl ht
end
end Lw
end
section
namespace Lw
open PySem PySem.Spec PyProof.Rows L2
def FnV (K:KKf)(mg:Str→Option Value)(x:Str):Prop:=∃f:Addr,mg x=some (.ref f)∧PySem.W.nsIn K mainGlobals x=some (some (.ref f))
end Lw
end
section
set_option autoImplicit false
namespace Lw
open PySem PySem.Spec PyProof.Rows L2
section
variable {X:Cx}
def Apl:V→List V→Hp→VK→Prop:=fun x xs H Q=>match x,xs with
 |.str x,[.str y]=>(y.length==0)=false∧x.length≤5000∧∀T H',Ah H H'→H' T=some (.tup [.str (Txt.partition x y).1,.str (Txt.partition x y).2.1,.str (Txt.partition x y).2.2])→Q (.ref T) H'
 |_,_=>False
theorem Alk:MtR X "str.partition" Apl:=by
 intro pins s σ H x xs v us Q I rx rs h
 match x,xs,h with
 | .str x,[.str y],⟨hy,hx,q⟩=>
  obtain ⟨t,rfl⟩:=rx
  obtain ⟨u,rfl,r1⟩:=F2 rs
  obtain ⟨t',rfl⟩:=r1
  have big:(5000:Nat)≤sizeLine:=by decide
  have hn:=I.hok.fresh (AF _)
  have out:∀(l:List Value) (tk:Nat) (zs:List V),zs.length=3→A7 zs l→(∀T H',Ah H H'→H' T=some (.tup zs)→Q (.ref T) H')→EP X pins σ Q (.ref s.heap.objs.size) { s with heap:=s.heap.push { cls:=.type "tuple",data:=.seq l.toArray },toks:=tk }:=by
   intro l tk zs hz hv q
   rA ⟨.ref _,_,I.laid (t':=tk) (o:=.tup zs) (fun b ob q=>AB _ q) (AF _) ?_,rfl,q _ _ (Ap hn) Ag⟩
   eC ⟨by rw [hz];decide,l,hv,IsTup.new _ _⟩
  rA call_meets F.slot_str_partition (GJ _ _ _) F.entry_str_partition (F.args_str_partition_2 _ _) (meets_str_partition x y t t' hy #o) ?_
  unfold Txt.partition at q
  revert q
  cases Builtin.Str.occurrences x y 0 x.length 1 with
  |nil=>eC fun q=>out _ _ [.str x,.str Str.empty,.str Str.empty] rfl (.cons ⟨_,rfl⟩ (.cons ⟨_,rfl⟩ (.cons ⟨_,rfl⟩ .nil))) q
  |cons i r=>eC fun q=>out _ _ [.str (Builtin.Str.strSub x 0 i),.str y,.str (Builtin.Str.strSub x (i+y.length) x.length)] rfl (.cons ⟨_,rfl⟩ (.cons ⟨_,rfl⟩ (.cons ⟨_,rfl⟩ .nil))) q
end
def Ol (P:Program)(w:World)(K:KKf)(a:Addr)(kvs:List (B4×V)):Prop:=∃o vs,K.lookup a=some o∧o.IsDictOf (A9 P w) vs∧KV kvs vs∧(a==sysModules)=false
inductive DEs (w:World):List DictEntry→List (B4×Value)→Prop where
 |nil:DEs w [] []
 |cons {h:Int} {x:Str} {t:Tok} {v:Value} {l:List DictEntry} {m:List (B4×Value)}:h=PySem.PyData.keyHash w.params x→DEs w l m→DEs w (⟨h,.str x t,v⟩::l) ((.inr x,v)::m)
theorem DEs.keys {P:Program}{w:World}{l:List DictEntry}{m:List (B4×Value)}(h:DEs w l m):KeysOf (A9 P w) l.toArray:=by
 induction h with
 |nil=>eC fun e he=>by simp at he
 |@cons h x t v l m hh _ ih=>
  intro e he
  rcases AU.mp (by simpa using he) with rfl|he
  ·eC ⟨.inr x,Ii P w x t,hh⟩
  ·eC ih e (by simpa using he)
theorem DEs.pairs {P:Program}{w:World}{l:List DictEntry}{m:List (B4×Value)}(h:DEs w l m):Pairs (A9 P w) l m:=by
 induction h with
 |nil=>eC .nil
 |cons _ _ ih=>eC .cons (Ii P w _ _) rfl ih
theorem dic_mk {P:Program}{w:World}{K:KKf}{a:Addr}{kvs:List (B4×V)}{l:List DictEntry}{ep:Nat}{m:List (B4×Value)}(p:K.lookup a=some ⟨.type "dict",none,.dict l.toArray ep,#[]⟩)(h:DEs w l m)(r:KV kvs m)(d:(m.map (·.1)).Nodup)(s:(a==sysModules)=false):Ol P w K a kvs:=
 ⟨_,m,p,⟨_,ep,⟨rfl,rfl,rfl⟩,rfl,h.keys,by simpa using h.pairs,d⟩,r,s⟩
def Aop (a:Addr)(kvs:List (B4×V))(td ty:TE):TE:=fun σ H Q=>td σ H fun x H1=>x=.ref a∧ty σ H1 fun y H2=>∃k v,y=kV k∧Cj kvs k=some v∧Q v H2
def Aqn (a:Addr)(kvs:List (B4×V))(ty td:TE):TE:=fun σ H Q=>ty σ H fun y H1=>td σ H1 fun x H2=>∃k,x=.ref a∧y=kV k∧Q (.bl (Cj kvs k).isSome) H2
def Abk (a:Addr)(kvs:List (B4×V))(ty td:TE):TE:=fun σ H Q=>ty σ H fun y H1=>td σ H1 fun x H2=>∃k,x=.ref a∧y=kV k∧Q (.bl (!(Cj kvs k).isSome)) H2
section
variable {X:Cx}{o i:Expr}{pos:Pos}{td ty:TE}{a:Addr}{kvs:List (B4×V)}
theorem Ol.at {pins:List (Addr×Obj)}{σ:L2.St}{H:Hp}{s:Shared}(D:Ol X.prog X.w X.K a kvs)(I:Ar X pins σ H s):∃vs,KV kvs vs∧s.heap.DictOf (A9 X.prog X.w) a vs∧(a==sysModules)=false:=by
 obtain ⟨o,vs,h1,h2,h3,h4⟩:=D
 eC ⟨vs,h3,Heap.dictOf_iff.mpr ⟨o,I.kIn _ _ h1,h2⟩,h4⟩
theorem Vm (D:Ol X.prog X.w X.K a kvs)(ho:PE X o td)(hi:PE X i ty)(hs:Alv i):PE X (.Subscript o i pos) (Aop a kvs td ty):=by
 intro pins s σ H Q I h
 rA Aa2 PySem.F.slot_dict_getitem.lookup hs (Bi (ho pins s σ H _ I h) fun u s1 ⟨x,H1,I1,rx,ex,q1⟩=>Bi (hi pins s1 σ H1 _ I1 q1) fun iv s2 ⟨y,H2,I2,ry,k,v,ey,l,q2⟩=>?_)
 subst ex
 subst ey
 obtain rfl:u=Value.ref a:=rx
 obtain ⟨vs,rel,dd,hd⟩:=D.at I2
 obtain ⟨w',hw,rw'⟩:=Gj.some_of (v:=v) (o:=valueAt vs k) (by rw [←l];eC rel.val k)
 eC ⟨dd.typeIs,wpAny_getItem_of (Lm ry) dd.mapOf hw ⟨v,H2,I2.tok _,rw',q2⟩⟩
theorem Al7 (D:Ol X.prog X.w X.K a kvs)(hi:PE X i ty)(ho:PE X o td):PC X .In i o (Aqn a kvs ty td):=by
 intro pins s σ H Q I h
 rA Bi (hi pins s σ H _ I h) fun iv s1 ⟨y,H1,I1,ry,q1⟩=>Bi (ho pins s1 σ H1 _ I1 q1) fun u s2 ⟨x,H2,I2,rx,k,ex,ey,q2⟩=>?_
 subst ex
 subst ey
 obtain rfl:u=Value.ref a:=rx
 obtain ⟨vs,rel,dd,hd⟩:=D.at I2
 rA wpAny_in_of (Lm ry) hd dd.mapOf ?_
 rw [←(rel.val k).isSome_eq]
 eC ⟨.bl _,H2,I2.tok _,rfl,q2⟩
theorem Ac0 (D:Ol X.prog X.w X.K a kvs)(hi:PE X i ty)(ho:PE X o td):PC X .NotIn i o (Abk a kvs ty td):=by
 intro pins s σ H Q I h
 rA Bi (hi pins s σ H _ I h) fun iv s1 ⟨y,H1,I1,ry,q1⟩=>Bi (ho pins s1 σ H1 _ I1 q1) fun u s2 ⟨x,H2,I2,rx,k,ex,ey,q2⟩=>?_
 subst ex
 subst ey
 obtain rfl:u=Value.ref a:=rx
 obtain ⟨vs,rel,dd,hd⟩:=D.at I2
 rA wpAny_notIn_of (Lm ry) hd dd.mapOf ?_
 rw [←(rel.val k).isSome_eq]
 eC ⟨.bl _,H2,I2.tok _,rfl,q2⟩
end
section
variable {X:Cx}{o i:Expr}{pos:Pos}{td ty:TE}{a:Addr}{kvs:List (B4×V)}
theorem Aot (D:Ol X.prog X.w X.K a kvs)(hi:PE X i ty)(ho:PE X o td)(hm:behindInMarks .In o=false):PT X (.Compare i [.In] [o] pos) (J1 (Aqn a kvs ty td)):=by
 rw [Gi]
 eC Tw (Al7 D hi ho) hm
theorem Aeh (D:Ol X.prog X.w X.K a kvs)(hi:PE X i ty)(ho:PE X o td)(hm:behindInMarks .NotIn o=false):PT X (.Compare i [.NotIn] [o] pos) (J1 (Abk a kvs ty td)):=by
 rw [Gi]
 eC Tw (Ac0 D hi ho) hm
end
inductive F1 (X:Cx)(k:Nat):List (Str×Sp)→Prop where
 |nil:F1 X k []
 |cons {x:Str} {ps:List Str} {k0:Nat} {sp:Sp} {l:List (Str×Sp)}:Ba X.prog X.w X.K X.mg X.base x ps k0 sp→FnV X.K X.mg x→k0≤k→F1 X k l→F1 X k ((x,sp)::l)
def Ub (K:KKf)(l:List (Str×Sp))(E:XK)(te:TE)(t:TA):TE:=fun σ H Q=>te σ H fun v H1=>∃(x:Str) (sp:Sp) (f:Addr),(x,sp)∈l∧v=.ref f∧PySem.W.nsIn K mainGlobals x=some (some (.ref f))∧t σ H1 fun vs H2=>sp vs H2 Q E
theorem F1.get {X:Cx}{k:Nat}{l:List (Str×Sp)}(h:F1 X k l){x:Str}{sp:Sp}(hm:(x,sp)∈l):∃ps k0,Ba X.prog X.w X.K X.mg X.base x ps k0 sp∧FnV X.K X.mg x∧k0≤k:=by
 induction h with
 |nil=>cases hm
 | cons C v hk _ ih=>
  rcases AU.mp hm with e|hm
  ·cases e
   eC ⟨_,_,C,v,hk⟩
  ·eC ih hm
section
variable {X:Cx}{E:XK}
theorem Aac {fe:Expr}{k':Nat}{pos:Pos}{e:Expr}{es:List Expr}{t:TA}{te:TE}{l:List (Str×Sp)}(C:F1 X k' l)(hr:B6 k' X.A)(hx:Eg (Ew X.prog X.w) X E)(hn:PE X fe te)
  (ha:PA X (e::es) t) (ht:eval (.Call fe (e::es) [] pos) X.env=(do callWith pos (←eval fe X.env) [] (backTo pos (starEach (e::es) X.env)) (backToKw pos (keywordEach [] X.env)))) (he:starEach (e::es) X.env=(false,eval e X.env)::starEach es X.env) (hpl:(backTo pos (starEach es X.env)).any (·.1)=false) :
  PE X (.Call fe (e::es) [] pos) (Ub X.K l E te t):=by
 intro pins s σ H Q I h
 rw [ht]
 rA AA (Bi (hn pins s σ H _ I h) fun u s1 ⟨w,H1,I1,r,x,sp,f,hm,ew,hf,q⟩=>?_)
 subst ew
 obtain ⟨ps,k0,C,v,hk⟩:=C.get hm
 obtain ⟨f0,fd,h1,h2,h3,h4,_⟩:=C.ex
 obtain ⟨f1,g1,g2⟩:=v
 rw [hf] at g2
 cases g2
 rw [h1] at g1
 cases g1
 have eu:u=.ref f:=r
 subst eu
 rA FI (h₀:=X.base) I1.ok.mod.kin h2 (Bi (ha pos pins s1 σ H1 _ I1 q) fun us s2 ⟨vs,H2,I2,r2,q2⟩=>⟨I2.kIn,?_⟩) he hpl
 eC Va (h4.mono hk) hr h3 .nil hx I2 r2 (by rw [CG];eC q2)
theorem Afa {y:Str}{k':Nat}{p pos:Pos}{e:Expr}{es:List Expr}{t:TA}{te:TE}{l:List (Str×Sp)}(C:F1 X k' l)(hr:B6 k' X.A)(hx:Eg (Ew X.prog X.w) X E)(hn:PE X (.Name y p) te)
  (ha:PA X (e::es) t) (he:starEach (e::es) X.env=(false,eval e X.env)::starEach es X.env:=by rfl) (hpl:(backTo pos (starEach es X.env)).any (·.1)=false:=by rfl) :
  PE X (.Call (.Name y p) (e::es) [] pos) (Ub X.K l E te t):=Aac C hr hx hn ha rfl he hpl
theorem Afr {o i:Expr}{k':Nat}{p pos:Pos}{e:Expr}{es:List Expr}{t:TA}{te:TE}{l:List (Str×Sp)}(C:F1 X k' l)(hr:B6 k' X.A)(hx:Eg (Ew X.prog X.w) X E)(hn:PE X (.Subscript o i p) te)
  (ha:PA X (e::es) t) (he:starEach (e::es) X.env=(false,eval e X.env)::starEach es X.env:=by rfl) (hpl:(backTo pos (starEach es X.env)).any (·.1)=false:=by rfl) :
  PE X (.Call (.Subscript o i p) (e::es) [] pos) (Ub X.K l E te t):=Aac C hr hx hn ha rfl he hpl
end
def Arp (ta tb:TE):TE:=fun σ H Q=>ta σ H fun x H1=>match x with
 |.str z=>z.length≤sizeLine∧(z≠Str.ofString ""→Q (.str z) H1)∧(z=Str.ofString ""→tb σ H1 Q)
 |_=>False
theorem Aj1 {X:Cx}{a b:Expr}{ta tb:TE}{pos:Pos}(ha:PE X a ta)(hb:PE X b tb):PE X (.BoolOp .Or [a,b] pos) (Arp ta tb):=by
 intro pins s σ H Q I h
 rA BoolOp_or (Bi (ha pins s σ H _ I h) fun v s1 ⟨x,H1,I1,r1,q1⟩=>?_)
 match x,q1 with
 | .str z,⟨hz,q1,q2⟩=>
  obtain ⟨t,rfl⟩:=r1
  have hl:=Ng
  rA PySem.P.truthy_str #o ?_
  by_cases e:z.length=0
  ·rw [show ((z.length:Int) != 0)=false by simp [e]]
   have ez:z=Str.ofString "":=by
    obtain ⟨⟨l⟩⟩:=z
    have:l.length=0:=e
    rw [GQ.mp this]
    rfl
   eC Mg hb pins _ σ H1 Q (I1.tok _) (q2 ez)
  ·rw [show ((z.length:Int) != 0)=true by simp;omega]
   eC ⟨.str z,H1,I1.tok _,⟨_,rfl⟩,q1 fun ez=>e (by rw [ez];decide +kernel)⟩
theorem Ajb {X:Cx}{x:Str}{C:Addr}{Cs Ds:List Addr}{ps:List Str}{k k':Nat}{sp:Sp}{p pos:Pos}(c:Df X.prog X.w X.K X.mg X.base Cs Ds "__init__" ps k sp)(hC:C∈Cs)(M:MkC X.K C)(hr:B6 k' X.A)(hk:k+1≤k')(hg:Gl X x)(hm:X.mg x=some (.ref C))(hdb:(x==("__debug__":Str))=false:=by decide) :
  PE X (.Call (.Name x p) [] [] pos) (Xm C sp E0 Aco):=by
 obtain ⟨f,fd,h1,_,_,h3,h4⟩:=c.ex
 rw [Wl]
 eC Aek ⟨M.makes,(h1 C hC).at_,(h1 C hC).fn,M.kp⟩ h4 (hr.mono hk) hg hm h3 .nil P7 hdb
end Lw
end
section
set_option autoImplicit false
namespace Lw
open PySem PySem.Spec PyProof.Rows L2
section
variable {X:Cx}
def Aqi (K:KKf):R2:=fun x y H Q=>match x,y with
 |.ref p,.int i=>∃xs,Ec K H p xs∧match Af5 xs i with
  |some v=>Q v H
  |none=>False
 |_,_=>False
theorem Bp:IxR X (Aqi X.K):=by
 intro value slice pins s σ H x y v u Q I rx ry h hs
 cases x<;>cases y<;>first
  |eC False.elim h
  | (obtain ⟨xs,e,q⟩:=h
     cases z:Af5 xs _ with
     | none=>
       rw [z] at q
       eC False.elim q
     | some w=>
       rw [z] at q
       eC Yz value slice pins s σ H _ _ v u Q I rx ry ⟨_,xs,_,w,rfl,rfl,e,Aag z,q⟩ hs)
def Apu (K:KKf):List V→Hp→VK→Prop:=fun xs H Q=>match xs with
 |[.ref p,.ty c]=>(∃xs,(H p=some (.tup xs)∨∃o,K.lookup p=some o∧o.cls=.type "tuple"))∧c="tuple"∧Q (.bl true) H
 |_=>False
theorem Alf:Dg X (.builtin "isinstance") (Apu X.K):=by
 intro pins s σ H xs us Q I r h
 match xs,h with
 | [.ref p,.ty c],⟨⟨xs,e⟩,hc,q⟩=>
  subst hc
  obtain ⟨u,w',rfl,r1,r2⟩:=Iz r
  cases (show w'=Value.type "tuple" from r2)
  rcases e with e|⟨o,h1,h2⟩
  ·eC Fe I r1 (.tup e) (G8 X.K (t:="tuple") (c:="tuple") rfl) fun tk=>⟨.bl true,H,I.tok _,rfl,q⟩
  ·cases (show u=Value.ref p from r1)
   eC CJ PySem.W.kitx_tuple I.kIn ⟨o,I.kIn _ _ h1,h2⟩ (G8 X.K (t:="tuple") (c:="tuple") rfl) (fun z=>nomatch z) fun tk=>⟨.bl true,H,I.tok _,rfl,q⟩
end
def Vt (K:KKf)(H:Hp)(p:Addr)(xs:List V):Prop:=H p=some (.tup xs)∨B1 K p xs
theorem Vt.sq {K:KKf}{H:Hp}{p:Addr}{xs:List V}:Vt K H p xs→Ec K H p xs
 |.inl h=>Ec.of h
 |.inr h=>h.sq H
theorem Vt.isi {K:KKf}{H:Hp}{p:Addr}{xs:List V}:Vt K H p xs→∃xs,(H p=some (.tup xs)∨∃o,K.lookup p=some o∧o.cls=.type "tuple")
 |.inl h=>⟨_,.inl h⟩
 |.inr h=>⟨xs,.inr (let ⟨o,h1,h2,_⟩:=h.ty;⟨o,h1,h2⟩)⟩
theorem Vt.up {K:KKf}{H H':Hp}{p:Addr}{xs:List V}(k:∀q ys,H q=some (.tup ys)→H' q=some (.tup ys)):Vt K H p xs→Vt K H' p xs
 |.inl h=>.inl (k _ _ h)
 |.inr h=>.inr h
end Lw
end
section
set_option autoImplicit false
namespace Lw
open PySem PySem.Spec PyProof.Rows L2
def Ajz:List Value→Bool
 |.ref _::r=>Ajz r
 |l=>l==vB
structure ExS (K:KKf)(C:Addr):Prop where
 sa:PySem.W.findIn K (.ref C) "__setattr__"=some (some (.builtin "object.__setattr__"))
 po:(PySem.W.clsIn K C).any (fun cd=>Ajz cd.mro)=true
 hd:PySem.W.hasDictIn K C=true
def Acl (K:KKf)(C f:Addr):Bool:=match K.lookup C with
 |some ⟨.type "type",_,.cls cd,sl⟩=>(match cd.mro,sl.toList with
  |.ref C'::bm,[_,_,_,_,some (.builtin n),_]=>C'==C&&n=="ValueError.__new__"&&!cd.hasDel&&PySem.W.tailIn K vB bm&&PySem.W.nsOkIn K cd.ns&&PySem.W.nsIn K cd.ns "__init__"==some (some (.ref f))
  |_,_=>false)
 |_=>false
section
variable {X:Cx}{pins:List (Addr×Obj)}{σ:L2.St}{H:Hp}{s:Shared}{a C f:Addr}
def Yk (K:KKf)(C:Addr):Bool:=match PySem.W.findIn K (.ref C) "__init__" with
 |some (some (.ref f))=>Acl K C f
 |_=>false
structure ExI (K:KKf)(C:Addr):Prop where
 ini:Yk K C=true
 kp:PySem.W.keepIn K (.ref C)=true
end
def del (H:Hp)(a:Addr):Hp:=fun b=>if b=a then none else H b
end Lw
end
section
namespace Lw
open PySem PySem.Spec PyProof.Rows L2
structure Atd (K:KKf)(mg:Str→Option Value)(x:Str)(st:Stmt)(ps:List Str):Prop where
 ex:∃(f:Addr) (fd:FuncData) (oc:Value) (od:Option Addr) (dV kV doc pm:Value) (an:Option Addr) (cdv ct:Value) (osl:Array (Option Value)),
  fd=PySem.W.fnOf x x (Cd st) (Bt st) (Af st) dV kV doc pm an cdv ct∧K.lookup f=some ⟨oc,od,.func fd,osl⟩∧PySem.W.codeIn K cdv x=true∧PySem.W.keepIn K (.ref f)=true∧mg x=some (.ref f)∧Ee K fd ps []∧Ee K fd ps [.none]
structure Atr (P:Program)(w:World)(K:KKf)(mg:Str→Option Value)(base:Heap)(x:Str)(ps:List Str)(k:Nat)(sp:Sp):Prop where
 ex:∃(f:Addr) (fd:FuncData),mg x=some (.ref f)∧PySem.W.keepIn K (.ref f)=true∧Ee K fd ps []∧Ee K fd ps [.none]∧Gy P w K mg base (Ew P w) k f fd ps sp ∧
  ∃(oc:Value) (od:Option Addr) (osl:Array (Option Value)),K.lookup f=some ⟨oc,od,.func fd,osl⟩
end Lw
end
section
set_option autoImplicit false
namespace Lw
open PySem PySem.Spec PyProof.Rows L2
theorem Afc {M:Model}{A:Around}{E:Value→Shared→Prop}{K:KKf}{a C D:Addr}{s:Shared}{Q:Bool→Shared→Prop}(X:K.In s.heap)(p:∃o,s.heap.get? a=some o∧o.cls=.ref C)(c:Cat K D)
  (hm:PySem.W.mroIn K C (.ref D)=some false) (hq:Q false s):wpAny M A (excMatches (.ref a) (.ref D)) Q E s:=by
 obtain ⟨h,g,d,t,os⟩:=s
 obtain ⟨o,e,ec⟩:=p
 obtain ⟨dd,cd,sl,lk⟩:=c.lk
 have eD:=X _ _ lk
 have f:=tc_notTuple
 have l1:=FZ (M:=M) X c.mb
 have l2:=FZ (M:=M) X hm
 unfold excMatches
 repeat (first|with_reducible rA l1.at ?_|with_reducible rA l2.at ?_|(with_reducible rA GW e ?_;rw [ec])|with_reducible rA GW eD ?_|wp_step)
 eC hq
end Lw
end
section
set_option autoImplicit false
namespace Lw
open PySem PySem.Spec PyProof.Rows L2
section
variable {X:Cx}{pins:List (Addr×Obj)}{σ:L2.St}{H H':Hp}{s s':Shared}
theorem Adh {E:Value→Shared→Prop}{a C:Addr}{d:Option Addr}{B h5:Heap}{a0:Value}{hpos:Pos}{b₀:Stmt}{suite:List Stmt}{tu:TS}{D:Og}(dx:S3 X)(I:Ar X pins σ H s)(F:Fly X.prog X.w X.stack H s H' a (.ref C) d B a0 s')
  (f5:Heap.FlyingW B (X.env::X.outer) a (.ref C) a0 h5) (u5:s'.heap.UpToSlots h5) (d5:J6 a d h5) (hu:∀v,Ny (cxM X v) (b₀::suite) tu)
  (q:∀H3,Ah H' H3→tu D σ H3) :
  codeAny (model X.prog X.w) (X.A.mark (some (.ref a))) (.handlers (.ref a) [.ExceptHandler none none (b₀::suite) hpos] X.env) (fun r s2=>match r with
   |.ok f=>SP X pins D f s2
   |.error x=>cameBackBy (model X.prog X.w) X.A X.env E x s2) { s' with heap:=h5 }:=by
 rA codeAny_handlers_suite ?_
 rA BP (Jm Fo d5 (lands_againW (Q:=fun _ s6=>∃h6,s6={ s' with heap:=h6 }∧Heap.FlyingW B (X.env::X.outer) a (.ref C) a0 h6∧h5.UpToSlots h6) f5 fun h6 f6 u6=>⟨h6,rfl,f6,u6⟩)) (fun _ s6 ⟨⟨h6,e6,f6,u6⟩,d6⟩=>?_) fun _ _ z=>z
 subst e6
 have I6:Ar X pins σ H' { s' with heap:=h6 }:=I.call' (s':={ s' with heap:=h6 }) (ch:=[]) F.os (F.un5 f6.1 (u5.trans u6)) (F.hok5 f6.1) F.bare fun b hb=>absurd hb (by simp)
 rA BP (hu (.ref a) pins _ _ _ _ (Xq I6 (.ref a)) (q _ (Ah.refl _))) (fun fl s8 q8=>?_) fun _ _ z=>z.elim
 cases fl with
 |next=>
  obtain ⟨σ8,H8,I8,q8⟩:=q8
  eC ⟨σ8,H8,G6 I.ok I8,q8⟩
 |brk=>
  obtain ⟨σ8,H8,I8,q8⟩:=q8
  eC ⟨σ8,H8,G6 I.ok I8,q8⟩
 |cont=>
  obtain ⟨σ8,H8,I8,q8⟩:=q8
  eC ⟨σ8,H8,G6 I.ok I8,q8⟩
 |ret u=>
  obtain ⟨v,σ8,H8,I8,r8,q8⟩:=q8
  eC ⟨v,σ8,H8,G6 I.ok I8,r8,q8⟩
inductive Hs (X:Cx):List ExceptHandler→List (Addr×TS)→Prop where
 |nil:Hs X [] []
 |cons {y:Str} {yp hpos:Pos} {b:Stmt} {su:List Stmt} {Dc:Addr} {tu:TS} {hs:List ExceptHandler} {l:List (Addr×TS)}:Gl X y→X.mg y=some (.ref Dc)→Cat X.K Dc→(∀v,Ny (cxM X v) (b::su) tu)→(y==("__debug__":Str))=false→Hs X hs l→Hs X (.ExceptHandler (some (.Name y yp)) none (b::su) hpos::hs) ((Dc,tu)::l)
def hQ (K:KKf)(C:Addr)(D:Og)(σ:L2.St)(H2:Hp):List (Addr×TS)→Prop
 |[]=>False
 |(Dc,tu)::l=>∃b,PySem.W.mroIn K C (.ref Dc)=some b∧((b=true∧∀H3,Ah H2 H3→tu D σ H3)∨(b=false∧hQ K C D σ H2 l))
theorem Abh {E:Value→Shared→Prop}{a C:Addr}{d:Option Addr}{B h5:Heap}{a0:Value}{D:Og}(dx:S3 X)(I:Ar X pins σ H s)(F:Fly X.prog X.w X.stack H s H' a (.ref C) d B a0 s')
  (f5:Heap.FlyingW B (X.env::X.outer) a (.ref C) a0 h5) (u5:s'.heap.UpToSlots h5) (d5:J6 a d h5) (I5:Ar X pins σ H' { s' with heap:=h5 }) :
  ∀{hs:List ExceptHandler} {l:List (Addr×TS)},Hs X hs l→hQ X.K C D σ H' l→wpAny (model X.prog X.w) X.A (handleBy (.ref a) X.env hs) (SP X pins D) E { s' with heap:=h5 }
 |_,_,.nil,q=>q.elim
 |_,_,.cons hy hD cD hu hdb r,q=>by
  obtain ⟨b,hm,q⟩:=q
  rA wpAny_handleBy_cons (codeAny_handlers_test (Jq (Xq I5 (.ref a)) hy hD ?_ hdb)) (by intro z;cases z)
  rcases q with ⟨rfl,q⟩|⟨rfl,q⟩
  ·eC Ac3 I5.kIn f5.there cD hm (Adh dx I F f5 u5 d5 hu q)
  ·eC Afc I5.kIn f5.there cD hm (Abh dx I F f5 u5 d5 I5 r q)
end
def Apd (K:KKf)(l:List (Addr×TS))(D:Og)(σ:L2.St):XK:=fun cls _ H2=>∃C,cls=.ref C∧hQ K C D σ H2 l
def Ap2 (K:KKf)(tb:L2.St→XK→TS)(l:List (Addr×TS)):TS:=fun D σ H=>tb σ (Apd K l D σ) D σ H
theorem Ajl {X:Cx}{body:List Stmt}{tb:L2.St→XK→TS}{pos:Pos}{h0:ExceptHandler}{hs:List ExceptHandler}{l:List (Addr×TS)}(dx:S3 X)(hb:∀σ0 p0 Eh,Ny (cxT X σ0 p0 Eh) body (tb σ0 Eh))(hh:Hs X (h0::hs) l) :
  PS X (.Try body (h0::hs) [] [] pos) (Ap2 X.K tb l):=by
 intro pins s σ H D I h
 rA wpAny_Try_except (BP (hb σ pins (Apd X.K l D σ) [] s σ H D (Adp I) h) (fun fl s1 q=>?_) fun ev s1 q=>?_)
 ·cases fl with
  |next=>
   obtain ⟨σ',H',I',q⟩:=q
   eC GB ⟨σ',H',Fj I',q⟩
  |brk=>
   obtain ⟨σ',H',I',q⟩:=q
   eC ⟨σ',H',Fj I',q⟩
  |cont=>
   obtain ⟨σ',H',I',q⟩:=q
   eC ⟨σ',H',Fj I',q⟩
  |ret u=>
   obtain ⟨v,σ',H',I',r,q⟩:=q
   eC ⟨v,σ',H',Fj I',r,q⟩
 ·obtain ⟨H1,s2,I1,a,cls,d,H2,B,a0,rfl,F,C',rfl,q2⟩:=q
  have hfr:X.A.frames=some (X.env::X.outer):=by rw [I1.ok.frames,dx.stk]
  have hfl:=F.fly
  rw [dx.stk] at hfl
  rA BP (Jm Sk F.dct (wpAny_looks_onW (Q:=fun _ s4=>∃h4,s4={ s1 with heap:=h4 }∧Heap.HeldW B (X.env::X.outer) a (.ref C') a0 X.env.locals h4∧s1.heap.UpToSlots h4) hfr dx.fr hfl fun h4 held u4=>⟨h4,rfl,held,u4⟩)) (fun _ s4 ⟨⟨h4,e4,held,u4⟩,d4⟩=>?_) fun _ _ z=>z
  subst e4
  rA BP (Jm Fo d4 (wpAny_landsW (Q:=fun _ s5=>∃h5,s5={ s1 with heap:=h5 }∧Heap.FlyingW B (X.env::X.outer) a (.ref C') a0 h5∧h4.UpToSlots h5) held fun h5 f5 u5=>⟨h5,rfl,f5,u5⟩)) (fun _ s5 ⟨⟨h5,e5,f5,u5⟩,d5⟩=>?_) fun _ _ z=>z
  subst e5
  have I5:Ar X pins σ H2 { s1 with heap:=h5 }:=I1.call' (s':={ s1 with heap:=h5 }) (ch:=[]) F.os (F.un5 f5.1 (u4.trans u5)) (F.hok5 f5.1) F.bare fun b hb=>absurd hb (by simp)
  eC Abh dx I1 F f5 (u4.trans u5) d5 I5 hh q2
end Lw
end
section
namespace Lw
open PySem PySem.Spec PySem.W PyProof.Rows L2
section
variable {prog:Program}{w:World}{A:Around}{E:Value→Shared→Prop}{s:Shared}{a:Addr}{vs:List Value}
theorem Abr (vs:List Value):(vs.toArray.zip vs.toArray).map (·.2)=vs.toArray:=by
 rA Array.ext (by simp) fun i h1 h2=>?_
 simp
theorem Aou {key:Nat→Int}{n:Nat}{P:PySem.Fin→Shared→Prop}(ho:s.heap.get? a=some (seqObj "list" vs.toArray n))(h64:vs.length<64)(κ:SortKind)
  (hk:∀h':Heap,(∀b o,b≠a→s.heap.get? b=some o→h'.get? b=some o)→∀Q:SortKind→Shared→Prop,2≤vs.length→Q κ { s with heap:=h' }→wpAny (model prog w) A (keyKind' vs.toArray) Q (fun _ _=>False) { s with heap:=h' })
  (hc:∀h':Heap,(∀b o,b≠a→s.heap.get? b=some o→h'.get? b=some o)→∀i j,i<vs.length→j<vs.length→∀C:Bool→Shared→Prop,C (decide (key i<key j)) { s with heap:=h' }→kas_ask prog w A κ vs i j C { s with heap:=h' })
  (h:∀p,Jp key vs.length p→P (.done (.ret .none)) { s with heap:=sortedHeap s.heap a vs (List.toArray (Hy vs p)) }) :
  wpAny (model prog w) A (Builtin.«list.sort» ⟨[.ref a],[]⟩) P E s:=by
 have ha:a<s.heap.objs.size:=AH ho
 obtain ⟨e1,ho1⟩:∃e1,(s.heap.update a (Obj.mapSeq fun _=>(#[]:Array Value))).get? a=some (seqObj "list" #[] e1):=⟨_,get?_update_seq ho fun _=>#[]⟩
 have ho6:(((s.heap.update a (Obj.mapSeq fun _=>#[])).push (seqObj "tuple" vs.toArray 0)).push (seqObj "list" #[] 0)).get? a=some (seqObj "list" #[] e1):=AB _ (AB _ ho1)
 have kp:∀b o,b≠a→s.heap.get? b=some o→(((s.heap.update a (Obj.mapSeq fun _=>#[])).push (seqObj "tuple" vs.toArray 0)).push (seqObj "list" #[] 0)).get? b=some o:=fun b o ne e=>
  AB _ (AB _ (by rw [Heap.get?_update_ne _ _ _ _ ne];eC e))
 rw [list_sort_plain]
 rA AA (listItems_at ho rfl ?_)
 rA AA (FF ho rfl ?_ (by rw [AR,CL];omega) (AV _))
 rA AA (seqEpoch_at ho1 rfl ?_)
 rA AA (wpAny_newTuple ?_ (by show vs.length≤_;rw [CL];omega))
 rA AA (FX ?_ (AV _))
 rA CS ?_
 show wpAny (model prog w) A _ P E { s with heap:=((s.heap.update a (Obj.mapSeq fun _=>(#[]:Array Value))).push (seqObj "tuple" vs.toArray 0)).push (seqObj "list" #[] 0) }
 dsimp only
 by_cases h2:vs.toArray.size<2
 ·rw [AN h2,AN h2]
  have h2':vs.length<2:=by rwa [AR] at h2
  have h:=h _ (Abt h2')
  rA AA (AC ?_)
  rw [StateT.run_pure]
  rA AA (AC ?_)
  dsimp only
  rA AA (seqEpoch_at ho6 rfl ?_)
  rw [P1,←Abr] at h
  rA AA (FF ho6 rfl ?_ (AV _) (by
   show ((vs.toArray.zip vs.toArray).map (·.2)).size≤_
   rw [Abr,AR,CL]
   omega))
  simp only [CO,BL,DD]
  eC AC h
 ·rw [AI h2,AI h2]
  have h2':¬vs.length<2:=by rwa [AR] at h2
  rA AA (BP (hk _ kp (fun κ' s'=>κ'=κ∧s'={ s with heap:=((s.heap.update a (Obj.mapSeq fun _=>(#[]:Array Value))).push (seqObj "tuple" vs.toArray 0)).push (seqObj "list" #[] 0) }) #o ⟨rfl,rfl⟩) (fun κ' s0 hk=>?_) fun _ _ x=>x.elim)
  obtain ⟨rfl,rfl⟩:=hk
  rA AA (BP (kat_run (Q:=fun st' s'=>s'={ s with heap:=((s.heap.update a (Obj.mapSeq fun _=>(#[]:Array Value))).push (seqObj "tuple" vs.toArray 0)).push (seqObj "list" #[] 0) }∧∃p:Array Nat,Jp key vs.length p.toList∧(arrOf st').map (·.2)=List.toArray (Hy vs p.toList)∧failedOf st'=none)
   (G:=fun p s'=>s'={ s with heap:=((s.heap.update a (Obj.mapSeq fun _=>(#[]:Array Value))).push (seqObj "tuple" vs.toArray 0)).push (seqObj "list" #[] 0) }∧Jp key vs.length p.toList) rfl #o h64 (fun p' st' s' a1 a2 a3 ⟨a4,a5⟩=>⟨a4,p',a5,kat_snds rfl a2,a3⟩) (Rn.wp (key:=key) (n:=vs.length) (hc _ kp) (Rn.mono (fun p hp=>⟨rfl,Afj hp.1 hp.2⟩) (Abi #o)))) ?_ fun _ _ e=>e)
  rintro ⟨⟨⟩,st'⟩ s' ⟨rfl,p,hs,hout,hf⟩
  dsimp only at hout hf ⊢
  rA AA (seqEpoch_at ho6 rfl ?_)
  rw [hout,hf]
  rA AA (FF ho6 rfl ?_ (AV _) (by
   show (List.toArray (Hy vs p.toList)).size≤_
   unfold Hy
   rw [AR,AE,hs.1,CL]
   omega))
  simp only [CO,BL,DD]
  eC AC (h _ hs)
theorem Ap4 {key:Nat→Int}{l:Addr}{Q:Value→Shared→Prop}(hl:s.heap.IsList l vs.toArray)(h64:vs.length<64)(κ:SortKind)
  (hk:∀h':Heap,(∀b o,s.heap.get? b=some o→h'.get? b=some o)→∀Q:SortKind→Shared→Prop,2≤vs.length→Q κ { s with heap:=h' }→wpAny (model prog w) A.in1.in1 (keyKind' vs.toArray) Q (fun _ _=>False) { s with heap:=h' })
  (hc:∀h':Heap,(∀b o,s.heap.get? b=some o→h'.get? b=some o)→∀i j,i<vs.length→j<vs.length→∀C:Bool→Shared→Prop,C (decide (key i<key j)) { s with heap:=h' }→kas_ask prog w A.in1.in1 κ vs i j C { s with heap:=h' })
  (h:∀p,Jp key vs.length p→Q (.ref (s.heap.objs.size+1)) { s with heap:=sortedAll s.heap vs (List.toArray (Hy vs p)) }) :
  wpAny (model prog w) A (call (.builtin "sorted") [.ref l]) Q E s:=by
 rA Calls.call_function_entry kind_sorted plain_sorted entry_sorted (args_sorted1 _) ?_
 unfold Builtin.«sorted»
 rA AA (m:=checkCount "sorted" 1 1 _) (AC ?_)
 rA AA (collect_list hl ?_ (by rw [CL];omega))
 rA AA (FX ?_ (by rw [CL];omega))
 have hsz:((s.heap.push (seqObj "list" #[] 0)).update s.heap.objs.size (Obj.mapSeq (· ++ vs.toArray))).objs.size=s.heap.objs.size+1:=by
  rw [Heap.size_update,size_push']
 have hoL:(((s.heap.push (seqObj "list" #[] 0)).update s.heap.objs.size (Obj.mapSeq (· ++ vs.toArray))).push (seqObj "list" vs.toArray 0)).get? (s.heap.objs.size+1)=some (seqObj "list" vs.toArray 0):=by
  rw [←hsz];eC AG _ rfl
 have keep:∀b o,s.heap.get? b=some o→(((s.heap.push (seqObj "list" #[] 0)).update s.heap.objs.size (Obj.mapSeq (· ++ vs.toArray))).push (seqObj "list" vs.toArray 0)).get? b=some o:=fun b o q=>by
  have hlt:b<s.heap.objs.size:=AH q
  rw [GY _ _ _ (by rw [hsz];eC AS (CD hlt)),Heap.get?_update_ne _ _ _ _ (AS hlt),GY _ _ _ (AS hlt)]
  eC q
 show wpAny _ _ _ _ _ { s with heap:=((s.heap.push (seqObj "list" #[] 0)).update s.heap.objs.size (Obj.mapSeq (· ++ vs.toArray))).push (seqObj "list" vs.toArray 0) }
 rw [hsz]
 have ne:∀b o,s.heap.get? b=some o→b≠s.heap.objs.size+1:=fun b o e=>AS (CD (AH e))
 rA AA (CS (wpAny_call_entry slot_list_sort ⟨_,hoL,rfl⟩ entry_list_sort (Aou (key:=key) (s:={ s with heap:=((s.heap.push (seqObj "list" #[] 0)).update s.heap.objs.size (Obj.mapSeq (· ++ vs.toArray))).push (seqObj "list" vs.toArray 0) }) hoL h64 κ (fun h' k=>hk h' fun b o e=>k b o (ne b o e) (keep b o e)) (fun h' k=>hc h' fun b o e=>k b o (ne b o e) (keep b o e)) (fun p hp=>⟨_,rfl,?_⟩)) (args_list_sort _)))
 eC AC ⟨_,rfl,h p hp⟩
end
section
variable {X:Cx}{pins:List (Addr×Obj)}{σ:L2.St}{H:Hp}{s:Shared}
theorem Qe {xs:List V}{its:List Value}(rv:A7 xs its):∀{L:List Nat},(∀i∈L,i<xs.length)→A7 (L.map fun i=>xs.getD i .non) (L.map fun i=>its.getD i Value.none)
 |[],_=>.nil
 |i::L,h=>by
  have hi:=h i AK
  obtain ⟨v,hv,r⟩:=rv.get (AD hi)
  rw [BE,BE]
  rA .cons ?_ (Qe rv fun j hj=>h j (AJ _ hj))
  rw [BF,BF,hv,AD hi]
  eC r
end
end Lw
end
section
namespace Lw
open PySem PySem.Spec PySem.W PyProof.Rows L2
def Xd (H:Hp)(v:V)(q:Int×Int):Prop:=∃p,v=.ref p∧H p=some (.tup [.int q.1,.int q.2])
def kP (ps:List (Int×Int))(i:Nat):Int:=(ps.getD i (0,0)).1*64+(ps.getD i (0,0)).2
section
variable {X:Cx}{pins:List (Addr×Obj)}{σ:L2.St}{H:Hp}{s:Shared}
theorem Ae0 (I:Ar X pins σ H s){p:Addr}{x y:Int}(e:H p=some (.tup [.int x,.int y])):∃o t1 t2 k,s.heap.get? p=some o∧o.cls=.type "tuple"∧o.data=.seq #[.int x t1,.int y t2] k:=by
 obtain ⟨_,its,r,o,h1,h2,n,h3⟩:=(show Bg X.prog X.w H s.heap p (.tup [.int x,.int y]) from I.hok p _ e)
 cases r with
 |cons r1 r=>
 cases r with
 |cons r2 r=>
 cases r
 obtain ⟨t1,rfl⟩:=r1
 obtain ⟨t2,rfl⟩:=r2
 eC ⟨o,t1,t2,n,h1,h2,by simpa using h3⟩
theorem Aat (I:Ar X pins σ H s){h':Heap}(kp:∀b o,s.heap.get? b=some o→h'.get? b=some o):∀{xs:List V} {ps:List (Int×Int)} {its:List Value},A7 xs its→Az (Xd H) xs ps→∃fs,KatTups h' its fs∧fs.length=ps.length∧∀v∈fs,∃x t,v=.int x t
 |_,_,_,.nil,.nil=>⟨[],.nil,rfl,fun v h=>by simp at h⟩
 |_,_,_,.cons r1 r2,.cons ⟨p,e,hp⟩ al=>by
  subst e
  cases r1
  obtain ⟨fs,k1,k2,k3⟩:=Aat I kp r2 al
  obtain ⟨o,t1,t2,k,h1,h2,h3⟩:=Ae0 I hp
  rA ⟨_::fs,.cons (kp _ _ h1) h2 h3 rfl k1,by rw [AY,k2,AY],fun v hv=>?_⟩
  rcases AU.mp hv with rfl|hv
  ·eC ⟨_,_,rfl⟩
  ·eC k3 v hv
def Alx (K:KKf):List V→Hp→VK→Prop:=fun xs H Q=>match xs with
 |[.ref l]=>∃(vs:List V) (ps:List (Int×Int)),A3 K H l vs∧Az (Xd H) vs ps∧ps.length<64∧(∀q∈ps,0≤q.2∧q.2<64)∧∀D p,H D=none→Jp (kP ps) ps.length p→Q (.ref D) (upd H D (.lst (p.map fun i=>vs.getD i .non)))
 |_=>False
theorem Ahq:Dg X (.builtin "sorted") (Alx X.K):=by
 intro pins s σ H xs us Q I r h
 match xs,h with
 | [.ref l],⟨vs,ps,hq,al,hn,hb,q⟩=>
  obtain ⟨u,rfl,ru⟩:=r.one
  cases (show u=Value.ref l from ru)
  obtain ⟨its,rv,⟨oL,nL,eL,cL,dL,xL⟩,hz⟩:=I.list hq
  have hl:its.length=ps.length:=by rw [←rv.length,al.len]
  have hv:vs.length=ps.length:=al.len
  have at':∀i,i<ps.length→∃p,its.getD i Value.none=.ref p∧H p=some (.tup [.int (ps.getD i (0,0)).1,.int (ps.getD i (0,0)).2])∧ps.getD i (0,0)∈ps:=fun i hi=>by
   have hi':i<vs.length:=by omega
   obtain ⟨g,hg,p,e,hp⟩:=al.get (AD hi')
   obtain ⟨v,hv,rv'⟩:=rv.get (show vs[i]? =some (.ref p) by rw [AD hi',e])
   cases rv'
   have e0:ps.getD i (0,0)=g:=by rw [BF,hg];rfl
   rw [e0]
   eC ⟨p,by rw [BF,hv];rfl,hp,BH hg⟩
  rA Ap4 (key:=kP ps) (vs:=its) ⟨oL,eL,cL,nL,xL⟩ #o (tuples' true) (fun h' kp Q' h2 q'=>?_) (fun h' kp i j hi hj C hC=>?_) (fun p hp=>?_)
  ·obtain ⟨fs,k1,k2,k3⟩:=Aat I kp rv al
   rA kat_kind (s:={ s with heap:=h' }) (T:=.type "int") k1 #o (fun v hv=>?_) rfl q'
   obtain ⟨x,t,rfl⟩:=k3 v hv
   eC fun A Q E s _ q=>AC q
  ·obtain ⟨p,ep,hp,mp⟩:=at' i #o
   obtain ⟨p2,ep2,hp2,mp2⟩:=at' j #o
   obtain ⟨o,t1,t2,k,h1,h2,h3⟩:=Ae0 I hp
   obtain ⟨o',u1,u2,k',g1,g2,g3⟩:=Ae0 I hp2
   have b1:=hb _ mp
   have b2:=hb _ mp2
   unfold kP at hC
   generalize ps.getD i (0,0)=g at *
   generalize ps.getD j (0,0)=g' at *
   unfold kas_ask
   rw [ep,ep2]
   rA kat_lt (s:={ s with heap:=h' }) (kp _ _ h1) h3 (kp _ _ g1) g3 (kat_cons ?_)
   rA SeqAt.EqAt.int_int g.1 t1 g'.1 u1 _ _ _ _ (kat_go (fun c=>?_) (fun c=>?_))
   rotate_left
   ·have c:¬g.1=g'.1:=by simpa using c
    rw [show decide (g.1*64+g.2<g'.1*64+g'.2)=decide (g.1<g'.1) from FU.mpr #o] at hC
    eC kat_no (oneLt_int hC)
   have c:g.1=g'.1:=by simpa using c
   rw [show decide (g.1*64+g.2<g'.1*64+g'.2)=decide (g.2<g'.2) from FU.mpr #o] at hC
   rA kat_yes (kat_cons (SeqAt.EqAt.int_int g.2 t2 g'.2 u2 _ _ _ _ (kat_go (fun c=>?_) (fun c=>?_))))
   rotate_left
   ·eC kat_no (kat_one _ _ (lt_int hC))
   rA kat_yes (kat_nil ?_)
   have c:g.2=g'.2:=by simpa using c
   rw [BA (show ¬g.2<g'.2 by omega)] at hC
   eC hC
  ·have lt:∀i∈p,i<vs.length:=fun i hi=>by
    have:=hp.2.1 i hi
    omega
   obtain ⟨n,hr⟩:=sortedAll_at s.heap its (List.toArray (Hy its p))
   have vv:=Qe rv lt
   have I2:=I.laid (t':=s.toks) (h':=sortedAll s.heap its (List.toArray (Hy its p))) (a:=s.heap.objs.size+1) (o:=.lst (p.map fun i=>vs.getD i .non)) (fun b u e=>sortedAll_old e) (CT _) ⟨by rw [AE,hp.1];eC AO (show its.length≤64 by omega) #d,(List.toArray (Hy its p)).toList,n,vv,by rw [hr]⟩
   rw [hl] at hp
   eC ⟨.ref (s.heap.objs.size+1),_,I2,rfl,q _ _ (I.hok.fresh (CT _)) hp⟩
end
end Lw
end
section
set_option autoImplicit false
namespace Lw
open PySem PySem.Spec PyProof.Rows L2 PySem.StrLaws
theorem Wb (y a b:Str)(r:List Str):co (Str.join y (a::b::r))=co a++(co y++co (Str.join y (b::r))):=by
 show co (a++y++Str.join y (b::r))=_
 rw [Bq,Bq,CN]
def Qw:Str:=⟨#[59,32]⟩
end Lw
end
section
namespace Lw
open PySem PySem.Spec PyProof.Rows L2
theorem Akq:typeLookup (.type "list_reverseiterator") "__len__"=pure none:=by rw [HJ,FQ];kernel_rfl
theorem Aig:typeLookup (.type "list_reverseiterator") "__length_hint__"=pure (some (.builtin "list_reverseiterator.__length_hint__")):=by rw [HJ,FQ];kernel_rfl
section
variable {prog:Program}{w:World}{A:Around}{E:Value→Shared→Prop}{s:Shared}
theorem Ahb {it l:Addr}{i:Int}{Q:Bool→Shared→Prop}(h:s.heap.IsRevIter it l i)(q:Q false s):wpAny (model prog w) A (Builtin.List.listLengthHint (.ref it)) Q E s:=by
 unfold Builtin.List.listLengthHint
 rA AA (HF h.typeIs Akq ?_)
 wp_delta
 rA AA (HF h.typeIs Aig ?_)
 generalize hid:("list_reverseiterator.__length_hint__":String)=id0
 wp_delta
 rw [show splitId id0=some ("list_reverseiterator","__length_hint__") from by subst hid;decide +kernel]
 subst hid
 rA AA (ES (T:="list_reverseiterator") (b:=true) h.typeIs (by rw [isSubtype_type];kernel_rfl) ?_)
 rA HM (fun hab=>absurd hab #d) (fun _=>?_)
 rA HM (fun _=>?_) (fun hab=>absurd #k hab)
 rA HM (fun hab=>absurd hab #k) (fun _=>?_)
 eC AC q
theorem Ah4 {it l:Addr}{items:Array Value}{R:Result→Shared→Prop}(hh:A.handled=none)(hne:l≠it)(h:s.heap.IsRevIter it l ((items.size:Int)-1))(hl:s.heap.IsList l items)(hn:items.size≤sizeLine)
  (D:Addr) (res:Value) (c:Nat) (hD:s.heap.get? D=some { cls:=.type "list",data:=.seq #[] c }) (nl:D≠l)
  (q:∀g tk acc c',(∀b o,b≠D→b≠it→s.heap.get? b=some o→g.get? b=some o)→g.get? D=some { cls:=.type "list",dict:=none,data:=.seq acc c',slots:=#[] } →
   ItemsOf (fun i v=>items[items.size-1-i]? =some v) acc items.size→R (.ok (.ret res)) { s with heap:=g,toks:=tk }) :
  wpAny (model prog w) A.in1 (Builtin.List.listExtendWith (.ref D) (.ref it) res)
   (fun fin s'=>match fin with|.done f=>R (.ok f) s'|.again c'=>c'.quiet=true∧codeAny (model prog w) A c' R s') (fun e s'=>R (.error e) s') s:=by
 have ni:D≠it:=fun e=>by
  obtain ⟨o,ho,hc,_⟩:=h
  rw [←e,hD] at ho
  cases ho
  eC absurd (show Value.type "list"=Value.type "list_reverseiterator" from hc) #d
 unfold Builtin.List.listExtendWith
 rA AA (wpAny_typeOf (T:="list_reverseiterator") h.typeIs ?_)
 have e1:Builtin.List.listSameRef (.ref D) (.ref it)=false:=by simp [Builtin.List.listSameRef,ni]
 have e2:(Value.type "list_reverseiterator"==Value.type "list")=false:=by decide
 have e3:(Value.type "list_reverseiterator"==Value.type "tuple")=false:=by decide
 simp only [e1,e2,e3,Bool.or_false,BL,DD]
 rA AA (wpAny_pyIter_revIter h (AA (CS (Ahb h ?_))))
 rA HM (fun hab=>absurd hab #k) (fun _=>?_)
 have W:=(Walks.listRev (prog:=prog) (w:=w) (A:=A.in1) hh it l hne items).toS
 have dn:D∉[it,l]:=fun m=>by
  rcases AU.mp m with e|m
  ·eC ni e
  ·eC nl (AW.mp m)
 rA AC ⟨FW F.plain_extend_loop _,codeAny_extend_loopS W hn D dn res items.size 0 _ #[] c rfl (AV _) ⟨AV _,by simpa using h,hl⟩ hD (ItemsOf.nil _) fun s' acc c' hm hS' hacc=>?_⟩
 rw [Moved.eq_with hm]
 eC q s'.heap s'.toks acc c' (fun b o n1 n2 e=>hm.heap b o (fun m=>by
  rcases AU.mp m with e'|m
  ·eC n1 e'
  ·eC n2 (AW.mp m)) e) hS' hacc
theorem Aix {it l:Addr}{items:Array Value}{Q:Value→Shared→Prop}(hh:A.handled=none)(hne:l≠it)(h:s.heap.IsRevIter it l ((items.size:Int)-1))(hl:s.heap.IsList l items)(hn:items.size≤sizeLine)
  (q:∀g tk acc c',(∀b o,b≠it→s.heap.get? b=some o→g.get? b=some o)→g.get? s.heap.objs.size=some { cls:=.type "list",dict:=none,data:=.seq acc c',slots:=#[] } →
   ItemsOf (fun i v=>items[items.size-1-i]? =some v) acc items.size→Q (.ref s.heap.objs.size) { s with heap:=g,toks:=tk }) :
  wpAny (model prog w) A (call (.type "list") [.ref it]) Q E s:=by
 rA callType_codes (Q₁:=fun obj s₁=>obj=.ref s.heap.objs.size∧s₁={ s with heap:=s.heap.push { cls:=.type "list",data:=.seq #[] } }) F.called_list (F.typeCall_list_1 _) F.entry_list_init (code_list_new _ ⟨rfl,rfl⟩) ?_
 rintro obj s₁ ⟨rfl,rfl⟩
 have hD:(s.heap.push { cls:=.type "list",data:=.seq #[] }).get? s.heap.objs.size=some { cls:=.type "list",data:=.seq #[] }:=AG _ rfl
 rA ⟨⟨_,hD,rfl⟩,F.args_list_init_2 _ _,?_⟩
 show wpAny _ _ (Builtin.List.listItems (.ref s.heap.objs.size) >>= _) _ _ _
 unfold Builtin.List.listItems
 rA AA (AA (CU hD rfl (AC ?_)))
 show wpAny _ _ (updateSeq s.heap.objs.size (fun _=>#[]) >>= _) _ _ _
 rA AA (HK hD rfl ?_)
 rA AA (wpAny_letGo ?_)
 have hD2:=CA (Obj.mapSeq (fun _=>(#[]:Array Value))) hD rfl
 have oth:∀b o,s.heap.get? b=some o→((s.heap.push { cls:=.type "list",data:=.seq #[] }).update s.heap.objs.size (Obj.mapSeq (fun _=>(#[]:Array Value)))).get? b=some o:=
  fun b o e=>(DY _ _ (CP (AH e))).trans (AB _ e)
 obtain ⟨ol,el,rl⟩:=id hl
 rA Ah4 (A:=A.in1) hh hne (h.at fun o e=>oth _ o e) (hl.at fun o e=>oth _ o e) hn _ .none _ hD2 (CP (AH el)) fun g tk acc c' k e i=>?_
 eC ⟨rfl,q g tk acc c' (fun b o n e=>k b o (AS (AH e)) n (oth b o e)) e i⟩
end
theorem Acs {its acc:List Value}(h:ItemsOf (fun i v=>its.toArray[its.toArray.size-1-i]? =some v) acc.toArray its.toArray.size):acc=its.reverse:=by
 have hl:acc.length=its.length:=by simpa using h.1
 rA GX fun i=>?_
 by_cases hi:i<its.length
 ·have e:acc[i]? =some (acc[i]'#o):=AD #o
  have:=h.2 i _ (show acc.toArray[i]? =some (acc[i]'#o) by rw [FP];eC e)
  rw [e,List.getElem?_reverse hi]
  simpa using this.symm
 ·rw [DA #o,DA (by rw [List.length_reverse];omega)]
def Aog (K:KKf)(ta:TA):TE:=fun σ H Q=>ta σ H fun vs H1=>match vs with
 |[.ref a]=>∃xs:List V,A3 K H1 a xs∧∀D H',Ah H1 H'→H1 D=none→H' D=some (.lst xs.reverse)→Q (.ref D) H'
 |_=>False
section
variable {X:Cx}
theorem Ai0 {a:Expr}{ta:TA}{p p2 pos pos2:Pos}(hg:Gl X "list")(hm:X.mg "list"=none)(hg2:Gl X "reversed")(hm2:X.mg "reversed"=none)(ha:PA X [a] ta)(hcalm:X.calm=true)
  (hs:starEach [a] X.env=[(false,eval a X.env)]:=by rfl) :
  PE X (.Call (.Name "list" p) [.Call (.Name "reversed" p2) [a] [] pos2] [] pos) (Aog X.K ta):=by
 intro pins s σ H Q I h
 rA Call_ (E7 I hg hm PyProof.Rows.boot_list (BX ?_))
 rA DB ?_
 rA Call_ (E7 I hg2 hm2 PyProof.Rows.boot_reversed (BX (Bi (ha pos2 pins s σ H _ I h) fun us s1 ⟨vs,H1,I1,r1,q1⟩=>?_) (by rw [hs];rfl) #r))
 match vs,q1 with
 | [.ref l],⟨xs,hx,q⟩=>
  obtain ⟨u,rfl,e1⟩:=F2 r1
  cases (show u=Value.ref l from e1)
  obtain ⟨its,rv,pl,hz⟩:=I1.list hx
  have hl:=pl.isList
  have hlen:=rv.length
  obtain ⟨ol,el,rl⟩:=id hl
  have lt:@LT.lt Nat _ l s1.heap.objs.size:=AH el
  rA call_reversed_list hl (DG ?_)
  rA Aix (s:={ s1 with heap:=s1.heap.push (revObj l ((its.toArray.size:Int)-1)) }) (I1.ok.hd hcalm) (AS lt) ⟨_,AG _ rfl,rfl,rfl⟩ (hl.at fun o e=>AB _ e) (by simp only [AR];omega) fun g tk acc c' k e i=>?_
  have ea:acc.toList=its.reverse:=Acs i
  have sz:(s1.heap.push (revObj l ((its.toArray.size:Int)-1))).objs.size=s1.heap.objs.size+1:=size_push' _ _
  have hD:H1 (s1.heap.objs.size+1)=none:=I1.hok.fresh (CT _)
  rw [sz] at e ⊢
  rA ⟨.ref (s1.heap.objs.size+1),_,I1.laid (a:=s1.heap.objs.size+1) (o:=.lst xs.reverse) (t':=tk) (fun b o eb=>?_) (CT _) (show Bg X.prog X.w _ g _ (.lst xs.reverse) from ⟨by rw [List.length_reverse];eC hz,its.reverse,c',W7 rv,?_⟩),rfl,q _ _ (Ap hD) hD Ag⟩
  ·have lb:@LT.lt Nat _ b s1.heap.objs.size:=AH eb
   eC k b o (AS lb) (AB _ eb)
  ·rw [e,←ea]
end
end Lw
end
set_option maxHeartbeats 0
set_option exponentiation.threshold 5000
namespace My
open PySem PySem.Spec PyProof.Rows L2 Lw
local notation "#a"=>@Aa _ _ _ _ _
local notation "#b"=>@Ak _ _ _ _ _ _ _ _ _ _ _
local notation "#c"=>@Aj _ _ _ _ _ _ _
local notation "#g"=>@Am _ _ _ _ _ _ _ _
local notation "#h"=>@Ad _ _ _ _ _
local notation "#i"=>@Ae _ _ _
local notation "#j"=>@Al _ _ _ _
local notation "#l"=>@Aq _ _ _ _ _ _ _ _ _
local notation "#m"=>@B9 _ _ _ _ _ _ _ _
local notation "#n"=>@Bm _ _ _ _ _ _ _ _
local notation "#p"=>@C3 _ _ _ _ _ _ _ _ _ _ _ _ _ _ _ _ _ _ _ _ _ _ _
local notation "#q"=>@An _ _
local notation "#s"=>@B5 _ _ _ _ _ _ _ _ _ _
local notation "#u"=>@B8 _ _ _ _ _
local notation "#v"=>@Dv _ _ _ _ _ _ _ _ _ _ _ _ _ _
local notation "#w"=>@Ay _ _
local notation "#y"=>@Bl _ _ _ _ _ _ _ _ _
local notation "#z"=>@B0 _ _ _ _ _
local notation "#A"=>@Co _ _ _ _ _ _ _ _
local notation "#B"=>@Bx _ _ _ _
local notation "#C"=>@B3 _ _ _ _ _ _ _
local notation "#D"=>@Ce _ _ _
local notation "#E"=>@Au _ _
local notation "#F"=>@Lu _ _ _ _ _ _ _ _ _ _ _ _
local notation "#G"=>@O4 _ _ _ _ _ _ _ _ _ _ _ _ _ _ _ _ _ _ _ _ _ _ _ _ _
local notation "#H"=>@By _ _ _ _
local notation "#I"=>@D7 _ _ _ _ _ _ _ _ _ _
local notation "#J"=>@Oa _ _ _ _ _ _ _
local notation "#K"=>@G4 _ _ _ _ _ _ _ _
local notation "#L"=>@A5 _ _ _ _ _
local notation "#M"=>@E9 _ _ _ _
local notation "#N"=>@Yu _ _ _ _ _ _ _ _
local notation "#O"=>@K2 _ _ _ _ _ _ _ _
local notation "#P"=>@Er _ _ _ _ _
local notation "#Q"=>@Ut _ _ _ _ _ _ _ _ _ _ _ _ _ _
local notation "#R"=>@L4 _ _ _ _ _ _
local notation "#S"=>@Gc _ _ _ _
local notation "#T"=>@Ot _ _ _ _ _ _ _ _ _ _ _ _
local notation "#U"=>@O1 _ _ _ _ _ _ _ _ _ _ _ _
local notation "#V"=>@u1 _ _
local notation "#W"=>@Ik _ _ _ _ _ _ _ _ _
local notation "#X"=>@Rx _ _ _ _ _ _ _
local notation "#Y"=>@F3 _ _ _ _
local notation "#Z"=>@Xf _ _ _ _ _ _ _
local notation "#aa"=>@L8 _ _ _ _ _ _ _
local notation "#ab"=>@O2 _ _ _ _ _ _ _ _ _
local notation "#ac"=>@L9 _ _ _ _ _ _ _ _ _
local notation "#ad"=>@Ni _ _ _ _ _
local notation "#ae"=>@Li _ _ _ _ _ _
local notation "#af"=>@Mg _ _ _ _ _
local notation "#ag"=>@U8 _ _ _ _ _ _
local notation "#ah"=>@Ft _ _ _ _ _ _
local notation "#ai"=>@Lg _ _ _ _
local notation "#aj"=>@Tr _ _ _ _
local notation "#ak"=>@V7 _
local notation "#al"=>@Abw _
local macro_rules | `(tactic| walk_at "hp")=>`(tactic| first | assumption | (refine sm_at (by assumption) ?_; walk_at "hp") | (refine sm_sq (by assumption) ?_; walk_at "hp") | (refine Fq.up (by assumption) ?_; walk_at "hp") | (refine Pq.up (by assumption) ?_; walk_at "hp"))
def Dd (i:Nat):Stmt:=PySem.Challenge.pw_ladderworth_k87_whole_put_and_taken_at_t.main.body.getD i (.Pass ⟨0,0,0,0⟩)
abbrev Kw:Stmt:=Dd 13
abbrev Ke:Stmt:=Dd 14
abbrev Dq:Stmt:=Dd 15
abbrev Zc:Stmt:=Dd 16
abbrev U5:Stmt:=Dd 17
abbrev Tv:Stmt:=Dd 20
abbrev Yh:Stmt:=Dd 28
abbrev G3:Stmt:=Dd 29
abbrev Mp:Stmt:=Dd 30
abbrev Iv:Stmt:=Dd 32
abbrev Ib:Stmt:=Dd 33
abbrev Hb:Stmt:=Dd 34
abbrev Ij:Stmt:=Dd 35
abbrev M7:Stmt:=Dd 36
abbrev Ig:Stmt:=Dd 37
abbrev Mr:Stmt:=Dd 38
abbrev Hi:Stmt:=Dd 43
abbrev Jc:Stmt:=Dd 44
abbrev Dm:Stmt:=Dd 45
abbrev M0:Stmt:=Dd 46
abbrev To:Stmt:=Dd 95
abbrev Ic:Stmt:=Dd 96
abbrev F7:Stmt:=Dd 97
abbrev Zn:Stmt:=Dd 98
abbrev Nq:Stmt:=Dd 99
abbrev D9:Stmt:=Dx (Dd 101) 0
abbrev Hc:Stmt:=Dx (Dd 101) 1
abbrev F9:Stmt:=Dx (Dd 101) 2
abbrev Fg:Stmt:=Dx (Dd 101) 3
abbrev E1:Stmt:=Dx (Dd 101) 4
abbrev Nn:Stmt:=Dd 102
abbrev Qc:Stmt:=Dd 103
abbrev Ka:Stmt:=Dd 112
abbrev O7:Stmt:=Dd 113
abbrev Nj:Stmt:=Dd 114
abbrev Kz:Stmt:=Dd 115
abbrev Nd:Stmt:=Dd 116
abbrev Fs:Stmt:=Dd 117
abbrev E3:Stmt:=Dx (Dd 118) 0
abbrev Il:Stmt:=Dx (Dd 118) 1
abbrev Kq:Stmt:=Dx (Dd 118) 2
abbrev Im:Stmt:=Dx (Dd 118) 3
abbrev Ie:Stmt:=Dd 119
abbrev E5:Stmt:=Dd 122
abbrev Gb:Stmt:=Dd 123
abbrev Dr:Stmt:=Dd 133
abbrev Cz:Stmt:=Dd 136
abbrev C4:Stmt:=Dd 137
abbrev B2:Stmt:=Dd 144
abbrev G1:Stmt:=Dd 146
abbrev E4:Stmt:=Dx (Dd 149) 0
abbrev Kh:Stmt:=Dx (Dd 149) 1
abbrev Fi:Stmt:=Dd 150
abbrev Gz:Stmt:=Dd 151
abbrev Ja:Stmt:=Dd 153
abbrev Mn:Stmt:=Dd 154
abbrev Uv:Stmt:=Dd 155
abbrev Ji:Stmt:=Dd 156
abbrev Nc:Stmt:=Dd 157
abbrev Jn:Stmt:=Dd 158
abbrev Jg:Stmt:=Dd 159
abbrev Tj:Stmt:=Dd 160
abbrev Mw:Stmt:=Dd 161
abbrev G2:Stmt:=Dd 162
abbrev Kv:Stmt:=Dd 163
abbrev J4:Stmt:=Dd 164
structure Bb (K:KKf)(mg:Str→Option Value)(c_Desk c_LadderError c_Ledger c_NoBook c_NoGame c_NoRow c_Rule:Addr):Prop where
 b_Desk:mg "Desk"=some (.ref c_Desk)
 b_LadderError:mg "LadderError"=some (.ref c_LadderError)
 b_Ledger:mg "Ledger"=some (.ref c_Ledger)
 b_NoBook:mg "NoBook"=some (.ref c_NoBook)
 b_NoGame:mg "NoGame"=some (.ref c_NoGame)
 b_NoRow:mg "NoRow"=some (.ref c_NoRow)
 b_Rule:mg "Rule"=some (.ref c_Rule)
 y_NoBook:PySem.W.nsIn K mainGlobals "NoBook"=some (some (.ref c_NoBook))
 y_NoGame:PySem.W.nsIn K mainGlobals "NoGame"=some (some (.ref c_NoGame))
 x_LadderError:Ago K c_LadderError
 x_NoBook:Ago K c_NoBook
 x_NoGame:Ago K c_NoGame
 km_NoBook_NoBook:PySem.W.mroIn K c_NoBook (.ref c_NoBook)=some true
 kn_NoGame_NoBook:PySem.W.mroIn K c_NoGame (.ref c_NoBook)=some false
 km_NoGame_NoGame:PySem.W.mroIn K c_NoGame (.ref c_NoGame)=some true
 y_Desk:PySem.W.nsIn K mainGlobals "Desk"=some (some (.ref c_Desk))
 l_Desk:Ow K c_Desk
 m_Desk:MkC K c_Desk
 na_Desk_ledger:NoAttr K c_Desk "ledger"
 na_Desk_told:NoAttr K c_Desk "told"
 y_Ledger:PySem.W.nsIn K mainGlobals "Ledger"=some (some (.ref c_Ledger))
 l_Ledger:Ow K c_Ledger
 m_Ledger:MkC K c_Ledger
 na_Ledger_kept:NoAttr K c_Ledger "kept"
 na_Ledger_last:NoAttr K c_Ledger "last"
 na_Ledger_rule:NoAttr K c_Ledger "rule"
 y_Rule:PySem.W.nsIn K mainGlobals "Rule"=some (some (.ref c_Rule))
 l_Rule:Ow K c_Rule
 m_Rule:MkC K c_Rule
 na_Rule_first:NoAttr K c_Rule "first"
 na_Rule_step:NoAttr K c_Rule "step"
 na_Rule_table:NoAttr K c_Rule "table"
 z_NoBook:PySem.W.excIn K c_NoBook vB "ValueError.__new__"=true
 z_NoGame:PySem.W.excIn K c_NoGame vB "ValueError.__new__"=true
section
variable {P:Program}{w:World}{K:KKf}{mg:Str→Option Value}{base:Heap}{ns:List Int}
variable {c_Desk c_LadderError c_Ledger c_NoBook c_NoGame c_NoRow c_Rule:Addr}{a_FIRST_ROW:Addr}{b_FIRST_ROW_1:Addr}{a_TABLE:Addr}{b_TABLE_0:Addr}{b_TABLE_0_1:Addr}{b_TABLE_1:Addr}{b_TABLE_1_1:Addr}{b_TABLE_2:Addr}{b_TABLE_2_1:Addr}{b_TABLE_3:Addr}{b_TABLE_3_1:Addr}{b_TABLE_4:Addr}{b_TABLE_4_1:Addr}{a_TEXT_ROWS:Addr}{g_put_game:Addr}{g_tell_tree:Addr}{g_tell_group:Addr}{a_WORDS:Addr}{a_WORD_ROWS:Addr}{b_WORD_ROWS_take:Addr}{b_WORD_ROWS_book:Addr}{b_WORD_ROWS_verdict:Addr}{b_WORD_ROWS_way:Addr}{b_WORD_ROWS_ends:Addr}{b_WORD_ROWS_rank:Addr}{b_WORD_ROWS_running:Addr}{b_WORD_ROWS_worth:Addr}{b_WORD_ROWS_take_1:Addr}{b_WORD_ROWS_take_1_0:Addr}{b_WORD_ROWS_book_1:Addr}{b_WORD_ROWS_running_1:Addr}{g_take_game:Addr}{g_tell_book:Addr}{g_tell_running:Addr}
--@thinall
theorem nb {P:Prop}{a b:Bool}(h:a=b)(n:(a==b)=false:=by rfl):P:=by
 subst h
 rw [beq_self_eq_true] at n
 cases n
def wh:V→Bool
 |.int _=>true
 |_=>false
def Kd (H:Hp):V→Prop
 |.int _=>True
 |.bl _=>True
 |.non=>True
 |.str _=>True
 |.ref p=>∃u t,H p=some u∧Amg u=some t∧tyB t "int"=some false
 |_=>False
theorem Kd.up {H H':Hp}(s:Ah H H'):∀{v:V},Kd H v→Kd H' v
 |.int _,h=>h
 |.bl _,h=>h
 |.non,h=>h
 |.str _,h=>h
 |.ref p,⟨u,t,h1,h2⟩=>⟨u,t,s _ _ h1,h2⟩
 |.flt _,h=>h.elim
 |.byt _,h=>h.elim
 |.ty _,h=>h.elim
def ExN (K:KKf)(x:Str)(E:XK)(H:Hp):Prop:=∀C,PySem.W.nsIn K mainGlobals x=some (some (.ref C))→E (.ref C) none H
def Ip (K:KKf)(ns:List Int):Sp:=fun vs H Q _=>match vs with
 |[v]=>Kd H v∧Q (.bl (wh v)) H
 |_=>False
theorem V0:Ai ["thing"] ["thing"] (Af Kw):=⟨rfl,rfl,rfl,by decide +kernel,rfl,by decide +kernel,by decide +kernel⟩
local notation "#am"=>Bb K mg c_Desk c_LadderError c_Ledger c_NoBook c_NoGame c_NoRow c_Rule
local notation "#an"=>Ba P w K mg base "is_whole" ["thing"] 1 (Ip K ns)
theorem X2 (d:Bj K mg "is_whole" Kw ["thing"])(er:#am)(n_isinstance:mg "isinstance"=none)(n_bool:mg "bool"=none)(n_int:mg "int"=none)  :#an:=by
 rA d.cal (k:=0) V0 (fun vs H Q E h=>?_) (fun f cdv A outer s H vs Q E hr h=>?_)
 ·match vs,h with
  |[_],_=>rfl
 ·rA ⟨_,(#i (#j (#X (#l Sg #r n_isinstance #k (#a (dv 0) (#a (Zr "int" #r n_int #k) Ac #r) #r) #d #d #r #r) (#af (@Aj6 _ _ _ _ (#l Sg #r n_isinstance #k (#a (dv 0) (#a (Zr "bool" #r n_bool #k) Ac #r) #r) #d #d #r #r)))))),?_⟩
  match vs,h with
  |[.int _],⟨_,q⟩=>eC ⟨true,rfl,fun _=>⟨false,rfl,q⟩,fun h=>absurd h #d⟩
  |[.bl _],⟨_,q⟩=>eC ⟨true,rfl,fun _=>⟨true,rfl,q⟩,fun h=>absurd h #d⟩
  |[.non],⟨_,q⟩=>eC ⟨false,rfl,fun h=>absurd h #d,fun _=>q⟩
  |[.str _],⟨_,q⟩=>eC ⟨false,rfl,fun h=>absurd h #d,fun _=>q⟩
  |[.ref _],⟨⟨u,t,h1,h2,h3⟩,q⟩=>eC ⟨u,false,t,h1,h2,h3,fun h=>absurd h #d,fun _=>q⟩
  |[.flt _],⟨z,_⟩=>eC z.elim
  |[.byt _],⟨z,_⟩=>eC z.elim
  |[.ty _],⟨z,_⟩=>eC z.elim
--@words TEXT_ROWS put
--@words WORD_ROWS take book running
def E8 (K:KKf)(ns:List Int):Sp:=fun vs H Q _=>match vs with
 |[.int x,.int y]=>Q (.int (Int.gcd x y:Int)) H
 |_=>False
theorem Cc:Ai ["one","other","rest"] ["one","other"] (Af Dq):=⟨rfl,rfl,rfl,by decide +kernel,rfl,by decide +kernel,by decide +kernel⟩
local notation "#ao"=>Ba P w K mg base "greatest_divisor" ["one","other"] 1 (E8 K ns)
theorem Jz (d:Bj K mg "greatest_divisor" Dq ["one","other"])(er:#am)(n_abs:mg "abs"=none)  :#ao:=by
 rA d.cal (k:=0) Cc (fun vs H Q E h=>?_) (fun f cdv A outer s H vs Q E hr h=>?_)
 ·match vs,h with
  |[.int x,.int y],_=>rfl
 ·match vs,h with
  | [.int x,.int y],hq0=>
   have q:=hq0
   rA ⟨_,(#h (@Aar _ _ _ _ _ _ DI (#n Acb (dv 1) Ab (#w #d #d)) (#h (#q (2) _ _ _ _ Cc.nd rfl #t (#g Am8 (dv 0) (dv 1)) #r #t) (#h (#q (0) _ _ _ _ Cc.nd rfl #t (dv 1) #r #t) (#i (#q (1) _ _ _ _ Cc.nd rfl #t (dv 2) #r #t))))) (#i (#j (#l Aj4 #r n_abs #k (#a (dv 0) Ac #r) #d #d #r #r)))),?_⟩
   rA ⟨fun m σ H'=>∃a b o,σ=[some (.int a),some (.int b),o]∧H'=H∧Int.gcd a b=Int.gcd x y∧m=b.natAbs,⟨_,x,y,none,rfl,rfl,rfl,rfl⟩,?_⟩
   rintro m σ H' ⟨a,b,o,rfl,rfl,g,rfl⟩
   rA ⟨fun h=>?_,fun h=>?_⟩
   ·have hb:¬b=0:=by simpa using h
    rA ⟨hb,?_⟩
    eC ⟨(a.fmod b).natAbs,Aje a hb,b,a.fmod b,_,rfl,rfl,by rw [Ae3,g],rfl⟩
   ·have hb:b=0:=by simpa using h
    subst hb
    have e:(Int.gcd x y:Int)=(a.natAbs:Int):=by
     rw [←g,Int.gcd_zero_right]
    have q:Q (.int (Int.gcd x y:Int)) H':=q
    rw [e] at q
    eC q
def Et (K:KKf)(ns:List Int):Sp:=fun vs H Q _=>match vs with
 |[.int t,.int b]=>(b≠0∧Bd 4000 b)∧∀p H',Ah H H'→Ada H' p t b→Q (.ref p) H'
 |_=>False
theorem Jk:Ai ["top","bottom","divisor"] ["top","bottom"] (Af Ke):=⟨rfl,rfl,rfl,by decide +kernel,rfl,by decide +kernel,by decide +kernel⟩
local notation "#ap"=>Ba P w K mg base "fraction" ["top","bottom"] 2 (Et K ns)
theorem Wk (d:Bj K mg "fraction" Ke ["top","bottom"])(er:#am)   (c_greatest_divisor:#ao)(c_is_whole:#an):#ap:=by
 rA d.cal (k:=1) Jk (fun vs H Q E h=>?_) (fun f cdv A outer s H vs Q E hr h=>?_)
 ·match vs,h with
  |[.int t,.int b],_=>rfl
 ·match vs,h with
  | [.int t,.int b],hq0=>
   obtain ⟨⟨b0,b1⟩,q⟩:=hq0
   rA ⟨_,(#h (#m (@L2.PW.pt _ _ _ (#J (#B (#D (#b c_is_whole hr #d #r (#a (dv 0) Ac #r) #d #r #r) (by intro _;rfl))) (#S (#B (#D (#b c_is_whole hr #d #r (#a (dv 1) Ac #r) #d #r #r) (by intro _;rfl)))))) (#i Cq) Aw) (#h (#m (#n Gg (dv 1) Ab (#w #d #d)) (#i Cq) Aw) (#h (#q (2) _ _ _ _ Jk.nd rfl #t (#b c_greatest_divisor hr #d #r (#a (dv 0) (#a (dv 1) Ac #r) #r) #d #r #r) #r #t) (#h (#m (#n Ws (dv 1) Ab (#w #d #d)) (#i (#q (2) _ _ _ _ Jk.nd rfl #t (#R Lf (dv 2)) #r #t)) Aw) (#i (#j (#u (#a (#g Aeu (dv 0) (dv 2)) (#a (#g Aeu (dv 1) (dv 2)) Ac #r) #r)))))))),?_⟩
   rA ⟨True.intro,⟨fun h=>nb h,fun _=>⟨True.intro,⟨fun h=>nb h,fun _=>?_⟩⟩⟩⟩
   rA ⟨fun h=>absurd (AZ h) b0,fun _=>?_⟩
   have d0:=Amp t b0
   have d1:=Ans t b0 b1
   have e1:=Aki t b0
   have e2:=Akk t b0
   rA ⟨fun h=>?_,fun h=>?_⟩
   ·have h:=AZ h
    have e:dvs t b=-(Int.gcd t b:Int):=AN h
    rw [e] at d0 d1 e1 e2
    rA ⟨⟨d0,d1⟩,⟨⟨d0,d1⟩,fun p H' s z=>q p H' s ⟨?_⟩⟩⟩
    dsimp only at z
    rw [e1,e2] at z
    eC z
   ·have h:=BM h
    have e:dvs t b=(Int.gcd t b:Int):=AI h
    rw [e] at d0 d1 e1 e2
    rA ⟨⟨d0,d1⟩,⟨⟨d0,d1⟩,fun p H' s z=>q p H' s ⟨?_⟩⟩⟩
    dsimp only at z
    rw [e1,e2] at z
    eC z
theorem Ci {H H':Hp}{D:Addr}(s:Ah H H')(h:H' D=none):H D=none:=by
 cases e:H D with
 |none=>rfl
 |some o=>
  rw [s _ _ e] at h
  cases h
theorem Xj {α:Type}{xs:List α}{v:α}(h:xs.getLast? =some v):Q6 xs (-1)=some v:=by
 have h0:xs≠[]:=fun e=>by simp [e] at h
 have hl:0<xs.length:=List.length_pos_iff.mpr h0
 unfold Q6 ixN
 rw [AI #d,AN #o]
 show xs[(xs.length+(-1:Int)).toNat]? =some v
 rw [show (xs.length+(-1:Int)).toNat=xs.length-1 by omega,←h,List.getLast?_eq_getElem?]
def btw (v:V)(lo hi:Int):Bool:=match v with
 |.int i=>decide (lo≤i)&&decide (i≤hi)
 |_=>false
def Eo (K:KKf)(ns:List Int):Sp:=fun vs H Q _=>match vs with
 |[v,.int lo,.int hi]=>Kd H v∧Q (.bl (btw v lo hi)) H
 |_=>False
theorem Re:Ai ["thing","least","most"] ["thing","least","most"] (Af G3):=⟨rfl,rfl,rfl,by decide +kernel,rfl,by decide +kernel,by decide +kernel⟩
local notation "#aq"=>Ba P w K mg base "is_between" ["thing","least","most"] 2 (Eo K ns)
theorem Rl (d:Bj K mg "is_between" G3 ["thing","least","most"])(er:#am)   (c_is_whole:#an):#aq:=by
 rA d.cal (k:=1) Re (fun vs H Q E h=>?_) (fun f cdv A outer s H vs Q E hr h=>?_)
 ·match vs,h with
  |[v,.int lo,.int hi],_=>rfl
 ·match vs,h with
  | [v,.int lo,.int hi],hq0=>
   obtain ⟨kd,q⟩:=hq0
   rA ⟨_,(#i (#j (#X (#b c_is_whole hr #d #r (#a (dv 0) Ac #r) #d #r #r) (#af (@Ahz _ _ _ _ _ _ _ _ _ _ _ _ Qz Qz (dv 1) (dv 0) (dv 2) (by with_unfolding_all rfl)))))),?_⟩
   match v,kd,q with
   | .int i,_,q=>
    rA ⟨True.intro,⟨fun _=>⟨fun h=>?_,fun h=>?_⟩,fun h=>nb h⟩⟩
    ·have e:btw (.int i) lo hi=decide (i≤hi):=by
      have h:decide (lo≤i)=true:=h
      simp only [btw,h,FE]
     rw [e] at q
     eC q
    ·have e:btw (.int i) lo hi=false:=by
      have h:decide (lo≤i)=false:=h
      simp only [btw,h,ER]
     rw [e] at q
     eC q
   |.bl _,kd,q=>eC ⟨kd,⟨fun h=>nb h,fun _=>q⟩⟩
   |.non,kd,q=>eC ⟨kd,⟨fun h=>nb h,fun _=>q⟩⟩
   |.str _,kd,q=>eC ⟨kd,⟨fun h=>nb h,fun _=>q⟩⟩
   |.ref _,kd,q=>eC ⟨kd,⟨fun h=>nb h,fun _=>q⟩⟩
   |.flt _,kd,_=>eC kd.elim
   |.byt _,kd,_=>eC kd.elim
   |.ty _,kd,_=>eC kd.elim
def Kc (K:KKf)(ns:List Int):Sp:=fun vs H Q _=>match vs with
 |[.ref t]=>∃a b,Vt K H t [a,b]∧Q (.bl true) H
 |_=>False
theorem Ya:Ai ["thing"] ["thing"] (Af Nj):=⟨rfl,rfl,rfl,by decide +kernel,rfl,by decide +kernel,by decide +kernel⟩
local notation "#ar"=>Ba P w K mg base "is_pair" ["thing"] 1 (Kc K ns)
theorem X9 (d:Bj K mg "is_pair" Nj ["thing"])(er:#am)(n_len:mg "len"=none)(n_isinstance:mg "isinstance"=none)(n_tuple:mg "tuple"=none)  :#ar:=by
 rA d.cal (k:=0) Ya (fun vs H Q E h=>?_) (fun f cdv A outer s H vs Q E hr h=>?_)
 ·match vs,h with
  |[.ref t],_=>rfl
 ·match vs,h with
  |[.ref t],hq0=>
   obtain ⟨a,b,h,q⟩:=hq0
   rA ⟨_,(#i (#j (#X (#l Alf #r n_isinstance #k (#a (dv 0) (#a (Zr "tuple" #r n_tuple #k) Ac #r) #r) #d #d #r #r) (#af (#A Gg (#l C9 #r n_len #k (#a (dv 0) Ac #r) #d #d #r #r) Ab (#w #d #d)))))),?_⟩
   eC ⟨h.isi,rfl,⟨fun _=>⟨_,.inr h.sq,q⟩,fun h=>nb h⟩⟩
theorem Afd {p q:Int}(h:Int.gcd p q=1):Mm p q=p∧Kx p q=q:=by
 unfold Mm Kx
 rw [h]
 eC ⟨Int.ediv_one _,Int.ediv_one _⟩
theorem Am7 {t b:Int}(hb:0<b):Qa t b=Mm t b∧Oc t b=Kx t b:=by
 unfold Qa Oc
 rw [AI #o,AI #o]
 eC ⟨rfl,rfl⟩
def qd (x:Q2):PyData:=.tuple [.int x.1,.int x.2]
theorem Ak8 (p q:Q2):PyData.eqv (qd p) (qd q)=decide (p=q):=by
 show ((p.1==q.1)&&((p.2==q.2)&&true))=_
 obtain ⟨a,b⟩:=p
 obtain ⟨c,d⟩:=q
 rw [Bool.and_true]
 by_cases h1:a=c<;>by_cases h2:b=d<;>simp [h1,h2]
def Ag5 (r:Int×Int×Int):Prop:=(0≤r.1∧r.1≤1000000)∧(1≤r.2.2∧r.2.2≤9999∧0≤r.2.1∧r.2.1≤r.2.2∧Int.gcd r.2.1 r.2.2=1)
theorem Aer {i lo hi:Int}(h0:lo≤i)(h1:i≤hi):btw (.int i) lo hi=true:=by
 simp only [btw,AQ h0,AQ h1,Bool.and_true]
def N6 (K:KKf)(ns:List Int):Sp:=fun vs H Q _=>match vs with
 |[.ref t]=>∃r:Int×Int×Int,(Vt K H t [.int r.2.1,.int r.2.2]∧Ag5 r)∧∀H',Ah H H'→Q (.bl true) H'
 |_=>False
theorem Xk:Ai ["thing"] ["thing"] (Af Kz):=⟨rfl,rfl,rfl,by decide +kernel,rfl,by decide +kernel,by decide +kernel⟩
local notation "#as"=>Ba P w K mg base "is_share" ["thing"] 3 (N6 K ns)
theorem Wo (d:Bj K mg "is_share" Kz ["thing"])(er:#am)  (v_MOST_PART:Gv mg "MOST_PART" (.int (9999)))(c_fraction:#ap)(c_is_between:#aq)(c_is_pair:#ar):#as:=by
 rA d.cal (k:=2) Xk (fun vs H Q E h=>?_) (fun f cdv A outer s H vs Q E hr h=>?_)
 ·match vs,h with
  |[.ref t],_=>rfl
 ·match vs,h with
  | [.ref t],hq0=>
   obtain ⟨r,⟨e,ok⟩,k⟩:=hq0
   rA ⟨_,(#h (#m (@L2.PW.pt _ _ _ (#J (#B (#D (#b c_is_pair hr #d #r (#a (dv 0) Ac #r) #d #r #r) (by intro _;rfl))) (#J (#B (#D (#b c_is_between hr #d #r (#a (#c Bp (dv 0) Ab (fun _ _=>rfl)) (#a Ab (#a (Cu v_MOST_PART #r) Ac #r) #r) #r) #d #r #r) (by intro _;rfl))) (#S (#B (#D (#b c_is_between hr #d #r (#a (#c Bp (dv 0) Ab (fun _ _=>rfl)) (#a Ab (#a (#c Bp (dv 0) Ab (fun _ _=>rfl)) Ac #r) #r) #r) #d #r #r) (by intro _;rfl))))))) (#i (#j Lv)) Aw) (#i (#j (#A (#ak hr.units) (#b c_fraction hr #d #r (#a (#c Bp (dv 0) Ab (fun _ _=>rfl)) (#a (#c Bp (dv 0) Ab (fun _ _=>rfl)) Ac #r) #r) #d #r #r) (dv 0) (#w #d #d))))),?_⟩
   obtain ⟨_,o1,o2,o3,o4,og⟩:=ok
   have b1:=Aer o1 o2
   have b2:=Aer o3 o4
   rA ⟨_,_,e,⟨fun h=>nb h,fun _=>⟨_,e.sq,True.intro,⟨fun h=>?_,fun _=>⟨_,e.sq,_,e.sq,True.intro,⟨fun h=>?_,fun _=>?_⟩⟩⟩⟩⟩⟩
   ·rw [b1] at h
    eC nb h
   ·rw [b2] at h
    eC nb h
   rA ⟨_,e.sq,_,e.sq,⟨by omega,Dt (b:=9999) #o #o (A2 rfl)⟩,fun x H' s' f=>⟨qd (Qa r.2.1 r.2.2,Oc r.2.1 r.2.2),qd r.2,.tup (Ec.of f.at') (.cons (.int _) (.cons (.int _) .nil)),.tup (Ym s' e.sq) (.cons (.int _) (.cons (.int _) .nil)),rfl,rfl,?_⟩⟩
   obtain ⟨e1,e2⟩:=Am7 (t:=r.2.1) (b:=r.2.2) #o
   obtain ⟨e3,e4⟩:=Afd og
   rw [Ak8,e1,e2,e3,e4,AQ rfl]
   eC k H' s'
def Gu (K:KKf)(H:Hp)(v:V)(r:Int×Int×Int):Prop:=∃t u,v=.ref t∧Vt K H t [.int r.1,.ref u]∧Vt K H u [.int r.2.1,.int r.2.2]
theorem Ea {K:KKf}(v:V)(r:Int×Int×Int)(H H':Hp)(k:Kt H H')(h:Gu K H v r):Gu K H' v r:=by
 obtain ⟨t,u,e,h1,h2⟩:=h
 eC ⟨t,u,e,h1.up k,h2.up k⟩
def Sf (K:KKf)(ns:List Int):Sp:=fun vs H Q _=>match vs with
 |[v]=>∃r,(Gu K H v r∧Ag5 r)∧∀H',Ah H H'→Q (.bl true) H'
 |_=>False
theorem Adm:Ai ["thing"] ["thing"] (Af O7):=⟨rfl,rfl,rfl,by decide +kernel,rfl,by decide +kernel,by decide +kernel⟩
local notation "#at"=>Ba P w K mg base "is_row" ["thing"] 4 (Sf K ns)
theorem Ade (d:Bj K mg "is_row" O7 ["thing"])(er:#am)  (v_LAST_FROM:Gv mg "LAST_FROM" (.int (1000000)))(c_is_share:#as)(c_is_between:#aq)(c_is_pair:#ar):#at:=by
 rA d.cal (k:=3) Adm (fun vs H Q E h=>?_) (fun f cdv A outer s H vs Q E hr h=>?_)
 ·match vs,h with
  |[v],_=>rfl
 ·match vs,h with
  |[v],hq0=>
   obtain ⟨r,⟨⟨t,u,ev,h1,h2⟩,ok⟩,k⟩:=hq0
   rA ⟨_,(#i (#j (#X (#b c_is_pair hr #d #r (#a (dv 0) Ac #r) #d #r #r) (#X (#b c_is_between hr #d #r (#a (#c Bp (dv 0) Ab (fun _ _=>rfl)) (#a Ab (#a (Cu v_LAST_FROM #r) Ac #r) #r) #r) #d #r #r) (#af (#b c_is_share hr #d #r (#a (#c Bp (dv 0) Ab (fun _ _=>rfl)) Ac #r) #d #r #r)))))),?_⟩
   subst ev
   have b1:=Aer ok.1.1 ok.1.2
   rA ⟨_,_,h1,⟨fun _=>⟨_,h1.sq,True.intro,⟨fun _=>⟨_,h1.sq,r,⟨h2,ok⟩,k⟩,fun h=>?_⟩⟩,fun h=>nb h⟩⟩
   rw [b1] at h
   eC nb h
def goR (a b:Int×Int×Int):Bool:=decide (a.1<b.1)&&decide (¬b.2.1*a.2.2<a.2.1*b.2.2)
def Iu (K:KKf)(ns:List Int):Sp:=fun vs H Q _=>match vs with
 |[.ref a,.ref b]=>∃p q p' q':Int,(Vt K H a [.int p,.int q]∧Vt K H b [.int p',.int q'])∧(Bd 1900 p∧Bd 1900 q∧Bd 1900 p'∧Bd 1900 q')∧Q (.bl (decide (p*q'<p'*q))) H
 |_=>False
theorem Af2:Ai ["one","other"] ["one","other"] (Af Tv):=⟨rfl,rfl,rfl,by decide +kernel,rfl,by decide +kernel,by decide +kernel⟩
local notation "#au"=>Ba P w K mg base "under" ["one","other"] 1 (Iu K ns)
theorem Af1 (d:Bj K mg "under" Tv ["one","other"])(er:#am)   :#au:=by
 rA d.cal (k:=0) Af2 (fun vs H Q E h=>?_) (fun f cdv A outer s H vs Q E hr h=>?_)
 ·match vs,h with
  |[.ref a,.ref b],_=>rfl
 ·match vs,h with
  |[.ref a,.ref b],hq0=>
   obtain ⟨p,q,p',q',⟨ha,hb⟩,⟨b1,b2,b3,b4⟩,k⟩:=hq0
   rA ⟨_,(#i (#j (#A Ws (#g Ef (#c Bp (dv 0) Ab (fun _ _=>rfl)) (#c Bp (dv 1) Ab (fun _ _=>rfl))) (#g Ef (#c Bp (dv 1) Ab (fun _ _=>rfl)) (#c Bp (dv 0) Ab (fun _ _=>rfl))) (#w #d #d)))),?_⟩
   eC ⟨_,ha.sq,_,hb.sq,Xz b1 b4 #d #d,_,hb.sq,_,ha.sq,Xz b3 b2 #d #d,k⟩
def Py (K:KKf)(ns:List Int):Sp:=fun vs H Q _=>match vs with
 |[v,u]=>∃a b,(Gu K H v a∧Gu K H u b)∧(Bd 20 a.2.1∧Bd 20 a.2.2∧Bd 20 b.2.1∧Bd 20 b.2.2)∧Q (.bl (goR a b)) H
 |_=>False
theorem Y1:Ai ["row","later"] ["row","later"] (Af Nd):=⟨rfl,rfl,rfl,by decide +kernel,rfl,by decide +kernel,by decide +kernel⟩
local notation "#av"=>Ba P w K mg base "goes_on" ["row","later"] 2 (Py K ns)
theorem Yd (d:Bj K mg "goes_on" Nd ["row","later"])(er:#am)   (c_under:#au):#av:=by
 rA d.cal (k:=1) Y1 (fun vs H Q E h=>?_) (fun f cdv A outer s H vs Q E hr h=>?_)
 ·match vs,h with
  |[v,u],_=>rfl
 ·match vs,h with
  | [v,u],hq0=>
   obtain ⟨a,b,⟨⟨t,x,ev,h1,h2⟩,⟨t',x',eu,h1',h2'⟩⟩,⟨b1,b2,b3,b4⟩,k⟩:=hq0
   rA ⟨_,(#i (#j (#X (#A Ws (#c Bp (dv 0) Ab (fun _ _=>rfl)) (#c Bp (dv 1) Ab (fun _ _=>rfl)) (#w #d #d)) (#af (@Aj6 _ _ _ _ (#b c_under hr #d #r (#a (#c Bp (dv 1) Ab (fun _ _=>rfl)) (#a (#c Bp (dv 0) Ab (fun _ _=>rfl)) Ac #r) #r) #d #r #r)))))),?_⟩
   subst ev
   subst eu
   rA ⟨_,h1.sq,_,h1'.sq,⟨fun h=>⟨_,h1'.sq,_,h1.sq,_,_,_,_,⟨h2',h2⟩,⟨b3.mono #d,b4.mono #d,b1.mono #d,b2.mono #d⟩,?_⟩,fun h=>?_⟩⟩
   ·have h:decide (a.1<b.1)=true:=h
    have e:goR a b=!decide (b.2.1*a.2.2<a.2.1*b.2.2):=by
     unfold goR
     rw [h,FE,decide_not]
    rw [e] at k
    eC k
   ·have h:decide (a.1<b.1)=false:=h
    have e:goR a b=false:=by
     unfold goR
     rw [h,ER]
    rw [e] at k
    eC k
def chn:List (Int×Int×Int)→Bool
 |a::b::l=>goR a b&&chn (b::l)
 |_=>true
def R8 (rows:List (Int×Int×Int)):Prop:=(1≤rows.length∧rows.length≤10)∧(∀r∈rows,Ag5 r)∧rows[0]? =some (0,1,2)∧chn rows=true
def rd3 (r:Int×Int×Int):PyData:=.tuple [.int r.1,.tuple [.int r.2.1,.int r.2.2]]
theorem Ao0 {K:KKf}{H:Hp}{v:V}{r:Int×Int×Int}(h:Gu K H v r):Rp K H v (rd3 r):=by
 obtain ⟨t,u,e,h1,h2⟩:=h
 subst e
 eC .tup h1.sq (.cons (.int _) (.cons (.tup h2.sq (.cons (.int _) (.cons (.int _) .nil))) .nil))
theorem Aio (p q:Int×Int×Int):PyData.eqv (rd3 p) (rd3 q)=decide (p=q):=by
 show ((p.1==q.1)&&(((p.2.1==q.2.1)&&((p.2.2==q.2.2)&&true))&&true))=_
 obtain ⟨a,b,c⟩:=p
 obtain ⟨a',b',c'⟩:=q
 by_cases h1:a=a'<;>by_cases h2:b=b'<;>by_cases h3:c=c'<;>simp [h1,h2,h3]
theorem Age {c:Bool}{K:KKf}{H H':Hp}{a:Addr}{xs:List V}(s:Ah H H')(h:X5 c K H a xs):X5 c K H' a xs:=by
 cases c with
 |true=>eC s.seq h
 |false=>eC Ym s h
theorem Jv {ca cb:Bool}{β:Type}{K:KKf}{a b:Addr}{xs ys:List V}{ms:List β}{g:TG}{te:TE}{k:Nat}{js:List Nat}{σ:L2.St}{H1:Hp}{Q:VK}(M:Hp→V→V→β→Prop)(upM:∀v u m H H',Kt H H'→M H v u m→M H' v u m)(R:Hp→β→V→Prop)(up:∀m y H H',Kt H H'→R H m y→R H' m y)
  (hz:ms.length≤1000) (hx:X5 ca K H1 a xs) (hy:X5 cb K H1 b ys) (lx:ms.length≤xs.length) (ly:ys.length=ms.length) (hm:∀(i:Nat) x y m,xs[i]? =some x→ys[i]? =some y→ms[i]? =some m→M H1 x y m)
  (hs:∀x y m t H2,M H2 x y m→m∈ms→Ah H1 H2→H2 t=some (.tup [x,y])→∀P:VK,(∀y H3,Ah H2 H3→R H3 m y→P y H3)→g (.ref t) (List.replicate k none++capσ js σ) H2 fun σ2 H3=>σ2.drop k=capσ js σ∧te σ2 H3 P)
  (hq:∀D H' zs,Ah H1 H'→H1 D=none→H' D=some (.lst zs)→Az (R H') ms zs→Q (.ref D) H'):Hq (Itz ca cb K a b) g te k js σ H1 Q:=by
 unfold Hq
 intro D hD
 rA ⟨fun i m H=>m=ms.length-i∧i≤ms.length∧Ah H1 H∧∃zs,H D=some (.lst zs)∧Az (R H) (ms.take i) zs,⟨ms.length,by simp,AV _,Ap hD,[],Ag,.nil⟩,?_⟩
 rintro i m H ⟨rfl,hi,sm,zs,hH,ar⟩
 have sq1:X5 ca K H a xs:=Age sm hx
 have sq2:X5 cb K H b ys:=Age sm hy
 by_cases hlt:i<ms.length
 ·have e1:xs[i]? =some (xs[i]'#o):=AD _
  have e2:ys[i]? =some (ys[i]'#o):=AD _
  have e3:ms[i]? =some ms[i]:=AD _
  rA .inr ⟨⟨xs,ys,_,_,sq1,sq2,e1,e2⟩,fun v H' yl=>?_⟩
  obtain ⟨t,x,y,rfl,ht,rfl,y1,y2⟩:=yl
  have st:Ah H (upd H t (.tup [x,y])):=Ap ht
  have et:upd H t (.tup [x,y]) t=some (.tup [x,y]):=Ag
  generalize upd H t (.tup [x,y])=H2 at st et
  have hH:=st _ _ hH
  have s2:=sm.trans st
  have hM:=hm i x y _ (y1 xs sq1) (y2 ys sq2) e3
  rA hs x y _ t H2 (upM _ _ _ _ _ (Be s2) hM) (BH e3) s2 et _ fun u H3 s3 r3=>⟨zs,s3 _ _ hH,?_,ms.length-(i+1),by omega,rfl,hlt,Ff (s2.trans s3) hD,zs++[u],Ag,?_⟩
  ·rw [←ar.len,BQ]
   eC BO (GE _ _) (AL hlt (AO hz #d))
  ·have kt:Kt H3 (upd H3 D (.lst (zs++[u]))):=Mj (s3 _ _ hH)
   rw [CI,e3]
   eC (ar.imp fun v y r=>up v y _ _ ((Be (st.trans s3)).trans kt) r).snoc (up _ _ _ _ kt r3)
 ·have e:i=ms.length:=by omega
  subst e
  rw [DX] at ar
  eC .inl ⟨⟨xs,ys,sq1,sq2,.inr #o⟩,hq D _ zs sm hD hH ar⟩
theorem Aes {α:Type}{f:α→Bool}:∀{l:List α} {ys:List V},Az (fun o y=>y=V.bl (f o)) l ys→ys=(l.map f).map V.bl
 |_,_,.nil=>rfl
 |_,_,.cons h t=>by rw [h,Aes t];rfl
theorem Aaj:∀(rows:List (Int×Int×Int)),chn rows=((rows.zip (rows.drop 1)).map fun m=>goR m.1 m.2).all id
 |[]=>rfl
 |[_]=>rfl
 |a::b::l=>by
  show (goR a b&&chn (b::l))=_
  rw [Aaj (b::l)]
  rfl
theorem Adx {xs:List V}{j:Nat}(h:j≤xs.length):Ms xs (some (j:Int)) none=xs.drop j:=by
 unfold Ms
 rw [HT.sIx_none,HT.sIx_nat,GD h]
 apply EA
 rw [DN]
 eC AF _
def N2 (K:KKf)(ns:List Int):Sp:=fun vs H Q _=>match vs with
 |[.ref l]=>∃vs rows,(H l=some (.lst vs)∧Az (Gu K H) vs rows∧R8 rows)∧∀D H',Ah H H'→H D=none→H' D=some (.lst vs)→Q (.ref D) H'
 |_=>False
theorem Wa:Ai ["rows"] ["rows"] (Af Ka):=⟨rfl,rfl,rfl,by decide +kernel,rfl,by decide +kernel,by decide +kernel⟩
local notation "#aw"=>Ba P w K mg base "table_of" ["rows"] 5 (N2 K ns)
theorem Xg (d:Bj K mg "table_of" Ka ["rows"])(er:#am)(n_list:mg "list"=none)(n_all:mg "all"=none)(n_zip:mg "zip"=none)(n_len:mg "len"=none)(n_isinstance:mg "isinstance"=none)(v_FIRST_ROW:Gv mg "FIRST_ROW" (.ref a_FIRST_ROW))(w_FIRST_ROW:B1 K a_FIRST_ROW [.int (0),.ref b_FIRST_ROW_1])(w_FIRST_ROW_1:B1 K b_FIRST_ROW_1 [.int (1),.int (2)])(v_MOST_ROWS:Gv mg "MOST_ROWS" (.int (10)))(c_goes_on:#av)(c_is_row:#at):#aw:=by
 rA d.cal (k:=4) Wa (fun vs H Q E h=>?_) (fun f cdv A outer s H vs Q E hr h=>?_)
 ·match vs,h with
  |[.ref l],_=>rfl
 ·match vs,h with
  | [.ref l],hq0=>
   obtain ⟨vs',rows,⟨e,ro,⟨⟨g1,g2⟩,hrw,hr0,hc⟩⟩,k⟩:=hq0
   rA ⟨_,(#h (#m (@L2.PW.pt _ _ _ (#J (#B (#D (#l Sg #r n_isinstance #k (#a (dv 0) (#a (Zr "list" #r n_list #k) Ac #r) #r) #d #d #r #r) (by intro _;rfl))) (#S (#B (#T Qz Qz Ab (#l C9 #r n_len #k (#a (dv 0) Ac #r) #d #d #r #r) (Cu v_MOST_ROWS #r) (by with_unfolding_all rfl)))))) (#i Cq) Aw) (#h (#m (#B (#D (#l (#al rfl) #r n_all #k (#a (#s ["row"] [] [] rfl (#H (dv 0)) (fun C s H fp=>(#E (0) _ (show List.Nodup [("row":Str)] by decide +kernel) rfl #t #t)) (fun C s H fp=>(#b c_is_row hr #d #r (#a (dv 0) Ac #r) #d #r #r)) rfl rfl #k #k #r True.intro True.intro (by intro _;rfl)) Ac #r) #d #d #r #r) (by intro _;rfl))) (#i Cq) Aw) (#h (#m (#n (@Aj2 _ hr.units) (#c Cn (dv 0) Ab (fun _ _=>rfl)) (Cu v_FIRST_ROW #r) (#w #d #d)) (#i Cq) Aw) (#h (#m (#B (#D (#l (#al rfl) #r n_all #k (#a (#s ["row","later"] [] [] rfl (@Afn _ true true _ _ _ _ _ _ _ _ #r n_zip (#a (dv 0) (#a (#I Aej (dv 0) (Dj Ab) Jt) Ac #r) #r) #r #r) (fun C s H fp=>(show PG _ _ (V5 K 2 _) from Ft rfl (A5 (Au (i:=0) (show List.Nodup [("row":Str),("later":Str)] by decide +kernel) rfl #t) (A5 (Au (i:=1) (show List.Nodup [("row":Str),("later":Str)] by decide +kernel) rfl #t) Eb)))) (fun C s H fp=>(#b c_goes_on hr #d #r (#a (dv 0) (#a (dv 1) Ac #r) #r) #d #r #r)) rfl rfl #k #k #r True.intro True.intro (by intro _;rfl)) Ac #r) #d #d #r #r) (by intro _;rfl))) (#i Cq) Aw) (#i (#j (#y Ox #r n_list #k (#a (dv 0) Ac #r) #d #d #r #r))))))),?_⟩
   have lr:vs'.length=rows.length:=ro.len
   rA ⟨_,true,_,e,rfl,rfl,⟨fun h=>nb h,fun _=>⟨_,.inl (A3.of e),⟨fun h1=>⟨fun h2=>?_,fun _=>?_⟩,fun h1=>?_⟩⟩⟩⟩
   ·have h2:¬(vs'.length:Int)≤10:=by simpa using h2
    omega
   rotate_left
   ·have h1:¬(1:Int)≤(vs'.length:Int):=BM h1
    omega
   rA ⟨l,rfl,⟨_,A3.of e⟩,Cf (fun _ v r=>Gu K H v r) (fun _ _ _ _ _ h=>h) (fun _ _ y=>y=V.bl true) (fun _ _ _ _ _ h=>h) #o (A3.of e) ro ?_ ?_⟩
   ·intro v r H1 hM hm s1 P hP
    eC ⟨rfl,r,⟨Ea _ _ _ _ (Be s1) hM,hrw r hm⟩,fun H2 s2=>hP _ _ s2 rfl⟩
   intro D1 H1 ys s1 _ e1 a1
   have y1:=Aes (f:=fun _=>true) a1
   rA ⟨rows.map fun _=>true,by rw [←y1];eC A3.of e1,⟨fun h=>?_,fun _=>?_⟩⟩
   ·have:(rows.map fun _=>true).all id=true:=by rw [List.all_map];eC CH.mpr fun _ _=>rfl
    rw [this] at h
    eC nb h
   have ro1:Az (Gu K H1) vs' rows:=ro.imp fun v r h=>Ea v r _ _ (Be s1) h
   obtain ⟨v0,hv0⟩:∃v0,vs'[0]? =some v0:=⟨_,AD #o⟩
   obtain ⟨r0,hr0',ro0⟩:=ro1.get hv0
   rw [hr0] at hr0'
   cases hr0'
   rA ⟨_,_,A3.of (s1 _ _ e),A4 hv0,_,_,Ao0 ro0,.tup (w_FIRST_ROW.sq H1) (.cons (.int _) (.cons (.tup (w_FIRST_ROW_1.sq H1) (.cons (.int _) (.cons (.int _) .nil))) .nil)),rfl,rfl,?_⟩
   have ed:PyData.eqv (rd3 (0,1,2)) (.tuple [.int 0,.tuple [.int 1,.int 2]])=true:=by rw [show PyData.tuple [.int 0,.tuple [.int 1,.int 2]]=rd3 (0,1,2) from rfl,Aio,AQ rfl]
   rw [ed]
   rA ⟨fun h=>nb h,fun _=>?_⟩
   rA ⟨_,rfl,_,A3.of (s1 _ _ e),fun C H2 s2 e2=>?_⟩
   have e2:H2 C=some (.lst (vs'.drop 1)):=e2.trans (congrArg (fun l=>some (HO.lst l)) (Adx (j:=1) #o))
   have s12:=s1.trans s2
   have ro2:Az (Gu K H2) vs' rows:=ro.imp fun v r h=>Ea v r _ _ (Be s12) h
   have lz:(rows.zip (rows.drop 1)).length=rows.length-1:=by rw [List.length_zip,DN];omega
   rA ⟨⟨_,A3.of (s12 _ _ e)⟩,⟨_,A3.of e2⟩,Jv (ms:=rows.zip (rows.drop 1)) (fun H x y m=>Gu K H x m.1∧Gu K H y m.2) (fun x y m H H' kt h=>⟨Ea _ _ _ _ kt h.1,Ea _ _ _ _ kt h.2⟩) (fun _ m y=>y=V.bl (goR m.1 m.2)) (fun _ _ _ _ _ h=>h) #o (A3.of (s12 _ _ e)) (A3.of e2) #o (by rw [DN];omega) ?_ ?_ ?_⟩
   ·intro i x y m hx hy hm
    obtain ⟨m1,m2⟩:=List.getElem?_zip_eq_some.mp hm
    obtain ⟨a,ha,g1⟩:=ro2.get hx
    rw [List.getElem?_drop] at hy m2
    obtain ⟨b,hb,g2⟩:=ro2.get hy
    rw [ha] at m1
    rw [hb] at m2
    cases m1
    cases m2
    eC ⟨g1,g2⟩
   ·intro x y m t H3 hM hm s3 et P hP
    have q1:=(hrw m.1 (GC hm).1)
    have q2:=(hrw m.2 (List.mem_of_mem_drop (GC hm).2))
    obtain ⟨_,a1,a2,a3,a4,_⟩:=q1
    obtain ⟨_,c1,c2,c3,c4,_⟩:=q2
    have bd:∀{i:Int},0≤i→i≤9999→Bd 20 i:=fun a b=>Dt (b:=9999) #o #o (A2 rfl)
    eC ⟨t,_,rfl,Ec.of et,rfl,_,_,rfl,_,_,rfl,rfl,rfl,m.1,m.2,hM,⟨bd #o #o,bd #o #o,bd #o #o,bd #o #o⟩,hP _ _ (Ah.refl _) rfl⟩
   intro D3 H3 zs s3 _ e3 a3
   have y3:=Aes a3
   have s13:=s12.trans s3
   rA ⟨(rows.zip (rows.drop 1)).map fun m=>goR m.1 m.2,by rw [←y3];eC A3.of e3,?_⟩
   rw [←Aaj,hc]
   rA ⟨fun h=>nb h,fun _=>⟨_,.inl (A3.of (s13 _ _ e)),fun D hD=>?_⟩⟩
   eC k D _ (s13.trans (Ap hD)) (Ci s13 hD) Ag
abbrev Rw:=Int×Q2
structure Aq7 (r:Rw):Prop where
 f0:0≤r.1
 f1:r.1≤2000000
 t0:0≤r.2.1
 tb:r.2.1≤r.2.2
 b0:0<r.2.2
 b1:r.2.2≤9999
 g:Int.gcd r.2.1 r.2.2=1
structure Tb (rows:List Rw):Prop where
 hd:∃r rs,rows=r::rs∧r.1=0
 ok:∀r∈rows,Aq7 r
 len:rows.length≤10
def TbA (K:KKf)(H:Hp)(L:Addr)(rows:List Rw):Prop:=∃vs,A3 K H L vs∧Az (Gu K H) vs rows
theorem TbA.up {K:KKf}{H H':Hp}{L:Addr}{rows:List Rw}(s:Ah H H')(h:TbA K H L rows):TbA K H' L rows:=by
 obtain ⟨vs,h1,h2⟩:=h
 eC ⟨vs,s.seq h1,h2.imp fun v g r=>Ea v g _ _ (Be s) r⟩
def TbL (K:KKf)(H:Hp)(L:Addr)(rows:List Rw):Prop:=∃vs,H L=some (.lst vs)∧Az (Gu K H) vs rows
def Jx (t b:Int)(rows:List Rw)(x:Q2):Q2:=rows.foldl (fun x r=>if r.1*b≤t then r.2 else x) x
theorem M6 {t b:Int}{r:Rw}{rows:List Rw}{x:Q2}:Jx t b (r::rows) x=Jx t b rows (if r.1*b≤t then r.2 else x):=rfl
theorem R4 (t b:Int):∀(rows:List Rw) (x:Q2),Jx t b rows x=(((rows.filter fun r=>decide (r.1*b≤t)).getLast?).map (·.2)).getD x
 |[],x=>rfl
 | r::rs,x=>by
  rw [M6,R4 t b rs]
  by_cases h:r.1*b≤t
  ·rw [AN h,GR (by simpa using h),List.getLast?_cons]
   cases (rs.filter fun r=>decide (r.1*b≤t)).getLast?<;>rfl
  ·rw [AI h,GS (by simpa using h)]
theorem Xh (t b:Int):∀(rows:List Rw) (x:Q2),Jx t b rows x=x∨∃r∈rows,Jx t b rows x=r.2
 |[],x=>.inl rfl
 | r::rs,x=>by
  rw [M6]
  rcases Xh t b rs (if r.1*b≤t then r.2 else x) with e|⟨r',h,e⟩
  ·rw [e]
   by_cases h:r.1*b≤t
   ·rw [AN h]
    eC .inr ⟨r,AK ..,rfl⟩
   ·rw [AI h]
    eC .inl rfl
  ·eC .inr ⟨r',AJ _ h,e⟩
theorem O3 {t b:Int}{rows:List Rw}(h:Tb rows)(ht:0≤t)(x:Q2):∃r∈rows,Jx t b rows x=r.2:=by
 obtain ⟨r,rs,e0,e⟩:=h.hd
 rw [e0]
 have c:r.1*b≤t:=by rw [e,Int.zero_mul];eC ht
 rw [M6,AN c]
 rcases Xh t b rs r.2 with e'|⟨r',h',e'⟩
 ·eC ⟨r,AK ..,e'⟩
 ·eC ⟨r',AJ _ h',e'⟩
def Os (rows:List Rw)(t b:Int):Q2:=if t<0 then ((Jx (-t) b rows (0,1)).2-(Jx (-t) b rows (0,1)).1,(Jx (-t) b rows (0,1)).2) else Jx t b rows (0,1)
theorem Kl {rows:List Rw}{t b:Int}(h:0≤t):Os rows t b=Jx t b rows (0,1):=AI #o
theorem Vf {rows:List Rw}{t b:Int}(h:t<0):Os rows t b=((Os rows (-t) b).2-(Os rows (-t) b).1,(Os rows (-t) b).2):=by
 rw [Kl (show 0≤-t by omega)]
 eC AN h
theorem Aea (a b:Int):Int.gcd (b-a) b=Int.gcd a b:=by
 have half:∀a b:Int,(Int.gcd a b:Int)∣(Int.gcd (b-a) b:Int):=fun a b=>by
  have h1:(Int.gcd a b:Int)∣a:=Int.gcd_dvd_left ..
  have h2:(Int.gcd a b:Int)∣b:=Int.gcd_dvd_right ..
  eC Int.dvd_coe_gcd (Int.dvd_sub h2 h1) h2
 have h:=half (b-a) b
 rw [show b-(b-a)=a by omega] at h
 eC Nat.dvd_antisymm (Int.ofNat_dvd.mp h) (Int.ofNat_dvd.mp (half a b))
theorem Anw {a b:Int}(hb:0<b)(g:Int.gcd a b=1):Qa (1*b-a*1) (1*b)=b-a∧Oc (1*b-a*1) (1*b)=b:=by
 rw [Int.one_mul,Int.mul_one]
 have g':Int.gcd (b-a) b=1:=by rw [Aea,g]
 have t:=P9 (b-a) b
 have u:=Md (b-a) b
 rw [g'] at t u
 unfold Qa Oc
 rw [AI #o,AI #o]
 eC ⟨by simpa using t,by simpa using u⟩
theorem Abu {α β:Type}{R:α→β→Prop}:∀{l:List α} {m:List β},Az R l m→∀{a:α},l.getLast? =some a→∃b,m.getLast? =some b∧R a b
 |_,_,.nil,a,h=>by simp at h
 |_,_,.cons x .nil,a,h=>by
  simp at h
  subst h
  eC ⟨_,rfl,x⟩
 |_,_,.cons x (.cons y r),a,h=>by
  rw [List.getLast?_cons_cons] at h ⊢
  eC Abu (.cons y r) h
structure FqA (n:Nat)(K:KKf)(H:Hp)(p:Addr)(a b:Int):Prop where
 at':Vt K H p [.int a,.int b]
 pos:0<b
 ba:Bd n a
 bb:Bd n b
theorem _root_.Lw.Fq.fa {n:Nat}{K:KKf}{H:Hp}{p:Addr}{a b:Int}(h:Fq n H p a b):FqA n K H p a b:=⟨.inl h.at',h.pos,h.ba,h.bb⟩
def Gx (K:KKf)(ns:List Int):Sp:=fun vs H Q _=>match vs with
 |[.ref p,.ref q]=>∃x y:Q2,(Fq 1000 H p x.1 x.2∧FqA 1000 K H q y.1 y.2)∧∀r H',Ah H H'→Ada H' r (x.1*y.2-y.1*x.2) (x.2*y.2)→Q (.ref r) H'
 |_=>False
theorem Ae2:Ai ["one","other"] ["one","other"] (Af U5):=⟨rfl,rfl,rfl,by decide +kernel,rfl,by decide +kernel,by decide +kernel⟩
local notation "#ax"=>Ba P w K mg base "minus" ["one","other"] 3 (Gx K ns)
theorem Agm (d:Bj K mg "minus" U5 ["one","other"])(er:#am)   (c_fraction:#ap):#ax:=by
 rA d.cal (k:=2) Ae2 (fun vs H Q E h=>?_) (fun f cdv A outer s H vs Q E hr h=>?_)
 ·match vs,h with
  |[.ref p,.ref q],_=>rfl
 ·match vs,h with
  | [.ref p,.ref q],hq0=>
   obtain ⟨x,y,⟨h1,h2⟩,k⟩:=hq0
   rA ⟨_,(#i (#j (#b c_fraction hr #d #r (#a (#g Xa (#g Ef (#c A0 (dv 0) Ab (fun _ _=>rfl)) (#c Bp (dv 1) Ab (fun _ _=>rfl))) (#g Ef (#c Bp (dv 1) Ab (fun _ _=>rfl)) (#c A0 (dv 0) Ab (fun _ _=>rfl)))) (#a (#g Ef (#c A0 (dv 0) Ab (fun _ _=>rfl)) (#c Bp (dv 1) Ab (fun _ _=>rfl))) Ac #r) #r) #d #r #r))),?_⟩
   eC ⟨_,h1.at',_,h2.at'.sq,Xz h1.ba h2.bb #d #d,_,h2.at'.sq,_,h1.at',Xz h2.ba h1.bb #d #d,_,h1.at',_,h2.at'.sq,Xz h1.bb h2.bb #d #d,
    ⟨HN (EB h1.pos h2.pos),(h1.bb.mul h2.bb).mono #d⟩,k⟩
def Aaf (K:KKf)(ns:List Int):Sp:=fun vs H Q _=>match vs with
 |[.ref p,.ref q]=>∃x y:Q2,(Fq 1000 H p x.1 x.2∧Fq 1000 H q y.1 y.2)∧∀r H',Ah H H'→Ada H' r (x.1*y.2+y.1*x.2) (x.2*y.2)→Q (.ref r) H'
 |_=>False
theorem Ai7:Ai ["one","other"] ["one","other"] (Af Zc):=⟨rfl,rfl,rfl,by decide +kernel,rfl,by decide +kernel,by decide +kernel⟩
local notation "#ay"=>Ba P w K mg base "plus" ["one","other"] 3 (Aaf K ns)
theorem Aht (d:Bj K mg "plus" Zc ["one","other"])(er:#am)   (c_fraction:#ap):#ay:=by
 rA d.cal (k:=2) Ai7 (fun vs H Q E h=>?_) (fun f cdv A outer s H vs Q E hr h=>?_)
 ·match vs,h with
  |[.ref p,.ref q],_=>rfl
 ·match vs,h with
  | [.ref p,.ref q],hq0=>
   obtain ⟨x,y,⟨h1,h2⟩,k⟩:=hq0
   rA ⟨_,(#i (#j (#b c_fraction hr #d #r (#a (#g Fx (#g Ef (#c A0 (dv 0) Ab (fun _ _=>rfl)) (#c A0 (dv 1) Ab (fun _ _=>rfl))) (#g Ef (#c A0 (dv 1) Ab (fun _ _=>rfl)) (#c A0 (dv 0) Ab (fun _ _=>rfl)))) (#a (#g Ef (#c A0 (dv 0) Ab (fun _ _=>rfl)) (#c A0 (dv 1) Ab (fun _ _=>rfl))) Ac #r) #r) #d #r #r))),?_⟩
   eC ⟨_,h1.at',_,h2.at',Xz h1.ba h2.bb #d #d,_,h2.at',_,h1.at',Xz h2.ba h1.bb #d #d,_,h1.at',_,h2.at',Xz h1.bb h2.bb #d #d,
    ⟨HN (EB h1.pos h2.pos),(h1.bb.mul h2.bb).mono #d⟩,k⟩
def Fb:Nat→KKf→List Int→Sp
 |0,_,_=>fun _ _ _ _=>False
 |d+1,K,ns=>fun vs H Q _=>match vs with
  |[.ref L,.ref p]=>∃(rows:List Rw) (x:Q2),(TbA K H L rows∧Tb rows∧Fq 1700 H p x.1 x.2∧(x.1<0→0<d))∧∀r H',Ah H H'→Vt K H' r [.int (Os rows x.1 x.2).1,.int (Os rows x.1 x.2).2]→Q (.ref r) H'
  |_=>False
def Nz (K:KKf)(ns:List Int):Sp:=Fb 2 K ns
theorem Ih:Ai ["table","difference","begun"] ["table","difference"] (Af Fs):=⟨rfl,rfl,rfl,by decide +kernel,rfl,by decide +kernel,by decide +kernel⟩
theorem Ui (d:Bj K mg "share_by" Fs ["table","difference"])(er:#am)   (c_under:#au)(c_minus:#ax)  (dd:Nat)(c_share_by:Ba P w K mg base "share_by" ["table","difference"] (4+dd) (Fb dd K ns)):Ba P w K mg base "share_by" ["table","difference"] (4+(dd+1)) (Fb (dd+1) K ns):=by
 rA d.cal (k:=4+dd) Ih (fun vs H Q E h=>?_) (fun f cdv A outer s H vs Q E hr h=>?_)
 ·match vs,h with
  |[.ref L,.ref p],_=>rfl
 ·match vs,h with
  | [.ref L,.ref p],hq0=>
   obtain ⟨rows,x,⟨hT,tb,f,hd⟩,k⟩:=hq0
   rA ⟨_,(#h (#m (#n Ws (#c A0 (dv 1) Ab (fun _ _=>rfl)) Ab (#w #d #d)) (#i (#j (#b c_minus hr #o #r (#a (#u (#a Ab (#a Ab Ac #r) #r)) (#a (#b c_share_by hr #o #r (#a (dv 0) (#a (#u (#a (#R Lf (#c A0 (dv 1) Ab (fun _ _=>rfl))) (#a (#c A0 (dv 1) Ab (fun _ _=>rfl)) Ac #r) #r)) Ac #r) #r) #d #r #r) Ac #r) #r) #d #r #r))) Aw) (#h (@Sy _ _ _ _ _ _ _ _ _ (2) _ _ _ _ _ _ ["row"] ["difference"] [1] rfl (#H (dv 0)) (fun C s H fp=>(#E (0) _ (show List.Nodup [("row":Str),("difference":Str)] by decide +kernel) rfl #t #t)) (fun C s H fp=>(#B (#D (#b c_under hr #o #r (#a (dv 1) (#a (#u (#a (#c (show IxR _ (Aqi K) from Bp) (dv 0) Ab (fun _ _=>rfl)) (#a Ab Ac #r) #r)) Ac #r) #r) #d #r #r) (by intro _;rfl)))) (fun C s H fp=>(dv 0)) rfl rfl #k #k #r ⟨rfl,True.intro⟩ ⟨⟨rfl,rfl,rfl,rfl⟩,True.intro⟩ Ih.nd rfl rfl (by intro _;rfl) #r) (#i (#j (#c Bp (#c Cn (dv 2) (#R Lf Ab) (fun _ _=>rfl)) Ab (fun _ _=>rfl)))))),?_⟩
   rA ⟨_,f.at',⟨fun h=>?_,fun h=>?_⟩⟩
   ·have hneg:x.1<0:=AZ h
    clear h
    cases dd with
    |zero=>eC absurd (hd hneg) #d
    |succ d' =>
     rA fun T1 H1 s1 e1=>?_
     have f1:=f.up s1
     rA ⟨_,f1.at',_,f1.at',fun T2 H2 s2 e2=>?_⟩
     have f2:Fq 1700 H2 T2 (-x.1) x.2:=⟨e2,f.pos,f.ba.neg,f.bb⟩
     rA ⟨rows,(-x.1,x.2),⟨hT.up (s1.trans s2),tb,f2,fun z=>absurd z (by show ¬(-x.1<0);omega)⟩,fun r H3 s3 e3=>?_⟩
     have ht:0≤-x.1:=by omega
     obtain ⟨m,hm,em⟩:=O3 (b:=x.2) tb ht (0,1)
     have o:=tb.ok m hm
     have em:Os rows (-x.1) x.2=m.2:=(Kl ht).trans em
     have e3:Vt K H3 r [.int m.2.1,.int m.2.2]:=by rw [←em];eC e3
     have o1:=o.t0
     have o2:=o.tb
     have o3:=o.b0
     have o4:=o.b1
     have b1:Bd 1000 m.2.1:=Dt (b:=9999) #o #o (A2 rfl)
     have b2:Bd 1000 m.2.2:=Dt (b:=9999) #o #o (A2 rfl)
     rA ⟨(1,1),m.2,⟨⟨(s2.trans s3) _ _ e1,by decide,A2 rfl,A2 rfl⟩,⟨e3,o3,b1,b2⟩⟩,fun r' H4 s4 e4=>?_⟩
     rA k r' H4 (s1.trans (s2.trans (s3.trans s4))) ?_
     obtain ⟨u1,u2⟩:=Anw o3 o.g
     have e5:=e4.at'
     rw [Vf hneg,em]
     rA .inl (e5.trans ?_)
     show some (HO.tup [V.int (Qa (1*m.2.2-m.2.1*1) (1*m.2.2)),V.int (Oc (1*m.2.2-m.2.1*1) (1*m.2.2))])=_
     rw [u1,u2]
   ·have h:=BM h
    have hnn:0≤x.1:=by omega
    clear h
    obtain ⟨vs,hx,hm⟩:=hT
    have hc:(fun r:Rw=>!ltQ x (r.1,1))=fun r:Rw=>decide (r.1*x.2≤x.1):=by
     funext r
     show (!decide (x.1*1<r.1*x.2))=decide (r.1*x.2≤x.1)
     rw [Int.mul_one]
     by_cases c:r.1*x.2≤x.1
     ·rw [AQ c,BA #o]
      rfl
     ·rw [BA c,AQ #o]
      rfl
    have fx:Fq 1900 H p x.1 x.2:=f.mono #d
    rA ⟨L,rfl,⟨_,hx⟩,Ss (Gu K) Ea (fun H r y=>Gu K H y r) (fun r y H H' kt h=>Ea y r H H' kt h) (fun r=>!ltQ x (r.1,1)) (by rw [hm.len];have:=tb.len;omega) hx hm ?_ ?_⟩
    ·intro v m H2 hM hm2 s2 P P' hP hP'
     obtain ⟨p',q',rfl,e1,e2⟩:=hM
     have o:=tb.ok m hm2
     have o1:=o.f0
     have o2:=o.f1
     have bm:Bd 1900 m.1:=Dt (b:=2000000) #o #o (A2 rfl)
     rA ⟨rfl,_,e1.sq,fun T H3 s3 e3=>⟨x.1,x.2,m.1,1,⟨.inl ((fx.up s2).up s3).at',.inl e3⟩,⟨fx.ba,fx.bb,bm,A2 rfl⟩,⟨fun h=>hP h _ _ s3 ⟨p',q',rfl,e1.up (Be s3),e2.up (Be s3)⟩,fun h=>hP' h _ s3⟩⟩⟩
    intro D H1 ys s1 d1 e1 a1
    rw [hc] at a1
    obtain ⟨r0,rs,er0,z0⟩:=tb.hd
    have c0:r0∈rows.filter fun r=>decide (r.1*x.2≤x.1):=by
     rA FG.mpr ⟨by rw [er0];eC AK ..,?_⟩
     rw [z0,Int.zero_mul]
     eC AQ hnn
    obtain ⟨m,hm⟩:∃m,(rows.filter fun r=>decide (r.1*x.2≤x.1)).getLast? =some m:=by
     cases e:(rows.filter fun r=>decide (r.1*x.2≤x.1)).getLast? with
     |none=>
      rw [List.getLast?_eq_none_iff] at e
      rw [e] at c0
      simp at c0
     |some m=>eC ⟨m,rfl⟩
    obtain ⟨v,hv,p',q',rfl,g1,g2⟩:=Abu a1 hm
    have em:Os rows x.1 x.2=m.2:=by
     rw [Kl hnn,R4,hm]
     rfl
    rA ⟨_,.ref p',A3.of e1,Xj hv,_,g1.sq,k q' H1 s1 ?_⟩
    rw [em]
    eC g2
theorem Lh (d:Bj K mg "share_by" Fs ["table","difference"])(er:#am)   (c_under:#au)(c_minus:#ax): ∀dd:Nat,Ba P w K mg base "share_by" ["table","difference"] (4+dd) (Fb dd K ns)
 |0=>d.cal (k:=3) Ih (fun vs H Q E h=>False.elim h) (fun f cdv A outer s H vs Q E hr h=>False.elim h)
 |dd+1=>Ui d er c_under c_minus dd (Lh d er c_under c_minus dd)
local notation "#az"=>Ba P w K mg base "share_by" ["table","difference"] 6 (Nz K ns)
theorem Xu (d:Bj K mg "share_by" Fs ["table","difference"])(er:#am)   (c_under:#au)(c_minus:#ax):#az:=Lh d er c_under c_minus 2
def Kn (K:KKf)(so:Int)(C:Addr):Prop:=so=0∧PySem.W.nsIn K mainGlobals "Rule"=some (some (.ref C))
structure Fds (fs:List (Str×V))(so st fi one two:Int)(T:Addr):Prop where
 st:fs.lookup ("step":Str)=some (.int st)
 fi:fs.lookup ("first":Str)=some (.int fi)
 tb:fs.lookup ("table":Str)=some (.ref T)
 sz:fs.lookup ("size":Str)=none
 bt:fs.lookup ("bit":Str)=none
 tw:fs.lookup ("twin":Str)=none
theorem Ca {K:KKf}{x:Str}{C D:Addr}(h:PySem.W.nsIn K mainGlobals x=some (some (.ref C)))(h':PySem.W.nsIn K mainGlobals x=some (some (.ref D))):C=D:=by
 rw [h] at h'
 cases h'
 rfl
def G5 (K:KKf)(ns:List Int):Sp:=fun vs H Q _=>match vs with
 |[.ref a,.int p,.int r]=>∃C dx fs st,(H a=some (.ins C dx fs)∧Ow K C∧NoAttr K C "step"∧fs.lookup ("step":Str)=some (.int st))∧Q (.int st) H
 |_=>False
theorem Tc:Ai ["self","played","rest"] ["self","played","rest"] (Af Il):=⟨rfl,rfl,rfl,by decide +kernel,rfl,by decide +kernel,by decide +kernel⟩
local notation "#aA"=>Df P w K mg base [c_Rule] [] "size" ["self","played","rest"] 1 (G5 K ns)
theorem U4 (d:Ej K [c_Rule] [] "size" "Rule.size" Il ["self","played","rest"])(er:#am)   :#aA:=by
 rA d.cal (k:=0) Tc (fun vs H Q E h=>?_) (fun f cdv A outer s H vs Q E hr h=>?_)
 ·match vs,h with
  |[.ref a,.int p,.int r],_=>rfl
 ·match vs,h with
  |[.ref a,.int p,.int r],hq0=>
   obtain ⟨C,dx,fs,st,⟨h1,h2,h3,h4⟩,q⟩:=hq0
   rA ⟨_,(#i (#j (#z (dv 0) #r))),?_⟩
   eC ⟨a,C,dx,fs,_,rfl,h1,h2,h3,h4,q⟩
theorem Iw {f:Str}{v:V}{fs:List (Str×V)}:(Bc f v fs).lookup f=some v:=by rw [F4,AN rfl]
theorem Ax {f g:Str}{v:V}{fs:List (Str×V)}{o:Option V}(ne:g≠f)(h:fs.lookup g=o):(Bc f v fs).lookup g=o:=by rw [F4,AI ne,h]
def Sx (x:Addr)(H H':Hp):Prop:=∀b o,b≠x→H b=some o→H' b=some o
theorem Sx.upd {x:Addr}{H:Hp}{o:HO}:Sx x H (upd H x o):=fun b u ne e=>by rw [Ao ne];eC e
theorem Sx.trans {x:Addr}{H H1 H2:Hp}(a:Sx x H H1)(b:Sx x H1 H2):Sx x H H2:=fun c o ne e=>b c o ne (a c o ne e)
theorem Sx.of {x:Addr}{H H':Hp}(s:Ah H H'):Sx x H H':=fun b o _ e=>s b o e
theorem Sx.kt {x C dx:Addr}{fs:List (Str×V)}{H H':Hp}(a:Sx x H H')(h:H x=some (.ins C dx fs)):Kt H H':=fun p xs e=>a p _ (fun z=>by rw [z,h] at e;cases e) e
def Aqo (st fi:Int)(T:Addr)(fs:List (Str×V)):List (Str×V):=Bc "table" (.ref T) (Bc "first" (.int fi) (Bc "step" (.int st) fs))
def C6 (K:KKf)(ns:List Int):Sp:=fun vs H Q _=>match vs with
 |[.ref x,.int st,.int fi,.ref L]=>∃C dx fs rows vs,(H x=some (.ins C dx fs)∧Ow K C∧NoAttr K C "step"∧NoAttr K C "first"∧NoAttr K C "table"∧fs.length<900∧H L=some (.lst vs)∧Az (Gu K H) vs rows∧R8 rows) ∧
  ∀T H',Sx x H H'→T≠x→H T=none→H' T=some (.lst vs)→H' x=some (.ins C dx (Aqo st fi T fs))→Q .non H'
 |_=>False
theorem M8:Ai ["self","step","first","table"] ["self","step","first","table"] (Af E3):=⟨rfl,rfl,rfl,by decide +kernel,rfl,by decide +kernel,by decide +kernel⟩
local notation "#aB"=>Df P w K mg base [c_Rule] [] "__init__" ["self","step","first","table"] 6 (C6 K ns)
theorem Mq (d:Ej K [c_Rule] [] "__init__" "Rule.__init__" E3 ["self","step","first","table"])(er:#am)   (c_table_of:#aw):#aB:=by
 rA d.cal (k:=5) M8 (fun vs H Q E h=>?_) (fun f cdv A outer s H vs Q E hr h=>?_)
 ·match vs,h with
  |[.ref x,.int st,.int fi,.ref L],_=>rfl
 ·match vs,h with
  | [.ref x,.int st,.int fi,.ref L],hq0=>
   obtain ⟨C,dx,fs,rows,vs,⟨h1,h2,n1,n2,n3,l9,hL,al,good⟩,k⟩:=hq0
   rA ⟨_,(#h (#K (dv 0) (dv 1) rfl) (#h (#K (dv 0) (dv 2) rfl) (#i (#K (dv 0) (#b c_table_of hr #d #r (#a (dv 3) Ac #r) #d #r #r) rfl)))),?_⟩
   have l1:=Cm "step" (.int st) fs
   have l2:=Cm "first" (.int fi) (Bc "step" (.int st) fs)
   have nL:L≠x:=fun z=>by rw [z,h1] at hL;cases hL
   rA ⟨x,C,dx,fs,rfl,h1,h2,n1,by omega,⟨x,C,dx,_,rfl,Ag,h2,n2,by omega,?_⟩⟩
   have s2:Sx x H (upd (upd H x (.ins C dx (Bc "step" (.int st) fs))) x (.ins C dx (Bc "first" (.int fi) (Bc "step" (.int st) fs)))):=Sx.trans Sx.upd Sx.upd
   have e2:upd (upd H x (.ins C dx (Bc "step" (.int st) fs))) x (.ins C dx (Bc "first" (.int fi) (Bc "step" (.int st) fs))) x=some (.ins C dx (Bc "first" (.int fi) (Bc "step" (.int st) fs))):=Ag
   generalize upd (upd H x (.ins C dx (Bc "step" (.int st) fs))) x (.ins C dx (Bc "first" (.int fi) (Bc "step" (.int st) fs)))=H2 at s2 e2
   have hL2:=s2 _ _ nL hL
   have al2:Az (Gu K H2) vs rows:=al.imp fun v g r=>Ea v g _ _ (s2.kt h1) r
   have lv:vs.length=rows.length:=al.len
   have lr:=good.1
   rA ⟨vs,rows,⟨hL2,al2,good⟩,fun T H3 s3 n3' e3=>?_⟩
   have nT:T≠x:=fun z=>by rw [z,e2] at n3';cases n3'
   rA ⟨x,C,dx,_,rfl,s3 _ _ e2,h2,n3,by omega,?_⟩
   rA k T _ (s2.trans (Sx.trans (Sx.of s3) Sx.upd)) nT ?_ (by rw [Ao nT];eC e3) Ag
   cases e:H T with
   |none=>rfl
   |some o=>
    rw [s2 _ _ nT e] at n3'
    cases n3'
theorem fd0 {st fi:Int}{T:Addr}{fs:List (Str×V)}(h:fs=[]):Fds (Aqo st fi T fs) 0 st fi 0 0 T:=by
 subst h
 eC ⟨Ax #k (Ax #k Iw),Ax #k Iw,Iw,Ax #k (Ax #k (Ax #k rfl)),Ax #k (Ax #k (Ax #k rfl)),Ax #k (Ax #k (Ax #k rfl))⟩
def Zd (so st one two p r:Int):Int:=if so=1∧p<two then one else if so=2∧one<r then st*two else st
structure Nb (st one two:Int):Prop where
 s0:0≤st
 s1:st≤1000000
 o0:0≤one
 o1:one≤1000001
 t0:0≤two
 t1:two≤1000001
theorem Nb.bst {st one two:Int}(h:Nb st one two):Bd 40 st:=Dt (b:=1000001) (by have:=h.s0;omega) (by have:=h.s1;omega) (A2 rfl)
theorem Nb.bon {st one two:Int}(h:Nb st one two):Bd 40 one:=Dt (b:=1000001) (by have:=h.o0;omega) h.o1 (A2 rfl)
theorem Nb.btw {st one two:Int}(h:Nb st one two):Bd 40 two:=Dt (b:=1000001) (by have:=h.t0;omega) h.t1 (A2 rfl)
theorem Agf {so st one two p r:Int}(h:Nb st one two):Bd 80 (Zd so st one two p r):=by
 unfold Zd
 split
 ·eC h.bon.mono #d
 ·split
  ·eC h.bst.mul h.btw
  ·eC h.bst.mono #d
def SzT (K:KKf)(T:List (Addr×Sp)):Prop:=∀so C,Kn K so C→∃sp,(C,sp)∈T∧∀fs st fi one two Tb,Fds fs so st fi one two Tb→Nb st one two→∀a dx H p r Q,H a=some (.ins C dx fs)→Q (.int (Zd so st one two p r)) H→sp [.ref a,.int p,.int r] H Q E0
theorem Aqh {K:KKf}{ns:List Int}{c0:Addr}(y0:PySem.W.nsIn K mainGlobals "Rule"=some (some (.ref c0)))(l0:Ow K c0)(n0:NoAttr K c0 "step"):SzT K [(c0,G5 K ns)]:=by
 rintro so C ⟨rfl,h⟩
 have z:=Ca h y0
 subst z
 rA ⟨_,.head _,fun fs st fi one two Tb f b a dx H p r Q e q=>⟨_,dx,fs,st,⟨e,l0,n0,f.st⟩,?_⟩⟩
 have:Zd 0 st one two p r=st:=by
  unfold Zd
  rw [AI (fun c=>absurd c.1 #d),AI (fun c=>absurd c.1 #d)]
 rw [this] at q
 eC q
theorem Ani {rows:List Rw}(tb:Tb rows)(t b:Int):0≤(Os rows t b).1∧(Os rows t b).1≤(Os rows t b).2∧0<(Os rows t b).2∧(Os rows t b).2≤9999:=by
 by_cases h:t<0
 ·obtain ⟨r,hr,e⟩:=O3 (b:=b) tb (show 0≤-t by omega) (0,1)
  have o:=tb.ok r hr
  have e':Os rows t b=(r.2.2-r.2.1,r.2.2):=by
   rw [Vf h,Kl (show 0≤-t by omega),e]
  rw [e']
  have o1:=o.t0
  have o2:=o.tb
  have o3:=o.b0
  have o4:=o.b1
  eC ⟨by show 0≤r.2.2-r.2.1;omega,by show r.2.2-r.2.1≤r.2.2;omega,o3,o4⟩
 ·obtain ⟨r,hr,e⟩:=O3 (b:=b) tb (show 0≤t by omega) (0,1)
  have o:=tb.ok r hr
  rw [Kl #o,e]
  eC ⟨o.t0,o.tb,o.b0,o.b1⟩
def unT (z h:Int)(x:Q2):Int:=z*(h*x.2-2*x.1)
def unB (x:Q2):Int:=2*x.2
def unQ (z h:Int)(x:Q2):Q2:=(Qa (unT z h x) (unB x),Oc (unT z h x) (unB x))
structure ShQ (x:Q2):Prop where
 t0:0≤x.1
 tb:x.1≤x.2
 b0:0<x.2
 b1:x.2≤9999
theorem Uh {rows:List Rw}(tb:Tb rows)(t b:Int):ShQ (Os rows t b):=by
 obtain ⟨h1,h2,h3,h4⟩:=Ani tb t b
 eC ⟨h1,h2,h3,h4⟩
theorem ShQ.bT {x:Q2}{z h:Int}(s:ShQ x)(hz:Bd 80 z)(h0:0≤h)(h2:h≤2):Bd 20 h∧Bd 20 x.1∧Bd 20 x.2∧Bd 40 (h*x.2-2*x.1)∧Bd 120 (unT z h x)∧Bd 40 (unB x):=by
 have s0:=s.t0
 have s1:=s.tb
 have s2:=s.b0
 have s3:=s.b1
 have b1:Bd 20 x.1:=Dt (b:=9999) #o #o (A2 rfl)
 have b2:Bd 20 x.2:=Dt (b:=9999) #o #o (A2 rfl)
 have b3:Bd 20 h:=Dt (b:=2) #o #o (A2 rfl)
 have hm:h*x.2≤2*x.2:=Int.mul_le_mul_of_nonneg_right h2 #o
 have hn:=Int.mul_nonneg h0 (show 0≤x.2 by omega)
 have b4:Bd 40 (h*x.2-2*x.1):=Dt (b:=20000) #o #o (A2 rfl)
 eC ⟨b3,b1,b2,b4,hz.mul b4,Dt (b:=20000) (by unfold unB;omega) (by unfold unB;omega) (A2 rfl)⟩
def K8 (K:KKf)(ns:List Int):Sp:=fun vs H Q _=>match vs with
 |[.int z,.ref s,.int h]=>∃x:Q2,(Vt K H s [.int x.1,.int x.2]∧ShQ x∧Bd 80 z∧0≤h∧h≤2)∧∀q H',Ah H H'→H' q=some (.tup [.int (unQ z h x).1,.int (unQ z h x).2])→Q (.ref q) H'
 |_=>False
theorem Uu:Ai ["size","share","halves"] ["size","share","halves"] (Af Ie):=⟨rfl,rfl,rfl,by decide +kernel,rfl,by decide +kernel,by decide +kernel⟩
local notation "#aC"=>Ba P w K mg base "uncut_bit" ["size","share","halves"] 3 (K8 K ns)
theorem Uz (d:Bj K mg "uncut_bit" Ie ["size","share","halves"])(er:#am)   (c_fraction:#ap):#aC:=by
 rA d.cal (k:=2) Uu (fun vs H Q E h=>?_) (fun f cdv A outer s H vs Q E hr h=>?_)
 ·match vs,h with
  |[.int z,.ref s,.int h],_=>rfl
 ·match vs,h with
  |[.int z,.ref s,.int h],hq0=>
   obtain ⟨x,⟨hs,sh,bz,h0,h2⟩,k⟩:=hq0
   rA ⟨_,(#i (#j (#b c_fraction hr #d #r (#a (#g Ef (dv 0) (#g Xa (#g Ef (dv 2) (#c Bp (dv 1) Ab (fun _ _=>rfl))) (#g Ef Ab (#c Bp (dv 1) Ab (fun _ _=>rfl))))) (#a (#g Ef Ab (#c Bp (dv 1) Ab (fun _ _=>rfl))) Ac #r) #r) #d #r #r))),?_⟩
   obtain ⟨b1,b2,b3,b4,b5,b6⟩:=sh.bT bz h0 h2
   have p:=sh.b0
   eC ⟨_,hs.sq,Xz b1 b3 #d #d,_,hs.sq,Xz (A2 (n:=20) rfl) b2 #d #d,Xz bz b4 #d #d,_,hs.sq,Xz (A2 (n:=20) rfl) b3 #d #d,⟨by show 2*x.2≠0;omega,b6.mono #d⟩,fun q H' s e=>k q H' s e.at'⟩
def Ang (x:Q2)(c:Int):Q2:=if c*x.2<x.1 then (c,1) else if x.1 < -c*x.2 then (-c,1) else x
def Aly (so st one two p r h:Int)(x:Q2):Q2:=if so=3 then Ang (unQ (Zd so st one two p r) h x) one else unQ (Zd so st one two p r) h x
def Oi (K:KKf)(H:Hp)(a:Addr)(so st fi one two:Int)(rows:List Rw):Prop:=∃C dx fs T,H a=some (.ins C dx fs)∧Kn K so C∧Fds fs so st fi one two T∧TbA K H T rows
theorem Oi.up {K:KKf}{H H':Hp}{a:Addr}{so st fi one two:Int}{rows:List Rw}(s:Ah H H'):Oi K H a so st fi one two rows→Oi K H' a so st fi one two rows:=fun ⟨C,dx,fs,T,e,k,f,t⟩=>⟨C,dx,fs,T,s _ _ e,k,f,t.up s⟩
def Jb (K:KKf)(ns:List Int):Sp:=fun vs H Q _=>match vs with
 |[.ref a,.ref d,.int h,.int p,.int r]=>∃(so st fi one two:Int) (rows:List Rw) (x:Q2),(Oi K H a so st fi one two rows∧so≠3∧Tb rows∧Nb st one two∧Fq 1700 H d x.1 x.2∧0≤h∧h≤2)∧∀q H',Ah H H'→H' q=some (.tup [.int (Aly so st one two p r h (Os rows x.1 x.2)).1,.int (Aly so st one two p r h (Os rows x.1 x.2)).2])→Q (.ref q) H'
 |_=>False
theorem Wx:Ai ["self","difference","halves","played","rest"] ["self","difference","halves","played","rest"] (Af Kq):=⟨rfl,rfl,rfl,by decide +kernel,rfl,by decide +kernel,by decide +kernel⟩
local notation "#aD"=>Df P w K mg base [c_Rule] [] "bit" ["self","difference","halves","played","rest"] 7 (Jb K ns)
theorem Ww (d:Ej K [c_Rule] [] "bit" "Rule.bit" Kq ["self","difference","halves","played","rest"])(er:#am)   (c_uncut_bit:#aC)(c_share_by:#az)(c_Rule_size:#aA):#aD:=by
 rA d.cal (k:=6) Wx (fun vs H Q E h=>?_) (fun f cdv A outer s H vs Q E hr h=>?_)
 ·match vs,h with
  |[.ref a,.ref d,.int h,.int p,.int r],_=>rfl
 ·match vs,h with
  |[.ref a,.ref d,.int h,.int p,.int r],hq0=>
   obtain ⟨so,st,fi,one,two,rows,x,⟨⟨C,dx,fs,T,e,kn,f,ht⟩,n3,tb,b,fx,h0,h2⟩,k⟩:=hq0
   rA ⟨_,(#i (#j (#b c_uncut_bit hr #d #r (#a (#U (dv 0) (#v c_Rule_size (List.Mem.head _) er.l_Rule #d Fu) hr (#a (dv 3) (#a (dv 4) Ac #r) #r) #r #r #r) (#a (#b c_share_by hr #d #r (#a (#z (dv 0) #r) (#a (dv 1) Ac #r) #r) #d #r #r) (#a (dv 2) Ac #r) #r) #r) #d #r #r))),?_⟩
   obtain ⟨sp,hm,hs⟩:=Aqh (ns:=ns) er.y_Rule er.l_Rule er.na_Rule_step so C kn
   have cn:Ow K C∧NoAttr K C "table":=Ca er.y_Rule kn.2▸⟨er.l_Rule,er.na_Rule_table⟩
   rA ⟨a,C,dx,fs,sp,rfl,e,hm,f.sz,hs fs st fi one two T f b a dx H p r _ e ?_⟩
   rA ⟨a,C,dx,fs,_,rfl,e,cn.1,cn.2,f.tb,rows,x,⟨ht,tb,fx,fun _=>by decide⟩,fun q H1 s1 e1=>?_⟩
   rA ⟨Os rows x.1 x.2,⟨e1,Uh tb _ _,Agf b,h0,h2⟩,fun q2 H2 s2 e2=>k q2 H2 (s1.trans s2) ?_⟩
   rw [show Aly so st one two p r h (Os rows x.1 x.2)=unQ (Zd so st one two p r) h (Os rows x.1 x.2) from AI n3]
   eC e2
def btQ (so one z h:Int)(x:Q2):Q2:=if so=3 then Ang (unQ z h x) one else unQ z h x
abbrev Bu:Pos:=⟨130,29,130,53⟩
abbrev Em:Str:=Str.ofString "in_order"++Str.ofString ".<locals>."++Str.ofString "<lambda>"
abbrev Bn (K:KKf):Addr:=Ta K "in_order"
def dk (gs:List Gm)(i:Nat):Int:=match gs[i]? with
 |some g=>g.d
 |none=>0
theorem Anp {key:Nat→Int}{n:Nat}{p:List Nat}(h:Jp key n p):p.Nodup:=h.2.2.imp fun {a b} l e=>by
 subst e
 rcases l with l|⟨_,l⟩
 ·eC Int.lt_irrefl _ l
 ·eC DL _ l
theorem Qi {key:Nat→Int}{n:Nat}{p:List Nat}(h:Jp key n p):p.Perm (List.range n):=by
 have nd:=Anp h
 rA (List.perm_ext_iff_of_nodup nd List.nodup_range).mpr fun i=>⟨fun hi=>BZ.mpr (h.2.1 i hi),fun hi=>?_⟩
 rA GG fun c=>?_
 have:=G9 (l:=i::p) (m:=List.range n) (DH.mpr ⟨c,nd⟩) fun x hx=>by
  rcases AU.mp hx with rfl|hx
  ·eC hi
  ·eC BZ.mpr (h.2.1 x hx)
 rw [AY,DQ,h.1] at this
 omega
theorem Qm {key:Nat→Int}{n:Nat}{p q:List Nat}(hp:Jp key n p)(hq:Jp key n q):p=q:=by
 rA List.Perm.eq_of_pairwise (le:=Lt key) (fun a b _ _ l l'=>?_) hp.2.2 hq.2.2 ((Qi hp).trans (Qi hq).symm)
 rcases l with l|⟨e,l⟩
 ·rcases l' with l'|⟨e',l'⟩<;>omega
 ·rcases l' with l'|⟨e',l'⟩<;>omega
def Mf (P:Addr)(H H':Hp):Prop:=∀b o,b≠P→H b=some o→H' b=some o
def pk (vs:List V)(p:List Nat):List V:=p.map fun i=>vs.getD i .non
theorem An9 {H:Hp}{vs:List V}{gs:List Gm}(a:Az (B7 H) vs gs){i:Nat}{v:V}(e:vs[i]? =some v):∃g,gs[i]? =some g∧B7 H v g∧dk gs i=g.d:=by
 obtain ⟨g,h1,h2⟩:=a.get e
 rA ⟨g,h1,h2,?_⟩
 unfold dk
 rw [h1]
def Fz (K:KKf)(ns:List Int):Sp:=fun vs H Q _=>match vs with
 |[.ref L]=>∃(gs:List Gm) (xs:List V),(A3 K H L xs∧Az (B7 H) xs gs∧gs.length<64∧Av H (Bn K) Bu Em)∧∀D H' p,Mf (Bn K) H H'→H D=none→H' D=some (.lst (pk xs p))→Av H' (Bn K) Bu Em→Jp (dk gs) gs.length p→Q (.ref D) H'
 |_=>False
theorem V1:Ai ["games"] ["games"] (Af Dm):=⟨rfl,rfl,rfl,by decide +kernel,rfl,by decide +kernel,by decide +kernel⟩
local notation "#aE"=>Ba P w K mg base "in_order" ["games"] 3 (Fz K ns)
theorem Wq (d:Bj K mg "in_order" Dm ["games"])(tk:Al3 K mg base "in_order")(er:#am)(n_sorted:mg "sorted"=none)  :#aE:=by
 rA d.calT (k:=2) tk V1 (fun vs H Q E h=>?_) (fun f cdv A outer s H vs Q E tf hr h=>?_)
 ·match vs,h with
  |[.ref L],_=>rfl
 ·match vs,h with
  |[.ref L],hq0=>
   obtain ⟨gs,xs,⟨hx,hm,hl,hT⟩,k⟩:=hq0
   rA ⟨_,(#i (#j (@Aho _ _ _ _ _ _ _ _ _ _ _ _ _ (0) tf hr #r n_sorted (#a (dv 0) Ac #r) #d #r (by intros;rfl)))),?_⟩
   rA ⟨L,xs,dk gs,rfl,hx,by rw [hm.len];eC hl,fun i v e=>?_,hT,fun D H2 p s d e t st=>k D H2 p s d e t (by rw [←hm.len];eC st)⟩
   obtain ⟨g,h1,⟨a,rfl,ea⟩,h3⟩:=An9 hm e
   rw [h3]
   eC ⟨a,_,rfl,ea⟩
def BtT (K:KKf)(T:List (Addr×Sp)):Prop:=∀so C,Kn K so C→∃sp,(C,sp)∈T∧∀a H st fi one two rows d h p r Q (x:Q2),Oi K H a so st fi one two rows→Tb rows→Nb st one two→Fq 1700 H d x.1 x.2→0≤h→h≤2→(∀q H',Ah H H'→H' q=some (.tup [.int (btQ so one (Zd so st one two p r) h (Os rows x.1 x.2)).1,.int (btQ so one (Zd so st one two p r) h (Os rows x.1 x.2)).2])→Q (.ref q) H')→sp [.ref a,.ref d,.int h,.int p,.int r] H Q E0
theorem Ap1 {K:KKf}{ns:List Int}{c0:Addr}(y0:PySem.W.nsIn K mainGlobals "Rule"=some (some (.ref c0))):BtT K [(c0,Jb K ns)]:=by
 rintro so C ⟨rfl,h⟩
 have z:=Ca h y0
 subst z
 eC ⟨_,.head _,fun a H st fi one two rows d h p r Q x hR tb b f h0 h2 k=>⟨0,st,fi,one,two,rows,x,⟨hR,by decide,tb,b,f,h0,h2⟩,k⟩⟩
theorem X0 {K:KKf}{H:Hp}:∀(us:List Int),Rj K H (us.map V.int) (us.map PyData.int)
 |[]=>.nil
 |u::us=>.cons (.int _) (X0 us)
theorem Abs:∀(us:List Int),PyData.canLayAll0 (us.map PyData.int)=true
 |[]=>rfl
 |u::us=>by
  show (true&&PyData.canLayAll0 (us.map PyData.int))=true
  rw [Abs us]
  rfl
theorem Aa4:∀(us:List Int),PyData.depthAll (us.map PyData.int)=0
 |[]=>rfl
 |u::us=>by
  show max 0 (PyData.depthAll (us.map PyData.int))=0
  rw [Aa4 us]
  rfl
theorem Ah8 (us:List Int):SeqAt.shaped (.list (us.map PyData.int))=true:=by
 unfold SeqAt.shaped
 have e:(PyData.list (us.map PyData.int)).depth=PyData.depthAll (us.map PyData.int)+1:=rfl
 have:=Aa4 us
 rw [show (PyData.list (us.map PyData.int)).canLay0=true from Abs us,e,FE]
 eC AQ #o
structure Ps where
 q:Q2
 n:Nat
 l:Int
abbrev Wn:=Str→Option Ps
def wq (fi:Int):Option Ps→Q2
 |some p=>p.q
 |none=>(fi,1)
def Yv:Option Ps→Nat
 |some p=>p.n
 |none=>0
def wr (d:Int):Option Ps→Int
 |some p=>d-p.l
 |none=>0
def mn (i j:Int):Int:=if j<i then j else i
def mx (i j:Int):Int:=if j>i then j else i
def lsd (d:Int):Option Int→Int
 |some l=>d-l
 |none=>0
def Ir (K:KKf)(ns:List Int):Sp:=fun vs H Q _=>match vs with
 |[.ref L,.int d]=>∃xs:List Int,H L=some (.lst (xs.map V.int))∧∀H',Ah H H'→Q (.int (lsd d xs.getLast?)) H'
 |_=>False
theorem Pz:Ai ["days","day"] ["days","day"] (Af F7):=⟨rfl,rfl,rfl,by decide +kernel,rfl,by decide +kernel,by decide +kernel⟩
local notation "#aF"=>Ba P w K mg base "rest_behind" ["days","day"] 1 (Ir K ns)
theorem Pp (d:Bj K mg "rest_behind" F7 ["days","day"])(er:#am)   :#aF:=by
 rA d.cal (k:=0) Pz (fun vs H Q E h=>?_) (fun f cdv A outer s H vs Q E hr h=>?_)
 ·match vs,h with
  |[.ref L,.int d],_=>rfl
 ·match vs,h with
  | [.ref L,.int d],hq0=>
   obtain ⟨xs,hL,k⟩:=hq0
   rA ⟨_,(#i (#j (#N (#n (#ak hr.units) (dv 0) (#M Ac) (#w #d #d)) Ab (#g Xa (dv 1) (#c Cn (dv 0) (#R Lf Ab) (fun _ _=>rfl)))))),?_⟩
   intro E0' H1 s1 e1
   have hL1:=s1 _ _ hL
   rA ⟨_,_,.lst (A3.of hL1) (X0 xs),.lst (A3.of e1) .nil,Ah8 xs,rfl,?_⟩
   cases xs with
   |nil=>eC ⟨fun _=>k H1 s1,fun h=>absurd (show PyData.eqv (.list []) (.list [])=false from h) #d⟩
   | cons x xs=>
    have ne:PyData.eqv (.list ((x::xs).map PyData.int)) (.list [])=false:=rfl
    rw [ne]
    rA ⟨fun h=>nb h,fun _=>?_⟩
    obtain ⟨l,hl⟩:∃l,(x::xs).getLast? =some l:=by
     cases c:(x::xs).getLast? with
     |none=>simp at c
     |some l=>eC ⟨l,rfl⟩
    rA ⟨_,.int l,A3.of hL1,Xj (by rw [List.getLast?_map,hl];rfl),?_⟩
    have:=k H1 s1
    rw [hl] at this
    eC this
structure Sd where
 g:Gm
 x:Q2
 y:Q2
 b:Q2
def Us (H:Hp)(v:V)(s:Sd):Prop:=∃t pg px py pb,v=.ref t∧H t=some (.tup [.ref pg,.ref px,.ref py,.ref pb])∧H pg=some (.tup [.int s.g.d,.str s.g.a,.str s.g.b,.int s.g.h,.int s.g.s])∧H px=some (.tup [.int s.x.1,.int s.x.2])∧H py=some (.tup [.int s.y.1,.int s.y.2])∧H pb=some (.tup [.int s.b.1,.int s.b.2])
theorem Qr (v:V)(s:Sd)(H H':Hp)(k:Kt H H')(h:Us H v s):Us H' v s:=by
 obtain ⟨t,pg,px,py,pb,e,h0,h1,h2,h3,h4⟩:=h
 eC ⟨t,pg,px,py,pb,e,k _ _ h0,k _ _ h1,k _ _ h2,k _ _ h3,k _ _ h4⟩
def plQ (x y:Q2):Q2:=(Qa (x.1*y.2+y.1*x.2) (x.2*y.2),Oc (x.1*y.2+y.1*x.2) (x.2*y.2))
def Y2 (x y:Q2):Q2:=(Qa (x.1*y.2-y.1*x.2) (x.2*y.2),Oc (x.1*y.2-y.1*x.2) (x.2*y.2))
structure Sq (n:Nat)(x:Q2):Prop where
 pos:0<x.2
 ba:Bd n x.1
 bb:Bd n x.2
theorem Sq.fq {n m:Nat}{H:Hp}{p:Addr}{x:Q2}(s:Sq n x)(l:n≤m)(e:H p=some (.tup [.int x.1,.int x.2])):Fq m H p x.1 x.2:=⟨e,s.pos,s.ba.mono l,s.bb.mono l⟩
def U9 (K:KKf)(ns:List Int):Sp:=fun vs H Q _=>match vs with
 |[.ref W,v]=>∃(kvs:List (B4×V)) (s:Sd),(H W=some (.dK kvs)∧kvs.length≤100∧Us H v s∧Sq 900 s.x∧Sq 900 s.y∧Sq 900 s.b)∧∀p1 p2 H',Sx W H H'→p1≠W→p2≠W→H' p1=some (.tup [.int (plQ s.x s.b).1,.int (plQ s.x s.b).2])→H' p2=some (.tup [.int (Y2 s.y s.b).1,.int (Y2 s.y s.b).2])→H' W=some (.dK (Do (Do kvs (Sum.inr s.g.a) (.ref p1)) (Sum.inr s.g.b) (.ref p2)))→Q .non H'
 |_=>False
theorem Ahp:Ai ["worths","step"] ["worths","step"] (Af Zn):=⟨rfl,rfl,rfl,by decide +kernel,rfl,by decide +kernel,by decide +kernel⟩
local notation "#aG"=>Ba P w K mg base "move" ["worths","step"] 4 (U9 K ns)
theorem Ai9 (d:Bj K mg "move" Zn ["worths","step"])(er:#am)   (c_minus:#ax)(c_plus:#ay):#aG:=by
 rA d.cal (k:=3) Ahp (fun vs H Q E h=>?_) (fun f cdv A outer s H vs Q E hr h=>?_)
 ·match vs,h with
  |[.ref W,v],_=>rfl
 ·match vs,h with
  | [.ref W,v],hq0=>
   obtain ⟨kvs,s,⟨hW,lk,⟨t,pg,px,py,pb,ev,h0,h1,h2,h3,h4⟩,sx,sy,sb⟩,k⟩:=hq0
   rA ⟨_,(#h (#ab (#V hr.units) (dv 0) (#c A0 (#c A0 (dv 1) Ab (fun _ _=>rfl)) Ab (fun _ _=>rfl)) (#b c_plus hr #d #r (#a (#c A0 (dv 1) Ab (fun _ _=>rfl)) (#a (#c A0 (dv 1) Ab (fun _ _=>rfl)) Ac #r) #r) #d #r #r) rfl) (#i (#ab (#V hr.units) (dv 0) (#c A0 (#c A0 (dv 1) Ab (fun _ _=>rfl)) Ab (fun _ _=>rfl)) (#b c_minus hr #d #r (#a (#c A0 (dv 1) Ab (fun _ _=>rfl)) (#a (#c A0 (dv 1) Ab (fun _ _=>rfl)) Ac #r) #r) #d #r #r) rfl))),?_⟩
   subst ev
   have ne:∀{b:Addr} {xs:List V},H b=some (.tup xs)→b≠W:=fun e z=>by rw [z,hW] at e;cases e
   rA ⟨_,h0,_,h0,s.x,s.b,⟨sx.fq #d h2,sb.fq #d h4⟩,fun p1 H1 s1 f1=>⟨_,s1 _ _ h0,_,s1 _ _ h1,W,_,rfl,Wd.k (k:=Sum.inr s.g.a) (s1 _ _ hW) ?_,?_⟩⟩
   ·eC BO lk #d
   have x1:Sx W H (upd H1 W (.dK (Do kvs (Sum.inr s.g.a) (.ref p1)))):=Sx.trans (Sx.of s1) Sx.upd
   have e1:upd H1 W (.dK (Do kvs (Sum.inr s.g.a) (.ref p1))) W=some (.dK (Do kvs (Sum.inr s.g.a) (.ref p1))):=Ag
   have n1:p1≠W:=fun z=>by
    have:=f1.at'
    rw [z,s1 _ _ hW] at this
    cases this
   have g1:upd H1 W (.dK (Do kvs (Sum.inr s.g.a) (.ref p1))) p1=some (.tup [.int (plQ s.x s.b).1,.int (plQ s.x s.b).2]):=by rw [Ao n1];eC f1.at'
   generalize upd H1 W (.dK (Do kvs (Sum.inr s.g.a) (.ref p1)))=H2 at x1 e1 g1
   have l1:=Du kvs (Sum.inr s.g.a) (.ref p1)
   have q0:=x1 _ _ (ne h0) h0
   have q1:=x1 _ _ (ne h1) h1
   rA ⟨_,q0,_,q0,s.y,s.b,⟨sy.fq #d (x1 _ _ (ne h3) h3),(sb.fq (m:=1000) #d (x1 _ _ (ne h4) h4)).fa⟩,fun p2 H3 s3 f3=>⟨_,s3 _ _ q0,_,s3 _ _ q1,W,_,rfl,Wd.k (k:=Sum.inr s.g.b) (s3 _ _ e1) ?_,?_⟩⟩
   ·eC BO (show _≤101 by omega) #d
   have n2:p2≠W:=fun z=>by
    have:=f3.at'
    rw [z,s3 _ _ e1] at this
    cases this
   eC k p1 p2 _ (x1.trans (Sx.trans (Sx.of s3) Sx.upd)) n1 n2 (by rw [Ao n1];eC s3 _ _ g1) (by rw [Ao n2];eC f3.at') Ag
def I0 (H:Hp)(W:Addr)(n:Nat)(u:Str→Option Q2):Prop:=∃kvs,H W=some (.dK kvs)∧kvs.length≤n∧∀x,(u x=none∧Cj kvs (Sum.inr x)=none)∨∃q p,u x=some q∧Cj kvs (Sum.inr x)=some (.ref p)∧H p=some (.tup [.int q.1,.int q.2])
def Jo (H:Hp)(D:Addr)(n:Nat)(v:Str→Option (Nat×Int)):Prop:=∃kvs,H D=some (.dK kvs)∧kvs.length≤n∧∀x,(v x=none∧Cj kvs (Sum.inr x)=none)∨∃m l p xs,v x=some (m,l)∧Cj kvs (Sum.inr x)=some (.ref p)∧H p=some (.lst ((xs:List Int).map V.int))∧xs.length=m∧xs.getLast? =some l
def wU (w:Wn):Str→Option Q2:=fun x=>(w x).map Ps.q
def wV (w:Wn):Str→Option (Nat×Int):=fun x=>(w x).map fun s=>(s.n,s.l)
theorem I0.up {H H':Hp}{W:Addr}{n:Nat}{u:Str→Option Q2}(s:Ah H H')(h:I0 H W n u):I0 H' W n u:=by
 obtain ⟨kvs,e,l,a⟩:=h
 eC ⟨kvs,s _ _ e,l,fun x=>(a x).imp id fun ⟨q,p,h1,h2,h3⟩=>⟨q,p,h1,h2,s _ _ h3⟩⟩
theorem Jo.up {H H':Hp}{W:Addr}{n:Nat}{v:Str→Option (Nat×Int)}(s:Ah H H')(h:Jo H W n v):Jo H' W n v:=by
 obtain ⟨kvs,e,l,a⟩:=h
 eC ⟨kvs,s _ _ e,l,fun x=>(a x).imp id fun ⟨m,l,p,xs,h1,h2,h3,h4⟩=>⟨m,l,p,xs,h1,h2,s _ _ h3,h4⟩⟩
theorem I0.get {H:Hp}{W T:Addr}{n:Nat}{w:Wn}{fi:Int}(h:I0 H W n (wU w))(x:Str)(e:H T=some (.tup [.int fi,.int 1])):∃o p,Hk H W (.str x) o∧o.getD (.ref T)=.ref p∧H p=some (.tup [.int (wq fi (w x)).1,.int (wq fi (w x)).2]):=by
 obtain ⟨kvs,eW,l,a⟩:=h
 have d:=Hk.k (k:=Sum.inr x) eW
 rcases a x with ⟨h1,h2⟩|⟨q,p,h1,h2,h3⟩
 ·rw [h2] at d
  have:w x=none:=FL.mp h1
  rw [this]
  eC ⟨_,T,d,rfl,e⟩
 ·rw [h2] at d
  obtain ⟨s,hs,rfl⟩:=DZ.mp h1
  rw [hs]
  eC ⟨_,p,d,rfl,h3⟩
theorem Jo.get' {H:Hp}{D T:Addr}{n:Nat}{v:Str→Option (Nat×Int)}(h:Jo H D n v)(x:Str)(e:H T=some (.lst [])):∃o p xs,Hk H D (.str x) o∧o.getD (.ref T)=.ref p∧H p=some (.lst ((xs:List Int).map V.int))∧((v x=none∧xs=[])∨∃m l,v x=some (m,l)∧xs.length=m∧xs.getLast? =some l):=by
 obtain ⟨kvs,eW,l,a⟩:=h
 have d:=Hk.k (k:=Sum.inr x) eW
 rcases a x with ⟨h1,h2⟩|⟨m,l,p,xs,h1,h2,h3,h4,h5⟩
 ·rw [h2] at d
  eC ⟨_,T,[],d,rfl,e,.inl ⟨h1,rfl⟩⟩
 ·rw [h2] at d
  eC ⟨_,p,xs,d,rfl,h3,.inr ⟨m,l,h1,h4,h5⟩⟩
theorem Jo.get {H:Hp}{D T:Addr}{n:Nat}{w:Wn}(h:Jo H D n (wV w))(x:Str)(e:H T=some (.lst [])):∃o p xs,Hk H D (.str x) o∧o.getD (.ref T)=.ref p∧H p=some (.lst ((xs:List Int).map V.int))∧xs.length=Yv (w x)∧∀d,lsd d xs.getLast? =wr d (w x):=by
 obtain ⟨o,p,xs,d,g,q,c⟩:=h.get' x e
 rA ⟨o,p,xs,d,g,q,?_⟩
 rcases c with ⟨h1,rfl⟩|⟨m,l,h1,h4,h5⟩
 ·have:w x=none:=FL.mp h1
  rw [this]
  eC ⟨rfl,fun _=>rfl⟩
 ·obtain ⟨s,hs,e⟩:=DZ.mp h1
  cases e
  rw [hs,h5]
  eC ⟨h4,fun _=>rfl⟩
def Hz (so st fi one two:Int)(rows:List Rw)(w:Wn)(g:Gm):Q2:=
 btQ so one (Zd so st one two (mn (Yv (w g.a)) (Yv (w g.b))) (mx (wr g.d (w g.a)) (wr g.d (w g.b)))) g.h (Os rows (Y2 (wq fi (w g.a)) (wq fi (w g.b))).1 (Y2 (wq fi (w g.a)) (wq fi (w g.b))).2)
theorem Amu {n m:Nat}{H:Hp}{p:Addr}{x y:Q2}(sx:Sq n x)(sy:Sq n y)(l:n+n+1≤m)(f:Ada H p (x.1*y.2-y.1*x.2) (x.2*y.2)):Fq m H p (Y2 x y).1 (Y2 x y).2:=
 (f.fq (n:=m) (HN (EB sx.pos sy.pos)) ((Bd.sub (sx.ba.mul sy.bb) (sy.ba.mul sx.bb)).mono l) ((sx.bb.mul sy.bb).mono #o))
def Lo (K:KKf)(ns:List Int):Sp:=fun vs H Q _=>match vs with
 |[.ref r,.ref W,.ref D,.ref pg]=>∃(so st fi one two:Int) (rows:List Rw) (w:Wn) (n:Nat) (g:Gm),(Oi K H r so st fi one two rows∧Tb rows∧Nb st one two∧I0 H W n (wU w)∧Jo H D n (wV w)∧H pg=some (.tup [.int g.d,.str g.a,.str g.b,.int g.h,.int g.s])∧0≤g.h∧g.h≤2∧Sq 800 (wq fi (w g.a))∧Sq 800 (wq fi (w g.b))) ∧
  ∀v H',Ah H H'→Us H' v ⟨g,wq fi (w g.a),wq fi (w g.b),Hz so st fi one two rows w g⟩→Q v H'
 |_=>False
theorem Cp:Ai ["rule","worths","days","played","before","other_before","own","others","fewest","longest"] ["rule","worths","days","played"] (Af Ic):=⟨rfl,rfl,rfl,by decide +kernel,rfl,by decide +kernel,by decide +kernel⟩
local notation "#aH"=>Ba P w K mg base "next_step" ["rule","worths","days","played"] 8 (Lo K ns)
theorem Tg (d:Bj K mg "next_step" Ic ["rule","worths","days","played"])(er:#am)(n_max:mg "max"=none)(n_min:mg "min"=none)(n_len:mg "len"=none)  (c_Rule_bit:#aD)(c_minus:#ax)(c_rest_behind:#aF):#aH:=by
 rA d.cal (k:=7) Cp (fun vs H Q E h=>?_) (fun f cdv A outer s H vs Q E hr h=>?_)
 ·match vs,h with
  |[.ref r,.ref W,.ref D,.ref pg],_=>rfl
 ·match vs,h with
  |[.ref r,.ref W,.ref D,.ref pg],hq0=>
   obtain ⟨so,st,fi,one,two,rows,w,n,g,⟨hR,tb,b,hW,hD,hg,h0,h2,sa,sb⟩,k⟩:=hq0
   rA ⟨_,(#h (#q (4) _ _ _ _ Cp.nd rfl #t (#W (#V hr.units) (dv 1) (#c A0 (dv 3) Ab (fun _ _=>rfl)) (#u (#a (#z (dv 0) #r) (#a Ab Ac #r) #r)) ⟨rfl,rfl,rfl,rfl⟩) #r #t) (#h (#q (5) _ _ _ _ Cp.nd rfl #t (#W (#V hr.units) (dv 1) (#c A0 (dv 3) Ab (fun _ _=>rfl)) (#u (#a (#z (dv 0) #r) (#a Ab Ac #r) #r)) ⟨rfl,rfl,rfl,rfl⟩) #r #t) (#h (#q (6) _ _ _ _ Cp.nd rfl #t (#W (#V hr.units) (dv 2) (#c A0 (dv 3) Ab (fun _ _=>rfl)) (#M Ac) ⟨rfl,rfl,rfl,rfl⟩) #r #t) (#h (#q (7) _ _ _ _ Cp.nd rfl #t (#W (#V hr.units) (dv 2) (#c A0 (dv 3) Ab (fun _ _=>rfl)) (#M Ac) ⟨rfl,rfl,rfl,rfl⟩) #r #t) (#h (#q (8) _ _ _ _ Cp.nd rfl #t (#l (@So _ rfl) #r n_min #k (#a (#l C9 #r n_len #k (#a (dv 6) Ac #r) #d #d #r #r) (#a (#l C9 #r n_len #k (#a (dv 7) Ac #r) #d #d #r #r) Ac #r) #r) #d #d #r #r) #r #t) (#h (#q (9) _ _ _ _ Cp.nd rfl #t (#l (@Ac8 _ rfl) #r n_max #k (#a (#b c_rest_behind hr #d #r (#a (dv 6) (#a (#c A0 (dv 3) Ab (fun _ _=>rfl)) Ac #r) #r) #d #r #r) (#a (#b c_rest_behind hr #d #r (#a (dv 7) (#a (#c A0 (dv 3) Ab (fun _ _=>rfl)) Ac #r) #r) #d #r #r) Ac #r) #r) #d #d #r #r) #r #t) (#i (#j (#u (#a (dv 3) (#a (dv 4) (#a (dv 5) (#a (#U (dv 0) (#v c_Rule_bit (List.Mem.head _) er.l_Rule #d Fu) hr (#a (#b c_minus hr #d #r (#a (dv 4) (#a (dv 5) Ac #r) #r) #d #r #r) (#a (#c A0 (dv 3) Ab (fun _ _=>rfl)) (#a (dv 8) (#a (dv 9) Ac #r) #r) #r) #r) #r #r #r) Ac #r) #r) #r) #r)))))))))),?_⟩
   have hR':=hR
   obtain ⟨C,dx,fs,T,e,kn,f,ht⟩:=hR'
   have cn:Ow K C∧NoAttr K C "first":=Ca er.y_Rule kn.2▸⟨er.l_Rule,er.na_Rule_first⟩
   have isW:∀{H':Hp},I0 H' W n (wU w)→IsD H' W:=fun ⟨kvs,z,_⟩=>.inl ⟨kvs,.inl z⟩
   have isD:∀{H':Hp},Jo H' D n (wV w)→IsD H' D:=fun ⟨kvs,z,_⟩=>.inl ⟨kvs,.inl z⟩
   rA ⟨W,rfl,isW hW,_,hg,r,C,dx,fs,_,rfl,e,cn.1,cn.2,f.fi,fun T1 H1 s1 e1=>?_⟩
   obtain ⟨o1,px,d1,g1,q1⟩:=(hW.up s1).get g.a e1
   rA ⟨o1,d1,?_⟩
   rw [g1]
   rA ⟨W,rfl,isW (hW.up s1),_,s1 _ _ hg,r,C,dx,fs,_,rfl,s1 _ _ e,cn.1,cn.2,f.fi,fun T2 H2 s2 e2=>?_⟩
   have s12:=s1.trans s2
   obtain ⟨o2,py,d2,g2,q2⟩:=(hW.up s12).get g.b e2
   rA ⟨o2,d2,?_⟩
   rw [g2]
   have hg2:=s12 _ _ hg
   rA ⟨D,rfl,isD (hD.up s12),_,hg2,fun T3 H3 s3 e3=>?_⟩
   have s13:=s12.trans s3
   obtain ⟨o3,p3,xs3,d3,g3,q3,n3,r3⟩:=(hD.up s13).get g.a e3
   rA ⟨o3,d3,?_⟩
   rw [g3]
   rA ⟨D,rfl,isD (hD.up s13),_,s13 _ _ hg,fun T4 H4 s4 e4=>?_⟩
   have s14:=s13.trans s4
   obtain ⟨o4,p4,xs4,d4,g4,q4,n4,r4⟩:=(hD.up s14).get g.b e4
   rA ⟨o4,d4,?_⟩
   rw [g4]
   have q3:=s4 _ _ q3
   rA ⟨_,.inl (A3.of q3),_,.inl (A3.of q4),_,_,rfl,?_⟩
   rw [AE,AE,n3,n4]
   rA ⟨_,s14 _ _ hg,xs3,q3,fun H5 s5=>⟨_,(s14.trans s5) _ _ hg,xs4,s5 _ _ q4,fun H6 s6=>⟨_,_,rfl,?_⟩⟩⟩
   rw [r3,r4]
   have s46:=s5.trans s6
   have s16:=s14.trans s46
   have hbt:=Ap1 (ns:=ns) er.y_Rule
   obtain ⟨Qw,hm2,hs2⟩:=hbt so C kn
   have q1:=(s2.trans (s3.trans (s4.trans s46))) _ _ q1
   have q2:=(s3.trans (s4.trans s46)) _ _ q2
   rA ⟨r,C,dx,fs,Qw,rfl,s16 _ _ e,hm2,f.bt,wq fi (w g.a),wq fi (w g.b),⟨sa.fq #d q1,(sb.fq (m:=1000) #d q2).fa⟩,fun q7 H7 s7 f7=>⟨_,(s16.trans s7) _ _ hg,?_⟩⟩
   rA hs2 r H7 st fi one two rows q7 g.h _ _ _ (Y2 (wq fi (w g.a)) (wq fi (w g.b))) (hR.up (s16.trans s7)) tb b (Amu sa sb #d f7) h0 h2 fun q8 H8 s8 e8=>fun S H9 s9 e9=>?_
   have s69:=s7.trans (s8.trans s9)
   eC k _ H9 (s16.trans s69) ⟨S,pg,px,py,q8,rfl,e9,(s16.trans s69) _ _ hg,s69 _ _ q1,s69 _ _ q2,s9 _ _ e8⟩
structure WB (i:Nat)(x:Q2):Prop where
 pos:0<x.2
 ba:Bd (121+16*i) x.1
 bb:Bd (1+15*i) x.2
structure BB (x:Q2):Prop where
 pos:0<x.2
 ba:Bd 120 x.1
 bb:Bd 15 x.2
theorem WB.mono {i j:Nat}{x:Q2}(h:WB i x)(l:i≤j):WB j x:=⟨h.pos,h.ba.mono #o,h.bb.mono #o⟩
theorem WB.sq {i n:Nat}{x:Q2}(h:WB i x)(l:121+16*i≤n):Sq n x:=⟨h.pos,h.ba.mono l,h.bb.mono #o⟩
theorem BB.sq {n:Nat}{x:Q2}(h:BB x)(l:120≤n):Sq n x:=⟨h.pos,h.ba.mono l,h.bb.mono #o⟩
theorem Aql {i:Nat}{x b:Q2}(h:WB i x)(hb:BB b):WB (i+1) (plQ x b):=by
 rA ⟨K7 _ (HN (EB h.pos hb.pos)),Ul ?_,Vb ?_⟩
 ·eC (Bd.add ((h.ba.mul hb.bb).mono (show 121+16*i+15≤136+16*i by omega)) ((hb.ba.mul h.bb).mono (show 120+(1+15*i)≤136+16*i by omega))).mono #o
 ·eC (h.bb.mul hb.bb).mono #o
theorem Ap6 {i:Nat}{x b:Q2}(h:WB i x)(hb:BB b):WB (i+1) (Y2 x b):=by
 rA ⟨K7 _ (HN (EB h.pos hb.pos)),Ul ?_,Vb ?_⟩
 ·eC (Bd.sub ((h.ba.mul hb.bb).mono (show 121+16*i+15≤136+16*i by omega)) ((hb.ba.mul h.bb).mono (show 120+(1+15*i)≤136+16*i by omega))).mono #o
 ·eC (h.bb.mul hb.bb).mono #o
theorem Agr {so st one two p r h:Int}{x:Q2}(s:ShQ x)(b:Nb st one two)(h0:0≤h)(h2:h≤2):BB (btQ so one (Zd so st one two p r) h x):=by
 obtain ⟨_,_,_,_,b5,_⟩:=s.bT (Agf (so:=so) (p:=p) (r:=r) b) h0 h2
 have s0:=s.b0
 have s1:=s.b1
 have u:BB (unQ (Zd so st one two p r) h x):=by
  rA ⟨K7 _ (by show 2*x.2≠0;omega),Ul b5,Vb ?_⟩
  eC Dt (b:=20000) (by unfold unB;omega) (by unfold unB;omega) (A2 rfl)
 unfold btQ
 split
 ·unfold Ang
  split
  ·eC ⟨(by decide:(0:Int)<1),b.bon.mono #d,A2 rfl⟩
  ·split
   ·eC ⟨(by decide:(0:Int)<1),(b.bon.mono #d).neg,A2 rfl⟩
   ·eC u
 ·eC u
def Nv (so st fi one two:Int)(rows:List Rw)(w:Wn)(g:Gm):Wn:=fun x=>
 if x=g.b then some ⟨Y2 (wq fi (w g.b)) (Hz so st fi one two rows w g),Yv (w g.b)+1,g.d⟩
 else if x=g.a then some ⟨plQ (wq fi (w g.a)) (Hz so st fi one two rows w g),Yv (w g.a)+1,g.d⟩ else w x
def Qj (so st fi one two:Int)(rows:List Rw):Wn→List Gm→List Sd
 |_,[]=>[]
 |w,g::gs=>⟨g,wq fi (w g.a),wq fi (w g.b),Hz so st fi one two rows w g⟩::Qj so st fi one two rows (Nv so st fi one two rows w g) gs
def K0 (so st fi one two:Int)(rows:List Rw)(w:Wn)(gs:List Gm):Wn:=gs.foldl (Nv so st fi one two rows) w
theorem X1 {so st fi one two:Int}{rows:List Rw}{g:Gm}:∀{gs:List Gm} {w:Wn},Qj so st fi one two rows w (gs++[g])=Qj so st fi one two rows w gs++[⟨g,wq fi (K0 so st fi one two rows w gs g.a),wq fi (K0 so st fi one two rows w gs g.b),Hz so st fi one two rows (K0 so st fi one two rows w gs) g⟩]
 |[],_=>rfl
 |x::gs,w=>by
  show _::Qj so st fi one two rows _ (gs++[g])=_::(Qj so st fi one two rows _ gs++_)
  rw [X1]
  rfl
theorem Wc {so st fi one two:Int}{rows:List Rw}{g:Gm}{gs:List Gm}{w:Wn}:K0 so st fi one two rows w (gs++[g])=Nv so st fi one two rows (K0 so st fi one two rows w gs) g:=by
 unfold K0
 rw [List.foldl_append]
 rfl
theorem Al6 {so st fi one two:Int}{rows:List Rw}{w:Wn}{g:Gm}{i:Nat}(tb:Tb rows)(b:Nb st one two)(h0:0≤g.h)(h2:g.h≤2)(h:∀x,WB i (wq fi (w x)))(x:Str):WB (i+1) (wq fi (Nv so st fi one two rows w g x)):=by
 have bb:BB (Hz so st fi one two rows w g):=Agr (Uh tb _ _) b h0 h2
 unfold Nv
 split
 ·eC Ap6 (h g.b) bb
 ·split
  ·eC Aql (h g.a) bb
  ·eC (h x).mono #o
theorem I0.put {H H':Hp}{W:Addr}{n:Nat}{u:Str→Option Q2}(h:I0 H W n u){kvs:List (B4×V)}(e:H W=some (.dK kvs)){x y:Str}(ne:x≠y){p1 p2:Addr}{q1 q2:Q2}(s:Sx W H H')(h1:H' p1=some (.tup [.int q1.1,.int q1.2]))(h2:H' p2=some (.tup [.int q2.1,.int q2.2]))
  (e':H' W=some (.dK (Do (Do kvs (Sum.inr x) (.ref p1)) (Sum.inr y) (.ref p2)))):I0 H' W (n+2) (fun z=>if z=y then some q2 else if z=x then some q1 else u z):=by
 obtain ⟨kvs',e0,l,a⟩:=h
 rw [e] at e0
 cases e0
 have l1:=Du kvs (Sum.inr x) (.ref p1)
 have l2:=Du (Do kvs (Sum.inr x) (.ref p1)) (Sum.inr y) (.ref p2)
 rA ⟨_,e',by omega,fun z=>?_⟩
 by_cases c:z=y
 ·subst c
  rA .inr ⟨q2,p2,AN rfl,?_,h2⟩
  rw [Fp,AN rfl]
 ·by_cases c':z=x
  ·subst c'
   rA .inr ⟨q1,p1,by show (if z=y then _ else if z=z then _ else _)=_;rw [AI c,AN rfl],?_,h1⟩
   rw [Fp,AI (fun w=>c (Sum.inr.inj w)),Fp,AN rfl]
  ·have vz:Cj (Do (Do kvs (Sum.inr x) (.ref p1)) (Sum.inr y) (.ref p2)) (Sum.inr z)=Cj kvs (Sum.inr z):=by
    rw [Fp,AI (fun w=>c (Sum.inr.inj w)),Fp,AI (fun w=>c' (Sum.inr.inj w))]
   rw [vz]
   show ((if z=y then _ else if z=x then _ else u z)=none∧_)∨_
   simp only [AI c,AI c']
   rcases a z with h|⟨q,p,h3,h4,h5⟩
   ·eC .inl h
   ·eC .inr ⟨q,p,h3,h4,s _ _ (fun w=>by rw [w,e] at h5;cases h5) h5⟩
theorem Jo.put {H H':Hp}{D:Addr}{n:Nat}{v:Str→Option (Nat×Int)}(h:Jo H D n v){kvs:List (B4×V)}(e:H D=some (.dK kvs)){x:Str}{p:Addr}{xs:List Int}{d:Int}(s:Sx D H H')(h1:H' p=some (.lst ((xs++[d]).map V.int)))(e':H' D=some (.dK (Do kvs (Sum.inr x) (.ref p)))) :
  Jo H' D (n+1) (fun z=>if z=x then some (xs.length+1,d) else v z):=by
 obtain ⟨kvs',e0,l,a⟩:=h
 rw [e] at e0
 cases e0
 have l1:=Du kvs (Sum.inr x) (.ref p)
 rA ⟨_,e',by omega,fun z=>?_⟩
 by_cases c:z=x
 ·subst c
  rA .inr ⟨_,d,p,_,AN rfl,?_,h1,by rw [AM];rfl,by simp⟩
  rw [Fp,AN rfl]
 ·rw [Fp,AI (fun w=>c (Sum.inr.inj w))]
  simp only [AI c]
  rcases a z with h|⟨m,l,p',xs',h3,h4,h5,h6⟩
  ·eC .inl h
  ·eC .inr ⟨m,l,p',xs',h3,h4,s _ _ (fun w=>by rw [w,e] at h5;cases h5) h5,h6⟩
def Ht (T:Addr)(H:Hp):Hp:=fun b=>if b=T then none else H b
theorem Pm {T:Addr}{H:Hp}:Ah (Ht T H) H:=fun b o e=>by
 unfold Ht at e
 split at e
 ·cases e
 ·eC e
theorem Vj {T:Addr}{H H1 H2:Hp}(s:Ah (Ht T H) H1)(t:∀b o,b≠T→H1 b=some o→H2 b=some o):Ah (Ht T H) H2:=fun b o e=>by
 have e':=e
 unfold Ht at e
 split at e
 ·cases e
 ·rename_i ne
  eC t b o ne (s b o e')
theorem Lp {T b:Addr}{H:Hp}(h:H b=none):Ht T H b=none:=by
 unfold Ht
 split
 ·rfl
 ·eC h
theorem Kk {H H':Hp}{P x:Addr}{pos:Pos}{q:Str}(h:Av H P pos q)(s:Sx x H H')(hx:(∃zs,H x=some (.lst zs))∨∃kvs,H x=some (.dK kvs)):Av H' P pos q:=by
 obtain ⟨ps,h1,h2,h3⟩:=h
 have nP:P≠x:=fun z=>by
  rcases hx with ⟨zs,e⟩|⟨kvs,e⟩<;>(rw [←z,h1] at e;cases e)
 rA ⟨ps,s _ _ nP h1,h2,h3.imp id ?_⟩
 rintro ⟨c,e1,e2⟩
 rA ⟨c,e1,s _ _ (fun z=>?_) e2⟩
 rcases hx with ⟨zs,e⟩|⟨kvs,e⟩<;>(rw [←z,e2] at e;cases e)
def pg (gs:List Gm)(p:List Nat):List Gm:=p.filterMap fun i=>gs[i]?
theorem W1 {H:Hp}{xs:List V}{gs:List Gm}(a:Az (B7 H) xs gs):∀{p:List Nat},(∀i∈p,i<gs.length)→Az (B7 H) (pk xs p) (pg gs p)
 |[],_=>.nil
 | i::p,h=>by
  have hi:=h i AK
  have r:=W1 a (p:=p) fun j hj=>h j (AJ _ hj)
  have hx:i<xs.length:=by rw [a.len];eC hi
  obtain ⟨g,g1,g2⟩:=a.get (AD hx)
  have e1:pk xs (i::p)=xs[i]::pk xs p:=by
   unfold pk
   rw [BE,BF,AD hx]
   rfl
  have e2:pg gs (i::p)=g::pg gs p:=by
   unfold pg
   rw [DT,g1]
  rw [e1,e2]
  eC .cons g2 r
theorem Qq {gs:List Gm}{p:List Nat}{g:Gm}(h:g∈pg gs p):g∈gs:=by
 obtain ⟨i,_,e⟩:=EC.mp h
 eC BH e
theorem Yr {so st fi one two:Int}{rows:List Rw}(tb:Tb rows)(b:Nb st one two)(hf:Bd 40 fi):∀{gs:List Gm},(∀g∈gs,0≤g.h∧g.h≤2)→∀{w:Wn} {i:Nat},(∀x,WB i (wq fi (w x)))→∀x,WB (i+gs.length) (wq fi (K0 so st fi one two rows w gs x))
 |[],_,_,_,h=>h
 |g::gs,hg,w,i,h=>fun x=>by
  have h1:=hg g AK
  have:=Yr (so:=so) tb b hf (gs:=gs) (fun g hg'=>hg g (AJ _ hg')) (w:=Nv so st fi one two rows w g) (i:=i+1) (Al6 tb b h1.1 h1.2 h) x
  rw [AY,show i+(gs.length+1)=i+1+gs.length by omega]
  eC this
theorem I0.kt {H H':Hp}{W:Addr}{n:Nat}{u:Str→Option Q2}(h:I0 H W n u)(k:Kt H H')(e:∀o,H W=some o→H' W=some o):I0 H' W n u:=by
 obtain ⟨kvs,e0,l,a⟩:=h
 eC ⟨kvs,e _ e0,l,fun x=>(a x).imp id fun ⟨q,p,h1,h2,h3⟩=>⟨q,p,h1,h2,k _ _ h3⟩⟩
theorem Jo.sx {H H':Hp}{D x:Addr}{n:Nat}{v:Str→Option (Nat×Int)}(h:Jo H D n v)(s:Sx x H H')(ne:D≠x)(hx:∀(xs:List Int) (l:Int),xs.getLast? =some l→H x≠some (.lst (xs.map V.int))):Jo H' D n v:=by
 obtain ⟨kvs,e0,l,a⟩:=h
 eC ⟨kvs,s _ _ ne e0,l,fun x=>(a x).imp id fun ⟨m,l,p,xs,h1,h2,h3,h4,h5⟩=>⟨m,l,p,xs,h1,h2,s _ _ (fun z=>hx xs l h5 (z▸h3)) h3,h4,h5⟩⟩
theorem Sx.kt' {x:Addr}{kvs:List (B4×V)}{H H':Hp}(a:Sx x H H')(h:H x=some (.dK kvs)):Kt H H':=fun p xs e=>a p _ (fun z=>by rw [z,h] at e;cases e) e
theorem Sx.n {x:Addr}{N H H':Hp}(a:Sx x H H')(s:Ah N H)(h:N x=none):Ah N H':=fun b o e=>a b o (fun z=>by rw [z,h] at e;cases e) (s b o e)
def V2 (w:Wn)(g:Gm):Nat→Str→Option (Nat×Int)
 |0=>wV w
 |1=>fun z=>if z=g.a then some (Yv (w g.a)+1,g.d) else wV w z
 |_=>fun z=>if z=g.b then some (Yv (w g.b)+1,g.d) else if z=g.a then some (Yv (w g.a)+1,g.d) else wV w z
theorem Akj {so st fi one two:Int}{rows:List Rw}{w:Wn}{g:Gm}:wV (Nv so st fi one two rows w g)=V2 w g 2:=by
 funext z
 unfold wV Nv V2
 by_cases c:z=g.b
 ·simp only [AN c]
  rfl
 ·by_cases c':z=g.a
  ·simp only [AI c,AN c']
   rfl
  ·simp only [AI c,AI c']
   rfl
theorem Aeg {so st fi one two:Int}{rows:List Rw}{w:Wn}{g:Gm}:wU (Nv so st fi one two rows w g)=fun z=>if z=g.b then some (Y2 (wq fi (w g.b)) (Hz so st fi one two rows w g)) else if z=g.a then some (plQ (wq fi (w g.a)) (Hz so st fi one two rows w g)) else wU w z:=by
 funext z
 unfold wU Nv
 by_cases c:z=g.b
 ·simp only [AN c]
  rfl
 ·by_cases c':z=g.a
  ·simp only [AI c,AN c']
   rfl
  ·simp only [AI c,AI c']
theorem Anj {w:Wn}{x:Str}{v:Option (Nat×Int)}(h:v=wV w x){xs:List Int}(c:(v=none∧xs=[])∨∃m l,v=some (m,l)∧xs.length=m∧xs.getLast? =some l):xs.length=Yv (w x):=by
 subst h
 rcases c with ⟨h1,rfl⟩|⟨m,l,h1,h4,h5⟩
 ·have:w x=none:=FL.mp h1
  rw [this]
  rfl
 ·obtain ⟨s,hs,e⟩:=DZ.mp h1
  cases e
  rw [hs]
  eC h4
theorem Apv {so st fi one two:Int}{rows:List Rw}{w:Wn}{g:Gm}{k:Nat}(h:∀x,Yv (w x)≤k)(x:Str):Yv (Nv so st fi one two rows w g x)≤k+1:=by
 unfold Nv
 split
 ·eC Nat.succ_le_succ (h g.b)
 ·split
  ·eC Nat.succ_le_succ (h g.a)
  ·eC Nat.le_succ_of_le (h x)
theorem Aj5 {so st fi one two:Int}{rows:List Rw}:∀{gs:List Gm} {w:Wn} {k:Nat},(∀x,Yv (w x)≤k)→∀x,Yv (K0 so st fi one two rows w gs x)≤k+gs.length
 |[],_,_,h=>h
 |g::gs,w,k,h=>fun x=>by
  have:=Aj5 (so:=so) (st:=st) (fi:=fi) (one:=one) (two:=two) (rows:=rows) (gs:=gs) (w:=Nv so st fi one two rows w g) (k:=k+1) (Apv h) x
  rw [AY,show k+(gs.length+1)=k+1+gs.length by omega]
  eC this
def Wr (K:KKf)(ns:List Int):Sp:=fun vs H Q _=>match vs with
 |[.ref r,.ref L]=>∃(so st fi one two:Int) (rows:List Rw) (gs:List Gm) (xs:List V),(Oi K (Ht (Bn K) H) r so st fi one two rows∧Tb rows∧Nb st one two∧Bd 40 fi∧A3 K (Ht (Bn K) H) L xs∧Az (B7 (Ht (Bn K) H)) xs gs∧gs.length≤40∧(∀g∈gs,(0≤g.h∧g.h≤2)∧g.a≠g.b)∧Av H (Bn K) Bu Em) ∧
  ∀D vs p H',Mf (Bn K) H H'→H D=none→H' D=some (.lst vs)→Av H' (Bn K) Bu Em→Jp (dk gs) gs.length p→Az (Us H') vs (Qj so st fi one two rows (fun _=>none) (pg gs p))→Q (.ref D) H'
 |_=>False
theorem Fk:Ai ["rule","games","steps","worths","days","played","step","name"] ["rule","games"] (Af To):=⟨rfl,rfl,rfl,by decide +kernel,rfl,by decide +kernel,by decide +kernel⟩
local notation "#aI"=>Ba P w K mg base "trail" ["rule","games"] 9 (Wr K ns)
theorem Aei (d:Bj K mg "trail" To ["rule","games"])(er:#am)   (c_in_order:#aE)(c_move:#aG)(c_next_step:#aH):#aI:=by
 rA d.cal (k:=8) Fk (fun vs H Q E h=>?_) (fun f cdv A outer s H vs Q E hr h=>?_)
 ·match vs,h with
  |[.ref r,.ref L],_=>rfl
 ·match vs,h with
  | [.ref r,.ref L],hq0=>
   obtain ⟨so,st,fi,one,two,rows,gs,xs,⟨hR,tb,b,hf,hL,al,l30,ok,tk⟩,k⟩:=hq0
   rA ⟨_,(#h (#q (2) _ _ _ _ Fk.nd rfl #t (#aj Ac) #r #t) (#h (#q (3) _ _ _ _ Fk.nd rfl #t Jj #r #t) (#h (#q (4) _ _ _ _ Fk.nd rfl #t Jj #r #t) (#h (#O DI rfl (#H (#b c_in_order hr #d #r (#a (dv 1) Ac #r) #d #r #r)) (#E (5) _ Fk.nd rfl #t #t) (#h (#q (6) _ _ _ _ Fk.nd rfl #t (#b c_next_step hr #d #r (#a (dv 0) (#a (dv 3) (#a (dv 4) (#a (dv 5) Ac #r) #r) #r) #r) #d #r #r) #r #t) (#h (#Y (#F GT PySem.F.slot_list_append PySem.F.type_list_append Ju (dv 2) (#a (dv 6) Ac #r) #r #r #r #r #r) #r) (#h (#Y (#b c_move hr #d #r (#a (dv 3) (#a (dv 6) Ac #r) #r) #d #r #r) #r) (#i (#O DI rfl (@Ak4 _ _ _ _ (#I Z7 (dv 5) (Dj Ab) (Dj Ab))) (#E (7) _ Fk.nd rfl #t #t) (#i (#ab (#V hr.units) (dv 4) (dv 7) (#g Km (#W (#V hr.units) (dv 4) (dv 7) (#aj Ac) ⟨rfl,rfl,rfl,rfl⟩) (#M (#a (#c A0 (dv 5) Ab (fun _ _=>rfl)) Ac #r))) rfl)) (by intro _;rfl)))))) (by intro _;rfl)) (#i (#j (dv 2))))))),?_⟩
   rA ⟨by decide,fun S hS=>fun W hW=>fun D hD=>?_⟩
   have s1:Ah H (upd H S (.lst [])):=Ap hS
   have s2:=s1.trans (Ap (o:=.dK []) hW)
   have s3:=s2.trans (Ap (o:=.dK []) hD)
   have nWS:W≠S:=fun z=>by rw [z,Ag] at hW;cases hW
   have nDS:D≠S:=fun z=>by rw [z,Ao (CM nWS),Ag] at hD;cases hD
   have nDW:D≠W:=fun z=>by rw [z,Ag] at hD;cases hD
   have eS:upd (upd (upd H S (.lst [])) W (.dK [])) D (.dK []) S=some (.lst []):=by rw [Ao (CM nDS),Ao (CM nWS),Ag]
   have eW:upd (upd (upd H S (.lst [])) W (.dK [])) D (.dK []) W=some (.dK []):=by rw [Ao (CM nDW),Ag]
   have eD:upd (upd (upd H S (.lst [])) W (.dK [])) D (.dK []) D=some (.dK []):=Ag
   have hW0:H W=none:=Ci s1 hW
   have hD0:H D=none:=Ci s2 hD
   generalize upd (upd (upd H S (.lst [])) W (.dK [])) D (.dK [])=H3 at s3 eS eW eD
   clear s1 s2 hW hD
   obtain ⟨N,hN⟩:∃N,N=Ht (Bn K) H:=⟨_,rfl⟩
   have sN:Ah N H:=hN▸Pm
   have sN3:=sN.trans s3
   have nS:N S=none:=hN▸Lp hS
   have nW:N W=none:=hN▸Lp hW0
   have nD:N D=none:=hN▸Lp hD0
   rw [←hN] at hR hL al
   rA ⟨gs,xs,⟨sN3.seq hL,al.imp fun v g r=>Cw v g _ _ (Be sN3) r,by omega,tk.up s3⟩,fun Dl H4 p sm nDl eDl tk4 stb=>?_⟩
   obtain ⟨ps,tt,_⟩:=tk.up s3
   have ne4:∀{b:Addr} {o:HO},H3 b=some o→(∀ps,o≠.tbl ps)→H4 b=some o:=fun e c=>sm _ _ (fun z=>c ps (by rw [z,tt] at e;eC (Option.some.inj e).symm)) e
   have sN4:Ah N H4:=by
    rw [hN]
    eC Vj (hN▸sN3) sm
   have eS4:=ne4 eS (fun _=>nofun)
   have eW4:=ne4 eW (fun _=>nofun)
   have eD4:=ne4 eD (fun _=>nofun)
   have dS:Dl≠S:=fun z=>by rw [z,eS] at nDl;cases nDl
   have dW:Dl≠W:=fun z=>by rw [z,eW] at nDl;cases nDl
   have dD:Dl≠D:=fun z=>by rw [z,eD] at nDl;cases nDl
   have aG:Az (B7 N) (pk xs p) (pg gs p):=W1 al fun i hi=>stb.2.1 i hi
   have okG:∀g∈pg gs p,(0≤g.h∧g.h≤2)∧g.a≠g.b:=fun g hg=>ok g (Qq hg)
   have lG:(pg gs p).length≤40:=by
    have:=aG.len
    have z:(pk xs p).length=p.length:=by unfold pk;rw [AE]
    have:=stb.1
    omega
   generalize hG:pg gs p=G at aG okG lG
   have w0:∀x,WB 0 (wq fi ((fun _=>none:Wn) x)):=fun x=>⟨(by decide:(0:Int)<1),hf.mono #d,A2 rfl⟩
   rA ⟨Dl,rfl,⟨_,A3.of eDl⟩,L3 (K:=K) (a:=Dl) (xs:=pk xs p) (fun i σ H'=>∃(vs:List V) (o5 o6 o7:Option V),σ=[some (.ref r),some (.ref L),some (.ref S),some (.ref W),some (.ref D),o5,o6,o7]∧Ah N H'∧Av H' (Bn K) Bu Em∧H' Dl=some (.lst (pk xs p))∧H' S=some (.lst vs)∧Az (Us H') vs (Qj so st fi one two rows (fun _=>none) (G.take i))∧I0 H' W (2*i) (wU (K0 so st fi one two rows (fun _=>none) (G.take i)))∧Jo H' D (2*i) (wV (K0 so st fi one two rows (fun _=>none) (G.take i)))) ?_ (fun i σ H' _ ⟨_,_,_,_,_,_,_,e,_⟩=>A3.of e) ?_ ?_⟩
   ·eC ⟨[],none,none,none,rfl,sN4,tk4,eDl,eS4,.nil,⟨[],eW4,AV _,fun x=>.inl ⟨rfl,rfl⟩⟩,⟨[],eD4,AV _,fun x=>.inl ⟨rfl,rfl⟩⟩⟩
   ·rintro i v σ H5 hv ⟨vs,o5,o6,o7,rfl,sN5,tk5,eDl5,eS5,aS5,ws,dy⟩
    obtain ⟨g,hg,pg',rfl,hpg⟩:=aG.get hv
    obtain ⟨⟨h0,h2⟩,ab⟩:=okG g (BH hg)
    have il:i<G.length:=(BI.mp hg).1
    have tk':G.take (i+1)=G.take i++[g]:=by rw [CI,hg];rfl
    have wb:∀x,WB i (wq fi (K0 so st fi one two rows (fun _=>none) (G.take i) x)):=fun x=>by
     have:=Yr (so:=so) tb b hf (gs:=G.take i) (fun g hg=>(okG g (EO hg)).1) w0 x
     rw [BQ,Nat.zero_add,GD (DK il)] at this
     eC this
    have wn:∀x,Yv (K0 so st fi one two rows (fun _=>none) (G.take i) x)≤40:=fun x=>by
     have:=Aj5 (so:=so) (st:=st) (fi:=fi) (one:=one) (two:=two) (rows:=rows) (gs:=G.take i) (w:=fun _=>none) (k:=0) (fun _=>AF _) x
     rw [BQ] at this
     omega
    rw [tk',X1,Wc]
    generalize K0 so st fi one two rows (fun _=>none) (G.take i)=w at ws dy wb wn
    rA ⟨so,st,fi,one,two,rows,w,2*i,g,⟨hR.up sN5,tb,b,ws,dy,sN5 _ _ hpg,h0,h2,(wb _).sq #o,(wb _).sq #o⟩,fun sv H6 s6 sd=>?_⟩
    have eS6:=s6 _ _ eS5
    have lvs:vs.length≤40:=by
     have:=aS5.len
     have z:∀(w:Wn) (l:List Gm),(Qj so st fi one two rows w l).length=l.length:=fun w l=>by
      induction l generalizing w with
      |nil=>rfl
      |cons g l ih=>show (Qj so st fi one two rows _ l).length+1=_;rw [ih];rfl
     rw [this,z,BQ]
     omega
    rA ⟨.inl ⟨rfl,_,A3.of eS6⟩,S,vs,sv,rfl,rfl,eS6,BO lvs #d,?_⟩
    have ws6:=ws.up s6
    have dy6:=dy.up s6
    have noS:∀(xs:List Int) (l:Int),xs.getLast? =some l→H6 S≠some (.lst (xs.map V.int)):=fun xs l hl z=>by
     rw [eS6] at z
     cases z
     cases xs with
     |nil=>cases hl
     |cons y xs=>
      obtain ⟨_,_,t,_,_,_,_,e,_⟩:=aS5.get (show ((y::xs).map V.int)[0]? =some (.int y) from rfl)
      cases e
    have x7:Sx S H6 (upd H6 S (.lst (vs++[sv]))):=Sx.upd
    have kt7:Kt H6 (upd H6 S (.lst (vs++[sv]))):=Mj eS6
    have sN7:Ah N (upd H6 S (.lst (vs++[sv]))):=Ff (sN5.trans s6) nS
    have tk7:Av (upd H6 S (.lst (vs++[sv]))) (Bn K) Bu Em:=Kk (tk5.up s6) x7 (.inl ⟨_,eS6⟩)
    have eDl7:upd H6 S (.lst (vs++[sv])) Dl=some (.lst (pk xs p)):=x7 _ _ dS (s6 _ _ eDl5)
    have eS7:upd H6 S (.lst (vs++[sv])) S=some (.lst (vs++[sv])):=Ag
    have aS7:Az (Us (upd H6 S (.lst (vs++[sv])))) (vs++[sv]) (Qj so st fi one two rows (fun _=>none) (G.take i)++[⟨g,wq fi (w g.a),wq fi (w g.b),Hz so st fi one two rows w g⟩]):=(aS5.imp fun v g r=>Qr v g _ _ ((Be s6).trans kt7) r).snoc (Qr _ _ _ _ kt7 sd)
    have ws7:=ws6.kt kt7 fun o e=>x7 _ _ nWS e
    have dy7:=dy6.sx x7 nDS noS
    have sd7:=Qr _ _ _ _ kt7 sd
    generalize upd H6 S (.lst (vs++[sv]))=H7 at sN7 tk7 eDl7 eS7 aS7 ws7 dy7 sd7
    clear noS
    have bb:BB (Hz so st fi one two rows w g):=Agr (Uh tb _ _) b h0 h2
    have ws7':=ws7
    obtain ⟨kvs,eW7,lk,_⟩:=ws7'
    rA ⟨kvs,⟨g,wq fi (w g.a),wq fi (w g.b),Hz so st fi one two rows w g⟩,⟨eW7,by omega,sd7,(wb _).sq #o,(wb _).sq #o,bb.sq #d⟩,fun p1 p2 H8 s8 m1 m2 q1 q2 eW8=>?_⟩
    have ws8:=ws7.put eW7 ab s8 q1 q2 eW8
    have kt8:=s8.kt' eW7
    have sN8:=s8.n sN7 nW
    have tk8:=Kk tk7 s8 (.inr ⟨_,eW7⟩)
    have eDl8:=s8 _ _ dW eDl7
    have eS8:=s8 _ _ (CM nWS) eS7
    have aS8:=aS7.imp fun v g r=>Qr v g _ _ kt8 r
    have dy8:=dy7.sx s8 nDW (fun xs l _ z=>by rw [eW7] at z;cases z)
    clear kt8 s8
    rA ⟨_,rfl,_,rfl,pg',_,rfl,Ec.of (sN8 _ _ hpg),(by show ¬(HT.sIx 5 0 (some 1)=0∧HT.sIx 5 5 (some 3)=5);decide),fun t ht=>?_⟩
    rw [show Ms [V.int g.d,V.str g.a,V.str g.b,V.int g.h,V.int g.s] (some 1) (some 3)=[V.str g.a,V.str g.b] from rfl]
    have s9:Ah H8 (upd H8 t (.tup [.str g.a,.str g.b])):=Ap ht
    have e9:upd H8 t (.tup [.str g.a,.str g.b]) t=some (.tup [.str g.a,.str g.b]):=Ag
    have ws8':I0 H8 W (2*i+2) (wU (Nv so st fi one two rows w g)):=by
     rw [Aeg]
     eC ws8
    rA ⟨t,rfl,⟨_,Ec.of e9⟩,Ahj (K:=K) (a:=t) (xs:=[.str g.a,.str g.b]) (fun j σ H'=>∃o7:Option V,σ=[some (.ref r),some (.ref L),some (.ref S),some (.ref W),some (.ref D),some (.ref pg'),some sv,o7]∧Ah N H'∧Av H' (Bn K) Bu Em∧H' t=some (.tup [.str g.a,.str g.b])∧H' Dl=some (.lst (pk xs p))∧H' S=some (.lst (vs++[sv]))∧Az (Us H') (vs++[sv]) (Qj so st fi one two rows (fun _=>none) (G.take i)++[⟨g,wq fi (w g.a),wq fi (w g.b),Hz so st fi one two rows w g⟩])∧I0 H' W (2*i+2) (wU (Nv so st fi one two rows w g))∧Jo H' D (2*i+j) (V2 w g j)) ⟨o7,rfl,sN8.trans s9,tk8.up s9,e9,s9 _ _ eDl8,s9 _ _ eS8,aS8.imp fun v g r=>Qr v g _ _ (Be s9) r,ws8'.up s9,dy8.up s9⟩ (fun j σ H' _ ⟨_,_,_,_,e,_⟩=>Ec.of e) ?_ ?_⟩
    ·rintro j u σ H10 hu ⟨o7',rfl,sNa,tka,ea,eDla,eSa,aSa,wsa,dya⟩
     obtain ⟨x,rfl,jx⟩:∃x,u=.str x∧((j=0∧x=g.a)∨(j=1∧x=g.b)):=by
      match j,hu with
      |0,hu=>cases hu;eC ⟨_,rfl,.inl ⟨rfl,rfl⟩⟩
      |1,hu=>cases hu;eC ⟨_,rfl,.inr ⟨rfl,rfl⟩⟩
     have dya':=dya
     obtain ⟨kva,eDa,lka,_⟩:=dya'
     rA ⟨D,rfl,.inl ⟨_,.inl eDa⟩,by decide,fun T0 hT0=>?_⟩
     have sb:Ah H10 (upd H10 T0 (.lst [])):=Ap hT0
     have eb:upd H10 T0 (.lst []) T0=some (.lst []):=Ag
     generalize upd H10 T0 (.lst [])=H11 at sb eb
     obtain ⟨o,pl,ys,dg,gd,ey,cy⟩:=(dya.up sb).get' x eb
     rA ⟨o,dg,?_⟩
     rw [gd]
     rA ⟨_,(sNa.trans sb) _ _ hpg,fun Lq H12 sc ec=>?_⟩
     have ly:ys.length=Yv (w x):=by
      rA Anj ?_ cy
      rcases jx with ⟨rfl,rfl⟩|⟨rfl,rfl⟩
      ·rfl
      ·eC AI (CM ab)
     have y60:ys.length≤900:=by
      have:=wn x
      omega
     rA ⟨_,_,sc _ _ ey,ec,by rw [AE];show ys.length+1≤1000;omega,fun pn H13 sd' ed=>?_⟩
     have ed:H13 pn=some (.lst ((ys++[g.d]).map V.int)):=by
      rw [ed,CB]
      rfl
     have sbd:=sb.trans (sc.trans sd')
     have eDd:=sbd _ _ eDa
     rA ⟨D,_,rfl,Wd.k (k:=Sum.inr x) eDd ?_,?_⟩
     ·eC BO (show _≤100 by omega) #d
     have xe:Sx D H13 (upd H13 D (.dK (Do kva (Sum.inr x) (.ref pn)))):=Sx.upd
     have npn:pn≠D:=fun z=>by rw [z,eDd] at ed;cases ed
     have kte:=xe.kt' eDd
     have dye:=(dya.up sbd).put eDd xe (by rw [Ao npn];eC ed) Ag
     rA ⟨_,rfl,xe.n (sNa.trans sbd) nD,Kk (tka.up sbd) xe (.inr ⟨_,eDd⟩),kte _ _ (sbd _ _ ea),xe _ _ dD (sbd _ _ eDla),xe _ _ (CM nDS) (sbd _ _ eSa),aSa.imp fun v g r=>Qr v g _ _ ((Be sbd).trans kte) r,(wsa.up sbd).kt kte fun o e=>xe _ _ (CM nDW) e,?_⟩
     rw [ly] at dye
     rcases jx with ⟨rfl,rfl⟩|⟨rfl,rfl⟩
     ·eC dye
     ·eC dye
    ·rintro σ H10 ⟨o7',rfl,sNa,tka,ea,eDla,eSa,aSa,wsa,dya⟩
     rA ⟨vs++[sv],_,_,_,rfl,sNa,tka,eDla,eSa,aSa,wsa,?_⟩
     rw [Akj]
     eC dya
   ·rintro σ H5 ⟨vs,o5,o6,o7,rfl,sN5,tk5,eDl5,eS5,aS5,ws,dy⟩
    rw [aG.len,DX,←hG] at aS5
    eC k S vs p H5 (fun b o ne e=>sN5 b o (by rw [hN];unfold Ht;rw [AI ne];eC e)) hS eS5 tk5 stb aS5
theorem Aep {T b:Addr}{H:Hp}{o:HO}{ps:Array Value}(t:H T=some (.tbl ps))(e:H b=some o)(n:∀ps,o≠.tbl ps):Ht T H b=some o:=by
 unfold Ht
 rw [AI fun z=>?_]
 ·eC e
 ·rw [z,t] at e
  eC n ps (Option.some.inj e).symm
theorem Ami {T:Addr}{H:Hp}{ps:Array Value}(t:H T=some (.tbl ps)):Kt H (Ht T H):=fun p xs e=>Aep t e fun _=>nofun
theorem Ab2 {T:Addr}{H H':Hp}(s:Ah (Ht T H) H'):Ah (Ht T H) (Ht T H'):=fun b o e=>by
 have e':=s b o e
 unfold Ht at e ⊢
 split at e
 ·cases e
 ·rename_i ne
  rw [AI ne]
  eC e'
structure Ate (nm:List Str)(gs:List Gm):Prop where
 ok:∀g∈gs,(0≤g.h∧g.h≤2)∧g.a≠g.b
 mem:∀g∈gs,g.a∈nm∧g.b∈nm
theorem Aa9 {so st fi one two:Int}{rows:List Rw}{m:List Gm}:∀{l:List Gm} {w:Wn},Qj so st fi one two rows w (l++m)=Qj so st fi one two rows w l++Qj so st fi one two rows (K0 so st fi one two rows w l) m
 |[],_=>rfl
 |x::l,w=>by
  show _::Qj so st fi one two rows _ (l++m)=_::(Qj so st fi one two rows _ l++_)
  rw [Aa9]
  rfl
theorem Uc {so st fi one two:Int}{rows:List Rw}:∀{l:List Gm} {w:Wn},(Qj so st fi one two rows w l).length=l.length
 |[],_=>rfl
 |x::l,w=>congrArg (· + 1) Uc
theorem Aiv {so st fi one two:Int}{rows:List Rw}{w:Wn}{G:List Gm}{i:Nat}{g:Gm}(h:G[i]? =some g):(Qj so st fi one two rows w G)[i]? =some ⟨g,wq fi (K0 so st fi one two rows w (G.take i) g.a),wq fi (K0 so st fi one two rows w (G.take i) g.b),Hz so st fi one two rows (K0 so st fi one two rows w (G.take i)) g⟩:=by
 obtain ⟨hi,rfl⟩:=BI.mp h
 have e:G=G.take i++G[i]::G.drop (i+1):=by
  rw [←EM hi,List.take_append_drop]
 have l:(Qj so st fi one two rows w (G.take i)).length=i:=by rw [Uc,BQ];omega
 have z:Qj so st fi one two rows w G=Qj so st fi one two rows w (G.take i)++Qj so st fi one two rows (K0 so st fi one two rows w (G.take i)) (G[i]::G.drop (i+1)):=by
  rw [←Aa9,←e]
 rw [z,BN #o,l,Nat.sub_self]
 rfl
def Ln (H:Hp)(v:V)(x:Str×Q2):Prop:=∃t p,v=.ref t∧H t=some (.tup [.str x.1,.ref p])∧H p=some (.tup [.int x.2.1,.int x.2.2])
theorem N5 (v:V)(x:Str×Q2)(H H':Hp)(k:Kt H H')(h:Ln H v x):Ln H' v x:=by
 obtain ⟨t,p,e,h0,h1⟩:=h
 eC ⟨t,p,e,k _ _ h0,k _ _ h1⟩
def Aq8 (H:Hp)(W:Addr)(l:List Str):Prop:=∃kvs,H W=some (.dK kvs)∧kvs.map (·.1)=l.map Sum.inr∧l.Nodup
def pls (gs:List Gm)(x:Str):Prop:=∃g∈gs,x=g.a∨x=g.b
theorem Ae9 {gs:List Gm}{g:Gm}{x:Str}:pls (gs++[g]) x↔(pls gs x∨x=g.a)∨x=g.b:=by
 constructor
 ·rintro ⟨g',h,c⟩
  rcases BV.mp h with h|h
  ·eC .inl (.inl ⟨g',h,c⟩)
  ·cases AW.mp h
   eC c.imp .inr id
 ·rintro ((⟨g',h,c⟩|h)|h)
  ·eC ⟨g',EL _ h,c⟩
  ·eC ⟨g,AX _ (AW.mpr rfl),.inl h⟩
  ·eC ⟨g,AX _ (AW.mpr rfl),.inr h⟩
theorem Oo {gs:List Gm}{p:List Nat}(h:Jp (dk gs) gs.length p){g:Gm}:g∈pg gs p↔g∈gs:=by
 rA ⟨Qq,fun hg=>?_⟩
 obtain ⟨i,hi,rfl⟩:=GA hg
 rA EC.mpr ⟨i,((Qi h).mem_iff).mpr (BZ.mpr hi),AD hi⟩
theorem V8 {so st fi one two:Int}{rows:List Rw}{w:Wn}{g:Gm}{x:Str}(h:(w x).isSome∨x=g.a∨x=g.b):(Nv so st fi one two rows w g x).isSome:=by
 unfold Nv
 by_cases c:x=g.b
 ·rw [AN c]
  rfl
 ·rw [AI c]
  by_cases c':x=g.a
  ·rw [AN c']
   rfl
  ·rw [AI c']
   rcases h with h|h|h
   ·eC h
   ·eC absurd h c'
   ·eC absurd h c
theorem Xe {so st fi one two:Int}{rows:List Rw}:∀{gs:List Gm} {w:Wn} {x:Str},(w x).isSome∨pls gs x→(K0 so st fi one two rows w gs x).isSome
 |[],_,_,h=>by
  rcases h with h|⟨g,h,_⟩
  ·eC h
  ·cases h
 | g::gs,w,x,h=>by
  rA Xe (gs:=gs) (w:=Nv so st fi one two rows w g) ?_
  rcases h with h|⟨g',h,c⟩
  ·eC .inl (V8 (.inl h))
  ·rcases AU.mp h with rfl|h
   ·eC .inl (V8 (.inr c))
   ·eC .inr ⟨g',h,c⟩
theorem Ab6 {H:Hp}{f:Str→Q2}:∀{l:List Str} {ys:List V},Az (fun x y=>Ln H y (x,f x)) l ys→Az (Ln H) ys (l.map fun x=>(x,f x))
 |_,_,.nil=>.nil
 |_,_,.cons h t=>.cons h (Ab6 t)
theorem Sz:∀(l:List Str),Az (fun v m=>v=V.str m) (l.map V.str) l
 |[]=>.nil
 |_::l=>.cons rfl (Sz l)
def Kj (K:KKf)(ns:List Int):Sp:=fun vs H Q _=>match vs with
 |[.ref r,.ref L]=>∃(so st fi one two:Int) (rows:List Rw) (gs:List Gm) (xs:List V),(Oi K (Ht (Bn K) H) r so st fi one two rows∧Tb rows∧Nb st one two∧Bd 40 fi∧A3 K (Ht (Bn K) H) L xs∧Az (B7 (Ht (Bn K) H)) xs gs∧gs.length≤40∧(Ge gs).length≤8∧(∀g∈gs,(0≤g.h∧g.h≤2)∧g.a≠g.b)∧Av H (Bn K) Bu Em) ∧
  ∀D vs p H',Mf (Bn K) H H'→H D=none→H' D=some (.lst vs)→Av H' (Bn K) Bu Em→Jp (dk gs) gs.length p→Az (Ln H') vs ((Ge gs).map fun x=>(x,wq fi (K0 so st fi one two rows (fun _=>none) (pg gs p) x)))→Q (.ref D) H'
 |_=>False
theorem Ko:Ai ["rule","games","worths","step"] ["rule","games"] (Af Nq):=⟨rfl,rfl,rfl,by decide +kernel,rfl,by decide +kernel,by decide +kernel⟩
local notation "#aJ"=>Ba P w K mg base "running" ["rule","games"] 10 (Kj K ns)
theorem Yc (d:Bj K mg "running" Nq ["rule","games"])(er:#am)(n_sorted:mg "sorted"=none)  (c_trail:#aI)(c_move:#aG):#aJ:=by
 rA d.cal (k:=9) Ko (fun vs H Q E h=>?_) (fun f cdv A outer s H vs Q E hr h=>?_)
 ·match vs,h with
  |[.ref r,.ref L],_=>rfl
 ·match vs,h with
  | [.ref r,.ref L],hq0=>
   obtain ⟨so,st,fi,one,two,rows,gs,xs,⟨hR,tb,b,hf,hL,al,l30,l8,ok,tk⟩,k⟩:=hq0
   rA ⟨_,(#h (#q (2) _ _ _ _ Ko.nd rfl #t Jj #r #t) (#h (#O DI rfl (#H (#b c_trail hr #d #r (#a (dv 0) (#a (dv 1) Ac #r) #r) #d #r #r)) (#E (3) _ Ko.nd rfl #t #t) (#i (#Y (#b c_move hr #d #r (#a (dv 2) (#a (dv 3) Ac #r) #r) #d #r #r) #r)) (by intro _;rfl)) (#i (#j (#s ["name"] ["worths"] [2] rfl (#H (#l Ah1 #r n_sorted #k (#a (dv 2) Ac #r) #d #d #r #r)) (fun C s H fp=>(#E (0) _ (show List.Nodup [("name":Str),("worths":Str)] by decide +kernel) rfl #t #t)) (fun C s H fp=>(#u (#a (dv 0) (#a (#ae (#V hr.units) (dv 1) (dv 0) (fun _ _=>rfl)) Ac #r) #r))) rfl rfl #k #k #r ⟨rfl,True.intro⟩ ⟨⟨rfl,rfl,rfl,rfl⟩,True.intro⟩ (by intro _;rfl)))))),?_⟩
   rA fun W hW=>?_
   have s1:Ah H (upd H W (.dK [])):=Ap hW
   have eW:upd H W (.dK []) W=some (.dK []):=Ag
   generalize upd H W (.dK [])=H1 at s1 eW
   obtain ⟨N,hN⟩:∃N,N=Ht (Bn K) H:=⟨_,rfl⟩
   have sN:Ah N H:=hN▸Pm
   have sN1:=sN.trans s1
   have nW:N W=none:=hN▸Lp hW
   rw [←hN] at hR hL al
   have tk1:=tk.up s1
   obtain ⟨ps,tt,_⟩:=id tk1
   have sO:Ah N (Ht (Bn K) H1):=by
    rw [hN] at sN1 ⊢
    eC Ab2 sN1
   rA ⟨so,st,fi,one,two,rows,gs,xs,⟨hR.up sO,tb,b,hf,sO.seq hL,al.imp fun v g r=>Cw v g _ _ (Be sO) r,l30,ok,tk1⟩,fun F vs p H2 sm nF eF tk2 stb aF=>?_⟩
   have ne2:∀{b:Addr} {o:HO},H1 b=some o→(∀ps,o≠.tbl ps)→H2 b=some o:=fun e c=>sm _ _ (fun z=>c ps (by rw [z,tt] at e;eC (Option.some.inj e).symm)) e
   have sN2:Ah N H2:=by
    rw [hN]
    eC Vj (hN▸sN1) sm
   have eW2:=ne2 eW (fun _=>nofun)
   have dF:F≠W:=fun z=>by rw [z,eW] at nF;cases nF
   have mG:∀x,pls (pg gs p) x↔pls gs x:=fun x=>⟨fun ⟨g,h,c⟩=>⟨g,(Oo stb).mp h,c⟩,fun ⟨g,h,c⟩=>⟨g,(Oo stb).mpr h,c⟩⟩
   have okG:∀g∈pg gs p,(0≤g.h∧g.h≤2)∧g.a≠g.b:=fun g hg=>ok g (Qq hg)
   have lG:(pg gs p).length≤40:=by
    have:=(W1 al fun i hi=>stb.2.1 i hi).len
    have z:(pk xs p).length=p.length:=by unfold pk;rw [AE]
    have:=stb.1
    omega
   have k:=k (p:=p)
   generalize hG:pg gs p=G at aF okG lG mG
   have w0:∀x,WB 0 (wq fi ((fun _=>none:Wn) x)):=fun x=>⟨(by decide:(0:Int)<1),hf.mono #d,A2 rfl⟩
   have lF:vs.length=G.length:=by rw [aF.len,Uc]
   rA ⟨F,rfl,⟨_,A3.of eF⟩,L3 (K:=K) (a:=F) (xs:=vs) (fun i σ H'=>∃(l:List Str) (o3:Option V),σ=[some (.ref r),some (.ref L),some (.ref W),o3]∧Ah N H'∧Av H' (Bn K) Bu Em∧H' F=some (.lst vs)∧Az (Us H') vs (Qj so st fi one two rows (fun _=>none) G)∧Aq8 H' W l∧(∀x,x∈l↔pls (G.take i) x)∧I0 H' W (2*i) (wU (K0 so st fi one two rows (fun _=>none) (G.take i)))) ?_ (fun i σ H' _ ⟨_,_,_,_,_,e,_⟩=>A3.of e) ?_ ?_⟩
   ·eC ⟨[],none,rfl,sN2,tk2,eF,aF,⟨[],eW2,rfl,.nil⟩,fun x=>⟨fun h=>by (cases h),fun ⟨g,h,_⟩=>by (cases h)⟩,⟨[],eW2,AV _,fun x=>.inl ⟨rfl,rfl⟩⟩⟩
   ·rintro i v σ H3 hv ⟨l,o3,rfl,sN3,tk3,eF3,aF3,⟨kvs,eW3,ek,nd⟩,ml,ws⟩
    have il:i<G.length:=by
     have:=(BI.mp hv).1
     omega
    have hg:G[i]? =some G[i]:=AD il
    obtain ⟨s,hs,sd⟩:=aF3.get hv
    rw [Aiv hg] at hs
    cases hs
    generalize G[i]=g at hg sd
    obtain ⟨⟨h0,h2⟩,ab⟩:=okG g (BH hg)
    have tk':G.take (i+1)=G.take i++[g]:=by rw [CI,hg];rfl
    have wb:∀x,WB i (wq fi (K0 so st fi one two rows (fun _=>none) (G.take i) x)):=fun x=>by
     have:=Yr (so:=so) tb b hf (gs:=G.take i) (fun g hg=>(okG g (EO hg)).1) w0 x
     rw [BQ,Nat.zero_add,GD (DK il)] at this
     eC this
    rw [tk',Wc]
    generalize hw:K0 so st fi one two rows (fun _=>none) (G.take i)=w at ws wb sd
    have bb:BB (Hz so st fi one two rows w g):=Agr (Uh tb _ _) b h0 h2
    have lk:kvs.length≤80:=by
     obtain ⟨kvs',e',l',_⟩:=ws
     rw [eW3] at e'
     cases e'
     omega
    rA ⟨kvs,_,⟨eW3,by omega,sd,(wb _).sq #o,(wb _).sq #o,bb.sq #d⟩,fun p1 p2 H4 s4 m1 m2 q1 q2 eW4=>?_⟩
    have ws4:=ws.put eW3 ab s4 q1 q2 eW4
    have kt4:=s4.kt' eW3
    rA ⟨dd (dd l g.a) g.b,_,rfl,s4.n sN3 nW,Kk tk3 s4 (.inr ⟨_,eW3⟩),s4 _ _ dF eF3,aF3.imp fun v g r=>Qr v g _ _ kt4 r,⟨_,eW4,Xl (Xl ek _ _) _ _,O8 (O8 nd)⟩,fun x=>?_,?_⟩
    ·rw [Zh,Zh,ml,Ae9]
    ·rw [Aeg]
     eC ws4
   rintro σ H3 ⟨l,o3,rfl,sN3,tk3,eF3,aF3,⟨kvs,eW3,ek,nd⟩,ml,ws⟩
   rw [lF,DX] at ml ws
   have el:Vu l=Ge gs:=Le (C8 _) (C8 _) fun x=>by
    rw [Fc,ml,mG]
    eC Cy.symm
   have ll:l.length≤8:=AO (G9 nd fun x hx=>by rw [←el];eC Fc.mpr hx) l8
   rA ⟨kvs,l,eW3,ek,by omega,nd,fun L0 hL0=>?_⟩
   rw [el]
   have s4:Ah H3 (upd H3 L0 (.lst ((Ge gs).map V.str))):=Ap hL0
   have e4:upd H3 L0 (.lst ((Ge gs).map V.str)) L0=some (.lst ((Ge gs).map V.str)):=Ag
   generalize upd H3 L0 (.lst ((Ge gs).map V.str))=H4 at s4 e4
   have lp:(Ge gs).length≤8:=by
    rw [←el]
    eC AO (G9 (Fd (C8 _)) fun x hx=>Fc.mp hx) ll
   rA ⟨L0,rfl,⟨_,A3.of e4⟩,Cf (fun _ v (x:Str)=>v=V.str x) (fun _ _ _ _ _ h=>h) (fun H x y=>Ln H y (x,wq fi (K0 so st fi one two rows (fun _=>none) G x))) (fun x y H H' k h=>N5 y _ H H' k h) (by rw [AE];omega) (A3.of e4) (Sz _) ?_ ?_⟩
   ·intro v x H5 hM hx s5 P hP
    subst hM
    have s35:=s4.trans s5
    have hx:pls G x:=(mG x).mpr (Cy.mp hx)
    obtain ⟨kvs',e',_,ws'⟩:=ws
    rw [eW3] at e'
    cases e'
    have hs:=Xe (so:=so) (st:=st) (fi:=fi) (one:=one) (two:=two) (rows:=rows) (w:=fun _=>none) (.inr hx)
    rcases ws' x with ⟨u1,_⟩|⟨q,pp,u1,u2,u3⟩
    ·rw [FL.mp u1] at hs
     cases hs
    ·have gx:Hk H5 W (.str x) (some (.ref pp)):=by
      have:=Hk.k (k:=Sum.inr x) (s35 _ _ eW3)
      rw [u2] at this
      eC this
     obtain ⟨sp,e1,rfl⟩:=DZ.mp u1
     rA ⟨rfl,W,_,rfl,gx,fun T H6 s6 e6=>hP _ _ s6 ⟨T,pp,rfl,e6,?_⟩⟩
     rw [e1]
     eC (s35.trans s6) _ _ u3
   intro D H5 ys s5 n5 e5 a5
   have s35:=s4.trans s5
   have sN5:=sN3.trans s35
   rA k D ys H5 (fun b o ne e=>sN5 b o (by rw [hN];unfold Ht;rw [AI ne];eC e)) ?_ e5 (tk3.up s35) stb (by rw [hG];eC Ab6 a5)
   cases c:H D with
   |none=>rfl
   | some o=>
    exfalso
    by_cases z:D=Bn K
    ·obtain ⟨ps3,t3,_⟩:=tk3.up s4
     rw [←z,n5] at t3
     cases t3
    ·have:N D=some o:=by
      rw [hN]
      unfold Ht
      rw [AI z]
      eC c
     rw [Ci (sN3.trans s4) n5] at this
     cases this
def Y0 (K:KKf):List V→Hp→VK→Prop:=fun xs H Q=>match xs with
 |[.ref p]=>∃ys,(A3 K H p ys∨Ec K H p ys)∧∀l,H l=none→Q (.ref l) (upd H l (.lst ys))
 |_=>False
theorem Ox {X:Cx}:Dg X (.type "list") (Y0 X.K):=by
 intro pins s σ H xs us Q I r h
 match xs,h with
 |[.ref p],⟨ys,h1,q⟩=>eC Ld pins s σ H _ us Q I r ⟨p,ys,rfl,h1,fun l hl=>q l hl⟩
def K3 (K:KKf)(ns:List Int):Sp:=fun vs H Q _=>match vs with
 |[.ref L]=>∃gs,(Bk K H L gs∧(Ge gs).length<64)∧∀D H',Ah H H'→H D=none→H' D=some (.lst ((Ge gs).map V.str))→Q (.ref D) H'
 |_=>False
theorem Y3:Ai ["games"] ["games"] (Af M0):=⟨rfl,rfl,rfl,by decide +kernel,rfl,by decide +kernel,by decide +kernel⟩
local notation "#aK"=>Ba P w K mg base "players" ["games"] 1 (K3 K ns)
theorem Y5 (d:Bj K mg "players" M0 ["games"])(er:#am)(n_sorted:mg "sorted"=none)(n_set:mg "set"=none)  :#aK:=by
 rA d.cal (k:=0) Y3 (fun vs H Q E h=>?_) (fun f cdv A outer s H vs Q E hr h=>?_)
 ·match vs,h with
  |[.ref L],_=>rfl
 ·match vs,h with
  | [.ref L],hq0=>
   obtain ⟨gs,⟨⟨vs,hx,hm,hl⟩,h64⟩,k⟩:=hq0
   rA ⟨_,(#i (#j (@Yx _ _ _ _ _ _ _ #r n_sorted #r n_set (#g Km (#s ["played"] [] [] rfl (#H (dv 0)) (fun C s H fp=>(#E (0) _ (show List.Nodup [("played":Str)] by decide +kernel) rfl #t #t)) (fun C s H fp=>(#c A0 (dv 0) Ab (fun _ _=>rfl))) rfl rfl #k #k #r True.intro True.intro (by intro _;rfl)) (#s ["played"] [] [] rfl (#H (dv 0)) (fun C s H fp=>(#E (0) _ (show List.Nodup [("played":Str)] by decide +kernel) rfl #t #t)) (fun C s H fp=>(#c A0 (dv 0) Ab (fun _ _=>rfl))) rfl rfl #k #k #r True.intro True.intro (by intro _;rfl))) #r #r #r))),?_⟩
   have hz:vs.length≤1000:=by rw [hm.len];omega
   rA ⟨L,rfl,⟨_,hx⟩,Cf B7 Cw (fun _ g y=>y=V.str g.a) (fun _ _ _ _ _ h=>h) hz hx hm ?_ ?_⟩
   ·intro v m H2 hM _ s2 P hP
    obtain ⟨p,rfl,e⟩:=hM
    eC ⟨rfl,_,e,hP _ _ (Ah.refl _) rfl⟩
   intro D1 H1 ys1 s1 _ e1 a1
   have y1:=Gs a1
   have hm1:Az (B7 H1) vs gs:=hm.imp fun v g r=>Cw v g _ _ (Be s1) r
   rA ⟨L,rfl,⟨_,s1.seq hx⟩,Cf B7 Cw (fun _ g y=>y=V.str g.b) (fun _ _ _ _ _ h=>h) hz (s1.seq hx) hm1 ?_ ?_⟩
   ·intro v m H2 hM _ s2 P hP
    obtain ⟨p,rfl,e⟩:=hM
    eC ⟨rfl,_,e,hP _ _ (Ah.refl _) rfl⟩
   intro D2 H2 ys2 s2 _ e2 a2
   have y2:=Gs a2
   have l1:=a1.len
   have l2:=a2.len
   rA ⟨_,_,s2 _ _ e1,e2,by omega,fun D3 H3 s3 e3=>⟨gs.map (·.a)++gs.map (·.b),A3.of ?_,?_,h64,fun D hD=>?_⟩⟩
   ·rw [e3,y1,y2,CB]
   ·rw [AM,AE,AE]
    omega
   ·have s:=s1.trans (s2.trans s3)
    eC k D _ (s.trans (Ap hD)) (Ci s hD) Ag
abbrev En:=Int×Gm
def Pi (H:Hp)(kv:B4×V)(e:En):Prop:=kv.1=Sum.inl e.1∧B7 H kv.2 e.2
theorem Iy (kv:B4×V)(e:En)(H H':Hp)(k:Kt H H')(h:Pi H kv e):Pi H' kv e:=⟨h.1,Cw _ _ _ _ k h.2⟩
def Oh (es:List En):Prop:=es.Pairwise fun a b=>a.1<b.1
def Alp (H:Hp)(A:Addr)(es:List En):Prop:=∃kvs,H A=some (.dK kvs)∧Az (Pi H) kvs es
theorem Uj {H:Hp}:∀{kvs:List (B4×V)} {es:List En},Az (Pi H) kvs es→Az (B7 H) (kvs.map (·.2)) (es.map (·.2))
 |_,_,.nil=>.nil
 |_,_,.cons h t=>.cons h.2 (Uj t)
theorem Abe {H:Hp}:∀{kvs:List (B4×V)} {es:List En},Az (Pi H) kvs es→kvs.map (·.1)=es.map fun e=>(Sum.inl e.1:B4)
 |_,_,.nil=>rfl
 |_,_,.cons h t=>by rw [BE,BE,h.1,Abe t]
theorem Uo {e:En}{es:List En}(h:Oh (e::es)):∀x∈es,x.1≠e.1:=fun x hx=>by
 have:=(BY.mp h).1 x hx
 omega
theorem Pn {H:Hp}:∀{kvs:List (B4×V)} {es:List En},Az (Pi H) kvs es→Oh es→∀{n:Int} {g:Gm},(n,g)∈es→∃v,Cj kvs (Sum.inl n)=some v∧B7 H v g
 | _,_,.cons (a:=kv) (b:=e) h t,hi,n,g,hm=>by
  rcases AU.mp hm with e'|hm
  ·rA ⟨kv.2,Cv (by rw [h.1,←e']),?_⟩
   have:=h.2
   rw [←e'] at this
   eC this
  ·obtain ⟨v,h1,h2⟩:=Pn t (BY.mp hi).2 hm
   rA ⟨v,?_,h2⟩
   rw [Cg]
   ·eC h1
   ·rw [h.1]
    intro z
    have:=Uo hi _ hm
    eC this (Sum.inl.inj z).symm
theorem Uy {H:Hp}:∀{kvs:List (B4×V)} {es:List En},Az (Pi H) kvs es→∀{n:Int},(∀e∈es,e.1≠n)→Cj kvs (Sum.inl n)=none
 |_,_,.nil,_,_=>rfl
 | _,_,.cons (a:=kv) (b:=e) h t,n,hn=>by
  rw [Cg]
  ·eC Uy t fun e he=>hn e (AJ _ he)
  ·rw [h.1]
   intro z
   eC hn e AK (Sum.inl.inj z)
theorem Abc {H:Hp}:∀{kvs:List (B4×V)} {es:List En},Az (Pi H) kvs es→∀(n:Int),Az (Pi H) (Gn kvs (Sum.inl n)) (es.filter fun e=>decide (e.1≠n))
 |_,_,.nil,_=>.nil
 | _,_,.cons (a:=kv) (b:=e) h t,n=>by
  have ih:=Abc t n
  unfold Gn at ih ⊢
  by_cases c:e.1=n
  ·rw [GS (by rw [h.1,c];simp),GS (by simp [c])]
   eC ih
  ·rw [GR (by rw [h.1];simp [c]),GR (by simp [c])]
   eC .cons h ih
def Yn (es:List En)(n:Int)(g0:Gm):List En:=es.filter fun e=>gt2 e.2.d e.1 g0.d n
theorem Mu:∀{es:List En},Oh es→∀{e e':En},e∈es→e'∈es→e.1=e'.1→e=e'
 |[],_,_,_,he,_,_=>absurd he FT
 | x::es,h,e,e',he,he',z=>by
  rcases AU.mp he with h1|h1
  ·rcases AU.mp he' with h2|h2
   ·rw [h1,h2]
   ·rw [h1] at z
    eC absurd z.symm (Uo h _ h2)
  ·rcases AU.mp he' with h2|h2
   ·rw [h2] at z
    eC absurd z (Uo h _ h1)
   ·eC Mu (BY.mp h).2 h1 h2 z
def cB (es:List En)(n:Int)(g0:Gm):B4→Bool
 |.inl m=>es.any fun e=>decide (e.1=m)&&gt2 e.2.d e.1 g0.d n
 |.inr _=>false
theorem Aj7 {es:List En}(h:Oh es){n:Int}{g0:Gm}{e:En}(he:e∈es):cB es n g0 (Sum.inl e.1)=gt2 e.2.d e.1 g0.d n:=by
 unfold cB
 rw [FH,List.any_eq_true]
 constructor
 ·rintro ⟨x,hx,c⟩
  rw [BR] at c
  have:=Mu h hx he (AZ c.1)
  subst this
  eC c.2
 ·intro c
  eC ⟨e,he,by rw [BR];eC ⟨AQ rfl,c⟩⟩
theorem Aij {es:List En}(h:Oh es){n:Int}{g0:Gm}:(es.map fun e=>(Sum.inl e.1:B4)).filter (cB es n g0)=(Yn es n g0).map fun e=>(Sum.inl e.1:B4):=by
 rw [List.filter_map]
 unfold Yn
 congr 1
 eC List.filter_congr fun e he=>Aj7 h he
theorem Aai {H:Hp}{es:List En}:∀{l:List En} {ys:List V},(∀e∈l,e∈es)→Az (fun (x:B4) y=>∀e∈es,x=Sum.inl e.1→B7 H y e.2) (l.map fun e=>(Sum.inl e.1:B4)) ys→Az (B7 H) ys (l.map (·.2))
 |[],_,_,.nil=>.nil
 |e::l,_,hl,.cons h t=>.cons (h e (hl e AK) rfl) (Aai (fun e he=>hl e (AJ _ he)) t)
def R3 (K:KKf)(ns:List Int):Sp:=fun vs H Q _=>match vs with
 |[.ref A,.int n]=>∃(es:List En) (g0:Gm),(Alp H A es∧Oh es∧es.length≤40∧(n,g0)∈es∧Av H (Bn K) Bu Em) ∧
  ∀D vs H' p,Mf (Bn K) H H'→H D=none→H' D=some (.lst vs)→Av H' (Bn K) Bu Em→Jp (dk ((Yn es n g0).map (·.2))) ((Yn es n g0).map (·.2)).length p→Az (B7 H') vs (pg ((Yn es n g0).map (·.2)) p)→Q (.ref D) H'
 |_=>False
theorem Sw:Ai ["kept","number","place"] ["kept","number"] (Af Qc):=⟨rfl,rfl,rfl,by decide +kernel,rfl,by decide +kernel,by decide +kernel⟩
local notation "#aL"=>Ba P w K mg base "behind" ["kept","number"] 4 (R3 K ns)
theorem Acn (d:Bj K mg "behind" Qc ["kept","number"])(er:#am)   (c_in_order:#aE):#aL:=by
 rA d.cal (k:=3) Sw (fun vs H Q E h=>?_) (fun f cdv A outer s H vs Q E hr h=>?_)
 ·match vs,h with
  |[.ref A,.int n],_=>rfl
 ·match vs,h with
  | [.ref A,.int n],hq0=>
   obtain ⟨es,g0,⟨⟨kvs,eA,al⟩,hi,l40,hn,tk⟩,k⟩:=hq0
   rA ⟨_,(#h (#q (2) _ _ _ _ Sw.nd rfl #t (#u (#a (#c A0 (#ae (#V hr.units) (dv 0) (dv 1) (fun _ _=>rfl)) Ab (fun _ _=>rfl)) (#a (dv 1) Ac #r) #r)) #r #t) (#i (#j (#b c_in_order hr #d #r (#a (@Aiz _ _ _ (@Ael _ _ _ _ _ _ _ _ _ _ _ _ ["other"] ["kept","place"] [0,2] rfl (@Aed _ _ _ _ (dv 0)) (fun C s H fp=>(#E (0) _ (show List.Nodup [("other":Str),("kept":Str),("place":Str)] by decide +kernel) rfl #t #t)) (fun C s H fp=>(#n (show Dy _ _ Ao3 from (Ao7 hr.units)) (#u (#a (#c A0 (#ae (#V hr.units) (dv 1) (dv 0) (fun _ _=>rfl)) Ab (fun _ _=>rfl)) (#a (dv 0) Ac #r) #r)) (dv 2) (#w #d #d))) (fun C s H fp=>(#ae (#V hr.units) (dv 1) (dv 0) (fun _ _=>rfl))) rfl rfl #k #k #r ⟨rfl,⟨rfl,True.intro⟩⟩ ⟨⟨rfl,rfl,rfl,rfl⟩,⟨⟨rfl,rfl,rfl,rfl⟩,True.intro⟩⟩ (by intro _;rfl))) Ac #r) #d #r #r)))),?_⟩
   obtain ⟨v0,hv0,p0,rfl,hp0⟩:=Pn al hi hn
   have dg:∀{H':Hp} {m:Int},Rd H' A (.dK kvs)→Hk H' A (.int m) (Cj kvs (Sum.inl m)):=fun e=>.inl ⟨kvs,Sum.inl _,e,rfl,rfl⟩
   have g1:=dg (m:=n) (.inl eA)
   rw [hv0] at g1
   rA ⟨A,_,rfl,g1,_,hp0,fun P H1 s1 e1=>?_⟩
   have eA1:=s1 _ _ eA
   rA ⟨A,kvs,rfl,eA1,fun o=>?_⟩
   have x2:Sx A H1 (upd H1 A (.frz o (.dK kvs))):=Sx.upd
   have e2:upd H1 A (.frz o (.dK kvs)) A=some (.frz o (.dK kvs)):=Ag
   have kt2:Kt H1 (upd H1 A (.frz o (.dK kvs))):=x2.kt' eA1
   have eP2:=kt2 _ _ e1
   have al2:Az (Pi (upd H1 A (.frz o (.dK kvs)))) kvs es:=al.imp fun kv e r=>Iy kv e _ _ ((Be s1).trans kt2) r
   generalize upd H1 A (.frz o (.dK kvs))=H2 at x2 e2 kt2 eP2 al2
   have kl:kvs.length≤40:=by rw [al.len];eC l40
   have ek:=Abe al
   rA Wz (fun H x y=>∀e∈es,x=Sum.inl e.1→B7 H y e.2) (fun x y H H' kt h e he z=>Cw _ _ _ _ kt (h e he z)) (cB es n g0) #o e2 ?_ ?_
   ·intro x H3 hx s3 P3 P3' hP hP'
    rw [ek] at hx
    obtain ⟨e,he,rfl⟩:=BG.mp hx
    obtain ⟨v,hv,p,rfl,hp⟩:=Pn (al2.imp fun kv e r=>Iy kv e _ _ (Be s3) r) hi he
    have gx:=dg (m:=e.1) (.inr ⟨o,s3 _ _ e2⟩)
    rw [hv] at gx
    have hP:=hP
    rw [Aj7 hi he] at hP hP'
    have un:∀{H':Hp},B7 H' (.ref p) e.2→∀e'∈es,(Sum.inl e.1:B4)=Sum.inl e'.1→B7 H' (.ref p) e'.2:=fun hg e' he' z=>by
     have:=Mu hi he he' (Sum.inl.inj z)
     subst this
     eC hg
    rA ⟨rfl,A,_,rfl,gx,_,hp,fun T H4 s4 e4=>⟨e.2.d,e.1,g0.d,n,e4,s4 _ _ (s3 _ _ eP2),⟨fun h=>?_,fun h=>hP' h _ s4⟩⟩⟩
    have gx4:=dg (m:=e.1) (.inr ⟨o,s4 _ _ (s3 _ _ e2)⟩)
    rw [hv] at gx4
    eC ⟨A,_,rfl,gx4,hP h _ _ s4 (un ⟨p,rfl,s4 _ _ hp⟩)⟩
   intro D0 H3 ys s3 n3 e3 a3
   rw [ek,Aij hi] at a3
   have aY:Az (B7 H3) ys ((Yn es n g0).map (·.2)):=Aai (fun e he=>(FG.mp he).1) a3
   have e3A:=s3 _ _ e2
   rA ⟨A,o,kvs,e3A,fun o' u z=>?_,?_⟩
   ·have z:H A=some (.frz o' u):=z
    rw [eA] at z
    cases z
   have nDA:D0≠A:=fun z=>by rw [z,e3A] at e3;cases e3
   have sA:Sx A H3 (upd H3 A (.dK kvs)):=Sx.upd
   have s14:Ah H1 (upd H3 A (.dK kvs)):=fun b u e=>by
    by_cases c:b=A
    ·subst c
     rw [eA1] at e
     cases e
     eC Ag
    ·eC sA b u c (s3 b u (x2 b u c e))
   have kt4:Kt H3 (upd H3 A (.dK kvs)):=fun p xs e=>sA p _ (fun z=>by rw [z,e3A] at e;cases e) e
   have eD4:=sA _ _ nDA e3
   generalize upd H3 A (.dK kvs)=H4 at sA s14 kt4 eD4
   have aY4:=aY.imp fun v g r=>Cw v g _ _ kt4 r
   have s04:=s1.trans s14
   have lb:(Yn es n g0).length≤es.length:=CZ _ _
   rA ⟨_,ys,⟨A3.of eD4,aY4,by rw [AE];omega,tk.up s04⟩,fun D H5 p sm nD eD tk5 stb=>?_⟩
   obtain ⟨ps,tt,_⟩:=tk.up s04
   have kt5:Kt H4 H5:=fun q xs e=>sm q _ (fun z=>by rw [z,tt] at e;cases e) e
   eC k D _ H5 p (fun b o ne e=>sm b o ne (s04 b o e)) (Ci s04 nD) eD tk5 stb (W1 (aY4.imp fun v g r=>Cw v g _ _ kt5 r) fun i hi=>stb.2.1 i hi)
def Vv (ns:List Str)(gs:List Gm):List Str:=gs.foldl (fun ns g=>if g.a∈ns∨g.b∈ns then ns++[g.a,g.b] else ns) ns
theorem Tx:∀(gs:List Gm) (ns:List Str),(Vv ns gs).length≤ns.length+2*gs.length
 |[],_=>AF _
 | g::gs,ns=>by
  have:=Tx gs (if g.a∈ns∨g.b∈ns then ns++[g.a,g.b] else ns)
  show (Vv (if g.a∈ns∨g.b∈ns then ns++[g.a,g.b] else ns) gs).length≤_
  have l:(if g.a∈ns∨g.b∈ns then ns++[g.a,g.b] else ns).length≤ns.length+2:=by
   split
   ·rw [AM]
    eC AF _
   ·omega
  rw [AY]
  omega
theorem Ab0 {nm:List Str}:∀{gs:List Gm} {ns:List Str},(∀x∈ns,x∈nm)→(∀g∈gs,g.a∈nm∧g.b∈nm)→∀x∈Vv ns gs,x∈nm
 |[],_,h,_=>h
 | g::gs,ns,h,hg=>by
  rA Ab0 (gs:=gs) (fun x hx=>?_) fun g' h'=>hg g' (AJ _ h')
  obtain ⟨g1,g2⟩:=hg g AK
  have hx:x∈(if g.a∈ns∨g.b∈ns then ns++[g.a,g.b] else ns):=hx
  split at hx
  ·rcases BV.mp hx with hx|hx
   ·eC h x hx
   ·rcases AU.mp hx with rfl|hx
    ·eC g1
    ·rw [AW.mp hx]
     eC g2
  ·eC h x hx
theorem Aga {gs:List Gm}{ns:List Str}{g:Gm}:Vv ns (gs++[g])=if g.a∈Vv ns gs∨g.b∈Vv ns gs then Vv ns gs++[g.a,g.b] else Vv ns gs:=by
 unfold Vv
 rw [List.foldl_append]
 rfl
theorem Pd {x:Str}:∀(l:List Str),inV (.str x) (l.map V.str)=decide (x∈l)
 |[]=>rfl
 | y::l=>by
  have ih:=Pd (x:=x) l
  unfold inV at ih ⊢
  rw [BE,FV,ih]
  have e:((y:Str)==x)=decide (y=x):=by
   by_cases h:y=x
   ·subst h;simp
   ·rw [BA h];eC DJ.mpr h
  show ((y==x)||decide (x∈l))=_
  rw [e,←Bool.decide_or]
  rA FU.mpr ⟨fun h=>?_,fun h=>?_⟩
  ·rcases h with rfl|h
   ·eC AK
   ·eC AJ _ h
  ·rcases AU.mp h with rfl|h
   ·eC .inl rfl
   ·eC .inr h
theorem Ml:∀(l:List Str),(l.map V.str).all Fl=true
 |[]=>rfl
 |_::l=>by
  rw [BE,List.all_cons,Ml l]
  rfl
def Ki (K:KKf)(ns:List Int):Sp:=fun vs H Q _=>match vs with
 |[.ref A,.int n]=>∃(es:List En) (g0:Gm) (nm:List Str),(Alp H A es∧Oh es∧es.length≤40∧(n,g0)∈es∧Av H (Bn K) Bu Em∧nm.length≤8∧∀e∈es,e.2.a∈nm∧e.2.b∈nm) ∧
  ∀D H' p,Mf (Bn K) H H'→H D=none→H' D=some (.lst ((Vu (Vv [g0.a,g0.b] (pg ((Yn es n g0).map (·.2)) p))).map V.str))→Av H' (Bn K) Bu Em→Jp (dk ((Yn es n g0).map (·.2))) ((Yn es n g0).map (·.2)).length p→Q (.ref D) H'
 |_=>False
theorem Kg:Ai ["kept","number","names","played"] ["kept","number"] (Af Nn):=⟨rfl,rfl,rfl,by decide +kernel,rfl,by decide +kernel,by decide +kernel⟩
local notation "#aM"=>Ba P w K mg base "reached" ["kept","number"] 5 (Ki K ns)
theorem Zq (d:Bj K mg "reached" Nn ["kept","number"])(er:#am)(n_sorted:mg "sorted"=none)(n_set:mg "set"=none)(n_list:mg "list"=none)  (c_behind:#aL):#aM:=by
 rA d.cal (k:=4) Kg (fun vs H Q E h=>?_) (fun f cdv A outer s H vs Q E hr h=>?_)
 ·match vs,h with
  |[.ref A,.int n],_=>rfl
 ·match vs,h with
  | [.ref A,.int n],hq0=>
   obtain ⟨es,g0,nm,⟨⟨kvs,eA,al⟩,hi,l40,hn,tk,l8,sub⟩,k⟩:=hq0
   rA ⟨_,(#h (#q (2) _ _ _ _ Kg.nd rfl #t (#y Ox #r n_list #k (#a (#I Z7 (#ae (#V hr.units) (dv 0) (dv 1) (fun _ _=>rfl)) (Dj Ab) (Dj Ab)) Ac #r) #d #d #r #r) #r #t) (#h (#O DI rfl (#H (#b c_behind hr #d #r (#a (dv 0) (#a (dv 1) Ac #r) #r) #d #r #r)) (#E (3) _ Kg.nd rfl #t #t) (#i (#m (@L2.PW.pt _ _ _ (#J (#n Apq (#c A0 (dv 3) Ab (fun _ _=>rfl)) (dv 2) (by with_unfolding_all rfl)) (#S (#n Apq (#c A0 (dv 3) Ab (fun _ _=>rfl)) (dv 2) (by with_unfolding_all rfl))))) (#i (#Y (#F GT PySem.F.slot_list_extend PySem.F.type_list_extend Ajj (dv 2) (#a (#I Z7 (dv 3) (Dj Ab) (Dj Ab)) Ac #r) #r #r #r #r #r) #r)) Aw)) (by intro _;rfl)) (#i (#j (@Yx _ _ _ _ _ _ _ #r n_sorted #r n_set (dv 2) #r #r #r))))),?_⟩
   obtain ⟨v0,hv0,p0,rfl,hp0⟩:=Pn al hi hn
   have g1:Hk H A (.int n) (Cj kvs (Sum.inl n)):=.inl ⟨kvs,Sum.inl _,.inl eA,rfl,rfl⟩
   rw [hv0] at g1
   rA ⟨A,_,rfl,g1,_,rfl,_,rfl,p0,_,rfl,Ec.of hp0,(by show ¬(HT.sIx 5 0 (some 1)=0∧HT.sIx 5 5 (some 3)=5);decide),fun t ht=>?_⟩
   rw [show Ms [V.int g0.d,V.str g0.a,V.str g0.b,V.int g0.h,V.int g0.s] (some 1) (some 3)=[V.str g0.a,V.str g0.b] from rfl]
   have s1:Ah H (upd H t (.tup [.str g0.a,.str g0.b])):=Ap ht
   have e1:upd H t (.tup [.str g0.a,.str g0.b]) t=some (.tup [.str g0.a,.str g0.b]):=Ag
   generalize upd H t (.tup [.str g0.a,.str g0.b])=H1 at s1 e1
   rA ⟨_,.inr (Ec.of e1),fun N hN=>?_⟩
   have s2:Ah H1 (upd H1 N (.lst [.str g0.a,.str g0.b])):=Ap hN
   have e2:upd H1 N (.lst [.str g0.a,.str g0.b]) N=some (.lst ([g0.a,g0.b].map V.str)):=Ag
   have hN0:H N=none:=Ci s1 hN
   generalize upd H1 N (.lst [.str g0.a,.str g0.b])=H2 at s2 e2
   have s02:=s1.trans s2
   rA ⟨es,g0,⟨⟨kvs,s02 _ _ eA,al.imp fun kv e r=>Iy kv e _ _ (Be s02) r⟩,hi,l40,hn,tk.up s02⟩,fun B vs H3 p sm nB eB tk3 stb aB=>?_⟩
   obtain ⟨ps,tt,_⟩:=tk.up s02
   have nNT:N≠Bn K:=fun z=>by rw [z,tt] at e2;cases e2
   have e3:=sm _ _ nNT e2
   have nBN:B≠N:=fun z=>by rw [z,e2] at nB;cases nB
   have hz:∀b o,b≠Bn K→H b=some o→H3 b=some o:=fun b o ne e=>sm b o ne (s02 b o e)
   have lb:(Yn es n g0).length≤es.length:=CZ _ _
   have lp:(pg ((Yn es n g0).map (·.2)) p).length≤40:=by
    have:=stb.1
    have:(pg ((Yn es n g0).map (·.2)) p).length≤p.length:=List.length_filterMap_le ..
    rw [AE] at *
    omega
   have subG:∀g∈pg ((Yn es n g0).map (·.2)) p,g.a∈nm∧g.b∈nm:=fun g hg=>by
    obtain ⟨e,he,rfl⟩:=BG.mp (Qq hg)
    eC sub e (FG.mp he).1
   have k:=k (p:=p)
   generalize hG:pg ((Yn es n g0).map (·.2)) p=G at aB lp subG k
   have lv:=aB.len
   rA ⟨B,rfl,⟨_,A3.of eB⟩,L3 (K:=K) (a:=B) (xs:=vs) (fun i σ H'=>∃o3:Option V,σ=[some (.ref A),some (.int n),some (.ref N),o3]∧(∀b o,b≠N→H3 b=some o→H' b=some o)∧Av H' (Bn K) Bu Em∧H' N=some (.lst ((Vv [g0.a,g0.b] (G.take i)).map V.str))) ⟨none,rfl,fun b o _ e=>e,tk3,e3⟩ (fun i σ H' _ ⟨_,_,s,_⟩=>A3.of (s _ _ nBN eB)) ?_ ?_⟩
   ·rintro i v σ H4 hv ⟨o3,rfl,s4,tk4,e4⟩
    obtain ⟨g,hg,pg',rfl,hpg⟩:=aB.get hv
    have hpg4:=s4 _ _ (fun z=>by rw [z,e3] at hpg;cases hpg) hpg
    have tk':G.take (i+1)=G.take i++[g]:=by rw [CI,hg];rfl
    have ll:(Vv [g0.a,g0.b] (G.take i)).length≤82:=by
     have:=Tx (G.take i) [g0.a,g0.b]
     rw [BQ] at this
     have z:[g0.a,g0.b].length=2:=rfl
     omega
    rw [tk',Aga]
    generalize Vv [g0.a,g0.b] (G.take i)=l at e4 ll
    have go:(g.a∈l∨g.b∈l)→∀t':Addr,H4 t'=none→∃o3:Option V,[some (V.ref A),some (V.int n),some (V.ref N),some (V.ref pg')]=[some (.ref A),some (.int n),some (.ref N),o3]∧(∀b o,b≠N→H3 b=some o→upd (upd H4 t' (.tup [.str g.a,.str g.b])) N (.lst (l.map V.str++[.str g.a,.str g.b])) b=some o)∧Av (upd (upd H4 t' (.tup [.str g.a,.str g.b])) N (.lst (l.map V.str++[.str g.a,.str g.b]))) (Bn K) Bu Em∧upd (upd H4 t' (.tup [.str g.a,.str g.b])) N (.lst (l.map V.str++[.str g.a,.str g.b])) N=some (.lst ((if g.a∈l∨g.b∈l then l++[g.a,g.b] else l).map V.str)):=fun c t' ht'=>by
     have ntN:t'≠N:=fun z=>by rw [z,e4] at ht';cases ht'
     have s5:Ah H4 (upd H4 t' (.tup [.str g.a,.str g.b])):=Ap ht'
     rA ⟨_,rfl,fun b o ne e=>?_,Kk (tk4.up s5) Sx.upd (.inl ⟨_,s5 _ _ e4⟩),?_⟩
     ·rw [Ao ne]
      eC s5 b o (s4 b o ne e)
     ·rw [AN c,Ag,CB]
      rfl
    rA ⟨_,hpg4,_,.inl (A3.of e4),rfl,Ml l,?_⟩
    rw [Pd]
    rA ⟨fun h=>?_,fun h=>⟨_,hpg4,_,.inl (A3.of e4),rfl,Ml l,?_⟩⟩
    rotate_left
    ·rw [Pd]
     rA ⟨fun h'=>?_,fun h'=>?_⟩
     rotate_left
     ·have c:¬(g.a∈l∨g.b∈l):=fun z=>z.elim (BM h) (BM h')
      rw [AI c]
      eC ⟨_,rfl,s4,tk4,e4⟩
     have c:g.a∈l∨g.b∈l:=.inr (AZ h')
     rA ⟨.inl ⟨rfl,_,A3.of e4⟩,_,rfl,_,rfl,pg',_,rfl,Ec.of hpg4,(by show ¬(HT.sIx 5 0 (some 1)=0∧HT.sIx 5 5 (some 3)=5);decide),fun t' ht'=>?_⟩
     rw [show Ms [V.int g.d,V.str g.a,V.str g.b,V.int g.h,V.int g.s] (some 1) (some 3)=[V.str g.a,V.str g.b] from rfl]
     have s5:Ah H4 (upd H4 t' (.tup [.str g.a,.str g.b])):=Ap ht'
     eC ⟨N,t',_,_,rfl,rfl,s5 _ _ e4,Ag,by rw [AE];eC AO (show l.length+2≤84 by omega) #d,go c t' ht'⟩
    have c:g.a∈l∨g.b∈l:=.inl (AZ h)
    rA ⟨fun _=>?_,fun h=>nb h⟩
    rA ⟨.inl ⟨rfl,_,A3.of e4⟩,_,rfl,_,rfl,pg',_,rfl,Ec.of hpg4,(by show ¬(HT.sIx 5 0 (some 1)=0∧HT.sIx 5 5 (some 3)=5);decide),fun t' ht'=>?_⟩
    rw [show Ms [V.int g.d,V.str g.a,V.str g.b,V.int g.h,V.int g.s] (some 1) (some 3)=[V.str g.a,V.str g.b] from rfl]
    have s5:Ah H4 (upd H4 t' (.tup [.str g.a,.str g.b])):=Ap ht'
    eC ⟨N,t',_,_,rfl,rfl,s5 _ _ e4,Ag,by rw [AE];eC AO (show l.length+2≤84 by omega) #d,go c t' ht'⟩
   rintro σ H4 ⟨o3,rfl,s4,tk4,e4⟩
   rw [lv,DX] at e4
   have l82:(Vv [g0.a,g0.b] G).length≤82:=by
    have:=Tx G [g0.a,g0.b]
    have z:[g0.a,g0.b].length=2:=rfl
    omega
   have sN:∀x∈Vv [g0.a,g0.b] G,x∈nm:=Ab0 (fun x hx=>by
    obtain ⟨h1,h2⟩:=sub _ hn
    rcases AU.mp hx with rfl|hx
    ·eC h1
    ·rw [AW.mp hx]
     eC h2) subG
   have l64:(Vu (Vv [g0.a,g0.b] G)).length≤nm.length:=G9 (Fd (C8 _)) fun x hx=>sN x (Fc.mp hx)
   rA ⟨_,A3.of e4,by omega,by omega,fun D hD=>?_⟩
   have s5:Ah H4 (upd H4 D (.lst ((Vu (Vv [g0.a,g0.b] G)).map V.str))):=Ap hD
   have hs:Mf (Bn K) H (upd H4 D (.lst ((Vu (Vv [g0.a,g0.b] G)).map V.str))):=fun b o ne e=>s5 b o (s4 b o (fun z=>by rw [z,hN0] at e;cases e) (hz b o ne e))
   rA k D _ hs ?_ Ag (tk4.up s5) stb
   cases c:H D with
   |none=>rfl
   | some o=>
    exfalso
    by_cases z:D=Bn K
    ·obtain ⟨ps4,t4,_⟩:=tk4
     rw [←z,hD] at t4
     cases t4
    ·rw [s4 D o (fun z=>by rw [z,hN0] at c;cases c) (hz D o z c)] at hD
     cases hD
def J0 (K:KKf)(ns:List Int):Sp:=fun vs H Q E=>match vs with
 |[.ref L]=>∃gs,(Bk K H L gs∧gs.length≤41∧(Ge gs).length<60)∧(gs.length≤40∧(Ge gs).length≤8→∀H',Ah H H'→Q .non H')∧(¬(gs.length≤40∧(Ge gs).length≤8)→∀H',Ah H H'→ExN K "NoBook" E H')
 |_=>False
theorem Q4:Ai ["games"] ["games"] (Af Hi):=⟨rfl,rfl,rfl,by decide +kernel,rfl,by decide +kernel,by decide +kernel⟩
local notation "#aN"=>Ba P w K mg base "check_size" ["games"] 2 (J0 K ns)
theorem Q5 (d:Bj K mg "check_size" Hi ["games"])(er:#am)(n_len:mg "len"=none)(v_MOST_PLAYERS:Gv mg "MOST_PLAYERS" (.int (8)))(v_MOST_GAMES:Gv mg "MOST_GAMES" (.int (40)))(c_players:#aK):#aN:=by
 rA d.calX (k:=1) Q4 (fun vs H Q E h=>?_) (fun f cdv A outer s H vs Q E hr h=>?_)
 ·match vs,h with
  |[.ref L],_=>rfl
 ·match vs,h with
  | [.ref L],hq0=>
   obtain ⟨gs,⟨bk,l41,l60⟩,k,kr⟩:=hq0
   rA ⟨_,(#h (#m (#n Aec (#l C9 #r n_len #k (#a (dv 0) Ac #r) #d #d #r #r) (Cu v_MOST_GAMES #r) (#w #d #d)) (#i (#p er.b_NoBook er.z_NoBook #r #d)) Aw) (#i (#m (#n Aec (#l C9 #r n_len #k (#a (#b c_players hr #d #r (#a (dv 0) Ac #r) #d #r #r) Ac #r) #d #d #r #r) (Cu v_MOST_PLAYERS #r) (#w #d #d)) (#i (#p er.b_NoBook er.z_NoBook #r #d)) Aw))),?_⟩
   obtain ⟨vs,hx,hm,hl⟩:=id bk
   have lv:=hm.len
   rA ⟨_,.inl hx,⟨fun h=>kr (fun z=>?_) _ (Ah.refl _) _ er.y_NoBook,fun h=>⟨gs,⟨bk,by omega⟩,fun D H1 s1 n1 e1=>⟨_,.inl (A3.of e1),⟨fun h'=>kr (fun z=>?_) H1 s1 _ er.y_NoBook,fun h'=>k ⟨?_,?_⟩ H1 s1⟩⟩⟩⟩⟩
   ·have:=AZ h
    omega
   ·have:=AZ h'
    rw [AE] at this
    omega
   ·have:=BM h
    omega
   ·have:=BM h'
    rw [AE] at this
    omega
structure LFd (fs:List (Str×V))(A R:Addr)(last:Int):Prop where
 ke:fs.lookup ("kept":Str)=some (.ref A)
 la:fs.lookup ("last":Str)=some (.int last)
 ru:fs.lookup ("rule":Str)=some (.ref R)
 ws:fs.lookup ("worths":Str)=none
 wt:fs.lookup ("worth":Str)=none
 pu:fs.lookup ("put":Str)=none
 ta:fs.lookup ("take":Str)=none
 ga:fs.lookup ("games":Str)=none
 len:fs.length≤100
def Fv (K:KKf)(H:Hp)(L A R:Addr)(es:List En)(last:Int):Prop:=∃C dx fs,H L=some (.ins C dx fs)∧PySem.W.nsIn K mainGlobals "Ledger"=some (some (.ref C))∧LFd fs A R last∧Alp H A es
structure Acr (nm:List Str)(es:List En)(last:Int):Prop where
 inc:Oh es
 le:∀e∈es,e.1≤last
 mem:∀e∈es,e.2.a∈nm∧e.2.b∈nm
def O0 (L A T:Addr)(H H':Hp):Prop:=∀b o,b≠L→b≠A→b≠T→H b=some o→H' b=some o
theorem V9 {f:Str}{v:V}:∀{fs:List (Str×V)} {u:V},fs.lookup f=some u→(Bc f v fs).length=fs.length
 |[],_,h=>by cases h
 | (g,w)::fs,u,h=>by
  by_cases c:f=g
  ·subst c
   unfold Bc
   rw [AN rfl]
   rfl
  ·have h:fs.lookup f=some u:=by
    rw [DW,show (f==g)=false from DJ.mpr c] at h
    eC h
   unfold Bc
   rw [AI fun z=>c z.symm]
   eC congrArg (· + 1) (V9 h)
theorem LFd.put {fs:List (Str×V)}{A R:Addr}{last m:Int}(h:LFd fs A R last):LFd (Bc "last" (.int m) fs) A R m:=by
 have:=V9 (v:=.int m) h.la
 have:=h.len
 eC ⟨Ax #k h.ke,Iw,Ax #k h.ru,Ax #k h.ws,Ax #k h.wt,Ax #k h.pu,Ax #k h.ta,Ax #k h.ga,by omega⟩
theorem Aik {H H':Hp}{P x C dx:Addr}{fs:List (Str×V)}{pos:Pos}{q:Str}(h:Av H P pos q)(s:Sx x H H')(hx:H x=some (.ins C dx fs)):Av H' P pos q:=by
 obtain ⟨ps,h1,h2,h3⟩:=h
 rA ⟨ps,s _ _ (fun z=>by rw [z,hx] at h1;cases h1) h1,h2,h3.imp id ?_⟩
 rintro ⟨c,e1,e2⟩
 eC ⟨c,e1,s _ _ (fun z=>by rw [z,hx] at e2;cases e2) e2⟩
def J7 (K:KKf)(ns:List Int):Sp:=fun vs H Q E=>match vs with
 |[.ref L,v]=>∃(A R:Addr) (es:List En) (last:Int) (g:Gm) (nm:List Str),(Fv K H L A R es last∧Acr nm es last∧es.length≤40∧nm.length≤20∧B7 H v g∧g.a∈nm∧g.b∈nm∧Av H (Bn K) Bu Em) ∧
  (es.length<40∧(Ge (es.map (·.2)++[g])).length≤8→∀r D H',O0 L A (Bn K) H H'→H' r=some (.tup [.int (last+1),.ref D])→Fv K H' L A R (es++[(last+1,g)]) (last+1)→Av H' (Bn K) Bu Em→Q (.ref r) H') ∧
  (¬(es.length<40∧(Ge (es.map (·.2)++[g])).length≤8)→∀H',Ah H H'→ExN K "NoBook" E H')
 |_=>False
theorem Rm:Ai ["self","played"] ["self","played"] (Af Hc):=⟨rfl,rfl,rfl,by decide +kernel,rfl,by decide +kernel,by decide +kernel⟩
local notation "#aO"=>Df P w K mg base [c_Ledger] [] "put" ["self","played"] 6 (J7 K ns)
theorem Rg (d:Ej K [c_Ledger] [] "put" "Ledger.put" Hc ["self","played"])(er:#am)(n_list:mg "list"=none)  (c_reached:#aM)(c_check_size:#aN):#aO:=by
 rA d.calX (k:=5) Rm (fun vs H Q E h=>?_) (fun f cdv A outer s H vs Q E hr h=>?_)
 ·match vs,h with
  |[.ref L,v],_=>rfl
 ·match vs,h with
  | [.ref L,v],hq0=>
   obtain ⟨A,R,es,last,g,nm,⟨⟨C,dx,fs,eL,hC,fd,kvs,eA,al⟩,ok,l40,l20,hg,ga,gb,tk⟩,k,kr⟩:=hq0
   rA ⟨_,(#h (#Y (#G c_check_size hr #d #r (#a (#g Km (@Xb _ _ _ _ _ _ _ #r n_list (#z (dv 0) #r) rfl #r #r) (#M (#a (dv 1) Ac #r))) Ac #r) #d #r #r) #r) (#h (#K (dv 0) (#g Fx (#z (dv 0) #r) Ab) rfl) (#h (#ab (#V hr.units) (#z (dv 0) #r) (#z (dv 0) #r) (dv 1) rfl) (#i (#j (#u (#a (#z (dv 0) #r) (#a (#b c_reached hr #d #r (#a (#z (dv 0) #r) (#a (#z (dv 0) #r) Ac #r) #r) #d #r #r) Ac #r) #r))))))),?_⟩
   obtain ⟨pv,rfl,hpv⟩:=id hg
   have cl:Ow K C∧NoAttr K C "kept"∧NoAttr K C "last":=Ca er.y_Ledger hC▸⟨er.l_Ledger,er.na_Ledger_kept,er.na_Ledger_last⟩
   have nLA:A≠L:=fun z=>by rw [z,eL] at eA;cases eA
   rA ⟨L,C,dx,fs,_,rfl,eL,cl.1,cl.2.1,fd.ke,A,kvs,rfl,.inl eA,fun D0 H1 s1 n1 e1=>fun D1 H2 s2 e2=>⟨_,_,s2 _ _ e1,e2,?_,fun P H3 s3 e3=>?_⟩⟩
   ·rw [AE,al.len]
    show es.length+1≤1000
    omega
   have s13:=s1.trans (s2.trans s3)
   have aP:Az (B7 H3) (kvs.map (·.2)++[.ref pv]) (es.map (·.2)++[g]):=(Uj (al.imp fun kv e r=>Iy kv e _ _ (Be s13) r)).snoc ⟨pv,rfl,s13 _ _ hpv⟩
   have lg:(es.map (·.2)++[g]).length=es.length+1:=by rw [AM,AE];rfl
   have memg:∀x∈es.map (·.2)++[g],x.a∈nm∧x.b∈nm:=fun x hx=>by
    rcases BV.mp hx with h|h
    ·obtain ⟨e,he,rfl⟩:=BG.mp h
     eC ok.mem e he
    ·rw [AW.mp h]
     eC ⟨ga,gb⟩
   have lpl:=Ahr memg
   rA ⟨_,⟨⟨_,A3.of e3,aP,by omega⟩,by omega,by omega⟩,fun fit H4 s4=>?_,fun nf H4 s4=>kr (fun z=>nf ⟨by omega,z.2⟩) H4 (s13.trans s4)⟩
   have l39:es.length<40:=by omega
   have l8:=fit.2
   have k:=k ⟨l39,l8⟩
   have memP:∀x∈es.map (·.2)++[g],x.a∈Ge (es.map (·.2)++[g])∧x.b∈Ge (es.map (·.2)++[g]):=fun x hx=>⟨Cy.mpr ⟨x,hx,.inl rfl⟩,Cy.mpr ⟨x,hx,.inr rfl⟩⟩
   have s04:=s13.trans s4
   have eL4:=s04 _ _ eL
   have eA4:=s04 _ _ eA
   rA ⟨L,C,dx,fs,_,rfl,eL4,cl.1,cl.2.2,fd.la,L,C,dx,fs,rfl,eL4,cl.1,cl.2.2,by have:=fd.len;omega,?_⟩
   have x5:Sx L H4 (upd H4 L (.ins C dx (Bc "last" (.int (last+1)) fs))):=Sx.upd
   have eL5:upd H4 L (.ins C dx (Bc "last" (.int (last+1)) fs)) L=some (.ins C dx (Bc "last" (.int (last+1)) fs)):=Ag
   have fd5:=fd.put (m:=last+1)
   have kt5:Kt H4 (upd H4 L (.ins C dx (Bc "last" (.int (last+1)) fs))):=x5.kt eL4
   have tk5:Av (upd H4 L (.ins C dx (Bc "last" (.int (last+1)) fs))) (Bn K) Bu Em:=Aik (tk.up s04) x5 eL4
   generalize upd H4 L (.ins C dx (Bc "last" (.int (last+1)) fs))=H5 at x5 eL5 kt5 tk5
   have eA5:=x5 _ _ nLA eA4
   have lk:kvs.length<41:=by rw [al.len];omega
   rA ⟨L,C,dx,_,_,rfl,eL5,cl.1,cl.2.1,fd5.ke,L,C,dx,_,_,rfl,eL5,cl.1,cl.2.2,fd5.la,A,_,rfl,Wd.k (k:=Sum.inl (last+1)) eA5 (AL lk #d),?_⟩
   have nn:Cj kvs (Sum.inl (last+1))=none:=Uy al fun e he z=>by
    have:=ok.le e he
    omega
   rw [Ae6 _ nn]
   have x6:Sx A H5 (upd H5 A (.dK (kvs++[(Sum.inl (last+1),.ref pv)]))):=Sx.upd
   have eA6:upd H5 A (.dK (kvs++[(Sum.inl (last+1),.ref pv)])) A=some (.dK (kvs++[(Sum.inl (last+1),.ref pv)])):=Ag
   have kt6:Kt H5 (upd H5 A (.dK (kvs++[(Sum.inl (last+1),.ref pv)]))):=x6.kt' eA5
   have tk6:Av (upd H5 A (.dK (kvs++[(Sum.inl (last+1),.ref pv)]))) (Bn K) Bu Em:=Kk tk5 x6 (.inr ⟨_,eA5⟩)
   have eL6:=x6 _ _ (CM nLA) eL5
   generalize upd H5 A (.dK (kvs++[(Sum.inl (last+1),.ref pv)]))=H6 at x6 eA6 kt6 tk6 eL6
   have kt06:Kt H H6:=((Be s04).trans kt5).trans kt6
   have al6:Az (Pi H6) (kvs++[(Sum.inl (last+1),.ref pv)]) (es++[(last+1,g)]):=(al.imp fun kv e r=>Iy kv e _ _ kt06 r).snoc ⟨rfl,pv,rfl,kt06 _ _ hpv⟩
   have inc6:Oh (es++[(last+1,g)]):=List.pairwise_append.mpr ⟨ok.inc,FC ..,fun a ha b hb=>by
    rw [AW.mp hb]
    have:=ok.le a ha
    show a.1<last+1
    omega⟩
   have fr6:∀b o,b≠L→b≠A→H b=some o→H6 b=some o:=fun b o n1 n2 e=>x6 b o n2 (x5 b o n1 (s04 b o e))
   rA ⟨L,C,dx,_,_,rfl,eL6,cl.1,cl.2.2,fd5.la,L,C,dx,_,_,rfl,eL6,cl.1,cl.2.1,fd5.ke,L,C,dx,_,_,rfl,eL6,cl.1,cl.2.2,fd5.la,?_⟩
   rA ⟨es++[(last+1,g)],g,Ge (es.map (·.2)++[g]),⟨⟨_,eA6,al6⟩,inc6,by rw [AM];show es.length+1≤40;omega,AX _ (AW.mpr rfl),tk6,l8,fun e he=>?_⟩,fun D H7 p sm nD eD tk7 stb=>fun R H8 s8 e8=>?_⟩
   ·rA memP _ ?_
    rcases BV.mp he with h|h
    ·eC EL _ (BG.mpr ⟨e,h,rfl⟩)
    ·rw [AW.mp h]
     eC AX _ (AW.mpr rfl)
   obtain ⟨ps,tt,_⟩:=tk6
   have nLT:L≠Bn K:=fun z=>by rw [z,tt] at eL6;cases eL6
   have nAT:A≠Bn K:=fun z=>by rw [z,tt] at eA6;cases eA6
   have kt7:Kt H6 H7:=fun q xs e=>sm q _ (fun z=>by rw [z,tt] at e;cases e) e
   have kt68:=kt7.trans (Be s8)
   eC k R D H8 (fun b o n1 n2 n3 e=>s8 b o (sm b o n3 (fr6 b o n1 n2 e))) e8 ⟨C,dx,_,s8 _ _ (sm _ _ nLT eL6),hC,fd5,_,s8 _ _ (sm _ _ nAT eA6),al6.imp fun kv e r=>Iy kv e _ _ kt68 r⟩ (tk7.up s8)
def wo (es:List En)(n:Int):List En:=es.filter fun e=>decide (e.1≠n)
def Jh (K:KKf)(ns:List Int):Sp:=fun vs H Q E=>match vs with
 |[.ref L,.int n]=>∃(A R:Addr) (es:List En) (last:Int),(Fv K H L A R es last∧Oh es∧es.length≤40∧(Ge (es.map (·.2))).length≤8∧Av H (Bn K) Bu Em) ∧
  (∀g,(n,g)∈es→∀D H',O0 L A (Bn K) H H'→Fv K H' L A R (wo es n) last→Av H' (Bn K) Bu Em→Q (.ref D) H')∧((∀e∈es,e.1≠n)→∀H',Ah H H'→ExN K "NoGame" E H')
 |_=>False
theorem Io:Ai ["self","number","found"] ["self","number"] (Af F9):=⟨rfl,rfl,rfl,by decide +kernel,rfl,by decide +kernel,by decide +kernel⟩
local notation "#aP"=>Df P w K mg base [c_Ledger] [] "take" ["self","number"] 6 (Jh K ns)
theorem Qf (d:Ej K [c_Ledger] [] "take" "Ledger.take" F9 ["self","number"])(er:#am)   (c_reached:#aM):#aP:=by
 rA d.calX (k:=5) Io (fun vs H Q E h=>?_) (fun f cdv A outer s H vs Q E hr h=>?_)
 ·match vs,h with
  |[.ref L,.int n],_=>rfl
 ·match vs,h with
  | [.ref L,.int n],hq0=>
   obtain ⟨A,R,es,last,⟨⟨C,dx,fs,eL,hC,fd,kvs,eA,al⟩,inc,l40,l8,tk⟩,k,kr⟩:=hq0
   rA ⟨_,(#h (#m (@Ai2 _ _ _ _ _ _ (#V hr.units) (dv 1) (#z (dv 0) #r) (by with_unfolding_all rfl)) (#i (#p er.b_NoGame er.z_NoGame #r #d)) Aw) (#h (#q (2) _ _ _ _ Io.nd rfl #t (#b c_reached hr #d #r (#a (#z (dv 0) #r) (#a (dv 1) Ac #r) #r) #d #r #r) #r #t) (#h (#Y (@Agp _ _ _ _ _ _ _ (#z (dv 0) #r) (dv 1) ⟨rfl,rfl,rfl,rfl⟩) #r) (#i (#j (dv 2)))))),?_⟩
   have cl:Ow K C∧NoAttr K C "kept":=Ca er.y_Ledger hC▸⟨er.l_Ledger,er.na_Ledger_kept⟩
   have nLA:A≠L:=fun z=>by rw [z,eL] at eA;cases eA
   have g1:Hk H A (.int n) (Cj kvs (Sum.inl n)):=.inl ⟨kvs,Sum.inl _,.inl eA,rfl,rfl⟩
   by_cases c:∃g,(n,g)∈es
   rotate_left
   ·have no:∀e∈es,e.1≠n:=fun e he z=>c ⟨e.2,z▸he⟩
    rw [Uy al no] at g1
    eC ⟨L,C,dx,fs,_,rfl,eL,cl.1,cl.2,fd.ke,A,_,rfl,g1,⟨fun _=>kr no _ (Ah.refl _) _ er.y_NoGame,fun h=>nb h⟩⟩
   obtain ⟨g,hn⟩:=c
   obtain ⟨v0,hv0,_⟩:=Pn al inc hn
   rw [hv0] at g1
   rA ⟨L,C,dx,fs,_,rfl,eL,cl.1,cl.2,fd.ke,A,_,rfl,g1,⟨fun h=>nb h,fun _=>?_⟩⟩
   rA ⟨L,C,dx,fs,_,rfl,eL,cl.1,cl.2,fd.ke,es,g,Ge (es.map (·.2)),⟨⟨kvs,eA,al⟩,inc,l40,hn,tk,l8,fun e he=>⟨Cy.mpr ⟨e.2,BG.mpr ⟨e,he,rfl⟩,.inl rfl⟩,Cy.mpr ⟨e.2,BG.mpr ⟨e,he,rfl⟩,.inr rfl⟩⟩⟩,fun D H1 p sm nD eD tk1 stb=>?_⟩
   obtain ⟨ps,tt,_⟩:=id tk
   have nLT:L≠Bn K:=fun z=>by rw [z,tt] at eL;cases eL
   have nAT:A≠Bn K:=fun z=>by rw [z,tt] at eA;cases eA
   have eL1:=sm _ _ nLT eL
   have eA1:=sm _ _ nAT eA
   have kt1:Kt H H1:=fun q xs e=>sm q _ (fun z=>by rw [z,tt] at e;cases e) e
   rA ⟨L,C,dx,fs,_,rfl,eL1,cl.1,cl.2,fd.ke,A,rfl,.inl ⟨kvs,.inl eA1⟩,kvs,Sum.inl n,v0,eA1,rfl,hv0,?_⟩
   have x2:Sx A H1 (upd H1 A (.dK (Gn kvs (Sum.inl n)))):=Sx.upd
   have eA2:upd H1 A (.dK (Gn kvs (Sum.inl n))) A=some (.dK (Gn kvs (Sum.inl n))):=Ag
   have kt2:Kt H1 (upd H1 A (.dK (Gn kvs (Sum.inl n)))):=x2.kt' eA1
   have tk2:Av (upd H1 A (.dK (Gn kvs (Sum.inl n)))) (Bn K) Bu Em:=Kk tk1 x2 (.inr ⟨_,eA1⟩)
   have nDA:D≠A:=fun z=>by rw [z,eA] at nD;cases nD
   have eL2:=x2 _ _ (CM nLA) eL1
   have eD2:=x2 _ _ nDA eD
   generalize upd H1 A (.dK (Gn kvs (Sum.inl n)))=H2 at x2 eA2 kt2 tk2 eL2 eD2
   eC k g hn D H2 (fun b o n1 n2 n3 e=>x2 b o n2 (sm b o n3 e)) ⟨C,dx,fs,eL2,hC,fd,_,eA2,Abc (al.imp fun kv e r=>Iy kv e _ _ (kt1.trans kt2) r) n⟩ tk2
def E6 (K:KKf)(ns:List Int):Sp:=fun vs H Q _=>match vs with
 |[.ref L]=>∃(A R:Addr) (es:List En) (last:Int),(Fv K H L A R es last∧es.length≤40∧Av H (Bn K) Bu Em) ∧
  ∀D vs H' p,Mf (Bn K) H H'→H D=none→H' D=some (.lst vs)→Av H' (Bn K) Bu Em→Jp (dk (es.map (·.2))) (es.map (·.2)).length p→Az (B7 H') vs (pg (es.map (·.2)) p)→Q (.ref D) H'
 |_=>False
theorem N9:Ai ["self"] ["self"] (Af Fg):=⟨rfl,rfl,rfl,by decide +kernel,rfl,by decide +kernel,by decide +kernel⟩
local notation "#aQ"=>Df P w K mg base [c_Ledger] [] "games" ["self"] 4 (E6 K ns)
theorem Oj (d:Ej K [c_Ledger] [] "games" "Ledger.games" Fg ["self"])(er:#am)(n_list:mg "list"=none)  (c_in_order:#aE):#aQ:=by
 rA d.cal (k:=3) N9 (fun vs H Q E h=>?_) (fun f cdv A outer s H vs Q E hr h=>?_)
 ·match vs,h with
  |[.ref L],_=>rfl
 ·match vs,h with
  |[.ref L],hq0=>
   obtain ⟨A,R,es,last,⟨⟨C,dx,fs,eL,hC,fd,kvs,eA,al⟩,l40,tk⟩,k⟩:=hq0
   rA ⟨_,(#i (#j (#b c_in_order hr #d #r (#a (@Xb _ _ _ _ _ _ _ #r n_list (#z (dv 0) #r) rfl #r #r) Ac #r) #d #r #r))),?_⟩
   have cl:Ow K C∧NoAttr K C "kept":=Ca er.y_Ledger hC▸⟨er.l_Ledger,er.na_Ledger_kept⟩
   rA ⟨L,C,dx,fs,_,rfl,eL,cl.1,cl.2,fd.ke,A,kvs,rfl,.inl eA,fun D0 H1 s1 n1 e1=>?_⟩
   have a1:=Uj (al.imp fun kv e r=>Iy kv e _ _ (Be s1) r)
   rA ⟨_,_,⟨A3.of e1,a1,by rw [AE];omega,tk.up s1⟩,fun D H2 p sm nD eD tk2 stb=>?_⟩
   obtain ⟨ps,tt,_⟩:=tk.up s1
   have kt2:Kt H1 H2:=fun q xs e=>sm q _ (fun z=>by rw [z,tt] at e;cases e) e
   eC k D _ H2 p (fun b o ne e=>sm b o ne (s1 b o e)) (Ci s1 nD) eD tk2 stb (W1 (a1.imp fun v g r=>Cw v g _ _ kt2 r) fun i hi=>stb.2.1 i hi)
theorem Lb {H:Hp}{x dx C:Addr}(hx:H x=none)(hd:H dx=none)(ne:dx≠x):Ah H (upd (upd H dx (.own x)) x (.ins C dx [])):=(Ap hd).trans (Ap (by rw [Ao (CM ne)];eC hx))
theorem U0 {H H1 H':Hp}{x:Addr}(hx:H x=none)(s:Ah H H1)(a:Sx x H1 H'):Ah H H':=fun b o e=>a b o (fun z=>by rw [z,hx] at e;cases e) (s b o e)
def P4 (K:KKf)(H:Hp)(a:Addr)(so st fi one two:Int)(rows:List Rw):Prop:=∃C dx fs T,H a=some (.ins C dx fs)∧Kn K so C∧Fds fs so st fi one two T∧TbL K H T rows
theorem P4.up {K:KKf}{H H':Hp}{a:Addr}{so st fi one two:Int}{rows:List Rw}(s:Ah H H'):P4 K H a so st fi one two rows→P4 K H' a so st fi one two rows:=fun ⟨C,dx,fs,T,e,kn,f,vs,t1,t2⟩=>⟨C,dx,fs,T,s _ _ e,kn,f,vs,s _ _ t1,t2.imp fun v g r=>Ea v g _ _ (Be s) r⟩
def He (K:KKf)(ns:List Int):Sp:=fun vs H Q _=>match vs with
 |[.ref a]=>∃(st fi one two:Int) (rows:List Rw),(P4 K H a 0 st fi one two rows∧R8 rows)∧∀r H',Ah H H'→H r=none→P4 K H' r 0 st fi one two rows→Q (.ref r) H'
 |_=>False
theorem Ux:Ai ["self"] ["self"] (Af Im):=⟨rfl,rfl,rfl,by decide +kernel,rfl,by decide +kernel,by decide +kernel⟩
local notation "#aR"=>Df P w K mg base [c_Rule] [] "twin" ["self"] 8 (He K ns)
theorem Vi (d:Ej K [c_Rule] [] "twin" "Rule.twin" Im ["self"])(er:#am)   (c_Rule___init__:#aB):#aR:=by
 rA d.cal (k:=7) Ux (fun vs H Q E h=>?_) (fun f cdv A outer s H vs Q E hr h=>?_)
 ·match vs,h with
  |[.ref a],_=>rfl
 ·match vs,h with
  |[.ref a],hq0=>
   obtain ⟨st,fi,one,two,rows,⟨⟨C,dx,fs,T,e,kn,f,vs,eT,al⟩,good⟩,k⟩:=hq0
   rA ⟨_,(#i (#j (#Q c_Rule___init__ (List.Mem.head _) er.m_Rule hr #d #r er.b_Rule (#a (#z (dv 0) #r) (#a (#z (dv 0) #r) (#a (#z (dv 0) #r) Ac #r) #r) #r) #d #r #r))),?_⟩
   have hC:C=c_Rule:=Ca kn.2 er.y_Rule
   subst hC
   rA ⟨a,_,dx,fs,_,rfl,e,er.l_Rule,er.na_Rule_step,f.st,a,_,dx,fs,_,rfl,e,er.l_Rule,er.na_Rule_first,f.fi,a,_,dx,fs,_,rfl,e,er.l_Rule,er.na_Rule_table,f.tb,fun x dx' hx hd' ne=>?_⟩
   have s1:=Lb (C:=C) hx hd' ne
   have e1:upd (upd H dx' (.own x)) x (.ins C dx' []) x=some (.ins C dx' []):=Ag
   generalize upd (upd H dx' (.own x)) x (.ins C dx' [])=H1 at s1 e1
   have a1:=al.imp fun v g r=>Ea v g _ _ (Be s1) r
   have fin:∀{T':Addr} {fs':List (Str×V)} {H2:Hp},Sx x H1 H2→H2 T'=some (.lst vs)→H2 x=some (.ins C dx' fs')→Fds fs' 0 st fi one two T'→Q (.ref x) H2:=fun {T' fs' H2} s2 eT' ex f'=>k x H2 (fun b o eb=>s2 b o (fun z=>by rw [z,hx] at eb;cases eb) (s1 b o eb)) hx ⟨C,dx',fs',T',ex,kn,f',vs,eT',a1.imp fun v g r=>Ea v g _ _ (s2.kt e1) r⟩
   rA ⟨_,dx',[],rows,vs,⟨e1,er.l_Rule,er.na_Rule_step,er.na_Rule_first,er.na_Rule_table,by decide,s1 _ _ eT,a1,good⟩,fun T' H2 s2 nT n1 eT' ex=>⟨rfl,?_⟩⟩
   have f0:=fd0 (st:=st) (fi:=fi) (T:=T') (fs:=[]) rfl
   eC fin s2 eT' ex ⟨f0.st,f0.fi,f0.tb,f0.sz,f0.bt,f0.tw⟩
def TwT (K:KKf)(T:List (Addr×Sp)):Prop:=∀so C,Kn K so C→∃sp,(C,sp)∈T∧∀a H st fi one two rows Q,P4 K H a so st fi one two rows→R8 rows→(∀r H',Ah H H'→H r=none→P4 K H' r so st fi one two rows→Q (.ref r) H')→sp [.ref a] H Q E0
theorem Aox {K:KKf}{ns:List Int}{c0:Addr}(y0:PySem.W.nsIn K mainGlobals "Rule"=some (some (.ref c0))):TwT K [(c0,He K ns)]:=by
 rintro so C ⟨rfl,h⟩
 have z:=Ca h y0
 subst z
 eC ⟨_,.head _,fun a H st fi one two rows Q hR g k=>⟨st,fi,one,two,rows,⟨hR,g⟩,k⟩⟩
def Fm (K:KKf)(ns:List Int):Sp:=fun vs H Q _=>match vs with
 |[.ref L,.ref a]=>∃(C0 dx0:Addr) (so st fi one two:Int) (rows:List Rw),(H L=some (.ins C0 dx0 [])∧PySem.W.nsIn K mainGlobals "Ledger"=some (some (.ref C0))∧P4 K H a so st fi one two rows∧R8 rows)∧∀A R H',Sx L H H'→H A=none→A≠L→H R=none→Fv K H' L A R [] 0→P4 K H' R so st fi one two rows→Q .non H'
 |_=>False
theorem Ku:Ai ["self","rule"] ["self","rule"] (Af D9):=⟨rfl,rfl,rfl,by decide +kernel,rfl,by decide +kernel,by decide +kernel⟩
local notation "#aS"=>Df P w K mg base [c_Ledger] [] "__init__" ["self","rule"] 9 (Fm K ns)
theorem K4 (d:Ej K [c_Ledger] [] "__init__" "Ledger.__init__" D9 ["self","rule"])(er:#am)   (c_Rule_twin:#aR):#aS:=by
 rA d.cal (k:=8) Ku (fun vs H Q E h=>?_) (fun f cdv A outer s H vs Q E hr h=>?_)
 ·match vs,h with
  |[.ref L,.ref a],_=>rfl
 ·match vs,h with
  | [.ref L,.ref a],hq0=>
   obtain ⟨C0,dx0,so,st,fi,one,two,rows,⟨eL,hC,hR,good⟩,k⟩:=hq0
   rA ⟨_,(#h (#K (dv 0) (#ac (dv 1) (#v c_Rule_twin (List.Mem.head _) er.l_Rule #d Fu) hr #r) rfl) (#h (#K (dv 0) Jj rfl) (#i (#K (dv 0) Ab rfl)))),?_⟩
   have cl:Ow K C0∧NoAttr K C0 "rule"∧NoAttr K C0 "kept"∧NoAttr K C0 "last":=Ca er.y_Ledger hC▸⟨er.l_Ledger,er.na_Ledger_rule,er.na_Ledger_kept,er.na_Ledger_last⟩
   obtain ⟨C,dx,fs,T,e,kn,f,tb⟩:=id hR
   obtain ⟨sp,hm,hs⟩:=Aox (ns:=ns) er.y_Rule so C kn
   rA ⟨a,C,dx,fs,sp,rfl,e,hm,f.tw,hs a H st fi one two rows _ hR good fun r H1 s1 nr hr=>⟨L,C0,dx0,[],rfl,s1 _ _ eL,cl.1,cl.2.1,by decide,?_⟩⟩
   have nrL:r≠L:=fun z=>by rw [z,eL] at nr;cases nr
   have x2:Sx L H1 (upd H1 L (.ins C0 dx0 (Bc "rule" (.ref r) []))):=Sx.upd
   have e2:upd H1 L (.ins C0 dx0 (Bc "rule" (.ref r) [])) L=some (.ins C0 dx0 (Bc "rule" (.ref r) [])):=Ag
   have kt2:=x2.kt (s1 _ _ eL)
   have sx:∀{H':Hp},Sx L H1 H'→Kt H1 H'→P4 K H' r so st fi one two rows:=fun {H'} sx kt=>by
    obtain ⟨C',dx',fs',T',e',kn',f',vs',t1,t2⟩:=hr
    eC ⟨C',dx',fs',T',sx _ _ nrL e',kn',f',vs',sx _ _ (fun z=>by rw [z,s1 _ _ eL] at t1;cases t1) t1,t2.imp fun v g r=>Ea v g _ _ kt r⟩
   generalize upd H1 L (.ins C0 dx0 (Bc "rule" (.ref r) []))=H2 at x2 e2 kt2
   intro A hA
   have nAL:A≠L:=fun z=>by rw [z,e2] at hA;cases hA
   have s3:Ah H2 (upd H2 A (.dK [])):=Ap hA
   have e3:upd H2 A (.dK []) A=some (.dK []):=Ag
   generalize upd H2 A (.dK [])=H3 at s3 e3
   have l1:=Cm "rule" (.ref r) []
   have l2:=Cm "kept" (.ref A) (Bc "rule" (.ref r) [])
   have l3:=Cm "last" (.int 0) (Bc "kept" (.ref A) (Bc "rule" (.ref r) []))
   have l0:([]:List (Str×V)).length=0:=rfl
   have e3L:=s3 _ _ e2
   rA ⟨L,C0,dx0,_,rfl,e3L,cl.1,cl.2.2.1,by omega,L,C0,dx0,_,rfl,Ag,cl.1,cl.2.2.2,by omega,?_⟩
   have x5:Sx L H1 (upd (upd H3 L (.ins C0 dx0 (Bc "kept" (.ref A) (Bc "rule" (.ref r) [])))) L (.ins C0 dx0 (Bc "last" (.int 0) (Bc "kept" (.ref A) (Bc "rule" (.ref r) []))))):=x2.trans (Sx.trans (Sx.of s3) (Sx.trans Sx.upd Sx.upd))
   have kt5:Kt H1 (upd (upd H3 L (.ins C0 dx0 (Bc "kept" (.ref A) (Bc "rule" (.ref r) [])))) L (.ins C0 dx0 (Bc "last" (.int 0) (Bc "kept" (.ref A) (Bc "rule" (.ref r) []))))):=x5.kt (s1 _ _ eL)
   rA k A r _ (Sx.trans (Sx.of s1) x5) ?_ nAL nr ⟨C0,dx0,_,Ag,hC,⟨Ax #k Iw,Iw,Ax #k (Ax #k Iw),Ax #k (Ax #k (Ax #k rfl)),Ax #k (Ax #k (Ax #k rfl)),Ax #k (Ax #k (Ax #k rfl)),Ax #k (Ax #k (Ax #k rfl)),Ax #k (Ax #k (Ax #k rfl)),by omega⟩,[],?_,.nil⟩ (sx x5 kt5)
   ·cases c:H A with
    |none=>rfl
    |some o=>
     rw [x2 A o nAL (s1 _ _ c)] at hA
     cases hA
   ·rw [Ao nAL,Ao nAL]
    eC e3
theorem Fv.smt {K:KKf}{T L A R:Addr}{H H':Hp}{es:List En}{last:Int}{pos:Pos}{q:Str}(sm:Mf T H H')(tk:Av H T pos q)(h:Fv K H L A R es last):Fv K H' L A R es last:=by
 obtain ⟨ps,tt,_⟩:=tk
 obtain ⟨C,dx,fs,eL,hC,fd,kvs,eA,al⟩:=h
 have kt:Kt H H':=fun p xs e=>sm p _ (fun z=>by rw [z,tt] at e;cases e) e
 eC ⟨C,dx,fs,sm _ _ (fun z=>by rw [z,tt] at eL;cases eL) eL,hC,fd,kvs,sm _ _ (fun z=>by rw [z,tt] at eA;cases eA) eA,al.imp fun kv e r=>Iy kv e _ _ kt r⟩
theorem Fv.up {K:KKf}{H H':Hp}{L A R:Addr}{es:List En}{last:Int}(s:Ah H H')(h:Fv K H L A R es last):Fv K H' L A R es last:=by
 obtain ⟨C,dx,fs,eL,hC,fd,kvs,eA,al⟩:=h
 eC ⟨C,dx,fs,s _ _ eL,hC,fd,kvs,s _ _ eA,al.imp fun kv e r=>Iy kv e _ _ (Be s) r⟩
theorem Ze {gs:List Gm}:∀{p:List Nat},(∀i∈p,i<gs.length)→∀(i:Nat),(pg gs p)[i]? =(p[i]?).bind fun j=>gs[j]?
 |[],_,i=>by
  show ([]:List Gm)[i]? =_
  simp
 | j::p,h,i=>by
  have hj:=h j AK
  have e:pg gs (j::p)=gs[j]::pg gs p:=by
   unfold pg
   rw [DT,AD hj]
  rw [e]
  cases i with
  |zero=>simp [AD hj]
  |succ i=>
   rw [DS,DS]
   eC Ze (fun i hi=>h i (AJ _ hi)) i
theorem M4 {gs:List Gm}:∀{p:List Nat},(∀i∈p,i<gs.length)→(pg gs p).length=p.length
 |[],_=>rfl
 | j::p,h=>by
  have hj:=h j AK
  have e:pg gs (j::p)=gs[j]::pg gs p:=by
   unfold pg
   rw [DT,AD hj]
  rw [e,AY,AY,M4 fun i hi=>h i (AJ _ hi)]
theorem Ako (gs:List Gm):pg gs (List.range gs.length)=gs:=by
 rA GX fun i=>?_
 rw [Ze fun i hi=>BZ.mp hi]
 by_cases h:i<gs.length
 ·rw [List.getElem?_range h]
  rfl
 ·rw [DA (by rw [DQ];omega),DA #o]
  rfl
theorem Wt {gs:List Gm}{p q:List Nat}(hp:Jp (dk gs) gs.length p)(hq:Jp (dk (pg gs p)) (pg gs p).length q):pg (pg gs p) q=pg gs p:=by
 have l:(pg gs p).length=p.length:=M4 hp.2.1
 have dg:∀i (h:i<p.length),dk (pg gs p) i=dk gs p[i]:=fun i h=>by
  unfold dk
  rw [Ze hp.2.1,AD h]
  rfl
 have hr:Jp (dk (pg gs p)) (pg gs p).length (List.range (pg gs p).length):=by
  rA ⟨DQ,fun i hi=>BZ.mp hi,?_⟩
  rA EN.mpr fun i j hi hj ij=>?_
  rw [DQ] at hi hj
  rw [List.getElem_range,List.getElem_range]
  show dk (pg gs p) i<dk (pg gs p) j∨dk (pg gs p) i=dk (pg gs p) j∧i<j
  rw [dg i #o,dg j #o]
  rcases EN.mp hp.2.2 i j #o #o ij with z|⟨z,_⟩
  ·eC .inl z
  ·eC .inr ⟨z,ij⟩
 rw [Qm hq hr,Ako]
theorem Kb {gs:List Gm}{p:List Nat}(hp:Jp (dk gs) gs.length p):Ge (pg gs p)=Ge gs:=Le (C8 _) (C8 _) fun x=>by
 show x∈Ge (pg gs p)↔x∈Ge gs
 rw [Cy,Cy]
 eC ⟨fun ⟨g,h,c⟩=>⟨g,(Oo hp).mp h,c⟩,fun ⟨g,h,c⟩=>⟨g,(Oo hp).mpr h,c⟩⟩
def GOk (es:List En):Prop:=∀e∈es,(0≤e.2.h∧e.2.h≤2)∧e.2.a≠e.2.b
def Gk (K:KKf)(ns:List Int):Sp:=fun vs H Q _=>match vs with
 |[.ref L]=>∃(A R:Addr) (es:List En) (last so st fi one two:Int) (rows:List Rw),(Fv K H L A R es last∧Oi K (Ht (Bn K) H) R so st fi one two rows∧Tb rows∧Nb st one two∧Bd 40 fi∧es.length≤40∧GOk es∧Av H (Bn K) Bu Em∧(Ge (es.map (·.2))).length≤8) ∧
  ∀D vs H' p,Mf (Bn K) H H'→H D=none→H' D=some (.lst vs)→Av H' (Bn K) Bu Em→Jp (dk (es.map (·.2))) (es.map (·.2)).length p→Az (Ln H') vs ((Ge (es.map (·.2))).map fun x=>(x,wq fi (K0 so st fi one two rows (fun _=>none) (pg (es.map (·.2)) p) x)))→Q (.ref D) H'
 |_=>False
theorem Mi:Ai ["self"] ["self"] (Af E1):=⟨rfl,rfl,rfl,by decide +kernel,rfl,by decide +kernel,by decide +kernel⟩
local notation "#aT"=>Df P w K mg base [c_Ledger] [] "worths" ["self"] 11 (Gk K ns)
theorem Mo (d:Ej K [c_Ledger] [] "worths" "Ledger.worths" E1 ["self"])(er:#am)   (c_running:#aJ)(c_Ledger_games:#aQ):#aT:=by
 rA d.cal (k:=10) Mi (fun vs H Q E h=>?_) (fun f cdv A outer s H vs Q E hr h=>?_)
 ·match vs,h with
  |[.ref L],_=>rfl
 ·match vs,h with
  | [.ref L],hq0=>
   obtain ⟨A,R,es,last,so,st,fi,one,two,rows,⟨lg,hR,tb,b,hf,l30,gok,tk,l8⟩,k⟩:=hq0
   rA ⟨_,(#i (#j (#b c_running hr #d #r (#a (#z (dv 0) #r) (#a (#ac (dv 0) (#v c_Ledger_games (List.Mem.head _) er.l_Ledger #d Fu) hr #r) Ac #r) #r) #d #r #r))),?_⟩
   obtain ⟨C,dx,fs,eL,hC,fd,kp⟩:=id lg
   have cl:Ow K C∧NoAttr K C "rule":=Ca er.y_Ledger hC▸⟨er.l_Ledger,er.na_Ledger_rule⟩
   have hCc:=Ca hC er.y_Ledger
   subst hCc
   rA ⟨L,_,dx,fs,_,rfl,eL,cl.1,cl.2,fd.ru,L,_,dx,fs,_,rfl,eL,.head _,fd.ga,A,R,es,last,⟨lg,by omega,tk⟩,fun F fv H1 p sm nF eF tk1 stb aF=>?_⟩
   obtain ⟨ps,tt,_⟩:=id tk1
   have so1:Ah (Ht (Bn K) H) (Ht (Bn K) H1):=Ab2 (Vj Pm sm)
   have lpg:(pg (es.map (·.2)) p).length≤40:=by
    rw [M4 stb.2.1,stb.1,AE]
    eC l30
   rA ⟨so,st,fi,one,two,rows,_,fv,⟨hR.up so1,tb,b,hf,A3.of (Aep tt eF fun _=>nofun),aF.imp fun v g r=>Cw v g _ _ (Ami tt) r,lpg,by rw [Kb stb];eC l8,fun g hg=>?_,tk1⟩,fun D vs q H2 sm2 nD eD tk2 stb2 aD=>?_⟩
   ·obtain ⟨e,he,rfl⟩:=BG.mp (Qq hg)
    eC gok e he
   rw [Wt stb stb2,Kb stb] at aD
   rA k D vs H2 p (fun b o ne e=>sm2 b o ne (sm b o ne e)) ?_ eD tk2 stb aD
   cases c:H D with
   |none=>rfl
   | some o=>
    exfalso
    by_cases z:D=Bn K
    ·rw [z,tt] at nD
     cases nD
    ·rw [sm D o z c] at nD
     cases nD
def Apa (H:Hp)(v:V)(e:En):Prop:=∃t p,v=.ref t∧H t=some (.tup [.int e.1,.ref p])∧H p=some (.tup [.int e.2.d,.str e.2.a,.str e.2.b,.int e.2.h,.int e.2.s])
def d0:En:=(0,⟨0,⟨#[]⟩,⟨#[]⟩,0,0⟩)
def lx (a b:En):Prop:=a.2.d<b.2.d∨a.2.d=b.2.d∧a.1<b.1
def nqd (x:Str×Q2):PyData:=.tuple [.str x.1,.tuple [.int x.2.1,.int x.2.2]]
theorem Agx {K:KKf}{H:Hp}:∀{vs:List V} {ss:List (Str×Q2)},Az (Ln H) vs ss→Rj K H vs (ss.map nqd)
 |_,_,.nil=>.nil
 |_,_,.cons ⟨t,p,e,h0,h1⟩ r=>by
  subst e
  eC .cons (.tup (Ec.of h0) (.cons (.str _) (.cons (.tup (Ec.of h1) (.cons (.int _) (.cons (.int _) .nil))) .nil))) (Agx r)
theorem Akg:∀{ss:List (Str×Q2)},(∀s∈ss,PyData.strOk s.1=true)→PyData.canLayAll0 (ss.map nqd)=true
 |[],_=>rfl
 |s::ss,h=>by
  have h1:=h s AK
  show (((PyData.strOk s.1&&((true&&(true&&true))&&true)))&&PyData.canLayAll0 (ss.map nqd))=true
  rw [h1,Akg fun s hs=>h s (AJ _ hs)]
  rfl
theorem Akb:∀(ss:List (Str×Q2)),PyData.depthAll (ss.map nqd)≤2
 |[]=>AV _
 |s::ss=>by
  have e:(nqd s).depth=2:=rfl
  show max (nqd s).depth (PyData.depthAll (ss.map nqd))≤2
  rw [e]
  have:=Akb ss
  omega
theorem Aor {ss:List (Str×Q2)}(h:∀s∈ss,PyData.strOk s.1=true):SeqAt.shaped (.list (ss.map nqd))=true:=by
 unfold SeqAt.shaped
 have e:(PyData.list (ss.map nqd)).depth=PyData.depthAll (ss.map nqd)+1:=rfl
 have:=Akb ss
 rw [show (PyData.list (ss.map nqd)).canLay0=true from Akg h,e,FE]
 eC AQ #o
def pnd (e:En):PyData:=.tuple [.int e.1,.tuple [.int e.2.d,.str e.2.a,.str e.2.b,.int e.2.h,.int e.2.s]]
theorem Ag4 {K:KKf}{H:Hp}:∀{vs:List V} {es:List En},Az (Apa H) vs es→Rj K H vs (es.map pnd)
 |_,_,.nil=>.nil
 |_,_,.cons ⟨t,p,z,h0,h1⟩ r=>by
  subst z
  eC .cons (.tup (Ec.of h0) (.cons (.int _) (.cons (.tup (Ec.of h1) (.cons (.int _) (.cons (.str _) (.cons (.str _) (.cons (.int _) (.cons (.int _) .nil)))))) .nil))) (Ag4 r)
theorem Aj9:∀{es:List En},(∀e∈es,PyData.strOk e.2.a=true∧PyData.strOk e.2.b=true)→PyData.canLayAll0 (es.map pnd)=true
 |[],_=>rfl
 |e::es,h=>by
  obtain ⟨h1,h2⟩:=h e AK
  show ((true&&((true&&(PyData.strOk e.2.a&&(PyData.strOk e.2.b&&(true&&(true&&true)))))&&true))&&PyData.canLayAll0 (es.map pnd))=true
  rw [h1,h2,Aj9 fun e he=>h e (AJ _ he)]
  rfl
theorem Aj8:∀(es:List En),PyData.depthAll (es.map pnd)≤2
 |[]=>AV _
 |e::es=>by
  have z:(pnd e).depth=2:=rfl
  show max (pnd e).depth (PyData.depthAll (es.map pnd))≤2
  rw [z]
  have:=Aj8 es
  omega
theorem Ap7 {es:List En}(h:∀e∈es,PyData.strOk e.2.a=true∧PyData.strOk e.2.b=true):SeqAt.shaped (.list (es.map pnd))=true:=by
 unfold SeqAt.shaped
 have e:(PyData.list (es.map pnd)).depth=PyData.depthAll (es.map pnd)+1:=rfl
 have:=Aj8 es
 rw [show (PyData.list (es.map pnd)).canLay0=true from Aj9 h,e,FE]
 eC AQ #o
theorem Oy {K:KKf}{L A R T:Addr}{H H':Hp}{es:List En}{last:Int}{pos:Pos}{q:Str}(h:O0 L A T H H')(lg:Fv K H L A R es last)(tk:Av H T pos q):(∀b xs,H b=some (.lst xs)→H' b=some (.lst xs))∧Kt H H':=by
 obtain ⟨C,dx,fs,eL,_,_,kvs,eA,_⟩:=lg
 obtain ⟨ps,eT,_⟩:=tk
 rA ⟨fun b xs e=>h b _ ?_ ?_ ?_ e,fun b xs e=>h b _ ?_ ?_ ?_ e⟩
 ·eC fun z=>by rw [z,eL] at e;cases e
 ·eC fun z=>by rw [z,eA] at e;cases e
 ·eC fun z=>by rw [z,eT] at e;cases e
 ·eC fun z=>by rw [z,eL] at e;cases e
 ·eC fun z=>by rw [z,eA] at e;cases e
 ·eC fun z=>by rw [z,eT] at e;cases e
theorem Ajh {nm:List Str}{es:List En}{last:Int}{g:Gm}(ok:Acr nm es last)(ga:g.a∈nm)(gb:g.b∈nm):Acr nm (es++[(last+1,g)]) (last+1):=by
 rA ⟨List.pairwise_append.mpr ⟨ok.inc,FC ..,fun a ha b hb=>?_⟩,fun e he=>?_,fun e he=>?_⟩
 ·rw [AW.mp hb]
  have:=ok.le a ha
  show a.1<last+1
  omega
 ·rcases BV.mp he with h|h
  ·have:=ok.le e h
   omega
  ·rw [AW.mp h]
   eC Int.le_refl _
 ·rcases BV.mp he with h|h
  ·eC ok.mem e h
  ·rw [AW.mp h]
   eC ⟨ga,gb⟩
theorem Am3 {u:HO}{t:String}(h:Amg u=some t):tyB t "str"=some false:=by
 cases u with
 |lst _=>cases h;rfl
 |tup _=>cases h;rfl
 |dK _=>cases h;rfl
 |dT _=>cases h;rfl
 |frz o u=>
  cases u with
  |lst _=>cases h;rfl
  |_=>cases h
 |_=>cases h
def Lk (x:Str):Bool:=decide (1≤x.length)&&decide (x.length≤8)&&(co x).all fun c=>decide (c∈co abc)
def Od:V→Bool
 |.str x=>Lk x
 |_=>false
theorem Ah2 {c:Nat}:c∈co abc↔97≤c∧c<123:=by
 have e:co abc=(List.range 26).map fun j=>97+j:=by decide +kernel
 rw [e,BG]
 constructor
 ·rintro ⟨j,hj,rfl⟩
  have:=BZ.mp hj
  omega
 ·intro h
  eC ⟨c-97,BZ.mpr #o,by omega⟩
theorem _root_.Lw.Nm.is {x:Str}(h:Nm x):Lk x=true:=by
 unfold Lk
 have l:=Bo x
 have h1:=h.len1
 have h8:=h.len8
 rw [BR,BR]
 rA ⟨⟨AQ #o,AQ #o⟩,CH.mpr fun c hc=>AQ (Ah2.mpr (h.abc c hc))⟩
def Qb (K:KKf)(ns:List Int):Sp:=fun vs H Q _=>match vs with
 |[v]=>Kd H v∧(∀z,v=.str z→z.length≤1000)∧∀H',Ah H H'→Q (.bl (Od v)) H'
 |_=>False
theorem Yg:Ai ["thing"] ["thing"] (Af Mp):=⟨rfl,rfl,rfl,by decide +kernel,rfl,by decide +kernel,by decide +kernel⟩
local notation "#aU"=>Ba P w K mg base "is_name" ["thing"] 1 (Qb K ns)
theorem Yq (d:Bj K mg "is_name" Mp ["thing"])(er:#am)(n_all:mg "all"=none)(n_len:mg "len"=none)(n_isinstance:mg "isinstance"=none)(n_str:mg "str"=none)(v_LETTERS:Gv mg "LETTERS" (.str "abcdefghijklmnopqrstuvwxyz"))(v_LONGEST_NAME:Gv mg "LONGEST_NAME" (.int (8))) :#aU:=by
 rA d.cal (k:=0) Yg (fun vs H Q E h=>?_) (fun f cdv A outer s H vs Q E hr h=>?_)
 ·match vs,h with
  |[_],_=>rfl
 ·rA ⟨_,(#h (#m (@L2.PW.pt _ _ _ (#J (#B (#D (#l Sg #r n_isinstance #k (#a (dv 0) (#a (Zr "str" #r n_str #k) Ac #r) #r) #d #d #r #r) (by intro _;rfl))) (#S (#B (#T Qz Qz Ab (#l C9 #r n_len #k (#a (dv 0) Ac #r) #d #d #r #r) (Cu v_LONGEST_NAME #r) (by with_unfolding_all rfl)))))) (#i (#j Lv)) Aw) (#i (#j (#l (#al rfl) #r n_all #k (#a (#s ["sign"] [] [] rfl (@Aey _ _ _ _ (dv 0)) (fun C s H fp=>(#E (0) _ (show List.Nodup [("sign":Str)] by decide +kernel) rfl #t #t)) (fun C s H fp=>(#A Akh (dv 0) (Cu v_LETTERS #r) (by with_unfolding_all rfl))) rfl rfl #k #k #r True.intro True.intro (by intro _;rfl)) Ac #r) #d #d #r #r)))),?_⟩
  match vs,h with
  |[.int _],⟨_,_,q⟩=>eC ⟨false,rfl,⟨fun _=>⟨fun _=>q _ (Ah.refl _),fun h=>nb h⟩,fun h=>nb h⟩⟩
  |[.bl _],⟨_,_,q⟩=>eC ⟨false,rfl,⟨fun _=>⟨fun _=>q _ (Ah.refl _),fun h=>nb h⟩,fun h=>nb h⟩⟩
  |[.non],⟨_,_,q⟩=>eC ⟨false,rfl,⟨fun _=>⟨fun _=>q _ (Ah.refl _),fun h=>nb h⟩,fun h=>nb h⟩⟩
  |[.ref _],⟨⟨u,t,h1,h2,h3⟩,_,q⟩=>eC ⟨u,false,t,h1,h2,Am3 h2,⟨fun _=>⟨fun _=>q _ (Ah.refl _),fun h=>nb h⟩,fun h=>nb h⟩⟩
  |[.flt _],⟨z,_⟩=>eC z.elim
  |[.byt _],⟨z,_⟩=>eC z.elim
  |[.ty _],⟨z,_⟩=>eC z.elim
  | [.str x],⟨_,hz,q⟩=>
   have hz:=hz x rfl
   rA ⟨true,rfl,⟨fun h=>nb h,fun _=>⟨AO hz #d,⟨fun h1=>⟨fun h2=>?_,fun h2=>?_⟩,fun h1=>?_⟩⟩⟩⟩
   ·have h2:¬(x.length:Int)≤8:=by simpa using h2
    have e:Od (.str x)=false:=by
     show Lk x=false
     unfold Lk
     rw [BA (show ¬x.length≤8 by omega),GM,ER]
    have q:=q _ (Ah.refl _)
    rw [e] at q
    eC q
   ·have h2:(x.length:Int)≤8:=by simpa using h2
    show Hq (Its x) _ _ _ _ _ _ _
    rA Wu (fun c=>.bl (decide (c∈co abc))) hz (fun c H2 hc s2 P hP=>⟨rfl,c,rfl,hP⟩) fun D H2 s2 e2=>⟨(co x).map fun c=>decide (c∈co abc),A3.of (by rw [e2,EV];rfl),?_⟩
    have e:Od (.str x)=((co x).map fun c=>decide (c∈co abc)).all id:=by
     have h1:(1:Int)≤x.length:=AZ h1
     show Lk x=_
     unfold Lk
     rw [AQ (show 1≤x.length by omega),AQ (show x.length≤8 by omega),List.all_map]
     rfl
    rw [←e]
    eC q H2 s2
   ·rA ⟨fun _=>?_,fun h=>nb h⟩
    have e:Od (.str x)=false:=by
     have h1:¬(1:Int)≤x.length:=BM h1
     show Lk x=false
     unfold Lk
     rw [BA (show ¬1≤x.length by omega),ER,ER]
    have q:=q _ (Ah.refl _)
    rw [e] at q
    eC q
def eqS:V→V→Bool
 |.str a,.str b=>decide (a=b)
 |_,_=>false
def F0 (d x y h s:V):Bool:=btw d 0 9999&&Od x&&Od y&&!eqS x y&&btw h 0 2&&btw s (-1) 1
def SL (v:V):Prop:=∀z,v=.str z→z.length≤1000
def Aa7 (K:KKf)(ns:List Int):Sp:=fun vs H Q E=>match vs with
 |[d,x,y,h,s]=>(Kd H d∧Kd H x∧Kd H y∧Kd H h∧Kd H s)∧(SL x∧SL y)∧(F0 d x y h s=false→∀H',Ah H H'→ExN K "NoGame" E H')∧(F0 d x y h s=true→∀p H',Ah H H'→H' p=some (.tup [d,x,y,h,s])→Q (.ref p) H')
 |_=>False
theorem Aip:Ai ["day","one","other","halves","side"] ["day","one","other","halves","side"] (Af Yh):=⟨rfl,rfl,rfl,by decide +kernel,rfl,by decide +kernel,by decide +kernel⟩
local notation "#aV"=>Ba P w K mg base "game" ["day","one","other","halves","side"] 3 (Aa7 K ns)
theorem Aim (d:Bj K mg "game" Yh ["day","one","other","halves","side"])(er:#am)  (v_LAST_DAY:Gv mg "LAST_DAY" (.int (9999)))(c_is_between:#aq)(c_is_name:#aU):#aV:=by
 rA d.calX (k:=2) Aip (fun vs H Q E h=>?_) (fun f cdv A outer s H vs Q E hr h=>?_)
 ·match vs,h with
  |[d0,x,y,h0,s0],_=>rfl
 ·match vs,h with
  | [d0,x,y,h0,s0],hq0=>
   obtain ⟨⟨kd,kx,ky,kh,ks⟩,⟨lx,ly⟩,ex,q⟩:=hq0
   rA ⟨_,(#h (#m (#B (#D (#b c_is_between hr #d #r (#a (dv 0) (#a Ab (#a (Cu v_LAST_DAY #r) Ac #r) #r) #r) #d #r #r) (by intro _;rfl))) (#i (#p er.b_NoGame er.z_NoGame #r #d)) Aw) (#h (#m (@L2.PW.pt _ _ _ (#J (#B (#D (#b c_is_name hr #d #r (#a (dv 1) Ac #r) #d #r #r) (by intro _;rfl))) (#S (#B (#D (#b c_is_name hr #d #r (#a (dv 2) Ac #r) #d #r #r) (by intro _;rfl)))))) (#i (#p er.b_NoGame er.z_NoGame #r #d)) Aw) (#h (#m (#n Gg (dv 1) (dv 2) (#w #d #d)) (#i (#p er.b_NoGame er.z_NoGame #r #d)) Aw) (#h (#m (#B (#D (#b c_is_between hr #d #r (#a (dv 3) (#a Ab (#a Ab Ac #r) #r) #r) #d #r #r) (by intro _;rfl))) (#i (#p er.b_NoGame er.z_NoGame #r #d)) Aw) (#h (#m (#B (#D (#b c_is_between hr #d #r (#a (dv 4) (#a (#R Lf Ab) (#a Ab Ac #r) #r) #r) #d #r #r) (by intro _;rfl))) (#i (#p er.b_NoGame er.z_NoGame #r #d)) Aw) (#i (#j (#u (#a (dv 0) (#a (dv 1) (#a (dv 2) (#a (dv 3) (#a (dv 4) Ac #r) #r) #r) #r) #r))))))))),?_⟩
   rA ⟨kd,⟨fun h1=>?_,fun h1=>?_⟩⟩
   ·have h1:btw d0 0 9999=false:=by simpa using h1
    eC ex (by simp [F0,h1]) H (Ah.refl _) _ er.y_NoGame
   have h1:btw d0 0 9999=true:=by simpa using h1
   rA ⟨kx,lx,fun H1 s1=>⟨fun h2=>⟨fun _=>?_,fun h=>absurd h #d⟩,fun h2=>⟨ky.up s1,ly,fun H2 s2=>⟨fun h3=>?_,fun h3=>?_⟩⟩⟩⟩
   ·have h2:Od x=false:=by simpa using h2
    eC ex (by simp [F0,h2]) H1 s1 _ er.y_NoGame
   ·have h3:Od y=false:=by simpa using h3
    eC ex (by simp [F0,h3]) H2 (s1.trans s2) _ er.y_NoGame
   have h2:Od x=true:=by simpa using h2
   have h3:Od y=true:=by simpa using h3
   have s2:=s1.trans s2
   match x,y,h2,h3,ex,q with
   | .str x,.str y,h2,h3,ex,q=>
    rA ⟨fun h4=>?_,fun h4=>⟨kh.up s2,⟨fun h5=>?_,fun h5=>⟨ks.up s2,⟨fun h6=>?_,fun h6=>fun p H' s e=>?_⟩⟩⟩⟩⟩
    ·have h4:eqS (.str x) (.str y)=true:=h4
     eC ex (by simp [F0,h4]) H2 s2 _ er.y_NoGame
    ·have h5:btw h0 0 2=false:=by simpa using h5
     eC ex (by simp [F0,h5]) H2 s2 _ er.y_NoGame
    ·have h6:btw s0 (-1) 1=false:=by simpa using h6
     eC ex (by simp [F0,h6]) H2 s2 _ er.y_NoGame
    ·have h4:eqS (.str x) (.str y)=false:=h4
     have h5:btw h0 0 2=true:=by simpa using h5
     have h6:btw s0 (-1) 1=true:=by simpa using h6
     eC q (by simp [F0,h1,h2,h3,h4,h5,h6]) p H' (s2.trans s) e
def Pg:Str:="0123456789"
def sd (x:Str):Bool:=decide ((co x).getLast? =some 42)
def us (x:Str):Str:=if sd x then Txt.slice x none (some (-1)) else x
def Je (x y:Str):Int:=if sd x then 1 else if sd y then -1 else 0
def F8 (x:Str):Bool:=decide (x="0")||(decide (1≤x.length)&&decide (x.length≤4)&&!decide ((co x)[0]? =some 48)&&(co x).all fun c=>decide (c∈co Pg))
theorem Aa0 {c:Nat}:c∈co Pg↔48≤c∧c≤57:=by
 have e:co Pg=(List.range 10).map fun j=>48+j:=by decide +kernel
 rw [e,BG]
 constructor
 ·rintro ⟨j,hj,rfl⟩
  have:=BZ.mp hj
  omega
 ·intro h
  eC ⟨c-48,BZ.mpr #o,by omega⟩
def Ep (K:KKf)(ns:List Int):Sp:=fun vs H Q _=>match vs with
 |[.str x]=>Q (.bl (sd x)) H
 |_=>False
theorem Q3:Ai ["word"] ["word"] (Af Hb):=⟨rfl,rfl,rfl,by decide +kernel,rfl,by decide +kernel,by decide +kernel⟩
local notation "#aW"=>Ba P w K mg base "is_starred" ["word"] 1 (Ep K ns)
theorem Rh (d:Bj K mg "is_starred" Hb ["word"])(er:#am)   :#aW:=by
 rA d.cal (k:=0) Q3 (fun vs H Q E h=>?_) (fun f cdv A outer s H vs Q E hr h=>?_)
 ·match vs,h with
  |[.str x],_=>rfl
 ·match vs,h with
  |[.str x],hq0=>
   have q:=hq0
   rA ⟨_,(#i (#j (#F PySem.F.plainAttrs_str PySem.F.slot_str_endswith PySem.F.type_str_endswith Al0 (dv 0) (#a A6 Ac #r) #r #r #r #r #r))),?_⟩
   rA ⟨rfl,?_⟩
   have e:Txt.endswith x "*"=sd x:=Apw x 42
   show Q (.bl (Txt.endswith x "*")) H
   rw [e]
   eC q
def Lz (K:KKf)(ns:List Int):Sp:=fun vs H Q _=>match vs with
 |[.str x]=>x.length≤1000∧Q (.str (us x)) H
 |_=>False
theorem Tz:Ai ["word"] ["word"] (Af Ij):=⟨rfl,rfl,rfl,by decide +kernel,rfl,by decide +kernel,by decide +kernel⟩
local notation "#aX"=>Ba P w K mg base "unstarred" ["word"] 2 (Lz K ns)
theorem Tt (d:Bj K mg "unstarred" Ij ["word"])(er:#am)   (c_is_starred:#aW):#aX:=by
 rA d.cal (k:=1) Tz (fun vs H Q E h=>?_) (fun f cdv A outer s H vs Q E hr h=>?_)
 ·match vs,h with
  |[.str x],_=>rfl
 ·match vs,h with
  | [.str x],hq0=>
   obtain ⟨hz,q⟩:=hq0
   rA ⟨_,(#i (#j (#N (#D (#b c_is_starred hr #d #r (#a (dv 0) Ac #r) #d #r #r) (by intro _;rfl)) (#I Vn (dv 0) Jt (Dj (L4 Lf Ab))) (dv 0)))),?_⟩
   unfold us at q
   rA ⟨fun h=>?_,fun h=>?_⟩
   ·rw [AN h] at q
    eC ⟨_,rfl,AO hz #d,q⟩
   ·rw [AI (by rw [h];decide)] at q
    eC q
def P6 (K:KKf)(ns:List Int):Sp:=fun vs H Q _=>match vs with
 |[.str x,.str y]=>Q (.int (Je x y)) H
 |_=>False
theorem Y7:Ai ["one","other"] ["one","other"] (Af M7):=⟨rfl,rfl,rfl,by decide +kernel,rfl,by decide +kernel,by decide +kernel⟩
local notation "#aY"=>Ba P w K mg base "side_of" ["one","other"] 2 (P6 K ns)
theorem Yo (d:Bj K mg "side_of" M7 ["one","other"])(er:#am)   (c_is_starred:#aW):#aY:=by
 rA d.cal (k:=1) Y7 (fun vs H Q E h=>?_) (fun f cdv A outer s H vs Q E hr h=>?_)
 ·match vs,h with
  |[.str x,.str y],_=>rfl
 ·match vs,h with
  | [.str x,.str y],hq0=>
   have q:=hq0
   rA ⟨_,(#h (#m (#D (#b c_is_starred hr #d #r (#a (dv 0) Ac #r) #d #r #r) (by intro _;rfl)) (#i (#j Ab)) Aw) (#i (#j (#N (#D (#b c_is_starred hr #d #r (#a (dv 1) Ac #r) #d #r #r) (by intro _;rfl)) (#R Lf Ab) Ab)))),?_⟩
   have q:Q (.int (Je x y)) H:=q
   unfold Je at q
   rA ⟨fun h=>?_,fun h=>⟨fun h'=>?_,fun h'=>?_⟩⟩
   ·rw [AN h] at q
    eC q
   ·rw [AI (by rw [h];decide),AN h'] at q
    eC q
   ·rw [AI (by rw [h];decide),AI (by rw [h'];decide)] at q
    eC q
def Ha (K:KKf)(ns:List Int):Sp:=fun vs H Q _=>match vs with
 |[.str x,.int m]=>((m=4∨(4≤m∧x.length≤4))∧x.length≤1000)∧∀H',Ah H H'→Q (.bl (F8 x)) H'
 |_=>False
theorem Vg:Ai ["word","longest"] ["word","longest"] (Af Ib):=⟨rfl,rfl,rfl,by decide +kernel,rfl,by decide +kernel,by decide +kernel⟩
local notation "#aZ"=>Ba P w K mg base "is_number" ["word","longest"] 1 (Ha K ns)
theorem Vk (d:Bj K mg "is_number" Ib ["word","longest"])(er:#am)(n_all:mg "all"=none)(n_len:mg "len"=none)(v_FIGURES:Gv mg "FIGURES" (.str "0123456789")) :#aZ:=by
 rA d.cal (k:=0) Vg (fun vs H Q E h=>?_) (fun f cdv A outer s H vs Q E hr h=>?_)
 ·match vs,h with
  |[.str x,.int m],_=>rfl
 ·match vs,h with
  | [.str x,.int m],hq0=>
   obtain ⟨⟨hm,hz⟩,q⟩:=hq0
   rA ⟨_,(#h (#m (#n Gg (dv 0) A6 (#w #d #d)) (#i (#j Lv)) Aw) (#h (#m (@L2.PW.pt _ _ _ (#J (#B (#T Qz Qz Ab (#l C9 #r n_len #k (#a (dv 0) Ac #r) #d #d #r #r) (dv 1) (by with_unfolding_all rfl))) (#S (#n Gg (#c Aj0 (dv 0) Ab (fun _ _=>rfl)) A6 (#w #d #d))))) (#i (#j Lv)) Aw) (#i (#j (#l (#al rfl) #r n_all #k (#a (#s ["sign"] [] [] rfl (@Aey _ _ _ _ (dv 0)) (fun C s H fp=>(#E (0) _ (show List.Nodup [("sign":Str)] by decide +kernel) rfl #t #t)) (fun C s H fp=>(#A Akh (dv 0) (Cu v_FIGURES #r) (by with_unfolding_all rfl))) rfl rfl #k #k #r True.intro True.intro (by intro _;rfl)) Ac #r) #d #d #r #r))))),?_⟩
   rA ⟨fun h0=>?_,fun h0=>?_⟩
   ·have h0:decide (x="0")=true:=h0
    have e:F8 x=true:=by
     unfold F8
     rw [h0,Bool.true_or]
    have q:=q H (Ah.refl _)
    rw [e] at q
    eC q
   have h0:decide (x="0")=false:=h0
   have hl:=Bo x
   have no:F8 x=false→Q (.bl false) H:=fun e=>by
    have q:=q H (Ah.refl _)
    rw [e] at q
    eC q
   rA ⟨AO hz #d,⟨fun h1=>⟨fun h2=>⟨fun _=>?_,fun h=>nb h⟩,fun h2=>?_⟩,fun h1=>⟨fun _=>⟨fun _=>?_,fun h=>nb h⟩,fun h=>nb h⟩⟩⟩
   ·have h2:¬(x.length:Int)≤m:=by simpa using h2
    rA no ?_
    unfold F8
    rw [h0,BA (show ¬x.length≤4 by omega)]
    simp
   ·have h1:(1:Int)≤x.length:=AZ h1
    have h2:(x.length:Int)≤m:=by simpa using h2
    cases ec:co x with
    |nil=>
     rw [ec] at hl
     have:0=x.length:=hl
     omega
    | cons c r=>
     have ei:(co x)[0]? =some c:=by rw [ec];rfl
     rA ⟨c,AO hz #d,A4 (j:=0) ei,⟨fun h3=>?_,fun h3=>?_⟩⟩
     ·have h3:(⟨#[c]⟩:Str)="0":=AZ h3
      have hc:c=48:=by
       have:=congrArg co h3
       rw [M9] at this
       have e:co ("0":Str)=[48]:=by decide +kernel
       rw [e] at this
       eC (List.cons.inj this).1
      rA no ?_
      unfold F8
      rw [h0,ei,hc]
      simp
     ·have h3:¬(⟨#[c]⟩:Str)="0":=BM h3
      have hc:c≠48:=by
       rintro rfl
       eC h3 #k
      show Hq (Its x) _ _ _ _ _ _ _
      rA Wu (fun c=>.bl (decide (c∈co Pg))) hz (fun c H2 hc s2 P hP=>⟨rfl,c,rfl,hP⟩) fun D H2 s2 e2=>⟨(co x).map fun c=>decide (c∈co Pg),A3.of (by rw [e2,EV];rfl),?_⟩
      have e:F8 x=((co x).map fun c=>decide (c∈co Pg)).all id:=by
       unfold F8
       rw [h0,AQ (show 1≤x.length by omega),AQ (show x.length≤4 by omega),ei,List.all_map]
       simp [hc]
      rw [←e]
      eC q H2 s2
   ·have h1:¬(1:Int)≤x.length:=BM h1
    rA no ?_
    unfold F8
    rw [h0,BA (show ¬1≤x.length by omega)]
    simp
def wd (h:Int):Str:=if h=0 then "lost" else if h=1 then "drew" else "beat"
def isW (x:Str):Bool:=decide (x="lost")||decide (x="drew")||decide (x="beat")
def wi (x:Str):Int:=if x="lost" then 0 else if x="drew" then 1 else 2
def Te (x:Str):Int:=(NumText.digitsVal (co x):Nat)
def rd4 (a b c d:Str):Bool:=F8 a&&isW c&&!(sd b&&sd d)&&F0 (.int (Te a)) (.str (us b)) (.str (us d)) (.int (wi c)) (.int (Je b d))
def rdL:List Str→Option (List V)
 |[a,b,c,d]=>if rd4 a b c d then some [.int (Te a),.str (us b),.str (us d),.int (wi c),.int (Je b d)] else none
 |_=>none
def rd (x:Str):Option (List V):=rdL (Txt.split x ⟨#[32]⟩)
theorem Agb {x:Str}(h:F8 x=true):x.length≤4∧PySem.intText? x=some (Te x):=by
 have hl:=Bo x
 have e0:co ("0":Str)=[48]:=by decide +kernel
 have key:x.length≤4∧co x≠[]∧∀c∈co x,48≤c∧c≤57:=by
  unfold F8 at h
  rw [Bool.or_eq_true] at h
  rcases h with h|h
  ·have h:x="0":=AZ h
   subst h
   rA ⟨by rw [←hl,e0];decide,by rw [e0];simp,fun c hc=>?_⟩
   rw [e0] at hc
   have:c=48:=by simpa using hc
   omega
  ·rw [BR,BR,BR] at h
   obtain ⟨⟨⟨h1,h2⟩,_⟩,h4⟩:=h
   have h1:=AZ h1
   have h2:=AZ h2
   rA ⟨h2,fun e=>?_,fun c hc=>Aa0.mp (AZ (CH.mp h4 c hc))⟩
   rw [e] at hl
   have:0=x.length:=hl
   omega
 eC ⟨key.1,intText_digits key.2.2 key.2.1 #o⟩
theorem Qk (c:Nat):∀{ws:List Str} {p:Str},p∈ws→(co p).length≤(co (Str.join ⟨#[c]⟩ ws)).length
 |[a],p,h=>by
  have:p=a:=by simpa using h
  rw [this]
  eC AF _
 | a::b::r,p,h=>by
  rw [Cr,AM,AY]
  rcases AU.mp h with rfl|h
  ·omega
  ·have:=Qk c (ws:=b::r) h
   omega
theorem Xn {x p:Str}(h:p∈Txt.split x ⟨#[32]⟩):p.length≤x.length:=by
 have:=Qk 32 h
 rw [StrLaws.join_split,Bo,Bo] at this
 eC this
theorem Afo {x a b c d:Str}(ew:Txt.split x ⟨#[32]⟩=[a,b,c,d])(e:rd4 a b c d=false):rd x=none:=by
 unfold rd
 rw [ew]
 show (if rd4 a b c d=true then _ else _)=_
 rw [e]
 rfl
theorem Agy {x a b c d:Str}(ew:Txt.split x ⟨#[32]⟩=[a,b,c,d])(e:rd4 a b c d=true):rd x=some [.int (Te a),.str (us b),.str (us d),.int (wi c),.int (Je b d)]:=by
 unfold rd
 rw [ew]
 show (if rd4 a b c d=true then _ else _)=_
 rw [AN e]
theorem Aen (c:Str):inV (.str c) [.str "lost",.str "drew",.str "beat"]=isW c:=by
 show (eqV (.str "lost") (.str c)||(eqV (.str "drew") (.str c)||(eqV (.str "beat") (.str c)||false)))=_
 unfold isW
 have e:∀y:Str,eqV (.str y) (.str c)=decide (c=y):=fun y=>by
  show (y==c)=_
  by_cases h:y=c
  ·subst h
   simp
  ·have h':¬c=y:=fun z=>h z.symm
   simp [h,h']
 rw [e,e,e,Bool.or_false,Bool.or_assoc]
def RG1 (x:Str)(H:Hp):L2.St→Hp→Prop:=fun σ H'=>∃(L:Addr) (a b c d:Str),σ=[some (.str x),some (.ref L),none]∧Ah H H'∧H' L=some (.lst [.str a,.str b,.str c,.str d])∧Txt.split x ⟨#[32]⟩=[a,b,c,d]∧F8 a=true∧isW c=true
def RG2 (x:Str)(H:Hp):L2.St→Hp→Prop:=fun σ H'=>∃(L:Addr) (a b c d:Str),σ=[some (.str x),some (.ref L),none]∧Ah H H'∧H' L=some (.lst [.str a,.str b,.str c,.str d])∧Txt.split x ⟨#[32]⟩=[a,b,c,d]∧F8 a=true∧isW c=true∧(sd b&&sd d)=false
def K9 (K:KKf)(ns:List Int):Sp:=fun vs H Q E=>match vs with
 |[.str x]=>x.length≤900∧(rd x=none→∀H',Ah H H'→ExN K "NoGame" E H')∧(∀g,rd x=some g→∀p H',Ah H H'→H' p=some (.tup g)→Q (.ref p) H')
 |_=>False
theorem G0:Ai ["text","words","side"] ["text"] (Af Iv):=⟨rfl,rfl,rfl,by decide +kernel,rfl,by decide +kernel,by decide +kernel⟩
local notation "#a0"=>Ba P w K mg base "read_game" ["text"] 4 (K9 K ns)
theorem S9 (d:Bj K mg "read_game" Iv ["text"])(er:#am)(n_int:mg "int"=none)(n_len:mg "len"=none)(n_isinstance:mg "isinstance"=none)(n_str:mg "str"=none)(v_WORDS:Gv mg "WORDS" (.ref a_WORDS))(w_WORDS:B1 K a_WORDS [.str "lost",.str "drew",.str "beat"])(v_LONGEST_DAY:Gv mg "LONGEST_DAY" (.int (4)))(c_game:#aV)(c_unstarred:#aX)(c_side_of:#aY)(c_is_starred:#aW)(c_is_number:#aZ):#a0:=by
 rA d.calX (k:=3) G0 (fun vs H Q E h=>?_) (fun f cdv A outer s H vs Q E hr h=>?_)
 ·match vs,h with
  |[.str x],_=>rfl
 ·match vs,h with
  | [.str x],hq0=>
   obtain ⟨hz,ex,q⟩:=hq0
   rA ⟨_,(#h (#m (#B (#D (#l Sg #r n_isinstance #k (#a (dv 0) (#a (Zr "str" #r n_str #k) Ac #r) #r) #d #d #r #r) (by intro _;rfl))) (#i (#p er.b_NoGame er.z_NoGame #r #d)) Aw) (#h (#q (1) _ _ _ _ G0.nd rfl #t (#F PySem.F.plainAttrs_str PySem.F.slot_str_split PySem.F.type_str_split Aaq (dv 0) (#a A6 Ac #r) #r #r #r #r #r) #r #t) (@Yl _ (RG1 x H) _ _ _ _ (#m (@L2.PW.pt _ _ _ (#J (#n Acb (#l C9 #r n_len #k (#a (dv 1) Ac #r) #d #d #r #r) Ab (#w #d #d)) (#J (#B (#D (#b c_is_number hr #d #r (#a (#c Cn (dv 1) Ab (fun _ _=>rfl)) (#a (Cu v_LONGEST_DAY #r) Ac #r) #r) #d #r #r) (by intro _;rfl))) (#S (#n Ahf (#c Cn (dv 1) Ab (fun _ _=>rfl)) (Cu v_WORDS #r) (by with_unfolding_all rfl)))))) (#i (#p er.b_NoGame er.z_NoGame #r #d)) Aw) (@Yl _ (RG2 x H) _ _ _ _ (#m (@L2.PW.pt _ _ _ (#Z (#D (#b c_is_starred hr #d #r (#a (#c Cn (dv 1) Ab (fun _ _=>rfl)) Ac #r) #d #r #r) (by intro _;rfl)) (#ai (#D (#b c_is_starred hr #d #r (#a (#c Cn (dv 1) Ab (fun _ _=>rfl)) Ac #r) #d #r #r) (by intro _;rfl))))) (#i (#p er.b_NoGame er.z_NoGame #r #d)) Aw) (#h (#q (2) _ _ _ _ G0.nd rfl #t (#b c_side_of hr #d #r (#a (#c Cn (dv 1) Ab (fun _ _=>rfl)) (#a (#c Cn (dv 1) Ab (fun _ _=>rfl)) Ac #r) #r) #d #r #r) #r #t) (#i (#j (#G c_game hr #d #r (#a (#y Z1 #r n_int #k (#a (#c Cn (dv 1) Ab (fun _ _=>rfl)) Ac #r) #d #d #r #r) (#a (#b c_unstarred hr #d #r (#a (#c Cn (dv 1) Ab (fun _ _=>rfl)) Ac #r) #d #r #r) (#a (#b c_unstarred hr #d #r (#a (#c Cn (dv 1) Ab (fun _ _=>rfl)) Ac #r) #d #r #r) (#a (#F PySem.F.plainAttrs_tuple PySem.F.slot_tuple_index PySem.F.type_tuple_index Amk (Cu v_WORDS #r) (#a (#c Cn (dv 1) Ab (fun _ _=>rfl)) Ac #r) #r #r #r #r #r) (#a (dv 2) Ac #r) #r) #r) #r) #r) #d #r #r)))))))),?_⟩
   rA ⟨true,rfl,⟨fun h=>nb h,fun _=>?_⟩⟩
   rA ⟨rfl,by decide +kernel,AO hz #d,fun L H1 s1 e1=>?_⟩
   have e1:H1 L=some (.lst ((Txt.split x ⟨#[32]⟩).map V.str)):=e1
   have ls:∀p∈Txt.split x ⟨#[32]⟩,p.length≤1000:=fun p hp=>AO (Xn hp) #o
   rA ⟨?_,?_⟩
   ·rA ⟨_,.inl (A3.of e1),⟨fun h1=>⟨fun _=>?_,fun h=>nb h⟩,fun h1=>?_⟩⟩
    ·have h1:¬(((Txt.split x ⟨#[32]⟩).map V.str).length:Int)=4:=by simpa using h1
     rA ex ?_ H1 s1 _ er.y_NoGame
     unfold rd rdL
     split
     ·rename_i e
      rw [e] at h1
      eC absurd rfl h1
     ·rfl
    have h1:(((Txt.split x ⟨#[32]⟩).map V.str).length:Int)=4:=by simpa using h1
    have h1:(Txt.split x ⟨#[32]⟩).length=4:=by
     rw [AE] at h1
     omega
    obtain ⟨a,b,c,d',ew⟩:∃a b c d':Str,Txt.split x ⟨#[32]⟩=[a,b,c,d']:=by
     generalize Txt.split x ⟨#[32]⟩=ws at h1
     match ws,h1 with
     |[a,b,c,d'],_=>eC ⟨a,b,c,d',rfl⟩
    have no:=Afo (x:=x) ew
    have e1:H1 L=some (.lst [.str a,.str b,.str c,.str d']):=by rw [e1,ew];rfl
    rA ⟨_,_,A3.of e1,A4 (j:=0) rfl,⟨.inl rfl,ls a (by rw [ew];simp)⟩,fun H2 s2=>⟨fun h2=>⟨fun _=>?_,fun h=>nb h⟩,fun h2=>?_⟩⟩
    ·have h2:F8 a=false:=by simpa using h2
     eC ex (no (by unfold rd4;rw [h2];rfl)) H2 (s1.trans s2) _ er.y_NoGame
    have h2:F8 a=true:=by simpa using h2
    have e2:=s2 _ _ e1
    have ein:=Aen c
    rA ⟨_,_,A3.of e2,A4 (j:=2) rfl,_,.inr (w_WORDS.sq _),rfl,rfl,⟨fun h3=>?_,fun h3=>?_⟩⟩
    ·have h3:(!inV (.str c) [.str "lost",.str "drew",.str "beat"])=true:=h3
     rw [ein] at h3
     have h3:isW c=false:=by simpa using h3
     eC ex (no (by unfold rd4;rw [h2,h3];rfl)) H2 (s1.trans s2) _ er.y_NoGame
    have h3:(!inV (.str c) [.str "lost",.str "drew",.str "beat"])=false:=h3
    rw [ein] at h3
    have h3:isW c=true:=by simpa using h3
    eC ⟨L,a,b,c,d',rfl,s1.trans s2,e2,ew,h2,h3⟩
   rintro σ H2 ⟨L,a,b,c,d',rfl,s2,e2,ew,ha,hc⟩
   have no:=Afo (x:=x) ew
   rA ⟨?_,?_⟩
   ·rA ⟨_,_,A3.of e2,A4 (j:=1) rfl,⟨fun h1=>⟨_,_,A3.of e2,A4 (j:=3) rfl,⟨fun h2=>?_,fun h2=>?_⟩⟩,fun h1=>⟨fun h=>nb h,fun _=>?_⟩⟩⟩
    ·eC ex (no (by unfold rd4;rw [ha,hc,show sd b=true from h1,show sd d'=true from h2];rfl)) H2 s2 _ er.y_NoGame
    ·eC ⟨L,a,b,c,d',rfl,s2,e2,ew,ha,hc,by rw [show sd d'=false from h2,GM]⟩
    ·eC ⟨L,a,b,c,d',rfl,s2,e2,ew,ha,hc,by rw [show sd b=false from h1,ER]⟩
   clear e2 ew ha hc no s2
   rintro σ H2 ⟨L,a,b,c,d',rfl,s2,e2,ew,ha,hc,hs⟩
   have no:=Afo (x:=x) ew
   have yes:=Agy (x:=x) ew
   obtain ⟨a4,an⟩:=Agb ha
   have lb:=ls b (by rw [ew];simp)
   have ld:=ls d' (by rw [ew];simp)
   have ul:∀z:Str,z.length≤1000→SL (.str (us z)):=fun z hz v e=>by
    cases e
    unfold us
    split
    ·eC AO (HI _ _ _) hz
    ·eC hz
   have fin:∀j:Nat,wi c=(j:Int)→((F0 (.int (Te a)) (.str (us b)) (.str (us d')) (.int (j:Int)) (.int (Je b d'))=false→∀H',Ah H2 H'→ExN K "NoGame" E H')∧(F0 (.int (Te a)) (.str (us b)) (.str (us d')) (.int (j:Int)) (.int (Je b d'))=true→∀p H',Ah H2 H'→H' p=some (.tup [.int (Te a),.str (us b),.str (us d'),.int (j:Int),.int (Je b d')])→Q (.ref p) H')):=by
    intro j ej
    rw [←ej]
    rA ⟨fun g H' s'=>ex (no ?_) H' (s2.trans s'),fun g p H' s' e'=>q _ (yes ?_) p H' (s2.trans s') e'⟩
    ·unfold rd4
     rw [g,GM]
    ·unfold rd4
     rw [g,ha,hc,hs]
     rfl
   rA ⟨_,_,A3.of e2,A4 (j:=1) rfl,_,_,A3.of e2,A4 (j:=3) rfl,?_⟩
   rA ⟨_,_,A3.of e2,A4 (j:=0) rfl,Te a,an,by omega,_,_,A3.of e2,A4 (j:=1) rfl,lb,_,_,A3.of e2,A4 (j:=3) rfl,ld,w_WORDS.tyV _,_,_,A3.of e2,A4 (j:=2) rfl,?_⟩
   have hw:c="lost"∨c="drew"∨c="beat":=by
    unfold isW at hc
    simpa [or_assoc] using hc
   rcases hw with rfl|rfl|rfl
   ·obtain ⟨f1,f2⟩:=fin 0 #k
    eC ⟨_,0,_,w_WORDS.sq _,rfl,rfl,rfl,by decide +kernel,fun m z hm=>absurd hm (Nat.not_lt_zero _),⟨True.intro,True.intro,True.intro,True.intro,True.intro⟩,⟨ul b lb,ul d' ld⟩,f1,f2⟩
   ·obtain ⟨f1,f2⟩:=fin 1 #k
    rA ⟨_,1,_,w_WORDS.sq _,rfl,rfl,rfl,by decide +kernel,fun m z hm hz=>?_,⟨True.intro,True.intro,True.intro,True.intro,True.intro⟩,⟨ul b lb,ul d' ld⟩,f1,f2⟩
    have:m=0:=by omega
    subst this
    cases hz
    decide +kernel
   ·obtain ⟨f1,f2⟩:=fin 2 #k
    rA ⟨_,2,_,w_WORDS.sq _,rfl,rfl,rfl,by decide +kernel,fun m z hm hz=>?_,⟨True.intro,True.intro,True.intro,True.intro,True.intro⟩,⟨ul b lb,ul d' ld⟩,f1,f2⟩
    have:m=0∨m=1:=by omega
    rcases this with rfl|rfl<;>(cases hz;decide +kernel)
def st (x:Str)(b:Bool):Str:=if b then x++⟨#[42]⟩ else x
theorem Mt (x:Str)(b:Bool):(st x b).length≤x.length+1:=by
 unfold st
 split
 ·rw [Bf]
  eC AF _
 ·omega
def wrS (d:Int)(x y:Str)(h s:Int):Str:=Str.join ⟨#[32]⟩ [(toString d:Str),st x (decide (s=1)),wd h,st y (decide (s=-1))]
theorem Ajw (f a b c:Str):((((((f++(" ":Str))++a)++(" ":Str))++b)++(" ":Str))++c)=Str.join ⟨#[32]⟩ [f,a,b,c]:=by
 apply Dn
 have e:co (" ":Str)=[32]:=by decide +kernel
 rw [Cr,Cr,Cr,Bq,Bq,Bq,Bq,Bq,Bq,e]
 show _=co f++32::(co a++32::(co b++32::co c))
 simp only [CN,List.singleton_append,List.cons_append,List.nil_append]
theorem Sj {d:Int}(h0:0≤d)(h1:d≤9999):(toString d:Str).length≤4:=by
 obtain ⟨m,rfl⟩:=Int.eq_ofNat_of_zero_le h0
 rw [←Bo]
 eC (Afl (m:=m) #o).2
theorem Tu (h:Int):(wd h).length≤4:=by
 unfold wd
 split
 ·decide +kernel
 ·split
  ·decide +kernel
  ·decide +kernel
theorem Hd {x:Str}(h:Nm x):x.length≤8:=by rw [←Bo];eC h.len8
theorem W3 {d:Int}(h0:0≤d)(h1:d≤9999):d.natAbs.log2<1920:=by
 have:Bd 100 d:=Dt (b:=10000) #o #o (A2 rfl)
 eC AL (Mb this #d) #d
theorem Aab {h:Int}(h0:0≤h)(h1:h≤2):Q6 [V.str "lost",.str "drew",.str "beat"] h=some (.str (wd h)):=by
 have:h=0∨h=1∨h=2:=by omega
 rcases this with rfl|rfl|rfl
 ·eC A4 (j:=0) rfl
 ·eC A4 (j:=1) rfl
 ·eC A4 (j:=2) rfl
theorem Afy {d h s:Int}{x y:Str}(d0:0≤d)(d1:d≤9999)(nx:Nm x)(ny:Nm y):(wrS d x y h s).length≤900:=by
 have lx:=Hd nx
 have ly:=Hd ny
 have l1:=Mt x (decide (s=1))
 have l2:=Mt y (decide (s=-1))
 have l3:=Sj d0 d1
 have l4:=Tu h
 have l5:(" ":Str).length=1:=by decide +kernel
 unfold wrS
 rw [←Ajw]
 simp only [Bf]
 omega
theorem Aam {m:Nat}(h:m<10000):F8 (toString ((m:Nat):Int):Str)=true:=by
 have hc:co (toString ((m:Nat):Int):Str)=fg m:=rfl
 have hl:=Bo (toString ((m:Nat):Int):Str)
 rw [hc] at hl
 obtain ⟨l1,l4⟩:=Afl h
 unfold F8
 by_cases h0:m=0
 ·subst h0
  rw [AQ #k,Bool.true_or]
 ·obtain ⟨c,r,ec,h9⟩:=Aih m #o
  rw [hc,AQ (show 1≤(toString ((m:Nat):Int):Str).length by omega),AQ (show (toString ((m:Nat):Int):Str).length≤4 by omega)]
  have e1:(fg m).all (fun c=>decide (c∈co Pg))=true:=CH.mpr fun c hc=>AQ (Aa0.mpr (Yb m c hc))
  rw [e1,ec]
  have:¬c=48:=by omega
  simp [this]
theorem Adv {x:Str}(h:Nm x){c:Nat}(hc:¬(97≤c∧c<123)):c∉co x:=fun z=>hc (h.abc c z)
theorem Wp {x:Str}(h:Nm x)(b:Bool):sd (st x b)=b:=by
 cases b with
 |true=>
  show decide ((co (x++⟨#[42]⟩)).getLast? =some 42)=true
  rw [Bq,M9]
  simp
 |false=>
  show decide ((co x).getLast? =some 42)=false
  rA BA fun e=>Adv h (c:=42) #o ?_
  eC List.mem_of_getLast? e
theorem Aay {x:Str}(h:Nm x)(b:Bool):us (st x b)=x:=by
 unfold us
 rw [Wp h]
 cases b with
 |true=>
  rw [AN rfl]
  apply Dn
  show co (Txt.slice (x++⟨#[42]⟩) none (some (-1)))=co x
  rw [Ahd,Bq,M9]
  simp
 |false=>rfl
theorem Abz {x:Str}(h:Nm x)(b:Bool):32∉co (st x b):=by
 cases b with
 | true=>
  show 32∉co (x++⟨#[42]⟩)
  rw [Bq,M9]
  intro z
  rcases BV.mp z with z|z
  ·eC Adv h #o z
  ·have:(32:Nat)=42:=by simpa using z
   omega
 |false=>eC Adv h #o
theorem Ah0 (h:Int):32∉co (wd h):=by
 unfold wd
 split
 ·decide +kernel
 ·split
  ·decide +kernel
  ·decide +kernel
theorem Aob {d h s:Int}{x y:Str}(d0:0≤d)(d1:d≤9999)(h0:0≤h)(h1:h≤2)(s0:-1≤s)(s1:s≤1)(nx:Nm x)(ny:Nm y)(ne:x≠y):rd (wrS d x y h s)=some [.int d,.str x,.str y,.int h,.int s]:=by
 obtain ⟨m,rfl⟩:=Int.eq_ofNat_of_zero_le d0
 have hm:m<10000:=by omega
 have ew:Txt.split (wrS m x y h s) ⟨#[32]⟩=[(toString ((m:Nat):Int):Str),st x (decide (s=1)),wd h,st y (decide (s=-1))]:=by
  rA Pr 32 (by simp) ?_ rfl
  intro p hp
  have hp:p=(toString ((m:Nat):Int):Str)∨p=st x (decide (s=1))∨p=wd h∨p=st y (decide (s=-1)):=by simpa using hp
  rcases hp with rfl|rfl|rfl|rfl
  ·intro z
   have:=Yb m 32 z
   omega
  ·eC Abz nx _
  ·eC Ah0 h
  ·eC Abz ny _
 have e1:Te (toString ((m:Nat):Int):Str)=(m:Int):=congrArg (fun n:Nat=>(n:Int)) (Af7 m)
 have e2:wi (wd h)=h:=by
  have:h=0∨h=1∨h=2:=by omega
  rcases this with rfl|rfl|rfl<;>decide +kernel
 have e3:isW (wd h)=true:=by
  have:h=0∨h=1∨h=2:=by omega
  rcases this with rfl|rfl|rfl<;>decide +kernel
 have e4:Je (st x (decide (s=1))) (st y (decide (s=-1)))=s:=by
  unfold Je
  rw [Wp nx,Wp ny]
  have:s=-1∨s=0∨s=1:=by omega
  rcases this with rfl|rfl|rfl<;>decide
 have e5:(sd (st x (decide (s=1)))&&sd (st y (decide (s=-1))))=false:=by
  rw [Wp nx,Wp ny]
  have:s=-1∨s=0∨s=1:=by omega
  rcases this with rfl|rfl|rfl<;>decide
 have g:F0 (.int (m:Int)) (.str x) (.str y) (.int h) (.int s)=true:=by
  unfold F0
  rw [show btw (.int (m:Int)) 0 9999=true by simp [btw];omega,show Od (.str x)=true from nx.is,show Od (.str y)=true from ny.is,show eqS (.str x) (.str y)=false from BA ne,show btw (.int h) 0 2=true by simp [btw];omega,show btw (.int s) (-1) 1=true by simp [btw];omega]
  rfl
 rw [Agy ew,e1,e2,e4,Aay nx,Aay ny]
 unfold rd4
 rw [e1,e2,e4,Aay nx,Aay ny,Aam hm,e3,e5,g]
 rfl
def gmV (g:Gm):List V:=[.int g.d,.str g.a,.str g.b,.int g.h,.int g.s]
structure GO (g:Gm):Prop where
 d0:0≤g.d
 d1:g.d≤9999
 na:Nm g.a
 nb:Nm g.b
 ne:g.a≠g.b
 h0:0≤g.h
 h1:g.h≤2
 s0:-1≤g.s
 s1:g.s≤1
def wds (g:Gm):List Str:=[(toString g.d:Str),st g.a (decide (g.s=1)),wd g.h,st g.b (decide (g.s=-1))]
def Nx (g:Gm):Str:=wrS g.d g.a g.b g.h g.s
theorem Aet (g:Gm):Nx g=Str.join ⟨#[32]⟩ (wds g):=rfl
theorem Adz {g:Gm}(o:GO g):rd (Nx g)=some (gmV g):=Aob o.d0 o.d1 o.h0 o.h1 o.s0 o.s1 o.na o.nb o.ne
theorem Aef (g:Gm):co (Nx g)=co (toString g.d:Str)++32::(co (st g.a (decide (g.s=1)))++32::(co (wd g.h)++32::co (st g.b (decide (g.s=-1))))):=by
 rw [Aet]
 unfold wds
 rw [Cr,Cr,Cr]
 rfl
def P2 (K:KKf)(ns:List Int):Sp:=fun vs H Q _=>match vs with
 |[.str x,.bl b]=>x.length≤1000∧Q (.str (st x b)) H
 |_=>False
theorem Zk:Ai ["name","had_side"] ["name","had_side"] (Af Mr):=⟨rfl,rfl,rfl,by decide +kernel,rfl,by decide +kernel,by decide +kernel⟩
local notation "#a1"=>Ba P w K mg base "starred" ["name","had_side"] 1 (P2 K ns)
theorem Zj (d:Bj K mg "starred" Mr ["name","had_side"])(er:#am)   :#a1:=by
 rA d.cal (k:=0) Zk (fun vs H Q E h=>?_) (fun f cdv A outer s H vs Q E hr h=>?_)
 ·match vs,h with
  |[.str x,.bl b],_=>rfl
 ·match vs,h with
  |[.str x,.bl b],hq0=>
   obtain ⟨hz,q⟩:=hq0
   rA ⟨_,(#i (#j (#N (#D (dv 1) (by intro _;rfl)) (#g C5 (dv 0) A6) (dv 0)))),?_⟩
   cases b with
   |true=>eC ⟨fun _=>⟨AO (Nat.add_le_add hz (show ("*":Str).length≤1 by decide +kernel)) #d,q⟩,fun h=>nb h⟩
   |false=>eC ⟨fun h=>nb h,fun _=>q⟩
def K6 (K:KKf)(ns:List Int):Sp:=fun vs H Q _=>match vs with
 |[.ref p]=>∃(d h s:Int) (x y:Str),H p=some (.tup [.int d,.str x,.str y,.int h,.int s])∧(0≤d∧d≤9999)∧(0≤h∧h≤2)∧(Nm x∧Nm y)∧Q (.str (wrS d x y h s)) H
 |_=>False
theorem D8:Ai ["played","day","one","word","other"] ["played"] (Af Ig):=⟨rfl,rfl,rfl,by decide +kernel,rfl,by decide +kernel,by decide +kernel⟩
local notation "#a2"=>Ba P w K mg base "show_game" ["played"] 2 (K6 K ns)
theorem S8 (d:Bj K mg "show_game" Ig ["played"])(er:#am)  (v_WORDS:Gv mg "WORDS" (.ref a_WORDS))(w_WORDS:B1 K a_WORDS [.str "lost",.str "drew",.str "beat"])(c_starred:#a1):#a2:=by
 rA d.cal (k:=1) D8 (fun vs H Q E h=>?_) (fun f cdv A outer s H vs Q E hr h=>?_)
 ·match vs,h with
  |[.ref p],_=>rfl
 ·match vs,h with
  | [.ref p],hq0=>
   obtain ⟨d0,h0,s0,x,y,e,⟨hd0,hd1⟩,⟨hh0,hh1⟩,⟨nx,ny⟩,q⟩:=hq0
   rA ⟨_,(#h (#q (1) _ _ _ _ D8.nd rfl #t (#c A0 (dv 0) Ab (fun _ _=>rfl)) #r #t) (#h (#q (2) _ _ _ _ D8.nd rfl #t (#b c_starred hr #d #r (#a (#c A0 (dv 0) Ab (fun _ _=>rfl)) (#a (#A Gg (#c A0 (dv 0) Ab (fun _ _=>rfl)) Ab (#w #d #d)) Ac #r) #r) #d #r #r) #r #t) (#h (#q (3) _ _ _ _ D8.nd rfl #t (#c Akt (Cu v_WORDS #r) (#c A0 (dv 0) Ab (fun _ _=>rfl)) (fun _ _=>rfl)) #r #t) (#h (#q (4) _ _ _ _ D8.nd rfl #t (#b c_starred hr #d #r (#a (#c A0 (dv 0) Ab (fun _ _=>rfl)) (#a (#A Gg (#c A0 (dv 0) Ab (fun _ _=>rfl)) (#R Lf Ab) (#w #d #d)) Ac #r) #r) #d #r #r) #r #t) (#i (#j (@Anl _ _ _ _ _ _ (#ag (dv 1) (@Zf _ _ _ _ _ _ #k (#ag (dv 2) (@Zf _ _ _ _ _ _ #k (#ag (dv 3) (@Zf _ _ _ _ _ _ #k (#ag (dv 4) Alh)))))))))))))),?_⟩
   have lx:=Hd nx
   have ly:=Hd ny
   have l1:=Mt x (decide (s0=1))
   have l2:=Mt y (decide (s0=-1))
   have l3:=Sj hd0 hd1
   have l4:=Tu h0
   have l5:(" ":Str).length=1:=by decide +kernel
   have big:(1000:Nat)≤sizeLine:=by decide
   rA ⟨_,e,_,e,_,e,AO lx #d,_,e,_,_,w_WORDS.sq _,Aab hh0 hh1,_,e,_,e,AO ly #d,?_⟩
   have e0:∀z:Str,Str.empty++z=z:=fun z=>by
    apply Dn
    rw [Bq]
    rfl
   unfold wrS at q
   rw [←Ajw] at q
   rA ⟨W3 hd0 hd1,?_,?_⟩
   ·rw [e0]
    omega
   rw [e0]
   rA ⟨?_,?_,?_,?_,?_,?_,?_,?_,?_,?_,q⟩<;>(try simp only [Bf])<;>omega
theorem Vl:∀{gs:List Gm} {ys:List V},Az (fun g y=>y=V.str (Nx g)) gs ys→ys=(gs.map Nx).map V.str
 |_,_,.nil=>rfl
 |_,_,.cons h t=>by rw [h,Vl t];rfl
theorem Afg:∀{gs:List Gm},(∀g∈gs,GO g)→((gs.map Nx).map (·.length)).sum≤gs.length*900
 |[],_=>AV _
 |g::gs,h=>by
  have o:=h g AK
  have h1:(Nx g).length≤900:=Afy o.d0 o.d1 o.na o.nb
  have h2:=Afg (gs:=gs) fun x hx=>h x (AJ _ hx)
  simp only [BE,List.sum_cons,AY]
  omega
def Mc (K:KKf)(ns:List Int):Sp:=fun vs H Q _=>match vs with
 |[.ref L]=>∃gs,(Bk K H L gs∧(∀g∈gs,GO g)∧gs.length≤60)∧∀H',Ah H H'→Q (.str (Str.join Qw (gs.map Nx))) H'
 |_=>False
theorem Vd:Ai ["games"] ["games"] (Af Jc):=⟨rfl,rfl,rfl,by decide +kernel,rfl,by decide +kernel,by decide +kernel⟩
local notation "#a3"=>Ba P w K mg base "show_book" ["games"] 3 (Mc K ns)
theorem Uk (d:Bj K mg "show_book" Jc ["games"])(er:#am)  (v_PARTING:Gv mg "PARTING" (.str "; "))(c_show_game:#a2):#a3:=by
 rA d.cal (k:=2) Vd (fun vs H Q E h=>?_) (fun f cdv A outer s H vs Q E hr h=>?_)
 ·match vs,h with
  |[.ref L],_=>rfl
 ·match vs,h with
  | [.ref L],hq0=>
   obtain ⟨gs,⟨⟨vs,hx,hm,hl⟩,ok,l60⟩,k⟩:=hq0
   rA ⟨_,(#i (#j (#ad ("join") _ _ (Cu v_PARTING #r) (#a (#s ["played"] [] [] rfl (#H (dv 0)) (fun C s H fp=>(#E (0) _ (show List.Nodup [("played":Str)] by decide +kernel) rfl #t #t)) (fun C s H fp=>(#b c_show_game hr #d #r (#a (dv 0) Ac #r) #d #r #r)) rfl rfl #k #k #r True.intro True.intro (by intro _;rfl)) Ac #r) #r #r #r #r #r))),?_⟩
   rA ⟨rfl,L,rfl,⟨_,hx⟩,Cf B7 Cw (fun _ g y=>y=V.str (Nx g)) (fun _ _ _ _ _ h=>h) (by rw [hm.len];omega) hx hm ?_ ?_⟩
   ·intro v g H2 hM hg s2 P hP
    obtain ⟨p,rfl,ep⟩:=hM
    have o:=ok g hg
    eC ⟨rfl,g.d,g.h,g.s,g.a,g.b,ep,⟨o.d0,o.d1⟩,⟨o.h0,o.h1⟩,⟨o.na,o.nb⟩,hP _ _ (Ah.refl _) rfl⟩
   intro D H2 ys s2 _ e2 a2
   have ey:ys=(gs.map Nx).map V.str:=Vl a2
   rA ⟨gs.map Nx,A3.of (by rw [e2,ey]),?_,?_⟩
   ·have h1:((gs.map Nx).map (·.length)).sum≤gs.length*900:=Afg ok
    rw [AE,show (Str.ofString "; ").length=2 by decide +kernel]
    omega
   ·have e:Txt.join (Str.ofString "; ") (gs.map Nx)=Str.join Qw (gs.map Nx):=Dn (Jw _ _)
    eC (congrArg (fun z=>Q (.str z) H2) e).mpr (k H2 s2)
theorem Gf:∀(k m:Nat),m<10 ^ (k+1)→(fg m).length≤k+1
 |0,m,h=>by
  rw [Xy (by simpa using h)]
  eC AF _
 | k+1,m,h=>by
  by_cases h':m<10
  ·rw [Xy h']
   simp
  ·rw [Sn #o,AM,DO]
   have:m / 10<10 ^ (k+1):=by
    rw [Nat.pow_succ] at h
    omega
   have:=Gf k _ this
   omega
theorem Kf (m:Nat):co (Str.ofString (toString (m:Int)))=fg m:=rfl
theorem Ag0 {m:Nat}(h:0<m):co (Str.ofString (toString (-(m:Int))))=45::fg m:=by
 cases m with
 |zero=>omega
 | succ k=>
  have e:toString (-((k+1:Nat):Int))="-"++toString ((k+1:Nat):Int):=rfl
  have c:∀s:String,co (Str.ofString s)=s.toList.map Char.toNat:=fun s=>by
   rw [Str.ofString_eq_toList]
   rfl
  rw [e,←Kf,c,c,String.toList_append,CB]
  rfl
theorem Akx {n:Nat}(h:n<10 ^ 60):n.log2<1920:=by
 by_cases h0:n=0
 ·subst h0
  decide
 ·rw [Nat.log2_lt h0]
  eC AL h #k
def Jf (K:KKf)(ns:List Int):Sp:=fun vs H Q _=>match vs with
 |[.int n]=>(0≤n∧n<10 ^ 60)∧∀H',Ah H H'→Q (.str (toString n)) H'
 |_=>False
theorem Dw:Ai ["number","whole","pieces"] ["number"] (Af Gb):=⟨rfl,rfl,rfl,by decide +kernel,rfl,by decide +kernel,by decide +kernel⟩
local notation "#a4"=>Ba P w K mg base "show_number" ["number"] 1 (Jf K ns)
theorem Pj (d:Bj K mg "show_number" Gb ["number"])(er:#am)(n_str:mg "str"=none)(n_list:mg "list"=none)(n_reversed:mg "reversed"=none)  :#a4:=by
 rA d.cal (k:=0) Dw (fun vs H Q E h=>?_) (fun f cdv A outer s H vs Q E hr h=>?_)
 ·match vs,h with
  |[.int n],_=>rfl
 ·match vs,h with
  | [.int n],hq0=>
   obtain ⟨⟨h0,h1⟩,q⟩:=hq0
   rA ⟨_,(#h (#q (1) _ _ _ _ Dw.nd rfl #t (#g Apk Ab Ab) #r #t) (#h (#q (2) _ _ _ _ Dw.nd rfl #t (#aj Ac) #r #t) (#h (@Aar _ _ _ _ _ _ DI (#n Aq9 (dv 0) (dv 1) (#w #d #d)) (#h Cq (#i (#q (0) _ _ _ _ Dw.nd rfl #t (#g Hv (dv 0) (dv 1)) #r #t)))) (#i (#j (#ad ("join") _ _ A6 (#a (#g Km (#M (#a (#y N1 #r n_str #k (#a (dv 0) Ac #r) #d #d #r #r) Ac #r)) (@Ai0 _ _ _ _ _ _ _ #r n_list #r n_reversed (#a (dv 2) Ac #r) rfl #r)) Ac #r) #r #r #r #r #r)))))),?_⟩
   rA ⟨⟨by decide,by decide,by decide⟩,by decide,fun D hD=>?_⟩
   rA ⟨fun m σ H'=>σ=[some (.int n),some (.int (10 ^ 60)),some (.ref D)]∧H'=upd H D (.lst [])∧m=0,⟨_,rfl,rfl,rfl⟩,?_⟩
   rintro m σ H' ⟨rfl,rfl,rfl⟩
   have s1:Ah H (upd H D (.lst [])):=Ap hD
   have e1:upd H D (.lst []) D=some (.lst []):=Ag
   generalize upd H D (.lst [])=H1 at s1 e1
   rA ⟨fun h=>?_,fun _=>?_⟩
   ·have h:(10:Int) ^ 60≤n:=AZ h
    omega
   obtain ⟨m,rfl⟩:=Int.eq_ofNat_of_zero_le h0
   have hm:m<10 ^ 60:=by
    have:((m:Nat):Int)<((10 ^ 60:Nat):Int):=by simpa using h1
    omega
   have hl:(toString (m:Int):Str).length≤60:=by
    rw [←Bo,Kf]
    eC Gf 59 m hm
   rA ⟨rfl,Akx hm,fun P H2 s2 e2=>⟨_,A3.of (s2 _ _ e1),fun D2 H3 s3 _ e3=>⟨_,_,s3 _ _ e2,e3,(by show 1+0≤1000;decide),fun C H4 s4 e4=>⟨[(toString (m:Int):Str)],A3.of e4,?_,?_⟩⟩⟩⟩
   ·show ((toString (m:Int):Str).length+0)+1*0≤16777216
    omega
   ·have e:Txt.join "" [(toString (m:Int):Str)]=toString (m:Int):=Dn (by rw [Jw];rfl)
    rw [e]
    eC q H4 (s1.trans (s2.trans (s3.trans s4)))
def Gr (K:KKf)(ns:List Int):Sp:=fun vs H Q _=>match vs with
 |[.ref p]=>∃a b:Int,(H p=some (.tup [.int a,.int b])∧(-(10 ^ 60)<a∧a<10 ^ 60)∧0<b∧b<10 ^ 60) ∧
  ∀x H',Ah H H'→co x=(if b=1 then co (toString a:Str) else co (toString a:Str)++47::co (toString b:Str))→Q (.str x) H'
 |_=>False
theorem Ei:Ai ["one","sign","top"] ["one"] (Af E5):=⟨rfl,rfl,rfl,by decide +kernel,rfl,by decide +kernel,by decide +kernel⟩
local notation "#a5"=>Ba P w K mg base "show_fraction" ["one"] 2 (Gr K ns)
theorem Np (d:Bj K mg "show_fraction" E5 ["one"])(er:#am)(n_abs:mg "abs"=none)  (c_show_number:#a4):#a5:=by
 rA d.cal (k:=1) Ei (fun vs H Q E h=>?_) (fun f cdv A outer s H vs Q E hr h=>?_)
 ·match vs,h with
  |[.ref p],_=>rfl
 ·match vs,h with
  | [.ref p],hq0=>
   obtain ⟨a,b,⟨hp,⟨a0,a1⟩,b0,b1⟩,q⟩:=hq0
   rA ⟨_,(#P (#q (1) _ _ _ _ Ei.nd rfl #t (#N (#n Ws (#c A0 (dv 0) Ab (fun _ _=>rfl)) Ab (#w #d #d)) A6 A6) #r #t) (#h (#q (2) _ _ _ _ Ei.nd rfl #t (#b c_show_number hr #d #r (#a (#l Aj4 #r n_abs #k (#a (#c A0 (dv 0) Ab (fun _ _=>rfl)) Ac #r) #d #d #r #r) Ac #r) #d #r #r) #r #t) (#h (#m (#n Gg (#c A0 (dv 0) Ab (fun _ _=>rfl)) Ab (#w #d #d)) (#i (#j (#g C5 (dv 1) (dv 2)))) Aw) (#i (#j (#g C5 (#g C5 (#g C5 (dv 1) (dv 2)) A6) (#b c_show_number hr #d #r (#a (#c A0 (dv 0) Ab (fun _ _=>rfl)) Ac #r) #d #r #r))))))),?_⟩
   obtain ⟨m,hm⟩:∃m:Nat,m=a.natAbs:=⟨_,rfl⟩
   obtain ⟨n,rfl⟩:=Int.eq_ofNat_of_zero_le (Int.le_of_lt b0)
   have e60:(10:Int) ^ 60=((10 ^ 60:Nat):Int):=by decide +kernel
   rw [e60] at a0 a1 b1
   have m6:m<10 ^ 60:=by omega
   have n6:n<10 ^ 60:=by omega
   have lm:(toString (m:Int):Str).length≤60:=by
    rw [←Bo,Kf]
    eC Gf 59 m m6
   have ln:(toString (n:Int):Str).length≤60:=by
    rw [←Bo,Kf]
    eC Gf 59 n n6
   have cs:co ("/":Str)=[47]:=by decide +kernel
   have ls:("/":Str).length=1:=by decide +kernel
   rA ⟨fun σ H'=>∃S:Str,σ=[some (.ref p),some (.str S),none]∧H'=H∧S.length≤1∧co S++fg m=co (toString a:Str),?_,?_⟩
   ·rA ⟨_,hp,⟨fun h=>?_,fun h=>?_⟩⟩
    ·have h:a<0:=AZ h
     rA ⟨_,rfl,rfl,by decide,?_⟩
     rw [show a=-(m:Int) by omega,Ag0 #o]
     have e:co (Str.ofString "-")=[45]:=by decide +kernel
     rw [e]
     rfl
    ·have h:¬a<0:=BM h
     rA ⟨_,rfl,rfl,by decide,?_⟩
     rw [show a=(m:Int) by omega,Kf]
     rfl
   rintro σ H1 ⟨S,rfl,rfl,lS,cS⟩
   have la:(S++(toString (m:Int):Str)).length≤61:=by
    rw [Bf]
    omega
   have ca:co (S++(toString (m:Int):Str))=co (toString a:Str):=by
    rw [Bq,Kf]
    eC cS
   rA ⟨_,hp,⟨by omega,by rw [←hm,e60];omega⟩,fun H2 s2=>?_⟩
   rw [←hm]
   rA ⟨_,s2 _ _ hp,⟨fun h=>?_,fun h=>?_⟩⟩
   ·have h:(n:Int)=1:=AZ h
    rA ⟨AO (show _≤100 by omega) #d,q _ _ s2 ?_⟩
    rw [AN h,ca]
   ·have h:¬(n:Int)=1:=BM h
    rA ⟨AO (show _≤100 by omega) #d,AO (show _≤100 by omega) #d,_,s2 _ _ hp,⟨by omega,by rw [e60];omega⟩,fun H3 s3=>⟨AO (show _≤200 by rw [Bf];omega) #d,q _ _ (s2.trans s3) ?_⟩⟩
    rw [AI h,Bq,Bq,ca,cs,CN]
    rfl
def C7:List (Int×Int×Int):=[(0,1,2),(60,3,5),(160,7,10),(280,4,5),(460,9,10)]
theorem Aas:R8 C7:=⟨by decide,fun r hr=>by
 have hr:r=(0,1,2)∨r=(60,3,5)∨r=(160,7,10)∨r=(280,4,5)∨r=(460,9,10):=by simpa [C7] using hr
 rcases hr with rfl|rfl|rfl|rfl|rfl<;>eC ⟨by decide,by decide⟩,rfl,by decide⟩
def Di (K:KKf)(H:Hp)(Z L A R:Addr)(es:List En)(last:Int):Prop:=(∃C dx fs,H Z=some (.ins C dx fs)∧PySem.W.nsIn K mainGlobals "Desk"=some (some (.ref C))∧fs.lookup ("ledger":Str)=some (.ref L)∧fs.lookup ("say":Str)=none)∧Z≠L∧Fv K H L A R es last
theorem Fv.sxz {K:KKf}{H H':Hp}{Z L A R C dx:Addr}{fs:List (Str×V)}{es:List En}{last:Int}(s:Sx Z H H')(e:H Z=some (.ins C dx fs))(n:Z≠L)(h:Fv K H L A R es last):Fv K H' L A R es last:=by
 obtain ⟨C1,dx1,fs1,eL,hC1,fd,kvs,eA,al⟩:=h
 eC ⟨C1,dx1,fs1,s _ _ (CM n) eL,hC1,fd,kvs,s _ _ (fun z=>by rw [z,e] at eA;cases eA) eA,al.imp fun kv e' r=>Iy kv e' _ _ (s.kt e) r⟩
theorem P4.sxz {K:KKf}{H H':Hp}{Z R C dx:Addr}{fs:List (Str×V)}{so st fi one two:Int}{rows:List Rw}(s:Sx Z H H')(e:H Z=some (.ins C dx fs))(n:R≠Z)(h:P4 K H R so st fi one two rows):P4 K H' R so st fi one two rows:=by
 obtain ⟨C',dx',fs',T',e',kn',f',vs',t1,t2⟩:=h
 eC ⟨C',dx',fs',T',s _ _ n e',kn',f',vs',s _ _ (fun z=>by rw [z,e] at t1;cases t1) t1,t2.imp fun v g r=>Ea v g _ _ (s.kt e) r⟩
def Gw (K:KKf)(ns:List Int):Sp:=fun vs H Q _=>match vs with
 |[.ref Z]=>∃C dx,(H Z=some (.ins C dx [])∧PySem.W.nsIn K mainGlobals "Desk"=some (some (.ref C)))∧∀L A R H',Sx Z H H'→H L=none→H A=none→H R=none→R≠L→Di K H' Z L A R [] 0→P4 K H' R 0 32 1500 0 0 C7→Q .non H'
 |_=>False
theorem Mh:Ai ["self"] ["self"] (Af E4):=⟨rfl,rfl,rfl,by decide +kernel,rfl,by decide +kernel,by decide +kernel⟩
local notation "#a6"=>Df P w K mg base [c_Desk] [] "__init__" ["self"] 11 (Gw K ns)
theorem Nl (d:Ej K [c_Desk] [] "__init__" "Desk.__init__" E4 ["self"])(er:#am)(n_list:mg "list"=none)(v_TABLE:Gv mg "TABLE" (.ref a_TABLE))(w_TABLE:B1 K a_TABLE [.ref b_TABLE_0,.ref b_TABLE_1,.ref b_TABLE_2,.ref b_TABLE_3,.ref b_TABLE_4])(w_TABLE_0:B1 K b_TABLE_0 [.int (0),.ref b_TABLE_0_1])(w_TABLE_0_1:B1 K b_TABLE_0_1 [.int (1),.int (2)])(w_TABLE_1:B1 K b_TABLE_1 [.int (60),.ref b_TABLE_1_1])(w_TABLE_1_1:B1 K b_TABLE_1_1 [.int (3),.int (5)])(w_TABLE_2:B1 K b_TABLE_2 [.int (160),.ref b_TABLE_2_1])(w_TABLE_2_1:B1 K b_TABLE_2_1 [.int (7),.int (10)])(w_TABLE_3:B1 K b_TABLE_3 [.int (280),.ref b_TABLE_3_1])(w_TABLE_3_1:B1 K b_TABLE_3_1 [.int (4),.int (5)])(w_TABLE_4:B1 K b_TABLE_4 [.int (460),.ref b_TABLE_4_1])(w_TABLE_4_1:B1 K b_TABLE_4_1 [.int (9),.int (10)])(v_FIRST_WORTH:Gv mg "FIRST_WORTH" (.int (1500)))(v_STEP:Gv mg "STEP" (.int (32)))(c_Ledger___init__:#aS)(c_Rule___init__:#aB):#a6:=by
 rA d.cal (k:=10) Mh (fun vs H Q E h=>?_) (fun f cdv A outer s H vs Q E hr h=>?_)
 ·match vs,h with
  |[.ref Z],_=>rfl
 ·match vs,h with
  | [.ref Z],hq0=>
   obtain ⟨C,dx,⟨eZ,hC⟩,k⟩:=hq0
   rA ⟨_,(#h (#K (dv 0) (#Q c_Ledger___init__ (List.Mem.head _) er.m_Ledger hr #d #r er.b_Ledger (#a (#Q c_Rule___init__ (List.Mem.head _) er.m_Rule hr #d #r er.b_Rule (#a (Cu v_STEP #r) (#a (Cu v_FIRST_WORTH #r) (#a (#y Ox #r n_list #k (#a (Cu v_TABLE #r) Ac #r) #d #d #r #r) Ac #r) #r) #r) #d #r #r) Ac #r) #d #r #r) rfl) (#i (#K (dv 0) Jj rfl))),?_⟩
   have cl:Ow K C∧NoAttr K C "ledger"∧NoAttr K C "told":=Ca er.y_Desk hC▸⟨er.l_Desk,er.na_Desk_ledger,er.na_Desk_told⟩
   rA ⟨_,.inr (w_TABLE.sq H),fun l hl=>?_⟩
   have s1:Ah H (upd H l (.lst [.ref b_TABLE_0,.ref b_TABLE_1,.ref b_TABLE_2,.ref b_TABLE_3,.ref b_TABLE_4])):=Ap hl
   have e1:upd H l (.lst [.ref b_TABLE_0,.ref b_TABLE_1,.ref b_TABLE_2,.ref b_TABLE_3,.ref b_TABLE_4]) l=some (.lst [.ref b_TABLE_0,.ref b_TABLE_1,.ref b_TABLE_2,.ref b_TABLE_3,.ref b_TABLE_4]):=Ag
   generalize upd H l (.lst [.ref b_TABLE_0,.ref b_TABLE_1,.ref b_TABLE_2,.ref b_TABLE_3,.ref b_TABLE_4])=H1 at s1 e1
   intro x dx' hx hd ne
   have s2:=Lb (C:=c_Rule) hx hd ne
   have e2:upd (upd H1 dx' (.own x)) x (.ins c_Rule dx' []) x=some (.ins c_Rule dx' []):=Ag
   generalize upd (upd H1 dx' (.own x)) x (.ins c_Rule dx' [])=H2 at s2 e2
   have a2:Az (Gu K H2) [.ref b_TABLE_0,.ref b_TABLE_1,.ref b_TABLE_2,.ref b_TABLE_3,.ref b_TABLE_4] C7:=.cons ⟨_,_,rfl,.inr w_TABLE_0,.inr w_TABLE_0_1⟩ (.cons ⟨_,_,rfl,.inr w_TABLE_1,.inr w_TABLE_1_1⟩ (.cons ⟨_,_,rfl,.inr w_TABLE_2,.inr w_TABLE_2_1⟩ (.cons ⟨_,_,rfl,.inr w_TABLE_3,.inr w_TABLE_3_1⟩ (.cons ⟨_,_,rfl,.inr w_TABLE_4,.inr w_TABLE_4_1⟩ .nil))))
   rA ⟨_,dx',[],_,_,⟨e2,er.l_Rule,er.na_Rule_step,er.na_Rule_first,er.na_Rule_table,by decide,s2 _ _ e1,a2,Aas⟩,fun T H3 s3 nT n3 e3 ex3=>⟨rfl,?_⟩⟩
   have kt3:=s3.kt e2
   have a3:=a2.imp fun v g r=>Ea v g _ _ kt3 r
   have s03:Ah H H3:=s1.trans (U0 hx s2 s3)
   have hR3:P4 K H3 x 0 32 1500 0 0 C7:=⟨_,dx',_,T,ex3,⟨rfl,er.y_Rule⟩,fd0 rfl,_,e3,a3⟩
   intro L dL hL hdL neL
   have s4:=Lb (C:=c_Ledger) hL hdL neL
   have e4:upd (upd H3 dL (.own L)) L (.ins c_Ledger dL []) L=some (.ins c_Ledger dL []):=Ag
   generalize upd (upd H3 dL (.own L)) L (.ins c_Ledger dL [])=H4 at s4 e4
   have eZ4:=s4 _ _ (s03 _ _ eZ)
   have nZL:Z≠L:=fun z=>by
    have:=s03 _ _ eZ
    rw [z,hL] at this
    cases this
   rA ⟨_,dL,0,32,1500,0,0,C7,⟨e4,er.y_Ledger,hR3.up s4,Aas⟩,fun A R H5 s5 hA nAL hR lg rl=>⟨rfl,?_⟩⟩
   have nRZ:R≠Z:=fun z=>by rw [z,eZ4] at hR;cases hR
   have eZ5:=s5 _ _ nZL eZ4
   rA ⟨Z,C,dx,[],rfl,eZ5,cl.1,cl.2.1,by decide,?_⟩
   have e6:upd H5 Z (.ins C dx (Bc "ledger" (.ref L) [])) Z=some (.ins C dx (Bc "ledger" (.ref L) [])):=Ag
   have s6:Sx Z H5 (upd H5 Z (.ins C dx (Bc "ledger" (.ref L) []))):=Sx.upd
   generalize upd H5 Z (.ins C dx (Bc "ledger" (.ref L) []))=H6 at e6 s6
   intro D hD
   have s7:Sx Z H5 (upd H6 D (.dK [])):=s6.trans (Sx.of (Ap hD))
   have e7:=Ap (o:=.dK []) hD _ _ e6
   generalize upd H6 D (.dK [])=H7 at s7 e7
   rA ⟨Z,C,dx,_,rfl,e7,cl.1,cl.2.2,BO (Cm _ _ _) #d,?_⟩
   have s8:Sx Z H5 (upd H7 Z (.ins C dx (Bc "told" (.ref D) (Bc "ledger" (.ref L) [])))):=s7.trans Sx.upd
   have n4:∀{b:Addr},H4 b=none→H b=none:=fun h=>Ci (s03.trans s4) h
   rA k L A R _ (fun b o nb e=>s8 b o nb (s5 b o (fun z=>?_) (s4 b o (s03 b o e)))) (Ci s03 hL) (n4 hA) (n4 hR) (fun z=>by rw [z,e4] at hR;cases hR) ⟨⟨C,dx,_,Ag,hC,Ax #k Iw,Ax #k (Ax #k rfl)⟩,nZL,lg.sxz s8 eZ5 nZL⟩ (rl.sxz s8 eZ5 nRZ)
   have:=s03 _ _ e
   rw [z,hL] at this
   cases this
theorem Di.fr {K:KKf}{H H':Hp}{Z L A R:Addr}{es es':List En}{last last':Int}{pos:Pos}{q:Str}(h:Di K H Z L A R es last)(tk:Av H (Bn K) pos q)(fr:O0 L A (Bn K) H H')(lg:Fv K H' L A R es' last'):Di K H' Z L A R es' last':=by
 obtain ⟨⟨C,dx,fs,e,hC,f1,f2⟩,n,C1,dx1,fs1,eL,hC1,fd,kvs,eA,al⟩:=h
 obtain ⟨ps,eT,_⟩:=tk
 eC ⟨⟨C,dx,fs,fr _ _ n (fun z=>by rw [z,eA] at e;cases e) (fun z=>by rw [z,eT] at e;cases e) e,hC,f1,f2⟩,n,lg⟩
theorem Di.up {K:KKf}{H H':Hp}{Z L A R:Addr}{es:List En}{last:Int}(s:Ah H H')(h:Di K H Z L A R es last):Di K H' Z L A R es last:=by
 obtain ⟨⟨C,dx,fs,e,hC,f1,f2⟩,n,lg⟩:=h
 eC ⟨⟨C,dx,fs,s _ _ e,hC,f1,f2⟩,n,lg.up s⟩
theorem Di.get {K:KKf}{H:Hp}{Z L A R c1 c2:Addr}{es:List En}{last:Int}(y1:PySem.W.nsIn K mainGlobals "Desk"=some (some (.ref c1)))(y2:PySem.W.nsIn K mainGlobals "Ledger"=some (some (.ref c2)))(h:Di K H Z L A R es last):∃dx fs dy gs,H Z=some (.ins c1 dx fs)∧fs.lookup ("ledger":Str)=some (.ref L)∧fs.lookup ("say":Str)=none∧H L=some (.ins c2 dy gs)∧LFd gs A R last:=by
 obtain ⟨⟨C,dx,fs,e,hC,f1,f2⟩,n,C1,dx1,fs1,eL,hC1,fd,_⟩:=h
 obtain rfl:=Ca hC y1
 obtain rfl:=Ca hC1 y2
 eC ⟨dx,fs,dx1,fs1,e,f1,f2,eL,fd⟩
def Q8 (es:List En)(g:Gm):Prop:=es.length<40∧(Ge (es.map (·.2)++[g])).length≤8
theorem Aj3 {i:Int}(h0:0≤i)(h1:i≤1000):i.natAbs.log2<1920:=by
 have:Bd 100 i:=Dt (b:=10000) #o #o (A2 rfl)
 eC AL (Mb this #d) #d
def Jd (K:KKf)(ns:List Int):Sp:=fun vs H Q E=>match vs with
 | [.ref Z,.str x]=>∃(L A R:Addr) (es:List En) (last:Int) (g:Gm) (nm:List Str),(Di K H Z L A R es last∧Acr nm es last∧es.length≤40∧nm.length≤20∧g.a∈nm∧g.b∈nm∧x=Nx g∧GO g∧0≤last∧last<1000∧Av H (Bn K) Bu Em) ∧
   (Q8 es g→∀H',O0 L A (Bn K) H H'→Di K H' Z L A R (es++[(last+1,g)]) (last+1)→Av H' (Bn K) Bu Em→Q (.str (toString (last+1))) H')∧(¬Q8 es g→∀H',Ah H H'→ExN K "NoBook" E H')
 |_=>False
theorem Wh:Ai ["desk","text"] ["desk","text"] (Af Dr):=⟨rfl,rfl,rfl,by decide +kernel,rfl,by decide +kernel,by decide +kernel⟩
local notation "#a7"=>Ba P w K mg base "put_game" ["desk","text"] 7 (Jd K ns)
theorem Xt (d:Bj K mg "put_game" Dr ["desk","text"])(er:#am)(n_str:mg "str"=none)  (c_Ledger_put:#aO)(c_read_game:#a0):#a7:=by
 rA d.calX (k:=6) Wh (fun vs H Q E h=>?_) (fun f cdv A outer s H vs Q E hr h=>?_)
 ·match vs,h with
  |[.ref Z,.str x],_=>rfl
 ·match vs,h with
  | [.ref Z,.str x],hq0=>
   obtain ⟨L,A,R,es,last,g,nm,⟨dk0,ok,l40,l20,ga,gb,hx,o,p0,p1,tk⟩,k,kr⟩:=hq0
   rA ⟨_,(#i (#j (#y N1 #r n_str #k (#a (#c A0 (@Aaa _ _ _ _ _ _ _ _ _ _ _ _ _ _ _ _ _ _ _ _ _ _ _ _ _ _ (#z (dv 0) #r) (#v c_Ledger_put (List.Mem.head _) er.l_Ledger #d Fu) hr (#a (#G c_read_game hr #d #r (#a (dv 1) Ac #r) #d #r #r) Ac #r) #r #r #r) Ab (fun _ _=>rfl)) Ac #r) #d #d #r #r))),?_⟩
   subst hx
   obtain ⟨dx,fs,dy,gs,eZ,f1,f2,eL,fd⟩:=dk0.get er.y_Desk er.y_Ledger
   rA ⟨Z,_,dx,fs,_,rfl,eZ,er.l_Desk,er.na_Desk_ledger,f1,L,_,dy,gs,_,rfl,eL,.head _,fd.pu,?_⟩
   rA ⟨Afy o.d0 o.d1 o.na o.nb,fun hn=>?_,fun g' hg' p H1 s1 e1=>?_⟩
   ·rw [Adz o] at hn
    cases hn
   rw [Adz o] at hg'
   cases hg'
   have dk1:=dk0.up s1
   rA ⟨A,R,es,last,g,nm,⟨dk1.2.2,ok,l40,l20,⟨p,rfl,e1⟩,ga,gb,tk.up s1⟩,fun fit r D H2 fr er2 lg2 tk2=>⟨_,er2,Aj3 #o #o,k fit H2 (fun b u n1 n2 n3 e=>fr b u n1 n2 n3 (s1 b u e)) (dk1.fr (tk.up s1) fr lg2) tk2⟩,fun nf H2 s2=>kr nf H2 (s1.trans s2)⟩
def Hg (K:KKf)(ns:List Int):Sp:=fun vs H Q E=>match vs with
 | [.ref Z,.ref D]=>∃(L A R:Addr) (es:List En) (last n:Int),(Di K H Z L A R es last∧H D=some (.lst [.int n])∧Oh es∧es.length≤40∧(Ge (es.map (·.2))).length≤8∧Av H (Bn K) Bu Em) ∧
   (∀g,(n,g)∈es→∀H',O0 L A (Bn K) H H'→Di K H' Z L A R (wo es n) last→Av H' (Bn K) Bu Em→Q (.str "ok") H')∧((∀e∈es,e.1≠n)→∀H',Ah H H'→ExN K "NoGame" E H')
 |_=>False
theorem Th:Ai ["desk","things"] ["desk","things"] (Af Cz):=⟨rfl,rfl,rfl,by decide +kernel,rfl,by decide +kernel,by decide +kernel⟩
local notation "#a8"=>Ba P w K mg base "take_game" ["desk","things"] 7 (Hg K ns)
theorem Vc (d:Bj K mg "take_game" Cz ["desk","things"])(er:#am)   (c_Ledger_take:#aP):#a8:=by
 rA d.calX (k:=6) Th (fun vs H Q E h=>?_) (fun f cdv A outer s H vs Q E hr h=>?_)
 ·match vs,h with
  |[.ref Z,.ref D],_=>rfl
 ·match vs,h with
  |[.ref Z,.ref D],hq0=>
   obtain ⟨L,A,R,es,last,n,⟨dk0,eD,inc,l40,l8,tk⟩,k,kr⟩:=hq0
   rA ⟨_,(#h (#Y (@Aaa _ _ _ _ _ _ _ _ _ _ _ _ _ _ _ _ _ _ _ _ _ _ _ _ _ _ (#z (dv 0) #r) (#v c_Ledger_take (List.Mem.head _) er.l_Ledger #d Fu) hr (#a (#c Cn (dv 1) Ab (fun _ _=>rfl)) Ac #r) #r #r #r) #r) (#i (#j A6))),?_⟩
   obtain ⟨dx,fs,dy,gs,eZ,f1,f2,eL,fd⟩:=dk0.get er.y_Desk er.y_Ledger
   rA ⟨Z,_,dx,fs,_,rfl,eZ,er.l_Desk,er.na_Desk_ledger,f1,L,_,dy,gs,_,rfl,eL,.head _,fd.ta,_,_,A3.of eD,A4 (j:=0) rfl,?_⟩
   eC ⟨A,R,es,last,⟨dk0.2.2,inc,l40,l8,tk⟩,fun g hg D' H1 fr lg1 tk1=>k g hg H1 fr (dk0.fr tk fr lg1) tk1,kr⟩
theorem _root_.Lw.Nm.sok {x:Str}(h:Nm x):PyData.strOk x=true:=Apn fun c hc=>Nat.lt_trans (h.abc c hc).2 #d
theorem Akv {ws:List Str}(h:∀p∈ws,p.length≤1000)(hn:ws.length≤100):(ws.map (·.length)).sum+ws.length*(Str.ofString "; ").length≤16777216:=by
 have key:∀l:List Str,(∀p∈l,p.length≤1000)→(l.map (·.length)).sum≤l.length*1000:=fun l=>by
  induction l with
  |nil=>eC fun _=>AV _
  |cons a r ih=>
   intro h
   have h1:=h a AK
   have h2:=ih fun p hp=>h p (AJ _ hp)
   simp only [BE,List.sum_cons,AY]
   omega
 have:=key ws h
 rw [show (Str.ofString "; ").length=2 from by decide +kernel]
 omega
def Aan (gs:List Gm):Str:=if gs=[] then Str.ofString "none" else Str.join Qw (gs.map Nx)
theorem Abq {α:Type}(f:α→PyData):∀l:List α,PyData.eqv (.list (l.map f)) (.list [])=l.isEmpty
 |[]=>rfl
 |_::_=>rfl
theorem Afb {P:Gm→Prop}{gs:List Gm}{p:List Nat}(h:∀g∈gs,P g):∀g∈pg gs p,P g:=fun g hg=>by
 unfold pg at hg
 obtain ⟨i,_,hi⟩:=EC.mp hg
 eC h g (BH hi)
def Hh (K:KKf)(ns:List Int):Sp:=fun vs H Q _=>match vs with
 | [.ref Z,_]=>∃(L A R:Addr) (es:List En) (last:Int),(Di K H Z L A R es last∧es.length≤40∧(∀e∈es,GO e.2)∧Av H (Bn K) Bu Em) ∧
   ∀p H',Mf (Bn K) H H'→Av H' (Bn K) Bu Em→Jp (dk (es.map (·.2))) (es.map (·.2)).length p→Q (.str (Aan (pg (es.map (·.2)) p))) H'
 |_=>False
theorem La:Ai ["desk","things","games"] ["desk","things"] (Af C4):=⟨rfl,rfl,rfl,by decide +kernel,rfl,by decide +kernel,by decide +kernel⟩
local notation "#a9"=>Ba P w K mg base "tell_book" ["desk","things"] 5 (Hh K ns)
theorem Um (d:Bj K mg "tell_book" C4 ["desk","things"])(er:#am)   (c_show_book:#a3)(c_Ledger_games:#aQ):#a9:=by
 rA d.cal (k:=4) La (fun vs H Q E h=>?_) (fun f cdv A outer s H vs Q E hr h=>?_)
 ·match vs,h with
  |[.ref Z,_],_=>rfl
 ·match vs,h with
  | [.ref Z,_],hq0=>
   obtain ⟨L,A,R,es,last,⟨dk0,l40,ok,tk⟩,k⟩:=hq0
   rA ⟨_,(#h (#q (2) _ _ _ _ La.nd rfl #t (#ac (#z (dv 0) #r) (#v c_Ledger_games (List.Mem.head _) er.l_Ledger #d Fu) hr #r) #r #t) (#i (#j (#N (#n (#ak hr.units) (dv 2) (#M Ac) (#w #d #d)) A6 (#b c_show_book hr #d #r (#a (dv 2) Ac #r) #d #r #r))))),?_⟩
   obtain ⟨dx,fs,dy,gs,eZ,f1,f2,eL,fd⟩:=dk0.get er.y_Desk er.y_Ledger
   rA ⟨Z,_,dx,fs,_,rfl,eZ,er.l_Desk,er.na_Desk_ledger,f1,L,_,dy,gs,_,rfl,eL,.head _,fd.ga,A,R,es,last,⟨dk0.2.2,l40,tk⟩,fun D vs H1 p sm nD eD tk1 stb al=>?_⟩
   have okp:∀g∈pg (es.map (·.2)) p,GO g:=Afb fun g hg=>by
    obtain ⟨e,he,rfl⟩:=BG.mp hg
    eC ok e he
   have ll:(pg (es.map (·.2)) p).length≤40:=by
    rw [M4 stb.2.1,stb.1,AE]
    eC l40
   have k:=fun H' sm' tk'=>k p H' sm' tk' stb
   generalize pg (es.map (·.2)) p=gs' at al okp ll k
   intro T H2 s2 e2
   have al2:=al.imp fun v g r=>Cw v g _ _ (Be s2) r
   have sm2:Mf (Bn K) H H2:=fun b o n e=>s2 b o (sm b o n e)
   rA ⟨_,_,Al5 (A3.of (s2 _ _ eD)) al2,.lst (A3.of e2) .nil,Ana fun g hg=>⟨(okp g hg).na.sok,(okp g hg).nb.sok⟩,rfl,?_⟩
   rw [Abq]
   unfold Aan at k
   rA ⟨fun h=>?_,fun h=>⟨gs',⟨⟨vs,A3.of (s2 _ _ eD),al2,by omega⟩,okp,by omega⟩,fun H3 s3=>?_⟩⟩
   ·have k:=k H2 sm2 (tk1.up s2)
    rw [AN (List.isEmpty_iff.mp h)] at k
    eC k
   ·have k:=k H3 (fun b o n e=>s3 b o (sm2 b o n e)) (tk1.up (s2.trans s3))
    rw [AI fun z=>by rw [z] at h;eC nb h] at k
    eC k
def shF (q:Q2):Str:=if q.2=1 then (toString q.1:Str) else (toString q.1:Str)++Str.ofString "/"++(toString q.2:Str)
def X7 (s:Str×Q2):Str:=s.1++Str.ofString " "++shF s.2
structure SmQ (s:Str×Q2):Prop where
 n8:s.1.length≤8
 t0:-(10 ^ 60)<s.2.1
 t1:s.2.1<10 ^ 60
 b0:0<s.2.2
 b1:s.2.2<10 ^ 60
theorem Anf (q:Q2):co (shF q)=(if q.2=1 then co (toString q.1:Str) else co (toString q.1:Str)++47::co (toString q.2:Str)):=by
 unfold shF
 split
 ·rfl
 ·rw [Bq,Bq,show co (Str.ofString "/")=[47] from by decide +kernel]
  simp
theorem On {i:Int}(h0:-(10 ^ 60)<i)(h1:i<10 ^ 60):(toString i:Str).length≤61:=by
 have e60:(10:Int) ^ 60=((10 ^ 60:Nat):Int):=by decide +kernel
 rw [e60] at h0 h1
 rw [←Bo]
 by_cases h:i<0
 ·obtain ⟨m,hm⟩:∃m:Nat,i=-(m:Int):=⟨i.natAbs,by omega⟩
  subst hm
  rw [Ag0 #o,AY]
  have:=Gf 59 m #o
  omega
 ·obtain ⟨m,rfl⟩:=Int.eq_ofNat_of_zero_le (show 0≤i by omega)
  rw [Kf]
  have:=Gf 59 m #o
  omega
theorem Oq {s:Str×Q2}(h:SmQ s):(shF s.2).length≤130:=by
 have h1:=On h.t0 h.t1
 have h2:=On (show -(10 ^ 60)<s.2.2 from Int.lt_trans #k h.b0) h.b1
 unfold shF
 split
 ·omega
 ·rw [Bf,Bf,show (Str.ofString "/").length=1 from by decide +kernel]
  omega
theorem O9:∀{ss:List (Str×Q2)} {ys:List V},Az (fun s y=>y=V.str (X7 s)) ss ys→ys=(ss.map X7).map V.str
 |_,_,.nil=>rfl
 |_,_,.cons h t=>by rw [h,O9 t];rfl
def J5 (K:KKf)(ns:List Int):Sp:=fun vs H Q _=>match vs with
 |[.ref P]=>∃vs ss,(H P=some (.lst vs)∧Az (Ln H) vs ss∧ss.length≤8∧∀s∈ss,SmQ s)∧∀H',Ah H H'→Q (.str (Str.join Qw (ss.map X7))) H'
 |_=>False
theorem Q7:Ai ["pairs"] ["pairs"] (Af G1):=⟨rfl,rfl,rfl,by decide +kernel,rfl,by decide +kernel,by decide +kernel⟩
local notation "#ba"=>Ba P w K mg base "show_pairs" ["pairs"] 3 (J5 K ns)
theorem Rb (d:Bj K mg "show_pairs" G1 ["pairs"])(er:#am)  (v_PARTING:Gv mg "PARTING" (.str "; "))(c_show_fraction:#a5):#ba:=by
 rA d.cal (k:=2) Q7 (fun vs H Q E h=>?_) (fun f cdv A outer s H vs Q E hr h=>?_)
 ·match vs,h with
  |[.ref P],_=>rfl
 ·match vs,h with
  | [.ref P],hq0=>
   obtain ⟨vs,ss,⟨eP,al,l8,ok⟩,k⟩:=hq0
   rA ⟨_,(#i (#j (#ad ("join") _ _ (Cu v_PARTING #r) (#a (#s ["name","one"] [] [] rfl (#H (dv 0)) (fun C s H fp=>(show PG _ _ (V5 K 2 _) from Ft rfl (A5 (Au (i:=0) (show List.Nodup [("name":Str),("one":Str)] by decide +kernel) rfl #t) (A5 (Au (i:=1) (show List.Nodup [("name":Str),("one":Str)] by decide +kernel) rfl #t) Eb)))) (fun C s H fp=>(#g C5 (#g C5 (dv 0) A6) (#b c_show_fraction hr #d #r (#a (dv 1) Ac #r) #d #r #r))) rfl rfl #k #k #r True.intro True.intro (by intro _;rfl)) Ac #r) #r #r #r #r #r))),?_⟩
   rA ⟨rfl,P,rfl,⟨_,A3.of eP⟩,Cf Ln N5 (fun _ s y=>y=V.str (X7 s)) (fun _ _ _ _ _ h=>h) (by rw [al.len];omega) (A3.of eP) al ?_ ?_⟩
   ·intro v s H2 hM hs s2 P' hP
    obtain ⟨t,p,rfl,e1,e2⟩:=hM
    have o:=ok s hs
    have lF:=Oq o
    have n8:=o.n8
    have lb:(Str.ofString " ").length=1:=by decide +kernel
    have big:(1000:Nat)≤sizeLine:=by decide
    rA ⟨t,_,rfl,Ec.of e1,rfl,_,_,rfl,_,_,rfl,rfl,rfl,by omega,_,_,⟨e2,⟨o.t0,o.t1⟩,o.b0,o.b1⟩,fun x H3 s3 hx=>?_⟩
    have ex:x=shF s.2:=Dn (hx.trans (Anf s.2).symm)
    subst ex
    eC ⟨by rw [Bf];omega,hP _ H3 s3 rfl⟩
   intro D H1 ys s1 _ e1 a1
   rw [O9 a1] at e1
   have ej:Txt.join (Str.ofString "; ") (ss.map X7)=Str.join Qw (ss.map X7):=Dn (Jw _ _)
   rA ⟨ss.map X7,A3.of e1,?_,?_⟩
   ·rA Akv (fun p hp=>?_) (by rw [AE];omega)
    obtain ⟨s,hs,rfl⟩:=BG.mp hp
    have h1:=Oq (ok s hs)
    have h2:=(ok s hs).n8
    unfold X7
    rw [Bf,Bf,show (Str.ofString " ").length=1 from by decide +kernel]
    omega
   rw [ej]
   eC k H1 s1
structure F5 (M:Int)(x:Q2):Prop where
 pos:0<x.2
 z:∃z:Int,-M≤z∧z≤M∧5*x.1=z*x.2
 g:Int.gcd x.1 x.2=1
theorem F5.mono {M N:Int}{x:Q2}(h:F5 M x)(l:M≤N):F5 N x:=⟨h.pos,let ⟨z,a,b,c⟩:=h.z;⟨z,by omega,by omega,c⟩,h.g⟩
theorem Hr {t b M z:Int}(hb:0<b)(h0:-M≤z)(h1:z≤M)(e:5*t=z*b):F5 M (Qa t b,Oc t b):=by
 rA ⟨K7 t #o,⟨z,h0,h1,?_⟩,Am4 t #o⟩
 have c:=W6 t b
 apply Int.eq_of_mul_eq_mul_right (show b≠0 by omega)
 show 5*Qa t b*b=z*Oc t b*b
 rw [BD,c,←BD,e,BD,ED b,←BD]
theorem F5.pl {M N:Int}{x y:Q2}(h:F5 M x)(k:F5 N y):F5 (M+N) (plQ x y):=by
 obtain ⟨z,a,b,c⟩:=h.z
 obtain ⟨w,d,e,f⟩:=k.z
 rA Hr (z:=z+w) (EB h.pos k.pos) #o #o ?_
 rw [Int.mul_add,←BD,c,←BD,f,Int.add_mul,BD,BD,ED y.2]
theorem F5.mn {M N:Int}{x y:Q2}(h:F5 M x)(k:F5 N y):F5 (M+N) (Y2 x y):=by
 obtain ⟨z,a,b,c⟩:=h.z
 obtain ⟨w,d,e,f⟩:=k.z
 rA Hr (z:=z-w) (EB h.pos k.pos) #o #o ?_
 rw [Int.mul_sub,←BD,c,←BD,f,Int.sub_mul,BD,BD,ED y.2]
theorem F5.small {M:Int}{x:Q2}(h:F5 M x):x.2≤5∧-M≤x.1∧x.1≤M:=by
 obtain ⟨z,a,b,c⟩:=h.z
 have p:=h.pos
 have d:x.2∣5*x.1:=⟨z,by rw [c,ED]⟩
 have dn:x.2.natAbs∣5*x.1.natAbs:=by
  have:=Int.natAbs_dvd_natAbs.mpr d
  rwa [Int.natAbs_mul] at this
 have d5:x.2.natAbs∣5:=Nat.Coprime.dvd_of_dvd_mul_right (show Nat.gcd x.2.natAbs x.1.natAbs=1 by rw [Nat.gcd_comm];eC h.g) dn
 have l5:x.2≤5:=by
  have:=Nat.le_of_dvd #d d5
  omega
 have h2:x.2=1∨x.2=2∨x.2=3∨x.2=4∨x.2=5:=by omega
 rA ⟨l5,?_⟩
 rcases h2 with e|e|e|e|e<;>rw [e] at c<;>omega
theorem Ts:Tb C7:=⟨⟨_,_,rfl,rfl⟩,fun r hr=>by
 obtain ⟨⟨a1,a2⟩,b1,b2,b3,b4,b5⟩:=Aas.2.1 r hr
 eC ⟨a1,by omega,b3,b4,by omega,b2,b5⟩,by decide⟩
theorem nb0:Nb 32 0 0:=⟨by decide,by decide,by decide,by decide,by decide,by decide⟩
theorem Ag3 {fi:Int}{w:Wn}{g:Gm}(h0:0≤g.h)(h2:g.h≤2):F5 160 (Hz 0 32 fi 0 0 C7 w g):=by
 have key:∀(x:Q2),(x=(1,2)∨x=(3,5)∨x=(7,10)∨x=(4,5)∨x=(9,10)∨x=(2,5)∨x=(3,10)∨x=(1,5)∨x=(1,10))→F5 160 (unQ 32 g.h x):=fun x hx=>by
  rcases hx with rfl|rfl|rfl|rfl|rfl|rfl|rfl|rfl|rfl
  ·eC Hr (z:=80*g.h-80) #d #o #o (by show 5*(32*(g.h*2-2*1))=_*(2*2);omega)
  ·eC Hr (z:=80*g.h-96) #d #o #o (by show 5*(32*(g.h*5-2*3))=_*(2*5);omega)
  ·eC Hr (z:=80*g.h-112) #d #o #o (by show 5*(32*(g.h*10-2*7))=_*(2*10);omega)
  ·eC Hr (z:=80*g.h-128) #d #o #o (by show 5*(32*(g.h*5-2*4))=_*(2*5);omega)
  ·eC Hr (z:=80*g.h-144) #d #o #o (by show 5*(32*(g.h*10-2*9))=_*(2*10);omega)
  ·eC Hr (z:=80*g.h-64) #d #o #o (by show 5*(32*(g.h*5-2*2))=_*(2*5);omega)
  ·eC Hr (z:=80*g.h-48) #d #o #o (by show 5*(32*(g.h*10-2*3))=_*(2*10);omega)
  ·eC Hr (z:=80*g.h-32) #d #o #o (by show 5*(32*(g.h*5-2*1))=_*(2*5);omega)
  ·eC Hr (z:=80*g.h-16) #d #o #o (by show 5*(32*(g.h*10-2*1))=_*(2*10);omega)
 have pk:∀{t b:Int},0≤t→Jx t b C7 (0,1)=(1,2)∨Jx t b C7 (0,1)=(3,5)∨Jx t b C7 (0,1)=(7,10)∨Jx t b C7 (0,1)=(4,5)∨Jx t b C7 (0,1)=(9,10):=fun {t b} ht=>by
  obtain ⟨r,hr,e⟩:=O3 (b:=b) Ts ht (0,1)
  have hr:r=(0,1,2)∨r=(60,3,5)∨r=(160,7,10)∨r=(280,4,5)∨r=(460,9,10):=by simpa [C7] using hr
  rw [e]
  rcases hr with rfl|rfl|rfl|rfl|rfl<;>simp
 have sz:∀p r,Zd 0 32 0 0 p r=32:=fun p r=>by
  unfold Zd
  rw [AI (fun c=>absurd c.1 #d),AI (fun c=>absurd c.1 #d)]
 unfold Hz btQ
 rw [AI #d,sz]
 generalize (Y2 (wq fi (w g.a)) (wq fi (w g.b))).1=t
 generalize (Y2 (wq fi (w g.a)) (wq fi (w g.b))).2=b
 rA key _ ?_
 by_cases ht:t<0
 ·rw [Vf ht,Kl (show 0≤-t by omega)]
  rcases pk (t:=-t) (b:=b) #o with e|e|e|e|e<;>rw [e]<;>simp
 ·rw [Kl #o]
  rcases pk (t:=t) (b:=b) #o with e|e|e|e|e<;>rw [e]<;>simp
theorem Afx:∀(gs:List Gm) (w:Wn) (M:Int),(∀g∈gs,0≤g.h∧g.h≤2)→(∀x,F5 M (wq 1500 (w x)))→∀x,F5 (M+160*gs.length) (wq 1500 (K0 0 32 1500 0 0 C7 w gs x))
 |[],w,M,_,h,x=>(h x).mono (by simp)
 | g::gs,w,M,hg,h,x=>by
  have o:=hg g AK
  have:=Afx gs (Nv 0 32 1500 0 0 C7 w g) (M+160) (fun y hy=>hg y (AJ _ hy)) (fun y=>?_) x
  ·eC this.mono (by rw [AY];omega)
  ·unfold Nv
   have b:=Ag3 (fi:=1500) (w:=w) o.1 o.2
   split
   ·eC (h g.b).mn b
   ·split
    ·eC (h g.a).pl b
    ·eC (h y).mono #o
theorem Afp {gs:List Gm}(hg:∀g∈gs,0≤g.h∧g.h≤2)(l:gs.length≤40)(x:Str):F5 13900 (wq 1500 (K0 0 32 1500 0 0 C7 (fun _=>none) gs x)):=
 (Afx gs (fun _=>none) 7500 hg (fun y=>⟨by decide,⟨7500,by decide,by decide,by decide⟩,by decide⟩) x).mono #o
def El (gs:List Gm)(p:List Nat):List (Str×Q2):=(Ge gs).map fun x=>(x,wq 1500 (K0 0 32 1500 0 0 C7 (fun _=>none) (pg gs p) x))
def Air (ss:List (Str×Q2)):Str:=if ss=[] then Str.ofString "none" else Str.join Qw (ss.map X7)
theorem Abx {gs:List Gm}{p:List Nat}(ok:∀g∈gs,GO g)(l:p.length≤40)(hp:∀i∈p,i<gs.length):∀s∈El gs p,SmQ s∧PyData.strOk s.1=true:=fun s hs=>by
 obtain ⟨x,hx,rfl⟩:=BG.mp hs
 have h5:=Afp (gs:=pg gs p) (Afb fun g hg=>⟨(ok g hg).h0,(ok g hg).h1⟩) (by rw [M4 hp];eC l) x
 have n:Nm x:=by
  obtain ⟨g,hg,e⟩:=Cy.mp hx
  rcases e with rfl|rfl
  ·eC (ok g hg).na
  ·eC (ok g hg).nb
 obtain ⟨b5,t0,t1⟩:=h5.small
 have pw:(13900:Int)<10 ^ 60:=by decide +kernel
 have hb:=h5.pos
 generalize wq 1500 (K0 0 32 1500 0 0 C7 (fun _=>none) (pg gs p) x)=q at hb b5 t0 t1
 eC ⟨⟨Hd n,(by show -(10 ^ 60)<q.1;omega),(by show q.1<10 ^ 60;omega),hb,(by show q.2<10 ^ 60;omega)⟩,n.sok⟩
def Ey (K:KKf)(ns:List Int):Sp:=fun vs H Q _=>match vs with
 | [.ref Z,_]=>∃(L A R:Addr) (es:List En) (last:Int),(Di K H Z L A R es last∧Oi K (Ht (Bn K) H) R 0 32 1500 0 0 C7∧es.length≤40∧(∀e∈es,GO e.2)∧(Ge (es.map (·.2))).length≤8∧Av H (Bn K) Bu Em) ∧
   ∀p H',Mf (Bn K) H H'→Av H' (Bn K) Bu Em→Jp (dk (es.map (·.2))) (es.map (·.2)).length p→Q (.str (Air (El (es.map (·.2)) p))) H'
 |_=>False
theorem Hu:Ai ["desk","things","worths"] ["desk","things"] (Af B2):=⟨rfl,rfl,rfl,by decide +kernel,rfl,by decide +kernel,by decide +kernel⟩
local notation "#bb"=>Ba P w K mg base "tell_running" ["desk","things"] 12 (Ey K ns)
theorem Om (d:Bj K mg "tell_running" B2 ["desk","things"])(er:#am)   (c_show_pairs:#ba)(c_Ledger_worths:#aT):#bb:=by
 rA d.cal (k:=11) Hu (fun vs H Q E h=>?_) (fun f cdv A outer s H vs Q E hr h=>?_)
 ·match vs,h with
  |[.ref Z,_],_=>rfl
 ·match vs,h with
  | [.ref Z,_],hq0=>
   obtain ⟨L,A,R,es,last,⟨dk0,hR,l40,ok,l8,tk⟩,k⟩:=hq0
   rA ⟨_,(#h (#q (2) _ _ _ _ Hu.nd rfl #t (#ac (#z (dv 0) #r) (#v c_Ledger_worths (List.Mem.head _) er.l_Ledger #d Fu) hr #r) #r #t) (#i (#j (#N (#n (#ak hr.units) (dv 2) (#M Ac) (#w #d #d)) A6 (#b c_show_pairs hr #d #r (#a (dv 2) Ac #r) #d #r #r))))),?_⟩
   obtain ⟨dx,fs,dy,gs,eZ,f1,f2,eL,fd⟩:=dk0.get er.y_Desk er.y_Ledger
   rA ⟨Z,_,dx,fs,_,rfl,eZ,er.l_Desk,er.na_Desk_ledger,f1,L,_,dy,gs,_,rfl,eL,.head _,fd.ws,A,R,es,last,0,32,1500,0,0,C7,⟨dk0.2.2,hR,Ts,nb0,A2 rfl,l40,fun e he=>⟨⟨(ok e he).h0,(ok e he).h1⟩,(ok e he).ne⟩,tk,l8⟩,fun D vs H1 p sm nD eD tk1 stb al=>?_⟩
   have okr:=Abx (gs:=es.map (·.2)) (p:=p) (fun g hg=>by
    obtain ⟨e,he,rfl⟩:=BG.mp hg
    eC ok e he) (by rw [stb.1,AE];eC l40) stb.2.1
   have k:=fun H' sm' tk'=>k p H' sm' tk' stb
   have al:Az (Ln H1) vs (El (es.map (·.2)) p):=al
   have lr:(El (es.map (·.2)) p).length≤8:=by
    unfold El
    rw [AE]
    eC l8
   generalize El (es.map (·.2)) p=ss at al okr k lr
   intro T H2 s2 e2
   have al2:=al.imp fun v g r=>N5 v g _ _ (Be s2) r
   have sm2:Mf (Bn K) H H2:=fun b o n e=>s2 b o (sm b o n e)
   rA ⟨_,_,.lst (A3.of (s2 _ _ eD)) (Agx al2),.lst (A3.of e2) .nil,Aor fun s hs=>(okr s hs).2,rfl,?_⟩
   rw [Abq]
   unfold Air at k
   rA ⟨fun h=>?_,fun h=>⟨vs,ss,⟨s2 _ _ eD,al2,lr,fun s hs=>(okr s hs).1⟩,fun H3 s3=>?_⟩⟩
   ·have k:=k H2 sm2 (tk1.up s2)
    rw [AN (List.isEmpty_iff.mp h)] at k
    eC k
   ·have k:=k H3 (fun b o n e=>s3 b o (sm2 b o n e)) (tk1.up (s2.trans s3))
    rw [AI fun z=>by rw [z] at h;eC nb h] at k
    eC k
theorem Aak {x:Str}{i:Nat}:PySem.StrLaws.At x ⟨#[32]⟩ x.length i↔(co x)[i]? =some 32:=PySem.StrLaws.subAt_one x 32 i
theorem R0 {x:Str}(h:32∉co x):(Txt.partition x ⟨#[32]⟩).1=x:=by
 rcases partition_head x ⟨#[32]⟩ with ⟨e,_⟩|⟨i,_,ha,_⟩
 ·eC e
 ·eC absurd (BH (Aak.mp ha)) h
theorem Vw {x a b:Str}(hx:co x=co a++32::co b)(h:32∉co a):Txt.partition x ⟨#[32]⟩=(a,⟨#[32]⟩,b):=by
 have mid:(co x)[(co a).length]? =some 32:=by
  rw [hx,BN (AF _),Nat.sub_self]
  rfl
 have p1:(Txt.partition x ⟨#[32]⟩).1=a:=by
  rcases partition_head x ⟨#[32]⟩ with ⟨_,n⟩|⟨i,e,ha,mn⟩
  ·eC absurd (Aak.mpr mid) (n _)
  ·have h1:=Aak.mp ha
   have le:i≤(co a).length:=DU fun z=>mn _ z (Aak.mpr mid)
   have ei:i=(co a).length:=by
    rcases Nat.lt_or_ge i (co a).length with z|z
    ·rw [hx,CF z] at h1
     eC absurd (BH h1) h
    ·omega
   rw [e,ei]
   apply Dn
   show (Builtin.Str.strSub x 0 (co a).length).cps.toList=co a
   rw [PySem.StrLaws.strSub_toList]
   show ((co x).drop 0).take ((co a).length-0)=co a
   rw [hx,GL,Nat.sub_zero,List.take_left]
 have sum:=PySem.StrLaws.partition_sum x ⟨#[32]⟩
 have lx:=congrArg List.length hx
 rw [AM,AY] at lx
 have p2:(Txt.partition x ⟨#[32]⟩).2.1=⟨#[32]⟩:=by
  unfold Txt.partition at p1 ⊢
  split at p1
  ·rfl
  ·have:=congrArg (fun z=>(co z).length) p1
   simp only at this
   omega
 have p3:(Txt.partition x ⟨#[32]⟩).2.2=b:=by
  rw [p1,p2] at sum
  have:=congrArg co sum
  rw [Bq,Bq,hx,M9,CN] at this
  have:=List.append_cancel_left this
  eC Dn (List.cons.inj this).2
 eC Prod.ext p1 (Prod.ext p2 p3)
def J3 (K:KKf)(ns:List Int):Sp:=fun vs H Q _=>match vs with
 |[.str x,.ref p]=>∃lo hi,(Vt K H p [.int lo,.int hi]∧F8 x=true∧lo≤Te x∧Te x≤hi)∧∀H',Ah H H'→Q (.int (Te x)) H'
 |_=>False
theorem Ri:Ai ["word","pair"] ["word","pair"] (Af Gz):=⟨rfl,rfl,rfl,by decide +kernel,rfl,by decide +kernel,by decide +kernel⟩
local notation "#bc"=>Ba P w K mg base "read_thing" ["word","pair"] 2 (J3 K ns)
theorem Rk (d:Bj K mg "read_thing" Gz ["word","pair"])(er:#am)(n_int:mg "int"=none)(v_LONGEST_NUMBER:Gv mg "LONGEST_NUMBER" (.int (6)))(c_is_number:#aZ):#bc:=by
 rA d.cal (k:=1) Ri (fun vs H Q E h=>?_) (fun f cdv A outer s H vs Q E hr h=>?_)
 ·match vs,h with
  |[.str x,.ref p],_=>rfl
 ·match vs,h with
  | [.str x,.ref p],hq0=>
   obtain ⟨lo,hi,⟨hp,hd,h0,h1⟩,k⟩:=hq0
   rA ⟨_,(#h (#m (@Ao6 _ _ _ _ _ _ (dv 1)) (#i (#j (dv 0))) Aw) (#h (#m (#B (#D (#b c_is_number hr #d #r (#a (dv 0) (#a (Cu v_LONGEST_NUMBER #r) Ac #r) #r) #d #r #r) (by intro _;rfl))) (#i Cq) Aw) (#h (#m (#B (#T Qz Qz (#c Bp (dv 1) Ab (fun _ _=>rfl)) (#y Z1 #r n_int #k (#a (dv 0) Ac #r) #d #d #r #r) (#c Bp (dv 1) Ab (fun _ _=>rfl)) (by with_unfolding_all rfl))) (#i Cq) Aw) (#i (#j (#y Z1 #r n_int #k (#a (dv 0) Ac #r) #d #d #r #r)))))),?_⟩
   obtain ⟨l4,an⟩:=Agb hd
   rA ⟨fun h=>nb h,fun _=>⟨⟨.inr ⟨by decide,l4⟩,by omega⟩,fun H1 s1=>⟨fun h=>?_,fun _=>?_⟩⟩⟩
   ·rw [hd] at h
    eC nb h
   have hp1:=(hp.up (Be s1)).sq
   rA ⟨_,hp1,Te x,an,by omega,⟨fun _=>⟨_,hp1,⟨fun h=>?_,fun _=>⟨Te x,an,by omega,k H1 s1⟩⟩⟩,fun h=>absurd h0 (BM h)⟩⟩
   rw [AQ h1] at h
   eC nb h
def Ex (K:KKf)(ns:List Int):Sp:=fun vs H Q E=>match vs with
 | [.ref Z,.ref W]=>(∃x,H W=some (.lst [.str "take",.str x])∧(F8 x=true∧Te x≤999999)∧∀D H',Ah H H'→H' D=some (.lst [.int (Te x)])→Hg K ns [.ref Z,.ref D] H' Q E) ∨
   (H W=some (.lst [.str "book"])∧∀D H',Ah H H'→Hh K ns [.ref Z,.ref D] H' Q E) ∨
   (H W=some (.lst [.str "running"])∧∀D H',Ah H H'→Ey K ns [.ref Z,.ref D] H' Q E)
 |_=>False
theorem Ez:Ai ["desk","words","answer","bounds"] ["desk","words"] (Af Fi):=⟨rfl,rfl,rfl,by decide +kernel,rfl,by decide +kernel,by decide +kernel⟩
local notation "#bd"=>Ba P w K mg base "answer_words" ["desk","words"] 13 (Ex K ns)
theorem Oe (d:Bj K mg "answer_words" Fi ["desk","words"])(er:#am)(n_zip:mg "zip"=none)(n_len:mg "len"=none)(v_tell_running:FnV K mg "tell_running")(v_tell_book:FnV K mg "tell_book")(v_take_game:FnV K mg "take_game")(v_WORD_ROWS:Gv mg "WORD_ROWS" (.ref a_WORD_ROWS))(w_WORD_ROWS:Ol P w K a_WORD_ROWS [(.inr "take",.ref b_WORD_ROWS_take),(.inr "book",.ref b_WORD_ROWS_book),(.inr "verdict",.ref b_WORD_ROWS_verdict),(.inr "way",.ref b_WORD_ROWS_way),(.inr "ends",.ref b_WORD_ROWS_ends),(.inr "rank",.ref b_WORD_ROWS_rank),(.inr "running",.ref b_WORD_ROWS_running),(.inr "worth",.ref b_WORD_ROWS_worth)])(w_WORD_ROWS_take:B1 K b_WORD_ROWS_take [.ref g_take_game,.ref b_WORD_ROWS_take_1])(w_WORD_ROWS_take_1:B1 K b_WORD_ROWS_take_1 [.ref b_WORD_ROWS_take_1_0])(w_WORD_ROWS_take_1_0:B1 K b_WORD_ROWS_take_1_0 [.int (0),.int (999999)])(w_WORD_ROWS_book:B1 K b_WORD_ROWS_book [.ref g_tell_book,.ref b_WORD_ROWS_book_1])(w_WORD_ROWS_book_1:B1 K b_WORD_ROWS_book_1 [])(w_WORD_ROWS_running:B1 K b_WORD_ROWS_running [.ref g_tell_running,.ref b_WORD_ROWS_running_1])(w_WORD_ROWS_running_1:B1 K b_WORD_ROWS_running_1 [])(z_take_game:PySem.W.nsIn K mainGlobals "take_game"=some (some (.ref g_take_game)))(z_tell_book:PySem.W.nsIn K mainGlobals "tell_book"=some (some (.ref g_tell_book)))(z_tell_running:PySem.W.nsIn K mainGlobals "tell_running"=some (some (.ref g_tell_running)))(c_tell_running:#bb)(c_tell_book:#a9)(c_take_game:#a8)(c_read_thing:#bc):#bd:=by
 rA d.calX (k:=12) Ez (fun vs H Q E h=>?_) (fun f cdv A outer s H vs Q E hr h=>?_)
 ·match vs,h with
  |[.ref Z,.ref W],_=>rfl
 ·match vs,h with
  | [.ref Z,.ref W],hq0=>
   have hh:=hq0
   rA ⟨_,(#h (#m (@Aeh _ _ _ _ _ _ _ _ w_WORD_ROWS (#c Cn (dv 1) Ab (fun _ _=>rfl)) (Cu v_WORD_ROWS #r) (by with_unfolding_all rfl)) (#i Cq) Aw) (#h (#q (2) _ _ _ _ Ez.nd rfl #t (#c Bp (@Vm _ _ _ _ _ _ _ _ w_WORD_ROWS (Cu v_WORD_ROWS #r) (#c Cn (dv 1) Ab (fun _ _=>rfl)) (fun _ _=>rfl)) Ab (fun _ _=>rfl)) #r #t) (#h (#q (3) _ _ _ _ Ez.nd rfl #t (#c Bp (@Vm _ _ _ _ _ _ _ _ w_WORD_ROWS (Cu v_WORD_ROWS #r) (#c Cn (dv 1) Ab (fun _ _=>rfl)) (fun _ _=>rfl)) Ab (fun _ _=>rfl)) #r #t) (#h (#m (#n Acb (#l C9 #r n_len #k (#a (dv 1) Ac #r) #d #d #r #r) (#g Fx Ab (#l C9 #r n_len #k (#a (dv 3) Ac #r) #d #d #r #r)) (#w #d #d)) (#i Cq) Aw) (#i (#j (@Afa _ _ _ _ _ _ _ _ _ _ _ (F1.cons c_take_game v_take_game #d (F1.cons c_tell_book v_tell_book #d (F1.cons c_tell_running v_tell_running #d F1.nil))) hr Aal (dv 2) (#a (dv 0) (#a (#s ["word","pair"] [] [] rfl (@Afn _ true false _ _ _ _ _ _ _ _ #r n_zip (#a (#I Aej (dv 1) (Dj Ab) Jt) (#a (dv 3) Ac #r) #r) #r #r) (fun C s H fp=>(show PG _ _ (V5 K 2 _) from Ft rfl (A5 (Au (i:=0) (show List.Nodup [("word":Str),("pair":Str)] by decide +kernel) rfl #t) (A5 (Au (i:=1) (show List.Nodup [("word":Str),("pair":Str)] by decide +kernel) rfl #t) Eb)))) (fun C s H fp=>(#b c_read_thing hr #d #r (#a (dv 0) (#a (dv 1) Ac #r) #r) #d #r #r)) rfl rfl #k #k #r True.intro True.intro (by intro _;rfl)) Ac #r) #r) #r #r))))))),?_⟩
   rcases hh with ⟨x,eW,⟨hd,n9⟩,k⟩|⟨eW,k⟩|⟨eW,k⟩
   ·rA ⟨_,_,A3.of eW,A4 (j:=0) rfl,Sum.inr "take",rfl,rfl,⟨fun h=>nb h,fun _=>?_⟩⟩
    rA ⟨rfl,_,_,A3.of eW,A4 (j:=0) rfl,Sum.inr "take",.ref b_WORD_ROWS_take,rfl,rfl,_,w_WORD_ROWS_take.sq H,rfl,_,_,A3.of eW,A4 (j:=0) rfl,Sum.inr "take",.ref b_WORD_ROWS_take,rfl,rfl,_,w_WORD_ROWS_take.sq H,?_⟩
    rA ⟨_,.inl (A3.of eW),_,.inr (w_WORD_ROWS_take_1.sq H),⟨fun h=>nb h,fun _=>?_⟩⟩
    rA ⟨"take_game",_,g_take_game,.head _,rfl,z_take_game,_,rfl,_,A3.of eW,fun S H1 s1 e1=>?_⟩
    rA ⟨⟨_,A3.of e1⟩,⟨_,w_WORD_ROWS_take_1.sq H1⟩,Jv (ca:=true) (cb:=false) (ms:=[()]) (fun _ u v _=>u=V.str x∧v=V.ref b_WORD_ROWS_take_1_0) (fun _ _ _ _ _ _ h=>h) (fun _ _ y=>y=V.int (Te x)) (fun _ _ _ _ _ h=>h) #d (A3.of e1) (w_WORD_ROWS_take_1.sq H1) (AF _) rfl ?_ ?_ ?_⟩
    ·intro i u v m h1 h2 _
     match i,h1,h2 with
     |0,h1,h2=>eC ⟨(Option.some.inj h1).symm,(Option.some.inj h2).symm⟩
     |j+1,h1,_=>eC nomatch h1
    ·intro u v m t H2 hM _ s2 et P hP
     obtain ⟨rfl,rfl⟩:=hM
     eC ⟨t,_,rfl,Ec.of et,rfl,_,_,rfl,_,_,rfl,rfl,rfl,_,_,⟨.inr w_WORD_ROWS_take_1_0,hd,Int.natCast_nonneg _,n9⟩,fun H3 s3=>hP _ H3 s3 rfl⟩
    ·intro D H2 zs s2 _ e2 a2
     cases a2 with
     |cons h t=>
      cases t
      rw [h] at e2
      eC k D H2 (s1.trans s2) e2
   ·rA ⟨_,_,A3.of eW,A4 (j:=0) rfl,Sum.inr "book",rfl,rfl,⟨fun h=>nb h,fun _=>?_⟩⟩
    rA ⟨rfl,_,_,A3.of eW,A4 (j:=0) rfl,Sum.inr "book",.ref b_WORD_ROWS_book,rfl,rfl,_,w_WORD_ROWS_book.sq H,rfl,_,_,A3.of eW,A4 (j:=0) rfl,Sum.inr "book",.ref b_WORD_ROWS_book,rfl,rfl,_,w_WORD_ROWS_book.sq H,?_⟩
    rA ⟨_,.inl (A3.of eW),_,.inr (w_WORD_ROWS_book_1.sq H),⟨fun h=>nb h,fun _=>?_⟩⟩
    rA ⟨"tell_book",_,g_tell_book,.tail _ (.head _),rfl,z_tell_book,_,rfl,_,A3.of eW,fun S H1 s1 e1=>?_⟩
    eC ⟨⟨_,A3.of e1⟩,⟨_,w_WORD_ROWS_book_1.sq H1⟩,Jv (ca:=true) (cb:=false) (ms:=([]:List Unit)) (fun _ _ _ _=>True) (fun _ _ _ _ _ _ h=>h) (fun _ _ _=>True) (fun _ _ _ _ _ h=>h) #d (A3.of e1) (w_WORD_ROWS_book_1.sq H1) (AV _) rfl (fun _ _ _ _ _ _ _=>trivial) (fun _ _ _ _ _ _ h=>nomatch h) fun D H2 zs s2 _ _ _=>k D H2 (s1.trans s2)⟩
   ·rA ⟨_,_,A3.of eW,A4 (j:=0) rfl,Sum.inr "running",rfl,rfl,⟨fun h=>nb h,fun _=>?_⟩⟩
    rA ⟨rfl,_,_,A3.of eW,A4 (j:=0) rfl,Sum.inr "running",.ref b_WORD_ROWS_running,rfl,rfl,_,w_WORD_ROWS_running.sq H,rfl,_,_,A3.of eW,A4 (j:=0) rfl,Sum.inr "running",.ref b_WORD_ROWS_running,rfl,rfl,_,w_WORD_ROWS_running.sq H,?_⟩
    rA ⟨_,.inl (A3.of eW),_,.inr (w_WORD_ROWS_running_1.sq H),⟨fun h=>nb h,fun _=>?_⟩⟩
    rA ⟨"tell_running",_,g_tell_running,.tail _ (.tail _ (.head _)),rfl,z_tell_running,_,rfl,_,A3.of eW,fun S H1 s1 e1=>?_⟩
    eC ⟨⟨_,A3.of e1⟩,⟨_,w_WORD_ROWS_running_1.sq H1⟩,Jv (ca:=true) (cb:=false) (ms:=([]:List Unit)) (fun _ _ _ _=>True) (fun _ _ _ _ _ _ h=>h) (fun _ _ _=>True) (fun _ _ _ _ _ h=>h) #d (A3.of e1) (w_WORD_ROWS_running_1.sq H1) (AV _) rfl (fun _ _ _ _ _ _ _=>trivial) (fun _ _ _ _ _ _ h=>nomatch h) fun D H2 zs s2 _ _ _=>k D H2 (s1.trans s2)⟩
def Ia (K:KKf)(ns:List Int):Sp:=fun vs H Q E=>match vs with
 | [.ref Z,.str row]=>row.length≤900∧((∃x,Txt.partition row ⟨#[32]⟩=(Str.ofString "put",⟨#[32]⟩,x)∧∀H',Ah H H'→Jd K ns [.ref Z,.str x] H' Q E) ∨
   (((Txt.partition row ⟨#[32]⟩).1=Str.ofString "take"∨(Txt.partition row ⟨#[32]⟩).1=Str.ofString "book"∨(Txt.partition row ⟨#[32]⟩).1=Str.ofString "running")∧∀W H',Ah H H'→H' W=some (.lst ((Txt.split row ⟨#[32]⟩).map V.str))→Ex K ns [.ref Z,.ref W] H' Q E))
 |_=>False
theorem N3:Ai ["self","row","head"] ["self","row"] (Af Kh):=⟨rfl,rfl,rfl,by decide +kernel,rfl,by decide +kernel,by decide +kernel⟩
local notation "#be"=>Df P w K mg base [c_Desk] [] "say" ["self","row"] 14 (Ia K ns)
theorem Xi (d:Ej K [c_Desk] [] "say" "Desk.say" Kh ["self","row"])(er:#am)(n_isinstance:mg "isinstance"=none)(n_str:mg "str"=none)(v_TEXT_ROWS:Gv mg "TEXT_ROWS" (.ref a_TEXT_ROWS))(w_TEXT_ROWS:Ol P w K a_TEXT_ROWS [(.inr "put",.ref g_put_game),(.inr "tree",.ref g_tell_tree),(.inr "group",.ref g_tell_group)])(z_put_game:PySem.W.nsIn K mainGlobals "put_game"=some (some (.ref g_put_game)))(v_put_game:FnV K mg "put_game")(c_answer_words:#bd)(c_put_game:#a7):#be:=by
 rA d.calX (k:=13) N3 (fun vs H Q E h=>?_) (fun f cdv A outer s H vs Q E hr h=>?_)
 ·match vs,h with
  |[.ref Z,.str row],_=>rfl
 ·match vs,h with
  | [.ref Z,.str row],hq0=>
   obtain ⟨hl,hh⟩:=hq0
   rA ⟨_,(#h (#m (#B (#D (#l Sg #r n_isinstance #k (#a (dv 1) (#a (Zr "str" #r n_str #k) Ac #r) #r) #d #d #r #r) (by intro _;rfl))) (#i Cq) Aw) (#h (#q (2) _ _ _ _ N3.nd rfl #t (#F PySem.F.plainAttrs_str PySem.F.slot_str_partition PySem.F.type_str_partition Alk (dv 1) (#a A6 Ac #r) #r #r #r #r #r) #r #t) (#h (#m (@L2.PW.pt _ _ _ (#Z (@Aot _ _ _ _ _ _ _ _ w_TEXT_ROWS (#c A0 (dv 2) Ab (fun _ _=>rfl)) (Cu v_TEXT_ROWS #r) (by with_unfolding_all rfl)) (#ai (#n Gg (#c A0 (dv 2) Ab (fun _ _=>rfl)) A6 (#w #d #d))))) (#i (#j (@Afr _ _ _ _ _ _ _ _ _ _ _ _ (F1.cons c_put_game v_put_game #d F1.nil) hr Aal (@Vm _ _ _ _ _ _ _ _ w_TEXT_ROWS (Cu v_TEXT_ROWS #r) (#c A0 (dv 2) Ab (fun _ _=>rfl)) (fun _ _=>rfl)) (#a (dv 0) (#a (#c A0 (dv 2) Ab (fun _ _=>rfl)) Ac #r) #r) #r #r))) Aw) (#i (#j (#G c_answer_words hr #d #r (#a (dv 0) (#a (#F PySem.F.plainAttrs_str PySem.F.slot_str_split PySem.F.type_str_split Aaq (dv 1) (#a A6 Ac #r) #r #r #r #r #r) Ac #r) #r) #d #r #r)))))),?_⟩
   rA ⟨true,rfl,⟨fun h=>nb h,fun _=>?_⟩⟩
   rA ⟨rfl,by decide +kernel,by omega,fun T H1 s1 e1=>?_⟩
   have e1:H1 T=some (.tup [.str (Txt.partition row ⟨#[32]⟩).1,.str (Txt.partition row ⟨#[32]⟩).2.1,.str (Txt.partition row ⟨#[32]⟩).2.2]):=e1
   rcases hh with ⟨x,ep,k⟩|⟨hw,k⟩
   ·rw [ep] at e1
    rA ⟨_,e1,Sum.inr "put",rfl,rfl,⟨fun _=>⟨_,e1,⟨fun _=>?_,fun h=>nb h⟩⟩,fun h=>nb h⟩⟩
    eC ⟨rfl,_,e1,Sum.inr "put",.ref g_put_game,rfl,rfl,"put_game",_,g_put_game,.head _,rfl,z_put_game,_,e1,k H1 s1⟩
   ·have no:∀v1 v2 v3:V,Cj [(Sum.inr (Str.ofString "put"),v1),(Sum.inr (Str.ofString "tree"),v2),(Sum.inr (Str.ofString "group"),v3)] (Sum.inr (Txt.partition row ⟨#[32]⟩).1:B4)=none:=fun v1 v2 v3=>by
     rcases hw with e|e|e<;>rw [e]<;>rfl
    rA ⟨_,e1,Sum.inr _,rfl,rfl,?_⟩
    rw [no]
    rA ⟨fun h=>nb h,fun _=>⟨fun h=>nb h,fun _=>?_⟩⟩
    eC ⟨rfl,by decide +kernel,by omega,fun W H2 s2 e2=>k W H2 (s1.trans s2) e2⟩
def Lx (K:KKf)(ns:List Int):Sp:=fun vs H Q _=>match vs with
 |[.ref a,.int k]=>A3 K H a (ns.map V.int)∧0≤k∧∀c:Int,Q (.int c) H
 |_=>False
theorem Vs:Ai ["_law_script","_law_k"] ["_law_script","_law_k"] (Af Ja):=⟨rfl,rfl,rfl,by decide +kernel,rfl,by decide +kernel,by decide +kernel⟩
local notation "#bf"=>Ba P w K mg base "_law_cell_at" ["_law_script","_law_k"] 1 (Lx K ns)
theorem Up (d:Bj K mg "_law_cell_at" Ja ["_law_script","_law_k"])(er:#am)(n_len:mg "len"=none)  :#bf:=by
 rA d.cal (k:=0) Vs (fun vs H Q E h=>?_) (fun f cdv A outer s H vs Q E hr h=>?_)
 ·match vs,h with
  |[.ref a,.int k],_=>rfl
 ·match vs,h with
  |[.ref a,.int k],hq0=>
   obtain ⟨hS,k0,q⟩:=hq0
   rA ⟨_,(#h (#m (#n Ws (dv 1) (#l C9 #r n_len #k (#a (dv 0) Ac #r) #d #d #r #r) (#w #d #d)) (#i (#j (#c Cn (dv 0) (dv 1) (fun _ _=>rfl)))) Aw) (#i (#j Ab))),?_⟩
   rA ⟨_,.inl hS,⟨fun h=>?_,fun _=>q 0⟩⟩
   have h:=AZ h
   rw [AE] at h
   obtain ⟨j,rfl⟩:=Int.eq_ofNat_of_zero_le k0
   have hj:j<ns.length:=by omega
   rA ⟨_,.int ns[j],hS,A4 ?_,q _⟩
   rw [BJ,AD hj]
   rfl
def l12:List Nat:=[98,113,99,120,100,108,101,110,104,117,115,118]
def b8:List Nat:=[103,109,116,97,122,107,102,119]
theorem Ait {n:Int}(h0:0≤n % 12)(h1:n % 12<12):∃c,Q6 (Str.cps "bqcxdlenhusv").toList (n % 12)=some c∧l12[(n % 12).toNat]? =some c:=by
 obtain ⟨j,hj⟩:=Int.eq_ofNat_of_zero_le h0
 rw [hj] at h1 ⊢
 have e:(Str.cps "bqcxdlenhusv").toList=l12:=by decide +kernel
 have hl:j<l12.length:=by show j<12;omega
 eC ⟨l12[j],by rw [e];eC A4 (AD hl),by rw [CW,AD hl]⟩
def n8 (n p c:Nat):List Nat:=(b8.take n).take p++[c]++(b8.take n).drop (p+1)
theorem Amo {n p c d:Nat}(h:n8 n p c=n8 n p d):c=d:=by
 unfold n8 at h
 rw [CN,CN] at h
 have h:=List.append_cancel_left h
 simpa using h
theorem Ak5 {n p c:Nat}(h:p<n)(h':n≤8):(n8 n p c).length=n:=by
 have:b8.length=8:=rfl
 unfold n8
 rw [AM,AM,BQ,BQ,DN,BQ,DO]
 omega
theorem Alz {n p c:Nat}(hc:c∈l12):∀e∈n8 n p c,e∈b8∨e∈l12:=by
 intro e he
 unfold n8 at he
 rcases BV.mp he with he|he
 ·rcases BV.mp he with he|he
  ·eC .inl (EO (EO he))
  ·eC .inr (AW.mp he▸hc)
 ·eC .inl (EO (List.mem_of_mem_drop he))
theorem Ams {n p c:Nat}(hc:c∈l12):∀e∈n8 n p c,97≤e∧e<123:=fun e he=>by
 have hb:∀x∈b8,97≤x∧x<123:=by decide
 have hl:∀x∈l12,97≤x∧x<123:=by decide
 eC (Alz hc e he).elim (hb e) (hl e)
structure NL (nm:List Str):Prop where
 nd:nm.Nodup
 ok:∀x∈nm,Nm x
def O6 (K:KKf)(ns:List Int):Sp:=fun vs H Q _=>match vs with
 |[.int c,.int m]=>(0≤m∧m≤9)∧∀L (nm:List Str) H',Ah H H'→H L=none→H' L=some (.lst (nm.map V.str))→(nm.length:Int)=m→NL nm→Q (.ref L) H'
 |_=>False
theorem Dk:Ai ["_law_cell","_law_many","_law_size","_law_base","_law_at","_law_names_here","_law_k","_law_letter"] ["_law_cell","_law_many"] (Af Mn):=⟨rfl,rfl,rfl,by decide +kernel,rfl,by decide +kernel,by decide +kernel⟩
local notation "#bg"=>Ba P w K mg base "_law_names" ["_law_cell","_law_many"] 1 (O6 K ns)
theorem Z4 (d:Bj K mg "_law_names" Mn ["_law_cell","_law_many"])(er:#am)(n_range:mg "range"=none)  :#bg:=by
 rA d.cal (k:=0) Dk (fun vs H Q E h=>?_) (fun f cdv A outer s H vs Q E hr h=>?_)
 ·match vs,h with
  |[.int c,.int m],_=>rfl
 ·match vs,h with
  | [.int c,.int m],hq0=>
   obtain ⟨⟨m0,m8⟩,q⟩:=hq0
   rA ⟨_,(#h (#q (2) _ _ _ _ Dk.nd rfl #t (#g Fx Ab (#g Eu (dv 0) Ab)) #r #t) (#h (#q (3) _ _ _ _ Dk.nd rfl #t (#I Vn A6 Jt (Dj (dv 2))) #r #t) (#h (#q (4) _ _ _ _ Dk.nd rfl #t (#g Eu (#g Hv (dv 0) Ab) (dv 2)) #r #t) (#h (#q (5) _ _ _ _ Dk.nd rfl #t (#aj Ac) #r #t) (#h (#O DI rfl (@S0 _ _ _ _ _ _ #r n_range (#a (dv 1) Ac #r) #r) (#E (6) _ Dk.nd rfl #t #t) (#h (#q (7) _ _ _ _ Dk.nd rfl #t (#c Aj0 A6 (#g Eu (#g Fx (#g Hv (dv 0) Ab) (#g Ef Ab (dv 6))) Ab) (fun _ _=>rfl)) #r #t) (#i (#Y (#F GT PySem.F.slot_list_append PySem.F.type_list_append Ju (dv 5) (#a (#g C5 (#g C5 (#I Vn (dv 3) Jt (Dj (dv 4))) (dv 7)) (#I Vn (dv 3) (Dj (Am Fx (dv 4) Ab)) Jt)) Ac #r) #r #r #r #r #r) #r))) (by intro _;rfl)) (#i (#j (dv 5)))))))),?_⟩
   have d8:(0:Int)<8:=by decide
   have a0:=CY c (show (8:Int)≠0 by decide)
   have a1:=Int.emod_lt_of_pos c d8
   obtain ⟨n,hn⟩:∃n:Nat,c % 8=n:=⟨(c % 8).toNat,by omega⟩
   have hn8:n<8:=by omega
   have lb:(Str.ofString "gmtazkfw").length=8:=by decide +kernel
   have cb:co (Str.ofString "gmtazkfw")=b8:=by decide +kernel
   rA ⟨d8,_,rfl,by rw [lb];decide,⟨d8,A2 rfl⟩,by omega,by decide,fun D hD=>?_⟩
   have p0:=CY (c / 8) (show 1+c % 8≠0 by omega)
   have p1:=Int.emod_lt_of_pos (c / 8) (show 0<1+c % 8 by omega)
   obtain ⟨p,hp⟩:∃p:Nat,c / 8 % (1+c % 8)=p:=⟨(c / 8 % (1+c % 8)).toNat,by omega⟩
   have hp1:p<n+1:=by omega
   have hsz:(1:Int)+c % 8=((n+1:Nat):Int):=by omega
   have cB:co (Txt.slice (Str.ofString "gmtazkfw") none (some (1+c % 8)))=b8.take (n+1):=by
    rw [hsz,Akd (by rw [lb];omega),cb]
   generalize hB:Txt.slice (Str.ofString "gmtazkfw") none (some (1+c % 8))=B at cB
   have lB:B.length=n+1:=by
    rw [←Bo,cB,BQ]
    show min (n+1) 8=n+1
    omega
   have zB:B.length≤sizeLine:=by rw [lB];eC AO (show n+1≤8 by omega) #d
   rA ⟨m,rfl,by omega,by omega,Rr (lo:=0) (n:=m.toNat) (fun i σ H'=>∃(nm:List Str) (o1 o2:Option V),σ=[some (.int c),some (.int m),some (.int (1+c % 8)),some (.str B),some (.int (c / 8 % (1+c % 8))),some (.ref D),o1,o2]∧H'=upd H D (.lst (nm.map V.str))∧nm.length=i∧∀(j:Nat) x,nm[j]? =some x→∃e,co x=n8 (n+1) p e∧l12[((c / 64+5*(j:Int)) % 12).toNat]? =some e)
    ⟨[],none,none,by rw [←hB];rfl,rfl,rfl,fun j x h=>by simp at h⟩ ?_ ?_⟩
   ·rintro i σ H' hi ⟨nm,o1,o2,rfl,rfl,hl,hall⟩
    have d12:(0:Int)<12:=by decide
    have w0:=CY (c / 64+5*(0+(i:Int))) (show (12:Int)≠0 by decide)
    have w1:=Int.emod_lt_of_pos (c / 64+5*(0+(i:Int))) d12
    obtain ⟨e,he,he'⟩:=Ait w0 w1
    rA ⟨⟨by decide,A2 rfl⟩,.inr (.inl ⟨by decide,by decide⟩),d12,e,by decide +kernel,he,.inl ⟨rfl,_,A3.of Ag⟩,?_⟩
    have c1:co (Txt.slice B none (some (c / 8 % (1+c % 8))))=(b8.take (n+1)).take p:=by rw [hp,Akd #o,cB]
    have c2:co (Txt.slice B (some (c / 8 % (1+c % 8)+1)) none)=(b8.take (n+1)).drop (p+1):=by
     rw [show c / 8 % (1+c % 8)+1=((p+1:Nat):Int) by omega,Aic #o,cB]
    have bl:(b8.take (n+1)).length≤8:=List.length_take_le' _ _
    have z1:(Txt.slice B none (some (c / 8 % (1+c % 8)))).length≤8:=by
     rw [←Bo,c1]
     eC AO (List.length_take_le' _ _) bl
    have z2:(Txt.slice B (some (c / 8 % (1+c % 8)+1)) none).length≤8:=by
     rw [←Bo,c2,DN]
     omega
    have z3:(⟨#[e]⟩:Str).length=1:=rfl
    rA ⟨_,rfl,zB,AO (Nat.add_le_add z1 (Nat.le_of_eq z3)) #d,_,rfl,zB,AO (Nat.add_le_add (by rw [Bf,z3];eC Nat.add_le_add_right z1 1) z2) #d,D,_,_,rfl,rfl,Ag,?_,nm++[Txt.slice B none (some (c / 8 % (1+c % 8)))++⟨#[e]⟩++Txt.slice B (some (c / 8 % (1+c % 8)+1)) none],_,_,rfl,?_,?_,fun j x hx=>?_⟩
    ·rw [AE,hl]
     eC AL (show i<9 by omega) #d
    ·rw [Aaz,CB]
     rfl
    ·rw [AM,hl]
     rfl
    ·by_cases hj:j<nm.length
     ·rw [CF hj] at hx
      eC hall j x hx
     ·have ej:j=i:=by
       have:=(BI.mp hx).1
       rw [AM,DO] at this
       omega
      subst ej
      rw [BN #o,hl,Nat.sub_self] at hx
      cases hx
      rA ⟨e,?_,by rw [Int.zero_add] at he';eC he'⟩
      rw [Bq,Bq,c1,c2]
      rfl
   ·rintro σ H' ⟨nm,o1,o2,rfl,rfl,hl,hall⟩
    rA q D nm _ (Ap hD) hD Ag #o ⟨?_,fun x hx=>?_⟩
    ·rA EN.mpr fun i j hi hj lt e=>?_
     obtain ⟨x,h1,h2⟩:=hall i _ (AD hi)
     obtain ⟨y,h3,h4⟩:=hall j _ (AD hj)
     rw [e,h3] at h1
     have exy:=Amo h1
     subst exy
     have r0:=CY (c / 64) (show (12:Int)≠0 by decide)
     have r1:=Int.emod_lt_of_pos (c / 64) (show (0:Int)<12 by decide)
     obtain ⟨r,hr⟩:∃r:Nat,c / 64 % 12=r:=⟨(c / 64 % 12).toNat,by omega⟩
     have e1:((c / 64+5*(i:Int)) % 12).toNat=(r+5*i) % 12:=by omega
     have e2:((c / 64+5*(j:Int)) % 12).toNat=(r+5*j) % 12:=by omega
     rw [e1] at h2
     rw [e2] at h4
     have ap:∀r<12,∀i<9,∀j<9,l12[(r+5*i) % 12]? =l12[(r+5*j) % 12]?→i=j:=by decide +kernel
     have:=ap r #o i #o j #o (h2.trans h4.symm)
     omega
    ·obtain ⟨j,hj,rfl⟩:=List.mem_iff_getElem.mp hx
     obtain ⟨e,h1,h2⟩:=hall j _ (AD hj)
     have hl:=Ak5 (c:=e) hp1 #o
     eC ⟨by rw [h1,hl];omega,by rw [h1,hl];omega,by rw [h1];eC Ams (BH h2)⟩
def Aps:R2:=fun x y H Q=>match x,y with
 |.str a,.int n=>a.length≤100∧(n=0∧Q (.str Str.empty) H∨n=1∧Q (.str a) H)
 |_,_=>False
theorem Adw {X:Cx}:Dy X (binaryOp .Mult) Aps:=by
 intro pins s σ H x y v u Q I rx ry q
 match x,y,q with
 | .str a,.int n,⟨h3,q⟩=>
  obtain ⟨t,rfl⟩:=rx
  obtain ⟨t',rfl⟩:=ry
  rcases q with ⟨rfl,q⟩|⟨rfl,q⟩
  ·rA PySem.P.mul_str ?_ (fun _ _=>?_) (fun _ _=>?_) ?_
   ·rfl
   ·omega
   ·rw [show a.length*(0:Int).toNat=0 from Nat.mul_zero _]
    rfl
   ·rw [AN #d]
    eC ⟨AV _,.str _,H,I.tok _,⟨_,rfl⟩,q⟩
  ·rA PySem.P.mul_str ?_ (fun _ h=>?_) (fun _ h=>?_) ?_
   ·rfl
   ·eC absurd h (by simp)
   ·eC absurd h (by simp)
   ·rw [AI #d,AN (by simp)]
    eC ⟨.str a,H,I,⟨_,rfl⟩,q⟩
theorem Aom {nm:List Str}(h:nm.Nodup){i j:Int}(i0:0≤i)(i1:i<nm.length)(j0:0≤j)(j1:j<nm.length)(ne:i≠j):∃x y,Q6 (nm.map V.str) i=some (.str x)∧Q6 (nm.map V.str) j=some (.str y)∧x∈nm∧y∈nm∧x≠y:=by
 obtain ⟨a,rfl⟩:=Int.eq_ofNat_of_zero_le i0
 obtain ⟨b,rfl⟩:=Int.eq_ofNat_of_zero_le j0
 have ha:a<nm.length:=by omega
 have hb:b<nm.length:=by omega
 rA ⟨nm[a],nm[b],A4 ?_,A4 ?_,ET ha,ET hb,fun e=>ne ?_⟩
 ·rw [BJ,AD ha]
  rfl
 ·rw [BJ,AD hb]
  rfl
 ·rw [(List.getElem_inj h).mp e]
theorem Anc {a d m:Int}(a0:0≤a)(a1:a<m)(d0:0<d)(d1:d<m):0≤(a+d) % m∧(a+d) % m<m∧(a+d) % m≠a:=by
 rA ⟨CY _ #o,Int.emod_lt_of_pos _ #o,?_⟩
 by_cases h:a+d<m
 ·rw [Int.emod_eq_of_lt #o h]
  omega
 ·have e:a+d=(a+d-m)+m:=by omega
  rw [e,Int.add_emod_right,Int.emod_eq_of_lt #o #o]
  omega
def Wm (K:KKf)(ns:List Int):Sp:=fun vs H Q _=>match vs with
 |[.int c,.ref L]=>∃nm,(H L=some (.lst (nm.map V.str))∧NL nm∧2≤nm.length∧nm.length≤9)∧∀y g H',Ah H H'→B7 H' y g→(g.a∈nm∧g.b∈nm)→GO g→Q y H'
 |_=>False
theorem Jl:Ai ["_law_cell","_law_names_here","_law_many","_law_one","_law_other","_law_day"] ["_law_cell","_law_names_here"] (Af Uv):=⟨rfl,rfl,rfl,by decide +kernel,rfl,by decide +kernel,by decide +kernel⟩
local notation "#bh"=>Ba P w K mg base "_law_row" ["_law_cell","_law_names_here"] 1 (Wm K ns)
theorem Afv (d:Bj K mg "_law_row" Uv ["_law_cell","_law_names_here"])(er:#am)(n_len:mg "len"=none)  :#bh:=by
 rA d.cal (k:=0) Jl (fun vs H Q E h=>?_) (fun f cdv A outer s H vs Q E hr h=>?_)
 ·match vs,h with
  |[.int c,.ref L],_=>rfl
 ·match vs,h with
  | [.int c,.ref L],hq0=>
   obtain ⟨nm,⟨hL,ok,n2,n9⟩,k⟩:=hq0
   rA ⟨_,(#h (#q (2) _ _ _ _ Jl.nd rfl #t (#l C9 #r n_len #k (#a (dv 1) Ac #r) #d #d #r #r) #r #t) (#h (#q (3) _ _ _ _ Jl.nd rfl #t (#g Eu (#g Hv (dv 0) Ab) (dv 2)) #r #t) (#h (#q (4) _ _ _ _ Jl.nd rfl #t (#g Eu (#g Fx (#g Fx (dv 3) Ab) (#g Eu (#g Hv (dv 0) Ab) (#g Xa (dv 2) Ab))) (dv 2)) #r #t) (#h (#q (5) _ _ _ _ Jl.nd rfl #t (#g Eu (#g Hv (dv 0) Ab) (#c Cn (#M (#a Ab (#a Ab Ac #r) #r)) (#g Eu (#g Hv (dv 0) Ab) Ab) (fun _ _=>rfl))) #r #t) (#i (#j (#u (#a (dv 5) (#a (#c Cn (dv 1) (dv 3) (fun _ _=>rfl)) (#a (#c Cn (dv 1) (dv 4) (fun _ _=>rfl)) (#a (#g Eu (#g Hv (dv 0) Ab) Ab) (#a (#g Xa (#g Eu (#g Hv (dv 0) Ab) Ab) Ab) Ac #r) #r) #r) #r) #r)))))))),?_⟩
   have m0:(0:Int)<nm.length:=by omega
   have m1:(0:Int)<nm.length-1:=by omega
   have p0:=CY (c / 4) (show (nm.length:Int)≠0 by omega)
   have p1:=Int.emod_lt_of_pos (c / 4) m0
   have q0:=CY (c / 36) (show (nm.length:Int)-1≠0 by omega)
   have q1:=Int.emod_lt_of_pos (c / 36) m1
   obtain ⟨z0,z1,z2⟩:=Anc (a:=c / 4 % nm.length) (d:=1+c / 36 % (nm.length-1)) (m:=nm.length) p0 p1 #o #o
   rw [←Int.add_assoc] at z0 z1 z2
   obtain ⟨x,y,hx,hy,mx,my,nxy⟩:=Aom ok.nd p0 p1 z0 z1 (CM z2)
   rA ⟨_,.inl (A3.of hL),?_⟩
   rw [AE]
   rA ⟨⟨by decide,A2 rfl⟩,m0,⟨by decide,A2 rfl⟩,m1,m0,⟨by decide,A2 rfl⟩,fun L1 H1 s1 e1=>?_⟩
   obtain ⟨m,hmv,mp,mq⟩:∃m:Int,Q6 [V.int 10,V.int 10000] (c / 1000 % 2)=some (.int m)∧0<m∧m≤10000:=by
    have:c / 1000 % 2=0∨c / 1000 % 2=1:=by omega
    rcases this with e|e<;>rw [e]
    ·eC ⟨10,rfl,by decide,by decide⟩
    ·eC ⟨10000,rfl,by decide,by decide⟩
   have d0:=CY (c / 2000) (show m≠0 by omega)
   have d1:=Int.emod_lt_of_pos (c / 2000) mp
   have d3:(0:Int)<3:=by decide
   rA ⟨⟨by decide,A2 rfl⟩,(by show (0:Int)<2;decide),_,_,A3.of e1,hmv,mp,_,_,A3.of (s1 _ _ hL),hx,_,_,A3.of (s1 _ _ hL),hy,⟨by decide,A2 rfl⟩,d3,⟨by decide,A2 rfl⟩,d3,fun T H2 s2 e2=>?_⟩
   eC k (.ref T) ⟨c / 2000 % m,x,y,c / 300 % 3,c / 100 % 3-1⟩ H2 (s1.trans s2) ⟨T,rfl,e2⟩ ⟨mx,my⟩ ⟨d0,by show c / 2000 % m≤9999;omega,ok.ok x mx,ok.ok y my,nxy,by show 0≤c / 300 % 3;omega,by show c / 300 % 3≤2;omega,by show -1≤c / 100 % 3-1;omega,by show c / 100 % 3-1≤1;omega⟩
def Hm (K:KKf)(ns:List Int):Sp:=fun vs H Q _=>match vs with
 |[.ref p]=>∃g,(B7 H (.ref p) g∧GO g)∧∀H',Ah H H'→Q (.str (Nx g)) H'
 |_=>False
theorem Cb:Ai ["_law_row_here","_law_day","_law_one","_law_other","_law_halves","_law_side","_law_first","_law_second"] ["_law_row_here"] (Af Ji):=⟨rfl,rfl,rfl,by decide +kernel,rfl,by decide +kernel,by decide +kernel⟩
local notation "#bi"=>Ba P w K mg base "_law_written" ["_law_row_here"] 1 (Hm K ns)
theorem Tq (d:Bj K mg "_law_written" Ji ["_law_row_here"])(er:#am)(n_str:mg "str"=none)(n_int:mg "int"=none)  :#bi:=by
 rA d.cal (k:=0) Cb (fun vs H Q E h=>?_) (fun f cdv A outer s H vs Q E hr h=>?_)
 ·match vs,h with
  |[.ref p],_=>rfl
 ·match vs,h with
  | [.ref p],hq0=>
   obtain ⟨g,⟨⟨p',e',ep⟩,o⟩,k⟩:=hq0
   rA ⟨_,(#h (@Z0 _ _ _ _ _ _ (dv 0) (#ah rfl (#L (#E (1) _ Cb.nd rfl #t #t) (#L (#E (2) _ Cb.nd rfl #t #t) (#L (#E (3) _ Cb.nd rfl #t #t) (#L (#E (4) _ Cb.nd rfl #t #t) (#L (#E (5) _ Cb.nd rfl #t #t) Eb #r) #r) #r) #r) #r) #r #r) #r #r #r) (#h (#q (6) _ _ _ _ Cb.nd rfl #t (#g C5 (dv 2) (#g Adw A6 (#y Afk #r n_int #k (#a (#A Gg (dv 5) Ab (#w #d #d)) Ac #r) #d #d #r #r))) #r #t) (#h (#q (7) _ _ _ _ Cb.nd rfl #t (#g C5 (dv 3) (#g Adw A6 (#y Afk #r n_int #k (#a (#A Gg (dv 5) (#R Lf Ab) (#w #d #d)) Ac #r) #d #d #r #r))) #r #t) (#i (#j (#ad ("join") _ _ A6 (#a (#M (#a (#y N1 #r n_str #k (#a (dv 1) Ac #r) #d #d #r #r) (#a (dv 6) (#a (#c Cn (#M (#a A6 (#a A6 (#a A6 Ac #r) #r) #r)) (dv 4) (fun _ _=>rfl)) (#a (dv 7) Ac #r) #r) #r) #r)) Ac #r) #r #r #r #r #r)))))),?_⟩
   cases e'
   obtain ⟨d,x,y,h,s⟩:=g
   have lx:=Hd o.na
   have ly:=Hd o.nb
   have l3:=Sj o.d0 o.d1
   have l4:=Tu h
   have l5:(Str.ofString " ").length=1:=by decide +kernel
   have l6:(Str.ofString "*").length=1:=by decide +kernel
   have l7:Str.empty.length=0:=rfl
   have lx:x.length≤8:=lx
   have ly:y.length≤8:=ly
   have l3:(toString d:Str).length≤4:=l3
   have big:(1000:Nat)≤sizeLine:=by decide
   have e0:∀z:Str,z++Str.empty=z:=fun z=>Dn (by rw [Bq];eC CG _)
   have ej:∀ws:List Str,Txt.join (Str.ofString " ") ws=Str.join ⟨#[32]⟩ ws:=fun ws=>Dn (Jw _ _)
   have s0:-1≤s:=o.s0
   have s1:s≤1:=o.s1
   have hs:s=1∨s=0∨s=-1:=by omega
   have fin:∀(u v:Str) (H1:Hp) (L1 L2:Addr) (H2:Hp),u.length≤9→v.length≤9→Ah H H1→Ah H1 H2→Str.join ⟨#[32]⟩ [(toString d:Str),u,wd h,v]=Nx ⟨d,x,y,h,s⟩→H2 L2=some (.lst [.str (toString d:Str),.str u,.str (wd h),.str v])→Aez K (.str (Str.ofString " ")) [.ref L2] H2 Q:=fun u v H1 L1 L2 H2 lu lv t1 t2 e e2=>by
    rA ⟨[(toString d:Str),u,wd h,v],A3.of e2,?_,?_⟩
    ·rw [l5]
     simp only [BE,List.map_nil,List.sum_cons,List.sum_nil,AY,List.length_nil]
     omega
    ·rw [ej,e]
     eC k H2 (t1.trans t2)
   rA ⟨p,_,rfl,Ec.of ep,rfl,_,_,rfl,_,_,rfl,_,_,rfl,_,_,rfl,_,_,rfl,rfl,?_⟩
   rcases hs with rfl|rfl|rfl
   ·rA ⟨by omega,.inr ⟨rfl,by omega,?_⟩⟩
    rA ⟨by omega,.inl ⟨rfl,by omega,?_⟩⟩
    rA ⟨rfl,W3 o.d0 o.d1,fun L1 H1 t1 f1=>⟨_,_,A3.of f1,Aab o.h0 o.h1,fun L2 H2 t2 f2=>fin (x++Str.ofString "*") (y++Str.empty) H1 L1 L2 H2 (by rw [Bf];omega) (by rw [Bf];omega) t1 t2 (by rw [e0];rfl) f2⟩⟩
   ·rA ⟨by omega,.inl ⟨rfl,by omega,?_⟩⟩
    rA ⟨by omega,.inl ⟨rfl,by omega,?_⟩⟩
    rA ⟨rfl,W3 o.d0 o.d1,fun L1 H1 t1 f1=>⟨_,_,A3.of f1,Aab o.h0 o.h1,fun L2 H2 t2 f2=>fin (x++Str.empty) (y++Str.empty) H1 L1 L2 H2 (by rw [Bf];omega) (by rw [Bf];omega) t1 t2 (by rw [e0,e0];rfl) f2⟩⟩
   ·rA ⟨by omega,.inl ⟨rfl,by omega,?_⟩⟩
    rA ⟨by omega,.inr ⟨rfl,by omega,?_⟩⟩
    rA ⟨rfl,W3 o.d0 o.d1,fun L1 H1 t1 f1=>⟨_,_,A3.of f1,Aab o.h0 o.h1,fun L2 H2 t2 f2=>fin (x++Str.empty) (y++Str.ofString "*") H1 L1 L2 H2 (by rw [Bf];omega) (by rw [Bf];omega) t1 t2 (by rw [e0];rfl) f2⟩⟩
theorem Ak2 (x:Str):co (Str.ofString "put "++x)=co (Str.ofString "put")++32::co x:=by
 rw [Bq,show co (Str.ofString "put ")=co (Str.ofString "put")++[32] from by decide +kernel,CN]
 rfl
theorem Aby (x:Str):co (Str.ofString "take "++x)=co (Str.ofString "take")++32::co x:=by
 rw [Bq,show co (Str.ofString "take ")=co (Str.ofString "take")++[32] from by decide +kernel,CN]
 rfl
theorem Ae8 {n:Int}(h:0≤n):32∉co (toString n:Str):=fun z=>by
 obtain ⟨m,rfl⟩:=Int.eq_ofNat_of_zero_le h
 have:=Yb m 32 z
 omega
theorem Anq {n:Int}(h0:0≤n)(h1:n≤9999):F8 (toString n:Str)=true∧Te (toString n:Str)=n:=by
 obtain ⟨m,rfl⟩:=Int.eq_ofNat_of_zero_le h0
 rA ⟨Aam #o,?_⟩
 unfold Te
 eC congrArg _ (Af7 m)
theorem Qh {g:Gm}(o:GO g):(Nx g).length≤40:=by
 have lx:=Hd o.na
 have ly:=Hd o.nb
 have l1:=Mt g.a (decide (g.s=1))
 have l2:=Mt g.b (decide (g.s=-1))
 have l3:=Sj o.d0 o.d1
 have l4:=Tu g.h
 have e:=congrArg List.length (Aef g)
 simp only [AM,AY,Bo] at e
 omega
def Kr (K:KKf)(ns:List Int):Sp:=fun vs H Q _=>match vs with
 | [.ref Z,.str row]=>(∃(L A R:Addr) (es:List En) (last:Int) (g:Gm) (nm:List Str),row=Str.ofString "put "++Nx g∧(Di K H Z L A R es last∧Acr nm es last∧es.length≤40∧nm.length≤20∧g.a∈nm∧g.b∈nm∧GO g∧0≤last∧last<1000∧Av H (Bn K) Bu Em) ∧
   (Q8 es g→∀H',O0 L A (Bn K) H H'→Di K H' Z L A R (es++[(last+1,g)]) (last+1)→Av H' (Bn K) Bu Em→Q (.str (toString (last+1))) H')∧(¬Q8 es g→∀H',Ah H H'→Q (.str "no book") H')) ∨
  (∃(L A R:Addr) (es:List En) (last n:Int),row=Str.ofString "take "++(toString n:Str)∧(Di K H Z L A R es last∧(0≤n∧n≤9999)∧Oh es∧es.length≤40∧(Ge (es.map (·.2))).length≤8∧Av H (Bn K) Bu Em) ∧
   (∀g,(n,g)∈es→∀H',O0 L A (Bn K) H H'→Di K H' Z L A R (wo es n) last→Av H' (Bn K) Bu Em→Q (.str "ok") H')∧((∀e∈es,e.1≠n)→∀H',Ah H H'→Q (.str "no game") H'))
 |_=>False
theorem Ek:Ai ["_law_desk","_law_row_here","_law_told"] ["_law_desk","_law_row_here"] (Af Nc):=⟨rfl,rfl,rfl,by decide +kernel,rfl,by decide +kernel,by decide +kernel⟩
local notation "#bj"=>Ba P w K mg base "_law_asked" ["_law_desk","_law_row_here"] 15 (Kr K ns)
theorem Yi (d:Bj K mg "_law_asked" Nc ["_law_desk","_law_row_here"])(er:#am)   (c_Desk_say:#be):#bj:=by
 rA d.cal (k:=14) Ek (fun vs H Q E h=>?_) (fun f cdv A outer s H vs Q E hr h=>?_)
 ·match vs,h with
  |[.ref Z,.str row],_=>rfl
 ·match vs,h with
  | [.ref Z,.str row],hq0=>
   have hh:=hq0
   rA ⟨_,(#h (#q (2) _ _ _ _ Ek.nd rfl #t Am2 #r #t) (#P (@Ajl _ _ _ _ _ _ _ ⟨rfl,rfl,rfl⟩ (fun σ0 p0 Eh=>(#i (#q (2) _ _ _ _ Ek.nd rfl #t (@Ajk _ _ _ _ _ _ _ _ _ _ _ _ _ _ _ (dv 0) (#v c_Desk_say (List.Mem.head _) er.l_Desk #d Fu) hr (#a (dv 1) Ac #r) #r #r #r) #r #t))) (Hs.cons #r er.b_NoBook er.x_NoBook.cat (fun v=>(#i (#q (2) _ _ _ _ Ek.nd rfl #t A6 #r #t))) #d (Hs.cons #r er.b_NoGame er.x_NoGame.cat (fun v=>(#i (#q (2) _ _ _ _ Ek.nd rfl #t A6 #r #t))) #d (Hs.cons #r er.b_LadderError er.x_LadderError.cat (fun v=>(#i (#q (2) _ _ _ _ Ek.nd rfl #t A6 #r #t))) #d Hs.nil)))) (#i (#j (dv 2))))),?_⟩
   rA ⟨fun σ H'=>∃v,σ=[some (.ref Z),some (.str row),some v]∧Q v H',?_,?_⟩
   rotate_left
   ·rintro σ H' ⟨v,rfl,q⟩
    eC q
   have l5:(Str.ofString "put ").length=4:=by decide +kernel
   have l6:(Str.ofString "take ").length=5:=by decide +kernel
   rcases hh with ⟨L,A,R,es,last,g,nm,rfl,⟨dk0,ok,l40,l20,ga,gb,o,p0,p1,tk⟩,k,kr⟩|⟨L,A,R,es,last,n,rfl,⟨dk0,⟨n0,n1⟩,inc,l40,l8,tk⟩,k,kr⟩
   ·obtain ⟨dx,fs,dy,gs,eZ,f1,f2,eL,fd⟩:=dk0.get er.y_Desk er.y_Ledger
    have lw:=Qh o
    rA ⟨Z,_,dx,fs,_,rfl,eZ,.head _,f2,rfl,by rw [Bf,l5];omega,.inl ⟨Nx g,Vw (Ak2 _) #k,fun H1 s1=>⟨L,A,R,es,last,g,nm,⟨dk0.up s1,ok,l40,l20,ga,gb,rfl,o,p0,p1,tk.up s1⟩,fun fit H2 fr dk2 tk2=>⟨_,rfl,k fit H2 (fun b u n1 n2 n3 e=>fr b u n1 n2 n3 (s1 b u e)) dk2 tk2⟩,fun nf H2 s2 C hC=>?_⟩⟩⟩
    obtain rfl:=Ca hC er.y_NoBook
    eC ⟨_,rfl,true,er.km_NoBook_NoBook,.inl ⟨rfl,fun H3 s3=>⟨_,rfl,kr nf H3 (s1.trans (s2.trans s3))⟩⟩⟩
   ·obtain ⟨dx,fs,dy,gs,eZ,f1,f2,eL,fd⟩:=dk0.get er.y_Desk er.y_Ledger
    have ln:=Sj n0 n1
    obtain ⟨hd,hn⟩:=Anq n0 n1
    have ep:=Vw (Aby (toString n:Str)) #k
    have es2:Txt.split (Str.ofString "take "++(toString n:Str)) ⟨#[32]⟩=[Str.ofString "take",(toString n:Str)]:=Pr 32 (by simp) (fun p hp=>by
     rcases AU.mp hp with rfl|hp
     ·decide +kernel
     ·rw [AW.mp hp]
      eC Ae8 n0) (by rw [Aby,Cr];rfl)
    rA ⟨Z,_,dx,fs,_,rfl,eZ,.head _,f2,rfl,by rw [Bf,l6];omega,.inr ⟨.inl (by rw [ep]),fun W H1 s1 e1=>.inl ⟨(toString n:Str),by rw [e1,es2];rfl,⟨hd,by rw [hn];omega⟩,fun D H2 s2 e2=>?_⟩⟩⟩
    rw [hn] at e2
    have s12:=s1.trans s2
    rA ⟨L,A,R,es,last,n,⟨dk0.up s12,e2,inc,l40,l8,tk.up s12⟩,fun g hg H3 fr dk3 tk3=>⟨_,rfl,k g hg H3 (fun b u n1 n2 n3 e=>fr b u n1 n2 n3 (s12 b u e)) dk3 tk3⟩,fun no H3 s3 C hC=>?_⟩
    obtain rfl:=Ca hC er.y_NoGame
    eC ⟨_,rfl,false,er.kn_NoGame_NoBook,.inr ⟨rfl,true,er.km_NoGame_NoGame,.inl ⟨rfl,fun H4 s4=>⟨_,rfl,kr no H4 (s12.trans (s3.trans s4))⟩⟩⟩⟩
theorem Acj {n:Nat}{g:TG}{te:TE}{k:Nat}{js:List Nat}{σ:L2.St}{H1:Hp}{Q:VK}(R:Hp→Nat→V→Prop)(up:∀j y H H',Kt H H'→R H j y→R H' j y)(hz:n≤1000)
  (hs:∀i H2,i<n→Ah H1 H2→∀P:VK,(∀y H3,Ah H2 H3→R H3 i y→P y H3)→g (.int (0+(i:Int))) (List.replicate k none++capσ js σ) H2 fun σ2 H3=>σ2.drop k=capσ js σ∧te σ2 H3 P)
  (hq:∀D H' ys,Ah H1 H'→H1 D=none→H' D=some (.lst ys)→ys.length=n→(∀(j:Nat) y,ys[j]? =some y→R H' j y)→Q (.ref D) H'):Hq (Itr 0 n) g te k js σ H1 Q:=by
 unfold Hq
 intro D hD
 rA ⟨fun i m H=>m=n-i∧i≤n∧Ah H1 H∧∃ys,H D=some (.lst ys)∧ys.length=i∧∀(j:Nat) y,ys[j]? =some y→R H j y,⟨n,by simp,AV _,Ap hD,[],Ag,rfl,fun j y h=>by simp at h⟩,?_⟩
 rintro i m H ⟨rfl,hi,sm,ys,hH,ly,ar⟩
 by_cases hlt:i<n
 ·rA .inr ⟨hlt,fun x H' y=>?_⟩
  obtain ⟨rfl,rfl⟩:=y
  have yl:ys.length<sizeLine:=by
   rw [ly]
   eC AL hlt (AO hz #d)
  rA hs i _ hlt sm _ fun y H3 s3 r3=>⟨ys,s3 _ _ hH,yl,n-(i+1),by omega,rfl,hlt,Ff (sm.trans s3) hD,ys++[y],Ag,by rw [AM,ly];rfl,fun j z hz=>?_⟩
  have kt:Kt H3 (upd H3 D (.lst (ys++[y]))):=Mj (s3 _ _ hH)
  by_cases hj:j<ys.length
  ·rw [CF hj] at hz
   eC up _ _ _ _ ((Be s3).trans kt) (ar j z hz)
  ·have ej:j=i:=by
    have:=(BI.mp hz).1
    rw [AM,DO] at this
    omega
   subst ej
   rw [BN #o,ly,Nat.sub_self] at hz
   cases hz
   eC up _ _ _ _ kt r3
 ·have e:i=n:=by omega
  subst e
  eC .inl ⟨AF _,hq D _ ys sm hD hH ly ar⟩
theorem M5 {α β:Type}{R:α→β→Prop}:∀{l:List α} {m:List β},l.length=m.length→(∀(i:Nat) a b,l[i]? =some a→m[i]? =some b→R a b)→Az R l m
 |[],[],_,_=>.nil
 |[],_::_,h,_=>by simp at h
 |_::_,[],h,_=>by simp at h
 |a::l,b::m,h,f=>.cons (f 0 a b rfl rfl) (M5 (by simpa using h) fun i x y hx hy=>f (i+1) x y (by simpa using hx) (by simpa using hy))
def Hf (K:KKf)(ns:List Int):Sp:=K3 K ns
theorem Ur:Ai ["_law_rows"] ["_law_rows"] (Af Jn):=⟨rfl,rfl,rfl,by decide +kernel,rfl,by decide +kernel,by decide +kernel⟩
local notation "#bk"=>Ba P w K mg base "_law_players" ["_law_rows"] 1 (Hf K ns)
theorem Ti (d:Bj K mg "_law_players" Jn ["_law_rows"])(er:#am)(n_sorted:mg "sorted"=none)(n_set:mg "set"=none)  :#bk:=by
 rA d.cal (k:=0) Ur (fun vs H Q E h=>?_) (fun f cdv A outer s H vs Q E hr h=>?_)
 ·match vs,h with
  |[.ref L],_=>rfl
 ·match vs,h with
  | [.ref L],hq0=>
   obtain ⟨gs,⟨⟨vs,hx,hm,hl⟩,h64⟩,k⟩:=hq0
   rA ⟨_,(#i (#j (@Yx _ _ _ _ _ _ _ #r n_sorted #r n_set (#g Km (#s ["_law_row_here"] [] [] rfl (#H (dv 0)) (fun C s H fp=>(#E (0) _ (show List.Nodup [("_law_row_here":Str)] by decide +kernel) rfl #t #t)) (fun C s H fp=>(#c A0 (dv 0) Ab (fun _ _=>rfl))) rfl rfl #k #k #r True.intro True.intro (by intro _;rfl)) (#s ["_law_row_here"] [] [] rfl (#H (dv 0)) (fun C s H fp=>(#E (0) _ (show List.Nodup [("_law_row_here":Str)] by decide +kernel) rfl #t #t)) (fun C s H fp=>(#c A0 (dv 0) Ab (fun _ _=>rfl))) rfl rfl #k #k #r True.intro True.intro (by intro _;rfl))) #r #r #r))),?_⟩
   have hz:vs.length≤1000:=by rw [hm.len];omega
   rA ⟨L,rfl,⟨_,hx⟩,Cf B7 Cw (fun _ g y=>y=V.str g.a) (fun _ _ _ _ _ h=>h) hz hx hm ?_ ?_⟩
   ·intro v m H2 hM _ s2 P hP
    obtain ⟨p,rfl,e⟩:=hM
    eC ⟨rfl,_,e,hP _ _ (Ah.refl _) rfl⟩
   intro D1 H1 ys1 s1 _ e1 a1
   have y1:=Gs a1
   have hm1:Az (B7 H1) vs gs:=hm.imp fun v g r=>Cw v g _ _ (Be s1) r
   rA ⟨L,rfl,⟨_,s1.seq hx⟩,Cf B7 Cw (fun _ g y=>y=V.str g.b) (fun _ _ _ _ _ h=>h) hz (s1.seq hx) hm1 ?_ ?_⟩
   ·intro v m H2 hM _ s2 P hP
    obtain ⟨p,rfl,e⟩:=hM
    eC ⟨rfl,_,e,hP _ _ (Ah.refl _) rfl⟩
   intro D2 H2 ys2 s2 _ e2 a2
   have y2:=Gs a2
   have l1:=a1.len
   have l2:=a2.len
   rA ⟨_,_,s2 _ _ e1,e2,by omega,fun D3 H3 s3 e3=>⟨gs.map (·.a)++gs.map (·.b),A3.of ?_,?_,h64,fun D hD=>?_⟩⟩
   ·rw [e3,y1,y2,CB]
   ·rw [AM,AE,AE]
    omega
   ·have s:=s1.trans (s2.trans s3)
    eC k D _ (s.trans (Ap hD)) (Ci s hD) Ag
def Qu (H:Hp)(v:V)(e:En):Prop:=∃t p,v=.ref t∧H t=some (.tup [.int e.1,.ref p])∧B7 H (.ref p) e.2
theorem R1 (v:V)(e:En)(H H':Hp)(k:Kt H H')(h:Qu H v e):Qu H' v e:=by
 obtain ⟨t,p,e1,h1,h2⟩:=h
 eC ⟨t,p,e1,k _ _ h1,Cw _ _ _ _ k h2⟩
def Hj (H:Hp)(T:Addr)(es:List En):Prop:=∃vs,H T=some (.lst vs)∧Az (Qu H) vs es
theorem Hj.up {H H':Hp}{T:Addr}{es:List En}(s:Ah H H'):Hj H T es→Hj H' T es:=fun ⟨vs,h1,h2⟩=>⟨vs,s _ _ h1,h2.imp fun v e r=>R1 v e _ _ (Be s) r⟩
theorem Ae4 (v:V)(q:Int×Int)(H H':Hp)(k:Kt H H')(h:Xd H v q):Xd H' v q:=by
 obtain ⟨p,e,h1⟩:=h
 eC ⟨p,e,k _ _ h1⟩
theorem Aoz {es:List En}{p:List Nat}(l40:es.length≤40)(h:Jp (kP ((List.range es.length).map fun i=>(dk (es.map (·.2)) i,(i:Int)))) es.length p):Jp (dk (es.map (·.2))) es.length p:=by
 rA ⟨h.1,h.2.1,h.2.2.imp_of_mem fun {i j} hi hj z=>?_⟩
 have li:=h.2.1 i hi
 have lj:=h.2.1 j hj
 have e:∀i,i<es.length→kP ((List.range es.length).map fun i=>(dk (es.map (·.2)) i,(i:Int))) i=dk (es.map (·.2)) i*64+i:=fun i hi=>by
  unfold kP
  rw [BF,BJ,List.getElem?_range hi]
  rfl
 unfold Lt at z ⊢
 rw [e i li,e j lj] at z
 omega
theorem Aap {H:Hp}{gs:List Gm}:∀{p:List Nat} {ws:List V},Az (fun i y=>∃g,gs[i]? =some g∧B7 H y g) p ws→Az (B7 H) ws (pg gs p)
 |_,_,.nil=>.nil
 |_,_,.cons ⟨g,h1,h2⟩ t=>by
  unfold pg
  rw [List.filterMap_cons_some h1]
  eC .cons h2 (Aap t)
def L6 (K:KKf)(ns:List Int):Sp:=fun vs H Q _=>match vs with
 |[.ref T]=>∃es,(Hj H T es∧es.length≤40)∧∀D ws H' p,Ah H H'→H' D=some (.lst ws)→Jp (dk (es.map (·.2))) (es.map (·.2)).length p→Az (B7 H') ws (pg (es.map (·.2)) p)→Q (.ref D) H'
 |_=>False
theorem Ly:Ai ["_law_there","_law_keyed"] ["_law_there"] (Af Jg):=⟨rfl,rfl,rfl,by decide +kernel,rfl,by decide +kernel,by decide +kernel⟩
local notation "#bl"=>Ba P w K mg base "_law_by_days" ["_law_there"] 1 (L6 K ns)
theorem S5 (d:Bj K mg "_law_by_days" Jg ["_law_there"])(er:#am)(n_sorted:mg "sorted"=none)(n_range:mg "range"=none)(n_len:mg "len"=none)  :#bl:=by
 rA d.cal (k:=0) Ly (fun vs H Q E h=>?_) (fun f cdv A outer s H vs Q E hr h=>?_)
 ·match vs,h with
  |[.ref T],_=>rfl
 ·match vs,h with
  | [.ref T],hq0=>
   obtain ⟨es,⟨⟨vs,eT,al⟩,l40⟩,k⟩:=hq0
   rA ⟨_,(#h (#q (1) _ _ _ _ Ly.nd rfl #t (#l Ahq #r n_sorted #k (#a (#s ["_law_at"] ["_law_there"] [0] rfl (@S0 _ _ _ _ _ _ #r n_range (#a (#l C9 #r n_len #k (#a (dv 0) Ac #r) #d #d #r #r) Ac #r) #r) (fun C s H fp=>(#E (0) _ (show List.Nodup [("_law_at":Str),("_law_there":Str)] by decide +kernel) rfl #t #t)) (fun C s H fp=>(#u (#a (#c A0 (#c A0 (#c (show IxR _ (Al1 K) from Cn) (dv 1) (dv 0) (fun _ _=>rfl)) Ab (fun _ _=>rfl)) Ab (fun _ _=>rfl)) (#a (dv 0) Ac #r) #r))) rfl rfl #k #k #r ⟨rfl,True.intro⟩ ⟨⟨rfl,rfl,rfl,rfl⟩,True.intro⟩ (by intro _;rfl)) Ac #r) #d #d #r #r) #r #t) (#i (#j (#s ["_law_day","_law_at"] ["_law_there"] [0] rfl (#H (dv 1)) (fun C s H fp=>(show PG _ _ (V5 K 2 _) from Ft rfl (A5 (Au (i:=0) (show List.Nodup [("_law_day":Str),("_law_at":Str),("_law_there":Str)] by decide +kernel) rfl #t) (A5 (Au (i:=1) (show List.Nodup [("_law_day":Str),("_law_at":Str),("_law_there":Str)] by decide +kernel) rfl #t) Eb)))) (fun C s H fp=>(#c A0 (#c (show IxR _ (Al1 K) from Cn) (dv 2) (dv 1) (fun _ _=>rfl)) Ab (fun _ _=>rfl))) rfl rfl #k #k #r ⟨rfl,True.intro⟩ ⟨⟨rfl,rfl,rfl,rfl⟩,True.intro⟩ (by intro _;rfl))))),?_⟩
   have lv:vs.length=es.length:=al.len
   rA ⟨_,.inl (A3.of eT),?_⟩
   rw [lv]
   rA ⟨_,rfl,by omega,by omega,Acj (n:=es.length) (fun H j y=>Xd H y (dk (es.map fun e:En=>e.2) j,(j:Int))) (fun j y H H' kt h=>Ae4 _ _ _ _ kt h) #o ?_ ?_⟩
   ·intro i H2 hi s2 P hP
    have hv:i<vs.length:=by omega
    obtain ⟨e,he,t,p,ev,h1,p',ep,h2⟩:=al.get (AD hv)
    cases ep
    have ed:dk (es.map (·.2)) i=e.2.d:=by
     unfold dk
     rw [BJ,he]
     rfl
    rA ⟨rfl,_,_,A3.of (s2 _ _ eT),(show Q6 vs (0+(i:Int))=some (.ref t) by rw [Int.zero_add,←ev];eC A4 (AD hv)),_,s2 _ _ h1,_,s2 _ _ h2,fun T' H3 s3 e3=>hP _ H3 s3 ⟨T',rfl,?_⟩⟩
    rw [e3,ed,Int.zero_add]
   intro D1 H1 ys s1 n1 e1 ly ar
   have lr:((List.range es.length).map fun i=>(dk (es.map (·.2)) i,(i:Int))).length=es.length:=by rw [AE,DQ]
   have pa:Az (Xd H1) ys ((List.range es.length).map fun i=>(dk (es.map (·.2)) i,(i:Int))):=M5 (by rw [ly,lr]) fun i a b ha hb=>by
    rw [BJ] at hb
    have hi:i<es.length:=by
     have:=(BI.mp ha).1
     omega
    rw [List.getElem?_range hi] at hb
    cases hb
    eC ar i a ha
   rA ⟨ys,_,A3.of e1,pa,by rw [lr];omega,fun q hq=>?_,fun D2 p nD stb=>?_⟩
   ·obtain ⟨i,hi,rfl⟩:=BG.mp hq
    have:=BZ.mp hi
    eC ⟨Int.natCast_nonneg _,by show (i:Int)<64;omega⟩
   rw [lr] at stb
   have stb':=Aoz l40 stb
   have s2:Ah H1 (upd H1 D2 (.lst (p.map fun i=>ys.getD i .non))):=Ap nD
   have e2:upd H1 D2 (.lst (p.map fun i=>ys.getD i .non)) D2=some (.lst (p.map fun i=>ys.getD i .non)):=Ag
   generalize upd H1 D2 (.lst (p.map fun i=>ys.getD i .non))=H2 at s2 e2
   have a2:Az (fun v i=>Xd H2 v (dk (es.map (·.2)) i,(i:Int))∧i<es.length) (p.map fun i=>ys.getD i .non) p:=M5 (by rw [AE]) fun i a b ha hb=>by
    rw [BJ,hb] at ha
    cases ha
    have hb':=stb.2.1 b (BH hb)
    rA ⟨Ae4 _ _ _ _ (Be s2) (ar b _ ?_),hb'⟩
    show ys[b]? =some (ys.getD b .non)
    rw [BF,AD #o]
    rfl
   rA ⟨D2,rfl,⟨_,A3.of e2⟩,Cf (fun H v i=>Xd H v (dk (es.map fun e:En=>e.2) i,(i:Int))∧i<es.length) (fun v i H H' kt h=>⟨Ae4 _ _ _ _ kt h.1,h.2⟩) (fun H i y=>∃g,(es.map (·.2))[i]? =some g∧B7 H y g) (fun i y H H' kt ⟨g,h1,h2⟩=>⟨g,h1,Cw _ _ _ _ kt h2⟩) (by rw [AE,stb.1];omega) (A3.of e2) a2 ?_ ?_⟩
   ·intro v i H3 hM _ s3 P hP
    obtain ⟨⟨q,rfl,hq⟩,hi⟩:=hM
    have hv:i<vs.length:=by omega
    obtain ⟨e,he,t,p,ev,h1,p',ep,h2⟩:=al.get (AD hv)
    cases ep
    have s03:=s1.trans (s2.trans s3)
    eC ⟨q,_,rfl,Ec.of hq,rfl,_,_,rfl,_,_,rfl,rfl,rfl,_,_,A3.of (s03 _ _ eT),(show Q6 vs (i:Int)=some (.ref t) by rw [←ev];eC A4 (AD hv)),_,s03 _ _ h1,hP _ _ (Ah.refl _) ⟨e.2,by rw [BJ,he];rfl,p,rfl,s03 _ _ h2⟩⟩
   ·intro D3 H3 ws s3 _ e3 a3
    eC k D3 ws H3 p (s1.trans (s2.trans s3)) e3 (by rw [AE];eC stb') (Aap a3)
theorem O0.same {L A T:Addr}{H H1 H2:Hp}(f:O0 L A T H H1)(s:Ah H1 H2):O0 L A T H H2:=fun b o n1 n2 n3 e=>s b o (f b o n1 n2 n3 e)
theorem O0.pre {L A T:Addr}{H H1 H2:Hp}(s:Ah H H1)(f:O0 L A T H1 H2):O0 L A T H H2:=fun b o n1 n2 n3 e=>f b o n1 n2 n3 (s b o e)
theorem Hj.fr {K:KKf}{L A R T:Addr}{H H':Hp}{es es':List En}{last:Int}{pos:Pos}{q:Str}{P:Addr}(f:O0 L A T H H')(lg:Fv K H L A R es last)(tk:Av H T pos q)(h:Hj H P es'):Hj H' P es':=by
 obtain ⟨h1,h2⟩:=Oy f lg tk
 obtain ⟨vs,e,al⟩:=h
 eC ⟨vs,h1 _ _ e,al.imp fun v x r=>R1 v x _ _ h2 r⟩
theorem Aca {H:Hp}:∀{es:List En} {ws:List V},Az (fun e y=>B7 H y (e:En).2) es ws→Az (B7 H) ws (es.map (·.2))
 |_,_,.nil=>.nil
 |_,_,.cons h t=>.cons h (Aca t)
structure Q9 (nm:List Str)(es:List En)(c:Int):Prop where
 e:Acr nm es c
 l:es.length≤40
 n:nm.length≤20
 g:∀x∈es,GO x.2
 p:(Ge (es.map (·.2))).length≤8
 c0:0≤c
 c1:c<1000
 z:∀x∈es,1≤x.1
def We (K:KKf)(ns:List Int):Sp:=fun vs H Q _=>match vs with
 | [.ref Z,.ref T,.int c,y]=>∃(L A R:Addr) (es:List En) (g:Gm) (nm:List Str),(Di K H Z L A R es c∧Hj H T es∧Q9 nm es c∧B7 H y g∧g.a∈nm∧g.b∈nm∧GO g∧Av H (Bn K) Bu Em) ∧
   ∀r T' H' es' c',O0 L A (Bn K) H H'→H' r=some (.tup [.ref T',.int c',.bl true])→Di K H' Z L A R es' c'→Hj H' T' es'→(es'=es∧c'=c∨Q8 es g∧es'=es++[(c+1,g)]∧c'=c+1)→Av H' (Bn K) Bu Em→Q (.ref r) H'
 |_=>False
theorem P5:Ai ["_law_desk","_law_there","_law_count","_law_row_here","_law_found","_law_rows"] ["_law_desk","_law_there","_law_count","_law_row_here"] (Af Tj):=⟨rfl,rfl,rfl,by decide +kernel,rfl,by decide +kernel,by decide +kernel⟩
local notation "#bm"=>Ba P w K mg base "_law_put" ["_law_desk","_law_there","_law_count","_law_row_here"] 16 (We K ns)
theorem Ae1 (d:Bj K mg "_law_put" Tj ["_law_desk","_law_there","_law_count","_law_row_here"])(er:#am)(n_str:mg "str"=none)(n_len:mg "len"=none)  (c_l_players:#bk)(c_l_asked:#bj)(c_l_written:#bi):#bm:=by
 rA d.cal (k:=15) P5 (fun vs H Q E h=>?_) (fun f cdv A outer s H vs Q E hr h=>?_)
 ·match vs,h with
  |[.ref Z,.ref T,.int c,y],_=>rfl
 ·match vs,h with
  | [.ref Z,.ref T,.int c,y],hq0=>
   obtain ⟨L,A,R,es,g,nm,⟨dk0,th,ok,gm,ga,gb,o,tk⟩,k⟩:=hq0
   rA ⟨_,(#P (#q (4) _ _ _ _ P5.nd rfl #t (#b c_l_asked hr #d #r (#a (dv 0) (#a (#g C5 A6 (#b c_l_written hr #d #r (#a (dv 3) Ac #r) #d #r #r)) Ac #r) #r) #d #r #r) #r #t) (#h (#q (5) _ _ _ _ P5.nd rfl #t (#g Km (#s ["_law_number","_law_one"] [] [] rfl (#H (dv 1)) (fun C s H fp=>(show PG _ _ (V5 K 2 _) from Ft rfl (A5 (Au (i:=0) (show List.Nodup [("_law_number":Str),("_law_one":Str)] by decide +kernel) rfl #t) (A5 (Au (i:=1) (show List.Nodup [("_law_number":Str),("_law_one":Str)] by decide +kernel) rfl #t) Eb)))) (fun C s H fp=>(dv 1)) rfl rfl #k #k #r True.intro True.intro (by intro _;rfl)) (#M (#a (dv 3) Ac #r))) #r #t) (#h (#m (@L2.PW.pt _ _ _ (#J (#n Aec (#l C9 #r n_len #k (#a (dv 5) Ac #r) #d #d #r #r) Ab (#w #d #d)) (#S (#n Aec (#l C9 #r n_len #k (#a (#b c_l_players hr #d #r (#a (dv 5) Ac #r) #d #r #r) Ac #r) #d #d #r #r) Ab (#w #d #d))))) (#i (#j (#u (#a (dv 1) (#a (dv 2) (#a (#A Gg (dv 4) A6 (#w #d #d)) Ac #r) #r) #r)))) Aw) (#i (#j (#u (#a (#g Km (dv 1) (#M (#a (#u (#a (#g Fx (dv 2) Ab) (#a (dv 3) Ac #r) #r)) Ac #r))) (#a (#g Fx (dv 2) Ab) (#a (#A Gg (dv 4) (#y N1 #r n_str #k (#a (#g Fx (dv 2) Ab) Ac #r) #d #d #r #r) (#w #d #d)) Ac #r) #r) #r))))))),?_⟩
   obtain ⟨p,rfl,ep⟩:=gm
   rA ⟨fun σ H'=>∃fv:Str,σ=[some (.ref Z),some (.ref T),some (.int c),some (.ref p),some (.str fv),none]∧O0 L A (Bn K) H H'∧Av H' (Bn K) Bu Em∧(Q8 es g→Di K H' Z L A R (es++[(c+1,g)]) (c+1)∧fv=(toString (c+1):Str))∧(¬Q8 es g→Di K H' Z L A R es c∧fv=Str.ofString "no book"),?_,?_⟩
   ·rA ⟨g,⟨⟨p,rfl,ep⟩,o⟩,fun H1 s1=>?_⟩
    have lw:=Qh o
    have l5:(Str.ofString "put ").length=4:=by decide +kernel
    have big:(1000:Nat)≤sizeLine:=by decide
    rA ⟨by omega,.inl ⟨L,A,R,es,c,g,nm,rfl,⟨dk0.up s1,ok.e,ok.l,ok.n,ga,gb,o,ok.c0,ok.c1,tk.up s1⟩,fun fit H2 fr dk2 tk2=>⟨_,rfl,O0.pre s1 fr,tk2,fun _=>⟨dk2,rfl⟩,fun n=>absurd fit n⟩,fun nf H2 s2=>⟨_,rfl,fun b u _ _ _ e=>(s1.trans s2) b u e,tk.up (s1.trans s2),fun f=>absurd f nf,fun _=>⟨dk0.up (s1.trans s2),rfl⟩⟩⟩⟩
   rintro σ H2 ⟨fv,rfl,fr,tk2,kf,kn⟩
   obtain ⟨vs,eT,al⟩:=th.fr fr dk0.2.2 tk
   have ep2:=(Oy fr dk0.2.2 tk).2 _ _ ep
   have lv:vs.length=es.length:=al.len
   have l40:=ok.l
   rA ⟨T,rfl,⟨_,A3.of eT⟩,Cf Qu R1 (fun H e y=>B7 H y (e:En).2) (fun e y H H' kt h=>Cw _ _ _ _ kt h) #o (A3.of eT) al ?_ ?_⟩
   ·intro v e H3 hM _ s3 P hP
    obtain ⟨t,q,rfl,h1,h2⟩:=hM
    eC ⟨t,_,rfl,Ec.of h1,rfl,_,_,rfl,_,_,rfl,rfl,rfl,hP _ _ (Ah.refl _) h2⟩
   intro D H3 ws s3 _ e3 a3
   have a3:=Aca a3
   have lw:ws.length=es.length:=by rw [a3.len,AE]
   rA fun D2 H4 s4 e4=>⟨_,_,s4 _ _ e3,e4,by rw [lw];show es.length+1≤1000;omega,fun D3 H5 s5 e5=>?_⟩
   have s25:=s3.trans (s4.trans s5)
   have a5:Az (B7 H5) (ws++[.ref p]) (es.map (·.2)++[g]):=(a3.imp fun v x r=>Cw v x _ _ (Be (s4.trans s5)) r).snoc ⟨p,rfl,s25 _ _ ep2⟩
   have p60:(Ge (es.map (·.2)++[g])).length<60:=by
    rA BO (G9 (Fd (C8 _)) (m:=nm) fun x hx=>Z8 (nm:=nm) (fun h hh=>?_) hx) (BO ok.n #d)
    rcases BV.mp hh with hh|hh
    ·obtain ⟨e,he,rfl⟩:=BG.mp hh
     eC ok.e.mem e he
    ·rw [AW.mp hh]
     eC ⟨ga,gb⟩
   have lT:(ws++[V.ref p]).length=es.length+1:=by rw [AM,lw];rfl
   have fr5:=fr.same s25
   have th5:Hj H5 T es:=Hj.up s25 ⟨vs,eT,al⟩
   have no:¬Q8 es g→∀H6,Ah H5 H6→∀r H7,Ah H6 H7→H7 r=some (.tup [.ref T,.int c,.bl (decide (fv=Str.ofString "no book"))])→Q (.ref r) H7:=fun nf H6 s6 r H7 s7 e7=>by
    obtain ⟨d2,e2⟩:=kn nf
    rw [AQ e2] at e7
    eC k r T H7 es c (fr5.same (s6.trans s7)) e7 (d2.up (s25.trans (s6.trans s7))) (th5.up (s6.trans s7)) (.inl ⟨rfl,rfl⟩) (tk2.up (s25.trans (s6.trans s7)))
   rA ⟨_,.inl (A3.of e5),?_⟩
   rw [lT]
   rA ⟨fun h1=>⟨fun _ r H6 s6 e6=>?_,fun h=>nb h⟩,fun h1=>?_⟩
   ·have h1:(40:Int)<((es.length+1:Nat):Int):=AZ h1
    eC no (fun f=>by have:=f.1;omega) H5 (Ah.refl _) r H6 s6 e6
   have h1:¬(40:Int)<((es.length+1:Nat):Int):=BM h1
   rA ⟨es.map (·.2)++[g],⟨⟨_,A3.of e5,a5,by rw [AM,AE];show es.length+1≤100;omega⟩,by omega⟩,fun D4 H6 s6 _ e6=>⟨_,.inl (A3.of e6),?_⟩⟩
   rw [AE]
   rA ⟨fun h2 r H7 s7 e7=>?_,fun h2=>?_⟩
   ·have h2:(8:Int)<((Ge (es.map (·.2)++[g])).length:Int):=AZ h2
    eC no (fun f=>by have:=f.2;omega) H6 s6 r H7 s7 e7
   have h2:¬(8:Int)<((Ge (es.map (·.2)++[g])).length:Int):=BM h2
   have fit:Q8 es g:=⟨by omega,by omega⟩
   obtain ⟨d2,ef⟩:=kf fit
   have c0:=ok.c0
   have c1:=ok.c1
   rA fun t H7 s7 e7=>fun l H8 s8 e8=>?_
   obtain ⟨vs8,eT8,al8⟩:=th5.up (s6.trans (s7.trans s8))
   have l8:vs8.length=es.length:=al8.len
   rA ⟨_,_,eT8,e8,by rw [l8];show es.length+1≤1000;omega,fun D5 H9 s9 e9=>⟨Aj3 #o #o,fun r H10 s10 e10=>?_⟩⟩
   have sx:Ah H5 H10:=s6.trans (s7.trans (s8.trans (s9.trans s10)))
   have s810:=s9.trans s10
   rw [ef,AQ rfl] at e10
   rA k r D5 H10 _ _ (fr5.same sx) e10 (d2.up (s25.trans sx)) ⟨_,s10 _ _ e9,(al8.imp fun v x r=>R1 v x _ _ (Be s810) r).snoc ⟨t,p,rfl,(s8.trans s810) _ _ e7,p,rfl,(s25.trans sx) _ _ ep2⟩⟩ (.inr ⟨fit,rfl,rfl⟩) (tk2.up (s25.trans sx))
theorem Aah {H:Hp}:∀{es:List En} {ws:List V},Az (fun e y=>Qu H y (e:En)) es ws→Az (Qu H) ws es
 |_,_,.nil=>.nil
 |_,_,.cons h t=>.cons h (Aah t)
theorem Zp {es:List En}{n:Int}(h:∀e∈es,e.1≠n):wo es n=es:=List.filter_eq_self.mpr fun e he=>AQ (h e he)
theorem Aon {es:List En}{n:Int}{g:Gm}(h:(n,g)∈es):(wo es n).length<es.length:=by
 have le:(wo es n).length≤es.length:=CZ _ _
 rcases Nat.lt_or_ge (wo es n).length es.length with z|z
 ·eC z
 ·have:=List.length_filter_eq_length_iff.mp (Nat.le_antisymm le z) _ h
  eC absurd rfl (AZ this)
def Pu (K:KKf)(ns:List Int):Sp:=fun vs H Q _=>match vs with
 | [.ref Z,.ref T,.int c,.int z]=>∃(L A R:Addr) (es:List En) (nm:List Str),(Di K H Z L A R es c∧Hj H T es∧Q9 nm es c∧Av H (Bn K) Bu Em) ∧
   ∀r T' H' n,O0 L A (Bn K) H H'→H' r=some (.tup [.ref T',.int c,.bl true])→Di K H' Z L A R (wo es n) c→Hj H' T' (wo es n)→Av H' (Bn K) Bu Em→Q (.ref r) H'
 |_=>False
theorem Fh:Ai ["_law_desk","_law_there","_law_count","_law_cell","_law_number","_law_found","_law_rest"] ["_law_desk","_law_there","_law_count","_law_cell"] (Af Mw):=⟨rfl,rfl,rfl,by decide +kernel,rfl,by decide +kernel,by decide +kernel⟩
local notation "#bn"=>Ba P w K mg base "_law_taken" ["_law_desk","_law_there","_law_count","_law_cell"] 16 (Pu K ns)
theorem Ys (d:Bj K mg "_law_taken" Mw ["_law_desk","_law_there","_law_count","_law_cell"])(er:#am)(n_len:mg "len"=none)(n_str:mg "str"=none)  (c_l_asked:#bj):#bn:=by
 rA d.cal (k:=15) Fh (fun vs H Q E h=>?_) (fun f cdv A outer s H vs Q E hr h=>?_)
 ·match vs,h with
  |[.ref Z,.ref T,.int c,.int z],_=>rfl
 ·match vs,h with
  | [.ref Z,.ref T,.int c,.int z],hq0=>
   obtain ⟨L,A,R,es,nm,⟨dk0,th,ok,tk⟩,k⟩:=hq0
   rA ⟨_,(#h (#q (4) _ _ _ _ Fh.nd rfl #t (#g Eu (#g Hv (dv 3) Ab) Ab) #r #t) (#P (#m (@L2.PW.pt _ _ _ (#Z (#n Gg (#g Eu (#g Hv (dv 3) Ab) Ab) Ab (#w #d #d)) (#ai (#n Aec (#l C9 #r n_len #k (#a (dv 1) Ac #r) #d #d #r #r) Ab (#w #d #d))))) (#i (#q (4) _ _ _ _ Fh.nd rfl #t (#c A0 (#c Cn (dv 1) (#g Eu (#g Hv (dv 3) Ab) (#l C9 #r n_len #k (#a (dv 1) Ac #r) #d #d #r #r)) (fun _ _=>rfl)) Ab (fun _ _=>rfl)) #r #t)) Aw) (#P (#q (5) _ _ _ _ Fh.nd rfl #t (#b c_l_asked hr #d #r (#a (dv 0) (#a (#g C5 A6 (#y N1 #r n_str #k (#a (dv 4) Ac #r) #d #d #r #r)) Ac #r) #r) #d #r #r) #r #t) (#h (@Sy _ _ _ _ _ _ _ _ _ (6) _ _ _ _ _ _ ["_law_pair"] ["_law_number"] [4] rfl (#H (dv 1)) (fun C s H fp=>(#E (0) _ (show List.Nodup [("_law_pair":Str),("_law_number":Str)] by decide +kernel) rfl #t #t)) (fun C s H fp=>(#n Acb (#c A0 (dv 0) Ab (fun _ _=>rfl)) (dv 1) (#w #d #d))) (fun C s H fp=>(dv 0)) rfl rfl #k #k #r ⟨rfl,True.intro⟩ ⟨⟨rfl,rfl,rfl,rfl⟩,True.intro⟩ Fh.nd rfl rfl (by intro _;rfl) #r) (#h (#m (#n Gg (#l C9 #r n_len #k (#a (dv 6) Ac #r) #d #d #r #r) (#l C9 #r n_len #k (#a (dv 1) Ac #r) #d #d #r #r) (#w #d #d)) (#i (#j (#u (#a (dv 1) (#a (dv 2) (#a (#A Gg (dv 5) A6 (#w #d #d)) Ac #r) #r) #r)))) Aw) (#i (#j (#u (#a (dv 6) (#a (dv 2) (#a (#A Gg (dv 5) A6 (#w #d #d)) Ac #r) #r) #r))))))))),?_⟩
   obtain ⟨vs0,eT0,al0⟩:=id th
   have lv0:vs0.length=es.length:=al0.len
   have c1:=ok.c1
   rA ⟨⟨by decide,A2 rfl⟩,(by show (0:Int)<61;decide),?_⟩
   rA ⟨fun σ H'=>∃n:Int,σ=[some (.ref Z),some (.ref T),some (.int c),some (.int z),some (.int n),none,none]∧H'=H∧0≤n∧n≤9999,?_,?_⟩
   ·rA ⟨⟨by decide,A2 rfl⟩,(by show (0:Int)<2;decide),⟨fun _=>⟨_,.inl (A3.of eT0),⟨fun h=>?_,fun _=>⟨_,rfl,rfl,by show 0≤z / 8 % 61;omega,by show z / 8 % 61≤9999;omega⟩⟩⟩,fun _=>⟨fun h=>nb h,fun _=>⟨_,rfl,rfl,by show 0≤z / 8 % 61;omega,by show z / 8 % 61≤9999;omega⟩⟩⟩⟩
    have h:(0:Int)<(vs0.length:Int):=AZ h
    have a0:=CY (z / 8) (show (vs0.length:Int)≠0 by omega)
    have a1:=Int.emod_lt_of_pos (z / 8) h
    obtain ⟨j,hj⟩:=Int.eq_ofNat_of_zero_le a0
    have jl:j<vs0.length:=by omega
    obtain ⟨e,he,t,p,ev,h1,h2⟩:=al0.get (AD jl)
    have me:=BH he
    have e1:=ok.z e me
    have e2:=ok.e.le e me
    rA ⟨⟨by decide,A2 rfl⟩,_,.inl (A3.of eT0),h,_,_,A3.of eT0,(show Q6 vs0 (z / 8 % vs0.length)=some (.ref t) by rw [hj,←ev];eC A4 (AD jl)),_,h1,⟨_,rfl,rfl,by omega,by omega⟩⟩
   rintro σ H0 ⟨n,rfl,rfl,n0,n1⟩
   rA ⟨fun σ H'=>∃fv:Str,σ=[some (.ref Z),some (.ref T),some (.int c),some (.int z),some (.int n),some (.str fv),none]∧O0 L A (Bn K) H0 H'∧Av H' (Bn K) Bu Em∧Di K H' Z L A R (wo es n) c∧((∀e∈es,e.1≠n)→fv=Str.ofString "no game")∧(∀g,(n,g)∈es→fv=Str.ofString "ok"),?_,?_⟩
   ·have ln:=Sj n0 n1
    have l6:(Str.ofString "take ").length=5:=by decide +kernel
    have big:(1000:Nat)≤sizeLine:=by decide
    rA ⟨W3 n0 n1,by omega,.inr ⟨L,A,R,es,c,n,rfl,⟨dk0,⟨n0,n1⟩,ok.e.inc,ok.l,ok.p,tk⟩,fun g hg H2 fr dk2 tk2=>⟨_,rfl,fr,tk2,dk2,fun no=>absurd rfl (no _ hg),fun _ _=>rfl⟩,fun no H2 s2=>⟨_,rfl,fun b u _ _ _ e=>s2 b u e,tk.up s2,by rw [Zp no];eC dk0.up s2,fun _=>rfl,fun g hg=>absurd rfl (no _ hg)⟩⟩⟩
   rintro σ H2 ⟨fv,rfl,fr,tk2,dk2,fn,fo⟩
   obtain ⟨vs,eT,al⟩:=th.fr fr dk0.2.2 tk
   have lv:vs.length=es.length:=al.len
   have l40:=ok.l
   rA ⟨T,rfl,⟨_,A3.of eT⟩,Ss Qu R1 (fun H e y=>Qu H y (e:En)) (fun e y H H' kt h=>R1 _ _ _ _ kt h) (fun e:En=>decide (e.1≠n)) #o (A3.of eT) al ?_ ?_⟩
   ·intro v e H3 hM _ s3 P P' hP hP'
    obtain ⟨t,q,rfl,h1,h2⟩:=hM
    eC ⟨rfl,_,h1,⟨fun h=>hP (by simpa using h) _ _ (Ah.refl _) ⟨t,q,rfl,h1,h2⟩,fun h=>hP' (by simpa using h) _ (Ah.refl _)⟩⟩
   intro D H3 ws s3 _ e3 a3
   have a3:Az (Qu H3) ws (wo es n):=Aah a3
   have lw:ws.length=(wo es n).length:=a3.len
   have fr3:=fr.same s3
   have th3:Hj H3 T es:=Hj.up s3 ⟨vs,eT,al⟩
   rA ⟨_,.inl (A3.of e3),_,.inl (A3.of (s3 _ _ eT)),⟨fun h r H4 s4 e4=>?_,fun h r H4 s4 e4=>?_⟩⟩
   ·have h:(ws.length:Int)=(vs.length:Int):=AZ h
    have no:∀e∈es,e.1≠n:=fun e he z=>by
     have:=Aon (es:=es) (n:=n) (g:=e.2) (by rw [←z];eC he)
     omega
    rw [fn no,AQ rfl] at e4
    eC k r T H4 n (fr3.same s4) e4 (dk2.up (s3.trans s4)) (by rw [Zp no];eC th3.up s4) (tk2.up (s3.trans s4))
   ·have h:¬(ws.length:Int)=(vs.length:Int):=BM h
    have yes:∃g,(n,g)∈es:=GG fun z=>h (by
     rw [lw,lv,Zp fun e he q=>z ⟨e.2,by rw [←q];eC he⟩])
    obtain ⟨g,hg⟩:=yes
    rw [fo g hg,AQ rfl] at e4
    eC k r D H4 n (fr3.same s4) e4 (dk2.up (s3.trans s4)) (Hj.up s4 ⟨ws,e3,a3⟩) (tk2.up (s3.trans s4))
def zz (q:Q2):Int:=5*q.1 / q.2
theorem Aju {q:Q2}{z:Int}(p:0<q.2)(e:5*q.1=z*q.2):zz q=z:=by
 unfold zz
 rw [e,Int.mul_ediv_cancel _ #o]
theorem F5.zz {M:Int}{q:Q2}(h:F5 M q):5*q.1=zz q*q.2∧-M≤zz q∧zz q≤M:=by
 obtain ⟨z,a,b,c⟩:=h.z
 rw [Aju h.pos c]
 eC ⟨c,a,b⟩
theorem Ajq {t b z:Int}(hb:0<b)(e:5*t=z*b):zz (Qa t b,Oc t b)=z:=by
 have h:=Hr (M:=z.natAbs) hb #o #o e
 obtain ⟨w,_,_,c⟩:=h.z
 have h2:=W6 t b
 rA Aju h.pos ?_
 apply Int.eq_of_mul_eq_mul_right (show b≠0 by omega)
 show 5*Qa t b*b=z*Oc t b*b
 rw [BD,h2,←BD,e,BD,ED b,←BD]
theorem Aqk {M N:Int}{x y:Q2}(h:F5 M x)(k:F5 N y):zz (plQ x y)=zz x+zz y:=by
 rA Ajq (EB h.pos k.pos) ?_
 rw [Int.mul_add,←BD,h.zz.1,←BD,k.zz.1,Int.add_mul,BD,BD,ED y.2]
theorem Aph {M N:Int}{x y:Q2}(h:F5 M x)(k:F5 N y):zz (Y2 x y)=zz x-zz y:=by
 rA Ajq (EB h.pos k.pos) ?_
 rw [Int.mul_sub,←BD,h.zz.1,←BD,k.zz.1,Int.sub_mul,BD,BD,ED y.2]
theorem Vp {f g:Str→Int}:∀l:List Str,(l.map fun x=>f x+g x).sum=(l.map f).sum+(l.map g).sum
 |[]=>rfl
 |a::l=>by
  simp only [BE,List.sum_cons,Vp l]
  omega
theorem Abp {a:Str}{y:Int}:∀{l:List Str},a∉l→(l.map fun x=>if x=a then y else 0).sum=0
 |[],_=>rfl
 |b::l,h=>by
  have h1:b≠a:=fun z=>h (by rw [z];eC AK)
  simp only [BE,List.sum_cons,AI h1,Abp (fun z=>h (AJ _ z)),Int.zero_add]
theorem Y9 {a:Str}{y:Int}:∀{l:List Str},l.Nodup→a∈l→(l.map fun x=>if x=a then y else 0).sum=y
 | b::l,nd,h=>by
  obtain ⟨n1,n2⟩:=DH.mp nd
  by_cases e:b=a
  ·subst e
   simp only [BE,List.sum_cons,FO,Abp n1,Int.add_zero]
  ·have ha:a∈l:=(AU.mp h).resolve_left fun z=>e z.symm
   simp only [BE,List.sum_cons,AI e,Y9 n2 ha,Int.zero_add]
theorem Aaw {l:List Str}(nd:l.Nodup):∀(gs:List Gm) (w:Wn) (M:Int),(∀g∈gs,(0≤g.h∧g.h≤2)∧g.a≠g.b)→(∀g∈gs,g.a∈l∧g.b∈l)→(∀x,F5 M (wq 1500 (w x)))→(l.map fun x=>zz (wq 1500 (K0 0 32 1500 0 0 C7 w gs x))).sum=(l.map fun x=>zz (wq 1500 (w x))).sum
 |[],_,_,_,_,_=>rfl
 | g::gs,w,M,hg,hm,h=>by
  have o:=hg g AK
  have m:=hm g AK
  have b:=Ag3 (fi:=1500) (w:=w) o.1.1 o.1.2
  have f5n:∀y,F5 (M+160) (wq 1500 (Nv 0 32 1500 0 0 C7 w g y)):=fun y=>by
   unfold Nv
   split
   ·eC (h g.b).mn b
   ·split
    ·eC (h g.a).pl b
    ·eC (h y).mono #o
  show (l.map fun x=>zz (wq 1500 (K0 0 32 1500 0 0 C7 (Nv 0 32 1500 0 0 C7 w g) gs x))).sum=_
  rw [Aaw nd gs (Nv 0 32 1500 0 0 C7 w g) (M+160) (fun y hy=>hg y (AJ _ hy)) (fun y hy=>hm y (AJ _ hy)) f5n]
  have e:∀x,zz (wq 1500 (Nv 0 32 1500 0 0 C7 w g x))=zz (wq 1500 (w x))+((if x=g.a then zz (Hz 0 32 1500 0 0 C7 w g) else 0)+(if x=g.b then -zz (Hz 0 32 1500 0 0 C7 w g) else 0)):=fun x=>by
   unfold Nv
   by_cases hb:x=g.b
   ·rw [AN hb,AI (fun z=>o.2 (z.symm.trans hb)),AN hb]
    show zz (Y2 _ _)=_
    rw [Aph (h g.b) b,hb]
    omega
   ·rw [AI hb,AI hb]
    by_cases ha:x=g.a
    ·rw [AN ha,AN ha]
     show zz (plQ _ _)=_
     rw [Aqk (h g.a) b,ha]
     omega
    ·rw [AI ha,AI ha]
     omega
  simp only [e]
  rw [Vp,Vp,Y9 nd m.1,Y9 nd m.2]
  omega
theorem Aci (l:List Str):(l.map fun x=>zz (wq 1500 ((fun _=>none:Wn) x))).sum=7500*l.length:=by
 have e:zz (wq 1500 none)=7500:=by decide
 show (l.map fun _=>zz (wq 1500 none)).sum=_
 rw [e]
 induction l with
 |nil=>rfl
 |cons a l ih=>
  rw [BE,List.sum_cons,ih,AY]
  omega
def J2 (K:KKf)(ns:List Int):Sp:=fun vs H Q _=>match vs with
 |[.ref p]=>∃q:Q2,(H p=some (.tup [.int q.1,.int q.2])∧F5 13900 q)∧Q (.str (shF q)) H
 |_=>False
theorem Qy:Ai ["_law_one"] ["_law_one"] (Af G2):=⟨rfl,rfl,rfl,by decide +kernel,rfl,by decide +kernel,by decide +kernel⟩
local notation "#bo"=>Ba P w K mg base "_law_fraction" ["_law_one"] 1 (J2 K ns)
theorem Ra (d:Bj K mg "_law_fraction" G2 ["_law_one"])(er:#am)(n_str:mg "str"=none)  :#bo:=by
 rA d.cal (k:=0) Qy (fun vs H Q E h=>?_) (fun f cdv A outer s H vs Q E hr h=>?_)
 ·match vs,h with
  |[.ref p],_=>rfl
 ·match vs,h with
  | [.ref p],hq0=>
   obtain ⟨q,⟨e,h⟩,k⟩:=hq0
   rA ⟨_,(#h (#m (#n Gg (#c A0 (dv 0) Ab (fun _ _=>rfl)) Ab (#w #d #d)) (#i (#j (#y N1 #r n_str #k (#a (#c A0 (dv 0) Ab (fun _ _=>rfl)) Ac #r) #d #d #r #r))) Aw) (#i (#j (#g C5 (#g C5 (#y N1 #r n_str #k (#a (#c A0 (dv 0) Ab (fun _ _=>rfl)) Ac #r) #d #d #r #r) A6) (#y N1 #r n_str #k (#a (#c A0 (dv 0) Ab (fun _ _=>rfl)) Ac #r) #d #d #r #r))))),?_⟩
   obtain ⟨b5,t0,t1⟩:=h.small
   have b0:=h.pos
   have lg:∀{i:Int},-13900≤i→i≤13900→i.natAbs.log2<1920:=fun {i} h0 h1=>by
    have:Bd 100 i:=Dt (b:=20000) #o #o (A2 rfl)
    eC AL (Mb this #d) #d
   have pw:(13900:Int)<10 ^ 60:=by decide +kernel
   have l1:=On (i:=q.1) #o #o
   have l2:=On (i:=q.2) #o #o
   have l3:(Str.ofString "/").length=1:=by decide +kernel
   have big:(1000:Nat)≤sizeLine:=by decide
   unfold shF at k
   rA ⟨_,e,⟨fun h=>?_,fun h=>?_⟩⟩
   ·have h:q.2=1:=AZ h
    rw [AN h] at k
    eC ⟨_,e,lg t0 t1,k⟩
   ·have h:¬q.2=1:=BM h
    rw [AI h] at k
    eC ⟨_,e,lg t0 t1,by omega,_,e,lg #o #o,by rw [Bf];omega,k⟩
theorem Ai4:∀{ws:List Str},ws≠[]→(∀w∈ws,1≤w.length)→Str.join Qw ws≠Str.ofString ""
 |[],h,_=>absurd rfl h
 | a::ws,_,hw=>fun z=>by
  have h1:=hw a AK
  have e:(co (Str.join Qw (a::ws))).length=(co (Str.ofString "")).length:=congrArg (fun x=>(co x).length) z
  cases ws with
  |nil=>
   have e:(co a).length=0:=e.trans #k
   rw [Bo] at e
   omega
  |cons b ws=>
   rw [Wb,AM,Bo a,show (co (Str.ofString "")).length=0 from by decide +kernel] at e
   omega
theorem Ab8 {α:Type}{l:List α}{f:α→Str}(hw:∀x∈l,1≤(f x).length):(Str.join Qw (l.map f)≠Str.ofString ""→(if l=[] then Str.ofString "none" else Str.join Qw (l.map f))=Str.join Qw (l.map f))∧(Str.join Qw (l.map f)=Str.ofString ""→(if l=[] then Str.ofString "none" else Str.join Qw (l.map f))=Str.ofString "none"):=by
 rA ⟨fun h=>AI fun z=>h ?_,fun h=>AN (GG fun z=>Ai4 (ws:=l.map f) (by simpa using z) (fun w hw'=>?_) h)⟩
 ·rw [z]
  show Str.join Qw []=Str.ofString ""
  decide +kernel
 ·obtain ⟨x,hx,rfl⟩:=BG.mp hw'
  eC hw x hx
theorem Nh {M:Nat}:∀{ws:List Str},(∀p∈ws,p.length≤M)→(Str.join Qw ws).length≤ws.length*(M+2)
 |[],_=>AV _
 |[a],h=>by
  have h1:=h a AK
  show a.length≤_
  simp
  omega
 |a::b::r,h=>by
  have h0:=h a AK
  have h1:=Nh (ws:=b::r) fun p hp=>h p (AJ _ hp)
  have e:=congrArg List.length (Wb Qw a b r)
  simp only [AM,Bo,show Qw.length=2 from rfl] at e
  rw [e]
  simp only [AY] at h1 ⊢
  rw [Nat.succ_mul]
  omega
theorem Ue {T:Addr}{H H':Hp}{pos:Pos}{q:Str}(s:Mf T H H')(tk:Av H T pos q):(∀b xs,H b=some (.lst xs)→H' b=some (.lst xs))∧Kt H H':=by
 obtain ⟨ps,eT,_⟩:=tk
 eC ⟨fun b xs e=>s b _ (fun z=>by rw [z,eT] at e;cases e) e,fun b xs e=>s b _ (fun z=>by rw [z,eT] at e;cases e) e⟩
theorem Abl {L A T:Addr}{H H':Hp}(s:Mf T H H'):O0 L A T H H':=fun b o _ _ n e=>s b o n e
theorem Di.sm {K:KKf}{H H':Hp}{Z L A R:Addr}{es:List En}{last:Int}(s:Mf (Bn K) H H')(tk:Av H (Bn K) Bu Em)(h:Di K H Z L A R es last):Di K H' Z L A R es last:=h.fr tk (Abl s) (h.2.2.smt s tk)
theorem Xx {K:KKf}{H:Hp}{R T:Addr}{so st fi one two:Int}{rows:List Rw}{pos:Pos}{q:Str}(tk:Av H T pos q)(h:P4 K H R so st fi one two rows):Oi K (Ht T H) R so st fi one two rows:=by
 obtain ⟨ps,eT,_⟩:=tk
 have keep:∀b o,(∀ps,o≠.tbl ps)→H b=some o→Ht T H b=some o:=fun b o n e=>by
  unfold Ht
  rw [AI]
  ·eC e
  ·intro z
   rw [z,eT] at e
   cases e
   eC n _ rfl
 obtain ⟨C,dx,fs,T',e,kn,f,vs,t1,t2⟩:=h
 eC ⟨C,dx,fs,T',keep _ _ (fun _ z=>nomatch z) e,kn,f,vs,A3.of (keep _ _ (fun _ z=>nomatch z) t1),t2.imp fun v g r=>Ea v g _ _ (fun p xs e=>keep _ _ (fun _ z=>nomatch z) e) r⟩
theorem P4.fr {K:KKf}{H H':Hp}{L A R T Q:Addr}{es:List En}{last so st fi one two:Int}{rows:List Rw}{pos:Pos}{q:Str}(f:O0 L A T H H')(lg:Fv K H L A Q es last)(tk:Av H T pos q)(n:R≠L)(h:P4 K H R so st fi one two rows):P4 K H' R so st fi one two rows:=by
 obtain ⟨h1,h2⟩:=Oy f lg tk
 obtain ⟨C,dx,fs,T',e,kn,fd,vs,t1,t2⟩:=h
 obtain ⟨_,_,_,_,_,_,_,eA,_⟩:=lg
 obtain ⟨ps,eT,_⟩:=tk
 eC ⟨C,dx,fs,T',f _ _ n (fun z=>by rw [z,eA] at e;cases e) (fun z=>by rw [z,eT] at e;cases e) e,kn,fd,vs,h1 _ _ t1,t2.imp fun v g r=>Ea v g _ _ h2 r⟩
theorem Aha {T:Addr}{H:Hp}{pos:Pos}{q:Str}(tk:Av H T pos q):(∀b xs,H b=some (.lst xs)→Ht T H b=some (.lst xs))∧Kt H (Ht T H):=by
 obtain ⟨ps,eT,_⟩:=tk
 have keep:∀b o,b≠T→H b=some o→Ht T H b=some o:=fun b o n e=>by
  unfold Ht
  rw [AI n]
  eC e
 eC ⟨fun b xs e=>keep b _ (fun z=>by rw [z,eT] at e;cases e) e,fun b xs e=>keep b _ (fun z=>by rw [z,eT] at e;cases e) e⟩
def StP (K:KKf)(Z T D P:Addr)(H1:Hp)(ss:List (Str×Q2)):L2.St→Hp→Prop:=fun σ H'=>∃(W:Addr) (vs:List V),σ=[some (.ref Z),some (.ref T),some (.ref D),some (.ref P),some (.ref W),none,none,none,none]∧Mf (Bn K) H1 H'∧Av H' (Bn K) Bu Em∧H' W=some (.lst vs)∧Az (Ln H') vs ss
def Nt (K:KKf)(ns:List Int):Sp:=fun vs H Q _=>match vs with
 |[.ref Z,.ref T]=>∃(L A R:Addr) (es:List En) (c:Int) (nm:List Str),(Di K H Z L A R es c∧Hj H T es∧Q9 nm es c∧P4 K H R 0 32 1500 0 0 C7∧R≠L∧Av H (Bn K) Bu Em)∧∀H',Mf (Bn K) H H'→Av H' (Bn K) Bu Em→Q (.bl true) H'
 |_=>False
theorem Bz:Ai ["_law_desk","_law_there","_law_rows","_law_table","_law_worths","_law_top","_law_bottom","_law_name","_law_one"] ["_law_desk","_law_there"] (Af Kv):=⟨rfl,rfl,rfl,by decide +kernel,rfl,by decide +kernel,by decide +kernel⟩
local notation "#bp"=>Ba P w K mg base "_law_stands" ["_law_desk","_law_there"] 15 (Nt K ns)
theorem Vy (d:Bj K mg "_law_stands" Kv ["_law_desk","_law_there"])(er:#am)(n_len:mg "len"=none)  (c_l_players:#bk)(c_Desk_say:#be)(c_l_fraction:#bo)(c_running:#aJ)(c_Rule___init__:#aB)(c_l_written:#bi)(c_l_by_days:#bl):#bp:=by
 rA d.cal (k:=14) Bz (fun vs H Q E h=>?_) (fun f cdv A outer s H vs Q E hr h=>?_)
 ·match vs,h with
  |[.ref Z,.ref T],_=>rfl
 ·match vs,h with
  | [.ref Z,.ref T],hq0=>
   obtain ⟨L,A,R,es,c,nm,⟨dk0,th,ok,rl,nRL,tk⟩,k⟩:=hq0
   rA ⟨_,(#h (#q (2) _ _ _ _ Bz.nd rfl #t (#b c_l_by_days hr #d #r (#a (dv 1) Ac #r) #d #r #r) #r #t) (#P (#m (#n Acb (#U (dv 0) (#v c_Desk_say (List.Mem.head _) er.l_Desk #d Fu) hr (#a A6 Ac #r) #r #r #r) (@Aj1 _ _ _ _ _ _ (#ad ("join") _ _ A6 (#a (#s ["_law_row_here"] [] [] rfl (#H (dv 2)) (fun C s H fp=>(#E (0) _ (show List.Nodup [("_law_row_here":Str)] by decide +kernel) rfl #t #t)) (fun C s H fp=>(#b c_l_written hr #d #r (#a (dv 0) Ac #r) #d #r #r)) rfl rfl #k #k #r True.intro True.intro (by intro _;rfl)) Ac #r) #r #r #r #r #r) A6) (#w #d #d)) (#i (#j Lv)) Aw) (#h (#q (3) _ _ _ _ Bz.nd rfl #t (@Aky _ _ _ _ (#aa (#u (#C Ab (#a (#u (#C Ab (#C Ab Ac))) Ac #r))) (#aa (#u (#C Ab (#a (#u (#C Ab (#C Ab Ac))) Ac #r))) (#aa (#u (#C Ab (#a (#u (#C Ab (#C Ab Ac))) Ac #r))) (#aa (#u (#C Ab (#a (#u (#C Ab (#C Ab Ac))) Ac #r))) (#aa (#u (#C Ab (#a (#u (#C Ab (#C Ab Ac))) Ac #r))) Alo)))))) #r #t) (#P (#q (4) _ _ _ _ Bz.nd rfl #t (#b c_running hr #d #r (#a (#Q c_Rule___init__ (List.Mem.head _) er.m_Rule hr #d #r er.b_Rule (#a Ab (#a Ab (#a (dv 3) Ac #r) #r) #r) #d #r #r) (#a (dv 2) Ac #r) #r) #d #r #r) #r #t) (#P (#m (#n Acb (#U (dv 0) (#v c_Desk_say (List.Mem.head _) er.l_Desk #d Fu) hr (#a A6 Ac #r) #r #r #r) (@Aj1 _ _ _ _ _ _ (#ad ("join") _ _ A6 (#a (#s ["_law_name","_law_one"] [] [] rfl (#H (dv 4)) (fun C s H fp=>(show PG _ _ (V5 K 2 _) from Ft rfl (A5 (Au (i:=0) (show List.Nodup [("_law_name":Str),("_law_one":Str)] by decide +kernel) rfl #t) (A5 (Au (i:=1) (show List.Nodup [("_law_name":Str),("_law_one":Str)] by decide +kernel) rfl #t) Eb)))) (fun C s H fp=>(#g C5 (#g C5 (dv 0) A6) (#b c_l_fraction hr #d #r (#a (dv 1) Ac #r) #d #r #r))) rfl rfl #k #k #r True.intro True.intro (by intro _;rfl)) Ac #r) #r #r #r #r #r) A6) (#w #d #d)) (#i (#j Lv)) Aw) (#P (#m (#n (@Aj2 _ hr.units) (#s ["_law_name","_law_one"] [] [] rfl (#H (dv 4)) (fun C s H fp=>(show PG _ _ (V5 K 2 _) from Ft rfl (A5 (Au (i:=0) (show List.Nodup [("_law_name":Str),("_law_one":Str)] by decide +kernel) rfl #t) (A5 (Au (i:=1) (show List.Nodup [("_law_name":Str),("_law_one":Str)] by decide +kernel) rfl #t) Eb)))) (fun C s H fp=>(dv 0)) rfl rfl #k #k #r True.intro True.intro (by intro _;rfl)) (#b c_l_players hr #d #r (#a (dv 2) Ac #r) #d #r #r) (#w #d #d)) (#i (#j Lv)) Aw) (#h (#q (5) _ _ _ _ Bz.nd rfl #t Ab #r #t) (#h (#q (6) _ _ _ _ Bz.nd rfl #t Ab #r #t) (#h (#O DI rfl (#H (dv 4)) (#ah rfl (#L (#E (7) _ Bz.nd rfl #t #t) (#L (#E (8) _ Bz.nd rfl #t #t) Eb #r) #r) #r #r) (#h (#q (5) _ _ _ _ Bz.nd rfl #t (#g Fx (#g Ef (dv 5) (#c A0 (dv 8) Ab (fun _ _=>rfl))) (#g Ef (#c A0 (dv 8) Ab (fun _ _=>rfl)) (dv 6))) #r #t) (#i (#q (6) _ _ _ _ Bz.nd rfl #t (#g Ef (dv 6) (#c A0 (dv 8) Ab (fun _ _=>rfl))) #r #t))) (by intro _;rfl)) (#i (#j (#A Gg (dv 5) (#g Ef (#g Ef Ab (#l C9 #r n_len #k (#a (dv 4) Ac #r) #d #d #r #r)) (dv 6)) (#w #d #d))))))))))))),?_⟩
   have l40:=ok.l
   rA ⟨es,⟨th,ok.l⟩,fun D ws H1 p s1 eD stb aD=>?_⟩
   have okg:∀g∈pg (es.map (·.2)) p,GO g:=Afb fun g hg=>by
    obtain ⟨e,he,rfl⟩:=BG.mp hg
    eC ok.g e he
   have lg:(pg (es.map (·.2)) p).length=es.length:=by rw [M4 stb.2.1,stb.1,AE]
   have dk1:=dk0.up s1
   have rl1:=rl.up s1
   have tk1:=tk.up s1
   obtain ⟨dx,fs,dy,gs,eZ,f1,f2,eL,fd⟩:=dk1.get er.y_Desk er.y_Ledger
   rA ⟨fun σ H'=>σ=[some (.ref Z),some (.ref T),some (.ref D),none,none,none,none,none,none]∧Mf (Bn K) H1 H'∧Av H' (Bn K) Bu Em,?_,?_⟩
   ·rA ⟨Z,_,dx,fs,_,rfl,eZ,.head _,f2,by decide +kernel,.inr ⟨.inr (.inl (by rw [R0 #k])),fun W H2 s2 e2=>.inr (.inl ⟨e2.trans (by rw [show Txt.split (Str.ofString "book") ⟨#[32]⟩=[Str.ofString "book"] from by decide +kernel];rfl),fun B H3 s3=>?_⟩)⟩⟩
    have s13:=s2.trans s3
    rA ⟨L,A,R,es,c,⟨dk1.up s13,ok.l,ok.g,tk1.up s13⟩,fun p2 H4 sm tk4 stb2=>?_⟩
    obtain rfl:=Qm stb2 stb
    have sm14:Mf (Bn K) H1 H4:=fun b o n e=>sm b o n (s13 b o e)
    obtain ⟨k1,k2⟩:=Ue sm14 tk1
    have eD4:=k1 _ _ eD
    have aD4:=aD.imp fun v g r=>Cw v g _ _ k2 r
    rA ⟨rfl,D,rfl,⟨_,A3.of eD4⟩,Cf B7 Cw (fun _ g y=>y=V.str (Nx g)) (fun _ _ _ _ _ h=>h) (by rw [aD.len];omega) (A3.of eD4) aD4 ?_ ?_⟩
    ·intro v g H5 hM hg s5 P hP
     obtain ⟨q,rfl,eq⟩:=hM
     eC ⟨rfl,g,⟨⟨q,rfl,eq⟩,okg g hg⟩,fun H6 s6=>hP _ H6 s6 rfl⟩
    intro D2 H5 ys s5 _ e5 a5
    rw [Vl a5] at e5
    have ej:Txt.join (Str.ofString "; ") ((pg (es.map (·.2)) p2).map Nx)=Str.join Qw ((pg (es.map (·.2)) p2).map Nx):=Dn (Jw _ _)
    have lw:∀w∈(pg (es.map (·.2)) p2).map Nx,w.length≤1000:=fun w hw=>by
     obtain ⟨g,hg,rfl⟩:=BG.mp hw
     have:=Qh (okg g hg)
     omega
    obtain ⟨o1,o2⟩:=Ab8 (l:=pg (es.map (·.2)) p2) (f:=Nx) fun g hg=>by
     rw [←Bo,Aef,AM,AY]
     omega
    have sm15:Mf (Bn K) H1 H5:=fun b o n e=>s5 b o (sm14 b o n e)
    rA ⟨_,A3.of e5,Akv lw (by rw [AE];omega),?_⟩
    rw [ej]
    rA ⟨?_,fun hne=>⟨fun h=>?_,fun _=>⟨rfl,sm15,tk4.up s5⟩⟩,fun he=>⟨fun h=>?_,fun _=>⟨rfl,sm15,tk4.up s5⟩⟩⟩
    ·have:=Nh lw
     rw [AE,lg] at this
     have big:(1000000:Nat)≤sizeLine:=by decide
     have:es.length*(1000+2)≤40*1002:=Nat.mul_le_mul_right _ l40
     omega
    ·unfold Aan at h
     rw [o1 hne,AQ rfl] at h
     eC nb h
    ·unfold Aan at h
     rw [o2 he,AQ rfl] at h
     eC nb h
   rintro σ H2 ⟨rfl,sm2,tk2⟩
   rA fun T1 H3 s3 e3 T2 H4 s4 e4 T3 H5 s5 e5 T4 H6 s6 e6 T5 H7 s7 e7 T6 H8 s8 e8 T7 H9 s9 e9 T8 H10 s10 e10 T9 H11 s11 e11 T10 H12 s12 e12 P H13 s13 e13=>?_
   have s412:=s5.trans (s6.trans (s7.trans (s8.trans (s9.trans (s10.trans (s11.trans (s12.trans s13)))))))
   have s213:Ah H2 H13:=s3.trans (s4.trans s412)
   have q5:=s6.trans (s7.trans (s8.trans (s9.trans (s10.trans (s11.trans (s12.trans s13))))))
   have q6:=s7.trans (s8.trans (s9.trans (s10.trans (s11.trans (s12.trans s13)))))
   have q7:=s8.trans (s9.trans (s10.trans (s11.trans (s12.trans s13))))
   have q8:=s9.trans (s10.trans (s11.trans (s12.trans s13)))
   have q9:=s10.trans (s11.trans (s12.trans s13))
   have q10:=s11.trans (s12.trans s13)
   have q11:=s12.trans s13
   have a13:Az (Gu K H13) [.ref T2,.ref T4,.ref T6,.ref T8,.ref T10] C7:=.cons ⟨_,_,rfl,.inl (s412 _ _ e4),.inl ((s4.trans s412) _ _ e3)⟩ (.cons ⟨_,_,rfl,.inl (q6 _ _ e6),.inl (q5 _ _ e5)⟩ (.cons ⟨_,_,rfl,.inl (q8 _ _ e8),.inl (q7 _ _ e7)⟩ (.cons ⟨_,_,rfl,.inl (q10 _ _ e10),.inl (q9 _ _ e9)⟩ (.cons ⟨_,_,rfl,.inl (s13 _ _ e12),.inl (q11 _ _ e11)⟩ .nil))))
   have tk13:=tk2.up s213
   have sm13:Mf (Bn K) H1 H13:=fun b o n e=>s213 b o (sm2 b o n e)
   clear s3 s4 s5 s6 s7 s8 s9 s10 s11 s12 s13 s412 q5 q6 q7 q8 q9 q10 q11 e3 e4 e5 e6 e7 e8 e9 e10 e11 e12
   rA ⟨StP K Z T D P H1 (El (es.map (·.2)) p),?_,?_⟩
   ·intro x dx' hx hd ne
    have s14:=Lb (C:=c_Rule) hx hd ne
    have e14:upd (upd H13 dx' (.own x)) x (.ins c_Rule dx' []) x=some (.ins c_Rule dx' []):=Ag
    generalize upd (upd H13 dx' (.own x)) x (.ins c_Rule dx' [])=H14 at s14 e14
    have a14:=a13.imp fun v g r=>Ea v g _ _ (Be s14) r
    rA ⟨_,dx',[],_,_,⟨e14,er.l_Rule,er.na_Rule_step,er.na_Rule_first,er.na_Rule_table,by decide,s14 _ _ e13,a14,Aas⟩,fun Tb H15 s15 nT n15 e15 ex15=>⟨rfl,?_⟩⟩
    have s1315:Ah H13 H15:=U0 hx s14 s15
    have sm15:Mf (Bn K) H1 H15:=fun b o n e=>s1315 b o (sm13 b o n e)
    have tk15:=tk13.up s1315
    obtain ⟨k1,k2⟩:=Ue sm15 tk1
    obtain ⟨f1',f2'⟩:=Aha tk15
    have hR:Oi K (Ht (Bn K) H15) x 0 32 1500 0 0 C7:=Xx tk15 ⟨_,dx',_,Tb,ex15,⟨rfl,er.y_Rule⟩,fd0 rfl,_,e15,a14.imp fun v g r=>Ea v g _ _ (s15.kt e14) r⟩
    rA ⟨0,32,1500,0,0,C7,pg (es.map (·.2)) p,ws,⟨hR,Ts,nb0,A2 rfl,A3.of (f1' _ _ (k1 _ _ eD)),aD.imp fun v g r=>Cw v g _ _ (k2.trans f2') r,by omega,by rw [Kb stb];eC ok.p,fun g hg=>⟨⟨(okg g hg).h0,(okg g hg).h1⟩,(okg g hg).ne⟩,tk15⟩,fun W vs p' H16 sm16 nW eW tk16 stb' alW=>⟨W,vs,rfl,fun b o n e=>sm16 b o n (sm15 b o n e),tk16,eW,?_⟩⟩
    rw [Wt stb stb',Kb stb] at alW
    eC alW
   have okr:=Abx (gs:=es.map (·.2)) (p:=p) (fun g hg=>by
    obtain ⟨e,he,rfl⟩:=BG.mp hg
    eC ok.g e he) (by rw [stb.1,AE];eC l40) stb.2.1
   have lr:(El (es.map (·.2)) p).length≤8:=by
    unfold El
    rw [AE]
    eC ok.p
   have f5r:∀s∈El (es.map (·.2)) p,F5 13900 s.2:=fun s hs=>by
    obtain ⟨x,hx,rfl⟩:=BG.mp hs
    eC Afp (fun g hg=>⟨(okg g hg).h0,(okg g hg).h1⟩) #o x
   clear a13 tk13 sm13 e13 s213 sm2 tk2
   rintro σ H3 ⟨W,vs,rfl,sm3,tk3,eW,aW⟩
   rA ⟨StP K Z T D P H1 (El (es.map (·.2)) p),?_,?_⟩
   ·have dk3:=dk1.sm sm3 tk1
    have rl3:=P4.fr (Abl sm3) dk1.2.2 tk1 nRL rl1
    obtain ⟨dx,fs,dy,gs,eZ,f1,f2,eL,fd⟩:=dk3.get er.y_Desk er.y_Ledger
    rA ⟨Z,_,dx,fs,_,rfl,eZ,.head _,f2,by decide +kernel,.inr ⟨.inr (.inr (by rw [R0 #k])),fun W2 H4 s4 e4=>.inr (.inr ⟨e4.trans (by rw [show Txt.split (Str.ofString "running") ⟨#[32]⟩=[Str.ofString "running"] from by decide +kernel];rfl),fun B H5 s5=>?_⟩)⟩⟩
    have s35:=s4.trans s5
    rA ⟨L,A,R,es,c,⟨dk3.up s35,Xx (tk3.up s35) (rl3.up s35),ok.l,ok.g,ok.p,tk3.up s35⟩,fun p2 H6 sm tk6 stb2=>?_⟩
    obtain rfl:=Qm stb2 stb
    have sm36:Mf (Bn K) H3 H6:=fun b o n e=>sm b o n (s35 b o e)
    have sm16:Mf (Bn K) H1 H6:=fun b o n e=>sm36 b o n (sm3 b o n e)
    obtain ⟨k1,k2⟩:=Ue sm36 tk3
    have eW6:=k1 _ _ eW
    have aW6:=aW.imp fun v g r=>N5 v g _ _ k2 r
    rA ⟨rfl,W,rfl,⟨_,A3.of eW6⟩,Cf Ln N5 (fun _ s y=>y=V.str (X7 s)) (fun _ _ _ _ _ h=>h) (by rw [aW.len];omega) (A3.of eW6) aW6 ?_ ?_⟩
    ·intro v s H7 hM hs s7 P' hP
     obtain ⟨t,q,rfl,e1,e2⟩:=hM
     have o:=(okr s hs).1
     have lF:=Oq o
     have n8:=o.n8
     have lb:(Str.ofString " ").length=1:=by decide +kernel
     have big:(1000:Nat)≤sizeLine:=by decide
     eC ⟨t,_,rfl,Ec.of e1,rfl,_,_,rfl,_,_,rfl,rfl,rfl,by omega,_,⟨e2,f5r s hs⟩,by rw [Bf];omega,hP _ H7 (Ah.refl _) rfl⟩
    intro D2 H7 ys s7 _ e7 a7
    rw [O9 a7] at e7
    have ej:Txt.join (Str.ofString "; ") ((El (es.map (·.2)) p2).map X7)=Str.join Qw ((El (es.map (·.2)) p2).map X7):=Dn (Jw _ _)
    have lw:∀w∈(El (es.map (·.2)) p2).map X7,w.length≤1000:=fun w hw=>by
     obtain ⟨s,hs,rfl⟩:=BG.mp hw
     have h1:=Oq (okr s hs).1
     have h2:=(okr s hs).1.n8
     unfold X7
     rw [Bf,Bf,show (Str.ofString " ").length=1 from by decide +kernel]
     omega
    obtain ⟨o1,o2⟩:=Ab8 (l:=El (es.map (·.2)) p2) (f:=X7) fun s hs=>by
     unfold X7
     rw [Bf,Bf,show (Str.ofString " ").length=1 from by decide +kernel]
     omega
    have sm17:Mf (Bn K) H1 H7:=fun b o n e=>s7 b o (sm16 b o n e)
    have st7:StP K Z T D P H1 (El (es.map (·.2)) p2) [some (.ref Z),some (.ref T),some (.ref D),some (.ref P),some (.ref W),none,none,none,none] H7:=⟨W,vs,rfl,sm17,tk6.up s7,s7 _ _ eW6,aW6.imp fun v g r=>N5 v g _ _ (Be s7) r⟩
    rA ⟨_,A3.of e7,Akv lw (by rw [AE];omega),?_⟩
    rw [ej]
    rA ⟨?_,fun hne=>⟨fun h=>?_,fun _=>st7⟩,fun he=>⟨fun h=>?_,fun _=>st7⟩⟩
    ·have:=Nh lw
     rw [AE] at this
     have big:(1000000:Nat)≤sizeLine:=by decide
     have:(El (es.map (·.2)) p2).length*(1000+2)≤8*1002:=Nat.mul_le_mul_right _ lr
     omega
    ·unfold Air at h
     rw [o1 hne,AQ rfl] at h
     eC nb h
    ·unfold Air at h
     rw [o2 he,AQ rfl] at h
     eC nb h
   clear sm3 tk3 eW aW W vs H3
   rintro σ H3 ⟨W,vs,rfl,sm3,tk3,eW,aW⟩
   have nmr:(El (es.map (·.2)) p).map (·.1)=Ge (es.map (·.2)):=by
    unfold El
    rw [EV]
    eC List.map_id' _
   rA ⟨StP K Z T D P H1 (El (es.map (·.2)) p),?_,?_⟩
   ·rA ⟨W,rfl,⟨_,A3.of eW⟩,Cf Ln N5 (fun _ s y=>y=V.str (s:Str×Q2).1) (fun _ _ _ _ _ h=>h) (by rw [aW.len];omega) (A3.of eW) aW ?_ ?_⟩
    ·intro v s H7 hM hs s7 P' hP
     obtain ⟨t,q,rfl,e1,e2⟩:=hM
     eC ⟨t,_,rfl,Ec.of e1,rfl,_,_,rfl,_,_,rfl,rfl,rfl,hP _ H7 (Ah.refl _) rfl⟩
    intro D2 H4 ys s4 _ e4 a4
    have ey:ys=((El (es.map (·.2)) p).map (·.1)).map V.str:=by
     clear okr f5r lr nmr eW aW e4
     generalize El (es.map (·.2)) p=ss at a4
     induction a4 with
     |nil=>rfl
     |cons h _ ih=>rw [h,ih];rfl
    rw [ey,nmr] at e4
    have sm14:Mf (Bn K) H1 H4:=fun b o n e=>s4 b o (sm3 b o n e)
    obtain ⟨k1,k2⟩:=Ue sm14 tk1
    rA ⟨pg (es.map (·.2)) p,⟨⟨ws,A3.of (k1 _ _ eD),aD.imp fun v g r=>Cw v g _ _ k2 r,by omega⟩,by rw [Kb stb];have:=ok.p;omega⟩,fun D5 H5 s5 _ e5=>?_⟩
    rw [Kb stb] at e5
    have sh:SeqAt.shaped (.list ((Ge (es.map (·.2))).map PyData.str))=true:=Ajd fun x hx=>by
     rw [←nmr] at hx
     obtain ⟨s,hs,rfl⟩:=BG.mp hx
     eC (okr s hs).2
    have s45:=s4.trans s5
    rA ⟨_,_,Abj (A3.of (s5 _ _ e4)),Abj (A3.of e5),sh,sh,⟨fun h=>?_,fun _=>⟨W,vs,rfl,fun b o n e=>s5 b o (sm14 b o n e),tk3.up s45,s45 _ _ eW,aW.imp fun v g r=>N5 v g _ _ (Be s45) r⟩⟩⟩
    rw [Yy sh] at h
    eC nb h
   clear sm3 tk3 eW aW W vs H3
   rintro σ H3 ⟨W,vs,rfl,sm3,tk3,eW,aW⟩
   have zs:((El (es.map (·.2)) p).map fun s=>zz s.2).sum=7500*(El (es.map (·.2)) p).length:=by
    unfold El
    rw [EV,AE]
    have:=Aaw (l:=Ge (es.map (·.2))) (Fd (C8 _)) (pg (es.map (·.2)) p) (fun _=>none) 7500 (fun g hg=>⟨⟨(okg g hg).h0,(okg g hg).h1⟩,(okg g hg).ne⟩) (fun g hg=>?_) (fun y=>⟨by decide,⟨7500,by decide,by decide,by decide⟩,by decide⟩)
    ·eC this.trans (Aci _)
    ·rw [←Kb stb]
     eC ⟨Cy.mpr ⟨g,hg,.inl rfl⟩,Cy.mpr ⟨g,hg,.inr rfl⟩⟩
   have lvs:vs.length=(El (es.map (·.2)) p).length:=aW.len
   generalize El (es.map (·.2)) p=ss at aW f5r lr zs lvs
   rA ⟨W,rfl,⟨_,A3.of eW⟩,L3 (K:=K) (a:=W) (xs:=vs) (fun i σ Hx=>∃(t b:Int) (o7 o8:Option V),σ=[some (.ref Z),some (.ref T),some (.ref D),some (.ref P),some (.ref W),some (.int t),some (.int b),o7,o8]∧Hx=H3∧i≤vs.length∧0<b∧Bd (1+3*i) b∧Bd (30+4*i) t∧5*t=((ss.take i).map fun s=>zz s.2).sum*b) ⟨0,1,_,_,rfl,rfl,AV _,by decide,A2 rfl,A2 rfl,rfl⟩ (fun i σ Hx _ ⟨_,_,_,_,_,e,_⟩=>e▸A3.of eW) ?_ ?_⟩
   ·rintro i v σ Hx hv ⟨t,b,o7,o8,rfl,rfl,il,b0,bb,bt,et⟩
    obtain ⟨s,hs,t',q,rfl,e1,e2⟩:=aW.get hv
    have f5:=f5r s (BH hs)
    obtain ⟨z1,z2,z3⟩:=f5.zz
    obtain ⟨q5,q6,q7⟩:=f5.small
    have p:=f5.pos
    have il:i<vs.length:=(BI.mp hv).1
    have b3:Bd 3 s.2.2:=Dt (b:=5) #o q5 (A2 rfl)
    have b14:Bd 14 s.2.1:=Dt (b:=13900) q6 q7 (A2 rfl)
    have m1:=bt.mul b3
    have m2:=b14.mul bb
    rA ⟨t',_,rfl,Ec.of e1,rfl,_,_,rfl,_,_,rfl,rfl,_,e2,Xz bt b3 #o #o,_,e2,Xz b14 bb #o #o,_,e2,Xz bb b3 #o #o,_,_,_,_,rfl,rfl,il,EB b0 p,(bb.mul b3).mono #o,(m1.add (m2.mono #o)).mono #o,?_⟩
    rw [CI,hs,CB,List.sum_append]
    show 5*(t*s.2.2+s.2.1*b)=(_+(zz s.2+0))*(b*s.2.2)
    rw [Int.add_zero,Int.mul_add,←BD,et,←BD,z1,Int.add_mul,BD,BD,ED s.2.2 b]
   ·rintro σ Hx ⟨t,b,o7,o8,rfl,rfl,il,b0,bb,bt,et⟩
    have bl:Bd 10 (vs.length:Int):=Dt (b:=8) #o #o (A2 rfl)
    have b15:Bd 11 (1500:Int):=A2 rfl
    rA ⟨_,.inl (A3.of eW),Xz b15 bl #o #o,Xz (b15.mul bl) bb #o #o,?_⟩
    rw [EA #o,zs] at et
    have:t=1500*(vs.length:Int)*b:=by
     rw [lvs]
     apply Int.eq_of_mul_eq_mul_left (show (5:Int)≠0 by decide)
     rw [et,←BD,←BD]
     rfl
    show Q (.bl (decide (t=1500*(vs.length:Int)*b))) Hx
    rw [AQ this]
    eC k _ (fun b o n e=>sm3 b o n (s1 b o e)) tk3
theorem Aqr {H:Hp}{vs:List V}{es:List En}(h:Az (Qu H) vs es):Az (Apa H) vs es:=h.imp fun v e r=>by
 obtain ⟨t,p,e1,h1,q,e2,h2⟩:=r
 cases e2
 eC ⟨t,p,e1,h1,h2⟩
theorem Ala {K:KKf}{L A R T a:Addr}{H H':Hp}{es:List En}{last:Int}{pos:Pos}{q:Str}{xs:List V}(f:O0 L A T H H')(lg:Fv K H L A R es last)(tk:Av H T pos q)(h:A3 K H a xs):A3 K H' a xs:=by
 obtain ⟨C,dx,fs,eL,_,_,kvs,eA,_⟩:=lg
 obtain ⟨ps,eT,_⟩:=tk
 rcases h with (h|⟨ob,h⟩)|h
 ·eC .inl (.inl (f _ _ (fun z=>by rw [z,eL] at h;cases h) (fun z=>by rw [z,eA] at h;cases h) (fun z=>by rw [z,eT] at h;cases h) h))
 ·eC .inl (.inr ⟨ob,f _ _ (fun z=>by rw [z,eL] at h;cases h) (fun z=>by rw [z,eA] at h;cases h) (fun z=>by rw [z,eT] at h;cases h) h⟩)
 ·eC .inr h
theorem Q9.snoc {nm:List Str}{es:List En}{c:Int}{g:Gm}(ok:Q9 nm es c)(hc:c+1<1000)(ga:g.a∈nm)(gb:g.b∈nm)(o:GO g)(f:Q8 es g):Q9 nm (es++[(c+1,g)]) (c+1):=by
 have c0:=ok.c0
 rA ⟨Ajh ok.e ga gb,?_,ok.n,fun x hx=>?_,?_,by omega,hc,fun x hx=>?_⟩
 ·rw [AM]
  eC f.1
 ·rcases BV.mp hx with hx|hx
  ·eC ok.g x hx
  ·rw [AW.mp hx]
   eC o
 ·rw [CB]
  eC f.2
 ·rcases BV.mp hx with hx|hx
  ·eC ok.z x hx
  ·rw [AW.mp hx]
   show 1≤c+1
   omega
theorem Aax {nm:List Str}{es:List En}{c n:Int}(ok:Q9 nm es c):Q9 nm (wo es n) c:=by
 have sub:∀e∈wo es n,e∈es:=fun e he=>(FG.mp he).1
 eC ⟨⟨ok.e.inc.sublist List.filter_sublist,fun e he=>ok.e.le e (sub e he),fun e he=>ok.e.mem e (sub e he)⟩,AO (CZ _ _) ok.l,ok.n,fun x hx=>ok.g x (sub x hx),AO (G9 (Fd (C8 _)) fun x hx=>by
  obtain ⟨g,hg,h⟩:=Cy.mp hx
  obtain ⟨e,he,rfl⟩:=BG.mp hg
  eC Cy.mpr ⟨e.2,BG.mpr ⟨e,sub e he,rfl⟩,h⟩) ok.p,ok.c0,ok.c1,fun x hx=>ok.z x (sub x hx)⟩
structure Tn (K:KKf)(ns:List Int)(a NA:Addr)(nm:List Str)(H:Hp)(Z L A R T:Addr)(es:List En)(c:Int):Prop where
 dk:Di K H Z L A R es c
 th:Hj H T es
 ok:Q9 nm es c
 rl:P4 K H R 0 32 1500 0 0 C7
 n:R≠L
 tk:Av H (Bn K) Bu Em
 na:H NA=some (.lst (nm.map V.str))
 s:A3 K H a (ns.map V.int)
theorem Tn.up {K:KKf}{ns:List Int}{a NA:Addr}{nm:List Str}{H H':Hp}{Z L A R T:Addr}{es:List En}{c:Int}(s:Ah H H')(h:Tn K ns a NA nm H Z L A R T es c):Tn K ns a NA nm H' Z L A R T es c:=⟨h.dk.up s,h.th.up s,h.ok,h.rl.up s,h.n,h.tk.up s,s _ _ h.na,s.seq h.s⟩
theorem Tn.fr {K:KKf}{ns:List Int}{a NA:Addr}{nm:List Str}{H H':Hp}{Z L A R T T':Addr}{es es':List En}{c c':Int}(f:O0 L A (Bn K) H H')(h:Tn K ns a NA nm H Z L A R T es c)(dk:Di K H' Z L A R es' c')(th:Hj H' T' es')(ok:Q9 nm es' c')(tk:Av H' (Bn K) Bu Em):Tn K ns a NA nm H' Z L A R T' es' c':=⟨dk,th,ok,P4.fr f h.dk.2.2 h.tk h.n h.rl,h.n,tk,(Oy f h.dk.2.2 h.tk).1 _ _ h.na,Ala f h.dk.2.2 h.tk h.s⟩
theorem Tn.sm {K:KKf}{ns:List Int}{a NA:Addr}{nm:List Str}{H H':Hp}{Z L A R T:Addr}{es:List En}{c:Int}(s:Mf (Bn K) H H')(tk:Av H' (Bn K) Bu Em)(h:Tn K ns a NA nm H Z L A R T es c):Tn K ns a NA nm H' Z L A R T es c:=h.fr (Abl s) (h.dk.sm s h.tk) (h.th.fr (Abl s) h.dk.2.2 h.tk) h.ok tk
theorem D6:Ai ["_law_script","_law_many","_law_names_here","_law_desk","_law_there","_law_count","_law_k","_law_cell","_law_right"] ["_law_script"] (Af J4):=⟨rfl,rfl,rfl,by decide +kernel,rfl,by decide +kernel,by decide +kernel⟩
theorem Anu (d:Bj K mg "law" J4 ["_law_script"])(er:#am)(n_range:mg "range"=none)(n_min:mg "min"=none)(n_len:mg "len"=none)  (c_l_stands:#bp)(c_l_cell_at:#bf)(c_l_put:#bm)(c_l_row:#bh)(c_l_taken:#bn)(c_Desk___init__:#a6)(c_l_names:#bg):Ba P w K mg base "law" ["_law_script"] 17 (W5 "in_order" K ns):=by
 rA d.cal (k:=16) D6 (fun vs H Q E h=>?_) (fun f cdv A outer s H vs Q E hr h=>?_)
 ·match vs,h with
  |[.ref a],_=>rfl
 ·match vs,h with
  | [.ref a],hq0=>
   obtain ⟨hS,hl,hb,hT,k⟩:=hq0
   rA ⟨_,(#h (#q (1) _ _ _ _ D6.nd rfl #t (#g Fx Ab (#g Eu (#b c_l_cell_at hr #d #r (#a (dv 0) (#a Ab Ac #r) #r) #d #r #r) Ab)) #r #t) (#h (#q (2) _ _ _ _ D6.nd rfl #t (#b c_l_names hr #d #r (#a (#b c_l_cell_at hr #d #r (#a (dv 0) (#a Ab Ac #r) #r) #d #r #r) (#a (dv 1) Ac #r) #r) #d #r #r) #r #t) (#h (#q (3) _ _ _ _ D6.nd rfl #t (@Ajb _ _ _ _ _ _ _ _ _ _ _ c_Desk___init__ (List.Mem.head _) er.m_Desk hr #d #r er.b_Desk #d) #r #t) (#h (#q (4) _ _ _ _ D6.nd rfl #t (#M Ac) #r #t) (#h (#q (5) _ _ _ _ D6.nd rfl #t Ab #r #t) (#h (#O DI rfl (@Ack _ _ _ _ _ _ _ #r n_range (#a Ab (#a (#l (@So _ rfl) #r n_min #k (#a (#l C9 #r n_len #k (#a (dv 0) Ac #r) #d #d #r #r) (#a Ab Ac #r) #r) #d #d #r #r) Ac #r) #r) #r #r) (#E (6) _ D6.nd rfl #t #t) (#h (#q (7) _ _ _ _ D6.nd rfl #t (#c Cn (dv 0) (dv 6) (fun _ _=>rfl)) #r #t) (#P (#m (@L2.PW.pt _ _ _ (#J (#n Ws (#g Eu (dv 7) Ab) Ab (#w #d #d)) (#S (@L2.PW.pt _ _ _ (#Z (#n (#ak hr.units) (dv 4) (#M Ac) (#w #d #d)) (#ai (#n Ws (#g Eu (dv 7) Ab) Ab (#w #d #d)))))))) (#i (@Z0 _ _ _ _ _ _ (#b c_l_put hr #d #r (#a (dv 3) (#a (dv 4) (#a (dv 5) (#a (#b c_l_row hr #d #r (#a (dv 7) (#a (dv 2) Ac #r) #r) #d #r #r) Ac #r) #r) #r) #r) #d #r #r) (#ah rfl (#L (#E (4) _ D6.nd rfl #t #t) (#L (#E (5) _ D6.nd rfl #t #t) (#L (#E (8) _ D6.nd rfl #t #t) Eb #r) #r) #r) #r #r) #r #r #r)) (#i (@Z0 _ _ _ _ _ _ (#b c_l_taken hr #d #r (#a (dv 3) (#a (dv 4) (#a (dv 5) (#a (dv 7) Ac #r) #r) #r) #r) #d #r #r) (#ah rfl (#L (#E (4) _ D6.nd rfl #t #t) (#L (#E (5) _ D6.nd rfl #t #t) (#L (#E (8) _ D6.nd rfl #t #t) Eb #r) #r) #r) #r #r) #r #r #r))) (#h (#m (#B (#D (dv 8) (by intro _;rfl))) (#i (#j Lv)) Aw) (#i (#m (@L2.PW.pt _ _ _ (#Z (#n Gg (dv 6) (#g Fx Ab (#g Eu (#b c_l_cell_at hr #d #r (#a (dv 0) (#a Ab Ac #r) #r) #d #r #r) Ab)) (#w #d #d)) (#ai (#B (#D (#b c_l_stands hr #d #r (#a (dv 3) (#a (dv 4) Ac #r) #r) #d #r #r) (by intro _;rfl)))))) (#i (#j Lv)) Aw))))) (by intro _;rfl)) (#i (#j (#b c_l_stands hr #d #r (#a (dv 3) (#a (dv 4) Ac #r) #r) #d #r #r))))))))),?_⟩
   have tk0:Av H (Bn K) Bu Em:=⟨#[],hT,trivial,.inl rfl⟩
   rA ⟨hS,by decide,fun c0=>⟨(by show (0:Int)<7;decide),hS,by decide,fun c1=>⟨⟨by omega,by omega⟩,fun NA nm H1 s1 _ e1 l1 nl=>?_⟩⟩⟩
   intro Z dz hz hdz nez
   have s2:=Lb (C:=c_Desk) hz hdz nez
   have e2:upd (upd H1 dz (.own Z)) Z (.ins c_Desk dz []) Z=some (.ins c_Desk dz []):=Ag
   generalize upd (upd H1 dz (.own Z)) Z (.ins c_Desk dz [])=H2 at s2 e2
   rA ⟨_,dz,⟨e2,er.y_Desk⟩,fun L A R H3 s3 nL nA nR nRL dk rl=>⟨rfl,?_⟩⟩
   have s13:Ah H1 H3:=U0 hz s2 s3
   rA fun T H4 s4 e4=>?_
   have t4:Tn K ns a NA nm H4 Z L A R T [] 0:=⟨dk.up s4,⟨[],e4,.nil⟩,⟨⟨.nil,fun e h=>by (cases h),fun e h=>by (cases h)⟩,by decide,by omega,fun e h=>by (cases h),by decide,by decide,by decide,fun e h=>by (cases h)⟩,rl.up s4,nRL,tk0.up (s1.trans (s13.trans s4)),(s13.trans s4) _ _ e1,(s1.trans (s13.trans s4)).seq hS⟩
   have n9:nm.length≤9:=by omega
   have n2:2≤nm.length:=by omega
   clear e1 e2 s1 s2 s3 s4 s13 tk0 hS hT hz hdz nez nL nA nR nRL dk rl e4
   rA ⟨_,.inl t4.s,_,_,rfl,_,_,rfl,?_⟩
   rw [AE]
   generalize hM:(if (46:Int)<(ns.length:Int) then (46:Int) else (ns.length:Int))=M
   have m1:M≤46:=by
    rw [←hM]
    split<;>omega
   have m2:M≤ns.length:=by
    rw [←hM]
    split<;>omega
   have m0:0≤M:=by
    rw [←hM]
    split<;>omega
   rA ⟨⟨by decide,by decide,by omega,by omega⟩,Rr (lo:=4) (n:=(M-4).toNat) (fun i σ H'=>∃(T:Addr) (es:List En) (c:Int) (o6 o7 o8:Option V),σ=[some (.ref a),some (.int (3+c0 % 7)),some (.ref NA),some (.ref Z),some (.ref T),some (.int c),o6,o7,o8]∧Tn K ns a NA nm H' Z L A R T es c∧c≤i) ⟨T,[],0,_,_,_,rfl,t4,by decide⟩ ?_ ?_⟩
   ·rintro i σ Hx hi ⟨T,es,c,o6,o7,o8,rfl,t,ci⟩
    have jl:4+i<ns.length:=by omega
    rA ⟨_,.int ns[4+i],t.s,A4 (j:=4+i) (by rw [BJ,AD jl];rfl),?_⟩
    generalize ns[4+i]=z
    rA ⟨fun σ H'=>∃(T:Addr) (es:List En) (c:Int),σ=[some (.ref a),some (.int (3+c0 % 7)),some (.ref NA),some (.ref Z),some (.ref T),some (.int c),some (.int (4+i)),some (.int z),some (.bl true)]∧Tn K ns a NA nm H' Z L A R T es c∧c≤i+1,?_,?_⟩
    ·have i42:i<42:=by omega
     rA ⟨by show (0:Int)<4;decide,⟨fun _=>⟨fun _=>?_,fun h=>nb h⟩,fun _=>fun T1 H1 s1 e1=>?_⟩⟩
     ·rA ⟨nm,⟨t.na,nl,n2,n9⟩,fun y g H2 s2 gm gg go=>⟨L,A,R,es,g,nm,⟨t.dk.up s2,t.th.up s2,t.ok,gm,gg.1,gg.2,go,t.tk.up s2⟩,fun r T' H3 es' c' fr e3 dk' th' hh tk'=>⟨r,_,rfl,Ec.of e3,rfl,_,_,rfl,_,_,rfl,_,_,rfl,rfl,T',es',c',rfl,(t.up s2).fr fr dk' th' ?_ tk',?_⟩⟩⟩
      ·rcases hh with ⟨rfl,rfl⟩|⟨f,rfl,rfl⟩
       ·eC t.ok
       ·eC t.ok.snoc #o gg.1 gg.2 go f
      ·rcases hh with ⟨_,rfl⟩|⟨_,_,rfl⟩<;>omega
     have t1:=t.up s1
     obtain ⟨vs,eT,al⟩:=t1.th
     rA ⟨_,_,.lst (A3.of eT) (Ag4 (Aqr al)),.lst (A3.of e1) .nil,Ap7 fun e he=>⟨(t.ok.g e he).na.sok,(t.ok.g e he).nb.sok⟩,rfl,⟨fun _=>⟨by show (0:Int)<8;decide,⟨fun _=>?_,fun _=>?_⟩⟩,fun _=>⟨fun h=>nb h,fun _=>?_⟩⟩⟩
     ·rA ⟨nm,⟨t1.na,nl,n2,n9⟩,fun y g H2 s2 gm gg go=>⟨L,A,R,es,g,nm,⟨t1.dk.up s2,t1.th.up s2,t1.ok,gm,gg.1,gg.2,go,t1.tk.up s2⟩,fun r T' H3 es' c' fr e3 dk' th' hh tk'=>⟨r,_,rfl,Ec.of e3,rfl,_,_,rfl,_,_,rfl,_,_,rfl,rfl,T',es',c',rfl,(t1.up s2).fr fr dk' th' ?_ tk',?_⟩⟩⟩
      ·rcases hh with ⟨rfl,rfl⟩|⟨f,rfl,rfl⟩
       ·eC t.ok
       ·eC t.ok.snoc #o gg.1 gg.2 go f
      ·rcases hh with ⟨_,rfl⟩|⟨_,_,rfl⟩<;>omega
     ·eC ⟨L,A,R,es,nm,⟨t1.dk,t1.th,t1.ok,t1.tk⟩,fun r T' H3 n fr e3 dk' th' tk'=>⟨r,_,rfl,Ec.of e3,rfl,_,_,rfl,_,_,rfl,_,_,rfl,rfl,T',_,c,rfl,t1.fr fr dk' th' (Aax t1.ok) tk',by omega⟩⟩
     ·eC ⟨L,A,R,es,nm,⟨t1.dk,t1.th,t1.ok,t1.tk⟩,fun r T' H3 n fr e3 dk' th' tk'=>⟨r,_,rfl,Ec.of e3,rfl,_,_,rfl,_,_,rfl,_,_,rfl,rfl,T',_,c,rfl,t1.fr fr dk' th' (Aax t1.ok) tk',by omega⟩⟩
    rintro σ H2 ⟨T,es,c,rfl,t,ci⟩
    rA ⟨fun h=>nb h,fun _=>⟨t.s,by decide,fun c2=>⟨by show (0:Int)<42;decide,⟨fun _=>⟨L,A,R,es,c,nm,⟨t.dk,t.th,t.ok,t.rl,t.n,t.tk⟩,fun H3 sm tk=>⟨fun h=>nb h,fun _=>⟨T,es,c,_,_,_,rfl,t.sm sm tk,ci⟩⟩⟩,fun _=>⟨fun h=>nb h,fun _=>⟨T,es,c,_,_,_,rfl,t,ci⟩⟩⟩⟩⟩⟩
   ·rintro σ Hx ⟨T,es,c,o6,o7,o8,rfl,t,ci⟩
    eC ⟨L,A,R,es,c,nm,⟨t.dk,t.th,t.ok,t.rl,t.n,t.tk⟩,fun H' _ _=>k H'⟩
end
theorem lenE1:∀us:List Value,us.length=1→∃y0:Value,us=[y0]
 |[y0],_=>⟨_,rfl⟩
theorem lenE2:∀us:List Value,us.length=2→∃y0 y1:Value,us=[y0,y1]
 |[y0,y1],_=>⟨_,_,rfl⟩
theorem lenE3:∀us:List Value,us.length=3→∃y0 y1 y2:Value,us=[y0,y1,y2]
 |[y0,y1,y2],_=>⟨_,_,_,rfl⟩
theorem lenE4:∀us:List Value,us.length=4→∃y0 y1 y2 y3:Value,us=[y0,y1,y2,y3]
 |[y0,y1,y2,y3],_=>⟨_,_,_,_,rfl⟩
theorem lenE5:∀us:List Value,us.length=5→∃y0 y1 y2 y3 y4:Value,us=[y0,y1,y2,y3,y4]
 |[y0,y1,y2,y3,y4],_=>⟨_,_,_,_,_,rfl⟩
theorem dmk {K:KKf}{h:Heap}{mg:Str→Option Value}{x:Str}{st:Stmt}{ps:List Str}{f:Addr}{od an:Option Addr}{sl:Array (Option Value)}{oc kV dc pm cd ct:Value}(X:K.In h)(G:h.Ns mainGlobals mg)(a:PySem.W.nsIn K mainGlobals x=some (some (.ref f)))(l:K.lookup f=some ⟨oc,od,.func (PySem.W.fnOf x x (Cd st) (Bt st) (Af st) .none kV dc pm an cd ct),sl⟩)(e:PySem.W.codeIn K cd x=true)(k:PySem.W.keepIn K (.ref f)=true)(hb:∀(kV doc pm:Value) (an:Option Addr) (cdv ct:Value) (us:List Value),us.length=ps.length→bindArgs (PySem.W.fnOf x x (Cd st) (Bt st) (Af st) .none kV doc pm an cdv ct) ⟨us,[]⟩=pure (ps.zip us)):Bj K mg x st ps:=⟨⟨_,_,Gd l e k,PySem.W.mg_of X G a,(Gd l e k).binds hb⟩⟩
theorem mmk {K:KKf}{x q:Str}{Cs Ds:List Addr}{st:Stmt}{ps:List Str}{f:Addr}{od an:Option Addr}{sl:Array (Option Value)}{oc kV dc pm cd ct:Value}(A:∀C∈Cs,Ad8 K C x f)(B:∀C∈Ds,PySem.W.findCls K (.ref C) (.type "type") x=some (.val (.ref f)))(l:K.lookup f=some ⟨oc,od,.func (PySem.W.fnOf x q (Cd st) (Bt st) (Af st) .none kV dc pm an cd ct),sl⟩)(e:PySem.W.codeIn K cd q=true)(k:PySem.W.keepIn K (.ref f)=true)(hb:∀(kV doc pm:Value) (an:Option Addr) (cdv ct:Value) (us:List Value),us.length=ps.length→bindArgs (PySem.W.fnOf x q (Cd st) (Bt st) (Af st) .none kV doc pm an cdv ct) ⟨us,[]⟩=pure (ps.zip us)):Ej K Cs Ds x q st ps:=⟨⟨_,_,Gd l e k,A,B,(Gd l e k).binds hb⟩⟩
theorem tup_mk {K:KKf}{a:Addr}{xs:List V}{us:Array Value}{n:Nat}{sl:Array (Option Value)}(p:K.lookup a=some ⟨.type "tuple",none,.seq us n,sl⟩)(h:us.size≤sizeLine)(q:A7 xs us.toList):B1 K a xs:=⟨fun H=>.inr ⟨_,_,_,p,rfl,rfl,h,q⟩,⟨_,p,rfl,rfl⟩⟩
theorem all_mk {l:PySem.W.OpenLaw}{w:World}{K:KKf}{h:Heap}{mg:Str→Option Value}{fa:Addr}{f18:Addr}{od18 an18:Option Addr}{sl18:Array (Option Value)}{oc18 kV18 dc18 pm18 ct18:Value}{f45:Addr}{od45 an45:Option Addr}{sl45:Array (Option Value)}{oc45 kV45 dc45 pm45 cd45 ct45:Value}{f46:Addr}{od46 an46:Option Addr}{sl46:Array (Option Value)}{oc46 kV46 dc46 pm46 cd46 ct46:Value}{f47:Addr}{od47 an47:Option Addr}{sl47:Array (Option Value)}{oc47 kV47 dc47 pm47 cd47 ct47:Value}{f48:Addr}{od48 an48:Option Addr}{sl48:Array (Option Value)}{oc48 kV48 dc48 pm48 cd48 ct48:Value}{f65:Addr}{od65 an65:Option Addr}{sl65:Array (Option Value)}{oc65 kV65 dc65 pm65 cd65 ct65:Value}{ts:List Addr}{cc tP:Addr}{vsC:Array Value}{clC:Value}{cdC:Option Addr}{slC:Array (Option Value)}{c_Desk c_LadderError c_Ledger c_NoBook c_NoGame c_NoRow c_Rule:Addr}{a_FIRST_ROW:Addr}{b_FIRST_ROW_1:Addr}{a_TABLE:Addr}{b_TABLE_0:Addr}{b_TABLE_0_1:Addr}{b_TABLE_1:Addr}{b_TABLE_1_1:Addr}{b_TABLE_2:Addr}{b_TABLE_2_1:Addr}{b_TABLE_3:Addr}{b_TABLE_3_1:Addr}{b_TABLE_4:Addr}{b_TABLE_4_1:Addr}{a_TEXT_ROWS:Addr}{g_put_game:Addr}{g_tell_tree:Addr}{g_tell_group:Addr}{a_WORDS:Addr}{a_WORD_ROWS:Addr}{b_WORD_ROWS_take:Addr}{b_WORD_ROWS_book:Addr}{b_WORD_ROWS_verdict:Addr}{b_WORD_ROWS_way:Addr}{b_WORD_ROWS_ends:Addr}{b_WORD_ROWS_rank:Addr}{b_WORD_ROWS_running:Addr}{b_WORD_ROWS_worth:Addr}{b_WORD_ROWS_take_1:Addr}{b_WORD_ROWS_take_1_0:Addr}{b_WORD_ROWS_book_1:Addr}{b_WORD_ROWS_running_1:Addr}{g_take_game:Addr}{g_tell_book:Addr}{g_tell_running:Addr}(X:K.In h)(G:h.Ns mainGlobals mg)(hfa:mg "law"=some (.ref fa))(d_is_whole:Bj K mg "is_whole" Kw ["thing"])(d_fraction:Bj K mg "fraction" Ke ["top","bottom"])(d_greatest_divisor:Bj K mg "greatest_divisor" Dq ["one","other"])(d_plus:Bj K mg "plus" Zc ["one","other"])(d_minus:Bj K mg "minus" U5 ["one","other"])(d_under:Bj K mg "under" Tv ["one","other"])(d_game:Bj K mg "game" Yh ["day","one","other","halves","side"])(d_is_between:Bj K mg "is_between" G3 ["thing","least","most"])(d_is_name:Bj K mg "is_name" Mp ["thing"])(d_read_game:Bj K mg "read_game" Iv ["text"])(d_is_number:Bj K mg "is_number" Ib ["word","longest"])(d_is_starred:Bj K mg "is_starred" Hb ["word"])(d_unstarred:Bj K mg "unstarred" Ij ["word"])(d_side_of:Bj K mg "side_of" M7 ["one","other"])(d_show_game:Bj K mg "show_game" Ig ["played"])(d_starred:Bj K mg "starred" Mr ["name","had_side"])(d_check_size:Bj K mg "check_size" Hi ["games"])(d_show_book:Bj K mg "show_book" Jc ["games"])(a18:PySem.W.nsIn K mainGlobals "in_order"=some (some (.ref f18)))(l18:K.lookup f18=some ⟨oc18,od18,.func (PySem.W.fnOf "in_order" "in_order" (Cd Dm) (Bt Dm) (Af Dm) .none kV18 dc18 pm18 an18 (.ref cc) ct18),sl18⟩)(e18:PySem.W.codeIn K (.ref cc) "in_order"=true)(k18:PySem.W.keepIn K (.ref f18)=true)(d_players:Bj K mg "players" M0 ["games"])(d_trail:Bj K mg "trail" To ["rule","games"])(d_next_step:Bj K mg "next_step" Ic ["rule","worths","days","played"])(d_rest_behind:Bj K mg "rest_behind" F7 ["days","day"])(d_move:Bj K mg "move" Zn ["worths","step"])(d_running:Bj K mg "running" Nq ["rule","games"])(d_Ledger___init__:Ej K [c_Ledger] [] "__init__" "Ledger.__init__" D9 ["self","rule"])(d_Ledger_put:Ej K [c_Ledger] [] "put" "Ledger.put" Hc ["self","played"])(d_Ledger_take:Ej K [c_Ledger] [] "take" "Ledger.take" F9 ["self","number"])(d_Ledger_games:Ej K [c_Ledger] [] "games" "Ledger.games" Fg ["self"])(d_Ledger_worths:Ej K [c_Ledger] [] "worths" "Ledger.worths" E1 ["self"])(d_reached:Bj K mg "reached" Nn ["kept","number"])(d_behind:Bj K mg "behind" Qc ["kept","number"])(d_table_of:Bj K mg "table_of" Ka ["rows"])(d_is_row:Bj K mg "is_row" O7 ["thing"])(d_is_pair:Bj K mg "is_pair" Nj ["thing"])(d_is_share:Bj K mg "is_share" Kz ["thing"])(d_goes_on:Bj K mg "goes_on" Nd ["row","later"])(d_share_by:Bj K mg "share_by" Fs ["table","difference"])(d_Rule___init__:Ej K [c_Rule] [] "__init__" "Rule.__init__" E3 ["self","step","first","table"])(d_Rule_size:Ej K [c_Rule] [] "size" "Rule.size" Il ["self","played","rest"])(d_Rule_bit:Ej K [c_Rule] [] "bit" "Rule.bit" Kq ["self","difference","halves","played","rest"])(d_Rule_twin:Ej K [c_Rule] [] "twin" "Rule.twin" Im ["self"])(d_uncut_bit:Bj K mg "uncut_bit" Ie ["size","share","halves"])(d_show_fraction:Bj K mg "show_fraction" E5 ["one"])(d_show_number:Bj K mg "show_number" Gb ["number"])(a45:PySem.W.nsIn K mainGlobals "put_game"=some (some (.ref f45)))(l45:K.lookup f45=some ⟨oc45,od45,.func (PySem.W.fnOf "put_game" "put_game" (Cd Dr) (Bt Dr) (Af Dr) .none kV45 dc45 pm45 an45 cd45 ct45),sl45⟩)(e45:PySem.W.codeIn K cd45 "put_game"=true)(k45:PySem.W.keepIn K (.ref f45)=true)(a46:PySem.W.nsIn K mainGlobals "take_game"=some (some (.ref f46)))(l46:K.lookup f46=some ⟨oc46,od46,.func (PySem.W.fnOf "take_game" "take_game" (Cd Cz) (Bt Cz) (Af Cz) .none kV46 dc46 pm46 an46 cd46 ct46),sl46⟩)(e46:PySem.W.codeIn K cd46 "take_game"=true)(k46:PySem.W.keepIn K (.ref f46)=true)(a47:PySem.W.nsIn K mainGlobals "tell_book"=some (some (.ref f47)))(l47:K.lookup f47=some ⟨oc47,od47,.func (PySem.W.fnOf "tell_book" "tell_book" (Cd C4) (Bt C4) (Af C4) .none kV47 dc47 pm47 an47 cd47 ct47),sl47⟩)(e47:PySem.W.codeIn K cd47 "tell_book"=true)(k47:PySem.W.keepIn K (.ref f47)=true)(a48:PySem.W.nsIn K mainGlobals "tell_running"=some (some (.ref f48)))(l48:K.lookup f48=some ⟨oc48,od48,.func (PySem.W.fnOf "tell_running" "tell_running" (Cd B2) (Bt B2) (Af B2) .none kV48 dc48 pm48 an48 cd48 ct48),sl48⟩)(e48:PySem.W.codeIn K cd48 "tell_running"=true)(k48:PySem.W.keepIn K (.ref f48)=true)(d_show_pairs:Bj K mg "show_pairs" G1 ["pairs"])(d_Desk___init__:Ej K [c_Desk] [] "__init__" "Desk.__init__" E4 ["self"])(d_Desk_say:Ej K [c_Desk] [] "say" "Desk.say" Kh ["self","row"])(d_answer_words:Bj K mg "answer_words" Fi ["desk","words"])(d_read_thing:Bj K mg "read_thing" Gz ["word","pair"])(d_l_cell_at:Bj K mg "_law_cell_at" Ja ["_law_script","_law_k"])(d_l_names:Bj K mg "_law_names" Mn ["_law_cell","_law_many"])(d_l_row:Bj K mg "_law_row" Uv ["_law_cell","_law_names_here"])(d_l_written:Bj K mg "_law_written" Ji ["_law_row_here"])(d_l_asked:Bj K mg "_law_asked" Nc ["_law_desk","_law_row_here"])(d_l_players:Bj K mg "_law_players" Jn ["_law_rows"])(d_l_by_days:Bj K mg "_law_by_days" Jg ["_law_there"])(d_l_put:Bj K mg "_law_put" Tj ["_law_desk","_law_there","_law_count","_law_row_here"])(d_l_taken:Bj K mg "_law_taken" Mw ["_law_desk","_law_there","_law_count","_law_cell"])(d_l_fraction:Bj K mg "_law_fraction" G2 ["_law_one"])(d_l_stands:Bj K mg "_law_stands" Kv ["_law_desk","_law_there"])(a65:PySem.W.nsIn K mainGlobals "law"=some (some (.ref f65)))(l65:K.lookup f65=some ⟨oc65,od65,.func (PySem.W.fnOf "law" "law" (Cd J4) (Bt J4) (Af J4) .none kV65 dc65 pm65 an65 cd65 ct65),sl65⟩)(e65:PySem.W.codeIn K cd65 "law"=true)(k65:PySem.W.keepIn K (.ref f65)=true)(t1:K.lookup cc=some ⟨clC,cdC,.fields vsC,slC⟩)(t2:(vsC[11]?:Option Value)=some (.ref tP))(t3:PySem.W.codeHdIn K cc tP=true)(t4:K.lookup tP=none)(t8:tP∈ts)(er:#am)(n_abs:mg "abs"=none)(n_all:mg "all"=none)(n_bool:mg "bool"=none)(n_int:mg "int"=none)(n_isinstance:mg "isinstance"=none)(n_len:mg "len"=none)(n_list:mg "list"=none)(n_max:mg "max"=none)(n_min:mg "min"=none)(n_range:mg "range"=none)(n_reversed:mg "reversed"=none)(n_set:mg "set"=none)(n_sorted:mg "sorted"=none)(n_str:mg "str"=none)(n_tuple:mg "tuple"=none)(n_zip:mg "zip"=none)(v_FIGURES:Gv mg "FIGURES" (.str "0123456789"))(v_FIRST_ROW:Gv mg "FIRST_ROW" (.ref a_FIRST_ROW))(w_FIRST_ROW:B1 K a_FIRST_ROW [.int (0),.ref b_FIRST_ROW_1])(w_FIRST_ROW_1:B1 K b_FIRST_ROW_1 [.int (1),.int (2)])(v_FIRST_WORTH:Gv mg "FIRST_WORTH" (.int (1500)))(v_LAST_DAY:Gv mg "LAST_DAY" (.int (9999)))(v_LAST_FROM:Gv mg "LAST_FROM" (.int (1000000)))(v_LETTERS:Gv mg "LETTERS" (.str "abcdefghijklmnopqrstuvwxyz"))(v_LONGEST_DAY:Gv mg "LONGEST_DAY" (.int (4)))(v_LONGEST_NAME:Gv mg "LONGEST_NAME" (.int (8)))(v_LONGEST_NUMBER:Gv mg "LONGEST_NUMBER" (.int (6)))(v_MOST_GAMES:Gv mg "MOST_GAMES" (.int (40)))(v_MOST_PART:Gv mg "MOST_PART" (.int (9999)))(v_MOST_PLAYERS:Gv mg "MOST_PLAYERS" (.int (8)))(v_MOST_ROWS:Gv mg "MOST_ROWS" (.int (10)))(v_PARTING:Gv mg "PARTING" (.str "; "))(v_STEP:Gv mg "STEP" (.int (32)))(v_TABLE:Gv mg "TABLE" (.ref a_TABLE))(w_TABLE:B1 K a_TABLE [.ref b_TABLE_0,.ref b_TABLE_1,.ref b_TABLE_2,.ref b_TABLE_3,.ref b_TABLE_4])(w_TABLE_0:B1 K b_TABLE_0 [.int (0),.ref b_TABLE_0_1])(w_TABLE_0_1:B1 K b_TABLE_0_1 [.int (1),.int (2)])(w_TABLE_1:B1 K b_TABLE_1 [.int (60),.ref b_TABLE_1_1])(w_TABLE_1_1:B1 K b_TABLE_1_1 [.int (3),.int (5)])(w_TABLE_2:B1 K b_TABLE_2 [.int (160),.ref b_TABLE_2_1])(w_TABLE_2_1:B1 K b_TABLE_2_1 [.int (7),.int (10)])(w_TABLE_3:B1 K b_TABLE_3 [.int (280),.ref b_TABLE_3_1])(w_TABLE_3_1:B1 K b_TABLE_3_1 [.int (4),.int (5)])(w_TABLE_4:B1 K b_TABLE_4 [.int (460),.ref b_TABLE_4_1])(w_TABLE_4_1:B1 K b_TABLE_4_1 [.int (9),.int (10)])(v_TEXT_ROWS:Gv mg "TEXT_ROWS" (.ref a_TEXT_ROWS))(w_TEXT_ROWS:Ol l.prog w K a_TEXT_ROWS [(.inr "put",.ref g_put_game),(.inr "tree",.ref g_tell_tree),(.inr "group",.ref g_tell_group)])(z_put_game:PySem.W.nsIn K mainGlobals "put_game"=some (some (.ref g_put_game)))(v_WORDS:Gv mg "WORDS" (.ref a_WORDS))(w_WORDS:B1 K a_WORDS [.str "lost",.str "drew",.str "beat"])(v_WORD_ROWS:Gv mg "WORD_ROWS" (.ref a_WORD_ROWS))(w_WORD_ROWS:Ol l.prog w K a_WORD_ROWS [(.inr "take",.ref b_WORD_ROWS_take),(.inr "book",.ref b_WORD_ROWS_book),(.inr "verdict",.ref b_WORD_ROWS_verdict),(.inr "way",.ref b_WORD_ROWS_way),(.inr "ends",.ref b_WORD_ROWS_ends),(.inr "rank",.ref b_WORD_ROWS_rank),(.inr "running",.ref b_WORD_ROWS_running),(.inr "worth",.ref b_WORD_ROWS_worth)])(w_WORD_ROWS_take:B1 K b_WORD_ROWS_take [.ref g_take_game,.ref b_WORD_ROWS_take_1])(w_WORD_ROWS_take_1:B1 K b_WORD_ROWS_take_1 [.ref b_WORD_ROWS_take_1_0])(w_WORD_ROWS_take_1_0:B1 K b_WORD_ROWS_take_1_0 [.int (0),.int (999999)])(w_WORD_ROWS_book:B1 K b_WORD_ROWS_book [.ref g_tell_book,.ref b_WORD_ROWS_book_1])(w_WORD_ROWS_book_1:B1 K b_WORD_ROWS_book_1 [])(w_WORD_ROWS_running:B1 K b_WORD_ROWS_running [.ref g_tell_running,.ref b_WORD_ROWS_running_1])(w_WORD_ROWS_running_1:B1 K b_WORD_ROWS_running_1 [])(z_take_game:PySem.W.nsIn K mainGlobals "take_game"=some (some (.ref g_take_game)))(z_tell_book:PySem.W.nsIn K mainGlobals "tell_book"=some (some (.ref g_tell_book)))(z_tell_running:PySem.W.nsIn K mainGlobals "tell_running"=some (some (.ref g_tell_running))) :
  (∃c P,PySem.W.tabIn K "in_order"=some (c,P)∧PySem.W.codeHdIn K c P=true∧K.lookup P=none∧P∈ts)∧∃fd:FuncData,(∀(s:Shared) (v:Value),BindsTo s fd ⟨[v],[]⟩ [("_law_script",v)])∧∀base:Heap,K.In base→base.Ns mainGlobals mg→BmB mg base→Gy l.prog w K mg base (Ew l.prog w) 17 fa fd ["_law_script"] (Js "in_order" K):=by
 have F18:=Gd (st:=Dm) l18 e18 k18
 have d_in_order:Bj K mg "in_order" Dm ["games"]:=⟨⟨_,_,F18,PySem.W.mg_of X G a18,F18.binds fun _ _ _ _ _ _ us hl=>by obtain ⟨_,rfl⟩:=lenE1 us hl;rfl⟩⟩
 have F45:=Gd (st:=Dr) l45 e45 k45
 have d_put_game:Bj K mg "put_game" Dr ["desk","text"]:=⟨⟨_,_,F45,PySem.W.mg_of X G a45,F45.binds fun _ _ _ _ _ _ us hl=>by obtain ⟨_,_,rfl⟩:=lenE2 us hl;rfl⟩⟩
 have F46:=Gd (st:=Cz) l46 e46 k46
 have d_take_game:Bj K mg "take_game" Cz ["desk","things"]:=⟨⟨_,_,F46,PySem.W.mg_of X G a46,F46.binds fun _ _ _ _ _ _ us hl=>by obtain ⟨_,_,rfl⟩:=lenE2 us hl;rfl⟩⟩
 have F47:=Gd (st:=C4) l47 e47 k47
 have d_tell_book:Bj K mg "tell_book" C4 ["desk","things"]:=⟨⟨_,_,F47,PySem.W.mg_of X G a47,F47.binds fun _ _ _ _ _ _ us hl=>by obtain ⟨_,_,rfl⟩:=lenE2 us hl;rfl⟩⟩
 have F48:=Gd (st:=B2) l48 e48 k48
 have d_tell_running:Bj K mg "tell_running" B2 ["desk","things"]:=⟨⟨_,_,F48,PySem.W.mg_of X G a48,F48.binds fun _ _ _ _ _ _ us hl=>by obtain ⟨_,_,rfl⟩:=lenE2 us hl;rfl⟩⟩
 have F65:=Gd (st:=J4) l65 e65 k65
 have d_law:Bj K mg "law" J4 ["_law_script"]:=⟨⟨_,_,F65,PySem.W.mg_of X G a65,F65.binds fun _ _ _ _ _ _ us hl=>by obtain ⟨_,rfl⟩:=lenE1 us hl;rfl⟩⟩
 have v_put_game:FnV K mg "put_game":=⟨_,PySem.W.mg_of X G a45,a45⟩
 have v_take_game:FnV K mg "take_game":=⟨_,PySem.W.mg_of X G a46,a46⟩
 have v_tell_book:FnV K mg "tell_book":=⟨_,PySem.W.mg_of X G a47,a47⟩
 have v_tell_running:FnV K mg "tell_running":=⟨_,PySem.W.mg_of X G a48,a48⟩
 have e:=hfa.symm.trans (PySem.W.mg_of X G a65)
 cases e
 have tb:=Ak9 (x:="in_order") a18 l18 rfl t1 t2
 have tk:∀base,BmB mg base→Al3 K mg base "in_order":=fun base hbm=>⟨⟨_,_,_,_,_,cc,PySem.W.mg_of X G a18,l18,rfl,by rw [Ab3 tb];eC t3⟩,hbm⟩
 rA ⟨⟨_,_,tb,t3,t4,t8⟩,?_⟩
 rA ⟨PySem.W.fnOf "law" "law" (Cd J4) (Bt J4) (Af J4) .none kV65 dc65 pm65 an65 cd65 ct65,fun s v=>.of_eq rfl,fun base _ _ hbm=>Afi F65 (PySem.W.mg_of X G a65) fun ns=>?_⟩
 have c_is_whole:=X2 (P:=l.prog) (w:=w) (base:=base) (ns:=ns) d_is_whole er n_isinstance n_bool n_int
 have c_greatest_divisor:=Jz (P:=l.prog) (w:=w) (base:=base) (ns:=ns) d_greatest_divisor er n_abs
 have c_under:=Af1 (P:=l.prog) (w:=w) (base:=base) (ns:=ns) d_under er
 have c_is_name:=Yq (P:=l.prog) (w:=w) (base:=base) (ns:=ns) d_is_name er n_all n_len n_isinstance n_str v_LETTERS v_LONGEST_NAME
 have c_is_number:=Vk (P:=l.prog) (w:=w) (base:=base) (ns:=ns) d_is_number er n_all n_len v_FIGURES
 have c_is_starred:=Rh (P:=l.prog) (w:=w) (base:=base) (ns:=ns) d_is_starred er
 have c_starred:=Zj (P:=l.prog) (w:=w) (base:=base) (ns:=ns) d_starred er
 have c_players:=Y5 (P:=l.prog) (w:=w) (base:=base) (ns:=ns) d_players er n_sorted n_set
 have c_rest_behind:=Pp (P:=l.prog) (w:=w) (base:=base) (ns:=ns) d_rest_behind er
 have c_is_pair:=X9 (P:=l.prog) (w:=w) (base:=base) (ns:=ns) d_is_pair er n_len n_isinstance n_tuple
 have c_Rule_size:=U4 (P:=l.prog) (w:=w) (base:=base) (ns:=ns) d_Rule_size er
 have c_show_number:=Pj (P:=l.prog) (w:=w) (base:=base) (ns:=ns) d_show_number er n_str n_list n_reversed
 have c_l_cell_at:=Up (P:=l.prog) (w:=w) (base:=base) (ns:=ns) d_l_cell_at er n_len
 have c_l_names:=Z4 (P:=l.prog) (w:=w) (base:=base) (ns:=ns) d_l_names er n_range
 have c_l_row:=Afv (P:=l.prog) (w:=w) (base:=base) (ns:=ns) d_l_row er n_len
 have c_l_written:=Tq (P:=l.prog) (w:=w) (base:=base) (ns:=ns) d_l_written er n_str n_int
 have c_l_players:=Ti (P:=l.prog) (w:=w) (base:=base) (ns:=ns) d_l_players er n_sorted n_set
 have c_l_by_days:=S5 (P:=l.prog) (w:=w) (base:=base) (ns:=ns) d_l_by_days er n_sorted n_range n_len
 have c_l_fraction:=Ra (P:=l.prog) (w:=w) (base:=base) (ns:=ns) d_l_fraction er n_str
 have c_fraction:=Wk d_fraction er c_greatest_divisor c_is_whole
 have c_is_between:=Rl d_is_between er c_is_whole
 have c_unstarred:=Tt d_unstarred er c_is_starred
 have c_side_of:=Yo d_side_of er c_is_starred
 have c_show_game:=S8 d_show_game er v_WORDS w_WORDS c_starred
 have c_check_size:=Q5 d_check_size er n_len v_MOST_PLAYERS v_MOST_GAMES c_players
 have c_goes_on:=Yd d_goes_on er c_under
 have c_show_fraction:=Np d_show_fraction er n_abs c_show_number
 have c_read_thing:=Rk d_read_thing er n_int v_LONGEST_NUMBER c_is_number
 have c_plus:=Aht d_plus er c_fraction
 have c_minus:=Agm d_minus er c_fraction
 have c_game:=Aim d_game er v_LAST_DAY c_is_between c_is_name
 have c_show_book:=Uk d_show_book er v_PARTING c_show_game
 have c_in_order:=Wq (P:=l.prog) (w:=w) (base:=base) (ns:=ns) d_in_order (tk base hbm) er n_sorted
 have c_is_share:=Wo d_is_share er v_MOST_PART c_fraction c_is_between c_is_pair
 have c_uncut_bit:=Uz d_uncut_bit er c_fraction
 have c_show_pairs:=Rb d_show_pairs er v_PARTING c_show_fraction
 have c_read_game:=S9 d_read_game er n_int n_len n_isinstance n_str v_WORDS w_WORDS v_LONGEST_DAY c_game c_unstarred c_side_of c_is_starred c_is_number
 have c_move:=Ai9 d_move er c_minus c_plus
 have c_Ledger_games:=Oj d_Ledger_games er n_list c_in_order
 have c_behind:=Acn d_behind er c_in_order
 have c_is_row:=Ade d_is_row er v_LAST_FROM c_is_share c_is_between c_is_pair
 have c_reached:=Zq d_reached er n_sorted n_set n_list c_behind
 have c_table_of:=Xg d_table_of er n_list n_all n_zip n_len n_isinstance v_FIRST_ROW w_FIRST_ROW w_FIRST_ROW_1 v_MOST_ROWS c_goes_on c_is_row
 have c_tell_book:=Um d_tell_book er c_show_book c_Ledger_games
 have c_Ledger_put:=Rg d_Ledger_put er n_list c_reached c_check_size
 have c_Ledger_take:=Qf d_Ledger_take er c_reached
 have c_share_by:=Xu d_share_by er c_under c_minus
 have c_Rule___init__:=Mq d_Rule___init__ er c_table_of
 have c_Rule_bit:=Ww d_Rule_bit er c_uncut_bit c_share_by c_Rule_size
 have c_put_game:=Xt d_put_game er n_str c_Ledger_put c_read_game
 have c_take_game:=Vc d_take_game er c_Ledger_take
 have c_next_step:=Tg d_next_step er n_max n_min n_len c_Rule_bit c_minus c_rest_behind
 have c_Rule_twin:=Vi d_Rule_twin er c_Rule___init__
 have c_trail:=Aei d_trail er c_in_order c_move c_next_step
 have c_Ledger___init__:=K4 d_Ledger___init__ er c_Rule_twin
 have c_running:=Yc d_running er n_sorted c_trail c_move
 have c_Ledger_worths:=Mo d_Ledger_worths er c_running c_Ledger_games
 have c_Desk___init__:=Nl d_Desk___init__ er n_list v_TABLE w_TABLE w_TABLE_0 w_TABLE_0_1 w_TABLE_1 w_TABLE_1_1 w_TABLE_2 w_TABLE_2_1 w_TABLE_3 w_TABLE_3_1 w_TABLE_4 w_TABLE_4_1 v_FIRST_WORTH v_STEP c_Ledger___init__ c_Rule___init__
 have c_tell_running:=Om d_tell_running er c_show_pairs c_Ledger_worths
 have c_answer_words:=Oe d_answer_words er n_zip n_len v_tell_running v_tell_book v_take_game v_WORD_ROWS w_WORD_ROWS w_WORD_ROWS_take w_WORD_ROWS_take_1 w_WORD_ROWS_take_1_0 w_WORD_ROWS_book w_WORD_ROWS_book_1 w_WORD_ROWS_running w_WORD_ROWS_running_1 z_take_game z_tell_book z_tell_running c_tell_running c_tell_book c_take_game c_read_thing
 have c_Desk_say:=Xi d_Desk_say er n_isinstance n_str v_TEXT_ROWS w_TEXT_ROWS z_put_game v_put_game c_answer_words c_put_game
 have c_l_asked:=Yi d_l_asked er c_Desk_say
 have c_l_stands:=Vy d_l_stands er n_len c_l_players c_Desk_say c_l_fraction c_running c_Rule___init__ c_l_written c_l_by_days
 have c_l_put:=Ae1 d_l_put er n_str n_len c_l_players c_l_asked c_l_written
 have c_l_taken:=Ys d_l_taken er n_len n_str c_l_asked
 eC Anu d_law er n_range n_min n_len c_l_stands c_l_cell_at c_l_put c_l_row c_l_taken c_Desk___init__ c_l_names
theorem walk {ts:List Addr}{l:PySem.W.OpenLaw}{q:Program}{loose:List Str}{XP:(Str→Option Value)→Heap→Prop}{YP:World→Heap→Prop}{d:DefRec}{K:Params→KKf}(hn:l.most=some 63)(hdf:d.params.defaults=[])
  (hY:∀(w:World) (h:Heap),YP w h→(K w.params).In h)
  (hT:∀(w:World) (h:Heap),YP w h→∀P∈ts,h.get? P=some (PySem.W.tabObj #[]))
  (F:∀(w:World) (mg:Str→Option Value) (fa:Addr) (h:Heap),(K w.params).In h→h.Ns mainGlobals mg→mg d.name=some (.ref fa)→(∃c P,PySem.W.tabIn (K w.params) "in_order"=some (c,P)∧PySem.W.codeHdIn (K w.params) c P=true∧(K w.params).lookup P=none∧P∈ts) ∧
   ∃fd:FuncData,(∀(s:Shared) (u:Value),BindsTo s fd ⟨[u],[]⟩ [("_law_script",u)])∧∀base:Heap,(K w.params).In base→base.Ns mainGlobals mg→BmB mg base→Gy l.prog w (K w.params) mg base (Ew l.prog w) 17 fa fd ["_law_script"] (Js "in_order" (K w.params))) :
  PySem.W.WalkO q loose XP YP l.row.toRowW d [] (fun f vs=>PySem.call f vs):=
 Lw.walk_ofBT (y:="in_order") (n:=63) (k:=17) (x:="_law_script") (CX:=fun w=>Ew l.prog w) (sp:=fun w=>Js "in_order" (K w.params)) hn #d hdf ⟨rfl,by decide,by decide⟩ hY hT F (fun _ _ a ns hl hb hO hS=>⟨ns,a,rfl,hS,hl,hb,hO.1,fun _=>rfl⟩) fun _ _ _ _ _ z=>Aos z
end My
namespace PySem.W.Fast
def tw10463873537148831050:=0
def tw1162930717029011432:=0
def tw2150562461424944914:=0
def tw10007229796731833818:=0
def tw13180336066292643196:=0
def tw15317625274067313226:=0
def tw750377761078391535:=0
def tw15207114440485988574:=0
def tw9053839387312019506:=0
def tw8648703716957445015:=0
def tw9945867616037342762:=0
def tw15169910906382704675:=0
def tw14452687818723869992:=0
def tw13159032327323518057:=0
def tw9881656729241444959:=0
def tw4072089941389623763:=0
def tw2248515661026043062:=0
def tw7848350850046252370:=0
def tw1215871417100207839:=0
def tw15033269552990730615:=0
def tw3630979182303064092:=0
def tw8167161041611337432:=0
def tw13227129565283611341:=0
def tw15833393763577563462:=0
def tw7772717527028707920:=0
def tw5886274969661519902:=0
def tw16823226702107721731:=0
def tw10706825727903344204:=0
def tw8693170629757138351:=0
def tw3374902758227098317:=0
def tw3261219446915784487:=0
def tw2406457065276358956:=0
def tw118693539148193319:=0
def tw4911674423146549291:=0
def tw14333824734878963982:=0
def tw12603158557154959197:=0
def tw9615923651026069458:=0
def tw10389059837762873204:=0
def tw263582102526225710:=0
def tw8382672102985466143:=0
def tw12126068272701474460:=0
def tw17069814073279211595:=0
def tw7068266167167924049:=0
def tw7790655363861362145:=0
def tw8870906037179920815:=0
def tw1037114534739541996:=0
def tw4463147768120437150:=0
def tw6193640327124060718:=0
def tw10952083242713386252:=0
def tw6420124668652300488:=0
def tw12677259269032510517:=0
def tw5783240131407995962:=0
def tw14922626633369187879:=0
def tw7083805048674292034:=0
def tw2575112551294922561:=0
def tw18099544348674330413:=0
def tw17182221119021589030:=0
def tw3708906163133107190:=0
def tw14721111288377244165:=0
def tw2068211232185578864:=0
def tw2600377138502804560:=0
def tw10432774421348568600:=0
def tw16003915861688936671:=0
def tw12442952364561887242:=0
def tw10028937645883555248:=0
def tw2710846173548413024:=0
def tw12875702262524995137:=0
def tw8038274580363865691:=0
def tw11388701016912212848:=0
def tw6848388624528068854:=0
def tw3966284322107366134:=0
def tw14651769713437476145:=0
def tw13134759723818157564:=0
def tw12576305686204948397:=0
def tw14659845503416139378:=0
def tw13794557830112319103:=0
def tw3051278759539214653:=0
def tw7542275963537145932:=0
def tw832217837545893536:=0
def tw1607883642907587063:=0
def tw10043922197931998958:=0
def tw11486937251419250301:=0
def tw10789531542462607548:=0
def tw275341309565466616:=0
def tw4769633070665534209:=0
def tw11144389206185604851:=0
def tw2918461909618809670:=0
def tw17063156445956376117:=0
def tw6614522329757647694:=0
def tw2384869635058583349:=0
def tw11335979342024654487:=0
def tw9317294796106297012:=0
def tw3844161058492497745:=0
def tw12530518609873139921:=0
def tw3634968685554947184:=0
def tw14475476939204737571:=0
def tw16720112768543340133:=0
def tw8334012821260652296:=0
def tw1738176017171890968:=0
def tw1705832357999288977:=0
def tw15153238902303968288:=0
def tw6378881450000535101:=0
def tw8483938216050790161:=0
def tw8861806252311949578:=0
def tw7161446412721236619:=0
def tw6577838859518060017:=0
def tw14971827137700128856:=0
def tw15065526436280148923:=0
def tw2273109280507870390:=0
def tw13595781483961487520:=0
def tw12759161567153357065:=0
def tw1696447267566897196:=0
def tw3036542293075287572:=0
def tw14594576665347828699:=0
def tw2083801199369946401:=0
def tw15226408765339631263:=0
def tw2007962709070523915:=0
def tw4899787327452209990:=0
def tw14013476904881901832:=0
def tw9049895853039704893:=0
def tw17795679586677577231:=0
def tw18358459667721615522:=0
def tw9729561115310978353:=0
def tw6723214274482579198:=0
def tw12733023826758642802:=0
def tw2217487625850996827:=0
def tw15195438505901111049:=0
def tw15634714087269664016:=0
def tw15154617817539900473:=0
def tw13501735821460933478:=0
def tw4068831619776552702:=0
def tw11767544488759112864:=0
def tw12083343555762737136:=0
def tw9348795736431957638:=0
def tw9750496355784585759:=0
def tw12041928962054036199:=0
def tw8026812719013654885:=0
def tw18090031004912747580:=0
def tw2236622523787299620:=0
def tw15348986649101526802:=0
def tw8472213752834256803:=0
def tw11418519831979410858:=0
def tw7072702835010481124:=0
def tw10998845407618788696:=0
def tw12290834459453241615:=0
def tw1867420108105417359:=0
def tw7229792395726188902:=0
def tw6755696215430325030:=0
def tw10433364660466558766:=0
def tw4345170976961987663:=0
def tw8300047802141313892:=0
def tw5070282355990655505:=0
def tw13311398036346286665:=0
def tw15568056539478439214:=0
def tw8651106746597734779:=0
def tw14587999706175325171:=0
def tw12900699501780494313:=0
def tw5832741092704178535:=0
def tw16072756371834892416:=0
def tw4555684350333771012:=0
def tw8658389786681013589:=0
def tw6814683823762932618:=0
def tw8173538070607700437:=0
def tw16490428504693054094:=0
def tw4166048523107450207:=0
def tw15357315850221492009:=0
def tw17640865835269867813:=0
def tw11575679227032591686:=0
def tw5796810627619706612:=0
def tw1681235826233957187:=0
def tw2156391037675741216:=0
def tw17970970307882911180:=0
def tw18133052581699232895:=0
def tw7682222802539025558:=0
def tw13992654902969290391:=0
def tw4733423901632898783:=0
def tw260018649731553231:=0
def tw5016450336579791293:=0
def tw13051456990644699985:=0
def tw8623589387465317587:=0
def tw13571287355592797767:=0
def tw16167642989499681889:=0
def tw9687507002190412297:=0
def tw16268748157847410363:=0
def tw15986074463300792191:=0
def tw10030136452447646303:=0
def tw10393853665430784336:=0
def tw3419722387142573037:=0
def tw2206797271381684482:=0
def tw13215290845524014999:=0
def tw13864590193828559798:=0
def tw5147988480229453588:=0
def tw10338052109375689789:=0
def tw7176438075041589418:=0
def tw13928425230567207733:=0
def tw18281081576652608502:=0
def tw14530657816817639689:=0
def tw8621112647236134126:=0
def tw395566037819155937:=0
def tw16035672753461500233:=0
def tw7990726910741256831:=0
def tw3239593539437060171:=0
def tw1746015287486997287:=0
def tw1713677218646302494:=0
def tw15390868739705095640:=0
def tw10456104314960514198:=0
def tw1596112191869755233:=0
def tw2535916346449368452:=0
def tw10303014223076147901:=0
def tw16302470089776147756:=0
def tw5684327299013661085:=0
def tw8795487367224340949:=0
def tw16857190898215206482:=0
def tw1938086065990101177:=0
def tw16156006075868233500:=0
def tw14014663970137271703:=0
def tw17965922242245208697:=0
def tw7518636931456614279:=0
def tw5694152666798986553:=0
def tw13330423087644946399:=0
def tw292628977731763226:=0
def tw15543423693207849698:=0
def tw12037267825708453690:=0
def tw17723723884512795649:=0
def tw1115937504869345846:=0
def tw5805742574460186594:=0
def tw7331245664708558369:=0
def tw9306208873622021674:=0
def tw2714180330076958160:=0
def tw16164464179542340225:=0
def tw4855407733575207518:=0
def tw7305598425481912764:=0
def tw4325464883985681640:=0
def tw17429509470884269275:=0
def tw16298720617914281360:=0
def tw12497226689011036486:=0
def tw892866629450450897:=0
def tw4457297910224748208:=0
def tw5233972036388673319:=0
def tw12012309886831379017:=0
def tw13288129815862841421:=0
def tw2687342810275591137:=0
def tw11456810699657946912:=0
def tw8432658289799502209:=0
def tw16132846227690587896:=0
def tw7722329562799855960:=0
def tw8276370723461901568:=0
def tw7586965632452565583:=0
def tw14386770090172260588:=0
def tw16456143031532012196:=0
def tw10814500565569751716:=0
def tw511310471318399005:=0
def tw11529077730230557070:=0
def tw4912239632830140479:=0
def tw5623561002701239747:=0
def tw3484529843894724979:=0
def tw5139127738733965983:=0
def tw13867196080509753377:=0
def tw18434606543296554746:=0
def tw6797585112178589752:=0
def tw16126019041031617576:=0
def tw8091288095942424161:=0
def tw2454589137302747609:=0
def tw3666595765903489809:=0
def tw15431002983893249172:=0
def tw10151783719481658620:=0
def tw10215240505362369612:=0
def tw1551585231682903196:=0
def tw11212338915174443195:=0
def tw6292109320848974986:=0
def tw6614523057398089811:=0
def tw1788836573091463325:=0
def tw17564060322014394059:=0
def tw4931754576418089092:=0
def tw4493157012457666052:=0
def tw16193818280981252460:=0
def tw921402277471570165:=0
def tw12748251701343340280:=0
def tw4161019846386439067:=0
def tw3626793792950237845:=0
def tw17533782480868808655:=0
def tw1842366180650408666:=0
def tw4855144382217562229:=0
def tw14166643536446804389:=0
def tw14028134417249432960:=0
def tw11137157804946813137:=0
def tw2208032440108266793:=0
def tw7026065118083112226:=0
def tw11520722705027842589:=0
def tw16696581506021869906:=0
def tw11256666547582176396:=0
def tw231373440921851032:=0
def tw7892168604521614996:=0
def tw875860139403091682:=0
def tw15786067975693094656:=0
def tw17057377480921549737:=0
def tw13400141803075346813:=0
def tw1842383405300111942:=0
def tw3489479035292395874:=0
def tw3246989889808572368:=0
def tw5435711059419499499:=0
def tw18349313336212083265:=0
def tw868903987027701878:=0
def tw2436121141287748640:=0
def tw8503069871262486032:=0
def tw527618301884362692:=0
def tw1152033030824052686:=0
def tw6375758563281106727:=0
def tw9802489273270129262:=0
def tw13850187137102319332:=0
def tw3615122153203702749:=0
def tw3869811647047722439:=0
def tw457023530176026023:=0
def tw15674721977606181642:=0
def tw3636083721880854901:=0
def tw5605553751077861596:=0
def tw9101504863226327074:=0
def tw8005849868016335524:=0
def tw6176434768255725763:=0
def tw10645825407334451745:=0
def tw5984742597901513394:=0
def tw10880432215816841276:=0
def tw10814164161400115285:=0
end PySem.W.Fast
open PySem PySem.W PyProof.Rows
set_option maxRecDepth 100000 in
set_option maxHeartbeats 0 in
theorem PySem.Challenge.cw_ladderworth_k87_whole_put_and_taken_at_t_holds : PySem.Challenge.rw_ladderworth_k87_whole_put_and_taken_at_t.Holds := by
 w_on;o_law;k_head;(case hw=>w_witness2)
 k_fill
 refine My.walk (l:=PySem.Challenge.rw_ladderworth_k87_whole_put_and_taken_at_t) rfl rfl (fun w h Y=>PySem.W.km_in_of Y) (fun w h Y=>PySem.W.km_tabs_of Y) ?F
 case F=>
  intro w mg fa h KX G hmg
  refine' My.all_mk KX G hmg ?d0 ?d1 ?d2 ?d3 ?d4 ?d5 ?d6 ?d7 ?d8 ?d9 ?d10 ?d11 ?d12 ?d13 ?d14 ?d15 ?d16 ?d17 ?a18 ?l18 ?e18 ?k18 ?d19 ?d20 ?d21 ?d22 ?d23 ?d24 ?d25 ?d26 ?d27 ?d28 ?d29 ?d30 ?d31 ?d32 ?d33 ?d34 ?d35 ?d36 ?d37 ?d38 ?d39 ?d40 ?d41 ?d42 ?d43 ?d44 ?a45 ?l45 ?e45 ?k45 ?a46 ?l46 ?e46 ?k46 ?a47 ?l47 ?e47 ?k47 ?a48 ?l48 ?e48 ?k48 ?d49 ?d50 ?d51 ?d52 ?d53 ?d54 ?d55 ?d56 ?d57 ?d58 ?d59 ?d60 ?d61 ?d62 ?d63 ?d64 ?a65 ?l65 ?e65 ?k65 ?t1 ?t2 ?t3 ?t4 ?t8 ?er ?n_abs ?n_all ?n_bool ?n_int ?n_isinstance ?n_len ?n_list ?n_max ?n_min ?n_range ?n_reversed ?n_set ?n_sorted ?n_str ?n_tuple ?n_zip ?v_FIGURES ?v_FIRST_ROW ?w_FIRST_ROW ?w_FIRST_ROW_1 ?v_FIRST_WORTH ?v_LAST_DAY ?v_LAST_FROM ?v_LETTERS ?v_LONGEST_DAY ?v_LONGEST_NAME ?v_LONGEST_NUMBER ?v_MOST_GAMES ?v_MOST_PART ?v_MOST_PLAYERS ?v_MOST_ROWS ?v_PARTING ?v_STEP ?v_TABLE ?w_TABLE ?w_TABLE_0 ?w_TABLE_0_1 ?w_TABLE_1 ?w_TABLE_1_1 ?w_TABLE_2 ?w_TABLE_2_1 ?w_TABLE_3 ?w_TABLE_3_1 ?w_TABLE_4 ?w_TABLE_4_1 ?v_TEXT_ROWS ?w_TEXT_ROWS ?z_put_game ?v_WORDS ?w_WORDS ?v_WORD_ROWS ?w_WORD_ROWS ?w_WORD_ROWS_take ?w_WORD_ROWS_take_1 ?w_WORD_ROWS_take_1_0 ?w_WORD_ROWS_book ?w_WORD_ROWS_book_1 ?w_WORD_ROWS_running ?w_WORD_ROWS_running_1 ?z_take_game ?z_tell_book ?z_tell_running
  (case er=>
   refine' ⟨PySem.W.mg_of KX G ?_,PySem.W.mg_of KX G ?_,PySem.W.mg_of KX G ?_,PySem.W.mg_of KX G ?_,PySem.W.mg_of KX G ?_,PySem.W.mg_of KX G ?_,PySem.W.mg_of KX G ?_,?_,?_,⟨?_,?_,?_,?_,?_,?_⟩,⟨?_,?_,?_,?_,?_,?_⟩,⟨?_,?_,?_,?_,?_,?_⟩,?_,?_,?_,?_,⟨?_,?_,?_,?_⟩,⟨?_,?_⟩,?_,?_,?_,⟨?_,?_,?_,?_⟩,⟨?_,?_⟩,?_,?_,?_,?_,⟨?_,?_,?_,?_⟩,⟨?_,?_⟩,?_,?_,?_,?_,?_⟩
   all_goals (try unfold L2.NoAttr);try (first|k_is|k_exc|kernel_rfl))
  (case d0|d8|d9|d11|d12|d14|d16|d17|d19|d32|d33|d34|d35|d43|d44|d49|d57|d59|d60|d63=>refine' My.dmk KX G ?uA ?uL ?uE ?uK (fun _ _ _ _ _ _ us hl=>by obtain ⟨_,rfl⟩:=My.lenE1 us hl;rfl);(case uA|uL|uE|uK=>k_is))
  (case d1|d2|d3|d4|d5|d10|d13|d15|d20|d22|d23|d24|d30|d31|d36|d37|d52|d53|d54|d55|d56|d58|d64=>refine' My.dmk KX G ?uA ?uL ?uE ?uK (fun _ _ _ _ _ _ us hl=>by obtain ⟨_,_,rfl⟩:=My.lenE2 us hl;rfl);(case uA|uL|uE|uK=>k_is))
  (case d7|d42=>refine' My.dmk KX G ?uA ?uL ?uE ?uK (fun _ _ _ _ _ _ us hl=>by obtain ⟨_,_,_,rfl⟩:=My.lenE3 us hl;rfl);(case uA|uL|uE|uK=>k_is))
  (case d21|d61|d62=>refine' My.dmk KX G ?uA ?uL ?uE ?uK (fun _ _ _ _ _ _ us hl=>by obtain ⟨_,_,_,_,rfl⟩:=My.lenE4 us hl;rfl);(case uA|uL|uE|uK=>k_is))
  (case d6=>refine' My.dmk KX G ?uA ?uL ?uE ?uK (fun _ _ _ _ _ _ us hl=>by obtain ⟨_,_,_,_,_,rfl⟩:=My.lenE5 us hl;rfl);(case uA|uL|uE|uK=>k_is))
  (case d28|d29|d41|d50=>refine' My.mmk (Lw.ac_cons ⟨?uA0,?uI0,?uJ0⟩ Lw.ac_nil) Lw.ac_nil ?uL ?uE ?uK (fun _ _ _ _ _ _ us hl=>by obtain ⟨_,rfl⟩:=My.lenE1 us hl;rfl);(case uA0|uI0|uJ0|uL|uE|uK=>first|k_is|kernel_rfl))
  (case d25|d26|d27|d51=>refine' My.mmk (Lw.ac_cons ⟨?uA0,?uI0,?uJ0⟩ Lw.ac_nil) Lw.ac_nil ?uL ?uE ?uK (fun _ _ _ _ _ _ us hl=>by obtain ⟨_,_,rfl⟩:=My.lenE2 us hl;rfl);(case uA0|uI0|uJ0|uL|uE|uK=>first|k_is|kernel_rfl))
  (case d39=>refine' My.mmk (Lw.ac_cons ⟨?uA0,?uI0,?uJ0⟩ Lw.ac_nil) Lw.ac_nil ?uL ?uE ?uK (fun _ _ _ _ _ _ us hl=>by obtain ⟨_,_,_,rfl⟩:=My.lenE3 us hl;rfl);(case uA0|uI0|uJ0|uL|uE|uK=>first|k_is|kernel_rfl))
  (case d38=>refine' My.mmk (Lw.ac_cons ⟨?uA0,?uI0,?uJ0⟩ Lw.ac_nil) Lw.ac_nil ?uL ?uE ?uK (fun _ _ _ _ _ _ us hl=>by obtain ⟨_,_,_,_,rfl⟩:=My.lenE4 us hl;rfl);(case uA0|uI0|uJ0|uL|uE|uK=>first|k_is|kernel_rfl))
  (case d40=>refine' My.mmk (Lw.ac_cons ⟨?uA0,?uI0,?uJ0⟩ Lw.ac_nil) Lw.ac_nil ?uL ?uE ?uK (fun _ _ _ _ _ _ us hl=>by obtain ⟨_,_,_,_,_,rfl⟩:=My.lenE5 us hl;rfl);(case uA0|uI0|uJ0|uL|uE|uK=>first|k_is|kernel_rfl))
  (case a18|l18|e18|k18=>k_is)
  (case a45|l45|e45|k45=>k_is)
  (case a46|l46|e46|k46=>k_is)
  (case a47|l47|e47|k47=>k_is)
  (case a48|l48|e48|k48=>k_is)
  (case a65|l65|e65|k65=>k_is)
  (case t1=>k_is)
  (case t2=>exact rfl)
  (case t3|t4=>kernel_rfl)
  (case t8=>exact List.mem_singleton.mpr rfl)
  (case n_abs|n_all|n_bool|n_int|n_isinstance|n_len|n_list|n_max|n_min|n_range|n_reversed|n_set|n_sorted|n_str|n_tuple|n_zip=>refine' PySem.W.mg_none_of KX G ?_;k_is)
  (case v_FIGURES=>refine' ⟨_,PySem.W.mg_of KX G ?uP,?uQ⟩;(case uP=>k_is);(case uQ=>exact ⟨_,rfl⟩))
  (case v_FIRST_ROW=>refine' ⟨_,PySem.W.mg_of KX G ?uP,rfl⟩;(case uP=>k_is))
  (case w_FIRST_ROW=>refine' My.tup_mk ?uP ?uH ?uQ;(case uP=>k_is);(case uH=>show 2≤sizeLine;decide);(case uQ=>exact (Paired.cons ⟨_,rfl⟩ (Paired.cons rfl Paired.nil))))
  (case w_FIRST_ROW_1=>refine' My.tup_mk ?uP ?uH ?uQ;(case uP=>k_is);(case uH=>show 2≤sizeLine;decide);(case uQ=>exact (Paired.cons ⟨_,rfl⟩ (Paired.cons ⟨_,rfl⟩ Paired.nil))))
  (case v_FIRST_WORTH=>refine' ⟨_,PySem.W.mg_of KX G ?uP,?uQ⟩;(case uP=>k_is);(case uQ=>exact ⟨_,rfl⟩))
  (case v_LAST_DAY=>refine' ⟨_,PySem.W.mg_of KX G ?uP,?uQ⟩;(case uP=>k_is);(case uQ=>exact ⟨_,rfl⟩))
  (case v_LAST_FROM=>refine' ⟨_,PySem.W.mg_of KX G ?uP,?uQ⟩;(case uP=>k_is);(case uQ=>exact ⟨_,rfl⟩))
  (case v_LETTERS=>refine' ⟨_,PySem.W.mg_of KX G ?uP,?uQ⟩;(case uP=>k_is);(case uQ=>exact ⟨_,rfl⟩))
  (case v_LONGEST_DAY=>refine' ⟨_,PySem.W.mg_of KX G ?uP,?uQ⟩;(case uP=>k_is);(case uQ=>exact ⟨_,rfl⟩))
  (case v_LONGEST_NAME=>refine' ⟨_,PySem.W.mg_of KX G ?uP,?uQ⟩;(case uP=>k_is);(case uQ=>exact ⟨_,rfl⟩))
  (case v_LONGEST_NUMBER=>refine' ⟨_,PySem.W.mg_of KX G ?uP,?uQ⟩;(case uP=>k_is);(case uQ=>exact ⟨_,rfl⟩))
  (case v_MOST_GAMES=>refine' ⟨_,PySem.W.mg_of KX G ?uP,?uQ⟩;(case uP=>k_is);(case uQ=>exact ⟨_,rfl⟩))
  (case v_MOST_PART=>refine' ⟨_,PySem.W.mg_of KX G ?uP,?uQ⟩;(case uP=>k_is);(case uQ=>exact ⟨_,rfl⟩))
  (case v_MOST_PLAYERS=>refine' ⟨_,PySem.W.mg_of KX G ?uP,?uQ⟩;(case uP=>k_is);(case uQ=>exact ⟨_,rfl⟩))
  (case v_MOST_ROWS=>refine' ⟨_,PySem.W.mg_of KX G ?uP,?uQ⟩;(case uP=>k_is);(case uQ=>exact ⟨_,rfl⟩))
  (case v_PARTING=>refine' ⟨_,PySem.W.mg_of KX G ?uP,?uQ⟩;(case uP=>k_is);(case uQ=>exact ⟨_,rfl⟩))
  (case v_STEP=>refine' ⟨_,PySem.W.mg_of KX G ?uP,?uQ⟩;(case uP=>k_is);(case uQ=>exact ⟨_,rfl⟩))
  (case v_TABLE=>refine' ⟨_,PySem.W.mg_of KX G ?uP,rfl⟩;(case uP=>k_is))
  (case w_TABLE=>refine' My.tup_mk ?uP ?uH ?uQ;(case uP=>k_is);(case uH=>show 5≤sizeLine;decide);(case uQ=>exact (Paired.cons rfl (Paired.cons rfl (Paired.cons rfl (Paired.cons rfl (Paired.cons rfl Paired.nil)))))))
  (case w_TABLE_0=>refine' My.tup_mk ?uP ?uH ?uQ;(case uP=>k_is);(case uH=>show 2≤sizeLine;decide);(case uQ=>exact (Paired.cons ⟨_,rfl⟩ (Paired.cons rfl Paired.nil))))
  (case w_TABLE_0_1=>refine' My.tup_mk ?uP ?uH ?uQ;(case uP=>k_is);(case uH=>show 2≤sizeLine;decide);(case uQ=>exact (Paired.cons ⟨_,rfl⟩ (Paired.cons ⟨_,rfl⟩ Paired.nil))))
  (case w_TABLE_1=>refine' My.tup_mk ?uP ?uH ?uQ;(case uP=>k_is);(case uH=>show 2≤sizeLine;decide);(case uQ=>exact (Paired.cons ⟨_,rfl⟩ (Paired.cons rfl Paired.nil))))
  (case w_TABLE_1_1=>refine' My.tup_mk ?uP ?uH ?uQ;(case uP=>k_is);(case uH=>show 2≤sizeLine;decide);(case uQ=>exact (Paired.cons ⟨_,rfl⟩ (Paired.cons ⟨_,rfl⟩ Paired.nil))))
  (case w_TABLE_2=>refine' My.tup_mk ?uP ?uH ?uQ;(case uP=>k_is);(case uH=>show 2≤sizeLine;decide);(case uQ=>exact (Paired.cons ⟨_,rfl⟩ (Paired.cons rfl Paired.nil))))
  (case w_TABLE_2_1=>refine' My.tup_mk ?uP ?uH ?uQ;(case uP=>k_is);(case uH=>show 2≤sizeLine;decide);(case uQ=>exact (Paired.cons ⟨_,rfl⟩ (Paired.cons ⟨_,rfl⟩ Paired.nil))))
  (case w_TABLE_3=>refine' My.tup_mk ?uP ?uH ?uQ;(case uP=>k_is);(case uH=>show 2≤sizeLine;decide);(case uQ=>exact (Paired.cons ⟨_,rfl⟩ (Paired.cons rfl Paired.nil))))
  (case w_TABLE_3_1=>refine' My.tup_mk ?uP ?uH ?uQ;(case uP=>k_is);(case uH=>show 2≤sizeLine;decide);(case uQ=>exact (Paired.cons ⟨_,rfl⟩ (Paired.cons ⟨_,rfl⟩ Paired.nil))))
  (case w_TABLE_4=>refine' My.tup_mk ?uP ?uH ?uQ;(case uP=>k_is);(case uH=>show 2≤sizeLine;decide);(case uQ=>exact (Paired.cons ⟨_,rfl⟩ (Paired.cons rfl Paired.nil))))
  (case w_TABLE_4_1=>refine' My.tup_mk ?uP ?uH ?uQ;(case uP=>k_is);(case uH=>show 2≤sizeLine;decide);(case uQ=>exact (Paired.cons ⟨_,rfl⟩ (Paired.cons ⟨_,rfl⟩ Paired.nil))))
  (case v_TEXT_ROWS=>refine' ⟨_,PySem.W.mg_of KX G ?uP,rfl⟩;(case uP=>k_is))
  (case w_TEXT_ROWS=>refine' Lw.dic_mk ?uP (Lw.DEs.cons rfl (Lw.DEs.cons rfl (Lw.DEs.cons rfl Lw.DEs.nil))) (Paired.cons ⟨rfl,rfl⟩ (Paired.cons ⟨rfl,rfl⟩ (Paired.cons ⟨rfl,rfl⟩ Paired.nil))) ?uD ?uS;(case uP=>k_is);(case uD|uS=>decide))
  (case z_put_game=>k_is)
  (case v_WORDS=>refine' ⟨_,PySem.W.mg_of KX G ?uP,rfl⟩;(case uP=>k_is))
  (case w_WORDS=>refine' My.tup_mk ?uP ?uH ?uQ;(case uP=>k_is);(case uH=>show 3≤sizeLine;decide);(case uQ=>exact (Paired.cons ⟨_,rfl⟩ (Paired.cons ⟨_,rfl⟩ (Paired.cons ⟨_,rfl⟩ Paired.nil)))))
  (case v_WORD_ROWS=>refine' ⟨_,PySem.W.mg_of KX G ?uP,rfl⟩;(case uP=>k_is))
  (case w_WORD_ROWS=>refine' Lw.dic_mk ?uP (Lw.DEs.cons rfl (Lw.DEs.cons rfl (Lw.DEs.cons rfl (Lw.DEs.cons rfl (Lw.DEs.cons rfl (Lw.DEs.cons rfl (Lw.DEs.cons rfl (Lw.DEs.cons rfl Lw.DEs.nil)))))))) (Paired.cons ⟨rfl,rfl⟩ (Paired.cons ⟨rfl,rfl⟩ (Paired.cons ⟨rfl,rfl⟩ (Paired.cons ⟨rfl,rfl⟩ (Paired.cons ⟨rfl,rfl⟩ (Paired.cons ⟨rfl,rfl⟩ (Paired.cons ⟨rfl,rfl⟩ (Paired.cons ⟨rfl,rfl⟩ Paired.nil)))))))) ?uD ?uS;(case uP=>k_is);(case uD|uS=>decide))
  (case w_WORD_ROWS_take=>refine' My.tup_mk ?uP ?uH ?uQ;(case uP=>k_is);(case uH=>show 2≤sizeLine;decide);(case uQ=>exact (Paired.cons rfl (Paired.cons rfl Paired.nil))))
  (case w_WORD_ROWS_take_1=>refine' My.tup_mk ?uP ?uH ?uQ;(case uP=>k_is);(case uH=>show 1≤sizeLine;decide);(case uQ=>exact (Paired.cons rfl Paired.nil)))
  (case w_WORD_ROWS_take_1_0=>refine' My.tup_mk ?uP ?uH ?uQ;(case uP=>k_is);(case uH=>show 2≤sizeLine;decide);(case uQ=>exact (Paired.cons ⟨_,rfl⟩ (Paired.cons ⟨_,rfl⟩ Paired.nil))))
  (case w_WORD_ROWS_book=>refine' My.tup_mk ?uP ?uH ?uQ;(case uP=>k_is);(case uH=>show 2≤sizeLine;decide);(case uQ=>exact (Paired.cons rfl (Paired.cons rfl Paired.nil))))
  (case w_WORD_ROWS_book_1=>refine' My.tup_mk ?uP ?uH ?uQ;(case uP=>k_is);(case uH=>show 0≤sizeLine;decide);(case uQ=>exact Paired.nil))
  (case w_WORD_ROWS_running=>refine' My.tup_mk ?uP ?uH ?uQ;(case uP=>k_is);(case uH=>show 2≤sizeLine;decide);(case uQ=>exact (Paired.cons rfl (Paired.cons rfl Paired.nil))))
  (case w_WORD_ROWS_running_1=>refine' My.tup_mk ?uP ?uH ?uQ;(case uP=>k_is);(case uH=>show 0≤sizeLine;decide);(case uQ=>exact Paired.nil))
  (case z_take_game|z_tell_book|z_tell_running=>k_is)
#print axioms PySem.Challenge.cw_ladderworth_k87_whole_put_and_taken_at_t_holds
