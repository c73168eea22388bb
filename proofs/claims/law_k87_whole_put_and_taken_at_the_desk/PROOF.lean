import PyProof.Rows.All
import Wide.All
import OpenK.KLine
import OpenK.KWalk
import OpenK.KOwn
import KE.KxBytes
import KE.IntText
import KE.IntTextLaws
import KE.KDictOf
import KE.KIntText
import KE.KNestM
import KE.KRevSl
import KE.KFromBytes
import KE.IntBitsLaws
import KE.KIsAll
import Wide.FinOn
import PyProof.EqAt
import PyProof.EqKinds
import PyProof.TupleCall
import PyProof.Cells
import PyProof.AutoSeq1
import PyProof.MaxThree
import KE.KSortTup
import KE.KDflt
import PyProof.ListOps
import PyProof.AttrMissHeap
import PyProof.FactsAll.zip
import KE.KItemsList
import PyProof.DictUpdate
import PyProof.NeKinds
import KE.KRevIter
import PyProof.ListStr
import PySem.Challenge.RW_ladderworth_k87_whole_put_and_taken_at_t
set_option linter.all false
set_option maxRecDepth 100000
set_option Elab.async false
set_option maxHeartbeats 4000000
local macro_rules | `(tactic| trivial) => `(tactic| first | exact .inl rfl | exact .inr rfl | assumption)
abbrev KKf:=PySem.W.Frag
abbrev HP:=PySem.Value
abbrev HQ:=PySem.Shared
abbrev HR:=PySem.Addr
abbrev HS:=PySem.Around
abbrev HU:=PySem.Program
abbrev HV:=PySem.World
abbrev HW:=List PySem.Str
abbrev HX:=List Int
abbrev HY:=List HP
abbrev HZ:=List PySem.Expr
abbrev IA:=Option HP
abbrev IB:=Option HR
abbrev IC:=List Nat
abbrev AA:=@PySem.wpAny_bind
abbrev AB:=@PySem.Heap.get?_push_of_some
abbrev AC:=@PySem.wpAny_pure
abbrev AD:=@List.getElem?_eq_getElem
abbrev AE:=@List.length_map
abbrev AF:=@Nat.le_refl
abbrev AG:=@PySem.Heap.get?_push_size
abbrev AH:=@PySem.Heap.lt_size
abbrev AI:=@if_neg
abbrev AJ:=@List.mem_cons_of_mem
abbrev AK:=@List.mem_cons_self
abbrev AL:=@Nat.lt_of_lt_of_le
abbrev AM:=@List.length_append
abbrev AN:=@if_pos
abbrev AO:=@Nat.le_trans
abbrev AQ:=@decide_eq_true
abbrev AR:=@List.size_toArray
abbrev AS:=@Nat.ne_of_lt
abbrev AU:=@List.mem_cons
abbrev AV:=@Nat.zero_le
abbrev AW:=@List.mem_singleton
abbrev AX:=@List.mem_append_right
abbrev AY:=@List.length_cons
abbrev AZ:=@of_decide_eq_true
abbrev BA:=@Bool.false_ne_true
abbrev BC:=@decide_eq_false
abbrev BD:=@Int.mul_assoc
abbrev BE:=@List.map_cons
abbrev BF:=@List.getD_eq_getElem?_getD
abbrev BG:=@List.mem_map
abbrev BH:=@List.mem_of_getElem?
abbrev BI:=@List.getElem?_eq_some_iff
abbrev BJ:=@List.getElem?_map
abbrev BK:=@Array.length_toList
abbrev BL:=@Bool.false_eq_true
abbrev BM:=@of_decide_eq_false
abbrev BN:=@List.getElem?_append_right
abbrev BO:=@Nat.lt_of_le_of_lt
abbrev BP:=@PySem.wpAny_mono
abbrev BQ:=@List.length_take
abbrev BR:=@Bool.and_eq_true
abbrev BS:=@PySem.wpAny_newObj_type
abbrev BU:=@PySem.Heap.SameBut.update
abbrev BV:=@List.mem_append
abbrev BW:=@PySem.Heap.size_push
abbrev BX:=@PyProof.Rows.callWith_type1
abbrev BY:=@List.pairwise_cons
abbrev BZ:=@List.mem_range
abbrev CA:=@PySem.Heap.get?_update_self
abbrev CB:=@List.map_append
abbrev CC:=@PySem.wpAny_callSpecial?_slot
abbrev CD:=@Nat.lt_succ_of_lt
abbrev CF:=@List.getElem?_append_left
abbrev CG:=@List.append_nil
abbrev CH:=@List.all_eq_true
abbrev CI:=@List.take_add_one
abbrev CJ:=@List.length_eq_zero_iff
abbrev CK:=@PySem.W.kia_one
abbrev CL:=@PySem.Obj.data_mapFields
abbrev CM:=@PySem.sizeLine_eq
abbrev CN:=@Ne.symm
abbrev CO:=@List.append_assoc
abbrev CP:=@bne_self_eq_false
abbrev CQ:=@Nat.ne_of_gt
abbrev CS:=@PySem.wpAny_field
abbrev CT:=@PySem.wpAny_holding
abbrev CU:=@Nat.le_succ
abbrev CV:=@PySem.wpAny_seqItems
abbrev CW:=@PySem.wpAny_truthy_bool
abbrev CY:=@Int.toNat_natCast
abbrev CZ:=@Int.emod_nonneg
abbrev DA:=@List.length_filter_le
abbrev DB:=@List.getElem?_eq_none
abbrev DC:=@PySem.Calls.spliced_cons
abbrev DD:=@PySem.wpAny_Call_Name_kw
abbrev DE:=@if_false
abbrev DF:=@PySem.F.called_set
abbrev DG:=@PySem.Around.under_plainId
abbrev DH:=@PySem.Calls.spliced_nil
abbrev DI:=@List.nodup_cons
abbrev DJ:=@PySem.PassesOwn.never
abbrev DK:=@beq_eq_false_iff_ne
abbrev DL:=@Nat.le_of_lt
abbrev DM:=@Nat.lt_irrefl
abbrev DN:=@Nat.lt_succ_self
abbrev DO:=@List.length_drop
abbrev DP:=@List.length_singleton
abbrev DQ:=@Array.getElem?_toList
abbrev DR:=@List.length_range
abbrev DS:=@List.getElem?_replicate
abbrev DT:=@List.getElem?_cons_succ
abbrev DU:=@List.filterMap_cons
abbrev DV:=@Nat.le_of_not_lt
abbrev DW:=@PySem.wpAny_setField
abbrev DX:=@List.lookup_cons
abbrev DY:=@List.take_length
abbrev DZ:=@PySem.Heap.get?_update_other
abbrev EA:=@Option.map_eq_some_iff
abbrev EB:=@List.take_of_length_le
abbrev EC:=@Int.mul_pos
abbrev ED:=@List.mem_filterMap
abbrev EE:=@Int.mul_comm
abbrev EF:=@PySem.wpAny_setField_rec
abbrev EG:=@PyProof.Rows.F.plain_set_update_loop
abbrev EH:=@List.map_map
abbrev EI:=@PySem.wpAny_passesOwn
abbrev EJ:=@List.length_replicate
abbrev EK:=@PySem.Obj.isFreed_of_fields
abbrev EL:=@PySem.F.slot_tuple_iterator_next
abbrev EM:=@PySem.wpAny_setState_of
abbrev EN:=@List.mem_append_left
abbrev EO:=@List.drop_eq_getElem_cons
abbrev ER:=@List.pairwise_iff_getElem
abbrev ES:=@List.mem_of_mem_take
abbrev ET:=@Bool.false_and
abbrev EU:=@PySem.wpAny_isInstance
abbrev EV:=@List.getElem_mem
abbrev EW:=@PySem.wpAny_askSetting
abbrev EX:=@PySem.AutoSeq1.wpAny_loadPart'
abbrev EY:=@PySem.mem_of_lookup
abbrev EZ:=@PySem.wpAny_setEntries_of
abbrev FA:=@PyProof.Rows.slot_tuple_getitem
abbrev FC:=@PySem.wpAny_getItem_str_slice
abbrev FD:=@List.pairwise_singleton
abbrev FE:=@PySem.F.plain_list_iadd
abbrev FF:=@Bool.true_and
abbrev FG:=@PyProof.Rows.listUpdate_at
abbrev FH:=@List.mem_filter
abbrev FI:=@Bool.eq_iff_iff
abbrev FJ:=@PySem.W.callWith_K
abbrev FK:=@List.find?_cons
abbrev FL:=@PySem.Calls.callWith_builtin
abbrev FM:=@Option.map_eq_none_iff
abbrev FN:=@PySem.fits_of_scanBound
abbrev FO:=@PySem.codeAny_mono
abbrev FP:=@if_true
abbrev FQ:=@List.getElem?_toArray
abbrev FR:=@PySem.builtinLookup_eq_fast
abbrev FS:=@beq_iff_eq
abbrev FT:=@PySem.Calls.evalArgs_plain
abbrev FU:=@List.not_mem_nil
abbrev FV:=@decide_eq_decide
abbrev FW:=@List.any_cons
abbrev FX:=@PySem.plainId_quiet
abbrev FY:=@PySem.wpAny_newList
abbrev FZ:=@Int.mul_fdiv_cancel
abbrev GA:=@PySem.W.looks_mroIn
abbrev GB:=@List.getElem_of_mem
abbrev GC:=@PySem.wpAny_execs_nil
abbrev GD:=@List.of_mem_zip
abbrev GE:=@Nat.min_eq_left
abbrev GF:=@Nat.min_le_left
abbrev GG:=@Decidable.byContradiction
abbrev GH:=@Classical.byContradiction
abbrev GI:=@PySem.tupleKind_room_in1
abbrev GJ:=@List.filter_append
abbrev GK:=@PySem.typeIs_str
abbrev GL:=@PySem.wpAny_rule
abbrev GM:=@List.drop_zero
abbrev GN:=@Bool.and_false
abbrev GP:=@PySem.F.plainAttrs_dict
abbrev GQ:=@Nat.add_sub_cancel_left
abbrev GR:=@List.filter_cons_of_pos
abbrev GS:=@List.filter_cons_of_neg
abbrev GT:=@PySem.F.plainAttrs_list
abbrev GU:=@PySem.wpAny_pyIter_list
abbrev GV:=@PySem.Obj.cls_mapFields
abbrev GW:=@PySem.wpAny_loadPart_at
abbrev GX:=@List.ext_getElem?
abbrev GY:=@PySem.Heap.get?_push_ne
abbrev GZ:=@Array.getElem?_eq_none
abbrev HA:=@Nat.le_add_right
abbrev HB:=@PySem.F.slot_dict_get
abbrev HC:=@Array.size_eq_one_iff
abbrev HD:=@PySem.W.methodCall_KW
abbrev HE:=@Option.map_some
abbrev HF:=@PySem.wpAny_specialOf
abbrev HG:=@PySem.F.slot_zip_next
abbrev HH:=@PySem.post_val_or_str
abbrev HI:=@PySem.Txt.slice_le
abbrev HJ:=@PySem.typeLookup_type
abbrev HK:=@PySem.wpAny_updateSeq
abbrev HM:=@PySem.wpAny_ite_split
abbrev HN:=@Int.ne_of_gt
namespace L2
open PySem PySem.Spec PyProof.Rows
abbrev B3:=Sum Int Str
def Oc:B3→HP→Bool
 |.inl k,v=>Value.isInt k v
 |.inr x,v=>Value.isStrOf x v
def Asi (w:HV):B3→Int
 |.inl k=>hashInt k
 |.inr x=>hashStr w x
theorem Bt:∀{k:B3} {v:HP},Oc k v=true→(∃i t,k=Sum.inl i∧v=Value.int i t)∨(∃x t,k=Sum.inr x∧v=Value.str x t)
 |.inl i,v,h=>by
  obtain ⟨t,e⟩:=Value.isInt_shape (k:=i) (v:=v) h
  exact .inl ⟨i,t,rfl,e⟩
 |.inr x,v,h=>by
  obtain ⟨t,e⟩:=Value.isStrOf_shape (x:=x) (v:=v) h
  exact .inr ⟨x,t,rfl,e⟩
theorem Acs (i:Int)(t:Tok):Oc (.inl i) (.int i t)=true:=by simp [Oc,Value.isInt]
theorem Ac7 (x:Str)(t:Tok):Oc (.inr x) (.str x t)=true:=by simp [Oc,Value.isStrOf]
theorem An2 (a b:Int):decide ((Sum.inl a:B3)=Sum.inl b)=(a==b):=by
 by_cases e:a=b
 ·subst e;simp
 ·have h:¬(Sum.inl a:B3)=Sum.inl b:=fun q=>e (Sum.inl.inj q)
  rw [BC h]
  exact (DK.mpr e).symm
theorem Amy (a b:Str):decide ((Sum.inr a:B3)=Sum.inr b)=decide (a=b):=by
 by_cases e:a=b
 ·subst e;simp
 ·have h:¬(Sum.inr a:B3)=Sum.inr b:=fun q=>e (Sum.inr.inj q)
  rw [BC h,BC e]
theorem Am4 (a:Int)(b:Str):decide ((Sum.inl a:B3)=Sum.inr b)=false:=BC (fun q=>nomatch q)
theorem Ale (a:Str)(b:Int):decide ((Sum.inr a:B3)=Sum.inl b)=false:=BC (fun q=>nomatch q)
def A8 (prog:HU)(w:HV):PySem.KeyKind prog w B3 where
 is:=Oc
 hash:=Asi w
 inj:=fun v a b ha hb=>by
  rcases Bt ha with ⟨i,t,rfl,rfl⟩|⟨x,t,rfl,rfl⟩
  ·rcases Bt hb with ⟨j,u,rfl,e⟩|⟨y,u,rfl,e⟩
   ·injection e with e1 _;rw [e1]
   ·exact nomatch e
  ·rcases Bt hb with ⟨j,u,rfl,e⟩|⟨y,u,rfl,e⟩
   ·exact nomatch e
   ·injection e with e1 _;rw [e1]
 byValue:=fun k v h=>by
  rcases Bt h with ⟨i,t,rfl,rfl⟩|⟨x,t,rfl,rfl⟩<;>rfl
 pyHash:=fun hv h=>by
  rcases Bt hv with ⟨i,t,rfl,rfl⟩|⟨x,t,rfl,rfl⟩
  ·exact wpAny_pyHash_int h
  ·exact wpAny_pyHash_str h
 eqBool:=fun hu hv h=>by
  rcases Bt hu with ⟨i,t,rfl,rfl⟩|⟨x,t,rfl,rfl⟩
  ·rcases Bt hv with ⟨j,u,rfl,rfl⟩|⟨y,u,rfl,rfl⟩
   ·rw [An2] at h;exact wpAny_eqBool_int h
   ·rw [Am4] at h;exact SeqAt.EqAt.int_str i t y u _ _ _ _ h
  ·rcases Bt hv with ⟨j,u,rfl,rfl⟩|⟨y,u,rfl,rfl⟩
   ·rw [Ale] at h;exact SeqAt.EqAt.str_int x t j u _ _ _ _ h
   ·rw [Amy] at h;exact wpAny_eqBool_str h
 «strs»:=fun k x t v h=>by
  rcases Bt h with ⟨i,u,rfl,e⟩|⟨y,u,rfl,e⟩
  ·exact nomatch e
  ·injection e with e1 _
   subst e1
   cases v<;>rfl
theorem V7 (prog:HU)(w:HV)(i:Int)(t:Tok):(A8 prog w).is (.inl i) (.int i t)=true:=Acs i t
theorem Iz (prog:HU)(w:HV)(x:Str)(t:Tok):(A8 prog w).is (.inr x) (.str x t)=true:=Ac7 x t
end L2
namespace L2
open PySem PySem.Spec PyProof.Rows
inductive V where
 |non|bl (b:Bool)|int (i:Int)|str (x:Str)|byt (b:Array UInt8)|flt (b:UInt64)|ref (a:HR)|ty (n:String)
 deriving DecidableEq
abbrev ID:=List V
def RelV:V→HP→Prop
 |.non,u=>u=Value.none
 |.bl b,u=>u=Value.bool b
 |.int i,u=>∃t,u=Value.int i t
 |.str x,u=>∃t,u=Value.str x t
 |.byt b,u=>∃t,u=Value.bytes b t
 |.flt b,u=>∃t,u=Value.float b t
 |.ref a,u=>u=Value.ref a
 |.ty n,u=>u=Value.type n
abbrev A6:ID→HY→Prop:=Paired RelV
theorem A6.length {xs:ID}{us:HY}(r:A6 xs us):xs.length=us.length:=Paired.length r
theorem A6.get:∀{xs:ID} {us:HY} {i:Nat} {x:V},A6 xs us→xs[i]? =some x→∃u,us[i]? =some u∧RelV x u
 |_,_,_,_,.nil,e=>by simp at e
 |_,_,0,_,.cons r _,e=>by simp at e;subst e;exact ⟨_,rfl,r⟩
 |_,_,i+1,x,.cons _ t,e=>by
  obtain ⟨u,h1,h2⟩:=A6.get (i:=i) (x:=x) t (by simpa using e)
  exact ⟨u,by simpa using h1,h2⟩
theorem A6.append:∀{xs ys:ID} {us ws:HY},A6 xs us→A6 ys ws→A6 (xs++ys) (us++ws)
 |_,_,_,_,.nil,s=>s
 |_,_,_,_,.cons r t,s=>.cons r (A6.append t s)
theorem A6.take:∀{xs:ID} {us:HY} (n:Nat),A6 xs us→A6 (xs.take n) (us.take n)
 |_,_,0,_=>.nil
 |_,_,_+1,.nil=>.nil
 |_,_,n+1,.cons r t=>.cons r (A6.take n t)
theorem A6.drop:∀{xs:ID} {us:HY} (n:Nat),A6 xs us→A6 (xs.drop n) (us.drop n)
 |_,_,0,r=>r
 |_,_,_+1,.nil=>.nil
 |_,_,n+1,.cons _ t=>A6.drop n t
def Gk:Option V→IA→Prop
 |some v,some u=>RelV v u
 |none,none=>True
 |_,_=>False
def KV {κ:Type}:List (κ×V)→List (κ×HP)→Prop:=Paired fun (p:κ×V) (q:κ×HP)=>p.1=q.1∧RelV p.2 q.2
def kV:B3→V
 |.inl i=>.int i
 |.inr x=>.str x
inductive HO where
 |lst (xs:ID)
 |tup (xs:ID)
 |dK (kvs:List (B3×V))|dT (kvs:List (List B3×V))
 |set (S:Int→Bool) (n:Nat)
 |ins (C dx:HR) (fs:List (Str×V))
 |own (x:HR)
 |xd (fs:List (Str×V))
 |met (f x:HR)
 |rng (lo hi:Int)
 |frz (o:Obj) (u:HO)
 |tbl (ps:Array HP)
 |ext (φ:Heap→Prop)
abbrev Hp:=HR→Option HO
def upd (H:Hp)(a:HR)(o:HO):Hp:=fun b=>if b=a then some o else H b
theorem Ad {H:Hp}{a:HR}{o:HO}:upd H a o a=some o:=by unfold upd;rw [AN rfl]
theorem Am {H:Hp}{a b:HR}{o:HO}(h:b≠a):upd H a o b=H b:=by unfold upd;rw [AI h]
theorem Ab2 {H:Hp}{a:HR}{o u:HO}:upd (upd H a o) a u=upd H a u:=by
 funext b;unfold upd;split<;>rfl
theorem Aq3 {H:Hp}{a b:HR}{o u:HO}(h:H a=some o)(h':H b=some u)(d:o≠u):a≠b:=by
 intro e;subst e;rw [h] at h';exact d (Option.some.inj h')
theorem Bo {H:Hp}{a b:HR}{o:HO}(h:H a=some o)(h':H b=none):a≠b:=by
 intro e;subst e;rw [h] at h';cases h'
section
variable (P:HU)(w:HV)
def Bf (H:Hp)(h:Heap)(a:HR):HO→Prop
 |.lst xs=>xs.length≤sizeLine∧∃(its:HY) (n:Nat),A6 xs its∧h.get? a=some { cls:=.type "list",data:=.seq its.toArray n }
 |.tup xs=>xs.length≤sizeLine∧∃its:HY,A6 xs its∧IsTup h a its.toArray
 |.dK kvs=>kvs.length≤sizeLine∧(a==sysModules)=false∧∃vs,KV kvs vs∧h.DictOf (A8 P w) a vs
 | .dT kvs=>kvs.length≤sizeLine∧(a==sysModules)=false∧∃xs:List (List B3×HR×HP),
   Paired (fun (p:List B3×V) (q:List B3×HR×HP)=>p.1=q.1∧H q.2.1=some (.tup (p.1.map kV))∧RelV p.2 q.2.2) kvs xs ∧
   ∃o es ep,h.get? a=some o∧o.ExactDict∧o.data=.dict es ep∧es.toList=xs.map (entryOfKey (tupleKind (A8 P w)))∧(xs.map (·.1)).Nodup
 |.set S n=>h.SetOf (intKind P w) a S n
 | .ins C dx fs=>H dx=some (.own a)∧fs.length≤1000∧dx≠a∧h.get? a=some (PySem.W.instObj C dx) ∧
   ∃mA,h.Ns1 dx mA∧(∀f,Gk (fs.lookup f) (mA f))∧PySem.Within mA (fs.map (·.1))
 |.own _=>∃o,h.get? a=some o
 |.xd fs=>∃mA,h.Ns1 a mA∧∀f,Gk (fs.lookup f) (mA f)
 |.rng lo hi=>∃t u v,h.get? a=some { cls:=.type "range",data:=.fields #[.int lo t,.int hi u,.int 1 v] }
 |.frz o u=>h.get? a=some o∧Bf H h a u
 |.tbl ps=>h.get? a=some { cls:=.none,data:=.fields ps }
 |.met f x=>h.get? a=some (PySem.W.methodObj (.ref f) (.ref x))
 |.ext φ=>φ h∧(∃o,h.get? a=some o)∧∀h1 h2:Heap,φ h1→(∀o,h1.get? a=some o→h2.get? a=some o)→φ h2
def Jz (H:Hp)(h:Heap):Prop:=∀a o,H a=some o→Bf P w H h a o
end
section
variable {P:HU}{w:HV}{H H':Hp}{h h':Heap}{a:HR}{o:HO}
theorem Bf.lt (x:Bf P w H h a o):a<h.objs.size:=by
 cases o with
 |lst xs=>obtain ⟨_,_,_,_,e⟩:=x;exact AH e
 |tup xs=>obtain ⟨_,_,_,p⟩:=x;exact p.lt
 |dK kvs=>obtain ⟨_,_,_,_,o,_,_,e,_⟩:=x;exact AH e
 |dT kvs=>obtain ⟨_,_,_,_,o,_,_,e,_⟩:=x;exact AH e
 |set S n=>obtain ⟨o,_,_,_,e,_⟩:=x;exact AH e
 |ins C dx fs=>obtain ⟨_,_,_,e,_⟩:=x;exact AH e
 |own y=>obtain ⟨_,e⟩:=x;exact AH e
 |xd fs=>obtain ⟨_,⟨_,_,_,e,_⟩,_⟩:=x;exact AH e
 |rng lo hi=>obtain ⟨_,_,_,e⟩:=x;exact AH e
 |frz ob u=>obtain ⟨e,_⟩:=x;exact AH e
 |tbl ps=>exact AH (show h.get? a=some _ from x)
 |met f y=>exact AH (show h.get? a=some _ from x)
 |ext φ=>obtain ⟨_,⟨_,e⟩,_⟩:=x;exact AH e
theorem Paired.mapP {α β:Type}{F G:α→β→Prop}:∀{l₁:List α} {l₂:List β},Paired F l₁ l₂→(∀a b,F a b→G a b)→Paired G l₁ l₂
 |_,_,.nil,_=>.nil
 |_,_,.cons r t,f=>.cons (f _ _ r) (Paired.mapP t f)
theorem Bf.stay (x:Bf P w H h a o)(k:∀b u,(b=a∨H b=some (.own a))→h.get? b=some u→h'.get? b=some u)
  (ho:∀b,H b=some (.own a)→H' b=some (.own a)) (ht:∀b xs,H b=some (.tup xs)→H' b=some (.tup xs)):Bf P w H' h' a o:=by
 induction o with
 |lst xs=>obtain ⟨z,its,n,r,e⟩:=x;exact ⟨z,its,n,r,k _ _ (.inl rfl) e⟩
 |tup xs=>obtain ⟨z,its,r,ob,e,c⟩:=x;exact ⟨z,its,r,ob,k _ _ (.inl rfl) e,c⟩
 |dK kvs=>obtain ⟨z,y,vs,r,ob,es,ep,e,c⟩:=x;exact ⟨z,y,vs,r,ob,es,ep,k _ _ (.inl rfl) e,c⟩
 |dT kvs=>
  obtain ⟨z,y,xs,r,ob,es,ep,e,c⟩:=x
  exact ⟨z,y,xs,Paired.mapP r fun p q z=>⟨z.1,ht _ _ z.2.1,z.2.2⟩,ob,es,ep,k _ _ (.inl rfl) e,c⟩
 |set S n=>obtain ⟨ob,es,ep,t,e,c⟩:=x;exact ⟨ob,es,ep,t,k _ _ (.inl rfl) e,c⟩
 |ins C dx fs=>
  obtain ⟨d,z,ne,e,mA,⟨od,es,ep,e2,c⟩,r⟩:=x
  exact ⟨ho _ d,z,ne,k _ _ (.inl rfl) e,mA,⟨od,es,ep,k _ _ (.inr d) e2,c⟩,r⟩
 |own y=>obtain ⟨ob,e⟩:=x;exact ⟨ob,k _ _ (.inl rfl) e⟩
 |xd fs=>obtain ⟨mA,⟨od,es,ep,e,c⟩,r⟩:=x;exact ⟨mA,⟨od,es,ep,k _ _ (.inl rfl) e,c⟩,r⟩
 |rng lo hi=>obtain ⟨t,u,v,e⟩:=x;exact ⟨t,u,v,k _ _ (.inl rfl) e⟩
 |frz ob u ih=>obtain ⟨e,q⟩:=x;exact ⟨k _ _ (.inl rfl) e,ih q⟩
 |tbl ps=>
  have e:h.get? a=some { cls:=.none,data:=.fields ps }:=x
  show h'.get? a=some { cls:=.none,data:=.fields ps }
  exact k a _ (.inl rfl) e
 |met f y=>
  have e:h.get? a=some (PySem.W.methodObj (.ref f) (.ref y)):=x
  show h'.get? a=some (PySem.W.methodObj (.ref f) (.ref y))
  exact k a _ (.inl rfl) e
 |ext φ=>obtain ⟨p,⟨o,e⟩,st⟩:=x;exact ⟨st _ _ p fun o q=>k _ _ (.inl rfl) q,⟨o,k _ _ (.inl rfl) e⟩,st⟩
theorem Jz.lt (x:Jz P w H h)(e:H a=some o):a<h.objs.size:=(x a o e).lt
theorem Jz.fresh (x:Jz P w H h)(e:h.objs.size≤a):H a=none:=by
 cases q:H a with
 |none=>rfl
 |some u=>exact absurd (AL (x.lt q) e) (DM _)
theorem Jz.kept (x:Jz P w H h)(k:∀b u,h.get? b=some u→h'.get? b=some u):Jz P w H h':=fun a o e=>
 (x a o e).stay (fun b u _ q=>k b u q) (fun _ q=>q) fun _ _ q=>q
theorem Jz.laid (x:Jz P w H h)(k:∀b u,h.get? b=some u→h'.get? b=some u)(hp:h.objs.size≤a)(new:Bf P w (upd H a o) h' a o):Jz P w (upd H a o) h':=fun b u e=>by
 have hn:=x.fresh hp
 by_cases hb:b=a
 ·subst hb;rw [Ad] at e;cases e;exact new
 ·rw [Am hb] at e
  exact (x b u e).stay (fun c v _ q=>k c v q) (fun c q=>by rw [Am (Bo q hn)];exact q) fun c xs q=>by rw [Am (Bo q hn)];exact q
end
def Rd (H:Hp)(a:HR)(u:HO):Prop:=H a=some u∨∃o,H a=some (.frz o u)
theorem Rd.ok {P:HU}{w:HV}{H:Hp}{h:Heap}{a:HR}{u:HO}(r:Rd H a u)(x:Jz P w H h):Bf P w H h a u:=by
 rcases r with r|⟨o,r⟩
 ·exact x a u r
 ·obtain ⟨_,q⟩:=x a _ r
  exact q
def Mut:Option HO→Prop
 |some (.lst _)=>True
 |some (.dK _)=>True
 |some (.dT _)=>True
 |some (.set _ _)=>True
 |some (.ins _ _ _)=>True
 |some (.ext _)=>True
 |_=>False
section
variable {P:HU}{w:HV}{H:Hp}{h h':Heap}{x e:HR}{o':HO}
theorem Jz.write (ok:Jz P w H h)(mu:Mut (H x))(he:e=x∨H e=some (.own x))(k:∀b u,b≠e→h.get? b=some u→h'.get? b=some u)(heo:∃u,h'.get? e=some u)
  (new:Bf P w (upd H x o') h' x o'):Jz P w (upd H x o') h':=fun b u q=>by
 have nown:∀c y,H c=some (.own y)→c≠x:=fun c y r z=>by subst z;rw [r] at mu;exact mu
 have ntup:∀c xs,H c=some (.tup xs)→c≠x:=fun c xs r z=>by subst z;rw [r] at mu;exact mu
 by_cases hb:b=x
 ·subst hb;rw [Ad] at q;cases q;exact new
 ·rw [Am hb] at q
  by_cases hbe:b=e
  ·have q':H b=some (.own x):=by
    rcases he with z|z
    ·exact absurd (hbe.trans z) hb
    ·rw [hbe];exact z
   rw [q] at q';cases q'
   obtain ⟨v,hv⟩:=heo
   exact ⟨v,by rw [hbe];exact hv⟩
  ·refine (ok b u q).stay (fun c v hc r=>k c v ?_ r) (fun c r=>by rw [Am (nown c b r)];exact r) fun c xs r=>by rw [Am (ntup c xs r)];exact r
   rcases hc with rfl|hc
   ·exact hbe
   ·rintro rfl
    rcases he with z|z
    ·exact nown c b hc z
    ·rw [hc] at z;cases z;exact hb rfl
end
structure Un (fs ex:List HR)(H H':Hp)(h h':Heap):Prop where
 keep:∀b o,h.get? b=some o→H b=none→b∉fs→b∉ex→h'.get? b=some o
 slot:∀b o,h.get? b=some o→H b=none→b∈fs→b∉ex→∃sl,h'.get? b=some { o with slots:=sl }
 free:∀b o,h.get? b=some o→H b=none→b∉ex→H' b=none
 there:∀b o,h.get? b=some o→b∉ex→∃o',h'.get? b=some o'
 tups:∀b xs,H b=some (.tup xs)→H' b=some (.tup xs)
 frzs:∀b o u,H b=some (.frz o u)→H' b=some (.frz o u)
 tbls:∀b ps,H b=some (.tbl ps)→∃more,H' b=some (.tbl (ps++more))
section
variable {fs fs' ex ex':List HR}{H H1 H2:Hp}{h h1 h2 h':Heap}{a x e:HR}{o:HO}
theorem Un.any (u:Un fs ex H H1 h h1){b:HR}{ob:Obj}(q:h.get? b=some ob)(n:H b=none)(hx:b∉ex):∃sl,h1.get? b=some { ob with slots:=sl }:=by
 by_cases hb:b∈fs
 ·exact u.slot b ob q n hb hx
 ·exact ⟨ob.slots,u.keep b ob q n hb hx⟩
theorem Un.kept (k:∀b u,h.get? b=some u→h'.get? b=some u):Un fs ex H H h h' :=
 ⟨fun b ob q _ _ _=>k b ob q,fun b ob q _ _ _=>⟨ob.slots,k b ob q⟩,fun _ _ _ n _=>n,fun b ob q _=>⟨ob,k b ob q⟩,fun _ _ q=>q,fun _ _ _ q=>q,fun _ ps q=>⟨#[],by rw [q];simp⟩⟩
theorem Un.refl:Un fs ex H H h h:=Un.kept fun _ _ q=>q
theorem Un.laid (k:∀b u,h.get? b=some u→h'.get? b=some u)(hp:h.objs.size≤a)(hn:H a=none):Un fs ex H (upd H a o) h h' where
 keep:=fun b u q _ _ _=>k b u q
 slot:=fun b u q _ _ _=>⟨u.slots,k b u q⟩
 free:=fun b u q n _=>by rw [Am (AS (AL (AH q) hp))];exact n
 there:=fun b u q _=>⟨u,k b u q⟩
 tups:=fun b xs q=>by rw [Am (Bo q hn)];exact q
 frzs:=fun b u xs q=>by rw [Am (Bo q hn)];exact q
 tbls:=fun b ps q=>⟨#[],by rw [Am (Bo q hn),q];simp⟩
theorem Un.write (mu:Mut (H x))(he:e=x∨H e=some (.own x))(k:∀b u,b≠e→h.get? b=some u→h'.get? b=some u)(heo:∃u,h'.get? e=some u):Un fs ex H (upd H x o) h h':=by
 have hx:∀b,H b=none→b≠x:=fun b n z=>by subst z;rw [n] at mu;exact mu
 have hb:∀b,H b=none→b≠e:=fun b n z=>by
  subst z
  rcases he with r|r
  ·exact hx b n r
  ·rw [n] at r;cases r
 have hm:∀b u,H b=some u→¬Mut (some u)→b≠x:=fun b u q nm z=>by subst z;rw [q] at mu;exact nm mu
 refine ⟨fun b u q n _ _=>k b u (hb b n) q,fun b u q n _ _=>⟨u.slots,k b u (hb b n) q⟩,fun b u q n _=>by rw [Am (hx b n)];exact n,fun b u q _=>?_,
  fun b xs q=>by rw [Am (hm b _ q fun z=>z)];exact q,fun b u xs q=>by rw [Am (hm b _ q fun z=>z)];exact q,fun b ps q=>⟨#[],by rw [Am (hm b _ q fun z=>z),q];simp⟩⟩
 by_cases hbe:b=e
 ·subst hbe;exact heo
 ·exact ⟨u,k b u hbe q⟩
end
def trk (h:Heap)(H:Hp):List HR:=(List.range h.objs.size).filter fun a=>(H a).isSome
def Ub (h:Heap)(H:Hp):Heap:=PySem.W.hideAll h (trk h H)
theorem Ady (h:Heap)(H:Hp):(Ub h H).objs.size=h.objs.size:=PySem.W.hideAll_size _ _
theorem Ph {h:Heap}{H:Hp}{b:HR}{o:Obj}(e:h.get? b=some o)(n:H b=none):(Ub h H).get? b=some o:=
 PySem.W.hideAll_get _ e fun hm=>by
  have q:(H b).isSome=true:=(FH.mp hm).2
  rw [n] at q;simp at q
theorem Ah8 {h:Heap}{H:Hp}{b:HR}{o:Obj}(e:(Ub h H).get? b=some o):h.get? b=some o∧H b=none:=by
 have e':h.get? b=some o:=PySem.W.of_hideAll (trk h H) e
 refine ⟨e',?_⟩
 cases q:H b with
 |none=>rfl
 |some x=>
  have hm:b∈trk h H:=FH.mpr ⟨BZ.mpr (AH e'),by simp [q]⟩
  have z:(Ub h H).get? b=none:=PySem.W.hideAll_none (trk h H) hm
  rw [z] at e;cases e
def Ahy (g h:Heap)(L:HR):List (HR×Obj):=(List.range h.objs.size).filterMap fun a=>if a=L∨(g.get? a).isSome=true then none else (h.get? a).map fun o=>(a,o)
def Eo (g h:Heap)(L d:HR):List (HR×Obj):=(Ahy g h L).filter fun p=>decide (p.1≠d)
end L2
namespace L2
open PySem PySem.Spec PyProof.Rows
structure Mod (K:KKf)(mg:Str→IA)(base:Heap):Prop where
 kin:K.In base
 glob:base.Ns mainGlobals mg
 blt:∃mb,base.Ns builtinsNs mb∧∀x:Str,x≠"__name__"→mb x=bootBuiltins x
 nolimit:base.NoLimit
/-- the context: a def's body (or a comprehension's block) running. base: fixed through the whole law;s₀,H₀: the entry;outer: the frames whose slots others may change (a def's callers);stack: all frames that run;
   ex: iterators that were made ahead of the entry and are walked here (a comprehension's);fn: the names whose cells were made at the entry (a def: all;a comprehension's block: its own);calm: not within an except suite;pn: pins that every state bears;xe: what is wanted of an exception that leaves the code -/
structure Cx where
 prog:HU
 w:HV
 K:KKf
 mg:Str→IA
 base:Heap
 A:HS
 N:HW
 s₀:HQ
 H₀:Hp
 env:Env
 outer:List Env
 stack:List Env
 ex:List HR
 fn:Str→Bool
 calm:Bool
 pn:List (HR×Obj)
 xe:HP→HQ→Prop
def La (l:List Env):List HR:=l.filterMap (·.frame)
abbrev Cx.fs (X:Cx):List HR:=La X.outer
def Vis (sc:Scope)(x:Str):Prop:=sc.names.lookup x=some .local∨sc.names.lookup x=some .cell∨sc.names.lookup x=some .free
def Loc (sc:Scope)(x:Str):Prop:=sc.names.lookup x=some .local∨sc.names.lookup x=some .cell
def An9 (env:Env)(h:Heap)(m:Str→IA)(x:Str)(u:HP):Prop:=
 (env.kindOf x=some .local∧m x=some u)∨((env.kindOf x=some .cell∨env.kindOf x=some .free)∧∃c,env.cells.lookup x=some c∧h.IsCell c (some u))
structure Cx.Ok (X:Cx):Prop where
 mod:Mod X.K X.mg X.base
 kind:X.env.scope.kind=.function
 glob:X.env.globals=mainGlobals
 blt:X.env.builtins=builtinsNs
 above:X.s₀.heap.objs.size≤X.env.locals
 inj:∀x y c,X.env.cells.lookup x=some c→X.env.cells.lookup y=some c→x=y
 has:∀x,(X.env.kindOf x=some .cell∨X.env.kindOf x=some .free)→∃c,X.env.cells.lookup x=some c
 cab:∀x c,X.fn x=true→X.env.cells.lookup x=some c→X.s₀.heap.objs.size≤c
 hd:X.calm=true→X.A.handled=none
 frames:X.A.frames=some X.stack
 stk:X.stack=X.outer∨(X.stack=X.env::X.outer∧X.env.frame=some X.env.locals)
 exf:∀b∈X.ex,b≠X.env.locals∧∀x c,X.env.cells.lookup x=some c→c≠b
 bs:∀b o,X.base.get? b=some o→X.s₀.heap.get? b=some o∧X.H₀ b=none
 bsz:X.base.objs.size≤X.s₀.heap.objs.size
 noex:∀b o,X.base.get? b=some o→b∉X.ex
 exfs:∀b∈X.ex,b∉X.fs
 funs:X.s₀.heap.FunFrames X.base X.outer
 frf:∀b∈X.fs,X.H₀ b=none
structure Ap (X:Cx)(pins:List (HR×Obj))(σ:List (Option V))(H:Hp)(s:HQ):Prop where
 ok:X.Ok
 os:s.os=X.s₀.os
 bare:AllBare s.gens
 base:Un X.fs X.ex X.H₀ H X.s₀.heap s.heap
 loc:∃m,s.heap.Ns X.env.locals m∧∀(i:Nat) (x:Str) (v:V),X.N[i]? =some x→σ[i]? =some (some v)→Vis X.env.scope x→∃u,RelV v u∧An9 X.env s.heap m x u
 cell:∀x c,X.env.cells.lookup x=some c→∃v,s.heap.IsCell c v
 free:H X.env.locals=none
 freeC:∀x c,X.env.cells.lookup x=some c→H c=none
 pin:∀p∈X.pn++pins,s.heap.get? p.1=some p.2∧H p.1=none∧p.1≠X.env.locals∧p.1∉X.fs∧∀v,p.2.data≠.cell v
 hok:Jz X.prog X.w H s.heap
 len:σ.length=X.N.length
section
variable {X:Cx}{pins:List (HR×Obj)}{σ:List (Option V)}{H H':Hp}{s:HQ}{h':Heap}
theorem Cx.Ok.nofr (ok:X.Ok){b:HR}{o:Obj}(e:X.base.get? b=some o):b∉X.fs:=fun hb=>by
 have:=(ok.funs.mem hb).1
 rw [e] at this;cases this
theorem Ap.bs (I:Ap X pins σ H s):∀b o,X.base.get? b=some o→s.heap.get? b=some o∧H b=none:=fun b o e=>
 ⟨I.base.keep b o (I.ok.bs b o e).1 (I.ok.bs b o e).2 (I.ok.nofr e) (I.ok.noex b o e),I.base.free b o (I.ok.bs b o e).1 (I.ok.bs b o e).2 (I.ok.noex b o e)⟩
theorem Ap.bk (I:Ap X pins σ H s):∀b o,X.base.get? b=some o→s.heap.get? b=some o:=fun b o e=>(I.bs b o e).1
theorem Ap.mod (I:Ap X pins σ H s):Mod X.K X.mg X.base:=I.ok.mod
theorem Ap.kIn (I:Ap X pins σ H s):X.K.In s.heap:=I.ok.mod.kin.keeps I.bk
theorem Ap.nolimit (I:Ap X pins σ H s):s.heap.NoLimit:=I.ok.mod.nolimit.keeps I.bk
theorem Ap.lt (I:Ap X pins σ H s):X.env.locals<s.heap.objs.size:=let ⟨_,hn,_⟩:=I.loc;hn.lt
theorem Ap.sz (I:Ap X pins σ H s):X.s₀.heap.objs.size≤s.heap.objs.size:=AO I.ok.above (DL I.lt)
theorem Ap.nofs (I:Ap X pins σ H s){a:HR}(h:s.heap.objs.size≤a):a∉X.fs:=fun hb=>by
 obtain ⟨_,o,ho,_⟩:=I.ok.funs.mem hb
 exact absurd (AL (AH ho) (AO I.sz h)) (DM _)
theorem Ap.cne (I:Ap X pins σ H s):∀x c,X.env.cells.lookup x=some c→c≠X.env.locals:=fun x c e z=>by
 obtain ⟨v,o,ho,hd⟩:=I.cell x c e
 obtain ⟨m,⟨o',es,ep,ho',hd',_⟩,_⟩:=I.loc
 rw [z,ho'] at ho;cases ho;rw [hd'] at hd;cases hd
theorem Ap.funs (I:Ap X pins σ H s):s.heap.FunFrames X.base X.outer:=by
 have all:∀(l:List Env),(∀b∈La l,b∈X.fs)→X.s₀.heap.FunFrames X.base l→s.heap.FunFrames X.base l:=by
  intro l
  induction l with
  |nil=>intro _ _;trivial
  |cons env r ih=>
   intro hs hl
   obtain ⟨hk,⟨L,o,hf,hn,ho,hd⟩,hr⟩:=hl
   have hL:L∈X.fs:=hs L (by unfold La;rw [DU,hf];exact AK)
   obtain ⟨sl,e⟩:=I.base.slot L o ho (I.ok.frf L hL) hL fun z=>I.ok.exfs L z hL
   exact ⟨hk,⟨L,_,hf,hn,e,hd⟩,ih (fun b hb=>hs b (by unfold La;rw [DU,hf];exact AJ _ hb)) hr⟩
 exact all X.outer (fun _ hb=>hb) I.ok.funs
theorem Ap.stack (I:Ap X pins σ H s):s.heap.FunFrames X.base X.stack:=by
 rcases I.ok.stk with e|⟨e,hf⟩
 ·rw [e];exact I.funs
 ·rw [e]
  obtain ⟨m,hn,_⟩:=I.loc
  refine .cons (by rw [I.ok.kind];decide) hf hn ?_ I.funs
  exact Heap.get?_none_of_le (AO I.ok.bsz I.ok.above)
theorem Ap.stkSub (I:Ap X pins σ H s):∀b∈La X.stack,b∈X.env.locals::X.fs:=fun b hb=>by
 rcases I.ok.stk with e|⟨e,hf⟩
 ·rw [e] at hb;exact AJ _ hb
 ·rw [e] at hb
  unfold La at hb
  rw [DU,hf] at hb
  exact hb
theorem Ap.stkFree (I:Ap X pins σ H s):∀b∈La X.stack,H b=none:=fun b hb=>by
 rcases AU.mp (I.stkSub b hb) with e|hb
 ·rw [e];exact I.free
 ·obtain ⟨_,o,ho,_⟩:=I.ok.funs.mem hb
  exact I.base.free b o ho (I.ok.frf b hb) fun z=>I.ok.exfs b z hb
theorem Ap.step {g':Array GenState}{t':Nat}{d':Drawn}{ch:List HR}(I:Ap X pins σ H s)
  (hch:∀b∈ch,(b∈X.ex∨X.s₀.heap.objs.size≤b)∧b≠X.env.locals∧(∀x c,X.env.cells.lookup x=some c→c≠b)∧∀p∈X.pn++pins,p.1≠b)
  (keep:∀b o,b≠X.env.locals→b∉X.fs→b∉ch→s.heap.get? b=some o→H b=none→h'.get? b=some o)
  (slot:∀b o,b≠X.env.locals→b∈X.fs→b∉ch→s.heap.get? b=some o→H b=none→∃sl,h'.get? b=some { o with slots:=sl }) (free:∀b o,b∉ch→s.heap.get? b=some o→H b=none→H' b=none)
  (there:∀b o,b∉ch→s.heap.get? b=some o→∃o',h'.get? b=some o')
  (tups:∀b xs,H b=some (.tup xs)→H' b=some (.tup xs)) (frzs:∀b o u,H b=some (.frz o u)→H' b=some (.frz o u)) (tbls:∀b ps,H b=some (.tbl ps)→∃more,H' b=some (.tbl (ps++more)))
  (ns:∀m,s.heap.Ns X.env.locals m→h'.Ns X.env.locals m) (hok:Jz X.prog X.w H' h') (hg:AllBare g') :
  Ap X pins σ H' { s with heap:=h',gens:=g',drawn:=d',toks:=t' }:=by
 have neL:∀b o,X.s₀.heap.get? b=some o→b≠X.env.locals:=fun b o e=>AS (AL (AH e) I.ok.above)
 have neC:∀b o,X.s₀.heap.get? b=some o→b∉X.ex→b∉ch:=fun b o e hx hb=>by
  rcases (hch b hb).1 with z|z
  ·exact hx z
  ·exact absurd (AL (AH e) z) (DM _)
 have cellK:∀x c,X.env.cells.lookup x=some c→∀v,s.heap.IsCell c v→h'.IsCell c v:=fun x c e v ⟨o,ho,hd⟩=>by
  have nch:c∉ch:=fun z=>(hch c z).2.2.1 x c e rfl
  by_cases hc:c∈X.fs
  ·obtain ⟨sl,q⟩:=slot c o (I.cne x c e) hc nch ho (I.freeC x c e)
   exact ⟨_,q,hd⟩
  ·exact ⟨o,keep c o (I.cne x c e) hc nch ho (I.freeC x c e),hd⟩
 refine ⟨I.ok,I.os,hg,⟨fun b o e n hb hx=>?_,fun b o e n hb hx=>?_,fun b o e n hx=>?_,fun b o e hx=>?_,fun b xs e=>tups b xs (I.base.tups b xs e),fun b o xs e=>frzs b o xs (I.base.frzs b o xs e),fun b ps e=>?_⟩,?_,fun x c e=>?_,?_,fun x c e=>?_,fun p hp=>?_,hok,I.len⟩
 ·exact keep b o (neL b o e) hb (neC b o e hx) (I.base.keep b o e n hb hx) (I.base.free b o e n hx)
 ·obtain ⟨sl,e1⟩:=I.base.slot b o e n hb hx
  obtain ⟨sl',e2⟩:=slot b _ (neL b o e) hb (neC b o e hx) e1 (I.base.free b o e n hx)
  exact ⟨sl',e2⟩
 ·obtain ⟨o',e1⟩:=I.base.there b o e hx
  exact free b o' (neC b o e hx) e1 (I.base.free b o e n hx)
 ·obtain ⟨o',e1⟩:=I.base.there b o e hx
  exact there b o' (neC b o e hx) e1
 ·obtain ⟨m1,e1⟩:=I.base.tbls b ps e
  obtain ⟨m2,e2⟩:=tbls b _ e1
  exact ⟨m1++m2,by rw [e2,Array.append_assoc]⟩
 ·obtain ⟨m,hn,hl⟩:=I.loc
  refine ⟨m,ns m hn,fun i x v e1 e2 e3=>?_⟩
  obtain ⟨u,r,l⟩:=hl i x v e1 e2 e3
  refine ⟨u,r,?_⟩
  rcases l with l|⟨k,c,e,z⟩
  ·exact .inl l
  ·exact .inr ⟨k,c,e,cellK x c e _ z⟩
 ·obtain ⟨v,z⟩:=I.cell x c e
  exact ⟨v,cellK x c e v z⟩
 ·obtain ⟨m,⟨o,_,_,ho,_⟩,_⟩:=I.loc
  exact free _ o (fun z=>(hch _ z).2.1 rfl) ho I.free
 ·obtain ⟨v,o,ho,hd⟩:=I.cell x c e
  exact free c o (fun z=>(hch c z).2.2.1 x c e rfl) ho (I.freeC x c e)
 ·obtain ⟨e,n,ne,nf,d⟩:=I.pin p hp
  have nch:p.1∉ch:=fun z=>(hch p.1 z).2.2.2 p hp rfl
  exact ⟨keep p.1 p.2 ne nf nch e n,free p.1 p.2 nch e n,ne,nf,d⟩
theorem Ap.un {t':Nat}(I:Ap X pins σ H s)(u:Un X.fs [] H H' s.heap h')(hok:Jz X.prog X.w H' h'):Ap X pins σ H' { s with heap:=h',toks:=t' }:=by
 obtain ⟨m,⟨o,es,ep,ho,r⟩,_⟩:=id I.loc
 obtain ⟨sl,hL⟩:=u.any ho I.free (by simp)
 exact I.step (g':=s.gens) (d':=s.drawn) (ch:=[]) (fun _ z=>nomatch z) (fun b o _ hb _ e n=>u.keep b o e n hb (by simp)) (fun b o _ hb _ e n=>u.slot b o e n hb (by simp)) (fun b o _ e n=>u.free b o e n (by simp)) (fun b o _ e=>u.there b o e (by simp)) u.tups u.frzs u.tbls (fun m' hm=>by
  obtain ⟨o',es',ep',ho',r'⟩:=hm
  rw [ho] at ho';cases ho'
  exact ⟨_,es',ep',hL,r'⟩) hok I.bare
theorem Ap.call {g':Array GenState}{t':Nat}{d':Drawn}{ch:List HR}(I:Ap X pins σ H s)(u:Un (La X.stack) ch H H' s.heap h')(hok:Jz X.prog X.w H' h')(hg:AllBare g')
  (hch:∀b∈ch,(b∈X.ex∨X.s₀.heap.objs.size≤b)∧b≠X.env.locals∧(∀x c,X.env.cells.lookup x=some c→c≠b)∧∀p∈X.pn++pins,p.1≠b) :
  Ap X pins σ H' { s with heap:=h',gens:=g',drawn:=d',toks:=t' }:=by
 obtain ⟨m,⟨o,es,ep,ho,r⟩,_⟩:=id I.loc
 obtain ⟨sl,hL⟩:=u.any ho I.free fun z=>(hch _ z).2.1 rfl
 exact I.step (ch:=ch) hch (fun b o hL hb hc e n=>u.keep b o e n (fun z=>(AU.mp (I.stkSub b z)).elim hL hb) hc) (fun b o _ _ hc e n=>u.any e n hc) (fun b o hc e n=>u.free b o e n hc) (fun b o hc e=>u.there b o e hc) u.tups u.frzs u.tbls (fun m' hm=>by
  obtain ⟨o',es',ep',ho',r'⟩:=hm
  rw [ho] at ho';cases ho'
  exact ⟨_,es',ep',hL,r'⟩) hok hg
theorem Ap.turned {t':Nat}{it:HR}(I:Ap X pins σ H s)(k:∀b o,b≠it→s.heap.get? b=some o→h'.get? b=some o)(hn:H it=none)(hL:it≠X.env.locals)
  (h1:it∈X.ex∨X.s₀.heap.objs.size≤it) (h2:∀x c,X.env.cells.lookup x=some c→c≠it) (h3:∀p∈X.pn++pins,p.1≠it):Ap X pins σ H { s with heap:=h',toks:=t' }:=by
 have nit:∀b u,H b=some u→b≠it:=fun b u e z=>by rw [z,hn] at e;cases e
 refine I.step (g':=s.gens) (d':=s.drawn) (ch:=[it]) (fun b hb=>?_) (fun b o _ _ hc e _=>k b o (fun z=>hc (by simp [z])) e) (fun b o _ _ hc e _=>⟨o.slots,k b o (fun z=>hc (by simp [z])) e⟩) (fun _ _ _ _ n=>n)
  (fun b o hc e=>⟨o,k b o (fun z=>hc (by simp [z])) e⟩) (fun _ _ e=>e) (fun _ _ _ e=>e) (fun b ps e=>⟨#[],by rw [e];simp⟩) (fun m hm=>?_) (fun b u e=>?_) I.bare
 ·have e:b=it:=by simpa using hb
  subst e
  exact ⟨h1,hL,h2,h3⟩
 ·obtain ⟨o,es,ep,ho,r⟩:=hm
  exact ⟨o,es,ep,k _ o (CN hL) ho,r⟩
 ·refine (I.hok b u e).stay (fun c v hc q=>k c v ?_ q) (fun _ q=>q) fun _ _ q=>q
  rcases hc with z|z
  ·rw [z];exact nit b u e
  ·exact nit c _ z
theorem Ap.tok (I:Ap X pins σ H s)(t:Nat):Ap X pins σ H { s with toks:=t }:=I.un (h':=s.heap) (t':=t) Un.refl I.hok
theorem Ap.kept {t':Nat}(I:Ap X pins σ H s)(k:∀b u,s.heap.get? b=some u→h'.get? b=some u):Ap X pins σ H { s with heap:=h',toks:=t' }:=I.un (Un.kept k) (I.hok.kept k)
theorem Ap.laid {a:HR}{o:HO}{t':Nat}(I:Ap X pins σ H s)(k:∀b u,s.heap.get? b=some u→h'.get? b=some u)(hp:s.heap.objs.size≤a)(new:Bf X.prog X.w (upd H a o) h' a o) :
  Ap X pins σ (upd H a o) { s with heap:=h',toks:=t' }:=I.un (Un.laid k hp (I.hok.fresh hp)) (I.hok.laid k hp new)
theorem Ap.write {x e:HR}{o:HO}{t':Nat}(I:Ap X pins σ H s)(mu:Mut (H x))(he:e=x∨H e=some (.own x))(k:∀b u,b≠e→s.heap.get? b=some u→h'.get? b=some u)(heo:∃u,h'.get? e=some u)
  (new:Bf X.prog X.w (upd H x o) h' x o):Ap X pins σ (upd H x o) { s with heap:=h',toks:=t' }:=I.un (Un.write mu he k heo) (I.hok.write mu he k heo new)
theorem Ap.weak {σ':List (Option V)}(I:Ap X pins σ H s)(hl:σ'.length=σ.length)(w:∀(i:Nat) v,σ'[i]? =some (some v)→σ[i]? =some (some v)):Ap X pins σ' H s:=
 ⟨I.ok,I.os,I.bare,I.base,let ⟨m,hn,hl'⟩:=I.loc;⟨m,hn,fun i x v e1 e2 e3=>hl' i x v e1 (w i v e2) e3⟩,I.cell,I.free,I.freeC,I.pin,I.hok,hl.trans I.len⟩
theorem Ap.pins_of {pins':List (HR×Obj)}(I:Ap X pins σ H s)(h:∀p∈pins',s.heap.get? p.1=some p.2∧H p.1=none∧p.1≠X.env.locals∧p.1∉X.fs∧∀v,p.2.data≠.cell v):Ap X pins' σ H s:=
 ⟨I.ok,I.os,I.bare,I.base,I.loc,I.cell,I.free,I.freeC,fun p hp=>(BV.mp hp).elim (fun z=>I.pin p (EN _ z)) (h p),I.hok,I.len⟩
theorem Wd {N:HW}(hN:N.Nodup){i j:Nat}{x:Str}(a:N[i]? =some x)(b:N[j]? =some x):i=j:=by
 obtain ⟨h1,e1⟩:=BI.mp a
 obtain ⟨h2,e2⟩:=BI.mp b
 exact (List.getElem_inj hN).mp (e1.trans e2.symm)
theorem Su {M:Model}{A:HS}{E:HP→HQ→Prop}{i:Nat}{x:Str}{v:V}{u:HP}{Q:Unit→HQ→Prop}(I:Ap X pins σ H s)(hN:X.N.Nodup)(hi:X.N[i]? =some x)(hx:Loc X.env.scope x)(r:RelV v u)
  (h:∀s',Ap X pins (σ.set i (some v)) H s'→(∃a,Heap.SameBut a s.heap s'.heap∧(a=X.env.locals∨X.env.cells.lookup x=some a))→Q () s') (hf:X.fn x=true∨X.env.scope.names.lookup x=some .local:=by first|exact .inl rfl|exact .inr rfl|assumption):wpAny M A (storeName X.env x u) Q E s:=by
 obtain ⟨m,hn,hl⟩:=id I.loc
 have hcls:(X.env.scope.kind==.class||(X.env.scope.kind==.module&&X.env.locals != X.env.globals))=false:=by rw [I.ok.kind];rfl
 have hiσ:i<σ.length:=by rw [I.len];exact (BI.mp hi).1
 have cne:=I.cne
 have tracked:∀{a:HR} {h':Heap},(∃o,s.heap.get? a=some o∧H a=none)→Heap.SameBut a s.heap h'→Jz X.prog X.w H h':=fun {a h'} ha hs b ob e=>by
  obtain ⟨_,_,hfree⟩:=ha
  refine (I.hok b ob e).stay (fun c w' hc q=>(hs.2 c ?_).trans q) (fun _ q=>q) fun _ _ q=>q
  rintro rfl
  rcases hc with rfl|hc
  ·rw [hfree] at e;cases e
  ·rw [hfree] at hc;cases hc
 rcases hx with hk|hk
 ·refine wpAny_storeName_local hk hn (fun h' hn' hs=>?_) hcls
  obtain ⟨oL,_,_,hoL,_⟩:=id hn
  refine h _ ⟨I.ok,I.os,I.bare,⟨fun b o e n hb hx=>?_,fun b o e n hb hx=>?_,I.base.free,fun b o e hx=>?_,I.base.tups,I.base.frzs,I.base.tbls⟩,⟨_,hn',fun j y v' e1 e2 e3=>?_⟩,fun y c e=>?_,I.free,I.freeC,fun p hp=>?_,tracked ⟨oL,hoL,I.free⟩ hs,by simpa using I.len⟩ ⟨_,hs,.inl rfl⟩
  ·exact (hs.2 b (AS (AL (AH e) I.ok.above))).trans (I.base.keep b o e n hb hx)
  ·obtain ⟨sl,e1⟩:=I.base.slot b o e n hb hx
   exact ⟨sl,(hs.2 b (AS (AL (AH e) I.ok.above))).trans e1⟩
  ·obtain ⟨o',e1⟩:=I.base.there b o e hx
   exact ⟨o',(hs.2 b (AS (AL (AH e) I.ok.above))).trans e1⟩
  ·by_cases hj:j=i
   ·subst hj
    rw [hi] at e1;cases e1
    rw [List.getElem?_set_self hiσ] at e2
    cases e2
    exact ⟨u,r,.inl ⟨hk,by simp⟩⟩
   ·rw [List.getElem?_set_ne (CN hj)] at e2
    obtain ⟨u',r',q⟩:=hl j y v' e1 e2 e3
    refine ⟨u',r',?_⟩
    rcases q with ⟨k,e⟩|⟨k,c,e,z⟩
    ·refine .inl ⟨k,?_⟩
     have:y≠x:=fun e=>hj (Wd hN e1 (e▸hi))
     simp [this,e]
    ·exact .inr ⟨k,c,e,z.sameBut hs (cne y c e)⟩
  ·obtain ⟨w',z⟩:=I.cell y c e
   exact ⟨w',z.sameBut hs (cne y c e)⟩
  ·obtain ⟨e,n,ne,nf,d⟩:=I.pin p hp
   exact ⟨(hs.2 p.1 ne).trans e,n,ne,nf,d⟩
 ·have hfn:X.fn x=true:=by
   rcases hf with z|z
   ·exact z
   ·rw [z] at hk;cases hk
  obtain ⟨c,hc⟩:=I.ok.has x (.inl hk)
  obtain ⟨w',z⟩:=I.cell x c hc
  refine wpAny_storeName_cell I.ok.kind hk hc z (fun h' hc' hs=>?_)
  obtain ⟨oc,hoc,hocd⟩:=id z
  refine h { s with heap:=h' } ⟨I.ok,I.os,I.bare,⟨fun b o e n hb hx=>?_,fun b o e n hb hx=>?_,I.base.free,fun b o e hx=>?_,I.base.tups,I.base.frzs,I.base.tbls⟩,⟨m,hn.sameBut hs (CN (cne x c hc)),fun j y v' e1 e2 e3=>?_⟩,fun y c' e=>?_,I.free,I.freeC,fun p hp=>?_,tracked ⟨oc,hoc,I.freeC x c hc⟩ hs,by simpa using I.len⟩ ⟨c,hs,.inr hc⟩
  ·exact (hs.2 b (AS (AL (AH e) (I.ok.cab x c hfn hc)))).trans (I.base.keep b o e n hb hx)
  ·obtain ⟨sl,e1⟩:=I.base.slot b o e n hb hx
   exact ⟨sl,(hs.2 b (AS (AL (AH e) (I.ok.cab x c hfn hc)))).trans e1⟩
  ·obtain ⟨o',e1⟩:=I.base.there b o e hx
   exact ⟨o',(hs.2 b (AS (AL (AH e) (I.ok.cab x c hfn hc)))).trans e1⟩
  ·by_cases hj:j=i
   ·subst hj
    rw [hi] at e1;cases e1
    rw [List.getElem?_set_self hiσ] at e2
    cases e2
    exact ⟨u,r,.inr ⟨.inl hk,c,hc,hc'⟩⟩
   ·rw [List.getElem?_set_ne (CN hj)] at e2
    obtain ⟨u',r',q⟩:=hl j y v' e1 e2 e3
    refine ⟨u',r',?_⟩
    rcases q with q|⟨k,c',e,z'⟩
    ·exact .inl q
    ·refine .inr ⟨k,c',e,z'.sameBut hs ?_⟩
     rintro rfl
     exact hj (Wd hN e1 (I.ok.inj _ _ _ e hc▸hi))
  ·by_cases hcc:c'=c
   ·subst hcc;exact ⟨_,hc'⟩
   ·obtain ⟨w2,z2⟩:=I.cell y c' e
    exact ⟨w2,z2.sameBut hs hcc⟩
  ·obtain ⟨e,n,ne,nf,d⟩:=I.pin p hp
   refine ⟨(hs.2 p.1 ?_).trans e,n,ne,nf,d⟩
   intro q
   rw [q,hoc] at e
   have q':oc=p.2:=Option.some.inj e
   exact d w' (by rw [←q'];exact hocd)
theorem Ye {M:Model}{A:HS}{E:HP→HQ→Prop}{i:Nat}{x:Str}{v:V}{u:HP}{Q:Unit→HQ→Prop}(I:Ap X pins σ H s)(hN:X.N.Nodup)(hi:X.N[i]? =some x)(hx:Loc X.env.scope x)(r:RelV v u)
  (h:∀s',Ap X pins (σ.set i (some v)) H s'→Q () s') (hf:X.fn x=true∨X.env.scope.names.lookup x=some .local:=by first|exact .inl rfl|exact .inr rfl|assumption):wpAny M A (storeName X.env x u) Q E s:=
 Su I hN hi hx r (fun s' I' _=>h s' I') hf
theorem Ap.call' {s':HQ}{ch:List HR}(I:Ap X pins σ H s)(ho:s'.os=s.os)(u:Un (La X.stack) ch H H' s.heap s'.heap)(hok:Jz X.prog X.w H' s'.heap)(hg:AllBare s'.gens)
  (hch:∀b∈ch,(b∈X.ex∨X.s₀.heap.objs.size≤b)∧b≠X.env.locals∧(∀x c,X.env.cells.lookup x=some c→c≠b)∧∀p∈X.pn++pins,p.1≠b):Ap X pins σ H' s':=by
 obtain ⟨h',g',d',t',o'⟩:=s'
 have e:o'=s.os:=ho
 subst e
 exact I.call (g':=g') (t':=t') (d':=d') u hok hg hch
end
abbrev XK:=HP→IB→Hp→Prop
abbrev St:=List (Option V)
abbrev VK:=V→Hp→Prop
abbrev TE:=St→Hp→VK→Prop
abbrev TT:=St→Hp→(Bool→Hp→Prop)→Prop
abbrev TA:=St→Hp→(ID→Hp→Prop)→Prop
structure Ot where
 nx:St→Hp→Prop
 rt:VK
 bk:St→Hp→Prop:=fun _ _=>False
 ct:St→Hp→Prop:=fun _ _=>False
abbrev TS:=Ot→St→Hp→Prop
def EP (X:Cx)(pins:List (HR×Obj))(σ:St)(Q:VK)(u:HP)(s':HQ):Prop:=∃v H',Ap X pins σ H' s'∧RelV v u∧Q v H'
def TP (X:Cx)(pins:List (HR×Obj))(σ:St)(Q:Bool→Hp→Prop)(b:Bool)(s':HQ):Prop:=∃H',Ap X pins σ H' s'∧Q b H'
def AP (X:Cx)(pins:List (HR×Obj))(σ:St)(Q:ID→Hp→Prop)(us:HY)(s':HQ):Prop:=∃vs H',Ap X pins σ H' s'∧A6 vs us∧Q vs H'
def SP (X:Cx)(pins:List (HR×Obj))(D:Ot)(f:Flow)(s':HQ):Prop:=
 match f with
 |.next=>∃σ' H',Ap X pins σ' H' s'∧D.nx σ' H'
 |.brk=>∃σ' H',Ap X pins σ' H' s'∧D.bk σ' H'
 |.cont=>∃σ' H',Ap X pins σ' H' s'∧D.ct σ' H'
 |.ret u=>∃v σ' H',Ap X pins σ' H' s'∧RelV v u∧D.rt v H'
def PE (X:Cx)(e:Expr)(t:TE):Prop:=
 ∀(pins:List (HR×Obj)) (s:HQ) (σ:St) (H:Hp) (Q:VK),Ap X pins σ H s→t σ H Q→wpAny (model X.prog X.w) X.A (eval e X.env) (EP X pins σ Q) X.xe s
def PT (X:Cx)(e:Expr)(t:TT):Prop:=
 ∀(pins:List (HR×Obj)) (s:HQ) (σ:St) (H:Hp) (Q:Bool→Hp→Prop),Ap X pins σ H s→t σ H Q→wpAny (model X.prog X.w) X.A (isTrue e X.env (eval e X.env)) (TP X pins σ Q) X.xe s
def PW (X:Cx)(e:Expr)(t:TT):Prop:=
 ∀(whole:Sem HP) (pins:List (HR×Obj)) (s:HQ) (σ:St) (H:Hp) (Q:Bool→Hp→Prop),Ap X pins σ H s→t σ H Q→wpAny (model X.prog X.w) X.A (isTrue e X.env whole) (TP X pins σ Q) X.xe s
theorem PW.pt {X:Cx}{e:Expr}{t:TT}(h:PW X e t):PT X e t:=h _
def PA (X:Cx)(es:HZ)(t:TA):Prop:=
 ∀(pos:Pos) (pins:List (HR×Obj)) (s:HQ) (σ:St) (H:Hp) (Q:ID→Hp→Prop),Ap X pins σ H s→t σ H Q→wpAny (model X.prog X.w) X.A (spliced (backTo pos (starEach es X.env))) (AP X pins σ Q) X.xe s
def PS (X:Cx)(st:Stmt)(t:TS):Prop:=
 ∀(pins:List (HR×Obj)) (s:HQ) (σ:St) (H:Hp) (D:Ot),Ap X pins σ H s→t D σ H→wpAny (model X.prog X.w) X.A (exec st X.env) (SP X pins D) X.xe s
def Nt (X:Cx)(st:List Stmt)(t:TS):Prop:=
 ∀(pins:List (HR×Obj)) (s:HQ) (σ:St) (H:Hp) (D:Ot),Ap X pins σ H s→t D σ H→wpAny (model X.prog X.w) X.A (execs st X.env) (SP X pins D) X.xe s
theorem Bi {α:Type}{t:Sem α}{Q Q':α→HQ→Prop}{M:Model}{A:HS}{E:HP→HQ→Prop}{s:HQ}(h:wpAny M A t Q E s)(hQ:∀a s,Q a s→Q' a s):wpAny M A t Q' E s:=BP h hQ fun _ _ x=>x
end L2
namespace L2
open PySem PySem.Spec PyProof.Rows
section
variable {X:Cx}
def Al5 (i:Nat):TE:=fun σ H Q=>∃v,σ[i]? =some (some v)∧Q v H
def tC (v:V):TE:=fun _ H Q=>Q v H
theorem Ami {i:Nat}{x:Str}{pos:Pos}(hN:X.N[i]? =some x)(hv:Vis X.env.scope x)(hd:(x==("__debug__":Str))=false:=by decide)(hcd:(x==("__classdict__":Str))=false:=by decide):PE X (.Name x pos) (Al5 i):=by
 intro pins s σ H Q I h
 obtain ⟨v,e,h⟩:=h
 obtain ⟨m,hn,hl⟩:=I.loc
 obtain ⟨u,r,l⟩:=hl i x v hN e hv
 have fin:EP X pins σ Q u s:=⟨v,H,I,r,h⟩
 rcases l with ⟨hk,hm⟩|⟨hk,c,hc,hcell⟩
 ·exact wpAny_Name (wpAny_loadName_local I.ok.kind hk hn hm fin) hd
 ·rcases hk with hk|hk
  ·exact wpAny_Name (wpAny_loadName_cell I.ok.kind hk hc hcell fin) hd
  ·exact wpAny_Name (wpAny_loadName_free I.ok.kind hk hc hcell fin hcd) hd
theorem Ae {i j pos}:PE X (.Constant (.int i) j pos) (tC (.int i)):=fun _ _ _ H _ I h=>wpAny_Constant_int ⟨.int i,H,I.tok _,⟨_,rfl⟩,h⟩
theorem Lc {b j pos}:PE X (.Constant (.bool b) j pos) (tC (.bl b)):=fun _ _ _ H _ I h=>Constant_bool ⟨.bl b,H,I,rfl,h⟩
theorem Anr {j pos}:PE X (.Constant .none j pos) (tC .non):=fun _ _ _ H _ I h=>Constant_none ⟨.non,H,I,rfl,h⟩
theorem A4 {x j pos}:PE X (.Constant (.str x) j pos) (tC (.str x)):=fun _ _ _ H _ I h=>Calls.Constant_str ⟨.str x,H,I.tok _,⟨_,rfl⟩,h⟩
def Gl (X:Cx)(x:Str):Prop:=X.env.kindOf x=some .globalImplicit
theorem Jq {E:HP→HQ→Prop}{pins:List (HR×Obj)}{s:HQ}{σ:St}{H:Hp}{x:Str}{u:HP}{pos:Pos}{Q:HP→HQ→Prop}(I:Ap X pins σ H s)(hg:Gl X x)(hm:X.mg x=some u)(h:Q u s)
  (hd:(x==("__debug__":Str))=false:=by decide):wpAny (model X.prog X.w) X.A (eval (.Name x pos) X.env) Q E s:=
 Calls.Name_function_global I.ok.kind hg (Calls.loadGlobal_global (by rw [I.ok.glob];exact I.mod.glob.keeps I.bk) hm h) hd
theorem Ez {E:HP→HQ→Prop}{pins:List (HR×Obj)}{s:HQ}{σ:St}{H:Hp}{x:Str}{u:HP}{pos:Pos}{Q:HP→HQ→Prop}(I:Ap X pins σ H s)(hg:Gl X x)(hm:X.mg x=none)(hv:bootBuiltins x=some u)(h:Q u s)
  (hn:x≠"__name__":=by decide) (hd:(x==("__debug__":Str))=false:=by decide):wpAny (model X.prog X.w) X.A (eval (.Name x pos) X.env) Q E s:=by
 obtain ⟨mb,h1,h2⟩:=I.mod.blt
 exact Calls.Name_function_global I.ok.kind hg (Calls.loadGlobal_builtin (by rw [I.ok.glob];exact I.mod.glob.keeps I.bk) hm (by rw [I.ok.blt];exact h1.keeps I.bk) ((h2 x hn).trans hv) h) hd
theorem Ajz {x:Str}{v:V}{u:HP}{pos:Pos}(hg:Gl X x)(hm:X.mg x=some u)(r:RelV v u)(hd:(x==("__debug__":Str))=false:=by decide):PE X (.Name x pos) (tC v):=
 fun _ _ _ H _ I h=>Jq I hg hm ⟨v,H,I,r,h⟩ hd
theorem Aj0 {x:Str}{v:V}{u:HP}{pos:Pos}(hg:Gl X x)(hm:X.mg x=none)(hv:bootBuiltins x=some u)(r:RelV v u)(hn:x≠"__name__":=by decide)(hd:(x==("__debug__":Str))=false:=by decide):PE X (.Name x pos) (tC v):=
 fun _ _ _ H _ I h=>Ez I hg hm hv ⟨v,H,I,r,h⟩ hn hd
variable {a b:Expr}{ta tb:TE}{pos:Pos}
def PC (X:Cx)(op:CmpOp)(a b:Expr)(t:TE):Prop:=
 ∀(pins:List (HR×Obj)) (s:HQ) (σ:St) (H:Hp) (Q:VK),Ap X pins σ H s→t σ H Q →
  wpAny (model X.prog X.w) X.A (eval a X.env) (fun v s₁=>wpAny (model X.prog X.w) X.A (eval b X.env) (fun u s₂=>wpAny (model X.prog X.w) X.A (compareOp op v u) (EP X pins σ Q) X.xe s₂) X.xe s₁) X.xe s
theorem Aee (b:Expr){op:CmpOp}(h:op≠.In)(h2:op≠.NotIn):behindInMarks op b=false:=by
 have e1:(op==CmpOp.In)=false:=by cases op<;>first|rfl|exact absurd rfl h
 have e2:(op==CmpOp.NotIn)=false:=by cases op<;>first|rfl|exact absurd rfl h2
 cases b<;>simp [behindInMarks,e1,e2]
def Ara (ta:TE):TE:=fun σ H Q=>ta σ H fun x H1=>Q (.bl (decide (x=.non))) H1
theorem RelV.none_iff {x:V}{v:HP}(r:RelV x v):(v==Value.none)=decide (x=.non):=by
 cases x with
 |non=>cases r;rfl
 |bl _=>cases r;rfl
 |int _=>obtain ⟨t,rfl⟩:=r;rfl
 |str _=>obtain ⟨t,rfl⟩:=r;rfl
 |byt _=>obtain ⟨t,rfl⟩:=r;rfl
 |flt _=>obtain ⟨t,rfl⟩:=r;rfl
 |ref _=>cases r;rfl
 |ty _=>cases r;rfl
theorem Ant {j pos'}(ha:PE X a ta):PC X .Is a (.Constant .none j pos') (Ara ta):=by
 intro pins s σ H Q I h
 refine Bi (ha pins s σ H _ I h) fun v s1 ⟨x,H1,I1,r1,q1⟩=>?_
 exact Constant_none (is_none_gen ⟨.bl _,H1,I1,by rw [r1.none_iff];rfl,q1⟩)
def tB (t:TE):TT:=fun σ H Q=>t σ H fun x H1=>∃c,x=.bl c∧Q c H1
theorem Ur {op:CmpOp}{t:TE}(h:PC X op a b t)(h1:behindInMarks op b=false:=by first|exact Aee _ (by decide) (by decide)|rfl):PT X (.Compare a [op] [b] pos) (tB t):=by
 intro pins s σ H Q I hw
 refine wpAny_isTrue_Compare1 (Bi (h pins s σ H _ I hw) fun v s1 h1=>Bi h1 fun u s2 h2=>Bi h2 fun c s3 ⟨x,H1,I1,r1,q1⟩=>?_) h1
 obtain ⟨d,rfl,q⟩:=q1
 cases r1
 exact CW ⟨H1,I1,q⟩
theorem Aog {e:Expr}{t:TE}(h:PE X e t)(he:∀whole,isTrue e X.env whole=(do let v ←whole;standAt e.pos;holding [v] (truthy v)):=by intro _;rfl):PT X e (tB t):=by
 intro pins s σ H Q I hw
 refine isTrue_plain (Bi (h pins s σ H _ I hw) fun v s1 ⟨x,H1,I1,r1,q1⟩=>?_) (he _)
 obtain ⟨d,rfl,q⟩:=q1
 cases r1
 exact CW ⟨H1,I1,q⟩
variable {tA tB':TT}{Eo:HZ}
def Amq (t u:TT):TT:=fun σ H Q=>t σ H fun c H1=>if c=true then u σ H1 Q else Q false H1
def tOr (t u:TT):TT:=fun σ H Q=>t σ H fun c H1=>if c=true then Q true H1 else u σ H1 Q
def As0 (t:TT):TT:=fun σ H Q=>t σ H fun c H1=>Q (!c) H1
theorem Mg (ha:PT X a tA):PW X (.BoolOp .And [a] pos) tA:=by
 intro wh pins s σ H Q I h
 refine isTrue_and (Bi (ha pins s σ H Q I h) fun c s1 e=>?_)
 cases c with
 |true=>exact isTrue_and_nil e
 |false=>exact e
theorem F8 (ha:PT X a tA):PW X (.BoolOp .Or [a] pos) tA:=by
 intro wh pins s σ H Q I h
 refine isTrue_or (Bi (ha pins s σ H Q I h) fun c s1 e=>?_)
 cases c with
 |false=>exact isTrue_or_nil e
 |true=>exact e
theorem Ald (ha:PT X a tA)(hb:PW X (.BoolOp .And (b::Eo) pos) tB'):PW X (.BoolOp .And (a::b::Eo) pos) (Amq tA tB'):=by
 intro wh pins s σ H Q I h
 refine isTrue_and (Bi (ha pins s σ H _ I h) fun c s1 ⟨H1,I1,q1⟩=>?_)
 cases c with
 |true=>exact hb wh pins s1 σ H1 Q I1 q1
 |false=>exact ⟨H1,I1,q1⟩
theorem Apa (ha:PT X a tA)(hb:PW X (.BoolOp .Or (b::Eo) pos) tB'):PW X (.BoolOp .Or (a::b::Eo) pos) (tOr tA tB'):=by
 intro wh pins s σ H Q I h
 refine isTrue_or (Bi (ha pins s σ H _ I h) fun c s1 ⟨H1,I1,q1⟩=>?_)
 cases c with
 |true=>exact ⟨H1,I1,q1⟩
 |false=>exact hb wh pins s1 σ H1 Q I1 q1
theorem Bu (ha:PT X a tA):PT X (.UnaryOp .Not a pos) (As0 tA):=by
 intro pins s σ H Q I h
 exact isTrue_not (ha pins s σ H (fun c H1=>Q (!c) H1) I h)
def Ahb (ta tb:TE):TE:=fun σ H Q=>ta σ H fun x H1=>∃c,x=.bl c∧if c=true then tb σ H1 Q else Q (.bl false) H1
def Aev (ta:TE):TE:=fun σ H Q=>ta σ H fun x H1=>∃c,x=.bl c∧Q (.bl (!c)) H1
theorem Nc {op}{t:TE}(h:PE X a t):PE X (.BoolOp op [a] pos) t:=fun pins s σ H Q I hw=>BoolOp_one (h pins s σ H Q I hw)
theorem Amm (ha:PE X a ta)(hb:PE X (.BoolOp .And (b::Eo) pos) tb):PE X (.BoolOp .And (a::b::Eo) pos) (Ahb ta tb):=by
 intro pins s σ H Q I h
 refine BoolOp_and (Bi (ha pins s σ H _ I h) fun v s1 ⟨x,H1,I1,r1,q1⟩=>?_)
 obtain ⟨c,rfl,q1⟩:=q1
 cases r1
 refine CW ?_
 cases c with
 |true=>exact hb pins s1 σ H1 Q I1 q1
 |false=>exact ⟨.bl false,H1,I1,rfl,q1⟩
theorem Anc (ha:PE X a ta):PE X (.UnaryOp .Not a pos) (Aev ta):=by
 intro pins s σ H Q I h
 refine UnaryOp_ (Bi (ha pins s σ H _ I h) fun v s1 ⟨x,H1,I1,r1,q1⟩=>?_)
 obtain ⟨c,rfl,q1⟩:=q1
 cases r1
 exact not_of (CW ⟨.bl (!c),H1,I1,rfl,q1⟩)
def tIf (t:TT)(ta tb:TE):TE:=fun σ H Q=>t σ H fun c H1=>if c=true then ta σ H1 Q else tb σ H1 Q
theorem Afk {c:Expr}(hc:PT X c tA)(ha:PE X a ta)(hb:PE X b tb):PE X (.IfExp c a b pos) (tIf tA ta tb):=by
 intro pins s σ H Q I h
 refine wpAny_IfExp (Bi (hc pins s σ H _ I h) fun d s1 ⟨H1,I1,q1⟩=>?_)
 cases d with
 |true=>exact ha pins s1 σ H1 Q I1 q1
 |false=>exact hb pins s1 σ H1 Q I1 q1
end
end L2
namespace L2
open PySem PySem.Spec PyProof.Rows
def A1 (K:KKf)(H:Hp)(a:HR)(xs:ID):Prop:=
 Rd H a (.lst xs) ∨
  ∃(o:Obj) (its:Array HP) (n:Nat),K.lookup a=some o∧o.cls=.type "list"∧o.dict=none∧o.data=.seq its n∧its.size≤sizeLine∧A6 xs its.toList
def D7 (K:KKf)(H:Hp)(a:HR)(xs:ID):Prop:=
 Rd H a (.tup xs) ∨
  ∃(o:Obj) (its:Array HP) (n:Nat),K.lookup a=some o∧o.cls=.type "tuple"∧o.data=.seq its n∧its.size≤sizeLine∧A6 xs its.toList
def Asw:HP→Option V
 |.none=>some .non
 |.bool b=>some (.bl b)
 |.int i _=>some (.int i)
 |.str x _=>some (.str x)
 |.bytes b _=>some (.byt b)
 |.float b _=>some (.flt b)
 |.ref a=>some (.ref a)
 |.type n=>some (.ty n)
 |_=>none
theorem RelV.abs {x:V}{u:HP}(r:RelV x u):Asw u=some x:=by
 cases x with
 |non=>cases r;rfl
 |bl _=>cases r;rfl
 |int _=>obtain ⟨t,rfl⟩:=r;rfl
 |str _=>obtain ⟨t,rfl⟩:=r;rfl
 |byt _=>obtain ⟨t,rfl⟩:=r;rfl
 |flt _=>obtain ⟨t,rfl⟩:=r;rfl
 |ref _=>cases r;rfl
 |ty _=>cases r;rfl
theorem RelV.inj {x y:V}{u:HP}(r:RelV x u)(q:RelV y u):x=y:=Option.some.inj (r.abs.symm.trans q.abs)
theorem A6.inj:∀{xs ys:ID} {us:HY},A6 xs us→A6 ys us→xs=ys
 |_,_,_,.nil,.nil=>rfl
 |_,_,_,.cons r t,.cons r' t'=>by rw [r.inj r',A6.inj t t']
section
variable {X:Cx}{pins:List (HR×Obj)}{σ:St}{H:Hp}{s:HQ}{a:HR}{xs ys:ID}
theorem A1.of {K:KKf}(h:H a=some (.lst xs)):A1 K H a xs:=.inl (.inl h)
theorem D7.of {K:KKf}(h:H a=some (.tup xs)):D7 K H a xs:=.inl (.inl h)
theorem Ap.list (I:Ap X pins σ H s)(h:A1 X.K H a xs):∃its:HY,A6 xs its∧PlainL s.heap a its.toArray∧xs.length≤sizeLine:=by
 rcases h with h|⟨o,its,n,hk,hc,hd,hs,hz,r⟩
 ·obtain ⟨z,its,n,r,e⟩:=h.ok I.hok
  exact ⟨its,r,⟨_,n,e,rfl,rfl,rfl⟩,z⟩
 ·refine ⟨its.toList,r,⟨o,n,I.kIn a o hk,hc,hd,by simpa using hs⟩,?_⟩
  have e:=r.length
  simp only [BK] at e
  omega
theorem Ap.tuple (I:Ap X pins σ H s)(h:D7 X.K H a xs):∃its:HY,A6 xs its∧IsTup s.heap a its.toArray∧xs.length≤sizeLine:=by
 rcases h with h|⟨o,its,n,hk,hc,hs,hz,r⟩
 ·obtain ⟨z,its,r,p⟩:=h.ok I.hok
  exact ⟨its,r,p,z⟩
 ·refine ⟨its.toList,r,⟨o,I.kIn a o hk,hc,n,by simpa using hs⟩,?_⟩
  have e:=r.length
  simp only [BK] at e
  omega
theorem Ap.list_inj (I:Ap X pins σ H s)(h:A1 X.K H a xs)(h':A1 X.K H a ys):xs=ys:=by
 obtain ⟨its,r,⟨o,n,e,_,_,d⟩,_⟩:=I.list h
 obtain ⟨its',r',⟨o',n',e',_,_,d'⟩,_⟩:=I.list h'
 rw [e] at e';cases e'
 rw [d] at d'
 injection d' with d1 _
 have:its=its':=by simpa using congrArg Array.toList d1
 subst this
 exact r.inj r'
theorem Ap.tuple_inj (I:Ap X pins σ H s)(h:D7 X.K H a xs)(h':D7 X.K H a ys):xs=ys:=by
 obtain ⟨its,r,⟨o,e,_,n,d⟩,_⟩:=I.tuple h
 obtain ⟨its',r',⟨o',e',_,n',d'⟩,_⟩:=I.tuple h'
 rw [e] at e';cases e'
 rw [d] at d'
 injection d' with d1 _
 have:its=its':=by simpa using congrArg Array.toList d1
 subst this
 exact r.inj r'
end
abbrev Cx.wish (X:Cx)(E:HP→HQ→Prop):Cx:={ X with xe:=E }
abbrev Cx.nox (X:Cx):Cx:=X.wish fun _ _=>False
theorem Cx.Ok.wish {X:Cx}(ok:X.Ok)(E:HP→HQ→Prop):(X.wish E).Ok:=
 ⟨ok.mod,ok.kind,ok.glob,ok.blt,ok.above,ok.inj,ok.has,ok.cab,ok.hd,ok.frames,ok.stk,ok.exf,ok.bs,ok.bsz,ok.noex,ok.exfs,ok.funs,ok.frf⟩
theorem Cx.Ok.unwish {X:Cx}{E:HP→HQ→Prop}(ok:(X.wish E).Ok):X.Ok:=
 ⟨ok.mod,ok.kind,ok.glob,ok.blt,ok.above,ok.inj,ok.has,ok.cab,ok.hd,ok.frames,ok.stk,ok.exf,ok.bs,ok.bsz,ok.noex,ok.exfs,ok.funs,ok.frf⟩
section
variable {X:Cx}{pins:List (HR×Obj)}{σ:St}{H:Hp}{s:HQ}{E:HP→HQ→Prop}
theorem Ap.wish (I:Ap X pins σ H s)(E:HP→HQ→Prop):Ap (X.wish E) pins σ H s:=⟨I.ok.wish E,I.os,I.bare,I.base,I.loc,I.cell,I.free,I.freeC,I.pin,I.hok,I.len⟩
theorem Ap.unwish (I:Ap (X.wish E) pins σ H s):Ap X pins σ H s:=⟨I.ok.unwish,I.os,I.bare,I.base,I.loc,I.cell,I.free,I.freeC,I.pin,I.hok,I.len⟩
theorem SP.unwish {D:Ot}{f:Flow}{s':HQ}(h:SP (X.wish E) pins D f s'):SP X pins D f s':=by
 cases f with
 |next=>obtain ⟨σ',H',I,q⟩:=h;exact ⟨σ',H',I.unwish,q⟩
 |brk=>obtain ⟨σ',H',I,q⟩:=h;exact ⟨σ',H',I.unwish,q⟩
 |cont=>obtain ⟨σ',H',I,q⟩:=h;exact ⟨σ',H',I.unwish,q⟩
 |ret u=>obtain ⟨v,σ',H',I,r,q⟩:=h;exact ⟨v,σ',H',I.unwish,r,q⟩
theorem Nt.nox {st:List Stmt}{t:TS}(h:Nt X.nox st t):Nt X st t:=fun pins s σ H D I hw=>
 BP (h pins s σ H D (I.wish _) hw) (fun _ _ q=>q.unwish) fun _ _ z=>False.elim z
end
section
variable {X:Cx}{st:Stmt}{Eo:List Stmt}{t u:TS}{e:Expr}{te:TE}{pos:Pos}
def Ard:TS:=fun D σ H=>D.nx σ H
def Asd (t u:TS):TS:=fun D σ H=>t { D with nx:=u D } σ H
theorem Av:Nt X [] Ard:=fun _ _ σ H _ I h=>GC ⟨σ,H,I,h⟩
theorem Aa (h1:PS X st t)(h2:Nt X Eo u):Nt X (st::Eo) (Asd t u):=by
 intro pins s σ H D I h
 refine wpAny_execs_cons (Bi (h1 pins s σ H { D with nx:=u D } I h) fun f s1 q=>?_)
 cases f with
 |next=>
  obtain ⟨σ',H',I',q⟩:=q
  exact h2 pins s1 σ' H' D I' q
 |ret v=>exact q
 |brk=>exact q
 |cont=>exact q
theorem Ar (h1:PS X st t):Nt X [st] t:=by
 intro pins s σ H D I h
 refine wpAny_execs_cons (Bi (h1 pins s σ H D I h) fun f s1 q=>?_)
 cases f with
 |next=>exact GC q
 |ret v=>exact q
 |brk=>exact q
 |cont=>exact q
theorem Ap.quiet {pins:List (HR×Obj)}{σ:St}{H:Hp}{s:HQ}(I:Ap X pins σ H s):interactive X.env=false:=by simp [interactive,I.ok.kind]
def Apd (te:TE):TS:=fun D σ H=>te σ H fun _ H1=>D.nx σ H1
theorem Fz (he:PE X e te)(hs:swapsWith e none pos.line X.env=pure false:=by rfl):PS X (.Expr e pos) (Apd te):=by
 intro pins s σ H D I h
 exact wpAny_Expr_any (Bi (he pins s σ H _ I h) fun v s1 ⟨x,H1,I1,r1,q1⟩=>⟨σ,H1,I1,q1⟩) I.quiet hs
def Aqq (te:TE):TS:=fun D σ H=>te σ H D.rt
theorem Ak8 (he:PE X e te):PS X (.Return (some e) pos) (Aqq te):=by
 intro pins s σ H D I h
 exact wpAny_Return_some (Bi (he pins s σ H _ I h) fun v s1 ⟨x,H1,I1,r1,q1⟩=>⟨x,σ,H1,I1,r1,q1⟩)
def Am0 (c:TT)(t u:TS):TS:=fun D σ H=>c σ H fun b H1=>if b=true then t D σ H1 else u D σ H1
theorem Apj {c:Expr}{a b:List Stmt}{tc:TT}(hc:PT X c tc)(ha:Nt X a t)(hb:Nt X b u):PS X (.If c a b pos) (Am0 tc t u):=by
 intro pins s σ H D I h
 refine wpAny_If (Bi (hc pins s σ H _ I h) fun d s1 ⟨H1,I1,q1⟩=>?_)
 cases d with
 |true=>exact ha pins s1 σ H1 D I1 q1
 |false=>exact hb pins s1 σ H1 D I1 q1
def Amp:TS:=fun _ _ _=>False
theorem Cq:PS X st Amp:=fun _ _ _ _ _ _ h=>h.elim
end
abbrev TG:=V→St→Hp→(St→Hp→Prop)→Prop
abbrev TGs:=ID→St→Hp→(St→Hp→Prop)→Prop
def PG (X:Cx)(target:Expr)(t:TG):Prop:=
 ∀(pins:List (HR×Obj)) (s:HQ) (σ:St) (H:Hp) (v:V) (u:HP) (Q:St→Hp→Prop),Ap X pins σ H s→RelV v u→t v σ H Q →
  wpAny (model X.prog X.w) X.A (assign target X.env u) (fun _ s'=>∃σ' H',Ap X pins σ' H' s'∧Q σ' H') X.xe s
def PGs (X:Cx)(ts:HZ)(t:TGs):Prop:=
 ∀(pins:List (HR×Obj)) (s:HQ) (σ:St) (H:Hp) (vs:ID) (us:HY) (Q:St→Hp→Prop),Ap X pins σ H s→A6 vs us→t vs σ H Q →
  wpAny (model X.prog X.w) X.A (assignInOrder ((assignEach ts X.env).map (·.2)) us) (fun _ s'=>∃σ' H',Ap X pins σ' H' s'∧Q σ' H') X.xe s
section
variable {X:Cx}{pos:Pos}
def Xl (i:Nat):TG:=fun v σ H Q=>Q (σ.set i (some v)) H
theorem Aq {i:Nat}{x:Str}(hN:X.N.Nodup)(hi:X.N[i]? =some x)(hx:Loc X.env.scope x)(hf:X.fn x=true∨X.env.scope.names.lookup x=some .local:=by first|exact .inl rfl|exact .inr rfl|assumption):PG X (.Name x pos) (Xl i):=by
 intro pins s σ H v u Q I r h
 exact wpAny_assign_Name (Ye I hN hi hx r (fun s' I'=>⟨_,H,I',h⟩) hf)
def Asj:TGs:=fun vs σ H Q=>vs=[]∧Q σ H
def Apx (t:TG)(u:TGs):TGs:=fun vs σ H Q=>∃v r,vs=v::r∧t v σ H fun σ' H'=>u r σ' H' Q
theorem Dt:PGs X [] Asj:=by
 intro pins s σ H vs us Q I r h
 obtain ⟨e,h⟩:=h
 subst e
 cases r
 exact assignInOrder_nil ⟨σ,H,I,h⟩
theorem A3 {e:Expr}{es:HZ}{t:TG}{u:TGs}(h1:PG X e t)(h2:PGs X es u)
  (hs:(assignEach (e::es) X.env).map (·.2)=assign e X.env::(assignEach es X.env).map (·.2):=by rfl):PGs X (e::es) (Apx t u):=by
 intro pins s σ H vs us Q I r h
 obtain ⟨v,vr,e1,h⟩:=h
 subst e1
 cases r with
 |cons r rr=>
  rw [hs]
  refine assignInOrder_cons (Bi (h1 pins s σ H _ _ _ I r h) fun _ s1 ⟨σ1,H1,I1,q1⟩=>?_)
  exact h2 pins s1 σ1 H1 _ _ Q I1 rr q1
def Wy (K:KKf)(n:Nat)(t:TGs):TG:=fun v σ H Q=>∃a xs,v=.ref a∧D7 K H a xs∧xs.length=n∧t xs σ H Q
theorem Fi {es:HZ}{k:Nat}{t:TGs}{n:Nat}(hc:X.calm=true)(h:PGs X es t)
  (hn:(assignEach es X.env).length=n:=by rfl) (hst:(assignEach es X.env).findIdx? (·.1)=none:=by rfl):PG X (.Tuple es k pos) (Wy X.K n t):=by
 intro pins s σ H v u Q I r hw
 obtain ⟨a,xs,e1,hq,hl,hw⟩:=hw
 subst e1
 cases r
 obtain ⟨its,rv,ht,hz⟩:=I.tuple hq
 refine assign_Tuple_tuple (I.ok.hd hc) ht (by simp [hn,←hl,rv.length]) hst fun h' hx=>?_
 have I1:Ap X pins σ H { s with heap:=h' }:=I.kept (t':=s.toks) fun b o e=>hx b o (AS (AH e)) e
 exact h pins _ σ H xs _ Q I1 (by simpa using rv) hw
def Afn (te:TE)(g:TG):TS:=fun D σ H=>te σ H fun x H1=>g x σ H1 D.nx
theorem Aag {tg e:Expr}{te:TE}{g:TG}(he:PE X e te)(hg:PG X tg g)(hs:swapsWithSole [tg] e pos.line X.env=pure false:=by rfl)(hw:swappedStores [tg] e X.env=pure none:=by rfl)
  (h1:(assignEach [tg] X.env).map (·.2)=[assign tg X.env]:=by rfl):PS X (.Assign [tg] e pos) (Afn te g):=by
 intro pins s σ H D I h
 refine wpAny_Assign_stores (Bi (he pins s σ H _ I h) fun v s1 ⟨x,H1,I1,r1,q1⟩=>?_) hs hw
 rw [h1]
 exact Bi (hg pins s1 σ H1 x v _ I1 r1 q1) fun _ s2 q=>q
theorem Alc {i:Nat}{x:Str}{e:Expr}{te:TE}{pos':Pos}(hN:X.N.Nodup)(hi:X.N[i]? =some x)(hx:Loc X.env.scope x)(he:PE X e te)(hs:swapsWith e (some (.Name x pos')) pos.line X.env=pure false:=by rfl)(hf:X.fn x=true∨X.env.scope.names.lookup x=some .local:=by first|exact .inl rfl|exact .inr rfl|assumption) :
  PS X (.Assign [.Name x pos'] e pos) (Afn te (Xl i)):=by
 intro pins s σ H D I h
 refine wpAny_Assign_Name (Bi (he pins s σ H _ I h) fun v s1 ⟨y,H1,I1,r1,q1⟩=>?_) hs
 exact Ye I1 hN hi hx r1 (fun s2 I2=>⟨_,H1,I2,q1⟩) hf
end
structure It where
 go:Nat→Hp→Prop
 yld:Nat→Hp→V→Hp→Prop
 stop:Nat→Hp→Prop
def Ll (X:Cx)(pins:List (HR×Obj))(H:Hp)(b:HR):Prop:=
 H b=none∧b≠X.env.locals∧b∉X.fs∧(b∈X.ex∨X.s₀.heap.objs.size≤b)∧(∀x c,X.env.cells.lookup x=some c→c≠b)∧∀p∈X.pn++pins,p.1≠b
theorem Ap.fpOk {X:Cx}{pins:List (HR×Obj)}{σ:St}{H H':Hp}{s:HQ}{b:HR}(I:Ap X pins σ H s)(hb:s.heap.objs.size≤b)(hn:H' b=none):Ll X pins H' b:=by
 refine ⟨hn,CQ (AL I.lt hb),I.nofs hb,.inr (AO I.sz hb),fun x c e z=>?_,fun p hp z=>?_⟩
 ·obtain ⟨v,q⟩:=I.cell x c e
  exact absurd (AL q.lt (by rw [z];exact hb)) (DM _)
 ·exact absurd (AL (AH (I.pin p hp).1) (by rw [z];exact hb)) (DM _)
structure Wx (P:HU)(w:HV)(K:KKf)(tg:Expr)(J:It)(fp:List HR)(it:HR)(tn:Nat→Heap→Prop):Prop where
 mem:it∈fp
 obj:∀i h,tn i h→∀b∈fp,∃o,h.get? b=some o∧∀v,o.data≠.cell v
 keep:∀i h h',tn i h→(∀b∈fp,∀o,h.get? b=some o→h'.get? b=some o)→tn i h'
 item:∀(X:Cx),X.prog=P→X.w=w→X.K=K→X.calm=true→∀(i:Nat) (pins:List (HR×Obj)) (s:HQ) (σ:St) (H:Hp) (E:HP→HQ→Prop),Ap X pins σ H s→(∀b∈fp,Ll X pins H b)→tn i s.heap→J.go i H →
  wpAny (model P w) X.A (pyNext (.ref it)) (fun r s1=>∃u,r=some u ∧
   wpAny (model P w) X.A (letOwnedTupleGo tg (.ref it) u) (fun _ s2=>∃x H',Ap X pins σ H' s2∧RelV x u∧J.yld i H x H'∧tn (i+1) s2.heap∧∀b∈fp,H' b=none) E s1) E s
 done:∀(X:Cx),X.prog=P→X.w=w→X.K=K→X.calm=true→∀(i:Nat) (pins:List (HR×Obj)) (s:HQ) (σ:St) (H:Hp) (E:HP→HQ→Prop),Ap X pins σ H s→(∀b∈fp,Ll X pins H b)→tn i s.heap→J.stop i H →
  wpAny (model P w) X.A (pyNext (.ref it)) (fun r s1=>r=none∧Ap X pins σ H s1) E s
 self:∀(A:HS) (i:Nat) (s:HQ) (Q:HP→HQ→Prop) (E:HP→HQ→Prop),tn i s.heap→Q (.ref it) s→wpAny (model P w) A (pyIter (.ref it)) Q E s
abbrev TI:=St→Hp→(It→Hp→Prop)→Prop
def PIE (X:Cx)(pins:List (HR×Obj))(σ:St)(tg:Expr)(R:It→Hp→Prop)(itv:HP)(s2:HQ):Prop:=
 ∃(it:HR) (fp:List HR) (tn:Nat→Heap→Prop) (J:It) (H':Hp),itv=.ref it∧Ap X pins σ H' s2∧Wx X.prog X.w X.K tg J fp it tn∧tn 0 s2.heap∧(∀b∈fp,Ll X pins H' b)∧R J H'
def PI (X:Cx)(tg iter:Expr)(wi:TI):Prop:=
 ∀(pins:List (HR×Obj)) (s:HQ) (σ:St) (H:Hp) (R:It→Hp→Prop),Ap X pins σ H s→wi σ H R →
  wpAny (model X.prog X.w) X.A (eval iter X.env) (fun v s1=>wpAny (model X.prog X.w) X.A (pyIter v) (PIE X pins σ tg R) X.xe s1) X.xe s
theorem Yg {M:Model}{A:HS}{E:HP→HQ→Prop}{s:HQ}{tg:Expr}{it:HR}{u:HP}{o:Obj}{n:String}{vs:Array HP}{Q:Unit→HQ→Prop}(ho:s.heap.get? it=some o)(hc:o.cls=.type n)(hd:o.data=.fields vs)
  (hn:["enumerate","zip","dict_itemiterator","dict_reverseitemiterator","odict_iterator","itertools.zip_longest","itertools.pairwise"].contains n=false) (hQ:Q () s):wpAny M A (letOwnedTupleGo tg (.ref it) u) Q E s:=by
 unfold letOwnedTupleGo
 cases tg<;>first
  |exact AC hQ
  | (cases u<;>first
    |exact AC hQ
    | (refine AA (wpAny_load ho ?_)
       rw [hc,hd]
       show wpAny M A (if (["enumerate","zip","dict_itemiterator","dict_reverseitemiterator","odict_iterator","itertools.zip_longest","itertools.pairwise"].contains n&&vs[0]? ==some (rawInt _))=true then _ else _) Q E s
       rw [AI (by intro h;rw [hn,ET] at h;cases h)]
       exact AC hQ))
def Itl (K:KKf)(a:HR):It:=
 ⟨fun i H=>∃xs x,A1 K H a xs∧xs[i]? =some x,fun i H x H'=>H'=H∧∀xs,A1 K H a xs→xs[i]? =some x,fun i H=>∃xs,A1 K H a xs∧xs.length≤i⟩
def Itt (K:KKf)(a:HR):It:=
 ⟨fun i H=>∃xs x,D7 K H a xs∧xs[i]? =some x,fun i H x H'=>H'=H∧∀xs,D7 K H a xs→xs[i]? =some x,fun i H=>∃xs,D7 K H a xs∧xs.length≤i⟩
def Itr (lo:Int)(n:Nat):It:=⟨fun i _=>i<n,fun i H x H'=>H'=H∧x=.int (lo+i),fun i _=>n≤i⟩
theorem Ac9 {P:HU}{w:HV}{K:KKf}{tg:Expr}(a it:HR):Wx P w K tg (Itl K a) [it] it (fun i h=>h.IsListIter it a i) where
 mem:=by simp
 obj:=fun i h st b hb=>by
  have e:b=it:=by simpa using hb
  subst e
  obtain ⟨o,e,c,d⟩:=st
  exact ⟨o,e,fun v z=>by rw [d] at z;cases z⟩
 keep:=fun i h h' st k=>st.at fun o e=>k it (by simp) o e
 item:=by
  intro X hP hw hK hc i pins s σ H E I hf st hg
  subst hP hw hK
  obtain ⟨xs,x,hq,hx⟩:=hg
  obtain ⟨its,rv,p,hz⟩:=I.list hq
  obtain ⟨u,hu,ru⟩:=rv.get hx
  obtain ⟨f0,f1,f2,f3,f4,f5⟩:=hf it (by simp)
  refine wpAny_pyNext_list_item st p.isList (x:=u) (by simpa using hu) fun h' st' sb=>?_
  have I1:Ap X pins σ H { s with heap:=h' }:=I.turned (t':=s.toks) (fun b o hb e=>(sb.2 b hb).trans e) f0 f1 f3 f4 f5
  obtain ⟨o,e,c,d⟩:=id st'
  exact ⟨u,rfl,Yg (s:={ s with heap:=h' }) e c d (by decide) ⟨x,H,I1,ru,⟨rfl,fun ys hy=>by rw [I.list_inj hy hq];exact hx⟩,st',fun b hb=>(hf b hb).1⟩⟩
 done:=by
  intro X hP hw hK hc i pins s σ H E I hf st hg
  subst hP hw hK
  obtain ⟨xs,hq,hx⟩:=hg
  obtain ⟨its,rv,p,hz⟩:=I.list hq
  obtain ⟨f0,f1,f2,f3,f4,f5⟩:=hf it (by simp)
  have hl:=rv.length
  exact wpAny_pyNext_list_end (I.ok.hd hc) st p.isList (by simp;omega) fun h' eb=>⟨rfl,I.turned (t':=s.toks) (fun b o hb e=>eb b o hb e) f0 f1 f3 f4 f5⟩
 self:=fun _ _ _ _ _ st h=>wpAny_pyIter_listiter st h
theorem Aad {P:HU}{w:HV}{K:KKf}{tg:Expr}(a it:HR):Wx P w K tg (Itt K a) [it] it (fun i h=>h.IsTupleIter it a i) where
 mem:=by simp
 obj:=fun i h st b hb=>by
  have e:b=it:=by simpa using hb
  subst e
  obtain ⟨o,e,c,d⟩:=st
  exact ⟨o,e,fun v z=>by rw [d] at z;cases z⟩
 keep:=fun i h h' st k=>st.at fun o e=>k it (by simp) o e
 item:=by
  intro X hP hw hK hc i pins s σ H E I hf st hg
  subst hP hw hK
  obtain ⟨xs,x,hq,hx⟩:=hg
  obtain ⟨its,rv,p,hz⟩:=I.tuple hq
  obtain ⟨u,hu,ru⟩:=rv.get hx
  obtain ⟨f0,f1,f2,f3,f4,f5⟩:=hf it (by simp)
  refine wpAny_pyNext_tuple_item st (show s.heap.IsTuple a its.toArray from p) (x:=u) (by simpa using hu) fun h' st' sb=>?_
  have I1:Ap X pins σ H { s with heap:=h' }:=I.turned (t':=s.toks) (fun b o hb e=>(sb.2 b hb).trans e) f0 f1 f3 f4 f5
  obtain ⟨o,e,c,d⟩:=id st'
  exact ⟨u,rfl,Yg (s:={ s with heap:=h' }) e c d (by decide) ⟨x,H,I1,ru,⟨rfl,fun ys hy=>by rw [I.tuple_inj hy hq];exact hx⟩,st',fun b hb=>(hf b hb).1⟩⟩
 done:=by
  intro X hP hw hK hc i pins s σ H E I hf st hg
  subst hP hw hK
  obtain ⟨xs,hq,hx⟩:=hg
  obtain ⟨its,rv,p,hz⟩:=I.tuple hq
  obtain ⟨f0,f1,f2,f3,f4,f5⟩:=hf it (by simp)
  have hl:=rv.length
  exact wpAny_pyNext_tuple_end (I.ok.hd hc) st (show s.heap.IsTuple a its.toArray from p) (by simp;omega) fun h' eb=>⟨rfl,I.turned (t':=s.toks) (fun b o hb e=>eb b o hb e) f0 f1 f3 f4 f5⟩
 self:=fun _ _ _ _ _ st h=>wpAny_pyIter_tupleiter st h
theorem Yk {P:HU}{w:HV}{K:KKf}{tg:Expr}(it:HR)(lo:Int)(n:Nat):Wx P w K tg (Itr lo n) [it] it (fun i h=>IsRangeIter h it (lo+(i:Nat)*1) ((n:Int)-(i:Nat)) 1) where
 mem:=by simp
 obj:=fun i h st b hb=>by
  have e:b=it:=by simpa using hb
  subst e
  exact ⟨_,st,fun v z=>by
   have z':Data.fields _=Data.cell v:=z
   cases z'⟩
 keep:=fun i h h' st k=>k it (by simp) _ st
 item:=by
  intro X hP hw hK hc i pins s σ H E I hf st hg
  subst hP hw hK
  obtain ⟨f0,f1,f2,f3,f4,f5⟩:=hf it (by simp)
  have W:=Walks.range (prog:=X.prog) (w:=X.w) (I.ok.hd hc) it lo 1 n
  refine W.item i s _ _ hg st fun v h' tk hv st' kk=>?_
  obtain ⟨t,rfl⟩:=hv
  have I1:Ap X pins σ H { s with heap:=h',toks:=tk }:=I.turned (fun b o hb e=>kk b o (by simpa using hb) e) f0 f1 f3 f4 f5
  refine ⟨_,rfl,Yg (s:={ s with heap:=h',toks:=tk }) (n:="range_iterator") st' rfl rfl (by decide) ⟨.int (lo+i),H,I1,⟨t,?_⟩,⟨rfl,rfl⟩,st',fun b hb=>(hf b hb).1⟩⟩
  rw [Int.mul_one]
 done:=by
  intro X hP hw hK hc i pins s σ H E I hf st hg
  subst hP hw hK
  obtain ⟨f0,f1,f2,f3,f4,f5⟩:=hf it (by simp)
  exact wpAny_pyNext_range_end (I.ok.hd hc) st (by have:n≤i:=hg;omega) fun h' eb=>⟨rfl,I.turned (t':=s.toks) (fun b o hb e=>eb b o hb e) f0 f1 f3 f4 f5⟩
 self:=fun _ _ _ _ _ st h=>wpAny_pyIter_rangeiter st h
end L2
namespace L2
open PySem PySem.Spec PyProof.Rows
section
variable {X:Cx}{tg:Expr}
def Arp (K:KKf)(tl:TE):TI:=fun σ H R=>tl σ H fun x H1=>∃a,x=.ref a∧(∃xs,A1 K H1 a xs)∧R (Itl K a) H1
def Ata (K:KKf)(tl:TE):TI:=fun σ H R=>tl σ H fun x H1=>∃a,x=.ref a∧(∃xs,D7 K H1 a xs)∧R (Itt K a) H1
theorem Bw {l:Expr}{tl:TE}(hl:PE X l tl):PI X tg l (Arp X.K tl):=by
 intro pins s σ H R I h
 refine Bi (hl pins s σ H _ I h) fun v s1 ⟨x,H1,I1,r1,q1⟩=>?_
 obtain ⟨a,e,⟨xs,hq⟩,q⟩:=q1
 subst e
 cases r1
 obtain ⟨its,rv,p,hz⟩:=I1.list hq
 refine GU p.isList ?_
 refine ⟨s1.heap.objs.size,[s1.heap.objs.size],_,_,H1,rfl,I1.kept (t':=s1.toks) fun b o e=>AB _ e,Ac9 a _,⟨_,AG _ rfl,rfl,rfl⟩,fun b hb=>?_,q⟩
 have e:b=s1.heap.objs.size:=by simpa using hb
 subst e
 exact I1.fpOk (AF _) (I1.hok.fresh (AF _))
theorem Ama {l:Expr}{tl:TE}(hl:PE X l tl):PI X tg l (Ata X.K tl):=by
 intro pins s σ H R I h
 refine Bi (hl pins s σ H _ I h) fun v s1 ⟨x,H1,I1,r1,q1⟩=>?_
 obtain ⟨a,e,⟨xs,hq⟩,q⟩:=q1
 subst e
 cases r1
 obtain ⟨its,rv,p,hz⟩:=I1.tuple hq
 refine wpAny_pyIter_tuple (show s1.heap.IsTuple a its.toArray from p) ?_
 refine ⟨s1.heap.objs.size,[s1.heap.objs.size],_,_,H1,rfl,I1.kept (t':=s1.toks) fun b o e=>AB _ e,Aad a _,⟨_,AG _ rfl,rfl,rfl⟩,fun b hb=>?_,q⟩
 have e:b=s1.heap.objs.size:=by simpa using hb
 subst e
 exact I1.fpOk (AF _) (I1.hok.fresh (AF _))
theorem X2 {pins:List (HR×Obj)}{σ:St}{H:Hp}{s:HQ}{R:It→Hp→Prop}{E:HP→HQ→Prop}{lo hi:Int}{t u v:Tok}{tk:Nat}(I:Ap X pins σ H s)(h1:-(2 ^ 62)≤lo)(h2:lo<2 ^ 62)(h3:-(2 ^ 62)≤hi)(h4:hi<2 ^ 62)
  (q:R (Itr lo (hi-lo).toNat) H):wpAny (model X.prog X.w) X.A (pyIter (.ref s.heap.objs.size)) (PIE X pins σ tg R) E { s with heap:=s.heap.push { cls:=.type "range",data:=.fields #[.int lo t,.int hi u,.int 1 v] },toks:=tk }:=by
 refine wpAny_pyIter_range (IsRange.new ..) (small_one h1 h2 h3 h4) ?_
 have I1:Ap X pins σ H { s with heap:=s.heap.push { cls:=.type "range",data:=.fields #[.int lo t,.int hi u,.int 1 v] },toks:=tk }:=I.kept fun b o e=>AB _ e
 refine ⟨(s.heap.push { cls:=.type "range",data:=.fields #[.int lo t,.int hi u,.int 1 v] }).objs.size,[(s.heap.push { cls:=.type "range",data:=.fields #[.int lo t,.int hi u,.int 1 v] }).objs.size],_,_,H,rfl,
  I1.kept (t':=tk) fun b o e=>AB _ e,Yk _ lo (hi-lo).toNat,?_,fun b hb=>?_,q⟩
 ·have e1:lo+((0:Nat):Int)*1=lo:=by simp
  have e2:(((hi-lo).toNat:Nat):Int)-((0:Nat):Int)=Builtin.Range.rangeSize lo hi 1:=by rw [rangeSize_one];split<;>omega
  show IsRangeIter _ _ (lo+((0:Nat):Int)*1) ((((hi-lo).toNat:Nat):Int)-((0:Nat):Int)) 1
  rw [e1,e2]
  exact AG _ rfl
 ·have e:b=(s.heap.push { cls:=.type "range",data:=.fields #[.int lo t,.int hi u,.int 1 v] }).objs.size:=by simpa using hb
  subst e
  exact I1.fpOk (AF _) (I1.hok.fresh (AF _))
def Apo (ta:TA):TI:=fun σ H R=>ta σ H fun vs H1=>∃j:Int,vs=[.int j]∧-(2 ^ 62)≤j∧j<2 ^ 62∧R (Itr 0 j.toNat) H1
def Aru (ta:TA):TI:=fun σ H R=>ta σ H fun vs H1=>∃i j:Int,vs=[.int i,.int j]∧(-(2 ^ 62)≤i∧i<2 ^ 62∧-(2 ^ 62)≤j∧j<2 ^ 62)∧R (Itr i (j-i).toNat) H1
theorem R1 {a:Expr}{ta:TA}{p pos:Pos}(hg:Gl X "range")(hm:X.mg "range"=none)(ha:PA X [a] ta)(hs:starEach [a] X.env=[(false,eval a X.env)]:=by rfl):PI X tg (.Call (.Name "range" p) [a] [] pos) (Apo ta):=by
 intro pins s σ H R I h
 refine Call_ (Ez I hg hm boot_range (BX (Bi (ha pos pins s σ H _ I h) fun us s1 ⟨vs,H1,I1,r1,q1⟩=>?_) hs rfl))
 obtain ⟨j,e,q1,q2,q⟩:=q1
 subst e
 cases r1 with
 |cons r rr=>
  cases rr
  obtain ⟨t,rfl⟩:=r
  exact call_range_1 (X2 I1 (by omega) (by omega) q1 q2 (by simpa using q))
theorem Acq {a b:Expr}{ta:TA}{p pos:Pos}(hg:Gl X "range")(hm:X.mg "range"=none)(ha:PA X [a,b] ta)(hs:starEach [a,b] X.env=[(false,eval a X.env),(false,eval b X.env)]:=by rfl)(hs2:starEach [b] X.env=[(false,eval b X.env)]:=by rfl) :
  PI X tg (.Call (.Name "range" p) [a,b] [] pos) (Aru ta):=by
 intro pins s σ H R I h
 refine Call_ (Ez I hg hm boot_range (BX (Bi (ha pos pins s σ H _ I h) fun us s1 ⟨vs,H1,I1,r1,q1⟩=>?_) (by rw [hs,hs2]) (by rw [hs2];rfl)))
 obtain ⟨i,j,e,⟨q1,q2,q3,q4⟩,q⟩:=q1
 subst e
 cases r1 with
 | cons r rr=>
  cases rr with
  |cons r' rr=>
   cases rr
   obtain ⟨t,rfl⟩:=r
   obtain ⟨t',rfl⟩:=r'
   exact call_range_2 (X2 I1 q1 q2 q3 q4 q)
def Asb (wi:TI)(g:TG)(tb:TS):TS:=fun D σ H=>wi σ H fun J H1=>∃W:Nat→Nat→St→Hp→Prop,(∃m,W 0 m σ H1)∧∀i m σ H,W i m σ H →
 (J.stop i H∧D.nx σ H)∨(J.go i H∧∃N:St→Hp→Prop,(∀σ' H',N σ' H'→∃m',m'<m∧W (i+1) m' σ' H')∧∀x H',J.yld i H x H'→g x σ H' fun σ2 H2=>tb { D with nx:=N,ct:=N,bk:=D.nx } σ2 H2)
def Uz (fp:List HR)(h:Heap):List (HR×Obj):=fp.filterMap fun b=>(h.get? b).map fun o=>(b,o)
theorem Cu {fp:List HR}{h:Heap}{b:HR}{o:Obj}(hb:b∈fp)(e:h.get? b=some o):(b,o)∈Uz fp h:=ED.mpr ⟨b,hb,by rw [e];rfl⟩
theorem Adk {fp:List HR}{h:Heap}{p:HR×Obj}(hp:p∈Uz fp h):p.1∈fp∧h.get? p.1=some p.2:=by
 obtain ⟨b,hb,e⟩:=ED.mp hp
 cases q:h.get? b with
 |none=>rw [q] at e;cases e
 |some o=>
  rw [q] at e
  have e':(b,o)=p:=Option.some.inj e
  subst e'
  exact ⟨hb,q⟩
theorem Ap.pinned {pins:List (HR×Obj)}{σ:St}{H:Hp}{s:HQ}{fp:List HR}(I:Ap X pins σ H s)(hf:∀b∈fp,Ll X pins H b)(ho:∀b∈fp,∃o,s.heap.get? b=some o∧∀v,o.data≠.cell v):Ap X (pins++Uz fp s.heap) σ H s:=
 I.pins_of fun p hp=>(BV.mp hp).elim (fun z=>I.pin p (AX _ z)) fun z=>by
  obtain ⟨hb,e⟩:=Adk z
  obtain ⟨f0,f1,f2,_⟩:=hf p.1 hb
  obtain ⟨o,e',d⟩:=ho p.1 hb
  rw [e] at e';cases e'
  exact ⟨e,f0,f1,f2,d⟩
theorem Ap.unpinned {pins pl:List (HR×Obj)}{σ:St}{H:Hp}{s:HQ}(I:Ap X (pins++pl) σ H s):Ap X pins σ H s:=I.pins_of fun p hp=>I.pin p (AX _ (EN _ hp))
theorem K3 {iter:Expr}{body:List Stmt}{wi:TI}{g:TG}{tb:TS}{pos:Pos}(hp:PassesOwn (model X.prog X.w) X.A X.env X.xe)(hc:X.calm=true)(hi:PI X tg iter wi)(hg:PG X tg g)(hb:Nt X body tb)
  (hs:∀x,foldedSetIterable iter X.env x=pure x:=by intro _;rfl):PS X (.For tg iter body [] pos) (Asb wi g tb):=by
 intro pins s σ H D I h
 refine wpAny_For (Bi (hi pins s σ H _ I h) fun v s1 h1=>Bi h1 fun itv s2 h2=>?_) hs
 obtain ⟨it,fp,tn,J,H2,e,I2,T,st2,f2,W,⟨m0,w0⟩,turn⟩:=h2
 subst e
 have stat:∀{H':Hp},(∀b∈fp,H' b=none)→∀b∈fp,Ll X pins H' b:=fun hn b hb=>⟨hn b hb,(f2 b hb).2⟩
 refine codeAny_forLoop_any (fun n s'=>∃i σ' H',Ap X pins σ' H' s'∧tn i s'.heap∧(∀b∈fp,H' b=none)∧W i n σ' H') ?_ m0 ⟨0,σ,H2,I2,st2,fun b hb=>(f2 b hb).1,w0⟩
 rintro n s3 ⟨i,σ3,H3,I3,st3,fr3,w3⟩
 rcases turn i n σ3 H3 w3 with ⟨stop,qn⟩|⟨go,N,hN,step⟩
 ·refine EI hp (Bi (T.done X rfl rfl rfl hc i pins s3 σ3 H3 X.xe I3 (stat fr3) st3 stop) fun r s4 ⟨hr,I4⟩=>?_)
  subst hr
  exact GC ⟨σ3,H3,I4,qn⟩
 ·refine EI hp (Bi (T.item X rfl rfl rfl hc i pins s3 σ3 H3 X.xe I3 (stat fr3) st3 go) fun r s4 ⟨u,hr,h4⟩=>?_)
  subst hr
  refine EI hp (Bi h4 fun _ s5 ⟨x,H5,I5,r5,y5,st5,fr5⟩=>?_)
  have I5':=I5.pinned (stat fr5) (T.obj _ _ st5)
  refine EI hp (Bi (hg _ s5 σ3 H5 x u _ I5' r5 (step x H5 y5)) fun _ s6 ⟨σ6,H6,I6,q6⟩=>?_)
  refine EI hp (Bi (hb _ s6 σ6 H6 _ I6 q6) fun f s7 q7=>?_)
  have again:∀{σ7:St} {H7:Hp},Ap X (pins++Uz fp s5.heap) σ7 H7 s7→N σ7 H7→∃m,m<n∧∃i σ' H',Ap X pins σ' H' s7∧tn i s7.heap∧(∀b∈fp,H' b=none)∧W i m σ' H':=fun {σ7 H7} I7 n7=>by
   obtain ⟨m',hm,w7⟩:=hN σ7 H7 n7
   refine ⟨m',hm,i+1,σ7,H7,I7.unpinned,T.keep _ _ _ st5 fun b hb o e=>(I7.pin (b,o) (AX _ (AX _ (Cu hb e)))).1,fun b hb=>?_,w7⟩
   obtain ⟨o,e,d⟩:=T.obj _ _ st5 b hb
   exact (I7.pin (b,o) (AX _ (AX _ (Cu hb e)))).2.1
  cases f with
  |next=>obtain ⟨σ7,H7,I7,n7⟩:=q7;exact again I7 n7
  |cont=>obtain ⟨σ7,H7,I7,n7⟩:=q7;exact again I7 n7
  |brk=>obtain ⟨σ7,H7,I7,q7⟩:=q7;exact ⟨σ7,H7,I7.unpinned,q7⟩
  |ret v=>obtain ⟨x7,σ7,H7,I7,r7,q7⟩:=q7;exact ⟨x7,σ7,H7,I7.unpinned,r7,q7⟩
end
theorem Mh {K:KKf}{a:HR}{xs:ID}{g:TG}{tb:TS}{D:Ot}{σ:St}{H:Hp}(Pv:Nat→St→Hp→Prop)(h0:Pv 0 σ H)(hl:∀i σ H,i≤xs.length→Pv i σ H→A1 K H a xs)
  (hs:∀i x σ H,xs[i]? =some x→Pv i σ H→g x σ H fun σ2 H2=>tb { D with nx:=Pv (i+1),ct:=Pv (i+1),bk:=D.nx } σ2 H2) (hd:∀σ H,Pv xs.length σ H→D.nx σ H) :
  ∃W:Nat→Nat→St→Hp→Prop,(∃m,W 0 m σ H)∧∀i m σ H,W i m σ H →
   ((Itl K a).stop i H∧D.nx σ H)∨((Itl K a).go i H∧∃N:St→Hp→Prop,(∀σ' H',N σ' H'→∃m',m'<m∧W (i+1) m' σ' H')∧∀x H',(Itl K a).yld i H x H'→g x σ H' fun σ2 H2=>tb { D with nx:=N,ct:=N,bk:=D.nx } σ2 H2):=by
 refine ⟨fun i m σ H=>m=xs.length-i∧i≤xs.length∧Pv i σ H,⟨xs.length,by simp,AV _,h0⟩,?_⟩
 rintro i m σ H ⟨rfl,hi,p⟩
 have q:=hl i σ H hi p
 by_cases hlt:i<xs.length
 ·refine .inr ⟨⟨xs,xs[i],q,by simp [hlt]⟩,Pv (i+1),fun σ' H' p'=>⟨xs.length-(i+1),by omega,rfl,hlt,p'⟩,fun x H' y=>?_⟩
  obtain ⟨e,y⟩:=y
  subst e
  exact hs i x σ _ (y xs q) p
 ·have e:i=xs.length:=by omega
  subst e
  exact .inl ⟨⟨xs,q,AF _⟩,hd σ H p⟩
theorem Ajr {K:KKf}{a:HR}{xs:ID}{g:TG}{tb:TS}{D:Ot}{σ:St}{H:Hp}(Pv:Nat→St→Hp→Prop)(h0:Pv 0 σ H)(hl:∀i σ H,i≤xs.length→Pv i σ H→D7 K H a xs)
  (hs:∀i x σ H,xs[i]? =some x→Pv i σ H→g x σ H fun σ2 H2=>tb { D with nx:=Pv (i+1),ct:=Pv (i+1),bk:=D.nx } σ2 H2) (hd:∀σ H,Pv xs.length σ H→D.nx σ H) :
  ∃W:Nat→Nat→St→Hp→Prop,(∃m,W 0 m σ H)∧∀i m σ H,W i m σ H →
   ((Itt K a).stop i H∧D.nx σ H)∨((Itt K a).go i H∧∃N:St→Hp→Prop,(∀σ' H',N σ' H'→∃m',m'<m∧W (i+1) m' σ' H')∧∀x H',(Itt K a).yld i H x H'→g x σ H' fun σ2 H2=>tb { D with nx:=N,ct:=N,bk:=D.nx } σ2 H2):=by
 refine ⟨fun i m σ H=>m=xs.length-i∧i≤xs.length∧Pv i σ H,⟨xs.length,by simp,AV _,h0⟩,?_⟩
 rintro i m σ H ⟨rfl,hi,p⟩
 have q:=hl i σ H hi p
 by_cases hlt:i<xs.length
 ·refine .inr ⟨⟨xs,xs[i],q,by simp [hlt]⟩,Pv (i+1),fun σ' H' p'=>⟨xs.length-(i+1),by omega,rfl,hlt,p'⟩,fun x H' y=>?_⟩
  obtain ⟨e,y⟩:=y
  subst e
  exact hs i x σ _ (y xs q) p
 ·have e:i=xs.length:=by omega
  subst e
  exact .inl ⟨⟨xs,q,AF _⟩,hd σ H p⟩
theorem S7 {lo:Int}{n:Nat}{g:TG}{tb:TS}{D:Ot}{σ:St}{H:Hp}(Pv:Nat→St→Hp→Prop)(h0:Pv 0 σ H)
  (hs:∀i σ H,i<n→Pv i σ H→g (.int (lo+i)) σ H fun σ2 H2=>tb { D with nx:=Pv (i+1),ct:=Pv (i+1),bk:=D.nx } σ2 H2) (hd:∀σ H,Pv n σ H→D.nx σ H) :
  ∃W:Nat→Nat→St→Hp→Prop,(∃m,W 0 m σ H)∧∀i m σ H,W i m σ H →
   ((Itr lo n).stop i H∧D.nx σ H)∨((Itr lo n).go i H∧∃N:St→Hp→Prop,(∀σ' H',N σ' H'→∃m',m'<m∧W (i+1) m' σ' H')∧∀x H',(Itr lo n).yld i H x H'→g x σ H' fun σ2 H2=>tb { D with nx:=N,ct:=N,bk:=D.nx } σ2 H2):=by
 refine ⟨fun i m σ H=>m=n-i∧i≤n∧Pv i σ H,⟨n,by simp,AV _,h0⟩,?_⟩
 rintro i m σ H ⟨rfl,hi,p⟩
 by_cases hlt:i<n
 ·refine .inr ⟨hlt,Pv (i+1),fun σ' H' p'=>⟨n-(i+1),by omega,rfl,hlt,p'⟩,fun x H' y=>?_⟩
  obtain ⟨e,y⟩:=y
  subst e y
  exact hs i σ _ hlt p
 ·have e:i=n:=by omega
  subst e
  exact .inl ⟨AF _,hd σ H p⟩
end L2
namespace L2
open PySem PySem.Spec PyProof.Rows
abbrev R2:=V→V→Hp→VK→Prop
def Dv (X:Cx)(f:HP→HP→Sem HP)(r:R2):Prop:=
 ∀(pins:List (HR×Obj)) (s:HQ) (σ:St) (H:Hp) (x y:V) (v u:HP) (Q:VK),Ap X pins σ H s→RelV x v→RelV y u→r x y H Q →
  wpAny (model X.prog X.w) X.A (f v u) (EP X pins σ Q) X.xe s
def UnR (X:Cx)(f:HP→Sem HP)(r:V→Hp→VK→Prop):Prop:=
 ∀(pins:List (HR×Obj)) (s:HQ) (σ:St) (H:Hp) (x:V) (v:HP) (Q:VK),Ap X pins σ H s→RelV x v→r x H Q →
  wpAny (model X.prog X.w) X.A (f v) (EP X pins σ Q) X.xe s
def Cy (X:Cx)(f:HP)(r:ID→Hp→VK→Prop):Prop:=
 ∀(pins:List (HR×Obj)) (s:HQ) (σ:St) (H:Hp) (xs:ID) (us:HY) (Q:VK),Ap X pins σ H s→A6 xs us→r xs H Q →
  wpAny (model X.prog X.w) X.A (call f us) (EP X pins σ Q) X.xe s
def tOp (r:R2)(ta tb:TE):TE:=fun σ H Q=>ta σ H fun x H1=>tb σ H1 fun y H2=>r x y H2 Q
def tUn (r:V→Hp→VK→Prop)(ta:TE):TE:=fun σ H Q=>ta σ H fun x H1=>r x H1 Q
def rI (C:Int→Int→Prop)(g:Int→Int→V):R2:=fun x y H Q=>∃i j,x=.int i∧y=.int j∧C i j∧Q (g i j) H
def rI0 (g:Int→Int→V):R2:=fun x y H Q=>∃i j,x=.int i∧y=.int j∧Q (g i j) H
def rU (g:Int→V):V→Hp→VK→Prop:=fun x H Q=>∃i,x=.int i∧Q (g i) H
section
variable {X:Cx}{a b c:Expr}{ta tb tc:TE}{pos:Pos}
theorem Alh (ha:PE X a ta)(hb:PE X b tb){pins:List (HR×Obj)}{s:HQ}{σ:St}{H:Hp}{R:V→V→Hp→Prop}(I:Ap X pins σ H s)
  (h:ta σ H fun x H1=>tb σ H1 fun y H2=>R x y H2) {Q:HP→HQ→Prop} {f:HP→HP→Sem HP}
  (hf:∀v u s2 x y H2,Ap X pins σ H2 s2→RelV x v→RelV y u→R x y H2→wpAny (model X.prog X.w) X.A (f v u) Q X.xe s2) :
  wpAny (model X.prog X.w) X.A (eval a X.env) (fun v s₁=>wpAny (model X.prog X.w) X.A (eval b X.env) (fun u s₂=>wpAny (model X.prog X.w) X.A (f v u) Q X.xe s₂) X.xe s₁) X.xe s:=by
 refine Bi (ha pins s σ H _ I h) fun v s1 ⟨x,H1,I1,r1,q1⟩=>?_
 refine Bi (hb pins s1 σ H1 _ I1 q1) fun u s2 ⟨y,H2,I2,r2,q2⟩=>?_
 exact hf v u s2 x y H2 I2 r1 r2 q2
theorem Al {op:Operator}{r:R2}(ho:Dv X (binaryOp op) r)(ha:PE X a ta)(hb:PE X b tb):PE X (.BinOp a op b pos) (tOp r ta tb):=by
 intro pins s σ H Q I h
 exact wpAny_BinOp (Alh ha hb I h fun v u s2 x y H2 I2 rx ry q=>ho pins s2 σ H2 x y v u Q I2 rx ry q)
theorem Le {op:UnaryOp}{r:V→Hp→VK→Prop}(ho:UnR X (unaryOp op) r)(ha:PE X a ta):PE X (.UnaryOp op a pos) (tUn r ta):=by
 intro pins s σ H Q I h
 exact UnaryOp_ (Bi (ha pins s σ H _ I h) fun v s1 ⟨x,H1,I1,r1,q1⟩=>ho pins s1 σ H1 x v Q I1 r1 q1)
theorem opI {f:HP→HP→Sem HP}{C:Int→Int→Prop}{g:Int→Int→Int}
  (rule:∀(i j:Int) (t u:Tok) (s:HQ) (Q:HP→HQ→Prop) (E:HP→HQ→Prop),C i j→Q (.int (g i j) s.toks) { s with toks:=s.toks+1 }→wpAny (model X.prog X.w) X.A (f (.int i t) (.int j u)) Q E s) :
  Dv X f (rI C fun i j=>.int (g i j)):=by
 intro pins s σ H x y v u Q I rx ry h
 obtain ⟨i,j,rfl,rfl,hc,q⟩:=h
 obtain ⟨t,rfl⟩:=rx
 obtain ⟨t',rfl⟩:=ry
 exact rule i j t t' s _ _ hc ⟨.int (g i j),H,I.tok _,⟨_,rfl⟩,q⟩
theorem Arn {f:HP→HP→Sem HP}{g:Int→Int→Int}
  (rule:∀(i j:Int) (t u:Tok) (s:HQ) (Q:HP→HQ→Prop) (E:HP→HQ→Prop),Q (.int (g i j) s.toks) { s with toks:=s.toks+1 }→wpAny (model X.prog X.w) X.A (f (.int i t) (.int j u)) Q E s) :
  Dv X f (rI0 fun i j=>.int (g i j)):=by
 intro pins s σ H x y v u Q I rx ry h
 obtain ⟨i,j,rfl,rfl,q⟩:=h
 obtain ⟨t,rfl⟩:=rx
 obtain ⟨t',rfl⟩:=ry
 exact rule i j t t' s _ _ ⟨.int (g i j),H,I.tok _,⟨_,rfl⟩,q⟩
theorem Ajb {f:HP→HP→Sem HP}{g:Int→Int→Bool}
  (rule:∀(i j:Int) (t u:Tok) (s:HQ) (Q:HP→HQ→Prop) (E:HP→HQ→Prop),Q (.bool (g i j)) s→wpAny (model X.prog X.w) X.A (f (.int i t) (.int j u)) Q E s) :
  Dv X f (rI0 fun i j=>.bl (g i j)):=by
 intro pins s σ H x y v u Q I rx ry h
 obtain ⟨i,j,rfl,rfl,q⟩:=h
 obtain ⟨t,rfl⟩:=rx
 obtain ⟨t',rfl⟩:=ry
 exact rule i j t t' s _ _ ⟨.bl (g i j),H,I,rfl,q⟩
def Aqm (i j:Int):Prop:=0≤j∧j≤1000000∧i.natAbs<2 ^ 64
def Al9 (i j:Int):Prop:=(-(2 ^ 64)<i∧i<2 ^ 64)∨(-(2 ^ 64)<j∧j<2 ^ 64)
theorem Al9.ok {i j:Int}(h:Al9 i j):IntMulOk i j:=by
 rcases h with ⟨h1,h2⟩|⟨h1,h2⟩
 ·exact .of_left (intBits_le_64 h1 h2)
 ·exact .of_right (intBits_le_64 h1 h2)
theorem Amw:Dv X (binaryOp .Add) (rI0 fun i j=>.int (i+j)):=Arn fun _ _ _ _ _ _ _ q=>add_int q
theorem Amu:Dv X (binaryOp .Sub) (rI0 fun i j=>.int (i-j)):=Arn fun _ _ _ _ _ _ _ q=>sub_int q
theorem Aml:Dv X (binaryOp .Mod) (rI (fun _ j=>0<j) fun i j=>.int (i % j)):=opI fun i j _ _ _ _ _ hc q=>by
 have h1:(0:Int)<j:=hc
 exact mod_int' (by omega) (by rw [Int.fmod_eq_emod_of_nonneg i (by omega)];exact q)
theorem Ai6:Dv X (binaryOp .Mod) (rI (fun _ j=>j≠0) fun i j=>.int (i.fmod j)):=opI fun _ _ _ _ _ _ _ hc q=>mod_int' hc q
theorem Amf:Dv X (binaryOp .Pow) (rI Aqm fun i j=>.int (i ^ j.toNat)):=opI fun _ _ _ _ _ _ _ hc q=>pow_int_small hc.1 hc.2.1 hc.2.2 q
theorem unI {f:HP→Sem HP}{g:Int→Int}
  (rule:∀(i:Int) (t:Tok) (s:HQ) (Q:HP→HQ→Prop) (E:HP→HQ→Prop),Q (.int (g i) s.toks) { s with toks:=s.toks+1 }→wpAny (model X.prog X.w) X.A (f (.int i t)) Q E s) :
  UnR X f (rU fun i=>.int (g i)):=by
 intro pins s σ H x v Q I rx h
 obtain ⟨i,rfl,q⟩:=h
 obtain ⟨t,rfl⟩:=rx
 exact rule i t s _ _ ⟨.int (g i),H,I.tok _,⟨_,rfl⟩,q⟩
theorem Aoh:UnR X (unaryOp .USub) (rU fun i=>.int (-i)):=unI fun _ _ _ _ _ q=>neg_int q
end
def Apc:V→V→Bool
 |.non,.non=>true|.non,.int _=>true|.int _,.non=>true|.non,.bl _=>true|.bl _,.non=>true|.non,.str _=>true|.str _,.non=>true
 |.int _,.int _=>true|.bl _,.bl _=>true|.str _,.str _=>true|.byt _,.byt _=>true
 |.int _,.str _=>true|.str _,.int _=>true|.bl _,.str _=>true|.str _,.bl _=>true
 |_,_=>false
def rEq:R2:=fun x y H Q=>Apc x y=true∧Q (.bl (decide (x=y))) H
def rNe:R2:=fun x y H Q=>Apc x y=true∧Q (.bl (!decide (x=y))) H
theorem Ab8 {i j:Int}:decide (V.int i=V.int j)=(i==j):=by
 rw [FI]
 simp
theorem Vx {i j:Bool}:decide (V.bl i=V.bl j)=(i==j):=by
 rw [FI]
 simp
theorem Abo {i j:Str}:decide (V.str i=V.str j)=(i==j):=by
 rw [FI]
 simp
theorem Abl {i j:Array UInt8}:decide (V.byt i=V.byt j)=(i.toList==j.toList):=by
 rw [FI]
 cases i
 cases j
 simp
section
variable {X:Cx}{a b c:Expr}{ta tb tc:TE}{pos:Pos}
theorem Bh {pins:List (HR×Obj)}{σ:St}{H:Hp}{s:HQ}{Q:VK}{k k':Bool}(I:Ap X pins σ H s)(q:Q (.bl k) H)(e:k=k'):EP X pins σ Q (.bool k') s:=by
 subst e
 exact ⟨.bl k,H,I,rfl,q⟩
theorem Arw:Dv X (compareOp .Eq) rEq:=by
 intro pins s σ H x y v u Q I rx ry h
 obtain ⟨hs,q⟩:=h
 cases x with
 |non=>
  cases rx
  cases y with
  |non=>cases ry;exact PySem.EqNone.eq_none_none (Bh I q (by simp))
  |bl j=>cases ry;exact PySem.EqNone.eq_none_bool (Bh I q (by simp))
  |int j=>obtain ⟨t',rfl⟩:=ry;exact PySem.EqNone.eq_none_int (Bh I q (by simp))
  |str j=>obtain ⟨t',rfl⟩:=ry;exact PySem.EqNone.eq_none_str (Bh I q (by simp))
  |_=>exact absurd (show false=true from hs) BA
 |bl i=>
  cases rx
  cases y with
  |non=>cases ry;exact PySem.EqNone.eq_bool_none (Bh I q (by simp))
  |bl j=>cases ry;exact eq_bool (Bh I q Vx)
  |str j=>obtain ⟨t',rfl⟩:=ry;exact PySem.EqMixed.eq_bool_str (Bh I q (by simp))
  |_=>exact absurd (show false=true from hs) BA
 |int i=>
  obtain ⟨t,rfl⟩:=rx
  cases y with
  |non=>cases ry;exact PySem.EqNone.eq_int_none (Bh I q (by simp))
  |int j=>obtain ⟨t',rfl⟩:=ry;exact eq_int (Bh I q Ab8)
  |str j=>obtain ⟨t',rfl⟩:=ry;exact PySem.EqMixed.eq_int_str (Bh I q (by simp))
  |_=>exact absurd (show false=true from hs) BA
 |str i=>
  obtain ⟨t,rfl⟩:=rx
  cases y with
  |non=>cases ry;exact PySem.EqNone.eq_str_none (Bh I q (by simp))
  |bl j=>cases ry;exact PySem.EqMixed.eq_str_bool (Bh I q (by simp))
  |int j=>obtain ⟨t',rfl⟩:=ry;exact PySem.EqMixed.eq_str_int (Bh I q (by simp))
  |str j=>obtain ⟨t',rfl⟩:=ry;exact eq_str (Bh I q Abo)
  |_=>exact absurd (show false=true from hs) BA
 |byt i=>
  obtain ⟨t,rfl⟩:=rx
  cases y with
  |byt j=>obtain ⟨t',rfl⟩:=ry;exact PySem.W.eq_bytes (Bh I q Abl)
  |_=>exact absurd (show false=true from hs) BA
 |_=>cases y<;>exact absurd (show false=true from hs) BA
theorem Ap6:Dv X (compareOp .NotEq) rNe:=by
 intro pins s σ H x y v u Q I rx ry h
 obtain ⟨hs,q⟩:=h
 cases x with
 |non=>
  cases rx
  cases y with
  |non=>cases ry;exact PySem.EqNone.ne_none_none (Bh I q (by simp))
  |bl j=>cases ry;exact PySem.EqNone.ne_none_bool (Bh I q (by simp))
  |int j=>obtain ⟨t',rfl⟩:=ry;exact PySem.EqNone.ne_none_int (Bh I q (by simp))
  |str j=>obtain ⟨t',rfl⟩:=ry;exact PySem.EqNone.ne_none_str (Bh I q (by simp))
  |_=>exact absurd (show false=true from hs) BA
 |bl i=>
  cases rx
  cases y with
  |non=>cases ry;exact PySem.EqNone.ne_bool_none (Bh I q (by simp))
  |bl j=>cases ry;exact ne_bool (Bh I q (congrArg not Vx))
  |str j=>obtain ⟨t',rfl⟩:=ry;exact PySem.EqMixed.ne_bool_str (Bh I q (by simp))
  |_=>exact absurd (show false=true from hs) BA
 |int i=>
  obtain ⟨t,rfl⟩:=rx
  cases y with
  |non=>cases ry;exact PySem.EqNone.ne_int_none (Bh I q (by simp))
  |int j=>obtain ⟨t',rfl⟩:=ry;exact ne_int (Bh I q (congrArg not Ab8))
  |str j=>obtain ⟨t',rfl⟩:=ry;exact PySem.EqMixed.ne_int_str (Bh I q (by simp))
  |_=>exact absurd (show false=true from hs) BA
 |str i=>
  obtain ⟨t,rfl⟩:=rx
  cases y with
  |non=>cases ry;exact PySem.EqNone.ne_str_none (Bh I q (by simp))
  |bl j=>cases ry;exact PySem.EqMixed.ne_str_bool (Bh I q (by simp))
  |int j=>obtain ⟨t',rfl⟩:=ry;exact PySem.EqMixed.ne_str_int (Bh I q (by simp))
  |str j=>obtain ⟨t',rfl⟩:=ry;exact ne_str (Bh I q (congrArg not Abo))
  |_=>exact absurd (show false=true from hs) BA
 |byt i=>
  obtain ⟨t,rfl⟩:=rx
  cases y with
  |byt j=>obtain ⟨t',rfl⟩:=ry;exact PySem.W.ne_bytes (Bh I q (congrArg not Abl))
  |_=>exact absurd (show false=true from hs) BA
 |_=>cases y<;>exact absurd (show false=true from hs) BA
theorem Aqf:Dv X (compareOp .Lt) (rI0 fun i j=>.bl (decide (i<j))):=Ajb fun _ _ _ _ _ _ _ q=>lt_int q
theorem Aq1:Dv X (compareOp .LtE) (rI0 fun i j=>.bl (decide (i≤j))):=Ajb fun _ _ _ _ _ _ _ q=>le_int q
theorem Apg:Dv X (compareOp .Gt) (rI0 fun i j=>.bl (decide (j<i))):=Ajb fun _ _ _ _ _ _ _ q=>gt_int q
theorem Aqp:Dv X (compareOp .GtE) (rI0 fun i j=>.bl (decide (j≤i))):=Ajb fun _ _ _ _ _ _ _ q=>ge_int q
theorem Ac0:Dv X (compareOp .In) (fun x y H Q=>∃i j,x=.str i∧y=.str j∧Q (.bl (!(Builtin.Str.occurrences j i 0 j.length 1).isEmpty)) H):=by
 intro pins s σ H x y v u Q I rx ry h
 obtain ⟨i,j,rfl,rfl,q⟩:=h
 obtain ⟨t,rfl⟩:=rx
 obtain ⟨t',rfl⟩:=ry
 exact in_str (Bh I q rfl)
theorem Ay (b:Expr){op:CmpOp}(h:op≠.In:=by decide)(h2:op≠.NotIn:=by decide):behindInMarks op b=false:=by
 have e1:(op==CmpOp.In)=false:=by cases op<;>first|rfl|exact absurd rfl h
 have e2:(op==CmpOp.NotIn)=false:=by cases op<;>first|rfl|exact absurd rfl h2
 cases b<;>simp [behindInMarks,e1,e2]
theorem Ck {op:CmpOp}{r:R2}(ho:Dv X (compareOp op) r)(ha:PE X a ta)(hb:PE X b tb)(hm:behindInMarks op b=false):PE X (.Compare a [op] [b] pos) (tOp r ta tb):=by
 intro pins s σ H Q I h
 exact wpAny_Compare1 (Alh ha hb I h fun v u s2 x y H2 I2 rx ry q=>ho pins s2 σ H2 x y v u Q I2 rx ry q) hm
def Aaq (t:TE):TT:=fun σ H Q=>t σ H fun x H'=>∃k,x=.bl k∧Q k H'
theorem Ah3 {op:CmpOp}{r:R2}(ho:Dv X (compareOp op) r)(ha:PE X a ta)(hb:PE X b tb)(hm:behindInMarks op b=false):PT X (.Compare a [op] [b] pos) (Aaq (tOp r ta tb)):=by
 intro pins s σ H Q I h
 refine wpAny_isTrue_Compare1 (Bi (ha pins s σ H _ I h) fun v s1 ⟨x,H1,I1,r1,q1⟩=>Bi (hb pins s1 σ H1 _ I1 q1) fun u s2 ⟨y,H2,I2,r2,q2⟩=>
  Bi (ho pins s2 σ H2 x y v u _ I2 r1 r2 q2) fun c s3 ⟨z,H3,I3,r3,k,e,q3⟩=>?_) hm
 subst e
 cases r3
 exact CW ⟨H3,I3,q3⟩
def Ul (r r':R2)(ta tb tc:TE):TE:=fun σ H Q=>ta σ H fun x H1=>tb σ H1 fun y H2=>r x y H2 fun z H3=>∃k,z=.bl k ∧
 (if k=true then tc σ H3 fun w' H4=>r' y w' H4 Q else Q (.bl false) H3)
theorem Afx {op op':CmpOp}{r r':R2}(ho:Dv X (compareOp op) r)(ho':Dv X (compareOp op') r')(ha:PE X a ta)(hb:PE X b tb)(hc:PE X c tc)
  (hm:lastMarks [op,op'] [b,c]=false:=by with_unfolding_all rfl):PE X (.Compare a [op,op'] [b,c] pos) (Ul r r' ta tb tc):=by
 intro pins s σ H Q I h
 refine Compare_chain (Bi (ha pins s σ H _ I h) fun v s1 ⟨x,H1,I1,r1,q1⟩=>chain_link (Bi (hb pins s1 σ H1 _ I1 q1) fun u s2 ⟨y,H2,I2,r2,q2⟩=>
  Bi (ho pins s2 σ H2 x y v u _ I2 r1 r2 q2) fun d s3 ⟨z,H3,I3,r3,k,e,q3⟩=>?_)) hm
 subst e
 cases r3
 refine CW ?_
 cases k with
 |false=>exact ite_ff ⟨.bl false,H3,I3,rfl,q3⟩
 |true=>exact ite_tt (chain_last (Bi (hc pins s3 σ H3 _ I3 q3) fun w' s4 ⟨z',H4,I4,r4,q4⟩=>ho' pins s4 σ H4 y z' u w' Q I4 r2 r4 q4))
theorem Agp {op op':CmpOp}{r r':R2}(ho:Dv X (compareOp op) r)(ho':Dv X (compareOp op') r')(ha:PE X a ta)(hb:PE X b tb)(hc:PE X c tc)
  (hm:lastMarks [op,op'] [b,c]=false:=by with_unfolding_all rfl):PT X (.Compare a [op,op'] [b,c] pos) (Aaq (Ul r r' ta tb tc)):=by
 intro pins s σ H Q I h
 refine isTrue_chain (Bi (ha pins s σ H _ I h) fun v s1 ⟨x,H1,I1,r1,q1⟩=>test_link (Bi (hb pins s1 σ H1 _ I1 q1) fun u s2 ⟨y,H2,I2,r2,q2⟩=>
  Bi (ho pins s2 σ H2 x y v u _ I2 r1 r2 q2) fun d s3 ⟨z,H3,I3,r3,k,e,q3⟩=>?_)) hm
 subst e
 cases r3
 refine CW ?_
 cases k with
 |false=>
  obtain ⟨k',e',q'⟩:=q3
  cases e'
  exact ite_ff ⟨H3,I3,q'⟩
 |true=>
  refine ite_tt (test_last (Bi (hc pins s3 σ H3 _ I3 q3) fun w' s4 ⟨z',H4,I4,r4,q4⟩=>Bi (ho' pins s4 σ H4 y z' u w' _ I4 r2 r4 q4) fun d' s5 ⟨z2,H5,I5,r5,k2,e2,q5⟩=>?_))
  subst e2
  cases r5
  exact CW ⟨H5,I5,q5⟩
theorem Mx:(sizeLine:Nat)<2 ^ 63:=by rw [CM];decide
theorem Zx:Dv X (binaryOp .Add) (fun x y H Q=>∃i j,x=.str i∧y=.str j∧i.length+j.length≤sizeLine∧Q (.str (i++j)) H):=by
 intro pins s σ H x y v u Q I rx ry h
 obtain ⟨i,j,rfl,rfl,hz,q⟩:=h
 obtain ⟨t,rfl⟩:=rx
 obtain ⟨t',rfl⟩:=ry
 exact add_str (fun t' tk=>⟨.str (i++j),H,I.tok _,⟨_,rfl⟩,q⟩) hz
theorem Fw {x:V}{us:HY}(r:A6 [x] us):∃u,us=[u]∧RelV x u:=by
 cases r with
 |cons r1 r2=>cases r2;exact ⟨_,rfl,r1⟩
theorem Jk {x y:V}{us:HY}(r:A6 [x,y] us):∃u w',us=[u,w']∧RelV x u∧RelV y w':=by
 cases r with
 |cons r1 r2=>
  cases r2 with
  |cons r3 r4=>cases r4;exact ⟨_,_,rfl,r1,r3⟩
theorem Age:Cy X (.builtin "abs") (fun xs H Q=>∃i,xs=[.int i]∧Q (.int (if i<0 then -i else i)) H):=by
 intro pins s σ H xs us Q I r h
 obtain ⟨i,rfl,q⟩:=h
 obtain ⟨u,rfl,t,rfl⟩:=Fw r
 exact call_abs_int fun u tk=>⟨.int (if i<0 then -i else i),H,I.tok _,⟨_,rfl⟩,q⟩
theorem Adg (hc:X.calm=true):Cy X (.builtin "max") (fun xs H Q=>∃i j,xs=[.int i,.int j]∧Q (.int (if j>i then j else i)) H):=by
 intro pins s σ H xs us Q I r h
 obtain ⟨i,j,rfl,q⟩:=h
 obtain ⟨u,w',rfl,⟨t,rfl⟩,⟨t',rfl⟩⟩:=Jk r
 refine max_two_ints (I.ok.hd hc) fun h' tk k=>⟨_,H,I.kept k,?_,q⟩
 by_cases hj:j>i
 ·rw [AN hj,AN hj];exact ⟨_,rfl⟩
 ·rw [AI hj,AI hj];exact ⟨_,rfl⟩
theorem S8 (hc:X.calm=true):Cy X (.builtin "min") (fun xs H Q=>∃i j,xs=[.int i,.int j]∧Q (.int (if j<i then j else i)) H):=by
 intro pins s σ H xs us Q I r h
 obtain ⟨i,j,rfl,q⟩:=h
 obtain ⟨u,w',rfl,⟨t,rfl⟩,⟨t',rfl⟩⟩:=Jk r
 refine min_two_ints (I.ok.hd hc) fun h' tk k=>⟨_,H,I.kept k,?_,q⟩
 by_cases hj:j<i
 ·rw [AN hj,AN hj];exact ⟨_,rfl⟩
 ·rw [AI hj,AI hj];exact ⟨_,rfl⟩
theorem Ve:Cy X (.type "str") (fun xs H Q=>∃i,xs=[.int i]∧i.natAbs.log2<1920∧Q (.str (toString i)) H):=by
 intro pins s σ H xs us Q I r h
 obtain ⟨i,rfl,hz,q⟩:=h
 obtain ⟨u,rfl,t,rfl⟩:=Fw r
 exact PySem.P.str_of_int hz ⟨.str _,H,I.tok _,⟨_,rfl⟩,q⟩
end
end L2
namespace L2
open PySem PySem.Spec PyProof.Rows
structure Yw (h:Heap)(x dx C:HR)(mA:Str→IA):Prop where
 obj:h.get? x=some (PySem.W.instObj C dx)
 ns:h.Ns1 dx mA
 ne:dx≠x
theorem Ac1 {h:Heap}{dx:HR}{mA:Str→IA}(n:h.Ns1 dx mA):∃od,h.get? dx=some od∧∀name,PySem.W.lookIn name od=some (mA name):=by
 obtain ⟨o,es,ep,ho,hd,hk,_,hm⟩:=n
 refine ⟨o,ho,fun name=>?_⟩
 have e:=hm name
 unfold nsFind findBy at e
 rw [←Array.find?_toList] at e
 unfold PySem.W.lookIn
 rw [hd]
 dsimp only
 split
 ·rename_i y q
  rw [q] at e
  exact congrArg some e
 ·rename_i q
  rw [q] at e
  have a:es.toList.any (·.refKey)=false:=by
   rw [List.any_eq_false]
   intro y hy
   obtain ⟨z,t,hkey⟩:=hk y (Array.mem_toList_iff.mp hy)
   simp [DictEntry.refKey,hkey]
  have a':¬es.toList.any (·.refKey)=true:=by rw [a];exact BA
  rw [AI a']
  exact congrArg some e
theorem Yw.look {h:Heap}{x dx C:HR}{mA:Str→IA}(I:Yw h x dx C mA):∃od,PySem.W.InstAt h x (PySem.W.instObj C dx) C (some od)∧∀name,PySem.W.lookIn name od=some (mA name):=
 let ⟨od,ho,hl⟩:=Ac1 I.ns
 ⟨od,⟨I.obj,rfl,rfl,ho⟩,hl⟩
section
variable {prog:HU}{w:HV}{A:HS}{E:HP→HQ→Prop}{s:HQ}{K:KKf}{x dx C f:HR}{mA:Str→IA}{name:Str}{v:HP}
theorem Aj8 {expr:Bool}{Q:HP→HQ→Prop}(X:K.In s.heap)(I:Yw s.heap x dx C mA)(hg:PySem.W.plainGet K C name=true)(hh:PySem.W.hasDictIn K C=true)
  (ha:PySem.W.findIn K (.ref C) name=some none) (hv:mA name=some v) (hv':PySem.W.handedIn v=true) (h:Q v { s with toks:=s.toks+1 }) :
  wpAny (model prog w) A (getAttr (.ref x) name expr) Q E s:=by
 obtain ⟨od,J,hl⟩:=I.look
 exact PySem.W.get_value X J (PySem.W.plainGet_of hg).1 (PySem.W.findObj_own hh ha rfl (by rw [hl,hv])) hv' h
theorem Ae6 {pl:Sem Bool}{Q:HP×HY→HQ→Prop}(X:K.In s.heap)(I:Yw s.heap x dx C mA)(hg:PySem.W.plainGet K C name=true)
  (hf:PySem.W.findIn K (.ref C) name=some (some (.ref f))) (ht:PySem.W.isFn K (.ref f)=true) (hv:mA name=none) (h:Q (.ref f,[.ref x]) s) :
  wpAny (model prog w) A (getMethod (.ref x) name pl) Q E s:=by
 obtain ⟨od,J,hl⟩:=I.look
 exact PySem.W.method_fn X J (PySem.W.plainGet_of hg).1 (PySem.W.plainGet_of hg).2 hf (FS.mp ht) (by show (PySem.W.lookIn name od).map (·.isSome)=some false;rw [hl,hv];rfl) h
theorem Aje {ns:HW}{Q:Unit→HQ→Prop}(X:K.In s.heap)(I:Yw s.heap x dx C mA)
  (hs:PySem.W.findIn K (.ref C) "__setattr__"=some (some (.builtin "object.__setattr__"))) (hp:PySem.W.plainOver K C=true) (ht:PySem.W.takerIn K C name=some none) (hh:PySem.W.hasDictIn K C=true)
  (hw:PySem.Within mA ns) (hsz:ns.length≤sizeLine)
  (h:∀h',Yw h' x dx C (fun y=>if y=name then some v else mA y)→Heap.SameBut dx s.heap h'→Q () { s with heap:=h',toks:=s.toks+2 }) :
  wpAny (model prog w) A (setAttr (.ref x) name v) Q E s:=by
 obtain ⟨od,J,hl⟩:=I.look
 refine PySem.W.set_plain X J hs (PySem.W.osa_open (s:={ s with toks:=s.toks+1 }) (r:=none) X J hp ht fun b=>?_)
 obtain ⟨cd,hc,hd'⟩:=PySem.W.any_some hh
 have hx:s.heap.get? x=some ⟨.ref C,some dx,.plain,#[]⟩:=I.obj
 refine AA (AC (AA (AA (wpAny_loadPart hx (AA (PySem.W.Looks.here (s:={ s with toks:=s.toks+1 }) (PySem.W.looks_clsIn X hc) ?_))))))
 rw [hd']
 refine AC (a:=some dx) (AA (AC (AA ?_)))
 refine wpAny_nsSet1 (s:={ s with toks:=s.toks+1 }) I.ns fun h' hn2 hs2=>?_
 obtain ⟨oD,esD,epD,hoD,hdD,hcD⟩:=hn2.count (PySem.Within.cons name v hw)
 refine AA (wpAny_lookBehind hoD (by rw [hdD];exact pastItsLine_dict (AO hcD (by rw [AY];omega))) ?_)
 exact AC (h _ ⟨(hs2.2 _ (CN I.ne)).trans I.obj,hn2,I.ne⟩ hs2)
theorem Afj {R:Result→HQ→Prop}{vs:HY}{kw:List (Str×HP)}(X:K.In s.heap)(hm:PySem.W.makesIn K C=true)
  (hi:PySem.W.findIn K (.ref C) "__init__"=some (some (.ref f))) (hf:PySem.W.typeIn K (.ref f)=some (.type "function"))
  (h:codeAny (model prog w) (A.under (.builtin "type.__call__" ⟨.ref C::vs,kw⟩)) (.call (.ref f) ⟨.ref (s.heap.objs.size+1)::vs,kw⟩) (PySem.W.InitBack (s.heap.objs.size+1) R)
   { s with heap:=(s.heap.push PySem.W.emptyDict).push (PySem.W.instObj C s.heap.objs.size) }) :
  codeAny (model prog w) A (.call (.ref C) ⟨vs,kw⟩) R s:=by
 obtain ⟨hh,g,d,t,os⟩:=s
 exact PySem.W.make_core (PySem.W.makes_of X hm) (PySem.W.looks_findIn X hi) (fun self=>PySem.W.bind_fn X self hf) (.inl rfl) h
end
def Bb (f:Str)(v:V):List (Str×V)→List (Str×V)
 |[]=>[(f,v)]
 |(g,x)::r=>if g=f then (g,v)::r else (g,x)::Bb f v r
theorem Fu (f g:Str)(v:V):∀fs:List (Str×V),(Bb f v fs).lookup g=if g=f then some v else fs.lookup g
 | []=>by
  show List.lookup g [(f,v)]=_
  by_cases h:g=f
  ·have hb:(g==f)=true:=FS.mpr h
   simp only [List.lookup,hb,AN h]
  ·have hb:(g==f)=false:=DK.mpr h
   simp only [List.lookup,hb,AI h]
 | (k,x)::r=>by
  have ih:=Fu f g v r
  rw [show Bb f v ((k,x)::r)=(if k=f then (k,v)::r else (k,x)::Bb f v r) from rfl]
  by_cases hk:k=f
  ·rw [AN hk]
   by_cases h:g=k
   ·have hb:(g==k)=true:=FS.mpr h
    simp only [List.lookup,hb,AN (h.trans hk)]
   ·have hb:(g==k)=false:=DK.mpr h
    simp only [List.lookup,hb,AI (fun e:g=f=>h (e.trans hk.symm))]
  ·rw [AI hk]
   by_cases h:g=k
   ·have hb:(g==k)=true:=FS.mpr h
    simp only [List.lookup,hb,AI (fun e:g=f=>hk (h.symm.trans e))]
   ·have hb:(g==k)=false:=DK.mpr h
    simp only [List.lookup,hb]
    exact ih
theorem Nk (f:Str)(v:V):∀fs:List (Str×V),f∈(Bb f v fs).map (·.1)∧∀g,g∈fs.map (·.1)→g∈(Bb f v fs).map (·.1)
 |[]=>⟨by simp [Bb],fun g h=>by simp at h⟩
 | (k,x)::r=>by
  obtain ⟨i1,i2⟩:=Nk f v r
  rw [show Bb f v ((k,x)::r)=(if k=f then (k,v)::r else (k,x)::Bb f v r) from rfl]
  by_cases hk:k=f
  ·rw [AN hk]
   subst hk
   exact ⟨by simp,fun g h=>by simpa using h⟩
  ·rw [AI hk]
   refine ⟨?_,fun g h=>?_⟩
   ·rw [BE]
    exact AJ _ i1
   ·rw [BE] at h ⊢
    rcases AU.mp h with e|e
    ·exact AU.mpr (.inl e)
    ·exact AJ _ (i2 g e)
theorem Cg (f:Str)(v:V):∀fs:List (Str×V),(Bb f v fs).length≤fs.length+1
 |[]=>by simp [Bb]
 |(k,x)::r=>by
  have ih:=Cg f v r
  rw [show Bb f v ((k,x)::r)=(if k=f then (k,v)::r else (k,x)::Bb f v r) from rfl]
  by_cases hk:k=f
  ·rw [AN hk,AY,AY];omega
  ·rw [AI hk,AY,AY];omega
theorem Gk.some_of {v:V}{o:IA}(r:Gk (some v) o):∃u,o=some u∧RelV v u:=by
 cases o with
 |none=>exact (show False from r).elim
 |some u=>exact ⟨u,rfl,r⟩
theorem Gk.none_of {o:IA}(r:Gk none o):o=none:=by
 cases o with
 |none=>rfl
 |some u=>exact (show False from r).elim
theorem Ac8 {v:V}{u:HP}(r:RelV v u):PySem.W.handedIn u=true:=by
 cases v with
 |non=>cases (show u=Value.none from r);rfl
 |bl b=>cases (show u=Value.bool b from r);rfl
 |int i=>obtain ⟨t,e⟩:=(show ∃t,u=Value.int i t from r);cases e;rfl
 |str x=>obtain ⟨t,e⟩:=(show ∃t,u=Value.str x t from r);cases e;rfl
 |byt b=>obtain ⟨t,e⟩:=(show ∃t,u=Value.bytes b t from r);cases e;rfl
 |flt b=>obtain ⟨t,e⟩:=(show ∃t,u=Value.float b t from r);cases e;rfl
 |ref a=>cases (show u=Value.ref a from r);rfl
 |ty n=>cases (show u=Value.type n from r);rfl
section
variable {P:HU}{w:HV}{H H':Hp}{h h':Heap}{a C dx:HR}{fs fs':List (Str×V)}
theorem O3 (hok:Jz P w H h)(e:H a=some (.ins C dx fs)):∃mA,Yw h a dx C mA∧(∀f,Gk (fs.lookup f) (mA f))∧PySem.Within mA (fs.map (·.1))∧fs.length≤1000∧H dx=some (.own a):=by
 obtain ⟨d,z,ne,ob,mA,n,r,q⟩:=(show Bf P w H h a (.ins C dx fs) from hok a _ e)
 exact ⟨mA,⟨ob,n,ne⟩,r,q,z,d⟩
end
structure Ox (K:KKf)(C:HR):Prop where
 pg:PySem.W.plainGet K C Str.empty=true
 hd:PySem.W.hasDictIn K C=true
 po:PySem.W.plainOver K C=true
 sa:PySem.W.findIn K (.ref C) "__setattr__"=some (some (.builtin "object.__setattr__"))
theorem Ox.get {K:KKf}{C:HR}(c:Ox K C)(f:Str):PySem.W.plainGet K C f=true:=c.pg
def NoAttr (K:KKf)(C:HR)(f:Str):Prop:=PySem.W.findIn K (.ref C) f=some none
theorem NoAttr.taker {K:KKf}{C:HR}{f:Str}(n:NoAttr K C f):PySem.W.takerIn K C f=some none:=by
 unfold PySem.W.takerIn
 rw [show PySem.W.findIn K (.ref C) f=some none from n]
 rfl
structure Con (K:KKf)(C:HR)(f:Str)(v:V)(u:HP):Prop where
 at_:PySem.W.findIn K (.ref C) f=some (some u)
 rel:RelV v u
 get:PySem.W.specialIn K u "__get__"=some none
 cp:PySem.W.copiedNames.contains f=false
structure Aft (K:KKf)(C:HR)(m:Str)(f:HR):Prop where
 at_:PySem.W.findIn K (.ref C) m=some (some (.ref f))
 fn:PySem.W.isFn K (.ref f)=true
 kp:PySem.W.keepIn K (.ref f)=true
section
variable {X:Cx}{pins:List (HR×Obj)}{σ:St}{H:Hp}{s:HQ}{a C dx:HR}{fs:List (Str×V)}{f:Str}{v:V}{A:HS}{E:HP→HQ→Prop}
theorem Z3 {b:Bool}{Q:HP→HQ→Prop}(I:Ap X pins σ H s)(e:H a=some (.ins C dx fs))(c:Ox X.K C)(n:NoAttr X.K C f)(l:fs.lookup f=some v)
  (h:∀u s',Ap X pins σ H s'→RelV v u→Q u s'):wpAny (model X.prog X.w) A (getAttr (.ref a) f b) Q E s:=by
 obtain ⟨mA,O,r,_,_,_⟩:=O3 I.hok e
 obtain ⟨u,hu,ru⟩:=Gk.some_of (v:=v) (o:=mA f) (by rw [←l];exact r f)
 exact Aj8 I.kIn O (c.get f) c.hd n hu (Ac8 ru) (h u _ (I.tok _) ru)
theorem Ku {m:Str}{g:HR}{pl:Sem Bool}{Q:HP×HY→HQ→Prop}(I:Ap X pins σ H s)(e:H a=some (.ins C dx fs))(c:Ox X.K C)(k:Aft X.K C m g)(l:fs.lookup m=none)
  (h:Q (.ref g,[.ref a]) s):wpAny (model X.prog X.w) A (getMethod (.ref a) m pl) Q E s:=by
 obtain ⟨mA,O,r,_,_,_⟩:=O3 I.hok e
 have hn:mA m=none:=Gk.none_of (by rw [←l];exact r m)
 exact Ae6 I.kIn O (c.get m) k.at_ k.fn hn h
theorem Zs {y:V}{u:HP}{Q:Unit→HQ→Prop}(I:Ap X pins σ H s)(e:H a=some (.ins C dx fs))(c:Ox X.K C)(n:NoAttr X.K C f)(hl:fs.length<1000)(ry:RelV y u)
  (h:∀s',Ap X pins σ (upd H a (.ins C dx (Bb f y fs))) s'→Q () s'):wpAny (model X.prog X.w) A (setAttr (.ref a) f u) Q E s:=by
 obtain ⟨mA,O,r,wi,_,ho⟩:=O3 I.hok e
 have hz:(fs.map (·.1)).length≤sizeLine:=by rw [AE,CM];omega
 refine Aje I.kIn O c.sa c.po n.taker c.hd wi hz fun h' O' sb=>h _ ?_
 have hd:∃o,h'.get? dx=some o:=let ⟨o,_,_,e',_⟩:=O'.ns;⟨o,e'⟩
 refine I.write (x:=a) (e:=dx) (by rw [e];exact ⟨⟩) (.inr ho) (fun b q hb z=>(sb.2 b hb).trans z) hd ?_
 refine ⟨by rw [Am O.ne];exact ho,?_,O.ne,O'.obj,_,O'.ns,fun g=>?_,fun g hg=>?_⟩
 ·have:=Cg f y fs;omega
 ·show Gk ((Bb f y fs).lookup g) (if g=f then some u else mA g)
  rw [Fu]
  by_cases q:g=f
  ·rw [AN q,AN q];exact ry
  ·rw [AI q,AI q];exact r g
 ·by_cases q:g=f
  ·rw [q];exact (Nk f y fs).1
  ·refine (Nk f y fs).2 g (wi g fun z=>hg ?_)
   show (if g=f then some u else mA g)=none
   rw [AI q];exact z
theorem Ap.made (I:Ap X pins σ H s):Ap X pins σ (upd (upd H s.heap.objs.size (.own (s.heap.objs.size+1))) (s.heap.objs.size+1) (.ins C s.heap.objs.size []))
  { s with heap:=(s.heap.push PySem.W.emptyDict).push (PySem.W.instObj C s.heap.objs.size) }:=by
 have e1:(s.heap.push PySem.W.emptyDict).get? s.heap.objs.size=some PySem.W.emptyDict:=AG s.heap rfl
 have e2:((s.heap.push PySem.W.emptyDict).push (PySem.W.instObj C s.heap.objs.size)).get? (s.heap.objs.size+1)=some (PySem.W.instObj C s.heap.objs.size):=by
  have:=AG (s.heap.push PySem.W.emptyDict) (o:=PySem.W.instObj C s.heap.objs.size) rfl
  rwa [BW] at this
 have e3:(s.heap.push PySem.W.emptyDict).Ns s.heap.objs.size (fun _=>none):=⟨PySem.W.emptyDict,#[],_,e1,rfl,(fun e he=>absurd he (by simp)),fun _=>rfl⟩
 have I1:=I.laid (a:=s.heap.objs.size) (o:=.own (s.heap.objs.size+1)) (h':=s.heap.push PySem.W.emptyDict) (t':=s.toks) (fun b u q=>AB _ q) (AF _) ⟨_,e1⟩
 refine I1.laid (a:=s.heap.objs.size+1) (o:=.ins C s.heap.objs.size []) (t':=s.toks) (fun b u q=>AB _ q) (Nat.le_of_eq (BW _ _)) ?_
 have ne:s.heap.objs.size≠s.heap.objs.size+1:=AS (DN _)
 refine ⟨by rw [Am ne,Ad],AV _,ne,e2,fun _=>none,(Heap.Ns1.of_empty e3).at fun o q=>AB _ q,fun _=>⟨⟩,fun y hy=>absurd rfl hy⟩
theorem Ai8 {prog:HU}{w:HV}{env:Env}{e:Expr}{f:Str}{pos:Pos}{s:HQ}{Q:HP→HQ→Prop}(hb:attributeBase e f env (eval e env)=eval e env)
  (h:wpAny (model prog w) A (eval e env) (fun o s₁=>wpAny (model prog w) A (getAttr o f true) Q E s₁) E s):wpAny (model prog w) A (eval (.Attribute e f pos) env) Q E s:=
 Attribute_any_ h (by rw [arm_eval_Attribute,hb])
end
def As9 (K:KKf)(ta:TE)(f:Str):TE:=fun σ H Q=>ta σ H fun x H1=>∃a C dx fs v,x=.ref a∧H1 a=some (.ins C dx fs)∧Ox K C∧NoAttr K C f∧fs.lookup f=some v∧Q v H1
def Atb (K:KKf)(ta tv:TE)(f:Str):TS:=fun D σ H=>tv σ H fun y H1=>ta σ H1 fun x H2=>∃a C dx fs,x=.ref a∧H2 a=some (.ins C dx fs)∧Ox K C∧NoAttr K C f∧fs.length<1000 ∧
 D.nx σ (upd H2 a (.ins C dx (Bb f y fs)))
section
variable {X:Cx}{o e value:Expr}{f:Str}{pos pos' tpos:Pos}{ta tv:TE}
theorem B0 (he:PE X e ta)(hb:attributeBase e f X.env (eval e X.env)=eval e X.env):PE X (.Attribute e f pos) (As9 X.K ta f):=by
 intro pins s σ H Q I h
 refine Ai8 hb (Bi (he pins s σ H _ I h) fun u s1 ⟨x,H1,I1,rx,a,C,dx,fs,v,ex,ea,c,n,l,q⟩=>?_)
 subst ex
 obtain rfl:u=Value.ref a:=rx
 exact Z3 I1 ea c n l fun u' s2 I2 ru=>⟨v,H1,I2,ru,q⟩
theorem G2 (ha:PE X o ta)(hv:PE X value tv)(hs:swapsWith value (some (.Attribute o f pos')) pos.line X.env=pure false):PS X (.Assign [.Attribute o f pos'] value pos) (Atb X.K ta tv f):=by
 intro pins s σ H D I h
 refine plainObj_wpAny_Assign_Attribute (Bi (hv pins s σ H _ I h) fun u s1 ⟨y,H1,I1,ry,q⟩=>Bi (ha pins s1 σ H1 _ I1 q) fun ov s2 ⟨x,H2,I2,rx,a,C,dx,fs,ex,ea,c,n,l,q2⟩=>?_) hs
 subst ex
 obtain rfl:ov=Value.ref a:=rx
 exact Zs I2 ea c n l ry fun s3 I3=>⟨σ,_,I3,q2⟩
end
section
variable {X:Cx}{pins:List (HR×Obj)}{σ:St}{H:Hp}{s:HQ}{A:HS}{E:HP→HQ→Prop}{Q:HP→HQ→Prop}{c:HP}{b:Bool}
inductive Nq (K:KKf)(H:Hp):V→HP→Prop where
 |non:Nq K H .non (.type "NoneType")
 |bl (x:Bool):Nq K H (.bl x) (.type "bool")
 |int (i:Int):Nq K H (.int i) (.type "int")
 |str (x:Str):Nq K H (.str x) (.type "str")
 |flt (x:UInt64):Nq K H (.flt x) (.type "float")
 |lst {a:HR} {xs:ID} (e:H a=some (.lst xs)):Nq K H (.ref a) (.type "list")
 |frz {a:HR} {o:Obj} {xs:ID} (e:H a=some (.frz o (.lst xs))):Nq K H (.ref a) (.type "list")
 |tup {a:HR} {xs:ID} (e:H a=some (.tup xs)):Nq K H (.ref a) (.type "tuple")
 |dK {a:HR} {kvs:List (B3×V)} (e:H a=some (.dK kvs)):Nq K H (.ref a) (.type "dict")
 |dT {a:HR} {kvs:List (List B3×V)} (e:H a=some (.dT kvs)):Nq K H (.ref a) (.type "dict")
 | ins {a C dx:HR} {fs:List (Str×V)} (e:H a=some (.ins C dx fs)) (cl:Ox K C) (ha:PySem.W.findIn K (.ref C) "__class__"=some (some (.builtin "object.__class__")))
   (hn:PySem.W.specialIn K (.builtin "object.__class__") "__get__"=some (some (.builtin "getset_descriptor.__get__"))) (htk:PySem.W.takesIn K (.builtin "object.__class__")=some true)
   (hm:PySem.W.mroIn K C (.type "object")=some true):Nq K H (.ref a) (.ref C)
theorem E9 {x:V}{u t:HP}(I:Ap X pins σ H s)(rx:RelV x u)(ty:Nq X.K H x t)(e:PySem.W.kitOne X.K t c=some b)(h:∀tk,Q (.bool b) { s with toks:=tk }) :
  wpAny (model X.prog X.w) A (call (.builtin "isinstance") [u,c]) Q E s:=by
 cases ty with
 |non=>cases (show u=Value.none from rx);exact CK PySem.W.kitx_none I.kIn ⟨⟩ e (fun z=>nomatch z) h
 |bl y=>cases (show u=Value.bool y from rx);exact CK PySem.W.kitx_bool I.kIn ⟨⟩ e (fun z=>nomatch z) h
 |int i=>obtain ⟨t,q⟩:=(show ∃t,u=Value.int i t from rx);cases q;exact CK PySem.W.kitx_int I.kIn ⟨⟩ e (fun z=>nomatch z) h
 |str y=>obtain ⟨t,q⟩:=(show ∃t,u=Value.str y t from rx);cases q;exact CK PySem.W.kitx_str I.kIn ⟨⟩ e (fun z=>nomatch z) h
 |flt y=>obtain ⟨t,q⟩:=(show ∃t,u=Value.float y t from rx);cases q;exact CK PySem.W.kitx_float I.kIn ⟨⟩ e (fun z=>nomatch z) h
 |@lst a xs ea=>
  cases (show u=Value.ref a from rx)
  obtain ⟨_,_,n,_,h1⟩:=(show Bf X.prog X.w H s.heap a (.lst xs) from I.hok a _ ea)
  exact CK PySem.W.kitx_list I.kIn ⟨_,h1,rfl⟩ e (fun z=>nomatch z) h
 |@frz a ob xs ea=>
  cases (show u=Value.ref a from rx)
  obtain ⟨_,_,_,n,_,h1⟩:=(show Bf X.prog X.w H s.heap a (.frz ob (.lst xs)) from I.hok a _ ea)
  exact CK PySem.W.kitx_list I.kIn ⟨_,h1,rfl⟩ e (fun z=>nomatch z) h
 |@tup a xs ea=>
  cases (show u=Value.ref a from rx)
  obtain ⟨_,_,_,p⟩:=(show Bf X.prog X.w H s.heap a (.tup xs) from I.hok a _ ea)
  obtain ⟨o,h1,h2,_⟩:=p
  exact CK PySem.W.kitx_tuple I.kIn ⟨o,h1,h2⟩ e (fun z=>nomatch z) h
 |@dK a kvs ea=>
  cases (show u=Value.ref a from rx)
  obtain ⟨_,_,vs,_,p⟩:=(show Bf X.prog X.w H s.heap a (.dK kvs) from I.hok a _ ea)
  obtain ⟨o,es,ep,h1,h2,_⟩:=p
  exact CK PySem.W.kitx_dict I.kIn ⟨o,h1,h2.1⟩ e (fun z=>nomatch z) h
 |@dT a kvs ea=>
  cases (show u=Value.ref a from rx)
  obtain ⟨_,_,xs,_,o,es,ep,h1,h2,_⟩:=(show Bf X.prog X.w H s.heap a (.dT kvs) from I.hok a _ ea)
  exact CK PySem.W.kitx_dict I.kIn ⟨o,h1,h2.1⟩ e (fun z=>nomatch z) h
 |@ins a C dx fs ea cl ha hn htk hm=>
  cases (show u=Value.ref a from rx)
  obtain ⟨mA,O,_⟩:=O3 I.hok ea
  obtain ⟨od,J,_⟩:=O.look
  exact CK (PySem.W.kitx_own (cl.get _) cl.hd ha hn htk hm) I.kIn J e (fun z=>nomatch z) h
end
end L2
namespace L2
open PySem PySem.Spec PyProof.Rows
structure Bz (k:Nat)(A:HS):Prop where
 hd:A.handled=none
 dp:A.depth+3*k+5<recursionLimit
 un:A.units+16*k+200<cLine
theorem Bz.mono {j k:Nat}{A:HS}(r:Bz k A)(h:j≤k):Bz j A:=⟨r.hd,by have:=r.dp;omega,by have:=r.un;omega⟩
theorem Bz.deeper {k:Nat}{A:HS}(r:Bz (k+1) A)(env:Env):Bz k (A.deeper env):=
 ⟨r.hd,by have:=r.dp;show A.depth+1+3*k+5<_;omega,by have:=r.un;show A.units+3+16*k+200<_;omega⟩
theorem Bz.in1 {k:Nat}{A:HS}(r:Bz (k+1) A):Bz k A.in1:=
 ⟨r.hd,by have:=r.dp;show A.depth+3*k+5<_;omega,by have:=r.un;show A.units+1+16*k+200<_;omega⟩
theorem Yo {A:HS}{C:HR}{us:HY}{kw:List (Str×HP)}:(A.under (.builtin "type.__call__" ⟨.ref C::us,kw⟩)).depth=A.depth+1:=by
 first|rfl|simp [Around.under,Code.weight,Code.isCreation,Code.isGuard,Code.isCaller,Code.frames,Code.isFrame,guardIds]
theorem Yr {A:HS}{C:HR}{us:HY}{kw:List (Str×HP)}:(A.under (.builtin "type.__call__" ⟨.ref C::us,kw⟩)).units=A.units+1:=by
 first|rfl|simp [Around.under,Code.cUnits,Code.frames,Code.isFrame]
theorem Bz.make {k:Nat}{A:HS}(r:Bz (k+1) A)(C:HR)(us:HY)(kw:List (Str×HP)):Bz k (A.under (.builtin "type.__call__" ⟨.ref C::us,kw⟩)):=
 ⟨r.hd,by have:=r.dp;rw [Yo];omega,by have:=r.un;rw [Yr];omega⟩
theorem Bz.depth {k:Nat}{A:HS}(r:Bz k A):A.depth<recursionLimit:=by have:=r.dp;omega
theorem Bz.units {k:Nat}{A:HS}(r:Bz k A):A.units+64<cLine:=by have:=r.un;omega
def X5:TA:=fun _ H Q=>Q [] H
def Xx (ta:TE)(tr:TA):TA:=fun σ H Q=>ta σ H fun x H1=>tr σ H1 fun xs H2=>Q (x::xs) H2
section
variable {X:Cx}{e:Expr}{es:HZ}{te:TE}{t:TA}{pos:Pos}
theorem Ai:PA X [] X5:=fun _ _ _ _ H Q I h=>DH ⟨[],H,I,.nil,h⟩
theorem Ab (ha:PE X e te)(hr:PA X es t)(hs:starEach (e::es) X.env=(false,eval e X.env)::starEach es X.env:=by rfl):PA X (e::es) (Xx te t):=by
 intro pos pins s σ H Q I h
 rw [hs]
 show wpAny _ _ (spliced ((false,eval e X.env)::backTo pos (starEach es X.env))) _ _ s
 refine DC (Bi (ha pins s σ H _ I h) fun u s1 ⟨x,H1,I1,r1,q1⟩=>?_)
 exact Bi (hr pos pins s1 σ H1 _ I1 q1) fun us s2 ⟨xs,H2,I2,r2,q2⟩=>⟨x::xs,H2,I2,.cons r1 r2,q2⟩
def Ath (t:TA):TE:=fun σ H Q=>t σ H fun xs H1=>xs.length≤sizeLine∧∀p,H1 p=none→Q (.ref p) (upd H1 p (.lst xs))
theorem Vh (h:PA X es t):PE X (.List es pos) (Ath t):=by
 intro pins s σ H Q I hq
 refine wpAny_List_spliced (Bi (h pos pins s σ H _ I hq) fun us s1 ⟨xs,H1,I1,r,z,q⟩=>⟨by rw [←r.length];exact z,?_⟩)
 have hf:H1 s1.heap.objs.size=none:=I1.hok.fresh (AF _)
 refine ⟨.ref s1.heap.objs.size,upd H1 s1.heap.objs.size (.lst xs),I1.laid (t':=s1.toks) (fun b u e=>AB _ e) (AF _) ?_,rfl,q _ hf⟩
 exact ⟨z,us,0,r,AG _ rfl⟩
end
abbrev Sp:=ID→Hp→VK→XK→Prop
abbrev CXT:=List Env→Hp→HQ→XK→HP→HQ→Prop
structure Ym (P:HU)(w:HV)(K:KKf)(mg:Str→IA)(base:Heap)(A:HS)(outer:List Env)(s:HQ)(H:Hp):Prop where
 frames:A.frames=some outer
 mod:Mod K mg base
 bs:∀b o,base.get? b=some o→s.heap.get? b=some o∧H b=none
 bsz:base.objs.size≤s.heap.objs.size
 funs:s.heap.FunFrames base outer
 frf:∀b∈La outer,H b=none
 hok:Jz P w H s.heap
 bare:AllBare s.gens
def CE (outer:List Env)(P:HU)(w:HV)(H:Hp)(s:HQ)(Q:VK)(u:HP)(s':HQ):Prop:=
 ∃v H',s'.os=s.os∧AllBare s'.gens∧Un (La outer) [] H H' s.heap s'.heap∧Jz P w H' s'.heap∧RelV v u∧Q v H'
def CR (CX:CXT)(outer:List Env)(P:HU)(w:HV)(H:Hp)(s:HQ)(Q:VK)(E:XK)(r:Result)(s':HQ):Prop:=
 match r with
 |.ok (.ret u)=>CE outer P w H s Q u s'
 |.ok _=>False
 |.error e=>CX outer H s E e s'
structure Hh (P:HU)(w:HV)(K:KKf)(mg:Str→IA)(base:Heap)(CX:CXT)(k:Nat)(f:HR)(fd:FuncData)(ps:HW)(sp:Sp):Prop where
 len:∀vs H Q E,sp vs H Q E→vs.length=ps.length
 run:∀(A:HS) (outer:List Env) (s:HQ) (H:Hp) (args:Args) (us:HY) (vs:ID) (Q:VK) (E:XK),Bz k A→Ym P w K mg base A outer s H→BindsTo s fd args (ps.zip us)→A6 vs us→sp vs H Q E →
  codeAny (model P w) A (.call (.ref f) args) (CR CX outer P w H s Q E) s
theorem Hh.mono {P:HU}{w:HV}{K:KKf}{mg:Str→IA}{base:Heap}{CX:CXT}{j k:Nat}{f:HR}{fd:FuncData}{ps:HW}{sp:Sp}(F:Hh P w K mg base CX j f fd ps sp)(h:j≤k) :
  Hh P w K mg base CX k f fd ps sp:=⟨F.len,fun A outer s H args us vs Q E hr=>F.run A outer s H args us vs Q E (hr.mono h)⟩
theorem Ym.make {P:HU}{w:HV}{K:KKf}{mg:Str→IA}{base:Heap}{A:HS}{outer:List Env}{s:HQ}{H:Hp}(e:Ym P w K mg base A outer s H)(C:HR)(us:HY)(kw:List (Str×HP)) :
  Ym P w K mg base (A.under (.builtin "type.__call__" ⟨.ref C::us,kw⟩)) outer s H:=⟨by first|exact e.frames|(simpa [Around.under,Code.envs,Code.isFrame,pushEnvs] using e.frames),e.mod,e.bs,e.bsz,e.funs,e.frf,e.hok,e.bare⟩
section
variable {X:Cx}{pins:List (HR×Obj)}{σ:St}{H:Hp}{s s':HQ}
theorem Ap.env0 (I:Ap X pins σ H s):Ym X.prog X.w X.K X.mg X.base X.A X.stack s H:=
 ⟨I.ok.frames,I.ok.mod,I.bs,AO I.ok.bsz I.sz,I.stack,I.stkFree,I.hok,I.bare⟩
theorem Ap.after {Q:VK}{u:HP}(I:Ap X pins σ H s)(h:CE X.stack X.prog X.w H s Q u s'):EP X pins σ Q u s':=by
 obtain ⟨v,H',os,bare,un,hok,r,q⟩:=h
 obtain ⟨hh,g,d,t,os'⟩:=s'
 obtain rfl:os'=s.os:=os
 exact ⟨v,H',I.call (h':=hh) (g':=g) (d':=d) (t':=t) (ch:=[]) un hok bare (fun b z=>absurd z (by simp)),r,q⟩
end
def Yh (sp:Sp)(dvs:ID)(E:XK)(t:TA):TE:=fun σ H Q=>t σ H fun vs H1=>sp (vs++dvs) H1 Q E
def Aar (C:HR)(sp:Sp)(dvs:ID)(E:XK)(t:TA):TE:=fun σ H Q=>t σ H fun vs H1=>∀x dx,H1 x=none→H1 dx=none→dx≠x →
 sp (.ref x::(vs++dvs)) (upd (upd H1 dx (.own x)) x (.ins C dx [])) (fun v H2=>v=.non∧Q (.ref x) H2) E
def Ea (K:KKf)(fd:FuncData)(ps:HW)(ds:HY):Prop:=
 ∀(s:HQ) (us:HY),K.In s.heap→(us++ds).length=ps.length→BindsTo s fd ⟨us,[]⟩ (ps.zip (us++ds))
theorem Ea.all {K:KKf}{fd:FuncData}{ps:HW}(h:∀us:HY,us.length=ps.length→bindArgs fd ⟨us,[]⟩=pure (ps.zip us)):Ea K fd ps []:=fun s us _ hl=>by
 rw [CG] at hl ⊢
 exact .of_eq (h us hl)
def Ee (CX:CXT)(X:Cx)(E:XK):Prop:=∀(pins:List (HR×Obj)) (σ:St) (H:Hp) (s:HQ) (e:HP) (s':HQ),Ap X pins σ H s→CX X.stack H s E e s'→X.xe e s'
section
variable {X:Cx}{CX:CXT}{k:Nat}{f C:HR}{fd:FuncData}{ps:HW}{sp:Sp}{dvs:ID}{ds:HY}{E:XK}{x m:Str}{p pos apos:Pos}{e o:Expr}{es:HZ}{ta:TE}{t:TA}
theorem To {pins:List (HR×Obj)}{σ:St}{H:Hp}{s:HQ}{Q:VK}{us:HY}{vs:ID}(F:Hh X.prog X.w X.K X.mg X.base CX k f fd ps sp)(hr:Bz k X.A)(hb:Ea X.K fd ps ds)(hd:A6 dvs ds)(hx:Ee CX X E)
  (I:Ap X pins σ H s) (r:A6 vs us) (h:sp (vs++dvs) H Q E):wpAny (model X.prog X.w) X.A (call (.ref f) us) (EP X pins σ Q) X.xe s:=by
 have r2:A6 (vs++dvs) (us++ds):=r.append hd
 have hl:(us++ds).length=ps.length:=by rw [←r2.length];exact F.len _ _ _ _ h
 refine wpAny_call (FO (F.run X.A X.stack s H ⟨us,[]⟩ (us++ds) (vs++dvs) Q E hr I.env0 (hb s us I.kIn hl) r2 h) fun r s' hq=>?_)
 cases r with
 |error e=>exact hx pins σ H s e s' I hq
 |ok fl=>
  cases fl with
  |ret u=>exact I.after hq
  |next=>exact False.elim hq
  |brk=>exact False.elim hq
  |cont=>exact False.elim hq
theorem Aa7 (F:Hh X.prog X.w X.K X.mg X.base CX k f fd ps sp)(hr:Bz k X.A)(hg:Gl X x)(hm:X.mg x=some (.ref f))(hk:PySem.W.keepIn X.K (.ref f)=true)(hb:Ea X.K fd ps ds)(hd:A6 dvs ds)(hx:Ee CX X E)
  (ha:PA X (e::es) t) (hdb:(x==("__debug__":Str))=false:=by decide) (he:starEach (e::es) X.env=(false,eval e X.env)::starEach es X.env:=by rfl) (hpl:(backTo pos (starEach es X.env)).any (·.1)=false:=by rfl) :
  PE X (.Call (.Name x p) (e::es) [] pos) (Yh sp dvs E t):=by
 intro pins s σ H Q I h
 refine DD (Jq I hg hm ?_ hdb)
 refine FJ (h₀:=X.base) I.ok.mod.kin hk (Bi (ha pos pins s σ H _ I h) fun us s1 ⟨vs,H1,I1,r,q⟩=>⟨I1.kIn,?_⟩) he hpl
 exact To F hr hb hd hx I1 r q
structure Mk (K:KKf)(C f:HR):Prop where
 makes:PySem.W.makesIn K C=true
 init:PySem.W.findIn K (.ref C) "__init__"=some (some (.ref f))
 fn:PySem.W.isFn K (.ref f)=true
 kp:PySem.W.keepIn K (.ref C)=true
theorem Xo {pins:List (HR×Obj)}{σ:St}{H:Hp}{s:HQ}{Q:VK}{us:HY}{vs:ID}(M:Mk X.K C f)(F:Hh X.prog X.w X.K X.mg X.base CX k f fd ps sp)(hr:Bz (k+1) X.A)(hb:Ea X.K fd ps ds)(hd:A6 dvs ds)
  (hx:Ee CX X E) (I:Ap X pins σ H s) (r:A6 vs us)
  (h:∀x dx,H x=none→H dx=none→dx≠x→sp (.ref x::(vs++dvs)) (upd (upd H dx (.own x)) x (.ins C dx [])) (fun v H2=>v=.non∧Q (.ref x) H2) E) :
  wpAny (model X.prog X.w) X.A (call (.ref C) us) (EP X pins σ Q) X.xe s:=by
 have hq:=h (s.heap.objs.size+1) s.heap.objs.size (I.hok.fresh (CU _)) (I.hok.fresh (AF _)) (AS (DN _))
 have I2:=Ap.made (C:=C) I
 have r2:A6 (V.ref (s.heap.objs.size+1)::(vs++dvs)) (Value.ref (s.heap.objs.size+1)::(us++ds)):=.cons rfl (r.append hd)
 have hl:(Value.ref (s.heap.objs.size+1)::us++ds).length=ps.length:=by
  have e:=r2.length
  rw [F.len _ _ _ _ hq] at e
  exact e.symm
 refine wpAny_call (Afj (f:=f) I.kIn M.makes M.init (FS.mp M.fn) (FO (F.run _ X.stack _ _ ⟨Value.ref (s.heap.objs.size+1)::us,[]⟩ (Value.ref (s.heap.objs.size+1)::(us++ds)) _ _ E (hr.make C us [])
  (I2.env0.make C us []) (hb _ (Value.ref (s.heap.objs.size+1)::us) I2.kIn hl) r2 hq) fun r s' hq'=>?_))
 cases r with
 |error e=>exact hx pins σ _ _ e s' I2 hq'
 | ok fl=>
  cases fl with
  |ret u=>
   obtain ⟨v,H',I3,rv,ev,q3⟩:=I2.after hq'
   subst ev
   exact ⟨rv,⟨V.ref (s.heap.objs.size+1),H',I3,rfl,q3⟩⟩
  |next=>exact False.elim hq'
  |brk=>exact False.elim hq'
  |cont=>exact False.elim hq'
theorem Aih (M:Mk X.K C f)(F:Hh X.prog X.w X.K X.mg X.base CX k f fd ps sp)(hr:Bz (k+1) X.A)(hg:Gl X x)(hm:X.mg x=some (.ref C))(hb:Ea X.K fd ps ds)(hd:A6 dvs ds)(hx:Ee CX X E)
  (ha:PA X (e::es) t) (hdb:(x==("__debug__":Str))=false:=by decide) (he:starEach (e::es) X.env=(false,eval e X.env)::starEach es X.env:=by rfl) (hpl:(backTo pos (starEach es X.env)).any (·.1)=false:=by rfl) :
  PE X (.Call (.Name x p) (e::es) [] pos) (Aar C sp dvs E t):=by
 intro pins s σ H Q I h
 refine DD (Jq I hg hm ?_ hdb)
 refine FJ (h₀:=X.base) I.ok.mod.kin M.kp (Bi (ha pos pins s σ H _ I h) fun us s1 ⟨vs,H1,I1,r,q⟩=>⟨I1.kIn,?_⟩) he hpl
 exact Xo M F hr hb hd hx I1 r q
theorem Aha (M:Mk X.K C f)(F:Hh X.prog X.w X.K X.mg X.base CX k f fd ps sp)(hr:Bz (k+1) X.A)(hg:Gl X x)(hm:X.mg x=some (.ref C))(hb:Ea X.K fd ps ds)(hd:A6 dvs ds)(hx:Ee CX X E)
  (hdb:(x==("__debug__":Str))=false:=by decide):PE X (.Call (.Name x p) [] [] pos) (Aar C sp dvs E X5):=by
 intro pins s σ H Q I h
 refine DD (Jq I hg hm ?_ hdb)
 exact PySem.W.callWith_K0 I.kIn M.kp (Xo (us:=[]) M F hr hb hd hx I .nil h)
end
section
variable {X:Cx}{CX:CXT}{k:Nat}{f C:HR}{fd:FuncData}{ps ks:HW}{sp:Sp}{E:XK}{x m:Str}{p pos apos kpos:Pos}{e o:Expr}{es:HZ}{kws:List Keyword}{te ta:TE}{t tk:TA}{nm:Option Str}
structure Ase (K:KKf)(fd:FuncData)(ps ks:HW)(g:HY→HY→HY)(gV:ID→ID→ID):Prop where
 to:∀(s:HQ) (us ws:HY),K.In s.heap→(g us ws).length=ps.length→BindsTo s fd ⟨us,ks.zip ws⟩ (ps.zip (g us ws))
 rel:∀{vs:ID} {us:HY} {zs:ID} {ws:HY},A6 vs us→A6 zs ws→A6 (gV vs zs) (g us ws)
variable {g:HY→HY→HY}{gV:ID→ID→ID}
end
structure Ah (N P:HW)(sc:Scope):Prop where
 kind:sc.kind=.function
 co:sc.isCoroutine=false
 gen:sc.isGenerator=false
 nd:N.Nodup
 pre:N.take P.length=P
 par:∀x∈P,sc.names.lookup x=some .local∨sc.names.lookup x=some .cell
 nofree:∀y∈sc.names,y.2≠.free
theorem S9 {kindOf:Str→Option NameKind}{x:Str}:∀{binds:List (Str×HP)} {m:Str→IA},(∀v,(x,v)∉binds)→bindL kindOf binds m x=m x
 |[],_,_=>rfl
 | (n,v)::r,m,h=>by
  unfold bindL
  rw [S9 fun w hw=>h w (AJ _ hw)]
  split
  ·have:x≠n:=by rintro rfl;exact h v AK
   simp [this]
  ·rfl
theorem Ta {kindOf:Str→Option NameKind}{x:Str}:∀{binds:List (Str×HP)} {m:Str→IA},(∀v,(x,v)∉binds)→bindC kindOf binds m x=m x
 |[],_,_=>rfl
 | (n,v)::r,m,h=>by
  unfold bindC
  rw [Ta fun w hw=>h w (AJ _ hw)]
  split
  ·rfl
  ·have:x≠n:=by rintro rfl;exact h v AK
   simp [this]
theorem Sf {kindOf:Str→Option NameKind}{x:Str}{v:HP}:∀{P:HW} {vs:HY} {i:Nat} {m:Str→IA},P.Nodup→P[i]? =some x→vs[i]? =some v→kindOf x=some .local →
  bindL kindOf (P.zip vs) m x=some v
 |[],_,_,_,_,h,_,_=>by simp at h
 |_::_,[],_,_,_,_,h,_=>by simp at h
 |p::P,w::vs,0,m,nd,h1,h2,hk=>by
  simp at h1 h2;subst h1;subst h2
  show bindL kindOf ((p,w)::P.zip vs) m p=_
  unfold bindL
  rw [S9 fun v hv=>(DI.mp nd).1 (GD hv).1,AN hk]
  simp
 |p::P,w::vs,i+1,m,nd,h1,h2,hk=>by
  show bindL kindOf ((p,w)::P.zip vs) m x=_
  unfold bindL
  exact Sf (i:=i) (DI.mp nd).2 (by simpa using h1) (by simpa using h2) hk
theorem Ry {kindOf:Str→Option NameKind}{x:Str}{v:HP}:∀{P:HW} {vs:HY} {i:Nat} {m:Str→IA},P.Nodup→P[i]? =some x→vs[i]? =some v→kindOf x≠some .local →
  bindC kindOf (P.zip vs) m x=some v
 |[],_,_,_,_,h,_,_=>by simp at h
 |_::_,[],_,_,_,_,h,_=>by simp at h
 |p::P,w::vs,0,m,nd,h1,h2,hk=>by
  simp at h1 h2;subst h1;subst h2
  show bindC kindOf ((p,w)::P.zip vs) m p=_
  unfold bindC
  rw [Ta fun v hv=>(DI.mp nd).1 (GD hv).1,AI hk]
  simp
 |p::P,w::vs,i+1,m,nd,h1,h2,hk=>by
  show bindC kindOf ((p,w)::P.zip vs) m x=_
  unfold bindC
  exact Ry (i:=i) (DI.mp nd).2 (by simpa using h1) (by simpa using h2) hk
def Hq (N:HW)(vs:ID):St:=vs.map some++List.replicate (N.length-vs.length) none
def Co (CX:CXT)(P:HU)(w:HV)(K:KKf)(mg:Str→IA)(base:Heap)(N:HW)(qual:Str)(scope:Scope)(f:HR)(cd:HP)(A:HS)(outer:List Env)(s:HQ)(H:Hp)(E:XK):Cx where
 prog:=P
 w:=w
 K:=K
 mg:=mg
 base:=base
 A:=A.deeper (envOfC qual scope s.heap.objs.size f cd)
 N:=N
 s₀:=s
 H₀:=H
 env:=envOfC qual scope s.heap.objs.size f cd
 outer:=outer
 stack:=envOfC qual scope s.heap.objs.size f cd::outer
 ex:=[]
 calm:=true
 fn:=fun _=>true
 pn:=[]
 xe:=fun e s'=>wpAny (model P w) (A.deeper (envOfC qual scope s.heap.objs.size f cd)) (leaving (envOfC qual scope s.heap.objs.size f cd) e) (fun _ s''=>CX outer H s E e s'') (fun e' s''=>CX outer H s E e' s'') s'
theorem Wq {sc:Scope}{n:Nat}{x:Str}(h:sc.names.lookup x=some .cell):∃c,(cellsFrom n sc.names []).lookup x=some c:=by
 have q:=PySem.W.cellsFrom_some sc.names n [] (.inl h)
 exact Option.isSome_iff_exists.mp q
theorem Acu {CX:CXT}{P:HU}{w:HV}{K:KKf}{mg:Str→IA}{base:Heap}{N ps:HW}{qual:Str}{scope:Scope}{f:HR}{cd:HP}{A:HS}{outer:List Env}{s s1:HQ}{H:Hp}{E:XK}{us:HY}{vs:ID}
  (S:Ah N ps scope) (hd:A.handled=none) (e0:Ym P w K mg base A outer s H) (hl:vs.length=ps.length) (r:A6 vs us)
  (x:InCallC s s.heap.objs.size (bindL (envOfC qual scope s.heap.objs.size f cd).kindOf (ps.zip us) fun _=>none) (cellsFrom (s.heap.objs.size+1) scope.names []) (bindC (envOfC qual scope s.heap.objs.size f cd).kindOf (ps.zip us) fun _=>none) s1) :
  Ap (Co CX P w K mg base N qual scope f cd A outer s H E) [] (Hq N vs) H s1:=by
 have hpl:ps.length≤N.length:=by have:=congrArg List.length S.pre;rw [BQ] at this;omega
 obtain ⟨h1,tk,rfl,hk⟩:=x.done
 have noA:∀b:HR,b∉(Co CX P w K mg base N qual scope f cd A outer s H E).ex:=fun b z=>absurd (show b∈([]:List HR) from z) (by simp)
 refine ⟨⟨e0.mod,S.kind,rfl,rfl,AF _,fun y z c h1 h2=>?_,fun y hy=>?_,fun y c _ h=>?_,fun _=>hd,Around.frames_deeper e0.frames,.inr ⟨rfl,rfl⟩,fun b z=>absurd z (noA b),e0.bs,e0.bsz,fun b _ _=>noA b,fun b z=>absurd z (noA b),e0.funs,e0.frf⟩,
  rfl,e0.bare,Un.kept hk,⟨_,x.toInCall.ns,fun i y v h1 h2 h3=>?_⟩,fun y c h=>⟨_,x.cell y c h⟩,e0.hok.fresh (AF _),fun y c h=>?_,fun p hp=>absurd (show p∈([]:List (HR×Obj)) from hp) (by simp),e0.hok.kept hk,?_⟩
 ·exact name_of_addr x.apart (EY h1) (EY h2)
 ·have hy:scope.names.lookup y=some .cell∨scope.names.lookup y=some .free:=hy
  rcases hy with hy|hy
  ·exact Wq hy
  ·exact absurd rfl (S.nofree _ (EY hy))
 ·exact DL (x.above y c (EY h))
 ·have hi:i<vs.length:=by
   unfold Hq at h2
   by_cases hi:i<vs.length
   ·exact hi
   ·rw [BN (by simpa using hi)] at h2
    rw [DS] at h2
    split at h2<;>cases h2
  have ha:vs[i]? =some v:=by
   unfold Hq at h2
   rw [CF (by simpa using hi),BJ] at h2
   cases e:vs[i]? with
   |none=>rw [e] at h2;cases h2
   |some a=>rw [e] at h2;cases h2;rfl
  obtain ⟨u,hu,rv⟩:=r.get ha
  have hp:ps[i]? =some y:=by
   rw [←S.pre,List.getElem?_take_of_lt (by omega)];exact h1
  have ndP:ps.Nodup:=by rw [←S.pre];exact S.nd.sublist (List.take_sublist _ _)
  refine ⟨u,rv,?_⟩
  rcases S.par y (BH hp) with k|k
  ·exact .inl ⟨k,Sf ndP hp hu k⟩
  ·obtain ⟨c,e⟩:=Wq (n:=s.heap.objs.size+1) k
   refine .inr ⟨.inl k,c,e,?_⟩
   have q:=x.cell y c e
   rw [Ry ndP hp hu (by show scope.names.lookup y≠_;rw [k];decide)] at q
   exact q
 ·exact e0.hok.fresh (DL (x.above y c (EY h)))
 ·unfold Hq
  show _=N.length
  rw [AM,AE,EJ]
  omega
theorem Aex {CX:CXT}{P:HU}{w:HV}{K:KKf}{mg:Str→IA}{base:Heap}{k:Nat}{f:HR}{name qual:Str}{params:Arguments}{body:List Stmt}{scope:Scope}{dV kV doc pm cdv ct oc:HP}{an od:IB}
  {osl:Array (IA)} {N ps:HW} {sp:Sp} (lk:K.lookup f=some ⟨oc,od,.func (PySem.W.fnOf name qual params body scope dV kV doc pm an cdv ct),osl⟩) (hcd:PySem.W.codeIn K cdv qual=true) (S:Ah N ps scope)
  (len:∀vs H Q E,sp vs H Q E→vs.length=ps.length)
  (hbody:∀(A:HS) (outer:List Env) (s:HQ) (H:Hp) (vs:ID) (Q:VK) (E:XK),Bz k (A.deeper (envOfC qual scope s.heap.objs.size f cdv))→sp vs H Q E →
   ∃t,Nt (Co CX P w K mg base N qual scope f cdv A outer s H E) body t∧t { nx:=fun _ H'=>Q .non H',rt:=Q } (Hq N vs) H) :
  Hh P w K mg base CX (k+1) f (PySem.W.fnOf name qual params body scope dV kV doc pm an cdv ct) ps sp:=by
 refine ⟨len,fun A outer s H args us vs Q E hr e0 hb r hsp=>?_⟩
 have hl:=len _ _ _ _ hsp
 have KX:K.In s.heap:=e0.mod.kin.keeps fun b o e=>(e0.bs b o e).1
 have lim:s.heap.NoLimit:=e0.mod.nolimit.keeps fun b o e=>(e0.bs b o e).1
 have hkind:∀y∈ps.zip us,scope.names.lookup y.1=some .local∨(scope.names.lookup y.1=some .cell∧((cellsFrom (s.heap.objs.size+1) scope.names []).lookup y.1).isSome=true):=fun ⟨n,v⟩ hy=>by
  rcases S.par n (GD hy).1 with q|q
  ·exact .inl q
  ·exact .inr ⟨q,PySem.W.cellsFrom_some _ _ _ (.inl q)⟩
 refine codeAny_call_function hr.depth (KX _ _ lk) rfl S.co S.gen rfl (PySem.W.codeRec_of KX hcd) (hb _ _ _ _ ?_)
 refine wpAny_newFunctionEnv_cells S.kind hkind fun env he s1 x=>?_
 subst he
 refine ⟨lim.keeps x.toInCall.keep,codeAny_func ?_⟩
 obtain ⟨t,ht,hq⟩:=hbody A outer s H vs Q E (hr.deeper _) hsp
 have I:Ap (Co CX P w K mg base N qual scope f cdv A outer s H E) [] (Hq N vs) H s1:=Acu S hr.hd e0 hl r x
 refine BP (ht [] s1 (Hq N vs) H _ I hq) (fun fl s' hs=>?_) fun e s' hs=>hs
 have fin:∀{σ':St} {H':Hp} {v:V} {u:HP},Ap (Co CX P w K mg base N qual scope f cdv A outer s H E) [] σ' H' s'→RelV v u→Q v H'→CE outer P w H s Q u s' :=
  fun {σ' H' v u} J rv q=>⟨v,H',J.os,J.bare,J.base,J.hok,rv,q⟩
 cases fl with
 |ret u=>
  obtain ⟨v,σ',H',J,rv,q⟩:=hs
  exact fin J rv q
 |next=>
  obtain ⟨σ',H',J,q⟩:=hs
  exact fin (v:=V.non) (u:=Value.none) J rfl q
 |brk=>
  obtain ⟨_,_,_,q⟩:=hs
  exact False.elim q
 |cont=>
  obtain ⟨_,_,_,q⟩:=hs
  exact False.elim q
end L2
namespace L2
open PySem PySem.Spec PyProof.Rows
section
variable {X:Cx}{x:Str}{p pos:Pos}{e:Expr}{es:HZ}{t:TA}{id T:String}{r:ID→Hp→VK→Prop}
def tCB (r:ID→Hp→VK→Prop)(t:TA):TE:=fun σ H Q=>t σ H fun vs H1=>r vs H1 Q
theorem Afd (hc:Cy X (.builtin id) r)(hg:Gl X x)(hm:X.mg x=none)(hv:bootBuiltins x=some (.builtin id))(ha:PA X (e::es) t)(hn:x≠"__name__":=by decide)(hdb:(x==("__debug__":Str))=false:=by decide)
  (he:starEach (e::es) X.env=(false,eval e X.env)::starEach es X.env:=by rfl) (hpl:(backTo pos (starEach es X.env)).any (·.1)=false:=by rfl):PE X (.Call (.Name x p) (e::es) [] pos) (tCB r t):=by
 intro pins s σ H Q I h
 refine DD (Ez I hg hm hv ?_ hn hdb)
 exact PyProof.Rows.callWith_builtin1 (Bi (ha pos pins s σ H _ I h) fun us s1 ⟨vs,H1,I1,r1,q1⟩=>hc pins s1 σ H1 vs us Q I1 r1 q1) he hpl
theorem Acx (hc:Cy X (.type T) r)(hg:Gl X x)(hm:X.mg x=none)(hv:bootBuiltins x=some (.type T))(ha:PA X (e::es) t)(hn:x≠"__name__":=by decide)(hdb:(x==("__debug__":Str))=false:=by decide)
  (he:starEach (e::es) X.env=(false,eval e X.env)::starEach es X.env:=by rfl) (hpl:(backTo pos (starEach es X.env)).any (·.1)=false:=by rfl):PE X (.Call (.Name x p) (e::es) [] pos) (tCB r t):=by
 intro pins s σ H Q I h
 refine DD (Ez I hg hm hv ?_ hn hdb)
 exact BX (Bi (ha pos pins s σ H _ I h) fun us s1 ⟨vs,H1,I1,r1,q1⟩=>hc pins s1 σ H1 vs us Q I1 r1 q1) he hpl
end
end L2
namespace HT
open PySem PyProof.Rows
section
variable {prog:HU}{w:HV}{A:HS}{E:HP→HQ→Prop}{s:HQ}
def sIx (n d:Nat):Option Int→Nat
 |none=>d
 |some v=>if v<0 then (v+(n:Int)).toNat else min v.toNat n
theorem sIx_none (n d:Nat):sIx n d none=d:=rfl
theorem sIx_nat (n d k:Nat):sIx n d (some (k:Int))=min k n:=by
 show (if (k:Int)<0 then ((k:Int)+(n:Int)).toNat else min (k:Int).toNat n)=min k n
 rw [AI (by omega),CY]
theorem sIx_le (n d:Nat)(hd:d≤n)(o:Option Int):sIx n d o≤n:=by
 cases o with
 |none=>exact hd
 |some v=>
  show (if v<0 then (v+(n:Int)).toNat else min v.toNat n)≤n
  by_cases hv:v<0
  ·rw [AN hv];omega
  ·rw [AI hv];exact Nat.min_le_right _ _
theorem Aau (v:Int)(n d:Nat):(if v<0 then max (v+(n:Int)) 0 else min v (n:Int))=((sIx n d (some v):Nat):Int):=by
 show (if v<0 then max (v+(n:Int)) 0 else min v (n:Int))=(((if v<0 then (v+(n:Int)).toNat else min v.toNat n):Nat):Int)
 by_cases hv:v<0
 ·simp only [AN hv];omega
 ·simp only [AI hv];omega
theorem Zq (lo hi:Option Int)(n:Nat):Builtin.Slice.sliceAdjust lo hi 1 (n:Int)=(((sIx n 0 lo:Nat):Int),((sIx n n hi:Nat):Int)):=by
 have h1:¬((1:Int)<0):=by omega
 unfold Builtin.Slice.sliceAdjust
 simp only [h1,DE]
 refine Prod.ext ?_ ?_
 ·cases lo with
  |none=>rfl
  |some v=>exact Aau v n 0
 ·cases hi with
  |none=>rfl
  |some v=>exact Aau v n n
theorem Yp (i j:Nat):Builtin.Slice.slicePlaces (i:Int) (j:Int) 1=j-i:=by
 unfold Builtin.Slice.slicePlaces
 have h1:(1:Int)>0:=by omega
 simp only [h1,FP,Int.ediv_one]
 split<;>omega
theorem P9 {v:HP}{o:Option Int}{Q:Option Int→HQ→Prop}(p:IsPart v o)(h:Q o s):wpAny (model prog w) A (Builtin.Slice.slicePartIndex v) Q E s:=by
 cases p with
 |none=>exact slicePart_none h
 |int i t=>exact slicePart_int h
theorem Nw {sl:HR}{vl vu:HP}{lo hi:Option Int}{n:Nat}{Q:Int×Int×Nat→HQ→Prop}(hs:s.heap.IsSliceOf sl vl vu .none)(pl:IsPart vl lo)(pu:IsPart vu hi)
  (h:Q (((sIx n 0 lo:Nat):Int),1,sIx n n hi-sIx n 0 lo) s):wpAny (model prog w) A (Builtin.Slice.sliceApplied (.ref sl) (pure (n:Int))) Q E s:=by
 obtain ⟨os,hos,hcs,hds⟩:=id hs
 unfold Builtin.Slice.sliceApplied Builtin.Slice.sliceFields
 refine AA (AA (CS hos hds (x:=vl) rfl (AA (CS hos hds (x:=vu) rfl (AA (CS hos hds (x:=.none) rfl (AC ?_)))))))
 refine AA (slicePart_none ?_)
 show wpAny _ _ (if ((1:Int)==0)=true then _ else _) _ _ s
 rw [AI (by decide)]
 refine AA (P9 pl (AA (P9 pu (AA (AC ?_)))))
 show wpAny _ _ (match Builtin.Slice.sliceAdjust lo hi 1 (n:Int) with|(lo,hi)=>pure (lo,(1:Int),Builtin.Slice.slicePlaces lo hi 1)) _ _ s
 rw [Zq lo hi n]
 show wpAny _ _ (pure (((sIx n 0 lo:Nat):Int),(1:Int),Builtin.Slice.slicePlaces ((sIx n 0 lo:Nat):Int) ((sIx n n hi:Nat):Int) 1)) _ _ s
 rw [Yp]
 exact AC h
theorem Aek (xs:Array HP)(i k:Nat):((List.range k).filterMap fun (m:Nat)=>xs[((i:Int)+(m:Int)*1).toNat]?).toArray=((xs.toList.drop i).take k).toArray:=by
 have e:(fun (m:Nat)=>xs[((i:Int)+(m:Int)*1).toNat]?)=fun m=>xs[i+m]?:=by
  funext m
  have:((i:Int)+(m:Int)*1).toNat=i+m:=by omega
  rw [this]
 rw [e]
 have:=pick_run xs i k
 rw [List.filterMap_map] at this
 have e2:((fun x=>xs[x]?) ∘ fun x=>i+x)=fun m=>xs[i+m]?:=rfl
 rw [e2] at this
 rw [this]
theorem getItem_tuple_cut {t sl:HR}{items:Array HP}{vl vu:HP}{lo hi:Option Int}{Q:HP→HQ→Prop}(ht:IsTup s.heap t items)(hs:s.heap.IsSliceOf sl vl vu .none)(pl:IsPart vl lo)(pu:IsPart vu hi)
  (hw:¬(sIx items.size 0 lo=0∧sIx items.size items.size hi=items.size))
  (h:Q (.ref s.heap.objs.size) { s with heap:=s.heap.push { cls:=.type "tuple",data:=.seq ((items.toList.drop (sIx items.size 0 lo)).take (sIx items.size items.size hi-sIx items.size 0 lo)).toArray } })
  (hsz:items.size≤sizeLine):wpAny (model prog w) A (getItem (.ref t) (.ref sl)) Q E s:=by
 have htake:sizeOk (.seq ((items.toList.drop (sIx items.size 0 lo)).take (sIx items.size items.size hi-sIx items.size 0 lo)).toArray):=by
  show ((items.toList.drop (sIx items.size 0 lo)).take (sIx items.size items.size hi-sIx items.size 0 lo)).toArray.size≤sizeLine
  rw [AR,BQ,DO,BK]
  omega
 have hj:sIx items.size items.size hi≤items.size:=sIx_le _ _ (AF _) hi
 obtain ⟨os,hos,hcs,hds⟩:=id hs
 have hTs:s.TypeIs (.ref sl) "slice":=⟨os,hos,hcs⟩
 unfold getItem
 try with_reducible refine CT ?_
 first|refine AA (AC ?_)|skip
 refine AA (wpAny_sequenceKey ht.typeIs (by decide) ?_)
 refine AA (CC (name:=Str.ofString "__getitem__") ht.typeIs FA
  (wpAny_call_entry FA ht.typeIs entry_tuple_getitem ?_ (args_tuple_getitem _ _)))
 show wpAny _ _ (Builtin.Tuple.tupleItemsOf (.ref t) >>= _) _ _ s
 refine AA (tupleItemsOf_ ht ?_)
 refine AA (wpAny_typeOf hTs ?_)
 rw [AN (by decide)]
 refine AA (Nw hs pl pu ?_)
 have hno:¬((((sIx items.size 0 lo:Nat):Int)==0&&(1:Int)==1&&(sIx items.size items.size hi-sIx items.size 0 lo)==items.size)=true):=by
  intro q
  rw [BR,BR] at q
  have q1:((sIx items.size 0 lo:Nat):Int)=0:=eq_of_beq q.1.1
  have q2:sIx items.size items.size hi-sIx items.size 0 lo=items.size:=eq_of_beq q.2
  exact hw ⟨by omega,by omega⟩
 show wpAny _ _ (if (((sIx items.size 0 lo:Nat):Int)==0&&(1:Int)==1&&(sIx items.size items.size hi-sIx items.size 0 lo)==items.size)=true then _ else _) _ _ s
 rw [AI hno,Aek]
 first
  |exact AA (m:=Builtin.Tuple.tupleExact _) (BS (AC ⟨_,rfl,AC h⟩) htake)
  |exact AA (m:=Builtin.Tuple.tupleExact _) (BS (AA (AC (AC ⟨_,rfl,AC h⟩))) htake)
  |exact AA (AA (m:=Builtin.Tuple.tupleExact _) (BS (AC (AC ⟨_,rfl,AC h⟩)) htake))
  |exact AA (AA (m:=Builtin.Tuple.tupleExact _) (BS (AC ⟨_,rfl,AC h⟩) htake))
end
end HT
namespace L2
open PySem PySem.Spec PyProof.Rows
abbrev TO:=St→Hp→(Option Int→Hp→Prop)→Prop
def PO (X:Cx)(e:Option Expr)(t:TO):Prop:=
 ∀(pins:List (HR×Obj)) (s:HQ) (σ:St) (H:Hp) (Q:Option Int→Hp→Prop),Ap X pins σ H s→t σ H Q →
  wpAny (model X.prog X.w) X.A (evalPart e X.env) (fun u s'=>∃o H',Ap X pins σ H' s'∧IsPart u o∧Q o H') X.xe s
def Ajv:TO:=fun _ H Q=>Q none H
def Arm (t:TE):TO:=fun σ H Q=>t σ H fun x H1=>∃i,x=.int i∧Q (some i) H1
section
variable {X:Cx}{e:Expr}{te:TE}{lo hi:Option Expr}{tl th:TO}{pos p2:Pos}
theorem Jt:PO X none Ajv:=by
 intro pins s σ H Q I h
 rw [evalPart_none]
 exact AC ⟨none,H,I,.none,h⟩
theorem Dd (h:PE X e te):PO X (some e) (Arm te):=by
 intro pins s σ H Q I hw
 rw [evalPart_some]
 refine Bi (h pins s σ H _ I hw) fun u s1 ⟨x,H1,I1,r1,q1⟩=>?_
 obtain ⟨i,rfl,q⟩:=q1
 obtain ⟨t,rfl⟩:=r1
 exact ⟨some i,H1,I1,.int i t,q⟩
def SlR (X:Cx)(r:V→Option Int→Option Int→Hp→VK→Prop):Prop:=
 ∀(pins:List (HR×Obj)) (s:HQ) (σ:St) (H:Hp) (x:V) (v vl vu:HP) (lo hi:Option Int) (sl:HR) (Q:VK),Ap X pins σ H s→RelV x v→s.heap.IsSliceOf sl vl vu .none→IsPart vl lo→IsPart vu hi→r x lo hi H Q →
  ∃T id,typeLookup (.type T) "__getitem__"=pure (some (.builtin id))∧s.TypeIs v T∧wpAny (model X.prog X.w) X.A (getItem v (.ref sl)) (EP X pins σ Q) X.xe s
def tSl (r:V→Option Int→Option Int→Hp→VK→Prop)(te:TE)(tl th:TO):TE:=fun σ H Q=>te σ H fun x H1=>tl σ H1 fun l H2=>th σ H2 fun u H3=>r x l u H3 Q
theorem Dr {r:V→Option Int→Option Int→Hp→VK→Prop}(hr:SlR X r)(he:PE X e te)(hl:PO X lo tl)(hu:PO X hi th):PE X (.Subscript e (.Slice lo hi none p2) pos) (tSl r te tl th):=by
 intro pins s σ H Q I h
 refine Subscript_ (Bi (he pins s σ H _ I h) fun v s1 ⟨x,H1,I1,r1,q1⟩=>?_)
 refine wpAny_Slice (Bi (hl pins s1 σ H1 _ I1 q1) fun vl s2 ⟨l,H2,I2,pl,q2⟩=>Bi (hu pins s2 σ H2 _ I2 q2) fun vu s3 ⟨u,H3,I3,pu,q3⟩=>?_)
 rw [evalPart_none]
 refine AC ?_
 have I4:Ap X pins σ H3 { s3 with heap:=s3.heap.push { cls:=.type "slice",data:=.fields #[vl,vu,.none] } }:=I3.kept (t':=s3.toks) fun b ob q=>AB _ q
 obtain ⟨T,id,hT,ht,hg⟩:=hr pins { s3 with heap:=s3.heap.push { cls:=.type "slice",data:=.fields #[vl,vu,.none] } } σ H3 x v vl vu l u s3.heap.objs.size Q I4 r1 (Heap.IsSliceOf.new ..) pl pu q3
 show wpAny (model X.prog X.w) X.A (subscriptTail e (.Slice lo hi none p2) v (.ref s3.heap.objs.size)) (EP X pins σ Q) X.xe { s3 with heap:=s3.heap.push { cls:=.type "slice",data:=.fields #[vl,vu,.none] } }
 exact tail_any (ops:=[.ref s3.heap.objs.size,v]) ht hT hg (by with_unfolding_all rfl)
def Ni (xs:ID)(lo hi:Option Int):ID:=(xs.drop (HT.sIx xs.length 0 lo)).take (HT.sIx xs.length xs.length hi-HT.sIx xs.length 0 lo)
theorem Oa (xs:ID)(lo hi:Option Int):(Ni xs lo hi).length≤xs.length:=by
 unfold Ni
 rw [BQ,DO]
 omega
def Asz (K:KKf):V→Option Int→Option Int→Hp→VK→Prop:=fun x lo hi H Q=>∃a xs,x=.ref a∧D7 K H a xs ∧
 ¬(HT.sIx xs.length 0 lo=0∧HT.sIx xs.length xs.length hi=xs.length)∧∀p,H p=none→Q (.ref p) (upd H p (.tup (Ni xs lo hi)))
theorem Z0:SlR X (Asz X.K):=by
 intro pins s σ H x v vl vu lo hi sl Q I rx hs pl pu h
 obtain ⟨a,xs,rfl,hx,hw,q⟩:=h
 cases rx
 obtain ⟨its,r,ht,hz⟩:=I.tuple hx
 have hlen:its.toArray.size=xs.length:=by rw [AR];exact r.length.symm
 refine ⟨"tuple",_,FA.lookup,ht.typeIs,?_⟩
 refine HT.getItem_tuple_cut ht hs pl pu (by rw [hlen];exact hw) ?_ (by rw [hlen];exact hz)
 rw [hlen]
 refine ⟨.ref s.heap.objs.size,_,I.laid (t':=s.toks) (o:=.tup (Ni xs lo hi)) (fun b ob q=>AB _ q) (AF _) ?_,rfl,q _ (I.hok.fresh (AF _))⟩
 exact ⟨AO (Oa xs lo hi) hz,_,(r.drop (HT.sIx xs.length 0 lo)).take (HT.sIx xs.length xs.length hi-HT.sIx xs.length 0 lo),IsTup.new _ _⟩
end
end L2
namespace L2
open PySem PySem.Spec PyProof.Rows
def ixN (n:Nat)(i:Int):Option Nat:=if 0≤i then (if i<n then some i.toNat else none) else if -(n:Int)≤i then some (i+n).toNat else none
def Q4 {α:Type}(xs:List α)(i:Int):Option α:=(ixN xs.length i).bind fun j=>xs[j]?
theorem Aiy {n:Nat}{i:Int}{j:Nat}(h:ixN n i=some j):seqIndex? i n=some j∧j<n∧-(n:Int)≤i∧i<n:=by
 unfold ixN at h
 by_cases h0:0≤i
 ·rw [AN h0] at h
  by_cases h1:i<n
  ·rw [AN h1] at h
   have e:i.toNat=j:=Option.some.inj h
   exact ⟨by rw [seqIndex_of h0 h1,e],by omega,by omega,h1⟩
  ·rw [AI h1] at h;cases h
 ·rw [AI h0] at h
  by_cases h1:-(n:Int)≤i
  ·rw [AN h1] at h
   have e:(i+n).toNat=j:=Option.some.inj h
   exact ⟨by rw [seqIndex_neg (by omega) h1,e],by omega,h1,by omega⟩
  ·rw [AI h1] at h;cases h
theorem Vr {α:Type}{xs:List α}{i:Int}{v:α}(h:Q4 xs i=some v):∃j,seqIndex? i xs.length=some j∧xs[j]? =some v∧j<xs.length∧-(xs.length:Int)≤i∧i<xs.length:=by
 unfold Q4 at h
 cases e:ixN xs.length i with
 |none=>rw [e] at h;cases h
 |some j=>
  rw [e] at h
  obtain ⟨h1,h2,h3,h4⟩:=Aiy e
  exact ⟨j,h1,h,h2,h3,h4⟩
theorem A2 {α:Type}{xs:List α}{j:Nat}{v:α}(h:xs[j]? =some v):Q4 xs (j:Int)=some v:=by
 have hj:j<xs.length:=(BI.mp h).1
 have e:ixN xs.length (j:Int)=some j:=by
  unfold ixN
  rw [AN (by omega),AN (by omega)];simp
 unfold Q4;rw [e];exact h
def Ah2 (b:Expr):Prop:=∀o i,subscripted b false o i=operate [o,i] (getItem o i)
def IxR (X:Cx)(r:R2):Prop:=
 ∀(value slice:Expr) (pins:List (HR×Obj)) (s:HQ) (σ:St) (H:Hp) (x y:V) (v u:HP) (Q:VK),Ap X pins σ H s→RelV x v→RelV y u→r x y H Q →
  subscripted slice false v u=operate [v,u] (getItem v u)→wpAny (model X.prog X.w) X.A (subscriptTail value slice v u) (EP X pins σ Q) X.xe s
def MtR (X:Cx)(id:String)(r:V→ID→Hp→VK→Prop):Prop:=
 ∀(pins:List (HR×Obj)) (s:HQ) (σ:St) (H:Hp) (x:V) (xs:ID) (v:HP) (us:HY) (Q:VK),Ap X pins σ H s→RelV x v→A6 xs us→r x xs H Q →
  wpAny (model X.prog X.w) X.A (call (.builtin id) (v::us)) (EP X pins σ Q) X.xe s
section
variable {X:Cx}{a b:Expr}{ta tb:TE}{pos:Pos}
theorem Eb {r:R2}(hr:IxR X r)(ha:PE X a ta)(hb:PE X b tb)(hs:Ah2 b):PE X (.Subscript a b pos) (tOp r ta tb):=by
 intro pins s σ H Q I h
 exact Subscript_ (Alh ha hb I h fun v u s2 x y H2 I2 rx ry q=>hr a b pins s2 σ H2 x y v u Q I2 rx ry q (hs _ _))
def Aso (K:KKf):R2:=fun x y H Q=>∃p xs i v,x=.ref p∧y=.int i∧A1 K H p xs∧Q4 xs i=some v∧Q v H
def As7 (K:KKf):R2:=fun x y H Q=>∃p xs i v,x=.ref p∧y=.int i∧D7 K H p xs∧Q4 xs i=some v∧Q v H
def Asf:R2:=fun x y H Q=>∃z i c,x=.str z∧y=.int i∧z.length≤sizeLine∧Q4 z.cps.toList i=some c∧Q (.str ⟨#[c]⟩) H
theorem Ajp:IxR X (Aso X.K):=by
 intro value slice pins s σ H x y v u Q I rx ry h hs
 obtain ⟨p,xs,i,z,rfl,rfl,hq,he,q⟩:=h
 cases rx
 obtain ⟨t,rfl⟩:=ry
 obtain ⟨its,r,pl,hz⟩:=I.list hq
 obtain ⟨j,h1,h2,h3,h4,h5⟩:=Vr he
 obtain ⟨w,ew,rw'⟩:=r.get h2
 have hl:=r.length
 have hn:=Mx
 have fin:EP X pins σ Q w s:=⟨z,H,I,rw',q⟩
 by_cases h0:0≤i
 ·have hj:i.toNat=j:=by
   rw [seqIndex_of h0 h5] at h1
   exact Option.some.inj h1
  exact item_listR pl.isList h0 (by omega) (by rw [hj];simpa using ew) fin hs
 ·have hj:(i+(its.toArray.size:Int)).toNat=j:=by
   rw [seqIndex_neg (by omega) h4] at h1
   rw [AR,←hl]
   exact Option.some.inj h1
  exact subscriptTail_builtinR (x:=w) pl.isList.typeIs slot_list_getitem.lookup
   (wpAny_getItem_list_neg (Q:=fun r s'=>r=w∧EP X pins σ Q r s') pl.isList (by omega) (by rw [AR]<;>omega) (by omega) (by rw [hj];simpa using ew) ⟨rfl,fin⟩) hs
theorem Yu:IxR X (As7 X.K):=by
 intro value slice pins s σ H x y v u Q I rx ry h hs
 obtain ⟨p,xs,i,z,rfl,rfl,hq,he,q⟩:=h
 cases rx
 obtain ⟨t,rfl⟩:=ry
 obtain ⟨its,r,pl,hz⟩:=I.tuple hq
 obtain ⟨j,h1,h2,h3,h4,h5⟩:=Vr he
 obtain ⟨w,ew,rw'⟩:=r.get h2
 have hl:=r.length
 have hn:=Mx
 have fin:EP X pins σ Q w s:=⟨z,H,I,rw',q⟩
 exact subscriptTail_builtinR (x:=w) pl.typeIs slot_tuple_getitem.lookup
  (getItem_tuple (j:=j) (Q:=fun r s'=>r=w∧EP X pins σ Q r s') pl (by omega) (by omega) (by rw [AR,←hl];exact h1) (by simpa using ew) ⟨rfl,fin⟩) hs
theorem An6:IxR X Asf:=by
 intro value slice pins s σ H x y v u Q I rx ry h hs
 obtain ⟨z,i,c,rfl,rfl,hz,he,q⟩:=h
 obtain ⟨t,rfl⟩:=rx
 obtain ⟨t',rfl⟩:=ry
 obtain ⟨j,h1,h2,h3,h4,h5⟩:=Vr he
 have hl:z.cps.toList.length=z.length:=by simp [Str.length]
 rw [hl] at h1 h4 h5
 have hn:=Mx
 exact tail_any (GK s z t) slot_str_getitem.lookup (getItem_str (c:=c) (by
  have e1:decide (i < -(2 ^ 63:Int))=false:=BC (by omega)
  have e2:decide (i≥2 ^ 63)=false:=BC (by omega)
  rw [e1,e2,Bool.or_false]) (by rw [h1];simpa using h2) ⟨.str ⟨#[c]⟩,H,I.tok _,⟨_,rfl⟩,q⟩) hs
theorem Uu (lo hi:Option Int)(n:Nat):(sliceBounds lo hi none n).1=((HT.sIx n 0 lo:Nat):Int)∧(sliceBounds lo hi none n).2.1=((HT.sIx n n hi:Nat):Int)∧(sliceBounds lo hi none n).2.2=1:=by
 refine ⟨?_,?_,rfl⟩
 ·cases lo with
  |none=>simp [sliceBounds,HT.sIx]
  |some i=>
   simp only [sliceBounds,HT.sIx,Option.getD_none,show (1:Int)>0 by decide,FP]
   by_cases h:i<0
   ·simp only [h,FP]<;>omega
   ·simp only [h,DE]<;>omega
 ·cases hi with
  |none=>simp [sliceBounds,HT.sIx]
  |some i=>
   simp only [sliceBounds,HT.sIx,Option.getD_none,show (1:Int)>0 by decide,FP]
   by_cases h:i<0
   ·simp only [h,FP]<;>omega
   ·simp only [h,DE]<;>omega
theorem Q5 (its:HY)(lo hi:Option Int):slicePick its.toArray lo hi none=((its.drop (HT.sIx its.length 0 lo)).take (HT.sIx its.length its.length hi-HT.sIx its.length 0 lo)).toArray:=by
 obtain ⟨h1,h2,h3⟩:=Uu lo hi its.toArray.size
 unfold slicePick
 rw [h1,h2,h3]
 simp only [sliceRange_one,pick_run,AR]<;>rfl
def Atc (K:KKf):V→Option Int→Option Int→Hp→VK→Prop:=fun x lo hi H Q=>∃a xs,x=.ref a∧A1 K H a xs∧∀p,H p=none→Q (.ref p) (upd H p (.lst (Ni xs lo hi)))
theorem Ai3:SlR X (Atc X.K):=by
 intro pins s σ H x v vl vu lo hi sl Q I rx hs pl pu h
 obtain ⟨a,xs,rfl,hx,q⟩:=h
 cases rx
 obtain ⟨its,r,ht,hz⟩:=I.list hx
 have hlen:=r.length
 refine ⟨"list",_,slot_list_getitem.lookup,ht.isList.typeIs,?_⟩
 refine wpAny_getItem_list_slice ht.isList hs pl pu .none (by simp) ?_ (by rw [AR]<;>omega)
 rw [Q5,←hlen]
 refine ⟨.ref s.heap.objs.size,_,I.laid (t':=s.toks) (o:=.lst (Ni xs lo hi)) (fun b ob q=>AB _ q) (AF _) ?_,rfl,q _ (I.hok.fresh (AF _))⟩
 exact ⟨AO (Oa xs lo hi) hz,_,0,(r.drop (HT.sIx xs.length 0 lo)).take (HT.sIx xs.length xs.length hi-HT.sIx xs.length 0 lo),AG _ rfl⟩
def Fg:V→Bool
 |.non=>true
 |.bl _=>true
 |.int _=>true
 |.str _=>true
 |_=>false
def eqV:V→V→Bool
 |.non,.non=>true
 |.bl a,.bl b=>a==b
 |.bl a,.int b=>(if a then 1 else 0)==b
 |.int a,.bl b=>a==(if b then 1 else 0)
 |.int a,.int b=>a==b
 |.str a,.str b=>a==b
 |_,_=>false
theorem Anx {A:HS}{s:HQ}{y x:V}{u v:HP}(ry:RelV y u)(rx:RelV x v)(fy:Fg y=true)(fx:Fg x=true):SeqAt.EqAt A s u v (eqV y x):=by
 cases y with
 |non=>
  cases ry
  cases x with
  |non=>cases rx;exact SeqAt.EqAt.same _
  |bl b=>cases rx;exact SeqAt.EqAt.none_bool b
  |int b=>obtain ⟨t,rfl⟩:=rx;exact SeqAt.EqAt.none_int b t
  |str b=>obtain ⟨t,rfl⟩:=rx;exact SeqAt.EqAt.none_str b t
  |_=>exact absurd (show false=true from fx) BA
 |bl a=>
  cases ry
  cases x with
  |non=>cases rx;exact SeqAt.EqAt.bool_none a
  |bl b=>cases rx;exact SeqAt.EqAt.bool_bool a b
  |int b=>obtain ⟨t,rfl⟩:=rx;exact SeqAt.EqAt.bool_int a b t
  |str b=>obtain ⟨t,rfl⟩:=rx;exact SeqAt.EqAt.bool_str a b t
  |_=>exact absurd (show false=true from fx) BA
 |int a=>
  obtain ⟨t',rfl⟩:=ry
  cases x with
  |non=>cases rx;exact SeqAt.EqAt.int_none a t'
  |bl b=>cases rx;exact SeqAt.EqAt.int_bool a t' b
  |int b=>obtain ⟨t,rfl⟩:=rx;exact SeqAt.EqAt.int_int a t' b t
  |str b=>obtain ⟨t,rfl⟩:=rx;exact SeqAt.EqAt.int_str a t' b t
  |_=>exact absurd (show false=true from fx) BA
 |str a=>
  obtain ⟨t',rfl⟩:=ry
  cases x with
  |non=>cases rx;exact SeqAt.EqAt.str_none a t'
  |bl b=>cases rx;exact SeqAt.EqAt.str_bool a t' b
  |int b=>obtain ⟨t,rfl⟩:=rx;exact SeqAt.EqAt.str_int a t' b t
  |str b=>obtain ⟨t,rfl⟩:=rx;exact SeqAt.EqAt.str_str a t' b t
  |_=>exact absurd (show false=true from fx) BA
 |_=>exact absurd (show false=true from fy) BA
def Yi (x:V)(u:HP):Bool:=match u with
 |.none=>eqV .non x
 |.bool b=>eqV (.bl b) x
 |.int i _=>eqV (.int i) x
 |.str z _=>eqV (.str z) x
 |_=>false
theorem Vn {x y:V}{u:HP}(r:RelV y u)(f:Fg y=true):Yi x u=eqV y x:=by
 cases y with
 |non=>cases r;rfl
 |bl b=>cases r;rfl
 |int i=>obtain ⟨t,rfl⟩:=r;rfl
 |str z=>obtain ⟨t,rfl⟩:=r;rfl
 |_=>exact absurd (show false=true from f) BA
theorem Md {x:V}:∀{xs:ID} {us:HY},A6 xs us→xs.all Fg=true→us.any (Yi x)=xs.any fun y=>eqV y x
 |_,_,.nil,_=>rfl
 |y::xs,u::us,.cons r t,f=>by
  rw [List.all_cons,BR] at f
  rw [FW,FW,Vn r f.1,Md t f.2]
theorem Gs {A:HS}{s:HQ}{x:V}{v:HP}(rx:RelV x v)(fx:Fg x=true):∀{xs:ID} {us:HY},A6 xs us→xs.all Fg=true→∀u∈us,SeqAt.EqAt A s u v (Yi x u)
 |_,_,.nil,_=>fun u hu=>by cases hu
 |y::xs,u::us,.cons r t,f=>fun u' hu=>by
  rw [List.all_cons,BR] at f
  rcases AU.mp hu with rfl|hu
  ·rw [Vn r f.1];exact Anx r rx f.1 fx
  ·exact Gs rx fx t f.2 u' hu
def inV (x:V)(xs:ID):Bool:=xs.any fun y=>eqV y x
def rIn (K:KKf)(neg:Bool):R2:=fun x y H Q=>∃p xs,y=.ref p∧(A1 K H p xs∨D7 K H p xs)∧Fg x=true∧xs.all Fg=true∧Q (.bl (if neg then !inV x xs else inV x xs)) H
theorem Ade:Dv X (compareOp .In) (rIn X.K false):=by
 intro pins s σ H x y v u Q I rx ry h
 obtain ⟨p,xs,rfl,hq,fx,fs,q⟩:=h
 cases ry
 rcases hq with hq|hq
 ·obtain ⟨its,r,pl,hz⟩:=I.list hq
  refine SeqAt.in_listAt (Yi x) pl.isList (fun w hw=>Gs rx fx r fs w (by simpa using hw)) ⟨.bl _,H,I,rfl,?_⟩
  rw [show its.toArray.any (Yi x)=its.any (Yi x) by simp,Md r fs]
  exact q
 ·obtain ⟨its,r,pl,hz⟩:=I.tuple hq
  refine SeqAt.in_tupleAt (Yi x) pl (fun w hw=>Gs rx fx r fs w (by simpa using hw)) ⟨.bl _,H,I,rfl,?_⟩
  rw [show its.toArray.any (Yi x)=its.any (Yi x) by simp,Md r fs]
  exact q
theorem Tp:Dv X (compareOp .NotIn) (rIn X.K true):=by
 intro pins s σ H x y v u Q I rx ry h
 obtain ⟨p,xs,rfl,hq,fx,fs,q⟩:=h
 cases ry
 rcases hq with hq|hq
 ·obtain ⟨its,r,pl,hz⟩:=I.list hq
  refine SeqAt.notIn_listAt (Yi x) pl.isList (fun w hw=>Gs rx fx r fs w (by simpa using hw)) ⟨.bl _,H,I,rfl,?_⟩
  rw [show its.toArray.any (Yi x)=its.any (Yi x) by simp,Md r fs]
  exact q
 ·obtain ⟨its,r,pl,hz⟩:=I.tuple hq
  refine SeqAt.notIn_tupleAt (Yi x) pl (fun w hw=>Gs rx fx r fs w (by simpa using hw)) ⟨.bl _,H,I,rfl,?_⟩
  rw [show its.toArray.any (Yi x)=its.any (Yi x) by simp,Md r fs]
  exact q
theorem Ud:Cy X (.builtin "len") (fun xs H Q=>∃p ys,xs=[.ref p]∧(A1 X.K H p ys∨D7 X.K H p ys)∧Q (.int ys.length) H):=by
 intro pins s σ H xs us Q I r h
 obtain ⟨p,ys,rfl,hq,q⟩:=h
 obtain ⟨u,rfl,rx⟩:=Fw r
 cases rx
 have hn:=Mx
 rcases hq with hq|hq
 ·obtain ⟨its,r',pl,hz⟩:=I.list hq
  have hlen:=r'.length
  exact Calls.call_len_list pl.isList (by simp only [AR]<;>omega) ⟨.int ys.length,H,I.tok _,⟨s.toks+1,by rw [AR,hlen]⟩,q⟩
 ·obtain ⟨its,r',pl,hz⟩:=I.tuple hq
  have hlen:=r'.length
  exact len_tuple pl (by simp only [AR]<;>omega) ⟨.int ys.length,H,I.tok _,⟨s.toks+1,by rw [AR,hlen]⟩,q⟩
theorem Ut:Cy X (.builtin "len") (fun xs H Q=>∃z,xs=[.str z]∧z.length≤sizeLine∧Q (.int z.length) H):=by
 intro pins s σ H xs us Q I r h
 obtain ⟨z,rfl,hz,q⟩:=h
 obtain ⟨u,rfl,t,rfl⟩:=Fw r
 have hn:=Mx
 exact len_str (by omega) ⟨.int z.length,H,I.tok _,⟨_,rfl⟩,q⟩
theorem L3:Cy X (.type "list") (fun xs H Q=>∃p ys,xs=[.ref p]∧(A1 X.K H p ys∨D7 X.K H p ys)∧∀l,H l=none→Q (.ref l) (upd H l (.lst ys))):=by
 intro pins s σ H xs us Q I r h
 obtain ⟨p,ys,rfl,hq,q⟩:=h
 obtain ⟨u,rfl,rx⟩:=Fw r
 cases rx
 have fin:∀(its:HY),A6 ys its→ys.length≤sizeLine→∀(h':Heap) (c':Nat),(∀b o',s.heap.get? b=some o'→h'.get? b=some o') →
   h'.get? s.heap.objs.size=some { cls:=.type "list",dict:=none,data:=.seq its.toArray c',slots:=#[] }→EP X pins σ Q (.ref s.heap.objs.size) { s with heap:=h' }:=fun its r' hz h' c' kp e=>
  ⟨.ref s.heap.objs.size,_,I.laid (t':=s.toks) kp (AF _) (show Bf X.prog X.w _ h' _ (.lst ys) from ⟨hz,its,c',r',e⟩),rfl,q _ (I.hok.fresh (AF _))⟩
 rcases hq with hq|hq
 ·obtain ⟨its,r',pl,hz⟩:=I.list hq
  have hlen:=r'.length
  obtain ⟨o,ho,hc,n,hd⟩:=pl.isList
  exact call_list_seq p (.inl rfl) ho hc hd (fun h' c' kp e=>fin its r' hz h' c' kp e) (by simp only [AR]<;>omega)
 ·obtain ⟨its,r',pl,hz⟩:=I.tuple hq
  have hlen:=r'.length
  obtain ⟨o,ho,hc,n,hd⟩:=pl
  exact call_list_seq p (.inr rfl) ho hc hd (fun h' c' kp e=>fin its r' hz h' c' kp e) (by simp only [AR]<;>omega)
def tyV (K:KKf)(T:String)(x:V)(H:Hp):Prop:=match x with
 |.str _=>T="str"
 |.int _=>T="int"
 | .ref p=>(T="list"∧∃xs,A1 K H p xs)∨(T="tuple"∧∃o,K.lookup p=some o∧o.cls=.type "tuple"∧o.dict=none) ∨
   (T="dict"∧((∃kvs,H p=some (.dK kvs))∨∃kvs,H p=some (.dT kvs)))∨(T="set"∧∃S n,H p=some (.set S n))
 |_=>False
theorem Ane {pins:List (HR×Obj)}{σ:St}{H:Hp}{s:HQ}{T:String}{x:V}{v:HP}(I:Ap X pins σ H s)(r:RelV x v)(ty:tyV X.K T x H) :
  s.TypeIs v T∧∀a,v=.ref a→∃ob,s.heap.get? a=some ob∧ob.dict=none:=by
 cases x with
 |str z=>
  obtain ⟨t,rfl⟩:=r
  cases (show T="str" from ty)
  exact ⟨GK s z t,fun _ e=>nomatch e⟩
 |int i=>
  obtain ⟨t,rfl⟩:=r
  cases (show T="int" from ty)
  exact ⟨typeIs_int s i t,fun _ e=>nomatch e⟩
 | ref p=>
  cases r
  rcases ty with ⟨rfl,xs,hq⟩|⟨rfl,o,hk,hc,hd⟩|⟨rfl,hk⟩|⟨rfl,S,n,hk⟩
  ·obtain ⟨its,_,pl,_⟩:=I.list hq
   refine ⟨pl.isList.typeIs,fun a e=>?_⟩
   cases e
   obtain ⟨o,n,e,c,hd,_⟩:=pl
   exact ⟨o,e,hd⟩
  ·refine ⟨⟨o,I.kIn p o hk,hc⟩,fun a e=>?_⟩
   cases e
   exact ⟨o,I.kIn _ o hk,hd⟩
  ·have z:∃o,s.heap.get? p=some o∧o.ExactDict:=by
    rcases hk with ⟨kvs,hk⟩|⟨kvs,hk⟩
    ·obtain ⟨_,_,_,_,o,_,_,e,ex,_⟩:=I.hok p _ hk
     exact ⟨o,e,ex⟩
    ·obtain ⟨_,_,_,_,o,_,_,e,ex,_⟩:=I.hok p _ hk
     exact ⟨o,e,ex⟩
   obtain ⟨o,e,ex⟩:=z
   refine ⟨⟨o,e,ex.1⟩,fun a e2=>?_⟩
   cases e2
   exact ⟨o,e,ex.2.1⟩
  ·obtain ⟨o,_,_,_,e,ex,_⟩:=I.hok p _ hk
   refine ⟨⟨o,e,ex.1⟩,fun a e2=>?_⟩
   cases e2
   exact ⟨o,e,ex.2.1⟩
 |_=>exact False.elim ty
def tBM (K:KKf)(T:String)(r:V→ID→Hp→VK→Prop)(to:TE)(t:TA):TE:=fun σ H Q=>to σ H fun x H1=>tyV K T x H1∧t σ H1 fun xs H2=>r x xs H2 Q
variable {o e:Expr}{es:HZ}{to:TE}{t:TA}{name:Str}{apos cpos:Pos}{T id:String}{r:V→ID→Hp→VK→Prop}
theorem Lu (pa:PlainAttrs T)(slot:Slot T name id)(hty:typeOf (.builtin id)=pure (.type "method_descriptor"))(hm:MtR X id r)(ho:PE X o to)(ha:PA X (e::es) t)
  (hbase:attributeBase o name X.env (eval o X.env)=eval o X.env:=by rfl)
  (hfew:((backTo cpos (starEach (e::es) X.env)).all (fun x=>!x.1)&&(backToKw cpos (keywordEach [] X.env)).all (fun x=>x.1.isSome)
   && decide ((e::es).length+([]:List Keyword).length+(if ([]:List Keyword).isEmpty then 0 else 1)<30))=true:=by rfl)
  (hline:(apos.endLine==cpos.line)=true:=by rfl) (hs:starEach (e::es) X.env=(false,eval e X.env)::starEach es X.env:=by rfl) (hplain:(backTo cpos (starEach es X.env)).any (·.1)=false:=by rfl) :
  PE X (.Call (.Attribute o name apos) (e::es) [] cpos) (tBM X.K T r to t):=by
 intro pins s σ H Q I h
 refine wpAny_Call_method_late hbase hfew hline rfl (Bi (ho pins s σ H _ I h) fun v s1 ⟨x,H1,I1,r1,ty,q1⟩=>?_)
 obtain ⟨h1,h2⟩:=Ane I1 r1 ty
 refine ⟨T,id,pa,slot,hty,h1,h2,?_⟩
 have hA:=ha cpos pins s1 σ H1 _ I1 q1
 rw [hs] at hA ⊢
 refine FL (by show (false||(backTo cpos (starEach es X.env)).any (·.1))=false;rw [hplain]<;>rfl) (FT ?_)
 exact Bi hA fun us s2 ⟨vs,H2,I2,r2,q2⟩=>hm pins s2 σ H2 x vs v us Q I2 r1 r2 q2
/- xs.append(e),list.index on a module's tuple .. are MtR facts of 06m -/
end
end L2
namespace L2
open PySem PySem.Spec PyProof.Rows
def MtM (X:Cx)(id:String)(r:V→ID→Hp→VK→Prop):Prop:=
 ∀(pins:List (HR×Obj)) (s:HQ) (σ:St) (H:Hp) (x:V) (xs:ID) (v:HP) (us:HY) (Q:VK),Ap X pins σ H s→RelV x v→A6 xs us→r x xs H Q →
  wpAny (model X.prog X.w) X.A (call (.builtin id) (v::us)) (EP X pins σ Q) X.xe s
theorem A6.one:∀{x:V} {us:HY},A6 [x] us→∃u,us=[u]∧RelV x u
 |_,_,.cons r .nil=>⟨_,rfl,r⟩
section
variable {X:Cx}{pins:List (HR×Obj)}{σ:St}{H:Hp}{s:HQ}{l b:HR}{xs ys zs:ID}
theorem Ap.lset {its its':HY}{n:Nat}{f:Array HP→Array HP}{t':Nat}(I:Ap X pins σ H s)(hH:H l=some (.lst xs))
  (e:s.heap.get? l=some { cls:=.type "list",data:=.seq its.toArray n }) (hf:f its.toArray=its'.toArray) (hv:A6 ys its') (hz:ys.length≤sizeLine) :
  Ap X pins σ (upd H l (.lst ys)) { s with heap:=s.heap.update l (Obj.mapSeq f),toks:=t' }:=by
 have q:=PySem.IsL.update e f
 rw [hf] at q
 refine I.write (x:=l) (e:=l) (by rw [hH];exact trivial) (.inl rfl) (fun b' u hb hu=>(DZ s.heap (Obj.mapSeq f) (CN hb)).trans hu) ⟨_,q⟩ ?_
 exact ⟨hz,its',_,hv,q⟩
theorem Ap.lnew {its:HY}{t':Nat}(I:Ap X pins σ H s)(hv:A6 ys its)(hz:ys.length≤sizeLine) :
  Ap X pins σ (upd H s.heap.objs.size (.lst ys)) { s with heap:=s.heap.push { cls:=.type "list",data:=.seq its.toArray },toks:=t' } :=
 I.laid (fun _ _ q=>AB _ q) (AF _) ⟨hz,its,0,hv,AG _ rfl⟩
theorem Ap.fresh (I:Ap X pins σ H s):H s.heap.objs.size=none:=I.hok.fresh (AF _)
theorem Ap.lstM (I:Ap X pins σ H s)(hH:H l=some (.lst xs)):xs.length≤sizeLine∧∃(its:HY) (n:Nat),A6 xs its∧xs.length=its.length∧s.heap.get? l=some { cls:=.type "list",data:=.seq its.toArray n }:=by
 obtain ⟨z,its,n,r,e⟩:=I.hok l _ hH
 exact ⟨z,its,n,r,r.length,e⟩
theorem Ag5 {n:Nat}(h:n≤sizeLine):Builtin.List.listTooLong n=false:=by
 unfold Builtin.List.listTooLong
 exact BC (by omega)
end
section
variable {X:Cx}
def Ahz:V→ID→Hp→VK→Prop:=fun x vs H Q=>∃l xs y,x=.ref l∧vs=[y]∧H l=some (.lst xs)∧xs.length<sizeLine∧Q .non (upd H l (.lst (xs++[y])))
theorem Jw:MtM X "list.append" Ahz:=by
 intro pins s σ H x vs v us Q I rx rv h
 obtain ⟨l,xs,y,rfl,rfl,hH,hz,q⟩:=h
 cases rx
 obtain ⟨u,rfl,ru⟩:=rv.one
 obtain ⟨z,its,n,r,hl,e⟩:=I.lstM hH
 refine call_meets F.slot_list_append ⟨_,e,rfl⟩ F.entry_list_append (F.args_list_append_2 _ _) (PySem.list_append l its.toArray n u (by rw [AR];omega)) ⟨e,?_⟩
 refine ⟨.non,_,I.lset (its':=its++[u]) hH e (by simp) (r.append (.cons ru .nil)) ?_,rfl,q⟩
 rw [AM,DP]
 omega
def Ati:R2:=fun x y H Q=>∃l b xs zs,x=.ref l∧y=.ref b∧H l=some (.lst xs)∧H b=some (.lst zs)∧xs.length+zs.length≤sizeLine∧∀p,H p=none→Q (.ref p) (upd H p (.lst (xs++zs)))
theorem Ang:Dv X (binaryOp .Add) Ati:=by
 intro pins s σ H x y v u Q I rx ry h
 obtain ⟨l,b,xs,zs,rfl,rfl,hH,hB,hz,q⟩:=h
 cases rx
 cases ry
 obtain ⟨z,its,n,r,hl,e⟩:=I.lstM hH
 obtain ⟨z2,its2,n2,r2,hl2,e2⟩:=I.lstM hB
 refine PySem.P.add_list e e2 ?_ (by rw [AR,AR];omega)
 have ea:its.toArray++its2.toArray=(its++its2).toArray:=by simp
 rw [ea]
 exact ⟨.ref _,_,I.lnew (t':=s.toks) (r.append r2) (by rw [AM];omega),rfl,q _ I.fresh⟩
end
end L2
namespace Att
open PySem PySem.W PySem.Calls PyProof.Rows
theorem Oi {P:Params}{h:Heap}:∀(ns:HX) (vs:HY),WellAll P h vs (ns.map WData.int)→IntsAre vs ns:=by
 intro ns
 induction ns with
 |nil=>
  intro vs w
  rw [List.map_nil] at w
  cases w
  exact .nil
 | cons n ns ih=>
  intro vs w
  rw [BE] at w
  cases w with
  |cons a b=>
   cases a
   exact .cons _ _ (ih _ b)
theorem script_of {l:OpenLaw}{n:Nat}(hn:l.most=some n){P:Params}{h:Heap}{args:List WData}{vals:HY}
  (hpre:l.row.toRowW.claim.pre args=true) (hwl:WellAll P h vals args) :
  ∃a vs ns,vals=[Value.ref a]∧args=[WData.list (ns.map WData.int)]∧h.get? a=some { cls:=.type "list",data:=.seq vs.toArray }∧IntsAre vs ns∧ns.length≤n:=by
 have hsh:WShape.hasAll [] args [.list .int]=true:=(pre_splitW hpre).1
 have hc:l.pre.holds [] { args:=args }=true:=(pre_splitW hpre).2
 obtain ⟨d,r,rfl,h1,h2⟩:=hasAllW_cons hsh
 obtain rfl:=hasAllW_nil h2
 obtain ⟨xs,rfl,h3⟩:=hasW_list h1
 obtain ⟨ns,rfl⟩:=items_int h3
 have hlen:ns.length≤n:=by
  unfold OpenLaw.pre at hc
  have h4:(WTm.not (.lt (.lit (.int (n:Int))) (.len (.arg 0)))).holds [] { args:=[.list (ns.map .int)] }=true:=by
   have h4:=(holds_andW hc).1
   rw [hn] at h4
   exact h4
  have h5:=condW_of h4 (w_not (w_lt w_lit (w_len_list (w_arg rfl))))
  rw [AE] at h5
  refine DV fun q=>?_
  have q':(n:Int)<((ns.length:Nat):Int):=by omega
  first
   |(rw [AQ q'] at h5;exact absurd h5 (by decide))
   |(simp at h5;omega)
 cases hwl with
 |cons w1 w2=>
  cases w2
  cases w1 with
  |list ho hall=>exact ⟨_,_,ns,rfl,rfl,ho,Oi ns _ hall,hlen⟩
theorem post_true (l:OpenLaw)(args:List WData):l.row.toRowW.claim.post args (.bool true) args=true:=
 postW_of (r:=l.row.toRowW) (X:=(true==true))
  (show WShape.has [] (.bool true) .bool=true by first|rfl|decide|simp [WShape.has,WShape.arms,WShape.armsAll])
  (show (WTm.eq .res (.lit (.bool true))).value [] { args:=args,res:=some (.bool true),after:=args }=some (.bool (true==true)) from w_eq_bool (w_res rfl) w_lit) rfl
section
variable {prog:HU}{w:HV}{A:HS}{E:HP→HQ→Prop}{s:HQ}{K:Frag}
def Asr (h:Heap)(L d:HR):List (HR×Obj):=(List.range h.objs.size).filterMap fun a=>if a=L∨a=d then none else (h.get? a).map fun o=>(a,o)
end
end Att
namespace L2
open PySem PySem.Spec PyProof.Rows
theorem R5:∀{vs:HY} {ns:HX},IntsAre vs ns→A6 (ns.map V.int) vs
 |_,_,.nil=>.nil
 |_,_,.cons n t h=>.cons ⟨t,rfl⟩ (R5 h)
end L2
namespace L2
open PySem PySem.Spec PyProof.Rows
end L2
/- THE LAST THEOREM (shape;LID,My.* are yours):
   My.Adr: a structure of the addresses that your layer names (classes,functions);My.Txt K t: a structure (Prop) of the equations over K;
   My.txt_mk:{K} {implicit addresses ..} (e1:nsIn K mainGlobals "law"=some (some (.ref f))) (e2:K.lookup f=some ⟨oc,od,.func (fnOf "law" "law" params body scope dV kV doc pm an cdv ct),sl⟩) (e3:codeIn K cdv "law"=true) ..:∃t,My.Txt K t
set_option maxRecDepth 100000 in
set_option maxHeartbeats 0 in
(the tactic k_is has no namespace: write k_is) -/
namespace L2
open PySem PySem.Spec PyProof.Rows
def Dw (s:Stmt)(j:Nat):Stmt:=match s with
 |.ClassDef _ _ _ body _ _ _ _ _ _ _=>body.getD j (.Pass ⟨0,0,0,0⟩)
 |_=>.Pass ⟨0,0,0,0⟩
def Df (s:Stmt):Arguments:=match s with
 |.FunctionDef _ a _ _ _ _ _ _ _ _=>a
 |_=>{ posonlyargs:=[],args:=[],vararg:=none,kwonlyargs:=[],kw_defaults:=[],kwarg:=none,defaults:=[] }
def B9 (s:Stmt):List Stmt:=match s with
 |.FunctionDef _ _ b _ _ _ _ _ _ _=>b
 |_=>[]
def Ac (s:Stmt):Scope:=match s with
 |.FunctionDef _ _ _ _ _ _ sc _ _ _=>sc
 |_=>{ kind:=.function,names:=[],isGenerator:=false,isCoroutine:=false }
abbrev E0:XK:=fun _ _ _=>False
structure Fun (K:KKf)(x qual:Str)(st:Stmt)(f:HR)(fd:FuncData):Prop where
 ex:∃(oc:HP) (od:IB) (kV doc pm:HP) (an:IB) (cdv ct:HP) (osl:Array (IA)),
  fd=PySem.W.fnOf x qual (Df st) (B9 st) (Ac st) .none kV doc pm an cdv ct∧K.lookup f=some ⟨oc,od,.func fd,osl⟩∧PySem.W.codeIn K cdv qual=true
 kp:PySem.W.keepIn K (.ref f)=true
section
variable {P:HU}{w:HV}{K:KKf}{mg:Str→IA}{base:Heap}
theorem Fun.binds {x qual:Str}{st:Stmt}{f:HR}{fd:FuncData}{ps:HW}(F:Fun K x qual st f fd)
  (h:∀(kV doc pm:HP) (an:IB) (cdv ct:HP) (us:HY),us.length=ps.length→bindArgs (PySem.W.fnOf x qual (Df st) (B9 st) (Ac st) .none kV doc pm an cdv ct) ⟨us,[]⟩=pure (ps.zip us)):Ea K fd ps []:=by
 obtain ⟨oc,od,kV,doc,pm,an,cdv,ct,osl,rfl,lk,hcd⟩:=F.ex
 exact .all (h kV doc pm an cdv ct)
theorem Mn {x qual:Str}{st:Stmt}{f:HR}{oc:HP}{od an:IB}{osl:Array (IA)}{kV doc pm cdv ct:HP}(l:K.lookup f=some ⟨oc,od,.func (PySem.W.fnOf x qual (Df st) (B9 st) (Ac st) .none kV doc pm an cdv ct),osl⟩)
  (c:PySem.W.codeIn K cdv qual=true) (k:PySem.W.keepIn K (.ref f)=true):Fun K x qual st f (PySem.W.fnOf x qual (Df st) (B9 st) (Ac st) .none kV doc pm an cdv ct):=⟨⟨oc,od,kV,doc,pm,an,cdv,ct,osl,rfl,l,c⟩,k⟩
end
def Ag (H H':Hp):Prop:=∀b o,H b=some o→H' b=some o
theorem Ag.refl (H:Hp):Ag H H:=fun _ _ h=>h
theorem Ag.trans {H H1 H2:Hp}(a:Ag H H1)(b:Ag H1 H2):Ag H H2:=fun c o h=>b c o (a c o h)
theorem Ag.seq {K:KKf}{H H':Hp}{a:HR}{xs:ID}(e:Ag H H')(h:A1 K H a xs):A1 K H' a xs:=by
 rcases h with (h|⟨o,h⟩)|h
 ·exact .inl (.inl (e _ _ h))
 ·exact .inl (.inr ⟨o,e _ _ h⟩)
 ·exact .inr h
end L2
section
namespace L2
open PySem PySem.Spec PyProof.Rows
section
variable {κ:Type}[DecidableEq κ]
def Cf (kvs:List (κ×V))(k:κ):Option V:=(kvs.find? fun kv=>decide (kv.1=k)).map (·.2)
def Dj (kvs:List (κ×V))(k:κ)(v:V):List (κ×V):=
 if (kvs.any fun kv=>decide (kv.1=k))=true then kvs.map (fun kv=>if kv.1=k then (kv.1,v) else kv) else kvs++[(k,v)]
def Gg (kvs:List (κ×V))(k:κ):List (κ×V):=kvs.filter fun kv=>decide (kv.1≠k)
theorem Cn {p:κ×V}{r:List (κ×V)}{k:κ}(e:p.1=k):Cf (p::r) k=some p.2:=by simp [Cf,FK,e]
theorem Ce {p:κ×V}{r:List (κ×V)}{k:κ}(e:¬p.1=k):Cf (p::r) k=Cf r k:=by simp [Cf,FK,e]
theorem Je (k:κ):∀kvs:List (κ×V),(kvs.any fun kv=>decide (kv.1=k))=(Cf kvs k).isSome
 |[]=>rfl
 |p::r=>by
  rw [FW]
  by_cases e:p.1=k
  ·simp only [Cn e,AQ e,Bool.true_or,Option.isSome_some]
  ·rw [Ce e,BC e,Bool.false_or];exact Je k r
theorem Xq (k j:κ)(y:V):∀kvs:List (κ×V),Cf (kvs.map fun kv=>if kv.1=k then (kv.1,y) else kv) j=(Cf kvs j).map fun x=>if j=k then y else x
 |[]=>rfl
 | p::r=>by
  have ih:=Xq k j y r
  rw [BE]
  by_cases h:p.1=k
  ·rw [AN h]
   by_cases e:p.1=j
   ·rw [Cn (p:=(p.1,y)) e,Cn e,HE,AN (e.symm.trans h)]
   ·rw [Ce (p:=(p.1,y)) e,Ce e,ih]
  ·rw [AI h]
   by_cases e:p.1=j
   ·rw [Cn (p:=p) e,Cn e,HE,AI (fun z=>h (e.trans z))]
   ·rw [Ce (p:=p) e,Ce e,ih]
theorem R7 (k j:κ)(y:V):∀kvs:List (κ×V),Cf kvs k=none→Cf (kvs++[(k,y)]) j=if j=k then some y else Cf kvs j
 |[],_=>by
  by_cases e:k=j
  ·rw [AN e.symm];exact Cn (p:=(k,y)) e
  ·rw [AI (fun z=>e z.symm)];exact Ce (p:=(k,y)) e
 |p::r,hn=>by
  rw [List.cons_append]
  have hk:¬p.1=k:=fun z=>by rw [Cn z] at hn;cases hn
  rw [Ce hk] at hn
  have ih:=R7 k j y r hn
  by_cases e:p.1=j
  ·rw [Cn e,Cn e,AI (fun z=>hk (e.trans z))]
  ·rw [Ce e,Ce e,ih]
theorem Fk (kvs:List (κ×V))(k j:κ)(y:V):Cf (Dj kvs k y) j=if j=k then some y else Cf kvs j:=by
 unfold Dj
 by_cases a:(kvs.any fun kv=>decide (kv.1=k))=true
 ·rw [AN a,Xq]
  rw [Je] at a
  by_cases e:j=k
  ·obtain ⟨x,hx⟩:=Option.isSome_iff_exists.mp a
   rw [AN e,e,hx,HE,AN rfl]
  ·rw [AI e]
   cases Cf kvs j with
   |none=>rfl
   |some x=>rw [HE,AI e]
 ·rw [AI a]
  refine R7 k j y kvs ?_
  rw [Je] at a
  cases q:Cf kvs k with
  |none=>rfl
  |some x=>rw [q] at a;exact (a rfl).elim
theorem Dn (kvs:List (κ×V))(k:κ)(v:V):(Dj kvs k v).length≤kvs.length+1:=by
 unfold Dj
 split
 ·rw [AE];omega
 ·rw [AM,AY,List.length_nil];omega
theorem Ago {kvs:List (κ×V)}{k:κ}(v:V)(h:Cf kvs k=none):Dj kvs k v=kvs++[(k,v)]:=by
 unfold Dj
 rw [Je,h]
 exact AI (by decide)
theorem Gk.isSome_eq {o:Option V}{u:IA}(r:Gk o u):o.isSome=u.isSome:=by
 cases o with
 |none=>cases u with
  |none=>rfl
  |some _=>exact (show False from r).elim
 |some _=>cases u with
  |none=>exact (show False from r).elim
  |some _=>rfl
theorem Gk.getD {o:Option V}{u:IA}{d:V}{d':HP}(r:Gk o u)(rd:RelV d d'):RelV (o.getD d) (u.getD d'):=by
 cases o with
 |none=>cases u with
  |none=>exact rd
  |some _=>exact (show False from r).elim
 |some _=>cases u with
  |none=>exact (show False from r).elim
  |some _=>exact r
theorem KV.val {kvs:List (κ×V)}{vs:List (κ×HP)}(r:KV kvs vs)(k:κ):Gk (Cf kvs k) (valueAt vs k):=by
 unfold KV at r
 induction r with
 |nil=>exact ⟨⟩
 | @cons p q ps qs h t ih=>
  obtain ⟨h1,h2⟩:=h
  by_cases e:p.1=k
  ·have e':q.1=k:=h1.symm.trans e
   have b:valueAt (q::qs) k=some q.2:=by simp [valueAt,FK,e']
   rw [Cn e,b];exact h2
  ·have e':¬q.1=k:=fun z=>e (h1.trans z)
   have b:valueAt (q::qs) k=valueAt qs k:=by simp [valueAt,FK,e']
   rw [Ce e,b];exact ih
theorem KV.any {kvs:List (κ×V)}{vs:List (κ×HP)}(r:KV kvs vs)(k:κ):(kvs.any fun kv=>decide (kv.1=k))=vs.any fun kv=>decide (kv.1=k):=by
 unfold KV at r
 induction r with
 |nil=>rfl
 |cons h t ih=>rw [FW,FW,ih,h.1]
theorem KV.repl {kvs:List (κ×V)}{vs:List (κ×HP)}(r:KV kvs vs)(k:κ){y:V}{u:HP}(ry:RelV y u) :
  KV (kvs.map fun kv=>if kv.1=k then (kv.1,y) else kv) (vs.map fun kv=>if kv.1=k then (kv.1,u) else kv):=by
 unfold KV at r ⊢
 induction r with
 |nil=>exact .nil
 |@cons p q ps qs h t ih=>
  rw [BE,BE]
  refine .cons ?_ ih
  obtain ⟨h1,h2⟩:=h
  by_cases e:p.1=k
  ·rw [AN e,AN (h1.symm.trans e)];exact ⟨h1,ry⟩
  ·rw [AI e,AI (fun z=>e (h1.trans z))];exact ⟨h1,h2⟩
theorem KV.put {kvs:List (κ×V)}{vs:List (κ×HP)}(r:KV kvs vs)(k:κ){y:V}{u:HP}(ry:RelV y u):KV (Dj kvs k y) (stored vs k u):=by
 unfold Dj stored
 rw [r.any k]
 by_cases e:(vs.any fun kv=>decide (kv.1=k))=true
 ·rw [AN e,AN e];exact r.repl k ry
 ·rw [AI e,AI e];exact Paired.snoc r ⟨rfl,ry⟩
theorem KV.drop {kvs:List (κ×V)}{vs:List (κ×HP)}(r:KV kvs vs)(k:κ):KV (Gg kvs k) (without vs k):=by
 unfold KV at r ⊢
 unfold Gg without
 induction r with
 |nil=>exact .nil
 | @cons p q ps qs h t ih=>
  obtain ⟨h1,h2⟩:=h
  rw [List.filter_cons,List.filter_cons]
  by_cases e:p.1=k
  ·have a:¬decide (p.1≠k)=true:=by simp [e]
   have b:¬decide (q.1≠k)=true:=by simp [h1.symm.trans e]
   rw [AI a,AI b];exact ih
  ·have e':¬q.1=k:=fun z=>e (h1.trans z)
   have a:decide (p.1≠k)=true:=by simp [e]
   have b:decide (q.1≠k)=true:=by simp [e']
   rw [AN a,AN b];exact .cons ⟨h1,h2⟩ ih
theorem KV.keys {kvs:List (κ×V)}{vs:List (κ×HP)}(r:KV kvs vs):kvs.map (·.1)=vs.map (·.1):=by
 unfold KV at r
 induction r with
 |nil=>rfl
 |cons h t ih=>rw [BE,BE,ih,h.1]
theorem KV.length {kvs:List (κ×V)}{vs:List (κ×HP)}(r:KV kvs vs):kvs.length=vs.length:=Paired.length r
theorem Ahn (kvs:List (κ×V))(k:κ):(Gg kvs k).length≤kvs.length:=DA _ _
end
theorem Lb {P:HU}{w:HV}{k:B3}{u:HP}(r:RelV (kV k) u):(A8 P w).is k u=true:=by
 cases k with
 |inl i=>obtain ⟨t,e⟩:=(show ∃t,u=Value.int i t from r);subst e;exact V7 P w i t
 |inr x=>obtain ⟨t,e⟩:=(show ∃t,u=Value.str x t from r);subst e;exact Iz P w x t
theorem S3 {P:HU}{w:HV}:∀{ks:List B3} {us:HY},A6 (ks.map kV) us→ItemsAre (A8 P w) ks us
 |[],_,r=>by rw [List.map_nil] at r;cases r;exact .nil
 |k::ks,_,r=>by
  rw [BE] at r
  cases r with
  |cons h t=>exact .cons (Lb h) (S3 t)
abbrev KT (H:Hp):List (List B3×V)→List (List B3×HR×HP)→Prop:=Paired fun p q=>p.1=q.1∧H q.2.1=some (.tup (p.1.map kV))∧RelV p.2 q.2.2
theorem KT.val {H:Hp}{kvs:List (List B3×V)}{xs:List (List B3×HR×HP)}(r:KT H kvs xs)(k:List B3):Gk (Cf kvs k) ((atKey xs k).map (·.2)):=by
 induction r with
 |nil=>exact ⟨⟩
 | @cons p q ps qs h t ih=>
  obtain ⟨h1,_,h2⟩:=h
  by_cases e:p.1=k
  ·have e':q.1=k:=h1.symm.trans e
   have b:atKey (q::qs) k=some q.2:=by simp [atKey,FK,e']
   rw [Cn e,b];exact h2
  ·have e':¬q.1=k:=fun z=>e (h1.trans z)
   have b:atKey (q::qs) k=atKey qs k:=by simp [atKey,FK,e']
   rw [Ce e,b];exact ih
theorem KT.repl {H:Hp}{kvs:List (List B3×V)}{xs:List (List B3×HR×HP)}(r:KT H kvs xs)(k:List B3){y:V}{u:HP}(ry:RelV y u) :
  KT H (kvs.map fun kv=>if kv.1=k then (kv.1,y) else kv) (xs.map (putAt k u)):=by
 induction r with
 |nil=>exact .nil
 |@cons p q ps qs h t ih=>
  rw [BE,BE]
  refine .cons ?_ ih
  obtain ⟨h1,h2,h3⟩:=h
  unfold putAt
  by_cases e:p.1=k
  ·rw [AN e,AN (h1.symm.trans e)];exact ⟨h1,h2,ry⟩
  ·rw [AI e,AI (fun z=>e (h1.trans z))];exact ⟨h1,h2,h3⟩
theorem KT.put {H:Hp}{kvs:List (List B3×V)}{xs:List (List B3×HR×HP)}(r:KT H kvs xs)(k:List B3){b:HR}{y:V}{u:HP}(hb:H b=some (.tup (k.map kV)))(ry:RelV y u) :
  KT H (Dj kvs k y) (storedH xs k b u):=by
 have e:(kvs.any fun kv=>decide (kv.1=k))=(atKey xs k).isSome:=by
  rw [Je,(r.val k).isSome_eq,Option.isSome_map]
 unfold Dj storedH
 rw [e]
 by_cases q:(atKey xs k).isSome=true
 ·rw [AN q,AN q];exact r.repl k ry
 ·rw [AI q,AI q];exact Paired.snoc r ⟨rfl,hb,ry⟩
theorem KT.keeps {H H':Hp}{kvs:List (List B3×V)}{xs:List (List B3×HR×HP)}(r:KT H kvs xs)(ht:∀b ys,H b=some (.tup ys)→H' b=some (.tup ys)):KT H' kvs xs:=
 Paired.mapP r fun _ _ z=>⟨z.1,ht _ _ z.2.1,z.2.2⟩
section
variable {P:HU}{w:HV}{H:Hp}{h:Heap}{a:HR}
theorem Akn {u:HO}(ok:Jz P w H h)(e:Rd H a u):Bf P w H h a u:=e.ok ok
theorem Qa {kvs:List (B3×V)}(ok:Jz P w H h)(e:Rd H a (.dK kvs)):kvs.length≤sizeLine∧(a==sysModules)=false∧∃vs,KV kvs vs∧h.DictOf (A8 P w) a vs:=
 show Bf P w H h a (.dK kvs) from Akn ok e
theorem Acm {kvs:List (B3×V)}(ok:Jz P w H h)(e:H a=some (.dK kvs)):kvs.length≤sizeLine∧(a==sysModules)=false∧∃vs,KV kvs vs∧h.DictOf (A8 P w) a vs:=Qa ok (.inl e)
theorem Qn {ks:List B3}(ok:Jz P w H h)(e:H a=some (.tup (ks.map kV))):(tupleKind (A8 P w)).is h ks a:=by
 obtain ⟨_,its,r,o,h1,h2,n,h3⟩:=(show Bf P w H h a (.tup (ks.map kV)) from ok a _ e)
 exact ⟨o,its.toArray,n,h1,h2,h3,by simpa using S3 r⟩
theorem Se {kvs:List (List B3×V)}(ok:Jz P w H h)(e:Rd H a (.dT kvs)):kvs.length≤sizeLine∧(a==sysModules)=false ∧
  ∃xs,KT H kvs xs∧h.DictOfH (tupleKind (A8 P w)) a xs:=by
 obtain ⟨z,y,xs,r,o,es,ep,h1,h2,h3,h4,h5⟩:=(show Bf P w H h a (.dT kvs) from Akn ok e)
 refine ⟨z,y,xs,r,o,es,ep,h1,h2,h3,h4,fun x hx=>?_,h5⟩
 have all:∀{l:List (List B3×V)} {m:List (List B3×HR×HP)},KT H l m→∀x∈m,(tupleKind (A8 P w)).is h x.1 x.2.1:=by
  intro l m q
  induction q with
  |nil=>intro x hx;exact nomatch hx
  | @cons p q ps qs hq t ih=>
   intro x hx
   rcases AU.mp hx with e|hx
   ·subst e
    exact Qn ok (by rw [←hq.1];exact hq.2.1)
   ·exact ih x hx
 exact all r x hx
theorem Aqr {kvs:List (List B3×V)}(ok:Jz P w H h)(e:H a=some (.dT kvs)):kvs.length≤sizeLine∧(a==sysModules)=false ∧
  ∃xs,KT H kvs xs∧h.DictOfH (tupleKind (A8 P w)) a xs:=Se ok (.inl e)
end
def Hd (H:Hp)(a:HR)(y:V)(r:Option V):Prop:=
 (∃kvs k,Rd H a (.dK kvs)∧y=kV k∧r=Cf kvs k)∨∃kvs k b,Rd H a (.dT kvs)∧y=.ref b∧H b=some (.tup (k.map kV))∧r=Cf kvs k
def W8 (H:Hp)(a:HR)(y v:V)(H':Hp):Prop:=
 (∃kvs k,H a=some (.dK kvs)∧y=kV k∧kvs.length<sizeLine∧H'=upd H a (.dK (Dj kvs k v))) ∨
 ∃kvs k b,H a=some (.dT kvs)∧y=.ref b∧H b=some (.tup (k.map kV))∧kvs.length<sizeLine∧H'=upd H a (.dT (Dj kvs k v))
theorem Hd.k {H:Hp}{a:HR}{kvs:List (B3×V)}{k:B3}(e:H a=some (.dK kvs)):Hd H a (kV k) (Cf kvs k):=.inl ⟨kvs,k,.inl e,rfl,rfl⟩
theorem W8.k {H:Hp}{a:HR}{kvs:List (B3×V)}{k:B3}{v:V}(e:H a=some (.dK kvs))(hl:kvs.length<sizeLine):W8 H a (kV k) v (upd H a (.dK (Dj kvs k v))):=.inl ⟨kvs,k,e,rfl,hl,rfl⟩
section
variable {X:Cx}{pins:List (HR×Obj)}{σ:St}{H:Hp}{s:HQ}{a:HR}{y v:V}{u r:HP}{o:Option V}{A:HS}{E:HP→HQ→Prop}
theorem Ap.big (I:Ap X pins σ H s):sysModules<s.heap.objs.size:=by
 have h:mainGlobals<s.heap.objs.size:=(I.mod.glob.keeps I.bk).lt
 exact Nat.lt_trans (by decide) h
theorem Acy {Q:HP→HQ→Prop}(hu:A.units+1<cLine)(I:Ap X pins σ H s)(g:Hd H a y (some v))(ry:RelV y u)(h:∀w' s',Ap X pins σ H s'→RelV v w'→Q w' s') :
  wpAny (model X.prog X.w) A (getItem (.ref a) u) Q E s:=by
 rcases g with ⟨kvs,k,e,ey,l⟩|⟨kvs,k,b,e,ey,eb,l⟩
 ·subst ey
  obtain ⟨z,hd,vs,rel,dd⟩:=Qa I.hok e
  obtain ⟨w',hw,rw'⟩:=Gk.some_of (v:=v) (o:=valueAt vs k) (by rw [l];exact rel.val k)
  exact wpAny_getItem_of (Lb ry) dd.mapOf hw (h w' _ (I.tok _) rw')
 ·subst ey
  cases (show u=Value.ref b from ry)
  obtain ⟨z,hd,xs,rel,dd⟩:=Se I.hok e
  obtain ⟨w',hw,rw'⟩:=Gk.some_of (v:=v) (o:=(atKey xs k).map (·.2)) (by rw [l];exact rel.val k)
  obtain ⟨p,hp,hp2⟩:=EA.mp hw
  refine wpAny_getItem_heap (GI hu) (Qn I.hok eb) dd hp ?_
  rw [hp2]
  exact h w' _ (I.tok _) rw'
theorem Ail {Q:HP→HQ→Prop}(hu:A.units+1<cLine)(I:Ap X pins σ H s)(g:Hd H a y o)(ry:RelV y u)(h:∀s',Ap X pins σ H s'→Q (.bool (!o.isSome)) s') :
  wpAny (model X.prog X.w) A (compareOp .NotIn u (.ref a)) Q E s:=by
 rcases g with ⟨kvs,k,e,ey,l⟩|⟨kvs,k,b,e,ey,eb,l⟩
 ·subst ey
  obtain ⟨z,hd,vs,rel,dd⟩:=Qa I.hok e
  refine wpAny_notIn_of (Lb ry) hd dd.mapOf ?_
  rw [←(rel.val k).isSome_eq,←l]
  exact h _ (I.tok _)
 ·subst ey
  cases (show u=Value.ref b from ry)
  obtain ⟨z,hd,xs,rel,dd⟩:=Se I.hok e
  refine wpAny_notIn_heap (GI hu) (Qn I.hok eb) hd dd ?_
  have q:=(rel.val k).isSome_eq
  rw [Option.isSome_map] at q
  rw [←q,←l]
  exact h _ (I.tok _)
theorem Vw {h':Heap}{t':Nat}{ob:HO}(I:Ap X pins σ H s)(mu:Mut (H a))(hs:Heap.SameBut a s.heap h')(he:∃q,h'.get? a=some q)(new:Bf X.prog X.w (upd H a ob) h' a ob) :
  Ap X pins σ (upd H a ob) { s with heap:=h',toks:=t' } :=
 I.write (x:=a) (e:=a) mu (.inl rfl) (fun b q hb z=>(hs.2 b hb).trans z) he new
theorem Afq {P:HU}{w:HV}{H':Hp}{h':Heap}{kvs:List (B3×V)}{vs:List (B3×HP)}(z:kvs.length≤sizeLine)(hd:(a==sysModules)=false)(rel:KV kvs vs)(dd:h'.DictOf (A8 P w) a vs) :
  Bf P w H' h' a (.dK kvs):=⟨z,hd,vs,rel,dd⟩
theorem Ac4 {H':Hp}{Q:Unit→HQ→Prop}(hu:A.units+1<cLine)(I:Ap X pins σ H s)(g:W8 H a y v H')(ry:RelV y u)(rv:RelV v r)(h:∀s',Ap X pins σ H' s'→Q () s') :
  wpAny (model X.prog X.w) A (setItem (.ref a) u r) Q E s:=by
 rcases g with ⟨kvs,k,e,ey,l,eH⟩|⟨kvs,k,b,e,ey,eb,l,eH⟩
 ·subst ey eH
  obtain ⟨z,hd,vs,rel,dd⟩:=Acm I.hok e
  have hz:vs.length≤sizeLine:=by rw [←rel.length];exact z
  have hl:(Dj kvs k v).length≤sizeLine:=by have:=Dn kvs k v;omega
  refine wpAny_setItem_pairs (hsz:=hz) (Lb ry) dd fun h' dd' hs=>h _ ?_
  have he:∃q,h'.get? a=some q:=let ⟨q,_,_,hq,_⟩:=dd';⟨q,hq⟩
  exact Vw I (by rw [e];exact ⟨⟩) hs he (Afq hl hd (rel.put k rv) dd')
 ·subst ey eH
  cases (show u=Value.ref b from ry)
  obtain ⟨z,hd,xs,rel,dd⟩:=Aqr I.hok e
  have hz:xs.length≤sizeLine:=by rw [←Paired.length rel];exact z
  have hl:(Dj kvs k v).length≤sizeLine:=by have:=Dn kvs k v;omega
  refine wpAny_setItem_heap (hsz:=hz) (GI hu) (Qn I.hok eb) dd fun h' dd' hs=>h _ ?_
  obtain ⟨q,es,ep,hq,h2,h3,h4,_,h5⟩:=dd'
  refine Vw I (by rw [e];exact ⟨⟩) hs ⟨q,hq⟩ ⟨hl,hd,_,(rel.put k eb rv).keeps fun c ys ec=>?_,q,es,ep,hq,h2,h3,h4,h5⟩
  rw [Am (Aq3 ec e (fun z=>nomatch z))]
  exact ec
end
section
variable {X:Cx}{pins:List (HR×Obj)}{σ:St}{H:Hp}{s:HQ}{a:HR}{kvs:List (B3×V)}{k:B3}{u:HP}{A:HS}{E:HP→HQ→Prop}
theorem Ao8 {v:V}{more:HY}{Q:HP→HQ→Prop}(I:Ap X pins σ H s)(e:H a=some (.dK kvs))(ry:RelV (kV k) u)(l:Cf kvs k=some v)(hm:more=[]∨∃x,more=[x])
  (h:∀w' s',Ap X pins σ (upd H a (.dK (Gg kvs k))) s'→RelV v w'→Q w' s'):wpAny (model X.prog X.w) A (call (.builtin "dict.pop") (.ref a::u::more)) Q E s:=by
 obtain ⟨z,hd,vs,rel,dd⟩:=Acm I.hok e
 obtain ⟨w',hw,rw'⟩:=Gk.some_of (v:=v) (o:=valueAt vs k) (by rw [←l];exact rel.val k)
 have hp:(keyPart u).isSome=true:=by
  cases k with
  |inl i=>obtain ⟨t,q⟩:=(show ∃t,u=Value.int i t from ry);subst q;rfl
  |inr x=>obtain ⟨t,q⟩:=(show ∃t,u=Value.str x t from ry);subst q;rfl
 have ha:argsOk "dict.pop" ⟨.ref a::u::more,[]⟩:=by
  rcases hm with q|⟨x,q⟩
  ·subst q;exact PySem.F.args_dict_pop_2 _ _
  ·subst q;exact PySem.F.args_dict_pop_3 _ _ _
 refine call_meetsIn PySem.F.slot_dict_pop dd.typeIs PySem.F.entry_dict_pop ha (meets_dict_pop_there (A8 X.prog X.w) a (Lb ry) more hm hp)
  ⟨vs,w',dd,by rw [←rel.length];exact z,hw,fun h' dd' hs=>h w' _ ?_ rw'⟩
 have he:∃q,h'.get? a=some q:=let ⟨q,_,_,hq,_⟩:=dd';⟨q,hq⟩
 exact Vw I (by rw [e];exact ⟨⟩) hs he (Afq (AO (Ahn kvs k) z) hd (rel.drop k) dd')
end
def Ani (i:Expr):Prop:=∀ov iv,subscripted i false ov iv=operate [ov,iv] (getItem ov iv)
theorem Aci {prog:HU}{w:HV}{A:HS}{E:HP→HQ→Prop}{s:HQ}{env:Env}{value slice:Expr}{pos:Pos}{T id:String}{Q:HP→HQ→Prop}
  (hl:typeLookup (.type T) "__getitem__"=pure (some (.builtin id))) (hs:Ani slice)
  (h:wpAny (model prog w) A (eval value env) (fun o s₁=>wpAny (model prog w) A (eval slice env) (fun i s₂=>s₂.TypeIs o T∧wpAny (model prog w) A (getItem o i) Q E s₂) E s₁) E s) :
  wpAny (model prog w) A (eval (.Subscript value slice pos) env) Q E s:=by
 refine Subscript_ (BP h (fun o s₁ h₁=>BP h₁ (fun i s₂ h₂=>?_) fun _ _ x=>x) fun _ _ x=>x)
 obtain ⟨hT,h₂⟩:=h₂
 unfold subscriptTail
 refine AA ?_
 rw [getitemInPython_of_ne hT.not_modules]
 refine AA (HF hT hl ?_)
 have fin:wpAny (model prog w) A (subscripted slice false o i) (fun r s₃=>wpAny (model prog w) A (letTemporaryGo value o r >>= fun _=>pure r) Q E s₃) E s₂:=by
  rw [hs o i]
  exact wpAny_operating (BP h₂ (fun r s₃ h₃=>AA (wpAny_letTemporaryGo (AC h₃))) fun _ _ x=>x)
 first
  |exact AC (AA fin)
  |exact AA (AC (AA fin))
  |exact AA fin
theorem Ww {X:Cx}{pins:List (HR×Obj)}{σ:St}{H:Hp}{s:HQ}{a:HR}{y:V}{o:Option V}(I:Ap X pins σ H s)(g:Hd H a y o):s.TypeIs (.ref a) "dict":=by
 rcases g with ⟨kvs,k,e,_,_⟩|⟨kvs,k,b,e,_,_,_⟩
 ·obtain ⟨_,_,vs,_,dd⟩:=Qa I.hok e
  exact dd.typeIs
 ·obtain ⟨_,_,xs,_,dd⟩:=Se I.hok e
  exact dd.typeIs
def Aps (td ty:TE):TE:=fun σ H Q=>td σ H fun x H1=>ty σ H1 fun y H2=>∃a v,x=.ref a∧Hd H2 a y (some v)∧Q v H2
def Abb (ty td:TE):TE:=fun σ H Q=>ty σ H fun y H1=>td σ H1 fun x H2=>∃a o,x=.ref a∧Hd H2 a y o∧Q (.bl (!o.isSome)) H2
def Aqa (td ty tv:TE):TS:=fun D σ H=>tv σ H fun v H1=>td σ H1 fun x H2=>ty σ H2 fun y H3=>∃a H4,x=.ref a∧W8 H3 a y v H4∧D.nx σ H4
section
variable {X:Cx}{o i e value:Expr}{pos pos' tpos:Pos}{td ty tv:TE}
theorem L6 (hu:X.A.units+1<cLine)(ho:PE X o td)(hi:PE X i ty)(hs:Ani i):PE X (.Subscript o i pos) (Aps td ty):=by
 intro pins s σ H Q I h
 refine Aci PySem.F.slot_dict_getitem.lookup hs (Bi (ho pins s σ H _ I h) fun u s1 ⟨x,H1,I1,rx,q1⟩=>Bi (hi pins s1 σ H1 _ I1 q1) fun iv s2 ⟨y,H2,I2,ry,a,v,ex,g,q2⟩=>?_)
 subst ex
 obtain rfl:u=Value.ref a:=rx
 exact ⟨Ww I2 g,Acy hu I2 g ry fun w' s3 I3 rw'=>⟨v,H2,I3,rw',q2⟩⟩
theorem Adm (hu:X.A.units+1<cLine)(hi:PE X i ty)(ho:PE X o td):PC X .NotIn i o (Abb ty td):=by
 intro pins s σ H Q I h
 refine Bi (hi pins s σ H _ I h) fun iv s1 ⟨y,H1,I1,ry,q1⟩=>Bi (ho pins s1 σ H1 _ I1 q1) fun u s2 ⟨x,H2,I2,rx,a,ov,ex,g,q2⟩=>?_
 subst ex
 obtain rfl:u=Value.ref a:=rx
 exact Ail hu I2 g ry fun s3 I3=>⟨.bl (!ov.isSome),H2,I3,rfl,q2⟩
theorem O5 (hu:X.A.units+1<cLine)(ho:PE X o td)(hi:PE X i ty)(hv:PE X value tv)(hs:swapsWith value (some (.Subscript o i pos')) pos.line X.env=pure false) :
  PS X (.Assign [.Subscript o i pos'] value pos) (Aqa td ty tv):=by
 intro pins s σ H D I h
 refine wpAny_Assign_Subscript (Bi (hv pins s σ H _ I h) fun r s1 ⟨v,H1,I1,rv,q1⟩=>Bi (ho pins s1 σ H1 _ I1 q1) fun u s2 ⟨x,H2,I2,rx,q2⟩=>Bi (hi pins s2 σ H2 _ I2 q2) fun iv s3 ⟨y,H3,I3,ry,a,H4,ex,g,q3⟩=>?_) hs
 subst ex
 obtain rfl:u=Value.ref a:=rx
 exact Ac4 hu I3 g ry rv fun s4 I4=>⟨σ,H4,I4,q3⟩
end
theorem Agr {P:HU}{w:HV}{H:Hp}(h:Heap)(hb:sysModules<h.objs.size):Bf P w H (h.push { cls:=.type "dict",data:=.dict #[] }) h.objs.size (.dK []):=
 ⟨AV _,DK.mpr (CN (AS hb)),[],.nil,Heap.DictOf.new h⟩
def Amv:TE:=fun _ H Q=>∀p,H p=none→Q (.ref p) (upd H p (.dK []))
section
variable {X:Cx}{pos:Pos}
theorem Ir:PE X (.Dict [] [] pos) Amv:=fun pins s σ H Q I h=>
 wpAny_Dict_empty ⟨.ref s.heap.objs.size,_,I.laid (a:=s.heap.objs.size) (o:=.dK []) (t':=s.toks) (fun _ _ q=>AB _ q) (AF _) (Agr s.heap I.big),rfl,h _ (I.hok.fresh (AF _))⟩
end
structure M1 (X:Cx)(o:Expr)(m:Str)(apos:Pos)(e:Expr)(cpos:Pos):Prop where
 base:attributeBase o m X.env (eval o X.env)=eval o X.env
 few:((backTo cpos (starEach [e] X.env)).all (fun x=>!x.1)&&(backToKw cpos (keywordEach [] X.env)).all (fun x=>x.1.isSome)
  && decide (([e]:HZ).length+([]:List Keyword).length+(if ([]:List Keyword).isEmpty then 0 else 1)<30))=true
 line:(apos.endLine==cpos.line)=true
 trees:backTo cpos (starEach [e] X.env)=[(false,eval e X.env)]
structure M2 (X:Cx)(o:Expr)(m:Str)(apos:Pos)(e f:Expr)(cpos:Pos):Prop where
 base:attributeBase o m X.env (eval o X.env)=eval o X.env
 few:((backTo cpos (starEach [e,f] X.env)).all (fun x=>!x.1)&&(backToKw cpos (keywordEach [] X.env)).all (fun x=>x.1.isSome)
  && decide (([e,f]:HZ).length+([]:List Keyword).length+(if ([]:List Keyword).isEmpty then 0 else 1)<30))=true
 line:(apos.endLine==cpos.line)=true
 trees:backTo cpos (starEach [e,f] X.env)=[(false,eval e X.env),(false,eval f X.env)]
def IsD (H:Hp)(a:HR):Prop:=(∃kvs,Rd H a (.dK kvs))∨∃kvs,Rd H a (.dT kvs)
theorem Yy {X:Cx}{pins:List (HR×Obj)}{σ:St}{H:Hp}{s:HQ}{a:HR}(I:Ap X pins σ H s)(d:IsD H a) :
  s.TypeIs (.ref a) "dict"∧(∀b,Value.ref a=.ref b→∃ob,s.heap.get? b=some ob∧ob.dict=none)∧(a==sysModules)=false:=by
 rcases d with ⟨kvs,e⟩|⟨kvs,e⟩
 ·obtain ⟨_,hd,vs,_,dd⟩:=Qa I.hok e
  refine ⟨dd.typeIs,fun b q=>?_,hd⟩
  cases q
  obtain ⟨ob,_,_,h1,h2,_⟩:=dd
  exact ⟨ob,h1,h2.2.1⟩
 ·obtain ⟨_,hd,xs,_,dd⟩:=Se I.hok e
  refine ⟨dd.typeIs,fun b q=>?_,hd⟩
  cases q
  obtain ⟨ob,_,_,h1,h2,_⟩:=dd
  exact ⟨ob,h1,h2.2.1⟩
section
variable {X:Cx}{pins:List (HR×Obj)}{σ:St}{H:Hp}{s:HQ}{a:HR}{y d:V}{u r:HP}{o:Option V}{A:HS}{E:HP→HQ→Prop}
theorem Alx {Q:HP→HQ→Prop}(hu:A.units+1<cLine)(I:Ap X pins σ H s)(g:Hd H a y o)(ry:RelV y u)(rd:RelV d r)(h:∀w' s',Ap X pins σ H s'→RelV (o.getD d) w'→Q w' s') :
  wpAny (model X.prog X.w) A (call (.builtin "dict.get") [.ref a,u,r]) Q E s:=by
 rcases g with ⟨kvs,k,e,ey,l⟩|⟨kvs,k,b,e,ey,eb,l⟩
 ·subst ey
  obtain ⟨z,hd,vs,rel,dd⟩:=Qa I.hok e
  refine call_meetsIn HB dd.typeIs PySem.F.entry_dict_get (PySem.F.args_dict_get_3 _ _ _) (meets_dict_get_default (A8 X.prog X.w) a (Lb ry) hd r) ⟨_,dd.mapOf,h _ _ (I.tok _) ?_⟩
  rw [l]
  exact (rel.val k).getD rd
 ·subst ey
  cases (show u=Value.ref b from ry)
  obtain ⟨z,hd,xs,rel,dd⟩:=Se I.hok e
  refine call_meetsIn HB dd.typeIs PySem.F.entry_dict_get (PySem.F.args_dict_get_3 _ _ _) (meetsH_dict_get_default (tupleKind (A8 X.prog X.w)) a b hd r) ⟨GI hu,k,xs,Qn I.hok eb,dd,h _ _ (I.tok _) ?_⟩
  rw [l]
  exact (rel.val k).getD rd
end
def Aon (td ty tx:TE):TE:=fun σ H Q=>td σ H fun x H1=>∃a,x=.ref a∧IsD H1 a∧ty σ H1 fun y H2=>tx σ H2 fun z H3=>∃o,Hd H3 a y o∧Q (o.getD z) H3
def Alo (td ty:TE):TE:=fun σ H Q=>td σ H fun x H1=>∃a,x=.ref a∧IsD H1 a∧ty σ H1 fun y H2=>∃kvs k v,H2 a=some (.dK kvs)∧y=kV k∧Cf kvs k=some v∧Q v (upd H2 a (.dK (Gg kvs k)))
section
variable {X:Cx}{o e f:Expr}{apos cpos:Pos}{td ty tx:TE}
theorem Iv (hu:X.A.units+1<cLine)(ho:PE X o td)(he:PE X e ty)(hf:PE X f tx)(m:M2 X o "get" apos e f cpos):PE X (.Call (.Attribute o "get" apos) [e,f] [] cpos) (Aon td ty tx):=by
 intro pins s σ H Q I h
 refine wpAny_Call_method m.base m.few m.line GP HB PySem.F.type_dict_get (Bi (ho pins s σ H _ I h) fun u s1 ⟨x,H1,I1,rx,a,ex,d,q1⟩=>?_)
 subst ex
 obtain rfl:u=Value.ref a:=rx
 obtain ⟨t1,t2,_⟩:=Yy I1 d
 refine ⟨t1,t2,?_⟩
 rw [m.trees]
 refine FL rfl (FT (DC (Bi (he pins s1 σ H1 _ I1 q1) fun iv s2 ⟨y,H2,I2,ry,q2⟩=>
  DC (Bi (hf pins s2 σ H2 _ I2 q2) fun fv s3 ⟨z,H3,I3,rz,ov,g,q3⟩=>DH ?_))))
 exact Alx hu I3 g ry rz fun w' s4 I4 rw'=>⟨_,H3,I4,rw',q3⟩
theorem Afs (ho:PE X o td)(he:PE X e ty)(m:M1 X o "pop" apos e cpos):PE X (.Call (.Attribute o "pop" apos) [e] [] cpos) (Alo td ty):=by
 intro pins s σ H Q I h
 refine wpAny_Call_method m.base m.few m.line GP PySem.F.slot_dict_pop PySem.F.type_dict_pop (Bi (ho pins s σ H _ I h) fun u s1 ⟨x,H1,I1,rx,a,ex,d,q1⟩=>?_)
 subst ex
 obtain rfl:u=Value.ref a:=rx
 obtain ⟨t1,t2,_⟩:=Yy I1 d
 refine ⟨t1,t2,?_⟩
 rw [m.trees]
 refine FL rfl (FT (DC (Bi (he pins s1 σ H1 _ I1 q1) fun iv s2 ⟨y,H2,I2,ry,kvs,k,v,ea,ey,l,q2⟩=>DH ?_)))
 subst ey
 exact Ao8 I2 ea ry l (.inl rfl) fun w' s3 I3 rw'=>⟨v,_,I3,rw',q2⟩
end
end L2
namespace L2
open PySem PySem.Spec PyProof.Rows
end L2
end
section
set_option autoImplicit false
namespace Lw
open PySem PySem.Spec PyProof.Rows L2
def D8 {α:Type}:Sem α→Prop
 |.pure _=>True
 |.raise _=>True
 |.unsupported _=>True
 |.finish _=>True
 |.rule _ k=>D8 (k ())
 |.at _ k=>D8 (k ())
 |.load _ _ k=>∀o,D8 (k o)
 |.update _ _ f k=>(∀o,(f o).dict=o.dict∧(f o).isFreed=o.isFreed)∧D8 (k ())
 |.alloc _ k=>∀a,D8 (k a)
 |.stack k=>∀l,D8 (k l)
 |_=>False
def J2 (e:HR)(d:IB)(h:Heap):Prop:=∃o,h.get? e=some o∧o.dict=d
theorem Ajq {α:Type}{M:Model}{Γ:PySem.Ctx}{e:HR}{d:IB}{t:Sem α}:∀{Q:α→Pos→HQ→Prop} {E:HP→Pos→HQ→Prop} {p:Pos} {s:HQ},D8 t→Sem.wp M Γ t Q E p s→J2 e d s.heap →
  Sem.wp M Γ t (fun a p' s'=>Q a p' s'∧J2 e d s'.heap) (fun v p' s'=>E v p' s'∧J2 e d s'.heap) p s:=by
 induction t with
 |pure a=>intro Q E p s _ h D;exact ⟨h,D⟩
 |raise v=>intro Q E p s _ h D;exact ⟨h,D⟩
 |unsupported _=>intro Q E p s _ h D;exact h.elim
 |finish _=>intro Q E p s _ h D;exact h.elim
 |rule _ k ih=>intro Q E p s m h D;exact ih () m h D
 |«at» _ k ih=>intro Q E p s m h D;exact ih () m h D
 |load a _ k ih=>
  intro Q E p s m h D
  obtain ⟨o,ho,h⟩:=h
  exact ⟨o,ho,ih o (m o) h D⟩
 | update a _ f k ih=>
  intro Q E p s m h D
  obtain ⟨ha,h⟩:=h
  refine ⟨ha,ih () m.2 h ?_⟩
  obtain ⟨o,ho,hd⟩:=D
  show J2 e d (s.heap.update a f)
  by_cases q:a=e
  ·subst q
   have hf:o.isFreed=false:=(Heap.get?_some_iff.mp ho).2
   exact ⟨_,CA f ho ((m.1 o).2.trans hf),(m.1 o).1.trans hd⟩
  ·exact ⟨o,(DZ _ f q).trans ho,hd⟩
 |alloc o k ih=>
  intro Q E p s m h D
  refine ih _ (m _) h ?_
  obtain ⟨o',ho,hd⟩:=D
  exact ⟨o',AB _ ho,hd⟩
 |stack k ih=>intro Q E p s m h D;exact ih _ (m _) h D
 |loadIfAlive _ _ _|point _ _ _|register _ _ _|fresh _ _|ask _ _|choose _ _ _ _|os _ _ _ _|call _ _ _ _ _ _|handled _ _ _|newGen _ _ _|genState _ _ _|resume _ _ _ _ _|yield _ _ _ _ _|fork _ _ _|thread _ _|await _ _ _ _ _ _=>intro Q E p s m;exact m.elim
theorem Il {α:Type}{M:Model}{A:HS}{e:HR}{d:IB}{t:Sem α}{Q:α→HQ→Prop}{E:HP→HQ→Prop}{s:HQ}(m:D8 t)(D:J2 e d s.heap)(h:wpAny M A t Q E s) :
  wpAny M A t (fun a s'=>Q a s'∧J2 e d s'.heap) E s:=fun Γ p hΓ=>
 Sem.wp_mono M Γ t (fun _ _ _ x=>x) (fun _ _ _ x=>x.1) p s (Ajq m (h Γ p hΓ) D)
theorem Az {α β:Type}{m:Sem α}{f:α→Sem β}(h:D8 m)(k:∀a,D8 (f a)):D8 (m >>= f):=by
 show D8 (m.bind f)
 induction m with
 |pure a=>exact k a
 |raise v=>exact trivial
 |unsupported _=>exact trivial
 |finish _=>exact trivial
 |rule _ g ih=>exact ih () h
 |«at» _ g ih=>exact ih () h
 |load a _ g ih=>exact fun o=>ih o (h o)
 |update a _ f g ih=>exact ⟨h.1,ih () h.2⟩
 |alloc o g ih=>exact fun a=>ih a (h a)
 |stack g ih=>exact fun l=>ih l (h l)
 |loadIfAlive _ _ _|point _ _ _|register _ _ _|fresh _ _|ask _ _|choose _ _ _ _|os _ _ _ _|call _ _ _ _ _ _|handled _ _ _|newGen _ _ _|genState _ _ _|resume _ _ _ _ _|yield _ _ _ _ _|fork _ _ _|thread _ _|await _ _ _ _ _ _=>exact h.elim
theorem Nl {a:HR}:D8 (load a):=fun _=>trivial
theorem Ky:D8 stack:=fun _=>trivial
theorem A7 {α:Type}{a:α}:D8 (pure a:Sem α):=trivial
theorem C8 {α:Type}{w:String}:D8 (unsupported w:Sem α):=trivial
theorem Acv {a:HR}{g:Array HP→Array HP}:D8 (update a (Obj.mapFields g)):=⟨fun o=>by
 obtain ⟨c,d,dt,sl⟩:=o
 cases dt<;>exact ⟨rfl,rfl⟩,trivial⟩
theorem Ha {v:HP}{i:Nat}:D8 (field v i):=by
 unfold field fieldsOf
 refine Az ?_ fun vs=>?_
 ·cases v<;>first|exact C8|skip
  refine Az Nl fun o=>?_
  cases o.data<;>first|exact A7|exact C8
 ·cases vs[i]?<;>first|exact A7|exact C8
theorem F7 {v x:HP}{i:Nat}:D8 (setField v i x):=by
 unfold setField
 cases v<;>first|exact C8|skip
 refine Az Nl fun o=>?_
 cases o.data<;>first|exact C8|skip
 dsimp only
 split
 ·exact Acv
 ·exact C8
theorem Fh {e:HP}{fr:IB}:D8 (setFlight e fr):=by
 unfold setFlight
 refine Az Ha fun tb=>?_
 split
 ·exact F7
 ·exact A7
theorem Pk:∀{l:List Env},D8 (readyFrames l)
 |[]=>A7
 | env::outer=>by
  unfold readyFrames
  cases env.frame with
  |none=>exact C8
  | some f=>
   refine Az Nl fun o=>?_
   split
   ·exact A7
   ·refine Az (m:=behindIsImport env outer) ?_ fun imp=>Az (m:=keptBack env imp outer) ?_ fun back=>Az ?_ fun _=>Pk
    ·unfold behindIsImport
     split
     ·exact A7
     ·split
      ·exact A7
      ·exact Az Ha fun _=>A7
    ·cases outer with
     |cons c r=>exact A7
     | nil=>
      show D8 (if (env.scope.isGenerator||env.scope.isCoroutine)=true then _ else _)
      split
      ·exact A7
      ·unfold underTheClaimsCaller
       refine Az (Az Ky fun _=>A7) fun _=>?_
       exact A7
    ·exact ⟨fun o=>by obtain ⟨c,d,dt,sl⟩:=o;cases dt<;>exact ⟨rfl,rfl⟩,trivial⟩
theorem Tw {env:Env}:D8 (PySem.frameOf env):=by
 unfold PySem.frameOf frameEnvs
 refine Az (Az Ky fun _=>A7) fun l=>Az ?_ fun r=>?_
 ·generalize List.dropWhile _ l=l'
  cases l' with
  |nil=>exact A7
  |cons x xs=>exact Az Pk fun _=>A7
 ·cases r<;>first|exact A7|exact C8
theorem Zp {a b c d e:HP}{pl:HY}:D8 (EntryCells.newEntry a b c d e pl):=by
 unfold EntryCells.newEntry newFields
 generalize [a,b,c,d,e]++_=l
 unfold newObj newObjAsIs
 dsimp only
 split
 ·exact Az C8 fun _=>Az (m:=alloc _) (fun _=>trivial) fun _=>A7
 ·exact Az (m:=alloc _) (fun _=>trivial) fun _=>A7
theorem Aai {f:HR}{b:Bool}:D8 (entryPlaceOf f b):=by
 unfold entryPlaceOf
 refine Az Ky fun acts=>?_
 cases List.find? _ acts with
 |none=>exact A7
 |some x=>exact A7
theorem S4 {e:HP}{env:Env}:D8 (noteFrame e env):=by
 unfold noteFrame
 cases env.frame with
 |none=>exact C8
 | some f=>
  have tl:∀head:HP,D8 (do setField e 1 (←EntryCells.newEntry head (←PySem.frameOf env) .none (rawInt f) .none (←entryPlaceOf f (head != .none)))):=fun head=>
   Az Tw fun _=>Az Aai fun _=>Az Zp fun _=>F7
  refine Az Ha fun head=>?_
  dsimp only
  split
  ·refine Az Ha fun x=>?_
   split
   ·exact A7
   ·exact Az F7 fun _=>tl head
  ·exact tl head
theorem Lh {e:HP}{env:Env}:D8 (leaving env e):=Az S4 fun _=>Fh
end Lw
end
section
namespace Lw
open PySem PySem.Spec PyProof.Rows L2
theorem Pj {P:HU}{w:HV}{H:Hp}{h:Heap}{a:HR}{o:HO}(x:Bf P w H h a o):∃u,h.get? a=some u:=by
 cases o with
 |lst xs=>obtain ⟨_,_,_,_,e⟩:=x;exact ⟨_,e⟩
 |tup xs=>obtain ⟨_,_,_,o,e,_⟩:=x;exact ⟨_,e⟩
 |dK kvs=>obtain ⟨_,_,_,_,o,_,_,e,_⟩:=x;exact ⟨_,e⟩
 |dT kvs=>obtain ⟨_,_,_,_,o,_,_,e,_⟩:=x;exact ⟨_,e⟩
 |set S n=>obtain ⟨o,_,_,_,e,_⟩:=x;exact ⟨_,e⟩
 |ins C dx fs=>obtain ⟨_,_,_,e,_⟩:=x;exact ⟨_,e⟩
 |own y=>exact x
 |xd fs=>obtain ⟨_,⟨_,_,_,e,_⟩,_⟩:=x;exact ⟨_,e⟩
 |rng lo hi=>obtain ⟨_,_,_,e⟩:=x;exact ⟨_,e⟩
 |frz ob u=>exact ⟨_,x.1⟩
 |tbl ps=>exact ⟨_,x⟩
 |met f y=>exact ⟨_,x⟩
 |ext φ=>exact x.2.1
structure Fly (P:HU)(w:HV)(outer:List Env)(H:Hp)(s:HQ)(H':Hp)(a:HR)(cls:HP)(d:IB)(B:Heap)(a0:HP)(s':HQ):Prop where
 os:s'.os=s.os
 bare:AllBare s'.gens
 un:Un (La outer) [] H H' s.heap s'.heap
 hok:Jz P w H' s'.heap
 fresh:s.heap.get? a=none
 free:H' a=none
 fly:Heap.FlyingW B outer a cls a0 s'.heap
 trk:∀b o,H' b≠none→s'.heap.get? b=some o→B.get? b=some o
 old:∀b o,s.heap.get? b=some o→H b=none→b∉La outer→B.get? b=some o
 any:∀b o,s.heap.get? b=some o→b∉La outer→∃o',B.get? b=some o'
 dct:J2 a d s'.heap
section
variable {P:HU}{w:HV}{outer:List Env}{H H':Hp}{s s':HQ}{a:HR}{cls a0:HP}{d:IB}{B h5:Heap}
theorem Fly.slots (F:Fly P w outer H s H' a cls d B a0 s')(U:s'.heap.UpToSlots h5){b:HR}{o:Obj}(hb:b∈La outer)(e:s'.heap.get? b=some o):∃sl,h5.get? b=some { o with slots:=sl }:=by
 obtain ⟨_,o',e',nf⟩:=F.fly.2.2.1.mem hb
 rw [e] at e'
 cases e'
 exact U b o e nf
theorem Fly.un5 (F:Fly P w outer H s H' a cls d B a0 s')(St:B.StaysIn h5)(U:s'.heap.UpToSlots h5):Un (La outer) [] H H' s.heap h5 where
 keep:=fun b o e n hb _=>St b o (F.old b o e n hb)
 slot:=fun b o e n hb hx=>by
  obtain ⟨sl,e1⟩:=F.un.slot b o e n hb hx
  obtain ⟨sl2,e2⟩:=F.slots U hb e1
  exact ⟨sl2,e2⟩
 free:=F.un.free
 there:=fun b o e hx=>by
  by_cases hb:b∈La outer
  ·obtain ⟨o',e1⟩:=F.un.there b o e hx
   obtain ⟨sl,e2⟩:=F.slots U hb e1
   exact ⟨_,e2⟩
  ·obtain ⟨o',e1⟩:=F.any b o e hb
   exact ⟨o',St b o' e1⟩
 tups:=F.un.tups
 frzs:=F.un.frzs
 tbls:=F.un.tbls
theorem Fly.hok5 (F:Fly P w outer H s H' a cls d B a0 s')(St:B.StaysIn h5):Jz P w H' h5:=fun b u e=>by
 refine (F.hok b u e).stay (fun c v hc q=>St c v (F.trk c v ?_ q)) (fun _ q=>q) fun _ _ q=>q
 rcases hc with z|z
 ·rw [z,e];simp
 ·rw [z];simp
theorem Fly.trk5 (F:Fly P w outer H s H' a cls d B a0 s')(St:B.StaysIn h5):∀b o,H' b≠none→h5.get? b=some o→B.get? b=some o:=fun b o n e=>by
 cases q:H' b with
 |none=>exact absurd q n
 |some u=>
  obtain ⟨o1,e1⟩:=Pj (F.hok b u q)
  have e2:=F.trk b o1 n e1
  have e3:=St b o1 e2
  rw [e] at e3
  cases e3
  exact e2
end
structure Sj (X:Cx):Prop where
 stk:X.stack=X.env::X.outer
 fr:X.env.frame=some X.env.locals
 ex:X.ex=[]
section
variable {X:Cx}{pins:List (HR×Obj)}{σ:L2.St}{H H':Hp}{s s':HQ}{M:Model}{E:HP→HQ→Prop}{Q:Unit→HQ→Prop}
theorem O4 (I:Ap X pins σ H s){b:HR}{o:Obj}(e:X.s₀.heap.get? b=some o)(hb:b∉X.fs):b∉La X.stack:=fun z=>by
 rcases AU.mp (I.stkSub b z) with q|q
 ·subst q
  exact DM _ (AL (AH e) I.ok.above)
 ·exact hb q
theorem Wv (D:Sj X)(I:Ap X pins σ H s){a:HR}(n:s.heap.get? a=none):X.s₀.heap.get? a=none:=by
 cases q:X.s₀.heap.get? a with
 |none=>rfl
 |some o=>
  obtain ⟨o',e⟩:=I.base.there a o q (by rw [D.ex];simp)
  rw [n] at e
  cases e
theorem Anj {a:HR}{cls a0:HP}{d:IB}{B:Heap}(D:Sj X)(I:Ap X pins σ H s)(F:Fly X.prog X.w X.stack H s H' a cls d B a0 s')
  (k:∀s'',Fly X.prog X.w X.outer X.H₀ X.s₀ H' a cls d B a0 s''→Q () s''):wpAny M X.A (leaving X.env (.ref a)) Q E s':=by
 have hfr:X.A.frames=some (X.env::X.outer):=by rw [I.ok.frames,D.stk]
 have hfl:=F.fly
 rw [D.stk] at hfl
 have hex:∀b:HR,b∉X.ex:=fun b=>by rw [D.ex];simp
 refine BP (Il Lh F.dct (wpAny_leaves_onW (Q:=fun _ s5=>∃h5,s5={ s' with heap:=h5 }∧Heap.FlyingW B X.outer a cls a0 h5∧s'.heap.UpToSlots h5) hfr D.fr hfl fun h5 f5 u5=>⟨h5,rfl,f5,u5⟩)) (fun _ s5 ⟨⟨h5,e5,f5,u5⟩,d5⟩=>?_) fun _ _ z=>z
 subst e5
 refine k _ ?_
 have I5:Ap X pins σ H' { s' with heap:=h5 }:=I.call' (s':={ s' with heap:=h5 }) (ch:=[]) F.os (F.un5 f5.1 u5) (F.hok5 f5.1) F.bare fun b hb=>absurd hb (by simp)
 refine ⟨I5.os,I5.bare,?_,I5.hok,Wv D I F.fresh,F.free,f5,F.trk5 f5.1,fun b o e n hb=>?_,fun b o e hb=>?_,d5⟩
 ·have u:=I5.base
  rw [D.ex] at u
  exact u
 ·exact F.old b o (I.base.keep b o e n hb (hex b)) (I.base.free b o e n (hex b)) (O4 I e hb)
 ·obtain ⟨o1,e1⟩:=I.base.there b o e (hex b)
  exact F.any b o1 e1 (O4 I e hb)
theorem Afv {h':Heap}{e:HR}{cls:HP}{vs:HY}(D:Sj X)(I:Ap X pins σ H s)(hx:Heap.MadeExcOf s.heap h' e cls vs)
  (k:∀s'' B a0,Fly X.prog X.w X.outer X.H₀ X.s₀ H e cls none B a0 s''→Q () s''):wpAny M X.A (leaving X.env (.ref e)) Q E { s with heap:=h' }:=by
 have hfr:X.A.frames=some (X.env::X.outer):=by rw [I.ok.frames,D.stk]
 have hex:∀b:HR,b∉X.ex:=fun b=>by rw [D.ex];simp
 have hB:∀b o,s.heap.get? b=some o→b∉La X.stack→(PySem.W.hideAll s.heap (La X.stack)).get? b=some o:=fun b o q nm=>PySem.W.hideAll_get _ q nm
 have hl:s.heap.FunFrames (PySem.W.hideAll s.heap (La X.stack)) (X.env::X.outer):=by
  have z:=PySem.W.funFrames_hide (as:=La X.stack) I.stack fun env he b hb=>ED.mpr ⟨env,he,hb⟩
  rw [D.stk] at z ⊢
  exact z
 have tn:∀b,H b≠none→b∉La X.stack:=fun b n z=>n (I.stkFree b z)
 have D0:J2 e none ({ s with heap:=h' }:HQ).heap:=by
  obtain ⟨t,q,_⟩:=hx.there
  exact ⟨_,q,rfl⟩
 refine BP (Il Lh D0 (wpAny_leaves_madeW (s:={ s with heap:=h' }) (Q:=fun _ s5=>∃h5 t,s5={ s with heap:=h5 }∧Heap.FlyingW (PySem.W.hideAll s.heap (La X.stack)) X.outer e cls (.ref t) h5∧h'.UpToSlots h5) hfr D.fr (fun b o q=>PySem.W.of_hideAll _ q) hl hx fun h5 t f5 _ _ u5=>⟨h5,t,rfl,f5,u5⟩)) (fun _ s5 ⟨⟨h5,t,e5,f5,u5⟩,d5⟩=>?_) fun _ _ z=>z
 subst e5
 refine k _ (PySem.W.hideAll s.heap (La X.stack)) (.ref t) ?_
 have St:=f5.1
 have un5:Un (La X.stack) [] H H s.heap h5:=by
  have sl:∀b o,s.heap.get? b=some o→b∈La X.stack→∃sl,h5.get? b=some { o with slots:=sl }:=fun b o e hb=>by
   obtain ⟨_,o',e',nf⟩:=I.stack.mem hb
   rw [e] at e'
   cases e'
   exact u5 b o (hx.keeps b o e) nf
  refine ⟨fun b o e n hb _=>St b o (hB b o e hb),fun b o e n hb _=>sl b o e hb,fun _ _ _ n _=>n,fun b o e _=>?_,fun _ _ q=>q,fun _ _ _ q=>q,fun b ps q=>⟨#[],by rw [q];simp⟩⟩
  by_cases hb:b∈La X.stack
  ·obtain ⟨z,e1⟩:=sl b o e hb
   exact ⟨_,e1⟩
  ·exact ⟨o,St b o (hB b o e hb)⟩
 have hok5:Jz X.prog X.w H h5:=fun b u e=>by
  refine (I.hok b u e).stay (fun c v hc q=>St c v (hB c v q (tn c ?_))) (fun _ q=>q) fun _ _ q=>q
  rcases hc with z|z
  ·rw [z,e];simp
  ·rw [z];simp
 have I5:Ap X pins σ H { s with heap:=h5 }:=I.call' (s':={ s with heap:=h5 }) (ch:=[]) rfl un5 hok5 I.bare fun b hb=>absurd hb (by simp)
 refine ⟨I5.os,I5.bare,?_,hok5,Wv D I hx.new,?_,f5,fun b o n q=>?_,fun b o e n hb=>?_,fun b o e hb=>?_,d5⟩
 ·have u:=I5.base
  rw [D.ex] at u
  exact u
 ·cases q:H e with
  |none=>rfl
  |some u=>
   obtain ⟨o,z⟩:=Pj (I.hok e u q)
   rw [hx.new] at z
   cases z
 ·cases z:H b with
  |none=>exact absurd z n
  |some u=>
   obtain ⟨o1,e1⟩:=Pj (I.hok b u z)
   have e2:=hB b o1 e1 (tn b n)
   have e3:=St b o1 e2
   have q':h5.get? b=some o:=q
   rw [q'] at e3
   cases e3
   exact e2
 ·exact hB b o (I.base.keep b o e n hb (hex b)) (O4 I e hb)
 ·obtain ⟨o1,e1⟩:=I.base.there b o e (hex b)
  exact ⟨o1,hB b o1 e1 (O4 I e hb)⟩
end
def Es (P:HU)(w:HV):CXT:=fun outer H s E e s'=>∃a cls d H' B a0,e=.ref a∧Fly P w outer H s H' a cls d B a0 s'∧E cls d H'
theorem Aqk {P:HU}{w:HV}{outer:List Env}{H:Hp}{s s':HQ}{e:HP}(h:Es P w outer H s (fun _ _ _=>False) e s'):False:=by
 obtain ⟨_,_,_,_,_,_,_,_,z⟩:=h
 exact z
theorem Pi {X:Cx}:Ee (Es X.prog X.w) X E0:=fun _ _ _ _ _ _ _ h=>(Aqk h).elim
section
variable {P:HU}{w:HV}{K:KKf}{mg:Str→IA}{base:Heap}{N:HW}{qual:Str}{scope:Scope}{f:HR}{cd:HP}{A:HS}{outer:List Env}{s₀:HQ}{H₀:Hp}{E:XK}
theorem Ace:Ee (Es P w) (Co (Es P w) P w K mg base N qual scope f cd A outer s₀ H₀ E) E:=by
 intro pins σ H1 s1 e s' I h
 obtain ⟨a,cls,d,H',B,a0,rfl,F,q⟩:=h
 exact Anj (X:=Co (Es P w) P w K mg base N qual scope f cd A outer s₀ H₀ E) ⟨rfl,rfl,rfl⟩ I F fun s'' F'=>⟨a,cls,d,H',B,a0,rfl,F',q⟩
theorem Amo {pins:List (HR×Obj)}{σ:L2.St}{H:Hp}{s:HQ}{h':Heap}{e:HR}{cls:HP}{vs:HY}(I:Ap (Co (Es P w) P w K mg base N qual scope f cd A outer s₀ H₀ E) pins σ H s)(hx:Heap.MadeExcOf s.heap h' e cls vs)(q:E cls none H) :
  (Co (Es P w) P w K mg base N qual scope f cd A outer s₀ H₀ E).xe (.ref e) { s with heap:=h' } :=
 Afv (X:=Co (Es P w) P w K mg base N qual scope f cd A outer s₀ H₀ E) ⟨rfl,rfl,rfl⟩ I hx fun s'' B a0 F'=>⟨e,cls,none,H,B,a0,rfl,F',q⟩
end
end Lw
end
section
namespace Lw
open PySem PySem.Spec PyProof.Rows L2
def Br (b:Bool)(A B:Prop):Prop:=(b=true→A)∧(b=false→B)
theorem Sn (b:Bool)(A B:Prop):Br b A B=(if b=true then A else B):=by
 unfold Br
 cases b<;>simp
def Amc (i:Nat):TE:=fun σ H Q=>match σ[i]? with
 |some (some v)=>Q v H
 |_=>False
theorem Aia (i:Nat):Amc i=Al5 i:=by
 funext σ H Q
 apply propext
 unfold Amc Al5
 cases h:σ[i]? with
 |none=>simp
 |some o=>cases o<;>simp
def dI (C:Int→Int→Prop)(g:Int→Int→V):R2:=fun x y H Q=>match x,y with
 |.int i,.int j=>C i j∧Q (g i j) H
 |_,_=>False
def dI0 (g:Int→Int→V):R2:=fun x y H Q=>match x,y with
 |.int i,.int j=>Q (g i j) H
 |_,_=>False
def dU (g:Int→V):V→Hp→VK→Prop:=fun x H Q=>match x with
 |.int i=>Q (g i) H
 |_=>False
def J6 (t:TE):TT:=fun σ H Q=>t σ H fun x H'=>match x with
 |.bl k=>Q k H'
 |_=>False
theorem Qw (t:TE):J6 t=Aaq t:=by
 funext σ H Q
 unfold J6 Aaq
 congr 1
 funext x H'
 apply propext
 cases x<;>simp
theorem Gi (t:TE):J6 t=tB t:=Qw t
def Alr (t u:TT):TT:=fun σ H Q=>t σ H fun c H1=>Br c (u σ H1 Q) (Q false H1)
def dOr (t u:TT):TT:=fun σ H Q=>t σ H fun c H1=>Br c (Q true H1) (u σ H1 Q)
theorem Aj3 (t u:TT):Alr t u=Amq t u:=by
 funext σ H Q
 unfold Alr Amq
 simp only [Sn]
theorem Am3 (t u:TT):dOr t u=tOr t u:=by
 funext σ H Q
 unfold dOr tOr
 simp only [Sn]
def Agy (ta tb:TE):TE:=fun σ H Q=>ta σ H fun x H1=>match x with
 |.bl c=>Br c (tb σ H1 Q) (Q (.bl false) H1)
 |_=>False
def Agx (ta:TE):TE:=fun σ H Q=>ta σ H fun x H1=>match x with
 |.bl c=>Q (.bl (!c)) H1
 |_=>False
theorem Ae1 (t u:TE):Agy t u=Ahb t u:=by
 funext σ H Q
 unfold Agy Ahb
 congr 1
 funext x H'
 apply propext
 cases x<;>simp [Sn]
theorem Ahd (t:TE):Agx t=Aev t:=by
 funext σ H Q
 unfold Agx Aev
 congr 1
 funext x H'
 apply propext
 cases x<;>simp
def Anu (c:TT)(t u:TS):TS:=fun D σ H=>c σ H fun b H1=>Br b (t D σ H1) (u D σ H1)
theorem Air (c:TT)(t u:TS):Anu c t u=Am0 c t u:=by
 funext D σ H
 unfold Anu Am0
 simp only [Sn]
def dIf (t:TT)(ta tb:TE):TE:=fun σ H Q=>t σ H fun c H1=>Br c (ta σ H1 Q) (tb σ H1 Q)
theorem Aly (c:TT)(t u:TE):dIf c t u=tIf c t u:=by
 funext D σ H
 unfold dIf tIf
 simp only [Sn]
section
variable {X:Cx}{a b c:Expr}{ta tb tc:TE}{pos:Pos}{tA tB':TT}{Eo:HZ}
theorem dv (i:Nat){x:Str}{pos:Pos}(hN:X.N[i]? =some x:=by rfl)(hv:Vis X.env.scope x:=by first|exact Or.inl rfl|exact Or.inr (Or.inl rfl)|exact Or.inr (Or.inr rfl))(hd:(x==("__debug__":Str))=false:=by decide)
  (hcd:(x==("__classdict__":Str))=false:=by decide):PE X (.Name x pos) (Amc i):=by
 rw [Aia]
 exact Ami hN hv hd hcd
theorem opD {f:HP→HP→Sem HP}{C:Int→Int→Prop}{g:Int→Int→V}(h:Dv X f (rI C g)):Dv X f (dI C g):=by
 intro pins s σ H x y v u Q I rx ry q
 cases x<;>cases y<;>first
  |exact False.elim q
  |exact h _ _ _ _ _ _ _ _ _ I rx ry ⟨_,_,rfl,rfl,q.1,q.2⟩
theorem Adx {f:HP→HP→Sem HP}{g:Int→Int→V}(h:Dv X f (rI0 g)):Dv X f (dI0 g):=by
 intro pins s σ H x y v u Q I rx ry q
 cases x<;>cases y<;>first
  |exact False.elim q
  |exact h _ _ _ _ _ _ _ _ _ I rx ry ⟨_,_,rfl,rfl,q⟩
theorem unD {f:HP→Sem HP}{g:Int→V}(h:UnR X f (rU g)):UnR X f (dU g):=by
 intro pins s σ H x v Q I rx q
 cases x<;>first
  |exact False.elim q
  |exact h _ _ _ _ _ _ _ I rx ⟨_,rfl,q⟩
def Bd (n:Nat)(x:Int):Prop:=x.natAbs<2 ^ n
theorem Bd.bits {n:Nat}{x:Int}(h:Bd n x):Builtin.Int.intBits x≤n:=intBits_le_iff.mpr h
def COk (i j:Int):Prop:=(Bd 4000 i∧Bd 4000 j)∨Al9 i j
theorem COk.ok {i j:Int}(h:COk i j):IntMulOk i j:=by
 rcases h with ⟨h1,h2⟩|h
 ·exact PySem.IntMulOk.of_bits (AO h1.bits (by decide)) (AO h2.bits (by decide))
 ·exact h.ok
theorem Lp {n:Nat}{x:Int}(h:Bd n x)(h0:0<n):x.natAbs.log2<n:=by
 by_cases z:x.natAbs=0
 ·rw [z]
  simpa using h0
 ·exact (Nat.log2_lt z).mpr h
theorem F2:Dv X (binaryOp .Add) (dI0 fun i j=>.int (i+j)):=Adx Amw
theorem X8:Dv X (binaryOp .Sub) (dI0 fun i j=>.int (i-j)):=Adx Amu
theorem D9:Dv X (binaryOp .Mult) (dI COk fun i j=>.int (i*j)):=opD (opI fun _ _ _ _ _ _ _ hc q=>mul_int q hc.ok)
theorem Hm:Dv X (binaryOp .FloorDiv) (dI (fun _ j=>0<j∧Bd 4000 j) fun i j=>.int (i / j)):=opD (opI fun i j _ _ _ _ _ hc q=>by
 have h1:(0:Int)<j:=hc.1
 exact floordiv_int (by omega) (by rw [Int.fdiv_eq_ediv_of_nonneg i (by omega)];exact q) (.inl (PyProof.noPylong_of_log2 (Nat.lt_trans (Lp hc.2 (by decide)) (by decide)))))
theorem Ahq:Dv X (binaryOp .FloorDiv) (dI (fun _ j=>j≠0∧Bd 4000 j) fun i j=>.int (i.fdiv j)):=opD (opI fun i j _ _ _ _ _ hc q=>by
 exact floordiv_int hc.1 q (.inl (PyProof.noPylong_of_log2 (Nat.lt_trans (Lp hc.2 (by decide)) (by decide)))))
theorem Er:Dv X (binaryOp .Mod) (dI (fun _ j=>0<j) fun i j=>.int (i % j)):=opD Aml
theorem An8:Dv X (binaryOp .Mod) (dI (fun _ j=>j≠0) fun i j=>.int (i.fmod j)):=opD Ai6
theorem Arv:Dv X (binaryOp .Pow) (dI Aqm fun i j=>.int (i ^ j.toNat)):=opD Amf
theorem Xi:Dv X (compareOp .Lt) (dI0 fun i j=>.bl (decide (i<j))):=Adx Aqf
theorem Q3:Dv X (compareOp .LtE) (dI0 fun i j=>.bl (decide (i≤j))):=Adx Aq1
theorem Afp:Dv X (compareOp .Gt) (dI0 fun i j=>.bl (decide (j<i))):=Adx Apg
theorem As6:Dv X (compareOp .GtE) (dI0 fun i j=>.bl (decide (j≤i))):=Adx Aqp
theorem Mj:UnR X (unaryOp .USub) (dU fun i=>.int (-i)):=unD Aoh
def dEq:R2:=fun x y H Q=>match x,y with
 |.int i,.int j=>Q (.bl (decide (i=j))) H
 |.bl i,.bl j=>Q (.bl (i==j)) H
 |.str i,.str j=>Q (.bl (decide (i=j))) H
 |_,_=>False
def dNe:R2:=fun x y H Q=>match x,y with
 |.int i,.int j=>Q (.bl (!decide (i=j))) H
 |.bl i,.bl j=>Q (.bl (i != j)) H
 |.str i,.str j=>Q (.bl (!decide (i=j))) H
 |_,_=>False
theorem Gu:Dv X (compareOp .Eq) dEq:=by
 intro pins s σ H x y v u Q I rx ry q
 cases x<;>cases y<;>first
  |exact False.elim q
  | (refine Arw _ _ _ _ _ _ _ _ _ I rx ry ⟨rfl,?_⟩
     have e:∀(i j:Int),decide (V.int i=V.int j)=decide (i=j):=fun i j=>by simp
     have e2:∀(i j:Str),decide (V.str i=V.str j)=decide (i=j):=fun i j=>by simp
     first
       |(rw [e];exact q)
       |(rw [e2];exact q)
       |(rw [Vx];exact q))
theorem Ad5:Dv X (compareOp .NotEq) dNe:=by
 intro pins s σ H x y v u Q I rx ry q
 cases x<;>cases y<;>first
  |exact False.elim q
  | (refine Ap6 _ _ _ _ _ _ _ _ _ I rx ry ⟨rfl,?_⟩
     have e:∀(i j:Int),decide (V.int i=V.int j)=decide (i=j):=fun i j=>by simp
     have e2:∀(i j:Str),decide (V.str i=V.str j)=decide (i=j):=fun i j=>by simp
     first
       |(rw [e];exact q)
       |(rw [e2];exact q)
       |(rw [Vx];exact q))
theorem Bl {op:CmpOp}{r:R2}(ho:Dv X (compareOp op) r)(ha:PE X a ta)(hb:PE X b tb)(hm:behindInMarks op b=false):PT X (.Compare a [op] [b] pos) (J6 (tOp r ta tb)):=by
 rw [Qw]
 exact Ah3 ho ha hb hm
theorem Aq2 {j pos'}(ha:PE X a ta):PT X (.Compare a [.Is] [.Constant .none j pos'] pos) (J6 (Ara ta)):=by
 rw [Gi]
 exact Ur (Ant ha)
theorem Cc {e:Expr}{t:TE}(h:PE X e t)(he:∀whole,isTrue e X.env whole=(do let v ←whole;standAt e.pos;holding [v] (truthy v)):=by intro _;rfl):PT X e (J6 t):=by
 rw [Gi]
 exact Aog h he
theorem Xu (ha:PT X a tA)(hb:PW X (.BoolOp .And (b::Eo) pos) tB'):PW X (.BoolOp .And (a::b::Eo) pos) (Alr tA tB'):=by
 rw [Aj3]
 exact Ald ha hb
theorem Os (ha:PT X a tA)(hb:PW X (.BoolOp .Or (b::Eo) pos) tB'):PW X (.BoolOp .Or (a::b::Eo) pos) (dOr tA tB'):=by
 rw [Am3]
 exact Apa ha hb
theorem Ss (ha:PE X a ta)(hb:PE X (.BoolOp .And (b::Eo) pos) tb):PE X (.BoolOp .And (a::b::Eo) pos) (Agy ta tb):=by
 rw [Ae1]
 exact Amm ha hb
theorem Akq (ha:PE X a ta):PE X (.UnaryOp .Not a pos) (Agx ta):=by
 rw [Ahd]
 exact Anc ha
theorem Yq {c:Expr}(hc:PT X c tA)(ha:PE X a ta)(hb:PE X b tb):PE X (.IfExp c a b pos) (dIf tA ta tb):=by
 rw [Aly]
 exact Afk hc ha hb
theorem B6 {c:Expr}{a b:List Stmt}{tc:TT}{t u:TS}(hc:PT X c tc)(ha:Nt X a t)(hb:Nt X b u):PS X (.If c a b pos) (Anu tc t u):=by
 rw [Air]
 exact Apj hc ha hb
def Asq (R:L2.St→Hp→Prop)(t u:TS):TS:=fun D σ H=>t { D with nx:=R } σ H∧∀σ' H',R σ' H'→u D σ' H'
theorem Y0 (R:L2.St→Hp→Prop){st:Stmt}{r:List Stmt}{t u:TS}(h1:PS X st t)(h2:Nt X r u):Nt X (st::r) (Asq R t u):=by
 intro pins s σ H D I h
 refine wpAny_execs_cons (Bi (h1 pins s σ H { D with nx:=R } I h.1) fun f s1 q=>?_)
 cases f with
 |next=>
  obtain ⟨σ',H',I',q⟩:=q
  exact h2 pins s1 σ' H' D I' (h.2 σ' H' q)
 |ret v=>exact q
 |brk=>exact q
 |cont=>exact q
structure A9 (P:HU)(w:HV)(K:KKf)(mg:Str→IA)(base:Heap)(x:Str)(ps:HW)(k:Nat)(sp:Sp):Prop where
 ex:∃(f:HR) (fd:FuncData),mg x=some (.ref f)∧PySem.W.keepIn K (.ref f)=true∧Ea K fd ps []∧Hh P w K mg base (Es P w) k f fd ps sp ∧
  ∃(oc:HP) (od:IB) (osl:Array (IA)),K.lookup f=some ⟨oc,od,.func fd,osl⟩
def Aa6 (sp:Sp)(t:TA):TE:=fun σ H Q=>t σ H fun vs H1=>sp vs H1 Q E0
theorem Aet (sp:Sp)(t:TA):Aa6 sp t=Yh sp [] E0 t:=by
 funext σ H Q
 unfold Aa6 Yh
 simp only [CG]
theorem Ue {x:Str}{ps:HW}{k k':Nat}{sp:Sp}{p:Pos}{e:Expr}{es:HZ}{t:TA}(C:A9 X.prog X.w X.K X.mg X.base x ps k sp)(hr:Bz k' X.A)(hk:k≤k')(hg:Gl X x)
  (ha:PA X (e::es) t) (hdb:(x==("__debug__":Str))=false:=by decide) (he:starEach (e::es) X.env=(false,eval e X.env)::starEach es X.env:=by rfl) (hpl:(backTo pos (starEach es X.env)).any (·.1)=false:=by rfl) :
  PE X (.Call (.Name x p) (e::es) [] pos) (Aa6 sp t):=by
 obtain ⟨f,fd,h1,h2,h3,h4,_⟩:=C.ex
 rw [Aet]
 exact Aa7 (h4.mono hk) hr hg h1 h2 h3 .nil Pi ha hdb he hpl
def Ly (xs:ID):Bool:=Nat.ble xs.length 1000
theorem W6 {xs:ID}(h:Ly xs=true):xs.length≤sizeLine:=AO (Nat.le_of_ble_eq_true h) (by decide)
def As3 (t:TA):TE:=fun σ H Q=>t σ H fun xs H1=>match Ly xs with
 |true=>∀p H',Ag H1 H'→H' p=some (.tup xs)→Q (.ref p) H'
 |false=>False
def Aq6 (t:TA):TE:=fun σ H Q=>t σ H fun xs H1=>match Ly xs with
 |true=>∀p H',Ag H1 H'→H' p=some (.lst xs)→Q (.ref p) H'
 |false=>False
theorem An {H:Hp}{p:HR}{o:HO}(h:H p=none):Ag H (upd H p o):=fun b u e=>by
 rw [Am (Bo e h)]
 exact e
theorem B8 {es:HZ}{t:TA}{x1}(h:PA X es t):PE X (.Tuple es x1 pos) (As3 t):=by
 intro pins s σ H Q I hq
 refine wpAny_Tuple_spliced (Bi (h pos pins s σ H _ I hq) fun us s1 ⟨xs,H1,I1,r,q⟩=>?_)
 cases hl:Ly xs with
 |false=>
  have q':(match Ly xs with|true=>_|false=>False:Prop):=q
  rw [hl] at q'
  exact q'.elim
 |true=>
  have z:=W6 hl
  have q':(match Ly xs with|true=>∀p H',Ag H1 H'→H' p=some (.tup xs)→Q (.ref p) H'|false=>False:Prop):=q
  rw [hl] at q'
  refine ⟨by rw [←r.length];exact z,?_⟩
  have hf:H1 s1.heap.objs.size=none:=I1.hok.fresh (AF _)
  refine ⟨.ref s1.heap.objs.size,upd H1 s1.heap.objs.size (.tup xs),I1.laid (t':=s1.toks) (fun b u e=>AB _ e) (AF _) ?_,rfl,q' _ _ (An hf) Ad⟩
  exact ⟨z,us,r,⟨_,AG _ rfl,rfl,_,rfl⟩⟩
theorem E5 {es:HZ}{t:TA}(h:PA X es t):PE X (.List es pos) (Aq6 t):=by
 intro pins s σ H Q I hq
 refine wpAny_List_spliced (Bi (h pos pins s σ H _ I hq) fun us s1 ⟨xs,H1,I1,r,q⟩=>?_)
 cases hl:Ly xs with
 |false=>
  have q':(match Ly xs with|true=>_|false=>False:Prop):=q
  rw [hl] at q'
  exact q'.elim
 |true=>
  have z:=W6 hl
  have q':(match Ly xs with|true=>∀p H',Ag H1 H'→H' p=some (.lst xs)→Q (.ref p) H'|false=>False:Prop):=q
  rw [hl] at q'
  refine ⟨by rw [←r.length];exact z,?_⟩
  have hf:H1 s1.heap.objs.size=none:=I1.hok.fresh (AF _)
  refine ⟨.ref s1.heap.objs.size,upd H1 s1.heap.objs.size (.lst xs),I1.laid (t':=s1.toks) (fun b u e=>AB _ e) (AF _) ?_,rfl,q' _ _ (An hf) Ad⟩
  exact ⟨z,us,0,r,AG _ rfl⟩
def Afl (xs:ID):Int→Option V
 |.ofNat n=>xs[n]?
 |.negSucc _=>none
theorem Aan {xs:ID}{i:Int}{v:V}(h:Afl xs i=some v):Q4 xs i=some v:=by
 cases i with
 |ofNat n=>exact A2 h
 |negSucc n=>cases h
def Ape:R2:=fun x y H Q=>match x,y with
 |.ref p,.int i=>∃xs,H p=some (.tup xs)∧match Afl xs i with
  |some v=>Q v H
  |none=>False
 |_,_=>False
def Ajs (K:KKf):R2:=fun x y H Q=>match x,y with
 |.ref p,.int i=>∃xs v,A1 K H p xs∧Q4 xs i=some v∧Q v H
 |_,_=>False
theorem Arl:IxR X Ape:=by
 intro value slice pins s σ H x y v u Q I rx ry h hs
 cases x<;>cases y<;>first
  |exact False.elim h
  | (obtain ⟨xs,e,q⟩:=h
     cases z:Afl xs _ with
     | none=>
       rw [z] at q
       exact q.elim
     | some w=>
       rw [z] at q
       exact Yu value slice pins s σ H _ _ v u Q I rx ry ⟨_,xs,_,w,rfl,rfl,D7.of e,Aan z,q⟩ hs)
theorem Ht:IxR X (Ajs X.K):=by
 intro value slice pins s σ H x y v u Q I rx ry h hs
 cases x<;>cases y<;>first
  |exact False.elim h
  | (obtain ⟨xs,w,e,z,q⟩:=h
     exact Ajp value slice pins s σ H _ _ v u Q I rx ry ⟨_,xs,_,w,rfl,rfl,e,z,q⟩ hs)
theorem Aah (T:String){x:Str}(hg:Gl X x)(hm:X.mg x=none)(hv:bootBuiltins x=some (.type T))(hn:x≠"__name__":=by decide)(hd:(x==("__debug__":Str))=false:=by decide):PE X (.Name x pos) (tC (.ty T)):=
 Aj0 hg hm hv rfl hn hd
def Asa:ID→Hp→VK→Prop:=fun xs H Q=>match xs with
 |[.int i]=>Q (.int (i.natAbs:Int)) H
 |_=>False
theorem Aku:Cy X (.builtin "abs") Asa:=by
 intro pins s σ H xs us Q I r h
 match xs,h with
 |[.int i],h=>
  have e:(if i<0 then -i else i)=(i.natAbs:Int):=by split<;>omega
  exact Age pins s σ H _ us Q I r ⟨i,rfl,by rw [e];exact h⟩
def As4 (K:KKf):ID→Hp→VK→Prop:=fun xs H Q=>match xs with
 |[.ref p]=>∃ys,(A1 K H p ys∨D7 K H p ys)∧Q (.int ys.length) H
 |[.str z]=>z.length≤sizeLine∧Q (.int z.length) H
 |_=>False
theorem C4:Cy X (.builtin "len") (As4 X.K):=by
 intro pins s σ H xs us Q I r h
 match xs,h with
 |[.ref p],⟨ys,h1,q⟩=>exact Ud pins s σ H _ us Q I r ⟨p,ys,rfl,h1,q⟩
 |[.str z],⟨h1,q⟩=>exact Ut pins s σ H _ us Q I r ⟨z,rfl,h1,q⟩
def tyB (t c:String):Option Bool:=
 if t=c then some true else if t="bool"∧c="int" then some true
 else if (t="int"∨t="bool"∨t="str"∨t="tuple"∨t="list"∨t="dict"∨t="NoneType")∧(c="int"∨c="bool"∨c="str"∨c="tuple"∨c="list") then some false else none
def An4:HO→Option String
 |.lst _=>some "list"
 |.frz _ (.lst _)=>some "list"
 |.tup _=>some "tuple"
 |.dK _=>some "dict"
 |.dT _=>some "dict"
 |_=>none
def Ass:ID→Hp→VK→Prop:=fun xs H Q=>match xs with
 |[.non,.ty c]=>∃b,tyB "NoneType" c=some b∧Q (.bl b) H
 |[.bl _,.ty c]=>∃b,tyB "bool" c=some b∧Q (.bl b) H
 |[.int _,.ty c]=>∃b,tyB "int" c=some b∧Q (.bl b) H
 |[.str _,.ty c]=>∃b,tyB "str" c=some b∧Q (.bl b) H
 |[.ref p,.ty c]=>∃u b t,H p=some u∧An4 u=some t∧tyB t c=some b∧Q (.bl b) H
 |_=>False
theorem Hk (K:KKf){t c:String}{b:Bool}(h:tyB t c=some b):PySem.W.kitOne K (.type t) (.type c)=some b:=by
 unfold tyB at h
 split at h
 ·rename_i e
  subst e
  cases h
  unfold PySem.W.kitOne
  rw [AN (by simp)]
 ·split at h
  ·rename_i e
   obtain ⟨rfl,rfl⟩:=e
   cases h
   kernel_rfl
  ·split at h
   ·rename_i e1 e2 e
    cases h
    obtain ⟨ht,hc⟩:=e
    rcases ht with rfl|rfl|rfl|rfl|rfl|rfl|rfl<;>rcases hc with rfl|rfl|rfl|rfl|rfl<;>first
     |exact absurd rfl e1
     |exact absurd ⟨rfl,rfl⟩ e2
     |kernel_rfl
   ·cases h
theorem S5:Cy X (.builtin "isinstance") Ass:=by
 intro pins s σ H xs us Q I r h
 match xs,h with
 |[.non,.ty c],⟨b,e,q⟩=>
  obtain ⟨u,w',rfl,r1,r2⟩:=Jk r
  cases (show w'=Value.type c from r2)
  exact E9 I r1 .non (Hk X.K e) fun tk=>⟨.bl b,H,I.tok _,rfl,q⟩
 |[.bl y,.ty c],⟨b,e,q⟩=>
  obtain ⟨u,w',rfl,r1,r2⟩:=Jk r
  cases (show w'=Value.type c from r2)
  exact E9 I r1 (.bl y) (Hk X.K e) fun tk=>⟨.bl b,H,I.tok _,rfl,q⟩
 |[.int y,.ty c],⟨b,e,q⟩=>
  obtain ⟨u,w',rfl,r1,r2⟩:=Jk r
  cases (show w'=Value.type c from r2)
  exact E9 I r1 (.int y) (Hk X.K e) fun tk=>⟨.bl b,H,I.tok _,rfl,q⟩
 |[.str y,.ty c],⟨b,e,q⟩=>
  obtain ⟨u,w',rfl,r1,r2⟩:=Jk r
  cases (show w'=Value.type c from r2)
  exact E9 I r1 (.str y) (Hk X.K e) fun tk=>⟨.bl b,H,I.tok _,rfl,q⟩
 | [.ref p,.ty c],⟨o,b,t,e1,e2,e,q⟩=>
  obtain ⟨u,w',rfl,r1,r2⟩:=Jk r
  cases (show w'=Value.type c from r2)
  have ty:Nq X.K H (.ref p) (.type t):=by
   cases o with
   |lst ys=>cases e2;exact .lst e1
   |tup ys=>cases e2;exact .tup e1
   |dK ys=>cases e2;exact .dK e1
   |dT ys=>cases e2;exact .dT e1
   |frz ob u=>
    cases u with
    |lst ys=>cases e2;exact .frz e1
    |_=>cases e2
   |_=>cases e2
  exact E9 I r1 ty (Hk X.K e) fun tk=>⟨.bl b,H,I.tok _,rfl,q⟩
end
section
variable {X:Cx}{pos:Pos}
def Amg (c:TT)(tb:TS):TS:=fun D σ H=>∃W:Nat→L2.St→Hp→Prop,(∃m,W m σ H)∧∀m σ H,W m σ H →
 c σ H fun b H1=>Br b (tb { D with nx:=fun σ' H'=>∃m',m'<m∧W m' σ' H',ct:=fun σ' H'=>∃m',m'<m∧W m' σ' H',bk:=D.nx } σ H1) (D.nx σ H1)
theorem Aby {c:Expr}{body:List Stmt}{tc:TT}{tb:TS}(hp:PassesOwn (model X.prog X.w) X.A X.env X.xe)(hc:PT X c tc)(hb:Nt X body tb):PS X (.While c body [] pos) (Amg tc tb):=by
 intro pins s σ H D I h
 obtain ⟨W,⟨m0,w0⟩,turn⟩:=h
 refine wpAny_While (codeAny_whileLoop (fun n s'=>∃σ' H',Ap X pins σ' H' s'∧W n σ' H') ?_ m0 ⟨σ,H,I,w0⟩)
 rintro n s1 ⟨σ1,H1,I1,w1⟩
 refine EI hp (Bi (hc pins s1 σ1 H1 _ I1 (turn n σ1 H1 w1)) fun b s2 ⟨H2,I2,q2⟩=>?_)
 cases b with
 | true=>
  have q2:=q2.1 rfl
  rw [AN rfl]
  refine EI hp (Bi (hb pins s2 σ1 H2 _ I2 q2) fun f s3 q3=>?_)
  cases f with
  |next=>
   obtain ⟨σ3,H3,I3,m',hm,w3⟩:=q3
   exact ⟨m',hm,σ3,H3,I3,w3⟩
  |cont=>
   obtain ⟨σ3,H3,I3,m',hm,w3⟩:=q3
   exact ⟨m',hm,σ3,H3,I3,w3⟩
  |brk=>exact q3
  |ret v=>exact q3
 |false=>
  rw [AI BA]
  exact GC ⟨σ1,H2,I2,q2.2 rfl⟩
end
structure Bj (K:KKf)(mg:Str→IA)(x:Str)(st:Stmt)(ps:HW):Prop where
 ex:∃(f:HR) (fd:FuncData),Fun K x x st f fd∧mg x=some (.ref f)∧Ea K fd ps []
section
variable {P:HU}{w:HV}{K:KKf}{mg:Str→IA}{base:Heap}
theorem Bj.calX {x:Str}{st:Stmt}{N ps:HW}{k:Nat}{sp:Sp}(d:Bj K mg x st ps)(S:Ah N ps (Ac st))(len:∀vs H Q E,sp vs H Q E→vs.length=ps.length)
  (hbody:∀(f:HR) (cdv:HP) (A:HS) (outer:List Env) (s:HQ) (H:Hp) (vs:ID) (Q:VK) (E:XK),Bz k (A.deeper (envOfC x (Ac st) s.heap.objs.size f cdv))→sp vs H Q E →
   ∃t,Nt (Co (Es P w) P w K mg base N x (Ac st) f cdv A outer s H E) (B9 st) t∧t { nx:=fun _ H'=>Q .non H',rt:=Q } (Hq N vs) H):A9 P w K mg base x ps (k+1) sp:=by
 obtain ⟨f,fd,F,hm,hb⟩:=d.ex
 obtain ⟨oc,od,kV,doc,pm,an,cdv,ct,osl,rfl,lk,hcd⟩:=F.ex
 exact ⟨f,_,hm,F.kp,hb,Aex lk hcd S len fun A outer s H vs Q E hr hsp=>hbody f cdv A outer s H vs Q E hr hsp,oc,od,osl,lk⟩
theorem Bj.cal {x:Str}{st:Stmt}{N ps:HW}{k:Nat}{sp:Sp}(d:Bj K mg x st ps)(S:Ah N ps (Ac st))(len:∀vs H Q E,sp vs H Q E→vs.length=ps.length)
  (hbody:∀(f:HR) (cdv:HP) (A:HS) (outer:List Env) (s:HQ) (H:Hp) (vs:ID) (Q:VK) (E:XK),Bz k (A.deeper (envOfC x (Ac st) s.heap.objs.size f cdv))→sp vs H Q E →
   ∃t,Nt (Co (Es P w) P w K mg base N x (Ac st) f cdv A outer s H E).nox (B9 st) t∧t { nx:=fun _ H'=>Q .non H',rt:=Q } (Hq N vs) H):A9 P w K mg base x ps (k+1) sp:=
 d.calX S len fun f cdv A outer s H vs Q E hr hsp=>by
  obtain ⟨t,h,q⟩:=hbody f cdv A outer s H vs Q E hr hsp
  exact ⟨t,h.nox,q⟩
end
theorem Zy {K:KKf}{H H':Hp}{a:HR}{xs:ID}(e:Ag H H')(h:D7 K H a xs):D7 K H' a xs:=by
 rcases h with (h|⟨o,h⟩)|h
 ·exact .inl (.inl (e _ _ h))
 ·exact .inl (.inr ⟨o,e _ _ h⟩)
 ·exact .inr h
mutual
inductive Rp (K:KKf)(H:Hp):V→PyData→Prop where
 |non:Rp K H .non .none
 |bl (b:Bool):Rp K H (.bl b) (.bool b)
 |int (i:Int):Rp K H (.int i) (.int i)
 |str (x:Str):Rp K H (.str x) (.str x)
 |tup {p:HR} {xs:ID} {ds:List PyData}:D7 K H p xs→Q8 K H xs ds→Rp K H (.ref p) (.tuple ds)
 |lst {p:HR} {xs:ID} {ds:List PyData}:A1 K H p xs→Q8 K H xs ds→Rp K H (.ref p) (.list ds)
inductive Q8 (K:KKf)(H:Hp):ID→List PyData→Prop where
 |nil:Q8 K H [] []
 |cons {v:V} {d:PyData} {vs:ID} {ds:List PyData}:Rp K H v d→Q8 K H vs ds→Q8 K H (v::vs) (d::ds)
end
mutual
theorem Rp.up {K:KKf}{H H':Hp}(s:Ag H H'):∀{v:V} {d:PyData},Rp K H v d→Rp K H' v d
 |_,_,.non=>.non
 |_,_,.bl b=>.bl b
 |_,_,.int i=>.int i
 |_,_,.str x=>.str x
 |_,_,.tup h r=>.tup (Zy s h) (Q8.up s r)
 |_,_,.lst h r=>.lst (s.seq h) (Q8.up s r)
theorem Q8.up {K:KKf}{H H':Hp}(s:Ag H H'):∀{v:ID} {d:List PyData},Q8 K H v d→Q8 K H' v d
 |_,_,.nil=>.nil
 |_,_,.cons h r=>.cons (Rp.up s h) (Q8.up s r)
end
section
variable {X:Cx}
mutual
theorem Rp.reads {pins:List (HR×Obj)}{σ:L2.St}{H:Hp}{s:HQ}(I:Ap X pins σ H s):∀{v:V} {d:PyData} {u:HP},Rp X.K H v d→L2.RelV v u→∃as,Reads s.heap u d as
 |_,_,_,.non,r=>by cases r;exact ⟨_,Reads.none⟩
 |_,_,_,.bl b,r=>by cases r;exact ⟨_,Reads.bool b⟩
 |_,_,_,.int i,r=>by obtain ⟨t,rfl⟩:=r;exact ⟨_,Reads.int i t⟩
 |_,_,_,.str i,r=>by obtain ⟨t,rfl⟩:=r;exact ⟨_,Reads.str i t⟩
 |_,_,_,.tup h q,r=>by
  cases r
  obtain ⟨its,rv,⟨o,e,c,n,dd⟩,_⟩:=I.tuple h
  obtain ⟨as,ra⟩:=Q8.reads I q rv
  exact ⟨as,reads_tuple_at e c dd (by simpa using ra)⟩
 |_,_,_,.lst h q,r=>by
  cases r
  obtain ⟨its,rv,⟨o,n,e,c,_,dd⟩,_⟩:=I.list h
  obtain ⟨as,ra⟩:=Q8.reads I q rv
  exact ⟨_,reads_list_at e c dd (by simpa using ra)⟩
theorem Q8.reads {pins:List (HR×Obj)}{σ:L2.St}{H:Hp}{s:HQ}(I:Ap X pins σ H s):∀{v:ID} {d:List PyData} {u:HY},Q8 X.K H v d→A6 v u→∃as,ReadsAll s.heap u d as
 |_,_,_,.nil,r=>by cases r;exact ⟨_,ReadsAll.nil⟩
 | _,_,_,.cons h q,r=>by
  cases r with
  |cons r1 r2=>
   obtain ⟨as,ra⟩:=Rp.reads I h r1
   obtain ⟨bs,rb⟩:=Q8.reads I q r2
   exact ⟨_,ReadsAll.cons ra rb⟩
end
def Ato (K:KKf):R2:=fun x y H Q=>∃d e,Rp K H x d∧Rp K H y e∧SeqAt.shaped d=true∧SeqAt.shaped e=true∧Q (.bl (PyData.eqv d e)) H
def Asl (K:KKf):R2:=fun x y H Q=>∃d e,Rp K H x d∧Rp K H y e∧SeqAt.shaped d=true∧SeqAt.shaped e=true∧Q (.bl (!PyData.eqv d e)) H
theorem X4 (hu:X.A.units+64<cLine):Dv X (compareOp .Eq) (Ato X.K):=by
 intro pins s σ H x y v u Q I rx ry q
 obtain ⟨d,e,h1,h2,h3,h4,q⟩:=q
 obtain ⟨as,r1⟩:=h1.reads I rx
 obtain ⟨bs,r2⟩:=h2.reads I ry
 exact PyProof.Rows.eq_dataH r1 r2 h3 h4 hu ⟨.bl _,H,I,rfl,q⟩
theorem Aky (hu:X.A.units+64<cLine):Dv X (compareOp .NotEq) (Asl X.K):=by
 intro pins s σ H x y v u Q I rx ry q
 obtain ⟨d,e,h1,h2,h3,h4,q⟩:=q
 obtain ⟨as,r1⟩:=h1.reads I rx
 obtain ⟨bs,r2⟩:=h2.reads I ry
 exact PyProof.Rows.ne_dataH r1 r2 h3 h4 hu ⟨.bl _,H,I,rfl,q⟩
end
end Lw
end
section
set_option exponentiation.threshold 5000
namespace Lw
open PySem PySem.Spec PyProof.Rows L2
def cell (ns:HX)(k:Int):Int:=if ns.length=0 then 0 else ns.getD (k % (ns.length:Int)).toNat 0
theorem A0 {n:Nat}{x:Int}(h:Nat.blt x.natAbs (2 ^ n)=true):Bd n x:=by
 unfold Bd
 exact AL (Nat.lt_of_succ_le (Nat.le_of_ble_eq_true h)) (AF _)
theorem Bd.mono {m n:Nat}{x:Int}(h:Bd m x)(l:m≤n):Bd n x:=AL h (Nat.pow_le_pow_right (by decide) l)
theorem Bd.mul {m n:Nat}{x y:Int}(h:Bd m x)(l:Bd n y):Bd (m+n) (x*y):=by
 unfold Bd at *
 rw [Int.natAbs_mul,Nat.pow_add]
 by_cases z:y.natAbs=0
 ·rw [z,Nat.mul_zero]
  exact Nat.mul_pos (Nat.pow_pos (by decide)) (Nat.pow_pos (by decide))
 ·exact AL (Nat.mul_lt_mul_of_pos_right h (Nat.pos_of_ne_zero z)) (Nat.mul_le_mul_left _ (DL l))
theorem Bd.add {n:Nat}{x y:Int}(h:Bd n x)(l:Bd n y):Bd (n+1) (x+y):=by
 unfold Bd at *
 have:=Int.natAbs_add_le x y
 rw [Nat.pow_succ]
 omega
theorem Bd.sub {n:Nat}{x y:Int}(h:Bd n x)(l:Bd n y):Bd (n+1) (x-y):=by
 unfold Bd at *
 have:(x-y).natAbs≤x.natAbs+y.natAbs:=by omega
 rw [Nat.pow_succ]
 omega
theorem Bd.neg {n:Nat}{x:Int}(h:Bd n x):Bd n (-x):=by
 unfold Bd at *
 omega
theorem Bd.of_le {n:Nat}{x y:Int}(h:Bd n y)(l:x.natAbs≤y.natAbs):Bd n x:=BO l h
theorem Dm {x b:Int}{n:Nat}(h1:-b≤x)(h2:x≤b)(h:Bd n b):Bd n x:=h.of_le (by omega)
def M9 (t b:Int):Int:=t / (Int.gcd t b:Int)
def K9 (t b:Int):Int:=b / (Int.gcd t b:Int)
theorem Qk (t b:Int):M9 t b*(Int.gcd t b:Int)=t:=Int.ediv_mul_cancel (Int.gcd_dvd_left ..)
theorem Lv (t b:Int):K9 t b*(Int.gcd t b:Int)=b:=Int.ediv_mul_cancel (Int.gcd_dvd_right ..)
theorem Adz (t b:Int):M9 t b*b=t*K9 t b:=by
 have h1:=Qk t b
 have h2:=Lv t b
 calc M9 t b*b=M9 t b*(K9 t b*(Int.gcd t b:Int)):=by rw [h2]
  _=(M9 t b*(Int.gcd t b:Int))*K9 t b:=by rw [EE (K9 t b),BD]
  _=t*K9 t b:=by rw [h1]
theorem Hl (x:Int)(g:Nat):(x / (g:Int)).natAbs≤x.natAbs:=Int.natAbs_ediv_le_natAbs x g
theorem Ajy {n:Nat}{t b:Int}(h:Bd n t):Bd n (M9 t b):=h.of_le (Hl ..)
theorem Aib {n:Nat}{t b:Int}(h:Bd n b):Bd n (K9 t b):=h.of_le (Hl ..)
structure Fq (n:Nat)(H:Hp)(p:HR)(a b:Int):Prop where
 at':H p=some (.tup [.int a,.int b])
 pos:0<b
 ba:Bd n a
 bb:Bd n b
theorem Fq.up {n:Nat}{H H':Hp}{p:HR}{a b:Int}(s:Ag H H')(h:Fq n H p a b):Fq n H' p a b:=⟨s _ _ h.at',h.pos,h.ba,h.bb⟩
theorem Fq.mono {m n:Nat}{H:Hp}{p:HR}{a b:Int}(h:Fq m H p a b)(l:m≤n):Fq n H p a b:=⟨h.at',h.pos,h.ba.mono l,h.bb.mono l⟩
abbrev Q2:=Int×Int
def ltQ (x y:Q2):Bool:=decide (x.1*y.2<y.1*x.2)
theorem Wg {m n:Nat}{i j:Int}(h:Bd m i)(h':Bd n j)(l:m≤4000)(l':n≤4000):COk i j:=.inl ⟨h.mono l,h'.mono l'⟩
structure Pq (n:Nat)(H:Hp)(r:HR)(lo:Q2)(hi:Option Q2):Prop where
 ex:∃l x,H r=some (.tup [.ref l,x])∧Fq n H l lo.1 lo.2∧(hi=none∧x=.non∨∃q y,hi=some y∧x=.ref q∧Fq n H q y.1 y.2)
theorem Ae9 (a b:Int):Int.gcd b (a.fmod b)=Int.gcd a b:=by
 rw [Int.fmod_def,Int.gcd_sub_mul_left_right,Int.gcd_comm]
theorem Aii (a:Int){b:Int}(h:b≠0):(a.fmod b).natAbs<b.natAbs:=by
 have e0:=CZ a h
 have e1:=Int.emod_lt a h
 rw [Int.fmod_eq_emod]
 by_cases c:0≤b∨b∣a
 ·rw [AN c]
  omega
 ·rw [AI c]
  have e2:a % b≠0:=fun z=>c (.inr (Int.dvd_of_emod_eq_zero z))
  have:¬0≤b:=fun z=>c (.inl z)
  omega
def Qz (t b:Int):Int:=if b<0 then -M9 t b else M9 t b
def Oj (t b:Int):Int:=if b<0 then -K9 t b else K9 t b
def dvs (t b:Int):Int:=if b<0 then -(Int.gcd t b:Int) else (Int.gcd t b:Int)
theorem Ts (t:Int){b:Int}(hb:b≠0):0<(Int.gcd t b:Int):=by
 have:0<Int.gcd t b:=Int.gcd_pos_of_ne_zero_right _ hb
 omega
theorem Alf (t:Int){b:Int}(hb:b≠0):dvs t b≠0:=by
 have:=Ts t hb
 unfold dvs
 split<;>omega
theorem Alq {n:Nat}(t:Int){b:Int}(hb:b≠0)(h:Bd n b):Bd n (dvs t b):=by
 have l:=Nat.le_of_dvd (by omega:0<b.natAbs) (show Int.gcd t b∣b.natAbs from Nat.gcd_dvd_right ..)
 refine h.of_le ?_
 unfold dvs
 split<;>omega
theorem Anw (t:Int){b:Int}(hb:b≠0):t.fdiv (dvs t b)=Qz t b:=by
 have g:=Ts t hb
 have h:=Qk t b
 unfold dvs Qz
 split
 ·have e:t=(-M9 t b)*(-(Int.gcd t b:Int)):=by rw [Int.neg_mul_neg];exact h.symm
  exact (congrArg (fun z=>z.fdiv (-(Int.gcd t b:Int))) e).trans (FZ _ (by omega))
 ·exact (congrArg (fun z=>z.fdiv (Int.gcd t b:Int)) h.symm).trans (FZ _ (by omega))
theorem Am8 (t:Int){b:Int}(hb:b≠0):b.fdiv (dvs t b)=Oj t b:=by
 have g:=Ts t hb
 have h:=Lv t b
 unfold dvs Oj
 split
 ·have e:b=(-K9 t b)*(-(Int.gcd t b:Int)):=by rw [Int.neg_mul_neg];exact h.symm
  exact (congrArg (fun z=>z.fdiv (-(Int.gcd t b:Int))) e).trans (FZ _ (by omega))
 ·exact (congrArg (fun z=>z.fdiv (Int.gcd t b:Int)) h.symm).trans (FZ _ (by omega))
theorem L4 (t:Int){b:Int}(hb:b≠0):0<Oj t b:=by
 have g:=Ts t hb
 have h:=Lv t b
 unfold Oj
 split
 ·refine Int.lt_of_not_ge fun c=>?_
  have:=Int.mul_nonneg (show 0≤K9 t b by omega) (Int.le_of_lt g)
  omega
 ·refine Int.lt_of_not_ge fun c=>?_
  have:=Int.mul_nonpos_of_nonpos_of_nonneg c (Int.le_of_lt g)
  omega
theorem W3 (t b:Int):Qz t b*b=t*Oj t b:=by
 have c:=Adz t b
 unfold Qz Oj
 split
 ·rw [Int.neg_mul,Int.mul_neg,c]
 ·exact c
theorem Ana (t:Int){b:Int}(hb:b≠0):Int.gcd (Qz t b) (Oj t b)=1:=by
 have c:Int.gcd (M9 t b) (K9 t b)=1:=Int.gcd_ediv_gcd_ediv_gcd_of_ne_zero_right hb
 unfold Qz Oj
 split
 ·rw [Int.gcd_neg,Int.neg_gcd]
  exact c
 ·exact c
theorem Vo {n:Nat}{t b:Int}(h:Bd n t):Bd n (Qz t b):=by
 have:=Ajy (b:=b) h
 unfold Qz
 split
 ·exact this.neg
 ·exact this
theorem Vp {n:Nat}{t b:Int}(h:Bd n b):Bd n (Oj t b):=by
 have:=Aib (t:=t) h
 unfold Oj
 split
 ·exact this.neg
 ·exact this
structure Adl (H:Hp)(p:HR)(t b:Int):Prop where
 at':H p=some (.tup [.int (Qz t b),.int (Oj t b)])
theorem Adl.fq {n:Nat}{H:Hp}{p:HR}{t b:Int}(h:Adl H p t b)(hb:b≠0)(h1:Bd n t)(h2:Bd n b):Fq n H p (Qz t b) (Oj t b):=⟨h.at',L4 t hb,Vo h1,Vp h2⟩
end Lw
end
section
namespace Lw
open PySem PySem.Spec PyProof.Rows L2
def Xa (kd:Bool)(h:Heap)(it l:HR)(k:Nat):Prop:=match kd with
 |true=>h.IsListIter it l k
 |false=>h.IsTupleIter it l k
def Rx (kd:Bool)(h:Heap)(l:HR)(xs:Array HP):Prop:=match kd with
 |true=>h.IsList l xs
 |false=>h.IsTuple l xs
def Xj (kd:Bool)(K:KKf)(H:Hp)(a:HR)(xs:ID):Prop:=match kd with
 |true=>A1 K H a xs
 |false=>D7 K H a xs
theorem Xa.ob {kd:Bool}{h:Heap}{it l:HR}{k:Nat}(x:Xa kd h it l k):∃o,h.get? it=some o∧∀v,o.data≠.cell v:=by
 cases kd with
 |true=>obtain ⟨o,e,_,d⟩:=x;exact ⟨o,e,fun v z=>by rw [d] at z;cases z⟩
 |false=>obtain ⟨o,e,_,d⟩:=x;exact ⟨o,e,fun v z=>by rw [d] at z;cases z⟩
theorem Xa.mv {kd:Bool}{h h':Heap}{it l:HR}{k:Nat}(x:Xa kd h it l k)(q:∀o,h.get? it=some o→h'.get? it=some o):Xa kd h' it l k:=by
 cases kd with
 |true=>obtain ⟨o,e,r⟩:=x;exact ⟨o,q o e,r⟩
 |false=>obtain ⟨o,e,r⟩:=x;exact ⟨o,q o e,r⟩
theorem Rx.mv {kd:Bool}{h h':Heap}{l:HR}{xs:Array HP}(x:Rx kd h l xs)(q:∀o,h.get? l=some o→h'.get? l=some o):Rx kd h' l xs:=by
 cases kd with
 |true=>obtain ⟨o,e,r⟩:=x;exact ⟨o,q o e,r⟩
 |false=>obtain ⟨o,e,r⟩:=x;exact ⟨o,q o e,r⟩
theorem Rx.lt {kd:Bool}{h:Heap}{l:HR}{xs:Array HP}(x:Rx kd h l xs):l<h.objs.size:=by
 cases kd with
 |true=>obtain ⟨o,e,r⟩:=x;exact AH e
 |false=>obtain ⟨o,e,r⟩:=x;exact AH e
section
variable {prog:HU}{w:HV}{A:HS}{E:HP→HQ→Prop}{s:HQ}
theorem Kz {kd:Bool}{it l:HR}{k:Nat}{xs:Array HP}{x:HP}{Q:HP→HQ→Prop}(h1:Xa kd s.heap it l k)(h2:Rx kd s.heap l xs)(hx:xs[k]? =some x)
  (q:∀g,Xa kd g it l (k+1)→Heap.SameBut it s.heap g→Q x { s with heap:=g }):wpAny (model prog w) A (Builtin.SmallTypes.nextOf (.ref it)) Q E s:=by
 cases kd with
 |true=>exact wpAny_nextOf_list_item h1 h2 hx q
 |false=>
  have h1':s.heap.IsTupleIter it l k:=h1
  obtain ⟨io,e1,c1,d1⟩:=id h1'
  obtain ⟨lo,e2,_,m2,d2⟩:=(show s.heap.IsTuple l xs from h2)
  have ty:=h1'.typeIs
  unfold Builtin.SmallTypes.nextOf;refine AA (CC (name:=Str.ofString "__next__") ty EL (wpAny_call_entry EL ty F.entry_tuple_iterator_next ?_ (F.args_tuple_iterator_next_1 _)))
  show wpAny _ _ (field (Value.ref it) 0 >>= _) _ _ _
  refine AA (CS e1 d1 (x:=.ref l) rfl ?_)
  show wpAny _ _ (if (Value.ref l==Value.none)=true then _ else _) _ _ _
  rw [AI (show ¬(Value.ref l==Value.none)=true from BA)]
  show wpAny _ _ (field (Value.ref it) 1 >>= _) _ _ _
  refine AA (CS e1 d1 (x:=.int k 0) rfl ?_)
  show wpAny _ _ (seqItems? (Value.ref l) >>= _) _ _ _
  refine AA (CV e2 d2 ?_)
  simp only [CY,hx]
  refine AA (DW e1 d1 (by simp) (AC ⟨x,rfl,AC (q _ ?_ (BU ..))⟩))
  refine ⟨_,CA _ e1 (EK (CL d1 _)),(GV ..).trans c1,?_⟩
  rw [CL d1]
  simp [rawInt]
theorem R0 {kd:Bool}{it l:HR}{k:Nat}{xs:Array HP}{Q:HP→HQ→Prop}(hh:A.handled=none)(h1:Xa kd s.heap it l k)(h2:Rx kd s.heap l xs)(hx:xs[k]? =none)
  (q:∀g e,Heap.ExtBut it s.heap g→(∃o,g.get? e=some o∧o.cls=.type "StopIteration")→E (.ref e) { s with heap:=g }):wpAny (model prog w) A (Builtin.SmallTypes.nextOf (.ref it)) Q E s:=by
 cases kd with
 |true=>exact wpAny_nextOf_list_end hh h1 h2 hx q
 |false=>
  have h1':s.heap.IsTupleIter it l k:=h1
  obtain ⟨io,e1,c1,d1⟩:=id h1'
  obtain ⟨lo,e2,_,m2,d2⟩:=(show s.heap.IsTuple l xs from h2)
  have ty:=h1'.typeIs
  unfold Builtin.SmallTypes.nextOf;refine AA (CC (name:=Str.ofString "__next__") ty EL (wpAny_call_entry EL ty F.entry_tuple_iterator_next ?_ (F.args_tuple_iterator_next_1 _)))
  show wpAny _ _ (field (Value.ref it) 0 >>= _) _ _ _
  refine AA (CS e1 d1 (x:=.ref l) rfl ?_)
  show wpAny _ _ (if (Value.ref l==Value.none)=true then _ else _) _ _ _
  rw [AI (show ¬(Value.ref l==Value.none)=true from BA)]
  show wpAny _ _ (field (Value.ref it) 1 >>= _) _ _ _
  refine AA (CS e1 d1 (x:=.int k 0) rfl ?_)
  show wpAny _ _ (seqItems? (Value.ref l) >>= _) _ _ _
  refine AA (CV e2 d2 ?_)
  simp only [CY,hx]
  refine AA (GL (AA (DW e1 d1 (by simp) ?_)));show wpAny _ _ (newExc (.type "StopIteration") [] >>= _) _ _ _;refine AA ?_;simp only [newExc,newTuple]
  refine AA (BS ?_ (by size_fits));refine AA (m:=firstArgMember _ _) (wpAny_of_eq (a:=Value.none) (by first|rfl|(simp only [firstArgMember];rfl)) ?_)
  refine BS ?_ (by size_fits);simp only [raiseNew];refine AA (wpAny_handled ?_);first|rw [show A.in1.handled=none from hh]|rw [hh]
  refine AA (AC (wpAny_throw ?_))
  exact q _ _ (((BU ..).extBut.push _).push _) ⟨_,AG _ rfl,rfl⟩
structure ZAt (k1 k2:Bool)(z TI TO i1 i2 l1 l2:HR)(n:Nat)(h:Heap):Prop where
 z:IsZip h z TI TO .none
 ti:IsPair h TI (.ref i1) (.ref i2)
 to:∃a b,IsPair h TO a b
 a:Xa k1 h i1 l1 n
 b:Xa k2 h i2 l2 n
theorem Adp {k1 k2:Bool}{z TI TO i1 i2 l1 l2:HR}{n:Nat}{xs ys:Array HP}{x y:HP}{Q:IA→HQ→Prop}(D:ZipApart z TI TO i1 i2 l1 l2)(Z:ZAt k1 k2 z TI TO i1 i2 l1 l2 n s.heap)
  (hl1:Rx k1 s.heap l1 xs) (hl2:Rx k2 s.heap l2 ys) (hx:xs[n]? =some x) (hy:ys[n]? =some y)
  (q:∀g,IsZip g z TI TO (rawInt s.heap.objs.size)→IsPair g TO x y→Xa k1 g i1 l1 (n+1)→Xa k2 g i2 l2 (n+1)→IsPair g s.heap.objs.size x y →
   (∀c o,c≠z→c≠TO→c≠i1→c≠i2→s.heap.get? c=some o→g.get? c=some o)→Q (some (.ref s.heap.objs.size)) { s with heap:=g }) :
  wpAny (model prog w) A (pyNext (.ref z)) Q E s:=by
 obtain ⟨Zz,Zi,⟨a,b,Zo⟩,Za,Zb⟩:=Z
 have hT:s.TypeIs (.ref z) "zip":=⟨_,Zz,rfl⟩
 unfold pyNext;refine AA (wpAny_attempt (CC (name:=Str.ofString "__next__") hT HG (wpAny_call_entry HG hT F.entry_zip_next ?_ (F.args_zip_next_1 _))))
 show wpAny _ _ (field (Value.ref z) 2 >>= _) _ _ _
 refine AA (CS Zz rfl (x:=.bool false) rfl ?_)
 show wpAny _ _ (field (Value.ref z) 3 >>= _) _ _ _
 refine AA (CS Zz rfl (x:=.ref TI) rfl ?_)
 refine AA (CV Zi rfl ?_)
 show wpAny _ _ (Builtin.SmallTypes.ownedTupleIsFree (Value.ref z) >>= _) _ _ _
 refine AA ?_;unfold Builtin.SmallTypes.ownedTupleIsFree
 refine AA (CS Zz rfl (x:=.none) rfl (AC ?_));simp only [FP];refine AA (GL ?_)
 refine AA (CS Zz rfl (x:=.ref TO) rfl ?_)
 refine AA (EF Zz (by simp) fun g1 z1 s1=>?_)
 have z1:IsZip g1 z TI TO .ellipsis:=z1
 refine AA ?_;simp only [List.zipIdx_cons,List.zipIdx_nil,List.forIn_cons,List.forIn_nil]
 refine AA (AA (wpAny_onRaise ?_));show wpAny _ _ (Builtin.SmallTypes.nextOf (Value.ref i1) >>= _) _ _ _
 refine AA (Kz (Za.mv fun o e=>s1.extBut _ _ D.i1z e) (hl1.mv fun o e=>s1.extBut _ _ D.l1z e) hx fun g2 a2 s2=>AC ?_)
 have o2:IsPair g2 TO a b:=s2.extBut _ _ D.TOi1 (s1.extBut _ _ D.TOz Zo)
 refine AA (CV o2 rfl ?_)
 refine AA (wpAny_updateSeq_pair o2 fun g3 o3 s3=>?_)
 have o3:IsPair g3 TO x b:=o3
 refine AA (wpAny_letGo (AC ?_))
 refine AA (AA (wpAny_onRaise ?_));show wpAny _ _ (Builtin.SmallTypes.nextOf (Value.ref i2) >>= _) _ _ _
 refine AA (Kz (Zb.mv fun o e=>s3.extBut _ _ D.TOi2.symm (s2.extBut _ _ D.i12.symm (s1.extBut _ _ D.i2z e))) (hl2.mv fun o e=>s3.extBut _ _ D.l2TO (s2.extBut _ _ D.l2i1 (s1.extBut _ _ D.l2z e))) hy fun g4 a4 s4=>AC ?_)
 have o4:IsPair g4 TO x b:=s4.extBut _ _ D.TOi2 o3
 refine AA (CV o4 rfl ?_)
 refine AA (wpAny_updateSeq_pair o4 fun g5 o5 s5=>?_)
 have o5:IsPair g5 TO x y:=o5
 refine AA (wpAny_letGo (AC (AC ?_)))
 refine AA (CV o5 rfl ?_)
 refine AA (wpAny_newTuple ?_)
 have sz:g5.objs.size=s.heap.objs.size:=by rw [s5.1,s4.1,s3.1,s2.1,s1.1]
 have z5:IsZip g5 z TI TO .ellipsis:=s5.extBut _ _ D.TOz.symm (s4.extBut _ _ D.i2z.symm (s3.extBut _ _ D.TOz.symm (s2.extBut _ _ D.i1z.symm z1)))
 have kp:∀c o,c≠z→c≠TO→c≠i1→c≠i2→s.heap.get? c=some o→g5.get? c=some o:=fun c o n1 n2 n3 n4 e=>s5.extBut _ _ n2 (s4.extBut _ _ n4 (s3.extBut _ _ n2 (s2.extBut _ _ n3 (s1.extBut _ _ n1 e))))
 have a5:Xa k1 g5 i1 l1 (n+1):=a2.mv fun o e=>s5.extBut _ _ D.TOi1.symm (s4.extBut _ _ D.i12 (s3.extBut _ _ D.TOi1.symm e))
 have b5:Xa k2 g5 i2 l2 (n+1):=a4.mv fun o e=>s5.extBut _ _ D.TOi2.symm e
 have zlt:z<g5.objs.size:=AH z5
 show wpAny _ _ (Builtin.SmallTypes.ownedTupleHandOut (Value.ref z) (Value.ref g5.objs.size) >>= _) _ _ _
 refine AA ?_;unfold Builtin.SmallTypes.ownedTupleHandOut
 have z6:IsZip (g5.push { cls:=.type "tuple",data:=.seq #[x,y] }) z TI TO .ellipsis:=AB _ z5
 refine AA (EF z6 (by simp) fun g7 z7 s7=>?_)
 have z7:IsZip g7 z TI TO (rawInt g5.objs.size):=z7
 refine EF z7 (by simp) fun g8 z8 s8=>?_
 have z8:IsZip g8 z TI TO (rawInt g5.objs.size):=z8
 have up:∀c o,c≠z→g5.get? c=some o→g8.get? c=some o:=fun c o n1 e=>s8.extBut _ _ n1 (s7.extBut _ _ n1 (AB _ e))
 have t8:IsPair g8 g5.objs.size x y:=s8.extBut _ _ (CQ zlt) (s7.extBut _ _ (CQ zlt) (AG _ rfl))
 rw [sz] at z8 t8
 refine AC ⟨_,rfl,?_⟩
 show wpAny _ _ (pure (some (Value.ref g5.objs.size))) _ _ _
 rw [sz]
 exact AC (q g8 z8 (up _ _ D.TOz o5) (a5.mv fun o e=>up _ o D.i1z e) (b5.mv fun o e=>up _ o D.i2z e) t8 fun c o n1 n2 n3 n4 e=>up c o n1 (kp c o n1 n2 n3 n4 e))
theorem Aho {k1 k2:Bool}{z TI TO i1 i2 l1 l2:HR}{n:Nat}{xs ys:Array HP}{Q:IA→HQ→Prop}(hh:A.handled=none)(D:ZipApart z TI TO i1 i2 l1 l2)(Z:ZAt k1 k2 z TI TO i1 i2 l1 l2 n s.heap)
  (hl1:Rx k1 s.heap l1 xs) (hl2:Rx k2 s.heap l2 ys) (hend:xs[n]? =none∨ys[n]? =none)
  (q:∀g,(∀c o,c≠z→c≠TO→c≠i1→c≠i2→s.heap.get? c=some o→g.get? c=some o)→Q none { s with heap:=g }):wpAny (model prog w) A (pyNext (.ref z)) Q E s:=by
 obtain ⟨Zz,Zi,⟨a,b,Zo⟩,Za,Zb⟩:=Z
 have hT:s.TypeIs (.ref z) "zip":=⟨_,Zz,rfl⟩
 unfold pyNext;refine AA (wpAny_attempt (CC (name:=Str.ofString "__next__") hT HG (wpAny_call_entry HG hT F.entry_zip_next ?_ (F.args_zip_next_1 _))))
 show wpAny _ _ (field (Value.ref z) 2 >>= _) _ _ _
 refine AA (CS Zz rfl (x:=.bool false) rfl ?_)
 show wpAny _ _ (field (Value.ref z) 3 >>= _) _ _ _
 refine AA (CS Zz rfl (x:=.ref TI) rfl ?_)
 refine AA (CV Zi rfl ?_)
 show wpAny _ _ (Builtin.SmallTypes.ownedTupleIsFree (Value.ref z) >>= _) _ _ _
 refine AA ?_;unfold Builtin.SmallTypes.ownedTupleIsFree
 refine AA (CS Zz rfl (x:=.none) rfl (AC ?_));simp only [FP];refine AA (GL ?_)
 refine AA (CS Zz rfl (x:=.ref TO) rfl ?_)
 refine AA (EF Zz (by simp) fun g1 z1 s1=>?_)
 have z1:IsZip g1 z TI TO .ellipsis:=z1
 refine AA ?_;simp only [List.zipIdx_cons,List.zipIdx_nil,List.forIn_cons,List.forIn_nil]
 refine AA (AA (wpAny_onRaise ?_));show wpAny _ _ (Builtin.SmallTypes.nextOf (Value.ref i1) >>= _) _ _ _
 cases hx:xs[n]? with
 |none=>
  refine AA (R0 hh (Za.mv fun o e=>s1.extBut _ _ D.i1z e) (hl1.mv fun o e=>s1.extBut _ _ D.l1z e) hx fun g2 e s2 ⟨oe,he,ce⟩=>?_)
  have z2:IsZip g2 z TI TO .ellipsis:=s2 _ _ D.i1z.symm z1
  have ne:e≠z:=fun x=>by subst x;rw [z2] at he;cases he;simp at ce
  refine EF z2 (by simp) fun g3 _ s3=>?_
  exact AA (EU (T:="StopIteration") (b:=true) ⟨oe,s3.extBut _ _ ne he,ce⟩ isSubtype_stop (AC (q g3 fun c o n1 _ n3 _ x=>s3.extBut _ _ n1 (s2 _ _ n3 (s1.extBut _ _ n1 x)))))
 |some x=>
  have hy:ys[n]? =none:=by rcases hend with h|h;rw [hx] at h;cases h;exact h
  refine AA (Kz (Za.mv fun o e=>s1.extBut _ _ D.i1z e) (hl1.mv fun o e=>s1.extBut _ _ D.l1z e) hx fun g2 a2 s2=>AC ?_)
  have o2:IsPair g2 TO a b:=s2.extBut _ _ D.TOi1 (s1.extBut _ _ D.TOz Zo)
  refine AA (CV o2 rfl ?_)
  refine AA (wpAny_updateSeq_pair o2 fun g3 o3 s3=>?_)
  refine AA (wpAny_letGo (AC ?_))
  refine AA (AA (wpAny_onRaise ?_));show wpAny _ _ (Builtin.SmallTypes.nextOf (Value.ref i2) >>= _) _ _ _
  refine AA (R0 hh (Zb.mv fun o e=>s3.extBut _ _ D.TOi2.symm (s2.extBut _ _ D.i12.symm (s1.extBut _ _ D.i2z e))) (hl2.mv fun o e=>s3.extBut _ _ D.l2TO (s2.extBut _ _ D.l2i1 (s1.extBut _ _ D.l2z e))) hy fun g4 e s4 ⟨oe,he,ce⟩=>?_)
  have z4:IsZip g4 z TI TO .ellipsis:=s4 _ _ D.i2z.symm (s3.extBut _ _ D.TOz.symm (s2.extBut _ _ D.i1z.symm z1))
  have ne:e≠z:=fun x=>by subst x;rw [z4] at he;cases he;simp at ce
  refine EF z4 (by simp) fun g5 _ s5=>?_
  exact AA (EU (T:="StopIteration") (b:=true) ⟨oe,s5.extBut _ _ ne he,ce⟩ isSubtype_stop (AC (q g5 fun c o n1 n2 n3 n4 x=>s5.extBut _ _ n1 (s4 _ _ n4 (s3.extBut _ _ n2 (s2.extBut _ _ n3 (s1.extBut _ _ n1 x)))))))
def itO (kd:Bool)(l:HR):Obj:=match kd with
 |true=>{ cls:=.type "list_iterator",data:=.fields #[.ref l,.int 0 0] }
 |false=>{ cls:=.type "tuple_iterator",data:=.fields #[.ref l,.int 0 0] }
theorem Akt {kd:Bool}{l:HR}{xs:Array HP}{Q:HP→HQ→Prop}(h:Rx kd s.heap l xs)(q:Q (.ref s.heap.objs.size) { s with heap:=s.heap.push (itO kd l) }):wpAny (model prog w) A (pyIter (.ref l)) Q E s:=by
 cases kd with
 |true=>exact GU h q
 |false=>exact wpAny_pyIter_tuple h q
theorem Ae7 {kd:Bool}{h:Heap}{i l:HR}(e:h.get? i=some (itO kd l)):Xa kd h i l 0:=by
 cases kd with
 |true=>exact ⟨_,e,rfl,rfl⟩
 |false=>exact ⟨_,e,rfl,rfl⟩
end
abbrev zK1 (k1:Bool)(h:Heap)(l1:HR):Heap:=h.push (itO k1 l1)
abbrev zK2 (k1 k2:Bool)(h:Heap)(l1 l2:HR):Heap:=(zK1 k1 h l1).push (itO k2 l2)
abbrev zK3 (k1 k2:Bool)(h:Heap)(l1 l2:HR):Heap:=(zK2 k1 k2 h l1 l2).push { cls:=.type "tuple",data:=.seq #[.ref h.objs.size,.ref (zK1 k1 h l1).objs.size] }
abbrev zK4 (k1 k2:Bool)(h:Heap)(l1 l2:HR):Heap:=(zK3 k1 k2 h l1 l2).push { cls:=.type "tuple",data:=.seq #[.none,.none] }
abbrev zK5 (k1 k2:Bool)(h:Heap)(l1 l2:HR):Heap:=(zK4 k1 k2 h l1 l2).push { cls:=.type "zip",data:=.fields #[.none,.bool false,.bool false,.ref (zK2 k1 k2 h l1 l2).objs.size,.ref (zK3 k1 k2 h l1 l2).objs.size] }
theorem Ae4 (k1 k2:Bool)(l1 l2:HR)(xs ys:Array HP) :
  Meets (Builtin.«zip.__new__» ⟨[.type "zip",.ref l1,.ref l2],[]⟩) (fun _ R s=>Rx k1 s.heap l1 xs∧Rx k2 s.heap l2 ys∧R (.ok (.ret (.ref (zK4 k1 k2 s.heap l1 l2).objs.size))) { s with heap:=zK5 k1 k2 s.heap l1 l2 }):=
 .of_wp fun prog w A R s h=>by
  obtain ⟨hp,g,d,tk,os⟩:=s;obtain ⟨a1,a2,h⟩:=h
  have hsub:=sub_zip
  have b1:Rx k1 (Shared.heap ⟨hp,g,d,tk,os⟩) l1 xs:=a1
  have b2:Rx k2 (Shared.heap ⟨hp.push (itO k1 l1),g,d,tk,os⟩) l2 ys:=a2.mv fun o e=>AB _ e
  wp_walk using Akt b1,Akt b2
  exact ⟨_,rfl,h⟩
section
variable {prog:HU}{w:HV}{A:HS}{E:HP→HQ→Prop}{s:HQ}
theorem Adc {k1 k2:Bool}{l1 l2:HR}{xs ys:Array HP}{Q:HP→HQ→Prop}(h1:Rx k1 s.heap l1 xs)(h2:Rx k2 s.heap l2 ys)
  (q:∀g,ZAt k1 k2 (s.heap.objs.size+4) (s.heap.objs.size+2) (s.heap.objs.size+3) s.heap.objs.size (s.heap.objs.size+1) l1 l2 0 g→(∀c o,s.heap.get? c=some o→g.get? c=some o)→Q (.ref (s.heap.objs.size+4)) { s with heap:=g }) :
  wpAny (model prog w) A (call (.type "zip") [.ref l1,.ref l2]) Q E s:=by
 refine callType_new F.called_zip (by decide) (F.typeCall_zip_2 _ _) (F.newCall_zip_2 _ _) (fun obj=>F.args_object_init_3 obj _ _) F.entry_zip_new (Ae4 k1 k2 l1 l2 xs ys) ⟨h1,h2,?_⟩
 have m1:(zK1 k1 s.heap l1).objs.size=s.heap.objs.size+1:=BW ..
 have m2:(zK2 k1 k2 s.heap l1 l2).objs.size=s.heap.objs.size+2:=by rw [BW,m1]
 have m3:(zK3 k1 k2 s.heap l1 l2).objs.size=s.heap.objs.size+3:=by rw [BW,m2]
 have m4:(zK4 k1 k2 s.heap l1 l2).objs.size=s.heap.objs.size+4:=by rw [BW,m3]
 have fz:∀l,(itO k1 l).isFreed=false:=fun l=>by cases k1<;>rfl
 have fz2:∀l,(itO k2 l).isFreed=false:=fun l=>by cases k2<;>rfl
 have g5:(zK5 k1 k2 s.heap l1 l2).get? (zK4 k1 k2 s.heap l1 l2).objs.size=some _:=AG _ rfl
 have g4:(zK5 k1 k2 s.heap l1 l2).get? (zK3 k1 k2 s.heap l1 l2).objs.size=some _:=AB _ (AG _ rfl)
 have g3:(zK5 k1 k2 s.heap l1 l2).get? (zK2 k1 k2 s.heap l1 l2).objs.size=some _:=AB _ (AB _ (AG _ rfl))
 have g2:(zK5 k1 k2 s.heap l1 l2).get? (zK1 k1 s.heap l1).objs.size=some (itO k2 l2):=AB _ (AB _ (AB _ (AG _ (fz2 _))))
 have g1:(zK5 k1 k2 s.heap l1 l2).get? s.heap.objs.size=some (itO k1 l1):=AB _ (AB _ (AB _ (AB _ (AG _ (fz _)))))
 show _∧_
 rw [m2,m3,m4] at g5
 rw [m1,m2] at g3
 rw [m3] at g4
 rw [m1] at g2
 rw [m4]
 exact ⟨⟨_,g5,rfl⟩,q _ ⟨g5,g3,⟨_,_,g4⟩,Ae7 g1,Ae7 g2⟩ fun c o x=>AB _ (AB _ (AB _ (AB _ (AB _ x))))⟩
end
section
variable {X:Cx}
theorem M4 {pins:List (HR×Obj)}{σ:L2.St}{H:Hp}{s:HQ}{h':Heap}{t':Nat}{fp:List HR}(I:Ap X pins σ H s)(k:∀b o,b∉fp→s.heap.get? b=some o→h'.get? b=some o)(hf:∀b∈fp,Ll X pins H b) :
  Ap X pins σ H { s with heap:=h',toks:=t' }:=by
 have nit:∀b u,H b=some u→b∉fp:=fun b u e z=>by rw [(hf b z).1] at e;cases e
 refine I.step (g':=s.gens) (d':=s.drawn) (ch:=fp) (fun b hb=>?_) (fun b o _ _ hc e _=>k b o hc e) (fun b o _ _ hc e _=>⟨o.slots,k b o hc e⟩) (fun _ _ _ _ n=>n) (fun b o hc e=>⟨o,k b o hc e⟩) (fun _ _ e=>e) (fun _ _ _ e=>e)
  (fun b ps e=>⟨#[],by rw [e];simp⟩) (fun m hm=>?_) (fun b u e=>?_) I.bare
 ·obtain ⟨_,f1,f2,f3,f4,f5⟩:=hf b hb
  exact ⟨f3,f1,f4,f5⟩
 ·obtain ⟨o,es,ep,ho,r⟩:=hm
  exact ⟨o,es,ep,k _ o (fun z=>(hf _ z).2.1 rfl) ho,r⟩
 ·refine (I.hok b u e).stay (fun c v hc q=>k c v ?_ q) (fun _ q=>q) fun _ _ q=>q
  rcases hc with z|z
  ·rw [z];exact nit b u e
  ·exact nit c _ z
theorem Zh {pins:List (HR×Obj)}{σ:L2.St}{H:Hp}{s:HQ}{h':Heap}{t':Nat}{fp:List HR}{a:HR}{o:HO}(I:Ap X pins σ H s)(k:∀b o,b∉fp→s.heap.get? b=some o→h'.get? b=some o)(hf:∀b∈fp,Ll X pins H b)
  (hp:s.heap.objs.size≤a) (new:Bf X.prog X.w (upd H a o) h' a o):Ap X pins σ (upd H a o) { s with heap:=h',toks:=t' }:=by
 have hn:=I.hok.fresh hp
 have nit:∀b u,H b=some u→b∉fp:=fun b u e z=>by rw [(hf b z).1] at e;cases e
 have old:∀b u,H b=some u→upd H a o b=some u:=fun b u e=>by rw [Am (Bo e hn)];exact e
 refine I.step (g':=s.gens) (d':=s.drawn) (ch:=fp) (fun b hb=>?_) (fun b o _ _ hc e _=>k b o hc e) (fun b o _ _ hc e _=>⟨o.slots,k b o hc e⟩) (fun b u _ e n=>?_) (fun b o hc e=>⟨o,k b o hc e⟩) (fun b xs e=>old b _ e) (fun b ob u e=>old b _ e)
  (fun b ps e=>⟨#[],by rw [old b _ e];simp⟩) (fun m hm=>?_) (fun b u e=>?_) I.bare
 ·obtain ⟨_,f1,f2,f3,f4,f5⟩:=hf b hb
  exact ⟨f3,f1,f4,f5⟩
 ·rw [Am (AS (AL (AH e) hp))]
  exact n
 ·obtain ⟨o,es,ep,ho,r⟩:=hm
  exact ⟨o,es,ep,k _ o (fun z=>(hf _ z).2.1 rfl) ho,r⟩
 ·by_cases hb:b=a
  ·subst hb;rw [Ad] at e;cases e;exact new
  ·rw [Am hb] at e
   refine (I.hok b u e).stay (fun c v hc q=>k c v ?_ q) (fun c q=>old c _ q) fun c xs q=>old c _ q
   rcases hc with z|z
   ·rw [z];exact nit b u e
   ·exact nit c _ z
theorem M0 {kd:Bool}{pins:List (HR×Obj)}{σ:L2.St}{H:Hp}{s:HQ}{a:HR}{xs:ID}(I:Ap X pins σ H s)(h:Xj kd X.K H a xs):∃its:HY,A6 xs its∧Rx kd s.heap a its.toArray:=by
 cases kd with
 |true=>obtain ⟨its,r,p,_⟩:=I.list h;exact ⟨its,r,p.isList⟩
 |false=>obtain ⟨its,r,p,_⟩:=I.tuple h;exact ⟨its,r,p⟩
theorem Ag6 {kd:Bool}{pins:List (HR×Obj)}{σ:L2.St}{H:Hp}{s:HQ}{a:HR}{xs ys:ID}(I:Ap X pins σ H s)(h:Xj kd X.K H a xs)(h':Xj kd X.K H a ys):xs=ys:=by
 cases kd with
 |true=>exact I.list_inj h h'
 |false=>exact I.tuple_inj h h'
def Itz (k1 k2:Bool)(K:KKf)(a b:HR):It:=
 ⟨fun i H=>∃xs ys x y,Xj k1 K H a xs∧Xj k2 K H b ys∧xs[i]? =some x∧ys[i]? =some y,
  fun i H v H'=>∃t x y,v=.ref t∧H t=none∧H'=upd H t (.tup [x,y])∧(∀xs,Xj k1 K H a xs→xs[i]? =some x)∧∀ys,Xj k2 K H b ys→ys[i]? =some y,
  fun i H=>∃xs ys,Xj k1 K H a xs∧Xj k2 K H b ys∧(xs.length≤i∨ys.length≤i)⟩
theorem Ac2 {n l1 l2:Nat}(h1:l1<n)(h2:l2<n):ZipApart (n+4) (n+2) (n+3) n (n+1) l1 l2:=by
 constructor<;>(show @Ne Nat _ _)<;>omega
theorem Aeh {P:HU}{w:HV}{K:KKf}{es:HZ}{x1}{pos:Pos}{k1 k2:Bool}{z TI TO i1 i2 a b:HR}(D:ZipApart z TI TO i1 i2 a b) :
  Wx P w K (.Tuple es x1 pos) (Itz k1 k2 K a b) [z,TI,TO,i1,i2] z (ZAt k1 k2 z TI TO i1 i2 a b) where
 mem:=by simp
 obj:=fun i h Z c hc=>by
  have hc:c=z∨c=TI∨c=TO∨c=i1∨c=i2:=by simpa using hc
  rcases hc with rfl|rfl|rfl|rfl|rfl
  ·exact ⟨_,Z.z,fun v e=>by cases e⟩
  ·exact ⟨_,Z.ti,fun v e=>by cases e⟩
  ·obtain ⟨u,v,e⟩:=Z.to
   exact ⟨_,e,fun v e=>by cases e⟩
  ·exact Z.a.ob
  ·exact Z.b.ob
 keep:=fun i h h' Z k=>by
  obtain ⟨u,v,e⟩:=Z.to
  exact ⟨k z (by simp) _ Z.z,k TI (by simp) _ Z.ti,⟨u,v,k TO (by simp) _ e⟩,Z.a.mv fun o q=>k i1 (by simp) o q,Z.b.mv fun o q=>k i2 (by simp) o q⟩
 item:=by
  intro X hP hw hK hc i pins s σ H E I hf Z hg
  subst hP hw hK
  obtain ⟨xs,ys,x,y,q1,q2,e1,e2⟩:=hg
  obtain ⟨us,r1,p1⟩:=M0 I q1
  obtain ⟨vs,r2,p2⟩:=M0 I q2
  obtain ⟨u,hu,ru⟩:=r1.get e1
  obtain ⟨v,hv,rv⟩:=r2.get e2
  have F:=fun c (m:c∈[z,TI,TO,i1,i2])=>hf c m
  have hfr:H s.heap.objs.size=none:=I.hok.fresh (AF _)
  refine Adp D Z p1 p2 (x:=u) (y:=v) (by simpa using hu) (by simpa using hv) fun g a1 a2 a3 a4 a5 kp=>⟨_,rfl,?_⟩
  have zlt:z<s.heap.objs.size:=AH Z.z
  have tlt:TO<s.heap.objs.size:=by obtain ⟨_,_,e⟩:=Z.to;exact AH e
  have ilt:i1<s.heap.objs.size:=by obtain ⟨_,e,_⟩:=Z.a.ob;exact AH e
  have jlt:i2<s.heap.objs.size:=by obtain ⟨_,e,_⟩:=Z.b.ob;exact AH e
  refine wpAny_letOwnedTupleGo_zip (s:={ s with heap:=g }) a1 fun g' z' s'=>?_
  have kp':∀c o,c≠z→c≠TO→c≠i1→c≠i2→s.heap.get? c=some o→g'.get? c=some o:=fun c o n1 n2 n3 n4 e=>s'.extBut _ _ n1 (kp c o n1 n2 n3 n4 e)
  have a5':IsPair g' s.heap.objs.size u v:=s'.extBut _ _ (CQ zlt) a5
  have I1:Ap X pins σ (upd H s.heap.objs.size (.tup [x,y])) { s with heap:=g' }:=by
   refine Zh I (fp:=[z,TO,i1,i2]) (fun c o hc e=>kp' c o (fun x=>hc (by simp [x])) (fun x=>hc (by simp [x])) (fun x=>hc (by simp [x])) (fun x=>hc (by simp [x])) e) ?_ (AF _) ?_
   ·intro c hc
    exact hf c (by simp at hc ⊢;rcases hc with h|h|h|h<;>simp [h])
   ·exact ⟨by show 2≤sizeLine;decide,[u,v],.cons ru (.cons rv .nil),⟨_,a5',rfl,_,rfl⟩⟩
  refine ⟨.ref s.heap.objs.size,_,I1,rfl,⟨_,x,y,rfl,hfr,rfl,fun zs hz=>by rw [Ag6 I hz q1];exact e1,fun zs hz=>by rw [Ag6 I hz q2];exact e2⟩,?_,?_⟩
  ·exact ⟨z',kp' _ _ D.TIz D.TITO D.TIi1 D.TIi2 Z.ti,⟨_,_,s'.extBut _ _ D.TOz a2⟩,a3.mv fun o e=>s'.extBut _ _ D.i1z e,a4.mv fun o e=>s'.extBut _ _ D.i2z e⟩
  ·intro c hc
   have hlt:c<s.heap.objs.size:=by
    have hc:c=z∨c=TI∨c=TO∨c=i1∨c=i2:=by simpa using hc
    rcases hc with rfl|rfl|rfl|rfl|rfl
    ·exact zlt
    ·exact AH Z.ti
    ·exact tlt
    ·exact ilt
    ·exact jlt
   rw [Am (AS hlt)]
   exact (hf c hc).1
 done:=by
  intro X hP hw hK hc i pins s σ H E I hf Z hg
  subst hP hw hK
  obtain ⟨xs,ys,q1,q2,e⟩:=hg
  obtain ⟨us,r1,p1⟩:=M0 I q1
  obtain ⟨vs,r2,p2⟩:=M0 I q2
  have l1:=r1.length
  have l2:=r2.length
  have he:us.toArray[i]? =none∨vs.toArray[i]? =none:=by
   rcases e with e|e
   ·left
    simp
    omega
   ·right
    simp
    omega
  refine Aho (I.ok.hd hc) D Z p1 p2 he fun g kp=>⟨rfl,?_⟩
  refine M4 I (fp:=[z,TO,i1,i2]) (fun c o hc e=>kp c o (fun x=>hc (by simp [x])) (fun x=>hc (by simp [x])) (fun x=>hc (by simp [x])) (fun x=>hc (by simp [x])) e) ?_
  intro c hc
  exact hf c (by simp at hc ⊢;rcases hc with h|h|h|h<;>simp [h])
 self:=fun _ _ _ _ _ Z h=>wpAny_pyIter_zip Z.z h
def Asx (k1 k2:Bool)(K:KKf)(ta:TA):TI:=fun σ H R=>ta σ H fun vs H1=>match vs with
 |[.ref a,.ref b]=>(∃xs,Xj k1 K H1 a xs)∧(∃ys,Xj k2 K H1 b ys)∧R (Itz k1 k2 K a b) H1
 |_=>False
theorem Af3 (k1 k2:Bool){a b:Expr}{ta:TA}{p pos:Pos}{es:HZ}{x1}{tp:Pos}(hg:Gl X "zip")(hm:X.mg "zip"=none)(ha:PA X [a,b] ta)(hs:starEach [a,b] X.env=[(false,eval a X.env),(false,eval b X.env)]:=by rfl)
  (hs2:starEach [b] X.env=[(false,eval b X.env)]:=by rfl):PI X (.Tuple es x1 tp) (.Call (.Name "zip" p) [a,b] [] pos) (Asx k1 k2 X.K ta):=by
 intro pins s σ H R I h
 refine Call_ (Ez I hg hm boot_zip (BX (Bi (ha pos pins s σ H _ I h) fun us s1 ⟨vs,H1,I1,r1,q1⟩=>?_) (by rw [hs,hs2]) (by rw [hs2];rfl)))
 match vs,q1 with
 | [.ref l1,.ref l2],⟨⟨xs,hx⟩,⟨ys,hy⟩,q⟩=>
  obtain ⟨u,v,rfl,e1,e2⟩:=Jk r1
  cases (show u=Value.ref l1 from e1)
  cases (show v=Value.ref l2 from e2)
  obtain ⟨us',_,p1⟩:=M0 I1 hx
  obtain ⟨vs',_,p2⟩:=M0 I1 hy
  have lt1:=p1.lt
  have lt2:=p2.lt
  refine Adc p1 p2 fun g Z kp=>wpAny_pyIter_zip (s:={ s1 with heap:=g }) Z.z ?_
  have I2:Ap X pins σ H1 { s1 with heap:=g }:=I1.kept (t':=s1.toks) kp
  refine ⟨_,[s1.heap.objs.size+4,s1.heap.objs.size+2,s1.heap.objs.size+3,s1.heap.objs.size,s1.heap.objs.size+1],_,_,H1,rfl,I2,Aeh (Ac2 lt1 lt2),Z,fun c hc=>?_,q⟩
  have hc:@LE.le Nat _ s1.heap.objs.size c:=by
   have hc:c=s1.heap.objs.size+4∨c=s1.heap.objs.size+2∨c=s1.heap.objs.size+3∨c=s1.heap.objs.size∨c=s1.heap.objs.size+1:=by simpa using hc
   rcases hc with h|h|h|h|h<;>rw [h]<;>first|exact AF _|exact HA _ _
  exact I1.fpOk hc (I1.hok.fresh hc)
end
section
variable {X:Cx}
def Ap1:R2:=fun x y H Q=>match x,y with
 |.ref l,.ref b=>∃xs zs,H l=some (.lst xs)∧H b=some (.lst zs)∧xs.length+zs.length≤1000∧∀p H',Ag H H'→H' p=some (.lst (xs++zs))→Q (.ref p) H'
 |_,_=>False
theorem Kx:Dv X (binaryOp .Add) Ap1:=by
 intro pins s σ H x y v u Q I rx ry q
 cases x<;>cases y<;>first
  |exact False.elim q
  | (obtain ⟨xs,zs,h1,h2,h3,q⟩:=q
     exact Ang _ _ _ _ _ _ _ _ _ I rx ry ⟨_,_,xs,zs,rfl,rfl,h1,h2,AO h3 (by decide),fun p hp=>q p _ (An hp) Ad⟩)
def Atp (K:KKf):V→Option Int→Option Int→Hp→VK→Prop:=fun x lo hi H Q=>match x with
 |.ref a=>∃xs,A1 K H a xs∧∀p H',Ag H H'→H' p=some (.lst (Ni xs lo hi))→Q (.ref p) H'
 |_=>False
theorem Ahe:SlR X (Atp X.K):=by
 intro pins s σ H x v vl vu lo hi sl Q I rx hs pl pu h
 cases x<;>first
  |exact False.elim h
  | (obtain ⟨xs,h1,q⟩:=h
     exact Ai3 _ _ _ _ _ _ _ _ _ _ _ _ I rx hs pl pu ⟨_,xs,rfl,h1,fun p hp=>q p _ (An hp) Ad⟩)
end
end Lw
end
section
namespace Lw
open PySem PySem.Spec PyProof.Rows L2
section
variable {prog:HU}{w:HV}{A:HS}{R:Result→HQ→Prop}{s:HQ}
theorem Ajh (elt tg iter:Expr)(scope:Scope)(pos:Pos)(it acc:HP)(env:Env) :
  compTurn (.ListComp elt [⟨tg,iter,[],0⟩] scope pos) 0 it acc env=(standAt iter.pos >>= fun _=>pyNext it >>= fun r=>match r with
   |none=>pure (.done .next)
   |some v=>letOwnedTupleGo tg it v >>= fun _=>assign tg env v >>= fun _=>(eval elt env >>= fun x=>call (.builtin "list.append") [acc,x] >>= fun _=>pure ()) >>= fun _=>again (.compLoop (.ListComp elt [⟨tg,iter,[],0⟩] scope pos) 0 it acc env)):=rfl
theorem Acz {elt tg iter:Expr}{scope:Scope}{pos:Pos}{it acc:HP}{env:Env}(I:Nat→HQ→Prop)
  (turn:∀n s,I n s→wpAny (model prog w) A (pyNext it) (fun r s1=>(r=none∧R (.ok .next) s1)∨∃v,r=some v∧wpAny (model prog w) A (letOwnedTupleGo tg it v) (fun _ s2=>wpAny (model prog w) A (assign tg env v) (fun _ s3=>
   wpAny (model prog w) A (eval elt env) (fun x s4=>wpAny (model prog w) A (call (.builtin "list.append") [acc,x]) (fun _ s5=>∃m,m<n∧I m s5) (fun _ _=>False) s4) (fun _ _=>False) s3) (fun _ _=>False) s2) (fun _ _=>False) s1) (fun _ _=>False) s)
  (n:Nat) (h:I n s):codeAny (model prog w) A (.compLoop (.ListComp elt [⟨tg,iter,[],0⟩] scope pos) 0 it acc env) R s:=by
 refine codeAny_loop rfl I (fun n s hI=>?_) n h
 show wpAny _ _ ((compTurn (.ListComp elt [⟨tg,iter,[],0⟩] scope pos) 0 it acc env).onRaise (fun x=>do noteFrame x env;theTreesLotGoes x)) _ _ s
 refine wpAny_noted ?_
 rw [Ajh]
 refine AA (wpAny_standAt (AA (BP (turn n s hI) (fun r s1 h1=>?_) fun _ _ z=>z.elim)))
 rcases h1 with ⟨rfl,h1⟩|⟨v,rfl,h1⟩
 ·exact AC h1
 ·refine AA (BP h1 (fun _ s2 h2=>?_) fun _ _ z=>z.elim)
  refine AA (BP h2 (fun _ s3 h3=>?_) fun _ _ z=>z.elim)
  refine AA (AA (BP h3 (fun x s4 h4=>?_) fun _ _ z=>z.elim))
  refine AA (BP h4 (fun _ s5 h5=>?_) fun _ _ z=>z.elim)
  exact AC (AC ⟨rfl,h5⟩)
end
abbrev Jv (X:Cx)(N:HW)(s₀:HQ)(H₀:Hp)(env:Env)(fp:List HR):Cx:=
 { X with N:=N,s₀:=s₀,H₀:=H₀,env:=env,outer:=X.stack,ex:=fp,fn:=fun _=>false,pn:=[],xe:=fun _ _=>False }
structure Cap (X:Cx)(sc:Scope)(cl:List (Str×HR))(j:Nat)(y:Str):Prop where
 nm:X.N[j]? =some y
 ko:X.env.kindOf y=some .cell
 ki:sc.names.lookup y=some .cell
 cl:cl.lookup y=X.env.cells.lookup y
def capσ (js:IC)(σ:L2.St):L2.St:=js.map fun j=>(σ[j]?).join
@[irreducible] def Hr (J:It) (g:TG) (te:TE) (k:Nat) (js:IC) (σ:L2.St) (H1:Hp) (Q:VK):Prop:=∀D,H1 D=none→∃W:Nat→Nat→Hp→Prop,(∃m,W 0 m (upd H1 D (.lst [])))∧∀i m H,W i m H →
 (J.stop i H∧Q (.ref D) H)∨(J.go i H∧∀x H',J.yld i H x H'→g x (List.replicate k none++capσ js σ) H' fun σ2 H2=>σ2.drop k=capσ js σ∧te σ2 H2 fun v H3=>∃xs,H3 D=some (.lst xs)∧xs.length<sizeLine∧∃m',m'<m∧W (i+1) m' (upd H3 D (.lst (xs++[v]))))
def Aeu (wi:TI)(g:TG)(te:TE)(k:Nat)(js:IC):TE:=fun σ H Q=>wi σ H fun J H1=>Hr J g te k js σ H1 Q
section
variable {X:Cx}
theorem Aa0 {pins:List (HR×Obj)}{σ:L2.St}{H:Hp}{s:HQ}{N:HW}{scope:Scope}{cl:List (Str×HR)}{C:HR}{fp:List HR}(I:Ap X pins σ H s)(hk:scope.kind=.function)(hC:s.heap.objs.size≤C)
  (hcl:∀y c,cl.lookup y=some c→X.env.cells.lookup y=some c) (hhas:∀y,((relabel scope X.env).names.lookup y=some .cell∨(relabel scope X.env).names.lookup y=some .free)→∃c,cl.lookup y=some c)
  (hf:∀b∈fp,Ll X pins H b∧b<s.heap.objs.size):(Jv X N s H (compEnvC scope cl C X.env) fp).Ok where
 mod:=I.ok.mod
 kind:=hk
 glob:=I.ok.glob
 blt:=I.ok.blt
 above:=hC
 inj:=fun x y c e1 e2=>I.ok.inj x y c (hcl x c e1) (hcl y c e2)
 has:=fun x h=>hhas x h
 cab:=fun x c z=>absurd z (by simp)
 hd:=I.ok.hd
 frames:=I.ok.frames
 stk:=.inl rfl
 exf:=fun b hb=>⟨AS (AL (hf b hb).2 hC),fun x c e=>(hf b hb).1.2.2.2.2.1 x c (hcl x c e)⟩
 bs:=I.bs
 bsz:=AO I.ok.bsz I.sz
 noex:=fun b o e hb=>by
  rcases (hf b hb).1.2.2.2.1 with z|z
  ·exact I.ok.noex b o e z
  ·exact absurd (AL (AH (I.ok.bs b o e).1) z) (DM _)
 exfs:=fun b hb hm=>by
  rcases AU.mp (I.stkSub b hm) with z|z
  ·exact (hf b hb).1.2.1 z
  ·exact (hf b hb).1.2.2.1 z
 funs:=I.stack
 frf:=I.stkFree
theorem Ad3 {elt iter tg:Expr}{scope:Scope}{pos:Pos}{wi:TI}{te:TE}{g:TG}{N:HW}{cl:List (Str×HR)}(k:Nat)(js:IC)(hi:PI X tg iter wi)
  (hg:∀C s H fp,PG (Jv X N s H (compEnvC scope cl C X.env) fp) tg g) (he:∀C s H fp,PE (Jv X N s H (compEnvC scope cl C X.env) fp) elt te) (hcalm:X.calm=true)
  (hclos:closureFor scope X.env=pure cl) (hkind:scope.kind=.function) (hcell:∀y∈scope.names,y.2≠.cell) (hnames:∀y∈scope.names,y.2=.local→scope.names.lookup y.1=some .local)
  (hcl:∀y c,cl.lookup y=some c→X.env.cells.lookup y=some c) (hhas:∀y,((relabel scope X.env).names.lookup y=some .cell∨(relabel scope X.env).names.lookup y=some .free)→∃c,cl.lookup y=some c)
  (hlen:N.length=k+js.length) (hcap:∀i j,js[i]? =some j→∃y,N[k+i]? =some y∧Cap X (relabel scope X.env) cl j y)
  (hs:∀x,foldedSetIterable iter X.env x=pure x) {pins:List (HR×Obj)} {s:HQ} {σ:L2.St} {H:Hp} {Q:VK} (I:Ap X pins σ H s) (h:Aeu wi g te k js σ H Q) {cpos:Pos} {use:Option (HP→Sem Unit)} {Qv:HP→HQ→Prop}
  (fin:∀(s6:HQ) (H5:Hp) (D C:HR) (m:Str→IA),Ap X pins σ H5 s6→s6.heap.Ns C m→H5 C=none→X.s₀.heap.objs.size≤C→C≠X.env.locals→(∀x c,X.env.cells.lookup x=some c→c≠C)→(∀p∈X.pn++pins,p.1≠C)→Q (.ref D) H5 →
   compPost (model X.prog X.w) X.A X.xe use Qv (.ref D) C (.ok .next) s6) :
  wpAny (model X.prog X.w) X.A (comprehension (.ListComp elt [⟨tg,iter,[],0⟩] scope pos) scope X.env cpos (newList []) false (eval iter X.env) use) Qv X.xe s:=by
 refine wpAny_comprehension_free (use:=use) rfl hs hclos hkind hnames (Bi (hi pins s σ H _ I h) fun v s1 h1=>Bi h1 fun itv s2 h2=>?_)
 obtain ⟨it,fp,tn,J,H2,rfl,I2,T,st2,f2,h2⟩:=h2
 refine BS ?_
 have hD:H2 s2.heap.objs.size=none:=I2.hok.fresh (AF _)
 unfold Hr at h2
 obtain ⟨W,⟨m0,w0⟩,turn⟩:=h2 _ hD
 have I3:Ap X pins σ (upd H2 s2.heap.objs.size (.lst [])) { s2 with heap:=s2.heap.push { cls:=.type "list",dict:=none,data:=.seq ([]:HY).toArray } } :=
  I2.laid (t':=s2.toks) (fun b u e=>AB _ e) (AF _) ⟨AV _,[],0,.nil,AG _ rfl⟩
 have hlt:∀b∈fp,b<s2.heap.objs.size:=fun b hb=>by
  obtain ⟨o,e,_⟩:=T.obj _ _ st2 b hb
  exact AH e
 have f3:∀b∈fp,Ll X pins (upd H2 s2.heap.objs.size (.lst [])) b:=fun b hb=>⟨by rw [Am (AS (hlt b hb))];exact (f2 b hb).1,(f2 b hb).2⟩
 have st3:tn 0 (s2.heap.push { cls:=.type "list",dict:=none,data:=.seq ([]:HY).toArray }):=T.keep _ _ _ st2 fun b hb o e=>AB _ e
 have hlt3:∀b∈fp,b<(s2.heap.push { cls:=.type "list",dict:=none,data:=.seq ([]:HY).toArray }).objs.size:=fun b hb=>AL (hlt b hb) (by rw [BW];exact CU _)
 generalize hs3:({ s2 with heap:=s2.heap.push { cls:=.type "list",dict:=none,data:=.seq ([]:HY).toArray } }:HQ)=s3 at I3
 have eh:s3.heap=s2.heap.push { cls:=.type "list",dict:=none,data:=.seq ([]:HY).toArray }:=by rw [←hs3]
 rw [←eh] at st3 hlt3
 generalize hDD:s2.heap.objs.size=D at *
 generalize hH3:upd H2 D (.lst [])=H3 at *
 clear hs3 eh
 refine wpAny_newFunctionEnv (s:=s3) hcell (by intro y hy;simp at hy) (fun h4 n4 sb4=>?_) hkind
 have Ok:=Aa0 (N:=N) (C:=s3.heap.objs.size) I3 hkind (AF _) hcl hhas fun b hb=>⟨f3 b hb,hlt3 b hb⟩
 show codeAny _ _ (.compStart (.ListComp elt [⟨tg,iter,[],0⟩] scope pos) 0 (.ref it) (.ref D) (compEnvC scope cl s3.heap.objs.size X.env)) _ _
 generalize hC:s3.heap.objs.size=C at *
 have old:∀b o,s3.heap.get? b=some o→h4.get? b=some o:=fun b o e=>sb4.extBut b o (by rw [←hC];exact AS (AH e)) (AB _ e)
 have fresh:H3 C=none:=I3.hok.fresh (by rw [hC];exact AF _)
 have hcapl:∀{i:Nat} {x:Str} {v:V},N[i]? =some x→(List.replicate k none++capσ js σ)[i]? =some (some v)→∃u,L2.RelV v u∧An9 (compEnvC scope cl C X.env) h4 (fun _=>none) x u:=by
  intro i x v e1 e2
  by_cases hik:i<k
  ·rw [CF (by simpa using hik)] at e2
   rw [DS] at e2
   simp [hik] at e2
  ·rw [BN (by simpa using DV hik),EJ] at e2
   unfold capσ at e2
   rw [BJ] at e2
   cases ej:js[i-k]? with
   |none=>
    rw [ej] at e2
    cases e2
   | some j=>
    rw [ej] at e2
    have e2:(σ[j]?).join=some v:=Option.some.inj e2
    obtain ⟨y,hy,cp⟩:=hcap _ _ ej
    rw [show k+(i-k)=i by omega,e1] at hy
    cases hy
    obtain ⟨m,_,hl⟩:=I3.loc
    have e3:σ[j]? =some (some v):=by
     cases q:σ[j]? with
     |none=>
      rw [q] at e2
      cases e2
     |some o=>
      rw [q] at e2
      have:o=some v:=e2
      rw [this]
    obtain ⟨u,ru,lk⟩:=hl j x v cp.nm e3 (.inr (.inl cp.ko))
    refine ⟨u,ru,?_⟩
    rcases lk with ⟨z,_⟩|⟨_,c,hc,z⟩
    ·rw [cp.ko] at z
     cases z
    ·refine .inr ⟨.inl cp.ki,c,by rw [←hc];exact cp.cl,?_⟩
     obtain ⟨o,e,d⟩:=z
     exact ⟨o,old _ _ e,d⟩
 have I4:Ap (Jv X N s3 H3 (compEnvC scope cl C X.env) fp) [] (List.replicate k none++capσ js σ) H3 { s3 with heap:=h4,toks:=s3.toks+([]:List (Str×HP)).length }:=by
  refine ⟨Ok,rfl,I3.bare,Un.kept old,⟨_,n4,fun i x v e1 e2 e3=>?_⟩,fun x c e=>?_,fresh,fun x c e=>I3.freeC x c (hcl x c e),fun p hp=>absurd hp (by simp),I3.hok.kept old,?_⟩
  ·obtain ⟨u,ru,lk⟩:=hcapl e1 e2
   refine ⟨u,ru,?_⟩
   rcases lk with ⟨z,q⟩|q
   ·cases q
   ·exact .inr q
  ·obtain ⟨v,o,e1,d⟩:=I3.cell x c (hcl x c e)
   exact ⟨v,o,old _ _ e1,d⟩
  ·simp [capσ,hlen]
 have fp4:∀{H':Hp},(∀b∈fp,H' b=none)→∀b∈fp,Ll (Jv X N s3 H3 (compEnvC scope cl C X.env) fp) [] H' b:=fun hn b hb=>
  ⟨hn b hb,(Ok.exf b hb).1,Ok.exfs b hb,.inl hb,fun x c e=>(Ok.exf b hb).2 x c e,fun p hp=>absurd hp (by simp)⟩
 have st4:tn 0 h4:=T.keep _ _ _ st3 fun b hb o e=>old b o e
 have run:∀s4:HQ,s4={ s3 with heap:=h4,toks:=s3.toks+([]:List (Str×HP)).length } →
   codeAny (model X.prog X.w) X.A (.compLoop (.ListComp elt [⟨tg,iter,[],0⟩] scope pos) 0 (.ref it) (.ref D) (compEnvC scope cl C X.env)) (compPost (model X.prog X.w) X.A X.xe use Qv (.ref D) C) s4:=by
  rintro s4 rfl
  refine Acz (fun n s'=>∃i H' σ',Ap (Jv X N s3 H3 (compEnvC scope cl C X.env) fp) [] σ' H' s'∧(∀j:Nat,∀v,(List.replicate k none++capσ js σ)[j]? =some (some v)→σ'[j]? =some (some v))∧tn i s'.heap∧(∀b∈fp,H' b=none)∧W i n H') ?_ m0
   ⟨0,H3,_,I4,fun _ _ z=>z,st4,fun b hb=>(f3 b hb).1,w0⟩
  rintro n s5 ⟨i,H5,σ5,I5,cap5,st5,fr5,w5⟩
  have I5':=I5.weak (σ':=List.replicate k none++capσ js σ) (by rw [I5.len];simp [capσ,hlen]) cap5
  rcases turn i n H5 w5 with ⟨stop,q⟩|⟨go,step⟩
  ·refine Bi (T.done (Jv X N s3 H3 (compEnvC scope cl C X.env) fp) rfl rfl rfl hcalm i [] s5 σ5 H5 _ I5 (fp4 fr5) st5 stop) fun r s6 ⟨hr,I6⟩=>.inl ⟨hr,?_⟩
   obtain ⟨m6,n6,_⟩:=I6.loc
   have hCf:H5 C=none:=I6.free
   have u6:=I6.base
   have uC:Un (La X.stack) fp H3 H5 s3.heap s6.heap:=⟨u6.keep,u6.slot,u6.free,u6.there,u6.tups,u6.frzs,u6.tbls⟩
   have I7:Ap X pins σ H5 s6:=I3.call' (s':=s6) I6.os uC I6.hok I6.bare fun b hb=>⟨(f3 b hb).2.2.2.1,(f3 b hb).2.1,(f3 b hb).2.2.2.2.1,(f3 b hb).2.2.2.2.2⟩
   have lt3:∀b o,s3.heap.get? b=some o→b≠C:=fun b o e=>by rw [←hC];exact AS (AH e)
   refine fin s6 H5 D C m6 I7 n6 hCf (by rw [←hC];exact I3.sz) (by rw [←hC];exact CQ I3.lt) (fun x c e=>?_) (fun p hp=>lt3 p.1 p.2 (I3.pin p hp).1) q
   obtain ⟨v,o,e1,_⟩:=I3.cell x c e
   exact lt3 c o e1
  ·refine Bi (T.item (Jv X N s3 H3 (compEnvC scope cl C X.env) fp) rfl rfl rfl hcalm i [] s5 _ H5 _ I5' (fp4 fr5) st5 go) fun r s6 ⟨u,hr,h6⟩=>.inr ⟨u,hr,?_⟩
   refine Bi h6 fun _ s7 ⟨x,H7,I7,r7,y7,st7,fr7⟩=>?_
   have I7':=I7.pinned (fp4 fr7) (T.obj _ _ st7)
   refine Bi (hg C s3 H3 fp _ s7 _ H7 x u _ I7' r7 (step x H7 y7)) fun _ s8 ⟨σ8,H8,I8,d8,q8⟩=>?_
   refine Bi (he C s3 H3 fp _ s8 σ8 H8 _ I8 q8) fun vv s9 ⟨vx,H9,I9,r9,xs,hx9,hz9,m',hm',w9⟩=>?_
   obtain ⟨z9,its,n9,rl,e9⟩:=(show Bf X.prog X.w H9 s9.heap D (.lst xs) from I9.hok D _ hx9)
   have app:=Jw (X:=Jv X N s3 H3 (compEnvC scope cl C X.env) fp) _ s9 σ8 H9 (.ref D) [vx] (.ref D) [vv] (fun _ H'=>H'=upd H9 D (.lst (xs++[vx]))) I9 rfl (.cons r9 .nil) ⟨D,xs,vx,rfl,rfl,hx9,hz9,rfl⟩
   refine Bi app fun _ s10 ⟨_,H10,I10,_,e10⟩=>?_
   subst e10
   refine ⟨m',hm',i+1,_,σ8,I10.unpinned (pins:=[]),?_,T.keep _ _ _ st7 fun b hb o e=>(I10.pin (b,o) (AX _ (AX _ (Cu hb e)))).1,fun b hb=>?_,w9⟩
   ·intro j v e
    by_cases hjk:j<k
    ·rw [CF (by simpa using hjk),DS] at e
     simp [hjk] at e
    ·rw [BN (by simpa using DV hjk),EJ,←d8,List.getElem?_drop] at e
     rw [show k+(j-k)=j by omega] at e
     exact e
   ·obtain ⟨o,e,d⟩:=T.obj _ _ st7 b hb
    exact (I10.pin (b,o) (AX _ (AX _ (Cu hb e)))).2.1
 exact codeAny_compStart_list (run _ rfl) (T.self X.A 0 _ _ _ st4 (run _ rfl))
theorem Alz {elt iter tg:Expr}{scope:Scope}{pos:Pos}{wi:TI}{te:TE}{g:TG}{N:HW}{cl:List (Str×HR)}(k:Nat)(js:IC)(hi:PI X tg iter wi)
  (hg:∀C s H fp,PG (Jv X N s H (compEnvC scope cl C X.env) fp) tg g) (he:∀C s H fp,PE (Jv X N s H (compEnvC scope cl C X.env) fp) elt te) (hcalm:X.calm=true)
  (hclos:closureFor scope X.env=pure cl) (hkind:scope.kind=.function) (hcell:∀y∈scope.names,y.2≠.cell) (hnames:∀y∈scope.names,y.2=.local→scope.names.lookup y.1=some .local)
  (hcl:∀y c,cl.lookup y=some c→X.env.cells.lookup y=some c) (hhas:∀y,((relabel scope X.env).names.lookup y=some .cell∨(relabel scope X.env).names.lookup y=some .free)→∃c,cl.lookup y=some c)
  (hlen:N.length=k+js.length) (hcap:∀i j,js[i]? =some j→∃y,N[k+i]? =some y∧Cap X (relabel scope X.env) cl j y)
  (hs:∀x,foldedSetIterable iter X.env x=pure x:=by intro _;rfl):PE X (.ListComp elt [⟨tg,iter,[],0⟩] scope pos) (Aeu wi g te k js):=by
 intro pins s σ H Q I h
 rw [eval_ListComp]
 refine Ad3 k js hi hg he hcalm hclos hkind hcell hnames hcl hhas hlen hcap hs I h fun s6 H5 D C m I6 n6 z1 z2 z3 z4 z5 q=>⟨m,n6,fun h7 sb7=>⟨.ref D,H5,?_,rfl,q⟩⟩
 exact I6.turned (t':=s6.toks) (fun b o hb e=>(sb7.2 b hb).trans e) z1 z3.symm.symm (.inr z2) z4 z5
def Re (X:Cx)(sc:Scope)(cl:List (Str×HR)):HW→IC→Prop
 |y::ys,j::js=>Cap X sc cl j y∧Re X sc cl ys js
 |[],[]=>True
 |_,_=>False
theorem Re.len {sc:Scope}{cl:List (Str×HR)}:∀{ys:HW} {js:IC},Re X sc cl ys js→ys.length=js.length
 |[],[],_=>rfl
 |_::_,_::_,h=>congrArg (· + 1) (Re.len h.2)
 |[],_::_,h=>h.elim
 |_::_,[],h=>h.elim
theorem Re.at {sc:Scope}{cl:List (Str×HR)}:∀{ys:HW} {js:IC},Re X sc cl ys js→∀(i j:Nat),js[i]? =some j→∃y,ys[i]? =some y∧Cap X sc cl j y
 |[],[],_,i,j,e=>by simp at e
 |y::ys,j::js,h,0,j',e=>by
  cases e
  exact ⟨y,rfl,h.1⟩
 |y::ys,j::js,h,i+1,j',e=>Re.at h.2 i j' (by simpa using e)
 |[],_::_,h,_,_,_=>h.elim
 |_::_,[],h,_,_,_=>h.elim
def Po (cells:List (Str×HR)):List (Str×HR)→Prop
 |[]=>True
 |(y,c)::r=>cells.lookup y=some c∧Po cells r
theorem Po.at {cells:List (Str×HR)}:∀{cl:List (Str×HR)},Po cells cl→∀y c,cl.lookup y=some c→cells.lookup y=some c
 |[],_,y,c,e=>by simp at e
 | (z,d)::r,h,y,c,e=>by
  rw [DX] at e
  cases q:y==z with
  |true=>
   rw [q] at e
   cases e
   rw [eq_of_beq q]
   exact h.1
  |false=>
   rw [q] at e
   exact Po.at h.2 y c e
theorem G6 {y:Str}:∀{cl:List (Str×HR)},(cl.map (·.1)).contains y=true→∃c,cl.lookup y=some c
 |[],h=>by simp at h
 | (z,d)::r,h=>by
  rw [DX]
  cases q:y==z with
  |true=>exact ⟨d,rfl⟩
  |false=>
   refine G6 (cl:=r) ?_
   rw [BE,List.contains_cons,q,Bool.false_or] at h
   exact h
theorem Ci {env:Env}{y:Str}:∀{names:List (Str×NameKind)} {k:NameKind},(names.map fun (n,k)=>if (k==NameKind.free&&env.scope.kind==.function&&env.kindOf n==some .cell) then (n,NameKind.cell) else (n,k)).lookup y=some k →
  (k=.cell∨k=.free)→∃z∈names,z.1=y∧(z.2=.free∨z.2=.cell)
 |[],_,h,_=>by simp at h
 | (n,kd)::r,k,h,hk=>by
  rw [BE] at h
  by_cases hc:(kd==NameKind.free&&env.scope.kind==.function&&env.kindOf n==some .cell)=true
  ·rw [show (match (n,kd) with|(n,k)=>if (k==NameKind.free&&env.scope.kind==.function&&env.kindOf n==some .cell)=true then (n,NameKind.cell) else (n,k))=(n,NameKind.cell) from AN hc,DX] at h
   cases q:y==n with
   |true=>
    rw [BR,BR] at hc
    exact ⟨(n,kd),AK,(eq_of_beq q).symm,.inl (eq_of_beq hc.1.1)⟩
   |false=>
    rw [q] at h
    obtain ⟨z,hz,r1⟩:=Ci (names:=r) h hk
    exact ⟨z,AJ _ hz,r1⟩
  ·rw [show (match (n,kd) with|(n,k)=>if (k==NameKind.free&&env.scope.kind==.function&&env.kindOf n==some .cell)=true then (n,NameKind.cell) else (n,k))=(n,kd) from AI hc,DX] at h
   cases q:y==n with
   |true=>
    rw [q] at h
    cases h
    exact ⟨(n,kd),AK,(eq_of_beq q).symm,hk.symm⟩
   |false=>
    rw [q] at h
    obtain ⟨z,hz,r1⟩:=Ci (names:=r) h hk
    exact ⟨z,AJ _ hz,r1⟩
theorem B2 {elt iter tg:Expr}{scope:Scope}{pos:Pos}{wi:TI}{te:TE}{g:TG}{cl:List (Str×HR)}(own ys:HW)(js:IC)(hclos:closureFor scope X.env=pure cl)(hi:PI X tg iter wi)
  (hg:∀C s H fp,PG (Jv X (own++ys) s H (compEnvC scope cl C X.env) fp) tg g) (he:∀C s H fp,PE (Jv X (own++ys) s H (compEnvC scope cl C X.env) fp) elt te) (hcalm:X.calm=true) (hkind:scope.kind=.function)
  (hcell:(scope.names.all fun y=>y.2 != .cell)=true) (hnames:(scope.names.all fun y=>y.2 != .local||scope.names.lookup y.1==some .local)=true) (hfr:(scope.names.all fun y=>y.2 != .free||(cl.map (·.1)).contains y.1)=true)
  (hcl:Po X.env.cells cl) (hcap:Re X (relabel scope X.env) cl ys js) (hs:∀x,foldedSetIterable iter X.env x=pure x:=by intro _;rfl) :
  PE X (.ListComp elt [⟨tg,iter,[],0⟩] scope pos) (Aeu wi g te own.length js):=by
 rw [CH] at hcell hnames hfr
 have hc:∀y∈scope.names,y.2≠.cell:=fun y hy z=>by
  have:=hcell y hy
  rw [z] at this
  cases this
 refine Alz own.length js hi hg he hcalm hclos hkind hc (fun y hy z=>?_) hcl.at (fun y h=>?_) (by rw [AM,hcap.len]) (fun i j e=>?_) hs
 ·have:=hnames y hy
  rw [z] at this
  simpa using this
 ·obtain ⟨z,hz,rfl,hk⟩:∃z∈scope.names,z.1=y∧(z.2=.free∨z.2=.cell):=by
   rcases h with h|h
   ·exact Ci h (.inl rfl)
   ·exact Ci h (.inr rfl)
  rcases hk with hk|hk
  ·have:=hfr z hz
   rw [hk] at this
   exact G6 (by simpa using this)
  ·exact absurd hk (hc z hz)
 ·obtain ⟨y,h1,h2⟩:=hcap.at i j e
  exact ⟨y,by rw [BN (HA _ _),GQ];exact h1,h2⟩
end
end Lw
end
section
namespace Lw
open PySem PySem.Spec PyProof.Rows L2
section
variable {X:Cx}{pos p2 p3 p4:Pos}{e:Expr}{te:TE}
def Asy:V→Option Int→Option Int→Hp→VK→Prop:=fun x lo hi H Q=>match x with
 |.str z=>z.length≤sizeLine∧Q (.str (Txt.slice z lo hi)) H
 |_=>False
theorem Va:SlR X Asy:=by
 intro pins s σ H x v vl vu lo hi sl Q I rx hs pl pu h
 cases x<;>first
  |exact False.elim h
  | (obtain ⟨hz,q⟩:=h
     obtain ⟨t,rfl⟩:=rx
     refine ⟨"str",_,F.slot_str_getitem.lookup,GK _ _ _,?_⟩
     cases pl<;>cases pu
     ·exact FC (l:=none) (u:=none) (st:=none) hs rfl (HH ⟨AO (HI _ _ _) hz,fun t' k=>⟨.str _,H,I.tok _,⟨_,rfl⟩,q⟩⟩)
     ·exact FC (l:=none) (u:=some (_,_)) (st:=none) hs rfl (HH ⟨AO (HI _ _ _) hz,fun t' k=>⟨.str _,H,I.tok _,⟨_,rfl⟩,q⟩⟩)
     ·exact FC (l:=some (_,_)) (u:=none) (st:=none) hs rfl (HH ⟨AO (HI _ _ _) hz,fun t' k=>⟨.str _,H,I.tok _,⟨_,rfl⟩,q⟩⟩)
     ·exact FC (l:=some (_,_)) (u:=some (_,_)) (st:=none) hs rfl (HH ⟨AO (HI _ _ _) hz,fun t' k=>⟨.str _,H,I.tok _,⟨_,rfl⟩,q⟩⟩))
def Aqt:R2:=fun x y H Q=>match x,y with
 |.str i,.str j=>i.length+j.length≤sizeLine∧Q (.str (i++j)) H
 |_,_=>False
theorem Cv:Dv X (binaryOp .Add) Aqt:=by
 intro pins s σ H x y v u Q I rx ry q
 cases x<;>cases y<;>first
  |exact False.elim q
  |exact Zx _ _ _ _ _ _ _ _ _ I rx ry ⟨_,_,rfl,rfl,q.1,q.2⟩
def As2:R2:=fun x y H Q=>match x,y with
 |.str z,.int i=>∃c,z.length≤sizeLine∧Q4 z.cps.toList i=some c∧Q (.str ⟨#[c]⟩) H
 |_,_=>False
theorem Ako:IxR X As2:=by
 intro value slice pins s σ H x y v u Q I rx ry h hs
 cases x<;>cases y<;>first
  |exact False.elim h
  | (obtain ⟨c,h1,h2,q⟩:=h
     exact An6 value slice pins s σ H _ _ v u Q I rx ry ⟨_,_,c,rfl,rfl,h1,h2,q⟩ hs)
theorem Td:∀{ys:HW} {us:HY},A6 (ys.map V.str) us→StrsAre us ys
 |[],_,r=>by
  cases r
  exact .nil
 | y::ys,_,r=>by
  cases r with
  |cons r1 r2=>
   obtain ⟨t,rfl⟩:=r1
   exact .cons y t (Td r2)
def Agu (K:KKf):V→ID→Hp→VK→Prop:=fun x xs H Q=>match x,xs with
 |.str sep,[.ref p]=>∃ys:HW,A1 K H p (ys.map V.str)∧(ys.map (·.length)).sum+ys.length*sep.length≤16777216∧Q (.str (Txt.join sep ys)) H
 |_,_=>False
theorem Ams:MtR X "str.join" (Agu X.K):=by
 intro pins s σ H x xs v us Q I rx rs h
 match x,xs,h with
 |.str sep,[.ref p],⟨ys,h1,h2,q⟩=>
  obtain ⟨t,rfl⟩:=rx
  obtain ⟨u,rfl,r1⟩:=Fw rs
  cases r1
  obtain ⟨its,r,pl,_⟩:=I.list h1
  exact PyProof.Rows.join_list pl.isList (Td r) h2 fun t' k=>⟨.str _,H,I.tok _,⟨_,rfl⟩,q⟩
theorem M7 {o:Expr}{to ta:_}{name:Str}{apos cpos:Pos}(ho:PE X o to)(ha:PA X [e] ta)(hbase:attributeBase o "join" X.env (eval o X.env)=eval o X.env:=by rfl)
  (hfew:((backTo cpos (starEach [e] X.env)).all (fun x=>!x.1)&&(backToKw cpos (keywordEach [] X.env)).all (fun x=>x.1.isSome)&&decide ([e].length+([]:List Keyword).length+(if ([]:List Keyword).isEmpty then 0 else 1)<30))=true:=by rfl)
  (hline:(apos.endLine==cpos.line)=true:=by rfl) (hs:starEach [e] X.env=(false,eval e X.env)::starEach [] X.env:=by rfl) (hplain:(backTo cpos (starEach [] X.env)).any (·.1)=false:=by rfl) :
  PE X (.Call (.Attribute o "join" apos) [e] [] cpos) (tBM X.K "str" (Agu X.K) to ta):=Lu F.plainAttrs_str F.slot_str_join F.type_str_join Ams ho ha hbase hfew hline hs hplain
def Asv (K:KKf):R2:=fun x y H Q=>match y with
 |.ref p=>∃xs,(A1 K H p xs∨D7 K H p xs)∧Fg x=true∧xs.all Fg=true∧Q (.bl (inV x xs)) H
 |_=>False
theorem Aqx:Dv X (compareOp .In) (Asv X.K):=by
 intro pins s σ H x y v u Q I rx ry q
 cases y<;>first
  |exact False.elim q
  | (obtain ⟨xs,h1,h2,h3,q⟩:=q
     exact Ade _ _ _ _ _ _ _ _ _ I rx ry ⟨_,xs,rfl,h1,h2,h3,q⟩)
theorem W9:∀{xs:ID} {us:HY},A6 xs us→A6 xs.reverse us.reverse
 |_,_,.nil=>.nil
 |x::xs,u::us,.cons r t=>by
  rw [List.reverse_cons,List.reverse_cons]
  exact (W9 t).append (.cons r .nil)
end
end Lw
end
section
namespace Lw
open PySem PySem.Spec PyProof.Rows L2
def co (x:Str):IC:=x.cps.toList
theorem Bm (x:Str):(co x).length=x.length:=by simp [co,Str.length]
theorem Bp (x y:Str):co (x++y)=co x++co y:=by
 show (x.cps++y.cps).toList=x.cps.toList++y.cps.toList
 rw [Array.toList_append]
theorem Ny (c:Nat):co ⟨#[c]⟩=[c]:=rfl
theorem Dg {x y:Str}(h:co x=co y):x=y:=by
 obtain ⟨x⟩:=x
 obtain ⟨y⟩:=y
 have:x=y:=Array.toList_inj.mp h
 rw [this]
theorem Be (x y:Str):(x++y).length=x.length+y.length:=by
 rw [←Bm,Bp,AM,Bm,Bm]
theorem Jx (sep:Str):∀ys:HW,co (Txt.join sep ys)=co (Str.join sep ys):=fun ys=>by
 show co (Builtin.Str.glued sep ys)=_
 rw [StrLaws.glued_eq_join]
theorem Ais (a b:Nat):sliceRange (a:Int) (b:Int) 1=(List.range (b-a)).map (fun k=>a+k):=by
 unfold sliceRange
 simp only [show ((1:Int)>0)=True from by simp,FP]
 by_cases h:(a:Int)<b
 ·have e3:(((b:Int)-a+1-1) / 1).toNat=b-a:=by omega
  simp only [h,FP,e3]
  refine List.map_congr_left fun k _=>?_
  omega
 ·have:b-a=0:=by omega
  simp [h,this]
theorem Ls (n d:Nat)(i:Int):max (0:Int) (min (if i<0 then i+(n:Int) else i) (n:Int))=((HT.sIx n d (some i):Nat):Int):=by
 show _=(((if i<0 then (i+(n:Int)).toNat else min i.toNat n):Nat):Int)
 by_cases h:i<0
 ·simp only [AN h];omega
 ·simp only [AI h];omega
theorem Aiq (lo hi:Option Int)(n:Nat):Builtin.Str.strSliceIndices lo hi 1 n=(List.range (HT.sIx n n hi-HT.sIx n 0 lo)).map (fun k=>HT.sIx n 0 lo+k):=by
 rw [←Ais]
 unfold Builtin.Str.strSliceIndices
 simp only [show ((1:Int)>0)=True from by simp,FP]
 cases lo with
 | none=>
  cases hi with
  |none=>rfl
  |some j=>
   show sliceRange 0 (max (0:Int) (min (if j<0 then j+(n:Int) else j) (n:Int))) 1=_
   rw [Ls n n j]
   rfl
 | some i=>
  cases hi with
  |none=>
   show sliceRange (max (0:Int) (min (if i<0 then i+(n:Int) else i) (n:Int))) (n:Int) 1=_
   rw [Ls n 0 i]
   rfl
  |some j=>
   show sliceRange (max (0:Int) (min (if i<0 then i+(n:Int) else i) (n:Int))) (max (0:Int) (min (if j<0 then j+(n:Int) else j) (n:Int))) 1=_
   rw [Ls n 0 i,Ls n n j]
theorem Pm (x:Str)(lo hi:Option Int):co (Txt.slice x lo hi)=((co x).drop (HT.sIx x.length 0 lo)).take (HT.sIx x.length x.length hi-HT.sIx x.length 0 lo):=by
 have ha:=HT.sIx_le x.length 0 (AV _) lo
 have hb:=HT.sIx_le x.length x.length (AF _) hi
 have hl:=Bm x
 unfold Txt.slice
 rw [Aiq]
 generalize HT.sIx x.length 0 lo=a at *
 generalize HT.sIx x.length x.length hi=b at *
 split
 ·rename_i h
  have h2:b-a=x.length:=by simpa using h
  have a0:a=0:=by omega
  subst a0
  rw [GM,EB (by omega)]
 ·have p:=StrLaws.picks (co x) (b-a) a (by omega)
  rw [←p]
  show (List.filterMap _ _).toArray.toList=_
  rw [List.toList_toArray]
  congr 1
  funext k
  show x.cps[k]? =x.cps.toList[k]?
  rw [DQ]
theorem Akg {x:Str}{j:Nat}(h:j≤x.length):co (Txt.slice x none (some (j:Int)))=(co x).take j:=by
 rw [Pm,HT.sIx_none,HT.sIx_nat,GE h,GM,Nat.sub_zero]
theorem Ajg {x:Str}{i:Nat}(h:i≤x.length):co (Txt.slice x (some (i:Int)) none)=(co x).drop i:=by
 rw [Pm,HT.sIx_none,HT.sIx_nat,GE h,EB]
 rw [DO,Bm]
 exact AF _
def abc:Str:=Str.ofString "abcdefghijklmnopqrstuvwxyz"
def lt (n:Int):Nat:=97+(n % 26).toNat
structure Nm (x:Str):Prop where
 len1:1≤(co x).length
 len8:(co x).length≤8
 abc:∀c∈co x,97≤c∧c<123
theorem Aq9 {x:Str}(h:∀c∈co x,c<1114112):PyData.strOk x=true:=by
 unfold PyData.strOk
 rw [←Array.all_toList,CH]
 exact fun c hc=>AQ (h c hc)
end Lw
end
section
set_option autoImplicit false
namespace Lw
open PySem PySem.Spec PyProof.Rows L2
def vB:HY:=[.type "ValueError",.type "Exception",.type "BaseException",.type "object"]
def clsIn (K:KKf)(C:HR):Bool:=match K.lookup C with
 |some ⟨.type "type",_,.cls _,_⟩=>true
 |_=>false
structure Af4 (K:KKf)(C:HR):Prop where
 nw:clsIn K C=true
 ga:PySem.W.findIn K (.ref C) "__getattribute__"=some (some (.builtin "BaseException.__getattribute__"))
 gn:PySem.W.findIn K (.ref C) "__getattr__"=some none
 cl:PySem.W.findIn K (.ref C) "__class__"=some (some (.builtin "object.__class__"))
 mo:PySem.W.mroIn K C (.type "object")=some true
 mb:PySem.W.mroIn K C (.type "BaseException")=some true
theorem Aim {K:KKf}{h:Heap}{mg:Str→IA}{x:Str}{C:HR}{bmB:HY}{newId:String}(X:K.In h)(b:mg x=some (.ref C))(q:PySem.W.excIn K C bmB newId=true):OwnCls x C bmB newId mg h:=by
 refine ⟨b,?_⟩
 unfold PySem.W.excIn at q
 split at q
 ·rename_i d0 cd sl lk
  split at q
  ·rename_i C' bm a0 a1 a2 a3 n a5 hm hs
   simp only [BR,FS,Bool.not_eq_true'] at q
   obtain ⟨⟨⟨⟨⟨e1,e2⟩,hdel⟩,ht⟩,hok⟩,hni⟩:=q
   subst e1 e2
   obtain ⟨nm,bs,mro,ns,qn,hd,sn,sub,ab,col,del⟩:=cd
   dsimp only at hm hdel hok hni
   subst hm hdel
   have e:sl=#[a0,a1,a2,a3,some (.builtin n),a5]:=by
    obtain ⟨l⟩:=sl
    simp only at hs
    rw [hs]
   subst e
   have N0:h.isNs ns=true:=PySem.W.isNs_of_in X hok
   exact ⟨bm,ns,nm,qn,bs,hd,sn,sub,ab,col,d0,a0,a1,a2,a3,a5,_,X _ _ lk,.of_isNs N0,PySem.W.nsMap_none_of_in X hok hni,PySem.W.tail_of_in X ht⟩
  ·cases q
 ·cases q
theorem Aoe {K:KKf}{C:HR}(q:clsIn K C=true):∃dd cd sl,K.lookup C=some ⟨.type "type",dd,.cls cd,sl⟩:=by
 unfold clsIn at q
 split at q
 ·rename_i d0 cd sl lk
  exact ⟨_,_,_,lk⟩
 ·cases q
def Am6 (E:XK)(cls:HP):TS:=fun _ _ H=>E cls none H
section
variable {P:HU}{w:HV}{K:KKf}{mg:Str→IA}{base:Heap}{N:HW}{qual:Str}{scope:Scope}{f:HR}{cd:HP}{A:HS}{outer:List Env}{s₀:HQ}{H₀:Hp}{E:XK}
theorem Cw {x:Str}{C:HR}{np cpos pos p:Pos}{txt:Str}{j:Nat}(hb:mg x=some (.ref C))(c:PySem.W.excIn K C vB "ValueError.__new__"=true)(hg:Gl (Co (Es P w) P w K mg base N qual scope f cd A outer s₀ H₀ E) x)(hd:(x==("__debug__":Str))=false:=by decide) :
  PS (Co (Es P w) P w K mg base N qual scope f cd A outer s₀ H₀ E) (.Raise (some (.Call (.Name x np) [.Constant (.str txt) j p] [] cpos)) none pos) (Am6 E (.ref C)):=by
 intro pins s σ H D I h
 have O:=Aim (h:=s.heap) I.kIn hb c
 obtain ⟨tl,ns,nm,q,bs,hdct,sn,sub,ab,col,dd,k0,k1,k2,k3,k5,mN,hC,hN,hni,T⟩:=O.obj
 have FB:=PySem.F.excBase_ValueError
 refine wpAny_Raise_call_subT (C:=C) (nm:=nm) (q:=q) (N:=ns) (bs:=bs) (bm:=tl) (hdct:=hdct) (sn:=sn) (sub:=sub) (ab:=ab) (col:=col) (dd:=dd) (k0:=k0) (k1:=k1) (k2:=k2) (k3:=k3) (k5:=k5)
  (mN:=mN) FB (T.hasType FB.hasBase) (I.ok.hd rfl) rfl hni (Jq I hg hb ⟨rfl,?_⟩ hd)
 refine FT ?_
 refine spliced_more (Calls.Constant_str (DH ?_))
 exact ⟨rfl,(by show 1≤sizeLine;decide),hC,hN,T,fun h' e hx=>Amo (I.tok _) hx h⟩
end
def Zn (sp:Sp)(E:XK)(t:TA):TE:=fun σ H Q=>t σ H fun vs H1=>sp vs H1 Q E
section
variable {P:HU}{w:HV}{K:KKf}{mg:Str→IA}{base:Heap}{N:HW}{qual:Str}{scope:Scope}{f:HR}{cd:HP}{A:HS}{outer:List Env}{s₀:HQ}{H₀:Hp}{E:XK}
theorem Oz {x:Str}{ps:HW}{k k':Nat}{sp:Sp}{p pos:Pos}{e:Expr}{es:HZ}{t:TA}(C:A9 P w K mg base x ps k sp)(hr:Bz k' (Co (Es P w) P w K mg base N qual scope f cd A outer s₀ H₀ E).A)(hk:k≤k')(hg:Gl (Co (Es P w) P w K mg base N qual scope f cd A outer s₀ H₀ E) x)
  (ha:PA (Co (Es P w) P w K mg base N qual scope f cd A outer s₀ H₀ E) (e::es) t) (hdb:(x==("__debug__":Str))=false:=by decide)
  (he:starEach (e::es) (Co (Es P w) P w K mg base N qual scope f cd A outer s₀ H₀ E).env=(false,eval e (Co (Es P w) P w K mg base N qual scope f cd A outer s₀ H₀ E).env)::starEach es (Co (Es P w) P w K mg base N qual scope f cd A outer s₀ H₀ E).env:=by rfl)
  (hpl:(backTo pos (starEach es (Co (Es P w) P w K mg base N qual scope f cd A outer s₀ H₀ E).env)).any (·.1)=false:=by rfl) :
  PE (Co (Es P w) P w K mg base N qual scope f cd A outer s₀ H₀ E) (.Call (.Name x p) (e::es) [] pos) (Zn sp E t):=by
 obtain ⟨f',fd,h1,h2,h3,h4,_⟩:=C.ex
 have z:=Aa7 (X:=Co (Es P w) P w K mg base N qual scope f cd A outer s₀ H₀ E) (pos:=pos) (p:=p) (h4.mono hk) hr hg h1 h2 h3 .nil (Ace (E:=E)) ha hdb he hpl
 have e1:Yh sp [] E t=Zn sp E t:=by
  funext σ H Q
  unfold Yh Zn
  simp only [CG]
 rw [e1] at z
 exact z
end
abbrev cxM (X:Cx)(v:HP):Cx:={ X with A:=X.A.mark (some v),calm:=false,xe:=fun _ _=>False }
section
variable {X:Cx}{pins:List (HR×Obj)}{σ:L2.St}{H:Hp}{s:HQ}
theorem Wz (I:Ap X pins σ H s)(v:HP):Ap (cxM X v) pins σ H s:=
 ⟨⟨I.ok.mod,I.ok.kind,I.ok.glob,I.ok.blt,I.ok.above,I.ok.inj,I.ok.has,I.ok.cab,fun z=>(nomatch z),I.ok.frames,I.ok.stk,I.ok.exf,I.ok.bs,I.ok.bsz,I.ok.noex,I.ok.exfs,I.ok.funs,I.ok.frf⟩,I.os,I.bare,I.base,I.loc,I.cell,I.free,I.freeC,I.pin,I.hok,I.len⟩
theorem Gy {v:HP}(ok:X.Ok)(I:Ap (cxM X v) pins σ H s):Ap X pins σ H s:=⟨ok,I.os,I.bare,I.base,I.loc,I.cell,I.free,I.freeC,I.pin,I.hok,I.len⟩
end
structure Cat (K:KKf)(D:HR):Prop where
 lk:∃dd cd sl,K.lookup D=some ⟨.type "type",dd,.cls cd,sl⟩
 mb:PySem.W.mroIn K D (.type "BaseException")=some true
theorem Af4.cat {K:KKf}{C:HR}(c:Af4 K C):Cat K C:=⟨Aoe c.nw,c.mb⟩
theorem Adq {M:Model}{A:HS}{E:HP→HQ→Prop}{K:KKf}{a C D:HR}{s:HQ}{Q:Bool→HQ→Prop}(X:K.In s.heap)(p:∃o,s.heap.get? a=some o∧o.cls=.ref C)(c:Cat K D)
  (hm:PySem.W.mroIn K C (.ref D)=some true) (hq:Q true s):wpAny M A (excMatches (.ref a) (.ref D)) Q E s:=by
 obtain ⟨h,g,d,t,os⟩:=s
 obtain ⟨o,e,ec⟩:=p
 obtain ⟨dd,cd,sl,lk⟩:=c.lk
 have eD:=X _ _ lk
 have f:=tc_notTuple
 have l1:=GA (M:=M) X c.mb
 have l2:=GA (M:=M) X hm
 unfold excMatches
 repeat (first|with_reducible refine l1.at ?_|with_reducible refine l2.at ?_|(with_reducible refine GW e ?_;rw [ec])|with_reducible refine GW eD ?_|wp_step)
 exact hq
end Lw
end
section
namespace Lw
open PySem PySem.Spec PyProof.Rows L2
section
variable {X:Cx}{a b c:Expr}{ta tb tc:TE}{pos:Pos}{tg:Expr}
def Gp (mg:Str→IA)(x:Str)(v:V):Prop:=∃u,mg x=some u∧RelV v u
theorem Cp {x:Str}{v:V}(k:Gp X.mg x v)(hg:Gl X x)(hd:(x==("__debug__":Str))=false:=by decide):PE X (.Name x pos) (tC v):=by
 obtain ⟨u,h1,h2⟩:=k
 exact Ajz hg h1 h2 hd
def Aqs (K:KKf):R2:=fun x y H Q=>match x,y with
 |.ref p,.int i=>∃xs v,D7 K H p xs∧Q4 xs i=some v∧Q v H
 |_,_=>False
theorem Aoo:IxR X (Aqs X.K):=by
 intro value slice pins s σ H x y v u Q I rx ry h hs
 cases x<;>cases y<;>first
  |exact False.elim h
  | (obtain ⟨xs,w,e,z,q⟩:=h
     exact Yu value slice pins s σ H _ _ v u Q I rx ry ⟨_,xs,_,w,rfl,rfl,e,z,q⟩ hs)
def Tr (r r':R2)(ta tb tc:TE):TE:=fun σ H Q=>ta σ H fun x H1=>tb σ H1 fun y H2=>r x y H2 fun z H3=>match z with
 |.bl k=>Br k (tc σ H3 fun w' H4=>r' y w' H4 Q) (Q (.bl false) H3)
 |_=>False
theorem Sb (r r':R2)(ta tb tc:TE):Tr r r' ta tb tc=Ul r r' ta tb tc:=by
 funext σ H Q
 unfold Tr Ul
 congr 1
 funext x H1
 congr 1
 funext y H2
 congr 1
 funext z H3
 apply propext
 cases z<;>simp [Sn]
theorem Ah4 {op op':CmpOp}{r r':R2}(ho:Dv X (compareOp op) r)(ho':Dv X (compareOp op') r')(ha:PE X a ta)(hb:PE X b tb)(hc:PE X c tc)
  (hm:lastMarks [op,op'] [b,c]=false:=by with_unfolding_all rfl):PE X (.Compare a [op,op'] [b,c] pos) (Tr r r' ta tb tc):=by
 rw [Sb]
 exact Afx ho ho' ha hb hc hm
theorem O1 {op op':CmpOp}{r r':R2}(ho:Dv X (compareOp op) r)(ho':Dv X (compareOp op') r')(ha:PE X a ta)(hb:PE X b tb)(hc:PE X c tc)
  (hm:lastMarks [op,op'] [b,c]=false:=by with_unfolding_all rfl):PT X (.Compare a [op,op'] [b,c] pos) (J6 (Tr r r' ta tb tc)):=by
 rw [Qw,Sb]
 exact Agp ho ho' ha hb hc hm
def Asn:R2:=fun x y H Q=>match x,y with
 |.str i,.str j=>∃c,i=⟨#[c]⟩∧Q (.bl (decide (c∈co j))) H
 |_,_=>False
theorem Akz:Dv X (compareOp .In) Asn:=by
 intro pins s σ H x y v u Q I rx ry q
 cases x<;>cases y<;>first
  |exact False.elim q
  | (obtain ⟨k,rfl,q⟩:=q
     exact Ac0 _ _ _ _ _ _ _ _ _ I rx ry ⟨_,_,rfl,rfl,by rw [StrLaws.found_one];exact q⟩)
def Its (x:Str):It:=⟨fun i _=>i<x.length,fun i H v H'=>H'=H∧∃c,(co x)[i]? =some c∧v=.str ⟨#[c]⟩,fun i _=>x.length≤i⟩
theorem Adi {P:HU}{w:HV}{K:KKf}(x:Str)(t:Tok)(it:HR):Wx P w K tg (Its x) [it] it (fun i h=>h.IsStrIter it "str_ascii_iterator" x t i) where
 mem:=by simp
 obj:=fun i h st b hb=>by
  have e:b=it:=by simpa using hb
  subst e
  obtain ⟨o,e,_,d⟩:=st
  exact ⟨o,e,fun v z=>by rw [d] at z;cases z⟩
 keep:=fun i h h' st k=>by
  obtain ⟨o,e,r⟩:=st
  exact ⟨o,k it (by simp) o e,r⟩
 item:=by
  intro X hP hw hK hc i pins s σ H E I hf st hg
  subst hP hw hK
  have hg:i<x.cps.size:=hg
  obtain ⟨f0,f1,f2,f3,f4,f5⟩:=hf it (by simp)
  refine wpAny_pyNext_ascii_item st (c:=x.cps[i]) (by simp [hg]) fun h' st' sb=>?_
  have I1:Ap X pins σ H { s with heap:=h',toks:=s.toks+1 }:=I.turned (fun b o hb e=>(sb.2 b hb).trans e) f0 f1 f3 f4 f5
  obtain ⟨o,e,c,d⟩:=id st'
  exact ⟨_,rfl,Yg (s:={ s with heap:=h',toks:=s.toks+1 }) e c d (by decide) ⟨.str _,H,I1,⟨_,rfl⟩,⟨rfl,_,by simp [co,hg],rfl⟩,st',fun b hb=>(hf b hb).1⟩⟩
 done:=by
  intro X hP hw hK hc i pins s σ H E I hf st hg
  subst hP hw hK
  have hg:x.cps.size≤i:=hg
  obtain ⟨f0,f1,f2,f3,f4,f5⟩:=hf it (by simp)
  exact wpAny_pyNext_ascii_end (I.ok.hd hc) st (by simp [hg]) fun h' eb=>⟨rfl,I.turned (t':=s.toks) (fun b o hb e=>eb b o hb e) f0 f1 f3 f4 f5⟩
 self:=fun _ _ _ _ _ st h=>wpAny_pyIter_striter_ascii st h
theorem Ad4 {P:HU}{w:HV}{K:KKf}(x:Str)(t:Tok)(it:HR):Wx P w K tg (Its x) [it] it (fun i h=>h.IsStrIter it "str_iterator" x t i) where
 mem:=by simp
 obj:=fun i h st b hb=>by
  have e:b=it:=by simpa using hb
  subst e
  obtain ⟨o,e,_,d⟩:=st
  exact ⟨o,e,fun v z=>by rw [d] at z;cases z⟩
 keep:=fun i h h' st k=>by
  obtain ⟨o,e,r⟩:=st
  exact ⟨o,k it (by simp) o e,r⟩
 item:=by
  intro X hP hw hK hc i pins s σ H E I hf st hg
  subst hP hw hK
  have hg:i<x.cps.size:=hg
  obtain ⟨f0,f1,f2,f3,f4,f5⟩:=hf it (by simp)
  refine wpAny_pyNext_wide_item st (c:=x.cps[i]) (by simp [hg]) fun h' st' sb=>?_
  have I1:Ap X pins σ H { s with heap:=h',toks:=s.toks+1 }:=I.turned (fun b o hb e=>(sb.2 b hb).trans e) f0 f1 f3 f4 f5
  obtain ⟨o,e,c,d⟩:=id st'
  exact ⟨_,rfl,Yg (s:={ s with heap:=h',toks:=s.toks+1 }) e c d (by decide) ⟨.str _,H,I1,⟨_,rfl⟩,⟨rfl,_,by simp [co,hg],rfl⟩,st',fun b hb=>(hf b hb).1⟩⟩
 done:=by
  intro X hP hw hK hc i pins s σ H E I hf st hg
  subst hP hw hK
  have hg:x.cps.size≤i:=hg
  obtain ⟨f0,f1,f2,f3,f4,f5⟩:=hf it (by simp)
  exact wpAny_pyNext_wide_end (I.ok.hd hc) st (by simp [hg]) fun h' eb=>⟨rfl,I.turned (t':=s.toks) (fun b o hb e=>eb b o hb e) f0 f1 f3 f4 f5⟩
 self:=fun _ _ _ _ _ st h=>wpAny_pyIter_striter_wide st h
def Atd (tl:TE):TI:=fun σ H R=>tl σ H fun x H1=>match x with
 |.str z=>R (Its z) H1
 |_=>False
theorem Aed {l:Expr}{tl:TE}(hl:PE X l tl):PI X tg l (Atd tl):=by
 intro pins s σ H R I h
 refine Bi (hl pins s σ H _ I h) fun v s1 ⟨x,H1,I1,r1,q1⟩=>?_
 cases x<;>first
  |exact False.elim q1
  | (rename_i z
     obtain ⟨t,rfl⟩:=r1
     have fp:∀(o:Obj),∀b∈[s1.heap.objs.size],Ll X pins H1 b:=fun o b hb=>by
       have e:b=s1.heap.objs.size:=by simpa using hb
       subst e
       exact I1.fpOk (AF _) (I1.hok.fresh (AF _))
     cases ha:z.cps.all (· < 128) with
     | true=>
       refine wpAny_pyIter_ascii ha ⟨s1.heap.objs.size,[s1.heap.objs.size],_,_,H1,rfl,I1.kept (t':=s1.toks) fun b o e=>AB _ e,Adi z t _,⟨_,AG _ rfl,rfl,rfl⟩,fp default,q1⟩
     | false=>
       refine wpAny_pyIter_wide ha ⟨s1.heap.objs.size,[s1.heap.objs.size],_,_,H1,rfl,I1.kept (t':=s1.toks) fun b o e=>AB _ e,Ad4 z t _,⟨_,AG _ rfl,rfl,rfl⟩,fp default,q1⟩)
theorem Wr {x:Str}{g:TG}{te:TE}{k:Nat}{js:IC}{σ:L2.St}{H1:Hp}{Q:VK}(f:Nat→V)(hz:x.length≤1000)
  (hs:∀c H2,c∈co x→Ag H1 H2→∀P:VK,P (f c) H2→g (.str ⟨#[c]⟩) (List.replicate k none++capσ js σ) H2 fun σ2 H3=>σ2.drop k=capσ js σ∧te σ2 H3 P)
  (hq:∀D H',Ag H1 H'→H' D=some (.lst ((co x).map f))→Q (.ref D) H') :
  Hr (Its x) g te k js σ H1 Q:=by
 unfold Hr
 intro D hD
 have hl:=Bm x
 refine ⟨fun i m H=>m=x.length-i∧i≤x.length∧H=upd H1 D (.lst (((co x).take i).map f)),⟨x.length,by simp,AV _,rfl⟩,?_⟩
 rintro i m H ⟨rfl,hi,rfl⟩
 by_cases hlt:i<x.length
 ·refine .inr ⟨hlt,fun v H' y=>?_⟩
  obtain ⟨e1,c,hc,rfl⟩:=y
  subst e1
  refine hs c _ (BH hc) (An hD) _ ⟨_,Ad,?_,x.length-(i+1),by omega,rfl,hlt,?_⟩
  ·rw [AE,BQ]
   exact BO (GF _ _) (AL hlt (AO hz (by decide)))
  ·rw [Ab2,CI,hc,CB]
   rfl
 ·have e:i=x.length:=by omega
  subst e
  refine .inl ⟨AF _,hq D _ (An hD) ?_⟩
  rw [Ad,EB (by omega)]
def Aqy:ID→Hp→VK→Prop:=fun xs H Q=>match xs with
 |[.int i]=>i.natAbs.log2<1920∧Q (.str (toString i)) H
 |_=>False
theorem N7:Cy X (.type "str") Aqy:=by
 intro pins s σ H xs us Q I r h
 match xs,h with
 |[.int i],⟨h1,q⟩=>exact Ve pins s σ H _ us Q I r ⟨i,rfl,h1,q⟩
def Asu (K:KKf):ID→Hp→VK→Prop:=fun xs H Q=>match xs with
 |[.ref p]=>∃bs:List Bool,A1 K H p (bs.map V.bl)∧Q (.bl (bs.all id)) H
 |_=>False
theorem X7:∀{bs:List Bool} {us:HY},A6 (bs.map V.bl) us→us=bs.map Value.bool
 |[],_,r=>by cases r;rfl
 |d::ds,_,r=>by
  cases r with
  |cons r1 r2=>rw [show _=Value.bool d from r1,X7 r2];rfl
theorem Ac5:∀bs:List Bool,((List.range bs.length).all fun i=>bs.getD i true)=bs.all id:=by
 intro bs
 rw [FI,CH,CH]
 constructor
 ·intro h b hb
  obtain ⟨i,hi,rfl⟩:=GB hb
  have:=h i (BZ.mpr hi)
  rw [BF,AD hi] at this
  exact this
 ·intro h i hi
  have hi:=BZ.mp hi
  rw [BF,AD hi]
  exact h _ (EV hi)
theorem Acp (hc:X.calm=true):Cy X (.builtin "all") (Asu X.K):=by
 intro pins s σ H xs us Q I r h
 match xs,h with
 | [.ref p],⟨bs,h1,q⟩=>
  obtain ⟨u,rfl,r1⟩:=Fw r
  cases (show u=Value.ref p from r1)
  obtain ⟨its,rv,pl,_⟩:=I.list h1
  have e:=X7 rv
  subst e
  have hh:=I.ok.hd hc
  have il:=pl.isList
  obtain ⟨ob,eb,rb⟩:=id il
  have ne:p≠s.heap.objs.size:=AS (AH eb)
  refine call_all_walk (GU il ?_)
  refine ⟨s.heap.objs.size,_,_,_,_,_,fun i=>bs.getD i true,rfl,Walks.list (A:=X.A.in1) hh s.heap.objs.size p ne (bs.map Value.bool).toArray,⟨⟨_,AG _ rfl,rfl,rfl⟩,⟨ob,AB _ eb,rb⟩⟩,fun i v s2 Q2 E2 hP hQ=>?_,fun h' tk k=>?_⟩
  ·have hP:(bs.map Value.bool).toArray[i]? =some v:=hP
   rw [FQ,BJ] at hP
   cases e2:bs[i]? with
   |none=>
    rw [e2] at hP
    cases hP
   |some d=>
    rw [e2] at hP
    cases hP
    refine CW ?_
    have:bs.getD i true=d:=by rw [BF,e2];rfl
    rw [←this]
    exact hQ
  ·refine ⟨.bl (bs.all id),H,I.kept (t':=tk) fun b o e=>k b o ?_ (AB _ e),?_,q⟩
   ·intro z
    have z:b=s.heap.objs.size:=by simpa using z
    exact DM _ (z▸AH e)
   ·show Value.bool _=Value.bool _
    rw [AR,AE,Ac5]
end
end Lw
end
namespace Lw
open L2
end Lw
section
namespace Lw
open PySem PySem.Spec PyProof.Rows L2
section
variable {X:Cx}
def Api (t u:TS):TS:=fun D σ H=>∃R:L2.St→Hp→Prop,t { D with nx:=R } σ H∧∀σ' H',R σ' H'→u D σ' H'
theorem Ej {st:Stmt}{r:List Stmt}{t u:TS}(h1:PS X st t)(h2:Nt X r u):Nt X (st::r) (Api t u):=by
 intro pins s σ H D I h
 obtain ⟨R,h⟩:=h
 exact Y0 R h1 h2 pins s σ H D I h
end
end Lw
end
section
set_option autoImplicit false
namespace Lw
open PySem PySem.Spec PyProof.Rows L2
section
variable {X:Cx}{pos:Pos}
def Y4 (K:KKf):ID→Hp→VK→Prop:=fun xs H Q=>match xs with
 |[.ref p]=>∃ys,(A1 K H p ys∨D7 K H p ys)∧∀l,H l=none→Q (.ref l) (upd H l (.lst ys))
 |_=>False
theorem O6:Cy X (.type "list") (Y4 X.K):=by
 intro pins s σ H xs us Q I r h
 match xs,h with
 |[.ref p],⟨ys,h1,q⟩=>exact L3 pins s σ H _ us Q I r ⟨p,ys,rfl,h1,q⟩
end
end Lw
end
section
set_option autoImplicit false
namespace Lw
open PySem PySem.Spec PyProof.Rows L2
section
variable {X:Cx}{pos:Pos}
structure By (K:KKf)(a:HR)(xs:ID):Prop where
 sq:∀H,D7 K H a xs
 ty:∃o,K.lookup a=some o∧o.cls=.type "tuple"∧o.dict=none
theorem By.tyV {K:KKf}{a:HR}{xs:ID}(h:By K a xs)(H:Hp):tyV K "tuple" (.ref a) H:=.inr (.inl ⟨rfl,h.ty⟩)
def Ah0 (K:KKf):R2:=fun x y H Q=>match y with
 |.ref p=>∃xs,(A1 K H p xs∨D7 K H p xs)∧Fg x=true∧xs.all Fg=true∧Q (.bl (!inV x xs)) H
 |_=>False
theorem Ah5:Dv X (compareOp .NotIn) (Ah0 X.K):=by
 intro pins s σ H x y v u Q I rx ry q
 cases y<;>first
  |exact False.elim q
  | (obtain ⟨xs,h1,h2,h3,q⟩:=q
     exact Tp _ _ _ _ _ _ _ _ _ I rx ry ⟨_,xs,rfl,h1,h2,h3,q⟩)
def Apv:ID→Hp→VK→Prop:=fun xs H Q=>match xs with
 |[.str x]=>∃n,PySem.intText? x=some n∧x.length≤640∧Q (.int n) H
 |_=>False
theorem Y6:Cy X (.type "int") Apv:=by
 intro pins s σ H xs us Q I r h
 match xs,h with
 |[.str x],⟨n,h1,h2,q⟩=>
  obtain ⟨u,rfl,r1⟩:=Fw r
  obtain ⟨t,rfl⟩:=r1
  exact PySem.W.KIN.call_text h1 h2 ⟨.int n,H,I.tok _,⟨_,rfl⟩,q⟩
def Aqv:V→ID→Hp→VK→Prop:=fun x xs H Q=>match x,xs with
 |.str x,[.str y]=>Q (.bl (Txt.endswith x y)) H
 |_,_=>False
theorem Alv:MtR X "str.endswith" Aqv:=by
 intro pins s σ H x xs v us Q I rx rs h
 match x,xs,h with
 |.str x,[.str y],q=>
  obtain ⟨t,rfl⟩:=rx
  obtain ⟨u,rfl,r1⟩:=Fw rs
  obtain ⟨t',rfl⟩:=r1
  exact PySem.SC.endswith ⟨.bl _,H,I,rfl,q⟩
def Anm:V→ID→Hp→VK→Prop:=fun x xs H Q=>match x,xs with
 |.str x,[.str y]=>(y.length==0)=false∧x.length≤1000∧∀l H',Ag H H'→H' l=some (.lst ((Txt.split x y).map V.str))→Q (.ref l) H'
 |_,_=>False
theorem S6:∀(tk:Nat) (xs:HW),A6 (xs.map V.str) (strsFrom tk xs)
 |_,[]=>.nil
 |tk,x::r=>.cons ⟨_,rfl⟩ (S6 (tk+1) r)
theorem Abk:MtR X "str.split" Anm:=by
 intro pins s σ H x xs v us Q I rx rs h
 match x,xs,h with
 | .str x,[.str y],⟨hy,hx,q⟩=>
  obtain ⟨t,rfl⟩:=rx
  obtain ⟨u,rfl,r1⟩:=Fw rs
  obtain ⟨t',rfl⟩:=r1
  have big:(1002:Nat)≤sizeLine:=by decide
  have hl:=PyProof.Rows.split_le x y
  have hn:=I.hok.fresh (AF _)
  have out:∀(l:HY) (tk:Nat),A6 ((Txt.split x y).map V.str) l→EP X pins σ Q (.ref s.heap.objs.size) { s with heap:=s.heap.push { cls:=.type "list",data:=.seq l.toArray },toks:=tk }:=by
   intro l tk hv
   refine ⟨.ref _,_,I.laid (t':=tk) (o:=.lst ((Txt.split x y).map V.str)) (fun b ob q=>AB _ q) (AF _) ?_,rfl,q _ _ (An hn) Ad⟩
   exact ⟨by rw [AE];omega,l,0,hv,AG _ rfl⟩
  cases h1:(decide (x.length<y.length)||decide (Builtin.Str.strKind x<Builtin.Str.strKind y))
  ·cases hf:(Builtin.Str.occurrences x y 0 x.length (x.length+1)).isEmpty
   ·have e:Txt.split x y=Builtin.Str.partsBetween x (Builtin.Str.occurrences x y 0 x.length (x.length+1)) y.length:=(AI (ne_true_of_eq_false h1)).trans (AI (ne_true_of_eq_false hf))
    refine call_meets F.slot_str_split (GK _ _ _) F.entry_str_split (F.args_str_split_2 _ _) (meets_str_split_sep x y t t' h1 hy hf (by omega) (by rw [←e];omega)) ?_
    show wants (EP X pins σ Q) X.xe _ { s with toks:=_,heap:=s.heap.push { cls:=.type "list",data:=.seq (strsFrom s.toks (Builtin.Str.partsBetween x (Builtin.Str.occurrences x y 0 x.length (x.length+1)) y.length)).toArray } }
    exact out _ _ (by rw [e];exact S6 _ _)
   ·have e:Txt.split x y=[x]:=(AI (ne_true_of_eq_false h1)).trans (AN hf)
    exact call_meets F.slot_str_split (GK _ _ _) F.entry_str_split (F.args_str_split_2 _ _) (meets_str_split_not_found x y t t' h1 hy hf) (out [.str x t] s.toks (by rw [e];exact .cons ⟨_,rfl⟩ .nil))
  ·have e:Txt.split x y=[x]:=AN h1
   exact call_meets F.slot_str_split (GK _ _ _) F.entry_str_split (F.args_str_split_2 _ _) (meets_str_split_cannot_occur x y t t' h1) (out [.str x t] s.toks (by rw [e];exact .cons ⟨_,rfl⟩ .nil))
def PJ (X:Cx)(es:HZ)(t:Str→L2.St→Hp→VK→Prop):Prop:=∀(pins:List (HR×Obj)) (s:HQ) (σ:L2.St) (H:Hp) (acc:Str) (Q:VK),Ap X pins σ H s→t acc σ H Q→wpAny (model X.prog X.w) X.A (joinParts acc (evalEach es X.env)) (EP X pins σ Q) X.xe s
def tJ0:Str→L2.St→Hp→VK→Prop:=fun acc _ H Q=>acc.length≤sizeLine∧Q (.str acc) H
theorem Ano:PJ X [] tJ0:=fun pins s σ H acc Q I h=>PyProof.Rows.joinParts_nil ⟨.str acc,H,I.tok _,⟨_,rfl⟩,h.2⟩ h.1
def tJS (y:Str)(t:Str→L2.St→Hp→VK→Prop):Str→L2.St→Hp→VK→Prop:=fun acc σ H Q=>(acc++y).length≤sizeLine∧t (acc++y) σ H Q
theorem Aac {es:HZ}{t:Str→L2.St→Hp→VK→Prop}{y:Str}{j:Nat}(hz:y.length≤sizeLine:=by decide +kernel)(h:PJ X es t):PJ X (.Constant (.str y) j pos::es) (tJS y t):=by
 intro pins s σ H acc Q I q
 refine PyProof.Rows.joinParts_cons (Bi (A4 (x:=y) (j:=j) (pos:=pos) pins s σ H (fun v H'=>v=.str y∧H'=H) I ⟨rfl,rfl⟩) fun v s1 ⟨x,H1,I1,r1,e1,e2⟩=>?_)
 subst e1 e2
 obtain ⟨tk,rfl⟩:=r1
 exact ⟨q.1,h pins s1 σ H1 _ Q I1 q.2⟩
def tJV (te:TE)(t:Str→L2.St→Hp→VK→Prop):Str→L2.St→Hp→VK→Prop:=fun acc σ H Q=>te σ H fun x H1=>match x with
 |.str y=>y.length≤sizeLine∧(acc++y).length≤sizeLine∧t (acc++y) σ H1 Q
 |.int i=>i.natAbs.log2<1920∧(acc++(toString i:Str)).length≤sizeLine∧t (acc++(toString i:Str)) σ H1 Q
 |_=>False
theorem Uh {e:Expr}{es:HZ}{te:TE}{t:Str→L2.St→Hp→VK→Prop}(he:PE X e te)(h:PJ X es t):PJ X (.FormattedValue e (-1) none pos::es) (tJV te t):=by
 intro pins s σ H acc Q I q
 refine PyProof.Rows.joinParts_cons (PyProof.Rows.FormattedValue_plain (Bi (he pins s σ H _ I q) fun v s1 ⟨x,H1,I1,r1,q1⟩=>?_))
 cases x<;>first
  |exact False.elim q1
  | (rename_i y
     obtain ⟨tk,rfl⟩:=r1
     first
       |exact PyProof.Rows.formatField_str (fun t' k=>⟨q1.2.1,h pins _ σ H1 _ Q (I1.tok _) q1.2.2⟩) q1.1
       |exact PyProof.Rows.formatField_int_small q1.1 ⟨q1.2.1,h pins _ σ H1 _ Q (I1.tok _) q1.2.2⟩)
def dFS (t:Str→L2.St→Hp→VK→Prop):TE:=fun σ H Q=>t Str.empty σ H Q
theorem Ann {a b:Expr}{es:HZ}{t:Str→L2.St→Hp→VK→Prop}(h:PJ X (a::b::es) t):PE X (.JoinedStr (a::b::es) pos) (dFS t):=fun pins s σ H Q I q=>PyProof.Rows.JoinedStr_many (h pins s σ H Str.empty Q I q)
end
section
open PySem.AutoSeq1 (wpAny_loadPart')
open PySem.MeetsSeq PySem.MeetsSeq2 PySem.MeetsSeq3 PySem.SeqRoads2 PySem.SeqAt
theorem Rr (l:HR)(items:Array HP)(n:Nat)(dd:IB)(sl:Array (IA))(x:HP)(e:HP→Bool)(j:Nat)(hj:j<items.size)(hit:e items[j]=true)(hno:∀m (hm:m<items.size),m<j→e items[m]=false) :
  Meets (Builtin.«tuple.index» ⟨[.ref l,x],[]⟩)
   (fun A R s=>s.heap.get? l=some { cls:=.type "tuple",dict:=dd,data:=.seq items n,slots:=sl }∧(∀y,y∈items→EqAt A.in1 s y x (e y))∧R (.ok (.ret (.int j s.toks))) { s with toks:=s.toks+1 }):=
 .of_wp fun prog w A R s h=>by
  obtain ⟨hp,g,d,tk,os⟩:=s;obtain ⟨hl,he,h⟩:=h
  unfold Builtin.«tuple.index»
  simp only [Std.Legacy.Range.forIn_eq_forIn_range']
  wp_walk using wpAny_loadPart' hl,wpAny_forIn_list _ (fun Eo b s'=>b.1=none∧s'=⟨hp,g,d,tk,os⟩∧∃i,i≤j∧Eo=(List.range' 0 items.size).drop i) _
  case turn=>
   rintro k Eo b s' ⟨hb,rfl,i,hij,hz⟩
   have hlt:i<(List.range' 0 items.size).length:=by simp;omega
   rw [EO hlt] at hz
   injection hz with hk hrest
   have hk:k=i:=by rw [hk];simp
   subst hk
   have hi:k<items.size:=by simpa using hlt
   have e0:items[k]? =some items[k]:=by simp [hi]
   rw [e0]
   refine AA (he items[k] (Array.getElem_mem hi) prog w _ _ ?_)
   by_cases hkj:k=j
   ·subst hkj
    rw [hit]
    wp_walk
    exact ⟨_,rfl,h⟩
   ·rw [hno k hi (by omega)]
    wp_walk
    exact ⟨rfl,rfl,k+1,by omega,hrest⟩
  case fin=>
   rintro ⟨b1,b2⟩ s' ⟨hb,rfl,i,hij,hz⟩
   have hlt:i<(List.range' 0 items.size).length:=by simp;omega
   rw [EO hlt] at hz
   cases hz
  case h=>
   refine ⟨rfl,rfl,0,AV _,?_⟩
   rw [GM]
   congr 1
   simp [Std.Legacy.Range.size]
section
variable {X:Cx}{pos:Pos}
def Asc (K:KKf):V→ID→Hp→VK→Prop:=fun x xs H Q=>match x,xs with
 |.ref p,[v]=>∃(ys:ID) (j:Nat) (y:V),D7 K H p ys∧Fg v=true∧ys.all Fg=true∧ys[j]? =some y∧eqV y v=true∧(∀m z,m<j→ys[m]? =some z→eqV z v=false)∧Q (.int (j:Int)) H
 |_,_=>False
theorem Pz:∀{xs:ID} {us:HY} {i:Nat} {u:HP},A6 xs us→us[i]? =some u→∃x,xs[i]? =some x∧RelV x u
 |_,_,i,_,.nil,h=>by simp at h
 |x::_,_::_,0,u,.cons r _,h=>by
  simp at h
  subst h
  exact ⟨x,rfl,r⟩
 |_::_,_::_,i+1,u,.cons _ t,h=>by
  simp at h
  obtain ⟨x,h1,h2⟩:=Pz t h
  exact ⟨x,by simpa using h1,h2⟩
theorem Ame:MtR X "tuple.index" (Asc X.K):=by
 intro pins s σ H x xs v us Q I rx rs h
 match x,xs,h with
 | .ref p,[z],⟨ys,j,y,h1,fz,fs,hj,hit,hno,q⟩=>
  cases rx
  obtain ⟨u,rfl,r1⟩:=Fw rs
  obtain ⟨its,rv,⟨o,e,c,n,dd⟩,_⟩:=I.tuple h1
  obtain ⟨oc,od,odt,osl⟩:=o
  cases c
  cases dd
  have hlen:=rv.length
  have hj1:j<its.length:=by
   rw [←hlen]
   exact (BI.mp hj).1
  refine call_meets F.slot_tuple_index (T:="tuple") ⟨_,e,rfl⟩ F.entry_tuple_index (F.args_tuple_index_2 _ _) (Rr p its.toArray n od osl u (Yi z) j (by simpa using hj1) ?_ ?_) ⟨e,fun w hw=>Gs r1 fz rv fs w (by simpa using hw),⟨.int _,H,I.tok _,⟨_,rfl⟩,q⟩⟩
  ·obtain ⟨y',h2,h3⟩:=Pz rv (i:=j) (u:=its[j]) (by simp [hj1])
   rw [hj] at h2
   cases h2
   have:=Vn (x:=z) h3 (CH.mp fs _ (BH hj))
   simpa [this] using hit
  ·intro m hm hmj
   have hm:m<its.length:=by simpa using hm
   obtain ⟨y',h2,h3⟩:=Pz rv (i:=m) (u:=its[m]) (by simp [hm])
   have:=Vn (x:=z) h3 (CH.mp fs _ (BH h2))
   simpa [this] using hno m y' hmj h2
end
end
theorem X6 {c:Nat}:∀{a b X Y:IC},a++c::X=b++c::Y→c∉a→c∉b→a=b∧X=Y
 |[],[],_,_,h,_,_=>⟨rfl,(List.cons.inj h).2⟩
 |[],d::b,_,_,h,_,hb=>absurd (AU.mpr (.inl (List.cons.inj h).1)) hb
 |d::a,[],_,_,h,ha,_=>absurd (AU.mpr (.inl (List.cons.inj h).1.symm)) ha
 |d::a,e::b,_,_,h,ha,hb=>by
  obtain ⟨h1,h2⟩:=List.cons.inj h
  obtain ⟨h3,h4⟩:=X6 h2 (fun z=>ha (AJ _ z)) (fun z=>hb (AJ _ z))
  exact ⟨by rw [h1,h3],h4⟩
theorem Cm (c:Nat)(a b:Str)(r:HW):co (Str.join ⟨#[c]⟩ (a::b::r))=co a++c::co (Str.join ⟨#[c]⟩ (b::r)):=by
 show co (a++⟨#[c]⟩++Str.join ⟨#[c]⟩ (b::r))=_
 rw [Bp,Bp,Ny,CO]
 rfl
theorem Sg (c:Nat):∀{ws vs:HW},ws≠[]→vs≠[]→(∀p∈ws,c∉co p)→(∀p∈vs,c∉co p)→co (Str.join ⟨#[c]⟩ ws)=co (Str.join ⟨#[c]⟩ vs)→ws=vs
 |[],_,h,_,_,_,_=>absurd rfl h
 |_::_,[],_,h,_,_,_=>absurd rfl h
 |[a],[b],_,_,_,_,h=>by
  have:a=b:=Dg h
  rw [this]
 |[a],b::b'::r,_,_,ha,_,h=>by
  rw [Cm] at h
  have h:co a=_:=h
  refine absurd ?_ (ha a (AW.mpr rfl))
  rw [h]
  simp
 |a::a'::r,[b],_,_,_,hb,h=>by
  rw [Cm] at h
  have h:_=co b:=h
  refine absurd ?_ (hb b (AW.mpr rfl))
  rw [←h]
  simp
 |a::a'::r,b::b'::q,_,_,ha,hb,h=>by
  rw [Cm,Cm] at h
  obtain ⟨h1,h2⟩:=X6 h (ha a (AK ..)) (hb b (AK ..))
  have:=Sg c (ws:=a'::r) (vs:=b'::q) (by simp) (by simp) (fun p hp=>ha p (AJ _ hp)) (fun p hp=>hb p (AJ _ hp)) h2
  rw [Dg h1,this]
theorem Qm (c:Nat){ws:HW}(h:ws≠[])(hf:∀p∈ws,c∉co p){x:Str}(hx:co x=co (Str.join ⟨#[c]⟩ ws)):Txt.split x ⟨#[c]⟩=ws:=by
 have h1:Txt.split x ⟨#[c]⟩≠[]:=by
  intro e
  have:=split_pos x ⟨#[c]⟩
  rw [e] at this
  exact absurd this (by decide)
 exact Sg c h1 h (fun p hp=>StrLaws.split_free x c p hp) hf (by rw [StrLaws.join_split,hx])
theorem Apu (x:Str)(c:Nat):Txt.endswith x ⟨#[c]⟩=decide ((co x).getLast? =some c):=by
 have hl:=Bm x
 unfold Txt.endswith
 show (decide (0+1≤x.length)&&Builtin.Str.subAt x ⟨#[c]⟩ (x.length-1))=_
 by_cases h0:x.length=0
 ·have e:co x=[]:=List.eq_nil_of_length_eq_zero (by omega)
  rw [e,h0]
  rfl
 ·have hlt:x.length-1<x.cps.size:=by
   show x.length-1<x.length
   omega
  rw [AQ (by omega),FF]
  unfold Builtin.Str.subAt
  have e1:x.cps.extract (x.length-1) (x.length-1+(⟨#[c]⟩:Str).length)=#[x.cps[x.length-1]]:=by
   show x.cps.extract (x.length-1) (x.length-1+1)=_
   apply Array.toList_inj.mp
   rw [Array.toList_extract,List.extract_eq_take_drop]
   simp [EO (show x.length-1<x.cps.toList.length by simpa using hlt)]
  have e2:(co x).getLast? =some x.cps[x.length-1]:=by
   rw [List.getLast?_eq_getElem?,hl]
   unfold co
   rw [DQ]
   simp [hlt]
  rw [e1,e2]
  by_cases hc:x.cps[x.length-1]=c
  ·rw [hc]
   simp
  ·have:¬(#[x.cps[x.length-1]]:Array Nat)=#[c]:=by simpa using hc
   simp [hc]
theorem Ajn (x:Str):co (Txt.slice x none (some (-1)))=(co x).dropLast:=by
 have hl:=Bm x
 rw [Pm,HT.sIx_none,GM,Nat.sub_zero,List.dropLast_eq_take]
 congr 1
 show (if (-1:Int)<0 then (-1+(x.length:Int)).toNat else min (-1:Int).toNat x.length)=_
 rw [AN (by decide)]
 omega
def fg (m:Nat):IC:=co (Str.ofString (toString ((m:Nat):Int)))
theorem Aam (m:Nat):fg m=(Nat.toDigits 10 m).map Char.toNat:=PySem.W.KIN.signs_num m
theorem R9:∀d:Nat,d<10→(Nat.digitChar d).toNat=48+d:=by decide
theorem Xv {m:Nat}(h:m<10):fg m=[48+m]:=by
 rw [Aam,Nat.toDigits_of_lt_base h]
 simp [R9 m h]
theorem Sa {m:Nat}(h:10≤m):fg m=fg (m / 10)++[48+m % 10]:=by
 have hm:m % 10<10:=Nat.mod_lt m (by decide)
 have t:Nat.toDigits 10 (m / 10)++Nat.toDigits 10 (m % 10)=Nat.toDigits 10 (10*(m / 10)+m % 10):=Nat.toDigits_append_toDigits (by decide) (by omega) hm
 rw [Nat.div_add_mod] at t
 rw [Aam,←t,CB,←Aam,Nat.toDigits_of_lt_base hm]
 simp [R9 _ hm]
theorem Yv:∀(m:Nat),∀c∈fg m,48≤c∧c≤57:=by
 intro m
 induction m using Nat.strongRecOn with
 | _ m ih=>
  intro c hc
  by_cases h:m<10
  ·rw [Xv h] at hc
   have:c=48+m:=by simpa using hc
   omega
  ·rw [Sa (by omega)] at hc
   rcases BV.mp hc with hc|hc
   ·exact ih (m / 10) (by omega) c hc
   ·have:c=48+m % 10:=by simpa using hc
    omega
theorem Aj2:∀(m:Nat),0<m→∃c r,fg m=c::r∧49≤c:=by
 intro m
 induction m using Nat.strongRecOn with
 | _ m ih=>
  intro h0
  by_cases h:m<10
  ·exact ⟨_,_,Xv h,by omega⟩
  ·obtain ⟨c,r,h1,h2⟩:=ih (m / 10) (by omega) (by omega)
   rw [Sa (by omega),h1]
   exact ⟨c,_,rfl,h2⟩
theorem Af7 {m:Nat}(h:m<10000):1≤(fg m).length∧(fg m).length≤4:=by
 have l1:∀k,k<10→(fg k).length=1:=fun k hk=>by rw [Xv hk];rfl
 have l2:∀k,k<100→1≤(fg k).length∧(fg k).length≤2:=fun k hk=>by
  by_cases h:k<10
  ·rw [l1 k h];omega
  ·rw [Sa (by omega),AM,l1 _ (by omega)];simp
 have l3:∀k,k<1000→1≤(fg k).length∧(fg k).length≤3:=fun k hk=>by
  by_cases h:k<100
  ·have:=l2 k h;omega
  ·have:=l2 (k / 10) (by omega)
   rw [Sa (by omega),AM];simp;omega
 by_cases h:m<1000
 ·have:=l3 m h;omega
 ·have:=l3 (m / 10) (by omega)
  rw [Sa (by omega),AM];simp;omega
theorem Aep (m:Nat):NumText.digitsVal (fg m)=m:=by
 rw [Aam]
 exact PySem.W.KIN.val_back m
end Lw
end
section
set_option autoImplicit false
namespace Lw
open PySem PySem.Spec PyProof.Rows L2
section
variable {X:Cx}{pos p2 p3 p4:Pos}
def Aqo:ID→Hp→VK→Prop:=fun xs H Q=>match xs with
 |[.bl b]=>Q (.int (if b then 1 else 0)) H
 |_=>False
theorem Afe:Cy X (.type "int") Aqo:=by
 intro pins s σ H xs us Q I r h
 match xs,h with
 |[.bl b],q=>
  obtain ⟨u,rfl,r1⟩:=Fw r
  cases (show u=Value.bool b from r1)
  exact PySem.call_int_bool ⟨.int _,H,I.tok _,⟨_,rfl⟩,q⟩
end
end Lw
end
section
namespace Lw
open PySem PySem.Spec PyProof.Rows L2
section
variable {prog:HU}{w:HV}{A:HS}{R:Result→HQ→Prop}{s:HQ}
theorem Ag1 (elt tg iter cd:Expr)(scope:Scope)(pos:Pos)(it acc:HP)(env:Env) :
  compTurn (.ListComp elt [⟨tg,iter,[cd],0⟩] scope pos) 0 it acc env=(standAt iter.pos >>= fun _=>pyNext it >>= fun r=>match r with
   |none=>pure (.done .next)
   |some v=>letOwnedTupleGo tg it v >>= fun _=>assign tg env v >>= fun _=>isTrue cd env (eval cd env) >>= fun b=>if b=true then ((eval elt env >>= fun x=>call (.builtin "list.append") [acc,x] >>= fun _=>pure ()) >>= fun _=>again (.compLoop (.ListComp elt [⟨tg,iter,[cd],0⟩] scope pos) 0 it acc env)) else again (.compLoop (.ListComp elt [⟨tg,iter,[cd],0⟩] scope pos) 0 it acc env)):=by
 unfold compTurn
 simp only [List.getElem?_cons_zero,CP,BL,DE,List.forIn_cons,List.forIn_nil,FP]
 congr 1
 funext _
 congr 1
 funext r
 cases r with
 |none=>rfl
 |some v=>
  simp only [bind_assoc,pure_bind]
  rfl
theorem Z8 {elt tg iter cd:Expr}{scope:Scope}{pos:Pos}{it acc:HP}{env:Env}(I:Nat→HQ→Prop)
  (turn:∀n s,I n s→wpAny (model prog w) A (pyNext it) (fun r s1=>(r=none∧R (.ok .next) s1)∨∃v,r=some v∧wpAny (model prog w) A (letOwnedTupleGo tg it v) (fun _ s2=>wpAny (model prog w) A (assign tg env v) (fun _ s3=>
   wpAny (model prog w) A (isTrue cd env (eval cd env)) (fun b s3=>Br b (wpAny (model prog w) A (eval elt env) (fun x s4=>wpAny (model prog w) A (call (.builtin "list.append") [acc,x]) (fun _ s5=>∃m,m<n∧I m s5) (fun _ _=>False) s4) (fun _ _=>False) s3) (∃m,m<n∧I m s3)) (fun _ _=>False) s3) (fun _ _=>False) s2) (fun _ _=>False) s1) (fun _ _=>False) s)
  (n:Nat) (h:I n s):codeAny (model prog w) A (.compLoop (.ListComp elt [⟨tg,iter,[cd],0⟩] scope pos) 0 it acc env) R s:=by
 refine codeAny_loop rfl I (fun n s hI=>?_) n h
 show wpAny _ _ ((compTurn (.ListComp elt [⟨tg,iter,[cd],0⟩] scope pos) 0 it acc env).onRaise (fun x=>do noteFrame x env;theTreesLotGoes x)) _ _ s
 refine wpAny_noted ?_
 rw [Ag1]
 refine AA (wpAny_standAt (AA (BP (turn n s hI) (fun r s1 h1=>?_) fun _ _ z=>z.elim)))
 rcases h1 with ⟨rfl,h1⟩|⟨v,rfl,h1⟩
 ·exact AC h1
 ·refine AA (BP h1 (fun _ s2 h2=>?_) fun _ _ z=>z.elim)
  refine AA (BP h2 (fun _ s3 h3=>?_) fun _ _ z=>z.elim)
  refine AA (BP h3 (fun b s3 h3=>?_) fun _ _ z=>z.elim)
  cases b with
  |true=>
   refine AA (AA (BP (h3.1 rfl) (fun x s4 h4=>?_) fun _ _ z=>z.elim))
   refine AA (BP h4 (fun _ s5 h5=>?_) fun _ _ z=>z.elim)
   exact AC (AC ⟨rfl,h5⟩)
  |false=>exact AC ⟨rfl,h3.2 rfl⟩
end
@[irreducible] def N1 (J:It) (g:TG) (tc:TT) (te:TE) (k:Nat) (js:IC) (σ:L2.St) (H1:Hp) (Q:VK):Prop:=∀D,H1 D=none→∃W:Nat→Nat→Hp→Prop,(∃m,W 0 m (upd H1 D (.lst [])))∧∀i m H,W i m H →
 (J.stop i H∧Q (.ref D) H)∨(J.go i H∧∀x H',J.yld i H x H'→g x (List.replicate k none++capσ js σ) H' fun σ2 H2=>σ2.drop k=capσ js σ∧tc σ2 H2 fun b H3=>Br b (te σ2 H3 fun v H4=>∃xs,H4 D=some (.lst xs)∧xs.length<sizeLine∧∃m',m'<m∧W (i+1) m' (upd H4 D (.lst (xs++[v])))) (∃m',m'<m∧W (i+1) m' H3))
def P7 (wi:TI)(g:TG)(tc:TT)(te:TE)(k:Nat)(js:IC):TE:=fun σ H Q=>wi σ H fun J H1=>N1 J g tc te k js σ H1 Q
section
variable {X:Cx}
theorem P6 {elt iter tg cd:Expr}{scope:Scope}{pos:Pos}{wi:TI}{te:TE}{tc:TT}{g:TG}{N:HW}{cl:List (Str×HR)}(k:Nat)(js:IC)(hi:PI X tg iter wi)
  (hg:∀C s H fp,PG (Jv X N s H (compEnvC scope cl C X.env) fp) tg g) (hd:∀C s H fp,PT (Jv X N s H (compEnvC scope cl C X.env) fp) cd tc) (he:∀C s H fp,PE (Jv X N s H (compEnvC scope cl C X.env) fp) elt te) (hcalm:X.calm=true)
  (hclos:closureFor scope X.env=pure cl) (hkind:scope.kind=.function) (hcell:∀y∈scope.names,y.2≠.cell) (hnames:∀y∈scope.names,y.2=.local→scope.names.lookup y.1=some .local)
  (hcl:∀y c,cl.lookup y=some c→X.env.cells.lookup y=some c) (hhas:∀y,((relabel scope X.env).names.lookup y=some .cell∨(relabel scope X.env).names.lookup y=some .free)→∃c,cl.lookup y=some c)
  (hlen:N.length=k+js.length) (hcap:∀i j,js[i]? =some j→∃y,N[k+i]? =some y∧Cap X (relabel scope X.env) cl j y)
  (hs:∀x,foldedSetIterable iter X.env x=pure x) {pins:List (HR×Obj)} {s:HQ} {σ:L2.St} {H:Hp} {Q:VK} (I:Ap X pins σ H s) (h:P7 wi g tc te k js σ H Q) {cpos:Pos} {use:Option (HP→Sem Unit)} {Qv:HP→HQ→Prop}
  (fin:∀(s6:HQ) (H5:Hp) (D C:HR) (m:Str→IA),Ap X pins σ H5 s6→s6.heap.Ns C m→H5 C=none→X.s₀.heap.objs.size≤C→C≠X.env.locals→(∀x c,X.env.cells.lookup x=some c→c≠C)→(∀p∈X.pn++pins,p.1≠C)→Q (.ref D) H5 →
   compPost (model X.prog X.w) X.A X.xe use Qv (.ref D) C (.ok .next) s6) :
  wpAny (model X.prog X.w) X.A (comprehension (.ListComp elt [⟨tg,iter,[cd],0⟩] scope pos) scope X.env cpos (newList []) false (eval iter X.env) use) Qv X.xe s:=by
 refine wpAny_comprehension_free (use:=use) rfl hs hclos hkind hnames (Bi (hi pins s σ H _ I h) fun v s1 h1=>Bi h1 fun itv s2 h2=>?_)
 obtain ⟨it,fp,tn,J,H2,rfl,I2,T,st2,f2,h2⟩:=h2
 refine BS ?_
 have hD:H2 s2.heap.objs.size=none:=I2.hok.fresh (AF _)
 unfold N1 at h2
 obtain ⟨W,⟨m0,w0⟩,turn⟩:=h2 _ hD
 have I3:Ap X pins σ (upd H2 s2.heap.objs.size (.lst [])) { s2 with heap:=s2.heap.push { cls:=.type "list",dict:=none,data:=.seq ([]:HY).toArray } } :=
  I2.laid (t':=s2.toks) (fun b u e=>AB _ e) (AF _) ⟨AV _,[],0,.nil,AG _ rfl⟩
 have hlt:∀b∈fp,b<s2.heap.objs.size:=fun b hb=>by
  obtain ⟨o,e,_⟩:=T.obj _ _ st2 b hb
  exact AH e
 have f3:∀b∈fp,Ll X pins (upd H2 s2.heap.objs.size (.lst [])) b:=fun b hb=>⟨by rw [Am (AS (hlt b hb))];exact (f2 b hb).1,(f2 b hb).2⟩
 have st3:tn 0 (s2.heap.push { cls:=.type "list",dict:=none,data:=.seq ([]:HY).toArray }):=T.keep _ _ _ st2 fun b hb o e=>AB _ e
 have hlt3:∀b∈fp,b<(s2.heap.push { cls:=.type "list",dict:=none,data:=.seq ([]:HY).toArray }).objs.size:=fun b hb=>AL (hlt b hb) (by rw [BW];exact CU _)
 generalize hs3:({ s2 with heap:=s2.heap.push { cls:=.type "list",dict:=none,data:=.seq ([]:HY).toArray } }:HQ)=s3 at I3
 have eh:s3.heap=s2.heap.push { cls:=.type "list",dict:=none,data:=.seq ([]:HY).toArray }:=by rw [←hs3]
 rw [←eh] at st3 hlt3
 generalize hDD:s2.heap.objs.size=D at *
 generalize hH3:upd H2 D (.lst [])=H3 at *
 clear hs3 eh
 refine wpAny_newFunctionEnv (s:=s3) hcell (by intro y hy;simp at hy) (fun h4 n4 sb4=>?_) hkind
 have Ok:=Aa0 (N:=N) (C:=s3.heap.objs.size) I3 hkind (AF _) hcl hhas fun b hb=>⟨f3 b hb,hlt3 b hb⟩
 show codeAny _ _ (.compStart (.ListComp elt [⟨tg,iter,[cd],0⟩] scope pos) 0 (.ref it) (.ref D) (compEnvC scope cl s3.heap.objs.size X.env)) _ _
 generalize hC:s3.heap.objs.size=C at *
 have old:∀b o,s3.heap.get? b=some o→h4.get? b=some o:=fun b o e=>sb4.extBut b o (by rw [←hC];exact AS (AH e)) (AB _ e)
 have fresh:H3 C=none:=I3.hok.fresh (by rw [hC];exact AF _)
 have hcapl:∀{i:Nat} {x:Str} {v:V},N[i]? =some x→(List.replicate k none++capσ js σ)[i]? =some (some v)→∃u,L2.RelV v u∧An9 (compEnvC scope cl C X.env) h4 (fun _=>none) x u:=by
  intro i x v e1 e2
  by_cases hik:i<k
  ·rw [CF (by simpa using hik)] at e2
   rw [DS] at e2
   simp [hik] at e2
  ·rw [BN (by simpa using DV hik),EJ] at e2
   unfold capσ at e2
   rw [BJ] at e2
   cases ej:js[i-k]? with
   |none=>
    rw [ej] at e2
    cases e2
   | some j=>
    rw [ej] at e2
    have e2:(σ[j]?).join=some v:=Option.some.inj e2
    obtain ⟨y,hy,cp⟩:=hcap _ _ ej
    rw [show k+(i-k)=i by omega,e1] at hy
    cases hy
    obtain ⟨m,_,hl⟩:=I3.loc
    have e3:σ[j]? =some (some v):=by
     cases q:σ[j]? with
     |none=>
      rw [q] at e2
      cases e2
     |some o=>
      rw [q] at e2
      have:o=some v:=e2
      rw [this]
    obtain ⟨u,ru,lk⟩:=hl j x v cp.nm e3 (.inr (.inl cp.ko))
    refine ⟨u,ru,?_⟩
    rcases lk with ⟨z,_⟩|⟨_,c,hc,z⟩
    ·rw [cp.ko] at z
     cases z
    ·refine .inr ⟨.inl cp.ki,c,by rw [←hc];exact cp.cl,?_⟩
     obtain ⟨o,e,d⟩:=z
     exact ⟨o,old _ _ e,d⟩
 have I4:Ap (Jv X N s3 H3 (compEnvC scope cl C X.env) fp) [] (List.replicate k none++capσ js σ) H3 { s3 with heap:=h4,toks:=s3.toks+([]:List (Str×HP)).length }:=by
  refine ⟨Ok,rfl,I3.bare,Un.kept old,⟨_,n4,fun i x v e1 e2 e3=>?_⟩,fun x c e=>?_,fresh,fun x c e=>I3.freeC x c (hcl x c e),fun p hp=>absurd hp (by simp),I3.hok.kept old,?_⟩
  ·obtain ⟨u,ru,lk⟩:=hcapl e1 e2
   refine ⟨u,ru,?_⟩
   rcases lk with ⟨z,q⟩|q
   ·cases q
   ·exact .inr q
  ·obtain ⟨v,o,e1,d⟩:=I3.cell x c (hcl x c e)
   exact ⟨v,o,old _ _ e1,d⟩
  ·simp [capσ,hlen]
 have fp4:∀{H':Hp},(∀b∈fp,H' b=none)→∀b∈fp,Ll (Jv X N s3 H3 (compEnvC scope cl C X.env) fp) [] H' b:=fun hn b hb=>
  ⟨hn b hb,(Ok.exf b hb).1,Ok.exfs b hb,.inl hb,fun x c e=>(Ok.exf b hb).2 x c e,fun p hp=>absurd hp (by simp)⟩
 have st4:tn 0 h4:=T.keep _ _ _ st3 fun b hb o e=>old b o e
 have run:∀s4:HQ,s4={ s3 with heap:=h4,toks:=s3.toks+([]:List (Str×HP)).length } →
   codeAny (model X.prog X.w) X.A (.compLoop (.ListComp elt [⟨tg,iter,[cd],0⟩] scope pos) 0 (.ref it) (.ref D) (compEnvC scope cl C X.env)) (compPost (model X.prog X.w) X.A X.xe use Qv (.ref D) C) s4:=by
  rintro s4 rfl
  refine Z8 (fun n s'=>∃i H' σ',Ap (Jv X N s3 H3 (compEnvC scope cl C X.env) fp) [] σ' H' s'∧(∀j:Nat,∀v,(List.replicate k none++capσ js σ)[j]? =some (some v)→σ'[j]? =some (some v))∧tn i s'.heap∧(∀b∈fp,H' b=none)∧W i n H') ?_ m0
   ⟨0,H3,_,I4,fun _ _ z=>z,st4,fun b hb=>(f3 b hb).1,w0⟩
  rintro n s5 ⟨i,H5,σ5,I5,cap5,st5,fr5,w5⟩
  have I5':=I5.weak (σ':=List.replicate k none++capσ js σ) (by rw [I5.len];simp [capσ,hlen]) cap5
  rcases turn i n H5 w5 with ⟨stop,q⟩|⟨go,step⟩
  ·refine Bi (T.done (Jv X N s3 H3 (compEnvC scope cl C X.env) fp) rfl rfl rfl hcalm i [] s5 σ5 H5 _ I5 (fp4 fr5) st5 stop) fun r s6 ⟨hr,I6⟩=>.inl ⟨hr,?_⟩
   obtain ⟨m6,n6,_⟩:=I6.loc
   have hCf:H5 C=none:=I6.free
   have u6:=I6.base
   have uC:Un (La X.stack) fp H3 H5 s3.heap s6.heap:=⟨u6.keep,u6.slot,u6.free,u6.there,u6.tups,u6.frzs,u6.tbls⟩
   have I7:Ap X pins σ H5 s6:=I3.call' (s':=s6) I6.os uC I6.hok I6.bare fun b hb=>⟨(f3 b hb).2.2.2.1,(f3 b hb).2.1,(f3 b hb).2.2.2.2.1,(f3 b hb).2.2.2.2.2⟩
   have lt3:∀b o,s3.heap.get? b=some o→b≠C:=fun b o e=>by rw [←hC];exact AS (AH e)
   refine fin s6 H5 D C m6 I7 n6 hCf (by rw [←hC];exact I3.sz) (by rw [←hC];exact CQ I3.lt) (fun x c e=>?_) (fun p hp=>lt3 p.1 p.2 (I3.pin p hp).1) q
   obtain ⟨v,o,e1,_⟩:=I3.cell x c e
   exact lt3 c o e1
  ·refine Bi (T.item (Jv X N s3 H3 (compEnvC scope cl C X.env) fp) rfl rfl rfl hcalm i [] s5 _ H5 _ I5' (fp4 fr5) st5 go) fun r s6 ⟨u,hr,h6⟩=>.inr ⟨u,hr,?_⟩
   refine Bi h6 fun _ s7 ⟨x,H7,I7,r7,y7,st7,fr7⟩=>?_
   have I7':=I7.pinned (fp4 fr7) (T.obj _ _ st7)
   refine Bi (hg C s3 H3 fp _ s7 _ H7 x u _ I7' r7 (step x H7 y7)) fun _ s8 ⟨σ8,H8,I8,d8,q8⟩=>?_
   have capk:∀(j:Nat) v,(List.replicate k none++capσ js σ)[j]? =some (some v)→σ8[j]? =some (some v):=fun j v e=>by
    by_cases hjk:j<k
    ·rw [CF (by simpa using hjk),DS] at e
     simp [hjk] at e
    ·rw [BN (by simpa using DV hjk),EJ,←d8,List.getElem?_drop] at e
     rw [show k+(j-k)=j by omega] at e
     exact e
   refine Bi (hd C s3 H3 fp _ s8 σ8 H8 _ I8 q8) fun b s8' ⟨H8',I8',q8'⟩=>⟨fun hb=>?_,fun hb=>?_⟩
   ·refine Bi (he C s3 H3 fp _ s8' σ8 H8' _ I8' (q8'.1 hb)) fun vv s9 ⟨vx,H9,I9,r9,xs,hx9,hz9,m',hm',w9⟩=>?_
    obtain ⟨z9,its,n9,rl,e9⟩:=(show Bf X.prog X.w H9 s9.heap D (.lst xs) from I9.hok D _ hx9)
    have app:=Jw (X:=Jv X N s3 H3 (compEnvC scope cl C X.env) fp) _ s9 σ8 H9 (.ref D) [vx] (.ref D) [vv] (fun _ H'=>H'=upd H9 D (.lst (xs++[vx]))) I9 rfl (.cons r9 .nil) ⟨D,xs,vx,rfl,rfl,hx9,hz9,rfl⟩
    refine Bi app fun _ s10 ⟨_,H10,I10,_,e10⟩=>?_
    subst e10
    refine ⟨m',hm',i+1,_,σ8,I10.unpinned (pins:=[]),capk,T.keep _ _ _ st7 fun b hb o e=>(I10.pin (b,o) (AX _ (AX _ (Cu hb e)))).1,fun b hb=>?_,w9⟩
    obtain ⟨o,e,d⟩:=T.obj _ _ st7 b hb
    exact (I10.pin (b,o) (AX _ (AX _ (Cu hb e)))).2.1
   ·obtain ⟨m',hm',w9⟩:=q8'.2 hb
    refine ⟨m',hm',i+1,_,σ8,I8'.unpinned (pins:=[]),capk,T.keep _ _ _ st7 fun b hb o e=>(I8'.pin (b,o) (AX _ (AX _ (Cu hb e)))).1,fun b hb=>?_,w9⟩
    obtain ⟨o,e,d⟩:=T.obj _ _ st7 b hb
    exact (I8'.pin (b,o) (AX _ (AX _ (Cu hb e)))).2.1
 exact codeAny_compStart_list (run _ rfl) (T.self X.A 0 _ _ _ st4 (run _ rfl))
theorem Ai9 {elt iter tg cd:Expr}{scope:Scope}{pos:Pos}{wi:TI}{te:TE}{tc:TT}{g:TG}{N:HW}{cl:List (Str×HR)}(k:Nat)(js:IC)(hi:PI X tg iter wi)
  (hg:∀C s H fp,PG (Jv X N s H (compEnvC scope cl C X.env) fp) tg g) (hd:∀C s H fp,PT (Jv X N s H (compEnvC scope cl C X.env) fp) cd tc) (he:∀C s H fp,PE (Jv X N s H (compEnvC scope cl C X.env) fp) elt te) (hcalm:X.calm=true)
  (hclos:closureFor scope X.env=pure cl) (hkind:scope.kind=.function) (hcell:∀y∈scope.names,y.2≠.cell) (hnames:∀y∈scope.names,y.2=.local→scope.names.lookup y.1=some .local)
  (hcl:∀y c,cl.lookup y=some c→X.env.cells.lookup y=some c) (hhas:∀y,((relabel scope X.env).names.lookup y=some .cell∨(relabel scope X.env).names.lookup y=some .free)→∃c,cl.lookup y=some c)
  (hlen:N.length=k+js.length) (hcap:∀i j,js[i]? =some j→∃y,N[k+i]? =some y∧Cap X (relabel scope X.env) cl j y)
  (hs:∀x,foldedSetIterable iter X.env x=pure x:=by intro _;rfl):PE X (.ListComp elt [⟨tg,iter,[cd],0⟩] scope pos) (P7 wi g tc te k js):=by
 intro pins s σ H Q I h
 rw [eval_ListComp]
 refine P6 k js hi hg hd he hcalm hclos hkind hcell hnames hcl hhas hlen hcap hs I h fun s6 H5 D C m I6 n6 z1 z2 z3 z4 z5 q=>⟨m,n6,fun h7 sb7=>⟨.ref D,H5,?_,rfl,q⟩⟩
 exact I6.turned (t':=s6.toks) (fun b o hb e=>(sb7.2 b hb).trans e) z1 z3.symm.symm (.inr z2) z4 z5
theorem Adf {elt iter tg cd:Expr}{scope:Scope}{pos py spos:Pos}{i:Nat}{y:Str}{wi:TI}{te:TE}{tc:TT}{g:TG}{N:HW}{cl:List (Str×HR)}(k:Nat)(js:IC)(hi:PI X tg iter wi)
  (hg:∀C s H fp,PG (Jv X N s H (compEnvC scope cl C X.env) fp) tg g) (hd:∀C s H fp,PT (Jv X N s H (compEnvC scope cl C X.env) fp) cd tc) (he:∀C s H fp,PE (Jv X N s H (compEnvC scope cl C X.env) fp) elt te) (hcalm:X.calm=true)
  (hclos:closureFor scope X.env=pure cl) (hkind:scope.kind=.function) (hcell:∀y∈scope.names,y.2≠.cell) (hnames:∀y∈scope.names,y.2=.local→scope.names.lookup y.1=some .local)
  (hcl:∀y c,cl.lookup y=some c→X.env.cells.lookup y=some c) (hhas:∀y,((relabel scope X.env).names.lookup y=some .cell∨(relabel scope X.env).names.lookup y=some .free)→∃c,cl.lookup y=some c)
  (hlen:N.length=k+js.length) (hcap:∀i j,js[i]? =some j→∃y,N[k+i]? =some y∧Cap X (relabel scope X.env) cl j y)
  (hs:∀x,foldedSetIterable iter X.env x=pure x) (hN:X.N.Nodup) (hi':X.N[i]? =some y) (hy:X.env.scope.names.lookup y=some .local) (hsw:swapsWith (.ListComp elt [⟨tg,iter,[cd],0⟩] scope pos) (some (.Name y py)) spos.line X.env=pure true) :
  PS X (.Assign [.Name y py] (.ListComp elt [⟨tg,iter,[cd],0⟩] scope pos) spos) (Afn (P7 wi g tc te k js) (Xl i)):=by
 intro pins s σ H D I h
 rw [exec_Assign_Name_used _ _ _ _ hsw]
 refine AA (wpAny_standAt (AA ?_))
 show wpAny _ X.A (do let _ ←comprehension (.ListComp elt [⟨tg,iter,[cd],0⟩] scope pos) scope X.env _ (newList []) false (eval iter X.env) (some (assign (.Name y py) X.env))) _ _ s
 refine AA (BP (P6 k js hi hg hd he hcalm hclos hkind hcell hnames hcl hhas hlen hcap hs (use:=some (assign (.Name y py) X.env)) (Qv:=fun _ s'=>SP X pins D .next s') I h fun s6 H5 D' C m I6 n6 z1 z2 z3 z4 z5 q=>?_)
  (fun _ s' hq=>AC (AC hq)) fun _ _ e=>e)
 show wpAny _ X.A (assign (.Name y py) X.env (.ref D')) _ _ _
 refine wpAny_assign_Name (Su I6 hN hi' (.inl hy) (v:=.ref D') rfl (fun s8 I8 ⟨a,sb,ha⟩=>?_) (.inr hy))
 have na:C≠a:=by
  rcases ha with rfl|ha
  ·exact z3
  ·exact CN (z4 _ _ ha)
 exact ⟨m,n6.sameBut sb na,fun h9 sb9=>⟨_,H5,I8.turned (t':=s8.toks) (fun b o hb e=>(sb9.2 b hb).trans e) z1 z3 (.inr z2) z4 z5,q⟩⟩
theorem Ae8 {elt iter tg cd:Expr}{scope:Scope}{pos:Pos}{wi:TI}{te:TE}{tc:TT}{g:TG}{cl:List (Str×HR)}(own ys:HW)(js:IC)(hclos:closureFor scope X.env=pure cl)(hi:PI X tg iter wi)
  (hg:∀C s H fp,PG (Jv X (own++ys) s H (compEnvC scope cl C X.env) fp) tg g) (hd:∀C s H fp,PT (Jv X (own++ys) s H (compEnvC scope cl C X.env) fp) cd tc) (he:∀C s H fp,PE (Jv X (own++ys) s H (compEnvC scope cl C X.env) fp) elt te) (hcalm:X.calm=true) (hkind:scope.kind=.function)
  (hcell:(scope.names.all fun y=>y.2 != .cell)=true) (hnames:(scope.names.all fun y=>y.2 != .local||scope.names.lookup y.1==some .local)=true) (hfr:(scope.names.all fun y=>y.2 != .free||(cl.map (·.1)).contains y.1)=true)
  (hcl:Po X.env.cells cl) (hcap:Re X (relabel scope X.env) cl ys js) (hs:∀x,foldedSetIterable iter X.env x=pure x:=by intro _;rfl) :
  PE X (.ListComp elt [⟨tg,iter,[cd],0⟩] scope pos) (P7 wi g tc te own.length js):=by
 rw [CH] at hcell hnames hfr
 have hc:∀y∈scope.names,y.2≠.cell:=fun y hy z=>by
  have:=hcell y hy
  rw [z] at this
  cases this
 refine Ai9 own.length js hi hg hd he hcalm hclos hkind hc (fun y hy z=>?_) hcl.at (fun y h=>?_) (by rw [AM,hcap.len]) (fun i j e=>?_) hs
 ·have:=hnames y hy
  rw [z] at this
  simpa using this
 ·obtain ⟨z,hz,rfl,hk⟩:∃z∈scope.names,z.1=y∧(z.2=.free∨z.2=.cell):=by
   rcases h with h|h
   ·exact Ci h (.inl rfl)
   ·exact Ci h (.inr rfl)
  rcases hk with hk|hk
  ·have:=hfr z hz
   rw [hk] at this
   exact G6 (by simpa using this)
  ·exact absurd hk (hc z hz)
 ·obtain ⟨y,h1,h2⟩:=hcap.at i j e
  exact ⟨y,by rw [BN (HA _ _),GQ];exact h1,h2⟩
theorem Sz {elt iter tg cd:Expr}{scope:Scope}{pos py spos:Pos}{i:Nat}{y:Str}{wi:TI}{te:TE}{tc:TT}{g:TG}{cl:List (Str×HR)}(own ys:HW)(js:IC)(hclos:closureFor scope X.env=pure cl)(hi:PI X tg iter wi)
  (hg:∀C s H fp,PG (Jv X (own++ys) s H (compEnvC scope cl C X.env) fp) tg g) (hd:∀C s H fp,PT (Jv X (own++ys) s H (compEnvC scope cl C X.env) fp) cd tc) (he:∀C s H fp,PE (Jv X (own++ys) s H (compEnvC scope cl C X.env) fp) elt te) (hcalm:X.calm=true) (hkind:scope.kind=.function)
  (hcell:(scope.names.all fun y=>y.2 != .cell)=true) (hnames:(scope.names.all fun y=>y.2 != .local||scope.names.lookup y.1==some .local)=true) (hfr:(scope.names.all fun y=>y.2 != .free||(cl.map (·.1)).contains y.1)=true)
  (hcl:Po X.env.cells cl) (hcap:Re X (relabel scope X.env) cl ys js) (hN:X.N.Nodup) (hi':X.N[i]? =some y) (hy:X.env.scope.names.lookup y=some .local) (hs:∀x,foldedSetIterable iter X.env x=pure x:=by intro _;rfl) (hsw:swapsWith (.ListComp elt [⟨tg,iter,[cd],0⟩] scope pos) (some (.Name y py)) spos.line X.env=pure true:=by rfl) :
  PS X (.Assign [.Name y py] (.ListComp elt [⟨tg,iter,[cd],0⟩] scope pos) spos) (Afn (P7 wi g tc te own.length js) (Xl i)):=by
 rw [CH] at hcell hnames hfr
 have hc:∀y∈scope.names,y.2≠.cell:=fun y hy z=>by
  have:=hcell y hy
  rw [z] at this
  cases this
 refine Adf own.length js hi hg hd he hcalm hclos hkind hc (fun y hy z=>?_) hcl.at (fun y h=>?_) (by rw [AM,hcap.len]) (fun i j e=>?_) hs hN hi' hy hsw
 ·have:=hnames y hy
  rw [z] at this
  simpa using this
 ·obtain ⟨z,hz,rfl,hk⟩:∃z∈scope.names,z.1=y∧(z.2=.free∨z.2=.cell):=by
   rcases h with h|h
   ·exact Ci h (.inl rfl)
   ·exact Ci h (.inr rfl)
  rcases hk with hk|hk
  ·have:=hfr z hz
   rw [hk] at this
   exact G6 (by simpa using this)
  ·exact absurd hk (hc z hz)
 ·obtain ⟨y,h1,h2⟩:=hcap.at i j e
  exact ⟨y,by rw [BN (HA _ _),GQ];exact h1,h2⟩
end
end Lw
end
section
namespace Lw
open PySem PySem.Spec PyProof.Rows L2
def dd (l:HW)(x:Str):HW:=if x∈l then l else l++[x]
def lS (a b:Str):Prop:=a.cps.toList<b.cps.toList
instance:DecidableRel lS:=fun a b=>inferInstanceAs (Decidable (a.cps.toList<b.cps.toList))
theorem Y7 (a:Str):¬lS a a:=List.lt_irrefl _
theorem Ak7 {a b c:Str}(h:lS a b)(h':lS b c):lS a c:=List.lt_trans h h'
theorem Zu {a b:Str}(h:¬lS a b)(h':¬lS b a):a=b:=by
 have e:=List.le_antisymm (List.not_lt.mp h') (List.not_lt.mp h)
 cases a;cases b
 simpa using Array.toList_inj.mp e
theorem Aph {a b:Str}(h:lS a b):¬lS b a:=List.lt_asymm h
abbrev Inc (l:HW):Prop:=l.Pairwise lS
theorem Me:∀{l m:HW},Inc l→Inc m→(∀x,x∈l↔x∈m)→l=m
 |[],[],_,_,_=>rfl
 |[],b::m,_,_,h=>absurd ((h b).mpr (AK ..)) (by simp)
 |a::l,[],_,_,h=>absurd ((h a).mp (AK ..)) (by simp)
 | a::l,b::m,h1,h2,h=>by
  have ⟨a1,a2⟩:=BY.mp h1
  have ⟨b1,b2⟩:=BY.mp h2
  have e:a=b:=by
   rcases AU.mp ((h a).mp (AK ..)) with e|e
   ·exact e
   ·rcases AU.mp ((h b).mpr (AK ..)) with f|f
    ·exact f.symm
    ·exact absurd (b1 a e) (Aph (a1 b f))
  subst e
  rw [Me a2 b2 fun x=>⟨fun hx=>?_,fun hx=>?_⟩]
  ·rcases AU.mp ((h x).mp (AJ _ hx)) with e|e
   ·subst e
    exact absurd (a1 x hx) (Y7 x)
   ·exact e
  ·rcases AU.mp ((h x).mpr (AJ _ hx)) with e|e
   ·subst e
    exact absurd (b1 x hx) (Y7 x)
   ·exact e
def Xg (x:Str):HW→HW
 |[]=>[x]
 |y::l=>if lS x y then x::y::l else if lS y x then y::Xg x l else y::l
theorem Qf {x z:Str}:∀{l:HW},z∈Xg x l↔z=x∨z∈l
 |[]=>by simp [Xg]
 | y::l=>by
  unfold Xg
  split
  ·simp
  ·split
   ·simp only [AU,Qf (l:=l)]
    constructor
    ·rintro (h|h|h)
     ·exact .inr (.inl h)
     ·exact .inl h
     ·exact .inr (.inr h)
    ·rintro (h|h|h)
     ·exact .inr (.inl h)
     ·exact .inl h
     ·exact .inr (.inr h)
   ·rename_i h1 h2
    have e:=Zu h1 h2
    subst e
    simp
theorem Ya {x:Str}:∀{l:HW},Inc l→Inc (Xg x l)
 |[],_=>FD ..
 | y::l,h=>by
  have ⟨h1,h2⟩:=BY.mp h
  unfold Xg
  split
  ·rename_i c
   exact BY.mpr ⟨fun z hz=>(AU.mp hz).elim (fun e=>e▸c) (fun e=>Ak7 c (h1 z e)),h⟩
  ·split
   ·rename_i c
    exact BY.mpr ⟨fun z hz=>(Qf.mp hz).elim (fun e=>e▸c) (h1 z),Ya h2⟩
   ·exact h
def V4 (l:HW):HW:=l.foldr Xg []
theorem Cz:∀(l:HW),Inc (V4 l)
 |[]=>List.Pairwise.nil
 |x::l=>Ya (Cz l)
theorem E8 {x:Str}:∀{l:HW},x∈V4 l↔x∈l
 |[]=>Iff.rfl
 |y::l=>by
  show x∈Xg y (V4 l)↔_
  rw [Qf,E8 (l:=l),AU]
theorem Zf {l:HW}{x z:Str}:z∈dd l x↔z∈l∨z=x:=by
 unfold dd
 split
 ·rename_i h
  constructor
  ·exact .inl
  ·rintro (h'|rfl)
   ·exact h'
   ·exact h
 ·simp
theorem Qg {l:HW}{x:Str}(h:l.Nodup):(dd l x).Nodup:=by
 unfold dd
 split
 ·exact h
 ·rename_i c
  rw [List.nodup_append]
  exact ⟨h,DI.mpr ⟨by simp,List.nodup_nil⟩,fun a ha b hb e=>by
   rw [AW] at hb
   subst hb e
   exact c ha⟩
def ddn (val:Nat→Str)(i:Nat):HW:=((List.range i).map val).foldl dd []
theorem Ln (val:Nat→Str)(i:Nat):ddn val (i+1)=dd (ddn val i) (val i):=by
 unfold ddn
 rw [List.range_succ,CB,List.foldl_append]
 rfl
theorem M3 (val:Nat→Str):∀i,(ddn val i).Nodup
 |0=>List.nodup_nil
 |i+1=>by
  rw [Ln]
  exact Qg (M3 val i)
theorem Aav {val:Nat→Str}{x:Str}:∀{i:Nat},x∈ddn val i↔∃j,j<i∧val j=x
 |0=>⟨fun h=>(by cases h),fun ⟨j,h,_⟩=>absurd h (Nat.not_lt_zero _)⟩
 | i+1=>by
  rw [Ln,Zf,Aav (i:=i)]
  constructor
  ·rintro (⟨j,h,e⟩|e)
   ·exact ⟨j,CD h,e⟩
   ·exact ⟨i,DN _,e.symm⟩
  ·rintro ⟨j,h,e⟩
   rcases Nat.lt_succ_iff_lt_or_eq.mp h with h|rfl
   ·exact .inl ⟨j,h,e⟩
   ·exact .inr e.symm
theorem Lg {l:HW}(h:l.Pairwise fun a b=>¬lS b a)(n:l.Nodup):Inc l:=by
 induction l with
 |nil=>exact List.Pairwise.nil
 |cons a l ih=>
  have ⟨h1,h2⟩:=BY.mp h
  have ⟨n1,n2⟩:=DI.mp n
  refine BY.mpr ⟨fun b hb=>?_,ih h2 n2⟩
  refine GG fun c=>n1 ?_
  have e:=Zu c (h1 b hb)
  exact e▸hb
theorem Kk {α:Type}:∀(l:List α) (i:Nat) (x:α),l[i]? =some x→(x::l.eraseIdx i).Perm l
 |[],i,x,h=>by simp at h
 |a::l,0,x,h=>by
  simp at h
  subst h
  exact List.Perm.refl _
 |a::l,i+1,x,h=>by
  simp only [DT] at h
  show (x::a::l.eraseIdx i).Perm (a::l)
  exact (List.Perm.swap ..).trans ((Kk l i x h).cons a)
theorem G3 {α:Type}[DecidableEq α]:∀{l m:List α},l.Nodup→(∀x∈l,x∈m)→l.length≤m.length
 |[],m,_,_=>AV _
 |a::l,m,n,h=>by
  have ⟨n1,n2⟩:=DI.mp n
  have ha:a∈m:=h a (AK ..)
  have:=G3 (l:=l) (m:=m.erase a) n2 fun x hx=>(List.mem_erase_of_ne (fun e:x=a=>n1 (e▸hx))).mpr (h x (AJ _ hx))
  rw [List.length_erase_of_mem ha] at this
  have:0<m.length:=List.length_pos_of_mem ha
  rw [AY]
  omega
theorem Fb {l:HW}(h:Inc l):l.Nodup:=List.Pairwise.imp (S:=fun a b=>a≠b) (fun {a b} (h:lS a b) (e:a=b)=>Y7 a (e▸h)) h
theorem Abf {names:HW}{x:Str}:x∈ddn (fun i=>names.getD i ⟨#[]⟩) names.length↔x∈names:=by
 rw [Aav]
 constructor
 ·rintro ⟨j,h,rfl⟩
  rw [BF,AD h]
  exact EV h
 ·intro h
  obtain ⟨j,hj,e⟩:=List.mem_iff_getElem.mp h
  exact ⟨j,hj,by rw [BF,AD hj];exact e⟩
theorem Aju (names:HW):(ddn (fun i=>names.getD i ⟨#[]⟩) names.length).length≤(V4 names).length:=
 G3 (M3 _ _) fun x hx=>E8.mpr (Abf.mp hx)
end Lw
end
section
namespace Lw
open PySem PySem.Spec PyProof.Rows L2
def Mc (w:HV):Bool:=w.params.followText "set-order"
def tx (e:Int×HP):Str:=strOf e.2
structure Hb (prog:HU)(w:HV)(o:Obj)(ss:HW)(es:Array (Int×HP))(ep:Nat)(t:SetTable):Prop where
 ex:o.ExactSet
 dat:o.data=.set es ep t
 el:ElemsOf (PySem.strKind prog w) es.toList
 pm:(es.toList.map tx).Perm ss
 fit:t.fits es.size=true
 bd:es.size<scanBound
 led:t.led=!Mc w
 pl:0<es.size→t.plain=false
def Pd (prog:HU)(w:HV)(h:Heap)(a:HR)(ss:HW):Prop:=∃o es ep t,h.get? a=some o∧Hb prog w o ss es ep t
theorem Hb.size {prog:HU}{w:HV}{o:Obj}{ss:HW}{es:Array (Int×HP)}{ep:Nat}{t:SetTable}(S:Hb prog w o ss es ep t):es.size=ss.length:=by
 rw [←S.pm.length_eq,AE,BK]
theorem Ug {t t':SetTable}{hs:Array Int}{n:Nat}{o:Array Nat}(h:t.relaid hs n=some (t',o)):t'.led=t.led∧t'.plain=t.plain:=by
 unfold SetTable.relaid SetTable.laid at h
 cases hl:SetTable.layClean (SetTable.sizeAbove n-1) hs with
 |none=>
  rw [hl] at h
  cases h
 |some ow=>
  rw [hl] at h
  cases h
  exact ⟨rfl,rfl⟩
theorem Qc (t:SetTable)(es:Array (Int×HP))(n:Nat):(relayAll t es n).2.1.led=t.led∧(t.plain=false→(relayAll t es n).2.1.plain=false):=by
 unfold relayAll
 split
 ·rename_i t' o e
  obtain ⟨h1,h2⟩:=Ug e
  dsimp only
  split
  ·exact ⟨h1,fun h=>h2.trans h⟩
  ·exact ⟨rfl,fun _=>rfl⟩
 ·exact ⟨rfl,fun _=>rfl⟩
theorem Ro (t:SetTable)(n:Nat):(t.orStandIn n).led=t.led:=by
 unfold SetTable.orStandIn
 split<;>rfl
theorem Yt (t:SetTable)(es:Array (Int×HP))(h:Int)(x:HP):(layNew t es h x).2.1.led=t.led:=by
 unfold layNew
 split
 ·exact Ro _ _
 ·rfl
theorem Akk {prog:HU}{w:HV}{k:Str}{e:Int×HP}(h:(PySem.strKind prog w).is k e.2=true):tx e=k:=by
 obtain ⟨t,z⟩:=Value.isStrOf_shape h
 unfold tx
 rw [z]
 rfl
theorem Aew {prog:HU}{w:HV}{h:Heap}{a:HR}{o:Obj}{ss ss':HW}{es es':Array (Int×HP)}{ep:Nat}{t t':SetTable}(ho:h.get? a=some o)(S:Hb prog w o ss es ep t)
  (e1:ElemsOf (PySem.strKind prog w) es'.toList) (e2:(es'.toList.map tx).Perm ss') (e3:t'.fits es'.size=true) (e4:es'.size<scanBound) (e5:t'.led=!Mc w) (e6:t'.plain=false) :
  ∃o',(h.update a (Obj.putSet es' t')).get? a=some o'∧Hb prog w o' ss' es' (ep+1) t':=by
 have g:=CA (Obj.putSet es' t') ho (by rw [putSet_of es' t' S.dat];rfl)
 rw [putSet_of es' t' S.dat] at g
 exact ⟨_,g,⟨S.ex,rfl,e1,e2,e3,e4,e5,fun _=>e6⟩⟩
section
variable {prog:HU}{w:HV}{A:HS}{E:HP→HQ→Prop}{s:HQ}
theorem Ak5 {f:Bool→Sem Unit}(hf:∀(b:Bool) (s1:HQ) (Q':Unit→HQ→Prop),Q' () s1→wpAny (model prog w) A (f b) Q' E s1){a:HR}{o:Obj}{ss ss':HW}{es es':Array (Int×HP)}{ep:Nat}{t t':SetTable}
  (ho:s.heap.get? a=some o) (S:Hb prog w o ss es ep t) (e1:ElemsOf (PySem.strKind prog w) es'.toList) (e2:(es'.toList.map tx).Perm ss') (e3:t'.fits es'.size=true) (e4:es'.size<scanBound) (e5:t'.led=!Mc w)
  (e6:t'.plain=false) {wd:Bool} {R:Option Bool→HQ→Prop} (q:∀g,Heap.SameBut a s.heap g→Pd prog w g a ss'→R (some true) { s with heap:=g }) :
  wpAny (model prog w) A (do
   storeSet a es' t'
   if (!wd&&t'.tooFull)=true then do { f (relayAll t' es' (SetTable.grown es'.size)).2.2;storeSet a (relayAll t' es' (SetTable.grown es'.size)).1 (relayAll t' es' (SetTable.grown es'.size)).2.1;pure (some true) } else pure (some true)) R E s:=by
 refine AA (wpAny_storeSet_of ho S.dat ?_ (FN e4))
 obtain ⟨o1,g1,S1⟩:=Aew ho S e1 e2 e3 e4 e5 e6
 have b1:=BU s.heap a (Obj.putSet es' t')
 split
 ·have r1:=relayAll_perm t' es' (SetTable.grown es'.size)
  have r2:=relayAll_fits t' es' (SetTable.grown es'.size)
  have r3:=Qc t' es' (SetTable.grown es'.size)
  generalize relayAll t' es' (SetTable.grown es'.size)=L at r1 r2 r3 ⊢
  obtain ⟨fs,u,gv⟩:=L
  dsimp only at r1 r2 r3 ⊢
  have hz:fs.size=es'.size:=by rw [←BK,r1.length_eq,BK]
  have hb:fs.size<scanBound:=by rw [hz];exact e4
  refine AA (hf _ _ _ (AA (wpAny_storeSet_of g1 S1.dat ?_ (FN hb))))
  obtain ⟨o2,g2,S2⟩:=Aew g1 S1 (e1.perm r1) ((r1.map tx).trans e2) r2 hb (r3.1.trans e5) (r3.2 e6)
  exact AC (q _ (b1.trans (BU _ a _)) ⟨o2,fs,_,u,g2,S2⟩)
 ·exact AC (q _ b1 ⟨o1,es',_,t',g1,S1⟩)
theorem Atl {a:HR}{ss:HW}{x:Str}{tk:Tok}{Q:Bool→HQ→Prop}(hS:Pd prog w s.heap a ss)(room:ss.length+1<scanBound)
  (q:∀b g,Heap.SameBut a s.heap g→Pd prog w g a (dd ss x)→Q b { s with heap:=g }):wpAny (model prog w) A (setAddHashed a (.str x tk) ((PySem.strKind prog w).hash x)) Q E s:=by
 obtain ⟨o,es,ep,t,ho,S⟩:=hS
 have key:(PySem.strKind prog w).is x (.str x tk)=true:=by
  show (x==x)=true
  simp
 have scn:(Value.str x tk).scannable=true:=rfl
 have hz:=S.size
 unfold setAddHashed setAddHashedIn
 refine CT (AA (EM ho S.dat S.fit ?_))
 dsimp only
 rw [byScan_of scn S.bd S.el]
 simp only [↓reduceIte]
 unfold setAddByScan
 refine AA (AA (GL (AA (wpAny_setScan_of (knd:=PySem.strKind prog w) key ho S.dat S.fit S.el ?_))))
 cases hr:List.findIdx? (fun e=>(PySem.strKind prog w).is x e.2) es.toList with
 |some j=>
  dsimp only
  obtain ⟨hj,hp,_⟩:=List.findIdx?_eq_some_iff_getElem.mp hr
  have hx:x∈ss:=S.pm.mem_iff.mp (BG.mpr ⟨_,EV hj,Akk hp⟩)
  refine AC (AC ?_)
  refine q false s.heap (Heap.SameBut.refl a s.heap) ⟨o,es,ep,t,ho,?_⟩
  rw [show dd ss x=ss from AN hx]
  exact S
 | none=>
  dsimp only
  have hx:x∉ss:=fun h=>by
   obtain ⟨e,he,z⟩:=BG.mp (S.pm.mem_iff.mpr h)
   obtain ⟨⟨k,hk,_⟩,_⟩:=S.el e he
   have z':=(Akk hk).symm.trans z
   subst z'
   have:=List.findIdx?_eq_none_iff.mp hr e he
   rw [hk] at this
   cases this
  have gw:∀(b:Bool) (s1:HQ) (Q':Unit→HQ→Prop),Q' () s1→wpAny (model prog w) A (match b with|true=>rule "set.scan.the-table-gave-way"|false=>pure ()) Q' E s1:=fun b s1 Q' h=>by
   cases b with
   |true=>exact GL h
   |false=>exact AC h
  have r1:=layNew_perm t es ((PySem.strKind prog w).hash x) (.str x tk)
  have r2:=layNew_fits t es ((PySem.strKind prog w).hash x) (.str x tk)
  have r3:=Yt t es ((PySem.strKind prog w).hash x) (.str x tk)
  generalize layNew t es ((PySem.strKind prog w).hash x) (.str x tk)=L at r1 r2 r3 ⊢
  obtain ⟨fs,u,wd,gv⟩:=L
  dsimp only at r1 r2 r3 ⊢
  rw [Array.toList_push] at r1
  have f1:ElemsOf (PySem.strKind prog w) fs.toList:=(S.el.push key scn).perm r1
  have f2:(fs.toList.map tx).Perm (dd ss x):=by
   rw [show dd ss x=ss++[x] from AI hx]
   refine (r1.map tx).trans ?_
   rw [CB]
   exact S.pm.append_right _
  have fz:fs.size=es.size+1:=by rw [←BK,r1.length_eq,AM,BK];rfl
  have fb:fs.size<scanBound:=by rw [fz,hz];exact room
  have fin:∀g,Heap.SameBut a s.heap g→Pd prog w g a (dd ss x)→wpAny (model prog w) A (pure true) Q E { s with heap:=g }:=fun g b h=>AC (q true g b h)
  refine AA (gw _ _ _ ?_)
  split
  ·refine AA ?_
   rw [hashByValue_scannable 8 scn]
   refine AC ?_
   refine Ak5 gw ho S f1 f2 (SetTable.fits_plain_off r2) fb (r3.trans S.led) rfl ?_
   intro g b h
   dsimp only
   exact fin g b h
  ·rename_i np
   refine AA (AC ?_)
   simp only [↓reduceIte]
   refine Ak5 gw ho S f1 f2 r2 fb (r3.trans S.led) (by simpa using np) ?_
   intro g b h
   dsimp only
   exact fin g b h
theorem Ab0 (val:Nat→Str):∀i,(ddn val i).length≤i
 |0=>AF _
 | i+1=>by
  have h:=Ab0 val i
  rw [Ln]
  unfold dd
  split
  ·omega
  ·rw [AM,DP]
   omega
theorem Apm {R:Result→HQ→Prop}{I:HR}{fp wr:List HR}{G:Array GenState→Array GenState→Prop}{n:Nat}{P:Nat→HP→Prop}{St:Nat→HQ→Prop}(W:WalksS prog w A.in1 I fp wr G n P St)(S:HR)(nS:S∉fp)
  (val:Nat→Str) (hv:∀i v,P i v→∃t,v=.str (val i) t) (hb:n+1<scanBound):∀(k i:Nat) (s:HQ),n-i=k→i≤n→St i s→Pd prog w s.heap S (ddn val i) →
   (∀s',Moved (S::wr) G s s'→Pd prog w s'.heap S (ddn val n)→R (.ok (.ret .none)) s')→codeAny (model prog w) A (.builtin "set.update.loop" ⟨[.ref S,.ref I],[]⟩) R s:=by
 have nw:S∉wr:=fun h=>nS (W.sub _ h)
 have sub:∀b∈wr,b∈S::wr:=fun b hb=>AJ _ hb
 have keepS:∀{s s':HQ} {ss:HW},Moved wr G s s'→Pd prog w s.heap S ss→Pd prog w s'.heap S ss:=fun m ⟨o,es,ep,t,h,z⟩=>⟨o,es,ep,t,m.heap S _ nw h,z⟩
 intro k
 induction k with
 |zero=>
  intro i s hk hi st hS hR
  have e:i=n:=by omega
  subst e
  refine codeAny_builtin PyProof.Rows.F.entry_set_update_loop ?_
  rw [DG EG _]
  show wpAny _ A.in1 (pyNext (.ref I) >>= _) _ _ s
  refine AA (W.done s _ _ st fun s' m=>AC (hR s' (m.mono sub) (keepS m hS)))
 | succ k ih=>
  intro i s hk hi st hS hR
  have lt:i<n:=by omega
  refine codeAny_builtin PyProof.Rows.F.entry_set_update_loop ?_
  rw [DG EG _]
  show wpAny _ A.in1 (pyNext (.ref I) >>= _) _ _ s
  refine AA (W.item i s _ _ lt st fun v s' hP st' m=>?_)
  obtain ⟨t,rfl⟩:=hv i v hP
  have hS':=keepS m hS
  show wpAny _ A.in1 (holding [Value.str (val i) t] (setAdd S (.str (val i) t)) >>= _) _ _ s'
  refine AA (CT ?_)
  unfold setAdd
  refine CT (AA ((PySem.strKind prog w).pyHash (k:=val i) (by show (val i==val i)=true;simp) ?_))
  have room:(ddn val i).length+1<scanBound:=by have:=Ab0 val i;omega
  refine Atl (s:={ s' with toks:=s'.toks+1 }) hS' room fun b g sb hS2=>?_
  rw [←Ln] at hS2
  refine AC ⟨FX EG _,ih (i+1) _ (by omega) lt (W.frame _ s' _ _ st' (CU _) fun c hc o e=>?_) hS2 fun s2 m2 z2=>?_⟩
  ·rw [sb.2 c (fun h:c=S=>nS (h▸hc))]
   exact e
  ·refine hR s2 (Moved.trans W.gtrans ((m.mono sub).then_heap (CU _) fun c o hc e=>?_) m2) z2
   rw [sb.2 c (fun h:c=S=>hc (by rw [h];exact AK))]
   exact e
def fsO (w:HV):Obj:={ cls:=.type "set",dict:=none,data:=.set #[] 0 (.fresh 0 0 (!Mc w)) }
theorem fsS (h:Heap):Pd prog w (h.push (fsO w)) h.objs.size []:=
 ⟨fsO w,#[],0,_,AG _ rfl,⟨⟨rfl,rfl,rfl⟩,rfl,fun e he=>by simp at he,List.Perm.refl _,rfl,by decide,rfl,fun h=>absurd h (by decide)⟩⟩
theorem Afw (v:HP){Q:HP→HQ→Prop}(q:Q (.ref s.heap.objs.size) { s with heap:=s.heap.push (fsO w) }):codeAny (model prog w) A (.call (.builtin "set.__new__") ⟨[.type "set",v],[]⟩) (wants Q E) s:=by
 refine codeAny_of_tree ?_
 show wpAny _ A.in1 (do { checkBuiltinCall "set.__new__" ⟨[.type "set",v],[]⟩;again (.builtin "set.__new__" ⟨[.type "set",v],[]⟩) }) _ _ s
 refine AA (wpAny_of_eq (PySem.F.newCall_set_1 v) (AC ⟨FX PySem.F.plain_set_new _,codeAny_builtin PySem.F.entry_set_new ?_⟩))
 rw [DG PySem.F.plain_set_new _];unfold Builtin.«set.__new__» Builtin.Frozenset.newClass
 have sub:=sub_set_self;obtain ⟨hp,g,d,tk,os⟩:=s;dsimp only
 wp_walk
 refine EW (AC ?_);dsimp only;simp only [newObj]
 refine AA (wpAny_alloc (AC (AC ?_)))
 exact q
theorem Aal:∀{vs:HY} {ss:HW},StrsAre vs ss→∀(i:Nat) (v:HP),vs[i]? =some v→∃t,v=.str (ss.getD i ⟨#[]⟩) t
 |_,_,.nil,i,v,h=>by simp at h
 |_,_,.cons x t r,0,v,h=>by
  simp at h
  exact ⟨t,h.symm⟩
 |_,_,.cons x t r,i+1,v,h=>by
  simp only [DT] at h
  obtain ⟨t',e⟩:=Aal r i v h
  exact ⟨t',by rw [e];rfl⟩
theorem Adt {l:HR}{vs:HY}{ss:HW}{Q:HP→HQ→Prop}(hh:A.handled=none)(hl:s.heap.IsList l vs.toArray)(hi:StrsAre vs ss)(hb:vs.length+1<scanBound)
  (q:∀g tk,Pd prog w g s.heap.objs.size (ddn (fun i=>ss.getD i ⟨#[]⟩) vs.length)→(∀b o,s.heap.get? b=some o→g.get? b=some o)→Q (.ref s.heap.objs.size) { s with heap:=g,toks:=tk }) :
  wpAny (model prog w) A (call (.type "set") [.ref l]) Q E s:=by
 obtain ⟨c,tl,mro⟩:=DF.mro
 have made:=DF.made
 have sub:=DF.sub
 refine wpAny_call (codeAny_of_tree ?_)
 show wpAny _ _ (callAny (.type "set") _) _ _ _
 refine AC ⟨Code.quiet_builtin _ (by decide +kernel),codeAny_builtin PySem.F.entry_type_call ?_⟩
 rw [Around.under_plain (weight_type_call_type "set" [.ref l] []) rfl]
 have z1:=DF.notType
 have z2:=DF.canCreate
 have z3:=PySem.F.typeCall_set_1 (.ref l)
 repeat (any_goals (first|assumption|wp_step))
 refine FO (Afw (.ref l) (E:=E) (Q:=fun v s1=>v=.ref s.heap.objs.size∧s1={ s with heap:=s.heap.push (fsO w) }) ⟨rfl,rfl⟩) fun r s1 hr=>?_
 match r,hr with
 |.error e,hr=>exact hr
 | .ok (.ret v),hr=>
  obtain ⟨rfl,rfl⟩:=hr
  have gS:(s.heap.push (fsO w)).get? s.heap.objs.size=some (fsO w):=AG _ rfl
  have ty:Shared.TypeIs { s with heap:=s.heap.push (fsO w) } (.ref s.heap.objs.size) "set":=⟨_,gS,rfl⟩
  have z4:=DF.init.lookup
  have z5:=DF.init.bind (.ref s.heap.objs.size)
  repeat (any_goals (first|assumption|wp_step))
  refine FO (codeAny_call_builtin (R:=wants (fun r s2=>r=.none∧∃g tk,s2={ s with heap:=g,toks:=tk }∧Pd prog w g s.heap.objs.size (ddn (fun i=>ss.getD i ⟨#[]⟩) vs.length)∧∀b o,s.heap.get? b=some o→g.get? b=some o) E)
   DF.init.plain PySem.F.entry_set_init (check_set_init_1 ty ?_)) fun r2 s2 hr2=>?_
  ·obtain ⟨ol,hol,hcl,nl,hdl⟩:=hl
   obtain ⟨oc,od,odt,osl⟩:=ol
   simp only at hcl hdl
   subst hcl hdl
   have hol1:(s.heap.push (fsO w)).get? l=some { cls:=.type "list",dict:=od,data:=.seq vs.toArray nl,slots:=osl }:=AB _ hol
   have gS1:(s.heap.push (fsO w)).get? s.heap.objs.size=some { cls:=.type "set",dict:=none,data:=.set #[] 0 (.fresh 0 0 (!Mc w)) }:=gS
   have z6:=PySem.F.sub_list_set
   have z7:=PySem.F.sub_list_frozenset
   have z8:(Value.type "list"==Value.type "dict")=false:=by decide
   have hl1:(s.heap.push (fsO w)).IsList l vs.toArray:=⟨_,hol1,rfl,nl,rfl⟩
   have lt:l<s.heap.objs.size:=AH hol
   clear gS hol
   generalize hg:s.heap.push (fsO w)=g0 at *
   unfold Builtin.«set.__init__» noKeywords Builtin.Frozenset.updateFrom
   generalize hPI:pyIter=PI
   wp_walk
   subst hPI
   refine GU hl1 ?_
   refine AA (wpAny_runValue ?_)
   have sz:g0.objs.size=s.heap.objs.size+1:=by rw [←hg];exact BW ..
   have neI:l≠g0.objs.size:=by rw [sz];exact AS (CD lt)
   have nf:s.heap.objs.size∉[g0.objs.size,l]:=by
    rw [sz]
    simp only [AU,FU,or_false,not_or]
    exact ⟨AS (DN _),CQ lt⟩
   have hval:∀(i:Nat) (v:HP),vs.toArray[i]? =some v→∃t,v=.str ((fun i=>ss.getD i ⟨#[]⟩) i) t:=fun i v hv=>Aal hi i v (by rw [←hv];simp)
   refine Apm ((Walks.list (by simp [hh]) _ l neI vs.toArray).toS) s.heap.objs.size nf (fun i=>ss.getD i ⟨#[]⟩) hval (by simpa using hb) (vs.toArray.size-0) 0 _ (by omega) (AV _) ⟨⟨_,AG _ rfl,rfl,rfl⟩,hl1.push _⟩ ?hS0 ?hR
   case hS0=>
    obtain ⟨o,es,ep,t,h1,h2⟩:=fsS (prog:=prog) (w:=w) s.heap
    rw [hg] at h1
    exact ⟨o,es,ep,t,AB _ h1,h2⟩
   case hR=>
    intro s' m hS'
    obtain ⟨g',gn,dr,tk,os⟩:=s'
    obtain ⟨m1,m2,m3,m4,m5⟩:=m
    dsimp only at m1 m2 m3 m4 m5
    subst m2 m3 m4
    show wpAny _ _ _ _ _ _
    refine AC ?_
    show wpAny _ _ (ret Value.none) _ _ _
    refine AC ⟨rfl,g',tk,rfl,?_,fun b o e=>m1 b o ?_ (AB _ ?_)⟩
    ·simpa using hS'
    ·have hb:=AH e
     rw [sz]
     simp only [AU,FU,or_false,not_or]
     exact ⟨AS hb,AS (CD hb)⟩
    ·rw [←hg]
     exact AB _ e
  ·match r2,hr2 with
   |.error e,hr2=>exact hr2
   |.ok (.ret v),hr2=>
    obtain ⟨rfl,g,tk,rfl,h1,h2⟩:=hr2
    repeat (any_goals (first|assumption|wp_step))
    exact q _ _ h1 h2
   |.ok .next,hr2=>exact hr2.elim
   |.ok .brk,hr2=>exact hr2.elim
   |.ok .cont,hr2=>exact hr2.elim
 |.ok .next,hr=>exact hr.elim
 |.ok .brk,hr=>exact hr.elim
 |.ok .cont,hr=>exact hr.elim
end
end Lw
end
section
namespace Lw
open PySem PySem.Spec PyProof.Rows L2
theorem Bs:Slot "set_iterator" "__next__" "set_iterator.__next__":=.of (owner:="set_iterator") (n:="__next__") (by rw [HJ,FR];kernel_rfl) (by decide +kernel) (by decide +kernel) (by decide +kernel) (by first|exact .inl (by decide +kernel)|exact .inr (by decide +kernel)) (by rw [isSubtype_type];kernel_rfl)
theorem Fv:entryFor table "set_iterator.__next__"=some Builtin.«set_iterator.__next__»:=entryFor_of_tree (by kernel_rfl)
theorem Wm:entryFor table "set.__iter__"=some Builtin.«frozenset.__iter__»:=entryFor_alias (id':="frozenset.__iter__") (by kernel_rfl) rfl (by decide +kernel) (by kernel_rfl)
def SI (h:Heap)(I:HR)(f:HP)(i:Nat)(a:HR)(n ep:Nat):Prop:=∃o,h.get? I=some o∧o.cls=.type "set_iterator"∧o.data=.fields #[f,.int i 0,.ref a,.int n 0,.int ep 0]
theorem SI.mv {h h':Heap}{I a:HR}{f:HP}{i n ep:Nat}(x:SI h I f i a n ep)(q:∀o,h.get? I=some o→h'.get? I=some o):SI h' I f i a n ep:=by
 obtain ⟨o,e,r⟩:=x
 exact ⟨o,q o e,r⟩
theorem Abz {α:Type}(nx:Nat→Nat):∀(fuel k:Nat) (left:List α) (out:Array α),left.length=fuel→(pickOrder.go nx fuel k left out).toList.Perm (out.toList++left)
 |0,k,left,out,h=>by
  have:left=[]:=CJ.mp h
  subst this
  rw [CG]
  exact List.Perm.refl _
 |fuel+1,k,left,out,h=>by
  have hp:0<left.length:=by omega
  have hj:nx k % left.length<left.length:=Nat.mod_lt _ hp
  have e:left[nx k % left.length]? =some left[nx k % left.length]:=AD hj
  unfold pickOrder.go
  rw [e]
  dsimp only
  refine (Abz nx fuel (k+1) _ _ (by rw [List.length_eraseIdx_of_lt hj,h];rfl)).trans ?_
  rw [Array.toList_push,CO]
  exact (Kk left _ _ e).append_left _
theorem Gq {α:Type}(nx:Nat→Nat)(xs:Array α):(pickOrder nx xs).toList.Perm xs.toList:=by
 have:=Abz nx xs.size 0 xs.toList #[] (by simp)
 simpa [pickOrder] using this
section
variable {prog:HU}{w:HV}{A:HS}{E:HP→HQ→Prop}{s:HQ}
theorem Aof {M:Model}{src:Source}{n:Nat}{Q:Nat→HQ→Prop}(hn:n≠0)(q:∀i d,i<n→Q i { s with drawn:=d }):wpAny M A (choose src n) Q E s:=
 fun _ _ _=>⟨hn,q _ _ (Nat.mod_lt _ (Nat.pos_of_ne_zero hn))⟩
theorem R3 {M:Model}{α:Type}:∀(n:Nat) (xs:List α) (s:HQ) {Q:List α→HQ→Prop},xs.length=n→(∀ys d,ys.Perm xs→Q ys { s with drawn:=d })→wpAny M A (drawOrder n xs) Q E s
 |0,xs,s,Q,h,q=>by
  have:xs=[]:=CJ.mp h
  subst this
  unfold drawOrder
  exact AC (q [] s.drawn (List.Perm.refl _))
 |n+1,[],s,Q,h,q=>by simp at h
 |n+1,x::xs,s,Q,h,q=>by
  unfold drawOrder
  refine AA (Aof (by simp) fun i d hi=>?_)
  have e:(x::xs)[i]? =some (x::xs)[i]:=AD hi
  rw [e]
  dsimp only
  refine AA (R3 n _ _ (by rw [List.length_eraseIdx_of_lt hi,h];rfl) fun ys d' hp=>AC ?_)
  exact q _ d' ((hp.cons _).trans (Kk _ _ _ e))
theorem Qs {I a:HR}{slot nx i:Nat}{o:Obj}{ss:HW}{es:Array (Int×HP)}{ep:Nat}{t:SetTable}{x:HP}{Q:IA→HQ→Prop}(hit:SI s.heap I (.int slot 0) i a es.size ep)(ho:s.heap.get? a=some o)(S:Hb prog w o ss es ep t)
  (hn:∀(Q':Option (HP×Nat)→HQ→Prop) (E':HP→HQ→Prop),Q' (some (x,nx)) s→wpAny (model prog w) A.in1 (setNext a slot i ep) Q' E' s)
  (q:∀g,SI g I (.int nx 0) (i+1) a es.size ep→Heap.SameBut I s.heap g→Q (some x) { s with heap:=g }):wpAny (model prog w) A (pyNext (.ref I)) Q E s:=by
 obtain ⟨io,e1,c1,d1⟩:=id hit
 have ty:s.TypeIs (.ref I) "set_iterator":=⟨io,e1,c1⟩
 unfold pyNext
 refine AA (wpAny_attempt (CC (name:=Str.ofString "__next__") ty Bs (wpAny_call_entry Bs ty Fv ?_)))
 unfold Builtin.«set_iterator.__next__»
 refine AA (m:=slotArgs "__next__" 0 _) (AC ?_)
 refine AA (wpAny_fieldsOf e1 d1 ?_)
 dsimp only
 refine AA (EZ ho S.dat S.fit ?_)
 simp only [CP,BL,DE,CY]
 refine AA (hn _ _ ?_)
 dsimp only
 refine AA (DW e1 d1 (by simp) ?_)
 have g1:=CA (Obj.mapFields (·.setIfInBounds 0 (rawInt (nx:Int)))) e1 (EK (CL d1 _))
 have d2:=CL d1 (·.setIfInBounds 0 (rawInt (nx:Int)))
 refine AA (DW g1 d2 (by simp) ?_)
 refine AC ⟨_,rfl,AC (q _ ?_ ((BU ..).trans (BU ..)))⟩
 refine ⟨_,CA _ g1 (EK (CL d2 _)),(GV ..).trans ((GV ..).trans c1),?_⟩
 rw [CL d2]
 simp [rawInt]
theorem Rz {I a:HR}{slot i:Nat}{o:Obj}{ss:HW}{es:Array (Int×HP)}{ep:Nat}{t:SetTable}{Q:IA→HQ→Prop}(hh:A.handled=none)(hit:SI s.heap I (.int slot 0) i a es.size ep)(ho:s.heap.get? a=some o)(S:Hb prog w o ss es ep t)
  (hn:∀(Q':Option (HP×Nat)→HQ→Prop) (E':HP→HQ→Prop),Q' none s→wpAny (model prog w) A.in1 (setNext a slot i ep) Q' E' s)
  (q:∀g,Heap.ExtBut I s.heap g→Q none { s with heap:=g }):wpAny (model prog w) A (pyNext (.ref I)) Q E s:=by
 obtain ⟨io,e1,c1,d1⟩:=id hit
 have ty:s.TypeIs (.ref I) "set_iterator":=⟨io,e1,c1⟩
 unfold pyNext
 refine AA (wpAny_attempt (CC (name:=Str.ofString "__next__") ty Bs (wpAny_call_entry Bs ty Fv ?_)))
 unfold Builtin.«set_iterator.__next__»
 refine AA (m:=slotArgs "__next__" 0 _) (AC ?_)
 refine AA (wpAny_fieldsOf e1 d1 ?_)
 dsimp only
 refine AA (EZ ho S.dat S.fit ?_)
 simp only [CP,BL,DE,CY]
 refine AA (hn _ _ ?_)
 dsimp only
 refine AA (DW e1 d1 (by simp) ?_)
 show wpAny _ _ (newExc (.type "StopIteration") [] >>= _) _ _ _;refine AA ?_;simp only [newExc,newTuple]
 refine AA (BS ?_ (by size_fits));refine AA (m:=firstArgMember _ _) (wpAny_of_eq (a:=Value.none) (by first|rfl|(simp only [firstArgMember];rfl)) ?_)
 refine BS ?_ (by size_fits);simp only [raiseNew];refine AA (wpAny_handled ?_);rw [show A.in1.handled=none from hh]
 refine AA (AC (wpAny_throw ?_))
 exact AA (EU (T:="StopIteration") (b:=true) ⟨_,AG _ rfl,rfl⟩ isSubtype_stop (AC (q _ (((BU ..).extBut.push _).push _))))
theorem Y3 {I a T:HR}{i p:Nat}{o oT:Obj}{ss:HW}{es:Array (Int×HP)}{ep nT:Nat}{t:SetTable}{vs:Array HP}{x:Int×HP}{Q:IA→HQ→Prop}(hit:SI s.heap I (.ref T) i a es.size ep)(ho:s.heap.get? a=some o)(S:Hb prog w o ss es ep t)
  (hT:s.heap.get? T=some oT) (dT:oT.data=.seq vs nT) (hv:vs[i]? =some (.int p 0)) (hx:es[p]? =some x)
  (q:∀g,SI g I (.ref T) (i+1) a es.size ep→Heap.SameBut I s.heap g→Q (some x.2) { s with heap:=g }):wpAny (model prog w) A (pyNext (.ref I)) Q E s:=by
 obtain ⟨io,e1,c1,d1⟩:=id hit
 have ty:s.TypeIs (.ref I) "set_iterator":=⟨io,e1,c1⟩
 unfold pyNext
 refine AA (wpAny_attempt (CC (name:=Str.ofString "__next__") ty Bs (wpAny_call_entry Bs ty Fv ?_)))
 unfold Builtin.«set_iterator.__next__»
 refine AA (m:=slotArgs "__next__" 0 _) (AC ?_)
 refine AA (wpAny_fieldsOf e1 d1 ?_)
 dsimp only
 refine AA (EZ ho S.dat S.fit ?_)
 simp only [CP,BL,DE,CY]
 refine AA (CV hT dT ?_)
 dsimp only
 rw [hv]
 dsimp only
 simp only [CY]
 unfold setNextDrawn
 refine AA (AA (EM ho S.dat S.fit ?_))
 dsimp only
 simp only [CP,BL,DE]
 rw [hx]
 dsimp only
 refine AC ?_
 refine AA (DW e1 d1 (by simp) (AC ⟨_,rfl,AC (q _ ?_ (BU ..))⟩))
 refine ⟨_,CA _ e1 (EK (CL d1 _)),(GV ..).trans c1,?_⟩
 rw [CL d1]
 simp [rawInt]
theorem Adj {I a T:HR}{i:Nat}{o oT:Obj}{ss:HW}{es:Array (Int×HP)}{ep nT:Nat}{t:SetTable}{vs:Array HP}{Q:IA→HQ→Prop}(hh:A.handled=none)(hit:SI s.heap I (.ref T) i a es.size ep)(ho:s.heap.get? a=some o)(S:Hb prog w o ss es ep t)
  (hT:s.heap.get? T=some oT) (dT:oT.data=.seq vs nT) (hv:vs[i]? =none)
  (q:∀g,Heap.ExtBut I s.heap g→Q none { s with heap:=g }):wpAny (model prog w) A (pyNext (.ref I)) Q E s:=by
 obtain ⟨io,e1,c1,d1⟩:=id hit
 have ty:s.TypeIs (.ref I) "set_iterator":=⟨io,e1,c1⟩
 unfold pyNext
 refine AA (wpAny_attempt (CC (name:=Str.ofString "__next__") ty Bs (wpAny_call_entry Bs ty Fv ?_)))
 unfold Builtin.«set_iterator.__next__»
 refine AA (m:=slotArgs "__next__" 0 _) (AC ?_)
 refine AA (wpAny_fieldsOf e1 d1 ?_)
 dsimp only
 refine AA (EZ ho S.dat S.fit ?_)
 simp only [CP,BL,DE,CY]
 refine AA (CV hT dT ?_)
 dsimp only
 rw [hv]
 dsimp only
 refine AA (DW e1 d1 (by simp) ?_)
 have g1:=CA (Obj.mapFields (·.setIfInBounds 0 (rawInt 0))) e1 (EK (CL d1 _))
 have d2:=CL d1 (·.setIfInBounds 0 (rawInt 0))
 refine AA (DW g1 d2 (by simp) ?_)
 show wpAny _ _ (newExc (.type "StopIteration") [] >>= _) _ _ _;refine AA ?_;simp only [newExc,newTuple]
 refine AA (BS ?_ (by size_fits));refine AA (m:=firstArgMember _ _) (wpAny_of_eq (a:=Value.none) (by first|rfl|(simp only [firstArgMember];rfl)) ?_)
 refine BS ?_ (by size_fits);simp only [raiseNew];refine AA (wpAny_handled ?_);rw [show A.in1.handled=none from hh]
 refine AA (AC (wpAny_throw ?_))
 exact AA (EU (T:="StopIteration") (b:=true) ⟨_,AG _ rfl,rfl⟩ isSubtype_stop (AC (q _ ((((BU ..).trans (BU ..)).extBut.push _).push _))))
theorem Aa9 {a:HR}{slot i:Nat}{o:Obj}{ss:HW}{es:Array (Int×HP)}{ep:Nat}{t:SetTable}{Q:Option (HP×Nat)→HQ→Prop}(ho:s.heap.get? a=some o)(S:Hb prog w o ss es ep t)(hb:Mc w=true)
  (q:Q (((pickOrder (w.params.setOrder a ep) es)[i]?).map fun e=>(e.2,slot)) s):wpAny (model prog w) A (setNext a slot i ep) Q E s:=by
 have hb':(model prog w).w.params.followText "set-order"=true:=hb
 unfold setNext
 refine AA (EM ho S.dat S.fit ?_)
 dsimp only
 unfold setsByText
 refine AA (AA (EW (AC ?_)))
 dsimp only
 rw [hb']
 simp only [↓reduceIte,CP,BL,DE]
 unfold setWalk
 refine AA (AA (EM ho S.dat S.fit ?_))
 dsimp only
 unfold setsByText
 refine AA (AA (EW (AC ?_)))
 dsimp only
 rw [hb']
 simp only [↓reduceIte]
 refine AA (EW (AC (AC ?_)))
 exact q
theorem X1 {a:HR}{slot i:Nat}{o:Obj}{ss:HW}{es:Array (Int×HP)}{ep:Nat}{t:SetTable}{Q:Option (HP×Nat)→HQ→Prop}(ho:s.heap.get? a=some o)(S:Hb prog w o ss es ep t)(hb:Mc w=false)(hz:es.size≤1)
  (q:Q (match es[SetTable.below t.place slot]?,t.place[SetTable.below t.place slot]? with|some (_,x),some j=>some (x,j+1)|_,_=>none) s):wpAny (model prog w) A (setNext a slot i ep) Q E s:=by
 have hb':(model prog w).w.params.followText "set-order"=false:=hb
 have hl:t.led=true:=by rw [S.led,hb];rfl
 unfold setNext
 refine AA (EM ho S.dat S.fit ?_)
 dsimp only
 unfold setsByText
 refine AA (AA (EW (AC ?_)))
 dsimp only
 rw [hb']
 simp only [BL,DE]
 split
 ·rename_i h
  have h':(!t.plain&&decide (es.size>1))=true:=h
  have:decide (es.size>1)=false:=BC (by omega)
  rw [this,GN] at h'
  cases h'
 ·refine AA ?_
  show wpAny _ _ (if (!t.led&&!es.isEmpty)=true then _ else _) _ _ _
  rw [hl,AI (by simp)]
  exact AC (AC q)
theorem Amr (p:Nat):SetTable.below #[p] 0=0:=by
 unfold SetTable.below
 simp [SetTable.below.go]
theorem Anl (p:Nat):SetTable.below #[p] (p+1)=1:=by
 unfold SetTable.below
 simp [SetTable.below.go]
theorem N6:Slot "set_iterator" "__iter__" "set_iterator.__iter__":=.of (owner:="set_iterator") (n:="__iter__") (by rw [HJ,FR];kernel_rfl) (by decide +kernel) (by decide +kernel) (by decide +kernel) (by first|exact .inl (by decide +kernel)|exact .inr (by decide +kernel)) (by rw [isSubtype_type];kernel_rfl)
theorem Wb:entryFor table "set_iterator.__iter__"=some Builtin.«dict_keyiterator.__iter__»:=entryFor_alias (id':="dict_keyiterator.__iter__") (by kernel_rfl) rfl (by decide +kernel) (by kernel_rfl)
theorem Py {I a:HR}{f:HP}{i n ep:Nat}{Q:HP→HQ→Prop}(hit:SI s.heap I f i a n ep)(q:Q (.ref I) s):wpAny (model prog w) A (pyIter (.ref I)) Q E s:=by
 obtain ⟨io,e1,c1,d1⟩:=hit
 have ty:s.TypeIs (.ref I) "set_iterator":=⟨io,e1,c1⟩
 refine wpAny_pyIter_slot ty N6 (wpAny_call_entry N6 ty Wb ?_)
 show wpAny _ _ (ret (.ref I)) _ _ s
 exact AC ⟨_,rfl,"set_iterator",_,ty,Bs.lookup,q⟩
theorem Gh {I:HR}{g:Heap}(sb:Heap.ExtBut I s.heap g):Moved [I] (fun a b=>b=a) s { s with heap:=g } :=
 ⟨fun b o hb e=>sb b o (fun z=>hb (by rw [z];exact AK)) e,rfl,rfl,rfl,AF _⟩
theorem Ai2 {I a:HR}{o:Obj}{ss:HW}{es:Array (Int×HP)}{ep:Nat}{t:SetTable}(S:Hb prog w o ss es ep t)(hb:Mc w=true)(ne:a≠I){B:HS}(hh:B.handled=none) :
  WalksS prog w B I [I,a] [I] (fun a b=>b=a) es.size (fun i v=>((pickOrder (w.params.setOrder a ep) es).toList.map (·.2))[i]? =some v) (fun i s=>SI s.heap I (.int (0:Nat) 0) i a es.size ep∧s.heap.get? a=some o) where
 sub:=fun b hb=>by simp at hb;simp [hb]
 grefl:=fun _=>rfl
 gtrans:=fun _ _ _ h1 h2=>h2.trans h1
 frame:=fun i s h' _ st _ k=>⟨st.1.mv fun o e=>k I (by simp) o e,k a (by simp) _ st.2⟩
 item:=fun i s Q E hi st hQ=>by
  have hz:(pickOrder (w.params.setOrder a ep) es).size=es.size:=by rw [←BK,(Gq _ es).length_eq,BK]
  have e:(pickOrder (w.params.setOrder a ep) es)[i]? =some (pickOrder (w.params.setOrder a ep) es)[i]:=Array.getElem?_eq_getElem (by omega)
  refine Qs (slot:=0) (nx:=0) st.1 st.2 S (fun Q' E' h=>Aa9 st.2 S hb (by rw [e];exact h)) fun g hg sb=>hQ _ _ ?_ ⟨hg,sb.extBut a _ ne st.2⟩ (Gh sb.extBut)
  rw [BJ,DQ,e]
  rfl
 done:=fun s Q E st hQ=>by
  have hz:(pickOrder (w.params.setOrder a ep) es).size=es.size:=by rw [←BK,(Gq _ es).length_eq,BK]
  have e:(pickOrder (w.params.setOrder a ep) es)[es.size]? =none:=GZ (by omega)
  exact Rz hh st.1 st.2 S (fun Q' E' h=>Aa9 st.2 S hb (by rw [e];exact h)) fun g sb=>hQ _ (Gh sb)
 self:=fun i s Q E st hQ=>Py st.1 hQ
theorem Ah9 {I a T:HR}{o oT:Obj}{ss:HW}{es:Array (Int×HP)}{ep nT:Nat}{t:SetTable}(S:Hb prog w o ss es ep t)(ps:IC)(hp:∀p∈ps,p<es.size)(hl:ps.length=es.size)(dT:oT.data=.seq (ps.map fun (p:Nat)=>rawInt p).toArray nT)(ne:a≠I)(neT:T≠I){B:HS}(hh:B.handled=none) :
  WalksS prog w B I [I,a,T] [I] (fun a b=>b=a) es.size (fun i v=>(ps.map fun p=>((es[p]?).map (·.2)).getD .none)[i]? =some v) (fun i s=>SI s.heap I (.ref T) i a es.size ep∧s.heap.get? a=some o∧s.heap.get? T=some oT) where
 sub:=fun b hb=>by simp at hb;simp [hb]
 grefl:=fun _=>rfl
 gtrans:=fun _ _ _ h1 h2=>h2.trans h1
 frame:=fun i s h' _ st _ k=>⟨st.1.mv fun o e=>k I (by simp) o e,k a (by simp) _ st.2.1,k T (by simp) _ st.2.2⟩
 item:=fun i s Q E hi st hQ=>by
  have hi':i<ps.length:=by omega
  have h1:((ps.map fun (p:Nat)=>rawInt p).toArray)[i]? =some (.int (ps[i]:Nat) 0):=by
   rw [FQ,BJ,AD hi']
   rfl
  have h2:=hp ps[i] (EV hi')
  have h3:es[ps[i]]? =some es[ps[i]]:=Array.getElem?_eq_getElem h2
  refine Y3 st.1 st.2.1 S st.2.2 dT h1 h3 fun g hg sb=>hQ _ _ ?_ ⟨hg,sb.extBut a _ ne st.2.1,sb.extBut T _ neT st.2.2⟩ (Gh sb.extBut)
  rw [BJ,AD hi']
  simp [h3]
 done:=fun s Q E st hQ=>by
  have h1:((ps.map fun (p:Nat)=>rawInt p).toArray)[es.size]? =none:=by
   rw [FQ,BJ,DB (by omega)]
   rfl
  exact Adj hh st.1 st.2.1 S st.2.2 dT h1 fun g sb=>hQ _ (Gh sb)
 self:=fun i s Q E st hQ=>Py st.1 hQ
theorem Ag2 {I a:HR}{o:Obj}{ss:HW}{es:Array (Int×HP)}{ep:Nat}{t:SetTable}(S:Hb prog w o ss es ep t)(hb:Mc w=false)(hz:es.size≤1)(ne:a≠I){B:HS}(hh:B.handled=none) :
  WalksS prog w B I [I,a] [I] (fun a b=>b=a) es.size (fun i v=>(es.toList.map (·.2))[i]? =some v) (fun i s=>(∃slot:Nat,SI s.heap I (.int slot 0) i a es.size ep∧(i=0→slot=0)∧(i=1→∀p,t.place=#[p]→slot=p+1))∧s.heap.get? a=some o) where
 sub:=fun b hb=>by simp at hb;simp [hb]
 grefl:=fun _=>rfl
 gtrans:=fun _ _ _ h1 h2=>h2.trans h1
 frame:=fun i s h' _ st _ k=>by
  obtain ⟨⟨slot,st,r⟩,st2⟩:=st
  exact ⟨⟨slot,st.mv fun o e=>k I (by simp) o e,r⟩,k a (by simp) _ st2⟩
 item:=fun i s Q E hi st hQ=>by
  obtain ⟨⟨slot,st,r,_⟩,st2⟩:=st
  have i0:i=0:=by omega
  have z1:es.size=1:=by omega
  subst i0
  have hs:=r rfl
  subst hs
  obtain ⟨e,he⟩:∃e,es=#[e]:=HC.mp z1
  have pz:t.place.size=1:=by
   have:=S.fit
   simp only [SetTable.fits,BR,FS] at this
   rw [this.1,z1]
  obtain ⟨p,hp⟩:∃p,t.place=#[p]:=HC.mp pz
  refine Qs (slot:=0) (nx:=p+1) (x:=e.2) st st2 S (fun Q' E' h=>X1 st2 S hb hz ?_) fun g hg sb=>hQ _ _ ?_ ⟨⟨p+1,hg,fun z=>absurd z (by decide),fun _ p' hp'=>?_⟩,sb.extBut a _ ne st2⟩ (Gh sb.extBut)
  ·rw [hp,Amr,he]
   exact h
  ·rw [he]
   rfl
  ·rw [hp] at hp'
   cases hp'
   rfl
 done:=fun s Q E st hQ=>by
  obtain ⟨⟨slot,st,r0,r1⟩,st2⟩:=st
  refine Rz hh st st2 S (fun Q' E' h=>X1 st2 S hb hz ?_) fun g sb=>hQ _ (Gh sb)
  have:es.size=0∨es.size=1:=by omega
  rcases this with z|z
  ·have e0:es[SetTable.below t.place slot]? =none:=GZ (by omega)
   rw [e0]
   exact h
  ·have pz:t.place.size=1:=by
    have:=S.fit
    simp only [SetTable.fits,BR,FS] at this
    rw [this.1,z]
   obtain ⟨p,hp⟩:∃p,t.place=#[p]:=HC.mp pz
   have hs:=r1 z p hp
   subst hs
   have e0:es[SetTable.below t.place (p+1)]? =none:=by
    rw [hp,Anl]
    exact GZ (by omega)
   rw [e0]
   exact h
 self:=fun i s Q E st hQ=>by
  obtain ⟨⟨slot,st,_⟩,_⟩:=st
  exact Py st hQ
theorem V0 {o:Obj}{ss:HW}{es:Array (Int×HP)}{ep:Nat}{t:SetTable}(S:Hb prog w o ss es ep t){e:Int×HP}(h:e∈es.toList):∃x tk,e.2=.str x tk:=by
 obtain ⟨⟨k,hk,_⟩,_⟩:=S.el e h
 obtain ⟨tk,z⟩:=Value.isStrOf_shape hk
 exact ⟨k,tk,z⟩
theorem Aqj {a:HR}{o:Obj}{ss:HW}{es:Array (Int×HP)}{ep:Nat}{t:SetTable}{Q:HP→HQ→Prop}(ho:s.heap.get? a=some o)(S:Hb prog w o ss es ep t)
  (q:∀(I:HR) (g:Heap) (d:Drawn) (xs:HY) (fp:List HR) (St:Nat→HQ→Prop),(∀b o,s.heap.get? b=some o→g.get? b=some o)→s.heap.objs.size≤I→I∈fp→(∀b∈fp,b=a∨s.heap.objs.size≤b∧b<g.objs.size)→(xs.map strOf).Perm ss →
   (∀v∈xs,∃x tk,v=.str x tk)→xs.length=es.size→(∀B:HS,B.handled=none→WalksS prog w B I fp [I] (fun a b=>b=a) es.size (fun i v=>xs[i]? =some v) St)→St 0 { s with heap:=g,drawn:=d }→Q (.ref I) { s with heap:=g,drawn:=d }) :
  wpAny (model prog w) A (pyIter (.ref a)) Q E s:=by
 have ty:s.TypeIs (.ref a) "set":=⟨o,ho,S.ex.1⟩
 have la:a<s.heap.objs.size:=AH ho
 refine wpAny_pyIter_slot ty PySem.F.slot_set_iter (wpAny_call_entry PySem.F.slot_set_iter ty Wm ?_ (PySem.F.args_set_iter_1 _))
 unfold Builtin.«frozenset.__iter__» Builtin.Frozenset.slot0
 refine AA (AA (m:=slotArgs "__iter__" 0 _) (AC (AC ?_)))
 unfold Builtin.Frozenset.sizeOf
 refine AA (AA (EZ ho S.dat S.fit (AC ?_)))
 unfold setDrawn
 refine AA (AA (EM ho S.dat S.fit ?_))
 dsimp only
 unfold setsByText
 refine AA (AA (EW (AC ?_)))
 dsimp only
 refine AC ?_
 split
 ·rename_i hc
  have hc':(!Mc w&&(!t.plain&&decide (es.size>1)))=true:=hc
  have hb:Mc w=false:=by
   cases h:Mc w with
   |false=>rfl
   |true=>rw [h] at hc';simp at hc'
  have h1:1<es.size:=by
   have:decide (es.size>1)=true:=by
    cases h:decide (es.size>1) with
    |true=>rfl
    |false=>rw [h] at hc';simp at hc'
   exact AZ this
  refine AA (R3 es.size _ s (by simp) fun ps d hp=>?_)
  have hl:ps.length=es.size:=by rw [hp.length_eq,DR]
  have hlt:∀p∈ps,p<es.size:=fun p h=>BZ.mp (hp.mem_iff.mp h)
  have hs:es.size≤sizeLine:=FN S.bd
  refine AA (wpAny_newTuple ?_ (by rw [AE,hl];exact hs))
  have ho1:(s.heap.push { cls:=.type "tuple",data:=.seq (ps.map fun (p:Nat)=>rawInt p).toArray }).get? a=some o:=AB _ ho
  refine AA (wpAny_setEpoch_of (s:={ s with heap:=_,drawn:=d }) ho1 S.dat S.fit ?_)
  refine AA (BS ?_ (by size_fits))
  have hT:(s.heap.push { cls:=.type "tuple",data:=.seq (ps.map fun (p:Nat)=>rawInt p).toArray }).get? s.heap.objs.size=some _:=AG _ rfl
  have e1:(s.heap.push { cls:=.type "tuple",data:=.seq (ps.map fun (p:Nat)=>rawInt p).toArray }).objs.size=s.heap.objs.size+1:=BW ..
  refine AC ⟨_,rfl,"set_iterator",_,⟨_,AG _ rfl,rfl⟩,Bs.lookup,?_⟩
  have neA:a≠(s.heap.push { cls:=.type "tuple",data:=.seq (ps.map fun (p:Nat)=>rawInt p).toArray }).objs.size:=by rw [e1];exact AS (CD la)
  have neT:s.heap.objs.size≠(s.heap.push { cls:=.type "tuple",data:=.seq (ps.map fun (p:Nat)=>rawInt p).toArray }).objs.size:=by rw [e1];exact AS (DN _)
  refine q _ _ d (ps.map fun p=>((es[p]?).map (·.2)).getD .none) [_,a,s.heap.objs.size] _ (fun b o e=>AB _ (AB _ e)) (by simp only [e1];omega) AK ?_ ?_ ?_ (by rw [AE,hl]) (fun B hh=>Ah9 S ps hlt hl rfl neA neT hh) ⟨⟨_,AG _ rfl,rfl,rfl⟩,AB _ ho1,AB _ hT⟩
  ·intro b hb
   simp only [AU,FU,or_false] at hb
   rcases hb with rfl|rfl|rfl
   ·exact .inr ⟨by rw [e1];exact CU _,by simp only [BW];exact DN _⟩
   ·exact .inl rfl
   ·exact .inr ⟨AF _,by rw [BW,e1];exact CD (DN _)⟩
  ·have r:((List.range es.size).map fun p=>((es[p]?).map (·.2)).getD .none)=es.toList.map (·.2):=by
    apply GX
    intro i
    simp only [BJ]
    by_cases hi:i<es.size
    ·simp [hi]
    ·simp [hi]
   have:=((hp.map fun p=>((es[p]?).map (·.2)).getD .none).map strOf)
   rw [r] at this
   exact this.trans (by rw [EH];exact S.pm)
  ·intro v hv
   obtain ⟨p,h,rfl⟩:=BG.mp hv
   have hp':=hlt p h
   obtain ⟨x,tk,z⟩:=V0 S (e:=es[p]) (by simp)
   exact ⟨x,tk,by simp [hp',z]⟩
 ·rename_i hc
  have hc':¬(!Mc w&&(!t.plain&&decide (es.size>1)))=true:=hc
  refine AA (AC (AA (wpAny_setEpoch_of ho S.dat S.fit ?_)))
  refine AA (BS ?_ (by size_fits))
  refine AC ⟨_,rfl,"set_iterator",_,⟨_,AG _ rfl,rfl⟩,Bs.lookup,?_⟩
  have keep:∀{ob:Obj} (b:HR) (o:Obj),s.heap.get? b=some o→(s.heap.push ob).get? b=some o:=fun b o e=>AB _ e
  have fpk:∀{ob:Obj} (b:HR),b∈[s.heap.objs.size,a]→b=a∨s.heap.objs.size≤b∧b<(s.heap.push ob).objs.size:=fun b hb=>by
   simp only [AU,FU,or_false] at hb
   rcases hb with rfl|rfl
   ·exact .inr ⟨AF _,by rw [BW];exact DN _⟩
   ·exact .inl rfl
  cases hb:Mc w with
  | true=>
   refine q _ _ s.drawn ((pickOrder (w.params.setOrder a ep) es).toList.map (·.2)) [_,a] _ keep (AF _) AK fpk ?_ ?_ ?_ (fun B hh=>Ai2 S hb (AS la) hh) ⟨⟨_,AG _ rfl,rfl,rfl⟩,AB _ ho⟩
   ·rw [EH]
    exact ((Gq _ es).map tx).trans S.pm
   ·intro v hv
    obtain ⟨e,h,rfl⟩:=BG.mp hv
    exact V0 S ((Gq _ es).mem_iff.mp h)
   ·rw [AE,(Gq _ es).length_eq,BK]
  | false=>
   have hz:es.size≤1:=by
    refine DV fun h=>hc' ?_
    rw [hb,S.pl (by omega)]
    simpa using h
   refine q _ _ s.drawn (es.toList.map (·.2)) [_,a] _ keep (AF _) AK fpk ?_ ?_ (by simp) (fun B hh=>Ag2 S hb hz (AS la) hh) ⟨⟨0,⟨_,AG _ rfl,rfl,rfl⟩,fun _=>rfl,fun h=>absurd h (by decide)⟩,AB _ ho⟩
   ·rw [EH]
    exact S.pm
   ·intro v hv
    obtain ⟨e,h,rfl⟩:=BG.mp hv
    exact V0 S h
theorem Aga {a:HR}{o:Obj}{ss:HW}{es:Array (Int×HP)}{ep:Nat}{t:SetTable}{Q:HY→HQ→Prop}(hh:A.handled=none)(ho:s.heap.get? a=some o)(S:Hb prog w o ss es ep t)
  (q:∀xs g d tk,(∀b o,s.heap.get? b=some o→g.get? b=some o)→s.heap.objs.size<g.objs.size→(xs.map strOf).Perm ss→(∀v∈xs,∃x tk,v=.str x tk)→Q xs { s with heap:=g,drawn:=d,toks:=tk }):wpAny (model prog w) A (collect (.ref a)) Q E s:=by
 have la:a<s.heap.objs.size:=AH ho
 have hs:es.size≤sizeLine:=FN S.bd
 unfold collect
 refine AA (wpAny_runValue (codeAny_builtin PySem.F.entry_proto_collect ?_))
 rw [DG PySem.F.plain_proto_collect _]
 show wpAny _ A.in1 (newList [] >>= fun l=>again (.builtin "list.__iadd__" ⟨[l,.ref a],[]⟩)) _ _ s
 refine AA (BS (AC ⟨FX FE _,codeAny_builtin PySem.F.entry_list_iadd ?_⟩))
 rw [DG FE _]
 show wpAny _ A.in1 (Builtin.List.listExtendWith (.ref s.heap.objs.size) (.ref a) (.ref s.heap.objs.size)) _ _ _
 generalize hob:({ cls:=.type "list",data:=.seq ([]:HY).toArray }:Obj)=ob
 have hL:(s.heap.push ob).get? s.heap.objs.size=some ob:=AG _ (by rw [←hob];rfl)
 have ho1:(s.heap.push ob).get? a=some o:=AB _ ho
 have sz1:(s.heap.push ob).objs.size=s.heap.objs.size+1:=BW ..
 unfold Builtin.List.listExtendWith
 refine AA (wpAny_typeOf (T:="set") ⟨o,ho1,S.ex.1⟩ ?_)
 have h1:Builtin.List.listSameRef (.ref s.heap.objs.size) (.ref a)=false:=by simp [Builtin.List.listSameRef,CQ la]
 have h2:(Value.type "set"==Value.type "list")=false:=by decide
 have h3:(Value.type "set"==Value.type "tuple")=false:=by decide
 simp only [h1,h2,h3,Bool.or_false,BL,DE]
 refine AA (Aqj (s:={ s with heap:=s.heap.push ob }) ho1 S fun I g d xs fp St keep lI mI hfp pm hst len W st=>?_)
 refine AA (CT ?_)
 unfold Builtin.List.listLengthHint
 have ty:Shared.TypeIs { s with heap:=g,drawn:=d } (.ref a) "set":=⟨o,keep _ _ ho1,S.ex.1⟩
 refine AA (HF ty PySem.F.slot_set_len.lookup ?_)
 dsimp only
 rw [show splitId "set.__len__"=some ("set","__len__") by kernel_rfl]
 dsimp only
 refine AA (EU ty sub_set_self ?_)
 simp only [Bool.not_true,BL,DE]
 refine wpAny_ite ?_
 rw [AN (by decide +kernel)]
 refine AA (wpAny_typeOf ty ?_)
 refine AC ?_
 refine wpAny_ite ?_
 rw [AN (by decide +kernel)]
 refine AA (GL (AA ?_))
 have hLg:g.get? s.heap.objs.size=some ob:=keep _ _ hL
 rw [←hob] at hLg
 show wpAny _ A.in1 (updateSeq s.heap.objs.size (·.push .none) >>= fun _=>updateSeq s.heap.objs.size (·.pop)) _ _ _
 refine AA (HK hLg rfl ?_)
 have u1:=CA (Obj.mapSeq (·.push Value.none)) hLg rfl
 refine HK u1 rfl ?_
 have u2:=CA (Obj.mapSeq (·.pop)) u1 rfl
 have oth:∀b o,b≠s.heap.objs.size→g.get? b=some o→((g.update s.heap.objs.size (Obj.mapSeq (·.push Value.none))).update s.heap.objs.size (Obj.mapSeq (·.pop))).get? b=some o:=
  fun b o nb e=>(DZ _ _ (CN nb)).trans ((DZ _ _ (CN nb)).trans e)
 have nf:s.heap.objs.size∉fp:=fun h=>by
  rcases hfp _ h with z|⟨z,_⟩
  ·exact absurd z (CQ la)
  ·have z':(s.heap.push ob).objs.size≤s.heap.objs.size:=z
   rw [sz1] at z'
   exact absurd z' (Nat.not_succ_le_self _)
 have W':=W A.in1 (by simp [hh])
 refine AC ⟨FX PySem.F.plain_extend_loop _,codeAny_extend_loopS W' hs _ nf _ es.size 0 _ _ _ rfl (AV _) (W'.frame 0 ({ s with heap:=g,drawn:=d }:HQ) _ s.toks st (AF _) fun b hb o e=>oth b o (fun h=>nf (h▸hb)) e) u2 (ItemsOf.nil _) fun s' acc c m hS' it=>?_⟩
 show wpAny _ A (load s.heap.objs.size >>= _) _ _ s'
 refine AA (wpAny_load hS' (AC ?_))
 have ex:acc.toList=xs:=by
  obtain ⟨z,h⟩:=it
  apply GX
  intro j
  rw [DQ]
  cases e:acc[j]? with
  |some v=>exact (h j v e).symm
  | none=>
   have:es.size≤j:=by
    have:=Array.getElem?_eq_none_iff.mp e
    omega
   exact (DB (by omega)).symm
 rw [ex]
 obtain ⟨g',gn,dr,tk,os⟩:=s'
 obtain ⟨m1,m2,m3,m4,m5⟩:=m
 dsimp only at m1 m2 m3 m4 m5
 subst m2 m3 m4
 refine q xs g' _ tk (fun b o e=>m1 b o (fun h=>?_) (oth b o ?_ (keep _ _ (AB _ e)))) (AH hS') pm hst
 ·rcases AU.mp h with z|z
  ·subst z
   exact absurd (AH e) (DM _)
  ·rw [AW] at z
   subst z
   have z':(s.heap.push ob).objs.size≤b:=lI
   rw [sz1] at z'
   exact absurd (AH e) (Nat.not_lt_of_le (Nat.le_of_succ_le z'))
 ·exact AS (AH e)
theorem R8:∀{l:HW} {p:Str},risingS p l=true→(∀y∈l,¬lS y p)∧l.Pairwise fun a b=>¬lS b a
 |[],_,_=>⟨fun _ h=>absurd h (by simp),List.Pairwise.nil⟩
 | x::r,p,h=>by
  have h':(!ltCps x.cps.toList p.cps.toList&&risingS x r)=true:=h
  rw [BR,Bool.not_eq_true',ltCps_eq] at h'
  obtain ⟨h1,h2⟩:=h'
  have n1:¬lS x p:=BM h1
  obtain ⟨i1,i2⟩:=R8 h2
  refine ⟨fun y hy=>?_,BY.mpr ⟨i1,i2⟩⟩
  rcases AU.mp hy with rfl|hy
  ·exact n1
  ·intro c
   exact i1 y hy (GG fun d=>n1 (GG fun n1'=>by
    by_cases e:lS p x
    ·exact d (Ak7 c e)
    ·have e2:=Zu n1' e
     subst e2
     exact d c))
theorem R6 {l:HW}(h:sortedS l=true):l.Pairwise fun a b=>¬lS b a:=by
 cases l with
 |nil=>exact List.Pairwise.nil
 |cons x r=>
  obtain ⟨h1,h2⟩:=R8 (p:=x) (l:=r) h
  exact BY.mpr ⟨h1,h2⟩
theorem Z2 {a:HR}{o:Obj}{ss:HW}{es:Array (Int×HP)}{ep:Nat}{t:SetTable}{Q:HP→HQ→Prop}(hh:A.handled=none)(ho:s.heap.get? a=some o)(S:Hb prog w o ss es ep t)(h64:es.size<64)
  (q:∀(r:HR) (us:HY) (ys:HW) (n:Nat) g d tk,s.heap.objs.size≤r→g.get? r=some (seqObj "list" us.toArray n)→(∀b o,s.heap.get? b=some o→g.get? b=some o)→StrsAre us ys→ys.Perm ss→(ys.Pairwise fun a b=>¬lS b a) →
   Q (.ref r) { s with heap:=g,drawn:=d,toks:=tk }):wpAny (model prog w) A (call (.builtin "sorted") [.ref a]) Q E s:=by
 refine Calls.call_function_entry kind_sorted plain_sorted entry_sorted (args_sorted1 _) ?_
 unfold Builtin.«sorted»
 refine AA (m:=checkCount "sorted" 1 1 _) (AC (AA (Aga (by simp [hh]) ho S fun xs g d tk keep lg pm hst=>?_)))
 have hl:xs.length=es.size:=by
  have:=pm.length_eq
  rw [AE] at this
  rw [this,S.size]
 refine AA (FY ?_ (by rw [hl];exact FN S.bd))
 have sa:StrsAre xs (xs.map strOf):=strsAre_map xs hst
 have hoL:(g.push (seqObj "list" xs.toArray 0)).get? g.objs.size=some (seqObj "list" xs.toArray 0):=AG _ rfl
 refine AA (CT (wpAny_call_entry slot_list_sort ⟨_,hoL,rfl⟩ entry_list_sort (list_sort_treeK strKind_oneLt hoL sa.keysOf (fun v1 v2 r e=>keyKind_strs (by rw [←e];exact sa)) (by omega) fun st' a1 a2=>⟨_,rfl,AC ⟨_,rfl,?_⟩⟩) (args_list_sort _)))
 obtain ⟨ys,b1,b2,b3⟩:=sorted_out_str sa a1 a2
 obtain ⟨n,hn⟩:=sortedHeap_at (out:=(arrOf st').map (·.2)) hoL
 refine q g.objs.size ((arrOf st').map (·.2)).toList ys n _ d tk (DL lg) (by rw [hn]) (fun b ob e=>?_) b1 (b2.trans pm) (R6 b3)
 have hb:=AH (keep b ob e)
 show (sortedHeap _ _ _ _).get? b=some ob
 rw [sortedHeap_old (AS hb) (by rw [BW];exact CD hb)]
 exact AB _ (keep b ob e)
end
section
variable {X:Cx}
theorem Pe:∀{us:HY} {ys:HW},StrsAre us ys→A6 (ys.map V.str) us
 |_,_,.nil=>.nil
 |_,_,.cons x t r=>.cons ⟨t,rfl⟩ (Pe r)
theorem N5:bootBuiltins "sorted"=some (.builtin "sorted"):=by decide +kernel
theorem Aec:bootBuiltins "set"=some (.type "set"):=by decide +kernel
def Aqu (K:KKf)(te:TE):TE:=fun σ H Q=>te σ H fun x H1=>match x with
 |.ref l=>∃names:HW,A1 K H1 l (names.map V.str)∧names.length≤1000∧(V4 names).length<64∧∀D,H1 D=none→Q (.ref D) (upd H1 D (.lst ((V4 names).map V.str)))
 |_=>False
theorem Aab {e:Expr}{te:TE}{p p' pos pos':Pos}(hg1:Gl X "sorted")(hm1:X.mg "sorted"=none)(hg2:Gl X "set")(hm2:X.mg "set"=none)(he:PE X e te)(hc:X.calm=true:=by rfl)
  (hs:starEach [.Call (.Name "set" p') [e] [] pos'] X.env=[(false,eval (.Call (.Name "set" p') [e] [] pos') X.env)]:=by rfl) (hs2:starEach [e] X.env=[(false,eval e X.env)]:=by rfl) :
  PE X (.Call (.Name "sorted" p) [.Call (.Name "set" p') [e] [] pos'] [] pos) (Aqu X.K te):=by
 intro pins s σ H Q I h
 refine DD (Ez I hg1 hm1 N5 ?_)
 refine PyProof.Rows.callWith_builtin1 ?_ hs rfl
 rw [hs]
 show wpAny _ _ (spliced ((false,eval (.Call (.Name "set" p') [e] [] pos') X.env)::backTo pos (starEach [] X.env))) _ _ s
 refine DC ?_
 refine DD (Ez I hg2 hm2 Aec ?_)
 refine BX ?_ hs2 rfl
 rw [hs2]
 show wpAny _ _ (spliced ((false,eval e X.env)::backTo pos' (starEach [] X.env))) _ _ s
 refine DC (Bi (he pins s σ H _ I h) fun u s1 ⟨x,H1,I1,r1,q1⟩=>DH ?_)
 match x,q1 with
 |.ref l,⟨names,hq,hn,h64,q⟩=>
  cases (show u=Value.ref l from r1)
  obtain ⟨its,rv,⟨oL,nL,eL,cL,dL,xL⟩,hz⟩:=I1.list hq
  have sa:StrsAre its names:=Td rv
  have hl:its.length=names.length:=by rw [←rv.length,AE]
  have hh:X.A.handled=none:=I1.ok.hd hc
  refine Adt hh ⟨oL,eL,cL,nL,xL⟩ sa (by rw [hl];exact BO (Nat.succ_le_succ hn) (by decide)) fun g tk hS keep=>DH ?_
  obtain ⟨o,es,ep,t,ho,S⟩:=hS
  rw [hl] at S
  refine Z2 hh ho S (by rw [S.size];exact BO (Aju names) h64) fun r us ys n g2 d tk2 lr hr keep2 sa2 pm pw=>?_
  have ey:ys=V4 names:=Me (Lg pw (pm.nodup_iff.mpr (M3 _ _))) (Cz _) fun x=>by rw [pm.mem_iff,Abf,E8]
  subst ey
  have fr:s1.heap.objs.size≤r:=AO (DL (AH ho)) lr
  have I2:=I1.laid (t':=tk2) (h':=g2) (a:=r) (o:=.lst ((V4 names).map V.str)) (fun b u e=>keep2 _ _ (keep _ _ e)) fr ⟨by rw [AE];exact AO (DL h64) (by decide),us,n,Pe sa2,hr⟩
  exact ⟨.ref r,_,⟨I2.ok,I2.os,I2.bare,I2.base,I2.loc,I2.cell,I2.free,I2.freeC,I2.pin,I2.hok,I2.len⟩,rfl,q r (I1.hok.fresh fr)⟩
end
end Lw
end
section
namespace Lw
open PySem PySem.Spec PyProof.Rows L2
inductive Ax {α β:Type}(R:α→β→Prop):List α→List β→Prop where
 |nil:Ax R [] []
 |cons {a:α} {b:β} {l:List α} {m:List β}:R a b→Ax R l m→Ax R (a::l) (b::m)
theorem Ax.len {α β:Type}{R:α→β→Prop}:∀{l:List α} {m:List β},Ax R l m→l.length=m.length
 |_,_,.nil=>rfl
 |_,_,.cons _ r=>by rw [AY,AY,r.len]
theorem Ax.imp {α β:Type}{R S:α→β→Prop}(h:∀a b,R a b→S a b):∀{l:List α} {m:List β},Ax R l m→Ax S l m
 |_,_,.nil=>.nil
 |_,_,.cons x r=>.cons (h _ _ x) (r.imp h)
theorem Ax.snoc {α β:Type}{R:α→β→Prop}{a:α}{b:β}(x:R a b):∀{l:List α} {m:List β},Ax R l m→Ax R (l++[a]) (m++[b])
 |_,_,.nil=>.cons x .nil
 |_,_,.cons y r=>.cons y (r.snoc x)
theorem Ax.get {α β:Type}{R:α→β→Prop}:∀{l:List α} {m:List β},Ax R l m→∀{i:Nat} {a:α},l[i]? =some a→∃b,m[i]? =some b∧R a b
 |_,_,.nil,i,a,h=>by simp at h
 |_,_,.cons x r,0,a,h=>by
  simp at h
  subst h
  exact ⟨_,rfl,x⟩
 |_,_,.cons x r,i+1,a,h=>by
  simp only [DT] at h ⊢
  exact r.get h
def Kt (H H':Hp):Prop:=∀p xs,H p=some (.tup xs)→H' p=some (.tup xs)
theorem Kt.trans {H H1 H2:Hp}(a:Kt H H1)(b:Kt H1 H2):Kt H H2:=fun p xs h=>b p xs (a p xs h)
theorem Bc {H H':Hp}(s:Ag H H'):Kt H H':=fun p xs h=>s p _ h
theorem Na {H:Hp}{D:HR}{zs:ID}{o:HO}(h:H D=some (.lst zs)):Kt H (upd H D o):=fun p xs e=>by
 have ne:p≠D:=fun z=>by
  subst z
  rw [h] at e
  cases e
 rw [Am ne]
 exact e
theorem Fc {H0 H:Hp}{D:HR}{o:HO}(s:Ag H0 H)(h:H0 D=none):Ag H0 (upd H D o):=fun b u e=>by
 rw [Am (Bo e h)]
 exact s b u e
theorem Cb {β:Type}{K:KKf}{a:HR}{xs:ID}{ms:List β}{g:TG}{te:TE}{k:Nat}{js:IC}{σ:L2.St}{H1:Hp}{Q:VK}(M:Hp→V→β→Prop)(upM:∀v m H H',Kt H H'→M H v m→M H' v m)(R:Hp→β→V→Prop)(up:∀m y H H',Kt H H'→R H m y→R H' m y)
  (hz:xs.length≤1000) (hx:A1 K H1 a xs) (hm:Ax (M H1) xs ms)
  (hs:∀v m H2,M H2 v m→m∈ms→Ag H1 H2→∀P:VK,(∀y H3,Ag H2 H3→R H3 m y→P y H3)→g v (List.replicate k none++capσ js σ) H2 fun σ2 H3=>σ2.drop k=capσ js σ∧te σ2 H3 P)
  (hq:∀D H' ys,Ag H1 H'→H1 D=none→H' D=some (.lst ys)→Ax (R H') ms ys→Q (.ref D) H'):Hr (Itl K a) g te k js σ H1 Q:=by
 unfold Hr
 intro D hD
 have hl:=hm.len
 refine ⟨fun i m H=>m=xs.length-i∧i≤xs.length∧Ag H1 H∧∃ys,H D=some (.lst ys)∧Ax (R H) (ms.take i) ys,⟨xs.length,by simp,AV _,An hD,[],Ad,.nil⟩,?_⟩
 rintro i m H ⟨rfl,hi,sm,ys,hH,ar⟩
 have sq:=sm.seq hx
 by_cases hlt:i<xs.length
 ·have e:xs[i]? =some xs[i]:=by simp [hlt]
  refine .inr ⟨⟨xs,_,sq,e⟩,fun x H' y=>?_⟩
  obtain ⟨e1,e2⟩:=y
  subst e1
  have hv:=e2 xs sq
  obtain ⟨m,hmi,hM⟩:=hm.get hv
  refine hs x m _ (upM _ _ _ _ (Bc sm) hM) (BH hmi) sm _ fun y H3 s3 r3=>⟨ys,s3 _ _ hH,?_,xs.length-(i+1),by omega,rfl,hlt,Fc (sm.trans s3) hD,ys++[y],Ad,?_⟩
  ·rw [←ar.len,BQ]
   exact BO (GF _ _) (AL hlt (AO hz (by decide)))
  ·have kt:Kt H3 (upd H3 D (.lst (ys++[y]))):=Na (s3 _ _ hH)
   rw [CI,hmi]
   exact (ar.imp fun v y r=>up v y _ _ ((Bc s3).trans kt) r).snoc (up _ _ _ _ kt r3)
 ·have e:i=xs.length:=by omega
  subst e
  rw [hl,DY] at ar
  exact .inl ⟨⟨xs,sq,AF _⟩,hq D _ ys sm hD hH ar⟩
theorem R4 {β:Type}{K:KKf}{a:HR}{xs:ID}{ms:List β}{g:TG}{tc:TT}{te:TE}{k:Nat}{js:IC}{σ:L2.St}{H1:Hp}{Q:VK}(M:Hp→V→β→Prop)(upM:∀v m H H',Kt H H'→M H v m→M H' v m)(R:Hp→β→V→Prop)(up:∀m y H H',Kt H H'→R H m y→R H' m y)
  (c:β→Bool) (hz:xs.length≤1000) (hx:A1 K H1 a xs) (hm:Ax (M H1) xs ms)
  (hs:∀v m H2,M H2 v m→m∈ms→Ag H1 H2→∀(P:VK) (P':Hp→Prop),(c m=true→∀y H3,Ag H2 H3→R H3 m y→P y H3)→(c m=false→∀H3,Ag H2 H3→P' H3)→g v (List.replicate k none++capσ js σ) H2 fun σ2 H3=>σ2.drop k=capσ js σ∧tc σ2 H3 fun b H4=>Br b (te σ2 H4 P) (P' H4))
  (hq:∀D H' ys,Ag H1 H'→H1 D=none→H' D=some (.lst ys)→Ax (R H') (ms.filter c) ys→Q (.ref D) H'):N1 (Itl K a) g tc te k js σ H1 Q:=by
 unfold N1
 intro D hD
 have hl:=hm.len
 refine ⟨fun i m H=>m=xs.length-i∧i≤xs.length∧Ag H1 H∧∃ys,H D=some (.lst ys)∧Ax (R H) ((ms.take i).filter c) ys,⟨xs.length,by simp,AV _,An hD,[],Ad,.nil⟩,?_⟩
 rintro i m H ⟨rfl,hi,sm,ys,hH,ar⟩
 have sq:=sm.seq hx
 by_cases hlt:i<xs.length
 ·have e:xs[i]? =some xs[i]:=by simp [hlt]
  refine .inr ⟨⟨xs,_,sq,e⟩,fun x H' y=>?_⟩
  obtain ⟨e1,e2⟩:=y
  subst e1
  have hv:=e2 xs sq
  obtain ⟨m,hmi,hM⟩:=hm.get hv
  have yl:ys.length<sizeLine:=by
   rw [←ar.len]
   refine BO (DA _ _) ?_
   rw [BQ]
   exact BO (GF _ _) (AL hlt (AO hz (by decide)))
  refine hs x m _ (upM _ _ _ _ (Bc sm) hM) (BH hmi) sm _ _ (fun hc y H3 s3 r3=>⟨ys,s3 _ _ hH,yl,xs.length-(i+1),by omega,rfl,hlt,Fc (sm.trans s3) hD,ys++[y],Ad,?_⟩) fun hc H3 s3=>⟨xs.length-(i+1),by omega,rfl,hlt,sm.trans s3,ys,s3 _ _ hH,?_⟩
  ·have kt:Kt H3 (upd H3 D (.lst (ys++[y]))):=Na (s3 _ _ hH)
   rw [CI,hmi,GJ]
   have ef:(Option.toList (some m)).filter c=[m]:=by simp [hc]
   rw [ef]
   exact (ar.imp fun v y r=>up v y _ _ ((Bc s3).trans kt) r).snoc (up _ _ _ _ kt r3)
  ·rw [CI,hmi,GJ]
   have ef:(Option.toList (some m)).filter c=[]:=by simp [hc]
   rw [ef,CG]
   exact ar.imp fun v y r=>up v y _ _ (Bc s3) r
 ·have e:i=xs.length:=by omega
  subst e
  rw [hl,DY] at ar
  exact .inl ⟨⟨xs,sq,AF _⟩,hq D _ ys sm hD hH ar⟩
structure Gm where
 d:Int
 a:Str
 b:Str
 h:Int
 s:Int
abbrev IE:=List Gm
def B4 (H:Hp)(v:V)(g:Gm):Prop:=∃p,v=.ref p∧H p=some (.tup [.int g.d,.str g.a,.str g.b,.int g.h,.int g.s])
theorem Cr (v:V)(g:Gm)(H H':Hp)(k:Kt H H')(h:B4 H v g):B4 H' v g:=by
 obtain ⟨p,e,r⟩:=h
 exact ⟨p,e,k _ _ r⟩
def Bk (K:KKf)(H:Hp)(L:HR)(gs:IE):Prop:=∃vs,A1 K H L vs∧Ax (B4 H) vs gs∧gs.length≤100
def trn (g:Gm):Gm:=⟨g.d,g.b,g.a,2-g.h,-g.s⟩
def Gb (gs:IE):HW:=V4 (gs.map (·.a)++gs.map (·.b))
def Asp (n:Str)(g:Gm):Bool:=n==g.a||n==g.b
def Ap7 (n:Str)(g:Gm):Gm:=if g.a=n then g else trn g
def tld (n:Str)(gs:IE):IE:=(gs.filter (Asp n)).map (Ap7 n)
def tkr (n:Str)(gs:IE):HW:=V4 (((tld n gs).filter fun g=>decide (g.h<2)).map (·.b))
theorem Gn {f:Gm→Str}:∀{gs:IE} {ys:ID},Ax (fun g y=>y=V.str (f g)) gs ys→ys=(gs.map f).map V.str
 |_,_,.nil=>rfl
 |_,_,.cons e r=>by rw [e,Gn r];rfl
theorem Ct {gs:IE}{x:Str}:x∈Gb gs↔∃g∈gs,x=g.a∨x=g.b:=by
 unfold Gb
 rw [E8,BV,BG,BG]
 constructor
 ·rintro (⟨g,h,rfl⟩|⟨g,h,rfl⟩)
  ·exact ⟨g,h,.inl rfl⟩
  ·exact ⟨g,h,.inr rfl⟩
 ·rintro ⟨g,h,rfl|rfl⟩
  ·exact .inl ⟨g,h,rfl⟩
  ·exact .inr ⟨g,h,rfl⟩
def gd (g:Gm):PyData:=.tuple [.int g.d,.str g.a,.str g.b,.int g.h,.int g.s]
theorem Ab1:∀{l:HW},(∀x∈l,PyData.strOk x=true)→PyData.canLayAll0 (l.map PyData.str)=true
 |[],_=>rfl
 |x::l,h=>by
  show (PyData.strOk x&&PyData.canLayAll0 (l.map PyData.str))=true
  rw [h x (AK ..),Ab1 fun y hy=>h y (AJ _ hy)]
  rfl
theorem Aap:∀(l:HW),PyData.depthAll (l.map PyData.str)=0
 |[]=>rfl
 |x::l=>by
  show max 0 (PyData.depthAll (l.map PyData.str))=0
  rw [Aap l]
  rfl
theorem Agz:∀{gs:IE},(∀g∈gs,PyData.strOk g.a=true∧PyData.strOk g.b=true)→PyData.canLayAll0 (gs.map gd)=true
 |[],_=>rfl
 |g::gs,h=>by
  obtain ⟨h1,h2⟩:=h g (AK ..)
  show ((true&&(PyData.strOk g.a&&(PyData.strOk g.b&&true)))&&PyData.canLayAll0 (gs.map gd))=true
  rw [h1,h2,Agz fun y hy=>h y (AJ _ hy)]
  rfl
theorem Ahs:∀(gs:IE),PyData.depthAll (gs.map gd)≤1
 |[]=>AV _
 |g::gs=>by
  have e:(gd g).depth=1:=rfl
  show max (gd g).depth (PyData.depthAll (gs.map gd))≤1
  rw [e]
  have:=Ahs gs
  omega
theorem Aic {l:HW}(h:∀x∈l,PyData.strOk x=true):SeqAt.shaped (.list (l.map PyData.str))=true:=by
 unfold SeqAt.shaped
 rw [show (PyData.list (l.map PyData.str)).canLay0=true from Ab1 h,show (PyData.list (l.map PyData.str)).depth=0+1 from congrArg (· + 1) (Aap l)]
 rfl
theorem Aoi {gs:IE}(h:∀g∈gs,PyData.strOk g.a=true∧PyData.strOk g.b=true):SeqAt.shaped (.list (gs.map gd))=true:=by
 unfold SeqAt.shaped
 have e:(PyData.list (gs.map gd)).depth=PyData.depthAll (gs.map gd)+1:=rfl
 have:=Ahs gs
 rw [show (PyData.list (gs.map gd)).canLay0=true from Agz h,e,FF]
 exact AQ (by omega)
theorem Yb {K:KKf}{H:Hp}:∀(l:HW),Q8 K H (l.map V.str) (l.map PyData.str)
 |[]=>.nil
 |x::l=>.cons (.str x) (Yb l)
theorem Abi {K:KKf}{H:Hp}{p:HR}{l:HW}(h:A1 K H p (l.map V.str)):Rp K H (.ref p) (.list (l.map PyData.str)):=.lst h (Yb l)
theorem Acl {K:KKf}{H:Hp}:∀{vs:ID} {gs:IE},Ax (B4 H) vs gs→Q8 K H vs (gs.map gd)
 |_,_,.nil=>.nil
 |_,_,.cons ⟨p,e,h⟩ r=>by
  subst e
  exact .cons (.tup (D7.of h) (.cons (.int _) (.cons (.str _) (.cons (.str _) (.cons (.int _) (.cons (.int _) .nil)))))) (Acl r)
theorem Ank {K:KKf}{H:Hp}{p:HR}{vs:ID}{gs:IE}(h:A1 K H p vs)(a:Ax (B4 H) vs gs):Rp K H (.ref p) (.list (gs.map gd)):=.lst h (Acl a)
theorem Aaj {d:PyData}(h:SeqAt.shaped d=true):PyData.eqv d d=true:=SeqAt.eqv_refl d (SeqAt.canLay_of_shaped h)
theorem Acn {nm:HW}{gs:IE}(h:∀g∈gs,g.a∈nm∧g.b∈nm){x:Str}(hx:x∈Gb gs):x∈nm:=by
 obtain ⟨g,hg,rfl|rfl⟩:=Ct.mp hx
 ·exact (h g hg).1
 ·exact (h g hg).2
theorem Aiv {nm:HW}{gs:IE}(h:∀g∈gs,g.a∈nm∧g.b∈nm):(Gb gs).length≤nm.length:=G3 (Fb (Cz _)) fun x hx=>Acn h hx
end Lw
end
section
namespace Lw
open PySem PySem.Spec PyProof.Rows L2
theorem Al4 {fs es:HZ}{x:Nat}{p:Pos}{env:Env}:starEach (.Tuple fs x p::es) env=(false,eval (.Tuple fs x p) env)::starEach es env:=rfl
theorem Anz {c:Const}{es:HZ}{x:Nat}{p:Pos}{env:Env}:starEach (.Constant c x p::es) env=(false,eval (.Constant c x p) env)::starEach es env:=rfl
theorem B1 {X:Cx}{c:Const}{es:HZ}{x1:Nat}{p:Pos}{te:TE}{t:TA}(ha:PE X (.Constant c x1 p) te)(hr:PA X es t):PA X (.Constant c x1 p::es) (Xx te t):=Ab ha hr Anz
structure QA (X:Cx)(es:HZ)(t:TA):Prop where
 pa:PA X es t
theorem Anh {X:Cx}:QA X [] X5:=⟨Ai⟩
theorem Lm {X:Cx}{fs es:HZ}{x1:Nat}{p:Pos}{te:TE}{t:TA}(ha:PE X (.Tuple fs x1 p) te)(hr:QA X es t):QA X (.Tuple fs x1 p::es) (Xx te t):=⟨Ab ha hr.pa Al4⟩
theorem Alw {X:Cx}{es:HZ}{t:TA}{pos:Pos}(h:QA X es t):PE X (.List es pos) (Aq6 t):=E5 h.pa
end Lw
end
section
namespace Lw
open PySem PySem.Spec PyProof.Rows L2
def Agq (ns:HX):Prop:=∀n∈ns,Builtin.Int.intBits n≤2 ^ 20
theorem Aid {ns:HX}(h:PySem.W.WData.layableAll [PySem.W.WData.list (ns.map PySem.W.WData.int)]=true):Agq ns:=fun n hn=>by
 have h1:=PySem.W.layableW_arg h _ (AW.mpr rfl)
 have h2:=PySem.W.layableW_item h1 (.int n) (BG.mpr ⟨n,hn,rfl⟩)
 have h3:=PySem.W.lay0_int h2
 have h4:PyData.layable0 (.int n)=true:=by
  have:=h3
  simp only [PyData.layableAll0,List.all_cons,List.all_nil,Bool.and_true] at this
  exact this
 exact PyData.bits_of_layable h4
open PySem PySem.W PySem.Calls PyProof.Rows in
theorem Us {l:OpenLaw}{n:Nat}{q:HU}{loose:HW}{XP:(Str→IA)→Heap→Prop}{YP:HV→Heap→Prop}{d:DefRec}(hn:l.most=some n)(nodf:d.params.defaults=[])
  (go:∀(w:HV) (t₀ t:HQ) (mg mb:Str→IA) (fa:HR) (o:Obj) (pm cd doc:HP) (a:HR) (vs:HY) (ns:HX),Agq ns→Ground q loose [] XP w t₀ mg mb t.heap→YP w t.heap→t.heap.get? fa=some o→o.data=.func (docDef d.name d.params d.body d.scope pm cd doc)→t.heap.CodeRec cd d.name→mg d.name=some (.ref fa)→t.heap.get? a=some { cls:=.type "list",data:=.seq vs.toArray }→IntsAre vs ns→ns.length≤n→t.gens=#[] →
   codeAny (model l.prog w) callerA (.call (.ref fa) ⟨[.ref a],[]⟩) (fun r z=>r=.ok (.ret (.bool true))∧OldK t.heap z.heap∧z.os=t.os∧AllBare z.gens) t):WalkO q loose XP YP l.row.toRowW d [] (fun f vs=>PySem.call f vs):=by
 intro w t₀ t mg mb G Y fa o pm cd doc dV kV x1 x2 x3 x4 x5 x6 args vals as pre lay rd wl lo
 have e1:dV=.none:=Dflts.none x4 nodf
 have e2:kV=.none:=Dflts.noKw x4
 subst e1 e2
 obtain ⟨a,vs,ns,rfl,rfl,y1,y2,y3⟩:=Att.script_of hn pre wl
 have run:=go w t₀ t mg mb fa o pm cd doc a vs ns (Aid lay) G Y x1 (fd_plain x2) x3 x5 y1 y2 y3 x6
 refine enter_call (FO run fun r z hq=>?_)
 obtain ⟨rfl,z2,z3,z4⟩:=hq
 refine ⟨.inl ⟨.bool true,.bool true,[],rfl,fun _=>rfl,.bool true,Att.post_true l _,fun _=>⟨List.Pairwise.nil,fun _ no=>(nomatch no)⟩⟩,z2,z3,z4⟩
end Lw
end
section
namespace Lw
open PySem PySem.Spec PySem.W PyProof.Rows
def Rn {α:Type}(key:Nat→Int)(n:Nat):KasT α→(α→Prop)→Prop
 |.ret a,R=>R a
 |.ask i j k,R=>i<n∧j<n∧Rn key n (k (decide (key i<key j))) R
theorem Rn.bind {α β:Type}{key:Nat→Int}{n:Nat}{f:α→KasT β}{R:β→Prop}:∀{t:KasT α},Rn key n t (fun a=>Rn key n (f a) R)→Rn key n (t.bind f) R
 |.ret _,h=>h
 |.ask _ _ k,⟨h1,h2,h3⟩=>⟨h1,h2,Rn.bind (t:=k _) h3⟩
theorem Rn.mono {α:Type}{key:Nat→Int}{n:Nat}{R R':α→Prop}(hr:∀a,R a→R' a):∀{t:KasT α},Rn key n t R→Rn key n t R'
 |.ret a,h=>hr a h
 |.ask _ _ k,⟨h1,h2,h3⟩=>⟨h1,h2,Rn.mono hr (t:=k _) h3⟩
theorem Rn.wp {α:Type}{key:Nat→Int}{n:Nat}{cmp:Nat→Nat→(Bool→HQ→Prop)→HQ→Prop}{s:HQ}(hc:∀i j,i<n→j<n→∀C:Bool→HQ→Prop,C (decide (key i<key j)) s→cmp i j C s){Q:α→HQ→Prop}:∀{t:KasT α},Rn key n t (fun a=>Q a s)→t.kasWp cmp Q s
 |.ret _,h=>h
 |.ask i j k,⟨h1,h2,h3⟩=>hc i j h1 h2 _ (Rn.wp hc (t:=k _) h3)
section
variable {key:Nat→Int}{N:Nat}
def Pv (p:Array Nat)(k:Nat):Nat:=p[k]?.getD 0
theorem F1 (p:Array Nat)(k:Nat):p.getD k 0=Pv p k:=by
 unfold Pv
 exact Array.getD_eq_getD_getElem? ..
theorem F3 {p:Array Nat}{i j:Nat}(hj:j≤p.size)(k:Nat):Pv (kas_rev p i j) k=if i≤k∧k<j then Pv p (i+j-1-k) else Pv p k:=by
 unfold Pv kas_rev
 rw [getElem?_mirror_all hj]
 split<;>rfl
theorem Aob {p:Array Nat}{src d:Nat}(hs:src<p.size)(hd:d≤src)(k:Nat):Pv (bubble p src d) k=if k=src-d then Pv p src else if src-d<k∧k≤src then Pv p (k-1) else Pv p k:=by
 unfold Pv
 rw [getElem?_bubble hs d hd]
 split
 ·rfl
 ·split<;>rfl
theorem Af5 (p:Array Nat)(i j:Nat):(kas_rev p i j).size=p.size:=mirror_size _ _ _ _
def Lt (key:Nat→Int)(i j:Nat):Prop:=key i<key j∨(key i=key j∧i<j)
structure Ma (N:Nat)(p:Array Nat)(n:Nat):Prop where
 sz:p.size=N
 tl:∀k,n≤k→k<N→Pv p k=k
 hd:∀k,k<n→Pv p k<n
 le:n≤N
theorem Ma.lt {p:Array Nat}{n:Nat}(h:Ma N p n){k:Nat}(hk:k<N):Pv p k<N:=by
 by_cases c:k<n
 ·have:=h.hd k c
  have:=h.le
  omega
 ·rw [h.tl k (by omega) hk]
  exact hk
theorem Ma.one {p:Array Nat}{n:Nat}(h:Ma N p n)(hn:n<N):Ma N p (n+1):=⟨h.sz,fun k h1 h2=>h.tl k (by omega) h2,fun k hk=>by
 by_cases c:k<n
 ·have:=h.hd k c
  omega
 ·have:k=n:=by omega
  subst this
  rw [h.tl k (AF _) hn]
  exact hk,hn⟩
theorem Ma.rev {p:Array Nat}{n i:Nat}(h:Ma N p n){j:Nat}(hj:j≤n):Ma N (kas_rev p i j) n:=⟨by rw [Af5,h.sz],fun k h1 h2=>by
 rw [F3 (by rw [h.sz];have:=h.le;omega),AI (by omega)]
 exact h.tl k h1 h2,fun k hk=>by
 rw [F3 (by rw [h.sz];have:=h.le;omega)]
 split
 ·exact h.hd _ (by omega)
 ·exact h.hd k hk,h.le⟩
def As (key:Nat→Int)(p:Array Nat)(n:Nat):Prop:=∀a b,a<b→b<n→Lt key (Pv p a) (Pv p b)
theorem Aoj {p:Array Nat}{n:Nat}(h:Ma N p n)(ha:As key p n)(h1:1≤n)(hn:n<N)(hk:¬key (Pv p n)<key (Pv p (n-1))):As key p (n+1):=fun a b hab hb=>by
 by_cases c:b<n
 ·exact ha a b hab c
 ·have:b=n:=by omega
  subst this
  have e:=h.tl b (AF _) hn
  have l:=h.hd a hab
  rw [e] at hk ⊢
  have q:key (Pv p a)≤key (Pv p (b-1)):=by
   by_cases d:a=b-1
   ·rw [d]
    exact Int.le_refl _
   ·rcases ha a (b-1) (by omega) (by omega) with x|x<;>omega
  by_cases d:key (Pv p a)<key b
  ·exact .inl d
  ·exact .inr ⟨by omega,l⟩
theorem Zv {p:Array Nat}:∀(f n:Nat),Ma N p n→As key p n→1≤n→n+f=N→Rn key N (kas_asc p f n) fun m=>Ma N p m∧As key p m∧n≤m∧(m<N→key (Pv p m)<key (Pv p (m-1)))
 |0,n,h,ha,h1,e=>⟨h,ha,AF _,fun c=>by omega⟩
 | f+1,n,h,ha,h1,e=>by
  show _<N∧_<N∧Rn key N _ _
  rw [F1,F1]
  refine ⟨h.lt (by omega),h.lt (by omega),?_⟩
  by_cases c:key (Pv p n)<key (Pv p (n-1))
  ·rw [AQ c]
   exact ⟨h,ha,AF _,fun _=>c⟩
  ·rw [BC c]
   exact Rn.mono (fun m ⟨a1,a2,a3,a4⟩=>⟨a1,a2,by omega,a4⟩) (Zv f (n+1) (h.one (by omega)) (Aoj h ha h1 (by omega) c) (by omega) (by omega))
def Da (key:Nat→Int)(p:Array Nat)(n:Nat):Prop:=∀a b,a<b→b<n→Lt key (Pv p b) (Pv p a)
structure De (key:Nat→Int)(p:Array Nat)(n q:Nat):Prop where
 ql:q<n
 dn:∀a b,a<b→b<n→a+q+1<n→Lt key (Pv p b) (Pv p a)
 gp:∀a,a+q+1<n→key (Pv p (n-1))<key (Pv p a)
 eq:∀a b,n≤a+q+1→a<b→b<n→key (Pv p a)=key (Pv p b)∧Pv p a<Pv p b
theorem De.all {p:Array Nat}{n q:Nat}(h:Ma N p n)(d:De key p n q):Da key (kas_rev p (n-(q+1)) n) n:=by
 have hz:n≤p.size:=by rw [h.sz];exact h.le
 have ql:=d.ql
 refine fun a b hab hb=>?_
 rw [F3 hz,F3 hz]
 by_cases ca:n-(q+1)≤a
 ·rw [AN ⟨by omega,hb⟩,AN ⟨ca,by omega⟩]
  obtain ⟨e,l⟩:=d.eq (n-(q+1)+n-1-b) (n-(q+1)+n-1-a) (by omega) (by omega) (by omega)
  exact .inr ⟨e,l⟩
 ·rw [AI (show ¬(n-(q+1)≤a∧a<n) by omega)]
  split
  ·exact d.dn a _ (by omega) (by omega) (by omega)
  ·exact d.dn a b hab hb (by omega)
theorem De.zero {p:Array Nat}{n:Nat}(d:De key p n 0):Da key p n:=fun a b hab hb=>d.dn a b hab hb (by omega)
theorem De.last {p:Array Nat}{n q:Nat}(d:De key p n q){a:Nat}(ha:a<n):key (Pv p (n-1))≤key (Pv p a):=by
 have ql:=d.ql
 by_cases e:a=n-1
 ·rw [e]
  exact Int.le_refl _
 ·by_cases c:a+q+1<n
  ·exact Int.le_of_lt (d.gp a c)
  ·have:=(d.eq a (n-1) (by omega) (by omega) (by omega)).1
   omega
theorem Da.below {p:Array Nat}{n:Nat}(h:Ma N p n)(d:Da key p n)(hn:n<N)(hk:∀a,a<n→key n<key (Pv p a)):De key p (n+1) 0:=⟨by omega,fun a b hab hb _=>by
 by_cases c:b<n
 ·exact d a b hab c
 ·have:b=n:=by omega
  subst this
  rw [h.tl b (AF _) hn]
  exact .inl (hk a hab),fun a ha=>by
 show key (Pv p n)<_
 rw [h.tl n (AF _) hn]
 exact hk a (by omega),fun a b h1 h2 h3=>by omega⟩
theorem De.same {p:Array Nat}{n q:Nat}(h:Ma N p n)(d:De key p n q)(hn:n<N)(hk:key n=key (Pv p (n-1))):De key p (n+1) (q+1):=by
 have ql:=d.ql
 have e:=h.tl n (AF _) hn
 refine ⟨by omega,fun a b hab hb hq=>?_,fun a ha=>?_,fun a b h1 h2 h3=>?_⟩
 ·by_cases c:b<n
  ·exact d.dn a b hab c (by omega)
  ·have:b=n:=by omega
   subst this
   rw [e]
   have:=d.gp a (by omega)
   exact .inl (by omega)
 ·show key (Pv p n)<_
  rw [e,hk]
  exact d.gp a (by omega)
 ·by_cases c:b<n
  ·exact d.eq a b (by omega) h2 c
  ·have:b=n:=by omega
   subst this
   rw [e]
   refine ⟨?_,h.hd a h2⟩
   by_cases z:a=b-1
   ·rw [z]
    exact hk.symm
   ·rw [hk]
    exact (d.eq a (b-1) (by omega) (by omega) (by omega)).1
theorem O8:∀(f:Nat) {p:Array Nat} {n q:Nat},Ma N p n→De key p n q→n+f=N→Rn key N (kas_desc f p n q) fun r=>Ma N r.1 r.2.1∧De key r.1 r.2.1 r.2.2
 |0,p,n,q,h,d,e=>⟨h,d⟩
 | f+1,p,n,q,h,d,e=>by
  have ql:=d.ql
  have hn:n<N:=by omega
  show _<N∧_<N∧Rn key N _ _
  rw [F1,F1]
  have en:=h.tl n (AF _) hn
  refine ⟨h.lt hn,h.lt (by omega),?_⟩
  by_cases c:key (Pv p n)<key (Pv p (n-1))
  ·simp only [AQ c,↓reduceIte]
   rw [en] at c
   by_cases z:q>0
   ·rw [AN z]
    have h':=h.rev (i:=n-(q+1)) (AF n)
    refine O8 f (h'.one hn) ((d.all h).below h' hn fun a ha=>?_) (by omega)
    rw [F3 (by rw [h.sz];omega)]
    split
    ·have:=d.last (a:=n-(q+1)+n-1-a) (by omega)
     omega
    ·have:=d.last ha
     omega
   ·rw [AI z]
    have:q=0:=by omega
    subst this
    exact O8 f (h.one hn) (d.zero.below h hn fun a ha=>by have:=d.last ha;omega) (by omega)
  ·simp only [BC c,BL,↓reduceIte]
   show _<N∧_<N∧Rn key N _ _
   refine ⟨h.lt (by omega),h.lt hn,?_⟩
   by_cases c':key (Pv p (n-1))<key (Pv p n)
   ·simp only [AQ c',↓reduceIte]
    exact ⟨h,d⟩
   ·simp only [BC c',BL,↓reduceIte]
    exact O8 f (h.one hn) (d.same h hn (by rw [en] at c c';omega)) (by omega)
theorem Da.turn {p:Array Nat}{n:Nat}(h:Ma N p n)(d:Da key p n):As key (kas_rev p 0 n) n:=fun a b hab hb=>by
 have hz:n≤p.size:=by rw [h.sz];exact h.le
 rw [F3 hz,F3 hz,AN ⟨AV _,by omega⟩,AN ⟨AV _,hb⟩]
 exact d _ _ (by omega) (by omega)
theorem Wk {p:Array Nat}{n:Nat}(h:Ma N p n)(d:Da key p n)(h1:1≤n):Rn key N (kas_tail3 n N p) fun r=>Ma N r.2 r.1∧As key r.2 r.1∧1≤r.1:=by
 unfold kas_tail3
 exact Rn.bind (Rn.mono (fun m ⟨a1,a2,a3,_⟩=>⟨a1,a2,by omega⟩) (Zv (N-n) n (h.rev (AF n)) (d.turn h) h1 (by have:=h.le;omega)))
theorem Abj {p:Array Nat}{n:Nat}(h:Ma N p n)(d:Da key p n)(h1:1≤n)(hn:n<N)(hk:∀a,a<n→key n<key (Pv p a)):Rn key N (kas_descPart n N p) fun r=>Ma N r.2 r.1∧As key r.2 r.1∧1≤r.1:=by
 unfold kas_descPart
 refine Rn.bind (Rn.mono ?_ (O8 (N-(n+1)) (h.one hn) (d.below h hn hk) (by omega)))
 rintro ⟨p',n',q'⟩ ⟨h',d'⟩
 have ql:=d'.ql
 have ql:q'<n':=ql
 show Rn key N (if q'>0 then kas_tail3 n' N (kas_rev p' (n'-(q'+1)) n') else kas_tail3 n' N p') _
 by_cases z:q'>0
 ·rw [AN z]
  exact Wk (h'.rev (AF _)) (d'.all h') (by omega)
 ·rw [AI z]
  have:q'=0:=by omega
  subst this
  exact Wk h' d'.zero (by omega)
theorem Af1 {p:Array Nat}(h:Ma N p 1)(hN:1≤N):Rn key N (kas_count N p) fun r=>Ma N r.2 r.1∧As key r.2 r.1∧1≤r.1:=by
 unfold kas_count
 refine Rn.bind (Rn.mono ?_ (Zv (N-1) 1 h (fun a b h1 h2=>by omega) (AF _) (by omega)))
 intro n ⟨h',a',n1,lo⟩
 have le:=h'.le
 by_cases e:(n==N)=true
 ·rw [AN e]
  exact ⟨h',a',n1⟩
 ·rw [AI e]
  have hn:n<N:=by
   have:n≠N:=fun c=>e (by simp [c])
   omega
  have lo:=lo hn
  rw [h'.tl n (AF _) hn] at lo
  by_cases z:n>1
  ·rw [AN z]
   show _<N∧_<N∧Rn key N _ _
   rw [F1,F1]
   refine ⟨h'.lt (by omega),h'.lt (by omega),?_⟩
   by_cases c:key (Pv p 0)<key (Pv p (n-1))
   ·simp only [AQ c,↓reduceIte]
    exact ⟨h',a',n1⟩
   ·simp only [BC c,BL,↓reduceIte]
    have hz:n≤p.size:=by rw [h'.sz];exact le
    have mono:∀a b,a≤b→b<n→key (Pv p a)≤key (Pv p b):=fun a b hab hb=>by
     by_cases e:a=b
     ·rw [e]
      exact Int.le_refl _
     ·rcases a' a b (by omega) hb with x|x<;>omega
    have alike:∀a,a<n→key (Pv p a)=key (Pv p (n-1)):=fun a ha=>by
     have:=mono 0 a (by omega) ha
     have:=mono a (n-1) (by omega) (by omega)
     omega
    refine Abj (h'.rev (AF n)) (fun a b hab hb=>?_) n1 hn fun a ha=>?_
    ·rw [F3 hz,F3 hz,AN ⟨AV _,hb⟩,AN ⟨AV _,by omega⟩]
     exact a' _ _ (by omega) (by omega)
    ·rw [F3 hz,AN ⟨AV _,ha⟩,alike _ (by omega)]
     exact lo
  ·rw [AI z]
   have:n=1:=by omega
   subst this
   exact Abj h' (fun a b h1 h2=>by omega) n1 hn fun a ha=>by
    have:a=0:=by omega
    subst this
    exact lo
theorem Pr {p:Array Nat}{k:Nat}(h:Ma N p k)(ha:As key p k)(hk:k<N):∀(f l r:Nat),l≤r→r≤k→r≤l+f→(∀a,a<l→¬key k<key (Pv p a))→(∀a,r≤a→a<k→key k<key (Pv p a))→Rn key N (kas_place p k f l r) fun m=>m≤k∧(∀a,a<m→¬key k<key (Pv p a))∧∀a,m≤a→a<k→key k<key (Pv p a)
 |0,l,r,lr,rk,rf,lo,hi=>⟨by omega,lo,fun a h1 h2=>hi a (by omega) h2⟩
 | f+1,l,r,lr,rk,rf,lo,hi=>by
  unfold kas_place
  by_cases c:l≥r
  ·rw [AN c]
   exact ⟨by omega,lo,fun a h1 h2=>hi a (by omega) h2⟩
  ·rw [AI c]
   show _<N∧_<N∧Rn key N _ _
   rw [F1,F1]
   refine ⟨h.lt hk,h.lt (by omega),?_⟩
   rw [h.tl k (AF _) hk]
   have mono:∀a b,a≤b→b<k→key (Pv p a)≤key (Pv p b):=fun a b hab hb=>by
    by_cases e:a=b
    ·rw [e]
     exact Int.le_refl _
    ·rcases ha a b (by omega) hb with x|x<;>omega
   by_cases d:key k<key (Pv p ((l+r) / 2))
   ·simp only [AQ d,↓reduceIte]
    refine Pr h ha hk f l ((l+r) / 2) (by omega) (by omega) (by omega) lo fun a h1 h2=>?_
    have:=mono _ _ h1 h2
    omega
   ·simp only [BC d,BL,↓reduceIte]
    refine Pr h ha hk f ((l+r) / 2+1) r (by omega) rk (by omega) (fun a h1=>?_) hi
    have:=mono a ((l+r) / 2) (by omega) (by omega)
    omega
theorem Afm:∀(f:Nat) {p:Array Nat} {k:Nat},Ma N p k→As key p k→k+f=N→Rn key N (kas_bin f p k) fun p'=>Ma N p' N∧As key p' N
 |0,p,k,h,ha,e=>by
  have:k=N:=by omega
  subst this
  exact ⟨h,ha⟩
 | f+1,p,k,h,ha,e=>by
  have hk:k<N:=by omega
  unfold kas_bin
  refine Rn.bind (Rn.mono ?_ (Pr h ha hk k 0 k (AV _) (AF _) (by omega) (fun a h1=>by omega) fun a h1 h2=>by omega))
  intro m ⟨mk,lo,hi⟩
  have hs:k<p.size:=by rw [h.sz];exact hk
  have at':=Aob hs (d:=k-m) (by omega)
  have e1:k-(k-m)=m:=by omega
  rw [e1] at at'
  have en:=h.tl k (AF _) hk
  rw [en] at at'
  refine Afm f ⟨by rw [bubble_size,h.sz],fun a h1 h2=>?_,fun a h1=>?_,by omega⟩ (fun a b hab hb=>?_) (by omega)
  ·rw [at',AI (by omega),AI (by omega)]
   exact h.tl a (by omega) h2
  ·rw [at']
   split
   ·omega
   ·split
    ·have:=h.hd (a-1) (by omega)
     omega
    ·have:=h.hd a (by omega)
     omega
  ·rw [at',at']
   by_cases ca:a=m
   ·rw [AN ca,AI (by omega),AN (by omega)]
    exact .inl (hi (b-1) (by omega) (by omega))
   ·rw [AI ca]
    by_cases cb:b=m
    ·rw [AN cb,AI (by omega)]
     have:=lo a (by omega)
     have l:=h.hd a (by omega)
     by_cases d:key (Pv p a)<key k
     ·exact .inl d
     ·exact .inr ⟨by omega,l⟩
    ·rw [AI cb]
     by_cases c1:m<a
     ·rw [AN (by omega),AN (by omega)]
      exact ha _ _ (by omega) (by omega)
     ·rw [AI (by omega)]
      by_cases c2:m<b
      ·rw [AN (by omega)]
       exact ha _ _ (by omega) (by omega)
      ·rw [AI (by omega)]
       exact ha a b hab (by omega)
theorem Aeo {N k:Nat}(h:k<N):Pv (List.toArray (List.range N)) k=k:=by
 unfold Pv
 simp [h]
theorem Aca (hN:1≤N):Rn key N (kas_sort N) fun p=>Ma N p N∧As key p N:=by
 unfold kas_sort
 refine Rn.bind (Rn.mono ?_ (Af1 (p:=List.toArray (List.range N)) ⟨by simp,fun k _ h2=>Aeo h2,fun k hk=>by
  have:k=0:=by omega
  subst this
  rw [Aeo (by omega)]
  omega,hN⟩ hN))
 rintro ⟨m,p⟩ ⟨h,ha,m1⟩
 have h:Ma N p m:=h
 have m1:1≤m:=m1
 show Rn key N (if m<N then kas_bin (N-max m 1) p (max m 1) else .ret p) _
 have le:=h.le
 by_cases c:m<N
 ·rw [AN c,Nat.max_eq_left m1]
  exact Afm (N-m) h ha (by omega)
 ·rw [AI c]
  have:m=N:=by omega
  subst this
  exact ⟨h,ha⟩
end
end Lw
end
section
namespace Lw
open PySem PySem.Spec PySem.W PyProof.Rows L2
def Jr (key:Nat→Int)(n:Nat)(p:IC):Prop:=p.length=n∧(∀i∈p,i<n)∧p.Pairwise (Lt key)
def Kp (a:HR)(h h':Heap):Prop:=∀b o,b≠a→h.get? b=some o→h'.get? b=some o
def Ks (key:Nat→Int)(ks:HY):Prop:=∀i k,ks[i]? =some k→∃t,k=Value.int (key i) t
theorem Ks.snoc {key:Nat→Int}{ks:HY}{t:Tok}(h:Ks key ks):Ks key (ks++[Value.int (key ks.length) t]):=fun i k e=>by
 rw [List.getElem?_append] at e
 split at e
 ·exact h i k e
 ·rename_i c
  cases q:i-ks.length with
  |zero=>
   rw [q] at e
   have e:Value.int (key ks.length) t=k:=by simpa using e
   have:i=ks.length:=by omega
   rw [this]
   exact ⟨t,e.symm⟩
  |succ m=>
   rw [q] at e
   simp at e
def Hv (vs:HY)(p:IC):HY:=p.map fun i=>vs.getD i Value.none
theorem Qr (vs:HY):Hv vs (List.range vs.length)=vs:=by
 refine List.ext_getElem (by simp [Hv]) fun i h1 h2=>?_
 simp [Hv,h2]
theorem Abv {key:Nat→Int}{n:Nat}(h:n<2):Jr key n (List.range n):=by
 refine ⟨DR,fun i hi=>BZ.mp hi,?_⟩
 match n,h with
 |0,_=>exact .nil
 |1,_=>exact FD _ _
theorem Ag0 {key:Nat→Int}{n:Nat}{p:Array Nat}(h:Ma n p n)(ha:As key p n):Jr key n p.toList:=by
 have pv:∀i (hi:i<p.toList.length),p.toList[i]=Pv p i:=fun i hi=>by
  have hi':i<p.size:=by simpa using hi
  unfold Pv
  simp [hi']
 refine ⟨by rw [BK,h.sz],fun i hi=>?_,ER.mpr fun i j hi hj hij=>?_⟩
 ·obtain ⟨k,hk,rfl⟩:=GB hi
  rw [pv k hk]
  exact h.lt (by rw [BK,h.sz] at hk;exact hk)
 ·rw [pv i hi,pv j hj]
  exact ha i j hij (by rw [BK,h.sz] at hj;exact hj)
section
variable {prog:HU}{w:HV}{A:HS}{E:HP→HQ→Prop}{s:HQ}{a kS:HR}{vs:HY}
theorem Abs {st:SortSt}{e e1:Nat}{ks out:HY}{P:PySem.Fin→HQ→Prop}(hne:kS≠a)(hk:s.heap.get? kS=some (seqObj "list" (List.toArray ks) e))(ha:s.heap.get? a=some (seqObj "list" #[] e1))
  (hout:(arrOf st).map (·.2)=List.toArray out) (hz:out.length<64) (hkz:ks.length<64) (hf:failedOf st=none)
  (h:∀h' n,(∀b o,b≠a→b≠kS→s.heap.get? b=some o→h'.get? b=some o)→h'.get? a=some (seqObj "list" (List.toArray out) n)→P (.done (.ret .none)) { s with heap:=h' }) :
  wpAny (model prog w) A (ksk_tail a false e1 (.ref kS) st) P E s:=by
 have s1:=BU s.heap kS (Obj.mapSeq fun _=>(#[]:Array HP))
 have ha1:(s.heap.update kS (Obj.mapSeq fun _=>(#[]:Array HP))).get? a=some (seqObj "list" #[] e1):=(s1.2 a (CN hne)).trans ha
 have s2:=BU (s.heap.update kS (Obj.mapSeq fun _=>(#[]:Array HP))) a (Obj.mapSeq fun _=>List.toArray out)
 obtain ⟨c2,hc2⟩:∃c2,((s.heap.update kS (Obj.mapSeq fun _=>(#[]:Array HP))).update a (Obj.mapSeq fun _=>List.toArray out)).get? a=some (seqObj "list" (List.toArray out) c2):=⟨_,get?_update_seq ha1 fun _=>List.toArray out⟩
 unfold ksk_tail
 try dsimp only
 rw [hout]
 refine AA (FG hk rfl ?_ (by rw [AR,CM];omega) (AV _))
 refine AA (wpAny_letGo ?_)
 refine AA (seqEpoch_at ha1 rfl ?_)
 refine AA (FG ha1 rfl ?_ (AV _) (by show (List.toArray out).size≤_;rw [AR,CM];omega))
 rw [hf]
 simp only [CP,BL,DE]
 exact AC (h _ c2 (fun b o n1 n2 q=>(s2.2 b n1).trans ((s1.2 b n2).trans q)) hc2)
theorem Amt {key:Nat→Int}{e e1:Nat}{ks:HY}{P:PySem.Fin→HQ→Prop}(hne:kS≠a)(hk:s.heap.get? kS=some (seqObj "list" (List.toArray ks) e))(ha:s.heap.get? a=some (seqObj "list" #[] e1))(hl:ks.length=vs.length)(h64:vs.length<64)(hks:Ks key ks)
  (h:∀h' n p,Jr key vs.length p→(∀b o,b≠a→b≠kS→s.heap.get? b=some o→h'.get? b=some o)→h'.get? a=some (seqObj "list" (List.toArray (Hv vs p)) n)→P (.done (.ret .none)) { s with heap:=h' }) :
  wpAny (model prog w) A (ksk_end a false vs.toArray e1 (.ref kS) (List.toArray ks)) P E s:=by
 unfold ksk_end
 try dsimp only
 simp only [BL,DE]
 by_cases h2:vs.length<2
 ·have h2':vs.toArray.size<2:=by rwa [AR]
  rw [AN h2',AN h2']
  refine AA (AC ?_)
  rw [StateT.run_pure]
  refine AA (AC ?_)
  try dsimp only
  refine Abs (out:=Hv vs (List.range vs.length)) hne hk ha ?_ (by rw [Qr];exact h64) (by omega) rfl (fun h' n=>h h' n _ (Abv h2))
  rw [Qr]
  show ((List.toArray ks).zip vs.toArray).map (·.2)=_
  refine Array.ext (by simp [hl]) fun i h1 h2=>?_
  simp
 ·have h2':¬vs.toArray.size<2:=by rwa [AR]
  rw [AI h2',AI h2']
  refine AA (kas_kind (T:=.type "int") (by omega) (fun v hv=>?_) rfl rfl ?_)
  ·obtain ⟨i,hi,rfl⟩:=GB hv
   obtain ⟨t,e⟩:=hks i _ (AD hi)
   rw [e]
   exact .now
  ·refine AA (BP (kat_run (E:=E) (Q:=fun st' s'=>s'=s∧∃p:Array Nat,Jr key vs.length p.toList∧(arrOf st').map (·.2)=List.toArray (Hv vs p.toList)∧failedOf st'=none)
    (G:=fun p s'=>s'=s∧Jr key vs.length p.toList) hl (by omega) h64 (fun p' st' s' a1 a2 a3 ⟨a4,a5⟩=>⟨a4,p',a5,kat_snds hl a2,a3⟩) ?_) (fun r s' hq=>?_) fun _ _ x=>x)
   ·refine Rn.wp (key:=key) (n:=vs.length) (fun i j hi hj C c=>?_) (Rn.mono (fun p hp=>⟨rfl,Ag0 hp.1 hp.2⟩) (Aca (by omega)))
    unfold kas_ask
    have gi:∀i,i<vs.length→∃t,ks.getD i Value.none=.int (key i) t:=fun i hi=>by
     have hi':i<ks.length:=by omega
     obtain ⟨t,e⟩:=hks i _ (AD hi')
     exact ⟨t,by rw [BF,AD hi',Option.getD_some,e]⟩
    obtain ⟨t1,e1⟩:=gi i hi
    obtain ⟨t2,e2⟩:=gi j hj
    rw [e1,e2]
    exact kat_lt_int c
   ·obtain ⟨rfl,p,hs,ho,hf⟩:=hq
    obtain ⟨⟨⟩,st'⟩:=r
    try dsimp only
    exact Abs hne hk ha ho (by unfold Hv;rw [AE,hs.1];exact h64) (by omega) hf fun h' n=>h h' n _ hs
theorem Apl {key:Nat→Int}{f:HP}{n:Nat}{P:PySem.Fin→HQ→Prop}(ho:s.heap.get? a=some (seqObj "list" vs.toArray n))(h64:vs.length<64)
  (hk:∀(i:Nat) (v:HP) (h1:Heap) (t1:Nat),vs[i]? =some v→Kp a s.heap h1→∀Q:HP→HQ→Prop,(∀h2 t2 t,(∀b o,h1.get? b=some o→h2.get? b=some o)→Q (.int (key i) t) { s with heap:=h2,toks:=t2 }) →
   wpAny (model prog w) A (call f [v]) Q (fun _ _=>False) { s with heap:=h1,toks:=t1 })
  (h:∀h' t n p,Jr key vs.length p→Kp a s.heap h'→h'.get? a=some (seqObj "list" (List.toArray (Hv vs p)) n)→P (.done (.ret .none)) { s with heap:=h',toks:=t }) :
  wpAny (model prog w) A (ksk_tree a f false) P E s:=by
 have al:a<s.heap.objs.size:=AH ho
 have s1:=BU s.heap a (Obj.mapSeq fun _=>(#[]:Array HP))
 obtain ⟨e1,ho1⟩:∃e1,(s.heap.update a (Obj.mapSeq fun _=>(#[]:Array HP))).get? a=some (seqObj "list" #[] e1):=⟨_,get?_update_seq ho fun _=>#[]⟩
 have hkS:((s.heap.update a (Obj.mapSeq fun _=>(#[]:Array HP))).push (seqObj "tuple" vs.toArray 0)).objs.size=s.heap.objs.size+1:=by rw [size_push',Heap.size_update]
 unfold ksk_tree
 refine AA (listItems_at ho rfl ?_)
 refine AA (FG ho rfl ?_ (by rw [AR,CM];omega) (AV _))
 refine AA (seqEpoch_at ho1 rfl ?_)
 refine AA (wpAny_newTuple ?_ (by show vs.length≤_;rw [CM];omega))
 refine AA (FY ?_ (AV _))
 refine CT ?_
 have kne:((s.heap.update a (Obj.mapSeq fun _=>(#[]:Array HP))).push (seqObj "tuple" vs.toArray 0)).objs.size≠a:=by rw [hkS];exact CQ (CD al)
 have kk:=AG ((s.heap.update a (Obj.mapSeq fun _=>(#[]:Array HP))).push (seqObj "tuple" vs.toArray 0)) (o:=seqObj "list" #[] 0) rfl
 have ka:(((s.heap.update a (Obj.mapSeq fun _=>(#[]:Array HP))).push (seqObj "tuple" vs.toArray 0)).push (seqObj "list" #[] 0)).get? a=some (seqObj "list" #[] e1):=AB _ (AB _ ho1)
 have kp:Kp a s.heap (((s.heap.update a (Obj.mapSeq fun _=>(#[]:Array HP))).push (seqObj "tuple" vs.toArray 0)).push (seqObj "list" #[] 0)):=fun b o ne e=>
  AB _ (AB _ ((s1.2 b ne).trans e))
 have kold:s.heap.objs.size≤((s.heap.update a (Obj.mapSeq fun _=>(#[]:Array HP))).push (seqObj "tuple" vs.toArray 0)).objs.size:=by rw [hkS];exact CU _
 show wpAny (model prog w) A (ksk_rest a f false vs.toArray e1 (.ref ((s.heap.update a (Obj.mapSeq fun _=>(#[]:Array HP))).push (seqObj "tuple" vs.toArray 0)).objs.size)) P E { s with heap:=((s.heap.update a (Obj.mapSeq fun _=>(#[]:Array HP))).push (seqObj "tuple" vs.toArray 0)).push (seqObj "list" #[] 0) }
 generalize ((s.heap.update a (Obj.mapSeq fun _=>(#[]:Array HP))).push (seqObj "tuple" vs.toArray 0)).push (seqObj "list" #[] 0)=g at kk ka kp
 generalize ((s.heap.update a (Obj.mapSeq fun _=>(#[]:Array HP))).push (seqObj "tuple" vs.toArray 0)).objs.size=kS at kk kne kold
 unfold ksk_rest
 refine AA (GL ?_)
 first
  |rw [List.forIn_toArray]
  |(rw [←Array.forIn_toList];simp only [List.toList_toArray])
  |rw [←Array.forIn_toList]
 refine AA (ksk_fold (fun i s'=>∃h' t ks e,s'={ s with heap:=h',toks:=t }∧Kp a s.heap h'∧h'.get? a=some (seqObj "list" #[] e1)∧h'.get? kS=some (seqObj "list" (List.toArray ks) e)∧ks.length=i∧Ks key ks) vs 0 _ ⟨g,s.toks,[],0,rfl,kp,ka,kk,rfl,fun i k e=>by simp at e⟩ (fun j x s' hx ⟨h',t,ks,e,es,k1,k2,k3,k4,k5⟩=>?_) fun s' ⟨h',t,ks,e,es,k1,k2,k3,k4,k5⟩=>?_)
 ·subst es
  rw [Nat.zero_add] at k4
  refine AA (wpAny_attempt (BP (hk j x h' t hx k1 (fun k s''=>∃h2 t2 tk,k=.int (key j) tk∧s''={ s with heap:=h2,toks:=t2 }∧∀b o,h'.get? b=some o→h2.get? b=some o) fun h2 t2 tk kk=>⟨h2,t2,tk,rfl,rfl,kk⟩) (fun k s'' hq=>?_) fun _ _ x=>x.elim))
  obtain ⟨h2,t2,tk,rfl,rfl,kk2⟩:=hq
  have jl:j<vs.length:=(BI.mp hx).1
  have ea:(List.toArray ks).push (Value.int (key j) tk)=List.toArray (ks++[Value.int (key j) tk]):=by simp
  have s3:=BU h2 kS (Obj.mapSeq (·.push (Value.int (key j) tk)))
  obtain ⟨c2,hc2⟩:∃c2,(h2.update kS (Obj.mapSeq (·.push (Value.int (key j) tk)))).get? kS=some (seqObj "list" (List.toArray (ks++[Value.int (key j) tk])) c2):=⟨_,by rw [←ea];exact get?_update_seq (kk2 _ _ k3) (·.push (Value.int (key j) tk))⟩
  try dsimp only
  refine AA (FG (kk2 _ _ k3) rfl ?_ (by rw [AR,CM];omega) (AO (Nat.le_of_eq (Array.size_push ..)) (by rw [AR,CM];omega)))
  refine AC ⟨rfl,_,t2,ks++[Value.int (key j) tk],c2,rfl,fun b o ne q=>(s3.2 b ?_).trans (kk2 _ _ (k1 b o ne q)),(s3.2 a (CN kne)).trans (kk2 _ _ k2),hc2,by rw [AM,k4];simp,?_⟩
  ·intro e
   exact absurd (AH q) (by rw [e];exact Nat.not_lt.mpr kold)
  ·have:=k5.snoc (t:=tk)
   rwa [k4] at this
 ·subst es
  rw [Nat.zero_add] at k4
  refine AA (listItems_at k3 rfl ?_)
  refine Amt (key:=key) kne k3 k2 k4 h64 k5 fun h2 n2 p hp kk2 hc=>h h2 t n2 p hp (fun b o ne q=>kk2 b o ne ?_ (k1 b o ne q)) hc
  intro e
  exact absurd (AH q) (by rw [e];exact Nat.not_lt.mpr kold)
theorem Ah1 {key:Nat→Int}{f l:HR}{Q:HP→HQ→Prop}(hl:s.heap.IsList l vs.toArray)(h64:vs.length<64)
  (hk:∀(i:Nat) (v:HP) (h1:Heap) (t1:Nat),vs[i]? =some v→(∀b o,s.heap.get? b=some o→h1.get? b=some o)→∀Q:HP→HQ→Prop,(∀h2 t2 t,(∀b o,h1.get? b=some o→h2.get? b=some o)→Q (.int (key i) t) { s with heap:=h2,toks:=t2 }) →
   wpAny (model prog w) A.in1.in1 (call (.ref f) [v]) Q (fun _ _=>False) { s with heap:=h1,toks:=t1 })
  (h:∀D h' t n p,s.heap.objs.size≤D→Jr key vs.length p→(∀b o,s.heap.get? b=some o→h'.get? b=some o)→h'.get? D=some (seqObj "list" (List.toArray (Hv vs p)) n)→Q (.ref D) { s with heap:=h',toks:=t }) :
  wpAny (model prog w) A (call (.builtin "sorted") [.ref l] [(Str.ofString "key",.ref f)]) Q E s:=by
 refine call_function_entry_kw kind_sorted plain_sorted entry_sorted (ksk_s1 _ _) ?_
 unfold Builtin.«sorted»
 refine AA (m:=checkCount "sorted" 1 1 _) (AC ?_)
 refine AA (collect_list hl ?_ (by rw [CM];omega))
 refine AA (FY ?_ (by rw [CM];omega))
 have hsz:((s.heap.push (seqObj "list" #[] 0)).update s.heap.objs.size (Obj.mapSeq (· ++ vs.toArray))).objs.size=s.heap.objs.size+1:=by
  rw [Heap.size_update,size_push']
 have hoL:(((s.heap.push (seqObj "list" #[] 0)).update s.heap.objs.size (Obj.mapSeq (· ++ vs.toArray))).push (seqObj "list" vs.toArray 0)).get? (s.heap.objs.size+1)=some (seqObj "list" vs.toArray 0):=by
  rw [←hsz];exact AG _ rfl
 have keep:∀b o,s.heap.get? b=some o→(((s.heap.push (seqObj "list" #[] 0)).update s.heap.objs.size (Obj.mapSeq (· ++ vs.toArray))).push (seqObj "list" vs.toArray 0)).get? b=some o:=fun b o q=>by
  have hlt:b<s.heap.objs.size:=AH q
  rw [GY _ _ _ (by rw [hsz];exact AS (CD hlt)),Heap.get?_update_ne _ _ _ _ (AS hlt),GY _ _ _ (AS hlt)]
  exact q
 show wpAny _ _ _ _ _ { s with heap:=((s.heap.push (seqObj "list" #[] 0)).update s.heap.objs.size (Obj.mapSeq (· ++ vs.toArray))).push (seqObj "list" vs.toArray 0) }
 rw [hsz]
 have ne:∀b o,s.heap.get? b=some o→b≠s.heap.objs.size+1:=fun b o e=>AS (CD (AH e))
 refine AA (CT (wpAny_call_entry_kw slot_list_sort ⟨_,hoL,rfl⟩ entry_list_sort ?body (ksk_l1 _ _)))
 case body=>
  show wpAny (model prog w) A.in1.in1 (Builtin.«list.sort» ⟨[.ref (s.heap.objs.size+1)],[(Str.ofString "key",.ref f)]⟩) _ _ _
  rw [ksk_t1]
  refine Apl (s:={ s with heap:=((s.heap.push (seqObj "list" #[] 0)).update s.heap.objs.size (Obj.mapSeq (· ++ vs.toArray))).push (seqObj "list" vs.toArray 0) }) (key:=key) hoL h64 (fun i v h1 t1 hv k Q hq=>hk i v h1 t1 hv (fun b o e=>k b o (ne b o e) (keep b o e)) Q hq) fun h' t n p hp k hD=>?_
  exact ⟨_,rfl,AC ⟨_,rfl,h _ h' t n p (CU _) hp (fun b o e=>k b o (ne b o e) (keep b o e)) hD⟩⟩
end
abbrev Rv (v:Str)(p1 p2 p3:Pos):Expr:=.Subscript (.Name v p1) (.Constant (.int 0) 0 p2) p3
abbrev U3 (v:Str)(p:Pos):Arguments:={ posonlyargs:=[],args:=[{ arg:=v,annotation:=none,pos:=p }],vararg:=none,kwonlyargs:=[],kw_defaults:=[],kwarg:=none,defaults:=[] }
abbrev Ol (v:Str):Scope:={ kind:=.function,names:=[(v,.local)],isGenerator:=false,isCoroutine:=false,more:=[] }
section
variable {prog:HU}{w:HV}{A:HS}{E:HP→HQ→Prop}{s:HQ}
theorem Ag7 {v:Str}{p1 p2 p3 p4:Pos}{name qual:Str}{pm ctv:HP}{c f a:HR}{l:HY}{x:HP}{Q:HP→HQ→Prop}
  (hroom:A.depth<recursionLimit) (ho:s.heap.get? f=some (kla_obj name qual (U3 v p4) (Rv v p1 p2 p3) (Ol v) [] pm c ctv)) (hcd:s.heap.CodeRec (.ref c) qual) (hnl:s.heap.NoLimit)
  (hd:(v==("__debug__":Str))=false) (hb:bindArgs (kla_fn name qual (U3 v p4) (Rv v p1 p2 p3) (Ol v) [] pm (.ref c) ctv) ⟨[.ref a],[]⟩=pure [(v,.ref a)])
  (ht:IsTup s.heap a l.toArray) (hx:l[0]? =some x)
  (h:∀h' t,(∀b o,s.heap.get? b=some o→h'.get? b=some o)→Q x { s with heap:=h',toks:=t }) :
  wpAny (model prog w) A (call (.ref f) [.ref a]) Q E s:=by
 refine wpAny_call (kla_callFunE hroom ho rfl rfl rfl rfl hcd ?_)
 show wpAny (model prog w) A.in1 (bindArgs (kla_fn name qual (U3 v p4) (Rv v p1 p2 p3) (Ol v) [] pm (.ref c) ctv) ⟨[.ref a],[]⟩) _ _ _
 rw [hb]
 have lk:(Ol v).names.lookup v=some .local:=by
  show List.lookup v [(v,NameKind.local)]=_
  rw [DX,beq_self_eq_true]
 refine AC (wpAny_newFunctionEnv (fun y hy=>?_) (fun y hy=>?_) (fun h1 hns hsb=>⟨hnl.fresh _ hsb,?_⟩) rfl)
 ·obtain rfl:y=(v,.local):=AW.mp hy
  exact fun z=>nomatch z
 ·obtain rfl:y=(v,.ref a):=AW.mp hy
  exact lk
 have hk1:∀b o,s.heap.get? b=some o→h1.get? b=some o:=fun b o e=>hsb.extBut b o (AS (AH e)) (AB _ e)
 show codeAny _ _ (.expr (Rv v p1 p2 p3) (envX qual (Ol v) s.heap.objs.size f (.ref c) [])) _ _
 refine kla_codeExpr (Subscript_ ?_)
 rw [eval_Name _ _ _ hd]
 refine AA (wpAny_standAt (wpAny_loadName_local rfl lk hns (v:=.ref a) ?_ ?_))
 ·show List.lookup v [(v,Value.ref a)]=_
  rw [DX,beq_self_eq_true]
 ·have ht1:IsTup h1 a l.toArray:=by
   obtain ⟨o,e1,e2⟩:=ht
   exact ⟨o,hk1 _ _ e1,e2⟩
  have l0:0<l.length:=(BI.mp hx).1
  refine wpAny_Constant_int ?_
  refine item_tupleL (j:=0) ht1 (by decide) (by decide) (by rw [seqIndex_of (by decide) (by omega)];rfl) hx ?_
  exact h _ _ hk1
end
def Ait (c:HR)(q:Str):HO:=.ext fun h=>h.CodeRec (.ref c) q
theorem U7 {c:HR}{q:Str}{h1 h2:Heap}(h:h1.CodeRec (.ref c) q)(k:∀o,h1.get? c=some o→h2.get? c=some o):h2.CodeRec (.ref c) q:=by
 obtain ⟨c',oc,vs,t,e,ho,r⟩:=h
 cases e
 exact ⟨c,oc,vs,t,rfl,k _ ho,r⟩
def Au (H:Hp)(P:HR)(pos:Pos)(q:Str):Prop:=∃ps,H P=some (.tbl ps)∧TriplesOk ps.toList∧(codeAmong pos ps.toList=none∨∃c,codeAmong pos ps.toList=some (.ref c)∧H c=some (Ait c q))
theorem Au.up {H H':Hp}{P:HR}{pos:Pos}{q:Str}(s:Ag H H')(h:Au H P pos q):Au H' P pos q:=by
 obtain ⟨ps,h1,h2,h3⟩:=h
 refine ⟨ps,s _ _ h1,h2,h3.imp id ?_⟩
 rintro ⟨c,e1,e2⟩
 exact ⟨c,e1,s _ _ e2⟩
theorem V8 {pos:Pos}{c:HP}:∀(l:HY),TriplesOk l→TriplesOk (l++[rawInt pos.line,rawInt pos.col,c]):=fun l h=>by
 fun_induction TriplesOk l with
 |case1=>exact trivial
 |case2 a t b u x Eo ih=>exact ih h
 |case3=>exact h.elim
def BmB (mg:Str→IA)(base:Heap):Prop:=∃(bm:HR) (ob:Obj),mg "__builtins__"=some (.ref bm)∧bm≠builtinsNs∧base.get? bm=some ob∧ob.cls=.type "module"∧ob.dict=some builtinsNs∧ob.data=.plain
structure Ahf (K:KKf)(mg:Str→IA)(base:Heap)(cdv:HP)(P:HR):Prop where
 c:∃c,cdv=.ref c∧codeHdIn K c P=true
 bm:BmB mg base
section
variable {X:Cx}{pins:List (HR×Obj)}{σ:L2.St}{H:Hp}{s:HQ}{P:HR}{lp:Pos}{q:Str}
theorem Akv (tf:Ahf X.K X.mg X.base X.env.code P)(I:Ap X pins σ H s){ps:Array HP}(e:s.heap.get? P=some (tabObj ps)):s.heap.BuiltinsAt X.mg P:=by
 obtain ⟨bm,ob,h1,h2,h3,h4,h5,h6⟩:=tf.bm
 have e2:=I.bk _ _ h3
 refine ⟨bm,_,h1,h2,fun z=>?_,fun z=>?_,e2,h4,h5,h6⟩
 ·obtain ⟨o,es,ep,ho,hd,_⟩:=I.mod.glob
  rw [z,I.bk _ _ ho] at e2
  cases e2
  rw [hd] at h6
  cases h6
 ·rw [z,e] at e2
  cases e2
  cases h4
theorem Aen {h':Heap}{t':Nat}{ps more:Array HP}{c:HR}(I:Ap X pins σ H s)(e:H P=some (.tbl ps))(k:Heap.ExtBut P s.heap h')(hP:h'.get? P=some (tabObj (ps++more)))(hc:s.heap.objs.size≤c)(hr:h'.CodeRec (.ref c) q) :
  Ap X pins σ (upd (upd H P (.tbl (ps++more))) c (Ait c q)) { s with heap:=h',toks:=t' }:=by
 have hcn:H c=none:=I.hok.fresh hc
 have Pl:P<s.heap.objs.size:=I.hok.lt e
 have Pc:P≠c:=AS (AL Pl hc)
 have up:∀b o,b≠P→H b=some o→upd (upd H P (.tbl (ps++more))) c (Ait c q) b=some o:=fun b o n x=>by
  rw [Am (Bo x hcn),Am n]
  exact x
 have nP:∀b,H b=none→b≠P:=fun b n z=>by
  rw [z,e] at n
  cases n
 refine I.un ⟨fun b o x n _ _=>k b o (nP b n) x,fun b o x n _ _=>⟨o.slots,k b o (nP b n) x⟩,fun b o x n _=>?_,fun b o x _=>?_,fun b xs x=>?_,fun b o u x=>?_,fun b qs x=>?_⟩ fun b u x=>?_
 ·rw [Am (AS (AL (AH x) hc)),Am (nP b n)]
  exact n
 ·by_cases z:b=P
  ·rw [z]
   exact ⟨_,hP⟩
  ·exact ⟨_,k b o z x⟩
 ·exact up b _ (fun z=>by rw [z,e] at x;cases x) x
 ·exact up b _ (fun z=>by rw [z,e] at x;cases x) x
 ·by_cases z:b=P
  ·rw [z,e] at x
   cases x
   rw [z,Am Pc,Ad]
   exact ⟨more,rfl⟩
  ·exact ⟨#[],by rw [up b _ z x];simp⟩
 ·by_cases z:b=c
  ·rw [z,Ad] at x
   cases x
   obtain ⟨c',oc,vs,t,e',ho,r⟩:=id hr
   cases e'
   rw [z]
   exact ⟨hr,⟨oc,ho⟩,fun h1 h2 a b=>U7 a b⟩
  ·rw [Am z] at x
   by_cases z2:b=P
   ·rw [z2,Ad] at x
    cases x
    rw [z2]
    exact hP
   ·rw [Am z2] at x
    refine (I.hok b u x).stay (fun d v hd y=>k d v ?_ y) (fun d y=>up d _ (fun z=>by rw [z,e] at y;cases y) y) fun d xs y=>up d _ (fun z=>by rw [z,e] at y;cases y) y
    rcases hd with rfl|hd
    ·exact z2
    ·intro z
     rw [z,e] at hd
     cases hd
theorem Afo {v:Str}{p1 p2 p3 p4:Pos}{Q:HP→HQ→Prop}(tf:Ahf X.K X.mg X.base X.env.code P)(I:Ap X pins σ H s)(hT:Au H P lp (X.env.qual++"<lambda>"))
  (h:∀f c H' s' pm ctv,Ap X pins σ H' s'→(∀b o,b≠P→H b=some o→H' b=some o)→Au H' P lp (X.env.qual++"<lambda>")→s'.heap.get? f=some (kla_obj "<lambda>" (X.env.qual++"<lambda>") (U3 v p4) (Rv v p1 p2 p3) (Ol v) [] pm c ctv)→s'.heap.CodeRec (.ref c) (X.env.qual++"<lambda>")→Q (.ref f) s') :
  wpAny (model X.prog X.w) X.A (eval (.Lambda (U3 v p4) (Rv v p1 p2 p3) (Ol v) lp) X.env) Q X.xe s:=by
 obtain ⟨ps,e,tr,hT⟩:=hT
 obtain ⟨c,ec,hd⟩:=tf.c
 have eP:s.heap.get? P=some (tabObj ps):=I.hok P _ e
 have C:CodeHd s.heap c P:=codeHd_of_K I.kIn hd
 have G:s.heap.Ns mainGlobals X.mg:=I.mod.glob.keeps I.bk
 have hcl:closureFor (Ol v) X.env=pure []:=rfl
 refine kla_eval rfl ?_
 rcases hT with hn|⟨c',hc',ec'⟩
 ·have gP:mainGlobals≠P:=fun z=>by
   obtain ⟨o,es,ep,ho,hd,_⟩:=G
   rw [z,eP] at ho
   cases ho
   cases hd
  refine kla_makeFunction hcl I.ok.glob G ec C eP tr hn gP (Akv tf I eP) fun c' ctv h' tk k1 k2 k3 k4 k5=>?_
  have I2:=Aen (t':=tk) I e k1 k5 k2 k4
  have I3:=I2.kept (h':=h'.push (kla_obj "<lambda>" (X.env.qual++"<lambda>") (U3 v p4) (Rv v p1 p2 p3) (Ol v) [] ((X.mg "__name__").getD .none) c' ctv)) (t':=tk) fun b u x=>AB _ x
  have hcn:H c'=none:=I.hok.fresh k2
  refine h _ c' _ _ _ ctv I3 (fun b o n x=>by rw [Am (Bo x hcn),Am n];exact x) ⟨ps++#[rawInt lp.line,rawInt lp.col,.ref c'],?_,?_,.inr ⟨c',?_,Ad⟩⟩ (AG _ rfl) ?_
  ·rw [Am (Bo e hcn),Ad]
  ·rw [Array.toList_append]
   exact V8 _ tr
  ·rw [Array.toList_append]
   exact codeAmong_snoc _ tr hn
  ·exact U7 k4 fun o x=>AB _ x
 ·refine kla_makeFunctionHit hcl I.ok.glob G ec C eP tr hc' (Akv tf I eP) fun ctv h' tk k1 k2=>?_
  have I3:=I.kept (h':=h'.push (kla_obj "<lambda>" (X.env.qual++"<lambda>") (U3 v p4) (Rv v p1 p2 p3) (Ol v) [] ((X.mg "__name__").getD .none) c' ctv)) (t':=tk) fun b u x=>AB _ (k1 _ _ x)
  refine h _ c' _ _ _ ctv I3 (fun b o n x=>x) ⟨ps,e,tr,.inr ⟨c',hc',ec'⟩⟩ (AG _ rfl) ?_
  obtain ⟨y1,_,y3⟩:Bf X.prog X.w H s.heap c' (Ait c' (X.env.qual++"<lambda>")):=I.hok c' _ ec'
  exact y3 _ _ y1 fun o x=>AB _ (k1 _ _ x)
def An1 (K:KKf)(P:HR)(lp:Pos)(q:Str):ID→Hp→VK→Prop:=fun us H1 Q=>∃(l:HR) (xs:ID) (key:Nat→Int),us=[.ref l]∧A1 K H1 l xs∧xs.length<64 ∧
 (∀i v,xs[i]? =some v→∃a ys,v=.ref a∧H1 a=some (.tup (.int (key i)::ys)))∧Au H1 P lp q ∧
 ∀D H2 p,(∀b o,b≠P→H1 b=some o→H2 b=some o)→H1 D=none→H2 D=some (.lst (p.map fun i=>xs.getD i .non))→Au H2 P lp q→Jr key xs.length p→Q (.ref D) H2
theorem Sl {xs:ID}{its:HY}(rv:A6 xs its):∀{L:IC},(∀i∈L,i<xs.length)→A6 (L.map fun i=>xs.getD i .non) (L.map fun i=>its.getD i Value.none)
 |[],_=>.nil
 |i::L,h=>by
  have hi:=h i AK
  obtain ⟨v,hv,r⟩:=rv.get (AD hi)
  rw [BE,BE]
  refine .cons ?_ (Sl rv fun j hj=>h j (AJ _ hj))
  rw [BF,BF,hv,AD hi]
  exact r
theorem Aka {v:Str}{e:Expr}{ta:TA}{p p1 p2 p3 p4 kp pos:Pos}{k:Nat}(tf:Ahf X.K X.mg X.base X.env.code P)(hr:Bz (k+2) X.A)(hg:Gl X "sorted")(hm:X.mg "sorted"=none)(ha:PA X [e] ta)(hd:(v==("__debug__":Str))=false:=by decide)
  (hst:starEach [e] X.env=[(false,eval e X.env)]:=by rfl) (hb:∀(nm ql:Str) (pm cd ct:HP) (a:HR),bindArgs (PySem.W.kla_fn nm ql (U3 v p4) (Rv v p1 p2 p3) (Ol v) [] pm cd ct) ⟨[.ref a],[]⟩=pure [(v,.ref a)]:=by intros;rfl) :
  PE X (.Call (.Name "sorted" p) [e] [⟨some "key",.Lambda (U3 v p4) (Rv v p1 p2 p3) (Ol v) lp,kp⟩] pos) (tCB (An1 X.K P lp (X.env.qual++"<lambda>")) ta):=by
 intro pins s σ H Q I h
 refine DD (Ez I hg hm N5 ?_)
 refine callWith_kw (Bi (ha pos pins s σ H _ I h) fun us s1 ⟨vs,H1,I1,r1,q1⟩=>?_) (by rw [hst];rfl) (by rw [hst];rfl)
 obtain ⟨l,xs,key,ex,hq,hl,ht,hT,q⟩:=q1
 subst ex
 obtain ⟨u,rfl,ru⟩:=r1.one
 cases (show u=Value.ref l from ru)
 refine kws_cons ?_
 refine Afo (v:=v) (p1:=p1) (p2:=p2) (p3:=p3) (p4:=p4) tf I1 hT fun f c H2 s2 pm ctv I2 k2 hT2 hf hcd=>?_
 refine kws_nil ?_
 show wpAny (model X.prog X.w) X.A (call (.builtin "sorted") [.ref l] [(Str.ofString "key",.ref f)]) _ _ _
 obtain ⟨ps,eP,_⟩:=hT
 have hq2:A1 X.K H2 l xs:=by
  rcases hq with (h|⟨o,h⟩)|h
  ·exact .inl (.inl (k2 _ _ (fun z=>by rw [z,eP] at h;cases h) h))
  ·exact .inl (.inr ⟨o,k2 _ _ (fun z=>by rw [z,eP] at h;cases h) h⟩)
  ·exact .inr h
 obtain ⟨its,rv,⟨oL,nL,eL,cL,dL,xL⟩,hz⟩:=I2.list hq2
 have hlen:its.length=xs.length:=rv.length.symm
 refine Ah1 (key:=key) (vs:=its) ⟨oL,eL,cL,nL,xL⟩ (by omega) (fun i v' h1 t1 hv k1 Q' hQ=>?_) fun D h' t n pp hD st k' hd'=>?_
 ·have hi:i<xs.length:=by
   rw [←hlen]
   exact (BI.mp hv).1
  obtain ⟨a,ys,e1,e2⟩:=ht i _ (AD hi)
  have g:=rv.get (AD hi)
  rw [e1] at g
  obtain ⟨u',hu,ru'⟩:=g
  rw [hv] at hu
  cases hu
  cases (show v'=Value.ref a from ru')
  have e3:=k2 _ _ (fun z=>by rw [z,eP] at e2;cases e2) e2
  obtain ⟨_,tl,rt,ob,ho,r2⟩:Bf X.prog X.w H2 s2.heap a (.tup (.int (key i)::ys)):=I2.hok a _ e3
  cases rt with
  |cons r3 r4=>
   obtain ⟨tk,rfl⟩:=r3
   refine Ag7 (s:={ s2 with heap:=h1,toks:=t1 }) (hr.in1.in1.depth) (k1 _ _ hf) (U7 hcd fun o x=>k1 _ _ x) (I2.nolimit.keeps k1) hd (hb _ _ _ _ _ _) (l:=Value.int (key i) tk::_) ⟨ob,k1 _ _ ho,r2⟩ rfl fun h2 t2 k3=>hQ h2 t2 tk k3
 ·have hn2:H2 D=none:=I2.hok.fresh hD
  have hn1:H1 D=none:=by
   cases c:H1 D with
   |none=>rfl
   | some o=>
    by_cases z:D=P
    ·obtain ⟨ps2,e2,_⟩:=hT2
     rw [z,e2] at hn2
     cases hn2
    ·rw [k2 _ _ z c] at hn2
     cases hn2
  have I3:=I2.laid (t':=t) (h':=h') (a:=D) (o:=.lst (pp.map fun i=>xs.getD i .non)) k' hD ⟨by rw [AE,st.1,hlen];exact hz,Hv its pp,n,Sl rv fun i hi=>by rw [←hlen];exact st.2.1 i hi,hd'⟩
  refine ⟨.ref D,_,I3,rfl,q D _ pp (fun b o nb x=>?_) hn1 Ad (hT2.up fun b o x=>?_) (by rw [←hlen];exact st)⟩
  ·have x2:=k2 b o nb x
   rw [Am (Bo x2 hn2)]
   exact x2
  ·rw [Am (Bo x hn2)]
   exact x
end
def Vi (K:KKf)(x:Str):HR:=match PySem.W.tabIn K x with
 |some (_,P)=>P
 |none=>0
structure Amb (K:KKf)(mg:Str→IA)(base:Heap)(x:Str):Prop where
 tb:∃(f:HR) (oc:HP) (od:IB) (fd:FuncData) (sl:Array (IA)) (c:HR),mg x=some (.ref f)∧K.lookup f=some ⟨oc,od,.func fd,sl⟩∧fd.code=.ref c∧codeHdIn K c (Vi K x)=true
 bm:BmB mg base
theorem Al2 {K:KKf}{x:Str}{f c P:HR}{oc cl:HP}{od cd:IB}{fd:FuncData}{sl cs:Array (IA)}{vs:Array HP}(h1:PySem.W.nsIn K mainGlobals x=some (some (.ref f)))(h2:K.lookup f=some ⟨oc,od,.func fd,sl⟩)(h3:fd.code=.ref c)(h4:K.lookup c=some ⟨cl,cd,.fields vs,cs⟩)(h5:(vs[11]?:IA)=some (.ref P)):PySem.W.tabIn K x=some (c,P):=by
 unfold PySem.W.tabIn
 rw [h1]
 dsimp only
 rw [h2]
 dsimp only
 rw [h3]
 dsimp only
 rw [h4]
 dsimp only
 rw [h5]
theorem Aas {K:KKf}{x:Str}{c P:HR}(h:PySem.W.tabIn K x=some (c,P)):Vi K x=P:=by
 unfold Vi
 rw [h]
section
variable {P:HU}{w:HV}{K:KKf}{mg:Str→IA}{base:Heap}
theorem Bj.calT {x:Str}{st:Stmt}{N ps:HW}{k:Nat}{sp:Sp}(d:Bj K mg x st ps)(tk:Amb K mg base x)(S:Ah N ps (Ac st))(len:∀vs H Q E,sp vs H Q E→vs.length=ps.length)
  (hbody:∀(f:HR) (cdv:HP) (A:HS) (outer:List Env) (s:HQ) (H:Hp) (vs:ID) (Q:VK) (E:XK),Ahf K mg base cdv (Vi K x)→Bz k (A.deeper (envOfC x (Ac st) s.heap.objs.size f cdv))→sp vs H Q E →
   ∃t,Nt (Co (Es P w) P w K mg base N x (Ac st) f cdv A outer s H E).nox (B9 st) t∧t { nx:=fun _ H'=>Q .non H',rt:=Q } (Hq N vs) H):A9 P w K mg base x ps (k+1) sp:=by
 obtain ⟨f,fd,F,hm,hb⟩:=d.ex
 obtain ⟨oc,od,kV,doc,pm,an,cdv,ct,osl,rfl,lk,hcd⟩:=F.ex
 obtain ⟨f',oc',od',fd',sl',c,m1,m2,m3,m4⟩:=tk.tb
 rw [hm] at m1
 cases m1
 rw [lk] at m2
 cases m2
 have tf:Ahf K mg base cdv (Vi K x):=⟨⟨c,m3,m4⟩,tk.bm⟩
 exact ⟨f,_,hm,F.kp,hb,Aex lk hcd S len fun A outer s H vs Q E hr hsp=>by
  obtain ⟨t,h,q⟩:=hbody f cdv A outer s H vs Q E tf hr hsp
  exact ⟨t,h.nox,q⟩,oc,od,osl,lk⟩
end
def Aey (T:HR)(H:Hp):Prop:=H T=some (.tbl #[])∧∀b,b≠T→H b=none∨∃o xs,H b=some (.frz o (.lst xs))
theorem Ada {P:HU}{w:HV}{K:KKf}{mg mb:Str→IA}{CX:CXT}{k:Nat}{fa a cc T:HR}{fd:FuncData}{x:Str}{sp:Sp}{t:HQ}{vs:HY}{ns:HX}
  (KX:K.In t.heap) (glob:t.heap.Ns mainGlobals mg) (blt:t.heap.Ns builtinsNs mb) (boot:∀x:Str,x≠"__name__"→mb x=bootBuiltins x) (lim:t.heap.NoLimit) (gens:t.gens=#[])
  (ca:t.heap.get? a=some { cls:=.type "list",data:=.seq vs.toArray }) (ia:IntsAre vs ns) (short:ns.length≤sizeLine) (room:Bz k callerA)
  (C:CodeHd t.heap cc T) (eT:t.heap.get? T=some (tabObj #[])) (kT:K.lookup T=none)
  (bmT:BmB mg t.heap) (F:∀base:Heap,K.In base→base.Ns mainGlobals mg→BmB mg base→Hh P w K mg base CX k fa fd [x] sp) (bind:∀(s:HQ) (u:HP),BindsTo s fd ⟨[u],[]⟩ [(x,u)])
  (want:∀H:Hp,Aey T H→A1 K H a (ns.map V.int)→sp [.ref a] H (fun v _=>v=.bl true) fun _ _ _=>False)
  (fly:∀H e s',CX [] H t (fun _ _ _=>False) e s'→False) :
  codeAny (model P w) callerA (.call (.ref fa) ⟨[.ref a],[]⟩) (fun r z=>r=.ok (.ret (.bool true))∧OldK t.heap z.heap∧z.os=t.os∧AllBare z.gens) t:=by
 have aT:a≠T:=fun z=>by
  rw [z,eT] at ca
  cases ca
 have core:∀H:Hp,Aey T H→A1 K H a (ns.map V.int)→Jz P w H t.heap→(∀b,H b≠none→b=a∨b=T)→(H a≠none→K.lookup a=none) →
   codeAny (model P w) callerA (.call (.ref fa) ⟨[.ref a],[]⟩) (fun r z=>r=.ok (.ret (.bool true))∧OldK t.heap z.heap∧z.os=t.os∧AllBare z.gens) t:=by
  intro H only sq hok two notK
  have nodict:∀{b:HR} {o:Obj} {es:Array DictEntry} {ep:Nat},t.heap.get? b=some o→o.data=.dict es ep→H b=none:=fun {b o es ep} e d=>by
   cases c:H b with
   |none=>rfl
   | some u=>
    rcases two b (by rw [c];simp) with z|z
    ·subst z
     rw [ca] at e
     cases e
     cases d
    ·subst z
     rw [eT] at e
     cases e
     cases d
  have nsB:∀{b:HR} {m:Str→IA},t.heap.Ns b m→(Ub t.heap H).Ns b m:=fun ⟨o,es,ep,e,d,r⟩=>⟨o,es,ep,Ph e (nodict e d),d,r⟩
  have kB:K.In (Ub t.heap H):=fun b o e=>Ph (KX b o e) (by
   cases c:H b with
   |none=>rfl
   | some u=>
    rcases two b (by rw [c];simp) with z|z
    ·subst z
     rw [notK (by rw [c];simp)] at e
     cases e
    ·subst z
     rw [kT] at e
     cases e)
  have md:Mod K mg (Ub t.heap H):=⟨kB,nsB glob,⟨mb,nsB blt,boot⟩,let ⟨mc,y1,y2⟩:=lim;⟨mc,nsB y1,y2⟩⟩
  have e0:Ym P w K mg (Ub t.heap H) callerA [] t H:=⟨rfl,md,fun b o e=>Ah8 e,Nat.le_of_eq (Ady _ _),trivial,fun b hb=>absurd (show b∈([]:List HR) from hb) (by simp),hok,.of_eq gens⟩
  have bmB:BmB mg (Ub t.heap H):=by
   obtain ⟨bm,ob,h1,h2,h3,h4,h5,h6⟩:=bmT
   refine ⟨bm,ob,h1,h2,Ph h3 ?_,h4,h5,h6⟩
   cases c:H bm with
   |none=>rfl
   | some u=>
    rcases two bm (by rw [c];simp) with z|z
    ·subst z
     rw [ca] at h3
     cases h3
     cases h6
    ·subst z
     rw [eT] at h3
     cases h3
     cases h6
  refine FO ((F _ kB (nsB glob) bmB).run callerA [] t H ⟨[.ref a],[]⟩ [.ref a] [.ref a] _ _ room e0 (bind t (.ref a)) (.cons rfl .nil) (want H only sq)) fun r z y=>?_
  cases r with
  |error e=>exact (fly H e z y).elim
  | ok fl=>
   cases fl with
   |next=>exact y.elim
   |brk=>exact y.elim
   |cont=>exact y.elim
   | ret u=>
    obtain ⟨v,H',os,bare,un,hok',rv,yes⟩:=y
    obtain rfl:v=.bl true:=yes
    obtain rfl:u=Value.bool true:=rv
    obtain ⟨more,em⟩:=un.tbls T #[] only.1
    have zT:z.heap.get? T=some (tabObj (#[]++more)):=hok' T _ em
    have kp:∀b o,b≠T→t.heap.get? b=some o→z.heap.get? b=some o:=fun b o n e=>by
     rcases only.2 b n with c|⟨ob,xs,c⟩
     ·exact un.keep b o e c (fun q=>absurd (show b∈([]:List HR) from q) (by simp)) (by simp)
     ·obtain ⟨g1,_⟩:=hok b _ c
      obtain ⟨g2,_⟩:=hok' b _ (un.frzs b ob _ c)
      rw [e] at g1
      cases g1
      exact g2
    refine ⟨rfl,⟨fun b o e=>?_,fun b o e=>?_⟩,os,bare⟩
    ·by_cases n:b=T
     ·subst n
      rw [eT] at e
      cases e
      exact .inr (.inl ⟨(C.tab eT).isCodeTable,rfl,#[],more,rfl,zT⟩)
     ·exact .inl (kp b o n e)
    ·by_cases n:b=T
     ·exact ⟨_,n▸zT⟩
     ·exact ⟨o,kp b o n e⟩
 have rv:=R5 ia
 have ln:=ia.length
 cases hk:K.lookup a with
 | some o=>
  have e:=KX a o hk
  rw [ca] at e
  cases e
  refine core (upd (fun _=>none) T (.tbl #[])) ⟨Ad,fun b n=>.inl (Am n)⟩ (.inr ⟨_,vs.toArray,_,hk,rfl,rfl,rfl,by rw [AR,ln];exact short,by simpa using rv⟩) (fun b u z=>?_) (fun b z=>?_) fun z=>absurd (Am aT) z
  ·by_cases n:b=T
   ·subst n
    rw [Ad] at z
    cases z
    exact eT
   ·rw [Am n] at z
    cases z
  ·by_cases n:b=T
   ·exact .inr n
   ·exact absurd (Am n) z
 | none=>
  refine core (upd (upd (fun _=>none) a (.frz { cls:=.type "list",data:=.seq vs.toArray } (.lst (ns.map V.int)))) T (.tbl #[])) ⟨Ad,fun b n=>?_⟩ (.inl (.inr ⟨{ cls:=.type "list",data:=.seq vs.toArray },?_⟩)) (fun b u z=>?_) (fun b z=>?_) fun _=>hk
  ·rw [Am n]
   by_cases n2:b=a
   ·rw [n2,Ad]
    exact .inr ⟨_,_,rfl⟩
   ·exact .inl (Am n2)
  ·rw [Am aT,Ad]
  ·by_cases n:b=T
   ·subst n
    rw [Ad] at z
    cases z
    exact eT
   ·rw [Am n] at z
    by_cases n2:b=a
    ·subst n2
     rw [Ad] at z
     cases z
     exact ⟨ca,by rw [AE];exact short,vs,_,rv,ca⟩
    ·rw [Am n2] at z
     cases z
  ·by_cases n:b=T
   ·exact .inr n
   ·by_cases n2:b=a
    ·exact .inl n2
    ·exact absurd ((Am n).trans (Am n2)) z
end Lw
end
section
set_option autoImplicit false
namespace Lw
open PySem PySem.Spec PyProof.Rows L2 PySem.W
def Xm (x:Str)(K:KKf)(ns:HX):Sp:=fun vs H Q _=>match vs with
 |[.ref a]=>A1 K H a (ns.map V.int)∧ns.length≤63∧Agq ns∧H (Vi K x)=some (.tbl #[])∧∀H',Q (.bl true) H'
 |_=>False
def Ju (x:Str)(K:KKf):Sp:=fun vs H Q _=>∃(ns:HX) (a:HR),vs=[.ref a]∧A1 K H a (ns.map V.int)∧ns.length≤63∧Agq ns∧H (Vi K x)=some (.tbl #[])∧∀H',Q (.bl true) H'
section
variable {P:HU}{w:HV}{K:KKf}{mg:Str→IA}{base:Heap}
theorem Aef {x:Str}{k:Nat}{st:Stmt}{f:HR}{fd:FuncData}(F:Fun K "law" "law" st f fd)(hm:mg "law"=some (.ref f))(C:∀ns,A9 P w K mg base "law" ["_law_script"] k (Xm x K ns)):Hh P w K mg base (Es P w) k f fd ["_law_script"] (Ju x K):=by
 refine ⟨fun vs H Q E h=>?_,fun A outer s H args us vs Q E hr he hb hv hs=>?_⟩
 ·obtain ⟨ns,a,rfl,_⟩:=h
  rfl
 ·obtain ⟨ns,a,rfl,h1,h2,h3,h4,h5⟩:=hs
  obtain ⟨f',fd',e1,e2,e3,G,oc',od',osl',lk'⟩:=(C ns).ex
  obtain ⟨oc,od,kV,doc,pm,an,cdv,ct,osl,_,lk,_⟩:=F.ex
  rw [hm] at e1
  cases e1
  rw [lk] at lk'
  cases lk'
  exact G.run A outer s H args us _ Q E hr he hb hv ⟨h1,h2,h3,h4,h5⟩
end
theorem walk_ofBT {l:PySem.W.OpenLaw}{n k:Nat}{q:HU}{loose:HW}{XP:(Str→IA)→Heap→Prop}{YP:HV→Heap→Prop}{d:DefRec}{K:Params→KKf}{CX:HV→CXT}{sp:HV→Sp}{x y:Str}{ts:List HR}
  (hn:l.most=some n) (hn2:n≤sizeLine) (hdf:d.params.defaults=[]) (hr:Bz k callerA) (hY:∀(w:HV) (h:Heap),YP w h→(K w.params).In h)
  (hT:∀(w:HV) (h:Heap),YP w h→∀P∈ts,h.get? P=some (tabObj #[]))
  (F:∀(w:HV) (mg:Str→IA) (fa:HR) (h:Heap),(K w.params).In h→h.Ns mainGlobals mg→mg d.name=some (.ref fa)→(∃c P,PySem.W.tabIn (K w.params) y=some (c,P)∧codeHdIn (K w.params) c P=true∧(K w.params).lookup P=none∧P∈ts)∧∃fd:FuncData,(∀(s:HQ) (u:HP),BindsTo s fd ⟨[u],[]⟩ [(x,u)])∧∀base:Heap,(K w.params).In base→base.Ns mainGlobals mg→BmB mg base→Hh l.prog w (K w.params) mg base (CX w) k fa fd [x] (sp w))
  (hsp:∀(w:HV) (H:Hp) (a:HR) (ns:HX),ns.length≤n→Agq ns→Aey (Vi (K w.params) y) H→A1 (K w.params) H a (ns.map V.int)→sp w [.ref a] H (fun v _=>v=.bl true) fun _ _ _=>False)
  (hCX:∀(w:HV) (H:Hp) (s:HQ) (e:HP) (s':HQ),CX w [] H s (fun _ _ _=>False) e s'→False):PySem.W.WalkO q loose XP YP l.row.toRowW d [] (fun f vs=>PySem.call f vs):=by
 refine Us hn hdf fun w t₀ t mg mb fa o pm cd doc a vs ns bits G Y x1 x2 x3 x5 y1 y2 y3 x6=>?_
 have KX:=hY w _ Y
 obtain ⟨⟨c,T,tb,hC,kT,mT⟩,fd,bd,ok⟩:=F w mg fa _ KX G.T.g x5
 have C:CodeHd t.heap c T:=codeHd_of_K KX hC
 have eT:=hT w _ Y T mT
 exact Ada KX G.T.g G.T.b G.T.builtins G.T.nolimit x6 y1 y2 (AO y3 hn2) hr C eT kT G.T.bmain ok bd (fun H only sq=>hsp w H a ns y3 bits (by rw [Aas tb];exact only) sq) fun H e z=>hCX w H t e z
end Lw
end
section
namespace Lw
open PySem PySem.Spec PyProof.Rows L2
theorem u1 {n m:Nat}(h:n+64<m):n+1<m:=by omega
structure TL (kvs:List (B3×V))(ks:HW)(f:Str→Int):Prop where
 key:kvs.map (·.1)=ks.map Sum.inr
 nd:ks.Nodup
 val:∀x,Cf kvs (Sum.inr x)=if x∈ks then some (.int (f x)) else none
 out:∀x,x∉ks→f x=0
theorem Xr {kvs:List (B3×V)}{ks:HW}(h:kvs.map (·.1)=ks.map Sum.inr)(x:Str)(v:V):(Dj kvs (Sum.inr x) v).map (·.1)=(dd ks x).map Sum.inr:=by
 have hany:(kvs.any fun kv=>decide (kv.1=Sum.inr x))=decide (x∈ks):=by
  have e:(kvs.any fun kv=>decide (kv.1=Sum.inr x))=(kvs.map (·.1)).any fun k=>decide (k=Sum.inr x):=by rw [List.any_map];rfl
  rw [e,h,List.any_map]
  by_cases hx:x∈ks
  ·rw [AQ hx,List.any_eq_true]
   exact ⟨x,hx,by simp⟩
  ·rw [BC hx,List.any_eq_false]
   intro y hy c
   have:y=x:=by simpa using c
   exact hx (this▸hy)
 unfold Dj dd
 rw [hany]
 by_cases hx:x∈ks
 ·rw [AQ hx,AN rfl,AN hx,EH,←h]
  refine List.map_congr_left fun kv _=>?_
  show (if kv.1=Sum.inr x then (kv.1,v) else kv).1=kv.1
  split<;>rfl
 ·rw [BC hx,AI (by decide),AI hx,CB,h,CB]
  rfl
def kf (gs:IE):HW:=gs.foldl (fun l g=>dd (dd l g.a) g.b) []
end Lw
end
section
namespace Lw
open PySem PySem.Spec PyProof.Rows L2
section
variable {prog:HU}{w:HV}{A:HS}{E:HP→HQ→Prop}{s:HQ}
theorem Afy {d:HR}{vs:List (B3×HP)}{ep:Nat}{Q:HY→HQ→Prop}(hh:A.handled=none)(hok:s.heap.DictAt (A8 prog w) d vs ep)(lo:(d==sysModules)=false)(hn:vs.length≤sizeLine)
  (q:∀xs g tk,(∀b o,s.heap.get? b=some o→g.get? b=some o)→s.heap.objs.size<g.objs.size→xs.length=vs.length→(∀(j:Nat) v,xs[j]? =some v→∃k x,vs[j]? =some (k,x)∧(A8 prog w).is k v=true)→Q xs { s with heap:=g,toks:=tk }) :
  wpAny (model prog w) A (collect (.ref d)) Q E s:=by
 have la:d<s.heap.objs.size:=hok.lt_size
 unfold collect
 refine AA (wpAny_runValue (codeAny_builtin PySem.F.entry_proto_collect ?_))
 rw [DG PySem.F.plain_proto_collect _]
 show wpAny _ A.in1 (newList [] >>= fun l=>again (.builtin "list.__iadd__" ⟨[l,.ref d],[]⟩)) _ _ s
 refine AA (BS (AC ⟨FX FE _,codeAny_builtin PySem.F.entry_list_iadd ?_⟩))
 rw [DG FE _]
 show wpAny _ A.in1 (Builtin.List.listExtendWith (.ref s.heap.objs.size) (.ref d) (.ref s.heap.objs.size)) _ _ _
 have hS:(s.heap.push { cls:=.type "list",data:=.seq ([]:HY).toArray }).get? s.heap.objs.size=some { cls:=.type "list",data:=.seq #[] 0 }:=AG _ rfl
 refine PySem.W.kdl_extend (R:=wants (fun v s'=>wpAny (model prog w) A (match v with|Value.ref a=>(do let o ←load a;match o.data with|.seq xs _=>pure xs.toList|_=>unsupported "internal:collect")|_=>unsupported "internal:collect") Q E s') E) (s:={ s with heap:=s.heap.push { cls:=.type "list",data:=.seq ([]:HY).toArray } }) (PySem.W.kdl_dict lo) hh (hok.push _) s.heap.objs.size (CQ la) (CQ la) (.ref s.heap.objs.size) 0 hS (fun h' tk acc c hk hS' it=>?_) hn
 show wpAny _ A (load s.heap.objs.size >>= _) _ _ _
 refine AA (wpAny_load hS' (AC (q acc.toList h' tk (fun b o e=>hk b o (AS (AH e)) (AB _ e)) (AH hS') (by rw [BK];exact it.1) fun j v hv=>it.2 j v (by rw [←DQ];exact hv))))
theorem N4:∀{names:HW} {us:HY},us.length=names.length→(∀(j:Nat) v,us[j]? =some v→∃x t,names[j]? =some x∧v=Value.str x t)→StrsAre us names
 |[],[],_,_=>.nil
 |[],_::_,h,_=>by simp at h
 |_::_,[],h,_=>by simp at h
 |x::names,u::us,h,a=>by
  obtain ⟨y,t,e1,e2⟩:=a 0 u rfl
  simp at e1
  subst e1 e2
  refine .cons _ t (N4 (by simpa using h) fun j v hv=>?_)
  have:=a (j+1) v (by simpa using hv)
  simpa using this
end
section
variable {X:Cx}
def Ali:ID→Hp→VK→Prop:=fun xs H Q=>match xs with
 |[.ref d]=>∃(kvs:List (B3×V)) (names:HW),H d=some (.dK kvs)∧kvs.map (·.1)=names.map Sum.inr∧names.length<64∧names.Nodup∧∀D,H D=none→Q (.ref D) (upd H D (.lst ((V4 names).map V.str)))
 |_=>False
theorem Aj6 (hc:X.calm=true:=by rfl):Cy X (.builtin "sorted") Ali:=by
 intro pins s σ H xs us Q I r h
 match xs,h with
 | [.ref d],⟨kvs,names,e,hk,h64,nd,q⟩=>
  obtain ⟨u,rfl,ru⟩:=r.one
  cases (show u=Value.ref d from ru)
  obtain ⟨z,lo,vs,rel,dd⟩:=Acm I.hok e
  have kk:=rel.keys
  have kl:=rel.length
  obtain ⟨o,es,ep,r1⟩:=dd
  have at':s.heap.DictAt (A8 X.prog X.w) d vs ep:=⟨o,es,r1⟩
  have nl:kvs.length=names.length:=by
   have:=congrArg List.length hk
   simpa using this
  have hh:=I.ok.hd hc
  refine Calls.call_function_entry kind_sorted plain_sorted entry_sorted (args_sorted1 _) ?_
  unfold Builtin.«sorted»
  refine AA (m:=checkCount "sorted" 1 1 _) (AC (AA (Afy (by simp [hh]) at' lo (by omega) fun xs g tk keep lg hl hg=>?_)))
  have sa:StrsAre xs names:=N4 (by omega) fun j v hv=>by
   obtain ⟨k,x,h1,h2⟩:=hg j v hv
   have h3:(vs.map (·.1))[j]? =some k:=by rw [BJ,h1];rfl
   rw [←kk,hk,BJ] at h3
   cases hn:names[j]? with
   |none=>
    rw [hn] at h3
    cases h3
   | some y=>
    rw [hn] at h3
    cases h3
    rcases Bt (show Oc (Sum.inr y) v=true from h2) with ⟨i,t,e1,_⟩|⟨y',t,e1,e2⟩
    ·cases e1
    ·cases e1
     exact ⟨y,t,rfl,e2⟩
  refine AA (FY ?_ (by omega))
  have hoL:(g.push (seqObj "list" xs.toArray 0)).get? g.objs.size=some (seqObj "list" xs.toArray 0):=AG _ rfl
  refine AA (CT (wpAny_call_entry slot_list_sort ⟨_,hoL,rfl⟩ entry_list_sort (list_sort_treeK strKind_oneLt hoL sa.keysOf (fun v1 v2 r e=>keyKind_strs (by rw [←e];exact sa)) (by omega) fun st' a1 a2=>⟨_,rfl,AC ⟨_,rfl,?_⟩⟩) (args_list_sort _)))
  obtain ⟨ys,b1,b2,b3⟩:=sorted_out_str sa a1 a2
  obtain ⟨n,hn⟩:=sortedHeap_at (out:=(arrOf st').map (·.2)) hoL
  have ey:ys=V4 names:=Me (Lg (R6 b3) (b2.nodup_iff.mpr nd)) (Cz _) fun x=>by rw [b2.mem_iff,E8]
  subst ey
  have keep2:∀b ob,s.heap.get? b=some ob→(sortedHeap (g.push (seqObj "list" xs.toArray 0)) g.objs.size xs ((arrOf st').map (·.2))).get? b=some ob:=fun b ob e=>by
   have hb:=AH (keep b ob e)
   rw [sortedHeap_old (AS hb) (by rw [BW];exact CD hb)]
   exact AB _ (keep b ob e)
  have I2:=I.laid (t':=tk) (h':=sortedHeap (g.push (seqObj "list" xs.toArray 0)) g.objs.size xs ((arrOf st').map (·.2))) (a:=g.objs.size) (o:=.lst ((V4 names).map V.str)) keep2 (DL lg) ⟨by rw [AE,b2.length_eq];omega,((arrOf st').map (·.2)).toList,n,Pe b1,by rw [hn]⟩
  exact ⟨.ref g.objs.size,_,I2,rfl,q _ (I.hok.fresh (DL lg))⟩
end
inductive Rch (gs:IE)(n:Str):Str→Prop where
 |here:Rch gs n n
 |step {x y:Str}:Rch gs n x→y∈tkr x gs→Rch gs n y
end Lw
end
namespace PySem
open Sem (wp)
namespace F
end F
end PySem
section
namespace Lw
open PySem PySem.Spec PyProof.Rows L2
abbrev Atf (h:Heap)(z TI TO a:HR)(b:Bool):Prop:=
 h.get? z=some { cls:=.type "zip",data:=.fields #[rawInt a,.bool b,.bool false,.ref TI,.ref TO] }
section
variable {prog:HU}{w:HV}{A:HS}{E:HP→HQ→Prop}{s:HQ}
section
variable {K:Type}[DecidableEq K]{knd:KeyKind prog w K}
structure Dz (knd:KeyKind prog w K)(k1 k2:Bool)(z TI TO i1 i2 l1 l2 D:HR)(xs ys:Array HP)(kvs:List (K×HP))(h0:Heap)(i:Nat)(h:Heap):Prop where
 dd:h.DictOf knd D (kvs.take i)
 ia:Xa k1 h i1 l1 i
 ib:Xa k2 h i2 l2 i
 sx:Rx k1 h l1 xs
 sy:Rx k2 h l2 ys
 ti:IsPair h TI (.ref i1) (.ref i2)
 zz:(i=0∧IsZip h z TI TO .none∧∃u v,IsPair h TO u v)∨∃p q oa,Atf h z TI TO p q∧h.get? p=some oa∧p≠z∧p≠i1∧p≠i2∧p≠D
 old:∀c o,c≠z→c≠TO→c≠i1→c≠i2→c≠D→h0.get? c=some o→h.get? c=some o
end
end
end Lw
end
section
namespace Lw
open PySem PySem.Spec PyProof.Rows L2
section
variable {prog:HU}{w:HV}{A:HS}{E:HP→HQ→Prop}{s:HQ}
variable {K:Type}[DecidableEq K]{knd:KeyKind prog w K}
structure Dp (knd:KeyKind prog w K)(I l D:HR)(xs:Array HP)(kvs:List (K×HP))(h0:Heap)(i:Nat)(h:Heap):Prop where
 dd:h.DictOf knd D (kvs.take i)
 st:h.IsListIter I l i∧h.IsList l xs
 old:∀c o,c≠I→c≠D→h0.get? c=some o→h.get? c=some o
end
end Lw
end
section
namespace Lw
open PySem PySem.Spec PyProof.Rows L2
section
variable {X:Cx}
theorem Ah7 {pins:List (HR×Obj)}{σ:L2.St}{H:Hp}{s:HQ}{a:HR}{kvs:List (B3×V)}{o:Obj}(I:Ap X pins σ H s)(ha:H a=some (.dK kvs))(ho:s.heap.get? a=some o):Ap X pins σ (upd H a (.frz o (.dK kvs))) s:=by
 have old:∀b u,H b=some u→b≠a→upd H a (.frz o (.dK kvs)) b=some u:=fun b u e n=>by rw [Am n];exact e
 refine I.step (g':=s.gens) (d':=s.drawn) (t':=s.toks) (h':=s.heap) (ch:=[]) (fun _ z=>nomatch z) (fun b o _ _ _ e _=>e) (fun b o _ _ _ e _=>⟨o.slots,e⟩) (fun b u _ e n=>?_) (fun b o _ e=>⟨o,e⟩) (fun b xs e=>old b _ e ?_) (fun b ob u e=>old b _ e ?_)
  (fun b ps e=>⟨#[],by rw [old b _ e (fun z=>by rw [z,ha] at e;cases e)];simp⟩) (fun m hm=>hm) (fun b u e=>?_) I.bare
 ·rw [Am (fun z=>by rw [z,ha] at n;cases n)]
  exact n
 ·intro z
  rw [z,ha] at e
  cases e
 ·intro z
  rw [z,ha] at e
  cases e
 ·have ho':∀b c,H b=some (.own c)→upd H a (.frz o (.dK kvs)) b=some (.own c):=fun b c e=>old b _ e fun z=>by rw [z,ha] at e;cases e
  have ht':∀b xs,H b=some (.tup xs)→upd H a (.frz o (.dK kvs)) b=some (.tup xs):=fun b xs e=>old b _ e fun z=>by rw [z,ha] at e;cases e
  by_cases hb:b=a
  ·subst hb
   rw [Ad] at e
   cases e
   exact ⟨ho,(I.hok b _ ha).stay (fun c v _ q=>q) (fun c q=>ho' c _ q) ht'⟩
  ·rw [Am hb] at e
   exact (I.hok b u e).stay (fun c v _ q=>q) (fun c q=>ho' c _ q) ht'
end
end Lw
end
section
namespace Lw
open PySem PySem.Spec PyProof.Rows L2
theorem Ajm {kvs:List (B3×V)}{vs:List (B3×HP)}(r:KV kvs vs):A6 (kvs.map (·.2)) (vs.map (·.2)):=by
 unfold KV at r
 induction r with
 |nil=>exact .nil
 |cons h _ ih=>exact .cons h.2 ih
def Aoa (td:TE):TE:=fun σ H Q=>td σ H fun x H1=>∃(d:HR) (kvs:List (B3×V)),x=.ref d∧Rd H1 d (.dK kvs)∧∀D H',Ag H1 H'→H1 D=none→H' D=some (.lst (kvs.map (·.2)))→Q (.ref D) H'
section
variable {X:Cx}
theorem Xf {o:Expr}{td:TE}{p apos cpos pos:Pos}(hg:Gl X "list")(hm:X.mg "list"=none)(ho:PE X o td)(hcalm:X.calm=true)
  (hbase:attributeBase o "values" X.env (eval o X.env)=eval o X.env:=by rfl) (hline:(apos.endLine==cpos.line)=true:=by rfl) :
  PE X (.Call (.Name "list" p) [.Call (.Attribute o "values" apos) [] [] cpos] [] pos) (Aoa td):=by
 intro pins s σ H Q I h
 refine Call_ (Ez I hg hm PyProof.Rows.boot_list (BX ?_))
 refine DC ?_
 refine wpAny_Call_method0_late hbase hline (Bi (ho pins s σ H _ I h) fun u s1 ⟨x,H1,I1,rx,d,kvs,ex,hd,q⟩=>?_)
 subst ex
 obtain rfl:u=Value.ref d:=rx
 obtain ⟨t1,t2,lo⟩:=Yy I1 (.inl ⟨kvs,hd⟩)
 obtain ⟨z,_,vs,rel,dd⟩:=Qa I1.hok hd
 refine ⟨"dict","dict.values",GP,PySem.F.slot_dict_values,PySem.F.type_dict_values,t1,t2,FL rfl (PySem.evalArgs_none ?_)⟩
 refine call_meetsIn PySem.F.slot_dict_values t1 PySem.F.entry_dict_values (PySem.F.args_dict_values_1 _) (meets_dict_values (A8 X.prog X.w) d lo) ⟨⟨vs,dd⟩,DH ?_⟩
 obtain ⟨o',es,ep,r1⟩:=dd
 have at':s1.heap.DictAt (A8 X.prog X.w) d vs ep:=⟨o',es,r1⟩
 have kl:=rel.length
 have sz:(s1.heap.push { cls:=.type "dict_values",data:=.fields #[.ref d] }).objs.size=s1.heap.objs.size+1:=size_push' _ _
 refine PySem.W.kdl_call (s:={ s1 with heap:=s1.heap.push { cls:=.type "dict_values",data:=.fields #[.ref d] } }) (PySem.W.kdl_values (knd:=A8 X.prog X.w) (kvs:=vs) (ep:=ep) (r:=s1.heap.objs.size) (d:=d)) (I1.ok.hd hcalm) ⟨⟨_,AG _ rfl,rfl,rfl⟩,at'.push _⟩ (by omega) fun h' tk acc c keep hS it=>?_
 have ea:acc.toList=vs.map (·.2):=PySem.W.kdl_vals_eq acc.toList (by rw [BK];exact it.1) fun j v hv=>it.2 j v (by rw [←DQ];exact hv)
 have hD:H1 (s1.heap.objs.size+1)=none:=I1.hok.fresh (CU _)
 rw [sz] at hS ⊢
 refine ⟨.ref (s1.heap.objs.size+1),_,I1.laid (a:=s1.heap.objs.size+1) (o:=.lst (kvs.map (·.2))) (t':=tk) (fun b ob eb=>keep b ob (AB _ eb)) (CU _) (show Bf X.prog X.w _ h' _ (.lst (kvs.map (·.2))) from ⟨by rw [AE];exact z,vs.map (·.2),c,Ajm rel,?_⟩),rfl,q _ _ (An hD) hD Ad⟩
 rw [hS,←ea]
theorem Afr {pins:List (HR×Obj)}{σ:L2.St}{H:Hp}{s:HQ}{a:HR}{kvs:List (B3×V)}{o:Obj}(I:Ap X pins σ H s)(ha:H a=some (.frz o (.dK kvs)))(h0:∀o u,X.H₀ a≠some (.frz o u)):Ap X pins σ (upd H a (.dK kvs)) s:=by
 have ne:∀{b:HR},H b=none→b≠a:=fun e z=>by rw [z,ha] at e;cases e
 have old:∀b u,H b=some u→b≠a→upd H a (.dK kvs) b=some u:=fun b u e n=>by rw [Am n];exact e
 have nn:∀{b:HR},H b=none→upd H a (.dK kvs) b=none:=fun e=>by rw [Am (ne e)];exact e
 refine { ok:=I.ok,os:=I.os,bare:=I.bare,base:=?_,loc:=I.loc,cell:=I.cell,free:=nn I.free,freeC:=fun x c e=>nn (I.freeC x c e),pin:=fun p hp=>?_,hok:=fun b u e=>?_,len:=I.len }
 ·refine { keep:=I.base.keep,slot:=I.base.slot,free:=fun b o e n x=>nn (I.base.free b o e n x),there:=I.base.there,tups:=fun b xs e=>old b _ (I.base.tups b xs e) fun z=>?_,frzs:=fun b o u e=>old b _ (I.base.frzs b o u e) fun z=>?_,tbls:=fun b ps e=>?_ }
  ·have:=I.base.tups b xs e
   rw [z,ha] at this
   cases this
  ·exact h0 o u (z▸e)
  ·obtain ⟨more,e'⟩:=I.base.tbls b ps e
   exact ⟨more,old b _ e' fun z=>by rw [z,ha] at e';cases e'⟩
 ·obtain ⟨p1,p2,p3⟩:=I.pin p hp
  exact ⟨p1,nn p2,p3⟩
 ·have ho':∀b c,H b=some (.own c)→upd H a (.dK kvs) b=some (.own c):=fun b c e=>old b _ e fun z=>by rw [z,ha] at e;cases e
  have ht':∀b xs,H b=some (.tup xs)→upd H a (.dK kvs) b=some (.tup xs):=fun b xs e=>old b _ e fun z=>by rw [z,ha] at e;cases e
  by_cases hb:b=a
  ·subst hb
   rw [Ad] at e
   cases e
   have:=(show Bf X.prog X.w H s.heap b (.frz o (.dK kvs)) from I.hok b _ ha)
   exact (show Bf X.prog X.w H s.heap b (.dK kvs) from this.2).stay (fun c v _ q=>q) (fun c q=>ho' c _ q) ht'
  ·rw [Am hb] at e
   exact (I.hok b u e).stay (fun c v _ q=>q) (fun c q=>ho' c _ q) ht'
def Art (H0:Hp)(te:TE):TE:=fun σ H Q=>te σ H fun v H'=>∃a o kvs,H' a=some (.frz o (.dK kvs))∧(∀o u,H0 a≠some (.frz o u))∧Q v (upd H' a (.dK kvs))
theorem Ahx {e:Expr}{te:TE}(he:PE X e te):PE X e (Art X.H₀ te):=by
 intro pins s σ H Q I h
 refine Bi (he pins s σ H _ I h) fun v s1 ⟨x,H1,I1,rx,a,o,kvs,ea,h0,q⟩=>?_
 exact ⟨x,_,Afr I1 ea h0,rx,q⟩
def Anf (a:HR)(o:Obj)(ks:List B3):It:=
 ⟨fun i H=>(∃kvs,H a=some (.frz o (.dK kvs))∧kvs.map (·.1)=ks)∧i<ks.length,
  fun i H v H'=>H'=H∧∃x,ks[i]? =some x∧v=kV x,
  fun i H=>(∃kvs,H a=some (.frz o (.dK kvs))∧kvs.map (·.1)=ks)∧ks.length≤i⟩
theorem Yn {P:HU}{w:HV}{K:KKf}{tg:Expr}{it a:HR}{o:Obj}{names:List B3}{es:Array DictEntry}{ep:Nat}(ho:o.data=.dict es ep) :
  Wx P w K tg (Anf a o names) [it] it (fun i h=>h.IsKeyIter it a i names.length ep) where
 mem:=by simp
 obj:=fun i h Z c hc=>by
  have hc:c=it:=by simpa using hc
  subst hc
  obtain ⟨o,e,_,d⟩:=Z
  exact ⟨o,e,fun v z=>by rw [d] at z;cases z⟩
 keep:=fun i h h' Z k=>by
  obtain ⟨o,e,r⟩:=Z
  exact ⟨o,k it (by simp) o e,r⟩
 item:=by
  intro X hP hw hK hc i pins s σ H E I hf Z hg
  subst hP hw hK
  obtain ⟨⟨kvs,e,hk⟩,hi⟩:=hg
  obtain ⟨e0,z,lo,vs,rel,dd⟩:=(show Bf X.prog X.w H s.heap a (.frz o (.dK kvs)) from I.hok a _ e)
  have kk:=rel.keys
  have kl:=rel.length
  have nl:kvs.length=names.length:=by
   have:=congrArg List.length hk
   simpa using this
  obtain ⟨o',es',ep',r0,r1,r2,r3⟩:=dd
  rw [e0] at r0
  cases r0
  rw [ho] at r2
  cases r2
  have at':s.heap.DictAt (A8 X.prog X.w) a vs ep:=⟨o,es,e0,r1,ho,r3⟩
  have vl:vs.length=names.length:=by omega
  have hx:vs[i]? =some (vs[i]'(by omega)):=AD (by omega)
  generalize vs[i]'(by omega)=kv at hx
  obtain ⟨k,u⟩:=kv
  have h3:(vs.map (·.1))[i]? =some k:=by rw [BJ,hx];rfl
  rw [←kk,hk] at h3
  have hn:names[i]? =some names[i]:=AD hi
  have hkn:k=names[i]:=by
   rw [hn] at h3
   exact (Option.some.inj h3).symm
  have Z:s.heap.IsKeyIter it a i vs.length ep:=by rw [vl];exact Z
  refine wpAny_pyNext_dict_item Z at' hx fun key g hkey hit sb=>⟨_,rfl,?_⟩
  refine letGo_keyiter (s':={ s with heap:=g }) hit ?_
  have I1:Ap X pins σ H { s with heap:=g }:=M4 I (t':=s.toks) (fp:=[it]) (fun c o hc e=>sb.extBut c o (fun x=>hc (by simp [x])) e) hf
  rcases Bt (show Oc k key=true from hkey) with ⟨i',t,e1,e2⟩|⟨y',t,e1,e2⟩
  ·refine ⟨.int i',H,I1,⟨t,e2⟩,⟨rfl,_,h3,by rw [e1];rfl⟩,?_,fun b hb=>(hf b hb).1⟩
   rw [←vl]
   exact hit
  ·refine ⟨.str y',H,I1,⟨t,e2⟩,⟨rfl,_,h3,by rw [e1];rfl⟩,?_,fun b hb=>(hf b hb).1⟩
   rw [←vl]
   exact hit
 done:=by
  intro X hP hw hK hc i pins s σ H E I hf Z hg
  subst hP hw hK
  obtain ⟨⟨kvs,e,hk⟩,hi⟩:=hg
  obtain ⟨e0,z,lo,vs,rel,dd⟩:=(show Bf X.prog X.w H s.heap a (.frz o (.dK kvs)) from I.hok a _ e)
  have kl:=rel.length
  have nl:kvs.length=names.length:=by
   have:=congrArg List.length hk
   simpa using this
  obtain ⟨o',es',ep',r0,r1,r2,r3⟩:=dd
  rw [e0] at r0
  cases r0
  rw [ho] at r2
  cases r2
  have at':s.heap.DictAt (A8 X.prog X.w) a vs ep:=⟨o,es,e0,r1,ho,r3⟩
  have vl:vs.length=names.length:=by omega
  have Z:s.heap.IsKeyIter it a i vs.length ep:=by rw [vl];exact Z
  refine wpAny_pyNext_dict_end (I.ok.hd hc) Z at' (DB (by omega)) fun g kp=>⟨rfl,?_⟩
  exact M4 I (t':=s.toks) (fp:=[it]) (fun c o hc e=>kp c o (fun x=>hc (by simp [x])) e) hf
 self:=fun _ _ _ _ _ Z h=>wpAny_pyIter_keyiter Z h
def Ak9 (te:TE):TI:=fun σ H R=>te σ H fun x H1=>∃a kvs,x=.ref a∧H1 a=some (.dK kvs)∧∀o,R (Anf a o (kvs.map (·.1))) (upd H1 a (.frz o (.dK kvs)))
theorem Ae3 {tg l:Expr}{te:TE}(hl:PE X l te):PI X tg l (Ak9 te):=by
 intro pins s σ H R I h
 refine Bi (hl pins s σ H _ I h) fun v s1 ⟨x,H1,I1,r1,q1⟩=>?_
 obtain ⟨a,kvs,e,ea,q⟩:=q1
 subst e
 cases r1
 obtain ⟨z,lo,vs,rel,dd⟩:=Acm I1.hok ea
 have kl:=rel.length
 obtain ⟨o,es,ep,r0,r1,r2,r3⟩:=dd
 have I2:=Ah7 I1 ea r0
 have at':s1.heap.DictAt (A8 X.prog X.w) a vs ep:=⟨o,es,r0,r1,r2,r3⟩
 refine wpAny_pyIter_dict lo at' ?_
 refine ⟨s1.heap.objs.size,[s1.heap.objs.size],_,_,_,rfl,I2.kept (t':=s1.toks) fun b o e=>AB _ e,Yn (a:=a) (names:=kvs.map (·.1)) (ep:=ep) r2,⟨_,AG _ rfl,rfl,?_⟩,fun b hb=>?_,q o⟩
 ·show Data.fields _=Data.fields _
  rw [show vs.length=(kvs.map (·.1)).length by rw [AE];omega]
  rfl
 ·have e:b=s1.heap.objs.size:=by simpa using hb
  subst e
  exact I2.fpOk (AF _) (I2.hok.fresh (AF _))
theorem W0 {a:HR}{o:Obj}{kvs:List (B3×V)}{g:TG}{tc:TT}{te:TE}{k:Nat}{js:IC}{σ:L2.St}{H1:Hp}{Q:VK}(R:Hp→B3→V→Prop)(up:∀m y H H',Kt H H'→R H m y→R H' m y)(c:B3→Bool)
  (hz:kvs.length≤1000) (hx:H1 a=some (.frz o (.dK kvs)))
  (hs:∀x H2,x∈kvs.map (·.1)→Ag H1 H2→∀(P:VK) (P':Hp→Prop),(c x=true→∀y H3,Ag H2 H3→R H3 x y→P y H3)→(c x=false→∀H3,Ag H2 H3→P' H3)→g (kV x) (List.replicate k none++capσ js σ) H2 fun σ2 H3=>σ2.drop k=capσ js σ∧tc σ2 H3 fun b H4=>Br b (te σ2 H4 P) (P' H4))
  (hq:∀D H' ys,Ag H1 H'→H1 D=none→H' D=some (.lst ys)→Ax (R H') ((kvs.map (·.1)).filter c) ys→Q (.ref D) H'):N1 (Anf a o (kvs.map (·.1))) g tc te k js σ H1 Q:=by
 unfold N1
 intro D hD
 refine ⟨fun i m H=>m=(kvs.map (·.1)).length-i∧i≤(kvs.map (·.1)).length∧Ag H1 H∧∃ys,H D=some (.lst ys)∧Ax (R H) (((kvs.map (·.1)).take i).filter c) ys,⟨(kvs.map (·.1)).length,by simp,AV _,An hD,[],Ad,.nil⟩,?_⟩
 rintro i m H ⟨rfl,hi,sm,ys,hH,ar⟩
 have sq:=sm _ _ hx
 by_cases hlt:i<(kvs.map (·.1)).length
 ·refine .inr ⟨⟨⟨kvs,sq,rfl⟩,hlt⟩,fun v H' y=>?_⟩
  obtain ⟨rfl,x,hxi,rfl⟩:=y
  have yl:ys.length<sizeLine:=by
   rw [←ar.len]
   refine BO (DA _ _) ?_
   rw [BQ]
   exact BO (GF _ _) (AL hlt (AO (by rw [AE];exact hz) (by decide)))
  refine hs x _ (BH hxi) sm _ _ (fun hc y H3 s3 r3=>⟨ys,s3 _ _ hH,yl,(kvs.map (·.1)).length-(i+1),by omega,rfl,hlt,Fc (sm.trans s3) hD,ys++[y],Ad,?_⟩) fun hc H3 s3=>⟨(kvs.map (·.1)).length-(i+1),by omega,rfl,hlt,sm.trans s3,ys,s3 _ _ hH,?_⟩
  ·have kt:Kt H3 (upd H3 D (.lst (ys++[y]))):=Na (s3 _ _ hH)
   rw [CI,hxi,GJ]
   have ef:(Option.toList (some x)).filter c=[x]:=by simp [hc]
   rw [ef]
   exact (ar.imp fun v y r=>up v y _ _ ((Bc s3).trans kt) r).snoc (up _ _ _ _ kt r3)
  ·rw [CI,hxi,GJ]
   have ef:(Option.toList (some x)).filter c=[]:=by simp [hc]
   rw [ef,CG]
   exact ar.imp fun v y r=>up v y _ _ (Bc s3) r
 ·have e:i=(kvs.map (·.1)).length:=by omega
  subst e
  rw [DY] at ar
  exact .inl ⟨⟨⟨kvs,sq,rfl⟩,AF _⟩,hq D _ ys sm hD hH ar⟩
theorem Adw (l:HR)(items:Array HP)(n:Nat)(b:HR)(items2:Array HP)(n2:Nat)(dd:IB)(sl:Array (IA))(hs0:¬(!items.isEmpty&&Builtin.List.listTooLong (items.size+items2.size))=true)(hs1:items.size≤sizeLine)(hs2:items.size+items2.size≤sizeLine+1) :
  Meets (Builtin.«list.extend» ⟨[.ref l,.ref b],[]⟩) (fun _ R s=>s.heap.get? l=some { cls:=.type "list",dict:=none,data:=.seq items n,slots:=#[] }∧s.heap.get? b=some { cls:=.type "tuple",dict:=dd,data:=.seq items2 n2,slots:=sl }∧R (.ok (.ret Value.none)) { s with heap:=s.heap.update l (Obj.mapSeq fun x=>x++items2),toks:=s.toks }):=
 .of_wp fun prog w A R s h=>by
  obtain ⟨hp,g,d,tk,os⟩:=s;obtain ⟨hl,hb,h⟩:=h;have f1:=AutoSeq1.idx_int;have f2:=AutoSeq1.sub_tuple_tuple;have f3:=AutoSeq1.sub_list_list;have f4:=AutoSeq1.sub_tuple_list;have f5:=AutoSeq1.sub_list_tuple
  have hz':(items++items2).size≤sizeLine+1:=by rw [Array.size_append];exact hs2
  wp_walk using (HK hl rfl (hz:=hs1) (_hz':=hz')),EX hl,EX hb
  exact ⟨_,rfl,h⟩
def Aqb:V→ID→Hp→VK→Prop:=fun x vs H Q=>∃l b xs zs,x=.ref l∧vs=[.ref b]∧H l=some (.lst xs)∧H b=some (.tup zs)∧xs.length+zs.length≤sizeLine∧Q .non (upd H l (.lst (xs++zs)))
theorem Aja:MtM X "list.extend" Aqb:=by
 intro pins s σ H x vs v us Q I rx rv h
 obtain ⟨l,b,xs,zs,rfl,rfl,hH,hB,hz,q⟩:=h
 cases rx
 obtain ⟨u,rfl,ru⟩:=rv.one
 cases ru
 obtain ⟨z,its,n,r,hl,e⟩:=I.lstM hH
 obtain ⟨z2,its2,r2,⟨c2,d2,b2,l2⟩,f1,f2,n2,f3⟩:=(show Bf X.prog X.w H s.heap _ (.tup zs) from I.hok _ _ hB)
 simp only at f2 f3
 subst f2 f3
 have hl2:=r2.length
 have hsz:its.toArray.size+its2.toArray.size≤sizeLine:=by rw [AR,AR];omega
 have hlong:¬(!its.toArray.isEmpty&&Builtin.List.listTooLong (its.toArray.size+its2.toArray.size))=true:=by
  rw [Ag5 hsz,GN]
  exact BA
 refine call_meets F.slot_list_extend ⟨_,e,rfl⟩ F.entry_list_extend (F.args_list_extend_2 _ _)
  (Adw l its.toArray n b its2.toArray n2 d2 l2 hlong (by rw [AR];omega) (by omega)) ⟨e,f1,?_⟩
 refine ⟨.non,_,I.lset (its':=its++its2) hH e (by simp) (r.append r2) ?_,rfl,q⟩
 rw [AM]
 omega
theorem Aix {i o:Expr}{ty td:TE}{pos:Pos}(hu:X.A.units+1<cLine)(hi:PE X i ty)(ho:PE X o td)(hm:behindInMarks .NotIn o=false):PT X (.Compare i [.NotIn] [o] pos) (J6 (Abb ty td)):=by
 rw [Gi]
 exact Ur (Adm hu hi ho) hm
end
end Lw
end
section
namespace Lw
open PySem PySem.Spec PyProof.Rows L2
def gt2 (x1 x2 y1 y2:Int):Bool:=decide (y1<x1∨x1=y1∧y2<x2)
theorem Si {prog:HU}{w:HV}{A:HS}{E:HP→HQ→Prop}{s:HQ}{a b:Int}{t u:Tok}{Q:HP→HQ→Prop}(h:Q (.bool (decide (a>b))) s):wpAny (model prog w) A (richCompare .Gt (.int a t) (.int b u)) Q E s:=gt_int h
theorem Adb (l b:HR)(x1 x2 y1 y2:Int)(t1 t2 u1 u2 n n2:Nat)(dd dd2:IB)(sl sl2:Array (IA)) :
  Meets (Builtin.«tuple.__gt__» ⟨[.ref l,.ref b],[]⟩)
   (fun A R s=>s.heap.get? l=some { cls:=.type "tuple",dict:=dd,data:=.seq #[.int x1 t1,.int x2 t2] n,slots:=sl }∧s.heap.get? b=some { cls:=.type "tuple",dict:=dd2,data:=.seq #[.int y1 u1,.int y2 u2] n2,slots:=sl2 } ∧
    R (.ok (.ret (.bool (gt2 x1 x2 y1 y2)))) s):=
 .of_wp fun prog w A R s h=>by
  obtain ⟨hp,g,d,tk,os⟩:=s;obtain ⟨hl,hb,h⟩:=h
  have f2:=AutoSeq1.sub_tuple_tuple
  wp_walk using EX hl,EX hb,wpAny_forIn_list _ (fun Eo b s'=>b.1=none∧s'=⟨hp,g,d,tk,os⟩∧(Eo=[(Value.int x1 t1,Value.int y1 u1),(Value.int x2 t2,Value.int y2 u2)]∨(Eo=[(Value.int x2 t2,Value.int y2 u2)]∧x1=y1)∨(Eo=[]∧x1=y1∧x2=y2))) _
  case turn=>
   rintro ⟨y,x⟩ Eo b s' ⟨hb',rfl,hz⟩
   rcases hz with hz|⟨hz,e1⟩|⟨hz,_⟩
   ·injection hz with hyx hrest
    injection hyx with hy hx
    subst hy hx
    refine AA (MeetsSeq.EqGives.int x1 y1 t1 u1 _ _ _ _ _ _ ?_)
    cases c:(x1==y1) with
    |true=>
     have c:x1=y1:=by simpa using c
     wp_walk
     exact ⟨rfl,rfl,.inr (.inl ⟨hrest,c⟩)⟩
    | false=>
     have c:¬x1=y1:=by simpa using c
     have e:decide (x1>y1)=gt2 x1 x2 y1 y2:=by
      unfold gt2
      exact FV.mpr ⟨.inl,fun h=>h.resolve_right fun z=>c z.1⟩
     wp_walk using Si
     exact ⟨_,rfl,by rw [e];exact h⟩
   ·injection hz with hyx hrest
    injection hyx with hy hx
    subst hy hx
    refine AA (MeetsSeq.EqGives.int x2 y2 t2 u2 _ _ _ _ _ _ ?_)
    cases c:(x2==y2) with
    |true=>
     have c:x2=y2:=by simpa using c
     wp_walk
     exact ⟨rfl,rfl,.inr (.inr ⟨hrest,e1,c⟩)⟩
    | false=>
     have c:¬x2=y2:=by simpa using c
     have e:decide (x2>y2)=gt2 x1 x2 y1 y2:=by
      unfold gt2
      exact FV.mpr ⟨fun h=>.inr ⟨e1,h⟩,fun h=>h.elim (fun z=>absurd z (by omega)) fun z=>z.2⟩
     wp_walk using Si
     exact ⟨_,rfl,by rw [e];exact h⟩
   ·cases hz
  case fin=>
   rintro ⟨b1,b2⟩ s' ⟨hb',rfl,hz⟩
   simp only at hb'
   subst hb'
   rcases hz with hz|⟨hz,_⟩|⟨_,e1,e2⟩
   ·cases hz
   ·cases hz
   ·have e:gt2 x1 x2 y1 y2=false:=BC (by omega)
    rw [e] at h
    wp_walk
    exact ⟨_,rfl,h⟩
  case h=>
   exact ⟨rfl,rfl,.inl rfl⟩
section
variable {X:Cx}
def Ark:R2:=fun x y H Q=>match x,y with
 |.ref a,.ref b=>∃x1 x2 y1 y2:Int,H a=some (.tup [.int x1,.int x2])∧H b=some (.tup [.int y1,.int y2])∧Q (.bl (gt2 x1 x2 y1 y2)) H
 |_,_=>False
theorem Aqh (hu:X.A.units+64<cLine):Dv X (compareOp .Gt) Ark:=by
 intro pins s σ H x y v u Q I rx ry q
 cases x<;>cases y<;>first
  |exact False.elim q
  | (obtain ⟨x1,x2,y1,y2,h1,h2,q⟩:=q
     cases rx
     cases ry
     obtain ⟨_,its,r,⟨c1,d1,b1,l1⟩,e1,e2,n,e3⟩:=(show Bf X.prog X.w H s.heap _ (.tup [.int x1,.int x2]) from I.hok _ _ h1)
     obtain ⟨_,its2,r2,⟨c2,d2,b2,l2⟩,f1,f2,n2,f3⟩:=(show Bf X.prog X.w H s.heap _ (.tup [.int y1,.int y2]) from I.hok _ _ h2)
     obtain ⟨w1,w2,rfl,⟨t1,rfl⟩,⟨t2,rfl⟩⟩:=Jk r
     obtain ⟨w3,w4,rfl,⟨u1,rfl⟩,⟨u2,rfl⟩⟩:=Jk r2
     simp only at e2 e3 f2 f3
     subst e2 e3 f2 f3
     exact richCompare_meets_room (op:=.Gt) ⟨_,e1,rfl⟩ ⟨_,f1,rfl⟩ F.slot_tuple_gt F.entry_tuple_gt (F.args_tuple_gt_2 _ _) (Adb _ _ x1 x2 y1 y2 t1 t2 u1 u2 n n2 d1 d2 l1 l2)
       ⟨e1,f1,show Value.bool (gt2 x1 x2 y1 y2)≠Value.notImplemented∧_ from ⟨(fun x=>nomatch x),.bl _,H,I,rfl,q⟩⟩ (by omega))
end
end Lw
end
section
set_option autoImplicit false
namespace Lw
open PySem PySem.Spec PyProof.Rows L2
structure Ef (K:KKf)(Cs Ds:List HR)(m qual:Str)(st:Stmt)(ps:HW):Prop where
 ex:∃(f:HR) (fd:FuncData),Fun K m qual st f fd∧(∀C∈Cs,Aft K C m f)∧(∀C∈Ds,PySem.W.findCls K (.ref C) (.type "type") m=some (.val (.ref f)))∧Ea K fd ps []
structure C9 (P:HU)(w:HV)(K:KKf)(mg:Str→IA)(base:Heap)(Cs Ds:List HR)(m:Str)(ps:HW)(k:Nat)(sp:Sp):Prop where
 ex:∃(f:HR) (fd:FuncData),(∀C∈Cs,Aft K C m f)∧(∀C∈Ds,PySem.W.findCls K (.ref C) (.type "type") m=some (.val (.ref f)))∧PySem.W.keepIn K (.ref f)=true∧Ea K fd ps []∧Hh P w K mg base (Es P w) k f fd ps sp
section
variable {P:HU}{w:HV}{K:KKf}{mg:Str→IA}{base:Heap}{Cs Ds:List HR}
theorem Ef.calX {m qual:Str}{st:Stmt}{N ps:HW}{k:Nat}{sp:Sp}(d:Ef K Cs Ds m qual st ps)(S:Ah N ps (Ac st))(len:∀vs H Q E,sp vs H Q E→vs.length=ps.length)
  (hbody:∀(f:HR) (cdv:HP) (A:HS) (outer:List Env) (s:HQ) (H:Hp) (vs:ID) (Q:VK) (E:XK),Bz k (A.deeper (envOfC qual (Ac st) s.heap.objs.size f cdv))→sp vs H Q E →
   ∃t,Nt (Co (Es P w) P w K mg base N qual (Ac st) f cdv A outer s H E) (B9 st) t∧t { nx:=fun _ H'=>Q .non H',rt:=Q } (Hq N vs) H):C9 P w K mg base Cs Ds m ps (k+1) sp:=by
 obtain ⟨f,fd,F,hm,hd,hb⟩:=d.ex
 obtain ⟨oc,od,kV,doc,pm,an,cdv,ct,osl,rfl,lk,hcd⟩:=F.ex
 exact ⟨f,_,hm,hd,F.kp,hb,Aex lk hcd S len fun A outer s H vs Q E hr hsp=>hbody f cdv A outer s H vs Q E hr hsp⟩
theorem Ef.cal {m qual:Str}{st:Stmt}{N ps:HW}{k:Nat}{sp:Sp}(d:Ef K Cs Ds m qual st ps)(S:Ah N ps (Ac st))(len:∀vs H Q E,sp vs H Q E→vs.length=ps.length)
  (hbody:∀(f:HR) (cdv:HP) (A:HS) (outer:List Env) (s:HQ) (H:Hp) (vs:ID) (Q:VK) (E:XK),Bz k (A.deeper (envOfC qual (Ac st) s.heap.objs.size f cdv))→sp vs H Q E →
   ∃t,Nt (Co (Es P w) P w K mg base N qual (Ac st) f cdv A outer s H E).nox (B9 st) t∧t { nx:=fun _ H'=>Q .non H',rt:=Q } (Hq N vs) H):C9 P w K mg base Cs Ds m ps (k+1) sp:=
 d.calX S len fun f cdv A outer s H vs Q E hr hsp=>by
  obtain ⟨t,h,q⟩:=hbody f cdv A outer s H vs Q E hr hsp
  exact ⟨t,h.nox,q⟩
def MV (P:HU)(w:HV)(K:KKf)(mg:Str→IA)(base:Heap)(m:Str)(k:Nat)(T:List (HR×Sp)):Prop:=
 ∀p∈T,∃(f:HR) (fd:FuncData) (ps:HW),Ox K p.1∧Aft K p.1 m f∧Ea K fd ps []∧Hh P w K mg base (Es P w) k f fd ps p.2
theorem Fo {m:Str}{k:Nat}:MV P w K mg base m k []:=fun p hp=>by cases hp
theorem Dq {C:HR}{m:Str}{ps:HW}{k k':Nat}{sp:Sp}{T:List (HR×Sp)}(c:C9 P w K mg base Cs Ds m ps k sp)(hC:C∈Cs)(cl:Ox K C)(hk:k≤k')(r:MV P w K mg base m k' T):MV P w K mg base m k' ((C,sp)::T):=fun p hp=>by
 rcases AU.mp hp with rfl|hp
 ·obtain ⟨f,fd,h1,_,_,h3,h4⟩:=c.ex
  exact ⟨f,fd,ps,cl,h1 C hC,h3,h4.mono hk⟩
 ·exact r p hp
end
def Qt (T:List (HR×Sp))(m:Str)(E:XK)(ta:TE)(t:TA):TE:=fun σ H Q=>ta σ H fun x H1=>∃a C dx fs sp,x=.ref a∧H1 a=some (.ins C dx fs)∧(C,sp)∈T∧fs.lookup m=none∧t σ H1 fun vs H2=>sp (.ref a::vs) H2 Q E
structure MkC (K:KKf)(C:HR):Prop where
 makes:PySem.W.makesIn K C=true
 kp:PySem.W.keepIn K (.ref C)=true
structure RdC (K:KKf)(C:HR):Prop where
 reads:PySem.W.readsIn K C (.type "type")=true
 ga:PySem.W.specialIn K (.ref C) "__getattribute__"=some (some (.builtin "type.__getattribute__"))
def X0 (C:HR)(sp:Sp)(E:XK)(t:TA):TE:=fun σ H Q=>t σ H fun vs H1=>∀x dx,H1 x=none→H1 dx=none→dx≠x →
 sp (.ref x::vs) (upd (upd H1 dx (.own x)) x (.ins C dx [])) (fun v H2=>v=.non∧Q (.ref x) H2) E
theorem Wt (C:HR)(sp:Sp)(E:XK)(t:TA):X0 C sp E t=Aar C sp [] E t:=by
 funext σ H Q
 unfold X0 Aar
 simp only [CG]
section
variable {X:Cx}{pos p:Pos}{Cs Ds:List HR}{E:XK}
theorem Akw {o e:Expr}{es:HZ}{ta:TE}{t:TA}{T:List (HR×Sp)}{m:Str}{k:Nat}{apos:Pos}{pl:Sem Bool}(he:PE X o ta)(hT:MV X.prog X.w X.K X.mg X.base m k T)(hr:Bz k X.A)(hx:Ee (Es X.prog X.w) X E)(ha:PA X (e::es) t)
  (hst:starEach (e::es) X.env=(false,eval e X.env)::starEach es X.env) (hpl:(backTo pos (starEach es X.env)).any (·.1)=false)
  (ht:eval (.Call (.Attribute o m apos) (e::es) [] pos) X.env=(do
   let ov ←eval o X.env
   standAt apos.atName
   let (f,first) ←holding [ov] (getMethod ov m pl)
   callWith pos f first (backTo pos (starEach (e::es) X.env)) (backToKw pos (keywordEach [] X.env)))) :
  PE X (.Call (.Attribute o m apos) (e::es) [] pos) (Qt T m E ta t):=by
 intro pins s σ H Q I h
 refine HD (pl:=pl) (Bi (he pins s σ H _ I h) fun u s1 ⟨x,H1,I1,rx,a,C,dx,fs,sp,ex,ea,hC,l,q⟩=>?_) ht
 subst ex
 obtain rfl:u=Value.ref a:=rx
 obtain ⟨f,fd,ps,c,hm,hb,F⟩:=hT _ hC
 refine Ku I1 ea c hm l ?_
 refine FJ (first:=[.ref a]) (h₀:=X.base) I.ok.mod.kin hm.kp (Bi (ha pos pins s1 σ H1 _ I1 q) fun us s2 ⟨vs,H2,I2,r,q2⟩=>⟨I2.kIn,?_⟩) hst hpl
 exact To (us:=.ref a::us) (vs:=.ref a::vs) (dvs:=[]) F hr hb .nil hx I2 (.cons rfl r) (by rw [CG];exact q2)
theorem An0 {o:Expr}{ta:TE}{T:List (HR×Sp)}{m:Str}{k:Nat}{apos:Pos}{pl:Sem Bool}(he:PE X o ta)(hT:MV X.prog X.w X.K X.mg X.base m k T)(hr:Bz k X.A)(hx:Ee (Es X.prog X.w) X E)
  (ht:eval (.Call (.Attribute o m apos) [] [] pos) X.env=(do
   let ov ←eval o X.env
   standAt apos.atName
   let (f,first) ←holding [ov] (getMethod ov m pl)
   callWith pos f first (backTo pos (starEach [] X.env)) (backToKw pos (keywordEach [] X.env)))) :
  PE X (.Call (.Attribute o m apos) [] [] pos) (Qt T m E ta X5):=by
 intro pins s σ H Q I h
 refine HD (pl:=pl) (Bi (he pins s σ H _ I h) fun u s1 ⟨x,H1,I1,rx,a,C,dx,fs,sp,ex,ea,hC,l,q⟩=>?_) ht
 subst ex
 obtain rfl:u=Value.ref a:=rx
 obtain ⟨f,fd,ps,c,hm,hb,F⟩:=hT _ hC
 refine Ku I1 ea c hm l ?_
 exact PySem.W.callWith_K0 (first:=[.ref a]) I1.kIn hm.kp (To (us:=[.ref a]) (vs:=[.ref a]) (dvs:=[]) F hr hb .nil hx I1 (.cons rfl .nil) q)
theorem O9 {o e:Expr}{es:HZ}{ta:TE}{t:TA}{T:List (HR×Sp)}{m:Str}{k:Nat}{apos:Pos}{pl:Sem Bool}(he:PE X o ta)(hT:MV X.prog X.w X.K X.mg X.base m k T)(hr:Bz k X.A)(ha:PA X (e::es) t)
  (hst:starEach (e::es) X.env=(false,eval e X.env)::starEach es X.env:=by rfl) (hpl:(backTo pos (starEach es X.env)).any (·.1)=false:=by rfl)
  (ht:eval (.Call (.Attribute o m apos) (e::es) [] pos) X.env=(do
   let ov ←eval o X.env
   standAt apos.atName
   let (f,first) ←holding [ov] (getMethod ov m pl)
   callWith pos f first (backTo pos (starEach (e::es) X.env)) (backToKw pos (keywordEach [] X.env))):=by rfl) :
  PE X (.Call (.Attribute o m apos) (e::es) [] pos) (Qt T m E0 ta t):=Akw he hT hr Pi ha hst hpl ht
theorem Mf {o:Expr}{ta:TE}{T:List (HR×Sp)}{m:Str}{k:Nat}{apos:Pos}{pl:Sem Bool}(he:PE X o ta)(hT:MV X.prog X.w X.K X.mg X.base m k T)(hr:Bz k X.A)
  (ht:eval (.Call (.Attribute o m apos) [] [] pos) X.env=(do
   let ov ←eval o X.env
   standAt apos.atName
   let (f,first) ←holding [ov] (getMethod ov m pl)
   callWith pos f first (backTo pos (starEach [] X.env)) (backToKw pos (keywordEach [] X.env))):=by rfl) :
  PE X (.Call (.Attribute o m apos) [] [] pos) (Qt T m E0 ta X5):=An0 he hT hr Pi ht
theorem Apk {x:Str}{C:HR}{ps:HW}{k k':Nat}{sp:Sp}{e:Expr}{es:HZ}{t:TA}(c:C9 X.prog X.w X.K X.mg X.base Cs Ds "__init__" ps k sp)(hC:C∈Cs)(M:MkC X.K C)(hr:Bz k' X.A)(hk:k+1≤k')(hg:Gl X x)(hm:X.mg x=some (.ref C))(hx:Ee (Es X.prog X.w) X E)
  (ha:PA X (e::es) t) (hdb:(x==("__debug__":Str))=false) (he:starEach (e::es) X.env=(false,eval e X.env)::starEach es X.env) (hpl:(backTo pos (starEach es X.env)).any (·.1)=false) :
  PE X (.Call (.Name x p) (e::es) [] pos) (X0 C sp E t):=by
 obtain ⟨f,fd,h1,_,_,h3,h4⟩:=c.ex
 rw [Wt]
 exact Aih ⟨M.makes,(h1 C hC).at_,(h1 C hC).fn,M.kp⟩ h4 (hr.mono hk) hg hm h3 .nil hx ha hdb he hpl
theorem Uq {x:Str}{C:HR}{ps:HW}{k k':Nat}{sp:Sp}{e:Expr}{es:HZ}{t:TA}(c:C9 X.prog X.w X.K X.mg X.base Cs Ds "__init__" ps k sp)(hC:C∈Cs)(M:MkC X.K C)(hr:Bz k' X.A)(hk:k+1≤k')(hg:Gl X x)(hm:X.mg x=some (.ref C))
  (ha:PA X (e::es) t) (hdb:(x==("__debug__":Str))=false:=by decide) (he:starEach (e::es) X.env=(false,eval e X.env)::starEach es X.env:=by rfl) (hpl:(backTo pos (starEach es X.env)).any (·.1)=false:=by rfl) :
  PE X (.Call (.Name x p) (e::es) [] pos) (X0 C sp E0 t):=Apk c hC M hr hk hg hm Pi ha hdb he hpl
structure IsC (K:KKf)(C:HR):Prop where
 ha:PySem.W.findIn K (.ref C) "__class__"=some (some (.builtin "object.__class__"))
 hn:PySem.W.specialIn K (.builtin "object.__class__") "__get__"=some (some (.builtin "getset_descriptor.__get__"))
 ht:PySem.W.takesIn K (.builtin "object.__class__")=some true
 hm:PySem.W.mroIn K C (.type "object")=some true
theorem ac_nil {p:HR→Prop}:∀C∈([]:List HR),p C:=fun _ h=>by cases h
theorem ac_cons {p:HR→Prop}{c:HR}{l:List HR}(h:p c)(r:∀C∈l,p C):∀C∈c::l,p C:=fun C hC=>by
 rcases AU.mp hC with rfl|hC
 ·exact h
 ·exact r C hC
end
end Lw
end
section
set_option autoImplicit false
namespace Lw
open PySem PySem.Spec PyProof.Rows L2
abbrev cxT (X:Cx)(σ0:L2.St)(p0:List (HR×Obj))(Eh:XK):Cx:={ X with pn:=X.pn++p0,xe:=fun e s'=>∃H1 s1,Ap X p0 σ0 H1 s1∧Es X.prog X.w X.stack H1 s1 Eh e s' }
section
variable {X:Cx}{p0 pins:List (HR×Obj)}{σ0 σ:L2.St}{H:Hp}{s:HQ}{Eh:XK}
theorem Ad2 (I:Ap X p0 σ H s):Ap (cxT X σ0 p0 Eh) [] σ H s:=
 ⟨⟨I.ok.mod,I.ok.kind,I.ok.glob,I.ok.blt,I.ok.above,I.ok.inj,I.ok.has,I.ok.cab,I.ok.hd,I.ok.frames,I.ok.stk,I.ok.exf,I.ok.bs,I.ok.bsz,I.ok.noex,I.ok.exfs,I.ok.funs,I.ok.frf⟩,I.os,I.bare,I.base,I.loc,I.cell,I.free,I.freeC,fun p hp=>I.pin p (by
  have hp:p∈(X.pn++p0)++[]:=hp
  rwa [CG] at hp),I.hok,I.len⟩
theorem Fj (I:Ap (cxT X σ0 p0 Eh) pins σ H s):Ap X p0 σ H s:=
 ⟨⟨I.ok.mod,I.ok.kind,I.ok.glob,I.ok.blt,I.ok.above,I.ok.inj,I.ok.has,I.ok.cab,I.ok.hd,I.ok.frames,I.ok.stk,I.ok.exf,I.ok.bs,I.ok.bsz,I.ok.noex,I.ok.exfs,I.ok.funs,I.ok.frf⟩,I.os,I.bare,I.base,I.loc,I.cell,I.free,I.freeC,fun p hp=>I.pin p (EN _ hp),I.hok,I.len⟩
end
section
variable {X:Cx}{p0:List (HR×Obj)}{σ0:L2.St}{Eh:XK}{pos p:Pos}
theorem Aif {k:Nat}{f:HR}{fd:FuncData}{ps:HW}{sp:Sp}{pins:List (HR×Obj)}{H:Hp}{s:HQ}{Q:VK}{us:HY}{vs:ID}(F:Hh X.prog X.w X.K X.mg X.base (Es X.prog X.w) k f fd ps sp)(hr:Bz k X.A)(hb:Ea X.K fd ps [])
  (I:Ap (cxT X σ0 p0 Eh) pins σ0 H s) (r:A6 vs us) (h:sp vs H Q Eh):wpAny (model X.prog X.w) X.A (call (.ref f) us) (EP (cxT X σ0 p0 Eh) pins σ0 Q) (cxT X σ0 p0 Eh).xe s:=by
 have hl:(us++[]).length=ps.length:=by
  rw [CG,←r.length]
  exact F.len _ _ _ _ h
 have hb':=hb s us I.kIn hl
 rw [CG] at hb'
 refine wpAny_call (FO (F.run X.A X.stack s H ⟨us,[]⟩ us vs Q Eh hr I.env0 hb' r h) fun res s' hq=>?_)
 cases res with
 |error er=>exact ⟨H,s,Fj I,hq⟩
 |ok fl=>
  cases fl with
  |ret u=>exact I.after hq
  |next=>exact False.elim hq
  |brk=>exact False.elim hq
  |cont=>exact False.elim hq
def Amz (T:List (HR×Sp))(m:Str)(σ0:L2.St)(E:XK)(ta:TE)(t:TA):TE:=fun σ H Q=>ta σ H fun x H1=>∃a C dx fs sp,x=.ref a∧H1 a=some (.ins C dx fs)∧(C,sp)∈T∧fs.lookup m=none∧t σ H1 fun vs H2=>σ=σ0∧sp (.ref a::vs) H2 Q E
theorem Ai7 {o e:Expr}{es:HZ}{ta:TE}{t:TA}{T:List (HR×Sp)}{m:Str}{k:Nat}{apos:Pos}{pl:Sem Bool}(he:PE (cxT X σ0 p0 Eh) o ta)(hT:MV X.prog X.w X.K X.mg X.base m k T)(hr:Bz k X.A)(ha:PA (cxT X σ0 p0 Eh) (e::es) t)
  (hst:starEach (e::es) X.env=(false,eval e X.env)::starEach es X.env:=by rfl) (hpl:(backTo pos (starEach es X.env)).any (·.1)=false:=by rfl)
  (ht:eval (.Call (.Attribute o m apos) (e::es) [] pos) X.env=(do
   let ov ←eval o X.env
   standAt apos.atName
   let (f,first) ←holding [ov] (getMethod ov m pl)
   callWith pos f first (backTo pos (starEach (e::es) X.env)) (backToKw pos (keywordEach [] X.env))):=by rfl) :
  PE (cxT X σ0 p0 Eh) (.Call (.Attribute o m apos) (e::es) [] pos) (Amz T m σ0 Eh ta t):=by
 intro pins s σ H Q I h
 refine HD (pl:=pl) (Bi (he pins s σ H _ I h) fun u s1 ⟨x,H1,I1,rx,a,C,dx,fs,sp,ex,ea,hC,l,q⟩=>?_) ht
 subst ex
 obtain rfl:u=Value.ref a:=rx
 obtain ⟨f,fd,ps,c,hm,hb,F⟩:=hT _ hC
 refine Ku I1 ea c hm l ?_
 refine FJ (first:=[.ref a]) (h₀:=X.base) I.ok.mod.kin hm.kp (Bi (ha pos pins s1 σ H1 _ I1 q) fun us s2 ⟨vs,H2,I2,r,eσ,q2⟩=>⟨I2.kIn,?_⟩) hst hpl
 subst eσ
 exact Aif (us:=.ref a::us) (vs:=.ref a::vs) F hr hb I2 (.cons rfl r) q2
end
section
variable {P:HU}{w:HV}{K:KKf}{mg:Str→IA}{base:Heap}{N:HW}{qual:Str}{scope:Scope}{f:HR}{cd:HP}{A:HS}{outer:List Env}{s₀:HQ}{H₀:Hp}{E:XK}{pos:Pos}
theorem Acd {o e:Expr}{es:HZ}{ta:TE}{t:TA}{T:List (HR×Sp)}{m:Str}{k:Nat}{apos:Pos}{pl:Sem Bool}(he:PE (Co (Es P w) P w K mg base N qual scope f cd A outer s₀ H₀ E) o ta)(hT:MV P w K mg base m k T)(hr:Bz k (Co (Es P w) P w K mg base N qual scope f cd A outer s₀ H₀ E).A)(ha:PA (Co (Es P w) P w K mg base N qual scope f cd A outer s₀ H₀ E) (e::es) t)
  (hst:starEach (e::es) (Co (Es P w) P w K mg base N qual scope f cd A outer s₀ H₀ E).env=(false,eval e (Co (Es P w) P w K mg base N qual scope f cd A outer s₀ H₀ E).env)::starEach es (Co (Es P w) P w K mg base N qual scope f cd A outer s₀ H₀ E).env:=by rfl) (hpl:(backTo pos (starEach es (Co (Es P w) P w K mg base N qual scope f cd A outer s₀ H₀ E).env)).any (·.1)=false:=by rfl)
  (ht:eval (.Call (.Attribute o m apos) (e::es) [] pos) (Co (Es P w) P w K mg base N qual scope f cd A outer s₀ H₀ E).env=(do
   let ov ←eval o (Co (Es P w) P w K mg base N qual scope f cd A outer s₀ H₀ E).env
   standAt apos.atName
   let (f',first) ←holding [ov] (getMethod ov m pl)
   callWith pos f' first (backTo pos (starEach (e::es) (Co (Es P w) P w K mg base N qual scope f cd A outer s₀ H₀ E).env)) (backToKw pos (keywordEach [] (Co (Es P w) P w K mg base N qual scope f cd A outer s₀ H₀ E).env))):=by rfl) :
  PE (Co (Es P w) P w K mg base N qual scope f cd A outer s₀ H₀ E) (.Call (.Attribute o m apos) (e::es) [] pos) (Qt T m E ta t):=Akw he hT hr Ace ha hst hpl ht
end
end Lw
end
section
namespace Lw
open PySem PySem.Spec PyProof.Rows L2
def FnV (K:KKf)(mg:Str→IA)(x:Str):Prop:=∃f:HR,mg x=some (.ref f)∧PySem.W.nsIn K mainGlobals x=some (some (.ref f))
end Lw
end
section
set_option autoImplicit false
namespace Lw
open PySem PySem.Spec PyProof.Rows L2
section
variable {X:Cx}
def Apf:V→ID→Hp→VK→Prop:=fun x xs H Q=>match x,xs with
 |.str x,[.str y]=>(y.length==0)=false∧x.length≤5000∧∀T H',Ag H H'→H' T=some (.tup [.str (Txt.partition x y).1,.str (Txt.partition x y).2.1,.str (Txt.partition x y).2.2])→Q (.ref T) H'
 |_,_=>False
theorem Ala:MtR X "str.partition" Apf:=by
 intro pins s σ H x xs v us Q I rx rs h
 match x,xs,h with
 | .str x,[.str y],⟨hy,hx,q⟩=>
  obtain ⟨t,rfl⟩:=rx
  obtain ⟨u,rfl,r1⟩:=Fw rs
  obtain ⟨t',rfl⟩:=r1
  have big:(5000:Nat)≤sizeLine:=by decide
  have hn:=I.hok.fresh (AF _)
  have out:∀(l:HY) (tk:Nat) (zs:ID),zs.length=3→A6 zs l→(∀T H',Ag H H'→H' T=some (.tup zs)→Q (.ref T) H')→EP X pins σ Q (.ref s.heap.objs.size) { s with heap:=s.heap.push { cls:=.type "tuple",data:=.seq l.toArray },toks:=tk }:=by
   intro l tk zs hz hv q
   refine ⟨.ref _,_,I.laid (t':=tk) (o:=.tup zs) (fun b ob q=>AB _ q) (AF _) ?_,rfl,q _ _ (An hn) Ad⟩
   exact ⟨by rw [hz];decide,l,hv,IsTup.new _ _⟩
  refine call_meets F.slot_str_partition (GK _ _ _) F.entry_str_partition (F.args_str_partition_2 _ _) (meets_str_partition x y t t' hy (by omega)) ?_
  unfold Txt.partition at q
  revert q
  cases Builtin.Str.occurrences x y 0 x.length 1 with
  |nil=>exact fun q=>out _ _ [.str x,.str Str.empty,.str Str.empty] rfl (.cons ⟨_,rfl⟩ (.cons ⟨_,rfl⟩ (.cons ⟨_,rfl⟩ .nil))) q
  |cons i r=>exact fun q=>out _ _ [.str (Builtin.Str.strSub x 0 i),.str y,.str (Builtin.Str.strSub x (i+y.length) x.length)] rfl (.cons ⟨_,rfl⟩ (.cons ⟨_,rfl⟩ (.cons ⟨_,rfl⟩ .nil))) q
end
def Ou (P:HU)(w:HV)(K:KKf)(a:HR)(kvs:List (B3×V)):Prop:=∃o vs,K.lookup a=some o∧o.IsDictOf (A8 P w) vs∧KV kvs vs∧(a==sysModules)=false
inductive DEs (w:HV):List DictEntry→List (B3×HP)→Prop where
 |nil:DEs w [] []
 |cons {h:Int} {x:Str} {t:Tok} {v:HP} {l:List DictEntry} {m:List (B3×HP)}:h=PySem.PyData.keyHash w.params x→DEs w l m→DEs w (⟨h,.str x t,v⟩::l) ((.inr x,v)::m)
theorem DEs.keys {P:HU}{w:HV}{l:List DictEntry}{m:List (B3×HP)}(h:DEs w l m):KeysOf (A8 P w) l.toArray:=by
 induction h with
 |nil=>exact fun e he=>by simp at he
 |@cons h x t v l m hh _ ih=>
  intro e he
  rcases AU.mp (by simpa using he) with rfl|he
  ·exact ⟨.inr x,Iz P w x t,hh⟩
  ·exact ih e (by simpa using he)
theorem DEs.pairs {P:HU}{w:HV}{l:List DictEntry}{m:List (B3×HP)}(h:DEs w l m):Pairs (A8 P w) l m:=by
 induction h with
 |nil=>exact .nil
 |cons _ _ ih=>exact .cons (Iz P w _ _) rfl ih
theorem dic_mk {P:HU}{w:HV}{K:KKf}{a:HR}{kvs:List (B3×V)}{l:List DictEntry}{ep:Nat}{m:List (B3×HP)}(p:K.lookup a=some ⟨.type "dict",none,.dict l.toArray ep,#[]⟩)(h:DEs w l m)(r:KV kvs m)(d:(m.map (·.1)).Nodup)(s:(a==sysModules)=false):Ou P w K a kvs:=
 ⟨_,m,p,⟨_,ep,⟨rfl,rfl,rfl⟩,rfl,h.keys,by simpa using h.pairs,d⟩,r,s⟩
def Aqe (a:HR)(kvs:List (B3×V))(td ty:TE):TE:=fun σ H Q=>td σ H fun x H1=>x=.ref a∧ty σ H1 fun y H2=>∃k v,y=kV k∧Cf kvs k=some v∧Q v H2
def Aqc (a:HR)(kvs:List (B3×V))(ty td:TE):TE:=fun σ H Q=>ty σ H fun y H1=>td σ H1 fun x H2=>∃k,x=.ref a∧y=kV k∧Q (.bl (Cf kvs k).isSome) H2
def Abe (a:HR)(kvs:List (B3×V))(ty td:TE):TE:=fun σ H Q=>ty σ H fun y H1=>td σ H1 fun x H2=>∃k,x=.ref a∧y=kV k∧Q (.bl (!(Cf kvs k).isSome)) H2
section
variable {X:Cx}{o i:Expr}{pos:Pos}{td ty:TE}{a:HR}{kvs:List (B3×V)}
theorem Ou.at {pins:List (HR×Obj)}{σ:L2.St}{H:Hp}{s:HQ}(D:Ou X.prog X.w X.K a kvs)(I:Ap X pins σ H s):∃vs,KV kvs vs∧s.heap.DictOf (A8 X.prog X.w) a vs∧(a==sysModules)=false:=by
 obtain ⟨o,vs,h1,h2,h3,h4⟩:=D
 exact ⟨vs,h3,Heap.dictOf_iff.mpr ⟨o,I.kIn _ _ h1,h2⟩,h4⟩
theorem Uv (D:Ou X.prog X.w X.K a kvs)(ho:PE X o td)(hi:PE X i ty)(hs:Ani i):PE X (.Subscript o i pos) (Aqe a kvs td ty):=by
 intro pins s σ H Q I h
 refine Aci PySem.F.slot_dict_getitem.lookup hs (Bi (ho pins s σ H _ I h) fun u s1 ⟨x,H1,I1,rx,ex,q1⟩=>Bi (hi pins s1 σ H1 _ I1 q1) fun iv s2 ⟨y,H2,I2,ry,k,v,ey,l,q2⟩=>?_)
 subst ex
 subst ey
 obtain rfl:u=Value.ref a:=rx
 obtain ⟨vs,rel,dd,hd⟩:=D.at I2
 obtain ⟨w',hw,rw'⟩:=Gk.some_of (v:=v) (o:=valueAt vs k) (by rw [←l];exact rel.val k)
 exact ⟨dd.typeIs,wpAny_getItem_of (Lb ry) dd.mapOf hw ⟨v,H2,I2.tok _,rw',q2⟩⟩
theorem An5 (D:Ou X.prog X.w X.K a kvs)(hi:PE X i ty)(ho:PE X o td):PC X .In i o (Aqc a kvs ty td):=by
 intro pins s σ H Q I h
 refine Bi (hi pins s σ H _ I h) fun iv s1 ⟨y,H1,I1,ry,q1⟩=>Bi (ho pins s1 σ H1 _ I1 q1) fun u s2 ⟨x,H2,I2,rx,k,ex,ey,q2⟩=>?_
 subst ex
 subst ey
 obtain rfl:u=Value.ref a:=rx
 obtain ⟨vs,rel,dd,hd⟩:=D.at I2
 refine wpAny_in_of (Lb ry) hd dd.mapOf ?_
 rw [←(rel.val k).isSome_eq]
 exact ⟨.bl _,H2,I2.tok _,rfl,q2⟩
theorem Ac3 (D:Ou X.prog X.w X.K a kvs)(hi:PE X i ty)(ho:PE X o td):PC X .NotIn i o (Abe a kvs ty td):=by
 intro pins s σ H Q I h
 refine Bi (hi pins s σ H _ I h) fun iv s1 ⟨y,H1,I1,ry,q1⟩=>Bi (ho pins s1 σ H1 _ I1 q1) fun u s2 ⟨x,H2,I2,rx,k,ex,ey,q2⟩=>?_
 subst ex
 subst ey
 obtain rfl:u=Value.ref a:=rx
 obtain ⟨vs,rel,dd,hd⟩:=D.at I2
 refine wpAny_notIn_of (Lb ry) hd dd.mapOf ?_
 rw [←(rel.val k).isSome_eq]
 exact ⟨.bl _,H2,I2.tok _,rfl,q2⟩
end
section
variable {X:Cx}{o i:Expr}{pos:Pos}{td ty:TE}{a:HR}{kvs:List (B3×V)}
theorem Aqg (D:Ou X.prog X.w X.K a kvs)(hi:PE X i ty)(ho:PE X o td)(hm:behindInMarks .In o=false):PT X (.Compare i [.In] [o] pos) (J6 (Aqc a kvs ty td)):=by
 rw [Gi]
 exact Ur (An5 D hi ho) hm
theorem Afg (D:Ou X.prog X.w X.K a kvs)(hi:PE X i ty)(ho:PE X o td)(hm:behindInMarks .NotIn o=false):PT X (.Compare i [.NotIn] [o] pos) (J6 (Abe a kvs ty td)):=by
 rw [Gi]
 exact Ur (Ac3 D hi ho) hm
end
inductive Fy (X:Cx)(k:Nat):List (Str×Sp)→Prop where
 |nil:Fy X k []
 |cons {x:Str} {ps:HW} {k0:Nat} {sp:Sp} {l:List (Str×Sp)}:A9 X.prog X.w X.K X.mg X.base x ps k0 sp→FnV X.K X.mg x→k0≤k→Fy X k l→Fy X k ((x,sp)::l)
def Ux (K:KKf)(l:List (Str×Sp))(E:XK)(te:TE)(t:TA):TE:=fun σ H Q=>te σ H fun v H1=>∃(x:Str) (sp:Sp) (f:HR),(x,sp)∈l∧v=.ref f∧PySem.W.nsIn K mainGlobals x=some (some (.ref f))∧t σ H1 fun vs H2=>sp vs H2 Q E
theorem Fy.get {X:Cx}{k:Nat}{l:List (Str×Sp)}(h:Fy X k l){x:Str}{sp:Sp}(hm:(x,sp)∈l):∃ps k0,A9 X.prog X.w X.K X.mg X.base x ps k0 sp∧FnV X.K X.mg x∧k0≤k:=by
 induction h with
 |nil=>cases hm
 | cons C v hk _ ih=>
  rcases AU.mp hm with e|hm
  ·cases e
   exact ⟨_,_,C,v,hk⟩
  ·exact ih hm
section
variable {X:Cx}{E:XK}
theorem Aay {fe:Expr}{k':Nat}{pos:Pos}{e:Expr}{es:HZ}{t:TA}{te:TE}{l:List (Str×Sp)}(C:Fy X k' l)(hr:Bz k' X.A)(hx:Ee (Es X.prog X.w) X E)(hn:PE X fe te)
  (ha:PA X (e::es) t) (ht:eval (.Call fe (e::es) [] pos) X.env=(do callWith pos (←eval fe X.env) [] (backTo pos (starEach (e::es) X.env)) (backToKw pos (keywordEach [] X.env)))) (he:starEach (e::es) X.env=(false,eval e X.env)::starEach es X.env) (hpl:(backTo pos (starEach es X.env)).any (·.1)=false) :
  PE X (.Call fe (e::es) [] pos) (Ux X.K l E te t):=by
 intro pins s σ H Q I h
 rw [ht]
 refine AA (Bi (hn pins s σ H _ I h) fun u s1 ⟨w,H1,I1,r,x,sp,f,hm,ew,hf,q⟩=>?_)
 subst ew
 obtain ⟨ps,k0,C,v,hk⟩:=C.get hm
 obtain ⟨f0,fd,h1,h2,h3,h4,_⟩:=C.ex
 obtain ⟨f1,g1,g2⟩:=v
 rw [hf] at g2
 cases g2
 rw [h1] at g1
 cases g1
 have eu:u=.ref f:=r
 subst eu
 refine FJ (h₀:=X.base) I1.ok.mod.kin h2 (Bi (ha pos pins s1 σ H1 _ I1 q) fun us s2 ⟨vs,H2,I2,r2,q2⟩=>⟨I2.kIn,?_⟩) he hpl
 exact To (h4.mono hk) hr h3 .nil hx I2 r2 (by rw [CG];exact q2)
theorem Ag4 {y:Str}{k':Nat}{p pos:Pos}{e:Expr}{es:HZ}{t:TA}{te:TE}{l:List (Str×Sp)}(C:Fy X k' l)(hr:Bz k' X.A)(hx:Ee (Es X.prog X.w) X E)(hn:PE X (.Name y p) te)
  (ha:PA X (e::es) t) (he:starEach (e::es) X.env=(false,eval e X.env)::starEach es X.env:=by rfl) (hpl:(backTo pos (starEach es X.env)).any (·.1)=false:=by rfl) :
  PE X (.Call (.Name y p) (e::es) [] pos) (Ux X.K l E te t):=Aay C hr hx hn ha rfl he hpl
theorem Afa {o i:Expr}{k':Nat}{p pos:Pos}{e:Expr}{es:HZ}{t:TA}{te:TE}{l:List (Str×Sp)}(C:Fy X k' l)(hr:Bz k' X.A)(hx:Ee (Es X.prog X.w) X E)(hn:PE X (.Subscript o i p) te)
  (ha:PA X (e::es) t) (he:starEach (e::es) X.env=(false,eval e X.env)::starEach es X.env:=by rfl) (hpl:(backTo pos (starEach es X.env)).any (·.1)=false:=by rfl) :
  PE X (.Call (.Subscript o i p) (e::es) [] pos) (Ux X.K l E te t):=Aay C hr hx hn ha rfl he hpl
end
def Atg (ta tb:TE):TE:=fun σ H Q=>ta σ H fun x H1=>match x with
 |.str z=>z.length≤sizeLine∧(z≠Str.ofString ""→Q (.str z) H1)∧(z=Str.ofString ""→tb σ H1 Q)
 |_=>False
theorem Ak0 {X:Cx}{a b:Expr}{ta tb:TE}{pos:Pos}(ha:PE X a ta)(hb:PE X b tb):PE X (.BoolOp .Or [a,b] pos) (Atg ta tb):=by
 intro pins s σ H Q I h
 refine BoolOp_or (Bi (ha pins s σ H _ I h) fun v s1 ⟨x,H1,I1,r1,q1⟩=>?_)
 match x,q1 with
 | .str z,⟨hz,q1,q2⟩=>
  obtain ⟨t,rfl⟩:=r1
  have hl:=Mx
  refine PySem.P.truthy_str (by omega) ?_
  by_cases e:z.length=0
  ·rw [show ((z.length:Int) != 0)=false by simp [e]]
   have ez:z=Str.ofString "":=by
    obtain ⟨⟨l⟩⟩:=z
    have:l.length=0:=e
    rw [CJ.mp this]
    rfl
   exact Nc hb pins _ σ H1 Q (I1.tok _) (q2 ez)
  ·rw [show ((z.length:Int) != 0)=true by simp;omega]
   exact ⟨.str z,H1,I1.tok _,⟨_,rfl⟩,q1 fun ez=>e (by rw [ez];decide +kernel)⟩
theorem Ahw {X:Cx}{x:Str}{C:HR}{Cs Ds:List HR}{ps:HW}{k k':Nat}{sp:Sp}{p pos:Pos}(c:C9 X.prog X.w X.K X.mg X.base Cs Ds "__init__" ps k sp)(hC:C∈Cs)(M:MkC X.K C)(hr:Bz k' X.A)(hk:k+1≤k')(hg:Gl X x)(hm:X.mg x=some (.ref C))(hdb:(x==("__debug__":Str))=false:=by decide) :
  PE X (.Call (.Name x p) [] [] pos) (X0 C sp E0 X5):=by
 obtain ⟨f,fd,h1,_,_,h3,h4⟩:=c.ex
 rw [Wt]
 exact Aha ⟨M.makes,(h1 C hC).at_,(h1 C hC).fn,M.kp⟩ h4 (hr.mono hk) hg hm h3 .nil Pi hdb
end Lw
end
noncomputable section
open PySem PySem.Spec PyProof.Rows L2
namespace Lw
structure PB (X:Cx)(es:HZ)(t:TA):Prop where
 pa:PA X es t
 st:∀l,l <:+ es→starEach l X.env=l.map fun e=>(false,eval e X.env)
section
variable {X:Cx}{e:Expr}{es:HZ}{te:TE}{t:TA}
theorem Amj:PB X [] X5:=⟨Ai,fun l h=>by
 rw [List.suffix_nil.mp h]
 rfl⟩
theorem Aj (ha:PE X e te)(hr:PB X es t)(hs:starEach (e::es) X.env=(false,eval e X.env)::starEach es X.env:=by rfl):PB X (e::es) (Xx te t):=⟨Ab ha hr.pa hs,fun l h=>by
 rcases List.suffix_cons_iff.mp h with rfl|h
 ·rw [hs,hr.st _ (List.suffix_refl _)]
  rfl
 ·exact hr.st l h⟩
theorem PB.he (h:PB X (e::es) t):starEach (e::es) X.env=(false,eval e X.env)::starEach es X.env:=by
 rw [h.st _ (List.suffix_refl _),h.st es (List.suffix_cons ..)]
 rfl
theorem PB.hpl (h:PB X (e::es) t)(pos:Pos):(backTo pos (starEach es X.env)).any (·.1)=false:=by
 rw [h.st es (List.suffix_cons ..)]
 unfold backTo
 rw [EH,List.any_map,List.any_eq_false]
 intro x _
 exact BA
theorem Ba (ha:PE X e te)(hs:starEach [e] X.env=(false,eval e X.env)::starEach [] X.env:=by rfl):PB X [e] (Xx te X5):=Aj ha Amj hs
theorem Bg {i j pos p}(ha:PE X e te):PE X (.Subscript e (.Constant (.int i) j p) pos) (tOp Ape te (tC (.int i))):=Eb Arl ha Ae fun _ _=>rfl
theorem Kg {i j pos p}(ha:PE X e te):PE X (.Subscript e (.Constant (.int i) j p) pos) (tOp (Ajs X.K) te (tC (.int i))):=Eb Ht ha Ae fun _ _=>rfl
theorem A5 {pos}(ha:PE X e te):Nt X [.Return (some e) pos] (Aqq te):=Ar (Ak8 ha)
theorem Af {pos p:Pos}{x:Str}{ps:HW}{k k':Nat}{sp:Sp}(C:A9 X.prog X.w X.K X.mg X.base x ps k sp)(hr:Bz k' X.A)(ha:PB X (e::es) t)(z:k≤k'∧Gl X x∧(x==("__debug__":Str))=false):PE X (.Call (.Name x p) (e::es) [] pos) (Aa6 sp t):=Ue C hr z.1 z.2.1 ha.pa z.2.2 ha.he (ha.hpl pos)
theorem Ao {pos p:Pos}{x:Str}{id:String}{r:ID→Hp→VK→Prop}(hc:Cy X (.builtin id) r)(hm:X.mg x=none)(hv:bootBuiltins x=some (.builtin id))(ha:PB X (e::es) t)(z:Gl X x∧x≠"__name__"∧(x==("__debug__":Str))=false):PE X (.Call (.Name x p) (e::es) [] pos) (tCB r t):=Afd hc z.1 hm hv ha.pa z.2.1 z.2.2 ha.he (ha.hpl pos)
theorem Bv {pos p:Pos}{x:Str}{T:String}{r:ID→Hp→VK→Prop}(hc:Cy X (.type T) r)(hm:X.mg x=none)(hv:bootBuiltins x=some (.type T))(ha:PB X (e::es) t)(z:Gl X x∧x≠"__name__"∧(x==("__debug__":Str))=false):PE X (.Call (.Name x p) (e::es) [] pos) (tCB r t):=Acx hc z.1 hm hv ha.pa z.2.1 z.2.2 ha.he (ha.hpl pos)
theorem Ak {i:Nat}{x:Str}{pos pos':Pos}(hN:X.N.Nodup)(he:PE X e te)(z:X.N[i]? =some x∧Loc X.env.scope x∧swapsWith e (some (.Name x pos')) pos.line X.env=pure false∧(X.fn x=true∨X.env.scope.names.lookup x=some .local)):PS X (.Assign [.Name x pos'] e pos) (Afn te (Xl i)):=Alc hN z.1 z.2.1 he z.2.2.1 z.2.2.2
end
end Lw
end
section
set_option autoImplicit false
namespace Lw
open PySem PySem.Spec PyProof.Rows L2
section
variable {X:Cx}
def Amk (K:KKf):R2:=fun x y H Q=>match x,y with
 |.ref p,.int i=>∃xs,D7 K H p xs∧match Afl xs i with
  |some v=>Q v H
  |none=>False
 |_,_=>False
theorem Ahj:IxR X (Amk X.K):=by
 intro value slice pins s σ H x y v u Q I rx ry h hs
 cases x<;>cases y<;>first
  |exact False.elim h
  | (obtain ⟨xs,e,q⟩:=h
     cases z:Afl xs _ with
     | none=>
       rw [z] at q
       exact False.elim q
     | some w=>
       rw [z] at q
       exact Yu value slice pins s σ H _ _ v u Q I rx ry ⟨_,xs,_,w,rfl,rfl,e,Aan z,q⟩ hs)
theorem Em {e:Expr}{te:TE}{i j pos p}(ha:PE X e te):PE X (.Subscript e (.Constant (.int i) j p) pos) (tOp (Amk X.K) te (tC (.int i))):=Eb Ahj ha Ae fun _ _=>rfl
def Ap4 (K:KKf):ID→Hp→VK→Prop:=fun xs H Q=>match xs with
 |[.ref p,.ty c]=>(∃xs,(H p=some (.tup xs)∨∃o,K.lookup p=some o∧o.cls=.type "tuple"))∧c="tuple"∧Q (.bl true) H
 |_=>False
theorem Al3:Cy X (.builtin "isinstance") (Ap4 X.K):=by
 intro pins s σ H xs us Q I r h
 match xs,h with
 | [.ref p,.ty c],⟨⟨xs,e⟩,hc,q⟩=>
  subst hc
  obtain ⟨u,w',rfl,r1,r2⟩:=Jk r
  cases (show w'=Value.type "tuple" from r2)
  rcases e with e|⟨o,h1,h2⟩
  ·exact E9 I r1 (.tup e) (Hk X.K (t:="tuple") (c:="tuple") rfl) fun tk=>⟨.bl true,H,I.tok _,rfl,q⟩
  ·cases (show u=Value.ref p from r1)
   exact CK PySem.W.kitx_tuple I.kIn ⟨o,I.kIn _ _ h1,h2⟩ (Hk X.K (t:="tuple") (c:="tuple") rfl) (fun z=>nomatch z) fun tk=>⟨.bl true,H,I.tok _,rfl,q⟩
end
def V1 (K:KKf)(H:Hp)(p:HR)(xs:ID):Prop:=H p=some (.tup xs)∨By K p xs
theorem V1.sq {K:KKf}{H:Hp}{p:HR}{xs:ID}:V1 K H p xs→D7 K H p xs
 |.inl h=>D7.of h
 |.inr h=>h.sq H
theorem V1.isi {K:KKf}{H:Hp}{p:HR}{xs:ID}:V1 K H p xs→∃xs,(H p=some (.tup xs)∨∃o,K.lookup p=some o∧o.cls=.type "tuple")
 |.inl h=>⟨_,.inl h⟩
 |.inr h=>⟨xs,.inr (let ⟨o,h1,h2,_⟩:=h.ty;⟨o,h1,h2⟩)⟩
theorem V1.up {K:KKf}{H H':Hp}{p:HR}{xs:ID}(k:∀q ys,H q=some (.tup ys)→H' q=some (.tup ys)):V1 K H p xs→V1 K H' p xs
 |.inl h=>.inl (k _ _ h)
 |.inr h=>.inr h
end Lw
end
section
set_option autoImplicit false
namespace Lw
open PySem PySem.Spec PyProof.Rows L2
def Aks:HY→Bool
 |.ref _::r=>Aks r
 |l=>l==vB
structure ExS (K:KKf)(C:HR):Prop where
 sa:PySem.W.findIn K (.ref C) "__setattr__"=some (some (.builtin "object.__setattr__"))
 po:(PySem.W.clsIn K C).any (fun cd=>Aks cd.mro)=true
 hd:PySem.W.hasDictIn K C=true
def Ad6 (K:KKf)(C f:HR):Bool:=match K.lookup C with
 |some ⟨.type "type",_,.cls cd,sl⟩=>(match cd.mro,sl.toList with
  |.ref C'::bm,[_,_,_,_,some (.builtin n),_]=>C'==C&&n=="ValueError.__new__"&&!cd.hasDel&&PySem.W.tailIn K vB bm&&PySem.W.nsOkIn K cd.ns&&PySem.W.nsIn K cd.ns "__init__"==some (some (.ref f))
  |_,_=>false)
 |_=>false
section
variable {X:Cx}{pins:List (HR×Obj)}{σ:L2.St}{H:Hp}{s:HQ}{a C f:HR}
def Y1 (K:KKf)(C:HR):Bool:=match PySem.W.findIn K (.ref C) "__init__" with
 |some (some (.ref f))=>Ad6 K C f
 |_=>false
structure ExI (K:KKf)(C:HR):Prop where
 ini:Y1 K C=true
 kp:PySem.W.keepIn K (.ref C)=true
end
def del (H:Hp)(a:HR):Hp:=fun b=>if b=a then none else H b
end Lw
end
section
namespace Lw
open PySem PySem.Spec PyProof.Rows L2
structure Auf (K:KKf)(mg:Str→IA)(x:Str)(st:Stmt)(ps:HW):Prop where
 ex:∃(f:HR) (fd:FuncData) (oc:HP) (od:IB) (dV kV doc pm:HP) (an:IB) (cdv ct:HP) (osl:Array (IA)),
  fd=PySem.W.fnOf x x (Df st) (B9 st) (Ac st) dV kV doc pm an cdv ct∧K.lookup f=some ⟨oc,od,.func fd,osl⟩∧PySem.W.codeIn K cdv x=true∧PySem.W.keepIn K (.ref f)=true∧mg x=some (.ref f)∧Ea K fd ps []∧Ea K fd ps [.none]
structure Aui (P:HU)(w:HV)(K:KKf)(mg:Str→IA)(base:Heap)(x:Str)(ps:HW)(k:Nat)(sp:Sp):Prop where
 ex:∃(f:HR) (fd:FuncData),mg x=some (.ref f)∧PySem.W.keepIn K (.ref f)=true∧Ea K fd ps []∧Ea K fd ps [.none]∧Hh P w K mg base (Es P w) k f fd ps sp ∧
  ∃(oc:HP) (od:IB) (osl:Array (IA)),K.lookup f=some ⟨oc,od,.func fd,osl⟩
end Lw
end
section
set_option autoImplicit false
namespace Lw
open PySem PySem.Spec PyProof.Rows L2
theorem Aer {M:Model}{A:HS}{E:HP→HQ→Prop}{K:KKf}{a C D:HR}{s:HQ}{Q:Bool→HQ→Prop}(X:K.In s.heap)(p:∃o,s.heap.get? a=some o∧o.cls=.ref C)(c:Cat K D)
  (hm:PySem.W.mroIn K C (.ref D)=some false) (hq:Q false s):wpAny M A (excMatches (.ref a) (.ref D)) Q E s:=by
 obtain ⟨h,g,d,t,os⟩:=s
 obtain ⟨o,e,ec⟩:=p
 obtain ⟨dd,cd,sl,lk⟩:=c.lk
 have eD:=X _ _ lk
 have f:=tc_notTuple
 have l1:=GA (M:=M) X c.mb
 have l2:=GA (M:=M) X hm
 unfold excMatches
 repeat (first|with_reducible refine l1.at ?_|with_reducible refine l2.at ?_|(with_reducible refine GW e ?_;rw [ec])|with_reducible refine GW eD ?_|wp_step)
 exact hq
end Lw
end
section
set_option autoImplicit false
namespace Lw
open PySem PySem.Spec PyProof.Rows L2
section
variable {X:Cx}{pins:List (HR×Obj)}{σ:L2.St}{H H':Hp}{s s':HQ}
theorem Ad1 {E:HP→HQ→Prop}{a C:HR}{d:IB}{B h5:Heap}{a0:HP}{hpos:Pos}{b₀:Stmt}{suite:List Stmt}{tu:TS}{D:Ot}(dx:Sj X)(I:Ap X pins σ H s)(F:Fly X.prog X.w X.stack H s H' a (.ref C) d B a0 s')
  (f5:Heap.FlyingW B (X.env::X.outer) a (.ref C) a0 h5) (u5:s'.heap.UpToSlots h5) (d5:J2 a d h5) (hu:∀v,Nt (cxM X v) (b₀::suite) tu)
  (q:∀H3,Ag H' H3→tu D σ H3) :
  codeAny (model X.prog X.w) (X.A.mark (some (.ref a))) (.handlers (.ref a) [.ExceptHandler none none (b₀::suite) hpos] X.env) (fun r s2=>match r with
   |.ok f=>SP X pins D f s2
   |.error x=>cameBackBy (model X.prog X.w) X.A X.env E x s2) { s' with heap:=h5 }:=by
 refine codeAny_handlers_suite ?_
 refine BP (Il Fh d5 (lands_againW (Q:=fun _ s6=>∃h6,s6={ s' with heap:=h6 }∧Heap.FlyingW B (X.env::X.outer) a (.ref C) a0 h6∧h5.UpToSlots h6) f5 fun h6 f6 u6=>⟨h6,rfl,f6,u6⟩)) (fun _ s6 ⟨⟨h6,e6,f6,u6⟩,d6⟩=>?_) fun _ _ z=>z
 subst e6
 have I6:Ap X pins σ H' { s' with heap:=h6 }:=I.call' (s':={ s' with heap:=h6 }) (ch:=[]) F.os (F.un5 f6.1 (u5.trans u6)) (F.hok5 f6.1) F.bare fun b hb=>absurd hb (by simp)
 refine BP (hu (.ref a) pins _ _ _ _ (Wz I6 (.ref a)) (q _ (Ag.refl _))) (fun fl s8 q8=>?_) fun _ _ z=>z.elim
 cases fl with
 |next=>
  obtain ⟨σ8,H8,I8,q8⟩:=q8
  exact ⟨σ8,H8,Gy I.ok I8,q8⟩
 |brk=>
  obtain ⟨σ8,H8,I8,q8⟩:=q8
  exact ⟨σ8,H8,Gy I.ok I8,q8⟩
 |cont=>
  obtain ⟨σ8,H8,I8,q8⟩:=q8
  exact ⟨σ8,H8,Gy I.ok I8,q8⟩
 |ret u=>
  obtain ⟨v,σ8,H8,I8,r8,q8⟩:=q8
  exact ⟨v,σ8,H8,Gy I.ok I8,r8,q8⟩
inductive Hs (X:Cx):List ExceptHandler→List (HR×TS)→Prop where
 |nil:Hs X [] []
 |cons {y:Str} {yp hpos:Pos} {b:Stmt} {su:List Stmt} {Dc:HR} {tu:TS} {hs:List ExceptHandler} {l:List (HR×TS)}:Gl X y→X.mg y=some (.ref Dc)→Cat X.K Dc→(∀v,Nt (cxM X v) (b::su) tu)→(y==("__debug__":Str))=false→Hs X hs l→Hs X (.ExceptHandler (some (.Name y yp)) none (b::su) hpos::hs) ((Dc,tu)::l)
def hQ (K:KKf)(C:HR)(D:Ot)(σ:L2.St)(H2:Hp):List (HR×TS)→Prop
 |[]=>False
 |(Dc,tu)::l=>∃b,PySem.W.mroIn K C (.ref Dc)=some b∧((b=true∧∀H3,Ag H2 H3→tu D σ H3)∨(b=false∧hQ K C D σ H2 l))
theorem Aa1 {E:HP→HQ→Prop}{a C:HR}{d:IB}{B h5:Heap}{a0:HP}{D:Ot}(dx:Sj X)(I:Ap X pins σ H s)(F:Fly X.prog X.w X.stack H s H' a (.ref C) d B a0 s')
  (f5:Heap.FlyingW B (X.env::X.outer) a (.ref C) a0 h5) (u5:s'.heap.UpToSlots h5) (d5:J2 a d h5) (I5:Ap X pins σ H' { s' with heap:=h5 }) :
  ∀{hs:List ExceptHandler} {l:List (HR×TS)},Hs X hs l→hQ X.K C D σ H' l→wpAny (model X.prog X.w) X.A (handleBy (.ref a) X.env hs) (SP X pins D) E { s' with heap:=h5 }
 |_,_,.nil,q=>q.elim
 |_,_,.cons hy hD cD hu hdb r,q=>by
  obtain ⟨b,hm,q⟩:=q
  refine wpAny_handleBy_cons (codeAny_handlers_test (Jq (Wz I5 (.ref a)) hy hD ?_ hdb)) (by intro z;cases z)
  rcases q with ⟨rfl,q⟩|⟨rfl,q⟩
  ·exact Adq I5.kIn f5.there cD hm (Ad1 dx I F f5 u5 d5 hu q)
  ·exact Aer I5.kIn f5.there cD hm (Aa1 dx I F f5 u5 d5 I5 r q)
end
def Apz (K:KKf)(l:List (HR×TS))(D:Ot)(σ:L2.St):XK:=fun cls _ H2=>∃C,cls=.ref C∧hQ K C D σ H2 l
def Apr (K:KKf)(tb:L2.St→XK→TS)(l:List (HR×TS)):TS:=fun D σ H=>tb σ (Apz K l D σ) D σ H
theorem Ajl {X:Cx}{body:List Stmt}{tb:L2.St→XK→TS}{pos:Pos}{h0:ExceptHandler}{hs:List ExceptHandler}{l:List (HR×TS)}(dx:Sj X)(hb:∀σ0 p0 Eh,Nt (cxT X σ0 p0 Eh) body (tb σ0 Eh))(hh:Hs X (h0::hs) l) :
  PS X (.Try body (h0::hs) [] [] pos) (Apr X.K tb l):=by
 intro pins s σ H D I h
 refine wpAny_Try_except (BP (hb σ pins (Apz X.K l D σ) [] s σ H D (Ad2 I) h) (fun fl s1 q=>?_) fun ev s1 q=>?_)
 ·cases fl with
  |next=>
   obtain ⟨σ',H',I',q⟩:=q
   exact GC ⟨σ',H',Fj I',q⟩
  |brk=>
   obtain ⟨σ',H',I',q⟩:=q
   exact ⟨σ',H',Fj I',q⟩
  |cont=>
   obtain ⟨σ',H',I',q⟩:=q
   exact ⟨σ',H',Fj I',q⟩
  |ret u=>
   obtain ⟨v,σ',H',I',r,q⟩:=q
   exact ⟨v,σ',H',Fj I',r,q⟩
 ·obtain ⟨H1,s2,I1,a,cls,d,H2,B,a0,rfl,F,C',rfl,q2⟩:=q
  have hfr:X.A.frames=some (X.env::X.outer):=by rw [I1.ok.frames,dx.stk]
  have hfl:=F.fly
  rw [dx.stk] at hfl
  refine BP (Il S4 F.dct (wpAny_looks_onW (Q:=fun _ s4=>∃h4,s4={ s1 with heap:=h4 }∧Heap.HeldW B (X.env::X.outer) a (.ref C') a0 X.env.locals h4∧s1.heap.UpToSlots h4) hfr dx.fr hfl fun h4 held u4=>⟨h4,rfl,held,u4⟩)) (fun _ s4 ⟨⟨h4,e4,held,u4⟩,d4⟩=>?_) fun _ _ z=>z
  subst e4
  refine BP (Il Fh d4 (wpAny_landsW (Q:=fun _ s5=>∃h5,s5={ s1 with heap:=h5 }∧Heap.FlyingW B (X.env::X.outer) a (.ref C') a0 h5∧h4.UpToSlots h5) held fun h5 f5 u5=>⟨h5,rfl,f5,u5⟩)) (fun _ s5 ⟨⟨h5,e5,f5,u5⟩,d5⟩=>?_) fun _ _ z=>z
  subst e5
  have I5:Ap X pins σ H2 { s1 with heap:=h5 }:=I1.call' (s':={ s1 with heap:=h5 }) (ch:=[]) F.os (F.un5 f5.1 (u4.trans u5)) (F.hok5 f5.1) F.bare fun b hb=>absurd hb (by simp)
  exact Aa1 dx I1 F f5 (u4.trans u5) d5 I5 hh q2
end Lw
end
section
namespace Lw
open PySem PySem.Spec PySem.W PyProof.Rows L2
section
variable {prog:HU}{w:HV}{A:HS}{E:HP→HQ→Prop}{s:HQ}{a:HR}{vs:HY}
theorem Abu (vs:HY):(vs.toArray.zip vs.toArray).map (·.2)=vs.toArray:=by
 refine Array.ext (by simp) fun i h1 h2=>?_
 simp
theorem Ap2 {key:Nat→Int}{n:Nat}{P:PySem.Fin→HQ→Prop}(ho:s.heap.get? a=some (seqObj "list" vs.toArray n))(h64:vs.length<64)(κ:SortKind)
  (hk:∀h':Heap,(∀b o,b≠a→s.heap.get? b=some o→h'.get? b=some o)→∀Q:SortKind→HQ→Prop,2≤vs.length→Q κ { s with heap:=h' }→wpAny (model prog w) A (keyKind' vs.toArray) Q (fun _ _=>False) { s with heap:=h' })
  (hc:∀h':Heap,(∀b o,b≠a→s.heap.get? b=some o→h'.get? b=some o)→∀i j,i<vs.length→j<vs.length→∀C:Bool→HQ→Prop,C (decide (key i<key j)) { s with heap:=h' }→kas_ask prog w A κ vs i j C { s with heap:=h' })
  (h:∀p,Jr key vs.length p→P (.done (.ret .none)) { s with heap:=sortedHeap s.heap a vs (List.toArray (Hv vs p)) }) :
  wpAny (model prog w) A (Builtin.«list.sort» ⟨[.ref a],[]⟩) P E s:=by
 have ha:a<s.heap.objs.size:=AH ho
 obtain ⟨e1,ho1⟩:∃e1,(s.heap.update a (Obj.mapSeq fun _=>(#[]:Array HP))).get? a=some (seqObj "list" #[] e1):=⟨_,get?_update_seq ho fun _=>#[]⟩
 have ho6:(((s.heap.update a (Obj.mapSeq fun _=>#[])).push (seqObj "tuple" vs.toArray 0)).push (seqObj "list" #[] 0)).get? a=some (seqObj "list" #[] e1):=AB _ (AB _ ho1)
 have kp:∀b o,b≠a→s.heap.get? b=some o→(((s.heap.update a (Obj.mapSeq fun _=>#[])).push (seqObj "tuple" vs.toArray 0)).push (seqObj "list" #[] 0)).get? b=some o:=fun b o ne e=>
  AB _ (AB _ (by rw [Heap.get?_update_ne _ _ _ _ ne];exact e))
 rw [list_sort_plain]
 refine AA (listItems_at ho rfl ?_)
 refine AA (FG ho rfl ?_ (by rw [AR,CM];omega) (AV _))
 refine AA (seqEpoch_at ho1 rfl ?_)
 refine AA (wpAny_newTuple ?_ (by show vs.length≤_;rw [CM];omega))
 refine AA (FY ?_ (AV _))
 refine CT ?_
 show wpAny (model prog w) A _ P E { s with heap:=((s.heap.update a (Obj.mapSeq fun _=>(#[]:Array HP))).push (seqObj "tuple" vs.toArray 0)).push (seqObj "list" #[] 0) }
 dsimp only
 by_cases h2:vs.toArray.size<2
 ·rw [AN h2,AN h2]
  have h2':vs.length<2:=by rwa [AR] at h2
  have h:=h _ (Abv h2')
  refine AA (AC ?_)
  rw [StateT.run_pure]
  refine AA (AC ?_)
  dsimp only
  refine AA (seqEpoch_at ho6 rfl ?_)
  rw [Qr,←Abu] at h
  refine AA (FG ho6 rfl ?_ (AV _) (by
   show ((vs.toArray.zip vs.toArray).map (·.2)).size≤_
   rw [Abu,AR,CM]
   omega))
  simp only [CP,BL,DE]
  exact AC h
 ·rw [AI h2,AI h2]
  have h2':¬vs.length<2:=by rwa [AR] at h2
  refine AA (BP (hk _ kp (fun κ' s'=>κ'=κ∧s'={ s with heap:=((s.heap.update a (Obj.mapSeq fun _=>(#[]:Array HP))).push (seqObj "tuple" vs.toArray 0)).push (seqObj "list" #[] 0) }) (by omega) ⟨rfl,rfl⟩) (fun κ' s0 hk=>?_) fun _ _ x=>x.elim)
  obtain ⟨rfl,rfl⟩:=hk
  refine AA (BP (kat_run (Q:=fun st' s'=>s'={ s with heap:=((s.heap.update a (Obj.mapSeq fun _=>(#[]:Array HP))).push (seqObj "tuple" vs.toArray 0)).push (seqObj "list" #[] 0) }∧∃p:Array Nat,Jr key vs.length p.toList∧(arrOf st').map (·.2)=List.toArray (Hv vs p.toList)∧failedOf st'=none)
   (G:=fun p s'=>s'={ s with heap:=((s.heap.update a (Obj.mapSeq fun _=>(#[]:Array HP))).push (seqObj "tuple" vs.toArray 0)).push (seqObj "list" #[] 0) }∧Jr key vs.length p.toList) rfl (by omega) h64 (fun p' st' s' a1 a2 a3 ⟨a4,a5⟩=>⟨a4,p',a5,kat_snds rfl a2,a3⟩) (Rn.wp (key:=key) (n:=vs.length) (hc _ kp) (Rn.mono (fun p hp=>⟨rfl,Ag0 hp.1 hp.2⟩) (Aca (by omega))))) ?_ fun _ _ e=>e)
  rintro ⟨⟨⟩,st'⟩ s' ⟨rfl,p,hs,hout,hf⟩
  dsimp only at hout hf ⊢
  refine AA (seqEpoch_at ho6 rfl ?_)
  rw [hout,hf]
  refine AA (FG ho6 rfl ?_ (AV _) (by
   show (List.toArray (Hv vs p.toList)).size≤_
   unfold Hv
   rw [AR,AE,hs.1,CM]
   omega))
  simp only [CP,BL,DE]
  exact AC (h _ hs)
theorem Aql {key:Nat→Int}{l:HR}{Q:HP→HQ→Prop}(hl:s.heap.IsList l vs.toArray)(h64:vs.length<64)(κ:SortKind)
  (hk:∀h':Heap,(∀b o,s.heap.get? b=some o→h'.get? b=some o)→∀Q:SortKind→HQ→Prop,2≤vs.length→Q κ { s with heap:=h' }→wpAny (model prog w) A.in1.in1 (keyKind' vs.toArray) Q (fun _ _=>False) { s with heap:=h' })
  (hc:∀h':Heap,(∀b o,s.heap.get? b=some o→h'.get? b=some o)→∀i j,i<vs.length→j<vs.length→∀C:Bool→HQ→Prop,C (decide (key i<key j)) { s with heap:=h' }→kas_ask prog w A.in1.in1 κ vs i j C { s with heap:=h' })
  (h:∀p,Jr key vs.length p→Q (.ref (s.heap.objs.size+1)) { s with heap:=sortedAll s.heap vs (List.toArray (Hv vs p)) }) :
  wpAny (model prog w) A (call (.builtin "sorted") [.ref l]) Q E s:=by
 refine Calls.call_function_entry kind_sorted plain_sorted entry_sorted (args_sorted1 _) ?_
 unfold Builtin.«sorted»
 refine AA (m:=checkCount "sorted" 1 1 _) (AC ?_)
 refine AA (collect_list hl ?_ (by rw [CM];omega))
 refine AA (FY ?_ (by rw [CM];omega))
 have hsz:((s.heap.push (seqObj "list" #[] 0)).update s.heap.objs.size (Obj.mapSeq (· ++ vs.toArray))).objs.size=s.heap.objs.size+1:=by
  rw [Heap.size_update,size_push']
 have hoL:(((s.heap.push (seqObj "list" #[] 0)).update s.heap.objs.size (Obj.mapSeq (· ++ vs.toArray))).push (seqObj "list" vs.toArray 0)).get? (s.heap.objs.size+1)=some (seqObj "list" vs.toArray 0):=by
  rw [←hsz];exact AG _ rfl
 have keep:∀b o,s.heap.get? b=some o→(((s.heap.push (seqObj "list" #[] 0)).update s.heap.objs.size (Obj.mapSeq (· ++ vs.toArray))).push (seqObj "list" vs.toArray 0)).get? b=some o:=fun b o q=>by
  have hlt:b<s.heap.objs.size:=AH q
  rw [GY _ _ _ (by rw [hsz];exact AS (CD hlt)),Heap.get?_update_ne _ _ _ _ (AS hlt),GY _ _ _ (AS hlt)]
  exact q
 show wpAny _ _ _ _ _ { s with heap:=((s.heap.push (seqObj "list" #[] 0)).update s.heap.objs.size (Obj.mapSeq (· ++ vs.toArray))).push (seqObj "list" vs.toArray 0) }
 rw [hsz]
 have ne:∀b o,s.heap.get? b=some o→b≠s.heap.objs.size+1:=fun b o e=>AS (CD (AH e))
 refine AA (CT (wpAny_call_entry slot_list_sort ⟨_,hoL,rfl⟩ entry_list_sort (Ap2 (key:=key) (s:={ s with heap:=((s.heap.push (seqObj "list" #[] 0)).update s.heap.objs.size (Obj.mapSeq (· ++ vs.toArray))).push (seqObj "list" vs.toArray 0) }) hoL h64 κ (fun h' k=>hk h' fun b o e=>k b o (ne b o e) (keep b o e)) (fun h' k=>hc h' fun b o e=>k b o (ne b o e) (keep b o e)) (fun p hp=>⟨_,rfl,?_⟩)) (args_list_sort _)))
 exact AC ⟨_,rfl,h p hp⟩
end
section
variable {X:Cx}{pins:List (HR×Obj)}{σ:L2.St}{H:Hp}{s:HQ}
theorem Pp {xs:ID}{its:HY}(rv:A6 xs its):∀{L:IC},(∀i∈L,i<xs.length)→A6 (L.map fun i=>xs.getD i .non) (L.map fun i=>its.getD i Value.none)
 |[],_=>.nil
 |i::L,h=>by
  have hi:=h i AK
  obtain ⟨v,hv,r⟩:=rv.get (AD hi)
  rw [BE,BE]
  refine .cons ?_ (Pp rv fun j hj=>h j (AJ _ hj))
  rw [BF,BF,hv,AD hi]
  exact r
end
end Lw
end
section
namespace Lw
open PySem PySem.Spec PySem.W PyProof.Rows L2
def X9 (H:Hp)(v:V)(q:Int×Int):Prop:=∃p,v=.ref p∧H p=some (.tup [.int q.1,.int q.2])
def kP (ps:List (Int×Int))(i:Nat):Int:=(ps.getD i (0,0)).1*64+(ps.getD i (0,0)).2
section
variable {X:Cx}{pins:List (HR×Obj)}{σ:L2.St}{H:Hp}{s:HQ}
theorem Af8 (I:Ap X pins σ H s){p:HR}{x y:Int}(e:H p=some (.tup [.int x,.int y])):∃o t1 t2 k,s.heap.get? p=some o∧o.cls=.type "tuple"∧o.data=.seq #[.int x t1,.int y t2] k:=by
 obtain ⟨_,its,r,o,h1,h2,n,h3⟩:=(show Bf X.prog X.w H s.heap p (.tup [.int x,.int y]) from I.hok p _ e)
 cases r with
 |cons r1 r=>
 cases r with
 |cons r2 r=>
 cases r
 obtain ⟨t1,rfl⟩:=r1
 obtain ⟨t2,rfl⟩:=r2
 exact ⟨o,t1,t2,n,h1,h2,by simpa using h3⟩
theorem Abc (I:Ap X pins σ H s){h':Heap}(kp:∀b o,s.heap.get? b=some o→h'.get? b=some o):∀{xs:ID} {ps:List (Int×Int)} {its:HY},A6 xs its→Ax (X9 H) xs ps→∃fs,KatTups h' its fs∧fs.length=ps.length∧∀v∈fs,∃x t,v=.int x t
 |_,_,_,.nil,.nil=>⟨[],.nil,rfl,fun v h=>by simp at h⟩
 |_,_,_,.cons r1 r2,.cons ⟨p,e,hp⟩ al=>by
  subst e
  cases r1
  obtain ⟨fs,k1,k2,k3⟩:=Abc I kp r2 al
  obtain ⟨o,t1,t2,k,h1,h2,h3⟩:=Af8 I hp
  refine ⟨_::fs,.cons (kp _ _ h1) h2 h3 rfl k1,by rw [AY,k2,AY],fun v hv=>?_⟩
  rcases AU.mp hv with rfl|hv
  ·exact ⟨_,_,rfl⟩
  ·exact k3 v hv
def Amx (K:KKf):ID→Hp→VK→Prop:=fun xs H Q=>match xs with
 |[.ref l]=>∃(vs:ID) (ps:List (Int×Int)),A1 K H l vs∧Ax (X9 H) vs ps∧ps.length<64∧(∀q∈ps,0≤q.2∧q.2<64)∧∀D p,H D=none→Jr (kP ps) ps.length p→Q (.ref D) (upd H D (.lst (p.map fun i=>vs.getD i .non)))
 |_=>False
theorem Ajd:Cy X (.builtin "sorted") (Amx X.K):=by
 intro pins s σ H xs us Q I r h
 match xs,h with
 | [.ref l],⟨vs,ps,hq,al,hn,hb,q⟩=>
  obtain ⟨u,rfl,ru⟩:=r.one
  cases (show u=Value.ref l from ru)
  obtain ⟨its,rv,⟨oL,nL,eL,cL,dL,xL⟩,hz⟩:=I.list hq
  have hl:its.length=ps.length:=by rw [←rv.length,al.len]
  have hv:vs.length=ps.length:=al.len
  have at':∀i,i<ps.length→∃p,its.getD i Value.none=.ref p∧H p=some (.tup [.int (ps.getD i (0,0)).1,.int (ps.getD i (0,0)).2])∧ps.getD i (0,0)∈ps:=fun i hi=>by
   have hi':i<vs.length:=by omega
   obtain ⟨g,hg,p,e,hp⟩:=al.get (AD hi')
   obtain ⟨v,hv,rv'⟩:=rv.get (show vs[i]? =some (.ref p) by rw [AD hi',e])
   cases rv'
   have e0:ps.getD i (0,0)=g:=by rw [BF,hg];rfl
   rw [e0]
   exact ⟨p,by rw [BF,hv];rfl,hp,BH hg⟩
  refine Aql (key:=kP ps) (vs:=its) ⟨oL,eL,cL,nL,xL⟩ (by omega) (tuples' true) (fun h' kp Q' h2 q'=>?_) (fun h' kp i j hi hj C hC=>?_) (fun p hp=>?_)
  ·obtain ⟨fs,k1,k2,k3⟩:=Abc I kp rv al
   refine kat_kind (s:={ s with heap:=h' }) (T:=.type "int") k1 (by omega) (fun v hv=>?_) rfl q'
   obtain ⟨x,t,rfl⟩:=k3 v hv
   exact fun A Q E s _ q=>AC q
  ·obtain ⟨p,ep,hp,mp⟩:=at' i (by omega)
   obtain ⟨p2,ep2,hp2,mp2⟩:=at' j (by omega)
   obtain ⟨o,t1,t2,k,h1,h2,h3⟩:=Af8 I hp
   obtain ⟨o',u1,u2,k',g1,g2,g3⟩:=Af8 I hp2
   have b1:=hb _ mp
   have b2:=hb _ mp2
   unfold kP at hC
   generalize ps.getD i (0,0)=g at *
   generalize ps.getD j (0,0)=g' at *
   unfold kas_ask
   rw [ep,ep2]
   refine kat_lt (s:={ s with heap:=h' }) (kp _ _ h1) h3 (kp _ _ g1) g3 (kat_cons ?_)
   refine SeqAt.EqAt.int_int g.1 t1 g'.1 u1 _ _ _ _ (kat_go (fun c=>?_) (fun c=>?_))
   rotate_left
   ·have c:¬g.1=g'.1:=by simpa using c
    rw [show decide (g.1*64+g.2<g'.1*64+g'.2)=decide (g.1<g'.1) from FV.mpr (by omega)] at hC
    exact kat_no (oneLt_int hC)
   have c:g.1=g'.1:=by simpa using c
   rw [show decide (g.1*64+g.2<g'.1*64+g'.2)=decide (g.2<g'.2) from FV.mpr (by omega)] at hC
   refine kat_yes (kat_cons (SeqAt.EqAt.int_int g.2 t2 g'.2 u2 _ _ _ _ (kat_go (fun c=>?_) (fun c=>?_))))
   rotate_left
   ·exact kat_no (kat_one _ _ (lt_int hC))
   refine kat_yes (kat_nil ?_)
   have c:g.2=g'.2:=by simpa using c
   rw [BC (show ¬g.2<g'.2 by omega)] at hC
   exact hC
  ·have lt:∀i∈p,i<vs.length:=fun i hi=>by
    have:=hp.2.1 i hi
    omega
   obtain ⟨n,hr⟩:=sortedAll_at s.heap its (List.toArray (Hv its p))
   have vv:=Pp rv lt
   have I2:=I.laid (t':=s.toks) (h':=sortedAll s.heap its (List.toArray (Hv its p))) (a:=s.heap.objs.size+1) (o:=.lst (p.map fun i=>vs.getD i .non)) (fun b u e=>sortedAll_old e) (CU _) ⟨by rw [AE,hp.1];exact AO (show its.length≤64 by omega) (by decide),(List.toArray (Hv its p)).toList,n,vv,by rw [hr]⟩
   rw [hl] at hp
   exact ⟨.ref (s.heap.objs.size+1),_,I2,rfl,q _ _ (I.hok.fresh (CU _)) hp⟩
end
end Lw
end
section
set_option autoImplicit false
namespace Lw
open PySem PySem.Spec PyProof.Rows L2 PySem.StrLaws
theorem Wl (y a b:Str)(r:HW):co (Str.join y (a::b::r))=co a++(co y++co (Str.join y (b::r))):=by
 show co (a++y++Str.join y (b::r))=_
 rw [Bp,Bp,CO]
def Rt:Str:=⟨#[59,32]⟩
end Lw
end
section
namespace Lw
open PySem PySem.Spec PyProof.Rows L2
theorem Am9:typeLookup (.type "list_reverseiterator") "__len__"=pure none:=by rw [HJ,FR];kernel_rfl
theorem Aiw:typeLookup (.type "list_reverseiterator") "__length_hint__"=pure (some (.builtin "list_reverseiterator.__length_hint__")):=by rw [HJ,FR];kernel_rfl
section
variable {prog:HU}{w:HV}{A:HS}{E:HP→HQ→Prop}{s:HQ}
theorem Aio {it l:HR}{i:Int}{Q:Bool→HQ→Prop}(h:s.heap.IsRevIter it l i)(q:Q false s):wpAny (model prog w) A (Builtin.List.listLengthHint (.ref it)) Q E s:=by
 unfold Builtin.List.listLengthHint
 refine AA (HF h.typeIs Am9 ?_)
 wp_delta
 refine AA (HF h.typeIs Aiw ?_)
 generalize hid:("list_reverseiterator.__length_hint__":String)=id0
 wp_delta
 rw [show splitId id0=some ("list_reverseiterator","__length_hint__") from by subst hid;decide +kernel]
 subst hid
 refine AA (EU (T:="list_reverseiterator") (b:=true) h.typeIs (by rw [isSubtype_type];kernel_rfl) ?_)
 refine HM (fun hab=>absurd hab (by decide)) (fun _=>?_)
 refine HM (fun _=>?_) (fun hab=>absurd (by decide +kernel) hab)
 refine HM (fun hab=>absurd hab (by decide +kernel)) (fun _=>?_)
 exact AC q
theorem Aie {it l:HR}{items:Array HP}{R:Result→HQ→Prop}(hh:A.handled=none)(hne:l≠it)(h:s.heap.IsRevIter it l ((items.size:Int)-1))(hl:s.heap.IsList l items)(hn:items.size≤sizeLine)
  (D:HR) (res:HP) (c:Nat) (hD:s.heap.get? D=some { cls:=.type "list",data:=.seq #[] c }) (nl:D≠l)
  (q:∀g tk acc c',(∀b o,b≠D→b≠it→s.heap.get? b=some o→g.get? b=some o)→g.get? D=some { cls:=.type "list",dict:=none,data:=.seq acc c',slots:=#[] } →
   ItemsOf (fun i v=>items[items.size-1-i]? =some v) acc items.size→R (.ok (.ret res)) { s with heap:=g,toks:=tk }) :
  wpAny (model prog w) A.in1 (Builtin.List.listExtendWith (.ref D) (.ref it) res)
   (fun fin s'=>match fin with|.done f=>R (.ok f) s'|.again c'=>c'.quiet=true∧codeAny (model prog w) A c' R s') (fun e s'=>R (.error e) s') s:=by
 have ni:D≠it:=fun e=>by
  obtain ⟨o,ho,hc,_⟩:=h
  rw [←e,hD] at ho
  cases ho
  exact absurd (show Value.type "list"=Value.type "list_reverseiterator" from hc) (by decide)
 unfold Builtin.List.listExtendWith
 refine AA (wpAny_typeOf (T:="list_reverseiterator") h.typeIs ?_)
 have e1:Builtin.List.listSameRef (.ref D) (.ref it)=false:=by simp [Builtin.List.listSameRef,ni]
 have e2:(Value.type "list_reverseiterator"==Value.type "list")=false:=by decide
 have e3:(Value.type "list_reverseiterator"==Value.type "tuple")=false:=by decide
 simp only [e1,e2,e3,Bool.or_false,BL,DE]
 refine AA (wpAny_pyIter_revIter h (AA (CT (Aio h ?_))))
 refine HM (fun hab=>absurd hab (by decide +kernel)) (fun _=>?_)
 have W:=(Walks.listRev (prog:=prog) (w:=w) (A:=A.in1) hh it l hne items).toS
 have dn:D∉[it,l]:=fun m=>by
  rcases AU.mp m with e|m
  ·exact ni e
  ·exact nl (AW.mp m)
 refine AC ⟨FX F.plain_extend_loop _,codeAny_extend_loopS W hn D dn res items.size 0 _ #[] c rfl (AV _) ⟨AV _,by simpa using h,hl⟩ hD (ItemsOf.nil _) fun s' acc c' hm hS' hacc=>?_⟩
 rw [Moved.eq_with hm]
 exact q s'.heap s'.toks acc c' (fun b o n1 n2 e=>hm.heap b o (fun m=>by
  rcases AU.mp m with e'|m
  ·exact n1 e'
  ·exact n2 (AW.mp m)) e) hS' hacc
theorem Aj5 {it l:HR}{items:Array HP}{Q:HP→HQ→Prop}(hh:A.handled=none)(hne:l≠it)(h:s.heap.IsRevIter it l ((items.size:Int)-1))(hl:s.heap.IsList l items)(hn:items.size≤sizeLine)
  (q:∀g tk acc c',(∀b o,b≠it→s.heap.get? b=some o→g.get? b=some o)→g.get? s.heap.objs.size=some { cls:=.type "list",dict:=none,data:=.seq acc c',slots:=#[] } →
   ItemsOf (fun i v=>items[items.size-1-i]? =some v) acc items.size→Q (.ref s.heap.objs.size) { s with heap:=g,toks:=tk }) :
  wpAny (model prog w) A (call (.type "list") [.ref it]) Q E s:=by
 refine callType_codes (Q₁:=fun obj s₁=>obj=.ref s.heap.objs.size∧s₁={ s with heap:=s.heap.push { cls:=.type "list",data:=.seq #[] } }) F.called_list (F.typeCall_list_1 _) F.entry_list_init (code_list_new _ ⟨rfl,rfl⟩) ?_
 rintro obj s₁ ⟨rfl,rfl⟩
 have hD:(s.heap.push { cls:=.type "list",data:=.seq #[] }).get? s.heap.objs.size=some { cls:=.type "list",data:=.seq #[] }:=AG _ rfl
 refine ⟨⟨_,hD,rfl⟩,F.args_list_init_2 _ _,?_⟩
 show wpAny _ _ (Builtin.List.listItems (.ref s.heap.objs.size) >>= _) _ _ _
 unfold Builtin.List.listItems
 refine AA (AA (CV hD rfl (AC ?_)))
 show wpAny _ _ (updateSeq s.heap.objs.size (fun _=>#[]) >>= _) _ _ _
 refine AA (HK hD rfl ?_)
 refine AA (wpAny_letGo ?_)
 have hD2:=CA (Obj.mapSeq (fun _=>(#[]:Array HP))) hD rfl
 have oth:∀b o,s.heap.get? b=some o→((s.heap.push { cls:=.type "list",data:=.seq #[] }).update s.heap.objs.size (Obj.mapSeq (fun _=>(#[]:Array HP)))).get? b=some o:=
  fun b o e=>(DZ _ _ (CQ (AH e))).trans (AB _ e)
 obtain ⟨ol,el,rl⟩:=id hl
 refine Aie (A:=A.in1) hh hne (h.at fun o e=>oth _ o e) (hl.at fun o e=>oth _ o e) hn _ .none _ hD2 (CQ (AH el)) fun g tk acc c' k e i=>?_
 exact ⟨rfl,q g tk acc c' (fun b o n e=>k b o (AS (AH e)) n (oth b o e)) e i⟩
end
theorem Adn {its acc:HY}(h:ItemsOf (fun i v=>its.toArray[its.toArray.size-1-i]? =some v) acc.toArray its.toArray.size):acc=its.reverse:=by
 have hl:acc.length=its.length:=by simpa using h.1
 refine GX fun i=>?_
 by_cases hi:i<its.length
 ·have e:acc[i]? =some (acc[i]'(by omega)):=AD (by omega)
  have:=h.2 i _ (show acc.toArray[i]? =some (acc[i]'(by omega)) by rw [FQ];exact e)
  rw [e,List.getElem?_reverse hi]
  simpa using this.symm
 ·rw [DB (by omega),DB (by rw [List.length_reverse];omega)]
def Arx (K:KKf)(ta:TA):TE:=fun σ H Q=>ta σ H fun vs H1=>match vs with
 |[.ref a]=>∃xs:ID,A1 K H1 a xs∧∀D H',Ag H1 H'→H1 D=none→H' D=some (.lst xs.reverse)→Q (.ref D) H'
 |_=>False
section
variable {X:Cx}
theorem Aji {a:Expr}{ta:TA}{p p2 pos pos2:Pos}(hg:Gl X "list")(hm:X.mg "list"=none)(hg2:Gl X "reversed")(hm2:X.mg "reversed"=none)(ha:PA X [a] ta)(hcalm:X.calm=true)
  (hs:starEach [a] X.env=[(false,eval a X.env)]:=by rfl) :
  PE X (.Call (.Name "list" p) [.Call (.Name "reversed" p2) [a] [] pos2] [] pos) (Arx X.K ta):=by
 intro pins s σ H Q I h
 refine Call_ (Ez I hg hm PyProof.Rows.boot_list (BX ?_))
 refine DC ?_
 refine Call_ (Ez I hg2 hm2 PyProof.Rows.boot_reversed (BX (Bi (ha pos2 pins s σ H _ I h) fun us s1 ⟨vs,H1,I1,r1,q1⟩=>?_) (by rw [hs];rfl) (by rfl)))
 match vs,q1 with
 | [.ref l],⟨xs,hx,q⟩=>
  obtain ⟨u,rfl,e1⟩:=Fw r1
  cases (show u=Value.ref l from e1)
  obtain ⟨its,rv,pl,hz⟩:=I1.list hx
  have hl:=pl.isList
  have hlen:=rv.length
  obtain ⟨ol,el,rl⟩:=id hl
  have lt:@LT.lt Nat _ l s1.heap.objs.size:=AH el
  refine call_reversed_list hl (DH ?_)
  refine Aj5 (s:={ s1 with heap:=s1.heap.push (revObj l ((its.toArray.size:Int)-1)) }) (I1.ok.hd hcalm) (AS lt) ⟨_,AG _ rfl,rfl,rfl⟩ (hl.at fun o e=>AB _ e) (by simp only [AR];omega) fun g tk acc c' k e i=>?_
  have ea:acc.toList=its.reverse:=Adn i
  have sz:(s1.heap.push (revObj l ((its.toArray.size:Int)-1))).objs.size=s1.heap.objs.size+1:=size_push' _ _
  have hD:H1 (s1.heap.objs.size+1)=none:=I1.hok.fresh (CU _)
  rw [sz] at e ⊢
  refine ⟨.ref (s1.heap.objs.size+1),_,I1.laid (a:=s1.heap.objs.size+1) (o:=.lst xs.reverse) (t':=tk) (fun b o eb=>?_) (CU _) (show Bf X.prog X.w _ g _ (.lst xs.reverse) from ⟨by rw [List.length_reverse];exact hz,its.reverse,c',W9 rv,?_⟩),rfl,q _ _ (An hD) hD Ad⟩
  ·have lb:@LT.lt Nat _ b s1.heap.objs.size:=AH eb
   exact k b o (AS lb) (AB _ eb)
  ·rw [e,←ea]
end
end Lw
end
set_option maxHeartbeats 0
set_option exponentiation.threshold 5000
namespace My
open PySem PySem.Spec PyProof.Rows L2 Lw
local macro_rules | `(tactic| walk_at "hp")=>`(tactic| first | assumption | (refine sm_at (by assumption) ?_; walk_at "hp") | (refine sm_sq (by assumption) ?_; walk_at "hp") | (refine Fq.up (by assumption) ?_; walk_at "hp") | (refine Pq.up (by assumption) ?_; walk_at "hp"))
def C6 (i:Nat):Stmt:=PySem.Challenge.pw_ladderworth_k87_whole_put_and_taken_at_t.main.body.getD i (.Pass ⟨0,0,0,0⟩)
abbrev K7:Stmt:=C6 13
abbrev Kb:Stmt:=C6 14
abbrev Dk:Stmt:=C6 15
abbrev Z4:Stmt:=C6 16
abbrev Um:Stmt:=C6 17
abbrev Th:Stmt:=C6 20
abbrev Y9:Stmt:=C6 28
abbrev Gv:Stmt:=C6 29
abbrev M5:Stmt:=C6 30
abbrev Ik:Stmt:=C6 32
abbrev Ji:Stmt:=C6 33
abbrev Gw:Stmt:=C6 34
abbrev Jg:Stmt:=C6 35
abbrev Mm:Stmt:=C6 36
abbrev Jo:Stmt:=C6 37
abbrev Nv:Stmt:=C6 38
abbrev G9:Stmt:=C6 43
abbrev Jf:Stmt:=C6 44
abbrev Di:Stmt:=C6 45
abbrev Nh:Stmt:=C6 46
abbrev Ui:Stmt:=C6 95
abbrev Jd:Stmt:=C6 96
abbrev Ga:Stmt:=C6 97
abbrev Z6:Stmt:=C6 98
abbrev Nu:Stmt:=C6 99
abbrev D6:Stmt:=Dw (C6 101) 0
abbrev G4:Stmt:=Dw (C6 101) 1
abbrev F6:Stmt:=Dw (C6 101) 2
abbrev Fp:Stmt:=Dw (C6 101) 3
abbrev E1:Stmt:=Dw (C6 101) 4
abbrev Nj:Stmt:=C6 102
abbrev Ql:Stmt:=C6 103
abbrev Ki:Stmt:=C6 112
abbrev P1:Stmt:=C6 113
abbrev Nd:Stmt:=C6 114
abbrev Ke:Stmt:=C6 115
abbrev Mu:Stmt:=C6 116
abbrev Fe:Stmt:=C6 117
abbrev E4:Stmt:=Dw (C6 118) 0
abbrev Ip:Stmt:=Dw (C6 118) 1
abbrev Kr:Stmt:=Dw (C6 118) 2
abbrev Ih:Stmt:=Dw (C6 118) 3
abbrev Jp:Stmt:=C6 119
abbrev Ey:Stmt:=C6 122
abbrev F9:Stmt:=C6 123
abbrev Ka:Stmt:=C6 133
abbrev Io:Stmt:=C6 136
abbrev Jm:Stmt:=C6 137
abbrev Ff:Stmt:=C6 144
abbrev Gz:Stmt:=C6 146
abbrev Ex:Stmt:=Dw (C6 149) 0
abbrev Kf:Stmt:=Dw (C6 149) 1
abbrev Fl:Stmt:=C6 150
abbrev G7:Stmt:=C6 151
abbrev Iu:Stmt:=C6 153
abbrev Mz:Stmt:=C6 154
abbrev Te:Stmt:=C6 155
abbrev Jj:Stmt:=C6 156
abbrev M8:Stmt:=C6 157
abbrev Jl:Stmt:=C6 158
abbrev Iw:Stmt:=C6 159
abbrev Tj:Stmt:=C6 160
abbrev Mo:Stmt:=C6 161
abbrev G8:Stmt:=C6 162
abbrev K6:Stmt:=C6 163
abbrev J5:Stmt:=C6 164
structure Aqn (K:KKf)(mg:Str→IA)(aL aM a8 bh bj eO ai:HR):Prop where
 b_Desk:mg "Desk"=some (.ref aL)
 b_LadderError:mg "LadderError"=some (.ref aM)
 b_Ledger:mg "Ledger"=some (.ref a8)
 b_NoBook:mg "NoBook"=some (.ref bh)
 b_NoGame:mg "NoGame"=some (.ref bj)
 b_NoRow:mg "NoRow"=some (.ref eO)
 b_Rule:mg "Rule"=some (.ref ai)
 y_NoBook:PySem.W.nsIn K mainGlobals "NoBook"=some (some (.ref bh))
 y_NoGame:PySem.W.nsIn K mainGlobals "NoGame"=some (some (.ref bj))
 x_LadderError:Af4 K aM
 x_NoBook:Af4 K bh
 x_NoGame:Af4 K bj
 km_NoBook_NoBook:PySem.W.mroIn K bh (.ref bh)=some true
 kn_NoGame_NoBook:PySem.W.mroIn K bj (.ref bh)=some false
 km_NoGame_NoGame:PySem.W.mroIn K bj (.ref bj)=some true
 y_Desk:PySem.W.nsIn K mainGlobals "Desk"=some (some (.ref aL))
 l_Desk:Ox K aL
 m_Desk:MkC K aL
 na_Desk_ledger:NoAttr K aL "ledger"
 na_Desk_told:NoAttr K aL "told"
 y_Ledger:PySem.W.nsIn K mainGlobals "Ledger"=some (some (.ref a8))
 l_Ledger:Ox K a8
 m_Ledger:MkC K a8
 na_Ledger_kept:NoAttr K a8 "kept"
 na_Ledger_last:NoAttr K a8 "last"
 na_Ledger_rule:NoAttr K a8 "rule"
 y_Rule:PySem.W.nsIn K mainGlobals "Rule"=some (some (.ref ai))
 l_Rule:Ox K ai
 m_Rule:MkC K ai
 na_Rule_first:NoAttr K ai "first"
 na_Rule_step:NoAttr K ai "step"
 na_Rule_table:NoAttr K ai "table"
 z_NoBook:PySem.W.excIn K bh vB "ValueError.__new__"=true
 z_NoGame:PySem.W.excIn K bj vB "ValueError.__new__"=true
section
variable {P:HU}{w:HV}{K:KKf}{mg:Str→IA}{base:Heap}{ns:HX}
variable {aL aM a8 bh bj eO ai:HR}{bV:HR}{bo:HR}{eQ:HR}{aQ:HR}{bW:HR}{aR:HR}{bX:HR}{aS:HR}{bY:HR}{aU:HR}{bZ:HR}{aV:HR}{c5:HR}{c6:HR}{bx:HR}{dB:HR}{cW:HR}{dC:HR}{c7:HR}{aw:HR}{ax:HR}{bc:HR}{c8:HR}{bN:HR}{bO:HR}{aa:HR}{bA:HR}{aE:HR}{ah:HR}{aH:HR}{au:HR}{bB:HR}{bC:HR}{aJ:HR}
--@thinall
theorem nb {P:Prop}{a b:Bool}(h:a=b)(n:(a==b)=false:=by rfl):P:=by
 subst h
 rw [beq_self_eq_true] at n
 cases n
def wh:V→Bool
 |.int _=>true
 |_=>false
def Kd (H:Hp):V→Prop
 |.int _=>True
 |.bl _=>True
 |.non=>True
 |.str _=>True
 |.ref p=>∃u t,H p=some u∧An4 u=some t∧tyB t "int"=some false
 |_=>False
theorem Kd.up {H H':Hp}(s:Ag H H'):∀{v:V},Kd H v→Kd H' v
 |.int _,h=>h
 |.bl _,h=>h
 |.non,h=>h
 |.str _,h=>h
 |.ref p,⟨u,t,h1,h2⟩=>⟨u,t,s _ _ h1,h2⟩
 |.flt _,h=>h.elim
 |.byt _,h=>h.elim
 |.ty _,h=>h.elim
def ExN (K:KKf)(x:Str)(E:XK)(H:Hp):Prop:=∀C,PySem.W.nsIn K mainGlobals x=some (some (.ref C))→E (.ref C) none H
def Im (K:KKf)(ns:HX):Sp:=fun vs H Q _=>match vs with
 |[v]=>Kd H v∧Q (.bl (wh v)) H
 |_=>False
local macro_rules | `(tactic| trivial)=>`(tactic| first | exact .inl rfl | exact .inr rfl | assumption)
theorem C5 {N P:HW}{sc:Scope}(a:sc.kind=.function:=by rfl)(b:sc.isCoroutine=false:=by rfl)(c:sc.isGenerator=false:=by rfl)(d:N.Nodup:=by decide +kernel)(e:N.take P.length=P:=by rfl)(f:∀x∈P,sc.names.lookup x=some .local∨sc.names.lookup x=some .cell:=by decide +kernel)(g:∀y∈sc.names,y.2≠.free:=by decide +kernel):Ah N P sc:=⟨a,b,c,d,e,f,g⟩
variable (er:Aqn K mg aL aM a8 bh bj eO ai)(fB:mg "abs"=none)(eo:mg "all"=none)(fw:mg "bool"=none)(cX:mg "int"=none)(a6:mg "isinstance"=none)(ak:mg "len"=none)(aO:mg "list"=none)(gu:mg "max"=none)(fC:mg "min"=none)(bP:mg "range"=none)(bU:mg "reversed"=none)(eN:mg "set"=none)(aq:mg "sorted"=none)(aX:mg "str"=none)(eC:mg "tuple"=none)(fD:mg "zip"=none)
theorem Wu:Ah ["thing"] ["thing"] (Ac K7):=C5
include er a6 fw cX in
theorem W4 (d:Bj K mg "is_whole" K7 ["thing"]):A9 P w K mg base "is_whole" ["thing"] 1 (Im K ns):=by
 refine d.cal (k:=0) Wu (fun vs H Q E h=>?_) (fun f cdv A outer s H vs Q E hr h=>?_)
 ·match vs,h with
  |[_],_=>rfl
 ·refine ⟨_,(@A5 _ _ _ _ (@Ss _ _ _ _ _ _ _ (@Ao _ _ _ _ _ _ _ _ _ S5 a6 (by decide +kernel) (@Aj _ _ _ _ _ (dv 0) (@Ba _ _ _ (Aah "int" (by rfl) cX (by decide +kernel)) (by rfl)) (by rfl)) (by trivial)) (@Nc _ _ _ _ _ (@Akq _ _ _ _ (@Ao _ _ _ _ _ _ _ _ _ S5 a6 (by decide +kernel) (@Aj _ _ _ _ _ (dv 0) (@Ba _ _ _ (Aah "bool" (by rfl) fw (by decide +kernel)) (by rfl)) (by rfl)) (by trivial)))))),?_⟩
  match vs,h with
  |[.int _],⟨_,q⟩=>exact ⟨true,rfl,fun _=>⟨false,rfl,q⟩,fun h=>absurd h (by decide)⟩
  |[.bl _],⟨_,q⟩=>exact ⟨true,rfl,fun _=>⟨true,rfl,q⟩,fun h=>absurd h (by decide)⟩
  |[.non],⟨_,q⟩=>exact ⟨false,rfl,fun h=>absurd h (by decide),fun _=>q⟩
  |[.str _],⟨_,q⟩=>exact ⟨false,rfl,fun h=>absurd h (by decide),fun _=>q⟩
  |[.ref _],⟨⟨u,t,h1,h2,h3⟩,q⟩=>exact ⟨u,false,t,h1,h2,h3,fun h=>absurd h (by decide),fun _=>q⟩
  |[.flt _],⟨z,_⟩=>exact z.elim
  |[.byt _],⟨z,_⟩=>exact z.elim
  |[.ty _],⟨z,_⟩=>exact z.elim
--@words TEXT_ROWS put
--@words WORD_ROWS take book running
def E6 (K:KKf)(ns:HX):Sp:=fun vs H Q _=>match vs with
 |[.int x,.int y]=>Q (.int (Int.gcd x y:Int)) H
 |_=>False
theorem Acr {vs:ID}{F:Int→Int→Prop}(h:match vs with|[.int x0,.int x1]=>F x0 x1|_=>False):∃x0 x1,vs=[.int x0,.int x1]∧F x0 x1:=by
 match vs,h with
 |[.int x0,.int x1],h=>exact ⟨_,_,rfl,h⟩
theorem Ca:Ah ["one","other","rest"] ["one","other"] (Ac Dk):=C5
include er fB in
theorem J1 (d:Bj K mg "greatest_divisor" Dk ["one","other"]):A9 P w K mg base "greatest_divisor" ["one","other"] 1 (E6 K ns):=by
 refine d.cal (k:=0) Ca (fun vs H Q E hq0=>?_) (fun f cdv A outer s H vs Q E hr hq0=>?_)
 ·obtain ⟨_,_,rfl,_⟩:=Acr hq0
  rfl
 ·obtain ⟨x,y,rfl,q⟩:=Acr hq0
  refine ⟨_,(@Aa _ _ _ _ _ (@Aby _ _ _ _ _ _ DJ (@Bl _ _ _ _ _ _ _ _ Ad5 (dv 1) Ae (Ay _)) (@Aa _ _ _ _ _ (@Ak _ _ _ (2) _ _ _ Ca.nd (@Al _ _ _ _ _ _ _ _ An8 (dv 0) (dv 1)) (by trivial)) (@Aa _ _ _ _ _ (@Ak _ _ _ (0) _ _ _ Ca.nd (dv 1) (by trivial)) (@Ar _ _ _ (@Ak _ _ _ (1) _ _ _ Ca.nd (dv 2) (by trivial)))))) (@A5 _ _ _ _ (@Ao _ _ _ _ _ _ _ _ _ Aku fB (by decide +kernel) (@Ba _ _ _ (dv 0) (by rfl)) (by trivial)))),?_⟩
  refine ⟨fun m σ H'=>∃a b o,σ=[some (.int a),some (.int b),o]∧H'=H∧Int.gcd a b=Int.gcd x y∧m=b.natAbs,⟨_,x,y,none,rfl,rfl,rfl,rfl⟩,?_⟩
  rintro m σ H' ⟨a,b,o,rfl,rfl,g,rfl⟩
  refine ⟨fun h=>?_,fun h=>?_⟩
  ·have hb:¬b=0:=by simpa using h
   refine ⟨hb,?_⟩
   exact ⟨(a.fmod b).natAbs,Aii a hb,b,a.fmod b,_,rfl,rfl,by rw [Ae9,g],rfl⟩
  ·have hb:b=0:=by simpa using h
   subst hb
   have e:(Int.gcd x y:Int)=(a.natAbs:Int):=by
    rw [←g,Int.gcd_zero_right]
   have q:Q (.int (Int.gcd x y:Int)) H':=q
   rw [e] at q
   exact q
def Ep (K:KKf)(ns:HX):Sp:=fun vs H Q _=>match vs with
 |[.int t,.int b]=>(b≠0∧Bd 4000 b)∧∀p H',Ag H H'→Adl H' p t b→Q (.ref p) H'
 |_=>False
theorem Ja:Ah ["top","bottom","divisor"] ["top","bottom"] (Ac Kb):=C5
include er in
theorem Yc (d:Bj K mg "fraction" Kb ["top","bottom"])  (bp:A9 P w K mg base "greatest_divisor" ["one","other"] 1 (E6 K ns))(bD:A9 P w K mg base "is_whole" ["thing"] 1 (Im K ns)):A9 P w K mg base "fraction" ["top","bottom"] 2 (Ep K ns):=by
 refine d.cal (k:=1) Ja (fun vs H Q E hq0=>?_) (fun f cdv A outer s H vs Q E hr hq0=>?_)
 ·obtain ⟨_,_,rfl,_⟩:=Acr hq0
  rfl
 ·obtain ⟨t,b,rfl,⟨⟨b0,b1⟩,q⟩⟩:=Acr hq0
  refine ⟨_,(@Aa _ _ _ _ _ (@B6 _ _ _ _ _ _ _ _ (@L2.PW.pt _ _ _ (@Os _ _ _ _ _ _ _ (@Bu _ _ _ _ (@Cc _ _ _ (@Af _ _ _ _ _ _ _ _ _ _ _ bD hr (@Ba _ _ _ (dv 0) (by rfl)) (by trivial)) (by intro _;rfl))) (@F8 _ _ _ _ (@Bu _ _ _ _ (@Cc _ _ _ (@Af _ _ _ _ _ _ _ _ _ _ _ bD hr (@Ba _ _ _ (dv 1) (by rfl)) (by trivial)) (by intro _;rfl)))))) (@Ar _ _ _ Cq) Av) (@Aa _ _ _ _ _ (@B6 _ _ _ _ _ _ _ _ (@Bl _ _ _ _ _ _ _ _ Gu (dv 1) Ae (Ay _)) (@Ar _ _ _ Cq) Av) (@Aa _ _ _ _ _ (@Ak _ _ _ (2) _ _ _ Ja.nd (@Af _ _ _ _ _ _ _ _ _ _ _ bp hr (@Aj _ _ _ _ _ (dv 0) (@Ba _ _ _ (dv 1) (by rfl)) (by rfl)) (by trivial)) (by trivial)) (@Aa _ _ _ _ _ (@B6 _ _ _ _ _ _ _ _ (@Bl _ _ _ _ _ _ _ _ Xi (dv 1) Ae (Ay _)) (@Ar _ _ _ (@Ak _ _ _ (2) _ _ _ Ja.nd (@Le _ _ _ _ _ _ Mj (dv 2)) (by trivial))) Av) (@A5 _ _ _ _ (@B8 _ _ _ _ _ (@Ab _ _ _ _ _ (@Al _ _ _ _ _ _ _ _ Ahq (dv 0) (dv 2)) (@Ab _ _ _ _ _ (@Al _ _ _ _ _ _ _ _ Ahq (dv 1) (dv 2)) Ai (by rfl)) (by rfl)))))))),?_⟩
  refine ⟨⟨⟩,⟨fun h=>nb h,fun _=>⟨⟨⟩,⟨fun h=>nb h,fun _=>?_⟩⟩⟩⟩
  refine ⟨fun h=>absurd (AZ h) b0,fun _=>?_⟩
  have d0:=Alf t b0
  have d1:=Alq t b0 b1
  have e1:=Anw t b0
  have e2:=Am8 t b0
  refine ⟨fun h=>?_,fun h=>?_⟩
  ·have h:=AZ h
   have e:dvs t b=-(Int.gcd t b:Int):=AN h
   rw [e] at d0 d1 e1 e2
   refine ⟨⟨d0,d1⟩,⟨⟨d0,d1⟩,fun p H' s z=>q p H' s ⟨?_⟩⟩⟩
   dsimp only at z
   rw [e1,e2] at z
   exact z
  ·have h:=BM h
   have e:dvs t b=(Int.gcd t b:Int):=AI h
   rw [e] at d0 d1 e1 e2
   refine ⟨⟨d0,d1⟩,⟨⟨d0,d1⟩,fun p H' s z=>q p H' s ⟨?_⟩⟩⟩
   dsimp only at z
   rw [e1,e2] at z
   exact z
theorem Cd {H H':Hp}{D:HR}(s:Ag H H')(h:H' D=none):H D=none:=by
 cases e:H D with
 |none=>rfl
 |some o=>
  rw [s _ _ e] at h
  cases h
theorem Yd {α:Type}{xs:List α}{v:α}(h:xs.getLast? =some v):Q4 xs (-1)=some v:=by
 have h0:xs≠[]:=fun e=>by simp [e] at h
 have hl:0<xs.length:=List.length_pos_iff.mpr h0
 unfold Q4 ixN
 rw [AI (by decide),AN (by omega)]
 show xs[(xs.length+(-1:Int)).toNat]? =some v
 rw [show (xs.length+(-1:Int)).toNat=xs.length-1 by omega,←h,List.getLast?_eq_getElem?]
def btw (v:V)(lo hi:Int):Bool:=match v with
 |.int i=>decide (lo≤i)&&decide (i≤hi)
 |_=>false
def El (K:KKf)(ns:HX):Sp:=fun vs H Q _=>match vs with
 |[v,.int lo,.int hi]=>Kd H v∧Q (.bl (btw v lo hi)) H
 |_=>False
theorem Akp {vs:ID}{F:V→Int→Int→Prop}(h:match vs with|[x0,.int x1,.int x2]=>F x0 x1 x2|_=>False):∃x0 x1 x2,vs=[x0,.int x1,.int x2]∧F x0 x1 x2:=by
 match vs,h with
 |[x0,.int x1,.int x2],h=>exact ⟨_,_,_,rfl,h⟩
theorem Rg:Ah ["thing","least","most"] ["thing","least","most"] (Ac Gv):=C5
include er in
theorem Rc (d:Bj K mg "is_between" Gv ["thing","least","most"])  (bD:A9 P w K mg base "is_whole" ["thing"] 1 (Im K ns)):A9 P w K mg base "is_between" ["thing","least","most"] 2 (El K ns):=by
 refine d.cal (k:=1) Rg (fun vs H Q E hq0=>?_) (fun f cdv A outer s H vs Q E hr hq0=>?_)
 ·obtain ⟨_,_,_,rfl,_⟩:=Akp hq0
  rfl
 ·obtain ⟨v,lo,hi,rfl,⟨kd,q⟩⟩:=Akp hq0
  refine ⟨_,(@A5 _ _ _ _ (@Ss _ _ _ _ _ _ _ (@Af _ _ _ _ _ _ _ _ _ _ _ bD hr (@Ba _ _ _ (dv 0) (by rfl)) (by trivial)) (@Nc _ _ _ _ _ (@Ah4 _ _ _ _ _ _ _ _ _ _ _ _ Q3 Q3 (dv 1) (dv 0) (dv 2) (by with_unfolding_all rfl))))),?_⟩
  match v,kd,q with
  | .int i,_,q=>
   refine ⟨⟨⟩,⟨fun _=>⟨fun h=>?_,fun h=>?_⟩,fun h=>nb h⟩⟩
   ·have e:btw (.int i) lo hi=decide (i≤hi):=by
     have h:decide (lo≤i)=true:=h
     simp only [btw,h,FF]
    rw [e] at q
    exact q
   ·have e:btw (.int i) lo hi=false:=by
     have h:decide (lo≤i)=false:=h
     simp only [btw,h,ET]
    rw [e] at q
    exact q
  |.bl _,kd,q=>exact ⟨kd,⟨fun h=>nb h,fun _=>q⟩⟩
  |.non,kd,q=>exact ⟨kd,⟨fun h=>nb h,fun _=>q⟩⟩
  |.str _,kd,q=>exact ⟨kd,⟨fun h=>nb h,fun _=>q⟩⟩
  |.ref _,kd,q=>exact ⟨kd,⟨fun h=>nb h,fun _=>q⟩⟩
  |.flt _,kd,_=>exact kd.elim
  |.byt _,kd,_=>exact kd.elim
  |.ty _,kd,_=>exact kd.elim
def K2 (K:KKf)(ns:HX):Sp:=fun vs H Q _=>match vs with
 |[.ref t]=>∃a b,V1 K H t [a,b]∧Q (.bl true) H
 |_=>False
theorem Js {vs:ID}{F:HR→Prop}(h:match vs with|[.ref x0]=>F x0|_=>False):∃x0,vs=[.ref x0]∧F x0:=by
 match vs,h with
 |[.ref x0],h=>exact ⟨_,rfl,h⟩
theorem Yx:Ah ["thing"] ["thing"] (Ac Nd):=C5
include er ak a6 eC in
theorem Zw (d:Bj K mg "is_pair" Nd ["thing"]):A9 P w K mg base "is_pair" ["thing"] 1 (K2 K ns):=by
 refine d.cal (k:=0) Yx (fun vs H Q E hq0=>?_) (fun f cdv A outer s H vs Q E hr hq0=>?_)
 ·obtain ⟨_,rfl,_⟩:=Js hq0
  rfl
 ·obtain ⟨t,rfl,⟨a,b,h,q⟩⟩:=Js hq0
  refine ⟨_,(@A5 _ _ _ _ (@Ss _ _ _ _ _ _ _ (@Ao _ _ _ _ _ _ _ _ _ Al3 a6 (by decide +kernel) (@Aj _ _ _ _ _ (dv 0) (@Ba _ _ _ (Aah "tuple" (by rfl) eC (by decide +kernel)) (by rfl)) (by rfl)) (by trivial)) (@Nc _ _ _ _ _ (@Ck _ _ _ _ _ _ _ _ Gu (@Ao _ _ _ _ _ _ _ _ _ C4 ak (by decide +kernel) (@Ba _ _ _ (dv 0) (by rfl)) (by trivial)) Ae (Ay _))))),?_⟩
  exact ⟨h.isi,rfl,⟨fun _=>⟨_,.inr h.sq,q⟩,fun h=>nb h⟩⟩
theorem Ags {p q:Int}(h:Int.gcd p q=1):M9 p q=p∧K9 p q=q:=by
 unfold M9 K9
 rw [h]
 exact ⟨Int.ediv_one _,Int.ediv_one _⟩
theorem Anp {t b:Int}(hb:0<b):Qz t b=M9 t b∧Oj t b=K9 t b:=by
 unfold Qz Oj
 rw [AI (by omega),AI (by omega)]
 exact ⟨rfl,rfl⟩
def qd (x:Q2):PyData:=.tuple [.int x.1,.int x.2]
theorem Alk (p q:Q2):PyData.eqv (qd p) (qd q)=decide (p=q):=by
 show ((p.1==q.1)&&((p.2==q.2)&&true))=_
 obtain ⟨a,b⟩:=p
 obtain ⟨c,d⟩:=q
 rw [Bool.and_true]
 by_cases h1:a=c<;>by_cases h2:b=d<;>simp [h1,h2]
def Agd (r:Int×Int×Int):Prop:=(0≤r.1∧r.1≤1000000)∧(1≤r.2.2∧r.2.2≤9999∧0≤r.2.1∧r.2.1≤r.2.2∧Int.gcd r.2.1 r.2.2=1)
theorem Aeq {i lo hi:Int}(h0:lo≤i)(h1:i≤hi):btw (.int i) lo hi=true:=by
 simp only [btw,AQ h0,AQ h1,Bool.and_true]
def Of (K:KKf)(ns:HX):Sp:=fun vs H Q _=>match vs with
 |[.ref t]=>∃r:Int×Int×Int,(V1 K H t [.int r.2.1,.int r.2.2]∧Agd r)∧∀H',Ag H H'→Q (.bl true) H'
 |_=>False
theorem Xp:Ah ["thing"] ["thing"] (Ac Ke):=C5
include er in
theorem Xt (d:Bj K mg "is_share" Ke ["thing"])(c9:Gp mg "MOST_PART" (.int (9999)))(az:A9 P w K mg base "fraction" ["top","bottom"] 2 (Ep K ns))(aj:A9 P w K mg base "is_between" ["thing","least","most"] 2 (El K ns))(cK:A9 P w K mg base "is_pair" ["thing"] 1 (K2 K ns)):A9 P w K mg base "is_share" ["thing"] 3 (Of K ns):=by
 refine d.cal (k:=2) Xp (fun vs H Q E hq0=>?_) (fun f cdv A outer s H vs Q E hr hq0=>?_)
 ·obtain ⟨_,rfl,_⟩:=Js hq0
  rfl
 ·obtain ⟨t,rfl,⟨r,⟨e,ok⟩,k⟩⟩:=Js hq0
  refine ⟨_,(@Aa _ _ _ _ _ (@B6 _ _ _ _ _ _ _ _ (@L2.PW.pt _ _ _ (@Os _ _ _ _ _ _ _ (@Bu _ _ _ _ (@Cc _ _ _ (@Af _ _ _ _ _ _ _ _ _ _ _ cK hr (@Ba _ _ _ (dv 0) (by rfl)) (by trivial)) (by intro _;rfl))) (@Os _ _ _ _ _ _ _ (@Bu _ _ _ _ (@Cc _ _ _ (@Af _ _ _ _ _ _ _ _ _ _ _ aj hr (@Aj _ _ _ _ _ (@Em _ _ _ _ _ _ _ (dv 0)) (@Aj _ _ _ _ _ Ae (@Ba _ _ _ (Cp c9 (by rfl)) (by rfl)) (by rfl)) (by rfl)) (by trivial)) (by intro _;rfl))) (@F8 _ _ _ _ (@Bu _ _ _ _ (@Cc _ _ _ (@Af _ _ _ _ _ _ _ _ _ _ _ aj hr (@Aj _ _ _ _ _ (@Em _ _ _ _ _ _ _ (dv 0)) (@Aj _ _ _ _ _ Ae (@Ba _ _ _ (@Em _ _ _ _ _ _ _ (dv 0)) (by rfl)) (by rfl)) (by rfl)) (by trivial)) (by intro _;rfl))))))) (@A5 _ _ _ _ Lc) Av) (@A5 _ _ _ _ (@Ck _ _ _ _ _ _ _ _ (@X4 _ hr.units) (@Af _ _ _ _ _ _ _ _ _ _ _ az hr (@Aj _ _ _ _ _ (@Em _ _ _ _ _ _ _ (dv 0)) (@Ba _ _ _ (@Em _ _ _ _ _ _ _ (dv 0)) (by rfl)) (by rfl)) (by trivial)) (dv 0) (Ay _)))),?_⟩
  obtain ⟨_,o1,o2,o3,o4,og⟩:=ok
  have b1:=Aeq o1 o2
  have b2:=Aeq o3 o4
  refine ⟨_,_,e,⟨fun h=>nb h,fun _=>⟨_,e.sq,⟨⟩,⟨fun h=>?_,fun _=>⟨_,e.sq,_,e.sq,⟨⟩,⟨fun h=>?_,fun _=>?_⟩⟩⟩⟩⟩⟩
  ·rw [b1] at h
   exact nb h
  ·rw [b2] at h
   exact nb h
  refine ⟨_,e.sq,_,e.sq,⟨by omega,Dm (b:=9999) (by omega) (by omega) (A0 rfl)⟩,fun x H' s' f=>⟨qd (Qz r.2.1 r.2.2,Oj r.2.1 r.2.2),qd r.2,.tup (D7.of f.at') (.cons (.int _) (.cons (.int _) .nil)),.tup (Zy s' e.sq) (.cons (.int _) (.cons (.int _) .nil)),rfl,rfl,?_⟩⟩
  obtain ⟨e1,e2⟩:=Anp (t:=r.2.1) (b:=r.2.2) (by omega)
  obtain ⟨e3,e4⟩:=Ags og
  rw [Alk,e1,e2,e3,e4,AQ rfl]
  exact k H' s'
def Gc (K:KKf)(H:Hp)(v:V)(r:Int×Int×Int):Prop:=∃t u,v=.ref t∧V1 K H t [.int r.1,.ref u]∧V1 K H u [.int r.2.1,.int r.2.2]
theorem Dy {K:KKf}(v:V)(r:Int×Int×Int)(H H':Hp)(k:Kt H H')(h:Gc K H v r):Gc K H' v r:=by
 obtain ⟨t,u,e,h1,h2⟩:=h
 exact ⟨t,u,e,h1.up k,h2.up k⟩
def Sv (K:KKf)(ns:HX):Sp:=fun vs H Q _=>match vs with
 |[v]=>∃r,(Gc K H v r∧Agd r)∧∀H',Ag H H'→Q (.bl true) H'
 |_=>False
theorem m_v {vs:ID}{F:V→Prop}(h:match vs with|[x0]=>F x0|_=>False):∃x0,vs=[x0]∧F x0:=by
 match vs,h with
 |[x0],h=>exact ⟨_,rfl,h⟩
theorem Adh:Ah ["thing"] ["thing"] (Ac P1):=C5
include er in
theorem Ac6 (d:Bj K mg "is_row" P1 ["thing"])(cf:Gp mg "LAST_FROM" (.int (1000000)))(eE:A9 P w K mg base "is_share" ["thing"] 3 (Of K ns))(aj:A9 P w K mg base "is_between" ["thing","least","most"] 2 (El K ns))(cK:A9 P w K mg base "is_pair" ["thing"] 1 (K2 K ns)):A9 P w K mg base "is_row" ["thing"] 4 (Sv K ns):=by
 refine d.cal (k:=3) Adh (fun vs H Q E hq0=>?_) (fun f cdv A outer s H vs Q E hr hq0=>?_)
 ·obtain ⟨_,rfl,_⟩:=m_v hq0
  rfl
 ·obtain ⟨v,rfl,⟨r,⟨⟨t,u,ev,h1,h2⟩,ok⟩,k⟩⟩:=m_v hq0
  refine ⟨_,(@A5 _ _ _ _ (@Ss _ _ _ _ _ _ _ (@Af _ _ _ _ _ _ _ _ _ _ _ cK hr (@Ba _ _ _ (dv 0) (by rfl)) (by trivial)) (@Ss _ _ _ _ _ _ _ (@Af _ _ _ _ _ _ _ _ _ _ _ aj hr (@Aj _ _ _ _ _ (@Em _ _ _ _ _ _ _ (dv 0)) (@Aj _ _ _ _ _ Ae (@Ba _ _ _ (Cp cf (by rfl)) (by rfl)) (by rfl)) (by rfl)) (by trivial)) (@Nc _ _ _ _ _ (@Af _ _ _ _ _ _ _ _ _ _ _ eE hr (@Ba _ _ _ (@Em _ _ _ _ _ _ _ (dv 0)) (by rfl)) (by trivial)))))),?_⟩
  subst ev
  have b1:=Aeq ok.1.1 ok.1.2
  refine ⟨_,_,h1,⟨fun _=>⟨_,h1.sq,⟨⟩,⟨fun _=>⟨_,h1.sq,r,⟨h2,ok⟩,k⟩,fun h=>?_⟩⟩,fun h=>nb h⟩⟩
  rw [b1] at h
  exact nb h
def goR (a b:Int×Int×Int):Bool:=decide (a.1<b.1)&&decide (¬b.2.1*a.2.2<a.2.1*b.2.2)
def Jc (K:KKf)(ns:HX):Sp:=fun vs H Q _=>match vs with
 |[.ref a,.ref b]=>∃p q p' q':Int,(V1 K H a [.int p,.int q]∧V1 K H b [.int p',.int q'])∧(Bd 1900 p∧Bd 1900 q∧Bd 1900 p'∧Bd 1900 q')∧Q (.bl (decide (p*q'<p'*q))) H
 |_=>False
theorem Hw {vs:ID}{F:HR→HR→Prop}(h:match vs with|[.ref x0,.ref x1]=>F x0 x1|_=>False):∃x0 x1,vs=[.ref x0,.ref x1]∧F x0 x1:=by
 match vs,h with
 |[.ref x0,.ref x1],h=>exact ⟨_,_,rfl,h⟩
theorem Ahc:Ah ["one","other"] ["one","other"] (Ac Th):=C5
include er in
theorem Aes (d:Bj K mg "under" Th ["one","other"]):A9 P w K mg base "under" ["one","other"] 1 (Jc K ns):=by
 refine d.cal (k:=0) Ahc (fun vs H Q E hq0=>?_) (fun f cdv A outer s H vs Q E hr hq0=>?_)
 ·obtain ⟨_,_,rfl,_⟩:=Hw hq0
  rfl
 ·obtain ⟨a,b,rfl,⟨p,q,p',q',⟨ha,hb⟩,⟨b1,b2,b3,b4⟩,k⟩⟩:=Hw hq0
  refine ⟨_,(@A5 _ _ _ _ (@Ck _ _ _ _ _ _ _ _ Xi (@Al _ _ _ _ _ _ _ _ D9 (@Em _ _ _ _ _ _ _ (dv 0)) (@Em _ _ _ _ _ _ _ (dv 1))) (@Al _ _ _ _ _ _ _ _ D9 (@Em _ _ _ _ _ _ _ (dv 1)) (@Em _ _ _ _ _ _ _ (dv 0))) (Ay _))),?_⟩
  exact ⟨_,ha.sq,_,hb.sq,Wg b1 b4 (by decide) (by decide),_,hb.sq,_,ha.sq,Wg b3 b2 (by decide) (by decide),k⟩
def Qh (K:KKf)(ns:HX):Sp:=fun vs H Q _=>match vs with
 |[v,u]=>∃a b,(Gc K H v a∧Gc K H u b)∧(Bd 20 a.2.1∧Bd 20 a.2.2∧Bd 20 b.2.1∧Bd 20 b.2.2)∧Q (.bl (goR a b)) H
 |_=>False
theorem Aq7 {vs:ID}{F:V→V→Prop}(h:match vs with|[x0,x1]=>F x0 x1|_=>False):∃x0 x1,vs=[x0,x1]∧F x0 x1:=by
 match vs,h with
 |[x0,x1],h=>exact ⟨_,_,rfl,h⟩
theorem Zg:Ah ["row","later"] ["row","later"] (Ac Mu):=C5
include er in
theorem Zk (d:Bj K mg "goes_on" Mu ["row","later"])  (cg:A9 P w K mg base "under" ["one","other"] 1 (Jc K ns)):A9 P w K mg base "goes_on" ["row","later"] 2 (Qh K ns):=by
 refine d.cal (k:=1) Zg (fun vs H Q E hq0=>?_) (fun f cdv A outer s H vs Q E hr hq0=>?_)
 ·obtain ⟨_,_,rfl,_⟩:=Aq7 hq0
  rfl
 ·obtain ⟨v,u,rfl,⟨a,b,⟨⟨t,x,ev,h1,h2⟩,⟨t',x',eu,h1',h2'⟩⟩,⟨b1,b2,b3,b4⟩,k⟩⟩:=Aq7 hq0
  refine ⟨_,(@A5 _ _ _ _ (@Ss _ _ _ _ _ _ _ (@Ck _ _ _ _ _ _ _ _ Xi (@Em _ _ _ _ _ _ _ (dv 0)) (@Em _ _ _ _ _ _ _ (dv 1)) (Ay _)) (@Nc _ _ _ _ _ (@Akq _ _ _ _ (@Af _ _ _ _ _ _ _ _ _ _ _ cg hr (@Aj _ _ _ _ _ (@Em _ _ _ _ _ _ _ (dv 1)) (@Ba _ _ _ (@Em _ _ _ _ _ _ _ (dv 0)) (by rfl)) (by rfl)) (by trivial)))))),?_⟩
  subst ev
  subst eu
  refine ⟨_,h1.sq,_,h1'.sq,⟨fun h=>⟨_,h1'.sq,_,h1.sq,_,_,_,_,⟨h2',h2⟩,⟨b3.mono (by decide),b4.mono (by decide),b1.mono (by decide),b2.mono (by decide)⟩,?_⟩,fun h=>?_⟩⟩
  ·have h:decide (a.1<b.1)=true:=h
   have e:goR a b=!decide (b.2.1*a.2.2<a.2.1*b.2.2):=by
    unfold goR
    rw [h,FF,decide_not]
   rw [e] at k
   exact k
  ·have h:decide (a.1<b.1)=false:=h
   have e:goR a b=false:=by
    unfold goR
    rw [h,ET]
   rw [e] at k
   exact k
def chn:List (Int×Int×Int)→Bool
 |a::b::l=>goR a b&&chn (b::l)
 |_=>true
def S0 (rows:List (Int×Int×Int)):Prop:=(1≤rows.length∧rows.length≤10)∧(∀r∈rows,Agd r)∧rows[0]? =some (0,1,2)∧chn rows=true
def rd3 (r:Int×Int×Int):PyData:=.tuple [.int r.1,.tuple [.int r.2.1,.int r.2.2]]
theorem Apy {K:KKf}{H:Hp}{v:V}{r:Int×Int×Int}(h:Gc K H v r):Rp K H v (rd3 r):=by
 obtain ⟨t,u,e,h1,h2⟩:=h
 subst e
 exact .tup h1.sq (.cons (.int _) (.cons (.tup h2.sq (.cons (.int _) (.cons (.int _) .nil))) .nil))
theorem Ai1 (p q:Int×Int×Int):PyData.eqv (rd3 p) (rd3 q)=decide (p=q):=by
 show ((p.1==q.1)&&(((p.2.1==q.2.1)&&((p.2.2==q.2.2)&&true))&&true))=_
 obtain ⟨a,b,c⟩:=p
 obtain ⟨a',b',c'⟩:=q
 by_cases h1:a=a'<;>by_cases h2:b=b'<;>by_cases h3:c=c'<;>simp [h1,h2,h3]
theorem Ag3 {c:Bool}{K:KKf}{H H':Hp}{a:HR}{xs:ID}(s:Ag H H')(h:Xj c K H a xs):Xj c K H' a xs:=by
 cases c with
 |true=>exact s.seq h
 |false=>exact Zy s h
theorem Jy {ca cb:Bool}{β:Type}{K:KKf}{a b:HR}{xs ys:ID}{ms:List β}{g:TG}{te:TE}{k:Nat}{js:IC}{σ:L2.St}{H1:Hp}{Q:VK}(M:Hp→V→V→β→Prop)(upM:∀v u m H H',Kt H H'→M H v u m→M H' v u m)(R:Hp→β→V→Prop)(up:∀m y H H',Kt H H'→R H m y→R H' m y)
  (hz:ms.length≤1000) (hx:Xj ca K H1 a xs) (hy:Xj cb K H1 b ys) (lx:ms.length≤xs.length) (ly:ys.length=ms.length) (hm:∀(i:Nat) x y m,xs[i]? =some x→ys[i]? =some y→ms[i]? =some m→M H1 x y m)
  (hs:∀x y m t H2,M H2 x y m→m∈ms→Ag H1 H2→H2 t=some (.tup [x,y])→∀P:VK,(∀y H3,Ag H2 H3→R H3 m y→P y H3)→g (.ref t) (List.replicate k none++capσ js σ) H2 fun σ2 H3=>σ2.drop k=capσ js σ∧te σ2 H3 P)
  (hq:∀D H' zs,Ag H1 H'→H1 D=none→H' D=some (.lst zs)→Ax (R H') ms zs→Q (.ref D) H'):Hr (Itz ca cb K a b) g te k js σ H1 Q:=by
 unfold Hr
 intro D hD
 refine ⟨fun i m H=>m=ms.length-i∧i≤ms.length∧Ag H1 H∧∃zs,H D=some (.lst zs)∧Ax (R H) (ms.take i) zs,⟨ms.length,by simp,AV _,An hD,[],Ad,.nil⟩,?_⟩
 rintro i m H ⟨rfl,hi,sm,zs,hH,ar⟩
 have sq1:Xj ca K H a xs:=Ag3 sm hx
 have sq2:Xj cb K H b ys:=Ag3 sm hy
 by_cases hlt:i<ms.length
 ·have e1:xs[i]? =some (xs[i]'(by omega)):=AD _
  have e2:ys[i]? =some (ys[i]'(by omega)):=AD _
  have e3:ms[i]? =some ms[i]:=AD _
  refine .inr ⟨⟨xs,ys,_,_,sq1,sq2,e1,e2⟩,fun v H' yl=>?_⟩
  obtain ⟨t,x,y,rfl,ht,rfl,y1,y2⟩:=yl
  have st:Ag H (upd H t (.tup [x,y])):=An ht
  have et:upd H t (.tup [x,y]) t=some (.tup [x,y]):=Ad
  generalize upd H t (.tup [x,y])=H2 at st et
  have hH:=st _ _ hH
  have s2:=sm.trans st
  have hM:=hm i x y _ (y1 xs sq1) (y2 ys sq2) e3
  refine hs x y _ t H2 (upM _ _ _ _ _ (Bc s2) hM) (BH e3) s2 et _ fun u H3 s3 r3=>⟨zs,s3 _ _ hH,?_,ms.length-(i+1),by omega,rfl,hlt,Fc (s2.trans s3) hD,zs++[u],Ad,?_⟩
  ·rw [←ar.len,BQ]
   exact BO (GF _ _) (AL hlt (AO hz (by decide)))
  ·have kt:Kt H3 (upd H3 D (.lst (zs++[u]))):=Na (s3 _ _ hH)
   rw [CI,e3]
   exact (ar.imp fun v y r=>up v y _ _ ((Bc (st.trans s3)).trans kt) r).snoc (up _ _ _ _ kt r3)
 ·have e:i=ms.length:=by omega
  subst e
  rw [DY] at ar
  exact .inl ⟨⟨xs,ys,sq1,sq2,.inr (by omega)⟩,hq D _ zs sm hD hH ar⟩
theorem Ae2 {α:Type}{f:α→Bool}:∀{l:List α} {ys:ID},Ax (fun o y=>y=V.bl (f o)) l ys→ys=(l.map f).map V.bl
 |_,_,.nil=>rfl
 |_,_,.cons h t=>by rw [h,Ae2 t];rfl
theorem Acb:∀(rows:List (Int×Int×Int)),chn rows=((rows.zip (rows.drop 1)).map fun m=>goR m.1 m.2).all id
 |[]=>rfl
 |[_]=>rfl
 |a::b::l=>by
  show (goR a b&&chn (b::l))=_
  rw [Acb (b::l)]
  rfl
theorem Aem {xs:ID}{j:Nat}(h:j≤xs.length):Ni xs (some (j:Int)) none=xs.drop j:=by
 unfold Ni
 rw [HT.sIx_none,HT.sIx_nat,GE h]
 apply EB
 rw [DO]
 exact AF _
def N9 (K:KKf)(ns:HX):Sp:=fun vs H Q _=>match vs with
 |[.ref l]=>∃vs rows,(H l=some (.lst vs)∧Ax (Gc K H) vs rows∧S0 rows)∧∀D H',Ag H H'→H D=none→H' D=some (.lst vs)→Q (.ref D) H'
 |_=>False
theorem W1:Ah ["rows"] ["rows"] (Ac Ki):=C5
include er aO eo fD ak a6 in
theorem Yf (d:Bj K mg "table_of" Ki ["rows"])(cj:Gp mg "FIRST_ROW" (.ref bV))(ck:By K bV [.int (0),.ref bo])(bq:By K bo [.int (1),.int (2)])(cm:Gp mg "MOST_ROWS" (.int (10)))(eR:A9 P w K mg base "goes_on" ["row","later"] 2 (Qh K ns))(fE:A9 P w K mg base "is_row" ["thing"] 4 (Sv K ns)):A9 P w K mg base "table_of" ["rows"] 5 (N9 K ns):=by
 refine d.cal (k:=4) W1 (fun vs H Q E hq0=>?_) (fun f cdv A outer s H vs Q E hr hq0=>?_)
 ·obtain ⟨_,rfl,_⟩:=Js hq0
  rfl
 ·obtain ⟨l,rfl,⟨vs',rows,⟨e,ro,⟨⟨g1,g2⟩,hrw,hr0,hc⟩⟩,k⟩⟩:=Js hq0
  refine ⟨_,(@Aa _ _ _ _ _ (@B6 _ _ _ _ _ _ _ _ (@L2.PW.pt _ _ _ (@Os _ _ _ _ _ _ _ (@Bu _ _ _ _ (@Cc _ _ _ (@Ao _ _ _ _ _ _ _ _ _ S5 a6 (by decide +kernel) (@Aj _ _ _ _ _ (dv 0) (@Ba _ _ _ (Aah "list" (by rfl) aO (by decide +kernel)) (by rfl)) (by rfl)) (by trivial)) (by intro _;rfl))) (@F8 _ _ _ _ (@Bu _ _ _ _ (@O1 _ _ _ _ _ _ _ _ _ _ _ _ Q3 Q3 Ae (@Ao _ _ _ _ _ _ _ _ _ C4 ak (by decide +kernel) (@Ba _ _ _ (dv 0) (by rfl)) (by trivial)) (Cp cm (by rfl)) (by with_unfolding_all rfl)))))) (@Ar _ _ _ Cq) Av) (@Aa _ _ _ _ _ (@B6 _ _ _ _ _ _ _ _ (@Bu _ _ _ _ (@Cc _ _ _ (@Ao _ _ _ _ _ _ _ _ _ (@Acp _ rfl) eo (by decide +kernel) (@Ba _ _ _ (@B2 _ _ _ _ _ _ _ _ _ _ ["row"] [] [] rfl (@Bw _ _ _ _ (dv 0)) (fun C s H fp=>(@Aq _ _ (0) _ (show List.Nodup [("row":Str)] by decide +kernel) rfl (by trivial) (by trivial))) (fun C s H fp=>(@Af _ _ _ _ _ _ _ _ _ _ _ fE hr (@Ba _ _ _ (dv 0) (by rfl)) (by trivial))) rfl rfl (by decide +kernel) (by decide +kernel) (by rfl) ⟨⟩ ⟨⟩ (by intro _;rfl)) (by rfl)) (by trivial)) (by intro _;rfl))) (@Ar _ _ _ Cq) Av) (@Aa _ _ _ _ _ (@B6 _ _ _ _ _ _ _ _ (@Bl _ _ _ _ _ _ _ _ (@Aky _ hr.units) (@Kg _ _ _ _ _ _ _ (dv 0)) (Cp cj (by rfl)) (Ay _)) (@Ar _ _ _ Cq) Av) (@Aa _ _ _ _ _ (@B6 _ _ _ _ _ _ _ _ (@Bu _ _ _ _ (@Cc _ _ _ (@Ao _ _ _ _ _ _ _ _ _ (@Acp _ rfl) eo (by decide +kernel) (@Ba _ _ _ (@B2 _ _ _ _ _ _ _ _ _ _ ["row","later"] [] [] rfl (@Af3 _ true true _ _ _ _ _ _ _ _ (by rfl) fD (@Ab _ _ _ _ _ (dv 0) (@Ab _ _ _ _ _ (@Dr _ _ _ _ _ _ _ _ _ _ Ahe (dv 0) (Dd Ae) Jt) Ai (by rfl)) (by rfl)) (by rfl) (by rfl)) (fun C s H fp=>(show PG _ _ (Wy K 2 _) from Fi rfl (A3 (Aq (i:=0) (show List.Nodup [("row":Str),("later":Str)] by decide +kernel) rfl (by trivial)) (A3 (Aq (i:=1) (show List.Nodup [("row":Str),("later":Str)] by decide +kernel) rfl (by trivial)) Dt)))) (fun C s H fp=>(@Af _ _ _ _ _ _ _ _ _ _ _ eR hr (@Aj _ _ _ _ _ (dv 0) (@Ba _ _ _ (dv 1) (by rfl)) (by rfl)) (by trivial))) rfl rfl (by decide +kernel) (by decide +kernel) (by rfl) ⟨⟩ ⟨⟩ (by intro _;rfl)) (by rfl)) (by trivial)) (by intro _;rfl))) (@Ar _ _ _ Cq) Av) (@A5 _ _ _ _ (@Bv _ _ _ _ _ _ _ _ _ O6 aO (by decide +kernel) (@Ba _ _ _ (dv 0) (by rfl)) (by trivial))))))),?_⟩
  have lr:vs'.length=rows.length:=ro.len
  refine ⟨_,true,_,e,rfl,rfl,⟨fun h=>nb h,fun _=>⟨_,.inl (A1.of e),⟨fun h1=>⟨fun h2=>?_,fun _=>?_⟩,fun h1=>?_⟩⟩⟩⟩
  ·have h2:¬(vs'.length:Int)≤10:=by simpa using h2
   omega
  rotate_left
  ·have h1:¬(1:Int)≤(vs'.length:Int):=BM h1
   omega
  refine ⟨l,rfl,⟨_,A1.of e⟩,Cb (fun _ v r=>Gc K H v r) (fun _ _ _ _ _ h=>h) (fun _ _ y=>y=V.bl true) (fun _ _ _ _ _ h=>h) (by omega) (A1.of e) ro ?_ ?_⟩
  ·intro v r H1 hM hm s1 P hP
   exact ⟨rfl,r,⟨Dy _ _ _ _ (Bc s1) hM,hrw r hm⟩,fun H2 s2=>hP _ _ s2 rfl⟩
  intro D1 H1 ys s1 _ e1 a1
  have y1:=Ae2 (f:=fun _=>true) a1
  refine ⟨rows.map fun _=>true,by rw [←y1];exact A1.of e1,⟨fun h=>?_,fun _=>?_⟩⟩
  ·have:(rows.map fun _=>true).all id=true:=by rw [List.all_map];exact CH.mpr fun _ _=>rfl
   rw [this] at h
   exact nb h
  have ro1:Ax (Gc K H1) vs' rows:=ro.imp fun v r h=>Dy v r _ _ (Bc s1) h
  obtain ⟨v0,hv0⟩:∃v0,vs'[0]? =some v0:=⟨_,AD (by omega)⟩
  obtain ⟨r0,hr0',ro0⟩:=ro1.get hv0
  rw [hr0] at hr0'
  cases hr0'
  refine ⟨_,_,A1.of (s1 _ _ e),A2 hv0,_,_,Apy ro0,.tup (ck.sq H1) (.cons (.int _) (.cons (.tup (bq.sq H1) (.cons (.int _) (.cons (.int _) .nil))) .nil)),rfl,rfl,?_⟩
  have ed:PyData.eqv (rd3 (0,1,2)) (.tuple [.int 0,.tuple [.int 1,.int 2]])=true:=by rw [show PyData.tuple [.int 0,.tuple [.int 1,.int 2]]=rd3 (0,1,2) from rfl,Ai1,AQ rfl]
  rw [ed]
  refine ⟨fun h=>nb h,fun _=>?_⟩
  refine ⟨_,rfl,_,A1.of (s1 _ _ e),fun C H2 s2 e2=>?_⟩
  have e2:H2 C=some (.lst (vs'.drop 1)):=e2.trans (congrArg (fun l=>some (HO.lst l)) (Aem (j:=1) (by omega)))
  have s12:=s1.trans s2
  have ro2:Ax (Gc K H2) vs' rows:=ro.imp fun v r h=>Dy v r _ _ (Bc s12) h
  have lz:(rows.zip (rows.drop 1)).length=rows.length-1:=by rw [List.length_zip,DO];omega
  refine ⟨⟨_,A1.of (s12 _ _ e)⟩,⟨_,A1.of e2⟩,Jy (ms:=rows.zip (rows.drop 1)) (fun H x y m=>Gc K H x m.1∧Gc K H y m.2) (fun x y m H H' kt h=>⟨Dy _ _ _ _ kt h.1,Dy _ _ _ _ kt h.2⟩) (fun _ m y=>y=V.bl (goR m.1 m.2)) (fun _ _ _ _ _ h=>h) (by omega) (A1.of (s12 _ _ e)) (A1.of e2) (by omega) (by rw [DO];omega) ?_ ?_ ?_⟩
  ·intro i x y m hx hy hm
   obtain ⟨m1,m2⟩:=List.getElem?_zip_eq_some.mp hm
   obtain ⟨a,ha,g1⟩:=ro2.get hx
   rw [List.getElem?_drop] at hy m2
   obtain ⟨b,hb,g2⟩:=ro2.get hy
   rw [ha] at m1
   rw [hb] at m2
   cases m1
   cases m2
   exact ⟨g1,g2⟩
  ·intro x y m t H3 hM hm s3 et P hP
   have q1:=(hrw m.1 (GD hm).1)
   have q2:=(hrw m.2 (List.mem_of_mem_drop (GD hm).2))
   obtain ⟨_,a1,a2,a3,a4,_⟩:=q1
   obtain ⟨_,c1,c2,c3,c4,_⟩:=q2
   have bd:∀{i:Int},0≤i→i≤9999→Bd 20 i:=fun a b=>Dm (b:=9999) (by omega) (by omega) (A0 rfl)
   exact ⟨t,_,rfl,D7.of et,rfl,_,_,rfl,_,_,rfl,rfl,rfl,m.1,m.2,hM,⟨bd (by omega) (by omega),bd (by omega) (by omega),bd (by omega) (by omega),bd (by omega) (by omega)⟩,hP _ _ (Ag.refl _) rfl⟩
  intro D3 H3 zs s3 _ e3 a3
  have y3:=Ae2 a3
  have s13:=s12.trans s3
  refine ⟨(rows.zip (rows.drop 1)).map fun m=>goR m.1 m.2,by rw [←y3];exact A1.of e3,?_⟩
  rw [←Acb,hc]
  refine ⟨fun h=>nb h,fun _=>⟨_,.inl (A1.of (s13 _ _ e)),fun D hD=>?_⟩⟩
  exact k D _ (s13.trans (An hD)) (Cd s13 hD) Ad
abbrev Rw:=Int×Q2
structure As1 (r:Rw):Prop where
 f0:0≤r.1
 f1:r.1≤2000000
 t0:0≤r.2.1
 tb:r.2.1≤r.2.2
 b0:0<r.2.2
 b1:r.2.2≤9999
 g:Int.gcd r.2.1 r.2.2=1
structure Tb (rows:List Rw):Prop where
 hd:∃r rs,rows=r::rs∧r.1=0
 ok:∀r∈rows,As1 r
 len:rows.length≤10
def TbA (K:KKf)(H:Hp)(L:HR)(rows:List Rw):Prop:=∃vs,A1 K H L vs∧Ax (Gc K H) vs rows
theorem TbA.up {K:KKf}{H H':Hp}{L:HR}{rows:List Rw}(s:Ag H H')(h:TbA K H L rows):TbA K H' L rows:=by
 obtain ⟨vs,h1,h2⟩:=h
 exact ⟨vs,s.seq h1,h2.imp fun v g r=>Dy v g _ _ (Bc s) r⟩
def TbL (K:KKf)(H:Hp)(L:HR)(rows:List Rw):Prop:=∃vs,H L=some (.lst vs)∧Ax (Gc K H) vs rows
def J0 (t b:Int)(rows:List Rw)(x:Q2):Q2:=rows.foldl (fun x r=>if r.1*b≤t then r.2 else x) x
theorem Nz {t b:Int}{r:Rw}{rows:List Rw}{x:Q2}:J0 t b (r::rows) x=J0 t b rows (if r.1*b≤t then r.2 else x):=rfl
theorem Sh (t b:Int):∀(rows:List Rw) (x:Q2),J0 t b rows x=(((rows.filter fun r=>decide (r.1*b≤t)).getLast?).map (·.2)).getD x
 |[],x=>rfl
 | r::rs,x=>by
  rw [Nz,Sh t b rs]
  by_cases h:r.1*b≤t
  ·rw [AN h,GR (by simpa using h),List.getLast?_cons]
   cases (rs.filter fun r=>decide (r.1*b≤t)).getLast?<;>rfl
  ·rw [AI h,GS (by simpa using h)]
theorem V9 (t b:Int):∀(rows:List Rw) (x:Q2),J0 t b rows x=x∨∃r∈rows,J0 t b rows x=r.2
 |[],x=>.inl rfl
 | r::rs,x=>by
  rw [Nz]
  rcases V9 t b rs (if r.1*b≤t then r.2 else x) with e|⟨r',h,e⟩
  ·rw [e]
   by_cases h:r.1*b≤t
   ·rw [AN h]
    exact .inr ⟨r,AK ..,rfl⟩
   ·rw [AI h]
    exact .inl rfl
  ·exact .inr ⟨r',AJ _ h,e⟩
theorem O2 {t b:Int}{rows:List Rw}(h:Tb rows)(ht:0≤t)(x:Q2):∃r∈rows,J0 t b rows x=r.2:=by
 obtain ⟨r,rs,e0,e⟩:=h.hd
 rw [e0]
 have c:r.1*b≤t:=by rw [e,Int.zero_mul];exact ht
 rw [Nz,AN c]
 rcases V9 t b rs r.2 with e'|⟨r',h',e'⟩
 ·exact ⟨r,AK ..,e'⟩
 ·exact ⟨r',AJ _ h',e'⟩
def O0 (rows:List Rw)(t b:Int):Q2:=if t<0 then ((J0 (-t) b rows (0,1)).2-(J0 (-t) b rows (0,1)).1,(J0 (-t) b rows (0,1)).2) else J0 t b rows (0,1)
theorem Kq {rows:List Rw}{t b:Int}(h:0≤t):O0 rows t b=J0 t b rows (0,1):=AI (by omega)
theorem Tq {rows:List Rw}{t b:Int}(h:t<0):O0 rows t b=((O0 rows (-t) b).2-(O0 rows (-t) b).1,(O0 rows (-t) b).2):=by
 rw [Kq (show 0≤-t by omega)]
 exact AN h
theorem Aeb (a b:Int):Int.gcd (b-a) b=Int.gcd a b:=by
 have half:∀a b:Int,(Int.gcd a b:Int)∣(Int.gcd (b-a) b:Int):=fun a b=>by
  have h1:(Int.gcd a b:Int)∣a:=Int.gcd_dvd_left ..
  have h2:(Int.gcd a b:Int)∣b:=Int.gcd_dvd_right ..
  exact Int.dvd_coe_gcd (Int.dvd_sub h2 h1) h2
 have h:=half (b-a) b
 rw [show b-(b-a)=a by omega] at h
 exact Nat.dvd_antisymm (Int.ofNat_dvd.mp h) (Int.ofNat_dvd.mp (half a b))
theorem Aoq {a b:Int}(hb:0<b)(g:Int.gcd a b=1):Qz (1*b-a*1) (1*b)=b-a∧Oj (1*b-a*1) (1*b)=b:=by
 rw [Int.one_mul,Int.mul_one]
 have g':Int.gcd (b-a) b=1:=by rw [Aeb,g]
 have t:=Qk (b-a) b
 have u:=Lv (b-a) b
 rw [g'] at t u
 unfold Qz Oj
 rw [AI (by omega),AI (by omega)]
 exact ⟨by simpa using t,by simpa using u⟩
theorem Abm {α β:Type}{R:α→β→Prop}:∀{l:List α} {m:List β},Ax R l m→∀{a:α},l.getLast? =some a→∃b,m.getLast? =some b∧R a b
 |_,_,.nil,a,h=>by simp at h
 |_,_,.cons x .nil,a,h=>by
  simp at h
  subst h
  exact ⟨_,rfl,x⟩
 |_,_,.cons x (.cons y r),a,h=>by
  rw [List.getLast?_cons_cons] at h ⊢
  exact Abm (.cons y r) h
structure FqA (n:Nat)(K:KKf)(H:Hp)(p:HR)(a b:Int):Prop where
 at':V1 K H p [.int a,.int b]
 pos:0<b
 ba:Bd n a
 bb:Bd n b
theorem _root_.Lw.Fq.fa {n:Nat}{K:KKf}{H:Hp}{p:HR}{a b:Int}(h:Fq n H p a b):FqA n K H p a b:=⟨.inl h.at',h.pos,h.ba,h.bb⟩
def Ge (K:KKf)(ns:HX):Sp:=fun vs H Q _=>match vs with
 |[.ref p,.ref q]=>∃x y:Q2,(Fq 1000 H p x.1 x.2∧FqA 1000 K H q y.1 y.2)∧∀r H',Ag H H'→Adl H' r (x.1*y.2-y.1*x.2) (x.2*y.2)→Q (.ref r) H'
 |_=>False
theorem Aeg:Ah ["one","other"] ["one","other"] (Ac Um):=C5
include er in
theorem Agt (d:Bj K mg "minus" Um ["one","other"])  (az:A9 P w K mg base "fraction" ["top","bottom"] 2 (Ep K ns)):A9 P w K mg base "minus" ["one","other"] 3 (Ge K ns):=by
 refine d.cal (k:=2) Aeg (fun vs H Q E hq0=>?_) (fun f cdv A outer s H vs Q E hr hq0=>?_)
 ·obtain ⟨_,_,rfl,_⟩:=Hw hq0
  rfl
 ·obtain ⟨p,q,rfl,⟨x,y,⟨h1,h2⟩,k⟩⟩:=Hw hq0
  refine ⟨_,(@A5 _ _ _ _ (@Af _ _ _ _ _ _ _ _ _ _ _ az hr (@Aj _ _ _ _ _ (@Al _ _ _ _ _ _ _ _ X8 (@Al _ _ _ _ _ _ _ _ D9 (@Bg _ _ _ _ _ _ _ (dv 0)) (@Em _ _ _ _ _ _ _ (dv 1))) (@Al _ _ _ _ _ _ _ _ D9 (@Em _ _ _ _ _ _ _ (dv 1)) (@Bg _ _ _ _ _ _ _ (dv 0)))) (@Ba _ _ _ (@Al _ _ _ _ _ _ _ _ D9 (@Bg _ _ _ _ _ _ _ (dv 0)) (@Em _ _ _ _ _ _ _ (dv 1))) (by rfl)) (by rfl)) (by trivial))),?_⟩
  exact ⟨_,h1.at',_,h2.at'.sq,Wg h1.ba h2.bb (by decide) (by decide),_,h2.at'.sq,_,h1.at',Wg h2.ba h1.bb (by decide) (by decide),_,h1.at',_,h2.at'.sq,Wg h1.bb h2.bb (by decide) (by decide),
   ⟨HN (EC h1.pos h2.pos),(h1.bb.mul h2.bb).mono (by decide)⟩,k⟩
def Aco (K:KKf)(ns:HX):Sp:=fun vs H Q _=>match vs with
 |[.ref p,.ref q]=>∃x y:Q2,(Fq 1000 H p x.1 x.2∧Fq 1000 H q y.1 y.2)∧∀r H',Ag H H'→Adl H' r (x.1*y.2+y.1*x.2) (x.2*y.2)→Q (.ref r) H'
 |_=>False
theorem Ai0:Ah ["one","other"] ["one","other"] (Ac Z4):=C5
include er in
theorem Ai4 (d:Bj K mg "plus" Z4 ["one","other"])  (az:A9 P w K mg base "fraction" ["top","bottom"] 2 (Ep K ns)):A9 P w K mg base "plus" ["one","other"] 3 (Aco K ns):=by
 refine d.cal (k:=2) Ai0 (fun vs H Q E hq0=>?_) (fun f cdv A outer s H vs Q E hr hq0=>?_)
 ·obtain ⟨_,_,rfl,_⟩:=Hw hq0
  rfl
 ·obtain ⟨p,q,rfl,⟨x,y,⟨h1,h2⟩,k⟩⟩:=Hw hq0
  refine ⟨_,(@A5 _ _ _ _ (@Af _ _ _ _ _ _ _ _ _ _ _ az hr (@Aj _ _ _ _ _ (@Al _ _ _ _ _ _ _ _ F2 (@Al _ _ _ _ _ _ _ _ D9 (@Bg _ _ _ _ _ _ _ (dv 0)) (@Bg _ _ _ _ _ _ _ (dv 1))) (@Al _ _ _ _ _ _ _ _ D9 (@Bg _ _ _ _ _ _ _ (dv 1)) (@Bg _ _ _ _ _ _ _ (dv 0)))) (@Ba _ _ _ (@Al _ _ _ _ _ _ _ _ D9 (@Bg _ _ _ _ _ _ _ (dv 0)) (@Bg _ _ _ _ _ _ _ (dv 1))) (by rfl)) (by rfl)) (by trivial))),?_⟩
  exact ⟨_,h1.at',_,h2.at',Wg h1.ba h2.bb (by decide) (by decide),_,h2.at',_,h1.at',Wg h2.ba h1.bb (by decide) (by decide),_,h1.at',_,h2.at',Wg h1.bb h2.bb (by decide) (by decide),
   ⟨HN (EC h1.pos h2.pos),(h1.bb.mul h2.bb).mono (by decide)⟩,k⟩
def E7:Nat→KKf→HX→Sp
 |0,_,_=>fun _ _ _ _=>False
 |d+1,K,ns=>fun vs H Q _=>match vs with
  |[.ref L,.ref p]=>∃(rows:List Rw) (x:Q2),(TbA K H L rows∧Tb rows∧Fq 1700 H p x.1 x.2∧(x.1<0→0<d))∧∀r H',Ag H H'→V1 K H' r [.int (O0 rows x.1 x.2).1,.int (O0 rows x.1 x.2).2]→Q (.ref r) H'
  |_=>False
def Ob (K:KKf)(ns:HX):Sp:=E7 2 K ns
theorem Iq:Ah ["table","difference","begun"] ["table","difference"] (Ac Fe):=C5
include er in
theorem Uy (d:Bj K mg "share_by" Fe ["table","difference"])  (cg:A9 P w K mg base "under" ["one","other"] 1 (Jc K ns))(br:A9 P w K mg base "minus" ["one","other"] 3 (Ge K ns))  (dd:Nat)(cM:A9 P w K mg base "share_by" ["table","difference"] (4+dd) (E7 dd K ns)):A9 P w K mg base "share_by" ["table","difference"] (4+(dd+1)) (E7 (dd+1) K ns):=by
 refine d.cal (k:=4+dd) Iq (fun vs H Q E h=>?_) (fun f cdv A outer s H vs Q E hr h=>?_)
 ·match vs,h with
  |[.ref L,.ref p],_=>rfl
 ·match vs,h with
  | [.ref L,.ref p],hq0=>
   obtain ⟨rows,x,⟨hT,tb,f,hd⟩,k⟩:=hq0
   refine ⟨_,(@Aa _ _ _ _ _ (@B6 _ _ _ _ _ _ _ _ (@Bl _ _ _ _ _ _ _ _ Xi (@Bg _ _ _ _ _ _ _ (dv 1)) Ae (Ay _)) (@A5 _ _ _ _ (@Ue _ _ _ _ _ _ _ _ _ _ _ br hr (by omega) (by rfl) (@Ab _ _ _ _ _ (@B8 _ _ _ _ _ (@Ab _ _ _ _ _ Ae (@Ab _ _ _ _ _ Ae Ai (by rfl)) (by rfl))) (@Ab _ _ _ _ _ (@Ue _ _ _ _ _ _ _ _ _ _ _ cM hr (by omega) (by rfl) (@Ab _ _ _ _ _ (dv 0) (@Ab _ _ _ _ _ (@B8 _ _ _ _ _ (@Ab _ _ _ _ _ (@Le _ _ _ _ _ _ Mj (@Bg _ _ _ _ _ _ _ (dv 1))) (@Ab _ _ _ _ _ (@Bg _ _ _ _ _ _ _ (dv 1)) Ai (by rfl)) (by rfl))) Ai (by rfl)) (by rfl)) (by decide) (by rfl) (by rfl)) Ai (by rfl)) (by rfl)) (by decide) (by rfl) (by rfl))) Av) (@Aa _ _ _ _ _ (@Sz _ _ _ _ _ _ _ _ _ (2) _ _ _ _ _ _ ["row"] ["difference"] [1] rfl (@Bw _ _ _ _ (dv 0)) (fun C s H fp=>(@Aq _ _ (0) _ (show List.Nodup [("row":Str),("difference":Str)] by decide +kernel) rfl (by trivial) (by trivial))) (fun C s H fp=>(@Bu _ _ _ _ (@Cc _ _ _ (@Ue _ _ _ _ _ _ _ _ _ _ _ cg hr (by omega) (by rfl) (@Ab _ _ _ _ _ (dv 1) (@Ab _ _ _ _ _ (@B8 _ _ _ _ _ (@Ab _ _ _ _ _ (@Eb _ _ _ _ _ _ _ (show IxR _ (Amk K) from Ahj) (dv 0) Ae (fun _ _=>rfl)) (@Ab _ _ _ _ _ Ae Ai (by rfl)) (by rfl))) Ai (by rfl)) (by rfl)) (by decide) (by rfl) (by rfl)) (by intro _;rfl)))) (fun C s H fp=>(dv 0)) rfl rfl (by decide +kernel) (by decide +kernel) (by rfl) ⟨rfl,⟨⟩⟩ ⟨⟨rfl,rfl,rfl,rfl⟩,⟨⟩⟩ Iq.nd rfl rfl (by intro _;rfl) (by rfl)) (@A5 _ _ _ _ (@Em _ _ _ _ _ _ _ (@Eb _ _ _ _ _ _ _ Ht (dv 2) (@Le _ _ _ _ _ _ Mj Ae) (fun _ _=>rfl)))))),?_⟩
   refine ⟨_,f.at',⟨fun h=>?_,fun h=>?_⟩⟩
   ·have hneg:x.1<0:=AZ h
    clear h
    cases dd with
    |zero=>exact absurd (hd hneg) (by decide)
    |succ d' =>
     refine fun T1 H1 s1 e1=>?_
     have f1:=f.up s1
     refine ⟨_,f1.at',_,f1.at',fun T2 H2 s2 e2=>?_⟩
     have f2:Fq 1700 H2 T2 (-x.1) x.2:=⟨e2,f.pos,f.ba.neg,f.bb⟩
     refine ⟨rows,(-x.1,x.2),⟨hT.up (s1.trans s2),tb,f2,fun z=>absurd z (by show ¬(-x.1<0);omega)⟩,fun r H3 s3 e3=>?_⟩
     have ht:0≤-x.1:=by omega
     obtain ⟨m,hm,em⟩:=O2 (b:=x.2) tb ht (0,1)
     have o:=tb.ok m hm
     have em:O0 rows (-x.1) x.2=m.2:=(Kq ht).trans em
     have e3:V1 K H3 r [.int m.2.1,.int m.2.2]:=by rw [←em];exact e3
     have o1:=o.t0
     have o2:=o.tb
     have o3:=o.b0
     have o4:=o.b1
     have b1:Bd 1000 m.2.1:=Dm (b:=9999) (by omega) (by omega) (A0 rfl)
     have b2:Bd 1000 m.2.2:=Dm (b:=9999) (by omega) (by omega) (A0 rfl)
     refine ⟨(1,1),m.2,⟨⟨(s2.trans s3) _ _ e1,by decide,A0 rfl,A0 rfl⟩,⟨e3,o3,b1,b2⟩⟩,fun r' H4 s4 e4=>?_⟩
     refine k r' H4 (s1.trans (s2.trans (s3.trans s4))) ?_
     obtain ⟨u1,u2⟩:=Aoq o3 o.g
     have e5:=e4.at'
     rw [Tq hneg,em]
     refine .inl (e5.trans ?_)
     show some (HO.tup [V.int (Qz (1*m.2.2-m.2.1*1) (1*m.2.2)),V.int (Oj (1*m.2.2-m.2.1*1) (1*m.2.2))])=_
     rw [u1,u2]
   ·have h:=BM h
    have hnn:0≤x.1:=by omega
    clear h
    obtain ⟨vs,hx,hm⟩:=hT
    have hc:(fun r:Rw=>!ltQ x (r.1,1))=fun r:Rw=>decide (r.1*x.2≤x.1):=by
     funext r
     show (!decide (x.1*1<r.1*x.2))=decide (r.1*x.2≤x.1)
     rw [Int.mul_one]
     by_cases c:r.1*x.2≤x.1
     ·rw [AQ c,BC (by omega)]
      rfl
     ·rw [BC c,AQ (by omega)]
      rfl
    have fx:Fq 1900 H p x.1 x.2:=f.mono (by decide)
    refine ⟨L,rfl,⟨_,hx⟩,R4 (Gc K) Dy (fun H r y=>Gc K H y r) (fun r y H H' kt h=>Dy y r H H' kt h) (fun r=>!ltQ x (r.1,1)) (by rw [hm.len];have:=tb.len;omega) hx hm ?_ ?_⟩
    ·intro v m H2 hM hm2 s2 P P' hP hP'
     obtain ⟨p',q',rfl,e1,e2⟩:=hM
     have o:=tb.ok m hm2
     have o1:=o.f0
     have o2:=o.f1
     have bm:Bd 1900 m.1:=Dm (b:=2000000) (by omega) (by omega) (A0 rfl)
     refine ⟨rfl,_,e1.sq,fun T H3 s3 e3=>⟨x.1,x.2,m.1,1,⟨.inl ((fx.up s2).up s3).at',.inl e3⟩,⟨fx.ba,fx.bb,bm,A0 rfl⟩,⟨fun h=>hP h _ _ s3 ⟨p',q',rfl,e1.up (Bc s3),e2.up (Bc s3)⟩,fun h=>hP' h _ s3⟩⟩⟩
    intro D H1 ys s1 d1 e1 a1
    rw [hc] at a1
    obtain ⟨r0,rs,er0,z0⟩:=tb.hd
    have c0:r0∈rows.filter fun r=>decide (r.1*x.2≤x.1):=by
     refine FH.mpr ⟨by rw [er0];exact AK ..,?_⟩
     rw [z0,Int.zero_mul]
     exact AQ hnn
    obtain ⟨m,hm⟩:∃m,(rows.filter fun r=>decide (r.1*x.2≤x.1)).getLast? =some m:=by
     cases e:(rows.filter fun r=>decide (r.1*x.2≤x.1)).getLast? with
     |none=>
      rw [List.getLast?_eq_none_iff] at e
      rw [e] at c0
      simp at c0
     |some m=>exact ⟨m,rfl⟩
    obtain ⟨v,hv,p',q',rfl,g1,g2⟩:=Abm a1 hm
    have em:O0 rows x.1 x.2=m.2:=by
     rw [Kq hnn,Sh,hm]
     rfl
    refine ⟨_,.ref p',A1.of e1,Yd hv,_,g1.sq,k q' H1 s1 ?_⟩
    rw [em]
    exact g2
include er in
theorem Li (d:Bj K mg "share_by" Fe ["table","difference"])  (cg:A9 P w K mg base "under" ["one","other"] 1 (Jc K ns))(br:A9 P w K mg base "minus" ["one","other"] 3 (Ge K ns)): ∀dd:Nat,A9 P w K mg base "share_by" ["table","difference"] (4+dd) (E7 dd K ns)
 |0=>d.cal (k:=3) Iq (fun vs H Q E h=>False.elim h) (fun f cdv A outer s H vs Q E hr h=>False.elim h)
 |dd+1=>Uy er d cg br dd (Li d cg br dd)
include er in
theorem Xs (d:Bj K mg "share_by" Fe ["table","difference"])  (cg:A9 P w K mg base "under" ["one","other"] 1 (Jc K ns))(br:A9 P w K mg base "minus" ["one","other"] 3 (Ge K ns)):A9 P w K mg base "share_by" ["table","difference"] 6 (Ob K ns):=Li er d cg br 2
def Kn (K:KKf)(so:Int)(C:HR):Prop:=so=0∧PySem.W.nsIn K mainGlobals "Rule"=some (some (.ref C))
structure Fds (fs:List (Str×V))(so st fi one two:Int)(T:HR):Prop where
 st:fs.lookup ("step":Str)=some (.int st)
 fi:fs.lookup ("first":Str)=some (.int fi)
 tb:fs.lookup ("table":Str)=some (.ref T)
 sz:fs.lookup ("size":Str)=none
 bt:fs.lookup ("bit":Str)=none
 tw:fs.lookup ("twin":Str)=none
theorem B7 {K:KKf}{x:Str}{C D:HR}(h:PySem.W.nsIn K mainGlobals x=some (some (.ref C)))(h':PySem.W.nsIn K mainGlobals x=some (some (.ref D))):C=D:=by
 rw [h] at h'
 cases h'
 rfl
def Hg (K:KKf)(ns:HX):Sp:=fun vs H Q _=>match vs with
 |[.ref a,.int p,.int r]=>∃C dx fs st,(H a=some (.ins C dx fs)∧Ox K C∧NoAttr K C "step"∧fs.lookup ("step":Str)=some (.int st))∧Q (.int st) H
 |_=>False
theorem Akm {vs:ID}{F:HR→Int→Int→Prop}(h:match vs with|[.ref x0,.int x1,.int x2]=>F x0 x1 x2|_=>False):∃x0 x1 x2,vs=[.ref x0,.int x1,.int x2]∧F x0 x1 x2:=by
 match vs,h with
 |[.ref x0,.int x1,.int x2],h=>exact ⟨_,_,_,rfl,h⟩
theorem Ua:Ah ["self","played","rest"] ["self","played","rest"] (Ac Ip):=C5
include er in
theorem U9 (d:Ef K [ai] [] "size" "Rule.size" Ip ["self","played","rest"]):C9 P w K mg base [ai] [] "size" ["self","played","rest"] 1 (Hg K ns):=by
 refine d.cal (k:=0) Ua (fun vs H Q E hq0=>?_) (fun f cdv A outer s H vs Q E hr hq0=>?_)
 ·obtain ⟨_,_,_,rfl,_⟩:=Akm hq0
  rfl
 ·obtain ⟨a,p,r,rfl,⟨C,dx,fs,st,⟨h1,h2,h3,h4⟩,q⟩⟩:=Akm hq0
  refine ⟨_,(@A5 _ _ _ _ (@B0 _ _ _ _ _ (dv 0) (by rfl))),?_⟩
  exact ⟨a,C,dx,fs,_,rfl,h1,h2,h3,h4,q⟩
theorem Ig {f:Str}{v:V}{fs:List (Str×V)}:(Bb f v fs).lookup f=some v:=by rw [Fu,AN rfl]
theorem Aw {f g:Str}{v:V}{fs:List (Str×V)}{o:Option V}(ne:g≠f)(h:fs.lookup g=o):(Bb f v fs).lookup g=o:=by rw [Fu,AI ne,h]
def Sx (x:HR)(H H':Hp):Prop:=∀b o,b≠x→H b=some o→H' b=some o
theorem Sx.upd {x:HR}{H:Hp}{o:HO}:Sx x H (upd H x o):=fun b u ne e=>by rw [Am ne];exact e
theorem Sx.trans {x:HR}{H H1 H2:Hp}(a:Sx x H H1)(b:Sx x H1 H2):Sx x H H2:=fun c o ne e=>b c o ne (a c o ne e)
theorem Sx.of {x:HR}{H H':Hp}(s:Ag H H'):Sx x H H':=fun b o _ e=>s b o e
theorem Sx.kt {x C dx:HR}{fs:List (Str×V)}{H H':Hp}(a:Sx x H H')(h:H x=some (.ins C dx fs)):Kt H H':=fun p xs e=>a p _ (fun z=>by rw [z,h] at e;cases e) e
def Aqd (st fi:Int)(T:HR)(fs:List (Str×V)):List (Str×V):=Bb "table" (.ref T) (Bb "first" (.int fi) (Bb "step" (.int st) fs))
def C3 (K:KKf)(ns:HX):Sp:=fun vs H Q _=>match vs with
 |[.ref x,.int st,.int fi,.ref L]=>∃C dx fs rows vs,(H x=some (.ins C dx fs)∧Ox K C∧NoAttr K C "step"∧NoAttr K C "first"∧NoAttr K C "table"∧fs.length<900∧H L=some (.lst vs)∧Ax (Gc K H) vs rows∧S0 rows) ∧
  ∀T H',Sx x H H'→T≠x→H T=none→H' T=some (.lst vs)→H' x=some (.ins C dx (Aqd st fi T fs))→Q .non H'
 |_=>False
theorem Ahi {vs:ID}{F:HR→Int→Int→HR→Prop}(h:match vs with|[.ref x0,.int x1,.int x2,.ref x3]=>F x0 x1 x2 x3|_=>False):∃x0 x1 x2 x3,vs=[.ref x0,.int x1,.int x2,.ref x3]∧F x0 x1 x2 x3:=by
 match vs,h with
 |[.ref x0,.int x1,.int x2,.ref x3],h=>exact ⟨_,_,_,_,rfl,h⟩
theorem Ms:Ah ["self","step","first","table"] ["self","step","first","table"] (Ac E4):=C5
include er in
theorem Mq (d:Ef K [ai] [] "__init__" "Rule.__init__" E4 ["self","step","first","table"])  (eG:A9 P w K mg base "table_of" ["rows"] 5 (N9 K ns)):C9 P w K mg base [ai] [] "__init__" ["self","step","first","table"] 6 (C3 K ns):=by
 refine d.cal (k:=5) Ms (fun vs H Q E hq0=>?_) (fun f cdv A outer s H vs Q E hr hq0=>?_)
 ·obtain ⟨_,_,_,_,rfl,_⟩:=Ahi hq0
  rfl
 ·obtain ⟨x,st,fi,L,rfl,⟨C,dx,fs,rows,vs,⟨h1,h2,n1,n2,n3,l9,hL,al,good⟩,k⟩⟩:=Ahi hq0
  refine ⟨_,(@Aa _ _ _ _ _ (@G2 _ _ _ _ _ _ _ _ (dv 0) (dv 1) rfl) (@Aa _ _ _ _ _ (@G2 _ _ _ _ _ _ _ _ (dv 0) (dv 2) rfl) (@Ar _ _ _ (@G2 _ _ _ _ _ _ _ _ (dv 0) (@Af _ _ _ _ _ _ _ _ _ _ _ eG hr (@Ba _ _ _ (dv 3) (by rfl)) (by trivial)) rfl)))),?_⟩
  have l1:=Cg "step" (.int st) fs
  have l2:=Cg "first" (.int fi) (Bb "step" (.int st) fs)
  have nL:L≠x:=fun z=>by rw [z,h1] at hL;cases hL
  refine ⟨x,C,dx,fs,rfl,h1,h2,n1,by omega,⟨x,C,dx,_,rfl,Ad,h2,n2,by omega,?_⟩⟩
  have s2:Sx x H (upd (upd H x (.ins C dx (Bb "step" (.int st) fs))) x (.ins C dx (Bb "first" (.int fi) (Bb "step" (.int st) fs)))):=Sx.trans Sx.upd Sx.upd
  have e2:upd (upd H x (.ins C dx (Bb "step" (.int st) fs))) x (.ins C dx (Bb "first" (.int fi) (Bb "step" (.int st) fs))) x=some (.ins C dx (Bb "first" (.int fi) (Bb "step" (.int st) fs))):=Ad
  generalize upd (upd H x (.ins C dx (Bb "step" (.int st) fs))) x (.ins C dx (Bb "first" (.int fi) (Bb "step" (.int st) fs)))=H2 at s2 e2
  have hL2:=s2 _ _ nL hL
  have al2:Ax (Gc K H2) vs rows:=al.imp fun v g r=>Dy v g _ _ (s2.kt h1) r
  have lv:vs.length=rows.length:=al.len
  have lr:=good.1
  refine ⟨vs,rows,⟨hL2,al2,good⟩,fun T H3 s3 n3' e3=>?_⟩
  have nT:T≠x:=fun z=>by rw [z,e2] at n3';cases n3'
  refine ⟨x,C,dx,_,rfl,s3 _ _ e2,h2,n3,by omega,?_⟩
  refine k T _ (s2.trans (Sx.trans (Sx.of s3) Sx.upd)) nT ?_ (by rw [Am nT];exact e3) Ad
  cases e:H T with
  |none=>rfl
  |some o=>
   rw [s2 _ _ nT e] at n3'
   cases n3'
theorem fd0 {st fi:Int}{T:HR}{fs:List (Str×V)}(h:fs=[]):Fds (Aqd st fi T fs) 0 st fi 0 0 T:=by
 subst h
 exact ⟨Aw (by decide +kernel) (Aw (by decide +kernel) Ig),Aw (by decide +kernel) Ig,Ig,Aw (by decide +kernel) (Aw (by decide +kernel) (Aw (by decide +kernel) rfl)),Aw (by decide +kernel) (Aw (by decide +kernel) (Aw (by decide +kernel) rfl)),Aw (by decide +kernel) (Aw (by decide +kernel) (Aw (by decide +kernel) rfl))⟩
def Yl (so st one two p r:Int):Int:=if so=1∧p<two then one else if so=2∧one<r then st*two else st
structure Nb (st one two:Int):Prop where
 s0:0≤st
 s1:st≤1000000
 o0:0≤one
 o1:one≤1000001
 t0:0≤two
 t1:two≤1000001
theorem Nb.bst {st one two:Int}(h:Nb st one two):Bd 40 st:=Dm (b:=1000001) (by have:=h.s0;omega) (by have:=h.s1;omega) (A0 rfl)
theorem Nb.bon {st one two:Int}(h:Nb st one two):Bd 40 one:=Dm (b:=1000001) (by have:=h.o0;omega) h.o1 (A0 rfl)
theorem Nb.btw {st one two:Int}(h:Nb st one two):Bd 40 two:=Dm (b:=1000001) (by have:=h.t0;omega) h.t1 (A0 rfl)
theorem Agk {so st one two p r:Int}(h:Nb st one two):Bd 80 (Yl so st one two p r):=by
 unfold Yl
 split
 ·exact h.bon.mono (by decide)
 ·split
  ·exact h.bst.mul h.btw
  ·exact h.bst.mono (by decide)
def SzT (K:KKf)(T:List (HR×Sp)):Prop:=∀so C,Kn K so C→∃sp,(C,sp)∈T∧∀fs st fi one two Tb,Fds fs so st fi one two Tb→Nb st one two→∀a dx H p r Q,H a=some (.ins C dx fs)→Q (.int (Yl so st one two p r)) H→sp [.ref a,.int p,.int r] H Q E0
theorem Arf {K:KKf}{ns:HX}{c0:HR}(y0:PySem.W.nsIn K mainGlobals "Rule"=some (some (.ref c0)))(l0:Ox K c0)(n0:NoAttr K c0 "step"):SzT K [(c0,Hg K ns)]:=by
 rintro so C ⟨rfl,h⟩
 have z:=B7 h y0
 subst z
 refine ⟨_,.head _,fun fs st fi one two Tb f b a dx H p r Q e q=>⟨_,dx,fs,st,⟨e,l0,n0,f.st⟩,?_⟩⟩
 have:Yl 0 st one two p r=st:=by
  unfold Yl
  rw [AI (fun c=>absurd c.1 (by decide)),AI (fun c=>absurd c.1 (by decide))]
 rw [this] at q
 exact q
theorem Am1 {rows:List Rw}(tb:Tb rows)(t b:Int):0≤(O0 rows t b).1∧(O0 rows t b).1≤(O0 rows t b).2∧0<(O0 rows t b).2∧(O0 rows t b).2≤9999:=by
 by_cases h:t<0
 ·obtain ⟨r,hr,e⟩:=O2 (b:=b) tb (show 0≤-t by omega) (0,1)
  have o:=tb.ok r hr
  have e':O0 rows t b=(r.2.2-r.2.1,r.2.2):=by
   rw [Tq h,Kq (show 0≤-t by omega),e]
  rw [e']
  have o1:=o.t0
  have o2:=o.tb
  have o3:=o.b0
  have o4:=o.b1
  exact ⟨by show 0≤r.2.2-r.2.1;omega,by show r.2.2-r.2.1≤r.2.2;omega,o3,o4⟩
 ·obtain ⟨r,hr,e⟩:=O2 (b:=b) tb (show 0≤t by omega) (0,1)
  have o:=tb.ok r hr
  rw [Kq (by omega),e]
  exact ⟨o.t0,o.tb,o.b0,o.b1⟩
def unT (z h:Int)(x:Q2):Int:=z*(h*x.2-2*x.1)
def unB (x:Q2):Int:=2*x.2
def unQ (z h:Int)(x:Q2):Q2:=(Qz (unT z h x) (unB x),Oj (unT z h x) (unB x))
structure ShQ (x:Q2):Prop where
 t0:0≤x.1
 tb:x.1≤x.2
 b0:0<x.2
 b1:x.2≤9999
theorem U1 {rows:List Rw}(tb:Tb rows)(t b:Int):ShQ (O0 rows t b):=by
 obtain ⟨h1,h2,h3,h4⟩:=Am1 tb t b
 exact ⟨h1,h2,h3,h4⟩
theorem ShQ.bT {x:Q2}{z h:Int}(s:ShQ x)(hz:Bd 80 z)(h0:0≤h)(h2:h≤2):Bd 20 h∧Bd 20 x.1∧Bd 20 x.2∧Bd 40 (h*x.2-2*x.1)∧Bd 120 (unT z h x)∧Bd 40 (unB x):=by
 have s0:=s.t0
 have s1:=s.tb
 have s2:=s.b0
 have s3:=s.b1
 have b1:Bd 20 x.1:=Dm (b:=9999) (by omega) (by omega) (A0 rfl)
 have b2:Bd 20 x.2:=Dm (b:=9999) (by omega) (by omega) (A0 rfl)
 have b3:Bd 20 h:=Dm (b:=2) (by omega) (by omega) (A0 rfl)
 have hm:h*x.2≤2*x.2:=Int.mul_le_mul_of_nonneg_right h2 (by omega)
 have hn:=Int.mul_nonneg h0 (show 0≤x.2 by omega)
 have b4:Bd 40 (h*x.2-2*x.1):=Dm (b:=20000) (by omega) (by omega) (A0 rfl)
 exact ⟨b3,b1,b2,b4,hz.mul b4,Dm (b:=20000) (by unfold unB;omega) (by unfold unB;omega) (A0 rfl)⟩
def L7 (K:KKf)(ns:HX):Sp:=fun vs H Q _=>match vs with
 |[.int z,.ref s,.int h]=>∃x:Q2,(V1 K H s [.int x.1,.int x.2]∧ShQ x∧Bd 80 z∧0≤h∧h≤2)∧∀q H',Ag H H'→H' q=some (.tup [.int (unQ z h x).1,.int (unQ z h x).2])→Q (.ref q) H'
 |_=>False
theorem Akj {vs:ID}{F:Int→HR→Int→Prop}(h:match vs with|[.int x0,.ref x1,.int x2]=>F x0 x1 x2|_=>False):∃x0 x1 x2,vs=[.int x0,.ref x1,.int x2]∧F x0 x1 x2:=by
 match vs,h with
 |[.int x0,.ref x1,.int x2],h=>exact ⟨_,_,_,rfl,h⟩
theorem Uc:Ah ["size","share","halves"] ["size","share","halves"] (Ac Jp):=C5
include er in
theorem Uk (d:Bj K mg "uncut_bit" Jp ["size","share","halves"])  (az:A9 P w K mg base "fraction" ["top","bottom"] 2 (Ep K ns)):A9 P w K mg base "uncut_bit" ["size","share","halves"] 3 (L7 K ns):=by
 refine d.cal (k:=2) Uc (fun vs H Q E hq0=>?_) (fun f cdv A outer s H vs Q E hr hq0=>?_)
 ·obtain ⟨_,_,_,rfl,_⟩:=Akj hq0
  rfl
 ·obtain ⟨z,s,h,rfl,⟨x,⟨hs,sh,bz,h0,h2⟩,k⟩⟩:=Akj hq0
  refine ⟨_,(@A5 _ _ _ _ (@Af _ _ _ _ _ _ _ _ _ _ _ az hr (@Aj _ _ _ _ _ (@Al _ _ _ _ _ _ _ _ D9 (dv 0) (@Al _ _ _ _ _ _ _ _ X8 (@Al _ _ _ _ _ _ _ _ D9 (dv 2) (@Em _ _ _ _ _ _ _ (dv 1))) (@Al _ _ _ _ _ _ _ _ D9 Ae (@Em _ _ _ _ _ _ _ (dv 1))))) (@Ba _ _ _ (@Al _ _ _ _ _ _ _ _ D9 Ae (@Em _ _ _ _ _ _ _ (dv 1))) (by rfl)) (by rfl)) (by trivial))),?_⟩
  obtain ⟨b1,b2,b3,b4,b5,b6⟩:=sh.bT bz h0 h2
  have p:=sh.b0
  exact ⟨_,hs.sq,Wg b1 b3 (by decide) (by decide),_,hs.sq,Wg (A0 (n:=20) rfl) b2 (by decide) (by decide),Wg bz b4 (by decide) (by decide),_,hs.sq,Wg (A0 (n:=20) rfl) b3 (by decide) (by decide),⟨by show 2*x.2≠0;omega,b6.mono (by decide)⟩,fun q H' s e=>k q H' s e.at'⟩
def Al6 (x:Q2)(c:Int):Q2:=if c*x.2<x.1 then (c,1) else if x.1 < -c*x.2 then (-c,1) else x
def Am5 (so st one two p r h:Int)(x:Q2):Q2:=if so=3 then Al6 (unQ (Yl so st one two p r) h x) one else unQ (Yl so st one two p r) h x
def Oh (K:KKf)(H:Hp)(a:HR)(so st fi one two:Int)(rows:List Rw):Prop:=∃C dx fs T,H a=some (.ins C dx fs)∧Kn K so C∧Fds fs so st fi one two T∧TbA K H T rows
theorem Oh.up {K:KKf}{H H':Hp}{a:HR}{so st fi one two:Int}{rows:List Rw}(s:Ag H H'):Oh K H a so st fi one two rows→Oh K H' a so st fi one two rows:=fun ⟨C,dx,fs,T,e,k,f,t⟩=>⟨C,dx,fs,T,s _ _ e,k,f,t.up s⟩
def Ii (K:KKf)(ns:HX):Sp:=fun vs H Q _=>match vs with
 |[.ref a,.ref d,.int h,.int p,.int r]=>∃(so st fi one two:Int) (rows:List Rw) (x:Q2),(Oh K H a so st fi one two rows∧so≠3∧Tb rows∧Nb st one two∧Fq 1700 H d x.1 x.2∧0≤h∧h≤2)∧∀q H',Ag H H'→H' q=some (.tup [.int (Am5 so st one two p r h (O0 rows x.1 x.2)).1,.int (Am5 so st one two p r h (O0 rows x.1 x.2)).2])→Q (.ref q) H'
 |_=>False
theorem Aa2 {vs:ID}{F:HR→HR→Int→Int→Int→Prop}(h:match vs with|[.ref x0,.ref x1,.int x2,.int x3,.int x4]=>F x0 x1 x2 x3 x4|_=>False):∃x0 x1 x2 x3 x4,vs=[.ref x0,.ref x1,.int x2,.int x3,.int x4]∧F x0 x1 x2 x3 x4:=by
 match vs,h with
 |[.ref x0,.ref x1,.int x2,.int x3,.int x4],h=>exact ⟨_,_,_,_,_,rfl,h⟩
theorem W7:Ah ["self","difference","halves","played","rest"] ["self","difference","halves","played","rest"] (Ac Kr):=C5
include er in
theorem Xh (d:Ef K [ai] [] "bit" "Rule.bit" Kr ["self","difference","halves","played","rest"])  (dE:A9 P w K mg base "uncut_bit" ["size","share","halves"] 3 (L7 K ns))(cM:A9 P w K mg base "share_by" ["table","difference"] 6 (Ob K ns))(dG:C9 P w K mg base [ai] [] "size" ["self","played","rest"] 1 (Hg K ns)):C9 P w K mg base [ai] [] "bit" ["self","difference","halves","played","rest"] 7 (Ii K ns):=by
 refine d.cal (k:=6) W7 (fun vs H Q E hq0=>?_) (fun f cdv A outer s H vs Q E hr hq0=>?_)
 ·obtain ⟨_,_,_,_,_,rfl,_⟩:=Aa2 hq0
  rfl
 ·obtain ⟨a,d,h,p,r,rfl,⟨so,st,fi,one,two,rows,x,⟨⟨C,dx,fs,T,e,kn,f,ht⟩,n3,tb,b,fx,h0,h2⟩,k⟩⟩:=Aa2 hq0
  refine ⟨_,(@A5 _ _ _ _ (@Af _ _ _ _ _ _ _ _ _ _ _ dE hr (@Aj _ _ _ _ _ (@O9 _ _ _ _ _ _ _ _ _ _ _ _ (dv 0) (@Dq _ _ _ _ _ _ _ _ _ _ _ _ _ _ dG (List.Mem.head _) er.l_Rule (by decide) Fo) hr (@Ab _ _ _ _ _ (dv 3) (@Ab _ _ _ _ _ (dv 4) Ai (by rfl)) (by rfl)) (by rfl) (by rfl) (by rfl)) (@Aj _ _ _ _ _ (@Af _ _ _ _ _ _ _ _ _ _ _ cM hr (@Aj _ _ _ _ _ (@B0 _ _ _ _ _ (dv 0) (by rfl)) (@Ba _ _ _ (dv 1) (by rfl)) (by rfl)) (by trivial)) (@Ba _ _ _ (dv 2) (by rfl)) (by rfl)) (by rfl)) (by trivial))),?_⟩
  obtain ⟨sp,hm,hs⟩:=Arf (ns:=ns) er.y_Rule er.l_Rule er.na_Rule_step so C kn
  have cn:Ox K C∧NoAttr K C "table":=B7 er.y_Rule kn.2▸⟨er.l_Rule,er.na_Rule_table⟩
  refine ⟨a,C,dx,fs,sp,rfl,e,hm,f.sz,hs fs st fi one two T f b a dx H p r _ e ?_⟩
  refine ⟨a,C,dx,fs,_,rfl,e,cn.1,cn.2,f.tb,rows,x,⟨ht,tb,fx,fun _=>by decide⟩,fun q H1 s1 e1=>?_⟩
  refine ⟨O0 rows x.1 x.2,⟨e1,U1 tb _ _,Agk b,h0,h2⟩,fun q2 H2 s2 e2=>k q2 H2 (s1.trans s2) ?_⟩
  rw [show Am5 so st one two p r h (O0 rows x.1 x.2)=unQ (Yl so st one two p r) h (O0 rows x.1 x.2) from AI n3]
  exact e2
def btQ (so one z h:Int)(x:Q2):Q2:=if so=3 then Al6 (unQ z h x) one else unQ z h x
abbrev Bq:Pos:=⟨130,29,130,53⟩
abbrev Ek:Str:=Str.ofString "in_order"++Str.ofString ".<locals>."++Str.ofString "<lambda>"
abbrev Bn (K:KKf):HR:=Vi K "in_order"
def dk (gs:IE)(i:Nat):Int:=match gs[i]? with
 |some g=>g.d
 |none=>0
theorem Alj {key:Nat→Int}{n:Nat}{p:IC}(h:Jr key n p):p.Nodup:=h.2.2.imp fun {a b} l e=>by
 subst e
 rcases l with l|⟨_,l⟩
 ·exact Int.lt_irrefl _ l
 ·exact DM _ l
theorem P2 {key:Nat→Int}{n:Nat}{p:IC}(h:Jr key n p):p.Perm (List.range n):=by
 have nd:=Alj h
 refine (List.perm_ext_iff_of_nodup nd List.nodup_range).mpr fun i=>⟨fun hi=>BZ.mpr (h.2.1 i hi),fun hi=>?_⟩
 refine GH fun c=>?_
 have:=G3 (l:=i::p) (m:=List.range n) (DI.mpr ⟨c,nd⟩) fun x hx=>by
  rcases AU.mp hx with rfl|hx
  ·exact hi
  ·exact BZ.mpr (h.2.1 x hx)
 rw [AY,DR,h.1] at this
 omega
theorem Pb {key:Nat→Int}{n:Nat}{p q:IC}(hp:Jr key n p)(hq:Jr key n q):p=q:=by
 refine List.Perm.eq_of_pairwise (le:=Lt key) (fun a b _ _ l l'=>?_) hp.2.2 hq.2.2 ((P2 hp).trans (P2 hq).symm)
 rcases l with l|⟨e,l⟩
 ·rcases l' with l'|⟨e',l'⟩<;>omega
 ·rcases l' with l'|⟨e',l'⟩<;>omega
def Ml (P:HR)(H H':Hp):Prop:=∀b o,b≠P→H b=some o→H' b=some o
def pk (vs:ID)(p:IC):ID:=p.map fun i=>vs.getD i .non
theorem Ao3 {H:Hp}{vs:ID}{gs:IE}(a:Ax (B4 H) vs gs){i:Nat}{v:V}(e:vs[i]? =some v):∃g,gs[i]? =some g∧B4 H v g∧dk gs i=g.d:=by
 obtain ⟨g,h1,h2⟩:=a.get e
 refine ⟨g,h1,h2,?_⟩
 unfold dk
 rw [h1]
def Fx (K:KKf)(ns:HX):Sp:=fun vs H Q _=>match vs with
 |[.ref L]=>∃(gs:IE) (xs:ID),(A1 K H L xs∧Ax (B4 H) xs gs∧gs.length<64∧Au H (Bn K) Bq Ek)∧∀D H' p,Ml (Bn K) H H'→H D=none→H' D=some (.lst (pk xs p))→Au H' (Bn K) Bq Ek→Jr (dk gs) gs.length p→Q (.ref D) H'
 |_=>False
theorem Wa:Ah ["games"] ["games"] (Ac Di):=C5
include er aq in
theorem Wh (d:Bj K mg "in_order" Di ["games"])(tk:Amb K mg base "in_order"):A9 P w K mg base "in_order" ["games"] 3 (Fx K ns):=by
 refine d.calT (k:=2) tk Wa (fun vs H Q E hq0=>?_) (fun f cdv A outer s H vs Q E tf hr hq0=>?_)
 ·obtain ⟨_,rfl,_⟩:=Js hq0
  rfl
 ·obtain ⟨L,rfl,⟨gs,xs,⟨hx,hm,hl,hT⟩,k⟩⟩:=Js hq0
  refine ⟨_,(@A5 _ _ _ _ (@Aka _ _ _ _ _ _ _ _ _ _ _ _ _ (0) tf hr (by rfl) aq (@Ab _ _ _ _ _ (dv 0) Ai (by rfl)) (by decide) (by rfl) (by intros;rfl))),?_⟩
  refine ⟨L,xs,dk gs,rfl,hx,by rw [hm.len];exact hl,fun i v e=>?_,hT,fun D H2 p s d e t st=>k D H2 p s d e t (by rw [←hm.len];exact st)⟩
  obtain ⟨g,h1,⟨a,rfl,ea⟩,h3⟩:=Ao3 hm e
  rw [h3]
  exact ⟨a,_,rfl,ea⟩
def BtT (K:KKf)(T:List (HR×Sp)):Prop:=∀so C,Kn K so C→∃sp,(C,sp)∈T∧∀a H st fi one two rows d h p r Q (x:Q2),Oh K H a so st fi one two rows→Tb rows→Nb st one two→Fq 1700 H d x.1 x.2→0≤h→h≤2→(∀q H',Ag H H'→H' q=some (.tup [.int (btQ so one (Yl so st one two p r) h (O0 rows x.1 x.2)).1,.int (btQ so one (Yl so st one two p r) h (O0 rows x.1 x.2)).2])→Q (.ref q) H')→sp [.ref a,.ref d,.int h,.int p,.int r] H Q E0
theorem Ari {K:KKf}{ns:HX}{c0:HR}(y0:PySem.W.nsIn K mainGlobals "Rule"=some (some (.ref c0))):BtT K [(c0,Ii K ns)]:=by
 rintro so C ⟨rfl,h⟩
 have z:=B7 h y0
 subst z
 exact ⟨_,.head _,fun a H st fi one two rows d h p r Q x hR tb b f h0 h2 k=>⟨0,st,fi,one,two,rows,x,⟨hR,by decide,tb,b,f,h0,h2⟩,k⟩⟩
theorem We {K:KKf}{H:Hp}:∀(us:HX),Q8 K H (us.map V.int) (us.map PyData.int)
 |[]=>.nil
 |u::us=>.cons (.int _) (We us)
theorem Abg:∀(us:HX),PyData.canLayAll0 (us.map PyData.int)=true
 |[]=>rfl
 |u::us=>by
  show (true&&PyData.canLayAll0 (us.map PyData.int))=true
  rw [Abg us]
  rfl
theorem Abq:∀(us:HX),PyData.depthAll (us.map PyData.int)=0
 |[]=>rfl
 |u::us=>by
  show max 0 (PyData.depthAll (us.map PyData.int))=0
  rw [Abq us]
  rfl
theorem Ajw (us:HX):SeqAt.shaped (.list (us.map PyData.int))=true:=by
 unfold SeqAt.shaped
 have e:(PyData.list (us.map PyData.int)).depth=PyData.depthAll (us.map PyData.int)+1:=rfl
 have:=Abq us
 rw [show (PyData.list (us.map PyData.int)).canLay0=true from Abg us,e,FF]
 exact AQ (by omega)
structure Ps where
 q:Q2
 n:Nat
 l:Int
abbrev Wn:=Str→Option Ps
def wq (fi:Int):Option Ps→Q2
 |some p=>p.q
 |none=>(fi,1)
def Z5:Option Ps→Nat
 |some p=>p.n
 |none=>0
def wr (d:Int):Option Ps→Int
 |some p=>d-p.l
 |none=>0
def mn (i j:Int):Int:=if j<i then j else i
def mx (i j:Int):Int:=if j>i then j else i
def lsd (d:Int):Option Int→Int
 |some l=>d-l
 |none=>0
def Jh (K:KKf)(ns:HX):Sp:=fun vs H Q _=>match vs with
 |[.ref L,.int d]=>∃xs:HX,H L=some (.lst (xs.map V.int))∧∀H',Ag H H'→Q (.int (lsd d xs.getLast?)) H'
 |_=>False
theorem Q0 {vs:ID}{F:HR→Int→Prop}(h:match vs with|[.ref x0,.int x1]=>F x0 x1|_=>False):∃x0 x1,vs=[.ref x0,.int x1]∧F x0 x1:=by
 match vs,h with
 |[.ref x0,.int x1],h=>exact ⟨_,_,rfl,h⟩
theorem Pw:Ah ["days","day"] ["days","day"] (Ac Ga):=C5
include er in
theorem Qb (d:Bj K mg "rest_behind" Ga ["days","day"]):A9 P w K mg base "rest_behind" ["days","day"] 1 (Jh K ns):=by
 refine d.cal (k:=0) Pw (fun vs H Q E hq0=>?_) (fun f cdv A outer s H vs Q E hr hq0=>?_)
 ·obtain ⟨_,_,rfl,_⟩:=Q0 hq0
  rfl
 ·obtain ⟨L,d,rfl,⟨xs,hL,k⟩⟩:=Q0 hq0
  refine ⟨_,(@A5 _ _ _ _ (@Yq _ _ _ _ _ _ _ _ (@Bl _ _ _ _ _ _ _ _ (@X4 _ hr.units) (dv 0) (@E5 _ _ _ _ Ai) (Ay _)) Ae (@Al _ _ _ _ _ _ _ _ X8 (dv 1) (@Eb _ _ _ _ _ _ _ Ht (dv 0) (@Le _ _ _ _ _ _ Mj Ae) (fun _ _=>rfl))))),?_⟩
  intro E0' H1 s1 e1
  have hL1:=s1 _ _ hL
  refine ⟨_,_,.lst (A1.of hL1) (We xs),.lst (A1.of e1) .nil,Ajw xs,rfl,?_⟩
  cases xs with
  |nil=>exact ⟨fun _=>k H1 s1,fun h=>absurd (show PyData.eqv (.list []) (.list [])=false from h) (by decide)⟩
  | cons x xs=>
   have ne:PyData.eqv (.list ((x::xs).map PyData.int)) (.list [])=false:=rfl
   rw [ne]
   refine ⟨fun h=>nb h,fun _=>?_⟩
   obtain ⟨l,hl⟩:∃l,(x::xs).getLast? =some l:=by
    cases c:(x::xs).getLast? with
    |none=>simp at c
    |some l=>exact ⟨l,rfl⟩
   refine ⟨_,.int l,A1.of hL1,Yd (by rw [List.getLast?_map,hl];rfl),?_⟩
   have:=k H1 s1
   rw [hl] at this
   exact this
structure Sd where
 g:Gm
 x:Q2
 y:Q2
 b:Q2
def Tu (H:Hp)(v:V)(s:Sd):Prop:=∃t pg px py pb,v=.ref t∧H t=some (.tup [.ref pg,.ref px,.ref py,.ref pb])∧H pg=some (.tup [.int s.g.d,.str s.g.a,.str s.g.b,.int s.g.h,.int s.g.s])∧H px=some (.tup [.int s.x.1,.int s.x.2])∧H py=some (.tup [.int s.y.1,.int s.y.2])∧H pb=some (.tup [.int s.b.1,.int s.b.2])
theorem Qq (v:V)(s:Sd)(H H':Hp)(k:Kt H H')(h:Tu H v s):Tu H' v s:=by
 obtain ⟨t,pg,px,py,pb,e,h0,h1,h2,h3,h4⟩:=h
 exact ⟨t,pg,px,py,pb,e,k _ _ h0,k _ _ h1,k _ _ h2,k _ _ h3,k _ _ h4⟩
def plQ (x y:Q2):Q2:=(Qz (x.1*y.2+y.1*x.2) (x.2*y.2),Oj (x.1*y.2+y.1*x.2) (x.2*y.2))
def Zl (x y:Q2):Q2:=(Qz (x.1*y.2-y.1*x.2) (x.2*y.2),Oj (x.1*y.2-y.1*x.2) (x.2*y.2))
structure Sq (n:Nat)(x:Q2):Prop where
 pos:0<x.2
 ba:Bd n x.1
 bb:Bd n x.2
theorem Sq.fq {n m:Nat}{H:Hp}{p:HR}{x:Q2}(s:Sq n x)(l:n≤m)(e:H p=some (.tup [.int x.1,.int x.2])):Fq m H p x.1 x.2:=⟨e,s.pos,s.ba.mono l,s.bb.mono l⟩
def Tz (K:KKf)(ns:HX):Sp:=fun vs H Q _=>match vs with
 |[.ref W,v]=>∃(kvs:List (B3×V)) (s:Sd),(H W=some (.dK kvs)∧kvs.length≤100∧Tu H v s∧Sq 900 s.x∧Sq 900 s.y∧Sq 900 s.b)∧∀p1 p2 H',Sx W H H'→p1≠W→p2≠W→H' p1=some (.tup [.int (plQ s.x s.b).1,.int (plQ s.x s.b).2])→H' p2=some (.tup [.int (Zl s.y s.b).1,.int (Zl s.y s.b).2])→H' W=some (.dK (Dj (Dj kvs (Sum.inr s.g.a) (.ref p1)) (Sum.inr s.g.b) (.ref p2)))→Q .non H'
 |_=>False
theorem Xb {vs:ID}{F:HR→V→Prop}(h:match vs with|[.ref x0,x1]=>F x0 x1|_=>False):∃x0 x1,vs=[.ref x0,x1]∧F x0 x1:=by
 match vs,h with
 |[.ref x0,x1],h=>exact ⟨_,_,rfl,h⟩
theorem Ai5:Ah ["worths","step"] ["worths","step"] (Ac Z6):=C5
include er in
theorem Aig (d:Bj K mg "move" Z6 ["worths","step"])  (br:A9 P w K mg base "minus" ["one","other"] 3 (Ge K ns))(gI:A9 P w K mg base "plus" ["one","other"] 3 (Aco K ns)):A9 P w K mg base "move" ["worths","step"] 4 (Tz K ns):=by
 refine d.cal (k:=3) Ai5 (fun vs H Q E hq0=>?_) (fun f cdv A outer s H vs Q E hr hq0=>?_)
 ·obtain ⟨_,_,rfl,_⟩:=Xb hq0
  rfl
 ·obtain ⟨W,v,rfl,⟨kvs,s,⟨hW,lk,⟨t,pg,px,py,pb,ev,h0,h1,h2,h3,h4⟩,sx,sy,sb⟩,k⟩⟩:=Xb hq0
  refine ⟨_,(@Aa _ _ _ _ _ (@O5 _ _ _ _ _ _ _ _ _ (@u1 _ _ hr.units) (dv 0) (@Bg _ _ _ _ _ _ _ (@Bg _ _ _ _ _ _ _ (dv 1))) (@Af _ _ _ _ _ _ _ _ _ _ _ gI hr (@Aj _ _ _ _ _ (@Bg _ _ _ _ _ _ _ (dv 1)) (@Ba _ _ _ (@Bg _ _ _ _ _ _ _ (dv 1)) (by rfl)) (by rfl)) (by trivial)) rfl) (@Ar _ _ _ (@O5 _ _ _ _ _ _ _ _ _ (@u1 _ _ hr.units) (dv 0) (@Bg _ _ _ _ _ _ _ (@Bg _ _ _ _ _ _ _ (dv 1))) (@Af _ _ _ _ _ _ _ _ _ _ _ br hr (@Aj _ _ _ _ _ (@Bg _ _ _ _ _ _ _ (dv 1)) (@Ba _ _ _ (@Bg _ _ _ _ _ _ _ (dv 1)) (by rfl)) (by rfl)) (by trivial)) rfl))),?_⟩
  subst ev
  have ne:∀{b:HR} {xs:ID},H b=some (.tup xs)→b≠W:=fun e z=>by rw [z,hW] at e;cases e
  refine ⟨_,h0,_,h0,s.x,s.b,⟨sx.fq (by decide) h2,sb.fq (by decide) h4⟩,fun p1 H1 s1 f1=>⟨_,s1 _ _ h0,_,s1 _ _ h1,W,_,rfl,W8.k (k:=Sum.inr s.g.a) (s1 _ _ hW) ?_,?_⟩⟩
  ·exact BO lk (by decide)
  have x1:Sx W H (upd H1 W (.dK (Dj kvs (Sum.inr s.g.a) (.ref p1)))):=Sx.trans (Sx.of s1) Sx.upd
  have e1:upd H1 W (.dK (Dj kvs (Sum.inr s.g.a) (.ref p1))) W=some (.dK (Dj kvs (Sum.inr s.g.a) (.ref p1))):=Ad
  have n1:p1≠W:=fun z=>by
   have:=f1.at'
   rw [z,s1 _ _ hW] at this
   cases this
  have g1:upd H1 W (.dK (Dj kvs (Sum.inr s.g.a) (.ref p1))) p1=some (.tup [.int (plQ s.x s.b).1,.int (plQ s.x s.b).2]):=by rw [Am n1];exact f1.at'
  generalize upd H1 W (.dK (Dj kvs (Sum.inr s.g.a) (.ref p1)))=H2 at x1 e1 g1
  have l1:=Dn kvs (Sum.inr s.g.a) (.ref p1)
  have q0:=x1 _ _ (ne h0) h0
  have q1:=x1 _ _ (ne h1) h1
  refine ⟨_,q0,_,q0,s.y,s.b,⟨sy.fq (by decide) (x1 _ _ (ne h3) h3),(sb.fq (m:=1000) (by decide) (x1 _ _ (ne h4) h4)).fa⟩,fun p2 H3 s3 f3=>⟨_,s3 _ _ q0,_,s3 _ _ q1,W,_,rfl,W8.k (k:=Sum.inr s.g.b) (s3 _ _ e1) ?_,?_⟩⟩
  ·exact BO (show _≤101 by omega) (by decide)
  have n2:p2≠W:=fun z=>by
   have:=f3.at'
   rw [z,s3 _ _ e1] at this
   cases this
  exact k p1 p2 _ (x1.trans (Sx.trans (Sx.of s3) Sx.upd)) n1 n2 (by rw [Am n1];exact s3 _ _ g1) (by rw [Am n2];exact f3.at') Ad
def Hz (H:Hp)(W:HR)(n:Nat)(u:Str→Option Q2):Prop:=∃kvs,H W=some (.dK kvs)∧kvs.length≤n∧∀x,(u x=none∧Cf kvs (Sum.inr x)=none)∨∃q p,u x=some q∧Cf kvs (Sum.inr x)=some (.ref p)∧H p=some (.tup [.int q.1,.int q.2])
def Ij (H:Hp)(D:HR)(n:Nat)(v:Str→Option (Nat×Int)):Prop:=∃kvs,H D=some (.dK kvs)∧kvs.length≤n∧∀x,(v x=none∧Cf kvs (Sum.inr x)=none)∨∃m l p xs,v x=some (m,l)∧Cf kvs (Sum.inr x)=some (.ref p)∧H p=some (.lst ((xs:HX).map V.int))∧xs.length=m∧xs.getLast? =some l
def wU (w:Wn):Str→Option Q2:=fun x=>(w x).map Ps.q
def wV (w:Wn):Str→Option (Nat×Int):=fun x=>(w x).map fun s=>(s.n,s.l)
theorem Hz.up {H H':Hp}{W:HR}{n:Nat}{u:Str→Option Q2}(s:Ag H H')(h:Hz H W n u):Hz H' W n u:=by
 obtain ⟨kvs,e,l,a⟩:=h
 exact ⟨kvs,s _ _ e,l,fun x=>(a x).imp id fun ⟨q,p,h1,h2,h3⟩=>⟨q,p,h1,h2,s _ _ h3⟩⟩
theorem Ij.up {H H':Hp}{W:HR}{n:Nat}{v:Str→Option (Nat×Int)}(s:Ag H H')(h:Ij H W n v):Ij H' W n v:=by
 obtain ⟨kvs,e,l,a⟩:=h
 exact ⟨kvs,s _ _ e,l,fun x=>(a x).imp id fun ⟨m,l,p,xs,h1,h2,h3,h4⟩=>⟨m,l,p,xs,h1,h2,s _ _ h3,h4⟩⟩
theorem Hz.get {H:Hp}{W T:HR}{n:Nat}{w:Wn}{fi:Int}(h:Hz H W n (wU w))(x:Str)(e:H T=some (.tup [.int fi,.int 1])):∃o p,Hd H W (.str x) o∧o.getD (.ref T)=.ref p∧H p=some (.tup [.int (wq fi (w x)).1,.int (wq fi (w x)).2]):=by
 obtain ⟨kvs,eW,l,a⟩:=h
 have d:=Hd.k (k:=Sum.inr x) eW
 rcases a x with ⟨h1,h2⟩|⟨q,p,h1,h2,h3⟩
 ·rw [h2] at d
  have:w x=none:=FM.mp h1
  rw [this]
  exact ⟨_,T,d,rfl,e⟩
 ·rw [h2] at d
  obtain ⟨s,hs,rfl⟩:=EA.mp h1
  rw [hs]
  exact ⟨_,p,d,rfl,h3⟩
theorem Ij.get' {H:Hp}{D T:HR}{n:Nat}{v:Str→Option (Nat×Int)}(h:Ij H D n v)(x:Str)(e:H T=some (.lst [])):∃o p xs,Hd H D (.str x) o∧o.getD (.ref T)=.ref p∧H p=some (.lst ((xs:HX).map V.int))∧((v x=none∧xs=[])∨∃m l,v x=some (m,l)∧xs.length=m∧xs.getLast? =some l):=by
 obtain ⟨kvs,eW,l,a⟩:=h
 have d:=Hd.k (k:=Sum.inr x) eW
 rcases a x with ⟨h1,h2⟩|⟨m,l,p,xs,h1,h2,h3,h4,h5⟩
 ·rw [h2] at d
  exact ⟨_,T,[],d,rfl,e,.inl ⟨h1,rfl⟩⟩
 ·rw [h2] at d
  exact ⟨_,p,xs,d,rfl,h3,.inr ⟨m,l,h1,h4,h5⟩⟩
theorem Ij.get {H:Hp}{D T:HR}{n:Nat}{w:Wn}(h:Ij H D n (wV w))(x:Str)(e:H T=some (.lst [])):∃o p xs,Hd H D (.str x) o∧o.getD (.ref T)=.ref p∧H p=some (.lst ((xs:HX).map V.int))∧xs.length=Z5 (w x)∧∀d,lsd d xs.getLast? =wr d (w x):=by
 obtain ⟨o,p,xs,d,g,q,c⟩:=h.get' x e
 refine ⟨o,p,xs,d,g,q,?_⟩
 rcases c with ⟨h1,rfl⟩|⟨m,l,h1,h4,h5⟩
 ·have:w x=none:=FM.mp h1
  rw [this]
  exact ⟨rfl,fun _=>rfl⟩
 ·obtain ⟨s,hs,e⟩:=EA.mp h1
  cases e
  rw [hs,h5]
  exact ⟨h4,fun _=>rfl⟩
def Hy (so st fi one two:Int)(rows:List Rw)(w:Wn)(g:Gm):Q2:=
 btQ so one (Yl so st one two (mn (Z5 (w g.a)) (Z5 (w g.b))) (mx (wr g.d (w g.a)) (wr g.d (w g.b)))) g.h (O0 rows (Zl (wq fi (w g.a)) (wq fi (w g.b))).1 (Zl (wq fi (w g.a)) (wq fi (w g.b))).2)
theorem Amn {n m:Nat}{H:Hp}{p:HR}{x y:Q2}(sx:Sq n x)(sy:Sq n y)(l:n+n+1≤m)(f:Adl H p (x.1*y.2-y.1*x.2) (x.2*y.2)):Fq m H p (Zl x y).1 (Zl x y).2:=
 (f.fq (n:=m) (HN (EC sx.pos sy.pos)) ((Bd.sub (sx.ba.mul sy.bb) (sy.ba.mul sx.bb)).mono l) ((sx.bb.mul sy.bb).mono (by omega)))
def Lz (K:KKf)(ns:HX):Sp:=fun vs H Q _=>match vs with
 |[.ref r,.ref W,.ref D,.ref pg]=>∃(so st fi one two:Int) (rows:List Rw) (w:Wn) (n:Nat) (g:Gm),(Oh K H r so st fi one two rows∧Tb rows∧Nb st one two∧Hz H W n (wU w)∧Ij H D n (wV w)∧H pg=some (.tup [.int g.d,.str g.a,.str g.b,.int g.h,.int g.s])∧0≤g.h∧g.h≤2∧Sq 800 (wq fi (w g.a))∧Sq 800 (wq fi (w g.b))) ∧
  ∀v H',Ag H H'→Tu H' v ⟨g,wq fi (w g.a),wq fi (w g.b),Hy so st fi one two rows w g⟩→Q v H'
 |_=>False
theorem Af9 {vs:ID}{F:HR→HR→HR→HR→Prop}(h:match vs with|[.ref x0,.ref x1,.ref x2,.ref x3]=>F x0 x1 x2 x3|_=>False):∃x0 x1 x2 x3,vs=[.ref x0,.ref x1,.ref x2,.ref x3]∧F x0 x1 x2 x3:=by
 match vs,h with
 |[.ref x0,.ref x1,.ref x2,.ref x3],h=>exact ⟨_,_,_,_,rfl,h⟩
theorem Cj:Ah ["rule","worths","days","played","before","other_before","own","others","fewest","longest"] ["rule","worths","days","played"] (Ac Jd):=C5
include er gu fC ak in
theorem U8 (d:Bj K mg "next_step" Jd ["rule","worths","days","played"])  (eI:C9 P w K mg base [ai] [] "bit" ["self","difference","halves","played","rest"] 7 (Ii K ns))(br:A9 P w K mg base "minus" ["one","other"] 3 (Ge K ns))(bR:A9 P w K mg base "rest_behind" ["days","day"] 1 (Jh K ns)):A9 P w K mg base "next_step" ["rule","worths","days","played"] 8 (Lz K ns):=by
 refine d.cal (k:=7) Cj (fun vs H Q E hq0=>?_) (fun f cdv A outer s H vs Q E hr hq0=>?_)
 ·obtain ⟨_,_,_,_,rfl,_⟩:=Af9 hq0
  rfl
 ·obtain ⟨r,W,D,pg,rfl,⟨so,st,fi,one,two,rows,w,n,g,⟨hR,tb,b,hW,hD,hg,h0,h2,sa,sb⟩,k⟩⟩:=Af9 hq0
  refine ⟨_,(@Aa _ _ _ _ _ (@Ak _ _ _ (4) _ _ _ Cj.nd (@Iv _ _ _ _ _ _ _ _ _ (@u1 _ _ hr.units) (dv 1) (@Bg _ _ _ _ _ _ _ (dv 3)) (@B8 _ _ _ _ _ (@Ab _ _ _ _ _ (@B0 _ _ _ _ _ (dv 0) (by rfl)) (@Ab _ _ _ _ _ Ae Ai (by rfl)) (by rfl))) ⟨rfl,rfl,rfl,rfl⟩) (by trivial)) (@Aa _ _ _ _ _ (@Ak _ _ _ (5) _ _ _ Cj.nd (@Iv _ _ _ _ _ _ _ _ _ (@u1 _ _ hr.units) (dv 1) (@Bg _ _ _ _ _ _ _ (dv 3)) (@B8 _ _ _ _ _ (@Ab _ _ _ _ _ (@B0 _ _ _ _ _ (dv 0) (by rfl)) (@Ab _ _ _ _ _ Ae Ai (by rfl)) (by rfl))) ⟨rfl,rfl,rfl,rfl⟩) (by trivial)) (@Aa _ _ _ _ _ (@Ak _ _ _ (6) _ _ _ Cj.nd (@Iv _ _ _ _ _ _ _ _ _ (@u1 _ _ hr.units) (dv 2) (@Bg _ _ _ _ _ _ _ (dv 3)) (@E5 _ _ _ _ Ai) ⟨rfl,rfl,rfl,rfl⟩) (by trivial)) (@Aa _ _ _ _ _ (@Ak _ _ _ (7) _ _ _ Cj.nd (@Iv _ _ _ _ _ _ _ _ _ (@u1 _ _ hr.units) (dv 2) (@Bg _ _ _ _ _ _ _ (dv 3)) (@E5 _ _ _ _ Ai) ⟨rfl,rfl,rfl,rfl⟩) (by trivial)) (@Aa _ _ _ _ _ (@Ak _ _ _ (8) _ _ _ Cj.nd (@Ao _ _ _ _ _ _ _ _ _ (@S8 _ rfl) fC (by decide +kernel) (@Aj _ _ _ _ _ (@Ao _ _ _ _ _ _ _ _ _ C4 ak (by decide +kernel) (@Ba _ _ _ (dv 6) (by rfl)) (by trivial)) (@Ba _ _ _ (@Ao _ _ _ _ _ _ _ _ _ C4 ak (by decide +kernel) (@Ba _ _ _ (dv 7) (by rfl)) (by trivial)) (by rfl)) (by rfl)) (by trivial)) (by trivial)) (@Aa _ _ _ _ _ (@Ak _ _ _ (9) _ _ _ Cj.nd (@Ao _ _ _ _ _ _ _ _ _ (@Adg _ rfl) gu (by decide +kernel) (@Aj _ _ _ _ _ (@Af _ _ _ _ _ _ _ _ _ _ _ bR hr (@Aj _ _ _ _ _ (dv 6) (@Ba _ _ _ (@Bg _ _ _ _ _ _ _ (dv 3)) (by rfl)) (by rfl)) (by trivial)) (@Ba _ _ _ (@Af _ _ _ _ _ _ _ _ _ _ _ bR hr (@Aj _ _ _ _ _ (dv 7) (@Ba _ _ _ (@Bg _ _ _ _ _ _ _ (dv 3)) (by rfl)) (by rfl)) (by trivial)) (by rfl)) (by rfl)) (by trivial)) (by trivial)) (@A5 _ _ _ _ (@B8 _ _ _ _ _ (@Ab _ _ _ _ _ (dv 3) (@Ab _ _ _ _ _ (dv 4) (@Ab _ _ _ _ _ (dv 5) (@Ab _ _ _ _ _ (@O9 _ _ _ _ _ _ _ _ _ _ _ _ (dv 0) (@Dq _ _ _ _ _ _ _ _ _ _ _ _ _ _ eI (List.Mem.head _) er.l_Rule (by decide) Fo) hr (@Ab _ _ _ _ _ (@Af _ _ _ _ _ _ _ _ _ _ _ br hr (@Aj _ _ _ _ _ (dv 4) (@Ba _ _ _ (dv 5) (by rfl)) (by rfl)) (by trivial)) (@Ab _ _ _ _ _ (@Bg _ _ _ _ _ _ _ (dv 3)) (@Ab _ _ _ _ _ (dv 8) (@Ab _ _ _ _ _ (dv 9) Ai (by rfl)) (by rfl)) (by rfl)) (by rfl)) (by rfl) (by rfl) (by rfl)) Ai (by rfl)) (by rfl)) (by rfl)) (by rfl)))))))))),?_⟩
  have hR':=hR
  obtain ⟨C,dx,fs,T,e,kn,f,ht⟩:=hR'
  have cn:Ox K C∧NoAttr K C "first":=B7 er.y_Rule kn.2▸⟨er.l_Rule,er.na_Rule_first⟩
  have isW:∀{H':Hp},Hz H' W n (wU w)→IsD H' W:=fun ⟨kvs,z,_⟩=>.inl ⟨kvs,.inl z⟩
  have isD:∀{H':Hp},Ij H' D n (wV w)→IsD H' D:=fun ⟨kvs,z,_⟩=>.inl ⟨kvs,.inl z⟩
  refine ⟨W,rfl,isW hW,_,hg,r,C,dx,fs,_,rfl,e,cn.1,cn.2,f.fi,fun T1 H1 s1 e1=>?_⟩
  obtain ⟨o1,px,d1,g1,q1⟩:=(hW.up s1).get g.a e1
  refine ⟨o1,d1,?_⟩
  rw [g1]
  refine ⟨W,rfl,isW (hW.up s1),_,s1 _ _ hg,r,C,dx,fs,_,rfl,s1 _ _ e,cn.1,cn.2,f.fi,fun T2 H2 s2 e2=>?_⟩
  have s12:=s1.trans s2
  obtain ⟨o2,py,d2,g2,q2⟩:=(hW.up s12).get g.b e2
  refine ⟨o2,d2,?_⟩
  rw [g2]
  have hg2:=s12 _ _ hg
  refine ⟨D,rfl,isD (hD.up s12),_,hg2,fun T3 H3 s3 e3=>?_⟩
  have s13:=s12.trans s3
  obtain ⟨o3,p3,xs3,d3,g3,q3,n3,r3⟩:=(hD.up s13).get g.a e3
  refine ⟨o3,d3,?_⟩
  rw [g3]
  refine ⟨D,rfl,isD (hD.up s13),_,s13 _ _ hg,fun T4 H4 s4 e4=>?_⟩
  have s14:=s13.trans s4
  obtain ⟨o4,p4,xs4,d4,g4,q4,n4,r4⟩:=(hD.up s14).get g.b e4
  refine ⟨o4,d4,?_⟩
  rw [g4]
  have q3:=s4 _ _ q3
  refine ⟨_,.inl (A1.of q3),_,.inl (A1.of q4),_,_,rfl,?_⟩
  rw [AE,AE,n3,n4]
  refine ⟨_,s14 _ _ hg,xs3,q3,fun H5 s5=>⟨_,(s14.trans s5) _ _ hg,xs4,s5 _ _ q4,fun H6 s6=>⟨_,_,rfl,?_⟩⟩⟩
  rw [r3,r4]
  have s46:=s5.trans s6
  have s16:=s14.trans s46
  have hbt:=Ari (ns:=ns) er.y_Rule
  obtain ⟨Rt,hm2,hs2⟩:=hbt so C kn
  have q1:=(s2.trans (s3.trans (s4.trans s46))) _ _ q1
  have q2:=(s3.trans (s4.trans s46)) _ _ q2
  refine ⟨r,C,dx,fs,Rt,rfl,s16 _ _ e,hm2,f.bt,wq fi (w g.a),wq fi (w g.b),⟨sa.fq (by decide) q1,(sb.fq (m:=1000) (by decide) q2).fa⟩,fun q7 H7 s7 f7=>⟨_,(s16.trans s7) _ _ hg,?_⟩⟩
  refine hs2 r H7 st fi one two rows q7 g.h _ _ _ (Zl (wq fi (w g.a)) (wq fi (w g.b))) (hR.up (s16.trans s7)) tb b (Amn sa sb (by decide) f7) h0 h2 fun q8 H8 s8 e8=>fun S H9 s9 e9=>?_
  have s69:=s7.trans (s8.trans s9)
  exact k _ H9 (s16.trans s69) ⟨S,pg,px,py,q8,rfl,e9,(s16.trans s69) _ _ hg,s69 _ _ q1,s69 _ _ q2,s9 _ _ e8⟩
structure WB (i:Nat)(x:Q2):Prop where
 pos:0<x.2
 ba:Bd (121+16*i) x.1
 bb:Bd (1+15*i) x.2
structure BB (x:Q2):Prop where
 pos:0<x.2
 ba:Bd 120 x.1
 bb:Bd 15 x.2
theorem WB.mono {i j:Nat}{x:Q2}(h:WB i x)(l:i≤j):WB j x:=⟨h.pos,h.ba.mono (by omega),h.bb.mono (by omega)⟩
theorem WB.sq {i n:Nat}{x:Q2}(h:WB i x)(l:121+16*i≤n):Sq n x:=⟨h.pos,h.ba.mono l,h.bb.mono (by omega)⟩
theorem BB.sq {n:Nat}{x:Q2}(h:BB x)(l:120≤n):Sq n x:=⟨h.pos,h.ba.mono l,h.bb.mono (by omega)⟩
theorem Aqi {i:Nat}{x b:Q2}(h:WB i x)(hb:BB b):WB (i+1) (plQ x b):=by
 refine ⟨L4 _ (HN (EC h.pos hb.pos)),Vo ?_,Vp ?_⟩
 ·exact (Bd.add ((h.ba.mul hb.bb).mono (show 121+16*i+15≤136+16*i by omega)) ((hb.ba.mul h.bb).mono (show 120+(1+15*i)≤136+16*i by omega))).mono (by omega)
 ·exact (h.bb.mul hb.bb).mono (by omega)
theorem Are {i:Nat}{x b:Q2}(h:WB i x)(hb:BB b):WB (i+1) (Zl x b):=by
 refine ⟨L4 _ (HN (EC h.pos hb.pos)),Vo ?_,Vp ?_⟩
 ·exact (Bd.sub ((h.ba.mul hb.bb).mono (show 121+16*i+15≤136+16*i by omega)) ((hb.ba.mul h.bb).mono (show 120+(1+15*i)≤136+16*i by omega))).mono (by omega)
 ·exact (h.bb.mul hb.bb).mono (by omega)
theorem Ae0 {so st one two p r h:Int}{x:Q2}(s:ShQ x)(b:Nb st one two)(h0:0≤h)(h2:h≤2):BB (btQ so one (Yl so st one two p r) h x):=by
 obtain ⟨_,_,_,_,b5,_⟩:=s.bT (Agk (so:=so) (p:=p) (r:=r) b) h0 h2
 have s0:=s.b0
 have s1:=s.b1
 have u:BB (unQ (Yl so st one two p r) h x):=by
  refine ⟨L4 _ (by show 2*x.2≠0;omega),Vo b5,Vp ?_⟩
  exact Dm (b:=20000) (by unfold unB;omega) (by unfold unB;omega) (A0 rfl)
 unfold btQ
 split
 ·unfold Al6
  split
  ·exact ⟨(by decide:(0:Int)<1),b.bon.mono (by decide),A0 rfl⟩
  ·split
   ·exact ⟨(by decide:(0:Int)<1),(b.bon.mono (by decide)).neg,A0 rfl⟩
   ·exact u
 ·exact u
def N3 (so st fi one two:Int)(rows:List Rw)(w:Wn)(g:Gm):Wn:=fun x=>
 if x=g.b then some ⟨Zl (wq fi (w g.b)) (Hy so st fi one two rows w g),Z5 (w g.b)+1,g.d⟩
 else if x=g.a then some ⟨plQ (wq fi (w g.a)) (Hy so st fi one two rows w g),Z5 (w g.a)+1,g.d⟩ else w x
def Qd (so st fi one two:Int)(rows:List Rw):Wn→IE→List Sd
 |_,[]=>[]
 |w,g::gs=>⟨g,wq fi (w g.a),wq fi (w g.b),Hy so st fi one two rows w g⟩::Qd so st fi one two rows (N3 so st fi one two rows w g) gs
def Km (so st fi one two:Int)(rows:List Rw)(w:Wn)(gs:IE):Wn:=gs.foldl (N3 so st fi one two rows) w
theorem V6 {so st fi one two:Int}{rows:List Rw}{g:Gm}:∀{gs:IE} {w:Wn},Qd so st fi one two rows w (gs++[g])=Qd so st fi one two rows w gs++[⟨g,wq fi (Km so st fi one two rows w gs g.a),wq fi (Km so st fi one two rows w gs g.b),Hy so st fi one two rows (Km so st fi one two rows w gs) g⟩]
 |[],_=>rfl
 |x::gs,w=>by
  show _::Qd so st fi one two rows _ (gs++[g])=_::(Qd so st fi one two rows _ gs++_)
  rw [V6]
  rfl
theorem V5 {so st fi one two:Int}{rows:List Rw}{g:Gm}{gs:IE}{w:Wn}:Km so st fi one two rows w (gs++[g])=N3 so st fi one two rows (Km so st fi one two rows w gs) g:=by
 unfold Km
 rw [List.foldl_append]
 rfl
theorem Anq {so st fi one two:Int}{rows:List Rw}{w:Wn}{g:Gm}{i:Nat}(tb:Tb rows)(b:Nb st one two)(h0:0≤g.h)(h2:g.h≤2)(h:∀x,WB i (wq fi (w x)))(x:Str):WB (i+1) (wq fi (N3 so st fi one two rows w g x)):=by
 have bb:BB (Hy so st fi one two rows w g):=Ae0 (U1 tb _ _) b h0 h2
 unfold N3
 split
 ·exact Are (h g.b) bb
 ·split
  ·exact Aqi (h g.a) bb
  ·exact (h x).mono (by omega)
theorem Hz.put {H H':Hp}{W:HR}{n:Nat}{u:Str→Option Q2}(h:Hz H W n u){kvs:List (B3×V)}(e:H W=some (.dK kvs)){x y:Str}(ne:x≠y){p1 p2:HR}{q1 q2:Q2}(s:Sx W H H')(h1:H' p1=some (.tup [.int q1.1,.int q1.2]))(h2:H' p2=some (.tup [.int q2.1,.int q2.2]))
  (e':H' W=some (.dK (Dj (Dj kvs (Sum.inr x) (.ref p1)) (Sum.inr y) (.ref p2)))):Hz H' W (n+2) (fun z=>if z=y then some q2 else if z=x then some q1 else u z):=by
 obtain ⟨kvs',e0,l,a⟩:=h
 rw [e] at e0
 cases e0
 have l1:=Dn kvs (Sum.inr x) (.ref p1)
 have l2:=Dn (Dj kvs (Sum.inr x) (.ref p1)) (Sum.inr y) (.ref p2)
 refine ⟨_,e',by omega,fun z=>?_⟩
 by_cases c:z=y
 ·subst c
  refine .inr ⟨q2,p2,AN rfl,?_,h2⟩
  rw [Fk,AN rfl]
 ·by_cases c':z=x
  ·subst c'
   refine .inr ⟨q1,p1,by show (if z=y then _ else if z=z then _ else _)=_;rw [AI c,AN rfl],?_,h1⟩
   rw [Fk,AI (fun w=>c (Sum.inr.inj w)),Fk,AN rfl]
  ·have vz:Cf (Dj (Dj kvs (Sum.inr x) (.ref p1)) (Sum.inr y) (.ref p2)) (Sum.inr z)=Cf kvs (Sum.inr z):=by
    rw [Fk,AI (fun w=>c (Sum.inr.inj w)),Fk,AI (fun w=>c' (Sum.inr.inj w))]
   rw [vz]
   show ((if z=y then _ else if z=x then _ else u z)=none∧_)∨_
   simp only [AI c,AI c']
   rcases a z with h|⟨q,p,h3,h4,h5⟩
   ·exact .inl h
   ·exact .inr ⟨q,p,h3,h4,s _ _ (fun w=>by rw [w,e] at h5;cases h5) h5⟩
theorem Ij.put {H H':Hp}{D:HR}{n:Nat}{v:Str→Option (Nat×Int)}(h:Ij H D n v){kvs:List (B3×V)}(e:H D=some (.dK kvs)){x:Str}{p:HR}{xs:HX}{d:Int}(s:Sx D H H')(h1:H' p=some (.lst ((xs++[d]).map V.int)))(e':H' D=some (.dK (Dj kvs (Sum.inr x) (.ref p)))) :
  Ij H' D (n+1) (fun z=>if z=x then some (xs.length+1,d) else v z):=by
 obtain ⟨kvs',e0,l,a⟩:=h
 rw [e] at e0
 cases e0
 have l1:=Dn kvs (Sum.inr x) (.ref p)
 refine ⟨_,e',by omega,fun z=>?_⟩
 by_cases c:z=x
 ·subst c
  refine .inr ⟨_,d,p,_,AN rfl,?_,h1,by rw [AM];rfl,by simp⟩
  rw [Fk,AN rfl]
 ·rw [Fk,AI (fun w=>c (Sum.inr.inj w))]
  simp only [AI c]
  rcases a z with h|⟨m,l,p',xs',h3,h4,h5,h6⟩
  ·exact .inl h
  ·exact .inr ⟨m,l,p',xs',h3,h4,s _ _ (fun w=>by rw [w,e] at h5;cases h5) h5,h6⟩
def Hn (T:HR)(H:Hp):Hp:=fun b=>if b=T then none else H b
theorem Qx {T:HR}{H:Hp}:Ag (Hn T H) H:=fun b o e=>by
 unfold Hn at e
 split at e
 ·cases e
 ·exact e
theorem Tf {T:HR}{H H1 H2:Hp}(s:Ag (Hn T H) H1)(t:∀b o,b≠T→H1 b=some o→H2 b=some o):Ag (Hn T H) H2:=fun b o e=>by
 have e':=e
 unfold Hn at e
 split at e
 ·cases e
 ·rename_i ne
  exact t b o ne (s b o e')
theorem Lr {T b:HR}{H:Hp}(h:H b=none):Hn T H b=none:=by
 unfold Hn
 split
 ·rfl
 ·exact h
theorem Kh {H H':Hp}{P x:HR}{pos:Pos}{q:Str}(h:Au H P pos q)(s:Sx x H H')(hx:(∃zs,H x=some (.lst zs))∨∃kvs,H x=some (.dK kvs)):Au H' P pos q:=by
 obtain ⟨ps,h1,h2,h3⟩:=h
 have nP:P≠x:=fun z=>by
  rcases hx with ⟨zs,e⟩|⟨kvs,e⟩<;>(rw [←z,h1] at e;cases e)
 refine ⟨ps,s _ _ nP h1,h2,h3.imp id ?_⟩
 rintro ⟨c,e1,e2⟩
 refine ⟨c,e1,s _ _ (fun z=>?_) e2⟩
 rcases hx with ⟨zs,e⟩|⟨kvs,e⟩<;>(rw [←z,e2] at e;cases e)
def pg (gs:IE)(p:IC):IE:=p.filterMap fun i=>gs[i]?
theorem Xn {H:Hp}{xs:ID}{gs:IE}(a:Ax (B4 H) xs gs):∀{p:IC},(∀i∈p,i<gs.length)→Ax (B4 H) (pk xs p) (pg gs p)
 |[],_=>.nil
 | i::p,h=>by
  have hi:=h i AK
  have r:=Xn a (p:=p) fun j hj=>h j (AJ _ hj)
  have hx:i<xs.length:=by rw [a.len];exact hi
  obtain ⟨g,g1,g2⟩:=a.get (AD hx)
  have e1:pk xs (i::p)=xs[i]::pk xs p:=by
   unfold pk
   rw [BE,BF,AD hx]
   rfl
  have e2:pg gs (i::p)=g::pg gs p:=by
   unfold pg
   rw [DU,g1]
  rw [e1,e2]
  exact .cons g2 r
theorem Qo {gs:IE}{p:IC}{g:Gm}(h:g∈pg gs p):g∈gs:=by
 obtain ⟨i,_,e⟩:=ED.mp h
 exact BH e
theorem Zj {so st fi one two:Int}{rows:List Rw}(tb:Tb rows)(b:Nb st one two)(hf:Bd 40 fi):∀{gs:IE},(∀g∈gs,0≤g.h∧g.h≤2)→∀{w:Wn} {i:Nat},(∀x,WB i (wq fi (w x)))→∀x,WB (i+gs.length) (wq fi (Km so st fi one two rows w gs x))
 |[],_,_,_,h=>h
 |g::gs,hg,w,i,h=>fun x=>by
  have h1:=hg g AK
  have:=Zj (so:=so) tb b hf (gs:=gs) (fun g hg'=>hg g (AJ _ hg')) (w:=N3 so st fi one two rows w g) (i:=i+1) (Anq tb b h1.1 h1.2 h) x
  rw [AY,show i+(gs.length+1)=i+1+gs.length by omega]
  exact this
theorem Hz.kt {H H':Hp}{W:HR}{n:Nat}{u:Str→Option Q2}(h:Hz H W n u)(k:Kt H H')(e:∀o,H W=some o→H' W=some o):Hz H' W n u:=by
 obtain ⟨kvs,e0,l,a⟩:=h
 exact ⟨kvs,e _ e0,l,fun x=>(a x).imp id fun ⟨q,p,h1,h2,h3⟩=>⟨q,p,h1,h2,k _ _ h3⟩⟩
theorem Ij.sx {H H':Hp}{D x:HR}{n:Nat}{v:Str→Option (Nat×Int)}(h:Ij H D n v)(s:Sx x H H')(ne:D≠x)(hx:∀(xs:HX) (l:Int),xs.getLast? =some l→H x≠some (.lst (xs.map V.int))):Ij H' D n v:=by
 obtain ⟨kvs,e0,l,a⟩:=h
 exact ⟨kvs,s _ _ ne e0,l,fun x=>(a x).imp id fun ⟨m,l,p,xs,h1,h2,h3,h4,h5⟩=>⟨m,l,p,xs,h1,h2,s _ _ (fun z=>hx xs l h5 (z▸h3)) h3,h4,h5⟩⟩
theorem Sx.kt' {x:HR}{kvs:List (B3×V)}{H H':Hp}(a:Sx x H H')(h:H x=some (.dK kvs)):Kt H H':=fun p xs e=>a p _ (fun z=>by rw [z,h] at e;cases e) e
theorem Sx.n {x:HR}{N H H':Hp}(a:Sx x H H')(s:Ag N H)(h:N x=none):Ag N H':=fun b o e=>a b o (fun z=>by rw [z,h] at e;cases e) (s b o e)
def V2 (w:Wn)(g:Gm):Nat→Str→Option (Nat×Int)
 |0=>wV w
 |1=>fun z=>if z=g.a then some (Z5 (w g.a)+1,g.d) else wV w z
 |_=>fun z=>if z=g.b then some (Z5 (w g.b)+1,g.d) else if z=g.a then some (Z5 (w g.a)+1,g.d) else wV w z
theorem Aop {so st fi one two:Int}{rows:List Rw}{w:Wn}{g:Gm}:wV (N3 so st fi one two rows w g)=V2 w g 2:=by
 funext z
 unfold wV N3 V2
 by_cases c:z=g.b
 ·simp only [AN c]
  rfl
 ·by_cases c':z=g.a
  ·simp only [AI c,AN c']
   rfl
  ·simp only [AI c,AI c']
   rfl
theorem Ael {so st fi one two:Int}{rows:List Rw}{w:Wn}{g:Gm}:wU (N3 so st fi one two rows w g)=fun z=>if z=g.b then some (Zl (wq fi (w g.b)) (Hy so st fi one two rows w g)) else if z=g.a then some (plQ (wq fi (w g.a)) (Hy so st fi one two rows w g)) else wU w z:=by
 funext z
 unfold wU N3
 by_cases c:z=g.b
 ·simp only [AN c]
  rfl
 ·by_cases c':z=g.a
  ·simp only [AI c,AN c']
   rfl
  ·simp only [AI c,AI c']
theorem Al8 {w:Wn}{x:Str}{v:Option (Nat×Int)}(h:v=wV w x){xs:HX}(c:(v=none∧xs=[])∨∃m l,v=some (m,l)∧xs.length=m∧xs.getLast? =some l):xs.length=Z5 (w x):=by
 subst h
 rcases c with ⟨h1,rfl⟩|⟨m,l,h1,h4,h5⟩
 ·have:w x=none:=FM.mp h1
  rw [this]
  rfl
 ·obtain ⟨s,hs,e⟩:=EA.mp h1
  cases e
  rw [hs]
  exact h4
theorem Apt {so st fi one two:Int}{rows:List Rw}{w:Wn}{g:Gm}{k:Nat}(h:∀x,Z5 (w x)≤k)(x:Str):Z5 (N3 so st fi one two rows w g x)≤k+1:=by
 unfold N3
 split
 ·exact Nat.succ_le_succ (h g.b)
 ·split
  ·exact Nat.succ_le_succ (h g.a)
  ·exact Nat.le_succ_of_le (h x)
theorem Ak4 {so st fi one two:Int}{rows:List Rw}:∀{gs:IE} {w:Wn} {k:Nat},(∀x,Z5 (w x)≤k)→∀x,Z5 (Km so st fi one two rows w gs x)≤k+gs.length
 |[],_,_,h=>h
 |g::gs,w,k,h=>fun x=>by
  have:=Ak4 (so:=so) (st:=st) (fi:=fi) (one:=one) (two:=two) (rows:=rows) (gs:=gs) (w:=N3 so st fi one two rows w g) (k:=k+1) (Apt h) x
  rw [AY,show k+(gs.length+1)=k+1+gs.length by omega]
  exact this
def Ws (K:KKf)(ns:HX):Sp:=fun vs H Q _=>match vs with
 |[.ref r,.ref L]=>∃(so st fi one two:Int) (rows:List Rw) (gs:IE) (xs:ID),(Oh K (Hn (Bn K) H) r so st fi one two rows∧Tb rows∧Nb st one two∧Bd 40 fi∧A1 K (Hn (Bn K) H) L xs∧Ax (B4 (Hn (Bn K) H)) xs gs∧gs.length≤40∧(∀g∈gs,(0≤g.h∧g.h≤2)∧g.a≠g.b)∧Au H (Bn K) Bq Ek) ∧
  ∀D vs p H',Ml (Bn K) H H'→H D=none→H' D=some (.lst vs)→Au H' (Bn K) Bq Ek→Jr (dk gs) gs.length p→Ax (Tu H') vs (Qd so st fi one two rows (fun _=>none) (pg gs p))→Q (.ref D) H'
 |_=>False
theorem Fm:Ah ["rule","games","steps","worths","days","played","step","name"] ["rule","games"] (Ac Ui):=C5
include er in
theorem Ahl (d:Bj K mg "trail" Ui ["rule","games"])  (aN:A9 P w K mg base "in_order" ["games"] 3 (Fx K ns))(fA:A9 P w K mg base "move" ["worths","step"] 4 (Tz K ns))(dH:A9 P w K mg base "next_step" ["rule","worths","days","played"] 8 (Lz K ns)):A9 P w K mg base "trail" ["rule","games"] 9 (Ws K ns):=by
 refine d.cal (k:=8) Fm (fun vs H Q E hq0=>?_) (fun f cdv A outer s H vs Q E hr hq0=>?_)
 ·obtain ⟨_,_,rfl,_⟩:=Hw hq0
  rfl
 ·obtain ⟨r,L,rfl,⟨so,st,fi,one,two,rows,gs,xs,⟨hR,tb,b,hf,hL,al,l30,ok,tk⟩,k⟩⟩:=Hw hq0
  refine ⟨_,(@Aa _ _ _ _ _ (@Ak _ _ _ (2) _ _ _ Fm.nd (@Vh _ _ _ _ Ai) (by trivial)) (@Aa _ _ _ _ _ (@Ak _ _ _ (3) _ _ _ Fm.nd Ir (by trivial)) (@Aa _ _ _ _ _ (@Ak _ _ _ (4) _ _ _ Fm.nd Ir (by trivial)) (@Aa _ _ _ _ _ (@K3 _ _ _ _ _ _ _ _ DJ rfl (@Bw _ _ _ _ (@Af _ _ _ _ _ _ _ _ _ _ _ aN hr (@Ba _ _ _ (dv 1) (by rfl)) (by trivial))) (@Aq _ _ (5) _ Fm.nd rfl (by trivial) (by trivial)) (@Aa _ _ _ _ _ (@Ak _ _ _ (6) _ _ _ Fm.nd (@Af _ _ _ _ _ _ _ _ _ _ _ dH hr (@Aj _ _ _ _ _ (dv 0) (@Aj _ _ _ _ _ (dv 3) (@Aj _ _ _ _ _ (dv 4) (@Ba _ _ _ (dv 5) (by rfl)) (by rfl)) (by rfl)) (by rfl)) (by trivial)) (by trivial)) (@Aa _ _ _ _ _ (@Fz _ _ _ _ (@Lu _ _ _ _ _ _ _ _ _ _ _ _ GT PySem.F.slot_list_append PySem.F.type_list_append Jw (dv 2) (@Ab _ _ _ _ _ (dv 6) Ai (by rfl)) (by rfl) (by rfl) (by rfl) (by rfl) (by rfl)) (by rfl)) (@Aa _ _ _ _ _ (@Fz _ _ _ _ (@Af _ _ _ _ _ _ _ _ _ _ _ fA hr (@Aj _ _ _ _ _ (dv 3) (@Ba _ _ _ (dv 6) (by rfl)) (by rfl)) (by trivial)) (by rfl)) (@Ar _ _ _ (@K3 _ _ _ _ _ _ _ _ DJ rfl (@Ama _ _ _ _ (@Dr _ _ _ _ _ _ _ _ _ _ Z0 (dv 5) (Dd Ae) (Dd Ae))) (@Aq _ _ (7) _ Fm.nd rfl (by trivial) (by trivial)) (@Ar _ _ _ (@O5 _ _ _ _ _ _ _ _ _ (@u1 _ _ hr.units) (dv 4) (dv 7) (@Al _ _ _ _ _ _ _ _ Kx (@Iv _ _ _ _ _ _ _ _ _ (@u1 _ _ hr.units) (dv 4) (dv 7) (@Vh _ _ _ _ Ai) ⟨rfl,rfl,rfl,rfl⟩) (@E5 _ _ _ _ (@Ab _ _ _ _ _ (@Bg _ _ _ _ _ _ _ (dv 5)) Ai (by rfl)))) rfl)) (by intro _;rfl)))))) (by intro _;rfl)) (@A5 _ _ _ _ (dv 2)))))),?_⟩
  refine ⟨by decide,fun S hS=>fun W hW=>fun D hD=>?_⟩
  have s1:Ag H (upd H S (.lst [])):=An hS
  have s2:=s1.trans (An (o:=.dK []) hW)
  have s3:=s2.trans (An (o:=.dK []) hD)
  have nWS:W≠S:=fun z=>by rw [z,Ad] at hW;cases hW
  have nDS:D≠S:=fun z=>by rw [z,Am (CN nWS),Ad] at hD;cases hD
  have nDW:D≠W:=fun z=>by rw [z,Ad] at hD;cases hD
  have eS:upd (upd (upd H S (.lst [])) W (.dK [])) D (.dK []) S=some (.lst []):=by rw [Am (CN nDS),Am (CN nWS),Ad]
  have eW:upd (upd (upd H S (.lst [])) W (.dK [])) D (.dK []) W=some (.dK []):=by rw [Am (CN nDW),Ad]
  have eD:upd (upd (upd H S (.lst [])) W (.dK [])) D (.dK []) D=some (.dK []):=Ad
  have hW0:H W=none:=Cd s1 hW
  have hD0:H D=none:=Cd s2 hD
  generalize upd (upd (upd H S (.lst [])) W (.dK [])) D (.dK [])=H3 at s3 eS eW eD
  clear s1 s2 hW hD
  obtain ⟨N,hN⟩:∃N,N=Hn (Bn K) H:=⟨_,rfl⟩
  have sN:Ag N H:=hN▸Qx
  have sN3:=sN.trans s3
  have nS:N S=none:=hN▸Lr hS
  have nW:N W=none:=hN▸Lr hW0
  have nD:N D=none:=hN▸Lr hD0
  rw [←hN] at hR hL al
  refine ⟨gs,xs,⟨sN3.seq hL,al.imp fun v g r=>Cr v g _ _ (Bc sN3) r,by omega,tk.up s3⟩,fun Dl H4 p sm nDl eDl tk4 stb=>?_⟩
  obtain ⟨ps,tt,_⟩:=tk.up s3
  have ne4:∀{b:HR} {o:HO},H3 b=some o→(∀ps,o≠.tbl ps)→H4 b=some o:=fun e c=>sm _ _ (fun z=>c ps (by rw [z,tt] at e;exact (Option.some.inj e).symm)) e
  have sN4:Ag N H4:=by
   rw [hN]
   exact Tf (hN▸sN3) sm
  have eS4:=ne4 eS (fun _=>nofun)
  have eW4:=ne4 eW (fun _=>nofun)
  have eD4:=ne4 eD (fun _=>nofun)
  have dS:Dl≠S:=fun z=>by rw [z,eS] at nDl;cases nDl
  have dW:Dl≠W:=fun z=>by rw [z,eW] at nDl;cases nDl
  have dD:Dl≠D:=fun z=>by rw [z,eD] at nDl;cases nDl
  have aG:Ax (B4 N) (pk xs p) (pg gs p):=Xn al fun i hi=>stb.2.1 i hi
  have okG:∀g∈pg gs p,(0≤g.h∧g.h≤2)∧g.a≠g.b:=fun g hg=>ok g (Qo hg)
  have lG:(pg gs p).length≤40:=by
   have:=aG.len
   have z:(pk xs p).length=p.length:=by unfold pk;rw [AE]
   have:=stb.1
   omega
  generalize hG:pg gs p=G at aG okG lG
  have w0:∀x,WB 0 (wq fi ((fun _=>none:Wn) x)):=fun x=>⟨(by decide:(0:Int)<1),hf.mono (by decide),A0 rfl⟩
  refine ⟨Dl,rfl,⟨_,A1.of eDl⟩,Mh (K:=K) (a:=Dl) (xs:=pk xs p) (fun i σ H'=>∃(vs:ID) (o5 o6 o7:Option V),σ=[some (.ref r),some (.ref L),some (.ref S),some (.ref W),some (.ref D),o5,o6,o7]∧Ag N H'∧Au H' (Bn K) Bq Ek∧H' Dl=some (.lst (pk xs p))∧H' S=some (.lst vs)∧Ax (Tu H') vs (Qd so st fi one two rows (fun _=>none) (G.take i))∧Hz H' W (2*i) (wU (Km so st fi one two rows (fun _=>none) (G.take i)))∧Ij H' D (2*i) (wV (Km so st fi one two rows (fun _=>none) (G.take i)))) ?_ (fun i σ H' _ ⟨_,_,_,_,_,_,_,e,_⟩=>A1.of e) ?_ ?_⟩
  ·exact ⟨[],none,none,none,rfl,sN4,tk4,eDl,eS4,.nil,⟨[],eW4,AV _,fun x=>.inl ⟨rfl,rfl⟩⟩,⟨[],eD4,AV _,fun x=>.inl ⟨rfl,rfl⟩⟩⟩
  ·rintro i v σ H5 hv ⟨vs,o5,o6,o7,rfl,sN5,tk5,eDl5,eS5,aS5,ws,dy⟩
   obtain ⟨g,hg,pg',rfl,hpg⟩:=aG.get hv
   obtain ⟨⟨h0,h2⟩,ab⟩:=okG g (BH hg)
   have il:i<G.length:=(BI.mp hg).1
   have tk':G.take (i+1)=G.take i++[g]:=by rw [CI,hg];rfl
   have wb:∀x,WB i (wq fi (Km so st fi one two rows (fun _=>none) (G.take i) x)):=fun x=>by
    have:=Zj (so:=so) tb b hf (gs:=G.take i) (fun g hg=>(okG g (ES hg)).1) w0 x
    rw [BQ,Nat.zero_add,GE (DL il)] at this
    exact this
   have wn:∀x,Z5 (Km so st fi one two rows (fun _=>none) (G.take i) x)≤40:=fun x=>by
    have:=Ak4 (so:=so) (st:=st) (fi:=fi) (one:=one) (two:=two) (rows:=rows) (gs:=G.take i) (w:=fun _=>none) (k:=0) (fun _=>AF _) x
    rw [BQ] at this
    omega
   rw [tk',V6,V5]
   generalize Km so st fi one two rows (fun _=>none) (G.take i)=w at ws dy wb wn
   refine ⟨so,st,fi,one,two,rows,w,2*i,g,⟨hR.up sN5,tb,b,ws,dy,sN5 _ _ hpg,h0,h2,(wb _).sq (by omega),(wb _).sq (by omega)⟩,fun sv H6 s6 sd=>?_⟩
   have eS6:=s6 _ _ eS5
   have lvs:vs.length≤40:=by
    have:=aS5.len
    have z:∀(w:Wn) (l:IE),(Qd so st fi one two rows w l).length=l.length:=fun w l=>by
     induction l generalizing w with
     |nil=>rfl
     |cons g l ih=>show (Qd so st fi one two rows _ l).length+1=_;rw [ih];rfl
    rw [this,z,BQ]
    omega
   refine ⟨.inl ⟨rfl,_,A1.of eS6⟩,S,vs,sv,rfl,rfl,eS6,BO lvs (by decide),?_⟩
   have ws6:=ws.up s6
   have dy6:=dy.up s6
   have noS:∀(xs:HX) (l:Int),xs.getLast? =some l→H6 S≠some (.lst (xs.map V.int)):=fun xs l hl z=>by
    rw [eS6] at z
    cases z
    cases xs with
    |nil=>cases hl
    |cons y xs=>
     obtain ⟨_,_,t,_,_,_,_,e,_⟩:=aS5.get (show ((y::xs).map V.int)[0]? =some (.int y) from rfl)
     cases e
   have x7:Sx S H6 (upd H6 S (.lst (vs++[sv]))):=Sx.upd
   have kt7:Kt H6 (upd H6 S (.lst (vs++[sv]))):=Na eS6
   have sN7:Ag N (upd H6 S (.lst (vs++[sv]))):=Fc (sN5.trans s6) nS
   have tk7:Au (upd H6 S (.lst (vs++[sv]))) (Bn K) Bq Ek:=Kh (tk5.up s6) x7 (.inl ⟨_,eS6⟩)
   have eDl7:upd H6 S (.lst (vs++[sv])) Dl=some (.lst (pk xs p)):=x7 _ _ dS (s6 _ _ eDl5)
   have eS7:upd H6 S (.lst (vs++[sv])) S=some (.lst (vs++[sv])):=Ad
   have aS7:Ax (Tu (upd H6 S (.lst (vs++[sv])))) (vs++[sv]) (Qd so st fi one two rows (fun _=>none) (G.take i)++[⟨g,wq fi (w g.a),wq fi (w g.b),Hy so st fi one two rows w g⟩]):=(aS5.imp fun v g r=>Qq v g _ _ ((Bc s6).trans kt7) r).snoc (Qq _ _ _ _ kt7 sd)
   have ws7:=ws6.kt kt7 fun o e=>x7 _ _ nWS e
   have dy7:=dy6.sx x7 nDS noS
   have sd7:=Qq _ _ _ _ kt7 sd
   generalize upd H6 S (.lst (vs++[sv]))=H7 at sN7 tk7 eDl7 eS7 aS7 ws7 dy7 sd7
   clear noS
   have bb:BB (Hy so st fi one two rows w g):=Ae0 (U1 tb _ _) b h0 h2
   have ws7':=ws7
   obtain ⟨kvs,eW7,lk,_⟩:=ws7'
   refine ⟨kvs,⟨g,wq fi (w g.a),wq fi (w g.b),Hy so st fi one two rows w g⟩,⟨eW7,by omega,sd7,(wb _).sq (by omega),(wb _).sq (by omega),bb.sq (by decide)⟩,fun p1 p2 H8 s8 m1 m2 q1 q2 eW8=>?_⟩
   have ws8:=ws7.put eW7 ab s8 q1 q2 eW8
   have kt8:=s8.kt' eW7
   have sN8:=s8.n sN7 nW
   have tk8:=Kh tk7 s8 (.inr ⟨_,eW7⟩)
   have eDl8:=s8 _ _ dW eDl7
   have eS8:=s8 _ _ (CN nWS) eS7
   have aS8:=aS7.imp fun v g r=>Qq v g _ _ kt8 r
   have dy8:=dy7.sx s8 nDW (fun xs l _ z=>by rw [eW7] at z;cases z)
   clear kt8 s8
   refine ⟨_,rfl,_,rfl,pg',_,rfl,D7.of (sN8 _ _ hpg),(by show ¬(HT.sIx 5 0 (some 1)=0∧HT.sIx 5 5 (some 3)=5);decide),fun t ht=>?_⟩
   rw [show Ni [V.int g.d,V.str g.a,V.str g.b,V.int g.h,V.int g.s] (some 1) (some 3)=[V.str g.a,V.str g.b] from rfl]
   have s9:Ag H8 (upd H8 t (.tup [.str g.a,.str g.b])):=An ht
   have e9:upd H8 t (.tup [.str g.a,.str g.b]) t=some (.tup [.str g.a,.str g.b]):=Ad
   have ws8':Hz H8 W (2*i+2) (wU (N3 so st fi one two rows w g)):=by
    rw [Ael]
    exact ws8
   refine ⟨t,rfl,⟨_,D7.of e9⟩,Ajr (K:=K) (a:=t) (xs:=[.str g.a,.str g.b]) (fun j σ H'=>∃o7:Option V,σ=[some (.ref r),some (.ref L),some (.ref S),some (.ref W),some (.ref D),some (.ref pg'),some sv,o7]∧Ag N H'∧Au H' (Bn K) Bq Ek∧H' t=some (.tup [.str g.a,.str g.b])∧H' Dl=some (.lst (pk xs p))∧H' S=some (.lst (vs++[sv]))∧Ax (Tu H') (vs++[sv]) (Qd so st fi one two rows (fun _=>none) (G.take i)++[⟨g,wq fi (w g.a),wq fi (w g.b),Hy so st fi one two rows w g⟩])∧Hz H' W (2*i+2) (wU (N3 so st fi one two rows w g))∧Ij H' D (2*i+j) (V2 w g j)) ⟨o7,rfl,sN8.trans s9,tk8.up s9,e9,s9 _ _ eDl8,s9 _ _ eS8,aS8.imp fun v g r=>Qq v g _ _ (Bc s9) r,ws8'.up s9,dy8.up s9⟩ (fun j σ H' _ ⟨_,_,_,_,e,_⟩=>D7.of e) ?_ ?_⟩
   ·rintro j u σ H10 hu ⟨o7',rfl,sNa,tka,ea,eDla,eSa,aSa,wsa,dya⟩
    obtain ⟨x,rfl,jx⟩:∃x,u=.str x∧((j=0∧x=g.a)∨(j=1∧x=g.b)):=by
     match j,hu with
     |0,hu=>cases hu;exact ⟨_,rfl,.inl ⟨rfl,rfl⟩⟩
     |1,hu=>cases hu;exact ⟨_,rfl,.inr ⟨rfl,rfl⟩⟩
    have dya':=dya
    obtain ⟨kva,eDa,lka,_⟩:=dya'
    refine ⟨D,rfl,.inl ⟨_,.inl eDa⟩,by decide,fun T0 hT0=>?_⟩
    have sb:Ag H10 (upd H10 T0 (.lst [])):=An hT0
    have eb:upd H10 T0 (.lst []) T0=some (.lst []):=Ad
    generalize upd H10 T0 (.lst [])=H11 at sb eb
    obtain ⟨o,pl,ys,dg,gd,ey,cy⟩:=(dya.up sb).get' x eb
    refine ⟨o,dg,?_⟩
    rw [gd]
    refine ⟨_,(sNa.trans sb) _ _ hpg,fun Lq H12 sc ec=>?_⟩
    have ly:ys.length=Z5 (w x):=by
     refine Al8 ?_ cy
     rcases jx with ⟨rfl,rfl⟩|⟨rfl,rfl⟩
     ·rfl
     ·exact AI (CN ab)
    have y60:ys.length≤900:=by
     have:=wn x
     omega
    refine ⟨_,_,sc _ _ ey,ec,by rw [AE];show ys.length+1≤1000;omega,fun pn H13 sd' ed=>?_⟩
    have ed:H13 pn=some (.lst ((ys++[g.d]).map V.int)):=by
     rw [ed,CB]
     rfl
    have sbd:=sb.trans (sc.trans sd')
    have eDd:=sbd _ _ eDa
    refine ⟨D,_,rfl,W8.k (k:=Sum.inr x) eDd ?_,?_⟩
    ·exact BO (show _≤100 by omega) (by decide)
    have xe:Sx D H13 (upd H13 D (.dK (Dj kva (Sum.inr x) (.ref pn)))):=Sx.upd
    have npn:pn≠D:=fun z=>by rw [z,eDd] at ed;cases ed
    have kte:=xe.kt' eDd
    have dye:=(dya.up sbd).put eDd xe (by rw [Am npn];exact ed) Ad
    refine ⟨_,rfl,xe.n (sNa.trans sbd) nD,Kh (tka.up sbd) xe (.inr ⟨_,eDd⟩),kte _ _ (sbd _ _ ea),xe _ _ dD (sbd _ _ eDla),xe _ _ (CN nDS) (sbd _ _ eSa),aSa.imp fun v g r=>Qq v g _ _ ((Bc sbd).trans kte) r,(wsa.up sbd).kt kte fun o e=>xe _ _ (CN nDW) e,?_⟩
    rw [ly] at dye
    rcases jx with ⟨rfl,rfl⟩|⟨rfl,rfl⟩
    ·exact dye
    ·exact dye
   ·rintro σ H10 ⟨o7',rfl,sNa,tka,ea,eDla,eSa,aSa,wsa,dya⟩
    refine ⟨vs++[sv],_,_,_,rfl,sNa,tka,eDla,eSa,aSa,wsa,?_⟩
    rw [Aop]
    exact dya
  ·rintro σ H5 ⟨vs,o5,o6,o7,rfl,sN5,tk5,eDl5,eS5,aS5,ws,dy⟩
   rw [aG.len,DY,←hG] at aS5
   exact k S vs p H5 (fun b o ne e=>sN5 b o (by rw [hN];unfold Hn;rw [AI ne];exact e)) hS eS5 tk5 stb aS5
theorem Afz {T b:HR}{H:Hp}{o:HO}{ps:Array HP}(t:H T=some (.tbl ps))(e:H b=some o)(n:∀ps,o≠.tbl ps):Hn T H b=some o:=by
 unfold Hn
 rw [AI fun z=>?_]
 ·exact e
 ·rw [z,t] at e
  exact n ps (Option.some.inj e).symm
theorem Aor {T:HR}{H:Hp}{ps:Array HP}(t:H T=some (.tbl ps)):Kt H (Hn T H):=fun p xs e=>Afz t e fun _=>nofun
theorem Abn {T:HR}{H H':Hp}(s:Ag (Hn T H) H'):Ag (Hn T H) (Hn T H'):=fun b o e=>by
 have e':=s b o e
 unfold Hn at e ⊢
 split at e
 ·cases e
 ·rename_i ne
  rw [AI ne]
  exact e'
structure Aus (nm:HW)(gs:IE):Prop where
 ok:∀g∈gs,(0≤g.h∧g.h≤2)∧g.a≠g.b
 mem:∀g∈gs,g.a∈nm∧g.b∈nm
theorem Ab9 {so st fi one two:Int}{rows:List Rw}{m:IE}:∀{l:IE} {w:Wn},Qd so st fi one two rows w (l++m)=Qd so st fi one two rows w l++Qd so st fi one two rows (Km so st fi one two rows w l) m
 |[],_=>rfl
 |x::l,w=>by
  show _::Qd so st fi one two rows _ (l++m)=_::(Qd so st fi one two rows _ l++_)
  rw [Ab9]
  rfl
theorem Vu {so st fi one two:Int}{rows:List Rw}:∀{l:IE} {w:Wn},(Qd so st fi one two rows w l).length=l.length
 |[],_=>rfl
 |x::l,w=>congrArg (· + 1) Vu
theorem Ajt {so st fi one two:Int}{rows:List Rw}{w:Wn}{G:IE}{i:Nat}{g:Gm}(h:G[i]? =some g):(Qd so st fi one two rows w G)[i]? =some ⟨g,wq fi (Km so st fi one two rows w (G.take i) g.a),wq fi (Km so st fi one two rows w (G.take i) g.b),Hy so st fi one two rows (Km so st fi one two rows w (G.take i)) g⟩:=by
 obtain ⟨hi,rfl⟩:=BI.mp h
 have e:G=G.take i++G[i]::G.drop (i+1):=by
  rw [←EO hi,List.take_append_drop]
 have l:(Qd so st fi one two rows w (G.take i)).length=i:=by rw [Vu,BQ];omega
 have z:Qd so st fi one two rows w G=Qd so st fi one two rows w (G.take i)++Qd so st fi one two rows (Km so st fi one two rows w (G.take i)) (G[i]::G.drop (i+1)):=by
  rw [←Ab9,←e]
 rw [z,BN (by omega),l,Nat.sub_self]
 rfl
def Lx (H:Hp)(v:V)(x:Str×Q2):Prop:=∃t p,v=.ref t∧H t=some (.tup [.str x.1,.ref p])∧H p=some (.tup [.int x.2.1,.int x.2.2])
theorem N8 (v:V)(x:Str×Q2)(H H':Hp)(k:Kt H H')(h:Lx H v x):Lx H' v x:=by
 obtain ⟨t,p,e,h0,h1⟩:=h
 exact ⟨t,p,e,k _ _ h0,k _ _ h1⟩
def Ate (H:Hp)(W:HR)(l:HW):Prop:=∃kvs,H W=some (.dK kvs)∧kvs.map (·.1)=l.map Sum.inr∧l.Nodup
def pls (gs:IE)(x:Str):Prop:=∃g∈gs,x=g.a∨x=g.b
theorem Ag9 {gs:IE}{g:Gm}{x:Str}:pls (gs++[g]) x↔(pls gs x∨x=g.a)∨x=g.b:=by
 constructor
 ·rintro ⟨g',h,c⟩
  rcases BV.mp h with h|h
  ·exact .inl (.inl ⟨g',h,c⟩)
  ·cases AW.mp h
   exact c.imp .inr id
 ·rintro ((⟨g',h,c⟩|h)|h)
  ·exact ⟨g',EN _ h,c⟩
  ·exact ⟨g,AX _ (AW.mpr rfl),.inl h⟩
  ·exact ⟨g,AX _ (AW.mpr rfl),.inr h⟩
theorem Ow {gs:IE}{p:IC}(h:Jr (dk gs) gs.length p){g:Gm}:g∈pg gs p↔g∈gs:=by
 refine ⟨Qo,fun hg=>?_⟩
 obtain ⟨i,hi,rfl⟩:=GB hg
 refine ED.mpr ⟨i,((P2 h).mem_iff).mpr (BZ.mpr hi),AD hi⟩
theorem Xd {so st fi one two:Int}{rows:List Rw}{w:Wn}{g:Gm}{x:Str}(h:(w x).isSome∨x=g.a∨x=g.b):(N3 so st fi one two rows w g x).isSome:=by
 unfold N3
 by_cases c:x=g.b
 ·rw [AN c]
  rfl
 ·rw [AI c]
  by_cases c':x=g.a
  ·rw [AN c']
   rfl
  ·rw [AI c']
   rcases h with h|h|h
   ·exact h
   ·exact absurd h c'
   ·exact absurd h c
theorem Xz {so st fi one two:Int}{rows:List Rw}:∀{gs:IE} {w:Wn} {x:Str},(w x).isSome∨pls gs x→(Km so st fi one two rows w gs x).isSome
 |[],_,_,h=>by
  rcases h with h|⟨g,h,_⟩
  ·exact h
  ·cases h
 | g::gs,w,x,h=>by
  refine Xz (gs:=gs) (w:=N3 so st fi one two rows w g) ?_
  rcases h with h|⟨g',h,c⟩
  ·exact .inl (Xd (.inl h))
  ·rcases AU.mp h with rfl|h
   ·exact .inl (Xd (.inr c))
   ·exact .inr ⟨g',h,c⟩
theorem Abp {H:Hp}{f:Str→Q2}:∀{l:HW} {ys:ID},Ax (fun x y=>Lx H y (x,f x)) l ys→Ax (Lx H) ys (l.map fun x=>(x,f x))
 |_,_,.nil=>.nil
 |_,_,.cons h t=>.cons h (Abp t)
theorem So:∀(l:HW),Ax (fun v m=>v=V.str m) (l.map V.str) l
 |[]=>.nil
 |_::l=>.cons rfl (So l)
def Kw (K:KKf)(ns:HX):Sp:=fun vs H Q _=>match vs with
 |[.ref r,.ref L]=>∃(so st fi one two:Int) (rows:List Rw) (gs:IE) (xs:ID),(Oh K (Hn (Bn K) H) r so st fi one two rows∧Tb rows∧Nb st one two∧Bd 40 fi∧A1 K (Hn (Bn K) H) L xs∧Ax (B4 (Hn (Bn K) H)) xs gs∧gs.length≤40∧(Gb gs).length≤8∧(∀g∈gs,(0≤g.h∧g.h≤2)∧g.a≠g.b)∧Au H (Bn K) Bq Ek) ∧
  ∀D vs p H',Ml (Bn K) H H'→H D=none→H' D=some (.lst vs)→Au H' (Bn K) Bq Ek→Jr (dk gs) gs.length p→Ax (Lx H') vs ((Gb gs).map fun x=>(x,wq fi (Km so st fi one two rows (fun _=>none) (pg gs p) x)))→Q (.ref D) H'
 |_=>False
theorem K4:Ah ["rule","games","worths","step"] ["rule","games"] (Ac Nu):=C5
include er aq in
theorem Aaa (d:Bj K mg "running" Nu ["rule","games"])  (fR:A9 P w K mg base "trail" ["rule","games"] 9 (Ws K ns))(fA:A9 P w K mg base "move" ["worths","step"] 4 (Tz K ns)):A9 P w K mg base "running" ["rule","games"] 10 (Kw K ns):=by
 refine d.cal (k:=9) K4 (fun vs H Q E hq0=>?_) (fun f cdv A outer s H vs Q E hr hq0=>?_)
 ·obtain ⟨_,_,rfl,_⟩:=Hw hq0
  rfl
 ·obtain ⟨r,L,rfl,⟨so,st,fi,one,two,rows,gs,xs,⟨hR,tb,b,hf,hL,al,l30,l8,ok,tk⟩,k⟩⟩:=Hw hq0
  refine ⟨_,(@Aa _ _ _ _ _ (@Ak _ _ _ (2) _ _ _ K4.nd Ir (by trivial)) (@Aa _ _ _ _ _ (@K3 _ _ _ _ _ _ _ _ DJ rfl (@Bw _ _ _ _ (@Af _ _ _ _ _ _ _ _ _ _ _ fR hr (@Aj _ _ _ _ _ (dv 0) (@Ba _ _ _ (dv 1) (by rfl)) (by rfl)) (by trivial))) (@Aq _ _ (3) _ K4.nd rfl (by trivial) (by trivial)) (@Ar _ _ _ (@Fz _ _ _ _ (@Af _ _ _ _ _ _ _ _ _ _ _ fA hr (@Aj _ _ _ _ _ (dv 2) (@Ba _ _ _ (dv 3) (by rfl)) (by rfl)) (by trivial)) (by rfl))) (by intro _;rfl)) (@A5 _ _ _ _ (@B2 _ _ _ _ _ _ _ _ _ _ ["name"] ["worths"] [2] rfl (@Bw _ _ _ _ (@Ao _ _ _ _ _ _ _ _ _ Aj6 aq (by decide +kernel) (@Ba _ _ _ (dv 2) (by rfl)) (by trivial))) (fun C s H fp=>(@Aq _ _ (0) _ (show List.Nodup [("name":Str),("worths":Str)] by decide +kernel) rfl (by trivial) (by trivial))) (fun C s H fp=>(@B8 _ _ _ _ _ (@Ab _ _ _ _ _ (dv 0) (@Ab _ _ _ _ _ (@L6 _ _ _ _ _ _ (@u1 _ _ hr.units) (dv 1) (dv 0) (fun _ _=>rfl)) Ai (by rfl)) (by rfl)))) rfl rfl (by decide +kernel) (by decide +kernel) (by rfl) ⟨rfl,⟨⟩⟩ ⟨⟨rfl,rfl,rfl,rfl⟩,⟨⟩⟩ (by intro _;rfl))))),?_⟩
  refine fun W hW=>?_
  have s1:Ag H (upd H W (.dK [])):=An hW
  have eW:upd H W (.dK []) W=some (.dK []):=Ad
  generalize upd H W (.dK [])=H1 at s1 eW
  obtain ⟨N,hN⟩:∃N,N=Hn (Bn K) H:=⟨_,rfl⟩
  have sN:Ag N H:=hN▸Qx
  have sN1:=sN.trans s1
  have nW:N W=none:=hN▸Lr hW
  rw [←hN] at hR hL al
  have tk1:=tk.up s1
  obtain ⟨ps,tt,_⟩:=id tk1
  have sO:Ag N (Hn (Bn K) H1):=by
   rw [hN] at sN1 ⊢
   exact Abn sN1
  refine ⟨so,st,fi,one,two,rows,gs,xs,⟨hR.up sO,tb,b,hf,sO.seq hL,al.imp fun v g r=>Cr v g _ _ (Bc sO) r,l30,ok,tk1⟩,fun F vs p H2 sm nF eF tk2 stb aF=>?_⟩
  have ne2:∀{b:HR} {o:HO},H1 b=some o→(∀ps,o≠.tbl ps)→H2 b=some o:=fun e c=>sm _ _ (fun z=>c ps (by rw [z,tt] at e;exact (Option.some.inj e).symm)) e
  have sN2:Ag N H2:=by
   rw [hN]
   exact Tf (hN▸sN1) sm
  have eW2:=ne2 eW (fun _=>nofun)
  have dF:F≠W:=fun z=>by rw [z,eW] at nF;cases nF
  have mG:∀x,pls (pg gs p) x↔pls gs x:=fun x=>⟨fun ⟨g,h,c⟩=>⟨g,(Ow stb).mp h,c⟩,fun ⟨g,h,c⟩=>⟨g,(Ow stb).mpr h,c⟩⟩
  have okG:∀g∈pg gs p,(0≤g.h∧g.h≤2)∧g.a≠g.b:=fun g hg=>ok g (Qo hg)
  have lG:(pg gs p).length≤40:=by
   have:=(Xn al fun i hi=>stb.2.1 i hi).len
   have z:(pk xs p).length=p.length:=by unfold pk;rw [AE]
   have:=stb.1
   omega
  have k:=k (p:=p)
  generalize hG:pg gs p=G at aF okG lG mG
  have w0:∀x,WB 0 (wq fi ((fun _=>none:Wn) x)):=fun x=>⟨(by decide:(0:Int)<1),hf.mono (by decide),A0 rfl⟩
  have lF:vs.length=G.length:=by rw [aF.len,Vu]
  refine ⟨F,rfl,⟨_,A1.of eF⟩,Mh (K:=K) (a:=F) (xs:=vs) (fun i σ H'=>∃(l:HW) (o3:Option V),σ=[some (.ref r),some (.ref L),some (.ref W),o3]∧Ag N H'∧Au H' (Bn K) Bq Ek∧H' F=some (.lst vs)∧Ax (Tu H') vs (Qd so st fi one two rows (fun _=>none) G)∧Ate H' W l∧(∀x,x∈l↔pls (G.take i) x)∧Hz H' W (2*i) (wU (Km so st fi one two rows (fun _=>none) (G.take i)))) ?_ (fun i σ H' _ ⟨_,_,_,_,_,e,_⟩=>A1.of e) ?_ ?_⟩
  ·exact ⟨[],none,rfl,sN2,tk2,eF,aF,⟨[],eW2,rfl,.nil⟩,fun x=>⟨fun h=>by (cases h),fun ⟨g,h,_⟩=>by (cases h)⟩,⟨[],eW2,AV _,fun x=>.inl ⟨rfl,rfl⟩⟩⟩
  ·rintro i v σ H3 hv ⟨l,o3,rfl,sN3,tk3,eF3,aF3,⟨kvs,eW3,ek,nd⟩,ml,ws⟩
   have il:i<G.length:=by
    have:=(BI.mp hv).1
    omega
   have hg:G[i]? =some G[i]:=AD il
   obtain ⟨s,hs,sd⟩:=aF3.get hv
   rw [Ajt hg] at hs
   cases hs
   generalize G[i]=g at hg sd
   obtain ⟨⟨h0,h2⟩,ab⟩:=okG g (BH hg)
   have tk':G.take (i+1)=G.take i++[g]:=by rw [CI,hg];rfl
   have wb:∀x,WB i (wq fi (Km so st fi one two rows (fun _=>none) (G.take i) x)):=fun x=>by
    have:=Zj (so:=so) tb b hf (gs:=G.take i) (fun g hg=>(okG g (ES hg)).1) w0 x
    rw [BQ,Nat.zero_add,GE (DL il)] at this
    exact this
   rw [tk',V5]
   generalize hw:Km so st fi one two rows (fun _=>none) (G.take i)=w at ws wb sd
   have bb:BB (Hy so st fi one two rows w g):=Ae0 (U1 tb _ _) b h0 h2
   have lk:kvs.length≤80:=by
    obtain ⟨kvs',e',l',_⟩:=ws
    rw [eW3] at e'
    cases e'
    omega
   refine ⟨kvs,_,⟨eW3,by omega,sd,(wb _).sq (by omega),(wb _).sq (by omega),bb.sq (by decide)⟩,fun p1 p2 H4 s4 m1 m2 q1 q2 eW4=>?_⟩
   have ws4:=ws.put eW3 ab s4 q1 q2 eW4
   have kt4:=s4.kt' eW3
   refine ⟨dd (dd l g.a) g.b,_,rfl,s4.n sN3 nW,Kh tk3 s4 (.inr ⟨_,eW3⟩),s4 _ _ dF eF3,aF3.imp fun v g r=>Qq v g _ _ kt4 r,⟨_,eW4,Xr (Xr ek _ _) _ _,Qg (Qg nd)⟩,fun x=>?_,?_⟩
   ·rw [Zf,Zf,ml,Ag9]
   ·rw [Ael]
    exact ws4
  rintro σ H3 ⟨l,o3,rfl,sN3,tk3,eF3,aF3,⟨kvs,eW3,ek,nd⟩,ml,ws⟩
  rw [lF,DY] at ml ws
  have el:V4 l=Gb gs:=Me (Cz _) (Cz _) fun x=>by
   rw [E8,ml,mG]
   exact Ct.symm
  have ll:l.length≤8:=AO (G3 nd fun x hx=>by rw [←el];exact E8.mpr hx) l8
  refine ⟨kvs,l,eW3,ek,by omega,nd,fun L0 hL0=>?_⟩
  rw [el]
  have s4:Ag H3 (upd H3 L0 (.lst ((Gb gs).map V.str))):=An hL0
  have e4:upd H3 L0 (.lst ((Gb gs).map V.str)) L0=some (.lst ((Gb gs).map V.str)):=Ad
  generalize upd H3 L0 (.lst ((Gb gs).map V.str))=H4 at s4 e4
  have lp:(Gb gs).length≤8:=by
   rw [←el]
   exact AO (G3 (Fb (Cz _)) fun x hx=>E8.mp hx) ll
  refine ⟨L0,rfl,⟨_,A1.of e4⟩,Cb (fun _ v (x:Str)=>v=V.str x) (fun _ _ _ _ _ h=>h) (fun H x y=>Lx H y (x,wq fi (Km so st fi one two rows (fun _=>none) G x))) (fun x y H H' k h=>N8 y _ H H' k h) (by rw [AE];omega) (A1.of e4) (So _) ?_ ?_⟩
  ·intro v x H5 hM hx s5 P hP
   subst hM
   have s35:=s4.trans s5
   have hx:pls G x:=(mG x).mpr (Ct.mp hx)
   obtain ⟨kvs',e',_,ws'⟩:=ws
   rw [eW3] at e'
   cases e'
   have hs:=Xz (so:=so) (st:=st) (fi:=fi) (one:=one) (two:=two) (rows:=rows) (w:=fun _=>none) (.inr hx)
   rcases ws' x with ⟨u1,_⟩|⟨q,pp,u1,u2,u3⟩
   ·rw [FM.mp u1] at hs
    cases hs
   ·have gx:Hd H5 W (.str x) (some (.ref pp)):=by
     have:=Hd.k (k:=Sum.inr x) (s35 _ _ eW3)
     rw [u2] at this
     exact this
    obtain ⟨sp,e1,rfl⟩:=EA.mp u1
    refine ⟨rfl,W,_,rfl,gx,fun T H6 s6 e6=>hP _ _ s6 ⟨T,pp,rfl,e6,?_⟩⟩
    rw [e1]
    exact (s35.trans s6) _ _ u3
  intro D H5 ys s5 n5 e5 a5
  have s35:=s4.trans s5
  have sN5:=sN3.trans s35
  refine k D ys H5 (fun b o ne e=>sN5 b o (by rw [hN];unfold Hn;rw [AI ne];exact e)) ?_ e5 (tk3.up s35) stb (by rw [hG];exact Abp a5)
  cases c:H D with
  |none=>rfl
  | some o=>
   exfalso
   by_cases z:D=Bn K
   ·obtain ⟨ps3,t3,_⟩:=tk3.up s4
    rw [←z,n5] at t3
    cases t3
   ·have:N D=some o:=by
     rw [hN]
     unfold Hn
     rw [AI z]
     exact c
    rw [Cd (sN3.trans s4) n5] at this
    cases this
def Y4 (K:KKf):ID→Hp→VK→Prop:=fun xs H Q=>match xs with
 |[.ref p]=>∃ys,(A1 K H p ys∨D7 K H p ys)∧∀l,H l=none→Q (.ref l) (upd H l (.lst ys))
 |_=>False
theorem O6 {X:Cx}:Cy X (.type "list") (Y4 X.K):=by
 intro pins s σ H xs us Q I r h
 match xs,h with
 |[.ref p],⟨ys,h1,q⟩=>exact L3 pins s σ H _ us Q I r ⟨p,ys,rfl,h1,fun l hl=>q l hl⟩
def K5 (K:KKf)(ns:HX):Sp:=fun vs H Q _=>match vs with
 |[.ref L]=>∃gs,(Bk K H L gs∧(Gb gs).length<64)∧∀D H',Ag H H'→H D=none→H' D=some (.lst ((Gb gs).map V.str))→Q (.ref D) H'
 |_=>False
theorem Zt:Ah ["games"] ["games"] (Ac Nh):=C5
include er aq eN in
theorem Y2 (d:Bj K mg "players" Nh ["games"]):A9 P w K mg base "players" ["games"] 1 (K5 K ns):=by
 refine d.cal (k:=0) Zt (fun vs H Q E hq0=>?_) (fun f cdv A outer s H vs Q E hr hq0=>?_)
 ·obtain ⟨_,rfl,_⟩:=Js hq0
  rfl
 ·obtain ⟨L,rfl,⟨gs,⟨⟨vs,hx,hm,hl⟩,h64⟩,k⟩⟩:=Js hq0
  refine ⟨_,(@A5 _ _ _ _ (@Aab _ _ _ _ _ _ _ (by rfl) aq (by rfl) eN (@Al _ _ _ _ _ _ _ _ Kx (@B2 _ _ _ _ _ _ _ _ _ _ ["played"] [] [] rfl (@Bw _ _ _ _ (dv 0)) (fun C s H fp=>(@Aq _ _ (0) _ (show List.Nodup [("played":Str)] by decide +kernel) rfl (by trivial) (by trivial))) (fun C s H fp=>(@Bg _ _ _ _ _ _ _ (dv 0))) rfl rfl (by decide +kernel) (by decide +kernel) (by rfl) ⟨⟩ ⟨⟩ (by intro _;rfl)) (@B2 _ _ _ _ _ _ _ _ _ _ ["played"] [] [] rfl (@Bw _ _ _ _ (dv 0)) (fun C s H fp=>(@Aq _ _ (0) _ (show List.Nodup [("played":Str)] by decide +kernel) rfl (by trivial) (by trivial))) (fun C s H fp=>(@Bg _ _ _ _ _ _ _ (dv 0))) rfl rfl (by decide +kernel) (by decide +kernel) (by rfl) ⟨⟩ ⟨⟩ (by intro _;rfl))) (by rfl) (by rfl) (by rfl))),?_⟩
  have hz:vs.length≤1000:=by rw [hm.len];omega
  refine ⟨L,rfl,⟨_,hx⟩,Cb B4 Cr (fun _ g y=>y=V.str g.a) (fun _ _ _ _ _ h=>h) hz hx hm ?_ ?_⟩
  ·intro v m H2 hM _ s2 P hP
   obtain ⟨p,rfl,e⟩:=hM
   exact ⟨rfl,_,e,hP _ _ (Ag.refl _) rfl⟩
  intro D1 H1 ys1 s1 _ e1 a1
  have y1:=Gn a1
  have hm1:Ax (B4 H1) vs gs:=hm.imp fun v g r=>Cr v g _ _ (Bc s1) r
  refine ⟨L,rfl,⟨_,s1.seq hx⟩,Cb B4 Cr (fun _ g y=>y=V.str g.b) (fun _ _ _ _ _ h=>h) hz (s1.seq hx) hm1 ?_ ?_⟩
  ·intro v m H2 hM _ s2 P hP
   obtain ⟨p,rfl,e⟩:=hM
   exact ⟨rfl,_,e,hP _ _ (Ag.refl _) rfl⟩
  intro D2 H2 ys2 s2 _ e2 a2
  have y2:=Gn a2
  have l1:=a1.len
  have l2:=a2.len
  refine ⟨_,_,s2 _ _ e1,e2,by omega,fun D3 H3 s3 e3=>⟨gs.map (·.a)++gs.map (·.b),A1.of ?_,?_,h64,fun D hD=>?_⟩⟩
  ·rw [e3,y1,y2,CB]
  ·rw [AM,AE,AE]
   omega
  ·have s:=s1.trans (s2.trans s3)
   exact k D _ (s.trans (An hD)) (Cd s hD) Ad
abbrev En:=Int×Gm
def Pg (H:Hp)(kv:B3×V)(e:En):Prop:=kv.1=Sum.inl e.1∧B4 H kv.2 e.2
theorem Ib (kv:B3×V)(e:En)(H H':Hp)(k:Kt H H')(h:Pg H kv e):Pg H' kv e:=⟨h.1,Cr _ _ _ _ k h.2⟩
def Og (es:List En):Prop:=es.Pairwise fun a b=>a.1<b.1
def Am7 (H:Hp)(A:HR)(es:List En):Prop:=∃kvs,H A=some (.dK kvs)∧Ax (Pg H) kvs es
theorem U5 {H:Hp}:∀{kvs:List (B3×V)} {es:List En},Ax (Pg H) kvs es→Ax (B4 H) (kvs.map (·.2)) (es.map (·.2))
 |_,_,.nil=>.nil
 |_,_,.cons h t=>.cons h.2 (U5 t)
theorem Aa8 {H:Hp}:∀{kvs:List (B3×V)} {es:List En},Ax (Pg H) kvs es→kvs.map (·.1)=es.map fun e=>(Sum.inl e.1:B3)
 |_,_,.nil=>rfl
 |_,_,.cons h t=>by rw [BE,BE,h.1,Aa8 t]
theorem Vg {e:En}{es:List En}(h:Og (e::es)):∀x∈es,x.1≠e.1:=fun x hx=>by
 have:=(BY.mp h).1 x hx
 omega
theorem Qi {H:Hp}:∀{kvs:List (B3×V)} {es:List En},Ax (Pg H) kvs es→Og es→∀{n:Int} {g:Gm},(n,g)∈es→∃v,Cf kvs (Sum.inl n)=some v∧B4 H v g
 | _,_,.cons (a:=kv) (b:=e) h t,hi,n,g,hm=>by
  rcases AU.mp hm with e'|hm
  ·refine ⟨kv.2,Cn (by rw [h.1,←e']),?_⟩
   have:=h.2
   rw [←e'] at this
   exact this
  ·obtain ⟨v,h1,h2⟩:=Qi t (BY.mp hi).2 hm
   refine ⟨v,?_,h2⟩
   rw [Ce]
   ·exact h1
   ·rw [h.1]
    intro z
    have:=Vg hi _ hm
    exact this (Sum.inl.inj z).symm
theorem Vf {H:Hp}:∀{kvs:List (B3×V)} {es:List En},Ax (Pg H) kvs es→∀{n:Int},(∀e∈es,e.1≠n)→Cf kvs (Sum.inl n)=none
 |_,_,.nil,_,_=>rfl
 | _,_,.cons (a:=kv) (b:=e) h t,n,hn=>by
  rw [Ce]
  ·exact Vf t fun e he=>hn e (AJ _ he)
  ·rw [h.1]
   intro z
   exact hn e AK (Sum.inl.inj z)
theorem Aak {H:Hp}:∀{kvs:List (B3×V)} {es:List En},Ax (Pg H) kvs es→∀(n:Int),Ax (Pg H) (Gg kvs (Sum.inl n)) (es.filter fun e=>decide (e.1≠n))
 |_,_,.nil,_=>.nil
 | _,_,.cons (a:=kv) (b:=e) h t,n=>by
  have ih:=Aak t n
  unfold Gg at ih ⊢
  by_cases c:e.1=n
  ·rw [GS (by rw [h.1,c];simp),GS (by simp [c])]
   exact ih
  ·rw [GR (by rw [h.1];simp [c]),GR (by simp [c])]
   exact .cons h ih
def bhd (es:List En)(n:Int)(g0:Gm):List En:=es.filter fun e=>gt2 e.2.d e.1 g0.d n
theorem Nx:∀{es:List En},Og es→∀{e e':En},e∈es→e'∈es→e.1=e'.1→e=e'
 |[],_,_,_,he,_,_=>absurd he FU
 | x::es,h,e,e',he,he',z=>by
  rcases AU.mp he with h1|h1
  ·rcases AU.mp he' with h2|h2
   ·rw [h1,h2]
   ·rw [h1] at z
    exact absurd z.symm (Vg h _ h2)
  ·rcases AU.mp he' with h2|h2
   ·rw [h2] at z
    exact absurd z (Vg h _ h1)
   ·exact Nx (BY.mp h).2 h1 h2 z
def cB (es:List En)(n:Int)(g0:Gm):B3→Bool
 |.inl m=>es.any fun e=>decide (e.1=m)&&gt2 e.2.d e.1 g0.d n
 |.inr _=>false
theorem Akr {es:List En}(h:Og es){n:Int}{g0:Gm}{e:En}(he:e∈es):cB es n g0 (Sum.inl e.1)=gt2 e.2.d e.1 g0.d n:=by
 unfold cB
 rw [FI,List.any_eq_true]
 constructor
 ·rintro ⟨x,hx,c⟩
  rw [BR] at c
  have:=Nx h hx he (AZ c.1)
  subst this
  exact c.2
 ·intro c
  exact ⟨e,he,by rw [BR];exact ⟨AQ rfl,c⟩⟩
theorem Aiz {es:List En}(h:Og es){n:Int}{g0:Gm}:(es.map fun e=>(Sum.inl e.1:B3)).filter (cB es n g0)=(bhd es n g0).map fun e=>(Sum.inl e.1:B3):=by
 rw [List.filter_map]
 unfold bhd
 congr 1
 exact List.filter_congr fun e he=>Akr h he
theorem Aa5 {H:Hp}{es:List En}:∀{l:List En} {ys:ID},(∀e∈l,e∈es)→Ax (fun (x:B3) y=>∀e∈es,x=Sum.inl e.1→B4 H y e.2) (l.map fun e=>(Sum.inl e.1:B3)) ys→Ax (B4 H) ys (l.map (·.2))
 |[],_,_,.nil=>.nil
 |e::l,_,hl,.cons h t=>.cons (h e (hl e AK) rfl) (Aa5 (fun e he=>hl e (AJ _ he)) t)
def Sm (K:KKf)(ns:HX):Sp:=fun vs H Q _=>match vs with
 |[.ref A,.int n]=>∃(es:List En) (g0:Gm),(Am7 H A es∧Og es∧es.length≤40∧(n,g0)∈es∧Au H (Bn K) Bq Ek) ∧
  ∀D vs H' p,Ml (Bn K) H H'→H D=none→H' D=some (.lst vs)→Au H' (Bn K) Bq Ek→Jr (dk ((bhd es n g0).map (·.2))) ((bhd es n g0).map (·.2)).length p→Ax (B4 H') vs (pg ((bhd es n g0).map (·.2)) p)→Q (.ref D) H'
 |_=>False
theorem Sw:Ah ["kept","number","place"] ["kept","number"] (Ac Ql):=C5
include er in
theorem Acw (d:Bj K mg "behind" Ql ["kept","number"])  (aN:A9 P w K mg base "in_order" ["games"] 3 (Fx K ns)):A9 P w K mg base "behind" ["kept","number"] 4 (Sm K ns):=by
 refine d.cal (k:=3) Sw (fun vs H Q E hq0=>?_) (fun f cdv A outer s H vs Q E hr hq0=>?_)
 ·obtain ⟨_,_,rfl,_⟩:=Q0 hq0
  rfl
 ·obtain ⟨A,n,rfl,⟨es,g0,⟨⟨kvs,eA,al⟩,hi,l40,hn,tk⟩,k⟩⟩:=Q0 hq0
  refine ⟨_,(@Aa _ _ _ _ _ (@Ak _ _ _ (2) _ _ _ Sw.nd (@B8 _ _ _ _ _ (@Ab _ _ _ _ _ (@Bg _ _ _ _ _ _ _ (@L6 _ _ _ _ _ _ (@u1 _ _ hr.units) (dv 0) (dv 1) (fun _ _=>rfl))) (@Ab _ _ _ _ _ (dv 1) Ai (by rfl)) (by rfl))) (by trivial)) (@A5 _ _ _ _ (@Af _ _ _ _ _ _ _ _ _ _ _ aN hr (@Ba _ _ _ (@Ahx _ _ _ (@Ae8 _ _ _ _ _ _ _ _ _ _ _ _ ["other"] ["kept","place"] [0,2] rfl (@Ae3 _ _ _ _ (dv 0)) (fun C s H fp=>(@Aq _ _ (0) _ (show List.Nodup [("other":Str),("kept":Str),("place":Str)] by decide +kernel) rfl (by trivial) (by trivial))) (fun C s H fp=>(@Bl _ _ _ _ _ _ _ _ (show Dv _ _ Ark from (Aqh hr.units)) (@B8 _ _ _ _ _ (@Ab _ _ _ _ _ (@Bg _ _ _ _ _ _ _ (@L6 _ _ _ _ _ _ (@u1 _ _ hr.units) (dv 1) (dv 0) (fun _ _=>rfl))) (@Ab _ _ _ _ _ (dv 0) Ai (by rfl)) (by rfl))) (dv 2) (Ay _))) (fun C s H fp=>(@L6 _ _ _ _ _ _ (@u1 _ _ hr.units) (dv 1) (dv 0) (fun _ _=>rfl))) rfl rfl (by decide +kernel) (by decide +kernel) (by rfl) ⟨rfl,⟨rfl,⟨⟩⟩⟩ ⟨⟨rfl,rfl,rfl,rfl⟩,⟨⟨rfl,rfl,rfl,rfl⟩,⟨⟩⟩⟩ (by intro _;rfl))) (by rfl)) (by trivial)))),?_⟩
  obtain ⟨v0,hv0,p0,rfl,hp0⟩:=Qi al hi hn
  have dg:∀{H':Hp} {m:Int},Rd H' A (.dK kvs)→Hd H' A (.int m) (Cf kvs (Sum.inl m)):=fun e=>.inl ⟨kvs,Sum.inl _,e,rfl,rfl⟩
  have g1:=dg (m:=n) (.inl eA)
  rw [hv0] at g1
  refine ⟨A,_,rfl,g1,_,hp0,fun P H1 s1 e1=>?_⟩
  have eA1:=s1 _ _ eA
  refine ⟨A,kvs,rfl,eA1,fun o=>?_⟩
  have x2:Sx A H1 (upd H1 A (.frz o (.dK kvs))):=Sx.upd
  have e2:upd H1 A (.frz o (.dK kvs)) A=some (.frz o (.dK kvs)):=Ad
  have kt2:Kt H1 (upd H1 A (.frz o (.dK kvs))):=x2.kt' eA1
  have eP2:=kt2 _ _ e1
  have al2:Ax (Pg (upd H1 A (.frz o (.dK kvs)))) kvs es:=al.imp fun kv e r=>Ib kv e _ _ ((Bc s1).trans kt2) r
  generalize upd H1 A (.frz o (.dK kvs))=H2 at x2 e2 kt2 eP2 al2
  have kl:kvs.length≤40:=by rw [al.len];exact l40
  have ek:=Aa8 al
  refine W0 (fun H x y=>∀e∈es,x=Sum.inl e.1→B4 H y e.2) (fun x y H H' kt h e he z=>Cr _ _ _ _ kt (h e he z)) (cB es n g0) (by omega) e2 ?_ ?_
  ·intro x H3 hx s3 P3 P3' hP hP'
   rw [ek] at hx
   obtain ⟨e,he,rfl⟩:=BG.mp hx
   obtain ⟨v,hv,p,rfl,hp⟩:=Qi (al2.imp fun kv e r=>Ib kv e _ _ (Bc s3) r) hi he
   have gx:=dg (m:=e.1) (.inr ⟨o,s3 _ _ e2⟩)
   rw [hv] at gx
   have hP:=hP
   rw [Akr hi he] at hP hP'
   have un:∀{H':Hp},B4 H' (.ref p) e.2→∀e'∈es,(Sum.inl e.1:B3)=Sum.inl e'.1→B4 H' (.ref p) e'.2:=fun hg e' he' z=>by
    have:=Nx hi he he' (Sum.inl.inj z)
    subst this
    exact hg
   refine ⟨rfl,A,_,rfl,gx,_,hp,fun T H4 s4 e4=>⟨e.2.d,e.1,g0.d,n,e4,s4 _ _ (s3 _ _ eP2),⟨fun h=>?_,fun h=>hP' h _ s4⟩⟩⟩
   have gx4:=dg (m:=e.1) (.inr ⟨o,s4 _ _ (s3 _ _ e2)⟩)
   rw [hv] at gx4
   exact ⟨A,_,rfl,gx4,hP h _ _ s4 (un ⟨p,rfl,s4 _ _ hp⟩)⟩
  intro D0 H3 ys s3 n3 e3 a3
  rw [ek,Aiz hi] at a3
  have aY:Ax (B4 H3) ys ((bhd es n g0).map (·.2)):=Aa5 (fun e he=>(FH.mp he).1) a3
  have e3A:=s3 _ _ e2
  refine ⟨A,o,kvs,e3A,fun o' u z=>?_,?_⟩
  ·have z:H A=some (.frz o' u):=z
   rw [eA] at z
   cases z
  have nDA:D0≠A:=fun z=>by rw [z,e3A] at e3;cases e3
  have sA:Sx A H3 (upd H3 A (.dK kvs)):=Sx.upd
  have s14:Ag H1 (upd H3 A (.dK kvs)):=fun b u e=>by
   by_cases c:b=A
   ·subst c
    rw [eA1] at e
    cases e
    exact Ad
   ·exact sA b u c (s3 b u (x2 b u c e))
  have kt4:Kt H3 (upd H3 A (.dK kvs)):=fun p xs e=>sA p _ (fun z=>by rw [z,e3A] at e;cases e) e
  have eD4:=sA _ _ nDA e3
  generalize upd H3 A (.dK kvs)=H4 at sA s14 kt4 eD4
  have aY4:=aY.imp fun v g r=>Cr v g _ _ kt4 r
  have s04:=s1.trans s14
  have lb:(bhd es n g0).length≤es.length:=DA _ _
  refine ⟨_,ys,⟨A1.of eD4,aY4,by rw [AE];omega,tk.up s04⟩,fun D H5 p sm nD eD tk5 stb=>?_⟩
  obtain ⟨ps,tt,_⟩:=tk.up s04
  have kt5:Kt H4 H5:=fun q xs e=>sm q _ (fun z=>by rw [z,tt] at e;cases e) e
  exact k D _ H5 p (fun b o ne e=>sm b o ne (s04 b o e)) (Cd s04 nD) eD tk5 stb (Xn (aY4.imp fun v g r=>Cr v g _ _ kt5 r) fun i hi=>stb.2.1 i hi)
def V3 (ns:HW)(gs:IE):HW:=gs.foldl (fun ns g=>if g.a∈ns∨g.b∈ns then ns++[g.a,g.b] else ns) ns
theorem Vc:∀(gs:IE) (ns:HW),(V3 ns gs).length≤ns.length+2*gs.length
 |[],_=>AF _
 | g::gs,ns=>by
  have:=Vc gs (if g.a∈ns∨g.b∈ns then ns++[g.a,g.b] else ns)
  show (V3 (if g.a∈ns∨g.b∈ns then ns++[g.a,g.b] else ns) gs).length≤_
  have l:(if g.a∈ns∨g.b∈ns then ns++[g.a,g.b] else ns).length≤ns.length+2:=by
   split
   ·rw [AM]
    exact AF _
   ·omega
  rw [AY]
  omega
theorem Abt {nm:HW}:∀{gs:IE} {ns:HW},(∀x∈ns,x∈nm)→(∀g∈gs,g.a∈nm∧g.b∈nm)→∀x∈V3 ns gs,x∈nm
 |[],_,h,_=>h
 | g::gs,ns,h,hg=>by
  refine Abt (gs:=gs) (fun x hx=>?_) fun g' h'=>hg g' (AJ _ h')
  obtain ⟨g1,g2⟩:=hg g AK
  have hx:x∈(if g.a∈ns∨g.b∈ns then ns++[g.a,g.b] else ns):=hx
  split at hx
  ·rcases BV.mp hx with hx|hx
   ·exact h x hx
   ·rcases AU.mp hx with rfl|hx
    ·exact g1
    ·rw [AW.mp hx]
     exact g2
  ·exact h x hx
theorem Agh {gs:IE}{ns:HW}{g:Gm}:V3 ns (gs++[g])=if g.a∈V3 ns gs∨g.b∈V3 ns gs then V3 ns gs++[g.a,g.b] else V3 ns gs:=by
 unfold V3
 rw [List.foldl_append]
 rfl
theorem Qp {x:Str}:∀(l:HW),inV (.str x) (l.map V.str)=decide (x∈l)
 |[]=>rfl
 | y::l=>by
  have ih:=Qp (x:=x) l
  unfold inV at ih ⊢
  rw [BE,FW,ih]
  have e:((y:Str)==x)=decide (y=x):=by
   by_cases h:y=x
   ·subst h;simp
   ·rw [BC h];exact DK.mpr h
  show ((y==x)||decide (x∈l))=_
  rw [e,←Bool.decide_or]
  refine FV.mpr ⟨fun h=>?_,fun h=>?_⟩
  ·rcases h with rfl|h
   ·exact AK
   ·exact AJ _ h
  ·rcases AU.mp h with rfl|h
   ·exact .inl rfl
   ·exact .inr h
theorem Mt:∀(l:HW),(l.map V.str).all Fg=true
 |[]=>rfl
 |_::l=>by
  rw [BE,List.all_cons,Mt l]
  rfl
def Kc (K:KKf)(ns:HX):Sp:=fun vs H Q _=>match vs with
 |[.ref A,.int n]=>∃(es:List En) (g0:Gm) (nm:HW),(Am7 H A es∧Og es∧es.length≤40∧(n,g0)∈es∧Au H (Bn K) Bq Ek∧nm.length≤8∧∀e∈es,e.2.a∈nm∧e.2.b∈nm) ∧
  ∀D H' p,Ml (Bn K) H H'→H D=none→H' D=some (.lst ((V4 (V3 [g0.a,g0.b] (pg ((bhd es n g0).map (·.2)) p))).map V.str))→Au H' (Bn K) Bq Ek→Jr (dk ((bhd es n g0).map (·.2))) ((bhd es n g0).map (·.2)).length p→Q (.ref D) H'
 |_=>False
theorem K0:Ah ["kept","number","names","played"] ["kept","number"] (Ac Nj):=C5
include er aq eN aO in
theorem Zd (d:Bj K mg "reached" Nj ["kept","number"])  (fF:A9 P w K mg base "behind" ["kept","number"] 4 (Sm K ns)):A9 P w K mg base "reached" ["kept","number"] 5 (Kc K ns):=by
 refine d.cal (k:=4) K0 (fun vs H Q E hq0=>?_) (fun f cdv A outer s H vs Q E hr hq0=>?_)
 ·obtain ⟨_,_,rfl,_⟩:=Q0 hq0
  rfl
 ·obtain ⟨A,n,rfl,⟨es,g0,nm,⟨⟨kvs,eA,al⟩,hi,l40,hn,tk,l8,sub⟩,k⟩⟩:=Q0 hq0
  refine ⟨_,(@Aa _ _ _ _ _ (@Ak _ _ _ (2) _ _ _ K0.nd (@Bv _ _ _ _ _ _ _ _ _ O6 aO (by decide +kernel) (@Ba _ _ _ (@Dr _ _ _ _ _ _ _ _ _ _ Z0 (@L6 _ _ _ _ _ _ (@u1 _ _ hr.units) (dv 0) (dv 1) (fun _ _=>rfl)) (Dd Ae) (Dd Ae)) (by rfl)) (by trivial)) (by trivial)) (@Aa _ _ _ _ _ (@K3 _ _ _ _ _ _ _ _ DJ rfl (@Bw _ _ _ _ (@Af _ _ _ _ _ _ _ _ _ _ _ fF hr (@Aj _ _ _ _ _ (dv 0) (@Ba _ _ _ (dv 1) (by rfl)) (by rfl)) (by trivial))) (@Aq _ _ (3) _ K0.nd rfl (by trivial) (by trivial)) (@Ar _ _ _ (@B6 _ _ _ _ _ _ _ _ (@L2.PW.pt _ _ _ (@Os _ _ _ _ _ _ _ (@Bl _ _ _ _ _ _ _ _ Aqx (@Bg _ _ _ _ _ _ _ (dv 3)) (dv 2) (by with_unfolding_all rfl)) (@F8 _ _ _ _ (@Bl _ _ _ _ _ _ _ _ Aqx (@Bg _ _ _ _ _ _ _ (dv 3)) (dv 2) (by with_unfolding_all rfl))))) (@Ar _ _ _ (@Fz _ _ _ _ (@Lu _ _ _ _ _ _ _ _ _ _ _ _ GT PySem.F.slot_list_extend PySem.F.type_list_extend Aja (dv 2) (@Ab _ _ _ _ _ (@Dr _ _ _ _ _ _ _ _ _ _ Z0 (dv 3) (Dd Ae) (Dd Ae)) Ai (by rfl)) (by rfl) (by rfl) (by rfl) (by rfl) (by rfl)) (by rfl))) Av)) (by intro _;rfl)) (@A5 _ _ _ _ (@Aab _ _ _ _ _ _ _ (by rfl) aq (by rfl) eN (dv 2) (by rfl) (by rfl) (by rfl))))),?_⟩
  obtain ⟨v0,hv0,p0,rfl,hp0⟩:=Qi al hi hn
  have g1:Hd H A (.int n) (Cf kvs (Sum.inl n)):=.inl ⟨kvs,Sum.inl _,.inl eA,rfl,rfl⟩
  rw [hv0] at g1
  refine ⟨A,_,rfl,g1,_,rfl,_,rfl,p0,_,rfl,D7.of hp0,(by show ¬(HT.sIx 5 0 (some 1)=0∧HT.sIx 5 5 (some 3)=5);decide),fun t ht=>?_⟩
  rw [show Ni [V.int g0.d,V.str g0.a,V.str g0.b,V.int g0.h,V.int g0.s] (some 1) (some 3)=[V.str g0.a,V.str g0.b] from rfl]
  have s1:Ag H (upd H t (.tup [.str g0.a,.str g0.b])):=An ht
  have e1:upd H t (.tup [.str g0.a,.str g0.b]) t=some (.tup [.str g0.a,.str g0.b]):=Ad
  generalize upd H t (.tup [.str g0.a,.str g0.b])=H1 at s1 e1
  refine ⟨_,.inr (D7.of e1),fun N hN=>?_⟩
  have s2:Ag H1 (upd H1 N (.lst [.str g0.a,.str g0.b])):=An hN
  have e2:upd H1 N (.lst [.str g0.a,.str g0.b]) N=some (.lst ([g0.a,g0.b].map V.str)):=Ad
  have hN0:H N=none:=Cd s1 hN
  generalize upd H1 N (.lst [.str g0.a,.str g0.b])=H2 at s2 e2
  have s02:=s1.trans s2
  refine ⟨es,g0,⟨⟨kvs,s02 _ _ eA,al.imp fun kv e r=>Ib kv e _ _ (Bc s02) r⟩,hi,l40,hn,tk.up s02⟩,fun B vs H3 p sm nB eB tk3 stb aB=>?_⟩
  obtain ⟨ps,tt,_⟩:=tk.up s02
  have nNT:N≠Bn K:=fun z=>by rw [z,tt] at e2;cases e2
  have e3:=sm _ _ nNT e2
  have nBN:B≠N:=fun z=>by rw [z,e2] at nB;cases nB
  have hz:∀b o,b≠Bn K→H b=some o→H3 b=some o:=fun b o ne e=>sm b o ne (s02 b o e)
  have lb:(bhd es n g0).length≤es.length:=DA _ _
  have lp:(pg ((bhd es n g0).map (·.2)) p).length≤40:=by
   have:=stb.1
   have:(pg ((bhd es n g0).map (·.2)) p).length≤p.length:=List.length_filterMap_le ..
   rw [AE] at *
   omega
  have subG:∀g∈pg ((bhd es n g0).map (·.2)) p,g.a∈nm∧g.b∈nm:=fun g hg=>by
   obtain ⟨e,he,rfl⟩:=BG.mp (Qo hg)
   exact sub e (FH.mp he).1
  have k:=k (p:=p)
  generalize hG:pg ((bhd es n g0).map (·.2)) p=G at aB lp subG k
  have lv:=aB.len
  refine ⟨B,rfl,⟨_,A1.of eB⟩,Mh (K:=K) (a:=B) (xs:=vs) (fun i σ H'=>∃o3:Option V,σ=[some (.ref A),some (.int n),some (.ref N),o3]∧(∀b o,b≠N→H3 b=some o→H' b=some o)∧Au H' (Bn K) Bq Ek∧H' N=some (.lst ((V3 [g0.a,g0.b] (G.take i)).map V.str))) ⟨none,rfl,fun b o _ e=>e,tk3,e3⟩ (fun i σ H' _ ⟨_,_,s,_⟩=>A1.of (s _ _ nBN eB)) ?_ ?_⟩
  ·rintro i v σ H4 hv ⟨o3,rfl,s4,tk4,e4⟩
   obtain ⟨g,hg,pg',rfl,hpg⟩:=aB.get hv
   have hpg4:=s4 _ _ (fun z=>by rw [z,e3] at hpg;cases hpg) hpg
   have tk':G.take (i+1)=G.take i++[g]:=by rw [CI,hg];rfl
   have ll:(V3 [g0.a,g0.b] (G.take i)).length≤82:=by
    have:=Vc (G.take i) [g0.a,g0.b]
    rw [BQ] at this
    have z:[g0.a,g0.b].length=2:=rfl
    omega
   rw [tk',Agh]
   generalize V3 [g0.a,g0.b] (G.take i)=l at e4 ll
   have go:(g.a∈l∨g.b∈l)→∀t':HR,H4 t'=none→∃o3:Option V,[some (V.ref A),some (V.int n),some (V.ref N),some (V.ref pg')]=[some (.ref A),some (.int n),some (.ref N),o3]∧(∀b o,b≠N→H3 b=some o→upd (upd H4 t' (.tup [.str g.a,.str g.b])) N (.lst (l.map V.str++[.str g.a,.str g.b])) b=some o)∧Au (upd (upd H4 t' (.tup [.str g.a,.str g.b])) N (.lst (l.map V.str++[.str g.a,.str g.b]))) (Bn K) Bq Ek∧upd (upd H4 t' (.tup [.str g.a,.str g.b])) N (.lst (l.map V.str++[.str g.a,.str g.b])) N=some (.lst ((if g.a∈l∨g.b∈l then l++[g.a,g.b] else l).map V.str)):=fun c t' ht'=>by
    have ntN:t'≠N:=fun z=>by rw [z,e4] at ht';cases ht'
    have s5:Ag H4 (upd H4 t' (.tup [.str g.a,.str g.b])):=An ht'
    refine ⟨_,rfl,fun b o ne e=>?_,Kh (tk4.up s5) Sx.upd (.inl ⟨_,s5 _ _ e4⟩),?_⟩
    ·rw [Am ne]
     exact s5 b o (s4 b o ne e)
    ·rw [AN c,Ad,CB]
     rfl
   refine ⟨_,hpg4,_,.inl (A1.of e4),rfl,Mt l,?_⟩
   rw [Qp]
   refine ⟨fun h=>?_,fun h=>⟨_,hpg4,_,.inl (A1.of e4),rfl,Mt l,?_⟩⟩
   rotate_left
   ·rw [Qp]
    refine ⟨fun h'=>?_,fun h'=>?_⟩
    rotate_left
    ·have c:¬(g.a∈l∨g.b∈l):=fun z=>z.elim (BM h) (BM h')
     rw [AI c]
     exact ⟨_,rfl,s4,tk4,e4⟩
    have c:g.a∈l∨g.b∈l:=.inr (AZ h')
    refine ⟨.inl ⟨rfl,_,A1.of e4⟩,_,rfl,_,rfl,pg',_,rfl,D7.of hpg4,(by show ¬(HT.sIx 5 0 (some 1)=0∧HT.sIx 5 5 (some 3)=5);decide),fun t' ht'=>?_⟩
    rw [show Ni [V.int g.d,V.str g.a,V.str g.b,V.int g.h,V.int g.s] (some 1) (some 3)=[V.str g.a,V.str g.b] from rfl]
    have s5:Ag H4 (upd H4 t' (.tup [.str g.a,.str g.b])):=An ht'
    exact ⟨N,t',_,_,rfl,rfl,s5 _ _ e4,Ad,by rw [AE];exact AO (show l.length+2≤84 by omega) (by decide),go c t' ht'⟩
   have c:g.a∈l∨g.b∈l:=.inl (AZ h)
   refine ⟨fun _=>?_,fun h=>nb h⟩
   refine ⟨.inl ⟨rfl,_,A1.of e4⟩,_,rfl,_,rfl,pg',_,rfl,D7.of hpg4,(by show ¬(HT.sIx 5 0 (some 1)=0∧HT.sIx 5 5 (some 3)=5);decide),fun t' ht'=>?_⟩
   rw [show Ni [V.int g.d,V.str g.a,V.str g.b,V.int g.h,V.int g.s] (some 1) (some 3)=[V.str g.a,V.str g.b] from rfl]
   have s5:Ag H4 (upd H4 t' (.tup [.str g.a,.str g.b])):=An ht'
   exact ⟨N,t',_,_,rfl,rfl,s5 _ _ e4,Ad,by rw [AE];exact AO (show l.length+2≤84 by omega) (by decide),go c t' ht'⟩
  rintro σ H4 ⟨o3,rfl,s4,tk4,e4⟩
  rw [lv,DY] at e4
  have l82:(V3 [g0.a,g0.b] G).length≤82:=by
   have:=Vc G [g0.a,g0.b]
   have z:[g0.a,g0.b].length=2:=rfl
   omega
  have sN:∀x∈V3 [g0.a,g0.b] G,x∈nm:=Abt (fun x hx=>by
   obtain ⟨h1,h2⟩:=sub _ hn
   rcases AU.mp hx with rfl|hx
   ·exact h1
   ·rw [AW.mp hx]
    exact h2) subG
  have l64:(V4 (V3 [g0.a,g0.b] G)).length≤nm.length:=G3 (Fb (Cz _)) fun x hx=>sN x (E8.mp hx)
  refine ⟨_,A1.of e4,by omega,by omega,fun D hD=>?_⟩
  have s5:Ag H4 (upd H4 D (.lst ((V4 (V3 [g0.a,g0.b] G)).map V.str))):=An hD
  have hs:Ml (Bn K) H (upd H4 D (.lst ((V4 (V3 [g0.a,g0.b] G)).map V.str))):=fun b o ne e=>s5 b o (s4 b o (fun z=>by rw [z,hN0] at e;cases e) (hz b o ne e))
  refine k D _ hs ?_ Ad (tk4.up s5) stb
  cases c:H D with
  |none=>rfl
  | some o=>
   exfalso
   by_cases z:D=Bn K
   ·obtain ⟨ps4,t4,_⟩:=tk4
    rw [←z,hD] at t4
    cases t4
   ·rw [s4 D o (fun z=>by rw [z,hN0] at c;cases c) (hz D o z c)] at hD
    cases hD
def J7 (K:KKf)(ns:HX):Sp:=fun vs H Q E=>match vs with
 |[.ref L]=>∃gs,(Bk K H L gs∧gs.length≤41∧(Gb gs).length<60)∧(gs.length≤40∧(Gb gs).length≤8→∀H',Ag H H'→Q .non H')∧(¬(gs.length≤40∧(Gb gs).length≤8)→∀H',Ag H H'→ExN K "NoBook" E H')
 |_=>False
theorem Q1:Ah ["games"] ["games"] (Ac G9):=C5
include er ak in
theorem Rl (d:Bj K mg "check_size" G9 ["games"])(aZ:Gp mg "MOST_PLAYERS" (.int (8)))(bL:Gp mg "MOST_GAMES" (.int (40)))(eU:A9 P w K mg base "players" ["games"] 1 (K5 K ns)):A9 P w K mg base "check_size" ["games"] 2 (J7 K ns):=by
 refine d.calX (k:=1) Q1 (fun vs H Q E hq0=>?_) (fun f cdv A outer s H vs Q E hr hq0=>?_)
 ·obtain ⟨_,rfl,_⟩:=Js hq0
  rfl
 ·obtain ⟨L,rfl,⟨gs,⟨bk,l41,l60⟩,k,kr⟩⟩:=Js hq0
  refine ⟨_,(@Aa _ _ _ _ _ (@B6 _ _ _ _ _ _ _ _ (@Bl _ _ _ _ _ _ _ _ Afp (@Ao _ _ _ _ _ _ _ _ _ C4 ak (by decide +kernel) (@Ba _ _ _ (dv 0) (by rfl)) (by trivial)) (Cp bL (by rfl)) (Ay _)) (@Ar _ _ _ (@Cw _ _ _ _ _ _ _ _ _ _ _ _ _ _ _ _ _ _ _ _ _ _ _ er.b_NoBook er.z_NoBook (by rfl) (by decide))) Av) (@Ar _ _ _ (@B6 _ _ _ _ _ _ _ _ (@Bl _ _ _ _ _ _ _ _ Afp (@Ao _ _ _ _ _ _ _ _ _ C4 ak (by decide +kernel) (@Ba _ _ _ (@Af _ _ _ _ _ _ _ _ _ _ _ eU hr (@Ba _ _ _ (dv 0) (by rfl)) (by trivial)) (by rfl)) (by trivial)) (Cp aZ (by rfl)) (Ay _)) (@Ar _ _ _ (@Cw _ _ _ _ _ _ _ _ _ _ _ _ _ _ _ _ _ _ _ _ _ _ _ er.b_NoBook er.z_NoBook (by rfl) (by decide))) Av))),?_⟩
  obtain ⟨vs,hx,hm,hl⟩:=id bk
  have lv:=hm.len
  refine ⟨_,.inl hx,⟨fun h=>kr (fun z=>?_) _ (Ag.refl _) _ er.y_NoBook,fun h=>⟨gs,⟨bk,by omega⟩,fun D H1 s1 n1 e1=>⟨_,.inl (A1.of e1),⟨fun h'=>kr (fun z=>?_) H1 s1 _ er.y_NoBook,fun h'=>k ⟨?_,?_⟩ H1 s1⟩⟩⟩⟩⟩
  ·have:=AZ h
   omega
  ·have:=AZ h'
   rw [AE] at this
   omega
  ·have:=BM h
   omega
  ·have:=BM h'
   rw [AE] at this
   omega
structure LFd (fs:List (Str×V))(A R:HR)(last:Int):Prop where
 ke:fs.lookup ("kept":Str)=some (.ref A)
 la:fs.lookup ("last":Str)=some (.int last)
 ru:fs.lookup ("rule":Str)=some (.ref R)
 ws:fs.lookup ("worths":Str)=none
 wt:fs.lookup ("worth":Str)=none
 pu:fs.lookup ("put":Str)=none
 ta:fs.lookup ("take":Str)=none
 ga:fs.lookup ("games":Str)=none
 len:fs.length≤100
def Ft (K:KKf)(H:Hp)(L A R:HR)(es:List En)(last:Int):Prop:=∃C dx fs,H L=some (.ins C dx fs)∧PySem.W.nsIn K mainGlobals "Ledger"=some (some (.ref C))∧LFd fs A R last∧Am7 H A es
structure Ado (nm:HW)(es:List En)(last:Int):Prop where
 inc:Og es
 le:∀e∈es,e.1≤last
 mem:∀e∈es,e.2.a∈nm∧e.2.b∈nm
def Oy (L A T:HR)(H H':Hp):Prop:=∀b o,b≠L→b≠A→b≠T→H b=some o→H' b=some o
theorem Wo {f:Str}{v:V}:∀{fs:List (Str×V)} {u:V},fs.lookup f=some u→(Bb f v fs).length=fs.length
 |[],_,h=>by cases h
 | (g,w)::fs,u,h=>by
  by_cases c:f=g
  ·subst c
   unfold Bb
   rw [AN rfl]
   rfl
  ·have h:fs.lookup f=some u:=by
    rw [DX,show (f==g)=false from DK.mpr c] at h
    exact h
   unfold Bb
   rw [AI fun z=>c z.symm]
   exact congrArg (· + 1) (Wo h)
theorem LFd.put {fs:List (Str×V)}{A R:HR}{last m:Int}(h:LFd fs A R last):LFd (Bb "last" (.int m) fs) A R m:=by
 have:=Wo (v:=.int m) h.la
 have:=h.len
 exact ⟨Aw (by decide +kernel) h.ke,Ig,Aw (by decide +kernel) h.ru,Aw (by decide +kernel) h.ws,Aw (by decide +kernel) h.wt,Aw (by decide +kernel) h.pu,Aw (by decide +kernel) h.ta,Aw (by decide +kernel) h.ga,by omega⟩
theorem Aj1 {H H':Hp}{P x C dx:HR}{fs:List (Str×V)}{pos:Pos}{q:Str}(h:Au H P pos q)(s:Sx x H H')(hx:H x=some (.ins C dx fs)):Au H' P pos q:=by
 obtain ⟨ps,h1,h2,h3⟩:=h
 refine ⟨ps,s _ _ (fun z=>by rw [z,hx] at h1;cases h1) h1,h2,h3.imp id ?_⟩
 rintro ⟨c,e1,e2⟩
 exact ⟨c,e1,s _ _ (fun z=>by rw [z,hx] at e2;cases e2) e2⟩
def J8 (K:KKf)(ns:HX):Sp:=fun vs H Q E=>match vs with
 |[.ref L,v]=>∃(A R:HR) (es:List En) (last:Int) (g:Gm) (nm:HW),(Ft K H L A R es last∧Ado nm es last∧es.length≤40∧nm.length≤20∧B4 H v g∧g.a∈nm∧g.b∈nm∧Au H (Bn K) Bq Ek) ∧
  (es.length<40∧(Gb (es.map (·.2)++[g])).length≤8→∀r D H',Oy L A (Bn K) H H'→H' r=some (.tup [.int (last+1),.ref D])→Ft K H' L A R (es++[(last+1,g)]) (last+1)→Au H' (Bn K) Bq Ek→Q (.ref r) H') ∧
  (¬(es.length<40∧(Gb (es.map (·.2)++[g])).length≤8)→∀H',Ag H H'→ExN K "NoBook" E H')
 |_=>False
theorem Rj:Ah ["self","played"] ["self","played"] (Ac G4):=C5
include er aO in
theorem Ra (d:Ef K [a8] [] "put" "Ledger.put" G4 ["self","played"])  (cN:A9 P w K mg base "reached" ["kept","number"] 5 (Kc K ns))(cY:A9 P w K mg base "check_size" ["games"] 2 (J7 K ns)):C9 P w K mg base [a8] [] "put" ["self","played"] 6 (J8 K ns):=by
 refine d.calX (k:=5) Rj (fun vs H Q E hq0=>?_) (fun f cdv A outer s H vs Q E hr hq0=>?_)
 ·obtain ⟨_,_,rfl,_⟩:=Xb hq0
  rfl
 ·obtain ⟨L,v,rfl,⟨A,R,es,last,g,nm,⟨⟨C,dx,fs,eL,hC,fd,kvs,eA,al⟩,ok,l40,l20,hg,ga,gb,tk⟩,k,kr⟩⟩:=Xb hq0
  refine ⟨_,(@Aa _ _ _ _ _ (@Fz _ _ _ _ (@Oz _ _ _ _ _ _ _ _ _ _ _ _ _ _ _ _ _ _ _ _ _ _ _ _ _ cY hr (by decide) (by rfl) (@Ab _ _ _ _ _ (@Al _ _ _ _ _ _ _ _ Kx (@Xf _ _ _ _ _ _ _ (by rfl) aO (@B0 _ _ _ _ _ (dv 0) (by rfl)) rfl (by rfl) (by rfl)) (@E5 _ _ _ _ (@Ab _ _ _ _ _ (dv 1) Ai (by rfl)))) Ai (by rfl)) (by decide) (by rfl) (by rfl)) (by rfl)) (@Aa _ _ _ _ _ (@G2 _ _ _ _ _ _ _ _ (dv 0) (@Al _ _ _ _ _ _ _ _ F2 (@B0 _ _ _ _ _ (dv 0) (by rfl)) Ae) rfl) (@Aa _ _ _ _ _ (@O5 _ _ _ _ _ _ _ _ _ (@u1 _ _ hr.units) (@B0 _ _ _ _ _ (dv 0) (by rfl)) (@B0 _ _ _ _ _ (dv 0) (by rfl)) (dv 1) rfl) (@A5 _ _ _ _ (@B8 _ _ _ _ _ (@Ab _ _ _ _ _ (@B0 _ _ _ _ _ (dv 0) (by rfl)) (@Ab _ _ _ _ _ (@Af _ _ _ _ _ _ _ _ _ _ _ cN hr (@Aj _ _ _ _ _ (@B0 _ _ _ _ _ (dv 0) (by rfl)) (@Ba _ _ _ (@B0 _ _ _ _ _ (dv 0) (by rfl)) (by rfl)) (by rfl)) (by trivial)) Ai (by rfl)) (by rfl))))))),?_⟩
  obtain ⟨pv,rfl,hpv⟩:=id hg
  have cl:Ox K C∧NoAttr K C "kept"∧NoAttr K C "last":=B7 er.y_Ledger hC▸⟨er.l_Ledger,er.na_Ledger_kept,er.na_Ledger_last⟩
  have nLA:A≠L:=fun z=>by rw [z,eL] at eA;cases eA
  refine ⟨L,C,dx,fs,_,rfl,eL,cl.1,cl.2.1,fd.ke,A,kvs,rfl,.inl eA,fun D0 H1 s1 n1 e1=>fun D1 H2 s2 e2=>⟨_,_,s2 _ _ e1,e2,?_,fun P H3 s3 e3=>?_⟩⟩
  ·rw [AE,al.len]
   show es.length+1≤1000
   omega
  have s13:=s1.trans (s2.trans s3)
  have aP:Ax (B4 H3) (kvs.map (·.2)++[.ref pv]) (es.map (·.2)++[g]):=(U5 (al.imp fun kv e r=>Ib kv e _ _ (Bc s13) r)).snoc ⟨pv,rfl,s13 _ _ hpv⟩
  have lg:(es.map (·.2)++[g]).length=es.length+1:=by rw [AM,AE];rfl
  have memg:∀x∈es.map (·.2)++[g],x.a∈nm∧x.b∈nm:=fun x hx=>by
   rcases BV.mp hx with h|h
   ·obtain ⟨e,he,rfl⟩:=BG.mp h
    exact ok.mem e he
   ·rw [AW.mp h]
    exact ⟨ga,gb⟩
  have lpl:=Aiv memg
  refine ⟨_,⟨⟨_,A1.of e3,aP,by omega⟩,by omega,by omega⟩,fun fit H4 s4=>?_,fun nf H4 s4=>kr (fun z=>nf ⟨by omega,z.2⟩) H4 (s13.trans s4)⟩
  have l39:es.length<40:=by omega
  have l8:=fit.2
  have k:=k ⟨l39,l8⟩
  have memP:∀x∈es.map (·.2)++[g],x.a∈Gb (es.map (·.2)++[g])∧x.b∈Gb (es.map (·.2)++[g]):=fun x hx=>⟨Ct.mpr ⟨x,hx,.inl rfl⟩,Ct.mpr ⟨x,hx,.inr rfl⟩⟩
  have s04:=s13.trans s4
  have eL4:=s04 _ _ eL
  have eA4:=s04 _ _ eA
  refine ⟨L,C,dx,fs,_,rfl,eL4,cl.1,cl.2.2,fd.la,L,C,dx,fs,rfl,eL4,cl.1,cl.2.2,by have:=fd.len;omega,?_⟩
  have x5:Sx L H4 (upd H4 L (.ins C dx (Bb "last" (.int (last+1)) fs))):=Sx.upd
  have eL5:upd H4 L (.ins C dx (Bb "last" (.int (last+1)) fs)) L=some (.ins C dx (Bb "last" (.int (last+1)) fs)):=Ad
  have fd5:=fd.put (m:=last+1)
  have kt5:Kt H4 (upd H4 L (.ins C dx (Bb "last" (.int (last+1)) fs))):=x5.kt eL4
  have tk5:Au (upd H4 L (.ins C dx (Bb "last" (.int (last+1)) fs))) (Bn K) Bq Ek:=Aj1 (tk.up s04) x5 eL4
  generalize upd H4 L (.ins C dx (Bb "last" (.int (last+1)) fs))=H5 at x5 eL5 kt5 tk5
  have eA5:=x5 _ _ nLA eA4
  have lk:kvs.length<41:=by rw [al.len];omega
  refine ⟨L,C,dx,_,_,rfl,eL5,cl.1,cl.2.1,fd5.ke,L,C,dx,_,_,rfl,eL5,cl.1,cl.2.2,fd5.la,A,_,rfl,W8.k (k:=Sum.inl (last+1)) eA5 (AL lk (by decide)),?_⟩
  have nn:Cf kvs (Sum.inl (last+1))=none:=Vf al fun e he z=>by
   have:=ok.le e he
   omega
  rw [Ago _ nn]
  have x6:Sx A H5 (upd H5 A (.dK (kvs++[(Sum.inl (last+1),.ref pv)]))):=Sx.upd
  have eA6:upd H5 A (.dK (kvs++[(Sum.inl (last+1),.ref pv)])) A=some (.dK (kvs++[(Sum.inl (last+1),.ref pv)])):=Ad
  have kt6:Kt H5 (upd H5 A (.dK (kvs++[(Sum.inl (last+1),.ref pv)]))):=x6.kt' eA5
  have tk6:Au (upd H5 A (.dK (kvs++[(Sum.inl (last+1),.ref pv)]))) (Bn K) Bq Ek:=Kh tk5 x6 (.inr ⟨_,eA5⟩)
  have eL6:=x6 _ _ (CN nLA) eL5
  generalize upd H5 A (.dK (kvs++[(Sum.inl (last+1),.ref pv)]))=H6 at x6 eA6 kt6 tk6 eL6
  have kt06:Kt H H6:=((Bc s04).trans kt5).trans kt6
  have al6:Ax (Pg H6) (kvs++[(Sum.inl (last+1),.ref pv)]) (es++[(last+1,g)]):=(al.imp fun kv e r=>Ib kv e _ _ kt06 r).snoc ⟨rfl,pv,rfl,kt06 _ _ hpv⟩
  have inc6:Og (es++[(last+1,g)]):=List.pairwise_append.mpr ⟨ok.inc,FD ..,fun a ha b hb=>by
   rw [AW.mp hb]
   have:=ok.le a ha
   show a.1<last+1
   omega⟩
  have fr6:∀b o,b≠L→b≠A→H b=some o→H6 b=some o:=fun b o n1 n2 e=>x6 b o n2 (x5 b o n1 (s04 b o e))
  refine ⟨L,C,dx,_,_,rfl,eL6,cl.1,cl.2.2,fd5.la,L,C,dx,_,_,rfl,eL6,cl.1,cl.2.1,fd5.ke,L,C,dx,_,_,rfl,eL6,cl.1,cl.2.2,fd5.la,?_⟩
  refine ⟨es++[(last+1,g)],g,Gb (es.map (·.2)++[g]),⟨⟨_,eA6,al6⟩,inc6,by rw [AM];show es.length+1≤40;omega,AX _ (AW.mpr rfl),tk6,l8,fun e he=>?_⟩,fun D H7 p sm nD eD tk7 stb=>fun R H8 s8 e8=>?_⟩
  ·refine memP _ ?_
   rcases BV.mp he with h|h
   ·exact EN _ (BG.mpr ⟨e,h,rfl⟩)
   ·rw [AW.mp h]
    exact AX _ (AW.mpr rfl)
  obtain ⟨ps,tt,_⟩:=tk6
  have nLT:L≠Bn K:=fun z=>by rw [z,tt] at eL6;cases eL6
  have nAT:A≠Bn K:=fun z=>by rw [z,tt] at eA6;cases eA6
  have kt7:Kt H6 H7:=fun q xs e=>sm q _ (fun z=>by rw [z,tt] at e;cases e) e
  have kt68:=kt7.trans (Bc s8)
  exact k R D H8 (fun b o n1 n2 n3 e=>s8 b o (sm b o n3 (fr6 b o n1 n2 e))) e8 ⟨C,dx,_,s8 _ _ (sm _ _ nLT eL6),hC,fd5,_,s8 _ _ (sm _ _ nAT eA6),al6.imp fun kv e r=>Ib kv e _ _ kt68 r⟩ (tk7.up s8)
def wo (es:List En)(n:Int):List En:=es.filter fun e=>decide (e.1≠n)
def I0 (K:KKf)(ns:HX):Sp:=fun vs H Q E=>match vs with
 |[.ref L,.int n]=>∃(A R:HR) (es:List En) (last:Int),(Ft K H L A R es last∧Og es∧es.length≤40∧(Gb (es.map (·.2))).length≤8∧Au H (Bn K) Bq Ek) ∧
  (∀g,(n,g)∈es→∀D H',Oy L A (Bn K) H H'→Ft K H' L A R (wo es n) last→Au H' (Bn K) Bq Ek→Q (.ref D) H')∧((∀e∈es,e.1≠n)→∀H',Ag H H'→ExN K "NoGame" E H')
 |_=>False
theorem Ia:Ah ["self","number","found"] ["self","number"] (Ac F6):=C5
include er in
theorem Pt (d:Ef K [a8] [] "take" "Ledger.take" F6 ["self","number"])  (cN:A9 P w K mg base "reached" ["kept","number"] 5 (Kc K ns)):C9 P w K mg base [a8] [] "take" ["self","number"] 6 (I0 K ns):=by
 refine d.calX (k:=5) Ia (fun vs H Q E hq0=>?_) (fun f cdv A outer s H vs Q E hr hq0=>?_)
 ·obtain ⟨_,_,rfl,_⟩:=Q0 hq0
  rfl
 ·obtain ⟨L,n,rfl,⟨A,R,es,last,⟨⟨C,dx,fs,eL,hC,fd,kvs,eA,al⟩,inc,l40,l8,tk⟩,k,kr⟩⟩:=Q0 hq0
  refine ⟨_,(@Aa _ _ _ _ _ (@B6 _ _ _ _ _ _ _ _ (@Aix _ _ _ _ _ _ (@u1 _ _ hr.units) (dv 1) (@B0 _ _ _ _ _ (dv 0) (by rfl)) (by with_unfolding_all rfl)) (@Ar _ _ _ (@Cw _ _ _ _ _ _ _ _ _ _ _ _ _ _ _ _ _ _ _ _ _ _ _ er.b_NoGame er.z_NoGame (by rfl) (by decide))) Av) (@Aa _ _ _ _ _ (@Ak _ _ _ (2) _ _ _ Ia.nd (@Af _ _ _ _ _ _ _ _ _ _ _ cN hr (@Aj _ _ _ _ _ (@B0 _ _ _ _ _ (dv 0) (by rfl)) (@Ba _ _ _ (dv 1) (by rfl)) (by rfl)) (by trivial)) (by trivial)) (@Aa _ _ _ _ _ (@Fz _ _ _ _ (@Afs _ _ _ _ _ _ _ (@B0 _ _ _ _ _ (dv 0) (by rfl)) (dv 1) ⟨rfl,rfl,rfl,rfl⟩) (by rfl)) (@A5 _ _ _ _ (dv 2))))),?_⟩
  have cl:Ox K C∧NoAttr K C "kept":=B7 er.y_Ledger hC▸⟨er.l_Ledger,er.na_Ledger_kept⟩
  have nLA:A≠L:=fun z=>by rw [z,eL] at eA;cases eA
  have g1:Hd H A (.int n) (Cf kvs (Sum.inl n)):=.inl ⟨kvs,Sum.inl _,.inl eA,rfl,rfl⟩
  by_cases c:∃g,(n,g)∈es
  rotate_left
  ·have no:∀e∈es,e.1≠n:=fun e he z=>c ⟨e.2,z▸he⟩
   rw [Vf al no] at g1
   exact ⟨L,C,dx,fs,_,rfl,eL,cl.1,cl.2,fd.ke,A,_,rfl,g1,⟨fun _=>kr no _ (Ag.refl _) _ er.y_NoGame,fun h=>nb h⟩⟩
  obtain ⟨g,hn⟩:=c
  obtain ⟨v0,hv0,_⟩:=Qi al inc hn
  rw [hv0] at g1
  refine ⟨L,C,dx,fs,_,rfl,eL,cl.1,cl.2,fd.ke,A,_,rfl,g1,⟨fun h=>nb h,fun _=>?_⟩⟩
  refine ⟨L,C,dx,fs,_,rfl,eL,cl.1,cl.2,fd.ke,es,g,Gb (es.map (·.2)),⟨⟨kvs,eA,al⟩,inc,l40,hn,tk,l8,fun e he=>⟨Ct.mpr ⟨e.2,BG.mpr ⟨e,he,rfl⟩,.inl rfl⟩,Ct.mpr ⟨e.2,BG.mpr ⟨e,he,rfl⟩,.inr rfl⟩⟩⟩,fun D H1 p sm nD eD tk1 stb=>?_⟩
  obtain ⟨ps,tt,_⟩:=id tk
  have nLT:L≠Bn K:=fun z=>by rw [z,tt] at eL;cases eL
  have nAT:A≠Bn K:=fun z=>by rw [z,tt] at eA;cases eA
  have eL1:=sm _ _ nLT eL
  have eA1:=sm _ _ nAT eA
  have kt1:Kt H H1:=fun q xs e=>sm q _ (fun z=>by rw [z,tt] at e;cases e) e
  refine ⟨L,C,dx,fs,_,rfl,eL1,cl.1,cl.2,fd.ke,A,rfl,.inl ⟨kvs,.inl eA1⟩,kvs,Sum.inl n,v0,eA1,rfl,hv0,?_⟩
  have x2:Sx A H1 (upd H1 A (.dK (Gg kvs (Sum.inl n)))):=Sx.upd
  have eA2:upd H1 A (.dK (Gg kvs (Sum.inl n))) A=some (.dK (Gg kvs (Sum.inl n))):=Ad
  have kt2:Kt H1 (upd H1 A (.dK (Gg kvs (Sum.inl n)))):=x2.kt' eA1
  have tk2:Au (upd H1 A (.dK (Gg kvs (Sum.inl n)))) (Bn K) Bq Ek:=Kh tk1 x2 (.inr ⟨_,eA1⟩)
  have nDA:D≠A:=fun z=>by rw [z,eA] at nD;cases nD
  have eL2:=x2 _ _ (CN nLA) eL1
  have eD2:=x2 _ _ nDA eD
  generalize upd H1 A (.dK (Gg kvs (Sum.inl n)))=H2 at x2 eA2 kt2 tk2 eL2 eD2
  exact k g hn D H2 (fun b o n1 n2 n3 e=>x2 b o n2 (sm b o n3 e)) ⟨C,dx,fs,eL2,hC,fd,_,eA2,Aak (al.imp fun kv e r=>Ib kv e _ _ (kt1.trans kt2) r) n⟩ tk2
def Eu (K:KKf)(ns:HX):Sp:=fun vs H Q _=>match vs with
 |[.ref L]=>∃(A R:HR) (es:List En) (last:Int),(Ft K H L A R es last∧es.length≤40∧Au H (Bn K) Bq Ek) ∧
  ∀D vs H' p,Ml (Bn K) H H'→H D=none→H' D=some (.lst vs)→Au H' (Bn K) Bq Ek→Jr (dk (es.map (·.2))) (es.map (·.2)).length p→Ax (B4 H') vs (pg (es.map (·.2)) p)→Q (.ref D) H'
 |_=>False
theorem Oo:Ah ["self"] ["self"] (Ac Fp):=C5
include er aO in
theorem Om (d:Ef K [a8] [] "games" "Ledger.games" Fp ["self"])  (aN:A9 P w K mg base "in_order" ["games"] 3 (Fx K ns)):C9 P w K mg base [a8] [] "games" ["self"] 4 (Eu K ns):=by
 refine d.cal (k:=3) Oo (fun vs H Q E hq0=>?_) (fun f cdv A outer s H vs Q E hr hq0=>?_)
 ·obtain ⟨_,rfl,_⟩:=Js hq0
  rfl
 ·obtain ⟨L,rfl,⟨A,R,es,last,⟨⟨C,dx,fs,eL,hC,fd,kvs,eA,al⟩,l40,tk⟩,k⟩⟩:=Js hq0
  refine ⟨_,(@A5 _ _ _ _ (@Af _ _ _ _ _ _ _ _ _ _ _ aN hr (@Ba _ _ _ (@Xf _ _ _ _ _ _ _ (by rfl) aO (@B0 _ _ _ _ _ (dv 0) (by rfl)) rfl (by rfl) (by rfl)) (by rfl)) (by trivial))),?_⟩
  have cl:Ox K C∧NoAttr K C "kept":=B7 er.y_Ledger hC▸⟨er.l_Ledger,er.na_Ledger_kept⟩
  refine ⟨L,C,dx,fs,_,rfl,eL,cl.1,cl.2,fd.ke,A,kvs,rfl,.inl eA,fun D0 H1 s1 n1 e1=>?_⟩
  have a1:=U5 (al.imp fun kv e r=>Ib kv e _ _ (Bc s1) r)
  refine ⟨_,_,⟨A1.of e1,a1,by rw [AE];omega,tk.up s1⟩,fun D H2 p sm nD eD tk2 stb=>?_⟩
  obtain ⟨ps,tt,_⟩:=tk.up s1
  have kt2:Kt H1 H2:=fun q xs e=>sm q _ (fun z=>by rw [z,tt] at e;cases e) e
  exact k D _ H2 p (fun b o ne e=>sm b o ne (s1 b o e)) (Cd s1 nD) eD tk2 stb (Xn (a1.imp fun v g r=>Cr v g _ _ kt2 r) fun i hi=>stb.2.1 i hi)
theorem Mb {H:Hp}{x dx C:HR}(hx:H x=none)(hd:H dx=none)(ne:dx≠x):Ag H (upd (upd H dx (.own x)) x (.ins C dx [])):=(An hd).trans (An (by rw [Am (CN ne)];exact hx))
theorem Vb {H H1 H':Hp}{x:HR}(hx:H x=none)(s:Ag H H1)(a:Sx x H1 H'):Ag H H':=fun b o e=>a b o (fun z=>by rw [z,hx] at e;cases e) (s b o e)
def Px (K:KKf)(H:Hp)(a:HR)(so st fi one two:Int)(rows:List Rw):Prop:=∃C dx fs T,H a=some (.ins C dx fs)∧Kn K so C∧Fds fs so st fi one two T∧TbL K H T rows
theorem Px.up {K:KKf}{H H':Hp}{a:HR}{so st fi one two:Int}{rows:List Rw}(s:Ag H H'):Px K H a so st fi one two rows→Px K H' a so st fi one two rows:=fun ⟨C,dx,fs,T,e,kn,f,vs,t1,t2⟩=>⟨C,dx,fs,T,s _ _ e,kn,f,vs,s _ _ t1,t2.imp fun v g r=>Dy v g _ _ (Bc s) r⟩
def Gx (K:KKf)(ns:HX):Sp:=fun vs H Q _=>match vs with
 |[.ref a]=>∃(st fi one two:Int) (rows:List Rw),(Px K H a 0 st fi one two rows∧S0 rows)∧∀r H',Ag H H'→H r=none→Px K H' r 0 st fi one two rows→Q (.ref r) H'
 |_=>False
theorem Vj:Ah ["self"] ["self"] (Ac Ih):=C5
include er in
theorem Uj (d:Ef K [ai] [] "twin" "Rule.twin" Ih ["self"])  (ae:C9 P w K mg base [ai] [] "__init__" ["self","step","first","table"] 6 (C3 K ns)):C9 P w K mg base [ai] [] "twin" ["self"] 8 (Gx K ns):=by
 refine d.cal (k:=7) Vj (fun vs H Q E hq0=>?_) (fun f cdv A outer s H vs Q E hr hq0=>?_)
 ·obtain ⟨_,rfl,_⟩:=Js hq0
  rfl
 ·obtain ⟨a,rfl,⟨st,fi,one,two,rows,⟨⟨C,dx,fs,T,e,kn,f,vs,eT,al⟩,good⟩,k⟩⟩:=Js hq0
  refine ⟨_,(@A5 _ _ _ _ (@Uq _ _ _ _ _ _ _ _ _ _ _ _ _ _ ae (List.Mem.head _) er.m_Rule hr (by decide) (by rfl) er.b_Rule (@Ab _ _ _ _ _ (@B0 _ _ _ _ _ (dv 0) (by rfl)) (@Ab _ _ _ _ _ (@B0 _ _ _ _ _ (dv 0) (by rfl)) (@Ab _ _ _ _ _ (@B0 _ _ _ _ _ (dv 0) (by rfl)) Ai (by rfl)) (by rfl)) (by rfl)) (by decide) (by rfl) (by rfl))),?_⟩
  have hC:C=ai:=B7 kn.2 er.y_Rule
  subst hC
  refine ⟨a,_,dx,fs,_,rfl,e,er.l_Rule,er.na_Rule_step,f.st,a,_,dx,fs,_,rfl,e,er.l_Rule,er.na_Rule_first,f.fi,a,_,dx,fs,_,rfl,e,er.l_Rule,er.na_Rule_table,f.tb,fun x dx' hx hd' ne=>?_⟩
  have s1:=Mb (C:=C) hx hd' ne
  have e1:upd (upd H dx' (.own x)) x (.ins C dx' []) x=some (.ins C dx' []):=Ad
  generalize upd (upd H dx' (.own x)) x (.ins C dx' [])=H1 at s1 e1
  have a1:=al.imp fun v g r=>Dy v g _ _ (Bc s1) r
  have fin:∀{T':HR} {fs':List (Str×V)} {H2:Hp},Sx x H1 H2→H2 T'=some (.lst vs)→H2 x=some (.ins C dx' fs')→Fds fs' 0 st fi one two T'→Q (.ref x) H2:=fun {T' fs' H2} s2 eT' ex f'=>k x H2 (fun b o eb=>s2 b o (fun z=>by rw [z,hx] at eb;cases eb) (s1 b o eb)) hx ⟨C,dx',fs',T',ex,kn,f',vs,eT',a1.imp fun v g r=>Dy v g _ _ (s2.kt e1) r⟩
  refine ⟨_,dx',[],rows,vs,⟨e1,er.l_Rule,er.na_Rule_step,er.na_Rule_first,er.na_Rule_table,by decide,s1 _ _ eT,a1,good⟩,fun T' H2 s2 nT n1 eT' ex=>⟨rfl,?_⟩⟩
  have f0:=fd0 (st:=st) (fi:=fi) (T:=T') (fs:=[]) rfl
  exact fin s2 eT' ex ⟨f0.st,f0.fi,f0.tb,f0.sz,f0.bt,f0.tw⟩
def TwT (K:KKf)(T:List (HR×Sp)):Prop:=∀so C,Kn K so C→∃sp,(C,sp)∈T∧∀a H st fi one two rows Q,Px K H a so st fi one two rows→S0 rows→(∀r H',Ag H H'→H r=none→Px K H' r so st fi one two rows→Q (.ref r) H')→sp [.ref a] H Q E0
theorem Arc {K:KKf}{ns:HX}{c0:HR}(y0:PySem.W.nsIn K mainGlobals "Rule"=some (some (.ref c0))):TwT K [(c0,Gx K ns)]:=by
 rintro so C ⟨rfl,h⟩
 have z:=B7 h y0
 subst z
 exact ⟨_,.head _,fun a H st fi one two rows Q hR g k=>⟨st,fi,one,two,rows,⟨hR,g⟩,k⟩⟩
def Fd (K:KKf)(ns:HX):Sp:=fun vs H Q _=>match vs with
 |[.ref L,.ref a]=>∃(C0 dx0:HR) (so st fi one two:Int) (rows:List Rw),(H L=some (.ins C0 dx0 [])∧PySem.W.nsIn K mainGlobals "Ledger"=some (some (.ref C0))∧Px K H a so st fi one two rows∧S0 rows)∧∀A R H',Sx L H H'→H A=none→A≠L→H R=none→Ft K H' L A R [] 0→Px K H' R so st fi one two rows→Q .non H'
 |_=>False
theorem K1:Ah ["self","rule"] ["self","rule"] (Ac D6):=C5
include er in
theorem Kl (d:Ef K [a8] [] "__init__" "Ledger.__init__" D6 ["self","rule"])  (dJ:C9 P w K mg base [ai] [] "twin" ["self"] 8 (Gx K ns)):C9 P w K mg base [a8] [] "__init__" ["self","rule"] 9 (Fd K ns):=by
 refine d.cal (k:=8) K1 (fun vs H Q E hq0=>?_) (fun f cdv A outer s H vs Q E hr hq0=>?_)
 ·obtain ⟨_,_,rfl,_⟩:=Hw hq0
  rfl
 ·obtain ⟨L,a,rfl,⟨C0,dx0,so,st,fi,one,two,rows,⟨eL,hC,hR,good⟩,k⟩⟩:=Hw hq0
  refine ⟨_,(@Aa _ _ _ _ _ (@G2 _ _ _ _ _ _ _ _ (dv 0) (@Mf _ _ _ _ _ _ _ _ _ (dv 1) (@Dq _ _ _ _ _ _ _ _ _ _ _ _ _ _ dJ (List.Mem.head _) er.l_Rule (by decide) Fo) hr (by rfl)) rfl) (@Aa _ _ _ _ _ (@G2 _ _ _ _ _ _ _ _ (dv 0) Ir rfl) (@Ar _ _ _ (@G2 _ _ _ _ _ _ _ _ (dv 0) Ae rfl)))),?_⟩
  have cl:Ox K C0∧NoAttr K C0 "rule"∧NoAttr K C0 "kept"∧NoAttr K C0 "last":=B7 er.y_Ledger hC▸⟨er.l_Ledger,er.na_Ledger_rule,er.na_Ledger_kept,er.na_Ledger_last⟩
  obtain ⟨C,dx,fs,T,e,kn,f,tb⟩:=id hR
  obtain ⟨sp,hm,hs⟩:=Arc (ns:=ns) er.y_Rule so C kn
  refine ⟨a,C,dx,fs,sp,rfl,e,hm,f.tw,hs a H st fi one two rows _ hR good fun r H1 s1 nr hr=>⟨L,C0,dx0,[],rfl,s1 _ _ eL,cl.1,cl.2.1,by decide,?_⟩⟩
  have nrL:r≠L:=fun z=>by rw [z,eL] at nr;cases nr
  have x2:Sx L H1 (upd H1 L (.ins C0 dx0 (Bb "rule" (.ref r) []))):=Sx.upd
  have e2:upd H1 L (.ins C0 dx0 (Bb "rule" (.ref r) [])) L=some (.ins C0 dx0 (Bb "rule" (.ref r) [])):=Ad
  have kt2:=x2.kt (s1 _ _ eL)
  have sx:∀{H':Hp},Sx L H1 H'→Kt H1 H'→Px K H' r so st fi one two rows:=fun {H'} sx kt=>by
   obtain ⟨C',dx',fs',T',e',kn',f',vs',t1,t2⟩:=hr
   exact ⟨C',dx',fs',T',sx _ _ nrL e',kn',f',vs',sx _ _ (fun z=>by rw [z,s1 _ _ eL] at t1;cases t1) t1,t2.imp fun v g r=>Dy v g _ _ kt r⟩
  generalize upd H1 L (.ins C0 dx0 (Bb "rule" (.ref r) []))=H2 at x2 e2 kt2
  intro A hA
  have nAL:A≠L:=fun z=>by rw [z,e2] at hA;cases hA
  have s3:Ag H2 (upd H2 A (.dK [])):=An hA
  have e3:upd H2 A (.dK []) A=some (.dK []):=Ad
  generalize upd H2 A (.dK [])=H3 at s3 e3
  have l1:=Cg "rule" (.ref r) []
  have l2:=Cg "kept" (.ref A) (Bb "rule" (.ref r) [])
  have l3:=Cg "last" (.int 0) (Bb "kept" (.ref A) (Bb "rule" (.ref r) []))
  have l0:([]:List (Str×V)).length=0:=rfl
  have e3L:=s3 _ _ e2
  refine ⟨L,C0,dx0,_,rfl,e3L,cl.1,cl.2.2.1,by omega,L,C0,dx0,_,rfl,Ad,cl.1,cl.2.2.2,by omega,?_⟩
  have x5:Sx L H1 (upd (upd H3 L (.ins C0 dx0 (Bb "kept" (.ref A) (Bb "rule" (.ref r) [])))) L (.ins C0 dx0 (Bb "last" (.int 0) (Bb "kept" (.ref A) (Bb "rule" (.ref r) []))))):=x2.trans (Sx.trans (Sx.of s3) (Sx.trans Sx.upd Sx.upd))
  have kt5:Kt H1 (upd (upd H3 L (.ins C0 dx0 (Bb "kept" (.ref A) (Bb "rule" (.ref r) [])))) L (.ins C0 dx0 (Bb "last" (.int 0) (Bb "kept" (.ref A) (Bb "rule" (.ref r) []))))):=x5.kt (s1 _ _ eL)
  refine k A r _ (Sx.trans (Sx.of s1) x5) ?_ nAL nr ⟨C0,dx0,_,Ad,hC,⟨Aw (by decide +kernel) Ig,Ig,Aw (by decide +kernel) (Aw (by decide +kernel) Ig),Aw (by decide +kernel) (Aw (by decide +kernel) (Aw (by decide +kernel) rfl)),Aw (by decide +kernel) (Aw (by decide +kernel) (Aw (by decide +kernel) rfl)),Aw (by decide +kernel) (Aw (by decide +kernel) (Aw (by decide +kernel) rfl)),Aw (by decide +kernel) (Aw (by decide +kernel) (Aw (by decide +kernel) rfl)),Aw (by decide +kernel) (Aw (by decide +kernel) (Aw (by decide +kernel) rfl)),by omega⟩,[],?_,.nil⟩ (sx x5 kt5)
  ·cases c:H A with
   |none=>rfl
   |some o=>
    rw [x2 A o nAL (s1 _ _ c)] at hA
    cases hA
  ·rw [Am nAL,Am nAL]
   exact e3
theorem Ft.smt {K:KKf}{T L A R:HR}{H H':Hp}{es:List En}{last:Int}{pos:Pos}{q:Str}(sm:Ml T H H')(tk:Au H T pos q)(h:Ft K H L A R es last):Ft K H' L A R es last:=by
 obtain ⟨ps,tt,_⟩:=tk
 obtain ⟨C,dx,fs,eL,hC,fd,kvs,eA,al⟩:=h
 have kt:Kt H H':=fun p xs e=>sm p _ (fun z=>by rw [z,tt] at e;cases e) e
 exact ⟨C,dx,fs,sm _ _ (fun z=>by rw [z,tt] at eL;cases eL) eL,hC,fd,kvs,sm _ _ (fun z=>by rw [z,tt] at eA;cases eA) eA,al.imp fun kv e r=>Ib kv e _ _ kt r⟩
theorem Ft.up {K:KKf}{H H':Hp}{L A R:HR}{es:List En}{last:Int}(s:Ag H H')(h:Ft K H L A R es last):Ft K H' L A R es last:=by
 obtain ⟨C,dx,fs,eL,hC,fd,kvs,eA,al⟩:=h
 exact ⟨C,dx,fs,s _ _ eL,hC,fd,kvs,s _ _ eA,al.imp fun kv e r=>Ib kv e _ _ (Bc s) r⟩
theorem Yz {gs:IE}:∀{p:IC},(∀i∈p,i<gs.length)→∀(i:Nat),(pg gs p)[i]? =(p[i]?).bind fun j=>gs[j]?
 |[],_,i=>by
  show ([]:IE)[i]? =_
  simp
 | j::p,h,i=>by
  have hj:=h j AK
  have e:pg gs (j::p)=gs[j]::pg gs p:=by
   unfold pg
   rw [DU,AD hj]
  rw [e]
  cases i with
  |zero=>simp [AD hj]
  |succ i=>
   rw [DT,DT]
   exact Yz (fun i hi=>h i (AJ _ hi)) i
theorem Nn {gs:IE}:∀{p:IC},(∀i∈p,i<gs.length)→(pg gs p).length=p.length
 |[],_=>rfl
 | j::p,h=>by
  have hj:=h j AK
  have e:pg gs (j::p)=gs[j]::pg gs p:=by
   unfold pg
   rw [DU,AD hj]
  rw [e,AY,AY,Nn fun i hi=>h i (AJ _ hi)]
theorem Aod (gs:IE):pg gs (List.range gs.length)=gs:=by
 refine GX fun i=>?_
 rw [Yz fun i hi=>BZ.mp hi]
 by_cases h:i<gs.length
 ·rw [List.getElem?_range h]
  rfl
 ·rw [DB (by rw [DR];omega),DB (by omega)]
  rfl
theorem Wi {gs:IE}{p q:IC}(hp:Jr (dk gs) gs.length p)(hq:Jr (dk (pg gs p)) (pg gs p).length q):pg (pg gs p) q=pg gs p:=by
 have l:(pg gs p).length=p.length:=Nn hp.2.1
 have dg:∀i (h:i<p.length),dk (pg gs p) i=dk gs p[i]:=fun i h=>by
  unfold dk
  rw [Yz hp.2.1,AD h]
  rfl
 have hr:Jr (dk (pg gs p)) (pg gs p).length (List.range (pg gs p).length):=by
  refine ⟨DR,fun i hi=>BZ.mp hi,?_⟩
  refine ER.mpr fun i j hi hj ij=>?_
  rw [DR] at hi hj
  rw [List.getElem_range,List.getElem_range]
  show dk (pg gs p) i<dk (pg gs p) j∨dk (pg gs p) i=dk (pg gs p) j∧i<j
  rw [dg i (by omega),dg j (by omega)]
  rcases ER.mp hp.2.2 i j (by omega) (by omega) ij with z|⟨z,_⟩
  ·exact .inl z
  ·exact .inr ⟨z,ij⟩
 rw [Pb hq hr,Aod]
theorem Ko {gs:IE}{p:IC}(hp:Jr (dk gs) gs.length p):Gb (pg gs p)=Gb gs:=Me (Cz _) (Cz _) fun x=>by
 show x∈Gb (pg gs p)↔x∈Gb gs
 rw [Ct,Ct]
 exact ⟨fun ⟨g,h,c⟩=>⟨g,(Ow hp).mp h,c⟩,fun ⟨g,h,c⟩=>⟨g,(Ow hp).mpr h,c⟩⟩
def GOk (es:List En):Prop:=∀e∈es,(0≤e.2.h∧e.2.h≤2)∧e.2.a≠e.2.b
def Gd (K:KKf)(ns:HX):Sp:=fun vs H Q _=>match vs with
 |[.ref L]=>∃(A R:HR) (es:List En) (last so st fi one two:Int) (rows:List Rw),(Ft K H L A R es last∧Oh K (Hn (Bn K) H) R so st fi one two rows∧Tb rows∧Nb st one two∧Bd 40 fi∧es.length≤40∧GOk es∧Au H (Bn K) Bq Ek∧(Gb (es.map (·.2))).length≤8) ∧
  ∀D vs H' p,Ml (Bn K) H H'→H D=none→H' D=some (.lst vs)→Au H' (Bn K) Bq Ek→Jr (dk (es.map (·.2))) (es.map (·.2)).length p→Ax (Lx H') vs ((Gb (es.map (·.2))).map fun x=>(x,wq fi (Km so st fi one two rows (fun _=>none) (pg (es.map (·.2)) p) x)))→Q (.ref D) H'
 |_=>False
theorem Ng:Ah ["self"] ["self"] (Ac E1):=C5
include er in
theorem Np (d:Ef K [a8] [] "worths" "Ledger.worths" E1 ["self"])  (cO:A9 P w K mg base "running" ["rule","games"] 10 (Kw K ns))(aK:C9 P w K mg base [a8] [] "games" ["self"] 4 (Eu K ns)):C9 P w K mg base [a8] [] "worths" ["self"] 11 (Gd K ns):=by
 refine d.cal (k:=10) Ng (fun vs H Q E hq0=>?_) (fun f cdv A outer s H vs Q E hr hq0=>?_)
 ·obtain ⟨_,rfl,_⟩:=Js hq0
  rfl
 ·obtain ⟨L,rfl,⟨A,R,es,last,so,st,fi,one,two,rows,⟨lg,hR,tb,b,hf,l30,gok,tk,l8⟩,k⟩⟩:=Js hq0
  refine ⟨_,(@A5 _ _ _ _ (@Af _ _ _ _ _ _ _ _ _ _ _ cO hr (@Aj _ _ _ _ _ (@B0 _ _ _ _ _ (dv 0) (by rfl)) (@Ba _ _ _ (@Mf _ _ _ _ _ _ _ _ _ (dv 0) (@Dq _ _ _ _ _ _ _ _ _ _ _ _ _ _ aK (List.Mem.head _) er.l_Ledger (by decide) Fo) hr (by rfl)) (by rfl)) (by rfl)) (by trivial))),?_⟩
  obtain ⟨C,dx,fs,eL,hC,fd,kp⟩:=id lg
  have cl:Ox K C∧NoAttr K C "rule":=B7 er.y_Ledger hC▸⟨er.l_Ledger,er.na_Ledger_rule⟩
  have hCc:=B7 hC er.y_Ledger
  subst hCc
  refine ⟨L,_,dx,fs,_,rfl,eL,cl.1,cl.2,fd.ru,L,_,dx,fs,_,rfl,eL,.head _,fd.ga,A,R,es,last,⟨lg,by omega,tk⟩,fun F fv H1 p sm nF eF tk1 stb aF=>?_⟩
  obtain ⟨ps,tt,_⟩:=id tk1
  have so1:Ag (Hn (Bn K) H) (Hn (Bn K) H1):=Abn (Tf Qx sm)
  have lpg:(pg (es.map (·.2)) p).length≤40:=by
   rw [Nn stb.2.1,stb.1,AE]
   exact l30
  refine ⟨so,st,fi,one,two,rows,_,fv,⟨hR.up so1,tb,b,hf,A1.of (Afz tt eF fun _=>nofun),aF.imp fun v g r=>Cr v g _ _ (Aor tt) r,lpg,by rw [Ko stb];exact l8,fun g hg=>?_,tk1⟩,fun D vs q H2 sm2 nD eD tk2 stb2 aD=>?_⟩
  ·obtain ⟨e,he,rfl⟩:=BG.mp (Qo hg)
   exact gok e he
  rw [Wi stb stb2,Ko stb] at aD
  refine k D vs H2 p (fun b o ne e=>sm2 b o ne (sm b o ne e)) ?_ eD tk2 stb aD
  cases c:H D with
  |none=>rfl
  | some o=>
   exfalso
   by_cases z:D=Bn K
   ·rw [z,tt] at nD
    cases nD
   ·rw [sm D o z c] at nD
    cases nD
def Ao4 (H:Hp)(v:V)(e:En):Prop:=∃t p,v=.ref t∧H t=some (.tup [.int e.1,.ref p])∧H p=some (.tup [.int e.2.d,.str e.2.a,.str e.2.b,.int e.2.h,.int e.2.s])
def d0:En:=(0,⟨0,⟨#[]⟩,⟨#[]⟩,0,0⟩)
def lx (a b:En):Prop:=a.2.d<b.2.d∨a.2.d=b.2.d∧a.1<b.1
def nqd (x:Str×Q2):PyData:=.tuple [.str x.1,.tuple [.int x.2.1,.int x.2.2]]
theorem Afu {K:KKf}{H:Hp}:∀{vs:ID} {ss:List (Str×Q2)},Ax (Lx H) vs ss→Q8 K H vs (ss.map nqd)
 |_,_,.nil=>.nil
 |_,_,.cons ⟨t,p,e,h0,h1⟩ r=>by
  subst e
  exact .cons (.tup (D7.of h0) (.cons (.str _) (.cons (.tup (D7.of h1) (.cons (.int _) (.cons (.int _) .nil))) .nil))) (Afu r)
theorem Akl:∀{ss:List (Str×Q2)},(∀s∈ss,PyData.strOk s.1=true)→PyData.canLayAll0 (ss.map nqd)=true
 |[],_=>rfl
 |s::ss,h=>by
  have h1:=h s AK
  show (((PyData.strOk s.1&&((true&&(true&&true))&&true)))&&PyData.canLayAll0 (ss.map nqd))=true
  rw [h1,Akl fun s hs=>h s (AJ _ hs)]
  rfl
theorem Akd:∀(ss:List (Str×Q2)),PyData.depthAll (ss.map nqd)≤2
 |[]=>AV _
 |s::ss=>by
  have e:(nqd s).depth=2:=rfl
  show max (nqd s).depth (PyData.depthAll (ss.map nqd))≤2
  rw [e]
  have:=Akd ss
  omega
theorem Arh {ss:List (Str×Q2)}(h:∀s∈ss,PyData.strOk s.1=true):SeqAt.shaped (.list (ss.map nqd))=true:=by
 unfold SeqAt.shaped
 have e:(PyData.list (ss.map nqd)).depth=PyData.depthAll (ss.map nqd)+1:=rfl
 have:=Akd ss
 rw [show (PyData.list (ss.map nqd)).canLay0=true from Akl h,e,FF]
 exact AQ (by omega)
def pnd (e:En):PyData:=.tuple [.int e.1,.tuple [.int e.2.d,.str e.2.a,.str e.2.b,.int e.2.h,.int e.2.s]]
theorem Agb {K:KKf}{H:Hp}:∀{vs:ID} {es:List En},Ax (Ao4 H) vs es→Q8 K H vs (es.map pnd)
 |_,_,.nil=>.nil
 |_,_,.cons ⟨t,p,z,h0,h1⟩ r=>by
  subst z
  exact .cons (.tup (D7.of h0) (.cons (.int _) (.cons (.tup (D7.of h1) (.cons (.int _) (.cons (.str _) (.cons (.str _) (.cons (.int _) (.cons (.int _) .nil)))))) .nil))) (Agb r)
theorem Ak1:∀{es:List En},(∀e∈es,PyData.strOk e.2.a=true∧PyData.strOk e.2.b=true)→PyData.canLayAll0 (es.map pnd)=true
 |[],_=>rfl
 |e::es,h=>by
  obtain ⟨h1,h2⟩:=h e AK
  show ((true&&((true&&(PyData.strOk e.2.a&&(PyData.strOk e.2.b&&(true&&(true&&true)))))&&true))&&PyData.canLayAll0 (es.map pnd))=true
  rw [h1,h2,Ak1 fun e he=>h e (AJ _ he)]
  rfl
theorem Akx:∀(es:List En),PyData.depthAll (es.map pnd)≤2
 |[]=>AV _
 |e::es=>by
  have z:(pnd e).depth=2:=rfl
  show max (pnd e).depth (PyData.depthAll (es.map pnd))≤2
  rw [z]
  have:=Akx es
  omega
theorem Ap0 {es:List En}(h:∀e∈es,PyData.strOk e.2.a=true∧PyData.strOk e.2.b=true):SeqAt.shaped (.list (es.map pnd))=true:=by
 unfold SeqAt.shaped
 have e:(PyData.list (es.map pnd)).depth=PyData.depthAll (es.map pnd)+1:=rfl
 have:=Akx es
 rw [show (PyData.list (es.map pnd)).canLay0=true from Ak1 h,e,FF]
 exact AQ (by omega)
theorem Pa {K:KKf}{L A R T:HR}{H H':Hp}{es:List En}{last:Int}{pos:Pos}{q:Str}(h:Oy L A T H H')(lg:Ft K H L A R es last)(tk:Au H T pos q):(∀b xs,H b=some (.lst xs)→H' b=some (.lst xs))∧Kt H H':=by
 obtain ⟨C,dx,fs,eL,_,_,kvs,eA,_⟩:=lg
 obtain ⟨ps,eT,_⟩:=tk
 refine ⟨fun b xs e=>h b _ ?_ ?_ ?_ e,fun b xs e=>h b _ ?_ ?_ ?_ e⟩
 ·exact fun z=>by rw [z,eL] at e;cases e
 ·exact fun z=>by rw [z,eA] at e;cases e
 ·exact fun z=>by rw [z,eT] at e;cases e
 ·exact fun z=>by rw [z,eL] at e;cases e
 ·exact fun z=>by rw [z,eA] at e;cases e
 ·exact fun z=>by rw [z,eT] at e;cases e
theorem Aip {nm:HW}{es:List En}{last:Int}{g:Gm}(ok:Ado nm es last)(ga:g.a∈nm)(gb:g.b∈nm):Ado nm (es++[(last+1,g)]) (last+1):=by
 refine ⟨List.pairwise_append.mpr ⟨ok.inc,FD ..,fun a ha b hb=>?_⟩,fun e he=>?_,fun e he=>?_⟩
 ·rw [AW.mp hb]
  have:=ok.le a ha
  show a.1<last+1
  omega
 ·rcases BV.mp he with h|h
  ·have:=ok.le e h
   omega
  ·rw [AW.mp h]
   exact Int.le_refl _
 ·rcases BV.mp he with h|h
  ·exact ok.mem e h
  ·rw [AW.mp h]
   exact ⟨ga,gb⟩
theorem Anb {u:HO}{t:String}(h:An4 u=some t):tyB t "str"=some false:=by
 cases u with
 |lst _=>cases h;rfl
 |tup _=>cases h;rfl
 |dK _=>cases h;rfl
 |dT _=>cases h;rfl
 |frz o u=>
  cases u with
  |lst _=>cases h;rfl
  |_=>cases h
 |_=>cases h
def L8 (x:Str):Bool:=decide (1≤x.length)&&decide (x.length≤8)&&(co x).all fun c=>decide (c∈co abc)
def Mp:V→Bool
 |.str x=>L8 x
 |_=>false
theorem Aij {c:Nat}:c∈co abc↔97≤c∧c<123:=by
 have e:co abc=(List.range 26).map fun j=>97+j:=by decide +kernel
 rw [e,BG]
 constructor
 ·rintro ⟨j,hj,rfl⟩
  have:=BZ.mp hj
  omega
 ·intro h
  exact ⟨c-97,BZ.mpr (by omega),by omega⟩
theorem _root_.Lw.Nm.is {x:Str}(h:Nm x):L8 x=true:=by
 unfold L8
 have l:=Bm x
 have h1:=h.len1
 have h8:=h.len8
 rw [BR,BR]
 refine ⟨⟨AQ (by omega),AQ (by omega)⟩,CH.mpr fun c hc=>AQ (Aij.mpr (h.abc c hc))⟩
def Qu (K:KKf)(ns:HX):Sp:=fun vs H Q _=>match vs with
 |[v]=>Kd H v∧(∀z,v=.str z→z.length≤1000)∧∀H',Ag H H'→Q (.bl (Mp v)) H'
 |_=>False
theorem Zr:Ah ["thing"] ["thing"] (Ac M5):=C5
include er eo ak a6 aX in
theorem Y8 (d:Bj K mg "is_name" M5 ["thing"])(cZ:Gp mg "LETTERS" (.str "abcdefghijklmnopqrstuvwxyz"))(b7:Gp mg "LONGEST_NAME" (.int (8))) :A9 P w K mg base "is_name" ["thing"] 1 (Qu K ns):=by
 refine d.cal (k:=0) Zr (fun vs H Q E h=>?_) (fun f cdv A outer s H vs Q E hr h=>?_)
 ·match vs,h with
  |[_],_=>rfl
 ·refine ⟨_,(@Aa _ _ _ _ _ (@B6 _ _ _ _ _ _ _ _ (@L2.PW.pt _ _ _ (@Os _ _ _ _ _ _ _ (@Bu _ _ _ _ (@Cc _ _ _ (@Ao _ _ _ _ _ _ _ _ _ S5 a6 (by decide +kernel) (@Aj _ _ _ _ _ (dv 0) (@Ba _ _ _ (Aah "str" (by rfl) aX (by decide +kernel)) (by rfl)) (by rfl)) (by trivial)) (by intro _;rfl))) (@F8 _ _ _ _ (@Bu _ _ _ _ (@O1 _ _ _ _ _ _ _ _ _ _ _ _ Q3 Q3 Ae (@Ao _ _ _ _ _ _ _ _ _ C4 ak (by decide +kernel) (@Ba _ _ _ (dv 0) (by rfl)) (by trivial)) (Cp b7 (by rfl)) (by with_unfolding_all rfl)))))) (@A5 _ _ _ _ Lc) Av) (@A5 _ _ _ _ (@Ao _ _ _ _ _ _ _ _ _ (@Acp _ rfl) eo (by decide +kernel) (@Ba _ _ _ (@B2 _ _ _ _ _ _ _ _ _ _ ["sign"] [] [] rfl (@Aed _ _ _ _ (dv 0)) (fun C s H fp=>(@Aq _ _ (0) _ (show List.Nodup [("sign":Str)] by decide +kernel) rfl (by trivial) (by trivial))) (fun C s H fp=>(@Ck _ _ _ _ _ _ _ _ Akz (dv 0) (Cp cZ (by rfl)) (by with_unfolding_all rfl))) rfl rfl (by decide +kernel) (by decide +kernel) (by rfl) ⟨⟩ ⟨⟩ (by intro _;rfl)) (by rfl)) (by trivial)))),?_⟩
  match vs,h with
  |[.int _],⟨_,_,q⟩=>exact ⟨false,rfl,⟨fun _=>⟨fun _=>q _ (Ag.refl _),fun h=>nb h⟩,fun h=>nb h⟩⟩
  |[.bl _],⟨_,_,q⟩=>exact ⟨false,rfl,⟨fun _=>⟨fun _=>q _ (Ag.refl _),fun h=>nb h⟩,fun h=>nb h⟩⟩
  |[.non],⟨_,_,q⟩=>exact ⟨false,rfl,⟨fun _=>⟨fun _=>q _ (Ag.refl _),fun h=>nb h⟩,fun h=>nb h⟩⟩
  |[.ref _],⟨⟨u,t,h1,h2,h3⟩,_,q⟩=>exact ⟨u,false,t,h1,h2,Anb h2,⟨fun _=>⟨fun _=>q _ (Ag.refl _),fun h=>nb h⟩,fun h=>nb h⟩⟩
  |[.flt _],⟨z,_⟩=>exact z.elim
  |[.byt _],⟨z,_⟩=>exact z.elim
  |[.ty _],⟨z,_⟩=>exact z.elim
  | [.str x],⟨_,hz,q⟩=>
   have hz:=hz x rfl
   refine ⟨true,rfl,⟨fun h=>nb h,fun _=>⟨AO hz (by decide),⟨fun h1=>⟨fun h2=>?_,fun h2=>?_⟩,fun h1=>?_⟩⟩⟩⟩
   ·have h2:¬(x.length:Int)≤8:=by simpa using h2
    have e:Mp (.str x)=false:=by
     show L8 x=false
     unfold L8
     rw [BC (show ¬x.length≤8 by omega),GN,ET]
    have q:=q _ (Ag.refl _)
    rw [e] at q
    exact q
   ·have h2:(x.length:Int)≤8:=by simpa using h2
    show Hr (Its x) _ _ _ _ _ _ _
    refine Wr (fun c=>.bl (decide (c∈co abc))) hz (fun c H2 hc s2 P hP=>⟨rfl,c,rfl,hP⟩) fun D H2 s2 e2=>⟨(co x).map fun c=>decide (c∈co abc),A1.of (by rw [e2,EH];rfl),?_⟩
    have e:Mp (.str x)=((co x).map fun c=>decide (c∈co abc)).all id:=by
     have h1:(1:Int)≤x.length:=AZ h1
     show L8 x=_
     unfold L8
     rw [AQ (show 1≤x.length by omega),AQ (show x.length≤8 by omega),List.all_map]
     rfl
    rw [←e]
    exact q H2 s2
   ·refine ⟨fun _=>?_,fun h=>nb h⟩
    have e:Mp (.str x)=false:=by
     have h1:¬(1:Int)≤x.length:=BM h1
     show L8 x=false
     unfold L8
     rw [BC (show ¬1≤x.length by omega),ET,ET]
    have q:=q _ (Ag.refl _)
    rw [e] at q
    exact q
def eqS:V→V→Bool
 |.str a,.str b=>decide (a=b)
 |_,_=>false
def F0 (d x y h s:V):Bool:=btw d 0 9999&&Mp x&&Mp y&&!eqS x y&&btw h 0 2&&btw s (-1) 1
def SL (v:V):Prop:=∀z,v=.str z→z.length≤1000
theorem Ahm {v:V}(h:Mp v=true):∃x,v=.str x:=by
 cases v with
 |str x=>exact ⟨x,rfl⟩
 |_=>cases h
def Ack (K:KKf)(ns:HX):Sp:=fun vs H Q E=>match vs with
 |[d,x,y,h,s]=>(Kd H d∧Kd H x∧Kd H y∧Kd H h∧Kd H s)∧(SL x∧SL y)∧(F0 d x y h s=false→∀H',Ag H H'→ExN K "NoGame" E H')∧(F0 d x y h s=true→∀p H',Ag H H'→H' p=some (.tup [d,x,y,h,s])→Q (.ref p) H')
 |_=>False
theorem Ab3 {vs:ID}{F:V→V→V→V→V→Prop}(h:match vs with|[x0,x1,x2,x3,x4]=>F x0 x1 x2 x3 x4|_=>False):∃x0 x1 x2 x3 x4,vs=[x0,x1,x2,x3,x4]∧F x0 x1 x2 x3 x4:=by
 match vs,h with
 |[x0,x1,x2,x3,x4],h=>exact ⟨_,_,_,_,_,rfl,h⟩
theorem Ajk:Ah ["day","one","other","halves","side"] ["day","one","other","halves","side"] (Ac Y9):=C5
include er in
theorem Ajo (d:Bj K mg "game" Y9 ["day","one","other","halves","side"])(cP:Gp mg "LAST_DAY" (.int (9999)))(aj:A9 P w K mg base "is_between" ["thing","least","most"] 2 (El K ns))(dZ:A9 P w K mg base "is_name" ["thing"] 1 (Qu K ns)):A9 P w K mg base "game" ["day","one","other","halves","side"] 3 (Ack K ns):=by
 refine d.calX (k:=2) Ajk (fun vs H Q E hq0=>?_) (fun f cdv A outer s H vs Q E hr hq0=>?_)
 ·obtain ⟨_,_,_,_,_,rfl,_⟩:=Ab3 hq0
  rfl
 ·obtain ⟨d0,x,y,h0,s0,rfl,⟨⟨kd,kx,ky,kh,ks⟩,⟨lx,ly⟩,ex,q⟩⟩:=Ab3 hq0
  refine ⟨_,(@Aa _ _ _ _ _ (@B6 _ _ _ _ _ _ _ _ (@Bu _ _ _ _ (@Cc _ _ _ (@Af _ _ _ _ _ _ _ _ _ _ _ aj hr (@Aj _ _ _ _ _ (dv 0) (@Aj _ _ _ _ _ Ae (@Ba _ _ _ (Cp cP (by rfl)) (by rfl)) (by rfl)) (by rfl)) (by trivial)) (by intro _;rfl))) (@Ar _ _ _ (@Cw _ _ _ _ _ _ _ _ _ _ _ _ _ _ _ _ _ _ _ _ _ _ _ er.b_NoGame er.z_NoGame (by rfl) (by decide))) Av) (@Aa _ _ _ _ _ (@B6 _ _ _ _ _ _ _ _ (@L2.PW.pt _ _ _ (@Os _ _ _ _ _ _ _ (@Bu _ _ _ _ (@Cc _ _ _ (@Af _ _ _ _ _ _ _ _ _ _ _ dZ hr (@Ba _ _ _ (dv 1) (by rfl)) (by trivial)) (by intro _;rfl))) (@F8 _ _ _ _ (@Bu _ _ _ _ (@Cc _ _ _ (@Af _ _ _ _ _ _ _ _ _ _ _ dZ hr (@Ba _ _ _ (dv 2) (by rfl)) (by trivial)) (by intro _;rfl)))))) (@Ar _ _ _ (@Cw _ _ _ _ _ _ _ _ _ _ _ _ _ _ _ _ _ _ _ _ _ _ _ er.b_NoGame er.z_NoGame (by rfl) (by decide))) Av) (@Aa _ _ _ _ _ (@B6 _ _ _ _ _ _ _ _ (@Bl _ _ _ _ _ _ _ _ Gu (dv 1) (dv 2) (Ay _)) (@Ar _ _ _ (@Cw _ _ _ _ _ _ _ _ _ _ _ _ _ _ _ _ _ _ _ _ _ _ _ er.b_NoGame er.z_NoGame (by rfl) (by decide))) Av) (@Aa _ _ _ _ _ (@B6 _ _ _ _ _ _ _ _ (@Bu _ _ _ _ (@Cc _ _ _ (@Af _ _ _ _ _ _ _ _ _ _ _ aj hr (@Aj _ _ _ _ _ (dv 3) (@Aj _ _ _ _ _ Ae (@Ba _ _ _ Ae (by rfl)) (by rfl)) (by rfl)) (by trivial)) (by intro _;rfl))) (@Ar _ _ _ (@Cw _ _ _ _ _ _ _ _ _ _ _ _ _ _ _ _ _ _ _ _ _ _ _ er.b_NoGame er.z_NoGame (by rfl) (by decide))) Av) (@Aa _ _ _ _ _ (@B6 _ _ _ _ _ _ _ _ (@Bu _ _ _ _ (@Cc _ _ _ (@Af _ _ _ _ _ _ _ _ _ _ _ aj hr (@Aj _ _ _ _ _ (dv 4) (@Aj _ _ _ _ _ (@Le _ _ _ _ _ _ Mj Ae) (@Ba _ _ _ Ae (by rfl)) (by rfl)) (by rfl)) (by trivial)) (by intro _;rfl))) (@Ar _ _ _ (@Cw _ _ _ _ _ _ _ _ _ _ _ _ _ _ _ _ _ _ _ _ _ _ _ er.b_NoGame er.z_NoGame (by rfl) (by decide))) Av) (@A5 _ _ _ _ (@B8 _ _ _ _ _ (@Ab _ _ _ _ _ (dv 0) (@Ab _ _ _ _ _ (dv 1) (@Ab _ _ _ _ _ (dv 2) (@Ab _ _ _ _ _ (dv 3) (@Ab _ _ _ _ _ (dv 4) Ai (by rfl)) (by rfl)) (by rfl)) (by rfl)) (by rfl))))))))),?_⟩
  refine ⟨kd,⟨fun h1=>?_,fun h1=>?_⟩⟩
  ·have h1:btw d0 0 9999=false:=by simpa using h1
   exact ex (by simp [F0,h1]) H (Ag.refl _) _ er.y_NoGame
  have h1:btw d0 0 9999=true:=by simpa using h1
  refine ⟨kx,lx,fun H1 s1=>⟨fun h2=>⟨fun _=>?_,fun h=>absurd h (by decide)⟩,fun h2=>⟨ky.up s1,ly,fun H2 s2=>⟨fun h3=>?_,fun h3=>?_⟩⟩⟩⟩
  ·have h2:Mp x=false:=by simpa using h2
   exact ex (by simp [F0,h2]) H1 s1 _ er.y_NoGame
  ·have h3:Mp y=false:=by simpa using h3
   exact ex (by simp [F0,h3]) H2 (s1.trans s2) _ er.y_NoGame
  have h2:Mp x=true:=by simpa using h2
  have h3:Mp y=true:=by simpa using h3
  have s2:=s1.trans s2
  obtain ⟨x,rfl⟩:=Ahm h2
  obtain ⟨y,rfl⟩:=Ahm h3
  refine ⟨fun h4=>?_,fun h4=>⟨kh.up s2,⟨fun h5=>?_,fun h5=>⟨ks.up s2,⟨fun h6=>?_,fun h6=>fun p H' s e=>?_⟩⟩⟩⟩⟩
  ·have h4:eqS (.str x) (.str y)=true:=h4
   exact ex (by simp [F0,h4]) H2 s2 _ er.y_NoGame
  ·have h5:btw h0 0 2=false:=by simpa using h5
   exact ex (by simp [F0,h5]) H2 s2 _ er.y_NoGame
  ·have h6:btw s0 (-1) 1=false:=by simpa using h6
   exact ex (by simp [F0,h6]) H2 s2 _ er.y_NoGame
  ·have h4:eqS (.str x) (.str y)=false:=h4
   have h5:btw h0 0 2=true:=by simpa using h5
   have h6:btw s0 (-1) 1=true:=by simpa using h6
   exact q (by simp [F0,h1,h2,h3,h4,h5,h6]) p H' (s2.trans s) e
def Qe:Str:="0123456789"
def sd (x:Str):Bool:=decide ((co x).getLast? =some 42)
def us (x:Str):Str:=if sd x then Txt.slice x none (some (-1)) else x
def Iy (x y:Str):Int:=if sd x then 1 else if sd y then -1 else 0
def F4 (x:Str):Bool:=decide (x="0")||(decide (1≤x.length)&&decide (x.length≤4)&&!decide ((co x)[0]? =some 48)&&(co x).all fun c=>decide (c∈co Qe))
theorem Aba {c:Nat}:c∈co Qe↔48≤c∧c≤57:=by
 have e:co Qe=(List.range 10).map fun j=>48+j:=by decide +kernel
 rw [e,BG]
 constructor
 ·rintro ⟨j,hj,rfl⟩
  have:=BZ.mp hj
  omega
 ·intro h
  exact ⟨c-48,BZ.mpr (by omega),by omega⟩
def Ei (K:KKf)(ns:HX):Sp:=fun vs H Q _=>match vs with
 |[.str x]=>Q (.bl (sd x)) H
 |_=>False
theorem m_s {vs:ID}{F:Str→Prop}(h:match vs with|[.str x0]=>F x0|_=>False):∃x0,vs=[.str x0]∧F x0:=by
 match vs,h with
 |[.str x0],h=>exact ⟨_,rfl,h⟩
theorem Rh:Ah ["word"] ["word"] (Ac Gw):=C5
include er in
theorem Rq (d:Bj K mg "is_starred" Gw ["word"]):A9 P w K mg base "is_starred" ["word"] 1 (Ei K ns):=by
 refine d.cal (k:=0) Rh (fun vs H Q E hq0=>?_) (fun f cdv A outer s H vs Q E hr hq0=>?_)
 ·obtain ⟨_,rfl,_⟩:=m_s hq0
  rfl
 ·obtain ⟨x,rfl,q⟩:=m_s hq0
  refine ⟨_,(@A5 _ _ _ _ (@Lu _ _ _ _ _ _ _ _ _ _ _ _ PySem.F.plainAttrs_str PySem.F.slot_str_endswith PySem.F.type_str_endswith Alv (dv 0) (@Ab _ _ _ _ _ A4 Ai (by rfl)) (by rfl) (by rfl) (by rfl) (by rfl) (by rfl))),?_⟩
  refine ⟨rfl,?_⟩
  have e:Txt.endswith x "*"=sd x:=Apu x 42
  show Q (.bl (Txt.endswith x "*")) H
  rw [e]
  exact q
def Lf (K:KKf)(ns:HX):Sp:=fun vs H Q _=>match vs with
 |[.str x]=>x.length≤1000∧Q (.str (us x)) H
 |_=>False
theorem U2:Ah ["word"] ["word"] (Ac Jg):=C5
include er in
theorem Vl (d:Bj K mg "unstarred" Jg ["word"])  (av:A9 P w K mg base "is_starred" ["word"] 1 (Ei K ns)):A9 P w K mg base "unstarred" ["word"] 2 (Lf K ns):=by
 refine d.cal (k:=1) U2 (fun vs H Q E hq0=>?_) (fun f cdv A outer s H vs Q E hr hq0=>?_)
 ·obtain ⟨_,rfl,_⟩:=m_s hq0
  rfl
 ·obtain ⟨x,rfl,⟨hz,q⟩⟩:=m_s hq0
  refine ⟨_,(@A5 _ _ _ _ (@Yq _ _ _ _ _ _ _ _ (@Cc _ _ _ (@Af _ _ _ _ _ _ _ _ _ _ _ av hr (@Ba _ _ _ (dv 0) (by rfl)) (by trivial)) (by intro _;rfl)) (@Dr _ _ _ _ _ _ _ _ _ _ Va (dv 0) Jt (Dd (Le Mj Ae))) (dv 0))),?_⟩
  unfold us at q
  refine ⟨fun h=>?_,fun h=>?_⟩
  ·rw [AN h] at q
   exact ⟨_,rfl,AO hz (by decide),q⟩
  ·rw [AI (by rw [h];decide)] at q
   exact q
def P4 (K:KKf)(ns:HX):Sp:=fun vs H Q _=>match vs with
 |[.str x,.str y]=>Q (.int (Iy x y)) H
 |_=>False
theorem Arj {vs:ID}{F:Str→Str→Prop}(h:match vs with|[.str x0,.str x1]=>F x0 x1|_=>False):∃x0 x1,vs=[.str x0,.str x1]∧F x0 x1:=by
 match vs,h with
 |[.str x0,.str x1],h=>exact ⟨_,_,rfl,h⟩
theorem Zm:Ah ["one","other"] ["one","other"] (Ac Mm):=C5
include er in
theorem Z9 (d:Bj K mg "side_of" Mm ["one","other"])  (av:A9 P w K mg base "is_starred" ["word"] 1 (Ei K ns)):A9 P w K mg base "side_of" ["one","other"] 2 (P4 K ns):=by
 refine d.cal (k:=1) Zm (fun vs H Q E hq0=>?_) (fun f cdv A outer s H vs Q E hr hq0=>?_)
 ·obtain ⟨_,_,rfl,_⟩:=Arj hq0
  rfl
 ·obtain ⟨x,y,rfl,q⟩:=Arj hq0
  refine ⟨_,(@Aa _ _ _ _ _ (@B6 _ _ _ _ _ _ _ _ (@Cc _ _ _ (@Af _ _ _ _ _ _ _ _ _ _ _ av hr (@Ba _ _ _ (dv 0) (by rfl)) (by trivial)) (by intro _;rfl)) (@A5 _ _ _ _ Ae) Av) (@A5 _ _ _ _ (@Yq _ _ _ _ _ _ _ _ (@Cc _ _ _ (@Af _ _ _ _ _ _ _ _ _ _ _ av hr (@Ba _ _ _ (dv 1) (by rfl)) (by trivial)) (by intro _;rfl)) (@Le _ _ _ _ _ _ Mj Ae) Ae))),?_⟩
  have q:Q (.int (Iy x y)) H:=q
  unfold Iy at q
  refine ⟨fun h=>?_,fun h=>⟨fun h'=>?_,fun h'=>?_⟩⟩
  ·rw [AN h] at q
   exact q
  ·rw [AI (by rw [h];decide),AN h'] at q
   exact q
  ·rw [AI (by rw [h];decide),AI (by rw [h'];decide)] at q
   exact q
def G1 (K:KKf)(ns:HX):Sp:=fun vs H Q _=>match vs with
 |[.str x,.int m]=>((m=4∨(4≤m∧x.length≤4))∧x.length≤1000)∧∀H',Ag H H'→Q (.bl (F4 x)) H'
 |_=>False
theorem Aq4 {vs:ID}{F:Str→Int→Prop}(h:match vs with|[.str x0,.int x1]=>F x0 x1|_=>False):∃x0 x1,vs=[.str x0,.int x1]∧F x0 x1:=by
 match vs,h with
 |[.str x0,.int x1],h=>exact ⟨_,_,rfl,h⟩
theorem Vv:Ah ["word","longest"] ["word","longest"] (Ac Ji):=C5
include er eo ak in
theorem Vt (d:Bj K mg "is_number" Ji ["word","longest"])(da:Gp mg "FIGURES" (.str "0123456789")) :A9 P w K mg base "is_number" ["word","longest"] 1 (G1 K ns):=by
 refine d.cal (k:=0) Vv (fun vs H Q E hq0=>?_) (fun f cdv A outer s H vs Q E hr hq0=>?_)
 ·obtain ⟨_,_,rfl,_⟩:=Aq4 hq0
  rfl
 ·obtain ⟨x,m,rfl,⟨⟨hm,hz⟩,q⟩⟩:=Aq4 hq0
  refine ⟨_,(@Aa _ _ _ _ _ (@B6 _ _ _ _ _ _ _ _ (@Bl _ _ _ _ _ _ _ _ Gu (dv 0) A4 (Ay _)) (@A5 _ _ _ _ Lc) Av) (@Aa _ _ _ _ _ (@B6 _ _ _ _ _ _ _ _ (@L2.PW.pt _ _ _ (@Os _ _ _ _ _ _ _ (@Bu _ _ _ _ (@O1 _ _ _ _ _ _ _ _ _ _ _ _ Q3 Q3 Ae (@Ao _ _ _ _ _ _ _ _ _ C4 ak (by decide +kernel) (@Ba _ _ _ (dv 0) (by rfl)) (by trivial)) (dv 1) (by with_unfolding_all rfl))) (@F8 _ _ _ _ (@Bl _ _ _ _ _ _ _ _ Gu (@Eb _ _ _ _ _ _ _ Ako (dv 0) Ae (fun _ _=>rfl)) A4 (Ay _))))) (@A5 _ _ _ _ Lc) Av) (@A5 _ _ _ _ (@Ao _ _ _ _ _ _ _ _ _ (@Acp _ rfl) eo (by decide +kernel) (@Ba _ _ _ (@B2 _ _ _ _ _ _ _ _ _ _ ["sign"] [] [] rfl (@Aed _ _ _ _ (dv 0)) (fun C s H fp=>(@Aq _ _ (0) _ (show List.Nodup [("sign":Str)] by decide +kernel) rfl (by trivial) (by trivial))) (fun C s H fp=>(@Ck _ _ _ _ _ _ _ _ Akz (dv 0) (Cp da (by rfl)) (by with_unfolding_all rfl))) rfl rfl (by decide +kernel) (by decide +kernel) (by rfl) ⟨⟩ ⟨⟩ (by intro _;rfl)) (by rfl)) (by trivial))))),?_⟩
  refine ⟨fun h0=>?_,fun h0=>?_⟩
  ·have h0:decide (x="0")=true:=h0
   have e:F4 x=true:=by
    unfold F4
    rw [h0,Bool.true_or]
   have q:=q H (Ag.refl _)
   rw [e] at q
   exact q
  have h0:decide (x="0")=false:=h0
  have hl:=Bm x
  have no:F4 x=false→Q (.bl false) H:=fun e=>by
   have q:=q H (Ag.refl _)
   rw [e] at q
   exact q
  refine ⟨AO hz (by decide),⟨fun h1=>⟨fun h2=>⟨fun _=>?_,fun h=>nb h⟩,fun h2=>?_⟩,fun h1=>⟨fun _=>⟨fun _=>?_,fun h=>nb h⟩,fun h=>nb h⟩⟩⟩
  ·have h2:¬(x.length:Int)≤m:=by simpa using h2
   refine no ?_
   unfold F4
   rw [h0,BC (show ¬x.length≤4 by omega)]
   simp
  ·have h1:(1:Int)≤x.length:=AZ h1
   have h2:(x.length:Int)≤m:=by simpa using h2
   cases ec:co x with
   |nil=>
    rw [ec] at hl
    have:0=x.length:=hl
    omega
   | cons c r=>
    have ei:(co x)[0]? =some c:=by rw [ec];rfl
    refine ⟨c,AO hz (by decide),A2 (j:=0) ei,⟨fun h3=>?_,fun h3=>?_⟩⟩
    ·have h3:(⟨#[c]⟩:Str)="0":=AZ h3
     have hc:c=48:=by
      have:=congrArg co h3
      rw [Ny] at this
      have e:co ("0":Str)=[48]:=by decide +kernel
      rw [e] at this
      exact (List.cons.inj this).1
     refine no ?_
     unfold F4
     rw [h0,ei,hc]
     simp
    ·have h3:¬(⟨#[c]⟩:Str)="0":=BM h3
     have hc:c≠48:=by
      rintro rfl
      exact h3 (by decide +kernel)
     show Hr (Its x) _ _ _ _ _ _ _
     refine Wr (fun c=>.bl (decide (c∈co Qe))) hz (fun c H2 hc s2 P hP=>⟨rfl,c,rfl,hP⟩) fun D H2 s2 e2=>⟨(co x).map fun c=>decide (c∈co Qe),A1.of (by rw [e2,EH];rfl),?_⟩
     have e:F4 x=((co x).map fun c=>decide (c∈co Qe)).all id:=by
      unfold F4
      rw [h0,AQ (show 1≤x.length by omega),AQ (show x.length≤4 by omega),ei,List.all_map]
      simp [hc]
     rw [←e]
     exact q H2 s2
  ·have h1:¬(1:Int)≤x.length:=BM h1
   refine no ?_
   unfold F4
   rw [h0,BC (show ¬1≤x.length by omega)]
   simp
def wd (h:Int):Str:=if h=0 then "lost" else if h=1 then "drew" else "beat"
def isW (x:Str):Bool:=decide (x="lost")||decide (x="drew")||decide (x="beat")
def wi (x:Str):Int:=if x="lost" then 0 else if x="drew" then 1 else 2
def Ti (x:Str):Int:=(NumText.digitsVal (co x):Nat)
def rd4 (a b c d:Str):Bool:=F4 a&&isW c&&!(sd b&&sd d)&&F0 (.int (Ti a)) (.str (us b)) (.str (us d)) (.int (wi c)) (.int (Iy b d))
def rdL:HW→Option (ID)
 |[a,b,c,d]=>if rd4 a b c d then some [.int (Ti a),.str (us b),.str (us d),.int (wi c),.int (Iy b d)] else none
 |_=>none
def rd (x:Str):Option (ID):=rdL (Txt.split x ⟨#[32]⟩)
theorem Ahp {x:Str}(h:F4 x=true):x.length≤4∧PySem.intText? x=some (Ti x):=by
 have hl:=Bm x
 have e0:co ("0":Str)=[48]:=by decide +kernel
 have key:x.length≤4∧co x≠[]∧∀c∈co x,48≤c∧c≤57:=by
  unfold F4 at h
  rw [Bool.or_eq_true] at h
  rcases h with h|h
  ·have h:x="0":=AZ h
   subst h
   refine ⟨by rw [←hl,e0];decide,by rw [e0];simp,fun c hc=>?_⟩
   rw [e0] at hc
   have:c=48:=by simpa using hc
   omega
  ·rw [BR,BR,BR] at h
   obtain ⟨⟨⟨h1,h2⟩,_⟩,h4⟩:=h
   have h1:=AZ h1
   have h2:=AZ h2
   refine ⟨h2,fun e=>?_,fun c hc=>Aba.mp (AZ (CH.mp h4 c hc))⟩
   rw [e] at hl
   have:0=x.length:=hl
   omega
 exact ⟨key.1,intText_digits key.2.2 key.2.1 (by omega)⟩
theorem P5 (c:Nat):∀{ws:HW} {p:Str},p∈ws→(co p).length≤(co (Str.join ⟨#[c]⟩ ws)).length
 |[a],p,h=>by
  have:p=a:=by simpa using h
  rw [this]
  exact AF _
 | a::b::r,p,h=>by
  rw [Cm,AM,AY]
  rcases AU.mp h with rfl|h
  ·omega
  ·have:=P5 c (ws:=b::r) h
   omega
theorem Xc {x p:Str}(h:p∈Txt.split x ⟨#[32]⟩):p.length≤x.length:=by
 have:=P5 32 h
 rw [StrLaws.join_split,Bm,Bm] at this
 exact this
theorem Agf {x a b c d:Str}(ew:Txt.split x ⟨#[32]⟩=[a,b,c,d])(e:rd4 a b c d=false):rd x=none:=by
 unfold rd
 rw [ew]
 show (if rd4 a b c d=true then _ else _)=_
 rw [e]
 rfl
theorem Afi {x a b c d:Str}(ew:Txt.split x ⟨#[32]⟩=[a,b,c,d])(e:rd4 a b c d=true):rd x=some [.int (Ti a),.str (us b),.str (us d),.int (wi c),.int (Iy b d)]:=by
 unfold rd
 rw [ew]
 show (if rd4 a b c d=true then _ else _)=_
 rw [AN e]
theorem Ahg (c:Str):inV (.str c) [.str "lost",.str "drew",.str "beat"]=isW c:=by
 show (eqV (.str "lost") (.str c)||(eqV (.str "drew") (.str c)||(eqV (.str "beat") (.str c)||false)))=_
 unfold isW
 have e:∀y:Str,eqV (.str y) (.str c)=decide (c=y):=fun y=>by
  show (y==c)=_
  by_cases h:y=c
  ·subst h
   simp
  ·have h':¬c=y:=fun z=>h z.symm
   simp [h,h']
 rw [e,e,e,Bool.or_false,Bool.or_assoc]
def RG1 (x:Str)(H:Hp):L2.St→Hp→Prop:=fun σ H'=>∃(L:HR) (a b c d:Str),σ=[some (.str x),some (.ref L),none]∧Ag H H'∧H' L=some (.lst [.str a,.str b,.str c,.str d])∧Txt.split x ⟨#[32]⟩=[a,b,c,d]∧F4 a=true∧isW c=true
def RG2 (x:Str)(H:Hp):L2.St→Hp→Prop:=fun σ H'=>∃(L:HR) (a b c d:Str),σ=[some (.str x),some (.ref L),none]∧Ag H H'∧H' L=some (.lst [.str a,.str b,.str c,.str d])∧Txt.split x ⟨#[32]⟩=[a,b,c,d]∧F4 a=true∧isW c=true∧(sd b&&sd d)=false
def Mi (K:KKf)(ns:HX):Sp:=fun vs H Q E=>match vs with
 |[.str x]=>x.length≤900∧(rd x=none→∀H',Ag H H'→ExN K "NoGame" E H')∧(∀g,rd x=some g→∀p H',Ag H H'→H' p=some (.tup g)→Q (.ref p) H')
 |_=>False
theorem He:Ah ["text","words","side"] ["text"] (Ac Ik):=C5
include er cX ak a6 aX in
theorem Tg (d:Bj K mg "read_game" Ik ["text"])(cT:Gp mg "WORDS" (.ref dC))(bQ:By K dC [.str "lost",.str "drew",.str "beat"])(bu:Gp mg "LONGEST_DAY" (.int (4)))(gJ:A9 P w K mg base "game" ["day","one","other","halves","side"] 3 (Ack K ns))(cU:A9 P w K mg base "unstarred" ["word"] 2 (Lf K ns))(eV:A9 P w K mg base "side_of" ["one","other"] 2 (P4 K ns))(av:A9 P w K mg base "is_starred" ["word"] 1 (Ei K ns))(bE:A9 P w K mg base "is_number" ["word","longest"] 1 (G1 K ns)):A9 P w K mg base "read_game" ["text"] 4 (Mi K ns):=by
 refine d.calX (k:=3) He (fun vs H Q E hq0=>?_) (fun f cdv A outer s H vs Q E hr hq0=>?_)
 ·obtain ⟨_,rfl,_⟩:=m_s hq0
  rfl
 ·obtain ⟨x,rfl,⟨hz,ex,q⟩⟩:=m_s hq0
  refine ⟨_,(@Aa _ _ _ _ _ (@B6 _ _ _ _ _ _ _ _ (@Bu _ _ _ _ (@Cc _ _ _ (@Ao _ _ _ _ _ _ _ _ _ S5 a6 (by decide +kernel) (@Aj _ _ _ _ _ (dv 0) (@Ba _ _ _ (Aah "str" (by rfl) aX (by decide +kernel)) (by rfl)) (by rfl)) (by trivial)) (by intro _;rfl))) (@Ar _ _ _ (@Cw _ _ _ _ _ _ _ _ _ _ _ _ _ _ _ _ _ _ _ _ _ _ _ er.b_NoGame er.z_NoGame (by rfl) (by decide))) Av) (@Aa _ _ _ _ _ (@Ak _ _ _ (1) _ _ _ He.nd (@Lu _ _ _ _ _ _ _ _ _ _ _ _ PySem.F.plainAttrs_str PySem.F.slot_str_split PySem.F.type_str_split Abk (dv 0) (@Ab _ _ _ _ _ A4 Ai (by rfl)) (by rfl) (by rfl) (by rfl) (by rfl) (by rfl)) (by trivial)) (@Y0 _ (RG1 x H) _ _ _ _ (@B6 _ _ _ _ _ _ _ _ (@L2.PW.pt _ _ _ (@Os _ _ _ _ _ _ _ (@Bl _ _ _ _ _ _ _ _ Ad5 (@Ao _ _ _ _ _ _ _ _ _ C4 ak (by decide +kernel) (@Ba _ _ _ (dv 1) (by rfl)) (by trivial)) Ae (Ay _)) (@Os _ _ _ _ _ _ _ (@Bu _ _ _ _ (@Cc _ _ _ (@Af _ _ _ _ _ _ _ _ _ _ _ bE hr (@Aj _ _ _ _ _ (@Kg _ _ _ _ _ _ _ (dv 1)) (@Ba _ _ _ (Cp bu (by rfl)) (by rfl)) (by rfl)) (by trivial)) (by intro _;rfl))) (@F8 _ _ _ _ (@Bl _ _ _ _ _ _ _ _ Ah5 (@Kg _ _ _ _ _ _ _ (dv 1)) (Cp cT (by rfl)) (by with_unfolding_all rfl)))))) (@Ar _ _ _ (@Cw _ _ _ _ _ _ _ _ _ _ _ _ _ _ _ _ _ _ _ _ _ _ _ er.b_NoGame er.z_NoGame (by rfl) (by decide))) Av) (@Y0 _ (RG2 x H) _ _ _ _ (@B6 _ _ _ _ _ _ _ _ (@L2.PW.pt _ _ _ (@Xu _ _ _ _ _ _ _ (@Cc _ _ _ (@Af _ _ _ _ _ _ _ _ _ _ _ av hr (@Ba _ _ _ (@Kg _ _ _ _ _ _ _ (dv 1)) (by rfl)) (by trivial)) (by intro _;rfl)) (@Mg _ _ _ _ (@Cc _ _ _ (@Af _ _ _ _ _ _ _ _ _ _ _ av hr (@Ba _ _ _ (@Kg _ _ _ _ _ _ _ (dv 1)) (by rfl)) (by trivial)) (by intro _;rfl))))) (@Ar _ _ _ (@Cw _ _ _ _ _ _ _ _ _ _ _ _ _ _ _ _ _ _ _ _ _ _ _ er.b_NoGame er.z_NoGame (by rfl) (by decide))) Av) (@Aa _ _ _ _ _ (@Ak _ _ _ (2) _ _ _ He.nd (@Af _ _ _ _ _ _ _ _ _ _ _ eV hr (@Aj _ _ _ _ _ (@Kg _ _ _ _ _ _ _ (dv 1)) (@Ba _ _ _ (@Kg _ _ _ _ _ _ _ (dv 1)) (by rfl)) (by rfl)) (by trivial)) (by trivial)) (@A5 _ _ _ _ (@Oz _ _ _ _ _ _ _ _ _ _ _ _ _ _ _ _ _ _ _ _ _ _ _ _ _ gJ hr (by decide) (by rfl) (@Ab _ _ _ _ _ (@Bv _ _ _ _ _ _ _ _ _ Y6 cX (by decide +kernel) (@Ba _ _ _ (@Kg _ _ _ _ _ _ _ (dv 1)) (by rfl)) (by trivial)) (@Ab _ _ _ _ _ (@Af _ _ _ _ _ _ _ _ _ _ _ cU hr (@Ba _ _ _ (@Kg _ _ _ _ _ _ _ (dv 1)) (by rfl)) (by trivial)) (@Ab _ _ _ _ _ (@Af _ _ _ _ _ _ _ _ _ _ _ cU hr (@Ba _ _ _ (@Kg _ _ _ _ _ _ _ (dv 1)) (by rfl)) (by trivial)) (@Ab _ _ _ _ _ (@Lu _ _ _ _ _ _ _ _ _ _ _ _ PySem.F.plainAttrs_tuple PySem.F.slot_tuple_index PySem.F.type_tuple_index Ame (Cp cT (by rfl)) (@Ab _ _ _ _ _ (@Kg _ _ _ _ _ _ _ (dv 1)) Ai (by rfl)) (by rfl) (by rfl) (by rfl) (by rfl) (by rfl)) (@Ab _ _ _ _ _ (dv 2) Ai (by rfl)) (by rfl)) (by rfl)) (by rfl)) (by rfl)) (by decide) (by rfl) (by rfl)))))))),?_⟩
  refine ⟨true,rfl,⟨fun h=>nb h,fun _=>?_⟩⟩
  refine ⟨rfl,by decide +kernel,AO hz (by decide),fun L H1 s1 e1=>?_⟩
  have e1:H1 L=some (.lst ((Txt.split x ⟨#[32]⟩).map V.str)):=e1
  have ls:∀p∈Txt.split x ⟨#[32]⟩,p.length≤1000:=fun p hp=>AO (Xc hp) (by omega)
  refine ⟨?_,?_⟩
  ·refine ⟨_,.inl (A1.of e1),⟨fun h1=>⟨fun _=>?_,fun h=>nb h⟩,fun h1=>?_⟩⟩
   ·have h1:¬(((Txt.split x ⟨#[32]⟩).map V.str).length:Int)=4:=by simpa using h1
    refine ex ?_ H1 s1 _ er.y_NoGame
    unfold rd rdL
    split
    ·rename_i e
     rw [e] at h1
     exact absurd rfl h1
    ·rfl
   have h1:(((Txt.split x ⟨#[32]⟩).map V.str).length:Int)=4:=by simpa using h1
   have h1:(Txt.split x ⟨#[32]⟩).length=4:=by
    rw [AE] at h1
    omega
   obtain ⟨a,b,c,d',ew⟩:∃a b c d':Str,Txt.split x ⟨#[32]⟩=[a,b,c,d']:=by
    generalize Txt.split x ⟨#[32]⟩=ws at h1
    match ws,h1 with
    |[a,b,c,d'],_=>exact ⟨a,b,c,d',rfl⟩
   have no:=Agf (x:=x) ew
   have e1:H1 L=some (.lst [.str a,.str b,.str c,.str d']):=by rw [e1,ew];rfl
   refine ⟨_,_,A1.of e1,A2 (j:=0) rfl,⟨.inl rfl,ls a (by rw [ew];simp)⟩,fun H2 s2=>⟨fun h2=>⟨fun _=>?_,fun h=>nb h⟩,fun h2=>?_⟩⟩
   ·have h2:F4 a=false:=by simpa using h2
    exact ex (no (by unfold rd4;rw [h2];rfl)) H2 (s1.trans s2) _ er.y_NoGame
   have h2:F4 a=true:=by simpa using h2
   have e2:=s2 _ _ e1
   have ein:=Ahg c
   refine ⟨_,_,A1.of e2,A2 (j:=2) rfl,_,.inr (bQ.sq _),rfl,rfl,⟨fun h3=>?_,fun h3=>?_⟩⟩
   ·have h3:(!inV (.str c) [.str "lost",.str "drew",.str "beat"])=true:=h3
    rw [ein] at h3
    have h3:isW c=false:=by simpa using h3
    exact ex (no (by unfold rd4;rw [h2,h3];rfl)) H2 (s1.trans s2) _ er.y_NoGame
   have h3:(!inV (.str c) [.str "lost",.str "drew",.str "beat"])=false:=h3
   rw [ein] at h3
   have h3:isW c=true:=by simpa using h3
   exact ⟨L,a,b,c,d',rfl,s1.trans s2,e2,ew,h2,h3⟩
  rintro σ H2 ⟨L,a,b,c,d',rfl,s2,e2,ew,ha,hc⟩
  have no:=Agf (x:=x) ew
  refine ⟨?_,?_⟩
  ·refine ⟨_,_,A1.of e2,A2 (j:=1) rfl,⟨fun h1=>⟨_,_,A1.of e2,A2 (j:=3) rfl,⟨fun h2=>?_,fun h2=>?_⟩⟩,fun h1=>⟨fun h=>nb h,fun _=>?_⟩⟩⟩
   ·exact ex (no (by unfold rd4;rw [ha,hc,show sd b=true from h1,show sd d'=true from h2];rfl)) H2 s2 _ er.y_NoGame
   ·exact ⟨L,a,b,c,d',rfl,s2,e2,ew,ha,hc,by rw [show sd d'=false from h2,GN]⟩
   ·exact ⟨L,a,b,c,d',rfl,s2,e2,ew,ha,hc,by rw [show sd b=false from h1,ET]⟩
  clear e2 ew ha hc no s2
  rintro σ H2 ⟨L,a,b,c,d',rfl,s2,e2,ew,ha,hc,hs⟩
  have no:=Agf (x:=x) ew
  have yes:=Afi (x:=x) ew
  obtain ⟨a4,an⟩:=Ahp ha
  have lb:=ls b (by rw [ew];simp)
  have ld:=ls d' (by rw [ew];simp)
  have ul:∀z:Str,z.length≤1000→SL (.str (us z)):=fun z hz v e=>by
   cases e
   unfold us
   split
   ·exact AO (HI _ _ _) hz
   ·exact hz
  have fin:∀j:Nat,wi c=(j:Int)→((F0 (.int (Ti a)) (.str (us b)) (.str (us d')) (.int (j:Int)) (.int (Iy b d'))=false→∀H',Ag H2 H'→ExN K "NoGame" E H')∧(F0 (.int (Ti a)) (.str (us b)) (.str (us d')) (.int (j:Int)) (.int (Iy b d'))=true→∀p H',Ag H2 H'→H' p=some (.tup [.int (Ti a),.str (us b),.str (us d'),.int (j:Int),.int (Iy b d')])→Q (.ref p) H')):=by
   intro j ej
   rw [←ej]
   refine ⟨fun g H' s'=>ex (no ?_) H' (s2.trans s'),fun g p H' s' e'=>q _ (yes ?_) p H' (s2.trans s') e'⟩
   ·unfold rd4
    rw [g,GN]
   ·unfold rd4
    rw [g,ha,hc,hs]
    rfl
  refine ⟨_,_,A1.of e2,A2 (j:=1) rfl,_,_,A1.of e2,A2 (j:=3) rfl,?_⟩
  refine ⟨_,_,A1.of e2,A2 (j:=0) rfl,Ti a,an,by omega,_,_,A1.of e2,A2 (j:=1) rfl,lb,_,_,A1.of e2,A2 (j:=3) rfl,ld,bQ.tyV _,_,_,A1.of e2,A2 (j:=2) rfl,?_⟩
  have hw:c="lost"∨c="drew"∨c="beat":=by
   unfold isW at hc
   simpa [or_assoc] using hc
  rcases hw with rfl|rfl|rfl
  ·obtain ⟨f1,f2⟩:=fin 0 (by decide +kernel)
   exact ⟨_,0,_,bQ.sq _,rfl,rfl,rfl,by decide +kernel,fun m z hm=>absurd hm (Nat.not_lt_zero _),⟨⟨⟩,⟨⟩,⟨⟩,⟨⟩,⟨⟩⟩,⟨ul b lb,ul d' ld⟩,f1,f2⟩
  ·obtain ⟨f1,f2⟩:=fin 1 (by decide +kernel)
   refine ⟨_,1,_,bQ.sq _,rfl,rfl,rfl,by decide +kernel,fun m z hm hz=>?_,⟨⟨⟩,⟨⟩,⟨⟩,⟨⟩,⟨⟩⟩,⟨ul b lb,ul d' ld⟩,f1,f2⟩
   have:m=0:=by omega
   subst this
   cases hz
   decide +kernel
  ·obtain ⟨f1,f2⟩:=fin 2 (by decide +kernel)
   refine ⟨_,2,_,bQ.sq _,rfl,rfl,rfl,by decide +kernel,fun m z hm hz=>?_,⟨⟨⟩,⟨⟩,⟨⟩,⟨⟩,⟨⟩⟩,⟨ul b lb,ul d' ld⟩,f1,f2⟩
   have:m=0∨m=1:=by omega
   rcases this with rfl|rfl<;>(cases hz;decide +kernel)
def st (x:Str)(b:Bool):Str:=if b then x++⟨#[42]⟩ else x
theorem Nf (x:Str)(b:Bool):(st x b).length≤x.length+1:=by
 unfold st
 split
 ·rw [Be]
  exact AF _
 ·omega
def wrS (d:Int)(x y:Str)(h s:Int):Str:=Str.join ⟨#[32]⟩ [(toString d:Str),st x (decide (s=1)),wd h,st y (decide (s=-1))]
theorem Aki (f a b c:Str):((((((f++(" ":Str))++a)++(" ":Str))++b)++(" ":Str))++c)=Str.join ⟨#[32]⟩ [f,a,b,c]:=by
 apply Dg
 have e:co (" ":Str)=[32]:=by decide +kernel
 rw [Cm,Cm,Cm,Bp,Bp,Bp,Bp,Bp,Bp,e]
 show _=co f++32::(co a++32::(co b++32::co c))
 simp only [CO,List.singleton_append,List.cons_append,List.nil_append]
theorem Sy {d:Int}(h0:0≤d)(h1:d≤9999):(toString d:Str).length≤4:=by
 obtain ⟨m,rfl⟩:=Int.eq_ofNat_of_zero_le h0
 rw [←Bm]
 exact (Af7 (m:=m) (by omega)).2
theorem Tv (h:Int):(wd h).length≤4:=by
 unfold wd
 split
 ·decide +kernel
 ·split
  ·decide +kernel
  ·decide +kernel
theorem Hf {x:Str}(h:Nm x):x.length≤8:=by rw [←Bm];exact h.len8
theorem X3 {d:Int}(h0:0≤d)(h1:d≤9999):d.natAbs.log2<1920:=by
 have:Bd 100 d:=Dm (b:=10000) (by omega) (by omega) (A0 rfl)
 exact AL (Lp this (by decide)) (by decide)
theorem Abx {h:Int}(h0:0≤h)(h1:h≤2):Q4 [V.str "lost",.str "drew",.str "beat"] h=some (.str (wd h)):=by
 have:h=0∨h=1∨h=2:=by omega
 rcases this with rfl|rfl|rfl
 ·exact A2 (j:=0) rfl
 ·exact A2 (j:=1) rfl
 ·exact A2 (j:=2) rfl
theorem Aej {d h s:Int}{x y:Str}(d0:0≤d)(d1:d≤9999)(nx:Nm x)(ny:Nm y):(wrS d x y h s).length≤900:=by
 have lx:=Hf nx
 have ly:=Hf ny
 have l1:=Nf x (decide (s=1))
 have l2:=Nf y (decide (s=-1))
 have l3:=Sy d0 d1
 have l4:=Tv h
 have l5:(" ":Str).length=1:=by decide +kernel
 unfold wrS
 rw [←Aki]
 simp only [Be]
 omega
theorem Aaz {m:Nat}(h:m<10000):F4 (toString ((m:Nat):Int):Str)=true:=by
 have hc:co (toString ((m:Nat):Int):Str)=fg m:=rfl
 have hl:=Bm (toString ((m:Nat):Int):Str)
 rw [hc] at hl
 obtain ⟨l1,l4⟩:=Af7 h
 unfold F4
 by_cases h0:m=0
 ·subst h0
  rw [AQ (by decide +kernel),Bool.true_or]
 ·obtain ⟨c,r,ec,h9⟩:=Aj2 m (by omega)
  rw [hc,AQ (show 1≤(toString ((m:Nat):Int):Str).length by omega),AQ (show (toString ((m:Nat):Int):Str).length≤4 by omega)]
  have e1:(fg m).all (fun c=>decide (c∈co Qe))=true:=CH.mpr fun c hc=>AQ (Aba.mpr (Yv m c hc))
  rw [e1,ec]
  have:¬c=48:=by omega
  simp [this]
theorem Ahr {x:Str}(h:Nm x){c:Nat}(hc:¬(97≤c∧c<123)):c∉co x:=fun z=>hc (h.abc c z)
theorem Wc {x:Str}(h:Nm x)(b:Bool):sd (st x b)=b:=by
 cases b with
 |true=>
  show decide ((co (x++⟨#[42]⟩)).getLast? =some 42)=true
  rw [Bp,Ny]
  simp
 |false=>
  show decide ((co x).getLast? =some 42)=false
  refine BC fun e=>Ahr h (c:=42) (by omega) ?_
  exact List.mem_of_getLast? e
theorem Aat {x:Str}(h:Nm x)(b:Bool):us (st x b)=x:=by
 unfold us
 rw [Wc h]
 cases b with
 |true=>
  rw [AN rfl]
  apply Dg
  show co (Txt.slice (x++⟨#[42]⟩) none (some (-1)))=co x
  rw [Ajn,Bp,Ny]
  simp
 |false=>rfl
theorem Aao {x:Str}(h:Nm x)(b:Bool):32∉co (st x b):=by
 cases b with
 | true=>
  show 32∉co (x++⟨#[42]⟩)
  rw [Bp,Ny]
  intro z
  rcases BV.mp z with z|z
  ·exact Ahr h (by omega) z
  ·have:(32:Nat)=42:=by simpa using z
   omega
 |false=>exact Ahr h (by omega)
theorem Ajf (h:Int):32∉co (wd h):=by
 unfold wd
 split
 ·decide +kernel
 ·split
  ·decide +kernel
  ·decide +kernel
theorem Arb {d h s:Int}{x y:Str}(d0:0≤d)(d1:d≤9999)(h0:0≤h)(h1:h≤2)(s0:-1≤s)(s1:s≤1)(nx:Nm x)(ny:Nm y)(ne:x≠y):rd (wrS d x y h s)=some [.int d,.str x,.str y,.int h,.int s]:=by
 obtain ⟨m,rfl⟩:=Int.eq_ofNat_of_zero_le d0
 have hm:m<10000:=by omega
 have ew:Txt.split (wrS m x y h s) ⟨#[32]⟩=[(toString ((m:Nat):Int):Str),st x (decide (s=1)),wd h,st y (decide (s=-1))]:=by
  refine Qm 32 (by simp) ?_ rfl
  intro p hp
  have hp:p=(toString ((m:Nat):Int):Str)∨p=st x (decide (s=1))∨p=wd h∨p=st y (decide (s=-1)):=by simpa using hp
  rcases hp with rfl|rfl|rfl|rfl
  ·intro z
   have:=Yv m 32 z
   omega
  ·exact Aao nx _
  ·exact Ajf h
  ·exact Aao ny _
 have e1:Ti (toString ((m:Nat):Int):Str)=(m:Int):=congrArg (fun n:Nat=>(n:Int)) (Aep m)
 have e2:wi (wd h)=h:=by
  have:h=0∨h=1∨h=2:=by omega
  rcases this with rfl|rfl|rfl<;>decide +kernel
 have e3:isW (wd h)=true:=by
  have:h=0∨h=1∨h=2:=by omega
  rcases this with rfl|rfl|rfl<;>decide +kernel
 have e4:Iy (st x (decide (s=1))) (st y (decide (s=-1)))=s:=by
  unfold Iy
  rw [Wc nx,Wc ny]
  have:s=-1∨s=0∨s=1:=by omega
  rcases this with rfl|rfl|rfl<;>decide
 have e5:(sd (st x (decide (s=1)))&&sd (st y (decide (s=-1))))=false:=by
  rw [Wc nx,Wc ny]
  have:s=-1∨s=0∨s=1:=by omega
  rcases this with rfl|rfl|rfl<;>decide
 have g:F0 (.int (m:Int)) (.str x) (.str y) (.int h) (.int s)=true:=by
  unfold F0
  rw [show btw (.int (m:Int)) 0 9999=true by simp [btw];omega,show Mp (.str x)=true from nx.is,show Mp (.str y)=true from ny.is,show eqS (.str x) (.str y)=false from BC ne,show btw (.int h) 0 2=true by simp [btw];omega,show btw (.int s) (-1) 1=true by simp [btw];omega]
  rfl
 rw [Afi ew,e1,e2,e4,Aat nx,Aat ny]
 unfold rd4
 rw [e1,e2,e4,Aat nx,Aat ny,Aaz hm,e3,e5,g]
 rfl
def gmV (g:Gm):ID:=[.int g.d,.str g.a,.str g.b,.int g.h,.int g.s]
structure GO (g:Gm):Prop where
 d0:0≤g.d
 d1:g.d≤9999
 na:Nm g.a
 nb:Nm g.b
 ne:g.a≠g.b
 h0:0≤g.h
 h1:g.h≤2
 s0:-1≤g.s
 s1:g.s≤1
def wds (g:Gm):HW:=[(toString g.d:Str),st g.a (decide (g.s=1)),wd g.h,st g.b (decide (g.s=-1))]
def N2 (g:Gm):Str:=wrS g.d g.a g.b g.h g.s
theorem Agn (g:Gm):N2 g=Str.join ⟨#[32]⟩ (wds g):=rfl
theorem Afh {g:Gm}(o:GO g):rd (N2 g)=some (gmV g):=Arb o.d0 o.d1 o.h0 o.h1 o.s0 o.s1 o.na o.nb o.ne
theorem Af0 (g:Gm):co (N2 g)=co (toString g.d:Str)++32::(co (st g.a (decide (g.s=1)))++32::(co (wd g.h)++32::co (st g.b (decide (g.s=-1))))):=by
 rw [Agn]
 unfold wds
 rw [Cm,Cm,Cm]
 rfl
def Pn (K:KKf)(ns:HX):Sp:=fun vs H Q _=>match vs with
 |[.str x,.bl b]=>x.length≤1000∧Q (.str (st x b)) H
 |_=>False
theorem Apn {vs:ID}{F:Str→Bool→Prop}(h:match vs with|[.str x0,.bl x1]=>F x0 x1|_=>False):∃x0 x1,vs=[.str x0,.bl x1]∧F x0 x1:=by
 match vs,h with
 |[.str x0,.bl x1],h=>exact ⟨_,_,rfl,h⟩
theorem Ze:Ah ["name","had_side"] ["name","had_side"] (Ac Nv):=C5
include er in
theorem Z1 (d:Bj K mg "starred" Nv ["name","had_side"]):A9 P w K mg base "starred" ["name","had_side"] 1 (Pn K ns):=by
 refine d.cal (k:=0) Ze (fun vs H Q E hq0=>?_) (fun f cdv A outer s H vs Q E hr hq0=>?_)
 ·obtain ⟨_,_,rfl,_⟩:=Apn hq0
  rfl
 ·obtain ⟨x,b,rfl,⟨hz,q⟩⟩:=Apn hq0
  refine ⟨_,(@A5 _ _ _ _ (@Yq _ _ _ _ _ _ _ _ (@Cc _ _ _ (dv 1) (by intro _;rfl)) (@Al _ _ _ _ _ _ _ _ Cv (dv 0) A4) (dv 0))),?_⟩
  cases b with
  |true=>exact ⟨fun _=>⟨AO (Nat.add_le_add hz (show ("*":Str).length≤1 by decide +kernel)) (by decide),q⟩,fun h=>nb h⟩
  |false=>exact ⟨fun h=>nb h,fun _=>q⟩
def L9 (K:KKf)(ns:HX):Sp:=fun vs H Q _=>match vs with
 |[.ref p]=>∃(d h s:Int) (x y:Str),H p=some (.tup [.int d,.str x,.str y,.int h,.int s])∧(0≤d∧d≤9999)∧(0≤h∧h≤2)∧(Nm x∧Nm y)∧Q (.str (wrS d x y h s)) H
 |_=>False
theorem Du:Ah ["played","day","one","word","other"] ["played"] (Ac Jo):=C5
include er in
theorem Tt (d:Bj K mg "show_game" Jo ["played"])(cT:Gp mg "WORDS" (.ref dC))(bQ:By K dC [.str "lost",.str "drew",.str "beat"])(ee:A9 P w K mg base "starred" ["name","had_side"] 1 (Pn K ns)):A9 P w K mg base "show_game" ["played"] 2 (L9 K ns):=by
 refine d.cal (k:=1) Du (fun vs H Q E hq0=>?_) (fun f cdv A outer s H vs Q E hr hq0=>?_)
 ·obtain ⟨_,rfl,_⟩:=Js hq0
  rfl
 ·obtain ⟨p,rfl,⟨d0,h0,s0,x,y,e,⟨hd0,hd1⟩,⟨hh0,hh1⟩,⟨nx,ny⟩,q⟩⟩:=Js hq0
  refine ⟨_,(@Aa _ _ _ _ _ (@Ak _ _ _ (1) _ _ _ Du.nd (@Bg _ _ _ _ _ _ _ (dv 0)) (by trivial)) (@Aa _ _ _ _ _ (@Ak _ _ _ (2) _ _ _ Du.nd (@Af _ _ _ _ _ _ _ _ _ _ _ ee hr (@Aj _ _ _ _ _ (@Bg _ _ _ _ _ _ _ (dv 0)) (@Ba _ _ _ (@Ck _ _ _ _ _ _ _ _ Gu (@Bg _ _ _ _ _ _ _ (dv 0)) Ae (Ay _)) (by rfl)) (by rfl)) (by trivial)) (by trivial)) (@Aa _ _ _ _ _ (@Ak _ _ _ (3) _ _ _ Du.nd (@Eb _ _ _ _ _ _ _ Aoo (Cp cT (by rfl)) (@Bg _ _ _ _ _ _ _ (dv 0)) (fun _ _=>rfl)) (by trivial)) (@Aa _ _ _ _ _ (@Ak _ _ _ (4) _ _ _ Du.nd (@Af _ _ _ _ _ _ _ _ _ _ _ ee hr (@Aj _ _ _ _ _ (@Bg _ _ _ _ _ _ _ (dv 0)) (@Ba _ _ _ (@Ck _ _ _ _ _ _ _ _ Gu (@Bg _ _ _ _ _ _ _ (dv 0)) (@Le _ _ _ _ _ _ Mj Ae) (Ay _)) (by rfl)) (by rfl)) (by trivial)) (by trivial)) (@A5 _ _ _ _ (@Ann _ _ _ _ _ _ (@Uh _ _ _ _ _ _ (dv 1) (@Aac _ _ _ _ _ _ (by decide +kernel) (@Uh _ _ _ _ _ _ (dv 2) (@Aac _ _ _ _ _ _ (by decide +kernel) (@Uh _ _ _ _ _ _ (dv 3) (@Aac _ _ _ _ _ _ (by decide +kernel) (@Uh _ _ _ _ _ _ (dv 4) Ano))))))))))))),?_⟩
  have lx:=Hf nx
  have ly:=Hf ny
  have l1:=Nf x (decide (s0=1))
  have l2:=Nf y (decide (s0=-1))
  have l3:=Sy hd0 hd1
  have l4:=Tv h0
  have l5:(" ":Str).length=1:=by decide +kernel
  have big:(1000:Nat)≤sizeLine:=by decide
  refine ⟨_,e,_,e,_,e,AO lx (by decide),_,e,_,_,bQ.sq _,Abx hh0 hh1,_,e,_,e,AO ly (by decide),?_⟩
  have e0:∀z:Str,Str.empty++z=z:=fun z=>by
   apply Dg
   rw [Bp]
   rfl
  unfold wrS at q
  rw [←Aki] at q
  refine ⟨X3 hd0 hd1,?_,?_⟩
  ·rw [e0]
   omega
  rw [e0]
  refine ⟨?_,?_,?_,?_,?_,?_,?_,?_,?_,?_,q⟩<;>(try simp only [Be])<;>omega
theorem Uo:∀{gs:IE} {ys:ID},Ax (fun g y=>y=V.str (N2 g)) gs ys→ys=(gs.map N2).map V.str
 |_,_,.nil=>rfl
 |_,_,.cons h t=>by rw [h,Uo t];rfl
theorem Agc:∀{gs:IE},(∀g∈gs,GO g)→((gs.map N2).map (·.length)).sum≤gs.length*900
 |[],_=>AV _
 |g::gs,h=>by
  have o:=h g AK
  have h1:(N2 g).length≤900:=Aej o.d0 o.d1 o.na o.nb
  have h2:=Agc (gs:=gs) fun x hx=>h x (AJ _ hx)
  simp only [BE,List.sum_cons,AY]
  omega
def Lo (K:KKf)(ns:HX):Sp:=fun vs H Q _=>match vs with
 |[.ref L]=>∃gs,(Bk K H L gs∧(∀g∈gs,GO g)∧gs.length≤60)∧∀H',Ag H H'→Q (.str (Str.join Rt (gs.map N2))) H'
 |_=>False
theorem Vs:Ah ["games"] ["games"] (Ac Jf):=C5
include er in
theorem Tx (d:Bj K mg "show_book" Jf ["games"])(bM:Gp mg "PARTING" (.str "; "))(dM:A9 P w K mg base "show_game" ["played"] 2 (L9 K ns)):A9 P w K mg base "show_book" ["games"] 3 (Lo K ns):=by
 refine d.cal (k:=2) Vs (fun vs H Q E hq0=>?_) (fun f cdv A outer s H vs Q E hr hq0=>?_)
 ·obtain ⟨_,rfl,_⟩:=Js hq0
  rfl
 ·obtain ⟨L,rfl,⟨gs,⟨⟨vs,hx,hm,hl⟩,ok,l60⟩,k⟩⟩:=Js hq0
  refine ⟨_,(@A5 _ _ _ _ (@M7 _ _ _ _ _ ("join") _ _ (Cp bM (by rfl)) (@Ab _ _ _ _ _ (@B2 _ _ _ _ _ _ _ _ _ _ ["played"] [] [] rfl (@Bw _ _ _ _ (dv 0)) (fun C s H fp=>(@Aq _ _ (0) _ (show List.Nodup [("played":Str)] by decide +kernel) rfl (by trivial) (by trivial))) (fun C s H fp=>(@Af _ _ _ _ _ _ _ _ _ _ _ dM hr (@Ba _ _ _ (dv 0) (by rfl)) (by trivial))) rfl rfl (by decide +kernel) (by decide +kernel) (by rfl) ⟨⟩ ⟨⟩ (by intro _;rfl)) Ai (by rfl)) (by rfl) (by rfl) (by rfl) (by rfl) (by rfl))),?_⟩
  refine ⟨rfl,L,rfl,⟨_,hx⟩,Cb B4 Cr (fun _ g y=>y=V.str (N2 g)) (fun _ _ _ _ _ h=>h) (by rw [hm.len];omega) hx hm ?_ ?_⟩
  ·intro v g H2 hM hg s2 P hP
   obtain ⟨p,rfl,ep⟩:=hM
   have o:=ok g hg
   exact ⟨rfl,g.d,g.h,g.s,g.a,g.b,ep,⟨o.d0,o.d1⟩,⟨o.h0,o.h1⟩,⟨o.na,o.nb⟩,hP _ _ (Ag.refl _) rfl⟩
  intro D H2 ys s2 _ e2 a2
  have ey:ys=(gs.map N2).map V.str:=Uo a2
  refine ⟨gs.map N2,A1.of (by rw [e2,ey]),?_,?_⟩
  ·have h1:((gs.map N2).map (·.length)).sum≤gs.length*900:=Agc ok
   rw [AE,show (Str.ofString "; ").length=2 by decide +kernel]
   omega
  ·have e:Txt.join (Str.ofString "; ") (gs.map N2)=Str.join Rt (gs.map N2):=Dg (Jx _ _)
   exact (congrArg (fun z=>Q (.str z) H2) e).mpr (k H2 s2)
theorem Gf:∀(k m:Nat),m<10 ^ (k+1)→(fg m).length≤k+1
 |0,m,h=>by
  rw [Xv (by simpa using h)]
  exact AF _
 | k+1,m,h=>by
  by_cases h':m<10
  ·rw [Xv h']
   simp
  ·rw [Sa (by omega),AM,DP]
   have:m / 10<10 ^ (k+1):=by
    rw [Nat.pow_succ] at h
    omega
   have:=Gf k _ this
   omega
theorem Kj (m:Nat):co (Str.ofString (toString (m:Int)))=fg m:=rfl
theorem Ahk {m:Nat}(h:0<m):co (Str.ofString (toString (-(m:Int))))=45::fg m:=by
 cases m with
 |zero=>omega
 | succ k=>
  have e:toString (-((k+1:Nat):Int))="-"++toString ((k+1:Nat):Int):=rfl
  have c:∀s:String,co (Str.ofString s)=s.toList.map Char.toNat:=fun s=>by
   rw [Str.ofString_eq_toList]
   rfl
  rw [e,←Kj,c,c,String.toList_append,CB]
  rfl
theorem Alb {n:Nat}(h:n<10 ^ 60):n.log2<1920:=by
 by_cases h0:n=0
 ·subst h0
  decide
 ·rw [Nat.log2_lt h0]
  exact AL h (by decide +kernel)
def Ie (K:KKf)(ns:HX):Sp:=fun vs H Q _=>match vs with
 |[.int n]=>(0≤n∧n<10 ^ 60)∧∀H',Ag H H'→Q (.str (toString n)) H'
 |_=>False
theorem m_i {vs:ID}{F:Int→Prop}(h:match vs with|[.int x0]=>F x0|_=>False):∃x0,vs=[.int x0]∧F x0:=by
 match vs,h with
 |[.int x0],h=>exact ⟨_,rfl,h⟩
theorem Dx:Ah ["number","whole","pieces"] ["number"] (Ac F9):=C5
include er aX aO bU in
theorem Qj (d:Bj K mg "show_number" F9 ["number"]):A9 P w K mg base "show_number" ["number"] 1 (Ie K ns):=by
 refine d.cal (k:=0) Dx (fun vs H Q E hq0=>?_) (fun f cdv A outer s H vs Q E hr hq0=>?_)
 ·obtain ⟨_,rfl,_⟩:=m_i hq0
  rfl
 ·obtain ⟨n,rfl,⟨⟨h0,h1⟩,q⟩⟩:=m_i hq0
  refine ⟨_,(@Aa _ _ _ _ _ (@Ak _ _ _ (1) _ _ _ Dx.nd (@Al _ _ _ _ _ _ _ _ Arv Ae Ae) (by trivial)) (@Aa _ _ _ _ _ (@Ak _ _ _ (2) _ _ _ Dx.nd (@Vh _ _ _ _ Ai) (by trivial)) (@Aa _ _ _ _ _ (@Aby _ _ _ _ _ _ DJ (@Bl _ _ _ _ _ _ _ _ As6 (dv 0) (dv 1) (Ay _)) (@Aa _ _ _ _ _ Cq (@Ar _ _ _ (@Ak _ _ _ (0) _ _ _ Dx.nd (@Al _ _ _ _ _ _ _ _ Hm (dv 0) (dv 1)) (by trivial))))) (@A5 _ _ _ _ (@M7 _ _ _ _ _ ("join") _ _ A4 (@Ab _ _ _ _ _ (@Al _ _ _ _ _ _ _ _ Kx (@E5 _ _ _ _ (@Ab _ _ _ _ _ (@Bv _ _ _ _ _ _ _ _ _ N7 aX (by decide +kernel) (@Ba _ _ _ (dv 0) (by rfl)) (by trivial)) Ai (by rfl))) (@Aji _ _ _ _ _ _ _ (by rfl) aO (by rfl) bU (@Ab _ _ _ _ _ (dv 2) Ai (by rfl)) rfl (by rfl))) Ai (by rfl)) (by rfl) (by rfl) (by rfl) (by rfl) (by rfl)))))),?_⟩
  refine ⟨⟨by decide,by decide,by decide⟩,by decide,fun D hD=>?_⟩
  refine ⟨fun m σ H'=>σ=[some (.int n),some (.int (10 ^ 60)),some (.ref D)]∧H'=upd H D (.lst [])∧m=0,⟨_,rfl,rfl,rfl⟩,?_⟩
  rintro m σ H' ⟨rfl,rfl,rfl⟩
  have s1:Ag H (upd H D (.lst [])):=An hD
  have e1:upd H D (.lst []) D=some (.lst []):=Ad
  generalize upd H D (.lst [])=H1 at s1 e1
  refine ⟨fun h=>?_,fun _=>?_⟩
  ·have h:(10:Int) ^ 60≤n:=AZ h
   omega
  obtain ⟨m,rfl⟩:=Int.eq_ofNat_of_zero_le h0
  have hm:m<10 ^ 60:=by
   have:((m:Nat):Int)<((10 ^ 60:Nat):Int):=by simpa using h1
   omega
  have hl:(toString (m:Int):Str).length≤60:=by
   rw [←Bm,Kj]
   exact Gf 59 m hm
  refine ⟨rfl,Alb hm,fun P H2 s2 e2=>⟨_,A1.of (s2 _ _ e1),fun D2 H3 s3 _ e3=>⟨_,_,s3 _ _ e2,e3,(by show 1+0≤1000;decide),fun C H4 s4 e4=>⟨[(toString (m:Int):Str)],A1.of e4,?_,?_⟩⟩⟩⟩
  ·show ((toString (m:Int):Str).length+0)+1*0≤16777216
   omega
  ·have e:Txt.join "" [(toString (m:Int):Str)]=toString (m:Int):=Dg (by rw [Jx];rfl)
   rw [e]
   exact q H4 (s1.trans (s2.trans (s3.trans s4)))
def Gj (K:KKf)(ns:HX):Sp:=fun vs H Q _=>match vs with
 |[.ref p]=>∃a b:Int,(H p=some (.tup [.int a,.int b])∧(-(10 ^ 60)<a∧a<10 ^ 60)∧0<b∧b<10 ^ 60) ∧
  ∀x H',Ag H H'→co x=(if b=1 then co (toString a:Str) else co (toString a:Str)++47::co (toString b:Str))→Q (.str x) H'
 |_=>False
theorem Ed:Ah ["one","sign","top"] ["one"] (Ac Ey):=C5
include er fB in
theorem Mr (d:Bj K mg "show_fraction" Ey ["one"])  (bS:A9 P w K mg base "show_number" ["number"] 1 (Ie K ns)):A9 P w K mg base "show_fraction" ["one"] 2 (Gj K ns):=by
 refine d.cal (k:=1) Ed (fun vs H Q E hq0=>?_) (fun f cdv A outer s H vs Q E hr hq0=>?_)
 ·obtain ⟨_,rfl,_⟩:=Js hq0
  rfl
 ·obtain ⟨p,rfl,⟨a,b,⟨hp,⟨a0,a1⟩,b0,b1⟩,q⟩⟩:=Js hq0
  refine ⟨_,(@Ej _ _ _ _ _ (@Ak _ _ _ (1) _ _ _ Ed.nd (@Yq _ _ _ _ _ _ _ _ (@Bl _ _ _ _ _ _ _ _ Xi (@Bg _ _ _ _ _ _ _ (dv 0)) Ae (Ay _)) A4 A4) (by trivial)) (@Aa _ _ _ _ _ (@Ak _ _ _ (2) _ _ _ Ed.nd (@Af _ _ _ _ _ _ _ _ _ _ _ bS hr (@Ba _ _ _ (@Ao _ _ _ _ _ _ _ _ _ Aku fB (by decide +kernel) (@Ba _ _ _ (@Bg _ _ _ _ _ _ _ (dv 0)) (by rfl)) (by trivial)) (by rfl)) (by trivial)) (by trivial)) (@Aa _ _ _ _ _ (@B6 _ _ _ _ _ _ _ _ (@Bl _ _ _ _ _ _ _ _ Gu (@Bg _ _ _ _ _ _ _ (dv 0)) Ae (Ay _)) (@A5 _ _ _ _ (@Al _ _ _ _ _ _ _ _ Cv (dv 1) (dv 2))) Av) (@A5 _ _ _ _ (@Al _ _ _ _ _ _ _ _ Cv (@Al _ _ _ _ _ _ _ _ Cv (@Al _ _ _ _ _ _ _ _ Cv (dv 1) (dv 2)) A4) (@Af _ _ _ _ _ _ _ _ _ _ _ bS hr (@Ba _ _ _ (@Bg _ _ _ _ _ _ _ (dv 0)) (by rfl)) (by trivial))))))),?_⟩
  obtain ⟨m,hm⟩:∃m:Nat,m=a.natAbs:=⟨_,rfl⟩
  obtain ⟨n,rfl⟩:=Int.eq_ofNat_of_zero_le (Int.le_of_lt b0)
  have e60:(10:Int) ^ 60=((10 ^ 60:Nat):Int):=by decide +kernel
  rw [e60] at a0 a1 b1
  have m6:m<10 ^ 60:=by omega
  have n6:n<10 ^ 60:=by omega
  have lm:(toString (m:Int):Str).length≤60:=by
   rw [←Bm,Kj]
   exact Gf 59 m m6
  have ln:(toString (n:Int):Str).length≤60:=by
   rw [←Bm,Kj]
   exact Gf 59 n n6
  have cs:co ("/":Str)=[47]:=by decide +kernel
  have ls:("/":Str).length=1:=by decide +kernel
  refine ⟨fun σ H'=>∃S:Str,σ=[some (.ref p),some (.str S),none]∧H'=H∧S.length≤1∧co S++fg m=co (toString a:Str),?_,?_⟩
  ·refine ⟨_,hp,⟨fun h=>?_,fun h=>?_⟩⟩
   ·have h:a<0:=AZ h
    refine ⟨_,rfl,rfl,by decide,?_⟩
    rw [show a=-(m:Int) by omega,Ahk (by omega)]
    have e:co (Str.ofString "-")=[45]:=by decide +kernel
    rw [e]
    rfl
   ·have h:¬a<0:=BM h
    refine ⟨_,rfl,rfl,by decide,?_⟩
    rw [show a=(m:Int) by omega,Kj]
    rfl
  rintro σ H1 ⟨S,rfl,rfl,lS,cS⟩
  have la:(S++(toString (m:Int):Str)).length≤61:=by
   rw [Be]
   omega
  have ca:co (S++(toString (m:Int):Str))=co (toString a:Str):=by
   rw [Bp,Kj]
   exact cS
  refine ⟨_,hp,⟨by omega,by rw [←hm,e60];omega⟩,fun H2 s2=>?_⟩
  rw [←hm]
  refine ⟨_,s2 _ _ hp,⟨fun h=>?_,fun h=>?_⟩⟩
  ·have h:(n:Int)=1:=AZ h
   refine ⟨AO (show _≤100 by omega) (by decide),q _ _ s2 ?_⟩
   rw [AN h,ca]
  ·have h:¬(n:Int)=1:=BM h
   refine ⟨AO (show _≤100 by omega) (by decide),AO (show _≤100 by omega) (by decide),_,s2 _ _ hp,⟨by omega,by rw [e60];omega⟩,fun H3 s3=>⟨AO (show _≤200 by rw [Be];omega) (by decide),q _ _ (s2.trans s3) ?_⟩⟩
   rw [AI h,Bp,Bp,ca,cs,CO]
   rfl
def C2:List (Int×Int×Int):=[(0,1,2),(60,3,5),(160,7,10),(280,4,5),(460,9,10)]
theorem Ab6:S0 C2:=⟨by decide,fun r hr=>by
 have hr:r=(0,1,2)∨r=(60,3,5)∨r=(160,7,10)∨r=(280,4,5)∨r=(460,9,10):=by simpa [C2] using hr
 rcases hr with rfl|rfl|rfl|rfl|rfl<;>exact ⟨by decide,by decide⟩,rfl,by decide⟩
def C7 (K:KKf)(H:Hp)(Z L A R:HR)(es:List En)(last:Int):Prop:=(∃C dx fs,H Z=some (.ins C dx fs)∧PySem.W.nsIn K mainGlobals "Desk"=some (some (.ref C))∧fs.lookup ("ledger":Str)=some (.ref L)∧fs.lookup ("say":Str)=none)∧Z≠L∧Ft K H L A R es last
theorem Ft.sxz {K:KKf}{H H':Hp}{Z L A R C dx:HR}{fs:List (Str×V)}{es:List En}{last:Int}(s:Sx Z H H')(e:H Z=some (.ins C dx fs))(n:Z≠L)(h:Ft K H L A R es last):Ft K H' L A R es last:=by
 obtain ⟨C1,dx1,fs1,eL,hC1,fd,kvs,eA,al⟩:=h
 exact ⟨C1,dx1,fs1,s _ _ (CN n) eL,hC1,fd,kvs,s _ _ (fun z=>by rw [z,e] at eA;cases eA) eA,al.imp fun kv e' r=>Ib kv e' _ _ (s.kt e) r⟩
theorem Px.sxz {K:KKf}{H H':Hp}{Z R C dx:HR}{fs:List (Str×V)}{so st fi one two:Int}{rows:List Rw}(s:Sx Z H H')(e:H Z=some (.ins C dx fs))(n:R≠Z)(h:Px K H R so st fi one two rows):Px K H' R so st fi one two rows:=by
 obtain ⟨C',dx',fs',T',e',kn',f',vs',t1,t2⟩:=h
 exact ⟨C',dx',fs',T',s _ _ n e',kn',f',vs',s _ _ (fun z=>by rw [z,e] at t1;cases t1) t1,t2.imp fun v g r=>Dy v g _ _ (s.kt e) r⟩
def Gr (K:KKf)(ns:HX):Sp:=fun vs H Q _=>match vs with
 |[.ref Z]=>∃C dx,(H Z=some (.ins C dx [])∧PySem.W.nsIn K mainGlobals "Desk"=some (some (.ref C)))∧∀L A R H',Sx Z H H'→H L=none→H A=none→H R=none→R≠L→C7 K H' Z L A R [] 0→Px K H' R 0 32 1500 0 0 C2→Q .non H'
 |_=>False
theorem Nr:Ah ["self"] ["self"] (Ac Ex):=C5
include er aO in
theorem Mw (d:Ef K [aL] [] "__init__" "Desk.__init__" Ex ["self"])(eX:Gp mg "TABLE" (.ref eQ))(eY:By K eQ [.ref aQ,.ref aR,.ref aS,.ref aU,.ref aV])(de:By K aQ [.int (0),.ref bW])(cq:By K bW [.int (1),.int (2)])(df:By K aR [.int (60),.ref bX])(cu:By K bX [.int (3),.int (5)])(dh:By K aS [.int (160),.ref bY])(cv:By K bY [.int (7),.int (10)])(di:By K aU [.int (280),.ref bZ])(cw:By K bZ [.int (4),.int (5)])(dj:By K aV [.int (460),.ref c5])(cx:By K c5 [.int (9),.int (10)])(bw:Gp mg "FIRST_WORTH" (.int (1500)))(fJ:Gp mg "STEP" (.int (32)))(bF:C9 P w K mg base [a8] [] "__init__" ["self","rule"] 9 (Fd K ns))(ae:C9 P w K mg base [ai] [] "__init__" ["self","step","first","table"] 6 (C3 K ns)):C9 P w K mg base [aL] [] "__init__" ["self"] 11 (Gr K ns):=by
 refine d.cal (k:=10) Nr (fun vs H Q E hq0=>?_) (fun f cdv A outer s H vs Q E hr hq0=>?_)
 ·obtain ⟨_,rfl,_⟩:=Js hq0
  rfl
 ·obtain ⟨Z,rfl,⟨C,dx,⟨eZ,hC⟩,k⟩⟩:=Js hq0
  refine ⟨_,(@Aa _ _ _ _ _ (@G2 _ _ _ _ _ _ _ _ (dv 0) (@Uq _ _ _ _ _ _ _ _ _ _ _ _ _ _ bF (List.Mem.head _) er.m_Ledger hr (by decide) (by rfl) er.b_Ledger (@Ab _ _ _ _ _ (@Uq _ _ _ _ _ _ _ _ _ _ _ _ _ _ ae (List.Mem.head _) er.m_Rule hr (by decide) (by rfl) er.b_Rule (@Ab _ _ _ _ _ (Cp fJ (by rfl)) (@Ab _ _ _ _ _ (Cp bw (by rfl)) (@Ab _ _ _ _ _ (@Bv _ _ _ _ _ _ _ _ _ O6 aO (by decide +kernel) (@Ba _ _ _ (Cp eX (by rfl)) (by rfl)) (by trivial)) Ai (by rfl)) (by rfl)) (by rfl)) (by decide) (by rfl) (by rfl)) Ai (by rfl)) (by decide) (by rfl) (by rfl)) rfl) (@Ar _ _ _ (@G2 _ _ _ _ _ _ _ _ (dv 0) Ir rfl))),?_⟩
  have cl:Ox K C∧NoAttr K C "ledger"∧NoAttr K C "told":=B7 er.y_Desk hC▸⟨er.l_Desk,er.na_Desk_ledger,er.na_Desk_told⟩
  refine ⟨_,.inr (eY.sq H),fun l hl=>?_⟩
  have s1:Ag H (upd H l (.lst [.ref aQ,.ref aR,.ref aS,.ref aU,.ref aV])):=An hl
  have e1:upd H l (.lst [.ref aQ,.ref aR,.ref aS,.ref aU,.ref aV]) l=some (.lst [.ref aQ,.ref aR,.ref aS,.ref aU,.ref aV]):=Ad
  generalize upd H l (.lst [.ref aQ,.ref aR,.ref aS,.ref aU,.ref aV])=H1 at s1 e1
  intro x dx' hx hd ne
  have s2:=Mb (C:=ai) hx hd ne
  have e2:upd (upd H1 dx' (.own x)) x (.ins ai dx' []) x=some (.ins ai dx' []):=Ad
  generalize upd (upd H1 dx' (.own x)) x (.ins ai dx' [])=H2 at s2 e2
  have a2:Ax (Gc K H2) [.ref aQ,.ref aR,.ref aS,.ref aU,.ref aV] C2:=.cons ⟨_,_,rfl,.inr de,.inr cq⟩ (.cons ⟨_,_,rfl,.inr df,.inr cu⟩ (.cons ⟨_,_,rfl,.inr dh,.inr cv⟩ (.cons ⟨_,_,rfl,.inr di,.inr cw⟩ (.cons ⟨_,_,rfl,.inr dj,.inr cx⟩ .nil))))
  refine ⟨_,dx',[],_,_,⟨e2,er.l_Rule,er.na_Rule_step,er.na_Rule_first,er.na_Rule_table,by decide,s2 _ _ e1,a2,Ab6⟩,fun T H3 s3 nT n3 e3 ex3=>⟨rfl,?_⟩⟩
  have kt3:=s3.kt e2
  have a3:=a2.imp fun v g r=>Dy v g _ _ kt3 r
  have s03:Ag H H3:=s1.trans (Vb hx s2 s3)
  have hR3:Px K H3 x 0 32 1500 0 0 C2:=⟨_,dx',_,T,ex3,⟨rfl,er.y_Rule⟩,fd0 rfl,_,e3,a3⟩
  intro L dL hL hdL neL
  have s4:=Mb (C:=a8) hL hdL neL
  have e4:upd (upd H3 dL (.own L)) L (.ins a8 dL []) L=some (.ins a8 dL []):=Ad
  generalize upd (upd H3 dL (.own L)) L (.ins a8 dL [])=H4 at s4 e4
  have eZ4:=s4 _ _ (s03 _ _ eZ)
  have nZL:Z≠L:=fun z=>by
   have:=s03 _ _ eZ
   rw [z,hL] at this
   cases this
  refine ⟨_,dL,0,32,1500,0,0,C2,⟨e4,er.y_Ledger,hR3.up s4,Ab6⟩,fun A R H5 s5 hA nAL hR lg rl=>⟨rfl,?_⟩⟩
  have nRZ:R≠Z:=fun z=>by rw [z,eZ4] at hR;cases hR
  have eZ5:=s5 _ _ nZL eZ4
  refine ⟨Z,C,dx,[],rfl,eZ5,cl.1,cl.2.1,by decide,?_⟩
  have e6:upd H5 Z (.ins C dx (Bb "ledger" (.ref L) [])) Z=some (.ins C dx (Bb "ledger" (.ref L) [])):=Ad
  have s6:Sx Z H5 (upd H5 Z (.ins C dx (Bb "ledger" (.ref L) []))):=Sx.upd
  generalize upd H5 Z (.ins C dx (Bb "ledger" (.ref L) []))=H6 at e6 s6
  intro D hD
  have s7:Sx Z H5 (upd H6 D (.dK [])):=s6.trans (Sx.of (An hD))
  have e7:=An (o:=.dK []) hD _ _ e6
  generalize upd H6 D (.dK [])=H7 at s7 e7
  refine ⟨Z,C,dx,_,rfl,e7,cl.1,cl.2.2,BO (Cg _ _ _) (by decide),?_⟩
  have s8:Sx Z H5 (upd H7 Z (.ins C dx (Bb "told" (.ref D) (Bb "ledger" (.ref L) [])))):=s7.trans Sx.upd
  have n4:∀{b:HR},H4 b=none→H b=none:=fun h=>Cd (s03.trans s4) h
  refine k L A R _ (fun b o nb e=>s8 b o nb (s5 b o (fun z=>?_) (s4 b o (s03 b o e)))) (Cd s03 hL) (n4 hA) (n4 hR) (fun z=>by rw [z,e4] at hR;cases hR) ⟨⟨C,dx,_,Ad,hC,Aw (by decide +kernel) Ig,Aw (by decide +kernel) (Aw (by decide +kernel) rfl)⟩,nZL,lg.sxz s8 eZ5 nZL⟩ (rl.sxz s8 eZ5 nRZ)
  have:=s03 _ _ e
  rw [z,hL] at this
  cases this
theorem C7.fr {K:KKf}{H H':Hp}{Z L A R:HR}{es es':List En}{last last':Int}{pos:Pos}{q:Str}(h:C7 K H Z L A R es last)(tk:Au H (Bn K) pos q)(fr:Oy L A (Bn K) H H')(lg:Ft K H' L A R es' last'):C7 K H' Z L A R es' last':=by
 obtain ⟨⟨C,dx,fs,e,hC,f1,f2⟩,n,C1,dx1,fs1,eL,hC1,fd,kvs,eA,al⟩:=h
 obtain ⟨ps,eT,_⟩:=tk
 exact ⟨⟨C,dx,fs,fr _ _ n (fun z=>by rw [z,eA] at e;cases e) (fun z=>by rw [z,eT] at e;cases e) e,hC,f1,f2⟩,n,lg⟩
theorem C7.up {K:KKf}{H H':Hp}{Z L A R:HR}{es:List En}{last:Int}(s:Ag H H')(h:C7 K H Z L A R es last):C7 K H' Z L A R es last:=by
 obtain ⟨⟨C,dx,fs,e,hC,f1,f2⟩,n,lg⟩:=h
 exact ⟨⟨C,dx,fs,s _ _ e,hC,f1,f2⟩,n,lg.up s⟩
theorem C7.get {K:KKf}{H:Hp}{Z L A R c1 c2:HR}{es:List En}{last:Int}(y1:PySem.W.nsIn K mainGlobals "Desk"=some (some (.ref c1)))(y2:PySem.W.nsIn K mainGlobals "Ledger"=some (some (.ref c2)))(h:C7 K H Z L A R es last):∃dx fs dy gs,H Z=some (.ins c1 dx fs)∧fs.lookup ("ledger":Str)=some (.ref L)∧fs.lookup ("say":Str)=none∧H L=some (.ins c2 dy gs)∧LFd gs A R last:=by
 obtain ⟨⟨C,dx,fs,e,hC,f1,f2⟩,n,C1,dx1,fs1,eL,hC1,fd,_⟩:=h
 obtain rfl:=B7 hC y1
 obtain rfl:=B7 hC1 y2
 exact ⟨dx,fs,dx1,fs1,e,f1,f2,eL,fd⟩
def Rk (es:List En)(g:Gm):Prop:=es.length<40∧(Gb (es.map (·.2)++[g])).length≤8
theorem Akf {i:Int}(h0:0≤i)(h1:i≤1000):i.natAbs.log2<1920:=by
 have:Bd 100 i:=Dm (b:=10000) (by omega) (by omega) (A0 rfl)
 exact AL (Lp this (by decide)) (by decide)
def Jb (K:KKf)(ns:HX):Sp:=fun vs H Q E=>match vs with
 | [.ref Z,.str x]=>∃(L A R:HR) (es:List En) (last:Int) (g:Gm) (nm:HW),(C7 K H Z L A R es last∧Ado nm es last∧es.length≤40∧nm.length≤20∧g.a∈nm∧g.b∈nm∧x=N2 g∧GO g∧0≤last∧last<1000∧Au H (Bn K) Bq Ek) ∧
   (Rk es g→∀H',Oy L A (Bn K) H H'→C7 K H' Z L A R (es++[(last+1,g)]) (last+1)→Au H' (Bn K) Bq Ek→Q (.str (toString (last+1))) H')∧(¬Rk es g→∀H',Ag H H'→ExN K "NoBook" E H')
 |_=>False
theorem Ad0 {vs:ID}{F:HR→Str→Prop}(h:match vs with|[.ref x0,.str x1]=>F x0 x1|_=>False):∃x0 x1,vs=[.ref x0,.str x1]∧F x0 x1:=by
 match vs,h with
 |[.ref x0,.str x1],h=>exact ⟨_,_,rfl,h⟩
theorem W5:Ah ["desk","text"] ["desk","text"] (Ac Ka):=C5
include er aX in
theorem Wj (d:Bj K mg "put_game" Ka ["desk","text"])  (dm:C9 P w K mg base [a8] [] "put" ["self","played"] 6 (J8 K ns))(dN:A9 P w K mg base "read_game" ["text"] 4 (Mi K ns)):A9 P w K mg base "put_game" ["desk","text"] 7 (Jb K ns):=by
 refine d.calX (k:=6) W5 (fun vs H Q E hq0=>?_) (fun f cdv A outer s H vs Q E hr hq0=>?_)
 ·obtain ⟨_,_,rfl,_⟩:=Ad0 hq0
  rfl
 ·obtain ⟨Z,x,rfl,⟨L,A,R,es,last,g,nm,⟨dk0,ok,l40,l20,ga,gb,hx,o,p0,p1,tk⟩,k,kr⟩⟩:=Ad0 hq0
  refine ⟨_,(@A5 _ _ _ _ (@Bv _ _ _ _ _ _ _ _ _ N7 aX (by decide +kernel) (@Ba _ _ _ (@Bg _ _ _ _ _ _ _ (@Acd _ _ _ _ _ _ _ _ _ _ _ _ _ _ _ _ _ _ _ _ _ _ _ _ _ _ (@B0 _ _ _ _ _ (dv 0) (by rfl)) (@Dq _ _ _ _ _ _ _ _ _ _ _ _ _ _ dm (List.Mem.head _) er.l_Ledger (by decide) Fo) hr (@Ab _ _ _ _ _ (@Oz _ _ _ _ _ _ _ _ _ _ _ _ _ _ _ _ _ _ _ _ _ _ _ _ _ dN hr (by decide) (by rfl) (@Ab _ _ _ _ _ (dv 1) Ai (by rfl)) (by decide) (by rfl) (by rfl)) Ai (by rfl)) (by rfl) (by rfl) (by rfl))) (by rfl)) (by trivial))),?_⟩
  subst hx
  obtain ⟨dx,fs,dy,gs,eZ,f1,f2,eL,fd⟩:=dk0.get er.y_Desk er.y_Ledger
  refine ⟨Z,_,dx,fs,_,rfl,eZ,er.l_Desk,er.na_Desk_ledger,f1,L,_,dy,gs,_,rfl,eL,.head _,fd.pu,?_⟩
  refine ⟨Aej o.d0 o.d1 o.na o.nb,fun hn=>?_,fun g' hg' p H1 s1 e1=>?_⟩
  ·rw [Afh o] at hn
   cases hn
  rw [Afh o] at hg'
  cases hg'
  have dk1:=dk0.up s1
  refine ⟨A,R,es,last,g,nm,⟨dk1.2.2,ok,l40,l20,⟨p,rfl,e1⟩,ga,gb,tk.up s1⟩,fun fit r D H2 fr er2 lg2 tk2=>⟨_,er2,Akf (by omega) (by omega),k fit H2 (fun b u n1 n2 n3 e=>fr b u n1 n2 n3 (s1 b u e)) (dk1.fr (tk.up s1) fr lg2) tk2⟩,fun nf H2 s2=>kr nf H2 (s1.trans s2)⟩
def G5 (K:KKf)(ns:HX):Sp:=fun vs H Q E=>match vs with
 | [.ref Z,.ref D]=>∃(L A R:HR) (es:List En) (last n:Int),(C7 K H Z L A R es last∧H D=some (.lst [.int n])∧Og es∧es.length≤40∧(Gb (es.map (·.2))).length≤8∧Au H (Bn K) Bq Ek) ∧
   (∀g,(n,g)∈es→∀H',Oy L A (Bn K) H H'→C7 K H' Z L A R (wo es n) last→Au H' (Bn K) Bq Ek→Q (.str "ok") H')∧((∀e∈es,e.1≠n)→∀H',Ag H H'→ExN K "NoGame" E H')
 |_=>False
theorem Vy:Ah ["desk","things"] ["desk","things"] (Ac Io):=C5
include er in
theorem U4 (d:Bj K mg "take_game" Io ["desk","things"])  (cV:C9 P w K mg base [a8] [] "take" ["self","number"] 6 (I0 K ns)):A9 P w K mg base "take_game" ["desk","things"] 7 (G5 K ns):=by
 refine d.calX (k:=6) Vy (fun vs H Q E hq0=>?_) (fun f cdv A outer s H vs Q E hr hq0=>?_)
 ·obtain ⟨_,_,rfl,_⟩:=Hw hq0
  rfl
 ·obtain ⟨Z,D,rfl,⟨L,A,R,es,last,n,⟨dk0,eD,inc,l40,l8,tk⟩,k,kr⟩⟩:=Hw hq0
  refine ⟨_,(@Aa _ _ _ _ _ (@Fz _ _ _ _ (@Acd _ _ _ _ _ _ _ _ _ _ _ _ _ _ _ _ _ _ _ _ _ _ _ _ _ _ (@B0 _ _ _ _ _ (dv 0) (by rfl)) (@Dq _ _ _ _ _ _ _ _ _ _ _ _ _ _ cV (List.Mem.head _) er.l_Ledger (by decide) Fo) hr (@Ab _ _ _ _ _ (@Kg _ _ _ _ _ _ _ (dv 1)) Ai (by rfl)) (by rfl) (by rfl) (by rfl)) (by rfl)) (@A5 _ _ _ _ A4)),?_⟩
  obtain ⟨dx,fs,dy,gs,eZ,f1,f2,eL,fd⟩:=dk0.get er.y_Desk er.y_Ledger
  refine ⟨Z,_,dx,fs,_,rfl,eZ,er.l_Desk,er.na_Desk_ledger,f1,L,_,dy,gs,_,rfl,eL,.head _,fd.ta,_,_,A1.of eD,A2 (j:=0) rfl,?_⟩
  exact ⟨A,R,es,last,⟨dk0.2.2,inc,l40,l8,tk⟩,fun g hg D' H1 fr lg1 tk1=>k g hg H1 fr (dk0.fr tk fr lg1) tk1,kr⟩
theorem _root_.Lw.Nm.sok {x:Str}(h:Nm x):PyData.strOk x=true:=Aq9 fun c hc=>Nat.lt_trans (h.abc c hc).2 (by decide)
theorem Amh {ws:HW}(h:∀p∈ws,p.length≤1000)(hn:ws.length≤100):(ws.map (·.length)).sum+ws.length*(Str.ofString "; ").length≤16777216:=by
 have key:∀l:HW,(∀p∈l,p.length≤1000)→(l.map (·.length)).sum≤l.length*1000:=fun l=>by
  induction l with
  |nil=>exact fun _=>AV _
  |cons a r ih=>
   intro h
   have h1:=h a AK
   have h2:=ih fun p hp=>h p (AJ _ hp)
   simp only [BE,List.sum_cons,AY]
   omega
 have:=key ws h
 rw [show (Str.ofString "; ").length=2 from by decide +kernel]
 omega
def Aa4 (gs:IE):Str:=if gs=[] then Str.ofString "none" else Str.join Rt (gs.map N2)
theorem Acj {α:Type}(f:α→PyData):∀l:List α,PyData.eqv (.list (l.map f)) (.list [])=l.isEmpty
 |[]=>rfl
 |_::_=>rfl
theorem Agw {P:Gm→Prop}{gs:IE}{p:IC}(h:∀g∈gs,P g):∀g∈pg gs p,P g:=fun g hg=>by
 unfold pg at hg
 obtain ⟨i,_,hi⟩:=ED.mp hg
 exact h g (BH hi)
def G0 (K:KKf)(ns:HX):Sp:=fun vs H Q _=>match vs with
 | [.ref Z,_]=>∃(L A R:HR) (es:List En) (last:Int),(C7 K H Z L A R es last∧es.length≤40∧(∀e∈es,GO e.2)∧Au H (Bn K) Bq Ek) ∧
   ∀p H',Ml (Bn K) H H'→Au H' (Bn K) Bq Ek→Jr (dk (es.map (·.2))) (es.map (·.2)).length p→Q (.str (Aa4 (pg (es.map (·.2)) p))) H'
 |_=>False
theorem L5:Ah ["desk","things","games"] ["desk","things"] (Ac Jm):=C5
include er in
theorem Vk (d:Bj K mg "tell_book" Jm ["desk","things"])  (dO:A9 P w K mg base "show_book" ["games"] 3 (Lo K ns))(aK:C9 P w K mg base [a8] [] "games" ["self"] 4 (Eu K ns)):A9 P w K mg base "tell_book" ["desk","things"] 5 (G0 K ns):=by
 refine d.cal (k:=4) L5 (fun vs H Q E hq0=>?_) (fun f cdv A outer s H vs Q E hr hq0=>?_)
 ·obtain ⟨_,_,rfl,_⟩:=Xb hq0
  rfl
 ·obtain ⟨Z,_,rfl,⟨L,A,R,es,last,⟨dk0,l40,ok,tk⟩,k⟩⟩:=Xb hq0
  refine ⟨_,(@Aa _ _ _ _ _ (@Ak _ _ _ (2) _ _ _ L5.nd (@Mf _ _ _ _ _ _ _ _ _ (@B0 _ _ _ _ _ (dv 0) (by rfl)) (@Dq _ _ _ _ _ _ _ _ _ _ _ _ _ _ aK (List.Mem.head _) er.l_Ledger (by decide) Fo) hr (by rfl)) (by trivial)) (@A5 _ _ _ _ (@Yq _ _ _ _ _ _ _ _ (@Bl _ _ _ _ _ _ _ _ (@X4 _ hr.units) (dv 2) (@E5 _ _ _ _ Ai) (Ay _)) A4 (@Af _ _ _ _ _ _ _ _ _ _ _ dO hr (@Ba _ _ _ (dv 2) (by rfl)) (by trivial))))),?_⟩
  obtain ⟨dx,fs,dy,gs,eZ,f1,f2,eL,fd⟩:=dk0.get er.y_Desk er.y_Ledger
  refine ⟨Z,_,dx,fs,_,rfl,eZ,er.l_Desk,er.na_Desk_ledger,f1,L,_,dy,gs,_,rfl,eL,.head _,fd.ga,A,R,es,last,⟨dk0.2.2,l40,tk⟩,fun D vs H1 p sm nD eD tk1 stb al=>?_⟩
  have okp:∀g∈pg (es.map (·.2)) p,GO g:=Agw fun g hg=>by
   obtain ⟨e,he,rfl⟩:=BG.mp hg
   exact ok e he
  have ll:(pg (es.map (·.2)) p).length≤40:=by
   rw [Nn stb.2.1,stb.1,AE]
   exact l40
  have k:=fun H' sm' tk'=>k p H' sm' tk' stb
  generalize pg (es.map (·.2)) p=gs' at al okp ll k
  intro T H2 s2 e2
  have al2:=al.imp fun v g r=>Cr v g _ _ (Bc s2) r
  have sm2:Ml (Bn K) H H2:=fun b o n e=>s2 b o (sm b o n e)
  refine ⟨_,_,Ank (A1.of (s2 _ _ eD)) al2,.lst (A1.of e2) .nil,Aoi fun g hg=>⟨(okp g hg).na.sok,(okp g hg).nb.sok⟩,rfl,?_⟩
  rw [Acj]
  unfold Aa4 at k
  refine ⟨fun h=>?_,fun h=>⟨gs',⟨⟨vs,A1.of (s2 _ _ eD),al2,by omega⟩,okp,by omega⟩,fun H3 s3=>?_⟩⟩
  ·have k:=k H2 sm2 (tk1.up s2)
   rw [AN (List.isEmpty_iff.mp h)] at k
   exact k
  ·have k:=k H3 (fun b o n e=>s3 b o (sm2 b o n e)) (tk1.up (s2.trans s3))
   rw [AI fun z=>by rw [z] at h;exact nb h] at k
   exact k
def shF (q:Q2):Str:=if q.2=1 then (toString q.1:Str) else (toString q.1:Str)++Str.ofString "/"++(toString q.2:Str)
def Yj (s:Str×Q2):Str:=s.1++Str.ofString " "++shF s.2
structure SmQ (s:Str×Q2):Prop where
 n8:s.1.length≤8
 t0:-(10 ^ 60)<s.2.1
 t1:s.2.1<10 ^ 60
 b0:0<s.2.2
 b1:s.2.2<10 ^ 60
theorem Aos (q:Q2):co (shF q)=(if q.2=1 then co (toString q.1:Str) else co (toString q.1:Str)++47::co (toString q.2:Str)):=by
 unfold shF
 split
 ·rfl
 ·rw [Bp,Bp,show co (Str.ofString "/")=[47] from by decide +kernel]
  simp
theorem Ov {i:Int}(h0:-(10 ^ 60)<i)(h1:i<10 ^ 60):(toString i:Str).length≤61:=by
 have e60:(10:Int) ^ 60=((10 ^ 60:Nat):Int):=by decide +kernel
 rw [e60] at h0 h1
 rw [←Bm]
 by_cases h:i<0
 ·obtain ⟨m,hm⟩:∃m:Nat,i=-(m:Int):=⟨i.natAbs,by omega⟩
  subst hm
  rw [Ahk (by omega),AY]
  have:=Gf 59 m (by omega)
  omega
 ·obtain ⟨m,rfl⟩:=Int.eq_ofNat_of_zero_le (show 0≤i by omega)
  rw [Kj]
  have:=Gf 59 m (by omega)
  omega
theorem O7 {s:Str×Q2}(h:SmQ s):(shF s.2).length≤130:=by
 have h1:=Ov h.t0 h.t1
 have h2:=Ov (show -(10 ^ 60)<s.2.2 from Int.lt_trans (by decide +kernel) h.b0) h.b1
 unfold shF
 split
 ·omega
 ·rw [Be,Be,show (Str.ofString "/").length=1 from by decide +kernel]
  omega
theorem P0:∀{ss:List (Str×Q2)} {ys:ID},Ax (fun s y=>y=V.str (Yj s)) ss ys→ys=(ss.map Yj).map V.str
 |_,_,.nil=>rfl
 |_,_,.cons h t=>by rw [h,P0 t];rfl
def J3 (K:KKf)(ns:HX):Sp:=fun vs H Q _=>match vs with
 |[.ref P]=>∃vs ss,(H P=some (.lst vs)∧Ax (Lx H) vs ss∧ss.length≤8∧∀s∈ss,SmQ s)∧∀H',Ag H H'→Q (.str (Str.join Rt (ss.map Yj))) H'
 |_=>False
theorem Rf:Ah ["pairs"] ["pairs"] (Ac Gz):=C5
include er in
theorem Q6 (d:Bj K mg "show_pairs" Gz ["pairs"])(bM:Gp mg "PARTING" (.str "; "))(cz:A9 P w K mg base "show_fraction" ["one"] 2 (Gj K ns)):A9 P w K mg base "show_pairs" ["pairs"] 3 (J3 K ns):=by
 refine d.cal (k:=2) Rf (fun vs H Q E hq0=>?_) (fun f cdv A outer s H vs Q E hr hq0=>?_)
 ·obtain ⟨_,rfl,_⟩:=Js hq0
  rfl
 ·obtain ⟨P,rfl,⟨vs,ss,⟨eP,al,l8,ok⟩,k⟩⟩:=Js hq0
  refine ⟨_,(@A5 _ _ _ _ (@M7 _ _ _ _ _ ("join") _ _ (Cp bM (by rfl)) (@Ab _ _ _ _ _ (@B2 _ _ _ _ _ _ _ _ _ _ ["name","one"] [] [] rfl (@Bw _ _ _ _ (dv 0)) (fun C s H fp=>(show PG _ _ (Wy K 2 _) from Fi rfl (A3 (Aq (i:=0) (show List.Nodup [("name":Str),("one":Str)] by decide +kernel) rfl (by trivial)) (A3 (Aq (i:=1) (show List.Nodup [("name":Str),("one":Str)] by decide +kernel) rfl (by trivial)) Dt)))) (fun C s H fp=>(@Al _ _ _ _ _ _ _ _ Cv (@Al _ _ _ _ _ _ _ _ Cv (dv 0) A4) (@Af _ _ _ _ _ _ _ _ _ _ _ cz hr (@Ba _ _ _ (dv 1) (by rfl)) (by trivial)))) rfl rfl (by decide +kernel) (by decide +kernel) (by rfl) ⟨⟩ ⟨⟩ (by intro _;rfl)) Ai (by rfl)) (by rfl) (by rfl) (by rfl) (by rfl) (by rfl))),?_⟩
  refine ⟨rfl,P,rfl,⟨_,A1.of eP⟩,Cb Lx N8 (fun _ s y=>y=V.str (Yj s)) (fun _ _ _ _ _ h=>h) (by rw [al.len];omega) (A1.of eP) al ?_ ?_⟩
  ·intro v s H2 hM hs s2 P' hP
   obtain ⟨t,p,rfl,e1,e2⟩:=hM
   have o:=ok s hs
   have lF:=O7 o
   have n8:=o.n8
   have lb:(Str.ofString " ").length=1:=by decide +kernel
   have big:(1000:Nat)≤sizeLine:=by decide
   refine ⟨t,_,rfl,D7.of e1,rfl,_,_,rfl,_,_,rfl,rfl,rfl,by omega,_,_,⟨e2,⟨o.t0,o.t1⟩,o.b0,o.b1⟩,fun x H3 s3 hx=>?_⟩
   have ex:x=shF s.2:=Dg (hx.trans (Aos s.2).symm)
   subst ex
   exact ⟨by rw [Be];omega,hP _ H3 s3 rfl⟩
  intro D H1 ys s1 _ e1 a1
  rw [P0 a1] at e1
  have ej:Txt.join (Str.ofString "; ") (ss.map Yj)=Str.join Rt (ss.map Yj):=Dg (Jx _ _)
  refine ⟨ss.map Yj,A1.of e1,?_,?_⟩
  ·refine Amh (fun p hp=>?_) (by rw [AE];omega)
   obtain ⟨s,hs,rfl⟩:=BG.mp hp
   have h1:=O7 (ok s hs)
   have h2:=(ok s hs).n8
   unfold Yj
   rw [Be,Be,show (Str.ofString " ").length=1 from by decide +kernel]
   omega
  rw [ej]
  exact k H1 s1
structure F5 (M:Int)(x:Q2):Prop where
 pos:0<x.2
 z:∃z:Int,-M≤z∧z≤M∧5*x.1=z*x.2
 g:Int.gcd x.1 x.2=1
theorem F5.mono {M N:Int}{x:Q2}(h:F5 M x)(l:M≤N):F5 N x:=⟨h.pos,let ⟨z,a,b,c⟩:=h.z;⟨z,by omega,by omega,c⟩,h.g⟩
theorem Hu {t b M z:Int}(hb:0<b)(h0:-M≤z)(h1:z≤M)(e:5*t=z*b):F5 M (Qz t b,Oj t b):=by
 refine ⟨L4 t (by omega),⟨z,h0,h1,?_⟩,Ana t (by omega)⟩
 have c:=W3 t b
 apply Int.eq_of_mul_eq_mul_right (show b≠0 by omega)
 show 5*Qz t b*b=z*Oj t b*b
 rw [BD,c,←BD,e,BD,EE b,←BD]
theorem F5.pl {M N:Int}{x y:Q2}(h:F5 M x)(k:F5 N y):F5 (M+N) (plQ x y):=by
 obtain ⟨z,a,b,c⟩:=h.z
 obtain ⟨w,d,e,f⟩:=k.z
 refine Hu (z:=z+w) (EC h.pos k.pos) (by omega) (by omega) ?_
 rw [Int.mul_add,←BD,c,←BD,f,Int.add_mul,BD,BD,EE y.2]
theorem F5.mn {M N:Int}{x y:Q2}(h:F5 M x)(k:F5 N y):F5 (M+N) (Zl x y):=by
 obtain ⟨z,a,b,c⟩:=h.z
 obtain ⟨w,d,e,f⟩:=k.z
 refine Hu (z:=z-w) (EC h.pos k.pos) (by omega) (by omega) ?_
 rw [Int.mul_sub,←BD,c,←BD,f,Int.sub_mul,BD,BD,EE y.2]
theorem F5.small {M:Int}{x:Q2}(h:F5 M x):x.2≤5∧-M≤x.1∧x.1≤M:=by
 obtain ⟨z,a,b,c⟩:=h.z
 have p:=h.pos
 have d:x.2∣5*x.1:=⟨z,by rw [c,EE]⟩
 have dn:x.2.natAbs∣5*x.1.natAbs:=by
  have:=Int.natAbs_dvd_natAbs.mpr d
  rwa [Int.natAbs_mul] at this
 have d5:x.2.natAbs∣5:=Nat.Coprime.dvd_of_dvd_mul_right (show Nat.gcd x.2.natAbs x.1.natAbs=1 by rw [Nat.gcd_comm];exact h.g) dn
 have l5:x.2≤5:=by
  have:=Nat.le_of_dvd (by decide) d5
  omega
 have h2:x.2=1∨x.2=2∨x.2=3∨x.2=4∨x.2=5:=by omega
 refine ⟨l5,?_⟩
 rcases h2 with e|e|e|e|e<;>rw [e] at c<;>omega
theorem Tc:Tb C2:=⟨⟨_,_,rfl,rfl⟩,fun r hr=>by
 obtain ⟨⟨a1,a2⟩,b1,b2,b3,b4,b5⟩:=Ab6.2.1 r hr
 exact ⟨a1,by omega,b3,b4,by omega,b2,b5⟩,by decide⟩
theorem nb0:Nb 32 0 0:=⟨by decide,by decide,by decide,by decide,by decide,by decide⟩
theorem Agl {fi:Int}{w:Wn}{g:Gm}(h0:0≤g.h)(h2:g.h≤2):F5 160 (Hy 0 32 fi 0 0 C2 w g):=by
 have key:∀(x:Q2),(x=(1,2)∨x=(3,5)∨x=(7,10)∨x=(4,5)∨x=(9,10)∨x=(2,5)∨x=(3,10)∨x=(1,5)∨x=(1,10))→F5 160 (unQ 32 g.h x):=fun x hx=>by
  rcases hx with rfl|rfl|rfl|rfl|rfl|rfl|rfl|rfl|rfl
  ·exact Hu (z:=80*g.h-80) (by decide) (by omega) (by omega) (by show 5*(32*(g.h*2-2*1))=_*(2*2);omega)
  ·exact Hu (z:=80*g.h-96) (by decide) (by omega) (by omega) (by show 5*(32*(g.h*5-2*3))=_*(2*5);omega)
  ·exact Hu (z:=80*g.h-112) (by decide) (by omega) (by omega) (by show 5*(32*(g.h*10-2*7))=_*(2*10);omega)
  ·exact Hu (z:=80*g.h-128) (by decide) (by omega) (by omega) (by show 5*(32*(g.h*5-2*4))=_*(2*5);omega)
  ·exact Hu (z:=80*g.h-144) (by decide) (by omega) (by omega) (by show 5*(32*(g.h*10-2*9))=_*(2*10);omega)
  ·exact Hu (z:=80*g.h-64) (by decide) (by omega) (by omega) (by show 5*(32*(g.h*5-2*2))=_*(2*5);omega)
  ·exact Hu (z:=80*g.h-48) (by decide) (by omega) (by omega) (by show 5*(32*(g.h*10-2*3))=_*(2*10);omega)
  ·exact Hu (z:=80*g.h-32) (by decide) (by omega) (by omega) (by show 5*(32*(g.h*5-2*1))=_*(2*5);omega)
  ·exact Hu (z:=80*g.h-16) (by decide) (by omega) (by omega) (by show 5*(32*(g.h*10-2*1))=_*(2*10);omega)
 have pk:∀{t b:Int},0≤t→J0 t b C2 (0,1)=(1,2)∨J0 t b C2 (0,1)=(3,5)∨J0 t b C2 (0,1)=(7,10)∨J0 t b C2 (0,1)=(4,5)∨J0 t b C2 (0,1)=(9,10):=fun {t b} ht=>by
  obtain ⟨r,hr,e⟩:=O2 (b:=b) Tc ht (0,1)
  have hr:r=(0,1,2)∨r=(60,3,5)∨r=(160,7,10)∨r=(280,4,5)∨r=(460,9,10):=by simpa [C2] using hr
  rw [e]
  rcases hr with rfl|rfl|rfl|rfl|rfl<;>simp
 have sz:∀p r,Yl 0 32 0 0 p r=32:=fun p r=>by
  unfold Yl
  rw [AI (fun c=>absurd c.1 (by decide)),AI (fun c=>absurd c.1 (by decide))]
 unfold Hy btQ
 rw [AI (by decide),sz]
 generalize (Zl (wq fi (w g.a)) (wq fi (w g.b))).1=t
 generalize (Zl (wq fi (w g.a)) (wq fi (w g.b))).2=b
 refine key _ ?_
 by_cases ht:t<0
 ·rw [Tq ht,Kq (show 0≤-t by omega)]
  rcases pk (t:=-t) (b:=b) (by omega) with e|e|e|e|e<;>rw [e]<;>simp
 ·rw [Kq (by omega)]
  rcases pk (t:=t) (b:=b) (by omega) with e|e|e|e|e<;>rw [e]<;>simp
theorem Agg:∀(gs:IE) (w:Wn) (M:Int),(∀g∈gs,0≤g.h∧g.h≤2)→(∀x,F5 M (wq 1500 (w x)))→∀x,F5 (M+160*gs.length) (wq 1500 (Km 0 32 1500 0 0 C2 w gs x))
 |[],w,M,_,h,x=>(h x).mono (by simp)
 | g::gs,w,M,hg,h,x=>by
  have o:=hg g AK
  have:=Agg gs (N3 0 32 1500 0 0 C2 w g) (M+160) (fun y hy=>hg y (AJ _ hy)) (fun y=>?_) x
  ·exact this.mono (by rw [AY];omega)
  ·unfold N3
   have b:=Agl (fi:=1500) (w:=w) o.1 o.2
   split
   ·exact (h g.b).mn b
   ·split
    ·exact (h g.a).pl b
    ·exact (h y).mono (by omega)
theorem Aei {gs:IE}(hg:∀g∈gs,0≤g.h∧g.h≤2)(l:gs.length≤40)(x:Str):F5 13900 (wq 1500 (Km 0 32 1500 0 0 C2 (fun _=>none) gs x)):=
 (Agg gs (fun _=>none) 7500 hg (fun y=>⟨by decide,⟨7500,by decide,by decide,by decide⟩,by decide⟩) x).mono (by omega)
def Ec (gs:IE)(p:IC):List (Str×Q2):=(Gb gs).map fun x=>(x,wq 1500 (Km 0 32 1500 0 0 C2 (fun _=>none) (pg gs p) x))
def Aj7 (ss:List (Str×Q2)):Str:=if ss=[] then Str.ofString "none" else Str.join Rt (ss.map Yj)
theorem Aax {gs:IE}{p:IC}(ok:∀g∈gs,GO g)(l:p.length≤40)(hp:∀i∈p,i<gs.length):∀s∈Ec gs p,SmQ s∧PyData.strOk s.1=true:=fun s hs=>by
 obtain ⟨x,hx,rfl⟩:=BG.mp hs
 have h5:=Aei (gs:=pg gs p) (Agw fun g hg=>⟨(ok g hg).h0,(ok g hg).h1⟩) (by rw [Nn hp];exact l) x
 have n:Nm x:=by
  obtain ⟨g,hg,e⟩:=Ct.mp hx
  rcases e with rfl|rfl
  ·exact (ok g hg).na
  ·exact (ok g hg).nb
 obtain ⟨b5,t0,t1⟩:=h5.small
 have pw:(13900:Int)<10 ^ 60:=by decide +kernel
 have hb:=h5.pos
 generalize wq 1500 (Km 0 32 1500 0 0 C2 (fun _=>none) (pg gs p) x)=q at hb b5 t0 t1
 exact ⟨⟨Hf n,(by show -(10 ^ 60)<q.1;omega),(by show q.1<10 ^ 60;omega),hb,(by show q.2<10 ^ 60;omega)⟩,n.sok⟩
def Et (K:KKf)(ns:HX):Sp:=fun vs H Q _=>match vs with
 | [.ref Z,_]=>∃(L A R:HR) (es:List En) (last:Int),(C7 K H Z L A R es last∧Oh K (Hn (Bn K) H) R 0 32 1500 0 0 C2∧es.length≤40∧(∀e∈es,GO e.2)∧(Gb (es.map (·.2))).length≤8∧Au H (Bn K) Bq Ek) ∧
   ∀p H',Ml (Bn K) H H'→Au H' (Bn K) Bq Ek→Jr (dk (es.map (·.2))) (es.map (·.2)).length p→Q (.str (Aj7 (Ec (es.map (·.2)) p))) H'
 |_=>False
theorem Ho:Ah ["desk","things","worths"] ["desk","things"] (Ac Ff):=C5
include er in
theorem Oq (d:Bj K mg "tell_running" Ff ["desk","things"])  (dq:A9 P w K mg base "show_pairs" ["pairs"] 3 (J3 K ns))(cA:C9 P w K mg base [a8] [] "worths" ["self"] 11 (Gd K ns)):A9 P w K mg base "tell_running" ["desk","things"] 12 (Et K ns):=by
 refine d.cal (k:=11) Ho (fun vs H Q E hq0=>?_) (fun f cdv A outer s H vs Q E hr hq0=>?_)
 ·obtain ⟨_,_,rfl,_⟩:=Xb hq0
  rfl
 ·obtain ⟨Z,_,rfl,⟨L,A,R,es,last,⟨dk0,hR,l40,ok,l8,tk⟩,k⟩⟩:=Xb hq0
  refine ⟨_,(@Aa _ _ _ _ _ (@Ak _ _ _ (2) _ _ _ Ho.nd (@Mf _ _ _ _ _ _ _ _ _ (@B0 _ _ _ _ _ (dv 0) (by rfl)) (@Dq _ _ _ _ _ _ _ _ _ _ _ _ _ _ cA (List.Mem.head _) er.l_Ledger (by decide) Fo) hr (by rfl)) (by trivial)) (@A5 _ _ _ _ (@Yq _ _ _ _ _ _ _ _ (@Bl _ _ _ _ _ _ _ _ (@X4 _ hr.units) (dv 2) (@E5 _ _ _ _ Ai) (Ay _)) A4 (@Af _ _ _ _ _ _ _ _ _ _ _ dq hr (@Ba _ _ _ (dv 2) (by rfl)) (by trivial))))),?_⟩
  obtain ⟨dx,fs,dy,gs,eZ,f1,f2,eL,fd⟩:=dk0.get er.y_Desk er.y_Ledger
  refine ⟨Z,_,dx,fs,_,rfl,eZ,er.l_Desk,er.na_Desk_ledger,f1,L,_,dy,gs,_,rfl,eL,.head _,fd.ws,A,R,es,last,0,32,1500,0,0,C2,⟨dk0.2.2,hR,Tc,nb0,A0 rfl,l40,fun e he=>⟨⟨(ok e he).h0,(ok e he).h1⟩,(ok e he).ne⟩,tk,l8⟩,fun D vs H1 p sm nD eD tk1 stb al=>?_⟩
  have okr:=Aax (gs:=es.map (·.2)) (p:=p) (fun g hg=>by
   obtain ⟨e,he,rfl⟩:=BG.mp hg
   exact ok e he) (by rw [stb.1,AE];exact l40) stb.2.1
  have k:=fun H' sm' tk'=>k p H' sm' tk' stb
  have al:Ax (Lx H1) vs (Ec (es.map (·.2)) p):=al
  have lr:(Ec (es.map (·.2)) p).length≤8:=by
   unfold Ec
   rw [AE]
   exact l8
  generalize Ec (es.map (·.2)) p=ss at al okr k lr
  intro T H2 s2 e2
  have al2:=al.imp fun v g r=>N8 v g _ _ (Bc s2) r
  have sm2:Ml (Bn K) H H2:=fun b o n e=>s2 b o (sm b o n e)
  refine ⟨_,_,.lst (A1.of (s2 _ _ eD)) (Afu al2),.lst (A1.of e2) .nil,Arh fun s hs=>(okr s hs).2,rfl,?_⟩
  rw [Acj]
  unfold Aj7 at k
  refine ⟨fun h=>?_,fun h=>⟨vs,ss,⟨s2 _ _ eD,al2,lr,fun s hs=>(okr s hs).1⟩,fun H3 s3=>?_⟩⟩
  ·have k:=k H2 sm2 (tk1.up s2)
   rw [AN (List.isEmpty_iff.mp h)] at k
   exact k
  ·have k:=k H3 (fun b o n e=>s3 b o (sm2 b o n e)) (tk1.up (s2.trans s3))
   rw [AI fun z=>by rw [z] at h;exact nb h] at k
   exact k
theorem Ach {x:Str}{i:Nat}:PySem.StrLaws.At x ⟨#[32]⟩ x.length i↔(co x)[i]? =some 32:=PySem.StrLaws.subAt_one x 32 i
theorem Sk {x:Str}(h:32∉co x):(Txt.partition x ⟨#[32]⟩).1=x:=by
 rcases partition_head x ⟨#[32]⟩ with ⟨e,_⟩|⟨i,_,ha,_⟩
 ·exact e
 ·exact absurd (BH (Ach.mp ha)) h
theorem Xy {x a b:Str}(hx:co x=co a++32::co b)(h:32∉co a):Txt.partition x ⟨#[32]⟩=(a,⟨#[32]⟩,b):=by
 have mid:(co x)[(co a).length]? =some 32:=by
  rw [hx,BN (AF _),Nat.sub_self]
  rfl
 have p1:(Txt.partition x ⟨#[32]⟩).1=a:=by
  rcases partition_head x ⟨#[32]⟩ with ⟨_,n⟩|⟨i,e,ha,mn⟩
  ·exact absurd (Ach.mpr mid) (n _)
  ·have h1:=Ach.mp ha
   have le:i≤(co a).length:=DV fun z=>mn _ z (Ach.mpr mid)
   have ei:i=(co a).length:=by
    rcases Nat.lt_or_ge i (co a).length with z|z
    ·rw [hx,CF z] at h1
     exact absurd (BH h1) h
    ·omega
   rw [e,ei]
   apply Dg
   show (Builtin.Str.strSub x 0 (co a).length).cps.toList=co a
   rw [PySem.StrLaws.strSub_toList]
   show ((co x).drop 0).take ((co a).length-0)=co a
   rw [hx,GM,Nat.sub_zero,List.take_left]
 have sum:=PySem.StrLaws.partition_sum x ⟨#[32]⟩
 have lx:=congrArg List.length hx
 rw [AM,AY] at lx
 have p2:(Txt.partition x ⟨#[32]⟩).2.1=⟨#[32]⟩:=by
  unfold Txt.partition at p1 ⊢
  split at p1
  ·rfl
  ·have:=congrArg (fun z=>(co z).length) p1
   simp only at this
   omega
 have p3:(Txt.partition x ⟨#[32]⟩).2.2=b:=by
  rw [p1,p2] at sum
  have:=congrArg co sum
  rw [Bp,Bp,hx,Ny,CO] at this
  have:=List.append_cancel_left this
  exact Dg (List.cons.inj this).2
 exact Prod.ext p1 (Prod.ext p2 p3)
def J4 (K:KKf)(ns:HX):Sp:=fun vs H Q _=>match vs with
 |[.str x,.ref p]=>∃lo hi,(V1 K H p [.int lo,.int hi]∧F4 x=true∧lo≤Ti x∧Ti x≤hi)∧∀H',Ag H H'→Q (.int (Ti x)) H'
 |_=>False
theorem Ap9 {vs:ID}{F:Str→HR→Prop}(h:match vs with|[.str x0,.ref x1]=>F x0 x1|_=>False):∃x0 x1,vs=[.str x0,.ref x1]∧F x0 x1:=by
 match vs,h with
 |[.str x0,.ref x1],h=>exact ⟨_,_,rfl,h⟩
theorem Ri:Ah ["word","pair"] ["word","pair"] (Ac G7):=C5
include er cX in
theorem Q7 (d:Bj K mg "read_thing" G7 ["word","pair"])(aI:Gp mg "LONGEST_NUMBER" (.int (6)))(bE:A9 P w K mg base "is_number" ["word","longest"] 1 (G1 K ns)):A9 P w K mg base "read_thing" ["word","pair"] 2 (J4 K ns):=by
 refine d.cal (k:=1) Ri (fun vs H Q E hq0=>?_) (fun f cdv A outer s H vs Q E hr hq0=>?_)
 ·obtain ⟨_,_,rfl,_⟩:=Ap9 hq0
  rfl
 ·obtain ⟨x,p,rfl,⟨lo,hi,⟨hp,hd,h0,h1⟩,k⟩⟩:=Ap9 hq0
  refine ⟨_,(@Aa _ _ _ _ _ (@B6 _ _ _ _ _ _ _ _ (@Aq2 _ _ _ _ _ _ (dv 1)) (@A5 _ _ _ _ (dv 0)) Av) (@Aa _ _ _ _ _ (@B6 _ _ _ _ _ _ _ _ (@Bu _ _ _ _ (@Cc _ _ _ (@Af _ _ _ _ _ _ _ _ _ _ _ bE hr (@Aj _ _ _ _ _ (dv 0) (@Ba _ _ _ (Cp aI (by rfl)) (by rfl)) (by rfl)) (by trivial)) (by intro _;rfl))) (@Ar _ _ _ Cq) Av) (@Aa _ _ _ _ _ (@B6 _ _ _ _ _ _ _ _ (@Bu _ _ _ _ (@O1 _ _ _ _ _ _ _ _ _ _ _ _ Q3 Q3 (@Em _ _ _ _ _ _ _ (dv 1)) (@Bv _ _ _ _ _ _ _ _ _ Y6 cX (by decide +kernel) (@Ba _ _ _ (dv 0) (by rfl)) (by trivial)) (@Em _ _ _ _ _ _ _ (dv 1)) (by with_unfolding_all rfl))) (@Ar _ _ _ Cq) Av) (@A5 _ _ _ _ (@Bv _ _ _ _ _ _ _ _ _ Y6 cX (by decide +kernel) (@Ba _ _ _ (dv 0) (by rfl)) (by trivial)))))),?_⟩
  obtain ⟨l4,an⟩:=Ahp hd
  refine ⟨fun h=>nb h,fun _=>⟨⟨.inr ⟨by decide,l4⟩,by omega⟩,fun H1 s1=>⟨fun h=>?_,fun _=>?_⟩⟩⟩
  ·rw [hd] at h
   exact nb h
  have hp1:=(hp.up (Bc s1)).sq
  refine ⟨_,hp1,Ti x,an,by omega,⟨fun _=>⟨_,hp1,⟨fun h=>?_,fun _=>⟨Ti x,an,by omega,k H1 s1⟩⟩⟩,fun h=>absurd h0 (BM h)⟩⟩
  rw [AQ h1] at h
  exact nb h
def E3 (K:KKf)(ns:HX):Sp:=fun vs H Q E=>match vs with
 | [.ref Z,.ref W]=>(∃x,H W=some (.lst [.str "take",.str x])∧(F4 x=true∧Ti x≤999999)∧∀D H',Ag H H'→H' D=some (.lst [.int (Ti x)])→G5 K ns [.ref Z,.ref D] H' Q E) ∨
   (H W=some (.lst [.str "book"])∧∀D H',Ag H H'→G0 K ns [.ref Z,.ref D] H' Q E) ∨
   (H W=some (.lst [.str "running"])∧∀D H',Ag H H'→Et K ns [.ref Z,.ref D] H' Q E)
 |_=>False
theorem Ew:Ah ["desk","words","answer","bounds"] ["desk","words"] (Ac Fl):=C5
include er fD ak in
theorem On (d:Bj K mg "answer_words" Fl ["desk","words"])(cH:FnV K mg "tell_running")(dP:FnV K mg "tell_book")(dQ:FnV K mg "take_game")(bf:Gp mg "WORD_ROWS" (.ref c7))(bg:Ou P w K c7 [(.inr "take",.ref aw),(.inr "book",.ref ax),(.inr "verdict",.ref bc),(.inr "way",.ref c8),(.inr "ends",.ref bN),(.inr "rank",.ref bO),(.inr "running",.ref aa),(.inr "worth",.ref bA)])(aA:By K aw [.ref bB,.ref aE])(af:By K aE [.ref ah])(ay:By K ah [.int (0),.int (999999)])(aC:By K ax [.ref bC,.ref aH])(ag:By K aH [])(ao:By K aa [.ref aJ,.ref au])(a9:By K au [])(cC:PySem.W.nsIn K mainGlobals "take_game"=some (some (.ref bB)))(cE:PySem.W.nsIn K mainGlobals "tell_book"=some (some (.ref bC)))(b9:PySem.W.nsIn K mainGlobals "tell_running"=some (some (.ref aJ)))(cI:A9 P w K mg base "tell_running" ["desk","things"] 12 (Et K ns))(dR:A9 P w K mg base "tell_book" ["desk","things"] 5 (G0 K ns))(dX:A9 P w K mg base "take_game" ["desk","things"] 7 (G5 K ns))(du:A9 P w K mg base "read_thing" ["word","pair"] 2 (J4 K ns)):A9 P w K mg base "answer_words" ["desk","words"] 13 (E3 K ns):=by
 refine d.calX (k:=12) Ew (fun vs H Q E hq0=>?_) (fun f cdv A outer s H vs Q E hr hq0=>?_)
 ·obtain ⟨_,_,rfl,_⟩:=Hw hq0
  rfl
 ·obtain ⟨Z,W,rfl,hh⟩:=Hw hq0
  refine ⟨_,(@Aa _ _ _ _ _ (@B6 _ _ _ _ _ _ _ _ (@Afg _ _ _ _ _ _ _ _ bg (@Kg _ _ _ _ _ _ _ (dv 1)) (Cp bf (by rfl)) (by with_unfolding_all rfl)) (@Ar _ _ _ Cq) Av) (@Aa _ _ _ _ _ (@Ak _ _ _ (2) _ _ _ Ew.nd (@Em _ _ _ _ _ _ _ (@Uv _ _ _ _ _ _ _ _ bg (Cp bf (by rfl)) (@Kg _ _ _ _ _ _ _ (dv 1)) (fun _ _=>rfl))) (by trivial)) (@Aa _ _ _ _ _ (@Ak _ _ _ (3) _ _ _ Ew.nd (@Em _ _ _ _ _ _ _ (@Uv _ _ _ _ _ _ _ _ bg (Cp bf (by rfl)) (@Kg _ _ _ _ _ _ _ (dv 1)) (fun _ _=>rfl))) (by trivial)) (@Aa _ _ _ _ _ (@B6 _ _ _ _ _ _ _ _ (@Bl _ _ _ _ _ _ _ _ Ad5 (@Ao _ _ _ _ _ _ _ _ _ C4 ak (by decide +kernel) (@Ba _ _ _ (dv 1) (by rfl)) (by trivial)) (@Al _ _ _ _ _ _ _ _ F2 Ae (@Ao _ _ _ _ _ _ _ _ _ C4 ak (by decide +kernel) (@Ba _ _ _ (dv 3) (by rfl)) (by trivial))) (Ay _)) (@Ar _ _ _ Cq) Av) (@A5 _ _ _ _ (@Ag4 _ _ _ _ _ _ _ _ _ _ _ (Fy.cons dX dQ (by decide) (Fy.cons dR dP (by decide) (Fy.cons cI cH (by decide) Fy.nil))) hr Ace (dv 2) (@Ab _ _ _ _ _ (dv 0) (@Ab _ _ _ _ _ (@B2 _ _ _ _ _ _ _ _ _ _ ["word","pair"] [] [] rfl (@Af3 _ true false _ _ _ _ _ _ _ _ (by rfl) fD (@Ab _ _ _ _ _ (@Dr _ _ _ _ _ _ _ _ _ _ Ahe (dv 1) (Dd Ae) Jt) (@Ab _ _ _ _ _ (dv 3) Ai (by rfl)) (by rfl)) (by rfl) (by rfl)) (fun C s H fp=>(show PG _ _ (Wy K 2 _) from Fi rfl (A3 (Aq (i:=0) (show List.Nodup [("word":Str),("pair":Str)] by decide +kernel) rfl (by trivial)) (A3 (Aq (i:=1) (show List.Nodup [("word":Str),("pair":Str)] by decide +kernel) rfl (by trivial)) Dt)))) (fun C s H fp=>(@Af _ _ _ _ _ _ _ _ _ _ _ du hr (@Aj _ _ _ _ _ (dv 0) (@Ba _ _ _ (dv 1) (by rfl)) (by rfl)) (by trivial))) rfl rfl (by decide +kernel) (by decide +kernel) (by rfl) ⟨⟩ ⟨⟩ (by intro _;rfl)) Ai (by rfl)) (by rfl)) (by rfl) (by rfl))))))),?_⟩
  rcases hh with ⟨x,eW,⟨hd,n9⟩,k⟩|⟨eW,k⟩|⟨eW,k⟩
  ·refine ⟨_,_,A1.of eW,A2 (j:=0) rfl,Sum.inr "take",rfl,rfl,⟨fun h=>nb h,fun _=>?_⟩⟩
   refine ⟨rfl,_,_,A1.of eW,A2 (j:=0) rfl,Sum.inr "take",.ref aw,rfl,rfl,_,aA.sq H,rfl,_,_,A1.of eW,A2 (j:=0) rfl,Sum.inr "take",.ref aw,rfl,rfl,_,aA.sq H,?_⟩
   refine ⟨_,.inl (A1.of eW),_,.inr (af.sq H),⟨fun h=>nb h,fun _=>?_⟩⟩
   refine ⟨"take_game",_,bB,.head _,rfl,cC,_,rfl,_,A1.of eW,fun S H1 s1 e1=>?_⟩
   refine ⟨⟨_,A1.of e1⟩,⟨_,af.sq H1⟩,Jy (ca:=true) (cb:=false) (ms:=[()]) (fun _ u v _=>u=V.str x∧v=V.ref ah) (fun _ _ _ _ _ _ h=>h) (fun _ _ y=>y=V.int (Ti x)) (fun _ _ _ _ _ h=>h) (by decide) (A1.of e1) (af.sq H1) (AF _) rfl ?_ ?_ ?_⟩
   ·intro i u v m h1 h2 _
    match i,h1,h2 with
    |0,h1,h2=>exact ⟨(Option.some.inj h1).symm,(Option.some.inj h2).symm⟩
    |j+1,h1,_=>exact nomatch h1
   ·intro u v m t H2 hM _ s2 et P hP
    obtain ⟨rfl,rfl⟩:=hM
    exact ⟨t,_,rfl,D7.of et,rfl,_,_,rfl,_,_,rfl,rfl,rfl,_,_,⟨.inr ay,hd,Int.natCast_nonneg _,n9⟩,fun H3 s3=>hP _ H3 s3 rfl⟩
   ·intro D H2 zs s2 _ e2 a2
    cases a2 with
    |cons h t=>
     cases t
     rw [h] at e2
     exact k D H2 (s1.trans s2) e2
  ·refine ⟨_,_,A1.of eW,A2 (j:=0) rfl,Sum.inr "book",rfl,rfl,⟨fun h=>nb h,fun _=>?_⟩⟩
   refine ⟨rfl,_,_,A1.of eW,A2 (j:=0) rfl,Sum.inr "book",.ref ax,rfl,rfl,_,aC.sq H,rfl,_,_,A1.of eW,A2 (j:=0) rfl,Sum.inr "book",.ref ax,rfl,rfl,_,aC.sq H,?_⟩
   refine ⟨_,.inl (A1.of eW),_,.inr (ag.sq H),⟨fun h=>nb h,fun _=>?_⟩⟩
   refine ⟨"tell_book",_,bC,.tail _ (.head _),rfl,cE,_,rfl,_,A1.of eW,fun S H1 s1 e1=>?_⟩
   exact ⟨⟨_,A1.of e1⟩,⟨_,ag.sq H1⟩,Jy (ca:=true) (cb:=false) (ms:=([]:List Unit)) (fun _ _ _ _=>True) (fun _ _ _ _ _ _ h=>h) (fun _ _ _=>True) (fun _ _ _ _ _ h=>h) (by decide) (A1.of e1) (ag.sq H1) (AV _) rfl (fun _ _ _ _ _ _ _=>trivial) (fun _ _ _ _ _ _ h=>nomatch h) fun D H2 zs s2 _ _ _=>k D H2 (s1.trans s2)⟩
  ·refine ⟨_,_,A1.of eW,A2 (j:=0) rfl,Sum.inr "running",rfl,rfl,⟨fun h=>nb h,fun _=>?_⟩⟩
   refine ⟨rfl,_,_,A1.of eW,A2 (j:=0) rfl,Sum.inr "running",.ref aa,rfl,rfl,_,ao.sq H,rfl,_,_,A1.of eW,A2 (j:=0) rfl,Sum.inr "running",.ref aa,rfl,rfl,_,ao.sq H,?_⟩
   refine ⟨_,.inl (A1.of eW),_,.inr (a9.sq H),⟨fun h=>nb h,fun _=>?_⟩⟩
   refine ⟨"tell_running",_,aJ,.tail _ (.tail _ (.head _)),rfl,b9,_,rfl,_,A1.of eW,fun S H1 s1 e1=>?_⟩
   exact ⟨⟨_,A1.of e1⟩,⟨_,a9.sq H1⟩,Jy (ca:=true) (cb:=false) (ms:=([]:List Unit)) (fun _ _ _ _=>True) (fun _ _ _ _ _ _ h=>h) (fun _ _ _=>True) (fun _ _ _ _ _ h=>h) (by decide) (A1.of e1) (a9.sq H1) (AV _) rfl (fun _ _ _ _ _ _ _=>trivial) (fun _ _ _ _ _ _ h=>nomatch h) fun D H2 zs s2 _ _ _=>k D H2 (s1.trans s2)⟩
def Ic (K:KKf)(ns:HX):Sp:=fun vs H Q E=>match vs with
 | [.ref Z,.str row]=>row.length≤900∧((∃x,Txt.partition row ⟨#[32]⟩=(Str.ofString "put",⟨#[32]⟩,x)∧∀H',Ag H H'→Jb K ns [.ref Z,.str x] H' Q E) ∨
   (((Txt.partition row ⟨#[32]⟩).1=Str.ofString "take"∨(Txt.partition row ⟨#[32]⟩).1=Str.ofString "book"∨(Txt.partition row ⟨#[32]⟩).1=Str.ofString "running")∧∀W H',Ag H H'→H' W=some (.lst ((Txt.split row ⟨#[32]⟩).map V.str))→E3 K ns [.ref Z,.ref W] H' Q E))
 |_=>False
theorem Od:Ah ["self","row","head"] ["self","row"] (Ac Kf):=C5
include er a6 aX in
theorem Xw (d:Ef K [aL] [] "say" "Desk.say" Kf ["self","row"])(bG:Gp mg "TEXT_ROWS" (.ref c6))(bH:Ou P w K c6 [(.inr "put",.ref bx),(.inr "tree",.ref dB),(.inr "group",.ref cW)])(cQ:PySem.W.nsIn K mainGlobals "put_game"=some (some (.ref bx)))(eJ:FnV K mg "put_game")(cJ:A9 P w K mg base "answer_words" ["desk","words"] 13 (E3 K ns))(eK:A9 P w K mg base "put_game" ["desk","text"] 7 (Jb K ns)):C9 P w K mg base [aL] [] "say" ["self","row"] 14 (Ic K ns):=by
 refine d.calX (k:=13) Od (fun vs H Q E hq0=>?_) (fun f cdv A outer s H vs Q E hr hq0=>?_)
 ·obtain ⟨_,_,rfl,_⟩:=Ad0 hq0
  rfl
 ·obtain ⟨Z,row,rfl,⟨hl,hh⟩⟩:=Ad0 hq0
  refine ⟨_,(@Aa _ _ _ _ _ (@B6 _ _ _ _ _ _ _ _ (@Bu _ _ _ _ (@Cc _ _ _ (@Ao _ _ _ _ _ _ _ _ _ S5 a6 (by decide +kernel) (@Aj _ _ _ _ _ (dv 1) (@Ba _ _ _ (Aah "str" (by rfl) aX (by decide +kernel)) (by rfl)) (by rfl)) (by trivial)) (by intro _;rfl))) (@Ar _ _ _ Cq) Av) (@Aa _ _ _ _ _ (@Ak _ _ _ (2) _ _ _ Od.nd (@Lu _ _ _ _ _ _ _ _ _ _ _ _ PySem.F.plainAttrs_str PySem.F.slot_str_partition PySem.F.type_str_partition Ala (dv 1) (@Ab _ _ _ _ _ A4 Ai (by rfl)) (by rfl) (by rfl) (by rfl) (by rfl) (by rfl)) (by trivial)) (@Aa _ _ _ _ _ (@B6 _ _ _ _ _ _ _ _ (@L2.PW.pt _ _ _ (@Xu _ _ _ _ _ _ _ (@Aqg _ _ _ _ _ _ _ _ bH (@Bg _ _ _ _ _ _ _ (dv 2)) (Cp bG (by rfl)) (by with_unfolding_all rfl)) (@Mg _ _ _ _ (@Bl _ _ _ _ _ _ _ _ Gu (@Bg _ _ _ _ _ _ _ (dv 2)) A4 (Ay _))))) (@A5 _ _ _ _ (@Afa _ _ _ _ _ _ _ _ _ _ _ _ (Fy.cons eK eJ (by decide) Fy.nil) hr Ace (@Uv _ _ _ _ _ _ _ _ bH (Cp bG (by rfl)) (@Bg _ _ _ _ _ _ _ (dv 2)) (fun _ _=>rfl)) (@Ab _ _ _ _ _ (dv 0) (@Ab _ _ _ _ _ (@Bg _ _ _ _ _ _ _ (dv 2)) Ai (by rfl)) (by rfl)) (by rfl) (by rfl))) Av) (@A5 _ _ _ _ (@Oz _ _ _ _ _ _ _ _ _ _ _ _ _ _ _ _ _ _ _ _ _ _ _ _ _ cJ hr (by decide) (by rfl) (@Ab _ _ _ _ _ (dv 0) (@Ab _ _ _ _ _ (@Lu _ _ _ _ _ _ _ _ _ _ _ _ PySem.F.plainAttrs_str PySem.F.slot_str_split PySem.F.type_str_split Abk (dv 1) (@Ab _ _ _ _ _ A4 Ai (by rfl)) (by rfl) (by rfl) (by rfl) (by rfl) (by rfl)) Ai (by rfl)) (by rfl)) (by decide) (by rfl) (by rfl)))))),?_⟩
  refine ⟨true,rfl,⟨fun h=>nb h,fun _=>?_⟩⟩
  refine ⟨rfl,by decide +kernel,by omega,fun T H1 s1 e1=>?_⟩
  have e1:H1 T=some (.tup [.str (Txt.partition row ⟨#[32]⟩).1,.str (Txt.partition row ⟨#[32]⟩).2.1,.str (Txt.partition row ⟨#[32]⟩).2.2]):=e1
  rcases hh with ⟨x,ep,k⟩|⟨hw,k⟩
  ·rw [ep] at e1
   refine ⟨_,e1,Sum.inr "put",rfl,rfl,⟨fun _=>⟨_,e1,⟨fun _=>?_,fun h=>nb h⟩⟩,fun h=>nb h⟩⟩
   exact ⟨rfl,_,e1,Sum.inr "put",.ref bx,rfl,rfl,"put_game",_,bx,.head _,rfl,cQ,_,e1,k H1 s1⟩
  ·have no:∀v1 v2 v3:V,Cf [(Sum.inr (Str.ofString "put"),v1),(Sum.inr (Str.ofString "tree"),v2),(Sum.inr (Str.ofString "group"),v3)] (Sum.inr (Txt.partition row ⟨#[32]⟩).1:B3)=none:=fun v1 v2 v3=>by
    rcases hw with e|e|e<;>rw [e]<;>rfl
   refine ⟨_,e1,Sum.inr _,rfl,rfl,?_⟩
   rw [no]
   refine ⟨fun h=>nb h,fun _=>⟨fun h=>nb h,fun _=>?_⟩⟩
   exact ⟨rfl,by decide +kernel,by omega,fun W H2 s2 e2=>k W H2 (s1.trans s2) e2⟩
def Lj (K:KKf)(ns:HX):Sp:=fun vs H Q _=>match vs with
 |[.ref a,.int k]=>A1 K H a (ns.map V.int)∧0≤k∧∀c:Int,Q (.int c) H
 |_=>False
theorem Vm:Ah ["_law_script","_law_k"] ["_law_script","_law_k"] (Ac Iu):=C5
include er ak in
theorem Uw (d:Bj K mg "_law_cell_at" Iu ["_law_script","_law_k"]):A9 P w K mg base "_law_cell_at" ["_law_script","_law_k"] 1 (Lj K ns):=by
 refine d.cal (k:=0) Vm (fun vs H Q E hq0=>?_) (fun f cdv A outer s H vs Q E hr hq0=>?_)
 ·obtain ⟨_,_,rfl,_⟩:=Q0 hq0
  rfl
 ·obtain ⟨a,k,rfl,⟨hS,k0,q⟩⟩:=Q0 hq0
  refine ⟨_,(@Aa _ _ _ _ _ (@B6 _ _ _ _ _ _ _ _ (@Bl _ _ _ _ _ _ _ _ Xi (dv 1) (@Ao _ _ _ _ _ _ _ _ _ C4 ak (by decide +kernel) (@Ba _ _ _ (dv 0) (by rfl)) (by trivial)) (Ay _)) (@A5 _ _ _ _ (@Eb _ _ _ _ _ _ _ Ht (dv 0) (dv 1) (fun _ _=>rfl))) Av) (@A5 _ _ _ _ Ae)),?_⟩
  refine ⟨_,.inl hS,⟨fun h=>?_,fun _=>q 0⟩⟩
  have h:=AZ h
  rw [AE] at h
  obtain ⟨j,rfl⟩:=Int.eq_ofNat_of_zero_le k0
  have hj:j<ns.length:=by omega
  refine ⟨_,.int ns[j],hS,A2 ?_,q _⟩
  rw [BJ,AD hj]
  rfl
def l12:IC:=[98,113,99,120,100,108,101,110,104,117,115,118]
def b8:IC:=[103,109,116,97,122,107,102,119]
theorem Ajj {n:Int}(h0:0≤n % 12)(h1:n % 12<12):∃c,Q4 (Str.cps "bqcxdlenhusv").toList (n % 12)=some c∧l12[(n % 12).toNat]? =some c:=by
 obtain ⟨j,hj⟩:=Int.eq_ofNat_of_zero_le h0
 rw [hj] at h1 ⊢
 have e:(Str.cps "bqcxdlenhusv").toList=l12:=by decide +kernel
 have hl:j<l12.length:=by show j<12;omega
 exact ⟨l12[j],by rw [e];exact A2 (AD hl),by rw [CY,AD hl]⟩
def n8 (n p c:Nat):IC:=(b8.take n).take p++[c]++(b8.take n).drop (p+1)
theorem Als {n p c d:Nat}(h:n8 n p c=n8 n p d):c=d:=by
 unfold n8 at h
 rw [CO,CO] at h
 have h:=List.append_cancel_left h
 simpa using h
theorem Alm {n p c:Nat}(h:p<n)(h':n≤8):(n8 n p c).length=n:=by
 have:b8.length=8:=rfl
 unfold n8
 rw [AM,AM,BQ,BQ,DO,BQ,DP]
 omega
theorem Aol {n p c:Nat}(hc:c∈l12):∀e∈n8 n p c,e∈b8∨e∈l12:=by
 intro e he
 unfold n8 at he
 rcases BV.mp he with he|he
 ·rcases BV.mp he with he|he
  ·exact .inl (ES (ES he))
  ·exact .inr (AW.mp he▸hc)
 ·exact .inl (ES (List.mem_of_mem_drop he))
theorem Aln {n p c:Nat}(hc:c∈l12):∀e∈n8 n p c,97≤e∧e<123:=fun e he=>by
 have hb:∀x∈b8,97≤x∧x<123:=by decide
 have hl:∀x∈l12,97≤x∧x<123:=by decide
 exact (Aol hc e he).elim (hb e) (hl e)
structure NL (nm:HW):Prop where
 nd:nm.Nodup
 ok:∀x∈nm,Nm x
def Pu (K:KKf)(ns:HX):Sp:=fun vs H Q _=>match vs with
 |[.int c,.int m]=>(0≤m∧m≤9)∧∀L (nm:HW) H',Ag H H'→H L=none→H' L=some (.lst (nm.map V.str))→(nm.length:Int)=m→NL nm→Q (.ref L) H'
 |_=>False
theorem Dh:Ah ["_law_cell","_law_many","_law_size","_law_base","_law_at","_law_names_here","_law_k","_law_letter"] ["_law_cell","_law_many"] (Ac Mz):=C5
include er bP in
theorem Zc (d:Bj K mg "_law_names" Mz ["_law_cell","_law_many"]):A9 P w K mg base "_law_names" ["_law_cell","_law_many"] 1 (Pu K ns):=by
 refine d.cal (k:=0) Dh (fun vs H Q E hq0=>?_) (fun f cdv A outer s H vs Q E hr hq0=>?_)
 ·obtain ⟨_,_,rfl,_⟩:=Acr hq0
  rfl
 ·obtain ⟨c,m,rfl,⟨⟨m0,m8⟩,q⟩⟩:=Acr hq0
  refine ⟨_,(@Aa _ _ _ _ _ (@Ak _ _ _ (2) _ _ _ Dh.nd (@Al _ _ _ _ _ _ _ _ F2 Ae (@Al _ _ _ _ _ _ _ _ Er (dv 0) Ae)) (by trivial)) (@Aa _ _ _ _ _ (@Ak _ _ _ (3) _ _ _ Dh.nd (@Dr _ _ _ _ _ _ _ _ _ _ Va A4 Jt (Dd (dv 2))) (by trivial)) (@Aa _ _ _ _ _ (@Ak _ _ _ (4) _ _ _ Dh.nd (@Al _ _ _ _ _ _ _ _ Er (@Al _ _ _ _ _ _ _ _ Hm (dv 0) Ae) (dv 2)) (by trivial)) (@Aa _ _ _ _ _ (@Ak _ _ _ (5) _ _ _ Dh.nd (@Vh _ _ _ _ Ai) (by trivial)) (@Aa _ _ _ _ _ (@K3 _ _ _ _ _ _ _ _ DJ rfl (@R1 _ _ _ _ _ _ (by rfl) bP (@Ab _ _ _ _ _ (dv 1) Ai (by rfl)) (by rfl)) (@Aq _ _ (6) _ Dh.nd rfl (by trivial) (by trivial)) (@Aa _ _ _ _ _ (@Ak _ _ _ (7) _ _ _ Dh.nd (@Eb _ _ _ _ _ _ _ Ako A4 (@Al _ _ _ _ _ _ _ _ Er (@Al _ _ _ _ _ _ _ _ F2 (@Al _ _ _ _ _ _ _ _ Hm (dv 0) Ae) (@Al _ _ _ _ _ _ _ _ D9 Ae (dv 6))) Ae) (fun _ _=>rfl)) (by trivial)) (@Ar _ _ _ (@Fz _ _ _ _ (@Lu _ _ _ _ _ _ _ _ _ _ _ _ GT PySem.F.slot_list_append PySem.F.type_list_append Jw (dv 5) (@Ab _ _ _ _ _ (@Al _ _ _ _ _ _ _ _ Cv (@Al _ _ _ _ _ _ _ _ Cv (@Dr _ _ _ _ _ _ _ _ _ _ Va (dv 3) Jt (Dd (dv 4))) (dv 7)) (@Dr _ _ _ _ _ _ _ _ _ _ Va (dv 3) (Dd (Al F2 (dv 4) Ae)) Jt)) Ai (by rfl)) (by rfl) (by rfl) (by rfl) (by rfl) (by rfl)) (by rfl)))) (by intro _;rfl)) (@A5 _ _ _ _ (dv 5))))))),?_⟩
  have d8:(0:Int)<8:=by decide
  have a0:=CZ c (show (8:Int)≠0 by decide)
  have a1:=Int.emod_lt_of_pos c d8
  obtain ⟨n,hn⟩:∃n:Nat,c % 8=n:=⟨(c % 8).toNat,by omega⟩
  have hn8:n<8:=by omega
  have lb:(Str.ofString "gmtazkfw").length=8:=by decide +kernel
  have cb:co (Str.ofString "gmtazkfw")=b8:=by decide +kernel
  refine ⟨d8,_,rfl,by rw [lb];decide,⟨d8,A0 rfl⟩,by omega,by decide,fun D hD=>?_⟩
  have p0:=CZ (c / 8) (show 1+c % 8≠0 by omega)
  have p1:=Int.emod_lt_of_pos (c / 8) (show 0<1+c % 8 by omega)
  obtain ⟨p,hp⟩:∃p:Nat,c / 8 % (1+c % 8)=p:=⟨(c / 8 % (1+c % 8)).toNat,by omega⟩
  have hp1:p<n+1:=by omega
  have hsz:(1:Int)+c % 8=((n+1:Nat):Int):=by omega
  have cB:co (Txt.slice (Str.ofString "gmtazkfw") none (some (1+c % 8)))=b8.take (n+1):=by
   rw [hsz,Akg (by rw [lb];omega),cb]
  generalize hB:Txt.slice (Str.ofString "gmtazkfw") none (some (1+c % 8))=B at cB
  have lB:B.length=n+1:=by
   rw [←Bm,cB,BQ]
   show min (n+1) 8=n+1
   omega
  have zB:B.length≤sizeLine:=by rw [lB];exact AO (show n+1≤8 by omega) (by decide)
  refine ⟨m,rfl,by omega,by omega,S7 (lo:=0) (n:=m.toNat) (fun i σ H'=>∃(nm:HW) (o1 o2:Option V),σ=[some (.int c),some (.int m),some (.int (1+c % 8)),some (.str B),some (.int (c / 8 % (1+c % 8))),some (.ref D),o1,o2]∧H'=upd H D (.lst (nm.map V.str))∧nm.length=i∧∀(j:Nat) x,nm[j]? =some x→∃e,co x=n8 (n+1) p e∧l12[((c / 64+5*(j:Int)) % 12).toNat]? =some e)
   ⟨[],none,none,by rw [←hB];rfl,rfl,rfl,fun j x h=>by simp at h⟩ ?_ ?_⟩
  ·rintro i σ H' hi ⟨nm,o1,o2,rfl,rfl,hl,hall⟩
   have d12:(0:Int)<12:=by decide
   have w0:=CZ (c / 64+5*(0+(i:Int))) (show (12:Int)≠0 by decide)
   have w1:=Int.emod_lt_of_pos (c / 64+5*(0+(i:Int))) d12
   obtain ⟨e,he,he'⟩:=Ajj w0 w1
   refine ⟨⟨by decide,A0 rfl⟩,.inr (.inl ⟨by decide,by decide⟩),d12,e,by decide +kernel,he,.inl ⟨rfl,_,A1.of Ad⟩,?_⟩
   have c1:co (Txt.slice B none (some (c / 8 % (1+c % 8))))=(b8.take (n+1)).take p:=by rw [hp,Akg (by omega),cB]
   have c2:co (Txt.slice B (some (c / 8 % (1+c % 8)+1)) none)=(b8.take (n+1)).drop (p+1):=by
    rw [show c / 8 % (1+c % 8)+1=((p+1:Nat):Int) by omega,Ajg (by omega),cB]
   have bl:(b8.take (n+1)).length≤8:=List.length_take_le' _ _
   have z1:(Txt.slice B none (some (c / 8 % (1+c % 8)))).length≤8:=by
    rw [←Bm,c1]
    exact AO (List.length_take_le' _ _) bl
   have z2:(Txt.slice B (some (c / 8 % (1+c % 8)+1)) none).length≤8:=by
    rw [←Bm,c2,DO]
    omega
   have z3:(⟨#[e]⟩:Str).length=1:=rfl
   refine ⟨_,rfl,zB,AO (Nat.add_le_add z1 (Nat.le_of_eq z3)) (by decide),_,rfl,zB,AO (Nat.add_le_add (by rw [Be,z3];exact Nat.add_le_add_right z1 1) z2) (by decide),D,_,_,rfl,rfl,Ad,?_,nm++[Txt.slice B none (some (c / 8 % (1+c % 8)))++⟨#[e]⟩++Txt.slice B (some (c / 8 % (1+c % 8)+1)) none],_,_,rfl,?_,?_,fun j x hx=>?_⟩
   ·rw [AE,hl]
    exact AL (show i<9 by omega) (by decide)
   ·rw [Ab2,CB]
    rfl
   ·rw [AM,hl]
    rfl
   ·by_cases hj:j<nm.length
    ·rw [CF hj] at hx
     exact hall j x hx
    ·have ej:j=i:=by
      have:=(BI.mp hx).1
      rw [AM,DP] at this
      omega
     subst ej
     rw [BN (by omega),hl,Nat.sub_self] at hx
     cases hx
     refine ⟨e,?_,by rw [Int.zero_add] at he';exact he'⟩
     rw [Bp,Bp,c1,c2]
     rfl
  ·rintro σ H' ⟨nm,o1,o2,rfl,rfl,hl,hall⟩
   refine q D nm _ (An hD) hD Ad (by omega) ⟨?_,fun x hx=>?_⟩
   ·refine ER.mpr fun i j hi hj lt e=>?_
    obtain ⟨x,h1,h2⟩:=hall i _ (AD hi)
    obtain ⟨y,h3,h4⟩:=hall j _ (AD hj)
    rw [e,h3] at h1
    have exy:=Als h1
    subst exy
    have r0:=CZ (c / 64) (show (12:Int)≠0 by decide)
    have r1:=Int.emod_lt_of_pos (c / 64) (show (0:Int)<12 by decide)
    obtain ⟨r,hr⟩:∃r:Nat,c / 64 % 12=r:=⟨(c / 64 % 12).toNat,by omega⟩
    have e1:((c / 64+5*(i:Int)) % 12).toNat=(r+5*i) % 12:=by omega
    have e2:((c / 64+5*(j:Int)) % 12).toNat=(r+5*j) % 12:=by omega
    rw [e1] at h2
    rw [e2] at h4
    have ap:∀r<12,∀i<9,∀j<9,l12[(r+5*i) % 12]? =l12[(r+5*j) % 12]?→i=j:=by decide +kernel
    have:=ap r (by omega) i (by omega) j (by omega) (h2.trans h4.symm)
    omega
   ·obtain ⟨j,hj,rfl⟩:=List.mem_iff_getElem.mp hx
    obtain ⟨e,h1,h2⟩:=hall j _ (AD hj)
    have hl:=Alm (c:=e) hp1 (by omega)
    exact ⟨by rw [h1,hl];omega,by rw [h1,hl];omega,by rw [h1];exact Aln (BH h2)⟩
def Ao7:R2:=fun x y H Q=>match x,y with
 |.str a,.int n=>a.length≤100∧(n=0∧Q (.str Str.empty) H∨n=1∧Q (.str a) H)
 |_,_=>False
theorem Ag8 {X:Cx}:Dv X (binaryOp .Mult) Ao7:=by
 intro pins s σ H x y v u Q I rx ry q
 match x,y,q with
 | .str a,.int n,⟨h3,q⟩=>
  obtain ⟨t,rfl⟩:=rx
  obtain ⟨t',rfl⟩:=ry
  rcases q with ⟨rfl,q⟩|⟨rfl,q⟩
  ·refine PySem.P.mul_str ?_ (fun _ _=>?_) (fun _ _=>?_) ?_
   ·rfl
   ·omega
   ·rw [show a.length*(0:Int).toNat=0 from Nat.mul_zero _]
    rfl
   ·rw [AN (by decide)]
    exact ⟨AV _,.str _,H,I.tok _,⟨_,rfl⟩,q⟩
  ·refine PySem.P.mul_str ?_ (fun _ h=>?_) (fun _ h=>?_) ?_
   ·rfl
   ·exact absurd h (by simp)
   ·exact absurd h (by simp)
   ·rw [AI (by decide),AN (by simp)]
    exact ⟨.str a,H,I,⟨_,rfl⟩,q⟩
theorem Aq5 {nm:HW}(h:nm.Nodup){i j:Int}(i0:0≤i)(i1:i<nm.length)(j0:0≤j)(j1:j<nm.length)(ne:i≠j):∃x y,Q4 (nm.map V.str) i=some (.str x)∧Q4 (nm.map V.str) j=some (.str y)∧x∈nm∧y∈nm∧x≠y:=by
 obtain ⟨a,rfl⟩:=Int.eq_ofNat_of_zero_le i0
 obtain ⟨b,rfl⟩:=Int.eq_ofNat_of_zero_le j0
 have ha:a<nm.length:=by omega
 have hb:b<nm.length:=by omega
 refine ⟨nm[a],nm[b],A2 ?_,A2 ?_,EV ha,EV hb,fun e=>ne ?_⟩
 ·rw [BJ,AD ha]
  rfl
 ·rw [BJ,AD hb]
  rfl
 ·rw [(List.getElem_inj h).mp e]
theorem Aom {a d m:Int}(a0:0≤a)(a1:a<m)(d0:0<d)(d1:d<m):0≤(a+d) % m∧(a+d) % m<m∧(a+d) % m≠a:=by
 refine ⟨CZ _ (by omega),Int.emod_lt_of_pos _ (by omega),?_⟩
 by_cases h:a+d<m
 ·rw [Int.emod_eq_of_lt (by omega) h]
  omega
 ·have e:a+d=(a+d-m)+m:=by omega
  rw [e,Int.add_emod_right,Int.emod_eq_of_lt (by omega) (by omega)]
  omega
def Xk (K:KKf)(ns:HX):Sp:=fun vs H Q _=>match vs with
 |[.int c,.ref L]=>∃nm,(H L=some (.lst (nm.map V.str))∧NL nm∧2≤nm.length∧nm.length≤9)∧∀y g H',Ag H H'→B4 H' y g→(g.a∈nm∧g.b∈nm)→GO g→Q y H'
 |_=>False
theorem Arq {vs:ID}{F:Int→HR→Prop}(h:match vs with|[.int x0,.ref x1]=>F x0 x1|_=>False):∃x0 x1,vs=[.int x0,.ref x1]∧F x0 x1:=by
 match vs,h with
 |[.int x0,.ref x1],h=>exact ⟨_,_,rfl,h⟩
theorem Jn:Ah ["_law_cell","_law_names_here","_law_many","_law_one","_law_other","_law_day"] ["_law_cell","_law_names_here"] (Ac Te):=C5
include er ak in
theorem Ae5 (d:Bj K mg "_law_row" Te ["_law_cell","_law_names_here"]):A9 P w K mg base "_law_row" ["_law_cell","_law_names_here"] 1 (Xk K ns):=by
 refine d.cal (k:=0) Jn (fun vs H Q E hq0=>?_) (fun f cdv A outer s H vs Q E hr hq0=>?_)
 ·obtain ⟨_,_,rfl,_⟩:=Arq hq0
  rfl
 ·obtain ⟨c,L,rfl,⟨nm,⟨hL,ok,n2,n9⟩,k⟩⟩:=Arq hq0
  refine ⟨_,(@Aa _ _ _ _ _ (@Ak _ _ _ (2) _ _ _ Jn.nd (@Ao _ _ _ _ _ _ _ _ _ C4 ak (by decide +kernel) (@Ba _ _ _ (dv 1) (by rfl)) (by trivial)) (by trivial)) (@Aa _ _ _ _ _ (@Ak _ _ _ (3) _ _ _ Jn.nd (@Al _ _ _ _ _ _ _ _ Er (@Al _ _ _ _ _ _ _ _ Hm (dv 0) Ae) (dv 2)) (by trivial)) (@Aa _ _ _ _ _ (@Ak _ _ _ (4) _ _ _ Jn.nd (@Al _ _ _ _ _ _ _ _ Er (@Al _ _ _ _ _ _ _ _ F2 (@Al _ _ _ _ _ _ _ _ F2 (dv 3) Ae) (@Al _ _ _ _ _ _ _ _ Er (@Al _ _ _ _ _ _ _ _ Hm (dv 0) Ae) (@Al _ _ _ _ _ _ _ _ X8 (dv 2) Ae))) (dv 2)) (by trivial)) (@Aa _ _ _ _ _ (@Ak _ _ _ (5) _ _ _ Jn.nd (@Al _ _ _ _ _ _ _ _ Er (@Al _ _ _ _ _ _ _ _ Hm (dv 0) Ae) (@Eb _ _ _ _ _ _ _ Ht (@E5 _ _ _ _ (@Ab _ _ _ _ _ Ae (@Ab _ _ _ _ _ Ae Ai (by rfl)) (by rfl))) (@Al _ _ _ _ _ _ _ _ Er (@Al _ _ _ _ _ _ _ _ Hm (dv 0) Ae) Ae) (fun _ _=>rfl))) (by trivial)) (@A5 _ _ _ _ (@B8 _ _ _ _ _ (@Ab _ _ _ _ _ (dv 5) (@Ab _ _ _ _ _ (@Eb _ _ _ _ _ _ _ Ht (dv 1) (dv 3) (fun _ _=>rfl)) (@Ab _ _ _ _ _ (@Eb _ _ _ _ _ _ _ Ht (dv 1) (dv 4) (fun _ _=>rfl)) (@Ab _ _ _ _ _ (@Al _ _ _ _ _ _ _ _ Er (@Al _ _ _ _ _ _ _ _ Hm (dv 0) Ae) Ae) (@Ab _ _ _ _ _ (@Al _ _ _ _ _ _ _ _ X8 (@Al _ _ _ _ _ _ _ _ Er (@Al _ _ _ _ _ _ _ _ Hm (dv 0) Ae) Ae) Ae) Ai (by rfl)) (by rfl)) (by rfl)) (by rfl)) (by rfl)))))))),?_⟩
  have m0:(0:Int)<nm.length:=by omega
  have m1:(0:Int)<nm.length-1:=by omega
  have p0:=CZ (c / 4) (show (nm.length:Int)≠0 by omega)
  have p1:=Int.emod_lt_of_pos (c / 4) m0
  have q0:=CZ (c / 36) (show (nm.length:Int)-1≠0 by omega)
  have q1:=Int.emod_lt_of_pos (c / 36) m1
  obtain ⟨z0,z1,z2⟩:=Aom (a:=c / 4 % nm.length) (d:=1+c / 36 % (nm.length-1)) (m:=nm.length) p0 p1 (by omega) (by omega)
  rw [←Int.add_assoc] at z0 z1 z2
  obtain ⟨x,y,hx,hy,mx,my,nxy⟩:=Aq5 ok.nd p0 p1 z0 z1 (CN z2)
  refine ⟨_,.inl (A1.of hL),?_⟩
  rw [AE]
  refine ⟨⟨by decide,A0 rfl⟩,m0,⟨by decide,A0 rfl⟩,m1,m0,⟨by decide,A0 rfl⟩,fun L1 H1 s1 e1=>?_⟩
  obtain ⟨m,hmv,mp,mq⟩:∃m:Int,Q4 [V.int 10,V.int 10000] (c / 1000 % 2)=some (.int m)∧0<m∧m≤10000:=by
   have:c / 1000 % 2=0∨c / 1000 % 2=1:=by omega
   rcases this with e|e<;>rw [e]
   ·exact ⟨10,rfl,by decide,by decide⟩
   ·exact ⟨10000,rfl,by decide,by decide⟩
  have d0:=CZ (c / 2000) (show m≠0 by omega)
  have d1:=Int.emod_lt_of_pos (c / 2000) mp
  have d3:(0:Int)<3:=by decide
  refine ⟨⟨by decide,A0 rfl⟩,(by show (0:Int)<2;decide),_,_,A1.of e1,hmv,mp,_,_,A1.of (s1 _ _ hL),hx,_,_,A1.of (s1 _ _ hL),hy,⟨by decide,A0 rfl⟩,d3,⟨by decide,A0 rfl⟩,d3,fun T H2 s2 e2=>?_⟩
  exact k (.ref T) ⟨c / 2000 % m,x,y,c / 300 % 3,c / 100 % 3-1⟩ H2 (s1.trans s2) ⟨T,rfl,e2⟩ ⟨mx,my⟩ ⟨d0,by show c / 2000 % m≤9999;omega,ok.ok x mx,ok.ok y my,nxy,by show 0≤c / 300 % 3;omega,by show c / 300 % 3≤2;omega,by show -1≤c / 100 % 3-1;omega,by show c / 100 % 3-1≤1;omega⟩
def Hj (K:KKf)(ns:HX):Sp:=fun vs H Q _=>match vs with
 |[.ref p]=>∃g,(B4 H (.ref p) g∧GO g)∧∀H',Ag H H'→Q (.str (N2 g)) H'
 |_=>False
theorem B5:Ah ["_law_row_here","_law_day","_law_one","_law_other","_law_halves","_law_side","_law_first","_law_second"] ["_law_row_here"] (Ac Jj):=C5
include er aX cX in
theorem Vq (d:Bj K mg "_law_written" Jj ["_law_row_here"]):A9 P w K mg base "_law_written" ["_law_row_here"] 1 (Hj K ns):=by
 refine d.cal (k:=0) B5 (fun vs H Q E hq0=>?_) (fun f cdv A outer s H vs Q E hr hq0=>?_)
 ·obtain ⟨_,rfl,_⟩:=Js hq0
  rfl
 ·obtain ⟨p,rfl,⟨g,⟨⟨p',e',ep⟩,o⟩,k⟩⟩:=Js hq0
  refine ⟨_,(@Aa _ _ _ _ _ (@Aag _ _ _ _ _ _ (dv 0) (@Fi _ _ _ _ _ _ rfl (@A3 _ _ _ _ _ (@Aq _ _ (1) _ B5.nd rfl (by trivial) (by trivial)) (@A3 _ _ _ _ _ (@Aq _ _ (2) _ B5.nd rfl (by trivial) (by trivial)) (@A3 _ _ _ _ _ (@Aq _ _ (3) _ B5.nd rfl (by trivial) (by trivial)) (@A3 _ _ _ _ _ (@Aq _ _ (4) _ B5.nd rfl (by trivial) (by trivial)) (@A3 _ _ _ _ _ (@Aq _ _ (5) _ B5.nd rfl (by trivial) (by trivial)) Dt (by rfl)) (by rfl)) (by rfl)) (by rfl)) (by rfl)) (by rfl) (by rfl)) (by rfl) (by rfl) (by rfl)) (@Aa _ _ _ _ _ (@Ak _ _ _ (6) _ _ _ B5.nd (@Al _ _ _ _ _ _ _ _ Cv (dv 2) (@Al _ _ _ _ _ _ _ _ Ag8 A4 (@Bv _ _ _ _ _ _ _ _ _ Afe cX (by decide +kernel) (@Ba _ _ _ (@Ck _ _ _ _ _ _ _ _ Gu (dv 5) Ae (Ay _)) (by rfl)) (by trivial)))) (by trivial)) (@Aa _ _ _ _ _ (@Ak _ _ _ (7) _ _ _ B5.nd (@Al _ _ _ _ _ _ _ _ Cv (dv 3) (@Al _ _ _ _ _ _ _ _ Ag8 A4 (@Bv _ _ _ _ _ _ _ _ _ Afe cX (by decide +kernel) (@Ba _ _ _ (@Ck _ _ _ _ _ _ _ _ Gu (dv 5) (@Le _ _ _ _ _ _ Mj Ae) (Ay _)) (by rfl)) (by trivial)))) (by trivial)) (@A5 _ _ _ _ (@M7 _ _ _ _ _ ("join") _ _ A4 (@Ab _ _ _ _ _ (@E5 _ _ _ _ (@Ab _ _ _ _ _ (@Bv _ _ _ _ _ _ _ _ _ N7 aX (by decide +kernel) (@Ba _ _ _ (dv 1) (by rfl)) (by trivial)) (@Ab _ _ _ _ _ (dv 6) (@Ab _ _ _ _ _ (@Eb _ _ _ _ _ _ _ Ht (@E5 _ _ _ _ (@Ab _ _ _ _ _ A4 (@Ab _ _ _ _ _ A4 (@Ab _ _ _ _ _ A4 Ai (by rfl)) (by rfl)) (by rfl))) (dv 4) (fun _ _=>rfl)) (@Ab _ _ _ _ _ (dv 7) Ai (by rfl)) (by rfl)) (by rfl)) (by rfl))) Ai (by rfl)) (by rfl) (by rfl) (by rfl) (by rfl) (by rfl)))))),?_⟩
  cases e'
  obtain ⟨d,x,y,h,s⟩:=g
  have lx:=Hf o.na
  have ly:=Hf o.nb
  have l3:=Sy o.d0 o.d1
  have l4:=Tv h
  have l5:(Str.ofString " ").length=1:=by decide +kernel
  have l6:(Str.ofString "*").length=1:=by decide +kernel
  have l7:Str.empty.length=0:=rfl
  have lx:x.length≤8:=lx
  have ly:y.length≤8:=ly
  have l3:(toString d:Str).length≤4:=l3
  have big:(1000:Nat)≤sizeLine:=by decide
  have e0:∀z:Str,z++Str.empty=z:=fun z=>Dg (by rw [Bp];exact CG _)
  have ej:∀ws:HW,Txt.join (Str.ofString " ") ws=Str.join ⟨#[32]⟩ ws:=fun ws=>Dg (Jx _ _)
  have s0:-1≤s:=o.s0
  have s1:s≤1:=o.s1
  have hs:s=1∨s=0∨s=-1:=by omega
  have fin:∀(u v:Str) (H1:Hp) (L1 L2:HR) (H2:Hp),u.length≤9→v.length≤9→Ag H H1→Ag H1 H2→Str.join ⟨#[32]⟩ [(toString d:Str),u,wd h,v]=N2 ⟨d,x,y,h,s⟩→H2 L2=some (.lst [.str (toString d:Str),.str u,.str (wd h),.str v])→Agu K (.str (Str.ofString " ")) [.ref L2] H2 Q:=fun u v H1 L1 L2 H2 lu lv t1 t2 e e2=>by
   refine ⟨[(toString d:Str),u,wd h,v],A1.of e2,?_,?_⟩
   ·rw [l5]
    simp only [BE,List.map_nil,List.sum_cons,List.sum_nil,AY,List.length_nil]
    omega
   ·rw [ej,e]
    exact k H2 (t1.trans t2)
  refine ⟨p,_,rfl,D7.of ep,rfl,_,_,rfl,_,_,rfl,_,_,rfl,_,_,rfl,_,_,rfl,rfl,?_⟩
  rcases hs with rfl|rfl|rfl
  ·refine ⟨by omega,.inr ⟨rfl,by omega,?_⟩⟩
   refine ⟨by omega,.inl ⟨rfl,by omega,?_⟩⟩
   refine ⟨rfl,X3 o.d0 o.d1,fun L1 H1 t1 f1=>⟨_,_,A1.of f1,Abx o.h0 o.h1,fun L2 H2 t2 f2=>fin (x++Str.ofString "*") (y++Str.empty) H1 L1 L2 H2 (by rw [Be];omega) (by rw [Be];omega) t1 t2 (by rw [e0];rfl) f2⟩⟩
  ·refine ⟨by omega,.inl ⟨rfl,by omega,?_⟩⟩
   refine ⟨by omega,.inl ⟨rfl,by omega,?_⟩⟩
   refine ⟨rfl,X3 o.d0 o.d1,fun L1 H1 t1 f1=>⟨_,_,A1.of f1,Abx o.h0 o.h1,fun L2 H2 t2 f2=>fin (x++Str.empty) (y++Str.empty) H1 L1 L2 H2 (by rw [Be];omega) (by rw [Be];omega) t1 t2 (by rw [e0,e0];rfl) f2⟩⟩
  ·refine ⟨by omega,.inl ⟨rfl,by omega,?_⟩⟩
   refine ⟨by omega,.inr ⟨rfl,by omega,?_⟩⟩
   refine ⟨rfl,X3 o.d0 o.d1,fun L1 H1 t1 f1=>⟨_,_,A1.of f1,Abx o.h0 o.h1,fun L2 H2 t2 f2=>fin (x++Str.empty) (y++Str.ofString "*") H1 L1 L2 H2 (by rw [Be];omega) (by rw [Be];omega) t1 t2 (by rw [e0];rfl) f2⟩⟩
theorem Al7 (x:Str):co (Str.ofString "put "++x)=co (Str.ofString "put")++32::co x:=by
 rw [Bp,show co (Str.ofString "put ")=co (Str.ofString "put")++[32] from by decide +kernel,CO]
 rfl
theorem Abw (x:Str):co (Str.ofString "take "++x)=co (Str.ofString "take")++32::co x:=by
 rw [Bp,show co (Str.ofString "take ")=co (Str.ofString "take")++[32] from by decide +kernel,CO]
 rfl
theorem Af6 {n:Int}(h:0≤n):32∉co (toString n:Str):=fun z=>by
 obtain ⟨m,rfl⟩:=Int.eq_ofNat_of_zero_le h
 have:=Yv m 32 z
 omega
theorem Aoc {n:Int}(h0:0≤n)(h1:n≤9999):F4 (toString n:Str)=true∧Ti (toString n:Str)=n:=by
 obtain ⟨m,rfl⟩:=Int.eq_ofNat_of_zero_le h0
 refine ⟨Aaz (by omega),?_⟩
 unfold Ti
 exact congrArg _ (Aep m)
theorem Pf {g:Gm}(o:GO g):(N2 g).length≤40:=by
 have lx:=Hf o.na
 have ly:=Hf o.nb
 have l1:=Nf g.a (decide (g.s=1))
 have l2:=Nf g.b (decide (g.s=-1))
 have l3:=Sy o.d0 o.d1
 have l4:=Tv g.h
 have e:=congrArg List.length (Af0 g)
 simp only [AM,AY,Bm] at e
 omega
def K8 (K:KKf)(ns:HX):Sp:=fun vs H Q _=>match vs with
 | [.ref Z,.str row]=>(∃(L A R:HR) (es:List En) (last:Int) (g:Gm) (nm:HW),row=Str.ofString "put "++N2 g∧(C7 K H Z L A R es last∧Ado nm es last∧es.length≤40∧nm.length≤20∧g.a∈nm∧g.b∈nm∧GO g∧0≤last∧last<1000∧Au H (Bn K) Bq Ek) ∧
   (Rk es g→∀H',Oy L A (Bn K) H H'→C7 K H' Z L A R (es++[(last+1,g)]) (last+1)→Au H' (Bn K) Bq Ek→Q (.str (toString (last+1))) H')∧(¬Rk es g→∀H',Ag H H'→Q (.str "no book") H')) ∨
  (∃(L A R:HR) (es:List En) (last n:Int),row=Str.ofString "take "++(toString n:Str)∧(C7 K H Z L A R es last∧(0≤n∧n≤9999)∧Og es∧es.length≤40∧(Gb (es.map (·.2))).length≤8∧Au H (Bn K) Bq Ek) ∧
   (∀g,(n,g)∈es→∀H',Oy L A (Bn K) H H'→C7 K H' Z L A R (wo es n) last→Au H' (Bn K) Bq Ek→Q (.str "ok") H')∧((∀e∈es,e.1≠n)→∀H',Ag H H'→Q (.str "no game") H'))
 |_=>False
theorem Eg:Ah ["_law_desk","_law_row_here","_law_told"] ["_law_desk","_law_row_here"] (Ac M8):=C5
include er in
theorem Ys (d:Bj K mg "_law_asked" M8 ["_law_desk","_law_row_here"])  (bI:C9 P w K mg base [aL] [] "say" ["self","row"] 14 (Ic K ns)):A9 P w K mg base "_law_asked" ["_law_desk","_law_row_here"] 15 (K8 K ns):=by
 refine d.cal (k:=14) Eg (fun vs H Q E hq0=>?_) (fun f cdv A outer s H vs Q E hr hq0=>?_)
 ·obtain ⟨_,_,rfl,_⟩:=Ad0 hq0
  rfl
 ·obtain ⟨Z,row,rfl,hh⟩:=Ad0 hq0
  refine ⟨_,(@Aa _ _ _ _ _ (@Ak _ _ _ (2) _ _ _ Eg.nd Anr (by trivial)) (@Ej _ _ _ _ _ (@Ajl _ _ _ _ _ _ _ ⟨rfl,rfl,rfl⟩ (fun σ0 p0 Eh=>(@Ar _ _ _ (@Ak _ _ _ (2) _ _ _ Eg.nd (@Ai7 _ _ _ _ _ _ _ _ _ _ _ _ _ _ _ (dv 0) (@Dq _ _ _ _ _ _ _ _ _ _ _ _ _ _ bI (List.Mem.head _) er.l_Desk (by decide) Fo) hr (@Ab _ _ _ _ _ (dv 1) Ai (by rfl)) (by rfl) (by rfl) (by rfl)) (by trivial)))) (Hs.cons (by rfl) er.b_NoBook er.x_NoBook.cat (fun v=>(@Ar _ _ _ (@Ak _ _ _ (2) _ _ _ Eg.nd A4 (by trivial)))) (by decide) (Hs.cons (by rfl) er.b_NoGame er.x_NoGame.cat (fun v=>(@Ar _ _ _ (@Ak _ _ _ (2) _ _ _ Eg.nd A4 (by trivial)))) (by decide) (Hs.cons (by rfl) er.b_LadderError er.x_LadderError.cat (fun v=>(@Ar _ _ _ (@Ak _ _ _ (2) _ _ _ Eg.nd A4 (by trivial)))) (by decide) Hs.nil)))) (@A5 _ _ _ _ (dv 2)))),?_⟩
  refine ⟨fun σ H'=>∃v,σ=[some (.ref Z),some (.str row),some v]∧Q v H',?_,?_⟩
  rotate_left
  ·rintro σ H' ⟨v,rfl,q⟩
   exact q
  have l5:(Str.ofString "put ").length=4:=by decide +kernel
  have l6:(Str.ofString "take ").length=5:=by decide +kernel
  rcases hh with ⟨L,A,R,es,last,g,nm,rfl,⟨dk0,ok,l40,l20,ga,gb,o,p0,p1,tk⟩,k,kr⟩|⟨L,A,R,es,last,n,rfl,⟨dk0,⟨n0,n1⟩,inc,l40,l8,tk⟩,k,kr⟩
  ·obtain ⟨dx,fs,dy,gs,eZ,f1,f2,eL,fd⟩:=dk0.get er.y_Desk er.y_Ledger
   have lw:=Pf o
   refine ⟨Z,_,dx,fs,_,rfl,eZ,.head _,f2,rfl,by rw [Be,l5];omega,.inl ⟨N2 g,Xy (Al7 _) (by decide +kernel),fun H1 s1=>⟨L,A,R,es,last,g,nm,⟨dk0.up s1,ok,l40,l20,ga,gb,rfl,o,p0,p1,tk.up s1⟩,fun fit H2 fr dk2 tk2=>⟨_,rfl,k fit H2 (fun b u n1 n2 n3 e=>fr b u n1 n2 n3 (s1 b u e)) dk2 tk2⟩,fun nf H2 s2 C hC=>?_⟩⟩⟩
   obtain rfl:=B7 hC er.y_NoBook
   exact ⟨_,rfl,true,er.km_NoBook_NoBook,.inl ⟨rfl,fun H3 s3=>⟨_,rfl,kr nf H3 (s1.trans (s2.trans s3))⟩⟩⟩
  ·obtain ⟨dx,fs,dy,gs,eZ,f1,f2,eL,fd⟩:=dk0.get er.y_Desk er.y_Ledger
   have ln:=Sy n0 n1
   obtain ⟨hd,hn⟩:=Aoc n0 n1
   have ep:=Xy (Abw (toString n:Str)) (by decide +kernel)
   have es2:Txt.split (Str.ofString "take "++(toString n:Str)) ⟨#[32]⟩=[Str.ofString "take",(toString n:Str)]:=Qm 32 (by simp) (fun p hp=>by
    rcases AU.mp hp with rfl|hp
    ·decide +kernel
    ·rw [AW.mp hp]
     exact Af6 n0) (by rw [Abw,Cm];rfl)
   refine ⟨Z,_,dx,fs,_,rfl,eZ,.head _,f2,rfl,by rw [Be,l6];omega,.inr ⟨.inl (by rw [ep]),fun W H1 s1 e1=>.inl ⟨(toString n:Str),by rw [e1,es2];rfl,⟨hd,by rw [hn];omega⟩,fun D H2 s2 e2=>?_⟩⟩⟩
   rw [hn] at e2
   have s12:=s1.trans s2
   refine ⟨L,A,R,es,last,n,⟨dk0.up s12,e2,inc,l40,l8,tk.up s12⟩,fun g hg H3 fr dk3 tk3=>⟨_,rfl,k g hg H3 (fun b u n1 n2 n3 e=>fr b u n1 n2 n3 (s12 b u e)) dk3 tk3⟩,fun no H3 s3 C hC=>?_⟩
   obtain rfl:=B7 hC er.y_NoGame
   exact ⟨_,rfl,false,er.kn_NoGame_NoBook,.inr ⟨rfl,true,er.km_NoGame_NoGame,.inl ⟨rfl,fun H4 s4=>⟨_,rfl,kr no H4 (s12.trans (s3.trans s4))⟩⟩⟩⟩
theorem Ads {n:Nat}{g:TG}{te:TE}{k:Nat}{js:IC}{σ:L2.St}{H1:Hp}{Q:VK}(R:Hp→Nat→V→Prop)(up:∀j y H H',Kt H H'→R H j y→R H' j y)(hz:n≤1000)
  (hs:∀i H2,i<n→Ag H1 H2→∀P:VK,(∀y H3,Ag H2 H3→R H3 i y→P y H3)→g (.int (0+(i:Int))) (List.replicate k none++capσ js σ) H2 fun σ2 H3=>σ2.drop k=capσ js σ∧te σ2 H3 P)
  (hq:∀D H' ys,Ag H1 H'→H1 D=none→H' D=some (.lst ys)→ys.length=n→(∀(j:Nat) y,ys[j]? =some y→R H' j y)→Q (.ref D) H'):Hr (Itr 0 n) g te k js σ H1 Q:=by
 unfold Hr
 intro D hD
 refine ⟨fun i m H=>m=n-i∧i≤n∧Ag H1 H∧∃ys,H D=some (.lst ys)∧ys.length=i∧∀(j:Nat) y,ys[j]? =some y→R H j y,⟨n,by simp,AV _,An hD,[],Ad,rfl,fun j y h=>by simp at h⟩,?_⟩
 rintro i m H ⟨rfl,hi,sm,ys,hH,ly,ar⟩
 by_cases hlt:i<n
 ·refine .inr ⟨hlt,fun x H' y=>?_⟩
  obtain ⟨rfl,rfl⟩:=y
  have yl:ys.length<sizeLine:=by
   rw [ly]
   exact AL hlt (AO hz (by decide))
  refine hs i _ hlt sm _ fun y H3 s3 r3=>⟨ys,s3 _ _ hH,yl,n-(i+1),by omega,rfl,hlt,Fc (sm.trans s3) hD,ys++[y],Ad,by rw [AM,ly];rfl,fun j z hz=>?_⟩
  have kt:Kt H3 (upd H3 D (.lst (ys++[y]))):=Na (s3 _ _ hH)
  by_cases hj:j<ys.length
  ·rw [CF hj] at hz
   exact up _ _ _ _ ((Bc s3).trans kt) (ar j z hz)
  ·have ej:j=i:=by
    have:=(BI.mp hz).1
    rw [AM,DP] at this
    omega
   subst ej
   rw [BN (by omega),ly,Nat.sub_self] at hz
   cases hz
   exact up _ _ _ _ kt r3
 ·have e:i=n:=by omega
  subst e
  exact .inl ⟨AF _,hq D _ ys sm hD hH ly ar⟩
theorem Mv {α β:Type}{R:α→β→Prop}:∀{l:List α} {m:List β},l.length=m.length→(∀(i:Nat) a b,l[i]? =some a→m[i]? =some b→R a b)→Ax R l m
 |[],[],_,_=>.nil
 |[],_::_,h,_=>by simp at h
 |_::_,[],h,_=>by simp at h
 |a::l,b::m,h,f=>.cons (f 0 a b rfl rfl) (Mv (by simpa using h) fun i x y hx hy=>f (i+1) x y (by simpa using hx) (by simpa using hy))
def Hc (K:KKf)(ns:HX):Sp:=K5 K ns
theorem U0:Ah ["_law_rows"] ["_law_rows"] (Ac Jl):=C5
include er aq eN in
theorem Vd (d:Bj K mg "_law_players" Jl ["_law_rows"]):A9 P w K mg base "_law_players" ["_law_rows"] 1 (Hc K ns):=by
 refine d.cal (k:=0) U0 (fun vs H Q E h=>?_) (fun f cdv A outer s H vs Q E hr h=>?_)
 ·match vs,h with
  |[.ref L],_=>rfl
 ·match vs,h with
  | [.ref L],hq0=>
   obtain ⟨gs,⟨⟨vs,hx,hm,hl⟩,h64⟩,k⟩:=hq0
   refine ⟨_,(@A5 _ _ _ _ (@Aab _ _ _ _ _ _ _ (by rfl) aq (by rfl) eN (@Al _ _ _ _ _ _ _ _ Kx (@B2 _ _ _ _ _ _ _ _ _ _ ["_law_row_here"] [] [] rfl (@Bw _ _ _ _ (dv 0)) (fun C s H fp=>(@Aq _ _ (0) _ (show List.Nodup [("_law_row_here":Str)] by decide +kernel) rfl (by trivial) (by trivial))) (fun C s H fp=>(@Bg _ _ _ _ _ _ _ (dv 0))) rfl rfl (by decide +kernel) (by decide +kernel) (by rfl) ⟨⟩ ⟨⟩ (by intro _;rfl)) (@B2 _ _ _ _ _ _ _ _ _ _ ["_law_row_here"] [] [] rfl (@Bw _ _ _ _ (dv 0)) (fun C s H fp=>(@Aq _ _ (0) _ (show List.Nodup [("_law_row_here":Str)] by decide +kernel) rfl (by trivial) (by trivial))) (fun C s H fp=>(@Bg _ _ _ _ _ _ _ (dv 0))) rfl rfl (by decide +kernel) (by decide +kernel) (by rfl) ⟨⟩ ⟨⟩ (by intro _;rfl))) (by rfl) (by rfl) (by rfl))),?_⟩
   have hz:vs.length≤1000:=by rw [hm.len];omega
   refine ⟨L,rfl,⟨_,hx⟩,Cb B4 Cr (fun _ g y=>y=V.str g.a) (fun _ _ _ _ _ h=>h) hz hx hm ?_ ?_⟩
   ·intro v m H2 hM _ s2 P hP
    obtain ⟨p,rfl,e⟩:=hM
    exact ⟨rfl,_,e,hP _ _ (Ag.refl _) rfl⟩
   intro D1 H1 ys1 s1 _ e1 a1
   have y1:=Gn a1
   have hm1:Ax (B4 H1) vs gs:=hm.imp fun v g r=>Cr v g _ _ (Bc s1) r
   refine ⟨L,rfl,⟨_,s1.seq hx⟩,Cb B4 Cr (fun _ g y=>y=V.str g.b) (fun _ _ _ _ _ h=>h) hz (s1.seq hx) hm1 ?_ ?_⟩
   ·intro v m H2 hM _ s2 P hP
    obtain ⟨p,rfl,e⟩:=hM
    exact ⟨rfl,_,e,hP _ _ (Ag.refl _) rfl⟩
   intro D2 H2 ys2 s2 _ e2 a2
   have y2:=Gn a2
   have l1:=a1.len
   have l2:=a2.len
   refine ⟨_,_,s2 _ _ e1,e2,by omega,fun D3 H3 s3 e3=>⟨gs.map (·.a)++gs.map (·.b),A1.of ?_,?_,h64,fun D hD=>?_⟩⟩
   ·rw [e3,y1,y2,CB]
   ·rw [AM,AE,AE]
    omega
   ·have s:=s1.trans (s2.trans s3)
    exact k D _ (s.trans (An hD)) (Cd s hD) Ad
def Ru (H:Hp)(v:V)(e:En):Prop:=∃t p,v=.ref t∧H t=some (.tup [.int e.1,.ref p])∧B4 H (.ref p) e.2
theorem Sr (v:V)(e:En)(H H':Hp)(k:Kt H H')(h:Ru H v e):Ru H' v e:=by
 obtain ⟨t,p,e1,h1,h2⟩:=h
 exact ⟨t,p,e1,k _ _ h1,Cr _ _ _ _ k h2⟩
def Hi (H:Hp)(T:HR)(es:List En):Prop:=∃vs,H T=some (.lst vs)∧Ax (Ru H) vs es
theorem Hi.up {H H':Hp}{T:HR}{es:List En}(s:Ag H H'):Hi H T es→Hi H' T es:=fun ⟨vs,h1,h2⟩=>⟨vs,s _ _ h1,h2.imp fun v e r=>Sr v e _ _ (Bc s) r⟩
theorem Afb (v:V)(q:Int×Int)(H H':Hp)(k:Kt H H')(h:X9 H v q):X9 H' v q:=by
 obtain ⟨p,e,h1⟩:=h
 exact ⟨p,e,k _ _ h1⟩
theorem Ap8 {es:List En}{p:IC}(l40:es.length≤40)(h:Jr (kP ((List.range es.length).map fun i=>(dk (es.map (·.2)) i,(i:Int)))) es.length p):Jr (dk (es.map (·.2))) es.length p:=by
 refine ⟨h.1,h.2.1,h.2.2.imp_of_mem fun {i j} hi hj z=>?_⟩
 have li:=h.2.1 i hi
 have lj:=h.2.1 j hj
 have e:∀i,i<es.length→kP ((List.range es.length).map fun i=>(dk (es.map (·.2)) i,(i:Int))) i=dk (es.map (·.2)) i*64+i:=fun i hi=>by
  unfold kP
  rw [BF,BJ,List.getElem?_range hi]
  rfl
 unfold Lt at z ⊢
 rw [e i li,e j lj] at z
 omega
theorem Abh {H:Hp}{gs:IE}:∀{p:IC} {ws:ID},Ax (fun i y=>∃g,gs[i]? =some g∧B4 H y g) p ws→Ax (B4 H) ws (pg gs p)
 |_,_,.nil=>.nil
 |_,_,.cons ⟨g,h1,h2⟩ t=>by
  unfold pg
  rw [List.filterMap_cons_some h1]
  exact .cons h2 (Abh t)
def Lk (K:KKf)(ns:HX):Sp:=fun vs H Q _=>match vs with
 |[.ref T]=>∃es,(Hi H T es∧es.length≤40)∧∀D ws H' p,Ag H H'→H' D=some (.lst ws)→Jr (dk (es.map (·.2))) (es.map (·.2)).length p→Ax (B4 H') ws (pg (es.map (·.2)) p)→Q (.ref D) H'
 |_=>False
theorem Ld:Ah ["_law_there","_law_keyed"] ["_law_there"] (Ac Iw):=C5
include er aq bP ak in
theorem Vz (d:Bj K mg "_law_by_days" Iw ["_law_there"]):A9 P w K mg base "_law_by_days" ["_law_there"] 1 (Lk K ns):=by
 refine d.cal (k:=0) Ld (fun vs H Q E hq0=>?_) (fun f cdv A outer s H vs Q E hr hq0=>?_)
 ·obtain ⟨_,rfl,_⟩:=Js hq0
  rfl
 ·obtain ⟨T,rfl,⟨es,⟨⟨vs,eT,al⟩,l40⟩,k⟩⟩:=Js hq0
  refine ⟨_,(@Aa _ _ _ _ _ (@Ak _ _ _ (1) _ _ _ Ld.nd (@Ao _ _ _ _ _ _ _ _ _ Ajd aq (by decide +kernel) (@Ba _ _ _ (@B2 _ _ _ _ _ _ _ _ _ _ ["_law_at"] ["_law_there"] [0] rfl (@R1 _ _ _ _ _ _ (by rfl) bP (@Ab _ _ _ _ _ (@Ao _ _ _ _ _ _ _ _ _ C4 ak (by decide +kernel) (@Ba _ _ _ (dv 0) (by rfl)) (by trivial)) Ai (by rfl)) (by rfl)) (fun C s H fp=>(@Aq _ _ (0) _ (show List.Nodup [("_law_at":Str),("_law_there":Str)] by decide +kernel) rfl (by trivial) (by trivial))) (fun C s H fp=>(@B8 _ _ _ _ _ (@Ab _ _ _ _ _ (@Bg _ _ _ _ _ _ _ (@Bg _ _ _ _ _ _ _ (@Eb _ _ _ _ _ _ _ (show IxR _ (Ajs K) from Ht) (dv 1) (dv 0) (fun _ _=>rfl)))) (@Ab _ _ _ _ _ (dv 0) Ai (by rfl)) (by rfl)))) rfl rfl (by decide +kernel) (by decide +kernel) (by rfl) ⟨rfl,⟨⟩⟩ ⟨⟨rfl,rfl,rfl,rfl⟩,⟨⟩⟩ (by intro _;rfl)) (by rfl)) (by trivial)) (by trivial)) (@A5 _ _ _ _ (@B2 _ _ _ _ _ _ _ _ _ _ ["_law_day","_law_at"] ["_law_there"] [0] rfl (@Bw _ _ _ _ (dv 1)) (fun C s H fp=>(show PG _ _ (Wy K 2 _) from Fi rfl (A3 (Aq (i:=0) (show List.Nodup [("_law_day":Str),("_law_at":Str),("_law_there":Str)] by decide +kernel) rfl (by trivial)) (A3 (Aq (i:=1) (show List.Nodup [("_law_day":Str),("_law_at":Str),("_law_there":Str)] by decide +kernel) rfl (by trivial)) Dt)))) (fun C s H fp=>(@Bg _ _ _ _ _ _ _ (@Eb _ _ _ _ _ _ _ (show IxR _ (Ajs K) from Ht) (dv 2) (dv 1) (fun _ _=>rfl)))) rfl rfl (by decide +kernel) (by decide +kernel) (by rfl) ⟨rfl,⟨⟩⟩ ⟨⟨rfl,rfl,rfl,rfl⟩,⟨⟩⟩ (by intro _;rfl)))),?_⟩
  have lv:vs.length=es.length:=al.len
  refine ⟨_,.inl (A1.of eT),?_⟩
  rw [lv]
  refine ⟨_,rfl,by omega,by omega,Ads (n:=es.length) (fun H j y=>X9 H y (dk (es.map fun e:En=>e.2) j,(j:Int))) (fun j y H H' kt h=>Afb _ _ _ _ kt h) (by omega) ?_ ?_⟩
  ·intro i H2 hi s2 P hP
   have hv:i<vs.length:=by omega
   obtain ⟨e,he,t,p,ev,h1,p',ep,h2⟩:=al.get (AD hv)
   cases ep
   have ed:dk (es.map (·.2)) i=e.2.d:=by
    unfold dk
    rw [BJ,he]
    rfl
   refine ⟨rfl,_,_,A1.of (s2 _ _ eT),(show Q4 vs (0+(i:Int))=some (.ref t) by rw [Int.zero_add,←ev];exact A2 (AD hv)),_,s2 _ _ h1,_,s2 _ _ h2,fun T' H3 s3 e3=>hP _ H3 s3 ⟨T',rfl,?_⟩⟩
   rw [e3,ed,Int.zero_add]
  intro D1 H1 ys s1 n1 e1 ly ar
  have lr:((List.range es.length).map fun i=>(dk (es.map (·.2)) i,(i:Int))).length=es.length:=by rw [AE,DR]
  have pa:Ax (X9 H1) ys ((List.range es.length).map fun i=>(dk (es.map (·.2)) i,(i:Int))):=Mv (by rw [ly,lr]) fun i a b ha hb=>by
   rw [BJ] at hb
   have hi:i<es.length:=by
    have:=(BI.mp ha).1
    omega
   rw [List.getElem?_range hi] at hb
   cases hb
   exact ar i a ha
  refine ⟨ys,_,A1.of e1,pa,by rw [lr];omega,fun q hq=>?_,fun D2 p nD stb=>?_⟩
  ·obtain ⟨i,hi,rfl⟩:=BG.mp hq
   have:=BZ.mp hi
   exact ⟨Int.natCast_nonneg _,by show (i:Int)<64;omega⟩
  rw [lr] at stb
  have stb':=Ap8 l40 stb
  have s2:Ag H1 (upd H1 D2 (.lst (p.map fun i=>ys.getD i .non))):=An nD
  have e2:upd H1 D2 (.lst (p.map fun i=>ys.getD i .non)) D2=some (.lst (p.map fun i=>ys.getD i .non)):=Ad
  generalize upd H1 D2 (.lst (p.map fun i=>ys.getD i .non))=H2 at s2 e2
  have a2:Ax (fun v i=>X9 H2 v (dk (es.map (·.2)) i,(i:Int))∧i<es.length) (p.map fun i=>ys.getD i .non) p:=Mv (by rw [AE]) fun i a b ha hb=>by
   rw [BJ,hb] at ha
   cases ha
   have hb':=stb.2.1 b (BH hb)
   refine ⟨Afb _ _ _ _ (Bc s2) (ar b _ ?_),hb'⟩
   show ys[b]? =some (ys.getD b .non)
   rw [BF,AD (by omega)]
   rfl
  refine ⟨D2,rfl,⟨_,A1.of e2⟩,Cb (fun H v i=>X9 H v (dk (es.map fun e:En=>e.2) i,(i:Int))∧i<es.length) (fun v i H H' kt h=>⟨Afb _ _ _ _ kt h.1,h.2⟩) (fun H i y=>∃g,(es.map (·.2))[i]? =some g∧B4 H y g) (fun i y H H' kt ⟨g,h1,h2⟩=>⟨g,h1,Cr _ _ _ _ kt h2⟩) (by rw [AE,stb.1];omega) (A1.of e2) a2 ?_ ?_⟩
  ·intro v i H3 hM _ s3 P hP
   obtain ⟨⟨q,rfl,hq⟩,hi⟩:=hM
   have hv:i<vs.length:=by omega
   obtain ⟨e,he,t,p,ev,h1,p',ep,h2⟩:=al.get (AD hv)
   cases ep
   have s03:=s1.trans (s2.trans s3)
   exact ⟨q,_,rfl,D7.of hq,rfl,_,_,rfl,_,_,rfl,rfl,rfl,_,_,A1.of (s03 _ _ eT),(show Q4 vs (i:Int)=some (.ref t) by rw [←ev];exact A2 (AD hv)),_,s03 _ _ h1,hP _ _ (Ag.refl _) ⟨e.2,by rw [BJ,he];rfl,p,rfl,s03 _ _ h2⟩⟩
  ·intro D3 H3 ws s3 _ e3 a3
   exact k D3 ws H3 p (s1.trans (s2.trans s3)) e3 (by rw [AE];exact stb') (Abh a3)
theorem Oy.same {L A T:HR}{H H1 H2:Hp}(f:Oy L A T H H1)(s:Ag H1 H2):Oy L A T H H2:=fun b o n1 n2 n3 e=>s b o (f b o n1 n2 n3 e)
theorem Oy.pre {L A T:HR}{H H1 H2:Hp}(s:Ag H H1)(f:Oy L A T H1 H2):Oy L A T H H2:=fun b o n1 n2 n3 e=>f b o n1 n2 n3 (s b o e)
theorem Hi.fr {K:KKf}{L A R T:HR}{H H':Hp}{es es':List En}{last:Int}{pos:Pos}{q:Str}{P:HR}(f:Oy L A T H H')(lg:Ft K H L A R es last)(tk:Au H T pos q)(h:Hi H P es'):Hi H' P es':=by
 obtain ⟨h1,h2⟩:=Pa f lg tk
 obtain ⟨vs,e,al⟩:=h
 exact ⟨vs,h1 _ _ e,al.imp fun v x r=>Sr v x _ _ h2 r⟩
theorem Ab5 {H:Hp}:∀{es:List En} {ws:ID},Ax (fun e y=>B4 H y (e:En).2) es ws→Ax (B4 H) ws (es.map (·.2))
 |_,_,.nil=>.nil
 |_,_,.cons h t=>.cons h (Ab5 t)
structure Rm (nm:HW)(es:List En)(c:Int):Prop where
 e:Ado nm es c
 l:es.length≤40
 n:nm.length≤20
 g:∀x∈es,GO x.2
 p:(Gb (es.map (·.2))).length≤8
 c0:0≤c
 c1:c<1000
 z:∀x∈es,1≤x.1
def Xe (K:KKf)(ns:HX):Sp:=fun vs H Q _=>match vs with
 | [.ref Z,.ref T,.int c,y]=>∃(L A R:HR) (es:List En) (g:Gm) (nm:HW),(C7 K H Z L A R es c∧Hi H T es∧Rm nm es c∧B4 H y g∧g.a∈nm∧g.b∈nm∧GO g∧Au H (Bn K) Bq Ek) ∧
   ∀r T' H' es' c',Oy L A (Bn K) H H'→H' r=some (.tup [.ref T',.int c',.bl true])→C7 K H' Z L A R es' c'→Hi H' T' es'→(es'=es∧c'=c∨Rk es g∧es'=es++[(c+1,g)]∧c'=c+1)→Au H' (Bn K) Bq Ek→Q (.ref r) H'
 |_=>False
theorem Aea {vs:ID}{F:HR→HR→Int→V→Prop}(h:match vs with|[.ref x0,.ref x1,.int x2,x3]=>F x0 x1 x2 x3|_=>False):∃x0 x1 x2 x3,vs=[.ref x0,.ref x1,.int x2,x3]∧F x0 x1 x2 x3:=by
 match vs,h with
 |[.ref x0,.ref x1,.int x2,x3],h=>exact ⟨_,_,_,_,rfl,h⟩
theorem Qy:Ah ["_law_desk","_law_there","_law_count","_law_row_here","_law_found","_law_rows"] ["_law_desk","_law_there","_law_count","_law_row_here"] (Ac Tj):=C5
include er aX ak in
theorem Agi (d:Bj K mg "_law_put" Tj ["_law_desk","_law_there","_law_count","_law_row_here"])  (bJ:A9 P w K mg base "_law_players" ["_law_rows"] 1 (Hc K ns))(cR:A9 P w K mg base "_law_asked" ["_law_desk","_law_row_here"] 15 (K8 K ns))(bK:A9 P w K mg base "_law_written" ["_law_row_here"] 1 (Hj K ns)):A9 P w K mg base "_law_put" ["_law_desk","_law_there","_law_count","_law_row_here"] 16 (Xe K ns):=by
 refine d.cal (k:=15) Qy (fun vs H Q E hq0=>?_) (fun f cdv A outer s H vs Q E hr hq0=>?_)
 ·obtain ⟨_,_,_,_,rfl,_⟩:=Aea hq0
  rfl
 ·obtain ⟨Z,T,c,y,rfl,⟨L,A,R,es,g,nm,⟨dk0,th,ok,gm,ga,gb,o,tk⟩,k⟩⟩:=Aea hq0
  refine ⟨_,(@Ej _ _ _ _ _ (@Ak _ _ _ (4) _ _ _ Qy.nd (@Af _ _ _ _ _ _ _ _ _ _ _ cR hr (@Aj _ _ _ _ _ (dv 0) (@Ba _ _ _ (@Al _ _ _ _ _ _ _ _ Cv A4 (@Af _ _ _ _ _ _ _ _ _ _ _ bK hr (@Ba _ _ _ (dv 3) (by rfl)) (by trivial))) (by rfl)) (by rfl)) (by trivial)) (by trivial)) (@Aa _ _ _ _ _ (@Ak _ _ _ (5) _ _ _ Qy.nd (@Al _ _ _ _ _ _ _ _ Kx (@B2 _ _ _ _ _ _ _ _ _ _ ["_law_number","_law_one"] [] [] rfl (@Bw _ _ _ _ (dv 1)) (fun C s H fp=>(show PG _ _ (Wy K 2 _) from Fi rfl (A3 (Aq (i:=0) (show List.Nodup [("_law_number":Str),("_law_one":Str)] by decide +kernel) rfl (by trivial)) (A3 (Aq (i:=1) (show List.Nodup [("_law_number":Str),("_law_one":Str)] by decide +kernel) rfl (by trivial)) Dt)))) (fun C s H fp=>(dv 1)) rfl rfl (by decide +kernel) (by decide +kernel) (by rfl) ⟨⟩ ⟨⟩ (by intro _;rfl)) (@E5 _ _ _ _ (@Ab _ _ _ _ _ (dv 3) Ai (by rfl)))) (by trivial)) (@Aa _ _ _ _ _ (@B6 _ _ _ _ _ _ _ _ (@L2.PW.pt _ _ _ (@Os _ _ _ _ _ _ _ (@Bl _ _ _ _ _ _ _ _ Afp (@Ao _ _ _ _ _ _ _ _ _ C4 ak (by decide +kernel) (@Ba _ _ _ (dv 5) (by rfl)) (by trivial)) Ae (Ay _)) (@F8 _ _ _ _ (@Bl _ _ _ _ _ _ _ _ Afp (@Ao _ _ _ _ _ _ _ _ _ C4 ak (by decide +kernel) (@Ba _ _ _ (@Af _ _ _ _ _ _ _ _ _ _ _ bJ hr (@Ba _ _ _ (dv 5) (by rfl)) (by trivial)) (by rfl)) (by trivial)) Ae (Ay _))))) (@A5 _ _ _ _ (@B8 _ _ _ _ _ (@Ab _ _ _ _ _ (dv 1) (@Ab _ _ _ _ _ (dv 2) (@Ab _ _ _ _ _ (@Ck _ _ _ _ _ _ _ _ Gu (dv 4) A4 (Ay _)) Ai (by rfl)) (by rfl)) (by rfl)))) Av) (@A5 _ _ _ _ (@B8 _ _ _ _ _ (@Ab _ _ _ _ _ (@Al _ _ _ _ _ _ _ _ Kx (dv 1) (@E5 _ _ _ _ (@Ab _ _ _ _ _ (@B8 _ _ _ _ _ (@Ab _ _ _ _ _ (@Al _ _ _ _ _ _ _ _ F2 (dv 2) Ae) (@Ab _ _ _ _ _ (dv 3) Ai (by rfl)) (by rfl))) Ai (by rfl)))) (@Ab _ _ _ _ _ (@Al _ _ _ _ _ _ _ _ F2 (dv 2) Ae) (@Ab _ _ _ _ _ (@Ck _ _ _ _ _ _ _ _ Gu (dv 4) (@Bv _ _ _ _ _ _ _ _ _ N7 aX (by decide +kernel) (@Ba _ _ _ (@Al _ _ _ _ _ _ _ _ F2 (dv 2) Ae) (by rfl)) (by trivial)) (Ay _)) Ai (by rfl)) (by rfl)) (by rfl))))))),?_⟩
  obtain ⟨p,rfl,ep⟩:=gm
  refine ⟨fun σ H'=>∃fv:Str,σ=[some (.ref Z),some (.ref T),some (.int c),some (.ref p),some (.str fv),none]∧Oy L A (Bn K) H H'∧Au H' (Bn K) Bq Ek∧(Rk es g→C7 K H' Z L A R (es++[(c+1,g)]) (c+1)∧fv=(toString (c+1):Str))∧(¬Rk es g→C7 K H' Z L A R es c∧fv=Str.ofString "no book"),?_,?_⟩
  ·refine ⟨g,⟨⟨p,rfl,ep⟩,o⟩,fun H1 s1=>?_⟩
   have lw:=Pf o
   have l5:(Str.ofString "put ").length=4:=by decide +kernel
   have big:(1000:Nat)≤sizeLine:=by decide
   refine ⟨by omega,.inl ⟨L,A,R,es,c,g,nm,rfl,⟨dk0.up s1,ok.e,ok.l,ok.n,ga,gb,o,ok.c0,ok.c1,tk.up s1⟩,fun fit H2 fr dk2 tk2=>⟨_,rfl,Oy.pre s1 fr,tk2,fun _=>⟨dk2,rfl⟩,fun n=>absurd fit n⟩,fun nf H2 s2=>⟨_,rfl,fun b u _ _ _ e=>(s1.trans s2) b u e,tk.up (s1.trans s2),fun f=>absurd f nf,fun _=>⟨dk0.up (s1.trans s2),rfl⟩⟩⟩⟩
  rintro σ H2 ⟨fv,rfl,fr,tk2,kf,kn⟩
  obtain ⟨vs,eT,al⟩:=th.fr fr dk0.2.2 tk
  have ep2:=(Pa fr dk0.2.2 tk).2 _ _ ep
  have lv:vs.length=es.length:=al.len
  have l40:=ok.l
  refine ⟨T,rfl,⟨_,A1.of eT⟩,Cb Ru Sr (fun H e y=>B4 H y (e:En).2) (fun e y H H' kt h=>Cr _ _ _ _ kt h) (by omega) (A1.of eT) al ?_ ?_⟩
  ·intro v e H3 hM _ s3 P hP
   obtain ⟨t,q,rfl,h1,h2⟩:=hM
   exact ⟨t,_,rfl,D7.of h1,rfl,_,_,rfl,_,_,rfl,rfl,rfl,hP _ _ (Ag.refl _) h2⟩
  intro D H3 ws s3 _ e3 a3
  have a3:=Ab5 a3
  have lw:ws.length=es.length:=by rw [a3.len,AE]
  refine fun D2 H4 s4 e4=>⟨_,_,s4 _ _ e3,e4,by rw [lw];show es.length+1≤1000;omega,fun D3 H5 s5 e5=>?_⟩
  have s25:=s3.trans (s4.trans s5)
  have a5:Ax (B4 H5) (ws++[.ref p]) (es.map (·.2)++[g]):=(a3.imp fun v x r=>Cr v x _ _ (Bc (s4.trans s5)) r).snoc ⟨p,rfl,s25 _ _ ep2⟩
  have p60:(Gb (es.map (·.2)++[g])).length<60:=by
   refine BO (G3 (Fb (Cz _)) (m:=nm) fun x hx=>Acn (nm:=nm) (fun h hh=>?_) hx) (BO ok.n (by decide))
   rcases BV.mp hh with hh|hh
   ·obtain ⟨e,he,rfl⟩:=BG.mp hh
    exact ok.e.mem e he
   ·rw [AW.mp hh]
    exact ⟨ga,gb⟩
  have lT:(ws++[V.ref p]).length=es.length+1:=by rw [AM,lw];rfl
  have fr5:=fr.same s25
  have th5:Hi H5 T es:=Hi.up s25 ⟨vs,eT,al⟩
  have no:¬Rk es g→∀H6,Ag H5 H6→∀r H7,Ag H6 H7→H7 r=some (.tup [.ref T,.int c,.bl (decide (fv=Str.ofString "no book"))])→Q (.ref r) H7:=fun nf H6 s6 r H7 s7 e7=>by
   obtain ⟨d2,e2⟩:=kn nf
   rw [AQ e2] at e7
   exact k r T H7 es c (fr5.same (s6.trans s7)) e7 (d2.up (s25.trans (s6.trans s7))) (th5.up (s6.trans s7)) (.inl ⟨rfl,rfl⟩) (tk2.up (s25.trans (s6.trans s7)))
  refine ⟨_,.inl (A1.of e5),?_⟩
  rw [lT]
  refine ⟨fun h1=>⟨fun _ r H6 s6 e6=>?_,fun h=>nb h⟩,fun h1=>?_⟩
  ·have h1:(40:Int)<((es.length+1:Nat):Int):=AZ h1
   exact no (fun f=>by have:=f.1;omega) H5 (Ag.refl _) r H6 s6 e6
  have h1:¬(40:Int)<((es.length+1:Nat):Int):=BM h1
  refine ⟨es.map (·.2)++[g],⟨⟨_,A1.of e5,a5,by rw [AM,AE];show es.length+1≤100;omega⟩,by omega⟩,fun D4 H6 s6 _ e6=>⟨_,.inl (A1.of e6),?_⟩⟩
  rw [AE]
  refine ⟨fun h2 r H7 s7 e7=>?_,fun h2=>?_⟩
  ·have h2:(8:Int)<((Gb (es.map (·.2)++[g])).length:Int):=AZ h2
   exact no (fun f=>by have:=f.2;omega) H6 s6 r H7 s7 e7
  have h2:¬(8:Int)<((Gb (es.map (·.2)++[g])).length:Int):=BM h2
  have fit:Rk es g:=⟨by omega,by omega⟩
  obtain ⟨d2,ef⟩:=kf fit
  have c0:=ok.c0
  have c1:=ok.c1
  refine fun t H7 s7 e7=>fun l H8 s8 e8=>?_
  obtain ⟨vs8,eT8,al8⟩:=th5.up (s6.trans (s7.trans s8))
  have l8:vs8.length=es.length:=al8.len
  refine ⟨_,_,eT8,e8,by rw [l8];show es.length+1≤1000;omega,fun D5 H9 s9 e9=>⟨Akf (by omega) (by omega),fun r H10 s10 e10=>?_⟩⟩
  have sx:Ag H5 H10:=s6.trans (s7.trans (s8.trans (s9.trans s10)))
  have s810:=s9.trans s10
  rw [ef,AQ rfl] at e10
  refine k r D5 H10 _ _ (fr5.same sx) e10 (d2.up (s25.trans sx)) ⟨_,s10 _ _ e9,(al8.imp fun v x r=>Sr v x _ _ (Bc s810) r).snoc ⟨t,p,rfl,(s8.trans s810) _ _ e7,p,rfl,(s25.trans sx) _ _ ep2⟩⟩ (.inr ⟨fit,rfl,rfl⟩) (tk2.up (s25.trans sx))
theorem Acg {H:Hp}:∀{es:List En} {ws:ID},Ax (fun e y=>Ru H y (e:En)) es ws→Ax (Ru H) ws es
 |_,_,.nil=>.nil
 |_,_,.cons h t=>.cons h (Acg t)
theorem Aae {es:List En}{n:Int}(h:∀e∈es,e.1≠n):wo es n=es:=List.filter_eq_self.mpr fun e he=>AQ (h e he)
theorem Ao5 {es:List En}{n:Int}{g:Gm}(h:(n,g)∈es):(wo es n).length<es.length:=by
 have le:(wo es n).length≤es.length:=DA _ _
 rcases Nat.lt_or_ge (wo es n).length es.length with z|z
 ·exact z
 ·have:=List.length_filter_eq_length_iff.mp (Nat.le_antisymm le z) _ h
  exact absurd rfl (AZ this)
def P8 (K:KKf)(ns:HX):Sp:=fun vs H Q _=>match vs with
 | [.ref Z,.ref T,.int c,.int z]=>∃(L A R:HR) (es:List En) (nm:HW),(C7 K H Z L A R es c∧Hi H T es∧Rm nm es c∧Au H (Bn K) Bq Ek) ∧
   ∀r T' H' n,Oy L A (Bn K) H H'→H' r=some (.tup [.ref T',.int c,.bl true])→C7 K H' Z L A R (wo es n) c→Hi H' T' (wo es n)→Au H' (Bn K) Bq Ek→Q (.ref r) H'
 |_=>False
theorem Af2 {vs:ID}{F:HR→HR→Int→Int→Prop}(h:match vs with|[.ref x0,.ref x1,.int x2,.int x3]=>F x0 x1 x2 x3|_=>False):∃x0 x1 x2 x3,vs=[.ref x0,.ref x1,.int x2,.int x3]∧F x0 x1 x2 x3:=by
 match vs,h with
 |[.ref x0,.ref x1,.int x2,.int x3],h=>exact ⟨_,_,_,_,rfl,h⟩
theorem Fs:Ah ["_law_desk","_law_there","_law_count","_law_cell","_law_number","_law_found","_law_rest"] ["_law_desk","_law_there","_law_count","_law_cell"] (Ac Mo):=C5
include er ak aX in
theorem Y5 (d:Bj K mg "_law_taken" Mo ["_law_desk","_law_there","_law_count","_law_cell"])  (cR:A9 P w K mg base "_law_asked" ["_law_desk","_law_row_here"] 15 (K8 K ns)):A9 P w K mg base "_law_taken" ["_law_desk","_law_there","_law_count","_law_cell"] 16 (P8 K ns):=by
 refine d.cal (k:=15) Fs (fun vs H Q E hq0=>?_) (fun f cdv A outer s H vs Q E hr hq0=>?_)
 ·obtain ⟨_,_,_,_,rfl,_⟩:=Af2 hq0
  rfl
 ·obtain ⟨Z,T,c,z,rfl,⟨L,A,R,es,nm,⟨dk0,th,ok,tk⟩,k⟩⟩:=Af2 hq0
  refine ⟨_,(@Aa _ _ _ _ _ (@Ak _ _ _ (4) _ _ _ Fs.nd (@Al _ _ _ _ _ _ _ _ Er (@Al _ _ _ _ _ _ _ _ Hm (dv 3) Ae) Ae) (by trivial)) (@Ej _ _ _ _ _ (@B6 _ _ _ _ _ _ _ _ (@L2.PW.pt _ _ _ (@Xu _ _ _ _ _ _ _ (@Bl _ _ _ _ _ _ _ _ Gu (@Al _ _ _ _ _ _ _ _ Er (@Al _ _ _ _ _ _ _ _ Hm (dv 3) Ae) Ae) Ae (Ay _)) (@Mg _ _ _ _ (@Bl _ _ _ _ _ _ _ _ Afp (@Ao _ _ _ _ _ _ _ _ _ C4 ak (by decide +kernel) (@Ba _ _ _ (dv 1) (by rfl)) (by trivial)) Ae (Ay _))))) (@Ar _ _ _ (@Ak _ _ _ (4) _ _ _ Fs.nd (@Bg _ _ _ _ _ _ _ (@Eb _ _ _ _ _ _ _ Ht (dv 1) (@Al _ _ _ _ _ _ _ _ Er (@Al _ _ _ _ _ _ _ _ Hm (dv 3) Ae) (@Ao _ _ _ _ _ _ _ _ _ C4 ak (by decide +kernel) (@Ba _ _ _ (dv 1) (by rfl)) (by trivial))) (fun _ _=>rfl))) (by trivial))) Av) (@Ej _ _ _ _ _ (@Ak _ _ _ (5) _ _ _ Fs.nd (@Af _ _ _ _ _ _ _ _ _ _ _ cR hr (@Aj _ _ _ _ _ (dv 0) (@Ba _ _ _ (@Al _ _ _ _ _ _ _ _ Cv A4 (@Bv _ _ _ _ _ _ _ _ _ N7 aX (by decide +kernel) (@Ba _ _ _ (dv 4) (by rfl)) (by trivial))) (by rfl)) (by rfl)) (by trivial)) (by trivial)) (@Aa _ _ _ _ _ (@Sz _ _ _ _ _ _ _ _ _ (6) _ _ _ _ _ _ ["_law_pair"] ["_law_number"] [4] rfl (@Bw _ _ _ _ (dv 1)) (fun C s H fp=>(@Aq _ _ (0) _ (show List.Nodup [("_law_pair":Str),("_law_number":Str)] by decide +kernel) rfl (by trivial) (by trivial))) (fun C s H fp=>(@Bl _ _ _ _ _ _ _ _ Ad5 (@Bg _ _ _ _ _ _ _ (dv 0)) (dv 1) (Ay _))) (fun C s H fp=>(dv 0)) rfl rfl (by decide +kernel) (by decide +kernel) (by rfl) ⟨rfl,⟨⟩⟩ ⟨⟨rfl,rfl,rfl,rfl⟩,⟨⟩⟩ Fs.nd rfl rfl (by intro _;rfl) (by rfl)) (@Aa _ _ _ _ _ (@B6 _ _ _ _ _ _ _ _ (@Bl _ _ _ _ _ _ _ _ Gu (@Ao _ _ _ _ _ _ _ _ _ C4 ak (by decide +kernel) (@Ba _ _ _ (dv 6) (by rfl)) (by trivial)) (@Ao _ _ _ _ _ _ _ _ _ C4 ak (by decide +kernel) (@Ba _ _ _ (dv 1) (by rfl)) (by trivial)) (Ay _)) (@A5 _ _ _ _ (@B8 _ _ _ _ _ (@Ab _ _ _ _ _ (dv 1) (@Ab _ _ _ _ _ (dv 2) (@Ab _ _ _ _ _ (@Ck _ _ _ _ _ _ _ _ Gu (dv 5) A4 (Ay _)) Ai (by rfl)) (by rfl)) (by rfl)))) Av) (@A5 _ _ _ _ (@B8 _ _ _ _ _ (@Ab _ _ _ _ _ (dv 6) (@Ab _ _ _ _ _ (dv 2) (@Ab _ _ _ _ _ (@Ck _ _ _ _ _ _ _ _ Gu (dv 5) A4 (Ay _)) Ai (by rfl)) (by rfl)) (by rfl))))))))),?_⟩
  obtain ⟨vs0,eT0,al0⟩:=id th
  have lv0:vs0.length=es.length:=al0.len
  have c1:=ok.c1
  refine ⟨⟨by decide,A0 rfl⟩,(by show (0:Int)<61;decide),?_⟩
  refine ⟨fun σ H'=>∃n:Int,σ=[some (.ref Z),some (.ref T),some (.int c),some (.int z),some (.int n),none,none]∧H'=H∧0≤n∧n≤9999,?_,?_⟩
  ·refine ⟨⟨by decide,A0 rfl⟩,(by show (0:Int)<2;decide),⟨fun _=>⟨_,.inl (A1.of eT0),⟨fun h=>?_,fun _=>⟨_,rfl,rfl,by show 0≤z / 8 % 61;omega,by show z / 8 % 61≤9999;omega⟩⟩⟩,fun _=>⟨fun h=>nb h,fun _=>⟨_,rfl,rfl,by show 0≤z / 8 % 61;omega,by show z / 8 % 61≤9999;omega⟩⟩⟩⟩
   have h:(0:Int)<(vs0.length:Int):=AZ h
   have a0:=CZ (z / 8) (show (vs0.length:Int)≠0 by omega)
   have a1:=Int.emod_lt_of_pos (z / 8) h
   obtain ⟨j,hj⟩:=Int.eq_ofNat_of_zero_le a0
   have jl:j<vs0.length:=by omega
   obtain ⟨e,he,t,p,ev,h1,h2⟩:=al0.get (AD jl)
   have me:=BH he
   have e1:=ok.z e me
   have e2:=ok.e.le e me
   refine ⟨⟨by decide,A0 rfl⟩,_,.inl (A1.of eT0),h,_,_,A1.of eT0,(show Q4 vs0 (z / 8 % vs0.length)=some (.ref t) by rw [hj,←ev];exact A2 (AD jl)),_,h1,⟨_,rfl,rfl,by omega,by omega⟩⟩
  rintro σ H0 ⟨n,rfl,rfl,n0,n1⟩
  refine ⟨fun σ H'=>∃fv:Str,σ=[some (.ref Z),some (.ref T),some (.int c),some (.int z),some (.int n),some (.str fv),none]∧Oy L A (Bn K) H0 H'∧Au H' (Bn K) Bq Ek∧C7 K H' Z L A R (wo es n) c∧((∀e∈es,e.1≠n)→fv=Str.ofString "no game")∧(∀g,(n,g)∈es→fv=Str.ofString "ok"),?_,?_⟩
  ·have ln:=Sy n0 n1
   have l6:(Str.ofString "take ").length=5:=by decide +kernel
   have big:(1000:Nat)≤sizeLine:=by decide
   refine ⟨X3 n0 n1,by omega,.inr ⟨L,A,R,es,c,n,rfl,⟨dk0,⟨n0,n1⟩,ok.e.inc,ok.l,ok.p,tk⟩,fun g hg H2 fr dk2 tk2=>⟨_,rfl,fr,tk2,dk2,fun no=>absurd rfl (no _ hg),fun _ _=>rfl⟩,fun no H2 s2=>⟨_,rfl,fun b u _ _ _ e=>s2 b u e,tk.up s2,by rw [Aae no];exact dk0.up s2,fun _=>rfl,fun g hg=>absurd rfl (no _ hg)⟩⟩⟩
  rintro σ H2 ⟨fv,rfl,fr,tk2,dk2,fn,fo⟩
  obtain ⟨vs,eT,al⟩:=th.fr fr dk0.2.2 tk
  have lv:vs.length=es.length:=al.len
  have l40:=ok.l
  refine ⟨T,rfl,⟨_,A1.of eT⟩,R4 Ru Sr (fun H e y=>Ru H y (e:En)) (fun e y H H' kt h=>Sr _ _ _ _ kt h) (fun e:En=>decide (e.1≠n)) (by omega) (A1.of eT) al ?_ ?_⟩
  ·intro v e H3 hM _ s3 P P' hP hP'
   obtain ⟨t,q,rfl,h1,h2⟩:=hM
   exact ⟨rfl,_,h1,⟨fun h=>hP (by simpa using h) _ _ (Ag.refl _) ⟨t,q,rfl,h1,h2⟩,fun h=>hP' (by simpa using h) _ (Ag.refl _)⟩⟩
  intro D H3 ws s3 _ e3 a3
  have a3:Ax (Ru H3) ws (wo es n):=Acg a3
  have lw:ws.length=(wo es n).length:=a3.len
  have fr3:=fr.same s3
  have th3:Hi H3 T es:=Hi.up s3 ⟨vs,eT,al⟩
  refine ⟨_,.inl (A1.of e3),_,.inl (A1.of (s3 _ _ eT)),⟨fun h r H4 s4 e4=>?_,fun h r H4 s4 e4=>?_⟩⟩
  ·have h:(ws.length:Int)=(vs.length:Int):=AZ h
   have no:∀e∈es,e.1≠n:=fun e he z=>by
    have:=Ao5 (es:=es) (n:=n) (g:=e.2) (by rw [←z];exact he)
    omega
   rw [fn no,AQ rfl] at e4
   exact k r T H4 n (fr3.same s4) e4 (dk2.up (s3.trans s4)) (by rw [Aae no];exact th3.up s4) (tk2.up (s3.trans s4))
  ·have h:¬(ws.length:Int)=(vs.length:Int):=BM h
   have yes:∃g,(n,g)∈es:=GH fun z=>h (by
    rw [lw,lv,Aae fun e he q=>z ⟨e.2,by rw [←q];exact he⟩])
   obtain ⟨g,hg⟩:=yes
   rw [fo g hg,AQ rfl] at e4
   exact k r D H4 n (fr3.same s4) e4 (dk2.up (s3.trans s4)) (Hi.up s4 ⟨ws,e3,a3⟩) (tk2.up (s3.trans s4))
def zz (q:Q2):Int:=5*q.1 / q.2
theorem Akc {q:Q2}{z:Int}(p:0<q.2)(e:5*q.1=z*q.2):zz q=z:=by
 unfold zz
 rw [e,Int.mul_ediv_cancel _ (by omega)]
theorem F5.zz {M:Int}{q:Q2}(h:F5 M q):5*q.1=zz q*q.2∧-M≤zz q∧zz q≤M:=by
 obtain ⟨z,a,b,c⟩:=h.z
 rw [Akc h.pos c]
 exact ⟨c,a,b⟩
theorem Ak3 {t b z:Int}(hb:0<b)(e:5*t=z*b):zz (Qz t b,Oj t b)=z:=by
 have h:=Hu (M:=z.natAbs) hb (by omega) (by omega) e
 obtain ⟨w,_,_,c⟩:=h.z
 have h2:=W3 t b
 refine Akc h.pos ?_
 apply Int.eq_of_mul_eq_mul_right (show b≠0 by omega)
 show 5*Qz t b*b=z*Oj t b*b
 rw [BD,h2,←BD,e,BD,EE b,←BD]
theorem Aq8 {M N:Int}{x y:Q2}(h:F5 M x)(k:F5 N y):zz (plQ x y)=zz x+zz y:=by
 refine Ak3 (EC h.pos k.pos) ?_
 rw [Int.mul_add,←BD,h.zz.1,←BD,k.zz.1,Int.add_mul,BD,BD,EE y.2]
theorem Ao9 {M N:Int}{x y:Q2}(h:F5 M x)(k:F5 N y):zz (Zl x y)=zz x-zz y:=by
 refine Ak3 (EC h.pos k.pos) ?_
 rw [Int.mul_sub,←BD,h.zz.1,←BD,k.zz.1,Int.sub_mul,BD,BD,EE y.2]
theorem U6 {f g:Str→Int}:∀l:HW,(l.map fun x=>f x+g x).sum=(l.map f).sum+(l.map g).sum
 |[]=>rfl
 |a::l=>by
  simp only [BE,List.sum_cons,U6 l]
  omega
theorem Ab7 {a:Str}{y:Int}:∀{l:HW},a∉l→(l.map fun x=>if x=a then y else 0).sum=0
 |[],_=>rfl
 |b::l,h=>by
  have h1:b≠a:=fun z=>h (by rw [z];exact AK)
  simp only [BE,List.sum_cons,AI h1,Ab7 (fun z=>h (AJ _ z)),Int.zero_add]
theorem Z7 {a:Str}{y:Int}:∀{l:HW},l.Nodup→a∈l→(l.map fun x=>if x=a then y else 0).sum=y
 | b::l,nd,h=>by
  obtain ⟨n1,n2⟩:=DI.mp nd
  by_cases e:b=a
  ·subst e
   simp only [BE,List.sum_cons,FP,Ab7 n1,Int.add_zero]
  ·have ha:a∈l:=(AU.mp h).resolve_left fun z=>e z.symm
   simp only [BE,List.sum_cons,AI e,Z7 n2 ha,Int.zero_add]
theorem Aa3 {l:HW}(nd:l.Nodup):∀(gs:IE) (w:Wn) (M:Int),(∀g∈gs,(0≤g.h∧g.h≤2)∧g.a≠g.b)→(∀g∈gs,g.a∈l∧g.b∈l)→(∀x,F5 M (wq 1500 (w x)))→(l.map fun x=>zz (wq 1500 (Km 0 32 1500 0 0 C2 w gs x))).sum=(l.map fun x=>zz (wq 1500 (w x))).sum
 |[],_,_,_,_,_=>rfl
 | g::gs,w,M,hg,hm,h=>by
  have o:=hg g AK
  have m:=hm g AK
  have b:=Agl (fi:=1500) (w:=w) o.1.1 o.1.2
  have f5n:∀y,F5 (M+160) (wq 1500 (N3 0 32 1500 0 0 C2 w g y)):=fun y=>by
   unfold N3
   split
   ·exact (h g.b).mn b
   ·split
    ·exact (h g.a).pl b
    ·exact (h y).mono (by omega)
  show (l.map fun x=>zz (wq 1500 (Km 0 32 1500 0 0 C2 (N3 0 32 1500 0 0 C2 w g) gs x))).sum=_
  rw [Aa3 nd gs (N3 0 32 1500 0 0 C2 w g) (M+160) (fun y hy=>hg y (AJ _ hy)) (fun y hy=>hm y (AJ _ hy)) f5n]
  have e:∀x,zz (wq 1500 (N3 0 32 1500 0 0 C2 w g x))=zz (wq 1500 (w x))+((if x=g.a then zz (Hy 0 32 1500 0 0 C2 w g) else 0)+(if x=g.b then -zz (Hy 0 32 1500 0 0 C2 w g) else 0)):=fun x=>by
   unfold N3
   by_cases hb:x=g.b
   ·rw [AN hb,AI (fun z=>o.2 (z.symm.trans hb)),AN hb]
    show zz (Zl _ _)=_
    rw [Ao9 (h g.b) b,hb]
    omega
   ·rw [AI hb,AI hb]
    by_cases ha:x=g.a
    ·rw [AN ha,AN ha]
     show zz (plQ _ _)=_
     rw [Aq8 (h g.a) b,ha]
     omega
    ·rw [AI ha,AI ha]
     omega
  simp only [e]
  rw [U6,U6,Z7 nd m.1,Z7 nd m.2]
  omega
theorem Adv (l:HW):(l.map fun x=>zz (wq 1500 ((fun _=>none:Wn) x))).sum=7500*l.length:=by
 have e:zz (wq 1500 none)=7500:=by decide
 show (l.map fun _=>zz (wq 1500 none)).sum=_
 rw [e]
 induction l with
 |nil=>rfl
 |cons a l ih=>
  rw [BE,List.sum_cons,ih,AY]
  omega
def J9 (K:KKf)(ns:HX):Sp:=fun vs H Q _=>match vs with
 |[.ref p]=>∃q:Q2,(H p=some (.tup [.int q.1,.int q.2])∧F5 13900 q)∧Q (.str (shF q)) H
 |_=>False
theorem Q9:Ah ["_law_one"] ["_law_one"] (Ac G8):=C5
include er aX in
theorem Rb (d:Bj K mg "_law_fraction" G8 ["_law_one"]):A9 P w K mg base "_law_fraction" ["_law_one"] 1 (J9 K ns):=by
 refine d.cal (k:=0) Q9 (fun vs H Q E hq0=>?_) (fun f cdv A outer s H vs Q E hr hq0=>?_)
 ·obtain ⟨_,rfl,_⟩:=Js hq0
  rfl
 ·obtain ⟨p,rfl,⟨q,⟨e,h⟩,k⟩⟩:=Js hq0
  refine ⟨_,(@Aa _ _ _ _ _ (@B6 _ _ _ _ _ _ _ _ (@Bl _ _ _ _ _ _ _ _ Gu (@Bg _ _ _ _ _ _ _ (dv 0)) Ae (Ay _)) (@A5 _ _ _ _ (@Bv _ _ _ _ _ _ _ _ _ N7 aX (by decide +kernel) (@Ba _ _ _ (@Bg _ _ _ _ _ _ _ (dv 0)) (by rfl)) (by trivial))) Av) (@A5 _ _ _ _ (@Al _ _ _ _ _ _ _ _ Cv (@Al _ _ _ _ _ _ _ _ Cv (@Bv _ _ _ _ _ _ _ _ _ N7 aX (by decide +kernel) (@Ba _ _ _ (@Bg _ _ _ _ _ _ _ (dv 0)) (by rfl)) (by trivial)) A4) (@Bv _ _ _ _ _ _ _ _ _ N7 aX (by decide +kernel) (@Ba _ _ _ (@Bg _ _ _ _ _ _ _ (dv 0)) (by rfl)) (by trivial))))),?_⟩
  obtain ⟨b5,t0,t1⟩:=h.small
  have b0:=h.pos
  have lg:∀{i:Int},-13900≤i→i≤13900→i.natAbs.log2<1920:=fun {i} h0 h1=>by
   have:Bd 100 i:=Dm (b:=20000) (by omega) (by omega) (A0 rfl)
   exact AL (Lp this (by decide)) (by decide)
  have pw:(13900:Int)<10 ^ 60:=by decide +kernel
  have l1:=Ov (i:=q.1) (by omega) (by omega)
  have l2:=Ov (i:=q.2) (by omega) (by omega)
  have l3:(Str.ofString "/").length=1:=by decide +kernel
  have big:(1000:Nat)≤sizeLine:=by decide
  unfold shF at k
  refine ⟨_,e,⟨fun h=>?_,fun h=>?_⟩⟩
  ·have h:q.2=1:=AZ h
   rw [AN h] at k
   exact ⟨_,e,lg t0 t1,k⟩
  ·have h:¬q.2=1:=BM h
   rw [AI h] at k
   exact ⟨_,e,lg t0 t1,by omega,_,e,lg (by omega) (by omega),by rw [Be];omega,k⟩
theorem Aj4:∀{ws:HW},ws≠[]→(∀w∈ws,1≤w.length)→Str.join Rt ws≠Str.ofString ""
 |[],h,_=>absurd rfl h
 | a::ws,_,hw=>fun z=>by
  have h1:=hw a AK
  have e:(co (Str.join Rt (a::ws))).length=(co (Str.ofString "")).length:=congrArg (fun x=>(co x).length) z
  cases ws with
  |nil=>
   have e:(co a).length=0:=e.trans (by decide +kernel)
   rw [Bm] at e
   omega
  |cons b ws=>
   rw [Wl,AM,Bm a,show (co (Str.ofString "")).length=0 from by decide +kernel] at e
   omega
theorem Abd {α:Type}{l:List α}{f:α→Str}(hw:∀x∈l,1≤(f x).length):(Str.join Rt (l.map f)≠Str.ofString ""→(if l=[] then Str.ofString "none" else Str.join Rt (l.map f))=Str.join Rt (l.map f))∧(Str.join Rt (l.map f)=Str.ofString ""→(if l=[] then Str.ofString "none" else Str.join Rt (l.map f))=Str.ofString "none"):=by
 refine ⟨fun h=>AI fun z=>h ?_,fun h=>AN (GH fun z=>Aj4 (ws:=l.map f) (by simpa using z) (fun w hw'=>?_) h)⟩
 ·rw [z]
  show Str.join Rt []=Str.ofString ""
  decide +kernel
 ·obtain ⟨x,hx,rfl⟩:=BG.mp hw'
  exact hw x hx
theorem M6 {M:Nat}:∀{ws:HW},(∀p∈ws,p.length≤M)→(Str.join Rt ws).length≤ws.length*(M+2)
 |[],_=>AV _
 |[a],h=>by
  have h1:=h a AK
  show a.length≤_
  simp
  omega
 |a::b::r,h=>by
  have h0:=h a AK
  have h1:=M6 (ws:=b::r) fun p hp=>h p (AJ _ hp)
  have e:=congrArg List.length (Wl Rt a b r)
  simp only [AM,Bm,show Rt.length=2 from rfl] at e
  rw [e]
  simp only [AY] at h1 ⊢
  rw [Nat.succ_mul]
  omega
theorem Up {T:HR}{H H':Hp}{pos:Pos}{q:Str}(s:Ml T H H')(tk:Au H T pos q):(∀b xs,H b=some (.lst xs)→H' b=some (.lst xs))∧Kt H H':=by
 obtain ⟨ps,eT,_⟩:=tk
 exact ⟨fun b xs e=>s b _ (fun z=>by rw [z,eT] at e;cases e) e,fun b xs e=>s b _ (fun z=>by rw [z,eT] at e;cases e) e⟩
theorem Ab4 {L A T:HR}{H H':Hp}(s:Ml T H H'):Oy L A T H H':=fun b o _ _ n e=>s b o n e
theorem C7.sm {K:KKf}{H H':Hp}{Z L A R:HR}{es:List En}{last:Int}(s:Ml (Bn K) H H')(tk:Au H (Bn K) Bq Ek)(h:C7 K H Z L A R es last):C7 K H' Z L A R es last:=h.fr tk (Ab4 s) (h.2.2.smt s tk)
theorem Wp {K:KKf}{H:Hp}{R T:HR}{so st fi one two:Int}{rows:List Rw}{pos:Pos}{q:Str}(tk:Au H T pos q)(h:Px K H R so st fi one two rows):Oh K (Hn T H) R so st fi one two rows:=by
 obtain ⟨ps,eT,_⟩:=tk
 have keep:∀b o,(∀ps,o≠.tbl ps)→H b=some o→Hn T H b=some o:=fun b o n e=>by
  unfold Hn
  rw [AI]
  ·exact e
  ·intro z
   rw [z,eT] at e
   cases e
   exact n _ rfl
 obtain ⟨C,dx,fs,T',e,kn,f,vs,t1,t2⟩:=h
 exact ⟨C,dx,fs,T',keep _ _ (fun _ z=>nomatch z) e,kn,f,vs,A1.of (keep _ _ (fun _ z=>nomatch z) t1),t2.imp fun v g r=>Dy v g _ _ (fun p xs e=>keep _ _ (fun _ z=>nomatch z) e) r⟩
theorem Px.fr {K:KKf}{H H':Hp}{L A R T Q:HR}{es:List En}{last so st fi one two:Int}{rows:List Rw}{pos:Pos}{q:Str}(f:Oy L A T H H')(lg:Ft K H L A Q es last)(tk:Au H T pos q)(n:R≠L)(h:Px K H R so st fi one two rows):Px K H' R so st fi one two rows:=by
 obtain ⟨h1,h2⟩:=Pa f lg tk
 obtain ⟨C,dx,fs,T',e,kn,fd,vs,t1,t2⟩:=h
 obtain ⟨_,_,_,_,_,_,_,eA,_⟩:=lg
 obtain ⟨ps,eT,_⟩:=tk
 exact ⟨C,dx,fs,T',f _ _ n (fun z=>by rw [z,eA] at e;cases e) (fun z=>by rw [z,eT] at e;cases e) e,kn,fd,vs,h1 _ _ t1,t2.imp fun v g r=>Dy v g _ _ h2 r⟩
theorem Ajc {T:HR}{H:Hp}{pos:Pos}{q:Str}(tk:Au H T pos q):(∀b xs,H b=some (.lst xs)→Hn T H b=some (.lst xs))∧Kt H (Hn T H):=by
 obtain ⟨ps,eT,_⟩:=tk
 have keep:∀b o,b≠T→H b=some o→Hn T H b=some o:=fun b o n e=>by
  unfold Hn
  rw [AI n]
  exact e
 exact ⟨fun b xs e=>keep b _ (fun z=>by rw [z,eT] at e;cases e) e,fun b xs e=>keep b _ (fun z=>by rw [z,eT] at e;cases e) e⟩
def StP (K:KKf)(Z T D P:HR)(H1:Hp)(ss:List (Str×Q2)):L2.St→Hp→Prop:=fun σ H'=>∃(W:HR) (vs:ID),σ=[some (.ref Z),some (.ref T),some (.ref D),some (.ref P),some (.ref W),none,none,none,none]∧Ml (Bn K) H1 H'∧Au H' (Bn K) Bq Ek∧H' W=some (.lst vs)∧Ax (Lx H') vs ss
def Oe (K:KKf)(ns:HX):Sp:=fun vs H Q _=>match vs with
 |[.ref Z,.ref T]=>∃(L A R:HR) (es:List En) (c:Int) (nm:HW),(C7 K H Z L A R es c∧Hi H T es∧Rm nm es c∧Px K H R 0 32 1500 0 0 C2∧R≠L∧Au H (Bn K) Bq Ek)∧∀H',Ml (Bn K) H H'→Au H' (Bn K) Bq Ek→Q (.bl true) H'
 |_=>False
theorem Bx:Ah ["_law_desk","_law_there","_law_rows","_law_table","_law_worths","_law_top","_law_bottom","_law_name","_law_one"] ["_law_desk","_law_there"] (Ac K6):=C5
include er ak in
theorem Wf (d:Bj K mg "_law_stands" K6 ["_law_desk","_law_there"])  (bJ:A9 P w K mg base "_law_players" ["_law_rows"] 1 (Hc K ns))(bI:C9 P w K mg base [aL] [] "say" ["self","row"] 14 (Ic K ns))(dw:A9 P w K mg base "_law_fraction" ["_law_one"] 1 (J9 K ns))(cO:A9 P w K mg base "running" ["rule","games"] 10 (Kw K ns))(ae:C9 P w K mg base [ai] [] "__init__" ["self","step","first","table"] 6 (C3 K ns))(bK:A9 P w K mg base "_law_written" ["_law_row_here"] 1 (Hj K ns))(dY:A9 P w K mg base "_law_by_days" ["_law_there"] 1 (Lk K ns)):A9 P w K mg base "_law_stands" ["_law_desk","_law_there"] 15 (Oe K ns):=by
 refine d.cal (k:=14) Bx (fun vs H Q E hq0=>?_) (fun f cdv A outer s H vs Q E hr hq0=>?_)
 ·obtain ⟨_,_,rfl,_⟩:=Hw hq0
  rfl
 ·obtain ⟨Z,T,rfl,⟨L,A,R,es,c,nm,⟨dk0,th,ok,rl,nRL,tk⟩,k⟩⟩:=Hw hq0
  refine ⟨_,(@Aa _ _ _ _ _ (@Ak _ _ _ (2) _ _ _ Bx.nd (@Af _ _ _ _ _ _ _ _ _ _ _ dY hr (@Ba _ _ _ (dv 1) (by rfl)) (by trivial)) (by trivial)) (@Ej _ _ _ _ _ (@B6 _ _ _ _ _ _ _ _ (@Bl _ _ _ _ _ _ _ _ Ad5 (@O9 _ _ _ _ _ _ _ _ _ _ _ _ (dv 0) (@Dq _ _ _ _ _ _ _ _ _ _ _ _ _ _ bI (List.Mem.head _) er.l_Desk (by decide) Fo) hr (@Ab _ _ _ _ _ A4 Ai (by rfl)) (by rfl) (by rfl) (by rfl)) (@Ak0 _ _ _ _ _ _ (@M7 _ _ _ _ _ ("join") _ _ A4 (@Ab _ _ _ _ _ (@B2 _ _ _ _ _ _ _ _ _ _ ["_law_row_here"] [] [] rfl (@Bw _ _ _ _ (dv 2)) (fun C s H fp=>(@Aq _ _ (0) _ (show List.Nodup [("_law_row_here":Str)] by decide +kernel) rfl (by trivial) (by trivial))) (fun C s H fp=>(@Af _ _ _ _ _ _ _ _ _ _ _ bK hr (@Ba _ _ _ (dv 0) (by rfl)) (by trivial))) rfl rfl (by decide +kernel) (by decide +kernel) (by rfl) ⟨⟩ ⟨⟩ (by intro _;rfl)) Ai (by rfl)) (by rfl) (by rfl) (by rfl) (by rfl) (by rfl)) A4) (Ay _)) (@A5 _ _ _ _ Lc) Av) (@Aa _ _ _ _ _ (@Ak _ _ _ (3) _ _ _ Bx.nd (@Alw _ _ _ _ (@Lm _ _ _ _ _ _ _ (@B8 _ _ _ _ _ (@B1 _ _ _ _ _ _ _ Ae (@Ab _ _ _ _ _ (@B8 _ _ _ _ _ (@B1 _ _ _ _ _ _ _ Ae (@B1 _ _ _ _ _ _ _ Ae Ai))) Ai (by rfl)))) (@Lm _ _ _ _ _ _ _ (@B8 _ _ _ _ _ (@B1 _ _ _ _ _ _ _ Ae (@Ab _ _ _ _ _ (@B8 _ _ _ _ _ (@B1 _ _ _ _ _ _ _ Ae (@B1 _ _ _ _ _ _ _ Ae Ai))) Ai (by rfl)))) (@Lm _ _ _ _ _ _ _ (@B8 _ _ _ _ _ (@B1 _ _ _ _ _ _ _ Ae (@Ab _ _ _ _ _ (@B8 _ _ _ _ _ (@B1 _ _ _ _ _ _ _ Ae (@B1 _ _ _ _ _ _ _ Ae Ai))) Ai (by rfl)))) (@Lm _ _ _ _ _ _ _ (@B8 _ _ _ _ _ (@B1 _ _ _ _ _ _ _ Ae (@Ab _ _ _ _ _ (@B8 _ _ _ _ _ (@B1 _ _ _ _ _ _ _ Ae (@B1 _ _ _ _ _ _ _ Ae Ai))) Ai (by rfl)))) (@Lm _ _ _ _ _ _ _ (@B8 _ _ _ _ _ (@B1 _ _ _ _ _ _ _ Ae (@Ab _ _ _ _ _ (@B8 _ _ _ _ _ (@B1 _ _ _ _ _ _ _ Ae (@B1 _ _ _ _ _ _ _ Ae Ai))) Ai (by rfl)))) Anh)))))) (by trivial)) (@Ej _ _ _ _ _ (@Ak _ _ _ (4) _ _ _ Bx.nd (@Af _ _ _ _ _ _ _ _ _ _ _ cO hr (@Aj _ _ _ _ _ (@Uq _ _ _ _ _ _ _ _ _ _ _ _ _ _ ae (List.Mem.head _) er.m_Rule hr (by decide) (by rfl) er.b_Rule (@Ab _ _ _ _ _ Ae (@Ab _ _ _ _ _ Ae (@Ab _ _ _ _ _ (dv 3) Ai (by rfl)) (by rfl)) (by rfl)) (by decide) (by rfl) (by rfl)) (@Ba _ _ _ (dv 2) (by rfl)) (by rfl)) (by trivial)) (by trivial)) (@Ej _ _ _ _ _ (@B6 _ _ _ _ _ _ _ _ (@Bl _ _ _ _ _ _ _ _ Ad5 (@O9 _ _ _ _ _ _ _ _ _ _ _ _ (dv 0) (@Dq _ _ _ _ _ _ _ _ _ _ _ _ _ _ bI (List.Mem.head _) er.l_Desk (by decide) Fo) hr (@Ab _ _ _ _ _ A4 Ai (by rfl)) (by rfl) (by rfl) (by rfl)) (@Ak0 _ _ _ _ _ _ (@M7 _ _ _ _ _ ("join") _ _ A4 (@Ab _ _ _ _ _ (@B2 _ _ _ _ _ _ _ _ _ _ ["_law_name","_law_one"] [] [] rfl (@Bw _ _ _ _ (dv 4)) (fun C s H fp=>(show PG _ _ (Wy K 2 _) from Fi rfl (A3 (Aq (i:=0) (show List.Nodup [("_law_name":Str),("_law_one":Str)] by decide +kernel) rfl (by trivial)) (A3 (Aq (i:=1) (show List.Nodup [("_law_name":Str),("_law_one":Str)] by decide +kernel) rfl (by trivial)) Dt)))) (fun C s H fp=>(@Al _ _ _ _ _ _ _ _ Cv (@Al _ _ _ _ _ _ _ _ Cv (dv 0) A4) (@Af _ _ _ _ _ _ _ _ _ _ _ dw hr (@Ba _ _ _ (dv 1) (by rfl)) (by trivial)))) rfl rfl (by decide +kernel) (by decide +kernel) (by rfl) ⟨⟩ ⟨⟩ (by intro _;rfl)) Ai (by rfl)) (by rfl) (by rfl) (by rfl) (by rfl) (by rfl)) A4) (Ay _)) (@A5 _ _ _ _ Lc) Av) (@Ej _ _ _ _ _ (@B6 _ _ _ _ _ _ _ _ (@Bl _ _ _ _ _ _ _ _ (@Aky _ hr.units) (@B2 _ _ _ _ _ _ _ _ _ _ ["_law_name","_law_one"] [] [] rfl (@Bw _ _ _ _ (dv 4)) (fun C s H fp=>(show PG _ _ (Wy K 2 _) from Fi rfl (A3 (Aq (i:=0) (show List.Nodup [("_law_name":Str),("_law_one":Str)] by decide +kernel) rfl (by trivial)) (A3 (Aq (i:=1) (show List.Nodup [("_law_name":Str),("_law_one":Str)] by decide +kernel) rfl (by trivial)) Dt)))) (fun C s H fp=>(dv 0)) rfl rfl (by decide +kernel) (by decide +kernel) (by rfl) ⟨⟩ ⟨⟩ (by intro _;rfl)) (@Af _ _ _ _ _ _ _ _ _ _ _ bJ hr (@Ba _ _ _ (dv 2) (by rfl)) (by trivial)) (Ay _)) (@A5 _ _ _ _ Lc) Av) (@Aa _ _ _ _ _ (@Ak _ _ _ (5) _ _ _ Bx.nd Ae (by trivial)) (@Aa _ _ _ _ _ (@Ak _ _ _ (6) _ _ _ Bx.nd Ae (by trivial)) (@Aa _ _ _ _ _ (@K3 _ _ _ _ _ _ _ _ DJ rfl (@Bw _ _ _ _ (dv 4)) (@Fi _ _ _ _ _ _ rfl (@A3 _ _ _ _ _ (@Aq _ _ (7) _ Bx.nd rfl (by trivial) (by trivial)) (@A3 _ _ _ _ _ (@Aq _ _ (8) _ Bx.nd rfl (by trivial) (by trivial)) Dt (by rfl)) (by rfl)) (by rfl) (by rfl)) (@Aa _ _ _ _ _ (@Ak _ _ _ (5) _ _ _ Bx.nd (@Al _ _ _ _ _ _ _ _ F2 (@Al _ _ _ _ _ _ _ _ D9 (dv 5) (@Bg _ _ _ _ _ _ _ (dv 8))) (@Al _ _ _ _ _ _ _ _ D9 (@Bg _ _ _ _ _ _ _ (dv 8)) (dv 6))) (by trivial)) (@Ar _ _ _ (@Ak _ _ _ (6) _ _ _ Bx.nd (@Al _ _ _ _ _ _ _ _ D9 (dv 6) (@Bg _ _ _ _ _ _ _ (dv 8))) (by trivial)))) (by intro _;rfl)) (@A5 _ _ _ _ (@Ck _ _ _ _ _ _ _ _ Gu (dv 5) (@Al _ _ _ _ _ _ _ _ D9 (@Al _ _ _ _ _ _ _ _ D9 Ae (@Ao _ _ _ _ _ _ _ _ _ C4 ak (by decide +kernel) (@Ba _ _ _ (dv 4) (by rfl)) (by trivial))) (dv 6)) (Ay _)))))))))))),?_⟩
  have l40:=ok.l
  refine ⟨es,⟨th,ok.l⟩,fun D ws H1 p s1 eD stb aD=>?_⟩
  have okg:∀g∈pg (es.map (·.2)) p,GO g:=Agw fun g hg=>by
   obtain ⟨e,he,rfl⟩:=BG.mp hg
   exact ok.g e he
  have lg:(pg (es.map (·.2)) p).length=es.length:=by rw [Nn stb.2.1,stb.1,AE]
  have dk1:=dk0.up s1
  have rl1:=rl.up s1
  have tk1:=tk.up s1
  obtain ⟨dx,fs,dy,gs,eZ,f1,f2,eL,fd⟩:=dk1.get er.y_Desk er.y_Ledger
  refine ⟨fun σ H'=>σ=[some (.ref Z),some (.ref T),some (.ref D),none,none,none,none,none,none]∧Ml (Bn K) H1 H'∧Au H' (Bn K) Bq Ek,?_,?_⟩
  ·refine ⟨Z,_,dx,fs,_,rfl,eZ,.head _,f2,by decide +kernel,.inr ⟨.inr (.inl (by rw [Sk (by decide +kernel)])),fun W H2 s2 e2=>.inr (.inl ⟨e2.trans (by rw [show Txt.split (Str.ofString "book") ⟨#[32]⟩=[Str.ofString "book"] from by decide +kernel];rfl),fun B H3 s3=>?_⟩)⟩⟩
   have s13:=s2.trans s3
   refine ⟨L,A,R,es,c,⟨dk1.up s13,ok.l,ok.g,tk1.up s13⟩,fun p2 H4 sm tk4 stb2=>?_⟩
   obtain rfl:=Pb stb2 stb
   have sm14:Ml (Bn K) H1 H4:=fun b o n e=>sm b o n (s13 b o e)
   obtain ⟨k1,k2⟩:=Up sm14 tk1
   have eD4:=k1 _ _ eD
   have aD4:=aD.imp fun v g r=>Cr v g _ _ k2 r
   refine ⟨rfl,D,rfl,⟨_,A1.of eD4⟩,Cb B4 Cr (fun _ g y=>y=V.str (N2 g)) (fun _ _ _ _ _ h=>h) (by rw [aD.len];omega) (A1.of eD4) aD4 ?_ ?_⟩
   ·intro v g H5 hM hg s5 P hP
    obtain ⟨q,rfl,eq⟩:=hM
    exact ⟨rfl,g,⟨⟨q,rfl,eq⟩,okg g hg⟩,fun H6 s6=>hP _ H6 s6 rfl⟩
   intro D2 H5 ys s5 _ e5 a5
   rw [Uo a5] at e5
   have ej:Txt.join (Str.ofString "; ") ((pg (es.map (·.2)) p2).map N2)=Str.join Rt ((pg (es.map (·.2)) p2).map N2):=Dg (Jx _ _)
   have lw:∀w∈(pg (es.map (·.2)) p2).map N2,w.length≤1000:=fun w hw=>by
    obtain ⟨g,hg,rfl⟩:=BG.mp hw
    have:=Pf (okg g hg)
    omega
   obtain ⟨o1,o2⟩:=Abd (l:=pg (es.map (·.2)) p2) (f:=N2) fun g hg=>by
    rw [←Bm,Af0,AM,AY]
    omega
   have sm15:Ml (Bn K) H1 H5:=fun b o n e=>s5 b o (sm14 b o n e)
   refine ⟨_,A1.of e5,Amh lw (by rw [AE];omega),?_⟩
   rw [ej]
   refine ⟨?_,fun hne=>⟨fun h=>?_,fun _=>⟨rfl,sm15,tk4.up s5⟩⟩,fun he=>⟨fun h=>?_,fun _=>⟨rfl,sm15,tk4.up s5⟩⟩⟩
   ·have:=M6 lw
    rw [AE,lg] at this
    have big:(1000000:Nat)≤sizeLine:=by decide
    have:es.length*(1000+2)≤40*1002:=Nat.mul_le_mul_right _ l40
    omega
   ·unfold Aa4 at h
    rw [o1 hne,AQ rfl] at h
    exact nb h
   ·unfold Aa4 at h
    rw [o2 he,AQ rfl] at h
    exact nb h
  rintro σ H2 ⟨rfl,sm2,tk2⟩
  refine fun T1 H3 s3 e3 T2 H4 s4 e4 T3 H5 s5 e5 T4 H6 s6 e6 T5 H7 s7 e7 T6 H8 s8 e8 T7 H9 s9 e9 T8 H10 s10 e10 T9 H11 s11 e11 T10 H12 s12 e12 P H13 s13 e13=>?_
  have s412:=s5.trans (s6.trans (s7.trans (s8.trans (s9.trans (s10.trans (s11.trans (s12.trans s13)))))))
  have s213:Ag H2 H13:=s3.trans (s4.trans s412)
  have q5:=s6.trans (s7.trans (s8.trans (s9.trans (s10.trans (s11.trans (s12.trans s13))))))
  have q6:=s7.trans (s8.trans (s9.trans (s10.trans (s11.trans (s12.trans s13)))))
  have q7:=s8.trans (s9.trans (s10.trans (s11.trans (s12.trans s13))))
  have q8:=s9.trans (s10.trans (s11.trans (s12.trans s13)))
  have q9:=s10.trans (s11.trans (s12.trans s13))
  have q10:=s11.trans (s12.trans s13)
  have q11:=s12.trans s13
  have a13:Ax (Gc K H13) [.ref T2,.ref T4,.ref T6,.ref T8,.ref T10] C2:=.cons ⟨_,_,rfl,.inl (s412 _ _ e4),.inl ((s4.trans s412) _ _ e3)⟩ (.cons ⟨_,_,rfl,.inl (q6 _ _ e6),.inl (q5 _ _ e5)⟩ (.cons ⟨_,_,rfl,.inl (q8 _ _ e8),.inl (q7 _ _ e7)⟩ (.cons ⟨_,_,rfl,.inl (q10 _ _ e10),.inl (q9 _ _ e9)⟩ (.cons ⟨_,_,rfl,.inl (s13 _ _ e12),.inl (q11 _ _ e11)⟩ .nil))))
  have tk13:=tk2.up s213
  have sm13:Ml (Bn K) H1 H13:=fun b o n e=>s213 b o (sm2 b o n e)
  clear s3 s4 s5 s6 s7 s8 s9 s10 s11 s12 s13 s412 q5 q6 q7 q8 q9 q10 q11 e3 e4 e5 e6 e7 e8 e9 e10 e11 e12
  refine ⟨StP K Z T D P H1 (Ec (es.map (·.2)) p),?_,?_⟩
  ·intro x dx' hx hd ne
   have s14:=Mb (C:=ai) hx hd ne
   have e14:upd (upd H13 dx' (.own x)) x (.ins ai dx' []) x=some (.ins ai dx' []):=Ad
   generalize upd (upd H13 dx' (.own x)) x (.ins ai dx' [])=H14 at s14 e14
   have a14:=a13.imp fun v g r=>Dy v g _ _ (Bc s14) r
   refine ⟨_,dx',[],_,_,⟨e14,er.l_Rule,er.na_Rule_step,er.na_Rule_first,er.na_Rule_table,by decide,s14 _ _ e13,a14,Ab6⟩,fun Tb H15 s15 nT n15 e15 ex15=>⟨rfl,?_⟩⟩
   have s1315:Ag H13 H15:=Vb hx s14 s15
   have sm15:Ml (Bn K) H1 H15:=fun b o n e=>s1315 b o (sm13 b o n e)
   have tk15:=tk13.up s1315
   obtain ⟨k1,k2⟩:=Up sm15 tk1
   obtain ⟨f1',f2'⟩:=Ajc tk15
   have hR:Oh K (Hn (Bn K) H15) x 0 32 1500 0 0 C2:=Wp tk15 ⟨_,dx',_,Tb,ex15,⟨rfl,er.y_Rule⟩,fd0 rfl,_,e15,a14.imp fun v g r=>Dy v g _ _ (s15.kt e14) r⟩
   refine ⟨0,32,1500,0,0,C2,pg (es.map (·.2)) p,ws,⟨hR,Tc,nb0,A0 rfl,A1.of (f1' _ _ (k1 _ _ eD)),aD.imp fun v g r=>Cr v g _ _ (k2.trans f2') r,by omega,by rw [Ko stb];exact ok.p,fun g hg=>⟨⟨(okg g hg).h0,(okg g hg).h1⟩,(okg g hg).ne⟩,tk15⟩,fun W vs p' H16 sm16 nW eW tk16 stb' alW=>⟨W,vs,rfl,fun b o n e=>sm16 b o n (sm15 b o n e),tk16,eW,?_⟩⟩
   rw [Wi stb stb',Ko stb] at alW
   exact alW
  have okr:=Aax (gs:=es.map (·.2)) (p:=p) (fun g hg=>by
   obtain ⟨e,he,rfl⟩:=BG.mp hg
   exact ok.g e he) (by rw [stb.1,AE];exact l40) stb.2.1
  have lr:(Ec (es.map (·.2)) p).length≤8:=by
   unfold Ec
   rw [AE]
   exact ok.p
  have f5r:∀s∈Ec (es.map (·.2)) p,F5 13900 s.2:=fun s hs=>by
   obtain ⟨x,hx,rfl⟩:=BG.mp hs
   exact Aei (fun g hg=>⟨(okg g hg).h0,(okg g hg).h1⟩) (by omega) x
  clear a13 tk13 sm13 e13 s213 sm2 tk2
  rintro σ H3 ⟨W,vs,rfl,sm3,tk3,eW,aW⟩
  refine ⟨StP K Z T D P H1 (Ec (es.map (·.2)) p),?_,?_⟩
  ·have dk3:=dk1.sm sm3 tk1
   have rl3:=Px.fr (Ab4 sm3) dk1.2.2 tk1 nRL rl1
   obtain ⟨dx,fs,dy,gs,eZ,f1,f2,eL,fd⟩:=dk3.get er.y_Desk er.y_Ledger
   refine ⟨Z,_,dx,fs,_,rfl,eZ,.head _,f2,by decide +kernel,.inr ⟨.inr (.inr (by rw [Sk (by decide +kernel)])),fun W2 H4 s4 e4=>.inr (.inr ⟨e4.trans (by rw [show Txt.split (Str.ofString "running") ⟨#[32]⟩=[Str.ofString "running"] from by decide +kernel];rfl),fun B H5 s5=>?_⟩)⟩⟩
   have s35:=s4.trans s5
   refine ⟨L,A,R,es,c,⟨dk3.up s35,Wp (tk3.up s35) (rl3.up s35),ok.l,ok.g,ok.p,tk3.up s35⟩,fun p2 H6 sm tk6 stb2=>?_⟩
   obtain rfl:=Pb stb2 stb
   have sm36:Ml (Bn K) H3 H6:=fun b o n e=>sm b o n (s35 b o e)
   have sm16:Ml (Bn K) H1 H6:=fun b o n e=>sm36 b o n (sm3 b o n e)
   obtain ⟨k1,k2⟩:=Up sm36 tk3
   have eW6:=k1 _ _ eW
   have aW6:=aW.imp fun v g r=>N8 v g _ _ k2 r
   refine ⟨rfl,W,rfl,⟨_,A1.of eW6⟩,Cb Lx N8 (fun _ s y=>y=V.str (Yj s)) (fun _ _ _ _ _ h=>h) (by rw [aW.len];omega) (A1.of eW6) aW6 ?_ ?_⟩
   ·intro v s H7 hM hs s7 P' hP
    obtain ⟨t,q,rfl,e1,e2⟩:=hM
    have o:=(okr s hs).1
    have lF:=O7 o
    have n8:=o.n8
    have lb:(Str.ofString " ").length=1:=by decide +kernel
    have big:(1000:Nat)≤sizeLine:=by decide
    exact ⟨t,_,rfl,D7.of e1,rfl,_,_,rfl,_,_,rfl,rfl,rfl,by omega,_,⟨e2,f5r s hs⟩,by rw [Be];omega,hP _ H7 (Ag.refl _) rfl⟩
   intro D2 H7 ys s7 _ e7 a7
   rw [P0 a7] at e7
   have ej:Txt.join (Str.ofString "; ") ((Ec (es.map (·.2)) p2).map Yj)=Str.join Rt ((Ec (es.map (·.2)) p2).map Yj):=Dg (Jx _ _)
   have lw:∀w∈(Ec (es.map (·.2)) p2).map Yj,w.length≤1000:=fun w hw=>by
    obtain ⟨s,hs,rfl⟩:=BG.mp hw
    have h1:=O7 (okr s hs).1
    have h2:=(okr s hs).1.n8
    unfold Yj
    rw [Be,Be,show (Str.ofString " ").length=1 from by decide +kernel]
    omega
   obtain ⟨o1,o2⟩:=Abd (l:=Ec (es.map (·.2)) p2) (f:=Yj) fun s hs=>by
    unfold Yj
    rw [Be,Be,show (Str.ofString " ").length=1 from by decide +kernel]
    omega
   have sm17:Ml (Bn K) H1 H7:=fun b o n e=>s7 b o (sm16 b o n e)
   have st7:StP K Z T D P H1 (Ec (es.map (·.2)) p2) [some (.ref Z),some (.ref T),some (.ref D),some (.ref P),some (.ref W),none,none,none,none] H7:=⟨W,vs,rfl,sm17,tk6.up s7,s7 _ _ eW6,aW6.imp fun v g r=>N8 v g _ _ (Bc s7) r⟩
   refine ⟨_,A1.of e7,Amh lw (by rw [AE];omega),?_⟩
   rw [ej]
   refine ⟨?_,fun hne=>⟨fun h=>?_,fun _=>st7⟩,fun he=>⟨fun h=>?_,fun _=>st7⟩⟩
   ·have:=M6 lw
    rw [AE] at this
    have big:(1000000:Nat)≤sizeLine:=by decide
    have:(Ec (es.map (·.2)) p2).length*(1000+2)≤8*1002:=Nat.mul_le_mul_right _ lr
    omega
   ·unfold Aj7 at h
    rw [o1 hne,AQ rfl] at h
    exact nb h
   ·unfold Aj7 at h
    rw [o2 he,AQ rfl] at h
    exact nb h
  clear sm3 tk3 eW aW W vs H3
  rintro σ H3 ⟨W,vs,rfl,sm3,tk3,eW,aW⟩
  have nmr:(Ec (es.map (·.2)) p).map (·.1)=Gb (es.map (·.2)):=by
   unfold Ec
   rw [EH]
   exact List.map_id' _
  refine ⟨StP K Z T D P H1 (Ec (es.map (·.2)) p),?_,?_⟩
  ·refine ⟨W,rfl,⟨_,A1.of eW⟩,Cb Lx N8 (fun _ s y=>y=V.str (s:Str×Q2).1) (fun _ _ _ _ _ h=>h) (by rw [aW.len];omega) (A1.of eW) aW ?_ ?_⟩
   ·intro v s H7 hM hs s7 P' hP
    obtain ⟨t,q,rfl,e1,e2⟩:=hM
    exact ⟨t,_,rfl,D7.of e1,rfl,_,_,rfl,_,_,rfl,rfl,rfl,hP _ H7 (Ag.refl _) rfl⟩
   intro D2 H4 ys s4 _ e4 a4
   have ey:ys=((Ec (es.map (·.2)) p).map (·.1)).map V.str:=by
    clear okr f5r lr nmr eW aW e4
    generalize Ec (es.map (·.2)) p=ss at a4
    induction a4 with
    |nil=>rfl
    |cons h _ ih=>rw [h,ih];rfl
   rw [ey,nmr] at e4
   have sm14:Ml (Bn K) H1 H4:=fun b o n e=>s4 b o (sm3 b o n e)
   obtain ⟨k1,k2⟩:=Up sm14 tk1
   refine ⟨pg (es.map (·.2)) p,⟨⟨ws,A1.of (k1 _ _ eD),aD.imp fun v g r=>Cr v g _ _ k2 r,by omega⟩,by rw [Ko stb];have:=ok.p;omega⟩,fun D5 H5 s5 _ e5=>?_⟩
   rw [Ko stb] at e5
   have sh:SeqAt.shaped (.list ((Gb (es.map (·.2))).map PyData.str))=true:=Aic fun x hx=>by
    rw [←nmr] at hx
    obtain ⟨s,hs,rfl⟩:=BG.mp hx
    exact (okr s hs).2
   have s45:=s4.trans s5
   refine ⟨_,_,Abi (A1.of (s5 _ _ e4)),Abi (A1.of e5),sh,sh,⟨fun h=>?_,fun _=>⟨W,vs,rfl,fun b o n e=>s5 b o (sm14 b o n e),tk3.up s45,s45 _ _ eW,aW.imp fun v g r=>N8 v g _ _ (Bc s45) r⟩⟩⟩
   rw [Aaj sh] at h
   exact nb h
  clear sm3 tk3 eW aW W vs H3
  rintro σ H3 ⟨W,vs,rfl,sm3,tk3,eW,aW⟩
  have zs:((Ec (es.map (·.2)) p).map fun s=>zz s.2).sum=7500*(Ec (es.map (·.2)) p).length:=by
   unfold Ec
   rw [EH,AE]
   have:=Aa3 (l:=Gb (es.map (·.2))) (Fb (Cz _)) (pg (es.map (·.2)) p) (fun _=>none) 7500 (fun g hg=>⟨⟨(okg g hg).h0,(okg g hg).h1⟩,(okg g hg).ne⟩) (fun g hg=>?_) (fun y=>⟨by decide,⟨7500,by decide,by decide,by decide⟩,by decide⟩)
   ·exact this.trans (Adv _)
   ·rw [←Ko stb]
    exact ⟨Ct.mpr ⟨g,hg,.inl rfl⟩,Ct.mpr ⟨g,hg,.inr rfl⟩⟩
  have lvs:vs.length=(Ec (es.map (·.2)) p).length:=aW.len
  generalize Ec (es.map (·.2)) p=ss at aW f5r lr zs lvs
  refine ⟨W,rfl,⟨_,A1.of eW⟩,Mh (K:=K) (a:=W) (xs:=vs) (fun i σ Hx=>∃(t b:Int) (o7 o8:Option V),σ=[some (.ref Z),some (.ref T),some (.ref D),some (.ref P),some (.ref W),some (.int t),some (.int b),o7,o8]∧Hx=H3∧i≤vs.length∧0<b∧Bd (1+3*i) b∧Bd (30+4*i) t∧5*t=((ss.take i).map fun s=>zz s.2).sum*b) ⟨0,1,_,_,rfl,rfl,AV _,by decide,A0 rfl,A0 rfl,rfl⟩ (fun i σ Hx _ ⟨_,_,_,_,_,e,_⟩=>e▸A1.of eW) ?_ ?_⟩
  ·rintro i v σ Hx hv ⟨t,b,o7,o8,rfl,rfl,il,b0,bb,bt,et⟩
   obtain ⟨s,hs,t',q,rfl,e1,e2⟩:=aW.get hv
   have f5:=f5r s (BH hs)
   obtain ⟨z1,z2,z3⟩:=f5.zz
   obtain ⟨q5,q6,q7⟩:=f5.small
   have p:=f5.pos
   have il:i<vs.length:=(BI.mp hv).1
   have b3:Bd 3 s.2.2:=Dm (b:=5) (by omega) q5 (A0 rfl)
   have b14:Bd 14 s.2.1:=Dm (b:=13900) q6 q7 (A0 rfl)
   have m1:=bt.mul b3
   have m2:=b14.mul bb
   refine ⟨t',_,rfl,D7.of e1,rfl,_,_,rfl,_,_,rfl,rfl,_,e2,Wg bt b3 (by omega) (by omega),_,e2,Wg b14 bb (by omega) (by omega),_,e2,Wg bb b3 (by omega) (by omega),_,_,_,_,rfl,rfl,il,EC b0 p,(bb.mul b3).mono (by omega),(m1.add (m2.mono (by omega))).mono (by omega),?_⟩
   rw [CI,hs,CB,List.sum_append]
   show 5*(t*s.2.2+s.2.1*b)=(_+(zz s.2+0))*(b*s.2.2)
   rw [Int.add_zero,Int.mul_add,←BD,et,←BD,z1,Int.add_mul,BD,BD,EE s.2.2 b]
  ·rintro σ Hx ⟨t,b,o7,o8,rfl,rfl,il,b0,bb,bt,et⟩
   have bl:Bd 10 (vs.length:Int):=Dm (b:=8) (by omega) (by omega) (A0 rfl)
   have b15:Bd 11 (1500:Int):=A0 rfl
   refine ⟨_,.inl (A1.of eW),Wg b15 bl (by omega) (by omega),Wg (b15.mul bl) bb (by omega) (by omega),?_⟩
   rw [EB (by omega),zs] at et
   have:t=1500*(vs.length:Int)*b:=by
    rw [lvs]
    apply Int.eq_of_mul_eq_mul_left (show (5:Int)≠0 by decide)
    rw [et,←BD,←BD]
    rfl
   show Q (.bl (decide (t=1500*(vs.length:Int)*b))) Hx
   rw [AQ this]
   exact k _ (fun b o n e=>sm3 b o n (s1 b o e)) tk3
theorem Apb {H:Hp}{vs:ID}{es:List En}(h:Ax (Ru H) vs es):Ax (Ao4 H) vs es:=h.imp fun v e r=>by
 obtain ⟨t,p,e1,h1,q,e2,h2⟩:=r
 cases e2
 exact ⟨t,p,e1,h1,h2⟩
theorem Alu {K:KKf}{L A R T a:HR}{H H':Hp}{es:List En}{last:Int}{pos:Pos}{q:Str}{xs:ID}(f:Oy L A T H H')(lg:Ft K H L A R es last)(tk:Au H T pos q)(h:A1 K H a xs):A1 K H' a xs:=by
 obtain ⟨C,dx,fs,eL,_,_,kvs,eA,_⟩:=lg
 obtain ⟨ps,eT,_⟩:=tk
 rcases h with (h|⟨ob,h⟩)|h
 ·exact .inl (.inl (f _ _ (fun z=>by rw [z,eL] at h;cases h) (fun z=>by rw [z,eA] at h;cases h) (fun z=>by rw [z,eT] at h;cases h) h))
 ·exact .inl (.inr ⟨ob,f _ _ (fun z=>by rw [z,eL] at h;cases h) (fun z=>by rw [z,eA] at h;cases h) (fun z=>by rw [z,eT] at h;cases h) h⟩)
 ·exact .inr h
theorem Rm.snoc {nm:HW}{es:List En}{c:Int}{g:Gm}(ok:Rm nm es c)(hc:c+1<1000)(ga:g.a∈nm)(gb:g.b∈nm)(o:GO g)(f:Rk es g):Rm nm (es++[(c+1,g)]) (c+1):=by
 have c0:=ok.c0
 refine ⟨Aip ok.e ga gb,?_,ok.n,fun x hx=>?_,?_,by omega,hc,fun x hx=>?_⟩
 ·rw [AM]
  exact f.1
 ·rcases BV.mp hx with hx|hx
  ·exact ok.g x hx
  ·rw [AW.mp hx]
   exact o
 ·rw [CB]
  exact f.2
 ·rcases BV.mp hx with hx|hx
  ·exact ok.z x hx
  ·rw [AW.mp hx]
   show 1≤c+1
   omega
theorem Acf {nm:HW}{es:List En}{c n:Int}(ok:Rm nm es c):Rm nm (wo es n) c:=by
 have sub:∀e∈wo es n,e∈es:=fun e he=>(FH.mp he).1
 exact ⟨⟨ok.e.inc.sublist List.filter_sublist,fun e he=>ok.e.le e (sub e he),fun e he=>ok.e.mem e (sub e he)⟩,AO (DA _ _) ok.l,ok.n,fun x hx=>ok.g x (sub x hx),AO (G3 (Fb (Cz _)) fun x hx=>by
  obtain ⟨g,hg,h⟩:=Ct.mp hx
  obtain ⟨e,he,rfl⟩:=BG.mp hg
  exact Ct.mpr ⟨e.2,BG.mpr ⟨e,sub e he,rfl⟩,h⟩) ok.p,ok.c0,ok.c1,fun x hx=>ok.z x (sub x hx)⟩
structure Tn (K:KKf)(ns:HX)(a NA:HR)(nm:HW)(H:Hp)(Z L A R T:HR)(es:List En)(c:Int):Prop where
 dk:C7 K H Z L A R es c
 th:Hi H T es
 ok:Rm nm es c
 rl:Px K H R 0 32 1500 0 0 C2
 n:R≠L
 tk:Au H (Bn K) Bq Ek
 na:H NA=some (.lst (nm.map V.str))
 s:A1 K H a (ns.map V.int)
theorem Tn.up {K:KKf}{ns:HX}{a NA:HR}{nm:HW}{H H':Hp}{Z L A R T:HR}{es:List En}{c:Int}(s:Ag H H')(h:Tn K ns a NA nm H Z L A R T es c):Tn K ns a NA nm H' Z L A R T es c:=⟨h.dk.up s,h.th.up s,h.ok,h.rl.up s,h.n,h.tk.up s,s _ _ h.na,s.seq h.s⟩
theorem Tn.fr {K:KKf}{ns:HX}{a NA:HR}{nm:HW}{H H':Hp}{Z L A R T T':HR}{es es':List En}{c c':Int}(f:Oy L A (Bn K) H H')(h:Tn K ns a NA nm H Z L A R T es c)(dk:C7 K H' Z L A R es' c')(th:Hi H' T' es')(ok:Rm nm es' c')(tk:Au H' (Bn K) Bq Ek):Tn K ns a NA nm H' Z L A R T' es' c':=⟨dk,th,ok,Px.fr f h.dk.2.2 h.tk h.n h.rl,h.n,tk,(Pa f h.dk.2.2 h.tk).1 _ _ h.na,Alu f h.dk.2.2 h.tk h.s⟩
theorem Tn.sm {K:KKf}{ns:HX}{a NA:HR}{nm:HW}{H H':Hp}{Z L A R T:HR}{es:List En}{c:Int}(s:Ml (Bn K) H H')(tk:Au H' (Bn K) Bq Ek)(h:Tn K ns a NA nm H Z L A R T es c):Tn K ns a NA nm H' Z L A R T es c:=h.fr (Ab4 s) (h.dk.sm s h.tk) (h.th.fr (Ab4 s) h.dk.2.2 h.tk) h.ok tk
theorem Do:Ah ["_law_script","_law_many","_law_names_here","_law_desk","_law_there","_law_count","_law_k","_law_cell","_law_right"] ["_law_script"] (Ac J5):=C5
include er bP fC ak in
theorem Anv (d:Bj K mg "law" J5 ["_law_script"])  (dA:A9 P w K mg base "_law_stands" ["_law_desk","_law_there"] 15 (Oe K ns))(cF:A9 P w K mg base "_law_cell_at" ["_law_script","_law_k"] 1 (Lj K ns))(fS:A9 P w K mg base "_law_put" ["_law_desk","_law_there","_law_count","_law_row_here"] 16 (Xe K ns))(fT:A9 P w K mg base "_law_row" ["_law_cell","_law_names_here"] 1 (Xk K ns))(f9:A9 P w K mg base "_law_taken" ["_law_desk","_law_there","_law_count","_law_cell"] 16 (P8 K ns))(cG:C9 P w K mg base [aL] [] "__init__" ["self"] 11 (Gr K ns))(fc:A9 P w K mg base "_law_names" ["_law_cell","_law_many"] 1 (Pu K ns)):A9 P w K mg base "law" ["_law_script"] 17 (Xm "in_order" K ns):=by
 refine d.cal (k:=16) Do (fun vs H Q E h=>?_) (fun f cdv A outer s H vs Q E hr h=>?_)
 ·match vs,h with
  |[.ref a],_=>rfl
 ·match vs,h with
  | [.ref a],hq0=>
   obtain ⟨hS,hl,hb,hT,k⟩:=hq0
   refine ⟨_,(@Aa _ _ _ _ _ (@Ak _ _ _ (1) _ _ _ Do.nd (@Al _ _ _ _ _ _ _ _ F2 Ae (@Al _ _ _ _ _ _ _ _ Er (@Af _ _ _ _ _ _ _ _ _ _ _ cF hr (@Aj _ _ _ _ _ (dv 0) (@Ba _ _ _ Ae (by rfl)) (by rfl)) (by trivial)) Ae)) (by trivial)) (@Aa _ _ _ _ _ (@Ak _ _ _ (2) _ _ _ Do.nd (@Af _ _ _ _ _ _ _ _ _ _ _ fc hr (@Aj _ _ _ _ _ (@Af _ _ _ _ _ _ _ _ _ _ _ cF hr (@Aj _ _ _ _ _ (dv 0) (@Ba _ _ _ Ae (by rfl)) (by rfl)) (by trivial)) (@Ba _ _ _ (dv 1) (by rfl)) (by rfl)) (by trivial)) (by trivial)) (@Aa _ _ _ _ _ (@Ak _ _ _ (3) _ _ _ Do.nd (@Ahw _ _ _ _ _ _ _ _ _ _ _ cG (List.Mem.head _) er.m_Desk hr (by decide) (by rfl) er.b_Desk (by decide)) (by trivial)) (@Aa _ _ _ _ _ (@Ak _ _ _ (4) _ _ _ Do.nd (@E5 _ _ _ _ Ai) (by trivial)) (@Aa _ _ _ _ _ (@Ak _ _ _ (5) _ _ _ Do.nd Ae (by trivial)) (@Aa _ _ _ _ _ (@K3 _ _ _ _ _ _ _ _ DJ rfl (@Acq _ _ _ _ _ _ _ (by rfl) bP (@Ab _ _ _ _ _ Ae (@Ab _ _ _ _ _ (@Ao _ _ _ _ _ _ _ _ _ (@S8 _ rfl) fC (by decide +kernel) (@Aj _ _ _ _ _ (@Ao _ _ _ _ _ _ _ _ _ C4 ak (by decide +kernel) (@Ba _ _ _ (dv 0) (by rfl)) (by trivial)) (@Ba _ _ _ Ae (by rfl)) (by rfl)) (by trivial)) Ai (by rfl)) (by rfl)) (by rfl) (by rfl)) (@Aq _ _ (6) _ Do.nd rfl (by trivial) (by trivial)) (@Aa _ _ _ _ _ (@Ak _ _ _ (7) _ _ _ Do.nd (@Eb _ _ _ _ _ _ _ Ht (dv 0) (dv 6) (fun _ _=>rfl)) (by trivial)) (@Ej _ _ _ _ _ (@B6 _ _ _ _ _ _ _ _ (@L2.PW.pt _ _ _ (@Os _ _ _ _ _ _ _ (@Bl _ _ _ _ _ _ _ _ Xi (@Al _ _ _ _ _ _ _ _ Er (dv 7) Ae) Ae (Ay _)) (@F8 _ _ _ _ (@L2.PW.pt _ _ _ (@Xu _ _ _ _ _ _ _ (@Bl _ _ _ _ _ _ _ _ (@X4 _ hr.units) (dv 4) (@E5 _ _ _ _ Ai) (Ay _)) (@Mg _ _ _ _ (@Bl _ _ _ _ _ _ _ _ Xi (@Al _ _ _ _ _ _ _ _ Er (dv 7) Ae) Ae (Ay _)))))))) (@Ar _ _ _ (@Aag _ _ _ _ _ _ (@Af _ _ _ _ _ _ _ _ _ _ _ fS hr (@Aj _ _ _ _ _ (dv 3) (@Aj _ _ _ _ _ (dv 4) (@Aj _ _ _ _ _ (dv 5) (@Ba _ _ _ (@Af _ _ _ _ _ _ _ _ _ _ _ fT hr (@Aj _ _ _ _ _ (dv 7) (@Ba _ _ _ (dv 2) (by rfl)) (by rfl)) (by trivial)) (by rfl)) (by rfl)) (by rfl)) (by rfl)) (by trivial)) (@Fi _ _ _ _ _ _ rfl (@A3 _ _ _ _ _ (@Aq _ _ (4) _ Do.nd rfl (by trivial) (by trivial)) (@A3 _ _ _ _ _ (@Aq _ _ (5) _ Do.nd rfl (by trivial) (by trivial)) (@A3 _ _ _ _ _ (@Aq _ _ (8) _ Do.nd rfl (by trivial) (by trivial)) Dt (by rfl)) (by rfl)) (by rfl)) (by rfl) (by rfl)) (by rfl) (by rfl) (by rfl))) (@Ar _ _ _ (@Aag _ _ _ _ _ _ (@Af _ _ _ _ _ _ _ _ _ _ _ f9 hr (@Aj _ _ _ _ _ (dv 3) (@Aj _ _ _ _ _ (dv 4) (@Aj _ _ _ _ _ (dv 5) (@Ba _ _ _ (dv 7) (by rfl)) (by rfl)) (by rfl)) (by rfl)) (by trivial)) (@Fi _ _ _ _ _ _ rfl (@A3 _ _ _ _ _ (@Aq _ _ (4) _ Do.nd rfl (by trivial) (by trivial)) (@A3 _ _ _ _ _ (@Aq _ _ (5) _ Do.nd rfl (by trivial) (by trivial)) (@A3 _ _ _ _ _ (@Aq _ _ (8) _ Do.nd rfl (by trivial) (by trivial)) Dt (by rfl)) (by rfl)) (by rfl)) (by rfl) (by rfl)) (by rfl) (by rfl) (by rfl)))) (@Aa _ _ _ _ _ (@B6 _ _ _ _ _ _ _ _ (@Bu _ _ _ _ (@Cc _ _ _ (dv 8) (by intro _;rfl))) (@A5 _ _ _ _ Lc) Av) (@Ar _ _ _ (@B6 _ _ _ _ _ _ _ _ (@L2.PW.pt _ _ _ (@Xu _ _ _ _ _ _ _ (@Bl _ _ _ _ _ _ _ _ Gu (dv 6) (@Al _ _ _ _ _ _ _ _ F2 Ae (@Al _ _ _ _ _ _ _ _ Er (@Af _ _ _ _ _ _ _ _ _ _ _ cF hr (@Aj _ _ _ _ _ (dv 0) (@Ba _ _ _ Ae (by rfl)) (by rfl)) (by trivial)) Ae)) (Ay _)) (@Mg _ _ _ _ (@Bu _ _ _ _ (@Cc _ _ _ (@Af _ _ _ _ _ _ _ _ _ _ _ dA hr (@Aj _ _ _ _ _ (dv 3) (@Ba _ _ _ (dv 4) (by rfl)) (by rfl)) (by trivial)) (by intro _;rfl)))))) (@A5 _ _ _ _ Lc) Av))))) (by intro _;rfl)) (@A5 _ _ _ _ (@Af _ _ _ _ _ _ _ _ _ _ _ dA hr (@Aj _ _ _ _ _ (dv 3) (@Ba _ _ _ (dv 4) (by rfl)) (by rfl)) (by trivial))))))))),?_⟩
   have tk0:Au H (Bn K) Bq Ek:=⟨#[],hT,trivial,.inl rfl⟩
   refine ⟨hS,by decide,fun c0=>⟨(by show (0:Int)<7;decide),hS,by decide,fun c1=>⟨⟨by omega,by omega⟩,fun NA nm H1 s1 _ e1 l1 nl=>?_⟩⟩⟩
   intro Z dz hz hdz nez
   have s2:=Mb (C:=aL) hz hdz nez
   have e2:upd (upd H1 dz (.own Z)) Z (.ins aL dz []) Z=some (.ins aL dz []):=Ad
   generalize upd (upd H1 dz (.own Z)) Z (.ins aL dz [])=H2 at s2 e2
   refine ⟨_,dz,⟨e2,er.y_Desk⟩,fun L A R H3 s3 nL nA nR nRL dk rl=>⟨rfl,?_⟩⟩
   have s13:Ag H1 H3:=Vb hz s2 s3
   refine fun T H4 s4 e4=>?_
   have t4:Tn K ns a NA nm H4 Z L A R T [] 0:=⟨dk.up s4,⟨[],e4,.nil⟩,⟨⟨.nil,fun e h=>by (cases h),fun e h=>by (cases h)⟩,by decide,by omega,fun e h=>by (cases h),by decide,by decide,by decide,fun e h=>by (cases h)⟩,rl.up s4,nRL,tk0.up (s1.trans (s13.trans s4)),(s13.trans s4) _ _ e1,(s1.trans (s13.trans s4)).seq hS⟩
   have n9:nm.length≤9:=by omega
   have n2:2≤nm.length:=by omega
   clear e1 e2 s1 s2 s3 s4 s13 tk0 hS hT hz hdz nez nL nA nR nRL dk rl e4
   refine ⟨_,.inl t4.s,_,_,rfl,_,_,rfl,?_⟩
   rw [AE]
   generalize hM:(if (46:Int)<(ns.length:Int) then (46:Int) else (ns.length:Int))=M
   have m1:M≤46:=by
    rw [←hM]
    split<;>omega
   have m2:M≤ns.length:=by
    rw [←hM]
    split<;>omega
   have m0:0≤M:=by
    rw [←hM]
    split<;>omega
   refine ⟨⟨by decide,by decide,by omega,by omega⟩,S7 (lo:=4) (n:=(M-4).toNat) (fun i σ H'=>∃(T:HR) (es:List En) (c:Int) (o6 o7 o8:Option V),σ=[some (.ref a),some (.int (3+c0 % 7)),some (.ref NA),some (.ref Z),some (.ref T),some (.int c),o6,o7,o8]∧Tn K ns a NA nm H' Z L A R T es c∧c≤i) ⟨T,[],0,_,_,_,rfl,t4,by decide⟩ ?_ ?_⟩
   ·rintro i σ Hx hi ⟨T,es,c,o6,o7,o8,rfl,t,ci⟩
    have jl:4+i<ns.length:=by omega
    refine ⟨_,.int ns[4+i],t.s,A2 (j:=4+i) (by rw [BJ,AD jl];rfl),?_⟩
    generalize ns[4+i]=z
    refine ⟨fun σ H'=>∃(T:HR) (es:List En) (c:Int),σ=[some (.ref a),some (.int (3+c0 % 7)),some (.ref NA),some (.ref Z),some (.ref T),some (.int c),some (.int (4+i)),some (.int z),some (.bl true)]∧Tn K ns a NA nm H' Z L A R T es c∧c≤i+1,?_,?_⟩
    ·have i42:i<42:=by omega
     refine ⟨by show (0:Int)<4;decide,⟨fun _=>⟨fun _=>?_,fun h=>nb h⟩,fun _=>fun T1 H1 s1 e1=>?_⟩⟩
     ·refine ⟨nm,⟨t.na,nl,n2,n9⟩,fun y g H2 s2 gm gg go=>⟨L,A,R,es,g,nm,⟨t.dk.up s2,t.th.up s2,t.ok,gm,gg.1,gg.2,go,t.tk.up s2⟩,fun r T' H3 es' c' fr e3 dk' th' hh tk'=>⟨r,_,rfl,D7.of e3,rfl,_,_,rfl,_,_,rfl,_,_,rfl,rfl,T',es',c',rfl,(t.up s2).fr fr dk' th' ?_ tk',?_⟩⟩⟩
      ·rcases hh with ⟨rfl,rfl⟩|⟨f,rfl,rfl⟩
       ·exact t.ok
       ·exact t.ok.snoc (by omega) gg.1 gg.2 go f
      ·rcases hh with ⟨_,rfl⟩|⟨_,_,rfl⟩<;>omega
     have t1:=t.up s1
     obtain ⟨vs,eT,al⟩:=t1.th
     refine ⟨_,_,.lst (A1.of eT) (Agb (Apb al)),.lst (A1.of e1) .nil,Ap0 fun e he=>⟨(t.ok.g e he).na.sok,(t.ok.g e he).nb.sok⟩,rfl,⟨fun _=>⟨by show (0:Int)<8;decide,⟨fun _=>?_,fun _=>?_⟩⟩,fun _=>⟨fun h=>nb h,fun _=>?_⟩⟩⟩
     ·refine ⟨nm,⟨t1.na,nl,n2,n9⟩,fun y g H2 s2 gm gg go=>⟨L,A,R,es,g,nm,⟨t1.dk.up s2,t1.th.up s2,t1.ok,gm,gg.1,gg.2,go,t1.tk.up s2⟩,fun r T' H3 es' c' fr e3 dk' th' hh tk'=>⟨r,_,rfl,D7.of e3,rfl,_,_,rfl,_,_,rfl,_,_,rfl,rfl,T',es',c',rfl,(t1.up s2).fr fr dk' th' ?_ tk',?_⟩⟩⟩
      ·rcases hh with ⟨rfl,rfl⟩|⟨f,rfl,rfl⟩
       ·exact t.ok
       ·exact t.ok.snoc (by omega) gg.1 gg.2 go f
      ·rcases hh with ⟨_,rfl⟩|⟨_,_,rfl⟩<;>omega
     ·exact ⟨L,A,R,es,nm,⟨t1.dk,t1.th,t1.ok,t1.tk⟩,fun r T' H3 n fr e3 dk' th' tk'=>⟨r,_,rfl,D7.of e3,rfl,_,_,rfl,_,_,rfl,_,_,rfl,rfl,T',_,c,rfl,t1.fr fr dk' th' (Acf t1.ok) tk',by omega⟩⟩
     ·exact ⟨L,A,R,es,nm,⟨t1.dk,t1.th,t1.ok,t1.tk⟩,fun r T' H3 n fr e3 dk' th' tk'=>⟨r,_,rfl,D7.of e3,rfl,_,_,rfl,_,_,rfl,_,_,rfl,rfl,T',_,c,rfl,t1.fr fr dk' th' (Acf t1.ok) tk',by omega⟩⟩
    rintro σ H2 ⟨T,es,c,rfl,t,ci⟩
    refine ⟨fun h=>nb h,fun _=>⟨t.s,by decide,fun c2=>⟨by show (0:Int)<42;decide,⟨fun _=>⟨L,A,R,es,c,nm,⟨t.dk,t.th,t.ok,t.rl,t.n,t.tk⟩,fun H3 sm tk=>⟨fun h=>nb h,fun _=>⟨T,es,c,_,_,_,rfl,t.sm sm tk,ci⟩⟩⟩,fun _=>⟨fun h=>nb h,fun _=>⟨T,es,c,_,_,_,rfl,t,ci⟩⟩⟩⟩⟩⟩
   ·rintro σ Hx ⟨T,es,c,o6,o7,o8,rfl,t,ci⟩
    exact ⟨L,A,R,es,c,nm,⟨t.dk,t.th,t.ok,t.rl,t.n,t.tk⟩,fun H' _ _=>k H'⟩
end
theorem Kv {us:HY}{n:Nat}(h:us.length=n+1):∃a l,us=a::l∧l.length=n:=by
 cases us with
 |nil=>cases h
 |cons a l=>exact ⟨a,l,rfl,Nat.succ.inj h⟩
theorem lenE1 (us:HY)(h:us.length=1):∃y0:HP,us=[y0]:=by
 obtain ⟨y0,l0,rfl,h0⟩:=Kv h
 cases CJ.mp h0
 exact ⟨_,rfl⟩
theorem lenE2 (us:HY)(h:us.length=2):∃y0 y1:HP,us=[y0,y1]:=by
 obtain ⟨y0,l0,rfl,h0⟩:=Kv h
 obtain ⟨y1,l1,rfl,h1⟩:=Kv h0
 cases CJ.mp h1
 exact ⟨_,_,rfl⟩
theorem lenE3 (us:HY)(h:us.length=3):∃y0 y1 y2:HP,us=[y0,y1,y2]:=by
 obtain ⟨y0,l0,rfl,h0⟩:=Kv h
 obtain ⟨y1,l1,rfl,h1⟩:=Kv h0
 obtain ⟨y2,l2,rfl,h2⟩:=Kv h1
 cases CJ.mp h2
 exact ⟨_,_,_,rfl⟩
theorem lenE4 (us:HY)(h:us.length=4):∃y0 y1 y2 y3:HP,us=[y0,y1,y2,y3]:=by
 obtain ⟨y0,l0,rfl,h0⟩:=Kv h
 obtain ⟨y1,l1,rfl,h1⟩:=Kv h0
 obtain ⟨y2,l2,rfl,h2⟩:=Kv h1
 obtain ⟨y3,l3,rfl,h3⟩:=Kv h2
 cases CJ.mp h3
 exact ⟨_,_,_,_,rfl⟩
theorem lenE5 (us:HY)(h:us.length=5):∃y0 y1 y2 y3 y4:HP,us=[y0,y1,y2,y3,y4]:=by
 obtain ⟨y0,l0,rfl,h0⟩:=Kv h
 obtain ⟨y1,l1,rfl,h1⟩:=Kv h0
 obtain ⟨y2,l2,rfl,h2⟩:=Kv h1
 obtain ⟨y3,l3,rfl,h3⟩:=Kv h2
 obtain ⟨y4,l4,rfl,h4⟩:=Kv h3
 cases CJ.mp h4
 exact ⟨_,_,_,_,_,rfl⟩
theorem dmk {K:KKf}{h:Heap}{mg:Str→IA}{x:Str}{st:Stmt}{ps:HW}{f:HR}{od an:IB}{sl:Array (IA)}{oc kV dc pm cd ct:HP}(X:K.In h)(G:h.Ns mainGlobals mg)(a:PySem.W.nsIn K mainGlobals x=some (some (.ref f)))(l:K.lookup f=some ⟨oc,od,.func (PySem.W.fnOf x x (Df st) (B9 st) (Ac st) .none kV dc pm an cd ct),sl⟩)(e:PySem.W.codeIn K cd x=true)(k:PySem.W.keepIn K (.ref f)=true)(hb:∀(kV doc pm:HP) (an:IB) (cdv ct:HP) (us:HY),us.length=ps.length→bindArgs (PySem.W.fnOf x x (Df st) (B9 st) (Ac st) .none kV doc pm an cdv ct) ⟨us,[]⟩=pure (ps.zip us)):Bj K mg x st ps:=⟨⟨_,_,Mn l e k,PySem.W.mg_of X G a,(Mn l e k).binds hb⟩⟩
theorem mmk {K:KKf}{x q:Str}{Cs Ds:List HR}{st:Stmt}{ps:HW}{f:HR}{od an:IB}{sl:Array (IA)}{oc kV dc pm cd ct:HP}(A:∀C∈Cs,Aft K C x f)(B:∀C∈Ds,PySem.W.findCls K (.ref C) (.type "type") x=some (.val (.ref f)))(l:K.lookup f=some ⟨oc,od,.func (PySem.W.fnOf x q (Df st) (B9 st) (Ac st) .none kV dc pm an cd ct),sl⟩)(e:PySem.W.codeIn K cd q=true)(k:PySem.W.keepIn K (.ref f)=true)(hb:∀(kV doc pm:HP) (an:IB) (cdv ct:HP) (us:HY),us.length=ps.length→bindArgs (PySem.W.fnOf x q (Df st) (B9 st) (Ac st) .none kV doc pm an cdv ct) ⟨us,[]⟩=pure (ps.zip us)):Ef K Cs Ds x q st ps:=⟨⟨_,_,Mn l e k,A,B,(Mn l e k).binds hb⟩⟩
theorem tup_mk {K:KKf}{a:HR}{xs:ID}{us:Array HP}{n:Nat}{sl:Array (IA)}(p:K.lookup a=some ⟨.type "tuple",none,.seq us n,sl⟩)(h:us.size≤sizeLine)(q:A6 xs us.toList):By K a xs:=⟨fun H=>.inr ⟨_,_,_,p,rfl,rfl,h,q⟩,⟨_,p,rfl,rfl⟩⟩
theorem all_mk {l:PySem.W.OpenLaw}{w:HV}{K:KKf}{h:Heap}{mg:Str→IA}{fa:HR}{f18:HR}{od18 an18:IB}{sl18:Array (IA)}{oc18 kV18 dc18 pm18 ct18:HP}{f65:HR}{od65 an65:IB}{sl65:Array (IA)}{oc65 kV65 dc65 pm65 cd65 ct65:HP}{ts:List HR}{cc tP:HR}{vsC:Array HP}{clC:HP}{cdC:IB}{slC:Array (IA)}{aL aM a8 bh bj eO ai:HR}{bV:HR}{bo:HR}{eQ:HR}{aQ:HR}{bW:HR}{aR:HR}{bX:HR}{aS:HR}{bY:HR}{aU:HR}{bZ:HR}{aV:HR}{c5:HR}{c6:HR}{bx:HR}{dB:HR}{cW:HR}{dC:HR}{c7:HR}{aw:HR}{ax:HR}{bc:HR}{c8:HR}{bN:HR}{bO:HR}{aa:HR}{bA:HR}{aE:HR}{ah:HR}{aH:HR}{au:HR}{bB:HR}{bC:HR}{aJ:HR}{fv_put_game:HR}{fv_take_game:HR}{fv_tell_book:HR}{fv_tell_running:HR}(X:K.In h)(G:h.Ns mainGlobals mg)(hfa:mg "law"=some (.ref fa))(gy:Bj K mg "is_whole" K7 ["thing"])(gz:Bj K mg "fraction" Kb ["top","bottom"])(eg:Bj K mg "greatest_divisor" Dk ["one","other"])(hX:Bj K mg "plus" Z4 ["one","other"])(hE:Bj K mg "minus" Um ["one","other"])(hF:Bj K mg "under" Th ["one","other"])(hZ:Bj K mg "game" Y9 ["day","one","other","halves","side"])(fK:Bj K mg "is_between" Gv ["thing","least","most"])(gK:Bj K mg "is_name" M5 ["thing"])(fU:Bj K mg "read_game" Ik ["text"])(fV:Bj K mg "is_number" Ji ["word","longest"])(fL:Bj K mg "is_starred" Gw ["word"])(fW:Bj K mg "unstarred" Jg ["word"])(gL:Bj K mg "side_of" Mm ["one","other"])(fX:Bj K mg "show_game" Jo ["played"])(gM:Bj K mg "starred" Nv ["name","had_side"])(fM:Bj K mg "check_size" G9 ["games"])(fY:Bj K mg "show_book" Jf ["games"])(a18:PySem.W.nsIn K mainGlobals "in_order"=some (some (.ref f18)))(l18:K.lookup f18=some ⟨oc18,od18,.func (PySem.W.fnOf "in_order" "in_order" (Df Di) (B9 Di) (Ac Di) .none kV18 dc18 pm18 an18 (.ref cc) ct18),sl18⟩)(e18:PySem.W.codeIn K (.ref cc) "in_order"=true)(k18:PySem.W.keepIn K (.ref f18)=true)(gN:Bj K mg "players" Nh ["games"])(hJ:Bj K mg "trail" Ui ["rule","games"])(fZ:Bj K mg "next_step" Jd ["rule","worths","days","played"])(fG:Bj K mg "rest_behind" Ga ["days","day"])(i3:Bj K mg "move" Z6 ["worths","step"])(gO:Bj K mg "running" Nu ["rule","games"])(eM:Ef K [a8] [] "__init__" "Ledger.__init__" D6 ["self","rule"])(fN:Ef K [a8] [] "put" "Ledger.put" G4 ["self","played"])(fH:Ef K [a8] [] "take" "Ledger.take" F6 ["self","number"])(fm:Ef K [a8] [] "games" "Ledger.games" Fp ["self"])(ff:Ef K [a8] [] "worths" "Ledger.worths" E1 ["self"])(gQ:Bj K mg "reached" Nj ["kept","number"])(gY:Bj K mg "behind" Ql ["kept","number"])(gA:Bj K mg "table_of" Ki ["rows"])(gZ:Bj K mg "is_row" P1 ["thing"])(gR:Bj K mg "is_pair" Nd ["thing"])(gB:Bj K mg "is_share" Ke ["thing"])(gT:Bj K mg "goes_on" Mu ["row","later"])(gC:Bj K mg "share_by" Fe ["table","difference"])(fh:Ef K [ai] [] "__init__" "Rule.__init__" E4 ["self","step","first","table"])(g6:Ef K [ai] [] "size" "Rule.size" Ip ["self","played","rest"])(gD:Ef K [ai] [] "bit" "Rule.bit" Kr ["self","difference","halves","played","rest"])(g9:Ef K [ai] [] "twin" "Rule.twin" Ih ["self"])(gc:Bj K mg "uncut_bit" Jp ["size","share","halves"])(fj:Bj K mg "show_fraction" Ey ["one"])(fI:Bj K mg "show_number" F9 ["number"])(gE:Bj K mg "put_game" Ka ["desk","text"])(gf:Bj K mg "take_game" Io ["desk","things"])(gh:Bj K mg "tell_book" Jm ["desk","things"])(ft:Bj K mg "tell_running" Ff ["desk","things"])(fO:Bj K mg "show_pairs" Gz ["pairs"])(fk:Ef K [aL] [] "__init__" "Desk.__init__" Ex ["self"])(gF:Ef K [aL] [] "say" "Desk.say" Kf ["self","row"])(fu:Bj K mg "answer_words" Fl ["desk","words"])(fP:Bj K mg "read_thing" G7 ["word","pair"])(gj:Bj K mg "_law_cell_at" Iu ["_law_script","_law_k"])(gU:Bj K mg "_law_names" Mz ["_law_cell","_law_many"])(hU:Bj K mg "_law_row" Te ["_law_cell","_law_names_here"])(gk:Bj K mg "_law_written" Jj ["_law_row_here"])(gW:Bj K mg "_law_asked" M8 ["_law_desk","_law_row_here"])(gq:Bj K mg "_law_players" Jl ["_law_rows"])(gr:Bj K mg "_law_by_days" Iw ["_law_there"])(hV:Bj K mg "_law_put" Tj ["_law_desk","_law_there","_law_count","_law_row_here"])(gX:Bj K mg "_law_taken" Mo ["_law_desk","_law_there","_law_count","_law_cell"])(fQ:Bj K mg "_law_fraction" G8 ["_law_one"])(gG:Bj K mg "_law_stands" K6 ["_law_desk","_law_there"])(a65:PySem.W.nsIn K mainGlobals "law"=some (some (.ref f65)))(l65:K.lookup f65=some ⟨oc65,od65,.func (PySem.W.fnOf "law" "law" (Df J5) (B9 J5) (Ac J5) .none kV65 dc65 pm65 an65 cd65 ct65),sl65⟩)(e65:PySem.W.codeIn K cd65 "law"=true)(k65:PySem.W.keepIn K (.ref f65)=true)(t1:K.lookup cc=some ⟨clC,cdC,.fields vsC,slC⟩)(t2:(vsC[11]?:IA)=some (.ref tP))(t3:PySem.W.codeHdIn K cc tP=true)(t4:K.lookup tP=none)(t8:tP∈ts)(er:Aqn K mg aL aM a8 bh bj eO ai)(fB:mg "abs"=none)(eo:mg "all"=none)(fw:mg "bool"=none)(cX:mg "int"=none)(a6:mg "isinstance"=none)(ak:mg "len"=none)(aO:mg "list"=none)(gu:mg "max"=none)(fC:mg "min"=none)(bP:mg "range"=none)(bU:mg "reversed"=none)(eN:mg "set"=none)(aq:mg "sorted"=none)(aX:mg "str"=none)(eC:mg "tuple"=none)(fD:mg "zip"=none)(da:Gp mg "FIGURES" (.str "0123456789"))(cj:Gp mg "FIRST_ROW" (.ref bV))(ck:By K bV [.int (0),.ref bo])(bq:By K bo [.int (1),.int (2)])(bw:Gp mg "FIRST_WORTH" (.int (1500)))(cP:Gp mg "LAST_DAY" (.int (9999)))(cf:Gp mg "LAST_FROM" (.int (1000000)))(cZ:Gp mg "LETTERS" (.str "abcdefghijklmnopqrstuvwxyz"))(bu:Gp mg "LONGEST_DAY" (.int (4)))(b7:Gp mg "LONGEST_NAME" (.int (8)))(aI:Gp mg "LONGEST_NUMBER" (.int (6)))(bL:Gp mg "MOST_GAMES" (.int (40)))(c9:Gp mg "MOST_PART" (.int (9999)))(aZ:Gp mg "MOST_PLAYERS" (.int (8)))(cm:Gp mg "MOST_ROWS" (.int (10)))(bM:Gp mg "PARTING" (.str "; "))(fJ:Gp mg "STEP" (.int (32)))(eX:Gp mg "TABLE" (.ref eQ))(eY:By K eQ [.ref aQ,.ref aR,.ref aS,.ref aU,.ref aV])(de:By K aQ [.int (0),.ref bW])(cq:By K bW [.int (1),.int (2)])(df:By K aR [.int (60),.ref bX])(cu:By K bX [.int (3),.int (5)])(dh:By K aS [.int (160),.ref bY])(cv:By K bY [.int (7),.int (10)])(di:By K aU [.int (280),.ref bZ])(cw:By K bZ [.int (4),.int (5)])(dj:By K aV [.int (460),.ref c5])(cx:By K c5 [.int (9),.int (10)])(bG:Gp mg "TEXT_ROWS" (.ref c6))(bH:Ou l.prog w K c6 [(.inr "put",.ref bx),(.inr "tree",.ref dB),(.inr "group",.ref cW)])(cQ:PySem.W.nsIn K mainGlobals "put_game"=some (some (.ref bx)))(cT:Gp mg "WORDS" (.ref dC))(bQ:By K dC [.str "lost",.str "drew",.str "beat"])(bf:Gp mg "WORD_ROWS" (.ref c7))(bg:Ou l.prog w K c7 [(.inr "take",.ref aw),(.inr "book",.ref ax),(.inr "verdict",.ref bc),(.inr "way",.ref c8),(.inr "ends",.ref bN),(.inr "rank",.ref bO),(.inr "running",.ref aa),(.inr "worth",.ref bA)])(aA:By K aw [.ref bB,.ref aE])(af:By K aE [.ref ah])(ay:By K ah [.int (0),.int (999999)])(aC:By K ax [.ref bC,.ref aH])(ag:By K aH [])(ao:By K aa [.ref aJ,.ref au])(a9:By K au [])(cC:PySem.W.nsIn K mainGlobals "take_game"=some (some (.ref bB)))(cE:PySem.W.nsIn K mainGlobals "tell_book"=some (some (.ref bC)))(b9:PySem.W.nsIn K mainGlobals "tell_running"=some (some (.ref aJ)))(vz_put_game:PySem.W.nsIn K mainGlobals "put_game"=some (some (.ref fv_put_game)))(vz_take_game:PySem.W.nsIn K mainGlobals "take_game"=some (some (.ref fv_take_game)))(vz_tell_book:PySem.W.nsIn K mainGlobals "tell_book"=some (some (.ref fv_tell_book)))(vz_tell_running:PySem.W.nsIn K mainGlobals "tell_running"=some (some (.ref fv_tell_running))) :
  (∃c P,PySem.W.tabIn K "in_order"=some (c,P)∧PySem.W.codeHdIn K c P=true∧K.lookup P=none∧P∈ts)∧∃fd:FuncData,(∀(s:HQ) (v:HP),BindsTo s fd ⟨[v],[]⟩ [("_law_script",v)])∧∀base:Heap,K.In base→base.Ns mainGlobals mg→BmB mg base→Hh l.prog w K mg base (Es l.prog w) 17 fa fd ["_law_script"] (Ju "in_order" K):=by
 have F18:=Mn (st:=Di) l18 e18 k18
 have gH:Bj K mg "in_order" Di ["games"]:=⟨⟨_,_,F18,PySem.W.mg_of X G a18,F18.binds fun _ _ _ _ _ _ us hl=>by obtain ⟨_,rfl⟩:=lenE1 us hl;rfl⟩⟩
 have F65:=Mn (st:=J5) l65 e65 k65
 have i4:Bj K mg "law" J5 ["_law_script"]:=⟨⟨_,_,F65,PySem.W.mg_of X G a65,F65.binds fun _ _ _ _ _ _ us hl=>by obtain ⟨_,rfl⟩:=lenE1 us hl;rfl⟩⟩
 have eJ:FnV K mg "put_game":=⟨_,PySem.W.mg_of X G vz_put_game,vz_put_game⟩
 have dQ:FnV K mg "take_game":=⟨_,PySem.W.mg_of X G vz_take_game,vz_take_game⟩
 have dP:FnV K mg "tell_book":=⟨_,PySem.W.mg_of X G vz_tell_book,vz_tell_book⟩
 have cH:FnV K mg "tell_running":=⟨_,PySem.W.mg_of X G vz_tell_running,vz_tell_running⟩
 have e:=hfa.symm.trans (PySem.W.mg_of X G a65)
 cases e
 have tb:=Al2 (x:="in_order") a18 l18 rfl t1 t2
 have tk:∀base,BmB mg base→Amb K mg base "in_order":=fun base hbm=>⟨⟨_,_,_,_,_,cc,PySem.W.mg_of X G a18,l18,rfl,by rw [Aas tb];exact t3⟩,hbm⟩
 refine ⟨⟨_,_,tb,t3,t4,t8⟩,?_⟩
 refine ⟨PySem.W.fnOf "law" "law" (Df J5) (B9 J5) (Ac J5) .none kV65 dc65 pm65 an65 cd65 ct65,fun s v=>.of_eq rfl,fun base _ _ hbm=>Aef F65 (PySem.W.mg_of X G a65) fun ns=>?_⟩
 have bD:=W4 (P:=l.prog) (w:=w) (base:=base) (ns:=ns) er fw cX a6 gy
 have bp:=J1 (P:=l.prog) (w:=w) (base:=base) (ns:=ns) er fB eg
 have cg:=Aes (P:=l.prog) (w:=w) (base:=base) (ns:=ns) er hF
 have dZ:=Y8 (P:=l.prog) (w:=w) (base:=base) (ns:=ns) er eo a6 ak aX gK cZ b7
 have bE:=Vt (P:=l.prog) (w:=w) (base:=base) (ns:=ns) er eo ak fV da
 have av:=Rq (P:=l.prog) (w:=w) (base:=base) (ns:=ns) er fL
 have ee:=Z1 (P:=l.prog) (w:=w) (base:=base) (ns:=ns) er gM
 have eU:=Y2 (P:=l.prog) (w:=w) (base:=base) (ns:=ns) er eN aq gN
 have bR:=Qb (P:=l.prog) (w:=w) (base:=base) (ns:=ns) er fG
 have cK:=Zw (P:=l.prog) (w:=w) (base:=base) (ns:=ns) er a6 ak eC gR
 have dG:=U9 (P:=l.prog) (w:=w) (base:=base) (ns:=ns) er g6
 have bS:=Qj (P:=l.prog) (w:=w) (base:=base) (ns:=ns) er aO bU aX fI
 have cF:=Uw (P:=l.prog) (w:=w) (base:=base) (ns:=ns) er ak gj
 have fc:=Zc (P:=l.prog) (w:=w) (base:=base) (ns:=ns) er bP gU
 have fT:=Ae5 (P:=l.prog) (w:=w) (base:=base) (ns:=ns) er ak hU
 have bK:=Vq (P:=l.prog) (w:=w) (base:=base) (ns:=ns) er cX aX gk
 have bJ:=Vd (P:=l.prog) (w:=w) (base:=base) (ns:=ns) er eN aq gq
 have dY:=Vz (P:=l.prog) (w:=w) (base:=base) (ns:=ns) er ak bP aq gr
 have dw:=Rb (P:=l.prog) (w:=w) (base:=base) (ns:=ns) er aX fQ
 have az:=Yc er gz bp bD
 have aj:=Rc er fK bD
 have cU:=Vl er fW av
 have eV:=Z9 er gL av
 have dM:=Tt er fX cT bQ ee
 have cY:=Rl er ak fM aZ bL eU
 have eR:=Zk er gT cg
 have cz:=Mr er fB fj bS
 have du:=Q7 er cX fP aI bE
 have gI:=Ai4 er hX az
 have br:=Agt er hE az
 have gJ:=Ajo er hZ cP aj dZ
 have dO:=Tx er fY bM dM
 have aN:=Wh (P:=l.prog) (w:=w) (base:=base) (ns:=ns) er aq gH (tk base hbm)
 have eE:=Xt er gB c9 az aj cK
 have dE:=Uk er gc az
 have dq:=Q6 er fO bM cz
 have dN:=Tg er cX a6 ak aX fU cT bQ bu gJ cU eV av bE
 have fA:=Aig er i3 br gI
 have aK:=Om er aO fm aN
 have fF:=Acw er gY aN
 have fE:=Ac6 er gZ cf eE aj cK
 have cN:=Zd er aO eN aq gQ fF
 have eG:=Yf er eo a6 ak aO fD gA cj ck bq cm eR fE
 have dR:=Vk er gh dO aK
 have dm:=Ra er aO fN cN cY
 have cV:=Pt er fH cN
 have cM:=Xs er gC cg br
 have ae:=Mq er fh eG
 have eI:=Xh er gD dE cM dG
 have eK:=Wj er aX gE dm dN
 have dX:=U4 er gf cV
 have dH:=U8 er ak gu fC fZ eI br bR
 have dJ:=Uj er g9 ae
 have fR:=Ahl er hJ aN fA dH
 have bF:=Kl er eM dJ
 have cO:=Aaa er aq gO fR fA
 have cA:=Np er ff cO aK
 have cG:=Mw er aO fk eX eY de cq df cu dh cv di cw dj cx bw fJ bF ae
 have cI:=Oq er ft dq cA
 have cJ:=On er ak fD fu cH dP dQ bf bg aA af ay aC ag ao a9 cC cE b9 cI dR dX du
 have bI:=Xw er a6 aX gF bG bH cQ eJ cJ eK
 have cR:=Ys er gW bI
 have dA:=Wf er ak gG bJ bI dw cO ae bK dY
 have fS:=Agi er ak aX hV bJ cR bK
 have f9:=Y5 er ak aX gX cR
 exact Anv er ak fC bP i4 dA cF fS fT f9 cG fc
theorem walk {ts:List HR}{l:PySem.W.OpenLaw}{q:HU}{loose:HW}{XP:(Str→IA)→Heap→Prop}{YP:HV→Heap→Prop}{d:DefRec}{K:Params→KKf}(hn:l.most=some 63)(hdf:d.params.defaults=[])
  (hY:∀(w:HV) (h:Heap),YP w h→(K w.params).In h)
  (hT:∀(w:HV) (h:Heap),YP w h→∀P∈ts,h.get? P=some (PySem.W.tabObj #[]))
  (F:∀(w:HV) (mg:Str→IA) (fa:HR) (h:Heap),(K w.params).In h→h.Ns mainGlobals mg→mg d.name=some (.ref fa)→(∃c P,PySem.W.tabIn (K w.params) "in_order"=some (c,P)∧PySem.W.codeHdIn (K w.params) c P=true∧(K w.params).lookup P=none∧P∈ts) ∧
   ∃fd:FuncData,(∀(s:HQ) (u:HP),BindsTo s fd ⟨[u],[]⟩ [("_law_script",u)])∧∀base:Heap,(K w.params).In base→base.Ns mainGlobals mg→BmB mg base→Hh l.prog w (K w.params) mg base (Es l.prog w) 17 fa fd ["_law_script"] (Ju "in_order" (K w.params))) :
  PySem.W.WalkO q loose XP YP l.row.toRowW d [] (fun f vs=>PySem.call f vs):=
 Lw.walk_ofBT (y:="in_order") (n:=63) (k:=17) (x:="_law_script") (CX:=fun w=>Es l.prog w) (sp:=fun w=>Ju "in_order" (K w.params)) hn (by decide) hdf ⟨rfl,by decide,by decide⟩ hY hT F (fun _ _ a ns hl hb hO hS=>⟨ns,a,rfl,hS,hl,hb,hO.1,fun _=>rfl⟩) fun _ _ _ _ _ z=>Aqk z
end My
namespace PySem.W.Fast
def tw10463873537148831050:=0
def tw1162930717029011432:=0
def tw2150562461424944914:=0
def tw10007229796731833818:=0
def tw13180336066292643196:=0
def tw15317625274067313226:=0
def tw750377761078391535:=0
def tw15207114440485988574:=0
def tw9053839387312019506:=0
def tw8648703716957445015:=0
def tw9945867616037342762:=0
def tw15169910906382704675:=0
def tw14452687818723869992:=0
def tw13159032327323518057:=0
def tw9881656729241444959:=0
def tw4072089941389623763:=0
def tw2248515661026043062:=0
def tw7848350850046252370:=0
def tw1215871417100207839:=0
def tw15033269552990730615:=0
def tw3630979182303064092:=0
def tw8167161041611337432:=0
def tw13227129565283611341:=0
def tw15833393763577563462:=0
def tw7772717527028707920:=0
def tw5886274969661519902:=0
def tw16823226702107721731:=0
def tw10706825727903344204:=0
def tw8693170629757138351:=0
def tw3374902758227098317:=0
def tw3261219446915784487:=0
def tw2406457065276358956:=0
def tw118693539148193319:=0
def tw4911674423146549291:=0
def tw14333824734878963982:=0
def tw12603158557154959197:=0
def tw9615923651026069458:=0
def tw10389059837762873204:=0
def tw263582102526225710:=0
def tw8382672102985466143:=0
def tw12126068272701474460:=0
def tw17069814073279211595:=0
def tw7068266167167924049:=0
def tw7790655363861362145:=0
def tw8870906037179920815:=0
def tw1037114534739541996:=0
def tw4463147768120437150:=0
def tw6193640327124060718:=0
def tw10952083242713386252:=0
def tw6420124668652300488:=0
def tw12677259269032510517:=0
def tw5783240131407995962:=0
def tw14922626633369187879:=0
def tw7083805048674292034:=0
def tw2575112551294922561:=0
def tw18099544348674330413:=0
def tw17182221119021589030:=0
def tw3708906163133107190:=0
def tw14721111288377244165:=0
def tw2068211232185578864:=0
def tw2600377138502804560:=0
def tw10432774421348568600:=0
def tw16003915861688936671:=0
def tw12442952364561887242:=0
def tw10028937645883555248:=0
def tw2710846173548413024:=0
def tw12875702262524995137:=0
def tw8038274580363865691:=0
def tw11388701016912212848:=0
def tw6848388624528068854:=0
def tw3966284322107366134:=0
def tw14651769713437476145:=0
def tw13134759723818157564:=0
def tw12576305686204948397:=0
def tw14659845503416139378:=0
def tw13794557830112319103:=0
def tw3051278759539214653:=0
def tw7542275963537145932:=0
def tw832217837545893536:=0
def tw1607883642907587063:=0
def tw10043922197931998958:=0
def tw11486937251419250301:=0
def tw10789531542462607548:=0
def tw275341309565466616:=0
def tw4769633070665534209:=0
def tw11144389206185604851:=0
def tw2918461909618809670:=0
def tw17063156445956376117:=0
def tw6614522329757647694:=0
def tw2384869635058583349:=0
def tw11335979342024654487:=0
def tw9317294796106297012:=0
def tw3844161058492497745:=0
def tw12530518609873139921:=0
def tw3634968685554947184:=0
def tw14475476939204737571:=0
def tw16720112768543340133:=0
def tw8334012821260652296:=0
def tw1738176017171890968:=0
def tw1705832357999288977:=0
def tw15153238902303968288:=0
def tw6378881450000535101:=0
def tw8483938216050790161:=0
def tw8861806252311949578:=0
def tw7161446412721236619:=0
def tw6577838859518060017:=0
def tw14971827137700128856:=0
def tw15065526436280148923:=0
def tw2273109280507870390:=0
def tw13595781483961487520:=0
def tw12759161567153357065:=0
def tw1696447267566897196:=0
def tw3036542293075287572:=0
def tw14594576665347828699:=0
def tw2083801199369946401:=0
def tw15226408765339631263:=0
def tw2007962709070523915:=0
def tw4899787327452209990:=0
def tw14013476904881901832:=0
def tw9049895853039704893:=0
def tw17795679586677577231:=0
def tw18358459667721615522:=0
def tw9729561115310978353:=0
def tw6723214274482579198:=0
def tw12733023826758642802:=0
def tw2217487625850996827:=0
def tw15195438505901111049:=0
def tw15634714087269664016:=0
def tw15154617817539900473:=0
def tw13501735821460933478:=0
def tw4068831619776552702:=0
def tw11767544488759112864:=0
def tw12083343555762737136:=0
def tw9348795736431957638:=0
def tw9750496355784585759:=0
def tw12041928962054036199:=0
def tw8026812719013654885:=0
def tw18090031004912747580:=0
def tw2236622523787299620:=0
def tw15348986649101526802:=0
def tw8472213752834256803:=0
def tw11418519831979410858:=0
def tw7072702835010481124:=0
def tw10998845407618788696:=0
def tw12290834459453241615:=0
def tw1867420108105417359:=0
def tw7229792395726188902:=0
def tw6755696215430325030:=0
def tw10433364660466558766:=0
def tw4345170976961987663:=0
def tw8300047802141313892:=0
def tw5070282355990655505:=0
def tw13311398036346286665:=0
def tw15568056539478439214:=0
def tw8651106746597734779:=0
def tw14587999706175325171:=0
def tw12900699501780494313:=0
def tw5832741092704178535:=0
def tw16072756371834892416:=0
def tw4555684350333771012:=0
def tw8658389786681013589:=0
def tw6814683823762932618:=0
def tw8173538070607700437:=0
def tw16490428504693054094:=0
def tw4166048523107450207:=0
def tw15357315850221492009:=0
def tw17640865835269867813:=0
def tw11575679227032591686:=0
def tw5796810627619706612:=0
def tw1681235826233957187:=0
def tw2156391037675741216:=0
def tw17970970307882911180:=0
def tw18133052581699232895:=0
def tw7682222802539025558:=0
def tw13992654902969290391:=0
def tw4733423901632898783:=0
def tw260018649731553231:=0
def tw5016450336579791293:=0
def tw13051456990644699985:=0
def tw8623589387465317587:=0
def tw13571287355592797767:=0
def tw16167642989499681889:=0
def tw9687507002190412297:=0
def tw16268748157847410363:=0
def tw15986074463300792191:=0
def tw10030136452447646303:=0
def tw10393853665430784336:=0
def tw3419722387142573037:=0
def tw2206797271381684482:=0
def tw13215290845524014999:=0
def tw13864590193828559798:=0
def tw5147988480229453588:=0
def tw10338052109375689789:=0
def tw7176438075041589418:=0
def tw13928425230567207733:=0
def tw18281081576652608502:=0
def tw14530657816817639689:=0
def tw8621112647236134126:=0
def tw395566037819155937:=0
def tw16035672753461500233:=0
def tw7990726910741256831:=0
def tw3239593539437060171:=0
def tw1746015287486997287:=0
def tw1713677218646302494:=0
def tw15390868739705095640:=0
def tw10456104314960514198:=0
def tw1596112191869755233:=0
def tw2535916346449368452:=0
def tw10303014223076147901:=0
def tw16302470089776147756:=0
def tw5684327299013661085:=0
def tw8795487367224340949:=0
def tw16857190898215206482:=0
def tw1938086065990101177:=0
def tw16156006075868233500:=0
def tw14014663970137271703:=0
def tw17965922242245208697:=0
def tw7518636931456614279:=0
def tw5694152666798986553:=0
def tw13330423087644946399:=0
def tw292628977731763226:=0
def tw15543423693207849698:=0
def tw12037267825708453690:=0
def tw17723723884512795649:=0
def tw1115937504869345846:=0
def tw5805742574460186594:=0
def tw7331245664708558369:=0
def tw9306208873622021674:=0
def tw2714180330076958160:=0
def tw16164464179542340225:=0
def tw4855407733575207518:=0
def tw7305598425481912764:=0
def tw4325464883985681640:=0
def tw17429509470884269275:=0
def tw16298720617914281360:=0
def tw12497226689011036486:=0
def tw892866629450450897:=0
def tw4457297910224748208:=0
def tw5233972036388673319:=0
def tw12012309886831379017:=0
def tw13288129815862841421:=0
def tw2687342810275591137:=0
def tw11456810699657946912:=0
def tw8432658289799502209:=0
def tw16132846227690587896:=0
def tw7722329562799855960:=0
def tw8276370723461901568:=0
def tw7586965632452565583:=0
def tw14386770090172260588:=0
def tw16456143031532012196:=0
def tw10814500565569751716:=0
def tw511310471318399005:=0
def tw11529077730230557070:=0
def tw4912239632830140479:=0
def tw5623561002701239747:=0
def tw3484529843894724979:=0
def tw5139127738733965983:=0
def tw13867196080509753377:=0
def tw18434606543296554746:=0
def tw6797585112178589752:=0
def tw16126019041031617576:=0
def tw8091288095942424161:=0
def tw2454589137302747609:=0
def tw3666595765903489809:=0
def tw15431002983893249172:=0
def tw10151783719481658620:=0
def tw10215240505362369612:=0
def tw1551585231682903196:=0
def tw11212338915174443195:=0
def tw6292109320848974986:=0
def tw6614523057398089811:=0
def tw1788836573091463325:=0
def tw17564060322014394059:=0
def tw4931754576418089092:=0
def tw4493157012457666052:=0
def tw16193818280981252460:=0
def tw921402277471570165:=0
def tw12748251701343340280:=0
def tw4161019846386439067:=0
def tw3626793792950237845:=0
def tw17533782480868808655:=0
def tw1842366180650408666:=0
def tw4855144382217562229:=0
def tw14166643536446804389:=0
def tw14028134417249432960:=0
def tw11137157804946813137:=0
def tw2208032440108266793:=0
def tw7026065118083112226:=0
def tw11520722705027842589:=0
def tw16696581506021869906:=0
def tw11256666547582176396:=0
def tw231373440921851032:=0
def tw7892168604521614996:=0
end PySem.W.Fast
open PySem PySem.W PyProof.Rows
set_option maxRecDepth 100000 in
set_option maxHeartbeats 0 in
theorem PySem.Challenge.cw_ladderworth_k87_whole_put_and_taken_at_t_holds : PySem.Challenge.rw_ladderworth_k87_whole_put_and_taken_at_t.Holds := by
 w_on;o_law;k_head;(case hw=>w_witness2)
 k_fill
 refine My.walk (l:=PySem.Challenge.rw_ladderworth_k87_whole_put_and_taken_at_t) rfl rfl (fun w h Y=>PySem.W.km_in_of Y) (fun w h Y=>PySem.W.km_tabs_of Y) ?F
 case F=>
  intro w mg fa h KX G hmg
  refine' My.all_mk KX G hmg ?d0 ?d1 ?d2 ?d3 ?d4 ?d5 ?d6 ?d7 ?d8 ?d9 ?d10 ?d11 ?d12 ?d13 ?d14 ?d15 ?d16 ?d17 ?a18 ?l18 ?e18 ?k18 ?d19 ?d20 ?d21 ?d22 ?d23 ?d24 ?d25 ?d26 ?d27 ?d28 ?d29 ?d30 ?d31 ?d32 ?d33 ?d34 ?d35 ?d36 ?d37 ?d38 ?d39 ?d40 ?d41 ?d42 ?d43 ?d44 ?d45 ?d46 ?d47 ?d48 ?d49 ?d50 ?d51 ?d52 ?d53 ?d54 ?d55 ?d56 ?d57 ?d58 ?d59 ?d60 ?d61 ?d62 ?d63 ?d64 ?a65 ?l65 ?e65 ?k65 ?t1 ?t2 ?t3 ?t4 ?t8 ?er ?fB ?eo ?fw ?cX ?a6 ?ak ?aO ?gu ?fC ?bP ?bU ?eN ?aq ?aX ?eC ?fD ?da ?cj ?ck ?bq ?bw ?cP ?cf ?cZ ?bu ?b7 ?aI ?bL ?c9 ?aZ ?cm ?bM ?fJ ?eX ?eY ?de ?cq ?df ?cu ?dh ?cv ?di ?cw ?dj ?cx ?bG ?bH ?cQ ?cT ?bQ ?bf ?bg ?aA ?af ?ay ?aC ?ag ?ao ?a9 ?cC ?cE ?b9 ?vz_put_game ?vz_take_game ?vz_tell_book ?vz_tell_running
  (case er=>
   refine' ⟨PySem.W.mg_of KX G ?_,PySem.W.mg_of KX G ?_,PySem.W.mg_of KX G ?_,PySem.W.mg_of KX G ?_,PySem.W.mg_of KX G ?_,PySem.W.mg_of KX G ?_,PySem.W.mg_of KX G ?_,?_,?_,⟨?_,?_,?_,?_,?_,?_⟩,⟨?_,?_,?_,?_,?_,?_⟩,⟨?_,?_,?_,?_,?_,?_⟩,?_,?_,?_,?_,⟨?_,?_,?_,?_⟩,⟨?_,?_⟩,?_,?_,?_,⟨?_,?_,?_,?_⟩,⟨?_,?_⟩,?_,?_,?_,?_,⟨?_,?_,?_,?_⟩,⟨?_,?_⟩,?_,?_,?_,?_,?_⟩
   all_goals (try unfold L2.NoAttr);try (first|k_is|k_exc|kernel_rfl))
  (case d0|d8|d9|d11|d12|d14|d16|d17|d19|d32|d33|d34|d35|d43|d44|d49|d57|d59|d60|d63=>refine' My.dmk KX G ?uA ?uL ?uE ?uK (fun _ _ _ _ _ _ us hl=>by obtain ⟨_,rfl⟩:=My.lenE1 us hl;rfl);(case uA|uL|uE|uK=>k_is))
  (case d1|d2|d3|d4|d5|d10|d13|d15|d20|d22|d23|d24|d30|d31|d36|d37|d45|d46|d47|d48|d52|d53|d54|d55|d56|d58|d64=>refine' My.dmk KX G ?uA ?uL ?uE ?uK (fun _ _ _ _ _ _ us hl=>by obtain ⟨_,_,rfl⟩:=My.lenE2 us hl;rfl);(case uA|uL|uE|uK=>k_is))
  (case d7|d42=>refine' My.dmk KX G ?uA ?uL ?uE ?uK (fun _ _ _ _ _ _ us hl=>by obtain ⟨_,_,_,rfl⟩:=My.lenE3 us hl;rfl);(case uA|uL|uE|uK=>k_is))
  (case d21|d61|d62=>refine' My.dmk KX G ?uA ?uL ?uE ?uK (fun _ _ _ _ _ _ us hl=>by obtain ⟨_,_,_,_,rfl⟩:=My.lenE4 us hl;rfl);(case uA|uL|uE|uK=>k_is))
  (case d6=>refine' My.dmk KX G ?uA ?uL ?uE ?uK (fun _ _ _ _ _ _ us hl=>by obtain ⟨_,_,_,_,_,rfl⟩:=My.lenE5 us hl;rfl);(case uA|uL|uE|uK=>k_is))
  (case d28|d29|d41|d50=>refine' My.mmk (Lw.ac_cons ⟨?uA0,?uI0,?uJ0⟩ Lw.ac_nil) Lw.ac_nil ?uL ?uE ?uK (fun _ _ _ _ _ _ us hl=>by obtain ⟨_,rfl⟩:=My.lenE1 us hl;rfl);(case uA0|uI0|uJ0|uL|uE|uK=>first|k_is|kernel_rfl))
  (case d25|d26|d27|d51=>refine' My.mmk (Lw.ac_cons ⟨?uA0,?uI0,?uJ0⟩ Lw.ac_nil) Lw.ac_nil ?uL ?uE ?uK (fun _ _ _ _ _ _ us hl=>by obtain ⟨_,_,rfl⟩:=My.lenE2 us hl;rfl);(case uA0|uI0|uJ0|uL|uE|uK=>first|k_is|kernel_rfl))
  (case d39=>refine' My.mmk (Lw.ac_cons ⟨?uA0,?uI0,?uJ0⟩ Lw.ac_nil) Lw.ac_nil ?uL ?uE ?uK (fun _ _ _ _ _ _ us hl=>by obtain ⟨_,_,_,rfl⟩:=My.lenE3 us hl;rfl);(case uA0|uI0|uJ0|uL|uE|uK=>first|k_is|kernel_rfl))
  (case d38=>refine' My.mmk (Lw.ac_cons ⟨?uA0,?uI0,?uJ0⟩ Lw.ac_nil) Lw.ac_nil ?uL ?uE ?uK (fun _ _ _ _ _ _ us hl=>by obtain ⟨_,_,_,_,rfl⟩:=My.lenE4 us hl;rfl);(case uA0|uI0|uJ0|uL|uE|uK=>first|k_is|kernel_rfl))
  (case d40=>refine' My.mmk (Lw.ac_cons ⟨?uA0,?uI0,?uJ0⟩ Lw.ac_nil) Lw.ac_nil ?uL ?uE ?uK (fun _ _ _ _ _ _ us hl=>by obtain ⟨_,_,_,_,_,rfl⟩:=My.lenE5 us hl;rfl);(case uA0|uI0|uJ0|uL|uE|uK=>first|k_is|kernel_rfl))
  (case a18|l18|e18|k18=>k_is)
  (case a65|l65|e65|k65=>k_is)
  (case t1=>k_is)
  (case t2=>exact rfl)
  (case t3|t4=>kernel_rfl)
  (case t8=>exact List.mem_singleton.mpr rfl)
  (case fB|eo|fw|cX|a6|ak|aO|gu|fC|bP|bU|eN|aq|aX|eC|fD=>refine' PySem.W.mg_none_of KX G ?_;k_is)
  (case da=>refine' ⟨_,PySem.W.mg_of KX G ?uP,?uQ⟩;(case uP=>k_is);(case uQ=>exact ⟨_,rfl⟩))
  (case cj=>refine' ⟨_,PySem.W.mg_of KX G ?uP,rfl⟩;(case uP=>k_is))
  (case ck=>refine' My.tup_mk ?uP ?uH ?uQ;(case uP=>k_is);(case uH=>show 2≤sizeLine;decide);(case uQ=>exact (Paired.cons ⟨_,rfl⟩ (Paired.cons rfl Paired.nil))))
  (case bq=>refine' My.tup_mk ?uP ?uH ?uQ;(case uP=>k_is);(case uH=>show 2≤sizeLine;decide);(case uQ=>exact (Paired.cons ⟨_,rfl⟩ (Paired.cons ⟨_,rfl⟩ Paired.nil))))
  (case bw=>refine' ⟨_,PySem.W.mg_of KX G ?uP,?uQ⟩;(case uP=>k_is);(case uQ=>exact ⟨_,rfl⟩))
  (case cP=>refine' ⟨_,PySem.W.mg_of KX G ?uP,?uQ⟩;(case uP=>k_is);(case uQ=>exact ⟨_,rfl⟩))
  (case cf=>refine' ⟨_,PySem.W.mg_of KX G ?uP,?uQ⟩;(case uP=>k_is);(case uQ=>exact ⟨_,rfl⟩))
  (case cZ=>refine' ⟨_,PySem.W.mg_of KX G ?uP,?uQ⟩;(case uP=>k_is);(case uQ=>exact ⟨_,rfl⟩))
  (case bu=>refine' ⟨_,PySem.W.mg_of KX G ?uP,?uQ⟩;(case uP=>k_is);(case uQ=>exact ⟨_,rfl⟩))
  (case b7=>refine' ⟨_,PySem.W.mg_of KX G ?uP,?uQ⟩;(case uP=>k_is);(case uQ=>exact ⟨_,rfl⟩))
  (case aI=>refine' ⟨_,PySem.W.mg_of KX G ?uP,?uQ⟩;(case uP=>k_is);(case uQ=>exact ⟨_,rfl⟩))
  (case bL=>refine' ⟨_,PySem.W.mg_of KX G ?uP,?uQ⟩;(case uP=>k_is);(case uQ=>exact ⟨_,rfl⟩))
  (case c9=>refine' ⟨_,PySem.W.mg_of KX G ?uP,?uQ⟩;(case uP=>k_is);(case uQ=>exact ⟨_,rfl⟩))
  (case aZ=>refine' ⟨_,PySem.W.mg_of KX G ?uP,?uQ⟩;(case uP=>k_is);(case uQ=>exact ⟨_,rfl⟩))
  (case cm=>refine' ⟨_,PySem.W.mg_of KX G ?uP,?uQ⟩;(case uP=>k_is);(case uQ=>exact ⟨_,rfl⟩))
  (case bM=>refine' ⟨_,PySem.W.mg_of KX G ?uP,?uQ⟩;(case uP=>k_is);(case uQ=>exact ⟨_,rfl⟩))
  (case fJ=>refine' ⟨_,PySem.W.mg_of KX G ?uP,?uQ⟩;(case uP=>k_is);(case uQ=>exact ⟨_,rfl⟩))
  (case eX=>refine' ⟨_,PySem.W.mg_of KX G ?uP,rfl⟩;(case uP=>k_is))
  (case eY=>refine' My.tup_mk ?uP ?uH ?uQ;(case uP=>k_is);(case uH=>show 5≤sizeLine;decide);(case uQ=>exact (Paired.cons rfl (Paired.cons rfl (Paired.cons rfl (Paired.cons rfl (Paired.cons rfl Paired.nil)))))))
  (case de=>refine' My.tup_mk ?uP ?uH ?uQ;(case uP=>k_is);(case uH=>show 2≤sizeLine;decide);(case uQ=>exact (Paired.cons ⟨_,rfl⟩ (Paired.cons rfl Paired.nil))))
  (case cq=>refine' My.tup_mk ?uP ?uH ?uQ;(case uP=>k_is);(case uH=>show 2≤sizeLine;decide);(case uQ=>exact (Paired.cons ⟨_,rfl⟩ (Paired.cons ⟨_,rfl⟩ Paired.nil))))
  (case df=>refine' My.tup_mk ?uP ?uH ?uQ;(case uP=>k_is);(case uH=>show 2≤sizeLine;decide);(case uQ=>exact (Paired.cons ⟨_,rfl⟩ (Paired.cons rfl Paired.nil))))
  (case cu=>refine' My.tup_mk ?uP ?uH ?uQ;(case uP=>k_is);(case uH=>show 2≤sizeLine;decide);(case uQ=>exact (Paired.cons ⟨_,rfl⟩ (Paired.cons ⟨_,rfl⟩ Paired.nil))))
  (case dh=>refine' My.tup_mk ?uP ?uH ?uQ;(case uP=>k_is);(case uH=>show 2≤sizeLine;decide);(case uQ=>exact (Paired.cons ⟨_,rfl⟩ (Paired.cons rfl Paired.nil))))
  (case cv=>refine' My.tup_mk ?uP ?uH ?uQ;(case uP=>k_is);(case uH=>show 2≤sizeLine;decide);(case uQ=>exact (Paired.cons ⟨_,rfl⟩ (Paired.cons ⟨_,rfl⟩ Paired.nil))))
  (case di=>refine' My.tup_mk ?uP ?uH ?uQ;(case uP=>k_is);(case uH=>show 2≤sizeLine;decide);(case uQ=>exact (Paired.cons ⟨_,rfl⟩ (Paired.cons rfl Paired.nil))))
  (case cw=>refine' My.tup_mk ?uP ?uH ?uQ;(case uP=>k_is);(case uH=>show 2≤sizeLine;decide);(case uQ=>exact (Paired.cons ⟨_,rfl⟩ (Paired.cons ⟨_,rfl⟩ Paired.nil))))
  (case dj=>refine' My.tup_mk ?uP ?uH ?uQ;(case uP=>k_is);(case uH=>show 2≤sizeLine;decide);(case uQ=>exact (Paired.cons ⟨_,rfl⟩ (Paired.cons rfl Paired.nil))))
  (case cx=>refine' My.tup_mk ?uP ?uH ?uQ;(case uP=>k_is);(case uH=>show 2≤sizeLine;decide);(case uQ=>exact (Paired.cons ⟨_,rfl⟩ (Paired.cons ⟨_,rfl⟩ Paired.nil))))
  (case bG=>refine' ⟨_,PySem.W.mg_of KX G ?uP,rfl⟩;(case uP=>k_is))
  (case bH=>refine' Lw.dic_mk ?uP (Lw.DEs.cons rfl (Lw.DEs.cons rfl (Lw.DEs.cons rfl Lw.DEs.nil))) (Paired.cons ⟨rfl,rfl⟩ (Paired.cons ⟨rfl,rfl⟩ (Paired.cons ⟨rfl,rfl⟩ Paired.nil))) ?uD ?uS;(case uP=>k_is);(case uD|uS=>decide))
  (case cQ=>k_is)
  (case cT=>refine' ⟨_,PySem.W.mg_of KX G ?uP,rfl⟩;(case uP=>k_is))
  (case bQ=>refine' My.tup_mk ?uP ?uH ?uQ;(case uP=>k_is);(case uH=>show 3≤sizeLine;decide);(case uQ=>exact (Paired.cons ⟨_,rfl⟩ (Paired.cons ⟨_,rfl⟩ (Paired.cons ⟨_,rfl⟩ Paired.nil)))))
  (case bf=>refine' ⟨_,PySem.W.mg_of KX G ?uP,rfl⟩;(case uP=>k_is))
  (case bg=>refine' Lw.dic_mk ?uP (Lw.DEs.cons rfl (Lw.DEs.cons rfl (Lw.DEs.cons rfl (Lw.DEs.cons rfl (Lw.DEs.cons rfl (Lw.DEs.cons rfl (Lw.DEs.cons rfl (Lw.DEs.cons rfl Lw.DEs.nil)))))))) (Paired.cons ⟨rfl,rfl⟩ (Paired.cons ⟨rfl,rfl⟩ (Paired.cons ⟨rfl,rfl⟩ (Paired.cons ⟨rfl,rfl⟩ (Paired.cons ⟨rfl,rfl⟩ (Paired.cons ⟨rfl,rfl⟩ (Paired.cons ⟨rfl,rfl⟩ (Paired.cons ⟨rfl,rfl⟩ Paired.nil)))))))) ?uD ?uS;(case uP=>k_is);(case uD|uS=>decide))
  (case aA=>refine' My.tup_mk ?uP ?uH ?uQ;(case uP=>k_is);(case uH=>show 2≤sizeLine;decide);(case uQ=>exact (Paired.cons rfl (Paired.cons rfl Paired.nil))))
  (case af=>refine' My.tup_mk ?uP ?uH ?uQ;(case uP=>k_is);(case uH=>show 1≤sizeLine;decide);(case uQ=>exact (Paired.cons rfl Paired.nil)))
  (case ay=>refine' My.tup_mk ?uP ?uH ?uQ;(case uP=>k_is);(case uH=>show 2≤sizeLine;decide);(case uQ=>exact (Paired.cons ⟨_,rfl⟩ (Paired.cons ⟨_,rfl⟩ Paired.nil))))
  (case aC=>refine' My.tup_mk ?uP ?uH ?uQ;(case uP=>k_is);(case uH=>show 2≤sizeLine;decide);(case uQ=>exact (Paired.cons rfl (Paired.cons rfl Paired.nil))))
  (case ag=>refine' My.tup_mk ?uP ?uH ?uQ;(case uP=>k_is);(case uH=>show 0≤sizeLine;decide);(case uQ=>exact Paired.nil))
  (case ao=>refine' My.tup_mk ?uP ?uH ?uQ;(case uP=>k_is);(case uH=>show 2≤sizeLine;decide);(case uQ=>exact (Paired.cons rfl (Paired.cons rfl Paired.nil))))
  (case a9=>refine' My.tup_mk ?uP ?uH ?uQ;(case uP=>k_is);(case uH=>show 0≤sizeLine;decide);(case uQ=>exact Paired.nil))
  (case cC|cE|b9=>k_is)
  (case vz_put_game=>k_is)
  (case vz_take_game=>k_is)
  (case vz_tell_book=>k_is)
  (case vz_tell_running=>k_is)
#print axioms PySem.Challenge.cw_ladderworth_k87_whole_put_and_taken_at_t_holds
