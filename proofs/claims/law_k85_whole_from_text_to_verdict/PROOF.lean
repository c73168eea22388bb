import PyProof.Rows.All
import Wide.All
import OpenK.KLine
import OpenK.KWalk
import OpenK.KOwn
import KE.KxBytes
import KE.IntText
import KE.IntTextLaws
import KE.KDictOf
import KE.KIntText
import KE.KNestM
import KE.KRevSl
import KE.KFromBytes
import KE.IntBitsLaws
import KE.KIsAll
import KE.KDictList
import Wide.FinOn
import PyProof.EqAt
import PyProof.EqKinds
import PyProof.TupleCall
import PyProof.Cells
import PyProof.AutoSeq1
import PyProof.MaxThree
import KE.KSortTup
import KE.KDflt
import PyProof.ListOps
import PyProof.NeKinds
import KE.KRevIter
import PyProof.ListStr
import PySem.Challenge.RW_ladderworth_k85_whole_from_text_to_verdi
set_option linter.all false
set_option maxRecDepth 100000
set_option Elab.async false
set_option maxHeartbeats 4000000
local macro_rules | `(tactic| trivial) => `(tactic| first | exact .inl rfl | exact .inr rfl | assumption)
abbrev KKf:=PySem.W.Frag
abbrev IA:=PySem.Value
abbrev IB:=PySem.Shared
abbrev IC:=PySem.Addr
abbrev ID:=PySem.Around
abbrev IE:=PySem.Program
abbrev IF:=PySem.World
abbrev IG:=List PySem.Str
abbrev IH:=List Int
abbrev II:=List IA
abbrev IJ:=List PySem.Expr
abbrev IK:=Option IA
abbrev IM:=List Nat
abbrev AA:=@PySem.wpAny_bind
abbrev AB:=@PySem.Heap.get?_push_of_some
abbrev AC:=@PySem.wpAny_pure
abbrev AD:=@List.getElem?_eq_getElem
abbrev AE:=@List.length_map
abbrev AF:=@Nat.le_refl
abbrev AG:=@List.length_append
abbrev AH:=@List.mem_singleton
abbrev AI:=@Nat.le_trans
abbrev AJ:=@PySem.Heap.get?_push_size
abbrev AK:=@PySem.Heap.lt_size
abbrev AN:=@List.mem_of_getElem?
abbrev AO:=@List.mem_cons_self
abbrev AQ:=@List.mem_cons_of_mem
abbrev AR:=@decide_eq_true
abbrev AS:=@List.mem_cons
abbrev AU:=@of_decide_eq_true
abbrev AV:=@Nat.lt_of_lt_of_le
abbrev AW:=@if_neg
abbrev AX:=@List.size_toArray
abbrev AY:=@List.getElem?_eq_some_iff
abbrev AZ:=@if_pos
abbrev BA:=@List.mem_append_right
abbrev BC:=@Nat.ne_of_lt
abbrev BE:=@List.getElem?_map
abbrev BF:=@decide_eq_false
abbrev BG:=@List.mem_map
abbrev BH:=@List.mem_append
abbrev BJ:=@List.getD_eq_getElem?_getD
abbrev BK:=@Nat.zero_le
abbrev BM:=@Bool.false_ne_true
abbrev BN:=@List.length_cons
abbrev BO:=@Nat.lt_of_le_of_lt
abbrev BP:=@List.getElem?_append_right
abbrev BQ:=@List.map_append
abbrev BR:=@List.length_singleton
abbrev BS:=@Array.length_toList
abbrev BU:=@List.append_assoc
abbrev BV:=@Bool.and_eq_true
abbrev BW:=@List.map_cons
abbrev BX:=@Bool.false_eq_true
abbrev BY:=@List.take_add_one
abbrev BZ:=@List.getElem?_append_left
abbrev CA:=@of_decide_eq_false
abbrev CB:=@PySem.PassesOwn.never
abbrev CC:=@List.mem_append_left
abbrev CD:=@PySem.wpAny_newObj_type
abbrev CF:=@List.mem_filter
abbrev CG:=@PySem.Heap.SameBut.update
abbrev CH:=@List.length_take
abbrev CI:=@List.all_eq_true
abbrev CJ:=@List.append_nil
abbrev CK:=@PySem.wpAny_mono
abbrev CL:=@PySem.Heap.size_push
abbrev CM:=@List.pairwise_cons
abbrev CN:=@List.mem_range
abbrev CO:=@List.take_length
abbrev CP:=@PySem.wpAny_callSpecial?_slot
abbrev CQ:=@PySem.F.plainAttrs_list
abbrev CS:=@Nat.lt_succ_of_lt
abbrev CT:=@List.drop_eq_getElem_cons
abbrev CU:=@PySem.sizeLine_eq
abbrev CV:=@List.length_eq_zero_iff
abbrev CW:=@PySem.W.kia_one
abbrev CY:=@PySem.Obj.data_mapFields
abbrev DA:=@Classical.byContradiction
abbrev DB:=@PySem.wpAny_truthy_bool
abbrev DC:=@bne_self_eq_false
abbrev DD:=@PySem.Heap.get?_update_self
abbrev DE:=@List.length_filter_le
abbrev DF:=@PySem.wpAny_field
abbrev DG:=@Int.emod_nonneg
abbrev DH:=@PyProof.Rows.callWith_type1
abbrev DI:=@Ne.symm
abbrev DJ:=@Int.eq_ofNat_of_zero_le
abbrev DK:=@Int.toNat_natCast
abbrev DL:=@List.getElem_of_mem
abbrev DM:=@List.nodup_cons
abbrev DN:=@Nat.ne_of_gt
abbrev DO:=@PySem.wpAny_Call_Name_kw
abbrev DP:=@PySem.F.called_set
abbrev DQ:=@PySem.wpAny_holding
abbrev DR:=@PySem.wpAny_seqItems
abbrev DS:=@PySem.Around.under_plainId
abbrev DT:=@List.getElem?_cons_succ
abbrev DU:=@if_false
abbrev DV:=@beq_eq_false_iff_ne
abbrev DW:=@Nat.le_succ
abbrev DX:=@PySem.F.plainAttrs_str
abbrev DY:=@Nat.lt_irrefl
abbrev DZ:=@Nat.lt_succ_self
abbrev Eh:=@List.length_drop
abbrev EA:=@List.any_eq_true
abbrev EB:=@Bool.false_and
abbrev EC:=@Array.getElem?_toList
abbrev ED:=@List.eq_nil_of_length_eq_zero
abbrev EE:=@List.getElem?_replicate
abbrev EF:=@ne_true_of_eq_false
abbrev EG:=@Nat.le_of_not_lt
abbrev EH:=@PySem.wpAny_setField
abbrev EI:=@List.lookup_cons
abbrev EJ:=@List.getElem_mem
abbrev EK:=@List.find?_cons_of_pos
abbrev EL:=@Nat.le_of_lt
abbrev EM:=@PySem.wpAny_setField_rec
abbrev EN:=@PySem.F.args_str_split_2
abbrev EO:=@PyProof.Rows.F.plain_set_update_loop
abbrev ER:=@PySem.wpAny_passesOwn
abbrev ES:=@Bool.eq_iff_iff
abbrev ET:=@List.length_replicate
abbrev EU:=@PySem.Obj.isFreed_of_fields
abbrev EV:=@PySem.F.slot_tuple_iterator_next
abbrev EW:=@PySem.F.entry_str_split
abbrev EX:=@PySem.wpAny_setState_of
abbrev EY:=@PySem.typeIs_str
abbrev EZ:=@List.mem_of_mem_take
abbrev FA:=@LawfulBEq.eq_of_beq
abbrev FB:=@Bool.and_false
abbrev FC:=@Option.isSome_iff_exists
abbrev FD:=@PySem.F.slot_str_split
abbrev FE:=@PySem.wpAny_askSetting
abbrev FF:=@PySem.AutoSeq1.wpAny_loadPart'
abbrev FG:=@List.filterMap_cons
abbrev FH:=@PySem.mem_of_lookup
abbrev FI:=@PySem.wpAny_setEntries_of
abbrev FJ:=@PyProof.Rows.slot_tuple_getitem
abbrev FK:=@Nat.add_sub_cancel_left
abbrev FL:=@PySem.wpAny_getItem_str_slice
abbrev FM:=@List.pairwise_singleton
abbrev FN:=@PySem.F.plain_list_iadd
abbrev FO:=@PyProof.Rows.listUpdate_at
abbrev FP:=@List.mem_filterMap
abbrev FQ:=@PySem.Calls.spliced_cons
abbrev FR:=@List.find?_cons
abbrev FS:=@List.take_of_length_le
abbrev FT:=@Int.le_refl
abbrev FU:=@List.find?_cons_of_neg
abbrev FV:=@PySem.F.slot_str_split
abbrev FW:=@PySem.F.type_str_split
abbrev FX:=@PySem.wpAny_pyIter_list
abbrev FY:=@List.any_eq_false
abbrev FZ:=@PySem.Calls.spliced_nil
abbrev GA:=@List.nodup_append
abbrev GB:=@PySem.fits_of_scanBound
abbrev GC:=@List.getElem?_toArray
abbrev GD:=@List.map_map
abbrev GE:=@List.any_map
abbrev GF:=@PySem.wpAny_isInstance
abbrev GG:=@Nat.le_add_right
abbrev GH:=@List.not_mem_nil
abbrev GI:=@decide_eq_decide
abbrev GJ:=@List.any_cons
abbrev GK:=@PySem.wpAny_newList
abbrev GL:=@if_true
abbrev GM:=@Int.mul_fdiv_cancel
abbrev GN:=@List.of_mem_zip
abbrev GP:=@Nat.min_le_left
abbrev GQ:=@List.getLast?_eq_getElem?
abbrev GR:=@Decidable.byContradiction
abbrev GS:=@List.foldl_cons
abbrev GT:=@PySem.codeAny_mono
abbrev GU:=@PySem.W.callWith_K
abbrev GV:=@PySem.tupleKind_room_in1
abbrev GW:=@List.filter_append
abbrev GX:=@beq_iff_eq
abbrev GY:=@PySem.wpAny_rule
abbrev GZ:=@List.drop_zero
abbrev HA:=@List.getElem?_cons_zero
abbrev HB:=@List.append_cancel_left
abbrev HC:=@PySem.Obj.cls_mapFields
abbrev HD:=@List.foldl_append
abbrev HE:=@List.length_range
abbrev HF:=@PySem.Heap.get?_push_ne
abbrev HI:=@Array.getElem?_eq_none
abbrev HJ:=@PySem.wpAny_standAt
abbrev HK:=@Bool.true_and
abbrev HL:=@PySem.plainId_quiet
abbrev HM:=@PySem.F.slot_dict_get
abbrev HN:=@List.getElem?_eq_none
abbrev HP:=@Array.size_eq_one_iff
abbrev HQ:=@PySem.wpAny_execs_nil
abbrev HR:=@Nat.le_of_eq
abbrev HS:=@Option.map_some
abbrev HU:=@PySem.F.slot_zip_next
abbrev HV:=@PySem.post_val_or_str
abbrev HW:=@PySem.Txt.slice_le
abbrev HY:=@Bool.or_eq_true
abbrev HZ:=@List.all_map
namespace L2
open PySem PySem.Spec PyProof.Rows
abbrev Bg:=Sum Int Str
def Nc:Bg→IA→Bool
 |.inl k,v=>Value.isInt k v
 |.inr x,v=>Value.isStrOf x v
def Apz (w:IF):Bg→Int
 |.inl k=>hashInt k
 |.inr x=>hashStr w x
theorem Bz:∀{k:Bg} {v:IA},Nc k v=true→(∃i t,k=Sum.inl i∧v=Value.int i t)∨(∃x t,k=Sum.inr x∧v=Value.str x t)
 |.inl i,v,h=>by
  obtain ⟨t,e⟩:=Value.isInt_shape (k:=i) (v:=v) h
  exact .inl ⟨i,t,rfl,e⟩
 |.inr x,v,h=>by
  obtain ⟨t,e⟩:=Value.isStrOf_shape (x:=x) (v:=v) h
  exact .inr ⟨x,t,rfl,e⟩
theorem Abk (i:Int)(t:Tok):Nc (.inl i) (.int i t)=true:=by simp [Nc,Value.isInt]
theorem Aba (x:Str)(t:Tok):Nc (.inr x) (.str x t)=true:=by simp [Nc,Value.isStrOf]
theorem Aje (a b:Int):decide ((Sum.inl a:Bg)=Sum.inl b)=(a==b):=by
 by_cases e:a=b
 ·subst e;simp
 ·have h:¬(Sum.inl a:Bg)=Sum.inl b:=fun q=>e (Sum.inl.inj q)
  rw [BF h]
  exact (DV.mpr e).symm
theorem Alq (a b:Str):decide ((Sum.inr a:Bg)=Sum.inr b)=decide (a=b):=by
 by_cases e:a=b
 ·subst e;simp
 ·have h:¬(Sum.inr a:Bg)=Sum.inr b:=fun q=>e (Sum.inr.inj q)
  rw [BF h,BF e]
theorem Akd (a:Int)(b:Str):decide ((Sum.inl a:Bg)=Sum.inr b)=false:=BF (fun q=>nomatch q)
theorem Aj3 (a:Str)(b:Int):decide ((Sum.inr a:Bg)=Sum.inl b)=false:=BF (fun q=>nomatch q)
def A5 (prog:IE)(w:IF):PySem.KeyKind prog w Bg where
 is:=Nc
 hash:=Apz w
 inj:=fun v a b ha hb=>by
  rcases Bz ha with ⟨i,t,rfl,rfl⟩|⟨x,t,rfl,rfl⟩
  ·rcases Bz hb with ⟨j,u,rfl,e⟩|⟨y,u,rfl,e⟩
   ·injection e with e1 _;rw [e1]
   ·exact nomatch e
  ·rcases Bz hb with ⟨j,u,rfl,e⟩|⟨y,u,rfl,e⟩
   ·exact nomatch e
   ·injection e with e1 _;rw [e1]
 byValue:=fun k v h=>by
  rcases Bz h with ⟨i,t,rfl,rfl⟩|⟨x,t,rfl,rfl⟩<;>rfl
 pyHash:=fun hv h=>by
  rcases Bz hv with ⟨i,t,rfl,rfl⟩|⟨x,t,rfl,rfl⟩
  ·exact wpAny_pyHash_int h
  ·exact wpAny_pyHash_str h
 eqBool:=fun hu hv h=>by
  rcases Bz hu with ⟨i,t,rfl,rfl⟩|⟨x,t,rfl,rfl⟩
  ·rcases Bz hv with ⟨j,u,rfl,rfl⟩|⟨y,u,rfl,rfl⟩
   ·rw [Aje] at h;exact wpAny_eqBool_int h
   ·rw [Akd] at h;exact SeqAt.EqAt.int_str i t y u _ _ _ _ h
  ·rcases Bz hv with ⟨j,u,rfl,rfl⟩|⟨y,u,rfl,rfl⟩
   ·rw [Aj3] at h;exact SeqAt.EqAt.str_int x t j u _ _ _ _ h
   ·rw [Alq] at h;exact wpAny_eqBool_str h
 «strs»:=fun k x t v h=>by
  rcases Bz h with ⟨i,u,rfl,e⟩|⟨y,u,rfl,e⟩
  ·exact nomatch e
  ·injection e with e1 _
   subst e1
   cases v<;>rfl
theorem U0 (prog:IE)(w:IF)(i:Int)(t:Tok):(A5 prog w).is (.inl i) (.int i t)=true:=Abk i t
theorem Jg (prog:IE)(w:IF)(x:Str)(t:Tok):(A5 prog w).is (.inr x) (.str x t)=true:=Aba x t
end L2
namespace L2
open PySem PySem.Spec PyProof.Rows
inductive V where
 |non|bl (b:Bool)|int (i:Int)|str (x:Str)|byt (b:Array UInt8)|flt (b:UInt64)|ref (a:IC)|ty (n:String)
 deriving DecidableEq
abbrev IP:=List V
def RelV:V→IA→Prop
 |.non,u=>u=Value.none
 |.bl b,u=>u=Value.bool b
 |.int i,u=>∃t,u=Value.int i t
 |.str x,u=>∃t,u=Value.str x t
 |.byt b,u=>∃t,u=Value.bytes b t
 |.flt b,u=>∃t,u=Value.float b t
 |.ref a,u=>u=Value.ref a
 |.ty n,u=>u=Value.type n
abbrev A6:IP→II→Prop:=Paired RelV
theorem A6.length {xs:IP}{us:II}(r:A6 xs us):xs.length=us.length:=Paired.length r
theorem A6.get:∀{xs:IP} {us:II} {i:Nat} {x:V},A6 xs us→xs[i]? =some x→∃u,us[i]? =some u∧RelV x u
 |_,_,_,_,.nil,e=>by simp at e
 |_,_,0,_,.cons r _,e=>by simp at e;subst e;exact ⟨_,rfl,r⟩
 |_,_,i+1,x,.cons _ t,e=>by
  obtain ⟨u,h1,h2⟩:=A6.get (i:=i) (x:=x) t (by simpa using e)
  exact ⟨u,by simpa using h1,h2⟩
theorem A6.append:∀{xs ys:IP} {us ws:II},A6 xs us→A6 ys ws→A6 (xs++ys) (us++ws)
 |_,_,_,_,.nil,s=>s
 |_,_,_,_,.cons r t,s=>.cons r (A6.append t s)
theorem A6.take:∀{xs:IP} {us:II} (n:Nat),A6 xs us→A6 (xs.take n) (us.take n)
 |_,_,0,_=>.nil
 |_,_,_+1,.nil=>.nil
 |_,_,n+1,.cons r t=>.cons r (A6.take n t)
theorem A6.drop:∀{xs:IP} {us:II} (n:Nat),A6 xs us→A6 (xs.drop n) (us.drop n)
 |_,_,0,r=>r
 |_,_,_+1,.nil=>.nil
 |_,_,n+1,.cons _ t=>A6.drop n t
def G9:Option V→IK→Prop
 |some v,some u=>RelV v u
 |none,none=>True
 |_,_=>False
def KV {κ:Type}:List (κ×V)→List (κ×IA)→Prop:=Paired fun (p:κ×V) (q:κ×IA)=>p.1=q.1∧RelV p.2 q.2
def kV:Bg→V
 |.inl i=>.int i
 |.inr x=>.str x
inductive HO where
 |lst (xs:IP)
 |tup (xs:IP)
 |dK (kvs:List (Bg×V))|dT (kvs:List (List Bg×V))
 |set (S:Int→Bool) (n:Nat)
 |ins (C dx:IC) (fs:List (Str×V))
 |own (x:IC)
 |xd (fs:List (Str×V))
 |met (f x:IC)
 |rng (lo hi:Int)
 |frz (o:Obj) (u:HO)
 |tbl (ps:Array IA)
 |ext (φ:Heap→Prop)
abbrev Hp:=IC→Option HO
def upd (H:Hp)(a:IC)(o:HO):Hp:=fun b=>if b=a then some o else H b
theorem Ac {H:Hp}{a:IC}{o:HO}:upd H a o a=some o:=by unfold upd;rw [AZ rfl]
theorem Am {H:Hp}{a b:IC}{o:HO}(h:b≠a):upd H a o b=H b:=by unfold upd;rw [AW h]
theorem Y4 {H:Hp}{a:IC}{o u:HO}:upd (upd H a o) a u=upd H a u:=by
 funext b;unfold upd;split<;>rfl
theorem Aon {H:Hp}{a b:IC}{o u:HO}(h:H a=some o)(h':H b=some u)(d:o≠u):a≠b:=by
 intro e;subst e;rw [h] at h';exact d (Option.some.inj h')
theorem Bu {H:Hp}{a b:IC}{o:HO}(h:H a=some o)(h':H b=none):a≠b:=by
 intro e;subst e;rw [h] at h';cases h'
section
variable (P:IE)(w:IF)
def Bj (H:Hp)(h:Heap)(a:IC):HO→Prop
 |.lst xs=>xs.length≤sizeLine∧∃(its:II) (n:Nat),A6 xs its∧h.get? a=some { cls:=.type "list",data:=.seq its.toArray n }
 |.tup xs=>xs.length≤sizeLine∧∃its:II,A6 xs its∧IsTup h a its.toArray
 |.dK kvs=>kvs.length≤sizeLine∧(a==sysModules)=false∧∃vs,KV kvs vs∧h.DictOf (A5 P w) a vs
 | .dT kvs=>kvs.length≤sizeLine∧(a==sysModules)=false∧∃xs:List (List Bg×IC×IA),
   Paired (fun (p:List Bg×V) (q:List Bg×IC×IA)=>p.1=q.1∧H q.2.1=some (.tup (p.1.map kV))∧RelV p.2 q.2.2) kvs xs ∧
   ∃o es ep,h.get? a=some o∧o.ExactDict∧o.data=.dict es ep∧es.toList=xs.map (entryOfKey (tupleKind (A5 P w)))∧(xs.map (·.1)).Nodup
 |.set S n=>h.SetOf (intKind P w) a S n
 | .ins C dx fs=>H dx=some (.own a)∧fs.length≤1000∧dx≠a∧h.get? a=some (PySem.W.instObj C dx) ∧
   ∃mA,h.Ns1 dx mA∧(∀f,G9 (fs.lookup f) (mA f))∧PySem.Within mA (fs.map (·.1))
 |.own _=>∃o,h.get? a=some o
 |.xd fs=>∃mA,h.Ns1 a mA∧∀f,G9 (fs.lookup f) (mA f)
 |.rng lo hi=>∃t u v,h.get? a=some { cls:=.type "range",data:=.fields #[.int lo t,.int hi u,.int 1 v] }
 |.frz o u=>h.get? a=some o∧Bj H h a u
 |.tbl ps=>h.get? a=some { cls:=.none,data:=.fields ps }
 |.met f x=>h.get? a=some (PySem.W.methodObj (.ref f) (.ref x))
 |.ext φ=>φ h∧(∃o,h.get? a=some o)∧∀h1 h2:Heap,φ h1→(∀o,h1.get? a=some o→h2.get? a=some o)→φ h2
def Kf (H:Hp)(h:Heap):Prop:=∀a o,H a=some o→Bj P w H h a o
end
section
variable {P:IE}{w:IF}{H H':Hp}{h h':Heap}{a:IC}{o:HO}
theorem Bj.lt (x:Bj P w H h a o):a<h.objs.size:=by
 cases o with
 |lst xs=>obtain ⟨_,_,_,_,e⟩:=x;exact AK e
 |tup xs=>obtain ⟨_,_,_,p⟩:=x;exact p.lt
 |dK kvs=>obtain ⟨_,_,_,_,o,_,_,e,_⟩:=x;exact AK e
 |dT kvs=>obtain ⟨_,_,_,_,o,_,_,e,_⟩:=x;exact AK e
 |set S n=>obtain ⟨o,_,_,_,e,_⟩:=x;exact AK e
 |ins C dx fs=>obtain ⟨_,_,_,e,_⟩:=x;exact AK e
 |own y=>obtain ⟨_,e⟩:=x;exact AK e
 |xd fs=>obtain ⟨_,⟨_,_,_,e,_⟩,_⟩:=x;exact AK e
 |rng lo hi=>obtain ⟨_,_,_,e⟩:=x;exact AK e
 |frz ob u=>obtain ⟨e,_⟩:=x;exact AK e
 |tbl ps=>exact AK (show h.get? a=some _ from x)
 |met f y=>exact AK (show h.get? a=some _ from x)
 |ext φ=>obtain ⟨_,⟨_,e⟩,_⟩:=x;exact AK e
theorem Paired.mapP {α β:Type}{F G:α→β→Prop}:∀{l₁:List α} {l₂:List β},Paired F l₁ l₂→(∀a b,F a b→G a b)→Paired G l₁ l₂
 |_,_,.nil,_=>.nil
 |_,_,.cons r t,f=>.cons (f _ _ r) (Paired.mapP t f)
theorem Bj.stay (x:Bj P w H h a o)(k:∀b u,(b=a∨H b=some (.own a))→h.get? b=some u→h'.get? b=some u)
  (ho:∀b,H b=some (.own a)→H' b=some (.own a)) (ht:∀b xs,H b=some (.tup xs)→H' b=some (.tup xs)):Bj P w H' h' a o:=by
 induction o with
 |lst xs=>obtain ⟨z,its,n,r,e⟩:=x;exact ⟨z,its,n,r,k _ _ (.inl rfl) e⟩
 |tup xs=>obtain ⟨z,its,r,ob,e,c⟩:=x;exact ⟨z,its,r,ob,k _ _ (.inl rfl) e,c⟩
 |dK kvs=>obtain ⟨z,y,vs,r,ob,es,ep,e,c⟩:=x;exact ⟨z,y,vs,r,ob,es,ep,k _ _ (.inl rfl) e,c⟩
 |dT kvs=>
  obtain ⟨z,y,xs,r,ob,es,ep,e,c⟩:=x
  exact ⟨z,y,xs,Paired.mapP r fun p q z=>⟨z.1,ht _ _ z.2.1,z.2.2⟩,ob,es,ep,k _ _ (.inl rfl) e,c⟩
 |set S n=>obtain ⟨ob,es,ep,t,e,c⟩:=x;exact ⟨ob,es,ep,t,k _ _ (.inl rfl) e,c⟩
 |ins C dx fs=>
  obtain ⟨d,z,ne,e,mA,⟨od,es,ep,e2,c⟩,r⟩:=x
  exact ⟨ho _ d,z,ne,k _ _ (.inl rfl) e,mA,⟨od,es,ep,k _ _ (.inr d) e2,c⟩,r⟩
 |own y=>obtain ⟨ob,e⟩:=x;exact ⟨ob,k _ _ (.inl rfl) e⟩
 |xd fs=>obtain ⟨mA,⟨od,es,ep,e,c⟩,r⟩:=x;exact ⟨mA,⟨od,es,ep,k _ _ (.inl rfl) e,c⟩,r⟩
 |rng lo hi=>obtain ⟨t,u,v,e⟩:=x;exact ⟨t,u,v,k _ _ (.inl rfl) e⟩
 |frz ob u ih=>obtain ⟨e,q⟩:=x;exact ⟨k _ _ (.inl rfl) e,ih q⟩
 |tbl ps=>
  have e:h.get? a=some { cls:=.none,data:=.fields ps }:=x
  show h'.get? a=some { cls:=.none,data:=.fields ps }
  exact k a _ (.inl rfl) e
 |met f y=>
  have e:h.get? a=some (PySem.W.methodObj (.ref f) (.ref y)):=x
  show h'.get? a=some (PySem.W.methodObj (.ref f) (.ref y))
  exact k a _ (.inl rfl) e
 |ext φ=>obtain ⟨p,⟨o,e⟩,st⟩:=x;exact ⟨st _ _ p fun o q=>k _ _ (.inl rfl) q,⟨o,k _ _ (.inl rfl) e⟩,st⟩
theorem Kf.lt (x:Kf P w H h)(e:H a=some o):a<h.objs.size:=(x a o e).lt
theorem Kf.fresh (x:Kf P w H h)(e:h.objs.size≤a):H a=none:=by
 cases q:H a with
 |none=>rfl
 |some u=>exact absurd (AV (x.lt q) e) (DY _)
theorem Kf.kept (x:Kf P w H h)(k:∀b u,h.get? b=some u→h'.get? b=some u):Kf P w H h':=fun a o e=>
 (x a o e).stay (fun b u _ q=>k b u q) (fun _ q=>q) fun _ _ q=>q
theorem Kf.laid (x:Kf P w H h)(k:∀b u,h.get? b=some u→h'.get? b=some u)(hp:h.objs.size≤a)(new:Bj P w (upd H a o) h' a o):Kf P w (upd H a o) h':=fun b u e=>by
 have hn:=x.fresh hp
 by_cases hb:b=a
 ·subst hb;rw [Ac] at e;cases e;exact new
 ·rw [Am hb] at e
  exact (x b u e).stay (fun c v _ q=>k c v q) (fun c q=>by rw [Am (Bu q hn)];exact q) fun c xs q=>by rw [Am (Bu q hn)];exact q
end
def Rd (H:Hp)(a:IC)(u:HO):Prop:=H a=some u∨∃o,H a=some (.frz o u)
theorem Rd.ok {P:IE}{w:IF}{H:Hp}{h:Heap}{a:IC}{u:HO}(r:Rd H a u)(x:Kf P w H h):Bj P w H h a u:=by
 rcases r with r|⟨o,r⟩
 ·exact x a u r
 ·obtain ⟨_,q⟩:=x a _ r
  exact q
def Mut:Option HO→Prop
 |some (.lst _)=>True
 |some (.dK _)=>True
 |some (.dT _)=>True
 |some (.set _ _)=>True
 |some (.ins _ _ _)=>True
 |some (.ext _)=>True
 |_=>False
section
variable {P:IE}{w:IF}{H:Hp}{h h':Heap}{x e:IC}{o':HO}
theorem Kf.write (ok:Kf P w H h)(mu:Mut (H x))(he:e=x∨H e=some (.own x))(k:∀b u,b≠e→h.get? b=some u→h'.get? b=some u)(heo:∃u,h'.get? e=some u)
  (new:Bj P w (upd H x o') h' x o'):Kf P w (upd H x o') h':=fun b u q=>by
 have nown:∀c y,H c=some (.own y)→c≠x:=fun c y r z=>by subst z;rw [r] at mu;exact mu
 have ntup:∀c xs,H c=some (.tup xs)→c≠x:=fun c xs r z=>by subst z;rw [r] at mu;exact mu
 by_cases hb:b=x
 ·subst hb;rw [Ac] at q;cases q;exact new
 ·rw [Am hb] at q
  by_cases hbe:b=e
  ·have q':H b=some (.own x):=by
    rcases he with z|z
    ·exact absurd (hbe.trans z) hb
    ·rw [hbe];exact z
   rw [q] at q';cases q'
   obtain ⟨v,hv⟩:=heo
   exact ⟨v,by rw [hbe];exact hv⟩
  ·refine (ok b u q).stay (fun c v hc r=>k c v ?_ r) (fun c r=>by rw [Am (nown c b r)];exact r) fun c xs r=>by rw [Am (ntup c xs r)];exact r
   rcases hc with rfl|hc
   ·exact hbe
   ·rintro rfl
    rcases he with z|z
    ·exact nown c b hc z
    ·rw [hc] at z;cases z;exact hb rfl
end
structure Un (fs ex:List IC)(H H':Hp)(h h':Heap):Prop where
 keep:∀b o,h.get? b=some o→H b=none→b∉fs→b∉ex→h'.get? b=some o
 slot:∀b o,h.get? b=some o→H b=none→b∈fs→b∉ex→∃sl,h'.get? b=some { o with slots:=sl }
 free:∀b o,h.get? b=some o→H b=none→b∉ex→H' b=none
 there:∀b o,h.get? b=some o→b∉ex→∃o',h'.get? b=some o'
 tups:∀b xs,H b=some (.tup xs)→H' b=some (.tup xs)
 frzs:∀b o u,H b=some (.frz o u)→H' b=some (.frz o u)
 tbls:∀b ps,H b=some (.tbl ps)→∃more,H' b=some (.tbl (ps++more))
section
variable {fs fs' ex ex':List IC}{H H1 H2:Hp}{h h1 h2 h':Heap}{a x e:IC}{o:HO}
theorem Un.any (u:Un fs ex H H1 h h1){b:IC}{ob:Obj}(q:h.get? b=some ob)(n:H b=none)(hx:b∉ex):∃sl,h1.get? b=some { ob with slots:=sl }:=by
 by_cases hb:b∈fs
 ·exact u.slot b ob q n hb hx
 ·exact ⟨ob.slots,u.keep b ob q n hb hx⟩
theorem Un.kept (k:∀b u,h.get? b=some u→h'.get? b=some u):Un fs ex H H h h' :=
 ⟨fun b ob q _ _ _=>k b ob q,fun b ob q _ _ _=>⟨ob.slots,k b ob q⟩,fun _ _ _ n _=>n,fun b ob q _=>⟨ob,k b ob q⟩,fun _ _ q=>q,fun _ _ _ q=>q,fun _ ps q=>⟨#[],by rw [q];simp⟩⟩
theorem Un.refl:Un fs ex H H h h:=Un.kept fun _ _ q=>q
theorem Un.laid (k:∀b u,h.get? b=some u→h'.get? b=some u)(hp:h.objs.size≤a)(hn:H a=none):Un fs ex H (upd H a o) h h' where
 keep:=fun b u q _ _ _=>k b u q
 slot:=fun b u q _ _ _=>⟨u.slots,k b u q⟩
 free:=fun b u q n _=>by rw [Am (BC (AV (AK q) hp))];exact n
 there:=fun b u q _=>⟨u,k b u q⟩
 tups:=fun b xs q=>by rw [Am (Bu q hn)];exact q
 frzs:=fun b u xs q=>by rw [Am (Bu q hn)];exact q
 tbls:=fun b ps q=>⟨#[],by rw [Am (Bu q hn),q];simp⟩
theorem Un.write (mu:Mut (H x))(he:e=x∨H e=some (.own x))(k:∀b u,b≠e→h.get? b=some u→h'.get? b=some u)(heo:∃u,h'.get? e=some u):Un fs ex H (upd H x o) h h':=by
 have hx:∀b,H b=none→b≠x:=fun b n z=>by subst z;rw [n] at mu;exact mu
 have hb:∀b,H b=none→b≠e:=fun b n z=>by
  subst z
  rcases he with r|r
  ·exact hx b n r
  ·rw [n] at r;cases r
 have hm:∀b u,H b=some u→¬Mut (some u)→b≠x:=fun b u q nm z=>by subst z;rw [q] at mu;exact nm mu
 refine ⟨fun b u q n _ _=>k b u (hb b n) q,fun b u q n _ _=>⟨u.slots,k b u (hb b n) q⟩,fun b u q n _=>by rw [Am (hx b n)];exact n,fun b u q _=>?_,
  fun b xs q=>by rw [Am (hm b _ q fun z=>z)];exact q,fun b u xs q=>by rw [Am (hm b _ q fun z=>z)];exact q,fun b ps q=>⟨#[],by rw [Am (hm b _ q fun z=>z),q];simp⟩⟩
 by_cases hbe:b=e
 ·subst hbe;exact heo
 ·exact ⟨u,k b u hbe q⟩
end
def trk (h:Heap)(H:Hp):List IC:=(List.range h.objs.size).filter fun a=>(H a).isSome
def Tj (h:Heap)(H:Hp):Heap:=PySem.W.hideAll h (trk h H)
theorem Ab2 (h:Heap)(H:Hp):(Tj h H).objs.size=h.objs.size:=PySem.W.hideAll_size _ _
theorem P7 {h:Heap}{H:Hp}{b:IC}{o:Obj}(e:h.get? b=some o)(n:H b=none):(Tj h H).get? b=some o:=
 PySem.W.hideAll_get _ e fun hm=>by
  have q:(H b).isSome=true:=(CF.mp hm).2
  rw [n] at q;simp at q
theorem Ah2 {h:Heap}{H:Hp}{b:IC}{o:Obj}(e:(Tj h H).get? b=some o):h.get? b=some o∧H b=none:=by
 have e':h.get? b=some o:=PySem.W.of_hideAll (trk h H) e
 refine ⟨e',?_⟩
 cases q:H b with
 |none=>rfl
 |some x=>
  have hm:b∈trk h H:=CF.mpr ⟨CN.mpr (AK e'),by simp [q]⟩
  have z:(Tj h H).get? b=none:=PySem.W.hideAll_none (trk h H) hm
  rw [z] at e;cases e
def Agw (g h:Heap)(L:IC):List (IC×Obj):=(List.range h.objs.size).filterMap fun a=>if a=L∨(g.get? a).isSome=true then none else (h.get? a).map fun o=>(a,o)
def Ep (g h:Heap)(L d:IC):List (IC×Obj):=(Agw g h L).filter fun p=>decide (p.1≠d)
end L2
namespace L2
open PySem PySem.Spec PyProof.Rows
structure Mod (K:KKf)(mg:Str→IK)(base:Heap):Prop where
 kin:K.In base
 glob:base.Ns mainGlobals mg
 blt:∃mb,base.Ns builtinsNs mb∧∀x:Str,x≠"__name__"→mb x=bootBuiltins x
 nolimit:base.NoLimit
/-- the context: a def's body (or a comprehension's block) running. base: fixed through the whole law;s₀,H₀: the entry;outer: the frames whose slots others may change (a def's callers);stack: all frames that run;
   ex: iterators that were made ahead of the entry and are walked here (a comprehension's);fn: the names whose cells were made at the entry (a def: all;a comprehension's block: its own);calm: not within an except suite;pn: pins that every state bears;xe: what is wanted of an exception that leaves the code -/
structure Cx where
 prog:IE
 w:IF
 K:KKf
 mg:Str→IK
 base:Heap
 A:ID
 N:IG
 s₀:IB
 H₀:Hp
 env:Env
 outer:List Env
 stack:List Env
 ex:List IC
 fn:Str→Bool
 calm:Bool
 pn:List (IC×Obj)
 xe:IA→IB→Prop
def Ww (l:List Env):List IC:=l.filterMap (·.frame)
abbrev Cx.fs (X:Cx):List IC:=Ww X.outer
def Vis (sc:Scope)(x:Str):Prop:=sc.names.lookup x=some .local∨sc.names.lookup x=some .cell∨sc.names.lookup x=some .free
def Loc (sc:Scope)(x:Str):Prop:=sc.names.lookup x=some .local∨sc.names.lookup x=some .cell
def Alb (env:Env)(h:Heap)(m:Str→IK)(x:Str)(u:IA):Prop:=
 (env.kindOf x=some .local∧m x=some u)∨((env.kindOf x=some .cell∨env.kindOf x=some .free)∧∃c,env.cells.lookup x=some c∧h.IsCell c (some u))
structure Cx.Ok (X:Cx):Prop where
 mod:Mod X.K X.mg X.base
 kind:X.env.scope.kind=.function
 glob:X.env.globals=mainGlobals
 blt:X.env.builtins=builtinsNs
 above:X.s₀.heap.objs.size≤X.env.locals
 inj:∀x y c,X.env.cells.lookup x=some c→X.env.cells.lookup y=some c→x=y
 has:∀x,(X.env.kindOf x=some .cell∨X.env.kindOf x=some .free)→∃c,X.env.cells.lookup x=some c
 cab:∀x c,X.fn x=true→X.env.cells.lookup x=some c→X.s₀.heap.objs.size≤c
 hd:X.calm=true→X.A.handled=none
 frames:X.A.frames=some X.stack
 stk:X.stack=X.outer∨(X.stack=X.env::X.outer∧X.env.frame=some X.env.locals)
 exf:∀b∈X.ex,b≠X.env.locals∧∀x c,X.env.cells.lookup x=some c→c≠b
 bs:∀b o,X.base.get? b=some o→X.s₀.heap.get? b=some o∧X.H₀ b=none
 bsz:X.base.objs.size≤X.s₀.heap.objs.size
 noex:∀b o,X.base.get? b=some o→b∉X.ex
 exfs:∀b∈X.ex,b∉X.fs
 funs:X.s₀.heap.FunFrames X.base X.outer
 frf:∀b∈X.fs,X.H₀ b=none
structure Aw (X:Cx)(pins:List (IC×Obj))(σ:List (Option V))(H:Hp)(s:IB):Prop where
 ok:X.Ok
 os:s.os=X.s₀.os
 bare:AllBare s.gens
 base:Un X.fs X.ex X.H₀ H X.s₀.heap s.heap
 loc:∃m,s.heap.Ns X.env.locals m∧∀(i:Nat) (x:Str) (v:V),X.N[i]? =some x→σ[i]? =some (some v)→Vis X.env.scope x→∃u,RelV v u∧Alb X.env s.heap m x u
 cell:∀x c,X.env.cells.lookup x=some c→∃v,s.heap.IsCell c v
 free:H X.env.locals=none
 freeC:∀x c,X.env.cells.lookup x=some c→H c=none
 pin:∀p∈X.pn++pins,s.heap.get? p.1=some p.2∧H p.1=none∧p.1≠X.env.locals∧p.1∉X.fs∧∀v,p.2.data≠.cell v
 hok:Kf X.prog X.w H s.heap
 len:σ.length=X.N.length
section
variable {X:Cx}{pins:List (IC×Obj)}{σ:List (Option V)}{H H':Hp}{s:IB}{h':Heap}
theorem Cx.Ok.nofr (ok:X.Ok){b:IC}{o:Obj}(e:X.base.get? b=some o):b∉X.fs:=fun hb=>by
 have:=(ok.funs.mem hb).1
 rw [e] at this;cases this
theorem Aw.bs (I:Aw X pins σ H s):∀b o,X.base.get? b=some o→s.heap.get? b=some o∧H b=none:=fun b o e=>
 ⟨I.base.keep b o (I.ok.bs b o e).1 (I.ok.bs b o e).2 (I.ok.nofr e) (I.ok.noex b o e),I.base.free b o (I.ok.bs b o e).1 (I.ok.bs b o e).2 (I.ok.noex b o e)⟩
theorem Aw.bk (I:Aw X pins σ H s):∀b o,X.base.get? b=some o→s.heap.get? b=some o:=fun b o e=>(I.bs b o e).1
theorem Aw.mod (I:Aw X pins σ H s):Mod X.K X.mg X.base:=I.ok.mod
theorem Aw.kIn (I:Aw X pins σ H s):X.K.In s.heap:=I.ok.mod.kin.keeps I.bk
theorem Aw.nolimit (I:Aw X pins σ H s):s.heap.NoLimit:=I.ok.mod.nolimit.keeps I.bk
theorem Aw.lt (I:Aw X pins σ H s):X.env.locals<s.heap.objs.size:=let ⟨_,hn,_⟩:=I.loc;hn.lt
theorem Aw.sz (I:Aw X pins σ H s):X.s₀.heap.objs.size≤s.heap.objs.size:=AI I.ok.above (EL I.lt)
theorem Aw.nofs (I:Aw X pins σ H s){a:IC}(h:s.heap.objs.size≤a):a∉X.fs:=fun hb=>by
 obtain ⟨_,o,ho,_⟩:=I.ok.funs.mem hb
 exact absurd (AV (AK ho) (AI I.sz h)) (DY _)
theorem Aw.cne (I:Aw X pins σ H s):∀x c,X.env.cells.lookup x=some c→c≠X.env.locals:=fun x c e z=>by
 obtain ⟨v,o,ho,hd⟩:=I.cell x c e
 obtain ⟨m,⟨o',es,ep,ho',hd',_⟩,_⟩:=I.loc
 rw [z,ho'] at ho;cases ho;rw [hd'] at hd;cases hd
theorem Aw.funs (I:Aw X pins σ H s):s.heap.FunFrames X.base X.outer:=by
 have all:∀(l:List Env),(∀b∈Ww l,b∈X.fs)→X.s₀.heap.FunFrames X.base l→s.heap.FunFrames X.base l:=by
  intro l
  induction l with
  |nil=>intro _ _;trivial
  |cons env r ih=>
   intro hs hl
   obtain ⟨hk,⟨L,o,hf,hn,ho,hd⟩,hr⟩:=hl
   have hL:L∈X.fs:=hs L (by unfold Ww;rw [FG,hf];exact AO)
   obtain ⟨sl,e⟩:=I.base.slot L o ho (I.ok.frf L hL) hL fun z=>I.ok.exfs L z hL
   exact ⟨hk,⟨L,_,hf,hn,e,hd⟩,ih (fun b hb=>hs b (by unfold Ww;rw [FG,hf];exact AQ _ hb)) hr⟩
 exact all X.outer (fun _ hb=>hb) I.ok.funs
theorem Aw.stack (I:Aw X pins σ H s):s.heap.FunFrames X.base X.stack:=by
 rcases I.ok.stk with e|⟨e,hf⟩
 ·rw [e];exact I.funs
 ·rw [e]
  obtain ⟨m,hn,_⟩:=I.loc
  refine .cons (by rw [I.ok.kind];decide) hf hn ?_ I.funs
  exact Heap.get?_none_of_le (AI I.ok.bsz I.ok.above)
theorem Aw.stkSub (I:Aw X pins σ H s):∀b∈Ww X.stack,b∈X.env.locals::X.fs:=fun b hb=>by
 rcases I.ok.stk with e|⟨e,hf⟩
 ·rw [e] at hb;exact AQ _ hb
 ·rw [e] at hb
  unfold Ww at hb
  rw [FG,hf] at hb
  exact hb
theorem Aw.stkFree (I:Aw X pins σ H s):∀b∈Ww X.stack,H b=none:=fun b hb=>by
 rcases AS.mp (I.stkSub b hb) with e|hb
 ·rw [e];exact I.free
 ·obtain ⟨_,o,ho,_⟩:=I.ok.funs.mem hb
  exact I.base.free b o ho (I.ok.frf b hb) fun z=>I.ok.exfs b z hb
theorem Aw.step {g':Array GenState}{t':Nat}{d':Drawn}{ch:List IC}(I:Aw X pins σ H s)
  (hch:∀b∈ch,(b∈X.ex∨X.s₀.heap.objs.size≤b)∧b≠X.env.locals∧(∀x c,X.env.cells.lookup x=some c→c≠b)∧∀p∈X.pn++pins,p.1≠b)
  (keep:∀b o,b≠X.env.locals→b∉X.fs→b∉ch→s.heap.get? b=some o→H b=none→h'.get? b=some o)
  (slot:∀b o,b≠X.env.locals→b∈X.fs→b∉ch→s.heap.get? b=some o→H b=none→∃sl,h'.get? b=some { o with slots:=sl }) (free:∀b o,b∉ch→s.heap.get? b=some o→H b=none→H' b=none)
  (there:∀b o,b∉ch→s.heap.get? b=some o→∃o',h'.get? b=some o')
  (tups:∀b xs,H b=some (.tup xs)→H' b=some (.tup xs)) (frzs:∀b o u,H b=some (.frz o u)→H' b=some (.frz o u)) (tbls:∀b ps,H b=some (.tbl ps)→∃more,H' b=some (.tbl (ps++more)))
  (ns:∀m,s.heap.Ns X.env.locals m→h'.Ns X.env.locals m) (hok:Kf X.prog X.w H' h') (hg:AllBare g') :
  Aw X pins σ H' { s with heap:=h',gens:=g',drawn:=d',toks:=t' }:=by
 have neL:∀b o,X.s₀.heap.get? b=some o→b≠X.env.locals:=fun b o e=>BC (AV (AK e) I.ok.above)
 have neC:∀b o,X.s₀.heap.get? b=some o→b∉X.ex→b∉ch:=fun b o e hx hb=>by
  rcases (hch b hb).1 with z|z
  ·exact hx z
  ·exact absurd (AV (AK e) z) (DY _)
 have cellK:∀x c,X.env.cells.lookup x=some c→∀v,s.heap.IsCell c v→h'.IsCell c v:=fun x c e v ⟨o,ho,hd⟩=>by
  have nch:c∉ch:=fun z=>(hch c z).2.2.1 x c e rfl
  by_cases hc:c∈X.fs
  ·obtain ⟨sl,q⟩:=slot c o (I.cne x c e) hc nch ho (I.freeC x c e)
   exact ⟨_,q,hd⟩
  ·exact ⟨o,keep c o (I.cne x c e) hc nch ho (I.freeC x c e),hd⟩
 refine ⟨I.ok,I.os,hg,⟨fun b o e n hb hx=>?_,fun b o e n hb hx=>?_,fun b o e n hx=>?_,fun b o e hx=>?_,fun b xs e=>tups b xs (I.base.tups b xs e),fun b o xs e=>frzs b o xs (I.base.frzs b o xs e),fun b ps e=>?_⟩,?_,fun x c e=>?_,?_,fun x c e=>?_,fun p hp=>?_,hok,I.len⟩
 ·exact keep b o (neL b o e) hb (neC b o e hx) (I.base.keep b o e n hb hx) (I.base.free b o e n hx)
 ·obtain ⟨sl,e1⟩:=I.base.slot b o e n hb hx
  obtain ⟨sl',e2⟩:=slot b _ (neL b o e) hb (neC b o e hx) e1 (I.base.free b o e n hx)
  exact ⟨sl',e2⟩
 ·obtain ⟨o',e1⟩:=I.base.there b o e hx
  exact free b o' (neC b o e hx) e1 (I.base.free b o e n hx)
 ·obtain ⟨o',e1⟩:=I.base.there b o e hx
  exact there b o' (neC b o e hx) e1
 ·obtain ⟨m1,e1⟩:=I.base.tbls b ps e
  obtain ⟨m2,e2⟩:=tbls b _ e1
  exact ⟨m1++m2,by rw [e2,Array.append_assoc]⟩
 ·obtain ⟨m,hn,hl⟩:=I.loc
  refine ⟨m,ns m hn,fun i x v e1 e2 e3=>?_⟩
  obtain ⟨u,r,l⟩:=hl i x v e1 e2 e3
  refine ⟨u,r,?_⟩
  rcases l with l|⟨k,c,e,z⟩
  ·exact .inl l
  ·exact .inr ⟨k,c,e,cellK x c e _ z⟩
 ·obtain ⟨v,z⟩:=I.cell x c e
  exact ⟨v,cellK x c e v z⟩
 ·obtain ⟨m,⟨o,_,_,ho,_⟩,_⟩:=I.loc
  exact free _ o (fun z=>(hch _ z).2.1 rfl) ho I.free
 ·obtain ⟨v,o,ho,hd⟩:=I.cell x c e
  exact free c o (fun z=>(hch c z).2.2.1 x c e rfl) ho (I.freeC x c e)
 ·obtain ⟨e,n,ne,nf,d⟩:=I.pin p hp
  have nch:p.1∉ch:=fun z=>(hch p.1 z).2.2.2 p hp rfl
  exact ⟨keep p.1 p.2 ne nf nch e n,free p.1 p.2 nch e n,ne,nf,d⟩
theorem Aw.un {t':Nat}(I:Aw X pins σ H s)(u:Un X.fs [] H H' s.heap h')(hok:Kf X.prog X.w H' h'):Aw X pins σ H' { s with heap:=h',toks:=t' }:=by
 obtain ⟨m,⟨o,es,ep,ho,r⟩,_⟩:=id I.loc
 obtain ⟨sl,hL⟩:=u.any ho I.free (by simp)
 exact I.step (g':=s.gens) (d':=s.drawn) (ch:=[]) (fun _ z=>nomatch z) (fun b o _ hb _ e n=>u.keep b o e n hb (by simp)) (fun b o _ hb _ e n=>u.slot b o e n hb (by simp)) (fun b o _ e n=>u.free b o e n (by simp)) (fun b o _ e=>u.there b o e (by simp)) u.tups u.frzs u.tbls (fun m' hm=>by
  obtain ⟨o',es',ep',ho',r'⟩:=hm
  rw [ho] at ho';cases ho'
  exact ⟨_,es',ep',hL,r'⟩) hok I.bare
theorem Aw.call {g':Array GenState}{t':Nat}{d':Drawn}{ch:List IC}(I:Aw X pins σ H s)(u:Un (Ww X.stack) ch H H' s.heap h')(hok:Kf X.prog X.w H' h')(hg:AllBare g')
  (hch:∀b∈ch,(b∈X.ex∨X.s₀.heap.objs.size≤b)∧b≠X.env.locals∧(∀x c,X.env.cells.lookup x=some c→c≠b)∧∀p∈X.pn++pins,p.1≠b) :
  Aw X pins σ H' { s with heap:=h',gens:=g',drawn:=d',toks:=t' }:=by
 obtain ⟨m,⟨o,es,ep,ho,r⟩,_⟩:=id I.loc
 obtain ⟨sl,hL⟩:=u.any ho I.free fun z=>(hch _ z).2.1 rfl
 exact I.step (ch:=ch) hch (fun b o hL hb hc e n=>u.keep b o e n (fun z=>(AS.mp (I.stkSub b z)).elim hL hb) hc) (fun b o _ _ hc e n=>u.any e n hc) (fun b o hc e n=>u.free b o e n hc) (fun b o hc e=>u.there b o e hc) u.tups u.frzs u.tbls (fun m' hm=>by
  obtain ⟨o',es',ep',ho',r'⟩:=hm
  rw [ho] at ho';cases ho'
  exact ⟨_,es',ep',hL,r'⟩) hok hg
theorem Aw.turned {t':Nat}{it:IC}(I:Aw X pins σ H s)(k:∀b o,b≠it→s.heap.get? b=some o→h'.get? b=some o)(hn:H it=none)(hL:it≠X.env.locals)
  (h1:it∈X.ex∨X.s₀.heap.objs.size≤it) (h2:∀x c,X.env.cells.lookup x=some c→c≠it) (h3:∀p∈X.pn++pins,p.1≠it):Aw X pins σ H { s with heap:=h',toks:=t' }:=by
 have nit:∀b u,H b=some u→b≠it:=fun b u e z=>by rw [z,hn] at e;cases e
 refine I.step (g':=s.gens) (d':=s.drawn) (ch:=[it]) (fun b hb=>?_) (fun b o _ _ hc e _=>k b o (fun z=>hc (by simp [z])) e) (fun b o _ _ hc e _=>⟨o.slots,k b o (fun z=>hc (by simp [z])) e⟩) (fun _ _ _ _ n=>n)
  (fun b o hc e=>⟨o,k b o (fun z=>hc (by simp [z])) e⟩) (fun _ _ e=>e) (fun _ _ _ e=>e) (fun b ps e=>⟨#[],by rw [e];simp⟩) (fun m hm=>?_) (fun b u e=>?_) I.bare
 ·have e:b=it:=by simpa using hb
  subst e
  exact ⟨h1,hL,h2,h3⟩
 ·obtain ⟨o,es,ep,ho,r⟩:=hm
  exact ⟨o,es,ep,k _ o (DI hL) ho,r⟩
 ·refine (I.hok b u e).stay (fun c v hc q=>k c v ?_ q) (fun _ q=>q) fun _ _ q=>q
  rcases hc with z|z
  ·rw [z];exact nit b u e
  ·exact nit c _ z
theorem Aw.tok (I:Aw X pins σ H s)(t:Nat):Aw X pins σ H { s with toks:=t }:=I.un (h':=s.heap) (t':=t) Un.refl I.hok
theorem Aw.kept {t':Nat}(I:Aw X pins σ H s)(k:∀b u,s.heap.get? b=some u→h'.get? b=some u):Aw X pins σ H { s with heap:=h',toks:=t' }:=I.un (Un.kept k) (I.hok.kept k)
theorem Aw.laid {a:IC}{o:HO}{t':Nat}(I:Aw X pins σ H s)(k:∀b u,s.heap.get? b=some u→h'.get? b=some u)(hp:s.heap.objs.size≤a)(new:Bj X.prog X.w (upd H a o) h' a o) :
  Aw X pins σ (upd H a o) { s with heap:=h',toks:=t' }:=I.un (Un.laid k hp (I.hok.fresh hp)) (I.hok.laid k hp new)
theorem Aw.write {x e:IC}{o:HO}{t':Nat}(I:Aw X pins σ H s)(mu:Mut (H x))(he:e=x∨H e=some (.own x))(k:∀b u,b≠e→s.heap.get? b=some u→h'.get? b=some u)(heo:∃u,h'.get? e=some u)
  (new:Bj X.prog X.w (upd H x o) h' x o):Aw X pins σ (upd H x o) { s with heap:=h',toks:=t' }:=I.un (Un.write mu he k heo) (I.hok.write mu he k heo new)
theorem Aw.weak {σ':List (Option V)}(I:Aw X pins σ H s)(hl:σ'.length=σ.length)(w:∀(i:Nat) v,σ'[i]? =some (some v)→σ[i]? =some (some v)):Aw X pins σ' H s:=
 ⟨I.ok,I.os,I.bare,I.base,let ⟨m,hn,hl'⟩:=I.loc;⟨m,hn,fun i x v e1 e2 e3=>hl' i x v e1 (w i v e2) e3⟩,I.cell,I.free,I.freeC,I.pin,I.hok,hl.trans I.len⟩
theorem Aw.pins_of {pins':List (IC×Obj)}(I:Aw X pins σ H s)(h:∀p∈pins',s.heap.get? p.1=some p.2∧H p.1=none∧p.1≠X.env.locals∧p.1∉X.fs∧∀v,p.2.data≠.cell v):Aw X pins' σ H s:=
 ⟨I.ok,I.os,I.bare,I.base,I.loc,I.cell,I.free,I.freeC,fun p hp=>(BH.mp hp).elim (fun z=>I.pin p (CC _ z)) (h p),I.hok,I.len⟩
theorem Vk {N:IG}(hN:N.Nodup){i j:Nat}{x:Str}(a:N[i]? =some x)(b:N[j]? =some x):i=j:=by
 obtain ⟨h1,e1⟩:=AY.mp a
 obtain ⟨h2,e2⟩:=AY.mp b
 exact (List.getElem_inj hN).mp (e1.trans e2.symm)
theorem L4 {M:Model}{A:ID}{E:IA→IB→Prop}{i:Nat}{x:Str}{v:V}{u:IA}{Q:Unit→IB→Prop}(I:Aw X pins σ H s)(hN:X.N.Nodup)(hi:X.N[i]? =some x)(hx:Loc X.env.scope x)(r:RelV v u)
  (h:∀s',Aw X pins (σ.set i (some v)) H s'→(∃a,Heap.SameBut a s.heap s'.heap∧(a=X.env.locals∨X.env.cells.lookup x=some a))→Q () s') (hf:X.fn x=true∨X.env.scope.names.lookup x=some .local:=by first|exact .inl rfl|exact .inr rfl|assumption):wpAny M A (storeName X.env x u) Q E s:=by
 obtain ⟨m,hn,hl⟩:=id I.loc
 have hcls:(X.env.scope.kind==.class||(X.env.scope.kind==.module&&X.env.locals != X.env.globals))=false:=by rw [I.ok.kind];rfl
 have hiσ:i<σ.length:=by rw [I.len];exact (AY.mp hi).1
 have cne:=I.cne
 have tracked:∀{a:IC} {h':Heap},(∃o,s.heap.get? a=some o∧H a=none)→Heap.SameBut a s.heap h'→Kf X.prog X.w H h':=fun {a h'} ha hs b ob e=>by
  obtain ⟨_,_,hfree⟩:=ha
  refine (I.hok b ob e).stay (fun c w' hc q=>(hs.2 c ?_).trans q) (fun _ q=>q) fun _ _ q=>q
  rintro rfl
  rcases hc with rfl|hc
  ·rw [hfree] at e;cases e
  ·rw [hfree] at hc;cases hc
 rcases hx with hk|hk
 ·refine wpAny_storeName_local hk hn (fun h' hn' hs=>?_) hcls
  obtain ⟨oL,_,_,hoL,_⟩:=id hn
  refine h _ ⟨I.ok,I.os,I.bare,⟨fun b o e n hb hx=>?_,fun b o e n hb hx=>?_,I.base.free,fun b o e hx=>?_,I.base.tups,I.base.frzs,I.base.tbls⟩,⟨_,hn',fun j y v' e1 e2 e3=>?_⟩,fun y c e=>?_,I.free,I.freeC,fun p hp=>?_,tracked ⟨oL,hoL,I.free⟩ hs,by simpa using I.len⟩ ⟨_,hs,.inl rfl⟩
  ·exact (hs.2 b (BC (AV (AK e) I.ok.above))).trans (I.base.keep b o e n hb hx)
  ·obtain ⟨sl,e1⟩:=I.base.slot b o e n hb hx
   exact ⟨sl,(hs.2 b (BC (AV (AK e) I.ok.above))).trans e1⟩
  ·obtain ⟨o',e1⟩:=I.base.there b o e hx
   exact ⟨o',(hs.2 b (BC (AV (AK e) I.ok.above))).trans e1⟩
  ·by_cases hj:j=i
   ·subst hj
    rw [hi] at e1;cases e1
    rw [List.getElem?_set_self hiσ] at e2
    cases e2
    exact ⟨u,r,.inl ⟨hk,by simp⟩⟩
   ·rw [List.getElem?_set_ne (DI hj)] at e2
    obtain ⟨u',r',q⟩:=hl j y v' e1 e2 e3
    refine ⟨u',r',?_⟩
    rcases q with ⟨k,e⟩|⟨k,c,e,z⟩
    ·refine .inl ⟨k,?_⟩
     have:y≠x:=fun e=>hj (Vk hN e1 (e▸hi))
     simp [this,e]
    ·exact .inr ⟨k,c,e,z.sameBut hs (cne y c e)⟩
  ·obtain ⟨w',z⟩:=I.cell y c e
   exact ⟨w',z.sameBut hs (cne y c e)⟩
  ·obtain ⟨e,n,ne,nf,d⟩:=I.pin p hp
   exact ⟨(hs.2 p.1 ne).trans e,n,ne,nf,d⟩
 ·have hfn:X.fn x=true:=by
   rcases hf with z|z
   ·exact z
   ·rw [z] at hk;cases hk
  obtain ⟨c,hc⟩:=I.ok.has x (.inl hk)
  obtain ⟨w',z⟩:=I.cell x c hc
  refine wpAny_storeName_cell I.ok.kind hk hc z (fun h' hc' hs=>?_)
  obtain ⟨oc,hoc,hocd⟩:=id z
  refine h { s with heap:=h' } ⟨I.ok,I.os,I.bare,⟨fun b o e n hb hx=>?_,fun b o e n hb hx=>?_,I.base.free,fun b o e hx=>?_,I.base.tups,I.base.frzs,I.base.tbls⟩,⟨m,hn.sameBut hs (DI (cne x c hc)),fun j y v' e1 e2 e3=>?_⟩,fun y c' e=>?_,I.free,I.freeC,fun p hp=>?_,tracked ⟨oc,hoc,I.freeC x c hc⟩ hs,by simpa using I.len⟩ ⟨c,hs,.inr hc⟩
  ·exact (hs.2 b (BC (AV (AK e) (I.ok.cab x c hfn hc)))).trans (I.base.keep b o e n hb hx)
  ·obtain ⟨sl,e1⟩:=I.base.slot b o e n hb hx
   exact ⟨sl,(hs.2 b (BC (AV (AK e) (I.ok.cab x c hfn hc)))).trans e1⟩
  ·obtain ⟨o',e1⟩:=I.base.there b o e hx
   exact ⟨o',(hs.2 b (BC (AV (AK e) (I.ok.cab x c hfn hc)))).trans e1⟩
  ·by_cases hj:j=i
   ·subst hj
    rw [hi] at e1;cases e1
    rw [List.getElem?_set_self hiσ] at e2
    cases e2
    exact ⟨u,r,.inr ⟨.inl hk,c,hc,hc'⟩⟩
   ·rw [List.getElem?_set_ne (DI hj)] at e2
    obtain ⟨u',r',q⟩:=hl j y v' e1 e2 e3
    refine ⟨u',r',?_⟩
    rcases q with q|⟨k,c',e,z'⟩
    ·exact .inl q
    ·refine .inr ⟨k,c',e,z'.sameBut hs ?_⟩
     rintro rfl
     exact hj (Vk hN e1 (I.ok.inj _ _ _ e hc▸hi))
  ·by_cases hcc:c'=c
   ·subst hcc;exact ⟨_,hc'⟩
   ·obtain ⟨w2,z2⟩:=I.cell y c' e
    exact ⟨w2,z2.sameBut hs hcc⟩
  ·obtain ⟨e,n,ne,nf,d⟩:=I.pin p hp
   refine ⟨(hs.2 p.1 ?_).trans e,n,ne,nf,d⟩
   intro q
   rw [q,hoc] at e
   have q':oc=p.2:=Option.some.inj e
   exact d w' (by rw [←q'];exact hocd)
theorem Va {M:Model}{A:ID}{E:IA→IB→Prop}{i:Nat}{x:Str}{v:V}{u:IA}{Q:Unit→IB→Prop}(I:Aw X pins σ H s)(hN:X.N.Nodup)(hi:X.N[i]? =some x)(hx:Loc X.env.scope x)(r:RelV v u)
  (h:∀s',Aw X pins (σ.set i (some v)) H s'→Q () s') (hf:X.fn x=true∨X.env.scope.names.lookup x=some .local:=by first|exact .inl rfl|exact .inr rfl|assumption):wpAny M A (storeName X.env x u) Q E s:=
 L4 I hN hi hx r (fun s' I' _=>h s' I') hf
theorem Aw.call' {s':IB}{ch:List IC}(I:Aw X pins σ H s)(ho:s'.os=s.os)(u:Un (Ww X.stack) ch H H' s.heap s'.heap)(hok:Kf X.prog X.w H' s'.heap)(hg:AllBare s'.gens)
  (hch:∀b∈ch,(b∈X.ex∨X.s₀.heap.objs.size≤b)∧b≠X.env.locals∧(∀x c,X.env.cells.lookup x=some c→c≠b)∧∀p∈X.pn++pins,p.1≠b):Aw X pins σ H' s':=by
 obtain ⟨h',g',d',t',o'⟩:=s'
 have e:o'=s.os:=ho
 subst e
 exact I.call (g':=g') (t':=t') (d':=d') u hok hg hch
end
abbrev XK:=IA→Option IC→Hp→Prop
abbrev St:=List (Option V)
abbrev VK:=V→Hp→Prop
abbrev TE:=St→Hp→VK→Prop
abbrev TT:=St→Hp→(Bool→Hp→Prop)→Prop
abbrev TA:=St→Hp→(IP→Hp→Prop)→Prop
structure Wr where
 nx:St→Hp→Prop
 rt:VK
 bk:St→Hp→Prop:=fun _ _=>False
 ct:St→Hp→Prop:=fun _ _=>False
abbrev TS:=Wr→St→Hp→Prop
def EP (X:Cx)(pins:List (IC×Obj))(σ:St)(Q:VK)(u:IA)(s':IB):Prop:=∃v H',Aw X pins σ H' s'∧RelV v u∧Q v H'
def TP (X:Cx)(pins:List (IC×Obj))(σ:St)(Q:Bool→Hp→Prop)(b:Bool)(s':IB):Prop:=∃H',Aw X pins σ H' s'∧Q b H'
def AP (X:Cx)(pins:List (IC×Obj))(σ:St)(Q:IP→Hp→Prop)(us:II)(s':IB):Prop:=∃vs H',Aw X pins σ H' s'∧A6 vs us∧Q vs H'
def SP (X:Cx)(pins:List (IC×Obj))(D:Wr)(f:Flow)(s':IB):Prop:=
 match f with
 |.next=>∃σ' H',Aw X pins σ' H' s'∧D.nx σ' H'
 |.brk=>∃σ' H',Aw X pins σ' H' s'∧D.bk σ' H'
 |.cont=>∃σ' H',Aw X pins σ' H' s'∧D.ct σ' H'
 |.ret u=>∃v σ' H',Aw X pins σ' H' s'∧RelV v u∧D.rt v H'
def PE (X:Cx)(e:Expr)(t:TE):Prop:=
 ∀(pins:List (IC×Obj)) (s:IB) (σ:St) (H:Hp) (Q:VK),Aw X pins σ H s→t σ H Q→wpAny (model X.prog X.w) X.A (eval e X.env) (EP X pins σ Q) X.xe s
def PT (X:Cx)(e:Expr)(t:TT):Prop:=
 ∀(pins:List (IC×Obj)) (s:IB) (σ:St) (H:Hp) (Q:Bool→Hp→Prop),Aw X pins σ H s→t σ H Q→wpAny (model X.prog X.w) X.A (isTrue e X.env (eval e X.env)) (TP X pins σ Q) X.xe s
def PW (X:Cx)(e:Expr)(t:TT):Prop:=
 ∀(whole:Sem IA) (pins:List (IC×Obj)) (s:IB) (σ:St) (H:Hp) (Q:Bool→Hp→Prop),Aw X pins σ H s→t σ H Q→wpAny (model X.prog X.w) X.A (isTrue e X.env whole) (TP X pins σ Q) X.xe s
theorem PW.pt {X:Cx}{e:Expr}{t:TT}(h:PW X e t):PT X e t:=h _
def PA (X:Cx)(es:IJ)(t:TA):Prop:=
 ∀(pos:Pos) (pins:List (IC×Obj)) (s:IB) (σ:St) (H:Hp) (Q:IP→Hp→Prop),Aw X pins σ H s→t σ H Q→wpAny (model X.prog X.w) X.A (spliced (backTo pos (starEach es X.env))) (AP X pins σ Q) X.xe s
def PS (X:Cx)(st:Stmt)(t:TS):Prop:=
 ∀(pins:List (IC×Obj)) (s:IB) (σ:St) (H:Hp) (D:Wr),Aw X pins σ H s→t D σ H→wpAny (model X.prog X.w) X.A (exec st X.env) (SP X pins D) X.xe s
def Ny (X:Cx)(st:List Stmt)(t:TS):Prop:=
 ∀(pins:List (IC×Obj)) (s:IB) (σ:St) (H:Hp) (D:Wr),Aw X pins σ H s→t D σ H→wpAny (model X.prog X.w) X.A (execs st X.env) (SP X pins D) X.xe s
theorem Bo {α:Type}{t:Sem α}{Q Q':α→IB→Prop}{M:Model}{A:ID}{E:IA→IB→Prop}{s:IB}(h:wpAny M A t Q E s)(hQ:∀a s,Q a s→Q' a s):wpAny M A t Q' E s:=CK h hQ fun _ _ x=>x
end L2
namespace L2
open PySem PySem.Spec PyProof.Rows
section
variable {X:Cx}
def Ai5 (i:Nat):TE:=fun σ H Q=>∃v,σ[i]? =some (some v)∧Q v H
def tC (v:V):TE:=fun _ H Q=>Q v H
theorem Alc {i:Nat}{x:Str}{pos:Pos}(hN:X.N[i]? =some x)(hv:Vis X.env.scope x)(hd:(x==("__debug__":Str))=false:=by decide)(hcd:(x==("__classdict__":Str))=false:=by decide):PE X (.Name x pos) (Ai5 i):=by
 intro pins s σ H Q I h
 obtain ⟨v,e,h⟩:=h
 obtain ⟨m,hn,hl⟩:=I.loc
 obtain ⟨u,r,l⟩:=hl i x v hN e hv
 have fin:EP X pins σ Q u s:=⟨v,H,I,r,h⟩
 rcases l with ⟨hk,hm⟩|⟨hk,c,hc,hcell⟩
 ·exact wpAny_Name (wpAny_loadName_local I.ok.kind hk hn hm fin) hd
 ·rcases hk with hk|hk
  ·exact wpAny_Name (wpAny_loadName_cell I.ok.kind hk hc hcell fin) hd
  ·exact wpAny_Name (wpAny_loadName_free I.ok.kind hk hc hcell fin hcd) hd
theorem Ae {i j pos}:PE X (.Constant (.int i) j pos) (tC (.int i)):=fun _ _ _ H _ I h=>wpAny_Constant_int ⟨.int i,H,I.tok _,⟨_,rfl⟩,h⟩
theorem Fw {b j pos}:PE X (.Constant (.bool b) j pos) (tC (.bl b)):=fun _ _ _ H _ I h=>Constant_bool ⟨.bl b,H,I,rfl,h⟩
theorem Ax {x j pos}:PE X (.Constant (.str x) j pos) (tC (.str x)):=fun _ _ _ H _ I h=>Calls.Constant_str ⟨.str x,H,I.tok _,⟨_,rfl⟩,h⟩
def Gl (X:Cx)(x:Str):Prop:=X.env.kindOf x=some .globalImplicit
theorem N3 {E:IA→IB→Prop}{pins:List (IC×Obj)}{s:IB}{σ:St}{H:Hp}{x:Str}{u:IA}{pos:Pos}{Q:IA→IB→Prop}(I:Aw X pins σ H s)(hg:Gl X x)(hm:X.mg x=some u)(h:Q u s)
  (hd:(x==("__debug__":Str))=false:=by decide):wpAny (model X.prog X.w) X.A (eval (.Name x pos) X.env) Q E s:=
 Calls.Name_function_global I.ok.kind hg (Calls.loadGlobal_global (by rw [I.ok.glob];exact I.mod.glob.keeps I.bk) hm h) hd
theorem Gi {E:IA→IB→Prop}{pins:List (IC×Obj)}{s:IB}{σ:St}{H:Hp}{x:Str}{u:IA}{pos:Pos}{Q:IA→IB→Prop}(I:Aw X pins σ H s)(hg:Gl X x)(hm:X.mg x=none)(hv:bootBuiltins x=some u)(h:Q u s)
  (hn:x≠"__name__":=by decide) (hd:(x==("__debug__":Str))=false:=by decide):wpAny (model X.prog X.w) X.A (eval (.Name x pos) X.env) Q E s:=by
 obtain ⟨mb,h1,h2⟩:=I.mod.blt
 exact Calls.Name_function_global I.ok.kind hg (Calls.loadGlobal_builtin (by rw [I.ok.glob];exact I.mod.glob.keeps I.bk) hm (by rw [I.ok.blt];exact h1.keeps I.bk) ((h2 x hn).trans hv) h) hd
theorem Af6 {x:Str}{v:V}{u:IA}{pos:Pos}(hg:Gl X x)(hm:X.mg x=some u)(r:RelV v u)(hd:(x==("__debug__":Str))=false:=by decide):PE X (.Name x pos) (tC v):=
 fun _ _ _ H _ I h=>N3 I hg hm ⟨v,H,I,r,h⟩ hd
theorem Agx {x:Str}{v:V}{u:IA}{pos:Pos}(hg:Gl X x)(hm:X.mg x=none)(hv:bootBuiltins x=some u)(r:RelV v u)(hn:x≠"__name__":=by decide)(hd:(x==("__debug__":Str))=false:=by decide):PE X (.Name x pos) (tC v):=
 fun _ _ _ H _ I h=>Gi I hg hm hv ⟨v,H,I,r,h⟩ hn hd
variable {a b:Expr}{ta tb:TE}{pos:Pos}
def PC (X:Cx)(op:CmpOp)(a b:Expr)(t:TE):Prop:=
 ∀(pins:List (IC×Obj)) (s:IB) (σ:St) (H:Hp) (Q:VK),Aw X pins σ H s→t σ H Q →
  wpAny (model X.prog X.w) X.A (eval a X.env) (fun v s₁=>wpAny (model X.prog X.w) X.A (eval b X.env) (fun u s₂=>wpAny (model X.prog X.w) X.A (compareOp op v u) (EP X pins σ Q) X.xe s₂) X.xe s₁) X.xe s
theorem Acd (b:Expr){op:CmpOp}(h:op≠.In)(h2:op≠.NotIn):behindInMarks op b=false:=by
 have e1:(op==CmpOp.In)=false:=by cases op<;>first|rfl|exact absurd rfl h
 have e2:(op==CmpOp.NotIn)=false:=by cases op<;>first|rfl|exact absurd rfl h2
 cases b<;>simp [behindInMarks,e1,e2]
def Ame (ta:TE):TE:=fun σ H Q=>ta σ H fun x H1=>Q (.bl (decide (x=.non))) H1
theorem RelV.none_iff {x:V}{v:IA}(r:RelV x v):(v==Value.none)=decide (x=.non):=by
 cases x with
 |non=>cases r;rfl
 |bl _=>cases r;rfl
 |int _=>obtain ⟨t,rfl⟩:=r;rfl
 |str _=>obtain ⟨t,rfl⟩:=r;rfl
 |byt _=>obtain ⟨t,rfl⟩:=r;rfl
 |flt _=>obtain ⟨t,rfl⟩:=r;rfl
 |ref _=>cases r;rfl
 |ty _=>cases r;rfl
theorem Ali {j pos'}(ha:PE X a ta):PC X .Is a (.Constant .none j pos') (Ame ta):=by
 intro pins s σ H Q I h
 refine Bo (ha pins s σ H _ I h) fun v s1 ⟨x,H1,I1,r1,q1⟩=>?_
 exact Constant_none (is_none_gen ⟨.bl _,H1,I1,by rw [r1.none_iff];rfl,q1⟩)
def tB (t:TE):TT:=fun σ H Q=>t σ H fun x H1=>∃c,x=.bl c∧Q c H1
theorem S7 {op:CmpOp}{t:TE}(h:PC X op a b t)(h1:behindInMarks op b=false:=by first|exact Acd _ (by decide) (by decide)|rfl):PT X (.Compare a [op] [b] pos) (tB t):=by
 intro pins s σ H Q I hw
 refine wpAny_isTrue_Compare1 (Bo (h pins s σ H _ I hw) fun v s1 h1=>Bo h1 fun u s2 h2=>Bo h2 fun c s3 ⟨x,H1,I1,r1,q1⟩=>?_) h1
 obtain ⟨d,rfl,q⟩:=q1
 cases r1
 exact DB ⟨H1,I1,q⟩
theorem Alf {e:Expr}{t:TE}(h:PE X e t)(he:∀whole,isTrue e X.env whole=(do let v ←whole;standAt e.pos;holding [v] (truthy v)):=by intro _;rfl):PT X e (tB t):=by
 intro pins s σ H Q I hw
 refine isTrue_plain (Bo (h pins s σ H _ I hw) fun v s1 ⟨x,H1,I1,r1,q1⟩=>?_) (he _)
 obtain ⟨d,rfl,q⟩:=q1
 cases r1
 exact DB ⟨H1,I1,q⟩
variable {tA tB':TT}{Ep:IJ}
def Aj7 (t u:TT):TT:=fun σ H Q=>t σ H fun c H1=>if c=true then u σ H1 Q else Q false H1
def tOr (t u:TT):TT:=fun σ H Q=>t σ H fun c H1=>if c=true then Q true H1 else u σ H1 Q
def Ap1 (t:TT):TT:=fun σ H Q=>t σ H fun c H1=>Q (!c) H1
theorem Fe (ha:PT X a tA):PW X (.BoolOp .And [a] pos) tA:=by
 intro wh pins s σ H Q I h
 refine isTrue_and (Bo (ha pins s σ H Q I h) fun c s1 e=>?_)
 cases c with
 |true=>exact isTrue_and_nil e
 |false=>exact e
theorem Fp (ha:PT X a tA):PW X (.BoolOp .Or [a] pos) tA:=by
 intro wh pins s σ H Q I h
 refine isTrue_or (Bo (ha pins s σ H Q I h) fun c s1 e=>?_)
 cases c with
 |false=>exact isTrue_or_nil e
 |true=>exact e
theorem Ajd (ha:PT X a tA)(hb:PW X (.BoolOp .And (b::Ep) pos) tB'):PW X (.BoolOp .And (a::b::Ep) pos) (Aj7 tA tB'):=by
 intro wh pins s σ H Q I h
 refine isTrue_and (Bo (ha pins s σ H _ I h) fun c s1 ⟨H1,I1,q1⟩=>?_)
 cases c with
 |true=>exact hb wh pins s1 σ H1 Q I1 q1
 |false=>exact ⟨H1,I1,q1⟩
theorem Ano (ha:PT X a tA)(hb:PW X (.BoolOp .Or (b::Ep) pos) tB'):PW X (.BoolOp .Or (a::b::Ep) pos) (tOr tA tB'):=by
 intro wh pins s σ H Q I h
 refine isTrue_or (Bo (ha pins s σ H _ I h) fun c s1 ⟨H1,I1,q1⟩=>?_)
 cases c with
 |true=>exact ⟨H1,I1,q1⟩
 |false=>exact hb wh pins s1 σ H1 Q I1 q1
theorem Bw (ha:PT X a tA):PT X (.UnaryOp .Not a pos) (Ap1 tA):=by
 intro pins s σ H Q I h
 exact isTrue_not (ha pins s σ H (fun c H1=>Q (!c) H1) I h)
def Aeo (ta tb:TE):TE:=fun σ H Q=>ta σ H fun x H1=>∃c,x=.bl c∧if c=true then tb σ H1 Q else Q (.bl false) H1
def Aem (ta:TE):TE:=fun σ H Q=>ta σ H fun x H1=>∃c,x=.bl c∧Q (.bl (!c)) H1
theorem G3 {op}{t:TE}(h:PE X a t):PE X (.BoolOp op [a] pos) t:=fun pins s σ H Q I hw=>BoolOp_one (h pins s σ H Q I hw)
theorem Ak7 (ha:PE X a ta)(hb:PE X (.BoolOp .And (b::Ep) pos) tb):PE X (.BoolOp .And (a::b::Ep) pos) (Aeo ta tb):=by
 intro pins s σ H Q I h
 refine BoolOp_and (Bo (ha pins s σ H _ I h) fun v s1 ⟨x,H1,I1,r1,q1⟩=>?_)
 obtain ⟨c,rfl,q1⟩:=q1
 cases r1
 refine DB ?_
 cases c with
 |true=>exact hb pins s1 σ H1 Q I1 q1
 |false=>exact ⟨.bl false,H1,I1,rfl,q1⟩
theorem Ai6 (ha:PE X a ta):PE X (.UnaryOp .Not a pos) (Aem ta):=by
 intro pins s σ H Q I h
 refine UnaryOp_ (Bo (ha pins s σ H _ I h) fun v s1 ⟨x,H1,I1,r1,q1⟩=>?_)
 obtain ⟨c,rfl,q1⟩:=q1
 cases r1
 exact not_of (DB ⟨.bl (!c),H1,I1,rfl,q1⟩)
def tIf (t:TT)(ta tb:TE):TE:=fun σ H Q=>t σ H fun c H1=>if c=true then ta σ H1 Q else tb σ H1 Q
theorem Acz {c:Expr}(hc:PT X c tA)(ha:PE X a ta)(hb:PE X b tb):PE X (.IfExp c a b pos) (tIf tA ta tb):=by
 intro pins s σ H Q I h
 refine wpAny_IfExp (Bo (hc pins s σ H _ I h) fun d s1 ⟨H1,I1,q1⟩=>?_)
 cases d with
 |true=>exact ha pins s1 σ H1 Q I1 q1
 |false=>exact hb pins s1 σ H1 Q I1 q1
end
end L2
namespace L2
open PySem PySem.Spec PyProof.Rows
def Au (K:KKf)(H:Hp)(a:IC)(xs:IP):Prop:=
 Rd H a (.lst xs) ∨
  ∃(o:Obj) (its:Array IA) (n:Nat),K.lookup a=some o∧o.cls=.type "list"∧o.dict=none∧o.data=.seq its n∧its.size≤sizeLine∧A6 xs its.toList
def F5 (K:KKf)(H:Hp)(a:IC)(xs:IP):Prop:=
 Rd H a (.tup xs) ∨
  ∃(o:Obj) (its:Array IA) (n:Nat),K.lookup a=some o∧o.cls=.type "tuple"∧o.data=.seq its n∧its.size≤sizeLine∧A6 xs its.toList
def Aqg:IA→Option V
 |.none=>some .non
 |.bool b=>some (.bl b)
 |.int i _=>some (.int i)
 |.str x _=>some (.str x)
 |.bytes b _=>some (.byt b)
 |.float b _=>some (.flt b)
 |.ref a=>some (.ref a)
 |.type n=>some (.ty n)
 |_=>none
theorem RelV.abs {x:V}{u:IA}(r:RelV x u):Aqg u=some x:=by
 cases x with
 |non=>cases r;rfl
 |bl _=>cases r;rfl
 |int _=>obtain ⟨t,rfl⟩:=r;rfl
 |str _=>obtain ⟨t,rfl⟩:=r;rfl
 |byt _=>obtain ⟨t,rfl⟩:=r;rfl
 |flt _=>obtain ⟨t,rfl⟩:=r;rfl
 |ref _=>cases r;rfl
 |ty _=>cases r;rfl
theorem RelV.inj {x y:V}{u:IA}(r:RelV x u)(q:RelV y u):x=y:=Option.some.inj (r.abs.symm.trans q.abs)
theorem A6.inj:∀{xs ys:IP} {us:II},A6 xs us→A6 ys us→xs=ys
 |_,_,_,.nil,.nil=>rfl
 |_,_,_,.cons r t,.cons r' t'=>by rw [r.inj r',A6.inj t t']
section
variable {X:Cx}{pins:List (IC×Obj)}{σ:St}{H:Hp}{s:IB}{a:IC}{xs ys:IP}
theorem Au.of {K:KKf}(h:H a=some (.lst xs)):Au K H a xs:=.inl (.inl h)
theorem F5.of {K:KKf}(h:H a=some (.tup xs)):F5 K H a xs:=.inl (.inl h)
theorem Aw.list (I:Aw X pins σ H s)(h:Au X.K H a xs):∃its:II,A6 xs its∧PlainL s.heap a its.toArray∧xs.length≤sizeLine:=by
 rcases h with h|⟨o,its,n,hk,hc,hd,hs,hz,r⟩
 ·obtain ⟨z,its,n,r,e⟩:=h.ok I.hok
  exact ⟨its,r,⟨_,n,e,rfl,rfl,rfl⟩,z⟩
 ·refine ⟨its.toList,r,⟨o,n,I.kIn a o hk,hc,hd,by simpa using hs⟩,?_⟩
  have e:=r.length
  simp only [BS] at e
  omega
theorem Aw.tuple (I:Aw X pins σ H s)(h:F5 X.K H a xs):∃its:II,A6 xs its∧IsTup s.heap a its.toArray∧xs.length≤sizeLine:=by
 rcases h with h|⟨o,its,n,hk,hc,hs,hz,r⟩
 ·obtain ⟨z,its,r,p⟩:=h.ok I.hok
  exact ⟨its,r,p,z⟩
 ·refine ⟨its.toList,r,⟨o,I.kIn a o hk,hc,n,by simpa using hs⟩,?_⟩
  have e:=r.length
  simp only [BS] at e
  omega
theorem Aw.list_inj (I:Aw X pins σ H s)(h:Au X.K H a xs)(h':Au X.K H a ys):xs=ys:=by
 obtain ⟨its,r,⟨o,n,e,_,_,d⟩,_⟩:=I.list h
 obtain ⟨its',r',⟨o',n',e',_,_,d'⟩,_⟩:=I.list h'
 rw [e] at e';cases e'
 rw [d] at d'
 injection d' with d1 _
 have:its=its':=by simpa using congrArg Array.toList d1
 subst this
 exact r.inj r'
theorem Aw.tuple_inj (I:Aw X pins σ H s)(h:F5 X.K H a xs)(h':F5 X.K H a ys):xs=ys:=by
 obtain ⟨its,r,⟨o,e,_,n,d⟩,_⟩:=I.tuple h
 obtain ⟨its',r',⟨o',e',_,n',d'⟩,_⟩:=I.tuple h'
 rw [e] at e';cases e'
 rw [d] at d'
 injection d' with d1 _
 have:its=its':=by simpa using congrArg Array.toList d1
 subst this
 exact r.inj r'
end
abbrev Cx.wish (X:Cx)(E:IA→IB→Prop):Cx:={ X with xe:=E }
abbrev Cx.nox (X:Cx):Cx:=X.wish fun _ _=>False
theorem Cx.Ok.wish {X:Cx}(ok:X.Ok)(E:IA→IB→Prop):(X.wish E).Ok:=
 ⟨ok.mod,ok.kind,ok.glob,ok.blt,ok.above,ok.inj,ok.has,ok.cab,ok.hd,ok.frames,ok.stk,ok.exf,ok.bs,ok.bsz,ok.noex,ok.exfs,ok.funs,ok.frf⟩
theorem Cx.Ok.unwish {X:Cx}{E:IA→IB→Prop}(ok:(X.wish E).Ok):X.Ok:=
 ⟨ok.mod,ok.kind,ok.glob,ok.blt,ok.above,ok.inj,ok.has,ok.cab,ok.hd,ok.frames,ok.stk,ok.exf,ok.bs,ok.bsz,ok.noex,ok.exfs,ok.funs,ok.frf⟩
section
variable {X:Cx}{pins:List (IC×Obj)}{σ:St}{H:Hp}{s:IB}{E:IA→IB→Prop}
theorem Aw.wish (I:Aw X pins σ H s)(E:IA→IB→Prop):Aw (X.wish E) pins σ H s:=⟨I.ok.wish E,I.os,I.bare,I.base,I.loc,I.cell,I.free,I.freeC,I.pin,I.hok,I.len⟩
theorem Aw.unwish (I:Aw (X.wish E) pins σ H s):Aw X pins σ H s:=⟨I.ok.unwish,I.os,I.bare,I.base,I.loc,I.cell,I.free,I.freeC,I.pin,I.hok,I.len⟩
theorem SP.unwish {D:Wr}{f:Flow}{s':IB}(h:SP (X.wish E) pins D f s'):SP X pins D f s':=by
 cases f with
 |next=>obtain ⟨σ',H',I,q⟩:=h;exact ⟨σ',H',I.unwish,q⟩
 |brk=>obtain ⟨σ',H',I,q⟩:=h;exact ⟨σ',H',I.unwish,q⟩
 |cont=>obtain ⟨σ',H',I,q⟩:=h;exact ⟨σ',H',I.unwish,q⟩
 |ret u=>obtain ⟨v,σ',H',I,r,q⟩:=h;exact ⟨v,σ',H',I.unwish,r,q⟩
theorem Ny.nox {st:List Stmt}{t:TS}(h:Ny X.nox st t):Ny X st t:=fun pins s σ H D I hw=>
 CK (h pins s σ H D (I.wish _) hw) (fun _ _ q=>q.unwish) fun _ _ z=>False.elim z
end
section
variable {X:Cx}{st:Stmt}{Ep:List Stmt}{t u:TS}{e:Expr}{te:TE}{pos:Pos}
def Aoa:TS:=fun D σ H=>D.nx σ H
def Ape (t u:TS):TS:=fun D σ H=>t { D with nx:=u D } σ H
theorem Ao:Ny X [] Aoa:=fun _ _ σ H _ I h=>HQ ⟨σ,H,I,h⟩
theorem Aa (h1:PS X st t)(h2:Ny X Ep u):Ny X (st::Ep) (Ape t u):=by
 intro pins s σ H D I h
 refine wpAny_execs_cons (Bo (h1 pins s σ H { D with nx:=u D } I h) fun f s1 q=>?_)
 cases f with
 |next=>
  obtain ⟨σ',H',I',q⟩:=q
  exact h2 pins s1 σ' H' D I' q
 |ret v=>exact q
 |brk=>exact q
 |cont=>exact q
theorem An (h1:PS X st t):Ny X [st] t:=by
 intro pins s σ H D I h
 refine wpAny_execs_cons (Bo (h1 pins s σ H D I h) fun f s1 q=>?_)
 cases f with
 |next=>exact HQ q
 |ret v=>exact q
 |brk=>exact q
 |cont=>exact q
theorem Aw.quiet {pins:List (IC×Obj)}{σ:St}{H:Hp}{s:IB}(I:Aw X pins σ H s):interactive X.env=false:=by simp [interactive,I.ok.kind]
def Amp (te:TE):TS:=fun D σ H=>te σ H fun _ H1=>D.nx σ H1
theorem C3 (he:PE X e te)(hs:swapsWith e none pos.line X.env=pure false:=by rfl):PS X (.Expr e pos) (Amp te):=by
 intro pins s σ H D I h
 exact wpAny_Expr_any (Bo (he pins s σ H _ I h) fun v s1 ⟨x,H1,I1,r1,q1⟩=>⟨σ,H1,I1,q1⟩) I.quiet hs
def Amx (te:TE):TS:=fun D σ H=>te σ H D.rt
theorem Aja (he:PE X e te):PS X (.Return (some e) pos) (Amx te):=by
 intro pins s σ H D I h
 exact wpAny_Return_some (Bo (he pins s σ H _ I h) fun v s1 ⟨x,H1,I1,r1,q1⟩=>⟨x,σ,H1,I1,r1,q1⟩)
def Al2 (c:TT)(t u:TS):TS:=fun D σ H=>c σ H fun b H1=>if b=true then t D σ H1 else u D σ H1
theorem Amq {c:Expr}{a b:List Stmt}{tc:TT}(hc:PT X c tc)(ha:Ny X a t)(hb:Ny X b u):PS X (.If c a b pos) (Al2 tc t u):=by
 intro pins s σ H D I h
 refine wpAny_If (Bo (hc pins s σ H _ I h) fun d s1 ⟨H1,I1,q1⟩=>?_)
 cases d with
 |true=>exact ha pins s1 σ H1 D I1 q1
 |false=>exact hb pins s1 σ H1 D I1 q1
def Akb:TS:=fun _ _ _=>False
theorem Ba:PS X st Akb:=fun _ _ _ _ _ _ h=>h.elim
end
abbrev TG:=V→St→Hp→(St→Hp→Prop)→Prop
abbrev TGs:=IP→St→Hp→(St→Hp→Prop)→Prop
def PG (X:Cx)(target:Expr)(t:TG):Prop:=
 ∀(pins:List (IC×Obj)) (s:IB) (σ:St) (H:Hp) (v:V) (u:IA) (Q:St→Hp→Prop),Aw X pins σ H s→RelV v u→t v σ H Q →
  wpAny (model X.prog X.w) X.A (assign target X.env u) (fun _ s'=>∃σ' H',Aw X pins σ' H' s'∧Q σ' H') X.xe s
def PGs (X:Cx)(ts:IJ)(t:TGs):Prop:=
 ∀(pins:List (IC×Obj)) (s:IB) (σ:St) (H:Hp) (vs:IP) (us:II) (Q:St→Hp→Prop),Aw X pins σ H s→A6 vs us→t vs σ H Q →
  wpAny (model X.prog X.w) X.A (assignInOrder ((assignEach ts X.env).map (·.2)) us) (fun _ s'=>∃σ' H',Aw X pins σ' H' s'∧Q σ' H') X.xe s
section
variable {X:Cx}{pos:Pos}
def Oz (i:Nat):TG:=fun v σ H Q=>Q (σ.set i (some v)) H
theorem Ar {i:Nat}{x:Str}(hN:X.N.Nodup)(hi:X.N[i]? =some x)(hx:Loc X.env.scope x)(hf:X.fn x=true∨X.env.scope.names.lookup x=some .local:=by first|exact .inl rfl|exact .inr rfl|assumption):PG X (.Name x pos) (Oz i):=by
 intro pins s σ H v u Q I r h
 exact wpAny_assign_Name (Va I hN hi hx r (fun s' I'=>⟨_,H,I',h⟩) hf)
def Apx:TGs:=fun vs σ H Q=>vs=[]∧Q σ H
def An9 (t:TG)(u:TGs):TGs:=fun vs σ H Q=>∃v r,vs=v::r∧t v σ H fun σ' H'=>u r σ' H' Q
theorem Jn:PGs X [] Apx:=by
 intro pins s σ H vs us Q I r h
 obtain ⟨e,h⟩:=h
 subst e
 cases r
 exact assignInOrder_nil ⟨σ,H,I,h⟩
theorem Be {e:Expr}{es:IJ}{t:TG}{u:TGs}(h1:PG X e t)(h2:PGs X es u)
  (hs:(assignEach (e::es) X.env).map (·.2)=assign e X.env::(assignEach es X.env).map (·.2):=by rfl):PGs X (e::es) (An9 t u):=by
 intro pins s σ H vs us Q I r h
 obtain ⟨v,vr,e1,h⟩:=h
 subst e1
 cases r with
 |cons r rr=>
  rw [hs]
  refine assignInOrder_cons (Bo (h1 pins s σ H _ _ _ I r h) fun _ s1 ⟨σ1,H1,I1,q1⟩=>?_)
  exact h2 pins s1 σ1 H1 _ _ Q I1 rr q1
def Ah3 (K:KKf)(n:Nat)(t:TGs):TG:=fun v σ H Q=>∃a xs,v=.ref a∧F5 K H a xs∧xs.length=n∧t xs σ H Q
theorem Mv {es:IJ}{k:Nat}{t:TGs}{n:Nat}(hc:X.calm=true)(h:PGs X es t)
  (hn:(assignEach es X.env).length=n:=by rfl) (hst:(assignEach es X.env).findIdx? (·.1)=none:=by rfl):PG X (.Tuple es k pos) (Ah3 X.K n t):=by
 intro pins s σ H v u Q I r hw
 obtain ⟨a,xs,e1,hq,hl,hw⟩:=hw
 subst e1
 cases r
 obtain ⟨its,rv,ht,hz⟩:=I.tuple hq
 refine assign_Tuple_tuple (I.ok.hd hc) ht (by simp [hn,←hl,rv.length]) hst fun h' hx=>?_
 have I1:Aw X pins σ H { s with heap:=h' }:=I.kept (t':=s.toks) fun b o e=>hx b o (BC (AK e)) e
 exact h pins _ σ H xs _ Q I1 (by simpa using rv) hw
def X7 (te:TE)(g:TG):TS:=fun D σ H=>te σ H fun x H1=>g x σ H1 D.nx
theorem Alu {tg e:Expr}{te:TE}{g:TG}(he:PE X e te)(hg:PG X tg g)(hs:swapsWithSole [tg] e pos.line X.env=pure false:=by rfl)(hw:swappedStores [tg] e X.env=pure none:=by rfl)
  (h1:(assignEach [tg] X.env).map (·.2)=[assign tg X.env]:=by rfl):PS X (.Assign [tg] e pos) (X7 te g):=by
 intro pins s σ H D I h
 refine wpAny_Assign_stores (Bo (he pins s σ H _ I h) fun v s1 ⟨x,H1,I1,r1,q1⟩=>?_) hs hw
 rw [h1]
 exact Bo (hg pins s1 σ H1 x v _ I1 r1 q1) fun _ s2 q=>q
theorem Ak9 {i:Nat}{x:Str}{e:Expr}{te:TE}{pos':Pos}(hN:X.N.Nodup)(hi:X.N[i]? =some x)(hx:Loc X.env.scope x)(he:PE X e te)(hs:swapsWith e (some (.Name x pos')) pos.line X.env=pure false:=by rfl)(hf:X.fn x=true∨X.env.scope.names.lookup x=some .local:=by first|exact .inl rfl|exact .inr rfl|assumption) :
  PS X (.Assign [.Name x pos'] e pos) (X7 te (Oz i)):=by
 intro pins s σ H D I h
 refine wpAny_Assign_Name (Bo (he pins s σ H _ I h) fun v s1 ⟨y,H1,I1,r1,q1⟩=>?_) hs
 exact Va I1 hN hi hx r1 (fun s2 I2=>⟨_,H1,I2,q1⟩) hf
end
structure It where
 go:Nat→Hp→Prop
 yld:Nat→Hp→V→Hp→Prop
 stop:Nat→Hp→Prop
def Lh (X:Cx)(pins:List (IC×Obj))(H:Hp)(b:IC):Prop:=
 H b=none∧b≠X.env.locals∧b∉X.fs∧(b∈X.ex∨X.s₀.heap.objs.size≤b)∧(∀x c,X.env.cells.lookup x=some c→c≠b)∧∀p∈X.pn++pins,p.1≠b
theorem Aw.fpOk {X:Cx}{pins:List (IC×Obj)}{σ:St}{H H':Hp}{s:IB}{b:IC}(I:Aw X pins σ H s)(hb:s.heap.objs.size≤b)(hn:H' b=none):Lh X pins H' b:=by
 refine ⟨hn,DN (AV I.lt hb),I.nofs hb,.inr (AI I.sz hb),fun x c e z=>?_,fun p hp z=>?_⟩
 ·obtain ⟨v,q⟩:=I.cell x c e
  exact absurd (AV q.lt (by rw [z];exact hb)) (DY _)
 ·exact absurd (AV (AK (I.pin p hp).1) (by rw [z];exact hb)) (DY _)
structure Wz (P:IE)(w:IF)(K:KKf)(tg:Expr)(J:It)(fp:List IC)(it:IC)(tn:Nat→Heap→Prop):Prop where
 mem:it∈fp
 obj:∀i h,tn i h→∀b∈fp,∃o,h.get? b=some o∧∀v,o.data≠.cell v
 keep:∀i h h',tn i h→(∀b∈fp,∀o,h.get? b=some o→h'.get? b=some o)→tn i h'
 item:∀(X:Cx),X.prog=P→X.w=w→X.K=K→X.calm=true→∀(i:Nat) (pins:List (IC×Obj)) (s:IB) (σ:St) (H:Hp) (E:IA→IB→Prop),Aw X pins σ H s→(∀b∈fp,Lh X pins H b)→tn i s.heap→J.go i H →
  wpAny (model P w) X.A (pyNext (.ref it)) (fun r s1=>∃u,r=some u ∧
   wpAny (model P w) X.A (letOwnedTupleGo tg (.ref it) u) (fun _ s2=>∃x H',Aw X pins σ H' s2∧RelV x u∧J.yld i H x H'∧tn (i+1) s2.heap∧∀b∈fp,H' b=none) E s1) E s
 done:∀(X:Cx),X.prog=P→X.w=w→X.K=K→X.calm=true→∀(i:Nat) (pins:List (IC×Obj)) (s:IB) (σ:St) (H:Hp) (E:IA→IB→Prop),Aw X pins σ H s→(∀b∈fp,Lh X pins H b)→tn i s.heap→J.stop i H →
  wpAny (model P w) X.A (pyNext (.ref it)) (fun r s1=>r=none∧Aw X pins σ H s1) E s
 self:∀(A:ID) (i:Nat) (s:IB) (Q:IA→IB→Prop) (E:IA→IB→Prop),tn i s.heap→Q (.ref it) s→wpAny (model P w) A (pyIter (.ref it)) Q E s
abbrev TI:=St→Hp→(It→Hp→Prop)→Prop
def PIE (X:Cx)(pins:List (IC×Obj))(σ:St)(tg:Expr)(R:It→Hp→Prop)(itv:IA)(s2:IB):Prop:=
 ∃(it:IC) (fp:List IC) (tn:Nat→Heap→Prop) (J:It) (H':Hp),itv=.ref it∧Aw X pins σ H' s2∧Wz X.prog X.w X.K tg J fp it tn∧tn 0 s2.heap∧(∀b∈fp,Lh X pins H' b)∧R J H'
def PI (X:Cx)(tg iter:Expr)(wi:TI):Prop:=
 ∀(pins:List (IC×Obj)) (s:IB) (σ:St) (H:Hp) (R:It→Hp→Prop),Aw X pins σ H s→wi σ H R →
  wpAny (model X.prog X.w) X.A (eval iter X.env) (fun v s1=>wpAny (model X.prog X.w) X.A (pyIter v) (PIE X pins σ tg R) X.xe s1) X.xe s
theorem Zu {M:Model}{A:ID}{E:IA→IB→Prop}{s:IB}{tg:Expr}{it:IC}{u:IA}{o:Obj}{n:String}{vs:Array IA}{Q:Unit→IB→Prop}(ho:s.heap.get? it=some o)(hc:o.cls=.type n)(hd:o.data=.fields vs)
  (hn:["enumerate","zip","dict_itemiterator","dict_reverseitemiterator","odict_iterator","itertools.zip_longest","itertools.pairwise"].contains n=false) (hQ:Q () s):wpAny M A (letOwnedTupleGo tg (.ref it) u) Q E s:=by
 unfold letOwnedTupleGo
 cases tg<;>first
  |exact AC hQ
  | (cases u<;>first
    |exact AC hQ
    | (refine AA (wpAny_load ho ?_)
       rw [hc,hd]
       show wpAny M A (if (["enumerate","zip","dict_itemiterator","dict_reverseitemiterator","odict_iterator","itertools.zip_longest","itertools.pairwise"].contains n&&vs[0]? ==some (rawInt _))=true then _ else _) Q E s
       rw [AW (by intro h;rw [hn,EB] at h;cases h)]
       exact AC hQ))
def Itl (K:KKf)(a:IC):It:=
 ⟨fun i H=>∃xs x,Au K H a xs∧xs[i]? =some x,fun i H x H'=>H'=H∧∀xs,Au K H a xs→xs[i]? =some x,fun i H=>∃xs,Au K H a xs∧xs.length≤i⟩
def Itr (lo:Int)(n:Nat):It:=⟨fun i _=>i<n,fun i H x H'=>H'=H∧x=.int (lo+i),fun i _=>n≤i⟩
theorem Aaz {P:IE}{w:IF}{K:KKf}{tg:Expr}(a it:IC):Wz P w K tg (Itl K a) [it] it (fun i h=>h.IsListIter it a i) where
 mem:=by simp
 obj:=fun i h st b hb=>by
  have e:b=it:=by simpa using hb
  subst e
  obtain ⟨o,e,c,d⟩:=st
  exact ⟨o,e,fun v z=>by rw [d] at z;cases z⟩
 keep:=fun i h h' st k=>st.at fun o e=>k it (by simp) o e
 item:=by
  intro X hP hw hK hc i pins s σ H E I hf st hg
  subst hP hw hK
  obtain ⟨xs,x,hq,hx⟩:=hg
  obtain ⟨its,rv,p,hz⟩:=I.list hq
  obtain ⟨u,hu,ru⟩:=rv.get hx
  obtain ⟨f0,f1,f2,f3,f4,f5⟩:=hf it (by simp)
  refine wpAny_pyNext_list_item st p.isList (x:=u) (by simpa using hu) fun h' st' sb=>?_
  have I1:Aw X pins σ H { s with heap:=h' }:=I.turned (t':=s.toks) (fun b o hb e=>(sb.2 b hb).trans e) f0 f1 f3 f4 f5
  obtain ⟨o,e,c,d⟩:=id st'
  exact ⟨u,rfl,Zu (s:={ s with heap:=h' }) e c d (by decide) ⟨x,H,I1,ru,⟨rfl,fun ys hy=>by rw [I.list_inj hy hq];exact hx⟩,st',fun b hb=>(hf b hb).1⟩⟩
 done:=by
  intro X hP hw hK hc i pins s σ H E I hf st hg
  subst hP hw hK
  obtain ⟨xs,hq,hx⟩:=hg
  obtain ⟨its,rv,p,hz⟩:=I.list hq
  obtain ⟨f0,f1,f2,f3,f4,f5⟩:=hf it (by simp)
  have hl:=rv.length
  exact wpAny_pyNext_list_end (I.ok.hd hc) st p.isList (by simp;omega) fun h' eb=>⟨rfl,I.turned (t':=s.toks) (fun b o hb e=>eb b o hb e) f0 f1 f3 f4 f5⟩
 self:=fun _ _ _ _ _ st h=>wpAny_pyIter_listiter st h
theorem Xj {P:IE}{w:IF}{K:KKf}{tg:Expr}(it:IC)(lo:Int)(n:Nat):Wz P w K tg (Itr lo n) [it] it (fun i h=>IsRangeIter h it (lo+(i:Nat)*1) ((n:Int)-(i:Nat)) 1) where
 mem:=by simp
 obj:=fun i h st b hb=>by
  have e:b=it:=by simpa using hb
  subst e
  exact ⟨_,st,fun v z=>by
   have z':Data.fields _=Data.cell v:=z
   cases z'⟩
 keep:=fun i h h' st k=>k it (by simp) _ st
 item:=by
  intro X hP hw hK hc i pins s σ H E I hf st hg
  subst hP hw hK
  obtain ⟨f0,f1,f2,f3,f4,f5⟩:=hf it (by simp)
  have W:=Walks.range (prog:=X.prog) (w:=X.w) (I.ok.hd hc) it lo 1 n
  refine W.item i s _ _ hg st fun v h' tk hv st' kk=>?_
  obtain ⟨t,rfl⟩:=hv
  have I1:Aw X pins σ H { s with heap:=h',toks:=tk }:=I.turned (fun b o hb e=>kk b o (by simpa using hb) e) f0 f1 f3 f4 f5
  refine ⟨_,rfl,Zu (s:={ s with heap:=h',toks:=tk }) (n:="range_iterator") st' rfl rfl (by decide) ⟨.int (lo+i),H,I1,⟨t,?_⟩,⟨rfl,rfl⟩,st',fun b hb=>(hf b hb).1⟩⟩
  rw [Int.mul_one]
 done:=by
  intro X hP hw hK hc i pins s σ H E I hf st hg
  subst hP hw hK
  obtain ⟨f0,f1,f2,f3,f4,f5⟩:=hf it (by simp)
  exact wpAny_pyNext_range_end (I.ok.hd hc) st (by have:n≤i:=hg;omega) fun h' eb=>⟨rfl,I.turned (t':=s.toks) (fun b o hb e=>eb b o hb e) f0 f1 f3 f4 f5⟩
 self:=fun _ _ _ _ _ st h=>wpAny_pyIter_rangeiter st h
end L2
namespace L2
open PySem PySem.Spec PyProof.Rows
section
variable {X:Cx}{tg:Expr}
def Aoi (K:KKf)(tl:TE):TI:=fun σ H R=>tl σ H fun x H1=>∃a,x=.ref a∧(∃xs,Au K H1 a xs)∧R (Itl K a) H1
theorem A4 {l:Expr}{tl:TE}(hl:PE X l tl):PI X tg l (Aoi X.K tl):=by
 intro pins s σ H R I h
 refine Bo (hl pins s σ H _ I h) fun v s1 ⟨x,H1,I1,r1,q1⟩=>?_
 obtain ⟨a,e,⟨xs,hq⟩,q⟩:=q1
 subst e
 cases r1
 obtain ⟨its,rv,p,hz⟩:=I1.list hq
 refine FX p.isList ?_
 refine ⟨s1.heap.objs.size,[s1.heap.objs.size],_,_,H1,rfl,I1.kept (t':=s1.toks) fun b o e=>AB _ e,Aaz a _,⟨_,AJ _ rfl,rfl,rfl⟩,fun b hb=>?_,q⟩
 have e:b=s1.heap.objs.size:=by simpa using hb
 subst e
 exact I1.fpOk (AF _) (I1.hok.fresh (AF _))
theorem V7 {pins:List (IC×Obj)}{σ:St}{H:Hp}{s:IB}{R:It→Hp→Prop}{E:IA→IB→Prop}{lo hi:Int}{t u v:Tok}{tk:Nat}(I:Aw X pins σ H s)(h1:-(2 ^ 62)≤lo)(h2:lo<2 ^ 62)(h3:-(2 ^ 62)≤hi)(h4:hi<2 ^ 62)
  (q:R (Itr lo (hi-lo).toNat) H):wpAny (model X.prog X.w) X.A (pyIter (.ref s.heap.objs.size)) (PIE X pins σ tg R) E { s with heap:=s.heap.push { cls:=.type "range",data:=.fields #[.int lo t,.int hi u,.int 1 v] },toks:=tk }:=by
 refine wpAny_pyIter_range (IsRange.new ..) (small_one h1 h2 h3 h4) ?_
 have I1:Aw X pins σ H { s with heap:=s.heap.push { cls:=.type "range",data:=.fields #[.int lo t,.int hi u,.int 1 v] },toks:=tk }:=I.kept fun b o e=>AB _ e
 refine ⟨(s.heap.push { cls:=.type "range",data:=.fields #[.int lo t,.int hi u,.int 1 v] }).objs.size,[(s.heap.push { cls:=.type "range",data:=.fields #[.int lo t,.int hi u,.int 1 v] }).objs.size],_,_,H,rfl,
  I1.kept (t':=tk) fun b o e=>AB _ e,Xj _ lo (hi-lo).toNat,?_,fun b hb=>?_,q⟩
 ·have e1:lo+((0:Nat):Int)*1=lo:=by simp
  have e2:(((hi-lo).toNat:Nat):Int)-((0:Nat):Int)=Builtin.Range.rangeSize lo hi 1:=by rw [rangeSize_one];split<;>omega
  show IsRangeIter _ _ (lo+((0:Nat):Int)*1) ((((hi-lo).toNat:Nat):Int)-((0:Nat):Int)) 1
  rw [e1,e2]
  exact AJ _ rfl
 ·have e:b=(s.heap.push { cls:=.type "range",data:=.fields #[.int lo t,.int hi u,.int 1 v] }).objs.size:=by simpa using hb
  subst e
  exact I1.fpOk (AF _) (I1.hok.fresh (AF _))
def Anx (ta:TA):TI:=fun σ H R=>ta σ H fun vs H1=>∃j:Int,vs=[.int j]∧-(2 ^ 62)≤j∧j<2 ^ 62∧R (Itr 0 j.toNat) H1
def Amr (ta:TA):TI:=fun σ H R=>ta σ H fun vs H1=>∃i j:Int,vs=[.int i,.int j]∧(-(2 ^ 62)≤i∧i<2 ^ 62∧-(2 ^ 62)≤j∧j<2 ^ 62)∧R (Itr i (j-i).toNat) H1
theorem Fj {a:Expr}{ta:TA}{p pos:Pos}(hg:Gl X "range")(hm:X.mg "range"=none)(ha:PA X [a] ta)(hs:starEach [a] X.env=[(false,eval a X.env)]:=by rfl):PI X tg (.Call (.Name "range" p) [a] [] pos) (Anx ta):=by
 intro pins s σ H R I h
 refine Call_ (Gi I hg hm boot_range (DH (Bo (ha pos pins s σ H _ I h) fun us s1 ⟨vs,H1,I1,r1,q1⟩=>?_) hs rfl))
 obtain ⟨j,e,q1,q2,q⟩:=q1
 subst e
 cases r1 with
 |cons r rr=>
  cases rr
  obtain ⟨t,rfl⟩:=r
  exact call_range_1 (V7 I1 (by omega) (by omega) q1 q2 (by simpa using q))
theorem Aat {a b:Expr}{ta:TA}{p pos:Pos}(hg:Gl X "range")(hm:X.mg "range"=none)(ha:PA X [a,b] ta)(hs:starEach [a,b] X.env=[(false,eval a X.env),(false,eval b X.env)]:=by rfl)(hs2:starEach [b] X.env=[(false,eval b X.env)]:=by rfl) :
  PI X tg (.Call (.Name "range" p) [a,b] [] pos) (Amr ta):=by
 intro pins s σ H R I h
 refine Call_ (Gi I hg hm boot_range (DH (Bo (ha pos pins s σ H _ I h) fun us s1 ⟨vs,H1,I1,r1,q1⟩=>?_) (by rw [hs,hs2]) (by rw [hs2];rfl)))
 obtain ⟨i,j,e,⟨q1,q2,q3,q4⟩,q⟩:=q1
 subst e
 cases r1 with
 | cons r rr=>
  cases rr with
  |cons r' rr=>
   cases rr
   obtain ⟨t,rfl⟩:=r
   obtain ⟨t',rfl⟩:=r'
   exact call_range_2 (V7 I1 q1 q2 q3 q4 q)
def Ap7 (wi:TI)(g:TG)(tb:TS):TS:=fun D σ H=>wi σ H fun J H1=>∃W:Nat→Nat→St→Hp→Prop,(∃m,W 0 m σ H1)∧∀i m σ H,W i m σ H →
 (J.stop i H∧D.nx σ H)∨(J.go i H∧∃N:St→Hp→Prop,(∀σ' H',N σ' H'→∃m',m'<m∧W (i+1) m' σ' H')∧∀x H',J.yld i H x H'→g x σ H' fun σ2 H2=>tb { D with nx:=N,ct:=N,bk:=D.nx } σ2 H2)
def Sm (fp:List IC)(h:Heap):List (IC×Obj):=fp.filterMap fun b=>(h.get? b).map fun o=>(b,o)
theorem C5 {fp:List IC}{h:Heap}{b:IC}{o:Obj}(hb:b∈fp)(e:h.get? b=some o):(b,o)∈Sm fp h:=FP.mpr ⟨b,hb,by rw [e];rfl⟩
theorem Abn {fp:List IC}{h:Heap}{p:IC×Obj}(hp:p∈Sm fp h):p.1∈fp∧h.get? p.1=some p.2:=by
 obtain ⟨b,hb,e⟩:=FP.mp hp
 cases q:h.get? b with
 |none=>rw [q] at e;cases e
 |some o=>
  rw [q] at e
  have e':(b,o)=p:=Option.some.inj e
  subst e'
  exact ⟨hb,q⟩
theorem Aw.pinned {pins:List (IC×Obj)}{σ:St}{H:Hp}{s:IB}{fp:List IC}(I:Aw X pins σ H s)(hf:∀b∈fp,Lh X pins H b)(ho:∀b∈fp,∃o,s.heap.get? b=some o∧∀v,o.data≠.cell v):Aw X (pins++Sm fp s.heap) σ H s:=
 I.pins_of fun p hp=>(BH.mp hp).elim (fun z=>I.pin p (BA _ z)) fun z=>by
  obtain ⟨hb,e⟩:=Abn z
  obtain ⟨f0,f1,f2,_⟩:=hf p.1 hb
  obtain ⟨o,e',d⟩:=ho p.1 hb
  rw [e] at e';cases e'
  exact ⟨e,f0,f1,f2,d⟩
theorem Aw.unpinned {pins pl:List (IC×Obj)}{σ:St}{H:Hp}{s:IB}(I:Aw X (pins++pl) σ H s):Aw X pins σ H s:=I.pins_of fun p hp=>I.pin p (BA _ (CC _ hp))
theorem C4 {iter:Expr}{body:List Stmt}{wi:TI}{g:TG}{tb:TS}{pos:Pos}(hp:PassesOwn (model X.prog X.w) X.A X.env X.xe)(hc:X.calm=true)(hi:PI X tg iter wi)(hg:PG X tg g)(hb:Ny X body tb)
  (hs:∀x,foldedSetIterable iter X.env x=pure x:=by intro _;rfl):PS X (.For tg iter body [] pos) (Ap7 wi g tb):=by
 intro pins s σ H D I h
 refine wpAny_For (Bo (hi pins s σ H _ I h) fun v s1 h1=>Bo h1 fun itv s2 h2=>?_) hs
 obtain ⟨it,fp,tn,J,H2,e,I2,T,st2,f2,W,⟨m0,w0⟩,turn⟩:=h2
 subst e
 have stat:∀{H':Hp},(∀b∈fp,H' b=none)→∀b∈fp,Lh X pins H' b:=fun hn b hb=>⟨hn b hb,(f2 b hb).2⟩
 refine codeAny_forLoop_any (fun n s'=>∃i σ' H',Aw X pins σ' H' s'∧tn i s'.heap∧(∀b∈fp,H' b=none)∧W i n σ' H') ?_ m0 ⟨0,σ,H2,I2,st2,fun b hb=>(f2 b hb).1,w0⟩
 rintro n s3 ⟨i,σ3,H3,I3,st3,fr3,w3⟩
 rcases turn i n σ3 H3 w3 with ⟨stop,qn⟩|⟨go,N,hN,step⟩
 ·refine ER hp (Bo (T.done X rfl rfl rfl hc i pins s3 σ3 H3 X.xe I3 (stat fr3) st3 stop) fun r s4 ⟨hr,I4⟩=>?_)
  subst hr
  exact HQ ⟨σ3,H3,I4,qn⟩
 ·refine ER hp (Bo (T.item X rfl rfl rfl hc i pins s3 σ3 H3 X.xe I3 (stat fr3) st3 go) fun r s4 ⟨u,hr,h4⟩=>?_)
  subst hr
  refine ER hp (Bo h4 fun _ s5 ⟨x,H5,I5,r5,y5,st5,fr5⟩=>?_)
  have I5':=I5.pinned (stat fr5) (T.obj _ _ st5)
  refine ER hp (Bo (hg _ s5 σ3 H5 x u _ I5' r5 (step x H5 y5)) fun _ s6 ⟨σ6,H6,I6,q6⟩=>?_)
  refine ER hp (Bo (hb _ s6 σ6 H6 _ I6 q6) fun f s7 q7=>?_)
  have again:∀{σ7:St} {H7:Hp},Aw X (pins++Sm fp s5.heap) σ7 H7 s7→N σ7 H7→∃m,m<n∧∃i σ' H',Aw X pins σ' H' s7∧tn i s7.heap∧(∀b∈fp,H' b=none)∧W i m σ' H':=fun {σ7 H7} I7 n7=>by
   obtain ⟨m',hm,w7⟩:=hN σ7 H7 n7
   refine ⟨m',hm,i+1,σ7,H7,I7.unpinned,T.keep _ _ _ st5 fun b hb o e=>(I7.pin (b,o) (BA _ (BA _ (C5 hb e)))).1,fun b hb=>?_,w7⟩
   obtain ⟨o,e,d⟩:=T.obj _ _ st5 b hb
   exact (I7.pin (b,o) (BA _ (BA _ (C5 hb e)))).2.1
  cases f with
  |next=>obtain ⟨σ7,H7,I7,n7⟩:=q7;exact again I7 n7
  |cont=>obtain ⟨σ7,H7,I7,n7⟩:=q7;exact again I7 n7
  |brk=>obtain ⟨σ7,H7,I7,q7⟩:=q7;exact ⟨σ7,H7,I7.unpinned,q7⟩
  |ret v=>obtain ⟨x7,σ7,H7,I7,r7,q7⟩:=q7;exact ⟨x7,σ7,H7,I7.unpinned,r7,q7⟩
end
theorem C6 {K:KKf}{a:IC}{xs:IP}{g:TG}{tb:TS}{D:Wr}{σ:St}{H:Hp}(Pv:Nat→St→Hp→Prop)(h0:Pv 0 σ H)(hl:∀i σ H,i≤xs.length→Pv i σ H→Au K H a xs)
  (hs:∀i x σ H,xs[i]? =some x→Pv i σ H→g x σ H fun σ2 H2=>tb { D with nx:=Pv (i+1),ct:=Pv (i+1),bk:=D.nx } σ2 H2) (hd:∀σ H,Pv xs.length σ H→D.nx σ H) :
  ∃W:Nat→Nat→St→Hp→Prop,(∃m,W 0 m σ H)∧∀i m σ H,W i m σ H →
   ((Itl K a).stop i H∧D.nx σ H)∨((Itl K a).go i H∧∃N:St→Hp→Prop,(∀σ' H',N σ' H'→∃m',m'<m∧W (i+1) m' σ' H')∧∀x H',(Itl K a).yld i H x H'→g x σ H' fun σ2 H2=>tb { D with nx:=N,ct:=N,bk:=D.nx } σ2 H2):=by
 refine ⟨fun i m σ H=>m=xs.length-i∧i≤xs.length∧Pv i σ H,⟨xs.length,by simp,BK _,h0⟩,?_⟩
 rintro i m σ H ⟨rfl,hi,p⟩
 have q:=hl i σ H hi p
 by_cases hlt:i<xs.length
 ·refine .inr ⟨⟨xs,xs[i],q,by simp [hlt]⟩,Pv (i+1),fun σ' H' p'=>⟨xs.length-(i+1),by omega,rfl,hlt,p'⟩,fun x H' y=>?_⟩
  obtain ⟨e,y⟩:=y
  subst e
  exact hs i x σ _ (y xs q) p
 ·have e:i=xs.length:=by omega
  subst e
  exact .inl ⟨⟨xs,q,AF _⟩,hd σ H p⟩
theorem Fm {lo:Int}{n:Nat}{g:TG}{tb:TS}{D:Wr}{σ:St}{H:Hp}(Pv:Nat→St→Hp→Prop)(h0:Pv 0 σ H)
  (hs:∀i σ H,i<n→Pv i σ H→g (.int (lo+i)) σ H fun σ2 H2=>tb { D with nx:=Pv (i+1),ct:=Pv (i+1),bk:=D.nx } σ2 H2) (hd:∀σ H,Pv n σ H→D.nx σ H) :
  ∃W:Nat→Nat→St→Hp→Prop,(∃m,W 0 m σ H)∧∀i m σ H,W i m σ H →
   ((Itr lo n).stop i H∧D.nx σ H)∨((Itr lo n).go i H∧∃N:St→Hp→Prop,(∀σ' H',N σ' H'→∃m',m'<m∧W (i+1) m' σ' H')∧∀x H',(Itr lo n).yld i H x H'→g x σ H' fun σ2 H2=>tb { D with nx:=N,ct:=N,bk:=D.nx } σ2 H2):=by
 refine ⟨fun i m σ H=>m=n-i∧i≤n∧Pv i σ H,⟨n,by simp,BK _,h0⟩,?_⟩
 rintro i m σ H ⟨rfl,hi,p⟩
 by_cases hlt:i<n
 ·refine .inr ⟨hlt,Pv (i+1),fun σ' H' p'=>⟨n-(i+1),by omega,rfl,hlt,p'⟩,fun x H' y=>?_⟩
  obtain ⟨e,y⟩:=y
  subst e y
  exact hs i σ _ hlt p
 ·have e:i=n:=by omega
  subst e
  exact .inl ⟨AF _,hd σ H p⟩
end L2
namespace L2
open PySem PySem.Spec PyProof.Rows
abbrev R2:=V→V→Hp→VK→Prop
def Dh (X:Cx)(f:IA→IA→Sem IA)(r:R2):Prop:=
 ∀(pins:List (IC×Obj)) (s:IB) (σ:St) (H:Hp) (x y:V) (v u:IA) (Q:VK),Aw X pins σ H s→RelV x v→RelV y u→r x y H Q →
  wpAny (model X.prog X.w) X.A (f v u) (EP X pins σ Q) X.xe s
def UnR (X:Cx)(f:IA→Sem IA)(r:V→Hp→VK→Prop):Prop:=
 ∀(pins:List (IC×Obj)) (s:IB) (σ:St) (H:Hp) (x:V) (v:IA) (Q:VK),Aw X pins σ H s→RelV x v→r x H Q →
  wpAny (model X.prog X.w) X.A (f v) (EP X pins σ Q) X.xe s
def Df (X:Cx)(f:IA)(r:IP→Hp→VK→Prop):Prop:=
 ∀(pins:List (IC×Obj)) (s:IB) (σ:St) (H:Hp) (xs:IP) (us:II) (Q:VK),Aw X pins σ H s→A6 xs us→r xs H Q →
  wpAny (model X.prog X.w) X.A (call f us) (EP X pins σ Q) X.xe s
def tOp (r:R2)(ta tb:TE):TE:=fun σ H Q=>ta σ H fun x H1=>tb σ H1 fun y H2=>r x y H2 Q
def tUn (r:V→Hp→VK→Prop)(ta:TE):TE:=fun σ H Q=>ta σ H fun x H1=>r x H1 Q
def rI (C:Int→Int→Prop)(g:Int→Int→V):R2:=fun x y H Q=>∃i j,x=.int i∧y=.int j∧C i j∧Q (g i j) H
def rI0 (g:Int→Int→V):R2:=fun x y H Q=>∃i j,x=.int i∧y=.int j∧Q (g i j) H
def rU (g:Int→V):V→Hp→VK→Prop:=fun x H Q=>∃i,x=.int i∧Q (g i) H
section
variable {X:Cx}{a b c:Expr}{ta tb tc:TE}{pos:Pos}
theorem Ale (ha:PE X a ta)(hb:PE X b tb){pins:List (IC×Obj)}{s:IB}{σ:St}{H:Hp}{R:V→V→Hp→Prop}(I:Aw X pins σ H s)
  (h:ta σ H fun x H1=>tb σ H1 fun y H2=>R x y H2) {Q:IA→IB→Prop} {f:IA→IA→Sem IA}
  (hf:∀v u s2 x y H2,Aw X pins σ H2 s2→RelV x v→RelV y u→R x y H2→wpAny (model X.prog X.w) X.A (f v u) Q X.xe s2) :
  wpAny (model X.prog X.w) X.A (eval a X.env) (fun v s₁=>wpAny (model X.prog X.w) X.A (eval b X.env) (fun u s₂=>wpAny (model X.prog X.w) X.A (f v u) Q X.xe s₂) X.xe s₁) X.xe s:=by
 refine Bo (ha pins s σ H _ I h) fun v s1 ⟨x,H1,I1,r1,q1⟩=>?_
 refine Bo (hb pins s1 σ H1 _ I1 q1) fun u s2 ⟨y,H2,I2,r2,q2⟩=>?_
 exact hf v u s2 x y H2 I2 r1 r2 q2
theorem Ap {op:Operator}{r:R2}(ho:Dh X (binaryOp op) r)(ha:PE X a ta)(hb:PE X b tb):PE X (.BinOp a op b pos) (tOp r ta tb):=by
 intro pins s σ H Q I h
 exact wpAny_BinOp (Ale ha hb I h fun v u s2 x y H2 I2 rx ry q=>ho pins s2 σ H2 x y v u Q I2 rx ry q)
theorem Nf {op:UnaryOp}{r:V→Hp→VK→Prop}(ho:UnR X (unaryOp op) r)(ha:PE X a ta):PE X (.UnaryOp op a pos) (tUn r ta):=by
 intro pins s σ H Q I h
 exact UnaryOp_ (Bo (ha pins s σ H _ I h) fun v s1 ⟨x,H1,I1,r1,q1⟩=>ho pins s1 σ H1 x v Q I1 r1 q1)
theorem opI {f:IA→IA→Sem IA}{C:Int→Int→Prop}{g:Int→Int→Int}
  (rule:∀(i j:Int) (t u:Tok) (s:IB) (Q:IA→IB→Prop) (E:IA→IB→Prop),C i j→Q (.int (g i j) s.toks) { s with toks:=s.toks+1 }→wpAny (model X.prog X.w) X.A (f (.int i t) (.int j u)) Q E s) :
  Dh X f (rI C fun i j=>.int (g i j)):=by
 intro pins s σ H x y v u Q I rx ry h
 obtain ⟨i,j,rfl,rfl,hc,q⟩:=h
 obtain ⟨t,rfl⟩:=rx
 obtain ⟨t',rfl⟩:=ry
 exact rule i j t t' s _ _ hc ⟨.int (g i j),H,I.tok _,⟨_,rfl⟩,q⟩
theorem Ane {f:IA→IA→Sem IA}{g:Int→Int→Int}
  (rule:∀(i j:Int) (t u:Tok) (s:IB) (Q:IA→IB→Prop) (E:IA→IB→Prop),Q (.int (g i j) s.toks) { s with toks:=s.toks+1 }→wpAny (model X.prog X.w) X.A (f (.int i t) (.int j u)) Q E s) :
  Dh X f (rI0 fun i j=>.int (g i j)):=by
 intro pins s σ H x y v u Q I rx ry h
 obtain ⟨i,j,rfl,rfl,q⟩:=h
 obtain ⟨t,rfl⟩:=rx
 obtain ⟨t',rfl⟩:=ry
 exact rule i j t t' s _ _ ⟨.int (g i j),H,I.tok _,⟨_,rfl⟩,q⟩
theorem Akf {f:IA→IA→Sem IA}{g:Int→Int→Bool}
  (rule:∀(i j:Int) (t u:Tok) (s:IB) (Q:IA→IB→Prop) (E:IA→IB→Prop),Q (.bool (g i j)) s→wpAny (model X.prog X.w) X.A (f (.int i t) (.int j u)) Q E s) :
  Dh X f (rI0 fun i j=>.bl (g i j)):=by
 intro pins s σ H x y v u Q I rx ry h
 obtain ⟨i,j,rfl,rfl,q⟩:=h
 obtain ⟨t,rfl⟩:=rx
 obtain ⟨t',rfl⟩:=ry
 exact rule i j t t' s _ _ ⟨.bl (g i j),H,I,rfl,q⟩
def Anv (i j:Int):Prop:=0≤j∧j≤1000000∧i.natAbs<2 ^ 64
def Akp (i j:Int):Prop:=(-(2 ^ 64)<i∧i<2 ^ 64)∨(-(2 ^ 64)<j∧j<2 ^ 64)
theorem Akp.ok {i j:Int}(h:Akp i j):IntMulOk i j:=by
 rcases h with ⟨h1,h2⟩|⟨h1,h2⟩
 ·exact .of_left (intBits_le_64 h1 h2)
 ·exact .of_right (intBits_le_64 h1 h2)
theorem Aj8:Dh X (binaryOp .Add) (rI0 fun i j=>.int (i+j)):=Ane fun _ _ _ _ _ _ _ q=>add_int q
theorem Ajn:Dh X (binaryOp .Sub) (rI0 fun i j=>.int (i-j)):=Ane fun _ _ _ _ _ _ _ q=>sub_int q
theorem Alr:Dh X (binaryOp .Mod) (rI (fun _ j=>0<j) fun i j=>.int (i % j)):=opI fun i j _ _ _ _ _ hc q=>by
 have h1:(0:Int)<j:=hc
 exact mod_int' (by omega) (by rw [Int.fmod_eq_emod_of_nonneg i (by omega)];exact q)
theorem Ah4:Dh X (binaryOp .Mod) (rI (fun _ j=>j≠0) fun i j=>.int (i.fmod j)):=opI fun _ _ _ _ _ _ _ hc q=>mod_int' hc q
theorem Akh:Dh X (binaryOp .Pow) (rI Anv fun i j=>.int (i ^ j.toNat)):=opI fun _ _ _ _ _ _ _ hc q=>pow_int_small hc.1 hc.2.1 hc.2.2 q
theorem unI {f:IA→Sem IA}{g:Int→Int}
  (rule:∀(i:Int) (t:Tok) (s:IB) (Q:IA→IB→Prop) (E:IA→IB→Prop),Q (.int (g i) s.toks) { s with toks:=s.toks+1 }→wpAny (model X.prog X.w) X.A (f (.int i t)) Q E s) :
  UnR X f (rU fun i=>.int (g i)):=by
 intro pins s σ H x v Q I rx h
 obtain ⟨i,rfl,q⟩:=h
 obtain ⟨t,rfl⟩:=rx
 exact rule i t s _ _ ⟨.int (g i),H,I.tok _,⟨_,rfl⟩,q⟩
theorem Ajm:UnR X (unaryOp .USub) (rU fun i=>.int (-i)):=unI fun _ _ _ _ _ q=>neg_int q
end
def Amt:V→V→Bool
 |.non,.non=>true|.non,.int _=>true|.int _,.non=>true|.non,.bl _=>true|.bl _,.non=>true|.non,.str _=>true|.str _,.non=>true
 |.int _,.int _=>true|.bl _,.bl _=>true|.str _,.str _=>true|.byt _,.byt _=>true
 |.int _,.str _=>true|.str _,.int _=>true|.bl _,.str _=>true|.str _,.bl _=>true
 |_,_=>false
def rEq:R2:=fun x y H Q=>Amt x y=true∧Q (.bl (decide (x=y))) H
def rNe:R2:=fun x y H Q=>Amt x y=true∧Q (.bl (!decide (x=y))) H
theorem Yt {i j:Int}:decide (V.int i=V.int j)=(i==j):=by
 rw [ES]
 simp
theorem T6 {i j:Bool}:decide (V.bl i=V.bl j)=(i==j):=by
 rw [ES]
 simp
theorem Yw {i j:Str}:decide (V.str i=V.str j)=(i==j):=by
 rw [ES]
 simp
theorem Yx {i j:Array UInt8}:decide (V.byt i=V.byt j)=(i.toList==j.toList):=by
 rw [ES]
 cases i
 cases j
 simp
section
variable {X:Cx}{a b c:Expr}{ta tb tc:TE}{pos:Pos}
theorem Bi {pins:List (IC×Obj)}{σ:St}{H:Hp}{s:IB}{Q:VK}{k k':Bool}(I:Aw X pins σ H s)(q:Q (.bl k) H)(e:k=k'):EP X pins σ Q (.bool k') s:=by
 subst e
 exact ⟨.bl k,H,I,rfl,q⟩
theorem Aoe:Dh X (compareOp .Eq) rEq:=by
 intro pins s σ H x y v u Q I rx ry h
 obtain ⟨hs,q⟩:=h
 cases x with
 |non=>
  cases rx
  cases y with
  |non=>cases ry;exact PySem.EqNone.eq_none_none (Bi I q (by simp))
  |bl j=>cases ry;exact PySem.EqNone.eq_none_bool (Bi I q (by simp))
  |int j=>obtain ⟨t',rfl⟩:=ry;exact PySem.EqNone.eq_none_int (Bi I q (by simp))
  |str j=>obtain ⟨t',rfl⟩:=ry;exact PySem.EqNone.eq_none_str (Bi I q (by simp))
  |_=>exact absurd (show false=true from hs) BM
 |bl i=>
  cases rx
  cases y with
  |non=>cases ry;exact PySem.EqNone.eq_bool_none (Bi I q (by simp))
  |bl j=>cases ry;exact eq_bool (Bi I q T6)
  |str j=>obtain ⟨t',rfl⟩:=ry;exact PySem.EqMixed.eq_bool_str (Bi I q (by simp))
  |_=>exact absurd (show false=true from hs) BM
 |int i=>
  obtain ⟨t,rfl⟩:=rx
  cases y with
  |non=>cases ry;exact PySem.EqNone.eq_int_none (Bi I q (by simp))
  |int j=>obtain ⟨t',rfl⟩:=ry;exact eq_int (Bi I q Yt)
  |str j=>obtain ⟨t',rfl⟩:=ry;exact PySem.EqMixed.eq_int_str (Bi I q (by simp))
  |_=>exact absurd (show false=true from hs) BM
 |str i=>
  obtain ⟨t,rfl⟩:=rx
  cases y with
  |non=>cases ry;exact PySem.EqNone.eq_str_none (Bi I q (by simp))
  |bl j=>cases ry;exact PySem.EqMixed.eq_str_bool (Bi I q (by simp))
  |int j=>obtain ⟨t',rfl⟩:=ry;exact PySem.EqMixed.eq_str_int (Bi I q (by simp))
  |str j=>obtain ⟨t',rfl⟩:=ry;exact eq_str (Bi I q Yw)
  |_=>exact absurd (show false=true from hs) BM
 |byt i=>
  obtain ⟨t,rfl⟩:=rx
  cases y with
  |byt j=>obtain ⟨t',rfl⟩:=ry;exact PySem.W.eq_bytes (Bi I q Yx)
  |_=>exact absurd (show false=true from hs) BM
 |_=>cases y<;>exact absurd (show false=true from hs) BM
theorem Anr:Dh X (compareOp .NotEq) rNe:=by
 intro pins s σ H x y v u Q I rx ry h
 obtain ⟨hs,q⟩:=h
 cases x with
 |non=>
  cases rx
  cases y with
  |non=>cases ry;exact PySem.EqNone.ne_none_none (Bi I q (by simp))
  |bl j=>cases ry;exact PySem.EqNone.ne_none_bool (Bi I q (by simp))
  |int j=>obtain ⟨t',rfl⟩:=ry;exact PySem.EqNone.ne_none_int (Bi I q (by simp))
  |str j=>obtain ⟨t',rfl⟩:=ry;exact PySem.EqNone.ne_none_str (Bi I q (by simp))
  |_=>exact absurd (show false=true from hs) BM
 |bl i=>
  cases rx
  cases y with
  |non=>cases ry;exact PySem.EqNone.ne_bool_none (Bi I q (by simp))
  |bl j=>cases ry;exact ne_bool (Bi I q (congrArg not T6))
  |str j=>obtain ⟨t',rfl⟩:=ry;exact PySem.EqMixed.ne_bool_str (Bi I q (by simp))
  |_=>exact absurd (show false=true from hs) BM
 |int i=>
  obtain ⟨t,rfl⟩:=rx
  cases y with
  |non=>cases ry;exact PySem.EqNone.ne_int_none (Bi I q (by simp))
  |int j=>obtain ⟨t',rfl⟩:=ry;exact ne_int (Bi I q (congrArg not Yt))
  |str j=>obtain ⟨t',rfl⟩:=ry;exact PySem.EqMixed.ne_int_str (Bi I q (by simp))
  |_=>exact absurd (show false=true from hs) BM
 |str i=>
  obtain ⟨t,rfl⟩:=rx
  cases y with
  |non=>cases ry;exact PySem.EqNone.ne_str_none (Bi I q (by simp))
  |bl j=>cases ry;exact PySem.EqMixed.ne_str_bool (Bi I q (by simp))
  |int j=>obtain ⟨t',rfl⟩:=ry;exact PySem.EqMixed.ne_str_int (Bi I q (by simp))
  |str j=>obtain ⟨t',rfl⟩:=ry;exact ne_str (Bi I q (congrArg not Yw))
  |_=>exact absurd (show false=true from hs) BM
 |byt i=>
  obtain ⟨t,rfl⟩:=rx
  cases y with
  |byt j=>obtain ⟨t',rfl⟩:=ry;exact PySem.W.ne_bytes (Bi I q (congrArg not Yx))
  |_=>exact absurd (show false=true from hs) BM
 |_=>cases y<;>exact absurd (show false=true from hs) BM
theorem Ant:Dh X (compareOp .Lt) (rI0 fun i j=>.bl (decide (i<j))):=Akf fun _ _ _ _ _ _ _ q=>lt_int q
theorem Aov:Dh X (compareOp .LtE) (rI0 fun i j=>.bl (decide (i≤j))):=Akf fun _ _ _ _ _ _ _ q=>le_int q
theorem Am8:Dh X (compareOp .Gt) (rI0 fun i j=>.bl (decide (j<i))):=Akf fun _ _ _ _ _ _ _ q=>gt_int q
theorem Aa5:Dh X (compareOp .In) (fun x y H Q=>∃i j,x=.str i∧y=.str j∧Q (.bl (!(Builtin.Str.occurrences j i 0 j.length 1).isEmpty)) H):=by
 intro pins s σ H x y v u Q I rx ry h
 obtain ⟨i,j,rfl,rfl,q⟩:=h
 obtain ⟨t,rfl⟩:=rx
 obtain ⟨t',rfl⟩:=ry
 exact in_str (Bi I q rfl)
theorem Aq (b:Expr){op:CmpOp}(h:op≠.In:=by decide)(h2:op≠.NotIn:=by decide):behindInMarks op b=false:=by
 have e1:(op==CmpOp.In)=false:=by cases op<;>first|rfl|exact absurd rfl h
 have e2:(op==CmpOp.NotIn)=false:=by cases op<;>first|rfl|exact absurd rfl h2
 cases b<;>simp [behindInMarks,e1,e2]
theorem Bh {op:CmpOp}{r:R2}(ho:Dh X (compareOp op) r)(ha:PE X a ta)(hb:PE X b tb)(hm:behindInMarks op b=false):PE X (.Compare a [op] [b] pos) (tOp r ta tb):=by
 intro pins s σ H Q I h
 exact wpAny_Compare1 (Ale ha hb I h fun v u s2 x y H2 I2 rx ry q=>ho pins s2 σ H2 x y v u Q I2 rx ry q) hm
def Aac (t:TE):TT:=fun σ H Q=>t σ H fun x H'=>∃k,x=.bl k∧Q k H'
theorem Agg {op:CmpOp}{r:R2}(ho:Dh X (compareOp op) r)(ha:PE X a ta)(hb:PE X b tb)(hm:behindInMarks op b=false):PT X (.Compare a [op] [b] pos) (Aac (tOp r ta tb)):=by
 intro pins s σ H Q I h
 refine wpAny_isTrue_Compare1 (Bo (ha pins s σ H _ I h) fun v s1 ⟨x,H1,I1,r1,q1⟩=>Bo (hb pins s1 σ H1 _ I1 q1) fun u s2 ⟨y,H2,I2,r2,q2⟩=>
  Bo (ho pins s2 σ H2 x y v u _ I2 r1 r2 q2) fun c s3 ⟨z,H3,I3,r3,k,e,q3⟩=>?_) hm
 subst e
 cases r3
 exact DB ⟨H3,I3,q3⟩
def Tp (r r':R2)(ta tb tc:TE):TE:=fun σ H Q=>ta σ H fun x H1=>tb σ H1 fun y H2=>r x y H2 fun z H3=>∃k,z=.bl k ∧
 (if k=true then tc σ H3 fun w' H4=>r' y w' H4 Q else Q (.bl false) H3)
theorem Aeh {op op':CmpOp}{r r':R2}(ho:Dh X (compareOp op) r)(ho':Dh X (compareOp op') r')(ha:PE X a ta)(hb:PE X b tb)(hc:PE X c tc)
  (hm:lastMarks [op,op'] [b,c]=false:=by with_unfolding_all rfl):PE X (.Compare a [op,op'] [b,c] pos) (Tp r r' ta tb tc):=by
 intro pins s σ H Q I h
 refine Compare_chain (Bo (ha pins s σ H _ I h) fun v s1 ⟨x,H1,I1,r1,q1⟩=>chain_link (Bo (hb pins s1 σ H1 _ I1 q1) fun u s2 ⟨y,H2,I2,r2,q2⟩=>
  Bo (ho pins s2 σ H2 x y v u _ I2 r1 r2 q2) fun d s3 ⟨z,H3,I3,r3,k,e,q3⟩=>?_)) hm
 subst e
 cases r3
 refine DB ?_
 cases k with
 |false=>exact ite_ff ⟨.bl false,H3,I3,rfl,q3⟩
 |true=>exact ite_tt (chain_last (Bo (hc pins s3 σ H3 _ I3 q3) fun w' s4 ⟨z',H4,I4,r4,q4⟩=>ho' pins s4 σ H4 y z' u w' Q I4 r2 r4 q4))
theorem Afj {op op':CmpOp}{r r':R2}(ho:Dh X (compareOp op) r)(ho':Dh X (compareOp op') r')(ha:PE X a ta)(hb:PE X b tb)(hc:PE X c tc)
  (hm:lastMarks [op,op'] [b,c]=false:=by with_unfolding_all rfl):PT X (.Compare a [op,op'] [b,c] pos) (Aac (Tp r r' ta tb tc)):=by
 intro pins s σ H Q I h
 refine isTrue_chain (Bo (ha pins s σ H _ I h) fun v s1 ⟨x,H1,I1,r1,q1⟩=>test_link (Bo (hb pins s1 σ H1 _ I1 q1) fun u s2 ⟨y,H2,I2,r2,q2⟩=>
  Bo (ho pins s2 σ H2 x y v u _ I2 r1 r2 q2) fun d s3 ⟨z,H3,I3,r3,k,e,q3⟩=>?_)) hm
 subst e
 cases r3
 refine DB ?_
 cases k with
 |false=>
  obtain ⟨k',e',q'⟩:=q3
  cases e'
  exact ite_ff ⟨H3,I3,q'⟩
 |true=>
  refine ite_tt (test_last (Bo (hc pins s3 σ H3 _ I3 q3) fun w' s4 ⟨z',H4,I4,r4,q4⟩=>Bo (ho' pins s4 σ H4 y z' u w' _ I4 r2 r4 q4) fun d' s5 ⟨z2,H5,I5,r5,k2,e2,q5⟩=>?_))
  subst e2
  cases r5
  exact DB ⟨H5,I5,q5⟩
theorem Md:(sizeLine:Nat)<2 ^ 63:=by rw [CU];decide
theorem Xy:Dh X (binaryOp .Add) (fun x y H Q=>∃i j,x=.str i∧y=.str j∧i.length+j.length≤sizeLine∧Q (.str (i++j)) H):=by
 intro pins s σ H x y v u Q I rx ry h
 obtain ⟨i,j,rfl,rfl,hz,q⟩:=h
 obtain ⟨t,rfl⟩:=rx
 obtain ⟨t',rfl⟩:=ry
 exact add_str (fun t' tk=>⟨.str (i++j),H,I.tok _,⟨_,rfl⟩,q⟩) hz
theorem Fv {x:V}{us:II}(r:A6 [x] us):∃u,us=[u]∧RelV x u:=by
 cases r with
 |cons r1 r2=>cases r2;exact ⟨_,rfl,r1⟩
theorem Lk {x y:V}{us:II}(r:A6 [x,y] us):∃u w',us=[u,w']∧RelV x u∧RelV y w':=by
 cases r with
 |cons r1 r2=>
  cases r2 with
  |cons r3 r4=>cases r4;exact ⟨_,_,rfl,r1,r3⟩
theorem Ad0:Df X (.builtin "abs") (fun xs H Q=>∃i,xs=[.int i]∧Q (.int (if i<0 then -i else i)) H):=by
 intro pins s σ H xs us Q I r h
 obtain ⟨i,rfl,q⟩:=h
 obtain ⟨u,rfl,t,rfl⟩:=Fv r
 exact call_abs_int fun u tk=>⟨.int (if i<0 then -i else i),H,I.tok _,⟨_,rfl⟩,q⟩
theorem T9:Df X (.type "str") (fun xs H Q=>∃i,xs=[.int i]∧i.natAbs.log2<1920∧Q (.str (toString i)) H):=by
 intro pins s σ H xs us Q I r h
 obtain ⟨i,rfl,hz,q⟩:=h
 obtain ⟨u,rfl,t,rfl⟩:=Fv r
 exact PySem.P.str_of_int hz ⟨.str _,H,I.tok _,⟨_,rfl⟩,q⟩
end
end L2
namespace L2
open PySem PySem.Spec PyProof.Rows
structure Wy (h:Heap)(x dx C:IC)(mA:Str→IK):Prop where
 obj:h.get? x=some (PySem.W.instObj C dx)
 ns:h.Ns1 dx mA
 ne:dx≠x
theorem Aa2 {h:Heap}{dx:IC}{mA:Str→IK}(n:h.Ns1 dx mA):∃od,h.get? dx=some od∧∀name,PySem.W.lookIn name od=some (mA name):=by
 obtain ⟨o,es,ep,ho,hd,hk,_,hm⟩:=n
 refine ⟨o,ho,fun name=>?_⟩
 have e:=hm name
 unfold nsFind findBy at e
 rw [←Array.find?_toList] at e
 unfold PySem.W.lookIn
 rw [hd]
 dsimp only
 split
 ·rename_i y q
  rw [q] at e
  exact congrArg some e
 ·rename_i q
  rw [q] at e
  have a:es.toList.any (·.refKey)=false:=by
   rw [FY]
   intro y hy
   obtain ⟨z,t,hkey⟩:=hk y (Array.mem_toList_iff.mp hy)
   simp [DictEntry.refKey,hkey]
  have a':¬es.toList.any (·.refKey)=true:=by rw [a];exact BM
  rw [AW a']
  exact congrArg some e
theorem Wy.look {h:Heap}{x dx C:IC}{mA:Str→IK}(I:Wy h x dx C mA):∃od,PySem.W.InstAt h x (PySem.W.instObj C dx) C (some od)∧∀name,PySem.W.lookIn name od=some (mA name):=
 let ⟨od,ho,hl⟩:=Aa2 I.ns
 ⟨od,⟨I.obj,rfl,rfl,ho⟩,hl⟩
section
variable {prog:IE}{w:IF}{A:ID}{E:IA→IB→Prop}{s:IB}{K:KKf}{x dx C f:IC}{mA:Str→IK}{name:Str}{v:IA}
theorem Agu {expr:Bool}{Q:IA→IB→Prop}(X:K.In s.heap)(I:Wy s.heap x dx C mA)(hg:PySem.W.plainGet K C name=true)(hh:PySem.W.hasDictIn K C=true)
  (ha:PySem.W.findIn K (.ref C) name=some none) (hv:mA name=some v) (hv':PySem.W.handedIn v=true) (h:Q v { s with toks:=s.toks+1 }) :
  wpAny (model prog w) A (getAttr (.ref x) name expr) Q E s:=by
 obtain ⟨od,J,hl⟩:=I.look
 exact PySem.W.get_value X J (PySem.W.plainGet_of hg).1 (PySem.W.findObj_own hh ha rfl (by rw [hl,hv])) hv' h
theorem Aew {pl:Sem Bool}{Q:IA×II→IB→Prop}(X:K.In s.heap)(I:Wy s.heap x dx C mA)(hg:PySem.W.plainGet K C name=true)
  (hf:PySem.W.findIn K (.ref C) name=some (some (.ref f))) (ht:PySem.W.isFn K (.ref f)=true) (hv:mA name=none) (h:Q (.ref f,[.ref x]) s) :
  wpAny (model prog w) A (getMethod (.ref x) name pl) Q E s:=by
 obtain ⟨od,J,hl⟩:=I.look
 exact PySem.W.method_fn X J (PySem.W.plainGet_of hg).1 (PySem.W.plainGet_of hg).2 hf (GX.mp ht) (by show (PySem.W.lookIn name od).map (·.isSome)=some false;rw [hl,hv];rfl) h
theorem Agz {ns:IG}{Q:Unit→IB→Prop}(X:K.In s.heap)(I:Wy s.heap x dx C mA)
  (hs:PySem.W.findIn K (.ref C) "__setattr__"=some (some (.builtin "object.__setattr__"))) (hp:PySem.W.plainOver K C=true) (ht:PySem.W.takerIn K C name=some none) (hh:PySem.W.hasDictIn K C=true)
  (hw:PySem.Within mA ns) (hsz:ns.length≤sizeLine)
  (h:∀h',Wy h' x dx C (fun y=>if y=name then some v else mA y)→Heap.SameBut dx s.heap h'→Q () { s with heap:=h',toks:=s.toks+2 }) :
  wpAny (model prog w) A (setAttr (.ref x) name v) Q E s:=by
 obtain ⟨od,J,hl⟩:=I.look
 refine PySem.W.set_plain X J hs (PySem.W.osa_open (s:={ s with toks:=s.toks+1 }) (r:=none) X J hp ht fun b=>?_)
 obtain ⟨cd,hc,hd'⟩:=PySem.W.any_some hh
 have hx:s.heap.get? x=some ⟨.ref C,some dx,.plain,#[]⟩:=I.obj
 refine AA (AC (AA (AA (wpAny_loadPart hx (AA (PySem.W.Looks.here (s:={ s with toks:=s.toks+1 }) (PySem.W.looks_clsIn X hc) ?_))))))
 rw [hd']
 refine AC (a:=some dx) (AA (AC (AA ?_)))
 refine wpAny_nsSet1 (s:={ s with toks:=s.toks+1 }) I.ns fun h' hn2 hs2=>?_
 obtain ⟨oD,esD,epD,hoD,hdD,hcD⟩:=hn2.count (PySem.Within.cons name v hw)
 refine AA (wpAny_lookBehind hoD (by rw [hdD];exact pastItsLine_dict (AI hcD (by rw [BN];omega))) ?_)
 exact AC (h _ ⟨(hs2.2 _ (DI I.ne)).trans I.obj,hn2,I.ne⟩ hs2)
theorem Aft {R:Result→IB→Prop}{vs:II}{kw:List (Str×IA)}(X:K.In s.heap)(hm:PySem.W.makesIn K C=true)
  (hi:PySem.W.findIn K (.ref C) "__init__"=some (some (.ref f))) (hf:PySem.W.typeIn K (.ref f)=some (.type "function"))
  (h:codeAny (model prog w) (A.under (.builtin "type.__call__" ⟨.ref C::vs,kw⟩)) (.call (.ref f) ⟨.ref (s.heap.objs.size+1)::vs,kw⟩) (PySem.W.InitBack (s.heap.objs.size+1) R)
   { s with heap:=(s.heap.push PySem.W.emptyDict).push (PySem.W.instObj C s.heap.objs.size) }) :
  codeAny (model prog w) A (.call (.ref C) ⟨vs,kw⟩) R s:=by
 obtain ⟨hh,g,d,t,os⟩:=s
 exact PySem.W.make_core (PySem.W.makes_of X hm) (PySem.W.looks_findIn X hi) (fun self=>PySem.W.bind_fn X self hf) (.inl rfl) h
end
def Bb (f:Str)(v:V):List (Str×V)→List (Str×V)
 |[]=>[(f,v)]
 |(g,x)::r=>if g=f then (g,v)::r else (g,x)::Bb f v r
theorem Ga (f g:Str)(v:V):∀fs:List (Str×V),(Bb f v fs).lookup g=if g=f then some v else fs.lookup g
 | []=>by
  show List.lookup g [(f,v)]=_
  by_cases h:g=f
  ·have hb:(g==f)=true:=GX.mpr h
   simp only [List.lookup,hb,AZ h]
  ·have hb:(g==f)=false:=DV.mpr h
   simp only [List.lookup,hb,AW h]
 | (k,x)::r=>by
  have ih:=Ga f g v r
  rw [show Bb f v ((k,x)::r)=(if k=f then (k,v)::r else (k,x)::Bb f v r) from rfl]
  by_cases hk:k=f
  ·rw [AZ hk]
   by_cases h:g=k
   ·have hb:(g==k)=true:=GX.mpr h
    simp only [List.lookup,hb,AZ (h.trans hk)]
   ·have hb:(g==k)=false:=DV.mpr h
    simp only [List.lookup,hb,AW (fun e:g=f=>h (e.trans hk.symm))]
  ·rw [AW hk]
   by_cases h:g=k
   ·have hb:(g==k)=true:=GX.mpr h
    simp only [List.lookup,hb,AW (fun e:g=f=>hk (h.symm.trans e))]
   ·have hb:(g==k)=false:=DV.mpr h
    simp only [List.lookup,hb]
    exact ih
theorem L8 (f:Str)(v:V):∀fs:List (Str×V),f∈(Bb f v fs).map (·.1)∧∀g,g∈fs.map (·.1)→g∈(Bb f v fs).map (·.1)
 |[]=>⟨by simp [Bb],fun g h=>by simp at h⟩
 | (k,x)::r=>by
  obtain ⟨i1,i2⟩:=L8 f v r
  rw [show Bb f v ((k,x)::r)=(if k=f then (k,v)::r else (k,x)::Bb f v r) from rfl]
  by_cases hk:k=f
  ·rw [AZ hk]
   subst hk
   exact ⟨by simp,fun g h=>by simpa using h⟩
  ·rw [AW hk]
   refine ⟨?_,fun g h=>?_⟩
   ·rw [BW]
    exact AQ _ i1
   ·rw [BW] at h ⊢
    rcases AS.mp h with e|e
    ·exact AS.mpr (.inl e)
    ·exact AQ _ (i2 g e)
theorem Cp (f:Str)(v:V):∀fs:List (Str×V),(Bb f v fs).length≤fs.length+1
 |[]=>by simp [Bb]
 |(k,x)::r=>by
  have ih:=Cp f v r
  rw [show Bb f v ((k,x)::r)=(if k=f then (k,v)::r else (k,x)::Bb f v r) from rfl]
  by_cases hk:k=f
  ·rw [AZ hk,BN,BN];omega
  ·rw [AW hk,BN,BN];omega
theorem G9.some_of {v:V}{o:IK}(r:G9 (some v) o):∃u,o=some u∧RelV v u:=by
 cases o with
 |none=>exact (show False from r).elim
 |some u=>exact ⟨u,rfl,r⟩
theorem G9.none_of {o:IK}(r:G9 none o):o=none:=by
 cases o with
 |none=>rfl
 |some u=>exact (show False from r).elim
theorem Aa7 {v:V}{u:IA}(r:RelV v u):PySem.W.handedIn u=true:=by
 cases v with
 |non=>cases (show u=Value.none from r);rfl
 |bl b=>cases (show u=Value.bool b from r);rfl
 |int i=>obtain ⟨t,e⟩:=(show ∃t,u=Value.int i t from r);cases e;rfl
 |str x=>obtain ⟨t,e⟩:=(show ∃t,u=Value.str x t from r);cases e;rfl
 |byt b=>obtain ⟨t,e⟩:=(show ∃t,u=Value.bytes b t from r);cases e;rfl
 |flt b=>obtain ⟨t,e⟩:=(show ∃t,u=Value.float b t from r);cases e;rfl
 |ref a=>cases (show u=Value.ref a from r);rfl
 |ty n=>cases (show u=Value.type n from r);rfl
section
variable {P:IE}{w:IF}{H H':Hp}{h h':Heap}{a C dx:IC}{fs fs':List (Str×V)}
theorem N5 (hok:Kf P w H h)(e:H a=some (.ins C dx fs)):∃mA,Wy h a dx C mA∧(∀f,G9 (fs.lookup f) (mA f))∧PySem.Within mA (fs.map (·.1))∧fs.length≤1000∧H dx=some (.own a):=by
 obtain ⟨d,z,ne,ob,mA,n,r,q⟩:=(show Bj P w H h a (.ins C dx fs) from hok a _ e)
 exact ⟨mA,⟨ob,n,ne⟩,r,q,z,d⟩
end
structure Uv (K:KKf)(C:IC):Prop where
 pg:PySem.W.plainGet K C Str.empty=true
 hd:PySem.W.hasDictIn K C=true
 po:PySem.W.plainOver K C=true
 sa:PySem.W.findIn K (.ref C) "__setattr__"=some (some (.builtin "object.__setattr__"))
theorem Uv.get {K:KKf}{C:IC}(c:Uv K C)(f:Str):PySem.W.plainGet K C f=true:=c.pg
def NoAttr (K:KKf)(C:IC)(f:Str):Prop:=PySem.W.findIn K (.ref C) f=some none
theorem NoAttr.taker {K:KKf}{C:IC}{f:Str}(n:NoAttr K C f):PySem.W.takerIn K C f=some none:=by
 unfold PySem.W.takerIn
 rw [show PySem.W.findIn K (.ref C) f=some none from n]
 rfl
structure Con (K:KKf)(C:IC)(f:Str)(v:V)(u:IA):Prop where
 at_:PySem.W.findIn K (.ref C) f=some (some u)
 rel:RelV v u
 get:PySem.W.specialIn K u "__get__"=some none
 cp:PySem.W.copiedNames.contains f=false
structure Afu (K:KKf)(C:IC)(m:Str)(f:IC):Prop where
 at_:PySem.W.findIn K (.ref C) m=some (some (.ref f))
 fn:PySem.W.isFn K (.ref f)=true
 kp:PySem.W.keepIn K (.ref f)=true
section
variable {X:Cx}{pins:List (IC×Obj)}{σ:St}{H:Hp}{s:IB}{a C dx:IC}{fs:List (Str×V)}{f:Str}{v:V}{A:ID}{E:IA→IB→Prop}
theorem W7 {b:Bool}{Q:IA→IB→Prop}(I:Aw X pins σ H s)(e:H a=some (.ins C dx fs))(c:Uv X.K C)(n:NoAttr X.K C f)(l:fs.lookup f=some v)
  (h:∀u s',Aw X pins σ H s'→RelV v u→Q u s'):wpAny (model X.prog X.w) A (getAttr (.ref a) f b) Q E s:=by
 obtain ⟨mA,O,r,_,_,_⟩:=N5 I.hok e
 obtain ⟨u,hu,ru⟩:=G9.some_of (v:=v) (o:=mA f) (by rw [←l];exact r f)
 exact Agu I.kIn O (c.get f) c.hd n hu (Aa7 ru) (h u _ (I.tok _) ru)
theorem Qe {m:Str}{g:IC}{pl:Sem Bool}{Q:IA×II→IB→Prop}(I:Aw X pins σ H s)(e:H a=some (.ins C dx fs))(c:Uv X.K C)(k:Afu X.K C m g)(l:fs.lookup m=none)
  (h:Q (.ref g,[.ref a]) s):wpAny (model X.prog X.w) A (getMethod (.ref a) m pl) Q E s:=by
 obtain ⟨mA,O,r,_,_,_⟩:=N5 I.hok e
 have hn:mA m=none:=G9.none_of (by rw [←l];exact r m)
 exact Aew I.kIn O (c.get m) k.at_ k.fn hn h
theorem Yl {y:V}{u:IA}{Q:Unit→IB→Prop}(I:Aw X pins σ H s)(e:H a=some (.ins C dx fs))(c:Uv X.K C)(n:NoAttr X.K C f)(hl:fs.length<1000)(ry:RelV y u)
  (h:∀s',Aw X pins σ (upd H a (.ins C dx (Bb f y fs))) s'→Q () s'):wpAny (model X.prog X.w) A (setAttr (.ref a) f u) Q E s:=by
 obtain ⟨mA,O,r,wi,_,ho⟩:=N5 I.hok e
 have hz:(fs.map (·.1)).length≤sizeLine:=by rw [AE,CU];omega
 refine Agz I.kIn O c.sa c.po n.taker c.hd wi hz fun h' O' sb=>h _ ?_
 have hd:∃o,h'.get? dx=some o:=let ⟨o,_,_,e',_⟩:=O'.ns;⟨o,e'⟩
 refine I.write (x:=a) (e:=dx) (by rw [e];exact ⟨⟩) (.inr ho) (fun b q hb z=>(sb.2 b hb).trans z) hd ?_
 refine ⟨by rw [Am O.ne];exact ho,?_,O.ne,O'.obj,_,O'.ns,fun g=>?_,fun g hg=>?_⟩
 ·have:=Cp f y fs;omega
 ·show G9 ((Bb f y fs).lookup g) (if g=f then some u else mA g)
  rw [Ga]
  by_cases q:g=f
  ·rw [AZ q,AZ q];exact ry
  ·rw [AW q,AW q];exact r g
 ·by_cases q:g=f
  ·rw [q];exact (L8 f y fs).1
  ·refine (L8 f y fs).2 g (wi g fun z=>hg ?_)
   show (if g=f then some u else mA g)=none
   rw [AW q];exact z
theorem Aw.made (I:Aw X pins σ H s):Aw X pins σ (upd (upd H s.heap.objs.size (.own (s.heap.objs.size+1))) (s.heap.objs.size+1) (.ins C s.heap.objs.size []))
  { s with heap:=(s.heap.push PySem.W.emptyDict).push (PySem.W.instObj C s.heap.objs.size) }:=by
 have e1:(s.heap.push PySem.W.emptyDict).get? s.heap.objs.size=some PySem.W.emptyDict:=AJ s.heap rfl
 have e2:((s.heap.push PySem.W.emptyDict).push (PySem.W.instObj C s.heap.objs.size)).get? (s.heap.objs.size+1)=some (PySem.W.instObj C s.heap.objs.size):=by
  have:=AJ (s.heap.push PySem.W.emptyDict) (o:=PySem.W.instObj C s.heap.objs.size) rfl
  rwa [CL] at this
 have e3:(s.heap.push PySem.W.emptyDict).Ns s.heap.objs.size (fun _=>none):=⟨PySem.W.emptyDict,#[],_,e1,rfl,(fun e he=>absurd he (by simp)),fun _=>rfl⟩
 have I1:=I.laid (a:=s.heap.objs.size) (o:=.own (s.heap.objs.size+1)) (h':=s.heap.push PySem.W.emptyDict) (t':=s.toks) (fun b u q=>AB _ q) (AF _) ⟨_,e1⟩
 refine I1.laid (a:=s.heap.objs.size+1) (o:=.ins C s.heap.objs.size []) (t':=s.toks) (fun b u q=>AB _ q) (HR (CL _ _)) ?_
 have ne:s.heap.objs.size≠s.heap.objs.size+1:=BC (DZ _)
 refine ⟨by rw [Am ne,Ac],BK _,ne,e2,fun _=>none,(Heap.Ns1.of_empty e3).at fun o q=>AB _ q,fun _=>⟨⟩,fun y hy=>absurd rfl hy⟩
theorem Ahk {prog:IE}{w:IF}{env:Env}{e:Expr}{f:Str}{pos:Pos}{s:IB}{Q:IA→IB→Prop}(hb:attributeBase e f env (eval e env)=eval e env)
  (h:wpAny (model prog w) A (eval e env) (fun o s₁=>wpAny (model prog w) A (getAttr o f true) Q E s₁) E s):wpAny (model prog w) A (eval (.Attribute e f pos) env) Q E s:=
 Attribute_any_ h (by rw [arm_eval_Attribute,hb])
end
def Aqd (K:KKf)(ta:TE)(f:Str):TE:=fun σ H Q=>ta σ H fun x H1=>∃a C dx fs v,x=.ref a∧H1 a=some (.ins C dx fs)∧Uv K C∧NoAttr K C f∧fs.lookup f=some v∧Q v H1
def Apl (K:KKf)(ta tv:TE)(f:Str):TS:=fun D σ H=>tv σ H fun y H1=>ta σ H1 fun x H2=>∃a C dx fs,x=.ref a∧H2 a=some (.ins C dx fs)∧Uv K C∧NoAttr K C f∧fs.length<1000 ∧
 D.nx σ (upd H2 a (.ins C dx (Bb f y fs)))
section
variable {X:Cx}{o e value:Expr}{f:Str}{pos pos' tpos:Pos}{ta tv:TE}
theorem Dr (he:PE X e ta)(hb:attributeBase e f X.env (eval e X.env)=eval e X.env):PE X (.Attribute e f pos) (Aqd X.K ta f):=by
 intro pins s σ H Q I h
 refine Ahk hb (Bo (he pins s σ H _ I h) fun u s1 ⟨x,H1,I1,rx,a,C,dx,fs,v,ex,ea,c,n,l,q⟩=>?_)
 subst ex
 obtain rfl:u=Value.ref a:=rx
 exact W7 I1 ea c n l fun u' s2 I2 ru=>⟨v,H1,I2,ru,q⟩
theorem Hj (ha:PE X o ta)(hv:PE X value tv)(hs:swapsWith value (some (.Attribute o f pos')) pos.line X.env=pure false):PS X (.Assign [.Attribute o f pos'] value pos) (Apl X.K ta tv f):=by
 intro pins s σ H D I h
 refine plainObj_wpAny_Assign_Attribute (Bo (hv pins s σ H _ I h) fun u s1 ⟨y,H1,I1,ry,q⟩=>Bo (ha pins s1 σ H1 _ I1 q) fun ov s2 ⟨x,H2,I2,rx,a,C,dx,fs,ex,ea,c,n,l,q2⟩=>?_) hs
 subst ex
 obtain rfl:ov=Value.ref a:=rx
 exact Yl I2 ea c n l ry fun s3 I3=>⟨σ,_,I3,q2⟩
end
section
variable {X:Cx}{pins:List (IC×Obj)}{σ:St}{H:Hp}{s:IB}{A:ID}{E:IA→IB→Prop}{Q:IA→IB→Prop}{c:IA}{b:Bool}
inductive L9 (K:KKf)(H:Hp):V→IA→Prop where
 |non:L9 K H .non (.type "NoneType")
 |bl (x:Bool):L9 K H (.bl x) (.type "bool")
 |int (i:Int):L9 K H (.int i) (.type "int")
 |str (x:Str):L9 K H (.str x) (.type "str")
 |flt (x:UInt64):L9 K H (.flt x) (.type "float")
 |lst {a:IC} {xs:IP} (e:H a=some (.lst xs)):L9 K H (.ref a) (.type "list")
 |frz {a:IC} {o:Obj} {xs:IP} (e:H a=some (.frz o (.lst xs))):L9 K H (.ref a) (.type "list")
 |tup {a:IC} {xs:IP} (e:H a=some (.tup xs)):L9 K H (.ref a) (.type "tuple")
 |dK {a:IC} {kvs:List (Bg×V)} (e:H a=some (.dK kvs)):L9 K H (.ref a) (.type "dict")
 |dT {a:IC} {kvs:List (List Bg×V)} (e:H a=some (.dT kvs)):L9 K H (.ref a) (.type "dict")
 | ins {a C dx:IC} {fs:List (Str×V)} (e:H a=some (.ins C dx fs)) (cl:Uv K C) (ha:PySem.W.findIn K (.ref C) "__class__"=some (some (.builtin "object.__class__")))
   (hn:PySem.W.specialIn K (.builtin "object.__class__") "__get__"=some (some (.builtin "getset_descriptor.__get__"))) (htk:PySem.W.takesIn K (.builtin "object.__class__")=some true)
   (hm:PySem.W.mroIn K C (.type "object")=some true):L9 K H (.ref a) (.ref C)
theorem Fl {x:V}{u t:IA}(I:Aw X pins σ H s)(rx:RelV x u)(ty:L9 X.K H x t)(e:PySem.W.kitOne X.K t c=some b)(h:∀tk,Q (.bool b) { s with toks:=tk }) :
  wpAny (model X.prog X.w) A (call (.builtin "isinstance") [u,c]) Q E s:=by
 cases ty with
 |non=>cases (show u=Value.none from rx);exact CW PySem.W.kitx_none I.kIn ⟨⟩ e (fun z=>nomatch z) h
 |bl y=>cases (show u=Value.bool y from rx);exact CW PySem.W.kitx_bool I.kIn ⟨⟩ e (fun z=>nomatch z) h
 |int i=>obtain ⟨t,q⟩:=(show ∃t,u=Value.int i t from rx);cases q;exact CW PySem.W.kitx_int I.kIn ⟨⟩ e (fun z=>nomatch z) h
 |str y=>obtain ⟨t,q⟩:=(show ∃t,u=Value.str y t from rx);cases q;exact CW PySem.W.kitx_str I.kIn ⟨⟩ e (fun z=>nomatch z) h
 |flt y=>obtain ⟨t,q⟩:=(show ∃t,u=Value.float y t from rx);cases q;exact CW PySem.W.kitx_float I.kIn ⟨⟩ e (fun z=>nomatch z) h
 |@lst a xs ea=>
  cases (show u=Value.ref a from rx)
  obtain ⟨_,_,n,_,h1⟩:=(show Bj X.prog X.w H s.heap a (.lst xs) from I.hok a _ ea)
  exact CW PySem.W.kitx_list I.kIn ⟨_,h1,rfl⟩ e (fun z=>nomatch z) h
 |@frz a ob xs ea=>
  cases (show u=Value.ref a from rx)
  obtain ⟨_,_,_,n,_,h1⟩:=(show Bj X.prog X.w H s.heap a (.frz ob (.lst xs)) from I.hok a _ ea)
  exact CW PySem.W.kitx_list I.kIn ⟨_,h1,rfl⟩ e (fun z=>nomatch z) h
 |@tup a xs ea=>
  cases (show u=Value.ref a from rx)
  obtain ⟨_,_,_,p⟩:=(show Bj X.prog X.w H s.heap a (.tup xs) from I.hok a _ ea)
  obtain ⟨o,h1,h2,_⟩:=p
  exact CW PySem.W.kitx_tuple I.kIn ⟨o,h1,h2⟩ e (fun z=>nomatch z) h
 |@dK a kvs ea=>
  cases (show u=Value.ref a from rx)
  obtain ⟨_,_,vs,_,p⟩:=(show Bj X.prog X.w H s.heap a (.dK kvs) from I.hok a _ ea)
  obtain ⟨o,es,ep,h1,h2,_⟩:=p
  exact CW PySem.W.kitx_dict I.kIn ⟨o,h1,h2.1⟩ e (fun z=>nomatch z) h
 |@dT a kvs ea=>
  cases (show u=Value.ref a from rx)
  obtain ⟨_,_,xs,_,o,es,ep,h1,h2,_⟩:=(show Bj X.prog X.w H s.heap a (.dT kvs) from I.hok a _ ea)
  exact CW PySem.W.kitx_dict I.kIn ⟨o,h1,h2.1⟩ e (fun z=>nomatch z) h
 |@ins a C dx fs ea cl ha hn htk hm=>
  cases (show u=Value.ref a from rx)
  obtain ⟨mA,O,_⟩:=N5 I.hok ea
  obtain ⟨od,J,_⟩:=O.look
  exact CW (PySem.W.kitx_own (cl.get _) cl.hd ha hn htk hm) I.kIn J e (fun z=>nomatch z) h
end
end L2
namespace L2
open PySem PySem.Spec PyProof.Rows
structure Cg (k:Nat)(A:ID):Prop where
 hd:A.handled=none
 dp:A.depth+3*k+5<recursionLimit
 un:A.units+16*k+200<cLine
theorem Cg.mono {j k:Nat}{A:ID}(r:Cg k A)(h:j≤k):Cg j A:=⟨r.hd,by have:=r.dp;omega,by have:=r.un;omega⟩
theorem Cg.deeper {k:Nat}{A:ID}(r:Cg (k+1) A)(env:Env):Cg k (A.deeper env):=
 ⟨r.hd,by have:=r.dp;show A.depth+1+3*k+5<_;omega,by have:=r.un;show A.units+3+16*k+200<_;omega⟩
theorem Cg.in1 {k:Nat}{A:ID}(r:Cg (k+1) A):Cg k A.in1:=
 ⟨r.hd,by have:=r.dp;show A.depth+3*k+5<_;omega,by have:=r.un;show A.units+1+16*k+200<_;omega⟩
theorem W3 {A:ID}{C:IC}{us:II}{kw:List (Str×IA)}:(A.under (.builtin "type.__call__" ⟨.ref C::us,kw⟩)).depth=A.depth+1:=by
 first|rfl|simp [Around.under,Code.weight,Code.isCreation,Code.isGuard,Code.isCaller,Code.frames,Code.isFrame,guardIds]
theorem Xd {A:ID}{C:IC}{us:II}{kw:List (Str×IA)}:(A.under (.builtin "type.__call__" ⟨.ref C::us,kw⟩)).units=A.units+1:=by
 first|rfl|simp [Around.under,Code.cUnits,Code.frames,Code.isFrame]
theorem Cg.make {k:Nat}{A:ID}(r:Cg (k+1) A)(C:IC)(us:II)(kw:List (Str×IA)):Cg k (A.under (.builtin "type.__call__" ⟨.ref C::us,kw⟩)):=
 ⟨r.hd,by have:=r.dp;rw [W3];omega,by have:=r.un;rw [Xd];omega⟩
theorem Cg.depth {k:Nat}{A:ID}(r:Cg k A):A.depth<recursionLimit:=by have:=r.dp;omega
theorem Cg.units {k:Nat}{A:ID}(r:Cg k A):A.units+64<cLine:=by have:=r.un;omega
def X6:TA:=fun _ H Q=>Q [] H
def Aey (ta:TE)(tr:TA):TA:=fun σ H Q=>ta σ H fun x H1=>tr σ H1 fun xs H2=>Q (x::xs) H2
section
variable {X:Cx}{e:Expr}{es:IJ}{te:TE}{t:TA}{pos:Pos}
theorem Ag:PA X [] X6:=fun _ _ _ _ H Q I h=>FZ ⟨[],H,I,.nil,h⟩
theorem Ab (ha:PE X e te)(hr:PA X es t)(hs:starEach (e::es) X.env=(false,eval e X.env)::starEach es X.env:=by rfl):PA X (e::es) (Aey te t):=by
 intro pos pins s σ H Q I h
 rw [hs]
 show wpAny _ _ (spliced ((false,eval e X.env)::backTo pos (starEach es X.env))) _ _ s
 refine FQ (Bo (ha pins s σ H _ I h) fun u s1 ⟨x,H1,I1,r1,q1⟩=>?_)
 exact Bo (hr pos pins s1 σ H1 _ I1 q1) fun us s2 ⟨xs,H2,I2,r2,q2⟩=>⟨x::xs,H2,I2,.cons r1 r2,q2⟩
def Ap0 (t:TA):TE:=fun σ H Q=>t σ H fun xs H1=>xs.length≤sizeLine∧∀p,H1 p=none→Q (.ref p) (upd H1 p (.lst xs))
theorem G4 (h:PA X es t):PE X (.List es pos) (Ap0 t):=by
 intro pins s σ H Q I hq
 refine wpAny_List_spliced (Bo (h pos pins s σ H _ I hq) fun us s1 ⟨xs,H1,I1,r,z,q⟩=>⟨by rw [←r.length];exact z,?_⟩)
 have hf:H1 s1.heap.objs.size=none:=I1.hok.fresh (AF _)
 refine ⟨.ref s1.heap.objs.size,upd H1 s1.heap.objs.size (.lst xs),I1.laid (t':=s1.toks) (fun b u e=>AB _ e) (AF _) ?_,rfl,q _ hf⟩
 exact ⟨z,us,0,r,AJ _ rfl⟩
end
abbrev Sp:=IP→Hp→VK→XK→Prop
abbrev CXT:=List Env→Hp→IB→XK→IA→IB→Prop
structure Ya (P:IE)(w:IF)(K:KKf)(mg:Str→IK)(base:Heap)(A:ID)(outer:List Env)(s:IB)(H:Hp):Prop where
 frames:A.frames=some outer
 mod:Mod K mg base
 bs:∀b o,base.get? b=some o→s.heap.get? b=some o∧H b=none
 bsz:base.objs.size≤s.heap.objs.size
 funs:s.heap.FunFrames base outer
 frf:∀b∈Ww outer,H b=none
 hok:Kf P w H s.heap
 bare:AllBare s.gens
def CE (outer:List Env)(P:IE)(w:IF)(H:Hp)(s:IB)(Q:VK)(u:IA)(s':IB):Prop:=
 ∃v H',s'.os=s.os∧AllBare s'.gens∧Un (Ww outer) [] H H' s.heap s'.heap∧Kf P w H' s'.heap∧RelV v u∧Q v H'
def CR (CX:CXT)(outer:List Env)(P:IE)(w:IF)(H:Hp)(s:IB)(Q:VK)(E:XK)(r:Result)(s':IB):Prop:=
 match r with
 |.ok (.ret u)=>CE outer P w H s Q u s'
 |.ok _=>False
 |.error e=>CX outer H s E e s'
structure Ib (P:IE)(w:IF)(K:KKf)(mg:Str→IK)(base:Heap)(CX:CXT)(k:Nat)(f:IC)(fd:FuncData)(ps:IG)(sp:Sp):Prop where
 len:∀vs H Q E,sp vs H Q E→vs.length=ps.length
 run:∀(A:ID) (outer:List Env) (s:IB) (H:Hp) (args:Args) (us:II) (vs:IP) (Q:VK) (E:XK),Cg k A→Ya P w K mg base A outer s H→BindsTo s fd args (ps.zip us)→A6 vs us→sp vs H Q E →
  codeAny (model P w) A (.call (.ref f) args) (CR CX outer P w H s Q E) s
theorem Ib.mono {P:IE}{w:IF}{K:KKf}{mg:Str→IK}{base:Heap}{CX:CXT}{j k:Nat}{f:IC}{fd:FuncData}{ps:IG}{sp:Sp}(F:Ib P w K mg base CX j f fd ps sp)(h:j≤k) :
  Ib P w K mg base CX k f fd ps sp:=⟨F.len,fun A outer s H args us vs Q E hr=>F.run A outer s H args us vs Q E (hr.mono h)⟩
theorem Ya.make {P:IE}{w:IF}{K:KKf}{mg:Str→IK}{base:Heap}{A:ID}{outer:List Env}{s:IB}{H:Hp}(e:Ya P w K mg base A outer s H)(C:IC)(us:II)(kw:List (Str×IA)) :
  Ya P w K mg base (A.under (.builtin "type.__call__" ⟨.ref C::us,kw⟩)) outer s H:=⟨by first|exact e.frames|(simpa [Around.under,Code.envs,Code.isFrame,pushEnvs] using e.frames),e.mod,e.bs,e.bsz,e.funs,e.frf,e.hok,e.bare⟩
section
variable {X:Cx}{pins:List (IC×Obj)}{σ:St}{H:Hp}{s s':IB}
theorem Aw.env0 (I:Aw X pins σ H s):Ya X.prog X.w X.K X.mg X.base X.A X.stack s H:=
 ⟨I.ok.frames,I.ok.mod,I.bs,AI I.ok.bsz I.sz,I.stack,I.stkFree,I.hok,I.bare⟩
theorem Aw.after {Q:VK}{u:IA}(I:Aw X pins σ H s)(h:CE X.stack X.prog X.w H s Q u s'):EP X pins σ Q u s':=by
 obtain ⟨v,H',os,bare,un,hok,r,q⟩:=h
 obtain ⟨hh,g,d,t,os'⟩:=s'
 obtain rfl:os'=s.os:=os
 exact ⟨v,H',I.call (h':=hh) (g':=g) (d':=d) (t':=t) (ch:=[]) un hok bare (fun b z=>absurd z (by simp)),r,q⟩
end
def Aec (sp:Sp)(dvs:IP)(E:XK)(t:TA):TE:=fun σ H Q=>t σ H fun vs H1=>sp (vs++dvs) H1 Q E
def Y3 (C:IC)(sp:Sp)(dvs:IP)(E:XK)(t:TA):TE:=fun σ H Q=>t σ H fun vs H1=>∀x dx,H1 x=none→H1 dx=none→dx≠x →
 sp (.ref x::(vs++dvs)) (upd (upd H1 dx (.own x)) x (.ins C dx [])) (fun v H2=>v=.non∧Q (.ref x) H2) E
def Er (K:KKf)(fd:FuncData)(ps:IG)(ds:II):Prop:=
 ∀(s:IB) (us:II),K.In s.heap→(us++ds).length=ps.length→BindsTo s fd ⟨us,[]⟩ (ps.zip (us++ds))
theorem Er.all {K:KKf}{fd:FuncData}{ps:IG}(h:∀us:II,us.length=ps.length→bindArgs fd ⟨us,[]⟩=pure (ps.zip us)):Er K fd ps []:=fun s us _ hl=>by
 rw [CJ] at hl ⊢
 exact .of_eq (h us hl)
def Ez (CX:CXT)(X:Cx)(E:XK):Prop:=∀(pins:List (IC×Obj)) (σ:St) (H:Hp) (s:IB) (e:IA) (s':IB),Aw X pins σ H s→CX X.stack H s E e s'→X.xe e s'
section
variable {X:Cx}{CX:CXT}{k:Nat}{f C:IC}{fd:FuncData}{ps:IG}{sp:Sp}{dvs:IP}{ds:II}{E:XK}{x m:Str}{p pos apos:Pos}{e o:Expr}{es:IJ}{ta:TE}{t:TA}
theorem Uk {pins:List (IC×Obj)}{σ:St}{H:Hp}{s:IB}{Q:VK}{us:II}{vs:IP}(F:Ib X.prog X.w X.K X.mg X.base CX k f fd ps sp)(hr:Cg k X.A)(hb:Er X.K fd ps ds)(hd:A6 dvs ds)(hx:Ez CX X E)
  (I:Aw X pins σ H s) (r:A6 vs us) (h:sp (vs++dvs) H Q E):wpAny (model X.prog X.w) X.A (call (.ref f) us) (EP X pins σ Q) X.xe s:=by
 have r2:A6 (vs++dvs) (us++ds):=r.append hd
 have hl:(us++ds).length=ps.length:=by rw [←r2.length];exact F.len _ _ _ _ h
 refine wpAny_call (GT (F.run X.A X.stack s H ⟨us,[]⟩ (us++ds) (vs++dvs) Q E hr I.env0 (hb s us I.kIn hl) r2 h) fun r s' hq=>?_)
 cases r with
 |error e=>exact hx pins σ H s e s' I hq
 |ok fl=>
  cases fl with
  |ret u=>exact I.after hq
  |next=>exact False.elim hq
  |brk=>exact False.elim hq
  |cont=>exact False.elim hq
theorem Ahj (F:Ib X.prog X.w X.K X.mg X.base CX k f fd ps sp)(hr:Cg k X.A)(hg:Gl X x)(hm:X.mg x=some (.ref f))(hk:PySem.W.keepIn X.K (.ref f)=true)(hb:Er X.K fd ps ds)(hd:A6 dvs ds)(hx:Ez CX X E)
  (ha:PA X (e::es) t) (hdb:(x==("__debug__":Str))=false:=by decide) (he:starEach (e::es) X.env=(false,eval e X.env)::starEach es X.env:=by rfl) (hpl:(backTo pos (starEach es X.env)).any (·.1)=false:=by rfl) :
  PE X (.Call (.Name x p) (e::es) [] pos) (Aec sp dvs E t):=by
 intro pins s σ H Q I h
 refine DO (N3 I hg hm ?_ hdb)
 refine GU (h₀:=X.base) I.ok.mod.kin hk (Bo (ha pos pins s σ H _ I h) fun us s1 ⟨vs,H1,I1,r,q⟩=>⟨I1.kIn,?_⟩) he hpl
 exact Uk F hr hb hd hx I1 r q
structure Mk (K:KKf)(C f:IC):Prop where
 makes:PySem.W.makesIn K C=true
 init:PySem.W.findIn K (.ref C) "__init__"=some (some (.ref f))
 fn:PySem.W.isFn K (.ref f)=true
 kp:PySem.W.keepIn K (.ref C)=true
theorem Vs {pins:List (IC×Obj)}{σ:St}{H:Hp}{s:IB}{Q:VK}{us:II}{vs:IP}(M:Mk X.K C f)(F:Ib X.prog X.w X.K X.mg X.base CX k f fd ps sp)(hr:Cg (k+1) X.A)(hb:Er X.K fd ps ds)(hd:A6 dvs ds)
  (hx:Ez CX X E) (I:Aw X pins σ H s) (r:A6 vs us)
  (h:∀x dx,H x=none→H dx=none→dx≠x→sp (.ref x::(vs++dvs)) (upd (upd H dx (.own x)) x (.ins C dx [])) (fun v H2=>v=.non∧Q (.ref x) H2) E) :
  wpAny (model X.prog X.w) X.A (call (.ref C) us) (EP X pins σ Q) X.xe s:=by
 have hq:=h (s.heap.objs.size+1) s.heap.objs.size (I.hok.fresh (DW _)) (I.hok.fresh (AF _)) (BC (DZ _))
 have I2:=Aw.made (C:=C) I
 have r2:A6 (V.ref (s.heap.objs.size+1)::(vs++dvs)) (Value.ref (s.heap.objs.size+1)::(us++ds)):=.cons rfl (r.append hd)
 have hl:(Value.ref (s.heap.objs.size+1)::us++ds).length=ps.length:=by
  have e:=r2.length
  rw [F.len _ _ _ _ hq] at e
  exact e.symm
 refine wpAny_call (Aft (f:=f) I.kIn M.makes M.init (GX.mp M.fn) (GT (F.run _ X.stack _ _ ⟨Value.ref (s.heap.objs.size+1)::us,[]⟩ (Value.ref (s.heap.objs.size+1)::(us++ds)) _ _ E (hr.make C us [])
  (I2.env0.make C us []) (hb _ (Value.ref (s.heap.objs.size+1)::us) I2.kIn hl) r2 hq) fun r s' hq'=>?_))
 cases r with
 |error e=>exact hx pins σ _ _ e s' I2 hq'
 | ok fl=>
  cases fl with
  |ret u=>
   obtain ⟨v,H',I3,rv,ev,q3⟩:=I2.after hq'
   subst ev
   exact ⟨rv,⟨V.ref (s.heap.objs.size+1),H',I3,rfl,q3⟩⟩
  |next=>exact False.elim hq'
  |brk=>exact False.elim hq'
  |cont=>exact False.elim hq'
theorem Ah7 (M:Mk X.K C f)(F:Ib X.prog X.w X.K X.mg X.base CX k f fd ps sp)(hr:Cg (k+1) X.A)(hg:Gl X x)(hm:X.mg x=some (.ref C))(hb:Er X.K fd ps ds)(hd:A6 dvs ds)(hx:Ez CX X E)
  (ha:PA X (e::es) t) (hdb:(x==("__debug__":Str))=false:=by decide) (he:starEach (e::es) X.env=(false,eval e X.env)::starEach es X.env:=by rfl) (hpl:(backTo pos (starEach es X.env)).any (·.1)=false:=by rfl) :
  PE X (.Call (.Name x p) (e::es) [] pos) (Y3 C sp dvs E t):=by
 intro pins s σ H Q I h
 refine DO (N3 I hg hm ?_ hdb)
 refine GU (h₀:=X.base) I.ok.mod.kin M.kp (Bo (ha pos pins s σ H _ I h) fun us s1 ⟨vs,H1,I1,r,q⟩=>⟨I1.kIn,?_⟩) he hpl
 exact Vs M F hr hb hd hx I1 r q
theorem Afs (M:Mk X.K C f)(F:Ib X.prog X.w X.K X.mg X.base CX k f fd ps sp)(hr:Cg (k+1) X.A)(hg:Gl X x)(hm:X.mg x=some (.ref C))(hb:Er X.K fd ps ds)(hd:A6 dvs ds)(hx:Ez CX X E)
  (hdb:(x==("__debug__":Str))=false:=by decide):PE X (.Call (.Name x p) [] [] pos) (Y3 C sp dvs E X6):=by
 intro pins s σ H Q I h
 refine DO (N3 I hg hm ?_ hdb)
 exact PySem.W.callWith_K0 I.kIn M.kp (Vs (us:=[]) M F hr hb hd hx I .nil h)
end
section
variable {X:Cx}{CX:CXT}{k:Nat}{f C:IC}{fd:FuncData}{ps ks:IG}{sp:Sp}{E:XK}{x m:Str}{p pos apos kpos:Pos}{e o:Expr}{es:IJ}{kws:List Keyword}{te ta:TE}{t tk:TA}{nm:Option Str}
structure Apf (K:KKf)(fd:FuncData)(ps ks:IG)(g:II→II→II)(gV:IP→IP→IP):Prop where
 to:∀(s:IB) (us ws:II),K.In s.heap→(g us ws).length=ps.length→BindsTo s fd ⟨us,ks.zip ws⟩ (ps.zip (g us ws))
 rel:∀{vs:IP} {us:II} {zs:IP} {ws:II},A6 vs us→A6 zs ws→A6 (gV vs zs) (g us ws)
variable {g:II→II→II}{gV:IP→IP→IP}
end
structure Al (N P:IG)(sc:Scope):Prop where
 kind:sc.kind=.function
 co:sc.isCoroutine=false
 gen:sc.isGenerator=false
 nd:N.Nodup
 pre:N.take P.length=P
 par:∀x∈P,sc.names.lookup x=some .local∨sc.names.lookup x=some .cell
 nofree:∀y∈sc.names,y.2≠.free
theorem Ra {kindOf:Str→Option NameKind}{x:Str}:∀{binds:List (Str×IA)} {m:Str→IK},(∀v,(x,v)∉binds)→bindL kindOf binds m x=m x
 |[],_,_=>rfl
 | (n,v)::r,m,h=>by
  unfold bindL
  rw [Ra fun w hw=>h w (AQ _ hw)]
  split
  ·have:x≠n:=by rintro rfl;exact h v AO
   simp [this]
  ·rfl
theorem Sb {kindOf:Str→Option NameKind}{x:Str}:∀{binds:List (Str×IA)} {m:Str→IK},(∀v,(x,v)∉binds)→bindC kindOf binds m x=m x
 |[],_,_=>rfl
 | (n,v)::r,m,h=>by
  unfold bindC
  rw [Sb fun w hw=>h w (AQ _ hw)]
  split
  ·rfl
  ·have:x≠n:=by rintro rfl;exact h v AO
   simp [this]
theorem Rk {kindOf:Str→Option NameKind}{x:Str}{v:IA}:∀{P:IG} {vs:II} {i:Nat} {m:Str→IK},P.Nodup→P[i]? =some x→vs[i]? =some v→kindOf x=some .local →
  bindL kindOf (P.zip vs) m x=some v
 |[],_,_,_,_,h,_,_=>by simp at h
 |_::_,[],_,_,_,_,h,_=>by simp at h
 |p::P,w::vs,0,m,nd,h1,h2,hk=>by
  simp at h1 h2;subst h1;subst h2
  show bindL kindOf ((p,w)::P.zip vs) m p=_
  unfold bindL
  rw [Ra fun v hv=>(DM.mp nd).1 (GN hv).1,AZ hk]
  simp
 |p::P,w::vs,i+1,m,nd,h1,h2,hk=>by
  show bindL kindOf ((p,w)::P.zip vs) m x=_
  unfold bindL
  exact Rk (i:=i) (DM.mp nd).2 (by simpa using h1) (by simpa using h2) hk
theorem Rt {kindOf:Str→Option NameKind}{x:Str}{v:IA}:∀{P:IG} {vs:II} {i:Nat} {m:Str→IK},P.Nodup→P[i]? =some x→vs[i]? =some v→kindOf x≠some .local →
  bindC kindOf (P.zip vs) m x=some v
 |[],_,_,_,_,h,_,_=>by simp at h
 |_::_,[],_,_,_,_,h,_=>by simp at h
 |p::P,w::vs,0,m,nd,h1,h2,hk=>by
  simp at h1 h2;subst h1;subst h2
  show bindC kindOf ((p,w)::P.zip vs) m p=_
  unfold bindC
  rw [Sb fun v hv=>(DM.mp nd).1 (GN hv).1,AW hk]
  simp
 |p::P,w::vs,i+1,m,nd,h1,h2,hk=>by
  show bindC kindOf ((p,w)::P.zip vs) m x=_
  unfold bindC
  exact Rt (i:=i) (DM.mp nd).2 (by simpa using h1) (by simpa using h2) hk
def Hw (N:IG)(vs:IP):St:=vs.map some++List.replicate (N.length-vs.length) none
def Qu (CX:CXT)(P:IE)(w:IF)(K:KKf)(mg:Str→IK)(base:Heap)(N:IG)(qual:Str)(scope:Scope)(f:IC)(cd:IA)(A:ID)(outer:List Env)(s:IB)(H:Hp)(E:XK):Cx where
 prog:=P
 w:=w
 K:=K
 mg:=mg
 base:=base
 A:=A.deeper (envOfC qual scope s.heap.objs.size f cd)
 N:=N
 s₀:=s
 H₀:=H
 env:=envOfC qual scope s.heap.objs.size f cd
 outer:=outer
 stack:=envOfC qual scope s.heap.objs.size f cd::outer
 ex:=[]
 calm:=true
 fn:=fun _=>true
 pn:=[]
 xe:=fun e s'=>wpAny (model P w) (A.deeper (envOfC qual scope s.heap.objs.size f cd)) (leaving (envOfC qual scope s.heap.objs.size f cd) e) (fun _ s''=>CX outer H s E e s'') (fun e' s''=>CX outer H s E e' s'') s'
theorem U7 {sc:Scope}{n:Nat}{x:Str}(h:sc.names.lookup x=some .cell):∃c,(cellsFrom n sc.names []).lookup x=some c:=by
 have q:=PySem.W.cellsFrom_some sc.names n [] (.inl h)
 exact FC.mp q
theorem Ab0 {CX:CXT}{P:IE}{w:IF}{K:KKf}{mg:Str→IK}{base:Heap}{N ps:IG}{qual:Str}{scope:Scope}{f:IC}{cd:IA}{A:ID}{outer:List Env}{s s1:IB}{H:Hp}{E:XK}{us:II}{vs:IP}
  (S:Al N ps scope) (hd:A.handled=none) (e0:Ya P w K mg base A outer s H) (hl:vs.length=ps.length) (r:A6 vs us)
  (x:InCallC s s.heap.objs.size (bindL (envOfC qual scope s.heap.objs.size f cd).kindOf (ps.zip us) fun _=>none) (cellsFrom (s.heap.objs.size+1) scope.names []) (bindC (envOfC qual scope s.heap.objs.size f cd).kindOf (ps.zip us) fun _=>none) s1) :
  Aw (Qu CX P w K mg base N qual scope f cd A outer s H E) [] (Hw N vs) H s1:=by
 have hpl:ps.length≤N.length:=by have:=congrArg List.length S.pre;rw [CH] at this;omega
 obtain ⟨h1,tk,rfl,hk⟩:=x.done
 have noA:∀b:IC,b∉(Qu CX P w K mg base N qual scope f cd A outer s H E).ex:=fun b z=>absurd (show b∈([]:List IC) from z) (by simp)
 refine ⟨⟨e0.mod,S.kind,rfl,rfl,AF _,fun y z c h1 h2=>?_,fun y hy=>?_,fun y c _ h=>?_,fun _=>hd,Around.frames_deeper e0.frames,.inr ⟨rfl,rfl⟩,fun b z=>absurd z (noA b),e0.bs,e0.bsz,fun b _ _=>noA b,fun b z=>absurd z (noA b),e0.funs,e0.frf⟩,
  rfl,e0.bare,Un.kept hk,⟨_,x.toInCall.ns,fun i y v h1 h2 h3=>?_⟩,fun y c h=>⟨_,x.cell y c h⟩,e0.hok.fresh (AF _),fun y c h=>?_,fun p hp=>absurd (show p∈([]:List (IC×Obj)) from hp) (by simp),e0.hok.kept hk,?_⟩
 ·exact name_of_addr x.apart (FH h1) (FH h2)
 ·have hy:scope.names.lookup y=some .cell∨scope.names.lookup y=some .free:=hy
  rcases hy with hy|hy
  ·exact U7 hy
  ·exact absurd rfl (S.nofree _ (FH hy))
 ·exact EL (x.above y c (FH h))
 ·have hi:i<vs.length:=by
   unfold Hw at h2
   by_cases hi:i<vs.length
   ·exact hi
   ·rw [BP (by simpa using hi)] at h2
    rw [EE] at h2
    split at h2<;>cases h2
  have ha:vs[i]? =some v:=by
   unfold Hw at h2
   rw [BZ (by simpa using hi),BE] at h2
   cases e:vs[i]? with
   |none=>rw [e] at h2;cases h2
   |some a=>rw [e] at h2;cases h2;rfl
  obtain ⟨u,hu,rv⟩:=r.get ha
  have hp:ps[i]? =some y:=by
   rw [←S.pre,List.getElem?_take_of_lt (by omega)];exact h1
  have ndP:ps.Nodup:=by rw [←S.pre];exact S.nd.sublist (List.take_sublist _ _)
  refine ⟨u,rv,?_⟩
  rcases S.par y (AN hp) with k|k
  ·exact .inl ⟨k,Rk ndP hp hu k⟩
  ·obtain ⟨c,e⟩:=U7 (n:=s.heap.objs.size+1) k
   refine .inr ⟨.inl k,c,e,?_⟩
   have q:=x.cell y c e
   rw [Rt ndP hp hu (by show scope.names.lookup y≠_;rw [k];decide)] at q
   exact q
 ·exact e0.hok.fresh (EL (x.above y c (FH h)))
 ·unfold Hw
  show _=N.length
  rw [AG,AE,ET]
  omega
theorem Ae9 {CX:CXT}{P:IE}{w:IF}{K:KKf}{mg:Str→IK}{base:Heap}{k:Nat}{f:IC}{name qual:Str}{params:Arguments}{body:List Stmt}{scope:Scope}{dV kV doc pm cdv ct oc:IA}{an od:Option IC}
  {osl:Array (IK)} {N ps:IG} {sp:Sp} (lk:K.lookup f=some ⟨oc,od,.func (PySem.W.fnOf name qual params body scope dV kV doc pm an cdv ct),osl⟩) (hcd:PySem.W.codeIn K cdv qual=true) (S:Al N ps scope)
  (len:∀vs H Q E,sp vs H Q E→vs.length=ps.length)
  (hbody:∀(A:ID) (outer:List Env) (s:IB) (H:Hp) (vs:IP) (Q:VK) (E:XK),Cg k (A.deeper (envOfC qual scope s.heap.objs.size f cdv))→sp vs H Q E →
   ∃t,Ny (Qu CX P w K mg base N qual scope f cdv A outer s H E) body t∧t { nx:=fun _ H'=>Q .non H',rt:=Q } (Hw N vs) H) :
  Ib P w K mg base CX (k+1) f (PySem.W.fnOf name qual params body scope dV kV doc pm an cdv ct) ps sp:=by
 refine ⟨len,fun A outer s H args us vs Q E hr e0 hb r hsp=>?_⟩
 have hl:=len _ _ _ _ hsp
 have KX:K.In s.heap:=e0.mod.kin.keeps fun b o e=>(e0.bs b o e).1
 have lim:s.heap.NoLimit:=e0.mod.nolimit.keeps fun b o e=>(e0.bs b o e).1
 have hkind:∀y∈ps.zip us,scope.names.lookup y.1=some .local∨(scope.names.lookup y.1=some .cell∧((cellsFrom (s.heap.objs.size+1) scope.names []).lookup y.1).isSome=true):=fun ⟨n,v⟩ hy=>by
  rcases S.par n (GN hy).1 with q|q
  ·exact .inl q
  ·exact .inr ⟨q,PySem.W.cellsFrom_some _ _ _ (.inl q)⟩
 refine codeAny_call_function hr.depth (KX _ _ lk) rfl S.co S.gen rfl (PySem.W.codeRec_of KX hcd) (hb _ _ _ _ ?_)
 refine wpAny_newFunctionEnv_cells S.kind hkind fun env he s1 x=>?_
 subst he
 refine ⟨lim.keeps x.toInCall.keep,codeAny_func ?_⟩
 obtain ⟨t,ht,hq⟩:=hbody A outer s H vs Q E (hr.deeper _) hsp
 have I:Aw (Qu CX P w K mg base N qual scope f cdv A outer s H E) [] (Hw N vs) H s1:=Ab0 S hr.hd e0 hl r x
 refine CK (ht [] s1 (Hw N vs) H _ I hq) (fun fl s' hs=>?_) fun e s' hs=>hs
 have fin:∀{σ':St} {H':Hp} {v:V} {u:IA},Aw (Qu CX P w K mg base N qual scope f cdv A outer s H E) [] σ' H' s'→RelV v u→Q v H'→CE outer P w H s Q u s' :=
  fun {σ' H' v u} J rv q=>⟨v,H',J.os,J.bare,J.base,J.hok,rv,q⟩
 cases fl with
 |ret u=>
  obtain ⟨v,σ',H',J,rv,q⟩:=hs
  exact fin J rv q
 |next=>
  obtain ⟨σ',H',J,q⟩:=hs
  exact fin (v:=V.non) (u:=Value.none) J rfl q
 |brk=>
  obtain ⟨_,_,_,q⟩:=hs
  exact False.elim q
 |cont=>
  obtain ⟨_,_,_,q⟩:=hs
  exact False.elim q
end L2
namespace L2
open PySem PySem.Spec PyProof.Rows
section
variable {X:Cx}{x:Str}{p pos:Pos}{e:Expr}{es:IJ}{t:TA}{id T:String}{r:IP→Hp→VK→Prop}
def tCB (r:IP→Hp→VK→Prop)(t:TA):TE:=fun σ H Q=>t σ H fun vs H1=>r vs H1 Q
theorem Afv (hc:Df X (.builtin id) r)(hg:Gl X x)(hm:X.mg x=none)(hv:bootBuiltins x=some (.builtin id))(ha:PA X (e::es) t)(hn:x≠"__name__":=by decide)(hdb:(x==("__debug__":Str))=false:=by decide)
  (he:starEach (e::es) X.env=(false,eval e X.env)::starEach es X.env:=by rfl) (hpl:(backTo pos (starEach es X.env)).any (·.1)=false:=by rfl):PE X (.Call (.Name x p) (e::es) [] pos) (tCB r t):=by
 intro pins s σ H Q I h
 refine DO (Gi I hg hm hv ?_ hn hdb)
 exact PyProof.Rows.callWith_builtin1 (Bo (ha pos pins s σ H _ I h) fun us s1 ⟨vs,H1,I1,r1,q1⟩=>hc pins s1 σ H1 vs us Q I1 r1 q1) he hpl
theorem Aaw (hc:Df X (.type T) r)(hg:Gl X x)(hm:X.mg x=none)(hv:bootBuiltins x=some (.type T))(ha:PA X (e::es) t)(hn:x≠"__name__":=by decide)(hdb:(x==("__debug__":Str))=false:=by decide)
  (he:starEach (e::es) X.env=(false,eval e X.env)::starEach es X.env:=by rfl) (hpl:(backTo pos (starEach es X.env)).any (·.1)=false:=by rfl):PE X (.Call (.Name x p) (e::es) [] pos) (tCB r t):=by
 intro pins s σ H Q I h
 refine DO (Gi I hg hm hv ?_ hn hdb)
 exact DH (Bo (ha pos pins s σ H _ I h) fun us s1 ⟨vs,H1,I1,r1,q1⟩=>hc pins s1 σ H1 vs us Q I1 r1 q1) he hpl
end
end L2
namespace HT
open PySem PyProof.Rows
section
variable {prog:IE}{w:IF}{A:ID}{E:IA→IB→Prop}{s:IB}
def sIx (n d:Nat):Option Int→Nat
 |none=>d
 |some v=>if v<0 then (v+(n:Int)).toNat else min v.toNat n
theorem sIx_none (n d:Nat):sIx n d none=d:=rfl
theorem sIx_nat (n d k:Nat):sIx n d (some (k:Int))=min k n:=by
 show (if (k:Int)<0 then ((k:Int)+(n:Int)).toNat else min (k:Int).toNat n)=min k n
 rw [AW (by omega),DK]
theorem sIx_le (n d:Nat)(hd:d≤n)(o:Option Int):sIx n d o≤n:=by
 cases o with
 |none=>exact hd
 |some v=>
  show (if v<0 then (v+(n:Int)).toNat else min v.toNat n)≤n
  by_cases hv:v<0
  ·rw [AZ hv];omega
  ·rw [AW hv];exact Nat.min_le_right _ _
theorem Z5 (v:Int)(n d:Nat):(if v<0 then max (v+(n:Int)) 0 else min v (n:Int))=((sIx n d (some v):Nat):Int):=by
 show (if v<0 then max (v+(n:Int)) 0 else min v (n:Int))=(((if v<0 then (v+(n:Int)).toNat else min v.toNat n):Nat):Int)
 by_cases hv:v<0
 ·simp only [AZ hv];omega
 ·simp only [AW hv];omega
theorem Ye (lo hi:Option Int)(n:Nat):Builtin.Slice.sliceAdjust lo hi 1 (n:Int)=(((sIx n 0 lo:Nat):Int),((sIx n n hi:Nat):Int)):=by
 have h1:¬((1:Int)<0):=by omega
 unfold Builtin.Slice.sliceAdjust
 simp only [h1,DU]
 refine Prod.ext ?_ ?_
 ·cases lo with
  |none=>rfl
  |some v=>exact Z5 v n 0
 ·cases hi with
  |none=>rfl
  |some v=>exact Z5 v n n
theorem Xh (i j:Nat):Builtin.Slice.slicePlaces (i:Int) (j:Int) 1=j-i:=by
 unfold Builtin.Slice.slicePlaces
 have h1:(1:Int)>0:=by omega
 simp only [h1,GL,Int.ediv_one]
 split<;>omega
theorem O2 {v:IA}{o:Option Int}{Q:Option Int→IB→Prop}(p:IsPart v o)(h:Q o s):wpAny (model prog w) A (Builtin.Slice.slicePartIndex v) Q E s:=by
 cases p with
 |none=>exact slicePart_none h
 |int i t=>exact slicePart_int h
theorem Lz {sl:IC}{vl vu:IA}{lo hi:Option Int}{n:Nat}{Q:Int×Int×Nat→IB→Prop}(hs:s.heap.IsSliceOf sl vl vu .none)(pl:IsPart vl lo)(pu:IsPart vu hi)
  (h:Q (((sIx n 0 lo:Nat):Int),1,sIx n n hi-sIx n 0 lo) s):wpAny (model prog w) A (Builtin.Slice.sliceApplied (.ref sl) (pure (n:Int))) Q E s:=by
 obtain ⟨os,hos,hcs,hds⟩:=id hs
 unfold Builtin.Slice.sliceApplied Builtin.Slice.sliceFields
 refine AA (AA (DF hos hds (x:=vl) rfl (AA (DF hos hds (x:=vu) rfl (AA (DF hos hds (x:=.none) rfl (AC ?_)))))))
 refine AA (slicePart_none ?_)
 show wpAny _ _ (if ((1:Int)==0)=true then _ else _) _ _ s
 rw [AW (by decide)]
 refine AA (O2 pl (AA (O2 pu (AA (AC ?_)))))
 show wpAny _ _ (match Builtin.Slice.sliceAdjust lo hi 1 (n:Int) with|(lo,hi)=>pure (lo,(1:Int),Builtin.Slice.slicePlaces lo hi 1)) _ _ s
 rw [Ye lo hi n]
 show wpAny _ _ (pure (((sIx n 0 lo:Nat):Int),(1:Int),Builtin.Slice.slicePlaces ((sIx n 0 lo:Nat):Int) ((sIx n n hi:Nat):Int) 1)) _ _ s
 rw [Xh]
 exact AC h
theorem Acy (xs:Array IA)(i k:Nat):((List.range k).filterMap fun (m:Nat)=>xs[((i:Int)+(m:Int)*1).toNat]?).toArray=((xs.toList.drop i).take k).toArray:=by
 have e:(fun (m:Nat)=>xs[((i:Int)+(m:Int)*1).toNat]?)=fun m=>xs[i+m]?:=by
  funext m
  have:((i:Int)+(m:Int)*1).toNat=i+m:=by omega
  rw [this]
 rw [e]
 have:=pick_run xs i k
 rw [List.filterMap_map] at this
 have e2:((fun x=>xs[x]?) ∘ fun x=>i+x)=fun m=>xs[i+m]?:=rfl
 rw [e2] at this
 rw [this]
theorem getItem_tuple_cut {t sl:IC}{items:Array IA}{vl vu:IA}{lo hi:Option Int}{Q:IA→IB→Prop}(ht:IsTup s.heap t items)(hs:s.heap.IsSliceOf sl vl vu .none)(pl:IsPart vl lo)(pu:IsPart vu hi)
  (hw:¬(sIx items.size 0 lo=0∧sIx items.size items.size hi=items.size))
  (h:Q (.ref s.heap.objs.size) { s with heap:=s.heap.push { cls:=.type "tuple",data:=.seq ((items.toList.drop (sIx items.size 0 lo)).take (sIx items.size items.size hi-sIx items.size 0 lo)).toArray } })
  (hsz:items.size≤sizeLine):wpAny (model prog w) A (getItem (.ref t) (.ref sl)) Q E s:=by
 have htake:sizeOk (.seq ((items.toList.drop (sIx items.size 0 lo)).take (sIx items.size items.size hi-sIx items.size 0 lo)).toArray):=by
  show ((items.toList.drop (sIx items.size 0 lo)).take (sIx items.size items.size hi-sIx items.size 0 lo)).toArray.size≤sizeLine
  rw [AX,CH,Eh,BS]
  omega
 have hj:sIx items.size items.size hi≤items.size:=sIx_le _ _ (AF _) hi
 obtain ⟨os,hos,hcs,hds⟩:=id hs
 have hTs:s.TypeIs (.ref sl) "slice":=⟨os,hos,hcs⟩
 unfold getItem
 try with_reducible refine DQ ?_
 first|refine AA (AC ?_)|skip
 refine AA (wpAny_sequenceKey ht.typeIs (by decide) ?_)
 refine AA (CP (name:=Str.ofString "__getitem__") ht.typeIs FJ
  (wpAny_call_entry FJ ht.typeIs entry_tuple_getitem ?_ (args_tuple_getitem _ _)))
 show wpAny _ _ (Builtin.Tuple.tupleItemsOf (.ref t) >>= _) _ _ s
 refine AA (tupleItemsOf_ ht ?_)
 refine AA (wpAny_typeOf hTs ?_)
 rw [AZ (by decide)]
 refine AA (Lz hs pl pu ?_)
 have hno:¬((((sIx items.size 0 lo:Nat):Int)==0&&(1:Int)==1&&(sIx items.size items.size hi-sIx items.size 0 lo)==items.size)=true):=by
  intro q
  rw [BV,BV] at q
  have q1:((sIx items.size 0 lo:Nat):Int)=0:=FA q.1.1
  have q2:sIx items.size items.size hi-sIx items.size 0 lo=items.size:=FA q.2
  exact hw ⟨by omega,by omega⟩
 show wpAny _ _ (if (((sIx items.size 0 lo:Nat):Int)==0&&(1:Int)==1&&(sIx items.size items.size hi-sIx items.size 0 lo)==items.size)=true then _ else _) _ _ s
 rw [AW hno,Acy]
 first
  |exact AA (m:=Builtin.Tuple.tupleExact _) (CD (AC ⟨_,rfl,AC h⟩) htake)
  |exact AA (m:=Builtin.Tuple.tupleExact _) (CD (AA (AC (AC ⟨_,rfl,AC h⟩))) htake)
  |exact AA (AA (m:=Builtin.Tuple.tupleExact _) (CD (AC (AC ⟨_,rfl,AC h⟩)) htake))
  |exact AA (AA (m:=Builtin.Tuple.tupleExact _) (CD (AC ⟨_,rfl,AC h⟩) htake))
end
end HT
namespace L2
open PySem PySem.Spec PyProof.Rows
abbrev TO:=St→Hp→(Option Int→Hp→Prop)→Prop
def PO (X:Cx)(e:Option Expr)(t:TO):Prop:=
 ∀(pins:List (IC×Obj)) (s:IB) (σ:St) (H:Hp) (Q:Option Int→Hp→Prop),Aw X pins σ H s→t σ H Q →
  wpAny (model X.prog X.w) X.A (evalPart e X.env) (fun u s'=>∃o H',Aw X pins σ H' s'∧IsPart u o∧Q o H') X.xe s
def Af8:TO:=fun _ H Q=>Q none H
def Ams (t:TE):TO:=fun σ H Q=>t σ H fun x H1=>∃i,x=.int i∧Q (some i) H1
section
variable {X:Cx}{e:Expr}{te:TE}{lo hi:Option Expr}{tl th:TO}{pos p2:Pos}
theorem Jj:PO X none Af8:=by
 intro pins s σ H Q I h
 rw [evalPart_none]
 exact AC ⟨none,H,I,.none,h⟩
theorem Cj (h:PE X e te):PO X (some e) (Ams te):=by
 intro pins s σ H Q I hw
 rw [evalPart_some]
 refine Bo (h pins s σ H _ I hw) fun u s1 ⟨x,H1,I1,r1,q1⟩=>?_
 obtain ⟨i,rfl,q⟩:=q1
 obtain ⟨t,rfl⟩:=r1
 exact ⟨some i,H1,I1,.int i t,q⟩
def SlR (X:Cx)(r:V→Option Int→Option Int→Hp→VK→Prop):Prop:=
 ∀(pins:List (IC×Obj)) (s:IB) (σ:St) (H:Hp) (x:V) (v vl vu:IA) (lo hi:Option Int) (sl:IC) (Q:VK),Aw X pins σ H s→RelV x v→s.heap.IsSliceOf sl vl vu .none→IsPart vl lo→IsPart vu hi→r x lo hi H Q →
  ∃T id,typeLookup (.type T) "__getitem__"=pure (some (.builtin id))∧s.TypeIs v T∧wpAny (model X.prog X.w) X.A (getItem v (.ref sl)) (EP X pins σ Q) X.xe s
def tSl (r:V→Option Int→Option Int→Hp→VK→Prop)(te:TE)(tl th:TO):TE:=fun σ H Q=>te σ H fun x H1=>tl σ H1 fun l H2=>th σ H2 fun u H3=>r x l u H3 Q
theorem C7 {r:V→Option Int→Option Int→Hp→VK→Prop}(hr:SlR X r)(he:PE X e te)(hl:PO X lo tl)(hu:PO X hi th):PE X (.Subscript e (.Slice lo hi none p2) pos) (tSl r te tl th):=by
 intro pins s σ H Q I h
 refine Subscript_ (Bo (he pins s σ H _ I h) fun v s1 ⟨x,H1,I1,r1,q1⟩=>?_)
 refine wpAny_Slice (Bo (hl pins s1 σ H1 _ I1 q1) fun vl s2 ⟨l,H2,I2,pl,q2⟩=>Bo (hu pins s2 σ H2 _ I2 q2) fun vu s3 ⟨u,H3,I3,pu,q3⟩=>?_)
 rw [evalPart_none]
 refine AC ?_
 have I4:Aw X pins σ H3 { s3 with heap:=s3.heap.push { cls:=.type "slice",data:=.fields #[vl,vu,.none] } }:=I3.kept (t':=s3.toks) fun b ob q=>AB _ q
 obtain ⟨T,id,hT,ht,hg⟩:=hr pins { s3 with heap:=s3.heap.push { cls:=.type "slice",data:=.fields #[vl,vu,.none] } } σ H3 x v vl vu l u s3.heap.objs.size Q I4 r1 (Heap.IsSliceOf.new ..) pl pu q3
 show wpAny (model X.prog X.w) X.A (subscriptTail e (.Slice lo hi none p2) v (.ref s3.heap.objs.size)) (EP X pins σ Q) X.xe { s3 with heap:=s3.heap.push { cls:=.type "slice",data:=.fields #[vl,vu,.none] } }
 exact tail_any (ops:=[.ref s3.heap.objs.size,v]) ht hT hg (by with_unfolding_all rfl)
def Fd (xs:IP)(lo hi:Option Int):IP:=(xs.drop (HT.sIx xs.length 0 lo)).take (HT.sIx xs.length xs.length hi-HT.sIx xs.length 0 lo)
theorem M0 (xs:IP)(lo hi:Option Int):(Fd xs lo hi).length≤xs.length:=by
 unfold Fd
 rw [CH,Eh]
 omega
def Alk (K:KKf):V→Option Int→Option Int→Hp→VK→Prop:=fun x lo hi H Q=>∃a xs,x=.ref a∧F5 K H a xs ∧
 ¬(HT.sIx xs.length 0 lo=0∧HT.sIx xs.length xs.length hi=xs.length)∧∀p,H p=none→Q (.ref p) (upd H p (.tup (Fd xs lo hi)))
theorem T7:SlR X (Alk X.K):=by
 intro pins s σ H x v vl vu lo hi sl Q I rx hs pl pu h
 obtain ⟨a,xs,rfl,hx,hw,q⟩:=h
 cases rx
 obtain ⟨its,r,ht,hz⟩:=I.tuple hx
 have hlen:its.toArray.size=xs.length:=by rw [AX];exact r.length.symm
 refine ⟨"tuple",_,FJ.lookup,ht.typeIs,?_⟩
 refine HT.getItem_tuple_cut ht hs pl pu (by rw [hlen];exact hw) ?_ (by rw [hlen];exact hz)
 rw [hlen]
 refine ⟨.ref s.heap.objs.size,_,I.laid (t':=s.toks) (o:=.tup (Fd xs lo hi)) (fun b ob q=>AB _ q) (AF _) ?_,rfl,q _ (I.hok.fresh (AF _))⟩
 exact ⟨AI (M0 xs lo hi) hz,_,(r.drop (HT.sIx xs.length 0 lo)).take (HT.sIx xs.length xs.length hi-HT.sIx xs.length 0 lo),IsTup.new _ _⟩
end
end L2
namespace L2
open PySem PySem.Spec PyProof.Rows
def ixN (n:Nat)(i:Int):Option Nat:=if 0≤i then (if i<n then some i.toNat else none) else if -(n:Int)≤i then some (i+n).toNat else none
def Na {α:Type}(xs:List α)(i:Int):Option α:=(ixN xs.length i).bind fun j=>xs[j]?
theorem Ahb {n:Nat}{i:Int}{j:Nat}(h:ixN n i=some j):seqIndex? i n=some j∧j<n∧-(n:Int)≤i∧i<n:=by
 unfold ixN at h
 by_cases h0:0≤i
 ·rw [AZ h0] at h
  by_cases h1:i<n
  ·rw [AZ h1] at h
   have e:i.toNat=j:=Option.some.inj h
   exact ⟨by rw [seqIndex_of h0 h1,e],by omega,by omega,h1⟩
  ·rw [AW h1] at h;cases h
 ·rw [AW h0] at h
  by_cases h1:-(n:Int)≤i
  ·rw [AZ h1] at h
   have e:(i+n).toNat=j:=Option.some.inj h
   exact ⟨by rw [seqIndex_neg (by omega) h1,e],by omega,h1,by omega⟩
  ·rw [AW h1] at h;cases h
theorem Tu {α:Type}{xs:List α}{i:Int}{v:α}(h:Na xs i=some v):∃j,seqIndex? i xs.length=some j∧xs[j]? =some v∧j<xs.length∧-(xs.length:Int)≤i∧i<xs.length:=by
 unfold Na at h
 cases e:ixN xs.length i with
 |none=>rw [e] at h;cases h
 |some j=>
  rw [e] at h
  obtain ⟨h1,h2,h3,h4⟩:=Ahb e
  exact ⟨j,h1,h,h2,h3,h4⟩
theorem A1 {α:Type}{xs:List α}{j:Nat}{v:α}(h:xs[j]? =some v):Na xs (j:Int)=some v:=by
 have hj:j<xs.length:=(AY.mp h).1
 have e:ixN xs.length (j:Int)=some j:=by
  unfold ixN
  rw [AZ (by omega),AZ (by omega)];simp
 unfold Na;rw [e];exact h
def Aha (b:Expr):Prop:=∀o i,subscripted b false o i=operate [o,i] (getItem o i)
def Wv (X:Cx)(r:R2):Prop:=
 ∀(value slice:Expr) (pins:List (IC×Obj)) (s:IB) (σ:St) (H:Hp) (x y:V) (v u:IA) (Q:VK),Aw X pins σ H s→RelV x v→RelV y u→r x y H Q →
  subscripted slice false v u=operate [v,u] (getItem v u)→wpAny (model X.prog X.w) X.A (subscriptTail value slice v u) (EP X pins σ Q) X.xe s
def MtR (X:Cx)(id:String)(r:V→IP→Hp→VK→Prop):Prop:=
 ∀(pins:List (IC×Obj)) (s:IB) (σ:St) (H:Hp) (x:V) (xs:IP) (v:IA) (us:II) (Q:VK),Aw X pins σ H s→RelV x v→A6 xs us→r x xs H Q →
  wpAny (model X.prog X.w) X.A (call (.builtin id) (v::us)) (EP X pins σ Q) X.xe s
section
variable {X:Cx}{a b:Expr}{ta tb:TE}{pos:Pos}
theorem Co {r:R2}(hr:Wv X r)(ha:PE X a ta)(hb:PE X b tb)(hs:Aha b):PE X (.Subscript a b pos) (tOp r ta tb):=by
 intro pins s σ H Q I h
 exact Subscript_ (Ale ha hb I h fun v u s2 x y H2 I2 rx ry q=>hr a b pins s2 σ H2 x y v u Q I2 rx ry q (hs _ _))
def Apb (K:KKf):R2:=fun x y H Q=>∃p xs i v,x=.ref p∧y=.int i∧Au K H p xs∧Na xs i=some v∧Q v H
def Apm (K:KKf):R2:=fun x y H Q=>∃p xs i v,x=.ref p∧y=.int i∧F5 K H p xs∧Na xs i=some v∧Q v H
def Ap4:R2:=fun x y H Q=>∃z i c,x=.str z∧y=.int i∧z.length≤sizeLine∧Na z.cps.toList i=some c∧Q (.str ⟨#[c]⟩) H
theorem Ahi:Wv X (Apb X.K):=by
 intro value slice pins s σ H x y v u Q I rx ry h hs
 obtain ⟨p,xs,i,z,rfl,rfl,hq,he,q⟩:=h
 cases rx
 obtain ⟨t,rfl⟩:=ry
 obtain ⟨its,r,pl,hz⟩:=I.list hq
 obtain ⟨j,h1,h2,h3,h4,h5⟩:=Tu he
 obtain ⟨w,ew,rw'⟩:=r.get h2
 have hl:=r.length
 have hn:=Md
 have fin:EP X pins σ Q w s:=⟨z,H,I,rw',q⟩
 by_cases h0:0≤i
 ·have hj:i.toNat=j:=by
   rw [seqIndex_of h0 h5] at h1
   exact Option.some.inj h1
  exact item_listR pl.isList h0 (by omega) (by rw [hj];simpa using ew) fin hs
 ·have hj:(i+(its.toArray.size:Int)).toNat=j:=by
   rw [seqIndex_neg (by omega) h4] at h1
   rw [AX,←hl]
   exact Option.some.inj h1
  exact subscriptTail_builtinR (x:=w) pl.isList.typeIs slot_list_getitem.lookup
   (wpAny_getItem_list_neg (Q:=fun r s'=>r=w∧EP X pins σ Q r s') pl.isList (by omega) (by rw [AX]<;>omega) (by omega) (by rw [hj];simpa using ew) ⟨rfl,fin⟩) hs
theorem X1:Wv X (Apm X.K):=by
 intro value slice pins s σ H x y v u Q I rx ry h hs
 obtain ⟨p,xs,i,z,rfl,rfl,hq,he,q⟩:=h
 cases rx
 obtain ⟨t,rfl⟩:=ry
 obtain ⟨its,r,pl,hz⟩:=I.tuple hq
 obtain ⟨j,h1,h2,h3,h4,h5⟩:=Tu he
 obtain ⟨w,ew,rw'⟩:=r.get h2
 have hl:=r.length
 have hn:=Md
 have fin:EP X pins σ Q w s:=⟨z,H,I,rw',q⟩
 exact subscriptTail_builtinR (x:=w) pl.typeIs slot_tuple_getitem.lookup
  (getItem_tuple (j:=j) (Q:=fun r s'=>r=w∧EP X pins σ Q r s') pl (by omega) (by omega) (by rw [AX,←hl];exact h1) (by simpa using ew) ⟨rfl,fin⟩) hs
theorem Alz:Wv X Ap4:=by
 intro value slice pins s σ H x y v u Q I rx ry h hs
 obtain ⟨z,i,c,rfl,rfl,hz,he,q⟩:=h
 obtain ⟨t,rfl⟩:=rx
 obtain ⟨t',rfl⟩:=ry
 obtain ⟨j,h1,h2,h3,h4,h5⟩:=Tu he
 have hl:z.cps.toList.length=z.length:=by simp [Str.length]
 rw [hl] at h1 h4 h5
 have hn:=Md
 exact tail_any (EY s z t) slot_str_getitem.lookup (getItem_str (c:=c) (by
  have e1:decide (i < -(2 ^ 63:Int))=false:=BF (by omega)
  have e2:decide (i≥2 ^ 63)=false:=BF (by omega)
  rw [e1,e2,Bool.or_false]) (by rw [h1];simpa using h2) ⟨.str ⟨#[c]⟩,H,I.tok _,⟨_,rfl⟩,q⟩) hs
theorem Tz (lo hi:Option Int)(n:Nat):(sliceBounds lo hi none n).1=((HT.sIx n 0 lo:Nat):Int)∧(sliceBounds lo hi none n).2.1=((HT.sIx n n hi:Nat):Int)∧(sliceBounds lo hi none n).2.2=1:=by
 refine ⟨?_,?_,rfl⟩
 ·cases lo with
  |none=>simp [sliceBounds,HT.sIx]
  |some i=>
   simp only [sliceBounds,HT.sIx,Option.getD_none,show (1:Int)>0 by decide,GL]
   by_cases h:i<0
   ·simp only [h,GL]<;>omega
   ·simp only [h,DU]<;>omega
 ·cases hi with
  |none=>simp [sliceBounds,HT.sIx]
  |some i=>
   simp only [sliceBounds,HT.sIx,Option.getD_none,show (1:Int)>0 by decide,GL]
   by_cases h:i<0
   ·simp only [h,GL]<;>omega
   ·simp only [h,DU]<;>omega
theorem Qp (its:II)(lo hi:Option Int):slicePick its.toArray lo hi none=((its.drop (HT.sIx its.length 0 lo)).take (HT.sIx its.length its.length hi-HT.sIx its.length 0 lo)).toArray:=by
 obtain ⟨h1,h2,h3⟩:=Tz lo hi its.toArray.size
 unfold slicePick
 rw [h1,h2,h3]
 simp only [sliceRange_one,pick_run,AX]<;>rfl
def Aql (K:KKf):V→Option Int→Option Int→Hp→VK→Prop:=fun x lo hi H Q=>∃a xs,x=.ref a∧Au K H a xs∧∀p,H p=none→Q (.ref p) (upd H p (.lst (Fd xs lo hi)))
theorem Zp:SlR X (Aql X.K):=by
 intro pins s σ H x v vl vu lo hi sl Q I rx hs pl pu h
 obtain ⟨a,xs,rfl,hx,q⟩:=h
 cases rx
 obtain ⟨its,r,ht,hz⟩:=I.list hx
 have hlen:=r.length
 refine ⟨"list",_,slot_list_getitem.lookup,ht.isList.typeIs,?_⟩
 refine wpAny_getItem_list_slice ht.isList hs pl pu .none (by simp) ?_ (by rw [AX]<;>omega)
 rw [Qp,←hlen]
 refine ⟨.ref s.heap.objs.size,_,I.laid (t':=s.toks) (o:=.lst (Fd xs lo hi)) (fun b ob q=>AB _ q) (AF _) ?_,rfl,q _ (I.hok.fresh (AF _))⟩
 exact ⟨AI (M0 xs lo hi) hz,_,0,(r.drop (HT.sIx xs.length 0 lo)).take (HT.sIx xs.length xs.length hi-HT.sIx xs.length 0 lo),AJ _ rfl⟩
def Fu:V→Bool
 |.non=>true
 |.bl _=>true
 |.int _=>true
 |.str _=>true
 |_=>false
def Yy:V→V→Bool
 |.non,.non=>true
 |.bl a,.bl b=>a==b
 |.bl a,.int b=>(if a then 1 else 0)==b
 |.int a,.bl b=>a==(if b then 1 else 0)
 |.int a,.int b=>a==b
 |.str a,.str b=>a==b
 |_,_=>false
theorem Ai9 {A:ID}{s:IB}{y x:V}{u v:IA}(ry:RelV y u)(rx:RelV x v)(fy:Fu y=true)(fx:Fu x=true):SeqAt.EqAt A s u v (Yy y x):=by
 cases y with
 |non=>
  cases ry
  cases x with
  |non=>cases rx;exact SeqAt.EqAt.same _
  |bl b=>cases rx;exact SeqAt.EqAt.none_bool b
  |int b=>obtain ⟨t,rfl⟩:=rx;exact SeqAt.EqAt.none_int b t
  |str b=>obtain ⟨t,rfl⟩:=rx;exact SeqAt.EqAt.none_str b t
  |_=>exact absurd (show false=true from fx) BM
 |bl a=>
  cases ry
  cases x with
  |non=>cases rx;exact SeqAt.EqAt.bool_none a
  |bl b=>cases rx;exact SeqAt.EqAt.bool_bool a b
  |int b=>obtain ⟨t,rfl⟩:=rx;exact SeqAt.EqAt.bool_int a b t
  |str b=>obtain ⟨t,rfl⟩:=rx;exact SeqAt.EqAt.bool_str a b t
  |_=>exact absurd (show false=true from fx) BM
 |int a=>
  obtain ⟨t',rfl⟩:=ry
  cases x with
  |non=>cases rx;exact SeqAt.EqAt.int_none a t'
  |bl b=>cases rx;exact SeqAt.EqAt.int_bool a t' b
  |int b=>obtain ⟨t,rfl⟩:=rx;exact SeqAt.EqAt.int_int a t' b t
  |str b=>obtain ⟨t,rfl⟩:=rx;exact SeqAt.EqAt.int_str a t' b t
  |_=>exact absurd (show false=true from fx) BM
 |str a=>
  obtain ⟨t',rfl⟩:=ry
  cases x with
  |non=>cases rx;exact SeqAt.EqAt.str_none a t'
  |bl b=>cases rx;exact SeqAt.EqAt.str_bool a t' b
  |int b=>obtain ⟨t,rfl⟩:=rx;exact SeqAt.EqAt.str_int a t' b t
  |str b=>obtain ⟨t,rfl⟩:=rx;exact SeqAt.EqAt.str_str a t' b t
  |_=>exact absurd (show false=true from fx) BM
 |_=>exact absurd (show false=true from fy) BM
def Wx (x:V)(u:IA):Bool:=match u with
 |.none=>Yy .non x
 |.bool b=>Yy (.bl b) x
 |.int i _=>Yy (.int i) x
 |.str z _=>Yy (.str z) x
 |_=>false
theorem Si {x y:V}{u:IA}(r:RelV y u)(f:Fu y=true):Wx x u=Yy y x:=by
 cases y with
 |non=>cases r;rfl
 |bl b=>cases r;rfl
 |int i=>obtain ⟨t,rfl⟩:=r;rfl
 |str z=>obtain ⟨t,rfl⟩:=r;rfl
 |_=>exact absurd (show false=true from f) BM
theorem La {x:V}:∀{xs:IP} {us:II},A6 xs us→xs.all Fu=true→us.any (Wx x)=xs.any fun y=>Yy y x
 |_,_,.nil,_=>rfl
 |y::xs,u::us,.cons r t,f=>by
  rw [List.all_cons,BV] at f
  rw [GJ,GJ,Si r f.1,La t f.2]
theorem Gz {A:ID}{s:IB}{x:V}{v:IA}(rx:RelV x v)(fx:Fu x=true):∀{xs:IP} {us:II},A6 xs us→xs.all Fu=true→∀u∈us,SeqAt.EqAt A s u v (Wx x u)
 |_,_,.nil,_=>fun u hu=>by cases hu
 |y::xs,u::us,.cons r t,f=>fun u' hu=>by
  rw [List.all_cons,BV] at f
  rcases AS.mp hu with rfl|hu
  ·rw [Si r f.1];exact Ai9 r rx f.1 fx
  ·exact Gz rx fx t f.2 u' hu
def inV (x:V)(xs:IP):Bool:=xs.any fun y=>Yy y x
def rIn (K:KKf)(neg:Bool):R2:=fun x y H Q=>∃p xs,y=.ref p∧(Au K H p xs∨F5 K H p xs)∧Fu x=true∧xs.all Fu=true∧Q (.bl (if neg then !inV x xs else inV x xs)) H
theorem Abi:Dh X (compareOp .In) (rIn X.K false):=by
 intro pins s σ H x y v u Q I rx ry h
 obtain ⟨p,xs,rfl,hq,fx,fs,q⟩:=h
 cases ry
 rcases hq with hq|hq
 ·obtain ⟨its,r,pl,hz⟩:=I.list hq
  refine SeqAt.in_listAt (Wx x) pl.isList (fun w hw=>Gz rx fx r fs w (by simpa using hw)) ⟨.bl _,H,I,rfl,?_⟩
  rw [show its.toArray.any (Wx x)=its.any (Wx x) by simp,La r fs]
  exact q
 ·obtain ⟨its,r,pl,hz⟩:=I.tuple hq
  refine SeqAt.in_tupleAt (Wx x) pl (fun w hw=>Gz rx fx r fs w (by simpa using hw)) ⟨.bl _,H,I,rfl,?_⟩
  rw [show its.toArray.any (Wx x)=its.any (Wx x) by simp,La r fs]
  exact q
theorem T4:Dh X (compareOp .NotIn) (rIn X.K true):=by
 intro pins s σ H x y v u Q I rx ry h
 obtain ⟨p,xs,rfl,hq,fx,fs,q⟩:=h
 cases ry
 rcases hq with hq|hq
 ·obtain ⟨its,r,pl,hz⟩:=I.list hq
  refine SeqAt.notIn_listAt (Wx x) pl.isList (fun w hw=>Gz rx fx r fs w (by simpa using hw)) ⟨.bl _,H,I,rfl,?_⟩
  rw [show its.toArray.any (Wx x)=its.any (Wx x) by simp,La r fs]
  exact q
 ·obtain ⟨its,r,pl,hz⟩:=I.tuple hq
  refine SeqAt.notIn_tupleAt (Wx x) pl (fun w hw=>Gz rx fx r fs w (by simpa using hw)) ⟨.bl _,H,I,rfl,?_⟩
  rw [show its.toArray.any (Wx x)=its.any (Wx x) by simp,La r fs]
  exact q
theorem Sv:Df X (.builtin "len") (fun xs H Q=>∃p ys,xs=[.ref p]∧(Au X.K H p ys∨F5 X.K H p ys)∧Q (.int ys.length) H):=by
 intro pins s σ H xs us Q I r h
 obtain ⟨p,ys,rfl,hq,q⟩:=h
 obtain ⟨u,rfl,rx⟩:=Fv r
 cases rx
 have hn:=Md
 rcases hq with hq|hq
 ·obtain ⟨its,r',pl,hz⟩:=I.list hq
  have hlen:=r'.length
  exact Calls.call_len_list pl.isList (by simp only [AX]<;>omega) ⟨.int ys.length,H,I.tok _,⟨s.toks+1,by rw [AX,hlen]⟩,q⟩
 ·obtain ⟨its,r',pl,hz⟩:=I.tuple hq
  have hlen:=r'.length
  exact len_tuple pl (by simp only [AX]<;>omega) ⟨.int ys.length,H,I.tok _,⟨s.toks+1,by rw [AX,hlen]⟩,q⟩
theorem S9:Df X (.builtin "len") (fun xs H Q=>∃z,xs=[.str z]∧z.length≤sizeLine∧Q (.int z.length) H):=by
 intro pins s σ H xs us Q I r h
 obtain ⟨z,rfl,hz,q⟩:=h
 obtain ⟨u,rfl,t,rfl⟩:=Fv r
 have hn:=Md
 exact len_str (by omega) ⟨.int z.length,H,I.tok _,⟨_,rfl⟩,q⟩
theorem K4:Df X (.type "list") (fun xs H Q=>∃p ys,xs=[.ref p]∧(Au X.K H p ys∨F5 X.K H p ys)∧∀l,H l=none→Q (.ref l) (upd H l (.lst ys))):=by
 intro pins s σ H xs us Q I r h
 obtain ⟨p,ys,rfl,hq,q⟩:=h
 obtain ⟨u,rfl,rx⟩:=Fv r
 cases rx
 have fin:∀(its:II),A6 ys its→ys.length≤sizeLine→∀(h':Heap) (c':Nat),(∀b o',s.heap.get? b=some o'→h'.get? b=some o') →
   h'.get? s.heap.objs.size=some { cls:=.type "list",dict:=none,data:=.seq its.toArray c',slots:=#[] }→EP X pins σ Q (.ref s.heap.objs.size) { s with heap:=h' }:=fun its r' hz h' c' kp e=>
  ⟨.ref s.heap.objs.size,_,I.laid (t':=s.toks) kp (AF _) (show Bj X.prog X.w _ h' _ (.lst ys) from ⟨hz,its,c',r',e⟩),rfl,q _ (I.hok.fresh (AF _))⟩
 rcases hq with hq|hq
 ·obtain ⟨its,r',pl,hz⟩:=I.list hq
  have hlen:=r'.length
  obtain ⟨o,ho,hc,n,hd⟩:=pl.isList
  exact call_list_seq p (.inl rfl) ho hc hd (fun h' c' kp e=>fin its r' hz h' c' kp e) (by simp only [AX]<;>omega)
 ·obtain ⟨its,r',pl,hz⟩:=I.tuple hq
  have hlen:=r'.length
  obtain ⟨o,ho,hc,n,hd⟩:=pl
  exact call_list_seq p (.inr rfl) ho hc hd (fun h' c' kp e=>fin its r' hz h' c' kp e) (by simp only [AX]<;>omega)
def tyV (K:KKf)(T:String)(x:V)(H:Hp):Prop:=match x with
 |.str _=>T="str"
 |.int _=>T="int"
 | .ref p=>(T="list"∧∃xs,Au K H p xs)∨(T="tuple"∧∃o,K.lookup p=some o∧o.cls=.type "tuple"∧o.dict=none) ∨
   (T="dict"∧((∃kvs,H p=some (.dK kvs))∨∃kvs,H p=some (.dT kvs)))∨(T="set"∧∃S n,H p=some (.set S n))
 |_=>False
theorem Ajf {pins:List (IC×Obj)}{σ:St}{H:Hp}{s:IB}{T:String}{x:V}{v:IA}(I:Aw X pins σ H s)(r:RelV x v)(ty:tyV X.K T x H) :
  s.TypeIs v T∧∀a,v=.ref a→∃ob,s.heap.get? a=some ob∧ob.dict=none:=by
 cases x with
 |str z=>
  obtain ⟨t,rfl⟩:=r
  cases (show T="str" from ty)
  exact ⟨EY s z t,fun _ e=>nomatch e⟩
 |int i=>
  obtain ⟨t,rfl⟩:=r
  cases (show T="int" from ty)
  exact ⟨typeIs_int s i t,fun _ e=>nomatch e⟩
 | ref p=>
  cases r
  rcases ty with ⟨rfl,xs,hq⟩|⟨rfl,o,hk,hc,hd⟩|⟨rfl,hk⟩|⟨rfl,S,n,hk⟩
  ·obtain ⟨its,_,pl,_⟩:=I.list hq
   refine ⟨pl.isList.typeIs,fun a e=>?_⟩
   cases e
   obtain ⟨o,n,e,c,hd,_⟩:=pl
   exact ⟨o,e,hd⟩
  ·refine ⟨⟨o,I.kIn p o hk,hc⟩,fun a e=>?_⟩
   cases e
   exact ⟨o,I.kIn _ o hk,hd⟩
  ·have z:∃o,s.heap.get? p=some o∧o.ExactDict:=by
    rcases hk with ⟨kvs,hk⟩|⟨kvs,hk⟩
    ·obtain ⟨_,_,_,_,o,_,_,e,ex,_⟩:=I.hok p _ hk
     exact ⟨o,e,ex⟩
    ·obtain ⟨_,_,_,_,o,_,_,e,ex,_⟩:=I.hok p _ hk
     exact ⟨o,e,ex⟩
   obtain ⟨o,e,ex⟩:=z
   refine ⟨⟨o,e,ex.1⟩,fun a e2=>?_⟩
   cases e2
   exact ⟨o,e,ex.2.1⟩
  ·obtain ⟨o,_,_,_,e,ex,_⟩:=I.hok p _ hk
   refine ⟨⟨o,e,ex.1⟩,fun a e2=>?_⟩
   cases e2
   exact ⟨o,e,ex.2.1⟩
 |_=>exact False.elim ty
def tBM (K:KKf)(T:String)(r:V→IP→Hp→VK→Prop)(to:TE)(t:TA):TE:=fun σ H Q=>to σ H fun x H1=>tyV K T x H1∧t σ H1 fun xs H2=>r x xs H2 Q
variable {o e:Expr}{es:IJ}{to:TE}{t:TA}{name:Str}{apos cpos:Pos}{T id:String}{r:V→IP→Hp→VK→Prop}
theorem Em (pa:PlainAttrs T)(slot:Slot T name id)(hty:typeOf (.builtin id)=pure (.type "method_descriptor"))(hm:MtR X id r)(ho:PE X o to)(ha:PA X (e::es) t)
  (hbase:attributeBase o name X.env (eval o X.env)=eval o X.env:=by rfl)
  (hfew:((backTo cpos (starEach (e::es) X.env)).all (fun x=>!x.1)&&(backToKw cpos (keywordEach [] X.env)).all (fun x=>x.1.isSome)
   && decide ((e::es).length+([]:List Keyword).length+(if ([]:List Keyword).isEmpty then 0 else 1)<30))=true:=by rfl)
  (hline:(apos.endLine==cpos.line)=true:=by rfl) (hs:starEach (e::es) X.env=(false,eval e X.env)::starEach es X.env:=by rfl) (hplain:(backTo cpos (starEach es X.env)).any (·.1)=false:=by rfl) :
  PE X (.Call (.Attribute o name apos) (e::es) [] cpos) (tBM X.K T r to t):=by
 intro pins s σ H Q I h
 refine wpAny_Call_method_late hbase hfew hline rfl (Bo (ho pins s σ H _ I h) fun v s1 ⟨x,H1,I1,r1,ty,q1⟩=>?_)
 obtain ⟨h1,h2⟩:=Ajf I1 r1 ty
 refine ⟨T,id,pa,slot,hty,h1,h2,?_⟩
 have hA:=ha cpos pins s1 σ H1 _ I1 q1
 rw [hs] at hA ⊢
 refine Calls.callWith_builtin (by show (false||(backTo cpos (starEach es X.env)).any (·.1))=false;rw [hplain]<;>rfl) (Calls.evalArgs_plain ?_)
 exact Bo hA fun us s2 ⟨vs,H2,I2,r2,q2⟩=>hm pins s2 σ H2 x vs v us Q I2 r1 r2 q2
/- xs.append(e),list.index on a module's tuple .. are MtR facts of 06m -/
end
end L2
namespace L2
open PySem PySem.Spec PyProof.Rows
def MtM (X:Cx)(id:String)(r:V→IP→Hp→VK→Prop):Prop:=
 ∀(pins:List (IC×Obj)) (s:IB) (σ:St) (H:Hp) (x:V) (xs:IP) (v:IA) (us:II) (Q:VK),Aw X pins σ H s→RelV x v→A6 xs us→r x xs H Q →
  wpAny (model X.prog X.w) X.A (call (.builtin id) (v::us)) (EP X pins σ Q) X.xe s
theorem A6.one:∀{x:V} {us:II},A6 [x] us→∃u,us=[u]∧RelV x u
 |_,_,.cons r .nil=>⟨_,rfl,r⟩
section
variable {X:Cx}{pins:List (IC×Obj)}{σ:St}{H:Hp}{s:IB}{l b:IC}{xs ys zs:IP}
theorem Aw.lset {its its':II}{n:Nat}{f:Array IA→Array IA}{t':Nat}(I:Aw X pins σ H s)(hH:H l=some (.lst xs))
  (e:s.heap.get? l=some { cls:=.type "list",data:=.seq its.toArray n }) (hf:f its.toArray=its'.toArray) (hv:A6 ys its') (hz:ys.length≤sizeLine) :
  Aw X pins σ (upd H l (.lst ys)) { s with heap:=s.heap.update l (Obj.mapSeq f),toks:=t' }:=by
 have q:=PySem.IsL.update e f
 rw [hf] at q
 refine I.write (x:=l) (e:=l) (by rw [hH];exact trivial) (.inl rfl) (fun b' u hb hu=>(Heap.get?_update_other s.heap (Obj.mapSeq f) (DI hb)).trans hu) ⟨_,q⟩ ?_
 exact ⟨hz,its',_,hv,q⟩
theorem Aw.lnew {its:II}{t':Nat}(I:Aw X pins σ H s)(hv:A6 ys its)(hz:ys.length≤sizeLine) :
  Aw X pins σ (upd H s.heap.objs.size (.lst ys)) { s with heap:=s.heap.push { cls:=.type "list",data:=.seq its.toArray },toks:=t' } :=
 I.laid (fun _ _ q=>AB _ q) (AF _) ⟨hz,its,0,hv,AJ _ rfl⟩
theorem Aw.fresh (I:Aw X pins σ H s):H s.heap.objs.size=none:=I.hok.fresh (AF _)
theorem Aw.lstM (I:Aw X pins σ H s)(hH:H l=some (.lst xs)):xs.length≤sizeLine∧∃(its:II) (n:Nat),A6 xs its∧xs.length=its.length∧s.heap.get? l=some { cls:=.type "list",data:=.seq its.toArray n }:=by
 obtain ⟨z,its,n,r,e⟩:=I.hok l _ hH
 exact ⟨z,its,n,r,r.length,e⟩
theorem Aet {n:Nat}(h:n≤sizeLine):Builtin.List.listTooLong n=false:=by
 unfold Builtin.List.listTooLong
 exact BF (by omega)
end
section
variable {X:Cx}
def Af5:V→IP→Hp→VK→Prop:=fun x vs H Q=>∃l xs y,x=.ref l∧vs=[y]∧H l=some (.lst xs)∧xs.length<sizeLine∧Q .non (upd H l (.lst (xs++[y])))
theorem Cy:MtM X "list.append" Af5:=by
 intro pins s σ H x vs v us Q I rx rv h
 obtain ⟨l,xs,y,rfl,rfl,hH,hz,q⟩:=h
 cases rx
 obtain ⟨u,rfl,ru⟩:=rv.one
 obtain ⟨z,its,n,r,hl,e⟩:=I.lstM hH
 refine call_meets F.slot_list_append ⟨_,e,rfl⟩ F.entry_list_append (F.args_list_append_2 _ _) (PySem.list_append l its.toArray n u (by rw [AX];omega)) ⟨e,?_⟩
 refine ⟨.non,_,I.lset (its':=its++[u]) hH e (by simp) (r.append (.cons ru .nil)) ?_,rfl,q⟩
 rw [AG,BR]
 omega
def Aqa:R2:=fun x y H Q=>∃l b xs zs,x=.ref l∧y=.ref b∧H l=some (.lst xs)∧H b=some (.lst zs)∧xs.length+zs.length≤sizeLine∧∀p,H p=none→Q (.ref p) (upd H p (.lst (xs++zs)))
theorem Afx:Dh X (binaryOp .Add) Aqa:=by
 intro pins s σ H x y v u Q I rx ry h
 obtain ⟨l,b,xs,zs,rfl,rfl,hH,hB,hz,q⟩:=h
 cases rx
 cases ry
 obtain ⟨z,its,n,r,hl,e⟩:=I.lstM hH
 obtain ⟨z2,its2,n2,r2,hl2,e2⟩:=I.lstM hB
 refine PySem.P.add_list e e2 ?_ (by rw [AX,AX];omega)
 have ea:its.toArray++its2.toArray=(its++its2).toArray:=by simp
 rw [ea]
 exact ⟨.ref _,_,I.lnew (t':=s.toks) (r.append r2) (by rw [AG];omega),rfl,q _ I.fresh⟩
end
end L2
namespace Att
open PySem PySem.W PySem.Calls PyProof.Rows
theorem Nr {P:Params}{h:Heap}:∀(ns:IH) (vs:II),WellAll P h vs (ns.map WData.int)→IntsAre vs ns:=by
 intro ns
 induction ns with
 |nil=>
  intro vs w
  rw [List.map_nil] at w
  cases w
  exact .nil
 | cons n ns ih=>
  intro vs w
  rw [BW] at w
  cases w with
  |cons a b=>
   cases a
   exact .cons _ _ (ih _ b)
theorem script_of {l:OpenLaw}{n:Nat}(hn:l.most=some n){P:Params}{h:Heap}{args:List WData}{vals:II}
  (hpre:l.row.toRowW.claim.pre args=true) (hwl:WellAll P h vals args) :
  ∃a vs ns,vals=[Value.ref a]∧args=[WData.list (ns.map WData.int)]∧h.get? a=some { cls:=.type "list",data:=.seq vs.toArray }∧IntsAre vs ns∧ns.length≤n:=by
 have hsh:WShape.hasAll [] args [.list .int]=true:=(pre_splitW hpre).1
 have hc:l.pre.holds [] { args:=args }=true:=(pre_splitW hpre).2
 obtain ⟨d,r,rfl,h1,h2⟩:=hasAllW_cons hsh
 obtain rfl:=hasAllW_nil h2
 obtain ⟨xs,rfl,h3⟩:=hasW_list h1
 obtain ⟨ns,rfl⟩:=items_int h3
 have hlen:ns.length≤n:=by
  unfold OpenLaw.pre at hc
  have h4:(WTm.not (.lt (.lit (.int (n:Int))) (.len (.arg 0)))).holds [] { args:=[.list (ns.map .int)] }=true:=by
   have h4:=(holds_andW hc).1
   rw [hn] at h4
   exact h4
  have h5:=condW_of h4 (w_not (w_lt w_lit (w_len_list (w_arg rfl))))
  rw [AE] at h5
  refine EG fun q=>?_
  have q':(n:Int)<((ns.length:Nat):Int):=by omega
  first
   |(rw [AR q'] at h5;exact absurd h5 (by decide))
   |(simp at h5;omega)
 cases hwl with
 |cons w1 w2=>
  cases w2
  cases w1 with
  |list ho hall=>exact ⟨_,_,ns,rfl,rfl,ho,Nr ns _ hall,hlen⟩
theorem post_true (l:OpenLaw)(args:List WData):l.row.toRowW.claim.post args (.bool true) args=true:=
 postW_of (r:=l.row.toRowW) (X:=(true==true))
  (show WShape.has [] (.bool true) .bool=true by first|rfl|decide|simp [WShape.has,WShape.arms,WShape.armsAll])
  (show (WTm.eq .res (.lit (.bool true))).value [] { args:=args,res:=some (.bool true),after:=args }=some (.bool (true==true)) from w_eq_bool (w_res rfl) w_lit) rfl
section
variable {prog:IE}{w:IF}{A:ID}{E:IA→IB→Prop}{s:IB}{K:Frag}
def Apv (h:Heap)(L d:IC):List (IC×Obj):=(List.range h.objs.size).filterMap fun a=>if a=L∨a=d then none else (h.get? a).map fun o=>(a,o)
end
end Att
namespace L2
open PySem PySem.Spec PyProof.Rows
theorem R5:∀{vs:II} {ns:IH},IntsAre vs ns→A6 (ns.map V.int) vs
 |_,_,.nil=>.nil
 |_,_,.cons n t h=>.cons ⟨t,rfl⟩ (R5 h)
end L2
namespace L2
open PySem PySem.Spec PyProof.Rows
end L2
/- THE LAST THEOREM (shape;LID,My.* are yours):
   My.Adr: a structure of the addresses that your layer names (classes,functions);My.Txt K t: a structure (Prop) of the equations over K;
   My.txt_mk:{K} {implicit addresses ..} (e1:nsIn K mainGlobals "law"=some (some (.ref f))) (e2:K.lookup f=some ⟨oc,od,.func (fnOf "law" "law" params body scope dV kV doc pm an cdv ct),sl⟩) (e3:codeIn K cdv "law"=true) ..:∃t,My.Txt K t
set_option maxRecDepth 100000 in
set_option maxHeartbeats 0 in
(the tactic k_is has no namespace: write k_is) -/
namespace L2
open PySem PySem.Spec PyProof.Rows
def Ho (s:Stmt)(j:Nat):Stmt:=match s with
 |.ClassDef _ _ _ body _ _ _ _ _ _ _=>body.getD j (.Pass ⟨0,0,0,0⟩)
 |_=>.Pass ⟨0,0,0,0⟩
def Dm (s:Stmt):Arguments:=match s with
 |.FunctionDef _ a _ _ _ _ _ _ _ _=>a
 |_=>{ posonlyargs:=[],args:=[],vararg:=none,kwonlyargs:=[],kw_defaults:=[],kwarg:=none,defaults:=[] }
def Cd (s:Stmt):List Stmt:=match s with
 |.FunctionDef _ _ b _ _ _ _ _ _ _=>b
 |_=>[]
def Ad (s:Stmt):Scope:=match s with
 |.FunctionDef _ _ _ _ _ _ sc _ _ _=>sc
 |_=>{ kind:=.function,names:=[],isGenerator:=false,isCoroutine:=false }
abbrev E0:XK:=fun _ _ _=>False
structure Fun (K:KKf)(x qual:Str)(st:Stmt)(f:IC)(fd:FuncData):Prop where
 ex:∃(oc:IA) (od:Option IC) (kV doc pm:IA) (an:Option IC) (cdv ct:IA) (osl:Array (IK)),
  fd=PySem.W.fnOf x qual (Dm st) (Cd st) (Ad st) .none kV doc pm an cdv ct∧K.lookup f=some ⟨oc,od,.func fd,osl⟩∧PySem.W.codeIn K cdv qual=true
 kp:PySem.W.keepIn K (.ref f)=true
section
variable {P:IE}{w:IF}{K:KKf}{mg:Str→IK}{base:Heap}
theorem Fun.binds {x qual:Str}{st:Stmt}{f:IC}{fd:FuncData}{ps:IG}(F:Fun K x qual st f fd)
  (h:∀(kV doc pm:IA) (an:Option IC) (cdv ct:IA) (us:II),us.length=ps.length→bindArgs (PySem.W.fnOf x qual (Dm st) (Cd st) (Ad st) .none kV doc pm an cdv ct) ⟨us,[]⟩=pure (ps.zip us)):Er K fd ps []:=by
 obtain ⟨oc,od,kV,doc,pm,an,cdv,ct,osl,rfl,lk,hcd⟩:=F.ex
 exact .all (h kV doc pm an cdv ct)
theorem Mh {x qual:Str}{st:Stmt}{f:IC}{oc:IA}{od an:Option IC}{osl:Array (IK)}{kV doc pm cdv ct:IA}(l:K.lookup f=some ⟨oc,od,.func (PySem.W.fnOf x qual (Dm st) (Cd st) (Ad st) .none kV doc pm an cdv ct),osl⟩)
  (c:PySem.W.codeIn K cdv qual=true) (k:PySem.W.keepIn K (.ref f)=true):Fun K x qual st f (PySem.W.fnOf x qual (Dm st) (Cd st) (Ad st) .none kV doc pm an cdv ct):=⟨⟨oc,od,kV,doc,pm,an,cdv,ct,osl,rfl,l,c⟩,k⟩
end
def Aj (H H':Hp):Prop:=∀b o,H b=some o→H' b=some o
theorem Aj.refl (H:Hp):Aj H H:=fun _ _ h=>h
theorem Aj.trans {H H1 H2:Hp}(a:Aj H H1)(b:Aj H1 H2):Aj H H2:=fun c o h=>b c o (a c o h)
theorem Aj.seq {K:KKf}{H H':Hp}{a:IC}{xs:IP}(e:Aj H H')(h:Au K H a xs):Au K H' a xs:=by
 rcases h with (h|⟨o,h⟩)|h
 ·exact .inl (.inl (e _ _ h))
 ·exact .inl (.inr ⟨o,e _ _ h⟩)
 ·exact .inr h
end L2
section
namespace L2
open PySem PySem.Spec PyProof.Rows
section
variable {κ:Type}[DecidableEq κ]
def B4 (kvs:List (κ×V))(k:κ):Option V:=(kvs.find? fun kv=>decide (kv.1=k)).map (·.2)
def Eo (kvs:List (κ×V))(k:κ)(v:V):List (κ×V):=
 if (kvs.any fun kv=>decide (kv.1=k))=true then kvs.map (fun kv=>if kv.1=k then (kv.1,v) else kv) else kvs++[(k,v)]
theorem Ct {p:κ×V}{r:List (κ×V)}{k:κ}(e:p.1=k):B4 (p::r) k=some p.2:=by simp [B4,FR,e]
theorem Cn {p:κ×V}{r:List (κ×V)}{k:κ}(e:¬p.1=k):B4 (p::r) k=B4 r k:=by simp [B4,FR,e]
theorem Gs (k:κ):∀kvs:List (κ×V),(kvs.any fun kv=>decide (kv.1=k))=(B4 kvs k).isSome
 |[]=>rfl
 |p::r=>by
  rw [GJ]
  by_cases e:p.1=k
  ·simp only [Ct e,AR e,Bool.true_or,Option.isSome_some]
  ·rw [Cn e,BF e,Bool.false_or];exact Gs k r
theorem Vz (k j:κ)(y:V):∀kvs:List (κ×V),B4 (kvs.map fun kv=>if kv.1=k then (kv.1,y) else kv) j=(B4 kvs j).map fun x=>if j=k then y else x
 |[]=>rfl
 | p::r=>by
  have ih:=Vz k j y r
  rw [BW]
  by_cases h:p.1=k
  ·rw [AZ h]
   by_cases e:p.1=j
   ·rw [Ct (p:=(p.1,y)) e,Ct e,HS,AZ (e.symm.trans h)]
   ·rw [Cn (p:=(p.1,y)) e,Cn e,ih]
  ·rw [AW h]
   by_cases e:p.1=j
   ·rw [Ct (p:=p) e,Ct e,HS,AW (fun z=>h (e.trans z))]
   ·rw [Cn (p:=p) e,Cn e,ih]
theorem Ro (k j:κ)(y:V):∀kvs:List (κ×V),B4 kvs k=none→B4 (kvs++[(k,y)]) j=if j=k then some y else B4 kvs j
 |[],_=>by
  by_cases e:k=j
  ·rw [AZ e.symm];exact Ct (p:=(k,y)) e
  ·rw [AW (fun z=>e z.symm)];exact Cn (p:=(k,y)) e
 |p::r,hn=>by
  rw [List.cons_append]
  have hk:¬p.1=k:=fun z=>by rw [Ct z] at hn;cases hn
  rw [Cn hk] at hn
  have ih:=Ro k j y r hn
  by_cases e:p.1=j
  ·rw [Ct e,Ct e,AW (fun z=>hk (e.trans z))]
  ·rw [Cn e,Cn e,ih]
theorem Vp (kvs:List (κ×V))(k j:κ)(y:V):B4 (Eo kvs k y) j=if j=k then some y else B4 kvs j:=by
 unfold Eo
 by_cases a:(kvs.any fun kv=>decide (kv.1=k))=true
 ·rw [AZ a,Vz]
  rw [Gs] at a
  by_cases e:j=k
  ·obtain ⟨x,hx⟩:=FC.mp a
   rw [AZ e,e,hx,HS,AZ rfl]
  ·rw [AW e]
   cases B4 kvs j with
   |none=>rfl
   |some x=>rw [HS,AW e]
 ·rw [AW a]
  refine Ro k j y kvs ?_
  rw [Gs] at a
  cases q:B4 kvs k with
  |none=>rfl
  |some x=>rw [q] at a;exact (a rfl).elim
theorem Ig (kvs:List (κ×V))(k:κ)(v:V):(Eo kvs k v).length≤kvs.length+1:=by
 unfold Eo
 split
 ·rw [AE];omega
 ·rw [AG,BN,List.length_nil];omega
theorem U1 {kvs:List (κ×V)}{k:κ}(v:V)(h:B4 kvs k=none):Eo kvs k v=kvs++[(k,v)]:=by
 unfold Eo
 rw [Gs,h]
 exact AW (by decide)
theorem G9.isSome_eq {o:Option V}{u:IK}(r:G9 o u):o.isSome=u.isSome:=by
 cases o with
 |none=>cases u with
  |none=>rfl
  |some _=>exact (show False from r).elim
 |some _=>cases u with
  |none=>exact (show False from r).elim
  |some _=>rfl
theorem G9.getD {o:Option V}{u:IK}{d:V}{d':IA}(r:G9 o u)(rd:RelV d d'):RelV (o.getD d) (u.getD d'):=by
 cases o with
 |none=>cases u with
  |none=>exact rd
  |some _=>exact (show False from r).elim
 |some _=>cases u with
  |none=>exact (show False from r).elim
  |some _=>exact r
theorem KV.val {kvs:List (κ×V)}{vs:List (κ×IA)}(r:KV kvs vs)(k:κ):G9 (B4 kvs k) (valueAt vs k):=by
 unfold KV at r
 induction r with
 |nil=>exact ⟨⟩
 | @cons p q ps qs h t ih=>
  obtain ⟨h1,h2⟩:=h
  by_cases e:p.1=k
  ·have e':q.1=k:=h1.symm.trans e
   have b:valueAt (q::qs) k=some q.2:=by simp [valueAt,FR,e']
   rw [Ct e,b];exact h2
  ·have e':¬q.1=k:=fun z=>e (h1.trans z)
   have b:valueAt (q::qs) k=valueAt qs k:=by simp [valueAt,FR,e']
   rw [Cn e,b];exact ih
theorem KV.any {kvs:List (κ×V)}{vs:List (κ×IA)}(r:KV kvs vs)(k:κ):(kvs.any fun kv=>decide (kv.1=k))=vs.any fun kv=>decide (kv.1=k):=by
 unfold KV at r
 induction r with
 |nil=>rfl
 |cons h t ih=>rw [GJ,GJ,ih,h.1]
theorem KV.repl {kvs:List (κ×V)}{vs:List (κ×IA)}(r:KV kvs vs)(k:κ){y:V}{u:IA}(ry:RelV y u) :
  KV (kvs.map fun kv=>if kv.1=k then (kv.1,y) else kv) (vs.map fun kv=>if kv.1=k then (kv.1,u) else kv):=by
 unfold KV at r ⊢
 induction r with
 |nil=>exact .nil
 |@cons p q ps qs h t ih=>
  rw [BW,BW]
  refine .cons ?_ ih
  obtain ⟨h1,h2⟩:=h
  by_cases e:p.1=k
  ·rw [AZ e,AZ (h1.symm.trans e)];exact ⟨h1,ry⟩
  ·rw [AW e,AW (fun z=>e (h1.trans z))];exact ⟨h1,h2⟩
theorem KV.put {kvs:List (κ×V)}{vs:List (κ×IA)}(r:KV kvs vs)(k:κ){y:V}{u:IA}(ry:RelV y u):KV (Eo kvs k y) (stored vs k u):=by
 unfold Eo stored
 rw [r.any k]
 by_cases e:(vs.any fun kv=>decide (kv.1=k))=true
 ·rw [AZ e,AZ e];exact r.repl k ry
 ·rw [AW e,AW e];exact Paired.snoc r ⟨rfl,ry⟩
theorem KV.keys {kvs:List (κ×V)}{vs:List (κ×IA)}(r:KV kvs vs):kvs.map (·.1)=vs.map (·.1):=by
 unfold KV at r
 induction r with
 |nil=>rfl
 |cons h t ih=>rw [BW,BW,ih,h.1]
theorem KV.length {kvs:List (κ×V)}{vs:List (κ×IA)}(r:KV kvs vs):kvs.length=vs.length:=Paired.length r
end
theorem Li {P:IE}{w:IF}{k:Bg}{u:IA}(r:RelV (kV k) u):(A5 P w).is k u=true:=by
 cases k with
 |inl i=>obtain ⟨t,e⟩:=(show ∃t,u=Value.int i t from r);subst e;exact U0 P w i t
 |inr x=>obtain ⟨t,e⟩:=(show ∃t,u=Value.str x t from r);subst e;exact Jg P w x t
theorem Rv {P:IE}{w:IF}:∀{ks:List Bg} {us:II},A6 (ks.map kV) us→ItemsAre (A5 P w) ks us
 |[],_,r=>by rw [List.map_nil] at r;cases r;exact .nil
 |k::ks,_,r=>by
  rw [BW] at r
  cases r with
  |cons h t=>exact .cons (Li h) (Rv t)
abbrev KT (H:Hp):List (List Bg×V)→List (List Bg×IC×IA)→Prop:=Paired fun p q=>p.1=q.1∧H q.2.1=some (.tup (p.1.map kV))∧RelV p.2 q.2.2
theorem KT.val {H:Hp}{kvs:List (List Bg×V)}{xs:List (List Bg×IC×IA)}(r:KT H kvs xs)(k:List Bg):G9 (B4 kvs k) ((atKey xs k).map (·.2)):=by
 induction r with
 |nil=>exact ⟨⟩
 | @cons p q ps qs h t ih=>
  obtain ⟨h1,_,h2⟩:=h
  by_cases e:p.1=k
  ·have e':q.1=k:=h1.symm.trans e
   have b:atKey (q::qs) k=some q.2:=by simp [atKey,FR,e']
   rw [Ct e,b];exact h2
  ·have e':¬q.1=k:=fun z=>e (h1.trans z)
   have b:atKey (q::qs) k=atKey qs k:=by simp [atKey,FR,e']
   rw [Cn e,b];exact ih
theorem KT.repl {H:Hp}{kvs:List (List Bg×V)}{xs:List (List Bg×IC×IA)}(r:KT H kvs xs)(k:List Bg){y:V}{u:IA}(ry:RelV y u) :
  KT H (kvs.map fun kv=>if kv.1=k then (kv.1,y) else kv) (xs.map (putAt k u)):=by
 induction r with
 |nil=>exact .nil
 |@cons p q ps qs h t ih=>
  rw [BW,BW]
  refine .cons ?_ ih
  obtain ⟨h1,h2,h3⟩:=h
  unfold putAt
  by_cases e:p.1=k
  ·rw [AZ e,AZ (h1.symm.trans e)];exact ⟨h1,h2,ry⟩
  ·rw [AW e,AW (fun z=>e (h1.trans z))];exact ⟨h1,h2,h3⟩
theorem KT.put {H:Hp}{kvs:List (List Bg×V)}{xs:List (List Bg×IC×IA)}(r:KT H kvs xs)(k:List Bg){b:IC}{y:V}{u:IA}(hb:H b=some (.tup (k.map kV)))(ry:RelV y u) :
  KT H (Eo kvs k y) (storedH xs k b u):=by
 have e:(kvs.any fun kv=>decide (kv.1=k))=(atKey xs k).isSome:=by
  rw [Gs,(r.val k).isSome_eq,Option.isSome_map]
 unfold Eo storedH
 rw [e]
 by_cases q:(atKey xs k).isSome=true
 ·rw [AZ q,AZ q];exact r.repl k ry
 ·rw [AW q,AW q];exact Paired.snoc r ⟨rfl,hb,ry⟩
theorem KT.keeps {H H':Hp}{kvs:List (List Bg×V)}{xs:List (List Bg×IC×IA)}(r:KT H kvs xs)(ht:∀b ys,H b=some (.tup ys)→H' b=some (.tup ys)):KT H' kvs xs:=
 Paired.mapP r fun _ _ z=>⟨z.1,ht _ _ z.2.1,z.2.2⟩
section
variable {P:IE}{w:IF}{H:Hp}{h:Heap}{a:IC}
theorem Aii {u:HO}(ok:Kf P w H h)(e:Rd H a u):Bj P w H h a u:=e.ok ok
theorem O3 {kvs:List (Bg×V)}(ok:Kf P w H h)(e:Rd H a (.dK kvs)):kvs.length≤sizeLine∧(a==sysModules)=false∧∃vs,KV kvs vs∧h.DictOf (A5 P w) a vs:=
 show Bj P w H h a (.dK kvs) from Aii ok e
theorem Z2 {kvs:List (Bg×V)}(ok:Kf P w H h)(e:H a=some (.dK kvs)):kvs.length≤sizeLine∧(a==sysModules)=false∧∃vs,KV kvs vs∧h.DictOf (A5 P w) a vs:=O3 ok (.inl e)
theorem P9 {ks:List Bg}(ok:Kf P w H h)(e:H a=some (.tup (ks.map kV))):(tupleKind (A5 P w)).is h ks a:=by
 obtain ⟨_,its,r,o,h1,h2,n,h3⟩:=(show Bj P w H h a (.tup (ks.map kV)) from ok a _ e)
 exact ⟨o,its.toArray,n,h1,h2,h3,by simpa using Rv r⟩
theorem Rq {kvs:List (List Bg×V)}(ok:Kf P w H h)(e:Rd H a (.dT kvs)):kvs.length≤sizeLine∧(a==sysModules)=false ∧
  ∃xs,KT H kvs xs∧h.DictOfH (tupleKind (A5 P w)) a xs:=by
 obtain ⟨z,y,xs,r,o,es,ep,h1,h2,h3,h4,h5⟩:=(show Bj P w H h a (.dT kvs) from Aii ok e)
 refine ⟨z,y,xs,r,o,es,ep,h1,h2,h3,h4,fun x hx=>?_,h5⟩
 have all:∀{l:List (List Bg×V)} {m:List (List Bg×IC×IA)},KT H l m→∀x∈m,(tupleKind (A5 P w)).is h x.1 x.2.1:=by
  intro l m q
  induction q with
  |nil=>intro x hx;exact nomatch hx
  | @cons p q ps qs hq t ih=>
   intro x hx
   rcases AS.mp hx with e|hx
   ·subst e
    exact P9 ok (by rw [←hq.1];exact hq.2.1)
   ·exact ih x hx
 exact all r x hx
theorem Amh {kvs:List (List Bg×V)}(ok:Kf P w H h)(e:H a=some (.dT kvs)):kvs.length≤sizeLine∧(a==sysModules)=false ∧
  ∃xs,KT H kvs xs∧h.DictOfH (tupleKind (A5 P w)) a xs:=Rq ok (.inl e)
end
def Fy (H:Hp)(a:IC)(y:V)(r:Option V):Prop:=
 (∃kvs k,Rd H a (.dK kvs)∧y=kV k∧r=B4 kvs k)∨∃kvs k b,Rd H a (.dT kvs)∧y=.ref b∧H b=some (.tup (k.map kV))∧r=B4 kvs k
def Vt (H:Hp)(a:IC)(y v:V)(H':Hp):Prop:=
 (∃kvs k,H a=some (.dK kvs)∧y=kV k∧kvs.length<sizeLine∧H'=upd H a (.dK (Eo kvs k v))) ∨
 ∃kvs k b,H a=some (.dT kvs)∧y=.ref b∧H b=some (.tup (k.map kV))∧kvs.length<sizeLine∧H'=upd H a (.dT (Eo kvs k v))
theorem Fy.k {H:Hp}{a:IC}{kvs:List (Bg×V)}{k:Bg}(e:H a=some (.dK kvs)):Fy H a (kV k) (B4 kvs k):=.inl ⟨kvs,k,.inl e,rfl,rfl⟩
theorem Vt.k {H:Hp}{a:IC}{kvs:List (Bg×V)}{k:Bg}{v:V}(e:H a=some (.dK kvs))(hl:kvs.length<sizeLine):Vt H a (kV k) v (upd H a (.dK (Eo kvs k v))):=.inl ⟨kvs,k,e,rfl,hl,rfl⟩
section
variable {X:Cx}{pins:List (IC×Obj)}{σ:St}{H:Hp}{s:IB}{a:IC}{y v:V}{u r:IA}{o:Option V}{A:ID}{E:IA→IB→Prop}
theorem Aw.big (I:Aw X pins σ H s):sysModules<s.heap.objs.size:=by
 have h:mainGlobals<s.heap.objs.size:=(I.mod.glob.keeps I.bk).lt
 exact Nat.lt_trans (by decide) h
theorem Abo {Q:IA→IB→Prop}(hu:A.units+1<cLine)(I:Aw X pins σ H s)(g:Fy H a y (some v))(ry:RelV y u)(h:∀w' s',Aw X pins σ H s'→RelV v w'→Q w' s') :
  wpAny (model X.prog X.w) A (getItem (.ref a) u) Q E s:=by
 rcases g with ⟨kvs,k,e,ey,l⟩|⟨kvs,k,b,e,ey,eb,l⟩
 ·subst ey
  obtain ⟨z,hd,vs,rel,dd⟩:=O3 I.hok e
  obtain ⟨w',hw,rw'⟩:=G9.some_of (v:=v) (o:=valueAt vs k) (by rw [l];exact rel.val k)
  exact wpAny_getItem_of (Li ry) dd.mapOf hw (h w' _ (I.tok _) rw')
 ·subst ey
  cases (show u=Value.ref b from ry)
  obtain ⟨z,hd,xs,rel,dd⟩:=Rq I.hok e
  obtain ⟨w',hw,rw'⟩:=G9.some_of (v:=v) (o:=(atKey xs k).map (·.2)) (by rw [l];exact rel.val k)
  obtain ⟨p,hp,hp2⟩:=Option.map_eq_some_iff.mp hw
  refine wpAny_getItem_heap (GV hu) (P9 I.hok eb) dd hp ?_
  rw [hp2]
  exact h w' _ (I.tok _) rw'
theorem Agv {Q:IA→IB→Prop}(hu:A.units+1<cLine)(I:Aw X pins σ H s)(g:Fy H a y o)(ry:RelV y u)(h:∀s',Aw X pins σ H s'→Q (.bool (!o.isSome)) s') :
  wpAny (model X.prog X.w) A (compareOp .NotIn u (.ref a)) Q E s:=by
 rcases g with ⟨kvs,k,e,ey,l⟩|⟨kvs,k,b,e,ey,eb,l⟩
 ·subst ey
  obtain ⟨z,hd,vs,rel,dd⟩:=O3 I.hok e
  refine wpAny_notIn_of (Li ry) hd dd.mapOf ?_
  rw [←(rel.val k).isSome_eq,←l]
  exact h _ (I.tok _)
 ·subst ey
  cases (show u=Value.ref b from ry)
  obtain ⟨z,hd,xs,rel,dd⟩:=Rq I.hok e
  refine wpAny_notIn_heap (GV hu) (P9 I.hok eb) hd dd ?_
  have q:=(rel.val k).isSome_eq
  rw [Option.isSome_map] at q
  rw [←q,←l]
  exact h _ (I.tok _)
theorem Sj {h':Heap}{t':Nat}{ob:HO}(I:Aw X pins σ H s)(mu:Mut (H a))(hs:Heap.SameBut a s.heap h')(he:∃q,h'.get? a=some q)(new:Bj X.prog X.w (upd H a ob) h' a ob) :
  Aw X pins σ (upd H a ob) { s with heap:=h',toks:=t' } :=
 I.write (x:=a) (e:=a) mu (.inl rfl) (fun b q hb z=>(hs.2 b hb).trans z) he new
theorem Ae3 {P:IE}{w:IF}{H':Hp}{h':Heap}{kvs:List (Bg×V)}{vs:List (Bg×IA)}(z:kvs.length≤sizeLine)(hd:(a==sysModules)=false)(rel:KV kvs vs)(dd:h'.DictOf (A5 P w) a vs) :
  Bj P w H' h' a (.dK kvs):=⟨z,hd,vs,rel,dd⟩
theorem Aan {H':Hp}{Q:Unit→IB→Prop}(hu:A.units+1<cLine)(I:Aw X pins σ H s)(g:Vt H a y v H')(ry:RelV y u)(rv:RelV v r)(h:∀s',Aw X pins σ H' s'→Q () s') :
  wpAny (model X.prog X.w) A (setItem (.ref a) u r) Q E s:=by
 rcases g with ⟨kvs,k,e,ey,l,eH⟩|⟨kvs,k,b,e,ey,eb,l,eH⟩
 ·subst ey eH
  obtain ⟨z,hd,vs,rel,dd⟩:=Z2 I.hok e
  have hz:vs.length≤sizeLine:=by rw [←rel.length];exact z
  have hl:(Eo kvs k v).length≤sizeLine:=by have:=Ig kvs k v;omega
  refine wpAny_setItem_pairs (hsz:=hz) (Li ry) dd fun h' dd' hs=>h _ ?_
  have he:∃q,h'.get? a=some q:=let ⟨q,_,_,hq,_⟩:=dd';⟨q,hq⟩
  exact Sj I (by rw [e];exact ⟨⟩) hs he (Ae3 hl hd (rel.put k rv) dd')
 ·subst ey eH
  cases (show u=Value.ref b from ry)
  obtain ⟨z,hd,xs,rel,dd⟩:=Amh I.hok e
  have hz:xs.length≤sizeLine:=by rw [←Paired.length rel];exact z
  have hl:(Eo kvs k v).length≤sizeLine:=by have:=Ig kvs k v;omega
  refine wpAny_setItem_heap (hsz:=hz) (GV hu) (P9 I.hok eb) dd fun h' dd' hs=>h _ ?_
  obtain ⟨q,es,ep,hq,h2,h3,h4,_,h5⟩:=dd'
  refine Sj I (by rw [e];exact ⟨⟩) hs ⟨q,hq⟩ ⟨hl,hd,_,(rel.put k eb rv).keeps fun c ys ec=>?_,q,es,ep,hq,h2,h3,h4,h5⟩
  rw [Am (Aon ec e (fun z=>nomatch z))]
  exact ec
end
def Alx (i:Expr):Prop:=∀ov iv,subscripted i false ov iv=operate [ov,iv] (getItem ov iv)
theorem Z7 {prog:IE}{w:IF}{A:ID}{E:IA→IB→Prop}{s:IB}{env:Env}{value slice:Expr}{pos:Pos}{T id:String}{Q:IA→IB→Prop}
  (hl:typeLookup (.type T) "__getitem__"=pure (some (.builtin id))) (hs:Alx slice)
  (h:wpAny (model prog w) A (eval value env) (fun o s₁=>wpAny (model prog w) A (eval slice env) (fun i s₂=>s₂.TypeIs o T∧wpAny (model prog w) A (getItem o i) Q E s₂) E s₁) E s) :
  wpAny (model prog w) A (eval (.Subscript value slice pos) env) Q E s:=by
 refine Subscript_ (CK h (fun o s₁ h₁=>CK h₁ (fun i s₂ h₂=>?_) fun _ _ x=>x) fun _ _ x=>x)
 obtain ⟨hT,h₂⟩:=h₂
 unfold subscriptTail
 refine AA ?_
 rw [getitemInPython_of_ne hT.not_modules]
 refine AA (wpAny_specialOf hT hl ?_)
 have fin:wpAny (model prog w) A (subscripted slice false o i) (fun r s₃=>wpAny (model prog w) A (letTemporaryGo value o r >>= fun _=>pure r) Q E s₃) E s₂:=by
  rw [hs o i]
  exact wpAny_operating (CK h₂ (fun r s₃ h₃=>AA (wpAny_letTemporaryGo (AC h₃))) fun _ _ x=>x)
 first
  |exact AC (AA fin)
  |exact AA (AC (AA fin))
  |exact AA fin
theorem Vb {X:Cx}{pins:List (IC×Obj)}{σ:St}{H:Hp}{s:IB}{a:IC}{y:V}{o:Option V}(I:Aw X pins σ H s)(g:Fy H a y o):s.TypeIs (.ref a) "dict":=by
 rcases g with ⟨kvs,k,e,_,_⟩|⟨kvs,k,b,e,_,_,_⟩
 ·obtain ⟨_,_,vs,_,dd⟩:=O3 I.hok e
  exact dd.typeIs
 ·obtain ⟨_,_,xs,_,dd⟩:=Rq I.hok e
  exact dd.typeIs
def Anc (td ty:TE):TE:=fun σ H Q=>td σ H fun x H1=>ty σ H1 fun y H2=>∃a v,x=.ref a∧Fy H2 a y (some v)∧Q v H2
def Yu (ty td:TE):TE:=fun σ H Q=>ty σ H fun y H1=>td σ H1 fun x H2=>∃a o,x=.ref a∧Fy H2 a y o∧Q (.bl (!o.isSome)) H2
def Anb (td ty tv:TE):TS:=fun D σ H=>tv σ H fun v H1=>td σ H1 fun x H2=>ty σ H2 fun y H3=>∃a H4,x=.ref a∧Vt H3 a y v H4∧D.nx σ H4
section
variable {X:Cx}{o i e value:Expr}{pos pos' tpos:Pos}{td ty tv:TE}
theorem Ec (hu:X.A.units+1<cLine)(ho:PE X o td)(hi:PE X i ty)(hs:Alx i):PE X (.Subscript o i pos) (Anc td ty):=by
 intro pins s σ H Q I h
 refine Z7 PySem.F.slot_dict_getitem.lookup hs (Bo (ho pins s σ H _ I h) fun u s1 ⟨x,H1,I1,rx,q1⟩=>Bo (hi pins s1 σ H1 _ I1 q1) fun iv s2 ⟨y,H2,I2,ry,a,v,ex,g,q2⟩=>?_)
 subst ex
 obtain rfl:u=Value.ref a:=rx
 exact ⟨Vb I2 g,Abo hu I2 g ry fun w' s3 I3 rw'=>⟨v,H2,I3,rw',q2⟩⟩
theorem Aaq (hu:X.A.units+1<cLine)(hi:PE X i ty)(ho:PE X o td):PC X .NotIn i o (Yu ty td):=by
 intro pins s σ H Q I h
 refine Bo (hi pins s σ H _ I h) fun iv s1 ⟨y,H1,I1,ry,q1⟩=>Bo (ho pins s1 σ H1 _ I1 q1) fun u s2 ⟨x,H2,I2,rx,a,ov,ex,g,q2⟩=>?_
 subst ex
 obtain rfl:u=Value.ref a:=rx
 exact Agv hu I2 g ry fun s3 I3=>⟨.bl (!ov.isSome),H2,I3,rfl,q2⟩
theorem N7 (hu:X.A.units+1<cLine)(ho:PE X o td)(hi:PE X i ty)(hv:PE X value tv)(hs:swapsWith value (some (.Subscript o i pos')) pos.line X.env=pure false) :
  PS X (.Assign [.Subscript o i pos'] value pos) (Anb td ty tv):=by
 intro pins s σ H D I h
 refine wpAny_Assign_Subscript (Bo (hv pins s σ H _ I h) fun r s1 ⟨v,H1,I1,rv,q1⟩=>Bo (ho pins s1 σ H1 _ I1 q1) fun u s2 ⟨x,H2,I2,rx,q2⟩=>Bo (hi pins s2 σ H2 _ I2 q2) fun iv s3 ⟨y,H3,I3,ry,a,H4,ex,g,q3⟩=>?_) hs
 subst ex
 obtain rfl:u=Value.ref a:=rx
 exact Aan hu I3 g ry rv fun s4 I4=>⟨σ,H4,I4,q3⟩
end
theorem Vx {P:IE}{w:IF}{H:Hp}(h:Heap)(hb:sysModules<h.objs.size):Bj P w H (h.push { cls:=.type "dict",data:=.dict #[] }) h.objs.size (.dK []):=
 ⟨BK _,DV.mpr (DI (BC hb)),[],.nil,Heap.DictOf.new h⟩
def Akv:TE:=fun _ H Q=>∀p,H p=none→Q (.ref p) (upd H p (.dK []))
section
variable {X:Cx}{pos:Pos}
theorem Lq:PE X (.Dict [] [] pos) Akv:=fun pins s σ H Q I h=>
 wpAny_Dict_empty ⟨.ref s.heap.objs.size,_,I.laid (a:=s.heap.objs.size) (o:=.dK []) (t':=s.toks) (fun _ _ q=>AB _ q) (AF _) (Vx s.heap I.big),rfl,h _ (I.hok.fresh (AF _))⟩
end
def Yi:List (TE×TE)→St→Hp→(List (V×V)→Hp→Prop)→Prop
 |[],_,H,Q=>Q [] H
 |(tk,tv)::r,σ,H,Q=>tk σ H fun x H1=>tv σ H1 fun y H2=>Yi r σ H2 fun ps H3=>Q ((x,y)::ps) H3
abbrev VV:List (V×V)→List (IA×IA)→Prop:=Paired fun p q=>RelV p.1 q.1∧RelV p.2 q.2
def PPs (X:Cx)(pos:Pos)(keys:List (Option Expr))(values:IJ)(trs:List (TE×TE)):Prop:=
 ∀(pins:List (IC×Obj)) (s:IB) (σ:St) (H:Hp) (Q:List (V×V)→Hp→Prop),Aw X pins σ H s→Yi trs σ H Q →
  wpAny (model X.prog X.w) X.A (evalPairs (pairTrees keys values X.env pos)) (fun vs s'=>∃ps H',Aw X pins σ H' s'∧VV ps vs∧Q ps H') X.xe s
theorem Ahy {X:Cx}{pos:Pos}:PPs X pos [] [] []:=fun pins s σ H Q I h=>pairTrees_nil_walk ⟨[],H,I,.nil,h⟩
theorem Afe {X:Cx}{pos:Pos}{k v:Expr}{ks:List (Option Expr)}{vs:IJ}{tk tv:TE}{trs:List (TE×TE)}(hk:PE X k tk)(hv:PE X v tv)(hr:PPs X pos ks vs trs) :
  PPs X pos (some k::ks) (v::vs) ((tk,tv)::trs):=fun pins s σ H Q I h=>
 pairTrees_cons_walk (Bo (hk pins s σ H _ I h) fun u s1 ⟨x,H1,I1,rx,q1⟩=>Bo (hv pins s1 σ H1 _ I1 q1) fun w2 s2 ⟨y,H2,I2,ry,q2⟩=>
  Bo (hr pins s2 σ H2 _ I2 q2) fun ws s3 ⟨ps,H3,I3,rel,q3⟩=>⟨(x,y)::ps,H3,I3,.cons ⟨rx,ry⟩ rel,q3⟩)
def Ma (kvs more:List (Bg×V)):List (Bg×V):=more.foldl (fun acc kv=>Eo acc kv.1 kv.2) kvs
theorem KV.merge:∀{more:List (Bg×V)} {rs:List (Bg×IA)} {kvs:List (Bg×V)} {vs:List (Bg×IA)},KV more rs→KV kvs vs→KV (Ma kvs more) (merged vs rs):=by
 intro more rs kvs vs r
 unfold KV at r
 induction r generalizing kvs vs with
 |nil=>intro q;exact q
 | @cons p q ps qs h t ih=>
  intro r0
  have e:KV (Eo kvs p.1 p.2) (stored vs q.1 q.2):=by
   have:=r0.put p.1 h.2
   rw [←h.1];exact this
  exact ih e
theorem Jt:∀(more kvs:List (Bg×V)),(Ma kvs more).length≤kvs.length+more.length
 |[],kvs=>by show kvs.length≤kvs.length+0;omega
 |p::r,kvs=>by
  have h1:=Jt r (Eo kvs p.1 p.2)
  have h2:=Ig kvs p.1 p.2
  show (Ma (Eo kvs p.1 p.2) r).length≤_
  rw [BN];omega
theorem Pu {P:IE}{w:IF}:∀{kvs:List (Bg×V)} {ws:List (IA×IA)},VV (kvs.map fun kv=>(kV kv.1,kv.2)) ws→∃rs,Carries (A5 P w) ws rs∧KV kvs rs
 |[],_,r=>by rw [List.map_nil] at r;cases r;exact ⟨[],⟨⟩,.nil⟩
 | p::kvs,_,r=>by
  rw [BW] at r
  cases r with
  |@cons a b as bs h t=>
   obtain ⟨rs,c,q⟩:=Pu (P:=P) (w:=w) t
   obtain ⟨b1,b2⟩:=b
   exact ⟨(p.1,b2)::rs,⟨Li h.1,rfl,c⟩,.cons ⟨rfl,h.2⟩ q⟩
def Amo (trs:List (TE×TE)):TE:=fun σ H Q=>∀p,H p=none→Yi trs σ (upd H p (.dK [])) fun ps H2=>H2 p=some (.dK [])∧∃kvs:List (Bg×V),ps=kvs.map (fun kv=>(kV kv.1,kv.2))∧kvs.length≤15∧Q (.ref p) (upd H2 p (.dK (Ma [] kvs)))
theorem Af4 {X:Cx}{pos:Pos}{keys:List (Option Expr)}{values:IJ}{trs:List (TE×TE)}(h:PPs X pos keys values trs)(hall:keys.all (·.isSome)=true)(hl:keys.length=values.length)(h0:keys≠[])
  (h15:keys.length≤15):PE X (.Dict keys values pos) (Amo trs):=by
 intro pins s σ H Q I q
 have hn:=I.hok.fresh (AF s.heap.objs.size)
 have I1:=I.laid (a:=s.heap.objs.size) (o:=.dK []) (h':=s.heap.push { cls:=.type "dict",data:=.dict #[] }) (t':=s.toks) (fun _ _ q=>AB _ q) (AF _) (Vx s.heap I.big)
 refine wpAny_Dict_walk (knd:=A5 X.prog X.w) hall hl h0 h15 (Bo (h pins _ σ _ _ I1 (q _ hn)) fun ws s2 ⟨ps,H2,I2,rel,e,kvs,ep,lk,q2⟩=>?_)
 subst ep
 obtain ⟨rs,c,rk⟩:=Pu (P:=X.prog) (w:=X.w) rel
 obtain ⟨z,hd,vs0,r0,dd⟩:=Z2 I2.hok e
 cases r0
 refine ⟨rs,c,dd,fun h' dd' hs=>⟨.ref s.heap.objs.size,_,?_,rfl,q2⟩⟩
 have hz:(Ma [] kvs).length≤sizeLine:=by
  have h1:=Jt kvs []
  rw [List.length_nil] at h1
  rw [CU];omega
 have he:∃q,h'.get? s.heap.objs.size=some q:=let ⟨q,_,_,hq,_⟩:=dd';⟨q,hq⟩
 exact Sj I2 (by rw [e];exact ⟨⟩) hs he (Ae3 hz hd (rk.merge .nil) dd')
structure M1 (X:Cx)(o:Expr)(m:Str)(apos:Pos)(e:Expr)(cpos:Pos):Prop where
 base:attributeBase o m X.env (eval o X.env)=eval o X.env
 few:((backTo cpos (starEach [e] X.env)).all (fun x=>!x.1)&&(backToKw cpos (keywordEach [] X.env)).all (fun x=>x.1.isSome)
  && decide (([e]:IJ).length+([]:List Keyword).length+(if ([]:List Keyword).isEmpty then 0 else 1)<30))=true
 line:(apos.endLine==cpos.line)=true
 trees:backTo cpos (starEach [e] X.env)=[(false,eval e X.env)]
structure M2 (X:Cx)(o:Expr)(m:Str)(apos:Pos)(e f:Expr)(cpos:Pos):Prop where
 base:attributeBase o m X.env (eval o X.env)=eval o X.env
 few:((backTo cpos (starEach [e,f] X.env)).all (fun x=>!x.1)&&(backToKw cpos (keywordEach [] X.env)).all (fun x=>x.1.isSome)
  && decide (([e,f]:IJ).length+([]:List Keyword).length+(if ([]:List Keyword).isEmpty then 0 else 1)<30))=true
 line:(apos.endLine==cpos.line)=true
 trees:backTo cpos (starEach [e,f] X.env)=[(false,eval e X.env),(false,eval f X.env)]
def IsD (H:Hp)(a:IC):Prop:=(∃kvs,Rd H a (.dK kvs))∨∃kvs,Rd H a (.dT kvs)
theorem Acs {X:Cx}{pins:List (IC×Obj)}{σ:St}{H:Hp}{s:IB}{a:IC}(I:Aw X pins σ H s)(d:IsD H a) :
  s.TypeIs (.ref a) "dict"∧(∀b,Value.ref a=.ref b→∃ob,s.heap.get? b=some ob∧ob.dict=none)∧(a==sysModules)=false:=by
 rcases d with ⟨kvs,e⟩|⟨kvs,e⟩
 ·obtain ⟨_,hd,vs,_,dd⟩:=O3 I.hok e
  refine ⟨dd.typeIs,fun b q=>?_,hd⟩
  cases q
  obtain ⟨ob,_,_,h1,h2,_⟩:=dd
  exact ⟨ob,h1,h2.2.1⟩
 ·obtain ⟨_,hd,xs,_,dd⟩:=Rq I.hok e
  refine ⟨dd.typeIs,fun b q=>?_,hd⟩
  cases q
  obtain ⟨ob,_,_,h1,h2,_⟩:=dd
  exact ⟨ob,h1,h2.2.1⟩
section
variable {X:Cx}{pins:List (IC×Obj)}{σ:St}{H:Hp}{s:IB}{a:IC}{y d:V}{u r:IA}{o:Option V}{A:ID}{E:IA→IB→Prop}
theorem Akn {Q:IA→IB→Prop}(hu:A.units+1<cLine)(I:Aw X pins σ H s)(g:Fy H a y o)(ry:RelV y u)(h:∀w' s',Aw X pins σ H s'→RelV (o.getD .non) w'→Q w' s') :
  wpAny (model X.prog X.w) A (call (.builtin "dict.get") [.ref a,u]) Q E s:=by
 rcases g with ⟨kvs,k,e,ey,l⟩|⟨kvs,k,b,e,ey,eb,l⟩
 ·subst ey
  obtain ⟨z,hd,vs,rel,dd⟩:=O3 I.hok e
  refine call_meetsIn HM dd.typeIs PySem.F.entry_dict_get (PySem.F.args_dict_get_2 _ _) (meets_dict_get (A5 X.prog X.w) a (Li ry) hd) ⟨_,dd.mapOf,h _ _ (I.tok _) ?_⟩
  rw [l]
  exact (rel.val k).getD rfl
 ·subst ey
  cases (show u=Value.ref b from ry)
  obtain ⟨z,hd,xs,rel,dd⟩:=Rq I.hok e
  refine call_meetsIn HM dd.typeIs PySem.F.entry_dict_get (PySem.F.args_dict_get_2 _ _) (meetsH_dict_get (tupleKind (A5 X.prog X.w)) a b hd) ⟨GV hu,k,xs,P9 I.hok eb,dd,h _ _ (I.tok _) ?_⟩
  rw [l]
  exact (rel.val k).getD rfl
end
def Ak1 (td ty:TE):TE:=fun σ H Q=>td σ H fun x H1=>∃a,x=.ref a∧IsD H1 a∧ty σ H1 fun y H2=>∃o,Fy H2 a y o∧Q (o.getD .non) H2
section
variable {X:Cx}{o e f:Expr}{apos cpos:Pos}{td ty tx:TE}
theorem Adp (hu:X.A.units+1<cLine)(ho:PE X o td)(he:PE X e ty)(m:M1 X o "get" apos e cpos):PE X (.Call (.Attribute o "get" apos) [e] [] cpos) (Ak1 td ty):=by
 intro pins s σ H Q I h
 refine wpAny_Call_method m.base m.few m.line PySem.F.plainAttrs_dict HM PySem.F.type_dict_get (Bo (ho pins s σ H _ I h) fun u s1 ⟨x,H1,I1,rx,a,ex,d,q1⟩=>?_)
 subst ex
 obtain rfl:u=Value.ref a:=rx
 obtain ⟨t1,t2,_⟩:=Acs I1 d
 refine ⟨t1,t2,?_⟩
 rw [m.trees]
 refine Calls.callWith_builtin rfl (Calls.evalArgs_plain (FQ (Bo (he pins s1 σ H1 _ I1 q1) fun iv s2 ⟨y,H2,I2,ry,ov,g,q2⟩=>FZ ?_)))
 exact Akn hu I2 g ry fun w' s3 I3 rw'=>⟨_,H2,I3,rw',q2⟩
end
end L2
namespace L2
open PySem PySem.Spec PyProof.Rows
end L2
end
section
set_option autoImplicit false
namespace Lw
open PySem PySem.Spec PyProof.Rows L2
def Amz (e:IC)(d:Option IC)(h:Heap):Prop:=∃o,h.get? e=some o∧o.dict=d
end Lw
end
section
namespace Lw
open PySem PySem.Spec PyProof.Rows L2
structure Fly (P:IE)(w:IF)(outer:List Env)(H:Hp)(s:IB)(H':Hp)(a:IC)(cls:IA)(d:Option IC)(B:Heap)(a0:IA)(s':IB):Prop where
 os:s'.os=s.os
 bare:AllBare s'.gens
 un:Un (Ww outer) [] H H' s.heap s'.heap
 hok:Kf P w H' s'.heap
 fresh:s.heap.get? a=none
 free:H' a=none
 fly:Heap.FlyingW B outer a cls a0 s'.heap
 trk:∀b o,H' b≠none→s'.heap.get? b=some o→B.get? b=some o
 old:∀b o,s.heap.get? b=some o→H b=none→b∉Ww outer→B.get? b=some o
 any:∀b o,s.heap.get? b=some o→b∉Ww outer→∃o',B.get? b=some o'
 dct:Amz a d s'.heap
structure Aqr (X:Cx):Prop where
 stk:X.stack=X.env::X.outer
 fr:X.env.frame=some X.env.locals
 ex:X.ex=[]
def Q0 (P:IE)(w:IF):CXT:=fun outer H s E e s'=>∃a cls d H' B a0,e=.ref a∧Fly P w outer H s H' a cls d B a0 s'∧E cls d H'
theorem An3 {P:IE}{w:IF}{outer:List Env}{H:Hp}{s s':IB}{e:IA}(h:Q0 P w outer H s (fun _ _ _=>False) e s'):False:=by
 obtain ⟨_,_,_,_,_,_,_,_,z⟩:=h
 exact z
theorem Ke {X:Cx}:Ez (Q0 X.prog X.w) X E0:=fun _ _ _ _ _ _ _ h=>(An3 h).elim
end Lw
end
section
namespace Lw
open PySem PySem.Spec PyProof.Rows L2
def Br (b:Bool)(A B:Prop):Prop:=(b=true→A)∧(b=false→B)
theorem Rg (b:Bool)(A B:Prop):Br b A B=(if b=true then A else B):=by
 unfold Br
 cases b<;>simp
def Ajk (i:Nat):TE:=fun σ H Q=>match σ[i]? with
 |some (some v)=>Q v H
 |_=>False
theorem Ahn (i:Nat):Ajk i=Ai5 i:=by
 funext σ H Q
 apply propext
 unfold Ajk Ai5
 cases h:σ[i]? with
 |none=>simp
 |some o=>cases o<;>simp
def dI (C:Int→Int→Prop)(g:Int→Int→V):R2:=fun x y H Q=>match x,y with
 |.int i,.int j=>C i j∧Q (g i j) H
 |_,_=>False
def dI0 (g:Int→Int→V):R2:=fun x y H Q=>match x,y with
 |.int i,.int j=>Q (g i j) H
 |_,_=>False
def dU (g:Int→V):V→Hp→VK→Prop:=fun x H Q=>match x with
 |.int i=>Q (g i) H
 |_=>False
def J3 (t:TE):TT:=fun σ H Q=>t σ H fun x H'=>match x with
 |.bl k=>Q k H'
 |_=>False
theorem O6 (t:TE):J3 t=Aac t:=by
 funext σ H Q
 unfold J3 Aac
 congr 1
 funext x H'
 apply propext
 cases x<;>simp
theorem Gw (t:TE):J3 t=tB t:=O6 t
def Ak5 (t u:TT):TT:=fun σ H Q=>t σ H fun c H1=>Br c (u σ H1 Q) (Q false H1)
def dOr (t u:TT):TT:=fun σ H Q=>t σ H fun c H1=>Br c (Q true H1) (u σ H1 Q)
theorem Ahm (t u:TT):Ak5 t u=Aj7 t u:=by
 funext σ H Q
 unfold Ak5 Aj7
 simp only [Rg]
theorem Ajo (t u:TT):dOr t u=tOr t u:=by
 funext σ H Q
 unfold dOr tOr
 simp only [Rg]
def Afl (ta tb:TE):TE:=fun σ H Q=>ta σ H fun x H1=>match x with
 |.bl c=>Br c (tb σ H1 Q) (Q (.bl false) H1)
 |_=>False
def Adz (ta:TE):TE:=fun σ H Q=>ta σ H fun x H1=>match x with
 |.bl c=>Q (.bl (!c)) H1
 |_=>False
theorem Afh (t u:TE):Afl t u=Aeo t u:=by
 funext σ H Q
 unfold Afl Aeo
 congr 1
 funext x H'
 apply propext
 cases x<;>simp [Rg]
theorem Afg (t:TE):Adz t=Aem t:=by
 funext σ H Q
 unfold Adz Aem
 congr 1
 funext x H'
 apply propext
 cases x<;>simp
def Ajh (c:TT)(t u:TS):TS:=fun D σ H=>c σ H fun b H1=>Br b (t D σ H1) (u D σ H1)
theorem Agb (c:TT)(t u:TS):Ajh c t u=Al2 c t u:=by
 funext D σ H
 unfold Ajh Al2
 simp only [Rg]
def dIf (t:TT)(ta tb:TE):TE:=fun σ H Q=>t σ H fun c H1=>Br c (ta σ H1 Q) (tb σ H1 Q)
theorem Aln (c:TT)(t u:TE):dIf c t u=tIf c t u:=by
 funext D σ H
 unfold dIf tIf
 simp only [Rg]
section
variable {X:Cx}{a b c:Expr}{ta tb tc:TE}{pos:Pos}{tA tB':TT}{Ep:IJ}
theorem dv (i:Nat){x:Str}{pos:Pos}(hN:X.N[i]? =some x:=by rfl)(hv:Vis X.env.scope x:=by first|exact Or.inl rfl|exact Or.inr (Or.inl rfl)|exact Or.inr (Or.inr rfl))(hd:(x==("__debug__":Str))=false:=by decide)
  (hcd:(x==("__classdict__":Str))=false:=by decide):PE X (.Name x pos) (Ajk i):=by
 rw [Ahn]
 exact Alc hN hv hd hcd
theorem opD {f:IA→IA→Sem IA}{C:Int→Int→Prop}{g:Int→Int→V}(h:Dh X f (rI C g)):Dh X f (dI C g):=by
 intro pins s σ H x y v u Q I rx ry q
 cases x<;>cases y<;>first
  |exact False.elim q
  |exact h _ _ _ _ _ _ _ _ _ I rx ry ⟨_,_,rfl,rfl,q.1,q.2⟩
theorem Afq {f:IA→IA→Sem IA}{g:Int→Int→V}(h:Dh X f (rI0 g)):Dh X f (dI0 g):=by
 intro pins s σ H x y v u Q I rx ry q
 cases x<;>cases y<;>first
  |exact False.elim q
  |exact h _ _ _ _ _ _ _ _ _ I rx ry ⟨_,_,rfl,rfl,q⟩
theorem unD {f:IA→Sem IA}{g:Int→V}(h:UnR X f (rU g)):UnR X f (dU g):=by
 intro pins s σ H x v Q I rx q
 cases x<;>first
  |exact False.elim q
  |exact h _ _ _ _ _ _ _ I rx ⟨_,rfl,q⟩
def Bd (n:Nat)(x:Int):Prop:=x.natAbs<2 ^ n
theorem Bd.bits {n:Nat}{x:Int}(h:Bd n x):Builtin.Int.intBits x≤n:=intBits_le_iff.mpr h
def COk (i j:Int):Prop:=(Bd 4000 i∧Bd 4000 j)∨Akp i j
theorem COk.ok {i j:Int}(h:COk i j):IntMulOk i j:=by
 rcases h with ⟨h1,h2⟩|h
 ·exact PySem.IntMulOk.of_bits (AI h1.bits (by decide)) (AI h2.bits (by decide))
 ·exact h.ok
theorem N1 {n:Nat}{x:Int}(h:Bd n x)(h0:0<n):x.natAbs.log2<n:=by
 by_cases z:x.natAbs=0
 ·rw [z]
  simpa using h0
 ·exact (Nat.log2_lt z).mpr h
theorem Dy:Dh X (binaryOp .Add) (dI0 fun i j=>.int (i+j)):=Afq Aj8
theorem E8:Dh X (binaryOp .Sub) (dI0 fun i j=>.int (i-j)):=Afq Ajn
theorem Eb:Dh X (binaryOp .Mult) (dI COk fun i j=>.int (i*j)):=opD (opI fun _ _ _ _ _ _ _ hc q=>mul_int q hc.ok)
theorem Ov:Dh X (binaryOp .FloorDiv) (dI (fun _ j=>0<j∧Bd 4000 j) fun i j=>.int (i / j)):=opD (opI fun i j _ _ _ _ _ hc q=>by
 have h1:(0:Int)<j:=hc.1
 exact floordiv_int (by omega) (by rw [Int.fdiv_eq_ediv_of_nonneg i (by omega)];exact q) (.inl (PyProof.noPylong_of_log2 (Nat.lt_trans (N1 hc.2 (by decide)) (by decide)))))
theorem Afr:Dh X (binaryOp .FloorDiv) (dI (fun _ j=>j≠0∧Bd 4000 j) fun i j=>.int (i.fdiv j)):=opD (opI fun i j _ _ _ _ _ hc q=>by
 exact floordiv_int hc.1 q (.inl (PyProof.noPylong_of_log2 (Nat.lt_trans (N1 hc.2 (by decide)) (by decide)))))
theorem Fo:Dh X (binaryOp .Mod) (dI (fun _ j=>0<j) fun i j=>.int (i % j)):=opD Alr
theorem Ak0:Dh X (binaryOp .Mod) (dI (fun _ j=>j≠0) fun i j=>.int (i.fmod j)):=opD Ah4
theorem Aor:Dh X (binaryOp .Pow) (dI Anv fun i j=>.int (i ^ j.toNat)):=opD Akh
theorem Of:Dh X (compareOp .Lt) (dI0 fun i j=>.bl (decide (i<j))):=Afq Ant
theorem Qr:Dh X (compareOp .LtE) (dI0 fun i j=>.bl (decide (i≤j))):=Afq Aov
theorem Aam:Dh X (compareOp .Gt) (dI0 fun i j=>.bl (decide (j<i))):=Afq Am8
theorem M3:UnR X (unaryOp .USub) (dU fun i=>.int (-i)):=unD Ajm
def dEq:R2:=fun x y H Q=>match x,y with
 |.int i,.int j=>Q (.bl (decide (i=j))) H
 |.bl i,.bl j=>Q (.bl (i==j)) H
 |.str i,.str j=>Q (.bl (decide (i=j))) H
 |_,_=>False
def dNe:R2:=fun x y H Q=>match x,y with
 |.int i,.int j=>Q (.bl (!decide (i=j))) H
 |.bl i,.bl j=>Q (.bl (i != j)) H
 |.str i,.str j=>Q (.bl (!decide (i=j))) H
 |_,_=>False
theorem Ee:Dh X (compareOp .Eq) dEq:=by
 intro pins s σ H x y v u Q I rx ry q
 cases x<;>cases y<;>first
  |exact False.elim q
  | (refine Aoe _ _ _ _ _ _ _ _ _ I rx ry ⟨rfl,?_⟩
     have e:∀(i j:Int),decide (V.int i=V.int j)=decide (i=j):=fun i j=>by simp
     have e2:∀(i j:Str),decide (V.str i=V.str j)=decide (i=j):=fun i j=>by simp
     first
       |(rw [e];exact q)
       |(rw [e2];exact q)
       |(rw [T6];exact q))
theorem Ky:Dh X (compareOp .NotEq) dNe:=by
 intro pins s σ H x y v u Q I rx ry q
 cases x<;>cases y<;>first
  |exact False.elim q
  | (refine Anr _ _ _ _ _ _ _ _ _ I rx ry ⟨rfl,?_⟩
     have e:∀(i j:Int),decide (V.int i=V.int j)=decide (i=j):=fun i j=>by simp
     have e2:∀(i j:Str),decide (V.str i=V.str j)=decide (i=j):=fun i j=>by simp
     first
       |(rw [e];exact q)
       |(rw [e2];exact q)
       |(rw [T6];exact q))
theorem A0 {op:CmpOp}{r:R2}(ho:Dh X (compareOp op) r)(ha:PE X a ta)(hb:PE X b tb)(hm:behindInMarks op b=false):PT X (.Compare a [op] [b] pos) (J3 (tOp r ta tb)):=by
 rw [O6]
 exact Agg ho ha hb hm
theorem Aig {j pos'}(ha:PE X a ta):PT X (.Compare a [.Is] [.Constant .none j pos'] pos) (J3 (Ame ta)):=by
 rw [Gw]
 exact S7 (Ali ha)
theorem Ci {e:Expr}{t:TE}(h:PE X e t)(he:∀whole,isTrue e X.env whole=(do let v ←whole;standAt e.pos;holding [v] (truthy v)):=by intro _;rfl):PT X e (J3 t):=by
 rw [Gw]
 exact Alf h he
theorem Jw (ha:PT X a tA)(hb:PW X (.BoolOp .And (b::Ep) pos) tB'):PW X (.BoolOp .And (a::b::Ep) pos) (Ak5 tA tB'):=by
 rw [Ahm]
 exact Ajd ha hb
theorem J9 (ha:PT X a tA)(hb:PW X (.BoolOp .Or (b::Ep) pos) tB'):PW X (.BoolOp .Or (a::b::Ep) pos) (dOr tA tB'):=by
 rw [Ajo]
 exact Ano ha hb
theorem J4 (ha:PE X a ta)(hb:PE X (.BoolOp .And (b::Ep) pos) tb):PE X (.BoolOp .And (a::b::Ep) pos) (Afl ta tb):=by
 rw [Afh]
 exact Ak7 ha hb
theorem Aik (ha:PE X a ta):PE X (.UnaryOp .Not a pos) (Adz ta):=by
 rw [Afg]
 exact Ai6 ha
theorem Ym {c:Expr}(hc:PT X c tA)(ha:PE X a ta)(hb:PE X b tb):PE X (.IfExp c a b pos) (dIf tA ta tb):=by
 rw [Aln]
 exact Acz hc ha hb
theorem Bl {c:Expr}{a b:List Stmt}{tc:TT}{t u:TS}(hc:PT X c tc)(ha:Ny X a t)(hb:Ny X b u):PS X (.If c a b pos) (Ajh tc t u):=by
 rw [Agb]
 exact Amq hc ha hb
def Apg (R:L2.St→Hp→Prop)(t u:TS):TS:=fun D σ H=>t { D with nx:=R } σ H∧∀σ' H',R σ' H'→u D σ' H'
theorem Xt (R:L2.St→Hp→Prop){st:Stmt}{r:List Stmt}{t u:TS}(h1:PS X st t)(h2:Ny X r u):Ny X (st::r) (Apg R t u):=by
 intro pins s σ H D I h
 refine wpAny_execs_cons (Bo (h1 pins s σ H { D with nx:=R } I h.1) fun f s1 q=>?_)
 cases f with
 |next=>
  obtain ⟨σ',H',I',q⟩:=q
  exact h2 pins s1 σ' H' D I' (h.2 σ' H' q)
 |ret v=>exact q
 |brk=>exact q
 |cont=>exact q
structure Bc (P:IE)(w:IF)(K:KKf)(mg:Str→IK)(base:Heap)(x:Str)(ps:IG)(k:Nat)(sp:Sp):Prop where
 ex:∃(f:IC) (fd:FuncData),mg x=some (.ref f)∧PySem.W.keepIn K (.ref f)=true∧Er K fd ps []∧Ib P w K mg base (Q0 P w) k f fd ps sp ∧
  ∃(oc:IA) (od:Option IC) (osl:Array (IK)),K.lookup f=some ⟨oc,od,.func fd,osl⟩
def Aaf (sp:Sp)(t:TA):TE:=fun σ H Q=>t σ H fun vs H1=>sp vs H1 Q E0
theorem Adf (sp:Sp)(t:TA):Aaf sp t=Aec sp [] E0 t:=by
 funext σ H Q
 unfold Aaf Aec
 simp only [CJ]
theorem Ak8 {x:Str}{ps:IG}{k k':Nat}{sp:Sp}{p:Pos}{e:Expr}{es:IJ}{t:TA}(C:Bc X.prog X.w X.K X.mg X.base x ps k sp)(hr:Cg k' X.A)(hk:k≤k')(hg:Gl X x)
  (ha:PA X (e::es) t) (hdb:(x==("__debug__":Str))=false:=by decide) (he:starEach (e::es) X.env=(false,eval e X.env)::starEach es X.env:=by rfl) (hpl:(backTo pos (starEach es X.env)).any (·.1)=false:=by rfl) :
  PE X (.Call (.Name x p) (e::es) [] pos) (Aaf sp t):=by
 obtain ⟨f,fd,h1,h2,h3,h4,_⟩:=C.ex
 rw [Adf]
 exact Ahj (h4.mono hk) hr hg h1 h2 h3 .nil Ke ha hdb he hpl
def Ll (xs:IP):Bool:=Nat.ble xs.length 1000
theorem Wt {xs:IP}(h:Ll xs=true):xs.length≤sizeLine:=AI (Nat.le_of_ble_eq_true h) (by decide)
def Aph (t:TA):TE:=fun σ H Q=>t σ H fun xs H1=>match Ll xs with
 |true=>∀p H',Aj H1 H'→H' p=some (.tup xs)→Q (.ref p) H'
 |false=>False
def Api (t:TA):TE:=fun σ H Q=>t σ H fun xs H1=>match Ll xs with
 |true=>∀p H',Aj H1 H'→H' p=some (.lst xs)→Q (.ref p) H'
 |false=>False
theorem Ah {H:Hp}{p:IC}{o:HO}(h:H p=none):Aj H (upd H p o):=fun b u e=>by
 rw [Am (Bu e h)]
 exact e
theorem Dx {es:IJ}{t:TA}{x1}(h:PA X es t):PE X (.Tuple es x1 pos) (Aph t):=by
 intro pins s σ H Q I hq
 refine wpAny_Tuple_spliced (Bo (h pos pins s σ H _ I hq) fun us s1 ⟨xs,H1,I1,r,q⟩=>?_)
 cases hl:Ll xs with
 |false=>
  have q':(match Ll xs with|true=>_|false=>False:Prop):=q
  rw [hl] at q'
  exact q'.elim
 |true=>
  have z:=Wt hl
  have q':(match Ll xs with|true=>∀p H',Aj H1 H'→H' p=some (.tup xs)→Q (.ref p) H'|false=>False:Prop):=q
  rw [hl] at q'
  refine ⟨by rw [←r.length];exact z,?_⟩
  have hf:H1 s1.heap.objs.size=none:=I1.hok.fresh (AF _)
  refine ⟨.ref s1.heap.objs.size,upd H1 s1.heap.objs.size (.tup xs),I1.laid (t':=s1.toks) (fun b u e=>AB _ e) (AF _) ?_,rfl,q' _ _ (Ah hf) Ac⟩
  exact ⟨z,us,r,⟨_,AJ _ rfl,rfl,_,rfl⟩⟩
theorem Hu {es:IJ}{t:TA}(h:PA X es t):PE X (.List es pos) (Api t):=by
 intro pins s σ H Q I hq
 refine wpAny_List_spliced (Bo (h pos pins s σ H _ I hq) fun us s1 ⟨xs,H1,I1,r,q⟩=>?_)
 cases hl:Ll xs with
 |false=>
  have q':(match Ll xs with|true=>_|false=>False:Prop):=q
  rw [hl] at q'
  exact q'.elim
 |true=>
  have z:=Wt hl
  have q':(match Ll xs with|true=>∀p H',Aj H1 H'→H' p=some (.lst xs)→Q (.ref p) H'|false=>False:Prop):=q
  rw [hl] at q'
  refine ⟨by rw [←r.length];exact z,?_⟩
  have hf:H1 s1.heap.objs.size=none:=I1.hok.fresh (AF _)
  refine ⟨.ref s1.heap.objs.size,upd H1 s1.heap.objs.size (.lst xs),I1.laid (t':=s1.toks) (fun b u e=>AB _ e) (AF _) ?_,rfl,q' _ _ (Ah hf) Ac⟩
  exact ⟨z,us,0,r,AJ _ rfl⟩
def Ael (xs:IP):Int→Option V
 |.ofNat n=>xs[n]?
 |.negSucc _=>none
theorem Y5 {xs:IP}{i:Int}{v:V}(h:Ael xs i=some v):Na xs i=some v:=by
 cases i with
 |ofNat n=>exact A1 h
 |negSucc n=>cases h
def Amy:R2:=fun x y H Q=>match x,y with
 |.ref p,.int i=>∃xs,H p=some (.tup xs)∧match Ael xs i with
  |some v=>Q v H
  |none=>False
 |_,_=>False
def Ug (K:KKf):R2:=fun x y H Q=>match x,y with
 |.ref p,.int i=>∃xs v,Au K H p xs∧Na xs i=some v∧Q v H
 |_,_=>False
theorem Anj:Wv X Amy:=by
 intro value slice pins s σ H x y v u Q I rx ry h hs
 cases x<;>cases y<;>first
  |exact False.elim h
  | (obtain ⟨xs,e,q⟩:=h
     cases z:Ael xs _ with
     | none=>
       rw [z] at q
       exact q.elim
     | some w=>
       rw [z] at q
       exact X1 value slice pins s σ H _ _ v u Q I rx ry ⟨_,xs,_,w,rfl,rfl,F5.of e,Y5 z,q⟩ hs)
theorem Dd:Wv X (Ug X.K):=by
 intro value slice pins s σ H x y v u Q I rx ry h hs
 cases x<;>cases y<;>first
  |exact False.elim h
  | (obtain ⟨xs,w,e,z,q⟩:=h
     exact Ahi value slice pins s σ H _ _ v u Q I rx ry ⟨_,xs,_,w,rfl,rfl,e,z,q⟩ hs)
theorem Wd (T:String){x:Str}(hg:Gl X x)(hm:X.mg x=none)(hv:bootBuiltins x=some (.type T))(hn:x≠"__name__":=by decide)(hd:(x==("__debug__":Str))=false:=by decide):PE X (.Name x pos) (tC (.ty T)):=
 Agx hg hm hv rfl hn hd
def Aqj:IP→Hp→VK→Prop:=fun xs H Q=>match xs with
 |[.int i]=>Q (.int (i.natAbs:Int)) H
 |_=>False
theorem Aog:Df X (.builtin "abs") Aqj:=by
 intro pins s σ H xs us Q I r h
 match xs,h with
 |[.int i],h=>
  have e:(if i<0 then -i else i)=(i.natAbs:Int):=by split<;>omega
  exact Ad0 pins s σ H _ us Q I r ⟨i,rfl,by rw [e];exact h⟩
def Apy (K:KKf):IP→Hp→VK→Prop:=fun xs H Q=>match xs with
 |[.ref p]=>∃ys,(Au K H p ys∨F5 K H p ys)∧Q (.int ys.length) H
 |[.str z]=>z.length≤sizeLine∧Q (.int z.length) H
 |_=>False
theorem D6:Df X (.builtin "len") (Apy X.K):=by
 intro pins s σ H xs us Q I r h
 match xs,h with
 |[.ref p],⟨ys,h1,q⟩=>exact Sv pins s σ H _ us Q I r ⟨p,ys,rfl,h1,q⟩
 |[.str z],⟨h1,q⟩=>exact S9 pins s σ H _ us Q I r ⟨z,rfl,h1,q⟩
def tyB (t c:String):Option Bool:=
 if t=c then some true else if t="bool"∧c="int" then some true
 else if (t="int"∨t="bool"∨t="str"∨t="tuple"∨t="list"∨t="dict"∨t="NoneType")∧(c="int"∨c="bool"∨c="str"∨c="tuple"∨c="list") then some false else none
def Ake:HO→Option String
 |.lst _=>some "list"
 |.frz _ (.lst _)=>some "list"
 |.tup _=>some "tuple"
 |.dK _=>some "dict"
 |.dT _=>some "dict"
 |_=>none
def Apk:IP→Hp→VK→Prop:=fun xs H Q=>match xs with
 |[.non,.ty c]=>∃b,tyB "NoneType" c=some b∧Q (.bl b) H
 |[.bl _,.ty c]=>∃b,tyB "bool" c=some b∧Q (.bl b) H
 |[.int _,.ty c]=>∃b,tyB "int" c=some b∧Q (.bl b) H
 |[.str _,.ty c]=>∃b,tyB "str" c=some b∧Q (.bl b) H
 |[.ref p,.ty c]=>∃u b t,H p=some u∧Ake u=some t∧tyB t c=some b∧Q (.bl b) H
 |_=>False
theorem G7 (K:KKf){t c:String}{b:Bool}(h:tyB t c=some b):PySem.W.kitOne K (.type t) (.type c)=some b:=by
 unfold tyB at h
 split at h
 ·rename_i e
  subst e
  cases h
  unfold PySem.W.kitOne
  rw [AZ (by simp)]
 ·split at h
  ·rename_i e
   obtain ⟨rfl,rfl⟩:=e
   cases h
   kernel_rfl
  ·split at h
   ·rename_i e1 e2 e
    cases h
    obtain ⟨ht,hc⟩:=e
    rcases ht with rfl|rfl|rfl|rfl|rfl|rfl|rfl<;>rcases hc with rfl|rfl|rfl|rfl|rfl<;>first
     |exact absurd rfl e1
     |exact absurd ⟨rfl,rfl⟩ e2
     |kernel_rfl
   ·cases h
theorem Pj:Df X (.builtin "isinstance") Apk:=by
 intro pins s σ H xs us Q I r h
 match xs,h with
 |[.non,.ty c],⟨b,e,q⟩=>
  obtain ⟨u,w',rfl,r1,r2⟩:=Lk r
  cases (show w'=Value.type c from r2)
  exact Fl I r1 .non (G7 X.K e) fun tk=>⟨.bl b,H,I.tok _,rfl,q⟩
 |[.bl y,.ty c],⟨b,e,q⟩=>
  obtain ⟨u,w',rfl,r1,r2⟩:=Lk r
  cases (show w'=Value.type c from r2)
  exact Fl I r1 (.bl y) (G7 X.K e) fun tk=>⟨.bl b,H,I.tok _,rfl,q⟩
 |[.int y,.ty c],⟨b,e,q⟩=>
  obtain ⟨u,w',rfl,r1,r2⟩:=Lk r
  cases (show w'=Value.type c from r2)
  exact Fl I r1 (.int y) (G7 X.K e) fun tk=>⟨.bl b,H,I.tok _,rfl,q⟩
 |[.str y,.ty c],⟨b,e,q⟩=>
  obtain ⟨u,w',rfl,r1,r2⟩:=Lk r
  cases (show w'=Value.type c from r2)
  exact Fl I r1 (.str y) (G7 X.K e) fun tk=>⟨.bl b,H,I.tok _,rfl,q⟩
 | [.ref p,.ty c],⟨o,b,t,e1,e2,e,q⟩=>
  obtain ⟨u,w',rfl,r1,r2⟩:=Lk r
  cases (show w'=Value.type c from r2)
  have ty:L9 X.K H (.ref p) (.type t):=by
   cases o with
   |lst ys=>cases e2;exact .lst e1
   |tup ys=>cases e2;exact .tup e1
   |dK ys=>cases e2;exact .dK e1
   |dT ys=>cases e2;exact .dT e1
   |frz ob u=>
    cases u with
    |lst ys=>cases e2;exact .frz e1
    |_=>cases e2
   |_=>cases e2
  exact Fl I r1 ty (G7 X.K e) fun tk=>⟨.bl b,H,I.tok _,rfl,q⟩
end
section
variable {X:Cx}{pos:Pos}
def Aj9 (c:TT)(tb:TS):TS:=fun D σ H=>∃W:Nat→L2.St→Hp→Prop,(∃m,W m σ H)∧∀m σ H,W m σ H →
 c σ H fun b H1=>Br b (tb { D with nx:=fun σ' H'=>∃m',m'<m∧W m' σ' H',ct:=fun σ' H'=>∃m',m'<m∧W m' σ' H',bk:=D.nx } σ H1) (D.nx σ H1)
theorem Y7 {c:Expr}{body:List Stmt}{tc:TT}{tb:TS}(hp:PassesOwn (model X.prog X.w) X.A X.env X.xe)(hc:PT X c tc)(hb:Ny X body tb):PS X (.While c body [] pos) (Aj9 tc tb):=by
 intro pins s σ H D I h
 obtain ⟨W,⟨m0,w0⟩,turn⟩:=h
 refine wpAny_While (codeAny_whileLoop (fun n s'=>∃σ' H',Aw X pins σ' H' s'∧W n σ' H') ?_ m0 ⟨σ,H,I,w0⟩)
 rintro n s1 ⟨σ1,H1,I1,w1⟩
 refine ER hp (Bo (hc pins s1 σ1 H1 _ I1 (turn n σ1 H1 w1)) fun b s2 ⟨H2,I2,q2⟩=>?_)
 cases b with
 | true=>
  have q2:=q2.1 rfl
  rw [AZ rfl]
  refine ER hp (Bo (hb pins s2 σ1 H2 _ I2 q2) fun f s3 q3=>?_)
  cases f with
  |next=>
   obtain ⟨σ3,H3,I3,m',hm,w3⟩:=q3
   exact ⟨m',hm,σ3,H3,I3,w3⟩
  |cont=>
   obtain ⟨σ3,H3,I3,m',hm,w3⟩:=q3
   exact ⟨m',hm,σ3,H3,I3,w3⟩
  |brk=>exact q3
  |ret v=>exact q3
 |false=>
  rw [AW BM]
  exact HQ ⟨σ1,H2,I2,q2.2 rfl⟩
end
structure Bt (K:KKf)(mg:Str→IK)(x:Str)(st:Stmt)(ps:IG):Prop where
 ex:∃(f:IC) (fd:FuncData),Fun K x x st f fd∧mg x=some (.ref f)∧Er K fd ps []
section
variable {P:IE}{w:IF}{K:KKf}{mg:Str→IK}{base:Heap}
theorem Bt.calX {x:Str}{st:Stmt}{N ps:IG}{k:Nat}{sp:Sp}(d:Bt K mg x st ps)(S:Al N ps (Ad st))(len:∀vs H Q E,sp vs H Q E→vs.length=ps.length)
  (hbody:∀(f:IC) (cdv:IA) (A:ID) (outer:List Env) (s:IB) (H:Hp) (vs:IP) (Q:VK) (E:XK),Cg k (A.deeper (envOfC x (Ad st) s.heap.objs.size f cdv))→sp vs H Q E →
   ∃t,Ny (Qu (Q0 P w) P w K mg base N x (Ad st) f cdv A outer s H E) (Cd st) t∧t { nx:=fun _ H'=>Q .non H',rt:=Q } (Hw N vs) H):Bc P w K mg base x ps (k+1) sp:=by
 obtain ⟨f,fd,F,hm,hb⟩:=d.ex
 obtain ⟨oc,od,kV,doc,pm,an,cdv,ct,osl,rfl,lk,hcd⟩:=F.ex
 exact ⟨f,_,hm,F.kp,hb,Ae9 lk hcd S len fun A outer s H vs Q E hr hsp=>hbody f cdv A outer s H vs Q E hr hsp,oc,od,osl,lk⟩
theorem Bt.cal {x:Str}{st:Stmt}{N ps:IG}{k:Nat}{sp:Sp}(d:Bt K mg x st ps)(S:Al N ps (Ad st))(len:∀vs H Q E,sp vs H Q E→vs.length=ps.length)
  (hbody:∀(f:IC) (cdv:IA) (A:ID) (outer:List Env) (s:IB) (H:Hp) (vs:IP) (Q:VK) (E:XK),Cg k (A.deeper (envOfC x (Ad st) s.heap.objs.size f cdv))→sp vs H Q E →
   ∃t,Ny (Qu (Q0 P w) P w K mg base N x (Ad st) f cdv A outer s H E).nox (Cd st) t∧t { nx:=fun _ H'=>Q .non H',rt:=Q } (Hw N vs) H):Bc P w K mg base x ps (k+1) sp:=
 d.calX S len fun f cdv A outer s H vs Q E hr hsp=>by
  obtain ⟨t,h,q⟩:=hbody f cdv A outer s H vs Q E hr hsp
  exact ⟨t,h.nox,q⟩
end
theorem W9 {K:KKf}{H H':Hp}{a:IC}{xs:IP}(e:Aj H H')(h:F5 K H a xs):F5 K H' a xs:=by
 rcases h with (h|⟨o,h⟩)|h
 ·exact .inl (.inl (e _ _ h))
 ·exact .inl (.inr ⟨o,e _ _ h⟩)
 ·exact .inr h
mutual
inductive Rp (K:KKf)(H:Hp):V→PyData→Prop where
 |non:Rp K H .non .none
 |bl (b:Bool):Rp K H (.bl b) (.bool b)
 |int (i:Int):Rp K H (.int i) (.int i)
 |str (x:Str):Rp K H (.str x) (.str x)
 |tup {p:IC} {xs:IP} {ds:List PyData}:F5 K H p xs→Uu K H xs ds→Rp K H (.ref p) (.tuple ds)
 |lst {p:IC} {xs:IP} {ds:List PyData}:Au K H p xs→Uu K H xs ds→Rp K H (.ref p) (.list ds)
inductive Uu (K:KKf)(H:Hp):IP→List PyData→Prop where
 |nil:Uu K H [] []
 |cons {v:V} {d:PyData} {vs:IP} {ds:List PyData}:Rp K H v d→Uu K H vs ds→Uu K H (v::vs) (d::ds)
end
mutual
theorem Rp.up {K:KKf}{H H':Hp}(s:Aj H H'):∀{v:V} {d:PyData},Rp K H v d→Rp K H' v d
 |_,_,.non=>.non
 |_,_,.bl b=>.bl b
 |_,_,.int i=>.int i
 |_,_,.str x=>.str x
 |_,_,.tup h r=>.tup (W9 s h) (Uu.up s r)
 |_,_,.lst h r=>.lst (s.seq h) (Uu.up s r)
theorem Uu.up {K:KKf}{H H':Hp}(s:Aj H H'):∀{v:IP} {d:List PyData},Uu K H v d→Uu K H' v d
 |_,_,.nil=>.nil
 |_,_,.cons h r=>.cons (Rp.up s h) (Uu.up s r)
end
section
variable {X:Cx}
mutual
theorem Rp.reads {pins:List (IC×Obj)}{σ:L2.St}{H:Hp}{s:IB}(I:Aw X pins σ H s):∀{v:V} {d:PyData} {u:IA},Rp X.K H v d→L2.RelV v u→∃as,Reads s.heap u d as
 |_,_,_,.non,r=>by cases r;exact ⟨_,Reads.none⟩
 |_,_,_,.bl b,r=>by cases r;exact ⟨_,Reads.bool b⟩
 |_,_,_,.int i,r=>by obtain ⟨t,rfl⟩:=r;exact ⟨_,Reads.int i t⟩
 |_,_,_,.str i,r=>by obtain ⟨t,rfl⟩:=r;exact ⟨_,Reads.str i t⟩
 |_,_,_,.tup h q,r=>by
  cases r
  obtain ⟨its,rv,⟨o,e,c,n,dd⟩,_⟩:=I.tuple h
  obtain ⟨as,ra⟩:=Uu.reads I q rv
  exact ⟨as,reads_tuple_at e c dd (by simpa using ra)⟩
 |_,_,_,.lst h q,r=>by
  cases r
  obtain ⟨its,rv,⟨o,n,e,c,_,dd⟩,_⟩:=I.list h
  obtain ⟨as,ra⟩:=Uu.reads I q rv
  exact ⟨_,reads_list_at e c dd (by simpa using ra)⟩
theorem Uu.reads {pins:List (IC×Obj)}{σ:L2.St}{H:Hp}{s:IB}(I:Aw X pins σ H s):∀{v:IP} {d:List PyData} {u:II},Uu X.K H v d→A6 v u→∃as,ReadsAll s.heap u d as
 |_,_,_,.nil,r=>by cases r;exact ⟨_,ReadsAll.nil⟩
 | _,_,_,.cons h q,r=>by
  cases r with
  |cons r1 r2=>
   obtain ⟨as,ra⟩:=Rp.reads I h r1
   obtain ⟨bs,rb⟩:=Uu.reads I q r2
   exact ⟨_,ReadsAll.cons ra rb⟩
end
def Ajq (K:KKf):R2:=fun x y H Q=>∃d e,Rp K H x d∧Rp K H y e∧SeqAt.shaped d=true∧SeqAt.shaped e=true∧Q (.bl (PyData.eqv d e)) H
def Ap3 (K:KKf):R2:=fun x y H Q=>∃d e,Rp K H x d∧Rp K H y e∧SeqAt.shaped d=true∧SeqAt.shaped e=true∧Q (.bl (!PyData.eqv d e)) H
theorem Pa (hu:X.A.units+64<cLine):Dh X (compareOp .Eq) (Ajq X.K):=by
 intro pins s σ H x y v u Q I rx ry q
 obtain ⟨d,e,h1,h2,h3,h4,q⟩:=q
 obtain ⟨as,r1⟩:=h1.reads I rx
 obtain ⟨bs,r2⟩:=h2.reads I ry
 exact PyProof.Rows.eq_dataH r1 r2 h3 h4 hu ⟨.bl _,H,I,rfl,q⟩
theorem Rh (hu:X.A.units+64<cLine):Dh X (compareOp .NotEq) (Ap3 X.K):=by
 intro pins s σ H x y v u Q I rx ry q
 obtain ⟨d,e,h1,h2,h3,h4,q⟩:=q
 obtain ⟨as,r1⟩:=h1.reads I rx
 obtain ⟨bs,r2⟩:=h2.reads I ry
 exact PyProof.Rows.ne_dataH r1 r2 h3 h4 hu ⟨.bl _,H,I,rfl,q⟩
end
end Lw
end
section
set_option exponentiation.threshold 5000
namespace Lw
open PySem PySem.Spec PyProof.Rows L2
def cell (ns:IH)(k:Int):Int:=if ns.length=0 then 0 else ns.getD (k % (ns.length:Int)).toNat 0
theorem Ca {n:Nat}{x:Int}(h:Nat.blt x.natAbs (2 ^ n)=true):Bd n x:=by
 unfold Bd
 exact AV (Nat.lt_of_succ_le (Nat.le_of_ble_eq_true h)) (AF _)
theorem Bd.mono {m n:Nat}{x:Int}(h:Bd m x)(l:m≤n):Bd n x:=AV h (Nat.pow_le_pow_right (by decide) l)
theorem Bd.mul {m n:Nat}{x y:Int}(h:Bd m x)(l:Bd n y):Bd (m+n) (x*y):=by
 unfold Bd at *
 rw [Int.natAbs_mul,Nat.pow_add]
 by_cases z:y.natAbs=0
 ·rw [z,Nat.mul_zero]
  exact Nat.mul_pos (Nat.pow_pos (by decide)) (Nat.pow_pos (by decide))
 ·exact AV (Nat.mul_lt_mul_of_pos_right h (Nat.pos_of_ne_zero z)) (Nat.mul_le_mul_left _ (EL l))
theorem Bd.add {n:Nat}{x y:Int}(h:Bd n x)(l:Bd n y):Bd (n+1) (x+y):=by
 unfold Bd at *
 have:=Int.natAbs_add_le x y
 rw [Nat.pow_succ]
 omega
theorem Bd.sub {n:Nat}{x y:Int}(h:Bd n x)(l:Bd n y):Bd (n+1) (x-y):=by
 unfold Bd at *
 have:(x-y).natAbs≤x.natAbs+y.natAbs:=by omega
 rw [Nat.pow_succ]
 omega
theorem Bd.of_le {n:Nat}{x y:Int}(h:Bd n y)(l:x.natAbs≤y.natAbs):Bd n x:=BO l h
theorem Lg {x b:Int}{n:Nat}(h1:-b≤x)(h2:x≤b)(h:Bd n b):Bd n x:=h.of_le (by omega)
def Yn (t b:Int):Int:=t / (Int.gcd t b:Int)
def X5 (t b:Int):Int:=b / (Int.gcd t b:Int)
theorem Adk (t b:Int):Yn t b*(Int.gcd t b:Int)=t:=Int.ediv_mul_cancel (Int.gcd_dvd_left ..)
theorem Adm (t b:Int):X5 t b*(Int.gcd t b:Int)=b:=Int.ediv_mul_cancel (Int.gcd_dvd_right ..)
structure Fq (n:Nat)(H:Hp)(p:IC)(a b:Int):Prop where
 at':H p=some (.tup [.int a,.int b])
 pos:0<b
 ba:Bd n a
 bb:Bd n b
abbrev Q2:=Int×Int
theorem Ut {m n:Nat}{i j:Int}(h:Bd m i)(h':Bd n j)(l:m≤4000)(l':n≤4000):COk i j:=.inl ⟨h.mono l,h'.mono l'⟩
structure Pq (n:Nat)(H:Hp)(r:IC)(lo:Q2)(hi:Option Q2):Prop where
 ex:∃l x,H r=some (.tup [.ref l,x])∧Fq n H l lo.1 lo.2∧(hi=none∧x=.non∨∃q y,hi=some y∧x=.ref q∧Fq n H q y.1 y.2)
theorem Ad4 (a b:Int):Int.gcd b (a.fmod b)=Int.gcd a b:=by
 rw [Int.fmod_def,Int.gcd_sub_mul_left_right,Int.gcd_comm]
theorem Agq (a:Int){b:Int}(h:b≠0):(a.fmod b).natAbs<b.natAbs:=by
 have e0:=DG a h
 have e1:=Int.emod_lt a h
 rw [Int.fmod_eq_emod]
 by_cases c:0≤b∨b∣a
 ·rw [AZ c]
  omega
 ·rw [AW c]
  have e2:a % b≠0:=fun z=>c (.inr (Int.dvd_of_emod_eq_zero z))
  have:¬0≤b:=fun z=>c (.inl z)
  omega
def frT (t b:Int):Int:=if b<0 then -Yn t b else Yn t b
def frB (t b:Int):Int:=if b<0 then -X5 t b else X5 t b
def dvs (t b:Int):Int:=if b<0 then -(Int.gcd t b:Int) else (Int.gcd t b:Int)
theorem Xu (t:Int){b:Int}(hb:b≠0):0<(Int.gcd t b:Int):=by
 have:0<Int.gcd t b:=Int.gcd_pos_of_ne_zero_right _ hb
 omega
theorem Akl (t:Int){b:Int}(hb:b≠0):dvs t b≠0:=by
 have:=Xu t hb
 unfold dvs
 split<;>omega
theorem Alj {n:Nat}(t:Int){b:Int}(hb:b≠0)(h:Bd n b):Bd n (dvs t b):=by
 have l:=Nat.le_of_dvd (by omega:0<b.natAbs) (show Int.gcd t b∣b.natAbs from Nat.gcd_dvd_right ..)
 refine h.of_le ?_
 unfold dvs
 split<;>omega
theorem Ako (t:Int){b:Int}(hb:b≠0):t.fdiv (dvs t b)=frT t b:=by
 have g:=Xu t hb
 have h:=Adk t b
 unfold dvs frT
 split
 ·have e:t=(-Yn t b)*(-(Int.gcd t b:Int)):=by rw [Int.neg_mul_neg];exact h.symm
  exact (congrArg (fun z=>z.fdiv (-(Int.gcd t b:Int))) e).trans (GM _ (by omega))
 ·exact (congrArg (fun z=>z.fdiv (Int.gcd t b:Int)) h.symm).trans (GM _ (by omega))
theorem Aji (t:Int){b:Int}(hb:b≠0):b.fdiv (dvs t b)=frB t b:=by
 have g:=Xu t hb
 have h:=Adm t b
 unfold dvs frB
 split
 ·have e:b=(-X5 t b)*(-(Int.gcd t b:Int)):=by rw [Int.neg_mul_neg];exact h.symm
  exact (congrArg (fun z=>z.fdiv (-(Int.gcd t b:Int))) e).trans (GM _ (by omega))
 ·exact (congrArg (fun z=>z.fdiv (Int.gcd t b:Int)) h.symm).trans (GM _ (by omega))
structure Apj (H:Hp)(p:IC)(t b:Int):Prop where
 at':H p=some (.tup [.int (frT t b),.int (frB t b)])
end Lw
end
section
namespace Lw
open PySem PySem.Spec PyProof.Rows L2
def Xl (kd:Bool)(h:Heap)(it l:IC)(k:Nat):Prop:=match kd with
 |true=>h.IsListIter it l k
 |false=>h.IsTupleIter it l k
def Uj (kd:Bool)(h:Heap)(l:IC)(xs:Array IA):Prop:=match kd with
 |true=>h.IsList l xs
 |false=>h.IsTuple l xs
def Vl (kd:Bool)(K:KKf)(H:Hp)(a:IC)(xs:IP):Prop:=match kd with
 |true=>Au K H a xs
 |false=>F5 K H a xs
theorem Xl.ob {kd:Bool}{h:Heap}{it l:IC}{k:Nat}(x:Xl kd h it l k):∃o,h.get? it=some o∧∀v,o.data≠.cell v:=by
 cases kd with
 |true=>obtain ⟨o,e,_,d⟩:=x;exact ⟨o,e,fun v z=>by rw [d] at z;cases z⟩
 |false=>obtain ⟨o,e,_,d⟩:=x;exact ⟨o,e,fun v z=>by rw [d] at z;cases z⟩
theorem Xl.mv {kd:Bool}{h h':Heap}{it l:IC}{k:Nat}(x:Xl kd h it l k)(q:∀o,h.get? it=some o→h'.get? it=some o):Xl kd h' it l k:=by
 cases kd with
 |true=>obtain ⟨o,e,r⟩:=x;exact ⟨o,q o e,r⟩
 |false=>obtain ⟨o,e,r⟩:=x;exact ⟨o,q o e,r⟩
theorem Uj.mv {kd:Bool}{h h':Heap}{l:IC}{xs:Array IA}(x:Uj kd h l xs)(q:∀o,h.get? l=some o→h'.get? l=some o):Uj kd h' l xs:=by
 cases kd with
 |true=>obtain ⟨o,e,r⟩:=x;exact ⟨o,q o e,r⟩
 |false=>obtain ⟨o,e,r⟩:=x;exact ⟨o,q o e,r⟩
theorem Uj.lt {kd:Bool}{h:Heap}{l:IC}{xs:Array IA}(x:Uj kd h l xs):l<h.objs.size:=by
 cases kd with
 |true=>obtain ⟨o,e,r⟩:=x;exact AK e
 |false=>obtain ⟨o,e,r⟩:=x;exact AK e
section
variable {prog:IE}{w:IF}{A:ID}{E:IA→IB→Prop}{s:IB}
theorem Ku {kd:Bool}{it l:IC}{k:Nat}{xs:Array IA}{x:IA}{Q:IA→IB→Prop}(h1:Xl kd s.heap it l k)(h2:Uj kd s.heap l xs)(hx:xs[k]? =some x)
  (q:∀g,Xl kd g it l (k+1)→Heap.SameBut it s.heap g→Q x { s with heap:=g }):wpAny (model prog w) A (Builtin.SmallTypes.nextOf (.ref it)) Q E s:=by
 cases kd with
 |true=>exact wpAny_nextOf_list_item h1 h2 hx q
 |false=>
  have h1':s.heap.IsTupleIter it l k:=h1
  obtain ⟨io,e1,c1,d1⟩:=id h1'
  obtain ⟨lo,e2,_,m2,d2⟩:=(show s.heap.IsTuple l xs from h2)
  have ty:=h1'.typeIs
  unfold Builtin.SmallTypes.nextOf;refine AA (CP (name:=Str.ofString "__next__") ty EV (wpAny_call_entry EV ty F.entry_tuple_iterator_next ?_ (F.args_tuple_iterator_next_1 _)))
  show wpAny _ _ (field (Value.ref it) 0 >>= _) _ _ _
  refine AA (DF e1 d1 (x:=.ref l) rfl ?_)
  show wpAny _ _ (if (Value.ref l==Value.none)=true then _ else _) _ _ _
  rw [AW (show ¬(Value.ref l==Value.none)=true from BM)]
  show wpAny _ _ (field (Value.ref it) 1 >>= _) _ _ _
  refine AA (DF e1 d1 (x:=.int k 0) rfl ?_)
  show wpAny _ _ (seqItems? (Value.ref l) >>= _) _ _ _
  refine AA (DR e2 d2 ?_)
  simp only [DK,hx]
  refine AA (EH e1 d1 (by simp) (AC ⟨x,rfl,AC (q _ ?_ (CG ..))⟩))
  refine ⟨_,DD _ e1 (EU (CY d1 _)),(HC ..).trans c1,?_⟩
  rw [CY d1]
  simp [rawInt]
theorem Rb {kd:Bool}{it l:IC}{k:Nat}{xs:Array IA}{Q:IA→IB→Prop}(hh:A.handled=none)(h1:Xl kd s.heap it l k)(h2:Uj kd s.heap l xs)(hx:xs[k]? =none)
  (q:∀g e,Heap.ExtBut it s.heap g→(∃o,g.get? e=some o∧o.cls=.type "StopIteration")→E (.ref e) { s with heap:=g }):wpAny (model prog w) A (Builtin.SmallTypes.nextOf (.ref it)) Q E s:=by
 cases kd with
 |true=>exact wpAny_nextOf_list_end hh h1 h2 hx q
 |false=>
  have h1':s.heap.IsTupleIter it l k:=h1
  obtain ⟨io,e1,c1,d1⟩:=id h1'
  obtain ⟨lo,e2,_,m2,d2⟩:=(show s.heap.IsTuple l xs from h2)
  have ty:=h1'.typeIs
  unfold Builtin.SmallTypes.nextOf;refine AA (CP (name:=Str.ofString "__next__") ty EV (wpAny_call_entry EV ty F.entry_tuple_iterator_next ?_ (F.args_tuple_iterator_next_1 _)))
  show wpAny _ _ (field (Value.ref it) 0 >>= _) _ _ _
  refine AA (DF e1 d1 (x:=.ref l) rfl ?_)
  show wpAny _ _ (if (Value.ref l==Value.none)=true then _ else _) _ _ _
  rw [AW (show ¬(Value.ref l==Value.none)=true from BM)]
  show wpAny _ _ (field (Value.ref it) 1 >>= _) _ _ _
  refine AA (DF e1 d1 (x:=.int k 0) rfl ?_)
  show wpAny _ _ (seqItems? (Value.ref l) >>= _) _ _ _
  refine AA (DR e2 d2 ?_)
  simp only [DK,hx]
  refine AA (GY (AA (EH e1 d1 (by simp) ?_)));show wpAny _ _ (newExc (.type "StopIteration") [] >>= _) _ _ _;refine AA ?_;simp only [newExc,newTuple]
  refine AA (CD ?_ (by size_fits));refine AA (m:=firstArgMember _ _) (wpAny_of_eq (a:=Value.none) (by first|rfl|(simp only [firstArgMember];rfl)) ?_)
  refine CD ?_ (by size_fits);simp only [raiseNew];refine AA (wpAny_handled ?_);first|rw [show A.in1.handled=none from hh]|rw [hh]
  refine AA (AC (wpAny_throw ?_))
  exact q _ _ (((CG ..).extBut.push _).push _) ⟨_,AJ _ rfl,rfl⟩
structure ZAt (k1 k2:Bool)(z TI TO i1 i2 l1 l2:IC)(n:Nat)(h:Heap):Prop where
 z:IsZip h z TI TO .none
 ti:IsPair h TI (.ref i1) (.ref i2)
 to:∃a b,IsPair h TO a b
 a:Xl k1 h i1 l1 n
 b:Xl k2 h i2 l2 n
theorem Aa9 {k1 k2:Bool}{z TI TO i1 i2 l1 l2:IC}{n:Nat}{xs ys:Array IA}{x y:IA}{Q:IK→IB→Prop}(D:ZipApart z TI TO i1 i2 l1 l2)(Z:ZAt k1 k2 z TI TO i1 i2 l1 l2 n s.heap)
  (hl1:Uj k1 s.heap l1 xs) (hl2:Uj k2 s.heap l2 ys) (hx:xs[n]? =some x) (hy:ys[n]? =some y)
  (q:∀g,IsZip g z TI TO (rawInt s.heap.objs.size)→IsPair g TO x y→Xl k1 g i1 l1 (n+1)→Xl k2 g i2 l2 (n+1)→IsPair g s.heap.objs.size x y →
   (∀c o,c≠z→c≠TO→c≠i1→c≠i2→s.heap.get? c=some o→g.get? c=some o)→Q (some (.ref s.heap.objs.size)) { s with heap:=g }) :
  wpAny (model prog w) A (pyNext (.ref z)) Q E s:=by
 obtain ⟨Zz,Zi,⟨a,b,Zo⟩,Za,Zb⟩:=Z
 have hT:s.TypeIs (.ref z) "zip":=⟨_,Zz,rfl⟩
 unfold pyNext;refine AA (wpAny_attempt (CP (name:=Str.ofString "__next__") hT HU (wpAny_call_entry HU hT F.entry_zip_next ?_ (F.args_zip_next_1 _))))
 show wpAny _ _ (field (Value.ref z) 2 >>= _) _ _ _
 refine AA (DF Zz rfl (x:=.bool false) rfl ?_)
 show wpAny _ _ (field (Value.ref z) 3 >>= _) _ _ _
 refine AA (DF Zz rfl (x:=.ref TI) rfl ?_)
 refine AA (DR Zi rfl ?_)
 show wpAny _ _ (Builtin.SmallTypes.ownedTupleIsFree (Value.ref z) >>= _) _ _ _
 refine AA ?_;unfold Builtin.SmallTypes.ownedTupleIsFree
 refine AA (DF Zz rfl (x:=.none) rfl (AC ?_));simp only [GL];refine AA (GY ?_)
 refine AA (DF Zz rfl (x:=.ref TO) rfl ?_)
 refine AA (EM Zz (by simp) fun g1 z1 s1=>?_)
 have z1:IsZip g1 z TI TO .ellipsis:=z1
 refine AA ?_;simp only [List.zipIdx_cons,List.zipIdx_nil,List.forIn_cons,List.forIn_nil]
 refine AA (AA (wpAny_onRaise ?_));show wpAny _ _ (Builtin.SmallTypes.nextOf (Value.ref i1) >>= _) _ _ _
 refine AA (Ku (Za.mv fun o e=>s1.extBut _ _ D.i1z e) (hl1.mv fun o e=>s1.extBut _ _ D.l1z e) hx fun g2 a2 s2=>AC ?_)
 have o2:IsPair g2 TO a b:=s2.extBut _ _ D.TOi1 (s1.extBut _ _ D.TOz Zo)
 refine AA (DR o2 rfl ?_)
 refine AA (wpAny_updateSeq_pair o2 fun g3 o3 s3=>?_)
 have o3:IsPair g3 TO x b:=o3
 refine AA (wpAny_letGo (AC ?_))
 refine AA (AA (wpAny_onRaise ?_));show wpAny _ _ (Builtin.SmallTypes.nextOf (Value.ref i2) >>= _) _ _ _
 refine AA (Ku (Zb.mv fun o e=>s3.extBut _ _ D.TOi2.symm (s2.extBut _ _ D.i12.symm (s1.extBut _ _ D.i2z e))) (hl2.mv fun o e=>s3.extBut _ _ D.l2TO (s2.extBut _ _ D.l2i1 (s1.extBut _ _ D.l2z e))) hy fun g4 a4 s4=>AC ?_)
 have o4:IsPair g4 TO x b:=s4.extBut _ _ D.TOi2 o3
 refine AA (DR o4 rfl ?_)
 refine AA (wpAny_updateSeq_pair o4 fun g5 o5 s5=>?_)
 have o5:IsPair g5 TO x y:=o5
 refine AA (wpAny_letGo (AC (AC ?_)))
 refine AA (DR o5 rfl ?_)
 refine AA (wpAny_newTuple ?_)
 have sz:g5.objs.size=s.heap.objs.size:=by rw [s5.1,s4.1,s3.1,s2.1,s1.1]
 have z5:IsZip g5 z TI TO .ellipsis:=s5.extBut _ _ D.TOz.symm (s4.extBut _ _ D.i2z.symm (s3.extBut _ _ D.TOz.symm (s2.extBut _ _ D.i1z.symm z1)))
 have kp:∀c o,c≠z→c≠TO→c≠i1→c≠i2→s.heap.get? c=some o→g5.get? c=some o:=fun c o n1 n2 n3 n4 e=>s5.extBut _ _ n2 (s4.extBut _ _ n4 (s3.extBut _ _ n2 (s2.extBut _ _ n3 (s1.extBut _ _ n1 e))))
 have a5:Xl k1 g5 i1 l1 (n+1):=a2.mv fun o e=>s5.extBut _ _ D.TOi1.symm (s4.extBut _ _ D.i12 (s3.extBut _ _ D.TOi1.symm e))
 have b5:Xl k2 g5 i2 l2 (n+1):=a4.mv fun o e=>s5.extBut _ _ D.TOi2.symm e
 have zlt:z<g5.objs.size:=AK z5
 show wpAny _ _ (Builtin.SmallTypes.ownedTupleHandOut (Value.ref z) (Value.ref g5.objs.size) >>= _) _ _ _
 refine AA ?_;unfold Builtin.SmallTypes.ownedTupleHandOut
 have z6:IsZip (g5.push { cls:=.type "tuple",data:=.seq #[x,y] }) z TI TO .ellipsis:=AB _ z5
 refine AA (EM z6 (by simp) fun g7 z7 s7=>?_)
 have z7:IsZip g7 z TI TO (rawInt g5.objs.size):=z7
 refine EM z7 (by simp) fun g8 z8 s8=>?_
 have z8:IsZip g8 z TI TO (rawInt g5.objs.size):=z8
 have up:∀c o,c≠z→g5.get? c=some o→g8.get? c=some o:=fun c o n1 e=>s8.extBut _ _ n1 (s7.extBut _ _ n1 (AB _ e))
 have t8:IsPair g8 g5.objs.size x y:=s8.extBut _ _ (DN zlt) (s7.extBut _ _ (DN zlt) (AJ _ rfl))
 rw [sz] at z8 t8
 refine AC ⟨_,rfl,?_⟩
 show wpAny _ _ (pure (some (Value.ref g5.objs.size))) _ _ _
 rw [sz]
 exact AC (q g8 z8 (up _ _ D.TOz o5) (a5.mv fun o e=>up _ o D.i1z e) (b5.mv fun o e=>up _ o D.i2z e) t8 fun c o n1 n2 n3 n4 e=>up c o n1 (kp c o n1 n2 n3 n4 e))
theorem Acu {k1 k2:Bool}{z TI TO i1 i2 l1 l2:IC}{n:Nat}{xs ys:Array IA}{Q:IK→IB→Prop}(hh:A.handled=none)(D:ZipApart z TI TO i1 i2 l1 l2)(Z:ZAt k1 k2 z TI TO i1 i2 l1 l2 n s.heap)
  (hl1:Uj k1 s.heap l1 xs) (hl2:Uj k2 s.heap l2 ys) (hend:xs[n]? =none∨ys[n]? =none)
  (q:∀g,(∀c o,c≠z→c≠TO→c≠i1→c≠i2→s.heap.get? c=some o→g.get? c=some o)→Q none { s with heap:=g }):wpAny (model prog w) A (pyNext (.ref z)) Q E s:=by
 obtain ⟨Zz,Zi,⟨a,b,Zo⟩,Za,Zb⟩:=Z
 have hT:s.TypeIs (.ref z) "zip":=⟨_,Zz,rfl⟩
 unfold pyNext;refine AA (wpAny_attempt (CP (name:=Str.ofString "__next__") hT HU (wpAny_call_entry HU hT F.entry_zip_next ?_ (F.args_zip_next_1 _))))
 show wpAny _ _ (field (Value.ref z) 2 >>= _) _ _ _
 refine AA (DF Zz rfl (x:=.bool false) rfl ?_)
 show wpAny _ _ (field (Value.ref z) 3 >>= _) _ _ _
 refine AA (DF Zz rfl (x:=.ref TI) rfl ?_)
 refine AA (DR Zi rfl ?_)
 show wpAny _ _ (Builtin.SmallTypes.ownedTupleIsFree (Value.ref z) >>= _) _ _ _
 refine AA ?_;unfold Builtin.SmallTypes.ownedTupleIsFree
 refine AA (DF Zz rfl (x:=.none) rfl (AC ?_));simp only [GL];refine AA (GY ?_)
 refine AA (DF Zz rfl (x:=.ref TO) rfl ?_)
 refine AA (EM Zz (by simp) fun g1 z1 s1=>?_)
 have z1:IsZip g1 z TI TO .ellipsis:=z1
 refine AA ?_;simp only [List.zipIdx_cons,List.zipIdx_nil,List.forIn_cons,List.forIn_nil]
 refine AA (AA (wpAny_onRaise ?_));show wpAny _ _ (Builtin.SmallTypes.nextOf (Value.ref i1) >>= _) _ _ _
 cases hx:xs[n]? with
 |none=>
  refine AA (Rb hh (Za.mv fun o e=>s1.extBut _ _ D.i1z e) (hl1.mv fun o e=>s1.extBut _ _ D.l1z e) hx fun g2 e s2 ⟨oe,he,ce⟩=>?_)
  have z2:IsZip g2 z TI TO .ellipsis:=s2 _ _ D.i1z.symm z1
  have ne:e≠z:=fun x=>by subst x;rw [z2] at he;cases he;simp at ce
  refine EM z2 (by simp) fun g3 _ s3=>?_
  exact AA (GF (T:="StopIteration") (b:=true) ⟨oe,s3.extBut _ _ ne he,ce⟩ isSubtype_stop (AC (q g3 fun c o n1 _ n3 _ x=>s3.extBut _ _ n1 (s2 _ _ n3 (s1.extBut _ _ n1 x)))))
 |some x=>
  have hy:ys[n]? =none:=by rcases hend with h|h;rw [hx] at h;cases h;exact h
  refine AA (Ku (Za.mv fun o e=>s1.extBut _ _ D.i1z e) (hl1.mv fun o e=>s1.extBut _ _ D.l1z e) hx fun g2 a2 s2=>AC ?_)
  have o2:IsPair g2 TO a b:=s2.extBut _ _ D.TOi1 (s1.extBut _ _ D.TOz Zo)
  refine AA (DR o2 rfl ?_)
  refine AA (wpAny_updateSeq_pair o2 fun g3 o3 s3=>?_)
  refine AA (wpAny_letGo (AC ?_))
  refine AA (AA (wpAny_onRaise ?_));show wpAny _ _ (Builtin.SmallTypes.nextOf (Value.ref i2) >>= _) _ _ _
  refine AA (Rb hh (Zb.mv fun o e=>s3.extBut _ _ D.TOi2.symm (s2.extBut _ _ D.i12.symm (s1.extBut _ _ D.i2z e))) (hl2.mv fun o e=>s3.extBut _ _ D.l2TO (s2.extBut _ _ D.l2i1 (s1.extBut _ _ D.l2z e))) hy fun g4 e s4 ⟨oe,he,ce⟩=>?_)
  have z4:IsZip g4 z TI TO .ellipsis:=s4 _ _ D.i2z.symm (s3.extBut _ _ D.TOz.symm (s2.extBut _ _ D.i1z.symm z1))
  have ne:e≠z:=fun x=>by subst x;rw [z4] at he;cases he;simp at ce
  refine EM z4 (by simp) fun g5 _ s5=>?_
  exact AA (GF (T:="StopIteration") (b:=true) ⟨oe,s5.extBut _ _ ne he,ce⟩ isSubtype_stop (AC (q g5 fun c o n1 n2 n3 n4 x=>s5.extBut _ _ n1 (s4 _ _ n4 (s3.extBut _ _ n2 (s2.extBut _ _ n3 (s1.extBut _ _ n1 x)))))))
def itO (kd:Bool)(l:IC):Obj:=match kd with
 |true=>{ cls:=.type "list_iterator",data:=.fields #[.ref l,.int 0 0] }
 |false=>{ cls:=.type "tuple_iterator",data:=.fields #[.ref l,.int 0 0] }
theorem Aix {kd:Bool}{l:IC}{xs:Array IA}{Q:IA→IB→Prop}(h:Uj kd s.heap l xs)(q:Q (.ref s.heap.objs.size) { s with heap:=s.heap.push (itO kd l) }):wpAny (model prog w) A (pyIter (.ref l)) Q E s:=by
 cases kd with
 |true=>exact FX h q
 |false=>exact wpAny_pyIter_tuple h q
theorem Aeq {kd:Bool}{h:Heap}{i l:IC}(e:h.get? i=some (itO kd l)):Xl kd h i l 0:=by
 cases kd with
 |true=>exact ⟨_,e,rfl,rfl⟩
 |false=>exact ⟨_,e,rfl,rfl⟩
end
abbrev zK1 (k1:Bool)(h:Heap)(l1:IC):Heap:=h.push (itO k1 l1)
abbrev zK2 (k1 k2:Bool)(h:Heap)(l1 l2:IC):Heap:=(zK1 k1 h l1).push (itO k2 l2)
abbrev zK3 (k1 k2:Bool)(h:Heap)(l1 l2:IC):Heap:=(zK2 k1 k2 h l1 l2).push { cls:=.type "tuple",data:=.seq #[.ref h.objs.size,.ref (zK1 k1 h l1).objs.size] }
abbrev zK4 (k1 k2:Bool)(h:Heap)(l1 l2:IC):Heap:=(zK3 k1 k2 h l1 l2).push { cls:=.type "tuple",data:=.seq #[.none,.none] }
abbrev zK5 (k1 k2:Bool)(h:Heap)(l1 l2:IC):Heap:=(zK4 k1 k2 h l1 l2).push { cls:=.type "zip",data:=.fields #[.none,.bool false,.bool false,.ref (zK2 k1 k2 h l1 l2).objs.size,.ref (zK3 k1 k2 h l1 l2).objs.size] }
theorem Afm (k1 k2:Bool)(l1 l2:IC)(xs ys:Array IA) :
  Meets (Builtin.«zip.__new__» ⟨[.type "zip",.ref l1,.ref l2],[]⟩) (fun _ R s=>Uj k1 s.heap l1 xs∧Uj k2 s.heap l2 ys∧R (.ok (.ret (.ref (zK4 k1 k2 s.heap l1 l2).objs.size))) { s with heap:=zK5 k1 k2 s.heap l1 l2 }):=
 .of_wp fun prog w A R s h=>by
  obtain ⟨hp,g,d,tk,os⟩:=s;obtain ⟨a1,a2,h⟩:=h
  have hsub:=sub_zip
  have b1:Uj k1 (Shared.heap ⟨hp,g,d,tk,os⟩) l1 xs:=a1
  have b2:Uj k2 (Shared.heap ⟨hp.push (itO k1 l1),g,d,tk,os⟩) l2 ys:=a2.mv fun o e=>AB _ e
  wp_walk using Aix b1,Aix b2
  exact ⟨_,rfl,h⟩
section
variable {prog:IE}{w:IF}{A:ID}{E:IA→IB→Prop}{s:IB}
theorem Abm {k1 k2:Bool}{l1 l2:IC}{xs ys:Array IA}{Q:IA→IB→Prop}(h1:Uj k1 s.heap l1 xs)(h2:Uj k2 s.heap l2 ys)
  (q:∀g,ZAt k1 k2 (s.heap.objs.size+4) (s.heap.objs.size+2) (s.heap.objs.size+3) s.heap.objs.size (s.heap.objs.size+1) l1 l2 0 g→(∀c o,s.heap.get? c=some o→g.get? c=some o)→Q (.ref (s.heap.objs.size+4)) { s with heap:=g }) :
  wpAny (model prog w) A (call (.type "zip") [.ref l1,.ref l2]) Q E s:=by
 refine callType_new F.called_zip (by decide) (F.typeCall_zip_2 _ _) (F.newCall_zip_2 _ _) (fun obj=>F.args_object_init_3 obj _ _) F.entry_zip_new (Afm k1 k2 l1 l2 xs ys) ⟨h1,h2,?_⟩
 have m1:(zK1 k1 s.heap l1).objs.size=s.heap.objs.size+1:=CL ..
 have m2:(zK2 k1 k2 s.heap l1 l2).objs.size=s.heap.objs.size+2:=by rw [CL,m1]
 have m3:(zK3 k1 k2 s.heap l1 l2).objs.size=s.heap.objs.size+3:=by rw [CL,m2]
 have m4:(zK4 k1 k2 s.heap l1 l2).objs.size=s.heap.objs.size+4:=by rw [CL,m3]
 have fz:∀l,(itO k1 l).isFreed=false:=fun l=>by cases k1<;>rfl
 have fz2:∀l,(itO k2 l).isFreed=false:=fun l=>by cases k2<;>rfl
 have g5:(zK5 k1 k2 s.heap l1 l2).get? (zK4 k1 k2 s.heap l1 l2).objs.size=some _:=AJ _ rfl
 have g4:(zK5 k1 k2 s.heap l1 l2).get? (zK3 k1 k2 s.heap l1 l2).objs.size=some _:=AB _ (AJ _ rfl)
 have g3:(zK5 k1 k2 s.heap l1 l2).get? (zK2 k1 k2 s.heap l1 l2).objs.size=some _:=AB _ (AB _ (AJ _ rfl))
 have g2:(zK5 k1 k2 s.heap l1 l2).get? (zK1 k1 s.heap l1).objs.size=some (itO k2 l2):=AB _ (AB _ (AB _ (AJ _ (fz2 _))))
 have g1:(zK5 k1 k2 s.heap l1 l2).get? s.heap.objs.size=some (itO k1 l1):=AB _ (AB _ (AB _ (AB _ (AJ _ (fz _)))))
 show _∧_
 rw [m2,m3,m4] at g5
 rw [m1,m2] at g3
 rw [m3] at g4
 rw [m1] at g2
 rw [m4]
 exact ⟨⟨_,g5,rfl⟩,q _ ⟨g5,g3,⟨_,_,g4⟩,Aeq g1,Aeq g2⟩ fun c o x=>AB _ (AB _ (AB _ (AB _ (AB _ x))))⟩
end
section
variable {X:Cx}
theorem Mg {pins:List (IC×Obj)}{σ:L2.St}{H:Hp}{s:IB}{h':Heap}{t':Nat}{fp:List IC}(I:Aw X pins σ H s)(k:∀b o,b∉fp→s.heap.get? b=some o→h'.get? b=some o)(hf:∀b∈fp,Lh X pins H b) :
  Aw X pins σ H { s with heap:=h',toks:=t' }:=by
 have nit:∀b u,H b=some u→b∉fp:=fun b u e z=>by rw [(hf b z).1] at e;cases e
 refine I.step (g':=s.gens) (d':=s.drawn) (ch:=fp) (fun b hb=>?_) (fun b o _ _ hc e _=>k b o hc e) (fun b o _ _ hc e _=>⟨o.slots,k b o hc e⟩) (fun _ _ _ _ n=>n) (fun b o hc e=>⟨o,k b o hc e⟩) (fun _ _ e=>e) (fun _ _ _ e=>e)
  (fun b ps e=>⟨#[],by rw [e];simp⟩) (fun m hm=>?_) (fun b u e=>?_) I.bare
 ·obtain ⟨_,f1,f2,f3,f4,f5⟩:=hf b hb
  exact ⟨f3,f1,f4,f5⟩
 ·obtain ⟨o,es,ep,ho,r⟩:=hm
  exact ⟨o,es,ep,k _ o (fun z=>(hf _ z).2.1 rfl) ho,r⟩
 ·refine (I.hok b u e).stay (fun c v hc q=>k c v ?_ q) (fun _ q=>q) fun _ _ q=>q
  rcases hc with z|z
  ·rw [z];exact nit b u e
  ·exact nit c _ z
theorem Xx {pins:List (IC×Obj)}{σ:L2.St}{H:Hp}{s:IB}{h':Heap}{t':Nat}{fp:List IC}{a:IC}{o:HO}(I:Aw X pins σ H s)(k:∀b o,b∉fp→s.heap.get? b=some o→h'.get? b=some o)(hf:∀b∈fp,Lh X pins H b)
  (hp:s.heap.objs.size≤a) (new:Bj X.prog X.w (upd H a o) h' a o):Aw X pins σ (upd H a o) { s with heap:=h',toks:=t' }:=by
 have hn:=I.hok.fresh hp
 have nit:∀b u,H b=some u→b∉fp:=fun b u e z=>by rw [(hf b z).1] at e;cases e
 have old:∀b u,H b=some u→upd H a o b=some u:=fun b u e=>by rw [Am (Bu e hn)];exact e
 refine I.step (g':=s.gens) (d':=s.drawn) (ch:=fp) (fun b hb=>?_) (fun b o _ _ hc e _=>k b o hc e) (fun b o _ _ hc e _=>⟨o.slots,k b o hc e⟩) (fun b u _ e n=>?_) (fun b o hc e=>⟨o,k b o hc e⟩) (fun b xs e=>old b _ e) (fun b ob u e=>old b _ e)
  (fun b ps e=>⟨#[],by rw [old b _ e];simp⟩) (fun m hm=>?_) (fun b u e=>?_) I.bare
 ·obtain ⟨_,f1,f2,f3,f4,f5⟩:=hf b hb
  exact ⟨f3,f1,f4,f5⟩
 ·rw [Am (BC (AV (AK e) hp))]
  exact n
 ·obtain ⟨o,es,ep,ho,r⟩:=hm
  exact ⟨o,es,ep,k _ o (fun z=>(hf _ z).2.1 rfl) ho,r⟩
 ·by_cases hb:b=a
  ·subst hb;rw [Ac] at e;cases e;exact new
  ·rw [Am hb] at e
   refine (I.hok b u e).stay (fun c v hc q=>k c v ?_ q) (fun c q=>old c _ q) fun c xs q=>old c _ q
   rcases hc with z|z
   ·rw [z];exact nit b u e
   ·exact nit c _ z
theorem Mm {kd:Bool}{pins:List (IC×Obj)}{σ:L2.St}{H:Hp}{s:IB}{a:IC}{xs:IP}(I:Aw X pins σ H s)(h:Vl kd X.K H a xs):∃its:II,A6 xs its∧Uj kd s.heap a its.toArray:=by
 cases kd with
 |true=>obtain ⟨its,r,p,_⟩:=I.list h;exact ⟨its,r,p.isList⟩
 |false=>obtain ⟨its,r,p,_⟩:=I.tuple h;exact ⟨its,r,p⟩
theorem Aep {kd:Bool}{pins:List (IC×Obj)}{σ:L2.St}{H:Hp}{s:IB}{a:IC}{xs ys:IP}(I:Aw X pins σ H s)(h:Vl kd X.K H a xs)(h':Vl kd X.K H a ys):xs=ys:=by
 cases kd with
 |true=>exact I.list_inj h h'
 |false=>exact I.tuple_inj h h'
def Itz (k1 k2:Bool)(K:KKf)(a b:IC):It:=
 ⟨fun i H=>∃xs ys x y,Vl k1 K H a xs∧Vl k2 K H b ys∧xs[i]? =some x∧ys[i]? =some y,
  fun i H v H'=>∃t x y,v=.ref t∧H t=none∧H'=upd H t (.tup [x,y])∧(∀xs,Vl k1 K H a xs→xs[i]? =some x)∧∀ys,Vl k2 K H b ys→ys[i]? =some y,
  fun i H=>∃xs ys,Vl k1 K H a xs∧Vl k2 K H b ys∧(xs.length≤i∨ys.length≤i)⟩
theorem Aby {n l1 l2:Nat}(h1:l1<n)(h2:l2<n):ZipApart (n+4) (n+2) (n+3) n (n+1) l1 l2:=by
 constructor<;>(show @Ne Nat _ _)<;>omega
theorem Ady {P:IE}{w:IF}{K:KKf}{es:IJ}{x1}{pos:Pos}{k1 k2:Bool}{z TI TO i1 i2 a b:IC}(D:ZipApart z TI TO i1 i2 a b) :
  Wz P w K (.Tuple es x1 pos) (Itz k1 k2 K a b) [z,TI,TO,i1,i2] z (ZAt k1 k2 z TI TO i1 i2 a b) where
 mem:=by simp
 obj:=fun i h Z c hc=>by
  have hc:c=z∨c=TI∨c=TO∨c=i1∨c=i2:=by simpa using hc
  rcases hc with rfl|rfl|rfl|rfl|rfl
  ·exact ⟨_,Z.z,fun v e=>by cases e⟩
  ·exact ⟨_,Z.ti,fun v e=>by cases e⟩
  ·obtain ⟨u,v,e⟩:=Z.to
   exact ⟨_,e,fun v e=>by cases e⟩
  ·exact Z.a.ob
  ·exact Z.b.ob
 keep:=fun i h h' Z k=>by
  obtain ⟨u,v,e⟩:=Z.to
  exact ⟨k z (by simp) _ Z.z,k TI (by simp) _ Z.ti,⟨u,v,k TO (by simp) _ e⟩,Z.a.mv fun o q=>k i1 (by simp) o q,Z.b.mv fun o q=>k i2 (by simp) o q⟩
 item:=by
  intro X hP hw hK hc i pins s σ H E I hf Z hg
  subst hP hw hK
  obtain ⟨xs,ys,x,y,q1,q2,e1,e2⟩:=hg
  obtain ⟨us,r1,p1⟩:=Mm I q1
  obtain ⟨vs,r2,p2⟩:=Mm I q2
  obtain ⟨u,hu,ru⟩:=r1.get e1
  obtain ⟨v,hv,rv⟩:=r2.get e2
  have F:=fun c (m:c∈[z,TI,TO,i1,i2])=>hf c m
  have hfr:H s.heap.objs.size=none:=I.hok.fresh (AF _)
  refine Aa9 D Z p1 p2 (x:=u) (y:=v) (by simpa using hu) (by simpa using hv) fun g a1 a2 a3 a4 a5 kp=>⟨_,rfl,?_⟩
  have zlt:z<s.heap.objs.size:=AK Z.z
  have tlt:TO<s.heap.objs.size:=by obtain ⟨_,_,e⟩:=Z.to;exact AK e
  have ilt:i1<s.heap.objs.size:=by obtain ⟨_,e,_⟩:=Z.a.ob;exact AK e
  have jlt:i2<s.heap.objs.size:=by obtain ⟨_,e,_⟩:=Z.b.ob;exact AK e
  refine wpAny_letOwnedTupleGo_zip (s:={ s with heap:=g }) a1 fun g' z' s'=>?_
  have kp':∀c o,c≠z→c≠TO→c≠i1→c≠i2→s.heap.get? c=some o→g'.get? c=some o:=fun c o n1 n2 n3 n4 e=>s'.extBut _ _ n1 (kp c o n1 n2 n3 n4 e)
  have a5':IsPair g' s.heap.objs.size u v:=s'.extBut _ _ (DN zlt) a5
  have I1:Aw X pins σ (upd H s.heap.objs.size (.tup [x,y])) { s with heap:=g' }:=by
   refine Xx I (fp:=[z,TO,i1,i2]) (fun c o hc e=>kp' c o (fun x=>hc (by simp [x])) (fun x=>hc (by simp [x])) (fun x=>hc (by simp [x])) (fun x=>hc (by simp [x])) e) ?_ (AF _) ?_
   ·intro c hc
    exact hf c (by simp at hc ⊢;rcases hc with h|h|h|h<;>simp [h])
   ·exact ⟨by show 2≤sizeLine;decide,[u,v],.cons ru (.cons rv .nil),⟨_,a5',rfl,_,rfl⟩⟩
  refine ⟨.ref s.heap.objs.size,_,I1,rfl,⟨_,x,y,rfl,hfr,rfl,fun zs hz=>by rw [Aep I hz q1];exact e1,fun zs hz=>by rw [Aep I hz q2];exact e2⟩,?_,?_⟩
  ·exact ⟨z',kp' _ _ D.TIz D.TITO D.TIi1 D.TIi2 Z.ti,⟨_,_,s'.extBut _ _ D.TOz a2⟩,a3.mv fun o e=>s'.extBut _ _ D.i1z e,a4.mv fun o e=>s'.extBut _ _ D.i2z e⟩
  ·intro c hc
   have hlt:c<s.heap.objs.size:=by
    have hc:c=z∨c=TI∨c=TO∨c=i1∨c=i2:=by simpa using hc
    rcases hc with rfl|rfl|rfl|rfl|rfl
    ·exact zlt
    ·exact AK Z.ti
    ·exact tlt
    ·exact ilt
    ·exact jlt
   rw [Am (BC hlt)]
   exact (hf c hc).1
 done:=by
  intro X hP hw hK hc i pins s σ H E I hf Z hg
  subst hP hw hK
  obtain ⟨xs,ys,q1,q2,e⟩:=hg
  obtain ⟨us,r1,p1⟩:=Mm I q1
  obtain ⟨vs,r2,p2⟩:=Mm I q2
  have l1:=r1.length
  have l2:=r2.length
  have he:us.toArray[i]? =none∨vs.toArray[i]? =none:=by
   rcases e with e|e
   ·left
    simp
    omega
   ·right
    simp
    omega
  refine Acu (I.ok.hd hc) D Z p1 p2 he fun g kp=>⟨rfl,?_⟩
  refine Mg I (fp:=[z,TO,i1,i2]) (fun c o hc e=>kp c o (fun x=>hc (by simp [x])) (fun x=>hc (by simp [x])) (fun x=>hc (by simp [x])) (fun x=>hc (by simp [x])) e) ?_
  intro c hc
  exact hf c (by simp at hc ⊢;rcases hc with h|h|h|h<;>simp [h])
 self:=fun _ _ _ _ _ Z h=>wpAny_pyIter_zip Z.z h
def Apt (k1 k2:Bool)(K:KKf)(ta:TA):TI:=fun σ H R=>ta σ H fun vs H1=>match vs with
 |[.ref a,.ref b]=>(∃xs,Vl k1 K H1 a xs)∧(∃ys,Vl k2 K H1 b ys)∧R (Itz k1 k2 K a b) H1
 |_=>False
theorem Ach (k1 k2:Bool){a b:Expr}{ta:TA}{p pos:Pos}{es:IJ}{x1}{tp:Pos}(hg:Gl X "zip")(hm:X.mg "zip"=none)(ha:PA X [a,b] ta)(hs:starEach [a,b] X.env=[(false,eval a X.env),(false,eval b X.env)]:=by rfl)
  (hs2:starEach [b] X.env=[(false,eval b X.env)]:=by rfl):PI X (.Tuple es x1 tp) (.Call (.Name "zip" p) [a,b] [] pos) (Apt k1 k2 X.K ta):=by
 intro pins s σ H R I h
 refine Call_ (Gi I hg hm boot_zip (DH (Bo (ha pos pins s σ H _ I h) fun us s1 ⟨vs,H1,I1,r1,q1⟩=>?_) (by rw [hs,hs2]) (by rw [hs2];rfl)))
 match vs,q1 with
 | [.ref l1,.ref l2],⟨⟨xs,hx⟩,⟨ys,hy⟩,q⟩=>
  obtain ⟨u,v,rfl,e1,e2⟩:=Lk r1
  cases (show u=Value.ref l1 from e1)
  cases (show v=Value.ref l2 from e2)
  obtain ⟨us',_,p1⟩:=Mm I1 hx
  obtain ⟨vs',_,p2⟩:=Mm I1 hy
  have lt1:=p1.lt
  have lt2:=p2.lt
  refine Abm p1 p2 fun g Z kp=>wpAny_pyIter_zip (s:={ s1 with heap:=g }) Z.z ?_
  have I2:Aw X pins σ H1 { s1 with heap:=g }:=I1.kept (t':=s1.toks) kp
  refine ⟨_,[s1.heap.objs.size+4,s1.heap.objs.size+2,s1.heap.objs.size+3,s1.heap.objs.size,s1.heap.objs.size+1],_,_,H1,rfl,I2,Ady (Aby lt1 lt2),Z,fun c hc=>?_,q⟩
  have hc:@LE.le Nat _ s1.heap.objs.size c:=by
   have hc:c=s1.heap.objs.size+4∨c=s1.heap.objs.size+2∨c=s1.heap.objs.size+3∨c=s1.heap.objs.size∨c=s1.heap.objs.size+1:=by simpa using hc
   rcases hc with h|h|h|h|h<;>rw [h]<;>first|exact AF _|exact GG _ _
  exact I1.fpOk hc (I1.hok.fresh hc)
end
section
variable {X:Cx}
def Aof:R2:=fun x y H Q=>match x,y with
 |.ref l,.ref b=>∃xs zs,H l=some (.lst xs)∧H b=some (.lst zs)∧xs.length+zs.length≤1000∧∀p H',Aj H H'→H' p=some (.lst (xs++zs))→Q (.ref p) H'
 |_,_=>False
theorem L6:Dh X (binaryOp .Add) Aof:=by
 intro pins s σ H x y v u Q I rx ry q
 cases x<;>cases y<;>first
  |exact False.elim q
  | (obtain ⟨xs,zs,h1,h2,h3,q⟩:=q
     exact Afx _ _ _ _ _ _ _ _ _ I rx ry ⟨_,_,xs,zs,rfl,rfl,h1,h2,AI h3 (by decide),fun p hp=>q p _ (Ah hp) Ac⟩)
def Aqf (K:KKf):V→Option Int→Option Int→Hp→VK→Prop:=fun x lo hi H Q=>match x with
 |.ref a=>∃xs,Au K H a xs∧∀p H',Aj H H'→H' p=some (.lst (Fd xs lo hi))→Q (.ref p) H'
 |_=>False
theorem Ac7:SlR X (Aqf X.K):=by
 intro pins s σ H x v vl vu lo hi sl Q I rx hs pl pu h
 cases x<;>first
  |exact False.elim h
  | (obtain ⟨xs,h1,q⟩:=h
     exact Zp _ _ _ _ _ _ _ _ _ _ _ _ I rx hs pl pu ⟨_,xs,rfl,h1,fun p hp=>q p _ (Ah hp) Ac⟩)
theorem Aci {xs:IP}{lo hi:Option Int}{v:V}(h:v∈Fd xs lo hi):v∈xs:=List.mem_of_mem_drop (EZ h)
end
end Lw
end
section
namespace Lw
open PySem PySem.Spec PyProof.Rows L2
section
variable {prog:IE}{w:IF}{A:ID}{R:Result→IB→Prop}{s:IB}
theorem Ahz (elt tg iter:Expr)(scope:Scope)(pos:Pos)(it acc:IA)(env:Env) :
  compTurn (.ListComp elt [⟨tg,iter,[],0⟩] scope pos) 0 it acc env=(standAt iter.pos >>= fun _=>pyNext it >>= fun r=>match r with
   |none=>pure (.done .next)
   |some v=>letOwnedTupleGo tg it v >>= fun _=>assign tg env v >>= fun _=>(eval elt env >>= fun x=>call (.builtin "list.append") [acc,x] >>= fun _=>pure ()) >>= fun _=>again (.compLoop (.ListComp elt [⟨tg,iter,[],0⟩] scope pos) 0 it acc env)):=rfl
theorem Abl {elt tg iter:Expr}{scope:Scope}{pos:Pos}{it acc:IA}{env:Env}(I:Nat→IB→Prop)
  (turn:∀n s,I n s→wpAny (model prog w) A (pyNext it) (fun r s1=>(r=none∧R (.ok .next) s1)∨∃v,r=some v∧wpAny (model prog w) A (letOwnedTupleGo tg it v) (fun _ s2=>wpAny (model prog w) A (assign tg env v) (fun _ s3=>
   wpAny (model prog w) A (eval elt env) (fun x s4=>wpAny (model prog w) A (call (.builtin "list.append") [acc,x]) (fun _ s5=>∃m,m<n∧I m s5) (fun _ _=>False) s4) (fun _ _=>False) s3) (fun _ _=>False) s2) (fun _ _=>False) s1) (fun _ _=>False) s)
  (n:Nat) (h:I n s):codeAny (model prog w) A (.compLoop (.ListComp elt [⟨tg,iter,[],0⟩] scope pos) 0 it acc env) R s:=by
 refine codeAny_loop rfl I (fun n s hI=>?_) n h
 show wpAny _ _ ((compTurn (.ListComp elt [⟨tg,iter,[],0⟩] scope pos) 0 it acc env).onRaise (fun x=>do noteFrame x env;theTreesLotGoes x)) _ _ s
 refine wpAny_noted ?_
 rw [Ahz]
 refine AA (HJ (AA (CK (turn n s hI) (fun r s1 h1=>?_) fun _ _ z=>z.elim)))
 rcases h1 with ⟨rfl,h1⟩|⟨v,rfl,h1⟩
 ·exact AC h1
 ·refine AA (CK h1 (fun _ s2 h2=>?_) fun _ _ z=>z.elim)
  refine AA (CK h2 (fun _ s3 h3=>?_) fun _ _ z=>z.elim)
  refine AA (AA (CK h3 (fun x s4 h4=>?_) fun _ _ z=>z.elim))
  refine AA (CK h4 (fun _ s5 h5=>?_) fun _ _ z=>z.elim)
  exact AC (AC ⟨rfl,h5⟩)
end
abbrev Ia (X:Cx)(N:IG)(s₀:IB)(H₀:Hp)(env:Env)(fp:List IC):Cx:=
 { X with N:=N,s₀:=s₀,H₀:=H₀,env:=env,outer:=X.stack,ex:=fp,fn:=fun _=>false,pn:=[],xe:=fun _ _=>False }
structure Cap (X:Cx)(sc:Scope)(cl:List (Str×IC))(j:Nat)(y:Str):Prop where
 nm:X.N[j]? =some y
 ko:X.env.kindOf y=some .cell
 ki:sc.names.lookup y=some .cell
 cl:cl.lookup y=X.env.cells.lookup y
def capσ (js:IM)(σ:L2.St):L2.St:=js.map fun j=>(σ[j]?).join
@[irreducible] def Hr (J:It) (g:TG) (te:TE) (k:Nat) (js:IM) (σ:L2.St) (H1:Hp) (Q:VK):Prop:=∀D,H1 D=none→∃W:Nat→Nat→Hp→Prop,(∃m,W 0 m (upd H1 D (.lst [])))∧∀i m H,W i m H →
 (J.stop i H∧Q (.ref D) H)∨(J.go i H∧∀x H',J.yld i H x H'→g x (List.replicate k none++capσ js σ) H' fun σ2 H2=>σ2.drop k=capσ js σ∧te σ2 H2 fun v H3=>∃xs,H3 D=some (.lst xs)∧xs.length<sizeLine∧∃m',m'<m∧W (i+1) m' (upd H3 D (.lst (xs++[v]))))
def We (wi:TI)(g:TG)(te:TE)(k:Nat)(js:IM):TE:=fun σ H Q=>wi σ H fun J H1=>Hr J g te k js σ H1 Q
section
variable {X:Cx}
theorem Z4 {pins:List (IC×Obj)}{σ:L2.St}{H:Hp}{s:IB}{N:IG}{scope:Scope}{cl:List (Str×IC)}{C:IC}{fp:List IC}(I:Aw X pins σ H s)(hk:scope.kind=.function)(hC:s.heap.objs.size≤C)
  (hcl:∀y c,cl.lookup y=some c→X.env.cells.lookup y=some c) (hhas:∀y,((relabel scope X.env).names.lookup y=some .cell∨(relabel scope X.env).names.lookup y=some .free)→∃c,cl.lookup y=some c)
  (hf:∀b∈fp,Lh X pins H b∧b<s.heap.objs.size):(Ia X N s H (compEnvC scope cl C X.env) fp).Ok where
 mod:=I.ok.mod
 kind:=hk
 glob:=I.ok.glob
 blt:=I.ok.blt
 above:=hC
 inj:=fun x y c e1 e2=>I.ok.inj x y c (hcl x c e1) (hcl y c e2)
 has:=fun x h=>hhas x h
 cab:=fun x c z=>absurd z (by simp)
 hd:=I.ok.hd
 frames:=I.ok.frames
 stk:=.inl rfl
 exf:=fun b hb=>⟨BC (AV (hf b hb).2 hC),fun x c e=>(hf b hb).1.2.2.2.2.1 x c (hcl x c e)⟩
 bs:=I.bs
 bsz:=AI I.ok.bsz I.sz
 noex:=fun b o e hb=>by
  rcases (hf b hb).1.2.2.2.1 with z|z
  ·exact I.ok.noex b o e z
  ·exact absurd (AV (AK (I.ok.bs b o e).1) z) (DY _)
 exfs:=fun b hb hm=>by
  rcases AS.mp (I.stkSub b hm) with z|z
  ·exact (hf b hb).1.2.1 z
  ·exact (hf b hb).1.2.2.1 z
 funs:=I.stack
 frf:=I.stkFree
theorem Ru {elt iter tg:Expr}{scope:Scope}{pos:Pos}{wi:TI}{te:TE}{g:TG}{N:IG}{cl:List (Str×IC)}(k:Nat)(js:IM)(hi:PI X tg iter wi)
  (hg:∀C s H fp,PG (Ia X N s H (compEnvC scope cl C X.env) fp) tg g) (he:∀C s H fp,PE (Ia X N s H (compEnvC scope cl C X.env) fp) elt te) (hcalm:X.calm=true)
  (hclos:closureFor scope X.env=pure cl) (hkind:scope.kind=.function) (hcell:∀y∈scope.names,y.2≠.cell) (hnames:∀y∈scope.names,y.2=.local→scope.names.lookup y.1=some .local)
  (hcl:∀y c,cl.lookup y=some c→X.env.cells.lookup y=some c) (hhas:∀y,((relabel scope X.env).names.lookup y=some .cell∨(relabel scope X.env).names.lookup y=some .free)→∃c,cl.lookup y=some c)
  (hlen:N.length=k+js.length) (hcap:∀i j,js[i]? =some j→∃y,N[k+i]? =some y∧Cap X (relabel scope X.env) cl j y)
  (hs:∀x,foldedSetIterable iter X.env x=pure x) {pins:List (IC×Obj)} {s:IB} {σ:L2.St} {H:Hp} {Q:VK} (I:Aw X pins σ H s) (h:We wi g te k js σ H Q) {cpos:Pos} {use:Option (IA→Sem Unit)} {Qv:IA→IB→Prop}
  (fin:∀(s6:IB) (H5:Hp) (D C:IC) (m:Str→IK),Aw X pins σ H5 s6→s6.heap.Ns C m→H5 C=none→X.s₀.heap.objs.size≤C→C≠X.env.locals→(∀x c,X.env.cells.lookup x=some c→c≠C)→(∀p∈X.pn++pins,p.1≠C)→Q (.ref D) H5 →
   compPost (model X.prog X.w) X.A X.xe use Qv (.ref D) C (.ok .next) s6) :
  wpAny (model X.prog X.w) X.A (comprehension (.ListComp elt [⟨tg,iter,[],0⟩] scope pos) scope X.env cpos (newList []) false (eval iter X.env) use) Qv X.xe s:=by
 refine wpAny_comprehension_free (use:=use) rfl hs hclos hkind hnames (Bo (hi pins s σ H _ I h) fun v s1 h1=>Bo h1 fun itv s2 h2=>?_)
 obtain ⟨it,fp,tn,J,H2,rfl,I2,T,st2,f2,h2⟩:=h2
 refine CD ?_
 have hD:H2 s2.heap.objs.size=none:=I2.hok.fresh (AF _)
 unfold Hr at h2
 obtain ⟨W,⟨m0,w0⟩,turn⟩:=h2 _ hD
 have I3:Aw X pins σ (upd H2 s2.heap.objs.size (.lst [])) { s2 with heap:=s2.heap.push { cls:=.type "list",dict:=none,data:=.seq ([]:II).toArray } } :=
  I2.laid (t':=s2.toks) (fun b u e=>AB _ e) (AF _) ⟨BK _,[],0,.nil,AJ _ rfl⟩
 have hlt:∀b∈fp,b<s2.heap.objs.size:=fun b hb=>by
  obtain ⟨o,e,_⟩:=T.obj _ _ st2 b hb
  exact AK e
 have f3:∀b∈fp,Lh X pins (upd H2 s2.heap.objs.size (.lst [])) b:=fun b hb=>⟨by rw [Am (BC (hlt b hb))];exact (f2 b hb).1,(f2 b hb).2⟩
 have st3:tn 0 (s2.heap.push { cls:=.type "list",dict:=none,data:=.seq ([]:II).toArray }):=T.keep _ _ _ st2 fun b hb o e=>AB _ e
 have hlt3:∀b∈fp,b<(s2.heap.push { cls:=.type "list",dict:=none,data:=.seq ([]:II).toArray }).objs.size:=fun b hb=>AV (hlt b hb) (by rw [CL];exact DW _)
 generalize hs3:({ s2 with heap:=s2.heap.push { cls:=.type "list",dict:=none,data:=.seq ([]:II).toArray } }:IB)=s3 at I3
 have eh:s3.heap=s2.heap.push { cls:=.type "list",dict:=none,data:=.seq ([]:II).toArray }:=by rw [←hs3]
 rw [←eh] at st3 hlt3
 generalize hDD:s2.heap.objs.size=D at *
 generalize hH3:upd H2 D (.lst [])=H3 at *
 clear hs3 eh
 refine wpAny_newFunctionEnv (s:=s3) hcell (by intro y hy;simp at hy) (fun h4 n4 sb4=>?_) hkind
 have Ok:=Z4 (N:=N) (C:=s3.heap.objs.size) I3 hkind (AF _) hcl hhas fun b hb=>⟨f3 b hb,hlt3 b hb⟩
 show codeAny _ _ (.compStart (.ListComp elt [⟨tg,iter,[],0⟩] scope pos) 0 (.ref it) (.ref D) (compEnvC scope cl s3.heap.objs.size X.env)) _ _
 generalize hC:s3.heap.objs.size=C at *
 have old:∀b o,s3.heap.get? b=some o→h4.get? b=some o:=fun b o e=>sb4.extBut b o (by rw [←hC];exact BC (AK e)) (AB _ e)
 have fresh:H3 C=none:=I3.hok.fresh (by rw [hC];exact AF _)
 have hcapl:∀{i:Nat} {x:Str} {v:V},N[i]? =some x→(List.replicate k none++capσ js σ)[i]? =some (some v)→∃u,L2.RelV v u∧Alb (compEnvC scope cl C X.env) h4 (fun _=>none) x u:=by
  intro i x v e1 e2
  by_cases hik:i<k
  ·rw [BZ (by simpa using hik)] at e2
   rw [EE] at e2
   simp [hik] at e2
  ·rw [BP (by simpa using EG hik),ET] at e2
   unfold capσ at e2
   rw [BE] at e2
   cases ej:js[i-k]? with
   |none=>
    rw [ej] at e2
    cases e2
   | some j=>
    rw [ej] at e2
    have e2:(σ[j]?).join=some v:=Option.some.inj e2
    obtain ⟨y,hy,cp⟩:=hcap _ _ ej
    rw [show k+(i-k)=i by omega,e1] at hy
    cases hy
    obtain ⟨m,_,hl⟩:=I3.loc
    have e3:σ[j]? =some (some v):=by
     cases q:σ[j]? with
     |none=>
      rw [q] at e2
      cases e2
     |some o=>
      rw [q] at e2
      have:o=some v:=e2
      rw [this]
    obtain ⟨u,ru,lk⟩:=hl j x v cp.nm e3 (.inr (.inl cp.ko))
    refine ⟨u,ru,?_⟩
    rcases lk with ⟨z,_⟩|⟨_,c,hc,z⟩
    ·rw [cp.ko] at z
     cases z
    ·refine .inr ⟨.inl cp.ki,c,by rw [←hc];exact cp.cl,?_⟩
     obtain ⟨o,e,d⟩:=z
     exact ⟨o,old _ _ e,d⟩
 have I4:Aw (Ia X N s3 H3 (compEnvC scope cl C X.env) fp) [] (List.replicate k none++capσ js σ) H3 { s3 with heap:=h4,toks:=s3.toks+([]:List (Str×IA)).length }:=by
  refine ⟨Ok,rfl,I3.bare,Un.kept old,⟨_,n4,fun i x v e1 e2 e3=>?_⟩,fun x c e=>?_,fresh,fun x c e=>I3.freeC x c (hcl x c e),fun p hp=>absurd hp (by simp),I3.hok.kept old,?_⟩
  ·obtain ⟨u,ru,lk⟩:=hcapl e1 e2
   refine ⟨u,ru,?_⟩
   rcases lk with ⟨z,q⟩|q
   ·cases q
   ·exact .inr q
  ·obtain ⟨v,o,e1,d⟩:=I3.cell x c (hcl x c e)
   exact ⟨v,o,old _ _ e1,d⟩
  ·simp [capσ,hlen]
 have fp4:∀{H':Hp},(∀b∈fp,H' b=none)→∀b∈fp,Lh (Ia X N s3 H3 (compEnvC scope cl C X.env) fp) [] H' b:=fun hn b hb=>
  ⟨hn b hb,(Ok.exf b hb).1,Ok.exfs b hb,.inl hb,fun x c e=>(Ok.exf b hb).2 x c e,fun p hp=>absurd hp (by simp)⟩
 have st4:tn 0 h4:=T.keep _ _ _ st3 fun b hb o e=>old b o e
 have run:∀s4:IB,s4={ s3 with heap:=h4,toks:=s3.toks+([]:List (Str×IA)).length } →
   codeAny (model X.prog X.w) X.A (.compLoop (.ListComp elt [⟨tg,iter,[],0⟩] scope pos) 0 (.ref it) (.ref D) (compEnvC scope cl C X.env)) (compPost (model X.prog X.w) X.A X.xe use Qv (.ref D) C) s4:=by
  rintro s4 rfl
  refine Abl (fun n s'=>∃i H' σ',Aw (Ia X N s3 H3 (compEnvC scope cl C X.env) fp) [] σ' H' s'∧(∀j:Nat,∀v,(List.replicate k none++capσ js σ)[j]? =some (some v)→σ'[j]? =some (some v))∧tn i s'.heap∧(∀b∈fp,H' b=none)∧W i n H') ?_ m0
   ⟨0,H3,_,I4,fun _ _ z=>z,st4,fun b hb=>(f3 b hb).1,w0⟩
  rintro n s5 ⟨i,H5,σ5,I5,cap5,st5,fr5,w5⟩
  have I5':=I5.weak (σ':=List.replicate k none++capσ js σ) (by rw [I5.len];simp [capσ,hlen]) cap5
  rcases turn i n H5 w5 with ⟨stop,q⟩|⟨go,step⟩
  ·refine Bo (T.done (Ia X N s3 H3 (compEnvC scope cl C X.env) fp) rfl rfl rfl hcalm i [] s5 σ5 H5 _ I5 (fp4 fr5) st5 stop) fun r s6 ⟨hr,I6⟩=>.inl ⟨hr,?_⟩
   obtain ⟨m6,n6,_⟩:=I6.loc
   have hCf:H5 C=none:=I6.free
   have u6:=I6.base
   have uC:Un (Ww X.stack) fp H3 H5 s3.heap s6.heap:=⟨u6.keep,u6.slot,u6.free,u6.there,u6.tups,u6.frzs,u6.tbls⟩
   have I7:Aw X pins σ H5 s6:=I3.call' (s':=s6) I6.os uC I6.hok I6.bare fun b hb=>⟨(f3 b hb).2.2.2.1,(f3 b hb).2.1,(f3 b hb).2.2.2.2.1,(f3 b hb).2.2.2.2.2⟩
   have lt3:∀b o,s3.heap.get? b=some o→b≠C:=fun b o e=>by rw [←hC];exact BC (AK e)
   refine fin s6 H5 D C m6 I7 n6 hCf (by rw [←hC];exact I3.sz) (by rw [←hC];exact DN I3.lt) (fun x c e=>?_) (fun p hp=>lt3 p.1 p.2 (I3.pin p hp).1) q
   obtain ⟨v,o,e1,_⟩:=I3.cell x c e
   exact lt3 c o e1
  ·refine Bo (T.item (Ia X N s3 H3 (compEnvC scope cl C X.env) fp) rfl rfl rfl hcalm i [] s5 _ H5 _ I5' (fp4 fr5) st5 go) fun r s6 ⟨u,hr,h6⟩=>.inr ⟨u,hr,?_⟩
   refine Bo h6 fun _ s7 ⟨x,H7,I7,r7,y7,st7,fr7⟩=>?_
   have I7':=I7.pinned (fp4 fr7) (T.obj _ _ st7)
   refine Bo (hg C s3 H3 fp _ s7 _ H7 x u _ I7' r7 (step x H7 y7)) fun _ s8 ⟨σ8,H8,I8,d8,q8⟩=>?_
   refine Bo (he C s3 H3 fp _ s8 σ8 H8 _ I8 q8) fun vv s9 ⟨vx,H9,I9,r9,xs,hx9,hz9,m',hm',w9⟩=>?_
   obtain ⟨z9,its,n9,rl,e9⟩:=(show Bj X.prog X.w H9 s9.heap D (.lst xs) from I9.hok D _ hx9)
   have app:=Cy (X:=Ia X N s3 H3 (compEnvC scope cl C X.env) fp) _ s9 σ8 H9 (.ref D) [vx] (.ref D) [vv] (fun _ H'=>H'=upd H9 D (.lst (xs++[vx]))) I9 rfl (.cons r9 .nil) ⟨D,xs,vx,rfl,rfl,hx9,hz9,rfl⟩
   refine Bo app fun _ s10 ⟨_,H10,I10,_,e10⟩=>?_
   subst e10
   refine ⟨m',hm',i+1,_,σ8,I10.unpinned (pins:=[]),?_,T.keep _ _ _ st7 fun b hb o e=>(I10.pin (b,o) (BA _ (BA _ (C5 hb e)))).1,fun b hb=>?_,w9⟩
   ·intro j v e
    by_cases hjk:j<k
    ·rw [BZ (by simpa using hjk),EE] at e
     simp [hjk] at e
    ·rw [BP (by simpa using EG hjk),ET,←d8,List.getElem?_drop] at e
     rw [show k+(j-k)=j by omega] at e
     exact e
   ·obtain ⟨o,e,d⟩:=T.obj _ _ st7 b hb
    exact (I10.pin (b,o) (BA _ (BA _ (C5 hb e)))).2.1
 exact codeAny_compStart_list (run _ rfl) (T.self X.A 0 _ _ _ st4 (run _ rfl))
theorem Ajj {elt iter tg:Expr}{scope:Scope}{pos:Pos}{wi:TI}{te:TE}{g:TG}{N:IG}{cl:List (Str×IC)}(k:Nat)(js:IM)(hi:PI X tg iter wi)
  (hg:∀C s H fp,PG (Ia X N s H (compEnvC scope cl C X.env) fp) tg g) (he:∀C s H fp,PE (Ia X N s H (compEnvC scope cl C X.env) fp) elt te) (hcalm:X.calm=true)
  (hclos:closureFor scope X.env=pure cl) (hkind:scope.kind=.function) (hcell:∀y∈scope.names,y.2≠.cell) (hnames:∀y∈scope.names,y.2=.local→scope.names.lookup y.1=some .local)
  (hcl:∀y c,cl.lookup y=some c→X.env.cells.lookup y=some c) (hhas:∀y,((relabel scope X.env).names.lookup y=some .cell∨(relabel scope X.env).names.lookup y=some .free)→∃c,cl.lookup y=some c)
  (hlen:N.length=k+js.length) (hcap:∀i j,js[i]? =some j→∃y,N[k+i]? =some y∧Cap X (relabel scope X.env) cl j y)
  (hs:∀x,foldedSetIterable iter X.env x=pure x:=by intro _;rfl):PE X (.ListComp elt [⟨tg,iter,[],0⟩] scope pos) (We wi g te k js):=by
 intro pins s σ H Q I h
 rw [eval_ListComp]
 refine Ru k js hi hg he hcalm hclos hkind hcell hnames hcl hhas hlen hcap hs I h fun s6 H5 D C m I6 n6 z1 z2 z3 z4 z5 q=>⟨m,n6,fun h7 sb7=>⟨.ref D,H5,?_,rfl,q⟩⟩
 exact I6.turned (t':=s6.toks) (fun b o hb e=>(sb7.2 b hb).trans e) z1 z3.symm.symm (.inr z2) z4 z5
theorem Aeg {elt iter tg:Expr}{scope:Scope}{pos py spos:Pos}{i:Nat}{y:Str}{wi:TI}{te:TE}{g:TG}{N:IG}{cl:List (Str×IC)}(k:Nat)(js:IM)(hi:PI X tg iter wi)
  (hg:∀C s H fp,PG (Ia X N s H (compEnvC scope cl C X.env) fp) tg g) (he:∀C s H fp,PE (Ia X N s H (compEnvC scope cl C X.env) fp) elt te) (hcalm:X.calm=true)
  (hclos:closureFor scope X.env=pure cl) (hkind:scope.kind=.function) (hcell:∀y∈scope.names,y.2≠.cell) (hnames:∀y∈scope.names,y.2=.local→scope.names.lookup y.1=some .local)
  (hcl:∀y c,cl.lookup y=some c→X.env.cells.lookup y=some c) (hhas:∀y,((relabel scope X.env).names.lookup y=some .cell∨(relabel scope X.env).names.lookup y=some .free)→∃c,cl.lookup y=some c)
  (hlen:N.length=k+js.length) (hcap:∀i j,js[i]? =some j→∃y,N[k+i]? =some y∧Cap X (relabel scope X.env) cl j y)
  (hs:∀x,foldedSetIterable iter X.env x=pure x) (hN:X.N.Nodup) (hi':X.N[i]? =some y) (hy:X.env.scope.names.lookup y=some .local) (hsw:swapsWith (.ListComp elt [⟨tg,iter,[],0⟩] scope pos) (some (.Name y py)) spos.line X.env=pure true) :
  PS X (.Assign [.Name y py] (.ListComp elt [⟨tg,iter,[],0⟩] scope pos) spos) (X7 (We wi g te k js) (Oz i)):=by
 intro pins s σ H D I h
 rw [exec_Assign_Name_used _ _ _ _ hsw]
 refine AA (HJ (AA ?_))
 show wpAny _ X.A (do let _ ←comprehension (.ListComp elt [⟨tg,iter,[],0⟩] scope pos) scope X.env _ (newList []) false (eval iter X.env) (some (assign (.Name y py) X.env))) _ _ s
 refine AA (CK (Ru k js hi hg he hcalm hclos hkind hcell hnames hcl hhas hlen hcap hs (use:=some (assign (.Name y py) X.env)) (Qv:=fun _ s'=>SP X pins D .next s') I h fun s6 H5 D' C m I6 n6 z1 z2 z3 z4 z5 q=>?_)
  (fun _ s' hq=>AC (AC hq)) fun _ _ e=>e)
 show wpAny _ X.A (assign (.Name y py) X.env (.ref D')) _ _ _
 refine wpAny_assign_Name (L4 I6 hN hi' (.inl hy) (v:=.ref D') rfl (fun s8 I8 ⟨a,sb,ha⟩=>?_) (.inr hy))
 have na:C≠a:=by
  rcases ha with rfl|ha
  ·exact z3
  ·exact DI (z4 _ _ ha)
 exact ⟨m,n6.sameBut sb na,fun h9 sb9=>⟨_,H5,I8.turned (t':=s8.toks) (fun b o hb e=>(sb9.2 b hb).trans e) z1 z3 (.inr z2) z4 z5,q⟩⟩
def O7 (X:Cx)(sc:Scope)(cl:List (Str×IC)):IG→IM→Prop
 |y::ys,j::js=>Cap X sc cl j y∧O7 X sc cl ys js
 |[],[]=>True
 |_,_=>False
theorem O7.len {sc:Scope}{cl:List (Str×IC)}:∀{ys:IG} {js:IM},O7 X sc cl ys js→ys.length=js.length
 |[],[],_=>rfl
 |_::_,_::_,h=>congrArg (· + 1) (O7.len h.2)
 |[],_::_,h=>h.elim
 |_::_,[],h=>h.elim
theorem O7.at {sc:Scope}{cl:List (Str×IC)}:∀{ys:IG} {js:IM},O7 X sc cl ys js→∀(i j:Nat),js[i]? =some j→∃y,ys[i]? =some y∧Cap X sc cl j y
 |[],[],_,i,j,e=>by simp at e
 |y::ys,j::js,h,0,j',e=>by
  cases e
  exact ⟨y,rfl,h.1⟩
 |y::ys,j::js,h,i+1,j',e=>O7.at h.2 i j' (by simpa using e)
 |[],_::_,h,_,_,_=>h.elim
 |_::_,[],h,_,_,_=>h.elim
def Nk (cells:List (Str×IC)):List (Str×IC)→Prop
 |[]=>True
 |(y,c)::r=>cells.lookup y=some c∧Nk cells r
theorem Nk.at {cells:List (Str×IC)}:∀{cl:List (Str×IC)},Nk cells cl→∀y c,cl.lookup y=some c→cells.lookup y=some c
 |[],_,y,c,e=>by simp at e
 | (z,d)::r,h,y,c,e=>by
  rw [EI] at e
  cases q:y==z with
  |true=>
   rw [q] at e
   cases e
   rw [FA q]
   exact h.1
  |false=>
   rw [q] at e
   exact Nk.at h.2 y c e
theorem Fs {y:Str}:∀{cl:List (Str×IC)},(cl.map (·.1)).contains y=true→∃c,cl.lookup y=some c
 |[],h=>by simp at h
 | (z,d)::r,h=>by
  rw [EI]
  cases q:y==z with
  |true=>exact ⟨d,rfl⟩
  |false=>
   refine Fs (cl:=r) ?_
   rw [BW,List.contains_cons,q,Bool.false_or] at h
   exact h
theorem B5 {env:Env}{y:Str}:∀{names:List (Str×NameKind)} {k:NameKind},(names.map fun (n,k)=>if (k==NameKind.free&&env.scope.kind==.function&&env.kindOf n==some .cell) then (n,NameKind.cell) else (n,k)).lookup y=some k →
  (k=.cell∨k=.free)→∃z∈names,z.1=y∧(z.2=.free∨z.2=.cell)
 |[],_,h,_=>by simp at h
 | (n,kd)::r,k,h,hk=>by
  rw [BW] at h
  by_cases hc:(kd==NameKind.free&&env.scope.kind==.function&&env.kindOf n==some .cell)=true
  ·rw [show (match (n,kd) with|(n,k)=>if (k==NameKind.free&&env.scope.kind==.function&&env.kindOf n==some .cell)=true then (n,NameKind.cell) else (n,k))=(n,NameKind.cell) from AZ hc,EI] at h
   cases q:y==n with
   |true=>
    rw [BV,BV] at hc
    exact ⟨(n,kd),AO,(FA q).symm,.inl (FA hc.1.1)⟩
   |false=>
    rw [q] at h
    obtain ⟨z,hz,r1⟩:=B5 (names:=r) h hk
    exact ⟨z,AQ _ hz,r1⟩
  ·rw [show (match (n,kd) with|(n,k)=>if (k==NameKind.free&&env.scope.kind==.function&&env.kindOf n==some .cell)=true then (n,NameKind.cell) else (n,k))=(n,kd) from AW hc,EI] at h
   cases q:y==n with
   |true=>
    rw [q] at h
    cases h
    exact ⟨(n,kd),AO,(FA q).symm,hk.symm⟩
   |false=>
    rw [q] at h
    obtain ⟨z,hz,r1⟩:=B5 (names:=r) h hk
    exact ⟨z,AQ _ hz,r1⟩
theorem Cc {elt iter tg:Expr}{scope:Scope}{pos:Pos}{wi:TI}{te:TE}{g:TG}{cl:List (Str×IC)}(own ys:IG)(js:IM)(hclos:closureFor scope X.env=pure cl)(hi:PI X tg iter wi)
  (hg:∀C s H fp,PG (Ia X (own++ys) s H (compEnvC scope cl C X.env) fp) tg g) (he:∀C s H fp,PE (Ia X (own++ys) s H (compEnvC scope cl C X.env) fp) elt te) (hcalm:X.calm=true) (hkind:scope.kind=.function)
  (hcell:(scope.names.all fun y=>y.2 != .cell)=true) (hnames:(scope.names.all fun y=>y.2 != .local||scope.names.lookup y.1==some .local)=true) (hfr:(scope.names.all fun y=>y.2 != .free||(cl.map (·.1)).contains y.1)=true)
  (hcl:Nk X.env.cells cl) (hcap:O7 X (relabel scope X.env) cl ys js) (hs:∀x,foldedSetIterable iter X.env x=pure x:=by intro _;rfl) :
  PE X (.ListComp elt [⟨tg,iter,[],0⟩] scope pos) (We wi g te own.length js):=by
 rw [CI] at hcell hnames hfr
 have hc:∀y∈scope.names,y.2≠.cell:=fun y hy z=>by
  have:=hcell y hy
  rw [z] at this
  cases this
 refine Ajj own.length js hi hg he hcalm hclos hkind hc (fun y hy z=>?_) hcl.at (fun y h=>?_) (by rw [AG,hcap.len]) (fun i j e=>?_) hs
 ·have:=hnames y hy
  rw [z] at this
  simpa using this
 ·obtain ⟨z,hz,rfl,hk⟩:∃z∈scope.names,z.1=y∧(z.2=.free∨z.2=.cell):=by
   rcases h with h|h
   ·exact B5 h (.inl rfl)
   ·exact B5 h (.inr rfl)
  rcases hk with hk|hk
  ·have:=hfr z hz
   rw [hk] at this
   exact Fs (by simpa using this)
  ·exact absurd hk (hc z hz)
 ·obtain ⟨y,h1,h2⟩:=hcap.at i j e
  exact ⟨y,by rw [BP (GG _ _),FK];exact h1,h2⟩
theorem Wc {elt iter tg:Expr}{scope:Scope}{pos py spos:Pos}{i:Nat}{y:Str}{wi:TI}{te:TE}{g:TG}{cl:List (Str×IC)}(own ys:IG)(js:IM)(hclos:closureFor scope X.env=pure cl)(hi:PI X tg iter wi)
  (hg:∀C s H fp,PG (Ia X (own++ys) s H (compEnvC scope cl C X.env) fp) tg g) (he:∀C s H fp,PE (Ia X (own++ys) s H (compEnvC scope cl C X.env) fp) elt te) (hcalm:X.calm=true) (hkind:scope.kind=.function)
  (hcell:(scope.names.all fun y=>y.2 != .cell)=true) (hnames:(scope.names.all fun y=>y.2 != .local||scope.names.lookup y.1==some .local)=true) (hfr:(scope.names.all fun y=>y.2 != .free||(cl.map (·.1)).contains y.1)=true)
  (hcl:Nk X.env.cells cl) (hcap:O7 X (relabel scope X.env) cl ys js) (hN:X.N.Nodup) (hi':X.N[i]? =some y) (hy:X.env.scope.names.lookup y=some .local) (hs:∀x,foldedSetIterable iter X.env x=pure x:=by intro _;rfl) (hsw:swapsWith (.ListComp elt [⟨tg,iter,[],0⟩] scope pos) (some (.Name y py)) spos.line X.env=pure true:=by rfl) :
  PS X (.Assign [.Name y py] (.ListComp elt [⟨tg,iter,[],0⟩] scope pos) spos) (X7 (We wi g te own.length js) (Oz i)):=by
 rw [CI] at hcell hnames hfr
 have hc:∀y∈scope.names,y.2≠.cell:=fun y hy z=>by
  have:=hcell y hy
  rw [z] at this
  cases this
 refine Aeg own.length js hi hg he hcalm hclos hkind hc (fun y hy z=>?_) hcl.at (fun y h=>?_) (by rw [AG,hcap.len]) (fun i j e=>?_) hs hN hi' hy hsw
 ·have:=hnames y hy
  rw [z] at this
  simpa using this
 ·obtain ⟨z,hz,rfl,hk⟩:∃z∈scope.names,z.1=y∧(z.2=.free∨z.2=.cell):=by
   rcases h with h|h
   ·exact B5 h (.inl rfl)
   ·exact B5 h (.inr rfl)
  rcases hk with hk|hk
  ·have:=hfr z hz
   rw [hk] at this
   exact Fs (by simpa using this)
  ·exact absurd hk (hc z hz)
 ·obtain ⟨y,h1,h2⟩:=hcap.at i j e
  exact ⟨y,by rw [BP (GG _ _),FK];exact h1,h2⟩
end
end Lw
end
section
namespace Lw
open PySem PySem.Spec PyProof.Rows L2
section
variable {X:Cx}{pos p2 p3 p4:Pos}{e:Expr}{te:TE}
def Aqb:V→Option Int→Option Int→Hp→VK→Prop:=fun x lo hi H Q=>match x with
 |.str z=>z.length≤sizeLine∧Q (.str (Txt.slice z lo hi)) H
 |_=>False
theorem Ul:SlR X Aqb:=by
 intro pins s σ H x v vl vu lo hi sl Q I rx hs pl pu h
 cases x<;>first
  |exact False.elim h
  | (obtain ⟨hz,q⟩:=h
     obtain ⟨t,rfl⟩:=rx
     refine ⟨"str",_,F.slot_str_getitem.lookup,EY _ _ _,?_⟩
     cases pl<;>cases pu
     ·exact FL (l:=none) (u:=none) (st:=none) hs rfl (HV ⟨AI (HW _ _ _) hz,fun t' k=>⟨.str _,H,I.tok _,⟨_,rfl⟩,q⟩⟩)
     ·exact FL (l:=none) (u:=some (_,_)) (st:=none) hs rfl (HV ⟨AI (HW _ _ _) hz,fun t' k=>⟨.str _,H,I.tok _,⟨_,rfl⟩,q⟩⟩)
     ·exact FL (l:=some (_,_)) (u:=none) (st:=none) hs rfl (HV ⟨AI (HW _ _ _) hz,fun t' k=>⟨.str _,H,I.tok _,⟨_,rfl⟩,q⟩⟩)
     ·exact FL (l:=some (_,_)) (u:=some (_,_)) (st:=none) hs rfl (HV ⟨AI (HW _ _ _) hz,fun t' k=>⟨.str _,H,I.tok _,⟨_,rfl⟩,q⟩⟩))
def Ann:R2:=fun x y H Q=>match x,y with
 |.str i,.str j=>i.length+j.length≤sizeLine∧Q (.str (i++j)) H
 |_,_=>False
theorem Im:Dh X (binaryOp .Add) Ann:=by
 intro pins s σ H x y v u Q I rx ry q
 cases x<;>cases y<;>first
  |exact False.elim q
  |exact Xy _ _ _ _ _ _ _ _ _ I rx ry ⟨_,_,rfl,rfl,q.1,q.2⟩
def Apu:R2:=fun x y H Q=>match x,y with
 |.str z,.int i=>∃c,z.length≤sizeLine∧Na z.cps.toList i=some c∧Q (.str ⟨#[c]⟩) H
 |_,_=>False
theorem Ai4:Wv X Apu:=by
 intro value slice pins s σ H x y v u Q I rx ry h hs
 cases x<;>cases y<;>first
  |exact False.elim h
  | (obtain ⟨c,h1,h2,q⟩:=h
     exact Alz value slice pins s σ H _ _ v u Q I rx ry ⟨_,_,c,rfl,rfl,h1,h2,q⟩ hs)
theorem Sk:∀{ys:IG} {us:II},A6 (ys.map V.str) us→StrsAre us ys
 |[],_,r=>by
  cases r
  exact .nil
 | y::ys,_,r=>by
  cases r with
  |cons r1 r2=>
   obtain ⟨t,rfl⟩:=r1
   exact .cons y t (Sk r2)
def Wg (K:KKf):V→IP→Hp→VK→Prop:=fun x xs H Q=>match x,xs with
 |.str sep,[.ref p]=>∃ys:IG,Au K H p (ys.map V.str)∧(ys.map (·.length)).sum+ys.length*sep.length≤16777216∧Q (.str (Txt.join sep ys)) H
 |_,_=>False
theorem Ai8:MtR X "str.join" (Wg X.K):=by
 intro pins s σ H x xs v us Q I rx rs h
 match x,xs,h with
 |.str sep,[.ref p],⟨ys,h1,h2,q⟩=>
  obtain ⟨t,rfl⟩:=rx
  obtain ⟨u,rfl,r1⟩:=Fv rs
  cases r1
  obtain ⟨its,r,pl,_⟩:=I.list h1
  exact PyProof.Rows.join_list pl.isList (Sk r) h2 fun t' k=>⟨.str _,H,I.tok _,⟨_,rfl⟩,q⟩
theorem Ew {o:Expr}{to ta:_}{name:Str}{apos cpos:Pos}(ho:PE X o to)(ha:PA X [e] ta)(hbase:attributeBase o "join" X.env (eval o X.env)=eval o X.env:=by rfl)
  (hfew:((backTo cpos (starEach [e] X.env)).all (fun x=>!x.1)&&(backToKw cpos (keywordEach [] X.env)).all (fun x=>x.1.isSome)&&decide ([e].length+([]:List Keyword).length+(if ([]:List Keyword).isEmpty then 0 else 1)<30))=true:=by rfl)
  (hline:(apos.endLine==cpos.line)=true:=by rfl) (hs:starEach [e] X.env=(false,eval e X.env)::starEach [] X.env:=by rfl) (hplain:(backTo cpos (starEach [] X.env)).any (·.1)=false:=by rfl) :
  PE X (.Call (.Attribute o "join" apos) [e] [] cpos) (tBM X.K "str" (Wg X.K) to ta):=Em F.plainAttrs_str F.slot_str_join F.type_str_join Ai8 ho ha hbase hfew hline hs hplain
def Su (K:KKf):R2:=fun x y H Q=>match y with
 |.ref p=>∃xs,(Au K H p xs∨F5 K H p xs)∧Fu x=true∧xs.all Fu=true∧Q (.bl (inV x xs)) H
 |_=>False
theorem Q1:Dh X (compareOp .In) (Su X.K):=by
 intro pins s σ H x y v u Q I rx ry q
 cases y<;>first
  |exact False.elim q
  | (obtain ⟨xs,h1,h2,h3,q⟩:=q
     exact Abi _ _ _ _ _ _ _ _ _ I rx ry ⟨_,xs,rfl,h1,h2,h3,q⟩)
end
end Lw
end
section
namespace Lw
open PySem PySem.Spec PyProof.Rows L2
def co (x:Str):IM:=x.cps.toList
theorem A2 (x:Str):(co x).length=x.length:=by simp [co,Str.length]
theorem B8 (x y:Str):co (x++y)=co x++co y:=by
 show (x.cps++y.cps).toList=x.cps.toList++y.cps.toList
 rw [Array.toList_append]
theorem Ki (c:Nat):co ⟨#[c]⟩=[c]:=rfl
theorem Dq {x y:Str}(h:co x=co y):x=y:=by
 obtain ⟨x⟩:=x
 obtain ⟨y⟩:=y
 have:x=y:=Array.toList_inj.mp h
 rw [this]
theorem Dk (x y:Str):(x++y).length=x.length+y.length:=by
 rw [←A2,B8,AG,A2,A2]
theorem F7 (sep:Str):∀ys:IG,co (Txt.join sep ys)=co (Str.join sep ys):=fun ys=>by
 show co (Builtin.Str.glued sep ys)=_
 rw [StrLaws.glued_eq_join]
theorem Af7 (a b:Nat):sliceRange (a:Int) (b:Int) 1=(List.range (b-a)).map (fun k=>a+k):=by
 unfold sliceRange
 simp only [show ((1:Int)>0)=True from by simp,GL]
 by_cases h:(a:Int)<b
 ·have e3:(((b:Int)-a+1-1) / 1).toNat=b-a:=by omega
  simp only [h,GL,e3]
  refine List.map_congr_left fun k _=>?_
  omega
 ·have:b-a=0:=by omega
  simp [h,this]
theorem Lm (n d:Nat)(i:Int):max (0:Int) (min (if i<0 then i+(n:Int) else i) (n:Int))=((HT.sIx n d (some i):Nat):Int):=by
 show _=(((if i<0 then (i+(n:Int)).toNat else min i.toNat n):Nat):Int)
 by_cases h:i<0
 ·simp only [AZ h];omega
 ·simp only [AW h];omega
theorem Ag3 (lo hi:Option Int)(n:Nat):Builtin.Str.strSliceIndices lo hi 1 n=(List.range (HT.sIx n n hi-HT.sIx n 0 lo)).map (fun k=>HT.sIx n 0 lo+k):=by
 rw [←Af7]
 unfold Builtin.Str.strSliceIndices
 simp only [show ((1:Int)>0)=True from by simp,GL]
 cases lo with
 | none=>
  cases hi with
  |none=>rfl
  |some j=>
   show sliceRange 0 (max (0:Int) (min (if j<0 then j+(n:Int) else j) (n:Int))) 1=_
   rw [Lm n n j]
   rfl
 | some i=>
  cases hi with
  |none=>
   show sliceRange (max (0:Int) (min (if i<0 then i+(n:Int) else i) (n:Int))) (n:Int) 1=_
   rw [Lm n 0 i]
   rfl
  |some j=>
   show sliceRange (max (0:Int) (min (if i<0 then i+(n:Int) else i) (n:Int))) (max (0:Int) (min (if j<0 then j+(n:Int) else j) (n:Int))) 1=_
   rw [Lm n 0 i,Lm n n j]
theorem Oy (x:Str)(lo hi:Option Int):co (Txt.slice x lo hi)=((co x).drop (HT.sIx x.length 0 lo)).take (HT.sIx x.length x.length hi-HT.sIx x.length 0 lo):=by
 have ha:=HT.sIx_le x.length 0 (BK _) lo
 have hb:=HT.sIx_le x.length x.length (AF _) hi
 have hl:=A2 x
 unfold Txt.slice
 rw [Ag3]
 generalize HT.sIx x.length 0 lo=a at *
 generalize HT.sIx x.length x.length hi=b at *
 split
 ·rename_i h
  have h2:b-a=x.length:=by simpa using h
  have a0:a=0:=by omega
  subst a0
  rw [GZ,FS (by omega)]
 ·have p:=StrLaws.picks (co x) (b-a) a (by omega)
  rw [←p]
  show (List.filterMap _ _).toArray.toList=_
  rw [List.toList_toArray]
  congr 1
  funext k
  show x.cps[k]? =x.cps.toList[k]?
  rw [EC]
theorem Aiu {x:Str}{j:Nat}(h:j≤x.length):co (Txt.slice x none (some (j:Int)))=(co x).take j:=by
 rw [Oy,HT.sIx_none,HT.sIx_nat,Nat.min_eq_left h,GZ,Nat.sub_zero]
theorem Ahu {x:Str}{i:Nat}(h:i≤x.length):co (Txt.slice x (some (i:Int)) none)=(co x).drop i:=by
 rw [Oy,HT.sIx_none,HT.sIx_nat,Nat.min_eq_left h,FS]
 rw [Eh,A2]
 exact AF _
def abc:Str:=Str.ofString "abcdefghijklmnopqrstuvwxyz"
def lt (n:Int):Nat:=97+(n % 26).toNat
structure Nm (x:Str):Prop where
 len1:1≤(co x).length
 len8:(co x).length≤8
 abc:∀c∈co x,97≤c∧c<123
theorem Amk {x:Str}(h:∀c∈co x,c<1114112):PyData.strOk x=true:=by
 unfold PyData.strOk
 rw [←Array.all_toList,CI]
 exact fun c hc=>AR (h c hc)
end Lw
end
section
set_option autoImplicit false
namespace Lw
open PySem PySem.Spec PyProof.Rows L2
def vB:II:=[.type "ValueError",.type "Exception",.type "BaseException",.type "object"]
def clsIn (K:KKf)(C:IC):Bool:=match K.lookup C with
 |some ⟨.type "type",_,.cls _,_⟩=>true
 |_=>false
structure Aqz (K:KKf)(C:IC):Prop where
 nw:clsIn K C=true
 ga:PySem.W.findIn K (.ref C) "__getattribute__"=some (some (.builtin "BaseException.__getattribute__"))
 gn:PySem.W.findIn K (.ref C) "__getattr__"=some none
 cl:PySem.W.findIn K (.ref C) "__class__"=some (some (.builtin "object.__class__"))
 mo:PySem.W.mroIn K C (.type "object")=some true
 mb:PySem.W.mroIn K C (.type "BaseException")=some true
abbrev cxM (X:Cx)(v:IA):Cx:={ X with A:=X.A.mark (some v),calm:=false,xe:=fun _ _=>False }
structure Cat (K:KKf)(D:IC):Prop where
 lk:∃dd cd sl,K.lookup D=some ⟨.type "type",dd,.cls cd,sl⟩
 mb:PySem.W.mroIn K D (.type "BaseException")=some true
end Lw
end
section
namespace Lw
open PySem PySem.Spec PyProof.Rows L2
section
variable {X:Cx}{a b c:Expr}{ta tb tc:TE}{pos:Pos}{tg:Expr}
def Gr (mg:Str→IK)(x:Str)(v:V):Prop:=∃u,mg x=some u∧RelV v u
theorem Cv {x:Str}{v:V}(k:Gr X.mg x v)(hg:Gl X x)(hd:(x==("__debug__":Str))=false:=by decide):PE X (.Name x pos) (tC v):=by
 obtain ⟨u,h1,h2⟩:=k
 exact Af6 hg h1 h2 hd
def Aml (K:KKf):R2:=fun x y H Q=>match x,y with
 |.ref p,.int i=>∃xs v,F5 K H p xs∧Na xs i=some v∧Q v H
 |_,_=>False
theorem Akc:Wv X (Aml X.K):=by
 intro value slice pins s σ H x y v u Q I rx ry h hs
 cases x<;>cases y<;>first
  |exact False.elim h
  | (obtain ⟨xs,w,e,z,q⟩:=h
     exact X1 value slice pins s σ H _ _ v u Q I rx ry ⟨_,xs,_,w,rfl,rfl,e,z,q⟩ hs)
def S4 (r r':R2)(ta tb tc:TE):TE:=fun σ H Q=>ta σ H fun x H1=>tb σ H1 fun y H2=>r x y H2 fun z H3=>match z with
 |.bl k=>Br k (tc σ H3 fun w' H4=>r' y w' H4 Q) (Q (.bl false) H3)
 |_=>False
theorem R4 (r r':R2)(ta tb tc:TE):S4 r r' ta tb tc=Tp r r' ta tb tc:=by
 funext σ H Q
 unfold S4 Tp
 congr 1
 funext x H1
 congr 1
 funext y H2
 congr 1
 funext z H3
 apply propext
 cases z<;>simp [Rg]
theorem Agm {op op':CmpOp}{r r':R2}(ho:Dh X (compareOp op) r)(ho':Dh X (compareOp op') r')(ha:PE X a ta)(hb:PE X b tb)(hc:PE X c tc)
  (hm:lastMarks [op,op'] [b,c]=false:=by with_unfolding_all rfl):PE X (.Compare a [op,op'] [b,c] pos) (S4 r r' ta tb tc):=by
 rw [R4]
 exact Aeh ho ho' ha hb hc hm
theorem N4 {op op':CmpOp}{r r':R2}(ho:Dh X (compareOp op) r)(ho':Dh X (compareOp op') r')(ha:PE X a ta)(hb:PE X b tb)(hc:PE X c tc)
  (hm:lastMarks [op,op'] [b,c]=false:=by with_unfolding_all rfl):PT X (.Compare a [op,op'] [b,c] pos) (J3 (S4 r r' ta tb tc)):=by
 rw [O6,R4]
 exact Afj ho ho' ha hb hc hm
def Apc:R2:=fun x y H Q=>match x,y with
 |.str i,.str j=>∃c,i=⟨#[c]⟩∧Q (.bl (decide (c∈co j))) H
 |_,_=>False
theorem Ait:Dh X (compareOp .In) Apc:=by
 intro pins s σ H x y v u Q I rx ry q
 cases x<;>cases y<;>first
  |exact False.elim q
  | (obtain ⟨k,rfl,q⟩:=q
     exact Aa5 _ _ _ _ _ _ _ _ _ I rx ry ⟨_,_,rfl,rfl,by rw [StrLaws.found_one];exact q⟩)
def Its (x:Str):It:=⟨fun i _=>i<x.length,fun i H v H'=>H'=H∧∃c,(co x)[i]? =some c∧v=.str ⟨#[c]⟩,fun i _=>x.length≤i⟩
theorem Abr {P:IE}{w:IF}{K:KKf}(x:Str)(t:Tok)(it:IC):Wz P w K tg (Its x) [it] it (fun i h=>h.IsStrIter it "str_ascii_iterator" x t i) where
 mem:=by simp
 obj:=fun i h st b hb=>by
  have e:b=it:=by simpa using hb
  subst e
  obtain ⟨o,e,_,d⟩:=st
  exact ⟨o,e,fun v z=>by rw [d] at z;cases z⟩
 keep:=fun i h h' st k=>by
  obtain ⟨o,e,r⟩:=st
  exact ⟨o,k it (by simp) o e,r⟩
 item:=by
  intro X hP hw hK hc i pins s σ H E I hf st hg
  subst hP hw hK
  have hg:i<x.cps.size:=hg
  obtain ⟨f0,f1,f2,f3,f4,f5⟩:=hf it (by simp)
  refine wpAny_pyNext_ascii_item st (c:=x.cps[i]) (by simp [hg]) fun h' st' sb=>?_
  have I1:Aw X pins σ H { s with heap:=h',toks:=s.toks+1 }:=I.turned (fun b o hb e=>(sb.2 b hb).trans e) f0 f1 f3 f4 f5
  obtain ⟨o,e,c,d⟩:=id st'
  exact ⟨_,rfl,Zu (s:={ s with heap:=h',toks:=s.toks+1 }) e c d (by decide) ⟨.str _,H,I1,⟨_,rfl⟩,⟨rfl,_,by simp [co,hg],rfl⟩,st',fun b hb=>(hf b hb).1⟩⟩
 done:=by
  intro X hP hw hK hc i pins s σ H E I hf st hg
  subst hP hw hK
  have hg:x.cps.size≤i:=hg
  obtain ⟨f0,f1,f2,f3,f4,f5⟩:=hf it (by simp)
  exact wpAny_pyNext_ascii_end (I.ok.hd hc) st (by simp [hg]) fun h' eb=>⟨rfl,I.turned (t':=s.toks) (fun b o hb e=>eb b o hb e) f0 f1 f3 f4 f5⟩
 self:=fun _ _ _ _ _ st h=>wpAny_pyIter_striter_ascii st h
theorem Abx {P:IE}{w:IF}{K:KKf}(x:Str)(t:Tok)(it:IC):Wz P w K tg (Its x) [it] it (fun i h=>h.IsStrIter it "str_iterator" x t i) where
 mem:=by simp
 obj:=fun i h st b hb=>by
  have e:b=it:=by simpa using hb
  subst e
  obtain ⟨o,e,_,d⟩:=st
  exact ⟨o,e,fun v z=>by rw [d] at z;cases z⟩
 keep:=fun i h h' st k=>by
  obtain ⟨o,e,r⟩:=st
  exact ⟨o,k it (by simp) o e,r⟩
 item:=by
  intro X hP hw hK hc i pins s σ H E I hf st hg
  subst hP hw hK
  have hg:i<x.cps.size:=hg
  obtain ⟨f0,f1,f2,f3,f4,f5⟩:=hf it (by simp)
  refine wpAny_pyNext_wide_item st (c:=x.cps[i]) (by simp [hg]) fun h' st' sb=>?_
  have I1:Aw X pins σ H { s with heap:=h',toks:=s.toks+1 }:=I.turned (fun b o hb e=>(sb.2 b hb).trans e) f0 f1 f3 f4 f5
  obtain ⟨o,e,c,d⟩:=id st'
  exact ⟨_,rfl,Zu (s:={ s with heap:=h',toks:=s.toks+1 }) e c d (by decide) ⟨.str _,H,I1,⟨_,rfl⟩,⟨rfl,_,by simp [co,hg],rfl⟩,st',fun b hb=>(hf b hb).1⟩⟩
 done:=by
  intro X hP hw hK hc i pins s σ H E I hf st hg
  subst hP hw hK
  have hg:x.cps.size≤i:=hg
  obtain ⟨f0,f1,f2,f3,f4,f5⟩:=hf it (by simp)
  exact wpAny_pyNext_wide_end (I.ok.hd hc) st (by simp [hg]) fun h' eb=>⟨rfl,I.turned (t':=s.toks) (fun b o hb e=>eb b o hb e) f0 f1 f3 f4 f5⟩
 self:=fun _ _ _ _ _ st h=>wpAny_pyIter_striter_wide st h
def Apq (tl:TE):TI:=fun σ H R=>tl σ H fun x H1=>match x with
 |.str z=>R (Its z) H1
 |_=>False
theorem Ac2 {l:Expr}{tl:TE}(hl:PE X l tl):PI X tg l (Apq tl):=by
 intro pins s σ H R I h
 refine Bo (hl pins s σ H _ I h) fun v s1 ⟨x,H1,I1,r1,q1⟩=>?_
 cases x<;>first
  |exact False.elim q1
  | (rename_i z
     obtain ⟨t,rfl⟩:=r1
     have fp:∀(o:Obj),∀b∈[s1.heap.objs.size],Lh X pins H1 b:=fun o b hb=>by
       have e:b=s1.heap.objs.size:=by simpa using hb
       subst e
       exact I1.fpOk (AF _) (I1.hok.fresh (AF _))
     cases ha:z.cps.all (· < 128) with
     | true=>
       refine wpAny_pyIter_ascii ha ⟨s1.heap.objs.size,[s1.heap.objs.size],_,_,H1,rfl,I1.kept (t':=s1.toks) fun b o e=>AB _ e,Abr z t _,⟨_,AJ _ rfl,rfl,rfl⟩,fp default,q1⟩
     | false=>
       refine wpAny_pyIter_wide ha ⟨s1.heap.objs.size,[s1.heap.objs.size],_,_,H1,rfl,I1.kept (t':=s1.toks) fun b o e=>AB _ e,Abx z t _,⟨_,AJ _ rfl,rfl,rfl⟩,fp default,q1⟩)
theorem U2 {x:Str}{g:TG}{te:TE}{k:Nat}{js:IM}{σ:L2.St}{H1:Hp}{Q:VK}(f:Nat→V)(hz:x.length≤1000)
  (hs:∀c H2,c∈co x→Aj H1 H2→∀P:VK,P (f c) H2→g (.str ⟨#[c]⟩) (List.replicate k none++capσ js σ) H2 fun σ2 H3=>σ2.drop k=capσ js σ∧te σ2 H3 P)
  (hq:∀D H',Aj H1 H'→H' D=some (.lst ((co x).map f))→Q (.ref D) H') :
  Hr (Its x) g te k js σ H1 Q:=by
 unfold Hr
 intro D hD
 have hl:=A2 x
 refine ⟨fun i m H=>m=x.length-i∧i≤x.length∧H=upd H1 D (.lst (((co x).take i).map f)),⟨x.length,by simp,BK _,rfl⟩,?_⟩
 rintro i m H ⟨rfl,hi,rfl⟩
 by_cases hlt:i<x.length
 ·refine .inr ⟨hlt,fun v H' y=>?_⟩
  obtain ⟨e1,c,hc,rfl⟩:=y
  subst e1
  refine hs c _ (AN hc) (Ah hD) _ ⟨_,Ac,?_,x.length-(i+1),by omega,rfl,hlt,?_⟩
  ·rw [AE,CH]
   exact BO (GP _ _) (AV hlt (AI hz (by decide)))
  ·rw [Y4,BY,hc,BQ]
   rfl
 ·have e:i=x.length:=by omega
  subst e
  refine .inl ⟨AF _,hq D _ (Ah hD) ?_⟩
  rw [Ac,FS (by omega)]
def Aod:IP→Hp→VK→Prop:=fun xs H Q=>match xs with
 |[.int i]=>i.natAbs.log2<1920∧Q (.str (toString i)) H
 |_=>False
theorem Aev:Df X (.type "str") Aod:=by
 intro pins s σ H xs us Q I r h
 match xs,h with
 |[.int i],⟨h1,q⟩=>exact T9 pins s σ H _ us Q I r ⟨i,rfl,h1,q⟩
def Apo (K:KKf):IP→Hp→VK→Prop:=fun xs H Q=>match xs with
 |[.ref p]=>∃bs:List Bool,Au K H p (bs.map V.bl)∧Q (.bl (bs.all id)) H
 |_=>False
theorem P1:∀{bs:List Bool} {us:II},A6 (bs.map V.bl) us→us=bs.map Value.bool
 |[],_,r=>by cases r;rfl
 |d::ds,_,r=>by
  cases r with
  |cons r1 r2=>rw [show _=Value.bool d from r1,P1 r2];rfl
theorem Aap:∀bs:List Bool,((List.range bs.length).all fun i=>bs.getD i true)=bs.all id:=by
 intro bs
 rw [ES,CI,CI]
 constructor
 ·intro h b hb
  obtain ⟨i,hi,rfl⟩:=DL hb
  have:=h i (CN.mpr hi)
  rw [BJ,AD hi] at this
  exact this
 ·intro h i hi
  have hi:=CN.mp hi
  rw [BJ,AD hi]
  exact h _ (EJ hi)
theorem Vc (hc:X.calm=true):Df X (.builtin "all") (Apo X.K):=by
 intro pins s σ H xs us Q I r h
 match xs,h with
 | [.ref p],⟨bs,h1,q⟩=>
  obtain ⟨u,rfl,r1⟩:=Fv r
  cases (show u=Value.ref p from r1)
  obtain ⟨its,rv,pl,_⟩:=I.list h1
  have e:=P1 rv
  subst e
  have hh:=I.ok.hd hc
  have il:=pl.isList
  obtain ⟨ob,eb,rb⟩:=id il
  have ne:p≠s.heap.objs.size:=BC (AK eb)
  refine call_all_walk (FX il ?_)
  refine ⟨s.heap.objs.size,_,_,_,_,_,fun i=>bs.getD i true,rfl,Walks.list (A:=X.A.in1) hh s.heap.objs.size p ne (bs.map Value.bool).toArray,⟨⟨_,AJ _ rfl,rfl,rfl⟩,⟨ob,AB _ eb,rb⟩⟩,fun i v s2 Q2 E2 hP hQ=>?_,fun h' tk k=>?_⟩
  ·have hP:(bs.map Value.bool).toArray[i]? =some v:=hP
   rw [GC,BE] at hP
   cases e2:bs[i]? with
   |none=>
    rw [e2] at hP
    cases hP
   |some d=>
    rw [e2] at hP
    cases hP
    refine DB ?_
    have:bs.getD i true=d:=by rw [BJ,e2];rfl
    rw [←this]
    exact hQ
  ·refine ⟨.bl (bs.all id),H,I.kept (t':=tk) fun b o e=>k b o ?_ (AB _ e),?_,q⟩
   ·intro z
    have z:b=s.heap.objs.size:=by simpa using z
    exact DY _ (z▸AK e)
   ·show Value.bool _=Value.bool _
    rw [AX,AE,Aap]
end
end Lw
end
namespace Lw
open L2
end Lw
section
namespace Lw
open PySem PySem.Spec PyProof.Rows L2
section
variable {X:Cx}
def Amj (t u:TS):TS:=fun D σ H=>∃R:L2.St→Hp→Prop,t { D with nx:=R } σ H∧∀σ' H',R σ' H'→u D σ' H'
theorem Dl {st:Stmt}{r:List Stmt}{t u:TS}(h1:PS X st t)(h2:Ny X r u):Ny X (st::r) (Amj t u):=by
 intro pins s σ H D I h
 obtain ⟨R,h⟩:=h
 exact Xt R h1 h2 pins s σ H D I h
end
end Lw
end
section
set_option autoImplicit false
namespace Lw
open PySem PySem.Spec PyProof.Rows L2
section
variable {X:Cx}{pos:Pos}
def W4 (K:KKf):IP→Hp→VK→Prop:=fun xs H Q=>match xs with
 |[.ref p]=>∃ys,(Au K H p ys∨F5 K H p ys)∧∀l,H l=none→Q (.ref l) (upd H l (.lst ys))
 |_=>False
theorem N9:Df X (.type "list") (W4 X.K):=by
 intro pins s σ H xs us Q I r h
 match xs,h with
 |[.ref p],⟨ys,h1,q⟩=>exact K4 pins s σ H _ us Q I r ⟨p,ys,rfl,h1,q⟩
end
end Lw
end
section
set_option autoImplicit false
namespace Lw
open PySem PySem.Spec PyProof.Rows L2
section
variable {X:Cx}{pos:Pos}
structure B9 (K:KKf)(a:IC)(xs:IP):Prop where
 sq:∀H,F5 K H a xs
 ty:∃o,K.lookup a=some o∧o.cls=.type "tuple"∧o.dict=none
theorem B9.tyV {K:KKf}{a:IC}{xs:IP}(h:B9 K a xs)(H:Hp):tyV K "tuple" (.ref a) H:=.inr (.inl ⟨rfl,h.ty⟩)
def Ahc (K:KKf):R2:=fun x y H Q=>match y with
 |.ref p=>∃xs,(Au K H p xs∨F5 K H p xs)∧Fu x=true∧xs.all Fu=true∧Q (.bl (!inV x xs)) H
 |_=>False
theorem Zt:Dh X (compareOp .NotIn) (Ahc X.K):=by
 intro pins s σ H x y v u Q I rx ry q
 cases y<;>first
  |exact False.elim q
  | (obtain ⟨xs,h1,h2,h3,q⟩:=q
     exact T4 _ _ _ _ _ _ _ _ _ I rx ry ⟨_,xs,rfl,h1,h2,h3,q⟩)
def Aok:IP→Hp→VK→Prop:=fun xs H Q=>match xs with
 |[.str x]=>∃n,PySem.intText? x=some n∧x.length≤640∧Q (.int n) H
 |_=>False
theorem Yk:Df X (.type "int") Aok:=by
 intro pins s σ H xs us Q I r h
 match xs,h with
 |[.str x],⟨n,h1,h2,q⟩=>
  obtain ⟨u,rfl,r1⟩:=Fv r
  obtain ⟨t,rfl⟩:=r1
  exact PySem.W.KIN.call_text h1 h2 ⟨.int n,H,I.tok _,⟨_,rfl⟩,q⟩
def Anu:V→IP→Hp→VK→Prop:=fun x xs H Q=>match x,xs with
 |.str x,[.str y]=>Q (.bl (Txt.endswith x y)) H
 |_,_=>False
theorem Akz:MtR X "str.endswith" Anu:=by
 intro pins s σ H x xs v us Q I rx rs h
 match x,xs,h with
 |.str x,[.str y],q=>
  obtain ⟨t,rfl⟩:=rx
  obtain ⟨u,rfl,r1⟩:=Fv rs
  obtain ⟨t',rfl⟩:=r1
  exact PySem.SC.endswith ⟨.bl _,H,I,rfl,q⟩
def Alm:V→IP→Hp→VK→Prop:=fun x xs H Q=>match x,xs with
 |.str x,[.str y]=>(y.length==0)=false∧x.length≤1000∧∀l H',Aj H H'→H' l=some (.lst ((Txt.split x y).map V.str))→Q (.ref l) H'
 |_,_=>False
theorem Mi:∀(tk:Nat) (xs:IG),A6 (xs.map V.str) (strsFrom tk xs)
 |_,[]=>.nil
 |tk,x::r=>.cons ⟨_,rfl⟩ (Mi (tk+1) r)
theorem Uq:MtR X "str.split" Alm:=by
 intro pins s σ H x xs v us Q I rx rs h
 match x,xs,h with
 | .str x,[.str y],⟨hy,hx,q⟩=>
  obtain ⟨t,rfl⟩:=rx
  obtain ⟨u,rfl,r1⟩:=Fv rs
  obtain ⟨t',rfl⟩:=r1
  have big:(1002:Nat)≤sizeLine:=by decide
  have hl:=PyProof.Rows.split_le x y
  have hn:=I.hok.fresh (AF _)
  have out:∀(l:II) (tk:Nat),A6 ((Txt.split x y).map V.str) l→EP X pins σ Q (.ref s.heap.objs.size) { s with heap:=s.heap.push { cls:=.type "list",data:=.seq l.toArray },toks:=tk }:=by
   intro l tk hv
   refine ⟨.ref _,_,I.laid (t':=tk) (o:=.lst ((Txt.split x y).map V.str)) (fun b ob q=>AB _ q) (AF _) ?_,rfl,q _ _ (Ah hn) Ac⟩
   exact ⟨by rw [AE];omega,l,0,hv,AJ _ rfl⟩
  cases h1:(decide (x.length<y.length)||decide (Builtin.Str.strKind x<Builtin.Str.strKind y))
  ·cases hf:(Builtin.Str.occurrences x y 0 x.length (x.length+1)).isEmpty
   ·have e:Txt.split x y=Builtin.Str.partsBetween x (Builtin.Str.occurrences x y 0 x.length (x.length+1)) y.length:=(AW (EF h1)).trans (AW (EF hf))
    refine call_meets FD (EY _ _ _) EW (EN _ _) (meets_str_split_sep x y t t' h1 hy hf (by omega) (by rw [←e];omega)) ?_
    show wants (EP X pins σ Q) X.xe _ { s with toks:=_,heap:=s.heap.push { cls:=.type "list",data:=.seq (strsFrom s.toks (Builtin.Str.partsBetween x (Builtin.Str.occurrences x y 0 x.length (x.length+1)) y.length)).toArray } }
    exact out _ _ (by rw [e];exact Mi _ _)
   ·have e:Txt.split x y=[x]:=(AW (EF h1)).trans (AZ hf)
    exact call_meets FD (EY _ _ _) EW (EN _ _) (meets_str_split_not_found x y t t' h1 hy hf) (out [.str x t] s.toks (by rw [e];exact .cons ⟨_,rfl⟩ .nil))
  ·have e:Txt.split x y=[x]:=AZ h1
   exact call_meets FD (EY _ _ _) EW (EN _ _) (meets_str_split_cannot_occur x y t t' h1) (out [.str x t] s.toks (by rw [e];exact .cons ⟨_,rfl⟩ .nil))
def PJ (X:Cx)(es:IJ)(t:Str→L2.St→Hp→VK→Prop):Prop:=∀(pins:List (IC×Obj)) (s:IB) (σ:L2.St) (H:Hp) (acc:Str) (Q:VK),Aw X pins σ H s→t acc σ H Q→wpAny (model X.prog X.w) X.A (joinParts acc (evalEach es X.env)) (EP X pins σ Q) X.xe s
def tJ0:Str→L2.St→Hp→VK→Prop:=fun acc _ H Q=>acc.length≤sizeLine∧Q (.str acc) H
theorem Ae1:PJ X [] tJ0:=fun pins s σ H acc Q I h=>PyProof.Rows.joinParts_nil ⟨.str acc,H,I.tok _,⟨_,rfl⟩,h.2⟩ h.1
def tJS (y:Str)(t:Str→L2.St→Hp→VK→Prop):Str→L2.St→Hp→VK→Prop:=fun acc σ H Q=>(acc++y).length≤sizeLine∧t (acc++y) σ H Q
theorem Ti {es:IJ}{t:Str→L2.St→Hp→VK→Prop}{y:Str}{j:Nat}(hz:y.length≤sizeLine:=by decide +kernel)(h:PJ X es t):PJ X (.Constant (.str y) j pos::es) (tJS y t):=by
 intro pins s σ H acc Q I q
 refine PyProof.Rows.joinParts_cons (Bo (Ax (x:=y) (j:=j) (pos:=pos) pins s σ H (fun v H'=>v=.str y∧H'=H) I ⟨rfl,rfl⟩) fun v s1 ⟨x,H1,I1,r1,e1,e2⟩=>?_)
 subst e1 e2
 obtain ⟨tk,rfl⟩:=r1
 exact ⟨q.1,h pins s1 σ H1 _ Q I1 q.2⟩
def tJV (te:TE)(t:Str→L2.St→Hp→VK→Prop):Str→L2.St→Hp→VK→Prop:=fun acc σ H Q=>te σ H fun x H1=>match x with
 |.str y=>y.length≤sizeLine∧(acc++y).length≤sizeLine∧t (acc++y) σ H1 Q
 |.int i=>i.natAbs.log2<1920∧(acc++(toString i:Str)).length≤sizeLine∧t (acc++(toString i:Str)) σ H1 Q
 |_=>False
theorem Qb {e:Expr}{es:IJ}{te:TE}{t:Str→L2.St→Hp→VK→Prop}(he:PE X e te)(h:PJ X es t):PJ X (.FormattedValue e (-1) none pos::es) (tJV te t):=by
 intro pins s σ H acc Q I q
 refine PyProof.Rows.joinParts_cons (PyProof.Rows.FormattedValue_plain (Bo (he pins s σ H _ I q) fun v s1 ⟨x,H1,I1,r1,q1⟩=>?_))
 cases x<;>first
  |exact False.elim q1
  | (rename_i y
     obtain ⟨tk,rfl⟩:=r1
     first
       |exact PyProof.Rows.formatField_str (fun t' k=>⟨q1.2.1,h pins _ σ H1 _ Q (I1.tok _) q1.2.2⟩) q1.1
       |exact PyProof.Rows.formatField_int_small q1.1 ⟨q1.2.1,h pins _ σ H1 _ Q (I1.tok _) q1.2.2⟩)
def dFS (t:Str→L2.St→Hp→VK→Prop):TE:=fun σ H Q=>t Str.empty σ H Q
theorem Acj {a b:Expr}{es:IJ}{t:Str→L2.St→Hp→VK→Prop}(h:PJ X (a::b::es) t):PE X (.JoinedStr (a::b::es) pos) (dFS t):=fun pins s σ H Q I q=>PyProof.Rows.JoinedStr_many (h pins s σ H Str.empty Q I q)
end
section
open PySem.AutoSeq1 (wpAny_loadPart')
open PySem.MeetsSeq PySem.MeetsSeq2 PySem.MeetsSeq3 PySem.SeqRoads2 PySem.SeqAt
theorem Qw (l:IC)(items:Array IA)(n:Nat)(dd:Option IC)(sl:Array (IK))(x:IA)(e:IA→Bool)(j:Nat)(hj:j<items.size)(hit:e items[j]=true)(hno:∀m (hm:m<items.size),m<j→e items[m]=false) :
  Meets (Builtin.«tuple.index» ⟨[.ref l,x],[]⟩)
   (fun A R s=>s.heap.get? l=some { cls:=.type "tuple",dict:=dd,data:=.seq items n,slots:=sl }∧(∀y,y∈items→EqAt A.in1 s y x (e y))∧R (.ok (.ret (.int j s.toks))) { s with toks:=s.toks+1 }):=
 .of_wp fun prog w A R s h=>by
  obtain ⟨hp,g,d,tk,os⟩:=s;obtain ⟨hl,he,h⟩:=h
  unfold Builtin.«tuple.index»
  simp only [Std.Legacy.Range.forIn_eq_forIn_range']
  wp_walk using wpAny_loadPart' hl,wpAny_forIn_list _ (fun Ep b s'=>b.1=none∧s'=⟨hp,g,d,tk,os⟩∧∃i,i≤j∧Ep=(List.range' 0 items.size).drop i) _
  case turn=>
   rintro k Ep b s' ⟨hb,rfl,i,hij,hz⟩
   have hlt:i<(List.range' 0 items.size).length:=by simp;omega
   rw [CT hlt] at hz
   injection hz with hk hrest
   have hk:k=i:=by rw [hk];simp
   subst hk
   have hi:k<items.size:=by simpa using hlt
   have e0:items[k]? =some items[k]:=by simp [hi]
   rw [e0]
   refine AA (he items[k] (Array.getElem_mem hi) prog w _ _ ?_)
   by_cases hkj:k=j
   ·subst hkj
    rw [hit]
    wp_walk
    exact ⟨_,rfl,h⟩
   ·rw [hno k hi (by omega)]
    wp_walk
    exact ⟨rfl,rfl,k+1,by omega,hrest⟩
  case fin=>
   rintro ⟨b1,b2⟩ s' ⟨hb,rfl,i,hij,hz⟩
   have hlt:i<(List.range' 0 items.size).length:=by simp;omega
   rw [CT hlt] at hz
   cases hz
  case h=>
   refine ⟨rfl,rfl,0,BK _,?_⟩
   rw [GZ]
   congr 1
   simp [Std.Legacy.Range.size]
section
variable {X:Cx}{pos:Pos}
def Ap2 (K:KKf):V→IP→Hp→VK→Prop:=fun x xs H Q=>match x,xs with
 |.ref p,[v]=>∃(ys:IP) (j:Nat) (y:V),F5 K H p ys∧Fu v=true∧ys.all Fu=true∧ys[j]? =some y∧Yy y v=true∧(∀m z,m<j→ys[m]? =some z→Yy z v=false)∧Q (.int (j:Int)) H
 |_,_=>False
theorem Pb:∀{xs:IP} {us:II} {i:Nat} {u:IA},A6 xs us→us[i]? =some u→∃x,xs[i]? =some x∧RelV x u
 |_,_,i,_,.nil,h=>by simp at h
 |x::_,_::_,0,u,.cons r _,h=>by
  simp at h
  subst h
  exact ⟨x,rfl,r⟩
 |_::_,_::_,i+1,u,.cons _ t,h=>by
  simp at h
  obtain ⟨x,h1,h2⟩:=Pb t h
  exact ⟨x,by simpa using h1,h2⟩
theorem Ai7:MtR X "tuple.index" (Ap2 X.K):=by
 intro pins s σ H x xs v us Q I rx rs h
 match x,xs,h with
 | .ref p,[z],⟨ys,j,y,h1,fz,fs,hj,hit,hno,q⟩=>
  cases rx
  obtain ⟨u,rfl,r1⟩:=Fv rs
  obtain ⟨its,rv,⟨o,e,c,n,dd⟩,_⟩:=I.tuple h1
  obtain ⟨oc,od,odt,osl⟩:=o
  cases c
  cases dd
  have hlen:=rv.length
  have hj1:j<its.length:=by
   rw [←hlen]
   exact (AY.mp hj).1
  refine call_meets F.slot_tuple_index (T:="tuple") ⟨_,e,rfl⟩ F.entry_tuple_index (F.args_tuple_index_2 _ _) (Qw p its.toArray n od osl u (Wx z) j (by simpa using hj1) ?_ ?_) ⟨e,fun w hw=>Gz r1 fz rv fs w (by simpa using hw),⟨.int _,H,I.tok _,⟨_,rfl⟩,q⟩⟩
  ·obtain ⟨y',h2,h3⟩:=Pb rv (i:=j) (u:=its[j]) (by simp [hj1])
   rw [hj] at h2
   cases h2
   have:=Si (x:=z) h3 (CI.mp fs _ (AN hj))
   simpa [this] using hit
  ·intro m hm hmj
   have hm:m<its.length:=by simpa using hm
   obtain ⟨y',h2,h3⟩:=Pb rv (i:=m) (u:=its[m]) (by simp [hm])
   have:=Si (x:=z) h3 (CI.mp fs _ (AN h2))
   simpa [this] using hno m y' hmj h2
end
end
theorem P5 {c:Nat}:∀{a b X Y:IM},a++c::X=b++c::Y→c∉a→c∉b→a=b∧X=Y
 |[],[],_,_,h,_,_=>⟨rfl,(List.cons.inj h).2⟩
 |[],d::b,_,_,h,_,hb=>absurd (AS.mpr (.inl (List.cons.inj h).1)) hb
 |d::a,[],_,_,h,ha,_=>absurd (AS.mpr (.inl (List.cons.inj h).1.symm)) ha
 |d::a,e::b,_,_,h,ha,hb=>by
  obtain ⟨h1,h2⟩:=List.cons.inj h
  obtain ⟨h3,h4⟩:=P5 h2 (fun z=>ha (AQ _ z)) (fun z=>hb (AQ _ z))
  exact ⟨by rw [h1,h3],h4⟩
theorem Cr (c:Nat)(a b:Str)(r:IG):co (Str.join ⟨#[c]⟩ (a::b::r))=co a++c::co (Str.join ⟨#[c]⟩ (b::r)):=by
 show co (a++⟨#[c]⟩++Str.join ⟨#[c]⟩ (b::r))=_
 rw [B8,B8,Ki,BU]
 rfl
theorem Q6 (c:Nat):∀{ws vs:IG},ws≠[]→vs≠[]→(∀p∈ws,c∉co p)→(∀p∈vs,c∉co p)→co (Str.join ⟨#[c]⟩ ws)=co (Str.join ⟨#[c]⟩ vs)→ws=vs
 |[],_,h,_,_,_,_=>absurd rfl h
 |_::_,[],_,h,_,_,_=>absurd rfl h
 |[a],[b],_,_,_,_,h=>by
  have:a=b:=Dq h
  rw [this]
 |[a],b::b'::r,_,_,ha,_,h=>by
  rw [Cr] at h
  have h:co a=_:=h
  refine absurd ?_ (ha a (AH.mpr rfl))
  rw [h]
  simp
 |a::a'::r,[b],_,_,_,hb,h=>by
  rw [Cr] at h
  have h:_=co b:=h
  refine absurd ?_ (hb b (AH.mpr rfl))
  rw [←h]
  simp
 |a::a'::r,b::b'::q,_,_,ha,hb,h=>by
  rw [Cr,Cr] at h
  obtain ⟨h1,h2⟩:=P5 h (ha a (AO ..)) (hb b (AO ..))
  have:=Q6 c (ws:=a'::r) (vs:=b'::q) (by simp) (by simp) (fun p hp=>ha p (AQ _ hp)) (fun p hp=>hb p (AQ _ hp)) h2
  rw [Dq h1,this]
theorem G1 (c:Nat){ws:IG}(h:ws≠[])(hf:∀p∈ws,c∉co p){x:Str}(hx:co x=co (Str.join ⟨#[c]⟩ ws)):Txt.split x ⟨#[c]⟩=ws:=by
 have h1:Txt.split x ⟨#[c]⟩≠[]:=by
  intro e
  have:=split_pos x ⟨#[c]⟩
  rw [e] at this
  exact absurd this (by decide)
 exact Q6 c h1 h (fun p hp=>StrLaws.split_free x c p hp) hf (by rw [StrLaws.join_split,hx])
theorem Am5 (x:Str)(c:Nat):Txt.endswith x ⟨#[c]⟩=decide ((co x).getLast? =some c):=by
 have hl:=A2 x
 unfold Txt.endswith
 show (decide (0+1≤x.length)&&Builtin.Str.subAt x ⟨#[c]⟩ (x.length-1))=_
 by_cases h0:x.length=0
 ·have e:co x=[]:=ED (by omega)
  rw [e,h0]
  rfl
 ·have hlt:x.length-1<x.cps.size:=by
   show x.length-1<x.length
   omega
  rw [AR (by omega),HK]
  unfold Builtin.Str.subAt
  have e1:x.cps.extract (x.length-1) (x.length-1+(⟨#[c]⟩:Str).length)=#[x.cps[x.length-1]]:=by
   show x.cps.extract (x.length-1) (x.length-1+1)=_
   apply Array.toList_inj.mp
   rw [Array.toList_extract,List.extract_eq_take_drop]
   simp [CT (show x.length-1<x.cps.toList.length by simpa using hlt)]
  have e2:(co x).getLast? =some x.cps[x.length-1]:=by
   rw [GQ,hl]
   unfold co
   rw [EC]
   simp [hlt]
  rw [e1,e2]
  by_cases hc:x.cps[x.length-1]=c
  ·rw [hc]
   simp
  ·have:¬(#[x.cps[x.length-1]]:Array Nat)=#[c]:=by simpa using hc
   simp [hc]
theorem Ah1 (x:Str):co (Txt.slice x none (some (-1)))=(co x).dropLast:=by
 have hl:=A2 x
 rw [Oy,HT.sIx_none,GZ,Nat.sub_zero,List.dropLast_eq_take]
 congr 1
 show (if (-1:Int)<0 then (-1+(x.length:Int)).toNat else min (-1:Int).toNat x.length)=_
 rw [AZ (by decide)]
 omega
def fg (m:Nat):IM:=co (Str.ofString (toString ((m:Nat):Int)))
theorem Aae (m:Nat):fg m=(Nat.toDigits 10 m).map Char.toNat:=PySem.W.KIN.signs_num m
theorem Q4:∀d:Nat,d<10→(Nat.digitChar d).toNat=48+d:=by decide
theorem Ad8 {m:Nat}(h:m<10):fg m=[48+m]:=by
 rw [Aae,Nat.toDigits_of_lt_base h]
 simp [Q4 m h]
theorem Wb {m:Nat}(h:10≤m):fg m=fg (m / 10)++[48+m % 10]:=by
 have hm:m % 10<10:=Nat.mod_lt m (by decide)
 have t:Nat.toDigits 10 (m / 10)++Nat.toDigits 10 (m % 10)=Nat.toDigits 10 (10*(m / 10)+m % 10):=Nat.toDigits_append_toDigits (by decide) (by omega) hm
 rw [Nat.div_add_mod] at t
 rw [Aae,←t,BQ,←Aae,Nat.toDigits_of_lt_base hm]
 simp [Q4 _ hm]
theorem X3:∀(m:Nat),∀c∈fg m,48≤c∧c≤57:=by
 intro m
 induction m using Nat.strongRecOn with
 | _ m ih=>
  intro c hc
  by_cases h:m<10
  ·rw [Ad8 h] at hc
   have:c=48+m:=by simpa using hc
   omega
  ·rw [Wb (by omega)] at hc
   rcases BH.mp hc with hc|hc
   ·exact ih (m / 10) (by omega) c hc
   ·have:c=48+m % 10:=by simpa using hc
    omega
theorem Ago:∀(m:Nat),0<m→∃c r,fg m=c::r∧49≤c:=by
 intro m
 induction m using Nat.strongRecOn with
 | _ m ih=>
  intro h0
  by_cases h:m<10
  ·exact ⟨_,_,Ad8 h,by omega⟩
  ·obtain ⟨c,r,h1,h2⟩:=ih (m / 10) (by omega) (by omega)
   rw [Wb (by omega),h1]
   exact ⟨c,_,rfl,h2⟩
theorem Ad1 {m:Nat}(h:m<10000):1≤(fg m).length∧(fg m).length≤4:=by
 have l1:∀k,k<10→(fg k).length=1:=fun k hk=>by rw [Ad8 hk];rfl
 have l2:∀k,k<100→1≤(fg k).length∧(fg k).length≤2:=fun k hk=>by
  by_cases h:k<10
  ·rw [l1 k h];omega
  ·rw [Wb (by omega),AG,l1 _ (by omega)];simp
 have l3:∀k,k<1000→1≤(fg k).length∧(fg k).length≤3:=fun k hk=>by
  by_cases h:k<100
  ·have:=l2 k h;omega
  ·have:=l2 (k / 10) (by omega)
   rw [Wb (by omega),AG];simp;omega
 by_cases h:m<1000
 ·have:=l3 m h;omega
 ·have:=l3 (m / 10) (by omega)
  rw [Wb (by omega),AG];simp;omega
theorem Alp (m:Nat):NumText.digitsVal (fg m)=m:=by
 rw [Aae]
 exact PySem.W.KIN.val_back m
end Lw
end
section
set_option autoImplicit false
namespace Lw
open PySem PySem.Spec PyProof.Rows L2
section
variable {X:Cx}{pos p2 p3 p4:Pos}
def Ani:IP→Hp→VK→Prop:=fun xs H Q=>match xs with
 |[.bl b]=>Q (.int (if b then 1 else 0)) H
 |_=>False
theorem Pp:Df X (.type "int") Ani:=by
 intro pins s σ H xs us Q I r h
 match xs,h with
 |[.bl b],q=>
  obtain ⟨u,rfl,r1⟩:=Fv r
  cases (show u=Value.bool b from r1)
  exact PySem.call_int_bool ⟨.int _,H,I.tok _,⟨_,rfl⟩,q⟩
end
end Lw
end
section
namespace Lw
open PySem PySem.Spec PyProof.Rows L2
section
variable {prog:IE}{w:IF}{A:ID}{R:Result→IB→Prop}{s:IB}
theorem Afb (elt tg iter cd:Expr)(scope:Scope)(pos:Pos)(it acc:IA)(env:Env) :
  compTurn (.ListComp elt [⟨tg,iter,[cd],0⟩] scope pos) 0 it acc env=(standAt iter.pos >>= fun _=>pyNext it >>= fun r=>match r with
   |none=>pure (.done .next)
   |some v=>letOwnedTupleGo tg it v >>= fun _=>assign tg env v >>= fun _=>isTrue cd env (eval cd env) >>= fun b=>if b=true then ((eval elt env >>= fun x=>call (.builtin "list.append") [acc,x] >>= fun _=>pure ()) >>= fun _=>again (.compLoop (.ListComp elt [⟨tg,iter,[cd],0⟩] scope pos) 0 it acc env)) else again (.compLoop (.ListComp elt [⟨tg,iter,[cd],0⟩] scope pos) 0 it acc env)):=by
 unfold compTurn
 simp only [HA,DC,BX,DU,List.forIn_cons,List.forIn_nil,GL]
 congr 1
 funext _
 congr 1
 funext r
 cases r with
 |none=>rfl
 |some v=>
  simp only [bind_assoc,pure_bind]
  rfl
theorem W6 {elt tg iter cd:Expr}{scope:Scope}{pos:Pos}{it acc:IA}{env:Env}(I:Nat→IB→Prop)
  (turn:∀n s,I n s→wpAny (model prog w) A (pyNext it) (fun r s1=>(r=none∧R (.ok .next) s1)∨∃v,r=some v∧wpAny (model prog w) A (letOwnedTupleGo tg it v) (fun _ s2=>wpAny (model prog w) A (assign tg env v) (fun _ s3=>
   wpAny (model prog w) A (isTrue cd env (eval cd env)) (fun b s3=>Br b (wpAny (model prog w) A (eval elt env) (fun x s4=>wpAny (model prog w) A (call (.builtin "list.append") [acc,x]) (fun _ s5=>∃m,m<n∧I m s5) (fun _ _=>False) s4) (fun _ _=>False) s3) (∃m,m<n∧I m s3)) (fun _ _=>False) s3) (fun _ _=>False) s2) (fun _ _=>False) s1) (fun _ _=>False) s)
  (n:Nat) (h:I n s):codeAny (model prog w) A (.compLoop (.ListComp elt [⟨tg,iter,[cd],0⟩] scope pos) 0 it acc env) R s:=by
 refine codeAny_loop rfl I (fun n s hI=>?_) n h
 show wpAny _ _ ((compTurn (.ListComp elt [⟨tg,iter,[cd],0⟩] scope pos) 0 it acc env).onRaise (fun x=>do noteFrame x env;theTreesLotGoes x)) _ _ s
 refine wpAny_noted ?_
 rw [Afb]
 refine AA (HJ (AA (CK (turn n s hI) (fun r s1 h1=>?_) fun _ _ z=>z.elim)))
 rcases h1 with ⟨rfl,h1⟩|⟨v,rfl,h1⟩
 ·exact AC h1
 ·refine AA (CK h1 (fun _ s2 h2=>?_) fun _ _ z=>z.elim)
  refine AA (CK h2 (fun _ s3 h3=>?_) fun _ _ z=>z.elim)
  refine AA (CK h3 (fun b s3 h3=>?_) fun _ _ z=>z.elim)
  cases b with
  |true=>
   refine AA (AA (CK (h3.1 rfl) (fun x s4 h4=>?_) fun _ _ z=>z.elim))
   refine AA (CK h4 (fun _ s5 h5=>?_) fun _ _ z=>z.elim)
   exact AC (AC ⟨rfl,h5⟩)
  |false=>exact AC ⟨rfl,h3.2 rfl⟩
end
@[irreducible] def Mu (J:It) (g:TG) (tc:TT) (te:TE) (k:Nat) (js:IM) (σ:L2.St) (H1:Hp) (Q:VK):Prop:=∀D,H1 D=none→∃W:Nat→Nat→Hp→Prop,(∃m,W 0 m (upd H1 D (.lst [])))∧∀i m H,W i m H →
 (J.stop i H∧Q (.ref D) H)∨(J.go i H∧∀x H',J.yld i H x H'→g x (List.replicate k none++capσ js σ) H' fun σ2 H2=>σ2.drop k=capσ js σ∧tc σ2 H2 fun b H3=>Br b (te σ2 H3 fun v H4=>∃xs,H4 D=some (.lst xs)∧xs.length<sizeLine∧∃m',m'<m∧W (i+1) m' (upd H4 D (.lst (xs++[v])))) (∃m',m'<m∧W (i+1) m' H3))
def Pi (wi:TI)(g:TG)(tc:TT)(te:TE)(k:Nat)(js:IM):TE:=fun σ H Q=>wi σ H fun J H1=>Mu J g tc te k js σ H1 Q
section
variable {X:Cx}
theorem Oj {elt iter tg cd:Expr}{scope:Scope}{pos:Pos}{wi:TI}{te:TE}{tc:TT}{g:TG}{N:IG}{cl:List (Str×IC)}(k:Nat)(js:IM)(hi:PI X tg iter wi)
  (hg:∀C s H fp,PG (Ia X N s H (compEnvC scope cl C X.env) fp) tg g) (hd:∀C s H fp,PT (Ia X N s H (compEnvC scope cl C X.env) fp) cd tc) (he:∀C s H fp,PE (Ia X N s H (compEnvC scope cl C X.env) fp) elt te) (hcalm:X.calm=true)
  (hclos:closureFor scope X.env=pure cl) (hkind:scope.kind=.function) (hcell:∀y∈scope.names,y.2≠.cell) (hnames:∀y∈scope.names,y.2=.local→scope.names.lookup y.1=some .local)
  (hcl:∀y c,cl.lookup y=some c→X.env.cells.lookup y=some c) (hhas:∀y,((relabel scope X.env).names.lookup y=some .cell∨(relabel scope X.env).names.lookup y=some .free)→∃c,cl.lookup y=some c)
  (hlen:N.length=k+js.length) (hcap:∀i j,js[i]? =some j→∃y,N[k+i]? =some y∧Cap X (relabel scope X.env) cl j y)
  (hs:∀x,foldedSetIterable iter X.env x=pure x) {pins:List (IC×Obj)} {s:IB} {σ:L2.St} {H:Hp} {Q:VK} (I:Aw X pins σ H s) (h:Pi wi g tc te k js σ H Q) {cpos:Pos} {use:Option (IA→Sem Unit)} {Qv:IA→IB→Prop}
  (fin:∀(s6:IB) (H5:Hp) (D C:IC) (m:Str→IK),Aw X pins σ H5 s6→s6.heap.Ns C m→H5 C=none→X.s₀.heap.objs.size≤C→C≠X.env.locals→(∀x c,X.env.cells.lookup x=some c→c≠C)→(∀p∈X.pn++pins,p.1≠C)→Q (.ref D) H5 →
   compPost (model X.prog X.w) X.A X.xe use Qv (.ref D) C (.ok .next) s6) :
  wpAny (model X.prog X.w) X.A (comprehension (.ListComp elt [⟨tg,iter,[cd],0⟩] scope pos) scope X.env cpos (newList []) false (eval iter X.env) use) Qv X.xe s:=by
 refine wpAny_comprehension_free (use:=use) rfl hs hclos hkind hnames (Bo (hi pins s σ H _ I h) fun v s1 h1=>Bo h1 fun itv s2 h2=>?_)
 obtain ⟨it,fp,tn,J,H2,rfl,I2,T,st2,f2,h2⟩:=h2
 refine CD ?_
 have hD:H2 s2.heap.objs.size=none:=I2.hok.fresh (AF _)
 unfold Mu at h2
 obtain ⟨W,⟨m0,w0⟩,turn⟩:=h2 _ hD
 have I3:Aw X pins σ (upd H2 s2.heap.objs.size (.lst [])) { s2 with heap:=s2.heap.push { cls:=.type "list",dict:=none,data:=.seq ([]:II).toArray } } :=
  I2.laid (t':=s2.toks) (fun b u e=>AB _ e) (AF _) ⟨BK _,[],0,.nil,AJ _ rfl⟩
 have hlt:∀b∈fp,b<s2.heap.objs.size:=fun b hb=>by
  obtain ⟨o,e,_⟩:=T.obj _ _ st2 b hb
  exact AK e
 have f3:∀b∈fp,Lh X pins (upd H2 s2.heap.objs.size (.lst [])) b:=fun b hb=>⟨by rw [Am (BC (hlt b hb))];exact (f2 b hb).1,(f2 b hb).2⟩
 have st3:tn 0 (s2.heap.push { cls:=.type "list",dict:=none,data:=.seq ([]:II).toArray }):=T.keep _ _ _ st2 fun b hb o e=>AB _ e
 have hlt3:∀b∈fp,b<(s2.heap.push { cls:=.type "list",dict:=none,data:=.seq ([]:II).toArray }).objs.size:=fun b hb=>AV (hlt b hb) (by rw [CL];exact DW _)
 generalize hs3:({ s2 with heap:=s2.heap.push { cls:=.type "list",dict:=none,data:=.seq ([]:II).toArray } }:IB)=s3 at I3
 have eh:s3.heap=s2.heap.push { cls:=.type "list",dict:=none,data:=.seq ([]:II).toArray }:=by rw [←hs3]
 rw [←eh] at st3 hlt3
 generalize hDD:s2.heap.objs.size=D at *
 generalize hH3:upd H2 D (.lst [])=H3 at *
 clear hs3 eh
 refine wpAny_newFunctionEnv (s:=s3) hcell (by intro y hy;simp at hy) (fun h4 n4 sb4=>?_) hkind
 have Ok:=Z4 (N:=N) (C:=s3.heap.objs.size) I3 hkind (AF _) hcl hhas fun b hb=>⟨f3 b hb,hlt3 b hb⟩
 show codeAny _ _ (.compStart (.ListComp elt [⟨tg,iter,[cd],0⟩] scope pos) 0 (.ref it) (.ref D) (compEnvC scope cl s3.heap.objs.size X.env)) _ _
 generalize hC:s3.heap.objs.size=C at *
 have old:∀b o,s3.heap.get? b=some o→h4.get? b=some o:=fun b o e=>sb4.extBut b o (by rw [←hC];exact BC (AK e)) (AB _ e)
 have fresh:H3 C=none:=I3.hok.fresh (by rw [hC];exact AF _)
 have hcapl:∀{i:Nat} {x:Str} {v:V},N[i]? =some x→(List.replicate k none++capσ js σ)[i]? =some (some v)→∃u,L2.RelV v u∧Alb (compEnvC scope cl C X.env) h4 (fun _=>none) x u:=by
  intro i x v e1 e2
  by_cases hik:i<k
  ·rw [BZ (by simpa using hik)] at e2
   rw [EE] at e2
   simp [hik] at e2
  ·rw [BP (by simpa using EG hik),ET] at e2
   unfold capσ at e2
   rw [BE] at e2
   cases ej:js[i-k]? with
   |none=>
    rw [ej] at e2
    cases e2
   | some j=>
    rw [ej] at e2
    have e2:(σ[j]?).join=some v:=Option.some.inj e2
    obtain ⟨y,hy,cp⟩:=hcap _ _ ej
    rw [show k+(i-k)=i by omega,e1] at hy
    cases hy
    obtain ⟨m,_,hl⟩:=I3.loc
    have e3:σ[j]? =some (some v):=by
     cases q:σ[j]? with
     |none=>
      rw [q] at e2
      cases e2
     |some o=>
      rw [q] at e2
      have:o=some v:=e2
      rw [this]
    obtain ⟨u,ru,lk⟩:=hl j x v cp.nm e3 (.inr (.inl cp.ko))
    refine ⟨u,ru,?_⟩
    rcases lk with ⟨z,_⟩|⟨_,c,hc,z⟩
    ·rw [cp.ko] at z
     cases z
    ·refine .inr ⟨.inl cp.ki,c,by rw [←hc];exact cp.cl,?_⟩
     obtain ⟨o,e,d⟩:=z
     exact ⟨o,old _ _ e,d⟩
 have I4:Aw (Ia X N s3 H3 (compEnvC scope cl C X.env) fp) [] (List.replicate k none++capσ js σ) H3 { s3 with heap:=h4,toks:=s3.toks+([]:List (Str×IA)).length }:=by
  refine ⟨Ok,rfl,I3.bare,Un.kept old,⟨_,n4,fun i x v e1 e2 e3=>?_⟩,fun x c e=>?_,fresh,fun x c e=>I3.freeC x c (hcl x c e),fun p hp=>absurd hp (by simp),I3.hok.kept old,?_⟩
  ·obtain ⟨u,ru,lk⟩:=hcapl e1 e2
   refine ⟨u,ru,?_⟩
   rcases lk with ⟨z,q⟩|q
   ·cases q
   ·exact .inr q
  ·obtain ⟨v,o,e1,d⟩:=I3.cell x c (hcl x c e)
   exact ⟨v,o,old _ _ e1,d⟩
  ·simp [capσ,hlen]
 have fp4:∀{H':Hp},(∀b∈fp,H' b=none)→∀b∈fp,Lh (Ia X N s3 H3 (compEnvC scope cl C X.env) fp) [] H' b:=fun hn b hb=>
  ⟨hn b hb,(Ok.exf b hb).1,Ok.exfs b hb,.inl hb,fun x c e=>(Ok.exf b hb).2 x c e,fun p hp=>absurd hp (by simp)⟩
 have st4:tn 0 h4:=T.keep _ _ _ st3 fun b hb o e=>old b o e
 have run:∀s4:IB,s4={ s3 with heap:=h4,toks:=s3.toks+([]:List (Str×IA)).length } →
   codeAny (model X.prog X.w) X.A (.compLoop (.ListComp elt [⟨tg,iter,[cd],0⟩] scope pos) 0 (.ref it) (.ref D) (compEnvC scope cl C X.env)) (compPost (model X.prog X.w) X.A X.xe use Qv (.ref D) C) s4:=by
  rintro s4 rfl
  refine W6 (fun n s'=>∃i H' σ',Aw (Ia X N s3 H3 (compEnvC scope cl C X.env) fp) [] σ' H' s'∧(∀j:Nat,∀v,(List.replicate k none++capσ js σ)[j]? =some (some v)→σ'[j]? =some (some v))∧tn i s'.heap∧(∀b∈fp,H' b=none)∧W i n H') ?_ m0
   ⟨0,H3,_,I4,fun _ _ z=>z,st4,fun b hb=>(f3 b hb).1,w0⟩
  rintro n s5 ⟨i,H5,σ5,I5,cap5,st5,fr5,w5⟩
  have I5':=I5.weak (σ':=List.replicate k none++capσ js σ) (by rw [I5.len];simp [capσ,hlen]) cap5
  rcases turn i n H5 w5 with ⟨stop,q⟩|⟨go,step⟩
  ·refine Bo (T.done (Ia X N s3 H3 (compEnvC scope cl C X.env) fp) rfl rfl rfl hcalm i [] s5 σ5 H5 _ I5 (fp4 fr5) st5 stop) fun r s6 ⟨hr,I6⟩=>.inl ⟨hr,?_⟩
   obtain ⟨m6,n6,_⟩:=I6.loc
   have hCf:H5 C=none:=I6.free
   have u6:=I6.base
   have uC:Un (Ww X.stack) fp H3 H5 s3.heap s6.heap:=⟨u6.keep,u6.slot,u6.free,u6.there,u6.tups,u6.frzs,u6.tbls⟩
   have I7:Aw X pins σ H5 s6:=I3.call' (s':=s6) I6.os uC I6.hok I6.bare fun b hb=>⟨(f3 b hb).2.2.2.1,(f3 b hb).2.1,(f3 b hb).2.2.2.2.1,(f3 b hb).2.2.2.2.2⟩
   have lt3:∀b o,s3.heap.get? b=some o→b≠C:=fun b o e=>by rw [←hC];exact BC (AK e)
   refine fin s6 H5 D C m6 I7 n6 hCf (by rw [←hC];exact I3.sz) (by rw [←hC];exact DN I3.lt) (fun x c e=>?_) (fun p hp=>lt3 p.1 p.2 (I3.pin p hp).1) q
   obtain ⟨v,o,e1,_⟩:=I3.cell x c e
   exact lt3 c o e1
  ·refine Bo (T.item (Ia X N s3 H3 (compEnvC scope cl C X.env) fp) rfl rfl rfl hcalm i [] s5 _ H5 _ I5' (fp4 fr5) st5 go) fun r s6 ⟨u,hr,h6⟩=>.inr ⟨u,hr,?_⟩
   refine Bo h6 fun _ s7 ⟨x,H7,I7,r7,y7,st7,fr7⟩=>?_
   have I7':=I7.pinned (fp4 fr7) (T.obj _ _ st7)
   refine Bo (hg C s3 H3 fp _ s7 _ H7 x u _ I7' r7 (step x H7 y7)) fun _ s8 ⟨σ8,H8,I8,d8,q8⟩=>?_
   have capk:∀(j:Nat) v,(List.replicate k none++capσ js σ)[j]? =some (some v)→σ8[j]? =some (some v):=fun j v e=>by
    by_cases hjk:j<k
    ·rw [BZ (by simpa using hjk),EE] at e
     simp [hjk] at e
    ·rw [BP (by simpa using EG hjk),ET,←d8,List.getElem?_drop] at e
     rw [show k+(j-k)=j by omega] at e
     exact e
   refine Bo (hd C s3 H3 fp _ s8 σ8 H8 _ I8 q8) fun b s8' ⟨H8',I8',q8'⟩=>⟨fun hb=>?_,fun hb=>?_⟩
   ·refine Bo (he C s3 H3 fp _ s8' σ8 H8' _ I8' (q8'.1 hb)) fun vv s9 ⟨vx,H9,I9,r9,xs,hx9,hz9,m',hm',w9⟩=>?_
    obtain ⟨z9,its,n9,rl,e9⟩:=(show Bj X.prog X.w H9 s9.heap D (.lst xs) from I9.hok D _ hx9)
    have app:=Cy (X:=Ia X N s3 H3 (compEnvC scope cl C X.env) fp) _ s9 σ8 H9 (.ref D) [vx] (.ref D) [vv] (fun _ H'=>H'=upd H9 D (.lst (xs++[vx]))) I9 rfl (.cons r9 .nil) ⟨D,xs,vx,rfl,rfl,hx9,hz9,rfl⟩
    refine Bo app fun _ s10 ⟨_,H10,I10,_,e10⟩=>?_
    subst e10
    refine ⟨m',hm',i+1,_,σ8,I10.unpinned (pins:=[]),capk,T.keep _ _ _ st7 fun b hb o e=>(I10.pin (b,o) (BA _ (BA _ (C5 hb e)))).1,fun b hb=>?_,w9⟩
    obtain ⟨o,e,d⟩:=T.obj _ _ st7 b hb
    exact (I10.pin (b,o) (BA _ (BA _ (C5 hb e)))).2.1
   ·obtain ⟨m',hm',w9⟩:=q8'.2 hb
    refine ⟨m',hm',i+1,_,σ8,I8'.unpinned (pins:=[]),capk,T.keep _ _ _ st7 fun b hb o e=>(I8'.pin (b,o) (BA _ (BA _ (C5 hb e)))).1,fun b hb=>?_,w9⟩
    obtain ⟨o,e,d⟩:=T.obj _ _ st7 b hb
    exact (I8'.pin (b,o) (BA _ (BA _ (C5 hb e)))).2.1
 exact codeAny_compStart_list (run _ rfl) (T.self X.A 0 _ _ _ st4 (run _ rfl))
theorem Age {elt iter tg cd:Expr}{scope:Scope}{pos:Pos}{wi:TI}{te:TE}{tc:TT}{g:TG}{N:IG}{cl:List (Str×IC)}(k:Nat)(js:IM)(hi:PI X tg iter wi)
  (hg:∀C s H fp,PG (Ia X N s H (compEnvC scope cl C X.env) fp) tg g) (hd:∀C s H fp,PT (Ia X N s H (compEnvC scope cl C X.env) fp) cd tc) (he:∀C s H fp,PE (Ia X N s H (compEnvC scope cl C X.env) fp) elt te) (hcalm:X.calm=true)
  (hclos:closureFor scope X.env=pure cl) (hkind:scope.kind=.function) (hcell:∀y∈scope.names,y.2≠.cell) (hnames:∀y∈scope.names,y.2=.local→scope.names.lookup y.1=some .local)
  (hcl:∀y c,cl.lookup y=some c→X.env.cells.lookup y=some c) (hhas:∀y,((relabel scope X.env).names.lookup y=some .cell∨(relabel scope X.env).names.lookup y=some .free)→∃c,cl.lookup y=some c)
  (hlen:N.length=k+js.length) (hcap:∀i j,js[i]? =some j→∃y,N[k+i]? =some y∧Cap X (relabel scope X.env) cl j y)
  (hs:∀x,foldedSetIterable iter X.env x=pure x:=by intro _;rfl):PE X (.ListComp elt [⟨tg,iter,[cd],0⟩] scope pos) (Pi wi g tc te k js):=by
 intro pins s σ H Q I h
 rw [eval_ListComp]
 refine Oj k js hi hg hd he hcalm hclos hkind hcell hnames hcl hhas hlen hcap hs I h fun s6 H5 D C m I6 n6 z1 z2 z3 z4 z5 q=>⟨m,n6,fun h7 sb7=>⟨.ref D,H5,?_,rfl,q⟩⟩
 exact I6.turned (t':=s6.toks) (fun b o hb e=>(sb7.2 b hb).trans e) z1 z3.symm.symm (.inr z2) z4 z5
theorem Abq {elt iter tg cd:Expr}{scope:Scope}{pos py spos:Pos}{i:Nat}{y:Str}{wi:TI}{te:TE}{tc:TT}{g:TG}{N:IG}{cl:List (Str×IC)}(k:Nat)(js:IM)(hi:PI X tg iter wi)
  (hg:∀C s H fp,PG (Ia X N s H (compEnvC scope cl C X.env) fp) tg g) (hd:∀C s H fp,PT (Ia X N s H (compEnvC scope cl C X.env) fp) cd tc) (he:∀C s H fp,PE (Ia X N s H (compEnvC scope cl C X.env) fp) elt te) (hcalm:X.calm=true)
  (hclos:closureFor scope X.env=pure cl) (hkind:scope.kind=.function) (hcell:∀y∈scope.names,y.2≠.cell) (hnames:∀y∈scope.names,y.2=.local→scope.names.lookup y.1=some .local)
  (hcl:∀y c,cl.lookup y=some c→X.env.cells.lookup y=some c) (hhas:∀y,((relabel scope X.env).names.lookup y=some .cell∨(relabel scope X.env).names.lookup y=some .free)→∃c,cl.lookup y=some c)
  (hlen:N.length=k+js.length) (hcap:∀i j,js[i]? =some j→∃y,N[k+i]? =some y∧Cap X (relabel scope X.env) cl j y)
  (hs:∀x,foldedSetIterable iter X.env x=pure x) (hN:X.N.Nodup) (hi':X.N[i]? =some y) (hy:X.env.scope.names.lookup y=some .local) (hsw:swapsWith (.ListComp elt [⟨tg,iter,[cd],0⟩] scope pos) (some (.Name y py)) spos.line X.env=pure true) :
  PS X (.Assign [.Name y py] (.ListComp elt [⟨tg,iter,[cd],0⟩] scope pos) spos) (X7 (Pi wi g tc te k js) (Oz i)):=by
 intro pins s σ H D I h
 rw [exec_Assign_Name_used _ _ _ _ hsw]
 refine AA (HJ (AA ?_))
 show wpAny _ X.A (do let _ ←comprehension (.ListComp elt [⟨tg,iter,[cd],0⟩] scope pos) scope X.env _ (newList []) false (eval iter X.env) (some (assign (.Name y py) X.env))) _ _ s
 refine AA (CK (Oj k js hi hg hd he hcalm hclos hkind hcell hnames hcl hhas hlen hcap hs (use:=some (assign (.Name y py) X.env)) (Qv:=fun _ s'=>SP X pins D .next s') I h fun s6 H5 D' C m I6 n6 z1 z2 z3 z4 z5 q=>?_)
  (fun _ s' hq=>AC (AC hq)) fun _ _ e=>e)
 show wpAny _ X.A (assign (.Name y py) X.env (.ref D')) _ _ _
 refine wpAny_assign_Name (L4 I6 hN hi' (.inl hy) (v:=.ref D') rfl (fun s8 I8 ⟨a,sb,ha⟩=>?_) (.inr hy))
 have na:C≠a:=by
  rcases ha with rfl|ha
  ·exact z3
  ·exact DI (z4 _ _ ha)
 exact ⟨m,n6.sameBut sb na,fun h9 sb9=>⟨_,H5,I8.turned (t':=s8.toks) (fun b o hb e=>(sb9.2 b hb).trans e) z1 z3 (.inr z2) z4 z5,q⟩⟩
theorem Ln {elt iter tg cd:Expr}{scope:Scope}{pos:Pos}{wi:TI}{te:TE}{tc:TT}{g:TG}{cl:List (Str×IC)}(own ys:IG)(js:IM)(hclos:closureFor scope X.env=pure cl)(hi:PI X tg iter wi)
  (hg:∀C s H fp,PG (Ia X (own++ys) s H (compEnvC scope cl C X.env) fp) tg g) (hd:∀C s H fp,PT (Ia X (own++ys) s H (compEnvC scope cl C X.env) fp) cd tc) (he:∀C s H fp,PE (Ia X (own++ys) s H (compEnvC scope cl C X.env) fp) elt te) (hcalm:X.calm=true) (hkind:scope.kind=.function)
  (hcell:(scope.names.all fun y=>y.2 != .cell)=true) (hnames:(scope.names.all fun y=>y.2 != .local||scope.names.lookup y.1==some .local)=true) (hfr:(scope.names.all fun y=>y.2 != .free||(cl.map (·.1)).contains y.1)=true)
  (hcl:Nk X.env.cells cl) (hcap:O7 X (relabel scope X.env) cl ys js) (hs:∀x,foldedSetIterable iter X.env x=pure x:=by intro _;rfl) :
  PE X (.ListComp elt [⟨tg,iter,[cd],0⟩] scope pos) (Pi wi g tc te own.length js):=by
 rw [CI] at hcell hnames hfr
 have hc:∀y∈scope.names,y.2≠.cell:=fun y hy z=>by
  have:=hcell y hy
  rw [z] at this
  cases this
 refine Age own.length js hi hg hd he hcalm hclos hkind hc (fun y hy z=>?_) hcl.at (fun y h=>?_) (by rw [AG,hcap.len]) (fun i j e=>?_) hs
 ·have:=hnames y hy
  rw [z] at this
  simpa using this
 ·obtain ⟨z,hz,rfl,hk⟩:∃z∈scope.names,z.1=y∧(z.2=.free∨z.2=.cell):=by
   rcases h with h|h
   ·exact B5 h (.inl rfl)
   ·exact B5 h (.inr rfl)
  rcases hk with hk|hk
  ·have:=hfr z hz
   rw [hk] at this
   exact Fs (by simpa using this)
  ·exact absurd hk (hc z hz)
 ·obtain ⟨y,h1,h2⟩:=hcap.at i j e
  exact ⟨y,by rw [BP (GG _ _),FK];exact h1,h2⟩
theorem Ry {elt iter tg cd:Expr}{scope:Scope}{pos py spos:Pos}{i:Nat}{y:Str}{wi:TI}{te:TE}{tc:TT}{g:TG}{cl:List (Str×IC)}(own ys:IG)(js:IM)(hclos:closureFor scope X.env=pure cl)(hi:PI X tg iter wi)
  (hg:∀C s H fp,PG (Ia X (own++ys) s H (compEnvC scope cl C X.env) fp) tg g) (hd:∀C s H fp,PT (Ia X (own++ys) s H (compEnvC scope cl C X.env) fp) cd tc) (he:∀C s H fp,PE (Ia X (own++ys) s H (compEnvC scope cl C X.env) fp) elt te) (hcalm:X.calm=true) (hkind:scope.kind=.function)
  (hcell:(scope.names.all fun y=>y.2 != .cell)=true) (hnames:(scope.names.all fun y=>y.2 != .local||scope.names.lookup y.1==some .local)=true) (hfr:(scope.names.all fun y=>y.2 != .free||(cl.map (·.1)).contains y.1)=true)
  (hcl:Nk X.env.cells cl) (hcap:O7 X (relabel scope X.env) cl ys js) (hN:X.N.Nodup) (hi':X.N[i]? =some y) (hy:X.env.scope.names.lookup y=some .local) (hs:∀x,foldedSetIterable iter X.env x=pure x:=by intro _;rfl) (hsw:swapsWith (.ListComp elt [⟨tg,iter,[cd],0⟩] scope pos) (some (.Name y py)) spos.line X.env=pure true:=by rfl) :
  PS X (.Assign [.Name y py] (.ListComp elt [⟨tg,iter,[cd],0⟩] scope pos) spos) (X7 (Pi wi g tc te own.length js) (Oz i)):=by
 rw [CI] at hcell hnames hfr
 have hc:∀y∈scope.names,y.2≠.cell:=fun y hy z=>by
  have:=hcell y hy
  rw [z] at this
  cases this
 refine Abq own.length js hi hg hd he hcalm hclos hkind hc (fun y hy z=>?_) hcl.at (fun y h=>?_) (by rw [AG,hcap.len]) (fun i j e=>?_) hs hN hi' hy hsw
 ·have:=hnames y hy
  rw [z] at this
  simpa using this
 ·obtain ⟨z,hz,rfl,hk⟩:∃z∈scope.names,z.1=y∧(z.2=.free∨z.2=.cell):=by
   rcases h with h|h
   ·exact B5 h (.inl rfl)
   ·exact B5 h (.inr rfl)
  rcases hk with hk|hk
  ·have:=hfr z hz
   rw [hk] at this
   exact Fs (by simpa using this)
  ·exact absurd hk (hc z hz)
 ·obtain ⟨y,h1,h2⟩:=hcap.at i j e
  exact ⟨y,by rw [BP (GG _ _),FK];exact h1,h2⟩
end
end Lw
end
section
namespace Lw
open PySem PySem.Spec PyProof.Rows L2
def dd (l:IG)(x:Str):IG:=if x∈l then l else l++[x]
def lS (a b:Str):Prop:=a.cps.toList<b.cps.toList
instance:DecidableRel lS:=fun a b=>inferInstanceAs (Decidable (a.cps.toList<b.cps.toList))
theorem X8 (a:Str):¬lS a a:=List.lt_irrefl _
theorem Ain {a b c:Str}(h:lS a b)(h':lS b c):lS a c:=List.lt_trans h h'
theorem W1 {a b:Str}(h:¬lS a b)(h':¬lS b a):a=b:=by
 have e:=List.le_antisymm (List.not_lt.mp h') (List.not_lt.mp h)
 cases a;cases b
 simpa using Array.toList_inj.mp e
theorem An6 {a b:Str}(h:lS a b):¬lS b a:=List.lt_asymm h
abbrev Inc (l:IG):Prop:=l.Pairwise lS
theorem F6:∀{l m:IG},Inc l→Inc m→(∀x,x∈l↔x∈m)→l=m
 |[],[],_,_,_=>rfl
 |[],b::m,_,_,h=>absurd ((h b).mpr (AO ..)) (by simp)
 |a::l,[],_,_,h=>absurd ((h a).mp (AO ..)) (by simp)
 | a::l,b::m,h1,h2,h=>by
  have ⟨a1,a2⟩:=CM.mp h1
  have ⟨b1,b2⟩:=CM.mp h2
  have e:a=b:=by
   rcases AS.mp ((h a).mp (AO ..)) with e|e
   ·exact e
   ·rcases AS.mp ((h b).mpr (AO ..)) with f|f
    ·exact f.symm
    ·exact absurd (b1 a e) (An6 (a1 b f))
  subst e
  rw [F6 a2 b2 fun x=>⟨fun hx=>?_,fun hx=>?_⟩]
  ·rcases AS.mp ((h x).mp (AQ _ hx)) with e|e
   ·subst e
    exact absurd (a1 x hx) (X8 x)
   ·exact e
  ·rcases AS.mp ((h x).mpr (AQ _ hx)) with e|e
   ·subst e
    exact absurd (b1 x hx) (X8 x)
   ·exact e
def Vy (x:Str):IG→IG
 |[]=>[x]
 |y::l=>if lS x y then x::y::l else if lS y x then y::Vy x l else y::l
theorem O5 {x z:Str}:∀{l:IG},z∈Vy x l↔z=x∨z∈l
 |[]=>by simp [Vy]
 | y::l=>by
  unfold Vy
  split
  ·simp
  ·split
   ·simp only [AS,O5 (l:=l)]
    constructor
    ·rintro (h|h|h)
     ·exact .inr (.inl h)
     ·exact .inl h
     ·exact .inr (.inr h)
    ·rintro (h|h|h)
     ·exact .inr (.inl h)
     ·exact .inl h
     ·exact .inr (.inr h)
   ·rename_i h1 h2
    have e:=W1 h1 h2
    subst e
    simp
theorem Wq {x:Str}:∀{l:IG},Inc l→Inc (Vy x l)
 |[],_=>FM ..
 | y::l,h=>by
  have ⟨h1,h2⟩:=CM.mp h
  unfold Vy
  split
  ·rename_i c
   exact CM.mpr ⟨fun z hz=>(AS.mp hz).elim (fun e=>e▸c) (fun e=>Ain c (h1 z e)),h⟩
  ·split
   ·rename_i c
    exact CM.mpr ⟨fun z hz=>(O5.mp hz).elim (fun e=>e▸c) (h1 z),Wq h2⟩
   ·exact h
def Oc (l:IG):IG:=l.foldr Vy []
theorem C2:∀(l:IG),Inc (Oc l)
 |[]=>List.Pairwise.nil
 |x::l=>Wq (C2 l)
theorem Eg {x:Str}:∀{l:IG},x∈Oc l↔x∈l
 |[]=>Iff.rfl
 |y::l=>by
  show x∈Vy y (Oc l)↔_
  rw [O5,Eg (l:=l),AS]
theorem Akt {l:IG}{x z:Str}:z∈dd l x↔z∈l∨z=x:=by
 unfold dd
 split
 ·rename_i h
  constructor
  ·exact .inl
  ·rintro (h'|rfl)
   ·exact h'
   ·exact h
 ·simp
theorem Ab7 {l:IG}{x:Str}(h:l.Nodup):(dd l x).Nodup:=by
 unfold dd
 split
 ·exact h
 ·rename_i c
  rw [GA]
  exact ⟨h,DM.mpr ⟨by simp,List.nodup_nil⟩,fun a ha b hb e=>by
   rw [AH] at hb
   subst hb e
   exact c ha⟩
def ddn (val:Nat→Str)(i:Nat):IG:=((List.range i).map val).foldl dd []
theorem K1 (val:Nat→Str)(i:Nat):ddn val (i+1)=dd (ddn val i) (val i):=by
 unfold ddn
 rw [List.range_succ,BQ,HD]
 rfl
theorem Mn (val:Nat→Str):∀i,(ddn val i).Nodup
 |0=>List.nodup_nil
 |i+1=>by
  rw [K1]
  exact Ab7 (Mn val i)
theorem Aag {val:Nat→Str}{x:Str}:∀{i:Nat},x∈ddn val i↔∃j,j<i∧val j=x
 |0=>⟨fun h=>(by cases h),fun ⟨j,h,_⟩=>absurd h (Nat.not_lt_zero _)⟩
 | i+1=>by
  rw [K1,Akt,Aag (i:=i)]
  constructor
  ·rintro (⟨j,h,e⟩|e)
   ·exact ⟨j,CS h,e⟩
   ·exact ⟨i,DZ _,e.symm⟩
  ·rintro ⟨j,h,e⟩
   rcases Nat.lt_succ_iff_lt_or_eq.mp h with h|rfl
   ·exact .inl ⟨j,h,e⟩
   ·exact .inr e.symm
theorem Lb {l:IG}(h:l.Pairwise fun a b=>¬lS b a)(n:l.Nodup):Inc l:=by
 induction l with
 |nil=>exact List.Pairwise.nil
 |cons a l ih=>
  have ⟨h1,h2⟩:=CM.mp h
  have ⟨n1,n2⟩:=DM.mp n
  refine CM.mpr ⟨fun b hb=>?_,ih h2 n2⟩
  refine GR fun c=>n1 ?_
  have e:=W1 c (h1 b hb)
  exact e▸hb
theorem Ko {α:Type}:∀(l:List α) (i:Nat) (x:α),l[i]? =some x→(x::l.eraseIdx i).Perm l
 |[],i,x,h=>by simp at h
 |a::l,0,x,h=>by
  simp at h
  subst h
  exact List.Perm.refl _
 |a::l,i+1,x,h=>by
  simp only [DT] at h
  show (x::a::l.eraseIdx i).Perm (a::l)
  exact (List.Perm.swap ..).trans ((Ko l i x h).cons a)
theorem Es {α:Type}[DecidableEq α]:∀{l m:List α},l.Nodup→(∀x∈l,x∈m)→l.length≤m.length
 |[],m,_,_=>BK _
 |a::l,m,n,h=>by
  have ⟨n1,n2⟩:=DM.mp n
  have ha:a∈m:=h a (AO ..)
  have:=Es (l:=l) (m:=m.erase a) n2 fun x hx=>(List.mem_erase_of_ne (fun e:x=a=>n1 (e▸hx))).mpr (h x (AQ _ hx))
  rw [List.length_erase_of_mem ha] at this
  have:0<m.length:=List.length_pos_of_mem ha
  rw [BN]
  omega
theorem Fh {l:IG}(h:Inc l):l.Nodup:=List.Pairwise.imp (S:=fun a b=>a≠b) (fun {a b} (h:lS a b) (e:a=b)=>X8 a (e▸h)) h
theorem Zr {names:IG}{x:Str}:x∈ddn (fun i=>names.getD i ⟨#[]⟩) names.length↔x∈names:=by
 rw [Aag]
 constructor
 ·rintro ⟨j,h,rfl⟩
  rw [BJ,AD h]
  exact EJ h
 ·intro h
  obtain ⟨j,hj,e⟩:=List.mem_iff_getElem.mp h
  exact ⟨j,hj,by rw [BJ,AD hj];exact e⟩
theorem Ag6 (names:IG):(ddn (fun i=>names.getD i ⟨#[]⟩) names.length).length≤(Oc names).length:=
 Es (Mn _ _) fun x hx=>Eg.mpr (Zr.mp hx)
end Lw
end
section
namespace Lw
open PySem PySem.Spec PyProof.Rows L2
def K6 (w:IF):Bool:=w.params.followText "set-order"
def tx (e:Int×IA):Str:=strOf e.2
structure Hc (prog:IE)(w:IF)(o:Obj)(ss:IG)(es:Array (Int×IA))(ep:Nat)(t:SetTable):Prop where
 ex:o.ExactSet
 dat:o.data=.set es ep t
 el:ElemsOf (PySem.strKind prog w) es.toList
 pm:(es.toList.map tx).Perm ss
 fit:t.fits es.size=true
 bd:es.size<scanBound
 led:t.led=!K6 w
 pl:0<es.size→t.plain=false
def Om (prog:IE)(w:IF)(h:Heap)(a:IC)(ss:IG):Prop:=∃o es ep t,h.get? a=some o∧Hc prog w o ss es ep t
theorem Hc.size {prog:IE}{w:IF}{o:Obj}{ss:IG}{es:Array (Int×IA)}{ep:Nat}{t:SetTable}(S:Hc prog w o ss es ep t):es.size=ss.length:=by
 rw [←S.pm.length_eq,AE,BS]
theorem T3 {t t':SetTable}{hs:Array Int}{n:Nat}{o:Array Nat}(h:t.relaid hs n=some (t',o)):t'.led=t.led∧t'.plain=t.plain:=by
 unfold SetTable.relaid SetTable.laid at h
 cases hl:SetTable.layClean (SetTable.sizeAbove n-1) hs with
 |none=>
  rw [hl] at h
  cases h
 |some ow=>
  rw [hl] at h
  cases h
  exact ⟨rfl,rfl⟩
theorem Ol (t:SetTable)(es:Array (Int×IA))(n:Nat):(relayAll t es n).2.1.led=t.led∧(t.plain=false→(relayAll t es n).2.1.plain=false):=by
 unfold relayAll
 split
 ·rename_i t' o e
  obtain ⟨h1,h2⟩:=T3 e
  dsimp only
  split
  ·exact ⟨h1,fun h=>h2.trans h⟩
  ·exact ⟨rfl,fun _=>rfl⟩
 ·exact ⟨rfl,fun _=>rfl⟩
theorem Qm (t:SetTable)(n:Nat):(t.orStandIn n).led=t.led:=by
 unfold SetTable.orStandIn
 split<;>rfl
theorem Xs (t:SetTable)(es:Array (Int×IA))(h:Int)(x:IA):(layNew t es h x).2.1.led=t.led:=by
 unfold layNew
 split
 ·exact Qm _ _
 ·rfl
theorem Aio {prog:IE}{w:IF}{k:Str}{e:Int×IA}(h:(PySem.strKind prog w).is k e.2=true):tx e=k:=by
 obtain ⟨t,z⟩:=Value.isStrOf_shape h
 unfold tx
 rw [z]
 rfl
theorem Afw {prog:IE}{w:IF}{h:Heap}{a:IC}{o:Obj}{ss ss':IG}{es es':Array (Int×IA)}{ep:Nat}{t t':SetTable}(ho:h.get? a=some o)(S:Hc prog w o ss es ep t)
  (e1:ElemsOf (PySem.strKind prog w) es'.toList) (e2:(es'.toList.map tx).Perm ss') (e3:t'.fits es'.size=true) (e4:es'.size<scanBound) (e5:t'.led=!K6 w) (e6:t'.plain=false) :
  ∃o',(h.update a (Obj.putSet es' t')).get? a=some o'∧Hc prog w o' ss' es' (ep+1) t':=by
 have g:=DD (Obj.putSet es' t') ho (by rw [putSet_of es' t' S.dat];rfl)
 rw [putSet_of es' t' S.dat] at g
 exact ⟨_,g,⟨S.ex,rfl,e1,e2,e3,e4,e5,fun _=>e6⟩⟩
section
variable {prog:IE}{w:IF}{A:ID}{E:IA→IB→Prop}{s:IB}
theorem Aic {f:Bool→Sem Unit}(hf:∀(b:Bool) (s1:IB) (Q':Unit→IB→Prop),Q' () s1→wpAny (model prog w) A (f b) Q' E s1){a:IC}{o:Obj}{ss ss':IG}{es es':Array (Int×IA)}{ep:Nat}{t t':SetTable}
  (ho:s.heap.get? a=some o) (S:Hc prog w o ss es ep t) (e1:ElemsOf (PySem.strKind prog w) es'.toList) (e2:(es'.toList.map tx).Perm ss') (e3:t'.fits es'.size=true) (e4:es'.size<scanBound) (e5:t'.led=!K6 w)
  (e6:t'.plain=false) {wd:Bool} {R:Option Bool→IB→Prop} (q:∀g,Heap.SameBut a s.heap g→Om prog w g a ss'→R (some true) { s with heap:=g }) :
  wpAny (model prog w) A (do
   storeSet a es' t'
   if (!wd&&t'.tooFull)=true then do { f (relayAll t' es' (SetTable.grown es'.size)).2.2;storeSet a (relayAll t' es' (SetTable.grown es'.size)).1 (relayAll t' es' (SetTable.grown es'.size)).2.1;pure (some true) } else pure (some true)) R E s:=by
 refine AA (wpAny_storeSet_of ho S.dat ?_ (GB e4))
 obtain ⟨o1,g1,S1⟩:=Afw ho S e1 e2 e3 e4 e5 e6
 have b1:=CG s.heap a (Obj.putSet es' t')
 split
 ·have r1:=relayAll_perm t' es' (SetTable.grown es'.size)
  have r2:=relayAll_fits t' es' (SetTable.grown es'.size)
  have r3:=Ol t' es' (SetTable.grown es'.size)
  generalize relayAll t' es' (SetTable.grown es'.size)=L at r1 r2 r3 ⊢
  obtain ⟨fs,u,gv⟩:=L
  dsimp only at r1 r2 r3 ⊢
  have hz:fs.size=es'.size:=by rw [←BS,r1.length_eq,BS]
  have hb:fs.size<scanBound:=by rw [hz];exact e4
  refine AA (hf _ _ _ (AA (wpAny_storeSet_of g1 S1.dat ?_ (GB hb))))
  obtain ⟨o2,g2,S2⟩:=Afw g1 S1 (e1.perm r1) ((r1.map tx).trans e2) r2 hb (r3.1.trans e5) (r3.2 e6)
  exact AC (q _ (b1.trans (CG _ a _)) ⟨o2,fs,_,u,g2,S2⟩)
 ·exact AC (q _ b1 ⟨o1,es',_,t',g1,S1⟩)
theorem Apd {a:IC}{ss:IG}{x:Str}{tk:Tok}{Q:Bool→IB→Prop}(hS:Om prog w s.heap a ss)(room:ss.length+1<scanBound)
  (q:∀b g,Heap.SameBut a s.heap g→Om prog w g a (dd ss x)→Q b { s with heap:=g }):wpAny (model prog w) A (setAddHashed a (.str x tk) ((PySem.strKind prog w).hash x)) Q E s:=by
 obtain ⟨o,es,ep,t,ho,S⟩:=hS
 have key:(PySem.strKind prog w).is x (.str x tk)=true:=by
  show (x==x)=true
  simp
 have scn:(Value.str x tk).scannable=true:=rfl
 have hz:=S.size
 unfold setAddHashed setAddHashedIn
 refine DQ (AA (EX ho S.dat S.fit ?_))
 dsimp only
 rw [byScan_of scn S.bd S.el]
 simp only [↓reduceIte]
 unfold setAddByScan
 refine AA (AA (GY (AA (wpAny_setScan_of (knd:=PySem.strKind prog w) key ho S.dat S.fit S.el ?_))))
 cases hr:List.findIdx? (fun e=>(PySem.strKind prog w).is x e.2) es.toList with
 |some j=>
  dsimp only
  obtain ⟨hj,hp,_⟩:=List.findIdx?_eq_some_iff_getElem.mp hr
  have hx:x∈ss:=S.pm.mem_iff.mp (BG.mpr ⟨_,EJ hj,Aio hp⟩)
  refine AC (AC ?_)
  refine q false s.heap (Heap.SameBut.refl a s.heap) ⟨o,es,ep,t,ho,?_⟩
  rw [show dd ss x=ss from AZ hx]
  exact S
 | none=>
  dsimp only
  have hx:x∉ss:=fun h=>by
   obtain ⟨e,he,z⟩:=BG.mp (S.pm.mem_iff.mpr h)
   obtain ⟨⟨k,hk,_⟩,_⟩:=S.el e he
   have z':=(Aio hk).symm.trans z
   subst z'
   have:=List.findIdx?_eq_none_iff.mp hr e he
   rw [hk] at this
   cases this
  have gw:∀(b:Bool) (s1:IB) (Q':Unit→IB→Prop),Q' () s1→wpAny (model prog w) A (match b with|true=>rule "set.scan.the-table-gave-way"|false=>pure ()) Q' E s1:=fun b s1 Q' h=>by
   cases b with
   |true=>exact GY h
   |false=>exact AC h
  have r1:=layNew_perm t es ((PySem.strKind prog w).hash x) (.str x tk)
  have r2:=layNew_fits t es ((PySem.strKind prog w).hash x) (.str x tk)
  have r3:=Xs t es ((PySem.strKind prog w).hash x) (.str x tk)
  generalize layNew t es ((PySem.strKind prog w).hash x) (.str x tk)=L at r1 r2 r3 ⊢
  obtain ⟨fs,u,wd,gv⟩:=L
  dsimp only at r1 r2 r3 ⊢
  rw [Array.toList_push] at r1
  have f1:ElemsOf (PySem.strKind prog w) fs.toList:=(S.el.push key scn).perm r1
  have f2:(fs.toList.map tx).Perm (dd ss x):=by
   rw [show dd ss x=ss++[x] from AW hx]
   refine (r1.map tx).trans ?_
   rw [BQ]
   exact S.pm.append_right _
  have fz:fs.size=es.size+1:=by rw [←BS,r1.length_eq,AG,BS];rfl
  have fb:fs.size<scanBound:=by rw [fz,hz];exact room
  have fin:∀g,Heap.SameBut a s.heap g→Om prog w g a (dd ss x)→wpAny (model prog w) A (pure true) Q E { s with heap:=g }:=fun g b h=>AC (q true g b h)
  refine AA (gw _ _ _ ?_)
  split
  ·refine AA ?_
   rw [hashByValue_scannable 8 scn]
   refine AC ?_
   refine Aic gw ho S f1 f2 (SetTable.fits_plain_off r2) fb (r3.trans S.led) rfl ?_
   intro g b h
   dsimp only
   exact fin g b h
  ·rename_i np
   refine AA (AC ?_)
   simp only [↓reduceIte]
   refine Aic gw ho S f1 f2 r2 fb (r3.trans S.led) (by simpa using np) ?_
   intro g b h
   dsimp only
   exact fin g b h
theorem Yp (val:Nat→Str):∀i,(ddn val i).length≤i
 |0=>AF _
 | i+1=>by
  have h:=Yp val i
  rw [K1]
  unfold dd
  split
  ·omega
  ·rw [AG,BR]
   omega
theorem Aoc {R:Result→IB→Prop}{I:IC}{fp wr:List IC}{G:Array GenState→Array GenState→Prop}{n:Nat}{P:Nat→IA→Prop}{St:Nat→IB→Prop}(W:WalksS prog w A.in1 I fp wr G n P St)(S:IC)(nS:S∉fp)
  (val:Nat→Str) (hv:∀i v,P i v→∃t,v=.str (val i) t) (hb:n+1<scanBound):∀(k i:Nat) (s:IB),n-i=k→i≤n→St i s→Om prog w s.heap S (ddn val i) →
   (∀s',Moved (S::wr) G s s'→Om prog w s'.heap S (ddn val n)→R (.ok (.ret .none)) s')→codeAny (model prog w) A (.builtin "set.update.loop" ⟨[.ref S,.ref I],[]⟩) R s:=by
 have nw:S∉wr:=fun h=>nS (W.sub _ h)
 have sub:∀b∈wr,b∈S::wr:=fun b hb=>AQ _ hb
 have keepS:∀{s s':IB} {ss:IG},Moved wr G s s'→Om prog w s.heap S ss→Om prog w s'.heap S ss:=fun m ⟨o,es,ep,t,h,z⟩=>⟨o,es,ep,t,m.heap S _ nw h,z⟩
 intro k
 induction k with
 |zero=>
  intro i s hk hi st hS hR
  have e:i=n:=by omega
  subst e
  refine codeAny_builtin PyProof.Rows.F.entry_set_update_loop ?_
  rw [DS EO _]
  show wpAny _ A.in1 (pyNext (.ref I) >>= _) _ _ s
  refine AA (W.done s _ _ st fun s' m=>AC (hR s' (m.mono sub) (keepS m hS)))
 | succ k ih=>
  intro i s hk hi st hS hR
  have lt:i<n:=by omega
  refine codeAny_builtin PyProof.Rows.F.entry_set_update_loop ?_
  rw [DS EO _]
  show wpAny _ A.in1 (pyNext (.ref I) >>= _) _ _ s
  refine AA (W.item i s _ _ lt st fun v s' hP st' m=>?_)
  obtain ⟨t,rfl⟩:=hv i v hP
  have hS':=keepS m hS
  show wpAny _ A.in1 (holding [Value.str (val i) t] (setAdd S (.str (val i) t)) >>= _) _ _ s'
  refine AA (DQ ?_)
  unfold setAdd
  refine DQ (AA ((PySem.strKind prog w).pyHash (k:=val i) (by show (val i==val i)=true;simp) ?_))
  have room:(ddn val i).length+1<scanBound:=by have:=Yp val i;omega
  refine Apd (s:={ s' with toks:=s'.toks+1 }) hS' room fun b g sb hS2=>?_
  rw [←K1] at hS2
  refine AC ⟨HL EO _,ih (i+1) _ (by omega) lt (W.frame _ s' _ _ st' (DW _) fun c hc o e=>?_) hS2 fun s2 m2 z2=>?_⟩
  ·rw [sb.2 c (fun h:c=S=>nS (h▸hc))]
   exact e
  ·refine hR s2 (Moved.trans W.gtrans ((m.mono sub).then_heap (DW _) fun c o hc e=>?_) m2) z2
   rw [sb.2 c (fun h:c=S=>hc (by rw [h];exact AO))]
   exact e
def fsO (w:IF):Obj:={ cls:=.type "set",dict:=none,data:=.set #[] 0 (.fresh 0 0 (!K6 w)) }
theorem fsS (h:Heap):Om prog w (h.push (fsO w)) h.objs.size []:=
 ⟨fsO w,#[],0,_,AJ _ rfl,⟨⟨rfl,rfl,rfl⟩,rfl,fun e he=>by simp at he,List.Perm.refl _,rfl,by decide,rfl,fun h=>absurd h (by decide)⟩⟩
theorem Aex (v:IA){Q:IA→IB→Prop}(q:Q (.ref s.heap.objs.size) { s with heap:=s.heap.push (fsO w) }):codeAny (model prog w) A (.call (.builtin "set.__new__") ⟨[.type "set",v],[]⟩) (wants Q E) s:=by
 refine codeAny_of_tree ?_
 show wpAny _ A.in1 (do { checkBuiltinCall "set.__new__" ⟨[.type "set",v],[]⟩;again (.builtin "set.__new__" ⟨[.type "set",v],[]⟩) }) _ _ s
 refine AA (wpAny_of_eq (PySem.F.newCall_set_1 v) (AC ⟨HL PySem.F.plain_set_new _,codeAny_builtin PySem.F.entry_set_new ?_⟩))
 rw [DS PySem.F.plain_set_new _];unfold Builtin.«set.__new__» Builtin.Frozenset.newClass
 have sub:=sub_set_self;obtain ⟨hp,g,d,tk,os⟩:=s;dsimp only
 wp_walk
 refine FE (AC ?_);dsimp only;simp only [newObj]
 refine AA (wpAny_alloc (AC (AC ?_)))
 exact q
theorem Aai:∀{vs:II} {ss:IG},StrsAre vs ss→∀(i:Nat) (v:IA),vs[i]? =some v→∃t,v=.str (ss.getD i ⟨#[]⟩) t
 |_,_,.nil,i,v,h=>by simp at h
 |_,_,.cons x t r,0,v,h=>by
  simp at h
  exact ⟨t,h.symm⟩
 |_,_,.cons x t r,i+1,v,h=>by
  simp only [DT] at h
  obtain ⟨t',e⟩:=Aai r i v h
  exact ⟨t',by rw [e];rfl⟩
theorem Aa0 {l:IC}{vs:II}{ss:IG}{Q:IA→IB→Prop}(hh:A.handled=none)(hl:s.heap.IsList l vs.toArray)(hi:StrsAre vs ss)(hb:vs.length+1<scanBound)
  (q:∀g tk,Om prog w g s.heap.objs.size (ddn (fun i=>ss.getD i ⟨#[]⟩) vs.length)→(∀b o,s.heap.get? b=some o→g.get? b=some o)→Q (.ref s.heap.objs.size) { s with heap:=g,toks:=tk }) :
  wpAny (model prog w) A (call (.type "set") [.ref l]) Q E s:=by
 obtain ⟨c,tl,mro⟩:=DP.mro
 have made:=DP.made
 have sub:=DP.sub
 refine wpAny_call (codeAny_of_tree ?_)
 show wpAny _ _ (callAny (.type "set") _) _ _ _
 refine AC ⟨Code.quiet_builtin _ (by decide +kernel),codeAny_builtin PySem.F.entry_type_call ?_⟩
 rw [Around.under_plain (weight_type_call_type "set" [.ref l] []) rfl]
 have z1:=DP.notType
 have z2:=DP.canCreate
 have z3:=PySem.F.typeCall_set_1 (.ref l)
 repeat (any_goals (first|assumption|wp_step))
 refine GT (Aex (.ref l) (E:=E) (Q:=fun v s1=>v=.ref s.heap.objs.size∧s1={ s with heap:=s.heap.push (fsO w) }) ⟨rfl,rfl⟩) fun r s1 hr=>?_
 match r,hr with
 |.error e,hr=>exact hr
 | .ok (.ret v),hr=>
  obtain ⟨rfl,rfl⟩:=hr
  have gS:(s.heap.push (fsO w)).get? s.heap.objs.size=some (fsO w):=AJ _ rfl
  have ty:Shared.TypeIs { s with heap:=s.heap.push (fsO w) } (.ref s.heap.objs.size) "set":=⟨_,gS,rfl⟩
  have z4:=DP.init.lookup
  have z5:=DP.init.bind (.ref s.heap.objs.size)
  repeat (any_goals (first|assumption|wp_step))
  refine GT (codeAny_call_builtin (R:=wants (fun r s2=>r=.none∧∃g tk,s2={ s with heap:=g,toks:=tk }∧Om prog w g s.heap.objs.size (ddn (fun i=>ss.getD i ⟨#[]⟩) vs.length)∧∀b o,s.heap.get? b=some o→g.get? b=some o) E)
   DP.init.plain PySem.F.entry_set_init (check_set_init_1 ty ?_)) fun r2 s2 hr2=>?_
  ·obtain ⟨ol,hol,hcl,nl,hdl⟩:=hl
   obtain ⟨oc,od,odt,osl⟩:=ol
   simp only at hcl hdl
   subst hcl hdl
   have hol1:(s.heap.push (fsO w)).get? l=some { cls:=.type "list",dict:=od,data:=.seq vs.toArray nl,slots:=osl }:=AB _ hol
   have gS1:(s.heap.push (fsO w)).get? s.heap.objs.size=some { cls:=.type "set",dict:=none,data:=.set #[] 0 (.fresh 0 0 (!K6 w)) }:=gS
   have z6:=PySem.F.sub_list_set
   have z7:=PySem.F.sub_list_frozenset
   have z8:(Value.type "list"==Value.type "dict")=false:=by decide
   have hl1:(s.heap.push (fsO w)).IsList l vs.toArray:=⟨_,hol1,rfl,nl,rfl⟩
   have lt:l<s.heap.objs.size:=AK hol
   clear gS hol
   generalize hg:s.heap.push (fsO w)=g0 at *
   unfold Builtin.«set.__init__» noKeywords Builtin.Frozenset.updateFrom
   generalize hPI:pyIter=PI
   wp_walk
   subst hPI
   refine FX hl1 ?_
   refine AA (wpAny_runValue ?_)
   have sz:g0.objs.size=s.heap.objs.size+1:=by rw [←hg];exact CL ..
   have neI:l≠g0.objs.size:=by rw [sz];exact BC (CS lt)
   have nf:s.heap.objs.size∉[g0.objs.size,l]:=by
    rw [sz]
    simp only [AS,GH,or_false,not_or]
    exact ⟨BC (DZ _),DN lt⟩
   have hval:∀(i:Nat) (v:IA),vs.toArray[i]? =some v→∃t,v=.str ((fun i=>ss.getD i ⟨#[]⟩) i) t:=fun i v hv=>Aai hi i v (by rw [←hv];simp)
   refine Aoc ((Walks.list (by simp [hh]) _ l neI vs.toArray).toS) s.heap.objs.size nf (fun i=>ss.getD i ⟨#[]⟩) hval (by simpa using hb) (vs.toArray.size-0) 0 _ (by omega) (BK _) ⟨⟨_,AJ _ rfl,rfl,rfl⟩,hl1.push _⟩ ?hS0 ?hR
   case hS0=>
    obtain ⟨o,es,ep,t,h1,h2⟩:=fsS (prog:=prog) (w:=w) s.heap
    rw [hg] at h1
    exact ⟨o,es,ep,t,AB _ h1,h2⟩
   case hR=>
    intro s' m hS'
    obtain ⟨g',gn,dr,tk,os⟩:=s'
    obtain ⟨m1,m2,m3,m4,m5⟩:=m
    dsimp only at m1 m2 m3 m4 m5
    subst m2 m3 m4
    show wpAny _ _ _ _ _ _
    refine AC ?_
    show wpAny _ _ (ret Value.none) _ _ _
    refine AC ⟨rfl,g',tk,rfl,?_,fun b o e=>m1 b o ?_ (AB _ ?_)⟩
    ·simpa using hS'
    ·have hb:=AK e
     rw [sz]
     simp only [AS,GH,or_false,not_or]
     exact ⟨BC hb,BC (CS hb)⟩
    ·rw [←hg]
     exact AB _ e
  ·match r2,hr2 with
   |.error e,hr2=>exact hr2
   |.ok (.ret v),hr2=>
    obtain ⟨rfl,g,tk,rfl,h1,h2⟩:=hr2
    repeat (any_goals (first|assumption|wp_step))
    exact q _ _ h1 h2
   |.ok .next,hr2=>exact hr2.elim
   |.ok .brk,hr2=>exact hr2.elim
   |.ok .cont,hr2=>exact hr2.elim
 |.ok .next,hr=>exact hr.elim
 |.ok .brk,hr=>exact hr.elim
 |.ok .cont,hr=>exact hr.elim
end
end Lw
end
section
namespace Lw
open PySem PySem.Spec PyProof.Rows L2
theorem By:Slot "set_iterator" "__next__" "set_iterator.__next__":=.of (owner:="set_iterator") (n:="__next__") (by rw [typeLookup_type,builtinLookup_eq_fast];kernel_rfl) (by decide +kernel) (by decide +kernel) (by decide +kernel) (by first|exact .inl (by decide +kernel)|exact .inr (by decide +kernel)) (by rw [isSubtype_type];kernel_rfl)
theorem Gc:entryFor table "set_iterator.__next__"=some Builtin.«set_iterator.__next__»:=entryFor_of_tree (by kernel_rfl)
theorem Vm:entryFor table "set.__iter__"=some Builtin.«frozenset.__iter__»:=entryFor_alias (id':="frozenset.__iter__") (by kernel_rfl) rfl (by decide +kernel) (by kernel_rfl)
def SI (h:Heap)(I:IC)(f:IA)(i:Nat)(a:IC)(n ep:Nat):Prop:=∃o,h.get? I=some o∧o.cls=.type "set_iterator"∧o.data=.fields #[f,.int i 0,.ref a,.int n 0,.int ep 0]
theorem SI.mv {h h':Heap}{I a:IC}{f:IA}{i n ep:Nat}(x:SI h I f i a n ep)(q:∀o,h.get? I=some o→h'.get? I=some o):SI h' I f i a n ep:=by
 obtain ⟨o,e,r⟩:=x
 exact ⟨o,q o e,r⟩
theorem Zc {α:Type}(nx:Nat→Nat):∀(fuel k:Nat) (left:List α) (out:Array α),left.length=fuel→(pickOrder.go nx fuel k left out).toList.Perm (out.toList++left)
 |0,k,left,out,h=>by
  have:left=[]:=CV.mp h
  subst this
  rw [CJ]
  exact List.Perm.refl _
 |fuel+1,k,left,out,h=>by
  have hp:0<left.length:=by omega
  have hj:nx k % left.length<left.length:=Nat.mod_lt _ hp
  have e:left[nx k % left.length]? =some left[nx k % left.length]:=AD hj
  unfold pickOrder.go
  rw [e]
  dsimp only
  refine (Zc nx fuel (k+1) _ _ (by rw [List.length_eraseIdx_of_lt hj,h];rfl)).trans ?_
  rw [Array.toList_push,BU]
  exact (Ko left _ _ e).append_left _
theorem Gy {α:Type}(nx:Nat→Nat)(xs:Array α):(pickOrder nx xs).toList.Perm xs.toList:=by
 have:=Zc nx xs.size 0 xs.toList #[] (by simp)
 simpa [pickOrder] using this
section
variable {prog:IE}{w:IF}{A:ID}{E:IA→IB→Prop}{s:IB}
theorem Alw {M:Model}{src:Source}{n:Nat}{Q:Nat→IB→Prop}(hn:n≠0)(q:∀i d,i<n→Q i { s with drawn:=d }):wpAny M A (choose src n) Q E s:=
 fun _ _ _=>⟨hn,q _ _ (Nat.mod_lt _ (Nat.pos_of_ne_zero hn))⟩
theorem Q9 {M:Model}{α:Type}:∀(n:Nat) (xs:List α) (s:IB) {Q:List α→IB→Prop},xs.length=n→(∀ys d,ys.Perm xs→Q ys { s with drawn:=d })→wpAny M A (drawOrder n xs) Q E s
 |0,xs,s,Q,h,q=>by
  have:xs=[]:=CV.mp h
  subst this
  unfold drawOrder
  exact AC (q [] s.drawn (List.Perm.refl _))
 |n+1,[],s,Q,h,q=>by simp at h
 |n+1,x::xs,s,Q,h,q=>by
  unfold drawOrder
  refine AA (Alw (by simp) fun i d hi=>?_)
  have e:(x::xs)[i]? =some (x::xs)[i]:=AD hi
  rw [e]
  dsimp only
  refine AA (Q9 n _ _ (by rw [List.length_eraseIdx_of_lt hi,h];rfl) fun ys d' hp=>AC ?_)
  exact q _ d' ((hp.cons _).trans (Ko _ _ _ e))
theorem On {I a:IC}{slot nx i:Nat}{o:Obj}{ss:IG}{es:Array (Int×IA)}{ep:Nat}{t:SetTable}{x:IA}{Q:IK→IB→Prop}(hit:SI s.heap I (.int slot 0) i a es.size ep)(ho:s.heap.get? a=some o)(S:Hc prog w o ss es ep t)
  (hn:∀(Q':Option (IA×Nat)→IB→Prop) (E':IA→IB→Prop),Q' (some (x,nx)) s→wpAny (model prog w) A.in1 (setNext a slot i ep) Q' E' s)
  (q:∀g,SI g I (.int nx 0) (i+1) a es.size ep→Heap.SameBut I s.heap g→Q (some x) { s with heap:=g }):wpAny (model prog w) A (pyNext (.ref I)) Q E s:=by
 obtain ⟨io,e1,c1,d1⟩:=id hit
 have ty:s.TypeIs (.ref I) "set_iterator":=⟨io,e1,c1⟩
 unfold pyNext
 refine AA (wpAny_attempt (CP (name:=Str.ofString "__next__") ty By (wpAny_call_entry By ty Gc ?_)))
 unfold Builtin.«set_iterator.__next__»
 refine AA (m:=slotArgs "__next__" 0 _) (AC ?_)
 refine AA (wpAny_fieldsOf e1 d1 ?_)
 dsimp only
 refine AA (FI ho S.dat S.fit ?_)
 simp only [DC,BX,DU,DK]
 refine AA (hn _ _ ?_)
 dsimp only
 refine AA (EH e1 d1 (by simp) ?_)
 have g1:=DD (Obj.mapFields (·.setIfInBounds 0 (rawInt (nx:Int)))) e1 (EU (CY d1 _))
 have d2:=CY d1 (·.setIfInBounds 0 (rawInt (nx:Int)))
 refine AA (EH g1 d2 (by simp) ?_)
 refine AC ⟨_,rfl,AC (q _ ?_ ((CG ..).trans (CG ..)))⟩
 refine ⟨_,DD _ g1 (EU (CY d2 _)),(HC ..).trans ((HC ..).trans c1),?_⟩
 rw [CY d2]
 simp [rawInt]
theorem Rr {I a:IC}{slot i:Nat}{o:Obj}{ss:IG}{es:Array (Int×IA)}{ep:Nat}{t:SetTable}{Q:IK→IB→Prop}(hh:A.handled=none)(hit:SI s.heap I (.int slot 0) i a es.size ep)(ho:s.heap.get? a=some o)(S:Hc prog w o ss es ep t)
  (hn:∀(Q':Option (IA×Nat)→IB→Prop) (E':IA→IB→Prop),Q' none s→wpAny (model prog w) A.in1 (setNext a slot i ep) Q' E' s)
  (q:∀g,Heap.ExtBut I s.heap g→Q none { s with heap:=g }):wpAny (model prog w) A (pyNext (.ref I)) Q E s:=by
 obtain ⟨io,e1,c1,d1⟩:=id hit
 have ty:s.TypeIs (.ref I) "set_iterator":=⟨io,e1,c1⟩
 unfold pyNext
 refine AA (wpAny_attempt (CP (name:=Str.ofString "__next__") ty By (wpAny_call_entry By ty Gc ?_)))
 unfold Builtin.«set_iterator.__next__»
 refine AA (m:=slotArgs "__next__" 0 _) (AC ?_)
 refine AA (wpAny_fieldsOf e1 d1 ?_)
 dsimp only
 refine AA (FI ho S.dat S.fit ?_)
 simp only [DC,BX,DU,DK]
 refine AA (hn _ _ ?_)
 dsimp only
 refine AA (EH e1 d1 (by simp) ?_)
 show wpAny _ _ (newExc (.type "StopIteration") [] >>= _) _ _ _;refine AA ?_;simp only [newExc,newTuple]
 refine AA (CD ?_ (by size_fits));refine AA (m:=firstArgMember _ _) (wpAny_of_eq (a:=Value.none) (by first|rfl|(simp only [firstArgMember];rfl)) ?_)
 refine CD ?_ (by size_fits);simp only [raiseNew];refine AA (wpAny_handled ?_);rw [show A.in1.handled=none from hh]
 refine AA (AC (wpAny_throw ?_))
 exact AA (GF (T:="StopIteration") (b:=true) ⟨_,AJ _ rfl,rfl⟩ isSubtype_stop (AC (q _ (((CG ..).extBut.push _).push _))))
theorem Xc {I a T:IC}{i p:Nat}{o oT:Obj}{ss:IG}{es:Array (Int×IA)}{ep nT:Nat}{t:SetTable}{vs:Array IA}{x:Int×IA}{Q:IK→IB→Prop}(hit:SI s.heap I (.ref T) i a es.size ep)(ho:s.heap.get? a=some o)(S:Hc prog w o ss es ep t)
  (hT:s.heap.get? T=some oT) (dT:oT.data=.seq vs nT) (hv:vs[i]? =some (.int p 0)) (hx:es[p]? =some x)
  (q:∀g,SI g I (.ref T) (i+1) a es.size ep→Heap.SameBut I s.heap g→Q (some x.2) { s with heap:=g }):wpAny (model prog w) A (pyNext (.ref I)) Q E s:=by
 obtain ⟨io,e1,c1,d1⟩:=id hit
 have ty:s.TypeIs (.ref I) "set_iterator":=⟨io,e1,c1⟩
 unfold pyNext
 refine AA (wpAny_attempt (CP (name:=Str.ofString "__next__") ty By (wpAny_call_entry By ty Gc ?_)))
 unfold Builtin.«set_iterator.__next__»
 refine AA (m:=slotArgs "__next__" 0 _) (AC ?_)
 refine AA (wpAny_fieldsOf e1 d1 ?_)
 dsimp only
 refine AA (FI ho S.dat S.fit ?_)
 simp only [DC,BX,DU,DK]
 refine AA (DR hT dT ?_)
 dsimp only
 rw [hv]
 dsimp only
 simp only [DK]
 unfold setNextDrawn
 refine AA (AA (EX ho S.dat S.fit ?_))
 dsimp only
 simp only [DC,BX,DU]
 rw [hx]
 dsimp only
 refine AC ?_
 refine AA (EH e1 d1 (by simp) (AC ⟨_,rfl,AC (q _ ?_ (CG ..))⟩))
 refine ⟨_,DD _ e1 (EU (CY d1 _)),(HC ..).trans c1,?_⟩
 rw [CY d1]
 simp [rawInt]
theorem Aa8 {I a T:IC}{i:Nat}{o oT:Obj}{ss:IG}{es:Array (Int×IA)}{ep nT:Nat}{t:SetTable}{vs:Array IA}{Q:IK→IB→Prop}(hh:A.handled=none)(hit:SI s.heap I (.ref T) i a es.size ep)(ho:s.heap.get? a=some o)(S:Hc prog w o ss es ep t)
  (hT:s.heap.get? T=some oT) (dT:oT.data=.seq vs nT) (hv:vs[i]? =none)
  (q:∀g,Heap.ExtBut I s.heap g→Q none { s with heap:=g }):wpAny (model prog w) A (pyNext (.ref I)) Q E s:=by
 obtain ⟨io,e1,c1,d1⟩:=id hit
 have ty:s.TypeIs (.ref I) "set_iterator":=⟨io,e1,c1⟩
 unfold pyNext
 refine AA (wpAny_attempt (CP (name:=Str.ofString "__next__") ty By (wpAny_call_entry By ty Gc ?_)))
 unfold Builtin.«set_iterator.__next__»
 refine AA (m:=slotArgs "__next__" 0 _) (AC ?_)
 refine AA (wpAny_fieldsOf e1 d1 ?_)
 dsimp only
 refine AA (FI ho S.dat S.fit ?_)
 simp only [DC,BX,DU,DK]
 refine AA (DR hT dT ?_)
 dsimp only
 rw [hv]
 dsimp only
 refine AA (EH e1 d1 (by simp) ?_)
 have g1:=DD (Obj.mapFields (·.setIfInBounds 0 (rawInt 0))) e1 (EU (CY d1 _))
 have d2:=CY d1 (·.setIfInBounds 0 (rawInt 0))
 refine AA (EH g1 d2 (by simp) ?_)
 show wpAny _ _ (newExc (.type "StopIteration") [] >>= _) _ _ _;refine AA ?_;simp only [newExc,newTuple]
 refine AA (CD ?_ (by size_fits));refine AA (m:=firstArgMember _ _) (wpAny_of_eq (a:=Value.none) (by first|rfl|(simp only [firstArgMember];rfl)) ?_)
 refine CD ?_ (by size_fits);simp only [raiseNew];refine AA (wpAny_handled ?_);rw [show A.in1.handled=none from hh]
 refine AA (AC (wpAny_throw ?_))
 exact AA (GF (T:="StopIteration") (b:=true) ⟨_,AJ _ rfl,rfl⟩ isSubtype_stop (AC (q _ ((((CG ..).trans (CG ..)).extBut.push _).push _))))
theorem Z0 {a:IC}{slot i:Nat}{o:Obj}{ss:IG}{es:Array (Int×IA)}{ep:Nat}{t:SetTable}{Q:Option (IA×Nat)→IB→Prop}(ho:s.heap.get? a=some o)(S:Hc prog w o ss es ep t)(hb:K6 w=true)
  (q:Q (((pickOrder (w.params.setOrder a ep) es)[i]?).map fun e=>(e.2,slot)) s):wpAny (model prog w) A (setNext a slot i ep) Q E s:=by
 have hb':(model prog w).w.params.followText "set-order"=true:=hb
 unfold setNext
 refine AA (EX ho S.dat S.fit ?_)
 dsimp only
 unfold setsByText
 refine AA (AA (FE (AC ?_)))
 dsimp only
 rw [hb']
 simp only [↓reduceIte,DC,BX,DU]
 unfold setWalk
 refine AA (AA (EX ho S.dat S.fit ?_))
 dsimp only
 unfold setsByText
 refine AA (AA (FE (AC ?_)))
 dsimp only
 rw [hb']
 simp only [↓reduceIte]
 refine AA (FE (AC (AC ?_)))
 exact q
theorem Wi {a:IC}{slot i:Nat}{o:Obj}{ss:IG}{es:Array (Int×IA)}{ep:Nat}{t:SetTable}{Q:Option (IA×Nat)→IB→Prop}(ho:s.heap.get? a=some o)(S:Hc prog w o ss es ep t)(hb:K6 w=false)(hz:es.size≤1)
  (q:Q (match es[SetTable.below t.place slot]?,t.place[SetTable.below t.place slot]? with|some (_,x),some j=>some (x,j+1)|_,_=>none) s):wpAny (model prog w) A (setNext a slot i ep) Q E s:=by
 have hb':(model prog w).w.params.followText "set-order"=false:=hb
 have hl:t.led=true:=by rw [S.led,hb];rfl
 unfold setNext
 refine AA (EX ho S.dat S.fit ?_)
 dsimp only
 unfold setsByText
 refine AA (AA (FE (AC ?_)))
 dsimp only
 rw [hb']
 simp only [BX,DU]
 split
 ·rename_i h
  have h':(!t.plain&&decide (es.size>1))=true:=h
  have:decide (es.size>1)=false:=BF (by omega)
  rw [this,FB] at h'
  cases h'
 ·refine AA ?_
  show wpAny _ _ (if (!t.led&&!es.isEmpty)=true then _ else _) _ _ _
  rw [hl,AW (by simp)]
  exact AC (AC q)
theorem Als (p:Nat):SetTable.below #[p] 0=0:=by
 unfold SetTable.below
 simp [SetTable.below.go]
theorem Al0 (p:Nat):SetTable.below #[p] (p+1)=1:=by
 unfold SetTable.below
 simp [SetTable.below.go]
theorem M6:Slot "set_iterator" "__iter__" "set_iterator.__iter__":=.of (owner:="set_iterator") (n:="__iter__") (by rw [typeLookup_type,builtinLookup_eq_fast];kernel_rfl) (by decide +kernel) (by decide +kernel) (by decide +kernel) (by first|exact .inl (by decide +kernel)|exact .inr (by decide +kernel)) (by rw [isSubtype_type];kernel_rfl)
theorem Vj:entryFor table "set_iterator.__iter__"=some Builtin.«dict_keyiterator.__iter__»:=entryFor_alias (id':="dict_keyiterator.__iter__") (by kernel_rfl) rfl (by decide +kernel) (by kernel_rfl)
theorem Oo {I a:IC}{f:IA}{i n ep:Nat}{Q:IA→IB→Prop}(hit:SI s.heap I f i a n ep)(q:Q (.ref I) s):wpAny (model prog w) A (pyIter (.ref I)) Q E s:=by
 obtain ⟨io,e1,c1,d1⟩:=hit
 have ty:s.TypeIs (.ref I) "set_iterator":=⟨io,e1,c1⟩
 refine wpAny_pyIter_slot ty M6 (wpAny_call_entry M6 ty Vj ?_)
 show wpAny _ _ (ret (.ref I)) _ _ s
 exact AC ⟨_,rfl,"set_iterator",_,ty,By.lookup,q⟩
theorem Gn {I:IC}{g:Heap}(sb:Heap.ExtBut I s.heap g):Moved [I] (fun a b=>b=a) s { s with heap:=g } :=
 ⟨fun b o hb e=>sb b o (fun z=>hb (by rw [z];exact AO)) e,rfl,rfl,rfl,AF _⟩
theorem Af9 {I a:IC}{o:Obj}{ss:IG}{es:Array (Int×IA)}{ep:Nat}{t:SetTable}(S:Hc prog w o ss es ep t)(hb:K6 w=true)(ne:a≠I){B:ID}(hh:B.handled=none) :
  WalksS prog w B I [I,a] [I] (fun a b=>b=a) es.size (fun i v=>((pickOrder (w.params.setOrder a ep) es).toList.map (·.2))[i]? =some v) (fun i s=>SI s.heap I (.int (0:Nat) 0) i a es.size ep∧s.heap.get? a=some o) where
 sub:=fun b hb=>by simp at hb;simp [hb]
 grefl:=fun _=>rfl
 gtrans:=fun _ _ _ h1 h2=>h2.trans h1
 frame:=fun i s h' _ st _ k=>⟨st.1.mv fun o e=>k I (by simp) o e,k a (by simp) _ st.2⟩
 item:=fun i s Q E hi st hQ=>by
  have hz:(pickOrder (w.params.setOrder a ep) es).size=es.size:=by rw [←BS,(Gy _ es).length_eq,BS]
  have e:(pickOrder (w.params.setOrder a ep) es)[i]? =some (pickOrder (w.params.setOrder a ep) es)[i]:=Array.getElem?_eq_getElem (by omega)
  refine On (slot:=0) (nx:=0) st.1 st.2 S (fun Q' E' h=>Z0 st.2 S hb (by rw [e];exact h)) fun g hg sb=>hQ _ _ ?_ ⟨hg,sb.extBut a _ ne st.2⟩ (Gn sb.extBut)
  rw [BE,EC,e]
  rfl
 done:=fun s Q E st hQ=>by
  have hz:(pickOrder (w.params.setOrder a ep) es).size=es.size:=by rw [←BS,(Gy _ es).length_eq,BS]
  have e:(pickOrder (w.params.setOrder a ep) es)[es.size]? =none:=HI (by omega)
  exact Rr hh st.1 st.2 S (fun Q' E' h=>Z0 st.2 S hb (by rw [e];exact h)) fun g sb=>hQ _ (Gn sb)
 self:=fun i s Q E st hQ=>Oo st.1 hQ
theorem Ah0 {I a T:IC}{o oT:Obj}{ss:IG}{es:Array (Int×IA)}{ep nT:Nat}{t:SetTable}(S:Hc prog w o ss es ep t)(ps:IM)(hp:∀p∈ps,p<es.size)(hl:ps.length=es.size)(dT:oT.data=.seq (ps.map fun (p:Nat)=>rawInt p).toArray nT)(ne:a≠I)(neT:T≠I){B:ID}(hh:B.handled=none) :
  WalksS prog w B I [I,a,T] [I] (fun a b=>b=a) es.size (fun i v=>(ps.map fun p=>((es[p]?).map (·.2)).getD .none)[i]? =some v) (fun i s=>SI s.heap I (.ref T) i a es.size ep∧s.heap.get? a=some o∧s.heap.get? T=some oT) where
 sub:=fun b hb=>by simp at hb;simp [hb]
 grefl:=fun _=>rfl
 gtrans:=fun _ _ _ h1 h2=>h2.trans h1
 frame:=fun i s h' _ st _ k=>⟨st.1.mv fun o e=>k I (by simp) o e,k a (by simp) _ st.2.1,k T (by simp) _ st.2.2⟩
 item:=fun i s Q E hi st hQ=>by
  have hi':i<ps.length:=by omega
  have h1:((ps.map fun (p:Nat)=>rawInt p).toArray)[i]? =some (.int (ps[i]:Nat) 0):=by
   rw [GC,BE,AD hi']
   rfl
  have h2:=hp ps[i] (EJ hi')
  have h3:es[ps[i]]? =some es[ps[i]]:=Array.getElem?_eq_getElem h2
  refine Xc st.1 st.2.1 S st.2.2 dT h1 h3 fun g hg sb=>hQ _ _ ?_ ⟨hg,sb.extBut a _ ne st.2.1,sb.extBut T _ neT st.2.2⟩ (Gn sb.extBut)
  rw [BE,AD hi']
  simp [h3]
 done:=fun s Q E st hQ=>by
  have h1:((ps.map fun (p:Nat)=>rawInt p).toArray)[es.size]? =none:=by
   rw [GC,BE,HN (by omega)]
   rfl
  exact Aa8 hh st.1 st.2.1 S st.2.2 dT h1 fun g sb=>hQ _ (Gn sb)
 self:=fun i s Q E st hQ=>Oo st.1 hQ
theorem Afn {I a:IC}{o:Obj}{ss:IG}{es:Array (Int×IA)}{ep:Nat}{t:SetTable}(S:Hc prog w o ss es ep t)(hb:K6 w=false)(hz:es.size≤1)(ne:a≠I){B:ID}(hh:B.handled=none) :
  WalksS prog w B I [I,a] [I] (fun a b=>b=a) es.size (fun i v=>(es.toList.map (·.2))[i]? =some v) (fun i s=>(∃slot:Nat,SI s.heap I (.int slot 0) i a es.size ep∧(i=0→slot=0)∧(i=1→∀p,t.place=#[p]→slot=p+1))∧s.heap.get? a=some o) where
 sub:=fun b hb=>by simp at hb;simp [hb]
 grefl:=fun _=>rfl
 gtrans:=fun _ _ _ h1 h2=>h2.trans h1
 frame:=fun i s h' _ st _ k=>by
  obtain ⟨⟨slot,st,r⟩,st2⟩:=st
  exact ⟨⟨slot,st.mv fun o e=>k I (by simp) o e,r⟩,k a (by simp) _ st2⟩
 item:=fun i s Q E hi st hQ=>by
  obtain ⟨⟨slot,st,r,_⟩,st2⟩:=st
  have i0:i=0:=by omega
  have z1:es.size=1:=by omega
  subst i0
  have hs:=r rfl
  subst hs
  obtain ⟨e,he⟩:∃e,es=#[e]:=HP.mp z1
  have pz:t.place.size=1:=by
   have:=S.fit
   simp only [SetTable.fits,BV,GX] at this
   rw [this.1,z1]
  obtain ⟨p,hp⟩:∃p,t.place=#[p]:=HP.mp pz
  refine On (slot:=0) (nx:=p+1) (x:=e.2) st st2 S (fun Q' E' h=>Wi st2 S hb hz ?_) fun g hg sb=>hQ _ _ ?_ ⟨⟨p+1,hg,fun z=>absurd z (by decide),fun _ p' hp'=>?_⟩,sb.extBut a _ ne st2⟩ (Gn sb.extBut)
  ·rw [hp,Als,he]
   exact h
  ·rw [he]
   rfl
  ·rw [hp] at hp'
   cases hp'
   rfl
 done:=fun s Q E st hQ=>by
  obtain ⟨⟨slot,st,r0,r1⟩,st2⟩:=st
  refine Rr hh st st2 S (fun Q' E' h=>Wi st2 S hb hz ?_) fun g sb=>hQ _ (Gn sb)
  have:es.size=0∨es.size=1:=by omega
  rcases this with z|z
  ·have e0:es[SetTable.below t.place slot]? =none:=HI (by omega)
   rw [e0]
   exact h
  ·have pz:t.place.size=1:=by
    have:=S.fit
    simp only [SetTable.fits,BV,GX] at this
    rw [this.1,z]
   obtain ⟨p,hp⟩:∃p,t.place=#[p]:=HP.mp pz
   have hs:=r1 z p hp
   subst hs
   have e0:es[SetTable.below t.place (p+1)]? =none:=by
    rw [hp,Al0]
    exact HI (by omega)
   rw [e0]
   exact h
 self:=fun i s Q E st hQ=>by
  obtain ⟨⟨slot,st,_⟩,_⟩:=st
  exact Oo st hQ
theorem Tt {o:Obj}{ss:IG}{es:Array (Int×IA)}{ep:Nat}{t:SetTable}(S:Hc prog w o ss es ep t){e:Int×IA}(h:e∈es.toList):∃x tk,e.2=.str x tk:=by
 obtain ⟨⟨k,hk,_⟩,_⟩:=S.el e h
 obtain ⟨tk,z⟩:=Value.isStrOf_shape hk
 exact ⟨k,tk,z⟩
theorem An2 {a:IC}{o:Obj}{ss:IG}{es:Array (Int×IA)}{ep:Nat}{t:SetTable}{Q:IA→IB→Prop}(ho:s.heap.get? a=some o)(S:Hc prog w o ss es ep t)
  (q:∀(I:IC) (g:Heap) (d:Drawn) (xs:II) (fp:List IC) (St:Nat→IB→Prop),(∀b o,s.heap.get? b=some o→g.get? b=some o)→s.heap.objs.size≤I→I∈fp→(∀b∈fp,b=a∨s.heap.objs.size≤b∧b<g.objs.size)→(xs.map strOf).Perm ss →
   (∀v∈xs,∃x tk,v=.str x tk)→xs.length=es.size→(∀B:ID,B.handled=none→WalksS prog w B I fp [I] (fun a b=>b=a) es.size (fun i v=>xs[i]? =some v) St)→St 0 { s with heap:=g,drawn:=d }→Q (.ref I) { s with heap:=g,drawn:=d }) :
  wpAny (model prog w) A (pyIter (.ref a)) Q E s:=by
 have ty:s.TypeIs (.ref a) "set":=⟨o,ho,S.ex.1⟩
 have la:a<s.heap.objs.size:=AK ho
 refine wpAny_pyIter_slot ty PySem.F.slot_set_iter (wpAny_call_entry PySem.F.slot_set_iter ty Vm ?_ (PySem.F.args_set_iter_1 _))
 unfold Builtin.«frozenset.__iter__» Builtin.Frozenset.slot0
 refine AA (AA (m:=slotArgs "__iter__" 0 _) (AC (AC ?_)))
 unfold Builtin.Frozenset.sizeOf
 refine AA (AA (FI ho S.dat S.fit (AC ?_)))
 unfold setDrawn
 refine AA (AA (EX ho S.dat S.fit ?_))
 dsimp only
 unfold setsByText
 refine AA (AA (FE (AC ?_)))
 dsimp only
 refine AC ?_
 split
 ·rename_i hc
  have hc':(!K6 w&&(!t.plain&&decide (es.size>1)))=true:=hc
  have hb:K6 w=false:=by
   cases h:K6 w with
   |false=>rfl
   |true=>rw [h] at hc';simp at hc'
  have h1:1<es.size:=by
   have:decide (es.size>1)=true:=by
    cases h:decide (es.size>1) with
    |true=>rfl
    |false=>rw [h] at hc';simp at hc'
   exact AU this
  refine AA (Q9 es.size _ s (by simp) fun ps d hp=>?_)
  have hl:ps.length=es.size:=by rw [hp.length_eq,HE]
  have hlt:∀p∈ps,p<es.size:=fun p h=>CN.mp (hp.mem_iff.mp h)
  have hs:es.size≤sizeLine:=GB S.bd
  refine AA (wpAny_newTuple ?_ (by rw [AE,hl];exact hs))
  have ho1:(s.heap.push { cls:=.type "tuple",data:=.seq (ps.map fun (p:Nat)=>rawInt p).toArray }).get? a=some o:=AB _ ho
  refine AA (wpAny_setEpoch_of (s:={ s with heap:=_,drawn:=d }) ho1 S.dat S.fit ?_)
  refine AA (CD ?_ (by size_fits))
  have hT:(s.heap.push { cls:=.type "tuple",data:=.seq (ps.map fun (p:Nat)=>rawInt p).toArray }).get? s.heap.objs.size=some _:=AJ _ rfl
  have e1:(s.heap.push { cls:=.type "tuple",data:=.seq (ps.map fun (p:Nat)=>rawInt p).toArray }).objs.size=s.heap.objs.size+1:=CL ..
  refine AC ⟨_,rfl,"set_iterator",_,⟨_,AJ _ rfl,rfl⟩,By.lookup,?_⟩
  have neA:a≠(s.heap.push { cls:=.type "tuple",data:=.seq (ps.map fun (p:Nat)=>rawInt p).toArray }).objs.size:=by rw [e1];exact BC (CS la)
  have neT:s.heap.objs.size≠(s.heap.push { cls:=.type "tuple",data:=.seq (ps.map fun (p:Nat)=>rawInt p).toArray }).objs.size:=by rw [e1];exact BC (DZ _)
  refine q _ _ d (ps.map fun p=>((es[p]?).map (·.2)).getD .none) [_,a,s.heap.objs.size] _ (fun b o e=>AB _ (AB _ e)) (by simp only [e1];omega) AO ?_ ?_ ?_ (by rw [AE,hl]) (fun B hh=>Ah0 S ps hlt hl rfl neA neT hh) ⟨⟨_,AJ _ rfl,rfl,rfl⟩,AB _ ho1,AB _ hT⟩
  ·intro b hb
   simp only [AS,GH,or_false] at hb
   rcases hb with rfl|rfl|rfl
   ·exact .inr ⟨by rw [e1];exact DW _,by simp only [CL];exact DZ _⟩
   ·exact .inl rfl
   ·exact .inr ⟨AF _,by rw [CL,e1];exact CS (DZ _)⟩
  ·have r:((List.range es.size).map fun p=>((es[p]?).map (·.2)).getD .none)=es.toList.map (·.2):=by
    apply List.ext_getElem?
    intro i
    simp only [BE]
    by_cases hi:i<es.size
    ·simp [hi]
    ·simp [hi]
   have:=((hp.map fun p=>((es[p]?).map (·.2)).getD .none).map strOf)
   rw [r] at this
   exact this.trans (by rw [GD];exact S.pm)
  ·intro v hv
   obtain ⟨p,h,rfl⟩:=BG.mp hv
   have hp':=hlt p h
   obtain ⟨x,tk,z⟩:=Tt S (e:=es[p]) (by simp)
   exact ⟨x,tk,by simp [hp',z]⟩
 ·rename_i hc
  have hc':¬(!K6 w&&(!t.plain&&decide (es.size>1)))=true:=hc
  refine AA (AC (AA (wpAny_setEpoch_of ho S.dat S.fit ?_)))
  refine AA (CD ?_ (by size_fits))
  refine AC ⟨_,rfl,"set_iterator",_,⟨_,AJ _ rfl,rfl⟩,By.lookup,?_⟩
  have keep:∀{ob:Obj} (b:IC) (o:Obj),s.heap.get? b=some o→(s.heap.push ob).get? b=some o:=fun b o e=>AB _ e
  have fpk:∀{ob:Obj} (b:IC),b∈[s.heap.objs.size,a]→b=a∨s.heap.objs.size≤b∧b<(s.heap.push ob).objs.size:=fun b hb=>by
   simp only [AS,GH,or_false] at hb
   rcases hb with rfl|rfl
   ·exact .inr ⟨AF _,by rw [CL];exact DZ _⟩
   ·exact .inl rfl
  cases hb:K6 w with
  | true=>
   refine q _ _ s.drawn ((pickOrder (w.params.setOrder a ep) es).toList.map (·.2)) [_,a] _ keep (AF _) AO fpk ?_ ?_ ?_ (fun B hh=>Af9 S hb (BC la) hh) ⟨⟨_,AJ _ rfl,rfl,rfl⟩,AB _ ho⟩
   ·rw [GD]
    exact ((Gy _ es).map tx).trans S.pm
   ·intro v hv
    obtain ⟨e,h,rfl⟩:=BG.mp hv
    exact Tt S ((Gy _ es).mem_iff.mp h)
   ·rw [AE,(Gy _ es).length_eq,BS]
  | false=>
   have hz:es.size≤1:=by
    refine EG fun h=>hc' ?_
    rw [hb,S.pl (by omega)]
    simpa using h
   refine q _ _ s.drawn (es.toList.map (·.2)) [_,a] _ keep (AF _) AO fpk ?_ ?_ (by simp) (fun B hh=>Afn S hb hz (BC la) hh) ⟨⟨0,⟨_,AJ _ rfl,rfl,rfl⟩,fun _=>rfl,fun h=>absurd h (by decide)⟩,AB _ ho⟩
   ·rw [GD]
    exact S.pm
   ·intro v hv
    obtain ⟨e,h,rfl⟩:=BG.mp hv
    exact Tt S h
theorem Ac3 {a:IC}{o:Obj}{ss:IG}{es:Array (Int×IA)}{ep:Nat}{t:SetTable}{Q:II→IB→Prop}(hh:A.handled=none)(ho:s.heap.get? a=some o)(S:Hc prog w o ss es ep t)
  (q:∀xs g d tk,(∀b o,s.heap.get? b=some o→g.get? b=some o)→s.heap.objs.size<g.objs.size→(xs.map strOf).Perm ss→(∀v∈xs,∃x tk,v=.str x tk)→Q xs { s with heap:=g,drawn:=d,toks:=tk }):wpAny (model prog w) A (collect (.ref a)) Q E s:=by
 have la:a<s.heap.objs.size:=AK ho
 have hs:es.size≤sizeLine:=GB S.bd
 unfold collect
 refine AA (wpAny_runValue (codeAny_builtin PySem.F.entry_proto_collect ?_))
 rw [DS PySem.F.plain_proto_collect _]
 show wpAny _ A.in1 (newList [] >>= fun l=>again (.builtin "list.__iadd__" ⟨[l,.ref a],[]⟩)) _ _ s
 refine AA (CD (AC ⟨HL FN _,codeAny_builtin PySem.F.entry_list_iadd ?_⟩))
 rw [DS FN _]
 show wpAny _ A.in1 (Builtin.List.listExtendWith (.ref s.heap.objs.size) (.ref a) (.ref s.heap.objs.size)) _ _ _
 generalize hob:({ cls:=.type "list",data:=.seq ([]:II).toArray }:Obj)=ob
 have hL:(s.heap.push ob).get? s.heap.objs.size=some ob:=AJ _ (by rw [←hob];rfl)
 have ho1:(s.heap.push ob).get? a=some o:=AB _ ho
 have sz1:(s.heap.push ob).objs.size=s.heap.objs.size+1:=CL ..
 unfold Builtin.List.listExtendWith
 refine AA (wpAny_typeOf (T:="set") ⟨o,ho1,S.ex.1⟩ ?_)
 have h1:Builtin.List.listSameRef (.ref s.heap.objs.size) (.ref a)=false:=by simp [Builtin.List.listSameRef,DN la]
 have h2:(Value.type "set"==Value.type "list")=false:=by decide
 have h3:(Value.type "set"==Value.type "tuple")=false:=by decide
 simp only [h1,h2,h3,Bool.or_false,BX,DU]
 refine AA (An2 (s:={ s with heap:=s.heap.push ob }) ho1 S fun I g d xs fp St keep lI mI hfp pm hst len W st=>?_)
 refine AA (DQ ?_)
 unfold Builtin.List.listLengthHint
 have ty:Shared.TypeIs { s with heap:=g,drawn:=d } (.ref a) "set":=⟨o,keep _ _ ho1,S.ex.1⟩
 refine AA (wpAny_specialOf ty PySem.F.slot_set_len.lookup ?_)
 dsimp only
 rw [show splitId "set.__len__"=some ("set","__len__") by kernel_rfl]
 dsimp only
 refine AA (GF ty sub_set_self ?_)
 simp only [Bool.not_true,BX,DU]
 refine wpAny_ite ?_
 rw [AZ (by decide +kernel)]
 refine AA (wpAny_typeOf ty ?_)
 refine AC ?_
 refine wpAny_ite ?_
 rw [AZ (by decide +kernel)]
 refine AA (GY (AA ?_))
 have hLg:g.get? s.heap.objs.size=some ob:=keep _ _ hL
 rw [←hob] at hLg
 show wpAny _ A.in1 (updateSeq s.heap.objs.size (·.push .none) >>= fun _=>updateSeq s.heap.objs.size (·.pop)) _ _ _
 refine AA (wpAny_updateSeq hLg rfl ?_)
 have u1:=DD (Obj.mapSeq (·.push Value.none)) hLg rfl
 refine wpAny_updateSeq u1 rfl ?_
 have u2:=DD (Obj.mapSeq (·.pop)) u1 rfl
 have oth:∀b o,b≠s.heap.objs.size→g.get? b=some o→((g.update s.heap.objs.size (Obj.mapSeq (·.push Value.none))).update s.heap.objs.size (Obj.mapSeq (·.pop))).get? b=some o:=
  fun b o nb e=>(Heap.get?_update_other _ _ (DI nb)).trans ((Heap.get?_update_other _ _ (DI nb)).trans e)
 have nf:s.heap.objs.size∉fp:=fun h=>by
  rcases hfp _ h with z|⟨z,_⟩
  ·exact absurd z (DN la)
  ·have z':(s.heap.push ob).objs.size≤s.heap.objs.size:=z
   rw [sz1] at z'
   exact absurd z' (Nat.not_succ_le_self _)
 have W':=W A.in1 (by simp [hh])
 refine AC ⟨HL PySem.F.plain_extend_loop _,codeAny_extend_loopS W' hs _ nf _ es.size 0 _ _ _ rfl (BK _) (W'.frame 0 ({ s with heap:=g,drawn:=d }:IB) _ s.toks st (AF _) fun b hb o e=>oth b o (fun h=>nf (h▸hb)) e) u2 (ItemsOf.nil _) fun s' acc c m hS' it=>?_⟩
 show wpAny _ A (load s.heap.objs.size >>= _) _ _ s'
 refine AA (wpAny_load hS' (AC ?_))
 have ex:acc.toList=xs:=by
  obtain ⟨z,h⟩:=it
  apply List.ext_getElem?
  intro j
  rw [EC]
  cases e:acc[j]? with
  |some v=>exact (h j v e).symm
  | none=>
   have:es.size≤j:=by
    have:=Array.getElem?_eq_none_iff.mp e
    omega
   exact (HN (by omega)).symm
 rw [ex]
 obtain ⟨g',gn,dr,tk,os⟩:=s'
 obtain ⟨m1,m2,m3,m4,m5⟩:=m
 dsimp only at m1 m2 m3 m4 m5
 subst m2 m3 m4
 refine q xs g' _ tk (fun b o e=>m1 b o (fun h=>?_) (oth b o ?_ (keep _ _ (AB _ e)))) (AK hS') pm hst
 ·rcases AS.mp h with z|z
  ·subst z
   exact absurd (AK e) (DY _)
  ·rw [AH] at z
   subst z
   have z':(s.heap.push ob).objs.size≤b:=lI
   rw [sz1] at z'
   exact absurd (AK e) (Nat.not_lt_of_le (Nat.le_of_succ_le z'))
 ·exact BC (AK e)
theorem R1:∀{l:IG} {p:Str},risingS p l=true→(∀y∈l,¬lS y p)∧l.Pairwise fun a b=>¬lS b a
 |[],_,_=>⟨fun _ h=>absurd h (by simp),List.Pairwise.nil⟩
 | x::r,p,h=>by
  have h':(!ltCps x.cps.toList p.cps.toList&&risingS x r)=true:=h
  rw [BV,Bool.not_eq_true',ltCps_eq] at h'
  obtain ⟨h1,h2⟩:=h'
  have n1:¬lS x p:=CA h1
  obtain ⟨i1,i2⟩:=R1 h2
  refine ⟨fun y hy=>?_,CM.mpr ⟨i1,i2⟩⟩
  rcases AS.mp hy with rfl|hy
  ·exact n1
  ·intro c
   exact i1 y hy (GR fun d=>n1 (GR fun n1'=>by
    by_cases e:lS p x
    ·exact d (Ain c e)
    ·have e2:=W1 n1' e
     subst e2
     exact d c))
theorem Rl {l:IG}(h:sortedS l=true):l.Pairwise fun a b=>¬lS b a:=by
 cases l with
 |nil=>exact List.Pairwise.nil
 |cons x r=>
  obtain ⟨h1,h2⟩:=R1 (p:=x) (l:=r) h
  exact CM.mpr ⟨h1,h2⟩
theorem Yg {a:IC}{o:Obj}{ss:IG}{es:Array (Int×IA)}{ep:Nat}{t:SetTable}{Q:IA→IB→Prop}(hh:A.handled=none)(ho:s.heap.get? a=some o)(S:Hc prog w o ss es ep t)(h64:es.size<64)
  (q:∀(r:IC) (us:II) (ys:IG) (n:Nat) g d tk,s.heap.objs.size≤r→g.get? r=some (seqObj "list" us.toArray n)→(∀b o,s.heap.get? b=some o→g.get? b=some o)→StrsAre us ys→ys.Perm ss→(ys.Pairwise fun a b=>¬lS b a) →
   Q (.ref r) { s with heap:=g,drawn:=d,toks:=tk }):wpAny (model prog w) A (call (.builtin "sorted") [.ref a]) Q E s:=by
 refine Calls.call_function_entry kind_sorted plain_sorted entry_sorted (args_sorted1 _) ?_
 unfold Builtin.«sorted»
 refine AA (m:=checkCount "sorted" 1 1 _) (AC (AA (Ac3 (by simp [hh]) ho S fun xs g d tk keep lg pm hst=>?_)))
 have hl:xs.length=es.size:=by
  have:=pm.length_eq
  rw [AE] at this
  rw [this,S.size]
 refine AA (GK ?_ (by rw [hl];exact GB S.bd))
 have sa:StrsAre xs (xs.map strOf):=strsAre_map xs hst
 have hoL:(g.push (seqObj "list" xs.toArray 0)).get? g.objs.size=some (seqObj "list" xs.toArray 0):=AJ _ rfl
 refine AA (DQ (wpAny_call_entry slot_list_sort ⟨_,hoL,rfl⟩ entry_list_sort (list_sort_treeK strKind_oneLt hoL sa.keysOf (fun v1 v2 r e=>keyKind_strs (by rw [←e];exact sa)) (by omega) fun st' a1 a2=>⟨_,rfl,AC ⟨_,rfl,?_⟩⟩) (args_list_sort _)))
 obtain ⟨ys,b1,b2,b3⟩:=sorted_out_str sa a1 a2
 obtain ⟨n,hn⟩:=sortedHeap_at (out:=(arrOf st').map (·.2)) hoL
 refine q g.objs.size ((arrOf st').map (·.2)).toList ys n _ d tk (EL lg) (by rw [hn]) (fun b ob e=>?_) b1 (b2.trans pm) (Rl b3)
 have hb:=AK (keep b ob e)
 show (sortedHeap _ _ _ _).get? b=some ob
 rw [sortedHeap_old (BC hb) (by rw [CL];exact CS hb)]
 exact AB _ (keep b ob e)
end
section
variable {X:Cx}
theorem Og:∀{us:II} {ys:IG},StrsAre us ys→A6 (ys.map V.str) us
 |_,_,.nil=>.nil
 |_,_,.cons x t r=>.cons ⟨t,rfl⟩ (Og r)
theorem Nj:bootBuiltins "sorted"=some (.builtin "sorted"):=by decide +kernel
theorem Ab8:bootBuiltins "set"=some (.type "set"):=by decide +kernel
def Amu (K:KKf)(te:TE):TE:=fun σ H Q=>te σ H fun x H1=>match x with
 |.ref l=>∃names:IG,Au K H1 l (names.map V.str)∧names.length≤1000∧(Oc names).length<64∧∀D,H1 D=none→Q (.ref D) (upd H1 D (.lst ((Oc names).map V.str)))
 |_=>False
theorem Tc {e:Expr}{te:TE}{p p' pos pos':Pos}(hg1:Gl X "sorted")(hm1:X.mg "sorted"=none)(hg2:Gl X "set")(hm2:X.mg "set"=none)(he:PE X e te)(hc:X.calm=true:=by rfl)
  (hs:starEach [.Call (.Name "set" p') [e] [] pos'] X.env=[(false,eval (.Call (.Name "set" p') [e] [] pos') X.env)]:=by rfl) (hs2:starEach [e] X.env=[(false,eval e X.env)]:=by rfl) :
  PE X (.Call (.Name "sorted" p) [.Call (.Name "set" p') [e] [] pos'] [] pos) (Amu X.K te):=by
 intro pins s σ H Q I h
 refine DO (Gi I hg1 hm1 Nj ?_)
 refine PyProof.Rows.callWith_builtin1 ?_ hs rfl
 rw [hs]
 show wpAny _ _ (spliced ((false,eval (.Call (.Name "set" p') [e] [] pos') X.env)::backTo pos (starEach [] X.env))) _ _ s
 refine FQ ?_
 refine DO (Gi I hg2 hm2 Ab8 ?_)
 refine DH ?_ hs2 rfl
 rw [hs2]
 show wpAny _ _ (spliced ((false,eval e X.env)::backTo pos' (starEach [] X.env))) _ _ s
 refine FQ (Bo (he pins s σ H _ I h) fun u s1 ⟨x,H1,I1,r1,q1⟩=>FZ ?_)
 match x,q1 with
 |.ref l,⟨names,hq,hn,h64,q⟩=>
  cases (show u=Value.ref l from r1)
  obtain ⟨its,rv,⟨oL,nL,eL,cL,dL,xL⟩,hz⟩:=I1.list hq
  have sa:StrsAre its names:=Sk rv
  have hl:its.length=names.length:=by rw [←rv.length,AE]
  have hh:X.A.handled=none:=I1.ok.hd hc
  refine Aa0 hh ⟨oL,eL,cL,nL,xL⟩ sa (by rw [hl];exact BO (Nat.succ_le_succ hn) (by decide)) fun g tk hS keep=>FZ ?_
  obtain ⟨o,es,ep,t,ho,S⟩:=hS
  rw [hl] at S
  refine Yg hh ho S (by rw [S.size];exact BO (Ag6 names) h64) fun r us ys n g2 d tk2 lr hr keep2 sa2 pm pw=>?_
  have ey:ys=Oc names:=F6 (Lb pw (pm.nodup_iff.mpr (Mn _ _))) (C2 _) fun x=>by rw [pm.mem_iff,Zr,Eg]
  subst ey
  have fr:s1.heap.objs.size≤r:=AI (EL (AK ho)) lr
  have I2:=I1.laid (t':=tk2) (h':=g2) (a:=r) (o:=.lst ((Oc names).map V.str)) (fun b u e=>keep2 _ _ (keep _ _ e)) fr ⟨by rw [AE];exact AI (EL h64) (by decide),us,n,Og sa2,hr⟩
  exact ⟨.ref r,_,⟨I2.ok,I2.os,I2.bare,I2.base,I2.loc,I2.cell,I2.free,I2.freeC,I2.pin,I2.hok,I2.len⟩,rfl,q r (I1.hok.fresh fr)⟩
end
end Lw
end
section
namespace Lw
open PySem PySem.Spec PyProof.Rows L2
inductive Az {α β:Type}(R:α→β→Prop):List α→List β→Prop where
 |nil:Az R [] []
 |cons {a:α} {b:β} {l:List α} {m:List β}:R a b→Az R l m→Az R (a::l) (b::m)
theorem Az.len {α β:Type}{R:α→β→Prop}:∀{l:List α} {m:List β},Az R l m→l.length=m.length
 |_,_,.nil=>rfl
 |_,_,.cons _ r=>by rw [BN,BN,r.len]
theorem Az.imp {α β:Type}{R S:α→β→Prop}(h:∀a b,R a b→S a b):∀{l:List α} {m:List β},Az R l m→Az S l m
 |_,_,.nil=>.nil
 |_,_,.cons x r=>.cons (h _ _ x) (r.imp h)
theorem Az.snoc {α β:Type}{R:α→β→Prop}{a:α}{b:β}(x:R a b):∀{l:List α} {m:List β},Az R l m→Az R (l++[a]) (m++[b])
 |_,_,.nil=>.cons x .nil
 |_,_,.cons y r=>.cons y (r.snoc x)
theorem Az.get {α β:Type}{R:α→β→Prop}:∀{l:List α} {m:List β},Az R l m→∀{i:Nat} {a:α},l[i]? =some a→∃b,m[i]? =some b∧R a b
 |_,_,.nil,i,a,h=>by simp at h
 |_,_,.cons x r,0,a,h=>by
  simp at h
  subst h
  exact ⟨_,rfl,x⟩
 |_,_,.cons x r,i+1,a,h=>by
  simp only [DT] at h ⊢
  exact r.get h
theorem Az.app {α β:Type}{R:α→β→Prop}:∀{l l':List α} {m m':List β},Az R l m→Az R l' m'→Az R (l++l') (m++m')
 |_,_,_,_,.nil,h=>h
 |_,_,_,_,.cons x r,h=>.cons x (r.app h)
def Kt (H H':Hp):Prop:=∀p xs,H p=some (.tup xs)→H' p=some (.tup xs)
theorem Kt.trans {H H1 H2:Hp}(a:Kt H H1)(b:Kt H1 H2):Kt H H2:=fun p xs h=>b p xs (a p xs h)
theorem Bq {H H':Hp}(s:Aj H H'):Kt H H':=fun p xs h=>s p _ h
theorem Mw {H:Hp}{D:IC}{zs:IP}{o:HO}(h:H D=some (.lst zs)):Kt H (upd H D o):=fun p xs e=>by
 have ne:p≠D:=fun z=>by
  subst z
  rw [h] at e
  cases e
 rw [Am ne]
 exact e
theorem B6 {H0 H:Hp}{D:IC}{o:HO}(s:Aj H0 H)(h:H0 D=none):Aj H0 (upd H D o):=fun b u e=>by
 rw [Am (Bu e h)]
 exact s b u e
theorem Ce {β:Type}{K:KKf}{a:IC}{xs:IP}{ms:List β}{g:TG}{te:TE}{k:Nat}{js:IM}{σ:L2.St}{H1:Hp}{Q:VK}(M:Hp→V→β→Prop)(upM:∀v m H H',Kt H H'→M H v m→M H' v m)(R:Hp→β→V→Prop)(up:∀m y H H',Kt H H'→R H m y→R H' m y)
  (hz:xs.length≤1000) (hx:Au K H1 a xs) (hm:Az (M H1) xs ms)
  (hs:∀v m H2,M H2 v m→m∈ms→Aj H1 H2→∀P:VK,(∀y H3,Aj H2 H3→R H3 m y→P y H3)→g v (List.replicate k none++capσ js σ) H2 fun σ2 H3=>σ2.drop k=capσ js σ∧te σ2 H3 P)
  (hq:∀D H' ys,Aj H1 H'→H1 D=none→H' D=some (.lst ys)→Az (R H') ms ys→Q (.ref D) H'):Hr (Itl K a) g te k js σ H1 Q:=by
 unfold Hr
 intro D hD
 have hl:=hm.len
 refine ⟨fun i m H=>m=xs.length-i∧i≤xs.length∧Aj H1 H∧∃ys,H D=some (.lst ys)∧Az (R H) (ms.take i) ys,⟨xs.length,by simp,BK _,Ah hD,[],Ac,.nil⟩,?_⟩
 rintro i m H ⟨rfl,hi,sm,ys,hH,ar⟩
 have sq:=sm.seq hx
 by_cases hlt:i<xs.length
 ·have e:xs[i]? =some xs[i]:=by simp [hlt]
  refine .inr ⟨⟨xs,_,sq,e⟩,fun x H' y=>?_⟩
  obtain ⟨e1,e2⟩:=y
  subst e1
  have hv:=e2 xs sq
  obtain ⟨m,hmi,hM⟩:=hm.get hv
  refine hs x m _ (upM _ _ _ _ (Bq sm) hM) (AN hmi) sm _ fun y H3 s3 r3=>⟨ys,s3 _ _ hH,?_,xs.length-(i+1),by omega,rfl,hlt,B6 (sm.trans s3) hD,ys++[y],Ac,?_⟩
  ·rw [←ar.len,CH]
   exact BO (GP _ _) (AV hlt (AI hz (by decide)))
  ·have kt:Kt H3 (upd H3 D (.lst (ys++[y]))):=Mw (s3 _ _ hH)
   rw [BY,hmi]
   exact (ar.imp fun v y r=>up v y _ _ ((Bq s3).trans kt) r).snoc (up _ _ _ _ kt r3)
 ·have e:i=xs.length:=by omega
  subst e
  rw [hl,CO] at ar
  exact .inl ⟨⟨xs,sq,AF _⟩,hq D _ ys sm hD hH ar⟩
theorem Gx {β:Type}{K:KKf}{a:IC}{xs:IP}{ms:List β}{g:TG}{tc:TT}{te:TE}{k:Nat}{js:IM}{σ:L2.St}{H1:Hp}{Q:VK}(M:Hp→V→β→Prop)(upM:∀v m H H',Kt H H'→M H v m→M H' v m)(R:Hp→β→V→Prop)(up:∀m y H H',Kt H H'→R H m y→R H' m y)
  (c:β→Bool) (hz:xs.length≤1000) (hx:Au K H1 a xs) (hm:Az (M H1) xs ms)
  (hs:∀v m H2,M H2 v m→m∈ms→Aj H1 H2→∀(P:VK) (P':Hp→Prop),(c m=true→∀y H3,Aj H2 H3→R H3 m y→P y H3)→(c m=false→∀H3,Aj H2 H3→P' H3)→g v (List.replicate k none++capσ js σ) H2 fun σ2 H3=>σ2.drop k=capσ js σ∧tc σ2 H3 fun b H4=>Br b (te σ2 H4 P) (P' H4))
  (hq:∀D H' ys,Aj H1 H'→H1 D=none→H' D=some (.lst ys)→Az (R H') (ms.filter c) ys→Q (.ref D) H'):Mu (Itl K a) g tc te k js σ H1 Q:=by
 unfold Mu
 intro D hD
 have hl:=hm.len
 refine ⟨fun i m H=>m=xs.length-i∧i≤xs.length∧Aj H1 H∧∃ys,H D=some (.lst ys)∧Az (R H) ((ms.take i).filter c) ys,⟨xs.length,by simp,BK _,Ah hD,[],Ac,.nil⟩,?_⟩
 rintro i m H ⟨rfl,hi,sm,ys,hH,ar⟩
 have sq:=sm.seq hx
 by_cases hlt:i<xs.length
 ·have e:xs[i]? =some xs[i]:=by simp [hlt]
  refine .inr ⟨⟨xs,_,sq,e⟩,fun x H' y=>?_⟩
  obtain ⟨e1,e2⟩:=y
  subst e1
  have hv:=e2 xs sq
  obtain ⟨m,hmi,hM⟩:=hm.get hv
  have yl:ys.length<sizeLine:=by
   rw [←ar.len]
   refine BO (DE _ _) ?_
   rw [CH]
   exact BO (GP _ _) (AV hlt (AI hz (by decide)))
  refine hs x m _ (upM _ _ _ _ (Bq sm) hM) (AN hmi) sm _ _ (fun hc y H3 s3 r3=>⟨ys,s3 _ _ hH,yl,xs.length-(i+1),by omega,rfl,hlt,B6 (sm.trans s3) hD,ys++[y],Ac,?_⟩) fun hc H3 s3=>⟨xs.length-(i+1),by omega,rfl,hlt,sm.trans s3,ys,s3 _ _ hH,?_⟩
  ·have kt:Kt H3 (upd H3 D (.lst (ys++[y]))):=Mw (s3 _ _ hH)
   rw [BY,hmi,GW]
   have ef:(Option.toList (some m)).filter c=[m]:=by simp [hc]
   rw [ef]
   exact (ar.imp fun v y r=>up v y _ _ ((Bq s3).trans kt) r).snoc (up _ _ _ _ kt r3)
  ·rw [BY,hmi,GW]
   have ef:(Option.toList (some m)).filter c=[]:=by simp [hc]
   rw [ef,CJ]
   exact ar.imp fun v y r=>up v y _ _ (Bq s3) r
 ·have e:i=xs.length:=by omega
  subst e
  rw [hl,CO] at ar
  exact .inl ⟨⟨xs,sq,AF _⟩,hq D _ ys sm hD hH ar⟩
structure Gm where
 d:Int
 a:Str
 b:Str
 h:Int
 s:Int
abbrev IQ:=List Gm
def Bp (H:Hp)(v:V)(g:Gm):Prop:=∃p,v=.ref p∧H p=some (.tup [.int g.d,.str g.a,.str g.b,.int g.h,.int g.s])
theorem Bm (v:V)(g:Gm)(H H':Hp)(k:Kt H H')(h:Bp H v g):Bp H' v g:=by
 obtain ⟨p,e,r⟩:=h
 exact ⟨p,e,k _ _ r⟩
def Bk (K:KKf)(H:Hp)(L:IC)(gs:IQ):Prop:=∃vs,Au K H L vs∧Az (Bp H) vs gs∧gs.length≤100
theorem Bk.up {K:KKf}{H H':Hp}{L:IC}{gs:IQ}(s:Aj H H')(h:Bk K H L gs):Bk K H' L gs:=by
 obtain ⟨vs,h1,h2,h3⟩:=h
 exact ⟨vs,s.seq h1,h2.imp fun v g r=>Bm v g _ _ (Bq s) r,h3⟩
def trn (g:Gm):Gm:=⟨g.d,g.b,g.a,2-g.h,-g.s⟩
def A7 (gs:IQ):IG:=Oc (gs.map (·.a)++gs.map (·.b))
def Nq (n:Str)(g:Gm):Bool:=n==g.a||n==g.b
def Rx (n:Str)(g:Gm):Gm:=if g.a=n then g else trn g
def tld (n:Str)(gs:IQ):IQ:=(gs.filter (Nq n)).map (Rx n)
def Il (n:Str)(gs:IQ):IG:=Oc (((tld n gs).filter fun g=>decide (g.h<2)).map (·.b))
theorem Fk {f:Gm→Str}:∀{gs:IQ} {ys:IP},Az (fun g y=>y=V.str (f g)) gs ys→ys=(gs.map f).map V.str
 |_,_,.nil=>rfl
 |_,_,.cons e r=>by rw [e,Fk r];rfl
theorem V5 {f:Gm→Gm}{H:Hp}:∀{gs:IQ} {ys:IP},Az (fun g y=>Bp H y (f g)) gs ys→Az (Bp H) ys (gs.map f)
 |_,_,.nil=>.nil
 |_,_,.cons e r=>.cons e (V5 r)
theorem R7 {α β:Type}{R:α→β→Prop}:∀{l:List α} {m:List β},Az R l m→Az (fun b a=>R a b) m l
 |_,_,.nil=>.nil
 |_,_,.cons x r=>.cons x (R7 r)
theorem B7 {gs:IQ}{x:Str}:x∈A7 gs↔∃g∈gs,x=g.a∨x=g.b:=by
 unfold A7
 rw [Eg,BH,BG,BG]
 constructor
 ·rintro (⟨g,h,rfl⟩|⟨g,h,rfl⟩)
  ·exact ⟨g,h,.inl rfl⟩
  ·exact ⟨g,h,.inr rfl⟩
 ·rintro ⟨g,h,rfl|rfl⟩
  ·exact .inl ⟨g,h,rfl⟩
  ·exact .inr ⟨g,h,rfl⟩
theorem Ff {gs:IQ}{n x:Str}:x∈Il n gs↔∃g∈gs,(g.a=n∧g.h<2∧x=g.b)∨(g.a≠n∧g.b=n∧0<g.h∧x=g.a):=by
 unfold Il tld
 rw [Eg,BG]
 constructor
 ·rintro ⟨g',h,rfl⟩
  obtain ⟨h1,h2⟩:=CF.mp h
  obtain ⟨g,h3,rfl⟩:=BG.mp h1
  obtain ⟨h4,h5⟩:=CF.mp h3
  have h2:=AU h2
  refine ⟨g,h4,?_⟩
  unfold Rx at *
  by_cases e:g.a=n
  ·rw [AZ e] at h2 ⊢
   exact .inl ⟨e,h2,rfl⟩
  ·rw [AW e] at h2 ⊢
   unfold Nq at h5
   have e':g.b=n:=by
    rcases HY _ _ |>.mp h5 with z|z
    ·exact absurd (FA z).symm e
    ·exact (FA z).symm
   have h2:2-g.h<2:=h2
   exact .inr ⟨e,e',by omega,rfl⟩
 ·rintro ⟨g,h,⟨h1,h2,rfl⟩|⟨h1,h2,h3,rfl⟩⟩
  ·refine ⟨g,CF.mpr ⟨BG.mpr ⟨g,CF.mpr ⟨h,?_⟩,AZ h1⟩,AR h2⟩,rfl⟩
   unfold Nq
   rw [h1]
   simp
  ·refine ⟨trn g,CF.mpr ⟨BG.mpr ⟨g,CF.mpr ⟨h,?_⟩,AW h1⟩,AR (by show 2-g.h<2;omega)⟩,rfl⟩
   unfold Nq
   rw [h2]
   simp
section
variable {X:Cx}
def Apr (K:KKf):V→Option Int→Option Int→Hp→VK→Prop:=fun x lo hi H Q=>match x with
 |.ref a=>∃xs,Au K H a xs∧∀p,H p=none→Q (.ref p) (upd H p (.lst (Fd xs lo hi)))
 |_=>False
theorem Agi:SlR X (Apr X.K):=by
 intro pins s σ H x v vl vu lo hi sl Q I rx hs pl pu h
 cases x<;>first
  |exact False.elim h
  | (obtain ⟨xs,h1,q⟩:=h
     exact Zp _ _ _ _ _ _ _ _ _ _ _ _ I rx hs pl pu ⟨_,xs,rfl,h1,q⟩)
end
def gd (g:Gm):PyData:=.tuple [.int g.d,.str g.a,.str g.b,.int g.h,.int g.s]
theorem Z1:∀{l:IG},(∀x∈l,PyData.strOk x=true)→PyData.canLayAll0 (l.map PyData.str)=true
 |[],_=>rfl
 |x::l,h=>by
  show (PyData.strOk x&&PyData.canLayAll0 (l.map PyData.str))=true
  rw [h x (AO ..),Z1 fun y hy=>h y (AQ _ hy)]
  rfl
theorem Yz:∀(l:IG),PyData.depthAll (l.map PyData.str)=0
 |[]=>rfl
 |x::l=>by
  show max 0 (PyData.depthAll (l.map PyData.str))=0
  rw [Yz l]
  rfl
theorem Ad5:∀{gs:IQ},(∀g∈gs,PyData.strOk g.a=true∧PyData.strOk g.b=true)→PyData.canLayAll0 (gs.map gd)=true
 |[],_=>rfl
 |g::gs,h=>by
  obtain ⟨h1,h2⟩:=h g (AO ..)
  show ((true&&(PyData.strOk g.a&&(PyData.strOk g.b&&true)))&&PyData.canLayAll0 (gs.map gd))=true
  rw [h1,h2,Ad5 fun y hy=>h y (AQ _ hy)]
  rfl
theorem Ace:∀(gs:IQ),PyData.depthAll (gs.map gd)≤1
 |[]=>BK _
 |g::gs=>by
  have e:(gd g).depth=1:=rfl
  show max (gd g).depth (PyData.depthAll (gs.map gd))≤1
  rw [e]
  have:=Ace gs
  omega
theorem Fb {l:IG}(h:∀x∈l,PyData.strOk x=true):SeqAt.shaped (.list (l.map PyData.str))=true:=by
 unfold SeqAt.shaped
 rw [show (PyData.list (l.map PyData.str)).canLay0=true from Z1 h,show (PyData.list (l.map PyData.str)).depth=0+1 from congrArg (· + 1) (Yz l)]
 rfl
theorem Xp {gs:IQ}(h:∀g∈gs,PyData.strOk g.a=true∧PyData.strOk g.b=true):SeqAt.shaped (.list (gs.map gd))=true:=by
 unfold SeqAt.shaped
 have e:(PyData.list (gs.map gd)).depth=PyData.depthAll (gs.map gd)+1:=rfl
 have:=Ace gs
 rw [show (PyData.list (gs.map gd)).canLay0=true from Ad5 h,e,HK]
 exact AR (by omega)
theorem U8 {K:KKf}{H:Hp}:∀(l:IG),Uu K H (l.map V.str) (l.map PyData.str)
 |[]=>.nil
 |x::l=>.cons (.str x) (U8 l)
theorem Gb {K:KKf}{H:Hp}{p:IC}{l:IG}(h:Au K H p (l.map V.str)):Rp K H (.ref p) (.list (l.map PyData.str)):=.lst h (U8 l)
theorem Y6 {K:KKf}{H:Hp}:∀{vs:IP} {gs:IQ},Az (Bp H) vs gs→Uu K H vs (gs.map gd)
 |_,_,.nil=>.nil
 |_,_,.cons ⟨p,e,h⟩ r=>by
  subst e
  exact .cons (.tup (F5.of h) (.cons (.int _) (.cons (.str _) (.cons (.str _) (.cons (.int _) (.cons (.int _) .nil)))))) (Y6 r)
theorem Tg {K:KKf}{H:Hp}{p:IC}{vs:IP}{gs:IQ}(h:Au K H p vs)(a:Az (Bp H) vs gs):Rp K H (.ref p) (.list (gs.map gd)):=.lst h (Y6 a)
theorem J7 {d:PyData}(h:SeqAt.shaped d=true):PyData.eqv d d=true:=SeqAt.eqv_refl d (SeqAt.canLay_of_shaped h)
theorem K9 {nm:IG}{gs:IQ}(h:∀g∈gs,g.a∈nm∧g.b∈nm){x:Str}(hx:x∈A7 gs):x∈nm:=by
 obtain ⟨g,hg,rfl|rfl⟩:=B7.mp hx
 ·exact (h g hg).1
 ·exact (h g hg).2
theorem Hq {nm:IG}{gs:IQ}(h:∀g∈gs,g.a∈nm∧g.b∈nm):(A7 gs).length≤nm.length:=Es (Fh (C2 _)) fun x hx=>K9 h hx
theorem Sg {nm:IG}{gs:IQ}{n:Str}(h:∀g∈gs,g.a∈nm∧g.b∈nm){x:Str}(hx:x∈Il n gs):x∈nm:=by
 obtain ⟨g,hg,⟨_,_,rfl⟩|⟨_,_,_,rfl⟩⟩:=Ff.mp hx
 ·exact (h g hg).2
 ·exact (h g hg).1
theorem Ag8 {nm:IG}{gs:IQ}{n:Str}(h:∀g∈gs,g.a∈nm∧g.b∈nm):(Il n gs).length≤nm.length:=Es (Fh (C2 _)) fun x hx=>Sg h hx
end Lw
end
section
namespace Lw
open PySem PySem.Spec PyProof.Rows L2
structure QA (X:Cx)(es:IJ)(t:TA):Prop where
 pa:PA X es t
end Lw
end
section
namespace Lw
open PySem PySem.Spec PyProof.Rows L2
def Ae2 (ns:IH):Prop:=∀n∈ns,Builtin.Int.intBits n≤2 ^ 20
theorem Ag5 {ns:IH}(h:PySem.W.WData.layableAll [PySem.W.WData.list (ns.map PySem.W.WData.int)]=true):Ae2 ns:=fun n hn=>by
 have h1:=PySem.W.layableW_arg h _ (AH.mpr rfl)
 have h2:=PySem.W.layableW_item h1 (.int n) (BG.mpr ⟨n,hn,rfl⟩)
 have h3:=PySem.W.lay0_int h2
 have h4:PyData.layable0 (.int n)=true:=by
  have:=h3
  simp only [PyData.layableAll0,List.all_cons,List.all_nil,Bool.and_true] at this
  exact this
 exact PyData.bits_of_layable h4
open PySem PySem.W PySem.Calls PyProof.Rows in
theorem S5 {l:OpenLaw}{n:Nat}{q:IE}{loose:IG}{XP:(Str→IK)→Heap→Prop}{YP:IF→Heap→Prop}{d:DefRec}(hn:l.most=some n)(nodf:d.params.defaults=[])
  (go:∀(w:IF) (t₀ t:IB) (mg mb:Str→IK) (fa:IC) (o:Obj) (pm cd doc:IA) (a:IC) (vs:II) (ns:IH),Ae2 ns→Ground q loose [] XP w t₀ mg mb t.heap→YP w t.heap→t.heap.get? fa=some o→o.data=.func (docDef d.name d.params d.body d.scope pm cd doc)→t.heap.CodeRec cd d.name→mg d.name=some (.ref fa)→t.heap.get? a=some { cls:=.type "list",data:=.seq vs.toArray }→IntsAre vs ns→ns.length≤n→t.gens=#[] →
   codeAny (model l.prog w) callerA (.call (.ref fa) ⟨[.ref a],[]⟩) (fun r z=>r=.ok (.ret (.bool true))∧OldK t.heap z.heap∧z.os=t.os∧AllBare z.gens) t):WalkO q loose XP YP l.row.toRowW d [] (fun f vs=>PySem.call f vs):=by
 intro w t₀ t mg mb G Y fa o pm cd doc dV kV x1 x2 x3 x4 x5 x6 args vals as pre lay rd wl lo
 have e1:dV=.none:=Dflts.none x4 nodf
 have e2:kV=.none:=Dflts.noKw x4
 subst e1 e2
 obtain ⟨a,vs,ns,rfl,rfl,y1,y2,y3⟩:=Att.script_of hn pre wl
 have run:=go w t₀ t mg mb fa o pm cd doc a vs ns (Ag5 lay) G Y x1 (fd_plain x2) x3 x5 y1 y2 y3 x6
 refine enter_call (GT run fun r z hq=>?_)
 obtain ⟨rfl,z2,z3,z4⟩:=hq
 refine ⟨.inl ⟨.bool true,.bool true,[],rfl,fun _=>rfl,.bool true,Att.post_true l _,fun _=>⟨List.Pairwise.nil,fun _ no=>(nomatch no)⟩⟩,z2,z3,z4⟩
end Lw
end
section
namespace Lw
open PySem PySem.Spec PySem.W PyProof.Rows
def Rn {α:Type}(key:Nat→Int)(n:Nat):KasT α→(α→Prop)→Prop
 |.ret a,R=>R a
 |.ask i j k,R=>i<n∧j<n∧Rn key n (k (decide (key i<key j))) R
theorem Rn.bind {α β:Type}{key:Nat→Int}{n:Nat}{f:α→KasT β}{R:β→Prop}:∀{t:KasT α},Rn key n t (fun a=>Rn key n (f a) R)→Rn key n (t.bind f) R
 |.ret _,h=>h
 |.ask _ _ k,⟨h1,h2,h3⟩=>⟨h1,h2,Rn.bind (t:=k _) h3⟩
theorem Rn.mono {α:Type}{key:Nat→Int}{n:Nat}{R R':α→Prop}(hr:∀a,R a→R' a):∀{t:KasT α},Rn key n t R→Rn key n t R'
 |.ret a,h=>hr a h
 |.ask _ _ k,⟨h1,h2,h3⟩=>⟨h1,h2,Rn.mono hr (t:=k _) h3⟩
theorem Rn.wp {α:Type}{key:Nat→Int}{n:Nat}{cmp:Nat→Nat→(Bool→IB→Prop)→IB→Prop}{s:IB}(hc:∀i j,i<n→j<n→∀C:Bool→IB→Prop,C (decide (key i<key j)) s→cmp i j C s){Q:α→IB→Prop}:∀{t:KasT α},Rn key n t (fun a=>Q a s)→t.kasWp cmp Q s
 |.ret _,h=>h
 |.ask i j k,⟨h1,h2,h3⟩=>hc i j h1 h2 _ (Rn.wp hc (t:=k _) h3)
section
variable {key:Nat→Int}{N:Nat}
def Pv (p:Array Nat)(k:Nat):Nat:=p[k]?.getD 0
theorem Gd (p:Array Nat)(k:Nat):p.getD k 0=Pv p k:=by
 unfold Pv
 exact Array.getD_eq_getD_getElem? ..
theorem Gf {p:Array Nat}{i j:Nat}(hj:j≤p.size)(k:Nat):Pv (kas_rev p i j) k=if i≤k∧k<j then Pv p (i+j-1-k) else Pv p k:=by
 unfold Pv kas_rev
 rw [getElem?_mirror_all hj]
 split<;>rfl
theorem Aku {p:Array Nat}{src d:Nat}(hs:src<p.size)(hd:d≤src)(k:Nat):Pv (bubble p src d) k=if k=src-d then Pv p src else if src-d<k∧k≤src then Pv p (k-1) else Pv p k:=by
 unfold Pv
 rw [getElem?_bubble hs d hd]
 split
 ·rfl
 ·split<;>rfl
theorem Ad3 (p:Array Nat)(i j:Nat):(kas_rev p i j).size=p.size:=mirror_size _ _ _ _
def Lt (key:Nat→Int)(i j:Nat):Prop:=key i<key j∨(key i=key j∧i<j)
structure Lf (N:Nat)(p:Array Nat)(n:Nat):Prop where
 sz:p.size=N
 tl:∀k,n≤k→k<N→Pv p k=k
 hd:∀k,k<n→Pv p k<n
 le:n≤N
theorem Lf.lt {p:Array Nat}{n:Nat}(h:Lf N p n){k:Nat}(hk:k<N):Pv p k<N:=by
 by_cases c:k<n
 ·have:=h.hd k c
  have:=h.le
  omega
 ·rw [h.tl k (by omega) hk]
  exact hk
theorem Lf.one {p:Array Nat}{n:Nat}(h:Lf N p n)(hn:n<N):Lf N p (n+1):=⟨h.sz,fun k h1 h2=>h.tl k (by omega) h2,fun k hk=>by
 by_cases c:k<n
 ·have:=h.hd k c
  omega
 ·have:k=n:=by omega
  subst this
  rw [h.tl k (AF _) hn]
  exact hk,hn⟩
theorem Lf.rev {p:Array Nat}{n i:Nat}(h:Lf N p n){j:Nat}(hj:j≤n):Lf N (kas_rev p i j) n:=⟨by rw [Ad3,h.sz],fun k h1 h2=>by
 rw [Gf (by rw [h.sz];have:=h.le;omega),AW (by omega)]
 exact h.tl k h1 h2,fun k hk=>by
 rw [Gf (by rw [h.sz];have:=h.le;omega)]
 split
 ·exact h.hd _ (by omega)
 ·exact h.hd k hk,h.le⟩
def As (key:Nat→Int)(p:Array Nat)(n:Nat):Prop:=∀a b,a<b→b<n→Lt key (Pv p a) (Pv p b)
theorem Alh {p:Array Nat}{n:Nat}(h:Lf N p n)(ha:As key p n)(h1:1≤n)(hn:n<N)(hk:¬key (Pv p n)<key (Pv p (n-1))):As key p (n+1):=fun a b hab hb=>by
 by_cases c:b<n
 ·exact ha a b hab c
 ·have:b=n:=by omega
  subst this
  have e:=h.tl b (AF _) hn
  have l:=h.hd a hab
  rw [e] at hk ⊢
  have q:key (Pv p a)≤key (Pv p (b-1)):=by
   by_cases d:a=b-1
   ·rw [d]
    exact FT _
   ·rcases ha a (b-1) (by omega) (by omega) with x|x<;>omega
  by_cases d:key (Pv p a)<key b
  ·exact .inl d
  ·exact .inr ⟨by omega,l⟩
theorem Xz {p:Array Nat}:∀(f n:Nat),Lf N p n→As key p n→1≤n→n+f=N→Rn key N (kas_asc p f n) fun m=>Lf N p m∧As key p m∧n≤m∧(m<N→key (Pv p m)<key (Pv p (m-1)))
 |0,n,h,ha,h1,e=>⟨h,ha,AF _,fun c=>by omega⟩
 | f+1,n,h,ha,h1,e=>by
  show _<N∧_<N∧Rn key N _ _
  rw [Gd,Gd]
  refine ⟨h.lt (by omega),h.lt (by omega),?_⟩
  by_cases c:key (Pv p n)<key (Pv p (n-1))
  ·rw [AR c]
   exact ⟨h,ha,AF _,fun _=>c⟩
  ·rw [BF c]
   exact Rn.mono (fun m ⟨a1,a2,a3,a4⟩=>⟨a1,a2,by omega,a4⟩) (Xz f (n+1) (h.one (by omega)) (Alh h ha h1 (by omega) c) (by omega) (by omega))
def Da (key:Nat→Int)(p:Array Nat)(n:Nat):Prop:=∀a b,a<b→b<n→Lt key (Pv p b) (Pv p a)
structure De (key:Nat→Int)(p:Array Nat)(n q:Nat):Prop where
 ql:q<n
 dn:∀a b,a<b→b<n→a+q+1<n→Lt key (Pv p b) (Pv p a)
 gp:∀a,a+q+1<n→key (Pv p (n-1))<key (Pv p a)
 eq:∀a b,n≤a+q+1→a<b→b<n→key (Pv p a)=key (Pv p b)∧Pv p a<Pv p b
theorem De.all {p:Array Nat}{n q:Nat}(h:Lf N p n)(d:De key p n q):Da key (kas_rev p (n-(q+1)) n) n:=by
 have hz:n≤p.size:=by rw [h.sz];exact h.le
 have ql:=d.ql
 refine fun a b hab hb=>?_
 rw [Gf hz,Gf hz]
 by_cases ca:n-(q+1)≤a
 ·rw [AZ ⟨by omega,hb⟩,AZ ⟨ca,by omega⟩]
  obtain ⟨e,l⟩:=d.eq (n-(q+1)+n-1-b) (n-(q+1)+n-1-a) (by omega) (by omega) (by omega)
  exact .inr ⟨e,l⟩
 ·rw [AW (show ¬(n-(q+1)≤a∧a<n) by omega)]
  split
  ·exact d.dn a _ (by omega) (by omega) (by omega)
  ·exact d.dn a b hab hb (by omega)
theorem De.zero {p:Array Nat}{n:Nat}(d:De key p n 0):Da key p n:=fun a b hab hb=>d.dn a b hab hb (by omega)
theorem De.last {p:Array Nat}{n q:Nat}(d:De key p n q){a:Nat}(ha:a<n):key (Pv p (n-1))≤key (Pv p a):=by
 have ql:=d.ql
 by_cases e:a=n-1
 ·rw [e]
  exact FT _
 ·by_cases c:a+q+1<n
  ·exact Int.le_of_lt (d.gp a c)
  ·have:=(d.eq a (n-1) (by omega) (by omega) (by omega)).1
   omega
theorem Da.below {p:Array Nat}{n:Nat}(h:Lf N p n)(d:Da key p n)(hn:n<N)(hk:∀a,a<n→key n<key (Pv p a)):De key p (n+1) 0:=⟨by omega,fun a b hab hb _=>by
 by_cases c:b<n
 ·exact d a b hab c
 ·have:b=n:=by omega
  subst this
  rw [h.tl b (AF _) hn]
  exact .inl (hk a hab),fun a ha=>by
 show key (Pv p n)<_
 rw [h.tl n (AF _) hn]
 exact hk a (by omega),fun a b h1 h2 h3=>by omega⟩
theorem De.same {p:Array Nat}{n q:Nat}(h:Lf N p n)(d:De key p n q)(hn:n<N)(hk:key n=key (Pv p (n-1))):De key p (n+1) (q+1):=by
 have ql:=d.ql
 have e:=h.tl n (AF _) hn
 refine ⟨by omega,fun a b hab hb hq=>?_,fun a ha=>?_,fun a b h1 h2 h3=>?_⟩
 ·by_cases c:b<n
  ·exact d.dn a b hab c (by omega)
  ·have:b=n:=by omega
   subst this
   rw [e]
   have:=d.gp a (by omega)
   exact .inl (by omega)
 ·show key (Pv p n)<_
  rw [e,hk]
  exact d.gp a (by omega)
 ·by_cases c:b<n
  ·exact d.eq a b (by omega) h2 c
  ·have:b=n:=by omega
   subst this
   rw [e]
   refine ⟨?_,h.hd a h2⟩
   by_cases z:a=b-1
   ·rw [z]
    exact hk.symm
   ·rw [hk]
    exact (d.eq a (b-1) (by omega) (by omega) (by omega)).1
theorem N8:∀(f:Nat) {p:Array Nat} {n q:Nat},Lf N p n→De key p n q→n+f=N→Rn key N (kas_desc f p n q) fun r=>Lf N r.1 r.2.1∧De key r.1 r.2.1 r.2.2
 |0,p,n,q,h,d,e=>⟨h,d⟩
 | f+1,p,n,q,h,d,e=>by
  have ql:=d.ql
  have hn:n<N:=by omega
  show _<N∧_<N∧Rn key N _ _
  rw [Gd,Gd]
  have en:=h.tl n (AF _) hn
  refine ⟨h.lt hn,h.lt (by omega),?_⟩
  by_cases c:key (Pv p n)<key (Pv p (n-1))
  ·simp only [AR c,↓reduceIte]
   rw [en] at c
   by_cases z:q>0
   ·rw [AZ z]
    have h':=h.rev (i:=n-(q+1)) (AF n)
    refine N8 f (h'.one hn) ((d.all h).below h' hn fun a ha=>?_) (by omega)
    rw [Gf (by rw [h.sz];omega)]
    split
    ·have:=d.last (a:=n-(q+1)+n-1-a) (by omega)
     omega
    ·have:=d.last ha
     omega
   ·rw [AW z]
    have:q=0:=by omega
    subst this
    exact N8 f (h.one hn) (d.zero.below h hn fun a ha=>by have:=d.last ha;omega) (by omega)
  ·simp only [BF c,BX,↓reduceIte]
   show _<N∧_<N∧Rn key N _ _
   refine ⟨h.lt (by omega),h.lt hn,?_⟩
   by_cases c':key (Pv p (n-1))<key (Pv p n)
   ·simp only [AR c',↓reduceIte]
    exact ⟨h,d⟩
   ·simp only [BF c',BX,↓reduceIte]
    exact N8 f (h.one hn) (d.same h hn (by rw [en] at c c';omega)) (by omega)
theorem Da.turn {p:Array Nat}{n:Nat}(h:Lf N p n)(d:Da key p n):As key (kas_rev p 0 n) n:=fun a b hab hb=>by
 have hz:n≤p.size:=by rw [h.sz];exact h.le
 rw [Gf hz,Gf hz,AZ ⟨BK _,by omega⟩,AZ ⟨BK _,hb⟩]
 exact d _ _ (by omega) (by omega)
theorem Wj {p:Array Nat}{n:Nat}(h:Lf N p n)(d:Da key p n)(h1:1≤n):Rn key N (kas_tail3 n N p) fun r=>Lf N r.2 r.1∧As key r.2 r.1∧1≤r.1:=by
 unfold kas_tail3
 exact Rn.bind (Rn.mono (fun m ⟨a1,a2,a3,_⟩=>⟨a1,a2,by omega⟩) (Xz (N-n) n (h.rev (AF n)) (d.turn h) h1 (by have:=h.le;omega)))
theorem Y0 {p:Array Nat}{n:Nat}(h:Lf N p n)(d:Da key p n)(h1:1≤n)(hn:n<N)(hk:∀a,a<n→key n<key (Pv p a)):Rn key N (kas_descPart n N p) fun r=>Lf N r.2 r.1∧As key r.2 r.1∧1≤r.1:=by
 unfold kas_descPart
 refine Rn.bind (Rn.mono ?_ (N8 (N-(n+1)) (h.one hn) (d.below h hn hk) (by omega)))
 rintro ⟨p',n',q'⟩ ⟨h',d'⟩
 have ql:=d'.ql
 have ql:q'<n':=ql
 show Rn key N (if q'>0 then kas_tail3 n' N (kas_rev p' (n'-(q'+1)) n') else kas_tail3 n' N p') _
 by_cases z:q'>0
 ·rw [AZ z]
  exact Wj (h'.rev (AF _)) (d'.all h') (by omega)
 ·rw [AW z]
  have:q'=0:=by omega
  subst this
  exact Wj h' d'.zero (by omega)
theorem Adx {p:Array Nat}(h:Lf N p 1)(hN:1≤N):Rn key N (kas_count N p) fun r=>Lf N r.2 r.1∧As key r.2 r.1∧1≤r.1:=by
 unfold kas_count
 refine Rn.bind (Rn.mono ?_ (Xz (N-1) 1 h (fun a b h1 h2=>by omega) (AF _) (by omega)))
 intro n ⟨h',a',n1,lo⟩
 have le:=h'.le
 by_cases e:(n==N)=true
 ·rw [AZ e]
  exact ⟨h',a',n1⟩
 ·rw [AW e]
  have hn:n<N:=by
   have:n≠N:=fun c=>e (by simp [c])
   omega
  have lo:=lo hn
  rw [h'.tl n (AF _) hn] at lo
  by_cases z:n>1
  ·rw [AZ z]
   show _<N∧_<N∧Rn key N _ _
   rw [Gd,Gd]
   refine ⟨h'.lt (by omega),h'.lt (by omega),?_⟩
   by_cases c:key (Pv p 0)<key (Pv p (n-1))
   ·simp only [AR c,↓reduceIte]
    exact ⟨h',a',n1⟩
   ·simp only [BF c,BX,↓reduceIte]
    have hz:n≤p.size:=by rw [h'.sz];exact le
    have mono:∀a b,a≤b→b<n→key (Pv p a)≤key (Pv p b):=fun a b hab hb=>by
     by_cases e:a=b
     ·rw [e]
      exact FT _
     ·rcases a' a b (by omega) hb with x|x<;>omega
    have alike:∀a,a<n→key (Pv p a)=key (Pv p (n-1)):=fun a ha=>by
     have:=mono 0 a (by omega) ha
     have:=mono a (n-1) (by omega) (by omega)
     omega
    refine Y0 (h'.rev (AF n)) (fun a b hab hb=>?_) n1 hn fun a ha=>?_
    ·rw [Gf hz,Gf hz,AZ ⟨BK _,hb⟩,AZ ⟨BK _,by omega⟩]
     exact a' _ _ (by omega) (by omega)
    ·rw [Gf hz,AZ ⟨BK _,ha⟩,alike _ (by omega)]
     exact lo
  ·rw [AW z]
   have:n=1:=by omega
   subst this
   exact Y0 h' (fun a b h1 h2=>by omega) n1 hn fun a ha=>by
    have:a=0:=by omega
    subst this
    exact lo
theorem Pd {p:Array Nat}{k:Nat}(h:Lf N p k)(ha:As key p k)(hk:k<N):∀(f l r:Nat),l≤r→r≤k→r≤l+f→(∀a,a<l→¬key k<key (Pv p a))→(∀a,r≤a→a<k→key k<key (Pv p a))→Rn key N (kas_place p k f l r) fun m=>m≤k∧(∀a,a<m→¬key k<key (Pv p a))∧∀a,m≤a→a<k→key k<key (Pv p a)
 |0,l,r,lr,rk,rf,lo,hi=>⟨by omega,lo,fun a h1 h2=>hi a (by omega) h2⟩
 | f+1,l,r,lr,rk,rf,lo,hi=>by
  unfold kas_place
  by_cases c:l≥r
  ·rw [AZ c]
   exact ⟨by omega,lo,fun a h1 h2=>hi a (by omega) h2⟩
  ·rw [AW c]
   show _<N∧_<N∧Rn key N _ _
   rw [Gd,Gd]
   refine ⟨h.lt hk,h.lt (by omega),?_⟩
   rw [h.tl k (AF _) hk]
   have mono:∀a b,a≤b→b<k→key (Pv p a)≤key (Pv p b):=fun a b hab hb=>by
    by_cases e:a=b
    ·rw [e]
     exact FT _
    ·rcases ha a b (by omega) hb with x|x<;>omega
   by_cases d:key k<key (Pv p ((l+r) / 2))
   ·simp only [AR d,↓reduceIte]
    refine Pd h ha hk f l ((l+r) / 2) (by omega) (by omega) (by omega) lo fun a h1 h2=>?_
    have:=mono _ _ h1 h2
    omega
   ·simp only [BF d,BX,↓reduceIte]
    refine Pd h ha hk f ((l+r) / 2+1) r (by omega) rk (by omega) (fun a h1=>?_) hi
    have:=mono a ((l+r) / 2) (by omega) (by omega)
    omega
theorem Adh:∀(f:Nat) {p:Array Nat} {k:Nat},Lf N p k→As key p k→k+f=N→Rn key N (kas_bin f p k) fun p'=>Lf N p' N∧As key p' N
 |0,p,k,h,ha,e=>by
  have:k=N:=by omega
  subst this
  exact ⟨h,ha⟩
 | f+1,p,k,h,ha,e=>by
  have hk:k<N:=by omega
  unfold kas_bin
  refine Rn.bind (Rn.mono ?_ (Pd h ha hk k 0 k (BK _) (AF _) (by omega) (fun a h1=>by omega) fun a h1 h2=>by omega))
  intro m ⟨mk,lo,hi⟩
  have hs:k<p.size:=by rw [h.sz];exact hk
  have at':=Aku hs (d:=k-m) (by omega)
  have e1:k-(k-m)=m:=by omega
  rw [e1] at at'
  have en:=h.tl k (AF _) hk
  rw [en] at at'
  refine Adh f ⟨by rw [bubble_size,h.sz],fun a h1 h2=>?_,fun a h1=>?_,by omega⟩ (fun a b hab hb=>?_) (by omega)
  ·rw [at',AW (by omega),AW (by omega)]
   exact h.tl a (by omega) h2
  ·rw [at']
   split
   ·omega
   ·split
    ·have:=h.hd (a-1) (by omega)
     omega
    ·have:=h.hd a (by omega)
     omega
  ·rw [at',at']
   by_cases ca:a=m
   ·rw [AZ ca,AW (by omega),AZ (by omega)]
    exact .inl (hi (b-1) (by omega) (by omega))
   ·rw [AW ca]
    by_cases cb:b=m
    ·rw [AZ cb,AW (by omega)]
     have:=lo a (by omega)
     have l:=h.hd a (by omega)
     by_cases d:key (Pv p a)<key k
     ·exact .inl d
     ·exact .inr ⟨by omega,l⟩
    ·rw [AW cb]
     by_cases c1:m<a
     ·rw [AZ (by omega),AZ (by omega)]
      exact ha _ _ (by omega) (by omega)
     ·rw [AW (by omega)]
      by_cases c2:m<b
      ·rw [AZ (by omega)]
       exact ha _ _ (by omega) (by omega)
      ·rw [AW (by omega)]
       exact ha a b hab (by omega)
theorem Adq {N k:Nat}(h:k<N):Pv (List.toArray (List.range N)) k=k:=by
 unfold Pv
 simp [h]
theorem Aak (hN:1≤N):Rn key N (kas_sort N) fun p=>Lf N p N∧As key p N:=by
 unfold kas_sort
 refine Rn.bind (Rn.mono ?_ (Adx (p:=List.toArray (List.range N)) ⟨by simp,fun k _ h2=>Adq h2,fun k hk=>by
  have:k=0:=by omega
  subst this
  rw [Adq (by omega)]
  omega,hN⟩ hN))
 rintro ⟨m,p⟩ ⟨h,ha,m1⟩
 have h:Lf N p m:=h
 have m1:1≤m:=m1
 show Rn key N (if m<N then kas_bin (N-max m 1) p (max m 1) else .ret p) _
 have le:=h.le
 by_cases c:m<N
 ·rw [AZ c,Nat.max_eq_left m1]
  exact Adh (N-m) h ha (by omega)
 ·rw [AW c]
  have:m=N:=by omega
  subst this
  exact ⟨h,ha⟩
end
end Lw
end
section
namespace Lw
open PySem PySem.Spec PySem.W PyProof.Rows L2
def Nh (key:Nat→Int)(n:Nat)(p:IM):Prop:=p.length=n∧(∀i∈p,i<n)∧p.Pairwise (Lt key)
def Kp (a:IC)(h h':Heap):Prop:=∀b o,b≠a→h.get? b=some o→h'.get? b=some o
def Ks (key:Nat→Int)(ks:II):Prop:=∀i k,ks[i]? =some k→∃t,k=Value.int (key i) t
theorem Ks.snoc {key:Nat→Int}{ks:II}{t:Tok}(h:Ks key ks):Ks key (ks++[Value.int (key ks.length) t]):=fun i k e=>by
 rw [List.getElem?_append] at e
 split at e
 ·exact h i k e
 ·rename_i c
  cases q:i-ks.length with
  |zero=>
   rw [q] at e
   have e:Value.int (key ks.length) t=k:=by simpa using e
   have:i=ks.length:=by omega
   rw [this]
   exact ⟨t,e.symm⟩
  |succ m=>
   rw [q] at e
   simp at e
def Ic (vs:II)(p:IM):II:=p.map fun i=>vs.getD i Value.none
theorem P4 (vs:II):Ic vs (List.range vs.length)=vs:=by
 refine List.ext_getElem (by simp [Ic]) fun i h1 h2=>?_
 simp [Ic,h2]
theorem Zg {key:Nat→Int}{n:Nat}(h:n<2):Nh key n (List.range n):=by
 refine ⟨HE,fun i hi=>CN.mp hi,?_⟩
 match n,h with
 |0,_=>exact .nil
 |1,_=>exact FM _ _
theorem Adu {key:Nat→Int}{n:Nat}{p:Array Nat}(h:Lf n p n)(ha:As key p n):Nh key n p.toList:=by
 have pv:∀i (hi:i<p.toList.length),p.toList[i]=Pv p i:=fun i hi=>by
  have hi':i<p.size:=by simpa using hi
  unfold Pv
  simp [hi']
 refine ⟨by rw [BS,h.sz],fun i hi=>?_,List.pairwise_iff_getElem.mpr fun i j hi hj hij=>?_⟩
 ·obtain ⟨k,hk,rfl⟩:=DL hi
  rw [pv k hk]
  exact h.lt (by rw [BS,h.sz] at hk;exact hk)
 ·rw [pv i hi,pv j hj]
  exact ha i j hij (by rw [BS,h.sz] at hj;exact hj)
section
variable {prog:IE}{w:IF}{A:ID}{E:IA→IB→Prop}{s:IB}{a kS:IC}{vs:II}
theorem Z3 {st:SortSt}{e e1:Nat}{ks out:II}{P:PySem.Fin→IB→Prop}(hne:kS≠a)(hk:s.heap.get? kS=some (seqObj "list" (List.toArray ks) e))(ha:s.heap.get? a=some (seqObj "list" #[] e1))
  (hout:(arrOf st).map (·.2)=List.toArray out) (hz:out.length<64) (hkz:ks.length<64) (hf:failedOf st=none)
  (h:∀h' n,(∀b o,b≠a→b≠kS→s.heap.get? b=some o→h'.get? b=some o)→h'.get? a=some (seqObj "list" (List.toArray out) n)→P (.done (.ret .none)) { s with heap:=h' }) :
  wpAny (model prog w) A (ksk_tail a false e1 (.ref kS) st) P E s:=by
 have s1:=CG s.heap kS (Obj.mapSeq fun _=>(#[]:Array IA))
 have ha1:(s.heap.update kS (Obj.mapSeq fun _=>(#[]:Array IA))).get? a=some (seqObj "list" #[] e1):=(s1.2 a (DI hne)).trans ha
 have s2:=CG (s.heap.update kS (Obj.mapSeq fun _=>(#[]:Array IA))) a (Obj.mapSeq fun _=>List.toArray out)
 obtain ⟨c2,hc2⟩:∃c2,((s.heap.update kS (Obj.mapSeq fun _=>(#[]:Array IA))).update a (Obj.mapSeq fun _=>List.toArray out)).get? a=some (seqObj "list" (List.toArray out) c2):=⟨_,get?_update_seq ha1 fun _=>List.toArray out⟩
 unfold ksk_tail
 try dsimp only
 rw [hout]
 refine AA (FO hk rfl ?_ (by rw [AX,CU];omega) (BK _))
 refine AA (wpAny_letGo ?_)
 refine AA (seqEpoch_at ha1 rfl ?_)
 refine AA (FO ha1 rfl ?_ (BK _) (by show (List.toArray out).size≤_;rw [AX,CU];omega))
 rw [hf]
 simp only [DC,BX,DU]
 exact AC (h _ c2 (fun b o n1 n2 q=>(s2.2 b n1).trans ((s1.2 b n2).trans q)) hc2)
theorem Ak2 {key:Nat→Int}{e e1:Nat}{ks:II}{P:PySem.Fin→IB→Prop}(hne:kS≠a)(hk:s.heap.get? kS=some (seqObj "list" (List.toArray ks) e))(ha:s.heap.get? a=some (seqObj "list" #[] e1))(hl:ks.length=vs.length)(h64:vs.length<64)(hks:Ks key ks)
  (h:∀h' n p,Nh key vs.length p→(∀b o,b≠a→b≠kS→s.heap.get? b=some o→h'.get? b=some o)→h'.get? a=some (seqObj "list" (List.toArray (Ic vs p)) n)→P (.done (.ret .none)) { s with heap:=h' }) :
  wpAny (model prog w) A (ksk_end a false vs.toArray e1 (.ref kS) (List.toArray ks)) P E s:=by
 unfold ksk_end
 try dsimp only
 simp only [BX,DU]
 by_cases h2:vs.length<2
 ·have h2':vs.toArray.size<2:=by rwa [AX]
  rw [AZ h2',AZ h2']
  refine AA (AC ?_)
  rw [StateT.run_pure]
  refine AA (AC ?_)
  try dsimp only
  refine Z3 (out:=Ic vs (List.range vs.length)) hne hk ha ?_ (by rw [P4];exact h64) (by omega) rfl (fun h' n=>h h' n _ (Zg h2))
  rw [P4]
  show ((List.toArray ks).zip vs.toArray).map (·.2)=_
  refine Array.ext (by simp [hl]) fun i h1 h2=>?_
  simp
 ·have h2':¬vs.toArray.size<2:=by rwa [AX]
  rw [AW h2',AW h2']
  refine AA (kas_kind (T:=.type "int") (by omega) (fun v hv=>?_) rfl rfl ?_)
  ·obtain ⟨i,hi,rfl⟩:=DL hv
   obtain ⟨t,e⟩:=hks i _ (AD hi)
   rw [e]
   exact .now
  ·refine AA (CK (kat_run (E:=E) (Q:=fun st' s'=>s'=s∧∃p:Array Nat,Nh key vs.length p.toList∧(arrOf st').map (·.2)=List.toArray (Ic vs p.toList)∧failedOf st'=none)
    (G:=fun p s'=>s'=s∧Nh key vs.length p.toList) hl (by omega) h64 (fun p' st' s' a1 a2 a3 ⟨a4,a5⟩=>⟨a4,p',a5,kat_snds hl a2,a3⟩) ?_) (fun r s' hq=>?_) fun _ _ x=>x)
   ·refine Rn.wp (key:=key) (n:=vs.length) (fun i j hi hj C c=>?_) (Rn.mono (fun p hp=>⟨rfl,Adu hp.1 hp.2⟩) (Aak (by omega)))
    unfold kas_ask
    have gi:∀i,i<vs.length→∃t,ks.getD i Value.none=.int (key i) t:=fun i hi=>by
     have hi':i<ks.length:=by omega
     obtain ⟨t,e⟩:=hks i _ (AD hi')
     exact ⟨t,by rw [BJ,AD hi',Option.getD_some,e]⟩
    obtain ⟨t1,e1⟩:=gi i hi
    obtain ⟨t2,e2⟩:=gi j hj
    rw [e1,e2]
    exact kat_lt_int c
   ·obtain ⟨rfl,p,hs,ho,hf⟩:=hq
    obtain ⟨⟨⟩,st'⟩:=r
    try dsimp only
    exact Z3 hne hk ha ho (by unfold Ic;rw [AE,hs.1];exact h64) (by omega) hf fun h' n=>h h' n _ hs
theorem Amg {key:Nat→Int}{f:IA}{n:Nat}{P:PySem.Fin→IB→Prop}(ho:s.heap.get? a=some (seqObj "list" vs.toArray n))(h64:vs.length<64)
  (hk:∀(i:Nat) (v:IA) (h1:Heap) (t1:Nat),vs[i]? =some v→Kp a s.heap h1→∀Q:IA→IB→Prop,(∀h2 t2 t,(∀b o,h1.get? b=some o→h2.get? b=some o)→Q (.int (key i) t) { s with heap:=h2,toks:=t2 }) →
   wpAny (model prog w) A (call f [v]) Q (fun _ _=>False) { s with heap:=h1,toks:=t1 })
  (h:∀h' t n p,Nh key vs.length p→Kp a s.heap h'→h'.get? a=some (seqObj "list" (List.toArray (Ic vs p)) n)→P (.done (.ret .none)) { s with heap:=h',toks:=t }) :
  wpAny (model prog w) A (ksk_tree a f false) P E s:=by
 have al:a<s.heap.objs.size:=AK ho
 have s1:=CG s.heap a (Obj.mapSeq fun _=>(#[]:Array IA))
 obtain ⟨e1,ho1⟩:∃e1,(s.heap.update a (Obj.mapSeq fun _=>(#[]:Array IA))).get? a=some (seqObj "list" #[] e1):=⟨_,get?_update_seq ho fun _=>#[]⟩
 have hkS:((s.heap.update a (Obj.mapSeq fun _=>(#[]:Array IA))).push (seqObj "tuple" vs.toArray 0)).objs.size=s.heap.objs.size+1:=by rw [size_push',Heap.size_update]
 unfold ksk_tree
 refine AA (listItems_at ho rfl ?_)
 refine AA (FO ho rfl ?_ (by rw [AX,CU];omega) (BK _))
 refine AA (seqEpoch_at ho1 rfl ?_)
 refine AA (wpAny_newTuple ?_ (by show vs.length≤_;rw [CU];omega))
 refine AA (GK ?_ (BK _))
 refine DQ ?_
 have kne:((s.heap.update a (Obj.mapSeq fun _=>(#[]:Array IA))).push (seqObj "tuple" vs.toArray 0)).objs.size≠a:=by rw [hkS];exact DN (CS al)
 have kk:=AJ ((s.heap.update a (Obj.mapSeq fun _=>(#[]:Array IA))).push (seqObj "tuple" vs.toArray 0)) (o:=seqObj "list" #[] 0) rfl
 have ka:(((s.heap.update a (Obj.mapSeq fun _=>(#[]:Array IA))).push (seqObj "tuple" vs.toArray 0)).push (seqObj "list" #[] 0)).get? a=some (seqObj "list" #[] e1):=AB _ (AB _ ho1)
 have kp:Kp a s.heap (((s.heap.update a (Obj.mapSeq fun _=>(#[]:Array IA))).push (seqObj "tuple" vs.toArray 0)).push (seqObj "list" #[] 0)):=fun b o ne e=>
  AB _ (AB _ ((s1.2 b ne).trans e))
 have kold:s.heap.objs.size≤((s.heap.update a (Obj.mapSeq fun _=>(#[]:Array IA))).push (seqObj "tuple" vs.toArray 0)).objs.size:=by rw [hkS];exact DW _
 show wpAny (model prog w) A (ksk_rest a f false vs.toArray e1 (.ref ((s.heap.update a (Obj.mapSeq fun _=>(#[]:Array IA))).push (seqObj "tuple" vs.toArray 0)).objs.size)) P E { s with heap:=((s.heap.update a (Obj.mapSeq fun _=>(#[]:Array IA))).push (seqObj "tuple" vs.toArray 0)).push (seqObj "list" #[] 0) }
 generalize ((s.heap.update a (Obj.mapSeq fun _=>(#[]:Array IA))).push (seqObj "tuple" vs.toArray 0)).push (seqObj "list" #[] 0)=g at kk ka kp
 generalize ((s.heap.update a (Obj.mapSeq fun _=>(#[]:Array IA))).push (seqObj "tuple" vs.toArray 0)).objs.size=kS at kk kne kold
 unfold ksk_rest
 refine AA (GY ?_)
 first
  |rw [List.forIn_toArray]
  |(rw [←Array.forIn_toList];simp only [List.toList_toArray])
  |rw [←Array.forIn_toList]
 refine AA (ksk_fold (fun i s'=>∃h' t ks e,s'={ s with heap:=h',toks:=t }∧Kp a s.heap h'∧h'.get? a=some (seqObj "list" #[] e1)∧h'.get? kS=some (seqObj "list" (List.toArray ks) e)∧ks.length=i∧Ks key ks) vs 0 _ ⟨g,s.toks,[],0,rfl,kp,ka,kk,rfl,fun i k e=>by simp at e⟩ (fun j x s' hx ⟨h',t,ks,e,es,k1,k2,k3,k4,k5⟩=>?_) fun s' ⟨h',t,ks,e,es,k1,k2,k3,k4,k5⟩=>?_)
 ·subst es
  rw [Nat.zero_add] at k4
  refine AA (wpAny_attempt (CK (hk j x h' t hx k1 (fun k s''=>∃h2 t2 tk,k=.int (key j) tk∧s''={ s with heap:=h2,toks:=t2 }∧∀b o,h'.get? b=some o→h2.get? b=some o) fun h2 t2 tk kk=>⟨h2,t2,tk,rfl,rfl,kk⟩) (fun k s'' hq=>?_) fun _ _ x=>x.elim))
  obtain ⟨h2,t2,tk,rfl,rfl,kk2⟩:=hq
  have jl:j<vs.length:=(AY.mp hx).1
  have ea:(List.toArray ks).push (Value.int (key j) tk)=List.toArray (ks++[Value.int (key j) tk]):=by simp
  have s3:=CG h2 kS (Obj.mapSeq (·.push (Value.int (key j) tk)))
  obtain ⟨c2,hc2⟩:∃c2,(h2.update kS (Obj.mapSeq (·.push (Value.int (key j) tk)))).get? kS=some (seqObj "list" (List.toArray (ks++[Value.int (key j) tk])) c2):=⟨_,by rw [←ea];exact get?_update_seq (kk2 _ _ k3) (·.push (Value.int (key j) tk))⟩
  try dsimp only
  refine AA (FO (kk2 _ _ k3) rfl ?_ (by rw [AX,CU];omega) (AI (HR (Array.size_push ..)) (by rw [AX,CU];omega)))
  refine AC ⟨rfl,_,t2,ks++[Value.int (key j) tk],c2,rfl,fun b o ne q=>(s3.2 b ?_).trans (kk2 _ _ (k1 b o ne q)),(s3.2 a (DI kne)).trans (kk2 _ _ k2),hc2,by rw [AG,k4];simp,?_⟩
  ·intro e
   exact absurd (AK q) (by rw [e];exact Nat.not_lt.mpr kold)
  ·have:=k5.snoc (t:=tk)
   rwa [k4] at this
 ·subst es
  rw [Nat.zero_add] at k4
  refine AA (listItems_at k3 rfl ?_)
  refine Ak2 (key:=key) kne k3 k2 k4 h64 k5 fun h2 n2 p hp kk2 hc=>h h2 t n2 p hp (fun b o ne q=>kk2 b o ne ?_ (k1 b o ne q)) hc
  intro e
  exact absurd (AK q) (by rw [e];exact Nat.not_lt.mpr kold)
theorem Agr {key:Nat→Int}{f l:IC}{Q:IA→IB→Prop}(hl:s.heap.IsList l vs.toArray)(h64:vs.length<64)
  (hk:∀(i:Nat) (v:IA) (h1:Heap) (t1:Nat),vs[i]? =some v→(∀b o,s.heap.get? b=some o→h1.get? b=some o)→∀Q:IA→IB→Prop,(∀h2 t2 t,(∀b o,h1.get? b=some o→h2.get? b=some o)→Q (.int (key i) t) { s with heap:=h2,toks:=t2 }) →
   wpAny (model prog w) A.in1.in1 (call (.ref f) [v]) Q (fun _ _=>False) { s with heap:=h1,toks:=t1 })
  (h:∀D h' t n p,s.heap.objs.size≤D→Nh key vs.length p→(∀b o,s.heap.get? b=some o→h'.get? b=some o)→h'.get? D=some (seqObj "list" (List.toArray (Ic vs p)) n)→Q (.ref D) { s with heap:=h',toks:=t }) :
  wpAny (model prog w) A (call (.builtin "sorted") [.ref l] [(Str.ofString "key",.ref f)]) Q E s:=by
 refine call_function_entry_kw kind_sorted plain_sorted entry_sorted (ksk_s1 _ _) ?_
 unfold Builtin.«sorted»
 refine AA (m:=checkCount "sorted" 1 1 _) (AC ?_)
 refine AA (collect_list hl ?_ (by rw [CU];omega))
 refine AA (GK ?_ (by rw [CU];omega))
 have hsz:((s.heap.push (seqObj "list" #[] 0)).update s.heap.objs.size (Obj.mapSeq (· ++ vs.toArray))).objs.size=s.heap.objs.size+1:=by
  rw [Heap.size_update,size_push']
 have hoL:(((s.heap.push (seqObj "list" #[] 0)).update s.heap.objs.size (Obj.mapSeq (· ++ vs.toArray))).push (seqObj "list" vs.toArray 0)).get? (s.heap.objs.size+1)=some (seqObj "list" vs.toArray 0):=by
  rw [←hsz];exact AJ _ rfl
 have keep:∀b o,s.heap.get? b=some o→(((s.heap.push (seqObj "list" #[] 0)).update s.heap.objs.size (Obj.mapSeq (· ++ vs.toArray))).push (seqObj "list" vs.toArray 0)).get? b=some o:=fun b o q=>by
  have hlt:b<s.heap.objs.size:=AK q
  rw [HF _ _ _ (by rw [hsz];exact BC (CS hlt)),Heap.get?_update_ne _ _ _ _ (BC hlt),HF _ _ _ (BC hlt)]
  exact q
 show wpAny _ _ _ _ _ { s with heap:=((s.heap.push (seqObj "list" #[] 0)).update s.heap.objs.size (Obj.mapSeq (· ++ vs.toArray))).push (seqObj "list" vs.toArray 0) }
 rw [hsz]
 have ne:∀b o,s.heap.get? b=some o→b≠s.heap.objs.size+1:=fun b o e=>BC (CS (AK e))
 refine AA (DQ (wpAny_call_entry_kw slot_list_sort ⟨_,hoL,rfl⟩ entry_list_sort ?body (ksk_l1 _ _)))
 case body=>
  show wpAny (model prog w) A.in1.in1 (Builtin.«list.sort» ⟨[.ref (s.heap.objs.size+1)],[(Str.ofString "key",.ref f)]⟩) _ _ _
  rw [ksk_t1]
  refine Amg (s:={ s with heap:=((s.heap.push (seqObj "list" #[] 0)).update s.heap.objs.size (Obj.mapSeq (· ++ vs.toArray))).push (seqObj "list" vs.toArray 0) }) (key:=key) hoL h64 (fun i v h1 t1 hv k Q hq=>hk i v h1 t1 hv (fun b o e=>k b o (ne b o e) (keep b o e)) Q hq) fun h' t n p hp k hD=>?_
  exact ⟨_,rfl,AC ⟨_,rfl,h _ h' t n p (DW _) hp (fun b o e=>k b o (ne b o e) (keep b o e)) hD⟩⟩
end
abbrev Q3 (v:Str)(p1 p2 p3:Pos):Expr:=.Subscript (.Name v p1) (.Constant (.int 0) 0 p2) p3
abbrev T5 (v:Str)(p:Pos):Arguments:={ posonlyargs:=[],args:=[{ arg:=v,annotation:=none,pos:=p }],vararg:=none,kwonlyargs:=[],kw_defaults:=[],kwarg:=none,defaults:=[] }
abbrev Nt (v:Str):Scope:={ kind:=.function,names:=[(v,.local)],isGenerator:=false,isCoroutine:=false,more:=[] }
section
variable {prog:IE}{w:IF}{A:ID}{E:IA→IB→Prop}{s:IB}
theorem Adc {v:Str}{p1 p2 p3 p4:Pos}{name qual:Str}{pm ctv:IA}{c f a:IC}{l:II}{x:IA}{Q:IA→IB→Prop}
  (hroom:A.depth<recursionLimit) (ho:s.heap.get? f=some (kla_obj name qual (T5 v p4) (Q3 v p1 p2 p3) (Nt v) [] pm c ctv)) (hcd:s.heap.CodeRec (.ref c) qual) (hnl:s.heap.NoLimit)
  (hd:(v==("__debug__":Str))=false) (hb:bindArgs (kla_fn name qual (T5 v p4) (Q3 v p1 p2 p3) (Nt v) [] pm (.ref c) ctv) ⟨[.ref a],[]⟩=pure [(v,.ref a)])
  (ht:IsTup s.heap a l.toArray) (hx:l[0]? =some x)
  (h:∀h' t,(∀b o,s.heap.get? b=some o→h'.get? b=some o)→Q x { s with heap:=h',toks:=t }) :
  wpAny (model prog w) A (call (.ref f) [.ref a]) Q E s:=by
 refine wpAny_call (kla_callFunE hroom ho rfl rfl rfl rfl hcd ?_)
 show wpAny (model prog w) A.in1 (bindArgs (kla_fn name qual (T5 v p4) (Q3 v p1 p2 p3) (Nt v) [] pm (.ref c) ctv) ⟨[.ref a],[]⟩) _ _ _
 rw [hb]
 have lk:(Nt v).names.lookup v=some .local:=by
  show List.lookup v [(v,NameKind.local)]=_
  rw [EI,beq_self_eq_true]
 refine AC (wpAny_newFunctionEnv (fun y hy=>?_) (fun y hy=>?_) (fun h1 hns hsb=>⟨hnl.fresh _ hsb,?_⟩) rfl)
 ·obtain rfl:y=(v,.local):=AH.mp hy
  exact fun z=>nomatch z
 ·obtain rfl:y=(v,.ref a):=AH.mp hy
  exact lk
 have hk1:∀b o,s.heap.get? b=some o→h1.get? b=some o:=fun b o e=>hsb.extBut b o (BC (AK e)) (AB _ e)
 show codeAny _ _ (.expr (Q3 v p1 p2 p3) (envX qual (Nt v) s.heap.objs.size f (.ref c) [])) _ _
 refine kla_codeExpr (Subscript_ ?_)
 rw [eval_Name _ _ _ hd]
 refine AA (HJ (wpAny_loadName_local rfl lk hns (v:=.ref a) ?_ ?_))
 ·show List.lookup v [(v,Value.ref a)]=_
  rw [EI,beq_self_eq_true]
 ·have ht1:IsTup h1 a l.toArray:=by
   obtain ⟨o,e1,e2⟩:=ht
   exact ⟨o,hk1 _ _ e1,e2⟩
  have l0:0<l.length:=(AY.mp hx).1
  refine wpAny_Constant_int ?_
  refine item_tupleL (j:=0) ht1 (by decide) (by decide) (by rw [seqIndex_of (by decide) (by omega)];rfl) hx ?_
  exact h _ _ hk1
end
def Agn (c:IC)(q:Str):HO:=.ext fun h=>h.CodeRec (.ref c) q
theorem Sh {c:IC}{q:Str}{h1 h2:Heap}(h:h1.CodeRec (.ref c) q)(k:∀o,h1.get? c=some o→h2.get? c=some o):h2.CodeRec (.ref c) q:=by
 obtain ⟨c',oc,vs,t,e,ho,r⟩:=h
 cases e
 exact ⟨c,oc,vs,t,rfl,k _ ho,r⟩
def A8 (H:Hp)(P:IC)(pos:Pos)(q:Str):Prop:=∃ps,H P=some (.tbl ps)∧TriplesOk ps.toList∧(codeAmong pos ps.toList=none∨∃c,codeAmong pos ps.toList=some (.ref c)∧H c=some (Agn c q))
theorem A8.up {H H':Hp}{P:IC}{pos:Pos}{q:Str}(s:Aj H H')(h:A8 H P pos q):A8 H' P pos q:=by
 obtain ⟨ps,h1,h2,h3⟩:=h
 refine ⟨ps,s _ _ h1,h2,h3.imp id ?_⟩
 rintro ⟨c,e1,e2⟩
 exact ⟨c,e1,s _ _ e2⟩
theorem V1 {pos:Pos}{c:IA}:∀(l:II),TriplesOk l→TriplesOk (l++[rawInt pos.line,rawInt pos.col,c]):=fun l h=>by
 fun_induction TriplesOk l with
 |case1=>exact trivial
 |case2 a t b u x Ep ih=>exact ih h
 |case3=>exact h.elim
def BmB (mg:Str→IK)(base:Heap):Prop:=∃(bm:IC) (ob:Obj),mg "__builtins__"=some (.ref bm)∧bm≠builtinsNs∧base.get? bm=some ob∧ob.cls=.type "module"∧ob.dict=some builtinsNs∧ob.data=.plain
structure Aef (K:KKf)(mg:Str→IK)(base:Heap)(cdv:IA)(P:IC):Prop where
 c:∃c,cdv=.ref c∧codeHdIn K c P=true
 bm:BmB mg base
section
variable {X:Cx}{pins:List (IC×Obj)}{σ:L2.St}{H:Hp}{s:IB}{P:IC}{lp:Pos}{q:Str}
theorem Ai0 (tf:Aef X.K X.mg X.base X.env.code P)(I:Aw X pins σ H s){ps:Array IA}(e:s.heap.get? P=some (tabObj ps)):s.heap.BuiltinsAt X.mg P:=by
 obtain ⟨bm,ob,h1,h2,h3,h4,h5,h6⟩:=tf.bm
 have e2:=I.bk _ _ h3
 refine ⟨bm,_,h1,h2,fun z=>?_,fun z=>?_,e2,h4,h5,h6⟩
 ·obtain ⟨o,es,ep,ho,hd,_⟩:=I.mod.glob
  rw [z,I.bk _ _ ho] at e2
  cases e2
  rw [hd] at h6
  cases h6
 ·rw [z,e] at e2
  cases e2
  cases h4
theorem Ac8 {h':Heap}{t':Nat}{ps more:Array IA}{c:IC}(I:Aw X pins σ H s)(e:H P=some (.tbl ps))(k:Heap.ExtBut P s.heap h')(hP:h'.get? P=some (tabObj (ps++more)))(hc:s.heap.objs.size≤c)(hr:h'.CodeRec (.ref c) q) :
  Aw X pins σ (upd (upd H P (.tbl (ps++more))) c (Agn c q)) { s with heap:=h',toks:=t' }:=by
 have hcn:H c=none:=I.hok.fresh hc
 have Pl:P<s.heap.objs.size:=I.hok.lt e
 have Pc:P≠c:=BC (AV Pl hc)
 have up:∀b o,b≠P→H b=some o→upd (upd H P (.tbl (ps++more))) c (Agn c q) b=some o:=fun b o n x=>by
  rw [Am (Bu x hcn),Am n]
  exact x
 have nP:∀b,H b=none→b≠P:=fun b n z=>by
  rw [z,e] at n
  cases n
 refine I.un ⟨fun b o x n _ _=>k b o (nP b n) x,fun b o x n _ _=>⟨o.slots,k b o (nP b n) x⟩,fun b o x n _=>?_,fun b o x _=>?_,fun b xs x=>?_,fun b o u x=>?_,fun b qs x=>?_⟩ fun b u x=>?_
 ·rw [Am (BC (AV (AK x) hc)),Am (nP b n)]
  exact n
 ·by_cases z:b=P
  ·rw [z]
   exact ⟨_,hP⟩
  ·exact ⟨_,k b o z x⟩
 ·exact up b _ (fun z=>by rw [z,e] at x;cases x) x
 ·exact up b _ (fun z=>by rw [z,e] at x;cases x) x
 ·by_cases z:b=P
  ·rw [z,e] at x
   cases x
   rw [z,Am Pc,Ac]
   exact ⟨more,rfl⟩
  ·exact ⟨#[],by rw [up b _ z x];simp⟩
 ·by_cases z:b=c
  ·rw [z,Ac] at x
   cases x
   obtain ⟨c',oc,vs,t,e',ho,r⟩:=id hr
   cases e'
   rw [z]
   exact ⟨hr,⟨oc,ho⟩,fun h1 h2 a b=>Sh a b⟩
  ·rw [Am z] at x
   by_cases z2:b=P
   ·rw [z2,Ac] at x
    cases x
    rw [z2]
    exact hP
   ·rw [Am z2] at x
    refine (I.hok b u x).stay (fun d v hd y=>k d v ?_ y) (fun d y=>up d _ (fun z=>by rw [z,e] at y;cases y) y) fun d xs y=>up d _ (fun z=>by rw [z,e] at y;cases y) y
    rcases hd with rfl|hd
    ·exact z2
    ·intro z
     rw [z,e] at hd
     cases hd
theorem Adg {v:Str}{p1 p2 p3 p4:Pos}{Q:IA→IB→Prop}(tf:Aef X.K X.mg X.base X.env.code P)(I:Aw X pins σ H s)(hT:A8 H P lp (X.env.qual++"<lambda>"))
  (h:∀f c H' s' pm ctv,Aw X pins σ H' s'→(∀b o,b≠P→H b=some o→H' b=some o)→A8 H' P lp (X.env.qual++"<lambda>")→s'.heap.get? f=some (kla_obj "<lambda>" (X.env.qual++"<lambda>") (T5 v p4) (Q3 v p1 p2 p3) (Nt v) [] pm c ctv)→s'.heap.CodeRec (.ref c) (X.env.qual++"<lambda>")→Q (.ref f) s') :
  wpAny (model X.prog X.w) X.A (eval (.Lambda (T5 v p4) (Q3 v p1 p2 p3) (Nt v) lp) X.env) Q X.xe s:=by
 obtain ⟨ps,e,tr,hT⟩:=hT
 obtain ⟨c,ec,hd⟩:=tf.c
 have eP:s.heap.get? P=some (tabObj ps):=I.hok P _ e
 have C:CodeHd s.heap c P:=codeHd_of_K I.kIn hd
 have G:s.heap.Ns mainGlobals X.mg:=I.mod.glob.keeps I.bk
 have hcl:closureFor (Nt v) X.env=pure []:=rfl
 refine kla_eval rfl ?_
 rcases hT with hn|⟨c',hc',ec'⟩
 ·have gP:mainGlobals≠P:=fun z=>by
   obtain ⟨o,es,ep,ho,hd,_⟩:=G
   rw [z,eP] at ho
   cases ho
   cases hd
  refine kla_makeFunction hcl I.ok.glob G ec C eP tr hn gP (Ai0 tf I eP) fun c' ctv h' tk k1 k2 k3 k4 k5=>?_
  have I2:=Ac8 (t':=tk) I e k1 k5 k2 k4
  have I3:=I2.kept (h':=h'.push (kla_obj "<lambda>" (X.env.qual++"<lambda>") (T5 v p4) (Q3 v p1 p2 p3) (Nt v) [] ((X.mg "__name__").getD .none) c' ctv)) (t':=tk) fun b u x=>AB _ x
  have hcn:H c'=none:=I.hok.fresh k2
  refine h _ c' _ _ _ ctv I3 (fun b o n x=>by rw [Am (Bu x hcn),Am n];exact x) ⟨ps++#[rawInt lp.line,rawInt lp.col,.ref c'],?_,?_,.inr ⟨c',?_,Ac⟩⟩ (AJ _ rfl) ?_
  ·rw [Am (Bu e hcn),Ac]
  ·rw [Array.toList_append]
   exact V1 _ tr
  ·rw [Array.toList_append]
   exact codeAmong_snoc _ tr hn
  ·exact Sh k4 fun o x=>AB _ x
 ·refine kla_makeFunctionHit hcl I.ok.glob G ec C eP tr hc' (Ai0 tf I eP) fun ctv h' tk k1 k2=>?_
  have I3:=I.kept (h':=h'.push (kla_obj "<lambda>" (X.env.qual++"<lambda>") (T5 v p4) (Q3 v p1 p2 p3) (Nt v) [] ((X.mg "__name__").getD .none) c' ctv)) (t':=tk) fun b u x=>AB _ (k1 _ _ x)
  refine h _ c' _ _ _ ctv I3 (fun b o n x=>x) ⟨ps,e,tr,.inr ⟨c',hc',ec'⟩⟩ (AJ _ rfl) ?_
  obtain ⟨y1,_,y3⟩:Bj X.prog X.w H s.heap c' (Agn c' (X.env.qual++"<lambda>")):=I.hok c' _ ec'
  exact y3 _ _ y1 fun o x=>AB _ (k1 _ _ x)
def Al4 (K:KKf)(P:IC)(lp:Pos)(q:Str):IP→Hp→VK→Prop:=fun us H1 Q=>∃(l:IC) (xs:IP) (key:Nat→Int),us=[.ref l]∧Au K H1 l xs∧xs.length<64 ∧
 (∀i v,xs[i]? =some v→∃a ys,v=.ref a∧H1 a=some (.tup (.int (key i)::ys)))∧A8 H1 P lp q ∧
 ∀D H2 p,(∀b o,b≠P→H1 b=some o→H2 b=some o)→H1 D=none→H2 D=some (.lst (p.map fun i=>xs.getD i .non))→A8 H2 P lp q→Nh key xs.length p→Q (.ref D) H2
theorem R6 {xs:IP}{its:II}(rv:A6 xs its):∀{L:IM},(∀i∈L,i<xs.length)→A6 (L.map fun i=>xs.getD i .non) (L.map fun i=>its.getD i Value.none)
 |[],_=>.nil
 |i::L,h=>by
  have hi:=h i AO
  obtain ⟨v,hv,r⟩:=rv.get (AD hi)
  rw [BW,BW]
  refine .cons ?_ (R6 rv fun j hj=>h j (AQ _ hj))
  rw [BJ,BJ,hv,AD hi]
  exact r
theorem Agy {v:Str}{e:Expr}{ta:TA}{p p1 p2 p3 p4 kp pos:Pos}{k:Nat}(tf:Aef X.K X.mg X.base X.env.code P)(hr:Cg (k+2) X.A)(hg:Gl X "sorted")(hm:X.mg "sorted"=none)(ha:PA X [e] ta)(hd:(v==("__debug__":Str))=false:=by decide)
  (hst:starEach [e] X.env=[(false,eval e X.env)]:=by rfl) (hb:∀(nm ql:Str) (pm cd ct:IA) (a:IC),bindArgs (PySem.W.kla_fn nm ql (T5 v p4) (Q3 v p1 p2 p3) (Nt v) [] pm cd ct) ⟨[.ref a],[]⟩=pure [(v,.ref a)]:=by intros;rfl) :
  PE X (.Call (.Name "sorted" p) [e] [⟨some "key",.Lambda (T5 v p4) (Q3 v p1 p2 p3) (Nt v) lp,kp⟩] pos) (tCB (Al4 X.K P lp (X.env.qual++"<lambda>")) ta):=by
 intro pins s σ H Q I h
 refine DO (Gi I hg hm Nj ?_)
 refine callWith_kw (Bo (ha pos pins s σ H _ I h) fun us s1 ⟨vs,H1,I1,r1,q1⟩=>?_) (by rw [hst];rfl) (by rw [hst];rfl)
 obtain ⟨l,xs,key,ex,hq,hl,ht,hT,q⟩:=q1
 subst ex
 obtain ⟨u,rfl,ru⟩:=r1.one
 cases (show u=Value.ref l from ru)
 refine kws_cons ?_
 refine Adg (v:=v) (p1:=p1) (p2:=p2) (p3:=p3) (p4:=p4) tf I1 hT fun f c H2 s2 pm ctv I2 k2 hT2 hf hcd=>?_
 refine kws_nil ?_
 show wpAny (model X.prog X.w) X.A (call (.builtin "sorted") [.ref l] [(Str.ofString "key",.ref f)]) _ _ _
 obtain ⟨ps,eP,_⟩:=hT
 have hq2:Au X.K H2 l xs:=by
  rcases hq with (h|⟨o,h⟩)|h
  ·exact .inl (.inl (k2 _ _ (fun z=>by rw [z,eP] at h;cases h) h))
  ·exact .inl (.inr ⟨o,k2 _ _ (fun z=>by rw [z,eP] at h;cases h) h⟩)
  ·exact .inr h
 obtain ⟨its,rv,⟨oL,nL,eL,cL,dL,xL⟩,hz⟩:=I2.list hq2
 have hlen:its.length=xs.length:=rv.length.symm
 refine Agr (key:=key) (vs:=its) ⟨oL,eL,cL,nL,xL⟩ (by omega) (fun i v' h1 t1 hv k1 Q' hQ=>?_) fun D h' t n pp hD st k' hd'=>?_
 ·have hi:i<xs.length:=by
   rw [←hlen]
   exact (AY.mp hv).1
  obtain ⟨a,ys,e1,e2⟩:=ht i _ (AD hi)
  have g:=rv.get (AD hi)
  rw [e1] at g
  obtain ⟨u',hu,ru'⟩:=g
  rw [hv] at hu
  cases hu
  cases (show v'=Value.ref a from ru')
  have e3:=k2 _ _ (fun z=>by rw [z,eP] at e2;cases e2) e2
  obtain ⟨_,tl,rt,ob,ho,r2⟩:Bj X.prog X.w H2 s2.heap a (.tup (.int (key i)::ys)):=I2.hok a _ e3
  cases rt with
  |cons r3 r4=>
   obtain ⟨tk,rfl⟩:=r3
   refine Adc (s:={ s2 with heap:=h1,toks:=t1 }) (hr.in1.in1.depth) (k1 _ _ hf) (Sh hcd fun o x=>k1 _ _ x) (I2.nolimit.keeps k1) hd (hb _ _ _ _ _ _) (l:=Value.int (key i) tk::_) ⟨ob,k1 _ _ ho,r2⟩ rfl fun h2 t2 k3=>hQ h2 t2 tk k3
 ·have hn2:H2 D=none:=I2.hok.fresh hD
  have hn1:H1 D=none:=by
   cases c:H1 D with
   |none=>rfl
   | some o=>
    by_cases z:D=P
    ·obtain ⟨ps2,e2,_⟩:=hT2
     rw [z,e2] at hn2
     cases hn2
    ·rw [k2 _ _ z c] at hn2
     cases hn2
  have I3:=I2.laid (t':=t) (h':=h') (a:=D) (o:=.lst (pp.map fun i=>xs.getD i .non)) k' hD ⟨by rw [AE,st.1,hlen];exact hz,Ic its pp,n,R6 rv fun i hi=>by rw [←hlen];exact st.2.1 i hi,hd'⟩
  refine ⟨.ref D,_,I3,rfl,q D _ pp (fun b o nb x=>?_) hn1 Ac (hT2.up fun b o x=>?_) (by rw [←hlen];exact st)⟩
  ·have x2:=k2 b o nb x
   rw [Am (Bu x2 hn2)]
   exact x2
  ·rw [Am (Bu x hn2)]
   exact x
end
def Sz (K:KKf)(x:Str):IC:=match PySem.W.tabIn K x with
 |some (_,P)=>P
 |none=>0
structure Ajb (K:KKf)(mg:Str→IK)(base:Heap)(x:Str):Prop where
 tb:∃(f:IC) (oc:IA) (od:Option IC) (fd:FuncData) (sl:Array (IK)) (c:IC),mg x=some (.ref f)∧K.lookup f=some ⟨oc,od,.func fd,sl⟩∧fd.code=.ref c∧codeHdIn K c (Sz K x)=true
 bm:BmB mg base
theorem Aj6 {K:KKf}{x:Str}{f c P:IC}{oc cl:IA}{od cd:Option IC}{fd:FuncData}{sl cs:Array (IK)}{vs:Array IA}(h1:PySem.W.nsIn K mainGlobals x=some (some (.ref f)))(h2:K.lookup f=some ⟨oc,od,.func fd,sl⟩)(h3:fd.code=.ref c)(h4:K.lookup c=some ⟨cl,cd,.fields vs,cs⟩)(h5:(vs[11]?:IK)=some (.ref P)):PySem.W.tabIn K x=some (c,P):=by
 unfold PySem.W.tabIn
 rw [h1]
 dsimp only
 rw [h2]
 dsimp only
 rw [h3]
 dsimp only
 rw [h4]
 dsimp only
 rw [h5]
theorem Y8 {K:KKf}{x:Str}{c P:IC}(h:PySem.W.tabIn K x=some (c,P)):Sz K x=P:=by
 unfold Sz
 rw [h]
section
variable {P:IE}{w:IF}{K:KKf}{mg:Str→IK}{base:Heap}
theorem Bt.calT {x:Str}{st:Stmt}{N ps:IG}{k:Nat}{sp:Sp}(d:Bt K mg x st ps)(tk:Ajb K mg base x)(S:Al N ps (Ad st))(len:∀vs H Q E,sp vs H Q E→vs.length=ps.length)
  (hbody:∀(f:IC) (cdv:IA) (A:ID) (outer:List Env) (s:IB) (H:Hp) (vs:IP) (Q:VK) (E:XK),Aef K mg base cdv (Sz K x)→Cg k (A.deeper (envOfC x (Ad st) s.heap.objs.size f cdv))→sp vs H Q E →
   ∃t,Ny (Qu (Q0 P w) P w K mg base N x (Ad st) f cdv A outer s H E).nox (Cd st) t∧t { nx:=fun _ H'=>Q .non H',rt:=Q } (Hw N vs) H):Bc P w K mg base x ps (k+1) sp:=by
 obtain ⟨f,fd,F,hm,hb⟩:=d.ex
 obtain ⟨oc,od,kV,doc,pm,an,cdv,ct,osl,rfl,lk,hcd⟩:=F.ex
 obtain ⟨f',oc',od',fd',sl',c,m1,m2,m3,m4⟩:=tk.tb
 rw [hm] at m1
 cases m1
 rw [lk] at m2
 cases m2
 have tf:Aef K mg base cdv (Sz K x):=⟨⟨c,m3,m4⟩,tk.bm⟩
 exact ⟨f,_,hm,F.kp,hb,Ae9 lk hcd S len fun A outer s H vs Q E hr hsp=>by
  obtain ⟨t,h,q⟩:=hbody f cdv A outer s H vs Q E tf hr hsp
  exact ⟨t,h.nox,q⟩,oc,od,osl,lk⟩
end
def Adl (T:IC)(H:Hp):Prop:=H T=some (.tbl #[])∧∀b,b≠T→H b=none∨∃o xs,H b=some (.frz o (.lst xs))
theorem Abu {P:IE}{w:IF}{K:KKf}{mg mb:Str→IK}{CX:CXT}{k:Nat}{fa a cc T:IC}{fd:FuncData}{x:Str}{sp:Sp}{t:IB}{vs:II}{ns:IH}
  (KX:K.In t.heap) (glob:t.heap.Ns mainGlobals mg) (blt:t.heap.Ns builtinsNs mb) (boot:∀x:Str,x≠"__name__"→mb x=bootBuiltins x) (lim:t.heap.NoLimit) (gens:t.gens=#[])
  (ca:t.heap.get? a=some { cls:=.type "list",data:=.seq vs.toArray }) (ia:IntsAre vs ns) (short:ns.length≤sizeLine) (room:Cg k callerA)
  (C:CodeHd t.heap cc T) (eT:t.heap.get? T=some (tabObj #[])) (kT:K.lookup T=none)
  (bmT:BmB mg t.heap) (F:∀base:Heap,K.In base→base.Ns mainGlobals mg→BmB mg base→Ib P w K mg base CX k fa fd [x] sp) (bind:∀(s:IB) (u:IA),BindsTo s fd ⟨[u],[]⟩ [(x,u)])
  (want:∀H:Hp,Adl T H→Au K H a (ns.map V.int)→sp [.ref a] H (fun v _=>v=.bl true) fun _ _ _=>False)
  (fly:∀H e s',CX [] H t (fun _ _ _=>False) e s'→False) :
  codeAny (model P w) callerA (.call (.ref fa) ⟨[.ref a],[]⟩) (fun r z=>r=.ok (.ret (.bool true))∧OldK t.heap z.heap∧z.os=t.os∧AllBare z.gens) t:=by
 have aT:a≠T:=fun z=>by
  rw [z,eT] at ca
  cases ca
 have core:∀H:Hp,Adl T H→Au K H a (ns.map V.int)→Kf P w H t.heap→(∀b,H b≠none→b=a∨b=T)→(H a≠none→K.lookup a=none) →
   codeAny (model P w) callerA (.call (.ref fa) ⟨[.ref a],[]⟩) (fun r z=>r=.ok (.ret (.bool true))∧OldK t.heap z.heap∧z.os=t.os∧AllBare z.gens) t:=by
  intro H only sq hok two notK
  have nodict:∀{b:IC} {o:Obj} {es:Array DictEntry} {ep:Nat},t.heap.get? b=some o→o.data=.dict es ep→H b=none:=fun {b o es ep} e d=>by
   cases c:H b with
   |none=>rfl
   | some u=>
    rcases two b (by rw [c];simp) with z|z
    ·subst z
     rw [ca] at e
     cases e
     cases d
    ·subst z
     rw [eT] at e
     cases e
     cases d
  have nsB:∀{b:IC} {m:Str→IK},t.heap.Ns b m→(Tj t.heap H).Ns b m:=fun ⟨o,es,ep,e,d,r⟩=>⟨o,es,ep,P7 e (nodict e d),d,r⟩
  have kB:K.In (Tj t.heap H):=fun b o e=>P7 (KX b o e) (by
   cases c:H b with
   |none=>rfl
   | some u=>
    rcases two b (by rw [c];simp) with z|z
    ·subst z
     rw [notK (by rw [c];simp)] at e
     cases e
    ·subst z
     rw [kT] at e
     cases e)
  have md:Mod K mg (Tj t.heap H):=⟨kB,nsB glob,⟨mb,nsB blt,boot⟩,let ⟨mc,y1,y2⟩:=lim;⟨mc,nsB y1,y2⟩⟩
  have e0:Ya P w K mg (Tj t.heap H) callerA [] t H:=⟨rfl,md,fun b o e=>Ah2 e,HR (Ab2 _ _),trivial,fun b hb=>absurd (show b∈([]:List IC) from hb) (by simp),hok,.of_eq gens⟩
  have bmB:BmB mg (Tj t.heap H):=by
   obtain ⟨bm,ob,h1,h2,h3,h4,h5,h6⟩:=bmT
   refine ⟨bm,ob,h1,h2,P7 h3 ?_,h4,h5,h6⟩
   cases c:H bm with
   |none=>rfl
   | some u=>
    rcases two bm (by rw [c];simp) with z|z
    ·subst z
     rw [ca] at h3
     cases h3
     cases h6
    ·subst z
     rw [eT] at h3
     cases h3
     cases h6
  refine GT ((F _ kB (nsB glob) bmB).run callerA [] t H ⟨[.ref a],[]⟩ [.ref a] [.ref a] _ _ room e0 (bind t (.ref a)) (.cons rfl .nil) (want H only sq)) fun r z y=>?_
  cases r with
  |error e=>exact (fly H e z y).elim
  | ok fl=>
   cases fl with
   |next=>exact y.elim
   |brk=>exact y.elim
   |cont=>exact y.elim
   | ret u=>
    obtain ⟨v,H',os,bare,un,hok',rv,yes⟩:=y
    obtain rfl:v=.bl true:=yes
    obtain rfl:u=Value.bool true:=rv
    obtain ⟨more,em⟩:=un.tbls T #[] only.1
    have zT:z.heap.get? T=some (tabObj (#[]++more)):=hok' T _ em
    have kp:∀b o,b≠T→t.heap.get? b=some o→z.heap.get? b=some o:=fun b o n e=>by
     rcases only.2 b n with c|⟨ob,xs,c⟩
     ·exact un.keep b o e c (fun q=>absurd (show b∈([]:List IC) from q) (by simp)) (by simp)
     ·obtain ⟨g1,_⟩:=hok b _ c
      obtain ⟨g2,_⟩:=hok' b _ (un.frzs b ob _ c)
      rw [e] at g1
      cases g1
      exact g2
    refine ⟨rfl,⟨fun b o e=>?_,fun b o e=>?_⟩,os,bare⟩
    ·by_cases n:b=T
     ·subst n
      rw [eT] at e
      cases e
      exact .inr (.inl ⟨(C.tab eT).isCodeTable,rfl,#[],more,rfl,zT⟩)
     ·exact .inl (kp b o n e)
    ·by_cases n:b=T
     ·exact ⟨_,n▸zT⟩
     ·exact ⟨o,kp b o n e⟩
 have rv:=R5 ia
 have ln:=ia.length
 cases hk:K.lookup a with
 | some o=>
  have e:=KX a o hk
  rw [ca] at e
  cases e
  refine core (upd (fun _=>none) T (.tbl #[])) ⟨Ac,fun b n=>.inl (Am n)⟩ (.inr ⟨_,vs.toArray,_,hk,rfl,rfl,rfl,by rw [AX,ln];exact short,by simpa using rv⟩) (fun b u z=>?_) (fun b z=>?_) fun z=>absurd (Am aT) z
  ·by_cases n:b=T
   ·subst n
    rw [Ac] at z
    cases z
    exact eT
   ·rw [Am n] at z
    cases z
  ·by_cases n:b=T
   ·exact .inr n
   ·exact absurd (Am n) z
 | none=>
  refine core (upd (upd (fun _=>none) a (.frz { cls:=.type "list",data:=.seq vs.toArray } (.lst (ns.map V.int)))) T (.tbl #[])) ⟨Ac,fun b n=>?_⟩ (.inl (.inr ⟨{ cls:=.type "list",data:=.seq vs.toArray },?_⟩)) (fun b u z=>?_) (fun b z=>?_) fun _=>hk
  ·rw [Am n]
   by_cases n2:b=a
   ·rw [n2,Ac]
    exact .inr ⟨_,_,rfl⟩
   ·exact .inl (Am n2)
  ·rw [Am aT,Ac]
  ·by_cases n:b=T
   ·subst n
    rw [Ac] at z
    cases z
    exact eT
   ·rw [Am n] at z
    by_cases n2:b=a
    ·subst n2
     rw [Ac] at z
     cases z
     exact ⟨ca,by rw [AE];exact short,vs,_,rv,ca⟩
    ·rw [Am n2] at z
     cases z
  ·by_cases n:b=T
   ·exact .inr n
   ·by_cases n2:b=a
    ·exact .inl n2
    ·exact absurd ((Am n).trans (Am n2)) z
end Lw
end
section
set_option autoImplicit false
namespace Lw
open PySem PySem.Spec PyProof.Rows L2 PySem.W
def V0 (x:Str)(K:KKf)(ns:IH):Sp:=fun vs H Q _=>match vs with
 |[.ref a]=>Au K H a (ns.map V.int)∧ns.length≤63∧Ae2 ns∧H (Sz K x)=some (.tbl #[])∧∀H',Q (.bl true) H'
 |_=>False
def Jo (x:Str)(K:KKf):Sp:=fun vs H Q _=>∃(ns:IH) (a:IC),vs=[.ref a]∧Au K H a (ns.map V.int)∧ns.length≤63∧Ae2 ns∧H (Sz K x)=some (.tbl #[])∧∀H',Q (.bl true) H'
section
variable {P:IE}{w:IF}{K:KKf}{mg:Str→IK}{base:Heap}
theorem Ae4 {x:Str}{k:Nat}{st:Stmt}{f:IC}{fd:FuncData}(F:Fun K "law" "law" st f fd)(hm:mg "law"=some (.ref f))(C:∀ns,Bc P w K mg base "law" ["_law_script"] k (V0 x K ns)):Ib P w K mg base (Q0 P w) k f fd ["_law_script"] (Jo x K):=by
 refine ⟨fun vs H Q E h=>?_,fun A outer s H args us vs Q E hr he hb hv hs=>?_⟩
 ·obtain ⟨ns,a,rfl,_⟩:=h
  rfl
 ·obtain ⟨ns,a,rfl,h1,h2,h3,h4,h5⟩:=hs
  obtain ⟨f',fd',e1,e2,e3,G,oc',od',osl',lk'⟩:=(C ns).ex
  obtain ⟨oc,od,kV,doc,pm,an,cdv,ct,osl,_,lk,_⟩:=F.ex
  rw [hm] at e1
  cases e1
  rw [lk] at lk'
  cases lk'
  exact G.run A outer s H args us _ Q E hr he hb hv ⟨h1,h2,h3,h4,h5⟩
end
theorem walk_ofBT {l:PySem.W.OpenLaw}{n k:Nat}{q:IE}{loose:IG}{XP:(Str→IK)→Heap→Prop}{YP:IF→Heap→Prop}{d:DefRec}{K:Params→KKf}{CX:IF→CXT}{sp:IF→Sp}{x y:Str}{ts:List IC}
  (hn:l.most=some n) (hn2:n≤sizeLine) (hdf:d.params.defaults=[]) (hr:Cg k callerA) (hY:∀(w:IF) (h:Heap),YP w h→(K w.params).In h)
  (hT:∀(w:IF) (h:Heap),YP w h→∀P∈ts,h.get? P=some (tabObj #[]))
  (F:∀(w:IF) (mg:Str→IK) (fa:IC) (h:Heap),(K w.params).In h→h.Ns mainGlobals mg→mg d.name=some (.ref fa)→(∃c P,PySem.W.tabIn (K w.params) y=some (c,P)∧codeHdIn (K w.params) c P=true∧(K w.params).lookup P=none∧P∈ts)∧∃fd:FuncData,(∀(s:IB) (u:IA),BindsTo s fd ⟨[u],[]⟩ [(x,u)])∧∀base:Heap,(K w.params).In base→base.Ns mainGlobals mg→BmB mg base→Ib l.prog w (K w.params) mg base (CX w) k fa fd [x] (sp w))
  (hsp:∀(w:IF) (H:Hp) (a:IC) (ns:IH),ns.length≤n→Ae2 ns→Adl (Sz (K w.params) y) H→Au (K w.params) H a (ns.map V.int)→sp w [.ref a] H (fun v _=>v=.bl true) fun _ _ _=>False)
  (hCX:∀(w:IF) (H:Hp) (s:IB) (e:IA) (s':IB),CX w [] H s (fun _ _ _=>False) e s'→False):PySem.W.WalkO q loose XP YP l.row.toRowW d [] (fun f vs=>PySem.call f vs):=by
 refine S5 hn hdf fun w t₀ t mg mb fa o pm cd doc a vs ns bits G Y x1 x2 x3 x5 y1 y2 y3 x6=>?_
 have KX:=hY w _ Y
 obtain ⟨⟨c,T,tb,hC,kT,mT⟩,fd,bd,ok⟩:=F w mg fa _ KX G.T.g x5
 have C:CodeHd t.heap c T:=codeHd_of_K KX hC
 have eT:=hT w _ Y T mT
 exact Abu KX G.T.g G.T.b G.T.builtins G.T.nolimit x6 y1 y2 (AI y3 hn2) hr C eT kT G.T.bmain ok bd (fun H only sq=>hsp w H a ns y3 bits (by rw [Y8 tb];exact only) sq) fun H e z=>hCX w H t e z
end Lw
end
section
namespace Lw
open PySem PySem.Spec PyProof.Rows L2
theorem u1 {n m:Nat}(h:n+64<m):n+1<m:=by omega
structure TL (kvs:List (Bg×V))(ks:IG)(f:Str→Int):Prop where
 key:kvs.map (·.1)=ks.map Sum.inr
 nd:ks.Nodup
 val:∀x,B4 kvs (Sum.inr x)=if x∈ks then some (.int (f x)) else none
 out:∀x,x∉ks→f x=0
theorem Ac1 {kvs:List (Bg×V)}{ks:IG}(h:kvs.map (·.1)=ks.map Sum.inr)(x:Str)(v:V):(Eo kvs (Sum.inr x) v).map (·.1)=(dd ks x).map Sum.inr:=by
 have hany:(kvs.any fun kv=>decide (kv.1=Sum.inr x))=decide (x∈ks):=by
  have e:(kvs.any fun kv=>decide (kv.1=Sum.inr x))=(kvs.map (·.1)).any fun k=>decide (k=Sum.inr x):=by rw [GE];rfl
  rw [e,h,GE]
  by_cases hx:x∈ks
  ·rw [AR hx,EA]
   exact ⟨x,hx,by simp⟩
  ·rw [BF hx,FY]
   intro y hy c
   have:y=x:=by simpa using c
   exact hx (this▸hy)
 unfold Eo dd
 rw [hany]
 by_cases hx:x∈ks
 ·rw [AR hx,AZ rfl,AZ hx,GD,←h]
  refine List.map_congr_left fun kv _=>?_
  show (if kv.1=Sum.inr x then (kv.1,v) else kv).1=kv.1
  split<;>rfl
 ·rw [BF hx,AW (by decide),AW hx,BQ,h,BQ]
  rfl
end Lw
end
section
namespace Lw
open PySem PySem.Spec PyProof.Rows L2
section
variable {prog:IE}{w:IF}{A:ID}{E:IA→IB→Prop}{s:IB}
theorem Ads {d:IC}{vs:List (Bg×IA)}{ep:Nat}{Q:II→IB→Prop}(hh:A.handled=none)(hok:s.heap.DictAt (A5 prog w) d vs ep)(lo:(d==sysModules)=false)(hn:vs.length≤sizeLine)
  (q:∀xs g tk,(∀b o,s.heap.get? b=some o→g.get? b=some o)→s.heap.objs.size<g.objs.size→xs.length=vs.length→(∀(j:Nat) v,xs[j]? =some v→∃k x,vs[j]? =some (k,x)∧(A5 prog w).is k v=true)→Q xs { s with heap:=g,toks:=tk }) :
  wpAny (model prog w) A (collect (.ref d)) Q E s:=by
 have la:d<s.heap.objs.size:=hok.lt_size
 unfold collect
 refine AA (wpAny_runValue (codeAny_builtin PySem.F.entry_proto_collect ?_))
 rw [DS PySem.F.plain_proto_collect _]
 show wpAny _ A.in1 (newList [] >>= fun l=>again (.builtin "list.__iadd__" ⟨[l,.ref d],[]⟩)) _ _ s
 refine AA (CD (AC ⟨HL FN _,codeAny_builtin PySem.F.entry_list_iadd ?_⟩))
 rw [DS FN _]
 show wpAny _ A.in1 (Builtin.List.listExtendWith (.ref s.heap.objs.size) (.ref d) (.ref s.heap.objs.size)) _ _ _
 have hS:(s.heap.push { cls:=.type "list",data:=.seq ([]:II).toArray }).get? s.heap.objs.size=some { cls:=.type "list",data:=.seq #[] 0 }:=AJ _ rfl
 refine PySem.W.kdl_extend (R:=wants (fun v s'=>wpAny (model prog w) A (match v with|Value.ref a=>(do let o ←load a;match o.data with|.seq xs _=>pure xs.toList|_=>unsupported "internal:collect")|_=>unsupported "internal:collect") Q E s') E) (s:={ s with heap:=s.heap.push { cls:=.type "list",data:=.seq ([]:II).toArray } }) (PySem.W.kdl_dict lo) hh (hok.push _) s.heap.objs.size (DN la) (DN la) (.ref s.heap.objs.size) 0 hS (fun h' tk acc c hk hS' it=>?_) hn
 show wpAny _ A (load s.heap.objs.size >>= _) _ _ _
 refine AA (wpAny_load hS' (AC (q acc.toList h' tk (fun b o e=>hk b o (BC (AK e)) (AB _ e)) (AK hS') (by rw [BS];exact it.1) fun j v hv=>it.2 j v (by rw [←EC];exact hv))))
theorem M7:∀{names:IG} {us:II},us.length=names.length→(∀(j:Nat) v,us[j]? =some v→∃x t,names[j]? =some x∧v=Value.str x t)→StrsAre us names
 |[],[],_,_=>.nil
 |[],_::_,h,_=>by simp at h
 |_::_,[],h,_=>by simp at h
 |x::names,u::us,h,a=>by
  obtain ⟨y,t,e1,e2⟩:=a 0 u rfl
  simp at e1
  subst e1 e2
  refine .cons _ t (M7 (by simpa using h) fun j v hv=>?_)
  have:=a (j+1) v (by simpa using hv)
  simpa using this
end
section
variable {X:Cx}
def Aka:IP→Hp→VK→Prop:=fun xs H Q=>match xs with
 |[.ref d]=>∃(kvs:List (Bg×V)) (names:IG),H d=some (.dK kvs)∧kvs.map (·.1)=names.map Sum.inr∧names.length<64∧names.Nodup∧∀D,H D=none→Q (.ref D) (upd H D (.lst ((Oc names).map V.str)))
 |_=>False
theorem Aad (hc:X.calm=true:=by rfl):Df X (.builtin "sorted") Aka:=by
 intro pins s σ H xs us Q I r h
 match xs,h with
 | [.ref d],⟨kvs,names,e,hk,h64,nd,q⟩=>
  obtain ⟨u,rfl,ru⟩:=r.one
  cases (show u=Value.ref d from ru)
  obtain ⟨z,lo,vs,rel,dd⟩:=Z2 I.hok e
  have kk:=rel.keys
  have kl:=rel.length
  obtain ⟨o,es,ep,r1⟩:=dd
  have at':s.heap.DictAt (A5 X.prog X.w) d vs ep:=⟨o,es,r1⟩
  have nl:kvs.length=names.length:=by
   have:=congrArg List.length hk
   simpa using this
  have hh:=I.ok.hd hc
  refine Calls.call_function_entry kind_sorted plain_sorted entry_sorted (args_sorted1 _) ?_
  unfold Builtin.«sorted»
  refine AA (m:=checkCount "sorted" 1 1 _) (AC (AA (Ads (by simp [hh]) at' lo (by omega) fun xs g tk keep lg hl hg=>?_)))
  have sa:StrsAre xs names:=M7 (by omega) fun j v hv=>by
   obtain ⟨k,x,h1,h2⟩:=hg j v hv
   have h3:(vs.map (·.1))[j]? =some k:=by rw [BE,h1];rfl
   rw [←kk,hk,BE] at h3
   cases hn:names[j]? with
   |none=>
    rw [hn] at h3
    cases h3
   | some y=>
    rw [hn] at h3
    cases h3
    rcases Bz (show Nc (Sum.inr y) v=true from h2) with ⟨i,t,e1,_⟩|⟨y',t,e1,e2⟩
    ·cases e1
    ·cases e1
     exact ⟨y,t,rfl,e2⟩
  refine AA (GK ?_ (by omega))
  have hoL:(g.push (seqObj "list" xs.toArray 0)).get? g.objs.size=some (seqObj "list" xs.toArray 0):=AJ _ rfl
  refine AA (DQ (wpAny_call_entry slot_list_sort ⟨_,hoL,rfl⟩ entry_list_sort (list_sort_treeK strKind_oneLt hoL sa.keysOf (fun v1 v2 r e=>keyKind_strs (by rw [←e];exact sa)) (by omega) fun st' a1 a2=>⟨_,rfl,AC ⟨_,rfl,?_⟩⟩) (args_list_sort _)))
  obtain ⟨ys,b1,b2,b3⟩:=sorted_out_str sa a1 a2
  obtain ⟨n,hn⟩:=sortedHeap_at (out:=(arrOf st').map (·.2)) hoL
  have ey:ys=Oc names:=F6 (Lb (Rl b3) (b2.nodup_iff.mpr nd)) (C2 _) fun x=>by rw [b2.mem_iff,Eg]
  subst ey
  have keep2:∀b ob,s.heap.get? b=some ob→(sortedHeap (g.push (seqObj "list" xs.toArray 0)) g.objs.size xs ((arrOf st').map (·.2))).get? b=some ob:=fun b ob e=>by
   have hb:=AK (keep b ob e)
   rw [sortedHeap_old (BC hb) (by rw [CL];exact CS hb)]
   exact AB _ (keep b ob e)
  have I2:=I.laid (t':=tk) (h':=sortedHeap (g.push (seqObj "list" xs.toArray 0)) g.objs.size xs ((arrOf st').map (·.2))) (a:=g.objs.size) (o:=.lst ((Oc names).map V.str)) keep2 (EL lg) ⟨by rw [AE,b2.length_eq];omega,((arrOf st').map (·.2)).toList,n,Og b1,by rw [hn]⟩
  exact ⟨.ref g.objs.size,_,I2,rfl,q _ (I.hok.fresh (EL lg))⟩
end
inductive K0 (gs:IQ)(n:Str):Str→Prop where
 |here:K0 gs n n
 |step {x y:Str}:K0 gs n x→y∈Il x gs→K0 gs n y
theorem Y2 {gs:IQ}{n:Str}{l:IG}(h0:n∈l)(hc:∀x∈l,∀y∈Il x gs,y∈l){x:Str}(h:K0 gs n x):x∈l:=by
 induction h with
 |here=>exact h0
 |step _ hy ih=>exact hc _ ih _ hy
theorem K0.nm {gs:IQ}{n:Str}{nm:IG}(hn:n∈nm)(hm:∀g∈gs,g.a∈nm∧g.b∈nm){x:Str}(h:K0 gs n x):x∈nm:=Y2 hn (fun _ _ y hy=>Sg hm hy) h
end Lw
end
section
namespace Lw
open PySem PySem.Spec PyProof.Rows L2
section
variable {X:Cx}
theorem Ahs {pins:List (IC×Obj)}{σ:L2.St}{H:Hp}{s:IB}{a:IC}{kvs:List (Bg×V)}{o:Obj}(I:Aw X pins σ H s)(ha:H a=some (.dK kvs))(ho:s.heap.get? a=some o):Aw X pins σ (upd H a (.frz o (.dK kvs))) s:=by
 have old:∀b u,H b=some u→b≠a→upd H a (.frz o (.dK kvs)) b=some u:=fun b u e n=>by rw [Am n];exact e
 refine I.step (g':=s.gens) (d':=s.drawn) (t':=s.toks) (h':=s.heap) (ch:=[]) (fun _ z=>nomatch z) (fun b o _ _ _ e _=>e) (fun b o _ _ _ e _=>⟨o.slots,e⟩) (fun b u _ e n=>?_) (fun b o _ e=>⟨o,e⟩) (fun b xs e=>old b _ e ?_) (fun b ob u e=>old b _ e ?_)
  (fun b ps e=>⟨#[],by rw [old b _ e (fun z=>by rw [z,ha] at e;cases e)];simp⟩) (fun m hm=>hm) (fun b u e=>?_) I.bare
 ·rw [Am (fun z=>by rw [z,ha] at n;cases n)]
  exact n
 ·intro z
  rw [z,ha] at e
  cases e
 ·intro z
  rw [z,ha] at e
  cases e
 ·have ho':∀b c,H b=some (.own c)→upd H a (.frz o (.dK kvs)) b=some (.own c):=fun b c e=>old b _ e fun z=>by rw [z,ha] at e;cases e
  have ht':∀b xs,H b=some (.tup xs)→upd H a (.frz o (.dK kvs)) b=some (.tup xs):=fun b xs e=>old b _ e fun z=>by rw [z,ha] at e;cases e
  by_cases hb:b=a
  ·subst hb
   rw [Ac] at e
   cases e
   exact ⟨ho,(I.hok b _ ha).stay (fun c v _ q=>q) (fun c q=>ho' c _ q) ht'⟩
  ·rw [Am hb] at e
   exact (I.hok b u e).stay (fun c v _ q=>q) (fun c q=>ho' c _ q) ht'
end
end Lw
end
section
namespace Lw
open PySem PySem.Spec PyProof.Rows L2
theorem Ag2 {kvs:List (Bg×V)}{vs:List (Bg×IA)}(r:KV kvs vs):A6 (kvs.map (·.2)) (vs.map (·.2)):=by
 unfold KV at r
 induction r with
 |nil=>exact .nil
 |cons h _ ih=>exact .cons h.2 ih
def Ald (td:TE):TE:=fun σ H Q=>td σ H fun x H1=>∃(d:IC) (kvs:List (Bg×V)),x=.ref d∧Rd H1 d (.dK kvs)∧∀D H',Aj H1 H'→H1 D=none→H' D=some (.lst (kvs.map (·.2)))→Q (.ref D) H'
section
variable {X:Cx}
theorem Vw {o:Expr}{td:TE}{p apos cpos pos:Pos}(hg:Gl X "list")(hm:X.mg "list"=none)(ho:PE X o td)(hcalm:X.calm=true)
  (hbase:attributeBase o "values" X.env (eval o X.env)=eval o X.env:=by rfl) (hline:(apos.endLine==cpos.line)=true:=by rfl) :
  PE X (.Call (.Name "list" p) [.Call (.Attribute o "values" apos) [] [] cpos] [] pos) (Ald td):=by
 intro pins s σ H Q I h
 refine Call_ (Gi I hg hm PyProof.Rows.boot_list (DH ?_))
 refine FQ ?_
 refine wpAny_Call_method0_late hbase hline (Bo (ho pins s σ H _ I h) fun u s1 ⟨x,H1,I1,rx,d,kvs,ex,hd,q⟩=>?_)
 subst ex
 obtain rfl:u=Value.ref d:=rx
 obtain ⟨t1,t2,lo⟩:=Acs I1 (.inl ⟨kvs,hd⟩)
 obtain ⟨z,_,vs,rel,dd⟩:=O3 I1.hok hd
 refine ⟨"dict","dict.values",PySem.F.plainAttrs_dict,PySem.F.slot_dict_values,PySem.F.type_dict_values,t1,t2,Calls.callWith_builtin rfl (PySem.evalArgs_none ?_)⟩
 refine call_meetsIn PySem.F.slot_dict_values t1 PySem.F.entry_dict_values (PySem.F.args_dict_values_1 _) (meets_dict_values (A5 X.prog X.w) d lo) ⟨⟨vs,dd⟩,FZ ?_⟩
 obtain ⟨o',es,ep,r1⟩:=dd
 have at':s1.heap.DictAt (A5 X.prog X.w) d vs ep:=⟨o',es,r1⟩
 have kl:=rel.length
 have sz:(s1.heap.push { cls:=.type "dict_values",data:=.fields #[.ref d] }).objs.size=s1.heap.objs.size+1:=size_push' _ _
 refine PySem.W.kdl_call (s:={ s1 with heap:=s1.heap.push { cls:=.type "dict_values",data:=.fields #[.ref d] } }) (PySem.W.kdl_values (knd:=A5 X.prog X.w) (kvs:=vs) (ep:=ep) (r:=s1.heap.objs.size) (d:=d)) (I1.ok.hd hcalm) ⟨⟨_,AJ _ rfl,rfl,rfl⟩,at'.push _⟩ (by omega) fun h' tk acc c keep hS it=>?_
 have ea:acc.toList=vs.map (·.2):=PySem.W.kdl_vals_eq acc.toList (by rw [BS];exact it.1) fun j v hv=>it.2 j v (by rw [←EC];exact hv)
 have hD:H1 (s1.heap.objs.size+1)=none:=I1.hok.fresh (DW _)
 rw [sz] at hS ⊢
 refine ⟨.ref (s1.heap.objs.size+1),_,I1.laid (a:=s1.heap.objs.size+1) (o:=.lst (kvs.map (·.2))) (t':=tk) (fun b ob eb=>keep b ob (AB _ eb)) (DW _) (show Bj X.prog X.w _ h' _ (.lst (kvs.map (·.2))) from ⟨by rw [AE];exact z,vs.map (·.2),c,Ag2 rel,?_⟩),rfl,q _ _ (Ah hD) hD Ac⟩
 rw [hS,←ea]
theorem Aej {pins:List (IC×Obj)}{σ:L2.St}{H:Hp}{s:IB}{a:IC}{kvs:List (Bg×V)}{o:Obj}(I:Aw X pins σ H s)(ha:H a=some (.frz o (.dK kvs)))(h0:∀o u,X.H₀ a≠some (.frz o u)):Aw X pins σ (upd H a (.dK kvs)) s:=by
 have ne:∀{b:IC},H b=none→b≠a:=fun e z=>by rw [z,ha] at e;cases e
 have old:∀b u,H b=some u→b≠a→upd H a (.dK kvs) b=some u:=fun b u e n=>by rw [Am n];exact e
 have nn:∀{b:IC},H b=none→upd H a (.dK kvs) b=none:=fun e=>by rw [Am (ne e)];exact e
 refine { ok:=I.ok,os:=I.os,bare:=I.bare,base:=?_,loc:=I.loc,cell:=I.cell,free:=nn I.free,freeC:=fun x c e=>nn (I.freeC x c e),pin:=fun p hp=>?_,hok:=fun b u e=>?_,len:=I.len }
 ·refine { keep:=I.base.keep,slot:=I.base.slot,free:=fun b o e n x=>nn (I.base.free b o e n x),there:=I.base.there,tups:=fun b xs e=>old b _ (I.base.tups b xs e) fun z=>?_,frzs:=fun b o u e=>old b _ (I.base.frzs b o u e) fun z=>?_,tbls:=fun b ps e=>?_ }
  ·have:=I.base.tups b xs e
   rw [z,ha] at this
   cases this
  ·exact h0 o u (z▸e)
  ·obtain ⟨more,e'⟩:=I.base.tbls b ps e
   exact ⟨more,old b _ e' fun z=>by rw [z,ha] at e';cases e'⟩
 ·obtain ⟨p1,p2,p3⟩:=I.pin p hp
  exact ⟨p1,nn p2,p3⟩
 ·have ho':∀b c,H b=some (.own c)→upd H a (.dK kvs) b=some (.own c):=fun b c e=>old b _ e fun z=>by rw [z,ha] at e;cases e
  have ht':∀b xs,H b=some (.tup xs)→upd H a (.dK kvs) b=some (.tup xs):=fun b xs e=>old b _ e fun z=>by rw [z,ha] at e;cases e
  by_cases hb:b=a
  ·subst hb
   rw [Ac] at e
   cases e
   have:=(show Bj X.prog X.w H s.heap b (.frz o (.dK kvs)) from I.hok b _ ha)
   exact (show Bj X.prog X.w H s.heap b (.dK kvs) from this.2).stay (fun c v _ q=>q) (fun c q=>ho' c _ q) ht'
  ·rw [Am hb] at e
   exact (I.hok b u e).stay (fun c v _ q=>q) (fun c q=>ho' c _ q) ht'
def Aop (H0:Hp)(te:TE):TE:=fun σ H Q=>te σ H fun v H'=>∃a o kvs,H' a=some (.frz o (.dK kvs))∧(∀o u,H0 a≠some (.frz o u))∧Q v (upd H' a (.dK kvs))
theorem Aht {e:Expr}{te:TE}(he:PE X e te):PE X e (Aop X.H₀ te):=by
 intro pins s σ H Q I h
 refine Bo (he pins s σ H _ I h) fun v s1 ⟨x,H1,I1,rx,a,o,kvs,ea,h0,q⟩=>?_
 exact ⟨x,_,Aej I1 ea h0,rx,q⟩
def Aly (a:IC)(o:Obj)(ks:List Bg):It:=
 ⟨fun i H=>(∃kvs,H a=some (.frz o (.dK kvs))∧kvs.map (·.1)=ks)∧i<ks.length,
  fun i H v H'=>H'=H∧∃x,ks[i]? =some x∧v=kV x,
  fun i H=>(∃kvs,H a=some (.frz o (.dK kvs))∧kvs.map (·.1)=ks)∧ks.length≤i⟩
theorem Yf {P:IE}{w:IF}{K:KKf}{tg:Expr}{it a:IC}{o:Obj}{names:List Bg}{es:Array DictEntry}{ep:Nat}(ho:o.data=.dict es ep) :
  Wz P w K tg (Aly a o names) [it] it (fun i h=>h.IsKeyIter it a i names.length ep) where
 mem:=by simp
 obj:=fun i h Z c hc=>by
  have hc:c=it:=by simpa using hc
  subst hc
  obtain ⟨o,e,_,d⟩:=Z
  exact ⟨o,e,fun v z=>by rw [d] at z;cases z⟩
 keep:=fun i h h' Z k=>by
  obtain ⟨o,e,r⟩:=Z
  exact ⟨o,k it (by simp) o e,r⟩
 item:=by
  intro X hP hw hK hc i pins s σ H E I hf Z hg
  subst hP hw hK
  obtain ⟨⟨kvs,e,hk⟩,hi⟩:=hg
  obtain ⟨e0,z,lo,vs,rel,dd⟩:=(show Bj X.prog X.w H s.heap a (.frz o (.dK kvs)) from I.hok a _ e)
  have kk:=rel.keys
  have kl:=rel.length
  have nl:kvs.length=names.length:=by
   have:=congrArg List.length hk
   simpa using this
  obtain ⟨o',es',ep',r0,r1,r2,r3⟩:=dd
  rw [e0] at r0
  cases r0
  rw [ho] at r2
  cases r2
  have at':s.heap.DictAt (A5 X.prog X.w) a vs ep:=⟨o,es,e0,r1,ho,r3⟩
  have vl:vs.length=names.length:=by omega
  have hx:vs[i]? =some (vs[i]'(by omega)):=AD (by omega)
  generalize vs[i]'(by omega)=kv at hx
  obtain ⟨k,u⟩:=kv
  have h3:(vs.map (·.1))[i]? =some k:=by rw [BE,hx];rfl
  rw [←kk,hk] at h3
  have hn:names[i]? =some names[i]:=AD hi
  have hkn:k=names[i]:=by
   rw [hn] at h3
   exact (Option.some.inj h3).symm
  have Z:s.heap.IsKeyIter it a i vs.length ep:=by rw [vl];exact Z
  refine wpAny_pyNext_dict_item Z at' hx fun key g hkey hit sb=>⟨_,rfl,?_⟩
  refine letGo_keyiter (s':={ s with heap:=g }) hit ?_
  have I1:Aw X pins σ H { s with heap:=g }:=Mg I (t':=s.toks) (fp:=[it]) (fun c o hc e=>sb.extBut c o (fun x=>hc (by simp [x])) e) hf
  rcases Bz (show Nc k key=true from hkey) with ⟨i',t,e1,e2⟩|⟨y',t,e1,e2⟩
  ·refine ⟨.int i',H,I1,⟨t,e2⟩,⟨rfl,_,h3,by rw [e1];rfl⟩,?_,fun b hb=>(hf b hb).1⟩
   rw [←vl]
   exact hit
  ·refine ⟨.str y',H,I1,⟨t,e2⟩,⟨rfl,_,h3,by rw [e1];rfl⟩,?_,fun b hb=>(hf b hb).1⟩
   rw [←vl]
   exact hit
 done:=by
  intro X hP hw hK hc i pins s σ H E I hf Z hg
  subst hP hw hK
  obtain ⟨⟨kvs,e,hk⟩,hi⟩:=hg
  obtain ⟨e0,z,lo,vs,rel,dd⟩:=(show Bj X.prog X.w H s.heap a (.frz o (.dK kvs)) from I.hok a _ e)
  have kl:=rel.length
  have nl:kvs.length=names.length:=by
   have:=congrArg List.length hk
   simpa using this
  obtain ⟨o',es',ep',r0,r1,r2,r3⟩:=dd
  rw [e0] at r0
  cases r0
  rw [ho] at r2
  cases r2
  have at':s.heap.DictAt (A5 X.prog X.w) a vs ep:=⟨o,es,e0,r1,ho,r3⟩
  have vl:vs.length=names.length:=by omega
  have Z:s.heap.IsKeyIter it a i vs.length ep:=by rw [vl];exact Z
  refine wpAny_pyNext_dict_end (I.ok.hd hc) Z at' (HN (by omega)) fun g kp=>⟨rfl,?_⟩
  exact Mg I (t':=s.toks) (fp:=[it]) (fun c o hc e=>kp c o (fun x=>hc (by simp [x])) e) hf
 self:=fun _ _ _ _ _ Z h=>wpAny_pyIter_keyiter Z h
def Akq (te:TE):TI:=fun σ H R=>te σ H fun x H1=>∃a kvs,x=.ref a∧H1 a=some (.dK kvs)∧∀o,R (Aly a o (kvs.map (·.1))) (upd H1 a (.frz o (.dK kvs)))
theorem Aer {tg l:Expr}{te:TE}(hl:PE X l te):PI X tg l (Akq te):=by
 intro pins s σ H R I h
 refine Bo (hl pins s σ H _ I h) fun v s1 ⟨x,H1,I1,r1,q1⟩=>?_
 obtain ⟨a,kvs,e,ea,q⟩:=q1
 subst e
 cases r1
 obtain ⟨z,lo,vs,rel,dd⟩:=Z2 I1.hok ea
 have kl:=rel.length
 obtain ⟨o,es,ep,r0,r1,r2,r3⟩:=dd
 have I2:=Ahs I1 ea r0
 have at':s1.heap.DictAt (A5 X.prog X.w) a vs ep:=⟨o,es,r0,r1,r2,r3⟩
 refine wpAny_pyIter_dict lo at' ?_
 refine ⟨s1.heap.objs.size,[s1.heap.objs.size],_,_,_,rfl,I2.kept (t':=s1.toks) fun b o e=>AB _ e,Yf (a:=a) (names:=kvs.map (·.1)) (ep:=ep) r2,⟨_,AJ _ rfl,rfl,?_⟩,fun b hb=>?_,q o⟩
 ·show Data.fields _=Data.fields _
  rw [show vs.length=(kvs.map (·.1)).length by rw [AE];omega]
  rfl
 ·have e:b=s1.heap.objs.size:=by simpa using hb
  subst e
  exact I2.fpOk (AF _) (I2.hok.fresh (AF _))
theorem V6 {a:IC}{o:Obj}{kvs:List (Bg×V)}{g:TG}{tc:TT}{te:TE}{k:Nat}{js:IM}{σ:L2.St}{H1:Hp}{Q:VK}(R:Hp→Bg→V→Prop)(up:∀m y H H',Kt H H'→R H m y→R H' m y)(c:Bg→Bool)
  (hz:kvs.length≤1000) (hx:H1 a=some (.frz o (.dK kvs)))
  (hs:∀x H2,x∈kvs.map (·.1)→Aj H1 H2→∀(P:VK) (P':Hp→Prop),(c x=true→∀y H3,Aj H2 H3→R H3 x y→P y H3)→(c x=false→∀H3,Aj H2 H3→P' H3)→g (kV x) (List.replicate k none++capσ js σ) H2 fun σ2 H3=>σ2.drop k=capσ js σ∧tc σ2 H3 fun b H4=>Br b (te σ2 H4 P) (P' H4))
  (hq:∀D H' ys,Aj H1 H'→H1 D=none→H' D=some (.lst ys)→Az (R H') ((kvs.map (·.1)).filter c) ys→Q (.ref D) H'):Mu (Aly a o (kvs.map (·.1))) g tc te k js σ H1 Q:=by
 unfold Mu
 intro D hD
 refine ⟨fun i m H=>m=(kvs.map (·.1)).length-i∧i≤(kvs.map (·.1)).length∧Aj H1 H∧∃ys,H D=some (.lst ys)∧Az (R H) (((kvs.map (·.1)).take i).filter c) ys,⟨(kvs.map (·.1)).length,by simp,BK _,Ah hD,[],Ac,.nil⟩,?_⟩
 rintro i m H ⟨rfl,hi,sm,ys,hH,ar⟩
 have sq:=sm _ _ hx
 by_cases hlt:i<(kvs.map (·.1)).length
 ·refine .inr ⟨⟨⟨kvs,sq,rfl⟩,hlt⟩,fun v H' y=>?_⟩
  obtain ⟨rfl,x,hxi,rfl⟩:=y
  have yl:ys.length<sizeLine:=by
   rw [←ar.len]
   refine BO (DE _ _) ?_
   rw [CH]
   exact BO (GP _ _) (AV hlt (AI (by rw [AE];exact hz) (by decide)))
  refine hs x _ (AN hxi) sm _ _ (fun hc y H3 s3 r3=>⟨ys,s3 _ _ hH,yl,(kvs.map (·.1)).length-(i+1),by omega,rfl,hlt,B6 (sm.trans s3) hD,ys++[y],Ac,?_⟩) fun hc H3 s3=>⟨(kvs.map (·.1)).length-(i+1),by omega,rfl,hlt,sm.trans s3,ys,s3 _ _ hH,?_⟩
  ·have kt:Kt H3 (upd H3 D (.lst (ys++[y]))):=Mw (s3 _ _ hH)
   rw [BY,hxi,GW]
   have ef:(Option.toList (some x)).filter c=[x]:=by simp [hc]
   rw [ef]
   exact (ar.imp fun v y r=>up v y _ _ ((Bq s3).trans kt) r).snoc (up _ _ _ _ kt r3)
  ·rw [BY,hxi,GW]
   have ef:(Option.toList (some x)).filter c=[]:=by simp [hc]
   rw [ef,CJ]
   exact ar.imp fun v y r=>up v y _ _ (Bq s3) r
 ·have e:i=(kvs.map (·.1)).length:=by omega
  subst e
  rw [CO] at ar
  exact .inl ⟨⟨⟨kvs,sq,rfl⟩,AF _⟩,hq D _ ys sm hD hH ar⟩
theorem Abg (l:IC)(items:Array IA)(n:Nat)(b:IC)(items2:Array IA)(n2:Nat)(dd:Option IC)(sl:Array (IK))(hs0:¬(!items.isEmpty&&Builtin.List.listTooLong (items.size+items2.size))=true)(hs1:items.size≤sizeLine)(hs2:items.size+items2.size≤sizeLine+1) :
  Meets (Builtin.«list.extend» ⟨[.ref l,.ref b],[]⟩) (fun _ R s=>s.heap.get? l=some { cls:=.type "list",dict:=none,data:=.seq items n,slots:=#[] }∧s.heap.get? b=some { cls:=.type "tuple",dict:=dd,data:=.seq items2 n2,slots:=sl }∧R (.ok (.ret Value.none)) { s with heap:=s.heap.update l (Obj.mapSeq fun x=>x++items2),toks:=s.toks }):=
 .of_wp fun prog w A R s h=>by
  obtain ⟨hp,g,d,tk,os⟩:=s;obtain ⟨hl,hb,h⟩:=h;have f1:=AutoSeq1.idx_int;have f2:=AutoSeq1.sub_tuple_tuple;have f3:=AutoSeq1.sub_list_list;have f4:=AutoSeq1.sub_tuple_list;have f5:=AutoSeq1.sub_list_tuple
  have hz':(items++items2).size≤sizeLine+1:=by rw [Array.size_append];exact hs2
  wp_walk using (wpAny_updateSeq hl rfl (hz:=hs1) (_hz':=hz')),FF hl,FF hb
  exact ⟨_,rfl,h⟩
def Am0:V→IP→Hp→VK→Prop:=fun x vs H Q=>∃l b xs zs,x=.ref l∧vs=[.ref b]∧H l=some (.lst xs)∧H b=some (.tup zs)∧xs.length+zs.length≤sizeLine∧Q .non (upd H l (.lst (xs++zs)))
theorem Ag9:MtM X "list.extend" Am0:=by
 intro pins s σ H x vs v us Q I rx rv h
 obtain ⟨l,b,xs,zs,rfl,rfl,hH,hB,hz,q⟩:=h
 cases rx
 obtain ⟨u,rfl,ru⟩:=rv.one
 cases ru
 obtain ⟨z,its,n,r,hl,e⟩:=I.lstM hH
 obtain ⟨z2,its2,r2,⟨c2,d2,b2,l2⟩,f1,f2,n2,f3⟩:=(show Bj X.prog X.w H s.heap _ (.tup zs) from I.hok _ _ hB)
 simp only at f2 f3
 subst f2 f3
 have hl2:=r2.length
 have hsz:its.toArray.size+its2.toArray.size≤sizeLine:=by rw [AX,AX];omega
 have hlong:¬(!its.toArray.isEmpty&&Builtin.List.listTooLong (its.toArray.size+its2.toArray.size))=true:=by
  rw [Aet hsz,FB]
  exact BM
 refine call_meets F.slot_list_extend ⟨_,e,rfl⟩ F.entry_list_extend (F.args_list_extend_2 _ _)
  (Abg l its.toArray n b its2.toArray n2 d2 l2 hlong (by rw [AX];omega) (by omega)) ⟨e,f1,?_⟩
 refine ⟨.non,_,I.lset (its':=its++its2) hH e (by simp) (r.append r2) ?_,rfl,q⟩
 rw [AG]
 omega
end
end Lw
end
section
namespace Lw
open PySem PySem.Spec PyProof.Rows L2
def gt2 (x1 x2 y1 y2:Int):Bool:=decide (y1<x1∨x1=y1∧y2<x2)
theorem Re {prog:IE}{w:IF}{A:ID}{E:IA→IB→Prop}{s:IB}{a b:Int}{t u:Tok}{Q:IA→IB→Prop}(h:Q (.bool (decide (a>b))) s):wpAny (model prog w) A (richCompare .Gt (.int a t) (.int b u)) Q E s:=gt_int h
theorem Aa4 (l b:IC)(x1 x2 y1 y2:Int)(t1 t2 u1 u2 n n2:Nat)(dd dd2:Option IC)(sl sl2:Array (IK)) :
  Meets (Builtin.«tuple.__gt__» ⟨[.ref l,.ref b],[]⟩)
   (fun A R s=>s.heap.get? l=some { cls:=.type "tuple",dict:=dd,data:=.seq #[.int x1 t1,.int x2 t2] n,slots:=sl }∧s.heap.get? b=some { cls:=.type "tuple",dict:=dd2,data:=.seq #[.int y1 u1,.int y2 u2] n2,slots:=sl2 } ∧
    R (.ok (.ret (.bool (gt2 x1 x2 y1 y2)))) s):=
 .of_wp fun prog w A R s h=>by
  obtain ⟨hp,g,d,tk,os⟩:=s;obtain ⟨hl,hb,h⟩:=h
  have f2:=AutoSeq1.sub_tuple_tuple
  wp_walk using FF hl,FF hb,wpAny_forIn_list _ (fun Ep b s'=>b.1=none∧s'=⟨hp,g,d,tk,os⟩∧(Ep=[(Value.int x1 t1,Value.int y1 u1),(Value.int x2 t2,Value.int y2 u2)]∨(Ep=[(Value.int x2 t2,Value.int y2 u2)]∧x1=y1)∨(Ep=[]∧x1=y1∧x2=y2))) _
  case turn=>
   rintro ⟨y,x⟩ Ep b s' ⟨hb',rfl,hz⟩
   rcases hz with hz|⟨hz,e1⟩|⟨hz,_⟩
   ·injection hz with hyx hrest
    injection hyx with hy hx
    subst hy hx
    refine AA (MeetsSeq.EqGives.int x1 y1 t1 u1 _ _ _ _ _ _ ?_)
    cases c:(x1==y1) with
    |true=>
     have c:x1=y1:=by simpa using c
     wp_walk
     exact ⟨rfl,rfl,.inr (.inl ⟨hrest,c⟩)⟩
    | false=>
     have c:¬x1=y1:=by simpa using c
     have e:decide (x1>y1)=gt2 x1 x2 y1 y2:=by
      unfold gt2
      exact GI.mpr ⟨.inl,fun h=>h.resolve_right fun z=>c z.1⟩
     wp_walk using Re
     exact ⟨_,rfl,by rw [e];exact h⟩
   ·injection hz with hyx hrest
    injection hyx with hy hx
    subst hy hx
    refine AA (MeetsSeq.EqGives.int x2 y2 t2 u2 _ _ _ _ _ _ ?_)
    cases c:(x2==y2) with
    |true=>
     have c:x2=y2:=by simpa using c
     wp_walk
     exact ⟨rfl,rfl,.inr (.inr ⟨hrest,e1,c⟩)⟩
    | false=>
     have c:¬x2=y2:=by simpa using c
     have e:decide (x2>y2)=gt2 x1 x2 y1 y2:=by
      unfold gt2
      exact GI.mpr ⟨fun h=>.inr ⟨e1,h⟩,fun h=>h.elim (fun z=>absurd z (by omega)) fun z=>z.2⟩
     wp_walk using Re
     exact ⟨_,rfl,by rw [e];exact h⟩
   ·cases hz
  case fin=>
   rintro ⟨b1,b2⟩ s' ⟨hb',rfl,hz⟩
   simp only at hb'
   subst hb'
   rcases hz with hz|⟨hz,_⟩|⟨_,e1,e2⟩
   ·cases hz
   ·cases hz
   ·have e:gt2 x1 x2 y1 y2=false:=BF (by omega)
    rw [e] at h
    wp_walk
    exact ⟨_,rfl,h⟩
  case h=>
   exact ⟨rfl,rfl,.inl rfl⟩
section
variable {X:Cx}
def Am9:R2:=fun x y H Q=>match x,y with
 |.ref a,.ref b=>∃x1 x2 y1 y2:Int,H a=some (.tup [.int x1,.int x2])∧H b=some (.tup [.int y1,.int y2])∧Q (.bl (gt2 x1 x2 y1 y2)) H
 |_,_=>False
theorem An1 (hu:X.A.units+64<cLine):Dh X (compareOp .Gt) Am9:=by
 intro pins s σ H x y v u Q I rx ry q
 cases x<;>cases y<;>first
  |exact False.elim q
  | (obtain ⟨x1,x2,y1,y2,h1,h2,q⟩:=q
     cases rx
     cases ry
     obtain ⟨_,its,r,⟨c1,d1,b1,l1⟩,e1,e2,n,e3⟩:=(show Bj X.prog X.w H s.heap _ (.tup [.int x1,.int x2]) from I.hok _ _ h1)
     obtain ⟨_,its2,r2,⟨c2,d2,b2,l2⟩,f1,f2,n2,f3⟩:=(show Bj X.prog X.w H s.heap _ (.tup [.int y1,.int y2]) from I.hok _ _ h2)
     obtain ⟨w1,w2,rfl,⟨t1,rfl⟩,⟨t2,rfl⟩⟩:=Lk r
     obtain ⟨w3,w4,rfl,⟨u1,rfl⟩,⟨u2,rfl⟩⟩:=Lk r2
     simp only at e2 e3 f2 f3
     subst e2 e3 f2 f3
     exact richCompare_meets_room (op:=.Gt) ⟨_,e1,rfl⟩ ⟨_,f1,rfl⟩ F.slot_tuple_gt F.entry_tuple_gt (F.args_tuple_gt_2 _ _) (Aa4 _ _ x1 x2 y1 y2 t1 t2 u1 u2 n n2 d1 d2 l1 l2)
       ⟨e1,f1,show Value.bool (gt2 x1 x2 y1 y2)≠Value.notImplemented∧_ from ⟨(fun x=>nomatch x),.bl _,H,I,rfl,q⟩⟩ (by omega))
end
end Lw
end
section
set_option autoImplicit false
namespace Lw
open PySem PySem.Spec PyProof.Rows L2
structure Hf (K:KKf)(Cs Ds:List IC)(m qual:Str)(st:Stmt)(ps:IG):Prop where
 ex:∃(f:IC) (fd:FuncData),Fun K m qual st f fd∧(∀C∈Cs,Afu K C m f)∧(∀C∈Ds,PySem.W.findCls K (.ref C) (.type "type") m=some (.val (.ref f)))∧Er K fd ps []
structure E6 (P:IE)(w:IF)(K:KKf)(mg:Str→IK)(base:Heap)(Cs Ds:List IC)(m:Str)(ps:IG)(k:Nat)(sp:Sp):Prop where
 ex:∃(f:IC) (fd:FuncData),(∀C∈Cs,Afu K C m f)∧(∀C∈Ds,PySem.W.findCls K (.ref C) (.type "type") m=some (.val (.ref f)))∧PySem.W.keepIn K (.ref f)=true∧Er K fd ps []∧Ib P w K mg base (Q0 P w) k f fd ps sp
section
variable {P:IE}{w:IF}{K:KKf}{mg:Str→IK}{base:Heap}{Cs Ds:List IC}
theorem Hf.calX {m qual:Str}{st:Stmt}{N ps:IG}{k:Nat}{sp:Sp}(d:Hf K Cs Ds m qual st ps)(S:Al N ps (Ad st))(len:∀vs H Q E,sp vs H Q E→vs.length=ps.length)
  (hbody:∀(f:IC) (cdv:IA) (A:ID) (outer:List Env) (s:IB) (H:Hp) (vs:IP) (Q:VK) (E:XK),Cg k (A.deeper (envOfC qual (Ad st) s.heap.objs.size f cdv))→sp vs H Q E →
   ∃t,Ny (Qu (Q0 P w) P w K mg base N qual (Ad st) f cdv A outer s H E) (Cd st) t∧t { nx:=fun _ H'=>Q .non H',rt:=Q } (Hw N vs) H):E6 P w K mg base Cs Ds m ps (k+1) sp:=by
 obtain ⟨f,fd,F,hm,hd,hb⟩:=d.ex
 obtain ⟨oc,od,kV,doc,pm,an,cdv,ct,osl,rfl,lk,hcd⟩:=F.ex
 exact ⟨f,_,hm,hd,F.kp,hb,Ae9 lk hcd S len fun A outer s H vs Q E hr hsp=>hbody f cdv A outer s H vs Q E hr hsp⟩
theorem Hf.cal {m qual:Str}{st:Stmt}{N ps:IG}{k:Nat}{sp:Sp}(d:Hf K Cs Ds m qual st ps)(S:Al N ps (Ad st))(len:∀vs H Q E,sp vs H Q E→vs.length=ps.length)
  (hbody:∀(f:IC) (cdv:IA) (A:ID) (outer:List Env) (s:IB) (H:Hp) (vs:IP) (Q:VK) (E:XK),Cg k (A.deeper (envOfC qual (Ad st) s.heap.objs.size f cdv))→sp vs H Q E →
   ∃t,Ny (Qu (Q0 P w) P w K mg base N qual (Ad st) f cdv A outer s H E).nox (Cd st) t∧t { nx:=fun _ H'=>Q .non H',rt:=Q } (Hw N vs) H):E6 P w K mg base Cs Ds m ps (k+1) sp:=
 d.calX S len fun f cdv A outer s H vs Q E hr hsp=>by
  obtain ⟨t,h,q⟩:=hbody f cdv A outer s H vs Q E hr hsp
  exact ⟨t,h.nox,q⟩
def MV (P:IE)(w:IF)(K:KKf)(mg:Str→IK)(base:Heap)(m:Str)(k:Nat)(T:List (IC×Sp)):Prop:=
 ∀p∈T,∃(f:IC) (fd:FuncData) (ps:IG),Uv K p.1∧Afu K p.1 m f∧Er K fd ps []∧Ib P w K mg base (Q0 P w) k f fd ps p.2
theorem Fx {m:Str}{k:Nat}:MV P w K mg base m k []:=fun p hp=>by cases hp
theorem Dz {C:IC}{m:Str}{ps:IG}{k k':Nat}{sp:Sp}{T:List (IC×Sp)}(c:E6 P w K mg base Cs Ds m ps k sp)(hC:C∈Cs)(cl:Uv K C)(hk:k≤k')(r:MV P w K mg base m k' T):MV P w K mg base m k' ((C,sp)::T):=fun p hp=>by
 rcases AS.mp hp with rfl|hp
 ·obtain ⟨f,fd,h1,_,_,h3,h4⟩:=c.ex
  exact ⟨f,fd,ps,cl,h1 C hC,h3,h4.mono hk⟩
 ·exact r p hp
end
def Sn (T:List (IC×Sp))(m:Str)(E:XK)(ta:TE)(t:TA):TE:=fun σ H Q=>ta σ H fun x H1=>∃a C dx fs sp,x=.ref a∧H1 a=some (.ins C dx fs)∧(C,sp)∈T∧fs.lookup m=none∧t σ H1 fun vs H2=>sp (.ref a::vs) H2 Q E
structure MkC (K:KKf)(C:IC):Prop where
 makes:PySem.W.makesIn K C=true
 kp:PySem.W.keepIn K (.ref C)=true
structure RdC (K:KKf)(C:IC):Prop where
 reads:PySem.W.readsIn K C (.type "type")=true
 ga:PySem.W.specialIn K (.ref C) "__getattribute__"=some (some (.builtin "type.__getattribute__"))
def Wu (C:IC)(sp:Sp)(E:XK)(t:TA):TE:=fun σ H Q=>t σ H fun vs H1=>∀x dx,H1 x=none→H1 dx=none→dx≠x →
 sp (.ref x::vs) (upd (upd H1 dx (.own x)) x (.ins C dx [])) (fun v H2=>v=.non∧Q (.ref x) H2) E
theorem Vh (C:IC)(sp:Sp)(E:XK)(t:TA):Wu C sp E t=Y3 C sp [] E t:=by
 funext σ H Q
 unfold Wu Y3
 simp only [CJ]
section
variable {X:Cx}{pos p:Pos}{Cs Ds:List IC}{E:XK}
theorem Anf {o e:Expr}{es:IJ}{ta:TE}{t:TA}{T:List (IC×Sp)}{m:Str}{k:Nat}{apos:Pos}{pl:Sem Bool}(he:PE X o ta)(hT:MV X.prog X.w X.K X.mg X.base m k T)(hr:Cg k X.A)(hx:Ez (Q0 X.prog X.w) X E)(ha:PA X (e::es) t)
  (hst:starEach (e::es) X.env=(false,eval e X.env)::starEach es X.env) (hpl:(backTo pos (starEach es X.env)).any (·.1)=false)
  (ht:eval (.Call (.Attribute o m apos) (e::es) [] pos) X.env=(do
   let ov ←eval o X.env
   standAt apos.atName
   let (f,first) ←holding [ov] (getMethod ov m pl)
   callWith pos f first (backTo pos (starEach (e::es) X.env)) (backToKw pos (keywordEach [] X.env)))) :
  PE X (.Call (.Attribute o m apos) (e::es) [] pos) (Sn T m E ta t):=by
 intro pins s σ H Q I h
 refine PySem.W.methodCall_KW (pl:=pl) (Bo (he pins s σ H _ I h) fun u s1 ⟨x,H1,I1,rx,a,C,dx,fs,sp,ex,ea,hC,l,q⟩=>?_) ht
 subst ex
 obtain rfl:u=Value.ref a:=rx
 obtain ⟨f,fd,ps,c,hm,hb,F⟩:=hT _ hC
 refine Qe I1 ea c hm l ?_
 refine GU (first:=[.ref a]) (h₀:=X.base) I.ok.mod.kin hm.kp (Bo (ha pos pins s1 σ H1 _ I1 q) fun us s2 ⟨vs,H2,I2,r,q2⟩=>⟨I2.kIn,?_⟩) hst hpl
 exact Uk (us:=.ref a::us) (vs:=.ref a::vs) (dvs:=[]) F hr hb .nil hx I2 (.cons rfl r) (by rw [CJ];exact q2)
theorem Ajw {o:Expr}{ta:TE}{T:List (IC×Sp)}{m:Str}{k:Nat}{apos:Pos}{pl:Sem Bool}(he:PE X o ta)(hT:MV X.prog X.w X.K X.mg X.base m k T)(hr:Cg k X.A)(hx:Ez (Q0 X.prog X.w) X E)
  (ht:eval (.Call (.Attribute o m apos) [] [] pos) X.env=(do
   let ov ←eval o X.env
   standAt apos.atName
   let (f,first) ←holding [ov] (getMethod ov m pl)
   callWith pos f first (backTo pos (starEach [] X.env)) (backToKw pos (keywordEach [] X.env)))) :
  PE X (.Call (.Attribute o m apos) [] [] pos) (Sn T m E ta X6):=by
 intro pins s σ H Q I h
 refine PySem.W.methodCall_KW (pl:=pl) (Bo (he pins s σ H _ I h) fun u s1 ⟨x,H1,I1,rx,a,C,dx,fs,sp,ex,ea,hC,l,q⟩=>?_) ht
 subst ex
 obtain rfl:u=Value.ref a:=rx
 obtain ⟨f,fd,ps,c,hm,hb,F⟩:=hT _ hC
 refine Qe I1 ea c hm l ?_
 exact PySem.W.callWith_K0 (first:=[.ref a]) I1.kIn hm.kp (Uk (us:=[.ref a]) (vs:=[.ref a]) (dvs:=[]) F hr hb .nil hx I1 (.cons rfl .nil) q)
theorem Hm {o e:Expr}{es:IJ}{ta:TE}{t:TA}{T:List (IC×Sp)}{m:Str}{k:Nat}{apos:Pos}{pl:Sem Bool}(he:PE X o ta)(hT:MV X.prog X.w X.K X.mg X.base m k T)(hr:Cg k X.A)(ha:PA X (e::es) t)
  (hst:starEach (e::es) X.env=(false,eval e X.env)::starEach es X.env:=by rfl) (hpl:(backTo pos (starEach es X.env)).any (·.1)=false:=by rfl)
  (ht:eval (.Call (.Attribute o m apos) (e::es) [] pos) X.env=(do
   let ov ←eval o X.env
   standAt apos.atName
   let (f,first) ←holding [ov] (getMethod ov m pl)
   callWith pos f first (backTo pos (starEach (e::es) X.env)) (backToKw pos (keywordEach [] X.env))):=by rfl) :
  PE X (.Call (.Attribute o m apos) (e::es) [] pos) (Sn T m E0 ta t):=Anf he hT hr Ke ha hst hpl ht
theorem Kz {o:Expr}{ta:TE}{T:List (IC×Sp)}{m:Str}{k:Nat}{apos:Pos}{pl:Sem Bool}(he:PE X o ta)(hT:MV X.prog X.w X.K X.mg X.base m k T)(hr:Cg k X.A)
  (ht:eval (.Call (.Attribute o m apos) [] [] pos) X.env=(do
   let ov ←eval o X.env
   standAt apos.atName
   let (f,first) ←holding [ov] (getMethod ov m pl)
   callWith pos f first (backTo pos (starEach [] X.env)) (backToKw pos (keywordEach [] X.env))):=by rfl) :
  PE X (.Call (.Attribute o m apos) [] [] pos) (Sn T m E0 ta X6):=Ajw he hT hr Ke ht
theorem Aom {x:Str}{C:IC}{ps:IG}{k k':Nat}{sp:Sp}{e:Expr}{es:IJ}{t:TA}(c:E6 X.prog X.w X.K X.mg X.base Cs Ds "__init__" ps k sp)(hC:C∈Cs)(M:MkC X.K C)(hr:Cg k' X.A)(hk:k+1≤k')(hg:Gl X x)(hm:X.mg x=some (.ref C))(hx:Ez (Q0 X.prog X.w) X E)
  (ha:PA X (e::es) t) (hdb:(x==("__debug__":Str))=false) (he:starEach (e::es) X.env=(false,eval e X.env)::starEach es X.env) (hpl:(backTo pos (starEach es X.env)).any (·.1)=false) :
  PE X (.Call (.Name x p) (e::es) [] pos) (Wu C sp E t):=by
 obtain ⟨f,fd,h1,_,_,h3,h4⟩:=c.ex
 rw [Vh]
 exact Ah7 ⟨M.makes,(h1 C hC).at_,(h1 C hC).fn,M.kp⟩ h4 (hr.mono hk) hg hm h3 .nil hx ha hdb he hpl
theorem Xo {x:Str}{C:IC}{ps:IG}{k k':Nat}{sp:Sp}{e:Expr}{es:IJ}{t:TA}(c:E6 X.prog X.w X.K X.mg X.base Cs Ds "__init__" ps k sp)(hC:C∈Cs)(M:MkC X.K C)(hr:Cg k' X.A)(hk:k+1≤k')(hg:Gl X x)(hm:X.mg x=some (.ref C))
  (ha:PA X (e::es) t) (hdb:(x==("__debug__":Str))=false:=by decide) (he:starEach (e::es) X.env=(false,eval e X.env)::starEach es X.env:=by rfl) (hpl:(backTo pos (starEach es X.env)).any (·.1)=false:=by rfl) :
  PE X (.Call (.Name x p) (e::es) [] pos) (Wu C sp E0 t):=Aom c hC M hr hk hg hm Ke ha hdb he hpl
structure IsC (K:KKf)(C:IC):Prop where
 ha:PySem.W.findIn K (.ref C) "__class__"=some (some (.builtin "object.__class__"))
 hn:PySem.W.specialIn K (.builtin "object.__class__") "__get__"=some (some (.builtin "getset_descriptor.__get__"))
 ht:PySem.W.takesIn K (.builtin "object.__class__")=some true
 hm:PySem.W.mroIn K C (.type "object")=some true
theorem ac_nil {p:IC→Prop}:∀C∈([]:List IC),p C:=fun _ h=>by cases h
theorem ac_cons {p:IC→Prop}{c:IC}{l:List IC}(h:p c)(r:∀C∈l,p C):∀C∈c::l,p C:=fun C hC=>by
 rcases AS.mp hC with rfl|hC
 ·exact h
 ·exact r C hC
end
end Lw
end
section
namespace Lw
open PySem PySem.Spec PyProof.Rows L2
def FnV (K:KKf)(mg:Str→IK)(x:Str):Prop:=∃f:IC,mg x=some (.ref f)∧PySem.W.nsIn K mainGlobals x=some (some (.ref f))
end Lw
end
section
set_option autoImplicit false
namespace Lw
open PySem PySem.Spec PyProof.Rows L2
section
variable {X:Cx}
def Anw:V→IP→Hp→VK→Prop:=fun x xs H Q=>match x,xs with
 |.str x,[.str y]=>(y.length==0)=false∧x.length≤5000∧∀T H',Aj H H'→H' T=some (.tup [.str (Txt.partition x y).1,.str (Txt.partition x y).2.1,.str (Txt.partition x y).2.2])→Q (.ref T) H'
 |_,_=>False
theorem Ajy:MtR X "str.partition" Anw:=by
 intro pins s σ H x xs v us Q I rx rs h
 match x,xs,h with
 | .str x,[.str y],⟨hy,hx,q⟩=>
  obtain ⟨t,rfl⟩:=rx
  obtain ⟨u,rfl,r1⟩:=Fv rs
  obtain ⟨t',rfl⟩:=r1
  have big:(5000:Nat)≤sizeLine:=by decide
  have hn:=I.hok.fresh (AF _)
  have out:∀(l:II) (tk:Nat) (zs:IP),zs.length=3→A6 zs l→(∀T H',Aj H H'→H' T=some (.tup zs)→Q (.ref T) H')→EP X pins σ Q (.ref s.heap.objs.size) { s with heap:=s.heap.push { cls:=.type "tuple",data:=.seq l.toArray },toks:=tk }:=by
   intro l tk zs hz hv q
   refine ⟨.ref _,_,I.laid (t':=tk) (o:=.tup zs) (fun b ob q=>AB _ q) (AF _) ?_,rfl,q _ _ (Ah hn) Ac⟩
   exact ⟨by rw [hz];decide,l,hv,IsTup.new _ _⟩
  refine call_meets F.slot_str_partition (EY _ _ _) F.entry_str_partition (F.args_str_partition_2 _ _) (meets_str_partition x y t t' hy (by omega)) ?_
  unfold Txt.partition at q
  revert q
  cases Builtin.Str.occurrences x y 0 x.length 1 with
  |nil=>exact fun q=>out _ _ [.str x,.str Str.empty,.str Str.empty] rfl (.cons ⟨_,rfl⟩ (.cons ⟨_,rfl⟩ (.cons ⟨_,rfl⟩ .nil))) q
  |cons i r=>exact fun q=>out _ _ [.str (Builtin.Str.strSub x 0 i),.str y,.str (Builtin.Str.strSub x (i+y.length) x.length)] rfl (.cons ⟨_,rfl⟩ (.cons ⟨_,rfl⟩ (.cons ⟨_,rfl⟩ .nil))) q
end
def Nx (P:IE)(w:IF)(K:KKf)(a:IC)(kvs:List (Bg×V)):Prop:=∃o vs,K.lookup a=some o∧o.IsDictOf (A5 P w) vs∧KV kvs vs∧(a==sysModules)=false
inductive DEs (w:IF):List DictEntry→List (Bg×IA)→Prop where
 |nil:DEs w [] []
 |cons {h:Int} {x:Str} {t:Tok} {v:IA} {l:List DictEntry} {m:List (Bg×IA)}:h=PySem.PyData.keyHash w.params x→DEs w l m→DEs w (⟨h,.str x t,v⟩::l) ((.inr x,v)::m)
theorem DEs.keys {P:IE}{w:IF}{l:List DictEntry}{m:List (Bg×IA)}(h:DEs w l m):KeysOf (A5 P w) l.toArray:=by
 induction h with
 |nil=>exact fun e he=>by simp at he
 |@cons h x t v l m hh _ ih=>
  intro e he
  rcases AS.mp (by simpa using he) with rfl|he
  ·exact ⟨.inr x,Jg P w x t,hh⟩
  ·exact ih e (by simpa using he)
theorem DEs.pairs {P:IE}{w:IF}{l:List DictEntry}{m:List (Bg×IA)}(h:DEs w l m):Pairs (A5 P w) l m:=by
 induction h with
 |nil=>exact .nil
 |cons _ _ ih=>exact .cons (Jg P w _ _) rfl ih
theorem dic_mk {P:IE}{w:IF}{K:KKf}{a:IC}{kvs:List (Bg×V)}{l:List DictEntry}{ep:Nat}{m:List (Bg×IA)}(p:K.lookup a=some ⟨.type "dict",none,.dict l.toArray ep,#[]⟩)(h:DEs w l m)(r:KV kvs m)(d:(m.map (·.1)).Nodup)(s:(a==sysModules)=false):Nx P w K a kvs:=
 ⟨_,m,p,⟨_,ep,⟨rfl,rfl,rfl⟩,rfl,h.keys,by simpa using h.pairs,d⟩,r,s⟩
def Ami (a:IC)(kvs:List (Bg×V))(td ty:TE):TE:=fun σ H Q=>td σ H fun x H1=>x=.ref a∧ty σ H1 fun y H2=>∃k v,y=kV k∧B4 kvs k=some v∧Q v H2
def Anl (a:IC)(kvs:List (Bg×V))(ty td:TE):TE:=fun σ H Q=>ty σ H fun y H1=>td σ H1 fun x H2=>∃k,x=.ref a∧y=kV k∧Q (.bl (B4 kvs k).isSome) H2
def Z8 (a:IC)(kvs:List (Bg×V))(ty td:TE):TE:=fun σ H Q=>ty σ H fun y H1=>td σ H1 fun x H2=>∃k,x=.ref a∧y=kV k∧Q (.bl (!(B4 kvs k).isSome)) H2
section
variable {X:Cx}{o i:Expr}{pos:Pos}{td ty:TE}{a:IC}{kvs:List (Bg×V)}
theorem Nx.at {pins:List (IC×Obj)}{σ:L2.St}{H:Hp}{s:IB}(D:Nx X.prog X.w X.K a kvs)(I:Aw X pins σ H s):∃vs,KV kvs vs∧s.heap.DictOf (A5 X.prog X.w) a vs∧(a==sysModules)=false:=by
 obtain ⟨o,vs,h1,h2,h3,h4⟩:=D
 exact ⟨vs,h3,Heap.dictOf_iff.mpr ⟨o,I.kIn _ _ h1,h2⟩,h4⟩
theorem Tx (D:Nx X.prog X.w X.K a kvs)(ho:PE X o td)(hi:PE X i ty)(hs:Alx i):PE X (.Subscript o i pos) (Ami a kvs td ty):=by
 intro pins s σ H Q I h
 refine Z7 PySem.F.slot_dict_getitem.lookup hs (Bo (ho pins s σ H _ I h) fun u s1 ⟨x,H1,I1,rx,ex,q1⟩=>Bo (hi pins s1 σ H1 _ I1 q1) fun iv s2 ⟨y,H2,I2,ry,k,v,ey,l,q2⟩=>?_)
 subst ex
 subst ey
 obtain rfl:u=Value.ref a:=rx
 obtain ⟨vs,rel,dd,hd⟩:=D.at I2
 obtain ⟨w',hw,rw'⟩:=G9.some_of (v:=v) (o:=valueAt vs k) (by rw [←l];exact rel.val k)
 exact ⟨dd.typeIs,wpAny_getItem_of (Li ry) dd.mapOf hw ⟨v,H2,I2.tok _,rw',q2⟩⟩
theorem Aky (D:Nx X.prog X.w X.K a kvs)(hi:PE X i ty)(ho:PE X o td):PC X .In i o (Anl a kvs ty td):=by
 intro pins s σ H Q I h
 refine Bo (hi pins s σ H _ I h) fun iv s1 ⟨y,H1,I1,ry,q1⟩=>Bo (ho pins s1 σ H1 _ I1 q1) fun u s2 ⟨x,H2,I2,rx,k,ex,ey,q2⟩=>?_
 subst ex
 subst ey
 obtain rfl:u=Value.ref a:=rx
 obtain ⟨vs,rel,dd,hd⟩:=D.at I2
 refine wpAny_in_of (Li ry) hd dd.mapOf ?_
 rw [←(rel.val k).isSome_eq]
 exact ⟨.bl _,H2,I2.tok _,rfl,q2⟩
theorem Abp (D:Nx X.prog X.w X.K a kvs)(hi:PE X i ty)(ho:PE X o td):PC X .NotIn i o (Z8 a kvs ty td):=by
 intro pins s σ H Q I h
 refine Bo (hi pins s σ H _ I h) fun iv s1 ⟨y,H1,I1,ry,q1⟩=>Bo (ho pins s1 σ H1 _ I1 q1) fun u s2 ⟨x,H2,I2,rx,k,ex,ey,q2⟩=>?_
 subst ex
 subst ey
 obtain rfl:u=Value.ref a:=rx
 obtain ⟨vs,rel,dd,hd⟩:=D.at I2
 refine wpAny_notIn_of (Li ry) hd dd.mapOf ?_
 rw [←(rel.val k).isSome_eq]
 exact ⟨.bl _,H2,I2.tok _,rfl,q2⟩
end
section
variable {X:Cx}{o i:Expr}{pos:Pos}{td ty:TE}{a:IC}{kvs:List (Bg×V)}
theorem Amm (D:Nx X.prog X.w X.K a kvs)(hi:PE X i ty)(ho:PE X o td)(hm:behindInMarks .In o=false):PT X (.Compare i [.In] [o] pos) (J3 (Anl a kvs ty td)):=by
 rw [Gw]
 exact S7 (Aky D hi ho) hm
theorem Ad9 (D:Nx X.prog X.w X.K a kvs)(hi:PE X i ty)(ho:PE X o td)(hm:behindInMarks .NotIn o=false):PT X (.Compare i [.NotIn] [o] pos) (J3 (Z8 a kvs ty td)):=by
 rw [Gw]
 exact S7 (Abp D hi ho) hm
end
inductive F8 (X:Cx)(k:Nat):List (Str×Sp)→Prop where
 |nil:F8 X k []
 |cons {x:Str} {ps:IG} {k0:Nat} {sp:Sp} {l:List (Str×Sp)}:Bc X.prog X.w X.K X.mg X.base x ps k0 sp→FnV X.K X.mg x→k0≤k→F8 X k l→F8 X k ((x,sp)::l)
def Um (K:KKf)(l:List (Str×Sp))(E:XK)(te:TE)(t:TA):TE:=fun σ H Q=>te σ H fun v H1=>∃(x:Str) (sp:Sp) (f:IC),(x,sp)∈l∧v=.ref f∧PySem.W.nsIn K mainGlobals x=some (some (.ref f))∧t σ H1 fun vs H2=>sp vs H2 Q E
theorem F8.get {X:Cx}{k:Nat}{l:List (Str×Sp)}(h:F8 X k l){x:Str}{sp:Sp}(hm:(x,sp)∈l):∃ps k0,Bc X.prog X.w X.K X.mg X.base x ps k0 sp∧FnV X.K X.mg x∧k0≤k:=by
 induction h with
 |nil=>cases hm
 | cons C v hk _ ih=>
  rcases AS.mp hm with e|hm
  ·cases e
   exact ⟨_,_,C,v,hk⟩
  ·exact ih hm
section
variable {X:Cx}{E:XK}
theorem Zh {fe:Expr}{k':Nat}{pos:Pos}{e:Expr}{es:IJ}{t:TA}{te:TE}{l:List (Str×Sp)}(C:F8 X k' l)(hr:Cg k' X.A)(hx:Ez (Q0 X.prog X.w) X E)(hn:PE X fe te)
  (ha:PA X (e::es) t) (ht:eval (.Call fe (e::es) [] pos) X.env=(do callWith pos (←eval fe X.env) [] (backTo pos (starEach (e::es) X.env)) (backToKw pos (keywordEach [] X.env)))) (he:starEach (e::es) X.env=(false,eval e X.env)::starEach es X.env) (hpl:(backTo pos (starEach es X.env)).any (·.1)=false) :
  PE X (.Call fe (e::es) [] pos) (Um X.K l E te t):=by
 intro pins s σ H Q I h
 rw [ht]
 refine AA (Bo (hn pins s σ H _ I h) fun u s1 ⟨w,H1,I1,r,x,sp,f,hm,ew,hf,q⟩=>?_)
 subst ew
 obtain ⟨ps,k0,C,v,hk⟩:=C.get hm
 obtain ⟨f0,fd,h1,h2,h3,h4,_⟩:=C.ex
 obtain ⟨f1,g1,g2⟩:=v
 rw [hf] at g2
 cases g2
 rw [h1] at g1
 cases g1
 have eu:u=.ref f:=r
 subst eu
 refine GU (h₀:=X.base) I1.ok.mod.kin h2 (Bo (ha pos pins s1 σ H1 _ I1 q) fun us s2 ⟨vs,H2,I2,r2,q2⟩=>⟨I2.kIn,?_⟩) he hpl
 exact Uk (h4.mono hk) hr h3 .nil hx I2 r2 (by rw [CJ];exact q2)
theorem Ado {y:Str}{k':Nat}{p pos:Pos}{e:Expr}{es:IJ}{t:TA}{te:TE}{l:List (Str×Sp)}(C:F8 X k' l)(hr:Cg k' X.A)(hx:Ez (Q0 X.prog X.w) X E)(hn:PE X (.Name y p) te)
  (ha:PA X (e::es) t) (he:starEach (e::es) X.env=(false,eval e X.env)::starEach es X.env:=by rfl) (hpl:(backTo pos (starEach es X.env)).any (·.1)=false:=by rfl) :
  PE X (.Call (.Name y p) (e::es) [] pos) (Um X.K l E te t):=Zh C hr hx hn ha rfl he hpl
theorem Aco {o i:Expr}{k':Nat}{p pos:Pos}{e:Expr}{es:IJ}{t:TA}{te:TE}{l:List (Str×Sp)}(C:F8 X k' l)(hr:Cg k' X.A)(hx:Ez (Q0 X.prog X.w) X E)(hn:PE X (.Subscript o i p) te)
  (ha:PA X (e::es) t) (he:starEach (e::es) X.env=(false,eval e X.env)::starEach es X.env:=by rfl) (hpl:(backTo pos (starEach es X.env)).any (·.1)=false:=by rfl) :
  PE X (.Call (.Subscript o i p) (e::es) [] pos) (Um X.K l E te t):=Zh C hr hx hn ha rfl he hpl
end
def Aqe (ta tb:TE):TE:=fun σ H Q=>ta σ H fun x H1=>match x with
 |.str z=>z.length≤sizeLine∧(z≠Str.ofString ""→Q (.str z) H1)∧(z=Str.ofString ""→tb σ H1 Q)
 |_=>False
theorem Anh {X:Cx}{a b:Expr}{ta tb:TE}{pos:Pos}(ha:PE X a ta)(hb:PE X b tb):PE X (.BoolOp .Or [a,b] pos) (Aqe ta tb):=by
 intro pins s σ H Q I h
 refine BoolOp_or (Bo (ha pins s σ H _ I h) fun v s1 ⟨x,H1,I1,r1,q1⟩=>?_)
 match x,q1 with
 | .str z,⟨hz,q1,q2⟩=>
  obtain ⟨t,rfl⟩:=r1
  have hl:=Md
  refine PySem.P.truthy_str (by omega) ?_
  by_cases e:z.length=0
  ·rw [show ((z.length:Int) != 0)=false by simp [e]]
   have ez:z=Str.ofString "":=by
    obtain ⟨⟨l⟩⟩:=z
    have:l.length=0:=e
    rw [CV.mp this]
    rfl
   exact G3 hb pins _ σ H1 Q (I1.tok _) (q2 ez)
  ·rw [show ((z.length:Int) != 0)=true by simp;omega]
   exact ⟨.str z,H1,I1.tok _,⟨_,rfl⟩,q1 fun ez=>e (by rw [ez];decide +kernel)⟩
theorem Ahx {X:Cx}{x:Str}{C:IC}{Cs Ds:List IC}{ps:IG}{k k':Nat}{sp:Sp}{p pos:Pos}(c:E6 X.prog X.w X.K X.mg X.base Cs Ds "__init__" ps k sp)(hC:C∈Cs)(M:MkC X.K C)(hr:Cg k' X.A)(hk:k+1≤k')(hg:Gl X x)(hm:X.mg x=some (.ref C))(hdb:(x==("__debug__":Str))=false:=by decide) :
  PE X (.Call (.Name x p) [] [] pos) (Wu C sp E0 X6):=by
 obtain ⟨f,fd,h1,_,_,h3,h4⟩:=c.ex
 rw [Vh]
 exact Afs ⟨M.makes,(h1 C hC).at_,(h1 C hC).fn,M.kp⟩ h4 (hr.mono hk) hg hm h3 .nil Ke hdb
end Lw
end
noncomputable section
open PySem PySem.Spec PyProof.Rows L2
namespace Lw
structure PB (X:Cx)(es:IJ)(t:TA):Prop where
 pa:PA X es t
 st:∀l,l <:+ es→starEach l X.env=l.map fun e=>(false,eval e X.env)
section
variable {X:Cx}{e:Expr}{es:IJ}{te:TE}{t:TA}
theorem Ajs:PB X [] X6:=⟨Ag,fun l h=>by
 rw [List.suffix_nil.mp h]
 rfl⟩
theorem Ai (ha:PE X e te)(hr:PB X es t)(hs:starEach (e::es) X.env=(false,eval e X.env)::starEach es X.env:=by rfl):PB X (e::es) (Aey te t):=⟨Ab ha hr.pa hs,fun l h=>by
 rcases List.suffix_cons_iff.mp h with rfl|h
 ·rw [hs,hr.st _ (List.suffix_refl _)]
  rfl
 ·exact hr.st l h⟩
theorem PB.he (h:PB X (e::es) t):starEach (e::es) X.env=(false,eval e X.env)::starEach es X.env:=by
 rw [h.st _ (List.suffix_refl _),h.st es (List.suffix_cons ..)]
 rfl
theorem PB.hpl (h:PB X (e::es) t)(pos:Pos):(backTo pos (starEach es X.env)).any (·.1)=false:=by
 rw [h.st es (List.suffix_cons ..)]
 unfold backTo
 rw [GD,GE,FY]
 intro x _
 exact BM
theorem Bf (ha:PE X e te)(hs:starEach [e] X.env=(false,eval e X.env)::starEach [] X.env:=by rfl):PB X [e] (Aey te X6):=Ai ha Ajs hs
theorem Bx {i j pos p}(ha:PE X e te):PE X (.Subscript e (.Constant (.int i) j p) pos) (tOp Amy te (tC (.int i))):=Co Anj ha Ae fun _ _=>rfl
theorem Gv {i j pos p}(ha:PE X e te):PE X (.Subscript e (.Constant (.int i) j p) pos) (tOp (Ug X.K) te (tC (.int i))):=Co Dd ha Ae fun _ _=>rfl
theorem A3 {pos}(ha:PE X e te):Ny X [.Return (some e) pos] (Amx te):=An (Aja ha)
theorem Af {pos p:Pos}{x:Str}{ps:IG}{k k':Nat}{sp:Sp}(C:Bc X.prog X.w X.K X.mg X.base x ps k sp)(hr:Cg k' X.A)(ha:PB X (e::es) t)(z:k≤k'∧Gl X x∧(x==("__debug__":Str))=false):PE X (.Call (.Name x p) (e::es) [] pos) (Aaf sp t):=Ak8 C hr z.1 z.2.1 ha.pa z.2.2 ha.he (ha.hpl pos)
theorem Av {pos p:Pos}{x:Str}{id:String}{r:IP→Hp→VK→Prop}(hc:Df X (.builtin id) r)(hm:X.mg x=none)(hv:bootBuiltins x=some (.builtin id))(ha:PB X (e::es) t)(z:Gl X x∧x≠"__name__"∧(x==("__debug__":Str))=false):PE X (.Call (.Name x p) (e::es) [] pos) (tCB r t):=Afv hc z.1 hm hv ha.pa z.2.1 z.2.2 ha.he (ha.hpl pos)
theorem Cb {pos p:Pos}{x:Str}{T:String}{r:IP→Hp→VK→Prop}(hc:Df X (.type T) r)(hm:X.mg x=none)(hv:bootBuiltins x=some (.type T))(ha:PB X (e::es) t)(z:Gl X x∧x≠"__name__"∧(x==("__debug__":Str))=false):PE X (.Call (.Name x p) (e::es) [] pos) (tCB r t):=Aaw hc z.1 hm hv ha.pa z.2.1 z.2.2 ha.he (ha.hpl pos)
theorem Ak {i:Nat}{x:Str}{pos pos':Pos}(hN:X.N.Nodup)(he:PE X e te)(z:X.N[i]? =some x∧Loc X.env.scope x∧swapsWith e (some (.Name x pos')) pos.line X.env=pure false∧(X.fn x=true∨X.env.scope.names.lookup x=some .local)):PS X (.Assign [.Name x pos'] e pos) (X7 te (Oz i)):=Ak9 hN z.1 z.2.1 he z.2.2.1 z.2.2.2
end
end Lw
end
section
set_option autoImplicit false
namespace Lw
open PySem PySem.Spec PyProof.Rows L2
section
variable {X:Cx}
def Aot (K:KKf):R2:=fun x y H Q=>match x,y with
 |.ref p,.int i=>∃xs,F5 K H p xs∧match Ael xs i with
  |some v=>Q v H
  |none=>False
 |_,_=>False
theorem Ajp:Wv X (Aot X.K):=by
 intro value slice pins s σ H x y v u Q I rx ry h hs
 cases x<;>cases y<;>first
  |exact False.elim h
  | (obtain ⟨xs,e,q⟩:=h
     cases z:Ael xs _ with
     | none=>
       rw [z] at q
       exact False.elim q
     | some w=>
       rw [z] at q
       exact X1 value slice pins s σ H _ _ v u Q I rx ry ⟨_,xs,_,w,rfl,rfl,e,Y5 z,q⟩ hs)
theorem Hg {e:Expr}{te:TE}{i j pos p}(ha:PE X e te):PE X (.Subscript e (.Constant (.int i) j p) pos) (tOp (Aot X.K) te (tC (.int i))):=Co Ajp ha Ae fun _ _=>rfl
def Amn (K:KKf):IP→Hp→VK→Prop:=fun xs H Q=>match xs with
 |[.ref p,.ty c]=>(∃xs,(H p=some (.tup xs)∨∃o,K.lookup p=some o∧o.cls=.type "tuple"))∧c="tuple"∧Q (.bl true) H
 |_=>False
theorem Ak6:Df X (.builtin "isinstance") (Amn X.K):=by
 intro pins s σ H xs us Q I r h
 match xs,h with
 | [.ref p,.ty c],⟨⟨xs,e⟩,hc,q⟩=>
  subst hc
  obtain ⟨u,w',rfl,r1,r2⟩:=Lk r
  cases (show w'=Value.type "tuple" from r2)
  rcases e with e|⟨o,h1,h2⟩
  ·exact Fl I r1 (.tup e) (G7 X.K (t:="tuple") (c:="tuple") rfl) fun tk=>⟨.bl true,H,I.tok _,rfl,q⟩
  ·cases (show u=Value.ref p from r1)
   exact CW PySem.W.kitx_tuple I.kIn ⟨o,I.kIn _ _ h1,h2⟩ (G7 X.K (t:="tuple") (c:="tuple") rfl) (fun z=>nomatch z) fun tk=>⟨.bl true,H,I.tok _,rfl,q⟩
end
def TuA (K:KKf)(H:Hp)(p:IC)(xs:IP):Prop:=H p=some (.tup xs)∨B9 K p xs
theorem TuA.sq {K:KKf}{H:Hp}{p:IC}{xs:IP}:TuA K H p xs→F5 K H p xs
 |.inl h=>F5.of h
 |.inr h=>h.sq H
theorem TuA.isi {K:KKf}{H:Hp}{p:IC}{xs:IP}:TuA K H p xs→∃xs,(H p=some (.tup xs)∨∃o,K.lookup p=some o∧o.cls=.type "tuple")
 |.inl h=>⟨_,.inl h⟩
 |.inr h=>⟨xs,.inr (let ⟨o,h1,h2,_⟩:=h.ty;⟨o,h1,h2⟩)⟩
theorem TuA.up {K:KKf}{H H':Hp}{p:IC}{xs:IP}(k:∀q ys,H q=some (.tup ys)→H' q=some (.tup ys)):TuA K H p xs→TuA K H' p xs
 |.inl h=>.inl (k _ _ h)
 |.inr h=>.inr h
end Lw
end
section
set_option autoImplicit false
namespace Lw
open PySem PySem.Spec PyProof.Rows L2
def Aih:II→Bool
 |.ref _::r=>Aih r
 |l=>l==vB
structure ExS (K:KKf)(C:IC):Prop where
 sa:PySem.W.findIn K (.ref C) "__setattr__"=some (some (.builtin "object.__setattr__"))
 po:(PySem.W.clsIn K C).any (fun cd=>Aih cd.mro)=true
 hd:PySem.W.hasDictIn K C=true
def Aao (K:KKf)(C f:IC):Bool:=match K.lookup C with
 |some ⟨.type "type",_,.cls cd,sl⟩=>(match cd.mro,sl.toList with
  |.ref C'::bm,[_,_,_,_,some (.builtin n),_]=>C'==C&&n=="ValueError.__new__"&&!cd.hasDel&&PySem.W.tailIn K vB bm&&PySem.W.nsOkIn K cd.ns&&PySem.W.nsIn K cd.ns "__init__"==some (some (.ref f))
  |_,_=>false)
 |_=>false
section
variable {X:Cx}{pins:List (IC×Obj)}{σ:L2.St}{H:Hp}{s:IB}{a C f:IC}
def W8 (K:KKf)(C:IC):Bool:=match PySem.W.findIn K (.ref C) "__init__" with
 |some (some (.ref f))=>Aao K C f
 |_=>false
structure ExI (K:KKf)(C:IC):Prop where
 ini:W8 K C=true
 kp:PySem.W.keepIn K (.ref C)=true
end
end Lw
end
section
namespace Lw
open PySem PySem.Spec PyProof.Rows L2
structure Are (K:KKf)(mg:Str→IK)(x:Str)(st:Stmt)(ps:IG):Prop where
 ex:∃(f:IC) (fd:FuncData) (oc:IA) (od:Option IC) (dV kV doc pm:IA) (an:Option IC) (cdv ct:IA) (osl:Array (IK)),
  fd=PySem.W.fnOf x x (Dm st) (Cd st) (Ad st) dV kV doc pm an cdv ct∧K.lookup f=some ⟨oc,od,.func fd,osl⟩∧PySem.W.codeIn K cdv x=true∧PySem.W.keepIn K (.ref f)=true∧mg x=some (.ref f)∧Er K fd ps []∧Er K fd ps [.none]
structure Ari (P:IE)(w:IF)(K:KKf)(mg:Str→IK)(base:Heap)(x:Str)(ps:IG)(k:Nat)(sp:Sp):Prop where
 ex:∃(f:IC) (fd:FuncData),mg x=some (.ref f)∧PySem.W.keepIn K (.ref f)=true∧Er K fd ps []∧Er K fd ps [.none]∧Ib P w K mg base (Q0 P w) k f fd ps sp ∧
  ∃(oc:IA) (od:Option IC) (osl:Array (IK)),K.lookup f=some ⟨oc,od,.func fd,osl⟩
end Lw
end
section
set_option autoImplicit false
namespace Lw
open PySem PySem.Spec PyProof.Rows L2
section
variable {X:Cx}{pins:List (IC×Obj)}{σ:L2.St}{H H':Hp}{s s':IB}
inductive Hs (X:Cx):List ExceptHandler→List (IC×TS)→Prop where
 |nil:Hs X [] []
 |cons {y:Str} {yp hpos:Pos} {b:Stmt} {su:List Stmt} {Dc:IC} {tu:TS} {hs:List ExceptHandler} {l:List (IC×TS)}:Gl X y→X.mg y=some (.ref Dc)→Cat X.K Dc→(∀v,Ny (cxM X v) (b::su) tu)→(y==("__debug__":Str))=false→Hs X hs l→Hs X (.ExceptHandler (some (.Name y yp)) none (b::su) hpos::hs) ((Dc,tu)::l)
def hQ (K:KKf)(C:IC)(D:Wr)(σ:L2.St)(H2:Hp):List (IC×TS)→Prop
 |[]=>False
 |(Dc,tu)::l=>∃b,PySem.W.mroIn K C (.ref Dc)=some b∧((b=true∧∀H3,Aj H2 H3→tu D σ H3)∨(b=false∧hQ K C D σ H2 l))
end
end Lw
end
section
namespace Lw
open PySem PySem.Spec PySem.W PyProof.Rows L2
section
variable {prog:IE}{w:IF}{A:ID}{E:IA→IB→Prop}{s:IB}{a:IC}{vs:II}
theorem Zl (vs:II):(vs.toArray.zip vs.toArray).map (·.2)=vs.toArray:=by
 refine Array.ext (by simp) fun i h1 h2=>?_
 simp
theorem Aoj {key:Nat→Int}{n:Nat}{P:PySem.Fin→IB→Prop}(ho:s.heap.get? a=some (seqObj "list" vs.toArray n))(h64:vs.length<64)(κ:SortKind)
  (hk:∀h':Heap,(∀b o,b≠a→s.heap.get? b=some o→h'.get? b=some o)→∀Q:SortKind→IB→Prop,2≤vs.length→Q κ { s with heap:=h' }→wpAny (model prog w) A (keyKind' vs.toArray) Q (fun _ _=>False) { s with heap:=h' })
  (hc:∀h':Heap,(∀b o,b≠a→s.heap.get? b=some o→h'.get? b=some o)→∀i j,i<vs.length→j<vs.length→∀C:Bool→IB→Prop,C (decide (key i<key j)) { s with heap:=h' }→kas_ask prog w A κ vs i j C { s with heap:=h' })
  (h:∀p,Nh key vs.length p→P (.done (.ret .none)) { s with heap:=sortedHeap s.heap a vs (List.toArray (Ic vs p)) }) :
  wpAny (model prog w) A (Builtin.«list.sort» ⟨[.ref a],[]⟩) P E s:=by
 have ha:a<s.heap.objs.size:=AK ho
 obtain ⟨e1,ho1⟩:∃e1,(s.heap.update a (Obj.mapSeq fun _=>(#[]:Array IA))).get? a=some (seqObj "list" #[] e1):=⟨_,get?_update_seq ho fun _=>#[]⟩
 have ho6:(((s.heap.update a (Obj.mapSeq fun _=>#[])).push (seqObj "tuple" vs.toArray 0)).push (seqObj "list" #[] 0)).get? a=some (seqObj "list" #[] e1):=AB _ (AB _ ho1)
 have kp:∀b o,b≠a→s.heap.get? b=some o→(((s.heap.update a (Obj.mapSeq fun _=>#[])).push (seqObj "tuple" vs.toArray 0)).push (seqObj "list" #[] 0)).get? b=some o:=fun b o ne e=>
  AB _ (AB _ (by rw [Heap.get?_update_ne _ _ _ _ ne];exact e))
 rw [list_sort_plain]
 refine AA (listItems_at ho rfl ?_)
 refine AA (FO ho rfl ?_ (by rw [AX,CU];omega) (BK _))
 refine AA (seqEpoch_at ho1 rfl ?_)
 refine AA (wpAny_newTuple ?_ (by show vs.length≤_;rw [CU];omega))
 refine AA (GK ?_ (BK _))
 refine DQ ?_
 show wpAny (model prog w) A _ P E { s with heap:=((s.heap.update a (Obj.mapSeq fun _=>(#[]:Array IA))).push (seqObj "tuple" vs.toArray 0)).push (seqObj "list" #[] 0) }
 dsimp only
 by_cases h2:vs.toArray.size<2
 ·rw [AZ h2,AZ h2]
  have h2':vs.length<2:=by rwa [AX] at h2
  have h:=h _ (Zg h2')
  refine AA (AC ?_)
  rw [StateT.run_pure]
  refine AA (AC ?_)
  dsimp only
  refine AA (seqEpoch_at ho6 rfl ?_)
  rw [P4,←Zl] at h
  refine AA (FO ho6 rfl ?_ (BK _) (by
   show ((vs.toArray.zip vs.toArray).map (·.2)).size≤_
   rw [Zl,AX,CU]
   omega))
  simp only [DC,BX,DU]
  exact AC h
 ·rw [AW h2,AW h2]
  have h2':¬vs.length<2:=by rwa [AX] at h2
  refine AA (CK (hk _ kp (fun κ' s'=>κ'=κ∧s'={ s with heap:=((s.heap.update a (Obj.mapSeq fun _=>(#[]:Array IA))).push (seqObj "tuple" vs.toArray 0)).push (seqObj "list" #[] 0) }) (by omega) ⟨rfl,rfl⟩) (fun κ' s0 hk=>?_) fun _ _ x=>x.elim)
  obtain ⟨rfl,rfl⟩:=hk
  refine AA (CK (kat_run (Q:=fun st' s'=>s'={ s with heap:=((s.heap.update a (Obj.mapSeq fun _=>(#[]:Array IA))).push (seqObj "tuple" vs.toArray 0)).push (seqObj "list" #[] 0) }∧∃p:Array Nat,Nh key vs.length p.toList∧(arrOf st').map (·.2)=List.toArray (Ic vs p.toList)∧failedOf st'=none)
   (G:=fun p s'=>s'={ s with heap:=((s.heap.update a (Obj.mapSeq fun _=>(#[]:Array IA))).push (seqObj "tuple" vs.toArray 0)).push (seqObj "list" #[] 0) }∧Nh key vs.length p.toList) rfl (by omega) h64 (fun p' st' s' a1 a2 a3 ⟨a4,a5⟩=>⟨a4,p',a5,kat_snds rfl a2,a3⟩) (Rn.wp (key:=key) (n:=vs.length) (hc _ kp) (Rn.mono (fun p hp=>⟨rfl,Adu hp.1 hp.2⟩) (Aak (by omega))))) ?_ fun _ _ e=>e)
  rintro ⟨⟨⟩,st'⟩ s' ⟨rfl,p,hs,hout,hf⟩
  dsimp only at hout hf ⊢
  refine AA (seqEpoch_at ho6 rfl ?_)
  rw [hout,hf]
  refine AA (FO ho6 rfl ?_ (BK _) (by
   show (List.toArray (Ic vs p.toList)).size≤_
   unfold Ic
   rw [AX,AE,hs.1,CU]
   omega))
  simp only [DC,BX,DU]
  exact AC (h _ hs)
theorem Amv {key:Nat→Int}{l:IC}{Q:IA→IB→Prop}(hl:s.heap.IsList l vs.toArray)(h64:vs.length<64)(κ:SortKind)
  (hk:∀h':Heap,(∀b o,s.heap.get? b=some o→h'.get? b=some o)→∀Q:SortKind→IB→Prop,2≤vs.length→Q κ { s with heap:=h' }→wpAny (model prog w) A.in1.in1 (keyKind' vs.toArray) Q (fun _ _=>False) { s with heap:=h' })
  (hc:∀h':Heap,(∀b o,s.heap.get? b=some o→h'.get? b=some o)→∀i j,i<vs.length→j<vs.length→∀C:Bool→IB→Prop,C (decide (key i<key j)) { s with heap:=h' }→kas_ask prog w A.in1.in1 κ vs i j C { s with heap:=h' })
  (h:∀p,Nh key vs.length p→Q (.ref (s.heap.objs.size+1)) { s with heap:=sortedAll s.heap vs (List.toArray (Ic vs p)) }) :
  wpAny (model prog w) A (call (.builtin "sorted") [.ref l]) Q E s:=by
 refine Calls.call_function_entry kind_sorted plain_sorted entry_sorted (args_sorted1 _) ?_
 unfold Builtin.«sorted»
 refine AA (m:=checkCount "sorted" 1 1 _) (AC ?_)
 refine AA (collect_list hl ?_ (by rw [CU];omega))
 refine AA (GK ?_ (by rw [CU];omega))
 have hsz:((s.heap.push (seqObj "list" #[] 0)).update s.heap.objs.size (Obj.mapSeq (· ++ vs.toArray))).objs.size=s.heap.objs.size+1:=by
  rw [Heap.size_update,size_push']
 have hoL:(((s.heap.push (seqObj "list" #[] 0)).update s.heap.objs.size (Obj.mapSeq (· ++ vs.toArray))).push (seqObj "list" vs.toArray 0)).get? (s.heap.objs.size+1)=some (seqObj "list" vs.toArray 0):=by
  rw [←hsz];exact AJ _ rfl
 have keep:∀b o,s.heap.get? b=some o→(((s.heap.push (seqObj "list" #[] 0)).update s.heap.objs.size (Obj.mapSeq (· ++ vs.toArray))).push (seqObj "list" vs.toArray 0)).get? b=some o:=fun b o q=>by
  have hlt:b<s.heap.objs.size:=AK q
  rw [HF _ _ _ (by rw [hsz];exact BC (CS hlt)),Heap.get?_update_ne _ _ _ _ (BC hlt),HF _ _ _ (BC hlt)]
  exact q
 show wpAny _ _ _ _ _ { s with heap:=((s.heap.push (seqObj "list" #[] 0)).update s.heap.objs.size (Obj.mapSeq (· ++ vs.toArray))).push (seqObj "list" vs.toArray 0) }
 rw [hsz]
 have ne:∀b o,s.heap.get? b=some o→b≠s.heap.objs.size+1:=fun b o e=>BC (CS (AK e))
 refine AA (DQ (wpAny_call_entry slot_list_sort ⟨_,hoL,rfl⟩ entry_list_sort (Aoj (key:=key) (s:={ s with heap:=((s.heap.push (seqObj "list" #[] 0)).update s.heap.objs.size (Obj.mapSeq (· ++ vs.toArray))).push (seqObj "list" vs.toArray 0) }) hoL h64 κ (fun h' k=>hk h' fun b o e=>k b o (ne b o e) (keep b o e)) (fun h' k=>hc h' fun b o e=>k b o (ne b o e) (keep b o e)) (fun p hp=>⟨_,rfl,?_⟩)) (args_list_sort _)))
 exact AC ⟨_,rfl,h p hp⟩
end
section
variable {X:Cx}{pins:List (IC×Obj)}{σ:L2.St}{H:Hp}{s:IB}
theorem P0 {xs:IP}{its:II}(rv:A6 xs its):∀{L:IM},(∀i∈L,i<xs.length)→A6 (L.map fun i=>xs.getD i .non) (L.map fun i=>its.getD i Value.none)
 |[],_=>.nil
 |i::L,h=>by
  have hi:=h i AO
  obtain ⟨v,hv,r⟩:=rv.get (AD hi)
  rw [BW,BW]
  refine .cons ?_ (P0 rv fun j hj=>h j (AQ _ hj))
  rw [BJ,BJ,hv,AD hi]
  exact r
end
end Lw
end
section
namespace Lw
open PySem PySem.Spec PySem.W PyProof.Rows L2
def Wp (H:Hp)(v:V)(q:Int×Int):Prop:=∃p,v=.ref p∧H p=some (.tup [.int q.1,.int q.2])
def kP (ps:List (Int×Int))(i:Nat):Int:=(ps.getD i (0,0)).1*64+(ps.getD i (0,0)).2
section
variable {X:Cx}{pins:List (IC×Obj)}{σ:L2.St}{H:Hp}{s:IB}
theorem Acq (I:Aw X pins σ H s){p:IC}{x y:Int}(e:H p=some (.tup [.int x,.int y])):∃o t1 t2 k,s.heap.get? p=some o∧o.cls=.type "tuple"∧o.data=.seq #[.int x t1,.int y t2] k:=by
 obtain ⟨_,its,r,o,h1,h2,n,h3⟩:=(show Bj X.prog X.w H s.heap p (.tup [.int x,.int y]) from I.hok p _ e)
 cases r with
 |cons r1 r=>
 cases r with
 |cons r2 r=>
 cases r
 obtain ⟨t1,rfl⟩:=r1
 obtain ⟨t2,rfl⟩:=r2
 exact ⟨o,t1,t2,n,h1,h2,by simpa using h3⟩
theorem Zs (I:Aw X pins σ H s){h':Heap}(kp:∀b o,s.heap.get? b=some o→h'.get? b=some o):∀{xs:IP} {ps:List (Int×Int)} {its:II},A6 xs its→Az (Wp H) xs ps→∃fs,KatTups h' its fs∧fs.length=ps.length∧∀v∈fs,∃x t,v=.int x t
 |_,_,_,.nil,.nil=>⟨[],.nil,rfl,fun v h=>by simp at h⟩
 |_,_,_,.cons r1 r2,.cons ⟨p,e,hp⟩ al=>by
  subst e
  cases r1
  obtain ⟨fs,k1,k2,k3⟩:=Zs I kp r2 al
  obtain ⟨o,t1,t2,k,h1,h2,h3⟩:=Acq I hp
  refine ⟨_::fs,.cons (kp _ _ h1) h2 h3 rfl k1,by rw [BN,k2,BN],fun v hv=>?_⟩
  rcases AS.mp hv with rfl|hv
  ·exact ⟨_,_,rfl⟩
  ·exact k3 v hv
def Aks (K:KKf):IP→Hp→VK→Prop:=fun xs H Q=>match xs with
 |[.ref l]=>∃(vs:IP) (ps:List (Int×Int)),Au K H l vs∧Az (Wp H) vs ps∧ps.length<64∧(∀q∈ps,0≤q.2∧q.2<64)∧∀D p,H D=none→Nh (kP ps) ps.length p→Q (.ref D) (upd H D (.lst (p.map fun i=>vs.getD i .non)))
 |_=>False
theorem Aho:Df X (.builtin "sorted") (Aks X.K):=by
 intro pins s σ H xs us Q I r h
 match xs,h with
 | [.ref l],⟨vs,ps,hq,al,hn,hb,q⟩=>
  obtain ⟨u,rfl,ru⟩:=r.one
  cases (show u=Value.ref l from ru)
  obtain ⟨its,rv,⟨oL,nL,eL,cL,dL,xL⟩,hz⟩:=I.list hq
  have hl:its.length=ps.length:=by rw [←rv.length,al.len]
  have hv:vs.length=ps.length:=al.len
  have at':∀i,i<ps.length→∃p,its.getD i Value.none=.ref p∧H p=some (.tup [.int (ps.getD i (0,0)).1,.int (ps.getD i (0,0)).2])∧ps.getD i (0,0)∈ps:=fun i hi=>by
   have hi':i<vs.length:=by omega
   obtain ⟨g,hg,p,e,hp⟩:=al.get (AD hi')
   obtain ⟨v,hv,rv'⟩:=rv.get (show vs[i]? =some (.ref p) by rw [AD hi',e])
   cases rv'
   have e0:ps.getD i (0,0)=g:=by rw [BJ,hg];rfl
   rw [e0]
   exact ⟨p,by rw [BJ,hv];rfl,hp,AN hg⟩
  refine Amv (key:=kP ps) (vs:=its) ⟨oL,eL,cL,nL,xL⟩ (by omega) (tuples' true) (fun h' kp Q' h2 q'=>?_) (fun h' kp i j hi hj C hC=>?_) (fun p hp=>?_)
  ·obtain ⟨fs,k1,k2,k3⟩:=Zs I kp rv al
   refine kat_kind (s:={ s with heap:=h' }) (T:=.type "int") k1 (by omega) (fun v hv=>?_) rfl q'
   obtain ⟨x,t,rfl⟩:=k3 v hv
   exact fun A Q E s _ q=>AC q
  ·obtain ⟨p,ep,hp,mp⟩:=at' i (by omega)
   obtain ⟨p2,ep2,hp2,mp2⟩:=at' j (by omega)
   obtain ⟨o,t1,t2,k,h1,h2,h3⟩:=Acq I hp
   obtain ⟨o',u1,u2,k',g1,g2,g3⟩:=Acq I hp2
   have b1:=hb _ mp
   have b2:=hb _ mp2
   unfold kP at hC
   generalize ps.getD i (0,0)=g at *
   generalize ps.getD j (0,0)=g' at *
   unfold kas_ask
   rw [ep,ep2]
   refine kat_lt (s:={ s with heap:=h' }) (kp _ _ h1) h3 (kp _ _ g1) g3 (kat_cons ?_)
   refine SeqAt.EqAt.int_int g.1 t1 g'.1 u1 _ _ _ _ (kat_go (fun c=>?_) (fun c=>?_))
   rotate_left
   ·have c:¬g.1=g'.1:=by simpa using c
    rw [show decide (g.1*64+g.2<g'.1*64+g'.2)=decide (g.1<g'.1) from GI.mpr (by omega)] at hC
    exact kat_no (oneLt_int hC)
   have c:g.1=g'.1:=by simpa using c
   rw [show decide (g.1*64+g.2<g'.1*64+g'.2)=decide (g.2<g'.2) from GI.mpr (by omega)] at hC
   refine kat_yes (kat_cons (SeqAt.EqAt.int_int g.2 t2 g'.2 u2 _ _ _ _ (kat_go (fun c=>?_) (fun c=>?_))))
   rotate_left
   ·exact kat_no (kat_one _ _ (lt_int hC))
   refine kat_yes (kat_nil ?_)
   have c:g.2=g'.2:=by simpa using c
   rw [BF (show ¬g.2<g'.2 by omega)] at hC
   exact hC
  ·have lt:∀i∈p,i<vs.length:=fun i hi=>by
    have:=hp.2.1 i hi
    omega
   obtain ⟨n,hr⟩:=sortedAll_at s.heap its (List.toArray (Ic its p))
   have vv:=P0 rv lt
   have I2:=I.laid (t':=s.toks) (h':=sortedAll s.heap its (List.toArray (Ic its p))) (a:=s.heap.objs.size+1) (o:=.lst (p.map fun i=>vs.getD i .non)) (fun b u e=>sortedAll_old e) (DW _) ⟨by rw [AE,hp.1];exact AI (show its.length≤64 by omega) (by decide),(List.toArray (Ic its p)).toList,n,vv,by rw [hr]⟩
   rw [hl] at hp
   exact ⟨.ref (s.heap.objs.size+1),_,I2,rfl,q _ _ (I.hok.fresh (DW _)) hp⟩
end
end Lw
end
section
set_option autoImplicit false
namespace Lw
open PySem PySem.Spec PyProof.Rows L2
section
variable {X:Cx}
def Ahp:V→IP→Hp→VK→Prop:=fun x xs H Q=>match x,xs with
 |.str x,[.str y]=>(y.length==0)=false∧x.length≤5000∧∀l H',Aj H H'→H' l=some (.lst ((Txt.split x y).map V.str))→Q (.ref l) H'
 |_,_=>False
theorem Afo:MtR X "str.split" Ahp:=by
 intro pins s σ H x xs v us Q I rx rs h
 match x,xs,h with
 | .str x,[.str y],⟨hy,hx,q⟩=>
  obtain ⟨t,rfl⟩:=rx
  obtain ⟨u,rfl,r1⟩:=Fv rs
  obtain ⟨t',rfl⟩:=r1
  have big:(5002:Nat)≤sizeLine:=by decide
  have hl:=PyProof.Rows.split_le x y
  have hn:=I.hok.fresh (AF _)
  have out:∀(l:II) (tk:Nat),A6 ((Txt.split x y).map V.str) l→EP X pins σ Q (.ref s.heap.objs.size) { s with heap:=s.heap.push { cls:=.type "list",data:=.seq l.toArray },toks:=tk }:=by
   intro l tk hv
   refine ⟨.ref _,_,I.laid (t':=tk) (o:=.lst ((Txt.split x y).map V.str)) (fun b ob q=>AB _ q) (AF _) ?_,rfl,q _ _ (Ah hn) Ac⟩
   exact ⟨by rw [AE];omega,l,0,hv,AJ _ rfl⟩
  cases h1:(decide (x.length<y.length)||decide (Builtin.Str.strKind x<Builtin.Str.strKind y))
  ·cases hf:(Builtin.Str.occurrences x y 0 x.length (x.length+1)).isEmpty
   ·have e:Txt.split x y=Builtin.Str.partsBetween x (Builtin.Str.occurrences x y 0 x.length (x.length+1)) y.length:=(AW (EF h1)).trans (AW (EF hf))
    refine call_meets FD (EY _ _ _) EW (EN _ _) (meets_str_split_sep x y t t' h1 hy hf (by omega) (by rw [←e];omega)) ?_
    show wants (EP X pins σ Q) X.xe _ { s with toks:=_,heap:=s.heap.push { cls:=.type "list",data:=.seq (strsFrom s.toks (Builtin.Str.partsBetween x (Builtin.Str.occurrences x y 0 x.length (x.length+1)) y.length)).toArray } }
    exact out _ _ (by rw [e];exact Mi _ _)
   ·have e:Txt.split x y=[x]:=(AW (EF h1)).trans (AZ hf)
    exact call_meets FD (EY _ _ _) EW (EN _ _) (meets_str_split_not_found x y t t' h1 hy hf) (out [.str x t] s.toks (by rw [e];exact .cons ⟨_,rfl⟩ .nil))
  ·have e:Txt.split x y=[x]:=AZ h1
   exact call_meets FD (EY _ _ _) EW (EN _ _) (meets_str_split_cannot_occur x y t t' h1) (out [.str x t] s.toks (by rw [e];exact .cons ⟨_,rfl⟩ .nil))
end
end Lw
end
section
set_option autoImplicit false
namespace Lw
open PySem PySem.Spec PyProof.Rows L2 PySem.StrLaws
theorem Di (y a b:Str)(r:IG):co (Str.join y (a::b::r))=co a++(co y++co (Str.join y (b::r))):=by
 show co (a++y++Str.join y (b::r))=_
 rw [B8,B8,BU]
theorem Pr {y:Str}{c:Nat}{t:IM}(hy:co y=c::t):∀{ws vs:IG},ws≠[]→vs≠[]→(∀p∈ws,c∉co p)→(∀p∈vs,c∉co p)→co (Str.join y ws)=co (Str.join y vs)→ws=vs
 |[],_,h,_,_,_,_=>absurd rfl h
 |_::_,[],_,h,_,_,_=>absurd rfl h
 |[a],[b],_,_,_,_,h=>by
  have:a=b:=Dq h
  rw [this]
 |[a],b::b'::r,_,_,ha,_,h=>by
  rw [Di,hy] at h
  have h:co a=_:=h
  refine absurd ?_ (ha a (AH.mpr rfl))
  rw [h]
  simp
 |a::a'::r,[b],_,_,_,hb,h=>by
  rw [Di,hy] at h
  have h:_=co b:=h
  refine absurd ?_ (hb b (AH.mpr rfl))
  rw [←h]
  simp
 |a::a'::r,b::b'::q,_,_,ha,hb,h=>by
  rw [Di,Di,hy] at h
  obtain ⟨h1,h2⟩:=P5 h (ha a (AO ..)) (hb b (AO ..))
  have h2:=HB h2
  have:=Pr hy (ws:=a'::r) (vs:=b'::q) (by simp) (by simp) (fun p hp=>ha p (AQ _ hp)) (fun p hp=>hb p (AQ _ hp)) h2
  rw [Dq h1,this]
def E9:Str:=⟨#[59,32]⟩
theorem at2 {x:Str}{k:Nat}(h1:x.cps.toList[k]? =some 59)(h2:x.cps.toList[k+1]? =some 32):At x E9 x.length k:=by
 have l2:=(AY.mp h2).1
 obtain ⟨l1,e1⟩:=AY.mp h1
 obtain ⟨_,e2⟩:=AY.mp h2
 refine ⟨?_,?_⟩
 ·show k+2≤x.length
  simp [Str.length] at l2 ⊢
  omega
 ·rw [subAt_eq]
  show ((x.cps.toList.drop k).take 2==[59,32])=true
  rw [CT l1,CT l2,e1,e2]
  rfl
theorem Nd (x:Str)(hfol:∀k,x.cps.toList[k]? =some 59→x.cps.toList[k+1]? =some 32):∀(cuts:IM) (a f:Nat),ChainG x E9 x.length a cuts f→(∀k,f≤k→¬At x E9 x.length k)→∀p∈partsFrom x E9.length a cuts,59∉p.cps.toList
 |[],a,f,h,hn,p,hp=>by
  have e:f=a:=h
  subst e
  rw [AH.mp hp]
  exact part_free x 59 f x.length (AF _) fun k h1 _ z=>hn k h1 (at2 ((subAt_one x 59 k).mp z) (hfol k ((subAt_one x 59 k).mp z)))
 |d::r,a,f,h,hn,p,hp=>by
  rcases AS.mp hp with rfl|hp'
  ·exact part_free x 59 a d (by have:=h.2.1.1;omega) fun k h1 h2 z=>h.2.2.1 k h1 h2 (at2 ((subAt_one x 59 k).mp z) (hfol k ((subAt_one x 59 k).mp z)))
  ·exact Nd x hfol r _ f h.2.2.2 hn p hp'
theorem Wa (x:Str)(hfol:∀k,x.cps.toList[k]? =some 59→x.cps.toList[k+1]? =some 32):∀p∈Txt.split x E9,59∉p.cps.toList:=by
 obtain ⟨f,hG,hn⟩:=occ_tight x E9 (by decide)
 unfold Txt.split
 split
 ·rename_i hc
  intro p hp
  rw [AH.mp hp]
  intro hm
  obtain ⟨j,hj⟩:=List.getElem?_of_mem hm
  have hA:=at2 hj (hfol j hj)
  rw [HY,decide_eq_true_eq,decide_eq_true_eq] at hc
  rcases hc with h|h
  ·have:=hA.1
   omega
  ·have e:Builtin.Str.strKind E9=1:=by decide +kernel
   rw [e] at h
   unfold Builtin.Str.strKind at h
   split at h
   ·omega
   ·split at h<;>omega
 ·split
  ·rename_i he
   intro p hp
   rw [AH.mp hp]
   have e0:Builtin.Str.occurrences x E9 0 x.length (x.length+1)=[]:=List.isEmpty_iff.mp he
   rw [e0] at hG
   have ef:f=0:=hG
   subst ef
   rw [←sub_whole x]
   exact part_free x 59 0 x.length (AF _) fun k h1 _ z=>hn k h1 (at2 ((subAt_one x 59 k).mp z) (hfol k ((subAt_one x 59 k).mp z)))
  ·rw [partsBetween_eq]
   exact Nd x hfol _ 0 f hG hn
theorem U4:∀{ws:IG},(∀p∈ws,59∉co p)→∀k,(co (Str.join E9 ws))[k]? =some 59→(co (Str.join E9 ws))[k+1]? =some 32
 |[],_,k,h=>by
  have e:co (Str.join E9 [])=[]:=rfl
  rw [e] at h
  simp at h
 |[a],ha,k,h=>absurd (AN (show (co a)[k]? =some 59 from h)) (ha a (AH.mpr rfl))
 | a::b::r,ha,k,h=>by
  rw [Di,show co E9=[59,32] from rfl] at h ⊢
  by_cases h1:k<(co a).length
  ·rw [BZ h1] at h
   exact absurd (AN h) (ha a (AO ..))
  ·rw [BP (by omega)] at h ⊢
   rw [show k+1-(co a).length=(k-(co a).length)+1 by omega]
   generalize k-(co a).length=j at h
   match j,h with
   |0,_=>rfl
   |1,h=>simp at h
   |j+2,h=>exact U4 (ws:=b::r) (fun p hp=>ha p (AQ _ hp)) j (by simpa using h)
theorem U6 {ws:IG}(h:ws≠[])(hf:∀p∈ws,59∉co p){x:Str}(hx:co x=co (Str.join E9 ws)):Txt.split x E9=ws:=by
 have h1:Txt.split x E9≠[]:=by
  intro e
  have:=split_pos x E9
  rw [e] at this
  simp at this
 refine Pr (y:=E9) (c:=59) (t:=[32]) rfl h1 h (fun p hp=>Wa x (fun k hk=>?_) p hp) hf (by rw [StrLaws.join_split,hx])
 have e:x.cps.toList=co (Str.join E9 ws):=hx
 rw [e] at hk ⊢
 exact U4 hf k hk
end Lw
end
section
namespace Lw
open PySem PySem.Spec PyProof.Rows L2
section
variable {X:Cx}{i o:Expr}{ty td:TE}{pos:Pos}
theorem Ad2 (hu:X.A.units+1<cLine)(hi:PE X i ty)(ho:PE X o td)(hm:behindInMarks .NotIn o=false):PT X (.Compare i [.NotIn] [o] pos) (J3 (Yu ty td)):=by
 rw [Gw]
 exact S7 (Aaq hu hi ho) hm
end
def VL (H:Hp)(R:IC)(kvs:List (Bg×V)):Prop:=∀kv∈kvs,∃p zs,kv.2=V.ref p∧p≠R∧H p=some (.lst zs)∧zs.length≤kvs.length
theorem VL.up {H H':Hp}{R:IC}{kvs:List (Bg×V)}(h:VL H R kvs)(k:∀p zs,p≠R→H p=some (.lst zs)→H' p=some (.lst zs)):VL H' R kvs:=fun kv hkv=>by
 obtain ⟨p,zs,e1,e2,e3,e4⟩:=h kv hkv
 exact ⟨p,zs,e1,e2,k p zs e2 e3,e4⟩
theorem VL.at {H:Hp}{R:IC}{kvs:List (Bg×V)}(h:VL H R kvs){k:Bg}{v:V}(e:B4 kvs k=some v):∃p zs,v=V.ref p∧p≠R∧H p=some (.lst zs)∧zs.length≤kvs.length:=by
 unfold B4 at e
 cases hf:kvs.find? (fun kv=>decide (kv.1=k)) with
 |none=>
  rw [hf] at e
  cases e
 |some kv=>
  rw [hf] at e
  cases e
  exact h kv (List.mem_of_find?_eq_some hf)
theorem VL.snoc {H:Hp}{R p:IC}{kvs:List (Bg×V)}{k:Bg}{zs:IP}(h:VL H R kvs)(e1:p≠R)(e2:H p=some (.lst zs))(e3:zs.length≤kvs.length+1):VL H R (kvs++[(k,.ref p)]):=fun kv hkv=>by
 rw [AG,BR]
 rcases BH.mp hkv with hkv|hkv
 ·obtain ⟨q,ws,a1,a2,a3,a4⟩:=h kv hkv
  exact ⟨q,ws,a1,a2,a3,by omega⟩
 ·rw [AH] at hkv
  subst hkv
  exact ⟨p,zs,rfl,e1,e2,e3⟩
theorem N6 {kvs:List (Bg×V)}{ks:IG}(h:kvs.map (·.1)=ks.map Sum.inr)(x:Str):(B4 kvs (Sum.inr x)).isSome=decide (x∈ks):=by
 rw [←Gs]
 have e:(kvs.any fun kv=>decide (kv.1=Sum.inr x))=(kvs.map (·.1)).any fun k=>decide (k=Sum.inr x):=by rw [GE];rfl
 rw [e,h,GE]
 by_cases hx:x∈ks
 ·rw [AR hx,EA]
  exact ⟨x,hx,by simp⟩
 ·rw [BF hx,FY]
  intro y hy c
  have:y=x:=by simpa using c
  exact hx (this▸hy)
structure WI (gs:IQ)(n:Str)(H Hx:Hp)(D R:IC)(ks rs:IG)(kvs:List (Bg×V)):Prop where
 sm:Aj H Hx
 eD:Hx D=some (.dK kvs)
 ky:kvs.map (·.1)=(ks++rs).map Sum.inr
 vl:VL Hx R kvs
 eR:Hx R=some (.lst (rs.map V.str))
 nd:(ks++rs).Nodup
 rc:∀x∈ks++rs,K0 gs n x
theorem WI.up {gs:IQ}{n:Str}{H Hx Hy:Hp}{D R:IC}{ks rs:IG}{kvs:List (Bg×V)}(h:WI gs n H Hx D R ks rs kvs)(s:Aj Hx Hy):WI gs n H Hy D R ks rs kvs:=
 ⟨h.sm.trans s,s _ _ h.eD,h.ky,h.vl.up fun p zs _ e=>s _ _ e,s _ _ h.eR,h.nd,h.rc⟩
theorem WI.len {gs:IQ}{n:Str}{H Hx:Hp}{D R:IC}{ks rs:IG}{kvs:List (Bg×V)}(h:WI gs n H Hx D R ks rs kvs):kvs.length=(ks++rs).length:=by
 have:=congrArg List.length h.ky
 simpa using this
theorem Aj1 (l:IG):(!PyData.eqv (.list (l.map PyData.str)) (.list (([]:IG).map PyData.str)))=!l.isEmpty:=by
 cases l<;>rfl
theorem Du {H:Hp}{p D:IC}{zs:IP}{kvs:List (Bg×V)}(h:H p=some (.lst zs))(h':H D=some (.dK kvs)):p≠D:=fun e=>by
 rw [e,h'] at h
 cases h
theorem WI.add {gs:IQ}{n y:Str}{H Hx H1 H2:Hp}{D R t1 t2 p:IC}{ks rs:IG}{kvs:List (Bg×V)}{zs:IP}{x:Str}(h:WI gs n H Hx D R ks rs kvs)(hD:H D=none)(hR:H R=none)(hy:y∉ks++rs)(hx:x∈ks++rs)(ht:y∈Il x gs)
  (n1:Hx t1=none) (e1:H1=upd Hx t1 (.lst [.str y])) (n2:H1 t2=none) (e2:H2=upd H1 t2 (.lst (zs++[.str y]))) (lz:zs.length≤kvs.length) :
  WI gs n H (upd (upd H2 D (.dK (Eo kvs (Sum.inr y) (.ref t2)))) R (.lst ((rs++[y]).map V.str))) D R ks (rs++[y]) (kvs++[(Sum.inr y,.ref t2)]):=by
 have s1:Aj Hx H1:=by rw [e1];exact Ah n1
 have s2:Aj H1 H2:=by rw [e2];exact Ah n2
 have s:=s1.trans s2
 have eD:=s _ _ h.eD
 have eR:=s _ _ h.eR
 have neRD:R≠D:=Du eR eD
 have e3:H2 t2=some (.lst (zs++[.str y])):=by rw [e2];exact Ac
 have ne2D:t2≠D:=Du e3 eD
 have ne2R:t2≠R:=fun z=>by
  have:=s1 _ _ h.eR
  rw [←z,n2] at this
  cases this
 have hv:B4 kvs (Sum.inr y)=none:=by
  have:=N6 h.ky y
  rw [BF hy] at this
  cases hh:B4 kvs (Sum.inr y) with
  |none=>rfl
  |some v=>rw [hh] at this;cases this
 rw [U1 _ hv]
 refine ⟨B6 (B6 (h.sm.trans s) hD) hR,by rw [Am (DI neRD),Ac],?_,?_,Ac,?_,fun z hz=>?_⟩
 ·rw [BQ,h.ky,←BU,BQ (l₁:=ks++rs)]
  rfl
 ·refine VL.snoc (h.vl.up fun q ws nq e=>?_) ne2R (by rw [Am ne2R,Am ne2D];exact e3) (by rw [AG,BR];omega)
  have:=s _ _ e
  rw [Am nq,Am (Du this eD)]
  exact this
 ·rw [←BU,GA]
  exact ⟨h.nd,DM.mpr ⟨by simp,List.nodup_nil⟩,fun a ha b hb e=>by
   rw [AH] at hb
   subst hb e
   exact hy ha⟩
 ·rw [←BU] at hz
  rcases BH.mp hz with hz|hz
  ·exact h.rc z hz
  ·rw [AH] at hz
   subst hz
   exact .step (h.rc x hx) ht
end Lw
end
section
namespace Lw
open PySem PySem.Spec PyProof.Rows L2
section
variable {X:Cx}
def Aqc (K:KKf):IP→Hp→VK→Prop:=fun xs H Q=>match xs with
 |[.ref p]=>∃bs:List Bool,Au K H p (bs.map V.bl)∧Q (.bl (bs.any id)) H
 |_=>False
theorem Aa6:∀bs:List Bool,((List.range bs.length).any fun i=>bs.getD i false)=bs.any id:=by
 intro bs
 rw [ES,EA,EA]
 constructor
 ·rintro ⟨i,hi,h⟩
  have hi:=CN.mp hi
  rw [BJ,AD hi] at h
  exact ⟨_,EJ hi,h⟩
 ·rintro ⟨b,hb,h⟩
  obtain ⟨i,hi,rfl⟩:=DL hb
  refine ⟨i,CN.mpr hi,?_⟩
  rw [BJ,AD hi]
  exact h
theorem Anz (hc:X.calm=true):Df X (.builtin "any") (Aqc X.K):=by
 intro pins s σ H xs us Q I r h
 match xs,h with
 | [.ref p],⟨bs,h1,q⟩=>
  obtain ⟨u,rfl,r1⟩:=Fv r
  cases (show u=Value.ref p from r1)
  obtain ⟨its,rv,pl,_⟩:=I.list h1
  have e:=P1 rv
  subst e
  have hh:=I.ok.hd hc
  have il:=pl.isList
  obtain ⟨ob,eb,rb⟩:=id il
  have ne:p≠s.heap.objs.size:=BC (AK eb)
  refine call_any_walk (FX il ?_)
  refine ⟨s.heap.objs.size,_,_,_,_,_,fun i=>bs.getD i false,rfl,Walks.list (A:=X.A.in1) hh s.heap.objs.size p ne (bs.map Value.bool).toArray,⟨⟨_,AJ _ rfl,rfl,rfl⟩,⟨ob,AB _ eb,rb⟩⟩,fun i v s2 Q2 E2 hP hQ=>?_,fun h' tk k=>?_⟩
  ·have hP:(bs.map Value.bool).toArray[i]? =some v:=hP
   rw [GC,BE] at hP
   cases e2:bs[i]? with
   |none=>
    rw [e2] at hP
    cases hP
   |some d=>
    rw [e2] at hP
    cases hP
    refine DB ?_
    have:bs.getD i false=d:=by rw [BJ,e2];rfl
    rw [←this]
    exact hQ
  ·refine ⟨.bl (bs.any id),H,I.kept (t':=tk) fun b o e=>k b o ?_ (AB _ e),?_,q⟩
   ·intro z
    have z:b=s.heap.objs.size:=by simpa using z
    exact DY _ (z▸AK e)
   ·show Value.bool _=Value.bool _
    rw [AX,AE,Aa6]
end
end Lw
end
section
namespace Lw
open PySem PySem.Spec PyProof.Rows L2
inductive Rz (R:Str→Str→Prop)(n:Str):Str→Prop where
 |here:Rz R n n
 |step {x y:Str}:Rz R n x→R x y→Rz R n y
def Clz (R:Str→Str→Prop)(cs:IG):Prop:=∀x∈cs,∀y,R x y→y∈cs
structure CZ (R:Str→Str→Prop)(n:Str)(cs rs:IG):Prop where
 nd:(cs++rs).Nodup
 hn:n∈cs
 rc:∀x∈cs++rs,Rz R n x
 cz:Clz R cs→rs=[]
end Lw
end
section
namespace Lw
open PySem PySem.Spec PyProof.Rows L2
abbrev WSt:=List (Str×IG)×IG
def Bs (ws:List (Str×IG))(x:Str):IG:=match ws.find? (fun w=>decide (w.1=x)) with
 |some w=>w.2
 |none=>[]
def Ss (last:Str)(st:WSt)(t:Str):WSt:=if t∈st.1.map (·.1) then st else (st.1++[(t,Bs st.1 last++[t])],st.2++[t])
def Qc (tk:Str→IG)(st:WSt)(last:Str):WSt:=(tk last).foldl (Ss last) st
def Pe (tk:Str→IG)(st:WSt):WSt:=st.2.foldl (Qc tk) (st.1,[])
def Oq (tk:Str→IG):Nat→WSt→List (Str×IG)
 |0,st=>st.1
 |k+1,st=>if st.2=[] then st.1 else Oq tk k (Pe tk st)
theorem Ahh (tk:Str→IG):∀(k:Nat) (ws:List (Str×IG)),Oq tk k (ws,[])=ws
 |0,_=>rfl
 |_+1,_=>rfl
theorem Pf (tk:Str→IG)(k:Nat){ws:List (Str×IG)}{nw:IG}(h:nw≠[]):Oq tk (k+1) (ws,nw)=Oq tk k (Pe tk (ws,nw)):=AW h
def wfs (gs:IQ)(n:Str):List (Str×IG):=Oq (fun x=>Il x gs) 60 ([(n,[n])],[n])
def WV (H0 H:Hp)(R:IC)(kv:Bg×V)(w:Str×IG):Prop:=kv.1=Sum.inr w.1∧∃p,kv.2=V.ref p∧p≠R∧H p=some (.lst (w.2.map V.str))∧H0 p=none
theorem Aia {H0 H:Hp}{R:IC}{x:Str}:∀{kvs:List (Bg×V)} {ws:List (Str×IG)},Az (WV H0 H R) kvs ws→∀{v:V},B4 kvs (Sum.inr x)=some v→∃p,v=.ref p∧p≠R∧H p=some (.lst ((Bs ws x).map V.str))∧H0 p=none
 |_,_,.nil,v,h=>by cases h
 | _,_,.cons (a:=kv) (b:=w) r t,v,h=>by
  rename_i kvs' ws'
  obtain ⟨r1,p,r2,r3,r4⟩:=r
  by_cases z:w.1=x
  ·have e:Bs (w::ws') x=w.2:=by
    unfold Bs
    rw [EK (by simpa using z)]
   rw [e]
   have e2:B4 (kv::kvs') (Sum.inr x)=some kv.2:=by
    unfold B4
    rw [EK (by rw [r1,z];simp)]
    rfl
   rw [e2] at h
   cases h
   exact ⟨p,r2,r3,r4⟩
  ·have e:Bs (w::ws') x=Bs ws' x:=by
    unfold Bs
    rw [FU (by simpa using z)]
   rw [e]
   refine Aia t ?_
   rw [←h]
   unfold B4
   rw [FU (by rw [r1];simpa using z)]
theorem WV.up {H0 H H':Hp}{R:IC}{kv:Bg×V}{w:Str×IG}(k:∀p zs,p≠R→H p=some (.lst zs)→H' p=some (.lst zs))(h:WV H0 H R kv w):WV H0 H' R kv w:=by
 obtain ⟨h1,p,h2,h3,h4,h5⟩:=h
 exact ⟨h1,p,h2,h3,k p _ h3 h4,h5⟩
def WW (H0 H:Hp)(kv:Bg×V)(w:Str×IG):Prop:=kv.1=Sum.inr w.1∧∃p,kv.2=V.ref p∧H p=some (.lst (w.2.map V.str))∧H0 p=none
theorem Aiz {H0 H:Hp}{x:Str}:∀{kvs:List (Bg×V)} {ws:List (Str×IG)},Az (WW H0 H) kvs ws→∀{v:V},B4 kvs (Sum.inr x)=some v→∃p,v=.ref p∧H p=some (.lst ((Bs ws x).map V.str))∧H0 p=none
 |_,_,.nil,v,h=>by cases h
 | _,_,.cons (a:=kv) (b:=w) r t,v,h=>by
  rename_i kvs' ws'
  obtain ⟨r1,p,r2,r4,r5⟩:=r
  by_cases z:w.1=x
  ·have e:Bs (w::ws') x=w.2:=by
    unfold Bs
    rw [EK (by simpa using z)]
   rw [e]
   have e2:B4 (kv::kvs') (Sum.inr x)=some kv.2:=by
    unfold B4
    rw [EK (by rw [r1,z];simp)]
    rfl
   rw [e2] at h
   cases h
   exact ⟨p,r2,r4,r5⟩
  ·have e:Bs (w::ws') x=Bs ws' x:=by
    unfold Bs
    rw [FU (by simpa using z)]
   rw [e]
   refine Aiz t ?_
   rw [←h]
   unfold B4
   rw [FU (by rw [r1];simpa using z)]
theorem R8 {α β:Type}{f:β→α→β}{l:List α}{i:Nat}{a:α}{b:β}(h:l[i]? =some a):(l.take (i+1)).foldl f b=f ((l.take i).foldl f b) a:=by
 rw [BY,h,HD]
 rfl
end Lw
end
section
namespace Lw
open PySem PySem.Spec PyProof.Rows L2
abbrev Dt (ws:List (Str×IG)):IG:=ws.map (·.1)
theorem Lj {ws add:List (Str×IG)}{x:Str}(h:x∈Dt ws):Bs (ws++add) x=Bs ws x:=by
 obtain ⟨w,hw,e⟩:=BG.mp h
 unfold Bs
 rw [List.find?_append]
 cases hf:ws.find? (fun w=>decide (w.1=x)) with
 |none=>exact absurd (AR e) (List.find?_eq_none.mp hf w hw)
 |some v=>rfl
theorem F0 {ws:List (Str×IG)}{x:Str}(h:x∈Dt ws):(x,Bs ws x)∈ws:=by
 obtain ⟨w,hw,e⟩:=BG.mp h
 unfold Bs
 cases hf:ws.find? (fun w=>decide (w.1=x)) with
 |none=>exact absurd (AR e) (List.find?_eq_none.mp hf w hw)
 |some v=>
  have h2:=List.find?_some hf
  have e2:v.1=x:=by simpa using h2
  have:=List.mem_of_find?_eq_some hf
  rw [←e2]
  exact this
theorem Aea {ws add:List (Str×IG)}{x:Str}(h:x∉Dt ws):Bs (ws++add) x=Bs add x:=by
 unfold Bs
 rw [List.find?_append]
 have:ws.find? (fun w=>decide (w.1=x))=none:=List.find?_eq_none.mpr fun w hw e=>h (BG.mpr ⟨w,hw,AU e⟩)
 rw [this]
 rfl
def Q7 (tk:Str→IG)(ws:List (Str×IG))(nw:IG)(add:List (Str×IG)):Prop:=∀w∈add,w.1∉Dt ws∧∃z∈nw,w.1∈tk z∧w.2=Bs ws z++[w.1]
theorem O0 {tk:Str→IG}{ws:List (Str×IG)}{nw:IG}{z:Str}(hz:z∈nw)(hk:z∈Dt ws):∀(ts:IG) (add:List (Str×IG)),(∀t∈ts,t∈tk z)→Q7 tk ws nw add→∃add',ts.foldl (Ss z) (ws++add,Dt add)=(ws++add',Dt add')∧Q7 tk ws nw add'∧(∀x∈Dt (ws++add),x∈Dt (ws++add'))∧∀t∈ts,t∈Dt (ws++add')
 |[],add,_,ok=>⟨add,rfl,ok,fun _ h=>h,fun t h=>by cases h⟩
 | t::ts,add,ht,ok=>by
  by_cases h:t∈Dt (ws++add)
  ·obtain ⟨add',e,ok',sub,all⟩:=O0 hz hk ts add (fun x hx=>ht x (AQ _ hx)) ok
   refine ⟨add',?_,ok',sub,fun x hx=>?_⟩
   ·rw [GS,show Ss z (ws++add,Dt add) t=(ws++add,Dt add) from AZ h]
    exact e
   ·rcases AS.mp hx with rfl|hx
    ·exact sub _ h
    ·exact all x hx
  ·have e1:Ss z (ws++add,Dt add) t=(ws++(add++[(t,Bs ws z++[t])]),Dt (add++[(t,Bs ws z++[t])])):=by
    unfold Ss
    rw [AW h]
    show (ws++add++[(t,Bs (ws++add) z++[t])],Dt add++[t])=_
    rw [Lj hk,BU]
    unfold Dt
    rw [BQ]
    rfl
   have ok1:Q7 tk ws nw (add++[(t,Bs ws z++[t])]):=fun w hw=>by
    rcases BH.mp hw with hw|hw
    ·exact ok w hw
    ·rw [AH] at hw
     subst hw
     exact ⟨fun hh=>h (by unfold Dt at hh ⊢;rw [BQ];exact CC _ hh),z,hz,ht t (AO ..),rfl⟩
   obtain ⟨add',e,ok',sub,all⟩:=O0 hz hk ts _ (fun x hx=>ht x (AQ _ hx)) ok1
   have up:∀x∈Dt (ws++add),x∈Dt (ws++(add++[(t,Bs ws z++[t])])):=fun x hx=>by
    unfold Dt at hx ⊢
    rw [←BU,BQ (l₁:=ws++add)]
    exact CC _ hx
   have tin:t∈Dt (ws++(add++[(t,Bs ws z++[t])])):=by
    unfold Dt
    rw [←BU,BQ (l₁:=ws++add)]
    exact BA _ (AH.mpr rfl)
   refine ⟨add',?_,ok',fun x hx=>sub x (up x hx),fun x hx=>?_⟩
   ·rw [GS,e1]
    exact e
   ·rcases AS.mp hx with rfl|hx
    ·exact sub _ tin
    ·exact all x hx
theorem Rj {tk:Str→IG}{ws:List (Str×IG)}{nw:IG}(hk:∀z∈nw,z∈Dt ws):∀(l:IG) (add:List (Str×IG)),(∀z∈l,z∈nw)→Q7 tk ws nw add→∃add',l.foldl (Qc tk) (ws++add,Dt add)=(ws++add',Dt add')∧Q7 tk ws nw add'∧(∀x∈Dt (ws++add),x∈Dt (ws++add'))∧∀z∈l,∀t∈tk z,t∈Dt (ws++add')
 |[],add,_,ok=>⟨add,rfl,ok,fun _ h=>h,fun t h=>by cases h⟩
 | z::l,add,hl,ok=>by
  have hz:=hl z (AO ..)
  obtain ⟨a1,e1,ok1,s1,t1⟩:=O0 hz (hk z hz) (tk z) add (fun _ h=>h) ok
  obtain ⟨a2,e2,ok2,s2,t2⟩:=Rj hk l a1 (fun x hx=>hl x (AQ _ hx)) ok1
  refine ⟨a2,?_,ok2,fun x hx=>s2 x (s1 x hx),fun x hx t ht=>?_⟩
  ·rw [GS,show Qc tk (ws++add,Dt add) z=(ws++a1,Dt a1) from e1]
   exact e2
  ·rcases AS.mp hx with rfl|hx
   ·exact s2 t (t1 t ht)
   ·exact t2 x hx t ht
theorem Afp {tk:Str→IG}{ws:List (Str×IG)}{nw:IG}(hk:∀z∈nw,z∈Dt ws):∃add,Pe tk (ws,nw)=(ws++add,Dt add)∧Q7 tk ws nw add∧∀z∈nw,∀t∈tk z,t∈Dt (ws++add):=by
 obtain ⟨add,e,ok,_,t⟩:=Rj (tk:=tk) hk nw [] (fun _ h=>h) (fun w hw=>by cases hw)
 refine ⟨add,?_,ok,t⟩
 rw [CJ] at e
 exact e
inductive Pw (tk:Str→IG)(n:Str):IG→Str→Prop where
 |here:Pw tk n [n] n
 |step {p:IG} {x y:Str}:Pw tk n p x→y∈tk x→Pw tk n (p++[y]) y
structure BI (tk:Str→IG)(n:Str)(ws:List (Str×IG))(nw:IG)(d:Nat):Prop where
 pw:∀w∈ws,Pw tk n w.2 w.1
 le:∀w∈ws,w.2.length≤d
 al:∀p x,Pw tk n p x→p.length≤d→x∈Dt ws∧(Bs ws x).length≤p.length
 nk:∀x∈nw,x∈Dt ws∧(Bs ws x).length=d
 kn:∀x∈Dt ws,(Bs ws x).length=d→x∈nw
 d1:1≤d
theorem Adn {tk:Str→IG}{n:Str}{p:IG}{x:Str}(h:Pw tk n p x):1≤p.length:=by
 cases h with
 |here=>exact AF _
 |step=>rw [AG];exact Nat.le_add_left _ _
theorem Aol (tk:Str→IG)(n:Str):BI tk n [(n,[n])] [n] 1:=by
 have e:Bs [(n,[n])] n=[n]:=by
  unfold Bs
  rw [EK (by simp)]
 refine ⟨fun w hw=>?_,fun w hw=>?_,fun p x h hl=>?_,fun x hx=>?_,fun x hx _=>hx,AF _⟩
 ·rw [AH] at hw
  subst hw
  exact .here
 ·rw [AH] at hw
  subst hw
  exact AF _
 ·cases h with
  |here=>exact ⟨AH.mpr rfl,by rw [e];exact AF _⟩
  |step h t=>
   have:=Adn h
   rw [AG,BR] at hl
   omega
 ·rw [AH] at hx
  subst hx
  exact ⟨AH.mpr rfl,by rw [e];rfl⟩
theorem BI.round {tk:Str→IG}{n:Str}{ws:List (Str×IG)}{nw:IG}{d:Nat}(h:BI tk n ws nw d):BI tk n (Pe tk (ws,nw)).1 (Pe tk (ws,nw)).2 (d+1):=by
 obtain ⟨add,e,ok,all⟩:=Afp (tk:=tk) (ws:=ws) (nw:=nw) fun z hz=>(h.nk z hz).1
 rw [e]
 have wlen:∀w∈add,w.2.length=d+1:=fun w hw=>by
  obtain ⟨_,z,hz,_,e⟩:=ok w hw
  rw [e,AG,BR,(h.nk z hz).2]
 have knew:∀x,x∈Dt (ws++add)→x∉Dt ws→x∈Dt add:=fun x hx hno=>by
  unfold Dt at hx
  rw [BQ] at hx
  rcases BH.mp hx with hx|hx
  ·exact absurd hx hno
  ·exact hx
 have vnew:∀x,x∈Dt add→x∉Dt ws→(Bs (ws++add) x).length=d+1:=fun x hx hno=>by
  rw [Aea hno]
  exact wlen _ (F0 hx)
 have lw:∀x∈Dt ws,(Bs ws x).length≤d:=fun x hx=>h.le _ (F0 hx)
 refine ⟨fun w hw=>?_,fun w hw=>?_,fun p x hp hl=>?_,fun x hx=>?_,fun x hx hl=>?_,Nat.le_add_left _ _⟩
 ·rcases BH.mp hw with hw|hw
  ·exact h.pw w hw
  ·obtain ⟨_,z,hz,t,e⟩:=ok w hw
   rw [e]
   exact .step (h.pw _ (F0 (h.nk z hz).1)) t
 ·rcases BH.mp hw with hw|hw
  ·exact Nat.le_succ_of_le (h.le w hw)
  ·exact HR (wlen w hw)
 ·have old:x∈Dt ws→(Bs ws x).length≤p.length→x∈Dt (ws++add)∧(Bs (ws++add) x).length≤p.length:=fun a b=>⟨by unfold Dt;rw [BQ];exact CC _ a,by rw [Lj a];exact b⟩
  by_cases z:p.length≤d
  ·obtain ⟨a,b⟩:=h.al p x hp z
   exact old a b
  ·have hx:x∈Dt (ws++add):=by
    cases hp with
    |here=>exact absurd h.d1 z
    | @step q u _ hq t=>
     rw [AG,BR] at hl
     obtain ⟨a,b⟩:=h.al q u hq (by omega)
     by_cases zz:(Bs ws u).length=d
     ·exact all u (h.kn u a zz) x t
     ·have pv:=h.pw _ (F0 a)
      have:=h.al _ x (.step pv t) (by rw [AG,BR];have:=lw u a;show (Bs ws u).length+1≤d;omega)
      unfold Dt
      rw [BQ]
      exact CC _ this.1
   refine ⟨hx,?_⟩
   by_cases hk:x∈Dt ws
   ·rw [Lj hk]
    have:=lw x hk
    omega
   ·rw [vnew x (knew x hx hk) hk]
    omega
 ·have hx:x∈Dt add:=hx
  obtain ⟨w,hw,rfl⟩:=BG.mp hx
  have hno:=(ok w hw).1
  refine ⟨?_,vnew _ hx hno⟩
  unfold Dt
  rw [BQ]
  exact BA _ hx
 ·show x∈Dt add
  by_cases hk:x∈Dt ws
  ·rw [Lj hk] at hl
   have:=lw x hk
   omega
  ·exact knew x hx hk
theorem V9 {tk:Str→IG}{n:Str}:∀(k d:Nat) (ws:List (Str×IG)) (nw:IG),BI tk n ws nw d→(∀w∈Oq tk k (ws,nw),Pw tk n w.2 w.1)∧∀p x,Pw tk n p x→x∈Dt (Oq tk k (ws,nw))→(Bs (Oq tk k (ws,nw)) x).length≤p.length
 | 0,d,ws,nw,h=>⟨h.pw,fun p x hp hx=>by
   show (Bs ws x).length≤p.length
   by_cases z:p.length≤d
   ·exact (h.al p x hp z).2
   ·have:=h.le _ (F0 hx)
    have:(Bs ws x).length≤d:=this
    omega⟩
 | k+1,d,ws,nw,h=>by
  by_cases z:nw=[]
  ·subst z
   refine ⟨h.pw,fun p x hp hx=>?_⟩
   show (Bs ws x).length≤p.length
   by_cases z:p.length≤d
   ·exact (h.al p x hp z).2
   ·have:=h.le _ (F0 hx)
    have:(Bs ws x).length≤d:=this
    omega
  ·rw [Pf tk k z]
   exact V9 k (d+1) _ _ h.round
theorem Ak4 {gs:IQ}{n:Str}{w:Str×IG}(h:w∈wfs gs n):Pw (fun x=>Il x gs) n w.2 w.1:=(V9 60 1 _ _ (Aol _ n)).1 w h
end Lw
end
section
namespace Lw
open PySem PySem.Spec PyProof.Rows L2
def Lx:IG→IG→Prop
 |a::p,b::q=>lS a b∨(a=b∧Lx p q)
 |_,_=>False
section
variable {tk:Str→IG}{ws:List (Str×IG)}
structure AM (tk:Str→IG)(ws:List (Str×IG))(l:IG)(z:Str)(ts:IG)(add:List (Str×IG)):Prop where
 nd:(Dt add).Nodup
 lx:add.Pairwise fun w w'=>Lx w.2 w'.2
 pr:∀w∈add,w.1∉Dt ws∧((∃l1 z' l2,l=l1++z'::l2∧w.1∈tk z'∧w.2=Bs ws z'++[w.1]∧∀y∈l1,w.1∉tk y)∨(w.1∈ts∧w.2=Bs ws z++[w.1]∧∀y∈l,w.1∉tk y))
 cov:∀y∈l,∀t∈tk y,t∈Dt (ws++add)
 cz:∀t∈ts,t∈Dt (ws++add)
structure AL (tk:Str→IG)(ws:List (Str×IG))(l:IG)(add:List (Str×IG)):Prop where
 nd:(Dt add).Nodup
 lx:add.Pairwise fun w w'=>Lx w.2 w'.2
 pr:∀w∈add,w.1∉Dt ws∧∃l1 z l2,l=l1++z::l2∧w.1∈tk z∧w.2=Bs ws z++[w.1]∧∀y∈l1,w.1∉tk y
 cov:∀y∈l,∀t∈tk y,t∈Dt (ws++add)
structure LI (tk:Str→IG)(n:Str)(ws:List (Str×IG))(nw:IG)(d:Nat):Prop where
 bi:BI tk n ws nw d
 np:nw.Pairwise fun x y=>Lx (Bs ws x) (Bs ws y)
 lm:∀x∈Dt ws,∀q,Pw tk n q x→q.length=(Bs ws x).length→¬Lx q (Bs ws x)
end
inductive Ch (tk:Str→IG):Str→IG→Str→Prop where
 |one (x:Str):Ch tk x [x] x
 |cons {a b y:Str} {p:IG}:b∈tk a→Ch tk b p y→Ch tk a (a::p) y
end Lw
end
set_option maxHeartbeats 0
set_option exponentiation.threshold 5000
namespace My
open PySem PySem.Spec PyProof.Rows L2 Lw
local macro_rules | `(tactic| walk_at "hp")=>`(tactic| first | assumption | (refine sm_at (by assumption) ?_; walk_at "hp") | (refine sm_sq (by assumption) ?_; walk_at "hp") | (refine Fq.up (by assumption) ?_; walk_at "hp") | (refine Pq.up (by assumption) ?_; walk_at "hp"))
def D7 (i:Nat):Stmt:=PySem.Challenge.pw_ladderworth_k85_whole_from_text_to_verdi.main.body.getD i (.Pass ⟨0,0,0,0⟩)
abbrev Kk:Stmt:=D7 13
abbrev Kg:Stmt:=D7 14
abbrev Do:Stmt:=D7 15
abbrev Th:Stmt:=D7 20
abbrev Xm:Stmt:=D7 28
abbrev Hk:Stmt:=D7 29
abbrev Lv:Stmt:=D7 30
abbrev Pt:Stmt:=D7 31
abbrev Iz:Stmt:=D7 32
abbrev Ik:Stmt:=D7 33
abbrev Hl:Stmt:=D7 34
abbrev Ii:Stmt:=D7 35
abbrev Mo:Stmt:=D7 36
abbrev Jf:Stmt:=D7 37
abbrev Ml:Stmt:=D7 38
abbrev Ip:Stmt:=D7 43
abbrev He:Stmt:=D7 44
abbrev Io:Stmt:=D7 45
abbrev Dn:Stmt:=D7 46
abbrev Mf:Stmt:=D7 47
abbrev Ly:Stmt:=D7 48
abbrev F3:Stmt:=D7 50
abbrev O8:Stmt:=D7 51
abbrev Sw:Stmt:=D7 52
abbrev Ae7:Stmt:=D7 53
abbrev Iy:Stmt:=D7 54
abbrev L5:Stmt:=D7 55
abbrev Oi:Stmt:=D7 56
abbrev Ea:Stmt:=Ho (D7 102) 0
abbrev Ha:Stmt:=Ho (D7 102) 1
abbrev F4:Stmt:=Ho (D7 102) 3
abbrev Mb:Stmt:=D7 103
abbrev Po:Stmt:=D7 104
abbrev J6:Stmt:=D7 113
abbrev O4:Stmt:=D7 114
abbrev Lu:Stmt:=D7 115
abbrev Kc:Stmt:=D7 116
abbrev Lr:Stmt:=D7 117
abbrev Ex:Stmt:=Ho (D7 119) 0
abbrev Iu:Stmt:=Ho (D7 119) 3
abbrev Kh:Stmt:=D7 134
abbrev Ij:Stmt:=D7 138
abbrev F1:Stmt:=D7 139
abbrev Kr:Stmt:=D7 140
abbrev E5:Stmt:=Ho (D7 150) 0
abbrev Kj:Stmt:=Ho (D7 150) 1
abbrev F2:Stmt:=D7 151
abbrev Hd:Stmt:=D7 152
abbrev Jb:Stmt:=D7 154
abbrev L0:Stmt:=D7 155
abbrev E1:Stmt:=D7 156
abbrev Pn:Stmt:=D7 157
abbrev Jc:Stmt:=D7 158
abbrev Mc:Stmt:=D7 159
abbrev Gg:Stmt:=D7 160
abbrev P2:Stmt:=D7 161
abbrev G0:Stmt:=D7 162
abbrev Qf:Stmt:=D7 163
abbrev Jy:Stmt:=D7 164
structure Aos (K:KKf)(mg:Str→IK)(c_Desk c_Ledger c_Rule:IC):Prop where
 b_Desk:mg "Desk"=some (.ref c_Desk)
 b_Ledger:mg "Ledger"=some (.ref c_Ledger)
 b_Rule:mg "Rule"=some (.ref c_Rule)
 y_Desk:PySem.W.nsIn K mainGlobals "Desk"=some (some (.ref c_Desk))
 l_Desk:Uv K c_Desk
 m_Desk:MkC K c_Desk
 na_Desk_ledger:NoAttr K c_Desk "ledger"
 na_Desk_told:NoAttr K c_Desk "told"
 y_Ledger:PySem.W.nsIn K mainGlobals "Ledger"=some (some (.ref c_Ledger))
 l_Ledger:Uv K c_Ledger
 m_Ledger:MkC K c_Ledger
 na_Ledger_kept:NoAttr K c_Ledger "kept"
 na_Ledger_last:NoAttr K c_Ledger "last"
 na_Ledger_rule:NoAttr K c_Ledger "rule"
 y_Rule:PySem.W.nsIn K mainGlobals "Rule"=some (some (.ref c_Rule))
 l_Rule:Uv K c_Rule
 m_Rule:MkC K c_Rule
 na_Rule_first:NoAttr K c_Rule "first"
 na_Rule_step:NoAttr K c_Rule "step"
 na_Rule_table:NoAttr K c_Rule "table"
section
variable {P:IE}{w:IF}{K:KKf}{mg:Str→IK}{base:Heap}{ns:IH}
variable {c_Desk c_Ledger c_Rule:IC}{a_FIRST_ROW:IC}{b_FIRST_ROW_1:IC}{a_TABLE:IC}{b_TABLE_0:IC}{b_TABLE_0_1:IC}{b_TABLE_1:IC}{b_TABLE_1_1:IC}{b_TABLE_2:IC}{b_TABLE_2_1:IC}{b_TABLE_3:IC}{b_TABLE_3_1:IC}{b_TABLE_4:IC}{b_TABLE_4_1:IC}{a_TEXT_ROWS:IC}{g_put_game:IC}{g_tell_tree:IC}{g_tell_group:IC}{a_WORDS:IC}{a_WORD_ROWS:IC}{b_WORD_ROWS_take:IC}{b_WORD_ROWS_book:IC}{b_WORD_ROWS_verdict:IC}{b_WORD_ROWS_way:IC}{b_WORD_ROWS_ends:IC}{b_WORD_ROWS_rank:IC}{b_WORD_ROWS_running:IC}{b_WORD_ROWS_worth:IC}{b_WORD_ROWS_book_1:IC}{b_WORD_ROWS_verdict_1:IC}{b_WORD_ROWS_way_1:IC}{g_tell_book:IC}{g_tell_verdict:IC}{g_tell_way:IC}
--@thinall
theorem nb {P:Prop}{a b:Bool}(h:a=b)(n:(a==b)=false:=by rfl):P:=by
 subst h
 rw [beq_self_eq_true] at n
 cases n
def wh:V→Bool
 |.int _=>true
 |_=>false
def Kd (H:Hp):V→Prop
 |.int _=>True
 |.bl _=>True
 |.non=>True
 |.str _=>True
 |.ref p=>∃u t,H p=some u∧Ake u=some t∧tyB t "int"=some false
 |_=>False
theorem Kd.up {H H':Hp}(s:Aj H H'):∀{v:V},Kd H v→Kd H' v
 |.int _,h=>h
 |.bl _,h=>h
 |.non,h=>h
 |.str _,h=>h
 |.ref p,⟨u,t,h1,h2⟩=>⟨u,t,s _ _ h1,h2⟩
 |.flt _,h=>h.elim
 |.byt _,h=>h.elim
 |.ty _,h=>h.elim
def Je (K:KKf)(ns:IH):Sp:=fun vs H Q _=>match vs with
 |[v]=>Kd H v∧Q (.bl (wh v)) H
 |_=>False
local macro_rules | `(tactic| trivial)=>`(tactic| first | exact .inl rfl | exact .inr rfl | assumption)
theorem D9 {N P:IG}{sc:Scope}(a:sc.kind=.function:=by rfl)(b:sc.isCoroutine=false:=by rfl)(c:sc.isGenerator=false:=by rfl)(d:N.Nodup:=by decide +kernel)(e:N.take P.length=P:=by rfl)(f:∀x∈P,sc.names.lookup x=some .local∨sc.names.lookup x=some .cell:=by decide +kernel)(g:∀y∈sc.names,y.2≠.free:=by decide +kernel):Al N P sc:=⟨a,b,c,d,e,f,g⟩
variable (er:Aos K mg c_Desk c_Ledger c_Rule)(n_abs:mg "abs"=none)(n_all:mg "all"=none)(n_any:mg "any"=none)(n_bool:mg "bool"=none)(n_int:mg "int"=none)(n_isinstance:mg "isinstance"=none)(n_len:mg "len"=none)(n_list:mg "list"=none)(n_range:mg "range"=none)(n_set:mg "set"=none)(n_sorted:mg "sorted"=none)(n_str:mg "str"=none)(n_tuple:mg "tuple"=none)(n_zip:mg "zip"=none)
theorem Uy:Al ["thing"] ["thing"] (Ad Kk):=D9
include er n_isinstance n_bool n_int in
theorem Vo (d:Bt K mg "is_whole" Kk ["thing"]):Bc P w K mg base "is_whole" ["thing"] 1 (Je K ns):=by
 refine d.cal (k:=0) Uy (fun vs H Q E h=>?_) (fun f cdv A outer s H vs Q E hr h=>?_)
 ·match vs,h with
  |[_],_=>rfl
 ·refine ⟨_,(@A3 _ _ _ _ (@J4 _ _ _ _ _ _ _ (@Av _ _ _ _ _ _ _ _ _ Pj n_isinstance (by decide +kernel) (@Ai _ _ _ _ _ (dv 0) (@Bf _ _ _ (Wd "int" (by rfl) n_int (by decide +kernel)) (by rfl)) (by rfl)) (by trivial)) (@G3 _ _ _ _ _ (@Aik _ _ _ _ (@Av _ _ _ _ _ _ _ _ _ Pj n_isinstance (by decide +kernel) (@Ai _ _ _ _ _ (dv 0) (@Bf _ _ _ (Wd "bool" (by rfl) n_bool (by decide +kernel)) (by rfl)) (by rfl)) (by trivial)))))),?_⟩
  match vs,h with
  |[.int _],⟨_,q⟩=>exact ⟨true,rfl,fun _=>⟨false,rfl,q⟩,fun h=>absurd h (by decide)⟩
  |[.bl _],⟨_,q⟩=>exact ⟨true,rfl,fun _=>⟨true,rfl,q⟩,fun h=>absurd h (by decide)⟩
  |[.non],⟨_,q⟩=>exact ⟨false,rfl,fun h=>absurd h (by decide),fun _=>q⟩
  |[.str _],⟨_,q⟩=>exact ⟨false,rfl,fun h=>absurd h (by decide),fun _=>q⟩
  |[.ref _],⟨⟨u,t,h1,h2,h3⟩,q⟩=>exact ⟨u,false,t,h1,h2,h3,fun h=>absurd h (by decide),fun _=>q⟩
  |[.flt _],⟨z,_⟩=>exact z.elim
  |[.byt _],⟨z,_⟩=>exact z.elim
  |[.ty _],⟨z,_⟩=>exact z.elim
--@words TEXT_ROWS put
--@words WORD_ROWS book verdict way
def E7 (K:KKf)(ns:IH):Sp:=fun vs H Q _=>match vs with
 |[.int x,.int y]=>Q (.int (Int.gcd x y:Int)) H
 |_=>False
theorem Aau {vs:IP}{F:Int→Int→Prop}(h:match vs with|[.int x0,.int x1]=>F x0 x1|_=>False):∃x0 x1,vs=[.int x0,.int x1]∧F x0 x1:=by
 match vs,h with
 |[.int x0,.int x1],h=>exact ⟨_,_,rfl,h⟩
theorem Ck:Al ["one","other","rest"] ["one","other"] (Ad Do):=D9
include er n_abs in
theorem Jq (d:Bt K mg "greatest_divisor" Do ["one","other"]):Bc P w K mg base "greatest_divisor" ["one","other"] 1 (E7 K ns):=by
 refine d.cal (k:=0) Ck (fun vs H Q E hq0=>?_) (fun f cdv A outer s H vs Q E hr hq0=>?_)
 ·obtain ⟨_,_,rfl,_⟩:=Aau hq0
  rfl
 ·obtain ⟨x,y,rfl,q⟩:=Aau hq0
  refine ⟨_,(@Aa _ _ _ _ _ (@Y7 _ _ _ _ _ _ CB (@A0 _ _ _ _ _ _ _ _ Ky (dv 1) Ae (Aq _)) (@Aa _ _ _ _ _ (@Ak _ _ _ (2) _ _ _ Ck.nd (@Ap _ _ _ _ _ _ _ _ Ak0 (dv 0) (dv 1)) (by trivial)) (@Aa _ _ _ _ _ (@Ak _ _ _ (0) _ _ _ Ck.nd (dv 1) (by trivial)) (@An _ _ _ (@Ak _ _ _ (1) _ _ _ Ck.nd (dv 2) (by trivial)))))) (@A3 _ _ _ _ (@Av _ _ _ _ _ _ _ _ _ Aog n_abs (by decide +kernel) (@Bf _ _ _ (dv 0) (by rfl)) (by trivial)))),?_⟩
  refine ⟨fun m σ H'=>∃a b o,σ=[some (.int a),some (.int b),o]∧H'=H∧Int.gcd a b=Int.gcd x y∧m=b.natAbs,⟨_,x,y,none,rfl,rfl,rfl,rfl⟩,?_⟩
  rintro m σ H' ⟨a,b,o,rfl,rfl,g,rfl⟩
  refine ⟨fun h=>?_,fun h=>?_⟩
  ·have hb:¬b=0:=by simpa using h
   refine ⟨hb,?_⟩
   exact ⟨(a.fmod b).natAbs,Agq a hb,b,a.fmod b,_,rfl,rfl,by rw [Ad4,g],rfl⟩
  ·have hb:b=0:=by simpa using h
   subst hb
   have e:(Int.gcd x y:Int)=(a.natAbs:Int):=by
    rw [←g,Int.gcd_zero_right]
   have q:Q (.int (Int.gcd x y:Int)) H':=q
   rw [e] at q
   exact q
def M5 (K:KKf)(ns:IH):Sp:=fun vs H Q _=>match vs with
 |[.int t,.int b]=>(b≠0∧Bd 4000 b)∧∀p H',Aj H H'→Apj H' p t b→Q (.ref p) H'
 |_=>False
theorem Jd:Al ["top","bottom","divisor"] ["top","bottom"] (Ad Kg):=D9
include er in
theorem Ux (d:Bt K mg "fraction" Kg ["top","bottom"])  (c_greatest_divisor:Bc P w K mg base "greatest_divisor" ["one","other"] 1 (E7 K ns))(c_is_whole:Bc P w K mg base "is_whole" ["thing"] 1 (Je K ns)):Bc P w K mg base "fraction" ["top","bottom"] 2 (M5 K ns):=by
 refine d.cal (k:=1) Jd (fun vs H Q E hq0=>?_) (fun f cdv A outer s H vs Q E hr hq0=>?_)
 ·obtain ⟨_,_,rfl,_⟩:=Aau hq0
  rfl
 ·obtain ⟨t,b,rfl,⟨⟨b0,b1⟩,q⟩⟩:=Aau hq0
  refine ⟨_,(@Aa _ _ _ _ _ (@Bl _ _ _ _ _ _ _ _ (@L2.PW.pt _ _ _ (@J9 _ _ _ _ _ _ _ (@Bw _ _ _ _ (@Ci _ _ _ (@Af _ _ _ _ _ _ _ _ _ _ _ c_is_whole hr (@Bf _ _ _ (dv 0) (by rfl)) (by trivial)) (by intro _;rfl))) (@Fp _ _ _ _ (@Bw _ _ _ _ (@Ci _ _ _ (@Af _ _ _ _ _ _ _ _ _ _ _ c_is_whole hr (@Bf _ _ _ (dv 1) (by rfl)) (by trivial)) (by intro _;rfl)))))) (@An _ _ _ Ba) Ao) (@Aa _ _ _ _ _ (@Bl _ _ _ _ _ _ _ _ (@A0 _ _ _ _ _ _ _ _ Ee (dv 1) Ae (Aq _)) (@An _ _ _ Ba) Ao) (@Aa _ _ _ _ _ (@Ak _ _ _ (2) _ _ _ Jd.nd (@Af _ _ _ _ _ _ _ _ _ _ _ c_greatest_divisor hr (@Ai _ _ _ _ _ (dv 0) (@Bf _ _ _ (dv 1) (by rfl)) (by rfl)) (by trivial)) (by trivial)) (@Aa _ _ _ _ _ (@Bl _ _ _ _ _ _ _ _ (@A0 _ _ _ _ _ _ _ _ Of (dv 1) Ae (Aq _)) (@An _ _ _ (@Ak _ _ _ (2) _ _ _ Jd.nd (@Nf _ _ _ _ _ _ M3 (dv 2)) (by trivial))) Ao) (@A3 _ _ _ _ (@Dx _ _ _ _ _ (@Ab _ _ _ _ _ (@Ap _ _ _ _ _ _ _ _ Afr (dv 0) (dv 2)) (@Ab _ _ _ _ _ (@Ap _ _ _ _ _ _ _ _ Afr (dv 1) (dv 2)) Ag (by rfl)) (by rfl)))))))),?_⟩
  refine ⟨⟨⟩,⟨fun h=>nb h,fun _=>⟨⟨⟩,⟨fun h=>nb h,fun _=>?_⟩⟩⟩⟩
  refine ⟨fun h=>absurd (AU h) b0,fun _=>?_⟩
  have d0:=Akl t b0
  have d1:=Alj t b0 b1
  have e1:=Ako t b0
  have e2:=Aji t b0
  refine ⟨fun h=>?_,fun h=>?_⟩
  ·have h:=AU h
   have e:dvs t b=-(Int.gcd t b:Int):=AZ h
   rw [e] at d0 d1 e1 e2
   refine ⟨⟨d0,d1⟩,⟨⟨d0,d1⟩,fun p H' s z=>q p H' s ⟨?_⟩⟩⟩
   dsimp only at z
   rw [e1,e2] at z
   exact z
  ·have h:=CA h
   have e:dvs t b=(Int.gcd t b:Int):=AW h
   rw [e] at d0 d1 e1 e2
   refine ⟨⟨d0,d1⟩,⟨⟨d0,d1⟩,fun p H' s z=>q p H' s ⟨?_⟩⟩⟩
   dsimp only at z
   rw [e1,e2] at z
   exact z
def Rm (K:KKf)(ns:IH):Sp:=fun vs H Q _=>match vs with
 |[.ref p]=>∃g:Gm,Bp H (.ref p) g∧∀y H',Aj H H'→Bp H' y (trn g)→Q y H'
 |_=>False
theorem Kv {vs:IP}{F:IC→Prop}(h:match vs with|[.ref x0]=>F x0|_=>False):∃x0,vs=[.ref x0]∧F x0:=by
 match vs,h with
 |[.ref x0],h=>exact ⟨_,rfl,h⟩
theorem Abv:Al ["played"] ["played"] (Ad Pt):=D9
include er in
theorem Abf (d:Bt K mg "turned" Pt ["played"]):Bc P w K mg base "turned" ["played"] 1 (Rm K ns):=by
 refine d.cal (k:=0) Abv (fun vs H Q E hq0=>?_) (fun f cdv A outer s H vs Q E hr hq0=>?_)
 ·obtain ⟨_,rfl,_⟩:=Kv hq0
  rfl
 ·obtain ⟨p,rfl,⟨g,⟨_,e,h⟩,k⟩⟩:=Kv hq0
  refine ⟨_,(@A3 _ _ _ _ (@Dx _ _ _ _ _ (@Ab _ _ _ _ _ (@Bx _ _ _ _ _ _ _ (dv 0)) (@Ab _ _ _ _ _ (@Bx _ _ _ _ _ _ _ (dv 0)) (@Ab _ _ _ _ _ (@Bx _ _ _ _ _ _ _ (dv 0)) (@Ab _ _ _ _ _ (@Ap _ _ _ _ _ _ _ _ E8 Ae (@Bx _ _ _ _ _ _ _ (dv 0))) (@Ab _ _ _ _ _ (@Nf _ _ _ _ _ _ M3 (@Bx _ _ _ _ _ _ _ (dv 0))) Ag (by rfl)) (by rfl)) (by rfl)) (by rfl)) (by rfl)))),?_⟩
  cases e
  exact ⟨_,h,_,h,_,h,_,h,_,h,fun r H' s e=>k _ H' s ⟨r,rfl,e⟩⟩
theorem A9 {H H':Hp}{D:IC}(s:Aj H H')(h:H' D=none):H D=none:=by
 cases e:H D with
 |none=>rfl
 |some o=>
  rw [s _ _ e] at h
  cases h
def Fz (K:KKf)(ns:IH):Sp:=fun vs H Q _=>match vs with
 |[.ref L]=>∃gs,(Bk K H L gs∧(A7 gs).length<64)∧∀D H',Aj H H'→H D=none→H' D=some (.lst ((A7 gs).map V.str))→Q (.ref D) H'
 |_=>False
theorem Xe:Al ["games"] ["games"] (Ad Mf):=D9
include er n_sorted n_set in
theorem Xf (d:Bt K mg "players" Mf ["games"]):Bc P w K mg base "players" ["games"] 1 (Fz K ns):=by
 refine d.cal (k:=0) Xe (fun vs H Q E hq0=>?_) (fun f cdv A outer s H vs Q E hr hq0=>?_)
 ·obtain ⟨_,rfl,_⟩:=Kv hq0
  rfl
 ·obtain ⟨L,rfl,⟨gs,⟨⟨vs,hx,hm,hl⟩,h64⟩,k⟩⟩:=Kv hq0
  refine ⟨_,(@A3 _ _ _ _ (@Tc _ _ _ _ _ _ _ (by rfl) n_sorted (by rfl) n_set (@Ap _ _ _ _ _ _ _ _ L6 (@Cc _ _ _ _ _ _ _ _ _ _ ["played"] [] [] rfl (@A4 _ _ _ _ (dv 0)) (fun C s H fp=>(@Ar _ _ (0) _ (show List.Nodup [("played":Str)] by decide +kernel) rfl (by trivial) (by trivial))) (fun C s H fp=>(@Bx _ _ _ _ _ _ _ (dv 0))) rfl rfl (by decide +kernel) (by decide +kernel) (by rfl) ⟨⟩ ⟨⟩ (by intro _;rfl)) (@Cc _ _ _ _ _ _ _ _ _ _ ["played"] [] [] rfl (@A4 _ _ _ _ (dv 0)) (fun C s H fp=>(@Ar _ _ (0) _ (show List.Nodup [("played":Str)] by decide +kernel) rfl (by trivial) (by trivial))) (fun C s H fp=>(@Bx _ _ _ _ _ _ _ (dv 0))) rfl rfl (by decide +kernel) (by decide +kernel) (by rfl) ⟨⟩ ⟨⟩ (by intro _;rfl))) (by rfl) (by rfl) (by rfl))),?_⟩
  have hz:vs.length≤1000:=by rw [hm.len];omega
  refine ⟨L,rfl,⟨_,hx⟩,Ce Bp Bm (fun _ g y=>y=V.str g.a) (fun _ _ _ _ _ h=>h) hz hx hm ?_ ?_⟩
  ·intro v m H2 hM _ s2 P hP
   obtain ⟨p,rfl,e⟩:=hM
   exact ⟨rfl,_,e,hP _ _ (Aj.refl _) rfl⟩
  intro D1 H1 ys1 s1 _ e1 a1
  have y1:=Fk a1
  have hm1:Az (Bp H1) vs gs:=hm.imp fun v g r=>Bm v g _ _ (Bq s1) r
  refine ⟨L,rfl,⟨_,s1.seq hx⟩,Ce Bp Bm (fun _ g y=>y=V.str g.b) (fun _ _ _ _ _ h=>h) hz (s1.seq hx) hm1 ?_ ?_⟩
  ·intro v m H2 hM _ s2 P hP
   obtain ⟨p,rfl,e⟩:=hM
   exact ⟨rfl,_,e,hP _ _ (Aj.refl _) rfl⟩
  intro D2 H2 ys2 s2 _ e2 a2
  have y2:=Fk a2
  have l1:=a1.len
  have l2:=a2.len
  refine ⟨_,_,s2 _ _ e1,e2,by omega,fun D3 H3 s3 e3=>⟨gs.map (·.a)++gs.map (·.b),Au.of ?_,?_,h64,fun D hD=>?_⟩⟩
  ·rw [e3,y1,y2,BQ]
  ·rw [AG,AE,AE]
   omega
  ·have s:=s1.trans (s2.trans s3)
   exact k D _ (s.trans (Ah hD)) (A9 s hD) Ac
theorem Ed (n:Str)(l:IG):inV (.str n) (l.map V.str)=decide (n∈l):=by
 unfold inV
 rw [GE]
 by_cases h:n∈l
 ·rw [AR h,EA]
  exact ⟨n,h,by show (n==n)=true;simp⟩
 ·rw [BF h,FY]
  intro x hx e
  have e:(x==n)=true:=e
  exact h (FA e▸hx)
theorem Cm (l:IG):(l.map V.str).all Fu=true:=by
 rw [HZ]
 exact CI.mpr fun _ _=>rfl
def Ka (K:KKf)(ns:IH):Sp:=fun vs H Q _=>match vs with
 |[.ref L,.str n]=>∃gs,Bk K H L gs∧∀D H',Aj H H'→H D=none→Bk K H' D (tld n gs)→Q (.ref D) H'
 |_=>False
theorem Lc {vs:IP}{F:IC→Str→Prop}(h:match vs with|[.ref x0,.str x1]=>F x0 x1|_=>False):∃x0 x1,vs=[.ref x0,.str x1]∧F x0 x1:=by
 match vs,h with
 |[.ref x0,.str x1],h=>exact ⟨_,_,rfl,h⟩
theorem O9:Al ["games","name","own"] ["games","name"] (Ad Ly):=D9
include er in
theorem Yj (d:Bt K mg "told_by" Ly ["games","name"])  (c_turned:Bc P w K mg base "turned" ["played"] 1 (Rm K ns)):Bc P w K mg base "told_by" ["games","name"] 2 (Ka K ns):=by
 refine d.cal (k:=1) O9 (fun vs H Q E hq0=>?_) (fun f cdv A outer s H vs Q E hr hq0=>?_)
 ·obtain ⟨_,_,rfl,_⟩:=Lc hq0
  rfl
 ·obtain ⟨L,n,rfl,⟨gs,⟨vs,hx,hm,hl⟩,k⟩⟩:=Lc hq0
  refine ⟨_,(@Aa _ _ _ _ _ (@Ry _ _ _ _ _ _ _ _ _ (2) _ _ _ _ _ _ ["played"] ["name"] [1] rfl (@A4 _ _ _ _ (dv 0)) (fun C s H fp=>(@Ar _ _ (0) _ (show List.Nodup [("played":Str),("name":Str)] by decide +kernel) rfl (by trivial) (by trivial))) (fun C s H fp=>(@A0 _ _ _ _ _ _ _ _ (show Dh _ _ (Su K) from Q1) (dv 1) (@Dx _ _ _ _ _ (@Ab _ _ _ _ _ (@Bx _ _ _ _ _ _ _ (dv 0)) (@Ab _ _ _ _ _ (@Bx _ _ _ _ _ _ _ (dv 0)) Ag (by rfl)) (by rfl))) (by with_unfolding_all rfl))) (fun C s H fp=>(dv 0)) rfl rfl (by decide +kernel) (by decide +kernel) (by rfl) ⟨rfl,⟨⟩⟩ ⟨⟨rfl,rfl,rfl,rfl⟩,⟨⟩⟩ O9.nd rfl rfl (by intro _;rfl) (by rfl)) (@A3 _ _ _ _ (@Cc _ _ _ _ _ _ _ _ _ _ ["played"] ["name"] [1] rfl (@A4 _ _ _ _ (dv 2)) (fun C s H fp=>(@Ar _ _ (0) _ (show List.Nodup [("played":Str),("name":Str)] by decide +kernel) rfl (by trivial) (by trivial))) (fun C s H fp=>(@Ym _ _ _ _ _ _ _ _ (@A0 _ _ _ _ _ _ _ _ Ee (@Bx _ _ _ _ _ _ _ (dv 0)) (dv 1) (Aq _)) (dv 0) (@Af _ _ _ _ _ _ _ _ _ _ _ c_turned hr (@Bf _ _ _ (dv 0) (by rfl)) (by trivial)))) rfl rfl (by decide +kernel) (by decide +kernel) (by rfl) ⟨rfl,⟨⟩⟩ ⟨⟨rfl,rfl,rfl,rfl⟩,⟨⟩⟩ (by intro _;rfl)))),?_⟩
  have hz:vs.length≤1000:=by rw [hm.len];omega
  refine ⟨L,rfl,⟨_,hx⟩,Gx Bp Bm (fun H g y=>Bp H y g) (fun g y H H' kt h=>Bm y g H H' kt h) (Nq n) hz hx hm ?_ ?_⟩
  ·intro v m H2 hM _ s2 P P' hP hP'
   obtain ⟨p,rfl,e⟩:=hM
   refine ⟨rfl,_,e,_,e,fun T H3 s3 e3=>⟨_,.inr (F5.of e3),rfl,rfl,⟨fun h=>?_,fun h=>?_⟩⟩⟩
   ·have h:inV (.str n) ([m.a,m.b].map V.str)=true:=h
    rw [Ed] at h
    have h:=AU h
    refine hP ?_ _ _ s3 ⟨p,rfl,s3 _ _ e⟩
    unfold Nq
    simpa using h
   ·have h:inV (.str n) ([m.a,m.b].map V.str)=false:=h
    rw [Ed] at h
    have h:=CA h
    refine hP' ?_ _ s3
    unfold Nq
    simpa using h
  intro D1 H1 ys1 s1 d1 e1 a1
  have al:Az (Bp H1) ys1 (gs.filter (Nq n)):=R7 a1
  have zl:(gs.filter (Nq n)).length≤gs.length:=DE _ _
  refine ⟨D1,rfl,⟨_,Au.of e1⟩,Ce Bp Bm (fun H g y=>Bp H y (Rx n g)) (fun g y H H' kt h=>Bm y _ H H' kt h) (by rw [al.len];omega) (Au.of e1) al ?_ ?_⟩
  ·intro v m H2 hM _ s2 P hP
   obtain ⟨p,rfl,e⟩:=hM
   refine ⟨rfl,_,e,⟨fun h=>?_,fun h=>?_⟩⟩
   ·have h:=AU h
    refine hP _ _ (Aj.refl _) ?_
    rw [show Rx n m=m from AZ h]
    exact ⟨p,rfl,e⟩
   ·have h:=CA h
    refine ⟨m,⟨p,rfl,e⟩,fun y H3 s3 g3=>hP _ _ s3 ?_⟩
    rw [show Rx n m=trn m from AW h]
    exact g3
  intro D2 H2 ys2 s2 d2 e2 a2
  refine k D2 H2 (s1.trans s2) (A9 s1 d2) ⟨ys2,Au.of e2,V5 a2,?_⟩
  unfold tld
  rw [AE]
  omega
def Sa (K:KKf)(ns:IH):Sp:=fun vs H Q _=>match vs with
 |[.ref L,.str n]=>∃gs,(Bk K H L gs∧(Il n gs).length<64)∧∀D H',Aj H H'→H D=none→H' D=some (.lst ((Il n gs).map V.str))→Q (.ref D) H'
 |_=>False
theorem Abe:Al ["games","name"] ["games","name"] (Ad O8):=D9
include er n_sorted n_set in
theorem Aa1 (d:Bt K mg "takers" O8 ["games","name"])  (c_told_by:Bc P w K mg base "told_by" ["games","name"] 2 (Ka K ns)):Bc P w K mg base "takers" ["games","name"] 3 (Sa K ns):=by
 refine d.cal (k:=2) Abe (fun vs H Q E hq0=>?_) (fun f cdv A outer s H vs Q E hr hq0=>?_)
 ·obtain ⟨_,_,rfl,_⟩:=Lc hq0
  rfl
 ·obtain ⟨L,n,rfl,⟨gs,⟨hB,h64⟩,k⟩⟩:=Lc hq0
  refine ⟨_,(@A3 _ _ _ _ (@Tc _ _ _ _ _ _ _ (by rfl) n_sorted (by rfl) n_set (@Ln _ _ _ _ _ _ _ _ _ _ _ _ ["played"] [] [] rfl (@A4 _ _ _ _ (@Af _ _ _ _ _ _ _ _ _ _ _ c_told_by hr (@Ai _ _ _ _ _ (dv 0) (@Bf _ _ _ (dv 1) (by rfl)) (by rfl)) (by trivial))) (fun C s H fp=>(@Ar _ _ (0) _ (show List.Nodup [("played":Str)] by decide +kernel) rfl (by trivial) (by trivial))) (fun C s H fp=>(@A0 _ _ _ _ _ _ _ _ Of (@Bx _ _ _ _ _ _ _ (dv 0)) Ae (Aq _))) (fun C s H fp=>(@Bx _ _ _ _ _ _ _ (dv 0))) rfl rfl (by decide +kernel) (by decide +kernel) (by rfl) ⟨⟩ ⟨⟩ (by intro _;rfl)) (by rfl) (by rfl) (by rfl))),?_⟩
  refine ⟨gs,hB,fun D1 H1 s1 d1 ⟨vs,hx,hm,hl⟩=>?_⟩
  refine ⟨D1,rfl,⟨_,hx⟩,Gx Bp Bm (fun _ g y=>y=V.str g.b) (fun _ _ _ _ _ h=>h) (fun g=>decide (g.h<2)) (by rw [hm.len];omega) hx hm ?_ ?_⟩
  ·intro v m H2 hM _ s2 P P' hP hP'
   obtain ⟨p,rfl,e⟩:=hM
   exact ⟨rfl,_,e,⟨fun h=>⟨_,e,hP h _ _ (Aj.refl _) rfl⟩,fun h=>hP' h _ (Aj.refl _)⟩⟩
  intro D2 H2 ys2 s2 d2 e2 a2
  have y2:=Fk a2
  have zl:((tld n gs).filter fun g=>decide (g.h<2)).length≤(tld n gs).length:=DE _ _
  refine ⟨List.map Gm.b (List.filter (fun g:Gm=>decide (g.h<2)) (tld n gs)),Au.of (by rw [e2,y2]),by rw [AE];omega,h64,fun D hD=>?_⟩
  have s:=s1.trans s2
  exact k D _ (s.trans (Ah hD)) (A9 s hD) Ac
def Ey (K:KKf)(ns:IH):Sp:=fun vs H Q _=>match vs with
 |[.ref L,.str n]=>∃gs,(Bk K H L gs∧(A7 gs).length<64)∧n∈A7 gs∧∀H',Aj H H'→Q .non H'
 |_=>False
theorem Nv:Al ["games","name"] ["games","name"] (Ad F3):=D9
include er in
theorem Np (d:Bt K mg "check_player" F3 ["games","name"])  (c_players:Bc P w K mg base "players" ["games"] 1 (Fz K ns)):Bc P w K mg base "check_player" ["games","name"] 2 (Ey K ns):=by
 refine d.cal (k:=1) Nv (fun vs H Q E hq0=>?_) (fun f cdv A outer s H vs Q E hr hq0=>?_)
 ·obtain ⟨_,_,rfl,_⟩:=Lc hq0
  rfl
 ·obtain ⟨L,n,rfl,⟨gs,⟨hB,h64⟩,hn,k⟩⟩:=Lc hq0
  refine ⟨_,(@An _ _ _ (@Bl _ _ _ _ _ _ _ _ (@A0 _ _ _ _ _ _ _ _ Zt (dv 1) (@Af _ _ _ _ _ _ _ _ _ _ _ c_players hr (@Bf _ _ _ (dv 0) (by rfl)) (by trivial)) (by with_unfolding_all rfl)) (@An _ _ _ Ba) Ao)),?_⟩
  refine ⟨gs,⟨hB,h64⟩,fun D1 H1 s1 d1 e1=>⟨_,.inl (Au.of e1),rfl,Cm _,?_⟩⟩
  rw [Ed,AR hn]
  exact ⟨fun h=>nb h,fun _=>k H1 s1⟩
theorem Acb {α:Type}{xs:List α}{v:α}(h:xs.getLast? =some v):Na xs (-1)=some v:=by
 have h0:xs≠[]:=fun e=>by simp [e] at h
 have hl:0<xs.length:=List.length_pos_iff.mpr h0
 unfold Na ixN
 rw [AW (by decide),AZ (by omega)]
 show xs[(xs.length+(-1:Int)).toNat]? =some v
 rw [show (xs.length+(-1:Int)).toNat=xs.length-1 by omega,←h,GQ]
def Qh (v:V)(lo hi:Int):Bool:=match v with
 |.int i=>decide (lo≤i)&&decide (i≤hi)
 |_=>false
def Ei (K:KKf)(ns:IH):Sp:=fun vs H Q _=>match vs with
 |[v,.int lo,.int hi]=>Kd H v∧Q (.bl (Qh v lo hi)) H
 |_=>False
theorem Aie {vs:IP}{F:V→Int→Int→Prop}(h:match vs with|[x0,.int x1,.int x2]=>F x0 x1 x2|_=>False):∃x0 x1 x2,vs=[x0,.int x1,.int x2]∧F x0 x1 x2:=by
 match vs,h with
 |[x0,.int x1,.int x2],h=>exact ⟨_,_,_,rfl,h⟩
theorem Qt:Al ["thing","least","most"] ["thing","least","most"] (Ad Hk):=D9
include er in
theorem Ql (d:Bt K mg "is_between" Hk ["thing","least","most"])  (c_is_whole:Bc P w K mg base "is_whole" ["thing"] 1 (Je K ns)):Bc P w K mg base "is_between" ["thing","least","most"] 2 (Ei K ns):=by
 refine d.cal (k:=1) Qt (fun vs H Q E hq0=>?_) (fun f cdv A outer s H vs Q E hr hq0=>?_)
 ·obtain ⟨_,_,_,rfl,_⟩:=Aie hq0
  rfl
 ·obtain ⟨v,lo,hi,rfl,⟨kd,q⟩⟩:=Aie hq0
  refine ⟨_,(@A3 _ _ _ _ (@J4 _ _ _ _ _ _ _ (@Af _ _ _ _ _ _ _ _ _ _ _ c_is_whole hr (@Bf _ _ _ (dv 0) (by rfl)) (by trivial)) (@G3 _ _ _ _ _ (@Agm _ _ _ _ _ _ _ _ _ _ _ _ Qr Qr (dv 1) (dv 0) (dv 2) (by with_unfolding_all rfl))))),?_⟩
  match v,kd,q with
  | .int i,_,q=>
   refine ⟨⟨⟩,⟨fun _=>⟨fun h=>?_,fun h=>?_⟩,fun h=>nb h⟩⟩
   ·have e:Qh (.int i) lo hi=decide (i≤hi):=by
     have h:decide (lo≤i)=true:=h
     simp only [Qh,h,HK]
    rw [e] at q
    exact q
   ·have e:Qh (.int i) lo hi=false:=by
     have h:decide (lo≤i)=false:=h
     simp only [Qh,h,EB]
    rw [e] at q
    exact q
  |.bl _,kd,q=>exact ⟨kd,⟨fun h=>nb h,fun _=>q⟩⟩
  |.non,kd,q=>exact ⟨kd,⟨fun h=>nb h,fun _=>q⟩⟩
  |.str _,kd,q=>exact ⟨kd,⟨fun h=>nb h,fun _=>q⟩⟩
  |.ref _,kd,q=>exact ⟨kd,⟨fun h=>nb h,fun _=>q⟩⟩
  |.flt _,kd,_=>exact kd.elim
  |.byt _,kd,_=>exact kd.elim
  |.ty _,kd,_=>exact kd.elim
def Kb (K:KKf)(ns:IH):Sp:=fun vs H Q _=>match vs with
 |[.ref t]=>∃a b,TuA K H t [a,b]∧Q (.bl true) H
 |_=>False
theorem Xb:Al ["thing"] ["thing"] (Ad Lu):=D9
include er n_len n_isinstance n_tuple in
theorem Yo (d:Bt K mg "is_pair" Lu ["thing"]):Bc P w K mg base "is_pair" ["thing"] 1 (Kb K ns):=by
 refine d.cal (k:=0) Xb (fun vs H Q E hq0=>?_) (fun f cdv A outer s H vs Q E hr hq0=>?_)
 ·obtain ⟨_,rfl,_⟩:=Kv hq0
  rfl
 ·obtain ⟨t,rfl,⟨a,b,h,q⟩⟩:=Kv hq0
  refine ⟨_,(@A3 _ _ _ _ (@J4 _ _ _ _ _ _ _ (@Av _ _ _ _ _ _ _ _ _ Ak6 n_isinstance (by decide +kernel) (@Ai _ _ _ _ _ (dv 0) (@Bf _ _ _ (Wd "tuple" (by rfl) n_tuple (by decide +kernel)) (by rfl)) (by rfl)) (by trivial)) (@G3 _ _ _ _ _ (@Bh _ _ _ _ _ _ _ _ Ee (@Av _ _ _ _ _ _ _ _ _ D6 n_len (by decide +kernel) (@Bf _ _ _ (dv 0) (by rfl)) (by trivial)) Ae (Aq _))))),?_⟩
  exact ⟨h.isi,rfl,⟨fun _=>⟨_,.inr h.sq,q⟩,fun h=>nb h⟩⟩
theorem Afc {p q:Int}(h:Int.gcd p q=1):Yn p q=p∧X5 p q=q:=by
 unfold Yn X5
 rw [h]
 exact ⟨Int.ediv_one _,Int.ediv_one _⟩
theorem Alo {t b:Int}(hb:0<b):frT t b=Yn t b∧frB t b=X5 t b:=by
 unfold frT frB
 rw [AW (by omega),AW (by omega)]
 exact ⟨rfl,rfl⟩
def qd (x:Q2):PyData:=.tuple [.int x.1,.int x.2]
theorem Ajg (p q:Q2):PyData.eqv (qd p) (qd q)=decide (p=q):=by
 show ((p.1==q.1)&&((p.2==q.2)&&true))=_
 obtain ⟨a,b⟩:=p
 obtain ⟨c,d⟩:=q
 rw [Bool.and_true]
 by_cases h1:a=c<;>by_cases h2:b=d<;>simp [h1,h2]
def Acm (r:Int×Int×Int):Prop:=(0≤r.1∧r.1≤1000000)∧(1≤r.2.2∧r.2.2≤9999∧0≤r.2.1∧r.2.1≤r.2.2∧Int.gcd r.2.1 r.2.2=1)
theorem Ad7 {i lo hi:Int}(h0:lo≤i)(h1:i≤hi):Qh (.int i) lo hi=true:=by
 simp only [Qh,AR h0,AR h1,Bool.and_true]
def Ng (K:KKf)(ns:IH):Sp:=fun vs H Q _=>match vs with
 |[.ref t]=>∃r:Int×Int×Int,(TuA K H t [.int r.2.1,.int r.2.2]∧Acm r)∧∀H',Aj H H'→Q (.bl true) H'
 |_=>False
theorem Vg:Al ["thing"] ["thing"] (Ad Kc):=D9
include er in
theorem Vi (d:Bt K mg "is_share" Kc ["thing"])(v_MOST_PART:Gr mg "MOST_PART" (.int (9999)))(c_fraction:Bc P w K mg base "fraction" ["top","bottom"] 2 (M5 K ns))(c_is_between:Bc P w K mg base "is_between" ["thing","least","most"] 2 (Ei K ns))(c_is_pair:Bc P w K mg base "is_pair" ["thing"] 1 (Kb K ns)):Bc P w K mg base "is_share" ["thing"] 3 (Ng K ns):=by
 refine d.cal (k:=2) Vg (fun vs H Q E hq0=>?_) (fun f cdv A outer s H vs Q E hr hq0=>?_)
 ·obtain ⟨_,rfl,_⟩:=Kv hq0
  rfl
 ·obtain ⟨t,rfl,⟨r,⟨e,ok⟩,k⟩⟩:=Kv hq0
  refine ⟨_,(@Aa _ _ _ _ _ (@Bl _ _ _ _ _ _ _ _ (@L2.PW.pt _ _ _ (@J9 _ _ _ _ _ _ _ (@Bw _ _ _ _ (@Ci _ _ _ (@Af _ _ _ _ _ _ _ _ _ _ _ c_is_pair hr (@Bf _ _ _ (dv 0) (by rfl)) (by trivial)) (by intro _;rfl))) (@J9 _ _ _ _ _ _ _ (@Bw _ _ _ _ (@Ci _ _ _ (@Af _ _ _ _ _ _ _ _ _ _ _ c_is_between hr (@Ai _ _ _ _ _ (@Hg _ _ _ _ _ _ _ (dv 0)) (@Ai _ _ _ _ _ Ae (@Bf _ _ _ (Cv v_MOST_PART (by rfl)) (by rfl)) (by rfl)) (by rfl)) (by trivial)) (by intro _;rfl))) (@Fp _ _ _ _ (@Bw _ _ _ _ (@Ci _ _ _ (@Af _ _ _ _ _ _ _ _ _ _ _ c_is_between hr (@Ai _ _ _ _ _ (@Hg _ _ _ _ _ _ _ (dv 0)) (@Ai _ _ _ _ _ Ae (@Bf _ _ _ (@Hg _ _ _ _ _ _ _ (dv 0)) (by rfl)) (by rfl)) (by rfl)) (by trivial)) (by intro _;rfl))))))) (@A3 _ _ _ _ Fw) Ao) (@A3 _ _ _ _ (@Bh _ _ _ _ _ _ _ _ (@Pa _ hr.units) (@Af _ _ _ _ _ _ _ _ _ _ _ c_fraction hr (@Ai _ _ _ _ _ (@Hg _ _ _ _ _ _ _ (dv 0)) (@Bf _ _ _ (@Hg _ _ _ _ _ _ _ (dv 0)) (by rfl)) (by rfl)) (by trivial)) (dv 0) (Aq _)))),?_⟩
  obtain ⟨_,o1,o2,o3,o4,og⟩:=ok
  have b1:=Ad7 o1 o2
  have b2:=Ad7 o3 o4
  refine ⟨_,_,e,⟨fun h=>nb h,fun _=>⟨_,e.sq,⟨⟩,⟨fun h=>?_,fun _=>⟨_,e.sq,_,e.sq,⟨⟩,⟨fun h=>?_,fun _=>?_⟩⟩⟩⟩⟩⟩
  ·rw [b1] at h
   exact nb h
  ·rw [b2] at h
   exact nb h
  refine ⟨_,e.sq,_,e.sq,⟨by omega,Lg (b:=9999) (by omega) (by omega) (Ca rfl)⟩,fun x H' s' f=>⟨qd (frT r.2.1 r.2.2,frB r.2.1 r.2.2),qd r.2,.tup (F5.of f.at') (.cons (.int _) (.cons (.int _) .nil)),.tup (W9 s' e.sq) (.cons (.int _) (.cons (.int _) .nil)),rfl,rfl,?_⟩⟩
  obtain ⟨e1,e2⟩:=Alo (t:=r.2.1) (b:=r.2.2) (by omega)
  obtain ⟨e3,e4⟩:=Afc og
  rw [Ajg,e1,e2,e3,e4,AR rfl]
  exact k H' s'
def Js (K:KKf)(H:Hp)(v:V)(r:Int×Int×Int):Prop:=∃t u,v=.ref t∧TuA K H t [.int r.1,.ref u]∧TuA K H u [.int r.2.1,.int r.2.2]
theorem Ht {K:KKf}(v:V)(r:Int×Int×Int)(H H':Hp)(k:Kt H H')(h:Js K H v r):Js K H' v r:=by
 obtain ⟨t,u,e,h1,h2⟩:=h
 exact ⟨t,u,e,h1.up k,h2.up k⟩
def Rc (K:KKf)(ns:IH):Sp:=fun vs H Q _=>match vs with
 |[v]=>∃r,(Js K H v r∧Acm r)∧∀H',Aj H H'→Q (.bl true) H'
 |_=>False
theorem m_v {vs:IP}{F:V→Prop}(h:match vs with|[x0]=>F x0|_=>False):∃x0,vs=[x0]∧F x0:=by
 match vs,h with
 |[x0],h=>exact ⟨_,rfl,h⟩
theorem Aa3:Al ["thing"] ["thing"] (Ad O4):=D9
include er in
theorem Ab3 (d:Bt K mg "is_row" O4 ["thing"])(v_LAST_FROM:Gr mg "LAST_FROM" (.int (1000000)))(c_is_share:Bc P w K mg base "is_share" ["thing"] 3 (Ng K ns))(c_is_between:Bc P w K mg base "is_between" ["thing","least","most"] 2 (Ei K ns))(c_is_pair:Bc P w K mg base "is_pair" ["thing"] 1 (Kb K ns)):Bc P w K mg base "is_row" ["thing"] 4 (Rc K ns):=by
 refine d.cal (k:=3) Aa3 (fun vs H Q E hq0=>?_) (fun f cdv A outer s H vs Q E hr hq0=>?_)
 ·obtain ⟨_,rfl,_⟩:=m_v hq0
  rfl
 ·obtain ⟨v,rfl,⟨r,⟨⟨t,u,ev,h1,h2⟩,ok⟩,k⟩⟩:=m_v hq0
  refine ⟨_,(@A3 _ _ _ _ (@J4 _ _ _ _ _ _ _ (@Af _ _ _ _ _ _ _ _ _ _ _ c_is_pair hr (@Bf _ _ _ (dv 0) (by rfl)) (by trivial)) (@J4 _ _ _ _ _ _ _ (@Af _ _ _ _ _ _ _ _ _ _ _ c_is_between hr (@Ai _ _ _ _ _ (@Hg _ _ _ _ _ _ _ (dv 0)) (@Ai _ _ _ _ _ Ae (@Bf _ _ _ (Cv v_LAST_FROM (by rfl)) (by rfl)) (by rfl)) (by rfl)) (by trivial)) (@G3 _ _ _ _ _ (@Af _ _ _ _ _ _ _ _ _ _ _ c_is_share hr (@Bf _ _ _ (@Hg _ _ _ _ _ _ _ (dv 0)) (by rfl)) (by trivial)))))),?_⟩
  subst ev
  have b1:=Ad7 ok.1.1 ok.1.2
  refine ⟨_,_,h1,⟨fun _=>⟨_,h1.sq,⟨⟩,⟨fun _=>⟨_,h1.sq,r,⟨h2,ok⟩,k⟩,fun h=>?_⟩⟩,fun h=>nb h⟩⟩
  rw [b1] at h
  exact nb h
def goR (a b:Int×Int×Int):Bool:=decide (a.1<b.1)&&decide (¬b.2.1*a.2.2<a.2.1*b.2.2)
def Ws (K:KKf)(ns:IH):Sp:=fun vs H Q _=>match vs with
 |[.ref a,.ref b]=>∃p q p' q':Int,(TuA K H a [.int p,.int q]∧TuA K H b [.int p',.int q'])∧(Bd 1900 p∧Bd 1900 q∧Bd 1900 p'∧Bd 1900 q')∧Q (.bl (decide (p*q'<p'*q))) H
 |_=>False
theorem Qq {vs:IP}{F:IC→IC→Prop}(h:match vs with|[.ref x0,.ref x1]=>F x0 x1|_=>False):∃x0 x1,vs=[.ref x0,.ref x1]∧F x0 x1:=by
 match vs,h with
 |[.ref x0,.ref x1],h=>exact ⟨_,_,rfl,h⟩
theorem Ade:Al ["one","other"] ["one","other"] (Ad Th):=D9
include er in
theorem Afa (d:Bt K mg "under" Th ["one","other"]):Bc P w K mg base "under" ["one","other"] 1 (Ws K ns):=by
 refine d.cal (k:=0) Ade (fun vs H Q E hq0=>?_) (fun f cdv A outer s H vs Q E hr hq0=>?_)
 ·obtain ⟨_,_,rfl,_⟩:=Qq hq0
  rfl
 ·obtain ⟨a,b,rfl,⟨p,q,p',q',⟨ha,hb⟩,⟨b1,b2,b3,b4⟩,k⟩⟩:=Qq hq0
  refine ⟨_,(@A3 _ _ _ _ (@Bh _ _ _ _ _ _ _ _ Of (@Ap _ _ _ _ _ _ _ _ Eb (@Hg _ _ _ _ _ _ _ (dv 0)) (@Hg _ _ _ _ _ _ _ (dv 1))) (@Ap _ _ _ _ _ _ _ _ Eb (@Hg _ _ _ _ _ _ _ (dv 1)) (@Hg _ _ _ _ _ _ _ (dv 0))) (Aq _))),?_⟩
  exact ⟨_,ha.sq,_,hb.sq,Ut b1 b4 (by decide) (by decide),_,hb.sq,_,ha.sq,Ut b3 b2 (by decide) (by decide),k⟩
def P6 (K:KKf)(ns:IH):Sp:=fun vs H Q _=>match vs with
 |[v,u]=>∃a b,(Js K H v a∧Js K H u b)∧(Bd 20 a.2.1∧Bd 20 a.2.2∧Bd 20 b.2.1∧Bd 20 b.2.2)∧Q (.bl (goR a b)) H
 |_=>False
theorem An7 {vs:IP}{F:V→V→Prop}(h:match vs with|[x0,x1]=>F x0 x1|_=>False):∃x0 x1,vs=[x0,x1]∧F x0 x1:=by
 match vs,h with
 |[x0,x1],h=>exact ⟨_,_,rfl,h⟩
theorem Xw:Al ["row","later"] ["row","later"] (Ad Lr):=D9
include er in
theorem Xq (d:Bt K mg "goes_on" Lr ["row","later"])  (c_under:Bc P w K mg base "under" ["one","other"] 1 (Ws K ns)):Bc P w K mg base "goes_on" ["row","later"] 2 (P6 K ns):=by
 refine d.cal (k:=1) Xw (fun vs H Q E hq0=>?_) (fun f cdv A outer s H vs Q E hr hq0=>?_)
 ·obtain ⟨_,_,rfl,_⟩:=An7 hq0
  rfl
 ·obtain ⟨v,u,rfl,⟨a,b,⟨⟨t,x,ev,h1,h2⟩,⟨t',x',eu,h1',h2'⟩⟩,⟨b1,b2,b3,b4⟩,k⟩⟩:=An7 hq0
  refine ⟨_,(@A3 _ _ _ _ (@J4 _ _ _ _ _ _ _ (@Bh _ _ _ _ _ _ _ _ Of (@Hg _ _ _ _ _ _ _ (dv 0)) (@Hg _ _ _ _ _ _ _ (dv 1)) (Aq _)) (@G3 _ _ _ _ _ (@Aik _ _ _ _ (@Af _ _ _ _ _ _ _ _ _ _ _ c_under hr (@Ai _ _ _ _ _ (@Hg _ _ _ _ _ _ _ (dv 1)) (@Bf _ _ _ (@Hg _ _ _ _ _ _ _ (dv 0)) (by rfl)) (by rfl)) (by trivial)))))),?_⟩
  subst ev
  subst eu
  refine ⟨_,h1.sq,_,h1'.sq,⟨fun h=>⟨_,h1'.sq,_,h1.sq,_,_,_,_,⟨h2',h2⟩,⟨b3.mono (by decide),b4.mono (by decide),b1.mono (by decide),b2.mono (by decide)⟩,?_⟩,fun h=>?_⟩⟩
  ·have h:decide (a.1<b.1)=true:=h
   have e:goR a b=!decide (b.2.1*a.2.2<a.2.1*b.2.2):=by
    unfold goR
    rw [h,HK,decide_not]
   rw [e] at k
   exact k
  ·have h:decide (a.1<b.1)=false:=h
   have e:goR a b=false:=by
    unfold goR
    rw [h,EB]
   rw [e] at k
   exact k
def chn:List (Int×Int×Int)→Bool
 |a::b::l=>goR a b&&chn (b::l)
 |_=>true
def Ri (rows:List (Int×Int×Int)):Prop:=(1≤rows.length∧rows.length≤10)∧(∀r∈rows,Acm r)∧rows[0]? =some (0,1,2)∧chn rows=true
def rd3 (r:Int×Int×Int):PyData:=.tuple [.int r.1,.tuple [.int r.2.1,.int r.2.2]]
theorem An8 {K:KKf}{H:Hp}{v:V}{r:Int×Int×Int}(h:Js K H v r):Rp K H v (rd3 r):=by
 obtain ⟨t,u,e,h1,h2⟩:=h
 subst e
 exact .tup h1.sq (.cons (.int _) (.cons (.tup h2.sq (.cons (.int _) (.cons (.int _) .nil))) .nil))
theorem Ag4 (p q:Int×Int×Int):PyData.eqv (rd3 p) (rd3 q)=decide (p=q):=by
 show ((p.1==q.1)&&(((p.2.1==q.2.1)&&((p.2.2==q.2.2)&&true))&&true))=_
 obtain ⟨a,b,c⟩:=p
 obtain ⟨a',b',c'⟩:=q
 by_cases h1:a=a'<;>by_cases h2:b=b'<;>by_cases h3:c=c'<;>simp [h1,h2,h3]
theorem Ae6 {c:Bool}{K:KKf}{H H':Hp}{a:IC}{xs:IP}(s:Aj H H')(h:Vl c K H a xs):Vl c K H' a xs:=by
 cases c with
 |true=>exact s.seq h
 |false=>exact W9 s h
theorem Ji {ca cb:Bool}{β:Type}{K:KKf}{a b:IC}{xs ys:IP}{ms:List β}{g:TG}{te:TE}{k:Nat}{js:IM}{σ:L2.St}{H1:Hp}{Q:VK}(M:Hp→V→V→β→Prop)(upM:∀v u m H H',Kt H H'→M H v u m→M H' v u m)(R:Hp→β→V→Prop)(up:∀m y H H',Kt H H'→R H m y→R H' m y)
  (hz:ms.length≤1000) (hx:Vl ca K H1 a xs) (hy:Vl cb K H1 b ys) (lx:ms.length≤xs.length) (ly:ys.length=ms.length) (hm:∀(i:Nat) x y m,xs[i]? =some x→ys[i]? =some y→ms[i]? =some m→M H1 x y m)
  (hs:∀x y m t H2,M H2 x y m→m∈ms→Aj H1 H2→H2 t=some (.tup [x,y])→∀P:VK,(∀y H3,Aj H2 H3→R H3 m y→P y H3)→g (.ref t) (List.replicate k none++capσ js σ) H2 fun σ2 H3=>σ2.drop k=capσ js σ∧te σ2 H3 P)
  (hq:∀D H' zs,Aj H1 H'→H1 D=none→H' D=some (.lst zs)→Az (R H') ms zs→Q (.ref D) H'):Hr (Itz ca cb K a b) g te k js σ H1 Q:=by
 unfold Hr
 intro D hD
 refine ⟨fun i m H=>m=ms.length-i∧i≤ms.length∧Aj H1 H∧∃zs,H D=some (.lst zs)∧Az (R H) (ms.take i) zs,⟨ms.length,by simp,BK _,Ah hD,[],Ac,.nil⟩,?_⟩
 rintro i m H ⟨rfl,hi,sm,zs,hH,ar⟩
 have sq1:Vl ca K H a xs:=Ae6 sm hx
 have sq2:Vl cb K H b ys:=Ae6 sm hy
 by_cases hlt:i<ms.length
 ·have e1:xs[i]? =some (xs[i]'(by omega)):=AD _
  have e2:ys[i]? =some (ys[i]'(by omega)):=AD _
  have e3:ms[i]? =some ms[i]:=AD _
  refine .inr ⟨⟨xs,ys,_,_,sq1,sq2,e1,e2⟩,fun v H' yl=>?_⟩
  obtain ⟨t,x,y,rfl,ht,rfl,y1,y2⟩:=yl
  have st:Aj H (upd H t (.tup [x,y])):=Ah ht
  have et:upd H t (.tup [x,y]) t=some (.tup [x,y]):=Ac
  generalize upd H t (.tup [x,y])=H2 at st et
  have hH:=st _ _ hH
  have s2:=sm.trans st
  have hM:=hm i x y _ (y1 xs sq1) (y2 ys sq2) e3
  refine hs x y _ t H2 (upM _ _ _ _ _ (Bq s2) hM) (AN e3) s2 et _ fun u H3 s3 r3=>⟨zs,s3 _ _ hH,?_,ms.length-(i+1),by omega,rfl,hlt,B6 (s2.trans s3) hD,zs++[u],Ac,?_⟩
  ·rw [←ar.len,CH]
   exact BO (GP _ _) (AV hlt (AI hz (by decide)))
  ·have kt:Kt H3 (upd H3 D (.lst (zs++[u]))):=Mw (s3 _ _ hH)
   rw [BY,e3]
   exact (ar.imp fun v y r=>up v y _ _ ((Bq (st.trans s3)).trans kt) r).snoc (up _ _ _ _ kt r3)
 ·have e:i=ms.length:=by omega
  subst e
  rw [CO] at ar
  exact .inl ⟨⟨xs,ys,sq1,sq2,.inr (by omega)⟩,hq D _ zs sm hD hH ar⟩
theorem Afi {α:Type}{f:α→Bool}:∀{l:List α} {ys:IP},Az (fun o y=>y=V.bl (f o)) l ys→ys=(l.map f).map V.bl
 |_,_,.nil=>rfl
 |_,_,.cons h t=>by rw [h,Afi t];rfl
theorem Zf:∀(rows:List (Int×Int×Int)),chn rows=((rows.zip (rows.drop 1)).map fun m=>goR m.1 m.2).all id
 |[]=>rfl
 |[_]=>rfl
 |a::b::l=>by
  show (goR a b&&chn (b::l))=_
  rw [Zf (b::l)]
  rfl
theorem Ad6 {xs:IP}{j:Nat}(h:j≤xs.length):Fd xs (some (j:Int)) none=xs.drop j:=by
 unfold Fd
 rw [HT.sIx_none,HT.sIx_nat,Nat.min_eq_left h]
 apply FS
 rw [Eh]
 exact AF _
def M4 (K:KKf)(ns:IH):Sp:=fun vs H Q _=>match vs with
 |[.ref l]=>∃vs rows,(H l=some (.lst vs)∧Az (Js K H) vs rows∧Ri rows)∧∀D H',Aj H H'→H D=none→H' D=some (.lst vs)→Q (.ref D) H'
 |_=>False
theorem Uz:Al ["rows"] ["rows"] (Ad J6):=D9
include er n_list n_all n_zip n_len n_isinstance in
theorem Wm (d:Bt K mg "table_of" J6 ["rows"])(v_FIRST_ROW:Gr mg "FIRST_ROW" (.ref a_FIRST_ROW))(w_FIRST_ROW:B9 K a_FIRST_ROW [.int (0),.ref b_FIRST_ROW_1])(w_FIRST_ROW_1:B9 K b_FIRST_ROW_1 [.int (1),.int (2)])(v_MOST_ROWS:Gr mg "MOST_ROWS" (.int (10)))(c_goes_on:Bc P w K mg base "goes_on" ["row","later"] 2 (P6 K ns))(c_is_row:Bc P w K mg base "is_row" ["thing"] 4 (Rc K ns)):Bc P w K mg base "table_of" ["rows"] 5 (M4 K ns):=by
 refine d.cal (k:=4) Uz (fun vs H Q E hq0=>?_) (fun f cdv A outer s H vs Q E hr hq0=>?_)
 ·obtain ⟨_,rfl,_⟩:=Kv hq0
  rfl
 ·obtain ⟨l,rfl,⟨vs',rows,⟨e,ro,⟨⟨g1,g2⟩,hrw,hr0,hc⟩⟩,k⟩⟩:=Kv hq0
  refine ⟨_,(@Aa _ _ _ _ _ (@Bl _ _ _ _ _ _ _ _ (@L2.PW.pt _ _ _ (@J9 _ _ _ _ _ _ _ (@Bw _ _ _ _ (@Ci _ _ _ (@Av _ _ _ _ _ _ _ _ _ Pj n_isinstance (by decide +kernel) (@Ai _ _ _ _ _ (dv 0) (@Bf _ _ _ (Wd "list" (by rfl) n_list (by decide +kernel)) (by rfl)) (by rfl)) (by trivial)) (by intro _;rfl))) (@Fp _ _ _ _ (@Bw _ _ _ _ (@N4 _ _ _ _ _ _ _ _ _ _ _ _ Qr Qr Ae (@Av _ _ _ _ _ _ _ _ _ D6 n_len (by decide +kernel) (@Bf _ _ _ (dv 0) (by rfl)) (by trivial)) (Cv v_MOST_ROWS (by rfl)) (by with_unfolding_all rfl)))))) (@An _ _ _ Ba) Ao) (@Aa _ _ _ _ _ (@Bl _ _ _ _ _ _ _ _ (@Bw _ _ _ _ (@Ci _ _ _ (@Av _ _ _ _ _ _ _ _ _ (@Vc _ rfl) n_all (by decide +kernel) (@Bf _ _ _ (@Cc _ _ _ _ _ _ _ _ _ _ ["row"] [] [] rfl (@A4 _ _ _ _ (dv 0)) (fun C s H fp=>(@Ar _ _ (0) _ (show List.Nodup [("row":Str)] by decide +kernel) rfl (by trivial) (by trivial))) (fun C s H fp=>(@Af _ _ _ _ _ _ _ _ _ _ _ c_is_row hr (@Bf _ _ _ (dv 0) (by rfl)) (by trivial))) rfl rfl (by decide +kernel) (by decide +kernel) (by rfl) ⟨⟩ ⟨⟩ (by intro _;rfl)) (by rfl)) (by trivial)) (by intro _;rfl))) (@An _ _ _ Ba) Ao) (@Aa _ _ _ _ _ (@Bl _ _ _ _ _ _ _ _ (@A0 _ _ _ _ _ _ _ _ (@Rh _ hr.units) (@Gv _ _ _ _ _ _ _ (dv 0)) (Cv v_FIRST_ROW (by rfl)) (Aq _)) (@An _ _ _ Ba) Ao) (@Aa _ _ _ _ _ (@Bl _ _ _ _ _ _ _ _ (@Bw _ _ _ _ (@Ci _ _ _ (@Av _ _ _ _ _ _ _ _ _ (@Vc _ rfl) n_all (by decide +kernel) (@Bf _ _ _ (@Cc _ _ _ _ _ _ _ _ _ _ ["row","later"] [] [] rfl (@Ach _ true true _ _ _ _ _ _ _ _ (by rfl) n_zip (@Ab _ _ _ _ _ (dv 0) (@Ab _ _ _ _ _ (@C7 _ _ _ _ _ _ _ _ _ _ Ac7 (dv 0) (Cj Ae) Jj) Ag (by rfl)) (by rfl)) (by rfl) (by rfl)) (fun C s H fp=>(show PG _ _ (Ah3 K 2 _) from Mv rfl (Be (Ar (i:=0) (show List.Nodup [("row":Str),("later":Str)] by decide +kernel) rfl (by trivial)) (Be (Ar (i:=1) (show List.Nodup [("row":Str),("later":Str)] by decide +kernel) rfl (by trivial)) Jn)))) (fun C s H fp=>(@Af _ _ _ _ _ _ _ _ _ _ _ c_goes_on hr (@Ai _ _ _ _ _ (dv 0) (@Bf _ _ _ (dv 1) (by rfl)) (by rfl)) (by trivial))) rfl rfl (by decide +kernel) (by decide +kernel) (by rfl) ⟨⟩ ⟨⟩ (by intro _;rfl)) (by rfl)) (by trivial)) (by intro _;rfl))) (@An _ _ _ Ba) Ao) (@A3 _ _ _ _ (@Cb _ _ _ _ _ _ _ _ _ N9 n_list (by decide +kernel) (@Bf _ _ _ (dv 0) (by rfl)) (by trivial))))))),?_⟩
  have lr:vs'.length=rows.length:=ro.len
  refine ⟨_,true,_,e,rfl,rfl,⟨fun h=>nb h,fun _=>⟨_,.inl (Au.of e),⟨fun h1=>⟨fun h2=>?_,fun _=>?_⟩,fun h1=>?_⟩⟩⟩⟩
  ·have h2:¬(vs'.length:Int)≤10:=by simpa using h2
   omega
  rotate_left
  ·have h1:¬(1:Int)≤(vs'.length:Int):=CA h1
   omega
  refine ⟨l,rfl,⟨_,Au.of e⟩,Ce (fun _ v r=>Js K H v r) (fun _ _ _ _ _ h=>h) (fun _ _ y=>y=V.bl true) (fun _ _ _ _ _ h=>h) (by omega) (Au.of e) ro ?_ ?_⟩
  ·intro v r H1 hM hm s1 P hP
   exact ⟨rfl,r,⟨Ht _ _ _ _ (Bq s1) hM,hrw r hm⟩,fun H2 s2=>hP _ _ s2 rfl⟩
  intro D1 H1 ys s1 _ e1 a1
  have y1:=Afi (f:=fun _=>true) a1
  refine ⟨rows.map fun _=>true,by rw [←y1];exact Au.of e1,⟨fun h=>?_,fun _=>?_⟩⟩
  ·have:(rows.map fun _=>true).all id=true:=by rw [HZ];exact CI.mpr fun _ _=>rfl
   rw [this] at h
   exact nb h
  have ro1:Az (Js K H1) vs' rows:=ro.imp fun v r h=>Ht v r _ _ (Bq s1) h
  obtain ⟨v0,hv0⟩:∃v0,vs'[0]? =some v0:=⟨_,AD (by omega)⟩
  obtain ⟨r0,hr0',ro0⟩:=ro1.get hv0
  rw [hr0] at hr0'
  cases hr0'
  refine ⟨_,_,Au.of (s1 _ _ e),A1 hv0,_,_,An8 ro0,.tup (w_FIRST_ROW.sq H1) (.cons (.int _) (.cons (.tup (w_FIRST_ROW_1.sq H1) (.cons (.int _) (.cons (.int _) .nil))) .nil)),rfl,rfl,?_⟩
  have ed:PyData.eqv (rd3 (0,1,2)) (.tuple [.int 0,.tuple [.int 1,.int 2]])=true:=by rw [show PyData.tuple [.int 0,.tuple [.int 1,.int 2]]=rd3 (0,1,2) from rfl,Ag4,AR rfl]
  rw [ed]
  refine ⟨fun h=>nb h,fun _=>?_⟩
  refine ⟨_,rfl,_,Au.of (s1 _ _ e),fun C H2 s2 e2=>?_⟩
  have e2:H2 C=some (.lst (vs'.drop 1)):=e2.trans (congrArg (fun l=>some (HO.lst l)) (Ad6 (j:=1) (by omega)))
  have s12:=s1.trans s2
  have ro2:Az (Js K H2) vs' rows:=ro.imp fun v r h=>Ht v r _ _ (Bq s12) h
  have lz:(rows.zip (rows.drop 1)).length=rows.length-1:=by rw [List.length_zip,Eh];omega
  refine ⟨⟨_,Au.of (s12 _ _ e)⟩,⟨_,Au.of e2⟩,Ji (ms:=rows.zip (rows.drop 1)) (fun H x y m=>Js K H x m.1∧Js K H y m.2) (fun x y m H H' kt h=>⟨Ht _ _ _ _ kt h.1,Ht _ _ _ _ kt h.2⟩) (fun _ m y=>y=V.bl (goR m.1 m.2)) (fun _ _ _ _ _ h=>h) (by omega) (Au.of (s12 _ _ e)) (Au.of e2) (by omega) (by rw [Eh];omega) ?_ ?_ ?_⟩
  ·intro i x y m hx hy hm
   obtain ⟨m1,m2⟩:=List.getElem?_zip_eq_some.mp hm
   obtain ⟨a,ha,g1⟩:=ro2.get hx
   rw [List.getElem?_drop] at hy m2
   obtain ⟨b,hb,g2⟩:=ro2.get hy
   rw [ha] at m1
   rw [hb] at m2
   cases m1
   cases m2
   exact ⟨g1,g2⟩
  ·intro x y m t H3 hM hm s3 et P hP
   have q1:=(hrw m.1 (GN hm).1)
   have q2:=(hrw m.2 (List.mem_of_mem_drop (GN hm).2))
   obtain ⟨_,a1,a2,a3,a4,_⟩:=q1
   obtain ⟨_,c1,c2,c3,c4,_⟩:=q2
   have bd:∀{i:Int},0≤i→i≤9999→Bd 20 i:=fun a b=>Lg (b:=9999) (by omega) (by omega) (Ca rfl)
   exact ⟨t,_,rfl,F5.of et,rfl,_,_,rfl,_,_,rfl,rfl,rfl,m.1,m.2,hM,⟨bd (by omega) (by omega),bd (by omega) (by omega),bd (by omega) (by omega),bd (by omega) (by omega)⟩,hP _ _ (Aj.refl _) rfl⟩
  intro D3 H3 zs s3 _ e3 a3
  have y3:=Afi a3
  have s13:=s12.trans s3
  refine ⟨(rows.zip (rows.drop 1)).map fun m=>goR m.1 m.2,by rw [←y3];exact Au.of e3,?_⟩
  rw [←Zf,hc]
  refine ⟨fun h=>nb h,fun _=>⟨_,.inl (Au.of (s13 _ _ e)),fun D hD=>?_⟩⟩
  exact k D _ (s13.trans (Ah hD)) (A9 s13 hD) Ac
abbrev Rw:=Int×Q2
structure Ap5 (r:Rw):Prop where
 f0:0≤r.1
 f1:r.1≤2000000
 t0:0≤r.2.1
 tb:r.2.1≤r.2.2
 b0:0<r.2.2
 b1:r.2.2≤9999
 g:Int.gcd r.2.1 r.2.2=1
structure Tb (rows:List Rw):Prop where
 hd:∃r rs,rows=r::rs∧r.1=0
 ok:∀r∈rows,Ap5 r
 len:rows.length≤10
def TbL (K:KKf)(H:Hp)(L:IC)(rows:List Rw):Prop:=∃vs,H L=some (.lst vs)∧Az (Js K H) vs rows
def Ahd (t b:Int)(rows:List Rw)(x:Q2):Q2:=rows.foldl (fun x r=>if r.1*b≤t then r.2 else x) x
def due (rows:List Rw)(t b:Int):Q2:=if t<0 then ((Ahd (-t) b rows (0,1)).2-(Ahd (-t) b rows (0,1)).1,(Ahd (-t) b rows (0,1)).2) else Ahd t b rows (0,1)
structure FqA (n:Nat)(K:KKf)(H:Hp)(p:IC)(a b:Int):Prop where
 at':TuA K H p [.int a,.int b]
 pos:0<b
 ba:Bd n a
 bb:Bd n b
def Kn (K:KKf)(so:Int)(C:IC):Prop:=so=0∧PySem.W.nsIn K mainGlobals "Rule"=some (some (.ref C))
structure Fds (fs:List (Str×V))(so st fi one two:Int)(T:IC):Prop where
 st:fs.lookup ("step":Str)=some (.int st)
 fi:fs.lookup ("first":Str)=some (.int fi)
 tb:fs.lookup ("table":Str)=some (.ref T)
 sz:fs.lookup ("size":Str)=none
 bt:fs.lookup ("bit":Str)=none
 tw:fs.lookup ("twin":Str)=none
theorem Ge {K:KKf}{x:Str}{C D:IC}(h:PySem.W.nsIn K mainGlobals x=some (some (.ref C)))(h':PySem.W.nsIn K mainGlobals x=some (some (.ref D))):C=D:=by
 rw [h] at h'
 cases h'
 rfl
theorem Iq {f:Str}{v:V}{fs:List (Str×V)}:(Bb f v fs).lookup f=some v:=by rw [Ga,AZ rfl]
theorem Ay {f g:Str}{v:V}{fs:List (Str×V)}{o:Option V}(ne:g≠f)(h:fs.lookup g=o):(Bb f v fs).lookup g=o:=by rw [Ga,AW ne,h]
def Sx (x:IC)(H H':Hp):Prop:=∀b o,b≠x→H b=some o→H' b=some o
theorem Sx.upd {x:IC}{H:Hp}{o:HO}:Sx x H (upd H x o):=fun b u ne e=>by rw [Am ne];exact e
theorem Sx.trans {x:IC}{H H1 H2:Hp}(a:Sx x H H1)(b:Sx x H1 H2):Sx x H H2:=fun c o ne e=>b c o ne (a c o ne e)
theorem Sx.of {x:IC}{H H':Hp}(s:Aj H H'):Sx x H H':=fun b o _ e=>s b o e
theorem Sx.kt {x C dx:IC}{fs:List (Str×V)}{H H':Hp}(a:Sx x H H')(h:H x=some (.ins C dx fs)):Kt H H':=fun p xs e=>a p _ (fun z=>by rw [z,h] at e;cases e) e
def Ank (st fi:Int)(T:IC)(fs:List (Str×V)):List (Str×V):=Bb "table" (.ref T) (Bb "first" (.int fi) (Bb "step" (.int st) fs))
def Ef (K:KKf)(ns:IH):Sp:=fun vs H Q _=>match vs with
 |[.ref x,.int st,.int fi,.ref L]=>∃C dx fs rows vs,(H x=some (.ins C dx fs)∧Uv K C∧NoAttr K C "step"∧NoAttr K C "first"∧NoAttr K C "table"∧fs.length<900∧H L=some (.lst vs)∧Az (Js K H) vs rows∧Ri rows) ∧
  ∀T H',Sx x H H'→T≠x→H T=none→H' T=some (.lst vs)→H' x=some (.ins C dx (Ank st fi T fs))→Q .non H'
 |_=>False
theorem Aes {vs:IP}{F:IC→Int→Int→IC→Prop}(h:match vs with|[.ref x0,.int x1,.int x2,.ref x3]=>F x0 x1 x2 x3|_=>False):∃x0 x1 x2 x3,vs=[.ref x0,.int x1,.int x2,.ref x3]∧F x0 x1 x2 x3:=by
 match vs,h with
 |[.ref x0,.int x1,.int x2,.ref x3],h=>exact ⟨_,_,_,_,rfl,h⟩
theorem Mt:Al ["self","step","first","table"] ["self","step","first","table"] (Ad Ex):=D9
include er in
theorem Ms (d:Hf K [c_Rule] [] "__init__" "Rule.__init__" Ex ["self","step","first","table"])  (c_table_of:Bc P w K mg base "table_of" ["rows"] 5 (M4 K ns)):E6 P w K mg base [c_Rule] [] "__init__" ["self","step","first","table"] 6 (Ef K ns):=by
 refine d.cal (k:=5) Mt (fun vs H Q E hq0=>?_) (fun f cdv A outer s H vs Q E hr hq0=>?_)
 ·obtain ⟨_,_,_,_,rfl,_⟩:=Aes hq0
  rfl
 ·obtain ⟨x,st,fi,L,rfl,⟨C,dx,fs,rows,vs,⟨h1,h2,n1,n2,n3,l9,hL,al,good⟩,k⟩⟩:=Aes hq0
  refine ⟨_,(@Aa _ _ _ _ _ (@Hj _ _ _ _ _ _ _ _ (dv 0) (dv 1) rfl) (@Aa _ _ _ _ _ (@Hj _ _ _ _ _ _ _ _ (dv 0) (dv 2) rfl) (@An _ _ _ (@Hj _ _ _ _ _ _ _ _ (dv 0) (@Af _ _ _ _ _ _ _ _ _ _ _ c_table_of hr (@Bf _ _ _ (dv 3) (by rfl)) (by trivial)) rfl)))),?_⟩
  have l1:=Cp "step" (.int st) fs
  have l2:=Cp "first" (.int fi) (Bb "step" (.int st) fs)
  have nL:L≠x:=fun z=>by rw [z,h1] at hL;cases hL
  refine ⟨x,C,dx,fs,rfl,h1,h2,n1,by omega,⟨x,C,dx,_,rfl,Ac,h2,n2,by omega,?_⟩⟩
  have s2:Sx x H (upd (upd H x (.ins C dx (Bb "step" (.int st) fs))) x (.ins C dx (Bb "first" (.int fi) (Bb "step" (.int st) fs)))):=Sx.trans Sx.upd Sx.upd
  have e2:upd (upd H x (.ins C dx (Bb "step" (.int st) fs))) x (.ins C dx (Bb "first" (.int fi) (Bb "step" (.int st) fs))) x=some (.ins C dx (Bb "first" (.int fi) (Bb "step" (.int st) fs))):=Ac
  generalize upd (upd H x (.ins C dx (Bb "step" (.int st) fs))) x (.ins C dx (Bb "first" (.int fi) (Bb "step" (.int st) fs)))=H2 at s2 e2
  have hL2:=s2 _ _ nL hL
  have al2:Az (Js K H2) vs rows:=al.imp fun v g r=>Ht v g _ _ (s2.kt h1) r
  have lv:vs.length=rows.length:=al.len
  have lr:=good.1
  refine ⟨vs,rows,⟨hL2,al2,good⟩,fun T H3 s3 n3' e3=>?_⟩
  have nT:T≠x:=fun z=>by rw [z,e2] at n3';cases n3'
  refine ⟨x,C,dx,_,rfl,s3 _ _ e2,h2,n3,by omega,?_⟩
  refine k T _ (s2.trans (Sx.trans (Sx.of s3) Sx.upd)) nT ?_ (by rw [Am nT];exact e3) Ac
  cases e:H T with
  |none=>rfl
  |some o=>
   rw [s2 _ _ nT e] at n3'
   cases n3'
theorem fd0 {st fi:Int}{T:IC}{fs:List (Str×V)}(h:fs=[]):Fds (Ank st fi T fs) 0 st fi 0 0 T:=by
 subst h
 exact ⟨Ay (by decide +kernel) (Ay (by decide +kernel) Iq),Ay (by decide +kernel) Iq,Iq,Ay (by decide +kernel) (Ay (by decide +kernel) (Ay (by decide +kernel) rfl)),Ay (by decide +kernel) (Ay (by decide +kernel) (Ay (by decide +kernel) rfl)),Ay (by decide +kernel) (Ay (by decide +kernel) (Ay (by decide +kernel) rfl))⟩
def szR (so st one two p r:Int):Int:=if so=1∧p<two then one else if so=2∧one<r then st*two else st
structure Nb (st one two:Int):Prop where
 s0:0≤st
 s1:st≤1000000
 o0:0≤one
 o1:one≤1000001
 t0:0≤two
 t1:two≤1000001
def unT (z h:Int)(x:Q2):Int:=z*(h*x.2-2*x.1)
def unB (x:Q2):Int:=2*x.2
def unQ (z h:Int)(x:Q2):Q2:=(frT (unT z h x) (unB x),frB (unT z h x) (unB x))
structure ShQ (x:Q2):Prop where
 t0:0≤x.1
 tb:x.1≤x.2
 b0:0<x.2
 b1:x.2≤9999
def Aqi (x:Q2)(c:Int):Q2:=if c*x.2<x.1 then (c,1) else if x.1 < -c*x.2 then (-c,1) else x
def btQ (so one z h:Int)(x:Q2):Q2:=if so=3 then Aqi (unQ z h x) one else unQ z h x
abbrev Dg:Pos:=⟨138,29,138,53⟩
abbrev Jr:Str:=Str.ofString "in_order"++Str.ofString ".<locals>."++Str.ofString "<lambda>"
abbrev Dv (K:KKf):IC:=Sz K "in_order"
def dk (gs:IQ)(i:Nat):Int:=match gs[i]? with
 |some g=>g.d
 |none=>0
theorem Aj2 {key:Nat→Int}{n:Nat}{p:IM}(h:Nh key n p):p.Nodup:=h.2.2.imp fun {a b} l e=>by
 subst e
 rcases l with l|⟨_,l⟩
 ·exact Int.lt_irrefl _ l
 ·exact DY _ l
theorem Pz {key:Nat→Int}{n:Nat}{p:IM}(h:Nh key n p):p.Perm (List.range n):=by
 have nd:=Aj2 h
 refine (List.perm_ext_iff_of_nodup nd List.nodup_range).mpr fun i=>⟨fun hi=>CN.mpr (h.2.1 i hi),fun hi=>?_⟩
 refine DA fun c=>?_
 have:=Es (l:=i::p) (m:=List.range n) (DM.mpr ⟨c,nd⟩) fun x hx=>by
  rcases AS.mp hx with rfl|hx
  ·exact hi
  ·exact CN.mpr (h.2.1 x hx)
 rw [BN,HE,h.1] at this
 omega
theorem Acf {key:Nat→Int}{n:Nat}{p q:IM}(hp:Nh key n p)(hq:Nh key n q):p=q:=by
 refine List.Perm.eq_of_pairwise (le:=Lt key) (fun a b _ _ l l'=>?_) hp.2.2 hq.2.2 ((Pz hp).trans (Pz hq).symm)
 rcases l with l|⟨e,l⟩
 ·rcases l' with l'|⟨e',l'⟩<;>omega
 ·rcases l' with l'|⟨e',l'⟩<;>omega
def Ow (P:IC)(H H':Hp):Prop:=∀b o,b≠P→H b=some o→H' b=some o
def pk (vs:IP)(p:IM):IP:=p.map fun i=>vs.getD i .non
theorem Am2 {H:Hp}{vs:IP}{gs:IQ}(a:Az (Bp H) vs gs){i:Nat}{v:V}(e:vs[i]? =some v):∃g,gs[i]? =some g∧Bp H v g∧dk gs i=g.d:=by
 obtain ⟨g,h1,h2⟩:=a.get e
 refine ⟨g,h1,h2,?_⟩
 unfold dk
 rw [h1]
def Jh (K:KKf)(ns:IH):Sp:=fun vs H Q _=>match vs with
 |[.ref L]=>∃(gs:IQ) (xs:IP),(Au K H L xs∧Az (Bp H) xs gs∧gs.length<64∧A8 H (Dv K) Dg Jr)∧∀D H' p,Ow (Dv K) H H'→H D=none→H' D=some (.lst (pk xs p))→A8 H' (Dv K) Dg Jr→Nh (dk gs) gs.length p→Q (.ref D) H'
 |_=>False
theorem V3:Al ["games"] ["games"] (Ad Dn):=D9
include er n_sorted in
theorem Vr (d:Bt K mg "in_order" Dn ["games"])(tk:Ajb K mg base "in_order"):Bc P w K mg base "in_order" ["games"] 3 (Jh K ns):=by
 refine d.calT (k:=2) tk V3 (fun vs H Q E hq0=>?_) (fun f cdv A outer s H vs Q E tf hr hq0=>?_)
 ·obtain ⟨_,rfl,_⟩:=Kv hq0
  rfl
 ·obtain ⟨L,rfl,⟨gs,xs,⟨hx,hm,hl,hT⟩,k⟩⟩:=Kv hq0
  refine ⟨_,(@A3 _ _ _ _ (@Agy _ _ _ _ _ _ _ _ _ _ _ _ _ (0) tf hr (by rfl) n_sorted (@Ab _ _ _ _ _ (dv 0) Ag (by rfl)) (by decide) (by rfl) (by intros;rfl))),?_⟩
  refine ⟨L,xs,dk gs,rfl,hx,by rw [hm.len];exact hl,fun i v e=>?_,hT,fun D H2 p s d e t st=>k D H2 p s d e t (by rw [←hm.len];exact st)⟩
  obtain ⟨g,h1,⟨a,rfl,ea⟩,h3⟩:=Am2 hm e
  rw [h3]
  exact ⟨a,_,rfl,ea⟩
structure Ps where
 q:Q2
 n:Nat
 l:Int
abbrev Wn:=Str→Option Ps
def wq (fi:Int):Option Ps→Q2
 |some p=>p.q
 |none=>(fi,1)
def wnn:Option Ps→Nat
 |some p=>p.n
 |none=>0
def wr (d:Int):Option Ps→Int
 |some p=>d-p.l
 |none=>0
def mn (i j:Int):Int:=if j<i then j else i
def mx (i j:Int):Int:=if j>i then j else i
structure Sd where
 g:Gm
 x:Q2
 y:Q2
 b:Q2
def plQ (x y:Q2):Q2:=(frT (x.1*y.2+y.1*x.2) (x.2*y.2),frB (x.1*y.2+y.1*x.2) (x.2*y.2))
def mnQ (x y:Q2):Q2:=(frT (x.1*y.2-y.1*x.2) (x.2*y.2),frB (x.1*y.2-y.1*x.2) (x.2*y.2))
structure Sq (n:Nat)(x:Q2):Prop where
 pos:0<x.2
 ba:Bd n x.1
 bb:Bd n x.2
def Am3 (so st fi one two:Int)(rows:List Rw)(w:Wn)(g:Gm):Q2:=
 btQ so one (szR so st one two (mn (wnn (w g.a)) (wnn (w g.b))) (mx (wr g.d (w g.a)) (wr g.d (w g.b)))) g.h (due rows (mnQ (wq fi (w g.a)) (wq fi (w g.b))).1 (mnQ (wq fi (w g.a)) (wq fi (w g.b))).2)
structure WB (i:Nat)(x:Q2):Prop where
 pos:0<x.2
 ba:Bd (121+16*i) x.1
 bb:Bd (1+15*i) x.2
structure BB (x:Q2):Prop where
 pos:0<x.2
 ba:Bd 120 x.1
 bb:Bd 15 x.2
def nxt (so st fi one two:Int)(rows:List Rw)(w:Wn)(g:Gm):Wn:=fun x=>
 if x=g.b then some ⟨mnQ (wq fi (w g.b)) (Am3 so st fi one two rows w g),wnn (w g.b)+1,g.d⟩
 else if x=g.a then some ⟨plQ (wq fi (w g.a)) (Am3 so st fi one two rows w g),wnn (w g.a)+1,g.d⟩ else w x
theorem Ac0 {H H':Hp}{P x:IC}{pos:Pos}{q:Str}(h:A8 H P pos q)(s:Sx x H H')(hx:(∃zs,H x=some (.lst zs))∨∃kvs,H x=some (.dK kvs)):A8 H' P pos q:=by
 obtain ⟨ps,h1,h2,h3⟩:=h
 have nP:P≠x:=fun z=>by
  rcases hx with ⟨zs,e⟩|⟨kvs,e⟩<;>(rw [←z,h1] at e;cases e)
 refine ⟨ps,s _ _ nP h1,h2,h3.imp id ?_⟩
 rintro ⟨c,e1,e2⟩
 refine ⟨c,e1,s _ _ (fun z=>?_) e2⟩
 rcases hx with ⟨zs,e⟩|⟨kvs,e⟩<;>(rw [←z,e2] at e;cases e)
def pg (gs:IQ)(p:IM):IQ:=p.filterMap fun i=>gs[i]?
theorem Ac4 {H:Hp}{xs:IP}{gs:IQ}(a:Az (Bp H) xs gs):∀{p:IM},(∀i∈p,i<gs.length)→Az (Bp H) (pk xs p) (pg gs p)
 |[],_=>.nil
 | i::p,h=>by
  have hi:=h i AO
  have r:=Ac4 a (p:=p) fun j hj=>h j (AQ _ hj)
  have hx:i<xs.length:=by rw [a.len];exact hi
  obtain ⟨g,g1,g2⟩:=a.get (AD hx)
  have e1:pk xs (i::p)=xs[i]::pk xs p:=by
   unfold pk
   rw [BW,BJ,AD hx]
   rfl
  have e2:pg gs (i::p)=g::pg gs p:=by
   unfold pg
   rw [FG,g1]
  rw [e1,e2]
  exact .cons g2 r
theorem Al3 {gs:IQ}{p:IM}{g:Gm}(h:g∈pg gs p):g∈gs:=by
 obtain ⟨i,_,e⟩:=FP.mp h
 exact AN e
theorem Sx.kt' {x:IC}{kvs:List (Bg×V)}{H H':Hp}(a:Sx x H H')(h:H x=some (.dK kvs)):Kt H H':=fun p xs e=>a p _ (fun z=>by rw [z,h] at e;cases e) e
structure Arh (nm:IG)(gs:IQ):Prop where
 ok:∀g∈gs,(0≤g.h∧g.h≤2)∧g.a≠g.b
 mem:∀g∈gs,g.a∈nm∧g.b∈nm
def W4 (K:KKf):IP→Hp→VK→Prop:=fun xs H Q=>match xs with
 |[.ref p]=>∃ys,(Au K H p ys∨F5 K H p ys)∧∀l,H l=none→Q (.ref l) (upd H l (.lst ys))
 |_=>False
theorem N9 {X:Cx}:Df X (.type "list") (W4 X.K):=by
 intro pins s σ H xs us Q I r h
 match xs,h with
 |[.ref p],⟨ys,h1,q⟩=>exact K4 pins s σ H _ us Q I r ⟨p,ys,rfl,h1,fun l hl=>q l hl⟩
abbrev En:=Int×Gm
def So (H:Hp)(kv:Bg×V)(e:En):Prop:=kv.1=Sum.inl e.1∧Bp H kv.2 e.2
theorem J1 (kv:Bg×V)(e:En)(H H':Hp)(k:Kt H H')(h:So H kv e):So H' kv e:=⟨h.1,Bm _ _ _ _ k h.2⟩
def S3 (es:List En):Prop:=es.Pairwise fun a b=>a.1<b.1
def Ajx (H:Hp)(A:IC)(es:List En):Prop:=∃kvs,H A=some (.dK kvs)∧Az (So H) kvs es
theorem Sl {H:Hp}:∀{kvs:List (Bg×V)} {es:List En},Az (So H) kvs es→Az (Bp H) (kvs.map (·.2)) (es.map (·.2))
 |_,_,.nil=>.nil
 |_,_,.cons h t=>.cons h.2 (Sl t)
theorem Yv {H:Hp}:∀{kvs:List (Bg×V)} {es:List En},Az (So H) kvs es→kvs.map (·.1)=es.map fun e=>(Sum.inl e.1:Bg)
 |_,_,.nil=>rfl
 |_,_,.cons h t=>by rw [BW,BW,h.1,Yv t]
theorem S0 {e:En}{es:List En}(h:S3 (e::es)):∀x∈es,x.1≠e.1:=fun x hx=>by
 have:=(CM.mp h).1 x hx
 omega
theorem Ue {H:Hp}:∀{kvs:List (Bg×V)} {es:List En},Az (So H) kvs es→S3 es→∀{n:Int} {g:Gm},(n,g)∈es→∃v,B4 kvs (Sum.inl n)=some v∧Bp H v g
 | _,_,.cons (a:=kv) (b:=e) h t,hi,n,g,hm=>by
  rcases AS.mp hm with e'|hm
  ·refine ⟨kv.2,Ct (by rw [h.1,←e']),?_⟩
   have:=h.2
   rw [←e'] at this
   exact this
  ·obtain ⟨v,h1,h2⟩:=Ue t (CM.mp hi).2 hm
   refine ⟨v,?_,h2⟩
   rw [Cn]
   ·exact h1
   ·rw [h.1]
    intro z
    have:=S0 hi _ hm
    exact this (Sum.inl.inj z).symm
theorem Yr {H:Hp}:∀{kvs:List (Bg×V)} {es:List En},Az (So H) kvs es→∀{n:Int},(∀e∈es,e.1≠n)→B4 kvs (Sum.inl n)=none
 |_,_,.nil,_,_=>rfl
 | _,_,.cons (a:=kv) (b:=e) h t,n,hn=>by
  rw [Cn]
  ·exact Yr t fun e he=>hn e (AQ _ he)
  ·rw [h.1]
   intro z
   exact hn e AO (Sum.inl.inj z)
def W2 (es:List En)(n:Int)(g0:Gm):List En:=es.filter fun e=>gt2 e.2.d e.1 g0.d n
theorem Mx:∀{es:List En},S3 es→∀{e e':En},e∈es→e'∈es→e.1=e'.1→e=e'
 |[],_,_,_,he,_,_=>absurd he GH
 | x::es,h,e,e',he,he',z=>by
  rcases AS.mp he with h1|h1
  ·rcases AS.mp he' with h2|h2
   ·rw [h1,h2]
   ·rw [h1] at z
    exact absurd z.symm (S0 h _ h2)
  ·rcases AS.mp he' with h2|h2
   ·rw [h2] at z
    exact absurd z (S0 h _ h1)
   ·exact Mx (CM.mp h).2 h1 h2 z
def cB (es:List En)(n:Int)(g0:Gm):Bg→Bool
 |.inl m=>es.any fun e=>decide (e.1=m)&&gt2 e.2.d e.1 g0.d n
 |.inr _=>false
theorem Ah9 {es:List En}(h:S3 es){n:Int}{g0:Gm}{e:En}(he:e∈es):cB es n g0 (Sum.inl e.1)=gt2 e.2.d e.1 g0.d n:=by
 unfold cB
 rw [ES,EA]
 constructor
 ·rintro ⟨x,hx,c⟩
  rw [BV] at c
  have:=Mx h hx he (AU c.1)
  subst this
  exact c.2
 ·intro c
  exact ⟨e,he,by rw [BV];exact ⟨AR rfl,c⟩⟩
theorem Agt {es:List En}(h:S3 es){n:Int}{g0:Gm}:(es.map fun e=>(Sum.inl e.1:Bg)).filter (cB es n g0)=(W2 es n g0).map fun e=>(Sum.inl e.1:Bg):=by
 rw [List.filter_map]
 unfold W2
 congr 1
 exact List.filter_congr fun e he=>Ah9 h he
theorem Zq {H:Hp}{es:List En}:∀{l:List En} {ys:IP},(∀e∈l,e∈es)→Az (fun (x:Bg) y=>∀e∈es,x=Sum.inl e.1→Bp H y e.2) (l.map fun e=>(Sum.inl e.1:Bg)) ys→Az (Bp H) ys (l.map (·.2))
 |[],_,_,.nil=>.nil
 |e::l,_,hl,.cons h t=>.cons (h e (hl e AO) rfl) (Zq (fun e he=>hl e (AQ _ he)) t)
def Rf (K:KKf)(ns:IH):Sp:=fun vs H Q _=>match vs with
 |[.ref A,.int n]=>∃(es:List En) (g0:Gm),(Ajx H A es∧S3 es∧es.length≤40∧(n,g0)∈es∧A8 H (Dv K) Dg Jr) ∧
  ∀D vs H' p,Ow (Dv K) H H'→H D=none→H' D=some (.lst vs)→A8 H' (Dv K) Dg Jr→Nh (dk ((W2 es n g0).map (·.2))) ((W2 es n g0).map (·.2)).length p→Az (Bp H') vs (pg ((W2 es n g0).map (·.2)) p)→Q (.ref D) H'
 |_=>False
theorem Abs {vs:IP}{F:IC→Int→Prop}(h:match vs with|[.ref x0,.int x1]=>F x0 x1|_=>False):∃x0 x1,vs=[.ref x0,.int x1]∧F x0 x1:=by
 match vs,h with
 |[.ref x0,.int x1],h=>exact ⟨_,_,rfl,h⟩
theorem Sf:Al ["kept","number","place"] ["kept","number"] (Ad Po):=D9
include er in
theorem Aar (d:Bt K mg "behind" Po ["kept","number"])  (c_in_order:Bc P w K mg base "in_order" ["games"] 3 (Jh K ns)):Bc P w K mg base "behind" ["kept","number"] 4 (Rf K ns):=by
 refine d.cal (k:=3) Sf (fun vs H Q E hq0=>?_) (fun f cdv A outer s H vs Q E hr hq0=>?_)
 ·obtain ⟨_,_,rfl,_⟩:=Abs hq0
  rfl
 ·obtain ⟨A,n,rfl,⟨es,g0,⟨⟨kvs,eA,al⟩,hi,l40,hn,tk⟩,k⟩⟩:=Abs hq0
  refine ⟨_,(@Aa _ _ _ _ _ (@Ak _ _ _ (2) _ _ _ Sf.nd (@Dx _ _ _ _ _ (@Ab _ _ _ _ _ (@Bx _ _ _ _ _ _ _ (@Ec _ _ _ _ _ _ (@u1 _ _ hr.units) (dv 0) (dv 1) (fun _ _=>rfl))) (@Ab _ _ _ _ _ (dv 1) Ag (by rfl)) (by rfl))) (by trivial)) (@A3 _ _ _ _ (@Af _ _ _ _ _ _ _ _ _ _ _ c_in_order hr (@Bf _ _ _ (@Aht _ _ _ (@Ln _ _ _ _ _ _ _ _ _ _ _ _ ["other"] ["kept","place"] [0,2] rfl (@Aer _ _ _ _ (dv 0)) (fun C s H fp=>(@Ar _ _ (0) _ (show List.Nodup [("other":Str),("kept":Str),("place":Str)] by decide +kernel) rfl (by trivial) (by trivial))) (fun C s H fp=>(@A0 _ _ _ _ _ _ _ _ (show Dh _ _ Am9 from (An1 hr.units)) (@Dx _ _ _ _ _ (@Ab _ _ _ _ _ (@Bx _ _ _ _ _ _ _ (@Ec _ _ _ _ _ _ (@u1 _ _ hr.units) (dv 1) (dv 0) (fun _ _=>rfl))) (@Ab _ _ _ _ _ (dv 0) Ag (by rfl)) (by rfl))) (dv 2) (Aq _))) (fun C s H fp=>(@Ec _ _ _ _ _ _ (@u1 _ _ hr.units) (dv 1) (dv 0) (fun _ _=>rfl))) rfl rfl (by decide +kernel) (by decide +kernel) (by rfl) ⟨rfl,⟨rfl,⟨⟩⟩⟩ ⟨⟨rfl,rfl,rfl,rfl⟩,⟨⟨rfl,rfl,rfl,rfl⟩,⟨⟩⟩⟩ (by intro _;rfl))) (by rfl)) (by trivial)))),?_⟩
  obtain ⟨v0,hv0,p0,rfl,hp0⟩:=Ue al hi hn
  have dg:∀{H':Hp} {m:Int},Rd H' A (.dK kvs)→Fy H' A (.int m) (B4 kvs (Sum.inl m)):=fun e=>.inl ⟨kvs,Sum.inl _,e,rfl,rfl⟩
  have g1:=dg (m:=n) (.inl eA)
  rw [hv0] at g1
  refine ⟨A,_,rfl,g1,_,hp0,fun P H1 s1 e1=>?_⟩
  have eA1:=s1 _ _ eA
  refine ⟨A,kvs,rfl,eA1,fun o=>?_⟩
  have x2:Sx A H1 (upd H1 A (.frz o (.dK kvs))):=Sx.upd
  have e2:upd H1 A (.frz o (.dK kvs)) A=some (.frz o (.dK kvs)):=Ac
  have kt2:Kt H1 (upd H1 A (.frz o (.dK kvs))):=x2.kt' eA1
  have eP2:=kt2 _ _ e1
  have al2:Az (So (upd H1 A (.frz o (.dK kvs)))) kvs es:=al.imp fun kv e r=>J1 kv e _ _ ((Bq s1).trans kt2) r
  generalize upd H1 A (.frz o (.dK kvs))=H2 at x2 e2 kt2 eP2 al2
  have kl:kvs.length≤40:=by rw [al.len];exact l40
  have ek:=Yv al
  refine V6 (fun H x y=>∀e∈es,x=Sum.inl e.1→Bp H y e.2) (fun x y H H' kt h e he z=>Bm _ _ _ _ kt (h e he z)) (cB es n g0) (by omega) e2 ?_ ?_
  ·intro x H3 hx s3 P3 P3' hP hP'
   rw [ek] at hx
   obtain ⟨e,he,rfl⟩:=BG.mp hx
   obtain ⟨v,hv,p,rfl,hp⟩:=Ue (al2.imp fun kv e r=>J1 kv e _ _ (Bq s3) r) hi he
   have gx:=dg (m:=e.1) (.inr ⟨o,s3 _ _ e2⟩)
   rw [hv] at gx
   have hP:=hP
   rw [Ah9 hi he] at hP hP'
   have un:∀{H':Hp},Bp H' (.ref p) e.2→∀e'∈es,(Sum.inl e.1:Bg)=Sum.inl e'.1→Bp H' (.ref p) e'.2:=fun hg e' he' z=>by
    have:=Mx hi he he' (Sum.inl.inj z)
    subst this
    exact hg
   refine ⟨rfl,A,_,rfl,gx,_,hp,fun T H4 s4 e4=>⟨e.2.d,e.1,g0.d,n,e4,s4 _ _ (s3 _ _ eP2),⟨fun h=>?_,fun h=>hP' h _ s4⟩⟩⟩
   have gx4:=dg (m:=e.1) (.inr ⟨o,s4 _ _ (s3 _ _ e2)⟩)
   rw [hv] at gx4
   exact ⟨A,_,rfl,gx4,hP h _ _ s4 (un ⟨p,rfl,s4 _ _ hp⟩)⟩
  intro D0 H3 ys s3 n3 e3 a3
  rw [ek,Agt hi] at a3
  have aY:Az (Bp H3) ys ((W2 es n g0).map (·.2)):=Zq (fun e he=>(CF.mp he).1) a3
  have e3A:=s3 _ _ e2
  refine ⟨A,o,kvs,e3A,fun o' u z=>?_,?_⟩
  ·have z:H A=some (.frz o' u):=z
   rw [eA] at z
   cases z
  have nDA:D0≠A:=fun z=>by rw [z,e3A] at e3;cases e3
  have sA:Sx A H3 (upd H3 A (.dK kvs)):=Sx.upd
  have s14:Aj H1 (upd H3 A (.dK kvs)):=fun b u e=>by
   by_cases c:b=A
   ·subst c
    rw [eA1] at e
    cases e
    exact Ac
   ·exact sA b u c (s3 b u (x2 b u c e))
  have kt4:Kt H3 (upd H3 A (.dK kvs)):=fun p xs e=>sA p _ (fun z=>by rw [z,e3A] at e;cases e) e
  have eD4:=sA _ _ nDA e3
  generalize upd H3 A (.dK kvs)=H4 at sA s14 kt4 eD4
  have aY4:=aY.imp fun v g r=>Bm v g _ _ kt4 r
  have s04:=s1.trans s14
  have lb:(W2 es n g0).length≤es.length:=DE _ _
  refine ⟨_,ys,⟨Au.of eD4,aY4,by rw [AE];omega,tk.up s04⟩,fun D H5 p sm nD eD tk5 stb=>?_⟩
  obtain ⟨ps,tt,_⟩:=tk.up s04
  have kt5:Kt H4 H5:=fun q xs e=>sm q _ (fun z=>by rw [z,tt] at e;cases e) e
  exact k D _ H5 p (fun b o ne e=>sm b o ne (s04 b o e)) (A9 s04 nD) eD tk5 stb (Ac4 (aY4.imp fun v g r=>Bm v g _ _ kt5 r) fun i hi=>stb.2.1 i hi)
def Us (ns:IG)(gs:IQ):IG:=gs.foldl (fun ns g=>if g.a∈ns∨g.b∈ns then ns++[g.a,g.b] else ns) ns
theorem T8:∀(gs:IQ) (ns:IG),(Us ns gs).length≤ns.length+2*gs.length
 |[],_=>AF _
 | g::gs,ns=>by
  have:=T8 gs (if g.a∈ns∨g.b∈ns then ns++[g.a,g.b] else ns)
  show (Us (if g.a∈ns∨g.b∈ns then ns++[g.a,g.b] else ns) gs).length≤_
  have l:(if g.a∈ns∨g.b∈ns then ns++[g.a,g.b] else ns).length≤ns.length+2:=by
   split
   ·rw [AG]
    exact AF _
   ·omega
  rw [BN]
  omega
theorem Zm {nm:IG}:∀{gs:IQ} {ns:IG},(∀x∈ns,x∈nm)→(∀g∈gs,g.a∈nm∧g.b∈nm)→∀x∈Us ns gs,x∈nm
 |[],_,h,_=>h
 | g::gs,ns,h,hg=>by
  refine Zm (gs:=gs) (fun x hx=>?_) fun g' h'=>hg g' (AQ _ h')
  obtain ⟨g1,g2⟩:=hg g AO
  have hx:x∈(if g.a∈ns∨g.b∈ns then ns++[g.a,g.b] else ns):=hx
  split at hx
  ·rcases BH.mp hx with hx|hx
   ·exact h x hx
   ·rcases AS.mp hx with rfl|hx
    ·exact g1
    ·rw [AH.mp hx]
     exact g2
  ·exact h x hx
theorem Ack {gs:IQ}{ns:IG}{g:Gm}:Us ns (gs++[g])=if g.a∈Us ns gs∨g.b∈Us ns gs then Us ns gs++[g.a,g.b] else Us ns gs:=by
 unfold Us
 rw [HD]
 rfl
theorem Px {x:Str}:∀(l:IG),inV (.str x) (l.map V.str)=decide (x∈l)
 |[]=>rfl
 | y::l=>by
  have ih:=Px (x:=x) l
  unfold inV at ih ⊢
  rw [BW,GJ,ih]
  have e:((y:Str)==x)=decide (y=x):=by
   by_cases h:y=x
   ·subst h;simp
   ·rw [BF h];exact DV.mpr h
  show ((y==x)||decide (x∈l))=_
  rw [e,←Bool.decide_or]
  refine GI.mpr ⟨fun h=>?_,fun h=>?_⟩
  ·rcases h with rfl|h
   ·exact AO
   ·exact AQ _ h
  ·rcases AS.mp h with rfl|h
   ·exact .inl rfl
   ·exact .inr h
def O1 (K:KKf)(ns:IH):Sp:=fun vs H Q _=>match vs with
 |[.ref A,.int n]=>∃(es:List En) (g0:Gm) (nm:IG),(Ajx H A es∧S3 es∧es.length≤40∧(n,g0)∈es∧A8 H (Dv K) Dg Jr∧nm.length≤8∧∀e∈es,e.2.a∈nm∧e.2.b∈nm) ∧
  ∀D H' p,Ow (Dv K) H H'→H D=none→H' D=some (.lst ((Oc (Us [g0.a,g0.b] (pg ((W2 es n g0).map (·.2)) p))).map V.str))→A8 H' (Dv K) Dg Jr→Nh (dk ((W2 es n g0).map (·.2))) ((W2 es n g0).map (·.2)).length p→Q (.ref D) H'
 |_=>False
theorem Kq:Al ["kept","number","names","played"] ["kept","number"] (Ad Mb):=D9
include er n_sorted n_set n_list in
theorem W5 (d:Bt K mg "reached" Mb ["kept","number"])  (c_behind:Bc P w K mg base "behind" ["kept","number"] 4 (Rf K ns)):Bc P w K mg base "reached" ["kept","number"] 5 (O1 K ns):=by
 refine d.cal (k:=4) Kq (fun vs H Q E hq0=>?_) (fun f cdv A outer s H vs Q E hr hq0=>?_)
 ·obtain ⟨_,_,rfl,_⟩:=Abs hq0
  rfl
 ·obtain ⟨A,n,rfl,⟨es,g0,nm,⟨⟨kvs,eA,al⟩,hi,l40,hn,tk,l8,sub⟩,k⟩⟩:=Abs hq0
  refine ⟨_,(@Aa _ _ _ _ _ (@Ak _ _ _ (2) _ _ _ Kq.nd (@Cb _ _ _ _ _ _ _ _ _ N9 n_list (by decide +kernel) (@Bf _ _ _ (@C7 _ _ _ _ _ _ _ _ _ _ T7 (@Ec _ _ _ _ _ _ (@u1 _ _ hr.units) (dv 0) (dv 1) (fun _ _=>rfl)) (Cj Ae) (Cj Ae)) (by rfl)) (by trivial)) (by trivial)) (@Aa _ _ _ _ _ (@C4 _ _ _ _ _ _ _ _ CB rfl (@A4 _ _ _ _ (@Af _ _ _ _ _ _ _ _ _ _ _ c_behind hr (@Ai _ _ _ _ _ (dv 0) (@Bf _ _ _ (dv 1) (by rfl)) (by rfl)) (by trivial))) (@Ar _ _ (3) _ Kq.nd rfl (by trivial) (by trivial)) (@An _ _ _ (@Bl _ _ _ _ _ _ _ _ (@L2.PW.pt _ _ _ (@J9 _ _ _ _ _ _ _ (@A0 _ _ _ _ _ _ _ _ Q1 (@Bx _ _ _ _ _ _ _ (dv 3)) (dv 2) (by with_unfolding_all rfl)) (@Fp _ _ _ _ (@A0 _ _ _ _ _ _ _ _ Q1 (@Bx _ _ _ _ _ _ _ (dv 3)) (dv 2) (by with_unfolding_all rfl))))) (@An _ _ _ (@C3 _ _ _ _ (@Em _ _ _ _ _ _ _ _ _ _ _ _ CQ PySem.F.slot_list_extend PySem.F.type_list_extend Ag9 (dv 2) (@Ab _ _ _ _ _ (@C7 _ _ _ _ _ _ _ _ _ _ T7 (dv 3) (Cj Ae) (Cj Ae)) Ag (by rfl)) (by rfl) (by rfl) (by rfl) (by rfl) (by rfl)) (by rfl))) Ao)) (by intro _;rfl)) (@A3 _ _ _ _ (@Tc _ _ _ _ _ _ _ (by rfl) n_sorted (by rfl) n_set (dv 2) (by rfl) (by rfl) (by rfl))))),?_⟩
  obtain ⟨v0,hv0,p0,rfl,hp0⟩:=Ue al hi hn
  have g1:Fy H A (.int n) (B4 kvs (Sum.inl n)):=.inl ⟨kvs,Sum.inl _,.inl eA,rfl,rfl⟩
  rw [hv0] at g1
  refine ⟨A,_,rfl,g1,_,rfl,_,rfl,p0,_,rfl,F5.of hp0,(by show ¬(HT.sIx 5 0 (some 1)=0∧HT.sIx 5 5 (some 3)=5);decide),fun t ht=>?_⟩
  rw [show Fd [V.int g0.d,V.str g0.a,V.str g0.b,V.int g0.h,V.int g0.s] (some 1) (some 3)=[V.str g0.a,V.str g0.b] from rfl]
  have s1:Aj H (upd H t (.tup [.str g0.a,.str g0.b])):=Ah ht
  have e1:upd H t (.tup [.str g0.a,.str g0.b]) t=some (.tup [.str g0.a,.str g0.b]):=Ac
  generalize upd H t (.tup [.str g0.a,.str g0.b])=H1 at s1 e1
  refine ⟨_,.inr (F5.of e1),fun N hN=>?_⟩
  have s2:Aj H1 (upd H1 N (.lst [.str g0.a,.str g0.b])):=Ah hN
  have e2:upd H1 N (.lst [.str g0.a,.str g0.b]) N=some (.lst ([g0.a,g0.b].map V.str)):=Ac
  have hN0:H N=none:=A9 s1 hN
  generalize upd H1 N (.lst [.str g0.a,.str g0.b])=H2 at s2 e2
  have s02:=s1.trans s2
  refine ⟨es,g0,⟨⟨kvs,s02 _ _ eA,al.imp fun kv e r=>J1 kv e _ _ (Bq s02) r⟩,hi,l40,hn,tk.up s02⟩,fun B vs H3 p sm nB eB tk3 stb aB=>?_⟩
  obtain ⟨ps,tt,_⟩:=tk.up s02
  have nNT:N≠Dv K:=fun z=>by rw [z,tt] at e2;cases e2
  have e3:=sm _ _ nNT e2
  have nBN:B≠N:=fun z=>by rw [z,e2] at nB;cases nB
  have hz:∀b o,b≠Dv K→H b=some o→H3 b=some o:=fun b o ne e=>sm b o ne (s02 b o e)
  have lb:(W2 es n g0).length≤es.length:=DE _ _
  have lp:(pg ((W2 es n g0).map (·.2)) p).length≤40:=by
   have:=stb.1
   have:(pg ((W2 es n g0).map (·.2)) p).length≤p.length:=List.length_filterMap_le ..
   rw [AE] at *
   omega
  have subG:∀g∈pg ((W2 es n g0).map (·.2)) p,g.a∈nm∧g.b∈nm:=fun g hg=>by
   obtain ⟨e,he,rfl⟩:=BG.mp (Al3 hg)
   exact sub e (CF.mp he).1
  have k:=k (p:=p)
  generalize hG:pg ((W2 es n g0).map (·.2)) p=G at aB lp subG k
  have lv:=aB.len
  refine ⟨B,rfl,⟨_,Au.of eB⟩,C6 (K:=K) (a:=B) (xs:=vs) (fun i σ H'=>∃o3:Option V,σ=[some (.ref A),some (.int n),some (.ref N),o3]∧(∀b o,b≠N→H3 b=some o→H' b=some o)∧A8 H' (Dv K) Dg Jr∧H' N=some (.lst ((Us [g0.a,g0.b] (G.take i)).map V.str))) ⟨none,rfl,fun b o _ e=>e,tk3,e3⟩ (fun i σ H' _ ⟨_,_,s,_⟩=>Au.of (s _ _ nBN eB)) ?_ ?_⟩
  ·rintro i v σ H4 hv ⟨o3,rfl,s4,tk4,e4⟩
   obtain ⟨g,hg,pg',rfl,hpg⟩:=aB.get hv
   have hpg4:=s4 _ _ (fun z=>by rw [z,e3] at hpg;cases hpg) hpg
   have tk':G.take (i+1)=G.take i++[g]:=by rw [BY,hg];rfl
   have ll:(Us [g0.a,g0.b] (G.take i)).length≤82:=by
    have:=T8 (G.take i) [g0.a,g0.b]
    rw [CH] at this
    have z:[g0.a,g0.b].length=2:=rfl
    omega
   rw [tk',Ack]
   generalize Us [g0.a,g0.b] (G.take i)=l at e4 ll
   have go:(g.a∈l∨g.b∈l)→∀t':IC,H4 t'=none→∃o3:Option V,[some (V.ref A),some (V.int n),some (V.ref N),some (V.ref pg')]=[some (.ref A),some (.int n),some (.ref N),o3]∧(∀b o,b≠N→H3 b=some o→upd (upd H4 t' (.tup [.str g.a,.str g.b])) N (.lst (l.map V.str++[.str g.a,.str g.b])) b=some o)∧A8 (upd (upd H4 t' (.tup [.str g.a,.str g.b])) N (.lst (l.map V.str++[.str g.a,.str g.b]))) (Dv K) Dg Jr∧upd (upd H4 t' (.tup [.str g.a,.str g.b])) N (.lst (l.map V.str++[.str g.a,.str g.b])) N=some (.lst ((if g.a∈l∨g.b∈l then l++[g.a,g.b] else l).map V.str)):=fun c t' ht'=>by
    have ntN:t'≠N:=fun z=>by rw [z,e4] at ht';cases ht'
    have s5:Aj H4 (upd H4 t' (.tup [.str g.a,.str g.b])):=Ah ht'
    refine ⟨_,rfl,fun b o ne e=>?_,Ac0 (tk4.up s5) Sx.upd (.inl ⟨_,s5 _ _ e4⟩),?_⟩
    ·rw [Am ne]
     exact s5 b o (s4 b o ne e)
    ·rw [AZ c,Ac,BQ]
     rfl
   refine ⟨_,hpg4,_,.inl (Au.of e4),rfl,Cm l,?_⟩
   rw [Px]
   refine ⟨fun h=>?_,fun h=>⟨_,hpg4,_,.inl (Au.of e4),rfl,Cm l,?_⟩⟩
   rotate_left
   ·rw [Px]
    refine ⟨fun h'=>?_,fun h'=>?_⟩
    rotate_left
    ·have c:¬(g.a∈l∨g.b∈l):=fun z=>z.elim (CA h) (CA h')
     rw [AW c]
     exact ⟨_,rfl,s4,tk4,e4⟩
    have c:g.a∈l∨g.b∈l:=.inr (AU h')
    refine ⟨.inl ⟨rfl,_,Au.of e4⟩,_,rfl,_,rfl,pg',_,rfl,F5.of hpg4,(by show ¬(HT.sIx 5 0 (some 1)=0∧HT.sIx 5 5 (some 3)=5);decide),fun t' ht'=>?_⟩
    rw [show Fd [V.int g.d,V.str g.a,V.str g.b,V.int g.h,V.int g.s] (some 1) (some 3)=[V.str g.a,V.str g.b] from rfl]
    have s5:Aj H4 (upd H4 t' (.tup [.str g.a,.str g.b])):=Ah ht'
    exact ⟨N,t',_,_,rfl,rfl,s5 _ _ e4,Ac,by rw [AE];exact AI (show l.length+2≤84 by omega) (by decide),go c t' ht'⟩
   have c:g.a∈l∨g.b∈l:=.inl (AU h)
   refine ⟨fun _=>?_,fun h=>nb h⟩
   refine ⟨.inl ⟨rfl,_,Au.of e4⟩,_,rfl,_,rfl,pg',_,rfl,F5.of hpg4,(by show ¬(HT.sIx 5 0 (some 1)=0∧HT.sIx 5 5 (some 3)=5);decide),fun t' ht'=>?_⟩
   rw [show Fd [V.int g.d,V.str g.a,V.str g.b,V.int g.h,V.int g.s] (some 1) (some 3)=[V.str g.a,V.str g.b] from rfl]
   have s5:Aj H4 (upd H4 t' (.tup [.str g.a,.str g.b])):=Ah ht'
   exact ⟨N,t',_,_,rfl,rfl,s5 _ _ e4,Ac,by rw [AE];exact AI (show l.length+2≤84 by omega) (by decide),go c t' ht'⟩
  rintro σ H4 ⟨o3,rfl,s4,tk4,e4⟩
  rw [lv,CO] at e4
  have l82:(Us [g0.a,g0.b] G).length≤82:=by
   have:=T8 G [g0.a,g0.b]
   have z:[g0.a,g0.b].length=2:=rfl
   omega
  have sN:∀x∈Us [g0.a,g0.b] G,x∈nm:=Zm (fun x hx=>by
   obtain ⟨h1,h2⟩:=sub _ hn
   rcases AS.mp hx with rfl|hx
   ·exact h1
   ·rw [AH.mp hx]
    exact h2) subG
  have l64:(Oc (Us [g0.a,g0.b] G)).length≤nm.length:=Es (Fh (C2 _)) fun x hx=>sN x (Eg.mp hx)
  refine ⟨_,Au.of e4,by omega,by omega,fun D hD=>?_⟩
  have s5:Aj H4 (upd H4 D (.lst ((Oc (Us [g0.a,g0.b] G)).map V.str))):=Ah hD
  have hs:Ow (Dv K) H (upd H4 D (.lst ((Oc (Us [g0.a,g0.b] G)).map V.str))):=fun b o ne e=>s5 b o (s4 b o (fun z=>by rw [z,hN0] at e;cases e) (hz b o ne e))
  refine k D _ hs ?_ Ac (tk4.up s5) stb
  cases c:H D with
  |none=>rfl
  | some o=>
   exfalso
   by_cases z:D=Dv K
   ·obtain ⟨ps4,t4,_⟩:=tk4
    rw [←z,hD] at t4
    cases t4
   ·rw [s4 D o (fun z=>by rw [z,hN0] at c;cases c) (hz D o z c)] at hD
    cases hD
def Gk (K:KKf)(ns:IH):Sp:=fun vs H Q _=>match vs with
 |[.ref L]=>∃gs,(Bk K H L gs∧gs.length≤40∧(A7 gs).length≤8)∧∀H',Aj H H'→Q .non H'
 |_=>False
theorem Qo:Al ["games"] ["games"] (Ad He):=D9
include er n_len in
theorem Qn (d:Bt K mg "check_size" He ["games"])(v_MOST_PLAYERS:Gr mg "MOST_PLAYERS" (.int (8)))(v_MOST_GAMES:Gr mg "MOST_GAMES" (.int (40)))(c_players:Bc P w K mg base "players" ["games"] 1 (Fz K ns)):Bc P w K mg base "check_size" ["games"] 2 (Gk K ns):=by
 refine d.cal (k:=1) Qo (fun vs H Q E hq0=>?_) (fun f cdv A outer s H vs Q E hr hq0=>?_)
 ·obtain ⟨_,rfl,_⟩:=Kv hq0
  rfl
 ·obtain ⟨L,rfl,⟨gs,⟨bk,l40,l8⟩,k⟩⟩:=Kv hq0
  refine ⟨_,(@Aa _ _ _ _ _ (@Bl _ _ _ _ _ _ _ _ (@A0 _ _ _ _ _ _ _ _ Aam (@Av _ _ _ _ _ _ _ _ _ D6 n_len (by decide +kernel) (@Bf _ _ _ (dv 0) (by rfl)) (by trivial)) (Cv v_MOST_GAMES (by rfl)) (Aq _)) (@An _ _ _ Ba) Ao) (@An _ _ _ (@Bl _ _ _ _ _ _ _ _ (@A0 _ _ _ _ _ _ _ _ Aam (@Av _ _ _ _ _ _ _ _ _ D6 n_len (by decide +kernel) (@Bf _ _ _ (@Af _ _ _ _ _ _ _ _ _ _ _ c_players hr (@Bf _ _ _ (dv 0) (by rfl)) (by trivial)) (by rfl)) (by trivial)) (Cv v_MOST_PLAYERS (by rfl)) (Aq _)) (@An _ _ _ Ba) Ao))),?_⟩
  obtain ⟨vs,hx,hm,hl⟩:=id bk
  have lv:=hm.len
  refine ⟨_,.inl hx,⟨fun h=>?_,fun h=>⟨gs,⟨bk,by omega⟩,fun D H1 s1 n1 e1=>⟨_,.inl (Au.of e1),⟨fun h'=>?_,fun h'=>k H1 s1⟩⟩⟩⟩⟩
  ·have:=AU h
   omega
  ·have:=AU h'
   rw [AE] at this
   omega
structure LFd (fs:List (Str×V))(A R:IC)(last:Int):Prop where
 ke:fs.lookup ("kept":Str)=some (.ref A)
 la:fs.lookup ("last":Str)=some (.int last)
 ru:fs.lookup ("rule":Str)=some (.ref R)
 ws:fs.lookup ("worths":Str)=none
 wt:fs.lookup ("worth":Str)=none
 pu:fs.lookup ("put":Str)=none
 ta:fs.lookup ("take":Str)=none
 ga:fs.lookup ("games":Str)=none
 len:fs.length≤100
def I0 (K:KKf)(H:Hp)(L A R:IC)(es:List En)(last:Int):Prop:=∃C dx fs,H L=some (.ins C dx fs)∧PySem.W.nsIn K mainGlobals "Ledger"=some (some (.ref C))∧LFd fs A R last∧Ajx H A es
structure Acn (nm:IG)(es:List En)(last:Int):Prop where
 inc:S3 es
 le:∀e∈es,e.1≤last
 mem:∀e∈es,e.2.a∈nm∧e.2.b∈nm
def Fr3 (L A T:IC)(H H':Hp):Prop:=∀b o,b≠L→b≠A→b≠T→H b=some o→H' b=some o
theorem V4 {f:Str}{v:V}:∀{fs:List (Str×V)} {u:V},fs.lookup f=some u→(Bb f v fs).length=fs.length
 |[],_,h=>by cases h
 | (g,w)::fs,u,h=>by
  by_cases c:f=g
  ·subst c
   unfold Bb
   rw [AZ rfl]
   rfl
  ·have h:fs.lookup f=some u:=by
    rw [EI,show (f==g)=false from DV.mpr c] at h
    exact h
   unfold Bb
   rw [AW fun z=>c z.symm]
   exact congrArg (· + 1) (V4 h)
theorem LFd.put {fs:List (Str×V)}{A R:IC}{last m:Int}(h:LFd fs A R last):LFd (Bb "last" (.int m) fs) A R m:=by
 have:=V4 (v:=.int m) h.la
 have:=h.len
 exact ⟨Ay (by decide +kernel) h.ke,Iq,Ay (by decide +kernel) h.ru,Ay (by decide +kernel) h.ws,Ay (by decide +kernel) h.wt,Ay (by decide +kernel) h.pu,Ay (by decide +kernel) h.ta,Ay (by decide +kernel) h.ga,by omega⟩
theorem Agp {H H':Hp}{P x C dx:IC}{fs:List (Str×V)}{pos:Pos}{q:Str}(h:A8 H P pos q)(s:Sx x H H')(hx:H x=some (.ins C dx fs)):A8 H' P pos q:=by
 obtain ⟨ps,h1,h2,h3⟩:=h
 refine ⟨ps,s _ _ (fun z=>by rw [z,hx] at h1;cases h1) h1,h2,h3.imp id ?_⟩
 rintro ⟨c,e1,e2⟩
 exact ⟨c,e1,s _ _ (fun z=>by rw [z,hx] at e2;cases e2) e2⟩
def Jz (K:KKf)(ns:IH):Sp:=fun vs H Q _=>match vs with
 |[.ref L,v]=>∃(A R:IC) (es:List En) (last:Int) (g:Gm) (nm:IG),(I0 K H L A R es last∧Acn nm es last∧es.length≤40∧nm.length≤20∧Bp H v g∧g.a∈nm∧g.b∈nm∧A8 H (Dv K) Dg Jr) ∧
  (es.length<40∧(A7 (es.map (·.2)++[g])).length≤8)∧∀r D H',Fr3 L A (Dv K) H H'→H' r=some (.tup [.int (last+1),.ref D])→I0 K H' L A R (es++[(last+1,g)]) (last+1)→A8 H' (Dv K) Dg Jr→Q (.ref r) H'
 |_=>False
theorem Abw {vs:IP}{F:IC→V→Prop}(h:match vs with|[.ref x0,x1]=>F x0 x1|_=>False):∃x0 x1,vs=[.ref x0,x1]∧F x0 x1:=by
 match vs,h with
 |[.ref x0,x1],h=>exact ⟨_,_,rfl,h⟩
theorem Qj:Al ["self","played"] ["self","played"] (Ad Ha):=D9
include er n_list in
theorem Qi (d:Hf K [c_Ledger] [] "put" "Ledger.put" Ha ["self","played"])  (c_reached:Bc P w K mg base "reached" ["kept","number"] 5 (O1 K ns))(c_check_size:Bc P w K mg base "check_size" ["games"] 2 (Gk K ns)):E6 P w K mg base [c_Ledger] [] "put" ["self","played"] 6 (Jz K ns):=by
 refine d.cal (k:=5) Qj (fun vs H Q E hq0=>?_) (fun f cdv A outer s H vs Q E hr hq0=>?_)
 ·obtain ⟨_,_,rfl,_⟩:=Abw hq0
  rfl
 ·obtain ⟨L,v,rfl,⟨A,R,es,last,g,nm,⟨⟨C,dx,fs,eL,hC,fd,kvs,eA,al⟩,ok,l40,l20,hg,ga,gb,tk⟩,fit,k⟩⟩:=Abw hq0
  refine ⟨_,(@Aa _ _ _ _ _ (@C3 _ _ _ _ (@Af _ _ _ _ _ _ _ _ _ _ _ c_check_size hr (@Bf _ _ _ (@Ap _ _ _ _ _ _ _ _ L6 (@Vw _ _ _ _ _ _ _ (by rfl) n_list (@Dr _ _ _ _ _ (dv 0) (by rfl)) rfl (by rfl) (by rfl)) (@Hu _ _ _ _ (@Ab _ _ _ _ _ (dv 1) Ag (by rfl)))) (by rfl)) (by trivial)) (by rfl)) (@Aa _ _ _ _ _ (@Hj _ _ _ _ _ _ _ _ (dv 0) (@Ap _ _ _ _ _ _ _ _ Dy (@Dr _ _ _ _ _ (dv 0) (by rfl)) Ae) rfl) (@Aa _ _ _ _ _ (@N7 _ _ _ _ _ _ _ _ _ (@u1 _ _ hr.units) (@Dr _ _ _ _ _ (dv 0) (by rfl)) (@Dr _ _ _ _ _ (dv 0) (by rfl)) (dv 1) rfl) (@A3 _ _ _ _ (@Dx _ _ _ _ _ (@Ab _ _ _ _ _ (@Dr _ _ _ _ _ (dv 0) (by rfl)) (@Ab _ _ _ _ _ (@Af _ _ _ _ _ _ _ _ _ _ _ c_reached hr (@Ai _ _ _ _ _ (@Dr _ _ _ _ _ (dv 0) (by rfl)) (@Bf _ _ _ (@Dr _ _ _ _ _ (dv 0) (by rfl)) (by rfl)) (by rfl)) (by trivial)) Ag (by rfl)) (by rfl))))))),?_⟩
  obtain ⟨pv,rfl,hpv⟩:=id hg
  have cl:Uv K C∧NoAttr K C "kept"∧NoAttr K C "last":=Ge er.y_Ledger hC▸⟨er.l_Ledger,er.na_Ledger_kept,er.na_Ledger_last⟩
  have nLA:A≠L:=fun z=>by rw [z,eL] at eA;cases eA
  refine ⟨L,C,dx,fs,_,rfl,eL,cl.1,cl.2.1,fd.ke,A,kvs,rfl,.inl eA,fun D0 H1 s1 n1 e1=>fun D1 H2 s2 e2=>⟨_,_,s2 _ _ e1,e2,?_,fun P H3 s3 e3=>?_⟩⟩
  ·rw [AE,al.len]
   show es.length+1≤1000
   omega
  have s13:=s1.trans (s2.trans s3)
  have aP:Az (Bp H3) (kvs.map (·.2)++[.ref pv]) (es.map (·.2)++[g]):=(Sl (al.imp fun kv e r=>J1 kv e _ _ (Bq s13) r)).snoc ⟨pv,rfl,s13 _ _ hpv⟩
  have lg:(es.map (·.2)++[g]).length=es.length+1:=by rw [AG,AE];rfl
  have memg:∀x∈es.map (·.2)++[g],x.a∈nm∧x.b∈nm:=fun x hx=>by
   rcases BH.mp hx with h|h
   ·obtain ⟨e,he,rfl⟩:=BG.mp h
    exact ok.mem e he
   ·rw [AH.mp h]
    exact ⟨ga,gb⟩
  have lpl:=Hq memg
  have l39:=fit.1
  have l8:=fit.2
  refine ⟨_,⟨⟨_,Au.of e3,aP,by omega⟩,by omega,by omega⟩,fun H4 s4=>?_⟩
  have memP:∀x∈es.map (·.2)++[g],x.a∈A7 (es.map (·.2)++[g])∧x.b∈A7 (es.map (·.2)++[g]):=fun x hx=>⟨B7.mpr ⟨x,hx,.inl rfl⟩,B7.mpr ⟨x,hx,.inr rfl⟩⟩
  have s04:=s13.trans s4
  have eL4:=s04 _ _ eL
  have eA4:=s04 _ _ eA
  refine ⟨L,C,dx,fs,_,rfl,eL4,cl.1,cl.2.2,fd.la,L,C,dx,fs,rfl,eL4,cl.1,cl.2.2,by have:=fd.len;omega,?_⟩
  have x5:Sx L H4 (upd H4 L (.ins C dx (Bb "last" (.int (last+1)) fs))):=Sx.upd
  have eL5:upd H4 L (.ins C dx (Bb "last" (.int (last+1)) fs)) L=some (.ins C dx (Bb "last" (.int (last+1)) fs)):=Ac
  have fd5:=fd.put (m:=last+1)
  have kt5:Kt H4 (upd H4 L (.ins C dx (Bb "last" (.int (last+1)) fs))):=x5.kt eL4
  have tk5:A8 (upd H4 L (.ins C dx (Bb "last" (.int (last+1)) fs))) (Dv K) Dg Jr:=Agp (tk.up s04) x5 eL4
  generalize upd H4 L (.ins C dx (Bb "last" (.int (last+1)) fs))=H5 at x5 eL5 kt5 tk5
  have eA5:=x5 _ _ nLA eA4
  have lk:kvs.length<41:=by rw [al.len];omega
  refine ⟨L,C,dx,_,_,rfl,eL5,cl.1,cl.2.1,fd5.ke,L,C,dx,_,_,rfl,eL5,cl.1,cl.2.2,fd5.la,A,_,rfl,Vt.k (k:=Sum.inl (last+1)) eA5 (AV lk (by decide)),?_⟩
  have nn:B4 kvs (Sum.inl (last+1))=none:=Yr al fun e he z=>by
   have:=ok.le e he
   omega
  rw [U1 _ nn]
  have x6:Sx A H5 (upd H5 A (.dK (kvs++[(Sum.inl (last+1),.ref pv)]))):=Sx.upd
  have eA6:upd H5 A (.dK (kvs++[(Sum.inl (last+1),.ref pv)])) A=some (.dK (kvs++[(Sum.inl (last+1),.ref pv)])):=Ac
  have kt6:Kt H5 (upd H5 A (.dK (kvs++[(Sum.inl (last+1),.ref pv)]))):=x6.kt' eA5
  have tk6:A8 (upd H5 A (.dK (kvs++[(Sum.inl (last+1),.ref pv)]))) (Dv K) Dg Jr:=Ac0 tk5 x6 (.inr ⟨_,eA5⟩)
  have eL6:=x6 _ _ (DI nLA) eL5
  generalize upd H5 A (.dK (kvs++[(Sum.inl (last+1),.ref pv)]))=H6 at x6 eA6 kt6 tk6 eL6
  have kt06:Kt H H6:=((Bq s04).trans kt5).trans kt6
  have al6:Az (So H6) (kvs++[(Sum.inl (last+1),.ref pv)]) (es++[(last+1,g)]):=(al.imp fun kv e r=>J1 kv e _ _ kt06 r).snoc ⟨rfl,pv,rfl,kt06 _ _ hpv⟩
  have inc6:S3 (es++[(last+1,g)]):=List.pairwise_append.mpr ⟨ok.inc,FM ..,fun a ha b hb=>by
   rw [AH.mp hb]
   have:=ok.le a ha
   show a.1<last+1
   omega⟩
  have fr6:∀b o,b≠L→b≠A→H b=some o→H6 b=some o:=fun b o n1 n2 e=>x6 b o n2 (x5 b o n1 (s04 b o e))
  refine ⟨L,C,dx,_,_,rfl,eL6,cl.1,cl.2.2,fd5.la,L,C,dx,_,_,rfl,eL6,cl.1,cl.2.1,fd5.ke,L,C,dx,_,_,rfl,eL6,cl.1,cl.2.2,fd5.la,?_⟩
  refine ⟨es++[(last+1,g)],g,A7 (es.map (·.2)++[g]),⟨⟨_,eA6,al6⟩,inc6,by rw [AG];show es.length+1≤40;omega,BA _ (AH.mpr rfl),tk6,l8,fun e he=>?_⟩,fun D H7 p sm nD eD tk7 stb=>fun R H8 s8 e8=>?_⟩
  ·refine memP _ ?_
   rcases BH.mp he with h|h
   ·exact CC _ (BG.mpr ⟨e,h,rfl⟩)
   ·rw [AH.mp h]
    exact BA _ (AH.mpr rfl)
  obtain ⟨ps,tt,_⟩:=tk6
  have nLT:L≠Dv K:=fun z=>by rw [z,tt] at eL6;cases eL6
  have nAT:A≠Dv K:=fun z=>by rw [z,tt] at eA6;cases eA6
  have kt7:Kt H6 H7:=fun q xs e=>sm q _ (fun z=>by rw [z,tt] at e;cases e) e
  have kt68:=kt7.trans (Bq s8)
  exact k R D H8 (fun b o n1 n2 n3 e=>s8 b o (sm b o n3 (fr6 b o n1 n2 e))) e8 ⟨C,dx,_,s8 _ _ (sm _ _ nLT eL6),hC,fd5,_,s8 _ _ (sm _ _ nAT eA6),al6.imp fun kv e r=>J1 kv e _ _ kt68 r⟩ (tk7.up s8)
def Dj (K:KKf)(ns:IH):Sp:=fun vs H Q _=>match vs with
 |[.ref L]=>∃(A R:IC) (es:List En) (last:Int),(I0 K H L A R es last∧es.length≤40∧A8 H (Dv K) Dg Jr) ∧
  ∀D vs H' p,Ow (Dv K) H H'→H D=none→H' D=some (.lst vs)→A8 H' (Dv K) Dg Jr→Nh (dk (es.map (·.2))) (es.map (·.2)).length p→Az (Bp H') vs (pg (es.map (·.2)) p)→Q (.ref D) H'
 |_=>False
theorem Nw:Al ["self"] ["self"] (Ad F4):=D9
include er n_list in
theorem Nn (d:Hf K [c_Ledger] [] "games" "Ledger.games" F4 ["self"])  (c_in_order:Bc P w K mg base "in_order" ["games"] 3 (Jh K ns)):E6 P w K mg base [c_Ledger] [] "games" ["self"] 4 (Dj K ns):=by
 refine d.cal (k:=3) Nw (fun vs H Q E hq0=>?_) (fun f cdv A outer s H vs Q E hr hq0=>?_)
 ·obtain ⟨_,rfl,_⟩:=Kv hq0
  rfl
 ·obtain ⟨L,rfl,⟨A,R,es,last,⟨⟨C,dx,fs,eL,hC,fd,kvs,eA,al⟩,l40,tk⟩,k⟩⟩:=Kv hq0
  refine ⟨_,(@A3 _ _ _ _ (@Af _ _ _ _ _ _ _ _ _ _ _ c_in_order hr (@Bf _ _ _ (@Vw _ _ _ _ _ _ _ (by rfl) n_list (@Dr _ _ _ _ _ (dv 0) (by rfl)) rfl (by rfl) (by rfl)) (by rfl)) (by trivial))),?_⟩
  have cl:Uv K C∧NoAttr K C "kept":=Ge er.y_Ledger hC▸⟨er.l_Ledger,er.na_Ledger_kept⟩
  refine ⟨L,C,dx,fs,_,rfl,eL,cl.1,cl.2,fd.ke,A,kvs,rfl,.inl eA,fun D0 H1 s1 n1 e1=>?_⟩
  have a1:=Sl (al.imp fun kv e r=>J1 kv e _ _ (Bq s1) r)
  refine ⟨_,_,⟨Au.of e1,a1,by rw [AE];omega,tk.up s1⟩,fun D H2 p sm nD eD tk2 stb=>?_⟩
  obtain ⟨ps,tt,_⟩:=tk.up s1
  have kt2:Kt H1 H2:=fun q xs e=>sm q _ (fun z=>by rw [z,tt] at e;cases e) e
  exact k D _ H2 p (fun b o ne e=>sm b o ne (s1 b o e)) (A9 s1 nD) eD tk2 stb (Ac4 (a1.imp fun v g r=>Bm v g _ _ kt2 r) fun i hi=>stb.2.1 i hi)
theorem Oa {H:Hp}{x dx C:IC}(hx:H x=none)(hd:H dx=none)(ne:dx≠x):Aj H (upd (upd H dx (.own x)) x (.ins C dx [])):=(Ah hd).trans (Ah (by rw [Am (DI ne)];exact hx))
theorem Z9 {H H1 H':Hp}{x:IC}(hx:H x=none)(s:Aj H H1)(a:Sx x H1 H'):Aj H H':=fun b o e=>a b o (fun z=>by rw [z,hx] at e;cases e) (s b o e)
def Xr (K:KKf)(H:Hp)(a:IC)(so st fi one two:Int)(rows:List Rw):Prop:=∃C dx fs T,H a=some (.ins C dx fs)∧Kn K so C∧Fds fs so st fi one two T∧TbL K H T rows
theorem Xr.up {K:KKf}{H H':Hp}{a:IC}{so st fi one two:Int}{rows:List Rw}(s:Aj H H'):Xr K H a so st fi one two rows→Xr K H' a so st fi one two rows:=fun ⟨C,dx,fs,T,e,kn,f,vs,t1,t2⟩=>⟨C,dx,fs,T,s _ _ e,kn,f,vs,s _ _ t1,t2.imp fun v g r=>Ht v g _ _ (Bq s) r⟩
def G6 (K:KKf)(ns:IH):Sp:=fun vs H Q _=>match vs with
 |[.ref a]=>∃(st fi one two:Int) (rows:List Rw),(Xr K H a 0 st fi one two rows∧Ri rows)∧∀r H',Aj H H'→H r=none→Xr K H' r 0 st fi one two rows→Q (.ref r) H'
 |_=>False
theorem Tv:Al ["self"] ["self"] (Ad Iu):=D9
include er in
theorem Ua (d:Hf K [c_Rule] [] "twin" "Rule.twin" Iu ["self"])  (c_Rule___init__:E6 P w K mg base [c_Rule] [] "__init__" ["self","step","first","table"] 6 (Ef K ns)):E6 P w K mg base [c_Rule] [] "twin" ["self"] 8 (G6 K ns):=by
 refine d.cal (k:=7) Tv (fun vs H Q E hq0=>?_) (fun f cdv A outer s H vs Q E hr hq0=>?_)
 ·obtain ⟨_,rfl,_⟩:=Kv hq0
  rfl
 ·obtain ⟨a,rfl,⟨st,fi,one,two,rows,⟨⟨C,dx,fs,T,e,kn,f,vs,eT,al⟩,good⟩,k⟩⟩:=Kv hq0
  refine ⟨_,(@A3 _ _ _ _ (@Xo _ _ _ _ _ _ _ _ _ _ _ _ _ _ c_Rule___init__ (List.Mem.head _) er.m_Rule hr (by decide) (by rfl) er.b_Rule (@Ab _ _ _ _ _ (@Dr _ _ _ _ _ (dv 0) (by rfl)) (@Ab _ _ _ _ _ (@Dr _ _ _ _ _ (dv 0) (by rfl)) (@Ab _ _ _ _ _ (@Dr _ _ _ _ _ (dv 0) (by rfl)) Ag (by rfl)) (by rfl)) (by rfl)) (by decide) (by rfl) (by rfl))),?_⟩
  have hC:C=c_Rule:=Ge kn.2 er.y_Rule
  subst hC
  refine ⟨a,_,dx,fs,_,rfl,e,er.l_Rule,er.na_Rule_step,f.st,a,_,dx,fs,_,rfl,e,er.l_Rule,er.na_Rule_first,f.fi,a,_,dx,fs,_,rfl,e,er.l_Rule,er.na_Rule_table,f.tb,fun x dx' hx hd' ne=>?_⟩
  have s1:=Oa (C:=C) hx hd' ne
  have e1:upd (upd H dx' (.own x)) x (.ins C dx' []) x=some (.ins C dx' []):=Ac
  generalize upd (upd H dx' (.own x)) x (.ins C dx' [])=H1 at s1 e1
  have a1:=al.imp fun v g r=>Ht v g _ _ (Bq s1) r
  have fin:∀{T':IC} {fs':List (Str×V)} {H2:Hp},Sx x H1 H2→H2 T'=some (.lst vs)→H2 x=some (.ins C dx' fs')→Fds fs' 0 st fi one two T'→Q (.ref x) H2:=fun {T' fs' H2} s2 eT' ex f'=>k x H2 (fun b o eb=>s2 b o (fun z=>by rw [z,hx] at eb;cases eb) (s1 b o eb)) hx ⟨C,dx',fs',T',ex,kn,f',vs,eT',a1.imp fun v g r=>Ht v g _ _ (s2.kt e1) r⟩
  refine ⟨_,dx',[],rows,vs,⟨e1,er.l_Rule,er.na_Rule_step,er.na_Rule_first,er.na_Rule_table,by decide,s1 _ _ eT,a1,good⟩,fun T' H2 s2 nT n1 eT' ex=>⟨rfl,?_⟩⟩
  have f0:=fd0 (st:=st) (fi:=fi) (T:=T') (fs:=[]) rfl
  exact fin s2 eT' ex ⟨f0.st,f0.fi,f0.tb,f0.sz,f0.bt,f0.tw⟩
def TwT (K:KKf)(T:List (IC×Sp)):Prop:=∀so C,Kn K so C→∃sp,(C,sp)∈T∧∀a H st fi one two rows Q,Xr K H a so st fi one two rows→Ri rows→(∀r H',Aj H H'→H r=none→Xr K H' r so st fi one two rows→Q (.ref r) H')→sp [.ref a] H Q E0
theorem An0 {K:KKf}{ns:IH}{c0:IC}(y0:PySem.W.nsIn K mainGlobals "Rule"=some (some (.ref c0))):TwT K [(c0,G6 K ns)]:=by
 rintro so C ⟨rfl,h⟩
 have z:=Ge h y0
 subst z
 exact ⟨_,.head _,fun a H st fi one two rows Q hR g k=>⟨st,fi,one,two,rows,⟨hR,g⟩,k⟩⟩
def Ft (K:KKf)(ns:IH):Sp:=fun vs H Q _=>match vs with
 |[.ref L,.ref a]=>∃(C0 dx0:IC) (so st fi one two:Int) (rows:List Rw),(H L=some (.ins C0 dx0 [])∧PySem.W.nsIn K mainGlobals "Ledger"=some (some (.ref C0))∧Xr K H a so st fi one two rows∧Ri rows)∧∀A R H',Sx L H H'→H A=none→A≠L→H R=none→I0 K H' L A R [] 0→Xr K H' R so st fi one two rows→Q .non H'
 |_=>False
theorem Km:Al ["self","rule"] ["self","rule"] (Ad Ea):=D9
include er in
theorem J5 (d:Hf K [c_Ledger] [] "__init__" "Ledger.__init__" Ea ["self","rule"])  (c_Rule_twin:E6 P w K mg base [c_Rule] [] "twin" ["self"] 8 (G6 K ns)):E6 P w K mg base [c_Ledger] [] "__init__" ["self","rule"] 9 (Ft K ns):=by
 refine d.cal (k:=8) Km (fun vs H Q E hq0=>?_) (fun f cdv A outer s H vs Q E hr hq0=>?_)
 ·obtain ⟨_,_,rfl,_⟩:=Qq hq0
  rfl
 ·obtain ⟨L,a,rfl,⟨C0,dx0,so,st,fi,one,two,rows,⟨eL,hC,hR,good⟩,k⟩⟩:=Qq hq0
  refine ⟨_,(@Aa _ _ _ _ _ (@Hj _ _ _ _ _ _ _ _ (dv 0) (@Kz _ _ _ _ _ _ _ _ _ (dv 1) (@Dz _ _ _ _ _ _ _ _ _ _ _ _ _ _ c_Rule_twin (List.Mem.head _) er.l_Rule (by decide) Fx) hr (by rfl)) rfl) (@Aa _ _ _ _ _ (@Hj _ _ _ _ _ _ _ _ (dv 0) Lq rfl) (@An _ _ _ (@Hj _ _ _ _ _ _ _ _ (dv 0) Ae rfl)))),?_⟩
  have cl:Uv K C0∧NoAttr K C0 "rule"∧NoAttr K C0 "kept"∧NoAttr K C0 "last":=Ge er.y_Ledger hC▸⟨er.l_Ledger,er.na_Ledger_rule,er.na_Ledger_kept,er.na_Ledger_last⟩
  obtain ⟨C,dx,fs,T,e,kn,f,tb⟩:=id hR
  obtain ⟨sp,hm,hs⟩:=An0 (ns:=ns) er.y_Rule so C kn
  refine ⟨a,C,dx,fs,sp,rfl,e,hm,f.tw,hs a H st fi one two rows _ hR good fun r H1 s1 nr hr=>⟨L,C0,dx0,[],rfl,s1 _ _ eL,cl.1,cl.2.1,by decide,?_⟩⟩
  have nrL:r≠L:=fun z=>by rw [z,eL] at nr;cases nr
  have x2:Sx L H1 (upd H1 L (.ins C0 dx0 (Bb "rule" (.ref r) []))):=Sx.upd
  have e2:upd H1 L (.ins C0 dx0 (Bb "rule" (.ref r) [])) L=some (.ins C0 dx0 (Bb "rule" (.ref r) [])):=Ac
  have kt2:=x2.kt (s1 _ _ eL)
  have sx:∀{H':Hp},Sx L H1 H'→Kt H1 H'→Xr K H' r so st fi one two rows:=fun {H'} sx kt=>by
   obtain ⟨C',dx',fs',T',e',kn',f',vs',t1,t2⟩:=hr
   exact ⟨C',dx',fs',T',sx _ _ nrL e',kn',f',vs',sx _ _ (fun z=>by rw [z,s1 _ _ eL] at t1;cases t1) t1,t2.imp fun v g r=>Ht v g _ _ kt r⟩
  generalize upd H1 L (.ins C0 dx0 (Bb "rule" (.ref r) []))=H2 at x2 e2 kt2
  intro A hA
  have nAL:A≠L:=fun z=>by rw [z,e2] at hA;cases hA
  have s3:Aj H2 (upd H2 A (.dK [])):=Ah hA
  have e3:upd H2 A (.dK []) A=some (.dK []):=Ac
  generalize upd H2 A (.dK [])=H3 at s3 e3
  have l1:=Cp "rule" (.ref r) []
  have l2:=Cp "kept" (.ref A) (Bb "rule" (.ref r) [])
  have l3:=Cp "last" (.int 0) (Bb "kept" (.ref A) (Bb "rule" (.ref r) []))
  have l0:([]:List (Str×V)).length=0:=rfl
  have e3L:=s3 _ _ e2
  refine ⟨L,C0,dx0,_,rfl,e3L,cl.1,cl.2.2.1,by omega,L,C0,dx0,_,rfl,Ac,cl.1,cl.2.2.2,by omega,?_⟩
  have x5:Sx L H1 (upd (upd H3 L (.ins C0 dx0 (Bb "kept" (.ref A) (Bb "rule" (.ref r) [])))) L (.ins C0 dx0 (Bb "last" (.int 0) (Bb "kept" (.ref A) (Bb "rule" (.ref r) []))))):=x2.trans (Sx.trans (Sx.of s3) (Sx.trans Sx.upd Sx.upd))
  have kt5:Kt H1 (upd (upd H3 L (.ins C0 dx0 (Bb "kept" (.ref A) (Bb "rule" (.ref r) [])))) L (.ins C0 dx0 (Bb "last" (.int 0) (Bb "kept" (.ref A) (Bb "rule" (.ref r) []))))):=x5.kt (s1 _ _ eL)
  refine k A r _ (Sx.trans (Sx.of s1) x5) ?_ nAL nr ⟨C0,dx0,_,Ac,hC,⟨Ay (by decide +kernel) Iq,Iq,Ay (by decide +kernel) (Ay (by decide +kernel) Iq),Ay (by decide +kernel) (Ay (by decide +kernel) (Ay (by decide +kernel) rfl)),Ay (by decide +kernel) (Ay (by decide +kernel) (Ay (by decide +kernel) rfl)),Ay (by decide +kernel) (Ay (by decide +kernel) (Ay (by decide +kernel) rfl)),Ay (by decide +kernel) (Ay (by decide +kernel) (Ay (by decide +kernel) rfl)),Ay (by decide +kernel) (Ay (by decide +kernel) (Ay (by decide +kernel) rfl)),by omega⟩,[],?_,.nil⟩ (sx x5 kt5)
  ·cases c:H A with
   |none=>rfl
   |some o=>
    rw [x2 A o nAL (s1 _ _ c)] at hA
    cases hA
  ·rw [Am nAL,Am nAL]
   exact e3
theorem I0.smt {K:KKf}{T L A R:IC}{H H':Hp}{es:List En}{last:Int}{pos:Pos}{q:Str}(sm:Ow T H H')(tk:A8 H T pos q)(h:I0 K H L A R es last):I0 K H' L A R es last:=by
 obtain ⟨ps,tt,_⟩:=tk
 obtain ⟨C,dx,fs,eL,hC,fd,kvs,eA,al⟩:=h
 have kt:Kt H H':=fun p xs e=>sm p _ (fun z=>by rw [z,tt] at e;cases e) e
 exact ⟨C,dx,fs,sm _ _ (fun z=>by rw [z,tt] at eL;cases eL) eL,hC,fd,kvs,sm _ _ (fun z=>by rw [z,tt] at eA;cases eA) eA,al.imp fun kv e r=>J1 kv e _ _ kt r⟩
theorem I0.up {K:KKf}{H H':Hp}{L A R:IC}{es:List En}{last:Int}(s:Aj H H')(h:I0 K H L A R es last):I0 K H' L A R es last:=by
 obtain ⟨C,dx,fs,eL,hC,fd,kvs,eA,al⟩:=h
 exact ⟨C,dx,fs,s _ _ eL,hC,fd,kvs,s _ _ eA,al.imp fun kv e r=>J1 kv e _ _ (Bq s) r⟩
theorem P8 {gs:IQ}:∀{p:IM},(∀i∈p,i<gs.length)→(pg gs p).length=p.length
 |[],_=>rfl
 | j::p,h=>by
  have hj:=h j AO
  have e:pg gs (j::p)=gs[j]::pg gs p:=by
   unfold pg
   rw [FG,AD hj]
  rw [e,BN,BN,P8 fun i hi=>h i (AQ _ hi)]
def d0:En:=(0,⟨0,⟨#[]⟩,⟨#[]⟩,0,0⟩)
def pe (es:List En)(q:IM):List En:=q.map fun i=>es.getD i d0
def lx (a b:En):Prop:=a.2.d<b.2.d∨a.2.d=b.2.d∧a.1<b.1
theorem Ag1 {K:KKf}{L A R T:IC}{H H':Hp}{es:List En}{last:Int}{pos:Pos}{q:Str}(h:Fr3 L A T H H')(lg:I0 K H L A R es last)(tk:A8 H T pos q):(∀b xs,H b=some (.lst xs)→H' b=some (.lst xs))∧Kt H H':=by
 obtain ⟨C,dx,fs,eL,_,_,kvs,eA,_⟩:=lg
 obtain ⟨ps,eT,_⟩:=tk
 refine ⟨fun b xs e=>h b _ ?_ ?_ ?_ e,fun b xs e=>h b _ ?_ ?_ ?_ e⟩
 ·exact fun z=>by rw [z,eL] at e;cases e
 ·exact fun z=>by rw [z,eA] at e;cases e
 ·exact fun z=>by rw [z,eT] at e;cases e
 ·exact fun z=>by rw [z,eL] at e;cases e
 ·exact fun z=>by rw [z,eA] at e;cases e
 ·exact fun z=>by rw [z,eT] at e;cases e
theorem Ag7 {nm:IG}{es:List En}{last:Int}{g:Gm}(ok:Acn nm es last)(ga:g.a∈nm)(gb:g.b∈nm):Acn nm (es++[(last+1,g)]) (last+1):=by
 refine ⟨List.pairwise_append.mpr ⟨ok.inc,FM ..,fun a ha b hb=>?_⟩,fun e he=>?_,fun e he=>?_⟩
 ·rw [AH.mp hb]
  have:=ok.le a ha
  show a.1<last+1
  omega
 ·rcases BH.mp he with h|h
  ·have:=ok.le e h
   omega
  ·rw [AH.mp h]
   exact FT _
 ·rcases BH.mp he with h|h
  ·exact ok.mem e h
  ·rw [AH.mp h]
   exact ⟨ga,gb⟩
theorem Ajl {u:HO}{t:String}(h:Ake u=some t):tyB t "str"=some false:=by
 cases u with
 |lst _=>cases h;rfl
 |tup _=>cases h;rfl
 |dK _=>cases h;rfl
 |dT _=>cases h;rfl
 |frz o u=>
  cases u with
  |lst _=>cases h;rfl
  |_=>cases h
 |_=>cases h
def K8 (x:Str):Bool:=decide (1≤x.length)&&decide (x.length≤8)&&(co x).all fun c=>decide (c∈co abc)
def Ls:V→Bool
 |.str x=>K8 x
 |_=>false
theorem Agj {c:Nat}:c∈co abc↔97≤c∧c<123:=by
 have e:co abc=(List.range 26).map fun j=>97+j:=by decide +kernel
 rw [e,BG]
 constructor
 ·rintro ⟨j,hj,rfl⟩
  have:=CN.mp hj
  omega
 ·intro h
  exact ⟨c-97,CN.mpr (by omega),by omega⟩
theorem _root_.Lw.Nm.is {x:Str}(h:Nm x):K8 x=true:=by
 unfold K8
 have l:=A2 x
 have h1:=h.len1
 have h8:=h.len8
 rw [BV,BV]
 refine ⟨⟨AR (by omega),AR (by omega)⟩,CI.mpr fun c hc=>AR (Agj.mpr (h.abc c hc))⟩
def Ph (K:KKf)(ns:IH):Sp:=fun vs H Q _=>match vs with
 |[v]=>Kd H v∧(∀z,v=.str z→z.length≤1000)∧∀H',Aj H H'→Q (.bl (Ls v)) H'
 |_=>False
theorem Xg:Al ["thing"] ["thing"] (Ad Lv):=D9
include er n_all n_len n_isinstance n_str in
theorem Xk (d:Bt K mg "is_name" Lv ["thing"])(v_LETTERS:Gr mg "LETTERS" (.str "abcdefghijklmnopqrstuvwxyz"))(v_LONGEST_NAME:Gr mg "LONGEST_NAME" (.int (8))) :Bc P w K mg base "is_name" ["thing"] 1 (Ph K ns):=by
 refine d.cal (k:=0) Xg (fun vs H Q E h=>?_) (fun f cdv A outer s H vs Q E hr h=>?_)
 ·match vs,h with
  |[_],_=>rfl
 ·refine ⟨_,(@Aa _ _ _ _ _ (@Bl _ _ _ _ _ _ _ _ (@L2.PW.pt _ _ _ (@J9 _ _ _ _ _ _ _ (@Bw _ _ _ _ (@Ci _ _ _ (@Av _ _ _ _ _ _ _ _ _ Pj n_isinstance (by decide +kernel) (@Ai _ _ _ _ _ (dv 0) (@Bf _ _ _ (Wd "str" (by rfl) n_str (by decide +kernel)) (by rfl)) (by rfl)) (by trivial)) (by intro _;rfl))) (@Fp _ _ _ _ (@Bw _ _ _ _ (@N4 _ _ _ _ _ _ _ _ _ _ _ _ Qr Qr Ae (@Av _ _ _ _ _ _ _ _ _ D6 n_len (by decide +kernel) (@Bf _ _ _ (dv 0) (by rfl)) (by trivial)) (Cv v_LONGEST_NAME (by rfl)) (by with_unfolding_all rfl)))))) (@A3 _ _ _ _ Fw) Ao) (@A3 _ _ _ _ (@Av _ _ _ _ _ _ _ _ _ (@Vc _ rfl) n_all (by decide +kernel) (@Bf _ _ _ (@Cc _ _ _ _ _ _ _ _ _ _ ["sign"] [] [] rfl (@Ac2 _ _ _ _ (dv 0)) (fun C s H fp=>(@Ar _ _ (0) _ (show List.Nodup [("sign":Str)] by decide +kernel) rfl (by trivial) (by trivial))) (fun C s H fp=>(@Bh _ _ _ _ _ _ _ _ Ait (dv 0) (Cv v_LETTERS (by rfl)) (by with_unfolding_all rfl))) rfl rfl (by decide +kernel) (by decide +kernel) (by rfl) ⟨⟩ ⟨⟩ (by intro _;rfl)) (by rfl)) (by trivial)))),?_⟩
  match vs,h with
  |[.int _],⟨_,_,q⟩=>exact ⟨false,rfl,⟨fun _=>⟨fun _=>q _ (Aj.refl _),fun h=>nb h⟩,fun h=>nb h⟩⟩
  |[.bl _],⟨_,_,q⟩=>exact ⟨false,rfl,⟨fun _=>⟨fun _=>q _ (Aj.refl _),fun h=>nb h⟩,fun h=>nb h⟩⟩
  |[.non],⟨_,_,q⟩=>exact ⟨false,rfl,⟨fun _=>⟨fun _=>q _ (Aj.refl _),fun h=>nb h⟩,fun h=>nb h⟩⟩
  |[.ref _],⟨⟨u,t,h1,h2,h3⟩,_,q⟩=>exact ⟨u,false,t,h1,h2,Ajl h2,⟨fun _=>⟨fun _=>q _ (Aj.refl _),fun h=>nb h⟩,fun h=>nb h⟩⟩
  |[.flt _],⟨z,_⟩=>exact z.elim
  |[.byt _],⟨z,_⟩=>exact z.elim
  |[.ty _],⟨z,_⟩=>exact z.elim
  | [.str x],⟨_,hz,q⟩=>
   have hz:=hz x rfl
   refine ⟨true,rfl,⟨fun h=>nb h,fun _=>⟨AI hz (by decide),⟨fun h1=>⟨fun h2=>?_,fun h2=>?_⟩,fun h1=>?_⟩⟩⟩⟩
   ·have h2:¬(x.length:Int)≤8:=by simpa using h2
    have e:Ls (.str x)=false:=by
     show K8 x=false
     unfold K8
     rw [BF (show ¬x.length≤8 by omega),FB,EB]
    have q:=q _ (Aj.refl _)
    rw [e] at q
    exact q
   ·have h2:(x.length:Int)≤8:=by simpa using h2
    show Hr (Its x) _ _ _ _ _ _ _
    refine U2 (fun c=>.bl (decide (c∈co abc))) hz (fun c H2 hc s2 P hP=>⟨rfl,c,rfl,hP⟩) fun D H2 s2 e2=>⟨(co x).map fun c=>decide (c∈co abc),Au.of (by rw [e2,GD];rfl),?_⟩
    have e:Ls (.str x)=((co x).map fun c=>decide (c∈co abc)).all id:=by
     have h1:(1:Int)≤x.length:=AU h1
     show K8 x=_
     unfold K8
     rw [AR (show 1≤x.length by omega),AR (show x.length≤8 by omega),HZ]
     rfl
    rw [←e]
    exact q H2 s2
   ·refine ⟨fun _=>?_,fun h=>nb h⟩
    have e:Ls (.str x)=false:=by
     have h1:¬(1:Int)≤x.length:=CA h1
     show K8 x=false
     unfold K8
     rw [BF (show ¬1≤x.length by omega),EB,EB]
    have q:=q _ (Aj.refl _)
    rw [e] at q
    exact q
def eqS:V→V→Bool
 |.str a,.str b=>decide (a=b)
 |_,_=>false
def F9 (d x y h s:V):Bool:=Qh d 0 9999&&Ls x&&Ls y&&!eqS x y&&Qh h 0 2&&Qh s (-1) 1
def SL (v:V):Prop:=∀z,v=.str z→z.length≤1000
theorem Ab9 {v:V}(h:Ls v=true):∃x,v=.str x:=by
 cases v with
 |str x=>exact ⟨x,rfl⟩
 |_=>cases h
def Zk (K:KKf)(ns:IH):Sp:=fun vs H Q _=>match vs with
 |[d,x,y,h,s]=>(Kd H d∧Kd H x∧Kd H y∧Kd H h∧Kd H s)∧(SL x∧SL y)∧F9 d x y h s=true∧∀p H',Aj H H'→H' p=some (.tup [d,x,y,h,s])→Q (.ref p) H'
 |_=>False
theorem Aah {vs:IP}{F:V→V→V→V→V→Prop}(h:match vs with|[x0,x1,x2,x3,x4]=>F x0 x1 x2 x3 x4|_=>False):∃x0 x1 x2 x3 x4,vs=[x0,x1,x2,x3,x4]∧F x0 x1 x2 x3 x4:=by
 match vs,h with
 |[x0,x1,x2,x3,x4],h=>exact ⟨_,_,_,_,_,rfl,h⟩
theorem Ah6:Al ["day","one","other","halves","side"] ["day","one","other","halves","side"] (Ad Xm):=D9
include er in
theorem Ahl (d:Bt K mg "game" Xm ["day","one","other","halves","side"])(v_LAST_DAY:Gr mg "LAST_DAY" (.int (9999)))(c_is_between:Bc P w K mg base "is_between" ["thing","least","most"] 2 (Ei K ns))(c_is_name:Bc P w K mg base "is_name" ["thing"] 1 (Ph K ns)):Bc P w K mg base "game" ["day","one","other","halves","side"] 3 (Zk K ns):=by
 refine d.cal (k:=2) Ah6 (fun vs H Q E hq0=>?_) (fun f cdv A outer s H vs Q E hr hq0=>?_)
 ·obtain ⟨_,_,_,_,_,rfl,_⟩:=Aah hq0
  rfl
 ·obtain ⟨d0,x,y,h0,s0,rfl,⟨⟨kd,kx,ky,kh,ks⟩,⟨lx,ly⟩,gd,q⟩⟩:=Aah hq0
  refine ⟨_,(@Aa _ _ _ _ _ (@Bl _ _ _ _ _ _ _ _ (@Bw _ _ _ _ (@Ci _ _ _ (@Af _ _ _ _ _ _ _ _ _ _ _ c_is_between hr (@Ai _ _ _ _ _ (dv 0) (@Ai _ _ _ _ _ Ae (@Bf _ _ _ (Cv v_LAST_DAY (by rfl)) (by rfl)) (by rfl)) (by rfl)) (by trivial)) (by intro _;rfl))) (@An _ _ _ Ba) Ao) (@Aa _ _ _ _ _ (@Bl _ _ _ _ _ _ _ _ (@L2.PW.pt _ _ _ (@J9 _ _ _ _ _ _ _ (@Bw _ _ _ _ (@Ci _ _ _ (@Af _ _ _ _ _ _ _ _ _ _ _ c_is_name hr (@Bf _ _ _ (dv 1) (by rfl)) (by trivial)) (by intro _;rfl))) (@Fp _ _ _ _ (@Bw _ _ _ _ (@Ci _ _ _ (@Af _ _ _ _ _ _ _ _ _ _ _ c_is_name hr (@Bf _ _ _ (dv 2) (by rfl)) (by trivial)) (by intro _;rfl)))))) (@An _ _ _ Ba) Ao) (@Aa _ _ _ _ _ (@Bl _ _ _ _ _ _ _ _ (@A0 _ _ _ _ _ _ _ _ Ee (dv 1) (dv 2) (Aq _)) (@An _ _ _ Ba) Ao) (@Aa _ _ _ _ _ (@Bl _ _ _ _ _ _ _ _ (@Bw _ _ _ _ (@Ci _ _ _ (@Af _ _ _ _ _ _ _ _ _ _ _ c_is_between hr (@Ai _ _ _ _ _ (dv 3) (@Ai _ _ _ _ _ Ae (@Bf _ _ _ Ae (by rfl)) (by rfl)) (by rfl)) (by trivial)) (by intro _;rfl))) (@An _ _ _ Ba) Ao) (@Aa _ _ _ _ _ (@Bl _ _ _ _ _ _ _ _ (@Bw _ _ _ _ (@Ci _ _ _ (@Af _ _ _ _ _ _ _ _ _ _ _ c_is_between hr (@Ai _ _ _ _ _ (dv 4) (@Ai _ _ _ _ _ (@Nf _ _ _ _ _ _ M3 Ae) (@Bf _ _ _ Ae (by rfl)) (by rfl)) (by rfl)) (by trivial)) (by intro _;rfl))) (@An _ _ _ Ba) Ao) (@A3 _ _ _ _ (@Dx _ _ _ _ _ (@Ab _ _ _ _ _ (dv 0) (@Ab _ _ _ _ _ (dv 1) (@Ab _ _ _ _ _ (dv 2) (@Ab _ _ _ _ _ (dv 3) (@Ab _ _ _ _ _ (dv 4) Ag (by rfl)) (by rfl)) (by rfl)) (by rfl)) (by rfl))))))))),?_⟩
  have ex:F9 d0 x y h0 s0=false→False:=fun z=>by
   rw [gd] at z
   cases z
  refine ⟨kd,⟨fun h1=>?_,fun h1=>?_⟩⟩
  ·have h1:Qh d0 0 9999=false:=by simpa using h1
   exact (ex (by simp [F9,h1])).elim
  have h1:Qh d0 0 9999=true:=by simpa using h1
  refine ⟨kx,lx,fun H1 s1=>⟨fun h2=>⟨fun _=>?_,fun h=>absurd h (by decide)⟩,fun h2=>⟨ky.up s1,ly,fun H2 s2=>⟨fun h3=>?_,fun h3=>?_⟩⟩⟩⟩
  ·have h2:Ls x=false:=by simpa using h2
   exact (ex (by simp [F9,h2])).elim
  ·have h3:Ls y=false:=by simpa using h3
   exact (ex (by simp [F9,h3])).elim
  have h2:Ls x=true:=by simpa using h2
  have h3:Ls y=true:=by simpa using h3
  have s2:=s1.trans s2
  obtain ⟨x,rfl⟩:=Ab9 h2
  obtain ⟨y,rfl⟩:=Ab9 h3
  refine ⟨fun h4=>?_,fun h4=>⟨kh.up s2,⟨fun h5=>?_,fun h5=>⟨ks.up s2,⟨fun h6=>?_,fun h6=>fun p H' s e=>?_⟩⟩⟩⟩⟩
  ·have h4:eqS (.str x) (.str y)=true:=h4
   exact (ex (by simp [F9,h4])).elim
  ·have h5:Qh h0 0 2=false:=by simpa using h5
   exact (ex (by simp [F9,h5])).elim
  ·have h6:Qh s0 (-1) 1=false:=by simpa using h6
   exact (ex (by simp [F9,h6])).elim
  ·have h4:eqS (.str x) (.str y)=false:=h4
   have h5:Qh h0 0 2=true:=by simpa using h5
   have h6:Qh s0 (-1) 1=true:=by simpa using h6
   exact q p H' (s2.trans s) e
def Os:Str:="0123456789"
def sd (x:Str):Bool:=decide ((co x).getLast? =some 42)
def us (x:Str):Str:=if sd x then Txt.slice x none (some (-1)) else x
def Hv (x y:Str):Int:=if sd x then 1 else if sd y then -1 else 0
def Ie (x:Str):Bool:=decide (x="0")||(decide (1≤x.length)&&decide (x.length≤4)&&!decide ((co x)[0]? =some 48)&&(co x).all fun c=>decide (c∈co Os))
theorem Yq {c:Nat}:c∈co Os↔48≤c∧c≤57:=by
 have e:co Os=(List.range 10).map fun j=>48+j:=by decide +kernel
 rw [e,BG]
 constructor
 ·rintro ⟨j,hj,rfl⟩
  have:=CN.mp hj
  omega
 ·intro h
  exact ⟨c-48,CN.mpr (by omega),by omega⟩
def Ek (K:KKf)(ns:IH):Sp:=fun vs H Q _=>match vs with
 |[.str x]=>Q (.bl (sd x)) H
 |_=>False
theorem m_s {vs:IP}{F:Str→Prop}(h:match vs with|[.str x0]=>F x0|_=>False):∃x0,vs=[.str x0]∧F x0:=by
 match vs,h with
 |[.str x0],h=>exact ⟨_,rfl,h⟩
theorem Qy:Al ["word"] ["word"] (Ad Hl):=D9
include er in
theorem Qs (d:Bt K mg "is_starred" Hl ["word"]):Bc P w K mg base "is_starred" ["word"] 1 (Ek K ns):=by
 refine d.cal (k:=0) Qy (fun vs H Q E hq0=>?_) (fun f cdv A outer s H vs Q E hr hq0=>?_)
 ·obtain ⟨_,rfl,_⟩:=m_s hq0
  rfl
 ·obtain ⟨x,rfl,q⟩:=m_s hq0
  refine ⟨_,(@A3 _ _ _ _ (@Em _ _ _ _ _ _ _ _ _ _ _ _ DX PySem.F.slot_str_endswith PySem.F.type_str_endswith Akz (dv 0) (@Ab _ _ _ _ _ Ax Ag (by rfl)) (by rfl) (by rfl) (by rfl) (by rfl) (by rfl))),?_⟩
  refine ⟨rfl,?_⟩
  have e:Txt.endswith x "*"=sd x:=Am5 x 42
  show Q (.bl (Txt.endswith x "*")) H
  rw [e]
  exact q
def Le (K:KKf)(ns:IH):Sp:=fun vs H Q _=>match vs with
 |[.str x]=>x.length≤1000∧Q (.str (us x)) H
 |_=>False
theorem Ta:Al ["word"] ["word"] (Ad Ii):=D9
include er in
theorem S6 (d:Bt K mg "unstarred" Ii ["word"])  (c_is_starred:Bc P w K mg base "is_starred" ["word"] 1 (Ek K ns)):Bc P w K mg base "unstarred" ["word"] 2 (Le K ns):=by
 refine d.cal (k:=1) Ta (fun vs H Q E hq0=>?_) (fun f cdv A outer s H vs Q E hr hq0=>?_)
 ·obtain ⟨_,rfl,_⟩:=m_s hq0
  rfl
 ·obtain ⟨x,rfl,⟨hz,q⟩⟩:=m_s hq0
  refine ⟨_,(@A3 _ _ _ _ (@Ym _ _ _ _ _ _ _ _ (@Ci _ _ _ (@Af _ _ _ _ _ _ _ _ _ _ _ c_is_starred hr (@Bf _ _ _ (dv 0) (by rfl)) (by trivial)) (by intro _;rfl)) (@C7 _ _ _ _ _ _ _ _ _ _ Ul (dv 0) Jj (Cj (Nf M3 Ae))) (dv 0))),?_⟩
  unfold us at q
  refine ⟨fun h=>?_,fun h=>?_⟩
  ·rw [AZ h] at q
   exact ⟨_,rfl,AI hz (by decide),q⟩
  ·rw [AW (by rw [h];decide)] at q
   exact q
def Ox (K:KKf)(ns:IH):Sp:=fun vs H Q _=>match vs with
 |[.str x,.str y]=>Q (.int (Hv x y)) H
 |_=>False
theorem Anp {vs:IP}{F:Str→Str→Prop}(h:match vs with|[.str x0,.str x1]=>F x0 x1|_=>False):∃x0 x1,vs=[.str x0,.str x1]∧F x0 x1:=by
 match vs,h with
 |[.str x0,.str x1],h=>exact ⟨_,_,rfl,h⟩
theorem X0:Al ["one","other"] ["one","other"] (Ad Mo):=D9
include er in
theorem Yd (d:Bt K mg "side_of" Mo ["one","other"])  (c_is_starred:Bc P w K mg base "is_starred" ["word"] 1 (Ek K ns)):Bc P w K mg base "side_of" ["one","other"] 2 (Ox K ns):=by
 refine d.cal (k:=1) X0 (fun vs H Q E hq0=>?_) (fun f cdv A outer s H vs Q E hr hq0=>?_)
 ·obtain ⟨_,_,rfl,_⟩:=Anp hq0
  rfl
 ·obtain ⟨x,y,rfl,q⟩:=Anp hq0
  refine ⟨_,(@Aa _ _ _ _ _ (@Bl _ _ _ _ _ _ _ _ (@Ci _ _ _ (@Af _ _ _ _ _ _ _ _ _ _ _ c_is_starred hr (@Bf _ _ _ (dv 0) (by rfl)) (by trivial)) (by intro _;rfl)) (@A3 _ _ _ _ Ae) Ao) (@A3 _ _ _ _ (@Ym _ _ _ _ _ _ _ _ (@Ci _ _ _ (@Af _ _ _ _ _ _ _ _ _ _ _ c_is_starred hr (@Bf _ _ _ (dv 1) (by rfl)) (by trivial)) (by intro _;rfl)) (@Nf _ _ _ _ _ _ M3 Ae) Ae))),?_⟩
  have q:Q (.int (Hv x y)) H:=q
  unfold Hv at q
  refine ⟨fun h=>?_,fun h=>⟨fun h'=>?_,fun h'=>?_⟩⟩
  ·rw [AZ h] at q
   exact q
  ·rw [AW (by rw [h];decide),AZ h'] at q
   exact q
  ·rw [AW (by rw [h];decide),AW (by rw [h'];decide)] at q
   exact q
def Hb (K:KKf)(ns:IH):Sp:=fun vs H Q _=>match vs with
 |[.str x,.int m]=>((m=4∨(4≤m∧x.length≤4))∧x.length≤1000)∧∀H',Aj H H'→Q (.bl (Ie x)) H'
 |_=>False
theorem Aob {vs:IP}{F:Str→Int→Prop}(h:match vs with|[.str x0,.int x1]=>F x0 x1|_=>False):∃x0 x1,vs=[.str x0,.int x1]∧F x0 x1:=by
 match vs,h with
 |[.str x0,.int x1],h=>exact ⟨_,_,rfl,h⟩
theorem Ub:Al ["word","longest"] ["word","longest"] (Ad Ik):=D9
include er n_all n_len in
theorem Ur (d:Bt K mg "is_number" Ik ["word","longest"])(v_FIGURES:Gr mg "FIGURES" (.str "0123456789")) :Bc P w K mg base "is_number" ["word","longest"] 1 (Hb K ns):=by
 refine d.cal (k:=0) Ub (fun vs H Q E hq0=>?_) (fun f cdv A outer s H vs Q E hr hq0=>?_)
 ·obtain ⟨_,_,rfl,_⟩:=Aob hq0
  rfl
 ·obtain ⟨x,m,rfl,⟨⟨hm,hz⟩,q⟩⟩:=Aob hq0
  refine ⟨_,(@Aa _ _ _ _ _ (@Bl _ _ _ _ _ _ _ _ (@A0 _ _ _ _ _ _ _ _ Ee (dv 0) Ax (Aq _)) (@A3 _ _ _ _ Fw) Ao) (@Aa _ _ _ _ _ (@Bl _ _ _ _ _ _ _ _ (@L2.PW.pt _ _ _ (@J9 _ _ _ _ _ _ _ (@Bw _ _ _ _ (@N4 _ _ _ _ _ _ _ _ _ _ _ _ Qr Qr Ae (@Av _ _ _ _ _ _ _ _ _ D6 n_len (by decide +kernel) (@Bf _ _ _ (dv 0) (by rfl)) (by trivial)) (dv 1) (by with_unfolding_all rfl))) (@Fp _ _ _ _ (@A0 _ _ _ _ _ _ _ _ Ee (@Co _ _ _ _ _ _ _ Ai4 (dv 0) Ae (fun _ _=>rfl)) Ax (Aq _))))) (@A3 _ _ _ _ Fw) Ao) (@A3 _ _ _ _ (@Av _ _ _ _ _ _ _ _ _ (@Vc _ rfl) n_all (by decide +kernel) (@Bf _ _ _ (@Cc _ _ _ _ _ _ _ _ _ _ ["sign"] [] [] rfl (@Ac2 _ _ _ _ (dv 0)) (fun C s H fp=>(@Ar _ _ (0) _ (show List.Nodup [("sign":Str)] by decide +kernel) rfl (by trivial) (by trivial))) (fun C s H fp=>(@Bh _ _ _ _ _ _ _ _ Ait (dv 0) (Cv v_FIGURES (by rfl)) (by with_unfolding_all rfl))) rfl rfl (by decide +kernel) (by decide +kernel) (by rfl) ⟨⟩ ⟨⟩ (by intro _;rfl)) (by rfl)) (by trivial))))),?_⟩
  refine ⟨fun h0=>?_,fun h0=>?_⟩
  ·have h0:decide (x="0")=true:=h0
   have e:Ie x=true:=by
    unfold Ie
    rw [h0,Bool.true_or]
   have q:=q H (Aj.refl _)
   rw [e] at q
   exact q
  have h0:decide (x="0")=false:=h0
  have hl:=A2 x
  have no:Ie x=false→Q (.bl false) H:=fun e=>by
   have q:=q H (Aj.refl _)
   rw [e] at q
   exact q
  refine ⟨AI hz (by decide),⟨fun h1=>⟨fun h2=>⟨fun _=>?_,fun h=>nb h⟩,fun h2=>?_⟩,fun h1=>⟨fun _=>⟨fun _=>?_,fun h=>nb h⟩,fun h=>nb h⟩⟩⟩
  ·have h2:¬(x.length:Int)≤m:=by simpa using h2
   refine no ?_
   unfold Ie
   rw [h0,BF (show ¬x.length≤4 by omega)]
   simp
  ·have h1:(1:Int)≤x.length:=AU h1
   have h2:(x.length:Int)≤m:=by simpa using h2
   cases ec:co x with
   |nil=>
    rw [ec] at hl
    have:0=x.length:=hl
    omega
   | cons c r=>
    have ei:(co x)[0]? =some c:=by rw [ec];rfl
    refine ⟨c,AI hz (by decide),A1 (j:=0) ei,⟨fun h3=>?_,fun h3=>?_⟩⟩
    ·have h3:(⟨#[c]⟩:Str)="0":=AU h3
     have hc:c=48:=by
      have:=congrArg co h3
      rw [Ki] at this
      have e:co ("0":Str)=[48]:=by decide +kernel
      rw [e] at this
      exact (List.cons.inj this).1
     refine no ?_
     unfold Ie
     rw [h0,ei,hc]
     simp
    ·have h3:¬(⟨#[c]⟩:Str)="0":=CA h3
     have hc:c≠48:=by
      rintro rfl
      exact h3 (by decide +kernel)
     show Hr (Its x) _ _ _ _ _ _ _
     refine U2 (fun c=>.bl (decide (c∈co Os))) hz (fun c H2 hc s2 P hP=>⟨rfl,c,rfl,hP⟩) fun D H2 s2 e2=>⟨(co x).map fun c=>decide (c∈co Os),Au.of (by rw [e2,GD];rfl),?_⟩
     have e:Ie x=((co x).map fun c=>decide (c∈co Os)).all id:=by
      unfold Ie
      rw [h0,AR (show 1≤x.length by omega),AR (show x.length≤4 by omega),ei,HZ]
      simp [hc]
     rw [←e]
     exact q H2 s2
  ·have h1:¬(1:Int)≤x.length:=CA h1
   refine no ?_
   unfold Ie
   rw [h0,BF (show ¬1≤x.length by omega)]
   simp
def wd (h:Int):Str:=if h=0 then "lost" else if h=1 then "drew" else "beat"
def isW (x:Str):Bool:=decide (x="lost")||decide (x="drew")||decide (x="beat")
def wi (x:Str):Int:=if x="lost" then 0 else if x="drew" then 1 else 2
def num (x:Str):Int:=(NumText.digitsVal (co x):Nat)
def rd4 (a b c d:Str):Bool:=Ie a&&isW c&&!(sd b&&sd d)&&F9 (.int (num a)) (.str (us b)) (.str (us d)) (.int (wi c)) (.int (Hv b d))
def rdL:IG→Option (IP)
 |[a,b,c,d]=>if rd4 a b c d then some [.int (num a),.str (us b),.str (us d),.int (wi c),.int (Hv b d)] else none
 |_=>none
def rd (x:Str):Option (IP):=rdL (Txt.split x ⟨#[32]⟩)
theorem Alv {x:Str}(h:Ie x=true):x.length≤4∧PySem.intText? x=some (num x):=by
 have hl:=A2 x
 have e0:co ("0":Str)=[48]:=by decide +kernel
 have key:x.length≤4∧co x≠[]∧∀c∈co x,48≤c∧c≤57:=by
  unfold Ie at h
  rw [HY] at h
  rcases h with h|h
  ·have h:x="0":=AU h
   subst h
   refine ⟨by rw [←hl,e0];decide,by rw [e0];simp,fun c hc=>?_⟩
   rw [e0] at hc
   have:c=48:=by simpa using hc
   omega
  ·rw [BV,BV,BV] at h
   obtain ⟨⟨⟨h1,h2⟩,_⟩,h4⟩:=h
   have h1:=AU h1
   have h2:=AU h2
   refine ⟨h2,fun e=>?_,fun c hc=>Yq.mp (AU (CI.mp h4 c hc))⟩
   rw [e] at hl
   have:0=x.length:=hl
   omega
 exact ⟨key.1,intText_digits key.2.2 key.2.1 (by omega)⟩
theorem Qa (c:Nat):∀{ws:IG} {p:Str},p∈ws→(co p).length≤(co (Str.join ⟨#[c]⟩ ws)).length
 |[a],p,h=>by
  have:p=a:=by simpa using h
  rw [this]
  exact AF _
 | a::b::r,p,h=>by
  rw [Cr,AG,BN]
  rcases AS.mp h with rfl|h
  ·omega
  ·have:=Qa c (ws:=b::r) h
   omega
theorem Vn {x p:Str}(h:p∈Txt.split x ⟨#[32]⟩):p.length≤x.length:=by
 have:=Qa 32 h
 rw [StrLaws.join_split,A2,A2] at this
 exact this
theorem Ada {x a b c d:Str}(ew:Txt.split x ⟨#[32]⟩=[a,b,c,d])(e:rd4 a b c d=false):rd x=none:=by
 unfold rd
 rw [ew]
 show (if rd4 a b c d=true then _ else _)=_
 rw [e]
 rfl
theorem Acp {x a b c d:Str}(ew:Txt.split x ⟨#[32]⟩=[a,b,c,d])(e:rd4 a b c d=true):rd x=some [.int (num a),.str (us b),.str (us d),.int (wi c),.int (Hv b d)]:=by
 unfold rd
 rw [ew]
 show (if rd4 a b c d=true then _ else _)=_
 rw [AZ e]
theorem Acv (c:Str):inV (.str c) [.str "lost",.str "drew",.str "beat"]=isW c:=by
 show (Yy (.str "lost") (.str c)||(Yy (.str "drew") (.str c)||(Yy (.str "beat") (.str c)||false)))=_
 unfold isW
 have e:∀y:Str,Yy (.str y) (.str c)=decide (c=y):=fun y=>by
  show (y==c)=_
  by_cases h:y=c
  ·subst h
   simp
  ·have h':¬c=y:=fun z=>h z.symm
   simp [h,h']
 rw [e,e,e,Bool.or_false,Bool.or_assoc]
def RG1 (x:Str)(H:Hp):L2.St→Hp→Prop:=fun σ H'=>∃(L:IC) (a b c d:Str),σ=[some (.str x),some (.ref L),none]∧Aj H H'∧H' L=some (.lst [.str a,.str b,.str c,.str d])∧Txt.split x ⟨#[32]⟩=[a,b,c,d]∧Ie a=true∧isW c=true
def RG2 (x:Str)(H:Hp):L2.St→Hp→Prop:=fun σ H'=>∃(L:IC) (a b c d:Str),σ=[some (.str x),some (.ref L),none]∧Aj H H'∧H' L=some (.lst [.str a,.str b,.str c,.str d])∧Txt.split x ⟨#[32]⟩=[a,b,c,d]∧Ie a=true∧isW c=true∧(sd b&&sd d)=false
def G2 (K:KKf)(ns:IH):Sp:=fun vs H Q _=>match vs with
 |[.str x]=>x.length≤900∧∃g,rd x=some g∧∀p H',Aj H H'→H' p=some (.tup g)→Q (.ref p) H'
 |_=>False
theorem G5:Al ["text","words","side"] ["text"] (Ad Iz):=D9
include er n_int n_len n_isinstance n_str in
theorem Tq (d:Bt K mg "read_game" Iz ["text"])(v_WORDS:Gr mg "WORDS" (.ref a_WORDS))(w_WORDS:B9 K a_WORDS [.str "lost",.str "drew",.str "beat"])(v_LONGEST_DAY:Gr mg "LONGEST_DAY" (.int (4)))(c_game:Bc P w K mg base "game" ["day","one","other","halves","side"] 3 (Zk K ns))(c_unstarred:Bc P w K mg base "unstarred" ["word"] 2 (Le K ns))(c_side_of:Bc P w K mg base "side_of" ["one","other"] 2 (Ox K ns))(c_is_starred:Bc P w K mg base "is_starred" ["word"] 1 (Ek K ns))(c_is_number:Bc P w K mg base "is_number" ["word","longest"] 1 (Hb K ns)):Bc P w K mg base "read_game" ["text"] 4 (G2 K ns):=by
 refine d.cal (k:=3) G5 (fun vs H Q E hq0=>?_) (fun f cdv A outer s H vs Q E hr hq0=>?_)
 ·obtain ⟨_,rfl,_⟩:=m_s hq0
  rfl
 ·obtain ⟨x,rfl,⟨hz,g0,hg0,q⟩⟩:=m_s hq0
  refine ⟨_,(@Aa _ _ _ _ _ (@Bl _ _ _ _ _ _ _ _ (@Bw _ _ _ _ (@Ci _ _ _ (@Av _ _ _ _ _ _ _ _ _ Pj n_isinstance (by decide +kernel) (@Ai _ _ _ _ _ (dv 0) (@Bf _ _ _ (Wd "str" (by rfl) n_str (by decide +kernel)) (by rfl)) (by rfl)) (by trivial)) (by intro _;rfl))) (@An _ _ _ Ba) Ao) (@Aa _ _ _ _ _ (@Ak _ _ _ (1) _ _ _ G5.nd (@Em _ _ _ _ _ _ _ _ _ _ _ _ DX FV FW Uq (dv 0) (@Ab _ _ _ _ _ Ax Ag (by rfl)) (by rfl) (by rfl) (by rfl) (by rfl) (by rfl)) (by trivial)) (@Xt _ (RG1 x H) _ _ _ _ (@Bl _ _ _ _ _ _ _ _ (@L2.PW.pt _ _ _ (@J9 _ _ _ _ _ _ _ (@A0 _ _ _ _ _ _ _ _ Ky (@Av _ _ _ _ _ _ _ _ _ D6 n_len (by decide +kernel) (@Bf _ _ _ (dv 1) (by rfl)) (by trivial)) Ae (Aq _)) (@J9 _ _ _ _ _ _ _ (@Bw _ _ _ _ (@Ci _ _ _ (@Af _ _ _ _ _ _ _ _ _ _ _ c_is_number hr (@Ai _ _ _ _ _ (@Gv _ _ _ _ _ _ _ (dv 1)) (@Bf _ _ _ (Cv v_LONGEST_DAY (by rfl)) (by rfl)) (by rfl)) (by trivial)) (by intro _;rfl))) (@Fp _ _ _ _ (@A0 _ _ _ _ _ _ _ _ Zt (@Gv _ _ _ _ _ _ _ (dv 1)) (Cv v_WORDS (by rfl)) (by with_unfolding_all rfl)))))) (@An _ _ _ Ba) Ao) (@Xt _ (RG2 x H) _ _ _ _ (@Bl _ _ _ _ _ _ _ _ (@L2.PW.pt _ _ _ (@Jw _ _ _ _ _ _ _ (@Ci _ _ _ (@Af _ _ _ _ _ _ _ _ _ _ _ c_is_starred hr (@Bf _ _ _ (@Gv _ _ _ _ _ _ _ (dv 1)) (by rfl)) (by trivial)) (by intro _;rfl)) (@Fe _ _ _ _ (@Ci _ _ _ (@Af _ _ _ _ _ _ _ _ _ _ _ c_is_starred hr (@Bf _ _ _ (@Gv _ _ _ _ _ _ _ (dv 1)) (by rfl)) (by trivial)) (by intro _;rfl))))) (@An _ _ _ Ba) Ao) (@Aa _ _ _ _ _ (@Ak _ _ _ (2) _ _ _ G5.nd (@Af _ _ _ _ _ _ _ _ _ _ _ c_side_of hr (@Ai _ _ _ _ _ (@Gv _ _ _ _ _ _ _ (dv 1)) (@Bf _ _ _ (@Gv _ _ _ _ _ _ _ (dv 1)) (by rfl)) (by rfl)) (by trivial)) (by trivial)) (@A3 _ _ _ _ (@Af _ _ _ _ _ _ _ _ _ _ _ c_game hr (@Ai _ _ _ _ _ (@Cb _ _ _ _ _ _ _ _ _ Yk n_int (by decide +kernel) (@Bf _ _ _ (@Gv _ _ _ _ _ _ _ (dv 1)) (by rfl)) (by trivial)) (@Ai _ _ _ _ _ (@Af _ _ _ _ _ _ _ _ _ _ _ c_unstarred hr (@Bf _ _ _ (@Gv _ _ _ _ _ _ _ (dv 1)) (by rfl)) (by trivial)) (@Ai _ _ _ _ _ (@Af _ _ _ _ _ _ _ _ _ _ _ c_unstarred hr (@Bf _ _ _ (@Gv _ _ _ _ _ _ _ (dv 1)) (by rfl)) (by trivial)) (@Ai _ _ _ _ _ (@Em _ _ _ _ _ _ _ _ _ _ _ _ PySem.F.plainAttrs_tuple PySem.F.slot_tuple_index PySem.F.type_tuple_index Ai7 (Cv v_WORDS (by rfl)) (@Ab _ _ _ _ _ (@Gv _ _ _ _ _ _ _ (dv 1)) Ag (by rfl)) (by rfl) (by rfl) (by rfl) (by rfl) (by rfl)) (@Bf _ _ _ (dv 2) (by rfl)) (by rfl)) (by rfl)) (by rfl)) (by rfl)) (by trivial)))))))),?_⟩
  have ex:rd x=none→False:=fun z=>by
   rw [hg0] at z
   cases z
  refine ⟨true,rfl,⟨fun h=>nb h,fun _=>?_⟩⟩
  refine ⟨rfl,by decide +kernel,AI hz (by decide),fun L H1 s1 e1=>?_⟩
  have e1:H1 L=some (.lst ((Txt.split x ⟨#[32]⟩).map V.str)):=e1
  have ls:∀p∈Txt.split x ⟨#[32]⟩,p.length≤1000:=fun p hp=>AI (Vn hp) (by omega)
  refine ⟨?_,?_⟩
  ·refine ⟨_,.inl (Au.of e1),⟨fun h1=>⟨fun _=>?_,fun h=>nb h⟩,fun h1=>?_⟩⟩
   ·have h1:¬(((Txt.split x ⟨#[32]⟩).map V.str).length:Int)=4:=by simpa using h1
    refine (ex ?_).elim
    unfold rd rdL
    split
    ·rename_i e
     rw [e] at h1
     exact absurd rfl h1
    ·rfl
   have h1:(((Txt.split x ⟨#[32]⟩).map V.str).length:Int)=4:=by simpa using h1
   have h1:(Txt.split x ⟨#[32]⟩).length=4:=by
    rw [AE] at h1
    omega
   obtain ⟨a,b,c,d',ew⟩:∃a b c d':Str,Txt.split x ⟨#[32]⟩=[a,b,c,d']:=by
    generalize Txt.split x ⟨#[32]⟩=ws at h1
    match ws,h1 with
    |[a,b,c,d'],_=>exact ⟨a,b,c,d',rfl⟩
   have no:=Ada (x:=x) ew
   have e1:H1 L=some (.lst [.str a,.str b,.str c,.str d']):=by rw [e1,ew];rfl
   refine ⟨_,_,Au.of e1,A1 (j:=0) rfl,⟨.inl rfl,ls a (by rw [ew];simp)⟩,fun H2 s2=>⟨fun h2=>⟨fun _=>?_,fun h=>nb h⟩,fun h2=>?_⟩⟩
   ·have h2:Ie a=false:=by simpa using h2
    exact (ex (no (by unfold rd4;rw [h2];rfl))).elim
   have h2:Ie a=true:=by simpa using h2
   have e2:=s2 _ _ e1
   have ein:=Acv c
   refine ⟨_,_,Au.of e2,A1 (j:=2) rfl,_,.inr (w_WORDS.sq _),rfl,rfl,⟨fun h3=>?_,fun h3=>?_⟩⟩
   ·have h3:(!inV (.str c) [.str "lost",.str "drew",.str "beat"])=true:=h3
    rw [ein] at h3
    have h3:isW c=false:=by simpa using h3
    exact (ex (no (by unfold rd4;rw [h2,h3];rfl))).elim
   have h3:(!inV (.str c) [.str "lost",.str "drew",.str "beat"])=false:=h3
   rw [ein] at h3
   have h3:isW c=true:=by simpa using h3
   exact ⟨L,a,b,c,d',rfl,s1.trans s2,e2,ew,h2,h3⟩
  rintro σ H2 ⟨L,a,b,c,d',rfl,s2,e2,ew,ha,hc⟩
  have no:=Ada (x:=x) ew
  refine ⟨?_,?_⟩
  ·refine ⟨_,_,Au.of e2,A1 (j:=1) rfl,⟨fun h1=>⟨_,_,Au.of e2,A1 (j:=3) rfl,⟨fun h2=>?_,fun h2=>?_⟩⟩,fun h1=>⟨fun h=>nb h,fun _=>?_⟩⟩⟩
   ·exact (ex (no (by unfold rd4;rw [ha,hc,show sd b=true from h1,show sd d'=true from h2];rfl))).elim
   ·exact ⟨L,a,b,c,d',rfl,s2,e2,ew,ha,hc,by rw [show sd d'=false from h2,FB]⟩
   ·exact ⟨L,a,b,c,d',rfl,s2,e2,ew,ha,hc,by rw [show sd b=false from h1,EB]⟩
  clear e2 ew ha hc no s2
  rintro σ H2 ⟨L,a,b,c,d',rfl,s2,e2,ew,ha,hc,hs⟩
  have no:=Ada (x:=x) ew
  have yes:=Acp (x:=x) ew
  obtain ⟨a4,an⟩:=Alv ha
  have lb:=ls b (by rw [ew];simp)
  have ld:=ls d' (by rw [ew];simp)
  have ul:∀z:Str,z.length≤1000→SL (.str (us z)):=fun z hz v e=>by
   cases e
   unfold us
   split
   ·exact AI (HW _ _ _) hz
   ·exact hz
  have fin:∀j:Nat,wi c=(j:Int)→F9 (.int (num a)) (.str (us b)) (.str (us d')) (.int (j:Int)) (.int (Hv b d'))=true∧∀p H',Aj H2 H'→H' p=some (.tup [.int (num a),.str (us b),.str (us d'),.int (j:Int),.int (Hv b d')])→Q (.ref p) H':=by
   intro j ej
   rw [←ej]
   have g:F9 (.int (num a)) (.str (us b)) (.str (us d')) (.int (wi c)) (.int (Hv b d'))=true:=by
    cases g:F9 (.int (num a)) (.str (us b)) (.str (us d')) (.int (wi c)) (.int (Hv b d')) with
    |true=>rfl
    |false=>
     refine (ex (no ?_)).elim
     unfold rd4
     rw [g,FB]
   have e0:rd4 a b c d'=true:=by
    unfold rd4
    rw [g,ha,hc,hs]
    rfl
   have e1:=(yes e0).symm.trans hg0
   cases e1
   exact ⟨g,fun p H' s' e'=>q p H' (s2.trans s') e'⟩
  refine ⟨_,_,Au.of e2,A1 (j:=1) rfl,_,_,Au.of e2,A1 (j:=3) rfl,?_⟩
  refine ⟨_,_,Au.of e2,A1 (j:=0) rfl,num a,an,by omega,_,_,Au.of e2,A1 (j:=1) rfl,lb,_,_,Au.of e2,A1 (j:=3) rfl,ld,w_WORDS.tyV _,_,_,Au.of e2,A1 (j:=2) rfl,?_⟩
  have hw:c="lost"∨c="drew"∨c="beat":=by
   unfold isW at hc
   simpa [or_assoc] using hc
  rcases hw with rfl|rfl|rfl
  ·obtain ⟨f1,f2⟩:=fin 0 (by decide +kernel)
   exact ⟨_,0,_,w_WORDS.sq _,rfl,rfl,rfl,by decide +kernel,fun m z hm=>absurd hm (Nat.not_lt_zero _),⟨⟨⟩,⟨⟩,⟨⟩,⟨⟩,⟨⟩⟩,⟨ul b lb,ul d' ld⟩,f1,f2⟩
  ·obtain ⟨f1,f2⟩:=fin 1 (by decide +kernel)
   refine ⟨_,1,_,w_WORDS.sq _,rfl,rfl,rfl,by decide +kernel,fun m z hm hz=>?_,⟨⟨⟩,⟨⟩,⟨⟩,⟨⟩,⟨⟩⟩,⟨ul b lb,ul d' ld⟩,f1,f2⟩
   have:m=0:=by omega
   subst this
   cases hz
   decide +kernel
  ·obtain ⟨f1,f2⟩:=fin 2 (by decide +kernel)
   refine ⟨_,2,_,w_WORDS.sq _,rfl,rfl,rfl,by decide +kernel,fun m z hm hz=>?_,⟨⟨⟩,⟨⟩,⟨⟩,⟨⟩,⟨⟩⟩,⟨ul b lb,ul d' ld⟩,f1,f2⟩
   have:m=0∨m=1:=by omega
   rcases this with rfl|rfl<;>(cases hz;decide +kernel)
def st (x:Str)(b:Bool):Str:=if b then x++⟨#[42]⟩ else x
theorem Mq (x:Str)(b:Bool):(st x b).length≤x.length+1:=by
 unfold st
 split
 ·rw [Dk]
  exact AF _
 ·omega
def wrS (d:Int)(x y:Str)(h s:Int):Str:=Str.join ⟨#[32]⟩ [(toString d:Str),st x (decide (s=1)),wd h,st y (decide (s=-1))]
theorem Ai3 (f a b c:Str):((((((f++(" ":Str))++a)++(" ":Str))++b)++(" ":Str))++c)=Str.join ⟨#[32]⟩ [f,a,b,c]:=by
 apply Dq
 have e:co (" ":Str)=[32]:=by decide +kernel
 rw [Cr,Cr,Cr,B8,B8,B8,B8,B8,B8,e]
 show _=co f++32::(co a++32::(co b++32::co c))
 simp only [BU,List.singleton_append,List.cons_append,List.nil_append]
theorem Z6 {d:Int}(h0:0≤d)(h1:d≤9999):(toString d:Str).length≤4:=by
 obtain ⟨m,rfl⟩:=DJ h0
 rw [←A2]
 exact (Ad1 (m:=m) (by omega)).2
theorem Sr (h:Int):(wd h).length≤4:=by
 unfold wd
 split
 ·decide +kernel
 ·split
  ·decide +kernel
  ·decide +kernel
theorem Cz {x:Str}(h:Nm x):x.length≤8:=by rw [←A2];exact h.len8
theorem Aaa {d:Int}(h0:0≤d)(h1:d≤9999):d.natAbs.log2<1920:=by
 have:Bd 100 d:=Lg (b:=10000) (by omega) (by omega) (Ca rfl)
 exact AV (N1 this (by decide)) (by decide)
theorem Y1 {h:Int}(h0:0≤h)(h1:h≤2):Na [V.str "lost",.str "drew",.str "beat"] h=some (.str (wd h)):=by
 have:h=0∨h=1∨h=2:=by omega
 rcases this with rfl|rfl|rfl
 ·exact A1 (j:=0) rfl
 ·exact A1 (j:=1) rfl
 ·exact A1 (j:=2) rfl
theorem Yh {d h s:Int}{x y:Str}(d0:0≤d)(d1:d≤9999)(nx:Nm x)(ny:Nm y):(wrS d x y h s).length≤900:=by
 have lx:=Cz nx
 have ly:=Cz ny
 have l1:=Mq x (decide (s=1))
 have l2:=Mq y (decide (s=-1))
 have l3:=Z6 d0 d1
 have l4:=Sr h
 have l5:(" ":Str).length=1:=by decide +kernel
 unfold wrS
 rw [←Ai3]
 simp only [Dk]
 omega
theorem Agc {m:Nat}(h:m<10000):Ie (toString ((m:Nat):Int):Str)=true:=by
 have hc:co (toString ((m:Nat):Int):Str)=fg m:=rfl
 have hl:=A2 (toString ((m:Nat):Int):Str)
 rw [hc] at hl
 obtain ⟨l1,l4⟩:=Ad1 h
 unfold Ie
 by_cases h0:m=0
 ·subst h0
  rw [AR (by decide +kernel),Bool.true_or]
 ·obtain ⟨c,r,ec,h9⟩:=Ago m (by omega)
  rw [hc,AR (show 1≤(toString ((m:Nat):Int):Str).length by omega),AR (show (toString ((m:Nat):Int):Str).length≤4 by omega)]
  have e1:(fg m).all (fun c=>decide (c∈co Os))=true:=CI.mpr fun c hc=>AR (Yq.mpr (X3 m c hc))
  rw [e1,ec]
  have:¬c=48:=by omega
  simp [this]
theorem M8 {x:Str}(h:Nm x){c:Nat}(hc:¬(97≤c∧c<123)):c∉co x:=fun z=>hc (h.abc c z)
theorem Vq {x:Str}(h:Nm x)(b:Bool):sd (st x b)=b:=by
 cases b with
 |true=>
  show decide ((co (x++⟨#[42]⟩)).getLast? =some 42)=true
  rw [B8,Ki]
  simp
 |false=>
  show decide ((co x).getLast? =some 42)=false
  refine BF fun e=>M8 h (c:=42) (by omega) ?_
  exact List.mem_of_getLast? e
theorem Zd {x:Str}(h:Nm x)(b:Bool):us (st x b)=x:=by
 unfold us
 rw [Vq h]
 cases b with
 |true=>
  rw [AZ rfl]
  apply Dq
  show co (Txt.slice (x++⟨#[42]⟩) none (some (-1)))=co x
  rw [Ah1,B8,Ki]
  simp
 |false=>rfl
theorem Zw {x:Str}(h:Nm x)(b:Bool):32∉co (st x b):=by
 cases b with
 | true=>
  show 32∉co (x++⟨#[42]⟩)
  rw [B8,Ki]
  intro z
  rcases BH.mp z with z|z
  ·exact M8 h (by omega) z
  ·have:(32:Nat)=42:=by simpa using z
   omega
 |false=>exact M8 h (by omega)
theorem Ah8 (h:Int):32∉co (wd h):=by
 unfold wd
 split
 ·decide +kernel
 ·split
  ·decide +kernel
  ·decide +kernel
theorem Aoo {d h s:Int}{x y:Str}(d0:0≤d)(d1:d≤9999)(h0:0≤h)(h1:h≤2)(s0:-1≤s)(s1:s≤1)(nx:Nm x)(ny:Nm y)(ne:x≠y):rd (wrS d x y h s)=some [.int d,.str x,.str y,.int h,.int s]:=by
 obtain ⟨m,rfl⟩:=DJ d0
 have hm:m<10000:=by omega
 have ew:Txt.split (wrS m x y h s) ⟨#[32]⟩=[(toString ((m:Nat):Int):Str),st x (decide (s=1)),wd h,st y (decide (s=-1))]:=by
  refine G1 32 (by simp) ?_ rfl
  intro p hp
  have hp:p=(toString ((m:Nat):Int):Str)∨p=st x (decide (s=1))∨p=wd h∨p=st y (decide (s=-1)):=by simpa using hp
  rcases hp with rfl|rfl|rfl|rfl
  ·intro z
   have:=X3 m 32 z
   omega
  ·exact Zw nx _
  ·exact Ah8 h
  ·exact Zw ny _
 have e1:num (toString ((m:Nat):Int):Str)=(m:Int):=congrArg (fun n:Nat=>(n:Int)) (Alp m)
 have e2:wi (wd h)=h:=by
  have:h=0∨h=1∨h=2:=by omega
  rcases this with rfl|rfl|rfl<;>decide +kernel
 have e3:isW (wd h)=true:=by
  have:h=0∨h=1∨h=2:=by omega
  rcases this with rfl|rfl|rfl<;>decide +kernel
 have e4:Hv (st x (decide (s=1))) (st y (decide (s=-1)))=s:=by
  unfold Hv
  rw [Vq nx,Vq ny]
  have:s=-1∨s=0∨s=1:=by omega
  rcases this with rfl|rfl|rfl<;>decide
 have e5:(sd (st x (decide (s=1)))&&sd (st y (decide (s=-1))))=false:=by
  rw [Vq nx,Vq ny]
  have:s=-1∨s=0∨s=1:=by omega
  rcases this with rfl|rfl|rfl<;>decide
 have g:F9 (.int (m:Int)) (.str x) (.str y) (.int h) (.int s)=true:=by
  unfold F9
  rw [show Qh (.int (m:Int)) 0 9999=true by simp [Qh];omega,show Ls (.str x)=true from nx.is,show Ls (.str y)=true from ny.is,show eqS (.str x) (.str y)=false from BF ne,show Qh (.int h) 0 2=true by simp [Qh];omega,show Qh (.int s) (-1) 1=true by simp [Qh];omega]
  rfl
 rw [Acp ew,e1,e2,e4,Zd nx,Zd ny]
 unfold rd4
 rw [e1,e2,e4,Zd nx,Zd ny,Agc hm,e3,e5,g]
 rfl
def gmV (g:Gm):IP:=[.int g.d,.str g.a,.str g.b,.int g.h,.int g.s]
structure GO (g:Gm):Prop where
 d0:0≤g.d
 d1:g.d≤9999
 na:Nm g.a
 nb:Nm g.b
 ne:g.a≠g.b
 h0:0≤g.h
 h1:g.h≤2
 s0:-1≤g.s
 s1:g.s≤1
def wds (g:Gm):IG:=[(toString g.d:Str),st g.a (decide (g.s=1)),wd g.h,st g.b (decide (g.s=-1))]
def Ej (g:Gm):Str:=wrS g.d g.a g.b g.h g.s
theorem U3 (g:Gm):Ej g=Str.join ⟨#[32]⟩ (wds g):=rfl
theorem X4 {g:Gm}(o:GO g):rd (Ej g)=some (gmV g):=Aoo o.d0 o.d1 o.h0 o.h1 o.s0 o.s1 o.na o.nb o.ne
theorem Aiy {x:Str}(h:Nm x)(b:Bool){c:Nat}(h2:¬(97≤c∧c<123))(h3:c≠42):c∉co (st x b):=by
 cases b with
 |true=>
  show c∉co (x++⟨#[42]⟩)
  rw [B8,Ki]
  intro z
  rcases BH.mp z with z|z
  ·exact M8 h h2 z
  ·exact h3 (by simpa using z)
 |false=>exact M8 h h2
theorem Amf (h:Int){c:Nat}(h2:¬(97≤c∧c<123)):c∉co (wd h):=by
 have all:∀x:Str,(co x).all (fun c=>decide (97≤c)&&decide (c<123))=true→c∉co x:=fun x hx z=>by
  have:=CI.mp hx c z
  rw [BV] at this
  exact h2 ⟨AU this.1,AU this.2⟩
 unfold wd
 split
 ·exact all _ (by decide +kernel)
 ·split
  ·exact all _ (by decide +kernel)
  ·exact all _ (by decide +kernel)
theorem Acg {g:Gm}(o:GO g){c:Nat}(h1:¬(48≤c∧c<58))(h2:¬(97≤c∧c<123))(h3:c≠42):∀p∈wds g,c∉co p:=fun p hp=>by
 have hp:p=(toString g.d:Str)∨p=st g.a (decide (g.s=1))∨p=wd g.h∨p=st g.b (decide (g.s=-1)):=by simpa [wds] using hp
 rcases hp with rfl|rfl|rfl|rfl
 ·obtain ⟨m,hm⟩:=DJ o.d0
  rw [hm]
  intro z
  have:=X3 m c z
  omega
 ·exact Aiy o.na _ h2 h3
 ·exact Amf _ h2
 ·exact Aiy o.nb _ h2 h3
theorem Se {c d:Nat}(hc:c≠d):∀{ws:IG},(∀p∈ws,c∉co p)→c∉co (Str.join ⟨#[d]⟩ ws)
 |[],_=>by
  have e:co (Str.join ⟨#[d]⟩ [])=[]:=rfl
  rw [e]
  simp
 |[a],h=>h a (AH.mpr rfl)
 | a::b::r,h=>by
  rw [Cr]
  intro z
  rcases BH.mp z with z|z
  ·exact h a AO z
  ·rcases AS.mp z with z|z
   ·exact hc z
   ·exact Se hc (ws:=b::r) (fun p hp=>h p (AQ _ hp)) z
theorem Aen {g:Gm}(o:GO g){c:Nat}(h1:¬(48≤c∧c<58))(h2:¬(97≤c∧c<123))(h3:c≠42)(h4:c≠32):c∉co (Ej g):=by
 rw [U3]
 exact Se h4 (Acg o h1 h2 h3)
theorem Afd {x:Str}{ws:IG}(hx:co x=co (Str.join ⟨#[32]⟩ ws))(ne:ws≠[])(fr:∀p∈ws,32∉co p)(l:ws.length≠4):rd x=none:=by
 have e:=G1 32 ne fr hx
 unfold rd
 rw [e]
 match ws,l with
 |[],_=>rfl
 |[_],_=>rfl
 |[_,_],_=>rfl
 |[_,_,_],_=>rfl
 |[_,_,_,_],l=>exact absurd rfl l
 |_::_::_::_::_::_,_=>rfl
theorem Aek:rd (Str.ofString "")=none:=Afd (ws:=[Str.ofString ""]) rfl (by simp) (by decide +kernel) (by decide)
theorem Acw (g:Gm):co (Ej g)=co (toString g.d:Str)++32::(co (st g.a (decide (g.s=1)))++32::(co (wd g.h)++32::co (st g.b (decide (g.s=-1))))):=by
 rw [U3]
 unfold wds
 rw [Cr,Cr,Cr]
 rfl
def Oh (K:KKf)(ns:IH):Sp:=fun vs H Q _=>match vs with
 |[.str x,.bl b]=>x.length≤1000∧Q (.str (st x b)) H
 |_=>False
theorem Aoh {vs:IP}{F:Str→Bool→Prop}(h:match vs with|[.str x0,.bl x1]=>F x0 x1|_=>False):∃x0 x1,vs=[.str x0,.bl x1]∧F x0 x1:=by
 match vs,h with
 |[.str x0,.bl x1],h=>exact ⟨_,_,rfl,h⟩
theorem Yc:Al ["name","had_side"] ["name","had_side"] (Ad Ml):=D9
include er in
theorem Xi (d:Bt K mg "starred" Ml ["name","had_side"]):Bc P w K mg base "starred" ["name","had_side"] 1 (Oh K ns):=by
 refine d.cal (k:=0) Yc (fun vs H Q E hq0=>?_) (fun f cdv A outer s H vs Q E hr hq0=>?_)
 ·obtain ⟨_,_,rfl,_⟩:=Aoh hq0
  rfl
 ·obtain ⟨x,b,rfl,⟨hz,q⟩⟩:=Aoh hq0
  refine ⟨_,(@A3 _ _ _ _ (@Ym _ _ _ _ _ _ _ _ (@Ci _ _ _ (dv 1) (by intro _;rfl)) (@Ap _ _ _ _ _ _ _ _ Im (dv 0) Ax) (dv 0))),?_⟩
  cases b with
  |true=>exact ⟨fun _=>⟨AI (Nat.add_le_add hz (show ("*":Str).length≤1 by decide +kernel)) (by decide),q⟩,fun h=>nb h⟩
  |false=>exact ⟨fun h=>nb h,fun _=>q⟩
def K7 (K:KKf)(ns:IH):Sp:=fun vs H Q _=>match vs with
 |[.ref p]=>∃(d h s:Int) (x y:Str),H p=some (.tup [.int d,.str x,.str y,.int h,.int s])∧(0≤d∧d≤9999)∧(0≤h∧h≤2)∧(Nm x∧Nm y)∧Q (.str (wrS d x y h s)) H
 |_=>False
theorem D5:Al ["played","day","one","word","other"] ["played"] (Ad Jf):=D9
include er in
theorem S8 (d:Bt K mg "show_game" Jf ["played"])(v_WORDS:Gr mg "WORDS" (.ref a_WORDS))(w_WORDS:B9 K a_WORDS [.str "lost",.str "drew",.str "beat"])(c_starred:Bc P w K mg base "starred" ["name","had_side"] 1 (Oh K ns)):Bc P w K mg base "show_game" ["played"] 2 (K7 K ns):=by
 refine d.cal (k:=1) D5 (fun vs H Q E hq0=>?_) (fun f cdv A outer s H vs Q E hr hq0=>?_)
 ·obtain ⟨_,rfl,_⟩:=Kv hq0
  rfl
 ·obtain ⟨p,rfl,⟨d0,h0,s0,x,y,e,⟨hd0,hd1⟩,⟨hh0,hh1⟩,⟨nx,ny⟩,q⟩⟩:=Kv hq0
  refine ⟨_,(@Aa _ _ _ _ _ (@Ak _ _ _ (1) _ _ _ D5.nd (@Bx _ _ _ _ _ _ _ (dv 0)) (by trivial)) (@Aa _ _ _ _ _ (@Ak _ _ _ (2) _ _ _ D5.nd (@Af _ _ _ _ _ _ _ _ _ _ _ c_starred hr (@Ai _ _ _ _ _ (@Bx _ _ _ _ _ _ _ (dv 0)) (@Bf _ _ _ (@Bh _ _ _ _ _ _ _ _ Ee (@Bx _ _ _ _ _ _ _ (dv 0)) Ae (Aq _)) (by rfl)) (by rfl)) (by trivial)) (by trivial)) (@Aa _ _ _ _ _ (@Ak _ _ _ (3) _ _ _ D5.nd (@Co _ _ _ _ _ _ _ Akc (Cv v_WORDS (by rfl)) (@Bx _ _ _ _ _ _ _ (dv 0)) (fun _ _=>rfl)) (by trivial)) (@Aa _ _ _ _ _ (@Ak _ _ _ (4) _ _ _ D5.nd (@Af _ _ _ _ _ _ _ _ _ _ _ c_starred hr (@Ai _ _ _ _ _ (@Bx _ _ _ _ _ _ _ (dv 0)) (@Bf _ _ _ (@Bh _ _ _ _ _ _ _ _ Ee (@Bx _ _ _ _ _ _ _ (dv 0)) (@Nf _ _ _ _ _ _ M3 Ae) (Aq _)) (by rfl)) (by rfl)) (by trivial)) (by trivial)) (@A3 _ _ _ _ (@Acj _ _ _ _ _ _ (@Qb _ _ _ _ _ _ (dv 1) (@Ti _ _ _ _ _ _ (by decide +kernel) (@Qb _ _ _ _ _ _ (dv 2) (@Ti _ _ _ _ _ _ (by decide +kernel) (@Qb _ _ _ _ _ _ (dv 3) (@Ti _ _ _ _ _ _ (by decide +kernel) (@Qb _ _ _ _ _ _ (dv 4) Ae1))))))))))))),?_⟩
  have lx:=Cz nx
  have ly:=Cz ny
  have l1:=Mq x (decide (s0=1))
  have l2:=Mq y (decide (s0=-1))
  have l3:=Z6 hd0 hd1
  have l4:=Sr h0
  have l5:(" ":Str).length=1:=by decide +kernel
  have big:(1000:Nat)≤sizeLine:=by decide
  refine ⟨_,e,_,e,_,e,AI lx (by decide),_,e,_,_,w_WORDS.sq _,Y1 hh0 hh1,_,e,_,e,AI ly (by decide),?_⟩
  have e0:∀z:Str,Str.empty++z=z:=fun z=>by
   apply Dq
   rw [B8]
   rfl
  unfold wrS at q
  rw [←Ai3] at q
  refine ⟨Aaa hd0 hd1,?_,?_⟩
  ·rw [e0]
   omega
  rw [e0]
  refine ⟨?_,?_,?_,?_,?_,?_,?_,?_,?_,?_,q⟩<;>(try simp only [Dk])<;>omega
theorem Ts:∀{gs:IQ} {ys:IP},Az (fun g y=>y=V.str (Ej g)) gs ys→ys=(gs.map Ej).map V.str
 |_,_,.nil=>rfl
 |_,_,.cons h t=>by rw [h,Ts t];rfl
theorem Acl:∀{gs:IQ},(∀g∈gs,GO g)→((gs.map Ej).map (·.length)).sum≤gs.length*900
 |[],_=>BK _
 |g::gs,h=>by
  have o:=h g AO
  have h1:(Ej g).length≤900:=Yh o.d0 o.d1 o.na o.nb
  have h2:=Acl (gs:=gs) fun x hx=>h x (AQ _ hx)
  simp only [BW,List.sum_cons,BN]
  omega
def Kx (K:KKf)(ns:IH):Sp:=fun vs H Q _=>match vs with
 |[.ref L]=>∃gs,(Bk K H L gs∧(∀g∈gs,GO g)∧gs.length≤60)∧∀H',Aj H H'→Q (.str (Str.join E9 (gs.map Ej))) H'
 |_=>False
theorem Te:Al ["games"] ["games"] (Ad Io):=D9
include er in
theorem Ud (d:Bt K mg "show_book" Io ["games"])(v_PARTING:Gr mg "PARTING" (.str "; "))(c_show_game:Bc P w K mg base "show_game" ["played"] 2 (K7 K ns)):Bc P w K mg base "show_book" ["games"] 3 (Kx K ns):=by
 refine d.cal (k:=2) Te (fun vs H Q E hq0=>?_) (fun f cdv A outer s H vs Q E hr hq0=>?_)
 ·obtain ⟨_,rfl,_⟩:=Kv hq0
  rfl
 ·obtain ⟨L,rfl,⟨gs,⟨⟨vs,hx,hm,hl⟩,ok,l60⟩,k⟩⟩:=Kv hq0
  refine ⟨_,(@A3 _ _ _ _ (@Ew _ _ _ _ _ ("join") _ _ (Cv v_PARTING (by rfl)) (@Ab _ _ _ _ _ (@Cc _ _ _ _ _ _ _ _ _ _ ["played"] [] [] rfl (@A4 _ _ _ _ (dv 0)) (fun C s H fp=>(@Ar _ _ (0) _ (show List.Nodup [("played":Str)] by decide +kernel) rfl (by trivial) (by trivial))) (fun C s H fp=>(@Af _ _ _ _ _ _ _ _ _ _ _ c_show_game hr (@Bf _ _ _ (dv 0) (by rfl)) (by trivial))) rfl rfl (by decide +kernel) (by decide +kernel) (by rfl) ⟨⟩ ⟨⟩ (by intro _;rfl)) Ag (by rfl)) (by rfl) (by rfl) (by rfl) (by rfl) (by rfl))),?_⟩
  refine ⟨rfl,L,rfl,⟨_,hx⟩,Ce Bp Bm (fun _ g y=>y=V.str (Ej g)) (fun _ _ _ _ _ h=>h) (by rw [hm.len];omega) hx hm ?_ ?_⟩
  ·intro v g H2 hM hg s2 P hP
   obtain ⟨p,rfl,ep⟩:=hM
   have o:=ok g hg
   exact ⟨rfl,g.d,g.h,g.s,g.a,g.b,ep,⟨o.d0,o.d1⟩,⟨o.h0,o.h1⟩,⟨o.na,o.nb⟩,hP _ _ (Aj.refl _) rfl⟩
  intro D H2 ys s2 _ e2 a2
  have ey:ys=(gs.map Ej).map V.str:=Ts a2
  refine ⟨gs.map Ej,Au.of (by rw [e2,ey]),?_,?_⟩
  ·have h1:((gs.map Ej).map (·.length)).sum≤gs.length*900:=Acl ok
   rw [AE,show (Str.ofString "; ").length=2 by decide +kernel]
   omega
  ·have e:Txt.join (Str.ofString "; ") (gs.map Ej)=Str.join E9 (gs.map Ej):=Dq (F7 _ _)
   exact (congrArg (fun z=>Q (.str z) H2) e).mpr (k H2 s2)
def Abd:List (Int×Int×Int):=[(0,1,2),(60,3,5),(160,7,10),(280,4,5),(460,9,10)]
theorem Aif:Ri Abd:=⟨by decide,fun r hr=>by
 have hr:r=(0,1,2)∨r=(60,3,5)∨r=(160,7,10)∨r=(280,4,5)∨r=(460,9,10):=by simpa [Abd] using hr
 rcases hr with rfl|rfl|rfl|rfl|rfl<;>exact ⟨by decide,by decide⟩,rfl,by decide⟩
def Hn (K:KKf)(H:Hp)(Z L A R:IC)(es:List En)(last:Int):Prop:=(∃C dx fs,H Z=some (.ins C dx fs)∧PySem.W.nsIn K mainGlobals "Desk"=some (some (.ref C))∧fs.lookup ("ledger":Str)=some (.ref L)∧fs.lookup ("say":Str)=none)∧Z≠L∧I0 K H L A R es last
theorem I0.sxz {K:KKf}{H H':Hp}{Z L A R C dx:IC}{fs:List (Str×V)}{es:List En}{last:Int}(s:Sx Z H H')(e:H Z=some (.ins C dx fs))(n:Z≠L)(h:I0 K H L A R es last):I0 K H' L A R es last:=by
 obtain ⟨C1,dx1,fs1,eL,hC1,fd,kvs,eA,al⟩:=h
 exact ⟨C1,dx1,fs1,s _ _ (DI n) eL,hC1,fd,kvs,s _ _ (fun z=>by rw [z,e] at eA;cases eA) eA,al.imp fun kv e' r=>J1 kv e' _ _ (s.kt e) r⟩
theorem Xr.sxz {K:KKf}{H H':Hp}{Z R C dx:IC}{fs:List (Str×V)}{so st fi one two:Int}{rows:List Rw}(s:Sx Z H H')(e:H Z=some (.ins C dx fs))(n:R≠Z)(h:Xr K H R so st fi one two rows):Xr K H' R so st fi one two rows:=by
 obtain ⟨C',dx',fs',T',e',kn',f',vs',t1,t2⟩:=h
 exact ⟨C',dx',fs',T',s _ _ n e',kn',f',vs',s _ _ (fun z=>by rw [z,e] at t1;cases t1) t1,t2.imp fun v g r=>Ht v g _ _ (s.kt e) r⟩
def Gu (K:KKf)(ns:IH):Sp:=fun vs H Q _=>match vs with
 |[.ref Z]=>∃C dx,(H Z=some (.ins C dx [])∧PySem.W.nsIn K mainGlobals "Desk"=some (some (.ref C)))∧∀L A R H',Sx Z H H'→H L=none→H A=none→H R=none→R≠L→Hn K H' Z L A R [] 0→Xr K H' R 0 32 1500 0 0 Abd→Q .non H'
 |_=>False
theorem Mj:Al ["self"] ["self"] (Ad E5):=D9
include er n_list in
theorem L3 (d:Hf K [c_Desk] [] "__init__" "Desk.__init__" E5 ["self"])(v_TABLE:Gr mg "TABLE" (.ref a_TABLE))(w_TABLE:B9 K a_TABLE [.ref b_TABLE_0,.ref b_TABLE_1,.ref b_TABLE_2,.ref b_TABLE_3,.ref b_TABLE_4])(w_TABLE_0:B9 K b_TABLE_0 [.int (0),.ref b_TABLE_0_1])(w_TABLE_0_1:B9 K b_TABLE_0_1 [.int (1),.int (2)])(w_TABLE_1:B9 K b_TABLE_1 [.int (60),.ref b_TABLE_1_1])(w_TABLE_1_1:B9 K b_TABLE_1_1 [.int (3),.int (5)])(w_TABLE_2:B9 K b_TABLE_2 [.int (160),.ref b_TABLE_2_1])(w_TABLE_2_1:B9 K b_TABLE_2_1 [.int (7),.int (10)])(w_TABLE_3:B9 K b_TABLE_3 [.int (280),.ref b_TABLE_3_1])(w_TABLE_3_1:B9 K b_TABLE_3_1 [.int (4),.int (5)])(w_TABLE_4:B9 K b_TABLE_4 [.int (460),.ref b_TABLE_4_1])(w_TABLE_4_1:B9 K b_TABLE_4_1 [.int (9),.int (10)])(v_FIRST_WORTH:Gr mg "FIRST_WORTH" (.int (1500)))(v_STEP:Gr mg "STEP" (.int (32)))(c_Ledger___init__:E6 P w K mg base [c_Ledger] [] "__init__" ["self","rule"] 9 (Ft K ns))(c_Rule___init__:E6 P w K mg base [c_Rule] [] "__init__" ["self","step","first","table"] 6 (Ef K ns)):E6 P w K mg base [c_Desk] [] "__init__" ["self"] 11 (Gu K ns):=by
 refine d.cal (k:=10) Mj (fun vs H Q E hq0=>?_) (fun f cdv A outer s H vs Q E hr hq0=>?_)
 ·obtain ⟨_,rfl,_⟩:=Kv hq0
  rfl
 ·obtain ⟨Z,rfl,⟨C,dx,⟨eZ,hC⟩,k⟩⟩:=Kv hq0
  refine ⟨_,(@Aa _ _ _ _ _ (@Hj _ _ _ _ _ _ _ _ (dv 0) (@Xo _ _ _ _ _ _ _ _ _ _ _ _ _ _ c_Ledger___init__ (List.Mem.head _) er.m_Ledger hr (by decide) (by rfl) er.b_Ledger (@Ab _ _ _ _ _ (@Xo _ _ _ _ _ _ _ _ _ _ _ _ _ _ c_Rule___init__ (List.Mem.head _) er.m_Rule hr (by decide) (by rfl) er.b_Rule (@Ab _ _ _ _ _ (Cv v_STEP (by rfl)) (@Ab _ _ _ _ _ (Cv v_FIRST_WORTH (by rfl)) (@Ab _ _ _ _ _ (@Cb _ _ _ _ _ _ _ _ _ N9 n_list (by decide +kernel) (@Bf _ _ _ (Cv v_TABLE (by rfl)) (by rfl)) (by trivial)) Ag (by rfl)) (by rfl)) (by rfl)) (by decide) (by rfl) (by rfl)) Ag (by rfl)) (by decide) (by rfl) (by rfl)) rfl) (@An _ _ _ (@Hj _ _ _ _ _ _ _ _ (dv 0) Lq rfl))),?_⟩
  have cl:Uv K C∧NoAttr K C "ledger"∧NoAttr K C "told":=Ge er.y_Desk hC▸⟨er.l_Desk,er.na_Desk_ledger,er.na_Desk_told⟩
  refine ⟨_,.inr (w_TABLE.sq H),fun l hl=>?_⟩
  have s1:Aj H (upd H l (.lst [.ref b_TABLE_0,.ref b_TABLE_1,.ref b_TABLE_2,.ref b_TABLE_3,.ref b_TABLE_4])):=Ah hl
  have e1:upd H l (.lst [.ref b_TABLE_0,.ref b_TABLE_1,.ref b_TABLE_2,.ref b_TABLE_3,.ref b_TABLE_4]) l=some (.lst [.ref b_TABLE_0,.ref b_TABLE_1,.ref b_TABLE_2,.ref b_TABLE_3,.ref b_TABLE_4]):=Ac
  generalize upd H l (.lst [.ref b_TABLE_0,.ref b_TABLE_1,.ref b_TABLE_2,.ref b_TABLE_3,.ref b_TABLE_4])=H1 at s1 e1
  intro x dx' hx hd ne
  have s2:=Oa (C:=c_Rule) hx hd ne
  have e2:upd (upd H1 dx' (.own x)) x (.ins c_Rule dx' []) x=some (.ins c_Rule dx' []):=Ac
  generalize upd (upd H1 dx' (.own x)) x (.ins c_Rule dx' [])=H2 at s2 e2
  have a2:Az (Js K H2) [.ref b_TABLE_0,.ref b_TABLE_1,.ref b_TABLE_2,.ref b_TABLE_3,.ref b_TABLE_4] Abd:=.cons ⟨_,_,rfl,.inr w_TABLE_0,.inr w_TABLE_0_1⟩ (.cons ⟨_,_,rfl,.inr w_TABLE_1,.inr w_TABLE_1_1⟩ (.cons ⟨_,_,rfl,.inr w_TABLE_2,.inr w_TABLE_2_1⟩ (.cons ⟨_,_,rfl,.inr w_TABLE_3,.inr w_TABLE_3_1⟩ (.cons ⟨_,_,rfl,.inr w_TABLE_4,.inr w_TABLE_4_1⟩ .nil))))
  refine ⟨_,dx',[],_,_,⟨e2,er.l_Rule,er.na_Rule_step,er.na_Rule_first,er.na_Rule_table,by decide,s2 _ _ e1,a2,Aif⟩,fun T H3 s3 nT n3 e3 ex3=>⟨rfl,?_⟩⟩
  have kt3:=s3.kt e2
  have a3:=a2.imp fun v g r=>Ht v g _ _ kt3 r
  have s03:Aj H H3:=s1.trans (Z9 hx s2 s3)
  have hR3:Xr K H3 x 0 32 1500 0 0 Abd:=⟨_,dx',_,T,ex3,⟨rfl,er.y_Rule⟩,fd0 rfl,_,e3,a3⟩
  intro L dL hL hdL neL
  have s4:=Oa (C:=c_Ledger) hL hdL neL
  have e4:upd (upd H3 dL (.own L)) L (.ins c_Ledger dL []) L=some (.ins c_Ledger dL []):=Ac
  generalize upd (upd H3 dL (.own L)) L (.ins c_Ledger dL [])=H4 at s4 e4
  have eZ4:=s4 _ _ (s03 _ _ eZ)
  have nZL:Z≠L:=fun z=>by
   have:=s03 _ _ eZ
   rw [z,hL] at this
   cases this
  refine ⟨_,dL,0,32,1500,0,0,Abd,⟨e4,er.y_Ledger,hR3.up s4,Aif⟩,fun A R H5 s5 hA nAL hR lg rl=>⟨rfl,?_⟩⟩
  have nRZ:R≠Z:=fun z=>by rw [z,eZ4] at hR;cases hR
  have eZ5:=s5 _ _ nZL eZ4
  refine ⟨Z,C,dx,[],rfl,eZ5,cl.1,cl.2.1,by decide,?_⟩
  have e6:upd H5 Z (.ins C dx (Bb "ledger" (.ref L) [])) Z=some (.ins C dx (Bb "ledger" (.ref L) [])):=Ac
  have s6:Sx Z H5 (upd H5 Z (.ins C dx (Bb "ledger" (.ref L) []))):=Sx.upd
  generalize upd H5 Z (.ins C dx (Bb "ledger" (.ref L) []))=H6 at e6 s6
  intro D hD
  have s7:Sx Z H5 (upd H6 D (.dK [])):=s6.trans (Sx.of (Ah hD))
  have e7:=Ah (o:=.dK []) hD _ _ e6
  generalize upd H6 D (.dK [])=H7 at s7 e7
  refine ⟨Z,C,dx,_,rfl,e7,cl.1,cl.2.2,BO (Cp _ _ _) (by decide),?_⟩
  have s8:Sx Z H5 (upd H7 Z (.ins C dx (Bb "told" (.ref D) (Bb "ledger" (.ref L) [])))):=s7.trans Sx.upd
  have n4:∀{b:IC},H4 b=none→H b=none:=fun h=>A9 (s03.trans s4) h
  refine k L A R _ (fun b o nb e=>s8 b o nb (s5 b o (fun z=>?_) (s4 b o (s03 b o e)))) (A9 s03 hL) (n4 hA) (n4 hR) (fun z=>by rw [z,e4] at hR;cases hR) ⟨⟨C,dx,_,Ac,hC,Ay (by decide +kernel) Iq,Ay (by decide +kernel) (Ay (by decide +kernel) rfl)⟩,nZL,lg.sxz s8 eZ5 nZL⟩ (rl.sxz s8 eZ5 nRZ)
  have:=s03 _ _ e
  rw [z,hL] at this
  cases this
theorem Hn.fr {K:KKf}{H H':Hp}{Z L A R:IC}{es es':List En}{last last':Int}{pos:Pos}{q:Str}(h:Hn K H Z L A R es last)(tk:A8 H (Dv K) pos q)(fr:Fr3 L A (Dv K) H H')(lg:I0 K H' L A R es' last'):Hn K H' Z L A R es' last':=by
 obtain ⟨⟨C,dx,fs,e,hC,f1,f2⟩,n,C1,dx1,fs1,eL,hC1,fd,kvs,eA,al⟩:=h
 obtain ⟨ps,eT,_⟩:=tk
 exact ⟨⟨C,dx,fs,fr _ _ n (fun z=>by rw [z,eA] at e;cases e) (fun z=>by rw [z,eT] at e;cases e) e,hC,f1,f2⟩,n,lg⟩
theorem Hn.up {K:KKf}{H H':Hp}{Z L A R:IC}{es:List En}{last:Int}(s:Aj H H')(h:Hn K H Z L A R es last):Hn K H' Z L A R es last:=by
 obtain ⟨⟨C,dx,fs,e,hC,f1,f2⟩,n,lg⟩:=h
 exact ⟨⟨C,dx,fs,s _ _ e,hC,f1,f2⟩,n,lg.up s⟩
theorem Hn.get {K:KKf}{H:Hp}{Z L A R c1 c2:IC}{es:List En}{last:Int}(y1:PySem.W.nsIn K mainGlobals "Desk"=some (some (.ref c1)))(y2:PySem.W.nsIn K mainGlobals "Ledger"=some (some (.ref c2)))(h:Hn K H Z L A R es last):∃dx fs dy gs,H Z=some (.ins c1 dx fs)∧fs.lookup ("ledger":Str)=some (.ref L)∧fs.lookup ("say":Str)=none∧H L=some (.ins c2 dy gs)∧LFd gs A R last:=by
 obtain ⟨⟨C,dx,fs,e,hC,f1,f2⟩,n,C1,dx1,fs1,eL,hC1,fd,_⟩:=h
 obtain rfl:=Ge hC y1
 obtain rfl:=Ge hC1 y2
 exact ⟨dx,fs,dx1,fs1,e,f1,f2,eL,fd⟩
def Ana (es:List En)(g:Gm):Prop:=es.length<40∧(A7 (es.map (·.2)++[g])).length≤8
theorem Aip {i:Int}(h0:0≤i)(h1:i≤1000):i.natAbs.log2<1920:=by
 have:Bd 100 i:=Lg (b:=10000) (by omega) (by omega) (Ca rfl)
 exact AV (N1 this (by decide)) (by decide)
def Ja (K:KKf)(ns:IH):Sp:=fun vs H Q _=>match vs with
 | [.ref Z,.str x]=>∃(L A R:IC) (es:List En) (last:Int) (g:Gm) (nm:IG),(Hn K H Z L A R es last∧Acn nm es last∧es.length≤40∧nm.length≤20∧g.a∈nm∧g.b∈nm∧x=Ej g∧GO g∧0≤last∧last<1000∧A8 H (Dv K) Dg Jr) ∧
   Ana es g∧∀H',Fr3 L A (Dv K) H H'→Hn K H' Z L A R (es++[(last+1,g)]) (last+1)→A8 H' (Dv K) Dg Jr→Q (.str (toString (last+1))) H'
 |_=>False
theorem Vf:Al ["desk","text"] ["desk","text"] (Ad Kh):=D9
include er n_str in
theorem U9 (d:Bt K mg "put_game" Kh ["desk","text"])  (c_Ledger_put:E6 P w K mg base [c_Ledger] [] "put" ["self","played"] 6 (Jz K ns))(c_read_game:Bc P w K mg base "read_game" ["text"] 4 (G2 K ns)):Bc P w K mg base "put_game" ["desk","text"] 7 (Ja K ns):=by
 refine d.cal (k:=6) Vf (fun vs H Q E hq0=>?_) (fun f cdv A outer s H vs Q E hr hq0=>?_)
 ·obtain ⟨_,_,rfl,_⟩:=Lc hq0
  rfl
 ·obtain ⟨Z,x,rfl,⟨L,A,R,es,last,g,nm,⟨dk0,ok,l40,l20,ga,gb,hx,o,p0,p1,tk⟩,fit,k⟩⟩:=Lc hq0
  refine ⟨_,(@A3 _ _ _ _ (@Cb _ _ _ _ _ _ _ _ _ Aev n_str (by decide +kernel) (@Bf _ _ _ (@Bx _ _ _ _ _ _ _ (@Hm _ _ _ _ _ _ _ _ _ _ _ _ (@Dr _ _ _ _ _ (dv 0) (by rfl)) (@Dz _ _ _ _ _ _ _ _ _ _ _ _ _ _ c_Ledger_put (List.Mem.head _) er.l_Ledger (by decide) Fx) hr (@Ab _ _ _ _ _ (@Af _ _ _ _ _ _ _ _ _ _ _ c_read_game hr (@Bf _ _ _ (dv 1) (by rfl)) (by trivial)) Ag (by rfl)) (by rfl) (by rfl) (by rfl))) (by rfl)) (by trivial))),?_⟩
  subst hx
  obtain ⟨dx,fs,dy,gs,eZ,f1,f2,eL,fd⟩:=dk0.get er.y_Desk er.y_Ledger
  refine ⟨Z,_,dx,fs,_,rfl,eZ,er.l_Desk,er.na_Desk_ledger,f1,L,_,dy,gs,_,rfl,eL,.head _,fd.pu,?_⟩
  refine ⟨Yh o.d0 o.d1 o.na o.nb,_,X4 o,fun p H1 s1 e1=>?_⟩
  have dk1:=dk0.up s1
  exact ⟨A,R,es,last,g,nm,⟨dk1.2.2,ok,l40,l20,⟨p,rfl,e1⟩,ga,gb,tk.up s1⟩,fit,fun r D H2 fr er2 lg2 tk2=>⟨_,er2,Aip (by omega) (by omega),k H2 (fun b u n1 n2 n3 e=>fr b u n1 n2 n3 (s1 b u e)) (dk1.fr (tk.up s1) fr lg2) tk2⟩⟩
theorem _root_.Lw.Nm.sok {x:Str}(h:Nm x):PyData.strOk x=true:=Amk fun c hc=>Nat.lt_trans (h.abc c hc).2 (by decide)
def Ve (gs:IQ):Str:=if gs=[] then Str.ofString "none" else Str.join E9 (gs.map Ej)
theorem Aaj {α:Type}(f:α→PyData):∀l:List α,PyData.eqv (.list (l.map f)) (.list [])=l.isEmpty
 |[]=>rfl
 |_::_=>rfl
theorem Wf {P:Gm→Prop}{gs:IQ}{p:IM}(h:∀g∈gs,P g):∀g∈pg gs p,P g:=fun g hg=>by
 unfold pg at hg
 obtain ⟨i,_,hi⟩:=FP.mp hg
 exact h g (AN hi)
def Hh (K:KKf)(ns:IH):Sp:=fun vs H Q _=>match vs with
 | [.ref Z,_]=>∃(L A R:IC) (es:List En) (last:Int),(Hn K H Z L A R es last∧es.length≤40∧(∀e∈es,GO e.2)∧A8 H (Dv K) Dg Jr) ∧
   ∀p H',Ow (Dv K) H H'→A8 H' (Dv K) Dg Jr→Nh (dk (es.map (·.2))) (es.map (·.2)).length p→Q (.str (Ve (pg (es.map (·.2)) p))) H'
 |_=>False
theorem Ld:Al ["desk","things","games"] ["desk","things"] (Ad Ij):=D9
include er in
theorem Ui (d:Bt K mg "tell_book" Ij ["desk","things"])  (c_show_book:Bc P w K mg base "show_book" ["games"] 3 (Kx K ns))(c_Ledger_games:E6 P w K mg base [c_Ledger] [] "games" ["self"] 4 (Dj K ns)):Bc P w K mg base "tell_book" ["desk","things"] 5 (Hh K ns):=by
 refine d.cal (k:=4) Ld (fun vs H Q E hq0=>?_) (fun f cdv A outer s H vs Q E hr hq0=>?_)
 ·obtain ⟨_,_,rfl,_⟩:=Abw hq0
  rfl
 ·obtain ⟨Z,_,rfl,⟨L,A,R,es,last,⟨dk0,l40,ok,tk⟩,k⟩⟩:=Abw hq0
  refine ⟨_,(@Aa _ _ _ _ _ (@Ak _ _ _ (2) _ _ _ Ld.nd (@Kz _ _ _ _ _ _ _ _ _ (@Dr _ _ _ _ _ (dv 0) (by rfl)) (@Dz _ _ _ _ _ _ _ _ _ _ _ _ _ _ c_Ledger_games (List.Mem.head _) er.l_Ledger (by decide) Fx) hr (by rfl)) (by trivial)) (@A3 _ _ _ _ (@Ym _ _ _ _ _ _ _ _ (@A0 _ _ _ _ _ _ _ _ (@Pa _ hr.units) (dv 2) (@Hu _ _ _ _ Ag) (Aq _)) Ax (@Af _ _ _ _ _ _ _ _ _ _ _ c_show_book hr (@Bf _ _ _ (dv 2) (by rfl)) (by trivial))))),?_⟩
  obtain ⟨dx,fs,dy,gs,eZ,f1,f2,eL,fd⟩:=dk0.get er.y_Desk er.y_Ledger
  refine ⟨Z,_,dx,fs,_,rfl,eZ,er.l_Desk,er.na_Desk_ledger,f1,L,_,dy,gs,_,rfl,eL,.head _,fd.ga,A,R,es,last,⟨dk0.2.2,l40,tk⟩,fun D vs H1 p sm nD eD tk1 stb al=>?_⟩
  have okp:∀g∈pg (es.map (·.2)) p,GO g:=Wf fun g hg=>by
   obtain ⟨e,he,rfl⟩:=BG.mp hg
   exact ok e he
  have ll:(pg (es.map (·.2)) p).length≤40:=by
   rw [P8 stb.2.1,stb.1,AE]
   exact l40
  have k:=fun H' sm' tk'=>k p H' sm' tk' stb
  generalize pg (es.map (·.2)) p=gs' at al okp ll k
  intro T H2 s2 e2
  have al2:=al.imp fun v g r=>Bm v g _ _ (Bq s2) r
  have sm2:Ow (Dv K) H H2:=fun b o n e=>s2 b o (sm b o n e)
  refine ⟨_,_,Tg (Au.of (s2 _ _ eD)) al2,.lst (Au.of e2) .nil,Xp fun g hg=>⟨(okp g hg).na.sok,(okp g hg).nb.sok⟩,rfl,?_⟩
  rw [Aaj]
  unfold Ve at k
  refine ⟨fun h=>?_,fun h=>⟨gs',⟨⟨vs,Au.of (s2 _ _ eD),al2,by omega⟩,okp,by omega⟩,fun H3 s3=>?_⟩⟩
  ·have k:=k H2 sm2 (tk1.up s2)
   rw [AZ (List.isEmpty_iff.mp h)] at k
   exact k
  ·have k:=k H3 (fun b o n e=>s3 b o (sm2 b o n e)) (tk1.up (s2.trans s3))
   rw [AW fun z=>by rw [z] at h;exact nb h] at k
   exact k
structure SmQ (s:Str×Q2):Prop where
 n8:s.1.length≤8
 t0:-(10 ^ 60)<s.2.1
 t1:s.2.1<10 ^ 60
 b0:0<s.2.2
 b1:s.2.2<10 ^ 60
def G8 (K:KKf)(ns:IH):Sp:=fun vs H Q _=>match vs with
 |[.ref L,.str n]=>∃(gs:IQ) (nm:IG),(Bk K H L gs∧(∀g∈gs,g.a∈nm∧g.b∈nm)∧nm.length≤60∧n∈nm∧∀x∈nm,PyData.strOk x=true)∧∀D kvs H',Aj H H'→H D=none→H' D=some (.dK kvs)→Az (WW H H') kvs (wfs gs n)→kvs.map (·.1)=((wfs gs n).map (·.1)).map Sum.inr→((wfs gs n).map (·.1)).Nodup→(∀x,x∈(wfs gs n).map (·.1)↔K0 gs n x)→Q (.ref D) H'
 |_=>False
theorem Cq:Al ["games","name","ways","newest","reached","last","taker"] ["games","name"] (Ad Iy):=D9
include er in
theorem Tw (d:Bt K mg "ways_from" Iy ["games","name"])  (c_takers:Bc P w K mg base "takers" ["games","name"] 3 (Sa K ns)):Bc P w K mg base "ways_from" ["games","name"] 4 (G8 K ns):=by
 refine d.cal (k:=3) Cq (fun vs H Q E hq0=>?_) (fun f cdv A outer s H vs Q E hr hq0=>?_)
 ·obtain ⟨_,_,rfl,_⟩:=Lc hq0
  rfl
 ·obtain ⟨L,n,rfl,⟨gs,nm,⟨hB,hm,l60,hn,sok⟩,q⟩⟩:=Lc hq0
  refine ⟨_,(@Aa _ _ _ _ _ (@Ak _ _ _ (2) _ _ _ Cq.nd (@Af4 _ _ _ _ _ (@Afe _ _ _ _ _ _ _ _ _ (dv 1) (@G4 _ _ _ _ (@Ab _ _ _ _ _ (dv 1) Ag (by rfl))) Ahy) rfl rfl (by simp) (by decide)) (by trivial)) (@Aa _ _ _ _ _ (@Ak _ _ _ (3) _ _ _ Cq.nd (@G4 _ _ _ _ (@Ab _ _ _ _ _ (dv 1) Ag (by rfl))) (by trivial)) (@Aa _ _ _ _ _ (@Y7 _ _ _ _ _ _ CB (@A0 _ _ _ _ _ _ _ _ (@Rh _ hr.units) (dv 3) (@G4 _ _ _ _ Ag) (Aq _)) (@Aa _ _ _ _ _ (@Ak _ _ _ (4) _ _ _ Cq.nd (@G4 _ _ _ _ Ag) (by trivial)) (@Aa _ _ _ _ _ (@C4 _ _ _ _ _ _ _ _ CB rfl (@A4 _ _ _ _ (dv 3)) (@Ar _ _ (5) _ Cq.nd rfl (by trivial) (by trivial)) (@An _ _ _ (@C4 _ _ _ _ _ _ _ _ CB rfl (@A4 _ _ _ _ (@Af _ _ _ _ _ _ _ _ _ _ _ c_takers hr (@Ai _ _ _ _ _ (dv 0) (@Bf _ _ _ (dv 5) (by rfl)) (by rfl)) (by trivial))) (@Ar _ _ (6) _ Cq.nd rfl (by trivial) (by trivial)) (@An _ _ _ (@Bl _ _ _ _ _ _ _ _ (@Ad2 _ _ _ _ _ _ (@u1 _ _ hr.units) (dv 6) (dv 2) (by with_unfolding_all rfl)) (@Aa _ _ _ _ _ (@N7 _ _ _ _ _ _ _ _ _ (@u1 _ _ hr.units) (dv 2) (dv 6) (@Ap _ _ _ _ _ _ _ _ Afx (@Ec _ _ _ _ _ _ (@u1 _ _ hr.units) (dv 2) (dv 5) (fun _ _=>rfl)) (@G4 _ _ _ _ (@Ab _ _ _ _ _ (dv 6) Ag (by rfl)))) rfl) (@An _ _ _ (@C3 _ _ _ _ (@Em _ _ _ _ _ _ _ _ _ _ _ _ CQ PySem.F.slot_list_append PySem.F.type_list_append Cy (dv 4) (@Ab _ _ _ _ _ (dv 6) Ag (by rfl)) (by rfl) (by rfl) (by rfl) (by rfl) (by rfl)) (by rfl)))) Ao)) (by intro _;rfl))) (by intro _;rfl)) (@An _ _ _ (@Ak _ _ _ (3) _ _ _ Cq.nd (dv 4) (by trivial)))))) (@A3 _ _ _ _ (dv 2))))),?_⟩
  intro D hD
  have len1:∀v:V,[v].length≤sizeLine:=fun v=>by show 1≤sizeLine;decide
  refine ⟨len1 _,fun p0 hp0=>?_⟩
  have neDp:D≠p0:=fun e=>by
   rw [←e,Ac] at hp0
   cases hp0
  have hp0':H p0=none:=by
   rw [←hp0,Am (DI neDp)]
  refine ⟨by rw [Am neDp,Ac],[(Sum.inr n,.ref p0)],rfl,(by show 1≤15;decide),len1 _,fun N hN=>?_⟩
  have eM:Ma [] [((Sum.inr n:Bg),V.ref p0)]=[(Sum.inr n,.ref p0)]:=rfl
  rw [eM] at hN ⊢
  have s0:Aj H (upd (upd (upd H D (.dK [])) p0 (.lst [.str n])) D (.dK [(Sum.inr n,.ref p0)])):=B6 (B6 (Ah hD) hp0') hD
  have eD0:upd (upd (upd H D (.dK [])) p0 (.lst [.str n])) D (.dK [(Sum.inr n,.ref p0)]) D=some (.dK [(Sum.inr n,.ref p0)]):=Ac
  have eP0:upd (upd (upd H D (.dK [])) p0 (.lst [.str n])) D (.dK [(Sum.inr n,.ref p0)]) p0=some (.lst [.str n]):=by rw [Am (DI neDp),Ac]
  generalize upd (upd (upd H D (.dK [])) p0 (.lst [.str n])) D (.dK [(Sum.inr n,.ref p0)])=H0 at hN s0 eD0 eP0
  have t64:∀x,(Il x gs).length<64:=fun x=>BO (AI (Ag8 hm) l60) (by decide)
  refine ⟨fun m σ H'=>∃(N:IC) (nw ks:IG) (kvs:List (Bg×V)) (ws:List (Str×IG)) (r:Nat) (o4 o5 o6:Option V),σ=[some (.ref L),some (.str n),some (.ref D),some (.ref N),o4,o5,o6]∧(Aj H H'∧H' D=some (.dK kvs)∧kvs.map (·.1)=ks.map Sum.inr∧(∀R,H' R=none→VL H' R kvs)∧H' N=some (.lst (nw.map V.str)))∧(ks.Nodup∧n∈ks∧(∀x∈ks,K0 gs n x)∧(∀x∈nw,x∈ks)∧∀x∈ks,x∈nw∨∀y∈Il x gs,y∈ks)∧((∀R,H' R=none→Az (WV H H' R) kvs ws)∧ws.map (·.1)=ks∧(∀k,Oq (fun x=>Il x gs) (k+r) ([(n,[n])],[n])=Oq (fun x=>Il x gs) k (ws,nw))∧r≤ks.length∧(nw≠[]→r+1≤ks.length))∧m=2*(60-ks.length)+(if nw=[] then 0 else 1),
   ⟨_,N,[n],[n],[(Sum.inr n,.ref p0)],[(n,[n])],0,none,none,none,rfl,⟨s0.trans (Ah hN),(Ah hN) _ _ eD0,rfl,fun R hR kv hkv=>?_,Ac⟩,⟨DM.mpr ⟨by simp,List.nodup_nil⟩,AH.mpr rfl,fun x hx=>?_,fun x hx=>hx,fun x hx=>.inl hx⟩,⟨fun R hR=>?_,rfl,fun k=>rfl,BK _,fun _=>AF _⟩,rfl⟩,?_⟩
  ·rw [AH] at hkv
   subst hkv
   have e:=(Ah (o:=.lst [V.str n]) hN) _ _ eP0
   refine ⟨p0,_,rfl,fun z=>?_,e,AF _⟩
   rw [z,hR] at e
   cases e
  ·rw [AH] at hx
   subst hx
   exact .here
  ·have e:=(Ah (o:=.lst [V.str n]) hN) _ _ eP0
   refine .cons ⟨rfl,p0,rfl,fun z=>?_,e,hp0'⟩ .nil
   rw [z,hR] at e
   cases e
  clear hN s0 eD0 eP0
  rintro m σ H' ⟨N,nw,ks,kvs,ws,r,o4,o5,o6,rfl,⟨s1,eD,ky,vl,eN⟩,⟨nd,hk,rc,sub,cl⟩,⟨wv,kw,bf,rk,rk1⟩,rfl⟩
  have ksnm:∀x∈ks,x∈nm:=fun x hx=>(rc x hx).nm hn hm
  have shN:SeqAt.shaped (.list (nw.map PyData.str))=true:=Fb fun x hx=>sok x (ksnm x (sub x hx))
  refine ⟨BK _,fun e0 he0=>⟨_,_,Gb (Au.of ((Ah he0) _ _ eN)),Gb (l:=[]) (Au.of Ac),shN,rfl,?_⟩⟩
  rw [Aj1]
  have s2:Aj H' (upd H' e0 (.lst ([]:IP))):=Ah he0
  refine ⟨fun h=>?_,fun h=>?_⟩
  ·have hne:nw≠[]:=fun z=>by rw [z] at h;cases h
   rw [AW hne]
   refine ⟨BK _,fun R hR=>?_⟩
   have eN1:=s2 _ _ eN
   have neNR:N≠R:=fun z=>by
    rw [z,hR] at eN1
    cases eN1
   have hR':=A9 s2 hR
   have s3:Aj H' (upd (upd H' e0 (.lst [])) R (.lst [])):=s2.trans (Ah hR)
   have w0:WI gs n H (upd (upd H' e0 (.lst [])) R (.lst [])) D R ks [] kvs:=⟨s1.trans s3,s3 _ _ eD,by rw [CJ];exact ky,(vl R hR').up fun p zs _ e=>s3 _ _ e,Ac,by rw [CJ];exact nd,by rw [CJ];exact rc⟩
   have v0:Az (WV H (upd (upd H' e0 (.lst [])) R (.lst [])) R) kvs ws:=(wv R hR').imp fun kv w h=>h.up fun p zs _ e=>s3 _ _ e
   have eN2:=s3 _ _ eN
   have hR0:H R=none:=A9 s1 hR'
   generalize upd (upd H' e0 (.lst [])) R (.lst [])=H2 at w0 eN2 v0
   refine ⟨N,rfl,⟨_,Au.of eN2⟩,C6 (K:=K) (a:=N) (xs:=nw.map V.str) (fun i σ Hx=>∃(rs:IG) (kvs:List (Bg×V)) (wx:List (Str×IG)) (o5 o6:Option V),σ=[some (.ref L),some (.str n),some (.ref D),some (.ref N),some (.ref R),o5,o6]∧WI gs n H Hx D R ks rs kvs∧Hx N=some (.lst (nw.map V.str))∧(∀x∈ks++rs,x∈rs∨x∈nw.drop i∨∀y∈Il x gs,y∈ks++rs)∧Az (WV H Hx R) kvs wx∧wx.map (·.1)=ks++rs∧(wx,rs)=(nw.take i).foldl (Qc fun x=>Il x gs) (ws,[]))
    ⟨[],kvs,ws,_,_,rfl,w0,eN2,fun x hx=>?_,v0,by rw [kw,CJ],rfl⟩ (fun i σ Hx _ ⟨_,_,_,_,_,_,_,e,_⟩=>Au.of e) ?_ ?_⟩
   ·rw [CJ] at hx ⊢
    exact .inr (cl x hx)
   ·rintro i v σ Hx hv ⟨rs,kvs,wx,o5,o6,rfl,wi,eN,cl,va,ka,pa⟩
    rw [BE] at hv
    obtain ⟨last,hlast,rfl⟩:∃x,nw[i]? =some x∧V.str x=v:=by
     cases hh:nw[i]? with
     |none=>rw [hh] at hv;cases hv
     |some x=>rw [hh] at hv;exact ⟨x,rfl,Option.some.inj hv⟩
    have hlk:last∈ks:=sub last (AN hlast)
    refine ⟨gs,⟨hB.up wi.sm,t64 last⟩,fun T H3 s3 d3 e3=>?_⟩
    have neTR:T≠R:=fun z=>by
     have:=wi.eR
     rw [←z,d3] at this
     cases this
    refine ⟨T,rfl,⟨_,Au.of e3⟩,C6 (K:=K) (a:=T) (xs:=(Il last gs).map V.str) (fun j σ Hy=>∃(rs:IG) (kvs:List (Bg×V)) (wx:List (Str×IG)) (o6:Option V),σ=[some (.ref L),some (.str n),some (.ref D),some (.ref N),some (.ref R),some (.str last),o6]∧WI gs n H Hy D R ks rs kvs∧Hy N=some (.lst (nw.map V.str))∧Hy T=some (.lst ((Il last gs).map V.str))∧(∀y∈(Il last gs).take j,y∈ks++rs)∧(∀x∈ks++rs,x∈rs∨x∈nw.drop i∨∀y∈Il x gs,y∈ks++rs)∧Az (WV H Hy R) kvs wx∧wx.map (·.1)=ks++rs∧(wx,rs)=((Il last gs).take j).foldl (Ss last) ((nw.take i).foldl (Qc fun x=>Il x gs) (ws,[])))
     ⟨rs,kvs,wx,_,rfl,wi.up s3,s3 _ _ eN,e3,fun y hy=>by simp at hy,cl,va.imp fun kv w h=>h.up fun p zs _ e=>s3 _ _ e,ka,pa⟩ (fun j σ Hy _ ⟨_,_,_,_,_,_,_,e,_⟩=>Au.of e) ?_ ?_⟩
    ·clear va ka pa
     rintro j v σ Hy hv ⟨rs,kvs,wx,o6,rfl,wi,eN,eT,tk,cl,va,ka,pa⟩
     rw [BE] at hv
     obtain ⟨y,hy,rfl⟩:∃x,(Il last gs)[j]? =some x∧V.str x=v:=by
      cases hh:(Il last gs)[j]? with
      |none=>rw [hh] at hv;cases hv
      |some x=>rw [hh] at hv;exact ⟨x,rfl,Option.some.inj hv⟩
     have hyt:=AN hy
     have klen:(ks++rs).length≤60:=AI (Es wi.nd fun x hx=>(wi.rc x hx).nm hn hm) l60
     have kl:=wi.len
     refine ⟨D,_,rfl,Fy.k (k:=Sum.inr y) wi.eD,?_⟩
     rw [N6 wi.ky]
     have pj:=R8 (f:=Ss last) (b:=(nw.take i).foldl (Qc fun x=>Il x gs) (ws,[])) hy
     rw [←pa] at pj
     refine ⟨fun h=>?_,fun h=>⟨rs,kvs,wx,_,rfl,wi,eN,eT,fun z hz=>?_,cl,va,ka,?_⟩⟩
     ·have hno:y∉ks++rs:=by simpa using h
      have hlk':last∈ks++rs:=CC _ hlk
      obtain ⟨v,hv⟩:∃v,B4 kvs (Sum.inr last)=some v:=by
       have:=N6 wi.ky last
       rw [AR hlk'] at this
       exact FC.mp this
      obtain ⟨p,zs,rfl,nep,ep,lz⟩:=wi.vl.at hv
      have ez:zs=(Bs wx last).map V.str:=by
       obtain ⟨p',h1,_,h3,_⟩:=Aia va hv
       cases h1
       rw [ep] at h3
       cases h3
       rfl
      have g1:Fy Hy D (.str last) (some (.ref p)):=by
       have:=Fy.k (k:=Sum.inr last) wi.eD
       rw [hv] at this
       exact this
      refine ⟨D,_,rfl,g1,len1 _,fun t1 n1=>⟨p,t1,zs,_,rfl,rfl,(Ah n1) _ _ ep,Ac,?_,fun t2 n2=>?_⟩⟩
      ·show zs.length+1≤sizeLine
       exact AI (show zs.length+1≤100 by omega) (by decide)
      have wa:=wi.add (t1:=t1) (t2:=t2) (p:=p) (zs:=zs) (x:=last) hD hR0 hno hlk' hyt n1 rfl n2 rfl lz
      have sA:Aj Hy (upd (upd Hy t1 (.lst [.str y])) t2 (.lst (zs++[.str y]))):=(Ah n1).trans (Ah n2)
      refine ⟨D,_,rfl,Vt.k (k:=Sum.inr y) (sA _ _ wi.eD) (BO (show kvs.length≤60 by omega) (by decide)),?_⟩
      have eR1:=sA _ _ wi.eR
      have neRD:R≠D:=Du eR1 (sA _ _ wi.eD)
      have eR2:upd (upd (upd Hy t1 (.lst [.str y])) t2 (.lst (zs++[.str y]))) D (.dK (Eo kvs (Sum.inr y) (.ref t2))) R=some (.lst (rs.map V.str)):=by rw [Am neRD];exact eR1
      refine ⟨.inl ⟨rfl,_,Au.of eR2⟩,R,_,_,rfl,rfl,eR2,?_,rs++[y],kvs++[(Sum.inr y,.ref t2)],wx++[(y,Bs wx last++[y])],_,rfl,?_,?_,?_,fun z hz=>?_,fun x hx=>?_,?_,?_,?_⟩
      ·rw [AE]
       exact BO (show rs.length≤60 by rw [AG] at klen;omega) (by decide)
      ·rw [BQ] at wa
       exact wa
      ·rw [Am neNR,Am (Du (sA _ _ eN) (sA _ _ wi.eD))]
       exact sA _ _ eN
      ·rw [Am neTR,Am (Du (sA _ _ eT) (sA _ _ wi.eD))]
       exact sA _ _ eT
      ·rw [BY,hy] at hz
       rw [←BU]
       rcases BH.mp hz with hz|hz
       ·exact CC _ (tk z hz)
       ·exact BA _ hz
      ·rw [←BU] at hx ⊢
       rcases BH.mp hx with hx|hx
       ·rcases cl x hx with c|c|c
        ·exact .inl (CC _ c)
        ·exact .inr (.inl c)
        ·exact .inr (.inr fun z hz=>CC _ (c z hz))
       ·exact .inl (BA _ hx)
      ·have e3:upd (upd Hy t1 (.lst [.str y])) t2 (.lst (zs++[.str y])) t2=some (.lst (zs++[.str y])):=Ac
       have ne2R:t2≠R:=fun z=>by
        have:=(Ah (o:=.lst [V.str y]) n1) _ _ wi.eR
        rw [←z,n2] at this
        cases this
       have ne2D:t2≠D:=Du e3 (sA _ _ wi.eD)
       refine Az.snoc ⟨rfl,t2,rfl,ne2R,?_,A9 wi.sm (A9 (Ah n1) n2)⟩ (va.imp fun kv w hw=>hw.up fun q us nq e=>?_)
       ·rw [Am ne2R,Am ne2D,e3,ez,BQ]
        rfl
       ·have:=sA _ _ e
        rw [Am nq,Am (Du this (sA _ _ wi.eD))]
        exact this
      ·rw [BQ,ka,←BU]
       rfl
      ·rw [pj]
       unfold Ss
       rw [AW (by rw [ka];exact hno)]
     ·have hyes:y∈ks++rs:=AU (by rw [Bool.not_eq_false'] at h;exact h)
      rw [BY,hy] at hz
      rcases BH.mp hz with hz|hz
      ·exact tk z hz
      ·have:z=y:=by simpa using hz
       rw [this]
       exact hyes
     ·have hyes:y∈ks++rs:=AU (by rw [Bool.not_eq_false'] at h;exact h)
      rw [pj]
      unfold Ss
      rw [AZ (by rw [ka];exact hyes)]
    ·clear va ka pa
     rintro σ Hy ⟨rs,kvs,wx,o6,rfl,wi,eN,eT,tk,cl,va,ka,pa⟩
     rw [AE,CO] at tk pa
     refine ⟨rs,kvs,wx,_,_,rfl,wi,eN,fun x hx=>?_,va,ka,pa.trans (R8 (f:=Qc fun x=>Il x gs) hlast).symm⟩
     rcases cl x hx with c|c|c
     ·exact .inl c
     ·have hi:i<nw.length:=(AY.mp hlast).1
      rw [CT hi] at c
      rcases AS.mp c with c|c
      ·have:x=last:=by
        rw [c]
        exact (AY.mp hlast).2
       subst this
       exact .inr (.inr tk)
      ·exact .inr (.inl c)
     ·exact .inr (.inr c)
   ·rintro σ Hx ⟨rs,kvs,wx,o5,o6,rfl,wi,eN,cl,va,ka,pa⟩
    rw [AE,List.drop_length] at cl
    rw [AE,CO] at pa
    have klen:(ks++rs).length≤60:=AI (Es wi.nd fun x hx=>(wi.rc x hx).nm hn hm) l60
    refine ⟨2*(60-(ks++rs).length)+(if rs=[] then 0 else 1),?_,R,rs,ks++rs,kvs,wx,r+1,_,_,_,rfl,⟨wi.sm,wi.eD,wi.ky,fun R' hR'=>?_,wi.eR⟩,⟨wi.nd,CC _ hk,wi.rc,fun x hx=>BA _ hx,fun x hx=>?_⟩,⟨fun R' hR'=>?_,ka,fun k=>?_,?_,fun z=>?_⟩,rfl⟩
    ·rw [AG] at klen ⊢
     by_cases z:rs=[]
     ·rw [AZ z,z]
      show 2*(60-(ks.length+0))+0<_
      omega
     ·rw [AW z]
      have:0<rs.length:=List.length_pos_iff.mpr z
      omega
    ·intro kv hkv
     obtain ⟨p,zs,a1,a2,a3,a4⟩:=wi.vl kv hkv
     refine ⟨p,zs,a1,fun z=>?_,a3,a4⟩
     rw [z,hR'] at a3
     cases a3
    ·rcases cl x hx with c|c|c
     ·exact .inl c
     ·cases c
     ·exact .inr c
    ·refine va.imp fun kv w hw=>?_
     obtain ⟨b1,p,b2,b3,b4,b5⟩:=hw
     refine ⟨b1,p,b2,fun z=>?_,b4,b5⟩
     rw [z,hR'] at b4
     cases b4
    ·have e:k+(r+1)=(k+1)+r:=by omega
     rw [e,bf,Pf _ _ hne,pa]
     rfl
    ·rw [AG]
     have:=rk1 hne
     omega
    ·rw [AG]
     have:=rk1 hne
     have:0<rs.length:=List.length_pos_iff.mpr z
     omega
  ·have hz:nw=[]:=by
    cases nw with
    |nil=>rfl
    |cons x l=>cases h
   subst hz
   have k60:ks.length≤60:=AI (Es nd ksnm) l60
   have ew:wfs gs n=ws:=by
    have:=bf (60-r)
    rw [show 60-r+r=60 by omega,Ahh] at this
    exact this
   rw [←ew] at kw wv
   have mm:∀x,K0 gs n x→x∈ks:=fun x hx=>Y2 hk (fun a ha y hy=>by
    rcases cl a ha with c|c
    ·cases c
    ·exact c y hy) hx
   exact q D kvs _ (s1.trans s2) hD (s2 _ _ eD) ((wv e0 he0).imp fun kv w ⟨b1,p,b2,_,b4,b5⟩=>⟨b1,p,b2,s2 _ _ b4,b5⟩) (by rw [kw];exact ky) (by rw [kw];exact nd) fun x=>by
    rw [kw]
    exact ⟨rc x,mm x⟩
def Pk (K:KKf)(ns:IH):Sp:=fun vs H Q E=>match vs with
 |[.ref L,.str n]=>∃(gs:IQ) (nm:IG),(Bk K H L gs∧(∀g∈gs,g.a∈nm∧g.b∈nm)∧nm.length≤60∧∀x∈nm,PyData.strOk x=true)∧n∈A7 gs∧∀D (fs:IG) H',Aj H H'→H D=none→H' D=some (.lst (fs.map V.str))→Inc fs→(∀x,x∈fs↔K0 gs n x)→Q (.ref D) H'
 |_=>False
theorem Ac6:Al ["games","name"] ["games","name"] (Ad Sw):=D9
include er n_sorted in
theorem Acx (d:Bt K mg "above" Sw ["games","name"])  (c_ways_from:Bc P w K mg base "ways_from" ["games","name"] 4 (G8 K ns))(c_check_player:Bc P w K mg base "check_player" ["games","name"] 2 (Ey K ns)):Bc P w K mg base "above" ["games","name"] 5 (Pk K ns):=by
 refine d.cal (k:=4) Ac6 (fun vs H Q E hq0=>?_) (fun f cdv A outer s H vs Q E hr hq0=>?_)
 ·obtain ⟨_,_,rfl,_⟩:=Lc hq0
  rfl
 ·obtain ⟨L,n,rfl,⟨gs,nm,⟨hB,hm,l60,sok⟩,h,k1⟩⟩:=Lc hq0
  refine ⟨_,(@Aa _ _ _ _ _ (@C3 _ _ _ _ (@Af _ _ _ _ _ _ _ _ _ _ _ c_check_player hr (@Ai _ _ _ _ _ (dv 0) (@Bf _ _ _ (dv 1) (by rfl)) (by rfl)) (by trivial)) (by rfl)) (@A3 _ _ _ _ (@Av _ _ _ _ _ _ _ _ _ Aad n_sorted (by decide +kernel) (@Bf _ _ _ (@Af _ _ _ _ _ _ _ _ _ _ _ c_ways_from hr (@Ai _ _ _ _ _ (dv 0) (@Bf _ _ _ (dv 1) (by rfl)) (by rfl)) (by trivial)) (by rfl)) (by trivial)))),?_⟩
  have p64:(A7 gs).length<64:=BO (AI (Hq hm) l60) (by decide)
  refine ⟨gs,⟨hB,p64⟩,h,fun H1 s1=>⟨gs,nm,⟨hB.up s1,hm,l60,K9 hm h,sok⟩,fun D kvs H2 s2 d2 e2 wv ky nd mem=>⟨kvs,(wfs gs n).map (·.1),e2,ky,?_,nd,fun F hF=>?_⟩⟩⟩
  ·exact BO (AI (Es nd fun x hx=>((mem x).mp hx).nm (K9 hm h) hm) l60) (by decide)
  ·have s:=s1.trans s2
   exact k1 F (Oc ((wfs gs n).map (·.1))) _ (s.trans (Ah hF)) (A9 s hF) Ac (C2 _) fun x=>Eg.trans (mem x)
theorem Ae5 {kvs:List (Bg×V)}{ks:IG}(h:kvs.map (·.1)=ks.map Sum.inr){x:Str}(hx:x∈ks):∃v,B4 kvs (Sum.inr x)=some v:=by
 have:=N6 h x
 rw [AR hx] at this
 exact FC.mp this
def Adw (K:KKf)(ns:IH):Sp:=fun vs H Q E=>match vs with
 |[.ref L,.str x,.str y]=>∃(gs:IQ) (nm:IG),(Bk K H L gs∧(∀g∈gs,g.a∈nm∧g.b∈nm)∧nm.length≤60∧∀x∈nm,PyData.strOk x=true)∧(x∈A7 gs∧y∈A7 gs∧K0 gs x y)∧∀p H',Aj H H'→H p=none→y∈(wfs gs x).map (·.1)→H' p=some (.lst ((Bs (wfs gs x) y).map V.str))→Q (.ref p) H'
 |_=>False
theorem Ail {vs:IP}{F:IC→Str→Str→Prop}(h:match vs with|[.ref x0,.str x1,.str x2]=>F x0 x1 x2|_=>False):∃x0 x1 x2,vs=[.ref x0,.str x1,.str x2]∧F x0 x1 x2:=by
 match vs,h with
 |[.ref x0,.str x1,.str x2],h=>exact ⟨_,_,_,rfl,h⟩
theorem Aj0:Al ["games","one","other"] ["games","one","other"] (Ad Ae7):=D9
include er in
theorem Akw (d:Bt K mg "way" Ae7 ["games","one","other"])  (c_ways_from:Bc P w K mg base "ways_from" ["games","name"] 4 (G8 K ns))(c_check_player:Bc P w K mg base "check_player" ["games","name"] 2 (Ey K ns)):Bc P w K mg base "way" ["games","one","other"] 5 (Adw K ns):=by
 refine d.cal (k:=4) Aj0 (fun vs H Q E hq0=>?_) (fun f cdv A outer s H vs Q E hr hq0=>?_)
 ·obtain ⟨_,_,_,rfl,_⟩:=Ail hq0
  rfl
 ·obtain ⟨L,x,y,rfl,⟨gs,nm,⟨hB,hm,l60,sok⟩,⟨hx,hy,hr'⟩,q⟩⟩:=Ail hq0
  refine ⟨_,(@Aa _ _ _ _ _ (@C3 _ _ _ _ (@Af _ _ _ _ _ _ _ _ _ _ _ c_check_player hr (@Ai _ _ _ _ _ (dv 0) (@Bf _ _ _ (dv 1) (by rfl)) (by rfl)) (by trivial)) (by rfl)) (@Aa _ _ _ _ _ (@C3 _ _ _ _ (@Af _ _ _ _ _ _ _ _ _ _ _ c_check_player hr (@Ai _ _ _ _ _ (dv 0) (@Bf _ _ _ (dv 2) (by rfl)) (by rfl)) (by trivial)) (by rfl)) (@A3 _ _ _ _ (@Adp _ _ _ _ _ _ _ (@u1 _ _ hr.units) (@Af _ _ _ _ _ _ _ _ _ _ _ c_ways_from hr (@Ai _ _ _ _ _ (dv 0) (@Bf _ _ _ (dv 1) (by rfl)) (by rfl)) (by trivial)) (dv 2) ⟨rfl,rfl,rfl,rfl⟩)))),?_⟩
  have p64:(A7 gs).length<64:=BO (AI (Hq hm) l60) (by decide)
  refine ⟨gs,⟨hB,p64⟩,hx,fun H1 s1=>⟨gs,⟨hB.up s1,p64⟩,hy,fun H2 s2=>?_⟩⟩
  have s12:=s1.trans s2
  refine ⟨gs,nm,⟨hB.up s12,hm,l60,K9 hm hx,sok⟩,fun D kvs H3 s3 d3 e3 wv ky nd mem=>?_⟩
  have s:=s12.trans s3
  obtain ⟨v,hv⟩:=Ae5 ky ((mem y).mpr hr')
  obtain ⟨p,rfl,h1,h2⟩:=Aiz wv hv
  have g:=Fy.k (k:=Sum.inr y) e3
  rw [hv] at g
  exact ⟨D,rfl,.inl ⟨_,.inl e3⟩,_,g,q p H3 s (A9 s12 h2) ((mem y).mpr hr') h1⟩
noncomputable def K2 (gs:IQ)(n:Str):IG:=Oc ((n::A7 gs).filter fun x=>@decide (K0 gs n x) (Classical.propDecidable _))
theorem Ob {gs:IQ}{n x:Str}(h:K0 gs n x):x=n∨x∈A7 gs:=by
 cases h with
 |here=>exact .inl rfl
 |step h t=>
  obtain ⟨g,hg,t⟩:=Ff.mp t
  refine .inr (B7.mpr ⟨g,hg,?_⟩)
  rcases t with ⟨_,_,t⟩|⟨_,_,_,t⟩
  ·exact .inr t
  ·exact .inl t
theorem B3 {gs:IQ}{n x:Str}:x∈K2 gs n↔K0 gs n x:=by
 unfold K2
 rw [Eg,CF]
 constructor
 ·intro h
  exact @AU _ (Classical.propDecidable _) h.2
 ·intro h
  refine ⟨?_,@AR _ (Classical.propDecidable _) h⟩
  rcases Ob h with e|e
  ·rw [e]
   exact AO ..
  ·exact AQ _ e
theorem Jl (gs:IQ)(n:Str):Inc (K2 gs n):=C2 _
theorem Ae0 {gs:IQ}{n:Str}{fs:IG}(inc:Inc fs)(mem:∀x,x∈fs↔K0 gs n x):fs=K2 gs n:=F6 inc (Jl gs n) fun x=>(mem x).trans B3.symm
noncomputable def Cu (gs:IQ)(ps:List (IG))(n:Str):List (IG):=if ps.any (fun p=>decide (n∈p)) then ps else ps++[K2 gs n]
noncomputable def Gj (gs:IQ)(i:Nat):List (IG):=((A7 gs).take i).foldl (Cu gs) []
theorem Ou {gs:IQ}{i:Nat}{n:Str}(h:(A7 gs)[i]? =some n):Gj gs (i+1)=Cu gs (Gj gs i) n:=by
 unfold Gj
 rw [BY,h,HD]
 rfl
theorem Aax (gs:IQ)(ps:List (IG))(n:Str):(Cu gs ps n).length≤ps.length+1:=by
 unfold Cu
 split
 ·omega
 ·rw [AG]
  exact AF _
theorem K5 (gs:IQ):∀i,(Gj gs i).length≤i
 |0=>AF _
 | i+1=>by
  cases h:(A7 gs)[i]? with
  | none=>
   have e:Gj gs (i+1)=Gj gs i:=by
    unfold Gj
    rw [BY,h]
    exact congrArg (fun l=>List.foldl (Cu gs) [] l) (CJ _)
   rw [e]
   exact Nat.le_succ_of_le (K5 gs i)
  |some n=>
   rw [Ou h]
   exact AI (Aax gs _ n) (Nat.succ_le_succ (K5 gs i))
def Prt (H0 H:Hp)(D:IC)(v:V)(p:IG):Prop:=∃d,v=.ref d∧H0 d=none∧d≠D∧H d=some (.lst (p.map V.str))
theorem Ot {β:Type}{f:β→Bool}:∀{ms:List β} {ys:IP},Az (fun m y=>y=V.bl (f m)) ms ys→ys=(ms.map f).map V.bl
 |_,_,.nil=>rfl
 |_,_,.cons h t=>by rw [h,Ot t];rfl
def R3 (K:KKf)(ns:IH):Sp:=fun vs H Q _=>match vs with
 |[.ref L]=>∃(gs:IQ) (nm:IG),(Bk K H L gs∧(∀g∈gs,g.a∈nm∧g.b∈nm)∧nm.length≤60∧∀x∈nm,PyData.strOk x=true)∧∀D vs H',Aj H H'→H D=none→H' D=some (.lst vs)→Az (Prt H H' D) vs (Gj gs (A7 gs).length)→Q (.ref D) H'
 |_=>False
theorem Mp:Al ["games","parts","name"] ["games"] (Ad Oi):=D9
include er n_any in
theorem Abt (d:Bt K mg "joined" Oi ["games"])  (c_players:Bc P w K mg base "players" ["games"] 1 (Fz K ns))(c_above:Bc P w K mg base "above" ["games","name"] 5 (Pk K ns)):Bc P w K mg base "joined" ["games"] 6 (R3 K ns):=by
 refine d.cal (k:=5) Mp (fun vs H Q E hq0=>?_) (fun f cdv A outer s H vs Q E hr hq0=>?_)
 ·obtain ⟨_,rfl,_⟩:=Kv hq0
  rfl
 ·obtain ⟨L,rfl,⟨gs,nm,⟨hB,hm,l60,sok⟩,q⟩⟩:=Kv hq0
  refine ⟨_,(@Aa _ _ _ _ _ (@Ak _ _ _ (1) _ _ _ Mp.nd (@G4 _ _ _ _ Ag) (by trivial)) (@Aa _ _ _ _ _ (@C4 _ _ _ _ _ _ _ _ CB rfl (@A4 _ _ _ _ (@Af _ _ _ _ _ _ _ _ _ _ _ c_players hr (@Bf _ _ _ (dv 0) (by rfl)) (by trivial))) (@Ar _ _ (2) _ Mp.nd rfl (by trivial) (by trivial)) (@An _ _ _ (@Bl _ _ _ _ _ _ _ _ (@Bw _ _ _ _ (@Ci _ _ _ (@Av _ _ _ _ _ _ _ _ _ (@Anz _ rfl) n_any (by decide +kernel) (@Bf _ _ _ (@Cc _ _ _ _ _ _ _ _ _ _ ["part"] ["name"] [2] rfl (@A4 _ _ _ _ (dv 1)) (fun C s H fp=>(@Ar _ _ (0) _ (show List.Nodup [("part":Str),("name":Str)] by decide +kernel) rfl (by trivial) (by trivial))) (fun C s H fp=>(@Bh _ _ _ _ _ _ _ _ (show Dh _ _ (Su K) from Q1) (dv 1) (dv 0) (by with_unfolding_all rfl))) rfl rfl (by decide +kernel) (by decide +kernel) (by rfl) ⟨rfl,⟨⟩⟩ ⟨⟨rfl,rfl,rfl,rfl⟩,⟨⟩⟩ (by intro _;rfl)) (by rfl)) (by trivial)) (by intro _;rfl))) (@An _ _ _ (@C3 _ _ _ _ (@Em _ _ _ _ _ _ _ _ _ _ _ _ CQ PySem.F.slot_list_append PySem.F.type_list_append Cy (dv 1) (@Ab _ _ _ _ _ (@Af _ _ _ _ _ _ _ _ _ _ _ c_above hr (@Ai _ _ _ _ _ (dv 0) (@Bf _ _ _ (dv 2) (by rfl)) (by rfl)) (by trivial)) Ag (by rfl)) (by rfl) (by rfl) (by rfl) (by rfl) (by rfl)) (by rfl))) Ao)) (by intro _;rfl)) (@A3 _ _ _ _ (dv 1)))),?_⟩
  have pl60:(A7 gs).length≤60:=AI (Hq hm) l60
  refine ⟨by decide,fun D hD=>?_⟩
  have s0:Aj H (upd H D (.lst [])):=Ah hD
  refine ⟨gs,⟨hB.up s0,by omega⟩,fun P H1 s1 f1 e1=>?_⟩
  have eD1:=s1 _ _ (Ac:upd H D (.lst []) D=some (.lst []))
  have neDP:D≠P:=fun z=>by
   rw [←z,Ac] at f1
   cases f1
  refine ⟨P,rfl,⟨_,Au.of e1⟩,C6 (K:=K) (a:=P) (xs:=(A7 gs).map V.str) (fun i σ Hx=>∃(vs:IP) (o2:Option V),σ=[some (.ref L),some (.ref D),o2]∧Aj H Hx∧Hx P=some (.lst ((A7 gs).map V.str))∧Hx D=some (.lst vs)∧Az (Prt H Hx D) vs (Gj gs i))
   ⟨[],_,rfl,s0.trans s1,e1,eD1,.nil⟩ (fun i σ Hx _ ⟨_,_,_,_,e,_⟩=>Au.of e) ?_ ?_⟩
  ·rintro i v σ Hx hv ⟨vs,o2,rfl,s2,eP,eD,al⟩
   rw [BE] at hv
   obtain ⟨n,hn,rfl⟩:∃x,(A7 gs)[i]? =some x∧V.str x=v:=by
    cases hh:(A7 gs)[i]? with
    |none=>rw [hh] at hv;cases hv
    |some x=>rw [hh] at hv;exact ⟨x,rfl,Option.some.inj hv⟩
   have hi:i<(A7 gs).length:=(AY.mp hn).1
   have hp:n∈A7 gs:=AN hn
   have lv:vs.length≤60:=by
    rw [al.len]
    exact AI (K5 gs i) (by omega)
   refine ⟨D,rfl,⟨_,Au.of eD⟩,Ce (fun _ v p=>Prt H Hx D v p) (fun _ _ _ _ _ h=>h) (fun _ p y=>y=V.bl (decide (n∈p))) (fun _ _ _ _ _ h=>h) (by omega) (Au.of eD) al ?_ ?_⟩
   ·intro v p H2 hM _ s3 P hP
    obtain ⟨d,rfl,_,_,ed⟩:=hM
    refine ⟨rfl,_,.inl (Au.of (s3 _ _ ed)),rfl,Cm _,?_⟩
    rw [Ed]
    exact hP _ _ (Aj.refl _) rfl
   intro D2 H2 ys s3 _ e2 a2
   have ey:=Ot a2
   have hany:((Gj gs i).map fun p=>decide (n∈p)).any id=(Gj gs i).any fun p=>decide (n∈p):=by rw [GE];rfl
   refine ⟨(Gj gs i).map fun p=>decide (n∈p),Au.of (by rw [e2,ey]),?_⟩
   rw [hany]
   refine ⟨fun h=>?_,fun h=>?_⟩
   ·have h:((Gj gs i).any fun p=>decide (n∈p))=false:=by rw [Bool.not_eq_true'] at h;exact h
    have s23:=s2.trans s3
    refine ⟨.inl ⟨rfl,_,Au.of (s3 _ _ eD)⟩,gs,nm,⟨hB.up s23,hm,l60,sok⟩,hp,fun Fa fs H3 s4 f3 e3 inc mem=>?_⟩
    have ne:Fa≠D:=fun z=>by
     rw [z,s3 _ _ eD] at f3
     cases f3
    have neP:P≠D:=DI neDP
    have eD3:=s4 _ _ (s3 _ _ eD)
    refine ⟨D,vs,_,rfl,rfl,eD3,BO lv (by decide),vs++[.ref Fa],_,rfl,B6 (s23.trans s4) hD,by rw [Am neP];exact s4 _ _ (s3 _ _ eP),Ac,?_⟩
    rw [Ou hn]
    unfold Cu
    rw [h]
    refine Az.snoc ⟨Fa,rfl,A9 s23 f3,ne,?_⟩ (al.imp fun v p r=>?_)
    ·obtain ⟨d,r1,r2,r3,r4⟩:=r
     exact ⟨d,r1,r2,r3,by rw [Am r3];exact s4 _ _ (s3 _ _ r4)⟩
    ·rw [Am ne,e3,Ae0 inc mem]
   ·have h:((Gj gs i).any fun p=>decide (n∈p))=true:=by rw [Bool.not_eq_false'] at h;exact h
    refine ⟨vs,_,rfl,s2.trans s3,s3 _ _ eP,s3 _ _ eD,?_⟩
    rw [Ou hn]
    unfold Cu
    rw [h]
    refine al.imp fun v p r=>?_
    obtain ⟨d,r1,r2,r3,r4⟩:=r
    exact ⟨d,r1,r2,r3,s3 _ _ r4⟩
  ·rintro σ Hx ⟨vs,o2,rfl,s2,eP,eD,al⟩
   rw [AE] at al
   exact q D vs Hx s2 hD eD al
def Nl (gs:IQ)(n:Str):Prop:=∃x∈(tld n gs).map (·.b),¬K0 gs n x
inductive Vd (gs:IQ)(H H':Hp)(T:IC):Prop where
 |none (i:Nat) (n:Str) (F:IC):(A7 gs)[i]? =some n→Nl gs n→(∀j m,j<i→(A7 gs)[j]? =some m→¬Nl gs m)→H F=none→H' F=some (.lst ((K2 gs n).map V.str))→H' T=some (.tup [.str (Str.ofString "none"),.ref F])→Vd gs H H' T
 |one (p:IG) (F:IC):(∀m∈A7 gs,¬Nl gs m)→Gj gs (A7 gs).length=[p]→H F=none→H' F=some (.lst (p.map V.str))→H' T=some (.tup [.str (Str.ofString "one"),.ref F])→Vd gs H H' T
 |loose (D:IC) (vs:IP):(∀m∈A7 gs,¬Nl gs m)→(Gj gs (A7 gs).length).length≠1→H D=none→H' D=some (.lst vs)→Az (Prt H H' D) vs (Gj gs (A7 gs).length)→H' T=some (.tup [.str (Str.ofString "loose"),.ref D])→Vd gs H H' T
def Kl (K:KKf)(ns:IH):Sp:=fun vs H Q _=>match vs with
 |[.ref L]=>∃(gs:IQ) (nm:IG),(Bk K H L gs∧(∀g∈gs,g.a∈nm∧g.b∈nm)∧nm.length≤60∧∀x∈nm,PyData.strOk x=true)∧∀T H',Aj H H'→Vd gs H H' T→Q (.ref T) H'
 |_=>False
theorem Hi:Al ["games","name","those","parts"] ["games"] (Ad L5):=D9
include er n_len n_all in
theorem Xn (d:Bt K mg "verdict" L5 ["games"])  (c_joined:Bc P w K mg base "joined" ["games"] 6 (R3 K ns))(c_players:Bc P w K mg base "players" ["games"] 1 (Fz K ns))(c_told_by:Bc P w K mg base "told_by" ["games","name"] 2 (Ka K ns))(c_above:Bc P w K mg base "above" ["games","name"] 5 (Pk K ns)):Bc P w K mg base "verdict" ["games"] 7 (Kl K ns):=by
 refine d.cal (k:=6) Hi (fun vs H Q E hq0=>?_) (fun f cdv A outer s H vs Q E hr hq0=>?_)
 ·obtain ⟨_,rfl,_⟩:=Kv hq0
  rfl
 ·obtain ⟨L,rfl,⟨gs,nm,⟨hB,hm,l60,sok⟩,q⟩⟩:=Kv hq0
  refine ⟨_,(@Aa _ _ _ _ _ (@C4 _ _ _ _ _ _ _ _ CB rfl (@A4 _ _ _ _ (@Af _ _ _ _ _ _ _ _ _ _ _ c_players hr (@Bf _ _ _ (dv 0) (by rfl)) (by trivial))) (@Ar _ _ (1) _ Hi.nd rfl (by trivial) (by trivial)) (@Aa _ _ _ _ _ (@Ak _ _ _ (2) _ _ _ Hi.nd (@Af _ _ _ _ _ _ _ _ _ _ _ c_above hr (@Ai _ _ _ _ _ (dv 0) (@Bf _ _ _ (dv 1) (by rfl)) (by rfl)) (by trivial)) (by trivial)) (@An _ _ _ (@Bl _ _ _ _ _ _ _ _ (@Bw _ _ _ _ (@Ci _ _ _ (@Av _ _ _ _ _ _ _ _ _ (@Vc _ rfl) n_all (by decide +kernel) (@Bf _ _ _ (@Cc _ _ _ _ _ _ _ _ _ _ ["played"] ["those"] [2] rfl (@A4 _ _ _ _ (@Af _ _ _ _ _ _ _ _ _ _ _ c_told_by hr (@Ai _ _ _ _ _ (dv 0) (@Bf _ _ _ (dv 1) (by rfl)) (by rfl)) (by trivial))) (fun C s H fp=>(@Ar _ _ (0) _ (show List.Nodup [("played":Str),("those":Str)] by decide +kernel) rfl (by trivial) (by trivial))) (fun C s H fp=>(@Bh _ _ _ _ _ _ _ _ (show Dh _ _ (Su K) from Q1) (@Bx _ _ _ _ _ _ _ (dv 0)) (dv 1) (by with_unfolding_all rfl))) rfl rfl (by decide +kernel) (by decide +kernel) (by rfl) ⟨rfl,⟨⟩⟩ ⟨⟨rfl,rfl,rfl,rfl⟩,⟨⟩⟩ (by intro _;rfl)) (by rfl)) (by trivial)) (by intro _;rfl))) (@A3 _ _ _ _ (@Dx _ _ _ _ _ (@Ab _ _ _ _ _ Ax (@Ab _ _ _ _ _ (dv 2) Ag (by rfl)) (by rfl)))) Ao))) (by intro _;rfl)) (@Aa _ _ _ _ _ (@Ak _ _ _ (3) _ _ _ Hi.nd (@Af _ _ _ _ _ _ _ _ _ _ _ c_joined hr (@Bf _ _ _ (dv 0) (by rfl)) (by trivial)) (by trivial)) (@Aa _ _ _ _ _ (@Bl _ _ _ _ _ _ _ _ (@A0 _ _ _ _ _ _ _ _ Ee (@Av _ _ _ _ _ _ _ _ _ D6 n_len (by decide +kernel) (@Bf _ _ _ (dv 3) (by rfl)) (by trivial)) Ae (Aq _)) (@A3 _ _ _ _ (@Dx _ _ _ _ _ (@Ab _ _ _ _ _ Ax (@Ab _ _ _ _ _ (@Gv _ _ _ _ _ _ _ (dv 3)) Ag (by rfl)) (by rfl)))) Ao) (@A3 _ _ _ _ (@Dx _ _ _ _ _ (@Ab _ _ _ _ _ Ax (@Ab _ _ _ _ _ (dv 3) Ag (by rfl)) (by rfl))))))),?_⟩
  have pl60:(A7 gs).length≤60:=AI (Hq hm) l60
  refine ⟨gs,⟨hB,by omega⟩,fun P H1 s1 f1 e1=>?_⟩
  refine ⟨P,rfl,⟨_,Au.of e1⟩,C6 (K:=K) (a:=P) (xs:=(A7 gs).map V.str) (fun i σ Hx=>∃(o1 o2:Option V),σ=[some (.ref L),o1,o2,none]∧Aj H Hx∧Hx P=some (.lst ((A7 gs).map V.str))∧∀j m,j<i→(A7 gs)[j]? =some m→¬Nl gs m)
   ⟨_,_,rfl,s1,e1,fun j m hj=>absurd hj (Nat.not_lt_zero _)⟩ (fun i σ Hx _ ⟨_,_,_,_,e,_⟩=>Au.of e) ?_ ?_⟩
  ·rintro i v σ Hx hv ⟨o1,o2,rfl,s2,eP,good⟩
   rw [BE] at hv
   obtain ⟨n,hn,rfl⟩:∃x,(A7 gs)[i]? =some x∧V.str x=v:=by
    cases hh:(A7 gs)[i]? with
    |none=>rw [hh] at hv;cases hv
    |some x=>rw [hh] at hv;exact ⟨x,rfl,Option.some.inj hv⟩
   have hp:n∈A7 gs:=AN hn
   refine ⟨gs,nm,⟨hB.up s2,hm,l60,sok⟩,hp,fun Fa fs H3 s3 f3 e3 inc mem=>?_⟩
   have s23:=s2.trans s3
   refine ⟨gs,hB.up s23,fun D1 H4 s4 d4 ⟨vs,hx4,hm4,hl4⟩=>?_⟩
   have e4:=s4 _ _ e3
   refine ⟨D1,rfl,⟨_,hx4⟩,Ce Bp Bm (fun _ g y=>y=V.bl (decide (g.b∈fs))) (fun _ _ _ _ _ h=>h) (by rw [hm4.len];omega) hx4 hm4 ?_ ?_⟩
   ·intro v g H5 hM _ s5 P hP
    obtain ⟨p,rfl,e⟩:=hM
    refine ⟨rfl,_,e,_,.inl (Au.of (s5 _ _ e4)),rfl,Cm _,?_⟩
    rw [Ed]
    exact hP _ _ (Aj.refl _) rfl
   intro D2 H5 ys s5 _ e5 a5
   have ey:=Ot a5
   have hall:(((tld n gs).map fun g=>decide (g.b∈fs)).all id)=true↔¬Nl gs n:=by
    rw [HZ,CI]
    constructor
    ·rintro h ⟨x,hx,hr⟩
     obtain ⟨g,hg,rfl⟩:=BG.mp hx
     exact hr ((mem _).mp (AU (h g hg)))
    ·intro h g hg
     refine AR (DA fun hno=>h ⟨g.b,BG.mpr ⟨g,hg,rfl⟩,fun hr=>hno ((mem _).mpr hr)⟩)
   refine ⟨(tld n gs).map fun g=>decide (g.b∈fs),Au.of (by rw [e5,ey]),⟨fun h=>?_,fun h=>?_⟩⟩
   ·rw [Bool.not_eq_true'] at h
    have hbad:Nl gs n:=DA fun hno=>by
     rw [hall.mpr hno] at h
     cases h
    intro T H6 s6 e6
    have s36:=s4.trans (s5.trans s6)
    refine q T H6 (s23.trans s36) (.none i n Fa hn hbad good (A9 s2 f3) ?_ e6)
    rw [s36 _ _ e3,Ae0 inc mem]
   ·rw [Bool.not_eq_false'] at h
    have hok:=hall.mp h
    refine ⟨_,_,rfl,s23.trans (s4.trans s5),s5 _ _ (s4 _ _ (s3 _ _ eP)),fun j m hj hm=>?_⟩
    by_cases z:j=i
    ·subst z
     rw [hn] at hm
     cases hm
     exact hok
    ·exact good j m (by omega) hm
  ·rintro σ Hx ⟨o1,o2,rfl,s2,eP,good⟩
   rw [AE] at good
   have good:∀m∈A7 gs,¬Nl gs m:=fun m h=>by
    obtain ⟨j,hj,rfl⟩:=DL h
    exact good j _ hj (AD hj)
   refine ⟨gs,nm,⟨hB.up s2,hm,l60,sok⟩,fun D vs H3 s3 d3 e3 al=>?_⟩
   have al':Az (Prt H H3 D) vs (Gj gs (A7 gs).length):=al.imp fun v p r=>by
    obtain ⟨d,r1,r2,r3,r4⟩:=r
    exact ⟨d,r1,A9 s2 r2,r3,r4⟩
   have ll:=al.len
   refine ⟨_,.inl (Au.of e3),⟨fun h=>?_,fun h=>?_⟩⟩
   ·have h:vs.length=1:=by
     have:=AU h
     omega
    match vs,h,al' with
    | [v],_,al1=>
     generalize hj:Gj gs (A7 gs).length=ps at al1
     cases al1 with
     |cons r t=>
      cases t
      obtain ⟨d,rfl,r2,r3,r4⟩:=r
      refine ⟨_,_,Au.of e3,rfl,fun T H4 s4 e4=>q T H4 ((s2.trans s3).trans s4) (.one _ d good hj r2 (s4 _ _ r4) e4)⟩
   ·have h:vs.length≠1:=by
     have:=CA h
     omega
    intro T H4 s4 e4
    refine q T H4 ((s2.trans s3).trans s4) (.loose D vs good (by omega) (A9 s2 d3) (s4 _ _ e3) (al'.imp fun v p r=>?_) e4)
    obtain ⟨d,r1,r2,r3,r4⟩:=r
    exact ⟨d,r1,r2,r3,s4 _ _ r4⟩
def Fc (K:KKf)(ns:IH):Sp:=fun vs H Q _=>match vs with
 |[.ref a,.int k]=>Au K H a (ns.map V.int)∧0≤k∧∀c:Int,Q (.int c) H
 |_=>False
theorem Tf:Al ["_law_script","_law_k"] ["_law_script","_law_k"] (Ad Jb):=D9
include er n_len in
theorem Uc (d:Bt K mg "_law_cell_at" Jb ["_law_script","_law_k"]):Bc P w K mg base "_law_cell_at" ["_law_script","_law_k"] 1 (Fc K ns):=by
 refine d.cal (k:=0) Tf (fun vs H Q E hq0=>?_) (fun f cdv A outer s H vs Q E hr hq0=>?_)
 ·obtain ⟨_,_,rfl,_⟩:=Abs hq0
  rfl
 ·obtain ⟨a,k,rfl,⟨hS,k0,q⟩⟩:=Abs hq0
  refine ⟨_,(@Aa _ _ _ _ _ (@Bl _ _ _ _ _ _ _ _ (@A0 _ _ _ _ _ _ _ _ Of (dv 1) (@Av _ _ _ _ _ _ _ _ _ D6 n_len (by decide +kernel) (@Bf _ _ _ (dv 0) (by rfl)) (by trivial)) (Aq _)) (@A3 _ _ _ _ (@Co _ _ _ _ _ _ _ Dd (dv 0) (dv 1) (fun _ _=>rfl))) Ao) (@A3 _ _ _ _ Ae)),?_⟩
  refine ⟨_,.inl hS,⟨fun h=>?_,fun _=>q 0⟩⟩
  have h:=AU h
  rw [AE] at h
  obtain ⟨j,rfl⟩:=DJ k0
  have hj:j<ns.length:=by omega
  refine ⟨_,.int ns[j],hS,A1 ?_,q _⟩
  rw [BE,AD hj]
  rfl
def l12:IM:=[98,113,99,120,100,108,101,110,104,117,115,118]
def b8:IM:=[103,109,116,97,122,107,102,119]
theorem Ags {n:Int}(h0:0≤n % 12)(h1:n % 12<12):∃c,Na (Str.cps "bqcxdlenhusv").toList (n % 12)=some c∧l12[(n % 12).toNat]? =some c:=by
 obtain ⟨j,hj⟩:=DJ h0
 rw [hj] at h1 ⊢
 have e:(Str.cps "bqcxdlenhusv").toList=l12:=by decide +kernel
 have hl:j<l12.length:=by show j<12;omega
 exact ⟨l12[j],by rw [e];exact A1 (AD hl),by rw [DK,AD hl]⟩
def n8 (n p c:Nat):IM:=(b8.take n).take p++[c]++(b8.take n).drop (p+1)
theorem Ajv {n p c d:Nat}(h:n8 n p c=n8 n p d):c=d:=by
 unfold n8 at h
 rw [BU,BU] at h
 have h:=HB h
 simpa using h
theorem Akj {n p c:Nat}(h:p<n)(h':n≤8):(n8 n p c).length=n:=by
 have:b8.length=8:=rfl
 unfold n8
 rw [AG,AG,CH,CH,Eh,CH,BR]
 omega
theorem Ajt {n p c:Nat}(hc:c∈l12):∀e∈n8 n p c,e∈b8∨e∈l12:=by
 intro e he
 unfold n8 at he
 rcases BH.mp he with he|he
 ·rcases BH.mp he with he|he
  ·exact .inl (EZ (EZ he))
  ·exact .inr (AH.mp he▸hc)
 ·exact .inl (EZ (List.mem_of_mem_drop he))
theorem Akr {n p c:Nat}(hc:c∈l12):∀e∈n8 n p c,97≤e∧e<123:=fun e he=>by
 have hb:∀x∈b8,97≤x∧x<123:=by decide
 have hl:∀x∈l12,97≤x∧x<123:=by decide
 exact (Ajt hc e he).elim (hb e) (hl e)
structure NL (nm:IG):Prop where
 nd:nm.Nodup
 ok:∀x∈nm,Nm x
def Pm (K:KKf)(ns:IH):Sp:=fun vs H Q _=>match vs with
 |[.int c,.int m]=>(0≤m∧m≤9)∧∀L (nm:IG) H',Aj H H'→H L=none→H' L=some (.lst (nm.map V.str))→(nm.length:Int)=m→NL nm→Q (.ref L) H'
 |_=>False
theorem Dp:Al ["_law_cell","_law_many","_law_size","_law_base","_law_at","_law_names_here","_law_k","_law_letter"] ["_law_cell","_law_many"] (Ad L0):=D9
include er n_range in
theorem X2 (d:Bt K mg "_law_names" L0 ["_law_cell","_law_many"]):Bc P w K mg base "_law_names" ["_law_cell","_law_many"] 1 (Pm K ns):=by
 refine d.cal (k:=0) Dp (fun vs H Q E hq0=>?_) (fun f cdv A outer s H vs Q E hr hq0=>?_)
 ·obtain ⟨_,_,rfl,_⟩:=Aau hq0
  rfl
 ·obtain ⟨c,m,rfl,⟨⟨m0,m8⟩,q⟩⟩:=Aau hq0
  refine ⟨_,(@Aa _ _ _ _ _ (@Ak _ _ _ (2) _ _ _ Dp.nd (@Ap _ _ _ _ _ _ _ _ Dy Ae (@Ap _ _ _ _ _ _ _ _ Fo (dv 0) Ae)) (by trivial)) (@Aa _ _ _ _ _ (@Ak _ _ _ (3) _ _ _ Dp.nd (@C7 _ _ _ _ _ _ _ _ _ _ Ul Ax Jj (Cj (dv 2))) (by trivial)) (@Aa _ _ _ _ _ (@Ak _ _ _ (4) _ _ _ Dp.nd (@Ap _ _ _ _ _ _ _ _ Fo (@Ap _ _ _ _ _ _ _ _ Ov (dv 0) Ae) (dv 2)) (by trivial)) (@Aa _ _ _ _ _ (@Ak _ _ _ (5) _ _ _ Dp.nd (@G4 _ _ _ _ Ag) (by trivial)) (@Aa _ _ _ _ _ (@C4 _ _ _ _ _ _ _ _ CB rfl (@Fj _ _ _ _ _ _ (by rfl) n_range (@Ab _ _ _ _ _ (dv 1) Ag (by rfl)) (by rfl)) (@Ar _ _ (6) _ Dp.nd rfl (by trivial) (by trivial)) (@Aa _ _ _ _ _ (@Ak _ _ _ (7) _ _ _ Dp.nd (@Co _ _ _ _ _ _ _ Ai4 Ax (@Ap _ _ _ _ _ _ _ _ Fo (@Ap _ _ _ _ _ _ _ _ Dy (@Ap _ _ _ _ _ _ _ _ Ov (dv 0) Ae) (@Ap _ _ _ _ _ _ _ _ Eb Ae (dv 6))) Ae) (fun _ _=>rfl)) (by trivial)) (@An _ _ _ (@C3 _ _ _ _ (@Em _ _ _ _ _ _ _ _ _ _ _ _ CQ PySem.F.slot_list_append PySem.F.type_list_append Cy (dv 5) (@Ab _ _ _ _ _ (@Ap _ _ _ _ _ _ _ _ Im (@Ap _ _ _ _ _ _ _ _ Im (@C7 _ _ _ _ _ _ _ _ _ _ Ul (dv 3) Jj (Cj (dv 4))) (dv 7)) (@C7 _ _ _ _ _ _ _ _ _ _ Ul (dv 3) (Cj (Ap Dy (dv 4) Ae)) Jj)) Ag (by rfl)) (by rfl) (by rfl) (by rfl) (by rfl) (by rfl)) (by rfl)))) (by intro _;rfl)) (@A3 _ _ _ _ (dv 5))))))),?_⟩
  have d8:(0:Int)<8:=by decide
  have a0:=DG c (show (8:Int)≠0 by decide)
  have a1:=Int.emod_lt_of_pos c d8
  obtain ⟨n,hn⟩:∃n:Nat,c % 8=n:=⟨(c % 8).toNat,by omega⟩
  have hn8:n<8:=by omega
  have lb:(Str.ofString "gmtazkfw").length=8:=by decide +kernel
  have cb:co (Str.ofString "gmtazkfw")=b8:=by decide +kernel
  refine ⟨d8,_,rfl,by rw [lb];decide,⟨d8,Ca rfl⟩,by omega,by decide,fun D hD=>?_⟩
  have p0:=DG (c / 8) (show 1+c % 8≠0 by omega)
  have p1:=Int.emod_lt_of_pos (c / 8) (show 0<1+c % 8 by omega)
  obtain ⟨p,hp⟩:∃p:Nat,c / 8 % (1+c % 8)=p:=⟨(c / 8 % (1+c % 8)).toNat,by omega⟩
  have hp1:p<n+1:=by omega
  have hsz:(1:Int)+c % 8=((n+1:Nat):Int):=by omega
  have cB:co (Txt.slice (Str.ofString "gmtazkfw") none (some (1+c % 8)))=b8.take (n+1):=by
   rw [hsz,Aiu (by rw [lb];omega),cb]
  generalize hB:Txt.slice (Str.ofString "gmtazkfw") none (some (1+c % 8))=B at cB
  have lB:B.length=n+1:=by
   rw [←A2,cB,CH]
   show min (n+1) 8=n+1
   omega
  have zB:B.length≤sizeLine:=by rw [lB];exact AI (show n+1≤8 by omega) (by decide)
  refine ⟨m,rfl,by omega,by omega,Fm (lo:=0) (n:=m.toNat) (fun i σ H'=>∃(nm:IG) (o1 o2:Option V),σ=[some (.int c),some (.int m),some (.int (1+c % 8)),some (.str B),some (.int (c / 8 % (1+c % 8))),some (.ref D),o1,o2]∧H'=upd H D (.lst (nm.map V.str))∧nm.length=i∧∀(j:Nat) x,nm[j]? =some x→∃e,co x=n8 (n+1) p e∧l12[((c / 64+5*(j:Int)) % 12).toNat]? =some e)
   ⟨[],none,none,by rw [←hB];rfl,rfl,rfl,fun j x h=>by simp at h⟩ ?_ ?_⟩
  ·rintro i σ H' hi ⟨nm,o1,o2,rfl,rfl,hl,hall⟩
   have d12:(0:Int)<12:=by decide
   have w0:=DG (c / 64+5*(0+(i:Int))) (show (12:Int)≠0 by decide)
   have w1:=Int.emod_lt_of_pos (c / 64+5*(0+(i:Int))) d12
   obtain ⟨e,he,he'⟩:=Ags w0 w1
   refine ⟨⟨by decide,Ca rfl⟩,.inr (.inl ⟨by decide,by decide⟩),d12,e,by decide +kernel,he,.inl ⟨rfl,_,Au.of Ac⟩,?_⟩
   have c1:co (Txt.slice B none (some (c / 8 % (1+c % 8))))=(b8.take (n+1)).take p:=by rw [hp,Aiu (by omega),cB]
   have c2:co (Txt.slice B (some (c / 8 % (1+c % 8)+1)) none)=(b8.take (n+1)).drop (p+1):=by
    rw [show c / 8 % (1+c % 8)+1=((p+1:Nat):Int) by omega,Ahu (by omega),cB]
   have bl:(b8.take (n+1)).length≤8:=List.length_take_le' _ _
   have z1:(Txt.slice B none (some (c / 8 % (1+c % 8)))).length≤8:=by
    rw [←A2,c1]
    exact AI (List.length_take_le' _ _) bl
   have z2:(Txt.slice B (some (c / 8 % (1+c % 8)+1)) none).length≤8:=by
    rw [←A2,c2,Eh]
    omega
   have z3:(⟨#[e]⟩:Str).length=1:=rfl
   refine ⟨_,rfl,zB,AI (Nat.add_le_add z1 (HR z3)) (by decide),_,rfl,zB,AI (Nat.add_le_add (by rw [Dk,z3];exact Nat.add_le_add_right z1 1) z2) (by decide),D,_,_,rfl,rfl,Ac,?_,nm++[Txt.slice B none (some (c / 8 % (1+c % 8)))++⟨#[e]⟩++Txt.slice B (some (c / 8 % (1+c % 8)+1)) none],_,_,rfl,?_,?_,fun j x hx=>?_⟩
   ·rw [AE,hl]
    exact AV (show i<9 by omega) (by decide)
   ·rw [Y4,BQ]
    rfl
   ·rw [AG,hl]
    rfl
   ·by_cases hj:j<nm.length
    ·rw [BZ hj] at hx
     exact hall j x hx
    ·have ej:j=i:=by
      have:=(AY.mp hx).1
      rw [AG,BR] at this
      omega
     subst ej
     rw [BP (by omega),hl,Nat.sub_self] at hx
     cases hx
     refine ⟨e,?_,by rw [Int.zero_add] at he';exact he'⟩
     rw [B8,B8,c1,c2]
     rfl
  ·rintro σ H' ⟨nm,o1,o2,rfl,rfl,hl,hall⟩
   refine q D nm _ (Ah hD) hD Ac (by omega) ⟨?_,fun x hx=>?_⟩
   ·refine List.pairwise_iff_getElem.mpr fun i j hi hj lt e=>?_
    obtain ⟨x,h1,h2⟩:=hall i _ (AD hi)
    obtain ⟨y,h3,h4⟩:=hall j _ (AD hj)
    rw [e,h3] at h1
    have exy:=Ajv h1
    subst exy
    have r0:=DG (c / 64) (show (12:Int)≠0 by decide)
    have r1:=Int.emod_lt_of_pos (c / 64) (show (0:Int)<12 by decide)
    obtain ⟨r,hr⟩:∃r:Nat,c / 64 % 12=r:=⟨(c / 64 % 12).toNat,by omega⟩
    have e1:((c / 64+5*(i:Int)) % 12).toNat=(r+5*i) % 12:=by omega
    have e2:((c / 64+5*(j:Int)) % 12).toNat=(r+5*j) % 12:=by omega
    rw [e1] at h2
    rw [e2] at h4
    have ap:∀r<12,∀i<9,∀j<9,l12[(r+5*i) % 12]? =l12[(r+5*j) % 12]?→i=j:=by decide +kernel
    have:=ap r (by omega) i (by omega) j (by omega) (h2.trans h4.symm)
    omega
   ·obtain ⟨j,hj,rfl⟩:=List.mem_iff_getElem.mp hx
    obtain ⟨e,h1,h2⟩:=hall j _ (AD hj)
    have hl:=Akj (c:=e) hp1 (by omega)
    exact ⟨by rw [h1,hl];omega,by rw [h1,hl];omega,by rw [h1];exact Akr (AN h2)⟩
def Anq:R2:=fun x y H Q=>match x,y with
 |.str a,.int n=>a.length≤100∧(n=0∧Q (.str Str.empty) H∨n=1∧Q (.str a) H)
 |_,_=>False
theorem Yb {X:Cx}:Dh X (binaryOp .Mult) Anq:=by
 intro pins s σ H x y v u Q I rx ry q
 match x,y,q with
 | .str a,.int n,⟨h3,q⟩=>
  obtain ⟨t,rfl⟩:=rx
  obtain ⟨t',rfl⟩:=ry
  rcases q with ⟨rfl,q⟩|⟨rfl,q⟩
  ·refine PySem.P.mul_str ?_ (fun _ _=>?_) (fun _ _=>?_) ?_
   ·rfl
   ·omega
   ·rw [show a.length*(0:Int).toNat=0 from Nat.mul_zero _]
    rfl
   ·rw [AZ (by decide)]
    exact ⟨BK _,.str _,H,I.tok _,⟨_,rfl⟩,q⟩
  ·refine PySem.P.mul_str ?_ (fun _ h=>?_) (fun _ h=>?_) ?_
   ·rfl
   ·exact absurd h (by simp)
   ·exact absurd h (by simp)
   ·rw [AW (by decide),AZ (by simp)]
    exact ⟨.str a,H,I,⟨_,rfl⟩,q⟩
theorem Ae8 {a d m:Int}(a0:0≤a)(a1:a<m)(d0:0<d)(d1:d<m):0≤(a+d) % m∧(a+d) % m<m∧(a+d) % m≠a:=by
 refine ⟨DG _ (by omega),Int.emod_lt_of_pos _ (by omega),?_⟩
 by_cases h:a+d<m
 ·rw [Int.emod_eq_of_lt (by omega) h]
  omega
 ·have e:a+d=(a+d-m)+m:=by omega
  rw [e,Int.add_emod_right,Int.emod_eq_of_lt (by omega) (by omega)]
  omega
def Kw (K:KKf)(ns:IH):Sp:=fun vs H Q _=>match vs with
 |[.ref p]=>∃g,(Bp H (.ref p) g∧GO g)∧∀H',Aj H H'→Q (.str (Ej g)) H'
 |_=>False
theorem Cf:Al ["_law_row","_law_day","_law_one","_law_other","_law_halves","_law_side","_law_first","_law_second"] ["_law_row"] (Ad Jc):=D9
include er n_str n_int in
theorem Tr (d:Bt K mg "_law_written" Jc ["_law_row"]):Bc P w K mg base "_law_written" ["_law_row"] 1 (Kw K ns):=by
 refine d.cal (k:=0) Cf (fun vs H Q E hq0=>?_) (fun f cdv A outer s H vs Q E hr hq0=>?_)
 ·obtain ⟨_,rfl,_⟩:=Kv hq0
  rfl
 ·obtain ⟨p,rfl,⟨g,⟨⟨p',e',ep⟩,o⟩,k⟩⟩:=Kv hq0
  refine ⟨_,(@Aa _ _ _ _ _ (@Alu _ _ _ _ _ _ (dv 0) (@Mv _ _ _ _ _ _ rfl (@Be _ _ _ _ _ (@Ar _ _ (1) _ Cf.nd rfl (by trivial) (by trivial)) (@Be _ _ _ _ _ (@Ar _ _ (2) _ Cf.nd rfl (by trivial) (by trivial)) (@Be _ _ _ _ _ (@Ar _ _ (3) _ Cf.nd rfl (by trivial) (by trivial)) (@Be _ _ _ _ _ (@Ar _ _ (4) _ Cf.nd rfl (by trivial) (by trivial)) (@Be _ _ _ _ _ (@Ar _ _ (5) _ Cf.nd rfl (by trivial) (by trivial)) Jn (by rfl)) (by rfl)) (by rfl)) (by rfl)) (by rfl)) (by rfl) (by rfl)) (by rfl) (by rfl) (by rfl)) (@Aa _ _ _ _ _ (@Ak _ _ _ (6) _ _ _ Cf.nd (@Ap _ _ _ _ _ _ _ _ Im (dv 2) (@Ap _ _ _ _ _ _ _ _ Yb Ax (@Cb _ _ _ _ _ _ _ _ _ Pp n_int (by decide +kernel) (@Bf _ _ _ (@Bh _ _ _ _ _ _ _ _ Ee (dv 5) Ae (Aq _)) (by rfl)) (by trivial)))) (by trivial)) (@Aa _ _ _ _ _ (@Ak _ _ _ (7) _ _ _ Cf.nd (@Ap _ _ _ _ _ _ _ _ Im (dv 3) (@Ap _ _ _ _ _ _ _ _ Yb Ax (@Cb _ _ _ _ _ _ _ _ _ Pp n_int (by decide +kernel) (@Bf _ _ _ (@Bh _ _ _ _ _ _ _ _ Ee (dv 5) (@Nf _ _ _ _ _ _ M3 Ae) (Aq _)) (by rfl)) (by trivial)))) (by trivial)) (@A3 _ _ _ _ (@Ew _ _ _ _ _ ("join") _ _ Ax (@Ab _ _ _ _ _ (@Hu _ _ _ _ (@Ab _ _ _ _ _ (@Cb _ _ _ _ _ _ _ _ _ Aev n_str (by decide +kernel) (@Bf _ _ _ (dv 1) (by rfl)) (by trivial)) (@Ab _ _ _ _ _ (dv 6) (@Ab _ _ _ _ _ (@Co _ _ _ _ _ _ _ Dd (@Hu _ _ _ _ (@Ab _ _ _ _ _ Ax (@Ab _ _ _ _ _ Ax (@Ab _ _ _ _ _ Ax Ag (by rfl)) (by rfl)) (by rfl))) (dv 4) (fun _ _=>rfl)) (@Ab _ _ _ _ _ (dv 7) Ag (by rfl)) (by rfl)) (by rfl)) (by rfl))) Ag (by rfl)) (by rfl) (by rfl) (by rfl) (by rfl) (by rfl)))))),?_⟩
  cases e'
  obtain ⟨d,x,y,h,s⟩:=g
  have lx:=Cz o.na
  have ly:=Cz o.nb
  have l3:=Z6 o.d0 o.d1
  have l4:=Sr h
  have l5:(Str.ofString " ").length=1:=by decide +kernel
  have l6:(Str.ofString "*").length=1:=by decide +kernel
  have l7:Str.empty.length=0:=rfl
  have lx:x.length≤8:=lx
  have ly:y.length≤8:=ly
  have l3:(toString d:Str).length≤4:=l3
  have big:(1000:Nat)≤sizeLine:=by decide
  have e0:∀z:Str,z++Str.empty=z:=fun z=>Dq (by rw [B8];exact CJ _)
  have ej:∀ws:IG,Txt.join (Str.ofString " ") ws=Str.join ⟨#[32]⟩ ws:=fun ws=>Dq (F7 _ _)
  have s0:-1≤s:=o.s0
  have s1:s≤1:=o.s1
  have hs:s=1∨s=0∨s=-1:=by omega
  have fin:∀(u v:Str) (H1:Hp) (L1 L2:IC) (H2:Hp),u.length≤9→v.length≤9→Aj H H1→Aj H1 H2→Str.join ⟨#[32]⟩ [(toString d:Str),u,wd h,v]=Ej ⟨d,x,y,h,s⟩→H2 L2=some (.lst [.str (toString d:Str),.str u,.str (wd h),.str v])→Wg K (.str (Str.ofString " ")) [.ref L2] H2 Q:=fun u v H1 L1 L2 H2 lu lv t1 t2 e e2=>by
   refine ⟨[(toString d:Str),u,wd h,v],Au.of e2,?_,?_⟩
   ·rw [l5]
    simp only [BW,List.map_nil,List.sum_cons,List.sum_nil,BN,List.length_nil]
    omega
   ·rw [ej,e]
    exact k H2 (t1.trans t2)
  refine ⟨p,_,rfl,F5.of ep,rfl,_,_,rfl,_,_,rfl,_,_,rfl,_,_,rfl,_,_,rfl,rfl,?_⟩
  rcases hs with rfl|rfl|rfl
  ·refine ⟨by omega,.inr ⟨rfl,by omega,?_⟩⟩
   refine ⟨by omega,.inl ⟨rfl,by omega,?_⟩⟩
   refine ⟨rfl,Aaa o.d0 o.d1,fun L1 H1 t1 f1=>⟨_,_,Au.of f1,Y1 o.h0 o.h1,fun L2 H2 t2 f2=>fin (x++Str.ofString "*") (y++Str.empty) H1 L1 L2 H2 (by rw [Dk];omega) (by rw [Dk];omega) t1 t2 (by rw [e0];rfl) f2⟩⟩
  ·refine ⟨by omega,.inl ⟨rfl,by omega,?_⟩⟩
   refine ⟨by omega,.inl ⟨rfl,by omega,?_⟩⟩
   refine ⟨rfl,Aaa o.d0 o.d1,fun L1 H1 t1 f1=>⟨_,_,Au.of f1,Y1 o.h0 o.h1,fun L2 H2 t2 f2=>fin (x++Str.empty) (y++Str.empty) H1 L1 L2 H2 (by rw [Dk];omega) (by rw [Dk];omega) t1 t2 (by rw [e0,e0];rfl) f2⟩⟩
  ·refine ⟨by omega,.inl ⟨rfl,by omega,?_⟩⟩
   refine ⟨by omega,.inr ⟨rfl,by omega,?_⟩⟩
   refine ⟨rfl,Aaa o.d0 o.d1,fun L1 H1 t1 f1=>⟨_,_,Au.of f1,Y1 o.h0 o.h1,fun L2 H2 t2 f2=>fin (x++Str.empty) (y++Str.ofString "*") H1 L1 L2 H2 (by rw [Dk];omega) (by rw [Dk];omega) t1 t2 (by rw [e0];rfl) f2⟩⟩
structure BL (nm:IG)(gs:IQ):Prop where
 mem:∀g∈gs,g.a∈nm∧g.b∈nm
 ne:∀g∈gs,g.a≠g.b
 h0:∀g∈gs,0≤g.h∧g.h≤2
 ds:∀g∈gs,(0≤g.d∧g.d≤9999)∧-1≤g.s∧g.s≤1
theorem BL.nil {nm:IG}:BL nm []:=⟨fun g h=>absurd h (by simp),fun g h=>absurd h (by simp),fun g h=>absurd h (by simp),fun g h=>absurd h (by simp)⟩
theorem BL.snoc {nm:IG}{gs:IQ}{g:Gm}(h:BL nm gs)(h1:g.a∈nm∧g.b∈nm)(h2:g.a≠g.b)(h3:0≤g.h∧g.h≤2)(h4:(0≤g.d∧g.d≤9999)∧-1≤g.s∧g.s≤1):BL nm (gs++[g]):=by
 have one:∀{P:Gm→Prop},(∀x∈gs,P x)→P g→∀x∈gs++[g],P x:=fun a b x hx=>by
  rcases BH.mp hx with hx|hx
  ·exact a x hx
  ·rw [AH] at hx
   subst hx
   exact b
 exact ⟨one h.mem h1,one h.ne h2,one h.h0 h3,one h.ds h4⟩
def X9 (H:Hp)(D:IC)(gs:IQ):Prop:=∃vs,H D=some (.lst vs)∧Az (Bp H) vs gs
theorem X9.bk {K:KKf}{H:Hp}{D:IC}{gs:IQ}(h:X9 H D gs)(l:gs.length≤100):Bk K H D gs:=by
 obtain ⟨vs,e,a⟩:=h
 exact ⟨vs,Au.of e,a,l⟩
theorem V2 {nm:IG}(h:NL nm){i j:Int}(i0:0≤i)(i1:i<nm.length)(j0:0≤j)(j1:j<nm.length)(ne:i≠j):∃x y,Na (nm.map V.str) i=some (.str x)∧Na (nm.map V.str) j=some (.str y)∧x∈nm∧y∈nm∧x≠y:=by
 obtain ⟨a,rfl⟩:=DJ i0
 obtain ⟨b,rfl⟩:=DJ j0
 have ha:a<nm.length:=by omega
 have hb:b<nm.length:=by omega
 refine ⟨nm[a],nm[b],A1 ?_,A1 ?_,EJ ha,EJ hb,fun e=>ne ?_⟩
 ·rw [BE,AD ha]
  rfl
 ·rw [BE,AD hb]
  rfl
 ·rw [(List.getElem_inj h.nd).mp e]
theorem Agd {H0 H:Hp}{D T:IC}{vs:IP}{gs:IQ}{g:Gm}(h:H D=some (.lst vs))(a:Az (Bp H) vs gs)(e:H T=some (.tup [.int g.d,.str g.a,.str g.b,.int g.h,.int g.s])):X9 (upd H D (.lst (vs++[.ref T]))) D (gs++[g]):=by
 have kt:Kt H (upd H D (.lst (vs++[.ref T]))):=Mw h
 exact ⟨_,Ac,(a.imp fun v g r=>Bm v g _ _ kt r).snoc ⟨T,rfl,kt _ _ e⟩⟩
theorem Gp {H Hx H2:Hp}{D T:IC}{vs:IP}{gs:IQ}{g:Gm}{nm:IG}(hD:H D=none)(s1:Aj H Hx)(e1:Hx D=some (.lst vs))(a1:Az (Bp Hx) vs gs)(bl:BL nm gs)(s2:Aj Hx H2)(e2:H2 T=some (.tup [.int g.d,.str g.a,.str g.b,.int g.h,.int g.s]))(gg:(g.a∈nm∧g.b∈nm)∧g.a≠g.b∧(0≤g.h∧g.h≤2)∧(0≤g.d∧g.d≤9999)∧-1≤g.s∧g.s≤1) :
  Aj H (upd H2 D (.lst (vs++[.ref T])))∧X9 (upd H2 D (.lst (vs++[.ref T]))) D (gs++[g])∧BL nm (gs++[g]):=
 ⟨B6 (s1.trans s2) hD,Agd (H0:=H) (s2 _ _ e1) (a1.imp fun v g r=>Bm v g _ _ (Bq s2) r) e2,bl.snoc gg.1 gg.2.1 gg.2.2.1 gg.2.2.2⟩
def Gq (K:KKf)(ns:IH):Sp:=fun vs H Q _=>match vs with
 |[.ref L,.int kd,.int ct]=>∃nm,(H L=some (.lst (nm.map V.str))∧NL nm∧2≤nm.length∧nm.length≤8∧1≤ct∧ct<nm.length)∧∀D gs H',Aj H H'→H D=none→X9 H' D gs→BL nm gs→gs.length≤10→Q (.ref D) H'
 |_=>False
theorem Ai2 {vs:IP}{F:IC→Int→Int→Prop}(h:match vs with|[.ref x0,.int x1,.int x2]=>F x0 x1 x2|_=>False):∃x0 x1 x2,vs=[.ref x0,.int x1,.int x2]∧F x0 x1 x2:=by
 match vs,h with
 |[.ref x0,.int x1,.int x2],h=>exact ⟨_,_,_,rfl,h⟩
theorem C8:Al ["_law_names_here","_law_kind","_law_cut","_law_rows","_law_many","_law_k"] ["_law_names_here","_law_kind","_law_cut"] (Ad E1):=D9
include er n_range n_len in
theorem L7 (d:Bt K mg "_law_first_games" E1 ["_law_names_here","_law_kind","_law_cut"]):Bc P w K mg base "_law_first_games" ["_law_names_here","_law_kind","_law_cut"] 1 (Gq K ns):=by
 refine d.cal (k:=0) C8 (fun vs H Q E hq0=>?_) (fun f cdv A outer s H vs Q E hr hq0=>?_)
 ·obtain ⟨_,_,_,rfl,_⟩:=Ai2 hq0
  rfl
 ·obtain ⟨L,kd,ct,rfl,⟨nm,⟨hL,ok,n2,n8',ct1,ct2⟩,q⟩⟩:=Ai2 hq0
  refine ⟨_,(@Aa _ _ _ _ _ (@Ak _ _ _ (3) _ _ _ C8.nd (@G4 _ _ _ _ Ag) (by trivial)) (@Aa _ _ _ _ _ (@Ak _ _ _ (4) _ _ _ C8.nd (@Av _ _ _ _ _ _ _ _ _ D6 n_len (by decide +kernel) (@Bf _ _ _ (dv 0) (by rfl)) (by trivial)) (by trivial)) (@Dl _ _ _ _ _ (@C4 _ _ _ _ _ _ _ _ CB rfl (@Fj _ _ _ _ _ _ (by rfl) n_range (@Ab _ _ _ _ _ (dv 4) Ag (by rfl)) (by rfl)) (@Ar _ _ (5) _ C8.nd rfl (by trivial) (by trivial)) (@Dl _ _ _ _ _ (@Bl _ _ _ _ _ _ _ _ (@L2.PW.pt _ _ _ (@J9 _ _ _ _ _ _ _ (@A0 _ _ _ _ _ _ _ _ Ee (dv 1) Ae (Aq _)) (@Fp _ _ _ _ (@L2.PW.pt _ _ _ (@Jw _ _ _ _ _ _ _ (@A0 _ _ _ _ _ _ _ _ Ee (dv 1) Ae (Aq _)) (@Fe _ _ _ _ (@A0 _ _ _ _ _ _ _ _ Of (@Ap _ _ _ _ _ _ _ _ Dy (dv 5) Ae) (dv 4) (Aq _)))))))) (@An _ _ _ (@C3 _ _ _ _ (@Em _ _ _ _ _ _ _ _ _ _ _ _ CQ PySem.F.slot_list_append PySem.F.type_list_append Cy (dv 3) (@Ab _ _ _ _ _ (@Dx _ _ _ _ _ (@Ab _ _ _ _ _ (dv 5) (@Ab _ _ _ _ _ (@Co _ _ _ _ _ _ _ Dd (dv 0) (dv 5) (fun _ _=>rfl)) (@Ab _ _ _ _ _ (@Co _ _ _ _ _ _ _ Dd (dv 0) (@Ap _ _ _ _ _ _ _ _ Fo (@Ap _ _ _ _ _ _ _ _ Dy (dv 5) Ae) (dv 4)) (fun _ _=>rfl)) (@Ab _ _ _ _ _ Ae (@Ab _ _ _ _ _ (@Ap _ _ _ _ _ _ _ _ E8 (@Ap _ _ _ _ _ _ _ _ Fo (dv 5) Ae) Ae) Ag (by rfl)) (by rfl)) (by rfl)) (by rfl)) (by rfl))) Ag (by rfl)) (by rfl) (by rfl) (by rfl) (by rfl) (by rfl)) (by rfl))) Ao) (@An _ _ _ (@Bl _ _ _ _ _ _ _ _ (@L2.PW.pt _ _ _ (@Jw _ _ _ _ _ _ _ (@A0 _ _ _ _ _ _ _ _ Ee (dv 1) Ae (Aq _)) (@Jw _ _ _ _ _ _ _ (@A0 _ _ _ _ _ _ _ _ Ky (dv 5) (@Ap _ _ _ _ _ _ _ _ E8 (dv 2) Ae) (Aq _)) (@Fe _ _ _ _ (@A0 _ _ _ _ _ _ _ _ Ky (dv 5) (@Ap _ _ _ _ _ _ _ _ E8 (dv 4) Ae) (Aq _)))))) (@An _ _ _ (@C3 _ _ _ _ (@Em _ _ _ _ _ _ _ _ _ _ _ _ CQ PySem.F.slot_list_append PySem.F.type_list_append Cy (dv 3) (@Ab _ _ _ _ _ (@Dx _ _ _ _ _ (@Ab _ _ _ _ _ (@Ap _ _ _ _ _ _ _ _ E8 Ae (dv 5)) (@Ab _ _ _ _ _ (@Co _ _ _ _ _ _ _ Dd (dv 0) (dv 5) (fun _ _=>rfl)) (@Ab _ _ _ _ _ (@Co _ _ _ _ _ _ _ Dd (dv 0) (@Ap _ _ _ _ _ _ _ _ Dy (dv 5) Ae) (fun _ _=>rfl)) (@Ab _ _ _ _ _ Ae (@Ab _ _ _ _ _ Ae Ag (by rfl)) (by rfl)) (by rfl)) (by rfl)) (by rfl))) Ag (by rfl)) (by rfl) (by rfl) (by rfl) (by rfl) (by rfl)) (by rfl))) Ao))) (by intro _;rfl)) (@Dl _ _ _ _ _ (@Bl _ _ _ _ _ _ _ _ (@L2.PW.pt _ _ _ (@Jw _ _ _ _ _ _ _ (@A0 _ _ _ _ _ _ _ _ Ee (dv 1) Ae (Aq _)) (@Fe _ _ _ _ (@A0 _ _ _ _ _ _ _ _ Aam (dv 2) Ae (Aq _))))) (@An _ _ _ (@C3 _ _ _ _ (@Em _ _ _ _ _ _ _ _ _ _ _ _ CQ PySem.F.slot_list_append PySem.F.type_list_append Cy (dv 3) (@Ab _ _ _ _ _ (@Dx _ _ _ _ _ (@Ab _ _ _ _ _ Ae (@Ab _ _ _ _ _ (@Co _ _ _ _ _ _ _ Dd (dv 0) (@Ap _ _ _ _ _ _ _ _ E8 (dv 2) Ae) (fun _ _=>rfl)) (@Ab _ _ _ _ _ (@Gv _ _ _ _ _ _ _ (dv 0)) (@Ab _ _ _ _ _ Ae (@Ab _ _ _ _ _ Ae Ag (by rfl)) (by rfl)) (by rfl)) (by rfl)) (by rfl))) Ag (by rfl)) (by rfl) (by rfl) (by rfl) (by rfl) (by rfl)) (by rfl))) Ao) (@Dl _ _ _ _ _ (@Bl _ _ _ _ _ _ _ _ (@L2.PW.pt _ _ _ (@Jw _ _ _ _ _ _ _ (@A0 _ _ _ _ _ _ _ _ Ee (dv 1) Ae (Aq _)) (@Fe _ _ _ _ (@A0 _ _ _ _ _ _ _ _ Aam (@Ap _ _ _ _ _ _ _ _ E8 (dv 4) (dv 2)) Ae (Aq _))))) (@An _ _ _ (@C3 _ _ _ _ (@Em _ _ _ _ _ _ _ _ _ _ _ _ CQ PySem.F.slot_list_append PySem.F.type_list_append Cy (dv 3) (@Ab _ _ _ _ _ (@Dx _ _ _ _ _ (@Ab _ _ _ _ _ Ae (@Ab _ _ _ _ _ (@Co _ _ _ _ _ _ _ Dd (dv 0) (@Ap _ _ _ _ _ _ _ _ E8 (dv 4) Ae) (fun _ _=>rfl)) (@Ab _ _ _ _ _ (@Co _ _ _ _ _ _ _ Dd (dv 0) (dv 2) (fun _ _=>rfl)) (@Ab _ _ _ _ _ Ae (@Ab _ _ _ _ _ Ae Ag (by rfl)) (by rfl)) (by rfl)) (by rfl)) (by rfl))) Ag (by rfl)) (by rfl) (by rfl) (by rfl) (by rfl) (by rfl)) (by rfl))) Ao) (@A3 _ _ _ _ (dv 3))))))),?_⟩
  refine ⟨by decide,fun D hD=>⟨_,.inl (Au.of ((Ah hD) _ _ hL)),?_⟩⟩
  rw [AE]
  have hm:(0:Int)<nm.length:=by omega
  have d3:(0:Int)<3:=by decide
  have hh2:(0:Int)≤2∧(2:Int)≤2:=⟨by decide,by decide⟩
  have zs:∀{n:Nat},n≤60→n<sizeLine:=fun h=>BO h (by decide)
  refine ⟨fun σ Hx=>∃(gs:IQ) (o5:Option V),σ=[some (.ref L),some (.int kd),some (.int ct),some (.ref D),some (.int (nm.length:Int)),o5]∧Aj H Hx∧X9 Hx D gs∧BL nm gs∧gs.length≤8,⟨_,rfl,by omega,by omega,Fm (lo:=0) (n:=nm.length) (fun i σ Hx=>∃(gs:IQ) (o5:Option V),σ=[some (.ref L),some (.int kd),some (.int ct),some (.ref D),some (.int (nm.length:Int)),o5]∧Aj H Hx∧X9 Hx D gs∧BL nm gs∧gs.length≤i) ⟨[],none,rfl,Ah hD,⟨[],Ac,.nil⟩,.nil,AF _⟩ ?_ ?_⟩,?_⟩
  ·rintro i σ Hx hi ⟨gs,o5,rfl,s1,b1,bl,hl⟩
   refine ⟨fun σ Hx=>∃(gs:IQ),σ=[some (.ref L),some (.int kd),some (.int ct),some (.ref D),some (.int (nm.length:Int)),some (.int (0+(i:Int)))]∧Aj H Hx∧X9 Hx D gs∧BL nm gs∧gs.length≤i+1∧(kd=3→gs.length≤i),?_,?_⟩
   ·obtain ⟨vs,e1,a1⟩:=b1
    have lv:=a1.len
    obtain ⟨z0,z1,z2⟩:=Ae8 (a:=(0:Int)+i) (d:=1) (m:=nm.length) (by omega) (by omega) (by decide) (by omega)
    obtain ⟨x,y,hx,hy,mx,my,ne⟩:=V2 ok (i:=(0:Int)+i) (j:=((0:Int)+i+1) % nm.length) (by omega) (by omega) z0 z1 (DI z2)
    have hL':=s1 _ _ hL
    refine ⟨fun h1=>⟨fun _=>?_,fun h=>nb h⟩,fun h1=>⟨fun h2=>⟨fun h3=>?_,fun h3=>⟨gs,rfl,s1,⟨vs,e1,a1⟩,bl,by omega,fun _=>by omega⟩⟩,fun h2=>⟨fun h=>nb h,fun _=>⟨gs,rfl,s1,⟨vs,e1,a1⟩,bl,by omega,fun _=>by omega⟩⟩⟩⟩
    have k3:kd≠3:=by
     have:kd=1:=AU h1
     omega
    rotate_left
    have k3:kd≠3:=by
     have:kd=2:=AU h2
     omega
    all_goals
     refine ⟨.inl ⟨rfl,_,Au.of e1⟩,_,_,Au.of hL',hx,hm,_,_,Au.of hL',hy,d3,fun T H2 s2 e2=>?_⟩
     obtain ⟨r1,r2,r3⟩:=Gp (g:=⟨0+(i:Int),x,y,2,(0+(i:Int)) % 3-1⟩) hD s1 e1 a1 bl s2 e2 ⟨⟨mx,my⟩,ne,hh2,⟨by show 0≤0+(i:Int);omega,by show 0+(i:Int)≤9999;omega⟩,by show -1≤(0+(i:Int)) % 3-1;omega,by show (0+(i:Int)) % 3-1≤1;omega⟩
     exact ⟨D,vs,_,rfl,rfl,s2 _ _ e1,zs (by omega),_,rfl,r1,r2,r3,by rw [AG,BR];omega,fun z=>absurd z k3⟩
   ·rintro σ Hx ⟨gs,rfl,s1,⟨vs,e1,a1⟩,bl,hl,hl3⟩
    have lv:=a1.len
    have hL':=s1 _ _ hL
    refine ⟨fun h1=>⟨fun h2=>⟨fun h3=>?_,fun h3=>⟨gs,_,rfl,s1,⟨vs,e1,a1⟩,bl,by omega⟩⟩,fun h2=>⟨fun h=>nb h,fun _=>⟨gs,_,rfl,s1,⟨vs,e1,a1⟩,bl,by omega⟩⟩⟩,fun h1=>⟨fun h=>nb h,fun _=>⟨gs,_,rfl,s1,⟨vs,e1,a1⟩,bl,by omega⟩⟩⟩
    have h3:(0:Int)+i≠nm.length-1:=by simpa using h3
    have hl3:=hl3 (AU h1)
    obtain ⟨x,y,hx,hy,mx,my,ne⟩:=V2 ok (i:=(0:Int)+i) (j:=(0:Int)+i+1) (by omega) (by omega) (by omega) (by omega) (by omega)
    refine ⟨.inl ⟨rfl,_,Au.of e1⟩,_,_,Au.of hL',hx,_,_,Au.of hL',hy,fun T H2 s2 e2=>?_⟩
    obtain ⟨r1,r2,r3⟩:=Gp (g:=⟨30-(0+(i:Int)),x,y,2,0⟩) hD s1 e1 a1 bl s2 e2 ⟨⟨mx,my⟩,ne,hh2,⟨by show 0≤30-(0+(i:Int));omega,by show 30-(0+(i:Int))≤9999;omega⟩,by show (-1:Int)≤0;decide,by show (0:Int)≤1;decide⟩
    exact ⟨D,vs,_,rfl,rfl,s2 _ _ e1,zs (by omega),_,_,rfl,r1,r2,r3,by rw [AG,BR];omega⟩
  ·rintro σ Hx ⟨gs,o5,rfl,s1,b1,bl,hl⟩
   exact ⟨gs,o5,rfl,s1,b1,bl,by omega⟩
  ·rintro σ Hx ⟨gs,o5,rfl,s1,⟨vs,e1,a1⟩,bl,hl⟩
   have lv:=a1.len
   have hL':=s1 _ _ hL
   refine ⟨fun σ Hx=>∃(gs:IQ),σ=[some (.ref L),some (.int kd),some (.int ct),some (.ref D),some (.int (nm.length:Int)),o5]∧Aj H Hx∧X9 Hx D gs∧BL nm gs∧gs.length≤9,⟨fun h1=>⟨fun h2=>?_,fun h2=>⟨gs,rfl,s1,⟨vs,e1,a1⟩,bl,by omega⟩⟩,fun h1=>⟨fun h=>nb h,fun _=>⟨gs,rfl,s1,⟨vs,e1,a1⟩,bl,by omega⟩⟩⟩,?_⟩
   ·have h2:1<ct:=AU h2
    obtain ⟨x,y,hx,hy,mx,my,ne⟩:=V2 ok (i:=ct-1) (j:=0) (by omega) (by omega) (by omega) (by omega) (by omega)
    refine ⟨.inl ⟨rfl,_,Au.of e1⟩,_,_,Au.of hL',hx,_,_,Au.of hL',hy,fun T H2 s2 e2=>?_⟩
    obtain ⟨r1,r2,r3⟩:=Gp (g:=⟨3,x,y,2,0⟩) hD s1 e1 a1 bl s2 e2 ⟨⟨mx,my⟩,ne,hh2,⟨by show (0:Int)≤3;decide,by show (3:Int)≤9999;decide⟩,by show (-1:Int)≤0;decide,by show (0:Int)≤1;decide⟩
    exact ⟨D,vs,_,rfl,rfl,s2 _ _ e1,zs (by omega),_,rfl,r1,r2,r3,by rw [AG,BR];omega⟩
   clear a1 e1 lv s1 bl hl hL'
   rintro σ Hx ⟨gs,rfl,s1,⟨vs,e1,a1⟩,bl,hl⟩
   have lv:=a1.len
   have hL':=s1 _ _ hL
   refine ⟨fun σ Hx=>∃(gs:IQ),σ=[some (.ref L),some (.int kd),some (.int ct),some (.ref D),some (.int (nm.length:Int)),o5]∧Aj H Hx∧X9 Hx D gs∧BL nm gs∧gs.length≤10,⟨fun h1=>⟨fun h2=>?_,fun h2=>⟨gs,rfl,s1,⟨vs,e1,a1⟩,bl,by omega⟩⟩,fun h1=>⟨fun h=>nb h,fun _=>⟨gs,rfl,s1,⟨vs,e1,a1⟩,bl,by omega⟩⟩⟩,?_⟩
   ·have h2:1<(nm.length:Int)-ct:=AU h2
    obtain ⟨x,y,hx,hy,mx,my,ne⟩:=V2 ok (i:=(nm.length:Int)-1) (j:=ct) (by omega) (by omega) (by omega) (by omega) (by omega)
    refine ⟨.inl ⟨rfl,_,Au.of e1⟩,_,_,Au.of hL',hx,_,_,Au.of hL',hy,fun T H2 s2 e2=>?_⟩
    obtain ⟨r1,r2,r3⟩:=Gp (g:=⟨5,x,y,2,1⟩) hD s1 e1 a1 bl s2 e2 ⟨⟨mx,my⟩,ne,hh2,⟨by show (0:Int)≤5;decide,by show (5:Int)≤9999;decide⟩,by show (-1:Int)≤1;decide,by show (1:Int)≤1;decide⟩
    exact ⟨D,vs,_,rfl,rfl,s2 _ _ e1,zs (by omega),_,rfl,r1,r2,r3,by rw [AG,BR];omega⟩
   rintro σ Hx ⟨gs,rfl,s1,b1,bl,hl⟩
   exact q D gs Hx s1 hD b1 bl (by omega)
def Q8 (K:KKf)(ns:IH):Sp:=fun vs H Q _=>match vs with
 |[.ref a,.ref L]=>∃nm,(Au K H a (ns.map V.int)∧H L=some (.lst (nm.map V.str))∧NL nm∧2≤nm.length∧nm.length≤8)∧∀D gs H',Aj H H'→H D=none→X9 H' D gs→BL nm gs→gs.length≤40→Q (.ref D) H'
 |_=>False
theorem Cw:Al ["_law_script","_law_names_here","_law_many","_law_kind","_law_cut","_law_rows","_law_cell","_law_one","_law_other","_law_halves"] ["_law_script","_law_names_here"] (Ad Pn):=D9
include er n_int n_len in
theorem Aav (d:Bt K mg "_law_book" Pn ["_law_script","_law_names_here"])  (c_l_first_games:Bc P w K mg base "_law_first_games" ["_law_names_here","_law_kind","_law_cut"] 1 (Gq K ns))(c_l_cell_at:Bc P w K mg base "_law_cell_at" ["_law_script","_law_k"] 1 (Fc K ns)):Bc P w K mg base "_law_book" ["_law_script","_law_names_here"] 2 (Q8 K ns):=by
 refine d.cal (k:=1) Cw (fun vs H Q E hq0=>?_) (fun f cdv A outer s H vs Q E hr hq0=>?_)
 ·obtain ⟨_,_,rfl,_⟩:=Qq hq0
  rfl
 ·obtain ⟨a,L,rfl,⟨nm,⟨hS,hL,ok,n2,n8'⟩,q⟩⟩:=Qq hq0
  refine ⟨_,(@Aa _ _ _ _ _ (@Ak _ _ _ (2) _ _ _ Cw.nd (@Av _ _ _ _ _ _ _ _ _ D6 n_len (by decide +kernel) (@Bf _ _ _ (dv 1) (by rfl)) (by trivial)) (by trivial)) (@Dl _ _ _ _ _ (@Ak _ _ _ (3) _ _ _ Cw.nd (@Ap _ _ _ _ _ _ _ _ Fo (@Ap _ _ _ _ _ _ _ _ Ov (@Af _ _ _ _ _ _ _ _ _ _ _ c_l_cell_at hr (@Ai _ _ _ _ _ (dv 0) (@Bf _ _ _ Ae (by rfl)) (by rfl)) (by trivial)) Ae) Ae) (by trivial)) (@Dl _ _ _ _ _ (@Ak _ _ _ (4) _ _ _ Cw.nd (@Ap _ _ _ _ _ _ _ _ Dy Ae (@Ap _ _ _ _ _ _ _ _ Fo (@Af _ _ _ _ _ _ _ _ _ _ _ c_l_cell_at hr (@Ai _ _ _ _ _ (dv 0) (@Bf _ _ _ Ae (by rfl)) (by rfl)) (by trivial)) (@Ap _ _ _ _ _ _ _ _ E8 (dv 2) Ae))) (by trivial)) (@Aa _ _ _ _ _ (@Ak _ _ _ (5) _ _ _ Cw.nd (@Af _ _ _ _ _ _ _ _ _ _ _ c_l_first_games hr (@Ai _ _ _ _ _ (dv 1) (@Ai _ _ _ _ _ (dv 3) (@Bf _ _ _ (dv 4) (by rfl)) (by rfl)) (by rfl)) (by trivial)) (by trivial)) (@Aa _ _ _ _ _ (@C4 _ _ _ _ _ _ _ _ CB rfl (@A4 _ _ _ _ (@C7 _ _ _ _ _ _ _ _ _ _ Agi (dv 0) (Cj Ae) (Cj Ae))) (@Ar _ _ (6) _ Cw.nd rfl (by trivial) (by trivial)) (@Aa _ _ _ _ _ (@Ak _ _ _ (7) _ _ _ Cw.nd (@Ap _ _ _ _ _ _ _ _ Fo (dv 6) (dv 2)) (by trivial)) (@Aa _ _ _ _ _ (@Ak _ _ _ (8) _ _ _ Cw.nd (@Ap _ _ _ _ _ _ _ _ Fo (@Ap _ _ _ _ _ _ _ _ Dy (@Ap _ _ _ _ _ _ _ _ Dy (dv 7) Ae) (@Ap _ _ _ _ _ _ _ _ Fo (@Ap _ _ _ _ _ _ _ _ Ov (dv 6) Ae) (@Ap _ _ _ _ _ _ _ _ E8 (dv 2) Ae))) (dv 2)) (by trivial)) (@Aa _ _ _ _ _ (@Ak _ _ _ (9) _ _ _ Cw.nd (@Ap _ _ _ _ _ _ _ _ Fo (@Ap _ _ _ _ _ _ _ _ Ov (dv 6) Ae) Ae) (by trivial)) (@Dl _ _ _ _ _ (@Bl _ _ _ _ _ _ _ _ (@L2.PW.pt _ _ _ (@Jw _ _ _ _ _ _ _ (@A0 _ _ _ _ _ _ _ _ Ee (dv 3) Ae (Aq _)) (@Fe _ _ _ _ (@A0 _ _ _ _ _ _ _ _ Ky (@Bh _ _ _ _ _ _ _ _ Of (dv 7) (dv 4) (Aq _)) (@Bh _ _ _ _ _ _ _ _ Of (dv 8) (dv 4) (Aq _)) (Aq _))))) (@An _ _ _ (@Ak _ _ _ (9) _ _ _ Cw.nd (@Ap _ _ _ _ _ _ _ _ Eb Ae (@Cb _ _ _ _ _ _ _ _ _ Pp n_int (by decide +kernel) (@Bf _ _ _ (@Bh _ _ _ _ _ _ _ _ Of (dv 7) (dv 4) (Aq _)) (by rfl)) (by trivial))) (by trivial))) Ao) (@An _ _ _ (@C3 _ _ _ _ (@Em _ _ _ _ _ _ _ _ _ _ _ _ CQ PySem.F.slot_list_append PySem.F.type_list_append Cy (dv 5) (@Ab _ _ _ _ _ (@Dx _ _ _ _ _ (@Ab _ _ _ _ _ (@Ap _ _ _ _ _ _ _ _ Fo (@Ap _ _ _ _ _ _ _ _ Ov (dv 6) Ae) Ae) (@Ab _ _ _ _ _ (@Co _ _ _ _ _ _ _ Dd (dv 1) (dv 7) (fun _ _=>rfl)) (@Ab _ _ _ _ _ (@Co _ _ _ _ _ _ _ Dd (dv 1) (dv 8) (fun _ _=>rfl)) (@Ab _ _ _ _ _ (dv 9) (@Ab _ _ _ _ _ (@Ap _ _ _ _ _ _ _ _ E8 (@Ap _ _ _ _ _ _ _ _ Fo (@Ap _ _ _ _ _ _ _ _ Ov (dv 6) Ae) Ae) Ae) Ag (by rfl)) (by rfl)) (by rfl)) (by rfl)) (by rfl))) Ag (by rfl)) (by rfl) (by rfl) (by rfl) (by rfl) (by rfl)) (by rfl))))))) (by intro _;rfl)) (@A3 _ _ _ _ (dv 5))))))),?_⟩
  refine ⟨_,.inl (Au.of hL),?_⟩
  rw [AE]
  have hm:(0:Int)<nm.length:=by omega
  have hm1:(0:Int)<nm.length-1:=by omega
  refine ⟨fun σ Hx=>∃kd:Int,σ=[some (.ref a),some (.ref L),some (.int (nm.length:Int)),some (.int kd),none,none,none,none,none,none]∧Hx=H,⟨hS,by decide,fun c=>⟨⟨by decide,Ca rfl⟩,(by show (0:Int)<4;decide),_,rfl,rfl⟩⟩,?_⟩
  rintro σ Hx ⟨kd,rfl,rfl⟩
  refine ⟨fun σ Hy=>∃ct:Int,σ=[some (.ref a),some (.ref L),some (.int (nm.length:Int)),some (.int kd),some (.int ct),none,none,none,none,none]∧Hy=Hx∧1≤ct∧ct<nm.length,⟨hS,by decide,fun c=>⟨hm1,1+c % (nm.length-1),rfl,rfl,?_,?_⟩⟩,?_⟩
  ·have:=DG c (show (nm.length:Int)-1≠0 by omega)
   omega
  ·have:=Int.emod_lt_of_pos c hm1
   omega
  rintro σ Hy ⟨ct,rfl,rfl,ct1,ct2⟩
  refine ⟨nm,⟨hL,ok,n2,n8',ct1,ct2⟩,fun D gs0 H1 s1 hD b1 bl0 hl0=>?_⟩
  have hL1:=s1 _ _ hL
  refine ⟨_,rfl,_,rfl,_,s1.seq hS,fun M hM0=>?_⟩
  have hM:(Fd (ns.map V.int) (some 4) (some 34)).length≤30:=by
   unfold Fd
   rw [CH]
   have:HT.sIx (ns.map V.int).length (ns.map V.int).length (some 34)-HT.sIx (ns.map V.int).length 0 (some 4)≤30:=by
    unfold HT.sIx
    simp
    omega
   omega
  have hin:∀v∈Fd (ns.map V.int) (some 4) (some 34),∃c,v=.int c:=fun v hv=>by
   obtain ⟨c,_,e⟩:=BG.mp (Aci hv)
   exact ⟨c,e.symm⟩
  generalize Fd (ns.map V.int) (some 4) (some 34)=cs at hM hin
  have s2:Aj H1 (upd H1 M (.lst cs)):=Ah hM0
  have e2:upd H1 M (.lst cs) M=some (.lst cs):=Ac
  generalize upd H1 M (.lst cs)=H2 at s2 e2
  refine ⟨M,rfl,⟨_,Au.of e2⟩,C6 (K:=K) (a:=M) (xs:=cs) (fun i σ Hz=>∃(gs:IQ) (o6 o7 o8 o9:Option V),σ=[some (.ref a),some (.ref L),some (.int (nm.length:Int)),some (.int kd),some (.int ct),some (.ref D),o6,o7,o8,o9]∧Aj Hy Hz∧Hz M=some (.lst cs)∧D≠M∧X9 Hz D gs∧BL nm gs∧gs.length=gs0.length+i)
   ⟨gs0,_,_,_,_,rfl,s1.trans s2,e2,?_,?_,bl0,rfl⟩ (fun i σ H' _ ⟨_,_,_,_,_,_,_,e,_⟩=>Au.of e) ?_ ?_⟩
  ·obtain ⟨vs,e1,_⟩:=b1
   intro e
   rw [e,hM0] at e1
   cases e1
  ·obtain ⟨vs,e1,a1⟩:=b1
   exact ⟨vs,s2 _ _ e1,a1.imp fun v g r=>Bm v g _ _ (Bq s2) r⟩
  ·rintro i v σ H' hv ⟨gs,o6,o7,o8,o9,rfl,s3,e3,ne,⟨vs,e1,a1⟩,bl,hl⟩
   obtain ⟨c,rfl⟩:=hin v (AN hv)
   have hi:i<cs.length:=(AY.mp hv).1
   have c0:=DG c (show (nm.length:Int)≠0 by omega)
   have c1:=Int.emod_lt_of_pos c hm
   have r0:=DG (c / 8) (show (nm.length:Int)-1≠0 by omega)
   have r1:=Int.emod_lt_of_pos (c / 8) hm1
   obtain ⟨z0,z1,z2⟩:=Ae8 (a:=c % nm.length) (d:=1+c / 8 % (nm.length-1)) (m:=nm.length) c0 c1 (by omega) (by omega)
   rw [←Int.add_assoc] at z0 z1 z2
   obtain ⟨x,y,hx,hy,mx,my,nxy⟩:=V2 ok (i:=c % nm.length) (j:=(c % nm.length+1+c / 8 % (nm.length-1)) % nm.length) c0 c1 z0 z1 (DI z2)
   have hL':=s3 _ _ hL
   have h30:=DG (c / 64) (show (3:Int)≠0 by decide)
   have h31:=Int.emod_lt_of_pos (c / 64) (show (0:Int)<3 by decide)
   refine ⟨hm,⟨by decide,Ca rfl⟩,hm1,hm,⟨by decide,Ca rfl⟩,(by show (0:Int)<3;decide),?_⟩
   refine ⟨fun σ Hz=>∃hv:Int,σ=[some (.ref a),some (.ref L),some (.int (nm.length:Int)),some (.int kd),some (.int ct),some (.ref D),some (.int c),some (.int (c % nm.length)),some (.int ((c % nm.length+1+c / 8 % (nm.length-1)) % nm.length)),some (.int hv)]∧Hz=H'∧0≤hv∧hv≤2,⟨fun h1=>⟨fun h2=>⟨.inr (.inl ⟨by decide,by decide⟩),_,rfl,rfl,?_,?_⟩,fun h2=>⟨_,rfl,rfl,h30,by omega⟩⟩,fun h1=>⟨fun h=>nb h,fun _=>⟨_,rfl,rfl,h30,by omega⟩⟩⟩,?_⟩
   ·split<;>decide
   ·split<;>decide
   rintro σ Hz ⟨hv,rfl,rfl,hv0,hv2⟩
   refine ⟨.inl ⟨rfl,_,Au.of e1⟩,⟨by decide,Ca rfl⟩,(by show (0:Int)<10000;decide),_,_,Au.of hL',hx,_,_,Au.of hL',hy,⟨by decide,Ca rfl⟩,(by show (0:Int)<3;decide),fun T H2 s2 e2=>?_⟩
   obtain ⟨q1,q2,q3⟩:=Gp (g:=⟨c / 1000 % 10000,x,y,hv,c / 192 % 3-1⟩) hD s3 e1 a1 bl s2 e2 ⟨⟨mx,my⟩,nxy,⟨hv0,hv2⟩,⟨by show 0≤c / 1000 % 10000;omega,by show c / 1000 % 10000≤9999;omega⟩,by show -1≤c / 192 % 3-1;omega,by show c / 192 % 3-1≤1;omega⟩
   refine ⟨D,vs,_,rfl,rfl,s2 _ _ e1,?_,_,_,_,_,_,rfl,q1,by rw [Am (DI ne)];exact s2 _ _ e3,ne,q2,q3,?_⟩
   ·rw [a1.len,hl]
    exact AV (show gs0.length+i<100 by omega) (by decide)
   ·rw [AG,hl]
    rfl
  ·rintro σ H' ⟨gs,o6,o7,o8,o9,rfl,s3,e3,ne,b3,bl,hl⟩
   exact q D gs H' s3 hD b3 bl (by omega)
theorem Up {α β:Type}{R:α→β→Prop}:∀{l:List α} {m:List β},Az R l m→Az (fun b a=>R a b) m l
 |_,_,.nil=>.nil
 |_,_,.cons h t=>.cons h (Up t)
theorem Aid:∀gs:IQ,Az (fun v g=>v=V.str (Ej g)) ((gs.map Ej).map V.str) gs
 |[]=>.nil
 |_::gs=>.cons rfl (Aid gs)
theorem Oe {g:Gm}(o:GO g):(Ej g).length≤40:=by
 have lx:=Cz o.na
 have ly:=Cz o.nb
 have l1:=Mq g.a (decide (g.s=1))
 have l2:=Mq g.b (decide (g.s=-1))
 have l3:=Z6 o.d0 o.d1
 have l4:=Sr g.h
 have e:=congrArg List.length (Acw g)
 simp only [AG,BN,A2] at e
 omega
theorem Mr {M:Nat}:∀{ws:IG},(∀p∈ws,p.length≤M)→(Str.join E9 ws).length≤ws.length*(M+2)
 |[],_=>by
  rw [←A2,show co (Str.join E9 [])=[] from rfl]
  exact BK _
 |[a],h=>by
  have h1:=h a (AH.mpr rfl)
  have e:(Str.join E9 [a]).length=a.length:=by rw [←A2,←A2];rfl
  rw [e,BR]
  omega
 |a::b::r,h=>by
  have h0:=h a AO
  have h1:=Mr (ws:=b::r) fun p hp=>h p (AQ _ hp)
  have e:=congrArg List.length (Di E9 a b r)
  simp only [AG,A2,show E9.length=2 from rfl] at e
  rw [e]
  simp only [BN] at h1 ⊢
  rw [Nat.succ_mul]
  omega
theorem Wl {gs:IQ}(ok:∀g∈gs,GO g)(h0:gs≠[]):Txt.split (Str.join E9 (gs.map Ej)) E9=gs.map Ej∧Str.join E9 (gs.map Ej)≠Str.ofString "":=by
 have e:Txt.split (Str.join E9 (gs.map Ej)) E9=gs.map Ej:=U6 (by simpa using h0) (fun p hp=>by
  obtain ⟨g,hg,rfl⟩:=BG.mp hp
  exact Aen (ok g hg) (by omega) (by omega) (by omega) (by omega)) rfl
 refine ⟨e,fun z=>?_⟩
 rw [z,show Txt.split (Str.ofString "") E9=[Str.ofString ""] by decide +kernel] at e
 obtain ⟨g,gs',rfl⟩:=List.exists_cons_of_ne_nil h0
 have e2:=List.head_eq_of_cons_eq e
 have:=X4 (ok g AO)
 rw [←e2,Aek] at this
 cases this
def K3 (K:KKf)(ns:IH):Sp:=fun vs H Q E=>match vs with
 |[.str x]=>∃gs,(x=Str.join E9 (gs.map Ej)∧(∀g∈gs,GO g)∧gs.length≤40∧(A7 gs).length≤8)∧∀D vs H',Aj H H'→H D=none→H' D=some (.lst vs)→Az (Bp H') vs gs→Q (.ref D) H'
 |_=>False
theorem Lo:Al ["text","games"] ["text"] (Ad Ip):=D9
include er n_isinstance n_str in
theorem Uo (d:Bt K mg "read_book" Ip ["text"])(v_PARTING:Gr mg "PARTING" (.str "; "))(c_check_size:Bc P w K mg base "check_size" ["games"] 2 (Gk K ns))(c_read_game:Bc P w K mg base "read_game" ["text"] 4 (G2 K ns)):Bc P w K mg base "read_book" ["text"] 5 (K3 K ns):=by
 refine d.cal (k:=4) Lo (fun vs H Q E hq0=>?_) (fun f cdv A outer s H vs Q E hr hq0=>?_)
 ·obtain ⟨_,rfl,_⟩:=m_s hq0
  rfl
 ·obtain ⟨x,rfl,⟨gs,⟨rfl,ok,l40,p8⟩,k⟩⟩:=m_s hq0
  refine ⟨_,(@Aa _ _ _ _ _ (@Bl _ _ _ _ _ _ _ _ (@Bw _ _ _ _ (@Ci _ _ _ (@Av _ _ _ _ _ _ _ _ _ Pj n_isinstance (by decide +kernel) (@Ai _ _ _ _ _ (dv 0) (@Bf _ _ _ (Wd "str" (by rfl) n_str (by decide +kernel)) (by rfl)) (by rfl)) (by trivial)) (by intro _;rfl))) (@An _ _ _ Ba) Ao) (@Aa _ _ _ _ _ (@Bl _ _ _ _ _ _ _ _ (@A0 _ _ _ _ _ _ _ _ Ee (dv 0) Ax (Aq _)) (@A3 _ _ _ _ (@G4 _ _ _ _ Ag)) Ao) (@Aa _ _ _ _ _ (@Wc _ _ _ _ _ _ _ _ (1) _ _ _ _ _ ["part"] [] [] rfl (@A4 _ _ _ _ (@Em _ _ _ _ _ _ _ _ _ _ _ _ DX FV FW Afo (dv 0) (@Ab _ _ _ _ _ (Cv v_PARTING (by rfl)) Ag (by rfl)) (by rfl) (by rfl) (by rfl) (by rfl) (by rfl))) (fun C s H fp=>(@Ar _ _ (0) _ (show List.Nodup [("part":Str)] by decide +kernel) rfl (by trivial) (by trivial))) (fun C s H fp=>(@Af _ _ _ _ _ _ _ _ _ _ _ c_read_game hr (@Bf _ _ _ (dv 0) (by rfl)) (by trivial))) rfl rfl (by decide +kernel) (by decide +kernel) (by rfl) ⟨⟩ ⟨⟩ Lo.nd rfl rfl (by intro _;rfl) (by rfl)) (@Aa _ _ _ _ _ (@C3 _ _ _ _ (@Af _ _ _ _ _ _ _ _ _ _ _ c_check_size hr (@Bf _ _ _ (dv 1) (by rfl)) (by trivial)) (by rfl)) (@A3 _ _ _ _ (dv 1)))))),?_⟩
  refine ⟨true,rfl,⟨fun h=>nb h,fun _=>⟨fun h=>?_,fun h=>?_⟩⟩⟩
  ·have h:Str.join E9 (gs.map Ej)=Str.ofString "":=AU h
   have z:gs=[]:=DA fun z=>(Wl ok z).2 h
   subst z
   exact ⟨by decide,fun D hD=>k D [] _ (Ah hD) hD Ac .nil⟩
  ·have h:Str.join E9 (gs.map Ej)≠Str.ofString "":=CA h
   have z:gs≠[]:=fun z=>h (by rw [z];decide +kernel)
   have lw:∀p∈gs.map Ej,p.length≤100:=fun p hp=>by
    obtain ⟨g,hg,rfl⟩:=BG.mp hp
    exact AI (Oe (ok g hg)) (by decide)
   have lx:=Mr lw
   rw [AE] at lx
   have le:gs.length*(100+2)≤40*102:=Nat.mul_le_mul_right _ l40
   refine ⟨rfl,by decide +kernel,by omega,fun L H1 s1 e1=>?_⟩
   have e1:H1 L=some (.lst ((Txt.split (Str.join E9 (gs.map Ej)) E9).map V.str)):=e1
   rw [(Wl ok z).1] at e1
   refine ⟨L,rfl,⟨_,Au.of e1⟩,Ce (fun _ v g=>v=V.str (Ej g)) (fun _ _ _ _ _ h=>h) (fun H g y=>Bp H y g) (fun g y H H' kt h=>Bm y g _ _ kt h) (by rw [AE,AE];omega) (Au.of e1) (Aid gs) ?_ ?_⟩
   ·intro v g H2 hM hm s2 P hP
    subst hM
    have o:=ok g hm
    exact ⟨rfl,Yh o.d0 o.d1 o.na o.nb,_,X4 o,fun p H3 s3 e3=>hP _ H3 s3 ⟨p,rfl,e3⟩⟩
   ·intro D H2 ys s2 n2 e2 a2
    have ag:=Up a2
    have s02:=s1.trans s2
    refine ⟨gs,⟨⟨ys,Au.of e2,ag,by omega⟩,l40,p8⟩,fun H3 s3=>k D ys H3 (s02.trans s3) (A9 s1 n2) (s3 _ _ e2) (ag.imp fun v g r=>Bm v g _ _ (Bq s3) r)⟩
theorem Jp {gs:IQ}{n x y:Str}(h:K0 gs n x)(h':K0 gs x y):K0 gs n y:=by
 induction h' with
 |here=>exact h
 |step _ t ih=>exact .step ih t
theorem Jm {gs:IQ}{n x:Str}:x∈(tld n gs).map (·.b)↔∃g∈gs,(g.a=n∧x=g.b)∨(g.a≠n∧g.b=n∧x=g.a):=by
 unfold tld
 rw [BG]
 constructor
 ·rintro ⟨g',h,rfl⟩
  obtain ⟨g,h3,rfl⟩:=BG.mp h
  obtain ⟨h4,h5⟩:=CF.mp h3
  refine ⟨g,h4,?_⟩
  unfold Rx
  by_cases e:g.a=n
  ·rw [AZ e]
   exact .inl ⟨e,rfl⟩
  ·rw [AW e]
   unfold Nq at h5
   have e':g.b=n:=by
    rcases HY _ _ |>.mp h5 with z|z
    ·exact absurd (FA z).symm e
    ·exact (FA z).symm
   exact .inr ⟨e,e',rfl⟩
 ·rintro ⟨g,h,⟨h1,rfl⟩|⟨h1,h2,rfl⟩⟩
  ·refine ⟨g,BG.mpr ⟨g,CF.mpr ⟨h,?_⟩,AZ h1⟩,rfl⟩
   unfold Nq
   rw [h1]
   simp
  ·refine ⟨trn g,BG.mpr ⟨g,CF.mpr ⟨h,?_⟩,AW h1⟩,rfl⟩
   unfold Nq
   rw [h2]
   simp
theorem Akg {nm:IG}{gs:IQ}(bl:BL nm gs){x y:Str}(h:y∈Il x gs):x∈(tld y gs).map (·.b):=by
 obtain ⟨g,hg,⟨h1,_,h3⟩|⟨h1,h2,_,h3⟩⟩:=Ff.mp h
 ·exact Jm.mpr ⟨g,hg,.inr ⟨fun e=>bl.ne g hg (by rw [e,h3]),h3.symm,h1.symm⟩⟩
 ·exact Jm.mpr ⟨g,hg,.inl ⟨h3.symm,h2.symm⟩⟩
theorem Al1 {gs:IQ}{x y:Str}(h:y∈Il x gs):y∈A7 gs:=by
 obtain ⟨g,hg,⟨_,_,e⟩|⟨_,_,_,e⟩⟩:=Ff.mp h
 ·exact B7.mpr ⟨g,hg,.inr e⟩
 ·exact B7.mpr ⟨g,hg,.inl e⟩
theorem Zn {nm:IG}{gs:IQ}(bl:BL nm gs)(good:∀m∈A7 gs,¬Nl gs m){n x:Str}(h:K0 gs n x):K0 gs x n:=by
 induction h with
 |here=>exact .here
 |step _ t ih=>
  rename_i x y _
  refine Jp (DA fun no=>good y (Al1 t) ⟨x,Akg bl t,no⟩) ih
theorem U5 {gs:IQ}:∀(l:IG) (ps:List (IG)),(∀q∈ps,q∈l.foldl (Cu gs) ps)∧(∀n∈l,∃q∈l.foldl (Cu gs) ps,n∈q)∧∀q∈l.foldl (Cu gs) ps,q∈ps∨∃m∈l,q=K2 gs m
 |[],ps=>⟨fun q h=>h,fun n h=>absurd h (by simp),fun q h=>.inl h⟩
 | n::l,ps=>by
  obtain ⟨h1,h2,h3⟩:=U5 l (Cu gs ps n)
  rw [GS]
  have in1:∀q∈ps,q∈Cu gs ps n:=fun q hq=>by
   unfold Cu
   split
   ·exact hq
   ·exact CC _ hq
  have in2:∃q∈Cu gs ps n,n∈q:=by
   unfold Cu
   split
   ·rename_i c
    obtain ⟨q,hq,hn⟩:=EA.mp c
    exact ⟨q,hq,AU hn⟩
   ·exact ⟨K2 gs n,BA _ (AH.mpr rfl),B3.mpr .here⟩
  refine ⟨fun q hq=>h1 q (in1 q hq),fun x hx=>?_,fun q hq=>?_⟩
  ·rcases AS.mp hx with rfl|hx
   ·obtain ⟨q,hq,hn⟩:=in2
    exact ⟨q,h1 q hq,hn⟩
   ·exact h2 x hx
  ·rcases h3 q hq with h|⟨m,hm,e⟩
   ·unfold Cu at h
    split at h
    ·exact .inl h
    ·rcases BH.mp h with h|h
     ·exact .inl h
     ·exact .inr ⟨n,AO ..,AH.mp h⟩
   ·exact .inr ⟨m,AQ _ hm,e⟩
theorem Sy (gs:IQ):Gj gs (A7 gs).length=(A7 gs).foldl (Cu gs) []:=by
 unfold Gj
 rw [CO]
theorem Ag0 {nm:IG}{gs:IQ}(bl:BL nm gs)(good:∀m∈A7 gs,¬Nl gs m){p:IG}(h:Gj gs (A7 gs).length=[p]):(∃m∈A7 gs,p=K2 gs m)∧∀x∈A7 gs,∀y∈A7 gs,K0 gs x y:=by
 rw [Sy] at h
 obtain ⟨_,h2,h3⟩:=U5 (gs:=gs) (A7 gs) []
 rw [h] at h2 h3
 obtain ⟨m,hm,e⟩:∃m∈A7 gs,p=K2 gs m:=by
  rcases h3 p (AH.mpr rfl) with z|z
  ·cases z
  ·exact z
 have al:∀x∈A7 gs,K0 gs m x:=fun x hx=>by
  obtain ⟨q,hq,hx'⟩:=h2 x hx
  rw [AH.mp hq,e] at hx'
  exact B3.mp hx'
 exact ⟨⟨m,hm,e⟩,fun x hx y hy=>Jp (Zn bl good (al x hx)) (al y hy)⟩
def Smg (gs hs:IQ):Prop:=∀g,g∈gs↔g∈hs
section
variable {gs hs:IQ}(h:Smg gs hs)
include h
theorem To:Smg hs gs:=fun g=>(h g).symm
theorem Fg:A7 gs=A7 hs:=F6 (C2 _) (C2 _) fun x=>B7.trans (Iff.trans ⟨fun ⟨g,m,e⟩=>⟨g,(h g).mp m,e⟩,fun ⟨g,m,e⟩=>⟨g,(h g).mpr m,e⟩⟩ B7.symm)
theorem Ze {x y:Str}(t:y∈Il x gs):y∈Il x hs:=Ff.mpr (by
 obtain ⟨g,m,e⟩:=Ff.mp t
 exact ⟨g,(h g).mp m,e⟩)
theorem Od {x y:Str}(r:K0 gs x y):K0 hs x y:=by
 induction r with
 |here=>exact .here
 |step _ t ih=>exact .step ih (Ze h t)
theorem Zj (n:Str):K2 gs n=K2 hs n:=F6 (Jl _ _) (Jl _ _) fun _=>B3.trans (Iff.trans ⟨Od h,Od (To h)⟩ B3.symm)
theorem Y9 {n:Str}:Nl gs n→Nl hs n:=fun ⟨x,hx,nr⟩=>⟨x,Jm.mpr (by
 obtain ⟨g,m,e⟩:=Jm.mp hx
 exact ⟨g,(h g).mp m,e⟩),fun r=>nr (Od (To h) r)⟩
theorem Xv:Gj gs (A7 gs).length=Gj hs (A7 hs).length:=by
 have e:Cu gs=Cu hs:=funext fun ps=>funext fun n=>by
  unfold Cu
  rw [Zj h]
 unfold Gj
 rw [e,Fg h]
end
theorem Aeu {gs:IQ}{p:IM}(h:Nh (dk gs) gs.length p):Smg (pg gs p) gs:=fun g=>by
 refine ⟨fun m=>Wf (P:=fun g=>g∈gs) (fun _ h=>h) g m,fun m=>?_⟩
 obtain ⟨i,hi,e⟩:=DL m
 unfold pg
 exact FP.mpr ⟨i,(Pz h).mem_iff.mpr (CN.mpr hi),by rw [AD hi,e]⟩
noncomputable def Qg (gs:IQ):Str:=Txt.join (Str.ofString " / ") ((Gj gs (A7 gs).length).map fun p=>Txt.join (Str.ofString " ") p)
inductive VdT (gs:IQ):Str→Prop where
 |none (i:Nat) (n:Str):(A7 gs)[i]? =some n→Nl gs n→(∀j m,j<i→(A7 gs)[j]? =some m→¬Nl gs m)→VdT gs (Txt.join (Str.ofString " ") (Str.ofString "none"::K2 gs n))
 |one (p:IG):(∀m∈A7 gs,¬Nl gs m)→Gj gs (A7 gs).length=[p]→VdT gs (Str.ofString "one")
 |loose:(∀m∈A7 gs,¬Nl gs m)→(Gj gs (A7 gs).length).length≠1→VdT gs (if Qg gs=Str.ofString "" then Str.ofString "loose" else Str.ofString "loose "++Qg gs)
theorem Agh {gs hs:IQ}(h:Smg gs hs){x:Str}(v:VdT gs x):VdT hs x:=by
 have b:∀{n:Str},Nl hs n→Nl gs n:=Y9 (To h)
 cases v with
 |none i n h1 h2 h3=>
  rw [Fg h] at h1 h3
  rw [Zj h]
  exact .none i n h1 (Y9 h h2) fun j m hj hm z=>h3 j m hj hm (b z)
 |one p h1 h2=>
  rw [Xv h] at h2
  rw [Fg h] at h1
  exact .one p (fun m hm z=>h1 m hm (b z)) h2
 | loose h1 h2=>
  have e:Qg gs=Qg hs:=by
   unfold Qg
   rw [Xv h]
  rw [Xv h] at h2
  rw [Fg h] at h1
  rw [e]
  exact .loose (fun m hm z=>h1 m hm (b z)) h2
theorem Ju {ws:IG}{y:Str}(hy:y.length≤10)(h:∀p∈ws,p.length≤1000)(hn:ws.length≤100):(ws.map (·.length)).sum+ws.length*y.length≤16777216:=by
 have key:∀l:IG,(∀p∈l,p.length≤1000)→(l.map (·.length)).sum≤l.length*1000:=fun l=>by
  induction l with
  |nil=>exact fun _=>BK _
  |cons a r ih=>
   intro h
   have h1:=h a AO
   have h2:=ih fun p hp=>h p (AQ _ hp)
   simp only [BW,List.sum_cons,BN]
   omega
 have h1:=key ws h
 have h2:ws.length*y.length≤100*10:=Nat.mul_le_mul hn hy
 omega
theorem Fi {M:Nat}{y:Str}:∀{ws:IG},(∀p∈ws,p.length≤M)→(Txt.join y ws).length≤ws.length*(M+y.length):=fun {ws} h=>by
 have e:(Txt.join y ws).length=(Str.join y ws).length:=by rw [←A2,←A2,F7]
 rw [e]
 induction ws with
 |nil=>
  rw [←A2,show co (Str.join y [])=[] from rfl]
  exact BK _
 | cons a l ih=>
  have h0:=h a AO
  cases l with
  |nil=>
   have e:(Str.join y [a]).length=a.length:=by rw [←A2,←A2];rfl
   rw [e,BR]
   omega
  |cons b r=>
   have h1:=ih (fun p hp=>h p (AQ _ hp)) (by rw [←A2,←A2,F7])
   have e:=congrArg List.length (Di y a b r)
   simp only [AG,A2] at e
   rw [e]
   simp only [BN] at h1 ⊢
   rw [Nat.succ_mul]
   omega
theorem Lp {gs:IQ}{n:Str}(h:n∈A7 gs):(K2 gs n).length≤(A7 gs).length∧∀x∈K2 gs n,x∈A7 gs:=by
 have sub:∀x∈K2 gs n,x∈A7 gs:=fun x hx=>by
  rcases Ob (B3.mp hx) with e|e
  ·rw [e];exact h
  ·exact e
 exact ⟨Es (Fh (Jl _ _)) sub,sub⟩
theorem Qd {gs:IQ}(ok:∀g∈gs,GO g):∀x∈A7 gs,Nm x:=fun x hx=>by
 obtain ⟨g,hg,rfl|rfl⟩:=B7.mp hx
 ·exact (ok g hg).na
 ·exact (ok g hg).nb
theorem Adj (gs:IQ):∀q∈Gj gs (A7 gs).length,∃m∈A7 gs,q=K2 gs m:=fun q hq=>by
 rw [Sy] at hq
 rcases (U5 (gs:=gs) (A7 gs) []).2.2 q hq with h|h
 ·cases h
 ·exact h
theorem Uh {f:IG→Str}:∀{ps:List (IG)} {ys:IP},Az (fun p y=>y=V.str (f p)) ps ys→ys=(ps.map f).map V.str
 |_,_,.nil=>rfl
 |_,_,.cons h t=>by rw [h,Uh t];rfl
def Et (K:KKf)(ns:IH):Sp:=fun vs H Q _=>match vs with
 | [.ref Z,_]=>∃(L A R:IC) (es:List En) (last:Int),(Hn K H Z L A R es last∧es.length≤40∧(A7 (es.map (·.2))).length≤8∧(∀e∈es,GO e.2)∧A8 H (Dv K) Dg Jr) ∧
   ∀x H',Ow (Dv K) H H'→A8 H' (Dv K) Dg Jr→VdT (es.map (·.2)) x→Q (.str x) H'
 |_=>False
theorem E3:Al ["desk","things","found","parts"] ["desk","things"] (Ad F1):=D9
include er in
theorem Nz (d:Bt K mg "tell_verdict" F1 ["desk","things"])  (c_verdict:Bc P w K mg base "verdict" ["games"] 7 (Kl K ns))(c_Ledger_games:E6 P w K mg base [c_Ledger] [] "games" ["self"] 4 (Dj K ns)):Bc P w K mg base "tell_verdict" ["desk","things"] 8 (Et K ns):=by
 refine d.cal (k:=7) E3 (fun vs H Q E hq0=>?_) (fun f cdv A outer s H vs Q E hr hq0=>?_)
 ·obtain ⟨_,_,rfl,_⟩:=Abw hq0
  rfl
 ·obtain ⟨Z,_,rfl,⟨L,A,R,es,last,⟨dk0,l40,l8,ok,tk⟩,k⟩⟩:=Abw hq0
  refine ⟨_,(@Aa _ _ _ _ _ (@Ak _ _ _ (2) _ _ _ E3.nd (@Af _ _ _ _ _ _ _ _ _ _ _ c_verdict hr (@Bf _ _ _ (@Kz _ _ _ _ _ _ _ _ _ (@Dr _ _ _ _ _ (dv 0) (by rfl)) (@Dz _ _ _ _ _ _ _ _ _ _ _ _ _ _ c_Ledger_games (List.Mem.head _) er.l_Ledger (by decide) Fx) hr (by rfl)) (by rfl)) (by trivial)) (by trivial)) (@Aa _ _ _ _ _ (@Bl _ _ _ _ _ _ _ _ (@A0 _ _ _ _ _ _ _ _ Ee (@Bx _ _ _ _ _ _ _ (dv 2)) Ax (Aq _)) (@A3 _ _ _ _ (@Ew _ _ _ _ _ ("join") _ _ Ax (@Ab _ _ _ _ _ (@Ap _ _ _ _ _ _ _ _ L6 (@Hu _ _ _ _ (@Ab _ _ _ _ _ Ax Ag (by rfl))) (@Bx _ _ _ _ _ _ _ (dv 2))) Ag (by rfl)) (by rfl) (by rfl) (by rfl) (by rfl) (by rfl))) Ao) (@Aa _ _ _ _ _ (@Bl _ _ _ _ _ _ _ _ (@A0 _ _ _ _ _ _ _ _ Ee (@Bx _ _ _ _ _ _ _ (dv 2)) Ax (Aq _)) (@A3 _ _ _ _ Ax) Ao) (@Aa _ _ _ _ _ (@Ak _ _ _ (3) _ _ _ E3.nd (@Ew _ _ _ _ _ ("join") _ _ Ax (@Ab _ _ _ _ _ (@Cc _ _ _ _ _ _ _ _ _ _ ["part"] [] [] rfl (@A4 _ _ _ _ (@Bx _ _ _ _ _ _ _ (dv 2))) (fun C s H fp=>(@Ar _ _ (0) _ (show List.Nodup [("part":Str)] by decide +kernel) rfl (by trivial) (by trivial))) (fun C s H fp=>(show PE _ _ (tBM K "str" (Wg K) _ _) from (Ew (name:="join") Ax (Ab (dv 0) Ag)))) rfl rfl (by decide +kernel) (by decide +kernel) (by rfl) ⟨⟩ ⟨⟩ (by intro _;rfl)) Ag (by rfl)) (by rfl) (by rfl) (by rfl) (by rfl) (by rfl)) (by trivial)) (@A3 _ _ _ _ (@Ym _ _ _ _ _ _ _ _ (@A0 _ _ _ _ _ _ _ _ Ee (dv 3) Ax (Aq _)) Ax (@Acj _ _ _ _ _ _ (@Ti _ _ _ _ _ _ (by decide +kernel) (@Qb _ _ _ _ _ _ (dv 3) Ae1))))))))),?_⟩
  obtain ⟨dx,fs,dy,gs,eZ,f1,f2,eL,fd⟩:=dk0.get er.y_Desk er.y_Ledger
  refine ⟨Z,_,dx,fs,_,rfl,eZ,er.l_Desk,er.na_Desk_ledger,f1,L,_,dy,gs,_,rfl,eL,.head _,fd.ga,A,R,es,last,⟨dk0.2.2,l40,tk⟩,fun D vs H1 p sm nD eD tk1 stb al=>?_⟩
  have cg:=Aeu stb
  have okp:∀g∈pg (es.map (·.2)) p,GO g:=Wf fun g hg=>by
   obtain ⟨e,he,rfl⟩:=BG.mp hg
   exact ok e he
  have ll:(pg (es.map (·.2)) p).length≤40:=by
   rw [P8 stb.2.1,stb.1,AE]
   exact l40
  have l8':=Fg cg▸l8
  have k:=fun x H' sm' tk' v=>k x H' sm' tk' (Agh cg v)
  generalize pg (es.map (·.2)) p=gs' at al okp ll k l8'
  have nmp:=Qd okp
  refine ⟨gs',A7 gs',⟨⟨vs,Au.of eD,al,by omega⟩,fun g hg=>⟨B7.mpr ⟨g,hg,.inl rfl⟩,B7.mpr ⟨g,hg,.inr rfl⟩⟩,by omega,fun x hx=>(nmp x hx).sok⟩,fun T H2 s2 vd=>?_⟩
  have sm2:Ow (Dv K) H H2:=fun b o n e=>s2 b o (sm b o n e)
  have tk2:=tk1.up s2
  have bl1:(Str.ofString " ").length=1:=by decide +kernel
  have bl3:(Str.ofString " / ").length=3:=by decide +kernel
  cases vd with
  | none i n F h1 h2 h3 _ eF eT=>
   have hn:=AN h1
   obtain ⟨la,sa⟩:=Lp hn
   refine ⟨_,eT,⟨fun _=>⟨rfl,fun L1 H3 s3 e3=>⟨_,s3 _ _ eT,_,_,e3,s3 _ _ eF,?_,fun L2 H4 s4 e4=>⟨Str.ofString "none"::K2 gs' n,Au.of e4,?_,?_⟩⟩⟩,fun h=>nb h⟩⟩
   ·rw [AE]
    show 1+_≤_
    omega
   ·refine Ju (by omega) (fun p hp=>?_) (by rw [BN];omega)
    rcases AS.mp hp with rfl|hp
    ·decide +kernel
    ·exact AI (Cz (nmp p (sa p hp))) (by decide)
   ·exact k _ H4 (fun b o z e=>s4 _ _ (s3 _ _ (sm2 b o z e))) (tk2.up (s3.trans s4)) (.none i n h1 h2 h3)
  |one p F h1 h2 _ eF eT=>
   refine ⟨_,eT,⟨fun h=>nb h,fun _=>⟨_,eT,⟨fun _=>?_,fun h=>nb h⟩⟩⟩⟩
   exact k _ H2 sm2 tk2 (.one p h1 h2)
  | loose D' ws h1 h2 _ eD' al' eT=>
   have jl:=K5 gs' (A7 gs').length
   have jm:=Adj gs'
   have ln:∀q∈Gj gs' (A7 gs').length,q.length≤8∧∀x∈q,x.length≤8:=fun q hq=>by
    obtain ⟨m,hm,rfl⟩:=jm q hq
    obtain ⟨la,sa⟩:=Lp hm
    exact ⟨by omega,fun x hx=>Cz (nmp x (sa x hx))⟩
   refine ⟨_,eT,⟨fun h=>nb h,fun _=>⟨_,eT,⟨fun h=>nb h,fun _=>⟨rfl,_,eT,D',rfl,⟨_,Au.of eD'⟩,Ce (fun _ v p=>Prt H1 H2 D' v p) (fun _ _ _ _ _ h=>h) (fun _ p y=>y=V.str (Txt.join (Str.ofString " ") p)) (fun _ _ _ _ _ h=>h) (by rw [al'.len];omega) (Au.of eD') al' ?_ ?_⟩⟩⟩⟩⟩
   ·intro v q H3 hM hq s3 P hP
    obtain ⟨d,rfl,_,_,ed⟩:=hM
    obtain ⟨l1,l2⟩:=ln q hq
    exact ⟨rfl,rfl,q,Au.of (s3 _ _ ed),Ju (by omega) (fun x hx=>AI (l2 x hx) (by decide)) (by omega),hP _ _ (Aj.refl _) rfl⟩
   ·intro D3 H3 ys s3 _ e3 a3
    have ey:=Uh a3
    rw [ey] at e3
    have lp:∀x∈(Gj gs' (A7 gs').length).map (fun p=>Txt.join (Str.ofString " ") p),x.length≤80:=fun x hx=>by
     obtain ⟨q,hq,rfl⟩:=BG.mp hx
     obtain ⟨l1,l2⟩:=ln q hq
     have h1:=Fi (y:=Str.ofString " ") l2
     rw [bl1] at h1
     omega
    refine ⟨_,Au.of e3,Ju (by omega) (fun x hx=>AI (lp x hx) (by decide)) (by rw [AE];omega),?_⟩
    have k:=k _ H3 (fun b o z e=>s3 _ _ (sm2 b o z e)) (tk2.up s3) (.loose h1 h2)
    have lt:=Fi (y:=Str.ofString " / ") lp
    rw [bl3,AE] at lt
    refine ⟨fun h=>?_,fun h=>?_⟩
    ·rw [AZ (show Qg gs'=Str.ofString "" from AU h)] at k
     exact k
    ·rw [AW (show ¬Qg gs'=Str.ofString "" from CA h)] at k
     have big:(1000:Nat)≤sizeLine:=by decide
     have e1:Str.empty++Str.ofString "loose "=Str.ofString "loose ":=by decide +kernel
     have l6:(Str.ofString "loose ").length=6:=by decide +kernel
     have lt:(Qg gs').length≤(Gj gs' (A7 gs').length).length*(80+3):=lt
     show (Str.empty++Str.ofString "loose ").length≤sizeLine∧(Qg gs').length≤sizeLine∧(Str.empty++Str.ofString "loose "++Qg gs').length≤sizeLine∧(Str.empty++Str.ofString "loose "++Qg gs').length≤sizeLine∧Q (.str (Str.empty++Str.ofString "loose "++Qg gs')) H3
     rw [e1,Dk]
     exact ⟨by omega,by omega,by omega,by omega,k⟩
theorem Zy {tk:Str→IG}{n:Str}:∀(k d:Nat) (ws:List (Str×IG)) (nw:IG),BI tk n ws nw d→∀w∈Oq tk k (ws,nw),w.2.length≤d+k
 |0,d,ws,nw,h=>h.le
 | k+1,d,ws,nw,h=>by
  by_cases z:nw=[]
  ·subst z
   intro w hw
   have:=h.le w hw
   omega
  ·rw [Pf tk k z]
   intro w hw
   have:=Zy k (d+1) _ _ h.round w hw
   omega
theorem Anm {nm:IG}{gs:IQ}(hm:∀g∈gs,g.a∈nm∧g.b∈nm){n x:Str}{p:IG}(hn:n∈nm)(h:Pw (fun x=>Il x gs) n p x):∀w∈p,w∈nm:=by
 induction h with
 |here=>
  intro w hw
  rw [AH.mp hw]
  exact hn
 | step _ hy ih=>
  intro w hw
  rcases BH.mp hw with hw|hw
  ·exact ih w hw
  ·rw [AH.mp hw]
   exact Sg hm hy
def Sws (gs:IQ)(ws:IG):Prop:=∀(k:Nat) a b,ws[k]? =some a→ws[k+1]? =some b→b∈Il a gs
theorem Ajc {gs:IQ}{n x:Str}{p:IG}(h:Pw (fun x=>Il x gs) n p x):p[0]? =some n∧p.getLast? =some x∧Sws gs p:=by
 induction h with
 |here=>exact ⟨rfl,rfl,fun k a b h1 h2=>by simp at h2⟩
 | @step p x y h hy ih=>
  obtain ⟨i1,i2,i3⟩:=ih
  have pl:=Adn h
  refine ⟨by rw [BZ (by omega)];exact i1,by simp,fun k a b h1 h2=>?_⟩
  by_cases c:k+1<p.length
  ·rw [BZ (by omega)] at h1 h2
   exact i3 k a b h1 h2
  ·have l2:=(AY.mp h2).1
   rw [AG] at l2
   have:k+1=p.length:=by simp at l2;omega
   rw [BP (by omega),this,Nat.sub_self] at h2
   rw [BZ (by omega)] at h1
   rw [GQ,show p.length-1=k by omega,h1] at i2
   cases i2
   cases h2
   exact hy
structure WyT (gs:IQ)(x y:Str)(ws:IG):Prop where
 fst:ws[0]? =some x
 lst:ws.getLast? =some y
 sws:Sws gs ws
 mem:∀w∈ws,w∈A7 gs
 len:ws.length≤61
theorem Ajr {gs:IQ}{x y:Str}(hx:x∈A7 gs)(hy:y∈(wfs gs x).map (·.1)):WyT gs x y (Bs (wfs gs x) y):=by
 have m:=F0 hy
 have q:=Ak4 m
 obtain ⟨a1,a2,a3⟩:=Ajc q
 exact ⟨a1,a2,a3,Anm (fun g hg=>⟨B7.mpr ⟨g,hg,.inl rfl⟩,B7.mpr ⟨g,hg,.inr rfl⟩⟩) hx q,Zy 60 1 _ _ (Aol (fun x=>Il x gs) x) _ m⟩
theorem Aga {gs hs:IQ}(h:Smg gs hs){x y:Str}{ws:IG}(v:WyT gs x y ws):WyT hs x y ws:=⟨v.fst,v.lst,fun k a b h1 h2=>Ze h (v.sws k a b h1 h2),fun w hw=>Fg h▸v.mem w hw,v.len⟩
def Iw (K:KKf)(ns:IH):Sp:=fun vs H Q _=>match vs with
 | [.ref Z,.ref D]=>∃(L A R:IC) (es:List En) (last:Int) (x y:Str),(Hn K H Z L A R es last∧es.length≤40∧(A7 (es.map (·.2))).length≤8∧(∀e∈es,GO e.2)∧A8 H (Dv K) Dg Jr∧H D=some (.lst [.str x,.str y])∧x∈A7 (es.map (·.2))∧y∈A7 (es.map (·.2))∧K0 (es.map (·.2)) x y) ∧
   ∀ws H',Ow (Dv K) H H'→A8 H' (Dv K) Dg Jr→WyT (es.map (·.2)) x y ws→Q (.str (Txt.join (Str.ofString " ") ws)) H'
 |_=>False
theorem Ni:Al ["desk","things","names"] ["desk","things"] (Ad Kr):=D9
include er in
theorem Vu (d:Bt K mg "tell_way" Kr ["desk","things"])  (c_way:Bc P w K mg base "way" ["games","one","other"] 5 (Adw K ns))(c_Ledger_games:E6 P w K mg base [c_Ledger] [] "games" ["self"] 4 (Dj K ns)):Bc P w K mg base "tell_way" ["desk","things"] 6 (Iw K ns):=by
 refine d.cal (k:=5) Ni (fun vs H Q E hq0=>?_) (fun f cdv A outer s H vs Q E hr hq0=>?_)
 ·obtain ⟨_,_,rfl,_⟩:=Qq hq0
  rfl
 ·obtain ⟨Z,D,rfl,⟨L,A,R,es,last,x,y,⟨dk0,l40,l8,ok,tk,eD,hx,hy,hr'⟩,k⟩⟩:=Qq hq0
  refine ⟨_,(@Aa _ _ _ _ _ (@Ak _ _ _ (2) _ _ _ Ni.nd (@Af _ _ _ _ _ _ _ _ _ _ _ c_way hr (@Ai _ _ _ _ _ (@Kz _ _ _ _ _ _ _ _ _ (@Dr _ _ _ _ _ (dv 0) (by rfl)) (@Dz _ _ _ _ _ _ _ _ _ _ _ _ _ _ c_Ledger_games (List.Mem.head _) er.l_Ledger (by decide) Fx) hr (by rfl)) (@Ai _ _ _ _ _ (@Gv _ _ _ _ _ _ _ (dv 1)) (@Bf _ _ _ (@Gv _ _ _ _ _ _ _ (dv 1)) (by rfl)) (by rfl)) (by rfl)) (by trivial)) (by trivial)) (@A3 _ _ _ _ (@Ym _ _ _ _ _ _ _ _ (@Aig _ _ _ _ _ _ (dv 2)) Ax (@Ew _ _ _ _ _ ("join") _ _ Ax (@Ab _ _ _ _ _ (dv 2) Ag (by rfl)) (by rfl) (by rfl) (by rfl) (by rfl) (by rfl))))),?_⟩
  obtain ⟨dx,fs,dy,gs,eZ,f1,f2,eL,fd⟩:=dk0.get er.y_Desk er.y_Ledger
  refine ⟨Z,_,dx,fs,_,rfl,eZ,er.l_Desk,er.na_Desk_ledger,f1,L,_,dy,gs,_,rfl,eL,.head _,fd.ga,A,R,es,last,⟨dk0.2.2,l40,tk⟩,fun D1 vs H1 p sm nD eD1 tk1 stb al=>?_⟩
  have cg:=Aeu stb
  have okp:∀g∈pg (es.map (·.2)) p,GO g:=Wf fun g hg=>by
   obtain ⟨e,he,rfl⟩:=BG.mp hg
   exact ok e he
  have ll:(pg (es.map (·.2)) p).length≤40:=by
   rw [P8 stb.2.1,stb.1,AE]
   exact l40
  have l8':=Fg cg▸l8
  have hx:=Fg cg▸hx
  have hy:=Fg cg▸hy
  have hr':=Od (To cg) hr'
  have k:=fun ws H' sm' tk' v=>k ws H' sm' tk' (Aga cg v)
  generalize pg (es.map (·.2)) p=gs' at al okp ll k l8' hx hy hr'
  have nmp:=Qd okp
  obtain ⟨ps,eT,_⟩:=tk
  have eD2:=sm _ _ (fun z=>by rw [z,eT] at eD;cases eD) eD
  refine ⟨_,_,Au.of eD2,rfl,_,_,Au.of eD2,rfl,gs',A7 gs',⟨⟨vs,Au.of eD1,al,by omega⟩,fun g hg=>⟨B7.mpr ⟨g,hg,.inl rfl⟩,B7.mpr ⟨g,hg,.inr rfl⟩⟩,by omega,fun x hx=>(nmp x hx).sok⟩,⟨hx,hy,hr'⟩,fun W H2 s2 _ ky e2=>?_⟩
  have wy:=Ajr hx ky
  generalize Bs (wfs gs' x) y=ws at wy e2
  refine ⟨fun h=>nb h,fun _=>⟨rfl,ws,Au.of e2,Ju (by decide +kernel) (fun q hq=>AI (Cz (nmp q (wy.mem q hq))) (by decide)) (AI wy.len (by decide)),k ws H2 (fun b o z e=>s2 _ _ (sm b o z e)) (tk1.up s2) wy⟩⟩
theorem Ys {x:Str}{i:Nat}:PySem.StrLaws.At x ⟨#[32]⟩ x.length i↔(co x)[i]? =some 32:=PySem.StrLaws.subAt_one x 32 i
theorem Q5 {x:Str}(h:32∉co x):(Txt.partition x ⟨#[32]⟩).1=x:=by
 rcases partition_head x ⟨#[32]⟩ with ⟨e,_⟩|⟨i,_,ha,_⟩
 ·exact e
 ·exact absurd (AN (Ys.mp ha)) h
theorem Uw {x a b:Str}(hx:co x=co a++32::co b)(h:32∉co a):Txt.partition x ⟨#[32]⟩=(a,⟨#[32]⟩,b):=by
 have mid:(co x)[(co a).length]? =some 32:=by
  rw [hx,BP (AF _),Nat.sub_self]
  rfl
 have p1:(Txt.partition x ⟨#[32]⟩).1=a:=by
  rcases partition_head x ⟨#[32]⟩ with ⟨_,n⟩|⟨i,e,ha,mn⟩
  ·exact absurd (Ys.mpr mid) (n _)
  ·have h1:=Ys.mp ha
   have le:i≤(co a).length:=EG fun z=>mn _ z (Ys.mpr mid)
   have ei:i=(co a).length:=by
    rcases Nat.lt_or_ge i (co a).length with z|z
    ·rw [hx,BZ z] at h1
     exact absurd (AN h1) h
    ·omega
   rw [e,ei]
   apply Dq
   show (Builtin.Str.strSub x 0 (co a).length).cps.toList=co a
   rw [PySem.StrLaws.strSub_toList]
   show ((co x).drop 0).take ((co a).length-0)=co a
   rw [hx,GZ,Nat.sub_zero,List.take_left]
 have sum:=PySem.StrLaws.partition_sum x ⟨#[32]⟩
 have lx:=congrArg List.length hx
 rw [AG,BN] at lx
 have p2:(Txt.partition x ⟨#[32]⟩).2.1=⟨#[32]⟩:=by
  unfold Txt.partition at p1 ⊢
  split at p1
  ·rfl
  ·have:=congrArg (fun z=>(co z).length) p1
   simp only at this
   omega
 have p3:(Txt.partition x ⟨#[32]⟩).2.2=b:=by
  rw [p1,p2] at sum
  have:=congrArg co sum
  rw [B8,B8,hx,Ki,BU] at this
  have:=HB this
  exact Dq (List.cons.inj this).2
 exact Prod.ext p1 (Prod.ext p2 p3)
def Jx (K:KKf)(ns:IH):Sp:=fun vs H Q _=>match vs with
 |[.str x,.non]=>∀H',Aj H H'→Q (.str x) H'
 |_=>False
theorem Qk:Al ["word","pair"] ["word","pair"] (Ad Hd):=D9
include er n_int in
theorem Qx (d:Bt K mg "read_thing" Hd ["word","pair"])(v_LONGEST_NUMBER:Gr mg "LONGEST_NUMBER" (.int (6)))(c_is_number:Bc P w K mg base "is_number" ["word","longest"] 1 (Hb K ns)):Bc P w K mg base "read_thing" ["word","pair"] 2 (Jx K ns):=by
 refine d.cal (k:=1) Qk (fun vs H Q E h=>?_) (fun f cdv A outer s H vs Q E hr h=>?_)
 ·match vs,h with
  |[.str x,.non],_=>rfl
 ·match vs,h with
  |[.str x,.non],hq0=>
   have k:=hq0
   refine ⟨_,(@Aa _ _ _ _ _ (@Bl _ _ _ _ _ _ _ _ (@Aig _ _ _ _ _ _ (dv 1)) (@A3 _ _ _ _ (dv 0)) Ao) (@Aa _ _ _ _ _ (@Bl _ _ _ _ _ _ _ _ (@Bw _ _ _ _ (@Ci _ _ _ (@Af _ _ _ _ _ _ _ _ _ _ _ c_is_number hr (@Ai _ _ _ _ _ (dv 0) (@Bf _ _ _ (Cv v_LONGEST_NUMBER (by rfl)) (by rfl)) (by rfl)) (by trivial)) (by intro _;rfl))) (@An _ _ _ Ba) Ao) (@Aa _ _ _ _ _ (@Bl _ _ _ _ _ _ _ _ (@Bw _ _ _ _ (@N4 _ _ _ _ _ _ _ _ _ _ _ _ Qr Qr (@Hg _ _ _ _ _ _ _ (dv 1)) (@Cb _ _ _ _ _ _ _ _ _ Yk n_int (by decide +kernel) (@Bf _ _ _ (dv 0) (by rfl)) (by trivial)) (@Hg _ _ _ _ _ _ _ (dv 1)) (by with_unfolding_all rfl))) (@An _ _ _ Ba) Ao) (@A3 _ _ _ _ (@Cb _ _ _ _ _ _ _ _ _ Yk n_int (by decide +kernel) (@Bf _ _ _ (dv 0) (by rfl)) (by trivial)))))),?_⟩
   exact ⟨fun _=>k H (Aj.refl _),fun h=>nb h⟩
def E4 (K:KKf)(ns:IH):Sp:=fun vs H Q E=>match vs with
 | [.ref Z,.ref W]=>(H W=some (.lst [.str "book"])∧∀D H',Aj H H'→Hh K ns [.ref Z,.ref D] H' Q E) ∨
   (H W=some (.lst [.str "verdict"])∧∀D H',Aj H H'→Et K ns [.ref Z,.ref D] H' Q E) ∨
   (∃x y,H W=some (.lst [.str "way",.str x,.str y])∧∀D H',Aj H H'→H' D=some (.lst [.str x,.str y])→Iw K ns [.ref Z,.ref D] H' Q E)
 |_=>False
theorem Eu:Al ["desk","words","answer","bounds"] ["desk","words"] (Ad F2):=D9
include er n_zip n_len in
theorem Nu (d:Bt K mg "answer_words" F2 ["desk","words"])(v_tell_way:FnV K mg "tell_way")(v_tell_verdict:FnV K mg "tell_verdict")(v_tell_book:FnV K mg "tell_book")(v_WORD_ROWS:Gr mg "WORD_ROWS" (.ref a_WORD_ROWS))(w_WORD_ROWS:Nx P w K a_WORD_ROWS [(.inr "take",.ref b_WORD_ROWS_take),(.inr "book",.ref b_WORD_ROWS_book),(.inr "verdict",.ref b_WORD_ROWS_verdict),(.inr "way",.ref b_WORD_ROWS_way),(.inr "ends",.ref b_WORD_ROWS_ends),(.inr "rank",.ref b_WORD_ROWS_rank),(.inr "running",.ref b_WORD_ROWS_running),(.inr "worth",.ref b_WORD_ROWS_worth)])(w_WORD_ROWS_book:B9 K b_WORD_ROWS_book [.ref g_tell_book,.ref b_WORD_ROWS_book_1])(w_WORD_ROWS_book_1:B9 K b_WORD_ROWS_book_1 [])(w_WORD_ROWS_verdict:B9 K b_WORD_ROWS_verdict [.ref g_tell_verdict,.ref b_WORD_ROWS_verdict_1])(w_WORD_ROWS_verdict_1:B9 K b_WORD_ROWS_verdict_1 [])(w_WORD_ROWS_way:B9 K b_WORD_ROWS_way [.ref g_tell_way,.ref b_WORD_ROWS_way_1])(w_WORD_ROWS_way_1:B9 K b_WORD_ROWS_way_1 [.non,.non])(z_tell_book:PySem.W.nsIn K mainGlobals "tell_book"=some (some (.ref g_tell_book)))(z_tell_verdict:PySem.W.nsIn K mainGlobals "tell_verdict"=some (some (.ref g_tell_verdict)))(z_tell_way:PySem.W.nsIn K mainGlobals "tell_way"=some (some (.ref g_tell_way)))(c_tell_way:Bc P w K mg base "tell_way" ["desk","things"] 6 (Iw K ns))(c_tell_verdict:Bc P w K mg base "tell_verdict" ["desk","things"] 8 (Et K ns))(c_tell_book:Bc P w K mg base "tell_book" ["desk","things"] 5 (Hh K ns))(c_read_thing:Bc P w K mg base "read_thing" ["word","pair"] 2 (Jx K ns)):Bc P w K mg base "answer_words" ["desk","words"] 9 (E4 K ns):=by
 refine d.cal (k:=8) Eu (fun vs H Q E hq0=>?_) (fun f cdv A outer s H vs Q E hr hq0=>?_)
 ·obtain ⟨_,_,rfl,_⟩:=Qq hq0
  rfl
 ·obtain ⟨Z,W,rfl,hh⟩:=Qq hq0
  refine ⟨_,(@Aa _ _ _ _ _ (@Bl _ _ _ _ _ _ _ _ (@Ad9 _ _ _ _ _ _ _ _ w_WORD_ROWS (@Gv _ _ _ _ _ _ _ (dv 1)) (Cv v_WORD_ROWS (by rfl)) (by with_unfolding_all rfl)) (@An _ _ _ Ba) Ao) (@Aa _ _ _ _ _ (@Ak _ _ _ (2) _ _ _ Eu.nd (@Hg _ _ _ _ _ _ _ (@Tx _ _ _ _ _ _ _ _ w_WORD_ROWS (Cv v_WORD_ROWS (by rfl)) (@Gv _ _ _ _ _ _ _ (dv 1)) (fun _ _=>rfl))) (by trivial)) (@Aa _ _ _ _ _ (@Ak _ _ _ (3) _ _ _ Eu.nd (@Hg _ _ _ _ _ _ _ (@Tx _ _ _ _ _ _ _ _ w_WORD_ROWS (Cv v_WORD_ROWS (by rfl)) (@Gv _ _ _ _ _ _ _ (dv 1)) (fun _ _=>rfl))) (by trivial)) (@Aa _ _ _ _ _ (@Bl _ _ _ _ _ _ _ _ (@A0 _ _ _ _ _ _ _ _ Ky (@Av _ _ _ _ _ _ _ _ _ D6 n_len (by decide +kernel) (@Bf _ _ _ (dv 1) (by rfl)) (by trivial)) (@Ap _ _ _ _ _ _ _ _ Dy Ae (@Av _ _ _ _ _ _ _ _ _ D6 n_len (by decide +kernel) (@Bf _ _ _ (dv 3) (by rfl)) (by trivial))) (Aq _)) (@An _ _ _ Ba) Ao) (@A3 _ _ _ _ (@Ado _ _ _ _ _ _ _ _ _ _ _ (F8.cons c_tell_book v_tell_book (by decide) (F8.cons c_tell_verdict v_tell_verdict (by decide) (F8.cons c_tell_way v_tell_way (by decide) F8.nil))) hr Ke (dv 2) (@Ab _ _ _ _ _ (dv 0) (@Ab _ _ _ _ _ (@Cc _ _ _ _ _ _ _ _ _ _ ["word","pair"] [] [] rfl (@Ach _ true false _ _ _ _ _ _ _ _ (by rfl) n_zip (@Ab _ _ _ _ _ (@C7 _ _ _ _ _ _ _ _ _ _ Ac7 (dv 1) (Cj Ae) Jj) (@Ab _ _ _ _ _ (dv 3) Ag (by rfl)) (by rfl)) (by rfl) (by rfl)) (fun C s H fp=>(show PG _ _ (Ah3 K 2 _) from Mv rfl (Be (Ar (i:=0) (show List.Nodup [("word":Str),("pair":Str)] by decide +kernel) rfl (by trivial)) (Be (Ar (i:=1) (show List.Nodup [("word":Str),("pair":Str)] by decide +kernel) rfl (by trivial)) Jn)))) (fun C s H fp=>(@Af _ _ _ _ _ _ _ _ _ _ _ c_read_thing hr (@Ai _ _ _ _ _ (dv 0) (@Bf _ _ _ (dv 1) (by rfl)) (by rfl)) (by trivial))) rfl rfl (by decide +kernel) (by decide +kernel) (by rfl) ⟨⟩ ⟨⟩ (by intro _;rfl)) Ag (by rfl)) (by rfl)) (by rfl) (by rfl))))))),?_⟩
  rcases hh with ⟨eW,k⟩|⟨eW,k⟩|⟨x,y,eW,k⟩
  ·refine ⟨_,_,Au.of eW,A1 (j:=0) rfl,Sum.inr "book",rfl,rfl,⟨fun h=>nb h,fun _=>?_⟩⟩
   refine ⟨rfl,_,_,Au.of eW,A1 (j:=0) rfl,Sum.inr "book",.ref b_WORD_ROWS_book,rfl,rfl,_,w_WORD_ROWS_book.sq H,rfl,_,_,Au.of eW,A1 (j:=0) rfl,Sum.inr "book",.ref b_WORD_ROWS_book,rfl,rfl,_,w_WORD_ROWS_book.sq H,?_⟩
   refine ⟨_,.inl (Au.of eW),_,.inr (w_WORD_ROWS_book_1.sq H),⟨fun h=>nb h,fun _=>?_⟩⟩
   refine ⟨"tell_book",_,g_tell_book,.head _,rfl,z_tell_book,_,rfl,_,Au.of eW,fun S H1 s1 e1=>?_⟩
   exact ⟨⟨_,Au.of e1⟩,⟨_,w_WORD_ROWS_book_1.sq H1⟩,Ji (ca:=true) (cb:=false) (ms:=([]:List Unit)) (fun _ _ _ _=>True) (fun _ _ _ _ _ _ h=>h) (fun _ _ _=>True) (fun _ _ _ _ _ h=>h) (by decide) (Au.of e1) (w_WORD_ROWS_book_1.sq H1) (BK _) rfl (fun _ _ _ _ _ _ _=>trivial) (fun _ _ _ _ _ _ h=>nomatch h) fun D H2 zs s2 _ _ _=>k D H2 (s1.trans s2)⟩
  ·refine ⟨_,_,Au.of eW,A1 (j:=0) rfl,Sum.inr "verdict",rfl,rfl,⟨fun h=>nb h,fun _=>?_⟩⟩
   refine ⟨rfl,_,_,Au.of eW,A1 (j:=0) rfl,Sum.inr "verdict",.ref b_WORD_ROWS_verdict,rfl,rfl,_,w_WORD_ROWS_verdict.sq H,rfl,_,_,Au.of eW,A1 (j:=0) rfl,Sum.inr "verdict",.ref b_WORD_ROWS_verdict,rfl,rfl,_,w_WORD_ROWS_verdict.sq H,?_⟩
   refine ⟨_,.inl (Au.of eW),_,.inr (w_WORD_ROWS_verdict_1.sq H),⟨fun h=>nb h,fun _=>?_⟩⟩
   refine ⟨"tell_verdict",_,g_tell_verdict,.tail _ (.head _),rfl,z_tell_verdict,_,rfl,_,Au.of eW,fun S H1 s1 e1=>?_⟩
   exact ⟨⟨_,Au.of e1⟩,⟨_,w_WORD_ROWS_verdict_1.sq H1⟩,Ji (ca:=true) (cb:=false) (ms:=([]:List Unit)) (fun _ _ _ _=>True) (fun _ _ _ _ _ _ h=>h) (fun _ _ _=>True) (fun _ _ _ _ _ h=>h) (by decide) (Au.of e1) (w_WORD_ROWS_verdict_1.sq H1) (BK _) rfl (fun _ _ _ _ _ _ _=>trivial) (fun _ _ _ _ _ _ h=>nomatch h) fun D H2 zs s2 _ _ _=>k D H2 (s1.trans s2)⟩
  ·refine ⟨_,_,Au.of eW,A1 (j:=0) rfl,Sum.inr "way",rfl,rfl,⟨fun h=>nb h,fun _=>?_⟩⟩
   refine ⟨rfl,_,_,Au.of eW,A1 (j:=0) rfl,Sum.inr "way",.ref b_WORD_ROWS_way,rfl,rfl,_,w_WORD_ROWS_way.sq H,rfl,_,_,Au.of eW,A1 (j:=0) rfl,Sum.inr "way",.ref b_WORD_ROWS_way,rfl,rfl,_,w_WORD_ROWS_way.sq H,?_⟩
   refine ⟨_,.inl (Au.of eW),_,.inr (w_WORD_ROWS_way_1.sq H),⟨fun h=>nb h,fun _=>?_⟩⟩
   refine ⟨"tell_way",_,g_tell_way,.tail _ (.tail _ (.head _)),rfl,z_tell_way,_,rfl,_,Au.of eW,fun S H1 s1 e1=>?_⟩
   refine ⟨⟨_,Au.of e1⟩,⟨_,w_WORD_ROWS_way_1.sq H1⟩,Ji (ca:=true) (cb:=false) (ms:=[x,y]) (fun _ u v m=>u=V.str m∧v=V.non) (fun _ _ _ _ _ _ h=>h) (fun _ m z=>z=V.str m) (fun _ _ _ _ _ h=>h) (by show 2≤1000;decide) (Au.of e1) (w_WORD_ROWS_way_1.sq H1) (AF _) rfl ?_ ?_ ?_⟩
   ·intro i u v m h1 h2 h3
    match i,h1,h2,h3 with
    |0,h1,h2,h3=>exact ⟨(Option.some.inj h1).symm.trans (congrArg V.str (Option.some.inj h3)),(Option.some.inj h2).symm⟩
    |1,h1,h2,h3=>exact ⟨(Option.some.inj h1).symm.trans (congrArg V.str (Option.some.inj h3)),(Option.some.inj h2).symm⟩
    |j+2,h1,_,_=>exact nomatch h1
   ·intro u v m t H2 hM _ s2 et P hP
    obtain ⟨rfl,rfl⟩:=hM
    exact ⟨t,_,rfl,F5.of et,rfl,_,_,rfl,_,_,rfl,rfl,rfl,fun H3 s3=>hP _ H3 s3 rfl⟩
   ·intro D H2 zs s2 _ e2 a2
    cases a2 with
    | cons h t=>
     cases t with
     |cons h' t' =>
      cases t'
      rw [h,h'] at e2
      exact k D H2 (s1.trans s2) e2
def Dw (K:KKf)(ns:IH):Sp:=fun vs H Q E=>match vs with
 | [.ref Z,.str row]=>row.length≤900∧((∃x,Txt.partition row ⟨#[32]⟩=(Str.ofString "put",⟨#[32]⟩,x)∧∀H',Aj H H'→Ja K ns [.ref Z,.str x] H' Q E) ∨
   (((Txt.partition row ⟨#[32]⟩).1=Str.ofString "book"∨(Txt.partition row ⟨#[32]⟩).1=Str.ofString "verdict"∨(Txt.partition row ⟨#[32]⟩).1=Str.ofString "way")∧∀W H',Aj H H'→H' W=some (.lst ((Txt.split row ⟨#[32]⟩).map V.str))→E4 K ns [.ref Z,.ref W] H' Q E))
 |_=>False
theorem M9:Al ["self","row","head"] ["self","row"] (Ad Kj):=D9
include er n_isinstance n_str in
theorem Vv (d:Hf K [c_Desk] [] "say" "Desk.say" Kj ["self","row"])(v_TEXT_ROWS:Gr mg "TEXT_ROWS" (.ref a_TEXT_ROWS))(w_TEXT_ROWS:Nx P w K a_TEXT_ROWS [(.inr "put",.ref g_put_game),(.inr "tree",.ref g_tell_tree),(.inr "group",.ref g_tell_group)])(z_put_game:PySem.W.nsIn K mainGlobals "put_game"=some (some (.ref g_put_game)))(v_put_game:FnV K mg "put_game")(c_answer_words:Bc P w K mg base "answer_words" ["desk","words"] 9 (E4 K ns))(c_put_game:Bc P w K mg base "put_game" ["desk","text"] 7 (Ja K ns)):E6 P w K mg base [c_Desk] [] "say" ["self","row"] 10 (Dw K ns):=by
 refine d.cal (k:=9) M9 (fun vs H Q E hq0=>?_) (fun f cdv A outer s H vs Q E hr hq0=>?_)
 ·obtain ⟨_,_,rfl,_⟩:=Lc hq0
  rfl
 ·obtain ⟨Z,row,rfl,⟨hl,hh⟩⟩:=Lc hq0
  refine ⟨_,(@Aa _ _ _ _ _ (@Bl _ _ _ _ _ _ _ _ (@Bw _ _ _ _ (@Ci _ _ _ (@Av _ _ _ _ _ _ _ _ _ Pj n_isinstance (by decide +kernel) (@Ai _ _ _ _ _ (dv 1) (@Bf _ _ _ (Wd "str" (by rfl) n_str (by decide +kernel)) (by rfl)) (by rfl)) (by trivial)) (by intro _;rfl))) (@An _ _ _ Ba) Ao) (@Aa _ _ _ _ _ (@Ak _ _ _ (2) _ _ _ M9.nd (@Em _ _ _ _ _ _ _ _ _ _ _ _ DX PySem.F.slot_str_partition PySem.F.type_str_partition Ajy (dv 1) (@Ab _ _ _ _ _ Ax Ag (by rfl)) (by rfl) (by rfl) (by rfl) (by rfl) (by rfl)) (by trivial)) (@Aa _ _ _ _ _ (@Bl _ _ _ _ _ _ _ _ (@L2.PW.pt _ _ _ (@Jw _ _ _ _ _ _ _ (@Amm _ _ _ _ _ _ _ _ w_TEXT_ROWS (@Bx _ _ _ _ _ _ _ (dv 2)) (Cv v_TEXT_ROWS (by rfl)) (by with_unfolding_all rfl)) (@Fe _ _ _ _ (@A0 _ _ _ _ _ _ _ _ Ee (@Bx _ _ _ _ _ _ _ (dv 2)) Ax (Aq _))))) (@A3 _ _ _ _ (@Aco _ _ _ _ _ _ _ _ _ _ _ _ (F8.cons c_put_game v_put_game (by decide) F8.nil) hr Ke (@Tx _ _ _ _ _ _ _ _ w_TEXT_ROWS (Cv v_TEXT_ROWS (by rfl)) (@Bx _ _ _ _ _ _ _ (dv 2)) (fun _ _=>rfl)) (@Ab _ _ _ _ _ (dv 0) (@Ab _ _ _ _ _ (@Bx _ _ _ _ _ _ _ (dv 2)) Ag (by rfl)) (by rfl)) (by rfl) (by rfl))) Ao) (@A3 _ _ _ _ (@Af _ _ _ _ _ _ _ _ _ _ _ c_answer_words hr (@Ai _ _ _ _ _ (dv 0) (@Bf _ _ _ (@Em _ _ _ _ _ _ _ _ _ _ _ _ DX FV FW Uq (dv 1) (@Ab _ _ _ _ _ Ax Ag (by rfl)) (by rfl) (by rfl) (by rfl) (by rfl) (by rfl)) (by rfl)) (by rfl)) (by trivial)))))),?_⟩
  refine ⟨true,rfl,⟨fun h=>nb h,fun _=>?_⟩⟩
  refine ⟨rfl,by decide +kernel,by omega,fun T H1 s1 e1=>?_⟩
  have e1:H1 T=some (.tup [.str (Txt.partition row ⟨#[32]⟩).1,.str (Txt.partition row ⟨#[32]⟩).2.1,.str (Txt.partition row ⟨#[32]⟩).2.2]):=e1
  rcases hh with ⟨x,ep,k⟩|⟨hw,k⟩
  ·rw [ep] at e1
   refine ⟨_,e1,Sum.inr "put",rfl,rfl,⟨fun _=>⟨_,e1,⟨fun _=>?_,fun h=>nb h⟩⟩,fun h=>nb h⟩⟩
   exact ⟨rfl,_,e1,Sum.inr "put",.ref g_put_game,rfl,rfl,"put_game",_,g_put_game,.head _,rfl,z_put_game,_,e1,k H1 s1⟩
  ·have no:∀v1 v2 v3:V,B4 [(Sum.inr (Str.ofString "put"),v1),(Sum.inr (Str.ofString "tree"),v2),(Sum.inr (Str.ofString "group"),v3)] (Sum.inr (Txt.partition row ⟨#[32]⟩).1:Bg)=none:=fun v1 v2 v3=>by
    rcases hw with e|e|e<;>rw [e]<;>rfl
   refine ⟨_,e1,Sum.inr _,rfl,rfl,?_⟩
   rw [no]
   refine ⟨fun h=>nb h,fun _=>⟨fun h=>nb h,fun _=>?_⟩⟩
   exact ⟨rfl,by decide +kernel,by omega,fun W H2 s2 e2=>k W H2 (s1.trans s2) e2⟩
def Crs (held:IG)(g:Gm):Prop:=(g.a∈held∧g.b∉held)∨(g.b∈held∧g.a∉held)
def Ak3 (held:IG)(gs:IQ):Prop:=∀g∈gs,(g.a∈held→g.b∉held→g.h=2)∧(g.b∈held→g.a∉held→g.h=0)
theorem Aed {nm:IG}{gs:IQ}(bl:BL nm gs)(n:Str):Ak3 (K2 gs n) gs:=fun g hg=>by
 have h:=bl.h0 g hg
 refine ⟨fun ha hb=>?_,fun hb ha=>?_⟩
 ·refine Int.le_antisymm h.2 (Int.not_lt.mp fun c=>hb (B3.mpr (.step (B3.mp ha) (Ff.mpr ⟨g,hg,.inl ⟨rfl,by omega,rfl⟩⟩))))
 ·refine Int.le_antisymm (Int.not_lt.mp fun c=>ha (B3.mpr (.step (B3.mp hb) (Ff.mpr ⟨g,hg,.inr ⟨bl.ne g hg,rfl,c,rfl⟩⟩)))) h.1
theorem Af2 {gs:IQ}{n:Str}(hb:Nl gs n):∃g∈gs,Crs (K2 gs n) g:=by
 obtain ⟨x,hx,nr⟩:=hb
 have hn:n∈K2 gs n:=B3.mpr .here
 have hx':x∉K2 gs n:=fun c=>nr (B3.mp c)
 obtain ⟨g,hg,⟨e1,e2⟩|⟨_,e1,e2⟩⟩:=Jm.mp hx
 ·exact ⟨g,hg,.inl ⟨e1▸hn,e2▸hx'⟩⟩
 ·exact ⟨g,hg,.inr ⟨e1▸hn,e2▸hx'⟩⟩
theorem Zx {T B W m y h:Int}(e:m+y=W):2*W*(2*W*T+B*(2*m-h*W))+2*W*B*(2*y-(2-h)*W)=2*W*(2*W)*T:=by
 subst e
 grind
def WkD (H:Hp)(D:IC)(nm:IG):Prop:=∃kvs,H D=some (.dK kvs)∧∀y∈nm,∃w:Int,B4 kvs (Sum.inr y)=some (.int w)∧1≤w∧w≤1000000
theorem WkD.up {H H':Hp}{D:IC}{nm:IG}(s:Aj H H')(h:WkD H D nm):WkD H' D nm:=by
 obtain ⟨kvs,e,f⟩:=h
 exact ⟨kvs,s _ _ e,f⟩
theorem Agl (kvs:List (Bg×V))(k:Bg)(v:V):(Eo kvs k v).length≤kvs.length+1:=by
 unfold Eo
 split
 ·rw [AE]
  omega
 ·rw [AG]
  exact AF _
def Pg (K:KKf)(ns:IH):Sp:=fun vs H Q _=>match vs with
 |[.ref G,.ref S,.ref D]=>∃(gs:IQ) (nm held:IG),(Bk K H G gs∧BL nm gs∧gs.length≤50∧Au K H S (held.map V.str)∧WkD H D (A7 gs))∧(Ak3 held gs∧∃g∈gs,Crs held g)∧∀H',Aj H H'→Q (.bl true) H'
 |_=>False
theorem Zv {vs:IP}{F:IC→IC→IC→Prop}(h:match vs with|[.ref x0,.ref x1,.ref x2]=>F x0 x1 x2|_=>False):∃x0 x1 x2,vs=[.ref x0,.ref x1,.ref x2]∧F x0 x1 x2:=by
 match vs,h with
 |[.ref x0,.ref x1,.ref x2],h=>exact ⟨_,_,_,rfl,h⟩
theorem Bn:Al ["_law_rows","_law_held","_law_worths","_law_top","_law_bottom","_law_day","_law_one","_law_other","_law_halves","_law_side","_law_whole","_law_rest"] ["_law_rows","_law_held","_law_worths"] (Ad Mc):=D9
include er in
theorem Xa (d:Bt K mg "_law_short" Mc ["_law_rows","_law_held","_law_worths"]):Bc P w K mg base "_law_short" ["_law_rows","_law_held","_law_worths"] 1 (Pg K ns):=by
 refine d.cal (k:=0) Bn (fun vs H Q E hq0=>?_) (fun f cdv A outer s H vs Q E hr hq0=>?_)
 ·obtain ⟨_,_,_,rfl,_⟩:=Zv hq0
  rfl
 ·obtain ⟨G,S,D,rfl,⟨gs,nm,held,⟨⟨gv,hg,hgm,hgl⟩,bl,l50,hS,⟨kvs,eD,hD⟩⟩,⟨sh,cr⟩,k⟩⟩:=Zv hq0
  refine ⟨_,(@Aa _ _ _ _ _ (@Ak _ _ _ (3) _ _ _ Bn.nd Ae (by trivial)) (@Aa _ _ _ _ _ (@Ak _ _ _ (4) _ _ _ Bn.nd Ae (by trivial)) (@Aa _ _ _ _ _ (@C4 _ _ _ _ _ _ _ _ CB rfl (@A4 _ _ _ _ (dv 0)) (@Mv _ _ _ _ _ _ rfl (@Be _ _ _ _ _ (@Ar _ _ (5) _ Bn.nd rfl (by trivial) (by trivial)) (@Be _ _ _ _ _ (@Ar _ _ (6) _ Bn.nd rfl (by trivial) (by trivial)) (@Be _ _ _ _ _ (@Ar _ _ (7) _ Bn.nd rfl (by trivial) (by trivial)) (@Be _ _ _ _ _ (@Ar _ _ (8) _ Bn.nd rfl (by trivial) (by trivial)) (@Be _ _ _ _ _ (@Ar _ _ (9) _ Bn.nd rfl (by trivial) (by trivial)) Jn (by rfl)) (by rfl)) (by rfl)) (by rfl)) (by rfl)) (by rfl) (by rfl)) (@Dl _ _ _ _ _ (@Ak _ _ _ (10) _ _ _ Bn.nd (@Ap _ _ _ _ _ _ _ _ Dy (@Ec _ _ _ _ _ _ (@u1 _ _ hr.units) (dv 2) (dv 6) (fun _ _=>rfl)) (@Ec _ _ _ _ _ _ (@u1 _ _ hr.units) (dv 2) (dv 7) (fun _ _=>rfl))) (by trivial)) (@Dl _ _ _ _ _ (@Bl _ _ _ _ _ _ _ _ (@A0 _ _ _ _ _ _ _ _ (show Dh _ _ (Su K) from Q1) (dv 6) (dv 1) (by with_unfolding_all rfl)) (@Aa _ _ _ _ _ (@Ak _ _ _ (3) _ _ _ Bn.nd (@Ap _ _ _ _ _ _ _ _ Dy (@Ap _ _ _ _ _ _ _ _ Eb (@Ap _ _ _ _ _ _ _ _ Eb Ae (dv 10)) (dv 3)) (@Ap _ _ _ _ _ _ _ _ Eb (dv 4) (@Ap _ _ _ _ _ _ _ _ E8 (@Ap _ _ _ _ _ _ _ _ Eb Ae (@Ec _ _ _ _ _ _ (@u1 _ _ hr.units) (dv 2) (dv 6) (fun _ _=>rfl))) (@Ap _ _ _ _ _ _ _ _ Eb (dv 8) (dv 10))))) (by trivial)) (@An _ _ _ (@Ak _ _ _ (4) _ _ _ Bn.nd (@Ap _ _ _ _ _ _ _ _ Eb (@Ap _ _ _ _ _ _ _ _ Eb Ae (dv 10)) (dv 4)) (by trivial)))) Ao) (@An _ _ _ (@Bl _ _ _ _ _ _ _ _ (@A0 _ _ _ _ _ _ _ _ (show Dh _ _ (Su K) from Q1) (dv 7) (dv 1) (by with_unfolding_all rfl)) (@Aa _ _ _ _ _ (@Ak _ _ _ (11) _ _ _ Bn.nd (@Ap _ _ _ _ _ _ _ _ E8 Ae (dv 8)) (by trivial)) (@Aa _ _ _ _ _ (@Ak _ _ _ (3) _ _ _ Bn.nd (@Ap _ _ _ _ _ _ _ _ Dy (@Ap _ _ _ _ _ _ _ _ Eb (@Ap _ _ _ _ _ _ _ _ Eb Ae (dv 10)) (dv 3)) (@Ap _ _ _ _ _ _ _ _ Eb (dv 4) (@Ap _ _ _ _ _ _ _ _ E8 (@Ap _ _ _ _ _ _ _ _ Eb Ae (@Ec _ _ _ _ _ _ (@u1 _ _ hr.units) (dv 2) (dv 7) (fun _ _=>rfl))) (@Ap _ _ _ _ _ _ _ _ Eb (dv 11) (dv 10))))) (by trivial)) (@An _ _ _ (@Ak _ _ _ (4) _ _ _ Bn.nd (@Ap _ _ _ _ _ _ _ _ Eb (@Ap _ _ _ _ _ _ _ _ Eb Ae (dv 10)) (dv 4)) (by trivial))))) Ao)))) (by intro _;rfl)) (@A3 _ _ _ _ (@Bh _ _ _ _ _ _ _ _ Of (dv 3) Ae (Aq _)))))),?_⟩
  refine ⟨G,rfl,⟨_,hg⟩,C6 (K:=K) (a:=G) (xs:=gv) (fun i σ H'=>∃(T B:Int) (o6 o7 o8 o9 o10 o11 o12:Option V),σ=[some (.ref G),some (.ref S),some (.ref D),some (.int T),some (.int B),o6,o7,o8,o9,o10,o11,o12]∧H'=H∧(Bd (64*i+1) T∧Bd (64*i+1) B)∧0<B∧T≤0∧((∃g∈gs.take i,Crs held g)→T<0))
   ⟨0,1,_,_,_,_,_,_,_,rfl,rfl,⟨(Ca rfl:Bd 1 0).mono (by omega),(Ca rfl:Bd 1 1).mono (by omega)⟩,by decide,by decide,fun ⟨g,h,_⟩=>absurd h (by simp)⟩ (fun i σ H' _ ⟨_,_,_,_,_,_,_,_,_,_,e,_⟩=>e▸hg) ?_ ?_⟩
  rotate_left
  ·rintro σ H2 ⟨T,B,o6,o7,o8,o9,o10,o11,o12,rfl,rfl,_,_,_,c⟩
   have el:gs.take gv.length=gs:=by rw [hgm.len];exact CO
   rw [el] at c
   exact (congrArg (fun b=>Q (.bl b) H2) (AR (c cr))).mpr (k H2 (Aj.refl _))
  rintro i v σ H2 hv ⟨T,B,o6,o7,o8,o9,o10,o11,o12,rfl,rfl,⟨b1,b2⟩,B0,T0,cT⟩
  obtain ⟨g,eg,p,rfl,ep⟩:=hgm.get hv
  have hi:i<gs.length:=(AY.mp eg).1
  have hgi:=AN eg
  obtain ⟨m,va,a1,a2⟩:=hD g.a (B7.mpr ⟨g,hgi,.inl rfl⟩)
  obtain ⟨y,vb,c1,c2⟩:=hD g.b (B7.mpr ⟨g,hgi,.inr rfl⟩)
  have ga:Fy H2 D (.str g.a) (some (.int m)):=va▸Fy.k (k:=Sum.inr g.a) eD
  have gb:Fy H2 D (.str g.b) (some (.int y)):=vb▸Fy.k (k:=Sum.inr g.b) eD
  have hh:=bl.h0 g hgi
  refine ⟨p,_,rfl,F5.of ep,rfl,_,_,rfl,_,_,rfl,_,_,rfl,_,_,rfl,_,_,rfl,rfl,?_⟩
  refine ⟨fun σ H'=>∃W:Int,σ=[some (.ref G),some (.ref S),some (.ref D),some (.int T),some (.int B),some (.int g.d),some (.str g.a),some (.str g.b),some (.int g.h),some (.int g.s),some (.int W),o12]∧H'=H2∧m+y=W,⟨D,_,rfl,ga,D,_,rfl,gb,_,rfl,rfl,rfl⟩,?_⟩
  rintro σ H6 ⟨W,rfl,rfl,eW⟩
  have bW:Bd 25 W:=Lg (b:=18000000) (by omega) (by omega) (Ca rfl)
  have bm:Bd 25 m:=Lg (b:=9000000) (by omega) (by omega) (Ca rfl)
  have by':Bd 25 y:=Lg (b:=9000000) (by omega) (by omega) (Ca rfl)
  have two:Bd 2 2:=Ca rfl
  have bh:Bd 2 g.h:=Lg (b:=2) (by omega) (by omega) (Ca rfl)
  have bh':Bd 2 (2-g.h):=Lg (b:=2) (by omega) (by omega) (Ca rfl)
  have b2W:Bd 27 (2*W):=two.mul bW
  have bg1:Bd 28 (2*m-g.h*W):=(Bd.sub ((two.mul bm).mono (show 2+25≤27 by decide)) ((bh.mul bW).mono (show 2+25≤27 by decide))).mono (by decide)
  have bg2:Bd 28 (2*y-(2-g.h)*W):=(Bd.sub ((two.mul by').mono (show 2+25≤27 by decide)) ((bh'.mul bW).mono (show 2+25≤27 by decide))).mono (by decide)
  have W0:0<2*W:=by omega
  refine ⟨fun σ H'=>∃T1 B1:Int,σ=[some (.ref G),some (.ref S),some (.ref D),some (.int T1),some (.int B1),some (.int g.d),some (.str g.a),some (.str g.b),some (.int g.h),some (.int g.s),some (.int W),o12]∧H'=H6∧(Bd (64*i+31) T1∧Bd (64*i+31) B1)∧((g.a∈held∧T1=2*W*T+B*(2*m-g.h*W)∧B1=2*W*B)∨(g.a∉held∧T1=T∧B1=B)),?_,?_⟩
  ·refine ⟨_,.inl hS,rfl,Cm _,?_⟩
   rw [Ed]
   refine ⟨fun h=>⟨Ut two bW (by decide) (by decide),Ut b2W b1 (by decide) (by omega),D,_,rfl,ga,Ut two bm (by decide) (by decide),Ut bh bW (by decide) (by decide),Ut b2 bg1 (by omega) (by decide),Ut two bW (by decide) (by decide),Ut b2W b2 (by decide) (by omega),_,_,rfl,rfl,⟨?_,(b2W.mul b2).mono (by omega)⟩,.inl ⟨AU h,rfl,rfl⟩⟩,fun h=>⟨T,B,rfl,rfl,⟨b1.mono (by omega),b2.mono (by omega)⟩,.inr ⟨CA h,rfl,rfl⟩⟩⟩
   exact (Bd.add ((b2W.mul b1).mono (show 27+(64*i+1)≤64*i+29 by omega)) ((b2.mul bg1).mono (show 64*i+1+28≤64*i+29 by omega))).mono (by omega)
  rintro σ H7 ⟨T1,B1,rfl,rfl,⟨d1,d2⟩,o1⟩
  refine ⟨_,.inl hS,rfl,Cm _,?_⟩
  rw [Ed]
  have tk:gs.take (i+1)=gs.take i++[g]:=by rw [BY,eg];rfl
  have nxt:∀{T2 B2:Int} {o:Option V},Bd (64*(i+1)+1) T2→Bd (64*(i+1)+1) B2→0<B2→T2≤0→(Crs held g→T2<0)→(T<0→T2<0)→∃(T B:Int) (o6 o7 o8 o9 o10 o11 o12:Option V),[some (V.ref G),some (.ref S),some (.ref D),some (.int T2),some (.int B2),some (.int g.d),some (.str g.a),some (.str g.b),some (.int g.h),some (.int g.s),some (.int W),o]=[some (.ref G),some (.ref S),some (.ref D),some (.int T),some (.int B),o6,o7,o8,o9,o10,o11,o12]∧H7=H7∧(Bd (64*(i+1)+1) T∧Bd (64*(i+1)+1) B)∧0<B∧T≤0∧((∃g∈gs.take (i+1),Crs held g)→T<0):=fun {T2 B2 o} e1 e2 e3 e4 e5 e6=>⟨T2,B2,_,_,_,_,_,_,_,rfl,rfl,⟨e1,e2⟩,e3,e4,fun ⟨x,hx,c⟩=>by
   rw [tk] at hx
   rcases BH.mp hx with hx|hx
   ·exact e6 (cT ⟨x,hx,c⟩)
   ·rw [AH.mp hx] at c
    exact e5 c⟩
  have mT:∀{x:Int},T≤0→0<x→x*T≤0:=fun a b=>Int.mul_nonpos_of_nonneg_of_nonpos (Int.le_of_lt b) a
  have mT':∀{x:Int},T<0→0<x→x*T<0:=fun a b=>Int.mul_neg_of_pos_of_neg b a
  refine ⟨fun h=>?_,fun h=>?_⟩
  ·have hb:g.b∈held:=AU h
   refine ⟨Ut two bW (by decide) (by decide),Ut b2W d1 (by decide) (by omega),D,_,rfl,gb,Ut two by' (by decide) (by decide),Ut bh' bW (by decide) (by decide),Ut d2 bg2 (by omega) (by decide),Ut two bW (by decide) (by decide),Ut b2W d2 (by decide) (by omega),?_⟩
   refine nxt ?_ ((b2W.mul d2).mono (by omega)) ?_ ?_ ?_ ?_
   ·exact (Bd.add ((b2W.mul d1).mono (show 27+(64*i+31)≤64*i+60 by omega)) ((d2.mul bg2).mono (show 64*i+31+28≤64*i+60 by omega))).mono (by omega)
   all_goals rcases o1 with ⟨ha,e1,e2⟩|⟨ha,e1,e2⟩
   ·rw [e2]
    exact Int.mul_pos W0 (Int.mul_pos W0 B0)
   ·rw [e2]
    exact Int.mul_pos W0 B0
   ·rw [e1,e2,Zx eW]
    exact mT T0 (Int.mul_pos W0 W0)
   ·have h0:=(sh g hgi).2 hb ha
    rw [e1,e2,h0]
    have a:=mT T0 W0
    have b:=Int.mul_pos B0 (show 0<m by omega)
    have e:B*(2*y-(2-0)*W)=-(2*(B*m)):=by rw [←eW];grind
    omega
   ·intro c
    rcases c with c|c
    ·exact absurd hb c.2
    ·exact absurd ha c.2
   ·intro _
    have h0:=(sh g hgi).2 hb ha
    rw [e1,e2,h0]
    have a:=mT T0 W0
    have b:=Int.mul_pos B0 (show 0<m by omega)
    have e:B*(2*y-(2-0)*W)=-(2*(B*m)):=by rw [←eW];grind
    omega
   ·intro t
    rw [e1,e2,Zx eW]
    exact mT' t (Int.mul_pos W0 W0)
   ·intro t
    have h0:=(sh g hgi).2 hb ha
    rw [e1,e2,h0]
    have a:=mT' t W0
    have b:=Int.mul_pos B0 (show 0<m by omega)
    have e:B*(2*y-(2-0)*W)=-(2*(B*m)):=by rw [←eW];grind
    omega
  ·have hb:g.b∉held:=CA h
   refine nxt (d1.mono (by omega)) (d2.mono (by omega)) ?_ ?_ ?_ ?_
   all_goals rcases o1 with ⟨ha,e1,e2⟩|⟨ha,e1,e2⟩
   ·rw [e2]
    exact Int.mul_pos W0 B0
   ·rw [e2]
    exact B0
   ·have h0:=(sh g hgi).1 ha hb
    rw [e1,h0]
    have a:=mT T0 W0
    have b:=Int.mul_pos B0 (show 0<y by omega)
    have e:B*(2*m-2*W)=-(2*(B*y)):=by rw [←eW];grind
    omega
   ·rw [e1]
    exact T0
   ·intro _
    have h0:=(sh g hgi).1 ha hb
    rw [e1,h0]
    have a:=mT T0 W0
    have b:=Int.mul_pos B0 (show 0<y by omega)
    have e:B*(2*m-2*W)=-(2*(B*y)):=by rw [←eW];grind
    omega
   ·intro c
    rcases c with c|c
    ·exact absurd c.1 ha
    ·exact absurd c.1 hb
   ·intro t
    have h0:=(sh g hgi).1 ha hb
    rw [e1,h0]
    have a:=mT' t W0
    have b:=Int.mul_pos B0 (show 0<y by omega)
    have e:B*(2*m-2*W)=-(2*(B*y)):=by rw [←eW];grind
    omega
   ·intro t
    rw [e1]
    exact t
def Ih (K:KKf)(ns:IH):Sp:=fun vs H Q _=>match vs with
 |[.ref G,.ref S,.ref D]=>∃(gs:IQ) (nm held:IG),(Bk K H G gs∧BL nm gs∧gs.length≤50∧Au K H S (held.map V.str)∧WkD H D (A7 gs))∧(Ak3 held gs∧∃g∈gs,Crs held g)∧∀H',Aj H H'→Q (.bl true) H'
 |_=>False
theorem Bv:Al ["_law_rows","_law_held","_law_worths","_law_joins","_law_day","_law_one","_law_other","_law_halves","_law_side"] ["_law_rows","_law_held","_law_worths"] (Ad Gg):=D9
include er n_int in
theorem Py (d:Bt K mg "_law_none_seen" Gg ["_law_rows","_law_held","_law_worths"])  (c_l_short:Bc P w K mg base "_law_short" ["_law_rows","_law_held","_law_worths"] 1 (Pg K ns)):Bc P w K mg base "_law_none_seen" ["_law_rows","_law_held","_law_worths"] 2 (Ih K ns):=by
 refine d.cal (k:=1) Bv (fun vs H Q E hq0=>?_) (fun f cdv A outer s H vs Q E hr hq0=>?_)
 ·obtain ⟨_,_,_,rfl,_⟩:=Zv hq0
  rfl
 ·obtain ⟨G,S,D,rfl,⟨gs,nm,held,⟨hB,bl,l50,hS,wk⟩,⟨sh,cr⟩,k⟩⟩:=Zv hq0
  refine ⟨_,(@Aa _ _ _ _ _ (@Ak _ _ _ (3) _ _ _ Bv.nd Ae (by trivial)) (@Aa _ _ _ _ _ (@C4 _ _ _ _ _ _ _ _ CB rfl (@A4 _ _ _ _ (dv 0)) (@Mv _ _ _ _ _ _ rfl (@Be _ _ _ _ _ (@Ar _ _ (4) _ Bv.nd rfl (by trivial) (by trivial)) (@Be _ _ _ _ _ (@Ar _ _ (5) _ Bv.nd rfl (by trivial) (by trivial)) (@Be _ _ _ _ _ (@Ar _ _ (6) _ Bv.nd rfl (by trivial) (by trivial)) (@Be _ _ _ _ _ (@Ar _ _ (7) _ Bv.nd rfl (by trivial) (by trivial)) (@Be _ _ _ _ _ (@Ar _ _ (8) _ Bv.nd rfl (by trivial) (by trivial)) Jn (by rfl)) (by rfl)) (by rfl)) (by rfl)) (by rfl)) (by rfl) (by rfl)) (@An _ _ _ (@Bl _ _ _ _ _ _ _ _ (@A0 _ _ _ _ _ _ _ _ Ky (@Bh _ _ _ _ _ _ _ _ (show Dh _ _ (Su K) from Q1) (dv 5) (dv 1) (by with_unfolding_all rfl)) (@Bh _ _ _ _ _ _ _ _ (show Dh _ _ (Su K) from Q1) (dv 6) (dv 1) (by with_unfolding_all rfl)) (Aq _)) (@Aa _ _ _ _ _ (@Ak _ _ _ (3) _ _ _ Bv.nd (@Ap _ _ _ _ _ _ _ _ Dy (dv 3) Ae) (by trivial)) (@An _ _ _ (@Bl _ _ _ _ _ _ _ _ (@A0 _ _ _ _ _ _ _ _ Ky (dv 7) (@Ap _ _ _ _ _ _ _ _ Eb Ae (@Cb _ _ _ _ _ _ _ _ _ Pp n_int (by decide +kernel) (@Bf _ _ _ (@Bh _ _ _ _ _ _ _ _ (show Dh _ _ (Su K) from Q1) (dv 5) (dv 1) (by with_unfolding_all rfl)) (by rfl)) (by trivial))) (Aq _)) (@A3 _ _ _ _ Fw) Ao))) Ao)) (by intro _;rfl)) (@A3 _ _ _ _ (@J4 _ _ _ _ _ _ _ (@Bh _ _ _ _ _ _ _ _ Aam (dv 3) Ae (Aq _)) (@G3 _ _ _ _ _ (@Af _ _ _ _ _ _ _ _ _ _ _ c_l_short hr (@Ai _ _ _ _ _ (dv 0) (@Ai _ _ _ _ _ (dv 1) (@Bf _ _ _ (dv 2) (by rfl)) (by rfl)) (by rfl)) (by trivial))))))),?_⟩
  obtain ⟨gv,hg,hgm,hgl⟩:=id hB
  refine ⟨G,rfl,⟨_,hg⟩,C6 (K:=K) (a:=G) (xs:=gv) (fun i σ H'=>∃(J:Int) (o5 o6 o7 o8 o9:Option V),σ=[some (.ref G),some (.ref S),some (.ref D),some (.int J),o5,o6,o7,o8,o9]∧H'=H∧0≤J∧((∃g∈gs.take i,Crs held g)→0<J))
   ⟨0,_,_,_,_,_,rfl,rfl,FT _,fun ⟨g,h,_⟩=>absurd h (by simp)⟩ (fun i σ H' _ ⟨_,_,_,_,_,_,_,e,_⟩=>e▸hg) ?_ ?_⟩
  rotate_left
  ·rintro σ H3 ⟨J,o5,o6,o7,o8,o9,rfl,rfl,_,c⟩
   have el:gs.take gv.length=gs:=by rw [hgm.len];exact CO
   rw [el] at c
   exact ⟨fun _=>⟨gs,nm,held,⟨hB,bl,l50,hS,wk⟩,⟨sh,cr⟩,k⟩,fun h=>absurd (c cr) (CA h)⟩
  rintro i v σ H3 hv ⟨J,o5,o6,o7,o8,o9,rfl,rfl,J0,cJ⟩
  obtain ⟨g,eg,p,rfl,ep⟩:=hgm.get hv
  have hgi:=AN eg
  have tk:gs.take (i+1)=gs.take i++[g]:=by rw [BY,eg];rfl
  refine ⟨p,_,rfl,F5.of ep,rfl,_,_,rfl,_,_,rfl,_,_,rfl,_,_,rfl,_,_,rfl,rfl,?_⟩
  refine ⟨_,.inl hS,rfl,Cm _,?_⟩
  rw [Ed]
  refine ⟨_,.inl hS,rfl,Cm _,?_⟩
  rw [Ed]
  have nxt:∀{J2:Int},J≤J2→(Crs held g→J<J2)→∃(J:Int) (o5 o6 o7 o8 o9:Option V),[some (V.ref G),some (.ref S),some (.ref D),some (.int J2),some (.int g.d),some (.str g.a),some (.str g.b),some (.int g.h),some (.int g.s)]=[some (.ref G),some (.ref S),some (.ref D),some (.int J),o5,o6,o7,o8,o9]∧H3=H3∧0≤J∧((∃g∈gs.take (i+1),Crs held g)→0<J):=fun {J2} h1 h2=>⟨J2,_,_,_,_,_,rfl,rfl,by omega,fun ⟨x,hx,c⟩=>by
   rw [tk] at hx
   rcases BH.mp hx with hx|hx
   ·have:=cJ ⟨x,hx,c⟩
    omega
   ·rw [AH.mp hx] at c
    have:=h2 c
    omega⟩
  have two:Bd 2 2:=Ca rfl
  have s2:=sh g hgi
  by_cases ha:g.a∈held<;>by_cases hb:g.b∈held
  ·rw [AR ha,AR hb]
   exact ⟨fun h=>nb h,fun _=>nxt (FT _) fun c=>(c.elim (fun c=>absurd hb c.2) fun c=>absurd ha c.2)⟩
  ·have h2:=s2.1 ha hb
   rw [AR ha,BF hb]
   refine ⟨fun _=>⟨_,.inl hS,rfl,Cm _,?_⟩,fun h=>nb h⟩
   rw [Ed,AR ha]
   refine ⟨Ut two (Ca rfl:Bd 1 1) (by decide) (by decide),⟨fun h=>?_,fun _=>nxt (by omega) fun _=>by omega⟩⟩
   rw [h2] at h
   exact nb h
  ·have h2:=s2.2 hb ha
   rw [BF ha,AR hb]
   refine ⟨fun _=>⟨_,.inl hS,rfl,Cm _,?_⟩,fun h=>nb h⟩
   rw [Ed,BF ha]
   refine ⟨Ut two (Ca rfl:Bd 1 0) (by decide) (by decide),⟨fun h=>?_,fun _=>nxt (by omega) fun _=>by omega⟩⟩
   rw [h2] at h
   exact nb h
  ·rw [BF ha,BF hb]
   exact ⟨fun h=>nb h,fun _=>nxt (FT _) fun c=>(c.elim (fun c=>absurd c.1 ha) fun c=>absurd c.1 hb)⟩
theorem Adv {a b c d:Str}:PyData.eqv (.tuple [.str a,.str b]) (.tuple [.str c,.str d])=decide (a=c∧b=d):=by
 show ((a==c)&&((b==d)&&true))=_
 rw [Bool.and_true]
 by_cases h1:a=c<;>by_cases h2:b=d<;>simp [h1,h2]
theorem Td {a b:Str}(ha:PyData.strOk a=true)(hb:PyData.strOk b=true):SeqAt.shaped (.tuple [.str a,.str b])=true:=by
 unfold SeqAt.shaped
 have e:(PyData.tuple [.str a,.str b]).canLay0=true:=by
  show (PyData.canLay0 (.str a)&&(PyData.canLay0 (.str b)&&true))=true
  rw [show PyData.canLay0 (.str a)=PyData.strOk a from rfl,show PyData.canLay0 (.str b)=PyData.strOk b from rfl,ha,hb]
  rfl
 have d:(PyData.tuple [.str a,.str b]).depth=1:=rfl
 rw [e,HK,d]
 rfl
def R0 (K:KKf)(ns:IH):Sp:=fun vs H Q _=>match vs with
 |[.ref G,.ref F,.str x,.str y]=>∃(gs:IQ) (nm ws:IG),(Bk K H G gs∧BL nm gs∧gs.length≤50∧(∀x∈nm,PyData.strOk x=true)∧H F=some (.lst (ws.map V.str))∧ws.length≤100)∧(ws[0]? =some x∧ws.getLast? =some y∧Sws gs ws∧∀w∈ws,w∈nm)∧∀H',Aj H H'→Q (.bl true) H'
 |_=>False
theorem Aei {vs:IP}{F:IC→IC→Str→Str→Prop}(h:match vs with|[.ref x0,.ref x1,.str x2,.str x3]=>F x0 x1 x2 x3|_=>False):∃x0 x1 x2 x3,vs=[.ref x0,.ref x1,.str x2,.str x3]∧F x0 x1 x2 x3:=by
 match vs,h with
 |[.ref x0,.ref x1,.str x2,.str x3],h=>exact ⟨_,_,_,_,rfl,h⟩
theorem Jk:Al ["_law_rows","_law_found","_law_one","_law_other","_law_k","_law_won"] ["_law_rows","_law_found","_law_one","_law_other"] (Ad P2):=D9
include er n_range n_len in
theorem Abj (d:Bt K mg "_law_gone" P2 ["_law_rows","_law_found","_law_one","_law_other"]):Bc P w K mg base "_law_gone" ["_law_rows","_law_found","_law_one","_law_other"] 1 (R0 K ns):=by
 refine d.cal (k:=0) Jk (fun vs H Q E hq0=>?_) (fun f cdv A outer s H vs Q E hr hq0=>?_)
 ·obtain ⟨_,_,_,_,rfl,_⟩:=Aei hq0
  rfl
 ·obtain ⟨G,F,x,y,rfl,⟨gs,nm,ws,⟨hB,bl,l50,sok,eF,lF⟩,⟨w0,wl,sw,sub⟩,k⟩⟩:=Aei hq0
  refine ⟨_,(@Aa _ _ _ _ _ (@Bl _ _ _ _ _ _ _ _ (@L2.PW.pt _ _ _ (@J9 _ _ _ _ _ _ _ (@A0 _ _ _ _ _ _ _ _ (@Pa _ hr.units) (dv 1) (@Hu _ _ _ _ Ag) (Aq _)) (@J9 _ _ _ _ _ _ _ (@A0 _ _ _ _ _ _ _ _ Ky (@Gv _ _ _ _ _ _ _ (dv 1)) (dv 2) (Aq _)) (@Fp _ _ _ _ (@A0 _ _ _ _ _ _ _ _ Ky (@Co _ _ _ _ _ _ _ Dd (dv 1) (@Nf _ _ _ _ _ _ M3 Ae) (fun _ _=>rfl)) (dv 3) (Aq _)))))) (@A3 _ _ _ _ Fw) Ao) (@Aa _ _ _ _ _ (@C4 _ _ _ _ _ _ _ _ CB rfl (@Aat _ _ _ _ _ _ _ (by rfl) n_range (@Ab _ _ _ _ _ Ae (@Ab _ _ _ _ _ (@Av _ _ _ _ _ _ _ _ _ D6 n_len (by decide +kernel) (@Bf _ _ _ (dv 1) (by rfl)) (by trivial)) Ag (by rfl)) (by rfl)) (by rfl) (by rfl)) (@Ar _ _ (4) _ Jk.nd rfl (by trivial) (by trivial)) (@Aa _ _ _ _ _ (@Ry _ _ _ _ _ _ _ _ _ (5) _ _ _ _ _ _ ["_law_row"] ["_law_found","_law_k"] [1,4] rfl (@A4 _ _ _ _ (dv 0)) (fun C s H fp=>(@Ar _ _ (0) _ (show List.Nodup [("_law_row":Str),("_law_found":Str),("_law_k":Str)] by decide +kernel) rfl (by trivial) (by trivial))) (fun C s H fp=>(@L2.PW.pt _ _ _ (@Jw _ _ _ _ _ _ _ (@A0 _ _ _ _ _ _ _ _ (show Dh _ _ (Ajq K) from (Pa hr.units)) (@C7 _ _ _ _ _ _ _ _ _ _ (show SlR _ (Alk K) from T7) (dv 0) (Cj Ae) (Cj Ae)) (@Dx _ _ _ _ _ (@Ab _ _ _ _ _ (@Co _ _ _ _ _ _ _ (show Wv _ (Ug K) from Dd) (dv 1) (dv 2) (fun _ _=>rfl)) (@Ab _ _ _ _ _ (@Co _ _ _ _ _ _ _ (show Wv _ (Ug K) from Dd) (dv 1) (@Ap _ _ _ _ _ _ _ _ E8 (dv 2) Ae) (fun _ _=>rfl)) Ag (by rfl)) (by rfl))) (Aq _)) (@Fe _ _ _ _ (@A0 _ _ _ _ _ _ _ _ Aam (@Bx _ _ _ _ _ _ _ (dv 0)) Ae (Aq _)))))) (fun C s H fp=>(dv 0)) rfl rfl (by decide +kernel) (by decide +kernel) (by rfl) ⟨rfl,⟨rfl,⟨⟩⟩⟩ ⟨⟨rfl,rfl,rfl,rfl⟩,⟨⟨rfl,rfl,rfl,rfl⟩,⟨⟩⟩⟩ Jk.nd rfl rfl (by intro _;rfl) (by rfl)) (@Aa _ _ _ _ _ (@Ak _ _ _ (5) _ _ _ Jk.nd (@Ap _ _ _ _ _ _ _ _ L6 (dv 5) (@Ln _ _ _ _ _ _ _ _ _ _ _ _ ["_law_row"] ["_law_found","_law_k"] [1,4] rfl (@A4 _ _ _ _ (dv 0)) (fun C s H fp=>(@Ar _ _ (0) _ (show List.Nodup [("_law_row":Str),("_law_found":Str),("_law_k":Str)] by decide +kernel) rfl (by trivial) (by trivial))) (fun C s H fp=>(@L2.PW.pt _ _ _ (@Jw _ _ _ _ _ _ _ (@A0 _ _ _ _ _ _ _ _ (show Dh _ _ (Ajq K) from (Pa hr.units)) (@C7 _ _ _ _ _ _ _ _ _ _ (show SlR _ (Alk K) from T7) (dv 0) (Cj Ae) (Cj Ae)) (@Dx _ _ _ _ _ (@Ab _ _ _ _ _ (@Co _ _ _ _ _ _ _ (show Wv _ (Ug K) from Dd) (dv 1) (@Ap _ _ _ _ _ _ _ _ E8 (dv 2) Ae) (fun _ _=>rfl)) (@Ab _ _ _ _ _ (@Co _ _ _ _ _ _ _ (show Wv _ (Ug K) from Dd) (dv 1) (dv 2) (fun _ _=>rfl)) Ag (by rfl)) (by rfl))) (Aq _)) (@Fe _ _ _ _ (@A0 _ _ _ _ _ _ _ _ Of (@Bx _ _ _ _ _ _ _ (dv 0)) Ae (Aq _)))))) (fun C s H fp=>(dv 0)) rfl rfl (by decide +kernel) (by decide +kernel) (by rfl) ⟨rfl,⟨rfl,⟨⟩⟩⟩ ⟨⟨rfl,rfl,rfl,rfl⟩,⟨⟨rfl,rfl,rfl,rfl⟩,⟨⟩⟩⟩ (by intro _;rfl))) (by trivial)) (@An _ _ _ (@Bl _ _ _ _ _ _ _ _ (@A0 _ _ _ _ _ _ _ _ (@Pa _ hr.units) (dv 5) (@Hu _ _ _ _ Ag) (Aq _)) (@A3 _ _ _ _ Fw) Ao)))) (by intro _;rfl)) (@A3 _ _ _ _ Fw))),?_⟩
  have lw:=(AY.mp w0).1
  have hat:∀{i:Nat} {a:Str},ws[i]? =some a→Na (ws.map V.str) (i:Int)=some (.str a):=fun h=>A1 (by rw [BE,h];rfl)
  refine fun N0 H0 s0 e0=>?_
  have eF:=s0 _ _ eF
  have hB:=hB.up s0
  have k:=fun H' s=>k H' (s0.trans s)
  clear s0
  have okw:∀z∈ws,PyData.strOk z=true:=fun z hz=>sok z (sub z hz)
  refine ⟨_,_,Gb (Au.of eF),.lst (Au.of e0) .nil,Fb okw,rfl,?_⟩
  have ev:PyData.eqv (.list (ws.map PyData.str)) (.list [])=false:=by
   cases ws with
   |nil=>exact absurd lw (by simp)
   |cons g F=>rfl
  rw [ev]
  clear e0 N0
  obtain ⟨H,rfl⟩:∃H',H'=H0:=⟨_,rfl⟩
  refine ⟨fun h=>nb h,fun _=>⟨_,_,Au.of eF,hat w0,⟨fun h=>absurd h (by simp),fun _=>⟨_,_,Au.of eF,Acb (show (ws.map V.str).getLast? =some (.str y) by rw [List.getLast?_map,wl];rfl),⟨fun h=>absurd h (by simp),fun _=>?_⟩⟩⟩⟩⟩
  refine ⟨_,.inl (Au.of eF),?_⟩
  rw [AE]
  refine ⟨_,_,rfl,⟨by decide,by decide,by omega,by omega⟩,Fm (lo:=1) (n:=((ws.length:Int)-1).toNat) (fun i σ H'=>∃o4 o5:Option V,σ=[some (.ref G),some (.ref F),some (.str x),some (.str y),o4,o5]∧Aj H H') ⟨none,none,rfl,Aj.refl _⟩ ?_ ?_⟩
  rotate_left
  ·rintro σ H1 ⟨o4,o5,rfl,s1⟩
   exact k H1 s1
  rintro i σ H1 hi ⟨o4,o5,rfl,s1⟩
  obtain ⟨b,hb⟩:∃b,ws[i+1]? =some b:=⟨_,AD (by omega)⟩
  obtain ⟨a,ha⟩:∃a,ws[i]? =some a:=⟨_,AD (by omega)⟩
  have atB:Na (ws.map V.str) (1+(i:Int))=some (.str b):=by
   have:=hat hb
   rw [show ((i+1:Nat):Int)=1+(i:Int) by omega] at this
   exact this
  have atA:Na (ws.map V.str) (1+(i:Int)-1)=some (.str a):=by
   have:=hat ha
   rw [show (i:Int)=1+(i:Int)-1 by omega] at this
   exact this
  have okA:=sok a (sub a (AN ha))
  have okB:=sok b (sub b (AN hb))
  obtain ⟨gv,hg,hgm,hgl⟩:=hB.up s1
  refine ⟨G,rfl,⟨_,hg⟩,Gx Bp Bm (fun H g y=>Bp H y g) (fun g y H H' kt h=>Bm y g _ _ kt h) (fun g=>decide (g.a=b∧g.b=a)&&decide (0<g.h)) (by rw [hgm.len];omega) hg hgm ?_ ?_⟩
  ·intro v g H2 hM hmm s2 P P' hP hP'
   obtain ⟨p,rfl,ep⟩:=hM
   refine ⟨rfl,1,rfl,3,rfl,p,_,rfl,F5.of ep,(show ¬(1=0∧3=5) by decide),fun q hq=>?_⟩
   have s3:Aj H2 (upd H2 q (.tup (Fd [.int g.d,.str g.a,.str g.b,.int g.h,.int g.s] (some 1) (some 3)))):=Ah hq
   have e3:upd H2 q (.tup (Fd [.int g.d,.str g.a,.str g.b,.int g.h,.int g.s] (some 1) (some 3))) q=some (.tup [.str g.a,.str g.b]):=Ac
   generalize upd H2 q (.tup (Fd [.int g.d,.str g.a,.str g.b,.int g.h,.int g.s] (some 1) (some 3)))=H3' at s3 e3
   have eF3:=((s1.trans s2).trans s3) _ _ eF
   refine ⟨_,_,Au.of eF3,atB,_,_,Au.of eF3,atA,fun T H4 s4 e4=>⟨_,_,.tup (F5.of (s4 _ _ e3)) (.cons (.str _) (.cons (.str _) .nil)),.tup (F5.of e4) (.cons (.str _) (.cons (.str _) .nil)),Td (sok _ (bl.mem g hmm).1) (sok _ (bl.mem g hmm).2),Td okB okA,?_⟩⟩
   rw [Adv]
   have s34:=s3.trans s4
   refine ⟨fun h=>⟨_,s34 _ _ ep,⟨fun h'=>hP (by rw [BV];exact ⟨h,h'⟩) _ _ s34 ⟨p,rfl,s34 _ _ ep⟩,fun h'=>hP' ?_ _ s34⟩⟩,fun h=>⟨fun h=>nb h,fun _=>hP' (by rw [h,EB]) _ s34⟩⟩
   have h':decide (0<g.h)=false:=h'
   rw [h',FB]
  intro D2 H2 ys s2 _ e2 a2
  have hg2:=s2.seq hg
  have hgm2:Az (Bp H2) gv gs:=hgm.imp fun v g r=>Bm v g _ _ (Bq s2) r
  refine ⟨G,rfl,⟨_,hg2⟩,Gx Bp Bm (fun H g y=>Bp H y g) (fun g y H H' kt h=>Bm y g _ _ kt h) (fun g=>decide (g.a=a∧g.b=b)&&decide (g.h<2)) (by rw [hgm2.len];omega) hg2 hgm2 ?_ ?_⟩
  ·intro v g H3 hM hmm s3' P P' hP hP'
   obtain ⟨p,rfl,ep⟩:=hM
   refine ⟨rfl,1,rfl,3,rfl,p,_,rfl,F5.of ep,(show ¬(1=0∧3=5) by decide),fun q hq=>?_⟩
   have s3:Aj H3 (upd H3 q (.tup (Fd [.int g.d,.str g.a,.str g.b,.int g.h,.int g.s] (some 1) (some 3)))):=Ah hq
   have e3:upd H3 q (.tup (Fd [.int g.d,.str g.a,.str g.b,.int g.h,.int g.s] (some 1) (some 3))) q=some (.tup [.str g.a,.str g.b]):=Ac
   generalize upd H3 q (.tup (Fd [.int g.d,.str g.a,.str g.b,.int g.h,.int g.s] (some 1) (some 3)))=H3' at s3 e3
   have eF3:=((s1.trans (s2.trans s3')).trans s3) _ _ eF
   refine ⟨_,_,Au.of eF3,atA,_,_,Au.of eF3,atB,fun T H4 s4 e4=>⟨_,_,.tup (F5.of (s4 _ _ e3)) (.cons (.str _) (.cons (.str _) .nil)),.tup (F5.of e4) (.cons (.str _) (.cons (.str _) .nil)),Td (sok _ (bl.mem g hmm).1) (sok _ (bl.mem g hmm).2),Td okA okB,?_⟩⟩
   rw [Adv]
   have s34:=s3.trans s4
   refine ⟨fun h=>⟨_,s34 _ _ ep,⟨fun h'=>hP (by rw [BV];exact ⟨h,h'⟩) _ _ s34 ⟨p,rfl,s34 _ _ ep⟩,fun h'=>hP' ?_ _ s34⟩⟩,fun h=>⟨fun h=>nb h,fun _=>hP' (by rw [h,EB]) _ s34⟩⟩
   have h':decide (g.h<2)=false:=h'
   rw [h',FB]
  intro D3 H3 zs s3 _ e3 a3
  have l2:=a2.len
  have l3:=a3.len
  have lf2:(gs.filter fun g=>decide (g.a=b∧g.b=a)&&decide (0<g.h)).length≤gs.length:=DE _ _
  have lf3:(gs.filter fun g=>decide (g.a=a∧g.b=b)&&decide (g.h<2)).length≤gs.length:=DE _ _
  refine ⟨_,_,s3 _ _ e2,e3,by omega,fun D4 H4 s4 e4=>fun N H5 s5 e5=>?_⟩
  have s25:=s3.trans (s4.trans s5)
  have a2':Az (fun g y=>Bp H5 y g) (gs.filter fun g=>decide (g.a=b∧g.b=a)&&decide (0<g.h)) ys:=a2.imp fun g y r=>Bm y g _ _ (Bq s25) r
  have a3':Az (fun g y=>Bp H5 y g) (gs.filter fun g=>decide (g.a=a∧g.b=b)&&decide (g.h<2)) zs:=a3.imp fun g y r=>Bm y g _ _ (Bq (s4.trans s5)) r
  obtain ⟨F,hF⟩:∃F,F=(gs.filter fun g=>decide (g.a=b∧g.b=a)&&decide (0<g.h))++gs.filter fun g=>decide (g.a=a∧g.b=b)&&decide (g.h<2):=⟨_,rfl⟩
  have aF:Az (Bp H5) (ys++zs) F:=hF▸(Up a2').app (Up a3')
  have sF:∀g∈F,g∈gs:=fun g hg=>by
   rw [hF] at hg
   rcases BH.mp hg with h|h
   ·exact (CF.mp h).1
   ·exact (CF.mp h).1
  refine ⟨.list (F.map gd),.list [],Tg (Au.of (s5 _ _ e4)) aF,.lst (Au.of e5) .nil,Xp fun g hg=>⟨sok _ (bl.mem g (sF g hg)).1,sok _ (bl.mem g (sF g hg)).2⟩,rfl,?_⟩
  have ne:F≠[]:=fun c=>by
   obtain ⟨g,hg,⟨e1,e2,e3⟩|⟨_,e1,e2,e3⟩⟩:=Ff.mp (sw i a b ha hb)
   ·have:g∈F:=by
     rw [hF]
     exact BA _ (CF.mpr ⟨hg,by rw [BV];exact ⟨AR ⟨e1,e3.symm⟩,AR e2⟩⟩)
    rw [c] at this
    cases this
   ·have:g∈F:=by
     rw [hF]
     exact CC _ (CF.mpr ⟨hg,by rw [BV];exact ⟨AR ⟨e3.symm,e1⟩,AR e2⟩⟩)
    rw [c] at this
    cases this
  have ev:PyData.eqv (.list (F.map gd)) (.list [])=false:=by
   cases F with
   |nil=>exact absurd rfl ne
   |cons g F=>rfl
  rw [ev]
  exact ⟨fun h=>nb h,fun _=>⟨_,_,rfl,s1.trans (s2.trans s25)⟩⟩
theorem Ahf:∀{ws:IG},ws≠[]→(∀w∈ws,1≤w.length)→Str.join E9 ws≠Str.ofString ""
 |[],h,_=>absurd rfl h
 | a::ws,_,hw=>fun z=>by
  have h1:=hw a AO
  have e:(co (Str.join E9 (a::ws))).length=(co (Str.ofString "")).length:=congrArg (fun x=>(co x).length) z
  cases ws with
  |nil=>
   have e:(co a).length=0:=e.trans (by decide +kernel)
   rw [A2] at e
   omega
  |cons b ws=>
   rw [Di,AG,A2 a,show (co (Str.ofString "")).length=0 from by decide +kernel] at e
   omega
theorem Ah5 {α:Type}{l:List α}{f:α→Str}(hw:∀x∈l,1≤(f x).length):(Str.join E9 (l.map f)≠Str.ofString ""→(if l=[] then Str.ofString "none" else Str.join E9 (l.map f))=Str.join E9 (l.map f))∧(Str.join E9 (l.map f)=Str.ofString ""→(if l=[] then Str.ofString "none" else Str.join E9 (l.map f))=Str.ofString "none"):=by
 refine ⟨fun h=>AW fun z=>h ?_,fun h=>AZ (DA fun z=>Ahf (ws:=l.map f) (by simpa using z) (fun w hw'=>?_) h)⟩
 ·rw [z]
  show Str.join E9 []=Str.ofString ""
  decide +kernel
 ·obtain ⟨x,hx,rfl⟩:=BG.mp hw'
  exact hw x hx
theorem Iv {T:IC}{H H':Hp}{pos:Pos}{q:Str}(s:Ow T H H')(tk:A8 H T pos q):(∀b xs,H b=some (.lst xs)→H' b=some (.lst xs))∧Kt H H':=by
 obtain ⟨ps,eT,_⟩:=tk
 exact ⟨fun b xs e=>s b _ (fun z=>by rw [z,eT] at e;cases e) e,fun b xs e=>s b _ (fun z=>by rw [z,eT] at e;cases e) e⟩
theorem Aiq {L A T:IC}{H H':Hp}(s:Ow T H H'):Fr3 L A T H H':=fun b o _ _ n e=>s b o n e
theorem Hn.sm {K:KKf}{H H':Hp}{Z L A R:IC}{es:List En}{last:Int}(s:Ow (Dv K) H H')(tk:A8 H (Dv K) Dg Jr)(h:Hn K H Z L A R es last):Hn K H' Z L A R es last:=h.fr tk (Aiq s) (h.2.2.smt s tk)
structure Wk (K:KKf)(H:Hp)(Z L A R:IC)(es:List En)(last:Int)(G:IC)(gs:IQ)(nm:IG):Prop where
 dk:Hn K H Z L A R es last
 eg:es.map (·.2)=gs
 p8:(A7 gs).length≤8
 go:∀g∈gs,GO g
 tk:A8 H (Dv K) Dg Jr
 bk:X9 H G gs
 bl:BL nm gs
 l40:gs.length≤40
 sok:∀x∈nm,PyData.strOk x=true
theorem Wk.le {K:KKf}{H:Hp}{Z L A R:IC}{es:List En}{last:Int}{G:IC}{gs:IQ}{nm:IG}(h:Wk K H Z L A R es last G gs nm):es.length≤40∧(A7 (es.map (·.2))).length≤8∧∀e∈es,GO e.2:=by
 have e:=h.eg
 have l:=h.l40
 rw [←e,AE] at l
 exact ⟨l,by rw [e];exact h.p8,fun x hx=>h.go _ (e▸BG.mpr ⟨x,hx,rfl⟩)⟩
theorem Wk.up {K:KKf}{H H':Hp}{Z L A R:IC}{es:List En}{last:Int}{G:IC}{gs:IQ}{nm:IG}(s:Aj H H')(h:Wk K H Z L A R es last G gs nm):Wk K H' Z L A R es last G gs nm:=by
 obtain ⟨vs,e,al⟩:=h.bk
 exact ⟨h.dk.up s,h.eg,h.p8,h.go,h.tk.up s,⟨vs,s _ _ e,al.imp fun v g r=>Bm v g _ _ (Bq s) r⟩,h.bl,h.l40,h.sok⟩
theorem Wk.sm {K:KKf}{H H':Hp}{Z L A R:IC}{es:List En}{last:Int}{G:IC}{gs:IQ}{nm:IG}(s:Ow (Dv K) H H')(tk:A8 H' (Dv K) Dg Jr)(h:Wk K H Z L A R es last G gs nm):Wk K H' Z L A R es last G gs nm:=by
 obtain ⟨vs,e,al⟩:=h.bk
 obtain ⟨k1,k2⟩:=Iv s h.tk
 exact ⟨h.dk.sm s h.tk,h.eg,h.p8,h.go,tk,⟨vs,k1 _ _ e,al.imp fun v g r=>Bm v g _ _ k2 r⟩,h.bl,h.l40,h.sok⟩
theorem tj (ws:IG):co (Txt.join (Str.ofString " ") ws)=co (Str.join ⟨#[32]⟩ ws):=F7 _ _
theorem Agk {x y:Str}(hx:Nm x)(hy:Nm y):(Txt.join (Str.ofString " ") [Str.ofString "way",x,y]).length≤900∧(Txt.partition (Txt.join (Str.ofString " ") [Str.ofString "way",x,y]) ⟨#[32]⟩).1=Str.ofString "way"∧Txt.split (Txt.join (Str.ofString " ") [Str.ofString "way",x,y]) ⟨#[32]⟩=[Str.ofString "way",x,y]:=by
 have nx:32∉co x:=M8 hx (by omega)
 have ny:32∉co y:=M8 hy (by omega)
 have n0:32∉co (Str.ofString "way"):=by decide +kernel
 refine ⟨?_,?_,G1 32 (by simp) (fun p hp=>?_) (tj _)⟩
 ·have h1:=Fi (M:=8) (y:=Str.ofString " ") (ws:=[Str.ofString "way",x,y]) fun p hp=>by
   rcases AS.mp hp with rfl|hp
   ·decide +kernel
   rcases AS.mp hp with rfl|hp
   ·exact Cz hx
   ·rw [AH.mp hp]
    exact Cz hy
  rw [show (Str.ofString " ").length=1 from by decide +kernel] at h1
  exact AI h1 (by show 3*9≤900;decide)
 ·have e:co (Txt.join (Str.ofString " ") [Str.ofString "way",x,y])=co (Str.ofString "way")++32::co (Str.join ⟨#[32]⟩ [x,y]):=by
   rw [tj,Di]
   rfl
  rw [Uw e n0]
 ·rcases AS.mp hp with rfl|hp
  ·exact n0
  rcases AS.mp hp with rfl|hp
  ·exact nx
  ·rw [AH.mp hp]
   exact ny
def Jv (K:KKf)(ns:IH):Sp:=fun vs H Q _=>match vs with
 |[.ref Z,.ref G,.str x,.ref N]=>∃(L A R:IC) (es:List En) (last:Int) (gs:IQ) (nm met:IG),(Wk K H Z L A R es last G gs nm∧H N=some (.lst (met.map V.str))∧x∈A7 gs∧(∀y∈met,y∈A7 gs)∧∀x∈A7 gs,∀y∈A7 gs,K0 gs x y)∧∀H',Ow (Dv K) H H'→A8 H' (Dv K) Dg Jr→Q (.bl true) H'
 |_=>False
theorem Adb {vs:IP}{F:IC→IC→Str→IC→Prop}(h:match vs with|[.ref x0,.ref x1,.str x2,.ref x3]=>F x0 x1 x2 x3|_=>False):∃x0 x1 x2 x3,vs=[.ref x0,.ref x1,.str x2,.ref x3]∧F x0 x1 x2 x3:=by
 match vs,h with
 |[.ref x0,.ref x1,.str x2,.ref x3],h=>exact ⟨_,_,_,_,rfl,h⟩
theorem El:Al ["_law_desk","_law_rows","_law_one","_law_names_here","_law_name","_law_pair","_law_found"] ["_law_desk","_law_rows","_law_one","_law_names_here"] (Ad G0):=D9
include er in
theorem Qz (d:Bt K mg "_law_all_ways" G0 ["_law_desk","_law_rows","_law_one","_law_names_here"])  (c_l_gone:Bc P w K mg base "_law_gone" ["_law_rows","_law_found","_law_one","_law_other"] 1 (R0 K ns))(c_Desk_say:E6 P w K mg base [c_Desk] [] "say" ["self","row"] 10 (Dw K ns)):Bc P w K mg base "_law_all_ways" ["_law_desk","_law_rows","_law_one","_law_names_here"] 11 (Jv K ns):=by
 refine d.cal (k:=10) El (fun vs H Q E hq0=>?_) (fun f cdv A outer s H vs Q E hr hq0=>?_)
 ·obtain ⟨_,_,_,_,rfl,_⟩:=Adb hq0
  rfl
 ·obtain ⟨Z,G,x,N,rfl,⟨L,A,R,es,last,gs,nm,met,⟨wk,eN,hx,hm,rch⟩,k⟩⟩:=Adb hq0
  refine ⟨_,(@Aa _ _ _ _ _ (@C4 _ _ _ _ _ _ _ _ CB rfl (@A4 _ _ _ _ (dv 3)) (@Ar _ _ (4) _ El.nd rfl (by trivial) (by trivial)) (@An _ _ _ (@C4 _ _ _ _ _ _ _ _ CB rfl (@A4 _ _ _ _ (@Hu _ _ _ _ (@Ab _ _ _ _ _ (@Dx _ _ _ _ _ (@Ab _ _ _ _ _ (dv 2) (@Ab _ _ _ _ _ (dv 4) Ag (by rfl)) (by rfl))) (@Ab _ _ _ _ _ (@Dx _ _ _ _ _ (@Ab _ _ _ _ _ (dv 4) (@Ab _ _ _ _ _ (dv 2) Ag (by rfl)) (by rfl))) Ag (by rfl)) (by rfl)))) (@Ar _ _ (5) _ El.nd rfl (by trivial) (by trivial)) (@Aa _ _ _ _ _ (@Ak _ _ _ (6) _ _ _ El.nd (@Em _ _ _ _ _ _ _ _ _ _ _ _ DX FV FW Uq (@Hm _ _ _ _ _ _ _ _ _ _ _ _ (dv 0) (@Dz _ _ _ _ _ _ _ _ _ _ _ _ _ _ c_Desk_say (List.Mem.head _) er.l_Desk (by decide) Fx) hr (@Ab _ _ _ _ _ (@Ew _ _ _ _ _ ("join") _ _ Ax (@Ab _ _ _ _ _ (@Hu _ _ _ _ (@Ab _ _ _ _ _ Ax (@Ab _ _ _ _ _ (@Bx _ _ _ _ _ _ _ (dv 5)) (@Ab _ _ _ _ _ (@Bx _ _ _ _ _ _ _ (dv 5)) Ag (by rfl)) (by rfl)) (by rfl))) Ag (by rfl)) (by rfl) (by rfl) (by rfl) (by rfl) (by rfl)) Ag (by rfl)) (by rfl) (by rfl) (by rfl)) (@Ab _ _ _ _ _ Ax Ag (by rfl)) (by rfl) (by rfl) (by rfl) (by rfl) (by rfl)) (by trivial)) (@An _ _ _ (@Bl _ _ _ _ _ _ _ _ (@Bw _ _ _ _ (@Ci _ _ _ (@Af _ _ _ _ _ _ _ _ _ _ _ c_l_gone hr (@Ai _ _ _ _ _ (dv 1) (@Ai _ _ _ _ _ (dv 6) (@Ai _ _ _ _ _ (@Bx _ _ _ _ _ _ _ (dv 5)) (@Bf _ _ _ (@Bx _ _ _ _ _ _ _ (dv 5)) (by rfl)) (by rfl)) (by rfl)) (by rfl)) (by trivial)) (by intro _;rfl))) (@A3 _ _ _ _ Fw) Ao))) (by intro _;rfl))) (by intro _;rfl)) (@A3 _ _ _ _ Fw)),?_⟩
  refine ⟨N,rfl,⟨_,Au.of eN⟩,C6 (K:=K) (a:=N) (xs:=met.map V.str) (fun i σ H'=>∃(o4 o5 o6:Option V),σ=[some (.ref Z),some (.ref G),some (.str x),some (.ref N),o4,o5,o6]∧Ow (Dv K) H H'∧A8 H' (Dv K) Dg Jr) ⟨_,_,_,rfl,fun b o _ e=>e,wk.tk⟩ (fun i σ H' _ ⟨_,_,_,_,s,_⟩=>Au.of ((Iv s wk.tk).1 _ _ eN)) ?_ ?_⟩
  rotate_left
  ·rintro σ H1 ⟨o4,o5,o6,rfl,s1,t1⟩
   exact k H1 s1 t1
  rintro i v σ H1 hv ⟨o4,o5,o6,rfl,s1,t1⟩
  rw [BE] at hv
  obtain ⟨y,hy,rfl⟩:∃y,met[i]? =some y∧V.str y=v:=by
   cases hh:met[i]? with
   |none=>rw [hh] at hv;cases hv
   |some x=>rw [hh] at hv;exact ⟨x,rfl,Option.some.inj hv⟩
  have py:=hm y (AN hy)
  have wk1:=wk.sm s1 t1
  refine fun t2 H2 s2 e2=>fun t3 H3 s3 e3=>fun D H4 s4 e4=>?_
  have s14:=s2.trans (s3.trans s4)
  have wk4:=wk1.up s14
  have e2:=(s3.trans s4) _ _ e2
  have e3:=s4 _ _ e3
  have s4':Ow (Dv K) H H4:=fun b o n e=>s14 b o (s1 b o n e)
  clear wk1 s2 s3 s4 s14
  refine ⟨D,rfl,⟨_,Au.of e4⟩,C6 (K:=K) (a:=D) (xs:=[.ref t2,.ref t3]) (fun j σ H'=>∃(o5 o6:Option V),σ=[some (.ref Z),some (.ref G),some (.str x),some (.ref N),some (.str y),o5,o6]∧Ow (Dv K) H4 H'∧A8 H' (Dv K) Dg Jr) ⟨_,_,rfl,fun b o _ e=>e,wk4.tk⟩ (fun i σ H' _ ⟨_,_,_,s,_⟩=>Au.of ((Iv s wk4.tk).1 _ _ e4)) ?_ ?_⟩
  rotate_left
  ·rintro σ H5 ⟨o5,o6,rfl,s5,t5⟩
   exact ⟨_,_,_,rfl,fun b o n e=>s5 b o n (s4' b o n e),t5⟩
  rintro j v σ H5 hv ⟨o5,o6,rfl,s5,t5⟩
  obtain ⟨u,w,t,rfl,et,pu,pw⟩:∃u w t,v=.ref t∧H4 t=some (.tup [.str u,.str w])∧u∈A7 gs∧w∈A7 gs:=by
   match j,hv with
   |0,hv=>exact ⟨_,_,_,(Option.some.inj hv).symm,e2,hx,py⟩
   |1,hv=>exact ⟨_,_,_,(Option.some.inj hv).symm,e3,py,hx⟩
   |j+2,hv=>exact nomatch hv
  have wk5:=wk4.sm s5 t5
  have et5:=(Iv s5 wk4.tk).2 _ _ et
  have nmp:=Qd wk5.go
  have eg:=wk5.eg
  obtain ⟨r1,r2,r3⟩:=Agk (nmp u pu) (nmp w pw)
  obtain ⟨le1,le2,le3⟩:=wk5.le
  obtain ⟨dx,fs,dy,gs',eZ,f1,f2,eL,fd⟩:=wk5.dk.get er.y_Desk er.y_Ledger
  have bl1:(Str.ofString " ").length=1:=by decide +kernel
  refine ⟨Z,_,dx,fs,_,rfl,eZ,.head _,f2,rfl,_,et5,_,et5,fun l H6 s6 e6=>⟨[Str.ofString "way",u,w],Au.of e6,?_,r1,.inr ⟨.inr (.inr r2),fun W H7 s7 e7=>.inr (.inr ⟨u,w,e7.trans (by rw [r3];rfl),fun D8 H8 s8 e8=>⟨L,A,R,es,last,u,w,⟨wk5.dk.up (s6.trans (s7.trans s8)),le1,le2,le3,wk5.tk.up (s6.trans (s7.trans s8)),e8,by rw [eg];exact pu,by rw [eg];exact pw,by rw [eg];exact rch u pu w pw⟩,fun ws H9 sm9 tk9 wy=>?_⟩⟩)⟩⟩⟩
  ·refine Ju (by omega) (fun p hp=>?_) (by show 3≤100;decide)
   rcases AS.mp hp with rfl|hp
   ·decide +kernel
   rcases AS.mp hp with rfl|hp
   ·exact AI (Cz (nmp _ pu)) (by decide)
   ·rw [AH.mp hp]
    exact AI (Cz (nmp _ pw)) (by decide)
  rw [eg] at wy
  have sm59:Ow (Dv K) H5 H9:=fun b o n e=>sm9 b o n ((s6.trans (s7.trans s8)) b o e)
  have wk9:=wk5.sm sm59 tk9
  have et9:=(Iv sm59 wk5.tk).2 _ _ et5
  have lws:=Fi (y:=Str.ofString " ") (ws:=ws) (M:=8) fun p hp=>Cz (nmp p (wy.mem p hp))
  rw [bl1] at lws
  have wl:=wy.len
  refine ⟨rfl,by decide +kernel,by omega,fun F H10 s10 e10=>?_⟩
  have e10:H10 F=some (.lst ((Txt.split (Txt.join (Str.ofString " ") ws) ⟨#[32]⟩).map V.str)):=e10
  have wne:ws≠[]:=fun z=>by
   have:=wy.fst
   rw [z] at this
   cases this
  rw [G1 32 wne (fun p hp=>M8 (nmp p (wy.mem p hp)) (by omega)) (tj ws)] at e10
  have et10:=s10 _ _ et9
  have wk10:=wk9.up s10
  refine ⟨_,et10,_,et10,gs,nm,ws,⟨wk10.bk.bk (by have:=wk10.l40;omega),wk10.bl,by have:=wk10.l40;omega,wk10.sok,e10,by omega⟩,⟨wy.fst,wy.lst,wy.sws,fun z hz=>K9 wk10.bl.mem (wy.mem z hz)⟩,fun H11 s11=>⟨fun h=>nb h,fun _=>⟨_,_,rfl,fun b o n e=>(s10.trans s11) b o (sm59 b o n (s5 b o n e)),wk10.tk.up s11⟩⟩⟩
structure Wh (ps:List (IG))(seen:IG)(kvs:List (Bg×V)):Prop where
 ky:kvs.map (·.1)=seen.map Sum.inr
 at':∀(i:Nat) p x,ps[i]? =some p→x∈p→x∈seen→B4 kvs (Sum.inr x)=some (.int (i:Int))
theorem Wh.add {ps:List (IG)}{seen:IG}{kvs:List (Bg×V)}(h:Wh ps seen kvs)(nd:ps.flatten.Nodup){i:Nat}{p:IG}{x:Str}(hp:ps[i]? =some p)(hxp:x∈p)(hx:x∉seen):Wh ps (seen++[x]) (Eo kvs (Sum.inr x) (.int (i:Int))):=by
 have one:∀{l:List (IG)} {i j:Nat} {p q:IG},l.flatten.Nodup→l[i]? =some p→l[j]? =some q→x∈p→x∈q→i=j:=by
  intro l
  induction l with
  |nil=>intro i j p q _ hp;simp at hp
  | cons a l ih=>
   intro i j p q nd hp hq xp xq
   rw [List.flatten_cons,GA] at nd
   obtain ⟨_,n2,n3⟩:=nd
   cases i with
   | zero=>
    cases j with
    |zero=>rfl
    |succ j=>
     rw [HA] at hp
     cases hp
     rw [DT] at hq
     exact absurd rfl (n3 x xp x (List.mem_flatten.mpr ⟨q,AN hq,xq⟩))
   | succ i=>
    cases j with
    |zero=>
     rw [HA] at hq
     cases hq
     rw [DT] at hp
     exact absurd rfl (n3 x xq x (List.mem_flatten.mpr ⟨p,AN hp,xp⟩))
    |succ j=>
     rw [DT] at hp hq
     rw [ih n2 hp hq xp xq]
 refine ⟨?_,fun j q y hq hy hm=>?_⟩
 ·rw [Ac1 h.ky]
  unfold dd
  rw [AW hx]
 ·rw [Vp]
  by_cases e:y=x
  ·subst e
   rw [AZ rfl,one nd hq hp hy hxp]
  ·rw [AW (fun c=>e (Sum.inr.inj c))]
   refine h.at' j q y hq hy ?_
   rcases BH.mp hm with hm|hm
   ·exact hm
   ·exact absurd (AH.mp hm) e
theorem Ab6 {nm:IG}{gs:IQ}(bl:BL nm gs)(good:∀m∈A7 gs,¬Nl gs m):∀(l:IG) (ps:List (IG)),(∀q∈ps,∃m,q=K2 gs m)→ps.flatten.Nodup→(l.foldl (Cu gs) ps).flatten.Nodup
 |[],_,_,h=>h
 | n::l,ps,hq,h=>by
  rw [GS]
  have st:Cu gs ps n=ps∨((∀q∈ps,n∉q)∧Cu gs ps n=ps++[K2 gs n]):=by
   unfold Cu
   split
   ·exact .inl rfl
   ·rename_i c
    refine .inr ⟨fun q hq hn=>c ?_,rfl⟩
    exact EA.mpr ⟨q,hq,AR hn⟩
  rcases st with e|⟨no,e⟩
  ·rw [e]
   exact Ab6 bl good l ps hq h
  ·rw [e]
   refine Ab6 bl good l _ (fun q h'=>?_) ?_
   ·rcases BH.mp h' with h'|h'
    ·exact hq q h'
    ·exact ⟨n,AH.mp h'⟩
   ·rw [List.flatten_append,GA]
    refine ⟨h,by simpa using Fh (Jl gs n),fun x hx y hy ee=>?_⟩
    subst ee
    have hy:x∈K2 gs n:=by simpa using hy
    obtain ⟨q,hqs,hxq⟩:=List.mem_flatten.mp hx
    obtain ⟨m,rfl⟩:=hq q hqs
    exact no _ hqs (B3.mpr (Jp (B3.mp hxq) (Zn bl good (B3.mp hy))))
theorem Aee {nm:IG}{gs:IQ}(bl:BL nm gs)(good:∀m∈A7 gs,¬Nl gs m):(Gj gs (A7 gs).length).flatten.Nodup∧(∀x,x∈(Gj gs (A7 gs).length).flatten↔x∈A7 gs)∧∀g∈gs,∃p∈Gj gs (A7 gs).length,g.a∈p∧g.b∈p:=by
 rw [Sy]
 obtain ⟨_,h2,h3⟩:=U5 (gs:=gs) (A7 gs) []
 have cl:∀q∈(A7 gs).foldl (Cu gs) [],∃m∈A7 gs,q=K2 gs m:=fun q hq=>by
  rcases h3 q hq with h|h
  ·cases h
  ·exact h
 refine ⟨Ab6 bl good _ [] (fun q h=>absurd h (by simp)) (by simp),fun x=>⟨fun hx=>?_,fun hx=>?_⟩,fun g hg=>?_⟩
 ·obtain ⟨q,hq,hx⟩:=List.mem_flatten.mp hx
  obtain ⟨m,hm,rfl⟩:=cl q hq
  rcases Ob (B3.mp hx) with e|e
  ·rw [e];exact hm
  ·exact e
 ·obtain ⟨q,hq,hx⟩:=h2 x hx
  exact List.mem_flatten.mpr ⟨q,hq,hx⟩
 ·have pa:g.a∈A7 gs:=B7.mpr ⟨g,hg,.inl rfl⟩
  obtain ⟨q,hq,hx⟩:=h2 g.a pa
  obtain ⟨m,hm,rfl⟩:=cl q hq
  refine ⟨_,hq,hx,B3.mpr (Jp (B3.mp hx) ?_)⟩
  exact DA fun no=>good g.a pa ⟨g.b,Jm.mpr ⟨g,hg,.inl ⟨rfl,rfl⟩⟩,no⟩
theorem Ir {K:KKf}{ns:IH}{H:Hp}{Q:VK}{E:XK}{Z L A R G:IC}{es:List En}{last:Int}{gs:IQ}{nm:IG}(wk:Wk K H Z L A R es last G gs nm)(k:∀x H',Ow (Dv K) H H'→A8 H' (Dv K) Dg Jr→VdT gs x→Q (.str x) H'):Dw K ns [.ref Z,.str "verdict"] H Q E:=by
 obtain ⟨le1,le2,le3⟩:=wk.le
 refine ⟨by decide +kernel,.inr ⟨.inr (.inl (by rw [Q5 (by decide +kernel)])),fun W H3 s3 e3=>.inr (.inl ⟨e3.trans (by rw [show Txt.split (Str.ofString "verdict") ⟨#[32]⟩=[Str.ofString "verdict"] from by decide +kernel];rfl),fun B H4 s4=>?_⟩)⟩⟩
 exact ⟨L,A,R,es,last,⟨wk.dk.up (s3.trans s4),le1,le2,le3,wk.tk.up (s3.trans s4)⟩,fun x H5 sm tk vt=>k x H5 (fun b o n e=>sm b o n ((s3.trans s4) b o e)) tk (wk.eg▸vt)⟩
theorem Adt {gs:IQ}{x n:Str}{i:Nat}(v:VdT gs x)(h1:(A7 gs)[i]? =some n)(h2:Nl gs n)(h3:∀j m,j<i→(A7 gs)[j]? =some m→¬Nl gs m):x=Txt.join (Str.ofString " ") (Str.ofString "none"::K2 gs n):=by
 cases v with
 | none j m e1 e2 e3=>
  rcases Nat.lt_trichotomy i j with z|rfl|z
  ·exact absurd h2 (e3 i n z h1)
  ·rw [h1] at e1
   cases e1
   rfl
  ·exact absurd e2 (h3 j m z e1)
 |one p e1 e2=>exact absurd h2 (e1 n (AN h1))
 |loose e1 e2=>exact absurd h2 (e1 n (AN h1))
theorem Ahv {gs:IQ}{x:Str}{p:IG}(v:VdT gs x)(h1:∀m∈A7 gs,¬Nl gs m)(h2:Gj gs (A7 gs).length=[p]):x=Str.ofString "one":=by
 cases v with
 |none j m e1 e2 e3=>exact absurd e2 (h1 m (AN e1))
 |one p e1 e2=>rfl
 |loose e1 e2=>exact absurd (by rw [h2];rfl) e2
theorem Ab1 {gs:IQ}{x:Str}(v:VdT gs x)(h1:∀m∈A7 gs,¬Nl gs m)(h2:(Gj gs (A7 gs).length).length≠1):x=(if Qg gs=Str.ofString "" then Str.ofString "loose" else Str.ofString "loose "++Qg gs):=by
 cases v with
 |none j m e1 e2 e3=>exact absurd e2 (h1 m (AN e1))
 |one p e1 e2=>exact absurd (by rw [e2];rfl) h2
 |loose e1 e2=>rfl
theorem Wo {y:Str}:∀{ws:IG},ws≠[]→(∀w∈ws,1≤w.length)→Txt.join y ws≠Str.ofString ""
 |[],h,_=>absurd rfl h
 | a::ws,_,hw=>fun z=>by
  have h1:=hw a AO
  have e:(co (Str.join y (a::ws))).length=(co (Str.ofString "")).length:=by rw [←F7,z]
  cases ws with
  |nil=>
   have e:(co a).length=0:=e.trans (by decide +kernel)
   rw [A2] at e
   omega
  |cons b ws=>
   rw [Di,AG,A2 a,show (co (Str.ofString "")).length=0 from by decide +kernel] at e
   omega
theorem Aj4 {x:Str}(h:x≠Str.ofString ""):1≤x.length:=Nat.one_le_iff_ne_zero.mpr fun z=>h (Dq (by
 rw [show co (Str.ofString "")=[] from by decide +kernel]
 exact ED ((A2 x).trans z)))
theorem Ans {gs:IQ}(ok:∀g∈gs,GO g)(ne:A7 gs≠[]):Qg gs≠Str.ofString "":=by
 have nmp:=Qd ok
 refine Wo (fun z=>?_) fun w hw=>?_
 ·have z:Gj gs (A7 gs).length=[]:=List.map_eq_nil_iff.mp z
  obtain ⟨n,l,e⟩:=List.exists_cons_of_ne_nil ne
  rw [Sy] at z
  obtain ⟨q,hq,_⟩:=(U5 (gs:=gs) (A7 gs) []).2.1 n (by rw [e];exact AO)
  rw [z] at hq
  cases hq
 ·obtain ⟨q,hq,rfl⟩:=BG.mp hw
  obtain ⟨m,hm,rfl⟩:=Adj gs q hq
  refine Aj4 (Wo (fun z=>?_) fun x hx=>?_)
  ·have:=B3.mpr (K0.here (gs:=gs) (n:=m))
   rw [z] at this
   cases this
  ·rw [←A2]
   exact (nmp x ((Lp hm).2 x hx)).len1
def R9 (K:KKf)(ns:IH):Sp:=fun vs H Q _=>match vs with
 |[.ref a,.ref Z,.ref G,.ref T]=>∃(L A R:IC) (es:List En) (last:Int) (gs:IQ) (nm:IG) (H0:Hp),(Au K H a (ns.map V.int)∧Wk K H Z L A R es last G gs nm∧Vd gs H0 H T)∧∀H',Q (.bl true) H'
 |_=>False
theorem Ac9 {vs:IP}{F:IC→IC→IC→IC→Prop}(h:match vs with|[.ref x0,.ref x1,.ref x2,.ref x3]=>F x0 x1 x2 x3|_=>False):∃x0 x1 x2 x3,vs=[.ref x0,.ref x1,.ref x2,.ref x3]∧F x0 x1 x2 x3:=by
 match vs,h with
 |[.ref x0,.ref x1,.ref x2,.ref x3],h=>exact ⟨_,_,_,_,rfl,h⟩
theorem C9:Al ["_law_script","_law_desk","_law_rows","_law_found","_law_met","_law_worths","_law_k","_law_answer","_law_where","_law_name"] ["_law_script","_law_desk","_law_rows","_law_found"] (Ad Qf):=D9
include er n_int n_len n_sorted n_range n_set in
theorem Abb (d:Bt K mg "_law_seen" Qf ["_law_script","_law_desk","_law_rows","_law_found"])  (c_Desk_say:E6 P w K mg base [c_Desk] [] "say" ["self","row"] 10 (Dw K ns))(c_l_all_ways:Bc P w K mg base "_law_all_ways" ["_law_desk","_law_rows","_law_one","_law_names_here"] 11 (Jv K ns))(c_l_none_seen:Bc P w K mg base "_law_none_seen" ["_law_rows","_law_held","_law_worths"] 2 (Ih K ns))(c_l_cell_at:Bc P w K mg base "_law_cell_at" ["_law_script","_law_k"] 1 (Fc K ns)):Bc P w K mg base "_law_seen" ["_law_script","_law_desk","_law_rows","_law_found"] 12 (R9 K ns):=by
 refine d.cal (k:=11) C9 (fun vs H Q E hq0=>?_) (fun f cdv A outer s H vs Q E hr hq0=>?_)
 ·obtain ⟨_,_,_,_,rfl,_⟩:=Ac9 hq0
  rfl
 ·obtain ⟨a,Z,G,T,rfl,⟨L,A,R,es,last,gs,nm,H0,⟨hS,wk,vd⟩,k⟩⟩:=Ac9 hq0
  refine ⟨_,(@Dl _ _ _ _ _ (@Ak _ _ _ (4) _ _ _ C9.nd (@Tc _ _ _ _ _ _ _ (by rfl) n_sorted (by rfl) n_set (@Ap _ _ _ _ _ _ _ _ L6 (@Cc _ _ _ _ _ _ _ _ _ _ ["_law_row"] [] [] rfl (@A4 _ _ _ _ (dv 2)) (fun C s H fp=>(@Ar _ _ (0) _ (show List.Nodup [("_law_row":Str)] by decide +kernel) rfl (by trivial) (by trivial))) (fun C s H fp=>(@Bx _ _ _ _ _ _ _ (dv 0))) rfl rfl (by decide +kernel) (by decide +kernel) (by rfl) ⟨⟩ ⟨⟩ (by intro _;rfl)) (@Cc _ _ _ _ _ _ _ _ _ _ ["_law_row"] [] [] rfl (@A4 _ _ _ _ (dv 2)) (fun C s H fp=>(@Ar _ _ (0) _ (show List.Nodup [("_law_row":Str)] by decide +kernel) rfl (by trivial) (by trivial))) (fun C s H fp=>(@Bx _ _ _ _ _ _ _ (dv 0))) rfl rfl (by decide +kernel) (by decide +kernel) (by rfl) ⟨⟩ ⟨⟩ (by intro _;rfl))) (by rfl) (by rfl) (by rfl)) (by trivial)) (@Aa _ _ _ _ _ (@Bl _ _ _ _ _ _ _ _ (@A0 _ _ _ _ _ _ _ _ Ee (@Bx _ _ _ _ _ _ _ (dv 3)) Ax (Aq _)) (@Aa _ _ _ _ _ (@Ak _ _ _ (5) _ _ _ C9.nd Lq (by trivial)) (@Aa _ _ _ _ _ (@C4 _ _ _ _ _ _ _ _ CB rfl (@Fj _ _ _ _ _ _ (by rfl) n_range (@Ab _ _ _ _ _ (@Av _ _ _ _ _ _ _ _ _ D6 n_len (by decide +kernel) (@Bf _ _ _ (dv 4) (by rfl)) (by trivial)) Ag (by rfl)) (by rfl)) (@Ar _ _ (6) _ C9.nd rfl (by trivial) (by trivial)) (@An _ _ _ (@N7 _ _ _ _ _ _ _ _ _ (@u1 _ _ hr.units) (dv 5) (@Co _ _ _ _ _ _ _ Dd (dv 4) (dv 6) (fun _ _=>rfl)) (@Ap _ _ _ _ _ _ _ _ Dy Ae (@Ap _ _ _ _ _ _ _ _ Fo (@Af _ _ _ _ _ _ _ _ _ _ _ c_l_cell_at hr (@Ai _ _ _ _ _ (dv 0) (@Bf _ _ _ (@Ap _ _ _ _ _ _ _ _ Dy Ae (dv 6)) (by rfl)) (by rfl)) (by trivial)) (@Ap _ _ _ _ _ _ _ _ Aor Ae Ae))) rfl)) (by intro _;rfl)) (@Aa _ _ _ _ _ (@Ak _ _ _ (7) _ _ _ C9.nd (@Ew _ _ _ _ _ ("join") _ _ Ax (@Ab _ _ _ _ _ (@Ap _ _ _ _ _ _ _ _ L6 (@Hu _ _ _ _ (@Ab _ _ _ _ _ Ax Ag (by rfl))) (@Bx _ _ _ _ _ _ _ (dv 3))) Ag (by rfl)) (by rfl) (by rfl) (by rfl) (by rfl) (by rfl)) (by trivial)) (@A3 _ _ _ _ (@J4 _ _ _ _ _ _ _ (@Bh _ _ _ _ _ _ _ _ Ee (@Hm _ _ _ _ _ _ _ _ _ _ _ _ (dv 1) (@Dz _ _ _ _ _ _ _ _ _ _ _ _ _ _ c_Desk_say (List.Mem.head _) er.l_Desk (by decide) Fx) hr (@Ab _ _ _ _ _ Ax Ag (by rfl)) (by rfl) (by rfl) (by rfl)) (dv 7) (Aq _)) (@G3 _ _ _ _ _ (@Af _ _ _ _ _ _ _ _ _ _ _ c_l_none_seen hr (@Ai _ _ _ _ _ (dv 2) (@Ai _ _ _ _ _ (@Bx _ _ _ _ _ _ _ (dv 3)) (@Bf _ _ _ (dv 5) (by rfl)) (by rfl)) (by rfl)) (by trivial)))))))) Ao) (@Aa _ _ _ _ _ (@Bl _ _ _ _ _ _ _ _ (@A0 _ _ _ _ _ _ _ _ Ee (@Bx _ _ _ _ _ _ _ (dv 3)) Ax (Aq _)) (@A3 _ _ _ _ (@J4 _ _ _ _ _ _ _ (@Bh _ _ _ _ _ _ _ _ Ee (@Hm _ _ _ _ _ _ _ _ _ _ _ _ (dv 1) (@Dz _ _ _ _ _ _ _ _ _ _ _ _ _ _ c_Desk_say (List.Mem.head _) er.l_Desk (by decide) Fx) hr (@Ab _ _ _ _ _ Ax Ag (by rfl)) (by rfl) (by rfl) (by rfl)) Ax (Aq _)) (@J4 _ _ _ _ _ _ _ (@Bh _ _ _ _ _ _ _ _ (@Pa _ hr.units) (@Bx _ _ _ _ _ _ _ (dv 3)) (dv 4) (Aq _)) (@G3 _ _ _ _ _ (@Af _ _ _ _ _ _ _ _ _ _ _ c_l_all_ways hr (@Ai _ _ _ _ _ (dv 1) (@Ai _ _ _ _ _ (dv 2) (@Ai _ _ _ _ _ (@Gv _ _ _ _ _ _ _ (dv 4)) (@Bf _ _ _ (dv 4) (by rfl)) (by rfl)) (by rfl)) (by rfl)) (by trivial)))))) Ao) (@Aa _ _ _ _ _ (@Ak _ _ _ (8) _ _ _ C9.nd Lq (by trivial)) (@Aa _ _ _ _ _ (@C4 _ _ _ _ _ _ _ _ CB rfl (@Fj _ _ _ _ _ _ (by rfl) n_range (@Ab _ _ _ _ _ (@Av _ _ _ _ _ _ _ _ _ D6 n_len (by decide +kernel) (@Bf _ _ _ (@Bx _ _ _ _ _ _ _ (dv 3)) (by rfl)) (by trivial)) Ag (by rfl)) (by rfl)) (@Ar _ _ (6) _ C9.nd rfl (by trivial) (by trivial)) (@An _ _ _ (@C4 _ _ _ _ _ _ _ _ CB rfl (@A4 _ _ _ _ (@Co _ _ _ _ _ _ _ Dd (@Bx _ _ _ _ _ _ _ (dv 3)) (dv 6) (fun _ _=>rfl))) (@Ar _ _ (9) _ C9.nd rfl (by trivial) (by trivial)) (@An _ _ _ (@N7 _ _ _ _ _ _ _ _ _ (@u1 _ _ hr.units) (dv 8) (dv 9) (dv 6) rfl)) (by intro _;rfl))) (by intro _;rfl)) (@Aa _ _ _ _ _ (@Bl _ _ _ _ _ _ _ _ (@L2.PW.pt _ _ _ (@J9 _ _ _ _ _ _ _ (@A0 _ _ _ _ _ _ _ _ Ky (@Bx _ _ _ _ _ _ _ (dv 3)) Ax (Aq _)) (@J9 _ _ _ _ _ _ _ (@A0 _ _ _ _ _ _ _ _ (@Rh _ hr.units) (@Av _ _ _ _ _ _ _ _ _ Aad n_sorted (by decide +kernel) (@Bf _ _ _ (dv 8) (by rfl)) (by trivial)) (dv 4) (Aq _)) (@Fp _ _ _ _ (@A0 _ _ _ _ _ _ _ _ Ee (@Av _ _ _ _ _ _ _ _ _ D6 n_len (by decide +kernel) (@Bf _ _ _ (@Bx _ _ _ _ _ _ _ (dv 3)) (by rfl)) (by trivial)) Ae (Aq _)))))) (@A3 _ _ _ _ Fw) Ao) (@Aa _ _ _ _ _ (@Bl _ _ _ _ _ _ _ _ (@A0 _ _ _ _ _ _ _ _ (@Rh _ hr.units) (@Ln _ _ _ _ _ _ _ _ _ _ _ _ ["_law_row"] ["_law_where"] [8] rfl (@A4 _ _ _ _ (dv 2)) (fun C s H fp=>(@Ar _ _ (0) _ (show List.Nodup [("_law_row":Str),("_law_where":Str)] by decide +kernel) rfl (by trivial) (by trivial))) (fun C s H fp=>(@A0 _ _ _ _ _ _ _ _ Ky (@Ec _ _ _ _ _ _ (@u1 _ _ hr.units) (dv 1) (@Bx _ _ _ _ _ _ _ (dv 0)) (fun _ _=>rfl)) (@Ec _ _ _ _ _ _ (@u1 _ _ hr.units) (dv 1) (@Bx _ _ _ _ _ _ _ (dv 0)) (fun _ _=>rfl)) (Aq _))) (fun C s H fp=>(dv 0)) rfl rfl (by decide +kernel) (by decide +kernel) (by rfl) ⟨rfl,⟨⟩⟩ ⟨⟨rfl,rfl,rfl,rfl⟩,⟨⟩⟩ (by intro _;rfl)) (@Hu _ _ _ _ Ag) (Aq _)) (@A3 _ _ _ _ Fw) Ao) (@Aa _ _ _ _ _ (@Ak _ _ _ (7) _ _ _ C9.nd (@Ap _ _ _ _ _ _ _ _ Im (@Ap _ _ _ _ _ _ _ _ Im Ax (@Ap _ _ _ _ _ _ _ _ Yb Ax (@Cb _ _ _ _ _ _ _ _ _ Pp n_int (by decide +kernel) (@Bf _ _ _ (@Bh _ _ _ _ _ _ _ _ (@Rh _ hr.units) (dv 4) (@Hu _ _ _ _ Ag) (Aq _)) (by rfl)) (by trivial)))) (@Ew _ _ _ _ _ ("join") _ _ Ax (@Ab _ _ _ _ _ (@Cc _ _ _ _ _ _ _ _ _ _ ["_law_part"] [] [] rfl (@A4 _ _ _ _ (@Bx _ _ _ _ _ _ _ (dv 3))) (fun C s H fp=>(@Ar _ _ (0) _ (show List.Nodup [("_law_part":Str)] by decide +kernel) rfl (by trivial) (by trivial))) (fun C s H fp=>(show PE _ _ (tBM K "str" (Wg K) _ _) from (Ew (name:="join") Ax (Ab (dv 0) Ag)))) rfl rfl (by decide +kernel) (by decide +kernel) (by rfl) ⟨⟩ ⟨⟩ (by intro _;rfl)) Ag (by rfl)) (by rfl) (by rfl) (by rfl) (by rfl) (by rfl))) (by trivial)) (@A3 _ _ _ _ (@Bh _ _ _ _ _ _ _ _ Ee (@Hm _ _ _ _ _ _ _ _ _ _ _ _ (dv 1) (@Dz _ _ _ _ _ _ _ _ _ _ _ _ _ _ c_Desk_say (List.Mem.head _) er.l_Desk (by decide) Fx) hr (@Ab _ _ _ _ _ Ax Ag (by rfl)) (by rfl) (by rfl) (by rfl)) (dv 7) (Aq _))))))))))),?_⟩
  have l40:=wk.l40
  have p8:=wk.p8
  refine ⟨fun σ H'=>∃Me:IC,σ=[some (.ref a),some (.ref Z),some (.ref G),some (.ref T),some (.ref Me),none,none,none,none,none]∧Aj H H'∧H' Me=some (.lst ((A7 gs).map V.str)),?_,?_⟩
  ·obtain ⟨vs,eG,hm⟩:=wk.bk
   have hx:Au K H G vs:=Au.of eG
   have hz:vs.length≤1000:=by rw [hm.len];omega
   refine ⟨G,rfl,⟨_,hx⟩,Ce Bp Bm (fun _ g y=>y=V.str g.a) (fun _ _ _ _ _ h=>h) hz hx hm ?_ ?_⟩
   ·intro v m H2 hM _ s2 P hP
    obtain ⟨p,rfl,e⟩:=hM
    exact ⟨rfl,_,e,hP _ _ (Aj.refl _) rfl⟩
   intro D1 H1 ys1 s1 _ e1 a1
   have y1:=Fk a1
   have hm1:Az (Bp H1) vs gs:=hm.imp fun v g r=>Bm v g _ _ (Bq s1) r
   refine ⟨G,rfl,⟨_,s1.seq hx⟩,Ce Bp Bm (fun _ g y=>y=V.str g.b) (fun _ _ _ _ _ h=>h) hz (s1.seq hx) hm1 ?_ ?_⟩
   ·intro v m H2 hM _ s2 P hP
    obtain ⟨p,rfl,e⟩:=hM
    exact ⟨rfl,_,e,hP _ _ (Aj.refl _) rfl⟩
   intro D2 H2 ys2 s2 _ e2 a2
   have y2:=Fk a2
   have l1:=a1.len
   have l2:=a2.len
   refine ⟨_,_,s2 _ _ e1,e2,by omega,fun D3 H3 s3 e3=>⟨gs.map (·.a)++gs.map (·.b),Au.of ?_,?_,BO p8 (by decide),fun D hD=>?_⟩⟩
   ·rw [e3,y1,y2,BQ]
   ·rw [AG,AE,AE]
    omega
   ·have s:=s1.trans (s2.trans s3)
    exact ⟨D,rfl,s.trans (Ah hD),Ac⟩
  rintro σ H1 ⟨Me,rfl,s1,eM⟩
  have hS:=s1.seq hS
  have wk:=wk.up s1
  have bl1:(Str.ofString " ").length=1:=by decide +kernel
  have bl3:(Str.ofString " / ").length=3:=by decide +kernel
  have nmp:=Qd wk.go
  obtain ⟨dx,fs,dy,gs',eZ,f1,f2,eL,fd⟩:=wk.dk.get er.y_Desk er.y_Ledger
  cases vd with
  | none i n F h1 h2 h3 _ eF eT=>
   have eT:=s1 _ _ eT
   have eF:=s1 _ _ eF
   have hn:=AN h1
   obtain ⟨la,sa⟩:=Lp hn
   refine ⟨_,eT,⟨fun _=>fun W hW=>?_,fun h=>nb h⟩⟩
   have sW:Aj H1 (upd H1 W (.dK [])):=Ah hW
   have eW:upd H1 W (.dK []) W=some (.dK []):=Ac
   generalize upd H1 W (.dK [])=H2 at sW eW
   refine ⟨_,.inl (Au.of (sW _ _ eM)),?_⟩
   rw [AE]
   refine ⟨_,rfl,by omega,by omega,Fm (lo:=0) (n:=(A7 gs).length) (fun i σ H'=>∃(kvs:List (Bg×V)) (o6:Option V),σ=[some (.ref a),some (.ref Z),some (.ref G),some (.ref T),some (.ref Me),some (.ref W),o6,none,none,none]∧Aj H1 H'∧H' W=some (.dK kvs)∧kvs.length≤i∧∀(j:Nat) y,j<i→(A7 gs)[j]? =some y→∃w:Int,B4 kvs (Sum.inr y)=some (.int w)∧1≤w∧w≤1000000) ⟨[],none,rfl,sW,eW,AF _,fun j y h=>absurd h (by omega)⟩ ?_ ?_⟩
   ·rintro i σ H3 hi ⟨kvs,o6,rfl,s3,e3,lk,h3'⟩
    have hy:=AD hi
    obtain ⟨y,ey⟩:∃y,y=(A7 gs)[i]:=⟨_,rfl⟩
    rw [←ey] at hy
    have hat:Na ((A7 gs).map V.str) (0+(i:Int))=some (.str y):=by
     rw [Int.zero_add]
     refine A1 ?_
     rw [BE,hy]
     rfl
    refine ⟨s3.seq hS,by omega,fun c=>⟨⟨by decide,by decide,by decide⟩,(by show (0:Int)<10 ^ Int.toNat 6;decide),_,_,Au.of (s3 _ _ eM),hat,W,_,rfl,Vt.k (k:=Sum.inr y) e3 (BO (show kvs.length≤10 by omega) (by decide)),?_⟩⟩
    have ten:(10:Int) ^ Int.toNat 6=1000000:=by decide
    have z0:=DG c (show (10:Int) ^ Int.toNat 6≠0 by decide)
    have z1:=Int.emod_lt_of_pos c (show (0:Int)<10 ^ Int.toNat 6 by decide)
    refine ⟨_,_,rfl,B6 s3 hW,Ac,AI (Agl _ _ _) (by omega),fun j y' hj hy'=>?_⟩
    rw [Vp]
    by_cases ee:(Sum.inr y':Bg)=Sum.inr y
    ·rw [AZ ee]
     exact ⟨_,rfl,by omega,by omega⟩
    ·rw [AW ee]
     refine h3' j y' ?_ hy'
     have:j≠i:=fun z=>by
      subst z
      rw [hy] at hy'
      cases hy'
      exact ee rfl
     omega
   ·rintro σ H3 ⟨kvs,o6,rfl,s3,e3,_,h3'⟩
    have wkd:WkD H3 W (A7 gs):=⟨kvs,e3,fun y hy=>by
     obtain ⟨j,hj,rfl⟩:=DL hy
     exact h3' j _ hj (AD hj)⟩
    refine ⟨rfl,fun L1 H4 s4 e4=>⟨_,(s3.trans s4) _ _ eT,_,_,e4,(s3.trans s4) _ _ eF,?_,fun L2 H5 s5 e5=>⟨Str.ofString "none"::K2 gs n,Au.of e5,?_,?_⟩⟩⟩
    ·rw [AE]
     show 1+_≤_
     omega
    ·refine Ju (by omega) (fun p hp=>?_) (by rw [BN];omega)
     rcases AS.mp hp with rfl|hp
     ·decide +kernel
     ·exact AI (Cz (nmp p (sa p hp))) (by decide)
    have s15:=s3.trans (s4.trans s5)
    refine ⟨Z,_,dx,fs,_,rfl,s15 _ _ eZ,.head _,f2,Ir (wk.up s15) fun x H6 sm6 tk6 vt=>?_⟩
    have ex:=Adt vt h1 h2 h3
    have wk6:=(wk.up s15).sm sm6 tk6
    obtain ⟨k1,k2⟩:=Iv sm6 (wk.up s15).tk
    obtain ⟨ps,eTb,_⟩:=(wk.up s15).tk
    have eT6:=k2 _ _ (s15 _ _ eT)
    have eF6:=k1 _ _ (s15 _ _ eF)
    have wkd6:WkD H6 W (A7 gs):=by
     obtain ⟨kvs,e,f⟩:=wkd.up (s4.trans s5)
     exact ⟨kvs,sm6 _ _ (fun z=>by rw [z,eTb] at e;cases e) e,f⟩
    refine ⟨fun _=>⟨_,eT6,gs,nm,K2 gs n,⟨wk6.bk.bk (by omega),wk6.bl,by omega,Au.of eF6,wkd6⟩,⟨Aed wk6.bl n,Af2 h2⟩,fun H7 _=>k H7⟩,fun h=>?_⟩
    rw [ex] at h
    exact absurd h (by simp)
  | one p F h1 h2 _ eF eT=>
   have eT:=s1 _ _ eT
   have eF:=s1 _ _ eF
   obtain ⟨⟨m0,hm0,pe⟩,allr⟩:=Ag0 wk.bl h1 h2
   have pst:p=A7 gs:=F6 (pe▸Jl gs m0) (C2 _) fun x=>by
    rw [pe,B3]
    refine ⟨fun r=>?_,fun hx=>allr m0 hm0 x hx⟩
    rcases Ob r with e|e
    ·rw [e];exact hm0
    ·exact e
   subst pst
   have sok':∀x∈A7 gs,PyData.strOk x=true:=fun x hx=>(nmp x hx).sok
   refine ⟨_,eT,⟨fun h=>nb h,fun _=>⟨_,eT,⟨fun _=>?_,fun h=>nb h⟩⟩⟩⟩
   refine ⟨Z,_,dx,fs,_,rfl,eZ,.head _,f2,Ir wk fun x H2 sm2 tk2 vt=>?_⟩
   have ex:=Ahv vt h1 h2
   have wk2:=wk.sm sm2 tk2
   obtain ⟨k1,k2⟩:=Iv sm2 wk.tk
   have eT2:=k2 _ _ eT
   have eF2:=k1 _ _ eF
   have eM2:=k1 _ _ eM
   obtain ⟨y0,hy0⟩:∃y0,(A7 gs)[0]? =some y0:=by
    cases hp:A7 gs with
    |nil=>rw [hp] at hm0;cases hm0
    |cons x l=>exact ⟨x,rfl⟩
   have at0:Na ((A7 gs).map V.str) 0=some (.str y0):=A1 (by rw [BE,hy0];rfl)
   refine ⟨fun _=>⟨_,eT2,_,_,Gb (Au.of eF2),Gb (Au.of eM2),Fb sok',Fb sok',?_⟩,fun h=>?_⟩
   ·rw [J7 (Fb sok')]
    refine ⟨fun _=>⟨_,_,Au.of eM2,at0,L,A,R,es,last,gs,nm,A7 gs,⟨wk2,eM2,AN hy0,fun y h=>h,allr⟩,fun H3 _ _=>k H3⟩,fun h=>nb h⟩
   ·rw [ex] at h
    exact absurd h (by simp)
  | loose D ws h1 h2 _ eD aD eT=>
   have eT:=s1 _ _ eT
   have eD:=s1 _ _ eD
   have aD:Az (fun v p=>∃d,v=.ref d∧H1 d=some (.lst (p.map V.str))) ws (Gj gs (A7 gs).length):=aD.imp fun v q ⟨d,e,_,_,f⟩=>⟨d,e,s1 _ _ f⟩
   obtain ⟨fnd,j2,fg⟩:=Aee wk.bl h1
   have jl:=K5 gs (A7 gs).length
   have jm:=Adj gs
   have ln:∀q∈Gj gs (A7 gs).length,q.length≤8∧∀x∈q,x.length≤8:=fun q hq=>by
    obtain ⟨m,hm,rfl⟩:=jm q hq
    obtain ⟨la,sa⟩:=Lp hm
    exact ⟨by omega,fun x hx=>Cz (nmp x (sa x hx))⟩
   have els:Qg gs=Txt.join (Str.ofString " / ") ((Gj gs (A7 gs).length).map fun p=>Txt.join (Str.ofString " ") p):=rfl
   have jne:A7 gs≠[]→Qg gs≠Str.ofString "":=fun ne=>Ans wk.go ne
   have jnil:A7 gs=[]→Qg gs=Str.ofString "":=fun e=>by
    rw [els,show Gj gs (A7 gs).length=[] from by
     have:=jl
     rw [e] at this
     exact ED (Nat.le_zero.mp (by rw [e];exact this))]
    decide +kernel
   have vl:∀{x:Str},VdT gs x→x=(if Qg gs=Str.ofString "" then Str.ofString "loose" else Str.ofString "loose "++Qg gs):=fun v=>Ab1 v h1 h2
   generalize Gj gs (A7 gs).length=ps at aD fnd j2 fg jl jm ln h2 els
   refine ⟨_,eT,⟨fun h=>nb h,fun _=>⟨_,eT,⟨fun h=>nb h,fun _=>fun W hW=>?_⟩⟩⟩⟩
   have sW:Aj H1 (upd H1 W (.dK [])):=Ah hW
   have eW:upd H1 W (.dK []) W=some (.dK []):=Ac
   generalize upd H1 W (.dK [])=H2 at sW eW
   have lv:=aD.len
   have fl:ps.flatten.length≤(A7 gs).length:=Es fnd fun x hx=>(j2 x).mp hx
   have ndp:(A7 gs).Nodup:=Fh (C2 _)
   have split:∀{i:Nat} {p:IG},ps[i]? =some p→ps.flatten=(ps.take i).flatten++(p++(ps.drop (i+1)).flatten):=fun {i p} hp=>by
    have e:ps=ps.take i++p::ps.drop (i+1):=by
     have l:=(AY.mp hp)
     obtain ⟨l1,l2⟩:=l
     rw [←l2,←CT l1,List.take_append_drop]
    calc ps.flatten=(ps.take i++p::ps.drop (i+1)).flatten:=by rw [←e]
     _=_:=by rw [List.flatten_append,List.flatten_cons]
   refine ⟨_,sW _ _ eT,_,.inl (Au.of (sW _ _ eD)),_,rfl,by omega,by omega,Fm (lo:=0) (n:=ws.length) (fun i σ H'=>∃(kvs:List (Bg×V)) (o6 o9:Option V),σ=[some (.ref a),some (.ref Z),some (.ref G),some (.ref T),some (.ref Me),none,o6,none,some (.ref W),o9]∧Aj H1 H'∧H' W=some (.dK kvs)∧Wh ps (ps.take i).flatten kvs) ⟨[],none,none,rfl,sW,eW,rfl,fun i p x _ _ h=>absurd h (by simp)⟩ ?_ ?_⟩
   ·rintro i σ H3 hi ⟨kvs,o4,o5,rfl,s3,e3,wh⟩
    have hv:=AD hi
    obtain ⟨p,hp,d,ed,gd⟩:=aD.get hv
    rw [ed] at hv
    have hat:Na ws (0+(i:Int))=some (.ref d):=by rw [Int.zero_add];exact A1 hv
    have sp:=split hp
    have pl:p.length≤ps.flatten.length:=by
     rw [sp,AG,AG]
     omega
    refine ⟨_,s3 _ _ eT,_,_,Au.of (s3 _ _ eD),hat,d,rfl,⟨_,Au.of (s3 _ _ gd)⟩,C6 (K:=K) (a:=d) (xs:=p.map V.str) (fun j σ H'=>∃(kvs:List (Bg×V)) (o5:Option V),σ=[some (.ref a),some (.ref Z),some (.ref G),some (.ref T),some (.ref Me),none,some (.int (0+(i:Int))),none,some (.ref W),o5]∧Aj H1 H'∧H' W=some (.dK kvs)∧Wh ps ((ps.take i).flatten++p.take j) kvs) ⟨kvs,_,rfl,s3,e3,by rw [List.take_zero,CJ];exact wh⟩ (fun j σ H' _ ⟨_,_,_,s,_⟩=>Au.of (s _ _ gd)) ?_ ?_⟩
    ·clear wh e3 s3
     rintro j v σ H2 hv2 ⟨kvs,o5,rfl,s2,e2,wh⟩
     rw [BE] at hv2
     obtain ⟨x,hx,rfl⟩:∃x,p[j]? =some x∧V.str x=v:=by
      cases hh:p[j]? with
      |none=>rw [hh] at hv2;cases hv2
      |some x=>rw [hh] at hv2;exact ⟨x,rfl,Option.some.inj hv2⟩
     have xp:=AN hx
     have pj:p=p.take j++x::p.drop (j+1):=by
      obtain ⟨l1,l2⟩:=AY.mp hx
      rw [←l2,←CT l1,List.take_append_drop]
     have nx:x∉(ps.take i).flatten++p.take j:=fun c=>by
      have n:=fnd
      rw [sp,pj,BU,←BU,GA] at n
      exact n.2.2 x c x AO rfl
     have kl:kvs.length≤60:=by
      have e:=congrArg List.length wh.ky
      rw [AE,AE,AG,CH] at e
      have:ps.flatten.length=(ps.take i).flatten.length+(p.length+((ps.drop (i+1)).flatten).length):=by rw [sp,AG,AG]
      omega
     refine ⟨W,_,rfl,Vt.k (k:=Sum.inr x) e2 (BO kl (by decide)),_,_,rfl,B6 s2 hW,Ac,?_⟩
     have w2:=wh.add fnd hp xp nx
     have e:p.take (j+1)=p.take j++[x]:=by rw [BY,hx];rfl
     rw [e,←BU,Int.zero_add]
     exact w2
    ·rintro σ H2 ⟨kvs,o5,rfl,s2,e2,wh⟩
     rw [AE,CO] at wh
     refine ⟨kvs,_,_,rfl,s2,e2,?_⟩
     rw [BY,hp,List.flatten_append]
     have e:(some p).toList.flatten=p:=by simp
     rw [e]
     exact wh
   rintro σ H3 ⟨kvs,o6,o9,rfl,s3,e3,wh⟩
   rw [lv,CO] at wh
   have kl:kvs.length≤8:=by
    have e:=congrArg List.length wh.ky
    rw [AE,AE] at e
    omega
   have sok':∀x∈A7 gs,PyData.strOk x=true:=fun x hx=>(nmp x hx).sok
   have eT3:=s3 _ _ eT
   have eD3:=s3 _ _ eD
   have eM3:=s3 _ _ eM
   refine ⟨_,eT3,⟨fun h=>nb h,fun _=>?_⟩⟩
   have es':Oc ps.flatten=A7 gs:=F6 (C2 _) (C2 _) fun x=>Eg.trans (j2 x)
   refine ⟨kvs,ps.flatten,e3,wh.ky,by omega,fnd,fun S hS'=>?_⟩
   have s4:Aj H3 (upd H3 S (.lst ((Oc ps.flatten).map V.str))):=Ah hS'
   have e4:upd H3 S (.lst ((Oc ps.flatten).map V.str)) S=some (.lst ((Oc ps.flatten).map V.str)):=Ac
   generalize upd H3 S (.lst ((Oc ps.flatten).map V.str))=H4 at s4 e4
   rw [es'] at e4
   refine ⟨_,_,Gb (Au.of e4),Gb (Au.of (s4 _ _ eM3)),Fb sok',Fb sok',?_⟩
   rw [J7 (Fb sok')]
   refine ⟨fun h=>nb h,fun _=>⟨_,s4 _ _ eT3,_,.inl (Au.of (s4 _ _ eD3)),⟨fun h=>?_,fun _=>?_⟩⟩⟩
   ·have h:(ws.length:Int)=1:=AU h
    omega
   obtain ⟨gv,eG,hgm⟩:=(wk.up (s3.trans s4)).bk
   refine ⟨G,rfl,⟨_,Au.of eG⟩,Gx Bp Bm (fun _ _ _=>True) (fun _ _ _ _ _ h=>h) (fun _=>false) (by rw [hgm.len];omega) (Au.of eG) hgm ?_ ?_⟩
   ·intro v g H5 hM hmm s5 P P' hP hP'
    obtain ⟨t,rfl,ep⟩:=hM
    obtain ⟨p,hp,pa,pb⟩:=fg g hmm
    obtain ⟨i,hi,e⟩:=DL hp
    have hp:ps[i]? =some p:=by rw [AD hi,e]
    have ina:g.a∈ps.flatten:=List.mem_flatten.mpr ⟨p,AN hp,pa⟩
    have inb:g.b∈ps.flatten:=List.mem_flatten.mpr ⟨p,AN hp,pb⟩
    have ga:Fy H5 W (.str g.a) (some (.int (i:Int))):=wh.at' i p g.a hp pa ina▸Fy.k (k:=Sum.inr g.a) ((s4.trans s5) _ _ e3)
    have gb:Fy H5 W (.str g.b) (some (.int (i:Int))):=wh.at' i p g.b hp pb inb▸Fy.k (k:=Sum.inr g.b) ((s4.trans s5) _ _ e3)
    refine ⟨rfl,_,ep,W,_,rfl,ga,_,ep,W,_,rfl,gb,⟨fun h=>absurd h (by simp),fun _=>hP' rfl _ (Aj.refl _)⟩⟩
   intro D2 H5 ys s5 _ e5 a5
   have l5:=a5.len
   have zf:gs.filter (fun _=>false)=[]:=List.filter_eq_nil_iff.mpr fun x _=>by simp
   rw [zf] at l5
   have y0:ys=[]:=ED l5.symm
   subst y0
   refine fun N H6 s6 e6=>⟨_,_,.lst (Au.of (s6 _ _ e5)) .nil,.lst (Au.of e6) .nil,rfl,rfl,⟨fun h=>nb h,fun _=>fun N2 H7 s7 e7=>?_⟩⟩
   have s17:=s3.trans (s4.trans (s5.trans (s6.trans s7)))
   refine ⟨_,_,Gb (Au.of (s17 _ _ eM)),.lst (Au.of e7) .nil,Fb sok',rfl,?_⟩
   rw [Aaj]
   have big:(1000:Nat)≤sizeLine:=by decide
   have l5:(Str.ofString "loose").length=5:=by decide +kernel
   have l0:Str.empty.length=0:=rfl
   obtain ⟨Y,hY,lY,eY⟩:∃Y:Str,((A7 gs).isEmpty=true∧Y=Str.ofString "loose"++Str.empty∨(A7 gs).isEmpty=false∧Y=Str.ofString "loose"++Str.ofString " ")∧Y.length≤6∧∀x,VdT gs x→x=Y++Qg gs:=by
    by_cases hp:A7 gs=[]
    ·refine ⟨Str.ofString "loose"++Str.empty,.inl ⟨by rw [hp];rfl,rfl⟩,by decide +kernel,fun x v=>?_⟩
     rw [vl v,AZ (jnil hp),jnil hp]
     decide +kernel
    ·refine ⟨Str.ofString "loose"++Str.ofString " ",.inr ⟨?_,rfl⟩,by decide +kernel,fun x v=>?_⟩
     ·cases hq:A7 gs with
      |nil=>exact absurd hq hp
      |cons z l=>rfl
     ·rw [vl v,AW (jne hp)]
      exact congrArg (· ++ Qg gs) (by decide +kernel)
   rcases hY with ⟨hE,hY⟩|⟨hE,hY⟩<;>rw [hE]
   case' inl=>refine ⟨by omega,.inl ⟨rfl,by omega,?_⟩⟩
   case' inr=>refine ⟨by omega,.inr ⟨rfl,by omega,?_⟩⟩
   all_goals
    rw [←hY]
    have eT7:=s17 _ _ eT
    have eD7:=s17 _ _ eD
    refine ⟨rfl,_,eT7,D,rfl,⟨_,Au.of eD7⟩,Ce (fun _ v (p:IG)=>∃d,v=.ref d∧H1 d=some (.lst (p.map V.str))) (fun _ _ _ _ _ h=>h) (fun _ p y=>y=V.str (Txt.join (Str.ofString " ") p)) (fun _ _ _ _ _ h=>h) (by omega) (Au.of eD7) aD ?_ ?_⟩
    ·intro v q H8 hM hq s8 P hP
     obtain ⟨d,rfl,ed⟩:=hM
     obtain ⟨l1,l2⟩:=ln q hq
     exact ⟨rfl,rfl,q,Au.of (s8 _ _ (s17 _ _ ed)),Ju (by omega) (fun x hx=>AI (l2 x hx) (by decide)) (by omega),hP _ _ (Aj.refl _) rfl⟩
    ·intro D8 H8 zs s8 _ e8 a8
     rw [Uh a8] at e8
     have lp:∀x∈ps.map (fun p=>Txt.join (Str.ofString " ") p),x.length≤80:=fun x hx=>by
      obtain ⟨q,hq,rfl⟩:=BG.mp hx
      obtain ⟨l1,l2⟩:=ln q hq
      have h1:=Fi (y:=Str.ofString " ") l2
      rw [bl1] at h1
      omega
     have lt:=Fi (y:=Str.ofString " / ") lp
     rw [bl3,AE] at lt
     refine ⟨_,Au.of e8,Ju (by omega) (fun x hx=>AI (lp x hx) (by decide)) (by rw [AE];omega),?_⟩
     have s18:=s17.trans s8
     have lt:(Txt.join (Str.ofString " / ") (ps.map (Txt.join (Str.ofString " ")))).length≤ps.length*(80+3):=lt
     have eY:∀x,VdT gs x→x=Y++Txt.join (Str.ofString " / ") (ps.map (Txt.join (Str.ofString " "))):=fun x v=>(eY x v).trans (by rw [els])
     refine ⟨by omega,Z,_,dx,fs,_,rfl,s18 _ _ eZ,.head _,f2,Ir (wk.up s18) fun x H9 sm9 tk9 vt=>?_⟩
     exact (congrArg (fun b=>Q (.bl b) H9) (AR (eY x vt))).mpr (k H9)
theorem Abz {n:Nat}{g:TG}{te:TE}{k:Nat}{js:IM}{σ:L2.St}{H1:Hp}{Q:VK}(R:Hp→Nat→V→Prop)(up:∀j y H H',Kt H H'→R H j y→R H' j y)(hz:n≤1000)
  (hs:∀i H2,i<n→Aj H1 H2→∀P:VK,(∀y H3,Aj H2 H3→R H3 i y→P y H3)→g (.int (0+(i:Int))) (List.replicate k none++capσ js σ) H2 fun σ2 H3=>σ2.drop k=capσ js σ∧te σ2 H3 P)
  (hq:∀D H' ys,Aj H1 H'→H1 D=none→H' D=some (.lst ys)→ys.length=n→(∀(j:Nat) y,ys[j]? =some y→R H' j y)→Q (.ref D) H'):Hr (Itr 0 n) g te k js σ H1 Q:=by
 unfold Hr
 intro D hD
 refine ⟨fun i m H=>m=n-i∧i≤n∧Aj H1 H∧∃ys,H D=some (.lst ys)∧ys.length=i∧∀(j:Nat) y,ys[j]? =some y→R H j y,⟨n,by simp,BK _,Ah hD,[],Ac,rfl,fun j y h=>by simp at h⟩,?_⟩
 rintro i m H ⟨rfl,hi,sm,ys,hH,ly,ar⟩
 by_cases hlt:i<n
 ·refine .inr ⟨hlt,fun x H' y=>?_⟩
  obtain ⟨rfl,rfl⟩:=y
  have yl:ys.length<sizeLine:=by
   rw [ly]
   exact AV hlt (AI hz (by decide))
  refine hs i _ hlt sm _ fun y H3 s3 r3=>⟨ys,s3 _ _ hH,yl,n-(i+1),by omega,rfl,hlt,B6 (sm.trans s3) hD,ys++[y],Ac,by rw [AG,ly];rfl,fun j z hz=>?_⟩
  have kt:Kt H3 (upd H3 D (.lst (ys++[y]))):=Mw (s3 _ _ hH)
  by_cases hj:j<ys.length
  ·rw [BZ hj] at hz
   exact up _ _ _ _ ((Bq s3).trans kt) (ar j z hz)
  ·have ej:j=i:=by
    have:=(AY.mp hz).1
    rw [AG,BR] at this
    omega
   subst ej
   rw [BP (by omega),ly,Nat.sub_self] at hz
   cases hz
   exact up _ _ _ _ kt r3
 ·have e:i=n:=by omega
  subst e
  exact .inl ⟨AF _,hq D _ ys sm hD hH ly ar⟩
theorem Mz {α β:Type}{R:α→β→Prop}:∀{l:List α} {m:List β},l.length=m.length→(∀(i:Nat) a b,l[i]? =some a→m[i]? =some b→R a b)→Az R l m
 |[],[],_,_=>.nil
 |[],_::_,h,_=>by simp at h
 |_::_,[],h,_=>by simp at h
 |a::l,b::m,h,f=>.cons (f 0 a b rfl rfl) (Mz (by simpa using h) fun i x y hx hy=>f (i+1) x y (by simpa using hx) (by simpa using hy))
theorem Fr3.pre {L A T:IC}{H H1 H2:Hp}(s:Aj H H1)(f:Fr3 L A T H1 H2):Fr3 L A T H H2:=fun b o n1 n2 n3 e=>f b o n1 n2 n3 (s b o e)
theorem Ac5 {K:KKf}{L A R T a:IC}{H H':Hp}{es:List En}{last:Int}{pos:Pos}{q:Str}{xs:IP}(f:Fr3 L A T H H')(lg:I0 K H L A R es last)(tk:A8 H T pos q)(h:Au K H a xs):Au K H' a xs:=by
 obtain ⟨C,dx,fs,eL,_,_,kvs,eA,_⟩:=lg
 obtain ⟨ps,eT,_⟩:=tk
 rcases h with (h|⟨ob,h⟩)|h
 ·exact .inl (.inl (f _ _ (fun z=>by rw [z,eL] at h;cases h) (fun z=>by rw [z,eA] at h;cases h) (fun z=>by rw [z,eT] at h;cases h) h))
 ·exact .inl (.inr ⟨ob,f _ _ (fun z=>by rw [z,eL] at h;cases h) (fun z=>by rw [z,eA] at h;cases h) (fun z=>by rw [z,eT] at h;cases h) h⟩)
 ·exact .inr h
theorem Ala (x:Str):co (Str.ofString "put "++x)=co (Str.ofString "put")++32::co x:=by
 rw [B8,show co (Str.ofString "put ")=co (Str.ofString "put")++[32] from by decide +kernel,BU]
 rfl
theorem Amw {nm:IG}{gs:IQ}(nl:NL nm)(bl:BL nm gs):∀g∈gs,GO g:=fun g hg=>⟨(bl.ds g hg).1.1,(bl.ds g hg).1.2,nl.ok _ (bl.mem g hg).1,nl.ok _ (bl.mem g hg).2,bl.ne g hg,(bl.h0 g hg).1,(bl.h0 g hg).2,(bl.ds g hg).2.1,(bl.ds g hg).2.2⟩
theorem Adi {K:KKf}{ns:IH}{H:Hp}{Q:VK}{E:XK}{Z L A R G:IC}{es:List En}{last:Int}{gs:IQ}{nm:IG}(wk:Wk K H Z L A R es last G gs nm)(k:∀p H',Ow (Dv K) H H'→A8 H' (Dv K) Dg Jr→Nh (dk gs) gs.length p→Q (.str (Ve (pg gs p))) H'):Dw K ns [.ref Z,.str "book"] H Q E:=by
 obtain ⟨le1,le2,le3⟩:=wk.le
 refine ⟨by decide +kernel,.inr ⟨.inl (by rw [Q5 (by decide +kernel)]),fun W H3 s3 e3=>.inl ⟨e3.trans (by rw [show Txt.split (Str.ofString "book") ⟨#[32]⟩=[Str.ofString "book"] from by decide +kernel];rfl),fun B H4 s4=>?_⟩⟩⟩
 exact ⟨L,A,R,es,last,⟨wk.dk.up (s3.trans s4),le1,le3,wk.tk.up (s3.trans s4)⟩,fun p H5 sm tk st=>wk.eg▸k p H5 (fun b o n e=>sm b o n ((s3.trans s4) b o e)) tk (wk.eg▸st)⟩
structure Tn (K:KKf)(ns:IH)(a G X:IC)(nm:IG)(gs:IQ)(H:Hp)(Z L A R:IC)(es:List En)(i:Nat):Prop where
 dk:Hn K H Z L A R es i
 eg:es.map (·.2)=gs.take i
 ok:Acn nm es i
 tk:A8 H (Dv K) Dg Jr
 bk:X9 H G gs
 tx:H X=some (.lst ((gs.map Ej).map V.str))
 s:Au K H a (ns.map V.int)
theorem Afk (v:V)(q:Int×Int)(H H':Hp)(k:Kt H H')(h:Wp H v q):Wp H' v q:=by
 obtain ⟨p,e,h1⟩:=h
 exact ⟨p,e,k _ _ h1⟩
theorem Aou {gs:IQ}{p:IM}(h:Nh (kP ((List.range gs.length).map fun i=>(dk gs i,(i:Int)))) gs.length p)(l40:gs.length≤40):Nh (dk gs) gs.length p:=by
 refine ⟨h.1,h.2.1,h.2.2.imp_of_mem fun {i j} hi hj z=>?_⟩
 have li:=h.2.1 i hi
 have lj:=h.2.1 j hj
 have e:∀i,i<gs.length→kP ((List.range gs.length).map fun i=>(dk gs i,(i:Int))) i=dk gs i*64+i:=fun i hi=>by
  unfold kP
  rw [BJ,BE,List.getElem?_range hi]
  rfl
 unfold Lt at z ⊢
 rw [e i li,e j lj] at z
 omega
theorem V8 {gs:IQ}:∀{p:IM} {ws:IP},Az (fun i y=>∃g,gs[i]? =some g∧y=V.str (Ej g)) p ws→ws=((pg gs p).map Ej).map V.str
 |_,_,.nil=>rfl
 |_,_,.cons ⟨g,h1,h2⟩ t=>by
  unfold pg
  rw [List.filterMap_cons_some h1,h2,V8 t]
  rfl
theorem Gh:Al ["_law_script","_law_many","_law_names_here","_law_rows","_law_texts","_law_text","_law_desk","_law_k","_law_by_days","_law_handed"] ["_law_script"] (Ad Jy):=D9
include er n_sorted n_range n_len n_str in
theorem Aj5 (d:Bt K mg "law" Jy ["_law_script"])  (c_l_seen:Bc P w K mg base "_law_seen" ["_law_script","_law_desk","_law_rows","_law_found"] 12 (R9 K ns))(c_verdict:Bc P w K mg base "verdict" ["games"] 7 (Kl K ns))(c_read_book:Bc P w K mg base "read_book" ["text"] 5 (K3 K ns))(c_Desk_say:E6 P w K mg base [c_Desk] [] "say" ["self","row"] 10 (Dw K ns))(c_Desk___init__:E6 P w K mg base [c_Desk] [] "__init__" ["self"] 11 (Gu K ns))(c_l_written:Bc P w K mg base "_law_written" ["_law_row"] 1 (Kw K ns))(c_l_book:Bc P w K mg base "_law_book" ["_law_script","_law_names_here"] 2 (Q8 K ns))(c_l_names:Bc P w K mg base "_law_names" ["_law_cell","_law_many"] 1 (Pm K ns))(c_l_cell_at:Bc P w K mg base "_law_cell_at" ["_law_script","_law_k"] 1 (Fc K ns)):Bc P w K mg base "law" ["_law_script"] 13 (V0 "in_order" K ns):=by
 refine d.cal (k:=12) Gh (fun vs H Q E h=>?_) (fun f cdv A outer s H vs Q E hr h=>?_)
 ·match vs,h with
  |[.ref a],_=>rfl
 ·match vs,h with
  | [.ref a],hq0=>
   obtain ⟨hS,hl,hb,hT,k⟩:=hq0
   refine ⟨_,(@Aa _ _ _ _ _ (@Ak _ _ _ (1) _ _ _ Gh.nd (@Ap _ _ _ _ _ _ _ _ Dy Ae (@Ap _ _ _ _ _ _ _ _ Fo (@Af _ _ _ _ _ _ _ _ _ _ _ c_l_cell_at hr (@Ai _ _ _ _ _ (dv 0) (@Bf _ _ _ Ae (by rfl)) (by rfl)) (by trivial)) Ae)) (by trivial)) (@Aa _ _ _ _ _ (@Ak _ _ _ (2) _ _ _ Gh.nd (@Af _ _ _ _ _ _ _ _ _ _ _ c_l_names hr (@Ai _ _ _ _ _ (@Af _ _ _ _ _ _ _ _ _ _ _ c_l_cell_at hr (@Ai _ _ _ _ _ (dv 0) (@Bf _ _ _ Ae (by rfl)) (by rfl)) (by trivial)) (@Bf _ _ _ (dv 1) (by rfl)) (by rfl)) (by trivial)) (by trivial)) (@Aa _ _ _ _ _ (@Ak _ _ _ (3) _ _ _ Gh.nd (@Af _ _ _ _ _ _ _ _ _ _ _ c_l_book hr (@Ai _ _ _ _ _ (dv 0) (@Bf _ _ _ (dv 2) (by rfl)) (by rfl)) (by trivial)) (by trivial)) (@Aa _ _ _ _ _ (@Ak _ _ _ (4) _ _ _ Gh.nd (@Cc _ _ _ _ _ _ _ _ _ _ ["_law_row"] [] [] rfl (@A4 _ _ _ _ (dv 3)) (fun C s H fp=>(@Ar _ _ (0) _ (show List.Nodup [("_law_row":Str)] by decide +kernel) rfl (by trivial) (by trivial))) (fun C s H fp=>(@Af _ _ _ _ _ _ _ _ _ _ _ c_l_written hr (@Bf _ _ _ (dv 0) (by rfl)) (by trivial))) rfl rfl (by decide +kernel) (by decide +kernel) (by rfl) ⟨⟩ ⟨⟩ (by intro _;rfl)) (by trivial)) (@Aa _ _ _ _ _ (@Ak _ _ _ (5) _ _ _ Gh.nd (@Ew _ _ _ _ _ ("join") _ _ Ax (@Ab _ _ _ _ _ (dv 4) Ag (by rfl)) (by rfl) (by rfl) (by rfl) (by rfl) (by rfl)) (by trivial)) (@Dl _ _ _ _ _ (@Ak _ _ _ (6) _ _ _ Gh.nd (@Ahx _ _ _ _ _ _ _ _ _ _ _ c_Desk___init__ (List.Mem.head _) er.m_Desk hr (by decide) (by rfl) er.b_Desk (by decide)) (by trivial)) (@Aa _ _ _ _ _ (@C4 _ _ _ _ _ _ _ _ CB rfl (@Fj _ _ _ _ _ _ (by rfl) n_range (@Ab _ _ _ _ _ (@Av _ _ _ _ _ _ _ _ _ D6 n_len (by decide +kernel) (@Bf _ _ _ (dv 3) (by rfl)) (by trivial)) Ag (by rfl)) (by rfl)) (@Ar _ _ (7) _ Gh.nd rfl (by trivial) (by trivial)) (@An _ _ _ (@Bl _ _ _ _ _ _ _ _ (@A0 _ _ _ _ _ _ _ _ Ky (@Hm _ _ _ _ _ _ _ _ _ _ _ _ (dv 6) (@Dz _ _ _ _ _ _ _ _ _ _ _ _ _ _ c_Desk_say (List.Mem.head _) er.l_Desk (by decide) Fx) hr (@Ab _ _ _ _ _ (@Ap _ _ _ _ _ _ _ _ Im Ax (@Co _ _ _ _ _ _ _ (show Wv _ (Ug K) from Dd) (dv 4) (dv 7) (fun _ _=>rfl))) Ag (by rfl)) (by rfl) (by rfl) (by rfl)) (@Cb _ _ _ _ _ _ _ _ _ Aev n_str (by decide +kernel) (@Bf _ _ _ (@Ap _ _ _ _ _ _ _ _ Dy (dv 7) Ae) (by rfl)) (by trivial)) (Aq _)) (@A3 _ _ _ _ Fw) Ao)) (by intro _;rfl)) (@Aa _ _ _ _ _ (@Wc _ _ _ _ _ _ _ _ (8) _ _ _ _ _ ["_law_day","_law_k"] ["_law_texts"] [4] rfl (@A4 _ _ _ _ (@Av _ _ _ _ _ _ _ _ _ Aho n_sorted (by decide +kernel) (@Bf _ _ _ (@Cc _ _ _ _ _ _ _ _ _ _ ["_law_k"] ["_law_rows"] [3] rfl (@Fj _ _ _ _ _ _ (by rfl) n_range (@Ab _ _ _ _ _ (@Av _ _ _ _ _ _ _ _ _ D6 n_len (by decide +kernel) (@Bf _ _ _ (dv 3) (by rfl)) (by trivial)) Ag (by rfl)) (by rfl)) (fun C s H fp=>(@Ar _ _ (0) _ (show List.Nodup [("_law_k":Str),("_law_rows":Str)] by decide +kernel) rfl (by trivial) (by trivial))) (fun C s H fp=>(@Dx _ _ _ _ _ (@Ab _ _ _ _ _ (@Bx _ _ _ _ _ _ _ (@Co _ _ _ _ _ _ _ (show Wv _ (Ug K) from Dd) (dv 1) (dv 0) (fun _ _=>rfl))) (@Ab _ _ _ _ _ (dv 0) Ag (by rfl)) (by rfl)))) rfl rfl (by decide +kernel) (by decide +kernel) (by rfl) ⟨rfl,⟨⟩⟩ ⟨⟨rfl,rfl,rfl,rfl⟩,⟨⟩⟩ (by intro _;rfl)) (by rfl)) (by trivial))) (fun C s H fp=>(show PG _ _ (Ah3 K 2 _) from Mv rfl (Be (Ar (i:=0) (show List.Nodup [("_law_day":Str),("_law_k":Str),("_law_texts":Str)] by decide +kernel) rfl (by trivial)) (Be (Ar (i:=1) (show List.Nodup [("_law_day":Str),("_law_k":Str),("_law_texts":Str)] by decide +kernel) rfl (by trivial)) Jn)))) (fun C s H fp=>(@Co _ _ _ _ _ _ _ (show Wv _ (Ug K) from Dd) (dv 2) (dv 1) (fun _ _=>rfl))) rfl rfl (by decide +kernel) (by decide +kernel) (by rfl) ⟨rfl,⟨⟩⟩ ⟨⟨rfl,rfl,rfl,rfl⟩,⟨⟩⟩ Gh.nd rfl rfl (by intro _;rfl) (by rfl)) (@Dl _ _ _ _ _ (@Bl _ _ _ _ _ _ _ _ (@A0 _ _ _ _ _ _ _ _ Ky (@Hm _ _ _ _ _ _ _ _ _ _ _ _ (dv 6) (@Dz _ _ _ _ _ _ _ _ _ _ _ _ _ _ c_Desk_say (List.Mem.head _) er.l_Desk (by decide) Fx) hr (@Ab _ _ _ _ _ Ax Ag (by rfl)) (by rfl) (by rfl) (by rfl)) (@Anh _ _ _ _ _ _ (@Ew _ _ _ _ _ ("join") _ _ Ax (@Ab _ _ _ _ _ (dv 8) Ag (by rfl)) (by rfl) (by rfl) (by rfl) (by rfl) (by rfl)) Ax) (Aq _)) (@A3 _ _ _ _ Fw) Ao) (@Aa _ _ _ _ _ (@Ak _ _ _ (9) _ _ _ Gh.nd (@Af _ _ _ _ _ _ _ _ _ _ _ c_read_book hr (@Bf _ _ _ (dv 5) (by rfl)) (by trivial)) (by trivial)) (@Aa _ _ _ _ _ (@Bl _ _ _ _ _ _ _ _ (@A0 _ _ _ _ _ _ _ _ (@Rh _ hr.units) (dv 9) (dv 3) (Aq _)) (@A3 _ _ _ _ Fw) Ao) (@A3 _ _ _ _ (@Af _ _ _ _ _ _ _ _ _ _ _ c_l_seen hr (@Ai _ _ _ _ _ (dv 0) (@Ai _ _ _ _ _ (dv 6) (@Ai _ _ _ _ _ (dv 3) (@Bf _ _ _ (@Af _ _ _ _ _ _ _ _ _ _ _ c_verdict hr (@Bf _ _ _ (dv 9) (by rfl)) (by trivial)) (by rfl)) (by rfl)) (by rfl)) (by rfl)) (by trivial)))))))))))))),?_⟩
   have tk0:A8 H (Dv K) Dg Jr:=⟨#[],hT,trivial,.inl rfl⟩
   refine ⟨hS,by decide,fun c0=>⟨(by show (0:Int)<7;decide),hS,by decide,fun c1=>⟨⟨by omega,by omega⟩,fun NA nm H1 s1 _ e1 l1 nl=>?_⟩⟩⟩
   have n2:2≤nm.length:=by omega
   have n8:nm.length≤8:=by omega
   refine ⟨nm,⟨s1.seq hS,e1,nl,n2,n8⟩,fun G gs H2 s2 _ bk bl l40=>?_⟩
   obtain ⟨gv,eG,al⟩:=id bk
   have go:=Amw nl bl
   have lv:=al.len
   refine ⟨G,rfl,⟨_,Au.of eG⟩,Ce Bp Bm (fun _ g y=>y=V.str (Ej g)) (fun _ _ _ _ _ h=>h) (by omega) (Au.of eG) al ?_ ?_⟩
   ·intro v g H3 hM hg s3 P hP
    obtain ⟨q,rfl,eq⟩:=hM
    exact ⟨rfl,g,⟨⟨q,rfl,eq⟩,go g hg⟩,fun H4 s4=>hP _ H4 s4 rfl⟩
   intro X H3 ys s3 _ e3 a3
   rw [Ts a3] at e3
   have lw:∀w∈gs.map Ej,w.length≤40:=fun w hw=>by
    obtain ⟨g,hg,rfl⟩:=BG.mp hw
    exact Oe (go g hg)
   have ej:Txt.join (Str.ofString "; ") (gs.map Ej)=Str.join E9 (gs.map Ej):=Dq (F7 _ _)
   refine ⟨rfl,gs.map Ej,Au.of e3,Ju (by decide +kernel) (fun p hp=>AI (lw p hp) (by decide)) (by rw [AE];omega),?_⟩
   rw [ej]
   have bk3:X9 H3 G gs:=⟨gv,s3 _ _ eG,al.imp fun v g r=>Bm v g _ _ (Bq s3) r⟩
   have s03:=s1.trans (s2.trans s3)
   have tk3:=tk0.up s03
   have hS3:=s03.seq hS
   clear tk0 hS hT e1 eG al a3 bk s1 s2 s3 s03
   refine ⟨fun σ H'=>∃Z L A R,σ=[some (.ref a),some (.int (2+c0 % 7)),some (.ref NA),some (.ref G),some (.ref X),some (.str (Str.join E9 (gs.map Ej))),some (.ref Z),none,none,none]∧Tn K ns a G X nm gs H' Z L A R [] 0,?_,?_⟩
   ·intro Z dz hz hdz nez
    have s2:=Oa (C:=c_Desk) hz hdz nez
    have e2:upd (upd H3 dz (.own Z)) Z (.ins c_Desk dz []) Z=some (.ins c_Desk dz []):=Ac
    generalize upd (upd H3 dz (.own Z)) Z (.ins c_Desk dz [])=H2 at s2 e2
    refine ⟨_,dz,⟨e2,er.y_Desk⟩,fun L A R H4 s4 nL nA nR nRL dk rl=>⟨rfl,?_⟩⟩
    have s34:Aj H3 H4:=Z9 hz s2 s4
    obtain ⟨gv,eG,al⟩:=bk3
    exact ⟨Z,L,A,R,rfl,dk,by simp,⟨.nil,fun e h=>by (cases h),fun e h=>by (cases h)⟩,tk3.up s34,⟨gv,s34 _ _ eG,al.imp fun v g r=>Bm v g _ _ (Bq s34) r⟩,s34 _ _ e3,s34.seq hS3⟩
   rintro σ H4 ⟨Z,L,A,R,rfl,t4⟩
   clear tk3 hS3 bk3 e3
   obtain ⟨gv4,eG4,al4⟩:=t4.bk
   refine ⟨_,.inl (Au.of eG4),?_⟩
   rw [al4.len]
   refine ⟨_,rfl,by omega,by omega,Fm (lo:=0) (n:=gs.length) (fun i σ H'=>∃(es:List En) (o7:Option V),σ=[some (.ref a),some (.int (2+c0 % 7)),some (.ref NA),some (.ref G),some (.ref X),some (.str (Str.join E9 (gs.map Ej))),some (.ref Z),o7,none,none]∧Tn K ns a G X nm gs H' Z L A R es i) ⟨[],none,rfl,t4⟩ ?_ ?_⟩
   ·clear t4 eG4 al4
    rintro i σ Hx hi ⟨es,o7,rfl,t⟩
    obtain ⟨g,hg⟩:∃g,gs[i]? =some g:=⟨_,AD hi⟩
    have hgm:=AN hg
    have hat:Na ((gs.map Ej).map V.str) (0+(i:Int))=some (.str (Ej g)):=by
     rw [Int.zero_add]
     refine A1 ?_
     rw [BE,BE,hg]
     rfl
    obtain ⟨dx,fs,dy,gs',eZ,f1,f2,eL,fd⟩:=t.dk.get er.y_Desk er.y_Ledger
    have lg:=Oe (go g hgm)
    have l4:(Str.ofString "put ").length=4:=by decide +kernel
    have big:(1000:Nat)≤sizeLine:=by decide
    have les:es.length=i:=by
     have:=congrArg List.length t.eg
     rw [AE,CH] at this
     omega
    have fit:Ana es g:=⟨by omega,AI (Hq (nm:=nm) fun x hx=>by
     rw [t.eg] at hx
     rcases BH.mp hx with hx|hx
     ·exact bl.mem x (EZ hx)
     ·rw [AH.mp hx]
      exact bl.mem g hgm) n8⟩
    refine ⟨Z,_,dx,fs,_,rfl,eZ,.head _,f2,_,_,Au.of t.tx,hat,by omega,by rw [Dk];omega,.inl ⟨Ej g,Uw (Ala _) (by decide +kernel),fun H6 s6=>⟨L,A,R,es,i,g,nm,⟨t.dk.up s6,t.ok,by omega,by omega,(bl.mem g hgm).1,(bl.mem g hgm).2,rfl,go g hgm,by omega,by omega,t.tk.up s6⟩,fit,fun H7 fr dk7 tk7=>?_⟩⟩⟩
    rw [Int.zero_add]
    refine ⟨Aip (by omega) (by omega),⟨fun h=>absurd h (by simp),fun _=>⟨es++[((i:Int)+1,g)],_,rfl,dk7,?_,Ag7 t.ok (bl.mem g hgm).1 (bl.mem g hgm).2,tk7,?_,?_,?_⟩⟩⟩
    ·rw [BQ,t.eg,BY,hg]
     rfl
    all_goals obtain ⟨k1,k2⟩:=Ag1 (Fr3.pre s6 fr) t.dk.2.2 t.tk
    ·obtain ⟨gv,eG,al⟩:=t.bk
     exact ⟨gv,k1 _ _ eG,al.imp fun v g r=>Bm v g _ _ k2 r⟩
    ·exact k1 _ _ t.tx
    ·exact Ac5 (Fr3.pre s6 fr) t.dk.2.2 t.tk t.s
   rintro σ H5 ⟨es,o7,rfl,t⟩
   have eg:es.map (·.2)=gs:=by rw [t.eg,CO]
   have p8:(A7 gs).length≤8:=AI (Hq bl.mem) n8
   have wk:Wk K H5 Z L A R es gs.length G gs nm:=⟨t.dk,eg,p8,go,t.tk,t.bk,bl,l40,fun x hx=>(nl.ok x hx).sok⟩
   clear t4 eG4 al4
   obtain ⟨gv,eG,al⟩:=t.bk
   have lv:=al.len
   refine ⟨_,.inl (Au.of eG),?_⟩
   rw [lv]
   refine ⟨_,rfl,by omega,by omega,Abz (n:=gs.length) (fun H j y=>Wp H y (dk gs j,(j:Int))) (fun j y H H' kt h=>Afk _ _ _ _ kt h) (by omega) ?_ ?_⟩
   ·intro i H6 hi s6 P hP
    have hv:i<gv.length:=by omega
    obtain ⟨g,hg,p',ev,h2⟩:=al.get (AD hv)
    have ed:dk gs i=g.d:=by
     unfold dk
     rw [hg]
    refine ⟨rfl,_,_,Au.of (s6 _ _ eG),(show Na gv (0+(i:Int))=some (.ref p') by rw [Int.zero_add,←ev];exact A1 (AD hv)),_,s6 _ _ h2,fun T' H7 s7 e7=>hP _ H7 s7 ⟨T',rfl,?_⟩⟩
    rw [e7,ed,Int.zero_add]
   intro D1 H6 ys s6 n6 e6 ly ar
   have lr:((List.range gs.length).map fun i=>(dk gs i,(i:Int))).length=gs.length:=by rw [AE,HE]
   have pa:Az (Wp H6) ys ((List.range gs.length).map fun i=>(dk gs i,(i:Int))):=Mz (by rw [ly,lr]) fun i a b ha hb=>by
    rw [BE] at hb
    have hi:i<gs.length:=by
     have:=(AY.mp ha).1
     omega
    rw [List.getElem?_range hi] at hb
    cases hb
    exact ar i a ha
   refine ⟨ys,_,Au.of e6,pa,by rw [lr];omega,fun q hq=>?_,fun D2 p nD stb=>?_⟩
   ·obtain ⟨i,hi,rfl⟩:=BG.mp hq
    have:=CN.mp hi
    exact ⟨Int.natCast_nonneg _,by show (i:Int)<64;omega⟩
   rw [lr] at stb
   have stb':=Aou stb l40
   have s7:Aj H6 (upd H6 D2 (.lst (p.map fun i=>ys.getD i .non))):=Ah nD
   have e7:upd H6 D2 (.lst (p.map fun i=>ys.getD i .non)) D2=some (.lst (p.map fun i=>ys.getD i .non)):=Ac
   generalize upd H6 D2 (.lst (p.map fun i=>ys.getD i .non))=H7 at s7 e7
   have a7:Az (fun v i=>Wp H7 v (dk gs i,(i:Int))∧i<gs.length) (p.map fun i=>ys.getD i .non) p:=Mz (by rw [AE]) fun i a b ha hb=>by
    rw [BE,hb] at ha
    cases ha
    have hb':=stb.2.1 b (AN hb)
    refine ⟨Afk _ _ _ _ (Bq s7) (ar b _ ?_),hb'⟩
    show ys[b]? =some (ys.getD b .non)
    rw [BJ,AD (by omega)]
    rfl
   have s57:=s6.trans s7
   refine ⟨D2,rfl,⟨_,Au.of e7⟩,Ce (fun H v i=>Wp H v (dk gs i,(i:Int))∧i<gs.length) (fun v i H H' kt h=>⟨Afk _ _ _ _ kt h.1,h.2⟩) (fun _ i y=>∃g,gs[i]? =some g∧y=V.str (Ej g)) (fun _ _ _ _ _ h=>h) (by rw [AE,stb.1];omega) (Au.of e7) a7 ?_ ?_⟩
   ·intro v i H8 hM _ s8 P hP
    obtain ⟨⟨q,rfl,hq⟩,hi⟩:=hM
    have hg:=AD hi
    exact ⟨q,_,rfl,F5.of hq,rfl,_,_,rfl,_,_,rfl,rfl,rfl,_,_,Au.of ((s57.trans s8) _ _ t.tx),(show Na ((gs.map Ej).map V.str) (i:Int)=some (.str (Ej gs[i])) from A1 (by rw [BE,BE,hg];rfl)),hP _ _ (Aj.refl _) ⟨_,hg,rfl⟩⟩
   intro BD H8 ws s8 _ e8 a8
   rw [V8 a8] at e8
   have s58:=s57.trans s8
   have wk8:=wk.up s58
   have hS8:=s58.seq t.s
   clear e7 a7 stb pa ar e6 al eG s6 s7 s8 s57 t
   have okg:∀g∈pg gs p,GO g:=Wf go
   have lgp:(pg gs p).length=gs.length:=by rw [P8 stb'.2.1,stb'.1]
   refine ⟨fun σ H'=>σ=[some (.ref a),some (.int (2+c0 % 7)),some (.ref NA),some (.ref G),some (.ref X),some (.str (Str.join E9 (gs.map Ej))),some (.ref Z),o7,some (.ref BD),none]∧Ow (Dv K) H8 H'∧A8 H' (Dv K) Dg Jr,?_,?_⟩
   ·obtain ⟨dx,fs,dy,gs',eZ,f1,f2,eL,fd⟩:=wk8.dk.get er.y_Desk er.y_Ledger
    refine ⟨Z,_,dx,fs,_,rfl,eZ,.head _,f2,Adi wk8 fun p2 H9 sm tk9 stb2=>?_⟩
    obtain rfl:=Acf stb2 stb'
    obtain ⟨k1,k2⟩:=Iv sm wk8.tk
    have e9:=k1 _ _ e8
    have ej:Txt.join (Str.ofString "; ") ((pg gs p2).map Ej)=Str.join E9 ((pg gs p2).map Ej):=Dq (F7 _ _)
    have lw:∀w∈(pg gs p2).map Ej,w.length≤40:=fun w hw=>by
     obtain ⟨g,hg,rfl⟩:=BG.mp hw
     exact Oe (okg g hg)
    obtain ⟨o1,o2⟩:=Ah5 (l:=pg gs p2) (f:=Ej) fun g hg=>by
     rw [←A2,Acw,AG,BN]
     omega
    refine ⟨rfl,_,Au.of e9,Ju (by decide +kernel) (fun p hp=>AI (lw p hp) (by decide)) (by rw [AE];omega),?_⟩
    rw [ej]
    refine ⟨?_,fun hne=>⟨fun h=>?_,fun _=>⟨rfl,sm,tk9⟩⟩,fun he=>⟨fun h=>?_,fun _=>⟨rfl,sm,tk9⟩⟩⟩
    ·have:=Mr lw
     rw [AE,lgp] at this
     have big:(1000000:Nat)≤sizeLine:=by decide
     have:gs.length*(40+2)≤40*42:=Nat.mul_le_mul_right _ l40
     omega
    ·unfold Ve at h
     rw [o1 hne,AR rfl] at h
     exact nb h
    ·unfold Ve at h
     rw [o2 he,AR rfl] at h
     exact nb h
   rintro σ H9 ⟨rfl,sm,tk9⟩
   have wk9:=wk8.sm sm tk9
   have hS9:=Ac5 (Aiq (L:=L) (A:=A) sm) wk8.dk.2.2 wk8.tk hS8
   refine ⟨gs,⟨rfl,go,l40,p8⟩,fun D vs H10 s10 _ e10 al10=>?_⟩
   have wk10:=wk9.up s10
   obtain ⟨gv,eG,al⟩:=wk10.bk
   have shg:SeqAt.shaped (.list (gs.map gd))=true:=Xp fun g hg=>⟨(go g hg).na.sok,(go g hg).nb.sok⟩
   refine ⟨_,_,Tg (Au.of e10) al10,Tg (Au.of eG) al,shg,shg,?_⟩
   rw [J7 shg]
   refine ⟨fun h=>nb h,fun _=>⟨gs,nm,⟨⟨vs,Au.of e10,al10,by omega⟩,bl.mem,by omega,fun x hx=>(nl.ok x hx).sok⟩,fun T H11 s11 vd=>?_⟩⟩
   exact ⟨L,A,R,es,gs.length,gs,nm,H10,⟨s11.seq (s10.seq hS9),wk10.up s11,vd⟩,fun H'=>k H'⟩
end
theorem J8 {us:II}{n:Nat}(h:us.length=n+1):∃a l,us=a::l∧l.length=n:=by
 cases us with
 |nil=>cases h
 |cons a l=>exact ⟨a,l,rfl,Nat.succ.inj h⟩
theorem lenE1 (us:II)(h:us.length=1):∃y0:IA,us=[y0]:=by
 obtain ⟨y0,l0,rfl,h0⟩:=J8 h
 cases CV.mp h0
 exact ⟨_,rfl⟩
theorem lenE2 (us:II)(h:us.length=2):∃y0 y1:IA,us=[y0,y1]:=by
 obtain ⟨y0,l0,rfl,h0⟩:=J8 h
 obtain ⟨y1,l1,rfl,h1⟩:=J8 h0
 cases CV.mp h1
 exact ⟨_,_,rfl⟩
theorem lenE3 (us:II)(h:us.length=3):∃y0 y1 y2:IA,us=[y0,y1,y2]:=by
 obtain ⟨y0,l0,rfl,h0⟩:=J8 h
 obtain ⟨y1,l1,rfl,h1⟩:=J8 h0
 obtain ⟨y2,l2,rfl,h2⟩:=J8 h1
 cases CV.mp h2
 exact ⟨_,_,_,rfl⟩
theorem lenE4 (us:II)(h:us.length=4):∃y0 y1 y2 y3:IA,us=[y0,y1,y2,y3]:=by
 obtain ⟨y0,l0,rfl,h0⟩:=J8 h
 obtain ⟨y1,l1,rfl,h1⟩:=J8 h0
 obtain ⟨y2,l2,rfl,h2⟩:=J8 h1
 obtain ⟨y3,l3,rfl,h3⟩:=J8 h2
 cases CV.mp h3
 exact ⟨_,_,_,_,rfl⟩
theorem lenE5 (us:II)(h:us.length=5):∃y0 y1 y2 y3 y4:IA,us=[y0,y1,y2,y3,y4]:=by
 obtain ⟨y0,l0,rfl,h0⟩:=J8 h
 obtain ⟨y1,l1,rfl,h1⟩:=J8 h0
 obtain ⟨y2,l2,rfl,h2⟩:=J8 h1
 obtain ⟨y3,l3,rfl,h3⟩:=J8 h2
 obtain ⟨y4,l4,rfl,h4⟩:=J8 h3
 cases CV.mp h4
 exact ⟨_,_,_,_,_,rfl⟩
theorem dmk {K:KKf}{h:Heap}{mg:Str→IK}{x:Str}{st:Stmt}{ps:IG}{f:IC}{od an:Option IC}{sl:Array (IK)}{oc kV dc pm cd ct:IA}(X:K.In h)(G:h.Ns mainGlobals mg)(a:PySem.W.nsIn K mainGlobals x=some (some (.ref f)))(l:K.lookup f=some ⟨oc,od,.func (PySem.W.fnOf x x (Dm st) (Cd st) (Ad st) .none kV dc pm an cd ct),sl⟩)(e:PySem.W.codeIn K cd x=true)(k:PySem.W.keepIn K (.ref f)=true)(hb:∀(kV doc pm:IA) (an:Option IC) (cdv ct:IA) (us:II),us.length=ps.length→bindArgs (PySem.W.fnOf x x (Dm st) (Cd st) (Ad st) .none kV doc pm an cdv ct) ⟨us,[]⟩=pure (ps.zip us)):Bt K mg x st ps:=⟨⟨_,_,Mh l e k,PySem.W.mg_of X G a,(Mh l e k).binds hb⟩⟩
theorem mmk {K:KKf}{x q:Str}{Cs Ds:List IC}{st:Stmt}{ps:IG}{f:IC}{od an:Option IC}{sl:Array (IK)}{oc kV dc pm cd ct:IA}(A:∀C∈Cs,Afu K C x f)(B:∀C∈Ds,PySem.W.findCls K (.ref C) (.type "type") x=some (.val (.ref f)))(l:K.lookup f=some ⟨oc,od,.func (PySem.W.fnOf x q (Dm st) (Cd st) (Ad st) .none kV dc pm an cd ct),sl⟩)(e:PySem.W.codeIn K cd q=true)(k:PySem.W.keepIn K (.ref f)=true)(hb:∀(kV doc pm:IA) (an:Option IC) (cdv ct:IA) (us:II),us.length=ps.length→bindArgs (PySem.W.fnOf x q (Dm st) (Cd st) (Ad st) .none kV doc pm an cdv ct) ⟨us,[]⟩=pure (ps.zip us)):Hf K Cs Ds x q st ps:=⟨⟨_,_,Mh l e k,A,B,(Mh l e k).binds hb⟩⟩
theorem tup_mk {K:KKf}{a:IC}{xs:IP}{us:Array IA}{n:Nat}{sl:Array (IK)}(p:K.lookup a=some ⟨.type "tuple",none,.seq us n,sl⟩)(h:us.size≤sizeLine)(q:A6 xs us.toList):B9 K a xs:=⟨fun H=>.inr ⟨_,_,_,p,rfl,rfl,h,q⟩,⟨_,p,rfl,rfl⟩⟩
theorem all_mk {l:PySem.W.OpenLaw}{w:IF}{K:KKf}{h:Heap}{mg:Str→IK}{fa:IC}{f18:IC}{od18 an18:Option IC}{sl18:Array (IK)}{oc18 kV18 dc18 pm18 ct18:IA}{f58:IC}{od58 an58:Option IC}{sl58:Array (IK)}{oc58 kV58 dc58 pm58 cd58 ct58:IA}{ts:List IC}{cc tP:IC}{vsC:Array IA}{clC:IA}{cdC:Option IC}{slC:Array (IK)}{c_Desk c_Ledger c_Rule:IC}{a_FIRST_ROW:IC}{b_FIRST_ROW_1:IC}{a_TABLE:IC}{b_TABLE_0:IC}{b_TABLE_0_1:IC}{b_TABLE_1:IC}{b_TABLE_1_1:IC}{b_TABLE_2:IC}{b_TABLE_2_1:IC}{b_TABLE_3:IC}{b_TABLE_3_1:IC}{b_TABLE_4:IC}{b_TABLE_4_1:IC}{a_TEXT_ROWS:IC}{g_put_game:IC}{g_tell_tree:IC}{g_tell_group:IC}{a_WORDS:IC}{a_WORD_ROWS:IC}{b_WORD_ROWS_take:IC}{b_WORD_ROWS_book:IC}{b_WORD_ROWS_verdict:IC}{b_WORD_ROWS_way:IC}{b_WORD_ROWS_ends:IC}{b_WORD_ROWS_rank:IC}{b_WORD_ROWS_running:IC}{b_WORD_ROWS_worth:IC}{b_WORD_ROWS_book_1:IC}{b_WORD_ROWS_verdict_1:IC}{b_WORD_ROWS_way_1:IC}{g_tell_book:IC}{g_tell_verdict:IC}{g_tell_way:IC}{fv_put_game:IC}{fv_tell_book:IC}{fv_tell_verdict:IC}{fv_tell_way:IC}(X:K.In h)(G:h.Ns mainGlobals mg)(hfa:mg "law"=some (.ref fa))(d_is_whole:Bt K mg "is_whole" Kk ["thing"])(d_fraction:Bt K mg "fraction" Kg ["top","bottom"])(d_greatest_divisor:Bt K mg "greatest_divisor" Do ["one","other"])(d_under:Bt K mg "under" Th ["one","other"])(d_game:Bt K mg "game" Xm ["day","one","other","halves","side"])(d_is_between:Bt K mg "is_between" Hk ["thing","least","most"])(d_is_name:Bt K mg "is_name" Lv ["thing"])(d_turned:Bt K mg "turned" Pt ["played"])(d_read_game:Bt K mg "read_game" Iz ["text"])(d_is_number:Bt K mg "is_number" Ik ["word","longest"])(d_is_starred:Bt K mg "is_starred" Hl ["word"])(d_unstarred:Bt K mg "unstarred" Ii ["word"])(d_side_of:Bt K mg "side_of" Mo ["one","other"])(d_show_game:Bt K mg "show_game" Jf ["played"])(d_starred:Bt K mg "starred" Ml ["name","had_side"])(d_read_book:Bt K mg "read_book" Ip ["text"])(d_check_size:Bt K mg "check_size" He ["games"])(d_show_book:Bt K mg "show_book" Io ["games"])(a18:PySem.W.nsIn K mainGlobals "in_order"=some (some (.ref f18)))(l18:K.lookup f18=some ⟨oc18,od18,.func (PySem.W.fnOf "in_order" "in_order" (Dm Dn) (Cd Dn) (Ad Dn) .none kV18 dc18 pm18 an18 (.ref cc) ct18),sl18⟩)(e18:PySem.W.codeIn K (.ref cc) "in_order"=true)(k18:PySem.W.keepIn K (.ref f18)=true)(d_players:Bt K mg "players" Mf ["games"])(d_told_by:Bt K mg "told_by" Ly ["games","name"])(d_check_player:Bt K mg "check_player" F3 ["games","name"])(d_takers:Bt K mg "takers" O8 ["games","name"])(d_above:Bt K mg "above" Sw ["games","name"])(d_way:Bt K mg "way" Ae7 ["games","one","other"])(d_ways_from:Bt K mg "ways_from" Iy ["games","name"])(d_verdict:Bt K mg "verdict" L5 ["games"])(d_joined:Bt K mg "joined" Oi ["games"])(d_Ledger___init__:Hf K [c_Ledger] [] "__init__" "Ledger.__init__" Ea ["self","rule"])(d_Ledger_put:Hf K [c_Ledger] [] "put" "Ledger.put" Ha ["self","played"])(d_Ledger_games:Hf K [c_Ledger] [] "games" "Ledger.games" F4 ["self"])(d_reached:Bt K mg "reached" Mb ["kept","number"])(d_behind:Bt K mg "behind" Po ["kept","number"])(d_table_of:Bt K mg "table_of" J6 ["rows"])(d_is_row:Bt K mg "is_row" O4 ["thing"])(d_is_pair:Bt K mg "is_pair" Lu ["thing"])(d_is_share:Bt K mg "is_share" Kc ["thing"])(d_goes_on:Bt K mg "goes_on" Lr ["row","later"])(d_Rule___init__:Hf K [c_Rule] [] "__init__" "Rule.__init__" Ex ["self","step","first","table"])(d_Rule_twin:Hf K [c_Rule] [] "twin" "Rule.twin" Iu ["self"])(d_put_game:Bt K mg "put_game" Kh ["desk","text"])(d_tell_book:Bt K mg "tell_book" Ij ["desk","things"])(d_tell_verdict:Bt K mg "tell_verdict" F1 ["desk","things"])(d_tell_way:Bt K mg "tell_way" Kr ["desk","things"])(d_Desk___init__:Hf K [c_Desk] [] "__init__" "Desk.__init__" E5 ["self"])(d_Desk_say:Hf K [c_Desk] [] "say" "Desk.say" Kj ["self","row"])(d_answer_words:Bt K mg "answer_words" F2 ["desk","words"])(d_read_thing:Bt K mg "read_thing" Hd ["word","pair"])(d_l_cell_at:Bt K mg "_law_cell_at" Jb ["_law_script","_law_k"])(d_l_names:Bt K mg "_law_names" L0 ["_law_cell","_law_many"])(d_l_first_games:Bt K mg "_law_first_games" E1 ["_law_names_here","_law_kind","_law_cut"])(d_l_book:Bt K mg "_law_book" Pn ["_law_script","_law_names_here"])(d_l_written:Bt K mg "_law_written" Jc ["_law_row"])(d_l_short:Bt K mg "_law_short" Mc ["_law_rows","_law_held","_law_worths"])(d_l_none_seen:Bt K mg "_law_none_seen" Gg ["_law_rows","_law_held","_law_worths"])(d_l_gone:Bt K mg "_law_gone" P2 ["_law_rows","_law_found","_law_one","_law_other"])(d_l_all_ways:Bt K mg "_law_all_ways" G0 ["_law_desk","_law_rows","_law_one","_law_names_here"])(d_l_seen:Bt K mg "_law_seen" Qf ["_law_script","_law_desk","_law_rows","_law_found"])(a58:PySem.W.nsIn K mainGlobals "law"=some (some (.ref f58)))(l58:K.lookup f58=some ⟨oc58,od58,.func (PySem.W.fnOf "law" "law" (Dm Jy) (Cd Jy) (Ad Jy) .none kV58 dc58 pm58 an58 cd58 ct58),sl58⟩)(e58:PySem.W.codeIn K cd58 "law"=true)(k58:PySem.W.keepIn K (.ref f58)=true)(t1:K.lookup cc=some ⟨clC,cdC,.fields vsC,slC⟩)(t2:(vsC[11]?:IK)=some (.ref tP))(t3:PySem.W.codeHdIn K cc tP=true)(t4:K.lookup tP=none)(t8:tP∈ts)(er:Aos K mg c_Desk c_Ledger c_Rule)(n_abs:mg "abs"=none)(n_all:mg "all"=none)(n_any:mg "any"=none)(n_bool:mg "bool"=none)(n_int:mg "int"=none)(n_isinstance:mg "isinstance"=none)(n_len:mg "len"=none)(n_list:mg "list"=none)(n_range:mg "range"=none)(n_set:mg "set"=none)(n_sorted:mg "sorted"=none)(n_str:mg "str"=none)(n_tuple:mg "tuple"=none)(n_zip:mg "zip"=none)(v_FIGURES:Gr mg "FIGURES" (.str "0123456789"))(v_FIRST_ROW:Gr mg "FIRST_ROW" (.ref a_FIRST_ROW))(w_FIRST_ROW:B9 K a_FIRST_ROW [.int (0),.ref b_FIRST_ROW_1])(w_FIRST_ROW_1:B9 K b_FIRST_ROW_1 [.int (1),.int (2)])(v_FIRST_WORTH:Gr mg "FIRST_WORTH" (.int (1500)))(v_LAST_DAY:Gr mg "LAST_DAY" (.int (9999)))(v_LAST_FROM:Gr mg "LAST_FROM" (.int (1000000)))(v_LETTERS:Gr mg "LETTERS" (.str "abcdefghijklmnopqrstuvwxyz"))(v_LONGEST_DAY:Gr mg "LONGEST_DAY" (.int (4)))(v_LONGEST_NAME:Gr mg "LONGEST_NAME" (.int (8)))(v_LONGEST_NUMBER:Gr mg "LONGEST_NUMBER" (.int (6)))(v_MOST_GAMES:Gr mg "MOST_GAMES" (.int (40)))(v_MOST_PART:Gr mg "MOST_PART" (.int (9999)))(v_MOST_PLAYERS:Gr mg "MOST_PLAYERS" (.int (8)))(v_MOST_ROWS:Gr mg "MOST_ROWS" (.int (10)))(v_PARTING:Gr mg "PARTING" (.str "; "))(v_STEP:Gr mg "STEP" (.int (32)))(v_TABLE:Gr mg "TABLE" (.ref a_TABLE))(w_TABLE:B9 K a_TABLE [.ref b_TABLE_0,.ref b_TABLE_1,.ref b_TABLE_2,.ref b_TABLE_3,.ref b_TABLE_4])(w_TABLE_0:B9 K b_TABLE_0 [.int (0),.ref b_TABLE_0_1])(w_TABLE_0_1:B9 K b_TABLE_0_1 [.int (1),.int (2)])(w_TABLE_1:B9 K b_TABLE_1 [.int (60),.ref b_TABLE_1_1])(w_TABLE_1_1:B9 K b_TABLE_1_1 [.int (3),.int (5)])(w_TABLE_2:B9 K b_TABLE_2 [.int (160),.ref b_TABLE_2_1])(w_TABLE_2_1:B9 K b_TABLE_2_1 [.int (7),.int (10)])(w_TABLE_3:B9 K b_TABLE_3 [.int (280),.ref b_TABLE_3_1])(w_TABLE_3_1:B9 K b_TABLE_3_1 [.int (4),.int (5)])(w_TABLE_4:B9 K b_TABLE_4 [.int (460),.ref b_TABLE_4_1])(w_TABLE_4_1:B9 K b_TABLE_4_1 [.int (9),.int (10)])(v_TEXT_ROWS:Gr mg "TEXT_ROWS" (.ref a_TEXT_ROWS))(w_TEXT_ROWS:Nx l.prog w K a_TEXT_ROWS [(.inr "put",.ref g_put_game),(.inr "tree",.ref g_tell_tree),(.inr "group",.ref g_tell_group)])(z_put_game:PySem.W.nsIn K mainGlobals "put_game"=some (some (.ref g_put_game)))(v_WORDS:Gr mg "WORDS" (.ref a_WORDS))(w_WORDS:B9 K a_WORDS [.str "lost",.str "drew",.str "beat"])(v_WORD_ROWS:Gr mg "WORD_ROWS" (.ref a_WORD_ROWS))(w_WORD_ROWS:Nx l.prog w K a_WORD_ROWS [(.inr "take",.ref b_WORD_ROWS_take),(.inr "book",.ref b_WORD_ROWS_book),(.inr "verdict",.ref b_WORD_ROWS_verdict),(.inr "way",.ref b_WORD_ROWS_way),(.inr "ends",.ref b_WORD_ROWS_ends),(.inr "rank",.ref b_WORD_ROWS_rank),(.inr "running",.ref b_WORD_ROWS_running),(.inr "worth",.ref b_WORD_ROWS_worth)])(w_WORD_ROWS_book:B9 K b_WORD_ROWS_book [.ref g_tell_book,.ref b_WORD_ROWS_book_1])(w_WORD_ROWS_book_1:B9 K b_WORD_ROWS_book_1 [])(w_WORD_ROWS_verdict:B9 K b_WORD_ROWS_verdict [.ref g_tell_verdict,.ref b_WORD_ROWS_verdict_1])(w_WORD_ROWS_verdict_1:B9 K b_WORD_ROWS_verdict_1 [])(w_WORD_ROWS_way:B9 K b_WORD_ROWS_way [.ref g_tell_way,.ref b_WORD_ROWS_way_1])(w_WORD_ROWS_way_1:B9 K b_WORD_ROWS_way_1 [.non,.non])(z_tell_book:PySem.W.nsIn K mainGlobals "tell_book"=some (some (.ref g_tell_book)))(z_tell_verdict:PySem.W.nsIn K mainGlobals "tell_verdict"=some (some (.ref g_tell_verdict)))(z_tell_way:PySem.W.nsIn K mainGlobals "tell_way"=some (some (.ref g_tell_way)))(vz_put_game:PySem.W.nsIn K mainGlobals "put_game"=some (some (.ref fv_put_game)))(vz_tell_book:PySem.W.nsIn K mainGlobals "tell_book"=some (some (.ref fv_tell_book)))(vz_tell_verdict:PySem.W.nsIn K mainGlobals "tell_verdict"=some (some (.ref fv_tell_verdict)))(vz_tell_way:PySem.W.nsIn K mainGlobals "tell_way"=some (some (.ref fv_tell_way))) :
  (∃c P,PySem.W.tabIn K "in_order"=some (c,P)∧PySem.W.codeHdIn K c P=true∧K.lookup P=none∧P∈ts)∧∃fd:FuncData,(∀(s:IB) (v:IA),BindsTo s fd ⟨[v],[]⟩ [("_law_script",v)])∧∀base:Heap,K.In base→base.Ns mainGlobals mg→BmB mg base→Ib l.prog w K mg base (Q0 l.prog w) 13 fa fd ["_law_script"] (Jo "in_order" K):=by
 have F18:=Mh (st:=Dn) l18 e18 k18
 have d_in_order:Bt K mg "in_order" Dn ["games"]:=⟨⟨_,_,F18,PySem.W.mg_of X G a18,F18.binds fun _ _ _ _ _ _ us hl=>by obtain ⟨_,rfl⟩:=lenE1 us hl;rfl⟩⟩
 have F58:=Mh (st:=Jy) l58 e58 k58
 have d_law:Bt K mg "law" Jy ["_law_script"]:=⟨⟨_,_,F58,PySem.W.mg_of X G a58,F58.binds fun _ _ _ _ _ _ us hl=>by obtain ⟨_,rfl⟩:=lenE1 us hl;rfl⟩⟩
 have v_put_game:FnV K mg "put_game":=⟨_,PySem.W.mg_of X G vz_put_game,vz_put_game⟩
 have v_tell_book:FnV K mg "tell_book":=⟨_,PySem.W.mg_of X G vz_tell_book,vz_tell_book⟩
 have v_tell_verdict:FnV K mg "tell_verdict":=⟨_,PySem.W.mg_of X G vz_tell_verdict,vz_tell_verdict⟩
 have v_tell_way:FnV K mg "tell_way":=⟨_,PySem.W.mg_of X G vz_tell_way,vz_tell_way⟩
 have e:=hfa.symm.trans (PySem.W.mg_of X G a58)
 cases e
 have tb:=Aj6 (x:="in_order") a18 l18 rfl t1 t2
 have tk:∀base,BmB mg base→Ajb K mg base "in_order":=fun base hbm=>⟨⟨_,_,_,_,_,cc,PySem.W.mg_of X G a18,l18,rfl,by rw [Y8 tb];exact t3⟩,hbm⟩
 refine ⟨⟨_,_,tb,t3,t4,t8⟩,?_⟩
 refine ⟨PySem.W.fnOf "law" "law" (Dm Jy) (Cd Jy) (Ad Jy) .none kV58 dc58 pm58 an58 cd58 ct58,fun s v=>.of_eq rfl,fun base _ _ hbm=>Ae4 F58 (PySem.W.mg_of X G a58) fun ns=>?_⟩
 have c_is_whole:=Vo (P:=l.prog) (w:=w) (base:=base) (ns:=ns) er n_bool n_int n_isinstance d_is_whole
 have c_greatest_divisor:=Jq (P:=l.prog) (w:=w) (base:=base) (ns:=ns) er n_abs d_greatest_divisor
 have c_under:=Afa (P:=l.prog) (w:=w) (base:=base) (ns:=ns) er d_under
 have c_is_name:=Xk (P:=l.prog) (w:=w) (base:=base) (ns:=ns) er n_all n_isinstance n_len n_str d_is_name v_LETTERS v_LONGEST_NAME
 have c_turned:=Abf (P:=l.prog) (w:=w) (base:=base) (ns:=ns) er d_turned
 have c_is_number:=Ur (P:=l.prog) (w:=w) (base:=base) (ns:=ns) er n_all n_len d_is_number v_FIGURES
 have c_is_starred:=Qs (P:=l.prog) (w:=w) (base:=base) (ns:=ns) er d_is_starred
 have c_starred:=Xi (P:=l.prog) (w:=w) (base:=base) (ns:=ns) er d_starred
 have c_players:=Xf (P:=l.prog) (w:=w) (base:=base) (ns:=ns) er n_set n_sorted d_players
 have c_is_pair:=Yo (P:=l.prog) (w:=w) (base:=base) (ns:=ns) er n_isinstance n_len n_tuple d_is_pair
 have c_l_cell_at:=Uc (P:=l.prog) (w:=w) (base:=base) (ns:=ns) er n_len d_l_cell_at
 have c_l_names:=X2 (P:=l.prog) (w:=w) (base:=base) (ns:=ns) er n_range d_l_names
 have c_l_first_games:=L7 (P:=l.prog) (w:=w) (base:=base) (ns:=ns) er n_len n_range d_l_first_games
 have c_l_written:=Tr (P:=l.prog) (w:=w) (base:=base) (ns:=ns) er n_int n_str d_l_written
 have c_l_short:=Xa (P:=l.prog) (w:=w) (base:=base) (ns:=ns) er d_l_short
 have c_l_gone:=Abj (P:=l.prog) (w:=w) (base:=base) (ns:=ns) er n_len n_range d_l_gone
 have c_fraction:=Ux er d_fraction c_greatest_divisor c_is_whole
 have c_is_between:=Ql er d_is_between c_is_whole
 have c_unstarred:=S6 er d_unstarred c_is_starred
 have c_side_of:=Yd er d_side_of c_is_starred
 have c_show_game:=S8 er d_show_game v_WORDS w_WORDS c_starred
 have c_check_size:=Qn er n_len d_check_size v_MOST_PLAYERS v_MOST_GAMES c_players
 have c_told_by:=Yj er d_told_by c_turned
 have c_check_player:=Np er d_check_player c_players
 have c_goes_on:=Xq er d_goes_on c_under
 have c_read_thing:=Qx er n_int d_read_thing v_LONGEST_NUMBER c_is_number
 have c_l_book:=Aav er n_int n_len d_l_book c_l_first_games c_l_cell_at
 have c_l_none_seen:=Py er n_int d_l_none_seen c_l_short
 have c_game:=Ahl er d_game v_LAST_DAY c_is_between c_is_name
 have c_show_book:=Ud er d_show_book v_PARTING c_show_game
 have c_in_order:=Vr (P:=l.prog) (w:=w) (base:=base) (ns:=ns) er n_sorted d_in_order (tk base hbm)
 have c_takers:=Aa1 er n_set n_sorted d_takers c_told_by
 have c_is_share:=Vi er d_is_share v_MOST_PART c_fraction c_is_between c_is_pair
 have c_read_game:=Tq er n_int n_isinstance n_len n_str d_read_game v_WORDS w_WORDS v_LONGEST_DAY c_game c_unstarred c_side_of c_is_starred c_is_number
 have c_ways_from:=Tw er d_ways_from c_takers
 have c_Ledger_games:=Nn er n_list d_Ledger_games c_in_order
 have c_behind:=Aar er d_behind c_in_order
 have c_is_row:=Ab3 er d_is_row v_LAST_FROM c_is_share c_is_between c_is_pair
 have c_read_book:=Uo er n_isinstance n_str d_read_book v_PARTING c_check_size c_read_game
 have c_above:=Acx er n_sorted d_above c_ways_from c_check_player
 have c_way:=Akw er d_way c_ways_from c_check_player
 have c_reached:=W5 er n_list n_set n_sorted d_reached c_behind
 have c_table_of:=Wm er n_all n_isinstance n_len n_list n_zip d_table_of v_FIRST_ROW w_FIRST_ROW w_FIRST_ROW_1 v_MOST_ROWS c_goes_on c_is_row
 have c_tell_book:=Ui er d_tell_book c_show_book c_Ledger_games
 have c_joined:=Abt er n_any d_joined c_players c_above
 have c_Ledger_put:=Qi er n_list d_Ledger_put c_reached c_check_size
 have c_Rule___init__:=Ms er d_Rule___init__ c_table_of
 have c_tell_way:=Vu er d_tell_way c_way c_Ledger_games
 have c_verdict:=Xn er n_all n_len d_verdict c_joined c_players c_told_by c_above
 have c_put_game:=U9 er n_str d_put_game c_Ledger_put c_read_game
 have c_Rule_twin:=Ua er d_Rule_twin c_Rule___init__
 have c_tell_verdict:=Nz er d_tell_verdict c_verdict c_Ledger_games
 have c_Ledger___init__:=J5 er d_Ledger___init__ c_Rule_twin
 have c_answer_words:=Nu er n_len n_zip d_answer_words v_tell_way v_tell_verdict v_tell_book v_WORD_ROWS w_WORD_ROWS w_WORD_ROWS_book w_WORD_ROWS_book_1 w_WORD_ROWS_verdict w_WORD_ROWS_verdict_1 w_WORD_ROWS_way w_WORD_ROWS_way_1 z_tell_book z_tell_verdict z_tell_way c_tell_way c_tell_verdict c_tell_book c_read_thing
 have c_Desk_say:=Vv er n_isinstance n_str d_Desk_say v_TEXT_ROWS w_TEXT_ROWS z_put_game v_put_game c_answer_words c_put_game
 have c_Desk___init__:=L3 er n_list d_Desk___init__ v_TABLE w_TABLE w_TABLE_0 w_TABLE_0_1 w_TABLE_1 w_TABLE_1_1 w_TABLE_2 w_TABLE_2_1 w_TABLE_3 w_TABLE_3_1 w_TABLE_4 w_TABLE_4_1 v_FIRST_WORTH v_STEP c_Ledger___init__ c_Rule___init__
 have c_l_all_ways:=Qz er d_l_all_ways c_l_gone c_Desk_say
 have c_l_seen:=Abb er n_int n_len n_range n_set n_sorted d_l_seen c_Desk_say c_l_all_ways c_l_none_seen c_l_cell_at
 exact Aj5 er n_len n_range n_sorted n_str d_law c_l_seen c_verdict c_read_book c_Desk_say c_Desk___init__ c_l_written c_l_book c_l_names c_l_cell_at
theorem walk {ts:List IC}{l:PySem.W.OpenLaw}{q:IE}{loose:IG}{XP:(Str→IK)→Heap→Prop}{YP:IF→Heap→Prop}{d:DefRec}{K:Params→KKf}(hn:l.most=some 63)(hdf:d.params.defaults=[])
  (hY:∀(w:IF) (h:Heap),YP w h→(K w.params).In h)
  (hT:∀(w:IF) (h:Heap),YP w h→∀P∈ts,h.get? P=some (PySem.W.tabObj #[]))
  (F:∀(w:IF) (mg:Str→IK) (fa:IC) (h:Heap),(K w.params).In h→h.Ns mainGlobals mg→mg d.name=some (.ref fa)→(∃c P,PySem.W.tabIn (K w.params) "in_order"=some (c,P)∧PySem.W.codeHdIn (K w.params) c P=true∧(K w.params).lookup P=none∧P∈ts) ∧
   ∃fd:FuncData,(∀(s:IB) (u:IA),BindsTo s fd ⟨[u],[]⟩ [("_law_script",u)])∧∀base:Heap,(K w.params).In base→base.Ns mainGlobals mg→BmB mg base→Ib l.prog w (K w.params) mg base (Q0 l.prog w) 13 fa fd ["_law_script"] (Jo "in_order" (K w.params))) :
  PySem.W.WalkO q loose XP YP l.row.toRowW d [] (fun f vs=>PySem.call f vs):=
 Lw.walk_ofBT (y:="in_order") (n:=63) (k:=13) (x:="_law_script") (CX:=fun w=>Q0 l.prog w) (sp:=fun w=>Jo "in_order" (K w.params)) hn (by decide) hdf ⟨rfl,by decide,by decide⟩ hY hT F (fun _ _ a ns hl hb hO hS=>⟨ns,a,rfl,hS,hl,hb,hO.1,fun _=>rfl⟩) fun _ _ _ _ _ z=>An3 z
end My
namespace PySem.W.Fast
def tw3847370397707107982:=0
def tw5814277710682302235:=0
def tw17030372752113795425:=0
def tw16540093237161173703:=0
def tw7783695070058521635:=0
def tw7281807217069149548:=0
def tw15847197793451708331:=0
def tw16299938555322714613:=0
def tw4543470427754843630:=0
def tw5977505908391268892:=0
def tw13090918392438975195:=0
def tw10051444163368770706:=0
def tw3475152968482440258:=0
def tw13041812944444422027:=0
def tw17280313621649331557:=0
def tw3204734886013292774:=0
def tw11533901495399208781:=0
def tw18426126555322588095:=0
def tw12715774087019466116:=0
def tw15711838417222213563:=0
def tw3187897034978701656:=0
def tw7556608796281545366:=0
def tw4029144790869611358:=0
def tw9521226705724076829:=0
def tw8731031604900596787:=0
def tw2854455712644193349:=0
def tw7944563232213747840:=0
def tw10736668143826299208:=0
def tw2635027227352582686:=0
def tw1869943092119148871:=0
def tw8843604916831692635:=0
def tw7691297652014828968:=0
def tw1492279075521896629:=0
def tw8897063439027607061:=0
def tw16381812512198033594:=0
def tw5642795226281583056:=0
def tw4115686407275175151:=0
def tw15501263687490742069:=0
def tw6672926154779278019:=0
def tw9574594073340752596:=0
def tw18405672691772215092:=0
def tw7327009251547025448:=0
def tw13563495059852784308:=0
def tw17192688385522520111:=0
def tw11601048337734050450:=0
def tw11590002948053724615:=0
def tw5508174728596849080:=0
def tw702471160328397639:=0
def tw7019181532469751733:=0
def tw15764617941765813685:=0
def tw17184833631547062981:=0
def tw1642721230327316082:=0
def tw6359901134665456181:=0
def tw5683048534697703773:=0
def tw2221863404377069858:=0
def tw12533741712530911820:=0
def tw13056819339770653417:=0
def tw16508806405210234963:=0
def tw8938129911793433713:=0
def tw2529666190844681594:=0
def tw1146306545852125523:=0
def tw14056320633806733144:=0
def tw7896871105313519312:=0
def tw4951433336382365595:=0
def tw9693301220802348361:=0
def tw2531358517605198711:=0
def tw3482376994012198770:=0
def tw8582575611454988400:=0
def tw15852696526892113076:=0
def tw13282194209066756286:=0
def tw16203937353579881604:=0
def tw16383909697797509751:=0
def tw6249947173492080435:=0
def tw147010887394444433:=0
def tw12784902723674463002:=0
def tw16739118781210133338:=0
def tw16338265507590467905:=0
def tw9440892054786102739:=0
def tw7239103888880207181:=0
def tw7080050831253027137:=0
def tw12601440112332552265:=0
def tw17648588252656356529:=0
def tw1710680162192160541:=0
def tw7402133760955956984:=0
def tw2099740815985766227:=0
def tw12774154146387002799:=0
def tw3124693501145312702:=0
def tw8765005505538539233:=0
def tw15290388363808146265:=0
def tw10187681648914943372:=0
def tw2075083349321793753:=0
def tw17446016732895301325:=0
def tw8102118952066450909:=0
def tw10879737350568866063:=0
def tw6374394032774384942:=0
def tw2619394319705404600:=0
def tw7202960647697838117:=0
def tw2963409376929530784:=0
def tw3354254190247798396:=0
def tw10535994294367787553:=0
def tw15006877164473157822:=0
def tw1946251065938183575:=0
def tw16981129084292375458:=0
def tw6211538941100989316:=0
def tw8319457695020803075:=0
def tw12839320018076269936:=0
def tw5307260924055575050:=0
def tw4289693601394477349:=0
def tw11872981883217660910:=0
def tw6332991094343753507:=0
def tw9265806289984157569:=0
def tw15036343206105810655:=0
def tw13516357108205890414:=0
def tw7891158083725175708:=0
def tw13897275030022760107:=0
def tw5826261042882731068:=0
def tw9627334506847925527:=0
def tw2167905479951058203:=0
def tw9786803340097550756:=0
def tw18085142970296863251:=0
def tw16283326769291335169:=0
def tw6041992168337294461:=0
def tw15100964431694655579:=0
def tw10342345685114582899:=0
def tw18130168686902806276:=0
def tw9904573390282788331:=0
def tw16337177388933474019:=0
def tw379198263243325706:=0
def tw8572801177634396622:=0
def tw15923892658436731192:=0
def tw14836902754222328424:=0
def tw7378510046851813363:=0
def tw8334475692605490627:=0
def tw17972417247417987610:=0
def tw9625801899987546564:=0
def tw5928013674489559077:=0
def tw5805160861131118946:=0
def tw8995010091231496119:=0
def tw18445304374058787116:=0
def tw1850352352183797141:=0
def tw13227971615994550266:=0
def tw12853907376342662988:=0
def tw2824303949992460742:=0
def tw13918123050273218499:=0
def tw13149875302055566507:=0
def tw10054520403760742779:=0
def tw5222284467929140155:=0
def tw13771351148549856744:=0
def tw11302276466269785366:=0
def tw14218567766913000980:=0
def tw9187618554795335207:=0
def tw12993816604312889282:=0
def tw13865700832515902291:=0
def tw15241563879731918605:=0
def tw16015096626859195286:=0
def tw9687491286390116387:=0
def tw2219329422911044308:=0
def tw1586736896744451893:=0
def tw9583988711659869978:=0
def tw10512418203948367747:=0
def tw15031799509380863856:=0
def tw12985648589895590190:=0
def tw14618899209712966253:=0
def tw7374399109544458237:=0
def tw6984520869954329934:=0
def tw10949541220793717208:=0
def tw7272029570263901524:=0
def tw2424137190214591998:=0
def tw5736785680869317759:=0
def tw836810980901031111:=0
def tw7060768326298720544:=0
def tw1575726578844640717:=0
def tw5496252208372495388:=0
def tw7517910770774415398:=0
def tw267197751482122990:=0
def tw7851784505952187047:=0
def tw961702827549676483:=0
def tw17914057932876431861:=0
def tw13171007945719262596:=0
def tw1034380348958221568:=0
def tw17714744176245487287:=0
def tw14045266635179921938:=0
def tw1393712683306885474:=0
def tw8664493223749299883:=0
def tw8473716577179439132:=0
def tw1753142728134586276:=0
def tw14245770029620433336:=0
def tw17669059207308892128:=0
def tw814468091923667546:=0
def tw590192148228088461:=0
def tw14987853812375838050:=0
def tw11701043023483450459:=0
def tw4382618759183006795:=0
def tw5102021025538792483:=0
def tw6677079599961662933:=0
def tw3560902035395485662:=0
def tw17210828661802710158:=0
def tw14287912113957058466:=0
def tw4868218534101244246:=0
def tw13242496825636859214:=0
def tw6703873494036432354:=0
def tw7790005365647011096:=0
def tw13495440611679618978:=0
def tw17422681008709489298:=0
def tw3491321810480253786:=0
def tw7643374394306205535:=0
def tw4232086199920772469:=0
def tw18224961082675962746:=0
def tw7433385480943472722:=0
def tw17566478665411147604:=0
def tw5081306876190672216:=0
def tw12863738585953761554:=0
def tw16832998991016714012:=0
def tw16532822403194658225:=0
def tw14783811871237418945:=0
def tw6222279074481151761:=0
def tw13608758569869594530:=0
def tw16869759573201029796:=0
def tw4699753718903991405:=0
def tw17730735933326561228:=0
def tw18373860265121997224:=0
def tw1301915220672122808:=0
def tw3375724208548771668:=0
def tw7944978605104584220:=0
def tw16370563325829414289:=0
def tw604572361638662660:=0
def tw9689963235692258887:=0
def tw7921822460438576701:=0
def tw4003682797419972022:=0
def tw16784003477996594391:=0
def tw18004122544833246332:=0
def tw11438912040061164460:=0
def tw4540275667941870781:=0
def tw2204760533026353791:=0
def tw12782822581028904152:=0
def tw2610428609590255511:=0
def tw3412662963120610607:=0
def tw11967358338970032377:=0
def tw14035781440016303270:=0
def tw15110504507560985255:=0
def tw15023788270463659156:=0
def tw5714693566780450082:=0
def tw9641469656844843049:=0
def tw15187324925407330165:=0
def tw14597230903603715041:=0
def tw13943894791353991823:=0
def tw17406986349549976146:=0
def tw13719658156662329393:=0
def tw17841005728070979382:=0
def tw7360738607269229618:=0
def tw9956246246789980991:=0
def tw5619775702899853246:=0
def tw17728971310701082289:=0
def tw2731500549308124716:=0
def tw12675556518498568893:=0
def tw18426249442534142532:=0
def tw10777585152774053422:=0
def tw1883066413735439296:=0
def tw819619247209553951:=0
def tw10881139138052845284:=0
def tw1009104128937717532:=0
def tw11750542621943573886:=0
def tw13427796766240560601:=0
def tw11578982270462802486:=0
def tw1202080135986308103:=0
def tw10054361334390350136:=0
def tw1043312345536790003:=0
def tw3653842483565894966:=0
def tw12228128958842119620:=0
def tw8155230661939304578:=0
def tw1043606374643518349:=0
def tw2706695950176148520:=0
def tw16788841206662321427:=0
def tw8559803164370285148:=0
def tw1031098968697320854:=0
def tw18014078982427466218:=0
def tw6516107793282218311:=0
def tw12285009765466277497:=0
def tw9888739250322789202:=0
def tw16930367286985764987:=0
def tw17209962478353246103:=0
def tw10544699262092481001:=0
def tw15436981095451273018:=0
def tw10580014827320034503:=0
def tw3123317365062830586:=0
def tw9270324260269562705:=0
def tw420795359999910344:=0
def tw4238763753224942538:=0
def tw3306882712300947258:=0
def tw15861259468520113087:=0
def tw7490338624230336862:=0
end PySem.W.Fast
open PySem PySem.W PyProof.Rows
set_option maxRecDepth 100000 in
set_option maxHeartbeats 0 in
theorem PySem.Challenge.cw_ladderworth_k85_whole_from_text_to_verdi_holds : PySem.Challenge.rw_ladderworth_k85_whole_from_text_to_verdi.Holds := by
 w_on;o_law;k_head;(case hw=>w_witness2)
 k_fill
 refine My.walk (l:=PySem.Challenge.rw_ladderworth_k85_whole_from_text_to_verdi) rfl rfl (fun w h Y=>PySem.W.km_in_of Y) (fun w h Y=>PySem.W.km_tabs_of Y) ?F
 case F=>
  intro w mg fa h KX G hmg
  refine' My.all_mk KX G hmg ?d0 ?d1 ?d2 ?d3 ?d4 ?d5 ?d6 ?d7 ?d8 ?d9 ?d10 ?d11 ?d12 ?d13 ?d14 ?d15 ?d16 ?d17 ?a18 ?l18 ?e18 ?k18 ?d19 ?d20 ?d21 ?d22 ?d23 ?d24 ?d25 ?d26 ?d27 ?d28 ?d29 ?d30 ?d31 ?d32 ?d33 ?d34 ?d35 ?d36 ?d37 ?d38 ?d39 ?d40 ?d41 ?d42 ?d43 ?d44 ?d45 ?d46 ?d47 ?d48 ?d49 ?d50 ?d51 ?d52 ?d53 ?d54 ?d55 ?d56 ?d57 ?a58 ?l58 ?e58 ?k58 ?t1 ?t2 ?t3 ?t4 ?t8 ?er ?n_abs ?n_all ?n_any ?n_bool ?n_int ?n_isinstance ?n_len ?n_list ?n_range ?n_set ?n_sorted ?n_str ?n_tuple ?n_zip ?v_FIGURES ?v_FIRST_ROW ?w_FIRST_ROW ?w_FIRST_ROW_1 ?v_FIRST_WORTH ?v_LAST_DAY ?v_LAST_FROM ?v_LETTERS ?v_LONGEST_DAY ?v_LONGEST_NAME ?v_LONGEST_NUMBER ?v_MOST_GAMES ?v_MOST_PART ?v_MOST_PLAYERS ?v_MOST_ROWS ?v_PARTING ?v_STEP ?v_TABLE ?w_TABLE ?w_TABLE_0 ?w_TABLE_0_1 ?w_TABLE_1 ?w_TABLE_1_1 ?w_TABLE_2 ?w_TABLE_2_1 ?w_TABLE_3 ?w_TABLE_3_1 ?w_TABLE_4 ?w_TABLE_4_1 ?v_TEXT_ROWS ?w_TEXT_ROWS ?z_put_game ?v_WORDS ?w_WORDS ?v_WORD_ROWS ?w_WORD_ROWS ?w_WORD_ROWS_book ?w_WORD_ROWS_book_1 ?w_WORD_ROWS_verdict ?w_WORD_ROWS_verdict_1 ?w_WORD_ROWS_way ?w_WORD_ROWS_way_1 ?z_tell_book ?z_tell_verdict ?z_tell_way ?vz_put_game ?vz_tell_book ?vz_tell_verdict ?vz_tell_way
  (case er=>
   refine' ⟨PySem.W.mg_of KX G ?_,PySem.W.mg_of KX G ?_,PySem.W.mg_of KX G ?_,?_,⟨?_,?_,?_,?_⟩,⟨?_,?_⟩,?_,?_,?_,⟨?_,?_,?_,?_⟩,⟨?_,?_⟩,?_,?_,?_,?_,⟨?_,?_,?_,?_⟩,⟨?_,?_⟩,?_,?_,?_⟩
   all_goals (try unfold L2.NoAttr);try (first|k_is|k_exc|kernel_rfl))
  (case d0|d6|d7|d8|d10|d11|d13|d15|d16|d17|d19|d26|d27|d33|d34|d35|d36|d52=>refine' My.dmk KX G ?uA ?uL ?uE ?uK (fun _ _ _ _ _ _ us hl=>by obtain ⟨_,rfl⟩:=My.lenE1 us hl;rfl);(case uA|uL|uE|uK=>k_is))
  (case d1|d2|d3|d9|d12|d14|d20|d21|d22|d23|d25|d31|d32|d37|d40|d41|d42|d43|d46|d47|d48|d49|d51=>refine' My.dmk KX G ?uA ?uL ?uE ?uK (fun _ _ _ _ _ _ us hl=>by obtain ⟨_,_,rfl⟩:=My.lenE2 us hl;rfl);(case uA|uL|uE|uK=>k_is))
  (case d5|d24|d50|d53|d54=>refine' My.dmk KX G ?uA ?uL ?uE ?uK (fun _ _ _ _ _ _ us hl=>by obtain ⟨_,_,_,rfl⟩:=My.lenE3 us hl;rfl);(case uA|uL|uE|uK=>k_is))
  (case d55|d56|d57=>refine' My.dmk KX G ?uA ?uL ?uE ?uK (fun _ _ _ _ _ _ us hl=>by obtain ⟨_,_,_,_,rfl⟩:=My.lenE4 us hl;rfl);(case uA|uL|uE|uK=>k_is))
  (case d4=>refine' My.dmk KX G ?uA ?uL ?uE ?uK (fun _ _ _ _ _ _ us hl=>by obtain ⟨_,_,_,_,_,rfl⟩:=My.lenE5 us hl;rfl);(case uA|uL|uE|uK=>k_is))
  (case d30|d39|d44=>refine' My.mmk (Lw.ac_cons ⟨?uA0,?uI0,?uJ0⟩ Lw.ac_nil) Lw.ac_nil ?uL ?uE ?uK (fun _ _ _ _ _ _ us hl=>by obtain ⟨_,rfl⟩:=My.lenE1 us hl;rfl);(case uA0|uI0|uJ0|uL|uE|uK=>first|k_is|kernel_rfl))
  (case d28|d29|d45=>refine' My.mmk (Lw.ac_cons ⟨?uA0,?uI0,?uJ0⟩ Lw.ac_nil) Lw.ac_nil ?uL ?uE ?uK (fun _ _ _ _ _ _ us hl=>by obtain ⟨_,_,rfl⟩:=My.lenE2 us hl;rfl);(case uA0|uI0|uJ0|uL|uE|uK=>first|k_is|kernel_rfl))
  (case d38=>refine' My.mmk (Lw.ac_cons ⟨?uA0,?uI0,?uJ0⟩ Lw.ac_nil) Lw.ac_nil ?uL ?uE ?uK (fun _ _ _ _ _ _ us hl=>by obtain ⟨_,_,_,_,rfl⟩:=My.lenE4 us hl;rfl);(case uA0|uI0|uJ0|uL|uE|uK=>first|k_is|kernel_rfl))
  (case a18|l18|e18|k18=>k_is)
  (case a58|l58|e58|k58=>k_is)
  (case t1=>k_is)
  (case t2=>exact rfl)
  (case t3|t4=>kernel_rfl)
  (case t8=>exact List.mem_singleton.mpr rfl)
  (case n_abs|n_all|n_any|n_bool|n_int|n_isinstance|n_len|n_list|n_range|n_set|n_sorted|n_str|n_tuple|n_zip=>refine' PySem.W.mg_none_of KX G ?_;k_is)
  (case v_FIGURES=>refine' ⟨_,PySem.W.mg_of KX G ?uP,?uQ⟩;(case uP=>k_is);(case uQ=>exact ⟨_,rfl⟩))
  (case v_FIRST_ROW=>refine' ⟨_,PySem.W.mg_of KX G ?uP,rfl⟩;(case uP=>k_is))
  (case w_FIRST_ROW=>refine' My.tup_mk ?uP ?uH ?uQ;(case uP=>k_is);(case uH=>show 2≤sizeLine;decide);(case uQ=>exact (Paired.cons ⟨_,rfl⟩ (Paired.cons rfl Paired.nil))))
  (case w_FIRST_ROW_1=>refine' My.tup_mk ?uP ?uH ?uQ;(case uP=>k_is);(case uH=>show 2≤sizeLine;decide);(case uQ=>exact (Paired.cons ⟨_,rfl⟩ (Paired.cons ⟨_,rfl⟩ Paired.nil))))
  (case v_FIRST_WORTH=>refine' ⟨_,PySem.W.mg_of KX G ?uP,?uQ⟩;(case uP=>k_is);(case uQ=>exact ⟨_,rfl⟩))
  (case v_LAST_DAY=>refine' ⟨_,PySem.W.mg_of KX G ?uP,?uQ⟩;(case uP=>k_is);(case uQ=>exact ⟨_,rfl⟩))
  (case v_LAST_FROM=>refine' ⟨_,PySem.W.mg_of KX G ?uP,?uQ⟩;(case uP=>k_is);(case uQ=>exact ⟨_,rfl⟩))
  (case v_LETTERS=>refine' ⟨_,PySem.W.mg_of KX G ?uP,?uQ⟩;(case uP=>k_is);(case uQ=>exact ⟨_,rfl⟩))
  (case v_LONGEST_DAY=>refine' ⟨_,PySem.W.mg_of KX G ?uP,?uQ⟩;(case uP=>k_is);(case uQ=>exact ⟨_,rfl⟩))
  (case v_LONGEST_NAME=>refine' ⟨_,PySem.W.mg_of KX G ?uP,?uQ⟩;(case uP=>k_is);(case uQ=>exact ⟨_,rfl⟩))
  (case v_LONGEST_NUMBER=>refine' ⟨_,PySem.W.mg_of KX G ?uP,?uQ⟩;(case uP=>k_is);(case uQ=>exact ⟨_,rfl⟩))
  (case v_MOST_GAMES=>refine' ⟨_,PySem.W.mg_of KX G ?uP,?uQ⟩;(case uP=>k_is);(case uQ=>exact ⟨_,rfl⟩))
  (case v_MOST_PART=>refine' ⟨_,PySem.W.mg_of KX G ?uP,?uQ⟩;(case uP=>k_is);(case uQ=>exact ⟨_,rfl⟩))
  (case v_MOST_PLAYERS=>refine' ⟨_,PySem.W.mg_of KX G ?uP,?uQ⟩;(case uP=>k_is);(case uQ=>exact ⟨_,rfl⟩))
  (case v_MOST_ROWS=>refine' ⟨_,PySem.W.mg_of KX G ?uP,?uQ⟩;(case uP=>k_is);(case uQ=>exact ⟨_,rfl⟩))
  (case v_PARTING=>refine' ⟨_,PySem.W.mg_of KX G ?uP,?uQ⟩;(case uP=>k_is);(case uQ=>exact ⟨_,rfl⟩))
  (case v_STEP=>refine' ⟨_,PySem.W.mg_of KX G ?uP,?uQ⟩;(case uP=>k_is);(case uQ=>exact ⟨_,rfl⟩))
  (case v_TABLE=>refine' ⟨_,PySem.W.mg_of KX G ?uP,rfl⟩;(case uP=>k_is))
  (case w_TABLE=>refine' My.tup_mk ?uP ?uH ?uQ;(case uP=>k_is);(case uH=>show 5≤sizeLine;decide);(case uQ=>exact (Paired.cons rfl (Paired.cons rfl (Paired.cons rfl (Paired.cons rfl (Paired.cons rfl Paired.nil)))))))
  (case w_TABLE_0=>refine' My.tup_mk ?uP ?uH ?uQ;(case uP=>k_is);(case uH=>show 2≤sizeLine;decide);(case uQ=>exact (Paired.cons ⟨_,rfl⟩ (Paired.cons rfl Paired.nil))))
  (case w_TABLE_0_1=>refine' My.tup_mk ?uP ?uH ?uQ;(case uP=>k_is);(case uH=>show 2≤sizeLine;decide);(case uQ=>exact (Paired.cons ⟨_,rfl⟩ (Paired.cons ⟨_,rfl⟩ Paired.nil))))
  (case w_TABLE_1=>refine' My.tup_mk ?uP ?uH ?uQ;(case uP=>k_is);(case uH=>show 2≤sizeLine;decide);(case uQ=>exact (Paired.cons ⟨_,rfl⟩ (Paired.cons rfl Paired.nil))))
  (case w_TABLE_1_1=>refine' My.tup_mk ?uP ?uH ?uQ;(case uP=>k_is);(case uH=>show 2≤sizeLine;decide);(case uQ=>exact (Paired.cons ⟨_,rfl⟩ (Paired.cons ⟨_,rfl⟩ Paired.nil))))
  (case w_TABLE_2=>refine' My.tup_mk ?uP ?uH ?uQ;(case uP=>k_is);(case uH=>show 2≤sizeLine;decide);(case uQ=>exact (Paired.cons ⟨_,rfl⟩ (Paired.cons rfl Paired.nil))))
  (case w_TABLE_2_1=>refine' My.tup_mk ?uP ?uH ?uQ;(case uP=>k_is);(case uH=>show 2≤sizeLine;decide);(case uQ=>exact (Paired.cons ⟨_,rfl⟩ (Paired.cons ⟨_,rfl⟩ Paired.nil))))
  (case w_TABLE_3=>refine' My.tup_mk ?uP ?uH ?uQ;(case uP=>k_is);(case uH=>show 2≤sizeLine;decide);(case uQ=>exact (Paired.cons ⟨_,rfl⟩ (Paired.cons rfl Paired.nil))))
  (case w_TABLE_3_1=>refine' My.tup_mk ?uP ?uH ?uQ;(case uP=>k_is);(case uH=>show 2≤sizeLine;decide);(case uQ=>exact (Paired.cons ⟨_,rfl⟩ (Paired.cons ⟨_,rfl⟩ Paired.nil))))
  (case w_TABLE_4=>refine' My.tup_mk ?uP ?uH ?uQ;(case uP=>k_is);(case uH=>show 2≤sizeLine;decide);(case uQ=>exact (Paired.cons ⟨_,rfl⟩ (Paired.cons rfl Paired.nil))))
  (case w_TABLE_4_1=>refine' My.tup_mk ?uP ?uH ?uQ;(case uP=>k_is);(case uH=>show 2≤sizeLine;decide);(case uQ=>exact (Paired.cons ⟨_,rfl⟩ (Paired.cons ⟨_,rfl⟩ Paired.nil))))
  (case v_TEXT_ROWS=>refine' ⟨_,PySem.W.mg_of KX G ?uP,rfl⟩;(case uP=>k_is))
  (case w_TEXT_ROWS=>refine' Lw.dic_mk ?uP (Lw.DEs.cons rfl (Lw.DEs.cons rfl (Lw.DEs.cons rfl Lw.DEs.nil))) (Paired.cons ⟨rfl,rfl⟩ (Paired.cons ⟨rfl,rfl⟩ (Paired.cons ⟨rfl,rfl⟩ Paired.nil))) ?uD ?uS;(case uP=>k_is);(case uD|uS=>decide))
  (case z_put_game=>k_is)
  (case v_WORDS=>refine' ⟨_,PySem.W.mg_of KX G ?uP,rfl⟩;(case uP=>k_is))
  (case w_WORDS=>refine' My.tup_mk ?uP ?uH ?uQ;(case uP=>k_is);(case uH=>show 3≤sizeLine;decide);(case uQ=>exact (Paired.cons ⟨_,rfl⟩ (Paired.cons ⟨_,rfl⟩ (Paired.cons ⟨_,rfl⟩ Paired.nil)))))
  (case v_WORD_ROWS=>refine' ⟨_,PySem.W.mg_of KX G ?uP,rfl⟩;(case uP=>k_is))
  (case w_WORD_ROWS=>refine' Lw.dic_mk ?uP (Lw.DEs.cons rfl (Lw.DEs.cons rfl (Lw.DEs.cons rfl (Lw.DEs.cons rfl (Lw.DEs.cons rfl (Lw.DEs.cons rfl (Lw.DEs.cons rfl (Lw.DEs.cons rfl Lw.DEs.nil)))))))) (Paired.cons ⟨rfl,rfl⟩ (Paired.cons ⟨rfl,rfl⟩ (Paired.cons ⟨rfl,rfl⟩ (Paired.cons ⟨rfl,rfl⟩ (Paired.cons ⟨rfl,rfl⟩ (Paired.cons ⟨rfl,rfl⟩ (Paired.cons ⟨rfl,rfl⟩ (Paired.cons ⟨rfl,rfl⟩ Paired.nil)))))))) ?uD ?uS;(case uP=>k_is);(case uD|uS=>decide))
  (case w_WORD_ROWS_book=>refine' My.tup_mk ?uP ?uH ?uQ;(case uP=>k_is);(case uH=>show 2≤sizeLine;decide);(case uQ=>exact (Paired.cons rfl (Paired.cons rfl Paired.nil))))
  (case w_WORD_ROWS_book_1=>refine' My.tup_mk ?uP ?uH ?uQ;(case uP=>k_is);(case uH=>show 0≤sizeLine;decide);(case uQ=>exact Paired.nil))
  (case w_WORD_ROWS_verdict=>refine' My.tup_mk ?uP ?uH ?uQ;(case uP=>k_is);(case uH=>show 2≤sizeLine;decide);(case uQ=>exact (Paired.cons rfl (Paired.cons rfl Paired.nil))))
  (case w_WORD_ROWS_verdict_1=>refine' My.tup_mk ?uP ?uH ?uQ;(case uP=>k_is);(case uH=>show 0≤sizeLine;decide);(case uQ=>exact Paired.nil))
  (case w_WORD_ROWS_way=>refine' My.tup_mk ?uP ?uH ?uQ;(case uP=>k_is);(case uH=>show 2≤sizeLine;decide);(case uQ=>exact (Paired.cons rfl (Paired.cons rfl Paired.nil))))
  (case w_WORD_ROWS_way_1=>refine' My.tup_mk ?uP ?uH ?uQ;(case uP=>k_is);(case uH=>show 2≤sizeLine;decide);(case uQ=>exact (Paired.cons rfl (Paired.cons rfl Paired.nil))))
  (case z_tell_book|z_tell_verdict|z_tell_way=>k_is)
  (case vz_put_game=>k_is)
  (case vz_tell_book=>k_is)
  (case vz_tell_verdict=>k_is)
  (case vz_tell_way=>k_is)
#print axioms PySem.Challenge.cw_ladderworth_k85_whole_from_text_to_verdi_holds
