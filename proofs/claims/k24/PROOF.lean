import PyProof.Rows.All
import Wide.All
import OpenK.AllK
import Wide.FinOn
import Lean
import PyProof.EqAt
import PyProof.EqKinds
import PyProof.TupleCall
import PyProof.Draws
import PyProof.ZipIter
import PyProof.SeqI3
import PyProof.CallStr
import PyProof.StrHeap
import PyProof.ReprBulk
import PyProof.Rows.ListRangeD
import PyProof.EnumFor
import PyProof.EnumStmt
import PyProof.EnumMake
import PyProof.AutoListH
import PyProof.RangeFor
import PyProof.Rows.Range3
import KE.KUnpack
import PyProof.ReprRoads
import PyProof.ReprLen
import PyProof.FitsInt
import PyProof.DictCompW
import KE.KDictSum
import PyProof.NeKinds
import PyProof.SumWalk
import PySem.Challenge.RW_nearpool_k24_plans_of_fewest_pools
set_option compiler.extract_closed false
set_option genSizeOf false
set_option Elab.async false
set_option linter.all false
set_option maxRecDepth 100000
noncomputable section
def Daa:=@of_decide_eq_true
def Dab:=@decide_eq_false
def Dac:=@decide_eq_true
def Dad:=@of_decide_eq_false
abbrev Waa:=PySem.W.Frag
def ac3:=@PySem.wpAny_bind
def ac4:=@PySem.wpAny_pure
def ac5:=@PySem.Heap.lt_size
def ac6:=@PySem.Heap.get?_push_of_some
def ac7:=@PySem.Heap.get?_push_size
def ac8:=@PySem.Heap.size_push
def ac9:=@PySem.wpAny_mono
def ada:=@PySem.Heap.SameBut.update
def adb:=@PySem.wpAny_holding
def adc:=@PySem.wpAny_newObj_type
def ade:=@PySem.wpAny_field
def adf:=@PySem.Heap.get?_update_self
def adg:=@PySem.wpAny_setField
def adh:=@PySem.wpAny_truthy_bool
def adi:=@PySem.wpAny_seqItems
def adj:=@PySem.wpAny_standAt
def adk:=@PySem.wpAny_rule
def adl:=@PySem.wpAny_call_entry
def adm:=@PySem.codeAny_mono
def adn:=@PySem.codeAny_builtin
def ado:=@PySem.F.called_set
def adp:=@PySem.wpAny_ite_split
def adq:=@PySem.wpAny_askSetting
def adr:=@PyProof.Rows.assignInOrder_cons
def ads:=@PySem.wpAny_callSpecial?_slot
def adt:=@PySem.wpAny_setField_rec
def adu:=@PySem.wpAny_setState_of
def adv:=@PySem.wpAny_bindName
def adw:=@PySem.wpAny_passesOwn
def adx:=@PySem.Around.under_plainId
def ady:=@PySem.plainId_quiet
def adz:=@PySem.Paired.length
def adA:=@PySem.wpAny_pyIter_list
def adB:=@PySem.sizeLine_eq
def adC:=@PySem.wpAny_Call_Name_kw
def adD:=@PySem.Heap.get?_update_other
def adE:=@PySem.wpAny_of_eq
def adF:=@PySem.F.slot_tuple_iterator_next
def adG:=@PySem.wpAny_onRaise
def adH:=@PySem.wpAny_attempt
def adI:=@PySem.F.slot_zip_next
def adJ:=@PySem.tupleKind_room_in1
def adK:=@PySem.Value.isInt_shape
def adL:=@PySem.wpAny_pyIter_tuple
def adM:=@PySem.noFill_tuple_add
def adN:=@PySem.codeAny_of_tree
def adO:=@PySem.wpAny_updateSeq_pair
def adP:=@PySem.wpAny_isInstance
def adQ:=@PySem.wpAny_runValue
def adR:=@PySem.fits_of_scanBound
def adS:=@PyProof.Rows.F.plain_set_update_loop
def adT:=@PySem.wpAny_setEntries_of
def adU:=@PySem.Calls.Name_function_global
def adV:=@PySem.F.entry_tuple_iterator_next
def adW:=@PySem.F.args_tuple_iterator_next_1
def aaa:=@List.length_map
def aab:=@List.mem_cons
def aac:=@List.append_assoc
def aad:=@List.mem_cons_self
def aae:=@Nat.le_refl
def aaf:=@List.mem_append_left
def aag:=@List.mem_append_right
def aah:=@List.mem_cons_of_mem
def aai:=@List.getElem?_eq_some_iff
def aaj:=@List.mem_append
def aak:=@Bool.false_ne_true
def aal:=@List.length_append
def aam:=@List.map_cons
def aan:=@List.getElem?_eq_getElem
def aao:=@List.not_mem_nil
def aap:=@List.mem_singleton
def aaq:=@List.append_nil
def aar:=@Nat.ne_of_lt
def aas:=@List.getElem?_map
def aat:=@List.mem_map
def aau:=@List.length_cons
def aav:=@List.perm_middle
def aaw:=@List.map_append
def aax:=@Nat.le_trans
def aay:=@Nat.lt_of_lt_of_le
def aaz:=@List.size_toArray
def aaA:=@List.nodup_cons
def aaB:=@List.nodup_append
def aaC:=@Option.some.inj
def aaD:=@List.map_nil
def aaE:=@Ne.symm
def aaF:=@Option.map_eq_some_iff
def aaG:=@Bool.and_eq_true
def aaH:=@List.length_singleton
def aaI:=@Nat.zero_le
def aaJ:=@List.length_nil
def aaK:=@List.set_cons_succ
def aaL:=@Array.length_toList
def aaM:=@List.mem_iff_getElem?
def aaN:=@Nat.ne_of_gt
def aaO:=@Option.bind_eq_some_iff
def aaP:=@Int.toNat_natCast
def aaQ:=@List.cons_append
def aaR:=@Nat.lt_irrefl
def aaS:=@List.getElem?_append_left
def aaT:=@Nat.zero_add
def aaU:=@List.getElem?_concat_length
def aaV:=@List.any_cons
def aaW:=@Array.getElem?_toList
def aaX:=@List.nil_append
def aaY:=@List.findIdx?_cons
def aaZ:=@Nat.le_of_lt
def aa0:=@List.mem_of_getElem?
def aa1:=@List.nodup_nil
def aa2:=@List.pairwise_append
def aa3:=@List.length_zip
def aa4:=@List.getElem?_set_self
def aa5:=@Nat.lt_succ_self
def aa6:=@List.of_mem_zip
def aa7:=@List.length_take
def aa8:=@List.lookup_cons
def aa9:=@Nat.lt_succ_of_lt
def aba:=@List.find?_cons
def abb:=@List.perm_append_comm
def abc:=@List.pairwise_cons
def abd:=@List.map_map
def abe:=@List.mem_filter
def abf:=@List.getElem?_set_ne
def abg:=@PySem.mem_of_lookup
def abh:=@List.getElem?_append_right
def abi:=@Nat.lt_trans
def abj:=@Nat.le_add_right
def abk:=@List.getElem?_zip_eq_some
def abl:=@List.Perm.append_left
def abm:=@List.all_eq_true
def abn:=@List.length_filter_le
def abo:=@PyProof.Rows.callWith_type1
def abp:=@Nat.le_succ
def abq:=@Option.isSome_iff_exists
def abr:=@List.zip_cons_cons
def abt:=@List.getD_eq_getElem?_getD
def abu:=@List.take_length
def abv:=@List.drop_length
def abw:=@List.append_inj'
def abx:=@List.replicate_succ
def aby:=@Nat.lt_or_ge
def abz:=@List.getElem?_of_mem
def abA:=@List.foldl_cons
def abB:=@Array.getElem?_eq_getElem
def abC:=@Option.bind_some
def abD:=@List.isEmpty_iff
def abE:=@Bool.or_eq_true
def abF:=@List.length_zipWith
def abG:=@List.any_eq_true
def abH:=@Int.emod_nonneg
def abI:=@Int.emod_lt_of_pos
def abJ:=@Int.le_refl
def abK:=@List.filter_cons_of_neg
def abL:=@Sum.inl.inj
def abM:=@List.mem_range
def abN:=@List.set_comm
def abO:=@Bool.eq_iff_iff
def abP:=@Nat.le_of_eq
def abQ:=@List.length_replicate
def abR:=@Nat.lt_of_le_of_lt
def abS:=@List.ext_getElem?
def abT:=@List.getElem?_drop
def abU:=@Classical.axiomOfChoice
def abV:=@List.pairwise_iff_getElem
def abW:=@List.drop_eq_getElem_cons
def abX:=@List.getElem?_eq_none
def abY:=@Bool.and_eq_true_iff
def abZ:=@Bool.or_eq_false_iff
def ab0:=@PySem.F.plainAttrs_list
def ab1:=@Bool.not_eq_true'
def ab2:=@Nat.blt_eq
def ab3:=@List.filter_cons_of_pos
def ab4:=@Nat.sub_self
def ab5:=@List.eq_nil_or_concat
def ab6:=@List.concat_eq_append
def ab7:=@List.cons.inj
def ab8:=@Int.zero_add
def ab9:=@List.countP_cons
def aca:=@List.countP_le_length
def acb:=@PySem.W.mg_of
def acd:=@List.filterMap_cons
def ace:=@PySem.W.plainGet_of
def acf:=@PySem.W.callWith_K
def acg:=@List.length_drop
def ach:=@Bool.or_false
def aci:=@List.length_set
def acj:=@List.forIn_cons
def ack:=@Array.getElem?_eq_none
def acl:=@Bool.false_or
def acm:=@Option.isSome_map
def acn:=@Nat.succ.inj
def aco:=@List.set_cons_zero
def acp:=@List.perm_append_comm_assoc
def acq:=@Nat.not_lt_zero
def acr:=@List.pairwise_lt_range
def acs:=@List.getElem?_take
def acu:=@List.pairwise_map
def acv:=@List.getElem_mem
def acw:=@List.any_map
def acx:=@PySem.F.slot_list_append
def acy:=@PySem.F.type_list_append
def acz:=@Nat.add_le_add_left
def acA:=@Nat.min_self
def acB:=@PySem.W.methodCall_KW
def acC:=@PySem.W.cellsFrom_some
def acD:=@List.getElem?_replicate
def acE:=@PySem.F.slot_tuple_add
def acF:=@PySem.F.entry_tuple_add
def acG:=@PySem.F.args_tuple_add_2
def acH:=@Nat.add_sub_cancel_left
def acI:=@Nat.add_left_cancel
def acJ:=@List.Perm.append_right
def acK:=@List.zip_eq_zipWith
def acL:=@List.mem_of_mem_drop
def acM:=@List.take_append_drop
def acN:=@List.findIdx?_eq_some_iff_getElem
def acO:=@PySem.F.plain_set_new
def acP:=@PyProof.Rows.IntsAre.int_at
def acQ:=@List.length_eq_zero_iff
def acR:=@List.length_eraseIdx_of_lt
def acS:=@List.getElem?_toArray
def acT:=@PySem.F.slot_set_iter
def acU:=@PySem.F.plain_list_iadd
def acV:=@PySem.F.plain_extend_loop
def acW:=@Classical.choose_spec
def acX:=@List.map_congr_left
def acY:=@Nat.le_of_ble_eq_true
def acZ:=@Nat.mul_le_mul_left
def ac0:=@List.getElem?_cons_succ
def ac1:=@List.getLast?_concat
def ac2:=@List.pairwise_singleton
namespace L2
open PySem PySem.Spec PyProof.Rows
section
abbrev Key:=Sum Int Str
def keyIs:Key->Value->Bool
 |.inl k,v=>Value.isInt k v
 |.inr x,v=>Value.isStrOf x v
def keyH(w:World):Key->Int
 |.inl k=>hashInt k
 |.inr x=>hashStr w x
theorem aQ:∀{k:Key}{v:Value},keyIs k v=true->(∃i t,k=Sum.inl i/\v=Value.int i t)\/(∃x t,k=Sum.inr x/\v=Value.str x t)
 |.inl i,v,h=>by obtain⟨t,e⟩:=adK h;exact .inl ⟨i,t,rfl,e⟩
 |.inr x,v,h=>by obtain⟨t,e⟩:=Value.isStrOf_shape h;exact .inr ⟨x,t,rfl,e⟩
def rp(i:Int)(t:Tok):keyIs (.inl i) (.int i t)=true:=by simp[keyIs,Value.isInt]
def rq(x:Str)(t:Tok):keyIs (.inr x) (.str x t)=true:=by simp[keyIs,Value.isStrOf]
def A7(a b:Int):decide ((Sum.inl a:Key)=Sum.inl b)=(a==b):=by
 by_cases e:a=b
 ·subst e;simp
 ·have h:¬ (Sum.inl a:Key)=Sum.inl b:=λq=>e (abL q);rw[Dab h];exact(beq_eq_false_iff_ne.mpr e).symm
def A8(a b:Str):decide ((Sum.inr a:Key)=Sum.inr b)=decide (a=b):=by
 by_cases e:a=b
 ·subst e;simp
 ·have h:¬ (Sum.inr a:Key)=Sum.inr b:=λq=>e (Sum.inr.inj q);rw[Dab h,Dab e]
def A9(a:Int)(b:Str):decide ((Sum.inl a:Key)=Sum.inr b)=false:=Dab (λq=>nomatch q)
def Ba(a:Str)(b:Int):decide ((Sum.inr a:Key)=Sum.inl b)=false:=Dab (λq=>nomatch q)
def bc(prog:Program)(w:World):PySem.KeyKind prog w Key where
 is:=keyIs
 hash:=keyH w
 inj:=λv a b g d=>by
  rcases aQ g with ⟨i,t,rfl,rfl⟩|⟨x,t,rfl,rfl⟩
  ·rcases aQ d with ⟨j,u,rfl,e⟩|⟨y,u,rfl,e⟩
   ·injection e with e1 _;rw[e1]
   ·exact nomatch e
  ·rcases aQ d with ⟨j,u,rfl,e⟩|⟨y,u,rfl,e⟩
   ·exact nomatch e
   ·injection e with e1 _;rw[e1]
 byValue:=λk v h=>by rcases aQ h with ⟨i,t,rfl,rfl⟩|⟨x,t,rfl,rfl⟩<;>rfl
 pyHash:=λc h=>by
  rcases aQ c with ⟨i,t,rfl,rfl⟩|⟨x,t,rfl,rfl⟩
  ·exact wpAny_pyHash_int h
  ·exact wpAny_pyHash_str h
 eqBool:=λf c h=>by
  rcases aQ f with ⟨i,t,rfl,rfl⟩|⟨x,t,rfl,rfl⟩
  ·rcases aQ c with ⟨j,u,rfl,rfl⟩|⟨y,u,rfl,rfl⟩
   ·rw[A7]at h;exact wpAny_eqBool_int h
   ·rw[A9]at h;exact SeqAt.EqAt.int_str i t y u _ _ _ _ h
  ·rcases aQ c with ⟨j,u,rfl,rfl⟩|⟨y,u,rfl,rfl⟩
   ·rw[Ba]at h;exact SeqAt.EqAt.str_int x t j u _ _ _ _ h
   ·rw[A8]at h;exact wpAny_eqBool_str h
 «strs»:=λk x t v h=>by
  rcases aQ h with ⟨i,u,rfl,e⟩|⟨y,u,rfl,e⟩
  ·exact nomatch e
  ·injection e with e1 _;subst e1;cases v<;>rfl
def lJ(prog:Program)(w:World)(i:Int)(t:Tok):(bc prog w).is (.inl i) (.int i t)=true:=rp i t
def mixKind_str(prog:Program)(w:World)(x:Str)(t:Tok):(bc prog w).is (.inr x) (.str x t)=true:=rq x t
end
section
inductive V where
 |non|bl (b:Bool)|int (i:Int)|str (x:Str)|byt (b:Array UInt8)|flt (b:UInt64)|ref (a:Addr)|ty (n:String)
 deriving DecidableEq
def RelV:V->Value->Prop
 |.non,u=>u=Value.none
 |.bl b,u=>u=Value.bool b
 |.int i,u=>∃t,u=Value.int i t
 |.str x,u=>∃t,u=Value.str x t
 |.byt b,u=>∃t,u=Value.bytes b t
 |.flt b,u=>∃t,u=Value.float b t
 |.ref a,u=>u=Value.ref a
 |.ty n,u=>u=Value.type n
abbrev Vals:List V->List Value->Prop:=Paired RelV
def Vals.length{xs:List V}{us:List Value}(r:Vals xs us):xs.length=us.length:=adz r
theorem Vals.get:∀{xs:List V}{us:List Value}{i:Nat}{x:V},Vals xs us->xs[i]?=some x->∃u,us[i]?=some u/\RelV x u
 |_,_,_,_,.nil,e=>by simp at e
 |_,_,0,_,.cons r _,e=>by simp at e;subst e;exact⟨_,rfl,r⟩
 |_,_,i+1,x,.cons _ t,e=>by obtain⟨u,a,b⟩:=Vals.get (i:=i) (x:=x) t (by simpa using e);exact⟨u,by simpa using a,b⟩
theorem Vals.set(r:RelV x u):∀{xs:List V}{us:List Value} (i:Nat),Vals xs us->Vals (xs.set i x) (us.set i u)
 |_,_,_,.nil=>.nil
 |_,_,0,.cons _ t=>.cons r t
 |_,_,i+1,.cons q t=>.cons q (Vals.set r i t)
theorem Vals.append:∀{xs ys:List V}{us ws:List Value},Vals xs us->Vals ys ws->Vals (xs++ys) (us++ws)
 |_,_,_,_,.nil,s=>s
 |_,_,_,_,.cons r t,s=>.cons r (Vals.append t s)
theorem Vals.take:∀{xs:List V}{us:List Value} (n:Nat),Vals xs us->Vals (xs.take n) (us.take n)
 |_,_,0,_=>.nil
 |_,_,_+1,.nil=>.nil
 |_,_,n+1,.cons r t=>.cons r (Vals.take n t)
theorem Vals.drop:∀{xs:List V}{us:List Value} (n:Nat),Vals xs us->Vals (xs.drop n) (us.drop n)
 |_,_,0,r=>r
 |_,_,_+1,.nil=>.nil
 |_,_,n+1,.cons _ t=>Vals.drop n t
def RelO:Option V->Option Value->Prop
 |some v,some u=>RelV v u
 |none,none=>True
 |_,_=>False
def KV{a:Type}:List (a×V)->List (a×Value)->Prop:=Paired λ(p:a×V) (q:a×Value)=>p.1=q.1/\RelV p.2 q.2
def kV:Key->V
 |.inl i=>.int i
 |.inr x=>.str x
inductive HO where
 |lst (xs:List V)
 |tup (xs:List V)
 |dK (kvs:List (Key×V))|dT (kvs:List (List Key×V))
 |set (S:Int->Bool) (n:Nat)
 |ins (C dx:Addr) (fs:List (Str×V))
 |own (x:Addr)
 |xd (fs:List (Str×V))
 |met (f x:Addr)
 |rng (lo hi:Int)
 |frz (o:Obj) (u:HO)
 |tbl (ps:Array Value)
 |ext (φ:Heap->Prop)
abbrev Hp:=Addr->Option HO
def upd(H:Hp)(a:Addr)(o:HO):Hp:=λb=>if b=a then some o else H b
def ao{H:Hp}:upd H a o a=some o:=by unfold upd;rw[if_pos rfl]
def upd_ne{H:Hp}(h:b≠a):upd H a o b=H b:=by unfold upd;rw[if_neg h]
def Eg{H:Hp}(h:H a=some o)(h':H b=some u)(d:o≠u):a≠b:=by intro e;subst e;rw[h]at h';exact d (aaC h')
def au{H:Hp}(h:H a=some o)(h':H b=none):a≠b:=by intro e;subst e;rw[h]at h';cases h'
section
variable(P:Program)(w:World)
def Hb(h:Heap)(a:Addr)(items:Array Value):Prop:=∃o,h.get? a=some o/\o.cls=.type "tuple"/\∃n,o.data=.seq items n/\o.dict=none
def ObjOk(H:Hp)(h:Heap)(a:Addr):HO->Prop
 |.lst xs=>xs.length<=sizeLine/\∃(b:List Value) (n:Nat),Vals xs b/\h.get? a=some { cls:=.type "list",data:=.seq b.toArray n }
 |.tup xs=>xs.length<=sizeLine/\∃b:List Value,Vals xs b/\Hb h a b.toArray
 |.dK kvs=>kvs.length<=sizeLine/\(a==sysModules)=false/\∃i,KV kvs i/\h.DictOf (bc P w) a i
 |.dT kvs=>kvs.length<=sizeLine/\(a==sysModules)=false/\∃xs:List (List Key×Addr×Value),
   Paired (λ(p:List Key×V) (q:List Key×Addr×Value)=>p.1=q.1/\H q.2.1=some (.tup (p.1.map kV))/\RelV p.2 q.2.2) kvs xs /\
   ∃o d j,h.get? a=some o/\o.ExactDict/\o.data=.dict d j/\d.toList=xs.map (entryOfKey (tupleKind (bc P w)))/\(xs.map (·.1)).Nodup
 |.set S n=>h.SetOf (intKind P w) a S n
 |.ins C dx fs=>H dx=some (.own a)/\fs.length<=1000/\dx≠a/\h.get? a=some (PySem.W.instObj C dx) /\
   ∃c,h.Ns1 dx c/\(∀f,RelO (fs.lookup f) (c f))/\PySem.Within c (fs.map (·.1))
 |.own _=>∃o,h.get? a=some o
 |.xd fs=>∃c,h.Ns1 a c/\∀f,RelO (fs.lookup f) (c f)
 |.rng lo hi=>∃t u v,h.get? a=some { cls:=.type "range",data:=.fields #[.int lo t,.int hi u,.int 1 v] }
 |.frz o u=>h.get? a=some o/\ObjOk H h a u
 |.tbl ps=>h.get? a=some { cls:=.none,data:=.fields ps }
 |.met f x=>h.get? a=some (PySem.W.methodObj (.ref f) (.ref x))
 |.ext φ=>φ h/\(∃o,h.get? a=some o)/\∀g e:Heap,φ g->(∀o,g.get? a=some o->e.get? a=some o)->φ e
def HOk(H:Hp)(h:Heap):Prop:=∀a o,H a=some o->ObjOk P w H h a o
end
section
variable{P:Program}{w:World}{H H':Hp}{h h':Heap}{a:Addr}{o:HO}
theorem ObjOk.lt(x:ObjOk P w H h a o):a<h.objs.size:=by
 cases o with
 |lst c=>obtain⟨_,_,_,_,e⟩:=x;exact ac5 e
 |tup c=>obtain⟨_,_,_,o,e,_⟩:=x;exact ac5 e
 |dK b=>obtain⟨_,_,_,_,o,_,_,e,_⟩:=x;exact ac5 e
 |dT b=>obtain⟨_,_,_,_,o,_,_,e,_⟩:=x;exact ac5 e
 |set S n=>obtain⟨o,_,_,_,e,_⟩:=x;exact ac5 e
 |ins C i d=>obtain⟨_,_,_,e,_⟩:=x;exact ac5 e
 |own y=>obtain⟨_,e⟩:=x;exact ac5 e
 |xd d=>obtain⟨_,⟨_,_,_,e,_⟩,_⟩:=x;exact ac5 e
 |rng g j=>obtain⟨_,_,_,e⟩:=x;exact ac5 e
 |frz l u=>obtain⟨e,_⟩:=x;exact ac5 e
 |tbl k=>exact ac5 (show h.get? a=some _ from x)
 |met f y=>exact ac5 (show h.get? a=some _ from x)
 |ext m=>obtain⟨_,⟨_,e⟩,_⟩:=x;exact ac5 e
theorem Paired.mapP{g e:Type}{F G:g->e->Prop}:∀{c:List g}{d:List e},Paired F c d->(∀a b,F a b->G a b)->Paired G c d
 |_,_,.nil,_=>.nil
 |_,_,.cons r t,f=>.cons (f _ _ r) (Paired.mapP t f)
theorem ObjOk.q7(x:ObjOk P w H h a o)(k:∀b u,(b=a\/H b=some (.own a))->h.get? b=some u->h'.get? b=some u)
  (O:∀b,H b=some (.own a)->H' b=some (.own a)) (M:∀b xs,H b=some (.tup xs)->H' b=some (.tup xs)):ObjOk P w H' h' a o:=by
 induction o with
 |lst xs=>obtain⟨z,l,n,r,e⟩:=x;exact⟨z,l,n,r,k _ _ (.inl rfl) e⟩
 |tup xs=>obtain⟨z,l,r,g,e,c⟩:=x;exact⟨z,l,r,g,k _ _ (.inl rfl) e,c⟩
 |dK A=>obtain⟨z,y,N,r,g,i,j,e,c⟩:=x;exact⟨z,y,N,r,g,i,j,k _ _ (.inl rfl) e,c⟩
 |dT A=>obtain⟨z,y,xs,r,g,i,j,e,c⟩:=x;exact⟨z,y,xs,Paired.mapP r λp q z=>⟨z.1,M _ _ z.2.1,z.2.2⟩,g,i,j,k _ _ (.inl rfl) e,c⟩
 |set S n=>obtain⟨g,i,j,t,e,c⟩:=x;exact⟨g,i,j,t,k _ _ (.inl rfl) e,c⟩
 |ins C T J=>obtain⟨d,z,I,e,s,⟨m,i,j,L,c⟩,r⟩:=x;exact⟨O _ d,z,I,k _ _ (.inl rfl) e,s,⟨m,i,j,k _ _ (.inr d) L,c⟩,r⟩
 |own y=>obtain⟨g,e⟩:=x;exact⟨g,k _ _ (.inl rfl) e⟩
 |xd J=>obtain⟨s,⟨m,i,j,e,c⟩,r⟩:=x;exact⟨s,⟨m,i,j,k _ _ (.inl rfl) e,c⟩,r⟩
 |rng Q U=>obtain⟨t,u,v,e⟩:=x;exact⟨t,u,v,k _ _ (.inl rfl) e⟩
 |frz g u F=>obtain⟨e,q⟩:=x;exact⟨k _ _ (.inl rfl) e,F q⟩
 |tbl D=>have e:h.get? a=some { cls:=.none,data:=.fields D }:=x;show h'.get? a=some { cls:=.none,data:=.fields D };exact k a _ (.inl rfl) e
 |met f y=>have e:h.get? a=some (PySem.W.methodObj (.ref f) (.ref y)):=x;show h'.get? a=some (PySem.W.methodObj (.ref f) (.ref y));exact k a _ (.inl rfl) e
 |ext X=>obtain⟨p,⟨o,e⟩,B⟩:=x;exact⟨B _ _ p λo q=>k _ _ (.inl rfl) q,⟨o,k _ _ (.inl rfl) e⟩,B⟩
def HOk.lt(x:HOk P w H h)(e:H a=some o):a<h.objs.size:=(x a o e).lt
def HOk.fresh(x:HOk P w H h)(e:h.objs.size<=a):H a=none:=by
 cases q:H a with
 |none=>rfl
 |some u=>exact absurd (aay (x.lt q) e) (aaR _)
theorem HOk.kept(x:HOk P w H h)(k:∀b u,h.get? b=some u->h'.get? b=some u):HOk P w H h':=λa o e=>
 (x a o e).q7 (λb u _ q=>k b u q) (λ_ q=>q) λ_ _ q=>q
theorem HOk.laid(x:HOk P w H h)(k:∀b u,h.get? b=some u->h'.get? b=some u)(i:h.objs.size<=a)(d:ObjOk P w (upd H a o) h' a o):HOk P w (upd H a o) h':=λb u e=>by
 have g:=x.fresh i;by_cases f:b=a
 ·subst f;rw[ao]at e;cases e;exact d
 ·rw[upd_ne f]at e;exact(x b u e).q7 (λc v _ q=>k c v q) (λc q=>by rw[upd_ne (au q g)];exact q) λc j q=>by rw[upd_ne (au q g)];exact q
end
def Rd(H:Hp)(a:Addr)(u:HO):Prop:=H a=some u\/∃o,H a=some (.frz o u)
def Rd.ok{P:Program}{w:World}(r:Rd H a u)(x:HOk P w H h):ObjOk P w H h a u:=by
 rcases r with r|⟨o,r⟩
 ·exact x a u r
 ·obtain⟨_,q⟩:=x a _ r;exact q
def Eh:Option HO->Prop
 |some (.lst _)=>True
 |some (.dK _)=>True
 |some (.dT _)=>True
 |some (.set _ _)=>True
 |some (.ins _ _ _)=>True
 |some (.ext _)=>True
 |_=>False
section
variable{P:Program}{w:World}{H:Hp}{h h':Heap}{x e:Addr}{o':HO}
theorem HOk.write(s:HOk P w H h)(g:Eh (H x))(o:e=x\/H e=some (.own x))(k:∀b u,b≠e->h.get? b=some u->h'.get? b=some u)(n:∃u,h'.get? e=some u)
  (m:ObjOk P w (upd H x o') h' x o'):HOk P w (upd H x o') h':=λb u q=>by
 have d:∀c y,H c=some (.own y)->c≠x:=λc y r z=>by subst z;rw[r]at g;exact g
 have f:∀c l,H c=some (.tup l)->c≠x:=λc l r z=>by subst z;rw[r]at g;exact g
 by_cases j:b=x
 ·subst j;rw[ao]at q;cases q;exact m
 ·rw[upd_ne j]at q;by_cases a:b=e
  ·have p:H b=some (.own x):=by
    rcases o with z|z
    ·exact absurd (a.trans z) j
    ·rw[a];exact z
   rw[q]at p;cases p;obtain⟨v,t⟩:=n;exact⟨v,by rw[a];exact t⟩
  ·refine(s b u q).q7 (λc v i r=>k c v ?_ r) (λc r=>by rw[upd_ne (d c b r)];exact r) λc l r=>by rw[upd_ne (f c l r)];exact r
   rcases i with rfl|i
   ·exact a
   ·rintro rfl;rcases o with z|z
    ·exact d c b i z
    ·rw[i]at z;cases z;exact j rfl
end
structure Un (fs ex:List Addr)(H H':Hp)(h h':Heap):Prop where
 keep:∀b o,h.get? b=some o->H b=none->b ∉ fs->b ∉ ex->h'.get? b=some o
 slot:∀b o,h.get? b=some o->H b=none->b∈fs->b ∉ ex->∃sl,h'.get? b=some { o with slots:=sl }
 free:∀b o,h.get? b=some o->H b=none->b ∉ ex->H' b=none
 there:∀b o,h.get? b=some o->b ∉ ex->∃o',h'.get? b=some o'
 tups:∀b xs,H b=some (.tup xs)->H' b=some (.tup xs)
 frzs:∀b o u,H b=some (.frz o u)->H' b=some (.frz o u)
 tbls:∀b ps,H b=some (.tbl ps)->∃more,H' b=some (.tbl (ps++more))
section
variable{fs fs' ex ex':List Addr}{H H1 H2:Hp}{h h1 h2 h':Heap}{a x e:Addr}{o:HO}
def Un.any(u:Un fs ex H H1 h h1){b:Addr}{c:Obj}(q:h.get? b=some c)(n:H b=none)(d:b ∉ ex):∃g,h1.get? b=some { c with slots:=g }:=by
 by_cases f:b∈fs
 ·exact u.slot b c q n f d
 ·exact⟨c.slots,u.keep b c q n f d⟩
def Un.kept(k:∀b u,h.get? b=some u->h'.get? b=some u):Un fs ex H H h h':=
 ⟨λb c q _ _ _=>k b c q,λb c q _ _ _=>⟨c.slots,k b c q⟩,λ_ _ _ n _=>n,λb c q _=>⟨c,k b c q⟩,λ_ _ q=>q,λ_ _ _ q=>q,λ_ d q=>⟨#[],by rw[q];simp⟩⟩
def Un.refl:Un fs ex H H h h:=Un.kept λ_ _ q=>q
theorem Un.laid(k:∀b u,h.get? b=some u->h'.get? b=some u)(d:h.objs.size<=a)(c:H a=none):Un fs ex H (upd H a o) h h' where
 keep:=λb u q _ _ _=>k b u q
 slot:=λb u q _ _ _=>⟨u.slots,k b u q⟩
 free:=λb u q n _=>by rw[upd_ne (aar (aay (ac5 q) d))];exact n
 there:=λb u q _=>⟨u,k b u q⟩
 tups:=λb f q=>by rw[upd_ne (au q c)];exact q
 frzs:=λb u f q=>by rw[upd_ne (au q c)];exact q
 tbls:=λb g q=>⟨#[],by rw[upd_ne (au q c),q];simp⟩
theorem Un.write(d:Eh (H x))(l:e=x\/H e=some (.own x))(k:∀b u,b≠e->h.get? b=some u->h'.get? b=some u)(f:∃u,h'.get? e=some u):Un fs ex H (upd H x o) h h':=by
 have i:∀b,H b=none->b≠x:=λb n z=>by subst z;rw[n]at d;exact d
 have j:∀b,H b=none->b≠e:=λb n z=>by
  subst z;rcases l with r|r
  ·exact i b n r
  ·rw[n]at r;cases r
 have g:∀b u,H b=some u->¬ Eh (some u)->b≠x:=λb u q p z=>by subst z;rw[q]at d;exact p d
 refine⟨λb u q n _ _=>k b u (j b n) q,λb u q n _ _=>⟨u.slots,k b u (j b n) q⟩,λb u q n _=>by rw[upd_ne (i b n)];exact n,λb u q _=>?_,
  λb m q=>by rw[upd_ne (g b _ q λz=>z)];exact q,λb u m q=>by rw[upd_ne (g b _ q λz=>z)];exact q,λb s q=>⟨#[],by rw[upd_ne (g b _ q λz=>z),q];simp⟩⟩
 by_cases c:b=e
 ·subst c;exact f
 ·exact⟨u,k b u c q⟩
end
def trk(h:Heap)(H:Hp):List Addr:=(List.range h.objs.size).filter λa=>(H a).isSome
def kc(h:Heap)(H:Hp):Heap:=PySem.W.hideAll h (trk h H)
def rA(h:Heap)(H:Hp):(kc h H).objs.size=h.objs.size:=PySem.W.hideAll_size _ _
def hidT_get(e:h.get? b=some o)(n:H b=none):(kc h H).get? b=some o:=
 PySem.W.hideAll_get _ e λa=>by have q:(H b).isSome=true:=(abe.mp a).2;rw[n]at q;simp at q
theorem xI(e:(kc h H).get? b=some o):h.get? b=some o/\H b=none:=by
 have a:h.get? b=some o:=PySem.W.of_hideAll (trk h H) e;refine⟨a,?_⟩;cases q:H b with
 |none=>rfl
 |some x=>have c:b∈trk h H:=abe.mpr ⟨abM.mpr (ac5 a),by simp[q]⟩;have z:(kc h H).get? b=none:=PySem.W.hideAll_none (trk h H) c;rw[z]at e;cases e
end
section
structure Mod (K:Waa)(mg:Str->Option Value)(base:Heap):Prop where
 kin:K.In base
 glob:base.Ns mainGlobals mg
 blt:∃mb,base.Ns builtinsNs mb/\∀x:Str,x≠"__name__"->mb x=bootBuiltins x
 nolimit:base.NoLimit
structure Cx where
 prog:Program
 w:World
 K:Waa
 mg:Str->Option Value
 base:Heap
 A:Around
 N:List Str
 s₀:Shared
 H₀:Hp
 env:Env
 outer:List Env
 stack:List Env
 ex:List Addr
 fn:Str->Bool
 calm:Bool
 pn:List (Addr×Obj)
 xe:Value->Shared->Prop
def tu(l:List Env):List Addr:=l.filterMap (·.frame)
abbrev Cx.fs(X:Cx):List Addr:=tu X.outer
def Vis(sc:Scope)(x:Str):Prop:=sc.names.lookup x=some .local\/sc.names.lookup x=some .cell\/sc.names.lookup x=some .free
def Loc(sc:Scope)(x:Str):Prop:=sc.names.lookup x=some .local\/sc.names.lookup x=some .cell
def Look(env:Env)(h:Heap)(m:Str->Option Value)(x:Str)(u:Value):Prop:=
 (env.kindOf x=some .local/\m x=some u)\/((env.kindOf x=some .cell\/env.kindOf x=some .free)/\∃c,env.cells.lookup x=some c/\h.IsCell c (some u))
structure Cx.Ok (X:Cx):Prop where
 mod:Mod X.K X.mg X.base
 kind:X.env.scope.kind=.function
 glob:X.env.globals=mainGlobals
 blt:X.env.builtins=builtinsNs
 above:X.s₀.heap.objs.size<=X.env.locals
 inj:∀x y c,X.env.cells.lookup x=some c->X.env.cells.lookup y=some c->x=y
 has:∀x,(X.env.kindOf x=some .cell\/X.env.kindOf x=some .free)->∃c,X.env.cells.lookup x=some c
 cab:∀x c,X.fn x=true->X.env.cells.lookup x=some c->X.s₀.heap.objs.size<=c
 hd:X.calm=true->X.A.handled=none
 frames:X.A.frames=some X.stack
 stk:X.stack=X.outer\/(X.stack=X.env::X.outer/\X.env.frame=some X.env.locals)
 exf:∀b∈X.ex,b≠X.env.locals/\∀x c,X.env.cells.lookup x=some c->c≠b
 bs:∀b o,X.base.get? b=some o->X.s₀.heap.get? b=some o/\X.H₀ b=none
 bsz:X.base.objs.size<=X.s₀.heap.objs.size
 noex:∀b o,X.base.get? b=some o->b ∉ X.ex
 exfs:∀b∈X.ex,b ∉ X.fs
 funs:X.s₀.heap.FunFrames X.base X.outer
 frf:∀b∈X.fs,X.H₀ b=none
structure Inv (X:Cx)(pins:List (Addr×Obj))(σ:List (Option V))(H:Hp)(s:Shared):Prop where
 ok:X.Ok
 os:s.os=X.s₀.os
 bare:AllBare s.gens
 base:Un X.fs X.ex X.H₀ H X.s₀.heap s.heap
 loc:∃m,s.heap.Ns X.env.locals m/\∀(i:Nat) (x:Str) (v:V),X.N[i]?=some x->σ[i]?=some (some v)->Vis X.env.scope x->∃u,RelV v u/\Look X.env s.heap m x u
 cell:∀x c,X.env.cells.lookup x=some c->∃v,s.heap.IsCell c v
 free:H X.env.locals=none
 freeC:∀x c,X.env.cells.lookup x=some c->H c=none
 pin:∀p∈X.pn++pins,s.heap.get? p.1=some p.2/\H p.1=none/\p.1≠X.env.locals/\p.1 ∉ X.fs/\∀v,p.2.data≠.cell v
 hok:HOk X.prog X.w H s.heap
 len:σ.length=X.N.length
section
variable{X:Cx}{pins:List (Addr×Obj)}{σ:List (Option V)}{H H':Hp}{s:Shared}{h':Heap}
def Cx.Ok.nofr(c:X.Ok)(e:X.base.get? b=some o):b ∉ X.fs:=λa=>by have:=(c.funs.mem a).1;rw[e]at this;cases this
def Inv.bs(I:Inv X pins σ H s):∀b o,X.base.get? b=some o->s.heap.get? b=some o/\H b=none:=λb o e=>
 ⟨I.base.keep b o (I.ok.bs b o e).1 (I.ok.bs b o e).2 (I.ok.nofr e) (I.ok.noex b o e),I.base.free b o (I.ok.bs b o e).1 (I.ok.bs b o e).2 (I.ok.noex b o e)⟩
def Inv.bk(I:Inv X pins σ H s):∀b o,X.base.get? b=some o->s.heap.get? b=some o:=λb o e=>(I.bs b o e).1
def Inv.mod(I:Inv X pins σ H s):Mod X.K X.mg X.base:=I.ok.mod
theorem Inv.rz(I:Inv X pins σ H s):X.K.In s.heap:=I.ok.mod.kin.keeps I.bk
def Inv.fr(I:Inv X pins σ H s):∃m,Fr X.base X.env.locals s.heap m:=
 let ⟨m,a,_⟩:=I.loc
 ⟨m,a,I.bk,aax I.ok.bsz I.ok.above⟩
def Inv.lt(I:Inv X pins σ H s):X.env.locals<s.heap.objs.size:=let ⟨_,a,_⟩:=I.loc;a.lt
def Inv.sz(I:Inv X pins σ H s):X.s₀.heap.objs.size<=s.heap.objs.size:=aax I.ok.above (aaZ I.lt)
def Inv.nofs(I:Inv X pins σ H s)(h:s.heap.objs.size<=a):a ∉ X.fs:=λc=>by obtain⟨_,o,b,_⟩:=I.ok.funs.mem c;exact absurd (aay (ac5 b) (aax I.sz h)) (aaR _)
def Inv.cne(I:Inv X pins σ H s):∀x c,X.env.cells.lookup x=some c->c≠X.env.locals:=λx c e z=>by obtain⟨v,o,f,d⟩:=I.cell x c e;obtain⟨m,⟨i,g,h,b,a,_⟩,_⟩:=I.loc;rw[z,b]at f;cases f;rw[a]at d;cases d
theorem Inv.funs(I:Inv X pins σ H s):s.heap.FunFrames X.base X.outer:=by
 have c:∀(l:List Env),(∀b∈tu l,b∈X.fs)->X.s₀.heap.FunFrames X.base l->s.heap.FunFrames X.base l:=by
  intro l;induction l with
  |nil=>intro _ _;trivial
  |cons n r h=>intro g i;obtain⟨q,⟨L,o,d,m,p,j⟩,k⟩:=i;have f:L∈X.fs:=g L (by unfold tu;rw[acd,d];exact aad);obtain⟨t,e⟩:=I.base.slot L o p (I.ok.frf L f) f λz=>I.ok.exfs L z f;exact⟨q,⟨L,_,d,m,e,j⟩,h (λb a=>g b (by unfold tu;rw[acd,d];exact aah _ a)) k⟩
 exact c X.outer (λ_ a=>a) I.ok.funs
def Inv.stack(I:Inv X pins σ H s):s.heap.FunFrames X.base X.stack:=by
 rcases I.ok.stk with e|⟨e,a⟩
 ·rw[e];exact I.funs
 ·rw[e];obtain⟨m,b,_⟩:=I.loc;refine .cons (by rw[I.ok.kind];decide) a b ?_ I.funs;exact Heap.get?_none_of_le (aax I.ok.bsz I.ok.above)
theorem Inv.p9(I:Inv X pins σ H s):∀b∈tu X.stack,b∈X.env.locals::X.fs:=λb a=>by
 rcases I.ok.stk with e|⟨e,c⟩
 ·rw[e]at a;exact aah _ a
 ·rw[e]at a;unfold tu at a;rw[acd,c]at a;exact a
theorem Inv.t8(I:Inv X pins σ H s):∀b∈tu X.stack,H b=none:=λb a=>by
 rcases aab.mp (I.p9 b a) with e|a
 ·rw[e];exact I.free
 ·obtain⟨_,o,c,_⟩:=I.ok.funs.mem a;exact I.base.free b o c (I.ok.frf b a) λz=>I.ok.exfs b z a
theorem Inv.step{g':Array GenState}{t':Nat}{d':Drawn}{ch:List Addr}(I:Inv X pins σ H s)
  (j:∀b∈ch,(b∈X.ex\/X.s₀.heap.objs.size<=b)/\b≠X.env.locals/\(∀x c,X.env.cells.lookup x=some c->c≠b)/\∀p∈X.pn++pins,p.1≠b)
  (g:∀b o,b≠X.env.locals->b ∉ X.fs->b ∉ ch->s.heap.get? b=some o->H b=none->h'.get? b=some o)
  (B:∀b o,b≠X.env.locals->b∈X.fs->b ∉ ch->s.heap.get? b=some o->H b=none->∃U,h'.get? b=some { o with slots:=U }) (f:∀b o,b ∉ ch->s.heap.get? b=some o->H b=none->H' b=none)
  (F:∀b o,b ∉ ch->s.heap.get? b=some o->∃O,h'.get? b=some O)
  (M:∀b C,H b=some (.tup C)->H' b=some (.tup C)) (S:∀b o u,H b=some (.frz o u)->H' b=some (.frz o u)) (L:∀b T,H b=some (.tbl T)->∃Q,H' b=some (.tbl (T++Q)))
  (ns:∀m,s.heap.Ns X.env.locals m->h'.Ns X.env.locals m) (Y:HOk X.prog X.w H' h') (hg:AllBare g'):
  Inv X pins σ H' { s with heap:=h',gens:=g',drawn:=d',toks:=t' }:=by
 have N:∀b o,X.s₀.heap.get? b=some o->b≠X.env.locals:=λb o e=>aar (aay (ac5 e) I.ok.above);have y:∀b o,X.s₀.heap.get? b=some o->b ∉ X.ex->b ∉ ch:=λb o e a D=>by
  rcases (j b D).1 with z|z
  ·exact a z
  ·exact absurd (aay (ac5 e) z) (aaR _)
 have t:∀x c,X.env.cells.lookup x=some c->∀v,s.heap.IsCell c v->h'.IsCell c v:=λx c e v ⟨o,J,W⟩=>by
  have h:c ∉ ch:=λz=>(j c z).2.2.1 x c e rfl;by_cases hc:c∈X.fs
  ·obtain⟨U,q⟩:=B c o (I.cne x c e) hc h J (I.freeC x c e);exact⟨_,q,W⟩
  ·exact⟨o,g c o (I.cne x c e) hc h J (I.freeC x c e),W⟩
 refine⟨I.ok,I.os,hg,⟨λb o e n D a=>?_,λb o e n D a=>?_,λb o e n a=>?_,λb o e a=>?_,λb C e=>M b C (I.base.tups b C e),λb o C e=>S b o C (I.base.frzs b o C e),λb T e=>?_⟩,?_,λx c e=>?_,?_,λx c e=>?_,λp hp=>?_,Y,I.len⟩
 ·exact g b o (N b o e) D (y b o e a) (I.base.keep b o e n D a) (I.base.free b o e n a)
 ·obtain⟨U,A⟩:=I.base.slot b o e n D a;obtain⟨Z,P⟩:=B b _ (N b o e) D (y b o e a) A (I.base.free b o e n a);exact⟨Z,P⟩
 ·obtain⟨O,A⟩:=I.base.there b o e a;exact f b O (y b o e a) A (I.base.free b o e n a)
 ·obtain⟨O,A⟩:=I.base.there b o e a;exact F b O (y b o e a) A
 ·obtain⟨m1,A⟩:=I.base.tbls b T e;obtain⟨m2,P⟩:=L b _ A;exact⟨m1++m2,by rw[P,Array.append_assoc]⟩
 ·obtain⟨m,hn,hl⟩:=I.loc;refine⟨m,ns m hn,λi x v A P e3=>?_⟩;obtain⟨u,r,l⟩:=hl i x v A P e3;refine⟨u,r,?_⟩;rcases l with l|⟨k,c,e,z⟩
  ·exact .inl l
  ·exact .inr ⟨k,c,e,t x c e _ z⟩
 ·obtain⟨v,z⟩:=I.cell x c e;exact⟨v,t x c e v z⟩
 ·obtain⟨m,⟨o,_,_,J,_⟩,_⟩:=I.loc;exact f _ o (λz=>(j _ z).2.1 rfl) J I.free
 ·obtain⟨v,o,J,W⟩:=I.cell x c e;exact f c o (λz=>(j c z).2.2.1 x c e rfl) J (I.freeC x c e)
 ·obtain⟨e,n,ne,nf,d⟩:=I.pin p hp;have h:p.1 ∉ ch:=λz=>(j p.1 z).2.2.2 p hp rfl;exact⟨g p.1 p.2 ne nf h e n,f p.1 p.2 h e n,ne,nf,d⟩
theorem Inv.un{t':Nat}(I:Inv X pins σ H s)(u:Un X.fs [] H H' s.heap h')(f:HOk X.prog X.w H' h'):Inv X pins σ H' { s with heap:=h',toks:=t' }:=by
 obtain⟨m,⟨o,l,p,h,r⟩,_⟩:=id I.loc;obtain⟨t,k⟩:=u.any h I.free (by simp);exact I.step (ch:=[]) (λ_ z=>nomatch z) (λb o _ c _ e n=>u.keep b o e n c (by simp)) (λb o _ c _ e n=>u.slot b o e n c (by simp)) (λb o _ e n=>u.free b o e n (by simp)) (λb o _ e=>u.there b o e (by simp)) u.tups u.frzs u.tbls (λv i=>by
  obtain⟨q,g,d,a,j⟩:=i;rw[h]at a;cases a;exact⟨_,g,d,k,j⟩) f I.bare
theorem Inv.call{t':Nat}{d':Drawn}(I:Inv X pins σ H s)(u:Un (tu X.stack) ch H H' s.heap h')(h:HOk X.prog X.w H' h')(v:AllBare g')
  (d:∀b∈ch,(b∈X.ex\/X.s₀.heap.objs.size<=b)/\b≠X.env.locals/\(∀x c,X.env.cells.lookup x=some c->c≠b)/\∀p∈X.pn++pins,p.1≠b):
  Inv X pins σ H' { s with heap:=h',gens:=g',drawn:=d',toks:=t' }:=by
 obtain⟨m,⟨o,y,A,k,r⟩,_⟩:=id I.loc;obtain⟨C,i⟩:=u.any k I.free λz=>(d _ z).2.1 rfl;exact I.step d (λb o i q a e n=>u.keep b o e n (λz=>(aab.mp (I.p9 b z)).elim i q) a) (λb o _ _ a e n=>u.any e n a) (λb o a e n=>u.free b o e n a) (λb o a e=>u.there b o e a) u.tups u.frzs u.tbls (λD l=>by
  obtain⟨B,j,g,f,t⟩:=l;rw[k]at f;cases f;exact⟨_,j,g,i,t⟩) h v
theorem Inv.turned{t':Nat}(I:Inv X pins σ H s)(k:∀b o,b≠it->s.heap.get? b=some o->h'.get? b=some o)(w:H it=none)(f:it≠X.env.locals)
  (y:it∈X.ex\/X.s₀.heap.objs.size<=it) (t:∀x c,X.env.cells.lookup x=some c->c≠it) (i:∀p∈X.pn++pins,p.1≠it):Inv X pins σ H { s with heap:=h',toks:=t' }:=by
 have d:∀b u,H b=some u->b≠it:=λb u e z=>by rw[z,w]at e;cases e
 refine I.step (ch:=[it]) (λb h=>?_) (λb o _ _ a e _=>k b o (λz=>a (by simp[z])) e) (λb o _ _ a e _=>⟨o.slots,k b o (λz=>a (by simp[z])) e⟩) (λ_ _ _ _ n=>n)
  (λb o a e=>⟨o,k b o (λz=>a (by simp[z])) e⟩) (λ_ _ e=>e) (λ_ _ _ e=>e) (λb B e=>⟨#[],by rw[e];simp⟩) (λm g=>?_) (λb u e=>?_) I.bare
 ·have e:b=it:=by simpa using h
  subst e;exact⟨y,f,t,i⟩
 ·obtain⟨o,j,l,A,r⟩:=g;exact⟨o,j,l,k _ o (aaE f) A,r⟩
 ·refine(I.hok b u e).q7 (λc v a q=>k c v ?_ q) (λ_ q=>q) λ_ _ q=>q;rcases a with z|z
  ·rw[z];exact d b u e
  ·exact d c _ z
def Inv.tok(I:Inv X pins σ H s)(t:Nat):Inv X pins σ H { s with toks:=t }:=I.un (h':=s.heap) (t':=t) Un.refl I.hok
def Inv.kept{t':Nat}(I:Inv X pins σ H s)(k:∀b u,s.heap.get? b=some u->h'.get? b=some u):Inv X pins σ H { s with heap:=h',toks:=t' }:=I.un (Un.kept k) (I.hok.kept k)
def Inv.laid{a:Addr}{o:HO}{t':Nat}(I:Inv X pins σ H s)(k:∀b u,s.heap.get? b=some u->h'.get? b=some u)(c:s.heap.objs.size<=a)(d:ObjOk X.prog X.w (upd H a o) h' a o):
  Inv X pins σ (upd H a o) { s with heap:=h',toks:=t' }:=I.un (Un.laid k c (I.hok.fresh c)) (I.hok.laid k c d)
theorem Inv.write{t':Nat}(I:Inv X pins σ H s)(d:Eh (H x))(f:e=x\/H e=some (.own x))(k:∀b u,b≠e->s.heap.get? b=some u->h'.get? b=some u)(a:∃u,h'.get? e=some u)
  (c:ObjOk X.prog X.w (upd H x o) h' x o):Inv X pins σ (upd H x o) { s with heap:=h',toks:=t' }:=I.un (Un.write d f k a) (I.hok.write d f k a c)
theorem Inv.t6(I:Inv X pins σ H s)(h:∀p∈pins',s.heap.get? p.1=some p.2/\H p.1=none/\p.1≠X.env.locals/\p.1 ∉ X.fs/\∀v,p.2.data≠.cell v):Inv X pins' σ H s:=
 ⟨I.ok,I.os,I.bare,I.base,I.loc,I.cell,I.free,I.freeC,λp a=>(aaj.mp a).elim (λz=>I.pin p (aaf _ z)) (h p),I.hok,I.len⟩
def lK{N:List Str}(e:N.Nodup){i j:Nat}(a:N[i]?=some x)(b:N[j]?=some x):i=j:=by obtain⟨f,c⟩:=aai.mp a;obtain⟨g,d⟩:=aai.mp b;exact(List.getElem_inj e).mp (c.trans d.symm)
theorem jE{M:Model}{A:Around}{E:Value->Shared->Prop}(I:Inv X pins σ H s)(hN:X.N.Nodup)(Z:X.N[i]?=some x)(B:Loc X.env.scope x)(r:RelV v u)
  (h:∀s',Inv X pins (σ.set i (some v)) H s'->(∃a,Heap.SameBut a s.heap s'.heap/\(a=X.env.locals\/X.env.cells.lookup x=some a))->Q () s') (hf:X.fn x=true\/X.env.scope.names.lookup x=some .local:=by first|exact .inl rfl|exact .inr rfl|assumption):wpAny M A (storeName X.env x u) Q E s:=by
 obtain⟨m,hn,hl⟩:=id I.loc;have T:(X.env.scope.kind==.class||(X.env.scope.kind==.module&&X.env.locals !=X.env.globals))=false:=by rw[I.ok.kind];rfl
 have F:i<σ.length:=by rw[I.len];exact(aai.mp Z).1
 have P:=I.cne;have g:∀{a:Addr}{h':Heap},(∃o,s.heap.get? a=some o/\H a=none)->Heap.SameBut a s.heap h'->HOk X.prog X.w H h':=λ{a h'} ha f b ob e=>by
  obtain⟨_,_,C⟩:=ha;refine(I.hok b ob e).q7 (λc w' t q=>(f.2 c ?_).trans q) (λ_ q=>q) λ_ _ q=>q;rintro rfl;rcases t with rfl|t
  ·rw[C]at e;cases e
  ·rw[C]at t;cases t
 rcases B with J|J
 ·refine wpAny_storeName_local J hn (λh' a2 f=>?_) T;obtain⟨oL,_,_,a1,_⟩:=id hn;refine h _ ⟨I.ok,I.os,I.bare,⟨λb o e n L B=>?_,λb o e n L B=>?_,I.base.free,λb o e B=>?_,I.base.tups,I.base.frzs,I.base.tbls⟩,⟨_,a2,λj y v' l D e3=>?_⟩,λy c e=>?_,I.free,I.freeC,λp hp=>?_,g ⟨oL,a1,I.free⟩ f,by simpa using I.len⟩ ⟨_,f,.inl rfl⟩
  ·exact(f.2 b (aar (aay (ac5 e) I.ok.above))).trans (I.base.keep b o e n L B)
  ·obtain⟨sl,l⟩:=I.base.slot b o e n L B;exact⟨sl,(f.2 b (aar (aay (ac5 e) I.ok.above))).trans l⟩
  ·obtain⟨o',l⟩:=I.base.there b o e B;exact⟨o',(f.2 b (aar (aay (ac5 e) I.ok.above))).trans l⟩
  ·by_cases O:j=i
   ·subst O;rw[Z]at l;cases l;rw[aa4 F]at D;cases D;exact⟨u,r,.inl ⟨J,by simp⟩⟩
   ·rw[abf (aaE O)]at D;obtain⟨u',r',q⟩:=hl j y v' l D e3;refine⟨u',r',?_⟩;rcases q with ⟨k,e⟩|⟨k,c,e,z⟩
    ·refine .inl ⟨k,?_⟩;have:y≠x:=λe=>O (lK hN l (e▸Z));simp[this,e]
    ·exact .inr ⟨k,c,e,z.sameBut f (P y c e)⟩
  ·obtain⟨w',z⟩:=I.cell y c e;exact⟨w',z.sameBut f (P y c e)⟩
  ·obtain⟨e,n,ne,nf,d⟩:=I.pin p hp;exact⟨(f.2 p.1 ne).trans e,n,ne,nf,d⟩
 ·have S:X.fn x=true:=by
   rcases hf with z|z
   ·exact z
   ·rw[z]at J;cases J
  obtain⟨c,t⟩:=I.ok.has x (.inl J);obtain⟨w',z⟩:=I.cell x c t;refine wpAny_storeName_cell I.ok.kind J t z (λh' W f=>?_);obtain⟨oc,Y,a0⟩:=id z;refine h { s with heap:=h' } ⟨I.ok,I.os,I.bare,⟨λb o e n L B=>?_,λb o e n L B=>?_,I.base.free,λb o e B=>?_,I.base.tups,I.base.frzs,I.base.tbls⟩,⟨m,hn.sameBut f (aaE (P x c t)),λj y v' l D e3=>?_⟩,λy c' e=>?_,I.free,I.freeC,λp hp=>?_,g ⟨oc,Y,I.freeC x c t⟩ f,by simpa using I.len⟩ ⟨c,f,.inr t⟩
  ·exact(f.2 b (aar (aay (ac5 e) (I.ok.cab x c S t)))).trans (I.base.keep b o e n L B)
  ·obtain⟨sl,l⟩:=I.base.slot b o e n L B;exact⟨sl,(f.2 b (aar (aay (ac5 e) (I.ok.cab x c S t)))).trans l⟩
  ·obtain⟨o',l⟩:=I.base.there b o e B;exact⟨o',(f.2 b (aar (aay (ac5 e) (I.ok.cab x c S t)))).trans l⟩
  ·by_cases O:j=i
   ·subst O;rw[Z]at l;cases l;rw[aa4 F]at D;cases D;exact⟨u,r,.inr ⟨.inl J,c,t,W⟩⟩
   ·rw[abf (aaE O)]at D;obtain⟨u',r',q⟩:=hl j y v' l D e3;refine⟨u',r',?_⟩;rcases q with q|⟨k,c',e,z'⟩
    ·exact .inl q
    ·refine .inr ⟨k,c',e,z'.sameBut f ?_⟩;rintro rfl;exact O (lK hN l (I.ok.inj _ _ _ e t▸Z))
  ·by_cases U:c'=c
   ·subst U;exact⟨_,W⟩
   ·obtain⟨w2,z2⟩:=I.cell y c' e;exact⟨w2,z2.sameBut f U⟩
  ·obtain⟨e,n,ne,nf,d⟩:=I.pin p hp;refine⟨(f.2 p.1 ?_).trans e,n,ne,nf,d⟩;intro q;rw[q,Y]at e;have q':oc=p.2:=aaC e;exact d w' (by rw[<-q'];exact a0)
theorem bJ{M:Model}{A:Around}{E:Value->Shared->Prop}(I:Inv X pins σ H s)(f:X.N.Nodup)(e:X.N[i]?=some x)(d:Loc X.env.scope x)(r:RelV v u)
  (h:∀a,Inv X pins (σ.set i (some v)) H a->Q () a) (b:X.fn x=true\/X.env.scope.names.lookup x=some .local:=by first|exact .inl rfl|exact .inr rfl|assumption):wpAny M A (storeName X.env x u) Q E s:=
 jE I f e d r (λa c _=>h a c) b
theorem Inv.call'(I:Inv X pins σ H s)(h:s'.os=s.os)(u:Un (tu X.stack) ch H H' s.heap s'.heap)(d:HOk X.prog X.w H' s'.heap)(f:AllBare s'.gens)
  (a:∀b∈ch,(b∈X.ex\/X.s₀.heap.objs.size<=b)/\b≠X.env.locals/\(∀x c,X.env.cells.lookup x=some c->c≠b)/\∀p∈X.pn++pins,p.1≠b):Inv X pins σ H' s':=by
 obtain⟨h',i,k,j,g⟩:=s';have e:g=s.os:=h;subst e;exact I.call u d f a
end
abbrev XK:=Value->Option Addr->Hp->Prop
abbrev St:=List (Option V)
abbrev VK:=V->Hp->Prop
abbrev TE:=St->Hp->VK->Prop
abbrev TT:=St->Hp->(Bool->Hp->Prop)->Prop
abbrev TA:=St->Hp->(List V->Hp->Prop)->Prop
structure Ends where
 nx:St->Hp->Prop
 rt:VK
 bk:St->Hp->Prop:=λ_ _=>False
 ct:St->Hp->Prop:=λ_ _=>False
abbrev TS:=Ends->St->Hp->Prop
def EP(X:Cx)(a:List (Addr×Obj))(σ:St)(Q:VK)(u:Value)(c:Shared):Prop:=∃v b,Inv X a σ b c/\RelV v u/\Q v b
def TP(X:Cx)(a:List (Addr×Obj))(σ:St)(Q:Bool->Hp->Prop)(b:Bool)(d:Shared):Prop:=∃c,Inv X a σ c d/\Q b c
def AP(X:Cx)(a:List (Addr×Obj))(σ:St)(Q:List V->Hp->Prop)(us:List Value)(d:Shared):Prop:=∃c b,Inv X a σ b d/\Vals c us/\Q c b
def SP(X:Cx)(b:List (Addr×Obj))(D:Ends)(f:Flow)(d:Shared):Prop:=
 match f with
 |.next=>∃a c,Inv X b a c d/\D.nx a c
 |.brk=>∃a c,Inv X b a c d/\D.bk a c
 |.cont=>∃a c,Inv X b a c d/\D.ct a c
 |.ret u=>∃v a c,Inv X b a c d/\RelV v u/\D.rt v c
def PE(X:Cx)(e:Expr)(t:TE):Prop:=
 ∀(a:List (Addr×Obj)) (s:Shared) (b:St) (H:Hp) (Q:VK),Inv X a b H s->t b H Q->wpAny (model X.prog X.w) X.A (eval e X.env) (EP X a b Q) X.xe s
def PT(X:Cx)(e:Expr)(t:TT):Prop:=
 ∀(a:List (Addr×Obj)) (s:Shared) (b:St) (H:Hp) (Q:Bool->Hp->Prop),Inv X a b H s->t b H Q->wpAny (model X.prog X.w) X.A (isTrue e X.env (eval e X.env)) (TP X a b Q) X.xe s
def PW(X:Cx)(e:Expr)(t:TT):Prop:=
 ∀(b:Sem Value) (a:List (Addr×Obj)) (s:Shared) (c:St) (H:Hp) (Q:Bool->Hp->Prop),Inv X a c H s->t c H Q->wpAny (model X.prog X.w) X.A (isTrue e X.env b) (TP X a c Q) X.xe s
def PW.pt(h:PW X e t):PT X e t:=h _
def PA(X:Cx)(es:List Expr)(t:TA):Prop:=
 ∀(c:Pos) (a:List (Addr×Obj)) (s:Shared) (b:St) (H:Hp) (Q:List V->Hp->Prop),Inv X a b H s->t b H Q->wpAny (model X.prog X.w) X.A (spliced (backTo c (starEach es X.env))) (AP X a b Q) X.xe s
def PS(X:Cx)(st:Stmt)(t:TS):Prop:=
 ∀(a:List (Addr×Obj)) (s:Shared) (b:St) (H:Hp) (D:Ends),Inv X a b H s->t D b H->wpAny (model X.prog X.w) X.A (exec st X.env) (SP X a D) X.xe s
def PSs(X:Cx)(st:List Stmt)(t:TS):Prop:=
 ∀(a:List (Addr×Obj)) (s:Shared) (b:St) (H:Hp) (D:Ends),Inv X a b H s->t D b H->wpAny (model X.prog X.w) X.A (execs st X.env) (SP X a D) X.xe s
def thn{c:Type}{t:Sem c}{Q b:c->Shared->Prop}{A:Around}(h:wpAny M A t Q E s)(d:∀a s,Q a s->b a s):wpAny M A t b E s:=ac9 h d λ_ _ x=>x
end
section
section
variable{X:Cx}
def tVar(i:Nat):TE:=λa H Q=>∃v,a[i]?=some (some v)/\Q v H
def tC(v:V):TE:=λ_ H Q=>Q v H
theorem bP{pos:Pos} (q:X.N[i]?=some x) (t:Vis X.env.scope x) (j:(x==("__debug__":Str))=false:=by decide) (g:(x==("__classdict__":Str))=false:=by decide):PE X (.Name x pos) (tVar i):=by
 intro f s w H Q I h;obtain⟨v,e,h⟩:=h;obtain⟨m,p,o⟩:=I.loc;obtain⟨u,r,l⟩:=o i x v q e t;have b:EP X f w Q u s:=⟨v,H,I,r,h⟩
 rcases l with ⟨d,n⟩|⟨d,c,k,a⟩
 ·exact wpAny_Name (wpAny_loadName_local I.ok.kind d p n b) j
 ·rcases d with d|d
  ·exact wpAny_Name (wpAny_loadName_cell I.ok.kind d k a b) j
  ·exact wpAny_Name (wpAny_loadName_free I.ok.kind d k a b g) j
def kf{i j pos}:PE X (.Constant (.int i) j pos) (tC (.int i)):=λ_ _ _ H _ I h=>wpAny_Constant_int ⟨.int i,H,I.tok _,⟨_,rfl⟩,h⟩
def Ei{b j pos}:PE X (.Constant (.bool b) j pos) (tC (.bl b)):=λ_ _ _ H _ I h=>Constant_bool ⟨.bl b,H,I,rfl,h⟩
def Bb{x j pos}:PE X (.Constant (.str x) j pos) (tC (.str x)):=λ_ _ _ H _ I h=>Calls.Constant_str ⟨.str x,H,I.tok _,⟨_,rfl⟩,h⟩
def Gl(X:Cx)(x:Str):Prop:=X.env.kindOf x=some .globalImplicit
theorem kg{E:Value->Shared->Prop}{pos:Pos}(I:Inv X pins σ H s)(c:Gl X x)(a:X.mg x=some u)(h:Q u s)
  (b:(x==("__debug__":Str))=false:=by decide):wpAny (model X.prog X.w) X.A (eval (.Name x pos) X.env) Q E s:=
 adU I.ok.kind c (Calls.loadGlobal_global (by rw[I.ok.glob];exact I.mod.glob.keeps I.bk) a h) b
theorem dA{E:Value->Shared->Prop}{a:List (Addr×Obj)}{s:Shared}{pos:Pos}(I:Inv X a σ H s)(g:Gl X x)(d:X.mg x=none)(c:bootBuiltins x=some u)(h:Q u s)
  (i:x≠"__name__":=by decide) (f:(x==("__debug__":Str))=false:=by decide):wpAny (model X.prog X.w) X.A (eval (.Name x pos) X.env) Q E s:=by
 obtain⟨j,b,e⟩:=I.mod.blt;exact adU I.ok.kind g (Calls.loadGlobal_builtin (by rw[I.ok.glob];exact I.mod.glob.keeps I.bk) d (by rw[I.ok.blt];exact b.keeps I.bk) ((e x i).trans c) h) f
def xJ{pos:Pos} (c:Gl X x) (a:X.mg x=some u) (r:RelV v u) (b:(x==("__debug__":Str))=false:=by decide):PE X (.Name x pos) (tC v):=
 λ_ _ _ H _ I h=>kg I c a ⟨v,H,I,r,h⟩ b
def xK{pos:Pos} (d:Gl X x) (b:X.mg x=none) (a:bootBuiltins x=some u) (r:RelV v u) (e:x≠"__name__":=by decide) (c:(x==("__debug__":Str))=false:=by decide):PE X (.Name x pos) (tC v):=
 λ_ _ _ H _ I h=>dA I d b a ⟨v,H,I,r,h⟩ e c
variable{a b:Expr}{ta tb:TE}{pos:Pos}
def PC(X:Cx)(g:CmpOp)(a b:Expr)(t:TE):Prop:=
 ∀(c:List (Addr×Obj)) (s:Shared) (f:St) (H:Hp) (Q:VK),Inv X c f H s->t f H Q ->
  wpAny (model X.prog X.w) X.A (eval a X.env) (λv d=>wpAny (model X.prog X.w) X.A (eval b X.env) (λu e=>wpAny (model X.prog X.w) X.A (compareOp g v u) (EP X c f Q) X.xe e) X.xe d) X.xe s
def nobehind(b:Expr)(h:op≠.In)(d:op≠.NotIn):behindInMarks op b=false:=by
 have e:(op==CmpOp.In)=false:=by cases op<;>first|rfl|exact absurd rfl h
 have c:(op==CmpOp.NotIn)=false:=by cases op<;>first|rfl|exact absurd rfl d
 cases b<;>simp[behindInMarks,e,c]
def tB(t:TE):TT:=λd H Q=>t d H λx e=>∃c,x=.bl c/\Q c e
def tw(h:PC X op a b t)(d:behindInMarks op b=false:=by first|exact nobehind _ (by decide) (by decide)|rfl):PE X (.Compare a [op] [b] pos) t:=λc s e H Q I f=>wpAny_Compare1 (h c s e H Q I f) d
theorem tx{f:CmpOp}{t:TE}(h:PC X f a b t)(g:behindInMarks f b=false:=by first|exact nobehind _ (by decide) (by decide)|rfl):PT X (.Compare a [f] [b] pos) (tB t):=by intro e s o H Q I m;refine wpAny_isTrue_Compare1 (thn (h e s o H _ I m) λv w g=>thn g λu y n=>thn n λc r l=>?_) g;obtain⟨x,i,k,p,j⟩:=l;obtain⟨d,rfl,q⟩:=j;cases p;exact adh ⟨i,k,q⟩
variable{tA tB':TT}{rest:List Expr}
def Hc(t u:TT):TT:=λd H Q=>t d H λc e=>if c=true then u d e Q else Q false e
def JG(t u:TT):TT:=λd H Q=>t d H λc e=>if c=true then Q true e else u d e Q
def He(t:TT):TT:=λd H Q=>t d H λc e=>Q (!c) e
def xM(g:PT X a tA):PW X (.BoolOp .And [a] pos) tA:=by
 intro i d s f H Q I h;refine isTrue_and (thn (g d s f H Q I h) λc j e=>?_);cases c with
 |true=>exact isTrue_and_nil e
 |false=>exact e
def Bc(g:PT X a tA):PW X (.BoolOp .Or [a] pos) tA:=by
 intro i d s f H Q I h;refine isTrue_or (thn (g d s f H Q I h) λc j e=>?_);cases c with
 |false=>exact isTrue_or_nil e
 |true=>exact e
theorem Bd(l:PT X a tA)(m:PW X (.BoolOp .And (b::rest) pos) tB'):PW X (.BoolOp .And (a::b::rest) pos) (Hc tA tB'):=by
 intro k d s e H Q I h;refine isTrue_and (thn (l d s e H _ I h) λc n j=>?_);obtain⟨f,i,g⟩:=j;cases c with
 |true=>exact m k d n e f Q i g
 |false=>exact⟨f,i,g⟩
theorem Ej(l:PT X a tA)(m:PW X (.BoolOp .Or (b::rest) pos) tB'):PW X (.BoolOp .Or (a::b::rest) pos) (JG tA tB'):=by
 intro k d s e H Q I h;refine isTrue_or (thn (l d s e H _ I h) λc n j=>?_);obtain⟨f,i,g⟩:=j;cases c with
 |true=>exact⟨f,i,g⟩
 |false=>exact m k d n e f Q i g
def Be(g:PT X a tA):PT X (.UnaryOp .Not a pos) (He tA):=by intro d s e H Q I h;exact isTrue_not (g d s e H (λc f=>Q (!c) f) I h)
def Ek(ta tb:TE):TE:=λd H Q=>ta d H λx e=>∃c,x=.bl c/\if c=true then tb d e Q else Q (.bl false) e
def Hf(ta tb:TE):TE:=λd H Q=>ta d H λx e=>∃c,x=.bl c/\if c=true then Q (.bl true) e else tb d e Q
def El(ta:TE):TE:=λd H Q=>ta d H λx e=>∃c,x=.bl c/\Q (.bl (!c)) e
def Bf{e}(h:PE X a t):PE X (.BoolOp e [a] pos) t:=λc s d H Q I f=>BoolOp_one (h c s d H Q I f)
theorem Bg(n:PE X a ta)(j:PE X (.BoolOp .And (b::rest) pos) tb):PE X (.BoolOp .And (a::b::rest) pos) (Ek ta tb):=by
 intro d s i H Q I h;refine BoolOp_and (thn (n d s i H _ I h) λv l k=>?_);obtain⟨x,f,g,m,e⟩:=k;obtain⟨c,rfl,e⟩:=e;cases m;refine adh ?_;cases c with
 |true=>exact j d l i f Q g e
 |false=>exact⟨.bl false,f,g,rfl,e⟩
theorem Em(n:PE X a ta)(j:PE X (.BoolOp .Or (b::rest) pos) tb):PE X (.BoolOp .Or (a::b::rest) pos) (Hf ta tb):=by
 intro d s i H Q I h;refine BoolOp_or (thn (n d s i H _ I h) λv l k=>?_);obtain⟨x,f,g,m,e⟩:=k;obtain⟨c,rfl,e⟩:=e;cases m;refine adh ?_;cases c with
 |false=>exact j d l i f Q g e
 |true=>exact⟨.bl true,f,g,rfl,e⟩
def Bh(l:PE X a ta):PE X (.UnaryOp .Not a pos) (El ta):=by intro d s i H Q I h;refine UnaryOp_ (thn (l d s i H _ I h) λv m g=>?_);obtain⟨x,j,f,k,e⟩:=g;obtain⟨c,rfl,e⟩:=e;cases k;exact not_of (adh ⟨.bl (!c),j,f,rfl,e⟩)
def JH(t:TT)(ta tb:TE):TE:=λd H Q=>t d H λc e=>if c=true then ta d e Q else tb d e Q
def tz{c:Expr}(m:PT X c tA)(n:PE X a ta)(o:PE X b tb):PE X (.IfExp c a b pos) (JH tA ta tb):=by
 intro e s f H Q I h;refine wpAny_IfExp (thn (m e s f H _ I h) λd k l=>?_);obtain⟨g,j,i⟩:=l;cases d with
 |true=>exact n e k f g Q j i
 |false=>exact o e k f g Q j i
end
end
section
def SqL(K:Waa)(H:Hp)(a:Addr)(xs:List V):Prop:=
 Rd H a (.lst xs) \/
  ∃(o:Obj) (b:Array Value) (n:Nat),K.lookup a=some o/\o.cls=.type "list"/\o.dict=none/\o.data=.seq b n/\b.size<=sizeLine/\Vals xs b.toList
def SqT(K:Waa)(H:Hp)(a:Addr)(xs:List V):Prop:=
 Rd H a (.tup xs) \/
  ∃(o:Obj) (b:Array Value) (n:Nat),K.lookup a=some o/\o.cls=.type "tuple"/\o.dict=none/\o.data=.seq b n/\b.size<=sizeLine/\Vals xs b.toList
def Hg:Value->Option V
 |.none=>some .non
 |.bool b=>some (.bl b)
 |.int i _=>some (.int i)
 |.str x _=>some (.str x)
 |.bytes b _=>some (.byt b)
 |.float b _=>some (.flt b)
 |.ref a=>some (.ref a)
 |.type n=>some (.ty n)
 |_=>none
def RelV.abs(r:RelV x u):Hg u=some x:=by
 cases x with
 |non=>cases r;rfl
 |bl _=>cases r;rfl
 |int _=>obtain⟨t,rfl⟩:=r;rfl
 |str _=>obtain⟨t,rfl⟩:=r;rfl
 |byt _=>obtain⟨t,rfl⟩:=r;rfl
 |flt _=>obtain⟨t,rfl⟩:=r;rfl
 |ref _=>cases r;rfl
 |ty _=>cases r;rfl
def RelV.inj{x y:V}{u:Value}(r:RelV x u)(q:RelV y u):x=y:=aaC (r.abs.symm.trans q.abs)
def Vals.inj{xs ys:List V}{us:List Value}(h:Vals xs us)(h':Vals ys us):xs=ys:=by
 induction us generalizing xs ys with
 |nil=>cases h;cases h';rfl
 |cons u us b=>cases h with|cons r t=>cases h' with|cons c a=>rw[r.inj c,b t a]
section
variable{X:Cx}{pins:List (Addr×Obj)}{σ:St}{H:Hp}{s:Shared}{a:Addr}{xs ys:List V}
def SqL.of{K:Waa}(h:H a=some (.lst xs)):SqL K H a xs:=.inl (.inl h)
def SqT.of{K:Waa}(h:H a=some (.tup xs)):SqT K H a xs:=.inl (.inl h)
theorem Inv.list(I:Inv X pins σ H s)(h:SqL X.K H a xs):∃b:List Value,Vals xs b/\PlainL s.heap a b.toArray/\xs.length<=sizeLine:=by
 rcases h with h|⟨o,b,n,g,c,d,f,i,r⟩
 ·obtain⟨z,b,n,r,e⟩:=h.ok I.hok;exact⟨b,r,⟨_,n,e,rfl,rfl,rfl⟩,z⟩
 ·refine⟨b.toList,r,⟨o,n,I.rz a o g,c,d,by simpa using f⟩,?_⟩;have e:=r.length;simp only[aaL]at e;omega
theorem Inv.tuple(I:Inv X pins σ H s)(h:SqT X.K H a xs):∃b:List Value,Vals xs b/\IsTup s.heap a b.toArray/\xs.length<=sizeLine:=by
 rcases h with h|⟨o,b,n,i,f,_,g,j,r⟩
 ·obtain⟨z,b,r,o,e,c,n,d,_⟩:=h.ok I.hok;exact⟨b,r,⟨o,e,c,n,d⟩,z⟩
 ·refine⟨b.toList,r,⟨o,I.rz a o i,f,n,by simpa using g⟩,?_⟩;have e:=r.length;simp only[aaL]at e;omega
theorem Inv.ro(I:Inv X pins σ H s)(h:SqL X.K H a xs)(h':SqL X.K H a ys):xs=ys:=by
 obtain⟨c,r,⟨o,n,e,_,_,d⟩,_⟩:=I.list h;obtain⟨b,i,⟨j,k,g,_,_,f⟩,_⟩:=I.list h';rw[e]at g;cases g;rw[d]at f;injection f with d1 _;have:c=b:=by simpa using congrArg Array.toList d1
 subst this;exact r.inj i
theorem Inv.tupN(I:Inv X pins σ H s)(h:SqT X.K H a xs):∃o,s.heap.get? a=some o/\o.cls=.type "tuple"/\o.dict=none:=by
 rcases h with h|⟨o,g,n,i,b,f,j,k,r⟩
 ·obtain⟨_,_,_,o,e,c,_,_,d⟩:=h.ok I.hok;exact⟨o,e,c,d⟩
 ·exact⟨o,I.rz a o i,b,f⟩
theorem Inv.ub(I:Inv X pins σ H s)(h:SqT X.K H a xs)(h':SqT X.K H a ys):xs=ys:=by
 obtain⟨c,r,⟨o,e,_,n,d⟩,_⟩:=I.tuple h;obtain⟨b,i,⟨j,g,_,k,f⟩,_⟩:=I.tuple h';rw[e]at g;cases g;rw[d]at f;injection f with d1 _;have:c=b:=by simpa using congrArg Array.toList d1
 subst this;exact r.inj i
end
abbrev Cx.n0(X:Cx)(E:Value->Shared->Prop):Cx:={ X with xe:=E }
abbrev Cx.nox(X:Cx):Cx:=X.n0 λ_ _=>False
def Cx.Ok.n0{X:Cx}(a:X.Ok)(E:Value->Shared->Prop):(X.n0 E).Ok:=
 ⟨a.mod,a.kind,a.glob,a.blt,a.above,a.inj,a.has,a.cab,a.hd,a.frames,a.stk,a.exf,a.bs,a.bsz,a.noex,a.exfs,a.funs,a.frf⟩
def Cx.Ok.fx{X:Cx}(a:(X.n0 E).Ok):X.Ok:=
 ⟨a.mod,a.kind,a.glob,a.blt,a.above,a.inj,a.has,a.cab,a.hd,a.frames,a.stk,a.exf,a.bs,a.bsz,a.noex,a.exfs,a.funs,a.frf⟩
section
variable{X:Cx}{pins:List (Addr×Obj)}{σ:St}{H:Hp}{s:Shared}{E:Value->Shared->Prop}
def Inv.n0(I:Inv X pins σ H s)(E:Value->Shared->Prop):Inv (X.n0 E) pins σ H s:=⟨I.ok.n0 E,I.os,I.bare,I.base,I.loc,I.cell,I.free,I.freeC,I.pin,I.hok,I.len⟩
def Inv.fx(I:Inv (X.n0 E) pins σ H s):Inv X pins σ H s:=⟨I.ok.fx,I.os,I.bare,I.base,I.loc,I.cell,I.free,I.freeC,I.pin,I.hok,I.len⟩
theorem SP.fx{D:Ends}(h:SP (X.n0 E) pins D f s'):SP X pins D f s':=by
 cases f with
 |next=>obtain⟨a,b,I,q⟩:=h;exact⟨a,b,I.fx,q⟩
 |brk=>obtain⟨a,b,I,q⟩:=h;exact⟨a,b,I.fx,q⟩
 |cont=>obtain⟨a,b,I,q⟩:=h;exact⟨a,b,I.fx,q⟩
 |ret u=>obtain⟨v,a,b,I,r,q⟩:=h;exact⟨v,a,b,I.fx,r,q⟩
def PSs.nox{a:List Stmt}(h:PSs X.nox a t):PSs X a t:=λpins s σ H D I b=>
 ac9 (h pins s σ H D (I.n0 _) b) (λ_ _ q=>q.fx) λ_ _ z=>False.elim z
end
section
variable{X:Cx}{st:Stmt}{rest:List Stmt}{t u:TS}{e:Expr}{te:TE}{pos:Pos}
def tNext:TS:=λD a H=>D.nx a H
def Hh(t u:TS):TS:=λD a H=>t { D with nx:=u D } a H
def xN:PSs X [] tNext:=λ_ _ a H _ I h=>wpAny_execs_nil ⟨a,H,I,h⟩
def lL(c:PS X st t)(j:PSs X rest u):PSs X (st::rest) (Hh t u):=by
 intro a s d H D I h;refine wpAny_execs_cons (thn (c a s d H { D with nx:=u D } I h) λf k q=>?_);cases f with
 |next=>obtain⟨b,i,g,q⟩:=q;exact j a k b i D g q
 |ret v=>exact q
 |brk=>exact q
 |cont=>exact q
def tCont:TS:=λD a H=>D.ct a H
def lM:PS X (.Continue pos) tCont:=λ_ _ a H _ I h=>wpAny_Continue ⟨a,H,I,h⟩
def Inv.quiet{a:List (Addr×Obj)}{σ:St}(I:Inv X a σ H s):interactive X.env=false:=by simp[interactive,I.ok.kind]
def En(te:TE):TS:=λD a H=>te a H λ_ b=>D.nx a b
def g7(g:PE X e te)(hs:swapsWith e none pos.line X.env=pure false:=by rfl):PS X (.Expr e pos) (En te):=by intro a s b H D I h;exact wpAny_Expr_any (thn (g a s b H _ I h) λv j ⟨x,d,c,i,f⟩=>⟨b,d,c,f⟩) I.quiet hs
def Hi(te:TE):TS:=λD a H=>te a H D.rt
def Bi(i:PE X e te):PS X (.Return (some e) pos) (Hi te):=by intro a s b H D I h;exact wpAny_Return_some (thn (i a s b H _ I h) λv j ⟨x,d,c,g,f⟩=>⟨x,b,d,c,g,f⟩)
def Hj(c:TT)(t u:TS):TS:=λD a H=>c a H λb d=>if b=true then t D a d else u D a d
theorem Ep{c:Expr}{a b:List Stmt}{tc:TT}(m:PT X c tc)(p:PSs X a t)(n:PSs X b u):PS X (.If c a b pos) (Hj tc t u):=by
 intro f s g H D I h;refine wpAny_If (thn (m f s g H _ I h) λd l o=>?_);obtain⟨i,k,j⟩:=o;cases d with
 |true=>exact p f l g i D k j
 |false=>exact n f l g i D k j
def tNever:TS:=λ_ _ _=>False
def lN:PS X st tNever:=λ_ _ _ _ _ _ h=>h.elim
end
abbrev TG:=V->St->Hp->(St->Hp->Prop)->Prop
abbrev TGs:=List V->St->Hp->(St->Hp->Prop)->Prop
def PG(X:Cx)(a:Expr)(t:TG):Prop:=
 ∀(b:List (Addr×Obj)) (s:Shared) (d:St) (H:Hp) (v:V) (u:Value) (Q:St->Hp->Prop),Inv X b d H s->RelV v u->t v d H Q ->
  wpAny (model X.prog X.w) X.A (assign a X.env u) (λ_ f=>∃c e,Inv X b c e f/\Q c e) X.xe s
def Ea(X:Cx)(f:List Expr)(t:TGs):Prop:=
 ∀(a:List (Addr×Obj)) (s:Shared) (c:St) (H:Hp) (vs:List V) (e:List Value) (Q:St->Hp->Prop),Inv X a c H s->Vals vs e->t vs c H Q ->
  wpAny (model X.prog X.w) X.A (assignInOrder ((assignEach f X.env).map (·.2)) e) (λ_ g=>∃b d,Inv X a b d g/\Q b d) X.xe s
abbrev Bj:=V->V->V->Hp->(Hp->Prop)->Prop
def PSet(X:Cx)(t:Bj):Prop:=
 ∀(a:List (Addr×Obj)) (s:Shared) (b:St) (H:Hp) (o i v:V) (e d u:Value) (Q:Hp->Prop),Inv X a b H s->RelV o e->RelV i d->RelV v u->t o i v H Q ->
  wpAny (model X.prog X.w) X.A (setItem e d u) (λ_ f=>∃c,Inv X a b c f/\Q c) X.xe s
abbrev TIp:=V->V->Hp->VK->Prop
def GS(X:Cx)(c:Operator)(t:TIp):Prop:=
 ∀(a:List (Addr×Obj)) (s:Shared) (b:St) (H:Hp) (x y:V) (v u:Value) (Q:VK),Inv X a b H s->RelV x v->RelV y u->t x y H Q ->
  wpAny (model X.prog X.w) X.A (inplaceOp c v u) (EP X a b Q) X.xe s
section
variable{X:Cx}{pos:Pos}
def gE(i:Nat):TG:=λv a H Q=>Q (a.set i (some v)) H
theorem xO(f:X.N.Nodup)(e:X.N[i]?=some x)(d:Loc X.env.scope x)(b:X.fn x=true\/X.env.scope.names.lookup x=some .local:=by first|exact .inl rfl|exact .inr rfl|assumption):PG X (.Name x pos) (gE i):=by intro a s g H v u Q I r h;exact wpAny_assign_Name (bJ I f e d r (λj c=>⟨_,H,c,h⟩) b)
def gNil:TGs:=λa b H Q=>a=[]/\Q b H
def Er(t:TG)(u:TGs):TGs:=λd b H Q=>∃v r,d=v::r/\t v b H λa c=>u r a c Q
def xP:Ea X [] gNil:=by intro a s b H c d Q I r h;obtain⟨e,h⟩:=h;subst e;cases r;exact assignInOrder_nil ⟨b,H,I,h⟩
theorem tD{e:Expr}{es:List Expr}(l:PG X e t)(k:Ea X es u)
  (hs:(assignEach (e::es) X.env).map (·.2)=assign e X.env::(assignEach es X.env).map (·.2):=by rfl):Ea X (e::es) (Er t u):=by
 intro a s m H q o Q I r h;obtain⟨v,p,n,h⟩:=h;subst n;cases r with
 |cons r c=>rw[hs];refine adr (thn (l a s m H _ _ _ I r h) λ_ j i=>?_);obtain⟨b,d,g,f⟩:=i;exact k a j b d _ _ Q g c f
def Hk(K:Waa)(n:Nat)(t:TGs):TG:=λv c H Q=>∃a b,v=.ref a/\SqT K H a b/\b.length=n/\t b c H Q
theorem Bk{k:Nat}(j:X.calm=true)(h:Ea X es t)
  (y:(assignEach es X.env).length=n:=by rfl) (f:(assignEach es X.env).findIdx? (·.1)=none:=by rfl):PG X (.Tuple es k pos) (Hk X.K n t):=by
 intro c s i H v u Q I r d;obtain⟨a,x,A,q,m,d⟩:=d;subst A;cases r;obtain⟨B,g,z,C⟩:=I.tuple q;refine assign_Tuple_tuple (I.ok.hd j) z (by simp[y,<-m,g.length]) f λp w=>?_;have l:Inv X c i H { s with heap:=p }:=I.kept λb o e=>w b o (aar (ac5 e)) e;exact h c _ i H x _ Q l (by simpa using g) d
def Hl(d b:TE)(t:Bj):TG:=λv a H Q=>d a H λo c=>b a c λi f=>t o i v f λe=>Q a e
theorem Bm{o i:Expr}{f g:TE}{t:Bj}(F:PE X o f)(B:PE X i g)(hs:PSet X t)
  (J:∀v,assign (.Subscript o i pos) X.env v=(do
   let b <-holding [v] (eval o X.env)
   let c <-holding [v,b] (eval i X.env)
   standAt pos
   holding [v,b,c] (setItem b c v)
   release [v,b,c] []):=by intro _;rfl):PG X (.Subscript o i pos) (Hl f g t):=by
 intro a s e H v u Q I r h;rw[J];refine ac3 (adb (thn (F a s e H _ I h) λb p d=>?_));obtain⟨x,j,m,D,l⟩:=d;refine ac3 (adb (thn (B a p e j _ m l) λc A d=>?_));obtain⟨y,n,L,k,C⟩:=d;refine ac3 (adj (ac3 (adb (thn (hs a A e n x y v b c u _ L D k r C) λ_ M d=>?_))));obtain⟨z,w,q⟩:=d;exact wpAny_release ⟨e,z,w,q⟩
def lO(c:TE)(g:TG):TS:=λD a H=>c a H λx b=>g x a b D.nx
theorem tE{tg e:Expr}{b:TE}{g:TG}(j:PE X e b)(n:PG X tg g)(hs:swapsWithSole [tg] e pos.line X.env=pure false:=by rfl)(l:swappedStores [tg] e X.env=pure none:=by rfl)
  (o:(assignEach [tg] X.env).map (·.2)=[assign tg X.env]:=by rfl):PS X (.Assign [tg] e pos) (lO b g):=by
 intro a s c H D I h;refine wpAny_Assign_stores (thn (j a s c H _ I h) λv m k=>?_) hs l;obtain⟨x,d,i,p,f⟩:=k;rw[o];exact thn (n a m c d x v _ i p f) λ_ r q=>q
theorem tF{i:Nat}{x:Str}(k:X.N.Nodup)(n:X.N[i]?=some x)(j:Loc X.env.scope x)(f:PE X e te)(hs:swapsWith e (some (.Name x pos')) pos.line X.env=pure false:=by rfl)(m:X.fn x=true\/X.env.scope.names.lookup x=some .local:=by first|exact .inl rfl|exact .inr rfl|assumption):
  PS X (.Assign [.Name x pos'] e pos) (lO te (gE i)):=by
 intro a s l H D I h;refine wpAny_Assign_Name (thn (f a s l H _ I h) λv q g=>?_) hs;obtain⟨y,b,d,o,c⟩:=g;exact bJ d k n j o (λr p=>⟨_,b,p,c⟩) m
def Hm(i j:Nat)(d:TA):TS:=λD a H=>d a H λc b=>∃v w,c=[v,w]/\D.nx ((a.set i (some v)).set j (some w)) b
theorem Bp{i j:Nat}{x y:Str}{m u d}(M:X.calm=true)(F:X.N.Nodup)(hi:X.N[i]?=some x)(T:X.N[j]?=some y)(t:i≠j)
  (C:X.env.scope.names.lookup x=some .local) (L:X.env.scope.names.lookup y=some .local) (ha:PA X [a,b] ta)
  (U:swappedStores [.Tuple [.Name x px,.Name y py] m pt] (.Tuple [a,b] u d) X.env=pure (some [x,y]))
  (hs:swapsWithSole [.Tuple [.Name x px,.Name y py] m pt] (.Tuple [a,b] u d) pos.line X.env=pure false:=by rfl):
  PS X (.Assign [.Tuple [.Name x px,.Name y py] m pt] (.Tuple [a,b] u d) pos) (Hm i j ta):=by
 intro c s J H D I h;rw[exec_Assign_arm];refine ac3 (adj ?_);rw[hs];refine ac3 (ac4 ?_);rw[if_neg (by decide)];refine ac3 (Tuple_ (thn (ha _ c s J H _ I h) λO k S=>?_));obtain⟨vs,z,P,r1,l⟩:=S;obtain⟨v,w,e1,l⟩:=l;subst e1;obtain⟨f,g,rfl,Z,n⟩:∃f g,O=[f,g]/\RelV v f/\RelV w g:=by
  cases r1 with
  |cons p q=>
   cases q with
   |cons Q W=>cases W;exact⟨_,_,rfl,p,Q⟩
 refine adc ?_ (by show 2<=sizeLine;decide);have I2:Inv X c J z { k with heap:=k.heap.push { cls:=.type "tuple",data:=.seq [f,g].toArray } }:=P.kept λb o e=>ac6 _ e;rw[U];refine ac3 (ac4 ?_);show wpAny (model X.prog X.w) X.A (do rule "assign.swapped-stores";let items <-unpackItems (.ref k.heap.objs.size) 2 none;assignInOrder [λv=>bindName X.env y v,λv=>bindName X.env x v] items.reverse;pure Flow.next) _ _ _;refine ac3 (adk (ac3 (unpackItems_tuple (items:=#[f,g]) (I.ok.hd M) (IsTup.new k.heap _) λh' r=>?_)));have Y:=I2.kept (t':=k.toks) λb o e=>r b o (aar (ac5 e)) e;show wpAny _ _ (assignInOrder [λv=>bindName X.env y v,λv=>bindName X.env x v] [g,f] >>= λ_=>pure Flow.next) _ _ _;refine ac3 (adr (adv (bJ Y F T (.inl L) n (λs2 I4=>?_) (.inr L))));refine adr (adv (bJ I4 F hi (.inl C) Z (λs3 B=>assignInOrder_nil (ac4 ?_)) (.inr C)));rw[abN _ _ (aaE t)]at B;exact⟨_,z,B,l⟩
def Hn(i:Nat)(d:TE)(b:TIp):TS:=λD a H=>∃x,a[i]?=some (some x)/\d a H λy c=>b x y c λz e=>D.nx (a.set i (some z)) e
theorem Bq{i:Nat}{x:Str}{f:Pos}(W:X.N.Nodup)(B:X.N[i]?=some x)(o:Loc X.env.scope x)(P:PE X e te)(ho:GS X op ti)(Z:X.fn x=true\/X.env.scope.names.lookup x=some .local:=by first|exact .inl rfl|exact .inr rfl|assumption):
  PS X (.AugAssign (.Name x f) op e pos) (Hn i te ti):=by
 intro a s t H D I h;obtain⟨v,e1,h⟩:=h;obtain⟨m,Y,Q⟩:=I.loc;have p:Vis X.env.scope x:=by rcases o with k|k;exact .inl k;exact .inr (.inl k)
 obtain⟨u,r,l⟩:=Q i x v B e1 p;refine wpAny_AugAssign_Name ?_;have q:wpAny (model X.prog X.w) X.A (eval e X.env) (λw g=>wpAny (model X.prog X.w) X.A (inplaceOp op u w) (λr j=>wpAny (model X.prog X.w) X.A (storeName X.env x r) (λ_=>SP X a D .next) X.xe j) X.xe g) X.xe s:=by refine thn (P a s t H _ I h) λw T n=>?_;obtain⟨y,C,O,r1,M⟩:=n;refine thn (ho a T t C v y u w _ O r r1 M) λz s2 n=>?_;obtain⟨zv,S,I2,L,q2⟩:=n;exact bJ I2 W B o L (λs3 U=>⟨_,S,U,q2⟩) Z
 rcases l with ⟨b,F⟩|⟨b,c,J,d⟩
 ·exact wpAny_loadName_local I.ok.kind b Y F q
 ·rcases b with b|b
  ·exact wpAny_loadName_cell I.ok.kind b J d q
  ·rcases o with k|k
   ·have:X.env.scope.names.lookup x=some .free:=b;rw[k]at this;cases this
   ·have:X.env.scope.names.lookup x=some .free:=b;rw[k]at this;cases this
def Ho(f:Int->Int->Int):TIp:=λx y H Q=>∃i j,x=.int i/\y=.int j/\Q (.int (f i j)) H
def Br:GS X .Add (Ho λi j=>i+j):=by intro a s g H x y v u Q I d b h;obtain⟨i,j,e,c,q⟩:=h;subst e;subst c;obtain⟨t,rfl⟩:=d;obtain⟨f,rfl⟩:=b;exact iadd_int ⟨.int _,H,I.tok _,⟨_,rfl⟩,q⟩
def Bt:GS X .Sub (Ho λi j=>i-j):=by intro a s g H x y v u Q I d b h;obtain⟨i,j,e,c,q⟩:=h;subst e;subst c;obtain⟨t,rfl⟩:=d;obtain⟨f,rfl⟩:=b;exact isub_int ⟨.int _,H,I.tok _,⟨_,rfl⟩,q⟩
end
structure It where
 go:Nat->Hp->Prop
 yld:Nat->Hp->V->Hp->Prop
 stop:Nat->Hp->Prop
def FpOk(X:Cx)(a:List (Addr×Obj))(H:Hp)(b:Addr):Prop:=
 H b=none/\b≠X.env.locals/\b ∉ X.fs/\(b∈X.ex\/X.s₀.heap.objs.size<=b)/\(∀x c,X.env.cells.lookup x=some c->c≠b)/\∀p∈X.pn++a,p.1≠b
theorem Inv.ua(I:Inv X pins σ H s)(a:s.heap.objs.size<=b)(f:H' b=none):FpOk X pins H' b:=by
 refine⟨f,aaN (aay I.lt a),I.nofs a,.inr (aax I.sz a),λx c e z=>?_,λp d z=>?_⟩
 ·obtain⟨v,q⟩:=I.cell x c e;exact absurd (aay q.lt (by rw[z];exact a)) (aaR _)
 ·exact absurd (aay (ac5 (I.pin p d).1) (by rw[z];exact a)) (aaR _)
structure Turn (P:Program)(w:World)(K:Waa)(tg:Expr)(J:It)(fp:List Addr)(it:Addr)(tn:Nat->Heap->Prop):Prop where
 mem:it∈fp
 obj:∀i h,tn i h->∀b∈fp,∃o,h.get? b=some o/\∀v,o.data≠.cell v
 keep:∀i h h',tn i h->(∀b∈fp,∀o,h.get? b=some o->h'.get? b=some o)->tn i h'
 item:∀(X:Cx),X.prog=P->X.w=w->X.K=K->X.calm=true->∀(i:Nat) (pins:List (Addr×Obj)) (s:Shared) (σ:St) (H:Hp) (E:Value->Shared->Prop),Inv X pins σ H s->(∀b∈fp,FpOk X pins H b)->tn i s.heap->J.go i H ->
  wpAny (model P w) X.A (pyNext (.ref it)) (λr s1=>∃u,r=some u /\
   wpAny (model P w) X.A (letOwnedTupleGo tg (.ref it) u) (λ_ s2=>∃x H',Inv X pins σ H' s2/\RelV x u/\J.yld i H x H'/\tn (i+1) s2.heap/\∀b∈fp,H' b=none) E s1) E s
 done:∀(X:Cx),X.prog=P->X.w=w->X.K=K->X.calm=true->∀(i:Nat) (pins:List (Addr×Obj)) (s:Shared) (σ:St) (H:Hp) (E:Value->Shared->Prop),Inv X pins σ H s->(∀b∈fp,FpOk X pins H b)->tn i s.heap->J.stop i H ->
  wpAny (model P w) X.A (pyNext (.ref it)) (λr s1=>r=none/\Inv X pins σ H s1) E s
 self:∀(A:Around) (i:Nat) (s:Shared) (Q:Value->Shared->Prop) (E:Value->Shared->Prop),tn i s.heap->Q (.ref it) s->wpAny (model P w) A (pyIter (.ref it)) Q E s
abbrev TI:=St->Hp->(It->Hp->Prop)->Prop
def Jc(X:Cx)(a:List (Addr×Obj))(σ:St)(tg:Expr)(R:It->Hp->Prop)(d:Value)(h:Shared):Prop:=
 ∃(g:Addr) (f:List Addr) (e:Nat->Heap->Prop) (J:It) (c:Hp),d=.ref g/\Inv X a σ c h/\Turn X.prog X.w X.K tg J f g e/\e 0 h.heap/\(∀b∈f,FpOk X a c b)/\R J c
def PI(X:Cx)(tg b:Expr)(d:TI):Prop:=
 ∀(a:List (Addr×Obj)) (s:Shared) (c:St) (H:Hp) (R:It->Hp->Prop),Inv X a c H s->d c H R ->
  wpAny (model X.prog X.w) X.A (eval b X.env) (λv e=>wpAny (model X.prog X.w) X.A (pyIter v) (Jc X a c tg R) X.xe e) X.xe s
theorem tG(d:s.heap.get? it=some o)(b:o.cls=.type n)(c:o.data=.fields vs)
  (e:["enumerate","zip","dict_itemiterator","dict_reverseitemiterator","odict_iterator","itertools.zip_longest","itertools.pairwise"].contains n=false) (a:Q () s):wpAny M A (letOwnedTupleGo tg (.ref it) u) Q E s:=by
 unfold letOwnedTupleGo;cases tg<;>first
  |exact ac4 a
  | (cases u<;>first
    |exact ac4 a
    | (refine ac3 (wpAny_load d ?_)
       rw[b,c];show wpAny M A (if (["enumerate","zip","dict_itemiterator","dict_reverseitemiterator","odict_iterator","itertools.zip_longest","itertools.pairwise"].contains n&&vs[0]?==some (rawInt _))=true then _ else _) Q E s;rw[if_neg (by intro h;rw[e,Bool.false_and]at h;cases h)];exact ac4 a))
def GT(K:Waa)(a:Addr):It:=
 ⟨λi H=>∃b x,SqL K H a b/\b[i]?=some x,λi H x c=>c=H/\∀b,SqL K H a b->b[i]?=some x,λi H=>∃b,SqL K H a b/\b.length<=i⟩
def Hq(K:Waa)(a:Addr):It:=
 ⟨λi H=>∃b x,SqT K H a b/\b[i]?=some x,λi H x c=>c=H/\∀b,SqT K H a b->b[i]?=some x,λi H=>∃b,SqT K H a b/\b.length<=i⟩
def GU(lo:Int)(n:Nat):It:=⟨λi _=>i<n,λi H x a=>a=H/\x=.int (lo+i),λi _=>n<=i⟩
theorem rB{K:Waa}(a it:Addr):Turn P w K tg (GT K a) [it] it (λi h=>h.IsListIter it a i) where
 mem:=by simp
 obj:=λi h f b j=>by
  have e:b=it:=by simpa using j
  subst e;obtain⟨o,e,c,d⟩:=f;exact⟨o,e,λv z=>by rw[d]at z;cases z⟩
 keep:=λi h A f k=>f.at λo e=>k it (by simp) o e
 item:=by intro X y B t O i g s Q H E I n f F;subst y B t;obtain⟨Y,x,m,D⟩:=F;obtain⟨N,L,p,hz⟩:=I.list m;obtain⟨u,S,ru⟩:=L.get D;obtain⟨M,C,U,J,q,r⟩:=n it (by simp);refine wpAny_pyNext_list_item f p.isList (by simpa using S) λA l W=>?_;have T:Inv X g Q H { s with heap:=A }:=I.turned (λb o j e=>(W.2 b j).trans e) M C J q r;obtain⟨o,e,c,d⟩:=id l;exact⟨u,rfl,tG e c d (by decide) ⟨x,H,T,ru,⟨rfl,λys hy=>by rw[I.ro hy m];exact D⟩,l,λb j=>(n b j).1⟩⟩
 done:=by
  intro X y B t O i g s Q H E I n f F;subst y B t;obtain⟨Y,m,D⟩:=F;obtain⟨N,L,p,hz⟩:=I.list m;obtain⟨M,C,U,J,q,r⟩:=n it (by simp);have hl:=L.length;exact wpAny_pyNext_list_end (I.ok.hd O) f p.isList (by simp;omega) λA Z=>⟨rfl,I.turned (λb o j e=>Z b o j e) M C J q r⟩
 self:=λ_ _ _ _ _ f h=>wpAny_pyIter_listiter f h
theorem nH{K:Waa}(a it:Addr):Turn P w K tg (Hq K a) [it] it (λi h=>h.IsTupleIter it a i) where
 mem:=by simp
 obj:=λi h f b j=>by
  have e:b=it:=by simpa using j
  subst e;obtain⟨o,e,c,d⟩:=f;exact⟨o,e,λv z=>by rw[d]at z;cases z⟩
 keep:=λi h B f k=>f.at λo e=>k it (by simp) o e
 item:=by intro X A C y O i g s Q H E I q f J;subst A C y;obtain⟨Y,x,n,F⟩:=J;obtain⟨l,M,p,hz⟩:=I.tuple n;obtain⟨u,S,ru⟩:=M.get F;obtain⟨N,D,U,L,r,t⟩:=q it (by simp);refine wpAny_pyNext_tuple_item f (show s.heap.IsTuple a l.toArray from p) (by simpa using S) λB m W=>?_;have T:Inv X g Q H { s with heap:=B }:=I.turned (λb o j e=>(W.2 b j).trans e) N D L r t;obtain⟨o,e,c,d⟩:=id m;exact⟨u,rfl,tG e c d (by decide) ⟨x,H,T,ru,⟨rfl,λys hy=>by rw[I.ub hy n];exact F⟩,m,λb j=>(q b j).1⟩⟩
 done:=by
  intro X A C y O i g s Q H E I q f J;subst A C y;obtain⟨Y,n,F⟩:=J;obtain⟨l,M,p,hz⟩:=I.tuple n;obtain⟨N,D,U,L,r,t⟩:=q it (by simp);have hl:=M.length;exact wpAny_pyNext_tuple_end (I.ok.hd O) f (show s.heap.IsTuple a l.toArray from p) (by simp;omega) λB Z=>⟨rfl,I.turned (λb o j e=>Z b o j e) N D L r t⟩
 self:=λ_ _ _ _ _ f h=>wpAny_pyIter_tupleiter f h
theorem nI{K:Waa}(it:Addr)(lo:Int)(n:Nat):Turn P w K tg (GU lo n) [it] it (λi h=>IsRangeIter h it (lo+(i:Nat)*1) ((n:Int)-(i:Nat)) 1) where
 mem:=by simp
 obj:=λi h a b d=>by
  have e:b=it:=by simpa using d
  subst e;exact⟨_,a,λv z=>by
   have O:Data.fields _=Data.cell v:=z;cases O⟩
 keep:=λi h r a k=>k it (by simp) _ a
 item:=by intro X q u p j i c s C H E I g a y;subst q u p;obtain⟨B,x,F,A,l,m⟩:=g it (by simp);have W:=Walks.range (prog:=X.prog) (w:=X.w) (I.ok.hd j) it lo 1 n;refine W.item i s _ _ y a λv r L N f J=>?_;obtain⟨t,rfl⟩:=N;have D:Inv X c C H { s with heap:=r,toks:=L }:=I.turned (λb o d e=>J b o (by simpa using d) e) B x A l m;refine⟨_,rfl,tG f rfl rfl (by decide) ⟨.int (lo+i),H,D,⟨t,?_⟩,⟨rfl,rfl⟩,f,λb d=>(g b d).1⟩⟩;rw[Int.mul_one]
 done:=by
  intro X q u p j i c s C H E I g a y;subst q u p;obtain⟨B,x,F,A,l,m⟩:=g it (by simp);exact wpAny_pyNext_range_end (I.ok.hd j) a (by have:n<=i:=y;omega) λr M=>⟨rfl,I.turned (λb o d e=>M b o d e) B x A l m⟩
 self:=λ_ _ _ _ _ a h=>wpAny_pyIter_rangeiter a h
end
section
section
variable{X:Cx}{tg:Expr}
def Et(K:Waa)(d:TE):TI:=λc H R=>d c H λx b=>∃a,x=.ref a/\(∃e,SqL K b a e)/\R (GT K a) b
def Hr(K:Waa)(d:TE):TI:=λc H R=>d c H λx b=>∃a,x=.ref a/\(∃e,SqT K b a e)/\R (Hq K a) b
theorem oZ{l:Expr}{g:TE}(n:PE X l g):PI X tg l (Et X.K g):=by
 intro c s t H R I h;refine thn (n c s t H _ I h) λv f m=>?_;obtain⟨x,i,d,u,j⟩:=m;obtain⟨a,e,⟨y,r⟩,q⟩:=j;subst e;cases u;obtain⟨w,A,p,z⟩:=d.list r;refine adA p.isList ?_;refine⟨f.heap.objs.size,[f.heap.objs.size],_,_,i,rfl,d.kept (t':=f.toks) λb o e=>ac6 _ e,rB a _,⟨_,ac7 _ rfl,rfl,rfl⟩,λb k=>?_,q⟩;have e:b=f.heap.objs.size:=by simpa using k
 subst e;exact d.ua (aae _) (d.hok.fresh (aae _))
theorem Bu{l:Expr}{i:TE}(r:PE X l i):PI X tg l (Hr X.K i):=by
 intro c s u H R I h;refine thn (r c s u H _ I h) λv d n=>?_;obtain⟨x,j,f,w,k⟩:=n;obtain⟨a,e,⟨y,t⟩,q⟩:=k;subst e;cases w;obtain⟨g,A,p,z⟩:=f.tuple t;refine adL (show d.heap.IsTuple a g.toArray from p) ?_;refine⟨d.heap.objs.size,[d.heap.objs.size],_,_,j,rfl,f.kept (t':=d.toks) λb o e=>ac6 _ e,nH a _,⟨_,ac7 _ rfl,rfl,rfl⟩,λb m=>?_,q⟩;have e:b=d.heap.objs.size:=by simpa using m
 subst e;exact f.ua (aae _) (f.hok.fresh (aae _))
theorem tH{R:It->Hp->Prop}{a c:Int}{t u v:Tok}{f:Nat}(I:Inv X pins σ H s)(l:-(2^62)<=a)(k:a<2^62)(h:-(2^62)<=c)(i:c<2^62)
  (q:R (GU a (c-a).toNat) H):wpAny (model X.prog X.w) X.A (pyIter (.ref s.heap.objs.size)) (Jc X pins σ tg R) E { s with heap:=s.heap.push { cls:=.type "range",data:=.fields #[.int a t,.int c u,.int 1 v] },toks:=f }:=by
 refine wpAny_pyIter_range (IsRange.new ..) (small_one l k h i) ?_;have d:Inv X pins σ H { s with heap:=s.heap.push { cls:=.type "range",data:=.fields #[.int a t,.int c u,.int 1 v] },toks:=f }:=I.kept λb o e=>ac6 _ e;refine⟨(s.heap.push { cls:=.type "range",data:=.fields #[.int a t,.int c u,.int 1 v] }).objs.size,[(s.heap.push { cls:=.type "range",data:=.fields #[.int a t,.int c u,.int 1 v] }).objs.size],_,_,H,rfl,
  d.kept λb o e=>ac6 _ e,nI _ a (c-a).toNat,?_,λb g=>?_,q⟩
 ·have m:a+((0:Nat):Int)*1=a:=by simp
  have j:(((c-a).toNat:Nat):Int)-((0:Nat):Int)=Builtin.Range.rangeSize a c 1:=by rw[rangeSize_one];split<;>omega
  show IsRangeIter _ _ (a+((0:Nat):Int)*1) ((((c-a).toNat:Nat):Int)-((0:Nat):Int)) 1;rw[m,j];exact ac7 _ rfl
 ·have e:b=(s.heap.push { cls:=.type "range",data:=.fields #[.int a t,.int c u,.int 1 v] }).objs.size:=by simpa using g
  subst e;exact d.ua (aae _) (d.hok.fresh (aae _))
def Eu(d:TA):TI:=λa H R=>d a H λc b=>∃j:Int,c=[.int j]/\-(2^62)<=j/\j<2^62/\R (GU 0 j.toNat) b
theorem rC{a:Expr}{d:TA}{p pos:Pos} (l:Gl X "range") (g:X.mg "range"=none) (u:PA X [a] d) (hs:starEach [a] X.env=[(false,eval a X.env)]:=by rfl):PI X tg (.Call (.Name "range" p) [a] [] pos) (Eu d):=by
 intro b s m H R I h;refine Call_ (dA I l g boot_range (abo (thn (u pos b s m H _ I h) λw x k=>?_) hs rfl));obtain⟨y,v,i,o,c⟩:=k;obtain⟨j,e,c,n,q⟩:=c;subst e;cases o with
 |cons r f=>cases f;obtain⟨t,rfl⟩:=r;exact call_range_1 (tH i (by omega) (by omega) c n (by simpa using q))
def Hs(h:TI)(g:TG)(j:TS):TS:=λD a H=>h a H λJ f=>∃W:Nat->Nat->St->Hp->Prop,(∃m,W 0 m a f)/\∀i m a H,W i m a H ->
 (J.stop i H/\D.nx a H)\/(J.go i H/\∃N:St->Hp->Prop,(∀b c,N b c->∃e,e<m/\W (i+1) e b c)/\∀x c,J.yld i H x c->g x a c λd k=>j { D with nx:=N,ct:=N,bk:=D.nx } d k)
def pinsAt(a:List Addr)(h:Heap):List (Addr×Obj):=a.filterMap λb=>(h.get? b).map λo=>(b,o)
def eR(a:b∈fp)(e:h.get? b=some o):(b,o)∈pinsAt fp h:=List.mem_filterMap.mpr ⟨b,a,by rw[e];rfl⟩
def rD(a:p∈pinsAt fp h):p.1∈fp/\h.get? p.1=some p.2:=by
 obtain⟨b,d,e⟩:=List.mem_filterMap.mp a;cases q:h.get? b with
 |none=>rw[q]at e;cases e
 |some o=>rw[q]at e;have c:(b,o)=p:=aaC e;subst c;exact⟨d,q⟩
theorem Inv.pinned(I:Inv X pins σ H s)(h:∀b∈fp,FpOk X pins H b)(j:∀b∈fp,∃o,s.heap.get? b=some o/\∀v,o.data≠.cell v):Inv X (pins++pinsAt fp s.heap) σ H s:=
 I.t6 λp g=>(aaj.mp g).elim (λz=>I.pin p (aag _ z)) λz=>by obtain⟨a,e⟩:=rD z;obtain⟨f,i,k,_⟩:=h p.1 a;obtain⟨o,c,d⟩:=j p.1 a;rw[e]at c;cases c;exact⟨e,f,i,k,d⟩
theorem Inv.j1(I:Inv X (pins++pl) σ H s):Inv X pins σ H s:=I.t6 λp a=>I.pin p (aag _ (aaf _ a))
theorem Bv{p:Expr}{F:List Stmt}{pos:Pos}(S:PassesOwn (model X.prog X.w) X.A X.env X.xe)(hc:X.calm=true)(hi:PI X tg p wi)(hg:PG X tg g)(k:PSs X F tb)
  (hs:∀x,foldedSetIterable p X.env x=pure x:=by intro _;rfl):PS X (.For tg p F [] pos) (Hs wi g tb):=by
 intro a s σ H D I h;refine wpAny_For (thn (hi a s σ H _ I h) λv s1 h1=>thn h1 λa5 s2 h2=>?_) hs;obtain⟨it,U,tn,J,H2,e,I2,T,a4,f2,W,⟨m0,w0⟩,a0⟩:=h2;subst e;have y:∀{B:Hp},(∀b∈U,B b=none)->∀b∈U,FpOk X a B b:=λhn b k=>⟨hn b k,(f2 b k).2⟩
 refine codeAny_forLoop_any (λn s'=>∃i j B,Inv X a j B s'/\tn i s'.heap/\(∀b∈U,B b=none)/\W i n j B) ?_ m0 ⟨0,σ,H2,I2,a4,λb k=>(f2 b k).1,w0⟩;rintro n s3 ⟨i,z,H3,I3,Z,P,w3⟩;rcases a0 i n z H3 w3 with ⟨Q,qn⟩|⟨go,N,hN,Y⟩
 ·refine adw S (thn (T.done X rfl rfl rfl hc i a s3 z H3 X.xe I3 (y P) Z Q) λr s4 M=>?_);obtain⟨hr,I4⟩:=M;subst hr;exact wpAny_execs_nil ⟨z,H3,I4,qn⟩
 ·refine adw S (thn (T.item X rfl rfl rfl hc i a s3 z H3 X.xe I3 (y P) Z go) λr s4 M=>?_);obtain⟨u,hr,h4⟩:=M;subst hr;refine adw S (thn h4 λ_ s5 M=>?_);obtain⟨x,H5,I5,r5,y5,L,a2⟩:=M;have a3:=I5.pinned (y a2) (T.obj _ _ L);refine adw S (thn (hg _ s5 z H5 x u _ a3 r5 (Y x H5 y5)) λ_ s6 M=>?_);obtain⟨a1,H6,I6,q6⟩:=M;refine adw S (thn (k _ s6 a1 H6 _ I6 q6) λf s7 C=>?_);have q:∀{c:St}{l:Hp},Inv X (a++pinsAt U s5.heap) c l s7->N c l->∃m,m<n/\∃i j B,Inv X a j B s7/\tn i s7.heap/\(∀b∈U,B b=none)/\W i m j B:=λ{c l} t O=>by obtain⟨m',hm,w7⟩:=hN c l O;refine⟨m',hm,i+1,c,l,t.j1,T.keep _ _ _ L λb k o e=>(t.pin (b,o) (aag _ (aag _ (eR k e)))).1,λb k=>?_,w7⟩;obtain⟨o,e,d⟩:=T.obj _ _ L b k;exact(t.pin (b,o) (aag _ (aag _ (eR k e)))).2.1
  cases f with
  |next=>obtain⟨c,l,t,O⟩:=C;exact q t O
  |cont=>obtain⟨c,l,t,O⟩:=C;exact q t O
  |brk=>obtain⟨c,l,t,C⟩:=C;exact⟨c,l,t.j1,C⟩
  |ret v=>obtain⟨x7,c,l,t,r7,C⟩:=C;exact⟨x7,c,l,t.j1,r7,C⟩
end
end
section
abbrev R2:=V->V->Hp->VK->Prop
def OpR(X:Cx)(f:Value->Value->Sem Value)(r:R2):Prop:=
 ∀(a:List (Addr×Obj)) (s:Shared) (b:St) (H:Hp) (x y:V) (v u:Value) (Q:VK),Inv X a b H s->RelV x v->RelV y u->r x y H Q ->
  wpAny (model X.prog X.w) X.A (f v u) (EP X a b Q) X.xe s
def Ht(X:Cx)(f:Value->Sem Value)(r:V->Hp->VK->Prop):Prop:=
 ∀(a:List (Addr×Obj)) (s:Shared) (b:St) (H:Hp) (x:V) (v:Value) (Q:VK),Inv X a b H s->RelV x v->r x H Q ->
  wpAny (model X.prog X.w) X.A (f v) (EP X a b Q) X.xe s
def bW(X:Cx)(f:Value)(r:List V->Hp->VK->Prop):Prop:=
 ∀(a:List (Addr×Obj)) (s:Shared) (b:St) (H:Hp) (c:List V) (d:List Value) (Q:VK),Inv X a b H s->Vals c d->r c H Q ->
  wpAny (model X.prog X.w) X.A (call f d) (EP X a b Q) X.xe s
def Hu(X:Cx)(r:V->Hp->(Bool->Hp->Prop)->Prop):Prop:=
 ∀(a:List (Addr×Obj)) (s:Shared) (b:St) (H:Hp) (x:V) (v:Value) (Q:Bool->Hp->Prop),Inv X a b H s->RelV x v->r x H Q ->
  wpAny (model X.prog X.w) X.A (truthy v) (TP X a b Q) X.xe s
def Bw(r:R2)(c d:TE):TE:=λa H Q=>c a H λx b=>d a b λy e=>r x y e Q
def JI(r:V->Hp->VK->Prop)(c:TE):TE:=λa H Q=>c a H λx b=>r x b Q
def rI(C:Int->Int->Prop)(g:Int->Int->V):R2:=λx y H Q=>∃i j,x=.int i/\y=.int j/\C i j/\Q (g i j) H
def xF(g:Int->Int->V):R2:=λx y H Q=>∃i j,x=.int i/\y=.int j/\Q (g i j) H
def rU(g:Int->V):V->Hp->VK->Prop:=λx H Q=>∃i,x=.int i/\Q (g i) H
section
variable{X:Cx}{a b c:Expr}{ta tb tc:TE}{pos:Pos}
theorem By(B:PE X a ta)(p:PE X b tb){d:List (Addr×Obj)}{s:Shared}{R:V->V->Hp->Prop}(I:Inv X d σ H s)
  (h:ta σ H λx k=>tb σ k λy e=>R x y e) {f:Value->Value->Sem Value}
  (r:∀v u j x y e,Inv X d σ e j->RelV x v->RelV y u->R x y e->wpAny (model X.prog X.w) X.A (f v u) Q X.xe j):
  wpAny (model X.prog X.w) X.A (eval a X.env) (λv i=>wpAny (model X.prog X.w) X.A (eval b X.env) (λu g=>wpAny (model X.prog X.w) X.A (f v u) Q X.xe g) X.xe i) X.xe s:=by
 refine thn (B d s σ H _ I h) λv q l=>?_;obtain⟨x,k,o,z,n⟩:=l;refine thn (p d q σ k _ o n) λu j l=>?_;obtain⟨y,e,C,m,t⟩:=l;exact r v u j x y e C z m t
def Af(l:OpR X (binaryOp op) r)(m:PE X a ta)(f:PE X b tb):PE X (.BinOp a op b pos) (Bw r ta tb):=by intro d s i H Q I h;exact wpAny_BinOp (By m f I h λv u j x y g n e k q=>l d j i g x y v u Q n e k q)
def Ag{f:UnaryOp}(l:Ht X (unaryOp f) r)(m:PE X a ta):PE X (.UnaryOp f a pos) (JI r ta):=by intro d s e H Q I h;exact UnaryOp_ (thn (m d s e H _ I h) λv n ⟨x,i,g,k,j⟩=>l d n e i x v Q g k j)
theorem GV{f:Value->Value->Sem Value}{g:Int->Int->Int}
  (rule:∀(i j:Int) (t u:Tok) (s:Shared) (Q:Value->Shared->Prop) (E:Value->Shared->Prop),C i j->Q (.int (g i j) s.toks) { s with toks:=s.toks+1 }->wpAny (model X.prog X.w) X.A (f (.int i t) (.int j u)) Q E s):
  OpR X f (rI C λi j=>.int (g i j)):=by
 intro d s n H x y v u Q I k m h;obtain⟨i,j,rfl,rfl,e,q⟩:=h;obtain⟨t,rfl⟩:=k;obtain⟨l,rfl⟩:=m;exact rule i j t l s _ _ e ⟨.int (g i j),H,I.tok _,⟨_,rfl⟩,q⟩
theorem Ew{f:Value->Value->Sem Value}{g:Int->Int->Int}
  (rule:∀(i j:Int) (t u:Tok) (s:Shared) (Q:Value->Shared->Prop) (E:Value->Shared->Prop),Q (.int (g i j) s.toks) { s with toks:=s.toks+1 }->wpAny (model X.prog X.w) X.A (f (.int i t) (.int j u)) Q E s):
  OpR X f (xF λi j=>.int (g i j)):=by
 intro d s m H x y v u Q I e l h;obtain⟨i,j,rfl,rfl,q⟩:=h;obtain⟨t,rfl⟩:=e;obtain⟨k,rfl⟩:=l;exact rule i j t k s _ _ ⟨.int (g i j),H,I.tok _,⟨_,rfl⟩,q⟩
theorem xQ{g:Int->Int->Bool}
  (rule:∀(i j:Int) (t u:Tok) (s:Shared) (Q:Value->Shared->Prop) (E:Value->Shared->Prop),Q (.bool (g i j)) s->wpAny (model X.prog X.w) X.A (f (.int i t) (.int j u)) Q E s):
  OpR X f (xF λi j=>.bl (g i j)):=by
 intro d s m H x y v u Q I e l h;obtain⟨i,j,rfl,rfl,q⟩:=h;obtain⟨t,rfl⟩:=e;obtain⟨k,rfl⟩:=l;exact rule i j t k s _ _ ⟨.bl (g i j),H,I,rfl,q⟩
def Hv(i j:Int):Prop:=0<j/\j<1073741824
def Hw(i j:Int):Prop:=0<=j/\j<=1000000/\i.natAbs<2^64
def CMul(i j:Int):Prop:=(-(2^64)<i/\i<2^64)\/(-(2^64)<j/\j<2^64)
def CMul.ok{i j:Int}(h:CMul i j):IntMulOk i j:=by
 rcases h with ⟨d,e⟩|⟨d,e⟩
 ·exact .of_left (intBits_le_64 d e)
 ·exact .of_right (intBits_le_64 d e)
def Bz:OpR X (binaryOp .Add) (xF λi j=>.int (i+j)):=Ew λ_ _ _ _ _ _ _ q=>add_int q
def BA:OpR X (binaryOp .Sub) (xF λi j=>.int (i-j)):=Ew λ_ _ _ _ _ _ _ q=>sub_int q
def BB:OpR X (binaryOp .Mult) (rI CMul λi j=>.int (i*j)):=GV λ_ _ _ _ _ _ _ d q=>mul_int q d.ok
def xR:OpR X (binaryOp .FloorDiv) (rI Hv λi j=>.int (i/j)):=GV λi j _ _ _ _ _ d q=>by have e:(0:Int)<j:=d.1;have f:j<1073741824:=d.2;exact floordiv_int (by omega) (by rw[Int.fdiv_eq_ediv_of_nonneg i (by omega)];exact q) (.inl (PyProof.noPylong_small (by omega)))
def BC:OpR X (binaryOp .Mod) (rI (λ_ j=>0<j) λi j=>.int (i%j)):=GV λi j _ _ _ _ _ d q=>by have e:(0:Int)<j:=d;exact mod_int' (by omega) (by rw[Int.fmod_eq_emod_of_nonneg i (by omega)];exact q)
def BD:OpR X (binaryOp .Pow) (rI Hw λi j=>.int (i^j.toNat)):=GV λ_ _ _ _ _ _ _ d q=>pow_int_small d.1 d.2.1 d.2.2 q
theorem unI{f:Value->Sem Value}{g:Int->Int}
  (rule:∀(i:Int) (t:Tok) (s:Shared) (Q:Value->Shared->Prop) (E:Value->Shared->Prop),Q (.int (g i) s.toks) { s with toks:=s.toks+1 }->wpAny (model X.prog X.w) X.A (f (.int i t)) Q E s):
  Ht X f (rU λi=>.int (g i)):=by
 intro d s j H x v Q I e h;obtain⟨i,rfl,q⟩:=h;obtain⟨t,rfl⟩:=e;exact rule i t s _ _ ⟨.int (g i),H,I.tok _,⟨_,rfl⟩,q⟩
def tI:Ht X (unaryOp .USub) (rU λi=>.int (-i)):=unI λ_ _ _ _ _ q=>neg_int q
end
def BE:V->V->Bool
 |.non,.non=>true|.non,.int _=>true|.int _,.non=>true|.non,.bl _=>true|.bl _,.non=>true|.non,.str _=>true|.str _,.non=>true
 |.int _,.int _=>true|.bl _,.bl _=>true|.str _,.str _=>true|.byt _,.byt _=>true
 |.int _,.str _=>true|.str _,.int _=>true|.bl _,.str _=>true|.str _,.bl _=>true
 |_,_=>false
def rEq:R2:=λx y H Q=>BE x y=true/\Q (.bl (decide (x=y))) H
def rNe:R2:=λx y H Q=>BE x y=true/\Q (.bl (!decide (x=y))) H
def pb:decide (V.int i=V.int j)=(i==j):=by rw[abO];simp
def tJ:decide (V.bl i=V.bl j)=(i==j):=by rw[abO];simp
def pd:decide (V.str i=V.str j)=(i==j):=by rw[abO];simp
def pe:decide (V.byt i=V.byt j)=(i.toList==j.toList):=by rw[abO];cases i;cases j;simp
section
variable{X:Cx}{a b c:Expr}{ta tb tc:TE}{pos:Pos}
def fin_bl(I:Inv X pins σ H s)(q:Q (.bl k) H)(e:k=k'):EP X pins σ Q (.bool k') s:=by subst e;exact⟨.bl k,H,I,rfl,q⟩
theorem op_eq:OpR X (compareOp .Eq) rEq:=by
 intro k s l H x y v u Q I g d h;obtain⟨f,q⟩:=h;cases x with
 |non=>
  cases g;cases y with
  |non=>cases d;exact PySem.EqNone.eq_none_none (fin_bl I q (by simp))
  |bl j=>cases d;exact PySem.EqNone.eq_none_bool (fin_bl I q (by simp))
  |int j=>obtain⟨e,rfl⟩:=d;exact PySem.EqNone.eq_none_int (fin_bl I q (by simp))
  |str j=>obtain⟨e,rfl⟩:=d;exact PySem.EqNone.eq_none_str (fin_bl I q (by simp))
  |_=>exact absurd (show false=true from f) aak
 |bl i=>
  cases g;cases y with
  |non=>cases d;exact PySem.EqNone.eq_bool_none (fin_bl I q (by simp))
  |bl j=>cases d;exact eq_bool (fin_bl I q tJ)
  |str j=>obtain⟨e,rfl⟩:=d;exact PySem.EqMixed.eq_bool_str (fin_bl I q (by simp))
  |_=>exact absurd (show false=true from f) aak
 |int i=>
  obtain⟨t,rfl⟩:=g;cases y with
  |non=>cases d;exact PySem.EqNone.eq_int_none (fin_bl I q (by simp))
  |int j=>obtain⟨e,rfl⟩:=d;exact eq_int (fin_bl I q pb)
  |str j=>obtain⟨e,rfl⟩:=d;exact PySem.EqMixed.eq_int_str (fin_bl I q (by simp))
  |_=>exact absurd (show false=true from f) aak
 |str i=>
  obtain⟨t,rfl⟩:=g;cases y with
  |non=>cases d;exact PySem.EqNone.eq_str_none (fin_bl I q (by simp))
  |bl j=>cases d;exact PySem.EqMixed.eq_str_bool (fin_bl I q (by simp))
  |int j=>obtain⟨e,rfl⟩:=d;exact PySem.EqMixed.eq_str_int (fin_bl I q (by simp))
  |str j=>obtain⟨e,rfl⟩:=d;exact eq_str (fin_bl I q pd)
  |_=>exact absurd (show false=true from f) aak
 |byt i=>
  obtain⟨t,rfl⟩:=g;cases y with
  |byt j=>obtain⟨e,rfl⟩:=d;exact PySem.W.eq_bytes (fin_bl I q pe)
  |_=>exact absurd (show false=true from f) aak
 |_=>cases y<;>exact absurd (show false=true from f) aak
theorem op_ne:OpR X (compareOp .NotEq) rNe:=by
 intro k s l H x y v u Q I g d h;obtain⟨f,q⟩:=h;cases x with
 |non=>
  cases g;cases y with
  |non=>cases d;exact PySem.EqNone.ne_none_none (fin_bl I q (by simp))
  |bl j=>cases d;exact PySem.EqNone.ne_none_bool (fin_bl I q (by simp))
  |int j=>obtain⟨e,rfl⟩:=d;exact PySem.EqNone.ne_none_int (fin_bl I q (by simp))
  |str j=>obtain⟨e,rfl⟩:=d;exact PySem.EqNone.ne_none_str (fin_bl I q (by simp))
  |_=>exact absurd (show false=true from f) aak
 |bl i=>
  cases g;cases y with
  |non=>cases d;exact PySem.EqNone.ne_bool_none (fin_bl I q (by simp))
  |bl j=>cases d;exact ne_bool (fin_bl I q (congrArg not tJ))
  |str j=>obtain⟨e,rfl⟩:=d;exact PySem.EqMixed.ne_bool_str (fin_bl I q (by simp))
  |_=>exact absurd (show false=true from f) aak
 |int i=>
  obtain⟨t,rfl⟩:=g;cases y with
  |non=>cases d;exact PySem.EqNone.ne_int_none (fin_bl I q (by simp))
  |int j=>obtain⟨e,rfl⟩:=d;exact ne_int (fin_bl I q (congrArg not pb))
  |str j=>obtain⟨e,rfl⟩:=d;exact PySem.EqMixed.ne_int_str (fin_bl I q (by simp))
  |_=>exact absurd (show false=true from f) aak
 |str i=>
  obtain⟨t,rfl⟩:=g;cases y with
  |non=>cases d;exact PySem.EqNone.ne_str_none (fin_bl I q (by simp))
  |bl j=>cases d;exact PySem.EqMixed.ne_str_bool (fin_bl I q (by simp))
  |int j=>obtain⟨e,rfl⟩:=d;exact PySem.EqMixed.ne_str_int (fin_bl I q (by simp))
  |str j=>obtain⟨e,rfl⟩:=d;exact ne_str (fin_bl I q (congrArg not pd))
  |_=>exact absurd (show false=true from f) aak
 |byt i=>
  obtain⟨t,rfl⟩:=g;cases y with
  |byt j=>obtain⟨e,rfl⟩:=d;exact PySem.W.ne_bytes (fin_bl I q (congrArg not pe))
  |_=>exact absurd (show false=true from f) aak
 |_=>cases y<;>exact absurd (show false=true from f) aak
def Ex:OpR X (compareOp .Lt) (xF λi j=>.bl (decide (i<j))):=xQ λ_ _ _ _ _ _ _ q=>lt_int q
def Ey:OpR X (compareOp .LtE) (xF λi j=>.bl (decide (i<=j))):=xQ λ_ _ _ _ _ _ _ q=>le_int q
def Ez:OpR X (compareOp .Gt) (xF λi j=>.bl (decide (j<i))):=xQ λ_ _ _ _ _ _ _ q=>gt_int q
def EA:OpR X (compareOp .GtE) (xF λi j=>.bl (decide (j<=i))):=xQ λ_ _ _ _ _ _ _ q=>ge_int q
def OpR.or(h:OpR X f r)(h':OpR X f r'):OpR X f (λx y H Q=>r x y H Q\/r' x y H Q):=by
 intro d s e H x y v u Q I g i q;rcases q with q|q
 ·exact h d s e H x y v u Q I g i q
 ·exact h' d s e H x y v u Q I g i q
def ph(m:OpR X (compareOp op) r)(n:PE X a ta)(g:PE X b tb)(e:behindInMarks op b=false):PE X (.Compare a [op] [b] pos) (Bw r ta tb):=by intro d s j H Q I h;exact wpAny_Compare1 (By n g I h λv u k x y i o f l q=>m d k j i x y v u Q o f l q) e
def tK(t:TE):TT:=λd H Q=>t d H λx e=>∃k,x=.bl k/\Q k e
theorem pj{f:CmpOp}{r:R2}(B:OpR X (compareOp f) r)(L:PE X a ta)(o:PE X b tb)(j:behindInMarks f b=false):PT X (.Compare a [f] [b] pos) (tK (Bw r ta tb)):=by
 intro d s g H Q I h;refine wpAny_isTrue_Compare1 (thn (L d s g H _ I h) λv q ⟨x,i,n,F,m⟩=>thn (o d q g i _ n m) λu C ⟨y,p,M,l,D⟩=>
  thn (B d C g p x y v u _ M F l D) λc N ⟨z,A,w,J,k,e,t⟩=>?_) j
 subst e;cases J;exact adh ⟨A,w,t⟩
def nJ(r h:R2)(ta tb tc:TE):TE:=λd H Q=>ta d H λx f=>tb d f λy j=>r x y j λz e=>∃k,z=.bl k /\
 (if k=true then tc d e λi g=>h y i g Q else Q (.bl false) e)
theorem tL{j g:CmpOp}{r n:R2}(W:OpR X (compareOp j) r)(l:OpR X (compareOp g) n)(ha:PE X a ta)(F:PE X b tb)(B:PE X c tc)
  (A:lastMarks [j,g] [b,c]=false:=by with_unfolding_all rfl):PE X (.Compare a [j,g] [b,c] pos) (nJ r n ta tb tc):=by
 intro f s i H Q I h;refine Compare_chain (thn (ha f s i H _ I h) λv O ⟨x,w,D,P,C⟩=>chain_link (thn (F f O i w _ D C) λu Y ⟨y,N,I2,m,q2⟩=>
  thn (W f Y i N x y v u _ I2 P m q2) λd M ⟨z,q,p,U,k,e,o⟩=>?_)) A
 subst e;cases U;refine adh ?_;cases k with
 |false=>exact ite_ff ⟨.bl false,q,p,rfl,o⟩
 |true=>exact ite_tt (chain_last (thn (B f M i q _ p o) λJ s4 ⟨T,L,S,Z,t⟩=>l f s4 i L y T u J Q S m Z t))
theorem tM{j g:CmpOp}{r n:R2}(ho:OpR X (compareOp j) r)(l:OpR X (compareOp g) n)(ha:PE X a ta)(L:PE X b tb)(C:PE X c tc)
  (B:lastMarks [j,g] [b,c]=false:=by with_unfolding_all rfl):PT X (.Compare a [j,g] [b,c] pos) (tK (nJ r n ta tb tc)):=by
 intro f s i H Q I h;refine isTrue_chain (thn (ha f s i H _ I h) λv W ⟨x,A,F,r1,D⟩=>test_link (thn (L f W i A _ F D) λu s2 ⟨y,U,I2,m,q2⟩=>
  thn (ho f s2 i U x y v u _ I2 r1 m q2) λd S ⟨z,q,p,r3,k,e,o⟩=>?_)) B
 subst e;cases r3;refine adh ?_;cases k with
 |false=>obtain⟨k',J,T⟩:=o;cases J;exact ite_ff ⟨q,p,T⟩
 |true=>refine ite_tt (test_last (thn (C f S i q _ p o) λM s4 ⟨z',P,I4,r4,t⟩=>thn (l f s4 i P y z' u M _ I4 m r4 t) λd' s5 O=>?_));obtain⟨z2,w,Z,Y,k2,e2,N⟩:=O;subst e2;cases Y;exact adh ⟨w,Z,N⟩
def BF(K:Waa)(x:V)(H:Hp)(k:Bool):Prop:=
 match x with
 |.non=>k=false
 |.bl b=>k=b
 |.int i=>k=(i !=0)
 |.str y=>y.length<=sizeLine/\k=((y.length:Int) !=0)
 |.byt y=>y.size<=sizeLine/\k=((y.size:Int) !=0)
 |.ref p=>(∃e,SqL K H p e/\k=!e.isEmpty)\/(∃e,SqT K H p e/\k=!e.isEmpty)\/∃d,H p=some (.dK d)/\k=!d.isEmpty
 |_=>False
def nK{e:Type}{d:List (e×V)}{vs:List (e×Value)}(r:KV d vs):(!vs.isEmpty)=!d.isEmpty:=by cases r<;>rfl
def hV{xs:List V}{d:List Value}(r:Vals xs d):(!d.toArray.isEmpty)=!xs.isEmpty:=by cases r<;>simp
def line63:(sizeLine:Nat)<2^63:=by rw[adB];decide
theorem BG:Hu X (λx H Q=>∃k,BF X.K x H k/\Q k H):=by
 intro A s J H x v Q I l h;obtain⟨k,e,q⟩:=h;have F:=line63;have L:sizeLine=16777216:=adB;cases x with
 |non=>cases l;have d:k=false:=e;subst d;exact truthy_none ⟨H,I,q⟩
 |bl b=>cases l;have d:k=b:=e;subst d;exact adh ⟨H,I,q⟩
 |int i=>obtain⟨t,rfl⟩:=l;have d:k=(i !=0):=e;subst d;exact PySem.P.truthy_int ⟨H,I,q⟩
 |str y=>obtain⟨t,rfl⟩:=l;obtain⟨D,d⟩:y.length<=sizeLine/\k=((y.length:Int) !=0):=e;subst d;exact PySem.P.truthy_str (by omega) ⟨H,I.tok _,q⟩
 |byt y=>obtain⟨t,rfl⟩:=l;obtain⟨D,d⟩:y.size<=sizeLine/\k=((y.size:Int) !=0):=e;subst d;exact PySem.W.truthy_bytes (by omega) ⟨H,I.tok _,q⟩
 |ref p=>
  cases l;have d:(∃j,SqL X.K H p j/\k=!j.isEmpty)\/(∃j,SqT X.K H p j/\k=!j.isEmpty)\/∃f,H p=some (.dK f)/\k=!f.isEmpty:=e;rcases d with ⟨j,n,d⟩|⟨j,n,d⟩|⟨f,n,d⟩
  ·subst d;obtain⟨z,r,u,B⟩:=I.list n;have g:=r.length;exact wpAny_truthy_list u.isList (by simp only[aaz];omega) ⟨H,I.tok _,by rw[hV r];exact q⟩
  ·subst d;obtain⟨z,r,u,B⟩:=I.tuple n;have g:=r.length;exact truthy_tuple u (by simp only[aaz];omega) ⟨H,I.tok _,by rw[hV r];exact q⟩
  ·subst d;obtain⟨B,C,o,r,m⟩:f.length<=sizeLine/\(p==sysModules)=false/\∃o,KV f o/\s.heap.DictOf (bc X.prog X.w) p o:=I.hok p _ n;have g:f.length=o.length:=adz r;exact wpAny_truthy_dict C m (by omega) ⟨H,I.tok _,by rw[nK r];exact q⟩
 |_=>exact(show False from e).elim
theorem lP(o:PE X a ta)(l:∀d,isTrue a X.env d=(do let v <-d;standAt a.pos;holding [v] (truthy v))):
  PT X a (λσ H Q=>ta σ H λx f=>∃k,BF X.K x f k/\Q k f):=by
 intro e s σ H Q I h;exact isTrue_plain (thn (o e s σ H _ I h) λv m ⟨x,g,j,n,i⟩=>BG e m σ g x v Q j n i) (l _)
def vals1(r:Vals [x] us):∃u,us=[u]/\RelV x u:=by
 cases r with
 |cons e d=>cases d;exact⟨_,rfl,e⟩
def vals2(r:Vals [x,y] us):∃u d,us=[u,d]/\RelV x u/\RelV y d:=by
 cases r with
 |cons g e=>
  cases e with
  |cons h f=>cases f;exact⟨_,_,rfl,g,h⟩
def tN:bW X (.builtin "abs") (λxs H Q=>∃i,xs=[.int i]/\Q (.int (if i<0 then -i else i)) H):=by
 intro d s e H xs f Q I r h;obtain⟨i,rfl,q⟩:=h;obtain⟨u,rfl,t,rfl⟩:=vals1 r;exact call_abs_int λu g=>⟨.int (if i<0 then -i else i),H,I.tok _,⟨_,rfl⟩,q⟩
theorem rF(f:X.calm=true):bW X (.builtin "min") (λxs H Q=>∃i j,xs=[.int i,.int j]/\Q (.int (if j<i then j else i)) H):=by
 intro e s p H xs g Q I r h;obtain⟨i,j,rfl,q⟩:=h;obtain⟨u,l,rfl,⟨t,rfl⟩,⟨m,rfl⟩⟩:=vals2 r;refine min_two_ints (I.ok.hd f) λn o k=>⟨_,H,I.kept k,?_,q⟩
 by_cases d:j<i
 ·rw[if_pos d,if_pos d];exact⟨_,rfl⟩
 ·rw[if_neg d,if_neg d];exact⟨_,rfl⟩
theorem rG:bW X (.type "int") (λxs H Q=>(∃i,xs=[.int i]/\Q (.int i) H)\/∃k,xs=[.bl k]/\Q (.int (if k then 1 else 0)) H):=by
 intro d s f H xs g Q I r h;rcases h with ⟨i,rfl,q⟩|⟨k,rfl,q⟩
 ·obtain⟨u,rfl,t,rfl⟩:=vals1 r;exact call_int_int ⟨.int i,H,I,⟨_,rfl⟩,q⟩
 ·obtain⟨u,rfl,e⟩:=vals1 r;cases e;exact call_int_bool ⟨.int (if k then 1 else 0),H,I.tok _,⟨_,rfl⟩,q⟩
def EB(K:Waa)(x:V)(H:Hp)(n:Nat):Prop:=
 match x with
 |.str y=>y.length<=sizeLine/\n=y.length
 |.byt y=>y.size<=sizeLine/\n=y.size
 |.ref p=>(∃d,SqL K H p d/\n=d.length)\/∃d,SqT K H p d/\n=d.length
 |_=>False
theorem lQ:bW X (.builtin "len") (λxs H Q=>∃x n,xs=[x]/\EB X.K x H n/\Q (.int n) H):=by
 intro m s A H xs w Q I r h;obtain⟨x,n,rfl,e,q⟩:=h;obtain⟨u,rfl,g⟩:=vals1 r;have z:=line63;have B:sizeLine=16777216:=adB;cases x with
 |str y=>obtain⟨t,rfl⟩:=g;obtain⟨v,f⟩:y.length<=sizeLine/\n=y.length:=e;subst f;exact len_str (by omega) ⟨.int _,H,I.tok _,⟨_,rfl⟩,q⟩
 |byt y=>obtain⟨t,rfl⟩:=g;obtain⟨v,f⟩:y.size<=sizeLine/\n=y.size:=e;subst f;exact PySem.W.len_bytes (by omega) ⟨.int _,H,I.tok _,⟨_,rfl⟩,q⟩
 |ref p=>
  cases g;have f:(∃xs,SqL X.K H p xs/\n=xs.length)\/∃xs,SqT X.K H p xs/\n=xs.length:=e;rcases f with ⟨xs,j,f⟩|⟨xs,j,f⟩
  ·subst f;obtain⟨l,i,k,o⟩:=I.list j;have d:=i.length;exact Calls.call_len_list k.isList (by simp only[aaz];omega) ⟨.int xs.length,H,I.tok _,⟨_,by simp only[aaz];rw[d]⟩,q⟩
  ·subst f;obtain⟨l,i,k,o⟩:=I.tuple j;have d:=i.length;exact len_tuple k (by simp only[aaz];omega) ⟨.int xs.length,H,I.tok _,⟨_,by simp only[aaz];rw[d]⟩,q⟩
 |_=>exact(show False from e).elim
end
end
section
structure ObjM (h:Heap)(x dx C:Addr)(mA:Str->Option Value):Prop where
 obj:h.get? x=some (PySem.W.instObj C dx)
 ns:h.Ns1 dx mA
 ne:dx≠x
theorem rH{h:Heap}(n:h.Ns1 dx mA):∃f,h.get? dx=some f/\∀b,PySem.W.lookIn b f=some (mA b):=by
 obtain⟨o,d,p,k,j,m,_,g⟩:=n;refine⟨o,k,λb=>?_⟩;have e:=g b;unfold nsFind findBy at e;rw[<-Array.find?_toList]at e;unfold PySem.W.lookIn;rw[j];dsimp only;split
 ·rename_i y q;rw[q]at e;exact congrArg some e
 ·rename_i q;rw[q]at e;have a:d.toList.any (·.refKey)=false:=by rw[List.any_eq_false];intro y l;obtain⟨z,t,c⟩:=m y (Array.mem_toList_iff.mp l);simp[DictEntry.refKey,c]
  have i:¬ d.toList.any (·.refKey)=true:=by rw[a];exact aak
  rw[if_neg i];exact congrArg some e
def ObjM.look(I:ObjM h x dx C mA):∃b,PySem.W.InstAt h x (PySem.W.instObj C dx) C (some b)/\∀a,PySem.W.lookIn a b=some (mA a):=
 let ⟨b,d,c⟩:=rH I.ns
 ⟨b,⟨I.obj,rfl,rfl,d⟩,c⟩
section
variable{prog:Program}{w:World}{A:Around}{E:Value->Shared->Prop}{s:Shared}{K:Waa}{x dx C f:Addr}{mA:Str->Option Value}{name:Str}{v:Value}
theorem get_map{a:Bool}(X:K.In s.heap)(I:ObjM s.heap x dx C mA)(g:PySem.W.plainGet K C name=true)(e:PySem.W.hasDictIn K C=true)
  (i:PySem.W.findIn K (.ref C) name=some none) (c:mA name=some v) (b:PySem.W.handedIn v=true) (h:Q v { s with toks:=s.toks+1 }):
  wpAny (model prog w) A (getAttr (.ref x) name a) Q E s:=by
 obtain⟨j,J,d⟩:=I.look;exact PySem.W.get_value X J (ace g).1 (PySem.W.findObj_own e i rfl (by rw[d,c])) b h
theorem tO(X:K.In s.heap)(I:ObjM s.heap x dx C mA)(a:PySem.W.plainGet K C name=true)
  (d:PySem.W.findIn K (.ref C) name=some (some (.ref f))) (c:PySem.W.isFn K (.ref f)=true) (b:mA name=none) (h:Q (.ref f,[.ref x]) s):
  wpAny (model prog w) A (getMethod (.ref x) name pl) Q E s:=by
 obtain⟨g,J,e⟩:=I.look;exact PySem.W.method_fn X J (ace a).1 (ace a).2 d (beq_iff_eq.mp c) (by show (PySem.W.lookIn name g).map (·.isSome)=some false;rw[e,b];rfl) h
theorem xS(X:K.In s.heap)(I:ObjM s.heap x dx C mA)
  (hs:PySem.W.findIn K (.ref C) "__setattr__"=some (some (.builtin "object.__setattr__"))) (o:PySem.W.plainOver K C=true) (p:PySem.W.takerIn K C name=some none) (l:PySem.W.hasDictIn K C=true)
  (m:PySem.Within mA ns) (q:ns.length<=sizeLine)
  (h:∀h',ObjM h' x dx C (λy=>if y=name then some v else mA y)->Heap.SameBut dx s.heap h'->Q () { s with heap:=h',toks:=s.toks+2 }):
  wpAny (model prog w) A (setAttr (.ref x) name v) Q E s:=by
 obtain⟨u,J,t⟩:=I.look;refine PySem.W.set_plain X J hs (PySem.W.osa_open X J o p λb=>?_);obtain⟨z,j,e⟩:=PySem.W.any_some l;have n:s.heap.get? x=some ⟨.ref C,some dx,.plain,#[]⟩:=I.obj;refine ac3 (ac4 (ac3 (ac3 (wpAny_loadPart n (ac3 (PySem.W.Looks.here (PySem.W.looks_clsIn X j) ?_))))));rw[e];refine ac4 (ac3 (ac4 (ac3 ?_)));refine wpAny_nsSet1 I.ns λh' c a=>?_;obtain⟨B,k,r,i,g,d⟩:=c.count (PySem.Within.cons name v m);refine ac3 (wpAny_lookBehind i (by rw[g];exact pastItsLine_dict (aax d (by rw[aau];omega))) ?_);exact ac4 (h _ ⟨(a.2 _ (aaE I.ne)).trans I.obj,c,I.ne⟩ a)
theorem tP(X:K.In s.heap)(b:PySem.W.makesIn K C=true)
  (c:PySem.W.findIn K (.ref C) "__init__"=some (some (.ref f))) (a:PySem.W.typeIn K (.ref f)=some (.type "function"))
  (h:codeAny (model prog w) (A.under (.builtin "type.__call__" ⟨.ref C::vs,kw⟩)) (.call (.ref f) ⟨.ref (s.heap.objs.size+1)::vs,kw⟩) (PySem.W.InitBack (s.heap.objs.size+1) R)
   { s with heap:=(s.heap.push PySem.W.emptyDict).push (PySem.W.instObj C s.heap.objs.size) }):
  codeAny (model prog w) A (.call (.ref C) ⟨vs,kw⟩) R s:=by
 obtain⟨e,g,d,t,i⟩:=s;exact PySem.W.make_core (PySem.W.makes_of X b) (PySem.W.looks_findIn X c) (λself=>PySem.W.bind_fn X self a) (.inl rfl) h
end
def b9(f:Str)(v:V):List (Str×V)->List (Str×V)
 |[]=>[(f,v)]
 | (g,x)::r=>if g=f then (g,v)::r else (g,x)::b9 f v r
theorem gF(f g:Str)(v:V):∀fs:List (Str×V),(b9 f v fs).lookup g=if g=f then some v else fs.lookup g
 |[]=>by
  show List.lookup g [(f,v)]=_;by_cases h:g=f
  ·have a:(g==f)=true:=beq_iff_eq.mpr h;simp only[List.lookup,a,if_pos h]
  ·have a:(g==f)=false:=beq_eq_false_iff_ne.mpr h;simp only[List.lookup,a,if_neg h]
 | (k,x)::r=>by
  have c:=gF f g v r;rw[show b9 f v ((k,x)::r)=(if k=f then (k,v)::r else (k,x)::b9 f v r) from rfl];by_cases b:k=f
  ·rw[if_pos b];by_cases h:g=k
   ·have a:(g==k)=true:=beq_iff_eq.mpr h;simp only[List.lookup,a,if_pos (h.trans b)]
   ·have a:(g==k)=false:=beq_eq_false_iff_ne.mpr h;simp only[List.lookup,a,if_neg (λe:g=f=>h (e.trans b.symm))]
  ·rw[if_neg b];by_cases h:g=k
   ·have a:(g==k)=true:=beq_iff_eq.mpr h;simp only[List.lookup,a,if_neg (λe:g=f=>b (h.symm.trans e))]
   ·have a:(g==k)=false:=beq_eq_false_iff_ne.mpr h;simp only[List.lookup,a];exact c
theorem fT(f:Str)(v:V):∀fs:List (Str×V),f∈(b9 f v fs).map (·.1)/\∀g,g∈fs.map (·.1)->g∈(b9 f v fs).map (·.1)
 |[]=>⟨by simp[b9],λg h=>by simp at h⟩
 | (k,x)::r=>by
  obtain⟨c,b⟩:=fT f v r;rw[show b9 f v ((k,x)::r)=(if k=f then (k,v)::r else (k,x)::b9 f v r) from rfl];by_cases a:k=f
  ·rw[if_pos a];subst a;exact⟨by simp,λg h=>by simpa using h⟩
  ·rw[if_neg a];refine⟨?_,λg h=>?_⟩
   ·rw[aam];exact aah _ c
   ·rw[aam]at h ⊢;rcases aab.mp h with e|e
    ·exact aab.mpr (.inl e)
    ·exact aah _ (b g e)
theorem gG(f:Str)(v:V):∀fs:List (Str×V),(b9 f v fs).length<=fs.length+1
 |[]=>by simp[b9]
 | (k,x)::r=>by
  have b:=gG f v r;rw[show b9 f v ((k,x)::r)=(if k=f then (k,v)::r else (k,x)::b9 f v r) from rfl];by_cases a:k=f
  ·rw[if_pos a,aau,aau];omega
  ·rw[if_neg a,aau,aau];omega
def RelO.some_of(r:RelO (some v) o):∃u,o=some u/\RelV v u:=by
 cases o with
 |none=>exact(show False from r).elim
 |some u=>exact⟨u,rfl,r⟩
def RelO.none_of(r:RelO none o):o=none:=by
 cases o with
 |none=>rfl
 |some u=>exact(show False from r).elim
theorem rJ(r:RelV v u):PySem.W.handedIn u=true:=by
 cases v with
 |non=>cases (show u=Value.none from r);rfl
 |bl b=>cases (show u=Value.bool b from r);rfl
 |int i=>obtain⟨t,e⟩:=(show ∃t,u=Value.int i t from r);cases e;rfl
 |str x=>obtain⟨t,e⟩:=(show ∃t,u=Value.str x t from r);cases e;rfl
 |byt b=>obtain⟨t,e⟩:=(show ∃t,u=Value.bytes b t from r);cases e;rfl
 |flt b=>obtain⟨t,e⟩:=(show ∃t,u=Value.float b t from r);cases e;rfl
 |ref a=>cases (show u=Value.ref a from r);rfl
 |ty n=>cases (show u=Value.type n from r);rfl
section
variable{P:Program}{w:World}{H H':Hp}{h h':Heap}{a C dx:Addr}{fs fs':List (Str×V)}
theorem kh(c:HOk P w H h)(e:H a=some (.ins C dx fs)):∃b,ObjM h a dx C b/\(∀f,RelO (fs.lookup f) (b f))/\PySem.Within b (fs.map (·.1))/\fs.length<=1000/\H dx=some (.own a):=by
 obtain⟨d,z,i,g,b,n,r,q⟩:=(show ObjOk P w H h a (.ins C dx fs) from c a _ e)
 exact⟨b,⟨g,n,i⟩,r,q,z,d⟩
end
structure Cls (K:Waa)(C:Addr):Prop where
 pg:PySem.W.plainGet K C Str.empty=true
 hd:PySem.W.hasDictIn K C=true
 po:PySem.W.plainOver K C=true
 sa:PySem.W.findIn K (.ref C) "__setattr__"=some (some (.builtin "object.__setattr__"))
def Cls.get{K:Waa}{C:Addr}(c:Cls K C)(f:Str):PySem.W.plainGet K C f=true:=c.pg
def NoAttr(K:Waa)(C:Addr)(f:Str):Prop:=PySem.W.findIn K (.ref C) f=some none
def NoAttr.taker{K:Waa}(n:NoAttr K C f):PySem.W.takerIn K C f=some none:=by unfold PySem.W.takerIn;rw[show PySem.W.findIn K (.ref C) f=some none from n];rfl
structure Meth (K:Waa)(C:Addr)(m:Str)(f:Addr):Prop where
 at_:PySem.W.findIn K (.ref C) m=some (some (.ref f))
 fn:PySem.W.isFn K (.ref f)=true
 kp:PySem.W.keepIn K (.ref f)=true
section
variable{X:Cx}{pins:List (Addr×Obj)}{σ:St}{H:Hp}{s:Shared}{a C dx:Addr}{fs:List (Str×V)}{f:Str}{v:V}{A:Around}{E:Value->Shared->Prop}
theorem h8{b:Bool}{Q:Value->Shared->Prop}(I:Inv X pins σ H s)(e:H a=some (.ins C dx fs))(c:Cls X.K C)(n:NoAttr X.K C f)(l:fs.lookup f=some v)
  (h:∀u g,Inv X pins σ H g->RelV v u->Q u g):wpAny (model X.prog X.w) A (getAttr (.ref a) f b) Q E s:=by
 obtain⟨j,O,r,_,_,_⟩:=kh I.hok e;obtain⟨u,i,d⟩:=RelO.some_of (by rw[<-l];exact r f);exact get_map I.rz O (c.get f) c.hd n i (rJ d) (h u _ (I.tok _) d)
theorem ia(I:Inv X pins σ H s)(e:H a=some (.ins C dx fs))(c:Cls X.K C)(k:Meth X.K C m g)(l:fs.lookup m=none)
  (h:Q (.ref g,[.ref a]) s):wpAny (model X.prog X.w) A (getMethod (.ref a) m pl) Q E s:=by
 obtain⟨b,O,r,_,_,_⟩:=kh I.hok e;have d:b m=none:=RelO.none_of (by rw[<-l];exact r m);exact tO I.rz O (c.get m) k.at_ k.fn d h
theorem ib{y:V}{u:Value}(I:Inv X pins σ H s)(e:H a=some (.ins C dx fs))(c:Cls X.K C)(n:NoAttr X.K C f)(L:fs.length<1000)(J:RelV y u)
  (h:∀i,Inv X pins σ (upd H a (.ins C dx (b9 f y fs))) i->Q () i):wpAny (model X.prog X.w) A (setAttr (.ref a) f u) Q E s:=by
 obtain⟨j,O,r,k,_,l⟩:=kh I.hok e;have F:(fs.map (·.1)).length<=sizeLine:=by rw[aaa,adB];omega
 refine xS I.rz O c.sa c.po n.taker c.hd k F λx d t=>h _ ?_;have B:∃o,x.get? dx=some o:=let ⟨o,_,_,m,_⟩:=d.ns;⟨o,m⟩
 refine I.write (by rw[e];exact True.intro) (.inr l) (λb q p z=>(t.2 b p).trans z) B ?_;refine⟨by rw[upd_ne O.ne];exact l,?_,O.ne,d.obj,_,d.ns,λg=>?_,λg D=>?_⟩
 ·have:=gG f y fs;omega
 ·show RelO ((b9 f y fs).lookup g) (if g=f then some u else j g);rw[gF];by_cases q:g=f
  ·rw[if_pos q,if_pos q];exact J
  ·rw[if_neg q,if_neg q];exact r g
 ·by_cases q:g=f
  ·rw[q];exact(fT f y fs).1
  ·refine(fT f y fs).2 g (k g λz=>D ?_);show (if g=f then some u else j g)=none;rw[if_neg q];exact z
theorem Inv.made(I:Inv X pins σ H s):Inv X pins σ (upd (upd H s.heap.objs.size (.own (s.heap.objs.size+1))) (s.heap.objs.size+1) (.ins C s.heap.objs.size []))
  { s with heap:=(s.heap.push PySem.W.emptyDict).push (PySem.W.instObj C s.heap.objs.size) }:=by
 have c:(s.heap.push PySem.W.emptyDict).get? s.heap.objs.size=some PySem.W.emptyDict:=ac7 s.heap rfl;have h:((s.heap.push PySem.W.emptyDict).push (PySem.W.instObj C s.heap.objs.size)).get? (s.heap.objs.size+1)=some (PySem.W.instObj C s.heap.objs.size):=by
  have:=ac7 (s.heap.push PySem.W.emptyDict) (o:=PySem.W.instObj C s.heap.objs.size) rfl
  rwa [ac8]at this
 have g:(s.heap.push PySem.W.emptyDict).Ns s.heap.objs.size (λ_=>none):=⟨PySem.W.emptyDict,#[],_,c,rfl,(λe j=>absurd j (by simp)),λ_=>rfl⟩
 have i:=I.laid (o:=.own (s.heap.objs.size+1)) (t':=s.toks) (λb u q=>ac6 _ q) (aae _) ⟨_,c⟩;refine i.laid (λb u q=>ac6 _ q) (abP (ac8 _ _)) ?_;have d:s.heap.objs.size≠s.heap.objs.size+1:=aar (aa5 _);refine⟨by rw[upd_ne d,ao],aaI _,d,h,λ_=>none,(Heap.Ns1.of_empty g).at λo q=>ac6 _ q,λ_=>True.intro,λy k=>absurd rfl k⟩
theorem attr_of{prog:Program}{w:World}(c:attributeBase e f env (eval e env)=eval e env)
  (h:wpAny (model prog w) A (eval e env) (λo b=>wpAny (model prog w) A (getAttr o f true) Q E b) E s):wpAny (model prog w) A (eval (.Attribute e f pos) env) Q E s:=
 Attribute_any_ h (by rw[arm_eval_Attribute,c])
end
def Hx(K:Waa)(g:TE)(f:Str):TE:=λe H Q=>g e H λx b=>∃a C d c v,x=.ref a/\b a=some (.ins C d c)/\Cls K C/\NoAttr K C f/\c.lookup f=some v/\Q v b
def Hy(K:Waa)(h i:TE)(f:Str):TS:=λD b H=>i b H λy g=>h b g λx e=>∃a C d c,x=.ref a/\e a=some (.ins C d c)/\Cls K C/\NoAttr K C f/\c.length<1000 /\
 D.nx b (upd e a (.ins C d (b9 f y c)))
def xT(X:Cx)(c:Operator)(d:V->V->Hp->VK->Prop):Prop:=
 ∀(a:List (Addr×Obj)) (s:Shared) (b:St) (H:Hp) (x y:V) (u v:Value) (Q:VK),Inv X a b H s->RelV x u->RelV y v->d x y H Q->wpAny (model X.prog X.w) X.A (inplaceOp c u v) (EP X a b Q) X.xe s
def xU(K:Waa)(m j:TE)(k:V->V->Hp->VK->Prop)(f:Str):TS:=λD d H=>m d H λx e=>∃a C l g v,x=.ref a/\e a=some (.ins C l g)/\Cls K C/\NoAttr K C f/\g.lookup f=some v /\
 j d e λy i=>k v y i λz h=>∃c b,h a=some (.ins C c b)/\b.length<1000/\D.nx d (upd h a (.ins C c (b9 f z b)))
section
variable{X:Cx}{o e value:Expr}{f:Str}{pos pos' tpos:Pos}{ta tv:TE}
theorem BH(j:PE X e ta)(k:attributeBase e f X.env (eval e X.env)=eval e X.env):PE X (.Attribute e f pos) (Hx X.K ta f):=by
 intro b s t H Q I h;refine attr_of k (thn (j b s t H _ I h) λu A m=>?_);obtain⟨x,d,i,g,a,C,B,z,v,w,p,c,n,l,q⟩:=m;subst w;obtain rfl:u=Value.ref a:=g;exact h8 i p c n l λD F y r=>⟨v,d,y,r,q⟩
theorem BI(F:PE X o ta)(w:PE X value tv)(hs:swapsWith value (some (.Attribute o f pos')) pos.line X.env=pure false):PS X (.Assign [.Attribute o f pos'] value pos) (Hy X.K ta tv f):=by
 intro b s d H D I h;refine plainObj_wpAny_Assign_Attribute (thn (w b s d H _ I h) λu p ⟨y,g,j,B,q⟩=>thn (F b p d g _ j q) λv O k=>?_) hs;obtain⟨x,M,m,i,a,C,N,J,z,t,c,n,l,A⟩:=k;subst z;obtain rfl:v=Value.ref a:=i;exact ib m t c n l B λL r=>⟨d,_,r,A⟩
theorem rK{k:Operator}{m:V->V->Hp->VK->Prop}(ha:PE X o ta)(U:PE X value tv)(g:xT X k m):PS X (.AugAssign (.Attribute o f tpos) k value pos) (xU X.K ta tv m f):=by
 intro b s d H D I h;refine wpAny_AugAssign_AttributeAny (thn (ha b s d H _ I h) λS s1 i=>?_);obtain⟨x,r,w,t,a,C,dx,fs,v,Y,Q,c,n,l,q⟩:=i;subst Y;obtain rfl:S=Value.ref a:=t;refine h8 w Q c n l λu s2 A T=>thn (U b s2 d r _ A q) λw3 J ⟨y,M,P,ry,N⟩=>thn (g b J d M v y u w3 _ P T ry N) λw4 s4 i=>?_;obtain⟨z,H3,W,L,F,B,j,Z,p⟩:=i;exact ib W j c n Z L λs5 O=>⟨d,_,O,p⟩
def rAdd:V->V->Hp->VK->Prop:=λx y H Q=>∃i j,x=.int i/\y=.int j/\Q (.int (i+j)) H
def rSub:V->V->Hp->VK->Prop:=λx y H Q=>∃i j,x=.int i/\y=.int j/\Q (.int (i-j)) H
def BJ:xT X .Add rAdd:=by
 rintro b s g H x y u v Q I c d ⟨i,j,rfl,rfl,q⟩;obtain⟨t,rfl⟩:=(show ∃t,u=Value.int i t from c)
 obtain⟨a,rfl⟩:=(show ∃a,v=Value.int j a from d)
 exact PyProof.Rows.iadd_int ⟨.int (i+j),H,I.tok _,⟨_,rfl⟩,q⟩
def BK:xT X .Sub rSub:=by
 rintro b s g H x y u v Q I c d ⟨i,j,rfl,rfl,q⟩;obtain⟨t,rfl⟩:=(show ∃t,u=Value.int i t from c)
 obtain⟨a,rfl⟩:=(show ∃a,v=Value.int j a from d)
 exact PyProof.Rows.isub_int ⟨.int (i-j),H,I.tok _,⟨_,rfl⟩,q⟩
end
end
section
structure Room (k:Nat)(A:Around):Prop where
 hd:A.handled=none
 dp:A.depth+3*k+5<recursionLimit
 un:A.units+16*k+200<cLine
 gd:A.guards=some []
def Room.deeper(r:Room (k+1) A)(env:Env):Room k (A.deeper env):=
 ⟨r.hd,by have:=r.dp;show A.depth+1+3*k+5<_;omega,by have:=r.un;show A.units+3+16*k+200<_;omega,r.gd⟩
def nL{A:Around}:(A.under (.builtin "type.__call__" ⟨.ref C::us,kw⟩)).depth=A.depth+1:=by
 first|rfl|simp[Around.under,Code.weight,Code.isCreation,Code.isGuard,Code.isCaller,Code.frames,Code.isFrame,guardIds]
def nM{A:Around}:(A.under (.builtin "type.__call__" ⟨.ref C::us,kw⟩)).units=A.units+1:=by
 first|rfl|simp[Around.under,Code.cUnits,Code.frames,Code.isFrame]
def Room.make(r:Room (k+1) A)(C:Addr)(us:List Value)(a:List (Str×Value)):Room k (A.under (.builtin "type.__call__" ⟨.ref C::us,a⟩)):=
 ⟨r.hd,by have:=r.dp;rw[nL];omega,by have:=r.un;rw[nM];omega,by first|exact r.gd|simp[Around.under,Code.isGuard,guardIds,r.gd]⟩
def Room.depth(r:Room k A):A.depth<recursionLimit:=by have:=r.dp;omega
def Room.units{A:Around}(r:Room k A):A.units+64<cLine:=by have:=r.un;omega
def tNil:TA:=λ_ H Q=>Q [] H
def EC(e:TE)(c:TA):TA:=λa H Q=>e a H λx b=>c a b λd f=>Q (x::d) f
section
variable{X:Cx}{e:Expr}{es:List Expr}{te:TE}{t:TA}{pos:Pos}
def bh:PA X [] tNil:=λ_ _ _ _ H Q I h=>Calls.spliced_nil ⟨[],H,I,.nil,h⟩
theorem aK(p:PE X e te)(m:PA X es t)(hs:starEach (e::es) X.env=(false,eval e X.env)::starEach es X.env:=by rfl):PA X (e::es) (EC te t):=by
 intro pos a s b H Q I h;rw[hs];show wpAny _ _ (spliced ((false,eval e X.env)::backTo pos (starEach es X.env))) _ _ s;refine Calls.spliced_cons (thn (p a s b H _ I h) λu k i=>?_);obtain⟨x,c,g,o,f⟩:=i;exact thn (m pos a k b c _ g f) λr v ⟨l,j,q,d,n⟩=>⟨x::l,j,q,.cons o d,n⟩
def Hz(t:TA):TE:=λc H Q=>t c H λb a=>b.length<=sizeLine/\∀p,a p=none->Q (.ref p) (upd a p (.tup b))
def HA(t:TA):TE:=λc H Q=>t c H λb a=>b.length<=sizeLine/\∀p,a p=none->Q (.ref p) (upd a p (.lst b))
theorem nN{g}(h:PA X es t):PE X (.Tuple es g pos) (Hz t):=by intro a s l H Q I j;refine wpAny_Tuple_spliced (thn (h pos a s l H _ I j) λi c ⟨k,d,f,r,z,q⟩=>⟨by rw[<-r.length];exact z,?_⟩);have m:d c.heap.objs.size=none:=f.hok.fresh (aae _);refine⟨.ref c.heap.objs.size,upd d c.heap.objs.size (.tup k),f.laid (t':=c.toks) (λb u e=>ac6 _ e) (aae _) ?_,rfl,q _ m⟩;exact⟨z,i,r,⟨_,ac7 _ rfl,rfl,_,rfl,rfl⟩⟩
theorem BL(h:PA X es t):PE X (.List es pos) (HA t):=by intro a s k H Q I i;refine wpAny_List_spliced (thn (h pos a s k H _ I i) λg c ⟨j,d,f,r,z,q⟩=>⟨by rw[<-r.length];exact z,?_⟩);have l:d c.heap.objs.size=none:=f.hok.fresh (aae _);refine⟨.ref c.heap.objs.size,upd d c.heap.objs.size (.lst j),f.laid (t':=c.toks) (λb u e=>ac6 _ e) (aae _) ?_,rfl,q _ l⟩;exact⟨z,g,0,r,ac7 _ rfl⟩
end
abbrev Sp:=List V->Hp->VK->XK->Prop
abbrev CXT:=List Env->Hp->Shared->XK->Value->Shared->Prop
structure Env0 (P:Program)(w:World)(K:Waa)(mg:Str->Option Value)(base:Heap)(A:Around)(outer:List Env)(s:Shared)(H:Hp):Prop where
 frames:A.frames=some outer
 mod:Mod K mg base
 bs:∀b o,base.get? b=some o->s.heap.get? b=some o/\H b=none
 bsz:base.objs.size<=s.heap.objs.size
 funs:s.heap.FunFrames base outer
 frf:∀b∈tu outer,H b=none
 hok:HOk P w H s.heap
 bare:AllBare s.gens
def CE(a:List Env)(P:Program)(w:World)(H:Hp)(s:Shared)(Q:VK)(u:Value)(b:Shared):Prop:=
 ∃v c,b.os=s.os/\AllBare b.gens/\Un (tu a) [] H c s.heap b.heap/\HOk P w c b.heap/\RelV v u/\Q v c
def CR(CX:CXT)(a:List Env)(P:Program)(w:World)(H:Hp)(s:Shared)(Q:VK)(E:XK)(r:Result)(b:Shared):Prop:=
 match r with
 |.ok (.ret u)=>CE a P w H s Q u b
 |.ok _=>False
 |.error e=>CX a H s E e b
structure FnOk (P:Program)(w:World)(K:Waa)(mg:Str->Option Value)(base:Heap)(CX:CXT)(k:Nat)(f:Addr)(fd:FuncData)(ps:List Str)(sp:Sp):Prop where
 len:∀vs H Q E,sp vs H Q E->vs.length=ps.length
 run:∀(A:Around) (outer:List Env) (s:Shared) (H:Hp) (args:Args) (us:List Value) (vs:List V) (Q:VK) (E:XK),Room k A->Env0 P w K mg base A outer s H->BindsTo s fd args (ps.zip us)->Vals vs us->sp vs H Q E ->
  codeAny (model P w) A (.call (.ref f) args) (CR CX outer P w H s Q E) s
def FnOk.imp{K:Waa}(F:FnOk P w K mg base CX k f fd ps sp)
  (h:∀vs H Q E,sp' vs H Q E->sp vs H Q E):FnOk P w K mg base CX k f fd ps sp':=
 ⟨λvs H Q E q=>F.len vs H Q E (h _ _ _ _ q),λA a s H b e vs Q E i d j c g=>F.run A a s H b e vs Q E i d j c (h _ _ _ _ g)⟩
theorem Env0.make{K:Waa}(e:Env0 P w K mg base A outer s H)(C:Addr)(us:List Value)(a:List (Str×Value)):
  Env0 P w K mg base (A.under (.builtin "type.__call__" ⟨.ref C::us,a⟩)) outer s H:=⟨by first|exact e.frames|(simpa[Around.under,Code.envs,Code.isFrame,pushEnvs] using e.frames),e.mod,e.bs,e.bsz,e.funs,e.frf,e.hok,e.bare⟩
section
variable{X:Cx}{pins:List (Addr×Obj)}{σ:St}{H:Hp}{s s':Shared}
theorem Inv.env0(I:Inv X pins σ H s):Env0 X.prog X.w X.K X.mg X.base X.A X.stack s H:=
 ⟨I.ok.frames,I.ok.mod,I.bs,aax I.ok.bsz I.sz,I.stack,I.t8,I.hok,I.bare⟩
def Inv.after(I:Inv X pins σ H s)(h:CE X.stack X.prog X.w H s Q u s'):EP X pins σ Q u s':=by obtain⟨v,i,j,a,f,e,r,q⟩:=h;obtain⟨k,g,d,t,c⟩:=s';obtain rfl:c=s.os:=j;exact⟨v,i,I.call f e a (λb z=>absurd z (by simp)),r,q⟩
end
def Ah(sp:Sp)(a:List V)(E:XK)(t:TA):TE:=λb H Q=>t b H λd c=>sp (d++a) c Q E
def tQ(C:Addr)(m:Str)(sp:Sp)(b:List V)(E:XK)(h:TE)(t:TA):TE:=λc H Q=>h c H λx d=>∃a f e,x=.ref a/\d a=some (.ins C f e)/\e.lookup m=none /\
 t c d λg i=>sp (x::(g++b)) i Q E
def Ai(C:Addr)(sp:Sp)(c:List V)(E:XK)(t:TA):TE:=λd H Q=>t d H λe b=>∀x a,b x=none->b a=none->a≠x ->
 sp (.ref x::(e++c)) (upd (upd b a (.own x)) x (.ins C a [])) (λv f=>v=.non/\Q (.ref x) f) E
def Binds(K:Waa)(b:FuncData)(ps:List Str)(ds:List Value):Prop:=
 ∀(s:Shared) (a:List Value),K.In s.heap->(a++ds).length=ps.length->BindsTo s b ⟨a,[]⟩ (ps.zip (a++ds))
def Binds.all{K:Waa}{b:FuncData}{ps:List Str}(h:∀us:List Value,us.length=ps.length->bindArgs b ⟨us,[]⟩=pure (ps.zip us)):Binds K b ps []:=λs us _ a=>by rw[aaq]at a ⊢;exact .of_eq (h us a)
def Passes(CX:CXT)(X:Cx)(E:XK):Prop:=∀(a:List (Addr×Obj)) (c:St) (H:Hp) (s:Shared) (e:Value) (b:Shared),Inv X a c H s->CX X.stack H s E e b->X.xe e b
section
variable{X:Cx}{CX:CXT}{k:Nat}{f C:Addr}{fd:FuncData}{ps:List Str}{sp:Sp}{dvs:List V}{ds:List Value}{E:XK}{x m:Str}{p pos apos:Pos}{e o:Expr}{es:List Expr}{ta:TE}{t:TA}
theorem nO(F:FnOk X.prog X.w X.K X.mg X.base CX k f fd ps sp)(l:Room k X.A)(n:Binds X.K fd ps ds)(d:Vals dvs ds)(g:Passes CX X E)
  (I:Inv X pins σ H s) (r:Vals vs us) (h:sp (vs++dvs) H Q E):wpAny (model X.prog X.w) X.A (call (.ref f) us) (EP X pins σ Q) X.xe s:=by
 have b:Vals (vs++dvs) (us++ds):=r.append d;have c:(us++ds).length=ps.length:=by rw[<-b.length];exact F.len _ _ _ _ h
 refine wpAny_call (adm (F.run X.A X.stack s H ⟨us,[]⟩ (us++ds) (vs++dvs) Q E l I.env0 (n s us I.rz c) b h) λr i a=>?_);cases r with
 |error e=>exact g pins σ H s e i I a
 |ok j=>
  cases j with
  |ret u=>exact I.after a
  |next=>exact False.elim a
  |brk=>exact False.elim a
  |cont=>exact False.elim a
theorem xV(F:FnOk X.prog X.w X.K X.mg X.base CX k f fd ps sp)(v:Room k X.A)(u:Gl X x)(g:X.mg x=some (.ref f))(hk:PySem.W.keepIn X.K (.ref f)=true)(j:Binds X.K fd ps ds)(l:Vals dvs ds)(n:Passes CX X E)
  (z:PA X (e::es) t) (c:(x==("__debug__":Str))=false:=by decide) (i:starEach (e::es) X.env=(false,eval e X.env)::starEach es X.env:=by rfl) (b:(backTo pos (starEach es X.env)).any (·.1)=false:=by rfl):
  PE X (.Call (.Name x p) (e::es) [] pos) (Ah sp dvs E t):=by
 intro a s y H Q I h;refine adC (kg I u g ?_ c);refine acf (h₀:=X.base) I.ok.mod.kin hk (thn (z pos a s y H _ I h) λD J ⟨L,B,d,r,q⟩=>⟨d.rz,?_⟩) i b;exact nO F v j l n d r q
theorem xW{pl:Sem Bool}(B:PE X o ta)(c:Cls X.K C)(i:Meth X.K C m f)(F:FnOk X.prog X.w X.K X.mg X.base CX k f fd ps sp)(P:Room k X.A)(D:Binds X.K fd ps ds)(M:Vals dvs ds)(N:Passes CX X E)(W:PA X (e::es) t)
  (g:starEach (e::es) X.env=(false,eval e X.env)::starEach es X.env:=by rfl) (d:(backTo pos (starEach es X.env)).any (·.1)=false:=by rfl)
  (S:eval (.Call (.Attribute o m apos) (e::es) [] pos) X.env=(do
   let ov <-eval o X.env
   standAt apos.atName
   let (f,first) <-holding [ov] (getMethod ov m pl)
   callWith pos f first (backTo pos (starEach (e::es) X.env)) (backToKw pos (keywordEach [] X.env))):=by rfl):
  PE X (.Call (.Attribute o m apos) (e::es) [] pos) (tQ C m sp dvs E ta t):=by
 intro b s n H Q I h;refine acB (pl:=pl) (thn (B b s n H _ I h) λu L J=>?_) S;obtain⟨x,y,j,z,a,dx,Z,T,O,l,q⟩:=J;subst T;obtain rfl:u=Value.ref a:=z;refine ia j O c i l ?_;refine acf (first:=[.ref a]) I.ok.mod.kin i.kp (thn (W pos b L n y _ j q) λY s2 ⟨vs,H2,v,r,U⟩=>⟨v.rz,?_⟩) g d;exact nO (vs:=.ref a::vs) F P D M N v (.cons rfl r) U
theorem tR{pl:Sem Bool}(j:PE X o ta)(c:Cls X.K C)(g:Meth X.K C m f)(F:FnOk X.prog X.w X.K X.mg X.base CX k f fd ps sp)(B:Room k X.A)(n:Binds X.K fd ps ds)(v:Vals dvs ds)(y:Passes CX X E)
  (D:eval (.Call (.Attribute o m apos) [] [] pos) X.env=(do
   let ov <-eval o X.env
   standAt apos.atName
   let (f,first) <-holding [ov] (getMethod ov m pl)
   callWith pos f first (backTo pos (starEach [] X.env)) (backToKw pos (keywordEach [] X.env))):=by rfl):
  PE X (.Call (.Attribute o m apos) [] [] pos) (tQ C m sp dvs E ta tNil):=by
 intro b s J H Q I h;refine acB (pl:=pl) (thn (j b s J H _ I h) λu O r=>?_) D;obtain⟨x,M,d,i,a,P,N,L,z,l,q⟩:=r;subst L;obtain rfl:u=Value.ref a:=i;refine ia d z c g l ?_;exact PySem.W.callWith_K0 d.rz g.kp (nO (vs:=[.ref a]) F B n v y d (.cons rfl .nil) q)
structure Mk (K:Waa)(C f:Addr):Prop where
 makes:PySem.W.makesIn K C=true
 init:PySem.W.findIn K (.ref C) "__init__"=some (some (.ref f))
 fn:PySem.W.isFn K (.ref f)=true
 kp:PySem.W.keepIn K (.ref C)=true
theorem tS{a:List (Addr×Obj)}{σ:St}(M:Mk X.K C f)(F:FnOk X.prog X.w X.K X.mg X.base CX k f fd ps sp)(J:Room (k+1) X.A)(i:Binds X.K fd ps ds)(q:Vals dvs ds)
  (y:Passes CX X E) (I:Inv X a σ H s) (r:Vals vs us)
  (h:∀x dx,H x=none->H dx=none->dx≠x->sp (.ref x::(vs++dvs)) (upd (upd H dx (.own x)) x (.ins C dx [])) (λv l=>v=.non/\Q (.ref x) l) E):
  wpAny (model X.prog X.w) X.A (call (.ref C) us) (EP X a σ Q) X.xe s:=by
 have g:=h (s.heap.objs.size+1) s.heap.objs.size (I.hok.fresh (abp _)) (I.hok.fresh (aae _)) (aar (aa5 _));have c:=Inv.made (C:=C) I;have d:Vals (V.ref (s.heap.objs.size+1)::(vs++dvs)) (Value.ref (s.heap.objs.size+1)::(us++ds)):=.cons rfl (r.append q);have j:(Value.ref (s.heap.objs.size+1)::us++ds).length=ps.length:=by have e:=d.length;rw[F.len _ _ _ _ g]at e;exact e.symm
 refine wpAny_call (tP I.rz M.makes M.init (beq_iff_eq.mp M.fn) (adm (F.run _ X.stack _ _ ⟨Value.ref (s.heap.objs.size+1)::us,[]⟩ (Value.ref (s.heap.objs.size+1)::(us++ds)) _ _ E (J.make C us [])
  (c.env0.make C us []) (i _ (Value.ref (s.heap.objs.size+1)::us) c.rz j) d g) λr B b=>?_))
 cases r with
 |error e=>exact y a σ _ _ e B c b
 |ok O=>
  cases O with
  |ret u=>obtain⟨v,N,z,L,D,n⟩:=c.after b;subst D;exact⟨L,⟨V.ref (s.heap.objs.size+1),N,z,rfl,n⟩⟩
  |next=>exact False.elim b
  |brk=>exact False.elim b
  |cont=>exact False.elim b
theorem xX(M:Mk X.K C f)(F:FnOk X.prog X.w X.K X.mg X.base CX k f fd ps sp)(v:Room (k+1) X.A)(u:Gl X x)(g:X.mg x=some (.ref C))(i:Binds X.K fd ps ds)(l:Vals dvs ds)(n:Passes CX X E)
  (z:PA X (e::es) t) (c:(x==("__debug__":Str))=false:=by decide) (j:starEach (e::es) X.env=(false,eval e X.env)::starEach es X.env:=by rfl) (b:(backTo pos (starEach es X.env)).any (·.1)=false:=by rfl):
  PE X (.Call (.Name x p) (e::es) [] pos) (Ai C sp dvs E t):=by
 intro a s y H Q I h;refine adC (kg I u g ?_ c);refine acf (h₀:=X.base) I.ok.mod.kin M.kp (thn (z pos a s y H _ I h) λD J ⟨L,B,d,r,q⟩=>⟨d.rz,?_⟩) j b;exact tS M F v i l n d r q
end
structure FnScope (N P:List Str)(sc:Scope):Prop where
 kind:sc.kind=.function
 co:sc.isCoroutine=false
 gen:sc.isGenerator=false
 nd:N.Nodup
 pre:N.take P.length=P
 par:∀x∈P,sc.names.lookup x=some .local\/sc.names.lookup x=some .cell
 nofree:∀y∈sc.names,y.2≠.free
theorem jF{b:Str->Option NameKind}:∀{a:List (Str×Value)}{m:Str->Option Value},(∀v,(x,v) ∉ a)->bindL b a m x=m x
 |[],_,_=>rfl
 | (n,v)::r,m,h=>by
  unfold bindL;rw[jF λw c=>h w (aah _ c)];split
  ·have:x≠n:=by rintro rfl;exact h v aad
   simp[this]
  ·rfl
theorem jG{b:Str->Option NameKind}:∀{a:List (Str×Value)}{m:Str->Option Value},(∀v,(x,v) ∉ a)->bindC b a m x=m x
 |[],_,_=>rfl
 | (n,v)::r,m,h=>by
  unfold bindC;rw[jG λw c=>h w (aah _ c)];split
  ·rfl
  ·have:x≠n:=by rintro rfl;exact h v aad
   simp[this]
theorem jH{a:Str->Option NameKind}:∀{P:List Str}{vs:List Value}{i:Nat}{m:Str->Option Value},P.Nodup->P[i]?=some x->vs[i]?=some v->a x=some .local ->
  bindL a (P.zip vs) m x=some v
 |[],_,_,_,_,h,_,_=>by simp at h
 |_::_,[],_,_,_,_,h,_=>by simp at h
 |p::P,w::vs,0,m,nd,h1,h2,hk=>by simp at h1 h2;subst h1;subst h2;show bindL a ((p,w)::P.zip vs) m p=_;unfold bindL;rw[jF λv b=>(aaA.mp nd).1 (aa6 b).1,if_pos hk];simp
 |p::P,w::vs,i+1,m,nd,h1,h2,hk=>by show bindL a ((p,w)::P.zip vs) m x=_;unfold bindL;exact jH (i:=i) (aaA.mp nd).2 (by simpa using h1) (by simpa using h2) hk
theorem jI{a:Str->Option NameKind}:∀{P:List Str}{vs:List Value}{i:Nat}{m:Str->Option Value},P.Nodup->P[i]?=some x->vs[i]?=some v->a x≠some .local ->
  bindC a (P.zip vs) m x=some v
 |[],_,_,_,_,h,_,_=>by simp at h
 |_::_,[],_,_,_,_,h,_=>by simp at h
 |p::P,w::vs,0,m,nd,h1,h2,hk=>by simp at h1 h2;subst h1;subst h2;show bindC a ((p,w)::P.zip vs) m p=_;unfold bindC;rw[jG λv b=>(aaA.mp nd).1 (aa6 b).1,if_neg hk];simp
 |p::P,w::vs,i+1,m,nd,h1,h2,hk=>by show bindC a ((p,w)::P.zip vs) m x=_;unfold bindC;exact jI (i:=i) (aaA.mp nd).2 (by simpa using h1) (by simpa using h2) hk
def start(N:List Str)(vs:List V):St:=vs.map some++List.replicate (N.length-vs.length) none
def ki(CX:CXT)(P:Program)(w:World)(K:Waa)(mg:Str->Option Value)(base:Heap)(N:List Str)(b:Str)(a:Scope)(f:Addr)(d:Value)(A:Around)(outer:List Env)(s:Shared)(H:Hp)(E:XK):Cx where
 prog:=P
 w:=w
 K:=K
 mg:=mg
 base:=base
 A:=A.deeper (envOfC b a s.heap.objs.size f d)
 N:=N
 s₀:=s
 H₀:=H
 env:=envOfC b a s.heap.objs.size f d
 outer:=outer
 stack:=envOfC b a s.heap.objs.size f d::outer
 ex:=[]
 calm:=true
 fn:=λ_=>true
 pn:=[]
 xe:=λe g=>wpAny (model P w) (A.deeper (envOfC b a s.heap.objs.size f d)) (leaving (envOfC b a s.heap.objs.size f d) e) (λ_ c=>CX outer H s E e c) (λh c=>CX outer H s E h c) g
def lR{sc:Scope}(h:sc.names.lookup x=some .cell):∃c,(cellsFrom n sc.names []).lookup x=some c:=by have q:=acC sc.names n [] (.inl h);exact abq.mp q
theorem rL{K:Waa}
  (S:FnScope N ps scope) (F:A.handled=none) (g:Env0 P w K mg base A outer s H) (L:vs.length=ps.length) (r:Vals vs us)
  (x:InCallC s s.heap.objs.size (bindL (envOfC qual scope s.heap.objs.size f cd).kindOf (ps.zip us) λ_=>none) (cellsFrom (s.heap.objs.size+1) scope.names []) (bindC (envOfC qual scope s.heap.objs.size f cd).kindOf (ps.zip us) λ_=>none) s1):
  Inv (ki CX P w K mg base N qual scope f cd A outer s H E) [] (start N vs) H s1:=by
 have D:ps.length<=N.length:=by have:=congrArg List.length S.pre;rw[aa7]at this;omega
 obtain⟨o,O,rfl,C⟩:=x.done;have j:∀b:Addr,b ∉ (ki CX P w K mg base N qual scope f cd A outer s H E).ex:=λb z=>absurd (show b∈([]:List Addr) from z) (by simp);refine⟨⟨g.mod,S.kind,rfl,rfl,aae _,λy z c o d=>?_,λy l=>?_,λy c _ h=>?_,λ_=>F,Around.frames_deeper g.frames,.inr ⟨rfl,rfl⟩,λb z=>absurd z (j b),g.bs,g.bsz,λb _ _=>j b,λb z=>absurd z (j b),g.funs,g.frf⟩,
  rfl,g.bare,Un.kept C,⟨_,x.toInCall.ns,λi y v o d M=>?_⟩,λy c h=>⟨_,x.cell y c h⟩,g.hok.fresh (aae _),λy c h=>?_,λp n=>absurd (show p∈([]:List (Addr×Obj)) from n) (by simp),g.hok.kept C,?_⟩
 ·exact name_of_addr x.apart (abg o) (abg d)
 ·have l:scope.names.lookup y=some .cell\/scope.names.lookup y=some .free:=l;rcases l with l|l
  ·exact lR l
  ·exact absurd rfl (S.nofree _ (abg l))
 ·exact aaZ (x.above y c (abg h))
 ·have t:i<vs.length:=by
   unfold start at d;by_cases t:i<vs.length
   ·exact t
   ·rw[abh (by simpa using t)]at d;rw[acD]at d;split at d<;>cases d
  have J:vs[i]?=some v:=by
   unfold start at d;rw[aaS (by simpa using t),aas]at d;cases e:vs[i]? with
   |none=>rw[e]at d;cases d
   |some a=>rw[e]at d;cases d;rfl
  obtain⟨u,B,I⟩:=r.get J;have n:ps[i]?=some y:=by rw[<-S.pre,List.getElem?_take_of_lt (by omega)];exact o
  have m:ps.Nodup:=by rw[<-S.pre];exact S.nd.sublist (List.take_sublist _ _)
  refine⟨u,I,?_⟩;rcases S.par y (aa0 n) with k|k
  ·exact .inl ⟨k,jH m n B k⟩
  ·obtain⟨c,e⟩:=lR k;refine .inr ⟨.inl k,c,e,?_⟩;have q:=x.cell y c e;rw[jI m n B (by show scope.names.lookup y≠_;rw[k];decide)]at q;exact q
 ·exact g.hok.fresh (aaZ (x.above y c (abg h)))
 ·unfold start;show _=N.length;rw[aal,aaa,abQ];omega
theorem ED{K:Waa}{X Y z U c T oc:Value}{an od:Option Addr}
  {C:Array (Option Value)}{N ps:List Str}{sp:Sp} (lk:K.lookup f=some ⟨oc,od,.func (PySem.W.fnOf name qual params body scope X Y z U an c T),C⟩) (D:PySem.W.codeIn K c qual=true) (S:FnScope N ps scope)
  (m:∀vs H Q E,sp vs H Q E->vs.length=ps.length)
  (i:∀(A:Around) (a:List Env) (s:Shared) (H:Hp) (vs:List V) (Q:VK) (E:XK),Room k (A.deeper (envOfC qual scope s.heap.objs.size f c))->sp vs H Q E ->
   ∃t,PSs (ki CX P w K mg base N qual scope f c A a s H E) body t/\t { nx:=λ_ g=>Q .non g,rt:=Q } (start N vs) H):
  FnOk P w K mg base CX (k+1) f (PySem.W.fnOf name qual params body scope X Y z U an c T) ps sp:=by
 refine⟨m,λA a s H a0 us vs Q E M l hb r p=>?_⟩;have hl:=m _ _ _ _ p;have KX:K.In s.heap:=l.mod.kin.keeps λb o e=>(l.bs b o e).1;have F:s.heap.NoLimit:=l.mod.nolimit.keeps λb o e=>(l.bs b o e).1;have h:∀y∈ps.zip us,scope.names.lookup y.1=some .local\/(scope.names.lookup y.1=some .cell/\((cellsFrom (s.heap.objs.size+1) scope.names []).lookup y.1).isSome=true):=λ⟨n,v⟩ hy=>by
  rcases S.par n (aa6 hy).1 with q|q
  ·exact .inl q
  ·exact .inr ⟨q,acC _ _ _ (.inl q)⟩
 refine codeAny_call_function M.depth (KX _ _ lk) rfl S.co S.gen rfl (PySem.W.codeRec_of KX D) (hb _ _ _ _ ?_);refine wpAny_newFunctionEnv_cells S.kind h λa1 he Z x=>?_;subst he;refine⟨F.keeps x.toInCall.keep,codeAny_func ?_⟩;obtain⟨t,ht,hq⟩:=i A a s H vs Q E (M.deeper _) p;have I:Inv (ki CX P w K mg base N qual scope f c A a s H E) [] (start N vs) H Z:=rL S M.hd l hl r x;refine ac9 (ht [] Z (start N vs) H _ I hq) (λfl L j=>?_) λe L j=>j;have B:∀{d:St}{g:Hp}{v:V}{u:Value},Inv (ki CX P w K mg base N qual scope f c A a s H E) [] d g L->RelV v u->Q v g->CE a P w H s Q u L:=
  λ{d g v u} J O q=>⟨v,g,J.os,J.bare,J.base,J.hok,O,q⟩
 cases fl with
 |ret u=>obtain⟨v,d,g,J,O,q⟩:=j;exact B J O q
 |next=>obtain⟨d,g,J,q⟩:=j;exact B (v:=V.non) (u:=Value.none) J rfl q
 |brk=>obtain⟨_,_,_,q⟩:=j;exact False.elim q
 |cont=>obtain⟨_,_,_,q⟩:=j;exact False.elim q
end
section
section
variable{X:Cx}{x:Str}{p pos:Pos}{e:Expr}{es:List Expr}{t:TA}{id T:String}{r:List V->Hp->VK->Prop}
def HB(r:List V->Hp->VK->Prop)(t:TA):TE:=λa H Q=>t a H λc b=>r c b Q
theorem cb(i:bW X (.builtin id) r) (o:Gl X x) (g:X.mg x=none) (u:bootBuiltins x=some (.builtin id)) (y:PA X (e::es) t) (q:x≠"__name__":=by decide) (c:(x==("__debug__":Str))=false:=by decide)
  (m:starEach (e::es) X.env=(false,eval e X.env)::starEach es X.env:=by rfl) (b:(backTo pos (starEach es X.env)).any (·.1)=false:=by rfl):PE X (.Call (.Name x p) (e::es) [] pos) (HB r t):=by
 intro a s d H Q I h;refine adC (dA I o g u ?_ q c);exact PyProof.Rows.callWith_builtin1 (thn (y pos a s d H _ I h) λk n ⟨v,f,l,w,j⟩=>i a n d f v k Q l w j) m b
theorem cK(i:bW X (.type T) r) (o:Gl X x) (g:X.mg x=none) (u:bootBuiltins x=some (.type T)) (y:PA X (e::es) t) (q:x≠"__name__":=by decide) (c:(x==("__debug__":Str))=false:=by decide)
  (m:starEach (e::es) X.env=(false,eval e X.env)::starEach es X.env:=by rfl) (b:(backTo pos (starEach es X.env)).any (·.1)=false:=by rfl):PE X (.Call (.Name x p) (e::es) [] pos) (HB r t):=by
 intro a s d H Q I h;refine adC (dA I o g u ?_ q c);exact abo (thn (y pos a s d H _ I h) λk n ⟨v,f,l,w,j⟩=>i a n d f v k Q l w j) m b
end
end
end L2
namespace HT
open PySem PyProof.Rows
section
variable{prog:Program}{w:World}{A:Around}{E:Value->Shared->Prop}{s:Shared}
theorem cat_tup(z:IsTup s.heap t vs.toArray)(v:IsTup s.heap b ws.toArray)(u:vs≠[])
  (y:ws=[]->Q (.ref t) s) (x:ws≠[]->Q (.ref s.heap.objs.size) { s with heap:=s.heap.push { cls:=.type "tuple",data:=.seq (vs++ws).toArray } })
  (k:vs.length+ws.length<=sizeLine):wpAny (model prog w) A (binaryOp .Add (.ref t) (.ref b)) Q E s:=by
 obtain⟨⟨cls,l,data,q⟩,i,m,n,r⟩:=id z;obtain⟨⟨p,c,j,d⟩,a,g,o,f⟩:=id v;simp only at m r g f;subst m r g f;have e:vs.toArray++ws.toArray=(vs++ws).toArray:=by simp
 by_cases h:ws=[]
 ·exact concat_meets ⟨_,i,rfl⟩ ⟨_,a,rfl⟩ adM seq_tuple_add acE acF (acG _ _)
   (tuple_addW1 t b vs.toArray ws.toArray n o l c q d (by simpa using u) (by simp[h])) ⟨i,a,y h⟩
 ·refine concat_meets ⟨_,i,rfl⟩ ⟨_,a,rfl⟩ adM seq_tuple_add acE acF (acG _ _)
   (tuple_addW2 t b vs.toArray ws.toArray n o l c q d (by simpa using u) (by simpa using h) (by rw[aaz,aaz];exact k)) ⟨i,a,?_⟩
  rw[e];exact x h
def sIx(n d:Nat):Option Int->Nat
 |none=>d
 |some v=>if v<0 then (v+(n:Int)).toNat else min v.toNat n
end
end HT
namespace L2
open PySem PySem.Spec PyProof.Rows
section
abbrev TO:=St->Hp->(Option Int->Hp->Prop)->Prop
def PO(X:Cx)(e:Option Expr)(t:TO):Prop:=
 ∀(a:List (Addr×Obj)) (s:Shared) (b:St) (H:Hp) (Q:Option Int->Hp->Prop),Inv X a b H s->t b H Q ->
  wpAny (model X.prog X.w) X.A (evalPart e X.env) (λu d=>∃o c,Inv X a b c d/\IsPart u o/\Q o c) X.xe s
def tNoPart:TO:=λ_ H Q=>Q none H
def EE(t:TE):TO:=λa H Q=>t a H λx b=>∃i,x=.int i/\Q (some i) b
section
variable{X:Cx}{e:Expr}{te:TE}{lo hi:Option Expr}{tl th:TO}{pos p2:Pos}
def xY:PO X none tNoPart:=by intro a s b H Q I h;rw[evalPart_none];exact ac4 ⟨none,H,I,.none,h⟩
def xZ(h:PE X e te):PO X (some e) (EE te):=by intro a s j H Q I g;rw[evalPart_some];refine thn (h a s j H _ I g) λu l f=>?_;obtain⟨x,b,d,k,c⟩:=f;obtain⟨i,rfl,q⟩:=c;obtain⟨t,rfl⟩:=k;exact⟨some i,b,d,.int i t,q⟩
def Jd(X:Cx)(r:V->Option Int->Option Int->Hp->VK->Prop):Prop:=
 ∀(a:List (Addr×Obj)) (s:Shared) (c:St) (H:Hp) (x:V) (v f d:Value) (lo hi:Option Int) (b:Addr) (Q:VK),Inv X a c H s->RelV x v->s.heap.IsSliceOf b f d .none->IsPart f lo->IsPart d hi->r x lo hi H Q ->
  ∃T g,typeLookup (.type T) "__getitem__"=pure (some (.builtin g))/\s.TypeIs v T/\wpAny (model X.prog X.w) X.A (getItem v (.ref b)) (EP X a c Q) X.xe s
def JJ(r:V->Option Int->Option Int->Hp->VK->Prop)(te:TE)(tl th:TO):TE:=λa H Q=>te a H λx b=>tl a b λl d=>th a d λu c=>r x l u c Q
theorem tT{r:V->Option Int->Option Int->Hp->VK->Prop}(L:Jd X r)(t:PE X e te)(z:PO X lo tl)(n:PO X hi th):PE X (.Subscript e (.Slice lo hi none p2) pos) (JJ r te tl th):=by intro a s d H Q I h;refine Subscript_ (thn (t a s d H _ I h) λv C i=>?_);obtain⟨x,k,p,W,m⟩:=i;refine wpAny_Slice (thn (z a C d k _ p m) λg P ⟨l,B,y,S,U⟩=>thn (n a P d B _ y U) λf c i=>?_);obtain⟨u,j,F,o,D⟩:=i;rw[evalPart_none];refine ac4 ?_;have M:Inv X a d j { c with heap:=c.heap.push { cls:=.type "slice",data:=.fields #[g,f,.none] } }:=F.kept (t':=c.toks) λb Z q=>ac6 _ q;obtain⟨T,Y,O,N,J⟩:=L a { c with heap:=c.heap.push { cls:=.type "slice",data:=.fields #[g,f,.none] } } d j x v g f l u c.heap.objs.size Q M W (Heap.IsSliceOf.new ..) S o D;show wpAny (model X.prog X.w) X.A (subscriptTail e (.Slice lo hi none p2) v (.ref c.heap.objs.size)) (EP X a d Q) X.xe { c with heap:=c.heap.push { cls:=.type "slice",data:=.fields #[g,f,.none] } };exact tail_any (ops:=[.ref c.heap.objs.size,v]) N O J (by with_unfolding_all rfl)
def BM(xs:List V)(lo hi:Option Int):List V:=(xs.drop (HT.sIx xs.length 0 lo)).take (HT.sIx xs.length xs.length hi-HT.sIx xs.length 0 lo)
def lS(xs:List V)(lo hi:Option Int):(BM xs lo hi).length<=xs.length:=by unfold BM;rw[aa7,acg];omega
def EF(K:Waa):R2:=λx y H Q=>∃a b d c,x=.ref a/\y=.ref b/\SqT K H a d/\SqT K H b c/\d≠[]/\d.length+c.length<=sizeLine /\
 (c=[]->Q (.ref a) H)/\(c≠[]->∀p,H p=none->Q (.ref p) (upd H p (.tup (d++c))))
theorem Vals.l3(r:Vals xs us):us=[] ↔ xs=[]:=by
 cases r with
 |nil=>simp
 |cons _ _=>simp
theorem ya:OpR X (binaryOp .Add) (EF X.K):=by intro f s C H x y v u Q I j p h;obtain⟨a,b,A,D,rfl,rfl,r,l,n,g,k,o⟩:=h;cases j;cases p;obtain⟨t,d,m,_⟩:=I.tuple r;obtain⟨i,c,p2,_⟩:=I.tuple l;refine HT.cat_tup m p2 (λz=>n (d.l3.mp z)) (λz=>⟨.ref a,H,I,rfl,k (c.l3.mp z)⟩) (λz=>?_) (by rw[<-d.length,<-c.length];exact g);refine⟨.ref s.heap.objs.size,_,I.laid (λb B q=>ac6 _ q) (aae _) ?_,rfl,o (λw=>z (c.l3.mpr w)) _ (I.hok.fresh (aae _))⟩;exact⟨by rw[aal];exact g,_,d.append c,⟨_,ac7 _ rfl,rfl,_,rfl,rfl⟩⟩
end
end
section
def ixN(n:Nat)(i:Int):Option Nat:=if 0<=i then (if i<n then some i.toNat else none) else if -(n:Int)<=i then some (i+n).toNat else none
def atI{a:Type}(xs:List a)(i:Int):Option a:=(ixN xs.length i).bind λj=>xs[j]?
theorem ixN_seq(h:ixN n i=some j):seqIndex? i n=some j/\j<n/\-(n:Int)<=i/\i<n:=by
 unfold ixN at h;by_cases b:0<=i
 ·rw[if_pos b]at h;by_cases a:i<n
  ·rw[if_pos a]at h;have e:i.toNat=j:=aaC h;exact⟨by rw[seqIndex_of b a,e],by omega,by omega,a⟩
  ·rw[if_neg a]at h;cases h
 ·rw[if_neg b]at h;by_cases a:-(n:Int)<=i
  ·rw[if_pos a]at h;have e:(i+n).toNat=j:=aaC h;exact⟨by rw[seqIndex_neg (by omega) a,e],by omega,a,by omega⟩
  ·rw[if_neg a]at h;cases h
theorem atI_get{a:Type}{xs:List a}{i:Int}{v:a}(h:atI xs i=some v):∃j,seqIndex? i xs.length=some j/\xs[j]?=some v/\j<xs.length/\-(xs.length:Int)<=i/\i<xs.length:=by
 unfold atI at h;cases e:ixN xs.length i with
 |none=>rw[e]at h;cases h
 |some j=>rw[e]at h;obtain⟨b,d,c,f⟩:=ixN_seq e;exact⟨j,b,h,d,c,f⟩
def PlainIx(b:Expr):Prop:=∀o i,subscripted b false o i=operate [o,i] (getItem o i)
def IxR(X:Cx)(r:R2):Prop:=
 ∀(c a:Expr) (b:List (Addr×Obj)) (s:Shared) (d:St) (H:Hp) (x y:V) (v u:Value) (Q:VK),Inv X b d H s->RelV x v->RelV y u->r x y H Q ->
  subscripted a false v u=operate [v,u] (getItem v u)->wpAny (model X.prog X.w) X.A (subscriptTail c a v u) (EP X b d Q) X.xe s
def Je(X:Cx)(id:String)(r:V->List V->Hp->VK->Prop):Prop:=
 ∀(a:List (Addr×Obj)) (s:Shared) (b:St) (H:Hp) (x:V) (c:List V) (v:Value) (d:List Value) (Q:VK),Inv X a b H s->RelV x v->Vals c d->r x c H Q ->
  wpAny (model X.prog X.w) X.A (call (.builtin id) (v::d)) (EP X a b Q) X.xe s
section
variable{X:Cx}{a b:Expr}{ta tb:TE}{pos:Pos}
def IxR.or(h:IxR X r)(h':IxR X r'):IxR X (λx y H Q=>r x y H Q\/r' x y H Q):=by
 intro c d e s f H x y v u Q I g j q i;rcases q with q|q
 ·exact h c d e s f H x y v u Q I g j q i
 ·exact h' c d e s f H x y v u Q I g j q i
def tU(g:IxR X r)(l:PE X a ta)(e:PE X b tb)(hs:PlainIx b):PE X (.Subscript a b pos) (Bw r ta tb):=by intro c s i H Q I h;exact Subscript_ (By l e I h λv u j x y f m d k q=>g a b c j i f x y v u Q m d k q (hs _ _))
def EG(K:Waa):R2:=λx y H Q=>∃p c i v,x=.ref p/\y=.int i/\SqL K H p c/\atI c i=some v/\Q v H
def EH(K:Waa):R2:=λx y H Q=>∃p c i v,x=.ref p/\y=.int i/\SqT K H p c/\atI c i=some v/\Q v H
def rIxS:R2:=λx y H Q=>∃z i c,x=.str z/\y=.int i/\z.length<=sizeLine/\atI z.cps.toList i=some c/\Q (.str ⟨#[c]⟩) H
theorem ix_list:IxR X (EG X.K):=by
 intro g m c s A H x y v u Q I D S h B;obtain⟨p,U,i,z,rfl,rfl,M,F,q⟩:=h;cases D;obtain⟨t,rfl⟩:=S;obtain⟨l,r,n,W⟩:=I.list M;obtain⟨j,e,P,T,N,J⟩:=atI_get F;obtain⟨w,C,k⟩:=r.get P;have L:=r.length;have Y:=line63;have d:EP X c A Q w s:=⟨z,H,I,k,q⟩
 by_cases o:0<=i
 ·have f:i.toNat=j:=by rw[seqIndex_of o J]at e;exact aaC e
  exact item_listR n.isList o (by omega) (by rw[f];simpa using C) d B
 ·have f:(i+(l.toArray.size:Int)).toNat=j:=by rw[seqIndex_neg (by omega) N]at e;rw[aaz,<-L];exact aaC e
  exact subscriptTail_builtinR (x:=w) n.isList.typeIs slot_list_getitem.lookup
   (wpAny_getItem_list_neg (Q:=λr O=>r=w/\EP X c A Q r O) n.isList (by omega) (by rw[aaz]<;>omega) (by omega) (by rw[f];simpa using C) ⟨rfl,d⟩) B
theorem ix_tup:IxR X (EH X.K):=by
 intro d g c s k H x y v u Q I m L h J;obtain⟨p,S,i,z,rfl,rfl,A,n,q⟩:=h;cases m;obtain⟨t,rfl⟩:=L;obtain⟨B,r,l,T⟩:=I.tuple A;obtain⟨j,F,D,O,P,N⟩:=atI_get n;obtain⟨w,M,e⟩:=r.get D;have o:=r.length;have U:=line63;have f:EP X c k Q w s:=⟨z,H,I,e,q⟩
 exact subscriptTail_builtinR (x:=w) l.typeIs slot_tuple_getitem.lookup
  (getItem_tuple (j:=j) (Q:=λr C=>r=w/\EP X c k Q r C) l (by omega) (by omega) (by rw[aaz,<-o];exact F) (by simpa using M) ⟨rfl,f⟩) J
theorem BN:IxR X rIxS:=by
 intro d e f s L H x y v u Q I k A h w;obtain⟨z,i,c,rfl,rfl,F,l,q⟩:=h;obtain⟨t,rfl⟩:=k;obtain⟨D,rfl⟩:=A;obtain⟨j,g,r,C,o,m⟩:=atI_get l;have n:z.cps.toList.length=z.length:=by simp[Str.length]
 rw[n]at g o m;have J:=line63;exact tail_any (typeIs_str s z t) slot_str_getitem.lookup (getItem_str (c:=c) (by
  have B:decide (i < -(2^63:Int))=false:=Dab (by omega);have p:decide (i ≥ 2^63)=false:=Dab (by omega);rw[B,p,ach]) (by rw[g];simpa using r) ⟨.str ⟨#[c]⟩,H,I.tok _,⟨_,rfl⟩,q⟩) w
def Jf(K:Waa):R2:=λx y H Q=>EG K x y H Q\/EH K x y H Q\/rIxS x y H Q
def nP:IxR X (Jf X.K):=ix_list.or (ix_tup.or BN)
def nQ(c:List Value)(n j:Nat)(u:Value):Obj.mapSeq (·.setIfInBounds j u) { cls:=.type "list",data:=.seq c.toArray n }={ cls:=.type "list",data:=.seq (c.set j u).toArray n }:=by simp[Obj.mapSeq]
def Inv.lst{d:List (Addr×Obj)}{σ:St}(I:Inv X d σ H s)(h:H p=some (.lst xs)):
  ∃(c:List Value) (n:Nat),Vals xs c/\s.heap.get? p=some { cls:=.type "list",data:=.seq c.toArray n }/\xs.length<=sizeLine:=by
 obtain⟨z,c,n,r,e⟩:=I.hok p _ h;exact⟨c,n,r,e,z⟩
theorem Inv.lstUpd{xs ys:List V}{d c:List Value}{n g:Nat}{f:Obj->Obj}(I:Inv X pins σ H s)(h:H p=some (.lst xs))
  (l:s.heap.get? p=some { cls:=.type "list",data:=.seq d.toArray n }) (i:f { cls:=.type "list",data:=.seq d.toArray n }={ cls:=.type "list",data:=.seq c.toArray g }) (r:Vals ys c) (k:ys.length<=sizeLine) (t:Nat):
  Inv X pins σ (upd H p (.lst ys)) { s with heap:=s.heap.update p f,toks:=t }:=by
 have e:(s.heap.update p f).get? p=some { cls:=.type "list",data:=.seq c.toArray g }:=by rw[adf f l (by rw[i]<;>rfl),i]
 refine I.write (by rw[h];trivial) (.inl rfl) (λb u j q=>(adD _ _ (aaE j)).trans q) ⟨_,e⟩ ?_;exact⟨k,c,g,r,e⟩
def rSetL:V->V->V->Hp->(Hp->Prop)->Prop:=λo i v H Q=>∃p c k j,o=.ref p/\i=.int k/\H p=some (.lst c)/\ixN c.length k=some j/\Q (upd H p (.lst (c.set j v)))
theorem set_list:PSet X rSetL:=by
 intro c s L H o i v O M u Q I A C J h;obtain⟨p,D,k,j,rfl,rfl,z,B,q⟩:=h;cases A;obtain⟨t,rfl⟩:=C;obtain⟨d,n,r,g,F⟩:=I.lst z;obtain⟨e,N,x,y⟩:=ixN_seq B;have f:=r.length;have P:=line63;have m:Inv X c L (upd H p (.lst (D.set j v))) { s with heap:=s.heap.update p (Obj.mapSeq (·.setIfInBounds j u)) }:=
  I.lstUpd z g (nQ d n j u) (r.set J j) (by rw[aci];exact F) s.toks
 by_cases w:0<=k
 ·have l:k.toNat=j:=by rw[seqIndex_of w y]at e;exact aaC e
  exact PySem.W.ki_setAt g w (by omega) (by rw[aaz,<-f];exact y) (by rw[l];exact⟨_,m,q⟩)
 ·have l:(k+(d.toArray.size:Int)).toNat=j:=by rw[seqIndex_neg (by omega) x]at e;rw[aaz,<-f];exact aaC e
  exact PySem.W.ki_setBack g (by omega) (by rw[aaz,<-f];exact x) (by omega) (by rw[l];exact⟨_,m,q⟩)
theorem kj(lo hi:Option Int)(n:Nat):(sliceBounds lo hi none n).1=((HT.sIx n 0 lo:Nat):Int)/\(sliceBounds lo hi none n).2.1=((HT.sIx n n hi:Nat):Int)/\(sliceBounds lo hi none n).2.2=1:=by
 refine⟨?_,?_,rfl⟩
 ·cases lo with
  |none=>simp[sliceBounds,HT.sIx]
  |some i=>
   simp only[sliceBounds,HT.sIx,Option.getD_none,show (1:Int)>0 by decide,if_true];by_cases h:i<0
   ·simp only[h,if_true]<;>omega
   ·simp only[h,if_false]<;>omega
 ·cases hi with
  |none=>simp[sliceBounds,HT.sIx]
  |some i=>
   simp only[sliceBounds,HT.sIx,Option.getD_none,show (1:Int)>0 by decide,if_true];by_cases h:i<0
   ·simp only[h,if_true]<;>omega
   ·simp only[h,if_false]<;>omega
theorem jr(c:List Value)(lo hi:Option Int):slicePick c.toArray lo hi none=((c.drop (HT.sIx c.length 0 lo)).take (HT.sIx c.length c.length hi-HT.sIx c.length 0 lo)).toArray:=by obtain⟨d,e,f⟩:=kj lo hi c.toArray.size;unfold slicePick;rw[d,e,f];simp only[sliceRange_one,pick_run,aaz]<;>rfl
def HC(K:Waa):V->Option Int->Option Int->Hp->VK->Prop:=λx d e H Q=>∃a c,x=.ref a/\SqL K H a c/\∀p,H p=none->Q (.ref p) (upd H p (.lst (BM c d e)))
theorem yb:Jd X (HC X.K):=by intro f s z H x v y u e i t Q I j n o k h;obtain⟨a,d,rfl,l,q⟩:=h;cases j;obtain⟨p,r,g,m⟩:=I.list l;have c:=r.length;refine⟨"list",_,slot_list_getitem.lookup,g.isList.typeIs,?_⟩;refine wpAny_getItem_list_slice g.isList n o k .none (by simp) ?_ (by rw[aaz]<;>omega);rw[jr,<-c];refine⟨.ref s.heap.objs.size,_,I.laid (λb w q=>ac6 _ q) (aae _) ?_,rfl,q _ (I.hok.fresh (aae _))⟩;exact⟨aax (lS d e i) m,_,0,(r.drop (HT.sIx d.length 0 e)).take (HT.sIx d.length d.length i-HT.sIx d.length 0 e),ac7 _ rfl⟩
def cC:V->Bool
 |.non=>true
 |.bl _=>true
 |.int _=>true
 |.str _=>true
 |_=>false
def eqV:V->V->Bool
 |.non,.non=>true
 |.bl a,.bl b=>a==b
 |.bl a,.int b=>(if a then 1 else 0)==b
 |.int a,.bl b=>a==(if b then 1 else 0)
 |.int a,.int b=>a==b
 |.str a,.str b=>a==b
 |_,_=>false
theorem BO(e:RelV y u)(c:RelV x v)(g:cC y=true)(f:cC x=true):SeqAt.EqAt A s u v (eqV y x):=by
 cases y with
 |non=>
  cases e;cases x with
  |non=>cases c;exact SeqAt.EqAt.same _
  |bl b=>cases c;exact SeqAt.EqAt.none_bool b
  |int b=>obtain⟨t,rfl⟩:=c;exact SeqAt.EqAt.none_int b t
  |str b=>obtain⟨t,rfl⟩:=c;exact SeqAt.EqAt.none_str b t
  |_=>exact absurd (show false=true from f) aak
 |bl a=>
  cases e;cases x with
  |non=>cases c;exact SeqAt.EqAt.bool_none a
  |bl b=>cases c;exact SeqAt.EqAt.bool_bool a b
  |int b=>obtain⟨t,rfl⟩:=c;exact SeqAt.EqAt.bool_int a b t
  |str b=>obtain⟨t,rfl⟩:=c;exact SeqAt.EqAt.bool_str a b t
  |_=>exact absurd (show false=true from f) aak
 |int a=>
  obtain⟨d,rfl⟩:=e;cases x with
  |non=>cases c;exact SeqAt.EqAt.int_none a d
  |bl b=>cases c;exact SeqAt.EqAt.int_bool a d b
  |int b=>obtain⟨t,rfl⟩:=c;exact SeqAt.EqAt.int_int a d b t
  |str b=>obtain⟨t,rfl⟩:=c;exact SeqAt.EqAt.int_str a d b t
  |_=>exact absurd (show false=true from f) aak
 |str a=>
  obtain⟨d,rfl⟩:=e;cases x with
  |non=>cases c;exact SeqAt.EqAt.str_none a d
  |bl b=>cases c;exact SeqAt.EqAt.str_bool a d b
  |int b=>obtain⟨t,rfl⟩:=c;exact SeqAt.EqAt.str_int a d b t
  |str b=>obtain⟨t,rfl⟩:=c;exact SeqAt.EqAt.str_str a d b t
  |_=>exact absurd (show false=true from f) aak
 |_=>exact absurd (show false=true from g) aak
def nR(x:V)(u:Value):Bool:=match u with
 |.none=>eqV .non x
 |.bool b=>eqV (.bl b) x
 |.int i _=>eqV (.int i) x
 |.str z _=>eqV (.str z) x
 |_=>false
def tV(r:RelV y u)(f:cC y=true):nR x u=eqV y x:=by
 cases y with
 |non=>cases r;rfl
 |bl b=>cases r;rfl
 |int i=>obtain⟨t,rfl⟩:=r;rfl
 |str z=>obtain⟨t,rfl⟩:=r;rfl
 |_=>exact absurd (show false=true from f) aak
theorem eY:∀{xs:List V}{us:List Value},Vals xs us->xs.all cC=true->us.any (nR x)=xs.any λy=>eqV y x
 |_,_,.nil,_=>rfl
 |y::xs,u::us,.cons r t,f=>by rw[List.all_cons,aaG]at f;rw[aaV,aaV,tV r f.1,eY t f.2]
theorem dB(d:RelV x v)(e:cC x=true):∀{xs:List V}{us:List Value},Vals xs us->xs.all cC=true->∀u∈us,SeqAt.EqAt A s u v (nR x u)
 |_,_,.nil,_=>λu c=>by cases c
 |y::xs,u::us,.cons r t,f=>λg c=>by
  rw[List.all_cons,aaG]at f;rcases aab.mp c with rfl|c
  ·rw[tV r f.1];exact BO r d f.1 e
  ·exact dB d e t f.2 g c
def inV(x:V)(xs:List V):Bool:=xs.any λy=>eqV y x
def HD(K:Waa)(d:Bool):R2:=λx y H Q=>∃p c,y=.ref p/\(SqL K H p c\/SqT K H p c)/\cC x=true/\c.all cC=true/\Q (.bl (if d then !inV x c else inV x c)) H
theorem rM:OpR X (compareOp .In) (HD X.K false):=by
 intro j s o H x y v u Q I i m h;obtain⟨p,n,rfl,d,k,e,q⟩:=h;cases m;rcases d with d|d
 ·obtain⟨c,r,g,l⟩:=I.list d;refine SeqAt.in_listAt (nR x) g.isList (λw f=>dB i k r e w (by simpa using f)) ⟨.bl _,H,I,rfl,?_⟩;rw[show c.toArray.any (nR x)=c.any (nR x) by simp,eY r e];exact q
 ·obtain⟨c,r,g,l⟩:=I.tuple d;refine SeqAt.in_tupleAt (nR x) g (λw f=>dB i k r e w (by simpa using f)) ⟨.bl _,H,I,rfl,?_⟩;rw[show c.toArray.any (nR x)=c.any (nR x) by simp,eY r e];exact q
theorem kl:OpR X (compareOp .NotIn) (HD X.K true):=by
 intro j s o H x y v u Q I i m h;obtain⟨p,n,rfl,d,k,e,q⟩:=h;cases m;rcases d with d|d
 ·obtain⟨c,r,g,l⟩:=I.list d;refine SeqAt.notIn_listAt (nR x) g.isList (λw f=>dB i k r e w (by simpa using f)) ⟨.bl _,H,I,rfl,?_⟩;rw[show c.toArray.any (nR x)=c.any (nR x) by simp,eY r e];exact q
 ·obtain⟨c,r,g,l⟩:=I.tuple d;refine SeqAt.notIn_tupleAt (nR x) g (λw f=>dB i k r e w (by simpa using f)) ⟨.bl _,H,I,rfl,?_⟩;rw[show c.toArray.any (nR x)=c.any (nR x) by simp,eY r e];exact q
theorem km:bW X (.type "list") (λxs H Q=>∃p ys,xs=[.ref p]/\(SqL X.K H p ys\/SqT X.K H p ys)/\∀l,H l=none->Q (.ref l) (upd H l (.lst ys))):=by
 intro j s D H xs F Q I r h;obtain⟨p,ys,rfl,m,q⟩:=h;obtain⟨u,rfl,C⟩:=vals1 r;cases C;have t:∀(c:List Value),Vals ys c->ys.length<=sizeLine->∀(d:Heap) (f:Nat),(∀b B,s.heap.get? b=some B->d.get? b=some B) ->
   d.get? s.heap.objs.size=some { cls:=.type "list",dict:=none,data:=.seq c.toArray f,slots:=#[] }->EP X j D Q (.ref s.heap.objs.size) { s with heap:=d }:=λc g v d f i e=>
  ⟨.ref s.heap.objs.size,_,I.laid i (aae _) (show ObjOk X.prog X.w _ d _ (.lst ys) from ⟨v,c,f,g,e⟩),rfl,q _ (I.hok.fresh (aae _))⟩
 rcases m with m|m
 ·obtain⟨c,g,z,v⟩:=I.list m;have k:=g.length;obtain⟨o,A,x,n,y⟩:=z.isList;exact call_list_seq p (.inl rfl) A x y (λd f i e=>t c g v d f i e) (by simp only[aaz]<;>omega)
 ·obtain⟨c,g,z,v⟩:=I.tuple m;have k:=g.length;obtain⟨o,A,x,n,y⟩:=z;exact call_list_seq p (.inr rfl) A x y (λd f i e=>t c g v d f i e) (by simp only[aaz]<;>omega)
theorem jt:bW X (.type "tuple") (λxs H Q=>∃p ys,xs=[.ref p]/\((SqL X.K H p ys/\∀l,H l=none->Q (.ref l) (upd H l (.tup ys)))\/(SqT X.K H p ys/\Q (.ref p) H))):=by
 intro c s t H xs z Q I r h;obtain⟨p,ys,rfl,h⟩:=h;obtain⟨u,rfl,v⟩:=vals1 r;cases v;rcases h with ⟨g,q⟩|⟨g,q⟩
 ·obtain⟨d,i,j,n⟩:=I.list g;have m:=i.length;refine call_tuple_list j.isList (λf x=>?_) (by simp only[aaz]<;>omega);have k:Inv X c t H { s with heap:=f }:=I.kept x;have y:Inv X c t (upd H f.objs.size (.tup ys)) { s with heap:=f.push { cls:=.type "tuple",data:=.seq d.toArray } }:=
   k.laid (λb o e=>ac6 _ e) (aae _) (show ObjOk X.prog X.w _ _ _ (.tup ys) from ⟨n,d,i,⟨_,ac7 _ rfl,rfl,_,rfl,rfl⟩⟩)
  exact⟨.ref f.objs.size,_,y,rfl,q _ (k.hok.fresh (aae _))⟩
 ·obtain⟨d,i,j,n⟩:=I.tuple g;exact call_tuple_same j ⟨.ref p,H,I,rfl,q⟩
def Jg(K:Waa)(T:String)(x:V)(H:Hp):Prop:=match x with
 |.str _=>T="str"
 |.int _=>T="int"
 |.ref p=>(T="list"/\∃d,SqL K H p d)\/(T="tuple"/\∃d,SqT K H p d) \/
   (T="dict"/\((∃c,H p=some (.dK c))\/∃c,H p=some (.dT c)))\/(T="set"/\∃S n,H p=some (.set S n))
 |_=>False
theorem BP{g:List (Addr×Obj)}{σ:St}(I:Inv X g σ H s)(r:RelV x v)(h:Jg X.K T x H):
  s.TypeIs v T/\∀a,v=.ref a->∃l,s.heap.get? a=some l/\l.dict=none:=by
 cases x with
 |str z=>obtain⟨t,rfl⟩:=r;cases (show T="str" from h);exact⟨typeIs_str s z t,λ_ e=>nomatch e⟩
 |int i=>obtain⟨t,rfl⟩:=r;cases (show T="int" from h);exact⟨typeIs_int s i t,λ_ e=>nomatch e⟩
 |ref p=>
  cases r;rcases h with ⟨rfl,A,w⟩|⟨rfl,A,f⟩|⟨rfl,f⟩|⟨rfl,S,n,f⟩
  ·obtain⟨C,_,q,_⟩:=I.list w;refine⟨q.isList.typeIs,λa e=>?_⟩;cases e;obtain⟨o,n,e,c,y,_⟩:=q;exact⟨o,e,y⟩
  ·obtain⟨o,m,B,u⟩:=I.tupN f;refine⟨⟨o,m,B⟩,λa e=>?_⟩;cases e;exact⟨o,m,u⟩
  ·have z:∃o,s.heap.get? p=some o/\o.ExactDict:=by
    rcases f with ⟨k,f⟩|⟨k,f⟩
    ·obtain⟨_,_,_,_,o,_,_,e,d,_⟩:=I.hok p _ f;exact⟨o,e,d⟩
    ·obtain⟨_,_,_,_,o,_,_,e,d,_⟩:=I.hok p _ f;exact⟨o,e,d⟩
   obtain⟨o,e,d⟩:=z;refine⟨⟨o,e,d.1⟩,λa j=>?_⟩;cases j;exact⟨o,e,d.2.1⟩
  ·obtain⟨o,_,_,_,e,d,_⟩:=I.hok p _ f;refine⟨⟨o,e,d.1⟩,λa j=>?_⟩;cases j;exact⟨o,e,d.2.1⟩
 |_=>exact False.elim h
def JK(K:Waa)(T:String)(r:V->List V->Hp->VK->Prop)(f:TE)(t:TA):TE:=λc H Q=>f c H λx d=>Jg K T x d/\t c d λe g=>r x e g Q
variable{o e:Expr}{es:List Expr}{to:TE}{t:TA}{name:Str}{apos cpos:Pos}{T id:String}{r:V->List V->Hp->VK->Prop}
theorem pk(B:PlainAttrs T) (i:Slot T name id) (k:typeOf (.builtin id)=pure (.type "method_descriptor")) (w:Je X id r) (S:PE X o to) (U:PA X (e::es) t)
  (g:attributeBase o name X.env (eval o X.env)=eval o X.env:=by rfl)
  (j:((backTo cpos (starEach (e::es) X.env)).all (λx=>!x.1)&&(backToKw cpos (keywordEach [] X.env)).all (λx=>x.1.isSome)
   && decide ((e::es).length+([]:List Keyword).length+(if ([]:List Keyword).isEmpty then 0 else 1)<30))=true:=by rfl)
  (f:(apos.endLine==cpos.line)=true:=by rfl) (O:starEach (e::es) X.env=(false,eval e X.env)::starEach es X.env:=by rfl) (d:(backTo cpos (starEach es X.env)).any (·.1)=false:=by rfl):
  PE X (.Call (.Attribute o name apos) (e::es) [] cpos) (JK X.K T r to t):=by
 intro c s l H Q I h;refine wpAny_Call_method_late g j f rfl (thn (S c s l H _ I h) λv F C=>?_);obtain⟨x,q,m,p,u,z⟩:=C;obtain⟨L,J⟩:=BP m p u;refine⟨T,id,B,i,k,L,J,?_⟩;have n:=U cpos c F l q _ m z;rw[O]at n ⊢;refine Calls.callWith_builtin (by show (false||(backTo cpos (starEach es X.env)).any (·.1))=false;rw[d]<;>rfl) (Calls.evalArgs_plain ?_);exact thn n λA N ⟨M,D,W,y,P⟩=>w c N l D x M v A Q W p y P
end
end
section
def JL(X:Cx)(id:String)(r:V->List V->Hp->VK->Prop):Prop:=
 ∀(a:List (Addr×Obj)) (s:Shared) (b:St) (H:Hp) (x:V) (c:List V) (v:Value) (d:List Value) (Q:VK),Inv X a b H s->RelV x v->Vals c d->r x c H Q ->
  wpAny (model X.prog X.w) X.A (call (.builtin id) (v::d)) (EP X a b Q) X.xe s
def Vals.one(h:Vals [x] us):∃u,us=[u]/\RelV x u:=by
 cases h with|cons r t=>cases t;exact⟨_,rfl,r⟩
def Vals.two(h:Vals [x,y] us):∃u v,us=[u,v]/\RelV x u/\RelV y v:=by
 cases h with|cons r t=>cases t with|cons q t=>cases t;exact⟨_,_,rfl,r,q⟩
section
variable{X:Cx}{pins:List (Addr×Obj)}{σ:St}{H:Hp}{s:Shared}{l b:Addr}{xs ys zs:List V}
theorem Inv.lset{c a:List Value}{n:Nat}{f:Array Value->Array Value}{t':Nat}(I:Inv X pins σ H s)(h:H l=some (.lst xs))
  (e:s.heap.get? l=some { cls:=.type "list",data:=.seq c.toArray n }) (g:f c.toArray=a.toArray) (d:Vals ys a) (j:ys.length<=sizeLine):
  Inv X pins σ (upd H l (.lst ys)) { s with heap:=s.heap.update l (Obj.mapSeq f),toks:=t' }:=by
 have q:=PySem.IsL.update e f;rw[g]at q;refine I.write (by rw[h];exact trivial) (.inl rfl) (λm u k i=>(adD s.heap (Obj.mapSeq f) (aaE k)).trans i) ⟨_,q⟩ ?_;exact⟨j,a,_,d,q⟩
def Inv.lnew{t':Nat}(I:Inv X pins σ H s)(a:Vals ys its)(c:ys.length<=sizeLine):
  Inv X pins σ (upd H s.heap.objs.size (.lst ys)) { s with heap:=s.heap.push { cls:=.type "list",data:=.seq its.toArray },toks:=t' }:=
 I.laid (λ_ _ q=>ac6 _ q) (aae _) ⟨c,its,0,a,ac7 _ rfl⟩
def Inv.lstM(I:Inv X pins σ H s)(c:H l=some (.lst xs)):xs.length<=sizeLine/\∃(a:List Value) (n:Nat),Vals xs a/\xs.length=a.length/\s.heap.get? l=some { cls:=.type "list",data:=.seq a.toArray n }:=by obtain⟨z,a,n,r,e⟩:=I.hok l _ c;exact⟨z,a,n,r,r.length,e⟩
end
section
variable{X:Cx}
def rAppend:V->List V->Hp->VK->Prop:=λx b H Q=>∃l a y,x=.ref l/\b=[y]/\H l=some (.lst a)/\a.length<sizeLine/\Q .non (upd H l (.lst (a++[y])))
theorem eh:JL X "list.append" rAppend:=by intro b s o H x p v i Q I d g h;obtain⟨l,k,y,rfl,rfl,c,m,q⟩:=h;cases d;obtain⟨u,rfl,f⟩:=g.one;obtain⟨z,a,n,r,j,e⟩:=I.lstM c;refine call_meets F.slot_list_append ⟨_,e,rfl⟩ F.entry_list_append (F.args_list_append_2 _ _) (PySem.list_append l a.toArray n u (by rw[aaz];omega)) ⟨e,?_⟩;refine⟨.non,_,I.lset c e (by simp) (r.append (.cons f .nil)) ?_,rfl,q⟩;rw[aal,aaH];omega
end
section
variable{prog:Program}{w:World}{A:Around}{E:Value->Shared->Prop}{s:Shared}
set_option maxRecDepth 100000 in
end
end
end L2
namespace Att
open PySem PySem.W PySem.Calls PyProof.Rows
def gW:∀(ns:List Int) (vs:List Value),WellAll P h vs (ns.map WData.int)->IntsAre vs ns:=by
 intro ns;induction ns with
 |nil=>intro vs w;rw[aaD]at w;cases w;exact .nil
 |cons n ns c=>
  intro vs w;rw[aam]at w;cases w with
  |cons a b=>cases a;exact .cons _ _ (c _ b)
theorem rN{l:OpenLaw}(s:l.most=some n)
  (b:l.row.toRowW.claim.pre args=true) (j:WellAll P h vals args):
  ∃a vs ns,vals=[Value.ref a]/\args=[WData.list (ns.map WData.int)]/\h.get? a=some { cls:=.type "list",data:=.seq vs.toArray }/\IntsAre vs ns/\ns.length<=n:=by
 have i:WShape.hasAll [] args [.list .int]=true:=(pre_splitW b).1;have k:l.pre.holds [] { args:=args }=true:=(pre_splitW b).2;obtain⟨d,r,rfl,t,p⟩:=hasAllW_cons i;obtain rfl:=hasAllW_nil p;obtain⟨x,rfl,m⟩:=hasW_list t;obtain⟨ns,rfl⟩:=items_int m;have c:ns.length<=n:=by
  unfold OpenLaw.pre at k;have g:(WTm.not (.lt (.lit (.int (n:Int))) (.len (.arg 0)))).holds [] { args:=[.list (ns.map .int)] }=true:=by have g:=(holds_andW k).1;rw[s]at g;exact g
  have f:=condW_of g (w_not (w_lt w_lit (w_len_list (w_arg rfl))));rw[aaa]at f;refine Nat.le_of_not_lt λq=>?_;have o:(n:Int)<((ns.length:Nat):Int):=by omega
  first
   | (rw[Dac o]at f;exact absurd f (by decide))
   | (simp at f;omega)
 cases j with
 |cons v u=>
  cases u;cases v with
  |list w e=>exact⟨_,_,ns,rfl,rfl,w,gW ns _ e,c⟩
theorem rO(l:OpenLaw)(args:List WData):l.row.toRowW.claim.post args (.bool true) args=true:=
 postW_of
  (show WShape.has [] (.bool true) .bool=true by first|rfl|decide|simp[WShape.has,WShape.arms,WShape.armsAll])
  (show (WTm.eq .res (.lit (.bool true))).value [] { args:=args,res:=some (.bool true),after:=args }=some (.bool (true==true)) from w_eq_bool (w_res rfl) w_lit) rfl
theorem attach_call{l:OpenLaw}
  (T:l.most=some n) (z:d.params.defaults=[])
  (call:∀(w:World) (c b:Shared) (s t:Str->Option Value) (i:Addr) (o:Obj) (u m e:Value) (a:Addr) (vs:List Value) (ns:List Int),
   Ground q loose [] XP w c s t b.heap->YP w b.heap ->
   b.heap.get? i=some o->o.data=.func (docDef d.name d.params d.body d.scope u m e)->b.heap.CodeRec m d.name->s d.name=some (.ref i) ->
   b.heap.get? a=some { cls:=.type "list",data:=.seq vs.toArray }->IntsAre vs ns->ns.length<=n->b.gens=#[] ->
   codeAny (model l.prog w) callerA (.call (.ref i) ⟨[.ref a],[]⟩) (λr p=>r=.ok (.ret (.bool true))/\OldK b.heap p.heap/\p.os=b.os/\AllBare p.gens) b):
  WalkO q loose XP YP l.row.toRowW d [] (λf vs=>PySem.call f vs):=by
 intro w c b s t G Y i o u m e H J U N v B y P D C W k A Q x O;obtain rfl:H=.none:=Dflts.none B z;obtain rfl:J=.none:=Dflts.noKw B;obtain⟨a,vs,ns,rfl,rfl,j,g,h⟩:=rN T k x;refine enter_call (adm (call w c b s t i o u m e a vs ns G Y U (fd_plain N) v y j g h P) λr p L=>?_);obtain⟨rfl,S,I,M⟩:=L;exact⟨.inl ⟨.bool true,.bool true,[],rfl,λ_=>rfl,.bool true,rO l _,λ_=>⟨List.Pairwise.nil,λ_ F=>(nomatch F)⟩⟩,S,I,M⟩
end Att
namespace L2
open PySem PySem.Spec PyProof.Rows
section
theorem vals_ints:∀{vs:List Value}{ns:List Int},IntsAre vs ns->Vals (ns.map V.int) vs
 |_,_,.nil=>.nil
 |_,_,.cons n t h=>.cons ⟨t,rfl⟩ (vals_ints h)
def BQ(H:Hp):Prop:=∀b,H b=none\/∃o a,H b=some (.frz o (.lst a))
theorem tW{P:Program}{w:World}{K:Waa}{CX:CXT}{k:Nat}{X a:Addr}{Y:FuncData}{sp:Sp}{vs:List Value}{ns:List Int}
  (KX:K.In s₁.heap) (B:s₁.heap.Ns mainGlobals mg) (f:s₁.heap.Ns builtinsNs mb) (U:∀x:Str,x≠"__name__"->mb x=bootBuiltins x) (A:s₁.heap.NoLimit) (hg:s₁.gens=#[])
  (N:s₁.heap.get? a=some { cls:=.type "list",data:=.seq vs.toArray }) (hi:IntsAre vs ns) (hl:ns.length<=sizeLine) (hr:Room k callerA)
  (F:∀g:Heap,K.In g->g.Ns mainGlobals mg->FnOk P w K mg g CX k X Y [x] sp) (p:∀(s:Shared) (u:Value),BindsTo s Y ⟨[u],[]⟩ [(x,u)])
  (W:∀H:Hp,BQ H->SqL K H a (ns.map V.int)->sp [.ref a] H (λv _=>v=.bl true) λ_ _ _=>False)
  (O:∀H e i,CX [] H s₁ (λ_ _ _=>False) e i->False):
  codeAny (model P w) callerA (.call (.ref X) ⟨[.ref a],[]⟩) (λr i=>r=.ok (.ret (.bool true))/\OldK s₁.heap i.heap/\i.os=s₁.os/\AllBare i.gens) s₁:=by
 have Z:=vals_ints hi;have C:=hi.length;have l:∀H:Hp,BQ H->SqL K H a (ns.map V.int)->HOk P w H s₁.heap->(∀b,H b≠none->b=a)->(H a≠none->K.lookup a=none) ->
   codeAny (model P w) callerA (.call (.ref X) ⟨[.ref a],[]⟩) (λr i=>r=.ok (.ret (.bool true))/\OldK s₁.heap i.heap/\i.os=s₁.os/\AllBare i.gens) s₁:=by
  intro H hO hS y hA hK;have c:∀{b:Addr}{o:Obj},s₁.heap.get? b=some o->H b=none->(kc s₁.heap H).get? b=some o:=λe n=>hidT_get e n;have S:∀{b:Addr}{o:Obj}{D:Array DictEntry}{I:Nat},s₁.heap.get? b=some o->o.data=.dict D I->H b=none:=λ{b o D I} e d=>by
   cases q:H b with
   |none=>rfl
   |some u=>have Q:b=a:=hA b (by rw[q];simp);subst Q;rw[N]at e;cases e;have d':Data.seq vs.toArray _=Data.dict D I:=d;cases d'
  have j:∀{b:Addr}{m:Str->Option Value},s₁.heap.Ns b m->(kc s₁.heap H).Ns b m:=λ{b m} ⟨o,D,I,e,d,r⟩=>⟨o,D,I,c e (S e d),d,r⟩
  have L:K.In (kc s₁.heap H):=λb o e=>c (KX b o e) (by
   cases q:H b with
   |none=>rfl
   |some u=>
    have Q:b=a:=hA b (by rw[q];simp);subst Q;rw[hK (by rw[q];simp)]at e;cases e)
  have hM:Mod K mg (kc s₁.heap H):=⟨L,j B,⟨mb,j f,U⟩,let ⟨mc,h1,h2⟩:=A;⟨mc,j h1,h2⟩⟩
  have e0:Env0 P w K mg (kc s₁.heap H) callerA [] s₁ H:=⟨rfl,hM,λb o e=>xI e,abP (rA _ _),trivial,λb f=>absurd (show b∈([]:List Addr) from f) (by simp),y,.of_eq hg⟩
  refine adm ((F _ L (j B)).run callerA [] s₁ H ⟨[.ref a],[]⟩ [.ref a] [.ref a] _ _ hr e0 (p s₁ (.ref a)) (.cons rfl .nil) (W H hO hS)) λr i h=>?_;cases r with
  |error e=>exact(O H e i h).elim
  |ok fl=>
   cases fl with
   |next=>exact False.elim h
   |brk=>exact False.elim h
   |cont=>exact False.elim h
   |ret u=>
    obtain⟨v,H',os,t,un,J,r',q⟩:=h;have q':v=.bl true:=q;subst q';obtain rfl:u=Value.bool true:=r';refine⟨rfl,OldK.of_keep λb o e=>?_,os,t⟩;cases q:H b with
    |none=>exact un.keep b o e q (by intro z;exact absurd (show b∈([]:List Addr) from z) (by simp)) (by simp)
    |some u=>
     rcases hO b with z|⟨ob,xs,z⟩
     ·rw[q]at z;cases z
     ·have z2:=un.frzs b ob _ z;obtain⟨e1,_⟩:=y b _ z;obtain⟨e2,_⟩:=J b _ z2;rw[e]at e1;cases e1;exact e2
 cases T:K.lookup a with
 |some o=>have e:=KX a o T;rw[N]at e;cases e;refine l (λ_=>none) (λ_=>.inl rfl) (.inr ⟨_,vs.toArray,_,T,rfl,rfl,rfl,by rw[aaz,C];exact hl,by simpa using Z⟩) (λb u z=>by have M:(none:Option HO)=some u:=z;cases M) (λb z=>absurd rfl z) λz=>absurd rfl z
 |none=>
  refine l (λb=>if b=a then some (.frz { cls:=.type "list",data:=.seq vs.toArray } (.lst (ns.map V.int))) else none) (λb=>?_) (.inl (.inr ⟨{ cls:=.type "list",data:=.seq vs.toArray },if_pos rfl⟩)) (λb u z=>?_) (λb z=>?_) λ_=>T
  ·by_cases f:b=a
   ·exact .inr ⟨_,_,if_pos f⟩
   ·exact .inl (if_neg f)
  ·by_cases f:b=a
   ·have M:=(if_pos f).symm.trans z;cases M;subst f;exact⟨N,by rw[aaa];exact hl,vs,_,Z,N⟩
   ·have M:=(if_neg f).symm.trans z;cases M
  ·by_cases f:b=a
   ·exact f
   ·exact absurd (if_neg f) z
end
section
theorem walk_of{l:PySem.W.OpenLaw}{K:Params->Waa}{CX:World->CXT}{sp:World->Sp}{x:Str}
  (X:l.most=some n) (A:n<=sizeLine) (I:d.params.defaults=[]) (U:Room k callerA)
  (O:∀(w:World) (h:Heap),YP w h->(K w.params).In h)
  (F:∀(w:World) (m:Str->Option Value) (t:Addr) (h:Heap),(K w.params).In h->h.Ns mainGlobals m->m d.name=some (.ref t) ->
   ∃D:FuncData,(∀(s:Shared) (u:Value),BindsTo s D ⟨[u],[]⟩ [(x,u)]) /\
    ∀c:Heap,(K w.params).In c->c.Ns mainGlobals m->FnOk l.prog w (K w.params) m c (CX w) k t D [x] (sp w))
  (z:∀(w:World) (H:Hp) (a:Addr) (ns:List Int),ns.length<=n->BQ H->SqL (K w.params) H a (ns.map V.int)->sp w [.ref a] H (λv _=>v=.bl true) λ_ _ _=>False)
  (y:∀(w:World) (H:Hp) (s:Shared) (e:Value) (C:Shared),CX w [] H s (λ_ _ _=>False) e C->False):
  PySem.W.WalkO q loose XP YP l.row.toRowW d [] (λf vs=>PySem.call f vs):=by
 refine Att.attach_call X I λw J r m mb t o pm cd P a vs ns G Y ho hd N B p j i S=>?_;have L:=O w _ Y;obtain⟨D,M,Z⟩:=F w m t _ L G.T.g B;exact tW L G.T.g G.T.b G.T.builtins G.T.nolimit S p j (aax i A) U Z M (λH Q hS=>z w H a ns i Q hS) λH e C=>y w H r e C
end
section
def ei(s:Stmt):Arguments:=match s with
 |.FunctionDef _ a _ _ _ _ _ _ _ _=>a
 |_=>{ posonlyargs:=[],args:=[],vararg:=none,kwonlyargs:=[],kw_defaults:=[],kwarg:=none,defaults:=[] }
def bY(s:Stmt):List Stmt:=match s with
 |.FunctionDef _ _ b _ _ _ _ _ _ _=>b
 |_=>[]
def aI(s:Stmt):Scope:=match s with
 |.FunctionDef _ _ _ _ _ _ sc _ _ _=>sc
 |_=>{ kind:=.function,names:=[],isGenerator:=false,isCoroutine:=false }
abbrev CX0:CXT:=λ_ _ _ _ _ _=>False
abbrev E0:XK:=λ_ _ _=>False
def pv:Passes CX0 X E0:=λ_ _ _ _ _ _ _ h=>h.elim
structure Fun (K:Waa)(x qual:Str)(st:Stmt)(f:Addr)(fd:FuncData):Prop where
 ex:∃(oc:Value) (od:Option Addr) (kV doc pm:Value) (an:Option Addr) (cdv ct:Value) (osl:Array (Option Value)),
  fd=PySem.W.fnOf x qual (ei st) (bY st) (aI st) .none kV doc pm an cdv ct/\K.lookup f=some ⟨oc,od,.func fd,osl⟩/\PySem.W.codeIn K cdv qual=true
 kp:PySem.W.keepIn K (.ref f)=true
section
variable{P:Program}{w:World}{K:Waa}{mg:Str->Option Value}{base:Heap}
theorem Fun.ok{x b:Str}{e:Stmt}(F:Fun K x b e f fd)(S:FnScope N ps (aI e))(g:∀vs H Q E,sp vs H Q E->vs.length=ps.length)
  (d:∀(c:Value) (A:Around) (a:List Env) (s:Shared) (H:Hp) (vs:List V) (Q:VK) (E:XK),Room k (A.deeper (envOfC b (aI e) s.heap.objs.size f c))->sp vs H Q E ->
   ∃t,PSs (ki CX0 P w K mg base N b (aI e) f c A a s H E).nox (bY e) t/\t { nx:=λ_ p=>Q .non p,rt:=Q } (start N vs) H):FnOk P w K mg base CX0 (k+1) f fd ps sp:=by
 obtain⟨y,u,v,m,r,z,c,B,l,rfl,n,j⟩:=F.ex;refine ED n j S g λA a s H vs Q E o i=>?_;obtain⟨t,h,q⟩:=d c A a s H vs Q E o i;exact⟨t,h.nox,q⟩
theorem kn{b:Stmt}{g d e a h:Value}(l:K.lookup f=some ⟨oc,od,.func (PySem.W.fnOf x qual (ei b) (bY b) (aI b) .none g d e an a h),osl⟩)
  (c:PySem.W.codeIn K a qual=true) (k:PySem.W.keepIn K (.ref f)=true):Fun K x qual b f (PySem.W.fnOf x qual (ei b) (bY b) (aI b) .none g d e an a h):=⟨⟨oc,od,g,d,e,an,a,h,osl,rfl,l,c⟩,k⟩
end
def Same(H a:Hp):Prop:=∀b o,H b=some o->a b=some o
def Same.seq{K:Waa}(e:Same H H')(h:SqL K H a xs):SqL K H' a xs:=by
 rcases h with (h|⟨o,h⟩)|h
 ·exact .inl (.inl (e _ _ h))
 ·exact .inl (.inr ⟨o,e _ _ h⟩)
 ·exact .inr h
end
section
theorem nS:∀(f:List (Str×NameKind)) (g:List (Str×Addr)),(∀x∈f,x.2=.free->∃c,env.cells.lookup x.1=some c) ->
  (∀x c,g.lookup x=some c->env.cells.lookup x=some c) ->
  ∃l:List (Str×Addr),forIn f g (λ(x:Str×NameKind) (r:List (Str×Addr))=>match x with
    | (name,kind)=>(if kind==NameKind.free then do let c <-cellOf env name;pure (ForInStep.yield ((name,c)::r)) else pure (ForInStep.yield r):Sem (ForInStep (List (Str×Addr)))))=pure l /\
   (∀x c,l.lookup x=some c->env.cells.lookup x=some c)/\(∀x∈f,x.2=.free->∃c,l.lookup x.1=some c)/\(∀x c,g.lookup x=some c->∃j,l.lookup x=some j):=by
 intro f;induction f with
 |nil=>intro g _ m;exact⟨g,rfl,m,λ_ h=>(nomatch h),λx c h=>⟨c,h⟩⟩
 |cons p r v=>
  intro g y m;obtain⟨n,k⟩:=p;rw[acj];have w:∀x∈r,x.2=.free->∃c,env.cells.lookup x.1=some c:=λx i=>y x (aah _ i);by_cases t:k=.free
  ·subst t;obtain⟨c,u⟩:=y (n,.free) aad rfl;have q:cellOf env n=pure c:=by unfold cellOf;rw[show env.cells.lookup n=some c from u]
   have s:∀x j,((n,c)::g).lookup x=some j->env.cells.lookup x=some j:=λx j h=>by
    rw[aa8]at h;cases i:x==n with
    |true=>rw[i]at h;cases h;rw[eq_of_beq i];exact u
    |false=>rw[i]at h;exact m x j h
   obtain⟨l,e,a,b,d⟩:=v ((n,c)::g) w s;refine⟨l,?_,a,λx i o=>?_,λx j h=>?_⟩
   ·show ((cellOf env n >>= λc=>pure (ForInStep.yield ((n,c)::g))) >>= _)=_;rw[q];exact e
   ·rcases aab.mp i with rfl|i
    ·exact d n c (by simp[aa8])
    ·exact b x i o
   ·cases i:x==n with
    |true=>exact d x c (by rw[aa8,i])
    |false=>exact d x j (by rw[aa8,i];exact h)
  ·have z:(k==NameKind.free)=false:=by simpa using t
   obtain⟨l,e,a,b,d⟩:=v g w m;refine⟨l,?_,a,λx i o=>?_,d⟩
   ·show ((if (k==NameKind.free)=true then _ else _) >>= _)=_;rw[z];exact e
   ·rcases aab.mp i with rfl|i
    ·exact absurd o t
    ·exact b x i o
theorem nT(h:∀x∈scope.names,x.2=.free->∃c,env.cells.lookup x.1=some c):
  ∃d:List (Str×Addr),closureFor scope env=pure d/\(∀x c,d.lookup x=some c->env.cells.lookup x=some c)/\(∀x∈scope.names,x.2=.free->∃c,d.lookup x.1=some c):=by
 obtain⟨d,e,a,b,_⟩:=nS scope.names [] h (λ_ _ h=>nomatch h);refine⟨d,?_,a,b⟩;have q:closureFor scope env=(forIn scope.names ([]:List (Str×Addr)) (λ(x:Str×NameKind) (r:List (Str×Addr))=>match x with
    | (name,kind)=>(if kind==NameKind.free then do let c <-cellOf env name;pure (ForInStep.yield ((name,c)::r)) else pure (ForInStep.yield r):Sem (ForInStep (List (Str×Addr))))) >>= λr=>pure r):=rfl
 rw[q,e];rfl
def eS(X:Cx)(N:List Str)(a:Scope)(d:List (Str×Addr))(s:Shared)(H:Hp)(c:List Addr)(b:List (Addr×Obj)):Cx where
 prog:=X.prog
 w:=X.w
 K:=X.K
 mg:=X.mg
 base:=X.base
 A:=X.A
 N:=N
 s₀:=s
 H₀:=H
 env:=compEnvC a d s.heap.objs.size X.env
 outer:=X.stack
 stack:=X.stack
 ex:=c
 fn:=λ_=>false
 calm:=X.calm
 pn:=X.pn++b
 xe:=λ_ _=>False
structure CC where
 cl:List (Str×Addr)
 s:Shared
 H:Hp
 fp:List Addr
 pins:List (Addr×Obj)
abbrev ba(X:Cx)(N:List Str)(scope:Scope)(c:CC):Cx:=eS X N scope c.cl c.s c.H c.fp c.pins
def bQ(nt:Nat)(fr:List Nat)(σ:St):St:=List.replicate nt none++fr.map λj=>(σ[j]?).join
structure CompScope (N:List Str)(nt:Nat)(fr:List Nat)(ON:List Str)(sc osc:Scope):Prop where
 kind:sc.kind=.function
 nocell:∀x∈sc.names,x.2≠.cell
 names:∀x∈sc.names,x.2=.local->sc.names.lookup x.1=some .local
 len:N.length=nt+fr.length
 out:∀(i:Nat) (j:Nat),fr[i]?=some j->∃x,N[nt+i]?=some x/\ON[j]?=some x/\osc.names.lookup x=some .cell/\sc.names.lookup x=some .free
 cells:∀x∈sc.names,x.2=.free->osc.names.lookup x.1=some .cell
 looks:∀x∈sc.names,x.2=.free->sc.names.lookup x.1=some .free
theorem bZ{sc:Scope}{env:Env}:∀(a:List (Str×NameKind)) (x:Str) (k:NameKind),
  (a.map λ(n,k)=>if (k==NameKind.free&&env.scope.kind==.function&&env.kindOf n==some .cell) then (n,NameKind.cell) else (n,k)).lookup x=some k ->
  a.lookup x=some k\/(k=.cell/\a.lookup x=some .free)
 |[],_,_,h=>by simp at h
 | (n,k0)::r,x,k,h=>by
  have e:=bZ (sc:=sc) (env:=env) r x k;rw[aam]at h;have b:List.lookup x ((if (k0==NameKind.free&&env.scope.kind==.function&&env.kindOf n==some .cell)=true then (n,NameKind.cell) else (n,k0))::(r.map λ(n,k)=>if (k==NameKind.free&&env.scope.kind==.function&&env.kindOf n==some .cell) then (n,NameKind.cell) else (n,k)))=some k:=h;by_cases d:(k0==NameKind.free&&env.scope.kind==.function&&env.kindOf n==some .cell)=true
  ·rw[if_pos d,aa8]at b;rw[aa8];cases c:x==n with
   |true=>
    rw[c]at b;cases b;rw[aaG,aaG]at d;have:k0=.free:=by simpa using d.1.1
    subst this;exact .inr ⟨rfl,rfl⟩
   |false=>rw[c]at b;exact e b
  ·rw[if_neg d,aa8]at b;rw[aa8];cases c:x==n with
   |true=>rw[c]at b;exact .inl b
   |false=>rw[c]at b;exact e b
section
variable{X:Cx}{tg elt iter:Expr}{ifs:List Expr}{scope:Scope}{pos:Pos}{N:List Str}{nt:Nat}{fr:List Nat}
theorem nU(S:CompScope N nt fr X.N scope X.env.scope)(I:Inv X pins σ H s)
  (C:∀b∈fp,FpOk X pins H b) (g:∀b∈fp,b<s.heap.objs.size)
  (a:∀x c,cl.lookup x=some c->X.env.cells.lookup x=some c) (D:∀x∈scope.names,x.2=.free->∃c,cl.lookup x.1=some c)
  (hk:∀b o,s.heap.get? b=some o->s4.heap.get? b=some o) (hn:∃m,s4.heap.Ns s.heap.objs.size m) (ho:s4.os=s.os) (hg:s4.gens=s.gens):
  Inv (eS X N scope cl s H fp pins) [] (bQ nt fr σ) H s4:=by
 have hC:H s.heap.objs.size=none:=I.hok.fresh (aae _);have L:∀b o,s.heap.get? b=some o->b≠s.heap.objs.size:=λb o e=>aar (ac5 e);have kd:(eS X N scope cl s H fp pins).env.scope.kind=.function:=S.kind;have Q:∀x,scope.names.lookup x=some .free->∃c,cl.lookup x=some c:=λx h=>D (x,.free) (abg h) rfl;refine⟨⟨I.ok.mod,kd,I.ok.glob,I.ok.blt,aae _,λx y c U f=>I.ok.inj x y c (a x c U) (a y c f),λx hx=>?_,λ_ _ h _=>absurd (show false=true from h) aak,I.ok.hd,I.ok.frames,.inl rfl,λb r=>⟨aar (g b r),λx c e=>(C b r).2.2.2.2.1 x c (a x c e)⟩,
  I.bs,aax I.ok.bsz I.sz,λb o e r=>?_,λb r hs=>?_,I.stack,I.t8⟩,ho,by rw[hg];exact I.bare,Un.kept hk,?_,λx c e=>?_,hC,λx c e=>I.freeC x c (a x c e),λp hp=>?_,I.hok.kept hk,?_⟩
 ·have M:(relabel scope X.env).names.lookup x=some .cell\/(relabel scope X.env).names.lookup x=some .free:=hx;rcases M with h|h
  ·rcases bZ (sc:=scope) scope.names x _ h with q|⟨_,q⟩
   ·exact absurd rfl (S.nocell _ (abg q))
   ·exact Q x q
  ·rcases bZ (sc:=scope) scope.names x _ h with q|⟨q,_⟩
   ·exact Q x q
   ·cases q
 ·rcases (C b r).2.2.2.1 with z|z
  ·exact I.ok.noex b o e z
  ·exact absurd (aay (ac5 e) (aax I.ok.bsz z)) (aaR _)
 ·rcases aab.mp (I.p9 b hs) with z|z
  ·exact(C b r).2.1 z
  ·exact(C b r).2.2.1 z
 ·obtain⟨m,hm⟩:=hn;refine⟨m,hm,λi x v U f h3=>?_⟩;obtain⟨m0,a0,O⟩:=I.loc;have hi:nt<=i:=by refine Nat.le_of_not_lt λg=>?_;unfold bQ at f;rw[aaS (by simpa using g),acD]at f;rw[if_pos g]at f;cases f
  obtain⟨d,rfl⟩:∃d,i=nt+d:=⟨i-nt,by omega⟩
  unfold bQ at f;rw[abh (by simp),abQ,acH,aas]at f;cases W:fr[d]? with
  |none=>rw[W]at f;cases f
  |some j=>
   rw[W]at f;have k:(σ[j]?).join=some v:=aaC f;have F:σ[j]?=some (some v):=by
    cases e:σ[j]? with
    |none=>rw[e]at k;cases k
    |some q=>rw[e]at k;exact congrArg some k
   obtain⟨y,e1,e2,Y,Z⟩:=S.out d j W;have A:N[nt+d]?=some x:=U;rw[e1]at A;cases A;obtain⟨u,ru,l⟩:=O j x v e2 F (.inr (.inl Y));refine⟨u,ru,?_⟩;rcases l with ⟨q,_⟩|⟨_,c,ec,z⟩
   ·have B:X.env.scope.names.lookup x=some .local:=q;rw[Y]at B;cases B
   ·obtain⟨J,w⟩:=Q x Z;have:J=c:=by have:=a x J w;rw[ec]at this;exact(aaC this).symm
    subst this;obtain⟨o,t,P⟩:=z;refine .inr ⟨?_,J,w,⟨o,hk _ _ t,P⟩⟩;rcases h3 with q|q|q
    ·have B:(relabel scope X.env).names.lookup x=some .local:=q;rcases bZ (sc:=scope) scope.names x _ B with z|⟨z,_⟩
     ·rw[Z]at z;cases z
     ·cases z
    ·exact .inl q
    ·exact .inr q
 ·obtain⟨v,o,t,P⟩:=I.cell x c (a x c e);exact⟨v,o,hk _ _ t,P⟩
 ·have T:p∈X.pn++pins:=by
   rcases aaj.mp hp with z|z
   ·exact z
   ·exact absurd z (by simp)
  obtain⟨e,n,ne,nf,d⟩:=I.pin p T;refine⟨hk _ _ e,n,L _ _ e,λz=>?_,d⟩;rcases aab.mp (I.p9 p.1 z) with q|q
  ·exact ne q
  ·exact nf q
 ·show (bQ nt fr σ).length=N.length;unfold bQ;rw[aal,abQ,aaa,S.len]
theorem tX(I:Inv X pins σ H s)(L:∀b∈fp,FpOk X pins H b)
  (p:H D=none) (k:s.heap.objs.size<=D) (m:D<s3.heap.objs.size) (hk:∀b o,s.heap.get? b=some o->s3.heap.get? b=some o) (l:s3.os=s.os)
  (J:Inv (eS X N scope cl s3 (upd H D o0) fp pins) pins' σ' H1 s5) (hs:Heap.SameBut s3.heap.objs.size s5.heap h'):
  Inv X pins σ H1 { s5 with heap:=h' }:=by
 have r:s.heap.objs.size<=s3.heap.objs.size:=aaZ (abR k m);have f:∀b,b<s.heap.objs.size->b≠D/\b≠s3.heap.objs.size:=λb d=>⟨aar (aay d k),aar (aay d r)⟩
 have i:∀b,b≠D->(upd H D o0) b=H b:=λb d=>upd_ne d;refine I.call' (ch:=fp) (J.os.trans l) ⟨λb o e n d g=>?_,λb o e n d g=>?_,λb o e n g=>?_,λb o e g=>?_,λb C e=>?_,λb o u e=>?_,λb M e=>?_⟩ ?_ J.bare λb d=>?_
 ·obtain⟨j,h⟩:=f b (ac5 e);exact(hs.2 b h).trans (J.base.keep b o (hk b o e) ((i b j).trans n) d g)
 ·obtain⟨j,h⟩:=f b (ac5 e);obtain⟨A,q⟩:=J.base.slot b o (hk b o e) ((i b j).trans n) d g;exact⟨A,(hs.2 b h).trans q⟩
 ·obtain⟨j,h⟩:=f b (ac5 e);exact J.base.free b o (hk b o e) ((i b j).trans n) g
 ·obtain⟨j,h⟩:=f b (ac5 e);obtain⟨y,q⟩:=J.base.there b o (hk b o e) g;exact⟨y,(hs.2 b h).trans q⟩
 ·exact J.base.tups b C ((i b (au e p)).trans e)
 ·exact J.base.frzs b o u ((i b (au e p)).trans e)
 ·exact J.base.tbls b M ((i b (au e p)).trans e)
 ·intro b u e;refine(J.hok b u e).q7 (λc v t q=>(hs.2 c ?_).trans q) (λ_ q=>q) λ_ _ q=>q;have a:H1 s3.heap.objs.size=none:=J.free;rintro rfl;rcases t with z|z
  ·rw[z]at a;rw[a]at e;cases e
  ·rw[a]at z;cases z
 ·obtain⟨P,B,O,F,w,x⟩:=L b d;exact⟨F,B,w,x⟩
end
def Eb(e:Expr):Prop:=(∃a b c d,e=.ListComp a b c d)\/∃a b c d f,e=.DictComp a b c d f
abbrev bR(e:Expr)(d:Nat)(tg:Expr)(p:Pos)(it acc:Value)(env:Env)(body:Sem Unit):Sem Fin:=
 standAt p >>= λ_=>pyNext it >>= λr=>match r with
  |none=>pure (.done .next)
  |some v=>letOwnedTupleGo tg it v >>= λ_=>assign tg env v >>= λ_=>body >>= λ_=>again (.compLoop e d it acc env)
abbrev TB:=St->Hp->(St->Hp->Prop)->Prop
def PB(Y:Cx)(c:Sem Unit)(g:TB):Prop:=∀(a:List (Addr×Obj)) (s:Shared) (d:St) (H:Hp) (Q:St->Hp->Prop),Inv Y a d H s->g d H Q->wpAny (model Y.prog Y.w) Y.A c (λ_ f=>∃b e,Inv Y a b e f/\Q b e) Y.xe s
section
variable{e:Expr}{p:Pos}{d:Nat}{tg:Expr}{body:Sem Unit}
theorem rP(k:Eb e)
  (x:compTurn e d it acc env=bR e d tg p it acc env body) (I:Nat->Shared->Prop)
  (a:∀n s,I n s->wpAny (model prog w) A (pyNext it) (λr b=>match r with
   |none=>R (.ok .next) b
   |some v=>wpAny (model prog w) A (letOwnedTupleGo tg it v) (λ_ g=>wpAny (model prog w) A (assign tg env v) (λ_ c=>wpAny (model prog w) A body (λ_ i=>∃m,m<n/\I m i) (λ_ _=>False) c) (λ_ _=>False) g) (λ_ _=>False) b) (λ_ _=>False) s)
  (n:Nat) (h:I n s):codeAny (model prog w) A (.compLoop e d it acc env) R s:=by
 rcases k with ⟨j,o,t,y,rfl⟩|⟨j,o,t,y,C,rfl⟩ <;>
 ·refine codeAny_loop rfl I (λn s B=>?_) n h;refine wpAny_noted ?_;rw[x];refine ac3 (adj (ac3 (ac9 (a n s B) (λr b f=>?_) λ_ _ z=>z.elim)));cases r with
  |none=>exact ac4 f
  |some v=>refine ac3 (ac9 f (λ_ g u=>?_) λ_ _ z=>z.elim);refine ac3 (ac9 u (λ_ c l=>?_) λ_ _ z=>z.elim);exact ac3 (ac9 l (λ_ i q=>ac4 ⟨rfl,q⟩) λ_ _ z=>z.elim)
def GW(J:It)(g:TG)(j:TB)(σ:St)(H:Hp)(Q:St->Hp->Prop):Prop:=∃W:Nat->Nat->St->Hp->Prop,(∃m,W 0 m σ H)/\∀i m σ H,W i m σ H->(J.stop i H/\Q σ H)\/(J.go i H/\∀x c,J.yld i H x c->g x σ c λa k=>j a k λb h=>∃f,f<m/\W (i+1) f b h)
theorem jJ(he:Eb e)(S:Y.calm=true)(hx:Y.xe=λ_ _=>False)
  (ht:compTurn e d (.ref it) acc Y.env=bR e d tg p (.ref it) acc Y.env body)
  (T:Turn Y.prog Y.w Y.K tg J fp it tn) (M:PG Y tg g) (a:PB Y body tb) (I:Inv Y pins σ H s) (st:tn 0 s.heap) (f:∀b∈fp,FpOk Y pins H b) (w:GW J g tb σ H Q) (fin:∀c k z,Inv Y pins c k z->(∀b∈fp,k b=none)->Q c k->R (.ok .next) z):
  codeAny (model Y.prog Y.w) Y.A (.compLoop e d (.ref it) acc Y.env) R s:=by
 obtain⟨W,⟨m0,w0⟩,y⟩:=w;unfold PG at M;unfold PB at a;rw[hx]at M a;have h:∀{k:Hp},(∀b∈fp,k b=none)->∀b∈fp,FpOk Y pins k b:=λhn b a=>⟨hn b a,(f b a).2⟩
 refine rP he ht (λn z=>∃i c k,Inv Y pins c k z/\tn i z.heap/\(∀b∈fp,k b=none)/\W i n c k) ?_ m0 ⟨0,σ,H,I,st,λb a=>(f b a).1,w0⟩;rintro n U ⟨i,j,D,X,v,q,w3⟩;rcases y i n j D w3 with ⟨C,qn⟩|⟨go,B⟩
 ·refine thn (T.done Y rfl rfl rfl S i pins U j D _ X (h q) v C) λr s4 l=>?_;obtain⟨N,I4⟩:=l;subst N;exact fin j D s4 I4 q qn
 ·refine thn (T.item Y rfl rfl rfl S i pins U j D _ X (h q) v go) λr s4 l=>?_;obtain⟨u,N,h4⟩:=l;subst N;refine thn h4 λ_ s5 l=>?_;obtain⟨x,P,I5,r5,y5,m,L⟩:=l;refine thn (M _ s5 j P x u _ (I5.pinned (h L) (T.obj _ _ m)) r5 (B x P y5)) λ_ s6 l=>?_;obtain⟨F,H6,I6,q6⟩:=l;refine thn (a _ s6 F H6 _ I6 q6) λ_ s7 l=>?_;obtain⟨O,H7,Z,m',hm,w7⟩:=l;have t:=λb (a:b∈fp) o e=>Z.pin (b,o) (aag _ (aag _ (eR a e)));refine⟨m',hm,i+1,O,H7,Z.j1,T.keep _ _ _ m λb a o e=>(t b a o e).1,λb a=>?_,w7⟩;obtain⟨o,e,_⟩:=T.obj _ _ m b a;exact(t b a o e).2.1
theorem tY(q:Eb e)(f:(clausesOf e)[d]?=some c)(n:c.is_async=0)
  (b:codeAny (model prog w) A (.compLoop e d it acc env) R s) (h:wpAny (model prog w) A (pyIter it) (λa g=>codeAny (model prog w) A (.compLoop e d a acc env) R g) (λ_ _=>False) s):
  codeAny (model prog w) A (.compStart e d it acc env) R s:=by
 have o:((clausesOf e)[d]?).elim false (·.is_async !=0)=false:=by rw[f];show (c.is_async !=0)=false;rw[n];rfl
 rcases q with ⟨i,j,l,k,rfl⟩|⟨i,j,l,k,r,rfl⟩ <;>
 ·refine adN (wpAny_notedAt ?_);unfold compStart;rw[o,f];show wpAny _ _ (ask >>= _) _ _ s;refine ac3 (adq (wpAny_ite ?_));split
  ·first
    |exact ac3 (ac4 (ac4 ⟨rfl,b⟩))
    |exact ac4 ⟨rfl,b⟩
  ·refine ac3 (adk ?_);show wpAny _ _ (standAt c.iter.pos >>= _) _ _ s;exact ac3 (adj (ac3 (ac9 h (λa g m=>ac4 ⟨rfl,m⟩) λ_ _ z=>z.elim)))
end
structure MkC (X:Cx)(mk:Sem Value)(o:Obj)(o0:HO):Prop where
 new:∀{s:Shared}{Q:Value->Shared->Prop},Q (.ref s.heap.objs.size) { s with heap:=s.heap.push o }->wpAny (model X.prog X.w) X.A mk Q X.xe s
 laid:∀{pins:List (Addr×Obj)}{σ:St}{H:Hp}{s:Shared},Inv X pins σ H s->Inv X pins σ (upd H s.heap.objs.size o0) { s with heap:=s.heap.push o }
def fU(o0:HO)(d:TI)(nt:Nat)(fr:List Nat)(g:CC->TG)(f:CC->Addr->TB):TE:=λb H Q=>d b H λJ a=>∀(c:CC) D,a D=none->GW J (g c) (f c D) (bQ nt fr b) (upd a D o0) λ_ e=>Q (.ref D) e
section
variable{X:Cx}{e tg iter:Expr}{ifs:List Expr}{rest:List Comprehension}{scope:Scope}{pos:Pos}{N:List Str}{nt:Nat}{fr:List Nat}{mk:Sem Value}{o:Obj}{o0:HO}{body:Addr->Env->Sem Unit}
theorem ic{t:Option (Value->Sem Unit)}{Q0:Value->Shared->Prop}(he:Eb e)(W:clausesOf e=⟨tg,iter,ifs,0⟩::rest)(ht:∀it D env,compTurn e 0 it (.ref D) env=bR e 0 tg iter.pos it (.ref D) env (body D env))(M:MkC X mk o o0)(hc:X.calm=true)(S:CompScope N nt fr X.N scope X.env.scope)(hi:PI X tg iter wi)
  (hg:∀c:CC,PG (ba X N scope c) tg (g c)) (ha:∀(c:CC) D,PB (ba X N scope c) (body D (ba X N scope c).env) (tb c D))
  (I:Inv X pins σ H s) (h:fU o0 wi nt fr g tb σ H Q) (a6:∀x∈scope.names,x.2=.free->X.env.kindOf x.1=some .cell)
  (fin:∀(D C:Addr) (U:Shared) (H1:Hp),FpOk X pins H1 C->U.heap.get? C≠none->C≠X.env.locals->(∃m,U.heap.Ns C m)->(∀h',Heap.SameBut C U.heap h'->Inv X pins σ H1 { U with heap:=h' })->Q (.ref D) H1 ->
   compPost (model X.prog X.w) X.A X.xe t Q0 (.ref D) C (.ok .next) U)
  (hs:∀x,foldedSetIterable iter X.env x=pure x:=by intro _;rfl):
  wpAny (model X.prog X.w) X.A (comprehension e scope X.env pos mk false (eval iter X.env) t) Q0 X.xe s:=by
 have l:∀x∈scope.names,x.2=.free->∃c,X.env.cells.lookup x.1=some c:=λx hx hf=>I.ok.has x.1 (.inl (a6 x hx hf));obtain⟨v,O,h1,h2⟩:=nT l;refine wpAny_comprehension_free W hs O S.kind S.names (thn (hi pins s σ H _ I h) λxv s1 hx=>thn hx λb6 d a7=>?_);obtain⟨it,k,tn,J,n,rfl,P,T,a0,L,hW⟩:=a7;have u:∀b∈k,b<d.heap.objs.size:=λb a=>let ⟨o,e,_⟩:=T.obj 0 _ a0 b a;ac5 e
 refine M.new (wpAny_newFunctionEnv S.nocell (by intro y hy;simp at hy) (λj i f=>?_) S.kind);have hD:n d.heap.objs.size=none:=P.hok.fresh (aae _);have I3:=M.laid P;generalize hs3:({ d with heap:=d.heap.push o }:Shared)=s3 at i f I3 ⊢;have hW:=hW ⟨v,s3,upd n d.heap.objs.size o0,k,pins⟩ _ hD;have F:∀b o,d.heap.get? b=some o->s3.heap.get? b=some o:=λb o e=>by rw[<-hs3];exact ac6 _ e
 have Z:s3.heap.objs.size=d.heap.objs.size+1:=by rw[<-hs3];exact ac8 ..
 have a5:s3.os=d.os:=by rw[<-hs3]
 have f3:∀b∈k,FpOk X pins (upd n d.heap.objs.size o0) b:=λb a=>⟨by rw[upd_ne (aar (u b a))];exact(L b a).1,(L b a).2⟩
 have a1:∀b o,s3.heap.get? b=some o->j.get? b=some o:=λb o e=>f.extBut b o (aar (ac5 e)) (ac6 _ e);generalize hs4:({ s3 with heap:=j,toks:=s3.toks+([]:List (Str×Value)).length }:Shared)=s4;have r:s4.heap=j:=by rw[<-hs4]
 have I4:Inv (eS X N scope v s3 (upd n d.heap.objs.size o0) k pins) [] (bQ nt fr σ) (upd n d.heap.objs.size o0) s4:=
  nU S I3 f3 (λb a=>by rw[Z];exact aa9 (u b a)) h1 h2 (λb o e=>by rw[r];exact a1 b o e) ⟨_,by rw[r];exact i⟩ (by rw[<-hs4]) (by rw[<-hs4])
 have B:tn 0 s4.heap:=T.keep 0 _ _ a0 λb a o e=>by rw[r];exact a1 b o (F b o e)
 have q:codeAny (model X.prog X.w) X.A (.compLoop e 0 (.ref it) (.ref d.heap.objs.size) (compEnvC scope v s3.heap.objs.size X.env))
   (compPost (model X.prog X.w) X.A X.xe t Q0 (.ref d.heap.objs.size) s3.heap.objs.size) s4:=by
  have a2:∀{H':Hp},(∀b∈k,H' b=none)->∀b∈k,FpOk (eS X N scope v s3 (upd n d.heap.objs.size o0) k pins) [] H' b:=λ{H'} hn b a=>
   ⟨hn b a,aar (show b<s3.heap.objs.size by rw[Z];exact aa9 (u b a)),λz=>I4.ok.exfs b a z,.inl a,λx c e=>(L b a).2.2.2.2.1 x c (h1 x c e),λp hp=>(L b a).2.2.2.2.2 p (by
    rcases aaj.mp hp with z|z
    ·exact z
    ·exact absurd z (by simp))⟩
  refine jJ he (Y:=eS X N scope v s3 (upd n d.heap.objs.size o0) k pins) hc rfl (ht ..) T (hg ⟨v,s3,upd n d.heap.objs.size o0,k,pins⟩) (ha ⟨v,s3,upd n d.heap.objs.size o0,k,pins⟩ _) I4 B (a2 λb a=>(f3 b a).1) hW λb0 H6 s6 I6 _ qn=>?_;obtain⟨m,hm,_⟩:=id I6.loc;refine fin _ _ s6 H6 (P.ua (by rw[Z];exact abp _) I6.free) ?_ ?_ ⟨m,hm⟩ (λh' a4=>tX P L hD (aae _) (by rw[Z];exact aa5 _) F a5 I6 a4) qn
  ·obtain⟨o,_,_,ho,_⟩:=hm;intro z;have a3:s6.heap.get? s3.heap.objs.size=some o:=ho;rw[z]at a3;cases a3
  ·exact aaN (abi P.lt (by rw[Z];exact aa5 _))
 exact tY he (by rw[W];rfl) rfl q (T.self X.A 0 s4 _ _ B q)
theorem ko{F d:Pos}(Y:Eb e)(u:clausesOf e=⟨tg,iter,ifs,0⟩::rest)(ht:∀it D env,compTurn e 0 it (.ref D) env=bR e 0 tg iter.pos it (.ref D) env (body D env))(M:MkC X mk o o0)(U:∀k,evalThenUse e X.env k=(do let _ <-comprehension e scope X.env pos mk false (eval iter X.env) (some k)))(hN:X.N.Nodup)(hy:X.N[i]?=some y)(O:X.env.scope.names.lookup y=some .local)(T:X.calm=true)(S:CompScope N nt fr X.N scope X.env.scope)(hi:PI X tg iter wi)
  (hg:∀c:CC,PG (ba X N scope c) tg (g c)) (ha:∀(c:CC) D,PB (ba X N scope c) (body D (ba X N scope c).env) (tb c D))
  (hs:∀x,foldedSetIterable iter X.env x=pure x:=by intro _;rfl)
  (p:swapsWith e (some (.Name y F)) d.line X.env=pure true):
  PS X (.Assign [.Name y F] e d) (lO (fU o0 wi nt fr g tb) (gE i)):=by
 intro j s σ H D I h;rw[exec_Assign_Name_used _ _ _ _ p];refine ac3 (adj (ac3 ?_));rw[U];refine ac3 (ac9 (ic Y u ht M T S hi hg ha I h (λx hx hf=>S.cells x hx hf) (λL C P J f hC _ n hI q=>?_) hs) (λ_ s' Z=>ac4 (ac4 Z)) λ_ _ e=>e);obtain⟨m,n⟩:=n;have I5:Inv X j σ J P:=hI P.heap ⟨rfl,λ_ _=>rfl⟩;show wpAny _ X.A (assign (.Name y F) X.env (.ref L)) _ _ _;refine wpAny_assign_Name (jE I5 hN hy (.inl O) (v:=.ref L) rfl (λs6 Q B=>?_) (.inr O));obtain⟨a,l,t⟩:=B;have r:C≠a:=by
  rcases t with e|e
  ·rw[e];exact f.2.1
  ·exact λz=>f.2.2.2.2.1 _ _ e z.symm
 exact⟨m,n.sameBut l r,λh' w=>⟨_,J,Q.turned (λb o W e=>(w.2 b W).trans e) f.1 f.2.1 f.2.2.2.1 f.2.2.2.2.1 f.2.2.2.2.2,q⟩⟩
theorem lT(l:Eb e)(b:clausesOf e=⟨tg,iter,ifs,0⟩::rest)(t:∀it D env,compTurn e 0 it (.ref D) env=bR e 0 tg iter.pos it (.ref D) env (body D env))(M:MkC X mk o o0)(k:eval e X.env=comprehension e scope X.env pos mk false (eval iter X.env))(j:X.calm=true)(S:CompScope N nt fr X.N scope X.env.scope)(v:PI X tg iter wi)
  (r:∀c:CC,PG (ba X N scope c) tg (g c)) (y:∀(c:CC) D,PB (ba X N scope c) (body D (ba X N scope c).env) (tb c D)) (hs:∀x,foldedSetIterable iter X.env x=pure x):PE X e (fU o0 wi nt fr g tb):=by
 intro f s z H Q I h;rw[k];refine ic l b t M j S v r y I h (λx p u=>S.cells x p u) (λD C A i _ _ _ a w q=>?_) hs;obtain⟨m,a⟩:=a;exact⟨m,a,λn d=>⟨.ref D,i,w n d,rfl,q⟩⟩
end
abbrev TC:=Addr->St->Hp->(Hp->Prop)->Prop
def pw(d:TE):TC:=λD c H Q=>d c H λy b=>∃a,b D=some (.lst a)/\a.length<sizeLine/\Q (upd b D (.lst (a++[y])))
def EI(d:TT)(e:TE):TC:=λD a H Q=>d a H λb c=>if b=true then pw e D a c Q else Q c
abbrev tZ(tc:CC->TC):CC->Addr->TB:=λc D σ H Q=>tc c D σ H (Q σ)
abbrev pC(wi:TI)(nt:Nat)(fr:List Nat)(g:CC->TG)(tc:CC->TC):TE:=fU (.lst []) wi nt fr g (tZ tc)
def HE(c:TI)(g:TG)(d:TB):TB:=λa H Q=>c a H λJ b=>GW J g d a b Q
def HF(b:TE)(D:Addr):TB:=λa H Q=>pw b D a H (Q a)
section
variable{Y:Cx}{elt tg iter tg2 iter2:Expr}{scope:Scope}{pos:Pos}{te:TE}{D:Addr}
abbrev fV(elt tg iter tg2 iter2:Expr)(scope:Scope)(pos:Pos):Expr:=.ListComp elt [⟨tg,iter,[],0⟩,⟨tg2,iter2,[],0⟩] scope pos
abbrev Ec(elt:Expr)(acc:Value)(env:Env):Sem Unit:=eval elt env >>= λx=>call (.builtin "list.append") [acc,x] >>= λ_=>pure ()
abbrev inB(elt tg iter tg2 iter2:Expr)(scope:Scope)(pos:Pos)(acc:Value)(env:Env):Sem Unit:=eval iter2 env >>= λx=>standAt iter2.pos >>= λ_=>foldedSetIterable iter2 env x >>= λx=>holding [x] (pyIter x) >>= λit=>runOwn (.compStart (fV elt tg iter tg2 iter2 scope pos) 1 it acc env) env >>= λ_=>pure ()
theorem BR(it a:Value)(env:Env):compTurn (fV elt tg iter tg2 iter2 scope pos) 0 it a env=bR (fV elt tg iter tg2 iter2 scope pos) 0 tg iter.pos it a env (inB elt tg iter tg2 iter2 scope pos a env):=by
 have h:compTurn (fV elt tg iter tg2 iter2 scope pos) 0 it a env=(standAt iter.pos >>= λ_=>pyNext it >>= λr=>match r with
   |none=>pure (.done .next)
   |some v=>letOwnedTupleGo tg it v >>= λ_=>assign tg env v >>= λ_=>eval iter2 env >>= λx=>standAt iter2.pos >>= λ_=>foldedSetIterable iter2 env x >>= λx=>holding [x] (pyIter x) >>= λi=>runOwn (.compStart (fV elt tg iter tg2 iter2 scope pos) 1 i a env) env >>= λ_=>again (.compLoop (fV elt tg iter tg2 iter2 scope pos) 0 it a env)):=rfl
 rw[h];simp only[bR,inB,bind_assoc,pure_bind]
def BS(it a:Value)(env:Env):compTurn (fV elt tg iter tg2 iter2 scope pos) 1 it a env=bR (fV elt tg iter tg2 iter2 scope pos) 1 tg2 iter2.pos it a env (Ec elt a env):=rfl
theorem t9(f:PE Y elt te):PB Y (Ec elt (.ref D) Y.env) (HF te D):=λa s b H Q I h=>by
 refine ac3 (thn (f a s b H _ I h) λu j c=>?_);obtain⟨y,d,e,o,m,g,k,q⟩:=c;exact ac3 (thn (eh a j b d (.ref D) [y] (.ref D) [u] (λv l=>v=.non/\Q b l) e rfl (.cons o .nil) ⟨D,m,y,rfl,rfl,g,k,rfl,q⟩) λv r c=>by
  obtain⟨z,i,p,_,_,n⟩:=c;exact ac4 ⟨b,i,p,n⟩)
theorem EJ(m:Y.calm=true)(u:Y.xe=λ_ _=>False)(hs:∀x,foldedSetIterable iter2 Y.env x=pure x)(L:PI Y tg2 iter2 wi)(z:PG Y tg2 g)(p:PB Y (Ec elt (.ref D) Y.env) tb):
  PB Y (inB elt tg iter tg2 iter2 scope pos (.ref D) Y.env) (HE wi g tb):=by
 intro b s F H Q I h;refine ac3 (thn (L b s F H _ I h) λv S C=>ac3 (adj (ac3 (adE (hs v) (ac3 (adb (thn C λn l B=>?_)))))));obtain⟨y,O,N,J,P,rfl,M,T,d,o,w⟩:=B;have c:codeAny (model Y.prog Y.w) Y.A (.compLoop (fV elt tg iter tg2 iter2 scope pos) 1 (.ref y) (.ref D) Y.env) (λr i=>match r with|.ok _=>∃a k,Inv Y b a k i/\Q a k|.error e=>cameBackBy (model Y.prog Y.w) Y.A Y.env Y.xe e i) l:=
  jJ (.inl ⟨_,_,_,_,rfl⟩) m u (BS ..) T z p M d o w λa k i t _ q=>⟨a,k,t,q⟩
 refine ac3 (wpAny_runOwn (tY (.inl ⟨_,_,_,_,rfl⟩) rfl rfl ?_ (T.self _ 0 l _ _ d ?_)))
 ·exact adm c λr i j=>by cases r with|ok f=>exact ac4 j|error e=>exact j
 ·exact adm c λr i j=>by cases r with|ok f=>exact ac4 j|error e=>exact j
end
abbrev Aj(ifs:List Expr)(act:Sem Unit)(env:Env):Sem Unit:=(forIn ifs true λc r=>if r=true then do let ok <-isTrue c env (eval c env);pure (ForInStep.yield ok) else pure (ForInStep.yield r)) >>= λok=>if ok=true then act else pure ()
def uc(h:PB Y act tb):PB Y (Aj [] act Y.env) tb:=λa s b H Q I q=>ac3 (wpAny_tests_nil (h a s b H Q I q))
theorem BU(i:PT Y c tt)(h:PB Y act tb):PB Y (Aj [c] act Y.env) (λσ H Q=>tt σ H λb d=>if b=true then tb σ d Q else Q σ d):=λa s σ H Q I q=>by
 refine ac3 (wpAny_tests_one (thn (i a s σ H _ I q) λb j g=>?_));obtain⟨d,f,e⟩:=g;cases b with
 |true=>exact h a j σ d Q f e
 |false=>exact ac4 ⟨σ,d,f,e⟩
def nV(Y:Cx)(D:Addr)(a:List Expr)(elt:Expr)(tc:TC):Prop:=PB Y (Aj a (Ec elt (.ref D) Y.env) Y.env) (λb H Q=>tc D b H (Q b))
section
variable{X Y:Cx}{tg elt iter kx vx:Expr}{ifs:List Expr}{scope:Scope}{pos:Pos}{N:List Str}{nt:Nat}{fr:List Nat}{D:Addr}
def rQ(a:PE Y elt te):nV Y D [] elt (pw te):=uc (t9 a)
def ud(a:PT Y c tt)(b:PE Y elt te):nV Y D [c] elt (EI tt te):=BU a (t9 b)
def HG:MkC X (newList []) { cls:=.type "list",dict:=none,data:=.seq ([]:List Value).toArray } (.lst []):=⟨λh=>adc h (by show 0<=sizeLine;exact aaI _),λI=>I.lnew .nil (aaI _)⟩
def jp{c:Type}(m:Sem Bool)(a:Sem Unit)(k:Sem c):(m >>= λb=>if b=true then a >>= λ_=>k else k)=((m >>= λb=>if b=true then a else pure ()) >>= λ_=>k):=by rw[bind_assoc];congr 1;funext b;cases b<;>rfl
def ue(it a:Value)(env:Env):compTurn (.ListComp elt [⟨tg,iter,ifs,0⟩] scope pos) 0 it a env=bR (.ListComp elt [⟨tg,iter,ifs,0⟩] scope pos) 0 tg iter.pos it a env (Aj ifs (Ec elt a env) env):=by rw[compTurn_list];simp only[bR,Aj,<-jp,Ec];rfl
theorem pD(a:X.calm=true)(S:CompScope N nt fr X.N scope X.env.scope)(d:PI X tg iter wi)(b:∀c:CC,PG (ba X N scope c) tg (g c))(e:∀(c:CC) D,nV (ba X N scope c) D ifs elt (tc c))(hs:∀x,foldedSetIterable iter X.env x=pure x:=by intro _;rfl):
  PE X (.ListComp elt [⟨tg,iter,ifs,0⟩] scope pos) (pC wi nt fr g tc):=lT (.inl ⟨_,_,_,_,rfl⟩) rfl (λ_ _ _=>ue ..) HG rfl a S d b e hs
theorem yc(k:X.N.Nodup)(j:X.N[i]?=some y)(b:X.env.scope.names.lookup y=some .local)(d:X.calm=true)(S:CompScope N nt fr X.N scope X.env.scope)(f:PI X tg iter wi)(e:∀c:CC,PG (ba X N scope c) tg (g c))(h:∀(c:CC) D,nV (ba X N scope c) D ifs elt (tc c))(hs:∀x,foldedSetIterable iter X.env x=pure x)
  (a:swapsWith (.ListComp elt [⟨tg,iter,ifs,0⟩] scope pos) (some (.Name y py)) spos.line X.env=pure true):PS X (.Assign [.Name y py] (.ListComp elt [⟨tg,iter,ifs,0⟩] scope pos) spos) (lO (pC wi nt fr g tc) (gE i)):=
 ko (.inl ⟨_,_,_,_,rfl⟩) rfl (λ_ _ _=>ue ..) HG (λ_=>rfl) k j b d S f e h hs a
def uf(a:TI)(nt:Nat)(fr:List Nat)(g:CC->TG)(b:CC->Addr->TB):TE:=fU (.lst []) a nt fr g b
theorem yd(k:X.N.Nodup)(j:X.N[i]?=some y)(b:X.env.scope.names.lookup y=some .local)(d:X.calm=true)(S:CompScope N nt fr X.N scope X.env.scope)(f:PI X tg iter wi)(e:∀c:CC,PG (ba X N scope c) tg (g c))(h:∀(c:CC) D,PB (ba X N scope c) (inB elt tg iter tg2 iter2 scope pos (.ref D) (ba X N scope c).env) (tb c D))(hs:∀x,foldedSetIterable iter X.env x=pure x)
  (a:swapsWith (fV elt tg iter tg2 iter2 scope pos) (some (.Name y py)) spos.line X.env=pure true):PS X (.Assign [.Name y py] (fV elt tg iter tg2 iter2 scope pos) spos) (lO (uf wi nt fr g tb) (gE i)):=
 ko (.inl ⟨_,_,_,_,rfl⟩) rfl (λ_ _ _=>BR ..) HG (λ_=>rfl) k j b d S f e h hs a
end
end
section
section
variable{prog:Program}{w:World}{A:Around}{E:Value->Shared->Prop}{s:Shared}
theorem eZ{items}(a:s.heap.IsTupleIter it t i)
  (f:s.heap.IsTuple t items) (h:items[i]?=some x)
  (j:∀h',h'.IsTupleIter it t (i+1)->Heap.SameBut it s.heap h'->Q x { s with heap:=h' }):
  wpAny (model prog w) A (Builtin.SmallTypes.nextOf (.ref it)) Q E s:=by
 obtain⟨o,c,g,b⟩:=id a;obtain⟨l,d,_,k,e⟩:=f;unfold Builtin.SmallTypes.nextOf;refine ac3 (ads a.typeIs adF
  (adl adF a.typeIs adV ?_ (adW _)))
 show wpAny _ _ (field (.ref it) 0 >>= _) _ _ s;refine ac3 (ade c b rfl ?_);show wpAny _ _ (if (Value.ref t==Value.none)=true then _ else _) _ _ s;rw[if_neg (show ¬ ((Value.ref t==Value.none)=true) from aak)];show wpAny _ _ (field (.ref it) 1 >>= _) _ _ s;refine ac3 (ade c b rfl ?_);show wpAny _ _ (seqItems? (.ref t) >>= _) _ _ s;refine ac3 (adi d e ?_);simp only[aaP,h];refine ac3 (adg c b (by simp) (ac4 ⟨x,rfl,ac4 (j _ ?_ (ada ..))⟩));exact⟨_,adf _ c (Obj.isFreed_of_fields (Obj.data_mapFields b _)),(Obj.cls_mapFields ..).trans g,by
  rw[Obj.data_mapFields b];simp[rawInt]⟩
theorem fW{items}{Q:Value->Shared->Prop}(g:A.handled=none)
  (a:s.heap.IsTupleIter it t i) (h:s.heap.IsTuple t items) (k:items[i]?=none)
  (j:∀h' e,Heap.ExtBut it s.heap h'->(∃o,h'.get? e=some o/\o.cls=.type "StopIteration")->E (.ref e) { s with heap:=h' }):
  wpAny (model prog w) A (Builtin.SmallTypes.nextOf (.ref it)) Q E s:=by
 obtain⟨o,d,m,b⟩:=id a;obtain⟨n,c,_,l,f⟩:=h;unfold Builtin.SmallTypes.nextOf;refine ac3 (ads a.typeIs adF
  (adl adF a.typeIs adV ?_ (adW _)))
 show wpAny _ _ (field (.ref it) 0 >>= _) _ _ s;refine ac3 (ade d b rfl ?_);show wpAny _ _ (if (Value.ref t==Value.none)=true then _ else _) _ _ s;rw[if_neg (show ¬ ((Value.ref t==Value.none)=true) from aak)];show wpAny _ _ (field (.ref it) 1 >>= _) _ _ s;refine ac3 (ade d b rfl ?_);show wpAny _ _ (seqItems? (.ref t) >>= _) _ _ s;refine ac3 (adi c f ?_);simp only[aaP,k];refine ac3 (adk (ac3 (adg d b (by simp) ?_)));show wpAny _ _ (newExc (.type "StopIteration") [] >>= _) _ _ _;refine ac3 ?_;simp only[newExc,newTuple];refine ac3 (adc ?_ (by size_fits));refine ac3 (adE (by first|rfl|(simp only[firstArgMember];rfl)) ?_);refine adc ?_ (by size_fits);simp only[raiseNew];refine ac3 (wpAny_handled ?_)
 first|rw[show A.in1.handled=none from g]|rw[g]
 refine ac3 (ac4 (wpAny_throw ?_));exact j _ _ (((ada ..).extBut.push _).push _) ⟨_,ac7 _ rfl,rfl⟩
end
inductive ZS where
 |lst (a:Addr) (xs:List V)
 |tup (a:Addr) (xs:List V)
 |str (z:Str)
def ZS.items:ZS->List V
 |.lst _ xs=>xs
 |.tup _ xs=>xs
 |.str z=>z.cps.toList.map λc=>.str ⟨#[c]⟩
def ZS.val:ZS->V
 |.lst a _=>.ref a
 |.tup a _=>.ref a
 |.str z=>.str z
def ZS.ok(K:Waa)(H:Hp):ZS->Prop
 |.lst a xs=>SqL K H a xs
 |.tup a xs=>SqT K H a xs
 |.str _=>True
structure Sub (prog:Program)(w:World)(A:Around)(i:Addr)(sl:List Addr)(src:Heap->Prop)(st:Nat->Heap->Prop)(vs:List V):Prop where
 sfr:∀h h',src h->(∀b∈sl,∀o,h.get? b=some o->h'.get? b=some o)->src h'
 ifr:∀k h h',st k h->(∀o,h.get? i=some o->h'.get? i=some o)->st k h'
 item:∀(k:Nat) (s:Shared) (x:V) (Q:Value->Shared->Prop) (E:Value->Shared->Prop),vs[k]?=some x->src s.heap->st k s.heap ->
  (∀v h' tk,RelV x v->st (k+1) h'->Heap.SameBut i s.heap h'->Q v { s with heap:=h',toks:=tk })->wpAny (model prog w) A (Builtin.SmallTypes.nextOf (.ref i)) Q E s
 done:∀(k:Nat) (s:Shared) (Q:Value->Shared->Prop) (E:Value->Shared->Prop),vs.length<=k->src s.heap->st k s.heap ->
  (∀h' e,Heap.ExtBut i s.heap h'->(∃o,h'.get? e=some o/\o.cls=.type "StopIteration")->E (.ref e) { s with heap:=h' })->wpAny (model prog w) A (Builtin.SmallTypes.nextOf (.ref i)) Q E s
theorem Sub.list(m:A.handled=none)(i l:Addr)(r:Vals xs its):
  Sub prog w A i [l] (λh=>h.IsList l its.toArray) (λk h=>h.IsListIter i l k) xs where
 sfr:=λh a x k=>x.at λo e=>k l (by simp) o e
 ifr:=λk h a x f=>x.at λo e=>f o e
 item:=λk s x Q E p d b n=>by obtain⟨u,g,q⟩:=r.get p;exact wpAny_nextOf_list_item b d (by simpa using g) λa c j=>n u a s.toks q c j
 done:=λk s Q E y d b t=>by have v:=r.length;exact wpAny_nextOf_list_end m b d (by simp;omega) t
theorem Sub.tuple(n:A.handled=none)(i l:Addr)(r:Vals xs its):
  Sub prog w A i [l] (λh=>h.IsTuple l its.toArray) (λk h=>h.IsTupleIter i l k) xs where
 sfr:=λh a ⟨o,e,c⟩ k=>⟨o,k l (by simp) o e,c⟩
 ifr:=λk h a ⟨o,e,c⟩ f=>⟨o,f o e,c⟩
 item:=λk s x Q E q g b p=>by obtain⟨u,j,t⟩:=r.get q;exact eZ b g (by simpa using j) λa d m=>p u a s.toks t d m
 done:=λk s Q E z g b v=>by have y:=r.length;exact fW n b g (by simp;omega) v
theorem Sub.strs(q:A.handled=none)(i:Addr)(z:Str)(t:Tok):
  Sub prog w A i [] (λ_=>True) (λk h=>h.IsStrIter i (strIterType z) z t k) (z.cps.toList.map λc=>V.str ⟨#[c]⟩) where
 sfr:=λh g x k=>trivial
 ifr:=λk h g ⟨o,e,c⟩ f=>⟨o,f o e,c⟩
 item:=λk s x Q E l v a j=>by
  rw[aas]at l;cases e:z.cps.toList[k]? with
  |none=>rw[e]at l;cases l
  |some c=>
   rw[e]at l;have n:V.str ⟨#[c]⟩=x:=aaC l;subst n;have d:z.cps[k]?=some c:=by rw[<-aaW];exact e
   unfold strIterType at a j;split at a
   ·rename_i p;rw[if_pos p]at j;exact wpAny_nextOf_ascii_item a d λg b m=>j _ g _ ⟨_,rfl⟩ b m
   ·rename_i p;rw[if_neg p]at j;exact wpAny_nextOf_wide_item a d λg b m=>j _ g _ ⟨_,rfl⟩ b m
 done:=λk s Q E u v a r=>by
  have d:z.cps[k]?=none:=by rw[aaa,aaL]at u;exact ack u
  unfold strIterType at a;split at a
  ·exact wpAny_nextOf_ascii_end q a d r
  ·exact wpAny_nextOf_wide_end q a d r
structure ZApart (z TI TO i1 i2:Addr)(sl1 sl2:List Addr):Prop where
 TIz:TI≠z
 TOz:TO≠z
 i1z:i1≠z
 i2z:i2≠z
 TITO:TI≠TO
 TIi1:TI≠i1
 TIi2:TI≠i2
 TOi1:TO≠i1
 TOi2:TO≠i2
 i12:i1≠i2
 s1:∀b∈sl1,b≠z/\b≠TO/\b≠i1/\b≠i2
 s2:∀b∈sl2,b≠z/\b≠TO/\b≠i1/\b≠i2
section
variable{prog:Program}{w:World}{A:Around}{E:Value->Shared->Prop}{s:Shared}
theorem rR{z O p U P:Addr}{Q:Value->Shared->Prop}(D:ZApart z O p U P sl1 sl2)
  (S1:Sub prog w A U sl1 src1 st1 xs) (S2:Sub prog w A P sl2 src2 st2 ys)
  (hz:IsZip s.heap z O p .none) (b6:IsPair s.heap O (.ref U) (.ref P)) (b0:IsPair s.heap p a b)
  (h1:st1 k s.heap) (h2:st2 k s.heap) (c6:src1 s.heap) (a7:src2 s.heap) (hx:xs[k]?=some x) (hy:ys[k]?=some y)
  (hQ:∀u v h' tk,RelV x u->RelV y v->IsZip h' z O p (rawInt s.heap.objs.size)->IsPair h' p u v->st1 (k+1) h'->st2 (k+1) h'->IsPair h' s.heap.objs.size u v->h'.objs.size=s.heap.objs.size+1 ->
   (∀c o,c≠z->c≠p->c≠U->c≠P->s.heap.get? c=some o->h'.get? c=some o)->Q (.ref s.heap.objs.size) { s with heap:=h',toks:=tk })
  (d0:U<s.heap.objs.size) (d1:P<s.heap.objs.size):
  wpAny (model prog w) A (Builtin.«zip.__next__» ⟨[.ref z],[]⟩) (λc0 s'=>∃v,c0=.done (.ret v)/\Q v s') E s:=by
 show wpAny _ _ (field (.ref z) 2 >>= _) _ _ _;refine ac3 (ade hz rfl rfl ?_);show wpAny _ _ (field (.ref z) 3 >>= _) _ _ _;refine ac3 (ade hz rfl rfl ?_);refine ac3 (adi b6 rfl ?_);show wpAny _ _ (Builtin.SmallTypes.ownedTupleIsFree (.ref z) >>= _) _ _ _;refine ac3 ?_;unfold Builtin.SmallTypes.ownedTupleIsFree;refine ac3 (ade hz rfl rfl (ac4 ?_));simp only[if_true];refine ac3 (adk ?_);refine ac3 (ade hz rfl rfl ?_);refine ac3 (adt hz (by simp) λS C j=>?_);replace C:IsZip S z O p .ellipsis:=C;refine ac3 ?_;simp only[List.zipIdx_cons,List.zipIdx_nil,acj,List.forIn_nil];refine ac3 (ac3 (adG ?_));show wpAny _ _ (Builtin.SmallTypes.nextOf (.ref U) >>= _) _ _ _;refine ac3 (S1.item k _ x _ _ hx (S1.sfr _ _ c6 λb hb o e=>j.extBut b o (D.s1 b hb).1 e) (S1.ifr _ _ _ h1 λo e=>j.extBut _ o D.i1z e) λu J c5 ru X f=>ac4 ?_);have f:Heap.SameBut U S J:=f;have H:IsPair J p a b:=f.extBut _ _ D.TOi1 (j.extBut _ _ D.TOz b0);refine ac3 (adi H rfl ?_);refine ac3 (adO H λN n g=>?_);replace n:IsPair N p u b:=n;have g:Heap.SameBut p J N:=g;refine ac3 (wpAny_letGo (ac4 ?_));refine ac3 (ac3 (adG ?_));show wpAny _ _ (Builtin.SmallTypes.nextOf (.ref P) >>= _) _ _ _;refine ac3 (S2.item k _ y _ _ hy (S2.sfr _ _ a7 λb hb o e=>g.extBut b o (D.s2 b hb).2.1 (f.extBut b o (D.s2 b hb).2.2.1 (j.extBut b o (D.s2 b hb).1 e)))
  (S2.ifr _ _ _ h2 λo e=>g.extBut _ o D.TOi2.symm (f.extBut _ o D.i12.symm (j.extBut _ o D.i2z e))) λv M a6 rv a2 h=>ac4 ?_)
 have h:Heap.SameBut P N M:=h;have F:IsPair M p u b:=h.extBut _ _ D.TOi2 n;refine ac3 (adi F rfl ?_);refine ac3 (adO F λd l i=>?_);replace l:IsPair d p u v:=l;have i:Heap.SameBut p M d:=i;refine ac3 (wpAny_letGo (ac4 (ac4 ?_)));refine ac3 (adi l rfl ?_);refine ac3 (wpAny_newTuple ?_);have a5:d.objs.size=s.heap.objs.size:=by rw[i.1,h.1,g.1,f.1,j.1]
 have I:IsZip d z O p .ellipsis:=i.extBut _ _ D.TOz.symm (h.extBut _ _ D.i2z.symm (g.extBut _ _ D.TOz.symm (f.extBut _ _ D.i1z.symm C)));have a0:∀c o,c≠z->c≠p->c≠U->c≠P->s.heap.get? c=some o->d.get? c=some o:=λc o Z c2 c3 c4 e=>
  i.extBut _ _ c2 (h.extBut _ _ c4 (g.extBut _ _ c2 (f.extBut _ _ c3 (j.extBut _ _ Z e))))
 have a1:st1 (k+1) d:=S1.ifr _ _ _ X λo e=>i.extBut _ o D.TOi1.symm (h.extBut _ o D.i12 (g.extBut _ o D.TOi1.symm e));have Y:st2 (k+1) d:=S2.ifr _ _ _ a2 λo e=>i.extBut _ o D.TOi2.symm e;have T:z<d.objs.size:=ac5 I;show wpAny _ _ (Builtin.SmallTypes.ownedTupleHandOut (.ref z) (.ref d.objs.size) >>= _) _ _ _;refine ac3 ?_;unfold Builtin.SmallTypes.ownedTupleHandOut;have W:IsZip (d.push { cls:=.type "tuple",data:=.seq #[u,v] }) z O p .ellipsis:=ac6 _ I;refine ac3 (adt W (by simp) λa4 t r=>?_);replace t:IsZip a4 z O p (rawInt d.objs.size):=t;refine adt t (by simp) λq m B=>?_;replace m:IsZip q z O p (rawInt d.objs.size):=m;have up:∀c o,c≠z->d.get? c=some o->q.get? c=some o:=λc o Z e=>B.extBut _ _ Z (r.extBut _ _ Z (ac6 _ e));have L:IsPair q d.objs.size u v:=B.extBut _ _ (aaN T) (r.extBut _ _ (aaN T) (ac7 _ rfl));have a3:q.objs.size=d.objs.size+1:=by rw[B.1,r.1,ac8]
 rw[a5]at m L a3;refine ac4 ⟨_,rfl,?_⟩;show Q (.ref d.objs.size) _;rw[a5];exact hQ u v q _ ru rv m (up _ _ D.TOz l) (S1.ifr _ _ _ a1 λo e=>up _ o D.i1z e) (S2.ifr _ _ _ Y λo e=>up _ o D.i2z e) L a3 λc o Z c2 c3 c4 e=>up c o Z (a0 c o Z c2 c3 c4 e)
theorem ug{z J B H I:Addr}{Q:Fin->Shared->Prop}(D:ZApart z J B H I sl1 sl2)
  (T:Sub prog w A H sl1 src1 st1 xs) (Y:Sub prog w A I sl2 src2 st2 ys)
  (P:IsZip s.heap z J B .none) (a1:IsPair s.heap J (.ref H) (.ref I)) (Z:IsPair s.heap B a b)
  (h1:st1 k s.heap) (h2:st2 k s.heap) (a3:src1 s.heap) (X:src2 s.heap) (L:xs.length<=k\/ys.length<=k)
  (hE:∀h' tk e,(∀c o,c≠z->c≠B->c≠H->c≠I->s.heap.get? c=some o->h'.get? c=some o)->(∃o,h'.get? e=some o/\o.cls=.type "StopIteration")->E (.ref e) { s with heap:=h',toks:=tk }):
  wpAny (model prog w) A (Builtin.«zip.__next__» ⟨[.ref z],[]⟩) Q E s:=by
 show wpAny _ _ (field (.ref z) 2 >>= _) _ _ _;refine ac3 (ade P rfl rfl ?_);show wpAny _ _ (field (.ref z) 3 >>= _) _ _ _;refine ac3 (ade P rfl rfl ?_);refine ac3 (adi a1 rfl ?_);show wpAny _ _ (Builtin.SmallTypes.ownedTupleIsFree (.ref z) >>= _) _ _ _;refine ac3 ?_;unfold Builtin.SmallTypes.ownedTupleIsFree;refine ac3 (ade P rfl rfl (ac4 ?_));simp only[if_true];refine ac3 (adk ?_);refine ac3 (ade P rfl rfl ?_);refine ac3 (adt P (by simp) λm l g=>?_);replace l:IsZip m z J B .ellipsis:=l;refine ac3 ?_;simp only[List.zipIdx_cons,List.zipIdx_nil,acj,List.forIn_nil];refine ac3 (ac3 (adG ?_));show wpAny _ _ (Builtin.SmallTypes.nextOf (.ref H) >>= _) _ _ _;have l1:src1 m:=T.sfr _ _ a3 λb M o e=>g.extBut b o (D.s1 b M).1 e;have t1:st1 k m:=T.ifr _ _ _ h1 λo e=>g.extBut _ o D.i1z e;by_cases hx:xs.length<=k
 ·refine ac3 (T.done k _ _ _ hx l1 t1 λi e d W=>?_);have d:Heap.ExtBut H m i:=d;obtain⟨oe,n,r⟩:=W;have v:IsZip i z J B .ellipsis:=d _ _ D.i1z.symm l;have F:e≠z:=λx=>by subst x;rw[v]at n;cases n;simp at r
  refine adt v (by simp) λq _ f=>hE q _ e (λc o O _ c3 _ x=>f.extBut _ _ O (d _ _ c3 (g.extBut _ _ O x))) ⟨oe,f.extBut _ _ F n,r⟩
 ·have hy:ys.length<=k:=by rcases L with h|h;exact absurd h hx;exact h
  obtain⟨x,a0⟩:∃x,xs[k]?=some x:=⟨_,aan (Nat.lt_of_not_le hx)⟩
  refine ac3 (T.item k _ x _ _ a0 l1 t1 λu i a2 ru U d=>ac4 ?_);have d:Heap.SameBut H m i:=d;have p:IsPair i B a b:=d.extBut _ _ D.TOi1 (g.extBut _ _ D.TOz Z);refine ac3 (adi p rfl ?_);refine ac3 (adO p λq S f=>?_);have f:Heap.SameBut B i q:=f;refine ac3 (wpAny_letGo (ac4 ?_));refine ac3 (ac3 (adG ?_));show wpAny _ _ (Builtin.SmallTypes.nextOf (.ref I) >>= _) _ _ _;refine ac3 (Y.done k _ _ _ hy (Y.sfr _ _ X λb M o e=>f.extBut b o (D.s2 b M).2.1 (d.extBut b o (D.s2 b M).2.2.1 (g.extBut b o (D.s2 b M).1 e)))
   (Y.ifr _ _ _ h2 λo e=>f.extBut _ o D.TOi2.symm (d.extBut _ o D.i12.symm (g.extBut _ o D.i2z e))) λC e j W=>?_)
  have j:Heap.ExtBut I q C:=j;obtain⟨oe,n,r⟩:=W;have y:IsZip C z J B .ellipsis:=j _ _ D.i2z.symm (f.extBut _ _ D.TOz.symm (d.extBut _ _ D.i1z.symm l));have F:e≠z:=λx=>by subst x;rw[y]at n;cases n;simp at r
  refine adt y (by simp) λN _ t=>hE N _ e (λc o O c2 c3 c4 x=>t.extBut _ _ O (j _ _ c4 (f.extBut _ _ c2 (d.extBut _ _ c3 (g.extBut _ _ O x))))) ⟨oe,t.extBut _ _ F n,r⟩
theorem nW{z g d f e:Addr}(D:ZApart z g d f e sl1 sl2)
  (H:Sub prog w A.in1 f sl1 src1 st1 xs) (L:Sub prog w A.in1 e sl2 src2 st2 ys)
  (q:IsZip s.heap z g d .none) (m:IsPair s.heap g (.ref f) (.ref e)) (l:IsPair s.heap d a b)
  (S:st1 k s.heap) (P:st2 k s.heap) (p:src1 s.heap) (i:src2 s.heap) (N:xs[k]?=some x) (X:ys[k]?=some y)
  (M:∀u v h' j,RelV x u->RelV y v->IsZip h' z g d (rawInt s.heap.objs.size)->IsPair h' d u v->st1 (k+1) h'->st2 (k+1) h'->IsPair h' s.heap.objs.size u v->h'.objs.size=s.heap.objs.size+1 ->
   (∀c o,c≠z->c≠d->c≠f->c≠e->s.heap.get? c=some o->h'.get? c=some o)->Q (some (.ref s.heap.objs.size)) { s with heap:=h',toks:=j })
  (h:f<s.heap.objs.size) (n:e<s.heap.objs.size):
  wpAny (model prog w) A (pyNext (.ref z)) Q E s:=by
 have r:s.TypeIs (.ref z) "zip":=⟨_,q,rfl⟩
 unfold pyNext;exact ac3 (adH (ads r adI
  (adl adI r F.entry_zip_next
   (rR D H L q m l S P p i N X (λu v h' j W t U O I J C T B=>ac4 (M u v h' j W t U O I J C T B)) h n) (F.args_zip_next_1 _))))
theorem rS{z i g h f:Addr}(D:ZApart z i g h f sl1 sl2)
  (v:Sub prog w A.in1 h sl1 src1 st1 xs) (x:Sub prog w A.in1 f sl2 src2 st2 ys)
  (q:IsZip s.heap z i g .none) (m:IsPair s.heap i (.ref h) (.ref f)) (l:IsPair s.heap g a b)
  (C:st1 k s.heap) (B:st2 k s.heap) (n:src1 s.heap) (j:src2 s.heap) (d:xs.length<=k\/ys.length<=k)
  (y:∀h' p,(∀c o,c≠z->c≠g->c≠h->c≠f->s.heap.get? c=some o->h'.get? c=some o)->Q none { s with heap:=h',toks:=p }):wpAny (model prog w) A (pyNext (.ref z)) Q E s:=by
 have r:s.TypeIs (.ref z) "zip":=⟨_,q,rfl⟩
 unfold pyNext;refine ac3 (adH (ads r adI
  (adl adI r F.entry_zip_next (ug D v x q m l C B n j d λh' p e I u=>?_) (F.args_zip_next_1 _))))
 obtain⟨o,H,t⟩:=u;refine ac3 (adP ⟨o,H,t⟩ isSubtype_stop ?_);exact ac4 (y _ _ I)
end
end
section
def HH(K:Waa)(a b:ZS):It:=
 ⟨λi H=>a.ok K H/\b.ok K H/\i<a.items.length/\i<b.items.length,
  λi H v c=>∃T x y,a.items[i]?=some x/\b.items[i]?=some y/\H T=none/\v=.ref T/\c=upd H T (.tup [x,y]),
  λi H=>a.ok K H/\b.ok K H/\(a.items.length<=i\/b.items.length<=i)⟩
def ZS.zb:ZS->Value->Obj
 |.lst _ _,v=>{ cls:=.type "list_iterator",data:=.fields #[v,.int 0 0] }
 |.tup _ _,v=>{ cls:=.type "tuple_iterator",data:=.fields #[v,.int 0 0] }
 |.str z,v=>{ cls:=.type (strIterType z),data:=.fields #[v,.int 0 0] }
def ZS.st(a:ZS)(v:Value)(i:Addr)(k:Nat)(h:Heap):Prop:=match a,v with
 |.lst l _,_=>h.IsListIter i l k
 |.tup l _,_=>h.IsTupleIter i l k
 |.str z,.str _ t=>h.IsStrIter i (strIterType z) z t k
 |.str _,_=>False
def ZS.sl:ZS->List Addr
 |.lst l _=>[l]
 |.tup l _=>[l]
 |.str _=>[]
theorem ZS.pa{a:ZS}(x:a.st v i k h):∃o,h.get? i=some o/\∀c,o.data≠.cell c:=by
 cases a with
 |lst l b=>obtain⟨o,e,c,d⟩:=(show h.IsListIter i l k from x);exact⟨o,e,λv z=>by rw[d]at z;cases z⟩
 |tup l b=>obtain⟨o,e,c,d⟩:=(show h.IsTupleIter i l k from x);exact⟨o,e,λv z=>by rw[d]at z;cases z⟩
 |str z=>
  cases v with
  |str y t=>obtain⟨o,e,c,d⟩:=(show h.IsStrIter i (strIterType z) z t k from x);exact⟨o,e,λv z=>by rw[d]at z;cases z⟩
  |_=>exact False.elim x
theorem ZS.mv{a:ZS}(x:a.st v i k h)(f:∀o,h.get? i=some o->h'.get? i=some o):a.st v i k h':=by
 cases a with
 |lst l b=>obtain⟨o,e,c⟩:=(show h.IsListIter i l k from x);exact⟨o,f o e,c⟩
 |tup l b=>obtain⟨o,e,c⟩:=(show h.IsTupleIter i l k from x);exact⟨o,f o e,c⟩
 |str z=>
  cases v with
  |str y t=>obtain⟨o,e,c⟩:=(show h.IsStrIter i (strIterType z) z t k from x);exact⟨o,f o e,c⟩
  |_=>exact False.elim x
section
variable{X:Cx}{pins:List (Addr×Obj)}{σ:St}{H:Hp}{s:Shared}
theorem ZS.sub(a:ZS)(I:Inv X pins σ H s)(c:a.ok X.K H)(x:RelV a.val v)(A:Around)(k:A.handled=none)(i:Addr):
  ∃g:Heap->Prop,g s.heap/\Sub X.prog X.w A i a.sl g (a.st v i) a.items/\(∀b∈a.sl,∃o,s.heap.get? b=some o/\(H b≠none\/X.base.get? b=some o)):=by
 cases a with
 |lst l m=>
  have c:SqL X.K H l m:=c;obtain⟨q,r,p,u⟩:=I.list c;refine⟨_,p.isList,Sub.list k i l r,λb f=>?_⟩;have e:b=l:=by simpa[ZS.sl] using f
  subst e;rcases c with (h|⟨o,h⟩)|⟨o,d,n,j,_⟩
  ·obtain⟨_,_,_,_,e⟩:=I.hok _ _ h;exact⟨_,e,.inl (by rw[h];simp)⟩
  ·obtain⟨e,_⟩:=I.hok _ _ h;exact⟨_,e,.inl (by rw[h];simp)⟩
  ·exact⟨o,I.rz _ _ j,.inr (I.ok.mod.kin _ _ j)⟩
 |tup l m=>
  have c:SqT X.K H l m:=c;obtain⟨q,r,p,u⟩:=I.tuple c;refine⟨_,p,Sub.tuple k i l r,λb f=>?_⟩;have e:b=l:=by simpa[ZS.sl] using f
  subst e;rcases c with (h|⟨o,h⟩)|⟨o,d,n,j,_⟩
  ·obtain⟨_,_,_,o,e,_⟩:=I.hok _ _ h;exact⟨_,e,.inl (by rw[h];simp)⟩
  ·obtain⟨e,_⟩:=I.hok _ _ h;exact⟨_,e,.inl (by rw[h];simp)⟩
  ·exact⟨o,I.rz _ _ j,.inr (I.ok.mod.kin _ _ j)⟩
 |str z=>obtain⟨t,rfl⟩:=x;exact⟨_,trivial,Sub.strs k i z t,λb f=>by simp[ZS.sl]at f⟩
end
theorem aJ{a:ZS}(I:Inv X pins σ H s)(f:FpOk X pins H b)(h:∀c∈a.sl,∃o,s.heap.get? c=some o/\(H c≠none\/X.base.get? c=some o)):∀c∈a.sl,c≠b:=by
 intro c d e;subst e;obtain⟨o,_,q⟩:=h c d;rcases q with q|q
 ·exact q f.1
 ·rcases f.2.2.2.1 with z|z
  ·exact I.ok.noex c o q z
  ·exact absurd (aay (ac5 q) (aax I.ok.bsz z)) (aaR _)
structure ZRec (z TI TO i1 i2:Addr):Prop where
 TIz:TI≠z
 TOz:TO≠z
 i1z:i1≠z
 i2z:i2≠z
 TITO:TI≠TO
 TIi1:TI≠i1
 TIi2:TI≠i2
 TOi1:TO≠i1
 TOi2:TO≠i2
 i12:i1≠i2
theorem Inv.nc{t':Nat}{g:List Addr}(I:Inv X pins σ H s)(k:∀b o,b ∉ g->s.heap.get? b=some o->h'.get? b=some o)(f:∀b∈g,FpOk X pins H b)
  : Inv X pins σ H { s with heap:=h',toks:=t' }:=by
 have d:∀b u,H b=some u->b ∉ g:=λb u e z=>by rw[(f b z).1]at e;cases e
 refine I.step (λb l=>?_) (λb o _ _ a e _=>k b o a e) (λb o _ _ a e _=>⟨o.slots,k b o a e⟩) (λ_ _ _ _ n=>n)
  (λb o a e=>⟨o,k b o a e⟩) (λ_ _ e=>e) (λ_ _ _ e=>e) (λb C e=>⟨#[],by rw[e];simp⟩) (λm h=>?_) (λb u e=>?_) I.bare
 ·obtain⟨B,w,A,x,i,j⟩:=f b l;exact⟨x,w,i,j⟩
 ·obtain⟨o,p,t,y,r⟩:=h;exact⟨o,p,t,k _ o (λz=>(f _ z).2.1 rfl) y,r⟩
 ·refine(I.hok b u e).q7 (λc v a q=>k c v ?_ q) (λ_ q=>q) λ_ _ q=>q;rcases a with z|z
  ·rw[z];exact d b u e
  ·exact d c _ z
theorem ui{P:Program}{w:World}{K:Waa}{es:List Expr}{x1}{pos:Pos}(a b:ZS)(va vb:Value)(ra:RelV a.val va)(rb:RelV b.val vb)(z TI TO i1 i2:Addr)(R:ZRec z TI TO i1 i2):
  Turn P w K (.Tuple es x1 pos) (HH K a b) [z,TI,TO,i1,i2] z
   (λi h=>IsZip h z TI TO .none/\IsPair h TI (.ref i1) (.ref i2)/\(∃p q,IsPair h TO p q)/\a.st va i1 i h/\b.st vb i2 i h) where
 mem:=by simp
 obj:=λi h ⟨C,F,⟨p,q,L⟩,J,M⟩ c d=>by
  simp only[aab,aao,or_false]at d;rcases d with rfl|rfl|rfl|rfl|rfl
  ·exact⟨_,C,λv z=>by cases z⟩
  ·exact⟨_,F,λv z=>by cases z⟩
  ·exact⟨_,L,λv z=>by cases z⟩
  ·exact ZS.pa J
  ·exact ZS.pa M
 keep:=λi h h' ⟨C,F,⟨p,q,L⟩,J,M⟩ k=>
  ⟨k z (by simp) _ C,k TI (by simp) _ F,⟨p,q,k TO (by simp) _ L⟩,ZS.mv J (λo e=>k i1 (by simp) o e),ZS.mv M (λo e=>k i2 (by simp) o e)⟩
 item:=by
  intro X hP hw hK d i t s σ H E I g ⟨C,F,⟨p,q,L⟩,J,M⟩ hg;subst hP hw hK;obtain⟨O,Q,la,lb⟩:=hg;have hh:X.A.in1.handled=none:=I.ok.hd d;obtain⟨W,S,S1,j⟩:=a.sub I O ra X.A.in1 hh i1;obtain⟨a3,N,S2,l⟩:=b.sub I Q rb X.A.in1 hh i2;obtain⟨x,hx⟩:∃x,a.items[i]?=some x:=⟨_,aan la⟩
  obtain⟨y,hy⟩:∃y,b.items[i]?=some y:=⟨_,aan lb⟩
  have D:ZApart z TI TO i1 i2 a.sl b.sl:=⟨R.TIz,R.TOz,R.i1z,R.i2z,R.TITO,R.TIi1,R.TIi2,R.TOi1,R.TOi2,R.i12,
   λc d=>⟨aJ I (g z (by simp)) j c d,aJ I (g TO (by simp)) j c d,aJ I (g i1 (by simp)) j c d,aJ I (g i2 (by simp)) j c d⟩,
   λc d=>⟨aJ I (g z (by simp)) l c d,aJ I (g TO (by simp)) l c d,aJ I (g i1 (by simp)) l c d,aJ I (g i2 (by simp)) l c d⟩⟩
  have fl:∀c∈([z,TI,TO,i1,i2]:List Addr),c<s.heap.objs.size:=λc d=>by
   simp only[aab,aao,or_false]at d;rcases d with rfl|rfl|rfl|rfl|rfl
   ·exact ac5 C
   ·exact ac5 F
   ·exact ac5 L
   ·obtain⟨o,e,_⟩:=ZS.pa J;exact ac5 e
   ·obtain⟨o,e,_⟩:=ZS.pa M;exact ac5 e
  refine nW D S1 S2 C F L J M S N hx hy (λu v h' tk ru rv a6 a0 Z a4 hT b0 hk=>?_) (fl i1 (by simp)) (fl i2 (by simp));refine⟨.ref s.heap.objs.size,rfl,?_⟩;refine wpAny_letOwnedTupleGo_zip a6 λB a1 f=>?_;have f:Heap.SameBut z h' B:=f;have Y:∀c o,c ∉ ([z,TI,TO,i1,i2]:List Addr)->s.heap.get? c=some o->B.get? c=some o:=λc o d e=>by simp only[aab,aao,or_false,not_or]at d;exact f.extBut _ _ d.1 (hk c o d.1 d.2.2.1 d.2.2.2.1 d.2.2.2.2 e)
  have T:H s.heap.objs.size=none:=I.hok.fresh (aae _);have I1:Inv X t σ H { s with heap:=B,toks:=tk }:=I.nc Y g;have a5:s.heap.objs.size≠z:=aaN (fl z (by simp));have U:IsPair B s.heap.objs.size u v:=f.extBut _ _ a5 hT;have I2:Inv X t σ (upd H s.heap.objs.size (.tup [x,y])) { s with heap:=B,toks:=tk }:=by
   refine I.step (g':=s.gens) (d':=s.drawn) (ch:=[z,TI,TO,i1,i2]) (λb hb=>?_) (λb o _ _ d e _=>Y b o d e) (λb o _ _ d e _=>⟨o.slots,Y b o d e⟩) (λb o d e n=>?_)
    (λb o d e=>⟨o,Y b o d e⟩) (λb ys e=>?_) (λb o u e=>?_) (λb ps e=>⟨#[],?_⟩) (λm hm=>?_) (λb o e=>?_) I.bare
   ·obtain⟨f0,f1,f2,f3,f4,f5⟩:=g b hb;exact⟨f3,f1,f4,f5⟩
   ·rw[upd_ne (aar (ac5 e))];exact n
   ·rw[upd_ne (au e T)];exact e
   ·rw[upd_ne (au e T)];exact e
   ·rw[upd_ne (au e T),e];simp
   ·obtain⟨o,a7,ep,ho,r⟩:=hm;exact⟨o,a7,ep,Y _ o (λz=>(g _ z).2.1 rfl) ho,r⟩
   ·by_cases hb:b=s.heap.objs.size
    ·subst hb;rw[ao]at e;cases e;exact⟨(by show 2<=sizeLine;decide),[u,v],.cons ru (.cons rv .nil),⟨_,U,rfl,_,rfl,rfl⟩⟩
    ·rw[upd_ne hb]at e;refine(I1.hok b o e).q7 (λc v d q=>q) (λc q=>by rw[upd_ne (au q T)];exact q) λc ys q=>by rw[upd_ne (au q T)];exact q
  refine⟨.ref s.heap.objs.size,_,I2,rfl,⟨_,x,y,hx,hy,T,rfl,rfl⟩,⟨a1,?_,⟨u,v,f.extBut _ _ R.TOz a0⟩,ZS.mv Z (λo e=>f.extBut _ _ R.i1z e),ZS.mv a4 (λo e=>f.extBut _ _ R.i2z e)⟩,λc d=>?_⟩
  ·exact f.extBut _ _ R.TIz (hk _ _ R.TIz R.TITO R.TIi1 R.TIi2 F)
  ·rw[upd_ne (aar (fl c d))];exact(g c d).1
 done:=by
  intro X hP hw hK d i t s σ H E I g ⟨C,F,⟨p,q,L⟩,J,M⟩ hg;subst hP hw hK;obtain⟨O,Q,a2⟩:=hg;have hh:X.A.in1.handled=none:=I.ok.hd d;obtain⟨W,S,S1,j⟩:=a.sub I O ra X.A.in1 hh i1;obtain⟨a3,N,S2,l⟩:=b.sub I Q rb X.A.in1 hh i2;have D:ZApart z TI TO i1 i2 a.sl b.sl:=⟨R.TIz,R.TOz,R.i1z,R.i2z,R.TITO,R.TIi1,R.TIi2,R.TOi1,R.TOi2,R.i12,
   λc d=>⟨aJ I (g z (by simp)) j c d,aJ I (g TO (by simp)) j c d,aJ I (g i1 (by simp)) j c d,aJ I (g i2 (by simp)) j c d⟩,
   λc d=>⟨aJ I (g z (by simp)) l c d,aJ I (g TO (by simp)) l c d,aJ I (g i1 (by simp)) l c d,aJ I (g i2 (by simp)) l c d⟩⟩
  refine rS D S1 S2 C F L J M S N a2 λh' tk hk=>⟨rfl,I.nc (λc o d e=>?_) g⟩
  simp only[aab,aao,or_false,not_or]at d;exact hk c o d.1 d.2.2.1 d.2.2.2.1 d.2.2.2.2 e
 self:=λ_ _ _ _ _ ⟨C,_⟩ h=>wpAny_pyIter_zip C h
theorem ie(n m:Value)(o1 i:Obj)(b a:Heap->Prop)(j:∀h o,a h->a (h.push o))
  (t:∀(prog:Program) (w:World) (A:Around) (E:Value->Shared->Prop) (s:Shared) (Q:Value->Shared->Prop),b s.heap->Q (.ref s.heap.objs.size) { s with heap:=s.heap.push o1 }->wpAny (model prog w) A (pyIter n) Q E s)
  (u:∀(prog:Program) (w:World) (A:Around) (E:Value->Shared->Prop) (s:Shared) (Q:Value->Shared->Prop),a s.heap->Q (.ref s.heap.objs.size) { s with heap:=s.heap.push i }->wpAny (model prog w) A (pyIter m) Q E s):
  Meets (Builtin.«zip.__new__» ⟨[.type "zip",n,m],[]⟩) (λ_ R s=>b s.heap/\a s.heap /\
   R (.ok (.ret (.ref ((((s.heap.push o1).push i).push { cls:=.type "tuple",data:=.seq #[.ref s.heap.objs.size,.ref (s.heap.push o1).objs.size] }).push { cls:=.type "tuple",data:=.seq #[.none,.none] }).objs.size)))
    { s with heap:=((((s.heap.push o1).push i).push { cls:=.type "tuple",data:=.seq #[.ref s.heap.objs.size,.ref (s.heap.push o1).objs.size] }).push { cls:=.type "tuple",data:=.seq #[.none,.none] }).push { cls:=.type "zip",data:=.fields #[.none,.bool false,.bool false,.ref ((s.heap.push o1).push i).objs.size,.ref (((s.heap.push o1).push i).push { cls:=.type "tuple",data:=.seq #[.ref s.heap.objs.size,.ref (s.heap.push o1).objs.size] }).objs.size] } }):=
 .of_wp λprog w A R s h=>by
  obtain⟨c,g,d,e,f⟩:=s;obtain⟨p,k,h⟩:=h;have q:=sub_zip;have r:∀{A:Around}{E:Value->Shared->Prop}{Q:Value->Shared->Prop},Q (.ref c.objs.size) ⟨c.push o1,g,d,e,f⟩->wpAny (model prog w) A (pyIter n) Q E ⟨c,g,d,e,f⟩:=λl=>t _ _ _ _ ⟨c,g,d,e,f⟩ _ p l;have v:∀{A:Around}{E:Value->Shared->Prop}{Q:Value->Shared->Prop},Q (.ref (c.push o1).objs.size) ⟨(c.push o1).push i,g,d,e,f⟩->wpAny (model prog w) A (pyIter m) Q E ⟨c.push o1,g,d,e,f⟩:=λl=>u _ _ _ _ ⟨c.push o1,g,d,e,f⟩ _ (j _ _ k) l
  wp_walk using r,v
  exact⟨_,rfl,h⟩
end
section
def boot_zip:bootBuiltins "zip"=some (.type "zip"):=by decide +kernel
section
variable{X:Cx}
theorem ZS.iter(a:ZS)(I:Inv X pins σ H s)(f:a.ok X.K H)(e:RelV a.val v):
  ∃b:Heap->Prop,b s.heap/\(∀h o,b h->b (h.push o)) /\
   ∀(prog:Program) (w:World) (A:Around) (E:Value->Shared->Prop) (s:Shared) (Q:Value->Shared->Prop),b s.heap->Q (.ref s.heap.objs.size) { s with heap:=s.heap.push (a.zb v) }->wpAny (model prog w) A (pyIter v) Q E s:=by
 cases a with
 |lst l d=>obtain⟨c,r,p,g⟩:=I.list (show SqL X.K H l d from f);cases e;exact⟨λh=>h.IsList l c.toArray,p.isList,λh o x=>x.push o,λprog w A E s Q h q=>adA h q⟩
 |tup l d=>obtain⟨c,r,p,g⟩:=I.tuple (show SqT X.K H l d from f);cases e;exact⟨λh=>h.IsTuple l c.toArray,p,λh o x=>x.push o,λprog w A E s Q h q=>adL h q⟩
 |str z=>obtain⟨t,rfl⟩:=e;exact⟨λ_=>True,trivial,λ_ _ _=>trivial,λprog w A E s Q _ q=>wpAny_pyIter_strU q⟩
theorem ZS.st0(a:ZS)(b:RelV a.val v)(e:h.get? i=some (a.zb v)):a.st v i 0 h:=by
 cases a with
 |lst l c=>cases b;exact⟨_,e,rfl,rfl⟩
 |tup l c=>cases b;exact⟨_,e,rfl,rfl⟩
 |str z=>obtain⟨t,rfl⟩:=b;exact⟨_,e,rfl,rfl⟩
theorem lU(a:ZS)(v:Value):(a.zb v).isFreed=false:=by cases a<;>rfl
def HI(K:Waa)(f:TA):TI:=λd H R=>f d H λe c=>∃a b:ZS,e=[a.val,b.val]/\a.ok K c/\b.ok K c/\R (HH K a b) c
def addNe(h:i≠j):(n+i:Addr)≠n+j:=λe=>h (acI e)
def addNe0(h:i≠0):(n+i:Addr)≠n:=λe=>h (acI e)
theorem BV{es:List Expr}{W}{n:Pos}{a b:Expr}{p pos:Pos} (hg:Gl X "zip") (Y:X.mg "zip"=none) (ha:PA X [a,b] ta) (hs:starEach [a,b] X.env=[(false,eval a X.env),(false,eval b X.env)]:=by rfl) (l:starEach [b] X.env=[(false,eval b X.env)]:=by rfl):
  PI X (.Tuple es W n) (.Call (.Name "zip" p) [a,b] [] pos) (HI X.K ta):=by
 intro f s S H R I h;refine Call_ (dA I hg Y boot_zip (abo (thn (ha pos f s S H _ I h) λus d hZ=>?_) (by rw[hs,l]) (by rw[l];rfl)));obtain⟨vs,L,m,r1,Z⟩:=hZ;obtain⟨g,i,e,B,y,q⟩:=Z;subst e;obtain⟨u,t,rfl,C,z⟩:=r1.two;obtain⟨k,h1,_,p1⟩:=g.iter m B C;obtain⟨r,h2,v,p2⟩:=i.iter m y z;refine callType_new F.called_zip (by decide) (F.typeCall_zip_2 _ _) (F.newCall_zip_2 _ _) (λA=>F.args_object_init_3 A _ _) F.entry_zip_new
  (ie u t (g.zb u) (i.zb t) k r v p1 p2) ⟨h1,h2,?_⟩
 generalize hA:d.heap.push (g.zb u)=A1;generalize hB:A1.push (i.zb t)=A2;generalize hC:A2.push { cls:=.type "tuple",data:=.seq #[.ref d.heap.objs.size,.ref A1.objs.size] }=A3;generalize hD:A3.push { cls:=.type "tuple",data:=.seq #[.none,.none] }=A4;generalize hE:A4.push { cls:=.type "zip",data:=.fields #[.none,.bool false,.bool false,.ref A2.objs.size,.ref A3.objs.size] }=A5;have D:A1.objs.size=d.heap.objs.size+1:=by rw[<-hA];exact ac8 ..
 have x:A2.objs.size=d.heap.objs.size+2:=by rw[<-hB,ac8,D]
 have w:A3.objs.size=d.heap.objs.size+3:=by rw[<-hC,ac8,x]
 have M:A4.objs.size=d.heap.objs.size+4:=by rw[<-hD,ac8,w]
 have U:A5.get? A4.objs.size=some { cls:=.type "zip",data:=.fields #[.none,.bool false,.bool false,.ref A2.objs.size,.ref A3.objs.size] }:=by rw[<-hE];exact ac7 _ rfl
 have Q:∀c o,A4.get? c=some o->A5.get? c=some o:=λc o e=>by rw[<-hE];exact ac6 _ e
 have J:∀c o,A3.get? c=some o->A5.get? c=some o:=λc o e=>Q c o (by rw[<-hD];exact ac6 _ e);have T:∀c o,A2.get? c=some o->A5.get? c=some o:=λc o e=>J c o (by rw[<-hC];exact ac6 _ e);have O:∀c o,A1.get? c=some o->A5.get? c=some o:=λc o e=>T c o (by rw[<-hB];exact ac6 _ e);have u1:∀c o,d.heap.get? c=some o->A5.get? c=some o:=λc o e=>O c o (by rw[<-hA];exact ac6 _ e);have g4:A5.get? A3.objs.size=some { cls:=.type "tuple",data:=.seq #[.none,.none] }:=Q _ _ (by rw[<-hD];exact ac7 _ rfl);have g3:A5.get? A2.objs.size=some { cls:=.type "tuple",data:=.seq #[.ref d.heap.objs.size,.ref A1.objs.size] }:=J _ _ (by rw[<-hC];exact ac7 _ rfl);have g2:A5.get? A1.objs.size=some (i.zb t):=T _ _ (by rw[<-hB];exact ac7 _ (lU _ _));have g1:A5.get? d.heap.objs.size=some (g.zb u):=O _ _ (by rw[<-hA];exact ac7 _ (lU _ _));refine⟨⟨_,U,rfl⟩,?_⟩;have P:IsZip A5 A4.objs.size A2.objs.size A3.objs.size .none:=U;refine wpAny_pyIter_zip P ?_;have R:ZRec A4.objs.size A2.objs.size A3.objs.size d.heap.objs.size A1.objs.size:=by rw[D,x,w,M];refine⟨?_,?_,?_,?_,?_,?_,?_,?_,?_,?_⟩<;>first|exact addNe (by decide)|exact addNe0 (by decide)|exact(addNe0 (by decide)).symm
 have I5:Inv X f S L { d with heap:=A5 }:=m.kept u1;refine⟨A4.objs.size,[A4.objs.size,A2.objs.size,A3.objs.size,d.heap.objs.size,A1.objs.size],_,_,L,rfl,I5,ui g i u t C z _ _ _ _ _ R,
  ⟨P,g3,⟨_,_,g4⟩,g.st0 C g1,i.st0 z g2⟩,λb N=>?_,q⟩
 have j:d.heap.objs.size<=b:=by simp only[aab,aao,or_false]at N;rcases N with rfl|rfl|rfl|rfl|rfl<;>first|exact aae _|(rw[M];exact abj _ _)|(rw[w];exact abj _ _)|(rw[x];exact abj _ _)|(rw[D];exact abj _ _)
 exact m.ua j (m.hok.fresh j)
end
section
variable{X:Cx}
def ye:∀{us:List Value},Vals (a.map V.bl) us->LSm.BoolsAre us a:=by
 induction a with
 |nil=>intro us r;rw[aaD]at r;cases r;exact .nil
 |cons b a d=>
  intro us r;rw[aam]at r;cases r with
  |cons e c=>cases e;exact .cons b (d c)
theorem uj(l:X.calm=true):bW X (.builtin "all") (λxs H Q=>∃(p:Addr) (a:List Bool),xs=[.ref p]/\SqL X.K H p (a.map V.bl)/\Q (.bl (a.all id)) H):=by
 intro j s L H xs z Q I r h;obtain⟨p,a,rfl,w,q⟩:=h;obtain⟨u,rfl,n⟩:=vals1 r;cases n;obtain⟨c,t,f,J⟩:=I.list w;obtain⟨m,F⟩:=I.fr;have d:p<s.heap.objs.size:=by obtain⟨_,_,e,_⟩:=f;exact ac5 e
 have g:=ye t;refine call_all_walk (adA f.isList ?_);refine⟨s.heap.objs.size,[s.heap.objs.size,p],[s.heap.objs.size],c.toArray.size,_,_,λi=>(a[i]?).getD true,rfl,Walks.list (A:=X.A.in1) (I.ok.hd l) _ p (aar d) c.toArray,
  ⟨⟨_,ac7 _ rfl,rfl,rfl⟩,f.isList.push _⟩,λi v D M y o k=>?_,λB C x=>?_⟩
 ·obtain⟨b,e,rfl⟩:=g.get i v (by simpa using o);simp only[e,Option.getD_some]at k;exact adh k
 ·have e:((List.range c.toArray.size).all λi=>(a[i]?).getD true)=a.all id:=by rw[aaz,g.length];exact LSm.range_all a
  rw[e];exact⟨.bl (a.all id),H,I.kept (LSm.kept_iter x),rfl,q⟩
end
end
section
mutual
inductive Dt (K:Waa)(H:Hp):V->PyData->Prop
 |non:Dt K H .non .none
 |bl (b:Bool):Dt K H (.bl b) (.bool b)
 |int (i:Int):Dt K H (.int i) (.int i)
 |str (x:Str):Dt K H (.str x) (.str x)
 |lst {a xs ds}:SqL K H a xs->DtAll K H xs ds->Dt K H (.ref a) (.list ds)
 |tup {a xs ds}:SqT K H a xs->DtAll K H xs ds->Dt K H (.ref a) (.tuple ds)
inductive DtAll (K:Waa)(H:Hp):List V->List PyData->Prop
 |nil:DtAll K H [] []
 |cons {x d xs ds}:Dt K H x d->DtAll K H xs ds->DtAll K H (x::xs) (d::ds)
end
def DtAll.length{K:Waa}(h:DtAll K H xs ds):xs.length=ds.length:=by
 induction xs generalizing ds with
 |nil=>cases h;rfl
 |cons v b a=>cases h with|cons _ t=>rw[aau,aau,a t]
theorem DtAll.ints{K:Waa}:∀(ns:List Int),DtAll K H (ns.map V.int) (ns.map PyData.int)
 |[]=>.nil
 |n::ns=>.cons (.int n) (DtAll.ints ns)
def Same.tupS{K:Waa}{H b:Hp}(e:Same H b)(h:SqT K H a xs):SqT K b a xs:=by
 rcases h with (h|⟨o,h⟩)|h
 ·exact .inl (.inl (e _ _ h))
 ·exact .inl (.inr ⟨o,e _ _ h⟩)
 ·exact .inr h
theorem Dt.ind{K:Waa}{P:V->PyData->Prop}{Q:List V->List PyData->Prop}(f:P .non .none)(l:∀b,P (.bl b) (.bool b))(c:∀i,P (.int i) (.int i))(k:∀x,P (.str x) (.str x))
  (e:∀{a xs ds},SqL K H a xs->Q xs ds->P (.ref a) (.list ds)) (g:∀{a xs ds},SqT K H a xs->Q xs ds->P (.ref a) (.tuple ds)) (nil:Q [] []) (cons:∀{x d xs ds},P x d->Q xs ds->Q (x::xs) (d::ds)):
  (∀{v d},Dt K H v d->P v d)/\∀{vs ds},DtAll K H vs ds->Q vs ds:=
 ⟨λh=>Dt.rec f l c k (λh _ i=>e h i) (λh _ i=>g h i) nil (λ_ _ i j=>cons i j) h,
  λh=>DtAll.rec f l c k (λh _ i=>e h i) (λh _ i=>g h i) nil (λ_ _ i j=>cons i j) h⟩
section
variable{X:Cx}{pins:List (Addr×Obj)}{σ:St}{H:Hp}{s:Shared}
theorem Dt.reads_(I:Inv X pins σ H s):(∀{x:V}{d:PyData},Dt X.K H x d->∀{u:Value},RelV x u->∃c,Reads s.heap u d c)/\∀{xs:List V}{ds:List PyData},DtAll X.K H xs ds->∀{us:List Value},Vals xs us->∃c,ReadsAll s.heap us ds c:=by
 refine Dt.ind (P:=λx d=>∀{u:Value},RelV x u->∃c,Reads s.heap u d c) ?_ ?_ ?_ ?_ ?_ ?_ ?_ ?_
 ·intro u r;cases r;exact⟨_,.none⟩
 ·intro b u r;cases r;exact⟨_,.bool b⟩
 ·intro i u r;obtain⟨t,rfl⟩:=r;exact⟨_,.int i t⟩
 ·intro x u r;obtain⟨t,rfl⟩:=r;exact⟨_,.str x t⟩
 ·intro a xs ds h i u r;cases r;obtain⟨l,k,⟨o,n,e,f,_,g⟩,_⟩:=I.list h;obtain⟨c,q⟩:=i k;exact⟨_,.list e f g (by simpa using q)⟩
 ·intro a xs ds h i u r;cases r;obtain⟨l,k,⟨o,e,f,n,g⟩,_⟩:=I.tuple h;obtain⟨c,q⟩:=i k;exact⟨_,.tuple e f g (by simpa using q)⟩
 ·intro us r;cases r;exact⟨_,.nil⟩
 ·intro x d xs ds i j us r;cases r with
  |cons v m=>obtain⟨c,q⟩:=i v;obtain⟨w,p⟩:=j m;exact⟨_,.cons q p⟩
def Dt.reads(I:Inv X pins σ H s)(h:Dt X.K H x d)(r:RelV x u):∃a,Reads s.heap u d a:=(Dt.reads_ I).1 h r
end
mutual
theorem eqv_refl:∀(d:PyData),d.canLay0=true->PyData.eqv d d=true
 |.none,_=>by simp[PyData.eqv]
 |.bool b,_=>by simp[PyData.eqv]
 |.int i,_=>by simp[PyData.eqv]
 |.str x,_=>by simp[PyData.eqv]
 |.list xs,h=>by simp only[PyData.eqv];exact eqvAll_refl xs (by simpa[PyData.canLay0] using h)
 |.tuple xs,h=>by simp only[PyData.eqv];exact eqvAll_refl xs (by simpa[PyData.canLay0] using h)
 |.dict _,h=>by simp[PyData.canLay0]at h
theorem eqvAll_refl:∀(ds:List PyData),PyData.canLayAll0 ds=true->PyData.eqvAll ds ds=true
 |[],_=>by simp[PyData.eqvAll]
 |d::ds,h=>by simp only[PyData.canLayAll0,aaG]at h;simp only[PyData.eqvAll,aaG];exact⟨eqv_refl d h.1,eqvAll_refl ds h.2⟩
end
section
variable{X:Cx}
def EK(K:Waa):R2:=λx y H Q=>∃b a,Dt K H x b/\Dt K H y a/\SeqAt.shaped b=true/\SeqAt.shaped a=true/\Q (.bl (PyData.eqv b a)) H
def EL(K:Waa):R2:=λx y H Q=>∃b a,Dt K H x b/\Dt K H y a/\SeqAt.shaped b=true/\SeqAt.shaped a=true/\Q (.bl (!PyData.eqv b a)) H
def BW(d:X.A.units+64<cLine):OpR X (compareOp .Eq) (EK X.K):=by intro a s o H x y v u Q I c j h;obtain⟨p,l,i,g,f,e,q⟩:=h;obtain⟨m,k⟩:=i.reads I c;obtain⟨n,b⟩:=g.reads I j;exact eq_dataH k b f e d ⟨.bl _,H,I,rfl,q⟩
def BX(d:X.A.units+64<cLine):OpR X (compareOp .NotEq) (EL X.K):=by intro a s o H x y v u Q I c j h;obtain⟨p,l,i,g,f,e,q⟩:=h;obtain⟨m,k⟩:=i.reads I c;obtain⟨n,b⟩:=g.reads I j;exact ne_dataH k b f e d ⟨.bl _,H,I,rfl,q⟩
def kit_same(K:Waa)(T:String):PySem.W.kitOne K (.type T) (.type T)=some true:=by unfold PySem.W.kitOne;rw[if_pos (by simp)]
def kit_tl(K:Waa):PySem.W.kitOne K (.type "tuple") (.type "list")=some false:=by kernel_rfl
def kit_bi(K:Waa):PySem.W.kitOne K (.type "bool") (.type "int")=some true:=by kernel_rfl
def kit_ib(K:Waa):PySem.W.kitOne K (.type "int") (.type "bool")=some false:=by kernel_rfl
def kit_il(K:Waa):PySem.W.kitOne K (.type "int") (.type "list")=some false:=by kernel_rfl
def kit_it(K:Waa):PySem.W.kitOne K (.type "int") (.type "tuple")=some false:=by kernel_rfl
def kit_sl(K:Waa):PySem.W.kitOne K (.type "str") (.type "list")=some false:=by kernel_rfl
def kit_st(K:Waa):PySem.W.kitOne K (.type "str") (.type "tuple")=some false:=by kernel_rfl
def kit_si(K:Waa):PySem.W.kitOne K (.type "str") (.type "int")=some false:=by kernel_rfl
def kit_bl(K:Waa):PySem.W.kitOne K (.type "bool") (.type "list")=some false:=by kernel_rfl
def kit_bt(K:Waa):PySem.W.kitOne K (.type "bool") (.type "tuple")=some false:=by kernel_rfl
def kit_bs(K:Waa):PySem.W.kitOne K (.type "bool") (.type "str")=some false:=by kernel_rfl
def kit_nl(K:Waa):PySem.W.kitOne K (.type "NoneType") (.type "list")=some false:=by kernel_rfl
def kit_nt(K:Waa):PySem.W.kitOne K (.type "NoneType") (.type "tuple")=some false:=by kernel_rfl
def kit_ni(K:Waa):PySem.W.kitOne K (.type "NoneType") (.type "int")=some false:=by kernel_rfl
def kit_li(K:Waa):PySem.W.kitOne K (.type "list") (.type "int")=some false:=by kernel_rfl
def kit_ti(K:Waa):PySem.W.kitOne K (.type "tuple") (.type "int")=some false:=by kernel_rfl
inductive Ty (K:Waa)(H:Hp):V->String->Prop
 |non:Ty K H .non "NoneType"
 |bl (b:Bool):Ty K H (.bl b) "bool"
 |int (i:Int):Ty K H (.int i) "int"
 |str (x:Str):Ty K H (.str x) "str"
 |lst {a xs}:SqL K H a xs->Ty K H (.ref a) "list"
 |tup {a xs}:SqT K H a xs->Ty K H (.ref a) "tuple"
theorem Ty.kitx(I:Inv X pins σ H s)(f:Ty X.K H x n)(a:RelV x u):
  ∃Z:Heap->Prop,PySem.W.KitX X.K u (.type n) Z/\Z s.heap/\u≠.builtin "__main__.__loader__#opaque":=by
 cases f with
 |non=>cases a;exact⟨_,PySem.W.kitx_none,trivial,λz=>nomatch z⟩
 |bl b=>cases a;exact⟨_,PySem.W.kitx_bool,trivial,λz=>nomatch z⟩
 |int i=>obtain⟨t,rfl⟩:=a;exact⟨_,PySem.W.kitx_int,trivial,λz=>nomatch z⟩
 |str x=>obtain⟨t,rfl⟩:=a;exact⟨_,PySem.W.kitx_str,trivial,λz=>nomatch z⟩
 |lst h=>cases a;obtain⟨d,_,⟨o,n,e,c,_⟩,_⟩:=I.list h;exact⟨_,PySem.W.kitx_list,⟨o,e,c⟩,λz=>nomatch z⟩
 |tup h=>cases a;obtain⟨d,_,⟨o,e,c,_⟩,_⟩:=I.tuple h;exact⟨_,PySem.W.kitx_tuple,⟨o,e,c⟩,λz=>nomatch z⟩
theorem uk(T:String):bW X (.builtin "isinstance") (λxs H Q=>∃x n b,xs=[x,.ty T]/\Ty X.K H x n/\PySem.W.kitOne X.K (.type n) (.type T)=some b/\Q (.bl b) H):=by
 intro a s l H xs j Q I r h;obtain⟨x,n,b,rfl,c,e,q⟩:=h;obtain⟨u,v,rfl,d,i⟩:=r.two;cases i;obtain⟨Z,g,z,f⟩:=c.kitx I d;exact PySem.W.kia_one g I.rz z e f λk=>⟨.bl b,H,I.tok _,rfl,q⟩
theorem rT(S T:String):bW X (.builtin "isinstance") (λxs H Q=>∃x n b p,xs=[x,.ref p]/\H p=some (.tup [.ty S,.ty T])/\Ty X.K H x n/\PySem.W.kitAny X.K (.type n) [.type S,.type T]=some b/\Q (.bl b) H):=by
 intro f s O H xs F Q I r h;obtain⟨x,n,b,p,rfl,y,g,e,q⟩:=h;obtain⟨u,v,rfl,j,A⟩:=r.two;cases A;obtain⟨Z,m,z,k⟩:=g.kitx I j;obtain⟨_,C,w,⟨⟨c,D,o,N⟩,l,a,t,d⟩⟩:=I.hok p _ y;obtain⟨J,L,rfl,B,i⟩:=w.two;cases B;cases i;replace a:c=.type "tuple":=a;replace d:o=.seq [Value.type S,Value.type T].toArray t:=d.1;subst a d;exact PySem.W.kia_tup m I.rz z l e k λM=>⟨.bl b,H,I.tok _,rfl,q⟩
theorem ig(K:Waa)(a:PySem.W.kitOne K (.type n) (.type S)=some true\/(PySem.W.kitOne K (.type n) (.type S)=some false/\PySem.W.kitOne K (.type n) (.type T)=some true)):
  PySem.W.kitAny K (.type n) [.type S,.type T]=some true:=by
 rcases a with h|⟨h,b⟩
 ·simp[PySem.W.kitAny,h]
 ·simp[PySem.W.kitAny,h,b]
def en(K:Waa)(h:PySem.W.kitOne K (.type n) (.type S)=some false)(h':PySem.W.kitOne K (.type n) (.type T)=some false):
  PySem.W.kitAny K (.type n) [.type S,.type T]=some false:=by
 simp[PySem.W.kitAny,h,h']
end
end
section
section
variable{X:Cx}{pos:Pos}
def EM(i j k:Nat)(d:TA):TS:=λD a H=>d a H λc b=>∃v w u,c=[v,w,u]/\D.nx (((a.set i (some v)).set j (some w)).set k (some u)) b
theorem yf{F S f}(hc:X.calm=true)(P:X.N.Nodup)(hi:X.N[i]?=some x)(hj:X.N[j]?=some y)(hk:X.N[k]?=some z)(Q:i≠j)(B:i≠k)(M:j≠k)
  (W:X.env.scope.names.lookup x=some .local) (Z:X.env.scope.names.lookup y=some .local) (Y:X.env.scope.names.lookup z=some .local) (ha:PA X [a,b,c] ta)
  (hw:swappedStores [.Tuple [.Name x px,.Name y py,.Name z pz] F pt] (.Tuple [a,b,c] S f) X.env=pure (some [x,y,z]))
  (hs:swapsWithSole [.Tuple [.Name x px,.Name y py,.Name z pz] F pt] (.Tuple [a,b,c] S f) pos.line X.env=pure false:=by rfl):
  PS X (.Assign [.Tuple [.Name x px,.Name y py,.Name z pz] F pt] (.Tuple [a,b,c] S f) pos) (EM i j k ta):=by
 intro d s r H D I h;rw[exec_Assign_arm];refine ac3 (adj ?_);rw[hs];refine ac3 (ac4 ?_);rw[if_neg (by decide)];refine ac3 (Tuple_ (thn (ha _ d s r H _ I h) λus n ⟨vs,T,I1,r1,t⟩=>?_));obtain⟨v,w,u,e1,t⟩:=t;subst e1;obtain⟨g,l,m,rfl,rv,J,ru⟩:∃g l m,us=[g,l,m]/\RelV v g/\RelV w l/\RelV u m:=by
  cases r1 with
  |cons p q=>
   cases q with
   |cons p' q'=>
    cases q' with
    |cons C O=>cases O;exact⟨_,_,_,rfl,p,p',C⟩
 refine adc ?_ (by show 3<=sizeLine;decide);have I2:Inv X d r T { n with heap:=n.heap.push { cls:=.type "tuple",data:=.seq [g,l,m].toArray } }:=I1.kept λb o e=>ac6 _ e;rw[hw];refine ac3 (ac4 ?_);show wpAny (model X.prog X.w) X.A (do rule "assign.swapped-stores";let items <-unpackItems (.ref n.heap.objs.size) 3 none;assignInOrder [λv=>bindName X.env z v,λv=>bindName X.env y v,λv=>bindName X.env x v] items.reverse;pure Flow.next) _ _ _;refine ac3 (adk (ac3 (unpackItems_tuple (items:=#[g,l,m]) (I.ok.hd hc) (IsTup.new n.heap _) λh' L=>?_)));have I3:=I2.kept (t':=n.toks) λb o e=>L b o (aar (ac5 e)) e;show wpAny _ _ (assignInOrder [λv=>bindName X.env z v,λv=>bindName X.env y v,λv=>bindName X.env x v] [m,l,g] >>= λ_=>pure Flow.next) _ _ _;refine ac3 (adr (adv (bJ I3 P hk (.inl Y) ru (λs2 I4=>?_) (.inr Y))));refine adr (adv (bJ I4 P hj (.inl Z) J (λs3 I5=>?_) (.inr Z)));refine adr (adv (bJ I5 P hi (.inl W) rv (λs4 U=>assignInOrder_nil (ac4 ?_)) (.inr W)));have e:((r.set k (some u)).set j (some w)).set i (some v)=((r.set i (some v)).set j (some w)).set k (some u):=by rw[abN _ _ (aaE Q),abN _ _ (aaE B),abN _ _ (aaE M)]
 rw[e]at U;exact⟨_,T,U,t⟩
end
def Keep(S:List Addr)(H a:Hp):Prop:=∀b o,H b=some o->b ∉ S->a b=some o
def Keep.same(a:Keep [] H H'):Same H H':=λb o h=>a b o h (by simp)
end
section
def nY:bootBuiltins "len"=some (.builtin "len"):=by decide +kernel
def BY:bootBuiltins "abs"=some (.builtin "abs"):=by decide +kernel
def BZ:bootBuiltins "min"=some (.builtin "min"):=by decide +kernel
def B3:bootBuiltins "all"=some (.builtin "all"):=by decide +kernel
def eJ:bootBuiltins "isinstance"=some (.builtin "isinstance"):=by decide +kernel
def um:bootBuiltins "int"=some (.type "int"):=by decide +kernel
def yg:bootBuiltins "bool"=some (.type "bool"):=by decide +kernel
def B4:bootBuiltins "str"=some (.type "str"):=by decide +kernel
def g8:bootBuiltins "list"=some (.type "list"):=by decide +kernel
def ij:bootBuiltins "tuple"=some (.type "tuple"):=by decide +kernel
section
variable{H:Hp}{Q:VK}{K:Waa}{x y v:V}{i j:Int}{p l:Addr}{xs:List V}
def nZ(h:n<=1000000):n<=sizeLine:=aax h (by decide)
end
end
section
section
variable{X:Cx}
def EN(d:TA):TE:=λb H Q=>d b H λc a=>∃j:Int,c=[.int j]/\0<=j/\j<=100000/\∀l,a l=none->Q (.ref l) (upd a l (.lst ((rangeInts 0 1 j.toNat).map V.int)))
theorem fb:∀{ys:List Value}{is:List Int},CarriedAll ys (is.map PyData.int)->Vals (is.map V.int) ys
 |_,[],.nil=>.nil
 |_,i::is,.cons (.int _ t) r=>.cons ⟨t,rfl⟩ (fb r)
theorem kr{p i pos c:Pos} (L:Gl X "list") (y:X.mg "list"=none) (u:Gl X "range") (n:X.mg "range"=none) (T:PA X [a] ta) (z:X.calm=true:=by rfl)
  (P:starEach [a] X.env=[(false,eval a X.env)]:=by rfl) (g:starEach [(.Call (.Name "range" i) [a] [] c)] X.env=[(false,eval (.Call (.Name "range" i) [a] [] c) X.env)]:=by rfl):
  PE X (.Call (.Name "list" p) [.Call (.Name "range" i) [a] [] c] [] pos) (EN ta):=by
 intro d s v H Q I h;refine Call_ (dA I L y g8 (abo ?_ g rfl));rw[g];show wpAny _ _ (spliced ((false,eval (.Call (.Name "range" i) [a] [] c) X.env)::[])) _ _ s;refine Calls.spliced_cons (Call_ (dA I u n boot_range (abo (thn (T c d s v H _ I h) λU f ⟨vs,x,C,S,A⟩=>?_) P rfl)));obtain⟨j,e,j0,Z,q⟩:=A;subst e;cases S with
 |cons r w=>
  cases w;obtain⟨t,rfl⟩:=r;refine call_range_1 (Calls.spliced_nil ?_);have k:Inv X d v x { f with heap:=f.heap.push { cls:=.type "range",data:=.fields #[.int 0 f.toks,.int j t,.int 1 (f.toks+1)] },toks:=f.toks+1+1 }:=C.kept λb o e=>ac6 _ e;obtain⟨m,l,_⟩:=k.loc;have N:Builtin.Range.rangeSize 0 j 1=(j.toNat:Int):=by rw[rangeSize_one];split<;>omega
  refine list_rangeD (h₀:={ f.heap with objs:=#[] }) (news:=[]) (k.ok.hd z) ⟨l,λb o e=>?_,aaI _⟩ (λp M=>(nomatch M)) (IsRange.new ..) (small_one (by omega) (by omega) (by omega) (by omega)) N (by omega) λW Y O _ _ B _ _ J D=>?_
  ·rw[Heap.get?]at e;simp at e
  ·refine⟨.ref _,_,k.laid B (aae _) ?_,rfl,q _ (k.hok.fresh (aae _))⟩;obtain⟨⟨F,e⟩,_⟩:=J;refine⟨?_,O,F,fb D,e⟩;rw[aaa,rangeInts_length];exact aax (show _<=100000 by omega) (by decide)
end
end
section
section
variable{κ:Type}[DecidableEq κ]
def valV(a:List (κ×V))(k:κ):Option V:=(a.find? λb=>decide (b.1=k)).map (·.2)
def putK(a:List (κ×V))(k:κ)(v:V):List (κ×V):=
 if (a.any λb=>decide (b.1=k))=true then a.map (λb=>if b.1=k then (b.1,v) else b) else a++[(k,v)]
def dD{k:κ}(e:p.1=k):valV (p::r) k=some p.2:=by simp[valV,aba,e]
def ik{k:κ}(e:¬ p.1=k):valV (p::r) k=valV r k:=by simp[valV,aba,e]
theorem ip(k:κ):∀a:List (κ×V),(a.any λb=>decide (b.1=k))=(valV a k).isSome
 |[]=>rfl
 |p::r=>by
  rw[aaV];by_cases e:p.1=k
  ·simp only[dD e,Dac e,Bool.true_or,Option.isSome_some]
  ·rw[ik e,Dab e,acl];exact ip k r
def dE(a:List (κ×V))(k:κ)(v:V):(putK a k v).length<=a.length+1:=by
 unfold putK;split
 ·rw[aaa];omega
 ·rw[aal,aau,aaJ];omega
theorem RelO.dw(r:RelO o u):o.isSome=u.isSome:=by
 cases o with
 |none=>cases u with
  |none=>rfl
  |some _=>exact(show False from r).elim
 |some _=>cases u with
  |none=>exact(show False from r).elim
  |some _=>rfl
theorem KV.val(r:KV kvs vs)(k:κ):RelO (valV kvs k) (valueAt vs k):=by
 unfold KV at r;induction r with
 |nil=>exact True.intro
 |@cons p q ps qs h t ih=>
  obtain⟨c,d⟩:=h;by_cases e:p.1=k
  ·have a:q.1=k:=c.symm.trans e;have b:valueAt (q::qs) k=some q.2:=by simp[valueAt,aba,a]
   rw[dD e,b];exact d
  ·have a:¬ q.1=k:=λz=>e (c.trans z);have b:valueAt (q::qs) k=valueAt qs k:=by simp[valueAt,aba,a]
   rw[ik e,b];exact ih
def KV.any{vs:List (κ×Value)}(r:KV kvs vs)(k:κ):(kvs.any λa=>decide (a.1=k))=vs.any λa=>decide (a.1=k):=by
 unfold KV at r;induction r with
 |nil=>rfl
 |cons h t b=>rw[aaV,aaV,b,h.1]
theorem KV.repl(r:KV kvs vs)(k:κ)(c:RelV y u):
  KV (kvs.map λa=>if a.1=k then (a.1,y) else a) (vs.map λa=>if a.1=k then (a.1,u) else a):=by
 unfold KV at r ⊢;induction r with
 |nil=>exact .nil
 |@cons p q ps qs h t ih=>
  rw[aam,aam];refine .cons ?_ ih;obtain⟨b,d⟩:=h;by_cases e:p.1=k
  ·rw[if_pos e,if_pos (b.symm.trans e)];exact⟨b,c⟩
  ·rw[if_neg e,if_neg (λz=>e (b.trans z))];exact⟨b,d⟩
def KV.put(r:KV kvs vs)(k:κ)(a:RelV y u):KV (putK kvs k y) (stored vs k u):=by
 unfold putK stored;rw[r.any k];by_cases e:(vs.any λb=>decide (b.1=k))=true
 ·rw[if_pos e,if_pos e];exact r.repl k a
 ·rw[if_neg e,if_neg e];exact Paired.snoc r ⟨rfl,a⟩
def KV.length{vs:List (κ×Value)}(r:KV kvs vs):kvs.length=vs.length:=adz r
end
def jK(r:RelV (kV k) u):(bc P w).is k u=true:=by
 cases k with
 |inl i=>obtain⟨t,e⟩:=(show ∃t,u=Value.int i t from r);subst e;exact lJ P w i t
 |inr x=>obtain⟨t,e⟩:=(show ∃t,u=Value.str x t from r);subst e;exact mixKind_str P w x t
theorem jL:∀{ks:List Key}{us:List Value},Vals (ks.map kV) us->ItemsAre (bc P w) ks us
 |[],_,r=>by rw[aaD]at r;cases r;exact .nil
 |k::ks,_,r=>by
  rw[aam]at r;cases r with
  |cons h t=>exact .cons (jK h) (jL t)
abbrev KT(H:Hp):List (List Key×V)->List (List Key×Addr×Value)->Prop:=Paired λp q=>p.1=q.1/\H q.2.1=some (.tup (p.1.map kV))/\RelV p.2 q.2.2
theorem KT.val(r:KT H kvs xs)(k:List Key):RelO (valV kvs k) ((atKey xs k).map (·.2)):=by
 induction r with
 |nil=>exact True.intro
 |@cons p q ps qs h t ih=>
  obtain⟨c,_,d⟩:=h;by_cases e:p.1=k
  ·have a:q.1=k:=c.symm.trans e;have b:atKey (q::qs) k=some q.2:=by simp[atKey,aba,a]
   rw[dD e,b];exact d
  ·have a:¬ q.1=k:=λz=>e (c.trans z);have b:atKey (q::qs) k=atKey qs k:=by simp[atKey,aba,a]
   rw[ik e,b];exact ih
theorem KT.repl(r:KT H kvs xs)(k:List Key)(f:RelV y u):
  KT H (kvs.map λb=>if b.1=k then (b.1,y) else b) (xs.map (putAt k u)):=by
 induction r with
 |nil=>exact .nil
 |@cons p q ps qs h t ih=>
  rw[aam,aam];refine .cons ?_ ih;obtain⟨a,c,d⟩:=h;unfold putAt;by_cases e:p.1=k
  ·rw[if_pos e,if_pos (a.symm.trans e)];exact⟨a,c,f⟩
  ·rw[if_neg e,if_neg (λz=>e (a.trans z))];exact⟨a,c,d⟩
theorem KT.put(r:KT H kvs xs)(k:List Key)(d:H b=some (.tup (k.map kV)))(a:RelV y u):
  KT H (putK kvs k y) (storedH xs k b u):=by
 have e:(kvs.any λc=>decide (c.1=k))=(atKey xs k).isSome:=by rw[ip,(r.val k).dw,acm]
 unfold putK storedH;rw[e];by_cases q:(atKey xs k).isSome=true
 ·rw[if_pos q,if_pos q];exact r.repl k a
 ·rw[if_neg q,if_neg q];exact Paired.snoc r ⟨rfl,d,a⟩
def KT.keeps(r:KT H kvs xs)(a:∀b ys,H b=some (.tup ys)->H' b=some (.tup ys)):KT H' kvs xs:=
 Paired.mapP r λ_ _ z=>⟨z.1,a _ _ z.2.1,z.2.2⟩
section
variable{P:Program}{w:World}{H:Hp}{h:Heap}{a:Addr}
def Ak(b:HOk P w H h)(e:Rd H a u):ObjOk P w H h a u:=e.ok b
def lV(b:HOk P w H h)(e:Rd H a (.dK kvs)):kvs.length<=sizeLine/\(a==sysModules)=false/\∃vs,KV kvs vs/\h.DictOf (bc P w) a vs:=
 show ObjOk P w H h a (.dK kvs) from Ak b e
def Am(b:HOk P w H h)(e:H a=some (.dK kvs)):kvs.length<=sizeLine/\(a==sysModules)=false/\∃vs,KV kvs vs/\h.DictOf (bc P w) a vs:=lV b (.inl e)
def iq(d:HOk P w H h)(e:H a=some (.tup (ks.map kV))):(tupleKind (bc P w)).is h ks a:=by
 obtain⟨_,b,r,o,c,g,n,f⟩:=(show ObjOk P w H h a (.tup (ks.map kV)) from d a _ e)
 exact⟨o,b.toArray,n,c,g,f.1,by simpa using jL r⟩
theorem lW(d:HOk P w H h)(e:Rd H a (.dT kvs)):kvs.length<=sizeLine/\(a==sysModules)=false /\
  ∃xs,KT H kvs xs/\h.DictOfH (tupleKind (bc P w)) a xs:=by
 obtain⟨z,y,xs,r,o,i,j,s,n,g,k,f⟩:=(show ObjOk P w H h a (.dT kvs) from Ak d e)
 refine⟨z,y,xs,r,o,i,j,s,n,g,k,λx b=>?_,f⟩;have c:∀{l:List (List Key×V)}{m:List (List Key×Addr×Value)},KT H l m->∀x∈m,(tupleKind (bc P w)).is h x.1 x.2.1:=by
  intro l m q;induction q with
  |nil=>intro x b;exact nomatch b
  |@cons p q ps qs hq t ih=>
   intro x b;rcases aab.mp b with e|b
   ·subst e;exact iq d (by rw[<-hq.1];exact hq.2.1)
   ·exact ih x b
 exact c r x b
def EO(b:HOk P w H h)(e:H a=some (.dT kvs)):kvs.length<=sizeLine/\(a==sysModules)=false /\
  ∃xs,KT H kvs xs/\h.DictOfH (tupleKind (bc P w)) a xs:=lW b (.inl e)
end
def DGet(H:Hp)(a:Addr)(y:V)(r:Option V):Prop:=
 (∃c k,Rd H a (.dK c)/\y=kV k/\r=valV c k)\/∃c k b,Rd H a (.dT c)/\y=.ref b/\H b=some (.tup (k.map kV))/\r=valV c k
def DPut(H:Hp)(a:Addr)(y v:V)(d:Hp):Prop:=
 (∃c k,H a=some (.dK c)/\y=kV k/\c.length<sizeLine/\d=upd H a (.dK (putK c k v))) \/
 ∃c k b,H a=some (.dT c)/\y=.ref b/\H b=some (.tup (k.map kV))/\c.length<sizeLine/\d=upd H a (.dT (putK c k v))
def DGet.k{H:Hp}{a:Addr}{b:List (Key×V)}{k:Key}(e:H a=some (.dK b)):DGet H a (kV k) (valV b k):=.inl ⟨b,k,.inl e,rfl,rfl⟩
def DPut.k{H:Hp}{a:Addr}{b:List (Key×V)}{k:Key}{v:V}(e:H a=some (.dK b))(c:b.length<sizeLine):DPut H a (kV k) v (upd H a (.dK (putK b k v))):=.inl ⟨b,k,e,rfl,c,rfl⟩
section
variable{X:Cx}{pins:List (Addr×Obj)}{σ:St}{H:Hp}{s:Shared}{a:Addr}{y v:V}{u r:Value}{o:Option V}{A:Around}{E:Value->Shared->Prop}
def Inv.big(I:Inv X pins σ H s):sysModules<s.heap.objs.size:=by have h:mainGlobals<s.heap.objs.size:=(I.mod.glob.keeps I.bk).lt;exact abi (by decide) h
theorem rV(B:A.units+1<cLine)(I:Inv X pins σ H s)(g:DGet H a y (some v))(x:RelV y u)(h:∀f t,Inv X pins σ H t->RelV v f->Q f t):
  wpAny (model X.prog X.w) A (getItem (.ref a) u) Q E s:=by
 rcases g with ⟨q,k,e,j,l⟩|⟨q,k,b,e,j,D,l⟩
 ·subst j;obtain⟨z,C,L,d,i⟩:=lV I.hok e;obtain⟨f,m,c⟩:=RelO.some_of (by rw[l];exact d.val k);exact wpAny_getItem_of (jK x) i.mapOf m (h f _ (I.tok _) c)
 ·subst j;cases (show u=Value.ref b from x);obtain⟨z,C,J,d,i⟩:=lW I.hok e;obtain⟨f,m,c⟩:=RelO.some_of (by rw[l];exact d.val k);obtain⟨p,F,n⟩:=aaF.mp m;refine wpAny_getItem_heap (adJ B) (iq I.hok D) i F ?_;rw[n];exact h f _ (I.tok _) c
theorem HJ(p:A.units+1<cLine)(I:Inv X pins σ H s)(g:DGet H a y o)(n:RelV y u)(h:∀m,Inv X pins σ H m->Q (.bool o.isSome) m):
  wpAny (model X.prog X.w) A (compareOp .In u (.ref a)) Q E s:=by
 rcases g with ⟨j,k,e,f,l⟩|⟨j,k,b,e,f,t,l⟩
 ·subst f;obtain⟨z,i,B,c,d⟩:=lV I.hok e;refine wpAny_in_of (jK n) i d.mapOf ?_;rw[<-(c.val k).dw,<-l];exact h _ (I.tok _)
 ·subst f;cases (show u=Value.ref b from n);obtain⟨z,i,x,c,d⟩:=lW I.hok e;refine wpAny_in_heap (adJ p) (iq I.hok t) i d ?_;have q:=(c.val k).dw;rw[acm]at q;rw[<-q,<-l];exact h _ (I.tok _)
theorem yh(p:A.units+1<cLine)(I:Inv X pins σ H s)(g:DGet H a y o)(n:RelV y u)(h:∀m,Inv X pins σ H m->Q (.bool (!o.isSome)) m):
  wpAny (model X.prog X.w) A (compareOp .NotIn u (.ref a)) Q E s:=by
 rcases g with ⟨j,k,e,f,l⟩|⟨j,k,b,e,f,t,l⟩
 ·subst f;obtain⟨z,i,B,c,d⟩:=lV I.hok e;refine wpAny_notIn_of (jK n) i d.mapOf ?_;rw[<-(c.val k).dw,<-l];exact h _ (I.tok _)
 ·subst f;cases (show u=Value.ref b from n);obtain⟨z,i,x,c,d⟩:=lW I.hok e;refine wpAny_notIn_heap (adJ p) (iq I.hok t) i d ?_;have q:=(c.val k).dw;rw[acm]at q;rw[<-q,<-l];exact h _ (I.tok _)
def ku{t':Nat}(I:Inv X pins σ H s)(d:Eh (H a))(hs:Heap.SameBut a s.heap h')(f:∃q,h'.get? a=some q)(c:ObjOk X.prog X.w (upd H a ob) h' a ob):
  Inv X pins σ (upd H a ob) { s with heap:=h',toks:=t' }:=
 I.write d (.inl rfl) (λb q e z=>(hs.2 b e).trans z) f c
def uo(z:kvs.length<=sizeLine)(c:(a==sysModules)=false)(b:KV kvs vs)(dd:h'.DictOf (bc P w) a vs):
  ObjOk P w H' h' a (.dK kvs):=⟨z,c,vs,b,dd⟩
theorem rW(N:A.units+1<cLine)(I:Inv X pins σ H s)(g:DPut H a y v H')(M:RelV y u)(L:RelV v r)(h:∀J,Inv X pins σ H' J->Q () J):
  wpAny (model X.prog X.w) A (setItem (.ref a) u r) Q E s:=by
 rcases g with ⟨f,k,e,n,l,B⟩|⟨f,k,b,e,n,F,l,B⟩
 ·subst n B;obtain⟨z,t,vs,d,m⟩:=Am I.hok e;have Z:vs.length<=sizeLine:=by rw[<-d.length];exact z
  have p:(putK f k v).length<=sizeLine:=by have:=dE f k v;omega
  refine wpAny_setItem_pairs (jK M) m λD i x=>h _ ?_;have O:∃q,D.get? a=some q:=let ⟨q,_,_,j,_⟩:=i;⟨q,j⟩
  exact ku I (by rw[e];exact True.intro) x O (uo p t (d.put k L) i)
 ·subst n B;cases (show u=Value.ref b from M);obtain⟨z,t,Y,d,m⟩:=EO I.hok e;have Z:Y.length<=sizeLine:=by rw[<-adz d];exact z
  have p:(putK f k v).length<=sizeLine:=by have:=dE f k v;omega
  refine wpAny_setItem_heap (adJ N) (iq I.hok F) m λD i x=>h _ ?_;obtain⟨q,T,U,j,h2,S,W,_,P⟩:=i;refine ku I (by rw[e];exact True.intro) x ⟨q,j⟩ ⟨p,t,_,(d.put k F L).keeps λc ys C=>?_,q,T,U,j,h2,S,W,P⟩;rw[upd_ne (Eg C e (λz=>nomatch z))];exact C
end
def NoSl(i:Expr):Prop:=∀b a,subscripted i false b a=operate [b,a] (getItem b a)
theorem subD_of{T l:String}
  (k:typeLookup (.type T) "__getitem__"=pure (some (.builtin l))) (hs:NoSl slice)
  (h:wpAny (model prog w) A (eval value env) (λo d=>wpAny (model prog w) A (eval slice env) (λi a=>a.TypeIs o T/\wpAny (model prog w) A (getItem o i) Q E a) E d) E s):
  wpAny (model prog w) A (eval (.Subscript value slice pos) env) Q E s:=by
 refine Subscript_ (ac9 h (λo d g=>ac9 g (λi a b=>?_) λ_ _ x=>x) λ_ _ x=>x);obtain⟨j,b⟩:=b;unfold subscriptTail;refine ac3 ?_;rw[getitemInPython_of_ne j.not_modules];refine ac3 (wpAny_specialOf j k ?_);have e:wpAny (model prog w) A (subscripted slice false o i) (λr c=>wpAny (model prog w) A (letTemporaryGo value o r >>= λ_=>pure r) Q E c) E a:=by rw[hs o i];exact wpAny_operating (ac9 b (λr c f=>ac3 (wpAny_letTemporaryGo (ac4 f))) λ_ _ x=>x)
 first
  |exact ac4 (ac3 e)
  |exact ac3 (ac4 (ac3 e))
  |exact ac3 e
def lX(I:Inv X pins σ H s)(g:DGet H a y o):s.TypeIs (.ref a) "dict":=by
 rcases g with ⟨d,k,e,_,_⟩|⟨d,k,b,e,_,_,_⟩
 ·obtain⟨_,_,f,_,c⟩:=lV I.hok e;exact c.typeIs
 ·obtain⟨_,_,h,_,c⟩:=lW I.hok e;exact c.typeIs
def ER(f e:TE):TE:=λb H Q=>f b H λx d=>e b d λy c=>∃a v,x=.ref a/\DGet c a y (some v)/\Q v c
def ES(d f:TE):TE:=λb H Q=>d b H λy e=>f b e λx c=>∃a o,x=.ref a/\DGet c a y o/\Q (.bl o.isSome) c
def pF(d f:TE):TE:=λb H Q=>d b H λy e=>f b e λx c=>∃a o,x=.ref a/\DGet c a y o/\Q (.bl (!o.isSome)) c
def ET(i e g:TE):TS:=λD b H=>g b H λv d=>i b d λx h=>e b h λy f=>∃a c,x=.ref a/\DPut f a y v c/\D.nx b c
section
variable{X:Cx}{o i e value:Expr}{pos pos' tpos:Pos}{td ty tv:TE}
theorem yi(m:X.A.units+1<cLine)(D:PE X o td)(z:PE X i ty)(hs:NoSl i):PE X (.Subscript o i pos) (ER td ty):=by intro b s d H Q I h;refine subD_of PySem.F.slot_dict_getitem.lookup hs (thn (D b s d H _ I h) λu r ⟨x,j,n,k,l⟩=>thn (z b r d j _ n l) λJ N p=>?_);obtain⟨y,q,f,C,a,v,w,g,B⟩:=p;subst w;obtain rfl:u=Value.ref a:=k;exact⟨lX f g,rV m f g C λL M t c=>⟨v,q,t,c,B⟩⟩
theorem ur(k:X.A.units+1<cLine)(v:PE X i ty)(B:PE X o td):PC X .In i o (ES ty td):=by
 intro b s c H Q I h;refine thn (v b s c H _ I h) λD p ⟨y,d,l,z,j⟩=>thn (B b p c d _ l j) λu J m=>?_;obtain⟨x,n,C,f,a,r,t,g,w⟩:=m;subst t;obtain rfl:u=Value.ref a:=f;exact HJ k C g z λF q=>⟨.bl r.isSome,n,q,rfl,w⟩
theorem jM(k:X.A.units+1<cLine)(v:PE X i ty)(B:PE X o td):PC X .NotIn i o (pF ty td):=by
 intro b s c H Q I h;refine thn (v b s c H _ I h) λD p ⟨y,d,l,z,j⟩=>thn (B b p c d _ l j) λu J m=>?_;obtain⟨x,n,C,f,a,r,t,g,w⟩:=m;subst t;obtain rfl:u=Value.ref a:=f;exact yh k C g z λF q=>⟨.bl (!r.isSome),n,q,rfl,w⟩
theorem yj(k:X.A.units+1<cLine)(O:PE X o td)(L:PE X i ty)(B:PE X value tv)(hs:swapsWith value (some (.Subscript o i pos')) pos.line X.env=pure false):
  PS X (.Assign [.Subscript o i pos'] value pos) (ET td ty tv):=by
 intro b s c H D I h;refine wpAny_Assign_Subscript (thn (B b s c H _ I h) λr q ⟨v,d,l,z,j⟩=>thn (O b q c d _ l j) λu J ⟨x,p,P,f,M⟩=>thn (L b J c p _ P M) λQ S m=>?_) hs;obtain⟨y,T,w,N,a,n,F,g,t⟩:=m;subst F;obtain rfl:u=Value.ref a:=f;exact rW k w g N z λU C=>⟨c,n,C,t⟩
end
def lY(h:Heap)(a:sysModules<h.objs.size):ObjOk P w H (h.push { cls:=.type "dict",data:=.dict #[] }) h.objs.size (.dK []):=
 ⟨aaI _,beq_eq_false_iff_ne.mpr (aaE (aar a)),[],.nil,Heap.DictOf.new h⟩
def tDNewK:TE:=λ_ H Q=>∀p,H p=none->Q (.ref p) (upd H p (.dK []))
section
variable{X:Cx}{pos:Pos}
def uv:PE X (.Dict [] [] pos) tDNewK:=λa s b H Q I h=>
 wpAny_Dict_empty ⟨.ref s.heap.objs.size,_,I.laid (λ_ _ q=>ac6 _ q) (aae _) (lY s.heap I.big),rfl,h _ (I.hok.fresh (aae _))⟩
end
end
end L2
namespace L2
open PySem PySem.Spec PyProof.Rows
section
section
variable{κ:Type}[DecidableEq κ]
end
end
section
def HK(K:Waa)(l:Addr):It:=
 ⟨λi H=>∃a x,SqL K H l a/\a[i]?=some x,
  λi H v b=>∃T x,(∀a,SqL K H l a->a[i]?=some x)/\H T=none/\v=.ref T/\b=upd H T (.tup [.int i,x]),
  λi H=>∃a,SqL K H l a/\a.length<=i⟩
theorem rX{P:Program}{w:World}{K:Waa}{es:List Expr}{x1}{pos:Pos}(l e it:Addr)(L:e≠it):
  Turn P w K (.Tuple es x1 pos) (HK K l) [e,it] e (λi h=>(∃g,IsEnum h e it (i:Int) g)/\h.IsListIter it l i) where
 mem:=by simp
 obj:=λi h ⟨⟨g,y⟩,A⟩ c a=>by
  simp only[aab,aao,or_false]at a;rcases a with rfl|rfl
  ·exact⟨_,y,λv z=>by cases z⟩
  ·obtain⟨o,e,c,d⟩:=A;exact⟨o,e,λv z=>by rw[d]at z;cases z⟩
 keep:=λi h Y ⟨⟨g,y⟩,A⟩ k=>⟨⟨g,k e (by simp) _ y⟩,A.at λo e=>k it (by simp) o e⟩
 item:=by
  intro X W T hK a i j s σ H E I B ⟨⟨g,y⟩,A⟩ hg;subst W T hK;obtain⟨xs,x,O,Q⟩:=hg;obtain⟨U,S,p,hz⟩:=I.list O;obtain⟨u,hu,ru⟩:=S.get Q;have le:e<s.heap.objs.size:=ac5 y;have li:it<s.heap.objs.size:=by obtain⟨o,e',_⟩:=id A;exact ac5 e'
  refine wpAny_pyNext_enum_item y A p.isList (x:=u) (by simpa using hu) L λY Z M hT a1 hk=>?_;refine⟨.ref s.heap.objs.size,rfl,?_⟩;refine wpAny_letOwnedTupleGo_enum Z λt J f=>?_;have f:Heap.SameBut e Y t:=f;have F:∀c o,c ∉ ([e,it]:List Addr)->s.heap.get? c=some o->t.get? c=some o:=λc o a q=>by simp only[aab,aao,or_false,not_or]at a;exact f.extBut _ _ a.1 (hk c o a.1 a.2 q)
  have C:H s.heap.objs.size=none:=I.hok.fresh (aae _);have I1:Inv X j σ H { s with heap:=t,toks:=s.toks+1 }:=I.nc F B;have D:IsPair t s.heap.objs.size (.int i s.toks) u:=f.extBut _ _ (aaN le) hT;have I2:Inv X j σ (upd H s.heap.objs.size (.tup [.int i,x])) { s with heap:=t,toks:=s.toks+1 }:=by
   refine I.step (g':=s.gens) (d':=s.drawn) (ch:=[e,it]) (λb N=>?_) (λb o _ _ a e _=>F b o a e) (λb o _ _ a e _=>⟨o.slots,F b o a e⟩) (λb o a e n=>?_)
    (λb o a e=>⟨o,F b o a e⟩) (λb ys e=>?_) (λb o u e=>?_) (λb ps e=>⟨#[],?_⟩) (λm hm=>?_) (λb o e=>?_) I.bare
   ·obtain⟨f0,f1,f2,f3,f4,f5⟩:=B b N;exact⟨f3,f1,f4,f5⟩
   ·rw[upd_ne (aar (ac5 e))];exact n
   ·rw[upd_ne (au e C)];exact e
   ·rw[upd_ne (au e C)];exact e
   ·rw[upd_ne (au e C),e];simp
   ·obtain⟨o,a0,ep,ho,r⟩:=hm;exact⟨o,a0,ep,F _ o (λz=>(B _ z).2.1 rfl) ho,r⟩
   ·by_cases N:b=s.heap.objs.size
    ·subst N;rw[ao]at e;cases e;exact⟨(by show 2<=sizeLine;decide),[.int i s.toks,u],.cons ⟨_,rfl⟩ (.cons ru .nil),⟨_,D,rfl,_,rfl,rfl⟩⟩
    ·rw[upd_ne N]at e;refine(I1.hok b o e).q7 (λc v a q=>q) (λc q=>by rw[upd_ne (au q C)];exact q) λc ys q=>by rw[upd_ne (au q C)];exact q
  refine⟨.ref s.heap.objs.size,_,I2,rfl,⟨_,x,λys hy=>by rw[I.ro hy O];exact Q,C,rfl,rfl⟩,⟨⟨u,by simpa using J⟩,M.at λo q=>f.extBut _ _ (aaE L) q⟩,λc a=>?_⟩;simp only[aab,aao,or_false]at a;rcases a with rfl|rfl
  ·rw[upd_ne (aar le)];exact(B _ (by simp)).1
  ·rw[upd_ne (aar li)];exact(B _ (by simp)).1
 done:=by
  intro X W T hK a i j s σ H E I B ⟨⟨g,y⟩,A⟩ hg;subst W T hK;obtain⟨xs,O,Q⟩:=hg;obtain⟨U,S,p,hz⟩:=I.list O;have hl:=S.length;refine wpAny_pyNext_enum_end (I.ok.hd a) y A p.isList (by simp;omega) λY eb=>⟨rfl,I.nc (t':=s.toks) (λc o a q=>?_) B⟩
  simp only[aab,aao,or_false,not_or]at a;exact eb c o a.2 q
 self:=λ_ _ _ _ _ ⟨⟨g,y⟩,_⟩ h=>wpAny_pyIter_enum y h
def rY:bootBuiltins "enumerate"=some (.type "enumerate"):=by decide +kernel
section
variable{X:Cx}
def EU(K:Waa)(e:TA):TI:=λb H R=>e b H λc a=>∃l d,c=[.ref l]/\SqL K a l d/\R (HK K l) a
theorem yk{es:List Expr}{v}{g:Pos}{a:Expr}{p pos:Pos} (C:Gl X "enumerate") (w:X.mg "enumerate"=none) (L:PA X [a] ta) (hs:starEach [a] X.env=[(false,eval a X.env)]:=by rfl):
  PI X (.Tuple es v g) (.Call (.Name "enumerate" p) [a] [] pos) (EU X.K ta):=by
 intro c s o H R I h;refine Call_ (dA I C w rY (abo (thn (L pos c s o H _ I h) λN d z=>?_) hs rfl));obtain⟨S,k,i,J,x⟩:=z;obtain⟨l,O,e,u,q⟩:=x;subst e;cases J with
 |cons r t=>
  cases t;cases r;obtain⟨M,Q,D,P⟩:=i.list u;refine call_enumerate_list D.isList λA n j F y=>?_;refine wpAny_pyIter_enum n ?_;have B:Inv X c o k { d with heap:=A }:=i.kept y;refine⟨d.heap.objs.size+1,[d.heap.objs.size+1,d.heap.objs.size],_,_,k,rfl,B,rX l _ _ (by show (_:Nat)≠_;omega),⟨⟨_,n⟩,j⟩,λb m=>?_,q⟩;have f:d.heap.objs.size<=b:=by
   simp only[aab,aao,or_false]at m;rcases m with rfl|rfl
   ·show d.heap.objs.size<=d.heap.objs.size+1;omega
   ·exact aae _
  exact i.ua f (i.hok.fresh f)
end
end
section
section
variable{X:Cx}{o i e:Expr}{pos:Pos}{ti:TE}{c:Addr}{kvs:List (Str×Str)}
def B5:OpR X (compareOp .Is) (λx y H Q=>∃a b:Bool,x=.bl a/\y=.bl b/\Q (.bl (a==b)) H):=by intro d s j H x y v u Q I f g h;obtain⟨a,b,rfl,rfl,q⟩:=h;cases f;cases g;exact wpAny_is_plain rfl (fin_bl I q (by cases a<;>cases b<;>rfl))
def rZ:OpR X (compareOp .IsNot) (λx y H Q=>∃a b:Bool,x=.bl a/\y=.bl b/\Q (.bl (!(a==b))) H):=by intro d s j H x y v u Q I f g h;obtain⟨a,b,rfl,rfl,q⟩:=h;cases f;cases g;exact wpAny_isNot_plain rfl (fin_bl I q (by cases a<;>cases b<;>rfl))
set_option exponentiation.threshold 2000 in
def HL(K:Waa)(n:Nat)(t:TGs):TG:=λv d H Q=>∃a b,v=.ref a/\SqL K H a b/\b.length=n/\t b d H Q
theorem B6{k:Nat}(q:X.calm=true)(h:Ea X es t)
  (L:(assignEach es X.env).length=n:=by rfl) (j:(assignEach es X.env).findIdx? (·.1)=none:=by rfl):PG X (.Tuple es k pos) (HL X.K n t):=by
 intro d s m H v u Q I r g;obtain⟨a,C,N,A,x,g⟩:=g;subst N;cases r;obtain⟨f,l,⟨D,J,M,F,_,y⟩,O⟩:=I.list A;have p:s.heap.IsList a f.toArray:=⟨D,M,F,J,y⟩
 rw[assign_Tuple];refine ac3 (adj ?_);unfold unpack;rw[show (assignEach es X.env).length=f.toArray.size by simp[L,<-x,l.length],j];refine ac3 (adb (PySem.W.kun_itemsOf (I.ok.hd q) p λz B=>?_));have w:Inv X d m H { s with heap:=z }:=I.kept λb o e=>B b o (aar (ac5 e)) e;exact h d _ m H C _ Q w (by simpa using l) g
end
end
section
def An(H:Hp)(a:Addr)(y v:V)(c:Hp):Prop:=∃b k,H a=some (.dK b)/\y=kV k/\b.length<sizeLine/\c=upd H a (.dK (putK b k v))
def uw(d e:TE):TC:=λD a H Q=>d a H λk c=>e a c λv f=>∃b,An f D k v b/\Q b
abbrev n5(wi:TI)(nt:Nat)(fr:List Nat)(g:CC->TG)(tc:CC->TC):TE:=fU (.dK []) wi nt fr g (tZ tc)
noncomputable abbrev GX(kx vx:Expr)(D:Addr)(env:Env):Sem Unit:=eval kx env >>= λkv=>holding [kv] (eval vx env) >>= λvv=>standAt { kx.pos with endLine:=vx.pos.endLine,endCol:=vx.pos.endCol } >>= λ_=>holding [kv,vv] (dictSet D kv vv)
def pG(Y:Cx)(D:Addr)(a:List Expr)(c d:Expr)(tc:TC):Prop:=PB Y (Aj a (GX c d D Y.env) Y.env) (λb H Q=>tc D b H (Q b))
theorem r8(J:A.units+1<cLine)(I:Inv X pins σ H s)(g:An H a y v H')(D:RelV y u)(x:RelV v r)(h:∀f,Inv X pins σ H' f->Q () f):
  wpAny (model X.prog X.w) A (dictSet a u r) Q E s:=by
 obtain⟨d,k,e,j,l,F⟩:=g;subst j F;obtain⟨z,t,B,c,i⟩:=Am I.hok e;have L:B.length<=sizeLine:=by rw[<-c.length];exact z
 have n:(putK d k v).length<=sizeLine:=by have:=dE d k v;omega
 refine wpAny_dictSet_pairs (jK D) i λo b C=>h _ ?_;have m:∃q,o.get? a=some q:=let ⟨q,_,_,p,_⟩:=b;⟨q,p⟩
 exact ku I (by rw[e];exact True.intro) C m (uo n t (c.put k x) b)
section
variable{X Y:Cx}{tg iter kx vx:Expr}{ifs:List Expr}{scope:Scope}{pos:Pos}{N:List Str}{nt:Nat}{fr:List Nat}{D:Addr}
theorem B7(e:Y.A.units+1<cLine)(hk:PE Y kx tk)(m:PE Y vx tv):PB Y (GX kx vx D Y.env) (λσ H Q=>uw tk tv D σ H (Q σ)):=λa s σ H Q I h=>by refine ac3 (thn (hk a s σ H _ I h) λu i b=>?_);obtain⟨y,c,f,n,l⟩:=b;refine ac3 (adb (thn (m a i σ c _ f l) λr w b=>?_));obtain⟨v,t,o,d,k,g,q⟩:=b;exact ac3 (adj (adb (r8 e o g n d λp j=>⟨σ,k,j,q⟩)))
def n6(a:Y.A.units+1<cLine)(hk:PE Y kx tk)(b:PE Y vx tv):pG Y D [] kx vx (uw tk tv):=uc (B7 a hk b)
def Jh:MkC X newDict { cls:=.type "dict",data:=.dict #[] } (.dK []):=⟨λh=>adc h (by first|trivial|exact aaI _|decide),λI=>I.laid (λ_ _ q=>ac6 _ q) (aae _) (lY _ I.big)⟩
def ux(it:Value)(D:Addr)(env:Env):compTurn (.DictComp kx vx [⟨tg,iter,ifs,0⟩] scope pos) 0 it (.ref D) env=bR (.DictComp kx vx [⟨tg,iter,ifs,0⟩] scope pos) 0 tg iter.pos it (.ref D) env (Aj ifs (GX kx vx D env) env):=by rw[compTurn_dict];simp only[bR,Aj,<-jp,GX];rfl
theorem uy(a:X.calm=true)(S:CompScope N nt fr X.N scope X.env.scope)(d:PI X tg iter wi)(b:∀c:CC,PG (ba X N scope c) tg (g c))(e:∀(c:CC) D,pG (ba X N scope c) D ifs kx vx (tc c))(hs:∀x,foldedSetIterable iter X.env x=pure x):
  PE X (.DictComp kx vx [⟨tg,iter,ifs,0⟩] scope pos) (n5 wi nt fr g tc):=lT (.inr ⟨_,_,_,_,_,rfl⟩) rfl (λ_ _ _=>ux ..) Jh rfl a S d b e hs
theorem uz(k:X.N.Nodup)(j:X.N[i]?=some y)(b:X.env.scope.names.lookup y=some .local)(d:X.calm=true)(S:CompScope N nt fr X.N scope X.env.scope)(f:PI X tg iter wi)(e:∀c:CC,PG (ba X N scope c) tg (g c))(h:∀(c:CC) D,pG (ba X N scope c) D ifs kx vx (tc c))(hs:∀x,foldedSetIterable iter X.env x=pure x)
  (a:swapsWith (.DictComp kx vx [⟨tg,iter,ifs,0⟩] scope pos) (some (.Name y py)) spos.line X.env=pure true):PS X (.Assign [.Name y py] (.DictComp kx vx [⟨tg,iter,ifs,0⟩] scope pos) spos) (lO (n5 wi nt fr g tc) (gE i)):=
 ko (.inr ⟨_,_,_,_,_,rfl⟩) rfl (λ_ _ _=>ux ..) Jh (λ_=>rfl) k j b d S f e h hs a
end
end
end L2
set_option genInjectivity false
namespace L2
open PySem PySem.Spec PyProof.Rows
section
structure Kp (S:Addr->Prop)(H H':Hp):Prop where
 k:∀b o,H b=some o->¬ S b->H' b=some o
 n:∀b,H' b=none->H b=none
section
variable{S T S':Addr->Prop}{H H1 H' H2:Hp}{p:Addr}{o:HO}
def Kp.refl(S:Addr->Prop)(H:Hp):Kp S H H:=⟨λ_ _ h _=>h,λ_ h=>h⟩
def Kp.trans(a:Kp S H H1)(b:Kp S H1 H2):Kp S H H2:=⟨λc o h n=>b.k c o (a.k c o h n) n,λc h=>a.n c (b.n c h)⟩
def Kp.weak(a:Kp S H H')(h:∀b,S b->T b\/H b=none):Kp T H H':=⟨λb o e n=>a.k b o e λz=>(h b z).elim n λq=>(by rw[q]at e;cases e),a.n⟩
theorem Kp.put(a:S p\/H p=none):Kp S H (upd H p o):=by
 refine⟨λb u h n=>?_,λb h=>?_⟩
 ·have c:b≠p:=λe=>by
   subst e;rcases a with a|a
   ·exact n a
   ·rw[a]at h;cases h
  rw[upd_ne c];exact h
 ·by_cases e:b=p
  ·subst e;rw[ao]at h;cases h
  ·rw[upd_ne e]at h;exact h
def Kp.keep(a:Kp (λ_=>False) H H'):Keep [] H H':=λb o h _=>a.k b o h (λz=>z)
def Bx(S:Addr->Prop)(F:Hp->Prop)(H:Hp):Prop:=∀H',Kp S H H'->F H'
def Bx.now{F:Hp->Prop}(h:Bx S F H):F H:=h H (Kp.refl _ _)
def Bx.step{F:Hp->Prop}(h:Bx S F H)(k:Kp S H H')(n:∀b,S' b->S b\/H b=none):Bx S' F H':=λH2 c=>
 h H2 ⟨λb o e a=>c.k b o (k.k b o e a) λz=>(n b z).elim a λq=>(by rw[q]at e;cases e),λb e=>k.n b (c.n b e)⟩
end
mutual
inductive Fz (K:Waa)(S:Addr->Prop)(H:Hp):V->PyData->Prop
 |non:Fz K S H .non .none
 |bl (b:Bool):Fz K S H (.bl b) (.bool b)
 |int (i:Int):Fz K S H (.int i) (.int i)
 |str (x:Str):Fz K S H (.str x) (.str x)
 |lst {a xs ds}:Bx S (λH=>SqL K H a xs) H->FzA K S H xs ds->Fz K S H (.ref a) (.list ds)
 |tup {a xs ds}:Bx S (λH=>SqT K H a xs) H->FzA K S H xs ds->Fz K S H (.ref a) (.tuple ds)
inductive FzA (K:Waa)(S:Addr->Prop)(H:Hp):List V->List PyData->Prop
 |nil:FzA K S H [] []
 |cons {x d xs ds}:Fz K S H x d->FzA K S H xs ds->FzA K S H (x::xs) (d::ds)
end
section
variable{K:Waa}{S T S':Addr->Prop}{H H1 H' H2:Hp}
theorem Fz.ind{P:V->PyData->Prop}{Q:List V->List PyData->Prop}(f:P .non .none)(l:∀b,P (.bl b) (.bool b))(c:∀i,P (.int i) (.int i))(k:∀x,P (.str x) (.str x))
  (e:∀{a xs ds},Bx S (λH=>SqL K H a xs) H->Q xs ds->P (.ref a) (.list ds)) (g:∀{a xs ds},Bx S (λH=>SqT K H a xs) H->Q xs ds->P (.ref a) (.tuple ds)) (nil:Q [] []) (cons:∀{x d xs ds},P x d->Q xs ds->Q (x::xs) (d::ds)):
  (∀{v d},Fz K S H v d->P v d)/\∀{vs ds},FzA K S H vs ds->Q vs ds:=
 ⟨λh=>Fz.rec f l c k (λh _ i=>e h i) (λh _ i=>g h i) nil (λ_ _ i j=>cons i j) h,
  λh=>FzA.rec f l c k (λh _ i=>e h i) (λh _ i=>g h i) nil (λ_ _ i j=>cons i j) h⟩
theorem Fz.ow(k:Kp S H H')(n:∀b,S' b->S b\/H b=none):(∀{v:V}{d:PyData},Fz K S H v d->Fz K S' H' v d)/\∀{vs:List V}{ds:List PyData},FzA K S H vs ds->FzA K S' H' vs ds:=
 Fz.ind .non .bl .int .str (λh t=>.lst (h.step k n) t) (λh t=>.tup (h.step k n) t) .nil (λr t=>.cons r t)
theorem Fz.step(k:Kp S H H')(n:∀b,S' b->S b\/H b=none){v:V}{d:PyData}(h:Fz K S H v d):Fz K S' H' v d:=(Fz.ow k n).1 h
theorem FzA.step(k:Kp S H H')(n:∀b,S' b->S b\/H b=none){vs:List V}{ds:List PyData}(h:FzA K S H vs ds):FzA K S' H' vs ds:=(Fz.ow k n).2 h
def Fz.dt_:(∀{v:V}{d:PyData},Fz K S H v d->Dt K H v d)/\∀{vs:List V}{ds:List PyData},FzA K S H vs ds->DtAll K H vs ds:=
 Fz.ind .non .bl .int .str (λh t=>.lst h.now t) (λh t=>.tup h.now t) .nil (λr t=>.cons r t)
def Fz.dt(h:Fz K S H v d):Dt K H v d:=Fz.dt_.1 h
def Fz.of0(h:Dt K H v d):Fz K (λ_=>False) H v d:=
 Dt.rec .non .bl .int .str (λh _ t=>.lst (λH' k=>k.keep.same.seq h) t) (λh _ t=>.tup (λH' k=>k.keep.same.tupS h) t) .nil (λ_ _ r t=>.cons r t) h
def Fz.sub(h:∀b,S' b->S b)(f:Fz K S H v d):Fz K S' H v d:=f.step (Kp.refl _ _) λb z=>.inl (h b z)
def FzA.sub(h:∀b,S' b->S b)(f:FzA K S H v d):FzA K S' H v d:=f.step (Kp.refl _ _) λb z=>.inl (h b z)
def FzA.length(h:FzA K S H vs ds):vs.length=ds.length:=by
 induction vs generalizing ds with
 |nil=>cases h;rfl
 |cons v vs a=>cases h with|cons _ t=>rw[aau,aau,a t]
theorem FzA.ints:∀(ns:List Int),FzA K S H (ns.map V.int) (ns.map PyData.int)
 |[]=>.nil
 |n::ns=>.cons (.int n) (FzA.ints ns)
theorem Fz.rr(h:Fz K S H v (.list ds)):∃a xs,v=.ref a/\Bx S (λH=>SqL K H a xs) H/\FzA K S H xs ds:=by
 cases h with|lst h t=>exact⟨_,_,rfl,h,t⟩
theorem Fz.s9(h:Fz K S H v (.tuple ds)):∃a xs,v=.ref a/\Bx S (λH=>SqT K H a xs) H/\FzA K S H xs ds:=by
 cases h with|tup h t=>exact⟨_,_,rfl,h,t⟩
def B8(h:H a=some (.lst xs))(n:¬ S a):Bx S (λH=>SqL K H a xs) H:=λ_ k=>SqL.of (k.k _ _ h n)
def uA(h:H a=some (.tup xs))(n:¬ S a):Bx S (λH=>SqT K H a xs) H:=λ_ k=>SqT.of (k.k _ _ h n)
end
inductive OD where
 |fz (d:PyData)|lst (xs:List OD)|tup (xs:List OD)|dic (ks:List Key) (xs:List OD)|obj (c:Str) (ns:List Str) (xs:List OD)|pin (l:Bool) (xs:List V) (ds:List PyData)|hole (v:V)
mutual
def OD.dat:OD->Option PyData
 |.fz d=>some d
 |.lst xs=>match OD.dv xs with|some ds=>some (.list ds)|none=>none
 |.tup xs=>match OD.dv xs with|some ds=>some (.tuple ds)|none=>none
 |.dic _ _=>none
 |.obj _ _ _=>none
 |.pin l _ ds=>some (if l then .list ds else .tuple ds)
 |.hole _=>none
def OD.dv:List OD->Option (List PyData)
 |[]=>some []
 |x::xs=>match x.dat with
  |some d=>match OD.dv xs with|some ds=>some (d::ds)|none=>none
  |none=>none
end
def aq(K:Waa)(c:Str):Addr:=match PySem.W.nsIn K mainGlobals c with|some (some (.ref C))=>C|_=>0
structure Bs where
 K:Waa
 H0:Hp
 S0:Addr->Prop
 C:Addr->Prop
mutual
inductive Ow (b:Bs)(S:Addr->Prop)(H:Hp):V->OD->List Addr->Prop
 |fz {v d}:Fz b.K S H v d->Ow b S H v (.fz d) []
 |lst {a vs xs A}:H a=some (.lst vs)->Ows b S H vs xs A->Ow b S H (.ref a) (.lst xs) (a::A)
 |tup {a vs xs A}:H a=some (.tup vs)->Ows b S H vs xs A->Ow b S H (.ref a) (.tup xs) A
 |dic {a ws ks vs xs A}:H a=some (.dK ws)->ws.map (·.1)=ks->ws.map (·.2)=vs->Ows b S H vs xs A->Ow b S H (.ref a) (.dic ks xs) (a::A)
 |obj {a dx c fs ns vs xs A}:H a=some (.ins (aq b.K c) dx fs)->H dx=some (.own a)->fs.map (·.1)=ns->fs.map (·.2)=vs->Ows b S H vs xs A->Ow b S H (.ref a) (.obj c ns xs) (a::dx::A)
 |pinL {a xs ds}:Bx S (λH=>SqL b.K H a xs) H->FzA b.K S H xs ds->Ow b S H (.ref a) (.pin true xs ds) []
 |pinT {a xs ds}:Bx S (λH=>SqT b.K H a xs) H->FzA b.K S H xs ds->Ow b S H (.ref a) (.pin false xs ds) []
 |hole {v u}:v=u->Ow b S H v (.hole u) []
inductive Ows (b:Bs)(S:Addr->Prop)(H:Hp):List V->List OD->List Addr->Prop
 |nil:Ows b S H [] [] []
 |cons {v x A vs xs B}:Ow b S H v x A->Ows b S H vs xs B->Ows b S H (v::vs) (x::xs) (A++B)
end
abbrev OwL(b:Bs)(S:Addr->Prop)(H:Hp)(L:List (V×OD))(A:List Addr):Prop:=Ows b S H (L.map (·.1)) (L.map (·.2)) A
def MutO:HO->Prop
 |.lst _=>True|.dK _=>True|.ins _ _ _=>True|.own _=>True
 |_=>False
section
variable{b:Bs}{S T S':Addr->Prop}{H H1 H' H2:Hp}
def Ows.len(h:Ows b S H vs xs A):vs.length=xs.length:=by
 induction vs generalizing xs A with
 |nil=>cases h;rfl
 |cons v vs a=>cases h with|cons _ t=>rw[aau,aau,a t]
theorem Ow.ind{P:V->OD->List Addr->Prop}{Q:List V->List OD->List Addr->Prop}(s:∀{v d},Fz b.K S H v d->P v (.fz d) [])(p:∀{a vs xs A},H a=some (.lst vs)->Q vs xs A->P (.ref a) (.lst xs) (a::A))(q:∀{a vs xs A},H a=some (.tup vs)->Q vs xs A->P (.ref a) (.tup xs) A)
  (n:∀{a ws ks vs xs A},H a=some (.dK ws)->ws.map (·.1)=ks->ws.map (·.2)=vs->Q vs xs A->P (.ref a) (.dic ks xs) (a::A)) (o:∀{a dx c fs ns vs xs A},H a=some (.ins (aq b.K c) dx fs)->H dx=some (.own a)->fs.map (·.1)=ns->fs.map (·.2)=vs->Q vs xs A->P (.ref a) (.obj c ns xs) (a::dx::A))
  (g:∀{a xs ds},Bx S (λH=>SqL b.K H a xs) H->FzA b.K S H xs ds->P (.ref a) (.pin true xs ds) []) (k:∀{a xs ds},Bx S (λH=>SqT b.K H a xs) H->FzA b.K S H xs ds->P (.ref a) (.pin false xs ds) []) (f:∀{v u},v=u->P v (.hole u) [])
  (nil:Q [] [] []) (cons:∀{v x A vs xs B},P v x A->Q vs xs B->Q (v::vs) (x::xs) (A++B)):(∀{v x A},Ow b S H v x A->P v x A)/\∀{vs xs A},Ows b S H vs xs A->Q vs xs A:=
 ⟨λh=>Ow.rec s (λe _ i=>p e i) (λe _ i=>q e i) (λe m l _ i=>n e m l i) (λe r m l _ i=>o e r m l i) g k f nil (λ_ _ i j=>cons i j) h,
  λh=>Ows.rec s (λe _ i=>p e i) (λe _ i=>q e i) (λe m l _ i=>n e m l i) (λe r m l _ i=>o e r m l i) g k f nil (λ_ _ i j=>cons i j) h⟩
def pH{P:Addr->Prop}(h:P a)(t:∀c∈A,P c):∀c∈a::A,P c:=λc d=>(aab.mp d).elim (λe=>e▸h) (t c)
theorem Ow.mu_:(∀{v:V}{x:OD}{A:List Addr},Ow b S H v x A->∀a∈A,∃o,H a=some o/\MutO o)/\∀{vs:List V}{xs:List OD}{A:List Addr},Ows b S H vs xs A->∀a∈A,∃o,H a=some o/\MutO o:=
 Ow.ind (λ_ _ h=>absurd h aao) (λe i=>pH ⟨_,e,trivial⟩ i) (λ_ i=>i) (λe _ _ i=>pH ⟨_,e,trivial⟩ i) (λe c _ _ i=>pH ⟨_,e,trivial⟩ (pH ⟨_,c,trivial⟩ i)) (λ_ _ _ h=>absurd h aao) (λ_ _ _ h=>absurd h aao) (λ_ _ h=>absurd h aao) (λ_ h=>absurd h aao) (λi j a h=>(aaj.mp h).elim (i a) (j a))
def Ow.mu(h:Ow b S H v x A):∀a∈A,∃o,H a=some o/\MutO o:=Ow.mu_.1 h
def Ows.mu(h:Ows b S H vs xs A):∀a∈A,∃o,H a=some o/\MutO o:=Ow.mu_.2 h
def Ows.ne(h:Ows b S H vs xs A):∀a∈A,H a≠none:=λa c e=>by obtain⟨o,q,_⟩:=h.mu a c;rw[q]at e;cases e
def Ows.tl(h:Ows b S H vs xs A):∀a∈A,∀ys,H a≠some (.tup ys):=λa c ys e=>by obtain⟨o,q,m⟩:=h.mu a c;rw[q]at e;cases e;exact m
theorem Ow.ow(c:b2.K=b.K)(k:Kp S H H')(n:∀b,S' b->S b\/H b=none)(hs:∀a xs,H a=some (.tup xs)->¬ S a):(∀{v:V}{x:OD}{A:List Addr},Ow b S H v x A->(∀a∈A,H' a=H a)->Ow b2 S' H' v x A)/\∀{vs:List V}{xs:List OD}{A:List Addr},Ows b S H vs xs A->(∀a∈A,H' a=H a)->Ows b2 S' H' vs xs A:=
 Ow.ind (λf _=>.fz (c▸f.step k n)) (λe i s=>.lst ((s _ aad).trans e) (i λa h=>s a (aah _ h))) (λe i s=>.tup (k.k _ _ e (hs _ _ e)) (i s)) (λe g d i s=>.dic ((s _ aad).trans e) g d (i λa h=>s a (aah _ h)))
  (λe l g d i s=>.obj (c▸(s _ aad).trans e) ((s _ (aah _ aad)).trans l) g d (i λa h=>s a (aah _ (aah _ h)))) (λh t _=>.pinL (c▸h.step k n) (c▸t.step k n)) (λh t _=>.pinT (c▸h.step k n) (c▸t.step k n)) (λe _=>.hole e) (λ_=>.nil) (λi j s=>.cons (i λa h=>s a (aaf _ h)) (j λa h=>s a (aag _ h)))
theorem Ow.step(k:Kp S H H')(n:∀b,S' b->S b\/H b=none)(hs:∀a xs,H a=some (.tup xs)->¬ S a){v:V}{x:OD}{A:List Addr}(s:∀a∈A,H' a=H a)(h:Ow b S H v x A):Ow b S' H' v x A:=(Ow.ow rfl k n hs).1 h s
theorem Ows.step(k:Kp S H H')(n:∀b,S' b->S b\/H b=none)(hs:∀a xs,H a=some (.tup xs)->¬ S a){vs:List V}{xs:List OD}{A:List Addr}(s:∀a∈A,H' a=H a)(h:Ows b S H vs xs A):Ows b S' H' vs xs A:=(Ow.ow rfl k n hs).2 h s
def Ow.sub(hs:∀a xs,H a=some (.tup xs)->¬ S a)(n:∀c,S' c->S c)(h:Ow b S H v x A):Ow b S' H v x A:=h.step (Kp.refl _ _) (λc z=>.inl (n c z)) hs (λ_ _=>rfl)
def Ows.sub(hs:∀a xs,H a=some (.tup xs)->¬ S a)(n:∀c,S' c->S c)(h:Ows b S H v x A):Ows b S' H v x A:=h.step (Kp.refl _ _) (λc z=>.inl (n c z)) hs (λ_ _=>rfl)
theorem Ows.subB(d:b2.K=b.K)(hs:∀a xs,H a=some (.tup xs)->¬ S a)(n:∀c,S' c->S c)(h:Ows b S H v x A):Ows b2 S' H v x A:=(Ow.ow d (Kp.refl _ _) (λc z=>.inl (n c z)) hs).2 h λ_ _=>rfl
theorem yl(h:(OD.lst xs).dat=some d):∃ds,OD.dv xs=some ds/\d=.list ds:=by
 rw[OD.dat]at h;cases z:OD.dv xs with
 |none=>rw[z]at h;cases h
 |some ds=>rw[z]at h;cases h;exact⟨ds,rfl,rfl⟩
theorem ym(h:(OD.tup xs).dat=some d):∃ds,OD.dv xs=some ds/\d=.tuple ds:=by
 rw[OD.dat]at h;cases z:OD.dv xs with
 |none=>rw[z]at h;cases h
 |some ds=>rw[z]at h;cases h;exact⟨ds,rfl,rfl⟩
theorem r9(h:OD.dv (x::xs)=some es):∃d ds,x.dat=some d/\OD.dv xs=some ds/\es=d::ds:=by
 rw[OD.dv]at h;cases z:x.dat with
 |none=>rw[z]at h;cases h
 |some d=>
  cases a:OD.dv xs with
  |none=>rw[z,a]at h;cases h
  |some ds=>rw[z,a]at h;cases h;exact⟨d,ds,rfl,rfl,rfl⟩
theorem Ow.frz_(k:∀a,S' a->S a)(nt:∀a xs,H a=some (.tup xs)->¬ S a):(∀{v:V}{x:OD}{A:List Addr},Ow b S H v x A->∀d:PyData,(∀a∈A,¬ S' a)->x.dat=some d->Fz b.K S' H v d)/\∀{vs:List V}{xs:List OD}{A:List Addr},Ows b S H vs xs A->∀ds:List PyData,(∀a∈A,¬ S' a)->OD.dv xs=some ds->FzA b.K S' H vs ds:=by
 refine Ow.ind (P:=λv x A=>∀d:PyData,(∀a∈A,¬ S' a)->x.dat=some d->Fz b.K S' H v d) (Q:=λvs xs A=>∀ds:List PyData,(∀a∈A,¬ S' a)->OD.dv xs=some ds->FzA b.K S' H vs ds) ?_ ?_ ?_ (λ_ _ _ _ _ _ q=>?_) (λ_ _ _ _ _ _ _ q=>?_) ?_ ?_ (λ_ _ _ q=>?_) ?_ ?_
 ·intro v d f o _ q;cases q;exact f.sub k
 ·intro a vs xs A e i d g q;obtain⟨ds,z,rfl⟩:=yl q;exact .lst (B8 e (g _ aad)) (i ds (λa h=>g a (aah _ h)) z)
 ·intro a vs xs A e i d g q;obtain⟨ds,z,rfl⟩:=ym q;exact .tup (uA e λy=>nt _ _ e (k _ y)) (i ds g z)
 ·cases q
 ·cases q
 ·intro a xs ds h t d _ q;cases q;exact .lst (h.step (Kp.refl _ _) λc z=>.inl (k c z)) (t.sub k)
 ·intro a xs ds h t d _ q;cases q;exact .tup (h.step (Kp.refl _ _) λc z=>.inl (k c z)) (t.sub k)
 ·cases q
 ·intro ds _ q;cases q;exact .nil
 ·intro v x A vs xs B i j n g q;obtain⟨d,ds,m,l,rfl⟩:=r9 q;exact .cons (i d (λa h=>g a (aaf _ h)) m) (j ds (λa h=>g a (aag _ h)) l)
def Ow.frz(c:∀a,S' a->S a)(nt:∀a xs,H a=some (.tup xs)->¬ S a)(e:∀a∈A,¬ S' a)(h:Ow b S H v x A)(q:x.dat=some d):Fz b.K S' H v d:=(Ow.frz_ c nt).1 h d e q
def Ows.append(h:Ows b S H vs xs A)(h':Ows b S H us ys B):Ows b S H (vs++us) (xs++ys) (A++B):=by
 induction vs generalizing xs A with
 |nil=>cases h;exact h'
 |cons v vs a=>cases h with|cons r t=>rw[aac];exact .cons r (a t)
theorem Ows.split(e:vs.length=xs.length)(h:Ows b S H (vs++us) (xs++ys) A):∃c a,A=c++a/\Ows b S H vs xs c/\Ows b S H us ys a:=by
 induction vs generalizing xs A with
 |nil=>
  cases xs with
  |nil=>exact⟨[],A,rfl,.nil,h⟩
  |cons _ _=>cases e
 |cons v vs f=>
  cases xs with
  |nil=>cases e
  |cons x xs=>
   cases h with
   |cons r t=>obtain⟨c,a,rfl,d,g⟩:=f (acn e) t;exact⟨_,a,(aac ..).symm,.cons r d,g⟩
def OwL.j2(h:OwL b S H (L1++L2) A):∃a c,A=a++c/\OwL b S H L1 a/\OwL b S H L2 c:=by unfold OwL at h;rw[aaw,aaw]at h;exact Ows.split (by simp) h
theorem OwL.n7(a:OwL b S H L1 A1)(c:OwL b S H L2 A2):OwL b S H (L1++L2) (A1++A2):=by unfold OwL;rw[aaw,aaw];exact Ows.append a c
theorem OwL.perm(p:L.Perm L'):∀{A:List Addr},OwL b S H L A->∃e,OwL b S H L' e/\A.Perm e:=by
 induction p with
 |nil=>intro A h;exact⟨A,h,.refl _⟩
 |cons x _ f=>
  intro A h;cases h with
  |cons r t=>obtain⟨B,c,q⟩:=f t;exact⟨_,.cons r c,q.append_left _⟩
 |swap x y l=>
  intro A h;cases h with
  |cons r t=>
   cases t with
   |cons i g=>refine⟨_,.cons i (.cons r g),?_⟩;rw[<-aac,<-aac];exact abb.append_right _
 |trans _ _ a d=>intro A h;obtain⟨B,m,j⟩:=a h;obtain⟨C,c,k⟩:=d m;exact⟨C,c,j.trans k⟩
def OwL.mem:∀{A:List Addr},OwL b S H L A->∀{x:V×OD},x∈L->∃B,Ow b S H x.1 x.2 B:=by
 induction L with
 |nil=>intro A h x a;cases a
 |cons y L c=>
  intro A h x a;cases h with
  |cons r t=>
   rcases aab.mp a with rfl|a
   ·exact⟨_,r⟩
   ·exact c t a
theorem Ows.zip(h:Ows b S H vs xs A)(e:xs[k]?=some x):∃v c B d,vs[k]?=some v/\A=c++(B++d)/\Ow b S H v x B /\
  ∀{S':Addr->Prop}{H':Hp}{u:V}{y:OD}{i:List Addr},Ow b S' H' u y i->(∀{v:V}{x:OD}{C:List Addr},(∀a∈C,a∈c\/a∈d)->Ow b S H v x C->Ow b S' H' v x C)->Ows b S' H' (vs.set k u) (xs.set k y) (c++(i++d)):=by
 induction vs generalizing xs A k with
 |nil=>cases h;cases k<;>cases e
 |cons v vs f=>
  cases h with
  |@cons _ x0 A _ xs B r t=>
   cases k with
   |zero=>
    cases e;refine⟨v,[],A,B,rfl,rfl,r,λ{S' H' u y i} h g=>Ows.cons (B:=B) h ?_⟩;have o:∀{vs:List V}{xs:List OD}{D:List Addr},(∀a∈D,a∈B)->Ows b S H vs xs D->Ows b S' H' vs xs D:=λ{vs xs D} s h=>by
     induction xs generalizing vs D with
     |nil=>cases h;exact .nil
     |cons x xs f=>cases h with|cons r t=>exact .cons (g (λa h=>.inr (s a (aaf _ h))) r) (f (λa h=>s a (aag _ h)) t)
    exact o (λa h=>h) t
   |succ k=>obtain⟨j,c,l,d,q,p,m,n⟩:=f t e;subst p;refine⟨j,A++c,l,d,q,(aac ..).symm,m,λh g=>?_⟩;rw[aaK,aaK,aac];exact .cons (g (λa h=>.inl (aaf _ h)) r) (n h λs h=>g (λa z=>(s a z).imp (aag _) id) h)
end
end
section
structure Wd (b:Bs)(H:Hp)(L:List (V×OD)):Prop where
 out:∃A,OwL b (λa=>a∈A\/b.S0 a) H L A/\A.Nodup/\∀a∈A,b.H0 a=none\/b.C a
 fr:Kp b.C b.H0 H
 s0:∀a,b.S0 a->b.H0 a≠none/\¬ b.C a
 nt:∀a xs,H a=some (.tup xs)->¬ b.S0 a
section
variable{b:Bs}{H H1 H':Hp}{L L':List (V×OD)}{v u:V}{x y:OD}{d:PyData}{ds:List PyData}{p a:Addr}
def Wd.r6(w:Wd b H L)(h:OwL b (λa=>a∈A\/b.S0 a) H L A):∀a xs,H a=some (.tup xs)->¬ (a∈A\/b.S0 a):=λa xs e z=>z.elim (λz=>Ows.tl h a z xs e) (w.nt a xs e)
def Wd.al(w:Wd b H L)(h:OwL b (λa=>a∈A\/b.S0 a) H L A)(e:H a=none):¬ (a∈A\/b.S0 a):=λz=>z.elim (λz=>Ows.ne h a z e) λz=>(w.s0 a z).1 (w.fr.n a e)
def Wd.dj(w:Wd b H L){A:List Addr}(c:∀a∈A,b.H0 a=none\/b.C a):∀a∈A,¬ b.S0 a:=λa e z=>(c a e).elim (w.s0 a z).1 (w.s0 a z).2
def Wd.perm(w:Wd b H L)(q:L.Perm L'):Wd b H L':=by obtain⟨A,h,g,f⟩:=w.out;obtain⟨i,j,e⟩:=OwL.perm q h;refine⟨⟨i,Ows.step (Kp.refl _ _) (λc z=>.inl (z.imp (e.mem_iff.mpr) id)) (w.r6 h) (λ_ _=>rfl) j,e.nodup_iff.mp g,λa k=>f a (e.mem_iff.mpr k)⟩,w.fr,w.s0,w.nt⟩
def Wd.drop(w:Wd b H ((v,x)::L)):Wd b H L:=by
 obtain⟨A,h,f,e⟩:=w.out;have g:=w.r6 h;cases h with
 |@cons _ _ A _ _ B r t=>exact⟨⟨B,Ows.step (Kp.refl _ _) (λc z=>.inl (z.imp (aag _) id)) g (λ_ _=>rfl) t,(aaB.mp f).2.1,λa i=>e a (aag _ i)⟩,w.fr,w.s0,w.nt⟩
def Wd.drops(w:Wd b H (L1++L2)):Wd b H L2:=by
 induction L1 with
 |nil=>exact w
 |cons z L1 c=>exact c (Wd.drop w)
theorem Wd.puts(w:Wd b H (L1++L))(h:∀(S:Addr->Prop) (A:List Addr),OwL b S H L1 A->A.Nodup->(∀a∈A,S a)->(∀a,H a=none->¬ S a)->(∀a xs,H a=some (.tup xs)->¬ S a) ->
  ∃f,OwL b (λa=>(S a/\a ∉ A)\/a∈f) H L2 f/\f.Nodup/\∀a∈f,a∈A):Wd b H (L2++L):=by
 obtain⟨M,m,C,g⟩:=w.out;have k:=w.r6 m;have J:=λ{a}=>w.al m (a:=a);have ds:=w.dj g;obtain⟨A,B,rfl,r,t⟩:=OwL.j2 m;obtain⟨s,I,o⟩:=aaB.mp C;obtain⟨f,F,D,l⟩:=h _ A r s (λa z=>.inl (aaf _ z)) (λa e=>J e) k;have i:∀c,(c∈f++B\/b.S0 c)->(c∈A++B\/b.S0 c):=λc z=>z.imp (λz=>(aaj.mp z).elim (λz=>aaf _ (l c z)) (aag _)) id;refine⟨⟨f++B,OwL.n7 (Ows.step (Kp.refl _ _) (λc z=>.inl ?_) (λa xs e z=>?_) (λ_ _=>rfl) F) (Ows.step (Kp.refl _ _) (λc z=>.inl (i c z)) k (λ_ _=>rfl) t),aaB.mpr ⟨D,I,λa n c j=>o a (l a n) c j⟩,λa n=>?_⟩,w.fr,w.s0,w.nt⟩
 ·by_cases j:c∈f
  ·exact .inr j
  ·refine .inl ⟨i c z,λq=>?_⟩;rcases z with z|z
   ·rcases aaj.mp z with z|z
    ·exact j z
    ·exact o c q c z rfl
   ·exact ds c (aaf _ q) z
 ·rcases z with z|z
  ·exact k a xs e z.1
  ·exact k a xs e (.inl (aaf _ (l a z)))
 ·rcases aaj.mp n with z|z
  ·exact g a (aaf _ (l a z))
  ·exact g a (aag _ z)
def OwL.one(h:OwL b S H [(v,x)] A):Ow b S H v x A:=by
 cases h with
 |cons r t=>cases t;rw[aaq];exact r
def OwL.of1(h:Ow b S H v x A):OwL b S H [(v,x)] A:=by have:=Ows.cons h (Ows.nil );rw[aaq]at this;exact this
theorem Wd.frz(w:Wd b H ((v,x)::L))(e:x.dat=some d):Wd b H ((v,.fz d)::L):=by
 refine Wd.puts (L1:=[(v,x)]) w λS A h g i j c=>⟨[],OwL.of1 (.fz ?_),aa1,λa z=>by cases z⟩
 exact Ow.frz (λa z=>z.elim (·.1) (λz=>by cases z)) c (λa f z=>z.elim (λz=>z.2 f) (λz=>by cases z)) h.one e
def Wd.dt(w:Wd b H ((v,x)::L))(e:x.dat=some d):Dt b.K H v d:=by obtain⟨A,c,g,f⟩:=w.out;obtain⟨B,h⟩:=OwL.mem c (x:=(v,x)) (by simp);exact(Ow.frz (λa z=>z.elim) (w.r6 c) (λa _ z=>z) h e).dt
def Wd.memDt(w:Wd b H L)(m:(v,x)∈L)(e:x.dat=some d):Dt b.K H v d:=by obtain⟨A,c,g,f⟩:=w.out;obtain⟨B,h⟩:=OwL.mem c m;exact(Ow.frz (λa z=>z.elim) (w.r6 c) (λa _ z=>z) h e).dt
def FrzIn(b:Bs)(S:Addr->Prop)(H:Hp)(L:List (V×OD)):Prop:=∀u e,(u,OD.fz e)∈L->Fz b.K S H u e
theorem OwL.v7(h:OwL b S H L A):FrzIn b S H L:=λu e m=>by obtain⟨B,q⟩:=OwL.mem h m;cases q with|fz f=>exact f
theorem FrzIn.all(h:FrzIn b S H L):∀{vs:List V}{ds:List PyData},vs.length=ds.length->(∀z∈vs.zip (ds.map OD.fz),z∈L)->FzA b.K S H vs ds
 |[],[],_,_=>.nil
 |v::vs,d::ds,e,m=>.cons (h v d (m _ (by simp))) (FrzIn.all h (by simpa using e) λz c=>m z (by simp[c]))
theorem Wd.add(w:Wd b H L)(h:∀S:Addr->Prop,(∀(x:V×OD),x∈L->∃A,Ow b S H x.1 x.2 A)->(∀a,H a=none->¬ S a)->(∀a xs,H a=some (.tup xs)->¬ S a)->Fz b.K S H v d):Wd b H ((v,.fz d)::L):=by obtain⟨A,c,g,f⟩:=w.out;exact⟨⟨A,Ows.cons (.fz (h _ (λx i=>OwL.mem c i) (λa e=>w.al c e) (w.r6 c))) c,g,f⟩,w.fr,w.s0,w.nt⟩
theorem Wd.adds(w:Wd b H L)(h:∀S:Addr->Prop,(∀(x:V×OD),x∈L->∃A,Ow b S H x.1 x.2 A)->FzA b.K S H vs ds):Wd b H (vs.zip (ds.map OD.fz)++L):=by
 obtain⟨A,e,f,c⟩:=w.out;have q:∀{vs:List V}{ds:List PyData},FzA b.K (λa=>a∈A\/b.S0 a) H vs ds->OwL b (λa=>a∈A\/b.S0 a) H (vs.zip (ds.map OD.fz)) []:=by
  intro vs;induction vs with
  |nil=>intro ds h;cases h;exact .nil
  |cons v vs i=>intro ds h;cases h with|cons r t=>exact Ows.cons (.fz r) (i t)
 exact⟨⟨A,OwL.n7 (q (h _ λx g=>OwL.mem e g)) e,f,c⟩,w.fr,w.s0,w.nt⟩
def Wd.dup(w:Wd b H ((v,.fz d)::L)):Wd b H ((v,.fz d)::(v,.fz d)::L):=w.add λS h _ _=>by obtain⟨A,q⟩:=h (v,.fz d) (by simp);cases q with|fz f=>exact f
inductive Sc:V->PyData->Prop
 |non:Sc .non .none
 |bl (b:Bool):Sc (.bl b) (.bool b)
 |int (i:Int):Sc (.int i) (.int i)
 |str (x:Str):Sc (.str x) (.str x)
def Sc.fz{K:Waa}(h:Sc v d):Fz K S H v d:=by cases h<;>constructor
def Wd.sc(w:Wd b H L)(h:Sc v d):Wd b H ((v,.fz d)::L):=w.add λS _ _ _=>h.fz
theorem Wd.new(w:Wd b H L)(f:H p=none):Wd b (upd H p o) L:=by
 obtain⟨A,h,j,g⟩:=w.out;have i:=w.al h f;refine⟨⟨A,Ows.step (Kp.put (.inr f)) (λc z=>.inl z) (w.r6 h) (λa l=>upd_ne λe=>i (.inl (e▸l))) h,j,g⟩,w.fr.trans (Kp.put (.inr f)),w.s0,λa k e z=>?_⟩;by_cases q:a=p
 ·subst q;exact i (.inr z)
 ·rw[upd_ne q]at e;exact w.nt a k e z
theorem Wd.vl(w:Wd b H L)(c:H p=none):b.H0 p=none:=w.fr.n p c
theorem ky:∀{vs:List V}{xs:List OD},vs.length=xs.length->(vs.zip xs).map (·.1)=vs
 |[],[],_=>rfl
 |_::_,_::_,e=>by rw[abr,aam,ky (by simpa using e)]
 |[],_::_,e=>by simp at e
 |_::_,[],e=>by simp at e
theorem kz:∀{vs:List V}{xs:List OD},vs.length=xs.length->(vs.zip xs).map (·.2)=xs
 |[],[],_=>rfl
 |_::_,_::_,e=>by rw[abr,aam,kz (by simpa using e)]
 |[],_::_,e=>by simp at e
 |_::_,[],e=>by simp at e
theorem OwL.v5(e:vs.length=xs.length)(h:OwL b S H (vs.zip xs) A):Ows b S H vs xs A:=by unfold OwL at h;rw[ky e,kz e]at h;exact h
theorem OwL.rd(h:Ows b S H vs xs A):OwL b S H (vs.zip xs) A:=by unfold OwL;rw[ky h.len,kz h.len];exact h
theorem Wd.kq(w:Wd b H L)(h:∀S,FrzIn b S H L->FzA b.K S H vs ds)(f:H p=none):Wd b (upd H p (.tup vs)) ((.ref p,.fz (.tuple ds))::L):=by obtain⟨A,g,m,i⟩:=w.out;have k:=w.al g f;have l:=h _ (OwL.v7 g);have j:=w.new f (o:=.tup vs);refine⟨⟨A,Ows.cons (.fz (.tup (uA ao k) (l.step (Kp.put (.inr f)) λc z=>.inl z))) (Ows.step (Kp.put (.inr f)) (λc z=>.inl z) (w.r6 g) (λa n=>upd_ne λe=>k (.inl (e▸n))) g),m,i⟩,j.fr,j.s0,j.nt⟩
theorem Wd.zr(w:Wd b H (vs.zip xs++L))(e:vs.length=xs.length)(g:H p=none):Wd b (upd H p (.tup vs)) ((.ref p,.tup xs)::L):=by obtain⟨A,i,m,j⟩:=w.out;have n:=w.al i g;have k:=w.r6 i;have h:=w.new g (o:=.tup vs);have l:∀a∈A,upd H p (.tup vs) a=H a:=λa f=>upd_ne λe=>n (.inl (e▸f));obtain⟨q,s,rfl,t,r⟩:=OwL.j2 i;refine⟨⟨q++s,Ows.cons (.tup ao (Ows.step (Kp.put (.inr g)) (λc z=>.inl z) k (λa f=>l a (aaf _ f)) (OwL.v5 e t))) (Ows.step (Kp.put (.inr g)) (λc z=>.inl z) k (λa f=>l a (aag _ f)) r),m,j⟩,h.fr,h.s0,h.nt⟩
theorem Wd.eu(w:Wd b H (vs.zip xs++L))(e:vs.length=xs.length)(g:H p=none):Wd b (upd H p (.lst vs)) ((.ref p,.lst xs)::L):=by
 obtain⟨A,i,s,j⟩:=w.out;have r:=w.al i g;have m:=w.r6 i;have h:=w.new g (o:=.lst vs);have q:∀a∈A,upd H p (.lst vs) a=H a:=λa f=>upd_ne λe=>r (.inl (e▸f));obtain⟨k,l,rfl,B,t⟩:=OwL.j2 i;have n:∀c,(c∈p::(k++l)\/b.S0 c)->(c∈k++l\/b.S0 c)\/H c=none:=λc z=>by
  rcases z with z|z
  ·rcases aab.mp z with rfl|z
   ·exact .inr g
   ·exact .inl (.inl z)
  ·exact .inl (.inr z)
 refine⟨⟨p::(k++l),Ows.cons (.lst ao (Ows.step (Kp.put (.inr g)) n m (λa f=>q a (aaf _ f)) (OwL.v5 e B))) (Ows.step (Kp.put (.inr g)) n m (λa f=>q a (aag _ f)) t),aaA.mpr ⟨λz=>r (.inl z),s⟩,λa f=>?_⟩,h.fr,h.s0,h.nt⟩;rcases aab.mp f with rfl|f
 ·exact .inl (w.vl g)
 ·exact j a f
theorem Wd.wj(w:Wd b H L)(f:H p=none):Wd b (upd H p (.dK [])) ((.ref p,.dic [] [])::L):=by
 obtain⟨A,h,l,i⟩:=w.out;have k:=w.al h f;have m:=w.r6 h;have j:=w.new f (o:=.dK []);have n:∀c,(c∈p::A\/b.S0 c)->(c∈A\/b.S0 c)\/H c=none:=λc z=>by
  rcases z with z|z
  ·rcases aab.mp z with rfl|z
   ·exact .inr f
   ·exact .inl (.inl z)
  ·exact .inl (.inr z)
 refine⟨⟨p::A,Ows.cons (A:=[p]) (.dic ao rfl rfl .nil) (Ows.step (Kp.put (.inr f)) n m (λa g=>upd_ne λe=>k (.inl (e▸g))) h),aaA.mpr ⟨λz=>k (.inl z),l⟩,λa g=>?_⟩,j.fr,j.s0,j.nt⟩;rcases aab.mp g with rfl|g
 ·exact .inl (w.vl f)
 ·exact i a g
end
def OD.kids:OD->List OD
 |.lst xs=>xs|.tup xs=>xs|.dic _ xs=>xs|.obj _ _ xs=>xs
 |_=>[]
def OD.et(k:Nat)(y:OD):OD->OD
 |.lst xs=>.lst (xs.set k y)|.tup xs=>.tup (xs.set k y)|.dic ks xs=>.dic ks (xs.set k y)|.obj c ns xs=>.obj c ns (xs.set k y)
 |x=>x
def OD.at:List Nat->OD->Option OD
 |[],x=>some x
 |k::ks,x=>match x.kids[k]? with|some z=>OD.at ks z|none=>none
def OD.put(y:OD):List Nat->OD->OD
 |[],_=>y
 |k::ks,x=>match x.kids[k]? with|some z=>OD.et k (OD.put y ks z) x|none=>x
inductive Chd (b:Bs)(H:Hp):V->OD->Nat->V->OD->Prop
 |lst {a vs xs k w z}:H a=some (.lst vs)->vs.length=xs.length->vs[k]?=some w->xs[k]?=some z->Chd b H (.ref a) (.lst xs) k w z
 |tup {a vs xs k w z}:H a=some (.tup vs)->vs.length=xs.length->vs[k]?=some w->xs[k]?=some z->Chd b H (.ref a) (.tup xs) k w z
 |dic {a ws ks xs k w z}:H a=some (.dK ws)->ws.map (·.1)=ks->ws.length=xs.length->(ws[k]?).map (·.2)=some w->xs[k]?=some z->Chd b H (.ref a) (.dic ks xs) k w z
 |obj {a dx c fs ns xs k w z}:H a=some (.ins (aq b.K c) dx fs)->fs.map (·.1)=ns->fs.length=xs.length->(fs[k]?).map (·.2)=some w->xs[k]?=some z->Chd b H (.ref a) (.obj c ns xs) k w z
inductive Chn (b:Bs)(H:Hp):V->OD->List Nat->V->OD->Prop
 |nil {v x}:Chn b H v x [] v x
 |cons {v x k w z ks u y}:Chd b H v x k w z->Chn b H w z ks u y->Chn b H v x (k::ks) u y
section
variable{b:Bs}{S S':Addr->Prop}{H H1 H':Hp}{L L':List (V×OD)}{v u:V}{x y:OD}{d:PyData}{ds:List PyData}{p a:Addr}
def bK{f:Type}(c B e:List f):(c++(B++e)).Perm (B++(c++e)):=by rw[<-aac,<-aac];exact abb.append_right _
theorem bB{c:Type}:∀{l:List c}{i:Nat}{x:c},l[i]?=some x->l.set i x=l
 |[],_,_,e=>by simp at e
 |_::_,0,_,e=>by simp at e;subst e;rfl
 |y::l,i+1,x,e=>by rw[aaK,bB (by simpa using e)]
theorem Ow.kid(h:Ow b S H v x A)(e:x.kids[k]?=some z):∃w B D,Chd b H v x k w z/\Ow b S H w z B/\A.Perm (B++D) /\
  ∀{S':Addr->Prop}{H':Hp}{r:OD}{j:List Addr},Kp S H H'->(∀c,S' c->S c\/H c=none)->(∀a xs,H a=some (.tup xs)->¬ S a)->(∀a∈D,H' a=H a)->Ow b S' H' w r j->∃C,Ow b S' H' v (OD.et k r x) C/\C.Perm (j++D):=by
 cases h with
 |fz _=>cases k<;>cases e
 |pinL _ _=>cases k<;>cases e
 |pinT _ _=>cases k<;>cases e
 |hole _=>cases k<;>cases e
 |@lst a vs xs A e1 t=>obtain⟨w,f,B,g,i,rfl,m,o⟩:=t.zip e;refine⟨w,B,a::(f++g),.lst e1 t.len i e,m,((bK f B g).cons a).trans aav.symm,λ{S' H' r j} k n hs s h=>?_⟩;have:=o h λl h=>Ow.step k n hs (λa q=>s a (aah _ (aaj.mpr (l a q)))) h;rw[bB i]at this;exact⟨_,.lst ((s a aad).trans e1) this,((bK f j g).cons a).trans aav.symm⟩
 |@tup a vs xs A e1 t=>obtain⟨w,f,B,g,i,rfl,m,o⟩:=t.zip e;refine⟨w,B,f++g,.tup e1 t.len i e,m,bK f B g,λ{S' H' r j} k n hs s h=>?_⟩;have:=o h λl h=>Ow.step k n hs (λa q=>s a (aaj.mpr (l a q))) h;rw[bB i]at this;exact⟨_,.tup (k.k _ _ e1 (hs _ _ e1)) this,bK f j g⟩
 |@dic a ws ks vs xs A e1 h5 h6 t=>obtain⟨w,f,B,g,i,rfl,m,o⟩:=t.zip e;refine⟨w,B,a::(f++g),.dic e1 h5 (by rw[<-t.len,<-h6,aaa]) (by rw[<-h6]at i;simpa using i) e,m,((bK f B g).cons a).trans aav.symm,λ{S' H' r j} k n hs s h=>?_⟩;have:=o h λl h=>Ow.step k n hs (λa q=>s a (aah _ (aaj.mpr (l a q)))) h;rw[bB i]at this;exact⟨_,.dic ((s a aad).trans e1) h5 h6 this,((bK f j g).cons a).trans aav.symm⟩
 |@obj a dx c fs ns vs xs A e1 e2 h5 h6 t=>
  obtain⟨w,f,B,g,i,rfl,m,o⟩:=t.zip e;have F:∀B:List Addr,(a::dx::(f++(B++g))).Perm (B++(a::dx::(f++g))):=λB=>by refine(((bK f B g).cons dx).cons a).trans ?_;exact((aav ).symm.cons a).trans aav.symm
  refine⟨w,B,a::dx::(f++g),.obj e1 h5 (by rw[<-t.len,<-h6,aaa]) (by rw[<-h6]at i;simpa using i) e,m,F B,λ{S' H' r j} k n hs s h=>?_⟩;have:=o h λl h=>Ow.step k n hs (λa q=>s a (aah _ (aah _ (aaj.mpr (l a q))))) h;rw[bB i]at this;exact⟨_,.obj ((s a aad).trans e1) ((s dx (aah _ aad)).trans e2) h5 h6 this,F j⟩
theorem Ow.path:∀{ks:List Nat}{v:V}{x:OD}{A:List Addr}{y:OD},Ow b S H v x A->x.at ks=some y->∃u B i,Chn b H v x ks u y/\Ow b S H u y B/\A.Perm (B++i) /\
  ∀{S':Addr->Prop}{H':Hp}{l:OD}{f:List Addr},Kp S H H'->(∀c,S' c->S c\/H c=none)->(∀a xs,H a=some (.tup xs)->¬ S a)->(∀a∈i,H' a=H a)->Ow b S' H' u l f->∃g,Ow b S' H' v (OD.put l ks x) g/\g.Perm (f++i)
 |[],v,x,A,y,h,e=>by simp only[OD.at]at e;cases e;exact⟨v,A,[],.nil,h,by simp,λ{S' H' l f} _ _ _ _ h=>⟨f,h,by simp⟩⟩
 |k::ks,v,x,A,y,h,e=>by
  simp only[OD.at]at e;cases j:x.kids[k]? with
  |none=>rw[j]at e;cases e
  |some z=>rw[j]at e;simp only at e;obtain⟨w,B,i,t,P,D,J⟩:=h.kid j;obtain⟨u,Q,O,q,N,I,o⟩:=Ow.path P e;refine⟨u,Q,O++i,.cons t q,N,D.trans (by rw[<-aac];exact I.append_right _),λ{S' H' l f} k' n hs s h=>?_⟩;obtain⟨U,r,F⟩:=o k' n hs (λa m=>s a (aaf _ m)) h;obtain⟨M,C,T⟩:=J k' n hs (λa m=>s a (aag _ m)) r;refine⟨M,?_,T.trans (by rw[<-aac];exact F.append_right _)⟩;simp only[OD.put,j];exact C
end
end
section
section
variable{b:Bs}{S S':Addr->Prop}{H H1 H':Hp}{L L':List (V×OD)}{v u:V}{x y:OD}{d:PyData}{ds:List PyData}{p a:Addr}{us:List V}{zs:List OD}{ks:List Nat}
theorem Wd.xc(w:Wd b H (us.zip zs++((v,x)::L)))(el:us.length=zs.length)(e:x.at ks=some y):∃(S:Addr->Prop) (u:V) (B C:List Addr),Chn b H v x ks u y/\Ow b S H u y B/\Ows b S H us zs C/\(B++C).Nodup/\(∀c∈B,S c)/\(∀c,H c=none->¬ S c)/\(∀c xs,H c=some (.tup xs)->¬ S c)/\FrzIn b S H L /\
  ∀{H':Hp}{Z:OD}{D:List Addr},(∀c,c ∉ B->H' c=H c)->(∀c∈B,∃o,H' c=some o/\MutO o)->D.Nodup->(∀c∈D,c∈B\/c∈C)->(∀S':Addr->Prop,(∀c,S' c->S c)->(∀c∈B,S' c->c∈D)->Ow b S' H' u Z D)->Wd b H' ((v,OD.put Z ks x)::L):=by
 obtain⟨A0,T,nd,s⟩:=w.out;have O:=w.r6 T;have al:=λ{a}=>w.al T (a:=a);obtain⟨C,A1,rfl,hz,h1⟩:=OwL.j2 T;cases h1 with
 |@cons _ _ A _ _ E r t=>
  obtain⟨u,B,N,ch,hy,pB,go⟩:=Ow.path r e;obtain⟨nC,X,F⟩:=aaB.mp nd;obtain⟨nA,nE,l⟩:=aaB.mp X;have Q:=pB.nodup_iff.mp nA;obtain⟨nB,Y,m⟩:=aaB.mp Q;have f:∀c,c∈A ↔ c∈B\/c∈N:=λc=>by rw[pB.mem_iff,aaj]
  refine⟨_,u,B,C,ch,hy,OwL.v5 el hz,aaB.mpr ⟨nB,nC,λc h J i e=>F J i c (aaf _ ((f c).mpr (.inl h))) e.symm⟩,λc h=>.inl (aag _ (aaf _ ((f c).mpr (.inl h)))),λc e=>al e,O,OwL.v7 t,λ{H' Z D} hk hm nD sD hO=>?_⟩;have P:Kp (λc=>c∈C++(A++E)\/b.S0 c) H H':=⟨λc o e n=>by
    rw[hk c λz=>n (.inl (aag _ (aaf _ ((f c).mpr (.inl z)))))];exact e,λc e=>by
    by_cases z:c∈B
    ·obtain⟨o,q,_⟩:=hm c z;rw[q]at e;cases e
    ·rw[hk c z]at e;exact e⟩
  have j:∀c,(c∈(D++N)++E\/b.S0 c)->(c∈C++(A++E)\/b.S0 c):=λc z=>z.imp (λz=>by
   rcases aaj.mp z with z|z
   ·rcases aaj.mp z with z|z
    ·rcases sD c z with z|z
     ·exact aag _ (aaf _ ((f c).mpr (.inl z)))
     ·exact aaf _ z
    ·exact aag _ (aaf _ ((f c).mpr (.inr z)))
   ·exact aag _ (aag _ z)) id
  obtain⟨M,hx,pA⟩:=go P (λc z=>.inl (j c z)) O (λc h=>hk c λz=>m c z c h rfl) (hO _ j λc h z=>by
   rcases z with z|z
   ·rcases aaj.mp z with z|z
    ·rcases aaj.mp z with z|z
     ·exact z
     ·exact absurd rfl (m c h c z)
    ·exact absurd rfl (l c ((f c).mpr (.inl h)) c z)
   ·exact absurd z (w.dj s c (aag _ (aaf _ ((f c).mpr (.inl h))))))
  have g:∀c,c∈M ↔ c∈D++N:=λc=>pA.mem_iff;have I:∀c xs,H' c=some (.tup xs)->¬ (c∈(D++N)++E\/b.S0 c):=λc xs e z=>by
   by_cases q:c∈B
   ·obtain⟨o,q1,q2⟩:=hm c q;rw[q1]at e;cases e;exact q2
   ·rw[hk c q]at e;exact O c xs e (j c z)
  have W:∀c∈D,∀J∈N,c≠J:=λc h J i e=>by
   subst e;rcases sD c h with z|z
   ·exact m c z c i rfl
   ·exact F c z c (aaf _ ((f c).mpr (.inr i))) rfl
  refine⟨⟨M++E,Ows.cons (Ow.sub I (λc z=>z.imp (λz=>(aaj.mp z).elim (λz=>aaf _ ((g c).mp z)) (aag _)) id) hx) (Ows.step P (λc z=>.inl (j c (z.imp (λz=>(aaj.mp z).elim (λz=>aaf _ ((g c).mp z)) (aag _)) id))) O (λc h=>hk c λz=>l c ((f c).mpr (.inl z)) c h rfl) t),?_,λc h=>?_⟩,?_,w.s0,λc xs e z=>?_⟩
  ·refine aaB.mpr ⟨pA.nodup_iff.mpr (aaB.mpr ⟨nD,Y,W⟩),nE,λc h J i e=>?_⟩;subst e;rcases aaj.mp ((g c).mp h) with z|z
   ·rcases sD c z with z|z
    ·exact l c ((f c).mpr (.inl z)) c i rfl
    ·exact F c z c (aag _ i) rfl
   ·exact l c ((f c).mpr (.inr z)) c i rfl
  ·have:c∈C++(A++E)\/b.S0 c:=j c (.inl ((aaj.mp h).elim (λz=>aaf _ ((g c).mp z)) (aag _)));have U:c∈C++(A++E):=by
    rcases aaj.mp h with z|z
    ·rcases aaj.mp ((g c).mp z) with z|z
     ·rcases sD c z with z|z
      ·exact aag _ (aaf _ ((f c).mpr (.inl z)))
      ·exact aaf _ z
     ·exact aag _ (aaf _ ((f c).mpr (.inr z)))
    ·exact aag _ (aag _ z)
   exact s c U
  ·refine⟨λc o e n=>?_,λc e=>w.fr.n c (P.n c e)⟩;rw[hk c λz=>?_]
   ·exact w.fr.k c o e n
   ·rcases s c (aag _ (aaf _ ((f c).mpr (.inl z)))) with q|q
    ·rw[q]at e;cases e
    ·exact n q
  ·exact I c xs e (.inr z)
theorem Wd.zm(w:Wd b H (us.zip zs++((v,x)::L)))(P:us.length=zs.length)(e:x.at ks=some (.lst xs)):∃a vs,Chn b H v x ks (.ref a) (.lst xs)/\H a=some (.lst vs)/\vs.length=xs.length /\
  ∀f i,(∀(S:Addr->Prop) (H:Hp) (A C:List Addr),(∀c xs,H c=some (.tup xs)->¬ S c)->Ows b S H vs xs A->Ows b S H us zs C->(A++C).Nodup->∃D,Ows b S H f i D/\D.Nodup/\∀c∈D,c∈A\/c∈C)->Wd b (upd H a (.lst f)) ((v,OD.put (.lst i) ks x)::L):=by
 obtain⟨S,u,B,C,O,Y,U,M,X,al,k,Z,T⟩:=w.xc P e;cases Y with
 |@lst a vs _ A e1 t=>
  refine⟨a,vs,O,e1,t.len,λf i W=>?_⟩;obtain⟨j,s⟩:=aaA.mp (show (a::(A++C)).Nodup from M);have l:∀c,c≠a->upd H a (.lst f) c=H c:=λc n=>upd_ne n;have I:Kp S H (upd H a (.lst f)):=Kp.put (.inl (X a (by simp)));have F:∀S':Addr->Prop,(∀c,S' c->S c)->∃D,Ows b S' (upd H a (.lst f)) f i D/\D.Nodup/\∀c∈D,c∈A\/c∈C:=λS' h=>by
   refine W S' _ A C (λc xs e z=>?_) (Ows.step I (λc z=>.inl (h c z)) k (λc g=>l c λe=>j (e▸aaf _ g)) t) (Ows.step I (λc z=>.inl (h c z)) k (λc g=>l c λe=>j (e▸aag _ g)) U) s;by_cases q:c=a
   ·subst q;rw[ao]at e;cases e
   ·rw[upd_ne q]at e;exact k c xs e (h c z)
  obtain⟨D,Q,N,J⟩:=F S λ_ z=>z;have r:∀c xs,upd H a (.lst f) c=some (.tup xs)->¬ S c:=λc xs e z=>by
   by_cases q:c=a
   ·subst q;rw[ao]at e;cases e
   ·rw[upd_ne q]at e;exact k c xs e z
  refine T (λc n=>l c λe=>n (by simp[e])) (λc g=>?_) (aaA.mpr ⟨λz=>j (by rcases J a z with z|z<;>simp[z]),N⟩) (λc g=>?_) λS' h _=>.lst ao (Ows.sub r h Q)
  ·rcases aab.mp g with rfl|g
   ·exact⟨_,ao,trivial⟩
   ·obtain⟨o,q,m⟩:=t.mu c g;exact⟨o,by rw[l c λe=>j (e▸aaf _ g)];exact q,m⟩
  ·rcases aab.mp g with rfl|g
   ·exact .inl (by simp)
   ·exact(J c g).imp (aah _) id
theorem Wd.z4(w:Wd b H (us.zip zs++((v,x)::L)))(Q:us.length=zs.length)(e:x.at ks=some (.dic kk xs)):∃a ws,Chn b H v x ks (.ref a) (.dic kk xs)/\H a=some (.dK ws)/\ws.map (·.1)=kk/\ws.length=xs.length /\
  ∀f h i,f.map (·.1)=h->(∀(S:Addr->Prop) (H:Hp) (A C:List Addr),(∀c xs,H c=some (.tup xs)->¬ S c)->Ows b S H (ws.map (·.2)) xs A->Ows b S H us zs C->(A++C).Nodup->∃D,Ows b S H (f.map (·.2)) i D/\D.Nodup/\∀c∈D,c∈A\/c∈C)->Wd b (upd H a (.dK f)) ((v,OD.put (.dic h i) ks x)::L):=by
 obtain⟨S,u,B,C,P,Z,W,N,Y,al,s,fi,U⟩:=w.xc Q e;cases Z with
 |@dic a ws _ vs _ A e1 h5 h6 t=>
  subst h6;refine⟨a,ws,P,e1,h5,by have:=t.len;rwa [aaa]at this,λf h i I X=>?_⟩;obtain⟨k,F⟩:=aaA.mp (show (a::(A++C)).Nodup from N);have l:∀c,c≠a->upd H a (.dK f) c=H c:=λc n=>upd_ne n;have J:Kp S H (upd H a (.dK f)):=Kp.put (.inl (Y a (by simp)));have j:∀c xs,upd H a (.dK f) c=some (.tup xs)->¬ S c:=λc xs e z=>by
   by_cases q:c=a
   ·subst q;rw[ao]at e;cases e
   ·rw[upd_ne q]at e;exact s c xs e z
  obtain⟨D,T,O,M⟩:=X S _ A C j (Ows.step J (λc z=>.inl z) s (λc g=>l c λe=>k (e▸aaf _ g)) t) (Ows.step J (λc z=>.inl z) s (λc g=>l c λe=>k (e▸aag _ g)) W) F;refine U (λc n=>l c λe=>n (by simp[e])) (λc g=>?_) (aaA.mpr ⟨λz=>k (by rcases M a z with z|z<;>simp[z]),O⟩) (λc g=>?_) λS' r _=>.dic ao I rfl (Ows.sub j r T)
  ·rcases aab.mp g with rfl|g
   ·exact⟨_,ao,trivial⟩
   ·obtain⟨o,q,m⟩:=t.mu c g;exact⟨o,by rw[l c λe=>k (e▸aaf _ g)];exact q,m⟩
  ·rcases aab.mp g with rfl|g
   ·exact .inl (by simp)
   ·exact(M c g).imp (aah _) id
theorem Wd.mutO(w:Wd b H (us.zip zs++((v,x)::L)))(W:us.length=zs.length)(e:x.at ks=some (.obj c ns xs)):∃a dx fs,Chn b H v x ks (.ref a) (.obj c ns xs)/\H a=some (.ins (aq b.K c) dx fs)/\fs.map (·.1)=ns/\fs.length=xs.length /\
  ∀g i j,g.map (·.1)=i->(∀(S:Addr->Prop) (H:Hp) (A C:List Addr),(∀c xs,H c=some (.tup xs)->¬ S c)->Ows b S H (fs.map (·.2)) xs A->Ows b S H us zs C->(A++C).Nodup->∃D,Ows b S H (g.map (·.2)) j D/\D.Nodup/\∀c∈D,c∈A\/c∈C)->Wd b (upd H a (.ins (aq b.K c) dx g)) ((v,OD.put (.obj c i j) ks x)::L):=by
 obtain⟨S,u,B,C,U,hy,Z,Q,hS,al,M,fi,Y⟩:=w.xc W e;cases hy with
 |@obj a dx _ fs _ vs _ A e1 e2 h5 h6 t=>
  subst h6;refine⟨a,dx,fs,U,e1,h5,by have:=t.len;rwa [aaa]at this,λg i j O hf=>?_⟩;obtain⟨F,k⟩:=aaA.mp (show (a::(dx::(A++C))).Nodup from Q);obtain⟨nX,k⟩:=aaA.mp k;have r:∀z,z≠a->upd H a (.ins (aq b.K c) dx g) z=H z:=λz n=>upd_ne n;have P:Kp S H (upd H a (.ins (aq b.K c) dx g)):=Kp.put (.inl (hS a (by simp)));have I:∀z xs,upd H a (.ins (aq b.K c) dx g) z=some (.tup xs)->¬ S z:=λz xs e s=>by
   by_cases q:z=a
   ·subst q;rw[ao]at e;cases e
   ·rw[upd_ne q]at e;exact M z xs e s
  obtain⟨D,X,T,N⟩:=hf S _ A C I (Ows.step P (λc z=>.inl z) M (λc f=>r c λe=>F (e▸aah _ (aaf _ f))) t) (Ows.step P (λc z=>.inl z) M (λc f=>r c λe=>F (e▸aah _ (aag _ f))) Z) k;have l:dx≠a:=λe=>F (e▸aad);refine Y (λz n=>r z λe=>n (by simp[e])) (λz f=>?_) (aaA.mpr ⟨λz=>?_,aaA.mpr ⟨λz=>?_,T⟩⟩) (λz f=>?_) λS' J _=>.obj ao (by rw[r dx l];exact e2) O rfl (Ows.sub I J X)
  ·rcases aab.mp f with rfl|f
   ·exact⟨_,ao,trivial⟩
   ·rcases aab.mp f with rfl|f
    ·exact⟨.own a,by rw[r _ l];exact e2,trivial⟩
    ·obtain⟨o,q,m⟩:=t.mu z f;exact⟨o,by rw[r z λe=>F (e▸aah _ (aaf _ f))];exact q,m⟩
  ·rcases aab.mp z with z|z
   ·exact l z.symm
   ·exact F (aah _ (aaj.mpr (N a z)))
  ·exact nX (aaj.mpr (N dx z))
  ·rcases aab.mp f with rfl|f
   ·exact .inl (by simp)
   ·rcases aab.mp f with rfl|f
    ·exact .inl (by simp)
    ·exact(N z f).imp (λh=>aah _ (aah _ h)) id
theorem Chd.det(h:Chd b H v x k w z)(h':Chd b H v x k w' z'):w=w'/\z=z':=by
 cases h with
 |lst i l g j=>cases h' with|lst c m f e=>rw[i]at c;cases c;rw[g]at f;cases f;rw[j]at e;cases e;exact⟨rfl,rfl⟩
 |tup i l g j=>cases h' with|tup c m f e=>rw[i]at c;cases c;rw[g]at f;cases f;rw[j]at e;cases e;exact⟨rfl,rfl⟩
 |dic i l n g j=>cases h' with|dic c m o f e=>rw[i]at c;cases c;rw[g]at f;cases f;rw[j]at e;cases e;exact⟨rfl,rfl⟩
 |obj i l n g j=>cases h' with|obj c m o f e=>rw[i]at c;cases c;rw[g]at f;cases f;rw[j]at e;cases e;exact⟨rfl,rfl⟩
theorem Chd.same(h:Chd b H v x k w z)(h':Chd b H v (OD.et k y x) k w' y'):w=w':=by
 cases h with
 |lst g i f m=>cases h' with|lst c l e j=>rw[g]at c;cases c;rw[f]at e;cases e;rfl
 |tup g i f m=>cases h' with|tup c l e j=>rw[g]at c;cases c;rw[f]at e;cases e;rfl
 |dic g i n f m=>cases h' with|dic c l o e j=>rw[g]at c;cases c;rw[f]at e;cases e;rfl
 |obj g i n f m=>cases h' with|obj c l o e j=>rw[g]at c;cases c;rw[f]at e;cases e;rfl
def Chd.kid(h:Chd b H v x k w z):x.kids[k]?=some z:=by
 cases h with
 |lst _ _ _ e=>exact e
 |tup _ _ _ e=>exact e
 |dic _ _ _ _ e=>exact e
 |obj _ _ _ _ e=>exact e
def Chd.set(h:Chd b H v x k w z):(OD.et k y x).kids[k]?=some y:=by
 cases h with
 |lst _ _ _ e=>exact aa4 (aai.mp e).1
 |tup _ _ _ e=>exact aa4 (aai.mp e).1
 |dic _ _ _ _ e=>exact aa4 (aai.mp e).1
 |obj _ _ _ _ e=>exact aa4 (aai.mp e).1
theorem Wd.wk(w:Wd b H ((v,x)::L))(e:x.at ks=some y)(P:y.dat=some d):∃u,Chn b H v x ks u y/\Wd b H ((u,.fz d)::(v,OD.put (.fz d) ks x)::L):=by
 obtain⟨S,u,B,C,j,m,hz,X,hS,Y,J,fi,O⟩:=Wd.xc (us:=[]) (zs:=[]) w rfl e;have U:Wd b H ((v,OD.put (.fz d) ks x)::L):=O (λ_ _=>rfl) (λc g=>m.mu c g) aa1 (λc g=>by cases g) λS' h t=>.fz (Ow.frz h J (λa W z=>by cases t a W z) m P);refine⟨u,j,U.add λl T Q D=>?_⟩;obtain⟨A1,n⟩:=T (v,OD.put (.fz d) ks x) (by simp);have q:∀{ks:List Nat}{v u:V}{x:OD}{A:List Addr},Chn b H v x ks u y->Ow b l H v (OD.put (.fz d) ks x) A->Fz b.K l H u d:=λ{ks}=>by
  induction ks with
  |nil=>intro v u x A c o;cases c;simp only[OD.put]at o;cases o with|fz f=>exact f
  |cons k ks s=>
   intro v u x A c o;cases c with
   |cons i F=>have I:=i.kid;simp only[OD.put,I]at o;obtain⟨u',Z,A',M,N,_⟩:=o.kid i.set;have r:=i.same M;subst r;exact s F N
 exact q j n
end
end
section
abbrev DSp:=List OD->(OD->List OD->Prop)->Prop
def Ji(K:Waa)(S:Addr->Prop)(A:List Addr)(vs:List V)(H:Hp)(Q:VK)(x:OD)(ys:List OD):Prop:=∀v b B,Kp (λa=>a∈A) H b ->
 Ows ⟨K,H,S,λa=>a∈A⟩ (λa=>a∈B\/S a) b (v::vs) (x::ys) B->B.Nodup->(∀a∈B,H a=none\/a∈A)->Q v b
def toSp(K:Waa)(sp:DSp):Sp:=λc H Q _=>∃(S:Addr->Prop) (b:List OD) (A:List Addr),(∀a,S a->H a≠none/\a ∉ A)/\(∀a b,H a=some (.tup b)->¬ S a) /\
 Ows ⟨K,H,S,λa=>a∈A⟩ (λa=>a∈A\/S a) H c b A/\A.Nodup/\sp b (Ji K S A c H Q)
def uB(sp:DSp):Prop:=∀a (P R:OD->List OD->Prop),(∀x b,P x b->R x b)->sp a P->sp a R
section
variable{b:Bs}{H H':Hp}{L:List (V×OD)}{v:V}{x:OD}
theorem Wd.call(w:Wd b H (us.zip xs++L))(P:us.length=xs.length)(l:uB sp)
  (h:sp xs λx ys=>us.length=ys.length->∀v H',Wd b H' ((v,x)::(us.zip ys++L))->Q v H'):toSp b.K sp us H Q E:=by
 obtain⟨A0,D,O,f⟩:=w.out;have t:=w.r6 D;have u:=λ{a}=>w.al D (a:=a);obtain⟨A,i,rfl,X,T⟩:=OwL.j2 D;obtain⟨N,I,s⟩:=aaB.mp O;have m:=w.dj f;refine⟨λa=>a∈i\/b.S0 a,xs,A,λa z=>⟨λe=>u e (z.imp (aag _) id),λd=>?_⟩,λa xs e z=>t a xs e (z.imp (aag _) id),?_,N,l _ _ _ (λx ys S v H' B r F Y y=>?_) h⟩
 ·rcases z with z|z
  ·exact s a d a z rfl
  ·exact m a (aaf _ d) z
 ·refine Ows.subB (b2:=⟨b.K,H,λa=>a∈i\/b.S0 a,λa=>a∈A⟩) (b:=b) rfl t (λc z=>?_) (OwL.v5 P X);rcases z with z|z|z
  ·exact .inl (aaf _ z)
  ·exact .inl (aag _ z)
  ·exact .inr z
 have C:us.length=ys.length:=by have:=F.len;simpa using this
 have g:∀a,a ∉ A->H a≠none->H' a=H a:=λa d j=>by
  cases e:H a with
  |none=>exact absurd e j
  |some o=>exact r.k a o e d
 have J:Kp (λa=>a∈A++i\/b.S0 a) H H':=r.weak λc q=>.inl (.inl (aaf _ q));have U:∀c,(c∈B++i\/b.S0 c)->(c∈A++i\/b.S0 c)\/H c=none:=λc z=>by
  rcases z with z|z
  ·rcases aaj.mp z with z|z
   ·exact(y c z).elim .inr λz=>.inl (.inl (aaf _ z))
   ·exact .inl (.inl (aag _ z))
  ·exact .inl (.inr z)
 have p:∀a xs,H' a=some (.tup xs)->¬ (a∈B\/a∈i\/b.S0 a):=λa xs e z=>by
  rcases z with z|z
  ·exact F.tl a z xs e
  ·have d:a ∉ A:=λd=>by
    rcases z with z|z
    ·exact s a d a z rfl
    ·exact m a (aaf _ d) z
   have W:H a≠none:=λe=>u e (z.imp (aag _) id);rw[g a d W]at e;exact t a xs e (z.imp (aag _) id)
 have Z:((v,x)::(us.zip ys++L))=((v::us).zip (x::ys))++L:=rfl;refine S C v H' ?_;rw[Z];refine⟨⟨B++i,OwL.n7 (OwL.rd (Ows.subB (b2:=b) (b:=⟨b.K,H,λa=>a∈i\/b.S0 a,λa=>a∈A⟩) rfl p (λc z=>?_) F)) (Ows.step J U t (λa j=>g a (λd=>s a d a j rfl) λe=>u e (.inl (aag _ j))) T),aaB.mpr ⟨Y,I,λa j c q e=>?_⟩,λa j=>?_⟩,?_,w.s0,λa xs e z=>p a xs e (.inr (.inr z))⟩
 ·rcases z with z|z
  ·exact(aaj.mp z).imp id .inl
  ·exact .inr (.inr z)
 ·subst e;rcases y a j with z|z
  ·exact u z (.inl (aag _ q))
  ·exact s a z a q rfl
 ·rcases aaj.mp j with z|z
  ·rcases y a z with z|z
   ·exact .inl (w.vl z)
   ·exact f a (aaf _ z)
  ·exact f a (aag _ z)
 ·refine⟨λc o e M=>r.k c o (w.fr.k c o e M) λd=>?_,λc e=>w.fr.n c (r.n c e)⟩;rcases f c (aaf _ d) with z|z
  ·rw[z]at e;cases e
  ·exact M z
theorem Wd.pin(w:Wd b H ((v,.fz d)::L))(e:d=if l then .list ds else .tuple ds):∃xs,Wd b H ((v,.pin l xs ds)::L):=by
 obtain⟨j,i,h,c⟩:=w.out;cases i with
 |cons r t=>
  cases r with
  |fz r=>
   cases l with
   |true=>subst e;obtain⟨a,xs,rfl,f,g⟩:=r.rr;exact⟨xs,⟨⟨_,Ows.cons (.pinL f g) t,h,c⟩,w.fr,w.s0,w.nt⟩⟩
   |false=>subst e;obtain⟨a,xs,rfl,f,g⟩:=r.s9;exact⟨xs,⟨⟨_,Ows.cons (.pinT f g) t,h,c⟩,w.fr,w.s0,w.nt⟩⟩
theorem Wd.pinned(w:Wd b H L)(m:(v,OD.pin l xs ds)∈L):∃a,v=.ref a/\xs.length=ds.length/\(if l then SqL b.K H a xs else SqT b.K H a xs)/\Wd b H (xs.zip (ds.map OD.fz)++L):=by
 obtain⟨A,e,i,g⟩:=w.out;obtain⟨B,h⟩:=OwL.mem e m;have q:Wd b H (xs.zip (ds.map OD.fz)++L):=w.adds λS f=>by
  obtain⟨B,h⟩:=f _ m;cases h with
  |pinL _ t=>exact t
  |pinT _ t=>exact t
 cases h with
 |pinL c d=>exact⟨_,rfl,d.length,c.now,q⟩
 |pinT c d=>exact⟨_,rfl,d.length,c.now,q⟩
end
end
section
abbrev DEnv:=List (Option OD)
def flat:St->DEnv->List (V×OD)
 |some v::σ,some x::ρ=>(v,x)::flat σ ρ
 |_::σ,_::ρ=>flat σ ρ
 |_,_=>[]
def Wf:St->DEnv->Prop
 |[],[]=>True
 |_::σ,none::ρ=>Wf σ ρ
 |some _::σ,some _::ρ=>Wf σ ρ
 |_,_=>False
section
variable{σ:St}{ρ:DEnv}{i:Nat}{x y:OD}{v u:V}
def bf:flat (o::σ) (none::ρ)=flat σ ρ:=by cases o<;>rfl
theorem Wf.get:∀{σ:St}{ρ:DEnv}{i:Nat},Wf σ ρ->ρ[i]?=some (some x)->∃v,σ[i]?=some (some v)
 |[],[],_,_,e=>by simp at e
 |[],_::_,_,h,_=>by simp[Wf]at h
 |_::_,[],_,_,e=>by simp at e
 |some v::_,some _::_,0,_,_=>⟨v,rfl⟩
 |none::_,some _::_,_,h,_=>by simp[Wf]at h
 |o::_,none::_,0,_,e=>by simp at e
 |o::σ,none::ρ,i+1,h,e=>by obtain⟨v,q⟩:=Wf.get (ρ:=ρ) h (by simpa using e);exact⟨v,by simpa using q⟩
 |some _::σ,some _::ρ,i+1,h,e=>by obtain⟨v,q⟩:=Wf.get (ρ:=ρ) h (by simpa using e);exact⟨v,by simpa using q⟩
theorem Wf.len:∀{σ:St}{ρ:DEnv},Wf σ ρ->σ.length=ρ.length
 |[],[],_=>rfl
 |[],_::_,h=>by simp[Wf]at h
 |_::_,[],h=>by simp[Wf]at h
 |o::σ,none::ρ,h=>by simp[Wf.len (σ:=σ) h]
 |some _::σ,some _::ρ,h=>by simp[Wf.len (ρ:=ρ) h]
 |none::_,some _::_,h=>by simp[Wf]at h
theorem Wf.off:∀{σ:St}{ρ:DEnv}{i:Nat},Wf σ ρ->Wf σ (ρ.set i none)
 |[],[],_,_=>trivial
 |[],_::_,_,h=>by simp[Wf]at h
 |_::_,[],_,h=>by simp[Wf]at h
 |o::σ,none::ρ,0,h=>h
 |some _::σ,some _::ρ,0,h=>h
 |none::_,some _::_,_,h=>by simp[Wf]at h
 |o::σ,none::ρ,i+1,h=>Wf.off (σ:=σ) h
 |some _::σ,some _::ρ,i+1,h=>Wf.off (i:=i) h
theorem Wf.put:∀{σ:St}{ρ:DEnv}{i:Nat},Wf σ ρ->Wf (σ.set i (some v)) (ρ.set i (some x))
 |[],[],_,_=>trivial
 |[],_::_,_,h=>by simp[Wf]at h
 |_::_,[],_,h=>by simp[Wf]at h
 |o::σ,none::ρ,0,h=>h
 |some _::σ,some _::ρ,0,h=>h
 |none::_,some _::_,_,h=>by simp[Wf]at h
 |o::σ,none::ρ,i+1,h=>Wf.put (σ:=σ) h
 |some _::σ,some _::ρ,i+1,h=>Wf.put (i:=i) h
theorem bx:∀{σ:St}{ρ:DEnv}{i:Nat},ρ[i]?=some (some x)->σ[i]?=some (some v)->(flat σ ρ).Perm ((v,x)::flat σ (ρ.set i none))
 |[],_,_,_,e=>by simp at e
 |_::_,[],_,e,_=>by simp at e
 |some u::σ,some y::ρ,0,e,e'=>by simp at e e';subst e e';exact .refl _
 |none::_,_::_,0,_,e=>by simp at e
 |some _::_,none::_,0,e,_=>by simp at e
 |o::σ,none::ρ,i+1,e,e'=>by rw[aaK,bf,bf];exact bx (by simpa using e) (by simpa using e')
 |some u::σ,some y::ρ,i+1,e,e'=>by rw[aaK];exact((bx (σ:=σ) (by simpa using e) (by simpa using e')).cons _).trans (List.Perm.swap _ _ _)
 |none::σ,some y::ρ,i+1,e,e'=>by rw[aaK];exact bx (by simpa using e) (by simpa using e')
theorem cL:∀{σ:St}{ρ:DEnv}{i:Nat},i<ρ.length->σ.length=ρ.length->(flat (σ.set i (some v)) (ρ.set i (some x))).Perm ((v,x)::flat σ (ρ.set i none))
 |_,[],_,h,_=>by simp at h
 |[],_::_,_,_,h=>by simp at h
 |o::σ,y::ρ,0,_,_=>by rw[aco,aco,aco,bf];exact .refl _
 |o::σ,none::ρ,i+1,h,h'=>by rw[aaK,aaK,aaK,bf,bf];exact cL (by simpa using h) (by simpa using h')
 |none::σ,some _::ρ,i+1,h,h'=>by rw[aaK,aaK,aaK];exact cL (σ:=σ) (by simpa using h) (by simpa using h')
 |some u::σ,some y::ρ,i+1,h,h'=>by rw[aaK,aaK,aaK];exact((cL (by simpa using h) (by simpa using h')).cons _).trans (List.Perm.swap _ _ _)
theorem set_self{a:Type}:∀{l:List a}{i:Nat}{x:a},l[i]?=some x->l.set i x=l
 |[],_,_,e=>by simp at e
 |_::_,0,_,e=>by simp at e;subst e;rfl
 |y::l,i+1,x,e=>by rw[aaK,set_self (by simpa using e)]
end
inductive OR where|val (x:OD)|rf (i:Nat)
def stk:List V->List OR->List (V×OD)
 |v::τ,.val x::θ=>(v,x)::stk τ θ
 |_::τ,.rf _::θ=>stk τ θ
 |_,_=>[]
def Al(σ:St):List V->List OR->Prop
 |[],[]=>True
 |_::τ,.val _::θ=>Al σ τ θ
 |v::τ,.rf i::θ=>σ[i]?=some (some v)/\Al σ τ θ
 |_,_=>False
structure Fr where
 σ:St
 ρ:DEnv
 τ:List V
 θ:List OR
def ff(F:List Fr):List (V×OD):=F.flatMap λf=>stk f.τ f.θ++flat f.σ f.ρ
structure Rel (b:Bs)(F:List Fr)(σ:St)(H:Hp)(ρ:DEnv)(τ:List V)(θ:List OR):Prop where
 wf:Wf σ ρ
 al:Al σ τ θ
 wff:∀f∈F,Wf f.σ f.ρ/\Al f.σ f.τ f.θ
 wd:Wd b H (stk τ θ++(flat σ ρ++ff F))
def ar(ρ:DEnv):OR->Option PyData
 |.val x=>x.dat
 |.rf i=>(ρ[i]?.join).bind OD.dat
section
variable{b:Bs}{F:List Fr}{σ:St}{H H':Hp}{ρ ρ':DEnv}{τ vs:List V}{θ rs:List OR}{v u:V}{r:OR}{x y:OD}{d:PyData}{i:Nat}
def join_some{a:Type}{o:Option (Option a)}{x:a}(h:o.join=some x):o=some (some x):=by
 cases o with
 |none=>cases h
 |some o=>exact congrArg some h
theorem aC:∀{vs τ:List V}{rs θ:List OR},vs.length=rs.length->stk (vs++τ) (rs++θ)=stk vs rs++stk τ θ
 |[],_,[],_,_=>rfl
 |_::vs,τ,.val _::rs,θ,e=>by simp only[aaQ,stk];rw[aC (by simpa using e)]
 |_::vs,τ,.rf _::rs,θ,e=>by simp only[aaQ,stk];exact aC (by simpa using e)
 |[],_,_::_,_,e=>by simp at e
 |_::_,_,[],_,e=>by simp at e
theorem aH:∀{vs τ:List V}{rs θ:List OR},vs.length=rs.length->(Al σ (vs++τ) (rs++θ) ↔ Al σ vs rs/\Al σ τ θ)
 |[],_,[],_,_=>by simp[Al]
 |_::vs,τ,.val _::rs,θ,e=>by simp only[aaQ,Al];exact aH (by simpa using e)
 |_::vs,τ,.rf _::rs,θ,e=>by simp only[aaQ,Al];rw[aH (by simpa using e),and_assoc]
 |[],_,_::_,_,e=>by simp at e
 |_::_,_,[],_,e=>by simp at e
theorem Rel.za(R:Rel b F σ H ρ (vs++v::τ) (rs++r::θ))(e:vs.length=rs.length):Rel b F σ H ρ (v::vs++τ) (r::rs++θ):=by
 obtain⟨f,g⟩:=(aH e).mp R.al;have a:Al σ [v] [r]/\Al σ τ θ:=(aH rfl).mp g;refine⟨R.wf,(aH (vs:=[v]) (rs:=[r]) rfl).mpr ⟨a.1,(aH e).mpr ⟨f,a.2⟩⟩,R.wff,R.wd.perm ?_⟩;refine acJ _ ?_;have h:stk (v::vs++τ) (r::rs++θ)=stk [v] [r]++(stk vs rs++stk τ θ):=by rw[<-aC e,<-aC rfl];rfl
 have c:stk (vs++v::τ) (rs++r::θ)=stk vs rs++(stk [v] [r]++stk τ θ):=by rw[aC e,<-aC (rs:=[r]) rfl];rfl
 rw[h,c,<-aac,<-aac];exact abb.append_right _
theorem Rel.u5(R:Rel b F σ H ρ (v::vs++τ) (r::rs++θ))(e:vs.length=rs.length):Rel b F σ H ρ (vs++v::τ) (rs++r::θ):=by
 obtain⟨g,h⟩:=(aH (vs:=[v]) (rs:=[r]) rfl).mp R.al;obtain⟨a,f⟩:=(aH e).mp h;refine⟨R.wf,(aH e).mpr ⟨a,(aH rfl).mpr ⟨g,f⟩⟩,R.wff,R.wd.perm ?_⟩;refine acJ _ ?_;have j:stk (v::vs++τ) (r::rs++θ)=stk [v] [r]++(stk vs rs++stk τ θ):=by rw[<-aC e,<-aC rfl];rfl
 have c:stk (vs++v::τ) (rs++r::θ)=stk vs rs++(stk [v] [r]++stk τ θ):=by rw[aC e,<-aC (rs:=[r]) rfl];rfl
 rw[j,c,<-aac,<-aac];exact abb.append_right _
def Rel.drop(R:Rel b F σ H ρ (v::τ) (r::θ)):Rel b F σ H ρ τ θ:=by
 cases r with
 |val x=>exact⟨R.wf,R.al,R.wff,R.wd.drop⟩
 |rf i=>exact⟨R.wf,R.al.2,R.wff,R.wd⟩
theorem Rel.drops(R:Rel b F σ H ρ (vs++τ) (rs++θ))(e:vs.length=rs.length):Rel b F σ H ρ τ θ:=by
 induction vs generalizing rs with
 |nil=>cases rs with
  |nil=>exact R
  |cons _ _=>simp at e
 |cons v vs a=>cases rs with
  |nil=>simp at e
  |cons r rs=>exact a (Rel.drop R) (by simpa using e)
def Rel.sc(R:Rel b F σ H ρ τ θ)(h:Sc v d):Rel b F σ H ρ (v::τ) (.val (.fz d)::θ):=⟨R.wf,R.al,R.wff,R.wd.sc h⟩
def Rel.slot(R:Rel b F σ H ρ τ θ)(e:ρ[i]?=some (some x)):∃v,σ[i]?=some (some v)/\Wd b H ((v,x)::(stk τ θ++(flat σ (ρ.set i none)++ff F))):=by obtain⟨v,a⟩:=R.wf.get e;refine⟨v,a,R.wd.perm ?_⟩;refine((bx e a).append_right _ |>.append_left _).trans ?_;exact aav
theorem Rel.wh(c:Wf σ ρ)(g:Al (σ.set i (some v)) τ θ)(a:∀f∈F,Wf f.σ f.ρ/\Al f.σ f.τ f.θ)(e:i<ρ.length)(w:Wd b H ((v,x)::(stk τ θ++(flat σ (ρ.set i none)++ff F)))):Rel b F (σ.set i (some v)) H (ρ.set i (some x)) τ θ:=by refine⟨c.put,g,a,w.perm ?_⟩;refine(aav.symm).trans ?_;exact((cL e c.len).symm.append_right _).append_left _
theorem Rel.back(c:Wf σ ρ)(h:Al σ τ θ)(a:∀f∈F,Wf f.σ f.ρ/\Al f.σ f.τ f.θ)(ev:σ[i]?=some (some v))(w:Wd b H ((v,x)::(stk τ θ++(flat σ (ρ.set i none)++ff F)))):Rel b F σ H (ρ.set i (some x)) τ θ:=by
 have g:i<ρ.length:=by rw[<-c.len];exact(aai.mp ev).1
 have e:σ.set i (some v)=σ:=set_self ev;have:=Rel.wh c (by rw[e];exact h) a g w;rw[e]at this;exact this
theorem Rel.dt(R:Rel b F σ H ρ (v::τ) (r::θ))(e:ar ρ r=some d):Dt b.K H v d:=by
 cases r with
 |val x=>exact R.wd.memDt (by simp[stk]) e
 |rf i=>
  simp only[ar,aaO]at e;obtain⟨x,c,a⟩:=e;obtain⟨u,f,w⟩:=R.drop.slot (join_some c);have:v=u:=by have:=R.al.1;rw[f]at this;cases this;rfl
  subst this;exact w.memDt (aad) a
def Rel.dt2(R:Rel b F σ H ρ (u::v::τ) (a::r::θ))(e:ar ρ r=some d):Dt b.K H v d:=(R.drop).dt e
def Rel.frzS(R:Rel b F σ H ρ τ θ)(e:ρ[i]?=some (some x))(c:x.dat=some d):Rel b F σ H (ρ.set i (some (.fz d))) τ θ:=by obtain⟨v,a,w⟩:=R.slot e;exact Rel.back R.wf R.al R.wff a (w.frz c)
theorem Rel.dupS(R:Rel b F σ H ρ τ θ)(e:ρ[i]?=some (some (.fz d)))(ev:σ[i]?=some (some v)):Rel b F σ H ρ (v::τ) (.val (.fz d)::θ):=by obtain⟨u,a,w⟩:=R.slot e;rw[ev]at a;cases a;have c:=w.dup;have f:ρ.set i (some (.fz d))=ρ:=set_self e;have:=Rel.back (i:=i) (τ:=v::τ) (θ:=.val (.fz d)::θ) R.wf R.al R.wff ev (c.perm (List.Perm.swap _ _ _));rw[f]at this;exact this
def frz1(ρ:DEnv):OR->Option (PyData×DEnv)
 |.val x=>x.dat.map (·,ρ)
 |.rf i=>(ρ[i]?.join).bind λx=>x.dat.map λd=>(d,ρ.set i (some (.fz d)))
theorem Rel.frz1(R:Rel b F σ H ρ (v::τ) (r::θ))(e:frz1 ρ r=some (d,ρ')):Rel b F σ H ρ' (v::τ) (.val (.fz d)::θ):=by
 cases r with
 |val x=>simp only[L2.frz1,aaF]at e;obtain⟨g,a,c⟩:=e;cases c;exact⟨R.wf,R.al,R.wff,R.wd.frz a⟩
 |rf i=>simp only[L2.frz1,aaO,aaF]at e;obtain⟨x,a,g,c,f⟩:=e;cases f;have h:i<ρ.length:=(aai.mp (join_some a)).1;exact(R.drop.frzS (join_some a) c).dupS (by rw[aa4 h]) R.al.1
def frzL(ρ:DEnv):List OR->Option (List PyData×DEnv)
 |[]=>some ([],ρ)
 |r::rs=>(L2.frz1 ρ r).bind λz=>(frzL z.2 rs).map λy=>(z.1::y.1,y.2)
theorem kA:∀{vs:List V}{rs:List OR}{ρ ρ':DEnv}{ds:List PyData}{τ:List V}{θ:List OR},Rel b F σ H ρ (vs++τ) (rs++θ)->vs.length=rs.length->L2.frzL ρ rs=some (ds,ρ')->Rel b F σ H ρ' (vs++τ) (ds.map (λd=>OR.val (.fz d))++θ)/\vs.length=ds.length
 |[],[],_,_,_,_,_,R,_,e=>by simp only[L2.frzL]at e;cases e;exact⟨R,rfl⟩
 |v::vs,r::rs,ρ,ρ',ds,τ,θ,R,e,h=>by
  simp only[L2.frzL,aaO,aaF]at h;obtain⟨⟨d,ρ1⟩,l,⟨j,ρ2⟩,k,g⟩:=h;cases g;have m:Rel b F σ H ρ1 (v::(vs++τ)) (.val (.fz d)::(rs++θ)):=Rel.frz1 R l;have a:vs.length=rs.length:=by simpa using e
  obtain⟨f,c⟩:=kA (Rel.u5 m a) a k;exact⟨Rel.za f (by rw[c,aaa]),by simp[c]⟩
 |[],_::_,_,_,_,_,_,_,e,_=>by simp at e
 |_::_,[],_,_,_,_,_,_,e,_=>by simp at e
end
end
section
abbrev DK:=OR->DEnv->Prop
abbrev DE:=DEnv->DK->Prop
abbrev DT:=DEnv->(Bool->DEnv->Prop)->Prop
abbrev DA:=DEnv->(List OR->DEnv->Prop)->Prop
abbrev DR2:=PyData->PyData->(PyData->Prop)->Prop
abbrev DR1:=PyData->(PyData->Prop)->Prop
abbrev DRn:=List PyData->(PyData->Prop)->Prop
def bA(K:Waa)(i:TE)(h:DE):Prop:=∀(b:Bs) (F:List Fr) (c:St) (H:Hp) (d:DEnv) (f:List V) (g:List OR) (Qd:DK) (Q:VK),b.K=K->Rel b F c H d f g->h d Qd->(∀v e r a,Rel b F c e a (v::f) (r::g)->Qd r a->Q v e)->i c H Q
def SndT(K:Waa)(i:TT)(h:DT):Prop:=∀(b:Bs) (F:List Fr) (c:St) (H:Hp) (d:DEnv) (f:List V) (g:List OR) (Qd:Bool->DEnv->Prop) (Q:Bool->Hp->Prop),b.K=K->Rel b F c H d f g->h d Qd->(∀k e a,Rel b F c e a f g->Qd k a->Q k e)->i c H Q
def uC(K:Waa)(k:TA)(j:DA):Prop:=∀(b:Bs) (F:List Fr) (c:St) (H:Hp) (f:DEnv) (h:List V) (i:List OR) (Qd:List OR->DEnv->Prop) (Q:List V->Hp->Prop),b.K=K->Rel b F c H f h i->j f Qd->(∀d g e a,d.length=e.length->Rel b F c g a (d++h) (e++i)->Qd e a->Q d g)->k c H Q
inductive PDe (X:Cx)(e:Expr)(de:DE):Prop|mk (te:TE) (h:PE X e te) (s:bA X.K te de)
inductive PDt (X:Cx)(e:Expr)(de:DT):Prop|mk (te:TT) (h:PT X e te) (s:SndT X.K te de)
inductive PDw (X:Cx)(e:Expr)(de:DT):Prop|mk (te:TT) (h:PW X e te) (s:SndT X.K te de)
inductive PDa (X:Cx)(es:List Expr)(de:DA):Prop|mk (te:TA) (h:PA X es te) (s:uC X.K te de)
section
variable{X:Cx}{K:Waa}{a b c e:Expr}{es:List Expr}{da db dc:DE}{pos:Pos}{x:Str}{i:Nat}
def dVar(i:Nat):DE:=λf Q=>match f[i]?.join with
 |some (.fz d)=>Q (.val (.fz d)) f
 |some _=>Q (.rf i) f
 |none=>False
theorem yn:bA K (tVar i) (dVar i):=by
 intro b F l H g m n o Q p R h q;unfold dVar at h;cases e:g[i]?.join with
 |none=>rw[e]at h;exact h.elim
 |some x=>
  rw[e]at h;have k:=join_some e;obtain⟨v,j⟩:=R.wf.get k;have f:o (.rf i) g->tVar i l H Q:=λh=>⟨v,j,q v H (.rf i) g ⟨R.wf,show Al l (v::m) (.rf i::n) from ⟨j,R.al⟩,R.wff,R.wd⟩ h⟩
  cases x with
  |fz d=>exact⟨v,j,q v H _ g (R.dupS k j) h⟩
  |_=>exact f h
def B9(h:X.N[i]?=some x) (f:Vis X.env.scope x) (g:(x==("__debug__":Str))=false:=by decide) (d:(x==("__classdict__":Str))=false:=by decide):PDe X (.Name x pos) (dVar i):=⟨_,bP h f g d,yn⟩
def dC(d:PyData):DE:=λf Q=>Q (.val (.fz d)) f
def uD(h:Sc v d):bA K (tC v) (dC d):=λb F j H f k m l Q n R g q=>q v H _ f (R.sc h) g
def pd_int{i j pos}:PDe X (.Constant (.int i) j pos) (dC (.int i)):=⟨_,kf,uD (.int i)⟩
def pd_bl{k j pos}:PDe X (.Constant (.bool k) j pos) (dC (.bool k)):=⟨_,Ei,uD (.bl k)⟩
def pd_str{x j pos}:PDe X (.Constant (.str x) j pos) (dC (.str x)):=⟨_,Bb,uD (.str x)⟩
def Rel.addK{b:Bs}(R:Rel b F σ H ρ τ θ)(h:∀S H,Fz b.K S H v d):Rel b F σ H ρ (v::τ) (.val (.fz d)::θ):=⟨R.wf,R.al,R.wff,R.wd.add λS _ _ _=>h S H⟩
def uE(j:Gl X x) (g:X.mg x=some u) (r:RelV v u) (s:∀S H,Fz X.K S H v d) (f:(x==("__debug__":Str))=false:=by decide):PDe X (.Name x pos) (dC d):=
 ⟨_,xJ j g r f,λb F l H h m o n Q k R f q=>q v H _ h (R.addK (by rw[k];exact s)) f⟩
def SndR2(K:Waa)(h:R2)(r:DR2):Prop:=∀(H:Hp) (v u:V) (f g:PyData) (Qd:PyData->Prop) (Q:VK),Dt K H v f->Dt K H u g->r f g Qd->(∀w d,Sc w d->Qd d->Q w H)->h v u H Q
def yo(r:DR2)(a b:DE):DE:=λk Q=>a k λx g=>b g λy f=>∃h j,ar f x=some h/\ar f y=some j/\r h j λd=>Q (.val (.fz d)) f
theorem n8(D:SndR2 K r2 r)(O:bA K ta da)(n:bA K tb db):bA K (Bw r2 ta tb) (yo r da db):=by intro b F l H t A M S Q f R h q;refine O b F l H t A M _ _ f R h λv m x j P J=>n b F l m j _ _ _ _ f P J λu k y p g I=>?_;obtain⟨L,C,N,B,s⟩:=I;exact D k v u L C _ _ (f▸g.dt2 N) (f▸g.dt B) s λw d o z=>q w k _ _ (g.drop.drop.sc o) z
theorem EV(f:OpR X (binaryOp op) r2)(d:SndR2 X.K r2 r):PDe X a da->PDe X b db->PDe X (.BinOp a op b pos) (yo r da db)
 |⟨_,h1,s1⟩,⟨_,h2,s2⟩=>⟨_,Af f h1 h2,n8 d s1 s2⟩
def dI(C:Int->Int->Prop)(g:Int->Int->PyData):DR2:=λx y Q=>∃i j,x=.int i/\y=.int j/\C i j/\Q (g i j)
def Jj(g:Int->Int->PyData):DR2:=λx y Q=>∃i j,x=.int i/\y=.int j/\Q (g i j)
def yp(h:∀i j,Sc (g i j) (g' i j)):SndR2 K (rI C g) (dI C g'):=by rintro H v u l n m Q d f ⟨i,j,rfl,rfl,c,k⟩ q;cases d;cases f;exact⟨i,j,rfl,rfl,c,q _ _ (h i j) k⟩
def uF(h:∀i j,Sc (g i j) (g' i j)):SndR2 K (xF g) (Jj g'):=by rintro H v u l n m Q d f ⟨i,j,rfl,rfl,k⟩ q;cases d;cases f;exact⟨i,j,rfl,rfl,q _ _ (h i j) k⟩
theorem uG(f:OpR X (compareOp op) r2)(d:SndR2 X.K r2 r)(g:behindInMarks op b=false):PDe X a da->PDe X b db->PDe X (.Compare a [op] [b] pos) (yo r da db)
 |⟨_,h1,s1⟩,⟨_,h2,s2⟩=>⟨_,ph f h1 h2 g,n8 d s1 s2⟩
def yq{g:Int->Int->Bool}:SndR2 K (xF λi j=>.bl (g i j)) (Jj λi j=>.bool (g i j)):=uF λ_ _=>.bl _
noncomputable def lZ:PyData->PyData->Option Bool
 |.int i,.int j=>some (decide (i=j))
 |.bool i,.bool j=>some (decide (i=j))
 |.str i,.str j=>some (decide (i=j))
 |.none,.none=>some true
 |.none,.int _=>some false|.int _,.none=>some false|.none,.str _=>some false|.str _,.none=>some false
 |.int _,.str _=>some false|.str _,.int _=>some false
 |_,_=>none
def pI(f:Dt K H v dx)(d:Dt K H u dy)(e:lZ dx dy=some k):BE v u=true/\decide (v=u)=k:=by cases f<;>cases d<;>cases e<;>refine⟨rfl,?_⟩<;>simp
def dEqS:DR2:=λx y Q=>∃k,lZ x y=some k/\Q (.bool k)
def dNeS:DR2:=λx y Q=>∃k,lZ x y=some k/\Q (.bool (!k))
def sr_eq:SndR2 K rEq dEqS:=by rintro H v u l n m Q d g ⟨k,e,h⟩ q;obtain⟨f,j⟩:=pI d g e;exact⟨f,by rw[j];exact q _ _ (.bl k) h⟩
def sr_ne:SndR2 K rNe dNeS:=by rintro H v u l n m Q d g ⟨k,e,h⟩ q;obtain⟨f,j⟩:=pI d g e;exact⟨f,by rw[j];exact q _ _ (.bl _) h⟩
def dEqD:DR2:=λx y Q=>SeqAt.shaped x=true/\SeqAt.shaped y=true/\Q (.bool (PyData.eqv x y))
def dNeD:DR2:=λx y Q=>SeqAt.shaped x=true/\SeqAt.shaped y=true/\Q (.bool (!PyData.eqv x y))
def Ca:SndR2 K (EK K) dEqD:=λH v u f g m Q d h ⟨l,j,k⟩ q=>⟨f,g,d,h,l,j,q _ _ (.bl _) k⟩
def Cb:SndR2 K (EL K) dNeD:=λH v u f g m Q d h ⟨l,j,k⟩ q=>⟨f,g,d,h,l,j,q _ _ (.bl _) k⟩
noncomputable def EW:PyData->PyData->Option Bool
 |.int i,.int j=>some (decide (i=j))
 |.str i,.str j=>some (decide (i=j))
 |.none,.none=>some true
 |.int _,.str _=>some false|.str _,.int _=>some false|.none,.int _=>some false|.int _,.none=>some false|.none,.str _=>some false|.str _,.none=>some false
 |_,_=>none
def memD(x:PyData):List PyData->Option Bool
 |[]=>some false
 |y::ys=>(EW y x).bind λk=>(memD x ys).map (k||·)
def Cc:PyData->Bool
 |.int _=>true
 |.str _=>true
 |.none=>true
 |_=>false
def JM(d:Bool):DR2:=λx y Q=>∃f k,(y=.list f\/y=.tuple f)/\Cc x=true/\memD x f=some k/\Q (.bool (if d then !k else k))
def yr{x y:PyData}(d:Dt K H v x)(f:Dt K H w y)(e:EW y x=some k):cC w=true/\eqV w v=k:=by cases d<;>cases f<;>cases e<;>exact⟨rfl,rfl⟩
def Cd{x:PyData}(d:Dt K H v x)(f:Cc x=true):cC v=true:=by cases d<;>first|rfl|cases f
theorem pJ{x:PyData}(f:Dt K H v x)(n:Cc x=true)(h:DtAll K H vs ds)(e:memD x ds=some k):cC v=true/\vs.all cC=true/\inV v vs=k:=by
 induction ds generalizing vs k with
 |nil=>cases h;cases e;exact⟨Cd f n,rfl,rfl⟩
 |cons d ds m=>
  cases h with
  |@cons w _ vs _ r t=>
   obtain⟨y,s,e⟩:=aaO.mp e;obtain⟨u,l,rfl⟩:=aaF.mp e;obtain⟨g,q,j⟩:=m t l;obtain⟨o,p⟩:=yr f r s;refine⟨g,?_,?_⟩
   ·show (cC w&&vs.all cC)=true;rw[o,q];rfl
   ·show (eqV w v||inV v vs)=_;rw[p,j]
theorem Ao:SndR2 K (HD K neg) (JM neg):=by
 rintro H v u w s y Q o l ⟨r,k,p,n,j,m⟩ q;rcases p with rfl|rfl
 ·cases l with
  |lst h t=>obtain⟨g,f,d⟩:=pJ o n t j;exact⟨_,_,rfl,.inl h,g,f,by rw[d];exact q _ _ (.bl _) m⟩
 ·cases l with
  |tup h t=>obtain⟨g,f,d⟩:=pJ o n t j;exact⟨_,_,rfl,.inr h,g,f,by rw[d];exact q _ _ (.bl _) m⟩
def n9(r n:DR2)(da db dc:DE):DE:=λo Q=>da o λx j=>db j λy f=>∃m h,ar f x=some m/\ar f y=some h/\r m h λz=>∃k,z=.bool k /\
 if k=true then dc f λw g=>∃h l,ar g y=some h/\ar g w=some l/\n h l λd=>Q (.val (.fz d)) g else Q (.val (.fz (.bool false))) f
theorem jN(Y:SndR2 K r2 r)(o:SndR2 K r2' r')(ha:bA K ta da)(J:bA K tb db)(I:bA K tc dc):bA K (nJ r2 r2' ta tb tc) (n9 r r' da db dc):=by
 intro b F A H S U θ Qd Q g R h q;refine ha b F A H S U θ _ _ g R h λv C x p R1 h1=>J b F A C p _ _ _ _ g R1 h1 λu s y n j Z=>?_;obtain⟨dx,W,e1,T,N⟩:=Z;refine Y s v u dx W _ _ (g▸j.dt2 e1) (g▸j.dt T) N λw d m f=>?_;obtain⟨k,rfl,f⟩:=f;cases m;refine⟨k,rfl,?_⟩;cases k with
 |false=>rw[if_neg aak]at f ⊢;exact q _ s _ _ (j.drop.drop.sc (.bl _)) f
 |true=>rw[if_pos rfl]at f ⊢;refine I b F A s n _ _ _ _ g j f λw B z M t O=>?_;obtain⟨l,P,D,e4,L⟩:=O;exact o B u w l P _ _ (g▸t.dt2 D) (g▸t.dt e4) L λw d m f=>q w B _ _ (t.drop.drop.drop.sc m) f
theorem uH(j:OpR X (compareOp op) r2)(h:SndR2 X.K r2 r)(f:OpR X (compareOp op') r2')(d:SndR2 X.K r2' r')(g:lastMarks [op,op'] [b,c]=false:=by with_unfolding_all rfl):
  PDe X a da->PDe X b db->PDe X c dc->PDe X (.Compare a [op,op'] [b,c] pos) (n9 r r' da db dc)
 |⟨_,h1,s1⟩,⟨_,h2,s2⟩,⟨_,h3,s3⟩=>⟨_,tL j f h1 h2 h3 g,jN h d s1 s2 s3⟩
def JN(r:DR1)(a:DE):DE:=λg Q=>a g λx f=>∃d,ar f x=some d/\r d λz=>Q (.val (.fz z)) f
def HM:DR1:=λx Q=>∃i,x=.int i/\Q (.int (-i))
theorem Ce:PDe X a da->PDe X (.UnaryOp .USub a pos) (JN HM da)
 |⟨_,f,s1⟩=>⟨_,Ag tI f,λb F σ H ρ τ θ m Q k R h q=>s1 b F σ H ρ τ θ _ _ k R h λv j x ρ1 g ⟨d,e,i,l,f⟩=>by
  subst l;cases g.dt e;exact⟨i,rfl,q _ j _ _ (g.drop.sc (.int _)) f⟩⟩
def EX(a b:DE):DE:=λf Q=>a f λx d=>∃k,ar d x=some (.bool k)/\if k=true then b d Q else Q (.val (.fz (.bool false))) d
def HN(a b:DE):DE:=λf Q=>a f λx d=>∃k,ar d x=some (.bool k)/\if k=true then Q (.val (.fz (.bool true))) d else b d Q
def EY(a:DE):DE:=λf Q=>a f λx d=>∃k,ar d x=some (.bool k)/\Q (.val (.fz (.bool (!k)))) d
theorem uI{d}:PDe X a da->PDe X (.BoolOp d [a] pos) da
 |⟨_,h1,s1⟩=>⟨_,Bf h1,s1⟩
theorem Cg:PDe X a da->PDe X (.BoolOp .And (b::es) pos) db->PDe X (.BoolOp .And (a::b::es) pos) (EX da db)
 |⟨_,d,s1⟩,⟨_,h2,s2⟩=>⟨_,Bg d h2,λb F σ H ρ τ θ l Q j R h q=>s1 b F σ H ρ τ θ _ _ j R h λv g x ρ1 f ⟨k,e,d⟩=>by
  cases f.dt e;refine⟨k,rfl,?_⟩;cases k with
  |false=>rw[if_neg aak]at d ⊢;exact q _ g _ _ (f.drop.sc (.bl _)) d
  |true=>rw[if_pos rfl]at d ⊢;exact s2 b F σ g ρ1 τ θ _ _ j f.drop d q⟩
theorem EZ:PDe X a da->PDe X (.BoolOp .Or (b::es) pos) db->PDe X (.BoolOp .Or (a::b::es) pos) (HN da db)
 |⟨_,d,s1⟩,⟨_,h2,s2⟩=>⟨_,Em d h2,λb F σ H ρ τ θ l Q j R h q=>s1 b F σ H ρ τ θ _ _ j R h λv g x ρ1 f ⟨k,e,d⟩=>by
  cases f.dt e;refine⟨k,rfl,?_⟩;cases k with
  |true=>rw[if_pos rfl]at d ⊢;exact q _ g _ _ (f.drop.sc (.bl _)) d
  |false=>rw[if_neg aak]at d ⊢;exact s2 b F σ g ρ1 τ θ _ _ j f.drop d q⟩
theorem Ci:PDe X a da->PDe X (.UnaryOp .Not a pos) (EY da)
 |⟨_,d,s1⟩=>⟨_,Bh d,λb F σ H ρ τ θ l Q j R h q=>s1 b F σ H ρ τ θ _ _ j R h λv g x ρ1 f ⟨k,e,d⟩=>by
  cases f.dt e;exact⟨k,rfl,q _ g _ _ (f.drop.sc (.bl _)) d⟩⟩
def l4(a:DE):DT:=λf Q=>a f λx d=>∃k,ar d x=some (.bool k)/\Q k d
def ir(l:bA K ta da):SndT K (tK ta) (l4 da):=λb F p H m n r s Q g R h q=>l b F p H m n r _ _ g R h λv f x j d ⟨k,e,o⟩=>by cases d.dt e;exact⟨k,rfl,q _ f _ d.drop o⟩
def Cj(l:bA K ta da):SndT K (tB ta) (l4 da):=λb F p H m n r s Q g R h q=>l b F p H m n r _ _ g R h λv f x j d ⟨k,e,o⟩=>by cases d.dt e;exact⟨k,rfl,q _ f _ d.drop o⟩
theorem pK(f:OpR X (compareOp op) r2)(d:SndR2 X.K r2 r)(g:behindInMarks op b=false):PDe X a da->PDe X b db->PDt X (.Compare a [op] [b] pos) (l4 (yo r da db))
 |⟨_,h1,s1⟩,⟨_,h2,s2⟩=>⟨_,pj f h1 h2 g,ir (n8 d s1 s2)⟩
theorem sd(j:OpR X (compareOp op) r2)(h:SndR2 X.K r2 r)(f:OpR X (compareOp op') r2')(d:SndR2 X.K r2' r')(g:lastMarks [op,op'] [b,c]=false:=by with_unfolding_all rfl):
  PDe X a da->PDe X b db->PDe X c dc->PDt X (.Compare a [op,op'] [b,c] pos) (l4 (n9 r r' da db dc))
 |⟨_,h1,s1⟩,⟨_,h2,s2⟩,⟨_,h3,s3⟩=>⟨_,tM j f h1 h2 h3 g,ir (jN h d s1 s2 s3)⟩
def E3(t u:DT):DT:=λf Q=>t f λc d=>if c=true then u d Q else Q false d
def HP(t u:DT):DT:=λf Q=>t f λc d=>if c=true then Q true d else u d Q
def E4(t:DT):DT:=λf Q=>t f λc d=>Q (!c) d
variable{dt du:DT}
theorem PDw.pt:PDw X e dt->PDt X e dt
 |⟨_,h,s⟩=>⟨_,h.pt,s⟩
theorem uJ:PDt X a dt->PDw X (.BoolOp .And [a] pos) dt
 |⟨_,h,s⟩=>⟨_,xM h,s⟩
theorem yt:PDt X a dt->PDw X (.BoolOp .Or [a] pos) dt
 |⟨_,h,s⟩=>⟨_,Bc h,s⟩
theorem yu:PDt X a dt->PDw X (.BoolOp .And (b::es) pos) du->PDw X (.BoolOp .And (a::b::es) pos) (E3 dt du)
 |⟨_,d,s1⟩,⟨_,h2,s2⟩=>⟨_,Bd d h2,λb F σ H ρ τ θ l Q g R h q=>s1 b F σ H ρ τ θ _ _ g R h λk f ρ1 j d=>by
  cases k with
  |false=>rw[if_neg aak]at d ⊢;exact q _ f _ j d
  |true=>rw[if_pos rfl]at d ⊢;exact s2 b F σ f ρ1 τ θ _ _ g j d q⟩
theorem Cm:PDt X a dt->PDw X (.BoolOp .Or (b::es) pos) du->PDw X (.BoolOp .Or (a::b::es) pos) (HP dt du)
 |⟨_,d,s1⟩,⟨_,h2,s2⟩=>⟨_,Ej d h2,λb F σ H ρ τ θ l Q g R h q=>s1 b F σ H ρ τ θ _ _ g R h λk f ρ1 j d=>by
  cases k with
  |true=>rw[if_pos rfl]at d ⊢;exact q _ f _ j d
  |false=>rw[if_neg aak]at d ⊢;exact s2 b F σ f ρ1 τ θ _ _ g j d q⟩
theorem yv:PDt X a dt->PDt X (.UnaryOp .Not a pos) (E4 dt)
 |⟨_,h,s⟩=>⟨_,Be h,λb F σ H ρ τ θ l Q g R h q=>s b F σ H ρ τ θ _ _ g R h λk f ρ1 j d=>q _ f _ j d⟩
def JO(t:DT)(a b:DE):DE:=λf Q=>t f λc d=>if c=true then a d Q else b d Q
theorem E5:PDt X c dt->PDe X a da->PDe X b db->PDe X (.IfExp c a b pos) (JO dt da db)
 |⟨_,h,s⟩,⟨_,d,s1⟩,⟨_,h2,s2⟩=>⟨_,tz h d h2,λb F σ H ρ τ θ l Q f R h q=>s b F σ H ρ τ θ _ _ f R h λk g ρ1 j d=>by
  cases k with
  |true=>rw[if_pos rfl]at d ⊢;exact s1 b F σ g ρ1 τ θ _ _ f j d q
  |false=>rw[if_neg aak]at d ⊢;exact s2 b F σ g ρ1 τ θ _ _ f j d q⟩
def DtAll.emp(h:DtAll K H xs ds):xs.isEmpty=ds.isEmpty:=by cases h<;>rfl
end
end
section
section
variable{X:Cx}{K:Waa}{a b c e:Expr}{es:List Expr}{da db dc:DE}{dt:DA}{pos:Pos}{x:Str}
def dNil:DA:=λd Q=>Q [] d
def E6(a:DE)(t:DA):DA:=λg Q=>a g λx d=>t d λh f=>Q (x::h) f
def pda_nil:PDa X [] dNil:=⟨_,bh,λb F f H d g k i Q j R h q=>q [] H [] d rfl R h⟩
theorem uK(hs:starEach (e::es) X.env=(false,eval e X.env)::starEach es X.env:=by rfl):PDe X e da->PDa X es dt->PDa X (e::es) (E6 da dt)
 |⟨_,i,s1⟩,⟨_,g,s2⟩=>⟨_,aK i g hs,λb F l H s t w z Q j R h q=>s1 b F l H s t w _ _ j R h λv m r f y i=>s2 b F l m f _ _ _ _ j y i λu p o d k n g=>
  q (v::u) p (r::o) d (by simp[k]) (Rel.za n k) g⟩
end
def own1(ρ:DEnv):OR->Option (OD×DEnv)
 |.val x=>some (x,ρ)
 |.rf i=>(frz1 ρ (.rf i)).map λz=>(.fz z.1,z.2)
def mv1(ρ:DEnv):OR->Option (OD×DEnv)
 |.val x=>some (x,ρ)
 |.rf i=>(ρ[i]?.join).map λx=>(x,ρ.set i none)
def mapR(f:DEnv->OR->Option (OD×DEnv))(ρ:DEnv):List OR->Option (List OD×DEnv)
 |[]=>some ([],ρ)
 |r::rs=>(f ρ r).bind λz=>(mapR f z.2 rs).map λy=>(z.1::y.1,y.2)
def se:List OD->Option (List PyData)
 |[]=>some []
 |.fz d::xs=>match se xs with|some ds=>some (d::ds)|none=>none
 |_::_=>none
def mkTup(xs:List OD):OD:=match se xs with
 |some a=>.fz (.tuple a)
 |none=>.tup xs
section
variable{b:Bs}{F:List Fr}{σ:St}{H H':Hp}{ρ ρ':DEnv}{τ vs:List V}{θ rs:List OR}{v u:V}{r:OR}{x y:OD}{d:PyData}{ds:List PyData}{i:Nat}{L:List (V×OD)}{p:Addr}
def Rel.own1(R:Rel b F σ H ρ (v::τ) (r::θ))(e:own1 ρ r=some (x,ρ')):Rel b F σ H ρ' (v::τ) (.val x::θ):=by
 cases r with
 |val x=>simp only[L2.own1]at e;cases e;exact R
 |rf i=>simp only[L2.own1,aaF]at e;obtain⟨⟨d,a⟩,f,c⟩:=e;cases c;exact R.frz1 f
theorem Rel.mv1(R:Rel b F σ H ρ (v::τ) (r::θ))(e:mv1 ρ r=some (x,ρ')):Rel b F σ H ρ' (v::τ) (.val x::θ):=by
 cases r with
 |val x=>simp only[L2.mv1]at e;cases e;exact R
 |rf i=>
  simp only[L2.mv1,aaF]at e;obtain⟨x,c,a⟩:=e;cases a;obtain⟨u,f,w⟩:=R.drop.slot (join_some c);have:v=u:=by have:=R.al.1;rw[f]at this;cases this;rfl
  subst this;exact⟨R.wf.off,R.drop.al,R.wff,w⟩
theorem fc{f:DEnv->OR->Option (OD×DEnv)}(g:∀{ρ ρ':DEnv}{τ:List V}{θ:List OR}{v:V}{r:OR}{x:OD},Rel b F σ H ρ (v::τ) (r::θ)->f ρ r=some (x,ρ')->Rel b F σ H ρ' (v::τ) (.val x::θ)):
  ∀{vs:List V}{rs:List OR}{ρ ρ':DEnv}{xs:List OD}{τ:List V}{θ:List OR},Rel b F σ H ρ (vs++τ) (rs++θ)->vs.length=rs.length->mapR f ρ rs=some (xs,ρ')->Rel b F σ H ρ' (vs++τ) (xs.map OR.val++θ)/\vs.length=xs.length
 |[],[],_,_,_,_,_,R,_,e=>by simp only[mapR]at e;cases e;exact⟨R,rfl⟩
 |v::vs,r::rs,ρ,ρ',ds,τ,θ,R,e,h=>by
  simp only[mapR,aaO,aaF]at h;obtain⟨⟨d,ρ1⟩,n,⟨l,ρ2⟩,m,k⟩:=h;cases k;have o:Rel b F σ H ρ1 (v::(vs++τ)) (.val d::(rs++θ)):=g R n;have a:vs.length=rs.length:=by simpa using e
  obtain⟨j,c⟩:=fc g (Rel.u5 (vs:=vs) (rs:=rs) o a) a m;exact⟨Rel.za j (by rw[c,aaa]),by simp[c]⟩
 |[],_::_,_,_,_,_,_,_,e,_=>by simp at e
 |_::_,[],_,_,_,_,_,_,e,_=>by simp at e
theorem cf:∀{vs:List V}{xs:List OD},vs.length=xs.length->stk vs (xs.map OR.val)=vs.zip xs
 |[],[],_=>rfl
 |_::_,_::_,e=>by simp only[aam,stk,abr];rw[cf (by simpa using e)]
 |[],_::_,e=>by simp at e
 |_::_,[],e=>by simp at e
def Rel.vals{xs:List OD}(R:Rel b F σ H ρ (vs++τ) (xs.map OR.val++θ))(e:vs.length=xs.length):Wd b H (vs.zip xs++(stk τ θ++(flat σ ρ++ff F))):=by have w:=R.wd;rw[aC (by rw[aaa];exact e),cf e,aac]at w;exact w
def Rel.push(R:Rel b F σ H ρ τ θ)(w:Wd b H' ((v,x)::(stk τ θ++(flat σ ρ++ff F)))):Rel b F σ H' ρ (v::τ) (.val x::θ):=⟨R.wf,R.al,R.wff,w⟩
def Wd.below{z:V×OD}{L1 L2:List (V×OD)}(w:Wd b H (z::(L1++L2))):Wd b H (z::L2):=Wd.drops (L1:=L1) (w.perm (aav.symm))
theorem fzL_map{xs:List OD}{ds:List PyData}(e:se xs=some ds):xs=ds.map OD.fz:=by
 induction xs generalizing ds with
 |nil=>cases e;rfl
 |cons x xs a=>
  cases x with
  |fz d=>
   rw[se]at e;cases h:se xs with
   |none=>rw[h]at e;cases e
   |some ds=>rw[h]at e;cases e;rw[a h];rfl
  |_=>cases e
theorem fzL_of:∀(ds:List PyData),se (ds.map OD.fz)=some ds
 |[]=>rfl
 |d::ds=>by simp only[aam,se,fzL_of ds]
theorem l5{xs:List OD}(w:Wd b H (vs.zip xs++L))(c:vs.length=xs.length)(a:H p=none):Wd b (upd H p (.tup vs)) ((.ref p,mkTup xs)::L):=by
 unfold mkTup;cases h:se xs with
 |some ds=>have e:=fzL_map h;subst e;refine Wd.below (L1:=vs.zip (ds.map OD.fz)) (w.kq (λS f=>f.all (by simpa using c) λz g=>aaf _ g) a)
 |none=>exact w.zr c a
end
section
variable{X:Cx}{K:Waa}{a b c e:Expr}{es:List Expr}{da db dc:DE}{dt:DA}{pos:Pos}{x:Str}
def HQ(f:DEnv->OR->Option (OD×DEnv))(t:DA):DE:=λj Q=>t j λi g=>∃h d,mapR f g i=some (h,d)/\i.length<=1000000/\Q (.val (mkTup h)) d
def HR(f:DEnv->OR->Option (OD×DEnv))(t:DA):DE:=λj Q=>t j λi g=>∃h d,mapR f g i=some (h,d)/\i.length<=1000000/\Q (.val (.lst h)) d
structure Hand (f:DEnv->OR->Option (OD×DEnv)):Prop where
 ok:∀{b:Bs}{F:List Fr}{σ:St}{H:Hp}{ρ ρ':DEnv}{τ:List V}{θ:List OR}{v:V}{r:OR}{x:OD},Rel b F σ H ρ (v::τ) (r::θ)->f ρ r=some (x,ρ')->Rel b F σ H ρ' (v::τ) (.val x::θ)
def E7:Hand own1:=⟨Rel.own1⟩
variable{f:DEnv->OR->Option (OD×DEnv)}
theorem Cn{l}(o:Hand f):PDa X es dt->PDe X (.Tuple es l pos) (HQ f dt)
 |⟨_,g,s1⟩=>⟨_,nN g,λb F σ H ρ τ θ u Q m R h q=>s1 b F σ H ρ τ θ _ _ m R h λvs t rs ρ1 j s ⟨xs,ρ2,r,k,g⟩=>⟨nZ (by rw[j];exact k),λp n=>by
  obtain⟨i,d⟩:=fc o.ok s j r;exact q _ _ _ _ ((i.drops (by rw[aaa];exact d)).push (l5 (i.vals d) d n)) g⟩⟩
theorem Cp(n:Hand f):PDa X es dt->PDe X (.List es pos) (HR f dt)
 |⟨_,g,s1⟩=>⟨_,BL g,λb F σ H ρ τ θ t Q l R h q=>s1 b F σ H ρ τ θ _ _ l R h λvs s rs ρ1 j r ⟨xs,ρ2,o,k,g⟩=>⟨nZ (by rw[j];exact k),λp m=>by
  obtain⟨i,d⟩:=fc n.ok r j o;exact q _ _ _ _ ((i.drops (by rw[aaa];exact d)).push ((i.vals d).eu d m)) g⟩⟩
end
def c9(ρ:DEnv):OR->Option OD
 |.val x=>some x
 |.rf i=>ρ[i]?.join
def listOf:OD->Option (List PyData)
 |.fz (.list ds)=>some ds
 |.lst xs=>se xs
 |_=>none
def tupOf:OD->Option (List PyData)
 |.fz (.tuple ds)=>some ds
 |_=>none
def Jk(ρ:DEnv)(r:OR):Option (List PyData):=(c9 ρ r).bind listOf
def Cq(ρ:DEnv)(r:OR):Option (List PyData):=(c9 ρ r).bind tupOf
def itemO:OD->Int->Option OD
 |.fz (.list ds),i=>match atI ds i with|some d=>some (.fz d)|none=>none
 |.fz (.tuple ds),i=>match atI ds i with|some d=>some (.fz d)|none=>none
 |.lst xs,i=>atI xs i
 |.tup xs,i=>atI xs i
 |_,_=>none
noncomputable def itemS:OD->Int->Option (PyData×OD)
 |.lst xs,i=>match ixN xs.length i with
  |some k=>match xs[k]? with
   |some c=>match c.dat with|some d=>some (d,.lst (xs.set k (.fz d)))|none=>none
   |none=>none
  |none=>none
 |.tup xs,i=>match ixN xs.length i with
  |some k=>match xs[k]? with
   |some c=>match c.dat with|some d=>some (d,.tup (xs.set k (.fz d)))|none=>none
   |none=>none
  |none=>none
 |_,_=>none
noncomputable def bC(ρ:DEnv)(r:OR)(i:Int):Option (OD×DEnv):=match r with
 |.val x=>match itemO x i with|some y=>some (y,ρ)|none=>none
 |.rf j=>match ρ[j]?.join with
  |some x=>match itemS x i with|some (d,y)=>some (.fz d,ρ.set j (some y))|none=>none
  |none=>none
section
variable{b:Bs}{F:List Fr}{σ:St}{H H':Hp}{ρ ρ':DEnv}{τ vs:List V}{θ rs:List OR}{v u:V}{r r':OR}{x y:OD}{d:PyData}{ds:List PyData}{i:Nat}{L:List (V×OD)}{p:Addr}
theorem iu{g c:Type}{xs:List g}{ys:List c}{i:Int}{y:c}(f:xs.length=ys.length)(h:atI ys i=some y):∃k x,ixN xs.length i=some k/\ys[k]?=some y/\xs[k]?=some x/\atI xs i=some x:=by unfold atI at h ⊢;rw[<-f]at h;simp only[aaO]at h;obtain⟨k,e,a⟩:=h;have j:k<ys.length:=(aai.mp a).1;refine⟨k,xs[k]'(by omega),e,a,aan _,?_⟩;rw[e];exact aan _
def cD{c a:Type}{xs:List c}{ys:List a}{k:Nat}{x:c}{y:a}(f:xs[k]?=some x)(e:ys[k]?=some y):(x,y)∈xs.zip ys:=by rw[aaM];exact⟨k,by rw[abk];exact⟨f,e⟩⟩
def Wd.pick{z:V×OD}{Z:List (V×OD)}(w:Wd b H (Z++L))(m:z∈Z):Wd b H (z::L):=by obtain⟨c,a,rfl⟩:=List.append_of_mem m;refine Wd.below (L1:=c++a) (w.perm ?_);rw[aac,aac];exact aav
def Cr{n k:Nat}{i:Int}(h:ixN n i=some k):k<n:=by
 unfold ixN at h;split at h
 ·split at h
  ·cases h;omega
  ·cases h
 ·split at h
  ·cases h;omega
  ·cases h
theorem Wd.tr{k:Nat}{z:OD}(w:Wd b H ((v,x)::L))(e:x.kids[k]?=some z):∃u,Chd b H v x k u z/\Wd b H ((u,z)::L):=by
 obtain⟨I,m,_,_⟩:=w.out;cases m with
 |cons r t=>obtain⟨u,B,D,c,_⟩:=r.kid e;refine⟨u,c,Wd.puts (L1:=[(v,x)]) (L2:=[(u,z)]) w λS A h j q J n=>?_⟩;obtain⟨C,B,D,o,l,f,_⟩:=(OwL.one h).kid e;have s:C=u:=(Chd.det o c).1;subst s;have a:∀c∈B,c∈A:=λc g=>f.mem_iff.mpr (aaf _ g);exact⟨B,OwL.of1 (Ow.sub n (λc z=>z.elim (·.1) λz=>q c (a c z)) l),(aaB.mp (f.nodup_iff.mp j)).1,a⟩
theorem Wd.itemF{i:Int}{l:Bool}(w:Wd b H ((v,.fz (if l then .list ds else .tuple ds))::L))(e:atI ds i=some d):∃p vs u,v=.ref p/\(SqL b.K H p vs\/SqT b.K H p vs)/\atI vs i=some u/\Wd b H ((u,.fz d)::L):=by
 obtain⟨c,j⟩:=Wd.pin w rfl;obtain⟨a,rfl,f,h,n⟩:=j.pinned aad;obtain⟨k,u,_,m,g,o⟩:=iu f e;refine⟨a,c,u,rfl,?_,o,Wd.below (L1:=[(V.ref a,OD.pin l c ds)]) (n.pick (cD g (by rw[aas,m];rfl)))⟩;cases l with
 |true=>exact .inl h
 |false=>exact .inr h
theorem Wd.itemO{i:Int}(w:Wd b H ((v,x)::L))(e:itemO x i=some y):∃p vs u,v=.ref p/\(SqL b.K H p vs\/SqT b.K H p vs)/\atI vs i=some u/\Wd b H ((u,y)::L):=by
 cases x with
 |fz d=>
  cases d with
  |list ds=>
   simp only[L2.itemO]at e;cases h:atI ds i with
   |none=>rw[h]at e;cases e
   |some d=>rw[h]at e;cases e;exact Wd.itemF (l:=true) w h
  |tuple ds=>
   simp only[L2.itemO]at e;cases h:atI ds i with
   |none=>rw[h]at e;cases e
   |some d=>rw[h]at e;cases e;exact Wd.itemF (l:=false) w h
  |_=>simp[L2.itemO]at e
 |lst xs=>
  simp only[L2.itemO]at e;obtain⟨k,_,n,g,_⟩:=iu (xs:=xs) rfl e;obtain⟨u,c,m⟩:=w.tr (k:=k) (z:=y) g;cases c with
  |lst f a j o=>exact⟨_,_,u,rfl,.inl (SqL.of f),by unfold atI;rw[a,n];exact j,m⟩
 |tup xs=>
  simp only[L2.itemO]at e;obtain⟨k,_,n,g,_⟩:=iu (xs:=xs) rfl e;obtain⟨u,c,m⟩:=w.tr (k:=k) (z:=y) g;cases c with
  |tup f a j o=>exact⟨_,_,u,rfl,.inr (SqT.of f),by unfold atI;rw[a,n];exact j,m⟩
 |dic _ _=>simp[L2.itemO]at e
 |obj _ _ _=>simp[L2.itemO]at e
 |pin _ _ _=>simp[L2.itemO]at e
 |hole _=>simp[L2.itemO]at e
theorem Wd.itemS{i:Int}(w:Wd b H ((v,x)::L))(e:itemS x i=some (d,y)):∃p vs u,v=.ref p/\(SqL b.K H p vs\/SqT b.K H p vs)/\atI vs i=some u/\Wd b H ((u,.fz d)::(v,y)::L):=by
 cases x with
 |fz d=>simp[L2.itemS]at e
 |lst t=>
  simp only[L2.itemS]at e;split at e
  ·rename_i k q;split at e
   ·rename_i c a;split at e
    ·rename_i z g;cases e;obtain⟨u,h,f⟩:=w.wk (ks:=[k]) (y:=c) (d:=d) (by simp[OD.at,OD.kids,a]) g;cases h with
     |cons m l=>
      cases l;cases m with
      |lst n j o s=>simp only[OD.put,OD.kids,a,OD.et]at f;exact⟨_,_,u,rfl,.inl (SqL.of n),by unfold atI;rw[j,q];exact o,f⟩
    ·cases e
   ·cases e
  ·cases e
 |tup t=>
  simp only[L2.itemS]at e;split at e
  ·rename_i k q;split at e
   ·rename_i c a;split at e
    ·rename_i z g;cases e;obtain⟨u,h,f⟩:=w.wk (ks:=[k]) (y:=c) (d:=d) (by simp[OD.at,OD.kids,a]) g;cases h with
     |cons m l=>
      cases l;cases m with
      |tup n j o s=>simp only[OD.put,OD.kids,a,OD.et]at f;exact⟨_,_,u,rfl,.inr (SqT.of n),by unfold atI;rw[j,q];exact o,f⟩
    ·cases e
   ·cases e
  ·cases e
 |dic _ _=>simp[L2.itemS]at e
 |obj _ _ _=>simp[L2.itemS]at e
 |pin _ _ _=>simp[L2.itemS]at e
 |hole _=>simp[L2.itemS]at e
end
section
variable{X:Cx}{K:Waa}{a b c e:Expr}{es:List Expr}{da db dc:DE}{dt:DA}{pos:Pos}{x:Str}
def JP(a b:DE):DE:=λh Q=>a h λx g=>b g λy d=>∃i z f,ar d y=some (.int i)/\bC d x i=some (z,f)/\Q (.val z) f
theorem E8(hs:PlainIx b):PDe X a da->PDe X b db->PDe X (.Subscript a b pos) (JP da db)
 |⟨_,A,s1⟩,⟨_,r,s2⟩=>⟨_,tU nP A r hs,λb F σ H ρ τ θ T Q o R h q=>s1 b F σ H ρ τ θ _ _ o R h λv J x ρ1 S A=>s2 b F σ J ρ1 _ _ _ _ o S A λu s y ρ2 B ⟨i,z,ρ3,P,f,r⟩=>by
  have M:=B.dt P;cases M;have k:=B.drop;cases x with
  |val x=>
   simp only[bC]at f;cases g:itemO x i with
   |none=>rw[g]at f;cases f
   |some D=>rw[g]at f;cases f;obtain⟨p,m,u,rfl,hs,n,w⟩:=Wd.itemO k.wd g;have l:=q u s _ _ (k.drop.push w) r;rw[o]at hs;exact hs.elim (λhs=>.inl ⟨p,m,i,u,rfl,rfl,hs,n,l⟩) λhs=>.inr (.inl ⟨p,m,i,u,rfl,rfl,hs,n,l⟩)
  |rf j=>
   simp only[bC]at f;cases g:ρ2[j]?.join with
   |none=>rw[g]at f;cases f
   |some x=>
    rw[g]at f;simp only at f;cases t:itemS x i with
    |none=>rw[t]at f;cases f
    |some D=>
     obtain⟨d,L⟩:=D;rw[t]at f;cases f;obtain⟨I,C,w⟩:=k.drop.slot (join_some g);have:v=I:=by have:=k.al.1;rw[C]at this;cases this;rfl
     subst this;obtain⟨p,m,u,rfl,hs,n,O⟩:=Wd.itemS w t;have N:Rel b F σ s (ρ2.set j (some L)) (u::τ) (.val (.fz d)::θ):=Rel.back (τ:=u::τ) (θ:=.val (.fz d)::θ) k.wf k.drop.al k.wff C (O.perm (List.Perm.swap _ _ _));have l:=q u s _ _ N r;rw[o]at hs;exact hs.elim (λhs=>.inl ⟨p,m,i,u,rfl,rfl,hs,n,l⟩) λhs=>.inr (.inl ⟨p,m,i,u,rfl,rfl,hs,n,l⟩)⟩
variable{k:Nat}{f:Addr}{fd:FuncData}{ps:List Str}{sp:DSp}{p:Pos}
def fX(ρ:DEnv):List OR->Option (List PyData)
 |[]=>some []
 |r::rs=>(ar ρ r).bind λd=>(fX ρ rs).map (d::·)
theorem Rel.dtL{b:Bs}{F:List Fr}{σ:St}{H:Hp}{ρ:DEnv}:∀{vs:List V}{rs:List OR}{τ:List V}{θ:List OR}{ds:List PyData},Rel b F σ H ρ (vs++τ) (rs++θ)->vs.length=rs.length->fX ρ rs=some ds->DtAll b.K H vs ds
 |[],[],_,_,_,_,_,e=>by simp only[fX]at e;cases e;exact .nil
 |v::vs,r::rs,τ,θ,ds,R,el,e=>by simp only[fX,aaO,aaF]at e;obtain⟨d,i,h,g,rfl⟩:=e;exact .cons (Rel.dt R i) (Rel.dtL (Rel.drop R) (by simpa using el) g)
 |[],_::_,_,_,_,_,e,_=>by simp at e
 |_::_,[],_,_,_,_,e,_=>by simp at e
def SndCB(K:Waa)(h:List V->Hp->VK->Prop)(r:DRn):Prop:=∀(H:Hp) (vs:List V) (g:List PyData) (Qd:PyData->Prop) (Q:VK),DtAll K H vs g->r g Qd->(∀w d,Sc w d->Qd d->Q w H)->h vs H Q
def GY(r:DRn)(t:DA):DE:=λi Q=>t i λj g=>∃h,fX g j=some h/\r h λd=>Q (.val (.fz d)) g
def uL{i:List V->Hp->VK->Prop}{r:DRn}{m:TA}(A:SndCB K i r)(u:uC K m dt):bA K (HB i m) (GY r dt):=λb F C H v z I M Q j R h q=>u b F C H v z I _ _ j R h λD g L t l n ⟨o,J,B⟩=>
 A g D o _ _ (j▸n.dtL l J) B λw d s y=>q w g _ _ ((n.drops l).sc s) y
theorem fe{h:List V->Hp->VK->Prop}{r:DRn}{i:String} (m:bW X (.builtin i) h) (o:SndCB X.K h r) (n:Gl X x) (l:X.mg x=none) (j:bootBuiltins x=some (.builtin i)) (s:x≠"__name__":=by decide) (g:(x==("__debug__":Str))=false:=by decide)
  (q:starEach (e::es) X.env=(false,eval e X.env)::starEach es X.env:=by rfl) (d:(backTo pos (starEach es X.env)).any (·.1)=false:=by rfl):PDa X (e::es) dt->PDe X (.Call (.Name x p) (e::es) [] pos) (GY r dt)
 |⟨_,h1,s1⟩=>⟨_,cb m n l j h1 s g q d,uL o s1⟩
theorem uM{h:List V->Hp->VK->Prop}{r:DRn}{i:String} (m:bW X (.type i) h) (o:SndCB X.K h r) (n:Gl X x) (l:X.mg x=none) (j:bootBuiltins x=some (.type i)) (s:x≠"__name__":=by decide) (g:(x==("__debug__":Str))=false:=by decide)
  (q:starEach (e::es) X.env=(false,eval e X.env)::starEach es X.env:=by rfl) (d:(backTo pos (starEach es X.env)).any (·.1)=false:=by rfl):PDa X (e::es) dt->PDe X (.Call (.Name x p) (e::es) [] pos) (GY r dt)
 |⟨_,h1,s1⟩=>⟨_,cK m n l j h1 s g q d,uL o s1⟩
def kB:PyData->Option Nat
 |.list ds=>some ds.length
 |.tuple ds=>some ds.length
 |_=>none
def dLen:DRn:=λg Q=>∃d n,g=[d]/\kB d=some n/\Q (.int n)
theorem sc_len:SndCB K (λxs H Q=>∃x n,xs=[x]/\EB K x H n/\Q (.int n) H) dLen:=by
 rintro H l j m Q g ⟨d,n,rfl,e,i⟩ q;cases g with
 |cons h t=>
  cases t;refine⟨_,n,rfl,?_,q _ _ (.int _) i⟩;cases h with
  |lst s t=>simp only[kB]at e;cases e;exact .inl ⟨_,s,t.length.symm⟩
  |tup s t=>simp only[kB]at e;cases e;exact .inr ⟨_,s,t.length.symm⟩
  |_=>simp[kB]at e
def dAbs:DRn:=λd Q=>∃i,d=[.int i]/\Q (.int (if i<0 then -i else i))
def sc_abs:SndCB K (λxs H Q=>∃i,xs=[.int i]/\Q (.int (if i<0 then -i else i)) H) dAbs:=by rintro H l j m Q d ⟨i,rfl,g⟩ q;cases d with|cons h t=>cases t;cases h;exact⟨i,rfl,q _ _ (.int _) g⟩
def dMin:DRn:=λd Q=>∃i j,d=[.int i,.int j]/\Q (.int (if j<i then j else i))
def sc_min:SndCB K (λxs H Q=>∃i j,xs=[.int i,.int j]/\Q (.int (if j<i then j else i)) H) dMin:=by rintro H m n o Q d ⟨i,j,rfl,l⟩ q;cases d with|cons h t=>cases t with|cons g t=>cases t;cases h;cases g;exact⟨i,j,rfl,q _ _ (.int _) l⟩
def toInt:PyData->Option Int
 |.int i=>some i
 |.bool k=>some (if k then 1 else 0)
 |_=>none
def dInt:DRn:=λg Q=>∃d i,g=[d]/\toInt d=some i/\Q (.int i)
theorem sc_int:SndCB K (λxs H Q=>(∃i,xs=[.int i]/\Q (.int i) H)\/∃k,xs=[.bl k]/\Q (.int (if k then 1 else 0)) H) dInt:=by
 rintro H n m o Q l ⟨d,i,rfl,e,g⟩ q;cases l with
 |cons h t=>
  cases t;cases h with
  |int j=>simp only[toInt]at e;cases e;exact .inl ⟨_,rfl,q _ _ (.int _) g⟩
  |bl k=>simp only[toInt]at e;cases e;exact .inr ⟨_,rfl,q _ _ (.int _) g⟩
  |_=>simp[toInt]at e
def allB:List PyData->Option (List Bool)
 |[]=>some []
 |.bool k::ds=>(allB ds).map (k::·)
 |_::_=>none
theorem l6:∀{ds:List PyData}{d:List Bool},allB ds=some d->ds=d.map PyData.bool
 |[],_,e=>by simp only[allB]at e;cases e;rfl
 |.bool k::ds,_,e=>by simp only[allB,aaF]at e;obtain⟨d,g,rfl⟩:=e;rw[l6 g];rfl
 |.none::_,_,e=>by simp[allB]at e
 |.int _::_,_,e=>by simp[allB]at e
 |.str _::_,_,e=>by simp[allB]at e
 |.list _::_,_,e=>by simp[allB]at e
 |.tuple _::_,_,e=>by simp[allB]at e
 |.dict _::_,_,e=>by simp[allB]at e
def DtAll.bls{H:Hp}{vs:List V}{d:List Bool}(h:DtAll K H vs (d.map PyData.bool)):vs=d.map V.bl:=by
 induction d generalizing vs with
 |nil=>cases h;rfl
 |cons n i g=>cases h with|cons r t=>cases r;rw[aam,g t]
def dAll:DRn:=λg Q=>∃es d,g=[.list es]/\allB es=some d/\Q (.bool (d.all id))
theorem sc_all:SndCB K (λxs H Q=>∃(p:Addr) (d:List Bool),xs=[.ref p]/\SqL K H p (d.map V.bl)/\Q (.bl (d.all id)) H) dAll:=by
 rintro H l j m Q g ⟨es,d,rfl,e,i⟩ q;have:=l6 e;subst this;cases g with
 |cons h t=>
  cases t;cases h with
  |lst s t=>rw[t.bls]at s;exact⟨_,d,rfl,s,q _ _ (.bl _) i⟩
end
end
section
def seqOf(x:OD):Option (List PyData):=match listOf x with
 |some a=>some a
 |none=>tupOf x
section
variable{b:Bs}{F:List Fr}{σ:St}{H H':Hp}{ρ ρ':DEnv}{τ vs:List V}{θ rs:List OR}{v u:V}{r r':OR}{x y:OD}{d:PyData}{ds:List PyData}{i:Nat}{L:List (V×OD)}{p:Addr}
def Rel.mem(R:Rel b F σ H ρ (v::τ) (r::θ))(e:c9 ρ r=some x):(v,x)∈stk (v::τ) (r::θ)++(flat σ ρ++ff F):=by
 cases r with
 |val y=>simp only[c9]at e;cases e;simp[stk]
 |rf i=>simp only[c9]at e;refine aag _ (aaf _ ?_);exact(bx (join_some e) R.al.1).mem_iff.mpr aad
def Rel.mem1(R:Rel b F σ H ρ (u::v::τ) (r'::r::θ))(e:c9 ρ r=some x):(v,x)∈stk (u::v::τ) (r'::r::θ)++(flat σ ρ++ff F):=by
 have h:=R.drop.mem e;cases r' with
 |val y=>simp only[stk];exact aah _ h
 |rf i=>exact h
def Rel.il(R:Rel b F σ H ρ (u::v::τ) (r'::r::θ)):Rel b F σ H ρ (u::τ) (r'::θ):=(Rel.za (vs:=[u]) (rs:=[r']) R rfl).drop
def Ows.fzs(h:Ows b S H vs (ds.map OD.fz) A):FzA b.K S H vs ds:=by
 induction ds generalizing vs A with
 |nil=>cases h;exact .nil
 |cons d ds a=>cases h with|cons r t=>cases r with|fz f=>exact .cons f (a t)
theorem Wd.exp(w:Wd b H L)(e:OwL b (λa=>a∈A\/b.S0 a) H L A)(f:A.Nodup)(c:∀a∈A,b.H0 a=none\/b.C a)(h:FzA b.K (λa=>a∈A\/b.S0 a) H vs ds):Wd b H (vs.zip (ds.map OD.fz)++L):=by
 have q:∀{vs:List V}{ds:List PyData},FzA b.K (λa=>a∈A\/b.S0 a) H vs ds->OwL b (λa=>a∈A\/b.S0 a) H (vs.zip (ds.map OD.fz)) []:=by
  intro vs;induction vs with
  |nil=>intro ds h;cases h;exact .nil
  |cons v vs g=>intro ds h;cases h with|cons r t=>exact Ows.cons (.fz r) (g t)
 exact⟨⟨A,OwL.n7 (q h) e,f,c⟩,w.fr,w.s0,w.nt⟩
theorem Wd.ay(w:Wd b H L)(m:(v,x)∈L)(e:listOf x=some ds):∃a vs,v=.ref a/\vs.length=ds.length/\SqL b.K H a vs/\Wd b H (vs.zip (ds.map OD.fz)++L):=by
 obtain⟨A,j,k,c⟩:=w.out;obtain⟨B,h⟩:=OwL.mem j m;cases h with
 |@fz _ d f=>
  cases d with
  |list o=>simp only[listOf]at e;cases e;obtain⟨a,vs,rfl,l,g⟩:=f.rr;exact⟨a,vs,rfl,g.length,l.now,w.exp j k c g⟩
  |_=>simp[listOf]at e
 |@lst a vs xs A' e1 t=>simp only[listOf]at e;have n:=fzL_map e;subst n;have g:=Ows.fzs t;exact⟨a,vs,rfl,g.length,SqL.of e1,w.exp j k c g⟩
 |_=>simp[listOf]at e
theorem Wd.h7(w:Wd b H L)(m:(v,x)∈L)(e:tupOf x=some ds):∃a vs,v=.ref a/\vs.length=ds.length/\SqT b.K H a vs/\Wd b H (vs.zip (ds.map OD.fz)++L):=by
 obtain⟨A,g,l,c⟩:=w.out;obtain⟨B,h⟩:=OwL.mem g m;cases h with
 |@fz _ d f=>
  cases d with
  |tuple n=>simp only[tupOf]at e;cases e;obtain⟨a,vs,rfl,k,j⟩:=f.s9;exact⟨a,vs,rfl,j.length,k.now,w.exp g l c j⟩
  |_=>simp[tupOf]at e
 |_=>simp[tupOf]at e
theorem Wd.sr(w:Wd b H L)(m:(v,x)∈L)(e:seqOf x=some ds):∃a vs,v=.ref a/\vs.length=ds.length/\(SqL b.K H a vs\/SqT b.K H a vs)/\Wd b H (vs.zip (ds.map OD.fz)++L):=by
 unfold seqOf at e;cases h:listOf x with
 |some z=>rw[h]at e;cases e;obtain⟨a,vs,c,g,f,j⟩:=w.ay m h;exact⟨a,vs,c,g,.inl f,j⟩
 |none=>rw[h]at e;obtain⟨a,vs,c,g,f,j⟩:=w.h7 m e;exact⟨a,vs,c,g,.inr f,j⟩
theorem Rel.eu(R:Rel b F σ H ρ τ θ){Z:List (V×OD)}(w:Wd b H (Z++(stk τ θ++(flat σ ρ++ff F))))(c:vs.length=ds.length)(m:∀z∈vs.zip (ds.map OD.fz),z∈Z++(stk τ θ++(flat σ ρ++ff F)))(f:H p=none):
  Rel b F σ (upd H p (.lst vs)) ρ (.ref p::τ) (.val (.lst (ds.map OD.fz))::θ):=by
 obtain⟨A,e,h,a⟩:=w.out;have g:=Wd.exp w e h a ((OwL.v7 e).all c m);exact R.push (Wd.below (Wd.eu g (by simpa using c) f))
theorem Rel.kq(R:Rel b F σ H ρ τ θ){Z:List (V×OD)}(w:Wd b H (Z++(stk τ θ++(flat σ ρ++ff F))))(c:vs.length=ds.length)(m:∀z∈vs.zip (ds.map OD.fz),z∈Z++(stk τ θ++(flat σ ρ++ff F)))(a:H p=none):
  Rel b F σ (upd H p (.tup vs)) ρ (.ref p::τ) (.val (.fz (.tuple ds))::θ):=R.push (Wd.below (w.kq (λS e=>e.all c m) a))
end
section
variable{X:Cx}{K:Waa}{a b c e:Expr}{es:List Expr}{da db dc:DE}{dt:DA}{pos p:Pos}{x:Str}
def yw(t:DA):DE:=λg Q=>t g λh d=>∃r f,h=[r]/\(c9 d r).bind seqOf=some f/\Q (.val (.lst (f.map OD.fz))) d
theorem sf(D:Gl X x) (o:X.mg x=none) (M:bootBuiltins x=some (.type "list")) (L:x≠"__name__":=by decide) (i:(x==("__debug__":Str))=false:=by decide)
  (t:starEach (e::es) X.env=(false,eval e X.env)::starEach es X.env:=by rfl) (d:(backTo pos (starEach es X.env)).any (·.1)=false:=by rfl):PDa X (e::es) dt->PDe X (.Call (.Name x p) (e::es) [] pos) (yw dt)
 |⟨_,g,s1⟩=>⟨_,cK km D o M g L i t d,λb F N H A B P Y Q k R h q=>s1 b F N H A B P _ _ k R h λO T W u f j ⟨r,U,S,C,g⟩=>by
  subst S;obtain⟨z,n,J⟩:=aaO.mp C
  match O,f with
  |[v],_=>
   obtain⟨a,s,rfl,f,m,w⟩:=j.wd.sr (j.mem n) J;rw[k]at m;exact⟨a,s,rfl,m,λl y=>q _ _ _ _ (Rel.il (j.eu w f (λz I=>aaf _ I) y)) g⟩⟩
def Cu(t:DA):DE:=λg Q=>t g λh d=>∃r f,h=[r]/\(c9 d r).bind listOf=some f/\Q (.val (.fz (.tuple f))) d
theorem uN(D:Gl X x) (o:X.mg x=none) (M:bootBuiltins x=some (.type "tuple")) (L:x≠"__name__":=by decide) (i:(x==("__debug__":Str))=false:=by decide)
  (t:starEach (e::es) X.env=(false,eval e X.env)::starEach es X.env:=by rfl) (d:(backTo pos (starEach es X.env)).any (·.1)=false:=by rfl):PDa X (e::es) dt->PDe X (.Call (.Name x p) (e::es) [] pos) (Cu dt)
 |⟨_,g,s1⟩=>⟨_,cK jt D o M g L i t d,λb F N H A B P Y Q k R h q=>s1 b F N H A B P _ _ k R h λO T W u f j ⟨r,U,S,C,g⟩=>by
  subst S;obtain⟨z,n,J⟩:=aaO.mp C
  match O,f with
  |[v],_=>
   obtain⟨a,s,rfl,f,m,w⟩:=j.wd.ay (j.mem n) J;rw[k]at m;exact⟨a,s,rfl,.inl ⟨m,λl y=>q _ _ _ _ (Rel.il (j.kq w f (λz I=>aaf _ I) y)) g⟩⟩⟩
def yx{i g:Type}{xs d:List i}{ys f:List g}(h:xs.length=ys.length):(xs++d).zip (ys++f)=xs.zip ys++d.zip f:=List.zip_append h
abbrev DO:=DEnv->(Option Int->DEnv->Prop)->Prop
def HS(K:Waa)(m:TO)(l:DO):Prop:=∀(b:Bs) (F:List Fr) (f:St) (H:Hp) (g:DEnv) (i:List V) (j:List OR) (Qd:Option Int->DEnv->Prop) (Q:Option Int->Hp->Prop),b.K=K->Rel b F f H g i j->l g Qd->(∀k h d,Rel b F f h d i j->Qd k d->Q k h)->m f H Q
inductive PDo (X:Cx)(e:Option Expr)(de:DO):Prop|mk (te:TO) (h:PO X e te) (s:HS X.K te de)
def dNoPart:DO:=λd Q=>Q none d
def E9(a:DE):DO:=λf Q=>a f λx d=>∃i,ar d x=some (.int i)/\Q (some i) d
def pdo_none:PDo X none dNoPart:=⟨_,xY,λb F f H d g k i Q j R h q=>q none H d R h⟩
theorem uO:PDe X e da->PDo X (some e) (E9 da)
 |⟨_,d,s1⟩=>⟨_,xZ d,λb F σ H ρ τ θ k Q j R h q=>s1 b F σ H ρ τ θ _ _ j R h λv g x ρ1 f ⟨i,e,d⟩=>by
  cases f.dt e;exact⟨i,rfl,q _ g _ f.drop d⟩⟩
def cutD{d:Type}(xs:List d)(lo hi:Option Int):List d:=(xs.drop (HT.sIx xs.length 0 lo)).take (HT.sIx xs.length xs.length hi-HT.sIx xs.length 0 lo)
def yz{vs:List V}{ds:List OD}(f:vs.length=ds.length)(lo hi:Option Int):∀z∈(cutD vs lo hi).zip (cutD ds lo hi),z∈vs.zip ds:=by intro z d;unfold cutD at d;rw[f,acK,<-List.take_zipWith,<-List.drop_zipWith,<-acK]at d;exact acL (List.mem_of_mem_take d)
def uP{d g:Type}(f:d->g)(xs:List d)(lo hi:Option Int):cutD (xs.map f) lo hi=(cutD xs lo hi).map f:=by unfold cutD;rw[aaa,List.map_take,List.map_drop]
def uQ{g f:Type}{xs:List g}{ys:List f}(d:xs.length=ys.length)(lo hi:Option Int):(cutD xs lo hi).length=(cutD ys lo hi).length:=by unfold cutD;rw[aa7,acg,aa7,acg,d]
variable{lo hi:Option Expr}{dl dh:DO}{p2:Pos}
def HU(a:DE)(dl dh:DO):DE:=λi Q=>a i λx g=>dl g λl f=>dh f λu d=>∃h,Jk d x=some h/\Q (.val (.lst ((cutD h l u).map OD.fz))) d
theorem Cv:PDe X e da->PDo X lo dl->PDo X hi dh->PDe X (.Subscript e (.Slice lo hi none p2) pos) (HU da dl dh)
 |⟨_,j,s1⟩,⟨_,i,s2⟩,⟨_,f,s3⟩=>⟨_,tT yb j i f,λb F σ H ρ τ θ J Q d R h q=>s1 b F σ H ρ τ θ _ _ d R h λv o x ρ1 D j=>s2 b F σ o ρ1 _ _ _ _ d D j λl A ρ2 t i=>s3 b F σ A ρ2 _ _ _ _ d t i λu L ρ3 g ⟨ds,C,f⟩=>by
  obtain⟨I,r,B⟩:=aaO.mp C;obtain⟨a,s,rfl,k,n,w⟩:=g.wd.ay (g.mem r) B;rw[d]at n;refine⟨a,s,rfl,n,λM y=>q _ _ _ _ (Rel.il (g.eu w (uQ k l u) (λz m=>aaf _ ?_) y)) f⟩;rw[<-uP]at m;exact yz (by simpa using k) l u z m⟩
end
end
section
structure DEnds where
 nx:DEnv->Prop
 rt:OD->DEnv->Prop
 bk:DEnv->Prop:=λ_=>False
 ct:DEnv->Prop:=λ_=>False
abbrev DS:=DEnds->DEnv->Prop
def NoRf(W:Nat->Prop)(θ:List OR):Prop:=∀r∈θ,(∃x,r=.val x)\/∃j,W j/\r=.rf j
abbrev Ff:Nat->Prop:=λ_=>False
structure EndsOk (b:Bs)(F:List Fr)(τ:List V)(θ:List OR)(Dd:DEnds)(D:Ends):Prop where
 nx:∀σ H ρ,Rel b F σ H ρ τ θ->Dd.nx ρ->D.nx σ H
 bk:∀σ H ρ,Rel b F σ H ρ τ θ->Dd.bk ρ->D.bk σ H
 ct:∀σ H ρ,Rel b F σ H ρ τ θ->Dd.ct ρ->D.ct σ H
 rt:∀σ H ρ v x,Rel b F σ H ρ (v::τ) (.val x::θ)->Dd.rt x ρ->D.rt v H
def Fb(K:Waa)(W:Nat->Prop)(g:TS)(ds:DS):Prop:=∀(b:Bs) (F:List Fr) (c:St) (H:Hp) (d:DEnv) (e:List V) (a:List OR) (f:DEnds) (D:Ends),b.K=K->NoRf W a->Rel b F c H d e a->ds f d->EndsOk b F e a f D->g D c H
inductive PDs (X:Cx)(W:Nat->Prop)(e:Stmt)(de:DS):Prop|mk (te:TS) (h:PS X e te) (s:Fb X.K W te de)
inductive PDss (X:Cx)(W:Nat->Prop)(e:List Stmt)(de:DS):Prop|mk (te:TS) (h:PSs X e te) (s:Fb X.K W te de)
section
variable{b:Bs}{F:List Fr}{σ σ':St}{H H':Hp}{ρ ρ':DEnv}{τ vs:List V}{θ rs:List OR}{v u:V}{r r':OR}{x y:OD}{d:PyData}{ds:List PyData}{i:Nat}{L:List (V×OD)}
variable{W:Nat->Prop}
theorem NoRf.al{o:Option V}(n:NoRf W θ)(g:¬ W i):∀{τ:List V},Al σ τ θ->Al (σ.set i o) τ θ:=by
 induction θ with
 |nil=>intro τ h;cases τ with
  |nil=>trivial
  |cons _ _=>exact h
 |cons r θ c=>
  intro τ h;cases τ with
  |nil=>cases r<;>exact h
  |cons v τ=>
   rcases n r aad with ⟨x,rfl⟩|⟨j,f,rfl⟩
   ·exact c (λr a=>n r (aah _ a)) (τ:=τ) h
   ·refine⟨?_,c (λr a=>n r (aah _ a)) (τ:=τ) h.2⟩;have k:i≠j:=λe=>g (by rw[e];exact f);rw[abf k];exact h.1
theorem NoRf.al0(n:NoRf Ff θ):∀{τ:List V},Al σ τ θ->Al σ' τ θ:=by
 induction θ with
 |nil=>intro τ h;cases τ with
  |nil=>trivial
  |cons _ _=>exact h
 |cons r θ c=>
  intro τ h;rcases n r aad with ⟨x,rfl⟩|⟨j,a,rfl⟩
  ·cases τ with
   |nil=>exact h
   |cons v τ=>exact c (λr e=>n r (aah _ e)) (τ:=τ) h
  ·exact a.elim
def NoRf.weak(n:NoRf Ff θ):NoRf W θ:=λr c=>(n r c).imp id λ⟨j,a,_⟩=>a.elim
def NoRf.app(a:NoRf W rs)(n:NoRf W θ):NoRf W (rs++θ):=λr c=>(aaj.mp c).elim (a r) (n r)
theorem Wd.qd{L1 L2:List (V×OD)}(w:Wd b H (L1++(flat σ ρ++L2)))(c:Wf σ ρ)(i:Nat):Wd b H (L1++(flat σ (ρ.set i none)++L2)):=by
 cases e:ρ[i]?.join with
 |none=>
  have:ρ.set i none=ρ:=by
   cases h:ρ[i]? with
   |none=>exact List.set_eq_of_length_le (by simpa using h)
   |some o=>rw[h]at e;have:o=none:=e;subst this;exact set_self h
  rw[this];exact w
 |some x=>have a:=join_some e;obtain⟨v,f⟩:=c.get a;exact Wd.drop (w.perm ((((bx a f).append_right _).append_left _).trans aav))
theorem Rel.store(R:Rel b F σ H ρ (v::τ) (.val x::θ))(n:NoRf W θ)(c:i<ρ.length)(a:¬ W i):Rel b F (σ.set i (some v)) H (ρ.set i (some x)) τ θ:=by refine Rel.wh R.wf (n.al a (Rel.drop R).al) R.wff c ?_;exact Wd.qd (L1:=(v,x)::stk τ θ) (ρ:=ρ) R.wd R.wf i
end
section
variable{X:Cx}{W:Nat->Prop}{K:Waa}{a b c e:Expr}{es:List Expr}{sts:List Stmt}{st:Stmt}{da db dc:DE}{dt:DA}{d1 d2:DS}{dT:DT}{pos p:Pos}{x:Str}
def dNext:DS:=λD d=>D.nx d
def HV(t u:DS):DS:=λD f=>∃M:DEnv->Prop,(∀d,M d->u D d)/\t { D with nx:=M } f
def pdss_nil:PDss X W [] dNext:=⟨_,xN,λb F d H f g k i D j n R h E=>E.nx d H f R h⟩
theorem si:PDs X W st d1->PDss X W sts d2->PDss X W (st::sts) (HV d1 d2)
 |⟨_,f,s1⟩,⟨_,h2,s2⟩=>⟨_,lL f h2,λb F σ H ρ τ θ j D g n R ⟨M,k,h⟩ E=>s1 b F σ H ρ τ θ _ _ g n R h
  ⟨λd i ρ1 l f=>s2 b F d i ρ1 τ θ j D g n l (k ρ1 f) E,E.bk,E.ct,E.rt⟩⟩
def dCont:DS:=λD d=>D.ct d
def pds_cont:PDs X W (.Continue pos) dCont:=⟨_,lM,λb F d H f g k i D j n R h E=>E.ct d H f R h⟩
def Fc(a:DE):DS:=λD f=>a f λ_ d=>D.nx d
theorem uR(hs:swapsWith e none pos.line X.env=pure false:=by rfl):PDe X e da->PDs X W (.Expr e pos) (Fc da)
 |⟨_,h,s⟩=>⟨_,g7 h hs,λb F f H j k m q D i n R h E=>s b F f H j k m _ _ i R h λv g r d o l=>E.nx f g d o.drop l⟩
def HW(a:DE):DS:=λD g=>a g λr f=>∃x d,mv1 f r=some (x,d)/\D.rt x d
theorem yA:PDe X e da->PDs X W (.Return (some e) pos) (HW da)
 |⟨_,h,s⟩=>⟨_,Bi h,λb F σ H ρ τ θ j D f n R h E=>s b F σ H ρ τ θ _ _ f R h λv d r ρ1 i ⟨x,ρ2,e,g⟩=>E.rt σ d ρ2 v x (i.mv1 e) g⟩
def HX(c:DT)(t u:DS):DS:=λD f=>c f λk d=>if k=true then t D d else u D d
theorem Cw{f g:List Stmt}:PDt X c dT->PDss X W f d1->PDss X W g d2->PDs X W (.If c f g pos) (HX dT d1 d2)
 |⟨_,h,s⟩,⟨_,d,f⟩,⟨_,h2,g⟩=>⟨_,Ep h d h2,λb F σ H ρ τ θ m D i n R h E=>s b F σ H ρ τ θ _ _ i R h λk j ρ1 l d=>by
  cases k with
  |true=>rw[if_pos rfl]at d ⊢;exact f b F σ j ρ1 τ θ _ _ i n l d E
  |false=>rw[if_neg aak]at d ⊢;exact g b F σ j ρ1 τ θ _ _ i n l d E⟩
def HY(i:Nat)(a:DE):DS:=λD g=>a g λr f=>∃x d,own1 f r=some (x,d)/\i<d.length/\D.nx (d.set i (some x))
theorem yB{i:Nat}{d:Pos}(m:¬ W i)(u:X.N.Nodup)(f:X.N[i]?=some x)(q:Loc X.env.scope x)(hs:swapsWith e (some (.Name x d)) pos.line X.env=pure false:=by rfl)(z:X.fn x=true\/X.env.scope.names.lookup x=some .local:=by first|exact .inl rfl|exact .inr rfl|assumption):
  PDe X e da->PDs X W (.Assign [.Name x d] e pos) (HY i da)
 |⟨_,h,s⟩=>⟨_,tF u f q h hs z,λb F y H o t A C D j n R h E=>s b F y H o t A _ _ j R h λv g r l B ⟨x,k,e,f,w⟩=>E.nx _ g _ ((B.own1 e).store n f m) w⟩
def dF:List Nat->List OD->DEnv->DEnv
 |i::is,x::xs,ρ=>dF is xs (ρ.set i (some x))
 |_,_,ρ=>ρ
def Cz(is:List Nat)(t:DA):DS:=λD h=>t h λj f=>∃g d,mapR own1 f j=some (g,d)/\g.length=is.length/\(∀i∈is,i<d.length)/\D.nx (dF is g d)
def kC:List Nat->List V->St->St
 |i::is,v::vs,σ=>kC is vs (σ.set i (some v))
 |_,_,σ=>σ
theorem Rel.storeAll{W:Nat->Prop}{b:Bs}{F:List Fr}{H:Hp}{τ:List V}{θ:List OR}:∀{is:List Nat}{vs:List V}{xs:List OD}{σ:St}{ρ:DEnv},Rel b F σ H ρ (vs++τ) (xs.map OR.val++θ)->NoRf W θ->vs.length=xs.length->xs.length=is.length->(∀i∈is,i<ρ.length)->(∀i∈is,¬ W i)->Rel b F (kC is vs σ) H (dF is xs ρ) τ θ
 |[],[],[],_,_,R,_,_,_,_,_=>R
 |i::is,v::vs,x::xs,σ,ρ,R,n,e1,e2,h,hw=>by have g:NoRf W (xs.map OR.val++θ):=NoRf.app (λr f=>by obtain⟨x,_,rfl⟩:=aat.mp f;exact .inl ⟨x,rfl⟩) n;show Rel b F (kC is vs (σ.set i (some v))) H (dF is xs (ρ.set i (some x))) τ θ;exact Rel.storeAll (Rel.store (τ:=vs++τ) (θ:=xs.map OR.val++θ) R g (h i aad) (hw i aad)) n (by simpa using e1) (by simpa using e2) (λj d=>by rw[aci];exact h j (aah _ d)) λj d=>hw j (aah _ d)
 |[],_::_,[],_,_,_,_,e,_,_,_=>by simp at e
 |[],_,_::_,_,_,_,_,_,e,_,_=>by simp at e
 |_::_,[],_::_,_,_,_,_,e,_,_,_=>by simp at e
 |_::_,_,[],_,_,_,_,_,e,_,_=>by simp at e
def len2{d:Type}{l:List d}(h:l.length=2):∃a b,l=[a,b]:=by
 match l,h with
 |[a,b],_=>exact⟨a,b,rfl⟩
def HZ{d:Type}{l:List d}(h:l.length=3):∃a b c,l=[a,b,c]:=by
 match l,h with
 |[a,b,c],_=>exact⟨a,b,c,rfl⟩
theorem yC{i j:Nat}(A:∀k∈[i,j],¬ W k){x y:Str}{l o g:Pos}{m r d}(B:X.calm=true)(Y:X.N.Nodup)(t:X.N[i]?=some x)(L:X.N[j]?=some y)(q:i≠j)
  (S:X.env.scope.names.lookup x=some .local) (hy:X.env.scope.names.lookup y=some .local)
  (P:swappedStores [.Tuple [.Name x l,.Name y o] m g] (.Tuple [a,b] r d) X.env=pure (some [x,y]))
  (hs:swapsWithSole [.Tuple [.Name x l,.Name y o] m g] (.Tuple [a,b] r d) pos.line X.env=pure false:=by rfl):PDa X [a,b] dt->PDs X W (.Assign [.Tuple [.Name x l,.Name y o] m g] (.Tuple [a,b] r d) pos) (Cz [i,j] dt)
 |⟨_,h,s⟩=>⟨_,Bp B Y t L q S hy h P hs,λb F σ H Q T θ Dd D I n R h E=>s b F σ H Q T θ _ _ I R h λvs z rs O M U ⟨xs,J,e,f,t,Z⟩=>by
  obtain⟨C,u⟩:=fc Rel.own1 U M e;obtain⟨v,w,rfl⟩:=len2 (u.trans f);exact⟨v,w,rfl,E.nx _ z _ (Rel.storeAll (is:=[i,j]) C n u f t A) Z⟩⟩
theorem uS{i j k:Nat}(L:∀z∈[i,j,k],¬ W z){x y z:Str}{l t r g:Pos}{o B d}(M:X.calm=true)(hN:X.N.Nodup)(C:X.N[i]?=some x)(S:X.N[j]?=some y)(hk:X.N[k]?=some z)(A:i≠j)(m:i≠k)(q:j≠k)
  (hx:X.env.scope.names.lookup x=some .local) (hy:X.env.scope.names.lookup y=some .local) (hz:X.env.scope.names.lookup z=some .local)
  (Y:swappedStores [.Tuple [.Name x l,.Name y t,.Name z r] o g] (.Tuple [a,b,c] B d) X.env=pure (some [x,y,z]))
  (hs:swapsWithSole [.Tuple [.Name x l,.Name y t,.Name z r] o g] (.Tuple [a,b,c] B d) pos.line X.env=pure false:=by rfl):PDa X [a,b,c] dt->PDs X W (.Assign [.Tuple [.Name x l,.Name y t,.Name z r] o g] (.Tuple [a,b,c] B d) pos) (Cz [i,j,k] dt)
 |⟨_,h,s⟩=>⟨_,yf M hN C S hk A m q hx hy hz h Y hs,λb F σ H Z τ θ Dd D P n R h E=>s b F σ H Z τ θ _ _ P R h λvs J rs U T R1 ⟨xs,Q,e,f,C,h1⟩=>by
  obtain⟨O,I⟩:=fc Rel.own1 R1 T e;obtain⟨v,w,u,rfl⟩:=HZ (I.trans f);exact⟨v,w,u,rfl,E.nx _ J _ (Rel.storeAll (is:=[i,j,k]) O n I f C L) h1⟩⟩
abbrev DG:=OD->DEnv->(DEnv->Prop)->Prop
abbrev DGs:=List OD->DEnv->(DEnv->Prop)->Prop
def ju(K:Waa)(W:Nat->Prop)(m:Nat)(g:TG)(o:DG):Prop:=∀(b:Bs) (F:List Fr) (h:St) (H:Hp) (i:DEnv) (n:List V) (k:List OR) (v:V) (x:OD) (Qd:DEnv->Prop) (Q:St->Hp->Prop),b.K=K->NoRf W k->Rel b F h H i (v::n) (.val x::k)->o x i Qd->(∀d l f,Rel b F d l f n k->(∀j,m<=j->d[j]?=h[j]?/\f[j]?=i[j]?)->Qd f->Q d l)->g v h H Q
def Fd(K:Waa)(W:Nat->Prop)(m:Nat)(g:TGs)(q:DGs):Prop:=∀(b:Bs) (F:List Fr) (h:St) (H:Hp) (i:DEnv) (o:List V) (l:List OR) (vs:List V) (k:List OD) (Qd:DEnv->Prop) (Q:St->Hp->Prop),b.K=K->NoRf W l->vs.length=k.length->Rel b F h H i (vs++o) (k.map OR.val++l)->q k i Qd->(∀d n f,Rel b F d n f o l->(∀j,m<=j->d[j]?=h[j]?/\f[j]?=i[j]?)->Qd f->Q d n)->g vs h H Q
inductive PDg (X:Cx)(W:Nat->Prop)(m:Nat)(e:Expr)(dg:DG):Prop|mk (te:TG) (h:PG X e te) (s:ju X.K W m te dg)
inductive PDgs (X:Cx)(W:Nat->Prop)(m:Nat)(e:List Expr)(dg:DGs):Prop|mk (te:TGs) (h:Ea X e te) (s:Fd X.K W m te dg)
def CA(i:Nat):DG:=λx d Q=>i<d.length/\Q (d.set i (some x))
def dgNil:DGs:=λd f Q=>d=[]/\Q f
def oa(t:DG)(u:DGs):DGs:=λg f Q=>∃x r,g=x::r/\t x f λd=>u r d Q
def unpT:OD->Option (List OD)
 |.fz (.tuple ds)=>some (ds.map OD.fz)
 |.tup xs=>some xs
 |_=>none
def unpL:OD->Option (List OD)
 |.fz (.list ds)=>some (ds.map OD.fz)
 |.lst xs=>some xs
 |_=>none
def Fe(n:Nat)(t:DGs):DG:=λx f Q=>∃d,unpT x=some d/\d.length=n/\t d f Q
def Fg(n:Nat)(t:DGs):DG:=λx f Q=>∃d,unpL x=some d/\d.length=n/\t d f Q
variable{m:Nat}{dg:DG}{dgs:DGs}
theorem l7{i:Nat}(f:¬ W i)(k:X.N.Nodup)(d:X.N[i]?=some x)(g:Loc X.env.scope x)(o:i<m)(l:X.fn x=true\/X.env.scope.names.lookup x=some .local:=by first|exact .inl rfl|exact .inr rfl|assumption):PDg X W m (.Name x pos) (CA i):=
 ⟨_,xO k d g l,λb F w H t u y v x z Q r n R ⟨d,h⟩ q=>q _ _ _ (R.store n d f) (λj s=>⟨abf (by omega),abf (by omega)⟩) h⟩
def pdgs_nil:PDgs X W m [] dgNil:=⟨_,xP,λb F r H k l s f o t Q g n d R ⟨e,h⟩ q=>by
 subst e;cases f with
 |nil=>exact⟨rfl,q _ _ _ R (λj i=>⟨rfl,rfl⟩) h⟩
 |cons _ _=>simp at d⟩
theorem fY(hs:(assignEach (e::es) X.env).map (·.2)=assign e X.env::(assignEach es X.env).map (·.2):=by rfl):PDg X W m e dg->PDgs X W m es dgs->PDgs X W m (e::es) (oa dg dgs)
 |⟨_,l,s1⟩,⟨_,k,s2⟩=>⟨_,tD l k hs,λb F L H C u o d O P Q s n t R ⟨x,r,e,h⟩ q=>by
  subst e;cases d with
  |nil=>simp at t
  |cons v d=>
   have J:NoRf W (r.map OR.val++o):=NoRf.app (λr I=>by obtain⟨x,_,rfl⟩:=aat.mp I;exact .inl ⟨x,rfl⟩) n;exact⟨v,d,rfl,s1 b F L H C (d++u) (r.map OR.val++o) v x _ _ s J R h λi z g M w l=>s2 b F i z g u o d r _ _ s n (by simpa using t) M l λD N B A y k=>
    q _ _ _ A (λj f=>⟨(y j f).1.trans (w j f).1,(y j f).2.trans (w j f).2⟩) k⟩⟩
theorem Wd.unpT{b:Bs}{H:Hp}{L:List (V×OD)}{v:V}{x:OD}{xs:List OD}(w:Wd b H ((v,x)::L))(e:unpT x=some xs):∃a vs,v=.ref a/\SqT b.K H a vs/\vs.length=xs.length/\Wd b H (vs.zip xs++L):=by
 cases x with
 |fz d=>cases d<;>simp only[L2.unpT]at e<;>cases e;obtain⟨a,vs,rfl,h,k,j⟩:=w.h7 aad (rfl:tupOf (.fz (.tuple _))=some _);exact⟨a,vs,rfl,k,by simpa using h,Wd.drop (j.perm aav)⟩
 |tup l=>
  simp only[L2.unpT]at e;cases e;obtain⟨n,i,g,f⟩:=w.out;cases i with
  |cons r t=>
   cases r with
   |@tup a vs _ A h1 h2=>exact⟨a,vs,rfl,SqT.of h1,h2.len,⟨⟨_,OwL.n7 (OwL.rd h2) t,g,f⟩,w.fr,w.s0,w.nt⟩⟩
 |_=>simp[L2.unpT]at e
theorem Wd.unpL{b:Bs}{H:Hp}{L:List (V×OD)}{v:V}{x:OD}{xs:List OD}(w:Wd b H ((v,x)::L))(e:unpL x=some xs):∃a vs,v=.ref a/\SqL b.K H a vs/\vs.length=xs.length/\Wd b H (vs.zip xs++L):=by
 have i:∀{f:List PyData},listOf x=some f->xs=f.map OD.fz->∃a vs,v=.ref a/\SqL b.K H a vs/\vs.length=xs.length/\Wd b H (vs.zip xs++L):=λ{f} h1 h2=>by subst h2;obtain⟨a,vs,rfl,n,s,q⟩:=w.ay aad h1;exact⟨a,vs,rfl,s,by simpa using n,Wd.drop (q.perm aav)⟩
 cases x with
 |fz d=>cases d<;>simp only[L2.unpL]at e<;>cases e;exact i rfl rfl
 |lst u=>
  simp only[L2.unpL]at e;cases e;obtain⟨y,j,l,g⟩:=w.out;have o:=w.r6 j;cases j with
  |@cons _ _ A _ _ B0 r t=>
   cases r with
   |@lst a vs _ B h1 h2=>have h:∀c,(c∈B++B0\/b.S0 c)->(c∈a::B++B0\/b.S0 c):=λc z=>z.imp (λz=>by simp at z ⊢;exact .inr z) id;exact⟨a,vs,rfl,SqL.of h1,h2.len,⟨⟨_,Ows.step (Kp.refl _ _) (λc z=>.inl (h c z)) o (λ_ _=>rfl) (OwL.n7 (OwL.rd h2) t),(aaA.mp l).2,λc k=>g c (aah _ k)⟩,w.fr,w.s0,w.nt⟩⟩
 |_=>simp[L2.unpL]at e
theorem fg{σ:St}:∀{vs:List V}{xs:List OD},vs.length=xs.length->Al σ vs (xs.map OR.val)
 |[],[],_=>trivial
 |_::vs,_::xs,e=>fg (vs:=vs) (xs:=xs) (by simpa using e)
 |[],_::_,e=>by simp at e
 |_::_,[],e=>by simp at e
theorem Rel.spread{b:Bs}{F:List Fr}{σ:St}{H:Hp}{ρ:DEnv}{τ vs:List V}{θ:List OR}{xs:List OD}(R:Rel b F σ H ρ τ θ)(d:vs.length=xs.length)(w:Wd b H (vs.zip xs++(stk τ θ++(flat σ ρ++ff F)))):Rel b F σ H ρ (vs++τ) (xs.map OR.val++θ):=
 ⟨R.wf,(aH (by simpa using d)).mpr ⟨fg d,R.al⟩,R.wff,by rw[aC (by simpa using d),cf d,aac];exact w⟩
theorem pL{k:Nat}{n:Nat}(l:X.calm=true)(z:(assignEach es X.env).length=n:=by rfl)(f:(assignEach es X.env).findIdx? (·.1)=none:=by rfl):PDgs X W m es dgs->PDg X W m (.Tuple es k pos) (Fe n dgs)
 |⟨_,h,s⟩=>⟨_,Bk l h z f,λb F A H t u B v x C Q g o R ⟨y,e,r,h⟩ q=>by
  obtain⟨a,i,rfl,j,d,w⟩:=Wd.unpT R.wd e;rw[g]at j;exact⟨a,i,rfl,j,d.trans r,s b F A H t u B i y _ _ g o d (R.drop.spread d w) h q⟩⟩
theorem pM{k:Nat}{n:Nat}(l:X.calm=true)(z:(assignEach es X.env).length=n:=by rfl)(f:(assignEach es X.env).findIdx? (·.1)=none:=by rfl):PDgs X W m es dgs->PDg X W m (.Tuple es k pos) (Fg n dgs)
 |⟨_,h,s⟩=>⟨_,B6 l h z f,λb F A H t u B v x C Q g o R ⟨y,e,r,h⟩ q=>by
  obtain⟨a,i,rfl,j,d,w⟩:=Wd.unpL R.wd e;rw[g]at j;exact⟨a,i,rfl,j,d.trans r,s b F A H t u B i y _ _ g o d (R.drop.spread d w) h q⟩⟩
def H8(a:DE)(g:DG):DS:=λD h=>a h λr f=>∃x d,own1 f r=some (x,d)/\g x d D.nx
theorem yD{tg:Expr}(hs:swapsWithSole [tg] e pos.line X.env=pure false:=by rfl)(w:swappedStores [tg] e X.env=pure none:=by rfl)(t:(assignEach [tg] X.env).map (·.2)=[assign tg X.env]:=by rfl):PDe X e da->PDg X W m tg dg->PDs X W (.Assign [tg] e pos) (H8 da dg)
 |⟨_,i,s1⟩,⟨_,h2,s2⟩=>⟨_,tE i h2 hs w t,λb F l H z k o C D j n R h E=>s1 b F l H z k o _ _ j R h λv s r u B ⟨x,f,e,i⟩=>
  s2 b F l s f k o v x _ _ j n (B.own1 e) i λg A d q _ y=>E.nx g A d q y⟩
abbrev DI:=DEnv->(List PyData->DEnv->Prop)->Prop
def jv(b:Bs)(J:It)(vs:List V)(rs:List OR)(ds:List PyData):Prop:=∀(F:List Fr) (f:St) (H:Hp) (g:DEnv) (h:List V) (i:List OR),Rel b F f H g (vs++h) (rs++i)->∀k,
 (k<ds.length->J.go k H/\∀x j d,J.yld k H x j->ds[k]?=some d->Rel b F f j g (x::(vs++h)) (.val (.fz d)::(rs++i)))/\(k=ds.length->J.stop k H)
def oh(K:Waa)(o:TI)(q:DI):Prop:=∀(b:Bs) (F:List Fr) (g:St) (H:Hp) (i:DEnv) (k:List V) (n:List OR) (Qd:List PyData->DEnv->Prop) (Q:It->Hp->Prop),b.K=K->Rel b F g H i k n->q i Qd ->
 (∀J j l d h f,h.length=f.length->NoRf Ff f->Rel b F g j d (h++k) (f++n)->jv b J h f l->Qd l d->Q J j)->o g H Q
inductive PDi (X:Cx)(tg e:Expr)(di:DI):Prop|mk (te:TI) (h:PI X tg e te) (s:oh X.K te di)
def cA(lo:Int)(n:Nat):List PyData:=(List.range n).map λ(i:Nat)=>PyData.int (lo+(i:Int))
def dG(lo:Int)(n:Nat):(cA lo n).length=n:=by simp[cA]
def uT{f:Int}{n k:Nat}{d:PyData}(h:(cA f n)[k]?=some d):k<n/\d=.int (f+k):=by unfold cA at h;rw[aas]at h;obtain⟨j,l,rfl⟩:=aaF.mp h;obtain⟨i,g⟩:=aai.mp l;simp at i g;subst g;exact⟨i,rfl⟩
def uU(b:Bs)(lo:Int)(n:Nat):jv b (GU lo n) [] [] (cA lo n):=λF j H l o q R k=>by rw[dG];refine⟨λh=>⟨h,λx r d ⟨i,g⟩ f=>?_⟩,λe=>by subst e;exact aae _⟩;subst i g;rw[(uT f).2];exact Rel.sc R (.int _)
def Fh(t:DA):DI:=λf Q=>t f λg d=>∃j,fX d g=some [.int j]/\-(2^62)<=j/\j<2^62/\Q (cA 0 j.toNat) d
theorem oi{tg:Expr} (w:Gl X "range") (k:X.mg "range"=none) (hs:starEach [a] X.env=[(false,eval a X.env)]:=by rfl):PDa X [a] dt->PDi X tg (.Call (.Name "range" p) [a] [] pos) (Fh dt)
 |⟨_,h,s⟩=>⟨_,rC w k h hs,λb F B H o v C J Q l R h q=>s b F B H o v C _ _ l R h λI i D d f g ⟨j,e,z,n,A⟩=>by
  have u:=g.dtL f e;cases u with
  |cons r t=>cases t;cases r;exact⟨j,rfl,z,n,q _ i _ d [] [] rfl (λr y=>by cases y) (g.drops f) (uU b 0 _) A⟩⟩
theorem Rel.itemAt{b:Bs}{F:List Fr}{σ:St}{H:Hp}{ρ:DEnv}{τ:List V}{θ:List OR}{v:V}{x:OD}{ds:List PyData}{d:PyData}{k:Nat}(R:Rel b F σ H ρ τ θ)(m:(v,x)∈stk τ θ++(flat σ ρ++ff F))(e:seqOf x=some ds)(g:ds[k]?=some d):
  ∃a vs u,v=.ref a/\(SqL b.K H a vs\/SqT b.K H a vs)/\vs.length=ds.length/\vs[k]?=some u/\Rel b F σ H ρ (u::τ) (.val (.fz d)::θ):=by
 obtain⟨a,vs,rfl,f,i,w⟩:=R.wd.sr m e;have h:k<vs.length:=by rw[f];exact(aai.mp g).1
 refine⟨a,vs,vs[k],rfl,i,f,aan h,R.push (w.pick (cD (aan h) ?_))⟩;rw[aas,g];rfl
def cM{v:V}{x:OD}{τ:List V}{θ:List OR}{L:List (V×OD)}:(v,x)∈stk ([v]++τ) ([OR.val x]++θ)++L:=by simp[stk]
theorem sj(b:Bs)(a:Addr)(ds:List PyData):jv b (GT b.K a) [.ref a] [.val (.fz (.list ds))] ds:=λF L H I J N R k=>by
 obtain⟨C,g,e,B,n,_⟩:=R.wd.ay cM (rfl:listOf (.fz (.list ds))=some ds);cases e;refine⟨λh=>⟨⟨g,g[k]'(by omega),n,aan _⟩,λx D d ⟨y,t⟩ l=>?_⟩,λe=>⟨g,n,by omega⟩⟩;subst y;obtain⟨s,M,u,w,o,_,z,A⟩:=R.itemAt cM (rfl:seqOf (.fz (.list ds))=some ds) l;cases w;obtain⟨_,f,q,i,j,r⟩:=R.wd.ay cM (rfl:listOf (.fz (.list ds))=some ds);cases q;have O:k<f.length:=by rw[i];exact(aai.mp l).1
 have v:=t f j;refine Rel.push R (r.pick (cD v ?_));rw[aas,l];rfl
theorem uV(b:Bs)(a:Addr)(ds:List PyData):jv b (Hq b.K a) [.ref a] [.val (.fz (.tuple ds))] ds:=λF t H r s u R k=>by obtain⟨o,f,e,n,g,w⟩:=R.wd.h7 cM (rfl:tupOf (.fz (.tuple ds))=some ds);cases e;refine⟨λh=>⟨⟨f,f[k]'(by omega),g,aan _⟩,λx q d ⟨l,j⟩ i=>?_⟩,λe=>⟨f,g,by omega⟩⟩;subst l;refine Rel.push R (w.pick (cD (j f g) ?_));rw[aas,i];rfl
def H9(a:DE):DI:=λh Q=>a h λr f=>∃g d,frz1 f r=some (.list g,d)/\Q g d
theorem uW{tg:Expr}:PDe X e da->PDi X tg e (H9 da)
 |⟨_,h,s⟩=>⟨_,oZ h,λb F σ H ρ τ θ t Q f R h q=>s b F σ H ρ τ θ _ _ f R h λv i r ρ1 n ⟨ds,ρ2,e,l⟩=>by
  have d:=n.frz1 e;obtain⟨a,j,rfl,o,g,_⟩:=d.wd.ay (d.mem rfl) (rfl:listOf (.fz (.list ds))=some ds);rw[f]at g;exact⟨a,rfl,⟨j,g⟩,f▸q _ i ds ρ2 [.ref a] [.val (.fz (.list ds))] rfl (λr k=>.inl ⟨_,aap.mp k⟩) d (sj b a ds) l⟩⟩
def Ia(a:DE):DI:=λh Q=>a h λr f=>∃g d,frz1 f r=some (.tuple g,d)/\Q g d
theorem yE{tg:Expr}:PDe X e da->PDi X tg e (Ia da)
 |⟨_,h,s⟩=>⟨_,Bu h,λb F σ H ρ τ θ t Q f R h q=>s b F σ H ρ τ θ _ _ f R h λv i r ρ1 n ⟨ds,ρ2,e,l⟩=>by
  have d:=n.frz1 e;obtain⟨a,j,rfl,o,g,_⟩:=d.wd.h7 (d.mem rfl) (rfl:tupOf (.fz (.tuple ds))=some ds);rw[f]at g;exact⟨a,rfl,⟨j,g⟩,f▸q _ i ds ρ2 [.ref a] [.val (.fz (.tuple ds))] rfl (λr k=>.inl ⟨_,aap.mp k⟩) d (uV b a ds) l⟩⟩
end
end
section
section
variable{X:Cx}{K:Waa}{a b c e:Expr}{es:List Expr}{sts:List Stmt}{st:Stmt}{da db dc:DE}{dt:DA}{d1 d2:DS}{dT:DT}{pos p:Pos}{x:Str}
def bX(ds:List PyData):List PyData:=(List.range ds.length).map λ(i:Nat)=>PyData.tuple [.int (i:Int),ds.getD i .none]
def cN(ds:List PyData):(bX ds).length=ds.length:=by simp[bX]
def fZ{k:Nat}(h:(bX ds)[k]?=some d):∃e,ds[k]?=some e/\d=.tuple [.int k,e]:=by unfold bX at h;rw[aas]at h;obtain⟨j,i,rfl⟩:=aaF.mp h;obtain⟨f,g⟩:=aai.mp i;simp at f g;subst g;exact⟨ds[k],aan f,by rw[abt,aan f];rfl⟩
theorem Rel.t4{b:Bs}{d e:PyData}{p:Addr}(R:Rel b F σ H ρ τ θ)(w:Wd b H (Z++(stk τ θ++(flat σ ρ++ff F))))(i:(v,OD.fz d)∈Z)(h:(u,OD.fz e)∈Z)(g:H p=none):
  Rel b F σ (upd H p (.tup [v,u])) ρ (.ref p::τ) (.val (.fz (.tuple [d,e]))::θ):=R.kq w rfl (λz f=>by
   simp at f;rcases f with rfl|rfl
   ·exact aaf _ i
   ·exact aaf _ h) g
theorem sk(b:Bs)(a:Addr)(ds:List PyData):jv b (HK b.K a) [.ref a] [.val (.fz (.list ds))] (bX ds):=λF v H t u A R k=>by obtain⟨r,f,e,q,i,w⟩:=R.wd.ay cM (rfl:listOf (.fz (.list ds))=some ds);cases e;rw[cN];refine⟨λh=>⟨⟨f,f[k]'(by omega),i,aan _⟩,λx s d ⟨T,y,o,n,m,j⟩ l=>?_⟩,λe=>⟨f,i,by omega⟩⟩;subst m j;obtain⟨z,g,rfl⟩:=fZ l;refine Rel.t4 (Z:=(V.int k,OD.fz (.int k))::f.zip (ds.map OD.fz)) R (w.sc (.int _)) aad (aah _ (cD (o f i) ?_)) n;rw[aas,g];rfl
def Fi(t:DA):DI:=λh Q=>t h λi f=>∃g d,frzL f i=some ([.list g],d)/\Q (bX g) d
theorem uX{t}{f:Pos} (C:Gl X "enumerate") (u:X.mg "enumerate"=none) (hs:starEach [a] X.env=[(false,eval a X.env)]:=by rfl):PDa X [a] dt->PDi X (.Tuple es t f) (.Call (.Name "enumerate" p) [a] [] pos) (Fi dt)
 |⟨_,h,s⟩=>⟨_,yk C u h hs,λb F n H A m o N Q i R h q=>s b F n H A m o _ _ i R h λJ k M z l L ⟨d,g,e,I⟩=>by
  obtain⟨y,B⟩:=kA L l e
  match J,B with
  |[v],_=>
   have j:Rel b F n k g (v::m) (.val (.fz (.list d))::o):=y;obtain⟨a,w,rfl,l,hs,_⟩:=j.wd.ay (j.mem rfl) (rfl:listOf (.fz (.list d))=some d);rw[i]at hs;exact⟨a,w,rfl,hs,i▸q _ k _ g [.ref a] [.val (.fz (.list d))] rfl (λr D=>.inl ⟨_,aap.mp D⟩) j (sk b a d) I⟩⟩
def cB(ds es:List PyData):List PyData:=List.zipWith (λd e=>PyData.tuple [d,e]) ds es
theorem iw{ds es:List PyData}{k:Nat}(h:(cB ds es)[k]?=some d):∃x y,ds[k]?=some x/\es[k]?=some y/\d=.tuple [x,y]:=by
 unfold cB at h;rw[List.getElem?_zipWith]at h;cases f:ds[k]? with
 |none=>rw[f]at h;simp at h
 |some x=>
  cases g:es[k]? with
  |none=>rw[f,g]at h;simp at h
  |some y=>rw[f,g]at h;exact⟨x,y,rfl,rfl,(aaC h).symm⟩
def Fj:PyData->Option (Bool×List PyData)
 |.list ds=>some (true,ds)
 |.tuple ds=>some (false,ds)
 |_=>none
def oj(l:Bool)(a:Addr)(xs:List V):ZS:=if l then .lst a xs else .tup a xs
def eA{a:Addr}(h:if l then SqL K H a xs else SqT K H a xs):(oj l a xs).ok K H:=by cases l<;>exact h
def l8(l:Bool)(a:Addr)(xs:List V):(oj l a xs).val=.ref a:=by cases l<;>rfl
def cg(l:Bool)(a:Addr)(xs:List V):(oj l a xs).items=xs:=by cases l<;>rfl
def uY(h:Fj d=some (l,ds)):d=if l then .list ds else .tuple ds:=by cases d<;>simp only[Fj]at h<;>cases h<;>rfl
theorem uZ(b:Bs)(a c:Addr)(l g:Bool)(xs ys:List V)(ds es:List PyData):jv b (HH b.K (oj l a xs) (oj g c ys)) [.ref a,.ref c] [.val (.pin l xs ds),.val (.pin g ys es)] (cB ds es):=λF N H L M O R k=>by
 obtain⟨D,e,C,m,w⟩:=R.wd.pinned (v:=.ref a) (l:=l) (xs:=xs) (ds:=ds) (by simp[stk]);cases e;obtain⟨I,e,q,f,i⟩:=w.pinned (v:=.ref c) (l:=g) (xs:=ys) (ds:=es) (by simp[stk]);cases e;have r:(cB ds es).length=min ds.length es.length:=by simp[cB]
 rw[r];refine⟨λh=>⟨⟨eA m,eA f,by rw[cg];omega,by rw[cg];omega⟩,λx J d ⟨T,y,z,n,j,B,o,u⟩ s=>?_⟩,λe=>⟨eA m,eA f,by rw[cg,cg];omega⟩⟩;subst o u;rw[cg]at n j;obtain⟨d1,d2,A,t,rfl⟩:=iw s;rw[<-aac]at i;refine Rel.t4 R i (aag _ (cD n ?_)) (aaf _ (cD j ?_)) B
 ·rw[aas,A];rfl
 ·rw[aas,t];rfl
def Ib(t:DA):DI:=λh Q=>t h λi f=>∃x y l k g es d,frzL f i=some ([x,y],d)/\Fj x=some (l,g)/\Fj y=some (k,es)/\Q (cB g es) d
theorem yF{I}{f:Pos} (S:Gl X "zip") (J:X.mg "zip"=none) (hs:starEach [a,b] X.env=[(false,eval a X.env),(false,eval b X.env)]:=by rfl) (m:starEach [b] X.env=[(false,eval b X.env)]:=by rfl):PDa X [a,b] dt->PDi X (.Tuple es I f) (.Call (.Name "zip" p) [a,b] [] pos) (Ib dt)
 |⟨_,h,s⟩=>⟨_,BV S J h hs m,λb F z H O o B Qd Q n R h q=>s b F z H O o B _ _ n R h λvs j rs N M Z ⟨x,y,l,k,ds,es,d,e,Y,L,T⟩=>by
  obtain⟨C,P⟩:=kA Z M e;obtain⟨v,u,rfl⟩:=len2 P;have w:Wd b j ((v,.fz x)::(u,.fz y)::(stk o B++(flat z d++ff F))):=C.wd;have t:Rel b F z j d o B:=Rel.drops C rfl;obtain⟨xs,W⟩:=w.pin (uY Y);obtain⟨i,U⟩:=(W.perm (List.Perm.swap _ _ _)).pin (uY L);have A:=U.perm (List.Perm.swap _ _ _);obtain⟨a,rfl,_,hs,_⟩:=A.pinned (v:=v) (l:=l) (xs:=xs) (ds:=ds) (by simp);obtain⟨c,rfl,_,g,_⟩:=A.pinned (v:=u) (l:=k) (xs:=i) (ds:=es) (by simp);rw[n]at hs g;refine⟨oj l a xs,oj k c i,by rw[l8,l8],eA hs,eA g,n▸q _ j _ d [.ref a,.ref c] [.val (.pin l xs ds),.val (.pin k i es)] rfl (λr D=>by simp at D;rcases D with rfl|rfl<;>exact .inl ⟨_,rfl⟩) ?_ (uZ b a c l k xs i ds es) T⟩;exact⟨t.wf,t.al,t.wff,A⟩⟩
end
end
section
noncomputable def bE:DEnv->List Nat->Option (DEnv×DEnv)
 |ρ,[]=>some ([],ρ)
 |ρ,j::js=>match ρ[j]?.join with
  |some (.fz d)=>match bE ρ js with|some z=>some (some (.fz d)::z.1,z.2)|none=>none
  |some x=>match bE (ρ.set j none) js with|some z=>some (some x::z.1,z.2)|none=>none
  |none=>none
def bL:DEnv->List Nat->DEnv->DEnv
 |ρ,j::js,some x::os=>bL (ρ.set j (some x)) js os
 |ρ,_::js,none::os=>bL ρ js os
 |ρ,_,_=>ρ
def capV(σ:St)(js:List Nat):St:=js.map λj=>(σ[j]?).join
section
variable{b:Bs}{F:List Fr}{σ σ':St}{H H':Hp}{τ vs:List V}{θ rs:List OR}{v u:V}{x y:OD}{d:PyData}{ds:List PyData}{i:Nat}{L:List (V×OD)}
def yG(h:o=some (some v)):o.join=some v:=by rw[h];rfl
theorem pN:∀{js:List Nat}{ρ a ρ2:DEnv}{L1 L2:List (V×OD)},Wd b H (L1++(flat σ ρ++L2))->Wf σ ρ->bE ρ js=some (a,ρ2)->Wd b H (flat (capV σ js) a++(L1++(flat σ ρ2++L2)))/\Wf σ ρ2/\Wf (capV σ js) a
 |[],ρ,a,ρ2,L1,L2,w,wf,e=>by simp only[bE]at e;cases e;exact⟨w,wf,trivial⟩
 |j::js,ρ,a,ρ2,L1,L2,w,wf,e=>by
  cases h:ρ[j]?.join with
  |none=>simp[bE,h]at e
  |some x=>
   have m:=join_some h;obtain⟨v,p⟩:=wf.get m;have A:Wd b H ((v,x)::(L1++(flat σ (ρ.set j none)++L2))):=w.perm ((((bx m p).append_right _).append_left _).trans aav);have k:∀{y:OD}{c:DEnv}{z:DEnv×DEnv},Wd b H ((v,y)::(L1++(flat σ c++L2)))->Wf σ c->bE c js=some z->(some y::z.1,z.2)=(a,ρ2)->Wd b H (flat (capV σ (j::js)) a++(L1++(flat σ ρ2++L2)))/\Wf σ ρ2/\Wf (capV σ (j::js)) a:=λ{y c z} r wf1 f g=>by
    cases g;obtain⟨J,o,n⟩:=pN (L1:=(v,y)::L1) r wf1 (show bE c js=some (z.1,z.2) from f);have B:capV σ (j::js)=some v::capV σ js:=by unfold capV;rw[aam,yG p]
    rw[B];exact⟨J.perm aav,o,n⟩
   have I:∀{z:DEnv×DEnv},bE (ρ.set j none) js=some z->(some x::z.1,z.2)=(a,ρ2)->Wd b H (flat (capV σ (j::js)) a++(L1++(flat σ ρ2++L2)))/\Wf σ ρ2/\Wf (capV σ (j::js)) a:=λ{z} f g=>k A wf.off f g;have l:∀{c:DEnv}{y:OD},(match bE c js with|some z=>some (some y::z.1,z.2)|none=>none)=some (a,ρ2)->∃z,bE c js=some z/\(some y::z.1,z.2)=(a,ρ2):=λ{c y} q=>by
    cases t:bE c js with
    |none=>rw[t]at q;cases q
    |some z=>rw[t]at q;exact⟨z,rfl,aaC q⟩
   cases x with
   |fz d=>simp only[bE,h]at e;obtain⟨z,f,g⟩:=l e;have r:=A.dup;have C:j<ρ.length:=(aai.mp m).1;have D:σ.set j (some v)=σ:=set_self p;have s:=cL (v:=v) (x:=.fz d) C wf.len;rw[D,set_self m]at s;exact k (r.perm (List.Perm.cons _ (aav.symm.trans ((s.symm.append_right _).append_left _)))) wf f g
   |_=>simp only[bE,h]at e;obtain⟨z,f,g⟩:=l e;exact I f g
theorem kD:∀{js:List Nat}{ρ a:DEnv}{L1 L2:List (V×OD)},Wd b H (L1++(flat (capV σ js) a++(flat σ ρ++L2)))->Wf σ ρ->Wf (capV σ js) a->Wd b H (L1++(flat σ (bL ρ js a)++L2))/\Wf σ (bL ρ js a)
 |[],ρ,a,L1,L2,w,wf,wf2=>by
  cases a with
  |nil=>exact⟨w,wf⟩
  |cons _ _=>simp[capV,Wf]at wf2
 |j::js,ρ,[],L1,L2,w,wf,wf2=>by simp[capV,Wf]at wf2
 |j::js,ρ,o::a,L1,L2,w,wf,wf2=>by
  have m:capV σ (j::js)=(σ[j]?).join::capV σ js:=rfl;rw[m]at w wf2;cases o with
  |none=>rw[bf]at w;exact kD (js:=js) w wf (by cases h:(σ[j]?).join<;>(rw[h]at wf2;exact wf2))
  |some x=>
   cases h:(σ[j]?).join with
   |none=>rw[h]at wf2;simp[Wf]at wf2
   |some v=>
    rw[h]at w wf2;have n:Wd b H ((v,x)::(L1++(flat (capV σ js) a++(flat σ ρ++L2)))):=w.perm (aav )
    ·have g:=join_some h;have k:j<ρ.length:=by rw[<-wf.len];exact(aai.mp g).1
     have f:σ.set j (some v)=σ:=set_self g;have e:=cL (v:=v) (x:=x) k wf.len;rw[f]at e;have c:Wf σ (ρ.set j (some x)):=by have:=wf.put (i:=j) (v:=v) (x:=x);rw[f]at this;exact this
     refine kD (ρ:=ρ.set j (some x)) ?_ c wf2;have l:Wd b H (((v,x)::L1++flat (capV σ js) a)++(flat σ (ρ.set j none)++L2)):=Wd.qd (by simpa using n) wf j;refine l.perm ?_;rw[<-aac L1];refine List.Perm.trans ?_ ((e.symm.append_right _).append_left _);simp only[aaQ];exact aav.symm
theorem Wf.drop:∀{n:Nat}{σ:St}{ρ:DEnv},Wf σ ρ->Wf (σ.drop n) (ρ.drop n)
 |0,_,_,h=>h
 |_+1,[],[],_=>trivial
 |_+1,[],_::_,h=>by simp[Wf]at h
 |_+1,_::_,[],h=>by simp[Wf]at h
 |n+1,o::σ,none::ρ,h=>Wf.drop (n:=n) h
 |n+1,some _::σ,some _::ρ,h=>Wf.drop (ρ:=ρ) h
 |_+1,none::_,some _::_,h=>by simp[Wf]at h
theorem f6:∀{n:Nat}{σ:St}{ρ:DEnv},Wf σ ρ->∃L,flat σ ρ=L++flat (σ.drop n) (ρ.drop n)
 |0,σ,ρ,_=>⟨[],rfl⟩
 |_+1,[],[],_=>⟨[],rfl⟩
 |_+1,[],_::_,h=>by simp[Wf]at h
 |_+1,_::_,[],h=>by simp[Wf]at h
 |n+1,o::σ,none::ρ,h=>by obtain⟨L,e⟩:=f6 (ρ:=ρ) h;exact⟨L,by rw[bf];exact e⟩
 |n+1,some v::σ,some x::ρ,h=>by obtain⟨L,e⟩:=f6 (ρ:=ρ) h;exact⟨(v,x)::L,by simp only[flat,aaQ,List.drop_succ_cons];rw[e]⟩
 |_+1,none::_,some _::_,h=>by simp[Wf]at h
def u0:flat (List.replicate n none++σ) (List.replicate n none++ρ)=flat σ ρ:=by
 induction n with
 |zero=>rfl
 |succ n a=>rw[abx,abx,aaQ,aaQ,bf,a]
def CB(h:Wf σ ρ):Wf (List.replicate n none++σ) (List.replicate n none++ρ):=by
 induction n with
 |zero=>exact h
 |succ n a=>rw[abx,abx];exact a
theorem Rel.grow(R:Rel b F σ H ρ (v::(vs++[.ref D])) (.val (.fz d)::(rs++[.val (.lst (out.map OD.fz))])))(e:vs.length=rs.length):
  ∃ys,H D=some (.lst ys)/\ys.length=out.length/\Rel b F σ (upd H D (.lst (ys++[v]))) ρ (vs++[.ref D]) (rs++[.val (.lst ((out++[d]).map OD.fz))]):=by
 have f:=R.drop;have t:stk (vs++[.ref D]) (rs++[.val (.lst (out.map OD.fz))])=stk vs rs++[(.ref D,.lst (out.map OD.fz))]:=by rw[aC e];rfl
 have w:Wd b H ((v,.fz d)::((stk vs rs++[(.ref D,.lst (out.map OD.fz))])++(flat σ ρ++ff F))):=by have:=R.wd;simp only[stk]at this;rw[t]at this;exact this
 have q:Wd b H ([v].zip [OD.fz d]++((.ref D,.lst (out.map OD.fz))::(stk vs rs++(flat σ ρ++ff F)))):=w.perm (by
  refine List.Perm.cons _ ?_;rw[aac];exact aav)
 obtain⟨a,ys,j,k,l,m⟩:=q.zm (ks:=[]) rfl rfl;cases j;refine⟨ys,k,by simpa using l,f.wf,?_,f.wff,?_⟩
 ·obtain⟨r,_⟩:=(aH e).mp f.al;exact(aH e).mpr ⟨r,trivial⟩
 ·have s:=m (ys++[v]) ((out++[d]).map OD.fz) λS H A C z p o h=>⟨A++C,by rw[aaw];exact Ows.append p o,h,λc g=>aaj.mp g⟩
  have n:stk (vs++[.ref D]) (rs++[.val (.lst ((out++[d]).map OD.fz))])=stk vs rs++[(.ref D,.lst ((out++[d]).map OD.fz))]:=by rw[aC e];rfl
  rw[n];refine s.perm ?_;rw[aac];exact aav.symm
end
def CD{a:Type}(A B C T F:List a):(A++(B++(C++(T++F)))).Perm (B++(A++((T++C)++F))):=by refine(acp A B _).trans (abl _ (abl _ ?_));rw[<-aac];exact abb.append_right _
abbrev DC:=DEnv->(List PyData->DEnv->Prop)->Prop
def sq(K:Waa)(tc:TC)(h:DC):Prop:=∀(b:Bs) (F:List Fr) (d:St) (H:Hp) (f:DEnv) (vs:List V) (e:List OR) (D:Addr) (a:List PyData) (Qd:List PyData->DEnv->Prop) (Q:Hp->Prop),b.K=K->vs.length=e.length->a.length<1000000->Rel b F d H f (vs++[.ref D]) (e++[.val (.lst (a.map OD.fz))])->h f Qd ->
 (∀g c o,Rel b F d g c (vs++[.ref D]) (e++[.val (.lst ((a++o).map OD.fz))])->o.length<=1->Qd o c->Q g)->tc D d H Q
inductive PDc (Y:Cx)(ifs:List Expr)(elt:Expr)(dc:DC):Prop|mk (tc:TC) (h:∀D,nV Y D ifs elt tc) (s:sq Y.K tc dc)
section
variable{X Y:Cx}{K:Waa}{a b c e elt iter tg:Expr}{es ifs:List Expr}{da db:DE}{dT:DT}{pos p:Pos}{x:Str}
def pO(a:DE):DC:=λh Q=>a h λr g=>∃d f,frz1 g r=some (d,f)/\Q [d] f
def iy(s:bA K ta da):sq K (pw ta) (pO da):=λb F t H l C A D n I Q f i B R h q=>s b F t H l _ _ _ _ f R h λv y r j w ⟨d,g,e,o⟩=>by obtain⟨u,k,z,m⟩:=(w.frz1 e).grow i;exact⟨u,k,aay (by omega) (by decide:1000001<=sizeLine),q _ _ _ m (aae _) o⟩
theorem su:PDe Y elt da->PDc Y [] elt (pO da)
 |⟨_,h,s⟩=>⟨_,λD=>rQ h,iy s⟩
def yH(t:DT)(a:DE):DC:=λf Q=>t f λk d=>if k=true then pO a d Q else Q [] d
theorem u6:PDt Y c dT->PDe Y elt da->PDc Y [c] elt (yH dT da)
 |⟨_,d,s1⟩,⟨_,h2,s2⟩=>⟨_,λD=>ud d h2,λb F σ H ρ vs rs D out m Q g j l R h q=>s1 b F σ H ρ _ _ _ _ g R h λk f ρ1 i d=>by
  cases k with
  |true=>rw[if_pos rfl]at d ⊢;exact iy s2 b F σ f ρ1 vs rs D out _ _ g j l i d q
  |false=>rw[if_neg aak]at d ⊢;exact q f ρ1 [] (by rw[aaq];exact i) (aaI _) d⟩
def pP(t:DI)(nt:Nat)(fr:List Nat)(g:DG)(n:DC):DE:=λi Q=>t i λs q=>s.length<1000000/\∃h l,bE q fr=some (h,l)/\∃m:Nat->List PyData->DEnv->Prop,m 0 [] (List.replicate nt none++h) /\
 (∀k d f i,s[k]?=some d->m k f i->g (.fz d) i λr=>n r λo j=>m (k+1) (f++o) j)/\∀f i,m s.length f i->Q (.val (.lst (f.map OD.fz))) (bL l fr (i.drop nt))
theorem CF{d:Type}(x:d)(S L P T C F:List d):(x::(S++((L++P)++((T++C)++F)))).Perm (L++((x::(S++T))++(P++(C++F)))):=by
 have e:x::(S++((L++P)++((T++C)++F)))=x::(S++(L++(P++(T++(C++F))))):=by simp only[aac]
 rw[e];refine List.Perm.trans ?_ aav.symm;refine List.Perm.cons _ ((acp S L _).trans (abl _ ?_));show (S++(P++(T++(C++F)))).Perm ((S++T)++(P++(C++F)));rw[aac];exact abl _ (acp P T _)
def SndY{f:Type}(h:f->OD)(j:f->Nat)(K:Waa)(tc:TC)(da:f->DEnv->(f->DEnv->Prop)->Prop):Prop:=∀(b:Bs) (F:List Fr) (i:St) (H:Hp) (l:DEnv) (vs:List V) (k:List OR) (D:Addr) (d:f) (Qd:f->DEnv->Prop) (Q:Hp->Prop),b.K=K->vs.length=k.length->j d<1000000->Rel b F i H l (vs++[.ref D]) (k++[.val (h d)])->da d l Qd ->
 (∀m g o,Rel b F i m g (vs++[.ref D]) (k++[.val (h o)])->j o<=j d+1->Qd o g->Q m)->tc D i H Q
abbrev TZ:=Addr->TB
def CG{g:Type}(i:g->OD)(l:g->Nat)(K:Waa)(nt:Nat)(tc:TZ)(da:g->DEnv->(g->DEnv->Prop)->Prop):Prop:=∀(b:Bs) (F:List Fr) (m:St) (H:Hp) (n:DEnv) (vs:List V) (k:List OR) (D:Addr) (d:g) (Qd:g->DEnv->Prop) (Q:St->Hp->Prop),b.K=K->vs.length=k.length->NoRf Ff k->l d<1000000->Rel b F m H n (vs++[.ref D]) (k++[.val (i d)])->da d n Qd ->
 (∀f q h o,(∀j,nt<=j->f[j]?=m[j]?)->Rel b F f q h (vs++[.ref D]) (k++[.val (i o)])->l o<=l d+1->Qd o h->Q f q)->tc D m H Q
theorem SndY.z{f:Type}{d:f->OD}{j:f->Nat}{nt:Nat}{tc:TC}{da:f->DEnv->(f->DEnv->Prop)->Prop}(h:SndY d j K tc da):CG d j K nt (λD σ H Q=>tc D σ H (Q σ)) da:=
 λb F σ H s y n D i A Q l m _ u R t q=>h b F σ H s y n D i A (Q σ) l m u R t λw g o k v r=>q σ w g o (λ_ _=>rfl) k v r
def tCZ(o0:HO)(J:It)(nt:Nat)(fr:List Nat)(g:CC->TG)(tc:CC->TZ)(σ:St)(d:Hp)(Q:VK):Prop:=∀(c:CC) D,d D=none->GW J (g c) (tc c D) (bQ nt fr σ) (upd d D o0) λ_ f=>Q (.ref D) f
theorem jO{y:Type}{l:y->OD}{T:y->Nat}{a0:y}{o0:HO}{nt:Nat}{fr:List Nat}{g:CC->TG}{tc:CC->TZ}{dg:DG}{da:y->DEnv->(y->DEnv->Prop)->Prop}(W:∀{b:Bs}{H:Hp}{L:List (V×OD)}{D:Addr},Wd b H L->H D=none->Wd b (upd H D o0) ((.ref D,l a0)::L))(l0:T a0=0)(s2:∀c,ju K Ff nt (g c) dg)(s3:∀c,CG l T K nt (tc c) da){b:Bs}{F:List Fr}{σ:St}{O:Hp}{ρ1 ρ2 s:DEnv}{τ vs:List V}{θ rs:List OR}{J:It}{ds:List PyData}{Iv:Nat->y->DEnv->Prop}{Q:VK}(hK:b.K=K)(v:vs.length=rs.length)(nr:NoRf Ff rs)
  (z:Rel b F σ O ρ1 (vs++τ) (rs++θ)) (it:jv b J vs rs ds) (a4:ds.length<1000000) (hc:bE ρ1 fr=some (s,ρ2)) (i0:Iv 0 a0 (List.replicate nt none++s)) (step:∀k d out ρ,ds[k]?=some d->Iv k out ρ->dg (.fz d) ρ λh=>da out h λo C=>Iv (k+1) o C)
  (q:∀u D out h,Rel b F σ u (bL ρ2 fr (h.drop nt)) (.ref D::(vs++τ)) (.val (l out)::(rs++θ))->Iv ds.length out h->Q (.ref D) u):tCZ o0 J nt fr g tc σ O Q:=by
 intro cc D hD;have w1:Wd b O (stk vs rs++(flat σ ρ1++(stk τ θ++ff F))):=z.wd.perm (by
  rw[aC v,aac];refine abl _ ?_;rw[<-aac,<-aac];exact abb.append_right _)
 obtain⟨w2,I,S⟩:=pN w1 z.wf hc;have al:=(aH v).mp z.al;have w3:=W w2 hD;have R2:Rel b (⟨σ,ρ2,τ,θ⟩::F) (bQ nt fr σ) (upd O D o0) (List.replicate nt none++s) (vs++[.ref D]) (rs++[.val (l a0)]):=by
  refine⟨CB S,(aH v).mpr ⟨nr.al0 al.1,trivial⟩,λf hf=>?_,?_⟩
  ·rcases aab.mp hf with rfl|hf
   ·exact⟨I,al.2⟩
   ·exact z.wff f hf
  ·have ec:flat (bQ nt fr σ) (List.replicate nt none++s)=flat (capV σ fr) s:=u0;rw[ec,aC v];refine w3.perm ?_;have ef:ff (⟨σ,ρ2,τ,θ⟩::F)=(stk τ θ++flat σ ρ2)++ff F:=rfl;rw[ef];have P:stk [V.ref D] [OR.val (l a0)]=[(V.ref D,l a0)]:=rfl;rw[P];refine List.Perm.trans (List.Perm.cons _ (CD (flat (capV σ fr) s) (stk vs rs) (flat σ ρ2) (stk τ θ) (ff F))) ?_;rw[aac (stk vs rs)];exact aav.symm
 refine⟨λi m t u=>m=ds.length-i/\i<=ds.length/\(∀j,nt<=j->t[j]?=(bQ nt fr σ)[j]?)/\∃out h,T out<=i/\Rel b (⟨σ,ρ2,τ,θ⟩::F) t u h (vs++[.ref D]) (rs++[.val (l out)])/\Iv i out h,⟨_,rfl,aaI _,λ_ _=>rfl,a0,_,abP l0,R2,i0⟩,?_⟩;rintro i m t u ⟨rfl,hi,B,out,h,ho,N,iv⟩;obtain⟨go,A⟩:=it _ t u h [.ref D] [.val (l out)] N i;by_cases w:i<ds.length
 ·obtain⟨g1,g2⟩:=go w;refine .inr ⟨g1,λx H2 hy=>?_⟩;have M:ds[i]?=some ds[i]:=aan w;have nn:NoRf Ff (rs++[.val (l out)]):=NoRf.app nr λr hr=>.inl ⟨_,aap.mp hr⟩;refine s2 cc b _ t H2 h _ _ x _ _ _ hK nn (g2 x H2 _ hy M) (step i _ out h M iv) λa3 H3 a2 R3 k3 h3=>?_;exact s3 cc b _ a3 H3 a2 vs rs D out _ _ hK v nr (by omega) R3 h3 λa5 H4 U o k4 R4 lo h4=>⟨_,by omega,rfl,w,λj hj=>(k4 j hj).trans ((k3 j hj).1.trans (B j hj)),o,U,by omega,R4,h4⟩
 ·have e:i=ds.length:=by omega
  subst e;refine .inl ⟨A rfl,q u D out h ?_ iv⟩;have M:t.drop nt=capV σ fr:=by apply abS;intro j;rw[abT,B _ (by omega)];unfold bQ capV;rw[abh (by simp),abQ,acH]
  have w4:Wd b u ((.ref D,l out)::(stk vs rs++(flat t h++((stk τ θ++flat σ ρ2)++ff F)))):=N.wd.perm (by
   rw[aC v];have P:stk [V.ref D] [OR.val (l out)]=[(V.ref D,l out)]:=rfl;rw[P,aac];exact aav)
  obtain⟨L0,eL⟩:=f6 (n:=nt) N.wf;rw[eL,M]at w4;have w5:Wd b u (((.ref D,l out)::stk (vs++τ) (rs++θ))++(flat (capV σ fr) (h.drop nt)++(flat σ ρ2++ff F))):=by refine Wd.drops (L1:=L0) (w4.perm ?_);rw[aC v];exact CF (.ref D,l out) (stk vs rs) L0 (flat (capV σ fr) (h.drop nt)) (stk τ θ) (flat σ ρ2) (ff F)
  have a1:Wf (capV σ fr) (h.drop nt):=M▸N.wf.drop;obtain⟨w6,Z⟩:=kD w5 I a1;exact⟨Z,z.al,z.wff,w6⟩
theorem l9{j:Type}{i:j->OD}{s:j->Nat}{a0:j}{o0:HO}{nt:Nat}{fr:List Nat}{g:CC->TG}{tc:CC->TC}{u:DG}{da:j->DEnv->(j->DEnv->Prop)->Prop}(m:∀{b:Bs}{H:Hp}{L:List (V×OD)}{D:Addr},Wd b H L->H D=none->Wd b (upd H D o0) ((.ref D,i a0)::L))(I:s a0=0)(M:∀c,ju K Ff nt (g c) u)(C:∀c,SndY i s K (tc c) da){b:Bs}{F:List Fr}{σ:St}{r:Hp}{ρ1 ρ2 f:DEnv}{τ vs:List V}{θ rs:List OR}{J:It}{ds:List PyData}{Iv:Nat->j->DEnv->Prop}{Q:VK}(y:b.K=K)(B:vs.length=rs.length)(A:NoRf Ff rs)
  (N:Rel b F σ r ρ1 (vs++τ) (rs++θ)) (it:jv b J vs rs ds) (n:ds.length<1000000) (v:bE ρ1 fr=some (f,ρ2)) (w:Iv 0 a0 (List.replicate nt none++f)) (step:∀k d out ρ,ds[k]?=some d->Iv k out ρ->u (.fz d) ρ λh=>da out h λo l=>Iv (k+1) o l)
  (q:∀t D out h,Rel b F σ t (bL ρ2 fr (h.drop nt)) (.ref D::(vs++τ)) (.val (i out)::(rs++θ))->Iv ds.length out h->Q (.ref D) t):tCZ o0 J nt fr g (tZ tc) σ r Q:=
 jO (tc:=tZ tc) m I M (λc=>(C c).z) y B A N it n v w step q
theorem jP{n:DC}(B:∀c,ju K Ff nt (g c) dg)(y:∀c,sq K (tc c) n){b:Bs}{F:List Fr}{Iv:Nat->List PyData->DEnv->Prop}(l:b.K=K)(m:vs.length=rs.length)(v:NoRf Ff rs)
  (C:Rel b F σ H1 ρ1 (vs++τ) (rs++θ)) (it:jv b J vs rs ds) (r:ds.length<1000000) (t:bE ρ1 fr=some (inner,ρ2)) (u:Iv 0 [] (List.replicate nt none++inner)) (step:∀k d out ρ,ds[k]?=some d->Iv k out ρ->dg (.fz d) ρ λf=>n f λo i=>Iv (k+1) (out++o) i)
  (q:∀j D out f,Rel b F σ j (bL ρ2 fr (f.drop nt)) (.ref D::(vs++τ)) (.val (.lst (out.map OD.fz))::(rs++θ))->Iv ds.length out f->Q (.ref D) j):pC (λ_ _ k=>k J H1) nt fr g tc σ H1 Q:=
 l9 (da:=λout ρ Q=>n ρ λo f=>Q (out++o) f) (λw h=>Wd.eu w rfl h) rfl B (λc b F σ H ρ vs rs D out I Q l m A R h q=>y c b F σ H ρ vs rs D out (λo f=>I (out++o) f) Q l m A R h λj f o s L z=>q j f (out++o) s (by rw[aal];omega) z) l m v C it r t u step q
theorem mf(A:oh K wi di)(N:∀c,ju K Ff nt (g c) dg)(z:∀c,sq K (tc c) dc):bA K (pC wi nt fr g tc) (pP di nt fr dg dc):=by intro b F L H B C O Qd Q n R h q;refine A b F L H B C O _ _ n R h λJ T U y Z W i v P I w=>?_;obtain⟨k,j,u,r,S,s,d,l⟩:=w;exact jP N z n i v P I k r s d λM D m f o t=>q _ M _ _ (Rel.drops (Rel.u5 o i) i) (l m f t)
end
end
section
section
variable{X:Cx}{K:Waa}{a b c e elt iter tg:Expr}{es ifs:List Expr}{da db dc':DE}{dt:DA}{dT:DT}{pos p:Pos}{x:Str}{N:List Str}{nt:Nat}{fr:List Nat}{scope:Scope}{di:DI}{dg:DG}{dc:DC}
def PDg.ex{Y:CC->Cx}(i:∀c,(Y c).K=K)(h:∀c,PDg (Y c) Ff m tg dg):∃g:CC->TG,∀c,PG (Y c) tg (g c)/\ju K Ff m (g c) dg:=
 abU (r:=λc g=>PG (Y c) tg g/\ju K Ff m g dg) λc=>(by obtain⟨f,d,j⟩:=h c;exact⟨f,d,i c▸j⟩)
def PDc.ex{Y:CC->Cx}(i:∀c,(Y c).K=K)(h:∀c,PDc (Y c) ifs elt dc):∃g:CC->TC,∀c,(∀D,nV (Y c) D ifs elt (g c))/\sq K (g c) dc:=
 abU (r:=λc g=>(∀D,nV (Y c) D ifs elt g)/\sq K g dc) λc=>(by obtain⟨f,d,j⟩:=h c;exact⟨f,d,i c▸j⟩)
theorem yI(i:X.calm=true)(S:CompScope N nt fr X.N scope X.env.scope)(hs:∀x,foldedSetIterable iter X.env x=pure x:=by intro _;rfl)(k:PDi X tg iter di)(j:∀c:CC,PDg (ba X N scope c) Ff nt tg dg)(l:∀c:CC,PDc (ba X N scope c) ifs elt dc):
  PDe X (.ListComp elt [⟨tg,iter,ifs,0⟩] scope pos) (pP di nt fr dg dc):=by
 obtain⟨o,h,m⟩:=k;obtain⟨g,d⟩:=PDg.ex (K:=X.K) (Y:=λc=>ba X N scope c) (λ_=>rfl) j;obtain⟨n,f⟩:=PDc.ex (Y:=λc=>ba X N scope c) (λ_=>rfl) l;exact⟨_,pD i S h (λc=>(d c).1) (λc D=>(f c).1 D) hs,mf m (λc=>(d c).2) λc=>(f c).2⟩
end
noncomputable def aX:List Bool->DEnv->List OR->Option (List OD×DEnv)
 |[],ρ,[]=>some ([],ρ)
 |true::ios,ρ,r::rs=>match mv1 ρ r with
  |some (x,ρ1)=>match aX ios ρ1 rs with|some (xs,ρ2)=>some (x::xs,ρ2)|none=>none
  |none=>none
 |false::ios,ρ,r::rs=>match frz1 ρ r with
  |some (d,ρ1)=>match aX ios ρ1 rs with|some (xs,ρ2)=>some (.fz d::xs,ρ2)|none=>none
  |none=>none
 |_,_,_=>none
def dH:List Bool->List OR->List OD->DEnv->DEnv
 |true::ios,.rf j::rs,y::ys,ρ=>dH ios rs ys (ρ.set j (some y))
 |_::ios,_::rs,_::ys,ρ=>dH ios rs ys ρ
 |_,_,_,ρ=>ρ
section
variable{b:Bs}{F:List Fr}{σ:St}{H H':Hp}{ρ ρ':DEnv}{τ vs:List V}{θ rs:List OR}{v u:V}{r:OR}{x y:OD}{d:PyData}{i j:Nat}
theorem argsR_ok:∀{ios:List Bool}{vs:List V}{rs:List OR}{ρ ρ':DEnv}{xs:List OD}{τ:List V}{θ:List OR},Rel b F σ H ρ (vs++τ) (rs++θ)->vs.length=rs.length->aX ios ρ rs=some (xs,ρ')->Rel b F σ H ρ' (vs++τ) (xs.map OR.val++θ)/\vs.length=xs.length
 |[],[],[],_,_,_,_,_,R,_,e=>by simp only[aX]at e;cases e;exact⟨R,rfl⟩
 |true::ios,v::vs,r::rs,ρ,ρ',ds,τ,θ,R,e,h=>by
  simp only[aX]at h;split at h
  ·rename_i x ρ1 f;split at h
   ·rename_i xs ρ2 g;cases h;have k:Rel b F σ H ρ1 (v::(vs++τ)) (.val x::(rs++θ)):=Rel.mv1 R f;have c:vs.length=rs.length:=by simpa using e
    obtain⟨l,a⟩:=argsR_ok (Rel.u5 k c) c g;exact⟨Rel.za l (by rw[a,aaa]),by simp[a]⟩
   ·cases h
  ·cases h
 |false::ios,v::vs,r::rs,ρ,ρ',ds,τ,θ,R,e,h=>by
  simp only[aX]at h;split at h
  ·rename_i x ρ1 f;split at h
   ·rename_i xs ρ2 g;cases h;have k:Rel b F σ H ρ1 (v::(vs++τ)) (.val (.fz x)::(rs++θ)):=Rel.frz1 R f;have c:vs.length=rs.length:=by simpa using e
    obtain⟨l,a⟩:=argsR_ok (Rel.u5 k c) c g;exact⟨Rel.za l (by rw[a,aaa]),by simp[a]⟩
   ·cases h
  ·cases h
 |_,[],_::_,_,_,_,_,_,_,e,_=>by simp at e
 |_,_::_,[],_,_,_,_,_,_,e,_=>by simp at e
 |[],_::_,_::_,_,_,_,_,_,_,_,h=>by simp[aX]at h
 |true::_,[],[],_,_,_,_,_,_,_,h=>by simp[aX]at h
 |false::_,[],[],_,_,_,_,_,_,_,h=>by simp[aX]at h
theorem Rel.give(R:Rel b F σ H ρ (v::τ) (.val y::θ))(ev:σ[j]?=some (some v)):Rel b F σ H (ρ.set j (some y)) τ θ:=
 Rel.back R.wf (Rel.drop R).al R.wff ev (Wd.qd R.wd R.wf j)
theorem bM:∀{ios:List Bool}{vs:List V}{rs:List OR}{ys:List OD}{ρ:DEnv},Al σ vs rs->vs.length=ys.length->Rel b F σ H ρ (vs++τ) (ys.map OR.val++θ)->Rel b F σ H (dH ios rs ys ρ) τ θ
 |ios,[],[],[],ρ,_,_,R=>by cases ios with|nil=>exact R|cons i ios=>cases i<;>exact R
 |[],v::vs,r::rs,y::ys,ρ,al,e,R=>by
  have a:Al σ vs rs:=by cases r with|val _=>exact al|rf _=>exact al.2
  have:=bM (ios:=[]) a (by simpa using e) (Rel.drop R);cases vs<;>cases rs<;>cases ys<;>exact this
 |true::ios,v::vs,.rf j::rs,y::ys,ρ,al,e,R=>bM (ys:=ys) al.2 (by simpa using e) (Rel.give R al.1)
 |true::ios,v::vs,.val x::rs,y::ys,ρ,al,e,R=>bM (ys:=ys) al (by simpa using e) (Rel.drop R)
 |false::ios,v::vs,.rf j::rs,y::ys,ρ,al,e,R=>bM (ys:=ys) al.2 (by simpa using e) (Rel.drop R)
 |false::ios,v::vs,.val x::rs,y::ys,ρ,al,e,R=>bM (ys:=ys) al (by simpa using e) (Rel.drop R)
 |_,[],_::_,_,_,al,_,_=>by simp[Al]at al
 |_,_::_,[],_,_,al,_,_=>by simp[Al]at al
 |_,[],_,_::_,_,_,e,_=>by simp at e
 |_,_::_,_,[],_,_,e,_=>by simp at e
end
structure FnD (P:Program)(w:World)(K:Waa)(mg:Str->Option Value)(base:Heap)(k:Nat)(f:Addr)(fd:FuncData)(ps:List Str)(sp:DSp):Prop where
 ok:FnOk P w K mg base CX0 k f fd ps (toSp K sp)
 mono:uB sp
section
variable{X:Cx}{K:Waa}{a b c e:Expr}{es:List Expr}{da db dc:DE}{dt:DA}{pos p:Pos}{x:Str}{k:Nat}{f:Addr}{fd:FuncData}{ps:List Str}{sp:DSp}
def Ap(sp:DSp)(ios:List Bool)(t:DA):DE:=λj Q=>t j λi g=>∃h d,aX ios g i=some (h,d)/\sp h λx l=>Q (.val x) (dH ios i l d)
theorem u7(G:FnD X.prog X.w X.K X.mg X.base k f fd ps sp)(C:uC X.K ta dt):bA X.K (Ah (toSp X.K sp) [] E0 ta) (Ap sp ios dt):=λb F u H D i n T Q r R h q=>C b F u H D i n _ _ r R h λz O P B s t ⟨S,g,M,L⟩=>by
  obtain⟨o,j⟩:=argsR_ok t s M;have N:=((aH s).mp t.al).1;have w:=o.vals j;rw[aaq,<-r];refine w.call j G.mono (G.mono _ _ _ (λx y I d v m A=>q v m _ _ ?_ I) L);have J:Rel b F u m g (v::(z++i)) (.val x::(y.map OR.val++n)):=by have l:=o.drops (by simpa using j);refine⟨l.wf,(aH (by simpa using d)).mpr ⟨fg d,l.al⟩,l.wff,?_⟩;show Wd b m ((v,x)::(stk (z++i) (y.map OR.val++n)++_));rw[aC (by simpa using d),cf d,aac];exact A
  exact bM N d (Rel.u5 J (by simpa using d))
theorem yJ{ios:List Bool} (G:FnD X.prog X.w X.K X.mg X.base k f fd ps sp) (l:Room k X.A) (j:Gl X x) (h:X.mg x=some (.ref f)) (hk:PySem.W.keepIn X.K (.ref f)=true) (i:Binds X.K fd ps []) (g:(x==("__debug__":Str))=false:=by decide)
  (m:starEach (e::es) X.env=(false,eval e X.env)::starEach es X.env:=by rfl) (d:(backTo pos (starEach es X.env)).any (·.1)=false:=by rfl):PDa X (e::es) dt->PDe X (.Call (.Name x p) (e::es) [] pos) (Ap sp ios dt)
 |⟨_,h1,s1⟩=>⟨_,xV (E:=E0) G.ok l j h hk i .nil pv h1 g m d,u7 G s1⟩
end
section
variable{P:Program}{w:World}{K:Waa}{mg:Str->Option Value}{base:Heap}
theorem bH:∀{vs:List V}{n:Nat}{ρ:DEnv},flat (vs.map some++List.replicate n none) ρ=flat (vs.map some) ρ
 |[],0,_=>rfl
 |[],n+1,[]=>rfl
 |[],n+1,o::ρ=>by
  rw[aaD,aaX,abx];have:flat (none::List.replicate n none) (o::ρ)=flat (List.replicate n none) ρ:=by cases o<;>rfl
  rw[this];have:=bH (vs:=[]) (n:=n) (ρ:=ρ);simpa[flat] using this
 |v::vs,n,[]=>by simp[flat]
 |v::vs,n,none::ρ=>by simp only[aam,aaQ,bf];exact bH
 |v::vs,n,some x::ρ=>by simp only[aam,aaQ,flat];rw[bH]
theorem iz:∀{vs:List V}{xs:List OD}{k:Nat},vs.length=xs.length->flat (vs.map some) (xs.map some++List.replicate k none)=vs.zip xs
 |[],[],0,_=>rfl
 |[],[],_+1,_=>rfl
 |v::vs,x::xs,k,e=>by simp only[aam,aaQ,flat,abr];rw[iz (by simpa using e)]
 |[],_::_,_,e=>by simp at e
 |_::_,[],_,e=>by simp at e
theorem iA:∀{vs:List V}{xs:List OD}{k:Nat},vs.length=xs.length->Wf (vs.map some++List.replicate k none) (xs.map some++List.replicate k none)
 |[],[],0,_=>trivial
 |[],[],k+1,_=>by have:=iA (vs:=[]) (xs:=[]) (k:=k) rfl;exact this
 |v::vs,x::xs,k,e=>iA (xs:=xs) (by simpa using e)
 |[],_::_,_,e=>by simp at e
 |_::_,[],_,e=>by simp at e
def f9(N:Nat)(xs:List OD):DEnv:=xs.map some++List.replicate (N-xs.length) none
noncomputable def aT:Nat->List Bool->List OD->DEnv->Option (List OD)
 |_,[],[],_=>some []
 |i,true::ios,_::xs,ρ=>match ρ[i]?.join with
  |some y=>match aT (i+1) ios xs ρ with|some ys=>some (y::ys)|none=>none
  |none=>none
 |i,false::ios,.fz d::xs,ρ=>match aT (i+1) ios xs ρ with|some ys=>some (.fz d::ys)|none=>none
 |_,_,_,_=>none
def WS(ios:List Bool):Nat->Prop:=λj=>ios[j]?=some true
def fh:Nat->List Bool->List V->List V
 |i,true::ios,v::vs=>v::fh (i+1) ios vs
 |i,false::ios,_::vs=>fh (i+1) ios vs
 |_,_,_=>[]
def dm:Nat->List Bool->List OR
 |i,true::ios=>.rf i::dm (i+1) ios
 |i,false::ios=>dm (i+1) ios
 |_,[]=>[]
theorem kF:∀{ios:List Bool}{vs:List V}{i:Nat},ios.length=vs.length->(∀k v,vs[k]?=some v->σ[i+k]?=some (some v))->Al σ (fh i ios vs) (dm i ios)
 |[],[],_,_,_=>trivial
 |true::ios,v::vs,i,e,h=>⟨h 0 v rfl,kF (ios:=ios) (by simpa using e) λk u a=>by have:=h (k+1) u (by simpa using a);rwa [show i+1+k=i+(k+1) by omega]⟩
 |false::ios,v::vs,i,e,h=>kF (i:=i+1) (by simpa using e) λk u a=>by have:=h (k+1) u (by simpa using a);rwa [show i+1+k=i+(k+1) by omega]
 |[],_::_,_,e,_=>by simp at e
 |true::_,[],_,e,_=>by simp at e
 |false::_,[],_,e,_=>by simp at e
theorem kG:∀{ios:List Bool}{i:Nat}{W:Nat->Prop},(∀k,ios[k]?=some true->W (i+k))->NoRf W (dm i ios)
 |[],_,_,_=>λr a=>by simp[dm]at a
 |true::ios,i,W,h=>λr a=>by
  simp only[dm]at a;rcases aab.mp a with rfl|a
  ·exact .inr ⟨i,h 0 rfl,rfl⟩
  ·exact kG (ios:=ios) (λk b=>by have:=h (k+1) (by simpa using b);rwa [show i+1+k=i+(k+1) by omega]) r a
 |false::ios,i,W,h=>λr a=>kG (i:=i+1) (λk b=>by have:=h (k+1) (by simpa using b);rwa [show i+1+k=i+(k+1) by omega]) r a
theorem fj:∀{ios:List Bool}{vs:List V}{i:Nat},stk (fh i ios vs) (dm i ios)=[]
 |[],[],_=>rfl
 |[],_::_,_=>rfl
 |true::ios,[],i=>by simp[fh,dm,stk]
 |false::ios,[],i=>by have:fh i (false::ios) ([]:List V)=[]:=rfl;rw[this];cases h:dm i (false::ios)<;>rfl
 |true::ios,v::vs,i=>fj (i:=i+1)
 |false::ios,v::vs,i=>fj (i:=i+1)
end
end
section
section
variable{P:Program}{w:World}{K:Waa}{mg:Str->Option Value}{base:Heap}{b:Bs}{σ:St}{H:Hp}
theorem Wd.addF(w:Wd b H L)(f:Fz b.K (λa=>b.C a\/b.S0 a) b.H0 v d):Wd b H ((v,.fz d)::L):=by
 obtain⟨A,g,h,e⟩:=w.out;refine⟨⟨A,Ows.cons (.fz (f.step (w.fr.weak λc z=>.inl (.inl z)) λc z=>?_)) g,h,e⟩,w.fr,w.s0,w.nt⟩;rcases z with z|z
 ·exact(e c z).elim .inr λz=>.inl (.inl z)
 ·exact .inl (.inr z)
theorem gb:∀{ios:List Bool}{xs:List OD}{i j:Nat}{ρ:DEnv},j<i->aT i ios xs (ρ.set j none)=aT i ios xs ρ
 |[],[],_,_,_,_=>rfl
 |true::ios,_::xs,i,j,ρ,h=>by simp only[aT];rw[abf (by omega),gb (by omega)]
 |false::ios,.fz d::xs,i,j,ρ,h=>by simp only[aT];rw[gb (by omega)]
 |[],_::_,_,_,_,_=>rfl
 |true::_,[],_,_,_,_=>rfl
 |false::_,[],_,_,_,_=>rfl
 |false::_,.lst _::_,_,_,_,_=>rfl
 |false::_,.tup _::_,_,_,_,_=>rfl
 |false::_,.dic _ _::_,_,_,_,_=>rfl
 |false::_,.obj _ _ _::_,_,_,_,_=>rfl
 |false::_,.pin _ _ _::_,_,_,_,_=>rfl
 |false::_,.hole _::_,_,_,_,_=>rfl
theorem kH:∀{ios:List Bool}{vs:List V}{xs ys:List OD}{i:Nat}{ρ:DEnv}{L1:List (V×OD)},vs.length=xs.length->(∀(k:Nat) v d,vs[k]?=some v->xs[k]?=some (.fz d)->Fz b.K (λa=>b.C a\/b.S0 a) b.H0 v d)->aT i ios xs ρ=some ys ->
  Al σ (fh i ios vs) (dm i ios)->Wf σ ρ->Wd b H (L1++flat σ ρ)->vs.length=ys.length/\∃R,Wd b H (L1++(vs.zip ys++R))
 |[],[],[],ys,i,ρ,L1,_,_,e,_,_,w=>by simp only[aT]at e;cases e;exact⟨rfl,_,w⟩
 |true::ios,v::vs,x::xs,ys,i,ρ,L1,el,hf,e,al,wf,w=>by
  simp only[aT]at e;split at e
  ·rename_i y n;split at e
   ·rename_i g h;cases e;have o:σ[i]?=some (some v):=al.1;have m:Wd b H ((L1++[(v,y)])++flat σ (ρ.set i none)):=w.perm (by
     rw[aac];exact(bx (join_some n) o).append_left _)
    obtain⟨f,R,c⟩:=kH (by simpa using el) (λk u d l j=>hf (k+1) u d (by simpa using l) (by simpa using j)) (by rw[gb (by omega)];exact h) al.2 wf.off m;exact⟨by simp[f],R,by rw[aac]at c;exact c⟩
   ·cases e
  ·cases e
 |false::ios,v::vs,.fz d::xs,ys,i,ρ,L1,el,hf,e,al,wf,w=>by
  simp only[aT]at e;split at e
  ·rename_i g h;cases e;have m:Wd b H ((L1++[(v,.fz d)])++flat σ ρ):=(w.addF (hf 0 v d rfl rfl)).perm (by
    rw[aac];exact aav.symm)
   obtain⟨f,R,c⟩:=kH (by simpa using el) (λk u d l j=>hf (k+1) u d (by simpa using l) (by simpa using j)) h al wf m;exact⟨by simp[f],R,by rw[aac]at c;exact c⟩
  ·cases e
 |[],_::_,_::_,_,_,_,_,_,_,e,_,_,_=>by simp[aT]at e
 |true::_,[],[],_,_,_,_,_,_,e,_,_,_=>by simp[aT]at e
 |false::_,[],[],_,_,_,_,_,_,e,_,_,_=>by simp[aT]at e
 |false::_,_::_,.lst _::_,_,_,_,_,_,_,e,_,_,_=>by simp[aT]at e
 |false::_,_::_,.tup _::_,_,_,_,_,_,_,e,_,_,_=>by simp[aT]at e
 |false::_,_::_,.dic _ _::_,_,_,_,_,_,_,e,_,_,_=>by simp[aT]at e
 |false::_,_::_,.obj _ _ _::_,_,_,_,_,_,_,e,_,_,_=>by simp[aT]at e
 |false::_,_::_,.pin _ _ _::_,_,_,_,_,_,_,e,_,_,_=>by simp[aT]at e
 |false::_,_::_,.hole _::_,_,_,_,_,_,_,e,_,_,_=>by simp[aT]at e
 |_,[],_::_,_,_,_,_,e,_,_,_,_,_=>by simp at e
 |_,_::_,[],_,_,_,_,e,_,_,_,_,_=>by simp at e
theorem Ows.fzAt:∀{vs:List V}{xs:List OD}{A:List Addr}{k:Nat}{v:V}{d:PyData},Ows b S H vs xs A->vs[k]?=some v->xs[k]?=some (.fz d)->Fz b.K S H v d
 |_,_,_,0,_,_,.cons r _,e,e'=>by simp at e e';subst e e';cases r with|fz f=>exact f
 |_,_,_,k+1,_,_,.cons _ t,e,e'=>Ows.fzAt (k:=k) t (by simpa using e) (by simpa using e')
 |_,_,_,_,_,_,.nil,e,_=>by simp at e
theorem Fun.okD{D:Stmt}(F:Fun K x qual D f fd)(S:FnScope N ps (aI D))(y:uB sp)(a1:ios.length=ps.length)(u:∀xs Q,sp xs Q->xs.length=ps.length)
  (o:∀(n:Value) (A:Around) (g:List Env) (s:Shared) (H:Hp) (E:XK),Room k (A.deeper (envOfC qual (aI D) s.heap.objs.size f n))->∀(xs:List OD) (Q:OD->List OD->Prop),sp xs Q ->
   ∃O,PDss (ki CX0 P w K mg base N qual (aI D) f n A g s H E).nox (WS ios) (bY D) O/\O { nx:=λY=>∃l,aT 0 ios xs Y=some l/\Q (.fz .none) l,rt:=λx Y=>∃l,aT 0 ios xs Y=some l/\Q x l } (f9 N.length xs)):FnD P w K mg base (k+1) f fd ps sp:=by
 refine⟨F.ok S (λm H Q E h=>?_) (λn A g s H m Q E hr h=>?_),y⟩
 ·obtain⟨S,xs,A,_,_,I,_,h⟩:=h;rw[I.len];exact u _ _ h
 ·obtain⟨S',xs,A',al,nt,I,nA,h⟩:=h;obtain⟨O,⟨ts,h1,s1⟩,hd⟩:=o n A g s H E hr xs _ h;refine⟨ts,h1,?_⟩
  let b:Bs:=⟨K,H,S',λa=>a∈A'⟩
  have L:=I.len;have a0:=u _ _ h;have w0:Wd b H (m.zip xs):=⟨⟨A',OwL.rd I,nA,λa ha=>.inr ha⟩,Kp.refl _ _,λa z=>⟨(al a z).1,(al a z).2⟩,nt⟩
  have sg:∀(k:Nat) v,m[k]?=some v->(start N m)[0+k]?=some (some v):=λk v e=>by have hk:=(aai.mp e).1;unfold start;rw[aaT,aaS (by simpa using hk),aas,e];rfl
  have R:Rel b [] (start N m) H (f9 N.length xs) (fh 0 ios m) (dm 0 ios):=by unfold start f9;refine⟨by rw[L];exact iA L,kF (by omega) sg,λf hf=>(by cases hf),?_⟩;rw[fj];show Wd b H ([]++(flat _ _++[]));rw[aaX,aaq,bH,iz L];exact w0
  have J:∀(j:St) (p:Hp) (i:DEnv) (v:V) (x:OD),Rel b [] j p i (v::fh 0 ios m) (.val x::dm 0 ios)->(∃l,aT 0 ios xs i=some l/\Ji K S' A' m H Q x l)->Q v p:=λj p i v x q ⟨l,ey,ha⟩=>by
   have w':Wd b p ([(v,x)]++flat j i):=by have:=q.wd;simp only[stk]at this;rw[fj]at this;simpa[ff] using this
   obtain⟨T,Z,M⟩:=kH L (λk v d h1 h2=>(Ows.fzAt I h1 h2).sub λa z=>z) ey q.al q.wf w';have e1:[(v,x)]++(m.zip l++Z)=(v::m).zip (x::l)++Z:=rfl;rw[e1]at M;obtain⟨B0,h0,nd,W⟩:=M.out;have X:=M.r6 h0;obtain⟨B,B2,rfl,r,t⟩:=OwL.j2 h0;refine ha v p B M.fr (Ows.sub X (λc z=>z.imp (aaf _) id) (OwL.v5 (by simp[T]) r)) (aaB.mp nd).1 λa U=>W a (aaf _ U)
  refine s1 b [] (start N m) H _ _ _ _ _ rfl (kG λk hk=>?_) R hd ⟨λj p i q C=>?_,λ_ _ _ _ C=>C.elim,λ_ _ _ _ C=>C.elim,J⟩
  ·rw[aaT];exact hk
  ·exact J j p i .non _ (q.sc .non) C
end
end
section
open AutoSeq1 (wpAny_loadPart')
section
variable{X:Cx}{a:Expr}{es:List Expr}{p pos:Pos}
def CH{ρ:DEnv}(h:ρ[j]?.join=some x):ρ.set j (some x)=ρ:=bB (join_some h)
end
end
section
section
variable{X:Cx}{K:Waa}{o e:Expr}{da db:DE}{pos pos' apos cpos:Pos}
def Fk(n:Int):Value->Bool
 |.int a _=>a==n
 |_=>false
end
end
section
section
variable{X:Cx}{K:Waa}{a:Expr}{pos:Pos}
def Fm(K:Waa):R2:=λx y H Q=>∃a b d c,x=.ref a/\y=.ref b/\SqT K H a d/\SqT K H b c/\c≠[]/\d.length+c.length<=sizeLine /\
 (d=[]->Q (.ref b) H)/\(∀p,H p=none->Q (.ref p) (upd H p (.tup (d++c))))
theorem yK:OpR X (binaryOp .Add) (Fm X.K):=by
 intro c s W H x y v u Q I r D h;obtain⟨a,b,C,Y,B,M,J,t,o,U,O,Z⟩:=id h;by_cases k:C=[]
 ·subst B M;cases r;cases D;obtain⟨p,r1,⟨⟨S,N,w,T⟩,L,q,n,A⟩,_⟩:=I.tuple J;obtain⟨f,r2,⟨⟨z,j,m,l⟩,d,i,P,g⟩,_⟩:=I.tuple t;simp only at q A i g;subst q A i g;have e:=r1.l3.mpr k;refine concat_meets ⟨_,L,rfl⟩ ⟨_,d,rfl⟩ adM seq_tuple_add F.slot_tuple_add F.entry_tuple_add (F.args_tuple_add_2 _ _) (tuple_addW0 a b p.toArray f.toArray n P N j T l ?_) ⟨L,d,.ref b,H,I,rfl,O k⟩;rw[e];rfl
 ·exact ya c s W H x y v u Q I r D ⟨a,b,C,Y,B,M,J,t,k,U,λe=>absurd e o,λ_=>Z⟩
def Fo(a b:DE):DE:=λg Q=>a g λx e=>b e λy c=>∃f d,Cq c x=some f/\Cq c y=some d/\d≠[]/\f.length+d.length<=1000000/\Q (.val (.fz (.tuple (f++d)))) c
theorem CI(h:Cq ρ x=some ds):L2.frz1 ρ x=some (.tuple ds,ρ):=by
 obtain⟨c,b,e⟩:=aaO.mp h;have f:c=.fz (.tuple ds):=by
  cases c with
  |fz d=>cases d<;>cases e;rfl
  |_=>cases e
 subst f;cases x with
 |val z=>cases b;rfl
 |rf j=>have b:ρ[j]?.join=some (.fz (.tuple ds)):=b;show (ρ[j]?.join).bind _=_;rw[b];show some (PyData.tuple ds,ρ.set j (some (.fz (.tuple ds))))=_;rw[CH b]
theorem yL:PDe X a da->PDe X b db->PDe X (.BinOp a .Add b pos) (Fo da db)
 |⟨_,n,s1⟩,⟨_,i,s2⟩=>⟨_,Af yK n i,λb F σ H ρ τ θ T Q j R h q=>s1 b F σ H ρ τ θ _ _ j R h λv s x ρ1 O n=>s2 b F σ s ρ1 _ _ _ _ j O n λu I y ρ2 e ⟨ds,es,N,p,m,d,i⟩=>by
  have J:=(e.frz1 (CI p)).il;obtain⟨P,t,L⟩:=aaO.mp N;obtain⟨S,M,A⟩:=aaO.mp p;obtain⟨a,B,rfl,k,r,w⟩:=e.wd.h7 (e.mem1 t) L;obtain⟨c,D,rfl,f,g,o⟩:=w.h7 (aag _ (e.mem M)) A;rw[<-aac]at o;rw[j]at r g;refine⟨a,c,B,D,rfl,rfl,r,g,λz=>m (by subst z;cases es with|nil=>rfl|cons _ _=>simp at f),nZ (by omega),λz=>?_,λl C=>q _ _ _ _ (Rel.il (Rel.il (e.kq o (by simp[k,f]) (λz d=>?_) C))) i⟩
  ·have:ds=[]:=by subst z;cases ds with|nil=>rfl|cons _ _=>simp at k
   subst this;exact q _ I _ _ J i
  ·rw[aaw,yx (by simpa using k)]at d;refine aaf _ ?_;rcases aaj.mp d with d|d
   ·exact aag _ d
   ·exact aaf _ d⟩
theorem sx:Je X "list.index" (λx vs H Q=>∃(l:Addr) (ns:List Int) (n:Int) (j:Nat),x=.ref l/\vs=[.int n]/\SqL X.K H l (ns.map V.int)/\ns[j]?=some n/\(∀m,m<j->ns[m]?≠some n)/\j<1000000/\Q (.int j) H):=by
 intro M s σ H x vs v us Q I P rv h;obtain⟨l,ns,n,j,rfl,rfl,hS,L,C,hb,q⟩:=h;cases P;obtain⟨u,rfl,t,rfl⟩:=rv.one;obtain⟨c,r,Y,_⟩:=I.list hS;have N:c.length=ns.length:=by rw[<-r.length,aaa]
 have d:∀m (g:m<c.length),∃a f,c[m]=.int a f/\ns[m]?=some a:=λm g=>by
  have B:m<ns.length:=by omega
  obtain⟨u,S,f,rfl⟩:=r.get (by rw[aas,aan B];rfl);exact⟨ns[m],f,(aai.mp S).2,aan B⟩
 have p:j<c.length:=by have:=(aai.mp L).1;omega
 have D:Fk n c[j]=true:=by obtain⟨a,f,A,w⟩:=d j p;rw[L]at w;cases w;rw[A];simp[Fk]
 have i:∀m (g:m<c.length),m<j->Fk n c[m]=false:=λm g J=>by obtain⟨a,f,A,w⟩:=d m g;rw[A];have:a≠n:=λz=>C m J (z▸w);simp[Fk,this]
 obtain⟨⟨oc,U,dt,W⟩,k,O,T,Z⟩:=Y.isList;cases O;cases Z;refine call_meets F.slot_list_index ⟨_,k,rfl⟩ F.entry_list_index (F.args_list_index_2 _ _) (SeqAt.list_indexAt l c.toArray T U W (.int n t) (Fk n) j p (by omega) D i) ⟨k,λy hy=>?_,.int j,H,I.kept λb o e=>e,⟨_,rfl⟩,q⟩;obtain⟨m,g,rfl⟩:=List.getElem_of_mem (List.mem_toArray.mp hy);obtain⟨a,f,A,w⟩:=d m g;rw[A];exact(MeetsSeq.EqGives.int a n f t).at _ _
theorem mj{prog:Program}{w:World}{A:Around}{E:Value->Shared->Prop}(j:s.heap.IsTuple l vs.toArray)(q:vs.length<=1000)
  (h:∀h',(∀b o,s.heap.get? b=some o->h'.get? b=some o)->Q vs { s with heap:=h' }):wpAny (model prog w) A (collect (.ref l)) Q E s:=by
 obtain⟨o,p,i,n,k⟩:=id j;unfold collect;refine ac3 (adQ (adn entry_proto_collect' ?_));show wpAny _ _ (newList [] >>= λr=>again (.builtin "list.__iadd__" ⟨[r,.ref l],[]⟩)) _ _ s;refine ac3 (wpAny_newList (ac4 ⟨Code.quiet_builtin _ (by decide +kernel),adn entry_list_iadd' ?_⟩));generalize hH:s.heap.push (seqObj "list" #[] 0)=g;show wpAny _ _ (Builtin.List.listExtendWith (.ref s.heap.objs.size) (.ref l) (.ref s.heap.objs.size)) _ _ { s with heap:=g };have f:g.get? s.heap.objs.size=some (seqObj "list" #[] 0):=by rw[<-hH];exact ac7 _ rfl
 have c:g.get? l=some o:=by rw[<-hH];exact ac6 _ p
 have t:1000<=sizeLine:=by decide
 unfold Builtin.List.listExtendWith;refine ac3 (wpAny_typeOf ⟨o,c,i⟩ ?_);have m:(Value.type "tuple" == Value.type "tuple")=true:=by rfl
 rw[if_pos (by rw[m];simp)];refine ac3 (listItems_at c k (ac3 (listItems_at f rfl ?_)));rw[if_neg (by simp)];refine ac3 (listUpdate_at f rfl ?_ (aaI _) (by show (#[]++vs.toArray).size<=sizeLine+1;simp only[Array.size_append,aaz,aaJ];omega));refine ac4 ?_;show wpAny (model prog w) A (load s.heap.objs.size >>= λo=>match o.data with
   |.seq xs _=>pure xs.toList
   |_=>unsupported "internal:collect") Q E _
 refine ac3 (wpAny_load (get?_update_seq f _) ?_);show wpAny _ _ (pure ((#[]:Array Value)++vs.toArray).toList) Q E _;rw[show ((#[]:Array Value)++vs.toArray).toList=vs by simp];refine ac4 (h _ λb o e=>?_);have d:b≠s.heap.objs.size:=aar (ac5 e);rw[Heap.get?_update_ne _ _ _ _ d,<-hH];exact ac6 _ e
end
end
section
def Jl(i:DI)(h:DG)(g:DE)(out:List PyData)(ρ:DEnv)(Q:List PyData->DEnv->Prop):Prop:=i ρ λf e=>out.length+f.length<1000000/\∃b:Nat->List PyData->DEnv->Prop,b 0 out e/\(∀k d out ρ,f[k]?=some d->b k out ρ->h (.fz d) ρ λc=>pO g c λo a=>b (k+1) (out++o) a)/\∀out ρ,b f.length out ρ->Q out ρ
abbrev Ic(z:List PyData×Nat):OD:=.lst (z.1.map OD.fz)
abbrev Ie(di:DI)(dg:DG)(de:DE)(z:List PyData×Nat)(ρ:DEnv)(Q:List PyData×Nat->DEnv->Prop):Prop:=Jl di dg de z.1 ρ λo ρ'=>Q (o,z.2+1) ρ'
theorem CJ{K:Waa}(s1:oh K wi di)(s2:ju K Ff nt g dg)(s3:bA K te de):CG Ic Prod.snd K nt (λD=>HE wi g (HF te D)) (Ie di dg de):=by
 intro b F T H ρ U N D l Qd Q w el Z hz R h q;refine s1 b F T H ρ _ _ _ _ w R h λJ H1 n z d f s Y R1 it hZ=>?_;obtain⟨hl,W,X,u,C⟩:=hZ;refine⟨λi m c v=>m=n.length-i/\i<=n.length/\(∀j,nt<=j->c[j]?=T[j]?)/\∃o a,o.length<=l.1.length+i/\Rel b F c v a (d++(U++[.ref D])) (f++(N++[.val (.lst (o.map OD.fz))]))/\W i o a,⟨_,rfl,aaI _,λ_ _=>rfl,l.1,z,aae _,R1,X⟩,?_⟩;rintro i m c v ⟨rfl,hi,p,o,a,ho,I,L⟩;obtain⟨go,t⟩:=it F c v a _ _ I i;by_cases k:i<n.length
 ·obtain⟨g1,g2⟩:=go k;refine .inr ⟨g1,λx O hy=>?_⟩;have S:n[i]?=some n[i]:=aan k;refine s2 b F c O a _ _ x _ _ _ w (NoRf.app Y (NoRf.app Z λr hr=>.inl ⟨_,aap.mp hr⟩)) (g2 x O _ hy S) (u i _ o a S L) λB H3 y P k3 h3=>?_;rw[<-aac d,<-aac f]at P;exact iy s3 b F B H3 y (d++U) (f++N) D o _ _ w (by simp[el,s]) (by omega) P h3 λH4 A o4 R4 lo h4=>⟨_,by omega,rfl,k,λj M=>(k3 j M).1.trans (p j M),o++o4,A,by rw[aal];omega,by rw[<-aac d,<-aac f];exact R4,h4⟩
 ·have e:i=n.length:=by omega
  subst e;exact .inl ⟨t rfl,q c v a (o,l.2+1) p (I.drops s) (aae _) (C o a L)⟩
def CK(n:DI)(nt:Nat)(fr:List Nat)(g:DG)(h:DI)(g2:DG)(m:DE):DE:=λc Q=>n c λl j=>l.length<1000000/\∃b e,bE j fr=some (b,e)/\∃f:Nat->List PyData->DEnv->Prop,f 0 [] (List.replicate nt none++b) /\
 (∀k d a c,l[k]?=some d->f k a c->g (.fz d) c λi=>Jl h g2 m a i (f (k+1)))/\∀a c,f l.length a c->Q (.val (.lst (a.map OD.fz))) (bL e fr (c.drop nt))
theorem sy{K:Waa}{f:CC->TI}{g g2:CC->TG}{s:CC->TE}(I:oh K wi di)(S:∀c,ju K Ff nt (g c) dg)(B:∀c,oh K (f c) di2)(T:∀c,ju K Ff nt (g2 c) dg2)(C:∀c,bA K (s c) de):
  bA K (uf wi nt fr g λc D=>HE (f c) (g2 c) (HF (s c) D)) (CK di nt fr dg di2 dg2 de):=by
 intro b F O H n M U Qd Q r R h q;refine I b F O H n M U _ _ r R h λJ Y Z A vs rs l y W N z=>?_;obtain⟨o,m,x,u,X,v,e,p⟩:=z;exact jO (a0:=([],0)) (λw h=>Wd.eu w rfl h) rfl S (λc=>CJ (B c) (T c) (C c)) r l y W N o u v (λk d a n L j=>e k d a.1 n L j) λP D a i t j=>q _ P _ _ (Rel.drops (Rel.u5 t l) l) (p a.1 i j)
end
end L2
namespace Np
open PySem
def Jm(L:List Nat)(j r:Nat):Prop:=r<=L.length/\(∀(i x:Nat),L[i]?=some x->i<r->x<j)/\∀(i x:Nat),L[i]?=some x->r<=i->j<=x
theorem iB(m:xs.toList.Pairwise (·<·)):∀(f lo hi:Nat),hi-lo<=f->lo<=hi->hi<=xs.size ->
  (∀(i x:Nat),xs.toList[i]?=some x->i<lo->x<j)->(∀(i x:Nat),xs.toList[i]?=some x->hi<=i->j<=x)->Jm xs.toList j (SetTable.below.go xs j f lo hi)
 |0,lo,hi,hf,hl,hh,h1,h2=>by
  have e:lo=hi:=by omega
  subst e;exact⟨by rw[aaL];exact hh,h1,h2⟩
 |f+1,lo,hi,hf,hl,hh,h1,h2=>by
  unfold SetTable.below.go;by_cases g:lo<hi
  ·rw[if_pos g];have o:(lo+hi)/2<xs.size:=by omega
   have k:xs.toList[(lo+hi)/2]?=some xs[(lo+hi)/2]:=by simp[o]
   have t:xs.getD ((lo+hi)/2) j=xs[(lo+hi)/2]:=by simp[Array.getD,o]
   have p:∀(a b x y:Nat),a<b->xs.toList[a]?=some x->xs.toList[b]?=some y->x<y:=λa b x y n w q=>by obtain⟨r,v⟩:=aai.mp w;obtain⟨s,u⟩:=aai.mp q;rw[<-v,<-u];exact abV.mp m a b r s n
   dsimp only;rw[t];by_cases d:xs[(lo+hi)/2]<j
   ·rw[if_pos d];refine iB m f _ hi (by omega) (by omega) hh (λi x c l=>?_) h2;rcases aby i ((lo+hi)/2) with h|h
    ·exact abi (p _ _ _ _ h c k) d
    ·have e:i=(lo+hi)/2:=by omega
     subst e;rw[k]at c;cases c;exact d
   ·rw[if_neg d];refine iB m f lo _ (by omega) (by omega) (by omega) h1 λi x c l=>?_;rcases aby ((lo+hi)/2) i with h|h
    ·exact aax (Nat.not_lt.mp d) (aaZ (p _ _ _ _ h k c))
    ·have e:i=(lo+hi)/2:=by omega
     subst e;rw[k]at c;cases c;exact Nat.not_lt.mp d
  ·rw[if_neg g];have e:lo=hi:=by omega
   subst e;exact⟨by simpa using hh,h1,h2⟩
def iC(a:xs.toList.Pairwise (·<·)):Jm xs.toList j (SetTable.below xs j):=
 iB a xs.size 0 xs.size (aae _) (aaI _) (aae _) (λ_ _ _ h=>absurd h (acq _)) λi x b c=>by have:=(aai.mp b).1;rw[aaL]at this;omega
structure Tab (B:Bool)(t:SetTable):Prop where
 led:t.led=!B
 dum:t.dummies=#[]
 ris:t.place.toList.Pairwise (·<·)
section
variable{B:Bool}{t:SetTable}
def Tab.fresh:Tab B (.fresh 0 0 (!B)):=⟨rfl,rfl,.nil⟩
def Tab.standIn(h:Tab B t)(n:Nat):Tab B (t.standIn n):=⟨h.led,rfl,by
 show (Array.range n).toList.Pairwise _;rw[Array.toList_range];exact acr⟩
def Tab.orStandIn(h:Tab B t)(n:Nat):Tab B (t.orStandIn n):=by
 unfold SetTable.orStandIn;split
 ·exact h
 ·exact h.standIn n
theorem Tab.slot(h:Tab B t)(j:Nat):t.slot j≠.dummy/\(t.slot j=.empty->∀x∈t.place.toList,x≠j):=by
 have n:SetTable.has t.dummies j=false:=by rw[h.dum];rfl
 have b:=iC (j:=j) h.ris;unfold SetTable.slot;dsimp only;rw[n];by_cases e:(t.place[SetTable.below t.place j]?==some j)=true
 ·rw[if_pos e];exact⟨(λh=>by cases h),λh=>by cases h⟩
 ·rw[if_neg e];refine⟨(λh=>by cases h),λ_ x l k=>e ?_⟩;subst k;obtain⟨i,a⟩:=abz l;have p:¬ i<SetTable.below t.place x:=λh=>aaR _ (b.2.1 i x a h);have o:¬ SetTable.below t.place x<i:=λf=>by obtain⟨d,m⟩:=aai.mp a;have c:=abi f d;have:=abV.mp h.ris _ _ c d f;rw[m]at this;exact aaR _ (abR (b.2.2 _ _ (aan c) (aae _)) this)
  have g:i=SetTable.below t.place x:=by omega
  rw[beq_iff_eq,<-g,<-aaW];exact a
theorem Tab.rx(h:Tab B t):∀(f:Nat) (p:SetTable.Probe) (j:Nat) (d:Option Nat),p.dummy=none->SetTable.probe.go t g k f p=some (.empty j d)->d=none/\t.slot j=.empty
 |0,_,_,_,_,e=>by cases e
 |f+1,p,j,d,hp,e=>by
  unfold SetTable.probe.go at e;have hs:=h.slot p.j;have b:(t.advance p).dummy=none:=by unfold SetTable.advance;split<;>exact hp
  cases a:t.slot p.j with
  |empty=>rw[a]at e;cases e;exact⟨hp,a⟩
  |dummy=>exact absurd a hs.1
  |live i=>
   rw[a]at e;dsimp only at e;split at e
   ·cases e
   ·exact Tab.rx h f _ j d b e
theorem Tab.freeSlot(h:Tab B t)(e:t.freeSlot k=some (j,b)):∀x∈t.place.toList,x≠j:=by
 unfold SetTable.freeSlot at e;cases a:t.probe (λ_=>k+1) k (t.probeStart k) with
 |none=>rw[a]at e;cases e
 |some m=>
  rw[a]at e;cases m with
  |candidate _ _ _=>cases e
  |empty c d=>obtain⟨f,g⟩:=h.rx _ _ c d rfl a;subst f;cases e;exact(h.slot c).2 g
theorem Tab.put(h:Tab B t)(m:∀x∈t.place.toList,x≠j):Tab B (t.put j).1:=by
 have b:=iC (j:=j) h.ris;refine⟨h.led,?_,?_⟩
 ·show (if SetTable.has t.dummies j=true then _ else t.dummies)=#[];rw[h.dum];rfl
 ·show (SetTable.insertAt t.place (SetTable.below t.place j) j).toList.Pairwise _;rw[SetTable.toList_insertAt];have e:=h.ris;rw[<-acM (SetTable.below t.place j) t.place.toList,aa2]at e;have l:∀x∈t.place.toList.take (SetTable.below t.place j),x<j:=λx f=>by
   obtain⟨i,d⟩:=abz f;rw[acs]at d;split at d
   ·exact b.2.1 i x d (by assumption)
   ·cases d
  have o:∀x∈t.place.toList.drop (SetTable.below t.place j),j<x:=λx f=>by have n:=m x (acL f);obtain⟨i,d⟩:=abz f;rw[abT]at d;have:=b.2.2 _ x d (abj _ _);omega
  refine aa2.mpr ⟨e.1,abc.mpr ⟨o,e.2.1⟩,λa k c g=>?_⟩;rcases aab.mp g with rfl|g
  ·exact l a k
  ·exact e.2.2 a k c g
theorem Tab.laid{c:Bool}(e:SetTable.laid mask finger moves (!B) c hs=some (t,o)):Tab B t:=by
 unfold SetTable.laid at e;cases g:SetTable.layClean mask hs with
 |none=>rw[g]at e;cases e
 |some d=>
  rw[g]at e;cases e;refine⟨rfl,rfl,?_⟩;show (List.map _ _).Pairwise _;rw[acu,List.pairwise_filterMap];refine acr.imp λ{a b} hab x hx y hy=>?_;cases f:d.getD a none with
  |none=>rw[f]at hx;cases hx
  |some _=>cases h:d.getD b none with
   |none=>rw[h]at hy;cases hy
   |some _=>rw[f]at hx;rw[h]at hy;cases hx;cases hy;exact hab
def Tab.layNew(h:Tab B t)(es:Array (Int×Value))(k:Int)(x:Value):Tab B (layNew t es k x).2.1:=by
 unfold PySem.layNew;cases a:t.freeSlot k with
 |none=>exact h.standIn _
 |some p=>exact(h.put (h.freeSlot a)).orStandIn _
theorem Tab.relayAll(h:Tab B t)(es:Array (Int×Value))(n:Nat):Tab B (relayAll t es n).2.1:=by
 unfold PySem.relayAll;cases a:t.relaid (es.map (·.1)) n with
 |none=>exact h.standIn _
 |some p=>
  unfold SetTable.relaid at a;rw[h.led]at a;dsimp only;split
  ·exact Tab.laid a
  ·exact h.standIn _
end
end Np
namespace Np
open PySem
def jw(es:Array (Int×Value))(ep:Nat)(t:SetTable):Obj:={ cls:=.type "set",dict:=none,data:=.set es ep t }
def unI(e:Int×Value):Int:=match e.2 with|.int m _=>m|_=>0
def SetI(P:Program)(w:World)(h:Heap)(a:Addr)(B:Bool)(ns:List Int):Prop:=∃b c t,h.get? a=some (jw b c t)/\ElemsOf (intKind P w) b.toList/\(b.toList.map unI).Perm ns/\b.size<scanBound/\t.fits b.size=true/\Tab B t
def ddI(ns:List Int)(m:Int):List Int:=if m∈ns then ns else ns++[m]
section
variable{P:Program}{w:World}{A:Around}{E:Value->Shared->Prop}{s:Shared}{a:Addr}{B:Bool}{ns:List Int}
def om(h:(intKind P w).is k e.2=true):unI e=k:=by obtain⟨t,b⟩:=adK h;unfold unI;rw[b]
def SetI.at(I:SetI P w h a B ns)(k:∀o,h.get? a=some o->h'.get? a=some o):SetI P w h' a B ns:=
 let ⟨b,c,t,d,r⟩:=I;⟨b,c,t,k _ d,r⟩
def mo{h:Heap}(b:h.get? a=some (jw es ep t)):(h.update a (Obj.putSet es' t')).get? a=some (jw es' (ep+1) t'):=
 adf (Obj.putSet es' t') b rfl
theorem add_int{m:Int}{J:Tok}(hS:SetI P w s.heap a B ns)(F:ns.length+1<scanBound)
  (h:∀(b:Bool) (h':Heap),Heap.SameBut a s.heap h'->SetI P w h' a B (ddI ns m)->Q b { s with heap:=h' }):wpAny (model P w) A (setAddHashed a (.int m J) (hashInt m)) Q E s:=by
 obtain⟨z,ep,t,W,i,n,hb,hf,hT⟩:=hS;have S:z.size=ns.length:=by rw[<-n.length_eq,aaa,aaL]
 have u:=intKind_is P w m J;unfold setAddHashed setAddHashedIn;refine adb (ac3 (adu W rfl hf ?_));dsimp only;rw[byScan_of rfl hb i];simp only[↓reduceIte];unfold setAddByScan;refine ac3 (ac3 (adk (ac3 (wpAny_setScan_of u W rfl hf i ?_))));cases hr:List.findIdx? (λe=>(intKind P w).is m e.2) z.toList with
 |some j=>dsimp only;obtain⟨hj,Y,_⟩:=acN.mp hr;have M:m∈ns:=n.mem_iff.mp (aat.mpr ⟨_,acv hj,om Y⟩);refine ac4 (ac4 ?_);refine h false s.heap (Heap.SameBut.refl a s.heap) ⟨z,ep,t,W,i,?_,hb,hf,hT⟩;rw[ddI,if_pos M];exact n
 |none=>
  dsimp only;have M:m ∉ ns:=λM=>by obtain⟨e,he,e1⟩:=aat.mp (n.mem_iff.mpr M);obtain⟨⟨k,hk,_⟩,_⟩:=i e he;have:=List.findIdx?_eq_none_iff.mp hr e he;rw[om hk]at e1;subst e1;rw[hk]at this;exact Bool.noConfusion this
  have O:∀(b:Bool) {p:Shared}{Q':Unit->Shared->Prop},Q' () p->wpAny (model P w) A (match b with|true=>rule "set.scan.the-table-gave-way" |false=>pure ()) Q' E p:=
   λb p Q' hq=>by cases b<;>first|exact ac4 hq|exact adk hq
  have d:=layNew_perm t z (hashInt m) (.int m J);have f:=layNew_fits t z (hashInt m) (.int m J);have r:=hT.layNew z (hashInt m) (.int m J);generalize layNew t z (hashInt m) (.int m J)=L at d f r ⊢;obtain⟨c,l,g,a1⟩:=L;dsimp only at d f r ⊢;rw[Array.toList_push]at d;have v:ElemsOf (intKind P w) c.toList:=(i.push u rfl).perm d;have x:(c.toList.map unI).Perm (ddI ns m):=by rw[ddI,if_neg M];refine(d.map unI).trans ?_;rw[aaw];exact n.append_right _
  have y:c.size<scanBound:=by rw[<-aaL,d.length_eq,aal,aaL,S];exact F
  have C:=mo (es':=c) (t':=l) W;have N:=ada s.heap a (Obj.putSet c l);have tail:wpAny (model P w) A (do
    storeSet a c l
    if (!g&&l.tooFull)=true then do
      (match (relayAll l c (SetTable.grown c.size)).2.2 with|true=>rule "set.scan.the-table-gave-way" |false=>pure ())
      storeSet a (relayAll l c (SetTable.grown c.size)).1 (relayAll l c (SetTable.grown c.size)).2.1
      pure (some true)
     else pure (some true)) (λo Z=>o=some true/\Q true Z) E s:=by
   refine ac3 (wpAny_storeSet_of W rfl ?_ (adR y));split
   ·have T:=relayAll_perm l c (SetTable.grown c.size);have I:=relayAll_fits l c (SetTable.grown c.size);have H:=r.relayAll c (SetTable.grown c.size);generalize relayAll l c (SetTable.grown c.size)=R at T I H ⊢;obtain⟨D,t2,X⟩:=R;dsimp only at T I H ⊢;have a0:D.size=c.size:=by rw[<-aaL,T.length_eq,aaL]
    have U:D.size<scanBound:=by rw[a0];exact y
    refine ac3 (O _ (ac3 (wpAny_storeSet_of C rfl ?_ (adR U))));exact ac4 ⟨rfl,h true _ (N.trans (ada _ a _)) ⟨D,_,t2,mo C,v.perm T,(T.map unI).trans x,U,I,H⟩⟩
   ·exact ac4 ⟨rfl,h true _ N ⟨c,_,l,C,v,x,y,f,r⟩⟩
  refine ac3 (O _ ?_);split
  ·exact ac3 (ac4 (ac9 tail (λo Z q=>by obtain⟨rfl,q⟩:=q;exact ac4 q) λ_ _ e=>e))
  ·exact ac3 (ac4 (ac9 tail (λo Z q=>by obtain⟨rfl,q⟩:=q;exact ac4 q) λ_ _ e=>e))
end
end Np
namespace Np
open PySem PySem.Spec PyProof.Rows
def CL(ns:List Int)(m:Int):(ddI ns m).length<=ns.length+1:=by unfold ddI;split<;>simp
theorem eB:∀(l ns:List Int),(l.foldl ddI ns).length<=ns.length+l.length
 |[],ns=>aae _
 |m::l,ns=>by have:=eB l (ddI ns m);have:=CL ns m;simp only[abA,aau];omega
section
variable{P:Program}{w:World}{A:Around}{R:Result->Shared->Prop}{I S:Addr}{fp wr:List Addr}{Pp:Nat->Value->Prop}{St:Nat->Heap->Prop}{B:Bool}{vals:List Int}
theorem set_loop(W:Walks P w A.in1 I fp wr vals.length Pp St)(n:S ∉ fp)(p:∀i v,Pp i v->∃t,v=.int (vals.getD i 0) t)(a:vals.length+1<scanBound):
  ∀(k i:Nat) (s:Shared),vals.length-i=k->i<=vals.length->St i s.heap->SetI P w s.heap S B ((vals.take i).foldl ddI []) ->
   (∀(h':Heap) (x:Nat),(∀b o,b ∉ S::wr->s.heap.get? b=some o->h'.get? b=some o)->SetI P w h' S B (vals.foldl ddI [])->R (.ok (.ret .none)) { s with heap:=h',toks:=x }) ->
   codeAny (model P w) A (.builtin "set.update.loop" ⟨[.ref S,.ref I],[]⟩) R s:=by
 have l:S ∉ wr:=λh=>n (W.sub _ h);intro k;induction k with
 |zero=>
  intro i s Z X f q C;have z:i=vals.length:=by omega
  subst z;refine adn F.entry_set_update_loop ?_;rw[adx adS _];show wpAny _ A.in1 (pyNext (.ref I) >>= _) _ _ s;refine ac3 (W.done s _ _ f λh' x L=>?_);rw[abu]at q;exact ac4 (C h' x (λb o a e=>L b o (λh=>a (aah _ h)) e) (q.at λo e=>L S o l e))
 |succ k O=>
  intro i s Z X f q C;have c:i<vals.length:=by omega
  refine adn F.entry_set_update_loop ?_;rw[adx adS _];show wpAny _ A.in1 (pyNext (.ref I) >>= _) _ _ s;refine ac3 (W.item i s _ _ c f λv U N Q j g=>?_);obtain⟨t,rfl⟩:=p i v Q;have r:SetI P w U S B ((vals.take i).foldl ddI []):=q.at λo e=>g S o l e;show wpAny _ A.in1 (holding [Value.int (vals.getD i 0) t] (setAdd S (.int (vals.getD i 0) t)) >>= _) _ _ _;refine ac3 (adb ?_);unfold setAdd;refine adb (ac3 ((intKind P w).pyHash (k:=vals.getD i 0) (intKind_is _ _ _ _) ?_));have d:((vals.take i).foldl ddI []).length+1<scanBound:=by have:=eB (vals.take i) [];rw[aa7]at this;simp at this;omega
  refine add_int r d λb M m y=>?_;have Y:vals.take (i+1)=vals.take i++[vals.getD i 0]:=by rw[List.take_succ,abt,aan c];rfl
  have J:SetI P w M S B ((vals.take (i+1)).foldl ddI []):=by rw[Y,List.foldl_append];exact y
  refine ac4 ⟨ady adS _,O (i+1) _ (by omega) c (W.frame _ _ _ j λb a o e=>?_) J λT u D H=>C T u (λb o a e=>D b o a ?_) H⟩
  ·rw[m.2 b (λh:b=S=>n (by rw[<-h];exact a))];exact e
  ·show M.get? b=some o;rw[m.2 b (λh:b=S=>a (by rw[h];exact aad))];exact g b o (λh=>a (aah _ h)) e
end
section
variable{P:Program}{w:World}{A:Around}{E:Value->Shared->Prop}{s:Shared}
abbrev byT(w:World):Bool:=w.params.followText "set-order"
abbrev stO(w:World):Obj:={ cls:=.type "set",dict:=none,data:=.set #[] 0 (.fresh 0 0 (!byT w)) }
theorem set_new(a:Value){Q₁:Value->Shared->Prop}(h:Q₁ (.ref s.heap.objs.size) { s with heap:=s.heap.push (stO w) }):
  codeAny (model P w) A (.call (.builtin "set.__new__") ⟨[.type "set",a],[]⟩) (wants Q₁ E) s:=by
 refine adN ?_;show wpAny _ A.in1 (do checkBuiltinCall "set.__new__" ⟨[.type "set",a],[]⟩;again (.builtin "set.__new__" ⟨[.type "set",a],[]⟩)) _ _ s;refine ac3 (adE (PySem.F.newCall_set_1 a) (ac4 ⟨ady acO _,adn PySem.F.entry_set_new ?_⟩));rw[adx acO _];unfold Builtin.«set.__new__» Builtin.Frozenset.newClass;have b:=sub_set_self;obtain⟨c,g,d,e,f⟩:=s;dsimp only
 wp_walk
 refine adq (ac4 ?_);dsimp only;simp only[newObj];refine ac3 (wpAny_alloc (ac4 ?_));exact ac4 h
end
end Np
namespace PySem
open PySem.Spec
section
variable{prog:Program}{w:World}{A:Around}{E:Value->Shared->Prop}{s:Shared}
set_option maxHeartbeats 3200000 in
theorem set_seq{l:Addr}{items:Array Value}{ns:List Int}{Q:Value->Shared->Prop}(hh:A.handled=none)(t:s.heap.IsList l items\/s.heap.IsTuple l items)(T:PyProof.Rows.IntsAre items.toList ns)(q:ns.length+1<scanBound)
  (h:∀(h':Heap) (I:Nat),Np.SetI prog w h' s.heap.objs.size (Np.byT w) (ns.foldl Np.ddI [])->(∀b o,b<s.heap.objs.size->s.heap.get? b=some o->h'.get? b=some o)->Q (.ref s.heap.objs.size) { s with heap:=h',toks:=I }):
  wpAny (model prog w) A (call (.type "set") [.ref l]) Q E s:=by
 have u:items.size=ns.length:=by rw[<-PyProof.Rows.IntsAre.length T,aaL]
 obtain⟨c,tl,Y⟩:=ado.mro;have S:=ado.made;have W:=ado.sub;refine wpAny_call (adN ?_);show wpAny _ _ (callAny (.type "set") _) _ _ _;refine ac4 ⟨Code.quiet_builtin _ (by decide +kernel),adn F.entry_type_call ?_⟩;rw[Around.under_plain (weight_type_call_type "set" [.ref l] []) rfl];have h1:=ado.notType;have h2:=ado.canCreate;have a3:=F.typeCall_set_1 (.ref l)
 repeat (any_goals (first|assumption|wp_step))
 refine adm (Np.set_new (.ref l) (E:=E) (Q₁:=λy j=>y=.ref s.heap.objs.size/\j={ s with heap:=s.heap.push (Np.stO w) }) ⟨rfl,rfl⟩) λr j O=>?_;cases r with
 |error e=>exact O
 |ok fl=>
  cases fl with
  |ret y=>
   obtain⟨rfl,rfl⟩:=O;have hS:(s.heap.push (Np.stO w)).get? s.heap.objs.size=some (Np.stO w):=ac7 _ rfl;have hT:Shared.TypeIs { s with heap:=s.heap.push (Np.stO w) } (.ref s.heap.objs.size) "set":=⟨_,hS,rfl⟩
   have a2:=ado.init.lookup;have a1:=ado.init.bind (.ref s.heap.objs.size)
   repeat (any_goals (first|assumption|wp_step))
   refine adm (codeAny_call_builtin (R:=wants (λr f=>r=.none/\∃h' I,f={ s with heap:=h',toks:=I }/\Np.SetI prog w h' s.heap.objs.size (Np.byT w) (ns.foldl Np.ddI [])/\(∀b o,b<s.heap.objs.size->s.heap.get? b=some o->h'.get? b=some o)) E) ado.init.plain F.entry_set_init (check_set_init_1 hT ?_)) λz f a=>?_
   ·have g1:=F.sub_list_set;have g2:=F.sub_list_frozenset;have g3:=F.sub_tuple_set;have g4:=F.sub_tuple_frozenset;have g5:(Value.type "list" == Value.type "dict")=false:=by decide
    have g6:(Value.type "tuple" == Value.type "dict")=false:=by decide
    have C:A.in1.in1.in1.handled=none:=by simp[hh]
    rcases t with t|t <;>
    ·have d:=t.push (Np.stO w);obtain⟨ol,p,x,nl,H⟩:=id t;obtain⟨X,L,U,J⟩:=ol;simp only at x H;subst x;subst H;have a0:=ac6 (Np.stO w) p;unfold Builtin.«set.__init__» noKeywords Builtin.Frozenset.updateFrom;generalize hPI:pyIter=PI
     wp_walk
     subst hPI
     first|refine adA d ?_|refine adL d ?_
     refine ac3 (adQ ?_);have n:l<s.heap.objs.size:=ac5 p;have g:l≠(s.heap.push (Np.stO w)).objs.size:=by rw[ac8];exact aar (aa9 n)
     have D:s.heap.objs.size ∉ [(s.heap.push (Np.stO w)).objs.size,l]:=by rw[ac8];simp only[aab,aap,aao,or_false,not_or];exact⟨aar (aa5 _),aaN n⟩
     have Z:=Walks.list (prog:=prog) (w:=w) C _ l g items;have W2:=Walks.tuple (prog:=prog) (w:=w) C _ l g items;rw[u]at Z W2
     first
      |refine Np.set_loop (B:=Np.byT w) Z D (λi v P=>acP T i v (by rw[aaW];exact P)) q (ns.length-0) 0 _ (by omega) (aaI _) ⟨⟨_,ac7 _ rfl,rfl,rfl⟩,(d.push _)⟩ ?_ ?_
      |refine Np.set_loop (B:=Np.byT w) W2 D (λi v P=>acP T i v (by rw[aaW];exact P)) q (ns.length-0) 0 _ (by omega) (aaI _) ⟨⟨_,ac7 _ rfl,rfl,rfl⟩,(d.push _)⟩ ?_ ?_
     ·exact⟨#[],0,_,ac6 _ hS,λe he=>by simp at he,.nil,by decide,rfl,Np.Tab.fresh⟩
     ·intro h' N hm m;show wpAny _ _ _ _ _ _;refine ac4 ?_;show wpAny _ _ (ret Value.none) _ _ _;refine ac4 ⟨rfl,h',N,rfl,m,λb o q e=>hm b o ?_ (ac6 _ (ac6 _ e))⟩;simp only[aab,aap,aao,or_false,not_or];exact⟨aar q,by rw[ac8];exact aar (aa9 q)⟩
   ·cases z with
    |error e=>exact a
    |ok k=>
     cases k with
     |ret r=>
      obtain⟨rfl,h',I,rfl,m,M⟩:=a
      repeat (any_goals (first|assumption|wp_step))
      exact h _ _ m M
     |_=>exact a.elim
  |_=>exact O.elim
end
end PySem
namespace Np
open PySem PySem.Spec PyProof.Rows
def pQ{a:Type}{l:List a}(h:i<l.length):(l[i]::l.eraseIdx i).Perm l:=by rw[List.eraseIdx_eq_take_drop_succ];refine aav.symm.trans ?_;rw[<-abW h,acM]
theorem pR{b:Type}(f:Nat->Nat):∀(n k:Nat) (l:List b) (o:Array b),l.length=n->(pickOrder.go f n k l o).toList.Perm (o.toList++l)
 |0,k,l,o,h=>by rw[acQ.mp h,aaq];exact .rfl
 |n+1,k,l,o,h=>by have a:f k%l.length<l.length:=Nat.mod_lt _ (by omega);unfold pickOrder.go;rw[aan a];refine(pR f n _ _ _ (by rw[acR a];omega)).trans ?_;rw[Array.toList_push,aac];exact(pQ a).append_left _
def sA{a:Type}(f:Nat->Nat)(xs:Array a):(pickOrder f xs).toList.Perm xs.toList:=pR f _ 0 _ #[] (by simp)
section
variable{M:Model}{P:Program}{w:World}{A:Around}{E:Value->Shared->Prop}{s:Shared}
def oo{a:Source}{n:Nat}(b:n≠0)(h:∀i d,i<n->Q i { s with drawn:=d }):wpAny M A (choose a n) Q E s:=
 λ_ _ _=>⟨b,h _ _ (Nat.mod_lt _ (Nat.pos_of_ne_zero b))⟩
theorem iD{c:Type}:∀(n:Nat) (l:List c) (s:Shared) (Q:List c->Shared->Prop),l.length=n->(∀a d,a.Perm l->Q a { s with drawn:=d })->wpAny M A (drawOrder n l) Q E s
 |0,l,s,Q,h,q=>by have:=q [] s.drawn (by rw[acQ.mp h]);exact ac4 this
 |n+1,[],s,Q,h,q=>by cases h
 |n+1,x::l,s,Q,h,q=>by show wpAny _ _ (choose .order (x::l).length >>= _) _ _ _;refine ac3 (oo (by simp) λi d b=>?_);rw[aan b];show wpAny _ _ (drawOrder n ((x::l).eraseIdx i) >>= _) _ _ _;refine ac3 (iD n _ _ _ (by rw[acR b];omega) λa f e=>ac4 (q _ f ?_));exact(List.Perm.cons _ e).trans (pQ b)
theorem slot_seti_next:Slot "set_iterator" "__next__" "set_iterator.__next__" :=
 .of (owner:="set_iterator") (n:="__next__") (by rw[typeLookup_type,builtinLookup_eq_fast];kernel_rfl) (by decide +kernel) (by decide +kernel) (by decide +kernel)
  (by first|exact .inl (by decide +kernel)|exact .inr (by decide +kernel)) (by rw[isSubtype_type];kernel_rfl)
def dn:entryFor table "set_iterator.__next__"=some Builtin.«set_iterator.__next__»:=entryFor_of_tree (by kernel_rfl)
def dJ(a:Value):argsOk "set_iterator.__next__" ⟨[a],[]⟩:=by unfold argsOk;kernel_rfl
def iE:entryFor table "set.__iter__"=some Builtin.«frozenset.__iter__»:=entryFor_alias (id':="frozenset.__iter__") (by kernel_rfl) rfl (by decide +kernel) (by kernel_rfl)
end
end Np
namespace Np
open PySem PySem.Spec PyProof.Rows
def Aq(f:Value)(i:Nat)(a:Addr)(n ep:Nat):Obj:={ cls:=.type "set_iterator",data:=.fields #[f,.int i 0,.ref a,.int n 0,.int ep 0] }
def slotAt(pl:List Nat):Nat->Nat
 |0=>0
 |i+1=>pl.getD i 0+1
theorem oq(n:xs.toList.Pairwise (·<·)):∀{i:Nat},i<=xs.size->SetTable.below xs (slotAt xs.toList i)=i:=λ{i} hi=>by
 obtain⟨o,v,r⟩:=iC n;rw[aaL]at o;have l:∀(a b x y:Nat),a<b->xs.toList[a]?=some x->xs.toList[b]?=some y->x<y:=λa b x y g A q=>by obtain⟨t,z⟩:=aai.mp A;obtain⟨u,w⟩:=aai.mp q;rw[<-z,<-w];exact abV.mp n a b t u g
 have f:∀k,k<xs.size->∃x,xs.toList[k]?=some x:=λk B=>⟨xs.toList[k]'(by simpa using B),aan _⟩
 rcases Nat.lt_trichotomy (SetTable.below xs (slotAt xs.toList i)) i with h|h|h
 ·obtain⟨x,c⟩:=f _ (aay h hi);have s:=r _ x c (aae _);cases i with
  |zero=>exact absurd h (acq _)
  |succ i=>
   obtain⟨y,d⟩:=f i (by omega);have e:slotAt xs.toList (i+1)=y+1:=by show xs.toList.getD i 0+1=_;rw[abt,d];rfl
   rw[e]at s c h;rcases aby (SetTable.below xs (y+1)) i with j|j
   ·have:=l _ _ _ _ j c d;omega
   ·have p:SetTable.below xs (y+1)=i:=by omega
    rw[p,d]at c;cases c;omega
 ·exact h
 ·obtain⟨x,c⟩:=f i (aay h o);have m:=v i x c h;cases i with
  |zero=>exact absurd m (acq _)
  |succ i=>
   obtain⟨y,d⟩:=f i (by omega);have e:slotAt xs.toList (i+1)=y+1:=by show xs.toList.getD i 0+1=_;rw[abt,d];rfl
   rw[e]at m;have:=l i (i+1) y x (aa5 _) d c;omega
inductive MdI (w:World)(a:Addr)(es:Array (Int×Value))(ep:Nat)(t:SetTable)(L:List (Int×Value))(tp:Addr)(h:Heap)(i:Nat):Value->Prop
 |txt:byT w=true->L=(pickOrder (w.params.setOrder a ep) es).toList->MdI w a es ep t L tp h i (.int 0 0)
 |pla:byT w=false->(!t.plain&&decide (es.size>1))=false->t.led=true->t.place.toList.Pairwise (·<·)->t.place.size=es.size->L=es.toList->MdI w a es ep t L tp h i (.int (slotAt t.place.toList i) 0)
 |drw (ix:List Nat):h.get? tp=some { cls:=.type "tuple",data:=.seq (ix.map λ(j:Nat)=>rawInt j).toArray }->L.length=ix.length->(∀k j:Nat,ix[k]?=some j->∃e,es[j]?=some e/\L[k]?=some e)->MdI w a es ep t L tp h i (.ref tp)
section
variable{P:Program}{w:World}{A:Around}{E:Value->Shared->Prop}{s:Shared}{it a tp:Addr}{es:Array (Int×Value)}{ep i:Nat}{t:SetTable}{L:List (Int×Value)}{f:Value}
def MdI.keep(m:MdI w a es ep t L tp h i f)(k:∀o,h.get? tp=some o->h'.get? tp=some o):MdI w a es ep t L tp h' i f:=by
 cases m with
 |txt a b=>exact .txt a b
 |pla a b c d e f=>exact .pla a b c d e f
 |drw g a b c=>exact .drw g (k _ a) b c
theorem set_at{h:Heap}(b:h.get? it=some (Aq f i a es.size ep)):((h.update it (Obj.mapFields (·.setIfInBounds 0 f'))).update it (Obj.mapFields (·.setIfInBounds 1 (rawInt ((i:Int)+1))))).get? it=some (Aq f' (i+1) a es.size ep):=by have d:=adf (Obj.mapFields (·.setIfInBounds 0 f')) b rfl;have c:=adf (Obj.mapFields (·.setIfInBounds 1 (rawInt ((i:Int)+1)))) d rfl;exact c
theorem mq(hs:s.heap.get? a=some (jw es ep t))(c:t.fits es.size=true)(d:byT w=true)
  (h:Q ((pickOrder (w.params.setOrder a ep) es)[n]?.map λe=>(e.2,sl)) s):wpAny (model P w) A (setNext a sl n ep) Q E s:=by
 unfold setNext setsByText;refine ac3 (adu hs rfl c ?_);dsimp only;refine ac3 (ac3 (adq (ac4 ?_)));refine adp (λ_=>?_) λb=>absurd d b;rw[if_neg (by simp)];unfold setWalk setsByText;refine ac3 (ac3 (adu hs rfl c ?_));dsimp only;refine ac3 (ac3 (adq (ac4 ?_)));refine adp (λ_=>?_) λb=>absurd d b;exact ac3 (adq (ac4 (ac4 h)))
theorem mr(hs:s.heap.get? a=some (jw es ep t))(l:t.fits es.size=true)(q:byT w=false)
  (p:(!t.plain&&decide (es.size>1))=false) (o:t.led=true) (r:t.place.toList.Pairwise (·<·)) (g:t.place.size=es.size) (u:n<=es.size)
  (h:Q (es[n]?.map λe=>(e.2,slotAt t.place.toList (n+1))) s):wpAny (model P w) A (setNext a (slotAt t.place.toList n) i ep) Q E s:=by
 unfold setNext setsByText;refine ac3 (adu hs rfl l ?_);dsimp only;refine ac3 (ac3 (adq (ac4 ?_)));refine adp (λc=>absurd (q.symm.trans c) aak) λ_=>?_;refine adp (λc=>absurd (p.symm.trans c) aak) λ_=>?_;refine ac3 ?_;show wpAny _ _ (if (!t.led&&!es.isEmpty)=true then unsupported _ else pure ()) _ _ _;rw[o,if_neg (by simp)];refine ac4 ?_;rw[oq r (by rw[g];exact u)];refine ac4 ?_;rcases aby n es.size with b|d
 ·have j:es[n]?=some es[n]:=abB b;have k:t.place[n]?=some (t.place[n]'(by rw[g];exact b)):=abB _;have m:slotAt t.place.toList (n+1)=t.place[n]'(by rw[g];exact b)+1:=by show t.place.toList.getD n 0+1=_;rw[abt,aaW,k];rfl
  rw[j]at h ⊢;rw[k];rw[m]at h;exact h
 ·have j:es[n]?=none:=ack d;rw[j]at h ⊢;exact h
theorem sC(D:it≠tp)(b:s.heap.get? it=some (Aq f i a es.size ep))(hs:s.heap.get? a=some (jw es ep t))(k:t.fits es.size=true)(B:MdI w a es ep t L tp s.heap i f)(c:L[i]?=some e)
  (m:∀z h',h'.get? it=some (Aq z (i+1) a es.size ep)->Heap.SameBut it s.heap h'->MdI w a es ep t L tp h' (i+1) z->Q (some e.2) { s with heap:=h' }):wpAny (model P w) A (pyNext (.ref it)) Q E s:=by
 have x:s.TypeIs (.ref it) "set_iterator":=⟨_,b,rfl⟩
 unfold pyNext;refine ac3 (adH (ads x slot_seti_next (adl slot_seti_next x dn ?_ (dJ _))));unfold Builtin.«set_iterator.__next__»;refine ac3 (ac4 ?_);refine ac3 (wpAny_fieldsOf b rfl ?_);dsimp only;refine ac3 (adT hs rfl k ?_);rw[if_neg (by simp)];cases B with
 |txt d n=>subst n;rw[aaW]at c;refine ac3 (mq (ep:=ep) hs k d ?_);rw[aaP i,c];refine ac3 (adg b rfl (by simp) (ac3 (adg (adf _ b rfl) rfl (by simp) ?_)));exact ac4 ⟨_,rfl,ac4 (m _ _ (set_at b) ((ada ..).trans (ada ..)) (.txt d rfl))⟩
 |pla d r g u v n=>
  subst n;have l:i<es.size:=by have:=(aai.mp c).1;rwa [aaL]at this
  rw[aaW]at c;refine ac3 (mr hs k d r g u v (aaZ l) ?_);rw[c];refine ac3 (adg b rfl (by simp) (ac3 (adg (adf _ b rfl) rfl (by simp) ?_)));exact ac4 ⟨_,rfl,ac4 (m _ _ (set_at b) ((ada ..).trans (ada ..)) (.pla d r g u v rfl))⟩
 |drw q y g l=>
  obtain⟨j,p⟩:∃j,q[i]?=some j:=⟨_,aan (by rw[<-g];exact(aai.mp c).1)⟩
  obtain⟨F,C,h⟩:=l i j p;rw[c]at h;cases h;refine ac3 (adi y rfl ?_);dsimp only;rw[aaP i,acS,aas,p];dsimp only[Option.map,rawInt];refine ac3 ?_;unfold setNextDrawn;refine ac3 (adu hs rfl k ?_);dsimp only;rw[if_neg (by simp),aaP j,C];refine ac4 (ac3 (adg b rfl (by simp) ?_));have o:=ada s.heap it (Obj.mapFields (·.setIfInBounds 1 (rawInt ((i:Int)+1))));exact ac4 ⟨_,rfl,ac4 (m _ _ (adf _ b rfl) o (.drw q ((o.2 _ (aaE D)).trans y) g l))⟩
theorem u9(H:A.handled=none)(c:s.heap.get? it=some (Aq f i a es.size ep))(hs:s.heap.get? a=some (jw es ep t))(r:t.fits es.size=true)(B:MdI w a es ep t L tp s.heap i f)(u:L.length=es.size)(z:i=es.size)
  (n:∀h',Heap.ExtBut it s.heap h'->Q none { s with heap:=h' }):wpAny (model P w) A (pyNext (.ref it)) Q E s:=by
 have y:s.TypeIs (.ref it) "set_iterator":=⟨_,c,rfl⟩
 have d:∀(g:Shared),(∀h',Heap.ExtBut it g.heap h'->Q none { g with heap:=h' })->wpAny (model P w) A.in1 (newExc (.type "StopIteration") [] >>= λe=>raiseNew e) (λp g=>∃v,p=Fin.done (Flow.ret v)/\wpAny (model P w) A (pure (some v)) Q E g)
   (λe g=>wpAny (model P w) A (isInstance e (.type "StopIteration") >>= λb=>if b=true then pure none else throw e) Q E g) g:=λg I=>by
  refine ac3 ?_;simp only[newExc,newTuple];refine ac3 (adc ?_ (by size_fits));refine ac3 (adE (by first|rfl|(simp only[firstArgMember];rfl)) ?_);refine adc ?_ (by size_fits);simp only[raiseNew];refine ac3 (wpAny_handled ?_);rw[show A.in1.handled=none from H];refine ac3 (ac4 (wpAny_throw ?_));refine ac3 (adP ⟨_,ac7 _ rfl,rfl⟩ isSubtype_stop ?_);exact ac4 (I _ (((Heap.SameBut.refl it g.heap).extBut.push _).push _))
 have q:∀{C:Type} (l:List C),l.length=es.size->l[i]?=none:=λl k=>abX (by rw[k,z];exact aae _);unfold pyNext;refine ac3 (adH (ads y slot_seti_next (adl slot_seti_next y dn ?_ (dJ _))));unfold Builtin.«set_iterator.__next__»;refine ac3 (ac4 ?_);refine ac3 (wpAny_fieldsOf c rfl ?_);dsimp only;refine ac3 (adT hs rfl r ?_);rw[if_neg (by simp)];cases B with
 |txt m j=>have e:=q _ u;rw[j,aaW]at e;refine ac3 (mq (ep:=ep) hs r m ?_);rw[aaP i,e];exact ac3 (adg c rfl (by simp) (d _ λh' x=>n h' λb o h e=>x b o h (((ada ..).extBut) b o h e)))
 |pla m J k M N j=>have e:=q _ u;rw[j,aaW]at e;refine ac3 (mr hs r m J k M N (abP z) ?_);rw[e];exact ac3 (adg c rfl (by simp) (d _ λh' x=>n h' λb o h e=>x b o h (((ada ..).extBut) b o h e)))
 |drw F O k D=>have e:=q F (k.symm.trans u);refine ac3 (adi O rfl ?_);dsimp only;rw[aaP i,acS,aas,e];refine ac3 (adg c rfl (by simp) (ac3 (adg (adf _ c rfl) rfl (by simp) ?_)));exact d _ λh' x=>n h' λb o h e=>x b o h ((((ada ..).trans (ada ..)).extBut) b o h e)
end
end Np
namespace Np
open PySem PySem.Spec PyProof.Rows
theorem dM:Slot "set_iterator" "__iter__" "set_iterator.__iter__" :=
 .of (owner:="set_iterator") (n:="__iter__") (by rw[typeLookup_type,builtinLookup_eq_fast];kernel_rfl) (by decide +kernel) (by decide +kernel) (by decide +kernel)
  (by first|exact .inl (by decide +kernel)|exact .inr (by decide +kernel)) (by rw[isSubtype_type];kernel_rfl)
def gX:entryFor table "set_iterator.__iter__"=some Builtin.«dict_keyiterator.__iter__»:=entryFor_alias (id':="dict_keyiterator.__iter__") (by kernel_rfl) rfl (by decide +kernel) (by kernel_rfl)
def iF(a:Value):argsOk "set_iterator.__iter__" ⟨[a],[]⟩:=by unfold argsOk;kernel_rfl
def vc(es:Array (Int×Value)):(List.range es.size).map (λj=>es.getD j (0,.none))=es.toList:=by
 refine List.ext_getElem (by simp) λi c b=>?_;have a:i<es.size:=by simpa using b
 simp[Array.getD,a]
section
variable{P:Program}{w:World}{A:Around}{E:Value->Shared->Prop}{s:Shared}{a:Addr}{es:Array (Int×Value)}{ep:Nat}{t:SetTable}
theorem vd(hs:s.heap.get? a=some (jw es ep t))(i:t.fits es.size=true)(B:Tab (byT w) t)(H:es.size<=sizeLine)
  (z:∀(h':Heap) (d:Drawn) (I r:Addr) (L:List (Int×Value)) (f:Value),L.Perm es.toList->I≠a->I≠r->s.heap.objs.size<=I->(r=a\/s.heap.objs.size<=r)->h'.get? I=some (Aq f 0 a es.size ep)->MdI w a es ep t L r h' 0 f->(∀b o,s.heap.get? b=some o->h'.get? b=some o)->Q (.ref I) { s with heap:=h',drawn:=d }):
  wpAny (model P w) A (pyIter (.ref a)) Q E s:=by
 have l:s.TypeIs (.ref a) "set":=⟨_,hs,rfl⟩
 have g:a<s.heap.objs.size:=ac5 hs;have x:t.place.size=es.size:=by simp only[SetTable.fits,aaG,beq_iff_eq]at i;exact i.1
 refine wpAny_pyIter_slot l acT (adl acT l iE ?_ (PySem.F.args_set_iter_1 _));unfold Builtin.«frozenset.__iter__» Builtin.Frozenset.slot0;refine ac3 (ac3 (ac4 ?_));refine ac4 ?_;refine ac3 (ac3 (adT hs rfl i (ac4 ?_)));refine ac3 ?_;unfold setDrawn setsByText;refine ac3 (adu hs rfl i ?_);dsimp only;refine ac3 (ac3 (adq (ac4 (ac4 ?_))));refine adp (λh=>?_) λh=>?_
 ·have c:(!byT w&&(!t.plain&&decide (es.size>1)))=true:=h;refine ac3 (iD _ _ _ _ (List.length_range) λu d v=>?_);have C:u.length=es.size:=by rw[v.length_eq,List.length_range]
  refine ac3 (adc ?_ (by show (u.map _).toArray.size<=sizeLine;rw[aaz,aaa,C];exact H));refine ac3 (wpAny_setEpoch_of (ac6 _ hs) rfl i ?_);refine ac3 (adc (ac4 ⟨_,rfl,"set_iterator",_,⟨_,ac7 _ rfl,rfl⟩,slot_seti_next.lookup,?_⟩));refine z _ d _ s.heap.objs.size (u.map λj=>es.getD j (0,.none)) (.ref s.heap.objs.size) ?_ ?_ ?_ ?_ (.inr (aae _)) (ac7 _ rfl) (.drw u (ac6 _ (ac7 _ rfl)) (by rw[aaa]) λk j y=>?_) λb o e=>ac6 _ (ac6 _ e)
  ·rw[<-vc es];exact v.map _
  ·rw[ac8];exact aaN (aa9 g)
  ·rw[ac8];exact aaN (aa5 _)
  ·rw[ac8];exact abp _
  ·have n:j<es.size:=abM.mp (v.mem_iff.mp (aa0 y));refine⟨es[j],abB n,?_⟩;rw[aas,y];simp[Array.getD,n]
 ·refine ac3 (ac4 ?_);refine ac3 (wpAny_setEpoch_of hs rfl i ?_);refine ac3 (adc (ac4 ⟨_,rfl,"set_iterator",_,⟨_,ac7 _ rfl,rfl⟩,slot_seti_next.lookup,?_⟩));have p:=λL m=>z (s.heap.push (Aq (.int 0 0) 0 a es.size ep)) s.drawn s.heap.objs.size a L (.int 0 0) m (aaN g) (aaN g) (aae _) (.inl rfl) (ac7 _ rfl);cases q:byT w with
  |true=>exact p _ (sA _ _) (.txt q rfl) λb o e=>ac6 _ e
  |false=>have c:¬ (!byT w&&(!t.plain&&decide (es.size>1)))=true:=h;rw[q]at c;have D:(!t.plain&&decide (es.size>1))=false:=Bool.not_eq_true _▸c;exact p _ .rfl (.pla q D (by rw[B.led,q];rfl) B.ris x rfl) λb o e=>ac6 _ e
theorem sF(B:A.handled=none)(D:I≠a)(C:I≠tp)(u:t.fits es.size=true)(x:L.length=es.size):
  Walks P w A I [I,a,tp] [I] es.size (λi v=>∃e,L[i]?=some e/\v=e.2) (λi h=>∃f,h.get? I=some (Aq f i a es.size ep)/\h.get? a=some (jw es ep t)/\MdI w a es ep t L tp h i f) where
 sub:=λb k=>by rw[aap.mp k];exact aad
 frame:=λi h m c n=>by obtain⟨f,g,d,j⟩:=c;exact⟨f,n I (by simp) _ g,n a (by simp) _ d,j.keep λo e=>n tp (by simp) o e⟩
 item:=λi s Q E H c l=>by obtain⟨f,g,d,j⟩:=c;have r:L[i]?=some (L[i]'(by rw[x];exact H)):=aan _;refine sC C g d u j r λJ m F q z=>?_;exact l _ m s.toks ⟨_,r,rfl⟩ ⟨J,F,(q.2 a (aaE D)).trans d,z⟩ λb o k e=>(q.2 b (λh=>k (by rw[h];exact aap.mpr rfl))).trans e
 done:=λs Q E c l=>by obtain⟨f,g,d,j⟩:=c;exact u9 B g d u j x rfl λm y=>l m s.toks λb o k e=>y b o (λh=>k (by rw[h];exact aap.mpr rfl)) e
 self:=λi s Q E c l=>by
  obtain⟨f,g,d,j⟩:=c;have p:s.TypeIs (.ref I) "set_iterator":=⟨_,g,rfl⟩
  refine wpAny_pyIter_slot p dM (adl dM p gX ?_ (iF _));show wpAny _ _ (ret (.ref I)) _ _ s;exact ac4 ⟨_,rfl,"set_iterator",_,p,slot_seti_next.lookup,l⟩
theorem vf(c:s.TypeIs (.ref a) "set") (h:Q false s):wpAny (model P w) A (Builtin.List.listLengthHint (.ref a)) Q E s:=by
 unfold Builtin.List.listLengthHint;refine ac3 (wpAny_specialOf c PySem.F.slot_set_len.lookup ?_);generalize hid:("set.__len__":String)=id0
 wp_delta
 rw[show splitId id0=some ("set","__len__") from by subst hid;decide +kernel];subst hid;refine ac3 (adP c sub_set_self ?_);refine adp (λb=>absurd b (by decide)) (λ_=>?_);refine adp (λ_=>?_) (λb=>absurd (by decide +kernel) b);refine ac3 (wpAny_typeOf c ?_);exact ac4 h
end
end Np
namespace Np
open PySem PySem.Spec PyProof.Rows PySem.W
def ints_map{L:List (Int×Value)}:(∀e∈L,∃t,e.2=.int (unI e) t)->IntsAre (L.map (·.2)) (L.map unI):=by
 induction L with
 |nil=>intro _;exact .nil
 |cons e L b=>intro h;obtain⟨t,a⟩:=h e aad;rw[aam,aam,a];exact .cons _ t (b λe c=>h e (aah _ c))
section
variable{P:Program}{w:World}{A:Around}{E:Value->Shared->Prop}{s:Shared}{a:Addr}{ns:List Int}
theorem set_collect(hh:A.handled=none)(hs:SetI P w s.heap a (byT w) ns)
  (h:∀(h':Heap) (n:Nat) (d:Drawn) (vs:List Value) (m:List Int),(∀b o,s.heap.get? b=some o->h'.get? b=some o)->IntsAre vs m->m.Perm ns->R vs { s with heap:=h',toks:=n,drawn:=d }):
  wpAny (model P w) A (collect (.ref a)) R E s:=by
 obtain⟨Z,ep,t,ho,a3,a4,X,hf,hT⟩:=hs;have hz:Z.size<=sizeLine:=adR X;have v:=ac5 ho;unfold collect;refine ac3 (adQ (adn entry_proto_collect' ?_));rw[adx PySem.F.plain_proto_collect _];show wpAny _ A.in1 (newList [] >>= λl=>again (.builtin "list.__iadd__" ⟨[l,.ref a],[]⟩)) _ _ s;refine ac3 (adc ?_);refine ac4 ⟨ady acU _,adn entry_list_iadd' ?_⟩;rw[adx acU _];show wpAny _ A.in1 (Builtin.List.listExtendWith (.ref s.heap.objs.size) (.ref a) (.ref s.heap.objs.size)) _ _ _;have hS:(s.heap.push { cls:=.type "list",data:=.seq ([]:List Value).toArray }).get? s.heap.objs.size=some { cls:=.type "list",data:=.seq #[] }:=ac7 _ rfl;have B:(s.heap.push { cls:=.type "list",data:=.seq ([]:List Value).toArray }).get? a=some (jw Z ep t):=ac6 _ ho;unfold Builtin.List.listExtendWith;refine ac3 (wpAny_typeOf ⟨_,B,rfl⟩ ?_);have n1:Builtin.List.listSameRef (.ref s.heap.objs.size) (.ref a)=false:=by simp[Builtin.List.listSameRef,aaN v]
 have n2:(Value.type "set" == Value.type "list")=false:=by decide
 have n3:(Value.type "set" == Value.type "tuple")=false:=by decide
 simp only[n1,n2,n3,ach,Bool.false_eq_true,if_false];refine ac3 (vd B hf hT hz λh1 d I tp L f hp i1 i2 i3 i4 hI hM hk=>?_);have hL:L.length=Z.size:=by rw[hp.length_eq,aaL]
 have z:=hk _ _ hS;have D:=hk _ _ B;have Q:s.heap.objs.size≠I:=aar (by rw[ac8]at i3;exact i3);have W:=sF (P:=P) (w:=w) (A:=A.in1) (ep:=ep) hh i1 i2 hf hL;have N:s.heap.objs.size≠tp:=by
  rcases i4 with e|e
  ·rw[e];exact aaN v
  ·rw[ac8]at e;exact aar e
 have a1:s.heap.objs.size ∉ [I,a,tp]:=by simp only[aab,aao,or_false,not_or];exact⟨Q,aaN v,N⟩
 have C:∀b o,s.heap.get? b=some o->h1.get? b=some o:=λb o e=>hk b o (ac6 _ e);have H:∀(Y:Heap) (c:Nat) (R':Result->Shared->Prop),(∀b,b≠s.heap.objs.size->∀o,h1.get? b=some o->Y.get? b=some o)->Y.get? s.heap.objs.size=some { cls:=.type "list",data:=.seq #[] c } ->
   (∀(h':Heap) (n q:Nat) (g:Array Value) (m:List Int),(∀b o,s.heap.get? b=some o->h'.get? b=some o)->h'.get? s.heap.objs.size=some { cls:=.type "list",dict:=none,data:=.seq g q,slots:=#[] }->IntsAre g.toList m->m.Perm ns->R' (.ok (.ret (.ref s.heap.objs.size))) { s with heap:=h',toks:=n,drawn:=d }) ->
   codeAny (model P w) A (.builtin "list.extend.loop" ⟨[.ref s.heap.objs.size,.ref I,.ref s.heap.objs.size],[]⟩) R' { s with heap:=Y,drawn:=d }:=λY c R' u r hR=>by
  refine codeAny_extend_loopS W.toS hz s.heap.objs.size a1 (.ref s.heap.objs.size) Z.size 0 _ #[] c rfl (aaI _) ⟨f,u _ (aaE Q) _ hI,u _ (aar v) _ D,hM.keep λo e=>u _ (aaE N) o e⟩ r (ItemsOf.nil _) λs' i q hm a0 y=>?_;rw[Moved.eq_with hm];have ea:i.toList=L.map (·.2):=abS λj=>by
   rw[aaW,aas];rcases aby j i.size with M|M
   ·obtain⟨e,e1,e2⟩:=y.2 j i[j] (abB M);rw[abB M,e1,e2];rfl
   ·rw[ack M,abX (by rw[hL,<-y.1];exact M)];rfl
  refine hR s'.heap s'.toks q i (L.map unI) (λb o e=>hm.heap b o (λp=>?_) (u b (aar (ac5 e)) o (C b o e))) a0 ?_ ((hp.map unI).trans a4)
  ·have hl:=ac5 e;rcases aab.mp p with e'|p
   ·exact aaR _ (e'▸hl)
   ·rw[aap.mp p]at hl;rw[ac8]at i3;exact aaR _ (abi hl i3)
  ·rw[ea];refine ints_map λe he=>?_;obtain⟨⟨k,T,_⟩,_⟩:=a3 e (hp.mem_iff.mp he);obtain⟨tt,e1⟩:=adK T;rw[om T];exact⟨tt,e1⟩
 refine ac3 (adb (vf ⟨_,D,rfl⟩ ?_));have x:∀(h':Heap) (n q:Nat) (g:Array Value) (m:List Int),(∀b o,s.heap.get? b=some o->h'.get? b=some o)->h'.get? s.heap.objs.size=some { cls:=.type "list",dict:=none,data:=.seq g q,slots:=#[] }->IntsAre g.toList m->m.Perm ns->wpAny (model P w) A (load s.heap.objs.size >>= λo=>match o.data with|.seq xs _=>pure xs.toList|_=>unsupported "internal:collect") R E { s with heap:=h',toks:=n,drawn:=d }:=λh' n q g m S J O U=>
  ac3 (wpAny_load J (ac4 (h h' n d _ m S O U)))
 refine adp (λ_=>?_) (λ_=>ac4 ⟨ady acV _,H h1 0 _ (λ_ _ _ e=>e) z λh' n q g m S J O U=>x h' n q g m S J O U⟩);refine ac3 (adk ?_);refine ac3 ?_;show wpAny _ _ (updateSeq s.heap.objs.size (·.push .none) >>= λ_=>updateSeq s.heap.objs.size (·.pop)) _ _ _;refine ac3 (wpAny_updateSeq z rfl ?_);have r:=adf (Obj.mapSeq (·.push Value.none)) z rfl;refine wpAny_updateSeq r rfl ?_;have a2:=adf (Obj.mapSeq (·.pop)) r rfl;exact ac4 ⟨ady acV _,H _ _ _ (λb X o e=>(adD _ _ (aaE X)).trans ((adD _ _ (aaE X)).trans e)) a2 λh' n q g m S J O U=>x h' n q g m S J O U⟩
end
end Np
namespace L2
open PySem PySem.Spec PyProof.Rows
section
inductive Bo where|add|sub|mul|fdiv|mod|pow
inductive Co where|lt|le|gt|ge|eq|ne|inn|nin
inductive Bl where|len|abs|min|int|all
inductive Knd where|int|bool|str|list|tuple|seq
inductive Bn where|list|tuple|sorted
inductive Acc where|fld (c f:Str)|ix (k:Int)|key (j:Nat)
inductive Tg where|nm (i:Nat)|tp (ts:List Nat)|tn (i:Nat)(ts:List Nat)
mutual
inductive E where
 |nm (i:Nat)|int (k:Int)|str (x:Str)|bl (b:Bool)|gc (g:Nat)
 |bop (o:Bo) (a b:E)|catV (a b:E)
 |cmp (o:Co) (a b:E)|cmp2 (o o':Co) (a b c:E)|isb (neg k:Bool) (a:E)
 |and (a b:E)|or (a b:E)|not (a:E)|neg (a:E)|ife (c a b:E)
 |tup (es:Es)|lst (es:Es)|ix (a b:E)|sll (a:E) (lo hi:Eo)
 |call (f:Nat) (es:Es)|blt (f:Bl) (es:Es)|bnw (f:Bn) (e:E)|isi (k:Knd) (a:E)|lset (a:E)|sst (a:E)|idl (i:Nat) (b:E)|lrg (a:E)|dnew
 |pg (i:Nat) (ps:List Acc)|pf (i:Nat) (ps:List Acc)|pl (i:Nat) (ps:List Acc)|pt (i:Nat) (ps:List Acc)|pin (neg:Bool) (e:E) (i:Nat) (ps:List Acc)|din (neg:Bool) (e:E) (i:Nat) (ps:List Acc)
 |comp (nt:Nat) (fr:List Nat) (it:It') (tg:Tg) (ifs:Eo) (elt:E)|compB (i nt:Nat) (fr:List Nat) (tg:Tg) (ifs:Eo) (elt:E)
 |meth (c m:Str) (f:Nat) (i:Nat) (es:Es)|make (c:Str) (f:Nat) (es:Es)
inductive Es where|nil|cons (e:E)(es:Es)
inductive Eo where|none|some (e:E)
inductive It' where|seq (e:E)|rg1 (e:E)|enm (e:E)|zip (a b:E)
end
mutual
inductive S' where
 |ex (e:E)|set (i:Nat) (e:E)|asg (t:Tg) (e:E)|par (is:List Nat) (es:Es)|aug (i:Nat) (o:Bo) (e:E)
 |ret (e:E)|iff (c:E) (a b:Ss)|fr (t:Tg) (it:It') (b:Ss)|cont
 |app (i:Nat) (e:E)|apd (i:Nat) (ps:List Acc) (e:E)|sti (i:Nat) (k e:E)|std (i:Nat) (ps:List Acc) (j:Nat) (e:E)
 |sdc (i nt:Nat) (fr:List Nat) (it:It') (tg:Tg) (ke ve:E)|sdl (i nt:Nat) (fr:List Nat) (it:It') (tg:Tg) (ke:E)|sc2 (i nt:Nat) (fr:List Nat) (it:It') (tg:Tg) (it2:It') (tg2:Tg) (e:E)|stf (i:Nat) (c f:Str) (e:E)|agf (i:Nat) (c f:Str) (o:Bo) (e:E)
inductive Ss where|nil|cons (s:S')(ss:Ss)|ali (i:Nat)(ps:List Acc)(j:Nat)(ss:Ss)
end
structure Fn where
 io:List Bool
 n:Nat
 body:Ss
structure Ct where
 io:Nat->List Bool
 call:Nat->List OD->Option (OD×List OD)
 mak:Nat->List OD->Option (OD×List OD)
 gv:Nat->PyData
 wf:Nat
def vg:OD->Option PyData|.fz d=>some d|_=>none
def xG:OD->Option (List OD)|.lst xs=>some xs|_=>none
def GZ:OD->Option (List Key×List OD)|.dic ks xs=>some (ks,xs)|_=>none
def Fq:OD->Option (Str×List Str×List OD)|.obj c ns xs=>some (c,ns,xs)|_=>none
def Jn(x:OD):Option (List OD):=match x with|.lst xs=>some xs|.tup xs=>some xs|_=>none
def gf:PyData->Option Int|.int i=>some i|_=>none
def Fs:PyData->Option Bool|.bool k=>some k|_=>none
def Ft:PyData->Option (List PyData)|.list ds=>some ds|_=>none
def nF:PyData->Option (List PyData)|.list ds=>some ds|.tuple ds=>some ds|_=>none
def gd(c:Prop)[Decidable c]:Option Unit:=if c then some () else none
def eT{a:Type}:List a->Option a|[x]=>some x|_=>none
def CM{a:Type}:List a->Option (a×a×a)|[x,y,z]=>some (x,y,z)|_=>none
def iG{a:Type}:List a->Option (a×a)|[x,y]=>some (x,y)|_=>none
def Jo(w:OD×List OD):Option (OD×List OD):=(vg w.1).bind λd=>match d,w.2 with|.none,y::ys=>some (y,ys)|_,_=>none
noncomputable def Jp:Bo->Int->Int->Option Int
 |.add,i,j=>some (i+j)
 |.sub,i,j=>some (i-j)
 |.mul,i,j=>(gd ((-(2^64)<i/\i<2^64)\/(-(2^64)<j/\j<2^64))).bind λ_=>some (i*j)
 |.fdiv,i,j=>(gd (0<j/\j<1073741824)).bind λ_=>some (i/j)
 |.mod,i,j=>(gd (0<j)).bind λ_=>some (i%j)
 |.pow,i,j=>(gd (0<=j/\j<=1000000/\i.natAbs<2^64)).bind λ_=>some (i^j.toNat)
def yM(o:Bo)(x y:PyData):Option PyData:=(gf x).bind λi=>(gf y).bind λj=>(Jp o i j).bind λk=>some (.int k)
def eqA(x y:PyData):Option Bool:=match lZ x y with
 |some k=>some k
 |none=>if SeqAt.shaped x&&SeqAt.shaped y then some (PyData.eqv x y) else none
def inA(x y:PyData):Option Bool:=(nF y).bind λa=>(gd (Cc x=true)).bind λ_=>memD x a
noncomputable def jq(o:Co)(x y:PyData):Option Bool:=match o with
 |.lt=>(gf x).bind λi=>(gf y).bind λj=>some (decide (i<j))
 |.le=>(gf x).bind λi=>(gf y).bind λj=>some (decide (i<=j))
 |.gt=>(gf x).bind λi=>(gf y).bind λj=>some (decide (j<i))
 |.ge=>(gf x).bind λi=>(gf y).bind λj=>some (decide (j<=i))
 |.eq=>eqA x y
 |.ne=>(eqA x y).bind λk=>some (!k)
 |.inn=>inA x y
 |.nin=>(inA x y).bind λk=>some (!k)
def mw:PyData->Option Bool
 |.none=>some false|.bool b=>some b|.int i=>some (i !=0)
 |.list ds=>some (!ds.isEmpty)|.tuple ds=>some (!ds.isEmpty)
 |_=>none
def Fu:Knd->PyData->Bool
 |.int,.int _=>true|.int,.bool _=>true|.bool,.bool _=>true|.str,.str _=>true|.list,.list _=>true|.tuple,.tuple _=>true|.seq,.list _=>true|.seq,.tuple _=>true
 |_,_=>false
def gH:List PyData->Option (List Int)
 |[]=>some []
 |d::ds=>(gf d).bind λi=>(gH ds).bind λr=>some (i::r)
noncomputable def Ed(f:Bl)(ds:List PyData):Option PyData:=match f with
 |.len=>(eT ds).bind λd=>(kB d).bind λn=>some (.int n)
 |.abs=>(eT ds).bind λd=>(gf d).bind λi=>some (.int (if i<0 then -i else i))
 |.min=>(iG ds).bind λz=>(gf z.1).bind λi=>(gf z.2).bind λj=>some (.int (if j<i then j else i))
 |.int=>(eT ds).bind λd=>(toInt d).bind λi=>some (.int i)
 |.all=>(eT ds).bind λd=>(Ft d).bind λb=>(allB b).bind λa=>some (.bool (a.all id))
def insI(i:Int):List Int->List Int
 |[]=>[i]
 |j::r=>if i<=j then i::j::r else j::insI i r
def sortI:List Int->List Int
 |[]=>[]
 |i::r=>insI i (sortI r)
def keyOf:PyData->Option Key
 |.int i=>some (.inl i)
 |.str x=>some (.inr x)
 |_=>none
def nmR(ρ:DEnv)(i:Nat):Option OR:=match ρ[i]?.join with
 |some (.fz d)=>some (.val (.fz d))
 |some _=>some (.rf i)
 |none=>none
def accN(ρ:DEnv)(x:OD):Acc->Option Nat
 |.fld c f=>(Fq x).bind λq=>(gd (q.1=c)).bind λ_=>q.2.1.findIdx? (λg=>decide (g=f))
 |.ix k=>(Jn x).bind λxs=>ixN xs.length k
 |.key j=>(ρ[j]?.join).bind λy=>(vg y).bind λd=>(GZ x).bind λq=>(keyOf d).bind λk=>q.1.findIdx? (λq=>decide (q=k))
noncomputable def aj(ρ:DEnv)(i:Nat):List Acc->Option (OD×List Nat×OD)
 |[]=>(ρ[i]?.join).bind λx=>some (x,[],x)
 |a::ps=>(aj ρ i ps).bind λp=>(accN ρ p.2.2 a).bind λk=>(p.2.2.kids[k]?).bind λz=>some (p.1,p.2.1++[k],z)
def unpA(x:OD):Option (List OD):=match unpT x with|some a=>some a|none=>unpL x
def Fv(a:List Nat)(x:OD)(ρ:DEnv):Option DEnv:=(unpA x).bind λb=>(gd (b.length=a.length/\∀i∈a,i<ρ.length)).bind λ_=>some (dF a b ρ)
def be:Tg->OD->DEnv->Option DEnv
 |.nm i,x,ρ=>(gd (i<ρ.length)).bind λ_=>some (ρ.set i (some x))
 |.tp ts,x,ρ=>Fv ts x ρ
 |.tn i ts,x,ρ=>(unpA x).bind λxs=>(iG xs).bind λz=>(gd (i<ρ.length)).bind λ_=>Fv ts z.2 (ρ.set i (some z.1))
def aM(step:PyData->DEnv->Option (List PyData×DEnv)):List PyData->List PyData->DEnv->Option (List PyData×DEnv)
 |[],out,ρ=>some (out,ρ)
 |d::ds,out,ρ=>(step d ρ).bind λw=>aM step ds (out++w.1) w.2
def cj{a:Type}(step:a->PyData->DEnv->Option (a×DEnv)):List PyData->a->DEnv->Option (a×DEnv)
 |[],o,ρ=>some (o,ρ)
 |d::ds,o,ρ=>(step o d ρ).bind λw=>cj step ds w.1 w.2
inductive Fl where|nx|bk|ct|rt (x:OD)
def bD(step:PyData->DEnv->Option (Fl×DEnv)):List PyData->DEnv->Option (Fl×DEnv)
 |[],ρ=>some (.nx,ρ)
 |d::ds,ρ=>(step d ρ).bind λw=>match w.1 with
  |.nx=>bD step ds w.2
  |.ct=>bD step ds w.2
  |.bk=>some (.nx,w.2)
  |.rt x=>some (.rt x,w.2)
def vt(f:DEnv->Option (OR×DEnv)):(DEnv->Option (OR×DEnv))×(DEnv->Option (Bool×DEnv)):=(f,λa=>(f a).bind λx=>(ar x.2 x.1).bind λd=>(mw d).bind λk=>some (k,x.2))
section
variable(C:Ct)
mutual
noncomputable def ck:E->(DEnv->Option (OR×DEnv))×(DEnv->Option (Bool×DEnv))
 |.nm i=>vt λρ=>match ρ[i]?.join with
  |some (.fz d)=>some (.val (.fz d),ρ)
  |some _=>some (.rf i,ρ)
  |none=>none
 |.int k=>vt λρ=>some (.val (.fz (.int k)),ρ)
 |.str x=>vt λρ=>some (.val (.fz (.str x)),ρ)
 |.bl b=>vt λρ=>some (.val (.fz (.bool b)),ρ)
 |.gc g=>vt λρ=>some (.val (.fz (C.gv g)),ρ)
 |.bop o a b=>vt λρ=>((ck a).1 ρ).bind λx=>((ck b).1 x.2).bind λy=>(ar y.2 x.1).bind λdx=>(ar y.2 y.1).bind λdy=>(yM o dx dy).bind λd=>some (.val (.fz d),y.2)
 |.catV a b=>vt λρ=>((ck a).1 ρ).bind λx=>((ck b).1 x.2).bind λy=>(Cq y.2 x.1).bind λdx=>(Cq y.2 y.1).bind λdy=>(gd (dy≠[]/\dx.length+dy.length<=1000000)).bind λ_=>some (.val (.fz (.tuple (dx++dy))),y.2)
 |.cmp o a b=>vt λρ=>((ck a).1 ρ).bind λx=>((ck b).1 x.2).bind λy=>(ar y.2 x.1).bind λdx=>(ar y.2 y.1).bind λdy=>(jq o dx dy).bind λk=>some (.val (.fz (.bool k)),y.2)
 |.cmp2 o o' a b c=>vt λρ=>((ck a).1 ρ).bind λx=>((ck b).1 x.2).bind λy=>(ar y.2 x.1).bind λdx=>(ar y.2 y.1).bind λdy=>(jq o dx dy).bind λk=>if k=true then ((ck c).1 y.2).bind λz=>(ar z.2 y.1).bind λs=>(ar z.2 z.1).bind λdz=>(jq o' s dz).bind λv=>some (.val (.fz (.bool v)),z.2) else some (.val (.fz (.bool false)),y.2)
 |.isb neg k a=>vt λρ=>((ck a).1 ρ).bind λx=>(ar x.2 x.1).bind λd=>(Fs d).bind λb=>some (.val (.fz (.bool (if neg then !(b==k) else b==k))),x.2)
 |.and a b=>(λρ=>((ck a).1 ρ).bind λx=>(ar x.2 x.1).bind λd=>(Fs d).bind λk=>if k=true then (ck b).1 x.2 else some (.val (.fz (.bool false)),x.2),λρ=>((ck a).2 ρ).bind λx=>if x.1=true then (ck b).2 x.2 else some (false,x.2))
 |.or a b=>(λρ=>((ck a).1 ρ).bind λx=>(ar x.2 x.1).bind λd=>(Fs d).bind λk=>if k=true then some (.val (.fz (.bool true)),x.2) else (ck b).1 x.2,λρ=>((ck a).2 ρ).bind λx=>if x.1=true then some (true,x.2) else (ck b).2 x.2)
 |.not a=>(λρ=>((ck a).1 ρ).bind λx=>(ar x.2 x.1).bind λd=>(Fs d).bind λk=>some (.val (.fz (.bool (!k))),x.2),λρ=>((ck a).2 ρ).bind λx=>some (!x.1,x.2))
 |.neg a=>vt λρ=>((ck a).1 ρ).bind λx=>(ar x.2 x.1).bind λd=>(gf d).bind λi=>some (.val (.fz (.int (-i))),x.2)
 |.ife c a b=>vt λρ=>((ck c).2 ρ).bind λx=>if x.1=true then (ck a).1 x.2 else (ck b).1 x.2
 |.tup es=>vt λρ=>(evs es ρ).bind λx=>(mapR own1 x.2 x.1).bind λz=>(gd (x.1.length<=1000000)).bind λ_=>some (.val (mkTup z.1),z.2)
 |.lst es=>vt λρ=>(evs es ρ).bind λx=>(mapR own1 x.2 x.1).bind λz=>(gd (x.1.length<=1000000)).bind λ_=>some (.val (.lst z.1),z.2)
 |.ix a b=>vt λρ=>((ck a).1 ρ).bind λx=>((ck b).1 x.2).bind λy=>(ar y.2 y.1).bind λd=>(gf d).bind λi=>(bC y.2 x.1 i).bind λz=>some (.val z.1,z.2)
 |.sll a lo hi=>vt λρ=>((ck a).1 ρ).bind λx=>(Ig lo x.2).bind λl=>(Ig hi l.2).bind λu=>(Jk u.2 x.1).bind λds=>some (.val (.lst ((cutD ds l.1 u.1).map OD.fz)),u.2)
 |.call f es=>vt λρ=>(evs es ρ).bind λx=>(aX (C.io f) x.2 x.1).bind λz=>(C.call f z.1).bind λw=>some (.val w.1,dH (C.io f) x.1 w.2 z.2)
 |.blt f es=>vt λρ=>(evs es ρ).bind λx=>(fX x.2 x.1).bind λds=>(Ed f ds).bind λd=>some (.val (.fz d),x.2)
 |.bnw f e=>vt λρ=>((ck e).1 ρ).bind λx=>match f with
  |.list=>((c9 x.2 x.1).bind seqOf).bind λds=>some (.val (.lst (ds.map OD.fz)),x.2)
  |.tuple=>((c9 x.2 x.1).bind listOf).bind λds=>some (.val (.fz (.tuple ds)),x.2)
  |.sorted=>(ar x.2 x.1).bind λd=>(nF d).bind λds=>(gH ds).bind λns=>(gd (ns.length<64)).bind λ_=>some (.val (.lst ((sortI ns).map λi=>.fz (.int i))),x.2)
 |.isi k a=>vt λρ=>((ck a).1 ρ).bind λx=>(ar x.2 x.1).bind λd=>some (.val (.fz (.bool (Fu k d))),x.2)
 |.lset a=>vt λρ=>((ck a).1 ρ).bind λx=>(ar x.2 x.1).bind λd=>(nF d).bind λes=>(gH es).bind λns=>(gd (ns.length<1000)).bind λ_=>some (.val (.fz (.int (ns.foldl Np.ddI []).length)),x.2)
 |.sst a=>vt λρ=>((ck a).1 ρ).bind λx=>(ar x.2 x.1).bind λd=>(nF d).bind λds=>(gH ds).bind λns=>(gd (ns.length<1000)).bind λ_=>(gd ((ns.foldl Np.ddI []).length<64)).bind λ_=>some (.val (.lst ((sortI (ns.foldl Np.ddI [])).map λi=>.fz (.int i))),x.2)
 |.idl i b=>vt λρ=>(nmR ρ i).bind λx=>(ar ρ x).bind λt=>(Ft t).bind λ_=>((ck b).1 ρ).bind λy=>(ar y.2 y.1).bind λd=>(gf d).bind λn=>(ar y.2 x).bind λA=>(Ft A).bind λds=>(gH ds).bind λns=>(gd (ns.length<1000000)).bind λ_=>(ns.findIdx? λm=>decide (m=n)).bind λj=>some (.val (.fz (.int j)),y.2)
 |.lrg a=>vt λρ=>((ck a).1 ρ).bind λx=>(ar x.2 x.1).bind λd=>(gf d).bind λj=>(gd (0<=j/\j<=100000)).bind λ_=>some (.val (.lst ((PyProof.Rows.rangeInts 0 1 j.toNat).map λi=>.fz (.int i))),x.2)
 |.dnew=>vt λρ=>some (.val (.dic [] []),ρ)
 |.pg i ps=>vt λρ=>(aj ρ i ps).bind λp=>(vg p.2.2).bind λd=>some (.val (.fz d),ρ)
 |.pf i ps=>vt λρ=>(aj ρ i ps).bind λp=>(p.2.2.dat).bind λd=>some (.val (.fz d),ρ.set i (some (OD.put (.fz d) p.2.1 p.1)))
 |.pl i ps=>vt λρ=>(aj ρ i ps).bind λp=>(p.2.2.dat).bind λd=>(kB d).bind λn=>some (.val (.fz (.int n)),ρ)
 |.pt i ps=>(λ_=>none,λρ=>(aj ρ i ps).bind λp=>(p.2.2.dat).bind λd=>(mw d).bind λk=>some (k,ρ))
 |.pin neg e i ps=>vt λρ=>((ck e).1 ρ).bind λx=>(ar x.2 x.1).bind λdx=>(aj x.2 i ps).bind λp=>(p.2.2.dat).bind λd=>(jq (if neg then .nin else .inn) dx d).bind λk=>some (.val (.fz (.bool k)),x.2)
 |.din neg e i ps=>vt λρ=>((ck e).1 ρ).bind λx=>(ar x.2 x.1).bind λdx=>(aj x.2 i ps).bind λp=>(keyOf dx).bind λk=>(GZ p.2.2).bind λq=>some (.val (.fz (.bool (if neg then !(q.1.any λq=>decide (q=k)) else q.1.any λq=>decide (q=k)))),x.2)
 |.comp nt fr it tg ifs elt=>vt λρ=>(jQ it ρ).bind λx=>(gd (x.1.length<1000000)).bind λ_=>(bE x.2 fr).bind λz=>
   (aM (λd h=>(be tg (.fz d) h).bind λρ1=>(G2 ifs ρ1).bind λk=>if k.1=true then ((ck elt).1 k.2).bind λy=>(frz1 y.2 y.1).bind λq=>some ([q.1],q.2) else some ([],k.2)) x.1 [] (List.replicate nt none++z.1)).bind λw=>
    some (.val (.lst (w.1.map OD.fz)),bL z.2 fr (w.2.drop nt))
 |.compB i nt fr tg ifs elt=>vt λρ=>(ρ[i]?.join).bind λr=>(xG r).bind λxs=>(se xs).bind λds=>(gd (ds.length<1000000)).bind λ_=>(bE (ρ.set i none) fr).bind λz=>
   (aM (λd h=>(be tg (.fz d) h).bind λρ1=>(G2 ifs ρ1).bind λk=>if k.1=true then ((ck elt).1 k.2).bind λy=>(frz1 y.2 y.1).bind λq=>some ([q.1],q.2) else some ([],k.2)) ds [] (List.replicate nt none++z.1)).bind λw=>
    some (.val (.lst (w.1.map OD.fz)),(bL z.2 fr (w.2.drop nt)).set i (some (.lst xs)))
 |.meth c m f i es=>vt λρ=>(ρ[i]?.join).bind λr=>(Fq r).bind λq=>(gd (q.1=c/\m ∉ q.2.1)).bind λ_=>(evs es ρ).bind λx=>(aX (C.io f) x.2 (.rf i::x.1)).bind λz=>(C.call f z.1).bind λw=>some (.val w.1,dH (C.io f) (.rf i::x.1) w.2 z.2)
 |.make c f es=>vt λρ=>(evs es ρ).bind λx=>(aX (C.io f).tail x.2 x.1).bind λz=>(C.mak f (.obj c [] []::z.1)).bind λw=>(Jo w).bind λy=>some (.val y.1,dH (C.io f).tail x.1 y.2 z.2)
noncomputable def evs:Es->DEnv->Option (List OR×DEnv)
 |.nil,ρ=>some ([],ρ)
 |.cons e es,ρ=>((ck e).1 ρ).bind λx=>(evs es x.2).bind λy=>some (x.1::y.1,y.2)
noncomputable def Ig:Eo->DEnv->Option (Option Int×DEnv)
 |.none,ρ=>some (none,ρ)
 |.some e,ρ=>((ck e).1 ρ).bind λx=>(ar x.2 x.1).bind λd=>(gf d).bind λi=>some (some i,x.2)
noncomputable def G2:Eo->DEnv->Option (Bool×DEnv)
 |.none,ρ=>some (true,ρ)
 |.some e,ρ=>(ck e).2 ρ
noncomputable def jQ:It'->DEnv->Option (List PyData×DEnv)
 |.seq e,ρ=>((ck e).1 ρ).bind λx=>(frz1 x.2 x.1).bind λz=>(nF z.1).bind λds=>some (ds,z.2)
 |.rg1 e,ρ=>((ck e).1 ρ).bind λx=>(ar x.2 x.1).bind λd=>(gf d).bind λj=>(gd (-(2^62)<=j/\j<2^62)).bind λ_=>some (cA 0 j.toNat,x.2)
 |.enm e,ρ=>((ck e).1 ρ).bind λx=>(frz1 x.2 x.1).bind λz=>(Ft z.1).bind λds=>some (bX ds,z.2)
 |.zip a b,ρ=>((ck a).1 ρ).bind λx=>((ck b).1 x.2).bind λy=>(frz1 y.2 x.1).bind λz=>(frz1 z.2 y.1).bind λw=>(nF z.1).bind λds=>(nF w.1).bind λes=>some (cB ds es,w.2)
end
abbrev ev(e:E)(ρ:DEnv):=(ck C e).1 ρ
abbrev aY(e:E)(ρ:DEnv):=(ck C e).2 ρ
end
example (C:Ct) (ρ:DEnv):ev C (.bop .add (.int 1) (.int 2)) ρ=some (.val (.fz (.int 3)),ρ):=rfl
example (C:Ct) (ρ:DEnv):aY C (.and (.bl true) (.not (.cmp .lt (.int 1) (.int 2)))) ρ=some (false,ρ):=rfl
end
section
def bnd{c b:Type}{o:Option c}{f:c->Option b}{x:b}(h:o.bind f=some x):∃a,o=some a/\f a=some x:=aaO.mp h
def bn2{α β γ:Type}{o:Option α}{g1:α->Option β}{f:α->β->Option γ}{r:γ}(h:(o.bind λa=>(g1 a).bind (f a))=some r):∃a b,o=some a/\g1 a=some b/\f a b=some r:=by obtain⟨a,p0,h⟩:=bnd h;obtain⟨b,p1,h⟩:=bnd h;exact⟨a,b,p0,p1,h⟩
theorem bn3{α β γ δ:Type}{o:Option α}{g1:α->Option β}{g2:α->β->Option γ}{f:α->β->γ->Option δ}{r:δ}(h:(o.bind λa=>(g1 a).bind λb=>(g2 a b).bind (f a b))=some r):∃a b c,o=some a/\g1 a=some b/\g2 a b=some c/\f a b c=some r:=by obtain⟨a,p0,h⟩:=bnd h;obtain⟨b,p1,h⟩:=bnd h;obtain⟨c,p2,h⟩:=bnd h;exact⟨a,b,c,p0,p1,p2,h⟩
theorem bn4{α β γ δ ε:Type}{o:Option α}{g1:α->Option β}{g2:α->β->Option γ}{g3:α->β->γ->Option δ}{f:α->β->γ->δ->Option ε}{r:ε}(h:(o.bind λa=>(g1 a).bind λb=>(g2 a b).bind λc=>(g3 a b c).bind (f a b c))=some r):∃a b c d,o=some a/\g1 a=some b/\g2 a b=some c/\g3 a b c=some d/\f a b c d=some r:=by obtain⟨a,p0,h⟩:=bnd h;obtain⟨b,p1,h⟩:=bnd h;obtain⟨c,p2,h⟩:=bnd h;obtain⟨d,p3,h⟩:=bnd h;exact⟨a,b,c,d,p0,p1,p2,p3,h⟩
theorem bn5{α β γ δ ε ζ:Type}{o:Option α}{g1:α->Option β}{g2:α->β->Option γ}{g3:α->β->γ->Option δ}{g4:α->β->γ->δ->Option ε}{f:α->β->γ->δ->ε->Option ζ}{r:ζ}(h:(o.bind λa=>(g1 a).bind λb=>(g2 a b).bind λc=>(g3 a b c).bind λd=>(g4 a b c d).bind (f a b c d))=some r):∃a b c d e,o=some a/\g1 a=some b/\g2 a b=some c/\g3 a b c=some d/\g4 a b c d=some e/\f a b c d e=some r:=by obtain⟨a,p0,h⟩:=bnd h;obtain⟨b,p1,h⟩:=bnd h;obtain⟨c,p2,h⟩:=bnd h;obtain⟨d,p3,h⟩:=bnd h;obtain⟨e,p4,h⟩:=bnd h;exact⟨a,b,c,d,e,p0,p1,p2,p3,p4,h⟩
def dN{x:OD}{d:PyData}(h:vg x=some d):x=.fz d:=by cases x<;>cases h;rfl
def gg{x:OD}{xs:List OD}(h:xG x=some xs):x=.lst xs:=by cases x<;>cases h;rfl
def vh{x:OD}{z:List Key×List OD}(h:GZ x=some z):x=.dic z.1 z.2:=by cases x<;>cases h;rfl
def kI{x:OD}{z:Str×List Str×List OD}(h:Fq x=some z):x=.obj z.1 z.2.1 z.2.2:=by cases x<;>cases h;rfl
def CN{x:OD}{xs:List OD}(h:Jn x=some xs):x=.lst xs\/x=.tup xs:=by cases x<;>cases h<;>first|exact .inl rfl|exact .inr rfl
def aU{d:PyData}{i:Int}(h:gf d=some i):d=.int i:=by cases d<;>cases h;rfl
def iH{d:PyData}{i:Bool}(h:Fs d=some i):d=.bool i:=by cases d<;>cases h;rfl
def kJ{d:PyData}{i:List PyData}(h:Ft d=some i):d=.list i:=by cases d<;>cases h;rfl
def iI{d:PyData}{i:List PyData}(h:nF d=some i):d=.list i\/d=.tuple i:=by cases d<;>cases h<;>first|exact .inl rfl|exact .inr rfl
def gd_ok{c:Prop}[Decidable c]{u:Unit}(h:gd c=some u):c:=by
 by_cases a:c
 ·exact a
 ·rw[gd,if_neg a]at h;cases h
def one1_ok{a:Type}{l:List a}{x:a}(h:eT l=some x):l=[x]:=by
 cases l with
 |nil=>cases h
 |cons y l=>cases l<;>cases h;rfl
def thr3_ok{a:Type}{l:List a}{x:a×a×a}(h:CM l=some x):l=[x.1,x.2.1,x.2.2]:=by
 cases l with
 |nil=>cases h
 |cons y l=>
  cases l with
  |nil=>cases h
  |cons z l=>
   cases l with
   |nil=>cases h
   |cons w l=>cases l<;>cases h;rfl
def two2_ok{a:Type}{l:List a}{x:a×a}(h:iG l=some x):l=[x.1,x.2]:=by
 cases l with
 |nil=>cases h
 |cons y l=>
  cases l with
  |nil=>cases h
  |cons z l=>cases l<;>cases h;rfl
def CO{w z:OD×List OD}(h:Jo w=some z):w.1=.fz .none/\w.2=z.1::z.2:=by
 obtain⟨a,b⟩:=w;obtain⟨d,e,h⟩:=bnd h;cases b with
 |nil=>cases d<;>cases h
 |cons y c=>cases d<;>cases h;exact⟨dN e,rfl⟩
section
variable(C:Ct)
mutual
noncomputable def kK:E->DEnv->Option PyData
 |.nm i,ρ=>(ρ[i]?.join).bind vg
 |.int k,_=>some (.int k)
 |.str x,_=>some (.str x)
 |.gc g,_=>some (C.gv g)
 |.bop o a b,ρ=>match o with
  |.add=>(kK a ρ).bind λx=>(kK b ρ).bind λy=>yM .add x y
  |.sub=>(kK a ρ).bind λx=>(kK b ρ).bind λy=>yM .sub x y
  |_=>none
 |.ix a b,ρ=>(kK a ρ).bind λx=>(kK b ρ).bind λy=>(nF x).bind λds=>(gf y).bind λi=>atI ds i
 |.tup es,ρ=>(ou es ρ).bind λds=>(gd (ds.length<=1000000)).bind λ_=>some (.tuple ds)
 |.pg i ps,ρ=>(aj ρ i ps).bind λp=>vg p.2.2
 |_,_=>none
noncomputable def ou:Es->DEnv->Option (List PyData)
 |.nil,_=>some []
 |.cons e es,ρ=>(kK e ρ).bind λx=>(ou es ρ).bind λy=>some (x::y)
end
def br(f:Str)(z:OD):List Str->List OD->List Str×List OD
 |n::ns,x::xs=>if n=f then (n::ns,z::xs) else ((n::(br f z ns xs).1),(x::(br f z ns xs).2))
 |_,_=>([f],[z])
def bt(k:Key)(d:PyData)(ks:List Key)(xs:List OD):List Key×List OD:=
 if (ks.any λq=>decide (q=k))=true then (ks,List.zipWith (λq x=>if q=k then .fz d else x) ks xs) else (ks++[k],xs++[.fz d])
def mx:Bo->Int->PyData->Option Int
 |.add,a,.int k=>some (a+k)
 |.sub,a,.int k=>some (a-k)
 |_,_,_=>none
def vj(i:Nat)(ks:List Nat)(j:Nat)(u:V)(ρ a:DEnv):Prop:=∃x y,ρ[i]?.join=some x/\x.at ks=some (.hole u)/\ρ[j]?.join=some y/\j≠i/\a=(ρ.set j none).set i (some (OD.put y ks x))
def HolOk(g:V->Option (Fl×DEnv))(i:Nat)(ks:List Nat)(j:Nat)(z:Fl×DEnv):Prop:=∀u:V,∃a,g u=some (z.1,a)/\vj i ks j u a z.2
open Classical in
def holRun(g:V->Option (Fl×DEnv))(i:Nat)(ks:List Nat)(j:Nat):Option (Fl×DEnv):=if h:∃z,HolOk g i ks j z then some (Classical.choose h) else none
def my{g:V->Option (Fl×DEnv)}{i j:Nat}{ks:List Nat}{z:Fl×DEnv}(h:holRun g i ks j=some z):HolOk g i ks j z:=by
 unfold holRun at h;by_cases a:∃z,HolOk g i ks j z
 ·rw[dif_pos a]at h;cases h;exact acW a
 ·rw[dif_neg a]at h;cases h
theorem sG{g:V->Option (Fl×DEnv)}{i j:Nat}{ks:List Nat}{z:Fl×DEnv}(h:HolOk g i ks j z):holRun g i ks j=some z:=by
 have b:∃z,HolOk g i ks j z:=⟨z,h⟩
 have f:holRun g i ks j=some (Classical.choose b):=dif_pos b;rw[f];have c:=acW b;generalize Classical.choose b=z' at c;obtain⟨l,p,t,u,o,y,k,r,m⟩:=h .non;obtain⟨q,a,w,s,d,v,e,A,n⟩:=c .non;rw[p]at a;injection a with a;injection a with a a3;subst a3;rw[o]at d;rw[k]at e;cases d;cases e;obtain⟨D,x⟩:=z;obtain⟨C,B⟩:=z';simp only at *;rw[m,n,a]
abbrev AliOk(f:DEnv->Option (Fl×DEnv))(ρ:DEnv)(i:Nat)(p:OD×List Nat×OD)(xs:List OD)(j:Nat)(z:Fl×DEnv):Prop:=HolOk (λu=>f (ρ.set i (some (OD.put (.lst (xs++[.hole u])) p.2.1 p.1)))) i (p.2.1++[xs.length]) j z
def kL(f:DEnv->Option (Fl×DEnv))(ρ:DEnv)(i:Nat)(p:OD×List Nat×OD)(j:Nat):Option (Fl×DEnv):=(xG p.2.2).bind λa=>(gd (a.length<1000000/\j≠i/\(ρ[j]?.join).isSome)).bind λ_=>holRun (λu=>f (ρ.set i (some (OD.put (.lst (a++[.hole u])) p.2.1 p.1)))) i (p.2.1++[a.length]) j
theorem mz{f:DEnv->Option (Fl×DEnv)}{ρ:DEnv}{i j:Nat}{p:OD×List Nat×OD}{z:Fl×DEnv}(h:kL f ρ i p j=some z):∃xs,p.2.2=.lst xs/\xs.length<1000000/\j≠i/\(∃y,ρ[j]?.join=some y)/\AliOk f ρ i p xs j z:=by obtain⟨xs,_,b,a,h⟩:=bn2 h;have a:=gd_ok a;exact⟨xs,gg b,a.1,a.2.1,abq.mp a.2.2,my h⟩
theorem sH{f:DEnv->Option (Fl×DEnv)}{ρ:DEnv}{i j:Nat}{p:OD×List Nat×OD}{xs:List OD}{y:OD}{z:Fl×DEnv}(b:p.2.2=.lst xs)(c:xs.length<1000000)(a:j≠i)(d:ρ[j]?.join=some y)(h:AliOk f ρ i p xs j z):kL f ρ i p j=some z:=by unfold kL;rw[b,show xG (.lst xs)=some xs from rfl,abC];have:gd (xs.length<1000000/\j≠i/\(ρ[j]?.join).isSome)=some ():=if_pos ⟨c,a,by rw[d];rfl⟩;rw[this,abC];exact sG h
def Fw(b c:E)(o:List Key×List OD)(ρ:DEnv):Option ((List Key×List OD)×DEnv):=(ev C b ρ).bind λx=>(ev C c x.2).bind λy=>(ar y.2 x.1).bind λd=>(keyOf d).bind λa=>(frz1 y.2 y.1).bind λz=>some (bt a z.1 o.1 o.2,z.2)
def vk(tg:Tg)(b c:E)(o:List Key×List OD)(d:PyData)(ρ:DEnv):Option ((List Key×List OD)×DEnv):=(be tg (.fz d) ρ).bind λa=>Fw C b c o a
noncomputable def Ar(b:E)(o:List Key×List OD)(ρ:DEnv):Option ((List Key×List OD)×DEnv):=(ev C b ρ).bind λx=>(ar x.2 x.1).bind λc=>(keyOf c).bind λa=>(gd ((o.1.any λq=>decide (q=a))=false)).bind λ_=>some ((o.1++[a],o.2++[.lst []]),x.2)
def Fx(tg:Tg)(b:E)(o:List Key×List OD)(d:PyData)(ρ:DEnv):Option ((List Key×List OD)×DEnv):=(be tg (.fz d) ρ).bind λa=>Ar C b o a
def yN(tg:Tg)(e:E)(d:PyData)(ρ:DEnv):Option (List PyData×DEnv):=(be tg (.fz d) ρ).bind λa=>(ev C e a).bind λy=>(frz1 y.2 y.1).bind λq=>some ([q.1],q.2)
def pS(tg:Tg)(c:It')(a:Tg)(e:E)(out:List PyData)(d:PyData)(ρ:DEnv):Option (List PyData×DEnv):=(be tg (.fz d) ρ).bind λb=>(jQ C c b).bind λx=>(gd (out.length+x.1.length<1000000)).bind λ_=>aM (yN C a e) x.1 out x.2
mutual
def cJ:S'->DEnv->Option (Fl×DEnv)
 |.ex e,ρ=>(ev C e ρ).bind λx=>some (.nx,x.2)
 |.set i e,ρ=>(ev C e ρ).bind λx=>(own1 x.2 x.1).bind λz=>(gd (i<z.2.length)).bind λ_=>some (.nx,z.2.set i (some z.1))
 |.asg t e,ρ=>(ev C e ρ).bind λx=>(own1 x.2 x.1).bind λz=>(be t z.1 z.2).bind λρ1=>some (.nx,ρ1)
 |.par is es,ρ=>(evs C es ρ).bind λx=>(mapR own1 x.2 x.1).bind λz=>(gd (z.1.length=is.length/\∀i∈is,i<z.2.length)).bind λ_=>some (.nx,dF is z.1 z.2)
 |.aug i o e,ρ=>(ρ[i]?.join).bind λg=>(vg g).bind λm=>(gf m).bind λa=>(ev C e ρ).bind λx=>(ar x.2 x.1).bind λd=>(mx o a d).bind λr=>some (.nx,x.2.set i (some (.fz (.int r))))
 |.ret e,ρ=>(ev C e ρ).bind λx=>(mv1 x.2 x.1).bind λz=>some (.rt z.1,z.2)
 |.iff c a b,ρ=>(aY C c ρ).bind λx=>if x.1=true then aN a x.2 else aN b x.2
 |.fr t it b,ρ=>(jQ C it ρ).bind λx=>bD (λd l=>(be t (.fz d) l).bind λρ1=>aN b ρ1) x.1 x.2
 |.cont,ρ=>some (.ct,ρ)
 |.app i e,ρ=>(ρ[i]?.join).bind λg=>(xG g).bind λ_=>(ev C e ρ).bind λx=>(own1 x.2 x.1).bind λz=>(z.2[i]?.join).bind λh=>(xG h).bind λxs=>(gd (xs.length<1000000)).bind λ_=>some (.nx,z.2.set i (some (.lst (xs++[z.1]))))
 |.apd i ps e,ρ=>(aj ρ i ps).bind λp=>(kK C e ρ).bind λd=>(xG p.2.2).bind λxs=>(gd (xs.length<1000000)).bind λ_=>some (.nx,ρ.set i (some (OD.put (.lst (xs++[.fz d])) p.2.1 p.1)))
 |.sti i k e,ρ=>(ev C e ρ).bind λx=>(own1 x.2 x.1).bind λz=>(z.2[i]?.join).bind λg=>(xG g).bind λ_=>(ev C k z.2).bind λq=>(ar q.2 q.1).bind λd=>(gf d).bind λk=>(q.2[i]?.join).bind λh=>(xG h).bind λxs=>(ixN xs.length k).bind λj=>some (.nx,q.2.set i (some (.lst (xs.set j z.1))))
 |.std i ps j e,ρ=>(ev C e ρ).bind λx=>(frz1 x.2 x.1).bind λz=>(aj z.2 i ps).bind λp=>(z.2[j]?.join).bind λg=>(vg g).bind λs=>(keyOf s).bind λn=>(GZ p.2.2).bind λu=>(gd (u.2.length<1000000)).bind λ_=>some (.nx,z.2.set i (some (OD.put (.dic (bt n z.1 u.1 u.2).1 (bt n z.1 u.1 u.2).2) p.2.1 p.1)))
 |.sdc i nt fr it tg ke ve,ρ=>(jQ C it ρ).bind λx=>(gd (x.1.length<1000000)).bind λ_=>(bE x.2 fr).bind λz=>(cj (vk C tg ke ve) x.1 ([],[]) (List.replicate nt none++z.1)).bind λw=>(gd (i<(bL z.2 fr (w.2.drop nt)).length)).bind λ_=>some (.nx,(bL z.2 fr (w.2.drop nt)).set i (some (.dic w.1.1 w.1.2)))
 |.sdl i nt fr it tg ke,ρ=>(jQ C it ρ).bind λx=>(gd (x.1.length<1000000)).bind λ_=>(bE x.2 fr).bind λz=>(cj (Fx C tg ke) x.1 ([],[]) (List.replicate nt none++z.1)).bind λw=>(gd (i<(bL z.2 fr (w.2.drop nt)).length)).bind λ_=>some (.nx,(bL z.2 fr (w.2.drop nt)).set i (some (.dic w.1.1 w.1.2)))
 |.sc2 i nt fr it tg it2 tg2 e,ρ=>(jQ C it ρ).bind λx=>(gd (x.1.length<1000000)).bind λ_=>(bE x.2 fr).bind λz=>(cj (pS C tg it2 tg2 e) x.1 [] (List.replicate nt none++z.1)).bind λw=>(gd (i<(bL z.2 fr (w.2.drop nt)).length)).bind λ_=>some (.nx,(bL z.2 fr (w.2.drop nt)).set i (some (.lst (w.1.map OD.fz))))
 |.stf i c f e,ρ=>(ev C e ρ).bind λx=>(own1 x.2 x.1).bind λz=>(z.2[i]?.join).bind λg=>(Fq g).bind λu=>(gd (u.1=c/\u.2.2.length<1000)).bind λ_=>some (.nx,z.2.set i (some (.obj u.1 (br f z.1 u.2.1 u.2.2).1 (br f z.1 u.2.1 u.2.2).2)))
 |.agf i c f o e,ρ=>(aj ρ i [.fld c f]).bind λp=>(vg p.2.2).bind λm=>(gf m).bind λa=>(ev C e ρ).bind λx=>(ar x.2 x.1).bind λd=>(mx o a d).bind λr=>(x.2[i]?.join).bind λg=>(Fq g).bind λu=>(gd (u.1=c/\u.2.2.length<1000)).bind λ_=>some (.nx,x.2.set i (some (.obj u.1 (br f (.fz (.int r)) u.2.1 u.2.2).1 (br f (.fz (.int r)) u.2.1 u.2.2).2)))
def aN:Ss->DEnv->Option (Fl×DEnv)
 |.nil,ρ=>some (.nx,ρ)
 |.cons s ss,ρ=>(cJ s ρ).bind λx=>match x.1 with
  |.nx=>aN ss x.2
  |fl=>some (fl,x.2)
 |.ali i ps j ss,ρ=>(aj ρ i ps).bind λp=>kL (aN ss) ρ i p j
end
def vm(fn:Fn)(xs:List OD):Option (OD×List OD):=(aN C fn.body (f9 fn.n xs)).bind λx=>match x.1 with
 |.nx=>(aT 0 fn.io xs x.2).bind λa=>some (.fz .none,a)
 |.rt o=>(aT 0 fn.io xs x.2).bind λa=>some (o,a)
 |_=>none
end
structure Pg where
 F:Nat->Option Fn
 gv:Nat->PyData
 wf:Nat
def Pg.io(p:Pg)(f:Nat):List Bool:=match p.F f with|some a=>a.io|none=>[]
def Pg.both(p:Pg):Nat->(Nat->List OD->Option (OD×List OD))×(Nat->List OD->Option (OD×List OD))
 |0=>(λ_ _=>none,λ_ _=>none)
 |n+1=>(λf xs=>match p.F f with
  |some fn=>if xs.length=fn.io.length then vm ⟨p.io,(Pg.both p n).1,(Pg.both p n).2,p.gv,p.wf⟩ fn xs else none
  |none=>none,(Pg.both p n).1)
def Pg.call(p:Pg)(n f:Nat)(xs:List OD):Option (OD×List OD):=(p.both n).1 f xs
def Pg.mak(p:Pg)(n f:Nat)(xs:List OD):Option (OD×List OD):=(p.both n).2 f xs
abbrev Pg.ct(p:Pg)(n:Nat):Ct:=⟨p.io,p.call n,p.mak n,p.gv,p.wf⟩
theorem Pg.fy(p:Pg)(n f:Nat)(xs:List OD):p.call (n+1) f xs=match p.F f with
  |some fn=>if xs.length=fn.io.length then vm (p.ct n) fn xs else none
  |none=>none:=rfl
theorem Pg.v3(p:Pg)(n f:Nat)(xs:List OD):p.mak (n+1) f xs=p.call n f xs:=rfl
end
section
def aB(C:Ct)(m:E):DE:=λa Q=>∃x,ev C m a=some x/\Q x.1 x.2
def g9(C:Ct)(m:E):DT:=λa Q=>∃x,aY C m a=some x/\Q x.1 x.2
def fq(C:Ct)(m:Es):DA:=λa Q=>∃x,evs C m a=some x/\Q x.1 x.2
def vn(C:Ct)(m:Eo):DO:=λa Q=>∃x,Ig C m a=some x/\Q x.1 x.2
def dO(C:Ct)(m:It'):DI:=λa Q=>∃x,jQ C m a=some x/\Q x.1 x.2
section
variable{X:Cx}{e:Expr}{es:List Expr}
theorem PDe.imp:PDe X e d->(∀ρ Q,d' ρ Q->d ρ Q)->PDe X e d'
 |⟨te,h,s⟩,f=>⟨te,h,λb F σ H ρ τ θ g Q c R a q=>s b F σ H ρ τ θ g Q c R (f _ _ a) q⟩
theorem PDt.imp:PDt X e d->(∀ρ Q,d' ρ Q->d ρ Q)->PDt X e d'
 |⟨te,h,s⟩,f=>⟨te,h,λb F σ H ρ τ θ g Q c R a q=>s b F σ H ρ τ θ g Q c R (f _ _ a) q⟩
theorem PDw.imp:PDw X e d->(∀ρ Q,d' ρ Q->d ρ Q)->PDw X e d'
 |⟨te,h,s⟩,f=>⟨te,h,λb F σ H ρ τ θ g Q c R a q=>s b F σ H ρ τ θ g Q c R (f _ _ a) q⟩
theorem PDa.imp:PDa X es d->(∀ρ Q,d' ρ Q->d ρ Q)->PDa X es d'
 |⟨te,h,s⟩,f=>⟨te,h,λb F σ H ρ τ θ g Q c R a q=>s b F σ H ρ τ θ g Q c R (f _ _ a) q⟩
theorem PDi.imp:PDi X tg e d->(∀ρ Q,d' ρ Q->d ρ Q)->PDi X tg e d'
 |⟨te,h,s⟩,f=>⟨te,h,λb F σ H ρ τ θ g Q c R a q=>s b F σ H ρ τ θ g Q c R (f _ _ a) q⟩
theorem PDo.imp:PDo X o d->(∀ρ Q,d' ρ Q->d ρ Q)->PDo X o d'
 |⟨te,h,s⟩,f=>⟨te,h,λb F σ H ρ τ θ g Q c R a q=>s b F σ H ρ τ θ g Q c R (f _ _ a) q⟩
def SndR2.or{K:Waa}(h:SndR2 K r d)(h':SndR2 K r' d'):SndR2 K (λx y H Q=>r x y H Q\/r' x y H Q) (λx y Q=>d x y Q\/d' x y Q):=λH v u b c g Q a f z q=>z.imp (λz=>h H v u b c g Q a f z q) λz=>h' H v u b c g Q a f z q
def SndR2.imp{K:Waa}(h:SndR2 K r d)(f:∀x y Q,d' x y Q->d x y Q):SndR2 K r d':=λH v u b c i Q a g z q=>h H v u b c i Q a g (f _ _ _ z) q
end
def opOf:Bo->Operator
 |.add=>.Add|.sub=>.Sub|.mul=>.Mult|.fdiv=>.FloorDiv|.mod=>.Mod|.pow=>.Pow
def coOf:Co->CmpOp
 |.lt=>.Lt|.le=>.LtE|.gt=>.Gt|.ge=>.GtE|.eq=>.Eq|.ne=>.NotEq|.inn=>.In|.nin=>.NotIn
def JQ(o:Bo):DR2:=λx y Q=>∃d,yM o x y=some d/\Q d
def JR(o:Co):DR2:=λx y Q=>∃k,jq o x y=some k/\Q (.bool k)
def eD(h:yM o x y=some d):∃i j k,x=.int i/\y=.int j/\Jp o i j=some k/\d=.int k:=by obtain⟨i,j,k,c,b,a,h⟩:=bn3 h;cases h;exact⟨i,j,k,aU c,aU b,a,rfl⟩
section
variable{X:Cx}
theorem Fy(o:Bo):∃e,OpR X (binaryOp (opOf o)) e/\SndR2 X.K e (JQ o):=by
 cases o with
 |add=>refine⟨_,Bz,(uF λi j=>.int _).imp λx y Q c=>?_⟩;obtain⟨d,h,q⟩:=c;obtain⟨i,j,k,rfl,rfl,a,rfl⟩:=eD h;cases a;exact⟨i,j,rfl,rfl,q⟩
 |sub=>refine⟨_,BA,(uF λi j=>.int _).imp λx y Q c=>?_⟩;obtain⟨d,h,q⟩:=c;obtain⟨i,j,k,rfl,rfl,a,rfl⟩:=eD h;cases a;exact⟨i,j,rfl,rfl,q⟩
 |mul=>refine⟨_,BB,(yp λi j=>.int _).imp λx y Q c=>?_⟩;obtain⟨d,h,q⟩:=c;obtain⟨i,j,k,rfl,rfl,a,rfl⟩:=eD h;obtain⟨_,b,a⟩:=bnd a;cases a;have b:=gd_ok b;exact⟨i,j,rfl,rfl,b,q⟩
 |fdiv=>refine⟨_,xR,(yp λi j=>.int _).imp λx y Q c=>?_⟩;obtain⟨d,h,q⟩:=c;obtain⟨i,j,k,rfl,rfl,a,rfl⟩:=eD h;obtain⟨_,b,a⟩:=bnd a;cases a;have b:=gd_ok b;exact⟨i,j,rfl,rfl,b,q⟩
 |mod=>refine⟨_,BC,(yp λi j=>.int _).imp λx y Q c=>?_⟩;obtain⟨d,h,q⟩:=c;obtain⟨i,j,k,rfl,rfl,a,rfl⟩:=eD h;obtain⟨_,b,a⟩:=bnd a;cases a;have b:=gd_ok b;exact⟨i,j,rfl,rfl,b,q⟩
 |pow=>refine⟨_,BD,(yp λi j=>.int _).imp λx y Q c=>?_⟩;obtain⟨d,h,q⟩:=c;obtain⟨i,j,k,rfl,rfl,a,rfl⟩:=eD h;obtain⟨_,b,a⟩:=bnd a;cases a;have b:=gd_ok b;exact⟨i,j,rfl,rfl,b,q⟩
theorem pT(h:eqA x y=some k):lZ x y=some k\/(SeqAt.shaped x=true/\SeqAt.shaped y=true/\k=PyData.eqv x y):=by
 unfold eqA at h;cases e:lZ x y with
 |some d=>rw[e]at h;exact .inl h
 |none=>
  rw[e]at h;simp only at h;split at h
  ·rename_i c;cases h;obtain⟨a,b⟩:=abY.mp c;exact .inr ⟨a,b,rfl⟩
  ·cases h
def pU(h:inA x y=some k):∃ds,(y=.list ds\/y=.tuple ds)/\Cc x=true/\memD x ds=some k:=by obtain⟨ds,_,a,b,h⟩:=bn2 h;exact⟨ds,iI a,gd_ok b,h⟩
theorem iJ(p:X.A.units+64<cLine)(o:Co):∃n,OpR X (compareOp (coOf o)) n/\SndR2 X.K n (JR o):=by
 have b:∀{x y:PyData}{k:Bool}{g:Int->Int->Bool},((gf x).bind λi=>(gf y).bind λj=>some (g i j))=some k->∃i j,x=.int i/\y=.int j/\k=g i j:=by intro x y k g h;obtain⟨i,j,s,r,h⟩:=bn2 h;cases h;exact⟨i,j,aU s,aU r,rfl⟩
 cases o with
 |lt=>refine⟨_,Ex,(yq ).imp λx y Q a=>?_⟩;obtain⟨k,h,q⟩:=a;obtain⟨i,j,rfl,rfl,rfl⟩:=b h;exact⟨i,j,rfl,rfl,q⟩
 |le=>refine⟨_,Ey,(yq ).imp λx y Q a=>?_⟩;obtain⟨k,h,q⟩:=a;obtain⟨i,j,rfl,rfl,rfl⟩:=b h;exact⟨i,j,rfl,rfl,q⟩
 |gt=>refine⟨_,Ez,(yq ).imp λx y Q a=>?_⟩;obtain⟨k,h,q⟩:=a;obtain⟨i,j,rfl,rfl,rfl⟩:=b h;exact⟨i,j,rfl,rfl,q⟩
 |ge=>refine⟨_,EA,(yq ).imp λx y Q a=>?_⟩;obtain⟨k,h,q⟩:=a;obtain⟨i,j,rfl,rfl,rfl⟩:=b h;exact⟨i,j,rfl,rfl,q⟩
 |eq=>
  refine⟨_,op_eq.or (BW p),(sr_eq.or Ca).imp λx y Q a=>?_⟩;obtain⟨k,h,q⟩:=a;rcases pT h with h|⟨d,c,rfl⟩
  ·exact .inl ⟨k,h,q⟩
  ·exact .inr ⟨d,c,q⟩
 |ne=>
  refine⟨_,op_ne.or (BX p),(sr_ne.or Cb).imp λx y Q a=>?_⟩;obtain⟨k,h,q⟩:=a;obtain⟨m,e,h⟩:=bnd h;cases h;rcases pT e with h|⟨d,c,rfl⟩
  ·exact .inl ⟨m,h,q⟩
  ·exact .inr ⟨d,c,q⟩
 |inn=>refine⟨_,rM,(Ao ).imp λx y Q a=>?_⟩;obtain⟨k,h,q⟩:=a;obtain⟨f,d,c,l⟩:=pU h;exact⟨f,k,d,c,l,q⟩
 |nin=>refine⟨_,kl,(Ao ).imp λx y Q a=>?_⟩;obtain⟨k,h,q⟩:=a;obtain⟨m,e,h⟩:=bnd h;cases h;obtain⟨f,d,c,l⟩:=pU e;exact⟨f,m,d,c,l,q⟩
end
section
variable{X:Cx}{C:Ct}{a b c e:Expr}{es:List Expr}{ma mb mc:E}{mes:Es}{pos:Pos}
def FA(r:PDe X a (aB C ma))(n:PDe X b (aB C mb)):PDe X (.BinOp a (opOf o) b pos) (aB C (.bop o ma mb)):=by obtain⟨w,u,m⟩:=Fy o;refine(EV u m r n).imp λy Q i=>?_;obtain⟨x,h,q⟩:=i;obtain⟨g,j,s,l,d,v,k,f,p,t,h⟩:=bn5 h;cases h;exact⟨g,v,j,k,s,l,f,p,d,t,q⟩
theorem FB(j:X.A.units+64<cLine)(g:behindInMarks (coOf o) b=false)(t:PDe X a (aB C ma))(r:PDe X b (aB C mb)):PDe X (.Compare a [coOf o] [b] pos) (aB C (.cmp o ma mb)):=by obtain⟨z,w,p⟩:=iJ j o;refine(uG w p g t r).imp λB Q k=>?_;obtain⟨x,h,q⟩:=k;obtain⟨i,l,u,n,d,y,m,f,s,v,h⟩:=bn5 h;cases h;exact⟨i,y,l,m,u,n,f,s,d,v,q⟩
theorem FC(j:X.A.units+64<cLine)(g:behindInMarks (coOf o) b=false)(u:PDe X a (aB C ma))(s:PDe X b (aB C mb)):PDt X (.Compare a [coOf o] [b] pos) (g9 C (.cmp o ma mb)):=by obtain⟨D,z,r⟩:=iJ j o;refine(pK z r g u s).imp λF Q k=>?_;obtain⟨x,h,q⟩:=k;obtain⟨y,h,l⟩:=bnd h;obtain⟨i,m,v,p,d,B,n,f,t,w,h⟩:=bn5 h;cases h;cases l;exact⟨i,B,m,n,v,p,f,t,d,w,d,rfl,q⟩
theorem CP(i:X.A.units+64<cLine)(m:lastMarks [coOf o,coOf o'] [b,c]=false)(J:PDe X a (aB C ma))(H:PDe X b (aB C mb))(u:PDe X c (aB C mc)):PDe X (.Compare a [coOf o,coOf o'] [b,c] pos) (aB C (.cmp2 o o' ma mb mc)):=by
 obtain⟨S,N,F⟩:=iJ i o;obtain⟨B,g,f⟩:=iJ i o';refine(uH N F g f m J H u).imp λT Q s=>?_;obtain⟨x,h,q⟩:=s;obtain⟨p,y,L,D,k,P,z,l,I,O,h⟩:=bn5 h;refine⟨p,P,y,z,L,D,l,I,k,O,k,rfl,?_⟩;cases k with
 |false=>rw[if_neg aak]at h;cases h;rw[if_neg aak];exact q
 |true=>rw[if_pos rfl]at h ⊢;obtain⟨t,d,M,w,n,v,j,r,h⟩:=bn4 h;cases h;exact⟨t,n,d,M,v,j,w,r,q⟩
end
end
section
def isStar:Expr->Bool
 |.Starred _ _=>true
 |_=>false
def av(h:isStar e=false):starEach (e::es) env=(false,eval e env)::starEach es env:=by cases e<;>first|rfl|cases h
theorem bN:∀{es:List Expr},es.any isStar=false->(backTo pos (starEach es env)).any (·.1)=false
 |[],_=>rfl
 |e::es,h=>by rw[aaV,abZ]at h;rw[av h.1];show (false||(backTo pos (starEach es env)).any (·.1))=false;rw[bN h.2];rfl
def plainT:Expr->Bool
 |.UnaryOp .Not _ _=>false
 |.BoolOp _ _ _=>false
 |.IfExp _ _ _ _=>false
 |.Compare _ _ _ _=>false
 |_=>true
def plainT_ok(h:plainT e=true):∀a,isTrue e env a=(do let v <-a;standAt e.pos;holding [v] (truthy v)):=by
 intro a;cases e with
 |UnaryOp b x p=>cases b<;>first|rfl|cases h
 |_=>first|rfl|cases h
section
variable{X:Cx}{C:Ct}{a b c e:Expr}{es:List Expr}{ma mb mc:E}{mes:Es}{pos p:Pos}{x:Str}{i:Nat}
def As:ev C (.nm i) ρ=(match ρ[i]?.join with|some (.fz d)=>some (.val (.fz d),ρ)|some _=>some (.rf i,ρ)|none=>none):=rfl
theorem FD(l:X.N[i]?=some x) (f:Vis X.env.scope x) (k:(x==("__debug__":Str))=false) (d:(x==("__classdict__":Str))=false):PDe X (.Name x pos) (aB C (.nm i)):=by
 refine(B9 l f k d).imp λj Q g=>?_;obtain⟨y,h,q⟩:=g;unfold dVar;rw[As]at h;cases e:j[i]?.join with
 |none=>rw[e]at h;cases h
 |some z=>rw[e]at h;cases z<;>(simp only at h;cases h;exact q)
def FE{j pos}:PDe X (.Constant (.int k) j pos) (aB C (.int k)):=pd_int.imp λd Q ⟨y,h,q⟩=>by cases h;exact q
def FF{j pos}:PDe X (.Constant (.str k) j pos) (aB C (.str k)):=pd_str.imp λd Q ⟨y,h,q⟩=>by cases h;exact q
def Ih{j pos}:PDe X (.Constant (.bool k) j pos) (aB C (.bl k)):=pd_bl.imp λd Q ⟨y,h,q⟩=>by cases h;exact q
def Ii(j:Gl X x) (d:X.mg x=some u) (r:RelV v u) (s:∀S H,Fz X.K S H v (C.gv g)) (f:(x==("__debug__":Str))=false):PDe X (.Name x pos) (aB C (.gc g)):=
 (uE j d r s f).imp λk Q ⟨y,h,q⟩=>by cases h;exact q
theorem vo{d:Bool}{K:Waa}:SndR2 K (λx y H Q=>∃a b:Bool,x=.bl a/\y=.bl b/\Q (.bl (if d then !(a==b) else a==b)) H) (λdx dy Q=>∃a b,dx=.bool a/\dy=.bool b/\Q (.bool (if d then !(a==b) else a==b))):=by intro H v u dx dy j Q g h f q;obtain⟨a,b,rfl,rfl,f⟩:=f;cases g;cases h;exact⟨a,b,rfl,rfl,q _ _ (.bl _) f⟩
def vp{d:Bool}:OpR X (compareOp (if d then .IsNot else .Is)) (λx y H Q=>∃a b:Bool,x=.bl a/\y=.bl b/\Q (.bl (if d then !(a==b) else a==b)) H):=by
 cases d
 ·exact B5
 ·exact rZ
theorem FG{j f}(g:PDe X a (aB C ma)):PDe X (.Compare a [if neg then .IsNot else .Is] [.Constant (.bool k) j f] pos) (aB C (.isb neg k ma)):=by refine(uG vp vo (nobehind _ (by cases neg<;>decide) (by cases neg<;>decide)) g (pd_bl )).imp λr Q ⟨y,h,q⟩=>?_;obtain⟨n,d,b,o,m,l,h⟩:=bn3 h;cases h;exact⟨n,o,_,_,m,rfl,b,k,iH l,rfl,q⟩
theorem t_isb{j f}(g:PDe X a (aB C ma)):PDt X (.Compare a [if neg then .IsNot else .Is] [.Constant (.bool k) j f] pos) (g9 C (.isb neg k ma)):=by refine(pK vp vo (nobehind _ (by cases neg<;>decide) (by cases neg<;>decide)) g (pd_bl )).imp λs Q ⟨y,h,q⟩=>?_;obtain⟨z,h,o⟩:=bnd h;obtain⟨n,d,b,r,m,l,h⟩:=bn3 h;cases h;cases o;exact⟨n,r,_,_,m,rfl,b,k,iH l,rfl,_,rfl,q⟩
theorem v_and(g:PDe X a (aB C ma))(m:PDe X (.BoolOp .And (b::es) pos) (aB C mb)):PDe X (.BoolOp .And (a::b::es) pos) (aB C (.and ma mb)):=by
 refine(Cg g m).imp λr Q j=>?_;obtain⟨y,h,q⟩:=j;obtain⟨n,d,k,o,f,l,h⟩:=bn3 h;rw[iH l]at f;refine⟨n,o,k,f,?_⟩;cases k with
 |false=>rw[if_neg aak]at h ⊢;cases h;exact q
 |true=>rw[if_pos rfl]at h ⊢;exact⟨y,h,q⟩
theorem v_or(g:PDe X a (aB C ma))(m:PDe X (.BoolOp .Or (b::es) pos) (aB C mb)):PDe X (.BoolOp .Or (a::b::es) pos) (aB C (.or ma mb)):=by
 refine(EZ g m).imp λr Q j=>?_;obtain⟨y,h,q⟩:=j;obtain⟨n,d,k,o,f,l,h⟩:=bn3 h;rw[iH l]at f;refine⟨n,o,k,f,?_⟩;cases k with
 |false=>rw[if_neg aak]at h ⊢;exact⟨y,h,q⟩
 |true=>rw[if_pos rfl]at h ⊢;cases h;exact q
def v_not(f:PDe X a (aB C ma)):PDe X (.UnaryOp .Not a pos) (aB C (.not ma)):=by refine(Ci f).imp λo Q g=>?_;obtain⟨y,h,q⟩:=g;obtain⟨m,d,k,n,l,j,h⟩:=bn3 h;cases h;exact⟨m,n,k,by rw[l,iH j],q⟩
def FH(f:PDe X a (aB C ma)):PDe X (.UnaryOp .USub a pos) (aB C (.neg ma)):=by refine(Ce f).imp λo Q g=>?_;obtain⟨y,h,q⟩:=g;obtain⟨m,d,k,n,l,j,h⟩:=bn3 h;cases h;exact⟨m,n,d,l,k,aU j,q⟩
theorem FI(d:PDt X a (g9 C ma))(g:PDw X (.BoolOp .And (b::es) pos) (g9 C mb)):PDw X (.BoolOp .And (a::b::es) pos) (g9 C (.and ma mb)):=by
 refine(yu d g).imp λm Q f=>?_;obtain⟨y,h,q⟩:=f;obtain⟨j,l,h⟩:=bnd h;refine⟨j,l,?_⟩;split at h
 ·rename_i k;rw[if_pos k];exact⟨y,h,q⟩
 ·rename_i k;rw[if_neg k];cases h;exact q
theorem Ij(d:PDt X a (g9 C ma))(g:PDw X (.BoolOp .Or (b::es) pos) (g9 C mb)):PDw X (.BoolOp .Or (a::b::es) pos) (g9 C (.or ma mb)):=by
 refine(Cm d g).imp λm Q f=>?_;obtain⟨y,h,q⟩:=f;obtain⟨j,l,h⟩:=bnd h;refine⟨j,l,?_⟩;split at h
 ·rename_i k;rw[if_pos k];cases h;exact q
 ·rename_i k;rw[if_neg k];exact⟨y,h,q⟩
def FJ(d:PDt X a (g9 C ma)):PDt X (.UnaryOp .Not a pos) (g9 C (.not ma)):=by refine(yv d).imp λk Q f=>?_;obtain⟨y,h,q⟩:=f;obtain⟨g,j,h⟩:=bnd h;cases h;exact⟨g,j,q⟩
theorem FK(g:PDt X c (g9 C mc))(d:PDe X a (aB C ma))(l:PDe X b (aB C mb)):PDe X (.IfExp c a b pos) (aB C (.ife mc ma mb)):=by
 refine(E5 g d l).imp λn Q f=>?_;obtain⟨y,h,q⟩:=f;obtain⟨j,m,h⟩:=bnd h;refine⟨j,m,?_⟩;split at h
 ·rename_i k;rw[if_pos k];exact⟨y,h,q⟩
 ·rename_i k;rw[if_neg k];exact⟨y,h,q⟩
def pV(h:Dt X.K H v d)(e:mw d=some k):BF X.K v H k:=by
 cases h with
 |non=>cases e;rfl
 |bl b=>cases e;rfl
 |int i=>cases e;rfl
 |str x=>simp[mw]at e
 |lst s t=>cases e;exact .inl ⟨_,s,by rw[DtAll.emp t]⟩
 |tup s t=>cases e;exact .inr (.inl ⟨_,s,by rw[DtAll.emp t]⟩)
theorem FL(s:aY C m=(vt (ev C m)).2)(u:plainT e=true):PDe X e (aB C m)->PDt X e (g9 C m)
 |⟨te,g,s1⟩=>⟨_,lP g (plainT_ok u),λb F σ H ρ τ θ J Q l R ⟨y,h,q⟩ k=>by
  have h':((ev C m ρ).bind λx=>(ar x.2 x.1).bind λd=>(mw d).bind λk=>some (k,x.2))=some y:=by rw[<-h,s];rfl
  obtain⟨z,d,t,D,A,o,h'⟩:=bn3 h';cases h';refine s1 b F σ H ρ τ θ (λr f=>r=z.1/\f=z.2) _ l R ⟨z,D,rfl,rfl⟩ λv I r f j w=>?_;obtain⟨g,B⟩:=w;subst g B;have n:=j.dt A;rw[l]at n;exact⟨t,pV n o,k _ _ _ j.drop q⟩⟩
def gh:PDa X [] (fq C .nil):=pda_nil.imp λd Q ⟨y,h,q⟩=>by cases h;exact q
def cV(hs:isStar e=false)(d:PDe X e (aB C ma))(l:PDa X es (fq C mes)):PDa X (e::es) (fq C (.cons ma mes)):=by refine(uK (av hs) d l).imp λn Q f=>?_;obtain⟨y,h,q⟩:=f;obtain⟨k,g,m,j,h⟩:=bn2 h;cases h;exact⟨k,m,g,j,q⟩
def FM{g}(d:PDa X es (fq C mes)):PDe X (.Tuple es g pos) (aB C (.tup mes)):=by refine(Cn E7 d).imp λn Q f=>?_;obtain⟨y,h,q⟩:=f;obtain⟨l,z,_,m,j,k,h⟩:=bn3 h;cases h;exact⟨l,m,z.1,z.2,j,gd_ok k,q⟩
def FN(d:PDa X es (fq C mes)):PDe X (.List es pos) (aB C (.lst mes)):=by refine(Cp E7 d).imp λm Q f=>?_;obtain⟨y,h,q⟩:=f;obtain⟨j,z,_,l,g,k,h⟩:=bn3 h;cases h;exact⟨j,l,z.1,z.2,g,gd_ok k,q⟩
def bI:Expr->Bool
 |.Slice _ _ _ _=>true
 |_=>false
def kM(h:bI b=false):PlainIx b:=λo i=>by cases b<;>first|rfl|cases h
def Ik(hs:bI b=false)(r:PDe X a (aB C ma))(n:PDe X b (aB C mb)):PDe X (.Subscript a b pos) (aB C (.ix ma mb)):=by refine(E8 (kM hs) r n).imp λu Q j=>?_;obtain⟨y,h,q⟩:=j;obtain⟨g,l,d,k,z,t,m,f,s,o,h⟩:=bn5 h;cases h;exact⟨g,t,l,m,k,z.1,z.2,by rw[f,aU s],o,q⟩
def yO:PDo X none (vn C .none):=pdo_none.imp λd Q ⟨y,h,q⟩=>by cases h;exact q
def yP(f:PDe X e (aB C ma)):PDo X (some e) (vn C (.some ma)):=by refine(uO f).imp λo Q g=>?_;obtain⟨y,h,q⟩:=g;obtain⟨m,d,k,n,l,j,h⟩:=bn3 h;cases h;exact⟨m,n,k,by rw[l,aU j],q⟩
theorem FO{d f:Option Expr}(t:PDe X e (aB C ma))(r:PDo X d (vn C ml))(n:PDo X f (vn C mh)):PDe X (.Subscript e (.Slice d f none p2) pos) (aB C (.sll ma ml mh)):=by refine(Cv t r n).imp λw Q m=>?_;obtain⟨y,h,q⟩:=m;obtain⟨k,l,u,j,v,o,g,s,h⟩:=bn4 h;cases h;exact⟨k,v,l,o,u,g,j,s,q⟩
def CQ(d:PDe X a (aB C ma))(r:PDe X b (aB C mb)):PDe X (.BinOp a .Add b pos) (aB C (.catV ma mb)):=by refine(yL d r).imp λu Q f=>?_;obtain⟨y,h,q⟩:=f;obtain⟨n,g,j,o,_,s,m,l,t,k,h⟩:=bn5 h;cases h;have k:=gd_ok k;exact⟨n,s,g,m,j,o,l,t,k.1,k.2,q⟩
theorem CS(G:FnD X.prog X.w X.K X.mg X.base k fa fd ps (λxs Q=>∃w,C.call f xs=some w/\Q w.1 w.2)) (u:Room k X.A) (t:Gl X x) (l:X.mg x=some (.ref fa)) (hk:PySem.W.keepIn X.K (.ref fa)=true) (n:Binds X.K fd ps []) (d:(x==("__debug__":Str))=false)
  (o:isStar e=false) (g:es.any isStar=false) (v:PDa X (e::es) (fq C mes)):PDe X (.Call (.Name x p) (e::es) [] pos) (aB C (.call f mes)):=by
 refine(yJ (ios:=C.io f) G u t l hk n d (av o) (bN g) v).imp λD Q r=>?_;obtain⟨y,h,q⟩:=r;obtain⟨m,z,w,B,s,j,h⟩:=bn3 h;cases h;exact⟨m,B,z.1,z.2,s,w,j,q⟩
theorem CT:PDe X (.Dict [] [] pos) (aB C .dnew):=⟨_,uv,λb F f H g j n l Q m R ⟨y,h,q⟩ k=>λp d=>by cases h;exact k _ _ _ _ (R.push (R.wd.wj d)) q⟩
end
end
section
section
variable{X:Cx}{K:Waa}
def jR:bootBuiltins "sorted"=some (.builtin "sorted"):=by decide +kernel
theorem cO:∀{ns:List Int}{us:List Value},Vals (ns.map V.int) us->IntsAre us ns
 |[],_,r=>by rw[aaD]at r;cases r;exact .nil
 |n::ns,_,r=>by
  rw[aam]at r;cases r with
  |cons r1 a=>obtain⟨t,rfl⟩:=r1;exact .cons n t (cO a)
def vq:bootBuiltins "set"=some (.type "set"):=by decide +kernel
end
def Jq(T:String):PyData->Bool
 |.bool _=>T == "bool" || T == "int"
 |.int _=>T == "int"
 |.str _=>T == "str"
 |.list _=>T == "list"
 |.tuple _=>T == "tuple"
 |_=>false
inductive KindT:String->Prop
 |int:KindT "int" |bool:KindT "bool" |str:KindT "str" |list:KindT "list" |tuple:KindT "tuple"
theorem Dt.kind{K:Waa}(h:Dt K H v d)(k:KindT T):∃n,Ty K H v n/\PySem.W.kitOne K (.type n) (.type T)=some (Jq T d):=by
 cases h with
 |non=>exact⟨_,.non,by cases k<;>first|exact kit_ni K|exact kit_nb K|exact kit_ns K|exact kit_nl K|exact kit_nt K⟩
 |bl b=>exact⟨_,.bl b,by cases k<;>first|exact kit_bi K|exact kit_same K _|exact kit_bs K|exact kit_bl K|exact kit_bt K⟩
 |int i=>exact⟨_,.int i,by cases k<;>first|exact kit_same K _|exact kit_ib K|exact kit_is K|exact kit_il K|exact kit_it K⟩
 |str x=>exact⟨_,.str x,by cases k<;>first|exact kit_same K _|exact kit_si K|exact kit_sb K|exact kit_sl K|exact kit_st K⟩
 |lst s t=>exact⟨_,.lst s,by cases k<;>first|exact kit_same K _|exact kit_li K|exact kit_lb K|exact kit_ls K|exact kit_lt K⟩
 |tup s t=>exact⟨_,.tup s,by cases k<;>first|exact kit_same K _|exact kit_ti K|exact kit_tb K|exact kit_ts K|exact kit_tl K⟩
def JS(f:Bl):DRn:=λa Q=>∃d,Ed f a=some d/\Q d
def SndCB.imp{K:Waa}(h:SndCB K r2 r)(f:∀ds Q,r' ds Q->r ds Q):SndCB K r2 r':=λH b ds c Q a z q=>h H b ds c Q a (f _ _ z) q
def DtAll.ints'{K:Waa}{ns:List Int}(h:DtAll K H vs (ns.map PyData.int)):vs=ns.map V.int:=by
 induction ns generalizing vs with
 |nil=>cases h;rfl
 |cons n ns a=>cases h with|cons r t=>cases r;rw[aam,a t]
section
variable{X:Cx}{K:Waa}
theorem eE:∀{ds:List PyData}{ns:List Int},gH ds=some ns->ds=ns.map PyData.int
 |[],_,h=>by cases h;rfl
 |d::ds,ns,h=>by obtain⟨i,r,b,a,h⟩:=bn2 h;cases h;rw[aU b,eE a,aam]
end
def CU:Bl->Str
 |.len=>"len" |.abs=>"abs" |.min=>"min" |.int=>"int" |.all=>"all"
section
variable{X:Cx}{C:Ct}{a b c e:Expr}{es:List Expr}{ma mb mc:E}{mes:Es}{pos p p1 p2 p3:Pos}{x:Str}{i:Nat}
theorem FP{f:Bl}(B:X.calm=true)(t:Gl X (CU f))(r:X.mg (CU f)=none)(s:isStar e=false)(k:es.any isStar=false)(u:PDa X (e::es) (fq C mes)):PDe X (.Call (.Name (CU f) p) (e::es) [] pos) (aB C (.blt f mes)):=by
 have A:PDe X (.Call (.Name (CU f) p) (e::es) [] pos) (GY (JS f) (fq C mes))->PDe X (.Call (.Name (CU f) p) (e::es) [] pos) (aB C (.blt f mes)):=λh=>h.imp λI Q ⟨y,h,q⟩=>by obtain⟨F,o,d,g,v,D,h⟩:=bn3 h;cases h;exact⟨F,g,o,v,d,D,q⟩
 refine A ?_;cases f with
 |len=>refine fe lQ (sc_len.imp λo Q l=>?_) t r nY (by decide) (by decide) (av s) (bN k) u;obtain⟨d,h,q⟩:=l;obtain⟨z,n,m,g,h⟩:=bn2 h;cases h;exact⟨z,n,one1_ok m,g,q⟩
 |abs=>refine fe tN (sc_abs.imp λo Q l=>?_) t r BY (by decide) (by decide) (av s) (bN k) u;obtain⟨d,h,q⟩:=l;obtain⟨z,i,m,g,h⟩:=bn2 h;cases h;exact⟨i,by rw[one1_ok m,aU g],q⟩
 |min=>refine fe (rF B) (sc_min.imp λo Q l=>?_) t r BZ (by decide) (by decide) (av s) (bN k) u;obtain⟨d,h,q⟩:=l;obtain⟨z,i,j,m,g,v,h⟩:=bn3 h;cases h;exact⟨i,j,by rw[two2_ok m,aU g,aU v],q⟩
 |int=>refine uM rG (sc_int.imp λo Q l=>?_) t r um (by decide) (by decide) (av s) (bN k) u;obtain⟨d,h,q⟩:=l;obtain⟨z,n,m,g,h⟩:=bn2 h;cases h;exact⟨z,n,one1_ok m,g,q⟩
 |all=>refine fe (uj B) (sc_all.imp λo Q l=>?_) t r B3 (by decide) (by decide) (av s) (bN k) u;obtain⟨d,h,q⟩:=l;obtain⟨w,z,n,m,H,g,h⟩:=bn3 h;cases h;exact⟨z,n,by rw[one1_ok m,kJ H],g,q⟩
theorem CV(n:Gl X "list") (k:X.mg "list"=none) (f:isStar e=false) (g:PDe X e (aB C ma)):PDe X (.Call (.Name "list" p) [e] [] pos) (aB C (.bnw .list ma)):=by refine(sf n k g8 (by decide) (by decide) (av f) rfl (cV f g gh)).imp λr Q j=>?_;obtain⟨y,h,q⟩:=j;obtain⟨d,m,o,l,h⟩:=bn2 h;cases h;exact⟨([d.1],d.2),by simp only[evs,o];rfl,d.1,m,rfl,l,q⟩
theorem yQ(n:Gl X "tuple") (k:X.mg "tuple"=none) (f:isStar e=false) (g:PDe X e (aB C ma)):PDe X (.Call (.Name "tuple" p) [e] [] pos) (aB C (.bnw .tuple ma)):=by refine(uN n k ij (by decide) (by decide) (av f) rfl (cV f g gh)).imp λr Q j=>?_;obtain⟨y,h,q⟩:=j;obtain⟨d,m,o,l,h⟩:=bn2 h;cases h;exact⟨([d.1],d.2),by simp only[evs,o];rfl,d.1,m,rfl,l,q⟩
theorem insI_perm(i:Int):∀l,(insI i l).Perm (i::l)
 |[]=>.refl _
 |j::r=>by
  unfold insI;split
  ·exact .refl _
  ·exact((insI_perm i r).cons j).trans (List.Perm.swap _ _ _)
theorem mB(i:Int):∀{l:List Int},l.Pairwise (·<=·)->(insI i l).Pairwise (·<=·)
 |[],_=>by simp[insI]
 |j::r,h=>by
  obtain⟨g,m⟩:=abc.mp h;unfold insI;split
  ·rename_i d;exact abc.mpr ⟨λk f=>(aab.mp f).elim (λe=>e▸d) λf=>Int.le_trans d (g k f),h⟩
  ·rename_i d;refine abc.mpr ⟨λk f=>?_,mB i m⟩;rcases aab.mp ((insI_perm i r).mem_iff.mp f) with rfl|f
   ·omega
   ·exact g k f
theorem sortI_perm:∀l,(sortI l).Perm l
 |[]=>.refl _
 |i::r=>(insI_perm i _).trans ((sortI_perm r).cons i)
theorem cP:∀l,(sortI l).Pairwise (·<=·)
 |[]=>.nil
 |i::r=>mB i (cP r)
theorem iK:∀{l d:List Int},l.Perm d->l.Pairwise (·<=·)->d.Pairwise (·<=·)->l=d
 |[],d,p,_,_=>by have:=p.length_eq;cases d with|nil=>rfl|cons _ _=>simp at this
 |a::l,[],p,_,_=>by have:=p.length_eq;simp at this
 |a::l,b::d,p,h,h'=>by
  obtain⟨j,m⟩:=abc.mp h;obtain⟨k,n⟩:=abc.mp h';have e:a=b:=by
   have f:a∈b::d:=p.mem_iff.mp aad;have g:b∈a::l:=p.mem_iff.mpr aad;rcases aab.mp f with e|f
   ·exact e
   ·rcases aab.mp g with e|g
    ·exact e.symm
    ·have:=j b g;have:=k a f;omega
  subst e;rw[iK (List.Perm.cons_inv p) m n]
theorem FQ(I:X.calm=true) (P:Gl X "list") (D:X.mg "list"=none) (n:Gl X "range") (u:X.mg "range"=none) (A:isStar e=false) (t:PDe X e (aB C ma)):PDe X (.Call (.Name "list" p) [.Call (.Name "range" p1) [e] [] p2] [] pos) (aB C (.lrg ma)):=by obtain⟨te,h,s⟩:=t;refine⟨_,kr P D n u (aK h bh (av A)) I (av A) (av rfl),λb F W H M O Y Qd Q J R ⟨y,h,q⟩ k=>?_⟩;obtain⟨o,d,j,_,Z,z,B,g,h⟩:=bn4 h;cases h;have g:=gd_ok g;rw[aU B]at z;refine s b F W H M O Y (λr f=>r=o.1/\f=o.2) _ J R ⟨o,Z,rfl,rfl⟩ λv H' r f m L=>?_;obtain⟨t,T⟩:=L;subst t T;have N:=m.dt z;cases N;refine⟨j,rfl,g.1,g.2,λl U=>k _ _ _ _ (m.drop.push ?_) q⟩;have w:=m.drop.wd.adds (ds:=(rangeInts 0 1 j.toNat).map PyData.int) λS _=>FzA.ints _;have:=Wd.eu w (by simp) U;rw[abd]at this;exact this
theorem iL{k:Knd}{T:String} (g:match k with|.int=>T="int" |.bool=>T="bool" |.str=>T="str" |.list=>T="list" |.tuple=>T="tuple" |.seq=>False) (hy:PE X b (tC (.ty T))) (U:Gl X "isinstance") (J:X.mg "isinstance"=none) (B:isStar a=false) (u:isStar b=false)
  (m:PDe X a (aB C ma)):PDe X (.Call (.Name "isinstance" p) [a,b] [] pos) (aB C (.isi k ma)):=by
 obtain⟨te,h,s⟩:=m;refine⟨_,cb (uk T) U J eJ (aK h (aK hy bh (av u)) (av B)) (by decide) (by decide) (av B) (bN (by simp[u])),λb F Z H O P θ Qd Q w R ⟨y,h,q⟩ N=>?_⟩;obtain⟨l,d,e1,S,h⟩:=bn2 h;cases h;refine s b F Z H O P θ (λr j=>r=l.1/\j=l.2) _ w R ⟨l,e1,rfl,rfl⟩ λv o r j t L=>?_;obtain⟨m,Y⟩:=L;subst m Y;have A:=t.dt S;rw[w]at A;have f:∀(z:KindT T),Jq T d=Fu k d->∃x n b,[v,V.ty T]=[x,V.ty T]/\Ty X.K o x n/\PySem.W.kitOne X.K (.type n) (.type T)=some b/\Q (.bl b) o:=λz M=>by obtain⟨n,I,D⟩:=A.kind z;rw[M]at D;exact⟨v,n,_,rfl,I,D,N _ o _ _ (t.drop.sc (.bl _)) q⟩
 cases k with
 |int=>subst g;exact f .int (by cases d<;>rfl)
 |bool=>subst g;exact f .bool (by cases d<;>rfl)
 |str=>subst g;exact f .str (by cases d<;>rfl)
 |list=>subst g;exact f .list (by cases d<;>rfl)
 |tuple=>subst g;exact f .tuple (by cases d<;>rfl)
 |seq=>exact g.elim
theorem Dt.kind2{K:Waa}(h:Dt K H v d):∃n,Ty K H v n/\PySem.W.kitAny K (.type n) [.type "list",.type "tuple"]=some (Fu .seq d):=by
 cases h with
 |non=>exact⟨_,.non,en K (kit_nl K) (kit_nt K)⟩
 |bl b=>exact⟨_,.bl b,en K (kit_bl K) (kit_bt K)⟩
 |int i=>exact⟨_,.int i,en K (kit_il K) (kit_it K)⟩
 |str x=>exact⟨_,.str x,en K (kit_sl K) (kit_st K)⟩
 |lst s t=>exact⟨_,.lst s,ig K (.inl (kit_same K _))⟩
 |tup s t=>exact⟨_,.tup s,ig K (.inr ⟨kit_tl K,kit_same K _⟩)⟩
theorem CW{I} (hy:PE X b (tC (.ty "list"))) (W:PE X c (tC (.ty "tuple"))) (U:Gl X "isinstance") (J:X.mg "isinstance"=none) (D:isStar a=false) (M:isStar b=false) (L:isStar c=false)
  (l:PDe X a (aB C ma)):PDe X (.Call (.Name "isinstance" p) [a,.Tuple [b,c] I p1] [] pos) (aB C (.isi .seq ma)):=by
 obtain⟨te,h,s⟩:=l;refine⟨_,cb (rT "list" "tuple") U J eJ (aK h (aK (nN (aK hy (aK W bh (av L)) (av M))) bh (av rfl)) (av D)) (by decide) (by decide) (av D) (bN rfl),λb F A H S z B Qd Q t R ⟨y,h,q⟩ P=>?_⟩;obtain⟨g,d,e1,T,h⟩:=bn2 h;cases h;refine s b F A H S z B (λr f=>r=g.1/\f=g.2) _ t R ⟨g,e1,rfl,rfl⟩ λv H' r f j N=>?_;obtain⟨l,Y⟩:=N;subst l Y;refine⟨by show 2<=sizeLine;decide,λu Z=>?_⟩;have o:Rel b F A (upd H' u (.tup [.ty "list",.ty "tuple"])) g.2 (v::z) (g.1::B):=⟨j.wf,j.al,j.wff,j.wd.new Z⟩
 have w:=o.dt T;rw[t]at w;obtain⟨n,m,O⟩:=w.kind2;have k:=P (.bl (Fu .seq d)) _ (.val (.fz (.bool (Fu .seq d)))) _ (o.drop.sc (.bl _)) q;exact⟨v,_,_,u,rfl,ao,m,O,k⟩
end
end
section
def cW(t:Tg):DG:=λx b Q=>∃a,be t x b=some a/\Q a
structure Sto (X:Cx)(W:Nat->Prop)(m:Nat)(i:Nat)(x:Str):Prop where
 hN:X.N[i]?=some x
 loc:Loc X.env.scope x
 fn:X.fn x=true\/X.env.scope.names.lookup x=some .local
 lt:i<m
 nw:¬ W i
section
variable{X:Cx}{W:Nat->Prop}{m:Nat}{C:Ct}{a b c e:Expr}{es:List Expr}{ma mb mc:E}{mes:Es}{pos p p1 p2 p3:Pos}{x:Str}{i:Nat}
theorem PDg.imp:PDg X W m e d->(∀x ρ Q,d' x ρ Q->d x ρ Q)->PDg X W m e d'
 |⟨te,h,s⟩,f=>⟨te,h,λb F σ H ρ τ θ v x k Q j n R g q=>s b F σ H ρ τ θ v x k Q j n R (f _ _ _ g) q⟩
theorem PDgs.imp:PDgs X W m es d->(∀x ρ Q,d' x ρ Q->d x ρ Q)->PDgs X W m es d'
 |⟨te,h,s⟩,f=>⟨te,h,λb F σ H ρ τ θ v x l Q k n g R j q=>s b F σ H ρ τ θ v x l Q k n g R (f _ _ _ j) q⟩
theorem PDg.or:PDg X W m e d->PDg X W m e d'->PDg X W m e (λx ρ Q=>d x ρ Q\/d' x ρ Q)
 |⟨te,h,s⟩,⟨te',h',s'⟩=>⟨λv σ H Q=>te v σ H Q\/te' v σ H Q,λf s σ H v u Q I r z=>z.elim (h f s σ H v u Q I r) (h' f s σ H v u Q I r),λb F σ H ρ τ θ v x k Q j n R g q=>g.imp (λg=>s b F σ H ρ τ θ v x k Q j n R g q) λg=>s' b F σ H ρ τ θ v x k Q j n R g q⟩
def FR(j:X.N.Nodup)(s:Sto X W m i x):PDg X W m (.Name x pos) (cW (.nm i)):=by refine(l7 s.nw j s.hN s.loc s.lt s.fn).imp λy k Q d=>?_;obtain⟨f,h,q⟩:=d;obtain⟨_,g,h⟩:=bnd h;cases h;exact⟨gd_ok g,q⟩
inductive Stos (X:Cx)(W:Nat->Prop)(m:Nat):List Nat->List Expr->Prop
 |nil:Stos X W m [] []
 |cons {i is x pos es}:Sto X W m i x->Stos X W m is es->Stos X W m (i::is) (.Name x pos::es)
theorem ox(h:X.N.Nodup):∀{f:List Nat}{es:List Expr},Stos X W m f es->PDgs X W m es (λxs ρ Q=>xs.length=f.length/\(∀i∈f,i<ρ.length)/\Q (dF f xs ρ))
 |[],_,.nil=>pdgs_nil.imp λxs ρ Q ⟨d,g,q⟩=>by
   cases xs with
   |nil=>exact⟨rfl,q⟩
   |cons _ _=>simp at d
 |i::is,_,.cons s t=>(fY rfl (l7 s.nw h s.hN s.loc s.lt s.fn) (ox h t)).imp λxs ρ Q ⟨d,g,q⟩=>by
   cases xs with
   |nil=>simp at d
   |cons z zs=>exact⟨z,zs,rfl,g i aad,by simpa using d,λj k=>by rw[aci];exact g j (aah _ k),q⟩
theorem ft(h:Stos X W m ts es):(assignEach es X.env).length=ts.length/\(assignEach es X.env).findIdx? (·.1)=none:=by
 induction h with
 |nil=>exact⟨rfl,rfl⟩
 |@cons i is x pos es s t ih=>have e:assignEach (.Name x pos::es) X.env=(false,assign (.Name x pos) X.env)::assignEach es X.env:=rfl;rw[e];refine⟨by simp[ih.1],?_⟩;rw[aaY];simp[ih.2]
def mC(h:unpA y=some xs):unpT y=some xs\/unpL y=some xs:=by
 unfold unpA at h;cases d:unpT y with
 |some f=>rw[d]at h;exact .inl h
 |none=>rw[d]at h;exact .inr h
theorem FS(g:X.calm=true)(l:X.N.Nodup)(h:Stos X W m ts es):PDg X W m (.Tuple es k pos) (cW (.tp ts)):=by
 refine((pL g (ft h).1 (ft h).2 (ox l h)).or (pM g (ft h).1 (ft h).2 (ox l h))).imp λy r Q n=>?_;obtain⟨o,h,q⟩:=n;obtain⟨j,_,f,d,h⟩:=bn2 h;cases h;have d:=gd_ok d;rcases mC f with f|f
 ·exact .inl ⟨j,f,d.1,d.1,d.2,q⟩
 ·exact .inr ⟨j,f,d.1,d.1,d.2,q⟩
theorem Im(g:X.calm=true)(o:X.N.Nodup)(s:Sto X W m i x)(h:Stos X W m ts es):PDg X W m (.Tuple [.Name x p,.Tuple es k p2] k2 pos) (cW (.tn i ts)):=by
 have n:=fY (e:=.Name x p) (es:=[.Tuple es k p2]) rfl (FR o s) (fY rfl (FS g o h) pdgs_nil);refine((pL g rfl rfl n).or (pM g rfl rfl n)).imp λy j Q r=>?_;obtain⟨f,h,q⟩:=r;obtain⟨v,z,_,d,t,u,h⟩:=bn3 h;rw[two2_ok t]at d;have l:oa (cW (.nm i)) (oa (cW (.tp ts)) dgNil) [z.1,z.2] j Q:=⟨z.1,[z.2],rfl,j.set i (some z.1),by show (gd _).bind _=_;rw[u];rfl,z.2,[],rfl,f,h,rfl,q⟩
 rcases mC d with d|d
 ·exact .inl ⟨_,d,rfl,l⟩
 ·exact .inr ⟨_,d,rfl,l⟩
def PI.or(h:PI X tg e t)(h':PI X tg e t'):PI X tg e (λσ H R=>t σ H R\/t' σ H R):=λd s σ H R I z=>z.elim (h d s σ H R I) (h' d s σ H R I)
theorem PDi.or:PDi X tg e d->PDi X tg e d'->PDi X tg e (λρ Q=>d ρ Q\/d' ρ Q)
 |⟨te,h,s⟩,⟨te',h',s'⟩=>⟨_,PI.or h h',λb F σ H ρ τ θ j Q g R f q=>f.imp (λf=>s b F σ H ρ τ θ j Q g R f q) λf=>s' b F σ H ρ τ θ j Q g R f q⟩
def CY(d:ev C ma ρ=some xa):evs C (.cons ma .nil) ρ=some ([xa.1],xa.2):=by show ((ev C ma ρ).bind _)=_;rw[d];rfl
def Io(d:ev C ma ρ=some xa)(f:ev C mb xa.2=some xb):evs C (.cons ma (.cons mb .nil)) ρ=some ([xa.1,xb.1],xb.2):=by show ((ev C ma ρ).bind _)=_;rw[d];show ((evs C (.cons mb .nil) xa.2).bind _)=_;rw[CY f];rfl
def pW(e:ar ρ r=some d):fX ρ [r]=some [d]:=by show ((ar ρ r).bind _)=_;rw[e];rfl
def Au(e:frz1 ρ r=some z)(h:z.1=d):frzL ρ [r]=some ([d],z.2):=by show ((frz1 ρ r).bind _)=_;rw[e,<-h];rfl
def FT(e:frz1 ρ r=some z)(d:frz1 z.2 r'=some w):frzL ρ [r,r']=some ([z.1,w.1],w.2):=by show ((frz1 ρ r).bind _)=_;rw[e];show ((frzL z.2 [r']).map _)=_;rw[Au d rfl];rfl
def Av(h:nF d=some ds):∃l:Bool,Fj d=some (l,ds):=(iI h).elim (λh=>⟨true,h▸rfl⟩) λh=>⟨false,h▸rfl⟩
theorem FU(g:PDe X e (aB C ma)):PDi X tg e (dO C (.seq ma)):=by
 refine((uW g).or (yE g)).imp λr Q n=>?_;obtain⟨y,h,q⟩:=n;obtain⟨k,z,s,l,j,f,h⟩:=bn3 h;obtain⟨d,o⟩:=z;cases h;rcases iI f with f|f<;>simp only at f<;>subst f
 ·exact .inl ⟨k,l,_,_,j,q⟩
 ·exact .inr ⟨k,l,_,_,j,q⟩
theorem FV(s:Gl X "range") (r:X.mg "range"=none) (hs:isStar a=false) (l:PDe X a (aB C ma)):PDi X tg (.Call (.Name "range" p) [a] [] pos) (dO C (.rg1 ma)):=by refine(oi s r (av hs) (cV hs l gh)).imp λu Q n=>?_;obtain⟨y,h,q⟩:=n;obtain⟨k,d,j,_,t,g,o,f,h⟩:=bn4 h;cases h;have f:=gd_ok f;rw[aU o]at g;exact⟨([k.1],k.2),CY t,j,pW g,f.1,f.2,q⟩
theorem FW{k} (r:Gl X "enumerate") (l:X.mg "enumerate"=none) (hs:isStar a=false) (f:PDe X a (aB C ma)):PDi X (.Tuple es k tpos) (.Call (.Name "enumerate" p) [a] [] pos) (dO C (.enm ma)):=by refine(uX r l (av hs) (cV hs f gh)).imp λt Q g=>?_;obtain⟨y,h,q⟩:=g;obtain⟨d,z,o,s,n,j,h⟩:=bn3 h;cases h;exact⟨([d.1],d.2),CY s,o,z.2,Au n (kJ j),q⟩
theorem FX{j} (t:Gl X "zip") (k:X.mg "zip"=none) (hs:isStar a=false) (d:isStar b=false) (B:PDe X a (aB C ma)) (v:PDe X b (aB C mb)):PDi X (.Tuple es j tpos) (.Call (.Name "zip" p) [a,b] [] pos) (dO C (.zip ma mb)):=by refine(yF t k (by rw[av hs,av d];rfl) (av d) (cV hs B (cV d v gh))).imp λL Q n=>?_;obtain⟨y,h,q⟩:=n;obtain⟨I,J,z,w,l,H,f,s,g,A,h⟩:=bn5 h;obtain⟨es,D,h⟩:=bnd h;cases h;obtain⟨F,u⟩:=Av A;obtain⟨r,o⟩:=Av D;exact⟨_,Io H f,_,_,F,r,l,es,w.2,FT s g,u,o,q⟩
noncomputable def aS(C:Ct)(tg:Tg)(g:Eo)(elt:E)(d:PyData)(ρ:DEnv):Option (List PyData×DEnv):=
 (be tg (.fz d) ρ).bind λf=>(G2 C g f).bind λk=>if k.1=true then (ev C elt k.2).bind λy=>(frz1 y.2 y.1).bind λq=>some ([q.1],q.2) else some ([],k.2)
def Aw(C:Ct)(d:Eo)(elt:E):DC:=λf Q=>∃w,((G2 C d f).bind λk=>if k.1=true then (ev C elt k.2).bind λy=>(frz1 y.2 y.1).bind λq=>some (([q.1]:List PyData),q.2) else some ([],k.2))=some w/\Q w.1 w.2
theorem PDc.imp:PDc Y ifs elt d->(∀ρ Q,d' ρ Q->d ρ Q)->PDc Y ifs elt d'
 |⟨te,h,s⟩,f=>⟨te,h,λb F σ H ρ vs rs D out n Q l g k R j q=>s b F σ H ρ vs rs D out n Q l g k R (f _ _ j) q⟩
def yR(d:PDe Y elt (aB C me)):PDc Y [] elt (Aw C .none me):=(su d).imp λf Q ⟨w,h,q⟩=>by have h:((ev C me f).bind λy=>(frz1 y.2 y.1).bind λq=>some (([q.1]:List PyData),q.2))=some w:=h;obtain⟨y,z,j,g,h⟩:=bn2 h;cases h;exact⟨y,j,z.1,z.2,g,q⟩
theorem CZ(j:PDt Y c (g9 C mc))(f:PDe Y elt (aB C me)):PDc Y [c] elt (Aw C (.some mc) me):=(u6 j f).imp λo Q ⟨w,h,q⟩=>by
 obtain⟨k,g,h⟩:=bnd h;refine⟨k,g,?_⟩;by_cases d:k.1=true
 ·rw[if_pos d]at h ⊢;obtain⟨y,z,n,l,h⟩:=bn2 h;cases h;exact⟨y,n,z.1,z.2,l,q⟩
 ·rw[if_neg d]at h ⊢;cases h;exact q
theorem iM(step:PyData->DEnv->Option (List PyData×DEnv))(ds:List PyData)(w:List PyData×DEnv)(k:Nat)(f:ds[k]?=some d)(h:aM step (ds.drop k) out ρ=some w):∃z,step d ρ=some z/\aM step (ds.drop (k+1)) (out++z.1) z.2=some w:=by
 have g:=(aai.mp f).1;have e:ds.drop k=d::ds.drop (k+1):=by rw[abW g,(aai.mp f).2]
 rw[e]at h;exact bnd h
theorem pX(C:Ct){j:Tg}:∀ρ Q,aB C (.comp nt fr mi j mif me) ρ Q->pP (dO C mi) nt fr (cW j) (Aw C mif me) ρ Q:=λρ Q ⟨y,h,q⟩=>by
 obtain⟨x,_,z,w,B,v,s,r,h⟩:=bn4 h;cases h;refine⟨x,B,gd_ok v,z.1,z.2,s,λk f ρ=>aM (aS C j mif me) (x.1.drop k) f ρ=some w,r,λk d f ρ t g=>?_,λf ρ g=>?_⟩
 ·obtain⟨u,l,o⟩:=iM _ _ _ k t g;obtain⟨n,A,l⟩:=bnd l;exact⟨n,A,u,l,o⟩
 ·have g:aM (aS C j mif me) (x.1.drop x.1.length) f ρ=some w:=g;rw[abv]at g;cases g;exact q
theorem C0{d:Tg}(f:X.calm=true)(S:CompScope N nt fr X.N scope X.env.scope)(hs:∀x,foldedSetIterable iter X.env x=pure x)(h:PDi X tg iter (dO C mi))(g:∀c:CC,PDg (ba X N scope c) Ff nt tg (cW d))(j:∀c:CC,PDc (ba X N scope c) ifs elt (Aw C mif me)):
  PDe X (.ListComp elt [⟨tg,iter,ifs,0⟩] scope pos) (aB C (.comp nt fr mi d mif me)):=(yI f S hs h g j).imp (pX C)
end
end
section
def C1(D:DEnds)(ρ:DEnv):Fl->Prop
 |.nx=>D.nx ρ|.bk=>D.bk ρ|.ct=>D.ct ρ|.rt x=>D.rt x ρ
def gI(C:Ct)(s:S'):DS:=λD a=>∃x,cJ C s a=some x/\C1 D x.2 x.1
def kN(C:Ct)(s:Ss):DS:=λD a=>∃x,aN C s a=some x/\C1 D x.2 x.1
section
variable{b:Bs}{F:List Fr}{σ:St}{H H':Hp}{ρ:DEnv}{τ us:List V}{θ:List OR}{zs:List OD}{v u:V}{x y:OD}{i:Nat}{ks:List Nat}
theorem Rel.open(R:Rel b F σ H ρ (us++τ) (zs.map OR.val++θ))(a:us.length=zs.length)(e:ρ[i]?.join=some x):∃v,σ[i]?=some (some v)/\Wd b H (us.zip zs++((v,x)::(stk τ θ++(flat σ (ρ.set i none)++ff F)))):=by obtain⟨v,c,w⟩:=R.slot (join_some e);refine⟨v,c,w.perm ?_⟩;rw[aC (by simpa using a),cf a,aac];exact aav.symm
def Rel.close(R:Rel b F σ H ρ τ θ)(ev:σ[i]?=some (some v))(w:Wd b H' ((v,x)::(stk τ θ++(flat σ (ρ.set i none)++ff F)))):Rel b F σ H' (ρ.set i (some x)) τ θ:=Rel.back R.wf R.al R.wff ev w
def Rel.rest(R:Rel b F σ H ρ (us++τ) (zs.map OR.val++θ))(a:us.length=zs.length):Rel b F σ H ρ τ θ:=R.drops (by simpa using a)
end
section
variable{X:Cx}{W:Nat->Prop}{m:Nat}{C:Ct}{a b c e:Expr}{es:List Expr}{sts s1 s2:List Stmt}{st:Stmt}{ma mb mc:E}{mes:Es}{ms:S'}{mss ma' mb':Ss}{pos p p1 p2 p3 pos':Pos}{x:Str}{i:Nat}
theorem PDs.imp:PDs X W st d->(∀D ρ,d' D ρ->d D ρ)->PDs X W st d'
 |⟨te,h,s⟩,f=>⟨te,h,λb F σ H ρ τ θ j D k n R g E=>s b F σ H ρ τ θ j D k n R (f _ _ g) E⟩
theorem PDss.imp:PDss X W sts d->(∀D ρ,d' D ρ->d D ρ)->PDss X W sts d'
 |⟨te,h,s⟩,f=>⟨te,h,λb F σ H ρ τ θ j D k n R g E=>s b F σ H ρ τ θ j D k n R (f _ _ g) E⟩
def C3:PDss X W [] (kN C .nil):=pdss_nil.imp λD d ⟨y,h,q⟩=>by cases h;exact q
theorem yS(g:PDs X W st (gI C ms))(k:PDss X W sts (kN C mss)):PDss X W (st::sts) (kN C (.cons ms mss)):=by
 refine(si g k).imp λD o n=>?_;obtain⟨y,h,q⟩:=n;obtain⟨z,f,h⟩:=bnd h;obtain⟨l,j⟩:=z;refine⟨λd=>l=.nx/\d=j,λd ⟨g,k⟩=>?_,?_⟩
 ·subst g k;exact⟨y,h,q⟩
 ·cases l
  ·exact⟨_,f,rfl,rfl⟩
  ·cases h;exact⟨_,f,q⟩
  ·cases h;exact⟨_,f,q⟩
  ·cases h;exact⟨_,f,q⟩
def C4:PDs X W (.Continue pos) (gI C .cont):=pds_cont.imp λD d ⟨y,h,q⟩=>by cases h;exact q
def eU:Expr->Bool
 |.ListComp _ _ _ _=>true|.SetComp _ _ _ _=>true|.DictComp _ _ _ _ _=>true
 |_=>false
def iN(h:eU e=false):swapsWith e t l env=pure false:=by cases e<;>first|rfl|cases h
def Ip(hs:eU e=false)(d:PDe X e (aB C ma)):PDs X W (.Expr e pos) (gI C (.ex ma)):=by refine(uR (iN hs) d).imp λD j f=>?_;obtain⟨y,h,q⟩:=f;obtain⟨z,g,h⟩:=bnd h;cases h;exact⟨z,g,q⟩
def FY(d:PDe X e (aB C ma)):PDs X W (.Return (some e) pos) (gI C (.ret ma)):=by refine(yA d).imp λD k f=>?_;obtain⟨y,h,q⟩:=f;obtain⟨z,w,j,g,h⟩:=bn2 h;cases h;exact⟨z,j,w.1,w.2,g,q⟩
theorem Iq(j:PDt X c (g9 C mc))(f:PDss X W s1 (kN C ma'))(k:PDss X W s2 (kN C mb')):PDs X W (.If c s1 s2 pos) (gI C (.iff mc ma' mb')):=by
 refine(Cw j f k).imp λD n g=>?_;obtain⟨y,h,q⟩:=g;obtain⟨z,l,h⟩:=bnd h;refine⟨z,l,?_⟩;by_cases d:z.1=true
 ·rw[if_pos d]at h ⊢;exact⟨y,h,q⟩
 ·rw[if_neg d]at h ⊢;exact⟨y,h,q⟩
theorem Ax(l:X.N.Nodup)(s:Sto X W m i x)(hs:swapsWith e (some (.Name x pos')) pos.line X.env=pure false)(d:PDe X e (aB C ma)):PDs X W (.Assign [.Name x pos'] e pos) (gI C (.set i ma)):=by refine(yB s.nw l s.hN s.loc hs s.fn d).imp λD n f=>?_;obtain⟨y,h,q⟩:=f;obtain⟨z,w,_,k,g,j,h⟩:=bn3 h;cases h;exact⟨z,k,w.1,w.2,g,gd_ok j,q⟩
theorem FZ(hs:swapsWithSole [tg] e pos.line X.env=pure false)(n:swappedStores [tg] e X.env=pure none)(k:isStar tg=false)(f:PDe X e (aB C ma))(o:PDg X W m tg (cW t)):PDs X W (.Assign [tg] e pos) (gI C (.asg t ma)):=by refine(yD hs n (by cases tg<;>first|rfl|cases k) f o).imp λD s g=>?_;obtain⟨y,h,q⟩:=g;obtain⟨z,w,d,r,l,j,h⟩:=bn3 h;cases h;exact⟨z,r,w.1,w.2,l,d,j,q⟩
theorem F0(hp:PassesOwn (model X.prog X.w) X.A X.env X.xe)(hc:X.calm=true)(hs:∀x,foldedSetIterable iter X.env x=pure x)(hi:PDi X tg iter (dO C mi))(hg:PDg X W m tg (cW t))(hb:PDss X W sts (kN C mss)):PDs X W (.For tg iter sts [] pos) (gI C (.fr t mi mss)):=by
 obtain⟨_,j,s1⟩:=hi;obtain⟨_,k,s2⟩:=hg;obtain⟨_,h3,s3⟩:=hb;refine⟨_,Bv hp hc j k h3 hs,λb F σ H U O N Dd D hK n R ⟨y,h,q⟩ E=>?_⟩;obtain⟨x,e1,h⟩:=bnd h;refine s1 b F σ H U O N (λds f=>ds=x.1/\f=x.2) _ hK R ⟨x,e1,rfl,rfl⟩ λJ H1 ds r Y T Z nr R1 it hZ=>?_;obtain⟨j,k⟩:=hZ;subst j k;refine⟨λi mm σ H=>mm=x.1.length-i/\i<=x.1.length/\∃U,Rel b F σ H U (Y++O) (T++N)/\bD (λd f=>(be t (.fz d) f).bind λr=>aN C mss r) (x.1.drop i) U=some y,⟨_,rfl,aaI _,_,R1,h⟩,?_⟩;rintro i mm M H2 ⟨rfl,hi,L,R2,u⟩;obtain⟨go,P⟩:=it F M H2 L O N R2 i;by_cases B:i<x.1.length
 ·obtain⟨g1,g2⟩:=go B;have ed:x.1[i]?=some x.1[i]:=aan B;have ee:x.1.drop i=x.1[i]::x.1.drop (i+1):=abW B;rw[ee]at u;obtain⟨w,e2,u⟩:=bnd u;obtain⟨S,e3,e2⟩:=bnd e2;obtain⟨Q,s⟩:=w;refine .inr ⟨g1,λg I=>∃f,Rel b F g I f (Y++O) (T++N)/\bD (λd f=>(be t (.fz d) f).bind λr=>aN C mss r) (x.1.drop (i+1)) f=some y,λg I ⟨f,l,w'⟩=>⟨_,by omega,rfl,B,f,l,w'⟩,λz H3 hy=>?_⟩;have R3:=g2 z H3 x.1[i] hy ed;refine s2 b F M H3 L (Y++O) (T++N) z _ (λf=>f=S) _ hK (NoRf.app nr.weak n) R3 ⟨S,e3,rfl⟩ λa0 H4 f R4 _ h4=>?_;subst h4;refine s3 b F a0 H4 _ (Y++O) (T++N) ⟨λf=>Q=.nx/\f=s,λo f=>Q=.rt o/\f=s,λf=>Q=.bk/\f=s,λf=>Q=.ct/\f=s⟩ _ hK (NoRf.app nr.weak n) R4 ⟨_,e2,by cases Q<;>exact⟨rfl,rfl⟩⟩ ⟨λg I f l ⟨j,k⟩=>?_,λg I f l ⟨j,k⟩=>?_,λg I f l ⟨j,k⟩=>?_,λg I f v o l ⟨j,k⟩=>?_⟩
  ·subst j k;exact⟨_,l,u⟩
  ·subst j k;cases u;exact E.nx g I _ (l.drops Z) q
  ·subst j k;exact⟨_,l,u⟩
  ·subst j k;cases u;exact E.rt g I _ v o (Rel.drops (Rel.u5 l Z) Z) q
 ·have e:i=x.1.length:=by omega
  subst e;rw[abv]at u;cases u;exact .inl ⟨P rfl,E.nx M H2 L (R2.drops Z) q⟩
end
end
section
section
variable{X:Cx}{W:Nat->Prop}{m:Nat}{C:Ct}{a b c e:Expr}{es:List Expr}{sts s1 s2:List Stmt}{st:Stmt}{ma mb mc:E}{mes:Es}{ms:S'}{mss ma' mb':Ss}{pos p p1 p2 p3 pos' apos cpos:Pos}{x:Str}{i:Nat}
theorem F1(hN:X.N.Nodup)(s:Sto X W m i x)(B:PDe X e (aB C ma)):PDs X W (.AugAssign (.Name x pos') (opOf o) e pos) (gI C (.aug i o ma)):=by
 have j:∀(f:Operator) (g:Int->Int->Int),GS X f (Ho g)->(∀a d r,mx o a d=some r->∃k,d=.int k/\r=g a k)->PDs X W (.AugAssign (.Name x pos') f e pos) (gI C (.aug i o ma)):=λf g ho hg=>by
  obtain⟨_,h,s1⟩:=B;refine⟨_,Bq hN s.hN s.loc h ho s.fn,λb F P H A O S Dd D J n R ⟨y,h,q⟩ E=>?_⟩;obtain⟨U,d0,u,l,Q,M,h⟩:=bn3 h;rw[dN Q,aU M]at l
  ·obtain⟨z,dk,r,T,L,er,h⟩:=bn3 h;cases h;obtain⟨k,rfl,rfl⟩:=hg _ _ _ er;obtain⟨v,ev,w⟩:=R.slot (join_some l);have hv:=w.dt rfl;cases hv;have hi:i<A.length:=(aai.mp (join_some l)).1;refine⟨_,ev,s1 b F P H A O S (λr t=>r=z.1/\t=z.2) _ J R ⟨z,T,rfl,rfl⟩ λv Y r a0 I hZ=>?_⟩;obtain⟨B,h2⟩:=hZ;subst B h2;have Z:=I.dt L;cases Z;have hl:i<z.2.length:=by rw[<-I.wf.len,R.wf.len];exact hi
   exact⟨u,k,rfl,rfl,E.nx _ Y _ ((I.drop.sc (.int (g u k))).store n hl s.nw) q⟩
 have nil:∀f,(∀a d,mx o a d=none)->PDs X W (.AugAssign (.Name x pos') f e pos) (gI C (.aug i o ma)):=λf hn=>by refine⟨_,lN,λb F P H A O S Dd D J n R ⟨y,h,q⟩ E=>?_⟩;obtain⟨U,d0,u,z,dk,l,Q,M,T,L,h⟩:=bn5 h;rw[hn]at h;cases h
 cases o with
 |add=>exact j _ _ Br λa d r h=>by cases d<;>cases h;exact⟨_,rfl,rfl⟩
 |sub=>exact j _ _ Bt λa d r h=>by cases d<;>cases h;exact⟨_,rfl,rfl⟩
 |_=>exact nil _ λa d=>rfl
end
end
section
section
variable{b:Bs}{S S':Addr->Prop}{H H1 H':Hp}{L L':List (V×OD)}{v u u' w w':V}{x y z z' y':OD}{d:PyData}{ks:List Nat}{k:Nat}
theorem Chn.det(h:Chn b H v x ks u y)(h':Chn b H v x ks u' y'):u=u'/\y=y':=by
 induction ks generalizing v x with
 |nil=>cases h;cases h';exact⟨rfl,rfl⟩
 |cons k ks e=>
  cases h with
  |cons f i=>
   cases h' with
   |cons a j=>obtain⟨g,c⟩:=Chd.det f a;subst g c;exact e i j
def Chn.snoc(h:Chn b H v x ks u y)(c:Chd b H u y k w z):Chn b H v x (ks++[k]) w z:=by
 induction ks generalizing v x with
 |nil=>cases h;exact .cons c .nil
 |cons k ks a=>cases h with|cons e f=>exact .cons e (a f)
theorem Chn.unsnoc(h:Chn b H v x (ks++[k]) w z):∃u y,Chn b H v x ks u y/\Chd b H u y k w z:=by
 induction ks generalizing v x with
 |nil=>cases h with|cons c t=>cases t;exact⟨_,_,.nil,c⟩
 |cons k ks e=>
  cases h with
  |cons f i=>obtain⟨u,y,a,g⟩:=e i;exact⟨u,y,.cons f a,g⟩
theorem OD.p7:∀{ks:List Nat}{x:OD},x.at ks=some y->y.kids[k]?=some z->x.at (ks++[k])=some z
 |[],x,e,h=>by simp only[OD.at]at e;cases e;simp[OD.at,h]
 |j::ks,x,e,h=>by
  simp only[OD.at,aaQ]at e ⊢;cases a:x.kids[j]? with
  |none=>rw[a]at e;cases e
  |some q=>rw[a]at e;exact OD.p7 e h
def setKid_self(h:x.kids[k]?=some z):OD.et k z x=x:=by cases x<;>simp only[OD.kids]at h<;>first|(simp at h;done)|(simp only[OD.et];rw[bB h])
theorem OD.ri:∀{ks:List Nat}{x:OD},x.at ks=some y->OD.put y ks x=x
 |[],x,e=>by simp only[OD.at]at e;cases e;rfl
 |j::ks,x,e=>by
  simp only[OD.at,OD.put]at e ⊢;cases a:x.kids[j]? with
  |none=>rfl
  |some q=>rw[a]at e;simp only;rw[OD.ri e];exact setKid_self a
theorem path_at:∀{ps:List Acc}{ρ:DEnv}{i:Nat}{p:OD×List Nat×OD},aj ρ i ps=some p->ρ[i]?.join=some p.1/\p.1.at p.2.1=some p.2.2
 |[],ρ,i,p,h=>by obtain⟨x,c,h⟩:=bnd h;cases h;exact⟨c,rfl⟩
 |a::ps,ρ,i,p,h=>by obtain⟨q,k,z,c,j,f,h⟩:=bn3 h;cases h;obtain⟨e,g⟩:=path_at c;exact⟨e,OD.p7 g f⟩
def Wd.way(w:Wd b H ((v,x)::L))(e:x.at ks=some y):∃u,Chn b H v x ks u y:=by
 obtain⟨h,a,g,c⟩:=w.out;cases a with
 |cons r t=>obtain⟨u,B,i,f,_⟩:=Ow.path r e;exact⟨u,f⟩
theorem Wd.uh(w:Wd b H ((v,x)::L))(e:x.at ks=some y)(ch:Chn b H v x ks u y)(f:y.kids[k]?=some z):∃q,Chd b H u y k q z:=by obtain⟨q,c⟩:=w.way (OD.p7 e f);obtain⟨u',y',a,h⟩:=Chn.unsnoc c;obtain⟨i,g⟩:=Chn.det ch a;subst i g;exact⟨q,h⟩
def Ext(H H':Hp):Prop:=∀a o,H a=some o->H' a=some o
def Ext.refl(H:Hp):Ext H H:=λ_ _ h=>h
def Ext.trans(h:Ext H H1)(h':Ext H1 H'):Ext H H':=λa o e=>h' a o (h a o e)
def Ext.upd(e:H p=none):Ext H (upd H p o):=λa q h=>by
 by_cases z:a=p
 ·subst z;rw[e]at h;cases h
 ·rw[upd_ne z];exact h
def Chd.ext(E:Ext H H')(h:Chd b H v x k w z):Chd b H' v x k w z:=by
 cases h with
 |lst e c a f=>exact .lst (E _ _ e) c a f
 |tup e c a f=>exact .tup (E _ _ e) c a f
 |dic e c g a f=>exact .dic (E _ _ e) c g a f
 |obj e c g a f=>exact .obj (E _ _ e) c g a f
def Chn.ext(E:Ext H H')(h:Chn b H v x ks u y):Chn b H' v x ks u y:=by
 induction ks generalizing v x with
 |nil=>cases h;exact .nil
 |cons k ks a=>cases h with|cons c e=>exact .cons (c.ext E) (a e)
end
def Ir(K:Waa)(e:TE)(i:Nat)(ps:List Acc):Prop:=∀(b:Bs) (F:List Fr) (a:St) (H:Hp) (c:DEnv) (d:List V) (f:List OR) (Q:VK) (p:OD×List Nat×OD),b.K=K->Rel b F a H c d f->aj c i ps=some p->(∀v u,a[i]?=some (some v)->Chn b H v p.1 p.2.1 u p.2.2->Q u H)->e a H Q
inductive PDp (X:Cx)(e:Expr)(i:Nat)(ps:List Acc):Prop|mk (te:TE) (h:PE X e te) (s:Ir X.K te i ps)
inductive PX (X:Cx)(e:Expr)(f:St->Option V):Prop|mk (te:TE) (h:PE X e te) (s:∀σ H (Q:VK) v,f σ=some v->Q v H->te σ H Q)
section
variable{X:Cx}{C:Ct}{a e e2:Expr}{es:List Expr}{ma mb:E}{mes:Es}{pos p p1 p2:Pos}{x:Str}{i j:Nat}{ps:List Acc}{k:Int}
def F2:PX X (.Constant (.int k) j pos) (λ_=>some (.int k)):=⟨_,kf,λb H Q v e q=>by cases e;exact q⟩
def Iu(f:X.N[i]?=some x) (c:Vis X.env.scope x) (d:(x==("__debug__":Str))=false) (b:(x==("__classdict__":Str))=false):PX X (.Name x pos) (λσ=>σ[i]?.join):=⟨_,bP f c d b,λσ H Q v e q=>⟨v,join_some e,q⟩⟩
theorem Iw(g:X.N[i]?=some x) (l:Vis X.env.scope x) (f:(x==("__debug__":Str))=false) (c:(x==("__classdict__":Str))=false):PDp X (.Name x pos) i []:=
 ⟨_,bP g l f c,λb F s H o r t Q p n R h q=>by
  obtain⟨y,m,h⟩:=bnd h;cases h;obtain⟨v,d⟩:=R.wf.get (join_some m);exact⟨v,d,q v v d .nil⟩⟩
theorem lookup_at:∀{fs:List (Str×V)}{k:Nat}{w:V},(fs.map (·.1)).findIdx? (λg=>decide (g=f))=some k->(fs[k]?).map (·.2)=some w->fs.lookup f=some w
 |[],_,_,e,_=>by simp at e
 | (g,q)::fs,k,w,e,h=>by
  rw[aam,aaY]at e;by_cases b:g=f
  ·subst b;simp at e;subst e;simp at h;subst h;simp[List.lookup]
  ·simp[b]at e;obtain⟨d,l,e2⟩:=e;subst e2;have c:(fs.map (·.1)).findIdx? (λg=>decide (g=f))=some d:=by rw[List.findIdx?_map];exact l
   have:=lookup_at c (by simpa using h);have m:(f==g)=false:=by simpa using λz=>b z.symm
   simp[List.lookup,m,this]
def F3{k:Nat}(h:accN ρ y (.fld c f)=some k):∃ns xs,y=.obj c ns xs/\ns.findIdx? (λg=>decide (g=f))=some k:=by obtain⟨q,d,h⟩:=bnd h;obtain⟨_,e2,b⟩:=bnd h;exact⟨q.2.1,q.2.2,by rw[kI d,gd_ok e2],b⟩
theorem F4{c f:Str}(I:attributeBase e f X.env (eval e X.env)=eval e X.env)(B:Cls X.K (aq X.K c))(L:NoAttr X.K (aq X.K c) f):PDp X e i ps->PDp X (.Attribute e f pos) i (.fld c f::ps)
 |⟨te,h,s⟩=>⟨_,BH h I,λb F σ H ρ τ θ Q p m R d q=>by
  obtain⟨r,k,z,y,e2,A,d⟩:=bn3 d;cases d;refine s b F σ H ρ τ θ _ r m R y λv u t l=>?_;obtain⟨M,J⟩:=path_at y;obtain⟨N,g,w⟩:=R.slot (join_some M);rw[t]at g;cases g;obtain⟨n,o⟩:=w.uh J l A;obtain⟨P,O,D,e2⟩:=F3 e2;rw[D]at o l;cases o with
  |@obj a dx _ fs _ _ _ _ _ f1 f2 f5 f3 f4=>exact⟨a,_,dx,fs,n,rfl,f1,m▸B,m▸L,lookup_at (by rw[f2];exact e2) f3,q v n t (l.snoc (.obj f1 f2 f5 f3 f4))⟩⟩
def vw{b:Type}{xs:List b}{i:Int}{k:Nat}{y:b}(c:xs.length=n)(h:ixN n i=some k)(e:xs[k]?=some y):atI xs i=some y:=by subst c;unfold atI;rw[h];exact e
theorem F5(hs:PlainIx e2)(N:∀{b:Bs}{F:List Fr}{σ:St}{H:Hp}{ρ:DEnv}{τ:List V}{θ:List OR}{x:OD}{k:Nat},Rel b F σ H ρ τ θ->accN ρ x L=some k->∃n,f σ=some (.int n)/\((∃xs,x=.lst xs/\ixN xs.length n=some k)\/∃xs,x=.tup xs/\ixN xs.length n=some k)):PDp X e i ps->PX X e2 f->PDp X (.Subscript e e2 pos) i (L::ps)
 |⟨te,h,s⟩,⟨_,t,s2⟩=>⟨_,tU nP h t hs,λb F σ H ρ τ θ Q p D R c q=>by
  obtain⟨r,k,z,A,e2,B,c⟩:=bn3 c;cases c;refine s b F σ H ρ τ θ _ r D R A λv u o l=>?_;obtain⟨M,t⟩:=path_at A;obtain⟨O,d,w⟩:=R.slot (join_some M);rw[o]at d;cases d;obtain⟨g,y⟩:=w.uh t l B;obtain⟨n,J,I⟩:=N R e2;refine s2 σ H _ _ J ?_;obtain⟨S,P,T⟩:=r;simp only at *;rcases I with ⟨xs,rfl,m⟩|⟨xs,rfl,m⟩
  ·cases y with
   |@lst a vs _ _ _ _ f1 f2 f3 f4=>exact .inl ⟨a,vs,n,g,rfl,rfl,SqL.of f1,vw f2 m f3,q v g o (l.snoc (.lst f1 f2 f3 f4))⟩
  ·cases y with
   |@tup a vs _ _ _ _ f1 f2 f3 f4=>exact .inr (.inl ⟨a,vs,n,g,rfl,rfl,SqT.of f1,vw f2 m f3,q v g o (l.snoc (.tup f1 f2 f3 f4))⟩)⟩
def Iy(hs:PlainIx e2)(h:PDp X e i ps)(f:PX X e2 (λ_=>some (.int k))):PDp X (.Subscript e e2 pos) i (.ix k::ps):=
 F5 hs (λ{b F l H m o q x n} R c=>by
  obtain⟨d,g,c⟩:=bnd c;exact⟨k,rfl,(CN g).imp (λe=>⟨d,e,c⟩) λe=>⟨d,e,c⟩⟩) h f
def Rel.keyS{k:Key}(R:Rel b F σ H ρ τ θ)(e:ρ[j]?.join=some (.fz d))(hk:keyOf d=some k):σ[j]?.join=some (kV k):=by obtain⟨v,f,w⟩:=R.slot (join_some e);have c:=w.dt rfl;rw[f];cases d<;>cases hk<;>cases c<;>rfl
theorem pY{k:Key}:∀{ws:List (Key×V)}{n:Nat}{w:V},(ws.map (·.1)).findIdx? (λq=>decide (q=k))=some n->(ws[n]?).map (·.2)=some w->valV ws k=some w
 |[],_,_,e,_=>by simp at e
 | (g,q)::ws,n,w,e,h=>by
  rw[aam,aaY]at e;by_cases b:g=k
  ·subst b;simp at e;subst e;simp at h;subst h;exact dD rfl
  ·simp[b]at e;obtain⟨d,f,e2⟩:=e;subst e2;have c:(ws.map (·.1)).findIdx? (λq=>decide (q=k))=some d:=by rw[List.findIdx?_map];exact f
   have:=pY c (by simpa using h);simp only[valV]at this ⊢;rw[aba];simp only[b,decide_false];exact this
theorem F6(I:X.A.units+1<cLine)(hs:NoSl e2):PDp X e i ps->PX X e2 (λσ=>σ[j]?.join)->PDp X (.Subscript e e2 pos) i (.key j::ps)
 |⟨te,h,s⟩,⟨_,g,s2⟩=>⟨_,yi I h g hs,λb F σ H ρ τ θ Q p J R c q=>by
  obtain⟨r,k,z,B,e2,D,c⟩:=bn3 c;cases c;refine s b F σ H ρ τ θ _ r J R B λv u t m=>?_;obtain⟨P,g⟩:=path_at B;obtain⟨S,f,w⟩:=R.slot (join_some P);rw[t]at f;cases f;obtain⟨o,M⟩:=w.uh g m D;obtain⟨W,T,Y⟩:=r;simp only at *;obtain⟨y,d,U,L,l,N,n,O,e2⟩:=bn4 e2;rw[dN N]at l;refine s2 σ H _ _ (R.keyS l O) ?_;cases M with
  |@dic a ws _ _ _ _ _ f1 f2 f5 f3 f4=>cases n;refine⟨a,o,rfl,?_,q v o t (m.snoc (.dic f1 f2 f5 f3 f4))⟩;have:=DGet.k (k:=L) f1;rw[pY (by rw[f2];exact e2) f3]at this;exact this
  |_=>cases n⟩
end
section
variable{b:Bs}{F:List Fr}{σ:St}{H H':Hp}{ρ:DEnv}{τ us:List V}{θ:List OR}{v u:V}{i:Nat}{ps:List Acc}{p:OD×List Nat×OD}{d:PyData}
theorem Rel.partX(R:Rel b F σ H ρ τ θ)(e:ρ[i]?.join=some x)(g:x.at ks=some z)(ev:σ[i]?=some (some v))(ch:Chn b H v x ks u z)(h:z.dat=some d):Rel b F σ H (ρ.set i (some (OD.put (.fz d) ks x))) (u::τ) (.val (.fz d)::θ):=by obtain⟨k,a,w⟩:=R.slot (join_some e);rw[ev]at a;cases a;obtain⟨l,c,f⟩:=w.wk g h;obtain⟨j,_⟩:=Chn.det ch c;subst j;exact Rel.back R.wf R.al R.wff ev (f.perm (List.Perm.swap _ _ _))
def Rel.part(R:Rel b F σ H ρ τ θ)(e:aj ρ i ps=some p)(ev:σ[i]?=some (some v))(ch:Chn b H v p.1 p.2.1 u p.2.2)(a:p.2.2.dat=some d):Rel b F σ H (ρ.set i (some (OD.put (.fz d) p.2.1 p.1))) (u::τ) (.val (.fz d)::θ):=R.partX (path_at e).1 (path_at e).2 ev ch a
theorem Rel.partF(R:Rel b F σ H ρ τ θ)(e:aj ρ i ps=some p)(ev:σ[i]?=some (some v))(ch:Chn b H v p.1 p.2.1 u p.2.2)(a:p.2.2=.fz d):Rel b F σ H ρ (u::τ) (.val (.fz d)::θ):=by obtain⟨c,f⟩:=path_at e;have:=R.part e ev ch (by rw[a];rfl);rw[<-a,OD.ri f,set_self (join_some c)]at this;rw[a]at this;exact this
theorem Rel.so(R:Rel b F σ H ρ τ θ)(e:aj ρ i ps=some p)(ev:σ[i]?=some (some v))(ch:Chn b H v p.1 p.2.1 u p.2.2)(a:p.2.2.dat=some d):Dt b.K H u d:=(R.part e ev ch a).dt rfl
end
end
section
section
variable{X:Cx}{C:Ct}{a e e2:Expr}{es:List Expr}{ma mb:E}{mes:Es}{pos p p1 p2:Pos}{x:Str}{i j:Nat}{ps:List Acc}{k:Int}
theorem Iz:PDp X e i ps->PDe X e (aB C (.pg i ps))
 |⟨te,h,s⟩=>⟨te,h,λb F σ H ρ τ θ n Q g R ⟨y,h,q⟩ k=>by
  obtain⟨r,c,h⟩:=bnd h;refine s b F σ H ρ τ θ _ r g R c λv u l f=>?_;obtain⟨d,m,h⟩:=bnd h;cases h;exact k u H _ _ (R.partF c l f (dN m)) q⟩
theorem IA:PDp X e i ps->PDe X e (aB C (.pf i ps))
 |⟨te,h,s⟩=>⟨te,h,λb F σ H ρ τ θ m Q g R ⟨y,h,q⟩ k=>by
  obtain⟨r,d,c,e2,h⟩:=bn2 h;cases h;exact s b F σ H ρ τ θ _ r g R c λv u l f=>k u H _ _ (R.part c l f e2) q⟩
theorem IB(A:Gl X "len") (m:X.mg "len"=none) (c:isStar e=false):PDp X e i ps->PDe X (.Call (.Name "len" p) [e] [] pos) (aB C (.pl i ps))
 |⟨te,h,s⟩=>⟨_,cb lQ A m nY (aK h bh (av c)) (by decide) (by decide) (av c) (bN rfl),λb F σ H ρ τ θ I Q f R ⟨y,h,q⟩ k=>by
  obtain⟨r,d,n,g,e2,l,h⟩:=bn3 h;cases h;refine s b F σ H ρ τ θ _ r f R g λv u B o=>?_;refine sc_len H [u] [d] (λd=>d=.int n) _ (.cons (f▸R.so g B o e2) .nil) ⟨d,n,rfl,l,rfl⟩ λw D t z=>?_;subst z;exact k w H _ _ (R.sc t) q⟩
theorem IC(m:plainT e=true):PDp X e i ps->PDt X e (g9 C (.pt i ps))
 |⟨te,h,s⟩=>⟨_,lP h (plainT_ok m),λb F σ H ρ τ θ o Q c R ⟨y,h,q⟩ k=>by
  obtain⟨r,d,t,f,e2,g,h⟩:=bn3 h;cases h;refine s b F σ H ρ τ θ _ r c R f λv u n l=>?_;exact⟨t,pV (c▸R.so f n l e2) g,k _ _ _ R q⟩⟩
theorem kO(g:aY C m=(vt (ev C m)).2)(l:∀ρ x,ev C m ρ=some x->∃k,x.1=.val (.fz (.bool k))):∀ρ Q,g9 C m ρ Q->l4 (aB C m) ρ Q:=λρ Q ⟨y,h,q⟩=>by
 have b:((ev C m ρ).bind λx=>(ar x.2 x.1).bind λd=>(mw d).bind λk=>some (k,x.2))=some y:=by rw[<-h,g];rfl
 obtain⟨z,f,b⟩:=bnd b;obtain⟨k,c⟩:=l ρ z f;rw[c]at b;cases b;exact⟨z,f,k,by rw[c];rfl,q⟩
def SndT.imp{K:Waa}(s:SndT K te d)(f:∀ρ Q,d' ρ Q->d ρ Q):SndT K te d':=λb F c H ρ h l n Q m R g q=>s b F c H ρ h l n Q m R (f _ _ g) q
theorem vA{c:Bool}(U:X.A.units+64<cLine)(D:behindInMarks (coOf (if c then .nin else .inn)) e=false):PDe X a (aB C ma)->PDp X e i ps->PDe X (.Compare a [coOf (if c then .nin else .inn)] [e] pos) (aB C (.pin c ma i ps))/\PDt X (.Compare a [coOf (if c then .nin else .inn)] [e] pos) (g9 C (.pin c ma i ps))
 |⟨ta,m,s1⟩,⟨te,h,s⟩=>by
  obtain⟨P,N,hr⟩:=iJ U (if c then .nin else .inn);have S:bA X.K (Bw P ta te) (aB C (.pin c ma i ps)):=by refine λb F M H I τ T Qd Q l R ⟨y,h,q⟩ k=>?_;obtain⟨z,L,r,d,t,o,O,e2,B,J,h⟩:=bn5 h;cases h;refine s1 b F M H I τ T (λr f=>r=z.1/\f=z.2) _ l R ⟨z,o,rfl,rfl⟩ λv n r' f g Z=>?_;obtain⟨m,h2⟩:=Z;subst m h2;refine s b F M n _ _ _ _ r l g e2 λv' u ev W=>?_;refine hr n v u L d (λd=>d=.bool t) _ (l▸g.dt O) (l▸g.so e2 ev W B) ⟨t,J,rfl⟩ λw d' Y hd=>?_;subst hd;exact k w n _ _ (g.drop.sc Y) q
  refine⟨⟨_,ph N m h D,S⟩,⟨_,pj N m h D,(ir S).imp (kO rfl λI x h=>?_)⟩⟩;obtain⟨z,L,r,d,t,o,O,e2,B,J,h⟩:=bn5 h;cases h;exact⟨t,rfl⟩
theorem pZ{k:Key}:∀{ws:List (Key×V)},(valV ws k).isSome=(ws.map (·.1)).any λq=>decide (q=k)
 |[]=>rfl
 | (g,q)::ws=>by
  have b:=pZ (k:=k) (ws:=ws);by_cases c:g=k
  ·subst c;rw[dD rfl];simp
  ·simp only[valV]at b ⊢;rw[aba];simp only[c,decide_false,aam,aaV,acl];exact b
def C5(b:Bool)(c d:TE):TE:=if b then pF c d else ES c d
theorem vB(t:X.A.units+1<cLine)(n:behindInMarks (coOf (if neg then .nin else .inn)) e=false):PDe X a (aB C ma)->PDp X e i ps->PDe X (.Compare a [coOf (if neg then .nin else .inn)] [e] pos) (aB C (.din neg ma i ps))/\PDt X (.Compare a [coOf (if neg then .nin else .inn)] [e] pos) (g9 C (.din neg ma i ps))
 |⟨ta,d,s1⟩,⟨te,h,s⟩=>by
  have hp:PE X (.Compare a [coOf (if neg then .nin else .inn)] [e] pos) (C5 neg ta te):=by
   cases neg with
   |true=>exact tw (jM t d h) n
   |false=>exact tw (ur t d h) n
  have N:PT X (.Compare a [coOf (if neg then .nin else .inn)] [e] pos) (tB (C5 neg ta te)):=by
   cases neg with
   |true=>exact tx (jM t d h) n
   |false=>exact tx (ur t d h) n
  have S:bA X.K (C5 neg ta te) (aB C (.din neg ma i ps)):=by
   refine λb F g H T U W Qd Q M R ⟨y,h,q⟩ k=>?_;obtain⟨z,dx,r,kk,uu,I,e1,e2,Z,B,h⟩:=bn5 h;have B:=vh B
   ·cases h;have go:∀v l O c,Rel b F g l c (v::U) (O::W)->(O=z.1/\c=z.2)->te g l λx H2=>∃a o,x=.ref a/\DGet H2 a v o/\Q (.bl (if neg then !o.isSome else o.isSome)) H2:=λv l O c m ⟨d,D⟩=>by
     subst d D;refine s b F g l _ _ _ _ r M m e2 λv' u ev Y=>?_;obtain⟨d,D⟩:=path_at e2;obtain⟨v2,f,w⟩:=m.slot (join_some d);rw[ev]at f;cases f;rw[B]at D Y;obtain⟨ad,ws,L,hH,P,hl,_⟩:=Wd.z4 (us:=[]) (zs:=[]) w rfl D;obtain⟨e5,_⟩:=Chn.det Y L;subst e5;have hv:=m.dt e1;have J:v=kV kk:=by cases dx<;>cases Z<;>cases hv<;>rfl
     subst J;refine⟨ad,_,rfl,DGet.k hH,?_⟩;rw[pZ,P];exact k _ l _ _ (m.drop.sc (.bl _)) q
    cases neg with
    |true=>exact s1 b F g H T U W (λr c=>r=z.1/\c=z.2) _ M R ⟨z,I,rfl,rfl⟩ go
    |false=>exact s1 b F g H T U W (λr c=>r=z.1/\c=z.2) _ M R ⟨z,I,rfl,rfl⟩ go
  refine⟨⟨_,hp,S⟩,⟨_,N,(Cj S).imp (kO rfl λT x h=>?_)⟩⟩;obtain⟨z,dx,r,kk,uu,I,e1,e2,Z,B,h⟩:=bn5 h;cases h;exact⟨_,rfl⟩
end
def ID(K:Waa)(i:TE)(f:DEnv->Option PyData):Prop:=∀(b:Bs) (F:List Fr) (a:St) (H:Hp) (c:DEnv) (g:List V) (h:List OR) (Q:VK) (d:PyData),b.K=K->Rel b F a H c g h->f c=some d->(∀v e,Ext H e->Rel b F a e c (v::g) (.val (.fz d)::h)->Q v e)->i a H Q
inductive PDq (X:Cx)(e:Expr)(f:DEnv->Option PyData):Prop|mk (te:TE) (h:PE X e te) (s:ID X.K te f)
def F7(K:Waa)(k:TA)(f:DEnv->Option (List PyData)):Prop:=∀(b:Bs) (F:List Fr) (a:St) (H:Hp) (c:DEnv) (i:List V) (j:List OR) (Q:List V->Hp->Prop) (g:List PyData),b.K=K->Rel b F a H c i j->f c=some g->(∀h e,Ext H e->h.length=g.length->Rel b F a e c (h++i) (g.map (λd=>OR.val (.fz d))++j)->Q h e)->k a H Q
inductive PDqs (X:Cx)(es:List Expr)(f:DEnv->Option (List PyData)):Prop|mk (te:TA) (h:PA X es te) (s:F7 X.K te f)
section
variable{X:Cx}{C:Ct}{a e e2:Expr}{es:List Expr}{ma mb:E}{mes:Es}{pos p p1 p2:Pos}{x:Str}{i j:Nat}{ps:List Acc}{k:Int}
theorem IE(m:X.N[i]?=some x) (n:Vis X.env.scope x) (l:(x==("__debug__":Str))=false) (f:(x==("__classdict__":Str))=false):PDq X (.Name x pos) (kK C (.nm i)):=
 ⟨_,bP m n l f,λb F u H s t w Q d r R h q=>by
  obtain⟨o,c,h⟩:=bnd h;rw[dN h]at c;obtain⟨v,g⟩:=R.wf.get (join_some c);exact⟨v,g,q v H (.refl H) (R.dupS (join_some c) g)⟩⟩
def F8:PDq X (.Constant (.int k) j pos) (kK C (.int k)):=⟨_,kf,λb F c H f g m Q d l R h q=>by
  cases h;exact q _ H (.refl H) (R.sc (.int k))⟩
theorem IF:PDp X e i ps->PDq X e (kK C (.pg i ps))
 |⟨te,h,s⟩=>⟨te,h,λb F σ H ρ τ θ Q d g R h q=>by
  obtain⟨r,c,h⟩:=bnd h;refine s b F σ H ρ τ θ _ r g R c λv u l f=>?_;exact q u H (.refl H) (R.partF c l f (dN h))⟩
theorem IG(hs:PlainIx e2):PDq X e (kK C ma)->PDq X e2 (kK C mb)->PDq X (.Subscript e e2 pos) (kK C (.ix ma mb))
 |⟨_,h1,s1⟩,⟨_,h2,s2⟩=>⟨_,tU nP h1 h2 hs,λb F σ H ρ τ θ Q d s R h q=>by
  obtain⟨dx,I,U,e2,h⟩:=bn2 h;refine s1 b F σ H ρ τ θ _ dx s R U λv N M S=>s2 b F σ N ρ _ _ _ I s S e2 λu g y r=>?_;have w:=r.il.drop;have D:∀(l:Bool) (c:List PyData) (n:Int),dx=(if l then .list c else .tuple c)->I=.int n->atI c n=some d->Bw (Jf X.K) (λ_ _ Q=>Q v g) (λ_ _ Q=>Q u g) σ H Q:=λl c n P Y W=>by
   subst P Y;have O:=r.dt rfl;cases O;obtain⟨B,L,o,rfl,t,f,T⟩:=Wd.itemF r.drop.wd W;have J:Rel b F σ g ρ (o::τ) (.val (.fz d)::θ):=Rel.push r.drop.drop T;rcases t with z|z
   ·exact .inl ⟨B,L,n,o,rfl,rfl,s▸z,f,q o g (M.trans y) J⟩
   ·exact .inr (.inl ⟨B,L,n,o,rfl,rfl,s▸z,f,q o g (M.trans y) J⟩)
  obtain⟨c,n,m,A,h⟩:=bn2 h;rcases iI m with m|m
  ·exact D true c n m (aU A) h
  ·exact D false c n m (aU A) h⟩
def C6:PDqs X [] (ou C .nil):=⟨_,bh,λb F c H f g m Q d l R h q=>by
 cases h;exact q [] H (.refl H) rfl R⟩
theorem yT(hs:isStar e=false):PDq X e (kK C ma)->PDqs X es (ou C mes)->PDqs X (e::es) (ou C (.cons ma mes))
 |⟨_,h1,s1⟩,⟨_,h2,s2⟩=>⟨_,aK h1 h2 (av hs),λb F σ H ρ τ θ Q d c R h q=>by
  obtain⟨dx,o,t,e2,h⟩:=bn2 h;cases h;refine s1 b F σ H ρ τ θ _ dx c R t λv g s u=>s2 b F σ g ρ _ _ _ o c u e2 λr n l f m=>q (v::r) n (s.trans l) (by simp[f]) ?_;exact Rel.za m (by simp[f])⟩
theorem F9{o}:PDqs X es (ou C mes)->PDq X (.Tuple es o pos) (kK C (.tup mes))
 |⟨_,h1,s1⟩=>⟨_,nN h1,λb F σ H ρ τ θ Q d r R h q=>by
  obtain⟨ds,_,t,g,h⟩:=bn2 h;have g:=gd_ok g
  ·cases h;refine s1 b F σ H ρ τ θ _ ds r R t λv u s c f=>⟨aax (by omega:_<=1000000) (by decide),λp l=>q _ _ (s.trans (.upd l)) ?_⟩
   have e2:ds.map (λd=>OR.val (.fz d))=(ds.map OD.fz).map OR.val:=by simp
   rw[e2]at f;have w:=f.vals (by simpa using c);have m:=l5 w (by simpa using c) l;have n:mkTup (ds.map OD.fz)=.fz (.tuple ds):=by simp only[mkTup,fzL_of]
   rw[n]at m;exact Rel.push (f.drops (by simpa using c)) m⟩
end
section
variable{X:Cx}
def Inv.drw{d:Drawn}(I:Inv X pins σ H s):Inv X pins σ H { s with drawn:=d }:=
 ⟨I.ok,I.os,I.bare,I.base,I.loc,I.cell,I.free,I.freeC,I.pin,I.hok,I.len⟩
abbrev stH(X:Cx)(a:Addr)(ns:List Int):HO:=.ext λh=>Np.SetI X.prog X.w h a (Np.byT X.w) ns
theorem jS(m:X.calm=true):bW X (.type "set") (λxs H Q=>∃(p:Addr) (ns:List Int),xs=[.ref p]/\(SqL X.K H p (ns.map V.int)\/SqT X.K H p (ns.map V.int))/\ns.length<1000/\∀a,H a=none->Q (.ref a) (upd H a (stH X a (ns.foldl Np.ddI [])))):=by
 intro c s A H xs C Q I r h;obtain⟨p,ns,rfl,d,D,q⟩:=h;obtain⟨u,rfl,y⟩:=vals1 r;cases y;have f:∀(i:Heap) (t:Nat),Np.SetI X.prog X.w i s.heap.objs.size (Np.byT X.w) (ns.foldl Np.ddI [])->(∀b o,b<s.heap.objs.size->s.heap.get? b=some o->i.get? b=some o)->EP X c A Q (.ref s.heap.objs.size) { s with heap:=i,toks:=t }:=λi t v B=>
  ⟨.ref _,_,I.laid (o:=stH X _ _) (λb u n=>B b u (ac5 n) n) (aae _) ⟨v,let ⟨_,_,_,e,_⟩:=v;⟨_,e⟩,λJ F x k=>x.at k⟩,rfl,q _ (I.hok.fresh (aae _))⟩
 rcases d with d|d
 ·obtain⟨g,j,l,z⟩:=I.list d;exact PySem.set_seq (ns:=ns) (I.ok.hd m) (.inl l.isList) (cO j) (by unfold scanBound;omega) f
 ·obtain⟨g,j,l,z⟩:=I.tuple d;exact PySem.set_seq (ns:=ns) (I.ok.hd m) (.inr (show s.heap.IsTuple _ g.toArray from l)) (cO j) (by unfold scanBound;omega) f
theorem sI:bW X (.builtin "len") (λxs H Q=>∃(p:Addr) (ns:List Int),xs=[.ref p]/\H p=some (stH X p ns)/\Q (.int ns.length) H):=by
 intro b s n H xs l Q I r h;obtain⟨p,ns,rfl,i,q⟩:=h;obtain⟨u,rfl,c⟩:=vals1 r;cases c;obtain⟨g,m,t,k,e,a,d,j,o⟩:=(I.hok p _ i).1;have f:g.size=ns.length:=by rw[<-a.length_eq,aaa,aaL]
 rw[<-f]at q;exact call_len_set k ⟨rfl,rfl,rfl⟩ rfl j (by unfold scanBound at d;omega) ⟨.int _,H,I.tok _,⟨_,rfl⟩,q⟩
def yU(X:Cx):List V->Hp->VK->Prop:=λd H Q=>∃(p:Addr) (c:List Int),d=[.ref p]/\(SqL X.K H p (c.map V.int)\/SqT X.K H p (c.map V.int)\/H p=some (stH X p c))/\c.length<64/\∀(b:List Int) (a:Addr),b.Perm c->b.Pairwise (·<=·)->H a=none->Q (.ref a) (upd H a (.lst (b.map V.int)))
theorem gJ(N:X.calm=true):bW X (.builtin "sorted") (yU X):=by
 intro v s W H xs us Q I r h;obtain⟨p,x,rfl,i,hl,q⟩:=h;obtain⟨u,rfl,O⟩:=vals1 r;cases O;have sl:64<=sizeLine:=by decide
 refine Calls.call_function_entry kind_sorted plain_sorted entry_sorted (args_sorted1 _) ?_;unfold Builtin.«sorted»;refine ac3 (m:=checkCount "sorted" 1 1 _) (ac4 (ac3 (ac9 (Q:=λn l=>∃(y:List Int),Inv X v W H l/\IntsAre n y/\y.Perm x) ?_ (λn l S=>?_) λ_ _ z=>z)))
 ·rcases i with i|i|i
  ·obtain⟨k,w,C,M⟩:=I.list i;refine collect_list C.isList ⟨x,I.kept (t':=s.toks) λb o e=>?_,cO w,.refl _⟩ (by rw[<-w.length];exact M);rw[Heap.get?_update_ne _ _ _ _ (aar (ac5 e))];exact ac6 _ e
  ·obtain⟨k,w,C,M⟩:=I.tuple i;have J:k.length=x.length:=by have:=w.length;rw[aaa]at this;exact this.symm
   exact mj (show s.heap.IsTuple _ k.toArray from C) (by omega) λU f=>⟨x,I.kept (t':=s.toks) f,cO w,.refl _⟩
  ·exact Np.set_collect (A:=X.A.in1) (I.ok.hd N) (I.hok p _ i).1 λU tk d n y f B c=>⟨y,(I.kept f).drw,B,c⟩
 ·obtain⟨y,F,B,c⟩:=S;have Z:n.length=x.length:=by rw[IntsAre.length B,c.length_eq]
  refine ac3 (wpAny_newList ?_ (by rw[Z];omega));have g:(l.heap.push (seqObj "list" n.toArray 0)).get? l.heap.objs.size=some (seqObj "list" n.toArray 0):=ac7 _ rfl;refine ac3 (adb (adl slot_list_sort ⟨_,g,rfl⟩ entry_list_sort (list_sort_tree g B (by omega) λout t Y L T=>⟨_,rfl,ac4 ⟨_,rfl,?_⟩⟩) (args_list_sort _)));obtain⟨e,P⟩:=sortedHeap_at (out:=out) g;refine⟨.ref _,_,F.laid (t':=l.toks) (a:=l.heap.objs.size) (o:=.lst (t.map V.int)) (λb u D=>?_) (aae _) ⟨?_,out.toList,e,vals_ints Y,P⟩,rfl,q t _ (L.trans c) T (F.hok.fresh (aae _))⟩
  ·have j:=ac5 D;rw[sortedHeap_old (aar j) (by rw[size_push'];exact aa9 j),Heap.get?_push_ne _ _ _ (aar j)];exact D
  ·rw[aaa,(L.trans c).length_eq];omega
end
section
variable{X:Cx}{C:Ct}{a:Expr}{ma:E}{p p1 p2 pos:Pos}
theorem kQ{ns:List Int}(h:b.K=X.K)(R:Rel b F σ H ρ (v::τ) (r::θ))(g:ar ρ r=some d)(i:nF d=some (ns.map PyData.int)):∃p,v=.ref p/\(SqL X.K H p (ns.map V.int)\/SqT X.K H p (ns.map V.int)):=by
 have f:=R.dt g;rw[h]at f;rcases iI i with rfl|rfl
 ·cases f with|lst c e=>rw[DtAll.ints' e]at c;exact⟨_,rfl,.inl c⟩
 ·cases f with|tup c e=>rw[DtAll.ints' e]at c;exact⟨_,rfl,.inr c⟩
theorem mD{b:Bs}{F:List Fr}{σ:St}{H:Hp}{ρ:DEnv}{τ:List V}{θ:List OR}{ns c:List Int}{a:Addr}{P:Prop}(R:Rel b F σ H ρ τ θ)(p1:c.Perm ns)(p2:c.Pairwise (·<=·))(d:H a=none)(k:Rel b F σ (upd H a (.lst (c.map V.int))) ρ (.ref a::τ) (.val (.lst ((sortI ns).map λi=>.fz (.int i)))::θ)->P):P:=by have:c=sortI ns:=iK (p1.trans (sortI_perm _).symm) p2 (cP _);subst this;refine k (R.push ?_);have w:=R.wd.adds (vs:=(sortI ns).map V.int) (ds:=(sortI ns).map PyData.int) λS _=>FzA.ints _;have:=Wd.eu w (by simp) d;rw[abd]at this;exact this
theorem vC(n:X.calm=true) (D:Gl X "sorted") (m:X.mg "sorted"=none) (i:isStar a=false) (f:PDe X a (aB C ma)):PDe X (.Call (.Name "sorted" p) [a] [] pos) (aB C (.bnw .sorted ma)):=by obtain⟨U,h,s⟩:=f;refine⟨_,cb (gJ n) D m jR (aK h bh (av i)) (by decide) (by decide) (av i) rfl,λb F M H x B P Y Q j R ⟨y,h,q⟩ k=>?_⟩;obtain⟨e,d,T,O,_,S,z,J,l,u,h⟩:=bn5 h;cases h;refine s b F M H x B P (λr c=>r=e.1/\c=e.2) _ j R ⟨e,S,rfl,rfl⟩ λv W r c g t=>?_;obtain⟨f,I⟩:=t;subst f I;have A:=eE l;subst A;obtain⟨N,rfl,w⟩:=kQ j g z J;exact⟨N,O,rfl,w.imp id .inl,gd_ok u,λo a p1 p2 L=>mD g.drop p1 p2 L (k _ _ _ _ · q)⟩
theorem C7(A:X.calm=true) (O:Gl X "len") (z:X.mg "len"=none) (g:Gl X "set") (l:X.mg "set"=none) (w:isStar a=false) (j:PDe X a (aB C ma)):PDe X (.Call (.Name "len" p) [.Call (.Name "set" p1) [a] [] p2] [] pos) (aB C (.lset ma)):=by
 obtain⟨te,h,s⟩:=j;refine⟨_,cb sI O z nY (aK (cK (jS A) g l vq (aK h bh (av w)) (by decide) (by decide) (av w) rfl) bh (av rfl)) (by decide) (by decide) (av rfl) rfl,λb F o H L n u Qd Q m R ⟨y,h,q⟩ k=>?_⟩;obtain⟨f,d,Z,t,_,Y,M,S,x,I,h⟩:=bn5 h;cases h;refine s b F o H L n u (λr e=>r=f.1/\e=f.2) _ m R ⟨f,Y,rfl,rfl⟩ λv W r e c D=>?_;obtain⟨j,P⟩:=D;subst j P;have N:=eE x;subst N;obtain⟨U,rfl,J⟩:=kQ m c M S;refine⟨U,t,rfl,J,gd_ok I,λi T=>?_⟩;have B:Rel b F o (upd W i (stH X i (t.foldl Np.ddI []))) f.2 n u:=⟨c.drop.wf,c.drop.al,c.drop.wff,c.drop.wd.new T⟩
 exact⟨i,_,rfl,ao,k _ _ _ _ (B.sc (.int _)) q⟩
theorem Ga(o:X.calm=true) (T:Gl X "sorted") (D:X.mg "sorted"=none) (g:Gl X "set") (n:X.mg "set"=none) (A:isStar a=false) (m:PDe X a (aB C ma)):PDe X (.Call (.Name "sorted" p) [.Call (.Name "set" p1) [a] [] p2] [] pos) (aB C (.sst ma)):=by
 obtain⟨te,h,s⟩:=m;refine⟨_,cb (gJ o) T D jR (aK (cK (jS o) g n vq (aK h bh (av A)) (by decide) (by decide) (av A) rfl) bh (av rfl)) (by decide) (by decide) (av rfl) rfl,λb F w H O u z Qd Q t R ⟨y,h,q⟩ k=>?_⟩;obtain⟨f,d,ds,x,_,e1,P,W,B,M,h⟩:=bn5 h;obtain⟨_,i,h⟩:=bnd h;cases h;refine s b F w H O u z (λr e=>r=f.1/\e=f.2) _ t R ⟨f,e1,rfl,rfl⟩ λv H' r e c L=>?_;obtain⟨m,U⟩:=L;subst m U;have S:=eE B;subst S;obtain⟨Z,rfl,N⟩:=kQ t c P W;refine⟨Z,x,rfl,N,gd_ok M,λj Y=>?_⟩;have J:Rel b F w (upd H' j (stH X j (x.foldl Np.ddI []))) f.2 u z:=⟨c.drop.wf,c.drop.al,c.drop.wff,c.drop.wd.new Y⟩
 exact⟨j,_,rfl,.inr (.inr ao),gd_ok i,λI a p1 p2 l=>mD J p1 p2 l (k _ _ _ _ · q)⟩
end
end
section
section
variable{b:Bs}{S:Addr->Prop}{H:Hp}{vs us:List V}{xs zs:List OD}{A B C:List Addr}{v:V}{z:OD}
def Ows.addA(nt:∀c xs,H c=some (.tup xs)->¬ S c)(a:Ows b S H vs xs A)(f:Ows b S H us zs C)(e:(A++C).Nodup):∃D,Ows b S H (vs++us) (xs++zs) D/\D.Nodup/\∀c∈D,c∈A\/c∈C:=⟨A++C,Ows.append a f,e,λc d=>aaj.mp d⟩
def Ows.one(h:Ows b S H [v] [z] C):Ow b S H v z C:=by
 cases h with
 |cons r t=>cases t;rw[aaq];exact r
theorem Ows.setA(g:j<xs.length)(f:Ows b S H vs xs A)(i:Ows b S H [v] [z] C)(k:(A++C).Nodup):∃D,Ows b S H (vs.set j v) (xs.set j z) D/\D.Nodup/\∀c∈D,c∈A\/c∈C:=by
 obtain⟨q,d,B,e,n,rfl,m,l⟩:=f.zip (aan g);refine⟨d++(C++e),l i.one λ_ h=>h,?_,λc a=>?_⟩
 ·have p:((d++(B++e))++C).Perm (B++(d++(C++e))):=by refine((bK d B e).append_right C).trans ?_;rw[aac];refine abl B ?_;rw[aac];exact abl d abb
  exact(aaB.mp (p.nodup_iff.mp k)).2.1
 ·simp only[aaj]at a ⊢;rcases a with a|a|a
  ·exact .inl (.inl a)
  ·exact .inr a
  ·exact .inl (.inr (.inr a))
theorem kR:∀{fs:List (Str×V)}{xs:List OD},fs.length=xs.length->(b9 f v fs).map (·.1)=(br f z (fs.map (·.1)) xs).1
 |[],[],_=>rfl
 | (g,q)::fs,x::xs,e=>by
  simp only[b9,br,aam];by_cases a:g=f
  ·rw[if_pos a,if_pos a];rfl
  ·rw[if_neg a,if_neg a,aam,kR (fs:=fs) (by simpa using e)]
 |[],_::_,e=>by simp at e
 |_::_,[],e=>by simp at e
theorem iO:∀{fs:List (Str×V)}{xs:List OD}{A:List Addr},Ows b S H (fs.map (·.2)) xs A->Ow b S H v z C->(A++C).Nodup->∃D,Ows b S H ((b9 f v fs).map (·.2)) (br f z (fs.map (·.1)) xs).2 D/\D.Nodup/\∀c∈D,c∈A\/c∈C
 |[],_,_,.nil,h2,nd=>⟨C++[],.cons h2 .nil,by simpa using nd,λc a=>.inr (by simpa using a)⟩
 | (g,q)::fs,x::xs,_,.cons (A:=A1) (B:=A2) r t,h2,nd=>by
  simp only[b9,br,aam];by_cases d:g=f
  ·rw[if_pos d,if_pos d];refine⟨C++A2,.cons h2 t,?_,λc a=>?_⟩
   ·rw[aac]at nd;exact(abb.nodup_iff.mp (aaB.mp nd).2.1)
   ·rcases aaj.mp a with h|h
    ·exact .inr h
    ·exact .inl (aag _ h)
  ·rw[if_neg d,if_neg d];rw[aac]at nd;obtain⟨p,n,o⟩:=aaB.mp nd;obtain⟨D,l,m,j⟩:=iO t h2 n;refine⟨A1++D,.cons r l,aaB.mpr ⟨p,m,λc a k i e=>o c a k (aaj.mpr (j k i)) e⟩,λc a=>?_⟩;rcases aaj.mp a with h|h
   ·exact .inl (aaf _ h)
   ·exact(j c h).imp (aag _) id
theorem qa(e:ws.length=xs.length):(putK ws k v).map (·.1)=(bt k d (ws.map (·.1)) xs).1:=by
 unfold putK bt;rw[acw];have f:((λq=>decide (q=k)) ∘ λx:Key×V=>x.1)=λc=>decide (c.1=k):=rfl;rw[f];by_cases a:(ws.any λc=>decide (c.1=k))=true
 ·rw[if_pos a,if_pos a,abd];refine acX λq _=>?_;simp only[Function.comp];split<;>rfl
 ·rw[if_neg a,if_neg a,aaw];rfl
theorem mE(e:Fz b.K S H v d):∀{ws:List (Key×V)}{xs:List OD}{A:List Addr},Ows b S H (ws.map (·.2)) xs A->∃D,Ows b S H ((ws.map (λc=>if c.1=k then (c.1,v) else c)).map (·.2)) (List.zipWith (λq x=>if q=k then .fz d else x) (ws.map (·.1)) xs) D/\D.Sublist A
 |[],_,_,.nil=>⟨[],.nil,List.Sublist.refl _⟩
 | (g,q)::ws,x::xs,_,.cons (A:=A1) r t=>by
  obtain⟨D,f,h⟩:=mE e t;simp only[aam,List.zipWith_cons_cons];by_cases a:g=k
  ·rw[if_pos a,if_pos a];exact⟨[]++D,.cons (.fz e) f,(aaX D).symm▸h.trans (List.sublist_append_right _ _)⟩
  ·rw[if_neg a,if_neg a];exact⟨A1++D,.cons r f,(List.Sublist.refl A1).append h⟩
theorem mF(h:Ows b S H (ws.map (·.2)) xs A)(o:Ows b S H [v] [.fz d] C)(n:(A++C).Nodup):∃D,Ows b S H ((putK ws k v).map (·.2)) (bt k d (ws.map (·.1)) xs).2 D/\D.Nodup/\∀c∈D,c∈A\/c∈C:=by
 have j:Fz b.K S H v d:=by cases o with|cons r t=>cases r with|fz f=>exact f
 have i:=(aaB.mp n).1;unfold putK bt;rw[acw];have p:((λq=>decide (q=k)) ∘ λx:Key×V=>x.1)=λg=>decide (g.1=k):=rfl;rw[p];by_cases a:(ws.any λg=>decide (g.1=k))=true
 ·rw[if_pos a,if_pos a];obtain⟨D,m,l⟩:=mE j h;exact⟨D,m,l.nodup i,λc e=>.inl (l.subset e)⟩
 ·rw[if_neg a,if_neg a,aaw];exact⟨A++[],Ows.append h (.cons (.fz j) .nil),by simpa using i,λc e=>.inl (by simpa using e)⟩
end
section
variable{X:Cx}{W:Nat->Prop}{m:Nat}{C:Ct}{a b c e e2 kx:Expr}{es:List Expr}{sts s1 s2:List Stmt}{st:Stmt}{ma mb mc mk':E}{mes:Es}{ms:S'}{mss ma' mb':Ss}{pos p p1 p2 p3 pos' apos cpos:Pos}{x:Str}{i j:Nat}{ps:List Acc}
def C8{o i:Expr}(h:bI i=false):∀v,assign (.Subscript o i pos) env v=(do
   let ov <-holding [v] (eval o env)
   let iv <-holding [v,ov] (eval i env)
   standAt pos
   holding [v,ov,iv] (setItem ov iv v)
   release [v,ov,iv] []):=by
 cases i<;>first|(intro _;rfl)|cases h
theorem yV{env:Env}(h:isStar e=false):((backTo cpos (starEach [e] env)).all (λx=>!x.1)&&(backToKw cpos (keywordEach [] env)).all (λx=>x.1.isSome)
   && decide ([e].length+([]:List Keyword).length+(if ([]:List Keyword).isEmpty then 0 else 1)<30))=true:=by
 cases e<;>first|rfl|cases h
theorem Rel.cell{b:Bs}{τ:List V}{x:OD}(R:Rel b F σ H ρ τ θ)(o:ρ[i]?.join=some x)(g2:x.at ks=some (.lst xs))(ev:σ[i]?=some (some v))(ch:Chn b H v x ks u (.lst xs)):∃l vs,u=.ref l/\H l=some (.lst vs):=by obtain⟨q,d,k⟩:=R.slot (join_some o);rw[ev]at d;cases d;obtain⟨n,f,h,g,_,_⟩:=Wd.zm (us:=[]) (zs:=[]) k rfl g2;exact⟨n,f,(Chn.det ch h).1,g⟩
def Rel.cell0{b:Bs}{F:List Fr}(R:Rel b F σ H ρ τ θ)(d:ρ[i]?.join=some (.lst xs)):∃v,σ[i]?=some (some v)/\∃l vs,v=.ref l/\H l=some (.lst vs):=by obtain⟨v,f⟩:=R.wf.get (join_some d);exact⟨v,f,R.cell d rfl f .nil⟩
theorem Rel.vu{b:Bs}{x o:OD}{v f:V}(R:Rel b F σ H ρ (f::τ) (.val o::θ))(s:ρ[i]?.join=some x)(g2:x.at ks=some (.lst xs))(ev:σ[i]?=some (some v))(ch:Chn b H v x ks (.ref l) (.lst xs))(B:xs.length<1000000):
  ∃vs,H l=some (.lst vs)/\vs.length<sizeLine/\Rel b F σ (upd H l (.lst (vs++[f]))) (ρ.set i (some (OD.put (.lst (xs++[o])) ks x))) τ θ:=by
 obtain⟨y,d,w⟩:=Rel.open (us:=[f]) (zs:=[o]) R rfl s;rw[ev]at d;cases d;obtain⟨D,vs,g,r,z,q⟩:=w.zm rfl g2;obtain⟨k,_⟩:=Chn.det ch g;cases k;exact⟨vs,r,aay (by omega) (by decide:1000001<=sizeLine),Rel.close (Rel.rest (us:=[f]) (zs:=[o]) R rfl) ev (q (vs++[f]) (xs++[o]) λS H A C n u t h=>Ows.addA n u t h)⟩
theorem Gb(Z:X.N[i]?=some x) (hv:Vis X.env.scope x) (P:(x==("__debug__":Str))=false) (k:(x==("__classdict__":Str))=false) (d:(apos.endLine==cpos.line)=true) (hs:isStar e=false):
  PDe X e (aB C ma)->PDs X W (.Expr (.Call (.Attribute (.Name x pos') "append" apos) [e] [] cpos) pos) (gI C (.app i ma))
 |⟨_,h,s⟩=>⟨_,g7 (pk ab0 acx acy eh (bP Z hv P k) (aK h bh (av hs)) rfl (yV hs) d (av hs) (bN rfl)) rfl,λb F σ H ρ τ θ Dd D B n R ⟨y,h,q⟩ E=>by
  obtain⟨x0,M,z,o,x1,t,f0,e1,e2,A,h⟩:=bn5 h;obtain⟨xs,_,O,U,h⟩:=bn2 h;cases h;rw[gg f0]at t;rw[gg O]at A;obtain⟨v,w,u,g,rfl,l⟩:=R.cell0 t;refine⟨.ref u,w,.inl ⟨rfl,g,SqL.of l⟩,?_⟩;refine s b F σ H ρ τ θ (λr f=>r=z.1/\f=z.2) _ B R ⟨z,e1,rfl,rfl⟩ λT H1 r J R1 I=>?_;obtain⟨h1,Y⟩:=I;subst h1 Y;obtain⟨vs,S,L,Q⟩:=Rel.vu (R1.own1 e2) A rfl w .nil (gd_ok U);exact⟨u,vs,T,rfl,rfl,S,L,E.nx σ _ _ Q q⟩⟩
theorem Gc(B:attributeBase e "append" X.env (eval e X.env)=eval e X.env) (f:(apos.endLine==cpos.line)=true) (hs:isStar a=false):
  PDp X e i ps->PDq X a (kK C ma)->PDs X W (.Expr (.Call (.Attribute e "append" apos) [a] [] cpos) pos) (gI C (.apd i ps ma))
 |⟨_,h0,s0⟩,⟨_,h,s⟩=>⟨_,g7 (pk ab0 acx acy eh h0 (aK h bh (av hs)) B (yV hs) f (av hs) (bN rfl)) rfl,λb F σ H ρ τ θ Y D t n R ⟨y,h,q⟩ E=>by
  obtain⟨r,d,Z,_,A,e2,P,O,h⟩:=bn4 h;cases h;obtain⟨w,l⟩:=path_at A;refine s0 b F σ H ρ τ θ _ r t R A λv u z k=>?_;rw[gg P]at l k;obtain⟨J,g,rfl,o⟩:=R.cell w l z k;refine⟨.inl ⟨rfl,g,SqL.of o⟩,s b F σ H ρ τ θ _ d t R e2 λN U S T=>?_⟩;obtain⟨Q,L,I,M⟩:=Rel.vu T w l z (k.ext S) (gd_ok O);exact⟨J,Q,N,rfl,rfl,L,I,E.nx σ _ _ M q⟩⟩
theorem Rel.moved{b:Bs}(R:Rel b F σ H ρ τ θ)(e:ρ[j]?.join=some y):∃v,σ[j]?=some (some v)/\Rel b F σ H (ρ.set j none) (v::τ) (.val y::θ):=by
 obtain⟨v,f⟩:=R.wf.get (join_some e);have h:Rel b F σ H ρ (v::τ) (.rf j::θ):=⟨R.wf,⟨f,R.al⟩,R.wff,R.wd⟩
 obtain⟨_,_,w⟩:=R.slot (join_some e);rename_i g d;rw[f]at d;cases d;exact⟨v,f,⟨R.wf.off,R.al,R.wff,w⟩⟩
theorem Gd(hN:X.N[i]?=some x) (hv:Vis X.env.scope x) (hd:(x==("__debug__":Str))=false) (I:(x==("__classdict__":Str))=false) (O:bI kx=false) (hs:swapsWith e (some (.Subscript (.Name x pos') kx p2)) pos.line X.env=pure false) (hw:swappedStores [.Subscript (.Name x pos') kx p2] e X.env=pure none):
  PDe X e (aB C ma)->PDe X kx (aB C mk')->PDs X W (.Assign [.Subscript (.Name x pos') kx p2] e pos) (gI C (.sti i mk' ma))
 |⟨_,g,s1⟩,⟨_,f,s2⟩=>⟨_,tE g (Bm (bP hN hv hd I) f set_list (C8 O)) hs hw rfl,λb F σ H ρ τ θ Dd D Q n R ⟨y,h,q⟩ E=>by
  obtain⟨z,o,e1,e2,h⟩:=bn2 h;refine s1 b F σ H ρ τ θ (λr d=>r=z.1/\d=z.2) _ Q R ⟨z,e1,rfl,rfl⟩ λL H1 r a1 R1 B=>?_;obtain⟨g,f⟩:=B;subst g f;have P:=R1.own1 e2;obtain⟨x0,a2,t,dk,k,e0,f0,e3,T,fk,h⟩:=bn5 h;obtain⟨x1,xs,u,U,f1,Y,h⟩:=bn3 h;rw[aU fk]at T;rw[gg f1]at U
  ·obtain⟨v,M⟩:=P.wf.get (join_some e0);refine⟨v,M,s2 b F σ H1 _ _ _ (λr d=>r=t.1/\d=t.2) _ Q P ⟨t,e3,rfl,rfl⟩ λv2 H2 r a0 J B=>?_⟩;obtain⟨g,f⟩:=B;subst g f
   ·cases h;have O:=J.dt T;cases O;obtain⟨v',s,w⟩:=Rel.open (us:=[L]) (zs:=[o.1]) J.drop rfl U;rw[M]at s;cases s;obtain⟨l,Z,ch,hH,hl,go⟩:=w.zm (ks:=[]) rfl rfl;cases ch;refine⟨l,Z,k,u,rfl,rfl,hH,by rw[hl];exact Y,?_⟩;exact E.nx σ _ _ (Rel.close (Rel.rest (us:=[L]) (zs:=[o.1]) J.drop rfl) M (go (Z.set u L) (xs.set u o.1) λS H A C nt g f nd=>Ows.setA (Cr Y) g f nd)) q⟩
theorem Ge(hu:X.A.units+1<cLine)(hs:swapsWith a (some (.Subscript e e2 p2)) pos.line X.env=pure false):
  PDp X e i ps->PX X e2 (λσ=>σ[j]?.join)->PDe X a (aB C ma)->PDs X W (.Assign [.Subscript e e2 p2] a pos) (gI C (.std i ps j ma))
 |⟨_,h0,s0⟩,⟨_,f,s2⟩,⟨_,g,s1⟩=>⟨_,yj hu h0 f g hs,λb F σ H ρ τ θ Dd D Q n R ⟨y,h,q⟩ E=>by
  obtain⟨z,o,r,e1,e2,O,h⟩:=bn3 h;refine s1 b F σ H ρ τ θ (λr B=>r=z.1/\B=z.2) _ Q R ⟨z,e1,rfl,rfl⟩ λL N r' a0 R1 hZ=>?_;obtain⟨g,f⟩:=hZ;subst g f;have s:=R1.frz1 e2;obtain⟨x0,kd,kk,uu,_,Y,f0,e5,t,M,h⟩:=bn5 h;have M:=gd_ok M;have t:=vh t;rw[dN f0]at Y;obtain⟨ks,xs⟩:=uu;simp only at M t h
  ···cases h
     obtain⟨g1,T⟩:=path_at O;refine s0 b F σ N _ _ _ _ r Q s O λv u U P=>s2 σ N _ _ (s.keyS Y e5) ?_;obtain⟨v',d,w⟩:=Rel.open (us:=[L]) (zs:=[.fz o.1]) s rfl g1;rw[U]at d;cases d;rw[t]at T P;obtain⟨l,ws,J,hH,I,hl,go⟩:=w.z4 rfl T;obtain⟨e6,_⟩:=Chn.det P J;subst e6 I;refine⟨l,_,rfl,DPut.k hH (aay (by omega) (by decide:1000001<=sizeLine)),?_⟩;exact E.nx σ _ _ (Rel.close (Rel.rest (us:=[L]) (zs:=[.fz o.1]) s rfl) U (go (putK ws kk L) _ _ (qa hl) λS H A C nt g f Z=>mF g f Z)) q⟩
theorem Gf{c f:Str} (hN:X.N[i]?=some x) (hv:Vis X.env.scope x) (hd:(x==("__debug__":Str))=false) (t:(x==("__classdict__":Str))=false) (Q:Cls X.K (aq X.K c)) (hn:NoAttr X.K (aq X.K c) f) (hs:swapsWith e (some (.Attribute (.Name x pos') f p2)) pos.line X.env=pure false):
  PDe X e (aB C ma)->PDs X W (.Assign [.Attribute (.Name x pos') f p2] e pos) (gI C (.stf i c f ma))
 |⟨_,g,s1⟩=>⟨_,BI (bP hN hv hd t) g hs,λb F σ H ρ τ θ Dd D s n R ⟨y,h,q⟩ E=>by
  obtain⟨z,o,e1,e2,h⟩:=bn2 h;refine s1 b F σ H ρ τ θ (λr k=>r=z.1/\k=z.2) _ s R ⟨z,e1,rfl,rfl⟩ λI H1 r a0 R1 Y=>?_;obtain⟨g,J⟩:=Y;subst g J;have M:=R1.own1 e2;obtain⟨x0,Z,_,L,f0,d,h⟩:=bn3 h;have d:=gd_ok d;rw[kI f0]at L;obtain⟨c',ns,xs⟩:=Z;simp only at d L h
  ··cases h
    obtain⟨B,d⟩:=d;subst B;obtain⟨v,P,w⟩:=Rel.open (us:=[I]) (zs:=[o.1]) M rfl L;obtain⟨l,dx,O,U,hH,u,hl,go⟩:=w.mutO (ks:=[]) rfl rfl;cases U;subst u;refine⟨.ref l,P,l,_,dx,O,rfl,hH,s▸Q,s▸hn,by omega,?_⟩;exact E.nx σ _ _ (Rel.close (Rel.rest (us:=[I]) (zs:=[o.1]) M rfl) P (go (b9 f I O) _ _ (kR hl) λS H A C nt g J T=>iO g J.one T)) q⟩
theorem Gg{c f:Str} (hN:X.N[i]?=some x) (hv:Vis X.env.scope x) (hd:(x==("__debug__":Str))=false) (a6:(x==("__classdict__":Str))=false) (hc:Cls X.K (aq X.K c)) (hn:NoAttr X.K (aq X.K c) f) (J:PDe X e (aB C ma)):
  PDs X W (.AugAssign (.Attribute (.Name x pos') f p2) (opOf o) e pos) (gI C (.agf i c f o ma)):=by
 have L:∀(B:Operator) (g:Int->Int->Int),xT X B (λx y H Q=>∃i j,x=.int i/\y=.int j/\Q (.int (g i j)) H)->(∀a d r,mx o a d=some r->∃k,d=.int k/\r=g a k)->PDs X W (.AugAssign (.Attribute (.Name x pos') f p2) B e pos) (gI C (.agf i c f o ma)):=λB g ho hg=>by
  obtain⟨_,h,s1⟩:=J;refine⟨_,rK (bP hN hv hd a6) h ho,λb F U H ρ τ θ Dd D Y n R ⟨y,h,q⟩ E=>?_⟩;obtain⟨r,d0,t,z,d,s,f0,I,e2,e3,h⟩:=bn5 h;obtain⟨nr,x1,uu,_,e4,ex,f5,P,h⟩:=bn4 h;have P:=gd_ok P;rw[kI f5]at ex;obtain⟨c2,a7,c0⟩:=uu;simp only at P ex h;have Z:=dN f0;rw[aU I]at Z;cases h
  ·have b6:=hg;obtain⟨k,rfl,rfl⟩:=hg _ _ _ e4;obtain⟨g1,g2⟩:=path_at s;obtain⟨v,T,w0⟩:=R.slot (join_some g1);obtain⟨u,ch⟩:=w0.way g2;have hu:=R.so s T ch (by rw[Z];rfl);obtain⟨r0,k0,z0,I,f2,f3,s⟩:=bn3 s;obtain⟨x0,f4,I⟩:=bnd I;cases I;cases s;simp only[aaX]at ch g2 Z f2 f3 g1;obtain⟨ns,xs,ey,f7⟩:=F3 f2;subst ey;cases ch with
   |cons cd cn=>
    cases cn;cases cd with
    |@obj l dx c' fs _ _ _ _ _ q1 q2 q5 q3 q4=>
     ·cases hu;refine⟨_,T,l,_,dx,fs,.int t,rfl,q1,Y▸hc,Y▸hn,lookup_at (by rw[q2];exact f7) q3,?_⟩;refine s1 b F U H ρ τ θ (λr a3=>r=z.1/\a3=z.2) _ Y R ⟨z,e2,rfl,rfl⟩ λv1 H1 r b0 R1 hZ=>?_;obtain⟨J,h2⟩:=hZ;subst J h2;have a5:=R1.dt e3;cases a5;refine⟨t,k,rfl,rfl,?_⟩
      ··obtain⟨a2,P⟩:=P
        subst a2;have R2:Rel b F U H1 z.2 (.int (g t k)::τ) (.val (.fz (.int (g t k)))::θ):=R1.drop.sc (.int _);obtain⟨v',O,w⟩:=Rel.open (us:=[.int (g t k)]) (zs:=[.fz (.int (g t k))]) R2 rfl ex;rw[T]at O;cases O;obtain⟨l2,a0,M,a1,hH,a4,hl,go⟩:=w.mutO (ks:=[]) rfl rfl;cases a1;subst a4;refine⟨a0,M,hH,by omega,?_⟩;exact E.nx U _ _ (Rel.close R1.drop T (go (b9 f _ M) _ _ (kR hl) λS H A C nt J h2 nd=>iO J h2.one nd)) q
 have nil:∀B,(∀a d,mx o a d=none)->PDs X W (.AugAssign (.Attribute (.Name x pos') f p2) B e pos) (gI C (.agf i c f o ma)):=λB hn=>by refine⟨_,lN,λb F U H ρ τ θ Dd D Y n R ⟨y,h,q⟩ E=>?_⟩;obtain⟨r,d0,t,z,dk,s,f0,I,e2,ek,h⟩:=bn5 h;rw[hn]at h;cases h
 cases o with
 |add=>exact L _ _ BJ λa d r h=>by cases d<;>cases h;exact⟨_,rfl,rfl⟩
 |sub=>exact L _ _ BK λa d r h=>by cases d<;>cases h;exact⟨_,rfl,rfl⟩
 |_=>exact nil _ λa d=>rfl
theorem qb{K:Waa}:∀{xs:List V}{ds:List PyData}{ns:List Int},DtAll K H xs ds->gH ds=some ns->xs=ns.map V.int
 |[],_,ns,.nil,e=>by cases e;rfl
 |_::_,_::_,ns,.cons h t,e=>by obtain⟨i,r,d,e2,e⟩:=bn2 e;cases e;rw[aU d]at h;cases h;rw[qb t e2];rfl
theorem C9(h:nmR ρ i=some r):ev C (.nm i) ρ=some (r,ρ):=by
 show (match ρ[i]?.join with
  |some (OD.fz d)=>some (OR.val (OD.fz d),ρ)
  |some _=>some (OR.rf i,ρ)
  |none=>none)=_
 unfold nmR at h;cases e:ρ[i]?.join with
 |none=>rw[e]at h;cases h
 |some x=>rw[e]at h;cases x<;>(cases h;rfl)
theorem Gh(g:(apos.endLine==cpos.line)=true)(hs:isStar e=false):PDe X (.Name x pos') (aB C (.nm i))->PDe X e (aB C ma)->PDe X (.Call (.Attribute (.Name x pos') "index" apos) [e] [] cpos) (aB C (.idl i ma))
 |⟨_,h1,s1⟩,⟨_,h2,s2⟩=>⟨_,pk ab0 PySem.F.slot_list_index PySem.F.type_list_index sx h1 (aK h2 bh (av hs)) rfl (yV hs) g (av hs) (bN rfl),λb F σ H ρ τ θ Qd Q l R ⟨y,h,q⟩ Z=>by
  obtain⟨r0,d0,a0,z,d,e1,e2,M,e4,D,h⟩:=bn5 h;obtain⟨n,d1,ds,ns,_,O,B,J,S,k,h⟩:=bn5 h;obtain⟨j,ej,h⟩:=bnd h;cases h;have k:=gd_ok k;refine s1 b F σ H ρ τ θ (λr f=>r=r0/\f=ρ) _ l R ⟨(r0,ρ),C9 e1,rfl,rfl⟩ λv L r Y I s=>?_;obtain⟨w,t⟩:=s;subst w t;rw[kJ M]at e2;rw[aU O]at D;rw[kJ J]at B;have hd:=I.dt e2;cases hd with
  |@lst a xs _ hq hall=>
   rw[l]at hq;refine⟨.inl ⟨rfl,_,hq⟩,?_⟩;refine s2 b F σ L _ _ _ (λr f=>r=z.1/\f=z.2) _ l I ⟨z,e4,rfl,rfl⟩ λu H2 r T o s=>?_;obtain⟨w,t⟩:=s;subst w t;have P:=o.dt D;cases P;have A:=o.dt2 B;cases A with
   |@lst _ xs2 _ hq2 hall2=>
    rw[l]at hq2;rw[qb hall2 S]at hq2;obtain⟨U,p1,p2⟩:=acN.mp ej;refine⟨a,ns,n,j,rfl,rfl,hq2,?_,λm N k=>?_,by omega,Z _ H2 _ _ (o.drop.drop.sc (.int j)) q⟩
    ·rw[aan U,Daa p1]
    ·obtain⟨hl,k⟩:=aai.mp k;exact p2 m N (Dac k)⟩
end
end
section
section
variable{X:Cx}{C:Ct}{a e e2:Expr}{es:List Expr}{ma mb:E}{mes:Es}{pos p p1 p2 apos:Pos}{x:Str}{i j:Nat}{k n:Nat}{f:Addr}{fd:FuncData}{ps:List Str}{sp:DSp}{c m:Str}{ff:Nat}
theorem sJ{E:XK}(g:uB sp)(s:vs.length=rs.length)(t:Rel b F σ H ρ1 (vs++τ) (rs++θ))(A:aX ios ρ1 rs=some (xs,ρ2))(h:sp xs P)
  (q:∀x ys v l,P x ys->Rel b F σ l (dH ios rs ys ρ2) (v::τ) (.val x::θ)->Q v l):toSp b.K sp vs H Q E:=by
 obtain⟨r,e2⟩:=argsR_ok t s A;have B:=((aH s).mp t.al).1;have w:=r.vals e2;refine w.call e2 g (g _ _ _ (λx ys y d v l u=>q x ys v l y ?_) h);have z:Rel b F σ l ρ2 (v::(vs++τ)) (.val x::(ys.map OR.val++θ)):=by have o:=r.drops (by simpa using e2);refine⟨o.wf,(aH (by simpa using d)).mpr ⟨fg d,o.al⟩,o.wff,?_⟩;show Wd b l ((v,x)::(stk (vs++τ) (ys.map OR.val++θ)++_));rw[aC (by simpa using d),cf d,aac];exact u
 exact bM B d (Rel.u5 z (by simpa using d))
def spC(g:List OD->Option (OD×List OD)):DSp:=λb Q=>∃w,g b=some w/\Q w.1 w.2
def vD(g:List OD->Option (OD×List OD)):uB (spC g):=λb P R h ⟨w,e,q⟩=>⟨w,e,h _ _ q⟩
theorem jT{f:Str}:∀{fs:List (Str×V)},f ∉ fs.map (·.1)->fs.lookup f=none
 |[],_=>rfl
 | (g,q)::fs,h=>by
  have b:f≠g:=λe=>h (by simp[e]);have d:(f==g)=false:=by simpa using b
  have:=jT λz=>h (by rw[aam];exact aah _ z);simp[List.lookup,d,this]
theorem mG(G:FnD X.prog X.w X.K X.mg X.base k f fd ps (spC (C.call ff)))(s1:uC X.K ta (fq C mes)):bA X.K (tQ (aq X.K c) m (toSp X.K (spC (C.call ff))) [] E0 (tVar i) ta) (aB C (.meth c m ff i mes)):=λb F M H J τ θ Qd Q s R ⟨y,h,q⟩ Y=>by
 obtain⟨x0,uu,_,D,f0,d,h⟩:=bn3 h;obtain⟨u,d⟩:=gd_ok d;rw[kI f0,u]at D
 ··obtain⟨z,e1,h⟩:=bnd h
   obtain⟨o,w,e2,S,h⟩:=bn2 h;cases h;obtain⟨v,L,w0⟩:=R.slot (join_some D);obtain⟨l,dx,Z,T,hH,t,hl,go⟩:=Wd.mutO (us:=[]) (zs:=[]) (ks:=[]) w0 rfl rfl;cases T;rw[<-t]at d;refine⟨.ref l,L,l,dx,Z,rfl,s▸hH,jT d,?_⟩;have R0:Rel b F M H J (.ref l::τ) (.rf i::θ):=⟨R.wf,⟨L,R.al⟩,R.wff,R.wd⟩
   refine s1 b F M H J _ _ (λr g=>r=z.1/\g=z.2) _ s R0 ⟨z,e1,rfl,rfl⟩ λvs H1 rs W I R1 U=>?_;obtain⟨B,A⟩:=U;subst B A;rw[aaq,<-s];refine sJ (P:=λx N=>x=w.1/\N=w.2) G.mono (by simp[I]) (Rel.za R1 I) e2 ⟨w,S,rfl,rfl⟩ λx N v H' hx O=>?_;obtain⟨B,A⟩:=hx;subst B A;exact Y v H' _ _ O q
theorem IH(d:methodCallForm n args kws=true)(b:(apos.endLine==pos.line)=true):
  methodCall o name apos pos env ov n args kws=(do let (f,first) <-holding [ov] (getMethod ov name (do return (<-importBound o env).getD true));callWith pos f first args kws):=by
 unfold methodCall calleeOf methodCallPos;rw[d,b];rfl
theorem vE(h:es.any isStar=false)(q:decide (es.length<30)=true)(l:(apos.endLine==pos.line)=true):
  eval (.Call (.Attribute (.Name x p1) m apos) es [] pos) env=(do
   let b <-eval (.Name x p1) env
   standAt apos.atName
   let (f,first) <-holding [b] (getMethod b m (do return (<-importBound (.Name x p1) env).getD true))
   callWith pos f first (backTo pos (starEach es env)) (backToKw pos (keywordEach [] env))):=by
 have g:methodCallForm (es.length+([]:List Keyword).length) (backTo pos (starEach es env)) (backToKw pos (keywordEach [] env))=true:=by
  have d:(backTo pos (starEach es env)).all (λz=>!z.1)=true:=by have:=bN (pos:=pos) (env:=env) h;rw[abm];intro z o;rw[List.any_eq_false]at this;have:=this z o;simpa using this
  unfold methodCallForm;rw[d];simpa[keywordEach,backToKw] using q
 show (eval (.Name x p1) env >>= λb=>standAt apos.atName >>= λ_=>methodCall (.Name x p1) m apos pos env b (es.length+([]:List Keyword).length) (backTo pos (starEach es env)) (backToKw pos (keywordEach [] env)))=_;simp only[IH g l]
theorem Da(q:Cls X.K (aq X.K c))(o:Meth X.K (aq X.K c) m f)(G:FnD X.prog X.w X.K X.mg X.base k f fd ps (spC (C.call ff)))(l:Room k X.A)(t:Binds X.K fd ps [])
  (u:X.N[i]?=some x) (h:Vis X.env.scope x) (s:(x==("__debug__":Str))=false) (d:(x==("__classdict__":Str))=false) (g:isStar e=false) (b:es.any isStar=false) (v:decide ((e::es).length<30)=true) (r:(apos.endLine==pos.line)=true):
  PDa X (e::es) (fq C mes)->PDe X (.Call (.Attribute (.Name x p1) m apos) (e::es) [] pos) (aB C (.meth c m ff i mes))
 |⟨_,h1,s1⟩=>⟨_,xW (E:=E0) (bP u h s d) q o G.ok l t .nil pv h1 (av g) (bN b) (vE (by rw[aaV,g,b];rfl) v r),mG G s1⟩
theorem yW(l:Cls X.K (aq X.K c))(g:Meth X.K (aq X.K c) m f)(G:FnD X.prog X.w X.K X.mg X.base k f fd ps (spC (C.call ff)))(v:Room k X.A)(o:Binds X.K fd ps [])
  (z:X.N[i]?=some x) (B:Vis X.env.scope x) (u:(x==("__debug__":Str))=false) (d:(x==("__classdict__":Str))=false) (r:(apos.endLine==pos.line)=true):
  PDe X (.Call (.Attribute (.Name x p1) m apos) [] [] pos) (aB C (.meth c m ff i .nil)):=
 ⟨_,tR (bP z B u d) l g G.ok v o .nil pv (vE rfl rfl r),mG G λb F J H t I L M Q D R ⟨y,h,q⟩ s=>by
  cases h;exact s [] H [] t rfl R q⟩
theorem Wd.newObj{p dx:Addr}(w:Wd b H L)(h:H p=none)(g:H dx=none)(r:dx≠p):Wd b (upd (upd H dx (.own p)) p (.ins (aq b.K c) dx [])) ((.ref p,.obj c [] [])::L):=by
 obtain⟨A,l,B,s⟩:=w.out;have u:=w.al l h;have y:=w.al l g;have D:=w.r6 l;have I:=w.new g (o:=.own p);have t:upd H dx (.own p) p=none:=by rw[upd_ne (λe=>r e.symm)];exact h
 have q:=I.new t (o:=.ins (aq b.K c) dx []);have F:Kp (λc=>c∈A\/b.S0 c) H (upd (upd H dx (.own p)) p (.ins (aq b.K c) dx [])):=⟨λc o e _=>by
   rw[upd_ne (λz=>by subst z;rw[h]at e;cases e),upd_ne (λz=>by subst z;rw[g]at e;cases e)];exact e,λc e=>by
   by_cases z:c=p
   ·subst z;exact h
   ·rw[upd_ne z]at e;by_cases v:c=dx
    ·subst v;exact g
    ·rw[upd_ne v]at e;exact e⟩
 have n:∀c,(c∈p::dx::A\/b.S0 c)->(c∈A\/b.S0 c)\/H c=none:=λc z=>by
  rcases z with z|z
  ·rcases aab.mp z with rfl|z
   ·exact .inr h
   ·rcases aab.mp z with rfl|z
    ·exact .inr g
    ·exact .inl (.inl z)
  ·exact .inl (.inr z)
 refine⟨⟨p::dx::A,Ows.cons (A:=[p,dx]) (.obj ao (by rw[upd_ne r];exact ao) rfl rfl .nil) (Ows.step F n D (λa d=>?_) l),aaA.mpr ⟨λz=>?_,aaA.mpr ⟨λz=>y (.inl z),B⟩⟩,λa d=>?_⟩,q.fr,q.s0,q.nt⟩
 ·have J:a≠p:=λe=>u (.inl (e▸d));have e2:a≠dx:=λe=>y (.inl (e▸d));rw[upd_ne J,upd_ne e2]
 ·rcases aab.mp z with z|z
  ·exact r z.symm
  ·exact u (.inl z)
 ·rcases aab.mp d with rfl|d
  ·exact .inl (w.vl h)
  ·rcases aab.mp d with rfl|d
   ·exact .inl (w.vl g)
   ·exact s a d
theorem vF(G:FnD X.prog X.w X.K X.mg X.base k f fd ps (spC (C.mak ff)))(s1:uC X.K ta (fq C mes)):bA X.K (Ai (aq X.K c) (toSp X.K (spC (C.mak ff))) [] E0 ta) (aB C (.make c ff mes)):=λb F L H ρ B O Qd Q S R ⟨y,h,q⟩ kk=>by
 obtain⟨z,o,w,e1,e2,Z,h⟩:=bn3 h;refine s1 b F L H ρ _ _ (λr u=>r=z.1/\u=z.2) _ S R ⟨z,e1,rfl,rfl⟩ λvs H1 rs a0 T W hZ=>?_;obtain⟨h1,h2⟩:=hZ;subst h1 h2;intro t dx hp hx ne;obtain⟨A,I⟩:=argsR_ok W T e2;have al:=((aH T).mp W.al).1;have w0:=Wd.newObj (c:=c) A.wd hp hx ne;have R3:Rel b F L _ o.2 (.ref t::(vs++B)) (.val (.obj c [] [])::(o.1.map OR.val++O)):=Rel.push A w0;rw[aaq,<-S];have J:vs.length=o.1.length:=I;have w1:=Rel.vals (vs:=.ref t::vs) (xs:=.obj c [] []::o.1) R3 (by simp[J]);obtain⟨yy,ew,h⟩:=bnd h;obtain⟨D,l⟩:=CO ew;obtain⟨Y,g⟩:=yy;simp only at l
 ·cases h;refine w1.call (by simp[J]) G.mono ⟨w,Z,λs v N P=>?_⟩;rw[D,l]at P;rw[l]at s;have d:vs.length=g.length:=by simpa using s
  have M:=A.drops (by simpa using J);have U:Rel b F L N o.2 (v::(.ref t::(vs++B))) (.val (.fz .none)::.val Y::(g.map OR.val++O)):=by refine⟨M.wf,(aH (by simpa using d)).mpr ⟨fg d,M.al⟩,M.wff,?_⟩;show Wd b N ((v,.fz .none)::(.ref t,Y)::(stk (vs++B) (g.map OR.val++O)++_));rw[aC (by simpa using d),cf d,aac];exact P
  have hv:=U.dt rfl;cases hv;refine⟨rfl,kk _ N _ _ ?_ q⟩;exact bM al d (Rel.u5 U.drop (by simpa using d))
theorem Dc(M:Mk X.K (aq X.K c) f) (G:FnD X.prog X.w X.K X.mg X.base k f fd ps (spC (C.mak ff))) (o:Room (k+1) X.A) (l:Gl X x) (g:X.mg x=some (.ref (aq X.K c))) (h:Binds X.K fd ps []) (d:(x==("__debug__":Str))=false)
  (q:isStar e=false) (b:es.any isStar=false):PDa X (e::es) (fq C mes)->PDe X (.Call (.Name x p) (e::es) [] pos) (aB C (.make c ff mes))
 |⟨_,h1,s1⟩=>⟨_,xX (E:=E0) M G.ok o l g h .nil pv h1 d (av q) (bN b),vF G s1⟩
end
theorem vG(b:Bs)(a:Addr)(ds:List PyData):jv b (GT b.K a) [.ref a] [.val (.lst (ds.map OD.fz))] ds:=λF s H q r t R k=>by have i:listOf (.lst (ds.map OD.fz))=some ds:=fzL_of ds;obtain⟨o,c,e,n,f,g⟩:=R.wd.ay cM i;cases e;refine⟨λh=>⟨⟨c,c[k]'(by omega),f,aan _⟩,λx p d ⟨m,l⟩ j=>?_⟩,λe=>⟨c,f,by omega⟩⟩;subst m;refine Rel.push R (g.pick (cD (l c f) ?_));rw[aas,j];rfl
section
variable{X:Cx}{C:Ct}{pos p:Pos}{x:Str}{i:Nat}
theorem yX{o:Tg} (n:X.N[i]?=some x) (hv:Vis X.env.scope x) (M:(x==("__debug__":Str))=false) (J:(x==("__classdict__":Str))=false) (hc:X.calm=true) (S:CompScope N nt fr X.N scope X.env.scope) (hg:∀c:CC,PDg (ba X N scope c) Ff nt tg (cW o)) (ha:∀c:CC,PDc (ba X N scope c) ifs elt (Aw C mif me)):
  PDe X (.ListComp elt [⟨tg,.Name x p,ifs,0⟩] scope pos) (aB C (.compB i nt fr o mif me)):=by
 obtain⟨g,j⟩:=PDg.ex (Y:=λc=>ba X N scope c) (λ_=>rfl) hg;obtain⟨tc,m⟩:=PDc.ex (Y:=λc=>ba X N scope c) (λ_=>rfl) ha;refine⟨_,pD hc S (oZ (bP n hv M J)) (λc=>(j c).1) (λc D=>(m c).1 D) (λ_=>rfl),λb F σ H L τ θ Qd Q A R ⟨y,h,q⟩ k=>?_⟩;obtain⟨x0,xs,l,_,U,f0,e1,T,h⟩:=bn4 h;have T:=gd_ok T;rw[gg f0]at U
 ··obtain⟨z,e2,h⟩:=bnd h
   obtain⟨w,e3,h⟩:=bnd h;cases h;have O:=fzL_map e1;subst O;obtain⟨v,W,R1⟩:=R.moved U;obtain⟨a,us,rfl,el,Z,_⟩:=R1.wd.ay (aaf _ aad) (fzL_of l);rw[A]at Z;refine⟨_,W,a,rfl,⟨us,Z⟩,?_⟩;have B:=jP (Iv:=λk e L=>aM (aS C o mif me) (l.drop k) e L=some w) (λc=>(j c).2) (λc=>(m c).2) A rfl (λr hr=>.inl ⟨_,aap.mp hr⟩) R1 (vG b a l) T e2 e3 (λk d e L M f=>by
    obtain⟨u,t,P⟩:=iM _ _ _ k M f;obtain⟨I,e4,t⟩:=bnd t;exact⟨I,e4,u,t,P⟩) λH' D e s R' f=>by
    have f:aM (aS C o mif me) (l.drop l.length) e s=some w:=f;rw[abv]at f;cases f;exact k _ H' _ _ (Rel.give (Rel.za (vs:=[.ref D]) (rs:=[.val (.lst (e.map OD.fz))]) R' rfl) W) q
   rw[A]at B;exact B
end
end
section
def bS(e:PySem.Expr):Option (Str):=if h:e.ctorIdx=23 then some (@PySem.Expr.Name.elim (λ_=>Str) e h λx _=>x) else none
def asNm_ok{e:PySem.Expr}{z:Str}(h:bS e=some z):∃p,e=.Name z p:=by
 by_cases a:e.ctorIdx=23
 ·revert h;exact@PySem.Expr.Name.elim (λe=>bS e=some z->∃p,e=.Name z p) e a λx p h=>by cases h;exact⟨p,rfl⟩
 ·rw[bS,dif_neg a]at h;cases h
def jU(e:PySem.Expr):Option (Const):=if h:e.ctorIdx=19 then some (@PySem.Expr.Constant.elim (λ_=>Const) e h λc _ _=>c) else none
def iP{e:PySem.Expr}{z:Const}(h:jU e=some z):∃j p,e=.Constant z j p:=by
 by_cases a:e.ctorIdx=19
 ·revert h;exact@PySem.Expr.Constant.elim (λe=>jU e=some z->∃j p,e=.Constant z j p) e a λc j p h=>by cases h;exact⟨j,p,rfl⟩
 ·rw[jU,dif_neg a]at h;cases h
def qc(e:PySem.Expr):Option (Expr×Operator×Expr):=if h:e.ctorIdx=2 then some (@PySem.Expr.BinOp.elim (λ_=>Expr×Operator×Expr) e h λx o y _=>(x,o,y)) else none
def vH(h:qc e=some z):∃p,e=.BinOp z.1 z.2.1 z.2.2 p:=by
 by_cases a:e.ctorIdx=2
 ·revert h;exact@PySem.Expr.BinOp.elim (λe=>qc e=some z->∃p,e=.BinOp z.1 z.2.1 z.2.2 p) e a λx o y p h=>by cases h;exact⟨p,rfl⟩
 ·rw[qc,dif_neg a]at h;cases h
def mH(e:PySem.Expr):Option (Expr×List CmpOp×List Expr):=if h:e.ctorIdx=15 then some (@PySem.Expr.Compare.elim (λ_=>Expr×List CmpOp×List Expr) e h λx a b _=>(x,a,b)) else none
def asCmp_ok(h:mH e=some z):∃p,e=.Compare z.1 z.2.1 z.2.2 p:=by
 by_cases a:e.ctorIdx=15
 ·revert h;exact@PySem.Expr.Compare.elim (λe=>mH e=some z->∃p,e=.Compare z.1 z.2.1 z.2.2 p) e a λx c b p h=>by cases h;exact⟨p,rfl⟩
 ·rw[mH,dif_neg a]at h;cases h
def yY(e:PySem.Expr):Option (BoolOp×List Expr×Pos):=if h:e.ctorIdx=0 then some (@PySem.Expr.BoolOp.elim (λ_=>BoolOp×List Expr×Pos) e h λo a p=>(o,a,p)) else none
def yZ(h:yY e=some z):e=.BoolOp z.1 z.2.1 z.2.2:=by
 by_cases a:e.ctorIdx=0
 ·revert h;exact@PySem.Expr.BoolOp.elim (λe=>yY e=some z->e=.BoolOp z.1 z.2.1 z.2.2) e a λo b p h=>by cases h;exact rfl
 ·rw[yY,dif_neg a]at h;cases h
def vI(e:PySem.Expr):Option (UnaryOp×Expr):=if h:e.ctorIdx=3 then some (@PySem.Expr.UnaryOp.elim (λ_=>UnaryOp×Expr) e h λo x _=>(o,x)) else none
def qe{e:PySem.Expr}{z:UnaryOp×Expr}(h:vI e=some z):∃p,e=.UnaryOp z.1 z.2 p:=by
 by_cases a:e.ctorIdx=3
 ·revert h;exact@PySem.Expr.UnaryOp.elim (λe=>vI e=some z->∃p,e=.UnaryOp z.1 z.2 p) e a λo x p h=>by cases h;exact⟨p,rfl⟩
 ·rw[vI,dif_neg a]at h;cases h
def y0(e:PySem.Expr):Option (Expr×Expr×Expr):=if h:e.ctorIdx=5 then some (@PySem.Expr.IfExp.elim (λ_=>Expr×Expr×Expr) e h λc a b _=>(c,a,b)) else none
def y4(h:y0 e=some z):∃p,e=.IfExp z.1 z.2.1 z.2.2 p:=by
 by_cases d:e.ctorIdx=5
 ·revert h;exact@PySem.Expr.IfExp.elim (λe=>y0 e=some z->∃p,e=.IfExp z.1 z.2.1 z.2.2 p) e d λc a b p h=>by cases h;exact⟨p,rfl⟩
 ·rw[y0,dif_neg d]at h;cases h
def cm(e:PySem.Expr):Option (List Expr):=if h:e.ctorIdx=25 then some (@PySem.Expr.Tuple.elim (λ_=>List Expr) e h λa _ _=>a) else none
def asTup_ok(h:cm e=some z):∃k p,e=.Tuple z k p:=by
 by_cases a:e.ctorIdx=25
 ·revert h;exact@PySem.Expr.Tuple.elim (λe=>cm e=some z->∃k p,e=.Tuple z k p) e a λb k p h=>by cases h;exact⟨k,p,rfl⟩
 ·rw[cm,dif_neg a]at h;cases h
def qf(e:PySem.Expr):Option (List Expr):=if h:e.ctorIdx=24 then some (@PySem.Expr.List.elim (λ_=>List Expr) e h λa _=>a) else none
def vJ(h:qf e=some z):∃p,e=.List z p:=by
 by_cases a:e.ctorIdx=24
 ·revert h;exact@PySem.Expr.List.elim (λe=>qf e=some z->∃p,e=.List z p) e a λb p h=>by cases h;exact⟨p,rfl⟩
 ·rw[qf,dif_neg a]at h;cases h
def eK(e:PySem.Expr):Option (Expr×Expr):=if h:e.ctorIdx=21 then some (@PySem.Expr.Subscript.elim (λ_=>Expr×Expr) e h λx y _=>(x,y)) else none
def cp(h:eK e=some z):∃p,e=.Subscript z.1 z.2 p:=by
 by_cases a:e.ctorIdx=21
 ·revert h;exact@PySem.Expr.Subscript.elim (λe=>eK e=some z->∃p,e=.Subscript z.1 z.2 p) e a λx y p h=>by cases h;exact⟨p,rfl⟩
 ·rw[eK,dif_neg a]at h;cases h
def qg(e:PySem.Expr):Option (Option Expr×Option Expr×Option Expr):=if h:e.ctorIdx=26 then some (@PySem.Expr.Slice.elim (λ_=>Option Expr×Option Expr×Option Expr) e h λl a s _=>(l,a,s)) else none
def vK(h:qg e=some z):∃p,e=.Slice z.1 z.2.1 z.2.2 p:=by
 by_cases a:e.ctorIdx=26
 ·revert h;exact@PySem.Expr.Slice.elim (λe=>qg e=some z->∃p,e=.Slice z.1 z.2.1 z.2.2 p) e a λl b s p h=>by cases h;exact⟨p,rfl⟩
 ·rw[qg,dif_neg a]at h;cases h
def gi(e:PySem.Expr):Option (Expr×List Expr×List Keyword×Pos):=if h:e.ctorIdx=16 then some (@PySem.Expr.Call.elim (λ_=>Expr×List Expr×List Keyword×Pos) e h λf b a p=>(f,b,a,p)) else none
def gj(h:gi e=some z):e=.Call z.1 z.2.1 z.2.2.1 z.2.2.2:=by
 by_cases a:e.ctorIdx=16
 ·revert h;exact@PySem.Expr.Call.elim (λe=>gi e=some z->e=.Call z.1 z.2.1 z.2.2.1 z.2.2.2) e a λf c b p h=>by cases h;exact rfl
 ·rw[gi,dif_neg a]at h;cases h
def gK(e:PySem.Expr):Option (Expr×Str×Pos):=if h:e.ctorIdx=20 then some (@PySem.Expr.Attribute.elim (λ_=>Expr×Str×Pos) e h λo f p=>(o,f,p)) else none
def asAtt_ok(h:gK e=some z):e=.Attribute z.1 z.2.1 z.2.2:=by
 by_cases a:e.ctorIdx=20
 ·revert h;exact@PySem.Expr.Attribute.elim (λe=>gK e=some z->e=.Attribute z.1 z.2.1 z.2.2) e a λo f p h=>by cases h;exact rfl
 ·rw[gK,dif_neg a]at h;cases h
def qh(e:PySem.Expr):Option (List (Option Expr)×List Expr):=if h:e.ctorIdx=6 then some (@PySem.Expr.Dict.elim (λ_=>List (Option Expr)×List Expr) e h λb a _=>(b,a)) else none
def vL{e:PySem.Expr}{z:List (Option Expr)×List Expr}(h:qh e=some z):∃p,e=.Dict z.1 z.2 p:=by
 by_cases a:e.ctorIdx=6
 ·revert h;exact@PySem.Expr.Dict.elim (λe=>qh e=some z->∃p,e=.Dict z.1 z.2 p) e a λb c p h=>by cases h;exact⟨p,rfl⟩
 ·rw[qh,dif_neg a]at h;cases h
def mI(e:PySem.Expr):Option (Expr×List Comprehension×Scope×Pos):=if h:e.ctorIdx=8 then some (@PySem.Expr.ListComp.elim (λ_=>Expr×List Comprehension×Scope×Pos) e h λx a s p=>(x,a,s,p)) else none
def kS(h:mI e=some z):e=.ListComp z.1 z.2.1 z.2.2.1 z.2.2.2:=by
 by_cases a:e.ctorIdx=8
 ·revert h;exact@PySem.Expr.ListComp.elim (λe=>mI e=some z->e=.ListComp z.1 z.2.1 z.2.2.1 z.2.2.2) e a λx b s p h=>by cases h;exact rfl
 ·rw[mI,dif_neg a]at h;cases h
def II:Const->Option Int|.int k=>some k|_=>none
def IJ:Const->Option Str|.str k=>some k|_=>none
def IK:Const->Option Bool|.bool k=>some k|_=>none
def mJ(e:Expr):Option Int:=(jU e).bind II
def Ay(e:Expr):Option Str:=(jU e).bind IJ
def De(e:Expr):Option Bool:=(jU e).bind IK
def Az(e:Expr):Bool:=(qh e).any λz=>z.1.isEmpty&&z.2.isEmpty
def isTup(e:Expr):Bool:=(cm e).isSome
def anyT{b:Type}{o:Option b}{p:b->Bool}(h:o.any p=true):∃a,o=some a/\p a=true:=by
 cases o with
 |none=>cases h
 |some a=>exact⟨a,rfl,h⟩
def ay2{α β:Type}{o:Option α}{g1:α->Option β}{f:α->β->Bool}(h:(o.any λa=>(g1 a).any (f a))=true):∃a b,o=some a/\g1 a=some b/\f a b=true:=by obtain⟨a,p0,h⟩:=anyT h;obtain⟨b,p1,h⟩:=anyT h;exact⟨a,b,p0,p1,h⟩
theorem ay3{α β γ:Type}{o:Option α}{g1:α->Option β}{g2:α->β->Option γ}{f:α->β->γ->Bool}(h:(o.any λa=>(g1 a).any λb=>(g2 a b).any (f a b))=true):∃a b c,o=some a/\g1 a=some b/\g2 a b=some c/\f a b c=true:=by obtain⟨a,p0,h⟩:=anyT h;obtain⟨b,p1,h⟩:=anyT h;obtain⟨c,p2,h⟩:=anyT h;exact⟨a,b,c,p0,p1,p2,h⟩
theorem ay4{α β γ δ:Type}{o:Option α}{g1:α->Option β}{g2:α->β->Option γ}{g3:α->β->γ->Option δ}{f:α->β->γ->δ->Bool}(h:(o.any λa=>(g1 a).any λb=>(g2 a b).any λc=>(g3 a b c).any (f a b c))=true):∃a b c d,o=some a/\g1 a=some b/\g2 a b=some c/\g3 a b c=some d/\f a b c d=true:=by obtain⟨a,p0,h⟩:=anyT h;obtain⟨b,p1,h⟩:=anyT h;obtain⟨c,p2,h⟩:=anyT h;obtain⟨d,p3,h⟩:=anyT h;exact⟨a,b,c,d,p0,p1,p2,p3,h⟩
theorem ay5{α β γ δ ε:Type}{o:Option α}{g1:α->Option β}{g2:α->β->Option γ}{g3:α->β->γ->Option δ}{g4:α->β->γ->δ->Option ε}{f:α->β->γ->δ->ε->Bool}(h:(o.any λa=>(g1 a).any λb=>(g2 a b).any λc=>(g3 a b c).any λd=>(g4 a b c d).any (f a b c d))=true):∃a b c d e,o=some a/\g1 a=some b/\g2 a b=some c/\g3 a b c=some d/\g4 a b c d=some e/\f a b c d e=true:=by obtain⟨a,p0,h⟩:=anyT h;obtain⟨b,p1,h⟩:=anyT h;obtain⟨c,p2,h⟩:=anyT h;obtain⟨d,p3,h⟩:=anyT h;obtain⟨e,p4,h⟩:=anyT h;exact⟨a,b,c,d,e,p0,p1,p2,p3,p4,h⟩
def an2{a b:Bool}(h:(a&&b)=true):a=true/\b=true:=abY.mp h
section
variable{e:Expr}
def asInt_ok{k:Int}(h:mJ e=some k):∃j p,e=.Constant (.int k) j p:=by obtain⟨c,a,h⟩:=bnd h;obtain⟨j,p,rfl⟩:=iP a;cases c<;>cases h;exact⟨j,p,rfl⟩
def asStr_ok(h:Ay e=some k):∃j p,e=.Constant (.str k) j p:=by obtain⟨c,a,h⟩:=bnd h;obtain⟨j,p,rfl⟩:=iP a;cases c<;>cases h;exact⟨j,p,rfl⟩
def asBl_ok(h:De e=some k):∃j p,e=.Constant (.bool k) j p:=by obtain⟨c,a,h⟩:=bnd h;obtain⟨j,p,rfl⟩:=iP a;cases c<;>cases h;exact⟨j,p,rfl⟩
def vM(h:Az e=true):∃p,e=.Dict [] [] p:=by obtain⟨z,c,h⟩:=anyT h;obtain⟨p,rfl⟩:=vL c;obtain⟨b,a⟩:=an2 h;rw[abD]at b a;exact⟨p,by rw[b,a]⟩
def fu(h:isTup e=true):∃xs k p,e=.Tuple xs k p:=by obtain⟨z,a⟩:=abq.mp h;obtain⟨k,p,rfl⟩:=asTup_ok a;exact⟨z,k,p,rfl⟩
end
def an3(h:(a&&b&&c)=true):a=true/\b=true/\c=true:=⟨(an2 (an2 h).1).1,(an2 (an2 h).1).2,(an2 h).2⟩
def an4(h:(a&&b&&c&&d)=true):a=true/\b=true/\c=true/\d=true:=⟨(an3 (an2 h).1).1,(an3 (an2 h).1).2.1,(an3 (an2 h).1).2.2,(an2 h).2⟩
def an5(h:(a&&b&&c&&d&&e)=true):a=true/\b=true/\c=true/\d=true/\e=true:=⟨(an4 (an2 h).1).1,(an4 (an2 h).1).2.1,(an4 (an2 h).1).2.2.1,(an4 (an2 h).1).2.2.2,(an2 h).2⟩
def bj(h:(!a)=true):a=false:=by cases a<;>first|rfl|cases h
def mK{a:Type}:List a->Option (a×List a)|x::xs=>some (x,xs)|_=>none
def con1_ok{a:Type}{l:List a}{x:a×List a}(h:mK l=some x):l=x.1::x.2:=by cases l<;>cases h;rfl
structure Tb where
 fn:Nat->Option Str
 me:Nat->Option (Str×Str)
 mk':Nat->Option Str
 gc:Nat->Option Str
 nog:Str->Bool
 fld:Str->Str->Bool
structure Cy (t:Tb)(C:Ct)(X:Cx):Prop where
 calm:X.calm=true
 units:X.A.units+64<cLine
 guards:X.A.guards=some []
 hfn:∀j nm,t.fn j=some nm->∃k fa fd ps,FnD X.prog X.w X.K X.mg X.base k fa fd ps (spC (C.call j))/\Room k X.A/\X.mg nm=some (.ref fa)/\PySem.W.keepIn X.K (.ref fa)=true/\Binds X.K fd ps []
 hme:∀j c m,t.me j=some (c,m)->Cls X.K (aq X.K c)/\∃k fa fd ps,Meth X.K (aq X.K c) m fa/\FnD X.prog X.w X.K X.mg X.base k fa fd ps (spC (C.call j))/\Room k X.A/\Binds X.K fd ps []
 hmk:∀j c,t.mk' j=some c->∃k fa fd ps,Mk X.K (aq X.K c) fa/\FnD X.prog X.w X.K X.mg X.base k fa fd ps (spC (C.mak j))/\Room (k+1) X.A/\X.mg c=some (.ref (aq X.K c))/\Binds X.K fd ps []
 hgc:∀g nm,t.gc g=some nm->∃v u,X.mg nm=some u/\RelV v u/\∀S H,Fz X.K S H v (C.gv g)
 hng:∀x,t.nog x=true->X.mg x=none
 hfl:∀c f,t.fld c f=true->Cls X.K (aq X.K c)/\NoAttr X.K (aq X.K c) f
def Cy.comp(c:Cy t C X):Cy t C (ba X N sc q):=⟨c.calm,c.units,c.guards,c.hfn,c.hme,c.hmk,c.hgc,c.hng,c.hfl⟩
def sEq(x y:Str):Bool:=decide (x=y)
def bF(h:sEq x y=true):x=y:=Daa h
def kindB(sc:Scope)(x:Str)(k:NameKind):Bool:=decide (sc.names.lookup x=some k)
def aF(h:kindB sc x k=true):sc.names.lookup x=some k:=Daa h
def Dg(sc:Scope)(x:Str):Bool:=kindB sc x .local||kindB sc x .cell||kindB sc x .free
def y6(sc:Scope)(x:Str):Bool:=kindB sc x .local||kindB sc x .cell
def y7(h:Dg sc x=true):Vis sc x:=by
 unfold Dg at h;rw[abE,abE]at h;rcases h with (h|h)|h
 ·exact .inl (aF h)
 ·exact .inr (.inl (aF h))
 ·exact .inr (.inr (aF h))
def qi(h:y6 sc x=true):Loc sc x:=by
 unfold y6 at h;rw[abE]at h;rcases h with h|h
 ·exact .inl (aF h)
 ·exact .inr (aF h)
def okN(x:Str):Bool:=!(x==("__debug__":Str))&&!(x==("__classdict__":Str))
def vN(N:List Str)(sc:Scope)(i:Nat)(x:Str):Bool:=decide (N[i]?=some x)&&Dg sc x&&okN x
structure NmX (X:Cx)(i:Nat)(x:Str):Prop where
 n:X.N[i]?=some x
 v:Vis X.env.scope x
 d:(x==("__debug__":Str))=false
 c:(x==("__classdict__":Str))=false
def bT(h:vN X.N X.env.scope i x=true):NmX X i x:=by unfold vN okN at h;simp only[aaG,ab1]at h;exact⟨Daa h.1.1,y7 h.1.2,h.2.1,h.2.2⟩
def AA(N:List Str)(sc:Scope)(i:Nat)(e:Expr):Bool:=(bS e).any λx=>vN N sc i x
def iQ{N:List Str}(h:AA N sc i e=true):∃x p,e=.Name x p/\vN N sc i x=true:=by obtain⟨x,a,h⟩:=anyT h;obtain⟨p,rfl⟩:=asNm_ok a;exact⟨x,p,rfl,h⟩
def Ee(sc:Scope)(x:Str):Bool:=kindB sc x .globalImplicit&&!(x==("__debug__":Str))
def dP(h:Ee X.env.scope x=true):Gl X x/\(x==("__debug__":Str))=false:=by unfold Ee at h;rw[aaG]at h;exact⟨aF h.1,by simpa using h.2⟩
def vO(t:Tb)(sc:Scope)(x y:Str):Bool:=sEq x y&&Ee sc x&&t.nog x
def blB_ok(c:Cy t C X)(h:vO t X.env.scope x y=true):x=y/\Gl X y/\X.mg y=none:=by unfold vO at h;simp only[aaG]at h;obtain⟨⟨a,d⟩,b⟩:=h;have:=bF a;subst this;exact⟨rfl,(dP d).1,c.hng _ b⟩
def G3(o:Bo)(a:Operator):Bool:=decide (a=opOf o)
def oy(h:G3 o op=true):op=opOf o:=Daa h
def G4(o:Co)(a:CmpOp):Bool:=decide (a=coOf o)
def iR(h:G4 o op=true):op=coOf o:=Daa h
def isSet:Expr->Bool
 |.Set _ _ _=>true
 |_=>false
def dQ(a:CmpOp)(h:isSet e=false):behindInMarks a e=false:=by cases e<;>first|rfl|cases h
def eV(h:isSet e=false):∀x,foldedSetIterable e env x=pure x:=by cases e<;>first|(intro _;rfl)|cases h
def isCall:Expr->Bool
 |.Call _ _ _ _=>true
 |_=>false
def kT(h:isCall e=false):attributeBase e f env (eval e env)=eval e env:=by cases e<;>first|rfl|cases h
def Dh:UnaryOp->Bool|.USub=>true|_=>false
def qj{o:UnaryOp}(h:Dh o=true):o=.USub:=by cases o<;>first|rfl|cases h
def Jr(k:Int)(e:Expr):Bool:=((mJ e).any λj=>decide (j=k))||(vI e).any λz=>Dh z.1&&(mJ z.2).any λj=>decide (-j=k)
section
variable{X:Cx}{k:Int}{e:Expr}
def Gi{j:Nat}{p a:Pos}:PX X (.UnaryOp .USub (.Constant (.int k) j p) a) (λ_=>some (.int (-k))):=⟨_,Ag tI kf,λb H Q v e q=>by cases e;exact⟨k,rfl,q⟩⟩
theorem vP(h:Jr k e=true):PX X e (λ_=>some (.int k))/\bI e=false:=by
 rcases Bool.or_eq_true_iff.mp h with h|h
 ·obtain⟨j,a,h⟩:=anyT h;obtain⟨_,_,rfl⟩:=asInt_ok a;have:=Daa h;subst this;exact⟨F2,rfl⟩
 ·obtain⟨z,a,h⟩:=anyT h;obtain⟨p,rfl⟩:=qe a;obtain⟨j,d,b⟩:=anyT (an2 h).2;obtain⟨_,_,c⟩:=asInt_ok d;have:=Daa b;subst this;rw[qj (an2 h).1,c];exact⟨Gi,rfl⟩
end
noncomputable def cI(t:Tb)(N:List Str)(sc:Scope)(i:Nat):List Acc->Expr->Bool
 |[]=>λe=>AA N sc i e
 |.fld c f::ps=>λe=>(gK e).any λz=>sEq z.2.1 f&&t.fld c f&&!isCall z.1&&cI t N sc i ps z.1
 |.ix k::ps=>λe=>(eK e).any λz=>Jr k z.2&&cI t N sc i ps z.1
 |.key j::ps=>λe=>(eK e).any λz=>AA N sc j z.2&&cI t N sc i ps z.1
section
variable{t:Tb}{C:Ct}{X:Cx}{i j:Nat}{e:Expr}
def vQ(h:AA X.N X.env.scope j e=true):PX X e (λσ=>σ[j]?.join)/\bI e=false:=by obtain⟨x,p,rfl,h⟩:=iQ h;obtain⟨a,c,b,d⟩:=bT h;exact⟨Iu a c b d,rfl⟩
def IL(h:bI e=false):NoSl e:=by cases e<;>first|exact λ_ _=>rfl|cases h
theorem aZ(c:Cy t C X):∀(ps:List Acc) (e:Expr),cI t X.N X.env.scope i ps e=true->PDp X e i ps
 |[],e,h=>by obtain⟨x,p,rfl,h⟩:=iQ h;obtain⟨a,n,l,o⟩:=bT h;exact Iw a n l o
 |.fld cn f::ps,e,h=>by obtain⟨z,a,k⟩:=anyT h;obtain⟨b,d,g,m⟩:=an4 k;rw[asAtt_ok a,bF b];exact F4 (kT (bj g)) (c.hfl _ _ d).1 (c.hfl _ _ d).2 (aZ c ps _ m)
 |.ix k::ps,e,h=>by obtain⟨z,a,k⟩:=anyT h;obtain⟨b,d⟩:=an2 k;obtain⟨p,rfl⟩:=cp a;exact Iy (kM (vP (X:=X) b).2) (aZ c ps _ d) (vP b).1
 |.key j::ps,e,h=>by obtain⟨z,a,k⟩:=anyT h;obtain⟨b,d⟩:=an2 k;obtain⟨p,rfl⟩:=cp a;exact F6 (by have:=c.units;omega) (IL (vQ b).2) (aZ c ps _ d) (vQ b).1
end
def jx(a:Nat->Bool)(N:List Str)(sc:Scope)(fn:Bool)(m i:Nat)(x:Str):Bool:=decide (N[i]?=some x)&&y6 sc x&&(fn||kindB sc x .local)&&decide (i<m)&&a i
def qk(a:Nat->Bool)(N:List Str)(sc:Scope)(fn:Bool)(m:Nat):List Nat->List Expr->Bool
 |[]=>λes=>es.isEmpty
 |i::is=>λes=>(mK es).any λz=>(bS z.1).any λx=>jx a N sc fn m i x&&qk a N sc fn m is z.2
def jy(a:Nat->Bool)(N:List Str)(sc:Scope)(fn:Bool)(m:Nat):Tg->Expr->Bool
 |.nm i=>λe=>(bS e).any λx=>jx a N sc fn m i x
 |.tp ts=>λe=>(cm e).any λes=>qk a N sc fn m ts es
 |.tn i ts=>λe=>(cm e).any λes=>(iG es).any λw=>(bS w.1).any λx=>(cm w.2).any λes=>jx a N sc fn m i x&&qk a N sc fn m ts es
section
variable{X:Cx}{W:Nat->Prop}{ok:Nat->Bool}{fn:Bool}{m:Nat}
def cE{i:Nat}{x:Str}(b:fn=true->∀x,X.fn x=true)(d:∀i,ok i=true->¬ W i)(h:jx ok X.N X.env.scope fn m i x=true):Sto X W m i x:=by unfold jx at h;simp only[aaG,abE]at h;obtain⟨⟨⟨⟨a,f⟩,c⟩,e⟩,g⟩:=h;exact⟨Daa a,qi f,c.imp (λz=>b z x) aF,Daa e,d i g⟩
theorem iS(a:fn=true->∀x,X.fn x=true)(c:∀i,ok i=true->¬ W i):∀(b:List Nat) (es:List Expr),qk ok X.N X.env.scope fn m b es=true->Stos X W m b es
 |[],es,h=>by
  cases es with
  |nil=>exact .nil
  |cons _ _=>cases h
 |i::is,es,h=>by obtain⟨z,x,d,f,k⟩:=ay2 h;obtain⟨p,e⟩:=asNm_ok f;rw[con1_ok d,e];exact .cons (cE a c (an2 k).1) (iS a c is _ (an2 k).2)
theorem cF{tg:Tg}{e:Expr}(f:X.calm=true)(d:X.N.Nodup)(c:fn=true->∀x,X.fn x=true)(b:∀i,ok i=true->¬ W i)(h:jy ok X.N X.env.scope fn m tg e=true):PDg X W m e (cW tg):=by
 cases tg with
 |nm i=>obtain⟨x,a,k⟩:=anyT h;obtain⟨p,rfl⟩:=asNm_ok a;exact FR d (cE c b k)
 |tp o=>obtain⟨l,a,k⟩:=anyT h;obtain⟨_,_,rfl⟩:=asTup_ok a;exact FS f d (iS c b _ _ k)
 |tn i o=>obtain⟨l,w,x,s,a,q,j,n,k⟩:=ay4 h;obtain⟨_,_,rfl⟩:=asTup_ok a;obtain⟨_,g⟩:=asNm_ok j;obtain⟨_,_,r⟩:=asTup_ok n;rw[two2_ok q,g,r];exact Im f d (cE c b (an2 k).1) (iS c b _ _ (an2 k).2)
end
def eI(sc a:Scope):Scope:={ sc with names:=sc.names.map λ(n,k)=>if (k==NameKind.free&&a.kind==.function&&a.names.lookup n==some .cell) then (n,NameKind.cell) else (n,k) }
def mL:Expr->List Str
 |.Name x _=>[x]
 |.Tuple [.Name x _,.Tuple es _ _] _ _=>x::es.filterMap fun|.Name x _=>some x|_=>none
 |.Tuple es _ _=>es.filterMap fun|.Name x _=>some x|_=>none
 |_=>[]
def vR(N:List Str)(nt:Nat)(b:List Str)(sc a:Scope):Nat->List Nat->Bool
 |_,[]=>true
 |i,j::fr=>(match N[nt+i]? with
  |some x=>decide (b[j]?=some x)&&kindB a x .cell&&kindB sc x .free
  |none=>false)&&vR N nt b sc a (i+1) fr
def compB(N:List Str)(nt:Nat)(fr:List Nat)(b:List Str)(sc a:Scope):Bool:=
 decide (sc.kind=.function)&&sc.names.all (λx=>!decide (x.2=.cell))&&sc.names.all (λx=>!decide (x.2=.local)||kindB sc x.1 .local)&&decide (N.length=nt+fr.length)&&vR N nt b sc a 0 fr &&
  sc.names.all (λx=>!decide (x.2=.free)||(kindB a x.1 .cell&&kindB sc x.1 .free))
theorem qm:∀{fr:List Nat}{a:Nat},vR N nt ON sc osc a fr=true->∀(i j:Nat),fr[i]?=some j->∃x,N[nt+(a+i)]?=some x/\ON[j]?=some x/\osc.names.lookup x=some .cell/\sc.names.lookup x=some .free
 |[],_,_,i,j,e=>by simp at e
 |j0::fr,a,h,0,j,e=>by
  simp at e;subst e;simp only[vR,aaG]at h;obtain⟨h,_⟩:=h;split at h
  ·rename_i x c;simp only[aaG]at h;exact⟨x,c,Daa h.1.1,aF h.1.2,aF h.2⟩
  ·cases h
 |j0::fr,a,h,i+1,j,e=>by simp only[vR,aaG]at h;obtain⟨x,b,d⟩:=qm h.2 i j (by simpa using e);exact⟨x,by rw[show a+(i+1)=a+1+i by omega];exact b,d⟩
theorem cQ(h:compB N nt fr ON sc osc=true):CompScope N nt fr ON sc osc:=by
 unfold compB at h;simp only[aaG,abm,abE,ab1,decide_eq_false_iff_not,decide_eq_true_eq]at h;obtain⟨⟨⟨⟨⟨c,d⟩,f⟩,g⟩,k⟩,b⟩:=h;refine⟨c,λx a=>d x a,λx a e=>?_,g,λi j e=>?_,λx a e=>?_,λx a e=>?_⟩
 ·exact(f x a).elim (λz=>absurd e z) aF
 ·have:=qm k i j e;rwa [aaT]at this
 ·exact(b x a).elim (λz=>absurd e z) λz=>aF z.1
 ·exact(b x a).elim (λz=>absurd e z) λz=>aF z.2
end
section
abbrev Ck:=List Str->Scope->Expr->Bool
def fv(f:Ck):Ck×Ck:=(f,λN a e=>plainT e&&f N a e)
def JT:Bn->Str
 |.list=>"list" |.tuple=>"tuple" |.sorted=>"sorted"
def JU:Knd->Str
 |.int=>"int" |.bool=>"bool" |.str=>"str" |.list=>"list" |.tuple=>"tuple" |.seq=>"list"
def y8(e:Expr):Option (Str×List Expr):=(gi e).bind λz=>(bS z.1).bind λx=>if z.2.2.1.isEmpty then some (x,z.2.1) else none
def kU{z}(h:y8 e=some z):∃p a,e=.Call (.Name z.1 p) z.2 [] a:=by
 obtain⟨c,x,b,g,h⟩:=bn2 h;obtain⟨f,i,d,a⟩:=c;cases d with
 |cons _ _=>cases h
 |nil=>cases h;obtain⟨p,rfl⟩:=asNm_ok g;exact⟨p,a,gj b⟩
def Di(e:Expr):Option (Expr×CmpOp×Expr):=(mH e).bind λz=>(eT z.2.1).bind λo=>(eT z.2.2).bind λy=>some (z.1,o,y)
def kW{z}(h:Di e=some z):∃p,e=.Compare z.1 [z.2.1] [z.2.2] p:=by obtain⟨c,o,y,d,f,g,h⟩:=bn3 h;cases h;obtain⟨x,j,i⟩:=c;obtain⟨p,rfl⟩:=asCmp_ok d;have b:=one1_ok f;have a:=one1_ok g;simp only at b a;subst b a;exact⟨p,rfl⟩
def cmp2(e:Expr):Option (Expr×(CmpOp×CmpOp)×(Expr×Expr)):=(mH e).bind λz=>(iG z.2.1).bind λo=>(iG z.2.2).bind λy=>some (z.1,o,y)
def qo{z}(h:cmp2 e=some z):∃p,e=.Compare z.1 [z.2.1.1,z.2.1.2] [z.2.2.1,z.2.2.2] p:=by obtain⟨c,o,y,d,f,g,h⟩:=bn3 h;cases h;obtain⟨x,j,i⟩:=c;obtain⟨p,rfl⟩:=asCmp_ok d;have b:=two2_ok f;have a:=two2_ok g;simp only at b a;subst b a;exact⟨p,rfl⟩
def Gj(a:Bool):CmpOp->Bool
 |.Is=>!a|.IsNot=>a|_=>false
def qp(h:Gj neg o=true):o=if neg then .IsNot else .Is:=by cases o<;>cases neg<;>first|rfl|cases h
def Dj:BoolOp->Bool|.And=>true|_=>false
def qq(h:Dj o=true):o=.And:=by cases o<;>first|rfl|cases h
def IM:BoolOp->Bool|.Or=>true|_=>false
def vS(h:IM o=true):o=.Or:=by cases o<;>first|rfl|cases h
def Dk:UnaryOp->Bool|.Not=>true|_=>false
def qr(h:Dk o=true):o=.Not:=by cases o<;>first|rfl|cases h
def Gk:Operator->Bool|.Add=>true|_=>false
def y9(h:Gk o=true):o=.Add:=by cases o<;>first|rfl|cases h
def AB(e:Expr):Option (Expr×Option Expr×Option Expr):=(eK e).bind λz=>(qg z.2).bind λs=>if s.2.2.isNone then some (z.1,s.1,s.2.1) else none
theorem vT{z}(h:AB e=some z):∃p a,e=.Subscript z.1 (.Slice z.2.1 z.2.2 none p) a:=by
 obtain⟨c,s,d,g,h⟩:=bn2 h;obtain⟨x,y⟩:=c;obtain⟨l,i,f⟩:=s;cases f with
 |some _=>cases h
 |none=>cases h;obtain⟨a,rfl⟩:=cp d;obtain⟨p,b⟩:=vK g;simp only at b;subst b;exact⟨p,a,rfl⟩
noncomputable def Dm(e:Expr):Option (Str×Str×List Expr×Pos×Pos):=(gi e).bind λz=>(gK z.1).bind λa=>(bS a.1).bind λx=>if z.2.2.1.isEmpty then some (x,a.2.1,z.2.1,a.2.2,z.2.2.2) else none
theorem qt{z}(h:Dm e=some z):∃p,e=.Call (.Attribute (.Name z.1 p) z.2.1 z.2.2.2.1) z.2.2.1 [] z.2.2.2.2:=by
 obtain⟨c,a,x,g,j,k,h⟩:=bn3 h;obtain⟨f,n,i,q⟩:=c;obtain⟨o,m,l⟩:=a;cases i with
 |cons _ _=>cases h
 |nil=>cases h;obtain⟨p,b⟩:=asNm_ok k;have d:=asAtt_ok j;simp only at d b;subst b;subst d;exact⟨p,gj g⟩
def zd(e:PySem.Expr):Option (Expr×Expr×List Comprehension×Scope×Pos):=if h:e.ctorIdx=10 then some (@PySem.Expr.DictComp.elim (λ_=>Expr×Expr×List Comprehension×Scope×Pos) e h λk x a s p=>(k,x,a,s,p)) else none
theorem ze(h:zd e=some z):e=.DictComp z.1 z.2.1 z.2.2.1 z.2.2.2.1 z.2.2.2.2:=by
 by_cases a:e.ctorIdx=10
 ·revert h;exact@PySem.Expr.DictComp.elim (λe=>zd e=some z->e=.DictComp z.1 z.2.1 z.2.2.1 z.2.2.2.1 z.2.2.2.2) e a λk x b s p h=>by cases h;exact rfl
 ·rw[zd,dif_neg a]at h;cases h
noncomputable def vU(e:Expr):Option (Expr×Expr×Expr×Expr×List Expr×Scope×Pos):=(zd e).bind λz=>(eT z.2.2.1).bind λg=>if g.is_async=0 then some (z.1,z.2.1,g.target,g.iter,g.ifs,z.2.2.2.1,z.2.2.2.2) else none
theorem mM{z}(h:vU e=some z):e=.DictComp z.1 z.2.1 [⟨z.2.2.1,z.2.2.2.1,z.2.2.2.2.1,0⟩] z.2.2.2.2.2.1 z.2.2.2.2.2.2:=by
 obtain⟨c,g,d,f,h⟩:=bn2 h;obtain⟨k,x,l,o,p⟩:=c;obtain⟨m,j,n,i⟩:=g;simp only at h;by_cases a:i=0
 ·subst a;rw[if_pos rfl]at h;cases h;have b:=one1_ok f;simp only at b;rw[ze d,b]
 ·rw[if_neg a]at h;cases h
noncomputable def vV(e:Expr):Option (Expr×Expr×Expr×List Expr×Scope×Pos):=(mI e).bind λz=>(eT z.2.1).bind λg=>if g.is_async=0 then some (z.1,g.target,g.iter,g.ifs,z.2.2.1,z.2.2.2) else none
theorem iT{z}(h:vV e=some z):e=.ListComp z.1 [⟨z.2.1,z.2.2.1,z.2.2.2.1,0⟩] z.2.2.2.2.1 z.2.2.2.2.2:=by
 obtain⟨c,g,d,f,h⟩:=bn2 h;obtain⟨x,k,n,p⟩:=c;obtain⟨l,j,m,i⟩:=g;simp only at h;by_cases a:i=0
 ·subst a;rw[if_pos rfl]at h;cases h;have b:=one1_ok f;simp only at b;subst b;exact kS d
 ·rw[if_neg a]at h;cases h
noncomputable def AC(e:Expr):Option (Expr×(Expr×Expr)×(Expr×Expr)×Scope×Pos):=(mI e).bind λz=>(iG z.2.1).bind λg=>if g.1.is_async=0/\g.2.is_async=0/\g.1.ifs.isEmpty=true/\g.2.ifs.isEmpty=true then some (z.1,(g.1.target,g.1.iter),(g.2.target,g.2.iter),z.2.2.1,z.2.2.2) else none
theorem vW{e:Expr}{z}(h:AC e=some z):e=.ListComp z.1 [⟨z.2.1.1,z.2.1.2,[],0⟩,⟨z.2.2.1.1,z.2.2.1.2,[],0⟩] z.2.2.2.1 z.2.2.2.2:=by
 obtain⟨c,g,m,k,h⟩:=bn2 h;obtain⟨x,r,o,p⟩:=c;obtain⟨⟨u,t,s,q⟩,b,l,f,i⟩:=g;simp only at h;split at h
 ·rename_i n;obtain⟨rfl,rfl,j,d⟩:=n;cases abD.mp j;cases abD.mp d;cases h;have a:=two2_ok k;simp only at a;subst a;exact kS m
 ·cases h
end
section
section
variable(t:Tb)
def iU(o:Co)(f g:Ck):Ck:=λN a e=>(Di e).any λz=>G4 o z.2.1&&!isSet z.2.2&&f N a z.1&&g N a z.2.2
def vX(o b:Co)(f g k:Ck):Ck:=λN a e=>(cmp2 e).any λz=>G4 o z.2.1.1&&G4 b z.2.1.2&&!isSet z.2.2.2&&(f N a z.1&&g N a z.2.2.1&&k N a z.2.2.2)
def vY(b:BoolOp->Bool)(f g:Ck):Ck:=λN a e=>(yY e).any λz=>b z.1&&((mK z.2.1).any λx=>(mK x.2).any λy=>f N a x.1&&bif y.2.isEmpty then g N a y.1 else g N a (.BoolOp z.1 x.2 z.2.2))
def zf(b:UnaryOp->Bool)(f:Ck):Ck:=λN a e=>(vI e).any λz=>b z.1&&f N a z.2
def vZ(b:Operator->Bool)(f g:Ck):Ck:=λN a e=>(qc e).any λz=>b z.2.1&&f N a z.1&&g N a z.2.2
def kX(p:Str->Bool)(f:List Str->Scope->List Expr->Bool):Ck:=λN a e=>(y8 e).any λz=>p z.1&&Ee a z.1&&!z.2.isEmpty&&!z.2.any isStar&&f N a z.2
def cv(p:Str)(f:Ck):Ck:=λN a e=>(y8 e).any λz=>(eT z.2).any λx=>vO t a z.1 p&&!isStar x&&f N a x
def oz(p:Str)(f g:Ck):Ck:=λN a e=>(y8 e).any λz=>(iG z.2).any λx=>vO t a z.1 p&&!isStar x.1&&!isStar x.2&&f N a x.1&&g N a x.2
def Gm(k:Knd):Ck:=λN a e=>match k with
 |.seq=>(cm e).any λz=>(iG z).any λw=>((bS w.1).any λu=>vO t a u "list")&&(bS w.2).any λv=>vO t a v "tuple"
 |k=>(bS e).any λu=>vO t a u (JU k)
def AD(a k:Bool)(f:Ck):Ck:=λN b e=>(Di e).any λz=>Gj a z.2.1&&f N b z.1&&(De z.2.2).any λj=>decide (j=k)
mutual
noncomputable def aO:E->Ck×Ck
 |.nm i=>fv λN sc e=>AA N sc i e
 |.int k=>fv λN sc e=>(mJ e).any λj=>decide (j=k)
 |.str k=>fv λN sc e=>(Ay e).any λj=>sEq j k
 |.bl k=>fv λN sc e=>(De e).any λj=>decide (j=k)
 |.gc g=>fv λN sc e=>(bS e).any λx=>decide (t.gc g=some x)&&Ee sc x
 |.bop o a b=>fv (vZ (G3 o) (aO a).1 (aO b).1)
 |.catV a b=>fv (vZ Gk (aO a).1 (aO b).1)
 |.cmp o a b=>(iU o (aO a).1 (aO b).1,iU o (aO a).1 (aO b).1)
 |.cmp2 o o' a b c=>(vX o o' (aO a).1 (aO b).1 (aO c).1,vX o o' (aO a).1 (aO b).1 (aO c).1)
 |.isb neg k a=>(AD neg k (aO a).1,AD neg k (aO a).1)
 |.and a b=>(vY Dj (aO a).1 (aO b).1,vY Dj (aO a).2 (aO b).2)
 |.or a b=>(vY IM (aO a).1 (aO b).1,vY IM (aO a).2 (aO b).2)
 |.not a=>(zf Dk (aO a).1,zf Dk (aO a).2)
 |.neg a=>fv (zf Dh (aO a).1)
 |.ife c a b=>fv λN sc e=>(y0 e).any λz=>(aO c).2 N sc z.1&&(aO a).1 N sc z.2.1&&(aO b).1 N sc z.2.2
 |.tup es=>fv λN sc e=>(cm e).any λxs=>gY es N sc xs
 |.lst es=>fv λN sc e=>(qf e).any λxs=>gY es N sc xs
 |.ix a b=>fv λN sc e=>(eK e).any λz=>!bI z.2&&(aO a).1 N sc z.1&&(aO b).1 N sc z.2
 |.sll a lo hi=>fv λN sc e=>(AB e).any λz=>(aO a).1 N sc z.1&&Dn lo N sc z.2.1&&Dn hi N sc z.2.2
 |.call f es=>fv (kX (λx=>decide (t.fn f=some x)) (gY es))
 |.blt f es=>fv (kX (λx=>sEq x (CU f)&&t.nog x) (gY es))
 |.bnw f a=>fv (cv t (JT f) (aO a).1)
 |.isi k a=>fv (oz t "isinstance" (aO a).1 (Gm t k))
 |.lset a=>fv (cv t "len" (cv t "set" (aO a).1))
 |.sst a=>fv (cv t "sorted" (cv t "set" (aO a).1))
 |.idl i b=>fv λN sc e=>(Dm e).any λz=>(eT z.2.2.1).any λy=>sEq z.2.1 "index" && vN N sc i z.1&&(z.2.2.2.1.endLine==z.2.2.2.2.line)&&!isStar y&&(aO b).1 N sc y
 |.lrg a=>fv (cv t "list" (cv t "range" (aO a).1))
 |.dnew=>fv λN sc e=>Az e
 |.pg i ps=>fv λN sc e=>cI t N sc i ps e
 |.pf i ps=>fv λN sc e=>cI t N sc i ps e
 |.pl i ps=>fv (cv t "len" λN sc e=>cI t N sc i ps e)
 |.pt i ps=>(λ_ _ _=>false,λN sc e=>plainT e&&cI t N sc i ps e)
 |.pin neg a i ps=>(iU (if neg then .nin else .inn) (aO a).1 λN sc e=>cI t N sc i ps e,iU (if neg then .nin else .inn) (aO a).1 λN sc e=>cI t N sc i ps e)
 |.din neg a i ps=>(iU (if neg then .nin else .inn) (aO a).1 λN sc e=>cI t N sc i ps e,iU (if neg then .nin else .inn) (aO a).1 λN sc e=>cI t N sc i ps e)
 |.comp nt fr it tg ifs elt=>fv λN sc e=>(vV e).any λz=>(λd=>compB d nt fr N z.2.2.2.2.1 sc&&decide d.Nodup&&!isSet z.2.2.1&&oA it N sc z.2.1 z.2.2.1&&(jy (λ_=>true) d (eI z.2.2.2.2.1 sc) false nt tg z.2.1&&Do ifs d (eI z.2.2.2.2.1 sc) z.2.2.2.1&&(aO elt).1 d (eI z.2.2.2.2.1 sc) z.1)) (mL z.2.1++fr.filterMap λj=>N[j]?)
 |.compB i nt fr tg ifs elt=>fv λN sc e=>(vV e).any λz=>(λd=>compB d nt fr N z.2.2.2.2.1 sc&&decide d.Nodup&&AA N sc i z.2.2.1&&(jy (λ_=>true) d (eI z.2.2.2.2.1 sc) false nt tg z.2.1&&Do ifs d (eI z.2.2.2.2.1 sc) z.2.2.2.1&&(aO elt).1 d (eI z.2.2.2.2.1 sc) z.1)) (mL z.2.1++fr.filterMap λj=>N[j]?)
 |.meth c m f i es=>fv λN sc e=>(Dm e).any λz=>decide (t.me f=some (c,m))&&sEq z.2.1 m&&vN N sc i z.1&&!z.2.2.1.any isStar&&(decide (z.2.2.1.length<30)&&(z.2.2.2.1.endLine==z.2.2.2.2.line)&&gY es N sc z.2.2.1)
 |.make c f es=>fv (kX (λx=>decide (t.mk' f=some c)&&sEq x c) (gY es))
noncomputable def gY:Es->List Str->Scope->List Expr->Bool
 |.nil=>λN sc xs=>xs.isEmpty
 |.cons a es=>λN sc xs=>(mK xs).any λz=>!isStar z.1&&(aO a).1 N sc z.1&&gY es N sc z.2
noncomputable def Dn:Eo->List Str->Scope->Option Expr->Bool
 |.none=>λN sc o=>o.isNone
 |.some a=>λN sc o=>o.any λx=>(aO a).1 N sc x
noncomputable def Do:Eo->List Str->Scope->List Expr->Bool
 |.none=>λN sc o=>o.isEmpty
 |.some a=>λN sc o=>(eT o).any λx=>(aO a).2 N sc x
noncomputable def oA:It'->List Str->Scope->Expr->Expr->Bool
 |.seq a=>λN sc g e=>(aO a).1 N sc e
 |.rg1 a=>λN sc g e=>cv t "range" (aO a).1 N sc e
 |.enm a=>λN sc g e=>isTup g&&cv t "enumerate" (aO a).1 N sc e
 |.zip a b=>λN sc g e=>isTup g&&oz t "zip" (aO a).1 (aO b).1 N sc e
end
end
def zg:Expr->Bool
 |.BoolOp _ _ _=>true
 |_=>false
structure EOk (t:Tb)(C:Ct)(m:E):Prop where
 v:∀X e,Cy t C X->(aO t m).1 X.N X.env.scope e=true->PDe X e (aB C m)
 w:∀X e,Cy t C X->zg e=true->(aO t m).2 X.N X.env.scope e=true->PDw X e (g9 C m)
 t:∀X e,Cy t C X->(aO t m).2 X.N X.env.scope e=true->PDt X e (g9 C m)
section
variable{t:Tb}{C:Ct}{X:Cx}{e:Expr}
def kY(h:zg e=true):∃o xs p,e=.BoolOp o xs p:=by cases e<;>first|exact⟨_,_,_,rfl⟩|cases h
theorem aD(b:(aO t m).2=λN sc e=>plainT e&&(aO t m).1 N sc e)(d:aY C m=(vt (ev C m)).2)(a:∀X e,Cy t C X->(aO t m).1 X.N X.env.scope e=true->PDe X e (aB C m)):EOk t C m:=
 ⟨a,λX e c f h=>by
  rw[b]at h;obtain⟨o,g,p,rfl⟩:=kY f;exact absurd h aak,
  λX e c h=>by
  rw[b]at h;exact FL d (an2 h).1 (a X e c (an2 h).2)⟩
theorem gm(f:∀(X:Cx) e,zg e=true->(aO t m).2 X.N X.env.scope e=false)(a:∀X e,Cy t C X->(aO t m).1 X.N X.env.scope e=true->PDe X e (aB C m))(b:∀X e,Cy t C X->(aO t m).2 X.N X.env.scope e=true->PDt X e (g9 C m)):EOk t C m:=
 ⟨a,λX e c d h=>absurd h (by rw[f X e d];exact aak),b⟩
def sL{f:Ck}(a:zg e=true)(h:∀o xs p,f N sc (.BoolOp o xs p)=false):f N sc e=false:=by obtain⟨o,xs,p,rfl⟩:=kY a;exact h o xs p
def ckBin_ok(h:vZ b f g N sc e=true):∃x o y p,e=.BinOp x o y p/\b o=true/\f N sc x=true/\g N sc y=true:=by obtain⟨z,a,h⟩:=anyT h;obtain⟨p,rfl⟩:=vH a;exact⟨_,_,_,p,rfl,an3 h⟩
def ckUn_ok(h:zf b f N sc e=true):∃o x p,e=.UnaryOp o x p/\b o=true/\f N sc x=true:=by obtain⟨z,a,h⟩:=anyT h;obtain⟨p,rfl⟩:=qe a;exact⟨_,_,p,rfl,an2 h⟩
def cR(h:iU o f g N sc e=true):∃x y p,e=.Compare x [coOf o] [y] p/\isSet y=false/\f N sc x=true/\g N sc y=true:=by obtain⟨z,a,h⟩:=anyT h;obtain⟨p,rfl⟩:=kW a;obtain⟨a,c,b,d⟩:=an4 h;exact⟨_,_,p,by rw[iR a],bj c,b,d⟩
theorem gn(h:kX p f N sc e=true):∃x z zs q b,e=.Call (.Name x q) (z::zs) [] b/\p x=true/\Ee sc x=true/\isStar z=false/\zs.any isStar=false/\f N sc (z::zs)=true:=by
 obtain⟨z,a,h⟩:=anyT h;obtain⟨q,b,rfl⟩:=kU a;obtain⟨a,c,d,j,k⟩:=an5 h;obtain⟨x,i⟩:=z;cases i with
 |nil=>cases d
 |cons y g=>have:=bj j;rw[aaV,abZ]at this;exact⟨x,y,g,q,b,rfl,a,c,this.1,this.2,k⟩
theorem bb(h:cv t p f N sc e=true):∃x z q b,e=.Call (.Name x q) [z] [] b/\vO t sc x p=true/\isStar z=false/\f N sc z=true:=by obtain⟨z,w,a,c,h⟩:=ay2 h;obtain⟨q,b,rfl⟩:=kU a;obtain⟨x,g⟩:=z;have:=one1_ok c;simp only at this;subst this;obtain⟨a,c,d⟩:=an3 h;exact⟨x,w,q,b,rfl,a,bj c,d⟩
theorem jV(h:oz t p f g N sc e=true):∃x z w q b,e=.Call (.Name x q) [z,w] [] b/\vO t sc x p=true/\isStar z=false/\isStar w=false/\f N sc z=true/\g N sc w=true:=by obtain⟨z,w,a,c,h⟩:=ay2 h;obtain⟨q,b,rfl⟩:=kU a;obtain⟨x,k⟩:=z;have:=two2_ok c;simp only at this;subst this;obtain⟨a,c,d,i,j⟩:=an5 h;exact⟨x,_,_,q,b,rfl,a,bj c,bj d,i,j⟩
theorem ckBo_ok(h:vY b f g N sc e=true):∃o x y es p,e=.BoolOp o (x::y::es) p/\b o=true/\f N sc x=true/\((es=[]/\g N sc y=true)\/g N sc (.BoolOp o (y::es) p)=true):=by
 obtain⟨z,k,h⟩:=anyT h;have:=yZ k;subst this;obtain⟨c,h⟩:=an2 h;obtain⟨x,y,m,n,h⟩:=ay2 h;obtain⟨j,h⟩:=an2 h;obtain⟨o,q,p⟩:=z;obtain⟨x,l⟩:=x;obtain⟨y,es⟩:=y;have i:=con1_ok m;have d:=con1_ok n;simp only at i d;subst d;subst i;cases es with
 |nil=>exact⟨o,x,y,[],p,rfl,c,j,.inl ⟨rfl,h⟩⟩
 |cons a es=>exact⟨o,x,y,a::es,p,rfl,c,j,.inr h⟩
theorem t_cmp2(p:X.A.units+64<cLine)(M:lastMarks [coOf o,coOf o'] [b,c]=false)(U:PDe X a (aB C ma))(T:PDe X b (aB C mb))(N:PDe X c (aB C mc)):PDt X (.Compare a [coOf o,coOf o'] [b,c] pos) (g9 C (.cmp2 o o' ma mb mc)):=by
 obtain⟨Y,W,S⟩:=iJ p o;obtain⟨P,i,g⟩:=iJ p o';refine(sd W S i g M U T N).imp λy Q O=>?_;obtain⟨x,h,B,f,q⟩:=kO rfl (λy x h=>by
  obtain⟨n,w,H,D,k,L,z,l,F,J,h⟩:=bn5 h;cases k with
  |false=>rw[if_neg aak]at h;cases h;exact⟨_,rfl⟩
  |true=>
   rw[if_pos rfl]at h;obtain⟨s,d,I,v,m,u,j,r,h⟩:=bn4 h;cases h;exact⟨_,rfl⟩) y Q O
 obtain⟨n,w,H,D,k,L,z,l,F,J,h⟩:=bn5 h;refine⟨n,L,w,z,H,D,l,F,k,J,k,rfl,?_⟩;cases k with
 |false=>rw[if_neg aak]at h;cases h;rw[if_neg aak];exact⟨B,f,q⟩
 |true=>rw[if_pos rfl]at h ⊢;obtain⟨s,d,I,v,m,u,j,r,h⟩:=bn4 h;cases h;exact⟨s,m,d,I,u,j,v,r,B,f,q⟩
def oB(d:Gl X x) (b:X.mg x=none) (a:bootBuiltins x=some (.type T)) (f:x≠"__name__") (c:(x==("__debug__":Str))=false):PE X (.Name x p) (tC (.ty T)):=xK d b a rfl f c
theorem Dp(c:Cy t C X) (L:vO t X.env.scope x "isinstance"=true) (j:isStar z=false) (f:Gm t k X.N X.env.scope w=true) (l:PDe X z (aB C ma)):PDe X (.Call (.Name x q) [z,w] [] q') (aB C (.isi k ma)):=by
 obtain⟨H,g,i⟩:=blB_ok c L;subst H;have d:∀{T:Str},((bS w).any λu=>vO t X.env.scope u T)=true->∃p,w=.Name T p/\Gl X T/\X.mg T=none:=λ{T} h=>by obtain⟨u,o,n⟩:=anyT h;obtain⟨p,rfl⟩:=asNm_ok o;obtain⟨m,a,b⟩:=blB_ok c n;subst m;exact⟨p,rfl,a,b⟩
 cases k with
 |int=>obtain⟨p,rfl,a,b⟩:=d f;exact iL rfl (oB a b um (by decide) (by decide)) g i j rfl l
 |bool=>obtain⟨p,rfl,a,b⟩:=d f;exact iL rfl (oB a b yg (by decide) (by decide)) g i j rfl l
 |str=>obtain⟨p,rfl,a,b⟩:=d f;exact iL rfl (oB a b B4 (by decide) (by decide)) g i j rfl l
 |list=>obtain⟨p,rfl,a,b⟩:=d f;exact iL rfl (oB a b g8 (by decide) (by decide)) g i j rfl l
 |tuple=>obtain⟨p,rfl,a,b⟩:=d f;exact iL rfl (oB a b ij (by decide) (by decide)) g i j rfl l
 |seq=>obtain⟨Q,y,o,n,f⟩:=ay2 f;obtain⟨M,F⟩:=an2 f;obtain⟨u,B,A⟩:=anyT M;obtain⟨v,J,I⟩:=anyT F;obtain⟨Y,S,rfl⟩:=asTup_ok o;have:=two2_ok n;subst this;obtain⟨w1,Z⟩:=y;obtain⟨W,s⟩:=asNm_ok B;obtain⟨U,r⟩:=asNm_ok J;simp only at s r;subst s r;obtain⟨m,a,b⟩:=blB_ok c A;obtain⟨P,D,O⟩:=blB_ok c I;subst m P;exact CW (oB a b g8 (by decide) (by decide)) (oB D O ij (by decide) (by decide)) g i j rfl rfl l
mutual
theorem a9:∀m:E,EOk t C m
 |.nm i=>aD rfl rfl λX e c h=>by obtain⟨x,p,rfl,h⟩:=iQ h;obtain⟨n,A,s,B⟩:=bT h;exact FD n A s B
 |.int k=>aD rfl rfl λX e c h=>by obtain⟨j,n,h⟩:=anyT h;obtain⟨_,_,rfl⟩:=asInt_ok n;have:=Daa h;subst this;exact FE
 |.str k=>aD rfl rfl λX e c h=>by obtain⟨j,n,h⟩:=anyT h;obtain⟨_,_,rfl⟩:=asStr_ok n;have:=bF h;subst this;exact FF
 |.bl k=>aD rfl rfl λX e c h=>by obtain⟨j,n,h⟩:=anyT h;obtain⟨_,_,rfl⟩:=asBl_ok n;have:=Daa h;subst this;exact Ih
 |.gc g=>aD rfl rfl λX e c h=>by obtain⟨x,n,h⟩:=anyT h;obtain⟨_,rfl⟩:=asNm_ok n;obtain⟨v,u,O,L,M⟩:=c.hgc _ _ (Daa (an2 h).1);exact Ii (dP (an2 h).2).1 O L M (dP (an2 h).2).2
 |.bop o a b=>aD rfl rfl λX e c h=>by obtain⟨x,o',y,p,rfl,n,A,s⟩:=ckBin_ok h;have:=oy n;subst this;exact FA ((a9 a).v X _ c A) ((a9 b).v X _ c s)
 |.catV a b=>aD rfl rfl λX e c h=>by obtain⟨x,o',y,p,rfl,n,A,s⟩:=ckBin_ok h;have:=y9 n;subst this;exact CQ ((a9 a).v X _ c A) ((a9 b).v X _ c s)
 |.cmp o a b=>gm (λX e Q=>sL (f:=(aO t (.cmp o a b)).2) Q λ_ _ _=>rfl) (λX e c h=>by
  obtain⟨x,y,p,rfl,A,s,B⟩:=cR h;exact FB c.units (dQ _ A) ((a9 a).v X _ c s) ((a9 b).v X _ c B)) λX e c h=>by
  obtain⟨x,y,p,rfl,A,s,B⟩:=cR h;exact FC c.units (dQ _ A) ((a9 a).v X _ c s) ((a9 b).v X _ c B)
 |.cmp2 o o' a b d=>gm (λX e Q=>sL (f:=(aO t (.cmp2 o o' a b d)).2) Q λ_ _ _=>rfl) (λX e c h=>by
  obtain⟨z,n,h⟩:=anyT h;obtain⟨p,rfl⟩:=qo n;obtain⟨I,H,F,W⟩:=an4 h;obtain⟨T,P,U⟩:=an3 W;rw[iR I,iR H];exact CP c.units (dQ _ (bj F)) ((a9 a).v X _ c T) ((a9 b).v X _ c P) ((a9 d).v X _ c U)) λX e c h=>by
  obtain⟨z,n,h⟩:=anyT h;obtain⟨p,rfl⟩:=qo n;obtain⟨I,H,F,W⟩:=an4 h;obtain⟨T,P,U⟩:=an3 W;rw[iR I,iR H];exact t_cmp2 c.units (dQ _ (bj F)) ((a9 a).v X _ c T) ((a9 b).v X _ c P) ((a9 d).v X _ c U)
 |.isb neg k a=>gm (λX e Q=>sL (f:=(aO t (.isb neg k a)).2) Q λ_ _ _=>rfl) (λX e c h=>by
  obtain⟨z,n,h⟩:=anyT h;obtain⟨p,rfl⟩:=kW n;obtain⟨I,H,F⟩:=an3 h;obtain⟨l,T,P⟩:=anyT F;obtain⟨_,_,e1⟩:=asBl_ok T;rw[qp I,e1,Daa P];exact FG ((a9 a).v X _ c H)) λX e c h=>by
  obtain⟨z,n,h⟩:=anyT h;obtain⟨p,rfl⟩:=kW n;obtain⟨I,H,F⟩:=an3 h;obtain⟨l,T,P⟩:=anyT F;obtain⟨_,_,e1⟩:=asBl_ok T;rw[qp I,e1,Daa P];exact t_isb ((a9 a).v X _ c H)
 |.and a b=>by
  have hw:∀X e,Cy t C X->(aO t (.and a b)).2 X.N X.env.scope e=true->PDw X e (g9 C (.and a b)):=λX e c h=>by
   obtain⟨o,x,y,J,p,rfl,n,A,s⟩:=ckBo_ok h;have:=qq n;subst this;refine FI ((a9 a).t X _ c A) ?_;rcases s with ⟨rfl,s⟩|s
   ·exact uJ ((a9 b).t X _ c s)
   ·exact(a9 b).w X _ c rfl s
  refine⟨λX e c h=>?_,λX e c _ h=>hw X e c h,λX e c h=>(hw X e c h).pt⟩;obtain⟨o,x,y,J,p,rfl,n,A,s⟩:=ckBo_ok h;have:=qq n;subst this;refine v_and ((a9 a).v X _ c A) ?_;rcases s with ⟨rfl,s⟩|s
  ·exact uI ((a9 b).v X _ c s)
  ·exact(a9 b).v X _ c s
 |.or a b=>by
  have hw:∀X e,Cy t C X->(aO t (.or a b)).2 X.N X.env.scope e=true->PDw X e (g9 C (.or a b)):=λX e c h=>by
   obtain⟨o,x,y,J,p,rfl,n,A,s⟩:=ckBo_ok h;have:=vS n;subst this;refine Ij ((a9 a).t X _ c A) ?_;rcases s with ⟨rfl,s⟩|s
   ·exact yt ((a9 b).t X _ c s)
   ·exact(a9 b).w X _ c rfl s
  refine⟨λX e c h=>?_,λX e c _ h=>hw X e c h,λX e c h=>(hw X e c h).pt⟩;obtain⟨o,x,y,J,p,rfl,n,A,s⟩:=ckBo_ok h;have:=vS n;subst this;refine v_or ((a9 a).v X _ c A) ?_;rcases s with ⟨rfl,s⟩|s
  ·exact uI ((a9 b).v X _ c s)
  ·exact(a9 b).v X _ c s
 |.not a=>gm (λX e Q=>sL (f:=(aO t (.not a)).2) Q λ_ _ _=>rfl) (λX e c h=>by
  obtain⟨o,x,p,rfl,n,A⟩:=ckUn_ok h;have:=qr n;subst this;exact v_not ((a9 a).v X _ c A)) λX e c h=>by
  obtain⟨o,x,p,rfl,n,A⟩:=ckUn_ok h;have:=qr n;subst this;exact FJ ((a9 a).t X _ c A)
 |.neg a=>aD rfl rfl λX e c h=>by obtain⟨o,x,p,rfl,n,A⟩:=ckUn_ok h;have:=qj n;subst this;exact FH ((a9 a).v X _ c A)
 |.ife z a b=>aD rfl rfl λX e c h=>by obtain⟨q,n,h⟩:=anyT h;obtain⟨p,rfl⟩:=y4 n;obtain⟨I,H,F⟩:=an3 h;exact FK ((a9 z).t X _ c I) ((a9 a).v X _ c H) ((a9 b).v X _ c F)
 |.tup J=>aD rfl rfl λX e c h=>by obtain⟨q,n,h⟩:=anyT h;obtain⟨_,_,rfl⟩:=asTup_ok n;exact FM (zh J X _ c h)
 |.lst J=>aD rfl rfl λX e c h=>by obtain⟨q,n,h⟩:=anyT h;obtain⟨_,rfl⟩:=vJ n;exact FN (zh J X _ c h)
 |.ix a b=>aD rfl rfl λX e c h=>by obtain⟨q,n,h⟩:=anyT h;obtain⟨_,rfl⟩:=cp n;obtain⟨I,H,F⟩:=an3 h;exact Ik (bj I) ((a9 a).v X _ c H) ((a9 b).v X _ c F)
 |.sll a lo hi=>aD rfl rfl λX e c h=>by obtain⟨q,n,h⟩:=anyT h;obtain⟨_,_,rfl⟩:=vT n;obtain⟨I,H,F⟩:=an3 h;exact FO ((a9 a).v X _ c I) (Js lo X _ c H) (Js hi X _ c F)
 |.call f J=>aD rfl rfl λX e c h=>by obtain⟨x,z,zs,q,Y,rfl,n,A,s,B,S⟩:=gn (p:=λx=>decide (t.fn f=some x)) (f:=gY t J) (N:=X.N) (sc:=X.env.scope) (e:=e) h;obtain⟨k,fa,fd,D,O,L,M,g4,g5⟩:=c.hfn _ _ (Daa n);exact CS O L (dP A).1 M g4 g5 (dP A).2 s B (zh J X _ c S)
 |.blt f J=>aD rfl rfl λX e c h=>by obtain⟨x,z,zs,q,Y,rfl,n,A,s,B,S⟩:=gn (p:=λx=>sEq x (CU f)&&t.nog x) (f:=gY t J) (N:=X.N) (sc:=X.env.scope) (e:=e) h;have:=bF (an2 n).1;subst this;exact FP c.calm (dP A).1 (c.hng _ (an2 n).2) s B (zh J X _ c S)
 |.bnw f a=>aD rfl rfl λX e c h=>by
  obtain⟨x,z,q,Y,rfl,n,A,s⟩:=bb h;obtain⟨O,L,M⟩:=blB_ok c n;subst O;cases f with
  |list=>exact CV L M A ((a9 a).v X _ c s)
  |tuple=>exact yQ L M A ((a9 a).v X _ c s)
  |sorted=>exact vC c.calm L M A ((a9 a).v X _ c s)
 |.isi k a=>aD rfl rfl λX e c h=>by obtain⟨x,z,w,q,Y,rfl,n,A,s,B,S⟩:=jV h;exact Dp c n A S ((a9 a).v X _ c B)
 |.lset a=>aD rfl rfl λX e c h=>by obtain⟨x,z,q,Y,rfl,n,A,s⟩:=bb h;obtain⟨y,w,r,r',rfl,B,S,h6⟩:=bb s;obtain⟨O,L,M⟩:=blB_ok c n;obtain⟨k1,k2,k3⟩:=blB_ok c B;subst O k1;exact C7 c.calm L M k2 k3 S ((a9 a).v X _ c h6)
 |.sst a=>aD rfl rfl λX e c h=>by obtain⟨x,z,q,Y,rfl,n,A,s⟩:=bb h;obtain⟨y,w,r,r',rfl,B,S,h6⟩:=bb s;obtain⟨O,L,M⟩:=blB_ok c n;obtain⟨k1,k2,k3⟩:=blB_ok c B;subst O k1;exact Ga c.calm L M k2 k3 S ((a9 a).v X _ c h6)
 |.idl i b=>aD rfl rfl λX e c h=>by obtain⟨z,y,n,A,k'⟩:=ay2 h;obtain⟨p,rfl⟩:=qt n;obtain⟨I,H,F,W,Z⟩:=an5 k';obtain⟨n1,n2,n3,n4⟩:=bT H;rw[one1_ok A,bF I];exact Gh F (bj W) (FD n1 n2 n3 n4) ((a9 b).v X _ c Z)
 |.lrg a=>aD rfl rfl λX e c h=>by obtain⟨x,z,q,Y,rfl,n,A,s⟩:=bb h;obtain⟨y,w,r,r',rfl,B,S,h6⟩:=bb s;obtain⟨O,L,M⟩:=blB_ok c n;obtain⟨k1,k2,k3⟩:=blB_ok c B;subst O k1;exact FQ c.calm L M k2 k3 S ((a9 a).v X _ c h6)
 |.dnew=>aD rfl rfl λX e c h=>by obtain⟨_,rfl⟩:=vM h;exact CT
 |.pg i D=>aD rfl rfl λX e c h=>Iz (aZ c D _ h)
 |.pf i D=>aD rfl rfl λX e c h=>IA (aZ c D _ h)
 |.pl i D=>aD rfl rfl λX e c h=>by obtain⟨x,z,q,Y,rfl,n,A,s⟩:=bb (t:=t) (p:="len") (f:=λN sc e=>cI t N sc i D e) (N:=X.N) (sc:=X.env.scope) (e:=e) h;obtain⟨O,L,M⟩:=blB_ok c n;subst O;exact IB L M A (aZ c D _ s)
 |.pt i D=>⟨λX e c h=>absurd h aak,λX e c Q h=>by
   obtain⟨o,xs,p,rfl⟩:=kY Q;exact absurd h aak,λX e c h=>IC (an2 h).1 (aZ c D _ (an2 h).2)⟩
 |.pin neg a i D=>gm (λX e Q=>sL (f:=(aO t (.pin neg a i D)).2) Q λ_ _ _=>rfl) (λX e c h=>by
  obtain⟨x,y,p,rfl,A,s,B⟩:=cR (o:=if neg then .nin else .inn) (f:=(aO t a).1) (g:=λN sc e=>cI t N sc i D e) (N:=X.N) (sc:=X.env.scope) (e:=e) h;exact(vA c.units (dQ _ A) ((a9 a).v X _ c s) (aZ c D _ B)).1) λX e c h=>by
  obtain⟨x,y,p,rfl,A,s,B⟩:=cR (o:=if neg then .nin else .inn) (f:=(aO t a).1) (g:=λN sc e=>cI t N sc i D e) (N:=X.N) (sc:=X.env.scope) (e:=e) h;exact(vA c.units (dQ _ A) ((a9 a).v X _ c s) (aZ c D _ B)).2
 |.din neg a i D=>gm (λX e Q=>sL (f:=(aO t (.din neg a i D)).2) Q λ_ _ _=>rfl) (λX e c h=>by
  obtain⟨x,y,p,rfl,A,s,B⟩:=cR (o:=if neg then .nin else .inn) (f:=(aO t a).1) (g:=λN sc e=>cI t N sc i D e) (N:=X.N) (sc:=X.env.scope) (e:=e) h;exact(vB (by have:=c.units;omega) (dQ _ A) ((a9 a).v X _ c s) (aZ c D _ B)).1) λX e c h=>by
  obtain⟨x,y,p,rfl,A,s,B⟩:=cR (o:=if neg then .nin else .inn) (f:=(aO t a).1) (g:=λN sc e=>cI t N sc i D e) (N:=X.N) (sc:=X.env.scope) (e:=e) h;exact(vB (by have:=c.units;omega) (dQ _ A) ((a9 a).v X _ c s) (aZ c D _ B)).2
 |.comp nt fr it tg ifs elt=>aD rfl rfl λX e c h=>by obtain⟨z,n,h⟩:=anyT h;have:=iT n;subst this;obtain⟨I,H,F,W,Z⟩:=an5 h;obtain⟨T,P,U⟩:=an3 Z;exact C0 c.calm (cQ I) (eV (bj F)) (Dq it X _ _ c W) (λq=>cF (X:=ba X _ z.2.2.2.2.1 q) (fn:=false) c.calm (Daa H) (λz=>by cases z) (λ_ _ z=>z) T) λq=>IP ifs (ba X _ z.2.2.2.2.1 q) _ _ c.comp (a9 elt) P U
 |.compB i nt fr tg ifs elt=>aD rfl rfl λX e c h=>by obtain⟨z,n,h⟩:=anyT h;have:=iT n;subst this;obtain⟨I,H,F,Z⟩:=an4 h;obtain⟨T,P,U⟩:=an3 Z;obtain⟨x,p,e0,h0⟩:=iQ F;obtain⟨n1,n2,n3,n4⟩:=bT h0;rw[e0];exact yX n1 n2 n3 n4 c.calm (cQ I) (λq=>cF (X:=ba X _ z.2.2.2.2.1 q) (fn:=false) c.calm (Daa H) (λz=>by cases z) (λ_ _ z=>z) T) λq=>IP ifs (ba X _ z.2.2.2.2.1 q) _ _ c.comp (a9 elt) P U
 |.meth cn m f i J=>aD rfl rfl λX e c h=>by
  obtain⟨z,n,h⟩:=anyT h;obtain⟨p,rfl⟩:=qt n;obtain⟨I,H,F,W,Z⟩:=an5 h;obtain⟨T,P,U⟩:=an3 Z;obtain⟨x,m',zs,ap,q⟩:=z;have:=bF H;simp only at this;subst this;obtain⟨g0,k,fa,fd,D,O,L,M,g4⟩:=c.hme _ _ _ (Daa I);obtain⟨n1,n2,n3,n4⟩:=bT F;cases zs with
  |nil=>
   cases J with
   |nil=>exact yW g0 O L M g4 n1 n2 n3 n4 P
   |cons a J=>cases U
  |cons z zs=>have:=bj W;rw[aaV,abZ]at this;exact Da g0 O L M g4 n1 n2 n3 n4 this.1 this.2 T P (zh J X _ c U)
 |.make cn f J=>aD rfl rfl λX e c h=>by obtain⟨x,z,zs,q,Y,rfl,n,A,s,B,S⟩:=gn (p:=λx=>decide (t.mk' f=some cn)&&sEq x cn) (f:=gY t J) (N:=X.N) (sc:=X.env.scope) (e:=e) h;have:=bF (an2 n).2;subst this;obtain⟨k,fa,fd,D,O,L,M,g4,g5⟩:=c.hmk _ _ (Daa (an2 n).1);exact Dc O L M (dP A).1 g4 g5 (dP A).2 s B (zh J X _ c S)
theorem zh:∀(m:Es) X xs,Cy t C X->gY t m X.N X.env.scope xs=true->PDa X xs (fq C m)
 |.nil,X,xs,c,h=>by
  cases xs with
  |nil=>exact gh
  |cons _ _=>cases h
 |.cons a es,X,xs,c,h=>by obtain⟨z,b,h⟩:=anyT h;have:=con1_ok b;subst this;obtain⟨f,g,d⟩:=an3 h;exact cV (bj f) ((a9 a).v X _ c g) (zh es X _ c d)
theorem Js:∀(m:Eo) X o,Cy t C X->Dn t m X.N X.env.scope o=true->PDo X o (vn C m)
 |.none,X,o,c,h=>by
  cases o with
  |none=>exact yO
  |some _=>cases h
 |.some a,X,o,c,h=>by obtain⟨z,b,h⟩:=anyT h;subst b;exact yP ((a9 a).v X _ c h)
theorem IP:∀(m:Eo) {elt:E} X fs x,Cy t C X->EOk t C elt->Do t m X.N X.env.scope fs=true->(aO t elt).1 X.N X.env.scope x=true->PDc X fs x (Aw C m elt)
 |.none,elt,X,fs,x,c,he,h,h'=>by
  cases fs with
  |nil=>exact yR (he.v X _ c h')
  |cons _ _=>cases h
 |.some a,elt,X,fs,x,c,he,h,h'=>by obtain⟨z,b,h⟩:=anyT h;have:=one1_ok b;subst this;exact CZ ((a9 a).t X _ c h) (he.v X _ c h')
theorem Dq:∀(m:It') X g e,Cy t C X->oA t m X.N X.env.scope g e=true->PDi X g e (dO C m)
 |.seq a,X,g,e,c,h=>FU ((a9 a).v X _ c h)
 |.rg1 a,X,g,e,c,h=>by obtain⟨x,z,q,r,rfl,n,l,d⟩:=bb h;obtain⟨j,f,i⟩:=blB_ok c n;subst j;exact FV f i l ((a9 a).v X _ c d)
 |.enm a,X,g,e,c,h=>by obtain⟨o,h⟩:=an2 h;obtain⟨y,k,p,rfl⟩:=fu o;obtain⟨x,z,q,r,rfl,n,l,d⟩:=bb h;obtain⟨j,f,i⟩:=blB_ok c n;subst j;exact FW f i l ((a9 a).v X _ c d)
 |.zip a b,X,g,e,c,h=>by obtain⟨o,h⟩:=an2 h;obtain⟨y,k,p,rfl⟩:=fu o;obtain⟨x,z,w,q,r,rfl,n,l,d,u,s⟩:=jV h;obtain⟨j,f,i⟩:=blB_ok c n;subst j;exact FX f i l d ((a9 a).v X _ c u) ((a9 b).v X _ c s)
end
end
end
section
def bkS(sc:Scope):ScopeKind:=if sc.kind.isAnnotationScope then .function else sc.kind
def sM(a:List Expr)(sc:Scope):List Str:=a.filterMap fun
  |.Name id pos=>if sc.names.lookup id==some .local&&pos.line==(a.head?.map (·.pos.line)).getD 0 then some id else none
  |_=>none
def G5(ts vs:List Expr)(sc:Scope):Option (Option (List Str)):=
 if !(ts.length==2||ts.length==3)||vs.length !=ts.length||bkS sc !=.function then some none
 else if (vs.any fun|.Starred ..=>true|_=>false) then some none
 else if (sM ts sc).length !=ts.length||(sM ts sc).eraseDups.length !=(sM ts sc).length then some none
 else if vs.all (foldedForSure 8) then some none
 else if vs.all (constantsAlone 8) then none
 else some (some (sM ts sc))
theorem oC(h:G5 ts vs env.scope=some r):swappedStores [.Tuple ts k p] (.Tuple vs k2 p2) env=pure r:=by
 unfold G5 at h;unfold swappedStores;split at h
 ·rename_i e;cases h;show (if (!(ts.length==2||ts.length==3)||vs.length !=ts.length||env.blockKind !=.function)=true then _ else _)=_;rw[if_pos (show (!(ts.length==2||ts.length==3)||vs.length !=ts.length||env.blockKind !=.function)=true from e)]
 ·rename_i e;show (if (!(ts.length==2||ts.length==3)||vs.length !=ts.length||env.blockKind !=.function)=true then _ else _)=_;rw[if_neg (show ¬ (!(ts.length==2||ts.length==3)||vs.length !=ts.length||env.blockKind !=.function)=true from e)];split at h
  ·rename_i c;cases h;show (if (vs.any fun|.Starred ..=>true|_=>false)=true then _ else _)=_;rw[if_pos c]
  ·rename_i c;show (if (vs.any fun|.Starred ..=>true|_=>false)=true then _ else _)=_;rw[if_neg c];split at h
   ·rename_i b;cases h;show (if ((sM ts env.scope).length !=ts.length||(sM ts env.scope).eraseDups.length !=(sM ts env.scope).length)=true then _ else _)=_;rw[if_pos b]
   ·rename_i b;show (if ((sM ts env.scope).length !=ts.length||(sM ts env.scope).eraseDups.length !=(sM ts env.scope).length)=true then _ else _)=_;rw[if_neg b];split at h
    ·rename_i a;cases h;show (if vs.all (foldedForSure 8)=true then _ else _)=_;rw[if_pos a]
    ·rename_i a;show (if vs.all (foldedForSure 8)=true then _ else _)=_;rw[if_neg a];split at h
     ·cases h
     ·rename_i d;cases h;show (if vs.all (constantsAlone 8)=true then _ else _)=_;rw[if_neg d];rfl
def AE(tg e:Expr)(sc:Scope):Bool:=(cm tg).any λa=>(cm e).all λb=>decide (G5 a b sc=some none)
def wa(h:AE tg e env.scope=true):swappedStores [tg] e env=pure none:=by
 obtain⟨f,c,b⟩:=anyT h;clear h;obtain⟨k,p,rfl⟩:=asTup_ok c;cases a:cm e with
 |some g=>obtain⟨i,d,rfl⟩:=asTup_ok a;rw[a]at b;exact oC (Daa b)
 |none=>cases e<;>first|rfl|cases a
def swC(sc:Scope)(t:Str)(pos p:Pos)(s:Scope):Bool:=bkS sc==.function&&sc.names.lookup t==some .local&&pos.line==p.line&&!(s.names.any λ(n,k)=>n==t&&(k==.local||k==.cell))
def wb:swapsWith (.ListComp elt gs s p) (some (.Name t pos)) l env=pure (swC env.scope t pos p s):=rfl
inductive PDx (X:Cx)(i:Nat)(st:Stmt)(de:DE):Prop|mk (te:TE) (h:PS X st (lO te (gE i))) (s:bA X.K te de)
section
variable{X:Cx}{W:Nat->Prop}{m:Nat}{C:Ct}{e:Expr}{ma:E}{pos p p1 p2 p3 pos' spos py:Pos}{x y:Str}{i:Nat}{st:Stmt}
theorem PDx.imp:PDx X i st d->(∀ρ Q,d' ρ Q->d ρ Q)->PDx X i st d'
 |⟨te,h,s⟩,f=>⟨te,h,λb F σ H ρ τ θ g Q c R a q=>s b F σ H ρ τ θ g Q c R (f _ _ a) q⟩
theorem Dr{f:Tg}(o:X.N.Nodup)(t:X.N[i]?=some y)(k:X.env.scope.names.lookup y=some .local)(h:X.calm=true)(S:CompScope N nt fr X.N scope X.env.scope)(hs:∀x,foldedSetIterable iter X.env x=pure x)(r:PDi X tg iter (dO C mi))(n:∀c:CC,PDg (ba X N scope c) Ff nt tg (cW f))(s:∀c:CC,PDc (ba X N scope c) ifs elt (Aw C mif me))
  (d:swapsWith (.ListComp elt [⟨tg,iter,ifs,0⟩] scope pos) (some (.Name y py)) spos.line X.env=pure true):PDx X i (.Assign [.Name y py] (.ListComp elt [⟨tg,iter,ifs,0⟩] scope pos) spos) (aB C (.comp nt fr mi f mif me)):=by
 have j:PDx X i (.Assign [.Name y py] (.ListComp elt [⟨tg,iter,ifs,0⟩] scope pos) spos) (pP (dO C mi) nt fr (cW f) (Aw C mif me)):=by obtain⟨v,q,l⟩:=r;obtain⟨g,a⟩:=PDg.ex (Y:=λc=>ba X N scope c) (λ_=>rfl) n;obtain⟨u,b⟩:=PDc.ex (Y:=λc=>ba X N scope c) (λ_=>rfl) s;exact⟨_,yc o t k h S q (λc=>(a c).1) (λc D=>(b c).1 D) hs d,mf l (λc=>(a c).2) λc=>(b c).2⟩
 exact j.imp (pX C)
theorem Ds(g:¬ W i):PDx X i st (aB C ma)->PDs X W st (gI C (.set i ma))
 |⟨_,h,s⟩=>⟨_,h,λb F σ H ρ τ θ A D d n R ⟨y,h,q⟩ E=>by
  obtain⟨z,o,_,w,j,u,h⟩:=bn3 h;cases h;refine s b F σ H ρ τ θ (λr a=>r=z.1/\a=z.2) _ d R ⟨z,w,rfl,rfl⟩ λv t r a c f=>?_;obtain⟨l,k⟩:=f;subst l k;exact E.nx _ t _ ((c.own1 j).store n (gd_ok u) g) q⟩
end
theorem Wd.z3(w:Wd b H ([u].zip [y]++((v,x)::L)))(e:x.at ks=some (.hole u)):Wd b H ((v,OD.put y ks x)::L):=by
 obtain⟨S,o,B,C,m,k,i,f,q,n,g,p,h⟩:=Wd.xc w rfl e;cases k with
 |hole j=>subst j;exact h (λ_ _=>rfl) (λc a=>by cases a) (by simpa using f) (λc a=>.inr a) λl d _=>Ow.sub g d i.one
def Wd.hole(w:Wd b H L):Wd b H ((u,.hole u)::L):=by obtain⟨A,c,d,a⟩:=w.out;exact⟨⟨A,Ows.cons (.hole rfl) c,d,a⟩,w.fr,w.s0,w.nt⟩
theorem Rel.fill(R:Rel b F σ H ρ (u::τ) (.rf j::θ))(h:vj i ks j u ρ ρ'):Rel b F σ H ρ' τ θ:=by obtain⟨x,y,d,l,f,e,g⟩:=h;subst g;obtain⟨m,a,c⟩:=R.drop.moved f;have k:σ[j]?=some (some u):=R.al.1;rw[k]at a;cases a;obtain⟨v,a,w⟩:=Rel.open (us:=[u]) (zs:=[y]) c rfl (by rw[abf e];exact d);exact Rel.close (Rel.rest (us:=[u]) (zs:=[y]) c rfl) a (w.z3 l)
section
variable{X:Cx}{W:Nat->Prop}{C:Ct}{e:Expr}{pos pos' apos cpos:Pos}{x:Str}{i j:Nat}{ps:List Acc}{sts:List Stmt}{mss:Ss}
theorem Du(U:attributeBase e "append" X.env (eval e X.env)=eval e X.env) (l:(apos.endLine==cpos.line)=true) (hN:X.N[j]?=some x) (hv:Vis X.env.scope x) (hd:(x==("__debug__":Str))=false) (L:(x==("__classdict__":Str))=false):
  PDp X e i ps->PDss X (λk=>W k\/k=j) sts (kN C mss)->PDss X W (.Expr (.Call (.Attribute e "append" apos) [.Name x pos'] [] cpos) pos::sts) (kN C (.ali i ps j mss))
 |⟨_,h0,s0⟩,⟨_,f,s2⟩=>⟨_,lL (g7 (pk ab0 acx acy eh h0 (aK (bP hN hv hd L) bh (av rfl)) U (yV rfl) l (av rfl) (bN rfl)) rfl) f,λb F σ H ρ τ θ Dd D P n R ⟨z,h,q⟩ E=>by
  obtain⟨r,T,h⟩:=bnd h;obtain⟨xs,ex,hz,a0,⟨o,eo⟩,ha⟩:=mz h;obtain⟨Q,J⟩:=path_at T;refine s0 b F σ H ρ τ θ _ r P R T λv u S I=>?_;rw[ex]at J I;obtain⟨l0,B,rfl,O⟩:=R.cell Q J S I;refine⟨.inl ⟨rfl,B,SqL.of O⟩,?_⟩;obtain⟨y,t⟩:=R.wf.get (join_some eo);obtain⟨vs,hH,hl,A⟩:=Rel.vu (Rel.push R R.wd.hole) Q J S I hz;refine⟨y,t,l0,vs,y,rfl,rfl,hH,hl,?_⟩;obtain⟨d,e2,w⟩:=ha y;obtain⟨s,a1⟩:=z;refine s2 b F σ _ _ (y::τ) (.rf j::θ) ⟨λa=>s=.nx/\a=d,λo a=>s=.rt o/\a=d,λa=>s=.bk/\a=d,λa=>s=.ct/\a=d⟩ _ P (λr M=>?_) ⟨A.wf,⟨t,A.al⟩,A.wff,A.wd⟩ ⟨(s,d),e2,by cases s<;>exact⟨rfl,rfl⟩⟩ ⟨λc p a g ⟨m,f⟩=>?_,λc p a g ⟨m,f⟩=>?_,λc p a g ⟨m,f⟩=>?_,λc p a v o g ⟨m,f⟩=>?_⟩
  ·rcases aab.mp M with rfl|M
   ·exact .inr ⟨j,.inr rfl,rfl⟩
   ·exact(n r M).imp id λ⟨k,Y,Z⟩=>⟨k,.inl Y,Z⟩
  ·subst m f;exact E.nx c p _ (g.fill w) q
  ·subst m f;exact E.bk c p _ (g.fill w) q
  ·subst m f;exact E.ct c p _ (g.fill w) q
  ·subst m f;exact E.rt c p _ v o (Rel.fill (Rel.za (vs:=[v]) (rs:=[.val o]) g rfl) w) q⟩
end
def PDe.ex{K:Waa}{Y:CC->Cx}(i:∀c,(Y c).K=K)(h:∀c,PDe (Y c) e d):∃g:CC->TE,∀c,PE (Y c) e (g c)/\bA K (g c) d:=
 abU (r:=λc g=>PE (Y c) e g/\bA K g d) λc=>(by obtain⟨f,a,b⟩:=h c;exact⟨f,a,i c▸b⟩)
theorem Rel.growD(R:Rel b F σ H ρ (v::(vs++[.ref D])) (.val (.fz d)::(rs++[.val (.dic ks xs)])))(c:vs.length=rs.length):
  ∃ws,H D=some (.dK ws)/\ws.length=xs.length/\Rel b F σ (upd H D (.dK (putK ws kk v))) ρ (vs++[.ref D]) (rs++[.val (.dic (bt kk d ks xs).1 (bt kk d ks xs).2)]):=by
 have f:=R.drop;have h:∀y:OD,stk (vs++[.ref D]) (rs++[.val y])=stk vs rs++[(.ref D,y)]:=λy=>by rw[aC c];rfl
 have w:Wd b H ((v,.fz d)::((stk vs rs++[(.ref D,.dic ks xs)])++(flat σ ρ++ff F))):=by have:=R.wd;simp only[stk]at this;rw[h]at this;exact this
 have o:Wd b H ([v].zip [OD.fz d]++((.ref D,.dic ks xs)::(stk vs rs++(flat σ ρ++ff F)))):=w.perm (by
  refine List.Perm.cons _ ?_;rw[aac];exact aav)
 obtain⟨a,ws,j,k,e,g,l⟩:=o.z4 (ks:=[]) rfl rfl;cases j;subst e;refine⟨ws,k,g,f.wf,?_,f.wff,?_⟩
 ·obtain⟨p,_⟩:=(aH c).mp f.al;exact(aH c).mpr ⟨p,trivial⟩
 ·rw[h];refine(l (putK ws kk v) _ _ (qa (d:=d) g) λS H A C q n m i=>mF n m i).perm ?_;rw[aac];exact aav.symm
section
variable{X:Cx}{W:Nat->Prop}{C:Ct}{y:Str}{i nt:Nat}{fr:List Nat}{N:List Str}{scope:Scope}{kx vx iter tg:Expr}{pos py spos:Pos}{mi:It'}{mt:Tg}{mk' mv':E}
theorem mN{a:Type}(step:a->PyData->DEnv->Option (a×DEnv))(ds:List PyData)(w:a×DEnv)(k:Nat){out:a}(b:ds[k]?=some d)(h:cj step (ds.drop k) out ρ=some w):∃z,step out d ρ=some z/\cj step (ds.drop (k+1)) z.1 z.2=some w:=by
 have c:=(aai.mp b).1;have e:ds.drop k=d::ds.drop (k+1):=by rw[abW c,(aai.mp b).2]
 rw[e]at h;exact bnd h
theorem zi{K:Waa}(B:bA K tk (aB C mk'))(T:bA K tv (aB C mv')):SndY (λz:List Key×List OD=>.dic z.1 z.2) (λz=>z.2.length) K (uw tk tv) (λo ρ Q=>∃w,Fw C mk' mv' o ρ=some w/\Q w.1 w.2):=by
 intro b F k H ρ vs rs D a Qd Q j s P R h q;obtain⟨w,h,I⟩:=h;obtain⟨x,y,n,f,J,Y,L,m,S,U,h⟩:=bn5 h;cases h;refine B b F k H ρ _ _ (λr c=>r=x.1/\c=x.2) _ j R ⟨x,Y,rfl,rfl⟩ λO l r t Z e=>?_;obtain⟨rfl,rfl⟩:=e;refine T b F k l _ _ _ (λr c=>r=y.1/\c=y.2) _ j Z ⟨y,L,rfl,rfl⟩ λv2 H2 r p g e=>?_;obtain⟨rfl,rfl⟩:=e;have hk:=g.dt2 m;have d:O=kV f:=by cases n<;>cases S<;>cases hk<;>rfl
 subst d;obtain⟨v,u,hl,M⟩:=Rel.growD (Rel.il (g.frz1 U)) s;have A:a.2.length<1000000:=P;exact⟨_,⟨v,f,u,rfl,aay (by omega) (by decide:1000001<=sizeLine),rfl⟩,q _ _ _ M (by
  show (bt f J.1 a.1 a.2).2.length<=a.2.length+1;unfold bt;split
  ·rw[abF];omega
  ·rw[aal];exact aae _) I⟩
theorem AF{a:List Key×List OD->DEnv->Option ((List Key×List OD)×DEnv)}{L M:CC->TE}(Z:¬ W i)(hp:∀{s:TI}{g:CC->TG}{tc:CC->TC},PI X tg iter s->(∀c,PG (ba X N scope c) tg (g c))->(∀c D,pG (ba X N scope c) D [] kx vx (tc c))->PS X (.Assign [.Name y py] (.DictComp kx vx [⟨tg,iter,[],0⟩] scope pos) spos) (lO (n5 s nt fr g tc) (gE i)))(m:∀c:CC,(ba X N scope c).A.units+1<cLine)(t:PDi X tg iter (dO C mi))(hg:∀c:CC,PDg (ba X N scope c) Ff nt tg (cW mt))(hk:∀c:CC,PE (ba X N scope c) kx (L c))(hv:∀c:CC,PE (ba X N scope c) vx (M c))(ha:∀c,SndY (λz:List Key×List OD=>.dic z.1 z.2) (λz=>z.2.length) X.K (uw (L c) (M c)) (λo ρ Q=>∃w,a o ρ=some w/\Q w.1 w.2)):
  PDs X W (.Assign [.Name y py] (.DictComp kx vx [⟨tg,iter,[],0⟩] scope pos) spos) (λD ρ=>∃x,((jQ C mi ρ).bind λx=>(gd (x.1.length<1000000)).bind λ_=>(bE x.2 fr).bind λz=>(cj (λo d ρ=>(be mt (.fz d) ρ).bind λρ1=>a o ρ1) x.1 ([],[]) (List.replicate nt none++z.1)).bind λw=>(gd (i<(bL z.2 fr (w.2.drop nt)).length)).bind λ_=>some (Fl.nx,(bL z.2 fr (w.2.drop nt)).set i (some (OD.dic w.1.1 w.1.2))))=some x/\C1 D x.2 x.1):=by
 obtain⟨s,h1,s1⟩:=t;obtain⟨g,l⟩:=PDg.ex (Y:=λc=>ba X N scope c) (λ_=>rfl) hg;refine⟨_,hp h1 (λc=>(l c).1) (λc D=>n6 (m c) (hk c) (hv c)),λb F O H ρ τ θ Dd D I n R ⟨z,h,q⟩ E=>?_⟩;obtain⟨w,_,ca,o,_,e1,hz,e2,S,t,h⟩:=bn5 h;cases h;refine s1 b F O H ρ τ θ (λB f=>B=w.1/\f=w.2) _ I R ⟨w,e1,rfl,rfl⟩ λJ v B ρ1 vs rs p T R1 it U=>?_;obtain⟨rfl,rfl⟩:=U;refine l9 (Q:=λx v=>D.nx (O.set i (some x)) v) (a0:=([],[])) (Iv:=λk e ρ=>cj (λo d ρ=>(be mt (.fz d) ρ).bind λρ1=>a o ρ1) (w.1.drop k) e ρ=some o) (λw h=>w.wj h) rfl (λc=>(l c).2) ha I p T R1 it (gd_ok hz) e2 S (λk d e ρ hd j=>by
  obtain⟨u,m,r⟩:=mN _ _ _ k hd j;obtain⟨ρ1,e4,m⟩:=bnd m;exact⟨ρ1,e4,u,m,r⟩) λH' D' e f P j=>by
  have j:cj (λo d ρ=>(be mt (.fz d) ρ).bind λρ1=>a o ρ1) (w.1.drop w.1.length) e f=some o:=j;rw[abv]at j;cases j;exact E.nx _ _ _ (Rel.store (Rel.drops (Rel.u5 P p) p) n (gd_ok t) Z) q
theorem Gn(j:¬ W i)(m:X.N.Nodup)(q:X.N[i]?=some y)(g:X.env.scope.names.lookup y=some .local)(e:X.calm=true)(S:CompScope N nt fr X.N scope X.env.scope)(hs:∀x,foldedSetIterable iter X.env x=pure x)
  (d:swapsWith (.DictComp kx vx [⟨tg,iter,[],0⟩] scope pos) (some (.Name y py)) spos.line X.env=pure true) (f:∀c:CC,(ba X N scope c).A.units+1<cLine) (p:PDi X tg iter (dO C mi)) (k:∀c:CC,PDg (ba X N scope c) Ff nt tg (cW mt)) (hk:∀c:CC,PDe (ba X N scope c) kx (aB C mk')) (o:∀c:CC,PDe (ba X N scope c) vx (aB C mv')):PDs X W (.Assign [.Name y py] (.DictComp kx vx [⟨tg,iter,[],0⟩] scope pos) spos) (gI C (.sdc i nt fr mi mt mk' mv')):=by
 obtain⟨r,b⟩:=PDe.ex (K:=X.K) (Y:=λc=>ba X N scope c) (λ_=>rfl) hk;obtain⟨s,a⟩:=PDe.ex (K:=X.K) (Y:=λc=>ba X N scope c) (λ_=>rfl) o;exact AF j (λn l h=>uz m q g e S n l h hs d) f p k (λc=>(b c).1) (λc=>(a c).1) λc=>zi (b c).2 (a c).2
theorem Rel.growN(R:Rel b F σ H ρ (v::(vs++[.ref D])) (.val x::(rs++[.val (.dic ks xs)])))(d:vs.length=rs.length)(hk:(ks.any λq=>decide (q=kk))=false):
  ∃ws,H D=some (.dK ws)/\ws.length=xs.length/\Rel b F σ (upd H D (.dK (putK ws kk v))) ρ (vs++[.ref D]) (rs++[.val (.dic (ks++[kk]) (xs++[x]))]):=by
 have f:=R.drop;have g:∀y:OD,stk (vs++[.ref D]) (rs++[.val y])=stk vs rs++[(.ref D,y)]:=λy=>by rw[aC d];rfl
 have w:Wd b H ((v,x)::((stk vs rs++[(.ref D,.dic ks xs)])++(flat σ ρ++ff F))):=by have:=R.wd;simp only[stk]at this;rw[g]at this;exact this
 have s:Wd b H ([v].zip [x]++((.ref D,.dic ks xs)::(stk vs rs++(flat σ ρ++ff F)))):=w.perm (by
  refine List.Perm.cons _ ?_;rw[aac];exact aav)
 obtain⟨a,ws,k,l,e,m,o⟩:=s.z4 (ks:=[]) rfl rfl;cases k;subst e;have n:putK ws kk v=ws++[(kk,v)]:=by unfold putK;rw[if_neg];rw[acw]at hk;exact λz=>aak (hk.symm.trans z)
 refine⟨ws,l,m,f.wf,?_,f.wff,?_⟩
 ·obtain⟨t,_⟩:=(aH d).mp f.al;exact(aH d).mpr ⟨t,trivial⟩
 ·rw[g,n];refine(o (ws++[(kk,v)]) _ _ (by rw[aaw]) λS H A C nt r p j=>⟨A++C,by rw[aaw];exact Ows.append r p,j,λc h=>aaj.mp h⟩).perm ?_;rw[aac];exact aav.symm
theorem wc{K:Waa}(B:bA K tk (aB C mk'))(P:bA K tv (aB C (.lst .nil))):SndY (λz:List Key×List OD=>.dic z.1 z.2) (λz=>z.2.length) K (uw tk tv) (λo ρ Q=>∃w,Ar C mk' o ρ=some w/\Q w.1 w.2):=by
 intro b F k H ρ vs rs D c Z Q g s M R h q;obtain⟨w,h,I⟩:=h;obtain⟨x,n,j,_,T,m,O,S,h⟩:=bn4 h;cases h;refine B b F k H ρ _ _ (λr a=>r=x.1/\a=x.2) _ g R ⟨x,T,rfl,rfl⟩ λL l r t U e=>?_;obtain⟨rfl,rfl⟩:=e;refine P b F k l _ _ _ (λr a=>r=.val (.lst [])/\a=x.2) _ g U ⟨(.val (.lst []),x.2),rfl,rfl,rfl⟩ λv2 H2 r p f e=>?_;obtain⟨rfl,rfl⟩:=e;have Y:=f.dt2 m;have d:L=kV j:=by cases n<;>cases O<;>cases Y<;>rfl
 subst d;obtain⟨v,u,hl,J⟩:=Rel.growN (Rel.il f) s (gd_ok S);have A:c.2.length<1000000:=M;exact⟨_,⟨v,j,u,rfl,aay (by omega) (by decide:1000001<=sizeLine),rfl⟩,q _ _ _ J (by show (c.2++[OD.lst []]).length<=c.2.length+1;rw[aal];exact aae _) I⟩
theorem Gp(k:X.N.Nodup)(s:Sto X W X.N.length i y)(e:X.calm=true)(S:CompScope N nt fr X.N scope X.env.scope)(hs:∀x,foldedSetIterable iter X.env x=pure x)
  (d:swapsWith (.DictComp kx vx [⟨tg,iter,[],0⟩] scope pos) (some (.Name y py)) spos.line X.env=pure false) (f:∀c:CC,(ba X N scope c).A.units+1<cLine) (n:PDi X tg iter (dO C mi)) (h:∀c:CC,PDg (ba X N scope c) Ff nt tg (cW mt)) (hk:∀c:CC,PDe (ba X N scope c) kx (aB C mk')) (m:∀c:CC,PDe (ba X N scope c) vx (aB C (.lst .nil))):PDs X W (.Assign [.Name y py] (.DictComp kx vx [⟨tg,iter,[],0⟩] scope pos) spos) (gI C (.sdl i nt fr mi mt mk')):=by
 obtain⟨o,b⟩:=PDe.ex (K:=X.K) (Y:=λc=>ba X N scope c) (λ_=>rfl) hk;obtain⟨p,a⟩:=PDe.ex (K:=X.K) (Y:=λc=>ba X N scope c) (λ_=>rfl) m;exact AF s.nw (λl j g=>tF k s.hN s.loc (uy e S l j g hs) d s.fn) f n h (λc=>(b c).1) (λc=>(a c).1) λc=>wc (b c).2 (a c).2
theorem Gq{elt j a:Expr}(hw:¬ W i)(hN:X.N.Nodup)(hy:X.N[i]?=some y)(hl:X.env.scope.names.lookup y=some .local)(hc:X.calm=true)(S:CompScope N nt fr X.N scope X.env.scope)(hs:∀x,foldedSetIterable iter X.env x=pure x)(L:∀(c:CC) x,foldedSetIterable a (ba X N scope c).env x=pure x)
  (T:swapsWith (fV elt tg iter j a scope pos) (some (.Name y py)) spos.line X.env=pure true) (hi:PDi X tg iter (dO C mi)) (hg:∀c:CC,PDg (ba X N scope c) Ff nt tg (cW mt)) (P:∀c:CC,PDi (ba X N scope c) j a (dO C mi2)) (a0:∀c:CC,PDg (ba X N scope c) Ff nt j (cW mt2)) (he:∀c:CC,PDe (ba X N scope c) elt (aB C me)):
  PDs X W (.Assign [.Name y py] (fV elt tg iter j a scope pos) spos) (gI C (.sc2 i nt fr mi mt mi2 mt2 me)):=by
 obtain⟨wi,Q,s1⟩:=hi;obtain⟨g,A⟩:=PDg.ex (Y:=λc=>ba X N scope c) (λ_=>rfl) hg;obtain⟨g2,s⟩:=PDg.ex (Y:=λc=>ba X N scope c) (λ_=>rfl) a0;obtain⟨te,I⟩:=PDe.ex (Y:=λc=>ba X N scope c) (λ_=>rfl) he;obtain⟨a3,p⟩:∃g:CC->TI,∀c,PI (ba X N scope c) j a (g c)/\oh X.K (g c) (dO C mi2):=
  abU (r:=λc g=>PI (ba X N scope c) j a g/\oh X.K g (dO C mi2)) λc=>(by obtain⟨te,Q,s1⟩:=P c;exact⟨te,Q,s1⟩)
 refine⟨_,yd hN hy hl hc S Q (λc=>(A c).1) (λc D=>EJ hc rfl (L c) (p c).1 (s c).1 (t9 (I c).1)) hs T,λb F σ H m τ θ Dd D hK n R ⟨z,h,q⟩ E=>?_⟩;obtain⟨w,_,ca,o,_,e1,hz,e2,e3,hi,h⟩:=bn5 h;cases h;refine sy s1 (λc=>(A c).2) (λc=>(p c).2) (λc=>(s c).2) (λc=>(I c).2) b F σ H m τ θ (λr B=>r=.val (.lst (o.1.map OD.fz))/\B=bL ca.2 fr (o.2.drop nt)) _ hK R ⟨w,e1,gd_ok hz,ca.1,ca.2,e2,λk e m=>cj (pS C mt mi2 mt2 me) (w.1.drop k) e m=some o,e3,λk d e m M l=>?_,λe m l=>?_⟩ λv H' r B R' hZ=>?_
 ·obtain⟨u,t,Z⟩:=mN _ _ _ k M l;obtain⟨U,J,_,e4,e5,O,t⟩:=bn3 t;refine⟨U,e4,J,e5,gd_ok O,λk e m=>aM (yN C mt2 me) (J.1.drop k) e m=some u,t,λk d e m M l=>?_,λe m l=>?_⟩
  ·obtain⟨u2,f,a2⟩:=iM _ _ _ k M l;obtain⟨a1,y2,q2,e6,e7,e8,f⟩:=bn3 f;cases f;exact⟨a1,e6,y2,e7,q2.1,q2.2,e8,a2⟩
  ·have l:aM (yN C mt2 me) (J.1.drop J.1.length) e m=some u:=l;rw[abv]at l;cases l;exact Z
 ·have l:cj (pS C mt mi2 mt2 me) (w.1.drop w.1.length) e m=some o:=l;rw[abv]at l;cases l;exact⟨rfl,rfl⟩
 ·obtain⟨rfl,rfl⟩:=hZ;exact E.nx _ _ _ (Rel.store R' n (gd_ok hi) hw) q
end
end
section
section
variable(t:Tb)
mutual
def we:E->Ck
 |.nm i=>λN sc e=>AA N sc i e
 |.int k=>λN sc e=>(mJ e).any λj=>decide (j=k)
 |.ix a b=>λN sc e=>(eK e).any λz=>!bI z.2&&we a N sc z.1&&we b N sc z.2
 |.tup es=>λN sc e=>(cm e).any λxs=>wg es N sc xs
 |.pg i ps=>λN sc e=>cI t N sc i ps e
 |_=>λ_ _ _=>false
def wg:Es->List Str->Scope->List Expr->Bool
 |.nil=>λN sc xs=>xs.isEmpty
 |.cons a es=>λN sc xs=>(mK xs).any λz=>!isStar z.1&&we a N sc z.1&&wg es N sc z.2
end
end
section
variable{t:Tb}{C:Ct}
mutual
theorem G6:∀(m:E) X e,Cy t C X->we t m X.N X.env.scope e=true->PDq X e (kK C m)
 |.nm i,X,e,c,h=>by obtain⟨x,p,rfl,h⟩:=iQ h;obtain⟨d,o,g,r⟩:=bT h;exact IE d o g r
 |.int k,X,e,c,h=>by obtain⟨j,d,h⟩:=anyT h;obtain⟨_,_,rfl⟩:=asInt_ok d;have:=Daa h;subst this;exact F8
 |.ix a b,X,e,c,h=>by obtain⟨q,d,h⟩:=anyT h;obtain⟨_,rfl⟩:=cp d;obtain⟨l,n,f⟩:=an3 h;exact IG (kM (bj l)) (G6 a X _ c n) (G6 b X _ c f)
 |.tup es,X,e,c,h=>by obtain⟨q,d,h⟩:=anyT h;obtain⟨_,_,rfl⟩:=asTup_ok d;exact F9 (Gr es X _ c h)
 |.pg i ps,X,e,c,h=>IF (aZ c ps _ h)
 |.str _,X,e,c,h|.bl _,X,e,c,h|.gc _,X,e,c,h|.bop _ _ _,X,e,c,h|.catV _ _,X,e,c,h|.cmp _ _ _,X,e,c,h|.cmp2 _ _ _ _ _,X,e,c,h|.isb _ _ _,X,e,c,h|.and _ _,X,e,c,h|.or _ _,X,e,c,h|.not _,X,e,c,h|.neg _,X,e,c,h|.ife _ _ _,X,e,c,h|.lst _,X,e,c,h|.sll _ _ _,X,e,c,h|.call _ _,X,e,c,h|.blt _ _,X,e,c,h|.bnw _ _,X,e,c,h|.isi _ _,X,e,c,h|.lset _,X,e,c,h|.sst _,X,e,c,h|.idl _ _,X,e,c,h|.lrg _,X,e,c,h|.dnew,X,e,c,h|.pf _ _,X,e,c,h|.pl _ _,X,e,c,h|.pt _ _,X,e,c,h|.pin _ _ _ _,X,e,c,h|.din _ _ _ _,X,e,c,h|.comp _ _ _ _ _ _,X,e,c,h|.compB _ _ _ _ _ _,X,e,c,h|.meth _ _ _ _ _,X,e,c,h|.make _ _ _,X,e,c,h=>absurd h aak
theorem Gr:∀(m:Es) X xs,Cy t C X->wg t m X.N X.env.scope xs=true->PDqs X xs (ou C m)
 |.nil,X,xs,c,h=>by
  cases xs with
  |nil=>exact C6
  |cons _ _=>cases h
 |.cons a es,X,xs,c,h=>by obtain⟨z,b,h⟩:=anyT h;have:=con1_ok b;subst this;obtain⟨e,f,d⟩:=an3 h;exact yT (bj e) (G6 a X _ c f) (Gr es X _ c d)
end
end
def wm(e:PySem.Stmt):Option (Expr):=if h:e.ctorIdx=24 then some (@PySem.Stmt.Expr.elim (λ_=>Expr) e h λx _=>x) else none
def qu(h:wm e=some z):∃p,e=.Expr z p:=by
 by_cases a:e.ctorIdx=24
 ·revert h;exact@PySem.Stmt.Expr.elim (λe=>wm e=some z->∃p,e=.Expr z p) e a λx p h=>by cases h;exact⟨p,rfl⟩
 ·rw[wm,dif_neg a]at h;cases h
def zj(e:PySem.Stmt):Option (List Expr×Expr):=if h:e.ctorIdx=5 then some (@PySem.Stmt.Assign.elim (λ_=>List Expr×Expr) e h λa x _=>(a,x)) else none
def asAs_ok(h:zj e=some z):∃p,e=.Assign z.1 z.2 p:=by
 by_cases a:e.ctorIdx=5
 ·revert h;exact@PySem.Stmt.Assign.elim (λe=>zj e=some z->∃p,e=.Assign z.1 z.2 p) e a λb x p h=>by cases h;exact⟨p,rfl⟩
 ·rw[zj,dif_neg a]at h;cases h
def wq(e:PySem.Stmt):Option (Expr×Operator×Expr):=if h:e.ctorIdx=7 then some (@PySem.Stmt.AugAssign.elim (λ_=>Expr×Operator×Expr) e h λt o x _=>(t,o,x)) else none
def asAu_ok(h:wq e=some z):∃p,e=.AugAssign z.1 z.2.1 z.2.2 p:=by
 by_cases a:e.ctorIdx=7
 ·revert h;exact@PySem.Stmt.AugAssign.elim (λe=>wq e=some z->∃p,e=.AugAssign z.1 z.2.1 z.2.2 p) e a λt o x p h=>by cases h;exact⟨p,rfl⟩
 ·rw[wq,dif_neg a]at h;cases h
def zk(e:PySem.Stmt):Option (Option Expr):=if h:e.ctorIdx=3 then some (@PySem.Stmt.Return.elim (λ_=>Option Expr) e h λo _=>o) else none
def zl(h:zk e=some z):∃p,e=.Return z p:=by
 by_cases a:e.ctorIdx=3
 ·revert h;exact@PySem.Stmt.Return.elim (λe=>zk e=some z->∃p,e=.Return z p) e a λo p h=>by cases h;exact⟨p,rfl⟩
 ·rw[zk,dif_neg a]at h;cases h
def zo(e:PySem.Stmt):Option (Expr×List Stmt×List Stmt):=if h:e.ctorIdx=12 then some (@PySem.Stmt.If.elim (λ_=>Expr×List Stmt×List Stmt) e h λc a b _=>(c,a,b)) else none
def zp(h:zo e=some z):∃p,e=.If z.1 z.2.1 z.2.2 p:=by
 by_cases d:e.ctorIdx=12
 ·revert h;exact@PySem.Stmt.If.elim (λe=>zo e=some z->∃p,e=.If z.1 z.2.1 z.2.2 p) e d λc a b p h=>by cases h;exact⟨p,rfl⟩
 ·rw[zo,dif_neg d]at h;cases h
def zq(e:PySem.Stmt):Option (Expr×Expr×List Stmt×List Stmt):=if h:e.ctorIdx=9 then some (@PySem.Stmt.For.elim (λ_=>Expr×Expr×List Stmt×List Stmt) e h λg i a b _=>(g,i,a,b)) else none
def zt(h:zq e=some z):∃p,e=.For z.1 z.2.1 z.2.2.1 z.2.2.2 p:=by
 by_cases c:e.ctorIdx=9
 ·revert h;exact@PySem.Stmt.For.elim (λe=>zq e=some z->∃p,e=.For z.1 z.2.1 z.2.2.1 z.2.2.2 p) e c λg i a b p h=>by cases h;exact⟨p,rfl⟩
 ·rw[zq,dif_neg c]at h;cases h
def Gs(s:Stmt):Bool:=decide (s.ctorIdx=27)
def zu(h:Gs s=true):∃p,s=.Continue p:=@Stmt.Continue.elim (λs=>∃p,s=.Continue p) s (Daa h) λp=>⟨p,rfl⟩
def jz(s:Stmt):Option (Expr×Expr):=(zj s).bind λz=>(eT z.1).bind λt=>some (t,z.2)
def asg1_ok{z}(h:jz s=some z):∃p,s=.Assign [z.1] z.2 p:=by obtain⟨c,t,a,b,h⟩:=bn2 h;cases h;obtain⟨d,e⟩:=c;obtain⟨p,rfl⟩:=asAs_ok a;have:=one1_ok b;simp only at this;subst this;exact⟨p,rfl⟩
noncomputable def qw(s:Stmt):Option (Expr×Expr×Pos×Pos):=(wm s).bind λe=>(gi e).bind λz=>(gK z.1).bind λa=>(eT z.2.1).bind λx=>if z.2.2.1.isEmpty&&sEq a.2.1 "append" then some (a.1,x,a.2.2,z.2.2.2) else none
theorem iV{z}(h:qw s=some z):∃p,s=.Expr (.Call (.Attribute z.1 "append" z.2.2.1) [z.2.1] [] z.2.2.2) p:=by
 obtain⟨e,c,a,x,n,l,j,k,h⟩:=bn4 h;obtain⟨f,u,g,q⟩:=c;obtain⟨o,m,t⟩:=a;cases b:(g.isEmpty&&sEq m "append") with
 |false=>simp only[b]at h;cases h
 |true=>
  simp only[b]at h;cases h;have d:=asAtt_ok j;have i:=one1_ok k;have r:=bF (an2 b).2;cases g with
  |cons _ _=>cases b
  |nil=>simp only at d i;subst r;subst i;subst d;obtain⟨p,rfl⟩:=qu n;exact⟨p,by rw[gj l]⟩
def cmpE:E->Bool
 |.comp _ _ _ _ _ _=>true|_=>false
def setB(t:Tb)(a:Nat->Bool)(N:List Str)(sc:Scope)(i:Nat)(m:E)(x:Str)(p:Pos)(e:Expr):Bool:=jx a N sc true N.length i x&&(aO t m).1 N sc e&&match mI e with
 |some z=>!swC sc x p z.2.2.2 z.2.2.1||cmpE m
 |none=>!eU e
def oE(e:PySem.Expr):Option (Str×Pos):=if h:e.ctorIdx=23 then some (@PySem.Expr.Name.elim (λ_=>Str×Pos) e h λx p=>(x,p)) else none
def hJ(h:oE e=some z):e=.Name z.1 z.2:=by
 by_cases a:e.ctorIdx=23
 ·revert h;exact@PySem.Expr.Name.elim (λe=>oE e=some z->e=.Name z.1 z.2) e a λx p h=>by cases h;exact rfl
 ·rw[oE,dif_neg a]at h;cases h
section
variable(t:Tb)
mutual
noncomputable def Gu(h:Nat->Bool):S'->List Str->Scope->Stmt->Bool
 |.ex m=>λN sc s=>(wm s).any λe=>!eU e&&(aO t m).1 N sc e
 |.set i m=>λN sc s=>(jz s).any λz=>(oE z.1).any λx=>setB t h N sc i m x.1 x.2 z.2
 |.asg g m=>λN sc s=>(jz s).any λz=>isTup z.1&&AE z.1 z.2 sc&&(aO t m).1 N sc z.2&&jy h N sc true N.length g z.1
 |.par is ms=>λN sc s=>(jz s).any λz=>(cm z.1).any λl=>(cm z.2).any λvs=>gY t ms N sc vs&&decide (G5 l vs sc=some (some (sM l sc)))&&(match is with
  |[i,j]=>(iG l).any λw=>(iG vs).any λ_=>(bS w.1).any λx=>(bS w.2).any λy=>decide (sM l sc=[x,y])&&decide (i≠j)&&(decide (N[i]?=some x)&&decide (N[j]?=some y))&&(kindB sc x .local&&kindB sc y .local)&&(h i&&h j)
  |[i,j,k]=>(CM l).any λw=>(CM vs).any λ_=>(bS w.1).any λx=>(bS w.2.1).any λy=>(bS w.2.2).any λz=>decide (sM l sc=[x,y,z])&&(decide (i≠j)&&decide (i≠k)&&decide (j≠k))&&(decide (N[i]?=some x)&&decide (N[j]?=some y)&&decide (N[k]?=some z))&&(kindB sc x .local&&kindB sc y .local&&kindB sc z .local)&&(h i&&h j&&h k)
  |_=>false)
 |.aug i o m=>λN sc s=>(wq s).any λz=>(bS z.1).any λx=>G3 o z.2.1&&jx h N sc true N.length i x&&(aO t m).1 N sc z.2.2
 |.ret m=>λN sc s=>(zk s).any λo=>o.any λe=>(aO t m).1 N sc e
 |.iff c a b=>λN sc s=>(zo s).any λz=>(aO t c).2 N sc z.1&&iW h a N sc z.2.1&&iW h b N sc z.2.2
 |.fr g it b=>λN sc s=>(zq s).any λz=>!isSet z.2.1&&oA t it N sc z.1 z.2.1&&jy h N sc true N.length g z.1&&iW h b N sc z.2.2.1&&z.2.2.2.isEmpty
 |.cont=>λN sc s=>Gs s
 |.app i m=>λN sc s=>(qw s).any λz=>(bS z.1).any λx=>vN N sc i x&&(z.2.2.1.endLine==z.2.2.2.line)&&!isStar z.2.1&&(aO t m).1 N sc z.2.1
 |.apd i ps m=>λN sc s=>(qw s).any λz=>!isCall z.1&&(z.2.2.1.endLine==z.2.2.2.line)&&!isStar z.2.1&&cI t N sc i ps z.1&&we t m N sc z.2.1
 |.sti i k m=>λN sc s=>(jz s).any λz=>(eK z.1).any λw=>(bS w.1).any λx=>vN N sc i x&&!bI w.2&&!eU z.2&&(aO t m).1 N sc z.2&&(aO t k).1 N sc w.2
 |.std i ps j m=>λN sc s=>(jz s).any λz=>(eK z.1).any λw=>!eU z.2&&cI t N sc i ps w.1&&AA N sc j w.2&&(aO t m).1 N sc z.2
 |.sdc i nt fr it tg ke ve=>λN sc s=>(jz s).any λz=>(oE z.1).any λx=>(vU z.2).any λw=>(λd=>jx h N sc true N.length i x.1&&compB d nt fr N w.2.2.2.2.2.1 sc&&!isSet w.2.2.2.1&&oA t it N sc w.2.2.1 w.2.2.2.1&&swC sc x.1 x.2 w.2.2.2.2.2.2 w.2.2.2.2.2.1&&(decide d.Nodup&&w.2.2.2.2.1.isEmpty&&jy (λ_=>true) d (eI w.2.2.2.2.2.1 sc) false nt tg w.2.2.1&&(aO t ke).1 d (eI w.2.2.2.2.2.1 sc) w.1&&(aO t ve).1 d (eI w.2.2.2.2.2.1 sc) w.2.1)) (mL w.2.2.1++fr.filterMap λj=>N[j]?)
 |.sdl i nt fr it tg ke=>λN sc s=>(jz s).any λz=>(oE z.1).any λx=>(vU z.2).any λw=>(λd=>jx h N sc true N.length i x.1&&compB d nt fr N w.2.2.2.2.2.1 sc&&!isSet w.2.2.2.1&&oA t it N sc w.2.2.1 w.2.2.2.1&&!swC sc x.1 x.2 w.2.2.2.2.2.2 w.2.2.2.2.2.1&&(decide d.Nodup&&w.2.2.2.2.1.isEmpty&&jy (λ_=>true) d (eI w.2.2.2.2.2.1 sc) false nt tg w.2.2.1&&(aO t ke).1 d (eI w.2.2.2.2.2.1 sc) w.1&&(aO t (.lst .nil)).1 d (eI w.2.2.2.2.2.1 sc) w.2.1)) (mL w.2.2.1++fr.filterMap λj=>N[j]?)
 |.sc2 i nt fr it tg it2 tg2 e=>λN sc s=>(jz s).any λz=>(oE z.1).any λx=>(AC z.2).any λw=>(λd=>jx h N sc true N.length i x.1&&compB d nt fr N w.2.2.2.1 sc&&!isSet w.2.1.2&&oA t it N sc w.2.1.1 w.2.1.2&&swC sc x.1 x.2 w.2.2.2.2 w.2.2.2.1&&(decide d.Nodup&&!isSet w.2.2.1.2&&jy (λ_=>true) d (eI w.2.2.2.1 sc) false nt tg w.2.1.1&&oA t it2 d (eI w.2.2.2.1 sc) w.2.2.1.1 w.2.2.1.2&&(jy (λ_=>true) d (eI w.2.2.2.1 sc) false nt tg2 w.2.2.1.1&&(aO t e).1 d (eI w.2.2.2.1 sc) w.1))) (mL w.2.1.1++mL w.2.2.1.1++fr.filterMap λj=>N[j]?)
 |.stf i c f m=>λN sc s=>(jz s).any λz=>(gK z.1).any λw=>(bS w.1).any λx=>sEq w.2.1 f&&vN N sc i x&&t.fld c f&&!eU z.2&&(aO t m).1 N sc z.2
 |.agf i c f o m=>λN sc s=>(wq s).any λz=>(gK z.1).any λw=>(bS w.1).any λx=>sEq w.2.1 f&&G3 o z.2.1&&vN N sc i x&&t.fld c f&&(aO t m).1 N sc z.2.2
noncomputable def iW(a:Nat->Bool):Ss->List Str->Scope->List Stmt->Bool
 |.nil=>λN sc s=>s.isEmpty
 |.cons m ms=>λN sc s=>(mK s).any λz=>Gu a m N sc z.1&&iW a ms N sc z.2
 |.ali i ps j ms=>λN sc s=>(mK s).any λy=>(qw y.1).any λz=>(bS z.2.1).any λx=>!isCall z.1&&(z.2.2.1.endLine==z.2.2.2.line)&&cI t N sc i ps z.1&&vN N sc j x&&iW (λk=>a k&&!decide (k=j)) ms N sc y.2
end
end
structure Cs (t:Tb)(C:Ct)(W:Nat->Prop)(ok:Nat->Bool)(X:Cx):Prop where
 c:Cy t C X
 nd:X.N.Nodup
 fn:∀x,X.fn x=true
 pass:PassesOwn (model X.prog X.w) X.A X.env X.xe
 hw:∀i,ok i=true->¬ W i
section
variable{t:Tb}{C:Ct}
def Gv:swappedStores [.Subscript o i p] e env=pure none:=by cases e<;>rfl
def qx{b:Stmt}(h:PDs X W b (Cz is (fq C ms))):PDs X W b (gI C (.par is ms)):=h.imp λD e ⟨y,h,q⟩=>by obtain⟨z,o,_,d,c,a,h⟩:=bn3 h;have a:=gd_ok a;cases h;exact⟨z,d,o.1,o.2,c,a.1,a.2,q⟩
theorem Dv(c:Cs t C W ok X){z}(b:mI e=some z)(s:Sto X W X.N.length i x)(a:swC X.env.scope x p z.2.2.2 z.2.2.1=true)
  (h:(aO t (.comp nt fr it tg ifs el)).1 X.N X.env.scope e=true):PDx X i (.Assign [.Name x p] e pos) (aB C (.comp nt fr it tg ifs el)):=by
 have g:X.env.scope.names.lookup x=some .local:=by unfold swC at a;have:=(an4 a).2.1;simpa using this
 obtain⟨w,n,h⟩:=anyT h;have u:=iT n;subst u;cases b;obtain⟨r,m,j,k,d⟩:=an5 h;obtain⟨o,l,f⟩:=an3 d;exact Dr c.nd s.hN g c.c.calm (cQ r) (eV (bj j)) (Dq it X _ _ c.c k) (λq=>cF c.c.calm (Daa m) (λz=>by cases z) (λ_ _ z=>z) o) (λq=>IP ifs (ba X _ w.2.2.2.2.1 q) _ _ c.c.comp (a9 el) l f) (by rw[wb,a])
theorem zw(c:Cs t C W ok X)(h:setB t ok X.N X.env.scope i m x p e=true):PDs X W (.Assign [.Name x p] e pos) (gI C (.set i m)):=by
 obtain⟨g,f,a⟩:=an3 h;have s:=cE (λ_=>c.fn) c.hw g;cases d:mI e with
 |none=>rw[d]at a;exact Ax c.nd s (iN (bj a)) ((a9 m).v X _ c.c f)
 |some z=>
  rw[d]at a;cases b:swC X.env.scope x p z.2.2.2 z.2.2.1 with
  |false=>have k:=kS d;exact Ax c.nd s (by rw[k,wb,b]) ((a9 m).v X _ c.c f)
  |true=>
   have a:(!swC X.env.scope x p z.2.2.2 z.2.2.1||cmpE m)=true:=a;rw[b]at a;have a:cmpE m=true:=a;cases m with
   |comp o q n r j l=>exact Ds s.nw (Dv c d s b f)
   |_=>cases a
mutual
theorem JV:∀(m:S') X s,Cs t C W ok X->Gu t ok m X.N X.env.scope s=true->PDs X W s (gI C m)
 |.ex m,X,s,c,h=>by obtain⟨e,l,d⟩:=anyT h;obtain⟨p,rfl⟩:=qu l;exact Ip (bj (an2 d).1) ((a9 m).v X _ c.c (an2 d).2)
 |.set i m,X,s,c,h=>by obtain⟨z,x,l,B,d⟩:=ay2 h;obtain⟨p,rfl⟩:=asg1_ok l;rw[hJ B];exact zw c d
 |.asg g m,X,s,c,h=>by
  obtain⟨z,l,d⟩:=anyT h;obtain⟨p,rfl⟩:=asg1_ok l;obtain⟨n,r,D,F⟩:=an4 d;refine FZ ?_ (wa r) ?_ ((a9 m).v X _ c.c D) (cF c.c.calm c.nd (λ_=>c.fn) c.hw F)
  ·obtain⟨_,_,_,e⟩:=fu n;rw[e];cases z.2<;>rfl
  obtain⟨_,_,_,e⟩:=fu n;rw[e];rfl
 |.par is ms,X,s,c,h=>by
  obtain⟨z,ts,vs,l,B,H,d⟩:=ay3 h;obtain⟨p,rfl⟩:=asg1_ok l;obtain⟨z1,z2⟩:=z;obtain⟨Z,p1,e1⟩:=asTup_ok B;obtain⟨k2,p2,e2⟩:=asTup_ok H;simp only at e1 e2;subst e1 e2;obtain⟨n,A,d⟩:=an3 d;have O:=Daa A
  match is,d with
  |[i,j],d=>
   obtain⟨w,u,x,y,M,L,P,I,d⟩:=ay4 d;have e3:=two2_ok M;have e4:=two2_ok L;obtain⟨w1,w2⟩:=w;obtain⟨q1,e5⟩:=asNm_ok P;obtain⟨q2,e6⟩:=asNm_ok I;simp only at e3 e4 e5 e6;subst e5 e6;subst e3 e4;obtain⟨c1,c2,c3,c4,c5⟩:=an5 d;rw[Daa c1]at O;refine qx (yC (λk Q=>?_) c.c.calm c.nd (Daa (an2 c3).1) (Daa (an2 c3).2) (Daa c2) (aF (an2 c4).1) (aF (an2 c4).2) (oC O) rfl (zh ms X _ c.c n));rcases aab.mp Q with rfl|Q
   ·exact c.hw _ (an2 c5).1
   ·rw[aap.mp Q];exact c.hw _ (an2 c5).2
  |[i,j,k],d=>
   obtain⟨w,u,x,y,z,M,L,P,I,J,d⟩:=ay5 d;have e3:=thr3_ok M;have e4:=thr3_ok L;obtain⟨w1,w2,w3⟩:=w;obtain⟨q1,e5⟩:=asNm_ok P;obtain⟨q2,e6⟩:=asNm_ok I;obtain⟨q3,e7⟩:=asNm_ok J;simp only at e3 e4 e5 e6 e7;subst e5 e6 e7;subst e3 e4;obtain⟨c1,c2,c3,c4,c5⟩:=an5 d;obtain⟨d1,d2,d3⟩:=an3 c2;obtain⟨d4,d5,d6⟩:=an3 c3;obtain⟨d7,d8,d9⟩:=an3 c4;obtain⟨f1,f2,f3⟩:=an3 c5;rw[Daa c1]at O;refine qx (uS (λk Q=>?_) c.c.calm c.nd (Daa d4) (Daa d5) (Daa d6) (Daa d1) (Daa d2) (Daa d3) (aF d7) (aF d8) (aF d9) (oC O) rfl (zh ms X _ c.c n));rcases aab.mp Q with rfl|Q
   ·exact c.hw _ f1
   ·rcases aab.mp Q with rfl|Q
    ·exact c.hw _ f2
    ·rw[aap.mp Q];exact c.hw _ f3
  |[],d=>exact absurd d aak
  |[_],d=>exact absurd d aak
  |_::_::_::_::_,d=>exact absurd d aak
 |.aug i o m,X,s,c,h=>by obtain⟨z,x,l,B,d⟩:=ay2 h;obtain⟨p,rfl⟩:=asAu_ok l;obtain⟨q,e⟩:=asNm_ok B;obtain⟨n,A,r⟩:=an3 d;rw[e,oy n];exact F1 c.nd (cE (λ_=>c.fn) c.hw A) ((a9 m).v X _ c.c r)
 |.ret m,X,s,c,h=>by obtain⟨o,e,l,B,d⟩:=ay2 h;obtain⟨p,rfl⟩:=zl l;subst B;exact FY ((a9 m).v X _ c.c d)
 |.iff z a b,X,s,c,h=>by obtain⟨q,l,d⟩:=anyT h;obtain⟨p,rfl⟩:=zp l;obtain⟨n,A,r⟩:=an3 d;exact Iq ((a9 z).t X _ c.c n) (sN a X _ c A) (sN b X _ c r)
 |.fr g it b,X,s,c,h=>by
  obtain⟨q,l,d⟩:=anyT h;obtain⟨p,rfl⟩:=zt l;obtain⟨n,A,r,D,F⟩:=an5 d;obtain⟨q1,q2,q3,q4⟩:=q;cases q4 with
  |nil=>exact F0 c.pass c.c.calm (eV (bj n)) (Dq it X _ _ c.c A) (cF c.c.calm c.nd (λ_=>c.fn) c.hw r) (sN b X _ c D)
  |cons _ _=>cases F
 |.cont,X,s,c,h=>by obtain⟨p,rfl⟩:=zu h;exact C4
 |.app i m,X,s,c,h=>by obtain⟨z,x,l,B,d⟩:=ay2 h;obtain⟨p,rfl⟩:=iV l;obtain⟨q,e⟩:=asNm_ok B;obtain⟨n,A,r,D⟩:=an4 d;obtain⟨Y,S,T,U⟩:=bT n;rw[e];exact Gb Y S T U A (bj r) ((a9 m).v X _ c.c D)
 |.apd i ps m,X,s,c,h=>by obtain⟨z,l,d⟩:=anyT h;obtain⟨p,rfl⟩:=iV l;obtain⟨n,A,r,D,F⟩:=an5 d;exact Gc (kT (bj n)) A (bj r) (aZ c.c ps _ D) (G6 m X _ c.c F)
 |.sti i k m,X,s,c,h=>by obtain⟨z,w,x,l,B,H,d⟩:=ay3 h;obtain⟨p,rfl⟩:=asg1_ok l;obtain⟨q,e⟩:=cp B;obtain⟨q',e'⟩:=asNm_ok H;obtain⟨n,A,r,D,F⟩:=an5 d;obtain⟨Y,S,T,U⟩:=bT n;rw[e,e'];exact Gd Y S T U (bj A) (iN (bj r)) Gv ((a9 m).v X _ c.c D) ((a9 k).v X _ c.c F)
 |.std i ps j m,X,s,c,h=>by obtain⟨z,w,l,B,d⟩:=ay2 h;obtain⟨p,rfl⟩:=asg1_ok l;obtain⟨q,e⟩:=cp B;obtain⟨n,A,r,D⟩:=an4 d;rw[e];exact Ge (by have:=c.c.units;omega) (iN (bj n)) (aZ c.c ps _ A) (vQ r).1 ((a9 m).v X _ c.c D)
 |.sdc i nt fr it tg ke ve,X,s,c,h=>by
  obtain⟨z,x,w,l,B,H,d⟩:=ay3 h;obtain⟨p,rfl⟩:=asg1_ok l;obtain⟨k0,Z⟩:=an2 d;obtain⟨n,A,r,D,F⟩:=an5 k0;obtain⟨M,L,P,I,J⟩:=an5 Z;have s:=cE (λ_=>c.fn) c.hw n;have hl:X.env.scope.names.lookup x.1=some .local:=by unfold swC at F;have:=(an4 F).2.1;simpa using this
  rw[hJ B,mM H,abD.mp L];exact Gn s.nw c.nd s.hN hl c.c.calm (cQ A) (eV (bj r)) (by show pure (swC X.env.scope x.1 x.2 w.2.2.2.2.2.2 w.2.2.2.2.2.1)=_;rw[F]) (λq=>by have:=(c.c.comp (q:=q) (N:=mL w.2.2.1++fr.filterMap λj=>X.N[j]?) (sc:=w.2.2.2.2.2.1)).units;omega) (Dq it X _ _ c.c D) (λq=>cF c.c.calm (Daa M) (λz=>by cases z) (λ_ _ z=>z) P) (λq=>(a9 ke).v (ba X _ w.2.2.2.2.2.1 q) _ c.c.comp I) λq=>(a9 ve).v (ba X _ w.2.2.2.2.2.1 q) _ c.c.comp J
 |.sdl i nt fr it tg ke,X,s,c,h=>by obtain⟨z,x,w,l,B,H,d⟩:=ay3 h;obtain⟨p,rfl⟩:=asg1_ok l;obtain⟨k0,Z⟩:=an2 d;obtain⟨n,A,r,D,F⟩:=an5 k0;obtain⟨M,L,P,I,J⟩:=an5 Z;have s:=cE (λ_=>c.fn) c.hw n;rw[hJ B,mM H,abD.mp L];exact Gp c.nd s c.c.calm (cQ A) (eV (bj r)) (by show pure (swC X.env.scope x.1 x.2 w.2.2.2.2.2.2 w.2.2.2.2.2.1)=_;rw[bj F]) (λq=>by have:=(c.c.comp (q:=q) (N:=mL w.2.2.1++fr.filterMap λj=>X.N[j]?) (sc:=w.2.2.2.2.2.1)).units;omega) (Dq it X _ _ c.c D) (λq=>cF c.c.calm (Daa M) (λz=>by cases z) (λ_ _ z=>z) P) (λq=>(a9 ke).v (ba X _ w.2.2.2.2.2.1 q) _ c.c.comp I) λq=>(a9 (.lst .nil)).v (ba X _ w.2.2.2.2.2.1 q) _ c.c.comp J
 |.sc2 i nt fr it tg it2 tg2 e,X,s,c,h=>by
  obtain⟨z,x,w,l,B,H,d⟩:=ay3 h;obtain⟨p,rfl⟩:=asg1_ok l;obtain⟨k0,Z⟩:=an2 d;obtain⟨n,A,r,D,F⟩:=an5 k0;obtain⟨M,L,P,I,J⟩:=an5 Z;obtain⟨J,b6⟩:=an2 J;have s:=cE (λ_=>c.fn) c.hw n;have hl:X.env.scope.names.lookup x.1=some .local:=by unfold swC at F;have:=(an4 F).2.1;simpa using this
  rw[hJ B,vW H];have gk:∀{m:Tg}{te:Expr},jy (λ_=>true) _ _ false nt m te=true->∀q,PDg (ba X _ w.2.2.2.1 q) Ff nt te (cW m):=λ{m te} b q=>cF c.c.calm (Daa M) (λz=>by cases z) (λ_ _ z=>z) b;exact Gq s.nw c.nd s.hN hl c.c.calm (cQ A) (eV (bj r)) (λq=>eV (bj L)) (by show pure (swC X.env.scope x.1 x.2 w.2.2.2.2 w.2.2.2.1)=_;rw[F]) (Dq it X _ _ c.c D) (gk P) (λq=>Dq it2 (ba X _ w.2.2.2.1 q) _ _ c.c.comp I) (gk J) λq=>(a9 e).v (ba X _ w.2.2.2.1 q) _ c.c.comp b6
 |.stf i cn f m,X,s,c,h=>by obtain⟨z,w,x,l,B,H,d⟩:=ay3 h;obtain⟨p,rfl⟩:=asg1_ok l;have e:=asAtt_ok B;obtain⟨q',e'⟩:=asNm_ok H;obtain⟨n,A,r,D,F⟩:=an5 d;obtain⟨Y,S,T,U⟩:=bT A;rw[e,e',bF n];exact Gf Y S T U (c.c.hfl _ _ r).1 (c.c.hfl _ _ r).2 (iN (bj D)) ((a9 m).v X _ c.c F)
 |.agf i cn f o m,X,s,c,h=>by obtain⟨z,w,x,l,B,H,d⟩:=ay3 h;obtain⟨p,rfl⟩:=asAu_ok l;have e:=asAtt_ok B;obtain⟨q',e'⟩:=asNm_ok H;obtain⟨n,A,r,D,F⟩:=an5 d;obtain⟨Y,S,T,U⟩:=bT r;rw[e,e',bF n,oy A];exact Gg Y S T U (c.c.hfl _ _ D).1 (c.c.hfl _ _ D).2 ((a9 m).v X _ c.c F)
theorem sN:∀(m:Ss) X s,Cs t C W ok X->iW t ok m X.N X.env.scope s=true->PDss X W s (kN C m)
 |.nil,X,s,c,h=>by
  cases s with
  |nil=>exact C3
  |cons _ _=>cases h
 |.cons m ms,X,s,c,h=>by obtain⟨z,b,a⟩:=anyT h;have:=con1_ok b;subst this;exact yS (JV m X _ c (an2 a).1) (sN ms X _ c (an2 a).2)
 |.ali i ps j ms,X,s,c,h=>by obtain⟨y,z,x,g,b,A,a⟩:=ay3 h;have:=con1_ok g;subst this;obtain⟨p,D⟩:=iV b;obtain⟨q,e⟩:=asNm_ok A;obtain⟨B,v,l,n,f⟩:=an5 a;obtain⟨w,o,u,r⟩:=bT n;rw[D,e];exact Du (kT (bj B)) v w o u r (aZ c.c ps _ l) (sN ms X _ ⟨c.c,c.nd,c.fn,c.pass,λk d z=>z.elim (c.hw k (an2 d).1) (Dad (bj (an2 d).2))⟩ f)
end
end
end
section
structure Df where
 name:Str
 qual:Str
 st:Stmt
 ps:List Str
 N:List Str
 fn:Fn
def Dw(N ps:List Str)(sc:Scope):Bool:=decide (sc.kind=.function)&&!sc.isCoroutine&&!sc.isGenerator&&decide N.Nodup&&decide (N.take ps.length=ps)&&ps.all (λx=>y6 sc x)&&sc.names.all λy=>!decide (y.2=.free)
def zx(h:Dw N ps sc=true):FnScope N ps sc:=by unfold Dw at h;simp only[aaG,abm,ab1,decide_eq_true_eq,decide_eq_false_iff_not]at h;obtain⟨⟨⟨⟨⟨⟨a,c⟩,d⟩,g⟩,i⟩,e⟩,b⟩:=h;exact⟨a,c,d,g,i,λx f=>qi (e x f),b⟩
def oF(ios:List Bool)(i:Nat):Bool:=!decide (ios[i]?=some true)
def zy(t:Tb)(d:Df):Bool:=Dw d.N d.ps (aI d.st)&&decide (d.fn.io.length=d.ps.length)&&decide (d.fn.n=d.N.length)&&iW t (oF d.fn.io) d.fn.body d.N (aI d.st) (bY d.st)
structure Md (K:Waa)(mg:Str->Option Value)(t:Tb)(p:Pg)(D:Nat->Option Df):Prop where
 df:∀j d,D j=some d->p.F j=some d.fn/\zy t d=true/\∃f fd,Fun K d.name d.qual d.st f fd/\Binds K fd d.ps [] /\
  (∀nm,t.fn j=some nm->mg nm=some (.ref f)/\PySem.W.keepIn K (.ref f)=true)/\(∀c m,t.me j=some (c,m)->Cls K (aq K c)/\Meth K (aq K c) m f)/\(∀c,t.mk' j=some c->Mk K (aq K c) f/\mg c=some (.ref (aq K c)))
 all:∀j,((t.fn j).isSome||(t.me j).isSome||(t.mk' j).isSome)=true->(D j).isSome=true
 gc:∀g nm,t.gc g=some nm->∃v u,mg nm=some u/\RelV v u/\∀S H,Fz K S H v (p.gv g)
 ng:∀x,t.nog x=true->mg x=none
 fl:∀c f,t.fld c f=true->Cls K (aq K c)/\NoAttr K (aq K c) f
section
variable{P:Program}{w:World}{K:Waa}{mg:Str->Option Value}{base:Heap}{t:Tb}{p:Pg}{D:Nat->Option Df}
def mO(h:∀xs Q,¬ sp xs Q):FnD P w K mg base k f fd ps sp:=by have d:∀a H Q E,¬ toSp K sp a H Q E:=λa H Q E ⟨S,xs,A,_,_,_,_,z⟩=>h _ _ z;exact⟨⟨λa H Q E z=>(d _ _ _ _ z).elim,λA b s H c e a Q E _ _ _ _ z=>(d _ _ _ _ z).elim⟩,λxs P R _ z=>(h _ _ z).elim⟩
def mP(h:∀xs,g xs=none):∀xs Q,¬ spC g xs Q:=λxs Q ⟨w,e,_⟩=>by rw[h]at e;cases e
theorem Md.ok(M:Md K mg t p D):∀(n:Nat),(∀(j:Nat) (d:Df),D j=some d->∀(f:Addr) (r:FuncData),Fun K d.name d.qual d.st f r->FnD P w K mg base (n+1) f r d.ps (spC (p.call n j))) /\
  (∀(j:Nat) (d:Df),D j=some d->∀(f:Addr) (r:FuncData),Fun K d.name d.qual d.st f r->FnD P w K mg base n f r d.ps (spC (p.mak n j)))
 |0=>⟨λj d _ f r _=>mO (mP λ_=>rfl),λj d _ f r _=>mO (mP λ_=>rfl)⟩
 |n+1=>by
  obtain⟨v,T⟩:=Md.ok M n;refine⟨λj d J f r F=>?_,λj d J f r F=>v j d J f r F⟩;obtain⟨h1,O,_⟩:=M.df j d J;unfold zy at O;simp only[aaG,decide_eq_true_eq]at O;obtain⟨⟨⟨g1,Y⟩,g3⟩,g4⟩:=O;have S:=zx g1;refine F.okD S (vD _) Y (λxs Q ⟨z,e,_⟩=>?_) λB A k s H E C xs Q ⟨z,e,q⟩=>?_
  ·rw[Pg.fy,h1]at e;simp only at e;split at e
   ·rename_i hl;rw[hl];exact Y
   ·cases e
  ·have c:Cy t (p.ct n) (ki CX0 P w K mg base d.N d.qual (aI d.st) f B A k s H E).nox:=by
    refine⟨rfl,C.units,C.gd,λg nm h=>?_,λg c m h=>?_,λg c h=>?_,M.gc,M.ng,M.fl⟩
    ·obtain⟨l,a⟩:=abq.mp (M.all g (by rw[h];rfl));obtain⟨_,_,u,b,I,y,X,_,_⟩:=M.df g l a;exact⟨n+1,u,b,l.ps,v g l a u b I,C,(X nm h).1,(X nm h).2,y⟩
    ·obtain⟨l,a⟩:=abq.mp (M.all g (by rw[h];simp));obtain⟨_,_,u,b,I,y,_,q2,_⟩:=M.df g l a;exact⟨(q2 c m h).1,n+1,u,b,l.ps,(q2 c m h).2,v g l a u b I,C,y⟩
    ·obtain⟨l,a⟩:=abq.mp (M.all g (by rw[h];simp));obtain⟨_,_,u,b,I,y,_,_,Z⟩:=M.df g l a;exact⟨n,u,b,l.ps,(Z c h).1,T g l a u b I,C,(Z c h).2,y⟩
   have cs:Cs t (p.ct n) (WS d.fn.io) (oF d.fn.io) (ki CX0 P w K mg base d.N d.qual (aI d.st) f B A k s H E).nox:=
    ⟨c,S.nd,λ_=>rfl,PassesOwn.never,λi W z=>by
     unfold oF at W;simp only[ab1,decide_eq_false_iff_not]at W;exact W z⟩
   refine⟨_,sN d.fn.body _ _ cs g4,?_⟩;rw[Pg.fy,h1]at e;simp only at e;split at e
   ·unfold vm at e;obtain⟨x,e1,e⟩:=bnd e;rw[g3]at e1;refine⟨x,e1,?_⟩;obtain⟨fl,ρ⟩:=x;cases fl with
    |nx=>obtain⟨U,L,e⟩:=bnd e;cases e;exact⟨U,L,q⟩
    |rt o=>obtain⟨U,L,e⟩:=bnd e;cases e;exact⟨U,L,q⟩
    |bk=>cases e
    |ct=>cases e
   ·cases e
theorem Md.law(M:Md K mg t p D)(e:D j=some d)(F:Fun K d.name d.qual d.st f fd)
  (h:∀ns:List Int,ns.length<=63->∃ys,p.call n j [.fz (.list (ns.map PyData.int))]=some (.fz (.bool true),ys)):
  FnOk P w K mg base CX0 (n+1) f fd d.ps (λvs H Q _=>∃(a:Addr) (ns:List Int),vs=[.ref a]/\SqL K H a (ns.map V.int)/\ns.length<=63/\∀b,Q (.bl true) b):=by
 refine((M.ok n).1 j d e f fd F).ok.imp λvs H Q E i=>?_;obtain⟨a,ns,rfl,l,g,q⟩:=i;obtain⟨ys,m⟩:=h ns g;refine⟨λ_=>False,[.fz (.list (ns.map PyData.int))],[],λa z=>z.elim,λ_ _ _ z=>z,Ows.cons (.fz ((Fz.of0 (.lst l (DtAll.ints ns))).sub λc z=>z.elim (λz=>by cases z) id)) .nil,aa1,_,m,λv b B _ k _ _=>?_⟩;cases k with
 |cons r _=>
  cases r with
  |fz f=>cases f;exact q b
end
end
section
inductive Kd where|fn|me (c:Str)|ini (c:Str)
def Kd.fn?(d:Df):Kd->Option Str|.fn=>some d.name|_=>none
def Kd.me?(d:Df):Kd->Option (Str×Str)|.me c=>some (c,d.name)|_=>none
def Kd.ini?:Kd->Option Str|.ini c=>some c|_=>none
structure Pl where
 ds:List (Df×Kd)
 cs:List (Str×PyData)
 nog:List Str
 fld:List (Str×Str)
def Pl.tb(P:Pl):Tb where
 fn j:=(P.ds[j]?).bind λz=>z.2.fn? z.1
 me j:=(P.ds[j]?).bind λz=>z.2.me? z.1
 mk' j:=(P.ds[j]?).bind λz=>z.2.ini?
 gc g:=(P.cs[g]?).map (·.1)
 nog x:=P.nog.any λy=>sEq x y
 fld c f:=P.fld.any λy=>sEq c y.1&&sEq f y.2
def Pl.pg(P:Pl):Pg where
 F j:=(P.ds[j]?).map (·.1.fn)
 gv g:=((P.cs[g]?).map (·.2)).getD .none
 wf:=100000
def Pl.D(P:Pl)(j:Nat):Option Df:=(P.ds[j]?).map (·.1)
def Gw(K:Waa)(a:Str->Option Value)(d:Df)(f:Addr):Kd->Prop
 |.fn=>a d.name=some (.ref f)/\PySem.W.keepIn K (.ref f)=true
 |.me c=>Cls K (aq K c)/\Meth K (aq K c) d.name f
 |.ini c=>Mk K (aq K c) f/\a c=some (.ref (aq K c))
def AG(K:Waa)(b:Str->Option Value)(z:Df×Kd):Prop:=∃f a,Fun K z.1.name z.1.qual z.1.st f a/\Binds K a z.1.ps []/\Gw K b z.1 f z.2
section
variable{K:Waa}{mg:Str->Option Value}{P:Pl}
def mp{d c:Type}{o:Option d}{f:d->c}{b:c}(h:o.map f=some b):∃a,o=some a/\f a=b:=by
 cases o with
 |none=>cases h
 |some a=>exact⟨a,rfl,aaC h⟩
theorem Pl.md(I:(P.ds.all λz=>zy P.tb z.1)=true)(C:∀z∈P.ds,AG K mg z)(t:∀z∈P.cs,∃v u,mg z.1=some u/\RelV v u/\∀S H,Fz K S H v z.2)(w:∀x∈P.nog,mg x=none)(r:∀z∈P.fld,Cls K (aq K z.1)/\NoAttr K (aq K z.1) z.2):Md K mg P.tb P.pg P.D where
 df j d hj:=by
  obtain⟨z,b,l⟩:=mp hj;subst l;have o:=aa0 b;obtain⟨f,F,L,B,i⟩:=C z o;refine⟨by show (P.ds[j]?).map _=_;rw[b];rfl,abm.mp I z o,f,F,L,B,λp a=>?_,λc m a=>?_,λc a=>?_⟩
  ·have a:((P.ds[j]?).bind λz=>z.2.fn? z.1)=some p:=a;rw[b]at a;obtain⟨d,k⟩:=z;cases k<;>cases a;exact i
  ·have a:((P.ds[j]?).bind λz=>z.2.me? z.1)=some (c,m):=a;rw[b]at a;obtain⟨d,k⟩:=z;cases k<;>cases a;exact i
  ·have a:((P.ds[j]?).bind λz=>z.2.ini?)=some c:=a;rw[b]at a;obtain⟨d,k⟩:=z;cases k<;>cases a;exact i
 all j h:=by
  show ((P.ds[j]?).map _).isSome=true;cases e:P.ds[j]? with
  |none=>have h:((((P.ds[j]?).bind λz=>z.2.fn? z.1).isSome||((P.ds[j]?).bind λz=>z.2.me? z.1).isSome)||((P.ds[j]?).bind λz=>z.2.ini?).isSome)=true:=h;rw[e]at h;cases h
  |some z=>rfl
 gc g p h:=by
  obtain⟨z,b,l⟩:=mp h;subst l;obtain⟨v,u,J,A,s⟩:=t z (aa0 b);have q:P.pg.gv g=z.2:=by show ((P.cs[g]?).map _).getD _=_;rw[b];rfl
  rw[q];exact⟨v,u,J,A,s⟩
 ng x h:=by obtain⟨y,n,e⟩:=abG.mp h;rw[bF e];exact w y n
 fl c f h:=by obtain⟨y,n,e⟩:=abG.mp h;rw[bF (an2 e).1,bF (an2 e).2];exact r y n
end
end
end L2
namespace L2
open PySem
def bs{a b:Type}{o:Option a}{f:a->Option b}{x:a}{r:Option b}(h:o=some x)(k:f x=r):o.bind f=r:=by rw[h];exact k
def JW[Decidable c](h:c):gd c=some ():=if_pos h
def bg{a:Type}[Decidable c]{f:Unit->Option a}{r:Option a}(h:c)(k:f ()=r):(gd c).bind f=r:=bs (JW h) k
section
variable{C:Ct}{a b c e:E}{es:Es}{ρ ρ1 ρ2 ρ3:DEnv}{x y:OR}{dx dy d:PyData}{k k1:Bool}{i j f:Nat}{n:Int}{rs:List OR}{xs ys zs:List OD}{z w:OD}{ds:List PyData}{s:S'}{ss sa sb:Ss}{fl:Fl}{r:Option (Fl×DEnv)}{rv:Option (OR×DEnv)}{rt:Option (Bool×DEnv)}{ps:List Acc}
def ai{o:Bo}(g:ev C a ρ=some (x,ρ1))(m:ev C b ρ1=some (y,ρ2))(l:ar ρ2 x=some dx)(p:ar ρ2 y=some dy)(h:yM o dx dy=some d):ev C (.bop o a b) ρ=some (.val (.fz d),ρ2):=bs g (bs m (bs l (bs p (bs h rfl))))
def aw{o:Co}(g:ev C a ρ=some (x,ρ1))(m:ev C b ρ1=some (y,ρ2))(l:ar ρ2 x=some dx)(p:ar ρ2 y=some dy)(h:jq o dx dy=some k):ev C (.cmp o a b) ρ=some (.val (.fz (.bool k)),ρ2):=bs g (bs m (bs l (bs p (bs h rfl))))
def aE(g:ev C a ρ=some (x,ρ1))(l:ev C b ρ1=some (y,ρ2))(m:ar ρ2 y=some (.int n))(h:bC ρ2 x n=some (z,ρ3)):ev C (.ix a b) ρ=some (.val z,ρ3):=bs g (bs l (bs m (bs rfl (bs h rfl))))
def ae(g:evs C es ρ=some (rs,ρ1))(h:aX (C.io f) ρ1 rs=some (xs,ρ2))(l:C.call f xs=some (w,ys))(m:dH (C.io f) rs ys ρ2=ρ3):ev C (.call f es) ρ=some (.val w,ρ3):=bs g (bs h (bs l (by rw[<-m])))
theorem eW{ns:List Str}(h:ρ[i]?.join=some (.obj cn ns zs))(l:m ∉ ns)(g:evs C es ρ=some (rs,ρ1))(p:aX (C.io f) ρ1 (.rf i::rs)=some (xs,ρ2))(o:C.call f xs=some (w,ys))(q:dH (C.io f) (.rf i::rs) ys ρ2=ρ3):ev C (.meth cn m f i es) ρ=some (.val w,ρ3):=bs h (bs rfl (bg ⟨rfl,l⟩ (bs g (bs p (bs o (by rw[<-q]))))))
def Dx{g:Str}(h:evs C es ρ=some (rs,ρ1))(m:aX (C.io f).tail ρ1 rs=some (xs,ρ2))(l:C.mak f (.obj g [] []::xs)=some (.fz .none,w::ys))(o:dH (C.io f).tail rs ys ρ2=ρ3):ev C (.make g f es) ρ=some (.val w,ρ3):=bs h (bs m (bs l (bs rfl (by rw[<-o]))))
def jW(g:evs C es ρ=some (rs,ρ1))(l:Nat.ble rs.length 1000000=true)(h:mapR own1 ρ1 rs=some (zs,ρ2)):ev C (.lst es) ρ=some (.val (.lst zs),ρ2):=bs g (bs h (bg (Nat.ble_eq.mp l) rfl))
def eM(g:evs C es ρ=some (rs,ρ1))(l:Nat.ble rs.length 1000000=true)(h:mapR own1 ρ1 rs=some (zs,ρ2))(m:mkTup zs=z):ev C (.tup es) ρ=some (.val z,ρ2):=bs g (bs h (bg (Nat.ble_eq.mp l) (by rw[<-m])))
def ag:evs C .nil ρ=some ([],ρ):=rfl
def aa(g:ev C e ρ=some (x,ρ1))(h:evs C es ρ1=some (rs,ρ2)):evs C (.cons e es) ρ=some (x::rs,ρ2):=bs g (bs h rfl)
def mQ(h:aY C c ρ=some (true,ρ1))(k:ev C a ρ1=rv):ev C (.ife c a b) ρ=rv:=bs h k
def wu(h:aY C c ρ=some (false,ρ1))(k:ev C b ρ1=rv):ev C (.ife c a b) ρ=rv:=bs h k
def e_blt{g:Bl}(m:evs C es ρ=some (rs,ρ1))(h:fX ρ1 rs=some ds)(l:Ed g ds=some d):ev C (.blt g es) ρ=some (.val (.fz d),ρ1):=bs m (bs h (bs l rfl))
def qy(g:ev C e ρ=some (x,ρ1))(h:(c9 ρ1 x).bind listOf=some ds):ev C (.bnw .tuple e) ρ=some (.val (.fz (.tuple ds)),ρ1):=bs g (bs h rfl)
def aG{o:Co}(h:ev C (.cmp o a b) ρ=some (.val (.fz (.bool k)),ρ1)):aY C (.cmp o a b) ρ=some (k,ρ1):=bs h rfl
def aL(h:ev C (.call f es) ρ=some (.val (.fz (.bool k)),ρ1)):aY C (.call f es) ρ=some (k,ρ1):=bs h rfl
def oG{g m:Str}(h:ev C (.meth g m f i es) ρ=some (.val (.fz (.bool k)),ρ1)):aY C (.meth g m f i es) ρ=some (k,ρ1):=bs h rfl
def IQ(h:ev C (.ix a b) ρ=some (.val (.fz (.bool k)),ρ1)):aY C (.ix a b) ρ=some (k,ρ1):=bs h rfl
def Gx{g:Bl}(h:ev C (.blt g es) ρ=some (.val (.fz (.bool k)),ρ1)):aY C (.blt g es) ρ=some (k,ρ1):=bs h rfl
def wx(h:aY C a ρ=some (true,ρ1))(k:aY C b ρ1=rt):aY C (.and a b) ρ=rt:=bs h k
def Dy(h:aY C a ρ=some (false,ρ1)):aY C (.and a b) ρ=some (false,ρ1):=bs h rfl
def mR(h:aY C a ρ=some (true,ρ1)):aY C (.or a b) ρ=some (true,ρ1):=bs h rfl
def aV(h:aY C a ρ=some (false,ρ1))(k:aY C b ρ1=rt):aY C (.or a b) ρ=rt:=bs h k
def aP(h:aY C a ρ=some (k,ρ1)):aY C (.not a) ρ=some (!k,ρ1):=bs h rfl
def gp(h:ev C a ρ=some (.val (.fz (.bool true)),ρ1))(k:ev C b ρ1=rv):ev C (.and a b) ρ=rv:=bs h (bs rfl (bs rfl k))
def kZ(h:ev C a ρ=some (.val (.fz (.bool false)),ρ1)):ev C (.and a b) ρ=some (.val (.fz (.bool false)),ρ1):=bs h rfl
def AH(h:ev C a ρ=some (.val (.fz (.bool true)),ρ1)):ev C (.or a b) ρ=some (.val (.fz (.bool true)),ρ1):=bs h rfl
def AI(h:ev C a ρ=some (.val (.fz (.bool false)),ρ1))(k:ev C b ρ1=rv):ev C (.or a b) ρ=rv:=bs h (bs rfl (bs rfl k))
def b7{p:OD×List Nat×OD}(h:aj ρ i ps=some p)(g:p.2.2=.fz d):ev C (.pg i ps) ρ=some (.val (.fz d),ρ):=bs h (bs (show vg p.2.2=some d by rw[g];rfl) rfl)
variable{p:OD×List Nat×OD}{cn fl':Str}{ns ns':List Str}{xs':List OD}
def zz(h:aj ρ i ps=some p)(l:p.2.2.dat=some d)(g:ρ.set i (some (OD.put (.fz d) p.2.1 p.1))=ρ1):ev C (.pf i ps) ρ=some (.val (.fz d),ρ1):=bs h (bs l (by rw[<-g]))
def Gy{m:Nat}(h:aj ρ i ps=some p)(l:p.2.2.dat=some d)(g:kB d=some m):ev C (.pl i ps) ρ=some (.val (.fz (.int m)),ρ):=bs h (bs l (bs g rfl))
def jX(h:aj ρ i ps=some p)(l:p.2.2.dat=some d)(g:mw d=some k):aY C (.pt i ps) ρ=some (k,ρ):=bs h (bs l (bs g rfl))
def oH{g:Bool}(l:ev C e ρ=some (x,ρ1))(q:ar ρ1 x=some dx)(h:aj ρ1 i ps=some p)(o:p.2.2.dat=some d)(m:jq (if g then .nin else .inn) dx d=some k):aY C (.pin g e i ps) ρ=some (k,ρ1):=bs (bs l (bs q (bs h (bs o (bs m rfl))))) rfl
def k5(h:aj ρ i ps=some p)(o:kK C e ρ=some d)(l:p.2.2=.lst xs)(g:xs.length<1000000)(m:ρ.set i (some (OD.put (.lst (xs++[.fz d])) p.2.1 p.1))=ρ1):cJ C (.apd i ps e) ρ=some (.nx,ρ1):=bs h (bs o (bs (show xG p.2.2=some xs by rw[l];rfl) (bg g (by rw[<-m]))))
theorem wy(u:ev C e ρ=some (x,ρ1))(l:frz1 ρ1 x=some (d,ρ2))(h:aj ρ2 i ps=some p)(m:ρ2[j]?.join=some (.fz kd))(hk:keyOf kd=some kk)(q:p.2.2=.dic ks xs)(o:xs.length<1000000)(g:bt kk d ks xs=(ks',xs'))(t:ρ2.set i (some (OD.put (.dic ks' xs') p.2.1 p.1))=ρ3):cJ C (.std i ps j e) ρ=some (.nx,ρ3):=bs u (bs l (bs h (bs m (bs rfl (bs hk (bs (by rw[q];rfl) (bg o (by rw[<-t];simp only[g]))))))))
theorem bU(q:ev C e ρ=some (x,ρ1))(o:own1 ρ1 x=some (z,ρ2))(h:ρ2[i]?.join=some (.obj cn ns xs))(l:Nat.blt xs.length 1000=true)(g:br fl' z ns xs=(ns',xs'))(m:ρ2.set i (some (.obj cn ns' xs'))=ρ3):cJ C (.stf i cn fl' e) ρ=some (.nx,ρ3):=bs q (bs o (bs h (bs rfl (bg ⟨rfl,ab2.mp l⟩ (by rw[<-m];simp only[g])))))
theorem wz{a r:Int}(h:aj ρ i [.fld cn fl']=some p)(u:p.2.2=.fz (.int a))(A:ev C e ρ=some (x,ρ1))(q:ar ρ1 x=some d)(t:mx o a d=some r)(l:ρ1[i]?.join=some (.obj cn ns xs))(m:Nat.blt xs.length 1000=true)(g:br fl' (.fz (.int r)) ns xs=(ns',xs'))(v:ρ1.set i (some (.obj cn ns' xs'))=ρ3):cJ C (.agf i cn fl' o e) ρ=some (.nx,ρ3):=bs h (bs (show vg p.2.2=some (.int a) by rw[u];rfl) (bs rfl (bs A (bs q (bs t (bs l (bs rfl (bg ⟨rfl,ab2.mp m⟩ (by rw[<-v];simp only[g])))))))))
def ab(h:cJ C s ρ=some (.nx,ρ1))(k:aN C ss ρ1=r):aN C (.cons s ss) ρ=r:=bs h k
def ax(h:cJ C s ρ=some (.rt z,ρ1)):aN C (.cons s ss) ρ=some (.rt z,ρ1):=bs h rfl
def ak(h:ev C e ρ=some (x,ρ1))(l:own1 ρ1 x=some (z,ρ2))(m:Nat.blt i ρ2.length=true)(g:ρ2.set i (some z)=ρ3):cJ C (.set i e) ρ=some (.nx,ρ3):=bs h (bs l (bg (ab2.mp m) (by rw[<-g])))
theorem wA{is:List Nat}(h:evs C es ρ=some (rs,ρ1))(o:mapR own1 ρ1 rs=some (zs,ρ2))(g:(zs.length==is.length&&is.all λi=>Nat.blt i ρ2.length)=true)(m:dF is zs ρ2=ρ3):cJ C (.par is es) ρ=some (.nx,ρ3):=bs h (bs o (bg (by rw[aaG,abm]at g;exact⟨eq_of_beq g.1,λi l=>ab2.mp (g.2 i l)⟩) (by rw[<-m])))
def wB(h:ev C e ρ=some (x,ρ1)):cJ C (.ex e) ρ=some (.nx,ρ1):=bs h rfl
def ah(h:ev C e ρ=some (x,ρ1))(g:mv1 ρ1 x=some (z,ρ2)):cJ C (.ret e) ρ=some (.rt z,ρ2):=bs h (bs g rfl)
def aW(h:aY C c ρ=some (true,ρ1))(k:aN C sa ρ1=r):cJ C (.iff c sa sb) ρ=r:=bs h k
def az(h:aY C c ρ=some (false,ρ1))(k:aN C sb ρ1=r):cJ C (.iff c sa sb) ρ=r:=bs h k
theorem gq(l:ρ[i]?.join=some (.lst ys))(h:ev C e ρ=some (x,ρ1))(q:own1 ρ1 x=some (z,ρ2))(g:ρ2[i]?.join=some (.lst xs))(m:xs.length<1000000)(o:ρ2.set i (some (.lst (xs++[z])))=ρ3):cJ C (.app i e) ρ=some (.nx,ρ3):=bs l (bs rfl (bs h (bs q (bs g (bs rfl (bg m (by rw[<-o])))))))
theorem oI(h:ev C e ρ=some (x,ρ1))(q:own1 ρ1 x=some (z,ρ2))(l:ρ2[i]?.join=some (.lst ys))(hk:ev C ke ρ2=some (y,ρ3))(m:ar ρ3 y=some (.int n))(g:ρ3[i]?.join=some (.lst xs))(t:ixN xs.length n=some jj)(o:ρ3.set i (some (.lst (xs.set jj z)))=ρ4):cJ C (.sti i ke e) ρ=some (.nx,ρ4):=bs h (bs q (bs l (bs rfl (bs hk (bs m (bs rfl (bs g (bs rfl (bs t (by rw[<-o]))))))))))
def cx(h:jQ C it ρ=some (ds,ρ1))(k:bD (λd g=>(be t (.fz d) g).bind λρ1=>aN C ss ρ1) ds ρ1=r):cJ C (.fr t it ss) ρ=r:=bs h k
def eX(h:ev C e ρ=some (x,ρ1))(l:ar ρ1 x=some (.int n))(g:-(2^62)<=n/\n<2^62):jQ C (.rg1 e) ρ=some (cA 0 n.toNat,ρ1):=bs h (bs l (bs rfl (bg g rfl)))
def aR(h:ev C e ρ=some (x,ρ1))(g:frz1 ρ1 x=some (d,ρ2))(hs:nF d=some ds):jQ C (.seq e) ρ=some (ds,ρ2):=bs h (bs g (bs hs rfl))
def k6(h:ev C e ρ=some (x,ρ1))(g:frz1 ρ1 x=some (.list ds,ρ2)):jQ C (.enm e) ρ=some (bX ds,ρ2):=bs h (bs g (bs rfl rfl))
def dS(h:ev C a ρ=some (x,ρ1))(h':ev C b ρ1=some (y,ρ2))(m:frz1 ρ2 x=some (dx,ρ3))(g:frz1 ρ3 y=some (dy,ρ4))(hs:nF dx=some ds)(l:nF dy=some es'):jQ C (.zip a b) ρ=some (cB ds es',ρ4):=bs h (bs h' (bs m (bs g (bs hs (bs l rfl)))))
theorem bG(g:jQ C it ρ=some (ds,ρ1))(o:ds.length<1000000)(l:bE ρ1 fr=some zc)(h:aM (aS C tg ifs elt) ds [] (List.replicate nt none++zc.1)=some (out,ρ'))(m:bL zc.2 fr (ρ'.drop nt)=ρ2):ev C (.comp nt fr it tg ifs elt) ρ=some (.val (.lst (out.map OD.fz)),ρ2):=bs g (bg o (bs l (bs h (by rw[<-m]))))
theorem zA(g:ρ[i]?.join=some (.lst (ds.map OD.fz)))(o:ds.length<1000000)(l:bE (ρ.set i none) fr=some zc)(h:aM (aS C tg ifs elt) ds [] (List.replicate nt none++zc.1)=some (out,ρ'))(m:(bL zc.2 fr (ρ'.drop nt)).set i (some (.lst (ds.map OD.fz)))=ρ2):ev C (.compB i nt fr tg ifs elt) ρ=some (.val (.lst (out.map OD.fz)),ρ2):=bs g (bs rfl (bs (fzL_of ds) (bg o (bs l (bs h (by rw[<-m]))))))
def sO(g:be tg (.fz d) ρ=some ρ1)(h:aY C ifs ρ1=some (true,ρ2))(l:ev C elt ρ2=some (x,ρ3))(m:frz1 ρ3 x=some (dx,ρ4)):aS C tg (.some ifs) elt d ρ=some ([dx],ρ4):=bs g (bs h (bs l (bs m rfl)))
def sP(g:be tg (.fz d) ρ=some ρ1)(h:aY C ifs ρ1=some (false,ρ2)):aS C tg (.some ifs) elt d ρ=some ([],ρ2):=bs g (bs h rfl)
def fA(g:be tg (.fz d) ρ=some ρ1)(h:ev C elt ρ1=some (x,ρ3))(l:frz1 ρ3 x=some (dx,ρ4)):aS C tg .none elt d ρ=some ([dx],ρ4):=bs g (bs rfl (bs h (bs l rfl)))
end
theorem sQ{step:PyData->DEnv->Option (Fl×DEnv)}(P:List PyData->DEnv->Prop)(h:∀d ds ρ,P (d::ds) ρ->∃b a,step d ρ=some (b,a)/\(b=.nx\/b=.ct)/\P ds a):∀{ds:List PyData}{ρ:DEnv},P ds ρ->∃a,bD step ds ρ=some (.nx,a)/\P [] a:=by
 intro ds;induction ds with
 |nil=>exact λ{ρ} c=>⟨ρ,rfl,c⟩
 |cons d ds l=>
  intro ρ c;obtain⟨b,k,m,j,e⟩:=h d ds ρ c;obtain⟨g,i,f⟩:=l e;refine⟨g,bs m ?_,f⟩;rcases j with rfl|rfl
  ·exact i
  ·exact i
theorem gu{step:PyData->DEnv->Option (List PyData×DEnv)}(P:List PyData->List PyData->DEnv->Prop)(h:∀d ds out ρ,P (d::ds) out ρ->∃o b,step d ρ=some (o,b)/\P ds (out++o) b):∀{ds out:List PyData}{ρ:DEnv},P ds out ρ->∃a b,aM step ds out ρ=some (a,b)/\P [] a b:=by
 intro ds;induction ds with
 |nil=>exact λ{out ρ} c=>⟨out,ρ,rfl,c⟩
 |cons d ds j=>intro out ρ c;obtain⟨o,i,l,e⟩:=h d ds out ρ c;obtain⟨a,g,k,f⟩:=j e;exact⟨a,g,bs l k,f⟩
theorem af{p:Pg}(a:p.F j=some fn)(b:xs.length=fn.io.length)(h:aN (p.ct n) fn.body (f9 fn.n xs)=some (.rt r,ρ))(c:aT 0 fn.io xs ρ=some ys):p.call (n+1) j xs=some (r,ys):=by rw[Pg.fy,a];show (if xs.length=fn.io.length then vm (p.ct n) fn xs else none)=_;rw[if_pos b];exact bs h (bs c rfl)
theorem cX{p:Pg}(a:p.F j=some fn)(b:xs.length=fn.io.length)(h:aN (p.ct n) fn.body (f9 fn.n xs)=some (.nx,ρ))(c:aT 0 fn.io xs ρ=some ys):p.call (n+1) j xs=some (.fz .none,ys):=by rw[Pg.fy,a];show (if xs.length=fn.io.length then vm (p.ct n) fn xs else none)=_;rw[if_pos b];exact bs h (bs c rfl)
def qz(h:k<n):ixN n (k:Int)=some k:=by unfold ixN;rw[if_pos (by omega),if_pos (by omega)];rfl
def bp{a:Type}{xs:List a}{k:Nat}{x:a}(h:xs[k]?=some x):atI xs (k:Int)=some x:=bs (qz (aai.mp h).1) h
def k7{b:Type}{xs:List b}{i:Int}(d:0<=i)(c:i<xs.length):∃x,x∈xs/\atI xs i=some x:=by
 have e:i=(i.toNat:Int):=by omega
 have a:i.toNat<xs.length:=by omega
 refine⟨xs[i.toNat],acv a,?_⟩;have:=bp (aan a);rw[<-e]at this;exact this
section
variable{ρ:DEnv}{ds:List PyData}{d:PyData}{i:Int}{xs:List OD}{x:OD}
def bu(h:atI ds i=some d):bC ρ (.val (.fz (.list ds))) i=some (.fz d,ρ):=by simp only[bC,itemO,h]
def item_t(h:atI ds i=some d):bC ρ (.val (.fz (.tuple ds))) i=some (.fz d,ρ):=by simp only[bC,itemO,h]
def iX(h:atI xs i=some x):bC ρ (.val (.lst xs)) i=some (x,ρ):=by simp only[bC,itemO,h]
end
end L2
namespace Np
open PySem L2
def top(i:Nat):Stmt:=PySem.Challenge.pw_nearpool_k24_plans_of_fewest_pools.main.body.getD i (.Pass ⟨0,0,0,0⟩)
def gL(j:Nat):Stmt->Stmt
 |.ClassDef _ _ _ body ..=>body.getD j (.Pass ⟨0,0,0,0⟩)
 |s=>s
abbrev IR:Es:=.cons (.nm 8) .nil
abbrev IS:Es:=.cons (.nm 4) .nil
abbrev eee:Es:=.cons (.nm 2) .nil
abbrev eed:Es:=.cons (.nm 5) .nil
abbrev eec:Es:=.cons (.nm 3) .nil
abbrev eeb:Es:=.cons (.nm 6) .nil
abbrev eea:Es:=.cons (.nm 0) .nil
abbrev ed9:Es:=.cons (.nm 1) .nil
abbrev IT:E:=.ix (.nm 2) (.nm 0)
abbrev ed7:Es:=.cons (.int 2) .nil
abbrev ed6:Es:=.cons (.int 0) .nil
abbrev IU:E:=.ix (.nm 0) (.nm 2)
abbrev ed4:E:=.ix (.nm 5) (.int 1)
abbrev ed3:E:=.ix (.nm 5) (.int 0)
abbrev ed2:E:=.ix (.nm 2) (.int 0)
abbrev ed1:E:=.ix (.nm 3) (.int 1)
abbrev ed0:E:=.ix (.nm 0) (.int 1)
abbrev edz:E:=.ix (.nm 3) (.int 0)
abbrev edy:E:=.ix (.nm 1) (.int 0)
abbrev edx:E:=.ix (.nm 0) (.int 2)
abbrev edw:E:=.ix (.nm 0) (.int 0)
abbrev edv:S':=.set 2 (.sst (.nm 1))
abbrev Jt:E:=.din false (.nm 7) 3 []
abbrev edt:E:=.cmp .eq (.nm 1) (.nm 2)
abbrev Ju:Es:=.cons (.str "stop") .nil
abbrev edr:E:=.cmp .eq (.nm 7) (.nm 6)
abbrev edq:E:=.cmp .eq (.nm 6) (.int 0)
abbrev edp:Ss:=.cons (.ret (.nm 2)) .nil
abbrev edo:E:=.cmp .inn (.nm 2) (.nm 1)
abbrev edn:Es:=.cons (.int 99999999) .nil
abbrev edm:E:=.not (.isi .tuple (.nm 3))
abbrev edl:E:=.bop .add (.nm 1) (.int 1)
abbrev edk:Ss:=.cons (.app 2 (.nm 8)) .nil
abbrev edj:Ss:=.cons (.ret (.bl true)) .nil
abbrev edi:E:=.call 2 eea
abbrev edh:E:=.call 1 ed9
abbrev G7:E:=.call 33 ed9
abbrev G8:E:=.call 33 eea
abbrev ede:E:=.call 31 ed9
abbrev edd:Ss:=.cons (.ret (.bl false)) .nil
abbrev edc:E:=.blt .abs eee
abbrev edb:E:=.blt .len eee
abbrev Jv:E:=.blt .len eed
abbrev ec9:E:=.blt .len eec
abbrev ec8:E:=.blt .len eea
abbrev ec7:E:=.blt .len ed9
abbrev ec6:Es:=.cons IU .nil
abbrev ec5:Es:=.cons edz .nil
abbrev ec4:Es:=.cons (.nm 2) eec
abbrev ec3:E:=.ix (.ix (.nm 0) (.nm 4)) (.int 2)
abbrev ec2:Es:=.cons (.nm 4) eed
abbrev ec1:Es:=.cons (.nm 5) eeb
abbrev ec0:Es:=.cons (.nm 0) ed9
abbrev ecz:It':=.zip (.nm 9) (.ix (.nm 8) (.int 1))
abbrev ecy:E:=.not (.pt 0 [.fld "Going" "words"])
abbrev ecx:E:=.not (.call 8 eec)
abbrev ecw:E:=.sll (.nm 0) (.some (.int 1)) .none
abbrev ecv:E:=.not (.call 8 eea)
abbrev ecu:E:=.not (.pt 0 [.fld "Going" "waiting"])
abbrev ect:S':=.set 3 (.call 36 eee)
abbrev ecs:E:=.bop .sub (.nm 0) (.ix (.nm 3) (.nm 1))
abbrev ecr:Es:=.cons (.pg 0 [.fld "Going" "rows"]) .nil
abbrev ecq:E:=.bop .sub (.int 0) (.ix (.nm 2) (.int 1))
abbrev Jw:E:=.ix (.pg 0 [.fld "Going" "rows"]) (.nm 1)
abbrev eco:It':=.zip edi (.nm 1)
abbrev ecn:E:=.ix (.pg 0 [.fld "Going" "reach"]) (.int 0)
abbrev IV:Es:=.cons ec8 .nil
abbrev ecl:It':=.zip edi (.nm 4)
abbrev eck:E:=.cmp .eq edw (.str "set")
abbrev ecj:E:=.blt .len (.cons ed4 .nil)
abbrev eci:E:=.blt .len ec5
abbrev ech:E:=.call 30 (.cons (.nm 0) (.cons (.int 7) .nil))
abbrev ecg:E:=.call 30 (.cons (.nm 0) (.cons (.int 3) .nil))
abbrev ecf:E:=.call 30 (.cons (.nm 0) (.cons (.int 5) .nil))
abbrev ece:E:=.call 30 (.cons (.nm 0) (.cons (.int 4) .nil))
abbrev ecd:E:=.meth "Going" "finds" 18 0 eee
abbrev ecc:Es:=.cons (.nm 0) (.cons (.bnw .tuple (.nm 1)) .nil)
abbrev Jx:E:=.meth "Going" "is_due" 16 0 ed9
abbrev eca:E:=.ix (.ix ed2 (.nm 1)) (.int 1)
abbrev Jy:E:=.cmp .lt (.nm 6) ec8
abbrev eb8:E:=.meth "Going" "may_put" 19 0 eee
abbrev eb7:Ss:=.cons (.stf 0 "Going" "waiting" (.lst .nil)) .nil
abbrev eb6:E:=.cmp .lt (.nm 7) ec8
abbrev eb5:Es:=.cons (.nm 3) ec2
abbrev eb4:Es:=.cons (.nm 0) (.cons (.nm 1) eee)
abbrev eb3:E:=.call 2 ecr
abbrev eb2:Es:=.cons (.nm 0) (.cons (.nm 1) eec)
abbrev eb1:E:=.bop .add edb (.int 1)
abbrev eb0:E:=.pin true (.nm 1) 0 [.ix (-1),.fld "Going" "words"]
abbrev ebz:E:=.pin false (.nm 1) 0 [.ix (-1),.fld "Going" "words"]
abbrev eby:E:=.blt .len ecr
abbrev ebx:E:=.cmp .ne (.sst (.ix (.nm 8) (.int 1))) (.lrg (.nm 7))
abbrev ebw:S':=.set 4 (.call 32 ec4)
abbrev ebv:S':=.set 2 (.call 29 ec0)
abbrev ebu:It':=.seq (.tup (.cons (.call 37 eee) .nil))
abbrev ebt:E:=.ix (.ix (.pg 0 [.fld "Going" "rows"]) (.nm 3)) (.int 2)
abbrev ebs:Es:=.cons (.nm 0) (.cons (.bnw .tuple (.pf 1 [.key 0])) .nil)
abbrev ebr:E:=.pin true ec3 3 [.key 5]
abbrev ebq:Es:=.cons (.nm 1) (.cons (.pg 0 [.fld "Going" "place"]) .nil)
abbrev ebp:It':=.rg1 (.bop .add ec8 (.int 1))
abbrev ebo:Es:=.cons (.nm 0) (.cons ec7 .nil)
abbrev ebn:E:=.cmp .ne (.nm 6) (.tup (.cons (.nm 3) IS))
abbrev ebm:Es:=.cons (.nm 0) (.cons (.int 100) edn)
abbrev ebl:E:=.cmp .ne (.blt .len (.cons (.ix (.nm 8) (.int 0)) .nil)) (.nm 7)
abbrev ebk:S':=.asg (.tp [5,6]) (.call 25 (.cons (.nm 0) IS))
abbrev ebj:E:=.call 1 (.cons Jw .nil)
abbrev ebi:S':=.set 2 (.ix Jw (.int 2))
abbrev Jz:Es:=.cons (.nm 3) (.cons (.nm 4) (.cons (.nm 5) IR))
abbrev ebg:Ss:=.cons (.ex (.meth "Going" "cross" 21 3 IS)) .nil
abbrev ebf:S':=.set 7 (.call 27 eb5)
abbrev ebe:S':=.set 8 (.ix (.nm 7) (.blt .min (.cons (.nm 5) (.cons (.int 4) .nil))))
abbrev ebd:E:=.not (.cmp2 .le .le (.int 1) ec9 (.gc 1))
abbrev ebc:E:=.blt .min (.cons (.int 2) IV)
abbrev ebb:E:=.cmp .lt (.lset (.nm 4)) eci
abbrev eba:S':=.set 6 (.tup (.cons (.bnw .list (.nm 3)) (.cons (.bnw .list (.nm 4)) .nil)))
abbrev ea9:E:=.cmp .nin ebt (.nm 2)
abbrev ea8:E:=.not (.call 11 (.cons (.nm 4) IV))
abbrev ea7:S':=.sdc 3 2 [] (.seq (.nm 2)) (.tp [0,1]) (.nm 0) ec7
abbrev ea6:E:=.cmp .nin (.ix (.ix (.nm 0) (.nm 8)) (.int 2)) (.ix (.ix (.nm 3) (.nm 9)) (.int 1))
abbrev ea5:E:=.not (.call 39 Jz)
abbrev ea4:E:=.cmp .inn edy (.tup (.cons (.str "go") (.cons (.str "nil") .nil)))
abbrev ea3:E:=.cmp .ne (.lset ed4) ecj
abbrev ea2:E:=.cmp .ne (.blt .len (.cons ed1 .nil)) (.blt .len eeb)
abbrev ea1:S':=.set 9 (.comp 1 [] (.seq (.nm 3)) (.nm 0) (.some G8) (.nm 0))
abbrev ea0:S':=.set 6 (.comp 1 [] (.seq (.nm 0)) (.nm 0) (.some G8) (.nm 0))
abbrev eaz:E:=.call 13 (.cons (.nm 0) (.cons (.nm 1) (.cons (.nm 2) ec1)))
abbrev eay:E:=.isb true true (.call 14 Jz)
abbrev eax:Ss:=.cons (.std 0 [.fld "Going" "uses"] 1 (.bop .sub (.pl 0 [.fld "Going" "gaps"]) (.int 1))) .nil
abbrev eaw:E:=.not (.call 12 (.cons (.nm 2) (.cons (.ix (.nm 5) (.nm 8)) (.cons (.ix (.nm 6) (.nm 9)) .nil))))
abbrev eav:E:=.cmp .ne Jv (.blt .len (.cons edi .nil))
abbrev eau:S':=.set 8 (.call 26 (.cons (.ix (.nm 6) (.int 0)) (.cons (.ix (.nm 6) (.int 1)) eed)))
abbrev eat:Ss:=.cons (.apd 0 [.ix (-1),.fld "Going" "words"] (.nm 2)) (.cons (.agf 0 "Going" "place" .add (.gc 4)) .nil)
abbrev eas:E:=.call 4 (.cons (.pg 0 [.fld "Going" "rows"]) (.cons (.pg 0 [.fld "Going" "longs"]) ed9))
abbrev ear:E:=.or (.not (.call 0 (.cons (.nm 2) (.cons edl .nil)))) edm
abbrev eaq:S':=.set 7 (.comp 2 [4] (.enm (.nm 0)) (.tp [0,1]) (.some G7) IT)
abbrev eap:Ss:=.cons (.apd 0 [.fld "Going" "waiting"] (.tup ebq)) .nil
abbrev eao:Es:=.cons (.nm 0) (.cons (.int 0) (.cons (.bop .sub (.blt .len (.cons edy .nil)) (.int 1)) .nil))
abbrev ean:E:=.cmp .eq (.blt .len (.cons (.compB 2 1 [] (.nm 0) (.some G8) (.nm 0)) .nil)) (.int 4)
abbrev eam:E:=.cmp .nin (.ix (.ix (.nm 0) (.bop .sub (.nm 6) (.int 1))) (.int 0)) (.tup (.cons (.str "go") Ju))
abbrev eal:S':=.iff Jx (.cons (.ex (.meth "Going" "lay" 17 0 ed9)) .nil) .nil
abbrev eak:S':=.par [5,6] (.cons ech (.cons ecf .nil))
abbrev eaj:S':=.agf 0 "Going" "place" .add eas
abbrev eai:E:=.or (.not (.isi .tuple ed4)) (.not (.cmp2 .le .le (.int 1) ecj (.int 100)))
abbrev eah:E:=.ix (.lst (.cons (.bl false) (.cons (.cmp .eq (.call 30 (.cons (.nm 2) ed7)) (.int 0)) (.cons (.bl true) .nil)))) (.nm 1)
abbrev eag:E:=.and (.call 33 IR) ean
abbrev eaf:E:=.or edm (.or (.cmp .ne ec9 (.int 2)) (.not (.blt .all (.cons (.comp 1 [] (.seq (.nm 3)) (.nm 0) .none (.isi .list (.nm 0))) .nil))))
abbrev eae:Ss:=.cons (.iff Jy (.cons (.app 3 (.nm 5)) (.cons (.set 5 (.bop .add (.nm 5) (.call 34 (.cons (.nm 0) (.cons (.nm 1) eeb))))) .nil)) .nil) .nil
abbrev ead:Ss:=.cons (.set 5 (.bop .sub (.bop .add (.nm 5) (.int 2)) (.bop .mod (.nm 5) (.int 2)))) (.cons (.app 4 (.nm 5)) (.cons (.set 5 (.bop .add (.nm 5) (.bop .mul (.int 2) (.blt .len IR)))) .nil))
abbrev eac:S':=.iff Jt (.cons (.app 5 (.call 6 (.cons (.nm 0) (.cons (.nm 7) eeb)))) (.cons (.set 6 (.bop .add (.ix (.nm 5) (.neg (.int 1))) (.bop .mul (.gc 4) (.pg 3 [.key 7])))) .nil)) .nil
abbrev eab:E:=.or (.not (.isi .tuple (.nm 5))) (.or (.cmp .ne Jv (.int 2)) (.not (.call 40 (.cons ed3 (.cons (.bop .add (.nm 4) (.int 1)) IV)))))
abbrev eaa:S':=.set 7 (.lst (.cons (.tup (.cons (.str "tell") eeb)) (.cons (.tup Ju) (.cons (.tup (.cons (.str "go") ed6)) (.cons (.tup (.cons (.str "nil") (.cons (.nm 6) ed6))) (.cons (.tup (.cons (.str "set") (.cons (.nm 6) (.cons (.ix (.nm 1) (.call 30 ebo)) .nil)))) .nil))))))
def fB:Fn:=⟨[false,false],2,(.cons (.iff (.or (.isi .bool (.nm 0)) (.not (.isi .int (.nm 0)))) edd .nil) (.cons (.ret (.cmp2 .le .lt (.int 0) (.nm 0) (.nm 1))) .nil))⟩
def iY:Fn:=⟨[false],1,(.cons (.ret (.and eck (.cmp .gt edx (.gc 0)))) .nil)⟩
def mS:Fn:=⟨[false],1,(.cons (.ret (.comp 2 [] (.enm (.nm 0)) (.tp [0,1]) (.some edh) (.nm 0))) .nil)⟩
def zB:Fn:=⟨[false],1,(.cons (.ret (.and (.cmp .ne edw (.str "go")) (.cmp .ne edw (.str "stop")))) .nil)⟩
def sR:Fn:=⟨[false,false,false],3,(.cons (.ret (.ife (.or (.call 1 ec6) edo) (.int 2) (.int 1))) .nil)⟩
def oJ:Fn:=⟨[false,false],2,(.cons (.ret (.or (.cmp .eq (.nm 1) (.int 0)) (.call 3 (.cons (.ix (.nm 0) (.bop .sub (.nm 1) (.int 1))) .nil)))) .nil)⟩
def k8:Fn:=⟨[false,false,false],3,(.cons (.iff (.call 5 ec0) (.cons (.aug 2 .add (.gc 3)) .nil) .nil) (.cons (.ret (.bop .sub (.bop .add (.nm 2) (.int 2)) (.bop .mod (.nm 2) (.int 2)))) .nil))⟩
abbrev ac:Str:="Going"
abbrev am:Str:="rows"
abbrev bd:Str:="nearpool.places"
abbrev bi:Str:="longs"
abbrev bm:Str:="reach"
abbrev bn:Str:="nearpool.pooling"
abbrev bv:Str:="place"
abbrev ce:Str:="self"
abbrev ci:Str:="gap"
abbrev cr:Str:="uses"
abbrev dL:Str:="thing"
abbrev dR:Str:="begin"
abbrev dV:Str:="_law_script"
abbrev em:Str:="_law_tape_here"
abbrev eH:Str:="_law_rows_here"
abbrev ga:Str:="words"
abbrev hF:Str:="waiting"
abbrev hY:Str:="_law_longs_here"
abbrev ii:Str:="gaps"
abbrev im:Str:="_law_k"
abbrev kt:Str:="law"
abbrev lc:Str:="nearpool.rows"
abbrev lf:Str:="nearpool.fewest"
abbrev lv:Str:="pools"
abbrev lw:Str:="stop"
abbrev na:Str:="is_number_below"
abbrev np:Str:="is_great"
abbrev oD:Str:="greats_of"
abbrev pc:Str:="falls"
abbrev pi:Str:="size_of"
abbrev pp:Str:="has_over"
abbrev pr:Str:="first_word"
abbrev rc:Str:="placed"
abbrev re:Str:="is_pair"
abbrev sn:Str:="is_pooled"
abbrev sw:Str:="is_pool"
abbrev sK:Str:="is_pools"
abbrev ut:Str:="reaches"
abbrev wp:Str:="all_served"
abbrev wv:Str:="is_plan"
abbrev ww:Str:="number"
abbrev wE:Str:="pools_for"
abbrev wP:Str:="choices_of"
abbrev wS:Str:="plan_of"
abbrev wT:Str:="fewest_plan"
abbrev xz:Str:="fewest_pools"
abbrev xL:Str:="_law_cell_at"
abbrev zn:Str:="_law_tape"
abbrev At:Str:="_law_take"
abbrev AT:Str:="_law_great"
abbrev BT:Str:="_law_longs"
abbrev Ch:Str:="_law_is_great"
abbrev Db:Str:="_law_size"
abbrev Ev:Str:="_law_placed"
abbrev EQ:Str:="_law_few"
abbrev Fa:Str:="_law_few_reach"
abbrev Go:Str:="_law_reaches"
abbrev Ix:Str:="_law_reach"
abbrev IN:Str:="_law_is_plan"
abbrev JZ:Str:="_law_between"
abbrev Ka:Str:="/claim/cut.py"
abbrev Kb:Str:="__init__"
abbrev Kc:Str:="_law_many"
abbrev Ke:Str:="_law_thing"
abbrev Kf:Str:="_law_numbers"
noncomputable def F_placed:Fn:=⟨[false,false,false],8,(.cons ea7 (.cons (.set 4 (.lst .nil)) (.cons (.set 5 (.lst .nil)) (.cons (.set 6 (.int 0)) (.cons (.fr (.nm 7) ebp (.cons eac (.cons (.iff eb6 (.cons (.app 4 (.nm 6)) (.cons (.aug 6 .add (.call 4 (.cons (.nm 0) (.cons (.nm 1) (.cons (.nm 7) .nil))))) .nil)) .nil) .nil))) (.cons (.ret (.tup (.cons (.nm 4) ec1))) .nil))))))⟩
def sS:Fn:=⟨[false],1,(.cons (.ret (.and (.isi .tuple (.nm 0)) (.cmp .eq ec8 (.int 2)))) .nil)⟩
def mT:Fn:=⟨[false],1,(.cons (.ret (.and (.call 0 (.cons (.nm 0) (.cons (.gc 2) .nil))) (.cmp .gt (.nm 0) (.gc 0)))) .nil)⟩
def sT:Fn:=⟨[false,false],4,(.cons (.iff ecv edd .nil) (.cons (.asg (.tp [2,3]) (.nm 0)) (.cons (.iff ear edd .nil) (.cons (.iff (.or ebd (.not (.blt .all (.cons (.comp 1 [] (.seq (.nm 3)) (.nm 0) .none (.call 9 eea)) .nil)))) edd .nil) (.cons (.ret (.cmp .eq (.lset (.nm 3)) ec9)) .nil)))))⟩
def iZ:Fn:=⟨[false,false],2,(.cons (.iff (.or (.not (.isi .list (.nm 0))) (.not (.blt .all (.cons (.comp 1 [1] (.seq (.nm 0)) (.nm 0) .none (.call 10 ec0)) .nil)))) edd .nil) (.cons (.ret (.blt .all (.cons (.comp 2 [] (.zip (.nm 0) ecw) (.tp [0,1]) .none (.cmp .lt edw edy)) .nil))) .nil))⟩
def sU:Fn:=⟨[false,false,false],5,(.cons (.asg (.tp [3,4]) (.nm 0)) (.cons (.ret (.and (.cmp .le (.bop .sub (.nm 1) (.nm 2)) (.nm 3)) (.cmp .le (.bop .sub (.nm 2) (.nm 1)) (.nm 4)))) .nil))⟩
def F_all_served:Fn:=⟨[false,false,false,false,false],10,(.cons (.asg (.tp [5,6,7]) (.call 7 eb2)) (.cons (.fr (.tp [8,9]) ecl (.cons (.iff (.or ea6 eaw) edd .nil) .nil)) edj))⟩
def jY:Fn:=⟨[false,false,false,false],6,(.cons (.iff ecx edd .nil) (.cons (.asg (.tp [4,5]) (.nm 3)) (.cons (.iff (.or ea8 (.not (.isi .list (.nm 5)))) edd .nil) (.cons (.iff (.or eav (.not (.blt .all (.cons (.comp 1 [4] (.seq (.nm 5)) (.nm 0) .none (.call 0 ebo)) .nil)))) edd .nil) (.cons (.ret (.call 13 (.cons (.nm 0) (.cons (.nm 1) (.cons (.nm 2) ec2))))) .nil)))))⟩
def gw:Fn:=⟨[true,false,false,false],4,(.cons (.stf 0 ac am (.nm 1)) (.cons (.stf 0 ac bi (.nm 2)) (.cons (.stf 0 ac bm (.nm 3)) (.cons (.stf 0 ac bv (.int 0)) (.cons (.stf 0 ac ii (.lst .nil)) (.cons (.stf 0 ac ga (.lst .nil)) (.cons (.stf 0 ac dR (.int 0)) (.cons (.stf 0 ac cr (.dnew)) eb7))))))))⟩
noncomputable def i5:Fn:=⟨[true,false],5,(.cons (.iff ecu edd .nil) (.cons (.iff (.cmp .eq (.nm 1) eby) edj .nil) (.cons (.set 2 (.bop .add (.pg 0 [.fld ac bv]) eas)) (.cons (.asg (.tp [3,4]) (.pg 0 [.ix (0),.fld ac hF])) (.cons (.ret (.cmp .gt (.bop .sub (.call 6 (.cons (.pg 0 [.fld ac am]) (.cons edl eee))) (.nm 4)) (.ix (.pg 0 [.fld ac bm]) (.int 1)))) .nil)))))⟩
noncomputable def F_Going_lay:Fn:=⟨[true,false],5,(.cons (.set 2 (.lst .nil)) (.cons (.fr (.tp [3,4]) (.seq (.pf 0 [.fld ac hF])) (.cons (.std 0 [.fld ac cr] 3 (.pl 0 [.fld ac ii])) (.cons (.iff ea9 (.cons (.app 2 ebt) .nil) .nil) .nil))) (.cons (.apd 0 [.fld ac ii] (.nm 1)) (.ali 0 [.fld ac ga] 2 (.cons (.stf 0 ac dR (.call 6 (.cons (.pg 0 [.fld ac am]) ebq))) (.cons (.stf 0 ac bv (.bop .add (.pg 0 [.fld ac dR]) (.bop .mul (.gc 4) edb))) eb7))))))⟩
def jA:Fn:=⟨[true,false],2,(.cons (.iff (.or ecy eb0) edd .nil) (.cons (.ret (.cmp .le (.bop .sub (.pg 0 [.fld ac bv]) (.pg 0 [.fld ac dR])) ecn)) .nil))⟩
def gZ:Fn:=⟨[true,false],2,(.cons (.iff (.or ecy (.or (.pt 0 [.fld ac hF]) ebz)) edd .nil) (.cons (.ret (.cmp .le (.bop .sub (.bop .add (.pg 0 [.fld ac bv]) (.gc 4)) (.pg 0 [.fld ac dR])) ecn)) .nil))⟩
def cY:Fn:=⟨[true,false],3,(.cons ebi (.cons (.iff eb8 eat .nil) (.cons (.iff ecd eax eap) .nil)))⟩
def jB:Fn:=⟨[true,false],2,(.cons eal (.cons (.iff (.cmp .lt (.nm 1) eby) (.cons (.iff ebj (.cons (.ex (.meth ac "come" 20 0 ed9)) .nil) .nil) (.cons eaj .nil)) .nil) .nil))⟩
def k9:Fn:=⟨[true],2,(.cons (.set 1 (.comp 2 [] (.zip (.pf 0 [.fld ac ii]) (.pf 0 [.fld ac ga])) (.tp [0,1]) .none (.tup ecc))) (.cons (.ret (.tup (.cons (.nm 1) (.cons (.comp 1 [0] (.seq eb3) (.nm 0) .none (.pg 1 [.key 0,.fld ac cr])) .nil)))) .nil))⟩
def mU:Fn:=⟨[false,false,false],5,(.cons (.set 3 (.make ac 15 eb4)) (.cons (.fr (.nm 4) ebp ebg) (.cons (.ret (.meth ac "plan" 22 3 .nil)) .nil)))⟩
def lg:Fn:=⟨[false],3,(.cons (.set 1 (.lst (.cons (.tup .nil) .nil))) (.cons (.fr (.nm 2) (.seq edi) (.cons (.sc2 1 2 [0] (.seq (.nm 1)) (.nm 0) (.rg1 eb1) (.nm 1) (.catV (.nm 0) (.tup ed9))) .nil)) (.cons (.ret (.nm 1)) .nil)))⟩
def F_plan_of:Fn:=⟨[false,false],6,(.cons edv (.cons (.sdl 3 1 [] (.seq (.nm 2)) (.nm 0) (.nm 0)) (.cons (.fr (.tp [4,5]) eco (.cons (.iff ebr (.cons (.apd 3 [.key 5] ec3) .nil) .nil) .nil)) (.cons (.ret (.tup (.cons (.comp 1 [3] (.seq (.nm 2)) (.nm 0) .none (.tup ebs)) (.cons (.comp 1 [2] (.seq (.nm 1)) (.nm 0) .none (.idl 1 (.nm 0))) .nil)))) .nil))))⟩
def F_fewest_plan:Fn:=⟨[false,false,false],7,(.cons (.set 3 (.call 23 eb4)) (.cons (.fr (.nm 4) (.seq (.call 24 eea)) (.cons (.iff ebb (.cons ebk (.cons (.iff eaz (.cons (.set 3 (.tup ec1)) .nil) .nil) .nil)) .nil) .nil)) (.cons (.ret (.nm 3)) .nil)))⟩
def i6:Fn:=⟨[false,false,false],3,(.cons (.ret (.blt .len (.cons (.ix (.call 26 eb4) (.int 0)) .nil))) .nil)⟩
def gx:Fn:=⟨[false,false],2,(.cons (.ret (.ife (.cmp .lt (.nm 1) ec8) (.ix (.nm 0) (.nm 1)) (.int 0))) .nil)⟩
def wC:Fn:=⟨[false,false],3,(.cons (.set 2 (.call 28 ec0)) (.cons (.ret (.lst (.cons (.bop .mul edc (.blt .int (.cons (.cmp .ge edc (.bop .pow (.int 10) (.int 18))) .nil))) (.cons (.bop .mod (.bop .mul (.bop .add (.bop .add (.bop .mod (.nm 2) (.int 2147483647)) (.bop .mul (.int 7121) (.nm 1))) (.int 43)) (.int 48271)) (.int 2147483629)) ed6)))) .nil))⟩
noncomputable def Dz:Fn:=⟨[true,false],4,(.cons (.iff (.cmp .gt edw (.int 0)) (.cons (.set 2 (.bop .mod edw (.nm 1))) (.cons (.sti 0 (.int 0) (.bop .fdiv edw (.nm 1))) edp)) .nil) (.cons (.sti 0 (.int 2) (.bop .add edx (.int 1))) (.cons (.set 3 (.bop .mod (.bop .mul (.bop .add ed0 (.bop .mul (.int 39373) edx)) (.bop .add (.int 48271) edx)) (.int 2147483647))) (.cons (.sti 0 (.int 1) (.bop .mod (.bop .add (.bop .mul (.nm 3) (.bop .add (.bop .mod (.nm 3) (.int 40009)) (.int 7))) edx) (.int 2147483629))) (.cons (.ret (.bop .mod (.bop .fdiv (.bop .mod (.bop .mul ed0 (.bop .add (.bop .mod ed0 (.int 1009)) (.int 3))) (.int 998244353)) (.int 7)) (.nm 1))) .nil)))))⟩
def zC:Fn:=⟨[true],3,(.cons (.set 1 ece) (.cons (.set 2 (.bop .add (.int 100) (.call 30 (.cons (.nm 0) (.cons (.int 99999900) .nil))))) (.cons (.ret (.ix (.lst (.cons (.ix (.lst (.cons (.int 100) (.cons (.int 101) (.cons (.int 12345) (.cons (.int 10000) (.cons (.int 9999) .nil)))))) ecf) (.cons (.bop .add (.int 100) (.call 30 (.cons (.nm 0) (.cons (.int 6) .nil)))) (.cons (.nm 2) edn)))) (.nm 1))) .nil)))⟩
def zD:Fn:=⟨[true,false],4,(.cons (.set 2 ecg) (.cons (.set 3 (.comp 2 [] (.enm (.nm 1)) (.tp [0,1]) (.some ea4) (.nm 0))) (.cons (.ret (.comp 1 [2,0] (.seq (.nm 3)) (.nm 0) (.some eah) (.nm 0))) .nil)))⟩
def fD:Fn:=⟨[false],1,(.cons (.ret (.and eck (.cmp .gt edx (.int 99)))) .nil)⟩
def DB:Fn:=⟨[false,false,false],3,(.cons (.ret (.ife (.or (.call 33 ec6) edo) (.int 2) (.int 1))) .nil)⟩
noncomputable def oK:Fn:=⟨[false,false,false],9,(.cons (.par [3,4,5] (.cons (.lst .nil) (.cons (.lst .nil) ed6))) (.cons (.fr (.nm 6) ebp (.cons (.fr (.tp [7,8]) (.seq (.nm 2)) (.cons (.iff edr (.cons (.set 5 (.bop .add (.nm 5) (.bop .mul (.int 2) (.blt .int (.cons (.or edq eam) .nil))))) ead) .nil) .nil)) eae)) (.cons (.ret (.tup eb5)) .nil)))⟩
noncomputable def F_few:Fn:=⟨[true],9,(.cons (.set 1 (.comp 1 [0] (.rg1 (.bop .add (.int 1) ecg)) (.nm 0) .none ede)) (.cons (.set 2 (.lst .nil)) (.cons (.set 3 ech) (.cons (.fr (.nm 4) (.rg1 (.nm 3)) (.cons eak (.cons eaa (.cons ebe (.cons (.iff eag (.cons (.set 8 (.tup (.cons (.str "sum") (.cons (.int 1) ed7)))) .nil) .nil) edk))))) edp))))⟩
def mV:Fn:=⟨[true],1,(.cons (.ret (.tup (.cons (.ix (.lst (.cons (.int 0) (.cons (.int 0) (.cons (.call 30 (.cons (.nm 0) (.cons (.int 16) .nil))) (.cons (.int 30) .nil))))) ece) (.cons (.ix (.lst (.cons (.int 6) (.cons (.bop .add (.int 6) (.call 30 (.cons (.nm 0) (.cons (.int 9) .nil)))) (.cons (.int 30) .nil)))) ecg) .nil)))) .nil)⟩
def gM:Fn:=⟨[false,false,false,false],8,(.cons (.asg (.tp [4,5,6]) (.call 35 (.cons (.nm 0) (.cons (.nm 1) ec5)))) (.cons eaq (.cons (.ret (.blt .all (.cons (.comp 2 [2,5] (.zip (.nm 7) ed1) (.tp [0,1]) .none (.cmp2 .le .le ecq ecs ed2)) .nil))) .nil)))⟩
noncomputable def F_l_is_plan:Fn:=⟨[false,false,false,false],7,(.cons (.iff eaf edd .nil) (.cons (.set 4 (.neg (.int 1))) (.cons (.fr (.nm 5) (.seq edz) (.cons (.iff eab edd .nil) (.cons (.set 4 ed3) (.cons (.iff eai edd .nil) (.cons (.iff (.not (.blt .all (.cons (.comp 1 [] (.seq ed4) (.nm 0) .none (.call 40 ebm)) .nil))) edd .nil) (.cons (.iff ea3 edd .nil) .nil)))))) (.cons ea0 (.cons (.iff (.or ea2 (.not (.blt .all (.cons (.comp 1 [3] (.seq ed1) (.nm 0) .none (.call 40 eao)) .nil)))) edd .nil) (.cons (.iff (.not (.blt .all (.cons (.comp 2 [3] (.zip (.nm 6) ed1) (.tp [0,1]) .none (.cmp .inn edx eca)) .nil))) edd .nil) (.cons (.ret (.call 38 (.cons (.nm 0) (.cons (.nm 1) ec4)))) .nil)))))))⟩
def sV:Fn:=⟨[false,false,false],3,(.cons (.ret (.and (.isi .int (.nm 0)) (.and (.not (.isi .bool (.nm 0))) (.cmp2 .le .le (.nm 1) (.nm 0) (.nm 2))))) .nil)⟩
noncomputable def F_law:Fn:=⟨[false],14,(.cons (.fr (.nm 1) (.rg1 (.bop .add (.int 1) ebc)) (.cons ebv (.cons ect (.cons ebw (.cons (.fr (.nm 5) ebu (.cons eba (.cons ebf (.cons eau (.cons (.iff (.or ea5 eay) edd .nil) (.cons (.iff (.or ebl (.or ebx ebn)) edd .nil) (.cons ea1 (.cons (.fr (.tn 10 [11,12]) (.enm (.ix (.nm 8) (.int 0))) (.cons (.set 13 (.comp 2 [10] ecz (.tp [0,1]) (.some edt) edx)) (.cons (.iff (.cmp .ne (.bnw .sorted (.nm 12)) (.sst (.nm 13))) edd .nil) .nil))) .nil)))))))) .nil))))) edj)⟩
def cG:Df:=⟨na,na,top 3,[dL,"limit"],[dL,"limit"],fB⟩
def i7:Df:=⟨np,np,top 4,["row"],["row"],iY⟩
def gP:Df:=⟨oD,oD,top 5,[am],[am],mS⟩
def qA:Df:=⟨pc,pc,top 6,["row"],["row"],zB⟩
def jZ:Df:=⟨pi,pi,top 11,[am,bi,"at"],[am,bi,"at"],sR⟩
def i8:Df:=⟨pp,pp,top 12,[am,ci],[am,ci],oJ⟩
def fE:Df:=⟨pr,pr,top 13,[am,ci,bv],[am,ci,bv],k8⟩
def mW:Df:=⟨rc,rc,top 14,[am,bi,lv],[am,bi,lv,ga,"places","begins",bv,ci],F_placed⟩
def j3:Df:=⟨re,re,top 15,[dL],[dL],sS⟩
def gQ:Df:=⟨sn,sn,top 16,[dL],[dL],mT⟩
def j4:Df:=⟨sw,sw,top 17,[dL,"many"],[dL,"many",ci,"numbers"],sT⟩
def i9:Df:=⟨sK,sK,top 18,[dL,"many"],[dL,"many"],iZ⟩
def j5:Df:=⟨ut,ut,top 19,[bm,bv,dR],[bm,bv,dR,"back","ahead"],sU⟩
def fF:Df:=⟨wp,wp,top 20,[am,bi,bm,lv,cr],[am,bi,bm,lv,cr,"places","begins","end","at","use"],F_all_served⟩
def j6:Df:=⟨wv,wv,top 21,[am,bi,bm,dL],[am,bi,bm,dL,lv,cr],jY⟩
def cS:Df:=⟨Kb,"Going.__init__",gL 0 (top 23),[ce,am,bi,bm],[ce,am,bi,bm],gw⟩
def dU:Df:=⟨"is_due","Going.is_due",gL 1 (top 23),[ce,ci],[ce,ci,"behind","first",bv],i5⟩
def gR:Df:=⟨"lay","Going.lay",gL 2 (top 23),[ce,ci],[ce,ci,"numbers","at",bv],F_Going_lay⟩
def eN:Df:=⟨"finds","Going.finds",gL 3 (top 23),[ce,ww],[ce,ww],jA⟩
def dq:Df:=⟨"may_put","Going.may_put",gL 4 (top 23),[ce,ww],[ce,ww],gZ⟩
def fG:Df:=⟨"come","Going.come",gL 5 (top 23),[ce,"at"],[ce,"at",ww],cY⟩
def eO:Df:=⟨"cross","Going.cross",gL 6 (top 23),[ce,ci],[ce,ci],jB⟩
def fH:Df:=⟨"plan","Going.plan",gL 7 (top 23),[ce],[ce,lv],k9⟩
def gS:Df:=⟨wE,wE,top 24,[am,bi,bm],[am,bi,bm,"going",ci],mU⟩
def fI:Df:=⟨wP,wP,top 26,[am],[am,"choices","at"],lg⟩
def j7:Df:=⟨wS,wS,top 27,[am,"choice"],[am,"choice",ii,ga,"at",ci],F_plan_of⟩
def eP:Df:=⟨wT,wT,top 28,[am,bi,bm],[am,bi,bm,"best","choice",lv,cr],F_fewest_plan⟩
def dW:Df:=⟨xz,xz,top 29,[am,bi,bm],[am,bi,bm],i6⟩
def j8:Df:=⟨xL,xL,top 31,[dV,im],[dV,im],gx⟩
def wD:Df:=⟨zn,zn,top 32,[dV,im],[dV,im,"_law_cell"],wC⟩
def wG:Df:=⟨At,At,top 33,[em,Kc],[em,Kc,"_law_found","_law_once"],Dz⟩
def qB:Df:=⟨AT,AT,top 34,[em],[em,"_law_way","_law_any_one"],zC⟩
def qC:Df:=⟨BT,BT,top 36,[em,eH],[em,eH,"_law_share","_law_jumps"],zD⟩
def fJ:Df:=⟨Ch,Ch,top 37,["_law_row"],["_law_row"],fD⟩
def wH:Df:=⟨Db,Db,top 38,[eH,hY,im],[eH,hY,im],DB⟩
def ja:Df:=⟨Ev,Ev,top 39,[eH,hY,"_law_pools"],[eH,hY,"_law_pools","_law_places","_law_begins","_law_place","_law_gap","_law_at",Kf],oK⟩
def AJ:Df:=⟨EQ,EQ,top 40,[em],[em,Kf,"_law_found",Kc,im,"_law_way","_law_r","_law_some","_law_row"],F_few⟩
def gT:Df:=⟨Fa,Fa,top 41,[em],[em],mV⟩
def gU:Df:=⟨Go,Go,top 42,[eH,hY,Ix,"_law_plan"],[eH,hY,Ix,"_law_plan","_law_places","_law_begins","_law_end","_law_spots"],gM⟩
def gV:Df:=⟨IN,IN,top 43,[eH,hY,Ix,Ke],[eH,hY,Ix,Ke,"_law_last","_law_pool","_law_greats"],F_l_is_plan⟩
def j9:Df:=⟨JZ,JZ,top 44,[Ke,"_law_low","_law_high"],[Ke,"_law_low","_law_high"],sV⟩
def D_law:Df:=⟨kt,kt,top 45,[dV],[dV,im,em,eH,hY,Ix,"_law_handed",Kc,"_law_plan","_law_greats","_law_at","_law_gap",Kf,"_law_some"],F_law⟩
noncomputable def pl:Pl where
 ds:=[(cG,.fn),(i7,.fn),(gP,.fn),(qA,.fn),(jZ,.fn),(i8,.fn),(fE,.fn),(mW,.fn),(j3,.fn),(gQ,.fn),(j4,.fn),(i9,.fn),(j5,.fn),(fF,.fn),(j6,.fn),(cS,.ini ac),(dU,.me ac),(gR,.me ac),(eN,.me ac),(dq,.me ac),(fG,.me ac),(eO,.me ac),(fH,.me ac),(gS,.fn),(fI,.fn),(j7,.fn),(eP,.fn),(dW,.fn),(j8,.fn),(wD,.fn),(wG,.fn),(qB,.fn),(qC,.fn),(fJ,.fn),(wH,.fn),(ja,.fn),(AJ,.fn),(gT,.fn),(gU,.fn),(gV,.fn),(j9,.fn),(D_law,.fn)]
 cs:=[("GREATEST_SMALL",.int 99),("MOST_WORDS",.int 100),("NUMBERS",.int 100000000),("OVER_CELLS",.int 2),("WORD_CELLS",.int 2)]
 nog:=["abs","all","bool","enumerate","int","isinstance","len","list","min","range","set","sorted","tuple","zip"]
 fld:=[(ac,dR),(ac,ii),(ac,bi),(ac,bv),(ac,bm),(ac,am),(ac,cr),(ac,hF),(ac,ga)]
abbrev Gz:Nat:=41
def GA:(pl.ds.all λz=>zy pl.tb z.1)=true:=by decide +kernel
abbrev It(i:Int):OD:=.fz (.int i)
abbrev Kg(i:Int):Option OD:=some (It i)
abbrev Tp(a b c:Int):OD:=.lst [It a,It b,It c]
abbrev Kh(a b c:Int):Option OD:=some (Tp a b c)
structure TpOk (b c:Int)(n:Nat):Prop where
 b0:0<=b
 b1:b<2147483629
 c0:0<=c
 c1:c<=n
def eQ{i j:Int}(h:(-(2^64)<i/\i<2^64)\/(-(2^64)<j/\j<2^64)):yM .mul (.int i) (.int j)=some (.int (i*j)):=bs rfl (bs rfl (bs (bg h rfl) rfl))
def dr{i j:Int}(h:0<j):yM .mod (.int i) (.int j)=some (.int (i%j)):=bs rfl (bs rfl (bs (bg h rfl) rfl))
def AK(h:0<j/\j<1073741824):yM .fdiv (.int i) (.int j)=some (.int (i/j)):=bs rfl (bs rfl (bs (bg h rfl) rfl))
def GB(a:0<m)(h:m<=2^64):-(2^64)<x%m/\x%m<2^64:=by have b:=abH x (show m≠0 by omega);have c:=abI x a;omega
def up(h:m<=a)(e:Nat.ble (a+k) b=true):m+k<=b:=aax (Nat.add_le_add_right h k) (acY e)
def JA(e:Nat.ble k b=true):m+k<=m+b:=acz (acY e) m
theorem bw(h:TpOk b c m)(o:m<=1000000)(d:0<many)(i:many<1073741824):∃x k e f,pl.pg.call (n+1) 30 [Tp a b c,It many]=some (It x,[Tp k e f,It many])/\0<=x/\x<many/\TpOk e f (m+1):=by
 have q:=h.b0;have l:=h.b1;have p:=h.c0;have j:=h.c1;by_cases g:0<a
 ·refine⟨a%many,a/many,b,c,?_,abH _ (by omega),abI _ d,⟨h.b0,h.b1,h.c0,by omega⟩⟩;refine af (ρ:=[Kh (a/many) b c,Kg many,Kg (a%many),none]) rfl rfl ?_ rfl;refine ax (aW (aG (aw rfl rfl rfl rfl (show some (decide (0<a))=some true by rw[Dac g]))) ?_);refine ab (ak (ai rfl rfl rfl rfl (dr d)) rfl rfl rfl) ?_;refine ab (oI (ai rfl rfl rfl rfl (AK ⟨d,i⟩)) rfl rfl rfl rfl rfl rfl rfl) rfl
 ·exact⟨_,a,_,c+1,af rfl rfl (ab (az (aG (aw rfl rfl rfl rfl (show some (decide (0<a))=some false by rw[Dab g]))) rfl) (ab (oI rfl rfl rfl rfl rfl rfl rfl rfl) (ab (ak (ai (ai (ai rfl (ai rfl rfl rfl rfl (eQ (.inl (by decide)))) rfl rfl rfl) (ai rfl rfl rfl rfl rfl) rfl rfl (eQ (.inr (by omega)))) rfl rfl rfl (dr (by decide))) rfl rfl rfl) (ab (oI (ai (ai (ai rfl (ai (ai rfl rfl rfl rfl (dr (by decide))) rfl rfl rfl rfl) rfl rfl (eQ (.inl (GB (by decide) (by decide))))) rfl rfl rfl rfl) rfl rfl rfl (dr (by decide))) rfl rfl rfl rfl rfl rfl rfl) (ax (ah (ai (ai (ai (ai rfl (ai (ai rfl rfl rfl rfl (dr (by decide))) rfl rfl rfl rfl) rfl rfl (eQ (.inl (GB (by decide) (by decide))))) rfl rfl rfl (dr (by decide))) rfl rfl rfl (AK (by decide))) rfl rfl rfl (dr d)) rfl)))))) rfl,abH _ (by omega),abI _ d,⟨abH _ (by decide),abI _ (by decide),by omega,by omega⟩⟩
theorem DD{n:Nat}{ns:List Int}{k:Nat}:∃x,pl.pg.call (n+1) 28 [.fz (.list (ns.map PyData.int)),It k]=some (It x,[.fz (.list (ns.map PyData.int)),It k]):=by
 by_cases b:(k:Int)<ns.length
 ·have a:k<ns.length:=by omega
  refine⟨ns[k],af (fn:=gx) rfl rfl (ax (ah (mQ (aG (aw rfl rfl rfl rfl (k:=true) ?_)) (aE rfl rfl rfl (bu (bp (x:=.int ns[k]) ?_)))) rfl)) rfl⟩
  ·show some (decide ((k:Int)<((ns.map PyData.int).length:Nat)))=some true;rw[aaa,Dac b]
  ·rw[aas,aan a];rfl
 ·refine⟨0,af (fn:=gx) rfl rfl (ax (ah (wu (aG (aw rfl rfl rfl rfl (k:=false) ?_)) rfl) rfl)) rfl⟩;show some (decide ((k:Int)<((ns.map PyData.int).length:Nat)))=some false;rw[aaa,Dab b]
theorem DF{n:Nat}{ns:List Int}{k:Nat}(hk:k<=8):∃a b,pl.pg.call (n+2) 29 [.fz (.list (ns.map PyData.int)),It k]=some (Tp a b 0,[.fz (.list (ns.map PyData.int)),It k])/\TpOk b 0 0:=by obtain⟨x,c⟩:=DD (n:=n) (ns:=ns) (k:=k);refine⟨_,_,af (fn:=wC) rfl rfl (ab (ak (ae rfl rfl c rfl) rfl rfl rfl) (ax (ah (jW (aa (ai rfl (e_blt (aa (aw rfl (ai rfl rfl rfl rfl rfl) rfl rfl rfl) ag) rfl rfl) rfl rfl (eQ (.inr ?_))) (aa (ai (ai (ai (ai (ai rfl rfl rfl rfl (dr (by decide))) (ai rfl rfl rfl rfl (eQ (.inl (by decide)))) rfl rfl rfl) rfl rfl rfl rfl) rfl rfl rfl (eQ (.inr (by decide)))) rfl rfl rfl (dr (by decide))) (aa rfl ag))) rfl rfl) rfl))) rfl,abH _ (by decide),abI _ (by decide),abJ _,abJ _⟩;exact(show ∀q:Bool,-(2^64)<(if q=true then (1:Int) else 0)/\(if q=true then (1:Int) else 0)<2^64 by decide) _
def fK{ks:List Int}{i:Int}(b:0<=i)(a:i<ks.length):∃k,k∈ks/\atI (ks.map It) i=Kg k:=by obtain⟨x,c,e⟩:=k7 (xs:=ks.map It) b (by rw[aaa];exact a);obtain⟨k,d,rfl⟩:=aat.mp c;exact⟨k,d,e⟩
def TpOk.up(h:TpOk b c m)(a:m<=m'):TpOk b c m':=⟨h.b0,h.b1,h.c0,by have:=h.c1;omega⟩
theorem zE(h:TpOk b c m)(e:m<=900000):∃k t o l,pl.pg.call (n+2) 31 [Tp a b c]=some (It k,[Tp t o l])/\(100<=k/\k<=99999999)/\TpOk o l (m+4):=by
 obtain⟨w,a1,b1,W,Q,M,J,A⟩:=bw (many:=4) h (up (k:=0) e rfl) (by decide) (by decide);obtain⟨s,Z,X,S,C,F,z,N⟩:=bw (many:=99999900) A (up e rfl) (by decide) (by decide);obtain⟨Y,U,T,c3,q,i,j,B⟩:=bw (many:=5) N (up (k:=2) e rfl) (by decide) (by decide);obtain⟨L,u,p,H,I,P,v,y⟩:=bw (many:=6) B (up (k:=3) e rfl) (by decide) (by decide);obtain⟨g,D,O⟩:=fK (ks:=[100,101,12345,10000,9999]) i j;obtain⟨k,d,r⟩:=fK (ks:=[g,100+L,100+s,99999999]) M J;refine⟨k,u,p,H,af rfl rfl (ab (ak (ae rfl rfl Q rfl) rfl rfl rfl) (ab (ak (ai rfl (ae rfl rfl C rfl) rfl rfl rfl) rfl rfl rfl) (ax (ah (aE (jW (aa (aE rfl (ae rfl rfl q rfl) rfl (iX O)) (aa (ai rfl (ae rfl rfl I rfl) rfl rfl rfl) (aa rfl (aa rfl ag)))) rfl rfl) rfl rfl (iX r)) rfl)))) rfl,?_,y⟩;have f:100<=g/\g<=99999999:=(show ∀x∈[100,101,12345,10000,9999],(100:Int)<=x/\x<=99999999 by decide) g D;rcases aab.mp d with rfl|d
 ·exact f
 rcases aab.mp d with rfl|d
 ·omega
 rcases aab.mp d with rfl|d
 ·omega
 rw[aap.mp d];decide
inductive R where|st (r k:Int)|ot (w:Str) (xs:List Int) (h:w≠"set"/\PyData.strOk w=true)
def R.num:R->Int|.st _ k=>k|.ot _ _ _=>0
abbrev Nb(rs:List R):Prop:=∀r∈rs,r.num<=99999999
def Nb.snoc(h:Nb rs)(b:r.num<=99999999):Nb (rs++[r]):=λx a=>by
 rcases aaj.mp a with a|a
 ·exact h x a
 ·rw[aap.mp a];exact b
abbrev GC(a b:Int):R:=.ot "sum" [a,b] (by decide +kernel)
abbrev fL(a:Int):R:=.ot "tell" [a] (by decide +kernel)
abbrev zF(a:Int):R:=.ot "go" [a] (by decide +kernel)
abbrev lh(a b:Int):R:=.ot "nil" [a,b] (by decide +kernel)
abbrev fM:R:=.ot lw [] (by decide +kernel)
def R.d:R->PyData|.st r k=>.tuple [.str "set",.int r,.int k]|.ot w xs _=>.tuple (.str w::xs.map PyData.int)
abbrev Rs(rs:List R):OD:=.lst (rs.map λr=>.fz r.d)
abbrev Ki(rs:List R):Option OD:=some (Rs rs)
def GD{rs:List R}{i:Int}(b:0<=i)(a:i<rs.length):∃r,r∈rs/\atI (rs.map λr=>OD.fz r.d) i=some (.fz r.d):=by obtain⟨x,c,e⟩:=k7 (xs:=rs.map λr=>OD.fz r.d) b (by rw[aaa];exact a);obtain⟨r,f,rfl⟩:=aat.mp c;exact⟨r,f,e⟩
def zG{r:R}(h:ρ[j]?.join=Ki rs)(b:atI (rs.map λr=>OD.fz r.d) i=some (.fz r.d)):bC ρ (.rf j) i=some (.fz r.d,ρ):=by
 obtain⟨k,e,a⟩:=bnd b;have c:itemS (Rs rs) i=some (r.d,Rs rs):=by simp only[Rs,itemS,e,a,OD.dat];rw[bB a]
 simp only[bC,h,c];rw[set_self (join_some h)]
def zH:Rs (rs++[r])=.lst ((rs.map λr=>OD.fz r.d)++[.fz r.d]):=by rw[Rs,aaw];rfl
def sW:∀d∈cA lo n,∃i,d=.int i:=λd a=>by obtain⟨i,_,rfl⟩:=aat.mp a;exact⟨_,rfl⟩
def R.gr:R->Bool|.st _ k=>decide (99<k)|.ot _ _ _=>false
abbrev Rd(r:R):OD:=.fz r.d
abbrev Kj(r:R):Option OD:=some (Rd r)
abbrev Rl(rs:List R):OD:=.fz (.list (rs.map R.d))
abbrev Kk(rs:List R):Option OD:=some (Rl rs)
def atI_zero{a:Type}{x:a}{xs:List a}:atI (x::xs) 0=some x:=bp (k:=0) rfl
def DH{n:Nat}(r:R):pl.pg.call (n+1) 1 [Rd r]=some (.fz (.bool r.gr),[Rd r]):=by
 cases r with
 |st r k=>rfl
 |ot w a h=>exact af (fn:=iY) rfl rfl (ax (ah (kZ (aw (aE rfl rfl rfl (item_t atI_zero)) rfl rfl rfl (show some (decide (w="set"))=some false by rw[Dab h.1]))) rfl)) rfl
def mX{n:Nat}(r:R):pl.pg.call (n+1) 33 [Rd r]=some (.fz (.bool r.gr),[Rd r]):=by
 cases r with
 |st r k=>rfl
 |ot w a h=>exact af (fn:=fD) rfl rfl (ax (ah (kZ (aw (aE rfl rfl rfl (item_t atI_zero)) rfl rfl rfl (show some (decide (w="set"))=some false by rw[Dab h.1]))) rfl)) rfl
abbrev Kt:=pl.pg.ct
theorem comp_gr:∀{rs:List R}{out:List PyData},∃a,aM (aS (Kt (n+1)) (.nm 0) (.some G8) (.nm 0)) (rs.map R.d) out [o]=some (out++((rs.filter R.gr).map R.d),[a])
 |[],out=>⟨o,by rw[List.filter_nil,aaD,aaq];rfl⟩
 |r::rs,out=>by
  cases b:r.gr with
  |false=>obtain⟨a,e⟩:=comp_gr (out:=out++[]);rw[aaq]at e;refine⟨a,?_⟩;rw[abK (by rw[b];decide)];refine bs (sP rfl (aL (ae rfl rfl (by rw[<-b];exact mX r) rfl))) ?_;rw[aaq];exact e
  |true=>obtain⟨a,e⟩:=comp_gr;refine⟨a,?_⟩;rw[ab3 b,aam];refine bs (sO rfl (aL (ae rfl rfl (by rw[<-b];exact mX r) rfl)) rfl rfl) ?_;rw[aac]at e;exact e
def R.wd:R->Str|.st _ _=>"set" |.ot w _ _=>w
def R.tl:R->List PyData|.st r k=>[.int r,.int k]|.ot _ xs _=>xs.map PyData.int
theorem dats_fz:∀ds:List PyData,OD.dv (ds.map OD.fz)=some ds
 |[]=>rfl
 |d::ds=>by rw[aam,OD.dv,dats_fz ds];rfl
def bV(ds:List PyData):(OD.lst (ds.map OD.fz)).dat=some (.list ds):=by rw[OD.dat,dats_fz]
def bo(h:ρ[j]?.join=some x)(b:x.dat=some d)(a:ρ.set j (some (.fz d))=ρ'):frz1 ρ (.rf j)=some (d,ρ'):=by simp only[frz1,h,abC,b,Option.map_some,a]
def bO{ρ a:DEnv}:bL ρ [] a=ρ:=by cases a with|nil=>rfl|cons o a=>cases o<;>rfl
def R.d_is(r:R):r.d=.tuple (.str r.wd::r.tl):=by cases r<;>rfl
def JX{w x y:Str}:∃k,jq .inn (.str w) (.tuple [.str x,.str y])=some k:=⟨_,rfl⟩
def wI{rs:List R}:∀d∈bX (rs.map R.d),∃(i:Int) (r:R),d=.tuple [.int i,r.d]:=λd c=>by
 obtain⟨k,f⟩:=abz c;obtain⟨e,a,rfl⟩:=fZ f;rw[aas]at a;cases b:rs[k]? with
 |none=>rw[b]at a;cases a
 |some r=>rw[b]at a;cases a;exact⟨k,r,rfl⟩
theorem oM{C:Ct}{rs:List R}:∃(ls:List Int) (ρ:DEnv),aM (aS C (.tp [0,1]) (.some ea4) (.nm 0)) (bX (rs.map R.d)) [] [none,none]=some (ls.map PyData.int,ρ)/\ls.length<=rs.length:=by
 obtain⟨out,ρ,e,_,⟨ls,rfl,a⟩,_⟩:=gu (step:=aS C (.tp [0,1]) (.some ea4) (.nm 0))
  (λds out ρ=>(∀d∈ds,∃(i:Int) (r:R),d=.tuple [.int i,r.d])/\(∃ls:List Int,out=ls.map PyData.int/\ls.length+ds.length<=rs.length)/\∃g c,ρ=[g,c]) (λd ds out ρ=>by
   rintro⟨b,⟨ls,rfl,a⟩,g,c,rfl⟩;obtain⟨i,r,rfl⟩:=b _ aad;rw[aau]at a;obtain⟨k,j⟩:=JX (w:=r.wd) (x:="go") (y:="nil");have f:aY C ea4 [Kg i,Kj r]=some (k,[Kg i,Kj r]):=aG (aw (aE rfl rfl rfl (by rw[R.d_is];exact item_t atI_zero)) rfl rfl rfl j);cases k with
   |false=>exact⟨[],_,sP rfl f,λd h=>b d (aah _ h),⟨ls,by rw[aaq],by omega⟩,_,_,rfl⟩
   |true=>exact⟨[.int i],_,sO rfl f rfl rfl,λd h=>b d (aah _ h),⟨ls++[i],by rw[aaw];rfl,by rw[aal,aaH];omega⟩,_,_,rfl⟩)
  (ds:=bX (rs.map R.d)) (out:=[]) (ρ:=[none,none]) ⟨wI,⟨[],rfl,by rw[cN,aaa,aaJ,aaT];exact aae _⟩,_,_,rfl⟩
 exact⟨ls,ρ,e,by rw[aaJ]at a;omega⟩
theorem oN(I:0<=sh)(D:sh<3)(h:TpOk b c m){js:List Int}(N:m+js.length<=100000):∃(ls:List Int) (r l j:Int) (o:Option OD),aM (aS (Kt (n+1)) (.nm 0) (.some eah) (.nm 0)) (js.map PyData.int) [] [none,Kg sh,Kh a b c]=some (ls.map PyData.int,[o,Kg sh,Kh r l j])/\TpOk l j (m+js.length):=by
 obtain⟨i,ρ,e,⟨g,s⟩,⟨ls,rfl⟩,o,r,l,j,rfl,t⟩:=gu (step:=aS (Kt (n+1)) (.nm 0) (.some eah) (.nm 0))
  (λp i ρ=>(∃g:List Int,p=g.map PyData.int/\g.length<=js.length)/\(∃ls:List Int,i=ls.map PyData.int)/\∃o a b c,ρ=[o,Kg sh,Kh a b c]/\TpOk b c (m+(js.length-p.length))) (λd p i ρ=>by
   rintro⟨⟨g,s,A⟩,⟨ls,rfl⟩,o,a,b,c,rfl,t⟩;cases g with
   |nil=>cases s
   |cons k g=>
    cases s;rw[aau,aaa]at t;rw[aau]at A;obtain⟨x,O,J,B,M,H,L,F⟩:=bw (many:=2) t (by omega) (by decide) (by decide);obtain⟨y,w,z⟩:=k7 (xs:=[OD.fz (.bool false),.fz (.bool (decide (x=0))),.fz (.bool true)]) I D;obtain⟨q,rfl⟩:∃q:Bool,y=.fz (.bool q):=by simp only[aab,aao,or_false]at w;rcases w with rfl|rfl|rfl<;>exact⟨_,rfl⟩
    have u:=IQ (C:=Kt (n+1)) (ρ:=[Kg k,Kg sh,Kh a b c]) (aE (jW (aa rfl (aa (aw (ae (f:=30) (es:=.cons (.nm 2) ed7) rfl rfl M rfl) (b:=.int 0) (o:=.eq) rfl rfl rfl rfl) (aa (e:=.bl true) rfl ag)) (e:=.bl false)) rfl rfl) (b:=.nm 1) rfl rfl (iX z));have v:TpOk J B (m+(js.length-(g.map PyData.int).length)):=F.up (by rw[aaa];omega);cases q with
    |false=>exact⟨[],_,sP rfl u,⟨g,rfl,by omega⟩,⟨ls,by rw[aaq]⟩,_,_,_,_,rfl,v⟩
    |true=>exact⟨[.int k],_,sO rfl u rfl rfl,⟨g,rfl,by omega⟩,⟨ls++[k],by rw[aaw];rfl⟩,_,_,_,_,rfl,v⟩)
  ⟨⟨js,rfl,aae _⟩,⟨[],rfl⟩,_,a,b,c,rfl,h.up (by omega)⟩
 exact⟨ls,r,l,j,o,e,t.up (by omega)⟩
theorem zI{rs:List R}(B:rs.length<=200)(h:TpOk b c m)(j:m<=90000):∃(ls:List Int) (r g f:Int),pl.pg.call (n+2) 32 [Tp a b c,Rl rs]=some (.lst (ls.map It),[Tp r g f,Rl rs])/\TpOk g f (m+300):=by
 obtain⟨y,D,C,A,x,d,e,s⟩:=bw (many:=3) h (up (k:=0) j rfl) (by decide) (by decide);obtain⟨js,q,u,z⟩:=oM (rs:=rs);obtain⟨ls,v,t,l,o,i,w⟩:=oN d e s (js:=js) (by omega);have p:(ls.map PyData.int).map OD.fz=ls.map It:=by rw[abd];rfl
 refine⟨ls,v,t,l,af rfl rfl (ab (ak (ae rfl rfl x rfl) rfl rfl rfl) (ab (ak (bG (k6 rfl rfl) (by rw[cN,aaa];omega) rfl u bO) rfl rfl rfl) (ax (ah (bG (aR rfl (bo rfl (bV _) rfl) rfl) (by rw[aaa];omega) rfl i rfl) (by rw[p];rfl))))) rfl,w.up (by omega)⟩
def oO(h:r.gr=k):pl.pg.call (n+1) 33 [Rd r]=some (.fz (.bool k),[Rd r]):=h▸mX r
abbrev Il(gs:List Int):OD:=.lst (gs.map It)
def fN(gs:List Int):(gs.map PyData.int).map OD.fz=gs.map It:=by rw[abd];rfl
def aA(gs:List Int):(Il gs).dat=some (.list (gs.map PyData.int)):=by rw[Il,<-fN,bV]
def jb(rs:List R):(rs.map R.d).map OD.fz=rs.map λr=>OD.fz r.d:=by rw[abd];rfl
def mY(h:ρ[j]?.join=some (Il gs))(b:atI (gs.map It) i=Kg g):bC ρ (.rf j) i=some (It g,ρ):=by
 obtain⟨k,d,a⟩:=bnd b;have c:itemS (Il gs) i=some (.int g,Il gs):=by simp only[Il,itemS,d,a,OD.dat];rw[bB a]
 simp only[bC,h,c];rw[set_self (join_some h)]
theorem mZ(h:TpOk b c m)(u:m+4*N<=800000):∃(gs:List Int) (q p l:Int) (o:Option OD),aM (aS (Kt (n+2)) (.nm 0) .none ede) (cA 0 N) [] [none,Kh a b c]=some (gs.map PyData.int,[o,Kh q p l])/\gs.length=N/\(∀g∈gs,100<=g/\g<=99999999)/\TpOk p l (m+4*N):=by
 obtain⟨f,r,e,gs,q,p,l,o,rfl,i,k,rfl,t⟩:=gu (step:=aS (Kt (n+2)) (.nm 0) .none ede)
  (λds f r=>∃(gs:List Int) (a b c:Int) (o:Option OD),f=gs.map PyData.int/\gs.length+ds.length=N/\(∀g∈gs,100<=g/\g<=99999999)/\r=[o,Kh a b c]/\TpOk b c (m+4*gs.length)) (λd ds f r=>by
   rintro⟨gs,a,b,c,o,rfl,i,k,rfl,t⟩;rw[aau]at i;obtain⟨g,A,z,v,B,w,y⟩:=zE t (aax (acz (acZ 4 (Nat.le.intro i)) m) (aax u (by decide)));have s:(gs++[g]).length=gs.length+1:=aal;refine⟨[.int g],_,fA rfl (ae rfl rfl B rfl) rfl,gs++[g],A,z,v,_,by rw[aaw];rfl,by rw[s,Nat.add_right_comm];exact i,λx j=>?_,rfl,y.up (by rw[s];exact aae _)⟩;rcases aaj.mp j with j|j
   ·exact k x j
   ·rw[aap.mp j];exact w)
  (ds:=cA 0 N) ⟨[],a,b,c,none,rfl,by rw[dG,aaJ,aaT],(λg k=>absurd k aao),rfl,h⟩
 rw[aaJ]at i;exact⟨gs,q,p,l,o,e,by omega,k,t.up (by omega)⟩
abbrev lI(a b c:Int)(gs:List Int)(rs:List R)(mn:Int)(o4 o5 o6 o7 o8:Option OD):DEnv:=[Kh a b c,some (Il gs),Ki rs,Kg mn,o4,o5,o6,o7,o8]
def wJ:(lI a b c gs rs mn o4 o5 o6 o7 o8).set 2 (some (.lst ((rs.map λr=>OD.fz r.d)++[.fz r.d])))=lI a b c gs (rs++[r]) mn o4 o5 o6 o7 o8:=by rw[<-zH];rfl
theorem qD(f:rs.length<=1000):aY (Kt (n+2)) ean (lI a b c gs rs mn o4 o5 o6 o7 o8)=some (decide (((rs.filter R.gr).length:Int)=4),lI a b c gs rs mn o4 o5 o6 o7 o8):=by
 obtain⟨g,e⟩:=comp_gr;refine aG (aw (e_blt (ds:=[.list ((rs.filter R.gr).map R.d)]) (d:=.int (rs.filter R.gr).length) (aa (zA (by rw[jb];rfl) (by rw[aaa];omega) rfl e (by rw[bO,jb];rfl)) ag) ?_ ?_) rfl rfl rfl rfl)
 ·exact pW (bV _)
 ·show some (PyData.int (((rs.filter R.gr).map R.d).length:Nat))=_;rw[aaa]
abbrev GE:Ss:=match F_few.body with|.cons _ (.cons _ (.cons _ (.cons (.fr _ _ b) _)))=>b|_=>.nil
theorem wK(h:TpOk b c m)(w:m<=100000)(P:rs.length<=1000)(hg:∀g∈gs,100<=g/\g<=99999999)(g0:0<gs.length)(g1:gs.length<100)(v:(rs.filter R.gr).length<=4/\Nb rs):
  ∃p,((be (.nm 4) (.fz (.int i)) (lI a b c gs rs mn o4 o5 o6 o7 o8)).bind λρ1=>aN (Kt (n+2)) GE ρ1)=some (.nx,p)/\∃(r:R) (Y L H:Int) (p4 p5 p6 W U:Option OD),p=lI Y L H gs (rs++[r]) mn p4 p5 p6 W U/\(((rs++[r]).filter R.gr).length<=4/\Nb (rs++[r]))/\TpOk L H (m+4):=by
 obtain⟨f,a1,b1,c1,e1,a4,a5,t1⟩:=bw (many:=7) h (up (k:=0) w rfl) (by decide) (by decide);obtain⟨d,O,N,F,e2,a0,Z,t2⟩:=bw (many:=5) t1 (up w rfl) (by decide) (by decide);obtain⟨x3,l,j,o,T,x,A,M⟩:=bw (many:=gs.length) t2 (up (k:=2) w rfl) (by omega) (by omega);obtain⟨g,B,eg⟩:=fK x A;obtain⟨y,D⟩:∃y:Int,y=(if 4<f then 4 else f):=⟨_,rfl⟩
 have S:0<=y/\y<5:=by rw[D];split<;>omega
 obtain⟨r,s,X⟩:=GD (rs:=[fL d,fM,zF 0,lh d 0,.st d g]) S.1 S.2;have J:cJ (Kt (n+2)) eak (lI a b c gs rs mn (Kg i) o5 o6 o7 o8)=some (.nx,lI O N F gs rs mn (Kg i) (Kg f) (Kg d) o7 o8):=
  wA (aa (ae rfl rfl e1 rfl) (aa (ae rfl rfl e2 rfl) ag)) rfl rfl rfl
 have Q:cJ (Kt (n+2)) eaa (lI O N F gs rs mn (Kg i) (Kg f) (Kg d) o7 o8)=some (.nx,lI l j o gs rs mn (Kg i) (Kg f) (Kg d) (some (Rs [fL d,fM,zF 0,lh d 0,.st d g])) o8):=
  ak (jW (aa rfl (aa rfl (aa rfl (aa rfl (aa (eM (aa rfl (aa rfl (aa (aE rfl (ae (aa rfl (aa (e_blt rfl (pW (aA gs)) (by show some (PyData.int ((gs.map PyData.int).length:Nat))=_;rw[aaa])) ag)) rfl T rfl) rfl (mY rfl eg)) ag))) rfl rfl rfl) ag))))) rfl rfl) rfl rfl rfl
 have I:cJ (Kt (n+2)) ebe (lI l j o gs rs mn (Kg i) (Kg f) (Kg d) (some (Rs [fL d,fM,zF 0,lh d 0,.st d g])) o8)=some (.nx,lI l j o gs rs mn (Kg i) (Kg f) (Kg d) (some (Rs [fL d,fM,zF 0,lh d 0,.st d g])) (Kj r)):=
  ak (aE rfl (e_blt rfl rfl (show _=some (PyData.int y) by rw[D];rfl)) rfl (zG rfl X)) rfl rfl rfl
 have u:∀q:R,aN (Kt (n+2)) edk (lI l j o gs rs mn (Kg i) (Kg f) (Kg d) (some (Rs [fL d,fM,zF 0,lh d 0,.st d g])) (Kj q))=some (.nx,lI l j o gs (rs++[q]) mn (Kg i) (Kg f) (Kg d) (some (Rs [fL d,fM,zF 0,lh d 0,.st d g])) (Kj q)):=λq=>
  ab (gq rfl rfl rfl rfl (by rw[aaa];omega) wJ) rfl
 have t:r.num<=99999999:=by simp only[aab,aao,or_false]at s;rcases s with rfl|rfl|rfl|rfl|rfl<;>first|exact(by decide:(0:Int)<=99999999)|exact(hg g B).2
 by_cases C:r.gr=true/\(rs.filter R.gr).length=4
 ·refine⟨_,bs rfl (ab J (ab Q (ab I (ab (aW (wx (aL (ae rfl rfl (oO C.1) rfl)) ((qD P).trans (by rw[Dac (by omega)]))) (ab (ak (ρ3:=lI l j o gs rs mn (Kg i) (Kg f) (Kg d) (some (Rs [fL d,fM,zF 0,lh d 0,.st d g])) (Kj (GC 1 2))) rfl rfl rfl rfl) rfl)) (u _))))),GC 1 2,l,j,o,_,_,_,_,_,rfl,⟨?_,v.2.snoc (by decide)⟩,M.up (JA (k:=3) rfl)⟩;rw[List.filter_append,aal];exact v.1
 ·have ht:aY (Kt (n+2)) eag (lI l j o gs rs mn (Kg i) (Kg f) (Kg d) (some (Rs [fL d,fM,zF 0,lh d 0,.st d g])) (Kj r))=some (false,lI l j o gs rs mn (Kg i) (Kg f) (Kg d) (some (Rs [fL d,fM,zF 0,lh d 0,.st d g])) (Kj r)):=by
   cases e:r.gr with
   |false=>exact Dy (aL (ae rfl rfl (oO e) rfl))
   |true=>exact wx (aL (ae rfl rfl (oO e) rfl)) ((qD P).trans (by rw[Dab (λz=>C ⟨e,by omega⟩)]))
  refine⟨_,bs rfl (ab J (ab Q (ab I (ab (az ht rfl) (u r))))),r,l,j,o,_,_,_,_,_,rfl,⟨?_,v.2.snoc t⟩,M.up (JA (k:=3) rfl)⟩;rw[List.filter_append,aal];cases e:r.gr with
  |false=>rw[abK (by rw[e];decide)];exact v.1
  |true=>have:([r].filter R.gr).length<=1:=abn _ _;have:(rs.filter R.gr).length≠4:=λz=>C ⟨e,z⟩;omega
theorem GF(h:TpOk b c m)(H:m<=90000):∃(rs:List R) (w p l:Int),pl.pg.call (n+3) 36 [Tp a b c]=some (Rs rs,[Tp w p l])/\rs.length<=6/\((rs.filter R.gr).length<=4/\Nb rs)/\TpOk p l (m+60):=by
 obtain⟨q,a1,b1,c1,e1,a0,a4,t1⟩:=bw (many:=3) h (up (k:=0) H rfl) (by decide) (by decide);obtain⟨gs,a2,b2,c2,o,e2,O,hg,F⟩:=mZ t1 (N:=(1+q).toNat) (by omega);have x:(1+q).toNat<=3:=by omega
 have F:=F.up (show m+1+4*(1+q).toNat<=m+13 from acz (acZ 4 x) (m+1));obtain⟨j,a3,b3,c3,S,W,Z,t3⟩:=bw (many:=7) F (up (k:=13) H rfl) (by decide) (by decide);have hN:j.toNat<=6:=by omega
 obtain⟨f,U,rs,a6,P,Q,A,z,B,y,C,rfl,g,s,_,Y⟩:=sQ (step:=λd f=>(be (.nm 4) (.fz d) f).bind λv=>aN (Kt (n+2)) GE v)
  (λds J=>∃(rs:List R) (a b c:Int) (A z B y C:Option OD),J=lI a b c gs rs j A z B y C/\rs.length+ds.length=j.toNat/\((rs.filter R.gr).length<=4/\Nb rs)/\(∀d∈ds,∃i,d=.int i)/\TpOk b c (m+14+4*rs.length)) (λd ds J=>by
   rintro⟨rs,a,b,c,A,z,B,y,C,rfl,g,s,L,t⟩;obtain⟨i,rfl⟩:=L _ aad;have M:rs.length<=6:=aax (Nat.le.intro g) hN;obtain⟨f,e,r,w,p,l,p4,p5,p6,T,X,rfl,D,t'⟩:=wK t (by omega) (by omega) hg (by rw[O];omega) (by rw[O];omega) s;have I:(rs++[r]).length=rs.length+1:=aal;rw[aau]at g;exact⟨.nx,_,e,.inl rfl,rs++[r],w,p,l,p4,p5,p6,T,X,rfl,by rw[I];omega,D,λd u=>L d (aah _ u),t'.up (by rw[I];omega)⟩)
  (ds:=cA 0 j.toNat) ⟨[],a3,b3,c3,none,none,none,none,none,rfl,by rw[dG,aaJ,aaT],⟨aaI _,λr M=>absurd M aao⟩,sW,t3⟩
 have g:rs.length=j.toNat:=g;refine⟨rs,a6,P,Q,af rfl rfl (ab (ak (bG (eX (ai rfl (ae rfl rfl e1 rfl) rfl rfl rfl) rfl (by omega)) (by rw[dG];omega) rfl e2 rfl) (by rw[fN];rfl) rfl rfl) (ab (ak rfl rfl rfl rfl) (ab (ak (ae rfl rfl S rfl) rfl rfl rfl) (ab (cx (eX rfl rfl (by omega)) U) (ax (ah rfl rfl)))))) rfl,by omega,s,Y.up (by omega)⟩
theorem wL(h:TpOk b c m)(d:m<=900000):∃r0 r1 v z x,pl.pg.call (n+2) 37 [Tp a b c]=some (.fz (.tuple [.int r0,.int r1]),[Tp v z x])/\0<=r0/\6<=r1:=by
 obtain⟨r,a1,Y,S,M,H,I,y⟩:=bw (many:=16) h (up (k:=0) d rfl) (by decide) (by decide);obtain⟨Q,W,U,N,B,i,f,J⟩:=bw (many:=4) y (up d rfl) (by decide) (by decide);obtain⟨C,P,O,X,q,s,t,A⟩:=bw (many:=9) J (up (k:=2) d rfl) (by decide) (by decide);obtain⟨Z,w,p,D,F,j,e,T⟩:=bw (many:=3) A (up (k:=3) d rfl) (by decide) (by decide);obtain⟨g,l,L⟩:=fK (ks:=[0,0,r,30]) i f;obtain⟨k,o,u⟩:=fK (ks:=[6,6+C,30]) j e;refine⟨g,k,w,p,D,af rfl rfl (ax (ah (eM (aa (aE (jW (aa rfl (aa rfl (aa (ae rfl rfl M rfl) (aa rfl ag)))) rfl rfl) (ae rfl rfl B rfl) rfl (iX L)) (aa (aE (jW (aa rfl (aa (ai rfl (ae rfl rfl q rfl) rfl rfl rfl) (aa rfl ag))) rfl rfl) (ae rfl rfl F rfl) rfl (iX u)) ag)) rfl rfl rfl) rfl)) rfl,?_,?_⟩
 ·simp only[aab,aao,or_false]at l;rcases l with rfl|rfl|rfl|rfl<;>omega
 ·simp only[aab,aao,or_false]at o;rcases o with rfl|rfl|rfl<;>omega
structure Cf where
 rows:List R
 longs:List Int
 r0:Int
 r1:Int
structure G where
 pl:Int
 gaps:List Int
 words:List (List Int)
 bg:Int
 us:List (Int×Int)
 wt:List (Int×Int)
abbrev Lo(f:Cf):OD:=.fz (.list (f.longs.map PyData.int))
abbrev Kl(f:Cf):Option OD:=some (Lo f)
abbrev Re(f:Cf):OD:=.fz (.tuple [.int f.r0,.int f.r1])
abbrev Wq(q:Int×Int):PyData:=.tuple [.int q.1,.int q.2]
abbrev Wl(wt:List (Int×Int)):OD:=.lst ((wt.map Wq).map OD.fz)
abbrev gN:List Str:=[am,bi,bm,bv,ii,ga,dR,cr,hF]
abbrev gD(us:List (Int×Int)):OD:=.dic (us.map λu=>.inl u.1) (us.map λu=>It u.2)
abbrev gO(f:Cf)(pl:Int)(gaps:OD)(words:OD)(bg:Int)(us:OD)(wt:OD):OD:=.obj ac gN [Rl f.rows,Lo f,Re f,It pl,gaps,words,It bg,us,wt]
abbrev GO(f:Cf)(g:G):OD:=gO f g.pl (Il g.gaps) (.lst (g.words.map Il)) g.bg (gD g.us) (Wl g.wt)
section
variable{f:Cf}{p b:Int}{x4 x5 x7 x8:OD}{ρ:DEnv}
def dX:aj (some (gO f p x4 x5 b x7 x8)::ρ) 0 [.fld ac am]=some ((gO f p x4 x5 b x7 x8),[0],Rl f.rows):=rfl
def qH:aj (some (gO f p x4 x5 b x7 x8)::ρ) 0 [.fld ac bi]=some ((gO f p x4 x5 b x7 x8),[1],Lo f):=rfl
def lj:aj (some (gO f p x4 x5 b x7 x8)::ρ) 0 [.fld ac bm]=some ((gO f p x4 x5 b x7 x8),[2],Re f):=rfl
def cZ:aj (some (gO f p x4 x5 b x7 x8)::ρ) 0 [.fld ac bv]=some ((gO f p x4 x5 b x7 x8),[3],It p):=rfl
def ll:aj (some (gO f p x4 x5 b x7 x8)::ρ) 0 [.fld ac ii]=some ((gO f p x4 x5 b x7 x8),[4],x4):=rfl
def c7:aj (some (gO f p x4 x5 b x7 x8)::ρ) 0 [.fld ac ga]=some ((gO f p x4 x5 b x7 x8),[5],x5):=rfl
def lp:aj (some (gO f p x4 x5 b x7 x8)::ρ) 0 [.fld ac dR]=some ((gO f p x4 x5 b x7 x8),[6],It b):=rfl
def wM:aj (some (gO f p x4 x5 b x7 x8)::ρ) 0 [.fld ac cr]=some ((gO f p x4 x5 b x7 x8),[7],x7):=rfl
def cT:aj (some (gO f p x4 x5 b x7 x8)::ρ) 0 [.fld ac hF]=some ((gO f p x4 x5 b x7 x8),[8],x8):=rfl
def f_place:br bv (It q) gN [Rl f.rows,Lo f,Re f,It p,x4,x5,It b,x7,x8]=(gN,[Rl f.rows,Lo f,Re f,It q,x4,x5,It b,x7,x8]):=rfl
def zJ:br dR (It q) gN [Rl f.rows,Lo f,Re f,It p,x4,x5,It b,x7,x8]=(gN,[Rl f.rows,Lo f,Re f,It p,x4,x5,It q,x7,x8]):=rfl
def sX:br hF q gN [Rl f.rows,Lo f,Re f,It p,x4,x5,It b,x7,x8]=(gN,[Rl f.rows,Lo f,Re f,It p,x4,x5,It b,x7,q]):=rfl
end
theorem DJ:pl.pg.call (n+1) 15 [.obj ac [] [],Rl f.rows,Lo f,Re f]=some (.fz .none,[GO f ⟨0,[],[],0,[],[]⟩,Rl f.rows,Lo f,Re f]):=cX rfl rfl (ab (bU rfl rfl rfl rfl rfl rfl) (ab (bU rfl rfl rfl rfl rfl rfl) (ab (bU rfl rfl rfl rfl rfl rfl) (ab (bU rfl rfl rfl rfl rfl rfl) (ab (bU rfl rfl rfl rfl rfl rfl) (ab (bU rfl rfl rfl rfl rfl rfl) (ab (bU rfl rfl rfl rfl rfl rfl) (ab (bU rfl rfl rfl rfl rfl rfl) (ab (bU rfl rfl rfl rfl rfl rfl) rfl))))))))) rfl
def R.fal(r:R):Bool:=!decide (r.wd="go")&&!decide (r.wd=lw)
def zK(rs:List R):Nat->Bool
 |0=>true
 |k+1=>(rs[k]?).elim true R.fal
def fw(rs:List R)(k:Nat)(p:Int):Int:=let q:=if zK rs k=true then p+2 else p;q+2-q%2
def sz(f:Cf)(k:Nat):Int:=if (f.rows[k]?).elim false R.gr=true\/(k:Int)∈f.longs then 2 else 1
theorem zL(r:R):pl.pg.call (n+1) 3 [Rd r]=some (.fz (.bool r.fal),[Rd r]):=by
 unfold R.fal;have a:∀x:Str,ev (Kt n) (.cmp .ne edw (.str x)) [Kj r]=some (.val (.fz (.bool (!decide (r.wd=x)))),[Kj r]):=λx=>aw (aE rfl rfl rfl (by rw[R.d_is];exact item_t atI_zero)) rfl rfl rfl rfl;cases b:(!decide (r.wd="go")) with
 |false=>exact af rfl rfl (ax (ah (kZ (by rw[<-b];exact a "go")) rfl)) rfl
 |true=>rw[Bool.true_and];exact af rfl rfl (ax (ah (gp (by rw[<-b];exact a "go") (a lw)) rfl)) rfl
def fO{rs:List R}{k:Nat}(h:rs[k]?=some r):atI (rs.map R.d) (k:Int)=some r.d:=bp (by rw[aas,h];rfl)
theorem jc:∀{ls:List Int},memD (.int x) (ls.map PyData.int)=some (decide (x∈ls))
 |[]=>by simp[memD]
 |y::ls=>by rw[aam,memD,jc (ls:=ls)];show some (decide (y=x)||decide (x∈ls))=_;rw[<-Bool.decide_or];congr 1;rw[decide_eq_decide,aab];exact⟨λh=>h.imp Eq.symm id,λh=>h.imp Eq.symm id⟩
def inL{ls:List Int}:jq .inn (.int x) (.list (ls.map PyData.int))=some (decide (x∈ls)):=bs (f:=λa=>(gd (Cc (PyData.int x)=true)).bind λ_=>memD (.int x) a) rfl (bg rfl jc)
def ninL{ls:List Int}:jq .nin (.int x) (.list (ls.map PyData.int))=some (!decide (x∈ls)):=bs (inL ) rfl
theorem oP{k:Nat}(h:f.rows[k]?=some r):pl.pg.call (n+2) 4 [Rl f.rows,Lo f,It k]=some (It (sz f k),[Rl f.rows,Lo f,It k]):=by
 unfold sz;rw[h];have a:=ae (C:=Kt (n+1)) (f:=1) (es:=.cons IU .nil) (ρ:=[Kk f.rows,Kl f,Kg k]) (aa (aE rfl rfl rfl (bu (fO h))) ag) rfl (DH r) rfl;cases c:r.gr with
 |true=>rw[c]at a;rw[if_pos (.inl c)];exact af rfl rfl (ax (ah (mQ (mR (aL a)) rfl) rfl)) rfl
 |false=>
  rw[c]at a;have b:aY (Kt (n+1)) edo [Kk f.rows,Kl f,Kg k]=some (decide ((k:Int)∈f.longs),[Kk f.rows,Kl f,Kg k]):=aG (aw rfl rfl rfl rfl inL);cases d:decide ((k:Int)∈f.longs) with
  |true=>rw[d]at b;rw[if_pos (.inr (Daa d))];exact af rfl rfl (ax (ah (mQ (aV (aL a) b) rfl) rfl)) rfl
  |false=>rw[d]at b;rw[if_neg λz=>z.elim (λz=>absurd (c.symm.trans z) aak) λz=>Dad d z];exact af rfl rfl (ax (ah (wu (aV (aL a) b) rfl) rfl)) rfl
theorem DL{k:Nat}(h:k<=rs.length):pl.pg.call (n+2) 5 [Rl rs,It k]=some (.fz (.bool (zK rs k)),[Rl rs,It k]):=by
 cases k with
 |zero=>exact af rfl rfl (ax (ah (AH rfl) rfl)) rfl
 |succ k=>
  have c:=zL (n:=n) rs[k];have b:zK rs (k+1)=(rs[k]).fal:=by show (rs[k]?).elim true R.fal=_;rw[aan h];rfl
  rw[b];have a:((k+1:Nat):Int)-1=(k:Int):=by omega
  exact af rfl rfl (ax (ah (AI (aw rfl rfl rfl rfl (show some (decide (((k+1:Nat):Int)=0))=some false by rw[Dab (by omega)])) (ae (aa (aE rfl rfl rfl (bu (by rw[a];exact fO (aan (by omega))))) ag) rfl c rfl)) rfl)) rfl
theorem lq{rs:List R}{k:Nat}(h:k<=rs.length):pl.pg.call (n+3) 6 [Rl rs,It k,It p]=some (It (fw rs k p),[Rl rs,It k,It p]):=by
 unfold fw;have c:=DL (n:=n) h;have a:=ae (C:=Kt (n+2)) (f:=5) (es:=.cons (.nm 0) ed9) (ρ:=[Kk rs,Kg k,Kg p]) rfl rfl c rfl;cases b:zK rs k with
 |true=>rw[b]at a;exact af rfl rfl (ab (aW (aL a) (ab rfl rfl)) (ax (ah (ai rfl (ai rfl rfl rfl rfl (dr (by decide))) rfl rfl rfl) rfl))) rfl
 |false=>rw[b]at a;exact af rfl rfl (ab (az (aL a) rfl) (ax (ah (ai rfl (ai rfl rfl rfl rfl (dr (by decide))) rfl rfl rfl) rfl))) rfl
def oQ(wt:List (Int×Int)):(Wl wt).dat=some (.list (wt.map Wq)):=bV _
def tru_l{a:Type}{f:a->PyData}{l:List a}:mw (.list (l.map f))=some (!l.isEmpty):=by show some (!(l.map f).isEmpty)=_;rw[List.isEmpty_map]
def wN{a:Type}{f:a->PyData}{l:List a}:kB (.list (l.map f))=some l.length:=by show some (l.map f).length=_;rw[aaa]
def blen{a:Type}{f:a->PyData}{l:List a}:Ed .len [.list (l.map f)]=some (.int l.length):=by show (eT [PyData.list (l.map f)]).bind (λd=>(kB d).bind λn=>some (PyData.int n))=_;exact bs rfl (bs wN rfl)
def due(f:Cf)(g:G)(k:Nat):Bool:=g.wt.head?.elim false λq=>decide ((k:Int)=f.rows.length)||decide (fw f.rows (k+1) (g.pl+sz f k)-q.2>f.r1)
theorem GG{k:Nat}(hk:k<=f.rows.length):pl.pg.call (n+4) 16 [GO f g,It k]=some (.fz (.bool (due f g k)),[GO f g,It k]):=by
 unfold due;have b:aY (Kt (n+3)) ecu [some (GO f g),Kg k,none,none,none]=some (!(!g.wt.isEmpty),[some (GO f g),Kg k,none,none,none]):=aP (jX cT (oQ _) tru_l);cases d:g.wt with
 |nil=>rw[d]at b;exact af rfl rfl (ax (aW b (ax rfl))) rfl
 |cons q l=>
  rw[d]at b;have a:ev (Kt (n+3)) eby [some (GO f g),Kg k,none,none,none]=some (.val (It f.rows.length),[some (GO f g),Kg k,none,none,none]):=e_blt (aa (b7 dX rfl) ag) rfl blen;by_cases e:(k:Int)=f.rows.length
  ·show _=some (OD.fz (PyData.bool (decide ((k:Int)=f.rows.length)||decide (fw f.rows (k+1) (g.pl+sz f k)-q.2>f.r1))),_);rw[Dac e,Bool.true_or];exact af rfl rfl (ab (az b rfl) (ax (aW (aG (aw rfl a rfl rfl (show some (decide ((k:Int)=f.rows.length))=some true by rw[Dac e]))) (ax rfl)))) rfl
  ·have c:k<f.rows.length:=by omega
   have j:=oP (n:=n+1) (aan c);have h:=lq (n:=n) (p:=g.pl+sz f k) c;show _=some (OD.fz (PyData.bool (decide ((k:Int)=f.rows.length)||decide (fw f.rows (k+1) (g.pl+sz f k)-q.2>f.r1))),_);rw[Dab e,acl];have i:aj [some (GO f g),Kg k,Kg (g.pl+sz f k),none,none] 0 [.ix 0,.fld ac hF]=some (GO f g,[8,0],.fz (Wq q)):=bs cT (bs (bs rfl (by rw[d];exact qz (by simp))) (bs (by show (List.map OD.fz (g.wt.map Wq))[0]?=_;rw[d];rfl) rfl));exact af rfl rfl (ab (az b rfl) (ab (az (aG (aw rfl a rfl rfl (show some (decide ((k:Int)=f.rows.length))=some false by rw[Dab e]))) rfl) (ab (ak (ai (b7 cZ rfl) (ae (aa (b7 dX rfl) (aa (b7 qH rfl) (aa rfl ag))) rfl j rfl) rfl rfl rfl) rfl rfl rfl) (ab (bs (b7 i rfl) (bs rfl (bs rfl rfl))) (ax (ah (aw (ai (ae (aa (b7 dX rfl) (aa rfl (aa rfl ag))) rfl h rfl) rfl rfl rfl rfl) (aE (b7 lj rfl) rfl rfl rfl) rfl rfl rfl) rfl)))))) rfl
def nu(f:Cf)(a:Int):Int:=((f.rows[a.toNat]?).map R.num).getD 0
def Gt(f:Cf)(a:Int):Prop:=∃(i:Nat) (r k:Int),a=i/\f.rows[i]?=some (.st r k)
def qI{i:Nat}(h:f.rows[i]?=some (.st r k)):nu f i=k:=by unfold nu;rw[aaP,h];rfl
def a8(ns:List Int)(x:Int):List Int:=if x∈ns then ns else ns++[x]
def cH{ns:List Int}{x:Int}:Il (ns++[x])=.lst (ns.map It++[It x]):=by rw[Il,aaw];rfl
abbrev wF(wt:List (Int×Int)):OD:=.fz (.list (wt.map Wq))
theorem putK_new(h:a ∉ us.map (·.1)):bt (.inl a) (.int v) (us.map λu=>.inl u.1) (us.map λu=>It u.2)=((us++[(a,v)]).map λu=>.inl u.1,(us++[(a,v)]).map λu=>It u.2):=by
 have f:¬ ((us.map λu=>(Sum.inl u.1:Key)).any λq=>decide (q=.inl a))=true:=by intro b;obtain⟨q,d,e⟩:=abG.mp b;obtain⟨u,c,rfl⟩:=aat.mp d;have:=Daa e;cases this;exact h (aat.mpr ⟨u,c,rfl⟩)
 unfold bt;rw[if_neg f,aaw,aaw];rfl
theorem wO(c:(some (gO f p x4 x5 b x7 x8)::ρ)[j]?.join=Kg a)(h:Gt f a):ev C (.ix (.ix (.pg 0 [.fld ac am]) (.nm j)) (.int 2)) (some (gO f p x4 x5 b x7 x8)::ρ)=some (.val (It (nu f a)),some (gO f p x4 x5 b x7 x8)::ρ):=by obtain⟨i,r,k,rfl,h⟩:=h;rw[qI h];refine aE (aE (y:=.val (It i)) (b7 dX rfl) ?_ rfl (bu (fO h))) rfl rfl rfl;rw[As,c]
theorem m3{n:Nat}{f:Cf}{p bg:Int}{gaps:List Int}{x5:OD}{gap:OD}{wtF:OD}(m:gaps.length<1000000):∀(wt:List (Int×Int)) (us:List (Int×Int)) (ns:List Int) (j o4:Option OD),(∀q∈wt,Gt f q.1)->(us.map (·.1)++wt.map (·.1)).Nodup->us.length+wt.length<1000->ns.length+wt.length<1000 ->
  ∃a g,bD (λd k=>(be (.tp [3,4]) (.fz d) k).bind λρ1=>aN (Kt n) (match F_Going_lay.body with|.cons _ (.cons (.fr _ _ b) _)=>b|_=>.nil) ρ1) (wt.map Wq) [some (gO f p (Il gaps) x5 bg (gD us) wtF),some gap,some (Il ns),j,o4]=some (.nx,[some (gO f p (Il gaps) x5 bg (gD (us++wt.map λq=>(q.1,(gaps.length:Int)))) wtF),some gap,some (Il (wt.foldl (λns q=>a8 ns (nu f q.1)) ns)),a,g])
 |[],us,ns,j,o4,_,_,_,_=>⟨j,o4,by simp only[aaD,aaq];rfl⟩
 |q::wt,us,ns,j,o4,hG,nd,hl,hn=>by
  rw[aau]at hl hn;have l:=hG q aad;have c:q.1 ∉ us.map (·.1):=λh=>(aaB.mp nd).2.2 q.1 h q.1 (by rw[aam];exact aad) rfl;obtain⟨a,g,e⟩:=m3 (n:=n) (f:=f) (p:=p) (bg:=bg) (x5:=x5) (gap:=gap) (wtF:=wtF) m wt (us++[(q.1,(gaps.length:Int))]) (a8 ns (nu f q.1)) (Kg q.1) (Kg q.2) (λz o=>hG z (aah _ o)) (by rw[aaw,aac];exact nd) (by rw[aal,aaH];omega) (by unfold a8;split;omega;rw[aal,aaH];omega);refine⟨a,g,bs (x:=(.nx,[some (gO f p (Il gaps) x5 bg (gD (us++[(q.1,(gaps.length:Int))])) wtF),some gap,some (Il (a8 ns (nu f q.1))),Kg q.1,Kg q.2])) (bs (x:=[some (gO f p (Il gaps) x5 bg (gD us) wtF),some gap,some (Il ns),Kg q.1,Kg q.2]) rfl ?_) ?_⟩
  ·refine ab (wy (ρ3:=[some (gO f p (Il gaps) x5 bg (gD (us++[(q.1,(gaps.length:Int))])) wtF),some gap,some (Il ns),Kg q.1,Kg q.2]) (Gy ll (aA _) wN) rfl wM rfl rfl rfl (by rw[aaa];omega) (putK_new c) rfl) ?_;have i:aY (Kt n) ea9 [some (gO f p (Il gaps) x5 bg (gD (us++[(q.1,(gaps.length:Int))])) wtF),some gap,some (Il ns),Kg q.1,Kg q.2]=some (!decide (nu f q.1∈ns),[some (gO f p (Il gaps) x5 bg (gD (us++[(q.1,(gaps.length:Int))])) wtF),some gap,some (Il ns),Kg q.1,Kg q.2]):=aG (aw (wO rfl l) rfl rfl (aA _) ninL);by_cases h:nu f q.1∈ns
   ·rw[Dac h]at i;unfold a8;rw[if_pos h];exact ab (az i rfl) rfl
   ·rw[Dab h]at i;unfold a8;rw[if_neg h];exact ab (aW i (ab (gq (xs:=ns.map It) rfl (wO rfl l) rfl rfl (by rw[aaa];omega) (by rw[cH];rfl)) rfl)) rfl
  ·rw[aac]at e;exact e
def cy{a b:Type}{f:a->b}{l:List a}{x:a}:(l++[x]).map f=l.map f++[f x]:=by rw[aaw];rfl
def zM{l:List OD}{x:OD}:(OD.lst (l++[x])).at [l.length]=some x:=by
 have e:(OD.lst (l++[x])).kids[l.length]?=some x:=by show (l++[x])[l.length]?=some x;rw[aaU]
 simp only[OD.at,e]
def m4{l:List OD}{x y:OD}:OD.put y [l.length] (.lst (l++[x]))=.lst (l++[y]):=by
 have e:(OD.lst (l++[x])).kids[l.length]?=some x:=by show (l++[x])[l.length]?=some x;rw[aaU]
 simp only[OD.put,e,OD.et];rw[List.set_append_right _ _ (aae _),ab4];rfl
def jd(f:Cf)(g:G)(k:Nat):G:=
 ⟨fw f.rows k g.pl+2*(g.wt.foldl (λa q=>a8 a (nu f q.1)) []).length,g.gaps++[(k:Int)],g.words++[g.wt.foldl (λa q=>a8 a (nu f q.1)) []],fw f.rows k g.pl,g.us++g.wt.map λq=>(q.1,(g.gaps.length:Int)),[]⟩
theorem GH{n:Nat}{f:Cf}{g:G}{k:Nat}(hk:k<=f.rows.length)(j:∀q∈g.wt,Gt f q.1)(i:(g.us.map (·.1)++g.wt.map (·.1)).Nodup)(l:g.us.length+g.wt.length<1000)(m:g.gaps.length<1000)(o:g.words.length<1000):
  pl.pg.call (n+4) 17 [GO f g,It k]=some (.fz .none,[GO f (jd f g k),It k]):=by
 unfold jd;obtain⟨b,c,e⟩:=m3 (n:=n+3) (f:=f) (p:=g.pl) (bg:=g.bg) (gaps:=g.gaps) (x5:=.lst (g.words.map Il)) (gap:=It k) (wtF:=wF g.wt) (by omega) g.wt g.us [] none none j i (by omega) (by rw[aaJ];omega);generalize hns:g.wt.foldl (λa q=>a8 a (nu f q.1)) []=a at e ⊢;generalize hus:(g.us++g.wt.map λq=>(q.1,(g.gaps.length:Int)))=us at e ⊢;have h:=lq (n:=n) (rs:=f.rows) (k:=k) (p:=g.pl) hk;generalize fw f.rows k g.pl=v at h ⊢;refine cX (fn:=F_Going_lay) (ρ:=[some (GO f ⟨v+2*a.length,g.gaps++[(k:Int)],g.words++[a],v,us,[]⟩),Kg k,none,b,c]) rfl rfl ?_ rfl;refine ab (ak (ρ3:=[some (GO f g),Kg k,some (Il []),none,none]) rfl rfl rfl rfl) ?_;refine ab (cx (aR (ds:=g.wt.map Wq) (ρ2:=[some (gO f g.pl (Il g.gaps) (.lst (g.words.map Il)) g.bg (gD g.us) (wF g.wt)),Kg k,some (Il []),none,none]) (zz cT (oQ _) rfl) rfl rfl) e) ?_;refine ab (k5 (ρ1:=[some (gO f g.pl (Il (g.gaps++[(k:Int)])) (.lst (g.words.map Il)) g.bg (gD us) (wF g.wt)),Kg k,some (Il a),b,c]) (d:=.int k) ll rfl rfl (by rw[aaa];omega) (by rw[cH];rfl)) ?_;refine bs c7 (sH (xs:=g.words.map Il) (y:=Il a) rfl (by rw[aaa];omega) (by decide) rfl λu=>⟨[some (gO f (v+2*a.length) (Il (g.gaps++[(k:Int)])) (.lst (g.words.map Il++[.hole u])) v (gD us) (.lst [])),Kg k,some (Il a),b,c],?_,?_⟩)
 ·refine ab (bU (ρ3:=[some (gO f g.pl (Il (g.gaps++[(k:Int)])) (.lst (g.words.map Il++[.hole u])) v (gD us) (wF g.wt)),Kg k,some (Il a),b,c]) (ae (ρ3:=[some (gO f g.pl (Il (g.gaps++[(k:Int)])) (.lst (g.words.map Il++[.hole u])) g.bg (gD us) (wF g.wt)),Kg k,some (Il a),b,c]) (aa (b7 dX rfl) (aa rfl (aa (b7 cZ rfl) ag))) rfl h rfl) rfl rfl rfl zJ rfl) ?_;refine ab (bU (z:=It (v+2*a.length)) (ρ3:=[some (gO f (v+2*a.length) (Il (g.gaps++[(k:Int)])) (.lst (g.words.map Il++[.hole u])) v (gD us) (wF g.wt)),Kg k,some (Il a),b,c]) (ai (b7 lp rfl) (ai (dx:=.int 2) (dy:=.int a.length) rfl (e_blt rfl (pW (aA _)) blen) rfl rfl (eQ (.inl (by decide)))) rfl rfl rfl) rfl rfl rfl f_place rfl) ?_;exact ab (bU (ρ3:=[some (gO f (v+2*a.length) (Il (g.gaps++[(k:Int)])) (.lst (g.words.map Il++[.hole u])) v (gD us) (.lst [])),Kg k,some (Il a),b,c]) rfl rfl rfl rfl sX rfl) rfl
 ·refine⟨_,Il a,rfl,?_,rfl,by decide,?_⟩
  ·exact zM
  ·show _=[some (gO f (v+2*a.length) (Il (g.gaps++[(k:Int)])) (OD.put (Il a) [(g.words.map Il).length] (.lst (g.words.map Il++[.hole u]))) v (gD us) (.lst [])),Kg k,none,b,c];rw[m4,<-cy];rfl
def wQ:ixN (n+1) (-1)=some n:=by unfold ixN;rw[if_neg (by decide),if_pos (by omega)];congr 1;omega
def oR:aj (some (gO f p x4 (.lst (l++[y])) b x7 x8)::ρ) 0 [.ix (-1),.fld ac ga]=some (gO f p x4 (.lst (l++[y])) b x7 x8,[5,l.length],y):=
 bs c7 (bs (by show ixN (l++[y]).length (-1)=_;rw[aal];exact wQ) (bs (by show (l++[y])[l.length]?=_;rw[aaU]) rfl))
theorem qJ:∀ws:List (List Int),OD.dv (ws.map Il)=some (ws.map λw=>.list (w.map PyData.int))
 |[]=>rfl
 |w::ws=>by rw[aam,OD.dv,aA,qJ ws];rfl
def je(ws:List (List Int)):(OD.lst (ws.map Il)).dat=some (.list (ws.map λw=>.list (w.map PyData.int))):=by rw[OD.dat,qJ]
def wR(h:g.words=[]):pl.pg.call (n+1) 18 [GO f g,It x]=some (.fz (.bool false),[GO f g,It x]):=by have a:aY (Kt n) ecy [some (GO f g),Kg x]=some (!(!g.words.isEmpty),[some (GO f g),Kg x]):=aP (jX c7 (je _) tru_l);rw[h]at a;exact af rfl rfl (ax (aW (mR a) (ax rfl))) rfl
theorem qK(h:g.words=ws++[w]):pl.pg.call (n+1) 18 [GO f g,It x]=some (.fz (.bool (decide (x∈w/\g.pl-g.bg<=f.r0))),[GO f g,It x]):=by
 have c:aY (Kt n) ecy [some (GO f g),Kg x]=some (!(!g.words.isEmpty),[some (GO f g),Kg x]):=aP (jX c7 (je _) tru_l);have d:(!(!g.words.isEmpty))=false:=by rw[h];cases ws<;>rfl
 rw[d]at c;have a:aY (Kt n) eb0 [some (GO f g),Kg x]=some (!decide (x∈w),[some (GO f g),Kg x]):=by rw[GO,h,cy];exact oH rfl rfl oR (aA w) ninL
 by_cases b:x∈w
 ·rw[Dac b]at a;have e:decide (x∈w/\g.pl-g.bg<=f.r0)=decide (g.pl-g.bg<=f.r0):=by rw[decide_eq_decide];exact⟨λz=>z.2,λz=>⟨b,z⟩⟩
  rw[e];exact af rfl rfl (ab (az (aV c a) rfl) (ax (ah (aw (ai (b7 cZ rfl) (b7 lp rfl) rfl rfl rfl) (aE (b7 lj rfl) rfl rfl rfl) rfl rfl rfl) rfl))) rfl
 ·rw[Dab b]at a;rw[Dab (λz=>b z.1)];exact af rfl rfl (ax (aW (aV c a) (ax rfl))) rfl
def DM(h:g.words=[]):pl.pg.call (n+1) 19 [GO f g,It x]=some (.fz (.bool false),[GO f g,It x]):=by have a:aY (Kt n) ecy [some (GO f g),Kg x]=some (!(!g.words.isEmpty),[some (GO f g),Kg x]):=aP (jX c7 (je _) tru_l);rw[h]at a;exact af rfl rfl (ax (aW (mR a) (ax rfl))) rfl
theorem AL(h:g.words=ws++[w]):pl.pg.call (n+1) 19 [GO f g,It x]=some (.fz (.bool (decide (g.wt=[]/\x ∉ w/\g.pl+2-g.bg<=f.r0))),[GO f g,It x]):=by
 have d:aY (Kt n) ecy [some (GO f g),Kg x]=some (!(!g.words.isEmpty),[some (GO f g),Kg x]):=aP (jX c7 (je _) tru_l);have j:(!(!g.words.isEmpty))=false:=by rw[h];cases ws<;>rfl
 rw[j]at d;have a:aY (Kt n) (.pt 0 [.fld ac hF]) [some (GO f g),Kg x]=some (!g.wt.isEmpty,[some (GO f g),Kg x]):=jX cT (oQ _) tru_l;have c:aY (Kt n) ebz [some (GO f g),Kg x]=some (decide (x∈w),[some (GO f g),Kg x]):=by rw[GO,h,cy];exact oH rfl rfl oR (aA w) inL
 cases b:g.wt with
 |cons q k=>rw[b]at a;rw[Dab (λz=>List.cons_ne_nil _ _ z.1)];exact af rfl rfl (ax (aW (aV d (mR a)) (ax rfl))) rfl
 |nil=>
  rw[b]at a;by_cases i:x∈w
  ·rw[Dac i]at c;rw[Dab (λz=>z.2.1 i)];exact af rfl rfl (ax (aW (aV d (aV a c)) (ax rfl))) rfl
  ·rw[Dab i]at c;have e:decide (([]:List (Int×Int))=[]/\x ∉ w/\g.pl+2-g.bg<=f.r0)=decide (g.pl+2-g.bg<=f.r0):=by rw[decide_eq_decide];exact⟨λz=>z.2.2,λz=>⟨rfl,i,z⟩⟩
   rw[e];exact af rfl rfl (ab (az (aV d (aV a c)) rfl) (ax (ah (aw (ai (ai (b7 cZ rfl) rfl rfl rfl rfl) (b7 lp rfl) rfl rfl rfl) (aE (b7 lj rfl) rfl rfl rfl) rfl rfl rfl) rfl))) rfl
def wU(h:pl.pg.call (n+1) 19 [GO f g,It x]=some (.fz (.bool k),[GO f g,It x])):aY (Kt (n+1)) eb8 [some (GO f g),some o,Kg x]=some (k,[some (GO f g),some o,Kg x]):=oG (eW rfl (by decide +kernel) rfl rfl h rfl)
def wV(h:pl.pg.call (n+1) 18 [GO f g,It x]=some (.fz (.bool k),[GO f g,It x])):aY (Kt (n+1)) ecd [some (GO f g),some o,Kg x]=some (k,[some (GO f g),some o,Kg x]):=oG (eW rfl (by decide +kernel) rfl rfl h rfl)
inductive Come (f:Cf)(g:G)(a:Int):G->Prop
 |put {ws:List (List Int)}{w:List Int} (h:g.words=ws++[w]) (hw:g.wt=[]) (hn:nu f a ∉ w) (hr:g.pl+2-g.bg<=f.r0):Come f g a ⟨g.pl+2,g.gaps,ws++[w++[nu f a]],g.bg,g.us++[(a,(g.gaps.length:Int)-1)],g.wt⟩
 |got {ws:List (List Int)}{w:List Int} (h:g.words=ws++[w]) (hn:nu f a∈w) (hr:g.pl-g.bg<=f.r0):Come f g a ⟨g.pl,g.gaps,g.words,g.bg,g.us++[(a,(g.gaps.length:Int)-1)],g.wt⟩
 |wait (h:∀ws w,g.words=ws++[w]->g.wt=[]->(nu f a∈w/\f.r0<g.pl-g.bg)\/(nu f a ∉ w/\f.r0<g.pl+2-g.bg)):Come f g a ⟨g.pl,g.gaps,g.words,g.bg,g.us,g.wt++[(a,g.pl)]⟩
theorem m5(fresh:a ∉ g.us.map (·.1))(b:g.us.length<1000):aN (Kt (n+1)) eax [some (GO f g),Kg a,Kg x]=some (.nx,[some (GO f ⟨g.pl,g.gaps,g.words,g.bg,g.us++[(a,(g.gaps.length:Int)-1)],g.wt⟩),Kg a,Kg x]):=
 ab (wy (ai (Gy ll (aA _) wN) rfl rfl rfl rfl) rfl wM rfl rfl rfl (by rw[aaa];omega) (putK_new fresh) rfl) rfl
def zN:Wl (wt++[q])=.lst ((wt.map Wq).map OD.fz++[.fz (Wq q)]):=by rw[Wl,cy,cy]
theorem ka(b:g.wt.length<1000):aN (Kt (n+1)) eap [some (GO f g),Kg a,Kg x]=some (.nx,[some (GO f ⟨g.pl,g.gaps,g.words,g.bg,g.us,g.wt++[(a,g.pl)]⟩),Kg a,Kg x]):=
 ab (k5 cT (bs (bs rfl (bs (bs (bs cZ rfl) rfl) rfl)) rfl) rfl (by rw[aaa,aaa];omega) (by show _=[some (gO f g.pl (Il g.gaps) (.lst (g.words.map Il)) g.bg (gD g.us) (Wl (g.wt++[(a,g.pl)]))),Kg a,Kg x];rw[zN];rfl)) rfl
theorem DN(u:Gt f a)(fresh:a ∉ g.us.map (·.1))(q:g.us.length<1000)(r:g.wt.length<1000)(m:∀w∈g.words,w.length<1000):∃g',pl.pg.call (n+2) 20 [GO f g,It a]=some (.fz .none,[GO f g',It a])/\Come f g a g':=by
 have l:cJ (Kt (n+1)) ebi [some (GO f g),Kg a,none]=some (.nx,[some (GO f g),Kg a,Kg (nu f a)]):=ak (wO rfl u) rfl rfl rfl;rcases ab5 g.words with h|⟨d,w,h⟩
 ·exact⟨_,cX rfl rfl (ab l (ab (az (wU (DM h)) rfl) (ab (az (wV (wR h)) (ka r)) rfl))) rfl,.wait λd w z=>absurd (h.symm.trans z) (by simp)⟩
 ·rw[ab6]at h;by_cases c:g.wt=[]/\nu f a ∉ w/\g.pl+2-g.bg<=f.r0
  ·have i:=wU (o:=It a) (AL (n:=n) (f:=f) (x:=nu f a) h);rw[Dac c]at i;have s:aN (Kt (n+1)) eat [some (GO f g),Kg a,Kg (nu f a)]=some (.nx,[some (GO f ⟨g.pl+2,g.gaps,d++[w++[nu f a]],g.bg,g.us,g.wt⟩),Kg a,Kg (nu f a)]):=by
    have t:w.length<1000:=m w (by rw[h];exact aag _ aad);rw[GO,h,cy];refine ab (k5 (ρ1:=[some (gO f g.pl (Il g.gaps) (.lst (d.map Il++[Il (w++[nu f a])])) g.bg (gD g.us) (Wl g.wt)),Kg a,Kg (nu f a)]) oR rfl rfl (by rw[aaa];omega) ?_) (ab (wz cZ rfl rfl rfl rfl rfl rfl f_place ?_) rfl)
    ·show [some (gO f g.pl (Il g.gaps) (OD.put (.lst (w.map It++[It (nu f a)])) [(d.map Il).length] (.lst (d.map Il++[Il w]))) g.bg (gD g.us) (Wl g.wt)),Kg a,Kg (nu f a)]=_;rw[m4,cH]
    ·rw[GO,cy];rfl
   have b:=wV (o:=It a) (qK (n:=n) (f:=f) (x:=nu f a) (g:=⟨g.pl+2,g.gaps,d++[w++[nu f a]],g.bg,g.us,g.wt⟩) rfl);rw[Dac ⟨aag _ aad,c.2.2⟩]at b;exact⟨_,cX rfl rfl (ab l (ab (aW i s) (ab (aW b (m5 fresh q)) rfl))) rfl,.put h c.1 c.2.1 c.2.2⟩
  ·have i:=wU (o:=It a) (AL (n:=n) (f:=f) (x:=nu f a) h);rw[Dab c]at i;have b:=wV (o:=It a) (qK (n:=n) (f:=f) (x:=nu f a) h);by_cases j:nu f a∈w/\g.pl-g.bg<=f.r0
   ·rw[Dac j]at b;exact⟨_,cX (fn:=cY) rfl rfl (ab l (ab (az i rfl) (ab (aW b (m5 fresh q)) rfl))) rfl,.got h j.1 j.2⟩
   ·rw[Dab j]at b;refine⟨_,cX (fn:=cY) rfl rfl (ab l (ab (az i rfl) (ab (az b (ka r)) rfl))) rfl,.wait λv y z p=>?_⟩;obtain⟨rfl,e⟩:=abw (h.symm.trans z) rfl;obtain rfl:=(ab7 e).1;by_cases k:nu f a∈w
    ·exact .inl ⟨k,Int.not_le.mp λz=>j ⟨k,z⟩⟩
    ·exact .inr ⟨k,Int.not_le.mp λz=>c ⟨p,k,z⟩⟩
def gIx:Int->List R->List Int
 |_,[]=>[]
 |i,r::rs=>if r.gr=true then i::gIx (i+1) rs else gIx (i+1) rs
theorem qL:∀{a b:List R}{i:Int},gIx i (a++b)=gIx i a++gIx (i+a.length) b
 |[],b,i=>by simp[gIx]
 |r::a,b,i=>by
  have e:i+1+(a.length:Int)=i+((r::a).length:Nat):=by rw[aau];omega
  rw[aaQ,gIx,gIx,qL ,e];split<;>rfl
theorem c8:∀{rs:List R}{i a:Int},a∈gIx i rs->∃(j:Nat) (r:R),a=i+j/\rs[j]?=some r/\r.gr=true
 |[],i,a,h=>absurd h aao
 |r::rs,i,a,h=>by
  rw[gIx]at h;by_cases c:r.gr=true
  ·rw[if_pos c]at h;rcases aab.mp h with rfl|h
   ·exact⟨0,r,by simp,rfl,c⟩
   ·obtain⟨j,q,e,b,d⟩:=c8 h;exact⟨j+1,q,by rw[e];omega,b,d⟩
  ·rw[if_neg c]at h;obtain⟨j,q,e,b,d⟩:=c8 h;exact⟨j+1,q,by rw[e];omega,b,d⟩
theorem eF:∀{rs:List R}{i:Int},(gIx i rs).Nodup
 |[],i=>aa1
 |r::rs,i=>by
  rw[gIx];split
  ·refine aaA.mpr ⟨λh=>?_,eF⟩;obtain⟨j,q,e,_⟩:=c8 h;omega
  ·exact eF
def gr_st{r:R}(h:r.gr=true):∃x k,r=.st x k:=by
 cases r with
 |st x k=>exact⟨x,k,rfl⟩
 |ot w a b=>cases h
def oS(h:a∈gIx 0 (f.rows.take k)):Gt f a:=by
 obtain⟨j,r,e,b,c⟩:=c8 h;obtain⟨x,y,rfl⟩:=gr_st c;refine⟨j,x,y,by omega,?_⟩;rw[acs]at b;split at b
 ·exact b
 ·cases b
theorem gIx_len:∀{rs:List R}{i:Int},(gIx i rs).length=(rs.filter R.gr).length
 |[],i=>rfl
 |r::rs,i=>by
  rw[gIx];by_cases a:r.gr=true
  ·rw[if_pos a,ab3 a,aau,aau,gIx_len]
  ·rw[if_neg a,abK a,gIx_len]
def m6:(a8 ns x).length<=ns.length+1:=by
 unfold a8;split
 ·omega
 ·rw[aal,aaH];exact aae _
def take_one{f:Cf}(h:f.rows[k]?=some r):f.rows.take (k+1)=f.rows.take k++[r]:=by rw[List.take_succ,h];rfl
def lr{f:Cf}(h:f.rows[k]?=some r):gIx 0 (f.rows.take (k+1))=gIx 0 (f.rows.take k)++if r.gr=true then [(k:Int)] else []:=by have a:=(aai.mp h).1;rw[take_one h,qL,aa7,Nat.min_eq_left (by omega),gIx,gIx,ab8]
theorem m7:∀{wt:List (Int×Int)}{ns:List Int},(wt.foldl (λns q=>a8 ns (nu f q.1)) ns).length<=ns.length+wt.length
 |[],ns=>aae _
 |q::wt,ns=>by have a:=m7 (f:=f) (wt:=wt) (ns:=a8 ns (nu f q.1));have b:=m6 (ns:=ns) (x:=nu f q.1);rw[abA,aau];omega
structure Iv (f:Cf)(g:G)(k m:Nat):Prop where
 ix:g.us.map (·.1)++g.wt.map (·.1)=gIx 0 (f.rows.take k)
 wl:g.words.length=g.gaps.length
 gl:g.gaps.length<=m
 wn:∀w∈g.words,w.length<=g.us.length
 far:g.wt≠[]->g.words≠[]->f.r0<g.pl-g.bg
def Iv.start:Iv f ⟨0,[],[],0,[],[]⟩ 0 0:=⟨rfl,rfl,aae _,λw h=>absurd h aao,λh=>absurd rfl h⟩
theorem Iv.lay(I:Iv f g k m):Iv f (jd f g k) k (m+1):=by
 refine⟨?_,?_,?_,λw a=>?_,λh=>absurd rfl h⟩
 ·show (g.us++_).map (·.1)++[]=_;rw[aaq,aaw,abd,<-I.ix];rfl
 ·show (g.words++[_]).length=(g.gaps++[_]).length;rw[aal,aal,I.wl];rfl
 ·show (g.gaps++[_]).length<=m+1;rw[aal,aaH];exact Nat.succ_le_succ I.gl
 ·show w.length<=(g.us++g.wt.map _).length;rw[aal,aaa];rcases aaj.mp a with h|h
  ·exact aax (I.wn w h) (abj _ _)
  ·rw[aap.mp h];have:=m7 (f:=f) (wt:=g.wt) (ns:=[]);rw[aaJ,aaT]at this;exact aax this (Nat.le_add_left _ _)
theorem Iv.come(I:Iv f g k m)(o:f.rows[k]?=some r)(n:r.gr=true)(h:Come f g k g'):Iv f ⟨g'.pl+2,g'.gaps,g'.words,g'.bg,g'.us,g'.wt⟩ (k+1) m:=by
 have l:∀j:Int,g.wt=[]->(g.us++[((k:Int),j)]).map (·.1)++g.wt.map (·.1)=gIx 0 (f.rows.take (k+1)):=λj a=>by have q:=I.ix;rw[lr o,if_pos n,<-q,a,aaD,aaq,aaq,aaw];rfl
 have i:∀j:Int,(g.us++[((k:Int),j)]).length=g.us.length+1:=λj=>by rw[aal];rfl
 cases h with
 |@put c w h a hn=>
  have p:=I.wl;rw[h,aal]at p;refine⟨l _ a,?_,I.gl,λv d=>?_,λz=>absurd a z⟩
  ·show (c++[_]).length=_;rw[aal];exact p
  ·show v.length<=(g.us++[_]).length;rw[i];rcases aaj.mp d with z|z
   ·exact Nat.le_succ_of_le (I.wn v (by rw[h];exact aaf _ z))
   ·rw[aap.mp z,aal,aaH];exact Nat.succ_le_succ (I.wn w (by rw[h];exact aag _ aad))
 |@got c w h hn h0=>
  have a:g.wt=[]:=by
   by_cases a:g.wt=[]
   ·exact a
   ·have:=I.far a (by rw[h];simp);omega
  exact⟨l _ a,I.wl,I.gl,λv d=>by show _<=(g.us++[_]).length;rw[i];exact Nat.le_succ_of_le (I.wn v d),λz=>absurd a z⟩
 |wait h=>
  refine⟨?_,I.wl,I.gl,I.wn,λ_ a=>?_⟩
  ·show g.us.map (·.1)++(g.wt++[_]).map (λu:Int×Int=>u.1)=_;rw[lr o,if_pos n,aaw,<-aac,I.ix];rfl
  ·show f.r0<g.pl+2-g.bg;by_cases b:g.wt=[]
   ·rcases ab5 g.words with e|⟨c,w,e⟩
    ·exact absurd e a
    ·rw[ab6]at e;rcases h c w e b with z|z<;>omega
   ·have:=I.far b a;omega
def Iv.skip(I:Iv f g k m)(c:f.rows[k]?=some r)(a:r.gr=false)(hs:1<=s):Iv f ⟨g.pl+s,g.gaps,g.words,g.bg,g.us,g.wt⟩ (k+1) m:=
 ⟨by rw[lr c,a,if_neg aak,aaq];exact I.ix,I.wl,I.gl,I.wn,λh b=>by have:=I.far h b;show f.r0<g.pl+s-g.bg;omega⟩
def Iv.more(I:Iv f g k m)(h:m<=m'):Iv f g k m':=⟨I.ix,I.wl,aax I.gl h,I.wn,I.far⟩
def Iv.len(I:Iv f g k m):g.us.length+g.wt.length<=k:=by have:=congrArg List.length I.ix;rw[aal,aaa,aaa,gIx_len]at this;rw[this];exact aax (abn _ _) (by rw[aa7];exact Nat.min_le_left _ _)
theorem Iv.u4(I:Iv f g k m):∀w∈g.words,w.length<=k:=λw a=>aax (I.wn w a) (aax (abj _ _) I.len)
def Iv.nodup(I:Iv f g k m):(g.us.map (·.1)++g.wt.map (·.1)).Nodup:=by rw[I.ix];exact eF
def Iv.gt(I:Iv f g k m):∀q∈g.wt,Gt f q.1:=λq a=>oS (by rw[<-I.ix];exact aag _ (aat.mpr ⟨q,a,rfl⟩))
def laysG(f:Cf)(g:G)(k:Nat):G:=if due f g k=true then jd f g k else g
theorem m_lays(I:Iv f g k k)(hk:k<=f.rows.length)(j:f.rows.length<=200):cJ (Kt (n+4)) eal [some (GO f g),Kg k]=some (.nx,[some (GO f (laysG f g k)),Kg k])/\Iv f (laysG f g k) k (k+1):=by
 have c:=GG (n:=n) (g:=g) hk;unfold laysG;generalize due f g k=b at c ⊢;have a:aY (Kt (n+4)) Jx [some (GO f g),Kg k]=some (b,[some (GO f g),Kg k]):=oG (eW rfl (by decide +kernel) rfl rfl c rfl);cases b with
 |false=>exact⟨az a rfl,I.more (abp _)⟩
 |true=>have h:=I.len;have i:=I.gl;have d:=I.wl;have e:=GH (n:=n) hk I.gt I.nodup (by omega) (by omega) (by omega);exact⟨aW a (ab (wB (eW rfl (by decide +kernel) rfl rfl e rfl)) rfl),I.lay⟩
structure Cross (f:Cf)(g:G)(k:Nat)(g2:G):Prop where
 gr:(f.rows[k]?).elim false R.gr=true->Come f (laysG f g k) k g2
 no:(f.rows[k]?).elim false R.gr=false->g2=laysG f g k
abbrev jC(g:G)(s:Int):G:=⟨g.pl+s,g.gaps,g.words,g.bg,g.us,g.wt⟩
def sz_gr(a:f.rows[k]?=some r)(b:r.gr=true):sz f k=2:=by unfold sz;rw[a];exact if_pos (.inl b)
def oT:1<=sz f k:=by unfold sz;split<;>decide
theorem qM(I:Iv f g k k)(hk:k<=f.rows.length)(D:f.rows.length<=200):(k<f.rows.length->∃g2,pl.pg.call (n+5) 21 [GO f g,It k]=some (.fz .none,[GO f (jC g2 (sz f k)),It k])/\Cross f g k g2/\Iv f (jC g2 (sz f k)) (k+1) (k+1))/\(k=f.rows.length->pl.pg.call (n+5) 21 [GO f g,It k]=some (.fz .none,[GO f (laysG f g k),It k])/\Iv f (laysG f g k) k (k+1)):=by
 obtain⟨t,i⟩:=m_lays I hk D;generalize hg1:laysG f g k=g1 at t i ⊢;have b:ev (Kt (n+4)) eby [some (GO f g1),Kg k]=some (.val (It f.rows.length),[some (GO f g1),Kg k]):=e_blt (aa (b7 dX rfl) ag) rfl blen;by_cases p:k<f.rows.length
 ·have l:=aan p;refine⟨λ_=>?_,λe=>absurd e (by omega)⟩;have H:=oP (n:=n+2) l;have m:(f.rows[k]?).elim false R.gr=(f.rows[k]).gr:=by rw[l];rfl
  have s:=aG (aw (ρ:=[some (GO f g1),Kg k]) (a:=.nm 1) (o:=.lt) rfl b rfl rfl (show some (decide ((k:Int)<f.rows.length))=some true by rw[Dac (by omega)]));have q:aY (Kt (n+4)) ebj [some (GO f g1),Kg k]=some ((f.rows[k]).gr,[some (GO f g1),Kg k]):=aL (ae (aa (aE (b7 dX rfl) rfl rfl (bu (fO l))) ag) rfl (DH _) rfl);have c:∀g2:G,cJ (Kt (n+4)) eaj [some (GO f g2),Kg k]=some (.nx,[some (GO f (jC g2 (sz f k))),Kg k]):=λg2=>wz cZ rfl (ae (aa (b7 dX rfl) (aa (b7 qH rfl) (aa rfl ag))) rfl H rfl) rfl rfl rfl rfl f_place rfl;cases d:(f.rows[k]).gr with
  |false=>rw[d]at q;exact⟨_,cX rfl rfl (ab t (ab (aW s (ab (az q rfl) (ab (c g1) rfl))) rfl)) rfl,⟨λz=>absurd (d.symm.trans (m.symm.trans z)) aak,λ_=>hg1.symm⟩,i.skip l d oT⟩
  |true=>
   rw[d]at q;obtain⟨x,y,u⟩:=gr_st d;have J:=i.len;obtain⟨g2,C,v⟩:=DN ⟨k,x,y,rfl,by rw[l,u]⟩ (λA=>by
    have:=c8 (by rw[<-i.ix];exact aaf _ A);obtain⟨j,r,e,F,_⟩:=this;have:=(aai.mp F).1;rw[aa7]at this;omega) (by omega) (by omega) (λw B=>by have:=i.u4 w B;omega)
   exact⟨_,cX rfl rfl (ab t (ab (aW s (ab (aW q (ab (wB (eW rfl (by decide +kernel) rfl rfl C rfl)) rfl)) (ab (c g2) rfl))) rfl)) rfl,⟨λ_=>by rw[hg1];exact v,λz=>absurd (d.symm.trans (m.symm.trans z)).symm aak⟩,by rw[sz_gr l d];exact i.come l d v⟩
 ·have s:=aG (aw (ρ:=[some (GO f g1),Kg k]) (a:=.nm 1) (o:=.lt) rfl b rfl rfl (show some (decide ((k:Int)<f.rows.length))=some false by rw[Dab (by omega)]));exact⟨λh=>absurd h p,λ_=>⟨cX rfl rfl (ab t (ab (az s rfl) rfl)) rfl,i⟩⟩
def enF:Int->List R->List PyData
 |_,[]=>[]
 |i,r::rs=>.tuple [.int i,r.d]::enF (i+1) rs
theorem qN:∀{rs:List R}{i:Int}{j:Nat},(enF i rs)[j]?=(rs[j]?).map λr=>.tuple [.int (i+j),r.d]
 |[],_,_=>by simp[enF]
 |r::rs,i,0=>by simp[enF]
 |r::rs,i,j+1=>by
  rw[enF,ac0,ac0,qN];congr 1;funext r;have e:i+1+(j:Int)=i+((j+1:Nat):Int):=by omega
  rw[e]
def qO(rs:List R):bX (rs.map R.d)=enF 0 rs:=by
 refine abS λj=>?_;rw[qN,ab8];unfold bX;rw[aas,aaa];by_cases a:j<rs.length
 ·rw[List.getElem?_range a,aan a];simp[abt,aas,aan a]
 ·rw[abX (by simpa using a),abX (by omega)];rfl
theorem lu:∀{rs:List R}{i:Int}{out:List PyData}{o0 o1:Option OD},∃a,aM (aS (Kt (n+1)) (.tp [0,1]) (.some edh) (.nm 0)) (enF i rs) out [o0,o1]=some (out++(gIx i rs).map PyData.int,a)
 |[],i,out,o0,o1=>⟨[o0,o1],by rw[gIx,aaD,aaq];rfl⟩
 |r::rs,i,out,o0,o1=>by
  have b:aY (Kt (n+1)) edh [Kg i,Kj r]=some (r.gr,[Kg i,Kj r]):=aL (ae rfl rfl (DH r) rfl);rw[gIx];cases c:r.gr with
  |false=>rw[c]at b;obtain⟨a,e⟩:=lu;refine⟨a,bs (sP rfl b) ?_⟩;rw[if_neg aak,e,aaq]
  |true=>rw[c]at b;obtain⟨a,e⟩:=lu;refine⟨a,bs (sO rfl b rfl rfl) ?_⟩;rw[if_pos rfl,e,aac];rfl
def dY(b:rs.length<=1000):pl.pg.call (n+2) 2 [Rl rs]=some (Il (gIx 0 rs),[Rl rs]):=by obtain⟨a,e⟩:=lu;rw[aaX,<-qO]at e;refine af rfl rfl (ax (ah (bG (k6 rfl rfl) (by rw[cN,aaa];omega) rfl e bO) (by rw[fN];rfl))) rfl
abbrev Po(q:Int×List Int):PyData:=.tuple [.int q.1,.tuple (q.2.map PyData.int)]
abbrev Pn(ps:List (Int×List Int))(us:List Int):OD:=.tup [.fz (.list (ps.map Po)),Il us]
theorem jf:∀{gs:List Int}{ws:List (List Int)}{out:List PyData}{o0 o1:Option OD},∃a,aM (aS C (.tp [0,1]) .none (.tup ecc)) (cB (gs.map PyData.int) (ws.map λw=>.list (w.map PyData.int))) out [o0,o1]=some (out++(gs.zip ws).map Po,a)
 |[],ws,out,o0,o1=>⟨[o0,o1],by simp only[aaD,List.zip_nil_left,aaq];rfl⟩
 |g::gs,[],out,o0,o1=>⟨[o0,o1],by simp only[aaD,List.zip_nil_right,aaq];rfl⟩
 |g::gs,w::ws,out,o0,o1=>by obtain⟨a,e⟩:=jf;refine⟨a,bs (fA rfl (eM (aa rfl (aa (qy rfl rfl) ag)) rfl rfl rfl) rfl) ?_⟩;rw[aac]at e;exact e
theorem find_key:∀{us:List (Int×Int)}{i:Nat}{u:Int×Int},(us.map (·.1)).Nodup->us[i]?=some u->(us.map λu=>(Sum.inl u.1:Key)).findIdx? (λq=>decide (q=.inl u.1))=some i
 |[],_,_,_,h=>by simp at h
 |v::us,0,u,_,h=>by cases h;rw[aam,aaY];simp
 |v::us,i+1,u,nd,h=>by rw[aam]at nd;obtain⟨d,c⟩:=aaA.mp nd;have h:us[i]?=some u:=h;have a:v.1≠u.1:=λe=>d (by rw[e];exact aat.mpr ⟨u,aa0 h,rfl⟩);rw[aam,aaY,find_key c h];have b:decide ((Sum.inl v.1:Key)=.inl u.1)=false:=Dab λe=>a (abL e);rw[b];rfl
theorem comp_uses(c:(us.map (·.1)).Nodup):∀{vs:List (Int×Int)}{i:Nat}{out:List PyData}{o:Option OD},us.drop i=vs->∃a,aM (aS C (.nm 0) .none (.pg 1 [.key 0,.fld ac cr])) ((vs.map (·.1)).map PyData.int) out [o,some (gO f p x4 x5 b (gD us) x8)]=some (out++(vs.map (·.2)).map PyData.int,[a,some (gO f p x4 x5 b (gD us) x8)])
 |[],i,out,o,_=>⟨o,by simp only[aaD,aaq];rfl⟩
 |v::vs,i,out,o,h=>by
  have d:us[i]?=some v:=by have:=congrArg (λl=>l[0]?) h;simp only[abT,Nat.add_zero]at this;exact this
  have j:us.drop (i+1)=vs:=by have:=congrArg List.tail h;rw[List.tail_drop]at this;exact this
  obtain⟨a,e⟩:=comp_uses c j;have g:aj [Kg v.1,some (gO f p x4 x5 b (gD us) x8)] 1 [.key 0,.fld ac cr]=some (gO f p x4 x5 b (gD us) x8,[7,i],It v.2):=bs rfl (bs (find_key c d) (bs (by show (us.map λu=>It u.2)[i]?=_;rw[aas,d];rfl) rfl));refine⟨a,bs (fA rfl (b7 g rfl) rfl) ?_⟩;rw[aac]at e;exact e
theorem DP(h:f.rows.length<=1000)(k:g.gaps.length<1000)(j:g.words.length=g.gaps.length)(b:g.us.map (·.1)=gIx 0 f.rows):∃y,pl.pg.call (n+3) 22 [GO f g]=some (Pn (g.gaps.zip g.words) (g.us.map (·.2)),[y]):=by
 obtain⟨ρ1,c⟩:=jf;obtain⟨l,a⟩:=comp_uses (by rw[b];exact eF) (vs:=g.us) (i:=0) rfl;rw[aaX]at c a;rw[b]at a;generalize hO:gO f g.pl (.fz (.list (g.gaps.map PyData.int))) (.fz (.list (g.words.map λw=>.list (w.map PyData.int)))) g.bg (gD g.us) (Wl g.wt)=O at a;have e:(g.us.map (·.1)).length=(gIx 0 f.rows).length:=by rw[b]
 refine⟨O,af rfl rfl (ab (ak (bG (dS (ρ2:=[some O,none]) (zz ll (aA _) rfl) (zz c7 (je _) (by rw[<-hO];rfl)) rfl rfl rfl rfl) ?_ rfl c bO) rfl rfl rfl) (ax (ah (eM (rs:=[.rf 1,.val (Il (g.us.map (·.2)))]) (zs:=[.fz (.list ((g.gaps.zip g.words).map Po)),Il (g.us.map (·.2))]) (ρ1:=[some O,some (.lst (((g.gaps.zip g.words).map Po).map OD.fz))]) (ρ2:=[some O,some (.fz (.list ((g.gaps.zip g.words).map Po)))]) (aa rfl (aa ?_ ag)) rfl ?_ rfl) rfl))) rfl⟩
 ·unfold cB;rw[abF,aaa];omega
 ·have:=bG (C:=Kt (n+2)) (nt:=1) (fr:=[0]) (it:=.seq eb3) (aR (ds:=(gIx 0 f.rows).map PyData.int) (ae (ρ3:=[some O,some (.lst (((g.gaps.zip g.words).map Po).map OD.fz))]) (aa (b7 (d:=.list (f.rows.map R.d)) (p:=(O,[0],Rl f.rows)) (by rw[<-hO];rfl) rfl) ag) rfl (dY (n:=n) h) rfl) (show frz1 _ (.val (Il (gIx 0 f.rows)))=some (.list ((gIx 0 f.rows).map PyData.int),_) by show ((Il (gIx 0 f.rows)).dat).map _=_;rw[aA];rfl) rfl) (by rw[aaa];rw[gIx_len];have:=abn R.gr f.rows;omega) (zc:=([some O],[none,some (.lst (((g.gaps.zip g.words).map Po).map OD.fz))])) (by rw[<-hO];rfl) a rfl;rw[fN]at this;exact this
 ·exact bs (x:=(.fz (.list ((g.gaps.zip g.words).map Po)),[some O,some (.fz (.list ((g.gaps.zip g.words).map Po)))])) (by show (frz1 _ (.rf 1)).map _=_;rw[bo rfl (bV _) rfl];rfl) rfl
def bz:cA lo (n+1)=.int lo::cA (lo+1) n:=by
 unfold cA;rw[List.range_succ_eq_map,aam,abd];congr 1
 ·simp
 ·refine acX λi _=>?_;show PyData.int (lo+((i+1:Nat):Int))=_;congr 1;omega
noncomputable abbrev pE(f:Cf)(g:G)(o:Option OD):DEnv:=[Kk f.rows,Kl f,some (Re f),some (GO f g),o]
inductive Gone (f:Cf):Nat->G->Prop
 |zero:Gone f 0 ⟨0,[],[],0,[],[]⟩
 |step {k:Nat}{g g2:G} (h:Gone f k g) (hk:k<f.rows.length) (I:Iv f g k k) (C:Cross f g k g2):Gone f (k+1) (jC g2 (sz f k))
def zO(h:g.wt≠[]):due f g f.rows.length=true:=by
 unfold due;cases a:g.wt with
 |nil=>exact absurd a h
 |cons q b=>show (decide _||_)=true;rw[Dac rfl];rfl
def m8:(laysG f g f.rows.length).wt=[]:=by
 unfold laysG;by_cases h:g.wt=[]
 ·split
  ·rfl
  ·exact h
 ·rw[if_pos (zO h)];rfl
def jg(e:pl.pg.call (n+5) 21 [GO f g,It k]=some (.fz .none,[GO f g',It k])):((be (.nm 4) (.fz (.int k)) (pE f g o)).bind λρ1=>aN (Kt (n+5)) ebg ρ1)=some (.nx,pE f g' (Kg k)):=
 bs rfl (ab (wB (eW rfl (by decide +kernel) rfl rfl e rfl)) rfl)
theorem jh(j:f.rows.length<=200):∀{m k:Nat}{g:G}{o:Option OD},k+m=f.rows.length->Iv f g k k->Gone f k g->∃g' i,bD (λd a=>(be (.nm 4) (.fz d) a).bind λρ1=>aN (Kt (n+5)) ebg ρ1) (cA k (m+1)) (pE f g o)=some (.nx,pE f (laysG f g' f.rows.length) i)/\Iv f g' f.rows.length f.rows.length/\Iv f (laysG f g' f.rows.length) f.rows.length (f.rows.length+1)/\Gone f f.rows.length g'
 |0,k,g,o,h,I,W=>by obtain rfl:k=f.rows.length:=h;obtain⟨e,J⟩:=(qM I (aae _) j).2 rfl;refine⟨g,Kg f.rows.length,?_,I,J,W⟩;rw[bz];exact bs (jg e) rfl
 |m+1,k,g,o,h,I,W=>by
  have c:k<f.rows.length:=by omega
  obtain⟨q,e,C,J⟩:=(qM I (aaZ c) j).1 c;obtain⟨b,i,p,l⟩:=jh j (m:=m) (by omega) J (.step W c I C);refine⟨b,i,?_,l⟩;rw[bz];exact bs (jg e) p
theorem GI:(Kt (n+5)).mak 15 [.obj ac [] [],Rl f.rows,Lo f,Re f]=some (.fz .none,[GO f ⟨0,[],[],0,[],[]⟩,Rl f.rows,Lo f,Re f]):=by have e:(Kt (n+5)).mak=pl.pg.mak (n+5):=rfl;rw[e,Pg.v3 pl.pg (n+4) 15];exact DJ
theorem qP(j:f.rows.length<=200):∃g:G,pl.pg.call (n+6) 23 [Rl f.rows,Lo f,Re f]=some (Pn (g.gaps.zip g.words) (g.us.map (·.2)),[Rl f.rows,Lo f,Re f])/\∃a,g=laysG f a f.rows.length/\Iv f a f.rows.length f.rows.length/\Iv f g f.rows.length (f.rows.length+1)/\Gone f f.rows.length a:=by
 obtain⟨a,o,e,c,I,W⟩:=jh j (m:=f.rows.length) (by omega) Iv.start .zero;have b:=m8 (f:=f) (g:=a);generalize hg:laysG f a f.rows.length=g at e I b;have h:g.us.map (·.1)=gIx 0 f.rows:=by have:=I.ix;rw[b,aaD,aaq,abu]at this;exact this
 have d:=I.gl;obtain⟨y,i⟩:=DP (by omega) (by omega) I.wl h;refine⟨g,af (ρ:=[Kk f.rows,Kl f,some (Re f),some y,o]) rfl rfl ?_ rfl,a,hg.symm,c,I,W⟩;refine ab (ak (Dx rfl rfl GI rfl) rfl rfl rfl) ?_;refine ab (cx (eX (ai (e_blt rfl rfl blen) rfl rfl rfl rfl) rfl (by omega)) (by rw[show ((f.rows.length:Int)+1).toNat=f.rows.length+1 by omega];exact e)) ?_;exact ax (ah (eW rfl (by decide +kernel) rfl rfl i rfl) rfl)
structure Mc where
 ps:List Int
 bs:List Int
 pl:Int
def inn(f:Cf)(k:Nat)(s:Mc)(q:Int×List Int):Mc:=if q.1=(k:Int) then ⟨s.ps,s.bs++[fw f.rows k s.pl],fw f.rows k s.pl+2*q.2.length⟩ else s
def inner(f:Cf)(qs:List (Int×List Int))(k:Nat)(s:Mc):Mc:=qs.foldl (inn f k) s
def lx(f:Cf)(k:Nat)(s:Mc):Mc:=⟨s.ps++[s.pl],s.bs,s.pl+sz f k⟩
def mac(f:Cf)(qs:List (Int×List Int)):Nat->Mc
 |0=>⟨[],[],0⟩
 |k+1=>lx f k (inner f qs k (mac f qs k))
theorem bq{k:Nat}:∀{qs:List (Int×List Int)}{s:Mc},(∀q∈qs,q.1≠(k:Int))->inner f qs k s=s
 |[],s,_=>rfl
 |q::qs,s,h=>by show inner f qs k (inn f k s q)=s;have e:inn f k s q=s:=if_neg (h q aad);rw[e];exact bq λq a=>h q (aah _ a)
def gy:inner f (a++b) k s=inner f b k (inner f a k s):=List.foldl_append
theorem ly:∀{k:Nat},(∀q∈qs,(k:Int)<=q.1)->mac f (ps++qs) k=mac f ps k
 |0,_=>rfl
 |k+1,h=>by
  have b:∀q∈qs,(k:Int)<=q.1:=λq a=>by have:=h q a;omega
  have c:∀q∈qs,q.1≠(k:Int):=λq a=>by have:=h q a;omega
  show lx f k (inner f (ps++qs) k (mac f (ps++qs) k))=lx f k (inner f ps k (mac f ps k));rw[ly b,gy,bq c]
def wW{k:Nat}(h:∀q∈qs,q.1≠(k:Int)):mac f qs (k+1)=lx f k (mac f qs k):=by show lx f k (inner f qs k (mac f qs k))=_;rw[bq h]
theorem gz{k:Nat}(h:∀q∈ps,q.1<(k:Int)):inner f (ps++[((k:Int),w)]) k (mac f (ps++[((k:Int),w)]) k)=⟨(mac f ps k).ps,(mac f ps k).bs++[fw f.rows k (mac f ps k).pl],fw f.rows k (mac f ps k).pl+2*w.length⟩:=by rw[ly (λq a=>by rw[aap.mp a];exact abJ _),gy,bq (qs:=ps) λq a e=>by have:=h q a;omega];show inn f k _ _=_;exact if_pos rfl
def DQ:(inn f k s q).ps=s.ps:=by unfold inn;split<;>rfl
theorem cz:∀{qs:List (Int×List Int)}{s:Mc},(inner f qs k s).ps=s.ps
 |[],s=>rfl
 |q::qs,s=>by show (inner f qs k (inn f k s q)).ps=_;rw[cz,DQ]
theorem b8:∀{k:Nat},(mac f qs k).ps.length=k
 |0=>rfl
 |k+1=>by show ((inner f qs k (mac f qs k)).ps++[_]).length=_;rw[cz,aal,b8];rfl
theorem mac_more{a:Nat}(h:∀q∈ps,q.1<(a:Int)):∀{m:Nat},(mac f (ps++[((a:Int),w++[x])]) (a+1+m)).bs=(mac f (ps++[((a:Int),w)]) (a+1+m)).bs/\(mac f (ps++[((a:Int),w++[x])]) (a+1+m)).pl=(mac f (ps++[((a:Int),w)]) (a+1+m)).pl+2
 |0=>by show (lx f a (inner f _ a (mac f _ a))).bs=(lx f a (inner f _ a (mac f _ a))).bs/\(lx f a (inner f _ a (mac f _ a))).pl=(lx f a (inner f _ a (mac f _ a))).pl+2;rw[gz h,gz h];refine⟨rfl,?_⟩;show fw f.rows a (mac f ps a).pl+2*((w++[x]).length:Int)+sz f a=fw f.rows a (mac f ps a).pl+2*(w.length:Int)+sz f a+2;rw[aal,aaH];omega
 |m+1=>by
  obtain⟨e,c⟩:=mac_more h;have g:∀v:List Int,∀q∈ps++[((a:Int),v)],q.1≠((a+1+m:Nat):Int):=λv q d=>by
   rcases aaj.mp d with z|z
   ·have:=h q z;omega
   ·rw[aap.mp z];show (a:Int)≠_;omega
  have b:∀v:List Int,mac f (ps++[((a:Int),v)]) (a+1+(m+1))=lx f (a+1+m) (mac f (ps++[((a:Int),v)]) (a+1+m)):=λv=>wW (g v);rw[b,b];refine⟨e,?_⟩;show (mac f (ps++[((a:Int),w++[x])]) (a+1+m)).pl+sz f (a+1+m)=(mac f (ps++[((a:Int),w)]) (a+1+m)).pl+sz f (a+1+m)+2;rw[c];omega
abbrev Pz:=List (Int×List Int)
def dZ(h:ws.length=gs.length):(gs++[a]).zip (ws++[w])=gs.zip ws++[(a,w)]:=by rw[List.zip_append h.symm];rfl
theorem oU{a k:Nat}(h:∀q∈ps,q.1<(a:Int))(hk:a<=k):(inner f (ps++[((a:Int),w++[x])]) k (mac f (ps++[((a:Int),w++[x])]) k)).bs=(inner f (ps++[((a:Int),w)]) k (mac f (ps++[((a:Int),w)]) k)).bs/\(inner f (ps++[((a:Int),w++[x])]) k (mac f (ps++[((a:Int),w++[x])]) k)).pl=(inner f (ps++[((a:Int),w)]) k (mac f (ps++[((a:Int),w)]) k)).pl+2:=by
 by_cases e:a=k
 ·subst e;rw[gz h,gz h];refine⟨rfl,?_⟩;show _+2*((w++[x]).length:Int)=_+2*(w.length:Int)+2;rw[aal,aaH];omega
 ·have b:∀v:List Int,∀q∈ps++[((a:Int),v)],q.1≠(k:Int):=λv q c=>by
   rcases aaj.mp c with z|z
   ·have:=h q z;omega
   ·rw[aap.mp z];show (a:Int)≠_;omega
  rw[bq (b _),bq (b _)];obtain⟨m,rfl⟩:∃m,k=a+1+m:=⟨k-a-1,by omega⟩
  exact mac_more h
def sY(h:(l++[b]).getLast?=some c):c=b:=by rw[ac1]at h;exact(aaC h).symm
def DR(h:g.wt=q::qs):due f g k=(decide ((k:Int)=f.rows.length)||decide (fw f.rows (k+1) (g.pl+sz f k)-q.2>f.r1)):=by unfold due;rw[h];rfl
def zip_last(h:(ws++[w]).length=gs.length):∃hs c,gs=hs++[c]/\ws.length=hs.length:=by
 rcases ab5 gs with e|⟨hs,c,e⟩
 ·rw[e,aal]at h;exact absurd h (by simp)
 ·rw[ab6]at e;refine⟨hs,c,e,?_⟩;rw[e,aal,aal]at h;exact acn h
def AM:p<=fw rs k p/\fw rs k p<=p+4:=by
 unfold fw;by_cases h:zK rs k=true
 ·rw[if_pos h];show p<=p+2+2-(p+2)%2/\p+2+2-(p+2)%2<=p+4;omega
 ·rw[if_neg h];show p<=p+2-p%2/\p+2-p%2<=p+4;omega
theorem wX{a:Nat}(h:∀q∈ps,q.1<(a:Int)):∀{m i:Nat}{p:Int},(mac f (ps++[((a:Int),w)]) (a+1+m)).ps[i]?=some p->(mac f (ps++[((a:Int),w++[x])]) (a+1+m)).ps[i]?=some (if a<=i then p+2 else p)
 |0,i,p,b=>by
  have e:∀v:List Int,mac f (ps++[((a:Int),v)]) (a+1)=lx f a ⟨(mac f ps a).ps,(mac f ps a).bs++[fw f.rows a (mac f ps a).pl],fw f.rows a (mac f ps a).pl+2*v.length⟩:=λv=>by show lx f a (inner f _ a (mac f _ a))=_;rw[gz h]
  have c:=b8 (f:=f) (qs:=ps) (k:=a);rw[Nat.add_zero,e]at b ⊢;have b:((mac f ps a).ps++[fw f.rows a (mac f ps a).pl+2*(w.length:Int)])[i]?=some p:=b;show ((mac f ps a).ps++[fw f.rows a (mac f ps a).pl+2*((w++[x]).length:Int)])[i]?=_;by_cases g:i<a
  ·rw[aaS (by rw[c];exact g)]at b ⊢;rw[if_neg (by omega)];exact b
  ·have d:i=a:=by have:=(aai.mp b).1;rw[aal,c,aaH]at this;omega
   subst d;rw[abh (by rw[c];exact aae _),c,ab4]at b ⊢;rw[if_pos (aae _)];have b:fw f.rows i (mac f ps i).pl+2*(w.length:Int)=p:=aaC b;show some (fw f.rows i (mac f ps i).pl+2*((w++[x]).length:Int))=_;rw[aal,aaH,<-b];congr 1;omega
 |m+1,i,p,b=>by
  have n:∀v:List Int,∀q∈ps++[((a:Int),v)],q.1≠((a+1+m:Nat):Int):=λv q l=>by
   rcases aaj.mp l with z|z
   ·have:=h q z;omega
   ·rw[aap.mp z];show (a:Int)≠_;omega
  have c:=λv=>b8 (f:=f) (qs:=ps++[((a:Int),v)]) (k:=a+1+m);have j:=(mac_more (f:=f) (w:=w) (x:=x) h (m:=m)).2;rw[show a+1+(m+1)=a+1+m+1 from rfl,wW (n _)]at b ⊢;have b:((mac f (ps++[((a:Int),w)]) (a+1+m)).ps++[(mac f (ps++[((a:Int),w)]) (a+1+m)).pl])[i]?=some p:=b;show ((mac f (ps++[((a:Int),w++[x])]) (a+1+m)).ps++[(mac f (ps++[((a:Int),w++[x])]) (a+1+m)).pl])[i]?=_;by_cases g:i<a+1+m
  ·rw[aaS (by rw[c];exact g)]at b ⊢;exact wX h b
  ·have d:i=a+1+m:=by have:=(aai.mp b).1;rw[aal,c,aaH]at this;omega
   subst d;rw[abh (by rw[c];exact aae _),c,ab4]at b ⊢;rw[if_pos (by omega)];have b:(mac f (ps++[((a:Int),w)]) (a+1+m)).pl=p:=aaC b;show some (mac f (ps++[((a:Int),w++[x])]) (a+1+m)).pl=_;rw[j,b]
theorem sZ{a k:Nat}(h:∀q∈ps,q.1<(a:Int))(hk:a<=k)(b:(inner f (ps++[((a:Int),w)]) k (mac f (ps++[((a:Int),w)]) k)).ps[i]?=some p):(inner f (ps++[((a:Int),w++[x])]) k (mac f (ps++[((a:Int),w++[x])]) k)).ps[i]?=some (if a<=i then p+2 else p):=by
 rw[cz]at b ⊢;by_cases e:a=k
 ·subst e;have c:=λv=>b8 (f:=f) (qs:=ps++[((a:Int),v)]) (k:=a);have d:=(aai.mp b).1;rw[c]at d;rw[ly λq g=>by rw[aap.mp g];exact abJ _]at b ⊢;rw[if_neg (by omega)];exact b
 ·obtain⟨m,rfl⟩:∃m,k=a+1+m:=⟨k-a-1,by omega⟩
  exact wX h b
def nm(f:Cf):List Int:=(f.rows.filter R.gr).map R.num
def nu_nm{k:Nat}(a:f.rows[k]?=some r)(b:r.gr=true):nu f k∈nm f:=by
 have e:nu f k=r.num:=by unfold nu;rw[aaP,a];rfl
 rw[e];exact aat.mpr ⟨r,abe.mpr ⟨aa0 a,b⟩,rfl⟩
def wY(h:a∈gIx 0 (f.rows.take k)):nu f a∈nm f:=by
 obtain⟨j,r,e,b,c⟩:=c8 h;rw[ab8]at e;rw[e];rw[acs]at b;split at b
 ·exact nu_nm b c
 ·cases b
def nd_snoc(h:w.Nodup)(c:x ∉ w):(w++[x]).Nodup:=aaB.mpr ⟨h,by simp,λa d b f e=>c (by rw[aap.mp f]at e;rw[<-e];exact d)⟩
def lz(h:ns.Nodup):(a8 ns x).Nodup:=by
 unfold a8;split
 ·exact h
 ·rename_i a;exact nd_snoc h a
def m9(h:y∈a8 ns x):y∈ns\/y=x:=by
 unfold a8 at h;split at h
 ·exact .inl h
 ·rcases aaj.mp h with h|h
  ·exact .inl h
  ·exact .inr (aap.mp h)
theorem qQ:∀{wt:List (Int×Int)}{ns:List Int},ns.Nodup->(∀x∈ns,x∈nm f)->(∀q∈wt,nu f q.1∈nm f)->(wt.foldl (λns q=>a8 ns (nu f q.1)) ns).Nodup/\∀x∈wt.foldl (λns q=>a8 ns (nu f q.1)) ns,x∈nm f
 |[],ns,h1,h2,_=>⟨h1,h2⟩
 |q::wt,ns,h1,h2,h3=>qQ (wt:=wt) (lz h1) (λx b=>(m9 b).elim (h2 x) λe=>by rw[e];exact h3 q aad) λp a=>h3 p (aah _ a)
theorem nh:∀{wt:List (Int×Int)}{ns:List Int}{x:Int},x∈ns->x∈wt.foldl (λns q=>a8 ns (nu f q.1)) ns
 |[],ns,x,h=>h
 |q::wt,ns,x,h=>nh (wt:=wt) (by show x∈a8 ns (nu f q.1);unfold a8;split;exact h;exact aaf _ h)
theorem fold_new:∀{wt:List (Int×Int)}{ns:List Int}{q:Int×Int},q∈wt->nu f q.1∈wt.foldl (λns q=>a8 ns (nu f q.1)) ns
 |p::wt,ns,q,h=>by
  rcases aab.mp h with rfl|h
  ·exact nh (wt:=wt) (by show nu f q.1∈a8 ns (nu f q.1);unfold a8;split;assumption;exact aag _ aad)
  ·exact fold_new (wt:=wt) h
def Us(f:Cf)(qs:Pz)(s:Mc)(u:Int×Int):Prop:=∃(i j:Nat) (p b:Int) (q:Int×List Int),u.1=i/\u.2=j/\s.ps[i]?=some p/\s.bs[j]?=some b/\qs[j]?=some q/\nu f i∈q.2/\b-p<=f.r1/\p-b<=f.r0/\p<=s.pl/\∀a d w,qs=a++[(d,w)]->d<=(i:Int)->j=a.length
structure Kv (f:Cf)(g:G)(m:Nat)(s:Mc):Prop where
 lt:∀q∈g.gaps.zip g.words,∃d:Nat,q.1=d/\d<m
 inc:(g.gaps.zip g.words).Pairwise λx y=>x.1<y.1
 pl:s.pl=g.pl
 bl:s.bs.length=(g.gaps.zip g.words).length
 bg:∀b,s.bs.getLast?=some b->b=g.bg
 ble:∀b∈s.bs,b<=s.pl
 use:∀u∈g.us,Us f (g.gaps.zip g.words) s u
 wt:∀q∈g.wt,∃i:Nat,q.1=i/\s.ps[i]?=some q.2/\q.2<=s.pl
 fst:∀q0 q,g.wt.head?=some q0->q∈g.wt->q0.2<=q.2
 wd:∀w∈g.words,w≠[]/\w.Nodup/\∀x∈w,x∈nm f
def Near(f:Cf)(g:G)(k:Nat):Prop:=∀a,g.wt.head?=some a->fw f.rows k g.pl-a.2<=f.r1
section
variable{f:Cf}{g:G}{k:Nat}
theorem Kv.p8(h0:0<=f.r0)(I:Iv f g k k)(V:Kv f g k (mac f (g.gaps.zip g.words) k))(N:Near f g k):Kv f (laysG f g k) (k+1) (inner f ((laysG f g k).gaps.zip (laysG f g k).words) k (mac f ((laysG f g k).gaps.zip (laysG f g k).words) k)):=by
 have s:∀q∈g.gaps.zip g.words,q.1<(k:Int):=λq l=>by obtain⟨d,o,r⟩:=V.lt q l;omega
 unfold laysG;by_cases C:due f g k=true
 ·rw[if_pos C];obtain⟨B,m⟩:∃B,g.wt.head?=some B:=by
   cases F:g.wt with
   |nil=>unfold due at C;rw[F]at C;cases C
   |cons q _=>exact⟨q,rfl⟩
  have hn:=N B m;have W:(jd f g k).gaps.zip (jd f g k).words=g.gaps.zip g.words++[((k:Int),g.wt.foldl (λn q=>a8 n (nu f q.1)) [])]:=dZ I.wl;obtain⟨w1,w2⟩:=qQ aa1 (λx h=>absurd h aao) λq l=>wY (by rw[<-I.ix];exact aag _ (aat.mpr ⟨q,l,rfl⟩));have w3:g.wt.foldl (λn q=>a8 n (nu f q.1)) []≠[]:=λe=>by have:nu f B.1∈g.wt.foldl (λn q=>a8 n (nu f q.1)) []:=fold_new (by cases F:g.wt with|nil=>rw[F]at m;cases m|cons a b=>rw[F]at m;cases m;exact aad);rw[e]at this;exact aao this
  have w4:∀q∈g.wt,nu f q.1∈g.wt.foldl (λn q=>a8 n (nu f q.1)) []:=λq l=>fold_new l;have Q:(g.gaps.zip g.words).length=g.gaps.length:=by rw[aa3,I.wl,acA]
  have a0:=(AM (rs:=f.rows) (k:=k) (p:=g.pl)).1;have c:=V.pl;have S:=b8 (f:=f) (qs:=g.gaps.zip g.words) (k:=k);have M:=V.wd;have H:(jd f g k).us=g.us++g.wt.map λq=>(q.1,(g.gaps.length:Int)):=rfl;have P:(jd f g k).words=g.words++[g.wt.foldl (λn q=>a8 n (nu f q.1)) []]:=rfl;have J:(jd f g k).pl=fw f.rows k g.pl+2*(g.wt.foldl (λn q=>a8 n (nu f q.1)) []).length:=rfl;have T:(jd f g k).bg=fw f.rows k g.pl:=rfl;have D:(jd f g k).wt=[]:=rfl;rw[W,gz s];generalize g.wt.foldl (λn q=>a8 n (nu f q.1)) []=w at *;refine⟨?_,?_,?_,?_,?_,?_,?_,?_,?_,?_⟩
  all_goals try rw[W]
  ·intro x t;rcases aaj.mp t with z|z
   ·obtain⟨d,o,r⟩:=V.lt x z;exact⟨d,o,aa9 r⟩
   ·rw[aap.mp z];exact⟨k,rfl,aa5 k⟩
  ·refine aa2.mpr ⟨V.inc,ac2 _ _,λx t y hy=>?_⟩;rw[aap.mp hy];exact s x t
  ·show fw f.rows k (mac f (g.gaps.zip g.words) k).pl+_=_;rw[J,c]
  ·show (_++[_]).length=(_++[_]).length;rw[aal,aal,V.bl];rfl
  ·intro b O;rw[sY O,T,c]
  ·intro b O;show b<=fw f.rows k (mac f (g.gaps.zip g.words) k).pl+2*(w.length:Int);rw[c];rcases aaj.mp O with z|z
   ·have:=V.ble b z;rw[c]at this;omega
   ·rw[aap.mp z,c];omega
  ·intro u U;rw[H]at U;rcases aaj.mp U with z|z
   ·obtain⟨i,j,p,b,q,o,r,A,X,Z,e6,e7,e8,e9,_⟩:=V.use u z;have hi:i<k:=by have:=(aai.mp A).1;rwa [S]at this
    refine⟨i,j,p,b,q,o,r,A,?_,?_,e6,e7,e8,?_,λps d w' L a1=>?_⟩
    ·show (_++[_])[j]?=_;rw[aaS (aai.mp X).1];exact X
    ·rw[aaS (aai.mp Z).1];exact Z
    ·show p<=fw f.rows k (mac f (g.gaps.zip g.words) k).pl+2*(w.length:Int);rw[c]at e9 ⊢;omega
    ·have:=(ab7 (abw L rfl).2).1;have:(k:Int)=d:=congrArg (·.1) this;omega
   ·obtain⟨x,t,rfl⟩:=aat.mp z;obtain⟨i,o,r,A⟩:=V.wt x t;have h1:=V.fst B x m t;refine⟨i,g.gaps.length,x.2,fw f.rows k g.pl,((k:Int),w),o,rfl,r,?_,?_,by rw[<-o];exact w4 x t,by omega,by rw[c]at A;omega,?_,λps d w' L _=>?_⟩
    ·show (_++[_])[g.gaps.length]?=_;rw[<-Q,<-V.bl,aaU,c]
    ·rw[<-Q,aaU]
    ·show x.2<=fw f.rows k (mac f (g.gaps.zip g.words) k).pl+2*(w.length:Int);rw[c]at A ⊢;omega
    ·rw[<-Q,(abw L rfl).1]
  ·intro q l;rw[D]at l;exact absurd l aao
  ·intro q q' l;rw[D]at l;cases l
  ·intro v Y;rw[P]at Y;rcases aaj.mp Y with z|z
   ·exact M v z
   ·rw[aap.mp z];exact⟨w3,w1,w2⟩
 ·rw[if_neg C,bq λq l e=>by have:=s q l;omega];exact⟨λq l=>by obtain⟨d,o,r⟩:=V.lt q l;exact⟨d,o,aa9 r⟩,V.inc,V.pl,V.bl,V.bg,V.ble,V.use,V.wt,V.fst,V.wd⟩
end
def last_at{l:List Int}(h:l.length=n+1):∃b,l[n]?=some b/\l.getLast?=some b/\b∈l:=by
 rcases ab5 l with e|⟨m,b,e⟩
 ·rw[e]at h;cases h
 ·rw[ab6]at e;subst e;rw[aal]at h;obtain rfl:m.length=n:=acn h;exact⟨b,aaU,ac1,aag _ aad⟩
section
variable{f:Cf}{g:G}{k:Nat}
theorem Kv.row(V:Kv f g (k+1) s)(hs:s.ps.length=k):Kv f (jC g (sz f k)) (k+1) (lx f k s):=by
 have A:=oT (f:=f) (k:=k);have m:∀{i:Nat}{p:Int},s.ps[i]?=some p->(s.ps++[s.pl])[i]?=some p:=λ{i p} h=>by rw[aaS (aai.mp h).1];exact h
 have c:(lx f k s).pl=s.pl+sz f k:=rfl;refine⟨V.lt,V.inc,?_,V.bl,V.bg,λb t=>?_,λu r=>?_,λq w=>?_,V.fst,V.wd⟩
 ·rw[c,V.pl]
 ·have:=V.ble b t;omega
 ·obtain⟨i,j,p,b,q,e,d,l,x,y,o,v,n,z,a⟩:=V.use u r;exact⟨i,j,p,b,q,e,d,m l,x,y,o,v,n,by omega,a⟩
 ·obtain⟨i,e,d,l⟩:=V.wt q w;exact⟨i,e,m d,by omega⟩
def Kv.addU(V:Kv f g m s)(h:Us f (g.gaps.zip g.words) s u):Kv f ⟨g.pl,g.gaps,g.words,g.bg,g.us++[u],g.wt⟩ m s:=
 ⟨V.lt,V.inc,V.pl,V.bl,V.bg,V.ble,λv a=>(aaj.mp a).elim (V.use v) λz=>by rw[aap.mp z];exact h,V.wt,V.fst,V.wd⟩
theorem Kv.addW{m i:Nat}(V:Kv f g m s)(h:s.ps[i]?=some p)(j:p<=s.pl)(n:∀q∈g.wt,q.2<=p):Kv f ⟨g.pl,g.gaps,g.words,g.bg,g.us,g.wt++[((i:Int),p)]⟩ m s:=by
 refine⟨V.lt,V.inc,V.pl,V.bl,V.bg,V.ble,V.use,λq b=>?_,λd q c b=>?_,V.wd⟩
 ·rcases aaj.mp b with z|z
  ·exact V.wt q z
  ·rw[aap.mp z];exact⟨i,rfl,h,j⟩
 ·have c:(g.wt++[((i:Int),p)]).head?=some d:=c;have b:q∈g.wt++[((i:Int),p)]:=b;cases e:g.wt with
  |nil=>rw[e]at c b;cases c;rw[aap.mp b];exact abJ _
  |cons a l=>
   rw[e]at c;cases c;rcases aaj.mp b with z|z
   ·exact V.fst d q (by rw[e];rfl) z
   ·rw[aap.mp z];exact n d (by rw[e];exact aad)
theorem Kv.put{d:Nat}(h0:0<=f.r0)(J:g.words=ws++[w])(T:g.gaps=hs++[(d:Int)])(P:ws.length=hs.length)(S:d<=k)(n:∀q∈hs.zip ws,q.1<(d:Int))(hn:x ∉ w)(hx:x∈nm f)(B:g.wt=[])(hr:g.pl+2-g.bg<=f.r0)
  (V:Kv f g (k+1) (inner f (g.gaps.zip g.words) k (mac f (g.gaps.zip g.words) k))):Kv f ⟨g.pl+2,g.gaps,ws++[w++[x]],g.bg,g.us,g.wt⟩ (k+1) (inner f (g.gaps.zip (ws++[w++[x]])) k (mac f (g.gaps.zip (ws++[w++[x]])) k)):=by
 have ez:g.gaps.zip g.words=hs.zip ws++[((d:Int),w)]:=by rw[J,T,dZ P]
 have l:g.gaps.zip (ws++[w++[x]])=hs.zip ws++[((d:Int),w++[x])]:=by rw[T,dZ P]
 have m:=oU (f:=f) (w:=w) (x:=x) n S;have ep:=λ{i p}=>sZ (f:=f) (w:=w) (x:=x) n S (i:=i) (p:=p);obtain⟨U,Q,X,D,H,O,M,v8,v9,r⟩:=V;rw[ez]at U Q X D H O M v8;rw[l];generalize inner f (hs.zip ws++[((d:Int),w)]) k (mac f (hs.zip ws++[((d:Int),w)]) k)=s at *;generalize inner f (hs.zip ws++[((d:Int),w++[x])]) k (mac f (hs.zip ws++[((d:Int),w++[x])]) k)=t at *;refine⟨?_,?_,?_,?_,?_,?_,λu hu=>?_,?_,?_,?_⟩
 ·show ∀q∈g.gaps.zip (ws++[w++[x]]),_;rw[l];intro q h;rcases aaj.mp h with z|z
  ·exact U q (aaf _ z)
  ·rw[aap.mp z];exact⟨d,rfl,by omega⟩
 ·show (g.gaps.zip (ws++[w++[x]])).Pairwise _;rw[l];refine aa2.mpr ⟨(aa2.mp Q).1,ac2 _ _,λa ha b y=>?_⟩;rw[aap.mp y];exact n a ha
 ·rw[m.2,X]
 ·show _=(g.gaps.zip (ws++[w++[x]])).length;rw[l,m.1,D,aal,aal];rfl
 ·rw[m.1];exact H
 ·rw[m.1];intro b y;have:=O b y;rw[m.2];omega
 ·show Us f (g.gaps.zip (ws++[w++[x]])) t u;rw[l];obtain⟨i,j,p,b,q,e1,e2,e3,L,C,N,e7,Y,e9,I⟩:=M u hu;have o:d<=i->j=(hs.zip ws).length:=λF=>I _ _ _ rfl (by omega);have y:d<=i->b=g.bg:=λF=>by have o:=o F;rw[aal]at D;obtain⟨c,c1,c2,_⟩:=last_at D;rw[o,c1]at L;cases L;exact H _ c2
  have h:∃A,(hs.zip ws++[((d:Int),w++[x])])[j]?=some A/\nu f i∈A.2:=by
   by_cases o:j<(hs.zip ws).length
   ·rw[aaS o]at C ⊢;exact⟨q,C,N⟩
   ·have:j=(hs.zip ws).length:=by have:=(aai.mp C).1;rw[aal,aaH]at this;omega
    subst this;rw[aaU]at C ⊢;cases C;exact⟨_,rfl,aaf _ N⟩
  obtain⟨A,q1,q2⟩:=h;refine⟨i,j,_,b,A,e1,e2,ep e3,by rw[m.1];exact L,q1,q2,?_,?_,?_,λps d' w' ee a0=>?_⟩
  ·split<;>omega
  ·split
   ·rename_i F;have:=y F;omega
   ·exact Y
  ·rw[m.2];split<;>omega
  ·have W:=abw ee rfl;have h2:(d:Int)=d':=congrArg (·.1) (ab7 W.2).1;rw[<-W.1];exact o (by omega)
 ·intro q h;have h:q∈g.wt:=h;rw[B]at h;exact absurd h aao
 ·intro q A h;have h:g.wt.head?=some q:=h;rw[B]at h;cases h
 ·intro v hv;rcases aaj.mp hv with z|z
  ·exact r v (by rw[J];exact aaf _ z)
  ·rw[aap.mp z];obtain⟨y1,Z,y3⟩:=r w (by rw[J];exact aag _ aad);exact⟨by simp,nd_snoc Z hn,λc hc=>(aaj.mp hc).elim (y3 c) λe=>by rw[aap.mp e];exact hx⟩
theorem Kv.us(V:Kv f g (k+1) s)(hs:s.ps.length=k)(c:g.gaps.zip g.words=ps++[(d,w)])(l:nu f k∈w)(t:0<=f.r1)(q:g.pl-g.bg<=f.r0):Us f (g.gaps.zip g.words) (lx f k s) ((k:Int),(ps.length:Int)):=by have a:=V.bl;rw[c,aal]at a;obtain⟨b,m,j,h⟩:=last_at a;have v:=V.bg b j;have p:=V.ble b h;have n:=V.pl;have r:=oT (f:=f) (k:=k);rw[c];refine⟨k,ps.length,s.pl,b,(d,w),rfl,rfl,?_,m,aaU,l,by omega,by omega,by show s.pl<=s.pl+sz f k;omega,λi u o e _=>by rw[(abw e rfl).1]⟩;show (s.ps++[s.pl])[k]?=_;rw[<-hs,aaU]
end
theorem Iv.p8(I:Iv f g k k):Iv f (laysG f g k) k (k+1):=by
 unfold laysG;split
 ·exact I.lay
 ·exact I.more (abp _)
theorem wZ(h:6<=f.r1)(hk:k<f.rows.length)(m:g2.pl=(laysG f g k).pl)(a:g2.wt=(laysG f g k).wt\/sz f k=2/\g2.wt=(laysG f g k).wt++[((k:Int),(laysG f g k).pl)]):Near f (jC g2 (sz f k)) (k+1):=by
 intro e b;have b:g2.wt.head?=some e:=b;show fw f.rows (k+1) (g2.pl+sz f k)-e.2<=f.r1;rw[m];cases c:(laysG f g k).wt with
 |nil=>
  rcases a with a|⟨i,a⟩
  ·rw[a,c]at b;cases b
  ·rw[a,c]at b;cases b;have:=(AM (rs:=f.rows) (k:=k+1) (p:=(laysG f g k).pl+sz f k)).2;show _-(laysG f g k).pl<=_;omega
 |cons q n=>
  have l:q=e:=by rcases a with a|⟨i,a⟩<;>rw[a,c]at b<;>exact aaC b
  subst l;have d:due f g k=false:=by
   cases d:due f g k with
   |false=>rfl
   |true=>unfold laysG at c;rw[if_pos d]at c;cases c
  have j:laysG f g k=g:=by unfold laysG;rw[if_neg (by rw[d];exact aak)]
  rw[j]at c ⊢;rw[DR c,abZ]at d;exact Int.not_lt.mp (Dad d.2)
theorem zQ{f:Cf}{g g2:G}(W:0<=f.r0)(F:6<=f.r1)(hk:k<f.rows.length)(I:Iv f g k k)(C:Cross f g k g2)(V:Kv f g k (mac f (g.gaps.zip g.words) k))(N:Near f g k):
  Kv f (jC g2 (sz f k)) (k+1) (mac f (g2.gaps.zip g2.words) (k+1))/\Near f (jC g2 (sz f k)) (k+1):=by
 have o:=V.p8 W I N;have T:=I.p8;have Z:=λh=>wZ (g:=g) (g2:=g2) F hk h;have t:=aan hk;have B:=C.gr;have y:=C.no;rw[t]at B y;have b:∀J:Pz,(inner f J k (mac f J k)).ps.length=k:=λJ=>by rw[cz];exact b8
 generalize laysG f g k=g1 at *;have s:g2.wt=[]->Near f (jC g2 (sz f k)) (k+1):=λz q h=>by have h:g2.wt.head?=some q:=h;rw[z]at h;cases h
 cases D:(f.rows[k]).gr with
 |false=>obtain rfl:=y D;exact⟨o.row (b _),Z rfl (.inl rfl)⟩
 |true=>
  have M:=sz_gr t D;have H:=nu_nm t D;have A:=T.wl;have n:∀{j w},g1.words=j++[w]->∃(b:List Int) (d:Nat),g1.gaps=b++[(d:Int)]/\j.length=b.length/\d<=k/\(∀q∈b.zip j,q.1<(d:Int))/\g1.gaps.zip g1.words=b.zip j++[((d:Int),w)]:=λ{j w} h=>by
   rw[h]at A;obtain⟨b,c,m,r⟩:=zip_last A;have v:g1.gaps.zip g1.words=b.zip j++[(c,w)]:=by rw[h,m,dZ r]
   obtain⟨d,Q,d2⟩:=o.lt (c,w) (by rw[v];exact aag _ aad);have Q:c=(d:Int):=Q;subst Q;refine⟨b,d,m,r,by omega,λq L=>?_,v⟩;have:=o.inc;rw[v]at this;exact(aa2.mp this).2.2 q L _ aad
  cases B D with
  |@put j w h u hni t=>
   obtain⟨p,d,m,r,Y,X,v⟩:=n h;have S:=Kv.put W h m r Y X hni H u t o;have O:g1.gaps.zip (j++[w++[nu f k]])=p.zip j++[((d:Int),w++[nu f k])]:=by rw[m,dZ r]
   have U:=S.us (b _) O (aag _ aad) (by omega) t;have x:=(S.row (b _)).addU U;have P:(g1.gaps.length:Int)-1=((p.zip j).length:Int):=by rw[m,aal,aa3,r,acA,aaH];omega
   refine⟨?_,s u⟩;rw[P];exact x
  |@got j w h hni t=>
   obtain⟨p,d,m,r,Y,X,v⟩:=n h;have u:g1.wt=[]:=by
    by_cases u:g1.wt=[]
    ·exact u
    ·have:=T.far u (by rw[h];simp);omega
   have U:=o.us (b _) v hni (by omega) t;have x:=(o.row (b _)).addU U;have P:(g1.gaps.length:Int)-1=((p.zip j).length:Int):=by rw[m,aal,aa3,r,acA,aaH];omega
   refine⟨?_,s u⟩;rw[P];exact x
  |wait h=>
   have m:=o.pl;have x:=(o.row (b _)).addW (by
    show ((inner f (g1.gaps.zip g1.words) k (mac f (g1.gaps.zip g1.words) k)).ps++[(inner f (g1.gaps.zip g1.words) k (mac f (g1.gaps.zip g1.words) k)).pl])[k]?=_;rw[m];have:=aaU (l:=(inner f (g1.gaps.zip g1.words) k (mac f (g1.gaps.zip g1.words) k)).ps) (a:=g1.pl);rw[b]at this;exact this) (by show _<=(inner f (g1.gaps.zip g1.words) k (mac f (g1.gaps.zip g1.words) k)).pl+sz f k;rw[m];omega) (λq L=>by obtain⟨i,_,_,e⟩:=o.wt q L;rw[m]at e;exact e)
   exact⟨x,Z rfl (.inr ⟨M,rfl⟩)⟩
theorem zR(d:0<=f.r0)(a:6<=f.r1)(W:Gone f k g):Kv f g k (mac f (g.gaps.zip g.words) k)/\Near f g k:=by
 induction W with
 |zero=>exact⟨⟨λq h=>absurd h aao,List.Pairwise.nil,rfl,rfl,λb h=>absurd h (by simp[mac]),λb h=>absurd h aao,λu h=>absurd h aao,λu h=>absurd h aao,λq i h=>absurd h (by simp),λu h=>absurd h aao⟩,λq h=>absurd h (by simp)⟩
 |step h e I C c=>exact zQ d a e I C c.1 c.2
theorem end_kv(b:0<=f.r0)(a:6<=f.r1)(d:g=laysG f g0 f.rows.length)(c:Iv f g0 f.rows.length f.rows.length)(W:Gone f f.rows.length g0):Kv f g (f.rows.length+1) (inner f (g.gaps.zip g.words) f.rows.length (mac f (g.gaps.zip g.words) f.rows.length)):=by obtain⟨V,N⟩:=zR b a W;rw[d];exact V.p8 b c N
theorem zT{k:Nat}(h:f.rows[k]?=some r):pl.pg.call (n+2) 34 [Rl f.rows,Lo f,It k]=some (It (sz f k),[Rl f.rows,Lo f,It k]):=by
 unfold sz;rw[h];have a:=ae (C:=Kt (n+1)) (f:=33) (es:=.cons IU .nil) (ρ:=[Kk f.rows,Kl f,Kg k]) (aa (aE rfl rfl rfl (bu (fO h))) ag) rfl (mX r) rfl;cases c:r.gr with
 |true=>rw[c]at a;rw[if_pos (.inl c)];exact af rfl rfl (ax (ah (mQ (mR (aL a)) rfl) rfl)) rfl
 |false=>
  rw[c]at a;have b:aY (Kt (n+1)) edo [Kk f.rows,Kl f,Kg k]=some (decide ((k:Int)∈f.longs),[Kk f.rows,Kl f,Kg k]):=aG (aw rfl rfl rfl rfl inL);cases d:decide ((k:Int)∈f.longs) with
  |true=>rw[d]at b;rw[if_pos (.inr (Daa d))];exact af rfl rfl (ax (ah (mQ (aV (aL a) b) rfl) rfl)) rfl
  |false=>rw[d]at b;rw[if_neg λz=>z.elim (λz=>absurd (c.symm.trans z) aak) λz=>Dad d z];exact af rfl rfl (ax (ah (wu (aV (aL a) b) rfl) rfl)) rfl
theorem ji:∀{qs:Pz}{s:Mc},(inner f qs k s).bs.length=s.bs.length+qs.countP λq=>decide (q.1=(k:Int))
 |[],s=>rfl
 |q::qs,s=>by
  show (inner f qs k (inn f k s q)).bs.length=_;rw[ji,ab9];unfold inn;by_cases h:q.1=(k:Int)
  ·rw[if_pos h,Dac h,if_pos rfl];show (s.bs++[_]).length+_=_;rw[aal,aaH];omega
  ·rw[if_neg h,Dab h,if_neg aak];omega
theorem jk:∀{qs:Pz},(∀q∈qs,0<=q.1)->qs.countP (λq=>decide (q.1<((k+1:Nat):Int)))=qs.countP (λq=>decide (q.1<(k:Int)))+qs.countP λq=>decide (q.1=(k:Int))
 |[],_=>rfl
 |q::qs,h=>by rw[ab9,ab9,ab9,jk λq a=>h q (aah _ a)];simp only[decide_eq_true_eq];split<;>split<;>split<;>omega
theorem gA(h:∀q∈qs,0<=q.1):∀{k:Nat},(mac f qs k).bs.length=qs.countP λq=>decide (q.1<(k:Int))
 |0=>by show 0=_;rw[eq_comm,List.countP_eq_zero];intro q a z;have:=h q a;have:=Daa z;omega
 |k+1=>by show (inner f qs k (mac f qs k)).bs.length=_;rw[ji,gA h,jk h]
abbrev Pq(qs:Pz):OD:=.fz (.list (qs.map Po))
abbrev Kn(qs:Pz):Option OD:=some (Pq qs)
abbrev qE(f:Cf)(qs:Pz)(s:Mc)(k:Nat)(o7 o8:Option OD):DEnv:=[Kk f.rows,Kl f,Kn qs,some (Il s.ps),some (Il s.bs),Kg s.pl,Kg k,o7,o8]
abbrev IW:E:=.or edq eam
theorem zU(r:R):jq .nin (.str r.wd) (.tuple [.str "go",.str lw])=some r.fal:=by show some (!(decide ("go"=r.wd)||(decide (lw=r.wd)||false)))=some (!decide (r.wd="go")&&!decide (r.wd=lw));rw[ach,Bool.not_or,decide_eq_decide.mpr (eq_comm ),decide_eq_decide.mpr (eq_comm (a:=Str.ofString "stop"))]
theorem IX(h:k<=f.rows.length):ev (Kt n) IW (qE f qs s k o7 o8)=some (.val (.fz (.bool (zK f.rows k))),qE f qs s k o7 o8):=by
 cases k with
 |zero=>exact AH rfl
 |succ k=>
  have b:((k+1:Nat):Int)-1=(k:Int):=by omega
  have a:zK f.rows (k+1)=(f.rows[k]).fal:=by show (f.rows[k]?).elim true R.fal=_;rw[aan h];rfl
  rw[a];exact AI (aw rfl rfl rfl rfl (show some (decide (((k+1:Nat):Int)=0))=some false by rw[Dab (by omega)])) (aw (aE (aE rfl rfl rfl (bu (by rw[b];exact fO (aan (by omega))))) rfl rfl (by rw[R.d_is];exact item_t atI_zero)) rfl rfl rfl (zU _))
abbrev inB:Ss:=.cons (.iff edr (.cons (.set 5 (.bop .add (.nm 5) (.bop .mul (.int 2) (.blt .int (.cons IW .nil))))) ead) .nil) .nil
abbrev Tn(q:Int×List Int):OD:=.fz (.tuple (q.2.map PyData.int))
abbrev qF(f:Cf)(qs:Pz)(s:Mc)(k:Nat)(q:Int×List Int):DEnv:=qE f qs s k (Kg q.1) (some (Tn q))
theorem zV(h:k<=f.rows.length)(i:s.bs.length<1000):aN (Kt n) inB (qF f qs s k q)=some (.nx,qF f qs (inn f k s q) k q):=by
 unfold inn;by_cases e:q.1=(k:Int)
 ·rw[if_pos e];have b:=IX (n:=n) (qs:=qs) (s:=s) (o7:=Kg q.1) (o8:=some (Tn q)) h;refine ab (aW (aG (aw rfl rfl rfl rfl (show some (decide (q.1=(k:Int)))=some true by rw[Dac e]))) ?_) rfl;have g:∀v,zK f.rows k=v->cJ (Kt n) (.set 5 (.bop .add (.nm 5) (.bop .mul (.int 2) (.blt .int (.cons IW .nil))))) (qF f qs s k q)=some (.nx,qF f qs ⟨s.ps,s.bs,if v=true then s.pl+2 else s.pl⟩ k q):=λv c=>by
   rw[c]at b;cases v with
   |true=>exact ak (ai rfl (ai rfl (e_blt (aa b ag) rfl rfl) rfl rfl rfl) rfl rfl rfl) rfl rfl rfl
   |false=>exact ak (ai (d:=.int s.pl) rfl (ai rfl (e_blt (aa b ag) rfl rfl) rfl rfl rfl) rfl rfl (by show some (PyData.int (s.pl+0))=_;rw[Int.add_zero])) rfl rfl rfl
  refine ab (g _ rfl) ?_;generalize hq:(if zK f.rows k=true then s.pl+2 else s.pl)=p;have a:fw f.rows k s.pl=p+2-p%2:=by unfold fw;rw[hq]
  rw[a];refine ab (ak (ai rfl (ai rfl rfl rfl rfl (dr (by decide))) rfl rfl rfl) rfl rfl rfl) ?_;refine ab (gq rfl rfl rfl rfl (by rw[aaa];exact abi i (by decide)) (by show _=[Kk f.rows,Kl f,Kn qs,some (Il s.ps),some (Il (s.bs++[p+2-p%2])),Kg (p+2-p%2),Kg k,Kg q.1,some (Tn q)];rw[cH];rfl)) ?_;exact ab (ak (ai rfl (ai rfl (e_blt rfl rfl (by show some (PyData.int ((q.2.map PyData.int).length:Nat))=_;rw[aaa])) rfl rfl (eQ (.inl (by decide)))) rfl rfl rfl) rfl rfl rfl) rfl
 ·rw[if_neg e];exact ab (az (aG (aw rfl rfl rfl rfl (show some (decide (q.1=(k:Int)))=some false by rw[Dab e]))) rfl) rfl
abbrev JB(n:Nat)(d:PyData)(ρ':DEnv):Option (Fl×DEnv):=(be (.tp [7,8]) (.fz d) ρ').bind λρ1=>aN (Kt n) inB ρ1
theorem qR(h:k<=f.rows.length):∀{rs:Pz}{s:Mc}{o7 o8:Option OD},s.bs.length+rs.length<1000->∃b a,bD (JB n) (rs.map Po) (qE f qs s k o7 o8)=some (.nx,qE f qs (inner f rs k s) k b a)
 |[],s,o7,o8,_=>⟨o7,o8,rfl⟩
 |q::rs,s,o7,o8,hb=>by
  rw[aau]at hb;have e:JB n (Po q) (qE f qs s k o7 o8)=some (.nx,qF f qs (inn f k s q) k q):=bs rfl (zV h (by omega));have c:(inn f k s q).bs.length+rs.length<1000:=by
   unfold inn;split
   ·show (s.bs++[_]).length+_<_;rw[aal,aaH];omega
   ·omega
  obtain⟨b,a,d⟩:=qR h c;exact⟨b,a,bs e d⟩
abbrev qG(f:Cf)(qs:Pz)(s:Mc)(o6 o7 o8:Option OD):DEnv:=[Kk f.rows,Kl f,Kn qs,some (Il s.ps),some (Il s.bs),Kg s.pl,o6,o7,o8]
noncomputable abbrev ouB:Ss:=.cons (.fr (.tp [7,8]) (.seq (.nm 2)) inB) eae
abbrev JC(n:Nat)(d:PyData)(ρ':DEnv):Option (Fl×DEnv):=(be (.nm 6) (.fz d) ρ').bind λρ1=>aN (Kt n) ouB ρ1
def AN:aY (Kt n) Jy (qE f qs s k o7 o8)=some (decide ((k:Int)<(f.rows.length:Int)),qE f qs s k o7 o8):=aG (aw rfl (e_blt rfl rfl (by show some (PyData.int ((f.rows.map R.d).length:Nat))=_;rw[aaa])) rfl rfl rfl)
def AO(h:k<=f.rows.length)(c:s.bs.length+qs.length<1000):∃a b,cJ (Kt n) (.fr (.tp [7,8]) (.seq (.nm 2)) inB) (qE f qs s k o7 o8)=some (.nx,qE f qs (inner f qs k s) k a b):=by obtain⟨a,b,e⟩:=qR h c;exact⟨a,b,cx (aR rfl rfl rfl) e⟩
theorem zW{k:Nat}(h:k<f.rows.length)(i:s.bs.length+qs.length<1000)(j:s.ps.length<1000):∃d a b,JC (n+2) (.int k) (qG f qs s o6 o7 o8)=some (.nx,qG f qs (lx f k (inner f qs k s)) d a b):=by
 obtain⟨a,b,e⟩:=AO (aaZ h) i;have c:(inner f qs k s).ps.length<1000000:=by rw[cz];omega
 generalize inner f qs k s=t at e c;have g:=AN (n:=n+2) (f:=f) (qs:=qs) (s:=t) (k:=k) (o7:=a) (o8:=b);rw[Dac (by omega)]at g;refine⟨Kg k,a,b,bs rfl (ab e (ab (aW g (ab (gq (ρ3:=qE f qs ⟨t.ps++[t.pl],t.bs,t.pl⟩ k a b) rfl rfl rfl rfl (by rw[aaa];exact c) ?_) (ab (ak (ai rfl (ae rfl rfl (zT (aan h)) rfl) rfl rfl rfl) rfl rfl rfl) rfl))) rfl))⟩;show _=[Kk f.rows,Kl f,Kn qs,some (Il (t.ps++[t.pl])),some (Il t.bs),Kg t.pl,Kg k,a,b];rw[cH];rfl
theorem qS{f:Cf}{qs:Pz}(j:∀q∈qs,0<=q.1)(w:qs.length<=300)(y:f.rows.length<=200):∀{m k:Nat}{o6 o7 o8:Option OD},k+m=f.rows.length->∃o d g,bD (JC (n+2)) (cA k (m+1)) (qG f qs (mac f qs k) o6 o7 o8)=some (.nx,qG f qs (inner f qs f.rows.length (mac f qs f.rows.length)) o d g)
 |0,k,o6,o7,o8,h=>by
  obtain rfl:k=f.rows.length:=h;have i:(mac f qs f.rows.length).bs.length+qs.length<1000:=by rw[gA j];have:=aca (p:=λq:Int×List Int=>decide (q.1<(f.rows.length:Int))) (l:=qs);omega
  obtain⟨d,g,e⟩:=AO (aae _) i;have r:=AN (n:=n+2) (f:=f) (qs:=qs) (s:=inner f qs f.rows.length (mac f qs f.rows.length)) (k:=f.rows.length) (o7:=d) (o8:=g);rw[Dab (by omega)]at r;refine⟨Kg f.rows.length,d,g,?_⟩;rw[bz];exact bs (bs rfl (ab e (ab (az r rfl) rfl))) rfl
 |m+1,k,o6,o7,o8,h=>by
  have i:(mac f qs k).bs.length+qs.length<1000:=by rw[gA j];have:=aca (p:=λq:Int×List Int=>decide (q.1<(k:Int))) (l:=qs);omega
  obtain⟨a,b,c,e⟩:=zW (o7:=o7) (o8:=o8) (show k<f.rows.length by omega) i (by rw[b8];omega);obtain⟨u,x,v,t⟩:=qS (n:=n) j w y (m:=m) (k:=k+1) (o6:=a) (o7:=b) (o8:=c) (by omega);refine⟨u,x,v,?_⟩;rw[bz];exact bs e t
abbrev JD(s:Mc):OD:=.fz (.tuple [.list (s.ps.map PyData.int),.list (s.bs.map PyData.int),.int s.pl])
abbrev Dl(gs:List Int):OD:=.fz (.list (gs.map PyData.int))
abbrev Ko(gs:List Int):Option OD:=some (Dl gs)
theorem w8(h:∀q∈qs,0<=q.1)(k:qs.length<=300)(m:f.rows.length<=200):pl.pg.call (n+3) 35 [Rl f.rows,Lo f,Pq qs]=some (JD (inner f qs f.rows.length (mac f qs f.rows.length)),[Rl f.rows,Lo f,Pq qs]):=by
 obtain⟨b,a,c,e⟩:=qS h k m (aaT _);generalize inner f qs f.rows.length (mac f qs f.rows.length)=s at e;have i:(((f.rows.length:Nat):Int)+1).toNat=f.rows.length+1:=by omega
 refine af rfl rfl (ab (wA rfl rfl rfl rfl) (ab (cx (eX (ai (e_blt rfl rfl (by show some (PyData.int ((f.rows.map R.d).length:Nat))=_;rw[aaa])) rfl rfl rfl rfl) rfl (by omega)) (by rw[i];exact e)) (ax (ah (eM (zs:=[Dl s.ps,Dl s.bs,It s.pl]) (ρ2:=[Kk f.rows,Kl f,Kn qs,Ko s.ps,Ko s.bs,Kg s.pl,b,a,c]) rfl rfl ?_ rfl) rfl)))) rfl;have l:own1 (qG f qs s b a c) (.rf 3)=some (Dl s.ps,[Kk f.rows,Kl f,Kn qs,Ko s.ps,some (Il s.bs),Kg s.pl,b,a,c]):=by show (frz1 _ (.rf 3)).map _=_;rw[bo rfl (aA _) rfl];rfl
 have j:own1 [Kk f.rows,Kl f,Kn qs,Ko s.ps,some (Il s.bs),Kg s.pl,b,a,c] (.rf 4)=some (Dl s.bs,[Kk f.rows,Kl f,Kn qs,Ko s.ps,Ko s.bs,Kg s.pl,b,a,c]):=by show (frz1 _ (.rf 4)).map _=_;rw[bo rfl (aA _) rfl];rfl
 have g:mapR own1 [Kk f.rows,Kl f,Kn qs,Ko s.ps,some (Il s.bs),Kg s.pl,b,a,c] [.rf 4,.val (It s.pl)]=some ([Dl s.bs,It s.pl],[Kk f.rows,Kl f,Kn qs,Ko s.ps,Ko s.bs,Kg s.pl,b,a,c]):=bs j rfl;exact bs l (by show Option.map _ (mapR own1 _ _)=_;rw[g];rfl)
def DU(c:ρ[i]?.join=Kg a)(b:ev C e ρ=some (x,ρ1))(g:ar ρ1 x=some d)(f:mx o a d=some r)(h:ρ1.set i (Kg r)=ρ2):cJ C (.aug i o e) ρ=some (.nx,ρ2):=bs c (bs rfl (bs rfl (bs b (bs g (bs f (by rw[<-h]))))))
def gB(h:ev C e ρ=some (x,ρ1))(a:own1 ρ1 x=some (z,ρ2))(b:be t z ρ2=some ρ3):cJ C (.asg t e) ρ=some (.nx,ρ3):=bs h (bs a (bs b rfl))
theorem DV(h:jQ C it ρ=some (ds,ρ1))(e:ds.length<1000000)(a:bE ρ1 fr=some zc)(b:cj (vk C tg ke ve) ds ([],[]) (List.replicate nt none++zc.1)=some ((ks,vs),ρ2))(c:i<(bL zc.2 fr (ρ2.drop nt)).length)(d:(bL zc.2 fr (ρ2.drop nt)).set i (some (.dic ks vs))=ρ3):cJ C (.sdc i nt fr it tg ke ve) ρ=some (.nx,ρ3):=bs h (bg e (bs a (bs b (bg c (by rw[<-d])))))
abbrev Qk(qs:Pz):List Key:=(qs.map λq=>(q.1,(q.2.length:Int))).map λu=>.inl u.1
abbrev Qv(qs:Pz):List OD:=(qs.map λq=>(q.1,(q.2.length:Int))).map λu=>It u.2
abbrev Qd(qs:Pz):OD:=.dic (Qk qs) (Qv qs)
abbrev Kq(qs:Pz):Option OD:=some (Qd qs)
theorem w9:∀{qs ps:Pz}{o0 o1:Option OD},(ps++qs).Pairwise (λx y=>x.1<y.1)->∃b a,cj (vk C (.tp [0,1]) (.nm 0) ec7) (qs.map Po) (Qk ps,Qv ps) [o0,o1]=some ((Qk (ps++qs),Qv (ps++qs)),[b,a])
 |[],ps,o0,o1,_=>⟨o0,o1,by rw[aaq];rfl⟩
 |q::qs,ps,o0,o1,h=>by
  have i:q.1 ∉ (ps.map λq=>(q.1,(q.2.length:Int))).map (·.1):=λz=>by obtain⟨u,g,e⟩:=aat.mp z;obtain⟨x,d,rfl⟩:=aat.mp g;have:=(aa2.mp h).2.2 x d q aad;have e:x.1=q.1:=e;omega
  have e:=putK_new (v:=(q.2.length:Int)) i;obtain⟨b,a,c⟩:=w9 (ps:=ps++[q]) (by rw[aac];exact h);rw[aac]at c;refine⟨b,a,bs (x:=((Qk (ps++[q]),Qv (ps++[q])),[Kg q.1,some (Tn q)])) ?_ c⟩;refine bs rfl (bs rfl (bs (e_blt rfl rfl (by show some (PyData.int ((q.2.map PyData.int).length:Nat))=_;rw[aaa])) (bs rfl (bs rfl (bs rfl ?_)))));have f:(ps++[q]).map (λq=>(q.1,(q.2.length:Int)))=ps.map (λq=>(q.1,(q.2.length:Int)))++[(q.1,(q.2.length:Int))]:=aaw;show some (bt (.inl q.1) (.int (q.2.length:Int)) (Qk ps) (Qv ps),[Kg q.1,some (Tn q)])=some ((List.map _ ((ps++[q]).map _),List.map _ ((ps++[q]).map _)),_);rw[f,e]
abbrev zP(f:Cf)(qs:Pz)(s:Mc)(o7:Option OD):DEnv:=[Kk f.rows,Kl f,Kn qs,Kq qs,some (Il s.ps),some (Il s.bs),Kg s.pl,o7]
abbrev zS:Ss:=match F_placed.body with|.cons _ (.cons _ (.cons _ (.cons _ (.cons (.fr _ _ b) _))))=>b|_=>.nil
def AQ:aY (Kt n) eb6 (zP f qs s (Kg k))=some (decide ((k:Int)<(f.rows.length:Int)),zP f qs s (Kg k)):=aG (aw rfl (e_blt rfl rfl blen) rfl rfl rfl)
def AR(h:((Qk qs).any λq=>decide (q=.inl (k:Int)))=b):aY (Kt n) Jt (zP f qs s (Kg k))=some (b,zP f qs s (Kg k)):=by rw[<-h];rfl
theorem Qk_any:((Qk qs).any λq=>decide (q=.inl (k:Int)))=true ↔ ∃q∈qs,q.1=(k:Int):=by
 rw[abG];constructor
 ·rintro⟨x,b,e⟩;obtain⟨u,c,rfl⟩:=aat.mp b;obtain⟨q,a,rfl⟩:=aat.mp c;have:=Daa e;injection this with this;exact⟨q,a,this⟩
 ·rintro⟨q,a,e⟩;exact⟨.inl q.1,aat.mpr ⟨_,aat.mpr ⟨q,a,rfl⟩,rfl⟩,Dac (by rw[e])⟩
theorem zX(h:∀x∈a,x.1≠(k:Int))(e:q.1=(k:Int)):(Qk (a++q::b)).findIdx? (λq=>decide (q=.inl (k:Int)))=some a.length:=by
 induction a with
 |nil=>exact(aaY).trans (if_pos (Dac (show (Sum.inl q.1:Key)=.inl (k:Int) by rw[e])))
 |cons x a d=>have c:¬ (decide ((Sum.inl x.1:Key)=.inl (k:Int)))=true:=λz=>h x aad (by have:=Daa z;injection this);refine(aaY).trans ((if_neg c).trans ?_);exact congrArg (Option.map λi=>i+1) (d λy f=>h y (aah _ f))
theorem GJ(l:qs.Pairwise λx y=>x.1<y.1)(hk:k<=f.rows.length)(v:s.bs.length<1000)(K:aN (Kt (n+3)) sb (zP f qs (inner f qs k s) (Kg k))=r):aN (Kt (n+3)) (.cons eac sb) (zP f qs s (Kg k))=r:=by
 by_cases h:∃q∈qs,q.1=(k:Int)
 ·have g:=AR (n:=n+3) (f:=f) (s:=s) (Qk_any.mpr h);obtain⟨q,d,e⟩:=h;obtain⟨a,b,rfl⟩:=List.append_of_mem d;have m:∀x∈a,x.1≠(k:Int):=λx i=>by have:=(aa2.mp l).2.2 x i q aad;omega
  have c:∀x∈b,x.1≠(k:Int):=λx i=>by have:=(abc.mp (aa2.mp l).2.1).1 x i;omega
  have u:inner f (a++q::b) k s=⟨s.ps,s.bs++[fw f.rows k s.pl],fw f.rows k s.pl+2*q.2.length⟩:=by rw[gy,bq m];show inner f b k (inn f k s q)=_;rw[bq c];exact if_pos e
  have p:(Qv (a++q::b))[a.length]?=Kg q.2.length:=by rw[aas,aas,abh (aae _),ab4];rfl
  have j:∀t:Mc,aj (zP f (a++q::b) t (Kg k)) 3 [.key 7]=some (Qd (a++q::b),[a.length],It q.2.length):=λt=>by refine bs rfl (bs ?_ (bs p rfl));exact bs rfl (bs rfl (bs rfl (bs rfl (zX m e))))
  rw[u]at K;refine ab (aW g (ab (gq (ρ3:=zP f (a++q::b) ⟨s.ps,s.bs++[fw f.rows k s.pl],s.pl⟩ (Kg k)) rfl (ae rfl rfl (lq hk) rfl) rfl rfl (by rw[aaa];omega) ?_) (ab (ak (ai (aE rfl rfl rfl (mY rfl ?_)) (ai rfl (b7 (j _) rfl) rfl rfl (eQ (.inl (by decide)))) rfl rfl rfl) rfl rfl rfl) rfl))) K
  ·show _=[Kk f.rows,Kl f,some (Pq (a++q::b)),some (Qd (a++q::b)),some (Il s.ps),some (Il (s.bs++[fw f.rows k s.pl])),Kg s.pl,Kg k];rw[cH];rfl
  ·rw[aaw];have o:ixN (s.bs.map It++[fw f.rows k s.pl].map It).length (-1)=some (s.bs.map It).length:=by unfold ixN;rw[if_neg (by decide),aal,aaa,if_pos (by simp;omega)];congr 1;simp;omega
   exact bs o aaU
 ·have g:=AR (n:=n+3) (f:=f) (s:=s) (by rw[Bool.eq_false_iff];exact λz=>h (Qk_any.mp z));rw[bq λq d e=>h ⟨q,d,e⟩]at K;exact ab (az g rfl) K
theorem xf(i:qs.Pairwise λx y=>x.1<y.1)(g:∀q∈qs,0<=q.1)(u:qs.length<=300)(w:f.rows.length<=200):∀{m k:Nat}{o7:Option OD},k+m=f.rows.length->∃c,bD (λd b=>(be (.nm 7) (.fz d) b).bind λρ1=>aN (Kt (n+3)) zS ρ1) (cA k (m+1)) (zP f qs (mac f qs k) o7)=some (.nx,zP f qs (inner f qs f.rows.length (mac f qs f.rows.length)) c)
 |0,k,o7,h=>by
  obtain rfl:k=f.rows.length:=h;have e:(mac f qs f.rows.length).bs.length<1000:=by rw[gA g];have:=aca (p:=λq:Int×List Int=>decide (q.1<(f.rows.length:Int))) (l:=qs);omega
  have a:=AQ (n:=n+3) (f:=f) (qs:=qs) (s:=inner f qs f.rows.length (mac f qs f.rows.length)) (k:=f.rows.length);rw[Dab (by omega)]at a;refine⟨Kg f.rows.length,?_⟩;rw[bz];exact bs (bs rfl (GJ i (aae _) e (ab (az a rfl) rfl))) rfl
 |m+1,k,o7,h=>by
  have o:k<f.rows.length:=by omega
  have e:(mac f qs k).bs.length<1000:=by rw[gA g];have:=aca (p:=λq:Int×List Int=>decide (q.1<(k:Int))) (l:=qs);omega
  have a:=AQ (n:=n+3) (f:=f) (qs:=qs) (s:=inner f qs k (mac f qs k)) (k:=k);rw[Dac (by omega)]at a;have z:mac f qs (k+1)=lx f k (inner f qs k (mac f qs k)):=rfl;have t:(inner f qs k (mac f qs k)).ps.length<1000000:=by rw[cz,b8];omega
  obtain⟨v,j⟩:=xf i g u w (m:=m) (k:=k+1) (o7:=Kg k) (by omega);rw[z]at j;refine⟨v,?_⟩;rw[bz];refine bs (x:=(Fl.nx,zP f qs (lx f k (inner f qs k (mac f qs k))) (Kg k))) (bs (x:=zP f qs (mac f qs k) (Kg k)) rfl (GJ i (aaZ o) e ?_)) j;generalize inner f qs k (mac f qs k)=s at *;refine ab (aW a (ab (gq (ρ3:=zP f qs ⟨s.ps++[s.pl],s.bs,s.pl⟩ (Kg k)) rfl rfl rfl rfl (by rw[aaa];exact t) ?_) (ab (DU (r:=s.pl+sz f k) (ρ2:=zP f qs (lx f k s) (Kg k)) rfl (ae (ρ3:=zP f qs ⟨s.ps++[s.pl],s.bs,s.pl⟩ (Kg k)) rfl rfl (oP (n:=n+1) (aan o)) rfl) rfl rfl rfl) rfl))) rfl;show _=[Kk f.rows,Kl f,Kn qs,Kq qs,some (Il (s.ps++[s.pl])),some (Il s.bs),Kg s.pl,Kg k];rw[cH];rfl
theorem zY(b:qs.Pairwise λx y=>x.1<y.1)(d:∀q∈qs,0<=q.1)(j:qs.length<=300)(m:f.rows.length<=200):pl.pg.call (n+4) 7 [Rl f.rows,Lo f,Pq qs]=some (JD (inner f qs f.rows.length (mac f qs f.rows.length)),[Rl f.rows,Lo f,Pq qs]):=by
 obtain⟨a,e⟩:=xf b d j m (aaT _);generalize inner f qs f.rows.length (mac f qs f.rows.length)=s at e;have g:(((f.rows.length:Nat):Int)+1).toNat=f.rows.length+1:=by omega
 obtain⟨o,p,k⟩:=w9 (ps:=[]) b;have h:cJ (Kt (n+3)) ea7 [Kk f.rows,Kl f,Kn qs,none,none,none,none,none]=some (.nx,[Kk f.rows,Kl f,Kn qs,Kq qs,none,none,none,none]):=DV (aR rfl rfl rfl) (by rw[aaa];omega) rfl k (by show 3<8;decide) rfl;refine af rfl rfl (ab h (ab rfl (ab rfl (ab rfl (ab (cx (eX (ai (e_blt rfl rfl blen) rfl rfl rfl rfl) rfl (by omega)) (by rw[g];exact e)) (ax (ah (eM (zs:=[Dl s.ps,Dl s.bs,It s.pl]) (ρ2:=[Kk f.rows,Kl f,Kn qs,Kq qs,Ko s.ps,Ko s.bs,Kg s.pl,a]) rfl rfl ?_ rfl) rfl))))))) rfl;have l:own1 (zP f qs s a) (.rf 4)=some (Dl s.ps,[Kk f.rows,Kl f,Kn qs,Kq qs,Ko s.ps,some (Il s.bs),Kg s.pl,a]):=by show (frz1 _ (.rf 4)).map _=_;rw[bo rfl (aA _) rfl];rfl
 have i:own1 [Kk f.rows,Kl f,Kn qs,Kq qs,Ko s.ps,some (Il s.bs),Kg s.pl,a] (.rf 5)=some (Dl s.bs,[Kk f.rows,Kl f,Kn qs,Kq qs,Ko s.ps,Ko s.bs,Kg s.pl,a]):=by show (frz1 _ (.rf 5)).map _=_;rw[bo rfl (aA _) rfl];rfl
 have c:mapR own1 [Kk f.rows,Kl f,Kn qs,Kq qs,Ko s.ps,some (Il s.bs),Kg s.pl,a] [.rf 5,.val (It s.pl)]=some ([Dl s.bs,It s.pl],[Kk f.rows,Kl f,Kn qs,Kq qs,Ko s.ps,Ko s.bs,Kg s.pl,a]):=bs i rfl;exact bs l (by show Option.map _ (mapR own1 _ _)=_;rw[c];rfl)
theorem xg:∀{ns pre:List Int},(pre++ns).Nodup->ns.foldl ddI pre=pre++ns
 |[],pre,_=>(aaq _).symm
 |n::ns,pre,h=>by have a:n ∉ pre:=λz=>(aaB.mp h).2.2 n z n aad rfl;rw[abA,show ddI pre n=pre++[n] from if_neg a,xg (by rw[aac];exact h),aac];rfl
theorem cU:∀ns:List Int,gH (ns.map PyData.int)=some ns
 |[]=>rfl
 |n::ns=>bs rfl (bs (cU ns) rfl)
def qT{ns:List Int}(h:ev C e ρ=some (x,ρ1))(b:ar ρ1 x=some (.tuple (ns.map PyData.int)))(a:ns.length<1000)(c:ns.Nodup):ev C (.lset e) ρ=some (.val (It ns.length),ρ1):=by refine bs h (bs b (bs rfl (bs (cU ns) (bg a ?_))));rw[xg (pre:=[]) c];rfl
theorem fP(b:ev C x ρ=some (vx,ρ1))(f:ev C y ρ1=some (vy,ρ2))(d:ar ρ2 vx=some dx)(g:ar ρ2 vy=some dy)(h:jq o dx dy=some true)(c:ev C z ρ2=some (vz,ρ3))(a:ar ρ3 vy=some dy')(e:ar ρ3 vz=some dz)(h':jq o' dy' dz=some k):ev C (.cmp2 o o' x y z) ρ=some (.val (.fz (.bool k)),ρ3):=bs b (bs f (bs d (bs g (bs h (bs c (bs a (bs e (bs h' rfl))))))))
def jD(h:x<=y):jq .le (.int x) (.int y)=some true:=by show some (decide (x<=y))=_;rw[Dac h]
def GK(h:x<y):jq .lt (.int x) (.int y)=some true:=by show some (decide (x<y))=_;rw[Dac h]
def IY(h:x=y):jq .eq (.int x) (.int y)=some true:=by show some (decide (x=y))=_;rw[Dac h]
def DW(h:x=y):jq .ne (.int x) (.int y)=some false:=by show some (!decide (x=y))=_;rw[Dac h];rfl
def blenT{a:Type}{f:a->PyData}{l:List a}:Ed .len [.tuple (l.map f)]=some (.int l.length):=by show some (PyData.int ((l.map f).length:Nat))=_;rw[aaa]
def inT{ls:List Int}:jq .inn (.int x) (.tuple (ls.map PyData.int))=some (decide (x∈ls)):=bs (f:=λa=>(gd (Cc (PyData.int x)=true)).bind λ_=>memD (.int x) a) rfl (bg rfl jc)
def IZ{ls:List Int}:jq .nin (.int x) (.tuple (ls.map PyData.int))=some (!decide (x∈ls)):=bs (inT ) rfl
def t_cmp2(h:ev C (.cmp2 o o' x y z) ρ=some (.val (.fz (.bool k)),ρ1)):aY C (.cmp2 o o' x y z) ρ=some (k,ρ1):=bs h rfl
theorem GL:∀{k:Nat},allB (List.replicate k (.bool true))=some (List.replicate k true)
 |0=>rfl
 |k+1=>by show (allB (List.replicate k (.bool true))).map _=_;rw[GL];rfl
theorem qU(P:DEnv->Prop):∀{ds:List PyData}{k:Nat}{ρ:DEnv},P ρ->(∀d∈ds,∀ρ,P ρ->∃a,aS C tg .none elt d ρ=some ([.bool true],a)/\P a)->∃a,aM (aS C tg .none elt) ds (List.replicate k (.bool true)) ρ=some (List.replicate (k+ds.length) (.bool true),a)/\P a
 |[],k,ρ,hP,_=>⟨ρ,rfl,hP⟩
 |d::ds,k,ρ,hP,h=>by obtain⟨ρ1,i,c⟩:=h d aad ρ hP;obtain⟨b,e,g⟩:=qU P c λx f=>h x (aah _ f);refine⟨b,bs i ?_,g⟩;show aM _ ds (List.replicate k (.bool true)++[.bool true]) ρ1=_;rw[<-List.replicate_succ',e,aau];congr 3;omega
theorem fQ(P:DEnv->Prop)(b:jQ C it ρ=some (ds,ρ1))(j:ds.length<1000000)(g:bE ρ1 fr=some zc)(f:P (List.replicate nt none++zc.1))(h:∀d∈ds,∀ρ,P ρ->∃a,aS C tg .none elt d ρ=some ([.bool true],a)/\P a)(i:∀a,P a->bL zc.2 fr (a.drop nt)=ρ2):aY C (.blt .all (.cons (.comp nt fr it tg .none elt) .nil)) ρ=some (true,ρ2)/\ev C (.blt .all (.cons (.comp nt fr it tg .none elt) .nil)) ρ=some (.val (.fz (.bool true)),ρ2):=by
 obtain⟨a,e,l⟩:=qU P f h;rw[aaT]at e;have k:Ed .all [.list (List.replicate ds.length (.bool true))]=some (.bool true):=by show ((allB (List.replicate ds.length (.bool true))).bind λc=>some (PyData.bool (c.all id)))=_;rw[GL];simp
 have:=e_blt (aa (bG b j g e (i a l)) ag) (by simp only[fX,ar,abC,bV];rfl) k;exact⟨Gx this,this⟩
def DX(a:0<=x)(b:x<y):pl.pg.call (n+1) 0 [It x,It y]=some (.fz (.bool true),[It x,It y]):=
 af rfl rfl (ab (az rfl rfl) (ax (ah (fP rfl rfl rfl rfl (jD a) rfl rfl rfl (GK b)) rfl))) rfl
def xh:pl.pg.call (n+1) 8 [.fz (.tuple [a,b])]=some (.fz (.bool true),[.fz (.tuple [a,b])]):=
 af rfl rfl (ax (ah (gp rfl rfl) rfl)) rfl
def xi(a:100<=x)(b:x<=99999999):pl.pg.call (n+2) 9 [It x]=some (.fz (.bool true),[It x]):=
 af rfl rfl (ax (ah (gp (ae rfl rfl (DX (by omega) (by omega)) rfl) (aw rfl rfl rfl rfl (show some (decide (x>99))=some true by rw[Dac (by omega)]))) rfl)) rfl
structure Pok (N:Nat)(q:Int×List Int):Prop where
 lo:0<=q.1
 hi:q.1<=N
 ne:q.2≠[]
 nd:q.2.Nodup
 ln:q.2.length<=100
 nb:∀x∈q.2,100<=x/\x<=99999999
def Pok.pos(h:Pok N q):1<=q.2.length:=List.length_pos_iff.mpr h.ne
theorem xj{n N:Nat}(h:Pok N q):pl.pg.call (n+3) 10 [.fz (Po q),It N]=some (.fz (.bool true),[.fz (Po q),It N]):=by
 have f:aY (Kt (n+2)) ecv [some (.fz (Po q)),Kg N,none,none]=some (false,[some (.fz (Po q)),Kg N,none,none]):=aP (k:=true) (aL (ae rfl rfl (xh (n:=n+1)) rfl));obtain⟨a,c⟩:∃a:DEnv,a=[some (.fz (Po q)),Kg N,Kg q.1,some (Tn q)]:=⟨_,rfl⟩
 have g:aY (Kt (n+2)) ear a=some (false,a):=by rw[c];exact aV (aP (k:=true) (aL (ae rfl rfl (DX h.lo (by have:=h.hi;omega)) rfl))) rfl
 have t:=h.ln;have u:=h.pos;have e:ev (Kt (n+2)) ec9 a=some (.val (It q.2.length),a):=by rw[c];exact e_blt rfl rfl blenT
 have s:=(fQ (C:=Kt (n+2)) (nt:=1) (fr:=[]) (it:=.seq (.nm 3)) (tg:=.nm 0) (elt:=.call 9 eea) (ρ:=a) (λρ=>∃o,ρ=[o]) (by rw[c];exact aR rfl rfl rfl) (by rw[aaa];omega) rfl ⟨none,rfl⟩ (λd p ρ b=>by
  obtain⟨o,rfl⟩:=b;obtain⟨x,r,rfl⟩:=aat.mp p;obtain⟨m,i⟩:=h.nb x r;exact⟨[Kg x],fA rfl (ae rfl rfl (xi m i) rfl) rfl,_,rfl⟩) (λl b=>by obtain⟨o,rfl⟩:=b;rfl)).1
 have j:aY (Kt (n+2)) ebd a=some (false,a):=aP (t_cmp2 (fP rfl e rfl rfl (jD (by omega)) rfl rfl rfl (jD (by omega))));refine af rfl rfl (ab (az f rfl) (ab (gB rfl rfl (by rw[c];rfl)) (ab (az g rfl) (ab (az (aV j (aP s)) rfl) (ax (ah (aw (qT (by rw[c];rfl) rfl (by omega) h.nd) e rfl rfl (IY rfl)) rfl)))))) ?_;rw[c];rfl
def I8:cutD ds (some 1) none=ds.drop 1:=by
 unfold cutD;cases ds with
 |nil=>rfl
 |cons d ds=>
  have a:HT.sIx (d::ds).length 0 (some 1)=1:=by simp[HT.sIx]
  have b:HT.sIx (d::ds).length (d::ds).length none=(d::ds).length:=rfl;rw[a,b];exact List.take_of_length_le (by simp)
theorem xk{qs:Pz}(h:qs.Pairwise λx y=>x.1<y.1)(g:d∈cB (qs.map Po) ((qs.map Po).drop 1)):∃a b:Int×List Int,d=.tuple [Po a,Po b]/\a.1<b.1:=by obtain⟨k,o⟩:=aaM.mp g;obtain⟨x,y,e,c,rfl⟩:=iw o;rw[abT,aas]at c;rw[aas]at e;obtain⟨a,j,rfl⟩:=aaF.mp e;obtain⟨b,n,rfl⟩:=aaF.mp c;refine⟨a,b,rfl,?_⟩;obtain⟨m,l⟩:=aai.mp j;obtain⟨i,f⟩:=aai.mp n;have:=abV.mp h k (1+k) m i (by omega);rw[l,f]at this;exact this
theorem tf(h:∀q∈qs,Pok N q)(l:qs.Pairwise λx y=>x.1<y.1)(m:qs.length<=300):pl.pg.call (n+4) 11 [Pq qs,It N]=some (.fz (.bool true),[Pq qs,It N]):=by
 have k:=(fQ (C:=Kt (n+3)) (nt:=1) (fr:=[1]) (it:=.seq (.nm 0)) (tg:=.nm 0) (elt:=.call 10 ec0) (ρ:=[Kn qs,Kg N]) (λρ=>∃o,ρ=[o,Kg N]) (aR rfl rfl rfl) (by rw[aaa];omega) rfl ⟨none,rfl⟩ (λd f ρ c=>by
  obtain⟨o,rfl⟩:=c;obtain⟨q,i,rfl⟩:=aat.mp f;exact⟨[some (.fz (Po q)),Kg N],fA rfl (ae rfl rfl (xj (h q i)) rfl) rfl,_,rfl⟩) (λe c=>by obtain⟨o,rfl⟩:=c;rfl)).1
 have j:=(fQ (C:=Kt (n+3)) (nt:=2) (fr:=[]) (it:=.zip (.nm 0) ecw) (tg:=.tp [0,1]) (elt:=.cmp .lt edw edy) (ρ:=[Kn qs,Kg N]) (λρ=>∃o p,ρ=[o,p]) (dS (y:=.val (.lst (((qs.map Po).drop 1).map OD.fz))) (dy:=.list ((qs.map Po).drop 1)) (ρ2:=[Kn qs,Kg N]) (ρ3:=[Kn qs,Kg N]) rfl (by
   rw[<-I8];rfl) rfl (by show (frz1 _ (.val _))=_;simp only[frz1,bV];rfl) rfl rfl) (by unfold cB;rw[abF,aaa];omega) rfl ⟨none,none,rfl⟩ (λd f ρ c=>by
  obtain⟨o,p,rfl⟩:=c;obtain⟨a,b,rfl,g⟩:=xk l f;exact⟨[some (.fz (Po a)),some (.fz (Po b))],fA (ρ1:=[some (.fz (Po a)),some (.fz (Po b))]) rfl (aw (dx:=.int a.1) (dy:=.int b.1) (aE rfl rfl rfl (item_t atI_zero)) (aE rfl rfl rfl (item_t atI_zero)) rfl rfl (GK g)) rfl,_,_,rfl⟩) (λe c=>by obtain⟨o,p,rfl⟩:=c;rfl)).2
 exact af (fn:=iZ) (ρ:=[Kn qs,Kg N]) rfl rfl (ab (az (aV rfl (aP k)) rfl) (ax (ah j rfl))) rfl
theorem tj:pl.pg.call (n+1) 12 [.fz (.tuple [.int r0,.int r1]),It p,It b]=some (.fz (.bool (decide (b-p<=r1/\p-b<=r0))),[.fz (.tuple [.int r0,.int r1]),It p,It b]):=by
 have c:=gB (C:=Kt n) (t:=.tp [3,4]) (e:=.nm 0) (ρ:=[some (.fz (.tuple [.int r0,.int r1])),Kg p,Kg b,none,none]) rfl rfl rfl;by_cases a:p-b<=r0
 ·refine af rfl rfl (ab c (ax (ah (gp (aw rfl rfl rfl rfl (jD a)) (aw rfl rfl rfl rfl ?_)) rfl))) rfl;show some (decide (b-p<=r1))=_;simp only[a,and_true]
 ·rw[Dab λz=>a z.2];exact af rfl rfl (ab c (ax (ah (kZ (aw rfl rfl rfl rfl (show some (decide (p-b<=r0))=some false by rw[Dab a]))) rfl))) rfl
abbrev fin(f:Cf)(qs:Pz):Mc:=inner f qs f.rows.length (mac f qs f.rows.length)
def Sv(f:Cf)(qs:Pz)(r0 r1:Int)(z:Int×Int):Prop:=∃(i j:Nat) (p b:Int) (q:Int×List Int),z=((i:Int),(j:Int))/\(fin f qs).ps[i]?=some p/\(fin f qs).bs[j]?=some b/\qs[j]?=some q/\nu f i∈q.2/\b-p<=r1/\p-b<=r0/\∃x y,f.rows[i]?=some (.st x y)
structure Pf (f:Cf)(qs:Pz)(us:List Int)(r0 r1:Int):Prop where
 ok:∀q∈qs,Pok f.rows.length q
 inc:qs.Pairwise λx y=>x.1<y.1
 ql:qs.length<=300
 ul:us.length=(gIx 0 f.rows).length
 sv:∀z∈(gIx 0 f.rows).zip us,Sv f qs r0 r1 z
 uq:∀u∈us,0<=u/\u<qs.length
abbrev Ra(r0 r1:Int):OD:=.fz (.tuple [.int r0,.int r1])
abbrev Kr(r0 r1:Int):Option OD:=some (Ra r0 r1)
abbrev Fp(qs:Pz)(us:List Int):OD:=.fz (.tuple [.list (qs.map Po),.list (us.map PyData.int)])
abbrev Ks(qs:Pz)(us:List Int):Option OD:=some (Fp qs us)
abbrev Zp(z:Int×Int):PyData:=.tuple [.int z.1,.int z.2]
theorem fR:∀{gs us:List Int},cB (gs.map PyData.int) (us.map PyData.int)=(gs.zip us).map Zp
 |[],us=>by unfold cB;simp
 |g::gs,[]=>by unfold cB;simp
 |g::gs,u::us=>congrArg (Zp (g,u)::·) (fR (gs:=gs) )
abbrev sE(f:Cf)(qs:Pz)(us:List Int)(r0 r1:Int)(o8 o9:Option OD):DEnv:=[Kk f.rows,Kl f,Kr r0 r1,Kn qs,Ko us,Ko (fin f qs).ps,Ko (fin f qs).bs,Kg (fin f qs).pl,o8,o9]
abbrev sB:Ss:=match F_all_served.body with|.cons _ (.cons (.fr _ _ b) _)=>b|_=>.nil
def lA{l:List Int}{i:Nat}(h:l[i]?=some p):atI (l.map PyData.int) (i:Int)=some (.int p):=bp (by rw[aas,h];rfl)
def Sw(f:Cf)(qs:Pz)(z:Int×Int):Prop:=∃(i j:Nat) (p b:Int) (q:Int×List Int),z=((i:Int),(j:Int))/\(fin f qs).ps[i]?=some p/\(fin f qs).bs[j]?=some b/\qs[j]?=some q/\nu f i∈q.2/\∃x y,f.rows[i]?=some (.st x y)
def Rr(f:Cf)(qs:Pz)(r0 r1:Int)(z:Int×Int):Prop:=((fin f qs).bs[z.2.toNat]?).getD 0-((fin f qs).ps[z.1.toNat]?).getD 0<=r1/\((fin f qs).ps[z.1.toNat]?).getD 0-((fin f qs).bs[z.2.toNat]?).getD 0<=r0
instance {f:Cf}{qs:Pz}{r0 r1:Int}{z:Int×Int}:Decidable (Rr f qs r0 r1 z):=by unfold Rr;infer_instance
def Rr.iff{i j:Nat}(a:(fin f qs).ps[i]?=some p)(c:(fin f qs).bs[j]?=some b):Rr f qs r0 r1 ((i:Int),(j:Int)) ↔ b-p<=r1/\p-b<=r0:=by unfold Rr;simp only[aaP,a,c,Option.getD_some]
def Sv.two(h:Sv f qs r0 r1 z):Sw f qs z/\Rr f qs r0 r1 z:=by obtain⟨i,j,p,b,q,rfl,c,a,l,k,e,g,d⟩:=h;exact⟨⟨i,j,p,b,q,rfl,c,a,l,k,d⟩,(Rr.iff c a).mpr ⟨e,g⟩⟩
def Sv.of{z:Int×Int}(h:Sw f qs z)(h':Rr f qs r0 r1 z):Sv f qs r0 r1 z:=by obtain⟨i,j,p,b,q,rfl,c,a,l,k,d⟩:=h;obtain⟨e,g⟩:=(Rr.iff c a).mp h';exact⟨i,j,p,b,q,rfl,c,a,l,k,e,g,d⟩
theorem oV(h:Sw f qs z):aN (Kt (n+1)) sB (sE f qs us r0 r1 (Kg z.1) (Kg z.2))=some (if Rr f qs r0 r1 z then .nx else .rt (.fz (.bool false)),sE f qs us r0 r1 (Kg z.1) (Kg z.2)):=by
 obtain⟨i,j,p,b,q,rfl,g,e,s,o,x,y,l⟩:=h;have r:atI (qs.map Po) (j:Int)=some (Po q):=bp (by rw[aas,s];rfl);rw[qI l]at o;obtain⟨a,k⟩:∃a,a=sE f qs us r0 r1 (Kg i) (Kg j):=⟨_,rfl⟩
 have m:aY (Kt (n+1)) ea6 a=some (false,a):=by rw[k];exact aG (aw (aE (aE rfl rfl rfl (bu (fO l))) rfl rfl (item_t (bp rfl))) (aE (aE rfl rfl rfl (bu r)) rfl rfl (item_t (bp rfl))) rfl rfl (by rw[IZ,Dac o];rfl))
 have d:aY (Kt (n+1)) eaw a=some (!decide (b-p<=r1/\p-b<=r0),a):=by rw[k];exact aP (aL (ae (aa rfl (aa (aE rfl rfl rfl (bu (lA g))) (aa (aE rfl rfl rfl (bu (lA e))) ag))) rfl (tj ) rfl))
 show aN _ _ (sE f qs us r0 r1 (Kg i) (Kg j))=_;rw[<-k];by_cases c:b-p<=r1/\p-b<=r0
 ·rw[Dac c]at d;rw[if_pos ((Rr.iff g e).mpr c)];exact ab (az (aV m d) rfl) rfl
 ·rw[Dab c]at d;rw[if_neg (λz=>c ((Rr.iff g e).mp z))];exact ax (aW (aV m d) (ax rfl))
theorem serve_walk:∀{zs:List (Int×Int)}{o8 g:Option OD},(∀z∈zs,Sw f qs z)->∃l j,bD (λd k=>(be (.tp [8,9]) (.fz d) k).bind λρ1=>aN (Kt (n+1)) sB ρ1) (zs.map Zp) (sE f qs us r0 r1 o8 g)=some (if ∀z∈zs,Rr f qs r0 r1 z then .nx else .rt (.fz (.bool false)),sE f qs us r0 r1 l j)
 |[],o8,g,_=>⟨o8,g,by rw[if_pos (λz m=>absurd m aao)];rfl⟩
 |z::zs,o8,g,h=>by
  have hs:=oV (n:=n) (us:=us) (r0:=r0) (r1:=r1) (h z aad);by_cases i:Rr f qs r0 r1 z
  ·rw[if_pos i]at hs;obtain⟨a,b,e⟩:=serve_walk λx c=>h x (aah _ c);refine⟨a,b,bs (bs rfl hs) (e.trans ?_)⟩;have:(∀x∈z::zs,Rr f qs r0 r1 x) ↔ ∀x∈zs,Rr f qs r0 r1 x:=⟨λq x c=>q x (aah _ c),λq x c=>(aab.mp c).elim (λe=>e▸i) (q x)⟩
   simp only[this]
  ·rw[if_neg i]at hs;refine⟨Kg z.1,Kg z.2,bs (bs rfl hs) ?_⟩;rw[if_neg (λq=>i (q z aad))]
def Pf.pos(h:Pf f qs us r0 r1):∀q∈qs,0<=q.1:=λq a=>(h.ok q a).lo
theorem kb(d:qs.Pairwise λx y=>x.1<y.1)(pos:∀q∈qs,0<=q.1)(l:qs.length<=300)(k:∀z∈(gIx 0 f.rows).zip us,Sw f qs z)(o:f.rows.length<=200):pl.pg.call (n+5) 13 [Rl f.rows,Lo f,Ra r0 r1,Pq qs,Dl us]=some (.fz (.bool (decide (∀z∈(gIx 0 f.rows).zip us,Rr f qs r0 r1 z))),[Rl f.rows,Lo f,Ra r0 r1,Pq qs,Dl us]):=by
 have h:=zY (n:=n) d pos l o;obtain⟨a,b,e⟩:=serve_walk k;have g:=dY (n:=n+2) (rs:=f.rows) (by omega);have m:(Kt (n+4)).call=pl.pg.call (n+4):=rfl;rw[<-m]at h g;have i:jQ (Kt (n+4)) ecl (sE f qs us r0 r1 none none)=some (((gIx 0 f.rows).zip us).map Zp,sE f qs us r0 r1 none none):=by rw[<-fR];exact dS (ae rfl rfl g rfl) rfl (by simp only[frz1,aA];rfl) rfl rfl rfl
 have j:=gB (t:=.tp [5,6,7]) (e:=.call 7 eb2) (ae (ρ:=[Kk f.rows,Kl f,Kr r0 r1,Kn qs,Ko us,none,none,none,none,none]) rfl rfl h rfl) rfl rfl;by_cases c:∀z∈(gIx 0 f.rows).zip us,Rr f qs r0 r1 z
 ·rw[if_pos c]at e;rw[Dac c];exact af rfl rfl (ab j (ab (cx i e) (ax rfl))) rfl
 ·rw[if_neg c]at e;rw[Dab c];exact af rfl rfl (ab j (ax (cx i e))) rfl
def xl(h:Pf f qs us r0 r1)(b:f.rows.length<=200):pl.pg.call (n+5) 13 [Rl f.rows,Lo f,Ra r0 r1,Pq qs,Dl us]=some (.fz (.bool true),[Rl f.rows,Lo f,Ra r0 r1,Pq qs,Dl us]):=by rw[kb h.inc h.pos h.ql (λz a=>(h.sv z a).two.1) b,Dac λz a=>(h.sv z a).two.2]
abbrev xm(f:Cf)(qs:Pz)(us:List Int)(r0 r1:Int):DEnv:=[Kk f.rows,Kl f,Kr r0 r1,Ks qs us,Kn qs,Ko us]
theorem xn(h:Pf f qs us r0 r1)(w:f.rows.length<=200):pl.pg.call (n+6) 14 [Rl f.rows,Lo f,Ra r0 r1,Fp qs us]=some (.fz (.bool true),[Rl f.rows,Lo f,Ra r0 r1,Fp qs us]):=by
 have b:=xl (n:=n) h w;have c:=tf (n:=n+1) h.ok h.inc h.ql;have i:=dY (n:=n+3) (rs:=f.rows) (by omega);have g:=h.ul;have r:(gIx 0 f.rows).length<=f.rows.length:=by rw[gIx_len];exact abn _ _
 have v:(Kt (n+5)).call=pl.pg.call (n+5):=rfl;rw[<-v]at b i c;have s:aY (Kt (n+5)) ecx [Kk f.rows,Kl f,Kr r0 r1,Ks qs us,none,none]=some (false,[Kk f.rows,Kl f,Kr r0 r1,Ks qs us,none,none]):=aP (k:=true) (aL (ae rfl rfl (xh (n:=n+4)) rfl));have e:aY (Kt (n+5)) ea8 (xm f qs us r0 r1)=some (false,xm f qs us r0 r1):=aP (aL (ae (aa rfl (aa (e_blt rfl rfl blen) ag)) rfl c rfl));have p:aY (Kt (n+5)) eav (xm f qs us r0 r1)=some (false,xm f qs us r0 r1):=by refine aG (aw (e_blt rfl rfl blen) (e_blt (ds:=[.list ((gIx 0 f.rows).map PyData.int)]) (aa (ae rfl rfl i rfl) ag) ?_ blen) rfl rfl (DW (by omega)));simp only[fX,ar,abC,aA];rfl
 have t:=(fQ (C:=Kt (n+5)) (nt:=1) (fr:=[4]) (it:=.seq (.nm 5)) (tg:=.nm 0) (elt:=.call 0 ebo) (ρ:=xm f qs us r0 r1) (ρ1:=xm f qs us r0 r1) (ρ2:=xm f qs us r0 r1) (ds:=us.map PyData.int) (zc:=([Kn qs],xm f qs us r0 r1)) (λρ=>∃o,ρ=[o,Kn qs]) (aR rfl rfl rfl) (by rw[aaa];omega) rfl ⟨none,rfl⟩ (λd q ρ a=>by
  obtain⟨o,rfl⟩:=a;obtain⟨u,g,rfl⟩:=aat.mp q;obtain⟨m,j⟩:=h.uq u g;exact⟨[Kg u,Kn qs],fA (ρ1:=[Kg u,Kn qs]) rfl (ae (ρ3:=[Kg u,Kn qs]) (aa rfl (aa (e_blt (rs:=[.val (Pq qs)]) rfl rfl blen) ag)) rfl (DX (n:=n+4) m j) rfl) rfl,_,rfl⟩) (λl a=>by obtain⟨o,rfl⟩:=a;rfl)).1
 exact af (fn:=jY) (ρ:=xm f qs us r0 r1) rfl rfl (ab (az s rfl) (ab (gB (ρ3:=xm f qs us r0 r1) rfl rfl rfl) (ab (az (aV e rfl) rfl) (ab (az (aV p (aP (k:=true) t)) rfl) (ax (ah (ae (ρ3:=xm f qs us r0 r1) rfl rfl b rfl) rfl)))))) rfl
def xo(c:a<=x)(d:x<=b):pl.pg.call (n+1) 40 [It x,It a,It b]=some (.fz (.bool true),[It x,It a,It b]):=
 af rfl rfl (ax (ah (gp rfl (gp rfl (fP rfl rfl rfl rfl (jD c) rfl rfl rfl (jD d)))) rfl)) rfl
def spo(ps:List Int)(a:Int):Int:=(ps[a.toNat]?).getD 0
def xp{i:Nat}(h:ps[i]?=some p):spo ps i=p:=by unfold spo;rw[aaP,h];rfl
theorem lC:∀{rs:List R}{i:Nat}{out:List PyData}{o0 o1:Option OD},i+rs.length<=ps.length->∃f d,aM (aS (Kt (n+1)) (.tp [0,1]) (.some G7) IT) (enF i rs) out [o0,o1,Ko ps]=some (out++((gIx i rs).map (spo ps)).map PyData.int,[f,d,Ko ps])
 |[],i,out,o0,o1,_=>⟨o0,o1,by rw[gIx,aaD,aaD,aaq];rfl⟩
 |r::rs,i,out,o0,o1,hl=>by
  rw[aau]at hl;have c:aY (Kt (n+1)) G7 [Kg i,Kj r,Ko ps]=some (r.gr,[Kg i,Kj r,Ko ps]):=aL (ae rfl rfl (mX r) rfl);rw[gIx];cases h:r.gr with
  |false=>rw[h]at c;obtain⟨a,b,e⟩:=lC (ps:=ps) (rs:=rs) (i:=i+1) (by omega);refine⟨a,b,bs (sP rfl c) ?_⟩;rw[if_neg aak];refine e.trans ?_;rw[aaq];rfl
  |true=>rw[h]at c;have g:=aan (l:=ps) (i:=i) (by omega);obtain⟨a,b,e⟩:=lC (ps:=ps) (rs:=rs) (i:=i+1) (by omega);refine⟨a,b,bs (x:=([.int (spo ps i)],[Kg i,Kj r,Ko ps])) (sO rfl c (aE rfl rfl rfl (bu (by rw[xp g];exact lA g))) rfl) ?_⟩;rw[if_pos rfl];refine e.trans ?_;rw[aac];rfl
def xq:(fin f qs).ps.length=f.rows.length:=by rw[fin,cz];exact b8
abbrev rE(f:Cf)(qs:Pz)(us:List Int)(r0 r1:Int)(o7:Option OD):DEnv:=[Kk f.rows,Kl f,Kr r0 r1,Ks qs us,Ko (fin f qs).ps,Ko (fin f qs).bs,Kg (fin f qs).pl,o7]
theorem oW(h:Pf f qs us r0 r1)(I:f.rows.length<=200):pl.pg.call (n+4) 38 [Rl f.rows,Lo f,Ra r0 r1,Fp qs us]=some (.fz (.bool true),[Rl f.rows,Lo f,Ra r0 r1,Fp qs us]):=by
 have l:=w8 (n:=n) h.pos h.ql I;have L:=h.ul;have D:(gIx 0 f.rows).length<=f.rows.length:=by rw[gIx_len];exact abn _ _
 have H:(Kt (n+3)).call=pl.pg.call (n+3):=rfl;rw[<-H]at l;obtain⟨a,b,t⟩:=lC (ps:=(fin f qs).ps) (rs:=f.rows) (i:=0) (by rw[xq];omega);have y:enF ((0:Nat):Int) f.rows=bX (f.rows.map R.d):=(qO f.rows).symm;rw[aaX,y]at t;obtain⟨c,g⟩:∃c,c=(gIx 0 f.rows).map (spo (fin f qs).ps):=⟨_,rfl⟩
 have s:aM (aS (Kt (n+3)) (.tp [0,1]) (.some G7) IT) (bX (f.rows.map R.d)) [] [none,none,Ko (fin f qs).ps]=some (c.map PyData.int,[a,b,Ko (fin f qs).ps]):=by rw[g];exact t
 have x:cJ (Kt (n+3)) eaq (rE f qs us r0 r1 none)=some (.nx,rE f qs us r0 r1 (some (Il c))):=ak (bG (k6 rfl rfl) (by rw[cN,aaa];omega) rfl s rfl) (by rw[fN];rfl) rfl rfl;have F:=(fQ (C:=Kt (n+3)) (nt:=2) (fr:=[2,5]) (it:=.zip (.nm 7) ed1) (tg:=.tp [0,1]) (elt:=.cmp2 .le .le ecq ecs ed2) (ρ:=rE f qs us r0 r1 (some (Il c))) (ds:=(c.zip us).map Zp) (λρ=>∃o p,ρ=[o,p,Kr r0 r1,Ko (fin f qs).bs]) (by
   rw[<-fR];exact dS (ρ2:=rE f qs us r0 r1 (some (Il c))) (ρ3:=rE f qs us r0 r1 (Ko c)) rfl (aE rfl rfl rfl (item_t (bp (k:=1) rfl))) (bo rfl (aA _) rfl) rfl rfl rfl) (by rw[aaa,aa3];omega) rfl ⟨none,none,rfl⟩ (λd B ρ e=>by
  obtain⟨o,p,rfl⟩:=e;obtain⟨z,u,rfl⟩:=aat.mp B;rw[g,List.zip_map_left]at u;obtain⟨w,A,rfl⟩:=aat.mp u;obtain⟨i,j,p,b,q,rfl,r,v,N,O,J,M,_⟩:=h.sv w A;have r:=xp r;show ∃m,aS _ _ _ _ (.tuple [.int (spo (fin f qs).ps i),.int j]) _=_/\_;rw[r];exact⟨[Kg p,Kg j,Kr r0 r1,Ko (fin f qs).bs],fA (ρ1:=[Kg p,Kg j,Kr r0 r1,Ko (fin f qs).bs]) rfl (fP (dx:=.int (0-r1)) (dy:=.int (p-b)) (dz:=.int r0) (ai rfl (aE rfl rfl rfl (item_t (bp (k:=1) rfl))) rfl rfl rfl) (ai rfl (aE rfl rfl rfl (bu (lA v))) rfl rfl rfl) rfl rfl (jD (by omega)) (aE rfl rfl rfl (item_t atI_zero)) rfl rfl (jD (by omega))) rfl,_,_,rfl⟩) (λm e=>by obtain⟨o,p,rfl⟩:=e;rfl)).2
 exact af (fn:=gM) (ρ:=rE f qs us r0 r1 (Ko c)) rfl rfl (ab (gB (ρ3:=rE f qs us r0 r1 none) (ae (ρ3:=[Kk f.rows,Kl f,Kr r0 r1,Ks qs us,none,none,none,none]) (aa rfl (aa rfl (aa (aE rfl rfl rfl (item_t atI_zero)) ag))) rfl l rfl) rfl rfl) (ab x (ax (ah F rfl)))) rfl
theorem xr:∀{rs:List R}{i:Int}{t:Nat}{r:R},(rs.filter R.gr)[t]?=some r->∃k:Nat,(gIx i rs)[t]?=some (i+k)/\rs[k]?=some r
 |[],i,t,r,h=>by simp at h
 |x::rs,i,t,r,h=>by
  have b:∀{t:Nat},(rs.filter R.gr)[t]?=some r->∃k:Nat,(gIx (i+1) rs)[t]?=some (i+k)/\(x::rs)[k]?=some r:=λ{t} h=>by obtain⟨k,d,c⟩:=xr h;exact⟨k+1,by rw[d];congr 1;omega,c⟩
  rw[gIx];by_cases a:x.gr=true
  ·rw[if_pos a];rw[ab3 a]at h;cases t with
   |zero=>exact⟨0,by simp,h⟩
   |succ t=>exact b h
  ·rw[if_neg a];rw[abK a]at h;exact b h
abbrev lE(f:Cf)(qs:Pz)(us:List Int)(r0 r1:Int)(o4 o5 o6:Option OD):DEnv:=[Kk f.rows,Kl f,Kr r0 r1,Ks qs us,o4,o5,o6]
abbrev lB:Ss:=match F_l_is_plan.body with|.cons _ (.cons _ (.cons (.fr _ _ b) _))=>b|_=>.nil
theorem zZ(h:Pok f.rows.length q)(B:la<q.1):aN (Kt (n+1)) lB (lE f qs us r0 r1 (Kg la) (some (.fz (Po q))) none)=some (.nx,lE f qs us r0 r1 (Kg q.1) (some (.fz (Po q))) none):=by
 have C:=h.pos;have s:=h.ln;have j:∀{b:DEnv},b[5]?.join=some (.fz (Po q))->ev (Kt (n+1)) ed3 b=some (.val (It q.1),b):=λ{b} z=>aE (by show (match b[5]?.join with|some (.fz d)=>some (OR.val (.fz d),b)|some _=>some (OR.rf 5,b)|none=>none)=_;rw[z]) rfl rfl (item_t atI_zero);have g:∀{b:DEnv},b[5]?.join=some (.fz (Po q))->ev (Kt (n+1)) ed4 b=some (.val (Tn q),b):=λ{b} z=>aE (by show (match b[5]?.join with|some (.fz d)=>some (OR.val (.fz d),b)|some _=>some (OR.rf 5,b)|none=>none)=_;rw[z]) rfl rfl (item_t (bp rfl));have u:aY (Kt (n+1)) eab (lE f qs us r0 r1 (Kg la) (some (.fz (Po q))) none)=some (false,lE f qs us r0 r1 (Kg la) (some (.fz (Po q))) none):=aV rfl (aV rfl (aP (k:=true) (aL (ae (aa (j rfl) (aa rfl (aa (e_blt rfl rfl blen) ag))) rfl (xo (by omega) h.hi) rfl))));obtain⟨a,i⟩:∃a,a=lE f qs us r0 r1 (Kg q.1) (some (.fz (Po q))) none:=⟨_,rfl⟩
 have e:a[5]?.join=some (.fz (Po q)):=by rw[i];rfl
 have l:ev (Kt (n+1)) ecj a=some (.val (It q.2.length),a):=e_blt (aa (g e) ag) rfl blenT;have A:aY (Kt (n+1)) eai a=some (false,a):=aV (aP (k:=true) (bs (bs (g e) rfl) rfl)) (aP (t_cmp2 (fP rfl l rfl rfl (jD (by omega)) rfl rfl rfl (jD (by omega)))));have v:=(fQ (nt:=1) (fr:=[]) (tg:=.nm 0) (elt:=.call 40 ebm) (λb=>∃o,b=[o]) (aR (g e) rfl rfl) (by rw[aaa];omega) rfl ⟨none,rfl⟩ (λd w b c=>by
  obtain⟨o,rfl⟩:=c;obtain⟨x,y,rfl⟩:=aat.mp w;obtain⟨r,m⟩:=h.nb x y;exact⟨[Kg x],fA rfl (ae rfl rfl (xo r m) rfl) rfl,_,rfl⟩) (λp c=>by obtain⟨o,rfl⟩:=c;rfl)).1
 have t:aY (Kt (n+1)) ea3 a=some (false,a):=aG (aw (qT (g e) rfl (by omega) h.nd) l rfl rfl (DW rfl));refine ab (az u rfl) (ab (ak (j rfl) rfl rfl i.symm) ?_);rw[<-i];exact ab (az A rfl) (ab (az (aP v) rfl) (ab (az t rfl) rfl))
theorem qV:∀{ps:Pz}{la:Int}{o5:Option OD},(∀q∈ps,Pok f.rows.length q)->ps.Pairwise (λx y=>x.1<y.1)->(∀q∈ps,la<q.1)->∃i g,bD (λd c=>(be (.nm 5) (.fz d) c).bind λρ1=>aN (Kt (n+1)) lB ρ1) (ps.map Po) (lE f qs us r0 r1 (Kg la) o5 none)=some (.nx,lE f qs us r0 r1 i g none)
 |[],la,o5,_,_,_=>⟨_,_,rfl⟩
 |q::ps,la,o5,h,hp,hl=>by obtain⟨j,k⟩:=abc.mp hp;obtain⟨a,b,e⟩:=qV (λx l=>h x (aah _ l)) k j;exact⟨a,b,bs (bs rfl (zZ (h q aad) (hl q aad))) e⟩
theorem tm(h:Pf f qs us r0 r1)(hN:f.rows.length<=200):pl.pg.call (n+5) 39 [Rl f.rows,Lo f,Ra r0 r1,Fp qs us]=some (.fz (.bool true),[Rl f.rows,Lo f,Ra r0 r1,Fp qs us]):=by
 have v:=oW (n:=n) h hN;have O:=h.ul;have F:(gIx 0 f.rows).length=(f.rows.filter R.gr).length:=gIx_len;have A:(f.rows.filter R.gr).length<=f.rows.length:=abn _ _;have eC:(Kt (n+4)).call=pl.pg.call (n+4):=rfl;rw[<-eC]at v;obtain⟨a,b,ew⟩:=qV (la:=-1) h.ok h.inc (λq D=>by have:=h.pos q D;omega);obtain⟨o',B⟩:=comp_gr;rw[aaX]at B;obtain⟨c,s⟩:∃c,c=f.rows.filter R.gr:=⟨_,rfl⟩
 rw[<-s]at B F A;have t1:aY (Kt (n+4)) eaf (lE f qs us r0 r1 none none none)=some (false,lE f qs us r0 r1 none none none):=aV rfl (aV rfl (aP (fQ (ds:=[.list (qs.map Po),.list (us.map PyData.int)]) (λρ=>∃o,ρ=[o]) (aR rfl rfl rfl) (show 2<1000000 by decide) rfl ⟨none,rfl⟩ (λd l ρ e=>by
  obtain⟨o,rfl⟩:=e;have:∃ds,d=.list ds:=by
   rcases aab.mp l with rfl|l
   ·exact⟨_,rfl⟩
   ·rw[aap.mp l];exact⟨_,rfl⟩
  obtain⟨ds,rfl⟩:=this;exact⟨[some (.fz (.list ds))],fA rfl rfl rfl,_,rfl⟩) (λm e=>by obtain⟨o,rfl⟩:=e;rfl)).1))
 have X:∀{ρ:DEnv},ρ[3]?.join=Ks qs us->ev (Kt (n+4)) edz ρ=some (.val (Pq qs),ρ):=λ{ρ} z=>aE (by show (match ρ[3]?.join with|some (.fz d)=>some (OR.val (.fz d),ρ)|some _=>some (OR.rf 3,ρ)|none=>none)=_;rw[z]) rfl rfl (item_t atI_zero);have J:∀{ρ:DEnv},ρ[3]?.join=Ks qs us->ev (Kt (n+4)) ed1 ρ=some (.val (Dl us),ρ):=λ{ρ} z=>aE (by show (match ρ[3]?.join with|some (.fz d)=>some (OR.val (.fz d),ρ)|some _=>some (OR.rf 3,ρ)|none=>none)=_;rw[z]) rfl rfl (item_t (bp rfl));have s6:cJ (Kt (n+4)) ea0 (lE f qs us r0 r1 a b none)=some (.nx,lE f qs us r0 r1 a b (Ki c)):=ak (bG (aR rfl rfl rfl) (by rw[aaa];omega) rfl B bO) (by rw[jb];rfl) rfl rfl;have P:(Rs c).dat=some (.list (c.map R.d)):=by rw[Rs,<-jb,bV]
 have t5:aY (Kt (n+4)) ea2 (lE f qs us r0 r1 a b (Ki c))=some (false,lE f qs us r0 r1 a b (Ki c)):=by refine aG (aw (e_blt (aa (J rfl) ag) rfl blen) (e_blt (ds:=[.list (c.map R.d)]) rfl ?_ blen) rfl rfl (DW (by omega)));show fX (lE f qs us r0 r1 a b (Ki c)) [.rf 6]=_;have:ar (lE f qs us r0 r1 a b (Ki c)) (.rf 6)=some (.list (c.map R.d)):=bs rfl P;simp only[fX,this];rfl
 have Y:=(fQ (nt:=1) (fr:=[3]) (it:=.seq ed1) (tg:=.nm 0) (elt:=.call 40 eao) (ρ:=lE f qs us r0 r1 a b (Ki c)) (ρ1:=lE f qs us r0 r1 a b (Ki c)) (ρ2:=lE f qs us r0 r1 a b (Ki c)) (ds:=us.map PyData.int) (zc:=([Ks qs us],lE f qs us r0 r1 a b (Ki c))) (λρ=>∃o,ρ=[o,Ks qs us]) (aR (J rfl) rfl rfl) (by rw[aaa];omega) rfl ⟨none,rfl⟩ (λd l ρ e=>by
  obtain⟨o,rfl⟩:=e;obtain⟨u,O,rfl⟩:=aat.mp l;obtain⟨W,y2⟩:=h.uq u O;exact⟨[Kg u,Ks qs us],fA (ρ1:=[Kg u,Ks qs us]) rfl (ae (ρ3:=[Kg u,Ks qs us]) (aa rfl (aa rfl (aa (ai (dx:=.int qs.length) (dy:=.int 1) (e_blt (aa (aE rfl rfl rfl (item_t atI_zero)) ag) rfl blen) rfl rfl rfl rfl) ag))) rfl (xo (n:=n+3) (x:=u) (a:=0) (b:=(qs.length:Int)-1) W (by omega)) rfl) rfl,_,rfl⟩) (λm e=>by obtain⟨o,rfl⟩:=e;rfl)).1
 obtain⟨g,w⟩:∃g:DEnv,g=lE f qs us r0 r1 a b (Kk c):=⟨_,rfl⟩
 have t7:=(fQ (C:=Kt (n+4)) (nt:=2) (fr:=[3]) (it:=.zip (.nm 6) ed1) (tg:=.tp [0,1]) (elt:=.cmp .inn edx eca) (ρ:=lE f qs us r0 r1 a b (Ki c)) (ρ1:=g) (ρ2:=g) (ds:=cB (c.map R.d) (us.map PyData.int)) (zc:=([Ks qs us],g)) (λρ=>∃o p,ρ=[o,p,Ks qs us]) (by
   rw[w];exact dS (x:=.rf 6) (y:=.val (Dl us)) (dx:=.list (c.map R.d)) (dy:=.list (us.map PyData.int)) (ρ1:=lE f qs us r0 r1 a b (Ki c)) (ρ2:=lE f qs us r0 r1 a b (Ki c)) (ρ3:=lE f qs us r0 r1 a b (Kk c)) rfl (J rfl) (bo rfl P rfl) rfl rfl rfl) (by unfold cB;rw[abF,aaa];omega) (by rw[w];rfl) ⟨none,none,rfl⟩ (λd l ρ e=>by
  obtain⟨o,p,rfl⟩:=e;obtain⟨t,ht⟩:=aaM.mp l;obtain⟨x,y,U,H,rfl⟩:=iw ht;rw[aas]at U H;obtain⟨r,Q,rfl⟩:=aaF.mp U;obtain⟨u,L,rfl⟩:=aaF.mp H;rw[s]at Q;obtain⟨k,k1,S⟩:=xr (i:=0) Q;have hz:((0:Int)+k,u)∈(gIx 0 f.rows).zip us:=aaM.mpr ⟨t,by rw[abk];exact⟨k1,L⟩⟩;obtain⟨i,j,p',b',q,Z,H,e3,e4,T,e6,e7,N,I,M⟩:=h.sv _ hz;obtain⟨z1,rfl⟩:=Prod.mk.inj Z;obtain rfl:k=i:=by omega
  rw[M]at S;cases S;rw[qI M]at T;have D:atI (qs.map Po) (j:Int)=some (Po q):=bp (by rw[aas,e4];rfl);exact⟨[Kj (.st N I),Kg j,Ks qs us],fA (ρ1:=[Kj (.st N I),Kg j,Ks qs us]) rfl (aw (dx:=.int I) (dy:=.tuple (q.2.map PyData.int)) (aE rfl rfl rfl (item_t (bp (k:=2) rfl))) (aE (aE (aE rfl rfl rfl (item_t atI_zero)) rfl rfl (bu D)) rfl rfl (item_t (bp (k:=1) rfl))) rfl rfl (by rw[inT,Dac T])) rfl,_,_,rfl⟩) (λm e=>by obtain⟨o,p,rfl⟩:=e;rw[w];rfl)).1
 refine af (fn:=F_l_is_plan) (ρ:=g) rfl rfl (ab (az t1 rfl) (ab (ak (ρ3:=lE f qs us r0 r1 (Kg (-1)) none none) rfl rfl rfl rfl) (ab (cx (aR (X rfl) rfl rfl) ew) (ab s6 (ab (az (aV t5 (aP (k:=true) Y)) rfl) (ab (az (aP (k:=true) t7) rfl) (ax (ah (ρ1:=g) (x:=.val (.fz (.bool true))) ?_ rfl)))))))) (by rw[w];rfl);rw[w];exact ae (ρ3:=lE f qs us r0 r1 a b (Kk c)) rfl rfl v rfl
def AS(i:Nb f.rows)(h:x∈nm f):100<=x/\x<=99999999:=by
 obtain⟨r,g,rfl⟩:=aat.mp h;obtain⟨e,d⟩:=abe.mp g;refine⟨?_,i r e⟩;cases r with
 |st a k=>exact Daa d
 |ot a b c=>cases d
theorem jl:∀us:List (Int×Int),(us.map (·.1)).zip (us.map (·.2))=us
 |[]=>rfl
 |u::us=>congrArg (u::·) (jl us)
def Rq(f:Cf)(g:G):Prop:=∀(j:Nat) (w:List Int),g.words[j]?=some w->∀x∈w,∃u∈g.us,u.2=(j:Int)/\nu f u.1=x
theorem ni{f:Cf}:∀{wt:List (Int×Int)}{ns:List Int}{x:Int},x∈wt.foldl (λns q=>a8 ns (nu f q.1)) ns->x∈ns\/∃q∈wt,nu f q.1=x
 |[],ns,x,h=>.inl h
 |q::wt,ns,x,h=>by
  rcases ni (wt:=wt) h with h|⟨p,a,e⟩
  ·rcases m9 h with h|h
   ·exact .inl h
   ·exact .inr ⟨q,aad,h.symm⟩
  ·exact .inr ⟨p,aah _ a,e⟩
theorem get_snoc{b:Type}{l:List b}{a x:b}{j:Nat}(h:(l++[a])[j]?=some x):l[j]?=some x\/(j=l.length/\x=a):=by
 by_cases d:j<l.length
 ·rw[aaS d]at h;exact .inl h
 ·rw[abh (by omega)]at h;obtain⟨c,f⟩:=aai.mp h;rw[aaH]at c;have e:j-l.length=0:=by omega
  refine .inr ⟨by omega,?_⟩;rw[<-f];simp[e]
def Rq.more{f:Cf}{g g':G}{vs:List (Int×Int)}(V:Rq f g)(e:g'.words=g.words)(d:g'.us=g.us++vs):Rq f g':=λj w a x c=>by rw[e]at a;obtain⟨u,b,h⟩:=V j w a x c;exact⟨u,by rw[d];exact aaf _ b,h⟩
theorem Rq.p8{f:Cf}{g:G}{k:Nat}(I:Iv f g k k)(V:Rq f g):Rq f (laysG f g k):=by
 unfold laysG;split
 ·intro j w a x b;rcases get_snoc a with a|⟨rfl,rfl⟩
  ·obtain⟨u,c,i⟩:=V j w a x b;exact⟨u,aaf _ c,i⟩
  ·rcases ni b with h|⟨q,d,e⟩
   ·exact absurd h aao
   ·exact⟨(q.1,(g.gaps.length:Int)),aag _ (aat.mpr ⟨q,d,rfl⟩),by rw[I.wl],e⟩
 ·exact V
theorem Rq.come{f:Cf}{g g':G}{a:Int}(m:g.words.length=g.gaps.length)(V:Rq f g)(C:Come f g a g'):Rq f g':=by
 cases C with
 |put h p o n=>
  rename_i i w;intro j l c x b;have k:g.gaps.length=i.length+1:=by rw[<-m,h,aal];rfl
  rcases get_snoc c with c|⟨rfl,rfl⟩
  ·obtain⟨u,e,d⟩:=V j l (by rw[h,aaS (aai.mp c).1];exact c) x b;exact⟨u,aaf _ e,d⟩
  ·rcases aaj.mp b with b|b
   ·obtain⟨u,e,d⟩:=V i.length w (by rw[h];simp) x b;exact⟨u,aaf _ e,d⟩
   ·refine⟨(a,(g.gaps.length:Int)-1),aag _ aad,?_,(aap.mp b).symm⟩;show (g.gaps.length:Int)-1=_;omega
 |got h o n=>exact V.more rfl rfl
 |wait h=>exact V.more (vs:=[]) rfl (aaq _).symm
theorem z5(W:Gone f k g):Rq f g:=by
 induction W with
 |zero=>exact λj w h=>by simp at h
 |@step k g g2 h hk I C ih=>
  have V:=Rq.p8 I ih;have b:=(Iv.p8 I).wl;cases a:(f.rows[k]?).elim false R.gr with
  |true=>exact(Rq.come b V (C.gr a)).more rfl (aaq _).symm
  |false=>rw[C.no a];exact V.more rfl (aaq _).symm
def Rw(f:Cf)(qs:Pz)(us:List Int):Prop:=∀(j:Nat) (q:Int×List Int),qs[j]?=some q->∀x∈q.2,∃z∈(gIx 0 f.rows).zip us,z.2=(j:Int)/\nu f z.1=x
theorem Come.uniq(n:g.wt≠[]->g.words≠[]->f.r0<g.pl-g.bg)(t:Come f g a g1)(p:Come f g a g2):g1=g2:=by
 have d:∀{i l:List (List Int)}{w r:List Int},g.words=i++[w]->g.words=l++[r]->i=l/\w=r:=λe c=>by obtain⟨x,y⟩:=abw (e.symm.trans c) rfl;exact⟨x,ab7 y |>.1⟩
 have s:∀{i:List (List Int)}{w:List Int},g.words=i++[w]->nu f a∈w->g.pl-g.bg<=f.r0->(∀i w,g.words=i++[w]->g.wt=[]->(nu f a∈w/\f.r0<g.pl-g.bg)\/(nu f a ∉ w/\f.r0<g.pl+2-g.bg))->False:=λ{i w} e j o h=>by
  by_cases m:g.wt=[]
  ·rcases h i w e m with h|h
   ·omega
   ·exact h.1 j
  ·have:=n m (by rw[e];simp);omega
 cases t with
 |put e m j o=>
  cases p with
  |put c _ _ _=>obtain⟨rfl,rfl⟩:=d e c;rfl
  |got c b _=>exact absurd ((d e c).2▸b) j
  |wait h=>rcases h _ _ e m with h|h;exact absurd h.1 j;omega
 |got e j o=>
  cases p with
  |put c _ b _=>exact absurd ((d e c).2▸j) b
  |got c _ _=>rfl
  |wait h=>exact(s e j o h).elim
 |wait h=>
  cases p with
  |put c q b k=>rcases h _ _ c q with h|h;exact absurd h.1 b;omega
  |got c b k=>exact(s c b k h).elim
  |wait _=>rfl
theorem Gone.uniq:∀{k:Nat}{g g':G},Gone f k g->Gone f k g'->g=g'
 |0,_,_,.zero,.zero=>rfl
 |k+1,_,_,.step h hk I C,.step h' _ _ C'=>by
  obtain rfl:=Gone.uniq h h';refine congrArg (jC · (sz f k)) ?_;cases a:(f.rows[k]?).elim false R.gr with
  |true=>exact Come.uniq (Iv.p8 I).far (C.gr a) (C'.gr a)
  |false=>rw[C.no a,C'.no a]
theorem DY(J:f.rows.length<=200)(hc:(f.rows.filter R.gr).length<=60)(T:Nb f.rows)(X:0<=f.r0)(N:6<=f.r1):∃qs us,(∀n,pl.pg.call (n+6) 23 [Rl f.rows,Lo f,Re f]=some (Pn qs us,[Rl f.rows,Lo f,Re f]))/\Pf f qs us f.r0 f.r1/\Rw f qs us:=by
 obtain⟨g,_,g0,m,A,I,W⟩:=qP (n:=0) J;have e:∀n,pl.pg.call (n+6) 23 [Rl f.rows,Lo f,Re f]=some (Pn (g.gaps.zip g.words) (g.us.map (·.2)),[Rl f.rows,Lo f,Re f]):=λn=>by obtain⟨g',S,a0,o,_,_,P⟩:=qP J;rw[S,o,Gone.uniq P W,<-m]
 have V:=end_kv X N m A W;have D:=m8 (f:=f) (g:=g0);rw[<-m]at D;have h:g.us.map (·.1)=gIx 0 f.rows:=by have:=I.ix;rw[D,aaD,aaq,abu]at this;exact this
 have Y:g.us.length=(gIx 0 f.rows).length:=by rw[<-h,aaa]
 have a1:=gIx_len (rs:=f.rows) (i:=0);have C:=Rq.p8 A (z5 W);rw[<-m]at C;refine⟨_,_,e,⟨λq l=>?_,V.inc,?_,by rw[aaa];exact Y,λz a=>?_,λu w=>?_⟩,λj q l x s=>?_⟩
 ·obtain⟨d,d1,d2⟩:=V.lt q l;have c:=(aa6 l).2;obtain⟨w1,w2,w3⟩:=V.wd q.2 c;have:=I.wn q.2 c;exact⟨by omega,by omega,w1,w2,by omega,λx s=>AS T (w3 x s)⟩
 ·have:=I.gl;rw[aa3];omega
 ·rw[<-h,jl]at a;obtain⟨i,j,p,b,q,L,F,B,H,v,O,Z,M,_⟩:=V.use z a;have c:z.1∈gIx 0 f.rows:=by rw[<-h];exact aat.mpr ⟨z,a,rfl⟩
  obtain⟨k,r,k1,k2,k3⟩:=c8 c;obtain⟨x,y,rfl⟩:=gr_st k3;obtain rfl:k=i:=by omega
  exact⟨k,j,p,b,q,Prod.ext L F,B,H,v,O,Z,M,x,y,k2⟩
 ·obtain⟨z,a,rfl⟩:=aat.mp w;obtain⟨i,j,p,b,q,L,F,B,H,v,_⟩:=V.use z a;have:=(aai.mp v).1;show 0<=z.2/\z.2<_;omega
 ·obtain⟨h1,h2⟩:=aai.mp l;have t:g.words[j]?=some q.2:=by have:=congrArg Prod.snd h2;rw[List.getElem_zip]at this;rw[aa3]at h1;exact aai.mpr ⟨by omega,this⟩
  obtain⟨u,Q,U,u3⟩:=C j q.2 t x s;exact⟨u,by rw[<-h,jl];exact Q,U,u3⟩
theorem DZ(qs:Pz)(us:List Int):(Pn qs us).dat=some (.tuple [.list (qs.map Po),.list (us.map PyData.int)]):=by have h:=aA us;show (OD.tup [.fz (.list (qs.map Po)),Il us]).dat=_;generalize Il us=x at h ⊢;simp only[OD.dat,OD.dv,h]
abbrev Tc(c:List Int):PyData:=.tuple (c.map PyData.int)
def nxc(c:List Int)(lo:Int):Nat->List (List Int)
 |0=>[]
 |m+1=>(c++[lo])::nxc c (lo+1) m
def grow(N:Nat)(a:List (List Int)):List (List Int):=a.flatMap λc=>nxc c 0 (N+1)
def z6(N:Nat):Nat->List (List Int)
 |0=>[[]]
 |k+1=>grow N (z6 N k)
theorem nxc_mem:∀{m:Nat}{a:Int},d∈nxc c a m ↔ ∃g,a<=g/\g<a+m/\d=c++[g]
 |0,a=>⟨λh=>absurd h aao,λ⟨g,b,f,_⟩=>by omega⟩
 |m+1,a=>by
  rw[nxc,aab,nxc_mem (m:=m)];constructor
  ·rintro (rfl|⟨g,b,f,rfl⟩)
   ·exact⟨a,by omega,by omega,rfl⟩
   ·exact⟨g,by omega,by omega,rfl⟩
  ·rintro⟨g,b,f,rfl⟩;by_cases e:g=a
   ·subst e;exact .inl rfl
   ·exact .inr ⟨g,by omega,by omega,rfl⟩
theorem nxc_len:∀{m:Nat}{a:Int},(nxc c a m).length=m
 |0,_=>rfl
 |m+1,_=>congrArg (·+1) nxc_len
theorem nj:∀{a:List (List Int)},(grow N a).length=a.length*(N+1)
 |[]=>(Nat.zero_mul _).symm
 |c::a=>by show (nxc c 0 (N+1)++grow N a).length=_;rw[aal,nxc_len,nj,aau,Nat.succ_mul,Nat.add_comm]
theorem jm:∀{k:Nat}{c:List Int},c∈z6 N k->c.length=k/\∀g∈c,0<=g/\g<=(N:Int)
 |0,c,h=>by rw[aap.mp h];exact⟨rfl,λg j=>absurd j aao⟩
 |k+1,c,h=>by
  obtain⟨d,i,e⟩:=List.mem_flatMap.mp h;obtain⟨g,l,m,rfl⟩:=nxc_mem.mp e;obtain⟨b,f⟩:=jm i;refine⟨by rw[aal,b];rfl,λx a=>?_⟩;rcases aaj.mp a with a|a
  ·exact f x a
  ·rw[aap.mp a];omega
theorem qW:∀{k:Nat},(z6 N k).length=(N+1)^k
 |0=>rfl
 |k+1=>by rw[z6,nj,qW,Nat.pow_succ]
def D0(c:ev C a ρ=some (x,ρ1))(f:ev C b ρ1=some (y,ρ2))(e:Cq ρ2 x=some dx)(g:Cq ρ2 y=some dy)(d:dy≠[]/\dx.length+dy.length<=1000000):ev C (.catV a b) ρ=some (.val (.fz (.tuple (dx++dy))),ρ2):=bs c (bs f (bs e (bs g (bg d rfl))))
abbrev G9:E:=.catV (.nm 0) (.tup ed9)
theorem qX(d:c.length<=1000):∀{m:Nat}{a:Int}{out:List PyData}{o1:Option OD},∃b,aM (yN C (.nm 1) G9) (cA a m) out [some (.fz (Tc c)),o1,some x2]=some (out++(nxc c a m).map Tc,[some (.fz (Tc c)),b,some x2])
 |0,a,out,o1=>⟨o1,by rw[nxc,aaD,aaq];rfl⟩
 |m+1,a,out,o1=>by
  obtain⟨f,e⟩:=qX d;refine⟨f,?_⟩;rw[bz];refine bs (x:=([Tc (c++[a])],[some (.fz (Tc c)),Kg a,some x2])) ?_ (e.trans ?_)
  ·refine bs rfl (bs (D0 rfl rfl rfl rfl ⟨by simp,by rw[aaa];simp;omega⟩) (bs rfl ?_));show some ([PyData.tuple (c.map PyData.int++[.int a])],_)=some ([PyData.tuple ((c++[a]).map PyData.int)],_);rw[aaw];rfl
  ·rw[nxc,aam,aac];rfl
abbrev I9:It':=.rg1 eb1
theorem nk(k:rs.length<=1000):∀{a:List (List Int)}{out:List PyData}{o0 o1:Option OD},(∀c∈a,c.length<=1000)->out.length+a.length*(rs.length+1)<1000000->∃f b,cj (pS C (.nm 0) I9 (.nm 1) G9) (a.map Tc) out [o0,o1,Kk rs]=some (out++(grow rs.length a).map Tc,[f,b,Kk rs])
 |[],out,o0,o1,_,_=>⟨o0,o1,by rw[show grow rs.length []=[] from rfl,aaD,aaq];rfl⟩
 |c::a,out,o0,o1,h,hl=>by
  rw[aau,Nat.succ_mul]at hl;obtain⟨b,l⟩:=qX (h c aad);obtain⟨i,g,e⟩:=nk k (out:=out++(nxc c 0 (rs.length+1)).map Tc) (λd j=>h d (aah _ j)) (by rw[aal,aaa,nxc_len];omega);refine⟨i,g,bs (bs rfl (bs (x:=(cA 0 (rs.length+1),[some (.fz (Tc c)),o1,Kk rs])) ?_ (bg ?_ l))) (e.trans ?_)⟩
  ·have:=eX (C:=C) (e:=.bop .add edb (.int 1)) (ρ:=[some (.fz (Tc c)),o1,Kk rs]) (ai (e_blt rfl rfl blen) rfl rfl rfl rfl) rfl (by omega);rw[show ((rs.length:Int)+1).toNat=rs.length+1 by omega]at this;exact this
  ·show out.length+(cA 0 (rs.length+1)).length<1000000;rw[dG];omega
  ·rw[aac,<-aaw];rfl
abbrev Cl(cs:List (List Int)):OD:=.lst ((cs.map Tc).map OD.fz)
theorem z7(d:rs.length<=1000)(b:∀c∈cs,c.length<=1000)(g:cs.length*(rs.length+1)<1000000):aN (Kt n) (.cons (.sc2 1 2 [0] (.seq (.nm 1)) (.nm 0) I9 (.nm 1) G9) .nil) [Kk rs,some (Cl cs),Kg a]=some (.nx,[Kk rs,some (Cl (grow rs.length cs)),Kg a]):=by obtain⟨i,f,e⟩:=nk d b (by rw[aaJ];omega);have h:cs.length<=cs.length*(rs.length+1):=Nat.le_mul_of_pos_right _ (Nat.succ_pos _);refine ab (bs (aR rfl (bo rfl (bV _) rfl) rfl) (bg (by rw[aaa];omega) (bs rfl (bs e (bg (by show 1<3;decide) rfl))))) rfl
theorem qY(g:rs.length<=6):∀{gs:List Int}{k:Nat}{o:Option OD},k+gs.length<=4->∃f,bD (λd b=>(be (.nm 2) (.fz d) b).bind λρ1=>aN (Kt n) (.cons (.sc2 1 2 [0] (.seq (.nm 1)) (.nm 0) I9 (.nm 1) G9) .nil) ρ1) (gs.map PyData.int) [Kk rs,some (Cl (z6 rs.length k)),o]=some (.nx,[Kk rs,some (Cl (z6 rs.length (k+gs.length))),f])
 |[],k,o,_=>⟨o,rfl⟩
 |a::gs,k,o,h=>by
  rw[aau]at h;obtain⟨f,e⟩:=qY g (gs:=gs) (k:=k+1) (by omega);have j:(z6 rs.length k).length<=343:=by rw[qW];exact aax (Nat.pow_le_pow_left (show rs.length+1<=7 by omega) k) (aax (Nat.pow_le_pow_right (by decide) (show k<=3 by omega)) (by decide))
  refine⟨f,bs (bs rfl (z7 (by omega) (λc i=>by rw[(jm i).1];omega) (abR (Nat.mul_le_mul j (show rs.length+1<=7 by omega)) (by decide)))) (e.trans ?_)⟩;rw[aau,Nat.add_assoc,Nat.add_comm 1]
theorem tq(b:rs.length<=6)(d:(gIx 0 rs).length<=4):pl.pg.call (n+3) 24 [Rl rs]=some (Cl (z6 rs.length (gIx 0 rs).length),[Rl rs]):=by obtain⟨o,e⟩:=qY b (gs:=gIx 0 rs) (k:=0) (by omega);rw[aaT]at e;have a:=dY (n:=n) (rs:=rs) (by omega);have c:(Kt (n+2)).call=pl.pg.call (n+2):=rfl;rw[<-c]at a;exact af rfl rfl (ab (ak rfl rfl rfl rfl) (ab (cx (aR (ae rfl rfl a rfl) (by simp only[frz1,aA];rfl) rfl) e) (ax (ah rfl rfl)))) rfl
theorem oX{ns:List Int}(a:ev C e ρ=some (x,ρ1))(b:ar ρ1 x=some d)(hs:nF d=some (ns.map PyData.int))(c:ns.length<64):ev C (.sst e) ρ=some (.val (Il (sortI (ns.foldl ddI []))),ρ1):=by have:=eB ns [];rw[aaJ]at this;exact bs a (bs b (bs hs (bs (cU ns) (bg (by omega) (bg (by omega) rfl)))))
theorem fky:∀{gs:List Int}{j:Nat}{g:Int},gs.Nodup->gs[j]?=some g->(gs.map λg=>(Sum.inl g:Key)).findIdx? (λq=>decide (q=.inl g))=some j/\gs.findIdx? (λm=>decide (m=g))=some j
 |[],_,_,_,h=>by simp at h
 |v::gs,0,g,_,h=>by cases h;simp[aaY]
 |v::gs,j+1,g,nd,h=>by obtain⟨d,c⟩:=aaA.mp nd;have h:gs[j]?=some g:=h;have a:v≠g:=λe=>d (by rw[e];exact aa0 h);obtain⟨f,b⟩:=fky c h;rw[aam,aaY,aaY,f,b,Dab (λe=>a (abL e)),Dab a];exact⟨rfl,rfl⟩
abbrev gDi(gs:List Int)(X:Int->OD):OD:=.dic (gs.map Sum.inl) (gs.map X)
theorem p_gDi(e:ρ[i]?.join=some (gDi gs X))(a:ρ[j]?.join=Kg g)(c:gs.Nodup)(hk:gs[k]?=some g):aj ρ i [.key j]=some (gDi gs X,[k],X g):=by
 have f:aj ρ i []=some (gDi gs X,[],gDi gs X):=by unfold aj;rw[e];rfl
 have d:accN ρ (gDi gs X) (.key j)=some k:=by unfold accN;exact bs a (bs rfl (bs rfl (bs rfl ((fky c hk).1))))
 have b:(gDi gs X).kids[k]?=some (X g):=by show (gs.map X)[k]?=_;rw[aas,hk];rfl
 exact bs f (bs d (bs b rfl))
theorem qZ(f:gs.Nodup)(hk:gs[k]?=some g)(h:∀x,x≠g->Y x=X x):OD.put (Y g) [k] (gDi gs X)=gDi gs Y:=by
 have c:(gDi gs X).kids[k]?=some (X g):=by show (gs.map X)[k]?=_;rw[aas,hk];rfl
 have:(gs.map X).set k (Y g)=gs.map Y:=by
  apply abS;intro i;rw[aas,List.getElem?_set];obtain⟨d,b⟩:=aai.mp hk;by_cases e:k=i
  ·subst e;rw[if_pos rfl,if_pos (by rw[aaa];exact d),hk];rfl
  ·rw[if_neg e,aas];cases j:gs[i]? with
   |none=>rfl
   |some x=>refine congrArg some (h x λz=>e ?_).symm;obtain⟨l,a⟩:=aai.mp j;exact(List.getElem_inj f).mp (by rw[b,a,z])
 unfold OD.put;rw[c];show OD.dic _ ((gs.map X).set k _)=_;exact congrArg _ this
theorem q8:∀{gs hs:List Int}{o:Option OD},(hs++gs).Nodup->∃a,cj (Fx C (.nm 0) (.nm 0)) (gs.map PyData.int) (hs.map Sum.inl,hs.map λ_=>OD.lst []) [o]=some (((hs++gs).map Sum.inl,(hs++gs).map λ_=>OD.lst []),[a])
 |[],hs,o,_=>⟨o,by rw[aaq];rfl⟩
 |g::gs,hs,o,nd=>by
  obtain⟨a,e⟩:=q8 (hs:=hs++[g]) (by rw[aac];exact nd);rw[aac]at e;refine⟨a,bs (x:=(((hs++[g]).map Sum.inl,(hs++[g]).map λ_=>OD.lst []),[Kg g])) (bs rfl (bs rfl (bs rfl (bs rfl (bg ?_ ?_))))) e⟩
  ·rw[Bool.eq_false_iff];intro z;obtain⟨q,c,e⟩:=abG.mp z;obtain⟨u,b,rfl⟩:=aat.mp c;have e:=abL (Daa e);subst e;exact(aaB.mp nd).2.2 u b u aad rfl
  ·rw[aaw,aaw];rfl
def wst(f:Cf)(W:Int->List Int)(z:Int×Int):Int->List Int:=λh=>if h=z.2 then a8 (W h) (nu f z.1) else W h
abbrev xH(f:Cf)(ch gs:List Int)(W:Int->List Int)(o4 o5:Option OD):DEnv:=[Kk f.rows,some (.fz (Tc ch)),Ko gs,some (gDi gs λg=>Il (W g)),o4,o5]
abbrev JE:Ss:=match F_plan_of.body with|.cons _ (.cons _ (.cons (.fr _ _ b) _))=>b|_=>.nil
theorem z8(m:gs.Nodup)(u:Gt f z.1)(t:z.2∈gs)(q:∀h,(W h).length<1000):aN (Kt n) JE (xH f ch gs W (Kg z.1) (Kg z.2))=some (.nx,xH f ch gs (wst f W z) (Kg z.1) (Kg z.2)):=by
 obtain⟨a,g⟩:=z;obtain⟨i,x,y,l,j⟩:=u;have l:a=i:=l;subst l;obtain⟨k,p⟩:=aaM.mp t;have o:aj (xH f ch gs W (Kg i) (Kg g)) 3 [.key 5]=some (gDi gs λg=>Il (W g),[k],Il (W g)):=p_gDi rfl rfl m p;have c:aY (Kt n) ebr (xH f ch gs W (Kg i) (Kg g))=some (!decide (y∈W g),xH f ch gs W (Kg i) (Kg g)):=
  oH (aE (aE rfl rfl rfl (bu (fO j))) rfl rfl (item_t (bp rfl))) rfl o (aA _) ninL
 have r:wst f W ((i:Int),g)=λh=>if h=g then a8 (W h) y else W h:=by unfold wst;rw[qI j]
 rw[r];by_cases b:y∈W g
 ·rw[Dac b]at c;have e:(λh=>if h=g then a8 (W h) y else W h)=W:=by
   funext h;split
   ·rename_i e;subst e;unfold a8;rw[if_pos b]
   ·rfl
  rw[e];exact ab (az c rfl) rfl
 ·rw[Dab b]at c;refine ab (aW c (ab (k5 (d:=.int y) o ?_ rfl (by rw[aaa];exact abi (q g) (by decide)) ?_) rfl)) rfl
  ·exact bs (bs rfl (bs rfl (bs rfl (bs rfl (fO j))))) (bs rfl (bs rfl (bs rfl (bp rfl))))
  ·have:=qZ (Y:=λh=>Il (if h=g then a8 (W h) y else W h)) m p λx s=>by rw[if_neg s]
   rw[if_pos rfl,show a8 (W g) y=W g++[y] from if_neg b,cH]at this;show [Kk f.rows,some (.fz (Tc ch)),Ko gs,some (OD.put (.lst ((W g).map It++[It y])) [k] (gDi gs λg=>Il (W g))),Kg i,Kg g]=_;rw[this]
def q9:(wst f W z h).length<=(W h).length+1:=by
 unfold wst;split
 ·exact m6
 ·exact abp _
theorem rg(j:gs.Nodup):∀{zs:List (Int×Int)}{W:Int->List Int}{o4 o5:Option OD},(∀z∈zs,Gt f z.1/\z.2∈gs)->(∀h,(W h).length+zs.length<1000)->∃i g,bD (λd c=>(be (.tp [4,5]) (.fz d) c).bind λρ1=>aN (Kt n) JE ρ1) (zs.map Zp) (xH f ch gs W o4 o5)=some (.nx,xH f ch gs (zs.foldl (wst f) W) i g)
 |[],W,o4,o5,_,_=>⟨o4,o5,rfl⟩
 |z::zs,W,o4,o5,h,hw=>by
  simp only[aau]at hw;obtain⟨a,b,e⟩:=rg j (W:=wst f W z) (λx k=>h x (aah _ k)) λh=>by have:=hw h;have:=q9 (f:=f) (W:=W) (z:=z) (h:=h);omega
  exact⟨a,b,bs (bs rfl (z8 j (h z aad).1 (h z aad).2 λh=>by have:=hw h;omega)) e⟩
theorem nq{W:Int->List Int}(a:gs.Nodup):∀{hs:List Int}{X:Int->OD}{out:List PyData}{o:Option OD},(∀h∈hs,h∈gs)->(∀h,(X h).dat=some (.list ((W h).map PyData.int)))->∃(b:Int->OD) (d:Option OD),aM (aS C (.nm 0) .none (.tup ebs)) (hs.map PyData.int) out [o,some (gDi gs X)]=some (out++(hs.map λg=>(g,W g)).map Po,[d,some (gDi gs b)])
 |[],X,out,o,_,_=>⟨X,o,by simp only[aaD,aaq];rfl⟩
 |g::hs,X,out,o,h,hX=>by
  obtain⟨k,i⟩:=aaM.mp (h g aad);obtain⟨b,d,e⟩:=nq a (X:=λh=>if h=g then Dl (W g) else X h) (λx c=>h x (aah _ c)) λh=>by
   split
   ·rename_i e;subst e;rfl
   ·exact hX h
  have f:=qZ (Y:=λh=>if h=g then Dl (W g) else X h) a i λx c=>if_neg c;rw[if_pos rfl]at f;refine⟨b,d,bs (x:=([Po (g,W g)],[Kg g,some (gDi gs λh=>if h=g then Dl (W g) else X h)])) (fA rfl (eM (aa rfl (aa (qy (zz (p_gDi rfl rfl a i) (hX g) rfl) rfl) ag)) rfl rfl rfl) ?_) (e.trans ?_)⟩
  ·show some (Po (g,W g),[Kg g,some (OD.put (Dl (W g)) [k] (gDi gs X))])=_;rw[f]
  ·rw[aam,aam,aac];rfl
def ixo(gs:List Int)(g:Int):Int:=((gs.findIdx? λm=>decide (m=g)).getD 0:Nat)
def lD{k:Nat}(a:gs.Nodup)(hk:gs[k]?=some g):ixo gs g=k:=by unfold ixo;rw[(fky a hk).2];rfl
theorem GM(c:ρ[i]?.join=Ko gs)(a:ev C b ρ=some (y,ρ))(f:ar ρ y=some (.int g))(h:gs.length<1000)(d:gs.findIdx? (λm=>decide (m=g))=some j):ev C (.idl i b) ρ=some (.val (It j),ρ):=by
 have e:nmR ρ i=some (.val (Dl gs)):=by unfold nmR;rw[c]
 exact bs e (bs rfl (bs rfl (bs a (bs f (bs rfl (bs rfl (bs rfl (bs (cU gs) (bg (by omega) (bs d rfl))))))))))
theorem rh(a:gs.Nodup)(c:gs.length<1000):∀{hs:List Int}{out:List PyData}{o:Option OD},(∀h∈hs,h∈gs)->∃b:Option OD,aM (aS C (.nm 0) .none (.idl 1 (.nm 0))) (hs.map PyData.int) out [o,Ko gs]=some (out++(hs.map (ixo gs)).map PyData.int,[b,Ko gs])
 |[],out,o,_=>⟨o,by simp only[aaD,aaq];rfl⟩
 |g::hs,out,o,h=>by obtain⟨k,d⟩:=aaM.mp (h g aad);obtain⟨b,e⟩:=rh a c (λx f=>h x (aah _ f));refine⟨b,bs (x:=([.int (ixo gs g)],[Kg g,Ko gs])) (fA rfl (GM rfl rfl rfl c (fky a d).2) (by rw[lD a d];rfl)) (e.trans ?_)⟩;rw[aam,aam,aac];rfl
abbrev gsO(ch:List Int):List Int:=sortI (ch.foldl ddI [])
abbrev wo(f:Cf)(ch:List Int):Int->List Int:=((gIx 0 f.rows).zip ch).foldl (wst f) λ_=>[]
def pq(f:Cf)(ch:List Int):Pz:=(gsO ch).map λg=>(g,wo f ch g)
def pu(ch:List Int):List Int:=ch.map (ixo (gsO ch))
def xu:a∈ddI ns m ↔ a∈ns\/a=m:=by
 unfold ddI;split
 ·rename_i h;exact⟨.inl,λz=>z.elim id λe=>e▸h⟩
 ·rw[aaj,aap]
theorem hU:∀{l ns:List Int}{a:Int},a∈l.foldl ddI ns ↔ a∈ns\/a∈l
 |[],ns,a=>by simp
 |m::l,ns,a=>by rw[abA,hU,xu,aab,or_assoc]
theorem eG:∀{l ns:List Int},ns.Nodup->(l.foldl ddI ns).Nodup
 |[],_,h=>h
 |m::l,ns,h=>eG (l:=l) (lz h)
def gsO_mem:g∈gsO ch ↔ g∈ch:=by rw[(sortI_perm _).mem_iff,hU];exact⟨λh=>h.elim (λz=>absurd z aao) id,.inr⟩
def gsO_nd(ch:List Int):(gsO ch).Nodup:=(sortI_perm _).nodup_iff.mpr (eG aa1)
def z9(ch:List Int):(gsO ch).Pairwise (·<·):=by refine((cP _).and (gsO_nd ch)).imp λh=>?_;have:=h.1;have:=h.2;omega
def lF(ch:List Int):(gsO ch).length<=ch.length:=by rw[(sortI_perm _).length_eq];have:=eB ch [];rw[aaJ]at this;omega
theorem wo_mem:∀{zs:List (Int×Int)}{W:Int->List Int}{g x:Int},x∈zs.foldl (wst f) W g ↔ x∈W g\/∃z∈zs,z.2=g/\nu f z.1=x
 |[],W,g,x=>by simp
 |z::zs,W,g,x=>by
  rw[abA,wo_mem];have:x∈wst f W z g ↔ x∈W g\/(z.2=g/\nu f z.1=x):=by
   unfold wst;split
   ·rename_i e;show x∈ddI _ _ ↔ _;rw[xu];exact⟨λh=>h.imp id λh=>⟨e.symm,h.symm⟩,λh=>h.imp id λh=>h.2.symm⟩
   ·rename_i e;exact⟨.inl,λh=>h.elim id λh=>absurd h.1.symm e⟩
  rw[this,or_assoc];refine or_congr Iff.rfl ⟨λh=>?_,λ⟨y,a,e⟩=>?_⟩
  ·rcases h with h|⟨y,a,e⟩
   ·exact⟨z,aad,h⟩
   ·exact⟨y,aah _ a,e⟩
  ·rcases aab.mp a with rfl|a
   ·exact .inl e
   ·exact .inr ⟨y,a,e⟩
theorem AU:∀{zs:List (Int×Int)}{W:Int->List Int},(∀g,(W g).Nodup)->∀g,(zs.foldl (wst f) W g).Nodup/\(zs.foldl (wst f) W g).length<=(W g).length+zs.length
 |[],W,h,g=>⟨h g,aae _⟩
 |z::zs,W,h,g=>by
  obtain⟨a,b⟩:=AU (W:=wst f W z) (λg=>by
   unfold wst;split
   ·exact lz (h g)
   ·exact h g) g
  have:=q9 (f:=f) (W:=W) (z:=z) (h:=g);exact⟨a,by rw[aau];show (zs.foldl (wst f) (wst f W z) g).length<=_;omega⟩
theorem xw(A:f.rows.length<=200)(v:ch.length=(gIx 0 f.rows).length)(w:ch.length<60):pl.pg.call (n+3) 25 [Rl f.rows,.fz (Tc ch)]=some (.tup [.lst (((pq f ch).map Po).map OD.fz),Il (pu ch)],[Rl f.rows,.fz (Tc ch)]):=by
 have c:=gsO_nd ch;have B:=lF ch;obtain⟨u,t⟩:=q8 (hs:=[]) c;obtain⟨a,b,g⟩:=rg c (λz d=>by
  obtain⟨q,o⟩:=aa6 d;exact⟨oS (k:=f.rows.length) (by rw[abu];exact q),gsO_mem.mpr o⟩) λh=>by rw[aa3,aaJ];omega
 obtain⟨X,x,s⟩:=nq c (λ_ h=>h) λh=>aA _;obtain⟨y,i⟩:=rh c (by omega) λh l=>gsO_mem.mpr l;have e:=dY (n:=n) (rs:=f.rows) (by omega);have p:(Kt (n+2)).call=pl.pg.call (n+2):=rfl;rw[<-p]at e;have m:cJ (Kt (n+2)) edv [Kk f.rows,some (.fz (Tc ch)),none,none,none,none]=some (.nx,[Kk f.rows,some (.fz (Tc ch)),some (Il (gsO ch)),none,none,none]):=ak (oX rfl rfl rfl (by omega)) rfl rfl rfl;have r:cJ (Kt (n+2)) (.sdl 3 1 [] (.seq (.nm 2)) (.nm 0) (.nm 0)) [Kk f.rows,some (.fz (Tc ch)),some (Il (gsO ch)),none,none,none]=some (.nx,xH f ch (gsO ch) (λ_=>[]) none none):=
  bs (aR rfl (bo rfl (aA _) rfl) rfl) (bg (by rw[aaa];omega) (bs rfl (bs t (bg (by rw[bO];show 3<6;decide) (by rw[bO];rfl)))))
 have d:jQ (Kt (n+2)) eco (xH f ch (gsO ch) (λ_=>[]) none none)=some (((gIx 0 f.rows).zip ch).map Zp,xH f ch (gsO ch) (λ_=>[]) none none):=by rw[<-fR];exact dS (ae rfl rfl e rfl) rfl (by simp only[frz1,aA];rfl) rfl rfl rfl
 have j:Il (pu ch)=.lst (((ch.map (ixo (gsO ch))).map PyData.int).map OD.fz):=by rw[fN];rfl
 rw[j];exact af rfl rfl (ab m (ab r (ab (cx d g) (ax (ah (eM (aa (bG (aR rfl rfl rfl) (by rw[aaa];omega) rfl s rfl) (aa (bG (aR rfl rfl rfl) (by rw[aaa];omega) rfl i rfl) ag)) rfl rfl rfl) rfl))))) rfl
def gC{ios:List Bool}{ρ ρ1 ρ2:DEnv}{r:OR}{rs:List OR}{d:PyData}{xs:List OD}(h:frz1 ρ r=some (d,ρ1))(h':aX ios ρ1 rs=some (xs,ρ2)):aX (false::ios) ρ (r::rs)=some (.fz d::xs,ρ2):=by simp only[aX,h,h']
def fin_bl(h:∀q∈qs,0<=q.1/\q.1<=(f.rows.length:Int)):(fin f qs).bs.length=qs.length:=by rw[fin,ji,gA λq a=>(h q a).1,<-jk λq a=>(h q a).1,List.countP_eq_length];intro q a;have:=(h q a).2;exact Dac (by omega)
structure Cho (f:Cf)(ch:List Int):Prop where
 len:ch.length=(gIx 0 f.rows).length
 few:ch.length<60
 rng:∀g∈ch,0<=g/\g<=(f.rows.length:Int)
section
variable{f:Cf}{ch:List Int}
theorem rj(C:Cho f ch)(p:Nb f.rows):∀q∈pq f ch,Pok f.rows.length q:=λq n=>by
 obtain⟨g,m,rfl⟩:=aat.mp n;have c:=gsO_mem.mp m;obtain⟨i,d⟩:=AU (f:=f) (zs:=(gIx 0 f.rows).zip ch) (W:=λ_=>[]) (λ_=>aa1) g;rw[aa3,aaJ]at d;have d:(wo f ch g).length<=_:=d;have:=C.few;refine⟨(C.rng g c).1,(C.rng g c).2,λz=>?_,i,by show (wo f ch g).length<=100;omega,λx l=>?_⟩
 ·obtain⟨k,e⟩:=aaM.mp c;have j:=(aai.mp e).1;have:nu f ((gIx 0 f.rows)[k]'(by rw[<-C.len];exact j))∈wo f ch g:=wo_mem.mpr (.inr ⟨(_,g),aaM.mpr ⟨k,by rw[abk];exact⟨aan _,e⟩⟩,rfl,rfl⟩);have z:wo f ch g=[]:=z;rw[z]at this;exact absurd this aao
 ·rcases wo_mem.mp l with h|⟨z,o,_,rfl⟩
  ·exact absurd h aao
  ·exact AS p (wY (k:=f.rows.length) (by rw[abu];exact(aa6 (a:=z.1) (b:=z.2) o).1))
def xx:(pq f ch).Pairwise λx y=>x.1<y.1:=acu.mpr (z9 ch)
def AV{k:Nat}(hk:(gsO ch)[k]?=some g):(pq f ch)[k]?=some (g,wo f ch g):=by unfold pq;rw[aas,hk];rfl
theorem pu_zip(b:z∈(gIx 0 f.rows).zip (pu ch)):∃(i k:Nat) (g x y:Int),z=((i:Int),(k:Int))/\((i:Int),g)∈(gIx 0 f.rows).zip ch/\(gsO ch)[k]?=some g/\f.rows[i]?=some (.st x y):=by unfold pu at b;rw[List.zip_map_right]at b;obtain⟨⟨a,g⟩,c,rfl⟩:=aat.mp b;obtain⟨h,j⟩:=aa6 c;obtain⟨i,x,y,rfl,e⟩:=oS (by rw[abu];exact h);obtain⟨k,d⟩:=aaM.mp (gsO_mem.mpr j);exact⟨i,k,g,x,y,by show ((i:Int),ixo (gsO ch) g)=_;rw[lD (gsO_nd ch) d],c,d,e⟩
theorem AW(C:Cho f ch)(c:Nb f.rows):∀z∈(gIx 0 f.rows).zip (pu ch),Sw f (pq f ch) z:=λz l=>by
 obtain⟨i,k,g,x,y,rfl,j,d,e⟩:=pu_zip l;have h:i<(fin f (pq f ch)).ps.length:=by rw[xq];exact(aai.mp e).1
 have a:k<(fin f (pq f ch)).bs.length:=by rw[fin_bl λq b=>⟨(rj C c q b).lo,(rj C c q b).hi⟩];exact(aai.mp (AV (f:=f) d)).1
 exact⟨i,k,_,_,_,rfl,aan h,aan a,AV d,wo_mem.mpr (.inr ⟨_,j,rfl,rfl⟩),x,y,e⟩
theorem GN(C:Cho f ch):Rw f (pq f ch) (pu ch):=λj q a x b=>by
 unfold pq at a;rw[aas]at a;obtain⟨g,c,rfl⟩:=aaF.mp a;rcases wo_mem.mp b with h|⟨z,d,rfl,e⟩
 ·exact absurd h aao
 ·refine⟨(z.1,ixo (gsO ch) z.2),?_,lD (gsO_nd ch) c,e⟩;unfold pu;rw[List.zip_map_right];exact aat.mpr ⟨z,d,rfl⟩
theorem GP(C:Cho f ch)(b:Nb f.rows)(h:∀z∈(gIx 0 f.rows).zip (pu ch),Rr f (pq f ch) f.r0 f.r1 z):Pf f (pq f ch) (pu ch) f.r0 f.r1:=by
 refine⟨rj C b,xx,?_,by rw[pu,aaa];exact C.len,λz a=>Sv.of (AW C b z a) (h z a),λu d=>?_⟩
 ·have:=lF ch;have:=C.few;rw[pq,aaa];omega
 ·obtain⟨g,e,rfl⟩:=aat.mp d;obtain⟨k,c⟩:=aaM.mp (gsO_mem.mpr e);rw[lD (gsO_nd ch) c,pq,aaa];have:=(aai.mp c).1;omega
end
def Aa{C:Ct}{e:E}{ρ ρ1:DEnv}{x:OR}{d:PyData}{ns:List Int}(h:ev C e ρ=some (x,ρ1))(b:ar ρ1 x=some d)(hs:nF d=some (ns.map PyData.int))(a:ns.length<1000):ev C (.lset e) ρ=some (.val (It (ns.foldl ddI []).length),ρ1):=bs h (bs b (bs hs (bs (cU ns) (bg a rfl))))
def Bst(f:Cf)(B:OD)(qs:Pz)(us:List Int):Prop:=(B=Pn qs us\/B=Fp qs us)/\Pf f qs us f.r0 f.r1/\Rw f qs us
abbrev nG(f:Cf)(B:OD)(o4 o5 o6:Option OD):DEnv:=[Kk f.rows,Kl f,some (Re f),some B,o4,o5,o6]
abbrev JF:Ss:=match F_fewest_plan.body with|.cons _ (.cons (.fr _ _ b) _)=>b|_=>.nil
theorem D1{C:Ct}{f:Cf}{B:OD}{qs:Pz}{us:List Int}{o4 o5 o6:Option OD}(h:B=Pn qs us\/B=Fp qs us):ev C eci (nG f B o4 o5 o6)=some (.val (It qs.length),nG f B o4 o5 o6):=by
 rcases h with rfl|rfl
 ·exact e_blt (ds:=[.list (qs.map Po)]) (aa rfl ag) rfl blen
 ·exact e_blt (ds:=[.list (qs.map Po)]) (aa (aE rfl rfl rfl (item_t atI_zero)) ag) rfl blen
def fs(f:Cf)(t:OD×Pz×List Int)(ch:List Int):OD×Pz×List Int:=if ((ch.foldl ddI []).length:Int)<(t.2.1.length:Int)/\∀z∈(gIx 0 f.rows).zip (pu ch),Rr f (pq f ch) f.r0 f.r1 z then (Fp (pq f ch) (pu ch),pq f ch,pu ch) else t
theorem Ab{n:Nat}{f:Cf}{t:OD×Pz×List Int}{ch:List Int}{o5 o6:Option OD}(p:f.rows.length<=200)(k:Nb f.rows)(C:Cho f ch)(h:Bst f t.1 t.2.1 t.2.2):Bst f (fs f t ch).1 (fs f t ch).2.1 (fs f t ch).2.2/\∃(m l:Option OD),aN (Kt (n+5)) JF (nG f t.1 (some (.fz (Tc ch))) o5 o6)=some (.nx,nG f (fs f t ch).1 (some (.fz (Tc ch))) m l):=by
 obtain⟨B,c,j⟩:=t;have e:aY (Kt (n+5)) ebb (nG f B (some (.fz (Tc ch))) o5 o6)=some (decide (((ch.foldl ddI []).length:Int)<(c.length:Int)),nG f B (some (.fz (Tc ch))) o5 o6):=
  aG (aw (Aa rfl rfl rfl (by have:=C.few;omega)) (D1 h.1) rfl rfl rfl)
 by_cases i:((ch.foldl ddI []).length:Int)<(c.length:Int)
 ·rw[Dac i]at e;have a:=xw (n:=n+2) (f:=f) p C.len C.few;have s:(pq f ch).length<=300:=by have:=lF ch;have:=C.few;rw[pq,aaa];omega
  have b:=kb (n:=n) (f:=f) (r0:=f.r0) (r1:=f.r1) (xx (f:=f) (ch:=ch)) (λq r=>(rj C k q r).lo) s (AW C k) p;have u:(Kt (n+5)).call=pl.pg.call (n+5):=rfl;rw[<-u]at a b;have o:cJ (Kt (n+5)) ebk (nG f B (some (.fz (Tc ch))) o5 o6)=some (.nx,nG f B (some (.fz (Tc ch))) (some (.lst (((pq f ch).map Po).map OD.fz))) (some (Il (pu ch)))):=
   gB (ae (ρ3:=nG f B (some (.fz (Tc ch))) o5 o6) rfl rfl a rfl) rfl rfl
  have g:aY (Kt (n+5)) eaz (nG f B (some (.fz (Tc ch))) (some (.lst (((pq f ch).map Po).map OD.fz))) (some (Il (pu ch))))=some (decide (∀z∈(gIx 0 f.rows).zip (pu ch),Rr f (pq f ch) f.r0 f.r1 z),nG f B (some (.fz (Tc ch))) (Kn (pq f ch)) (Ko (pu ch))):=
   aL (ae (rs:=[.val (Rl f.rows),.val (Lo f),.val (Re f),.rf 5,.rf 6]) (ρ3:=nG f B (some (.fz (Tc ch))) (Kn (pq f ch)) (Ko (pu ch))) rfl (show aX [false,false,false,false,false] _ _=_ from gC rfl (gC rfl (gC rfl (gC (bo rfl (bV _) rfl) (gC (bo rfl (aA _) rfl) rfl))))) b rfl)
  by_cases d:∀z∈(gIx 0 f.rows).zip (pu ch),Rr f (pq f ch) f.r0 f.r1 z
  ·rw[Dac d]at g;rw[show fs f (B,c,j) ch=_ from if_pos ⟨i,d⟩];exact⟨⟨.inr rfl,GP C k d,GN C⟩,_,_,ab (aW e (ab o (ab (aW g (ab (ak (ρ3:=nG f (Fp (pq f ch) (pu ch)) (some (.fz (Tc ch))) (Kn (pq f ch)) (Ko (pu ch))) rfl rfl rfl rfl) rfl)) rfl))) rfl⟩
  ·rw[Dab d]at g;rw[show fs f (B,c,j) ch=_ from if_neg λz=>d z.2];exact⟨h,_,_,ab (aW e (ab o (ab (az g rfl) rfl))) rfl⟩
 ·rw[Dab i]at e;rw[show fs f (B,c,j) ch=_ from if_neg λz=>i z.1];exact⟨h,o5,o6,ab (az e rfl) rfl⟩
theorem rk(k:f.rows.length<=200)(j:Nb f.rows):∀{a:List (List Int)}{t:OD×Pz×List Int}{o4 o5 o6:Option OD},(∀c∈a,Cho f c)->Bst f t.1 t.2.1 t.2.2->Bst f (a.foldl (fs f) t).1 (a.foldl (fs f) t).2.1 (a.foldl (fs f) t).2.2/\∃(i g e:Option OD),bD (λd b=>(be (.nm 4) (.fz d) b).bind λρ1=>aN (Kt (n+5)) JF ρ1) (a.map Tc) (nG f t.1 o4 o5 o6)=some (.nx,nG f (a.foldl (fs f) t).1 i g e)
 |[],t,o4,o5,o6,_,h=>⟨h,o4,o5,o6,rfl⟩
 |c::a,t,o4,o5,o6,hc,h=>by obtain⟨r,v,w,u⟩:=Ab k j (hc c aad) h;obtain⟨q,s,m,l,p⟩:=rk k j (λd o=>hc d (aah _ o)) r;exact⟨q,s,m,l,bs (bs rfl u) p⟩
theorem c_fewest(p:f.rows.length<=6)(g:(f.rows.filter R.gr).length<=4)(k:Nb f.rows)(m:0<=f.r0)(l:6<=f.r1):∃(B:OD) (qs:Pz) (us:List Int),(∀n,pl.pg.call (n+7) 26 [Rl f.rows,Lo f,Re f]=some (B,[Rl f.rows,Lo f,Re f]))/\Bst f B qs us:=by
 obtain⟨qs,us,a,P,V⟩:=DY (by omega) (by omega) k m l;have r:=gIx_len (rs:=f.rows) (i:=0);have w:=λn=>rk (n:=n+1) (by omega) k (t:=(Pn qs us,qs,us)) (o4:=none) (o5:=none) (o6:=none) (λc g=>⟨(jm g).1,by rw[(jm g).1];omega,(jm g).2⟩) ⟨.inl rfl,P,V⟩;generalize (z6 f.rows.length (gIx 0 f.rows).length).foldl (fs f) (Pn qs us,qs,us)=t at w;refine⟨t.1,t.2.1,t.2.2,λn=>?_,(w 0).1⟩;obtain⟨h,o4,o5,o6,e⟩:=w n;have a:=a n;have d:=tq (n:=n+3) p (by omega);have o:(Kt (n+6)).call=pl.pg.call (n+6):=rfl;rw[<-o]at a d;have j:∃b,cJ (Kt (n+6)) (.ret (.nm 3)) (nG f t.1 o4 o5 o6)=some (.rt t.1,b)/\aT 0 F_fewest_plan.io [Rl f.rows,Lo f,Re f] b=some [Rl f.rows,Lo f,Re f]:=by
  rcases h.1 with e|e
  ·rw[e];exact⟨_,ah rfl rfl,rfl⟩
  ·rw[e];exact⟨_,ah rfl rfl,rfl⟩
 obtain⟨b,j,q⟩:=j;exact af rfl rfl (ab (ak (ae rfl rfl a rfl) rfl rfl rfl) (ab (cx (aR (ae rfl rfl d rfl) (by simp only[frz1,bV];rfl) rfl) e) (ax j))) q
theorem xy(h:pl.pg.call (n+7) 26 [Rl f.rows,Lo f,Re f]=some (B,[Rl f.rows,Lo f,Re f]))(a:Bst f B qs us):pl.pg.call (n+8) 27 [Rl f.rows,Lo f,Re f]=some (It qs.length,[Rl f.rows,Lo f,Re f]):=by
 have b:(Kt (n+7)).call=pl.pg.call (n+7):=rfl;rw[<-b]at h;refine af (ρ:=[Kk f.rows,Kl f,some (Re f)]) rfl rfl (ax (ah (e_blt (aa (aE (ae rfl rfl h rfl) rfl rfl (z:=Pq qs) ?_) ag) rfl blen) rfl)) rfl;rcases a.1 with rfl|rfl
 ·rfl
 ·exact item_t atI_zero
theorem lay_ints:∀ns:List Int,PyData.canLayAll0 (ns.map PyData.int)=true
 |[]=>rfl
 |_::r=>by simp[PyData.canLayAll0,PyData.canLay0,lay_ints r]
theorem fS:∀ns:List Int,PyData.depthAll (ns.map PyData.int)=0
 |[]=>rfl
 |_::r=>by simp[PyData.depthAll,PyData.depth,fS r]
theorem jn:∀rs:List R,PyData.canLayAll0 (rs.map R.d)=true
 |[]=>rfl
 |.st _ _::r=>by
  have:PyData.strOk (Str.ofString "set")=true:=by decide +kernel
  simp[PyData.canLayAll0,PyData.canLay0,R.d,jn r,this]
 |.ot _ _ h::r=>by simp[PyData.canLayAll0,PyData.canLay0,R.d,lay_ints,jn r,h.2]
theorem jo:∀rs:List R,PyData.depthAll (rs.map R.d)<=1
 |[]=>by simp[PyData.depthAll]
 |.st _ _::r=>by have:=jo r;simp[PyData.depthAll,PyData.depth,R.d,this]
 |.ot _ _ _::r=>by have:=jo r;simp[PyData.depthAll,PyData.depth,R.d,fS,this]
theorem nv(hs:lZ d d=none)(a:PyData.canLay0 d=true)(b:PyData.depth d<=10):jq .ne d d=some false:=by
 have h:SeqAt.shaped d=true:=by unfold SeqAt.shaped;rw[a,Bool.true_and];exact Dac (by omega)
 show (match lZ d d with|some k=>some k|none=>if SeqAt.shaped d&&SeqAt.shaped d then some (PyData.eqv d d) else none).bind _=_;rw[hs];show (if (SeqAt.shaped d&&SeqAt.shaped d)=true then some (PyData.eqv d d) else none).bind _=_;rw[h,Bool.and_self,if_pos rfl,eqv_refl _ a];rfl
abbrev Hd(rs:List R)(ls:List Int):PyData:=.tuple [.list (rs.map R.d),.list (ls.map PyData.int)]
def GQ:jq .ne (Hd rs ls) (Hd rs ls)=some false:=by have:=jo rs;exact nv rfl (by simp[PyData.canLay0,PyData.canLayAll0,jn,lay_ints]) (by simp[PyData.depth,PyData.depthAll,fS];omega)
def rl{xs:List Int}:jq .ne (.list (xs.map PyData.int)) (.list (xs.map PyData.int))=some false:=nv rfl (by simp[PyData.canLay0,lay_ints]) (by simp[PyData.depth,fS])
def ny(b:xs.Nodup)(c:ys.Nodup)(h:∀a,a∈xs ↔ a∈ys)(hs:ys.Pairwise (·<=·)):sortI xs=ys:=iK ((sortI_perm xs).trans ((List.perm_ext_iff_of_nodup b c).mpr h)) (cP xs) hs
abbrev D2(m:Nat):List Int:=PyProof.Rows.rangeInts 0 1 m
def Ac:a∈D2 m ↔ 0<=a/\a<m:=by
 unfold D2 PyProof.Rows.rangeInts;rw[aat];constructor
 ·rintro⟨i,b,rfl⟩;have:=abM.mp b;omega
 ·rintro⟨c,d⟩;exact⟨a.toNat,abM.mpr (by omega),by omega⟩
def xA(m:Nat):(D2 m).Pairwise (·<·):=by unfold D2 PyProof.Rows.rangeInts;refine acu.mpr (acr.imp λh=>?_);omega
theorem nz(P:Pf f qs us f.r0 f.r1)(V:Rw f qs us):sortI (us.foldl ddI [])=D2 qs.length:=by
 refine ny (eG aa1) ((xA _).imp Int.ne_of_lt) (λa=>?_) ((xA _).imp Int.le_of_lt);rw[hU,Ac];constructor
 ·rintro (h|h)
  ·exact absurd h aao
  ·exact P.uq a h
 ·rintro⟨i,g⟩;obtain⟨j,rfl⟩:∃j:Nat,a=j:=⟨a.toNat,by omega⟩
  have b:qs[j]?=some qs[j]:=aan (by omega);obtain⟨x,c⟩:∃x,x∈qs[j].2:=by
   have:=(P.ok qs[j] (acv _)).ne;cases h:qs[j].2 with
   |nil=>exact absurd h this
   |cons x _=>exact⟨x,aad⟩
  obtain⟨z,d,e,_⟩:=V j _ b x c;exact .inr (e▸(aa6 d).2)
def sm(gs:List R)(us:List Int)(j:Int):List Int:=((gs.zip us).filter λz=>decide (z.2=j)).map λz=>z.1.num
theorem lG:∀{gs:List R}{us:List Int}{out:List PyData}{o0 o1:Option OD},(∀r∈gs,r.gr=true)->∃c i,aM (aS C (.tp [0,1]) (.some edt) edx) (cB (gs.map R.d) (us.map PyData.int)) out [o0,o1,Kg j]=some (out++(sm gs us j).map PyData.int,[c,i,Kg j])
 |[],us,out,o0,o1,_=>⟨o0,o1,by show _=some (out++[],_);rw[aaq];rfl⟩
 |r::gs,[],out,o0,o1,_=>⟨o0,o1,by show _=some (out++[],_);rw[aaq];rfl⟩
 |r::gs,u::us,out,o0,o1,h=>by
  obtain⟨x,k,rfl⟩:=gr_st (h r aad);have l:∀r∈gs,r.gr=true:=λq m=>h q (aah _ m);have a:aY C edt [Kj (.st x k),Kg u,Kg j]=some (decide (u=j),[Kj (.st x k),Kg u,Kg j]):=rfl;by_cases e:u=j
  ·rw[Dac e]at a;obtain⟨g,f,b⟩:=lG l;refine⟨g,f,bs (sO rfl a (aE rfl rfl rfl (item_t (bp rfl))) rfl) (show aM _ (cB (gs.map R.d) (us.map PyData.int)) (out++[.int k]) _=_ from b.trans ?_)⟩;rw[aac];unfold sm;rw[abr,ab3 (p:=λz:R×Int=>decide (z.2=j)) (Dac e)];rfl
  ·rw[Dab e]at a;obtain⟨g,f,b⟩:=lG l;refine⟨g,f,bs (sP rfl a) (show aM _ (cB (gs.map R.d) (us.map PyData.int)) (out++[]) _=_ from ?_)⟩;rw[aaq,b];unfold sm;rw[abr,abK (by rw[Dab e];exact aak)]
theorem D3(p:us.length=(gIx 0 f.rows).length):x∈sm (f.rows.filter R.gr) us j ↔ ∃z∈(gIx 0 f.rows).zip us,z.2=j/\nu f z.1=x:=by
 have q:=gIx_len (rs:=f.rows) (i:=0);have l:∀{t:Nat}{r:R}{a:Int},(f.rows.filter R.gr)[t]?=some r->(gIx 0 f.rows)[t]?=some a->nu f a=r.num:=λ{t r a} b h=>by obtain⟨k,m,o⟩:=xr b;rw[h]at m;have m:=aaC m;rw[ab8]at m;subst m;unfold nu;rw[aaP,o];rfl
 unfold sm;rw[aat];constructor
 ·rintro⟨⟨r,u⟩,g,rfl⟩;obtain⟨g,e⟩:=abe.mp g;obtain⟨t,n⟩:=aaM.mp g;obtain⟨b,h⟩:=abk.mp n;have c:t<(gIx 0 f.rows).length:=by have:=(aai.mp b).1;omega
  have d:=aan c;exact⟨((gIx 0 f.rows)[t],u),aaM.mpr ⟨t,abk.mpr ⟨d,h⟩⟩,Daa e,l b d⟩
 ·rintro⟨⟨a,u⟩,g,rfl,rfl⟩;obtain⟨t,n⟩:=aaM.mp g;obtain⟨b,h⟩:=abk.mp n;have c:t<(f.rows.filter R.gr).length:=by have:=(aai.mp b).1;omega
  have d:=aan c;exact⟨((f.rows.filter R.gr)[t],u),abe.mpr ⟨aaM.mpr ⟨t,abk.mpr ⟨d,h⟩⟩,Dac rfl⟩,(l d b).symm⟩
theorem rm(P:Pf f qs us f.r0 f.r1)(V:Rw f qs us){j:Nat}(c:qs[j]?=some q):sortI q.2=sortI ((sm (f.rows.filter R.gr) us j).foldl ddI []):=by
 have m:((sm (f.rows.filter R.gr) us j).foldl ddI []).Nodup:=eG aa1;refine ny (P.ok q (aa0 c)).nd ((sortI_perm _).nodup_iff.mpr m) (λa=>?_) (cP _);rw[(sortI_perm _).mem_iff,hU,D3 P.ul];constructor
 ·exact λh=>.inr (V j q c a h)
 ·rintro (h|⟨z,l,e,rfl⟩)
  ·exact absurd h aao
  ·obtain⟨i,d,p,b,n,rfl,r,o,g,k,_⟩:=P.sv z l;have e:(d:Int)=(j:Int):=e;have:d=j:=by omega
   subst this;rw[c]at g;cases g;exact k
def oY(rs:List R):(Rs rs).dat=some (.list (rs.map R.d)):=by rw[Rs,<-jb];exact bV _
def rn(a:ev C e ρ=some (x,ρ1))(b:(c9 ρ1 x).bind seqOf=some ds):ev C (.bnw .list e) ρ=some (.val (.lst (ds.map OD.fz)),ρ1):=bs a (bs b rfl)
def t_isb(h:ev C a ρ=some (.val (.fz (.bool true)),ρ1)):aY C (.isb true true a) ρ=some (false,ρ1):=bs (bs h rfl) rfl
def Ad(a:ev C e ρ=some (x,ρ1))(b:ar ρ1 x=some (Tc ns))(c:ns.length<64):ev C (.bnw .sorted e) ρ=some (.val (Il (sortI ns)),ρ1):=bs a (bs b (bs rfl (bs (cU ns) (bg c rfl))))
def GR{m:Nat}(a:ev C e ρ=some (x,ρ1))(b:ar ρ1 x=some (.int m))(c:m<=1000):ev C (.lrg e) ρ=some (.val (Il (D2 m)),ρ1):=bs a (bs b (bs rfl (bg (by omega) (by rw[aaP]))))
abbrev kE(h:List (Option OD))(f:Cf)(x4:OD)(o6 o7 o8 o9 o10 o11 o12 o13:Option OD):DEnv:=h++[Kk f.rows,some x4,some (Re f),o6,o7,o8,o9,o10,o11,o12,o13]
abbrev kP(a0 a1 a2:Option OD)(f:Cf)(x6 x7:OD)(qs:Pz)(us:List Int)(o9 o10 o11 o12 o13:Option OD):DEnv:=kE [a0,a1,a2] f (Lo f) (some x6) (some x7) (Ks qs us) o9 o10 o11 o12 o13
abbrev AX:Ss:=match F_law.body with|.cons (.fr _ _ (.cons _ (.cons _ (.cons _ (.cons (.fr _ _ b) _))))) _=>b|_=>.nil
abbrev AY:Ss:=match AX with|.cons _ (.cons _ (.cons _ (.cons _ (.cons _ (.cons _ (.cons (.fr _ _ b) _))))))=>b|_=>.nil
section
variable{n:Nat}{a0 a1 a2:Option OD}{f:Cf}{qs:Pz}{us:List Int}{x6 x7 x9:OD}
theorem D4(P:Pf f qs us f.r0 f.r1)(V:Rw f qs us)(g:(f.rows.filter R.gr).length<60){j:Nat}{q:Int×List Int}(b:qs[j]?=some q)(h:x9=Rs (f.rows.filter R.gr)\/x9=Rl (f.rows.filter R.gr)){o13:Option OD}:aN (Kt n) AY (kP a0 a1 a2 f x6 x7 qs us (some x9) (Kg j) (Kg q.1) (some (.fz (Tc q.2))) o13)=some (.nx,kP a0 a1 a2 f x6 x7 qs us (Kk (f.rows.filter R.gr)) (Kg j) (Kg q.1) (some (.fz (Tc q.2))) (some (Il (sm (f.rows.filter R.gr) us j)))):=by
 obtain⟨o0,o1,e⟩:=lG (C:=Kt n) (j:=j) (gs:=f.rows.filter R.gr) (us:=us) (out:=[]) (o0:=none) (o1:=none) λr l=>(abe.mp l).2;have o:(sm (f.rows.filter R.gr) us j).length<60:=by unfold sm;rw[aaa];refine abR (abn _ _) ?_;rw[aa3];omega
 have i:jQ (Kt n) ecz (kP a0 a1 a2 f x6 x7 qs us (some x9) (Kg j) (Kg q.1) (some (.fz (Tc q.2))) o13)=some (cB ((f.rows.filter R.gr).map R.d) (us.map PyData.int),kP a0 a1 a2 f x6 x7 qs us (Kk (f.rows.filter R.gr)) (Kg j) (Kg q.1) (some (.fz (Tc q.2))) o13):=by
  rcases h with rfl|rfl
  ·exact dS (x:=.rf 9) (dx:=.list ((f.rows.filter R.gr).map R.d)) (dy:=.list (us.map PyData.int)) rfl (aE rfl rfl rfl (item_t (bp (k:=1) rfl))) (bo rfl (oY _) rfl) rfl rfl rfl
  ·exact dS (dx:=.list ((f.rows.filter R.gr).map R.d)) (dy:=.list (us.map PyData.int)) rfl (aE rfl rfl rfl (item_t (bp (k:=1) rfl))) rfl rfl rfl rfl
 have c:=P.ok q (aa0 b);have a:q.2.length<64:=by
  have m:q.2.length<=(sm (f.rows.filter R.gr) us j).length:=by rw[<-(sortI_perm q.2).length_eq,rm P V b,(sortI_perm _).length_eq];have:=eB (sm (f.rows.filter R.gr) us j) [];rw[aaJ]at this;omega
  omega
 refine ab (ak (ρ3:=kP a0 a1 a2 f x6 x7 qs us (Kk (f.rows.filter R.gr)) (Kg j) (Kg q.1) (some (.fz (Tc q.2))) (some (Il (sm (f.rows.filter R.gr) us j)))) (bG (ρ2:=kP a0 a1 a2 f x6 x7 qs us (Kk (f.rows.filter R.gr)) (Kg j) (Kg q.1) (some (.fz (Tc q.2))) o13) i ?_ rfl e rfl) (by rw[aaX,fN];rfl) rfl rfl) (ab (az (aG (aw (Ad rfl rfl a) (oX rfl (show (Il _).dat=_ from aA _) rfl (by omega)) (show (Il _).dat=_ from aA _) (show (Il _).dat=_ from aA _) ?_)) rfl) rfl)
 ·unfold cB;rw[abF,aaa];omega
 ·rw[rm P V b];exact rl
theorem xB(P:Pf f qs us f.r0 f.r1)(V:Rw f qs us)(a:(f.rows.filter R.gr).length<60):∀{ds:List PyData}{x9:OD}{o10 o11 o12 o13:Option OD},(∀d∈ds,∃(j:Nat) (q:Int×List Int),d=.tuple [.int j,Po q]/\qs[j]?=some q)->(x9=Rs (f.rows.filter R.gr)\/x9=Rl (f.rows.filter R.gr))->∃p e c b g,bD (λd i=>(be (.tn 10 [11,12]) (.fz d) i).bind λρ1=>aN (Kt n) AY ρ1) ds (kP a0 a1 a2 f x6 x7 qs us (some x9) o10 o11 o12 o13)=some (.nx,kP a0 a1 a2 f x6 x7 qs us p e c b g)
 |[],x9,o10,o11,o12,o13,_,_=>⟨_,_,_,_,_,rfl⟩
 |d::ds,x9,o10,o11,o12,o13,h,h9=>by obtain⟨j,q,rfl,s⟩:=h d aad;have v:=D4 (n:=n) (a0:=a0) (a1:=a1) (a2:=a2) (x6:=x6) (x7:=x7) (o13:=o13) P V a s h9;obtain⟨r,k,o,l,m,u⟩:=xB P V a (ds:=ds) (x9:=Rl (f.rows.filter R.gr)) (o10:=Kg j) (o11:=Kg q.1) (o12:=some (.fz (Tc q.2))) (o13:=some (Il (sm (f.rows.filter R.gr) us j))) (λd t=>h d (aah _ t)) (.inr rfl);exact⟨r,k,o,l,m,bs (x:=(Fl.nx,kP a0 a1 a2 f x6 x7 qs us (Kk (f.rows.filter R.gr)) (Kg j) (Kg q.1) (some (.fz (Tc q.2))) (some (Il (sm (f.rows.filter R.gr) us j))))) (bs (x:=kP a0 a1 a2 f x6 x7 qs us (some x9) (Kg j) (Kg q.1) (some (.fz (Tc q.2))) o13) rfl v) u⟩
end
abbrev G0(f:Cf):OD:=.tup [Rs f.rows,Il f.longs]
abbrev G1(f:Cf):OD:=.tup [Rl f.rows,Lo f]
def AZ{ρ a:DEnv}{j:Nat}{x y:OD}{d:PyData}{k:Int}(h:ρ[j]?.join=some x)(e:itemS x k=some (d,y))(b:ρ.set j (some y)=a):bC ρ (.rf j) k=some (.fz d,a):=by simp only[bC,h,e,b]
def D5{ρ a:DEnv}{j:Nat}{x y:OD}{d:PyData}(h:ρ[j]?.join=some (.tup [x,y]))(b:x.dat=some d)(c:ρ.set j (some (.tup [.fz d,y]))=a):bC ρ (.rf j) 0=some (.fz d,a):=AZ h (by show (match x.dat with|some d=>some (d,OD.tup [.fz d,y])|none=>none)=_;rw[b]) c
def D6{ρ a:DEnv}{j:Nat}{x y:OD}{d:PyData}(h:ρ[j]?.join=some (.tup [x,y]))(b:y.dat=some d)(c:ρ.set j (some (.tup [x,.fz d]))=a):bC ρ (.rf j) 1=some (.fz d,a):=AZ h (by show (match y.dat with|some d=>some (d,OD.tup [x,.fz d])|none=>none)=_;rw[b]) c
theorem fzL_of:∀ds:List PyData,se (ds.map OD.fz)=some ds
 |[]=>rfl
 |d::ds=>by simp only[aam,se,fzL_of ds]
theorem D7(hN:f.rows.length<=6)(H:(f.rows.filter R.gr).length<=4)(M:Nb f.rows)(N:0<=f.r0)(I:6<=f.r1):∃p6 F D v m p l o,aN (Kt (n+8)) AX (kE [a0,a1,a2] f (Il f.longs) o6 o7 o8 o9 o10 o11 o12 o13)=some (.nx,kE [a0,a1,a2] f (Lo f) p6 F D v m p l o):=by
 obtain⟨B,a,g,c,t⟩:=c_fewest hN H M N I;have r:=xy (c n) t;have c:=c (n+1);obtain⟨t,P,V⟩:=t;have h:=tm (n:=n+3) P (by omega);have s:=xn (n:=n+2) P (by omega);obtain⟨og,eg⟩:=comp_gr;have Z:(Kt (n+8)).call=pl.pg.call (n+8):=rfl;rw[<-Z]at c r h s;have Y:cJ (Kt (n+8)) eba (kE [a0,a1,a2] f (Il f.longs) o6 o7 o8 o9 o10 o11 o12 o13)=some (.nx,kE [a0,a1,a2] f (Il f.longs) (some (G0 f)) o7 o8 o9 o10 o11 o12 o13):=by
  have A:=rn (C:=Kt (n+8)) (e:=.nm 3) (ρ:=kE [a0,a1,a2] f (Il f.longs) o6 o7 o8 o9 o10 o11 o12 o13) rfl rfl;have y:=rn (C:=Kt (n+8)) (e:=.nm 4) (ρ:=kE [a0,a1,a2] f (Il f.longs) o6 o7 o8 o9 o10 o11 o12 o13) rfl (by
   have z:listOf (Il f.longs)=some (f.longs.map PyData.int):=by show se (f.longs.map It)=_;rw[<-fN];exact fzL_of _
   show seqOf (Il f.longs)=_;unfold seqOf;rw[z])
  rw[jb]at A;rw[fN]at y;exact ak (eM (aa A (aa y ag)) rfl rfl rfl) rfl rfl rfl
 have J:cJ (Kt (n+8)) ebf (kE [a0,a1,a2] f (Il f.longs) (some (G0 f)) o7 o8 o9 o10 o11 o12 o13)=some (.nx,kE [a0,a1,a2] f (Lo f) (some (G0 f)) (Kg a.length) o8 o9 o10 o11 o12 o13):=
  ak (ae rfl (show aX [false,false,false] _ _=_ from gC rfl (gC (bo rfl (aA _) rfl) (gC rfl rfl))) r rfl) rfl rfl rfl
 have s8:cJ (Kt (n+8)) eau (kE [a0,a1,a2] f (Lo f) (some (G0 f)) (Kg a.length) o8 o9 o10 o11 o12 o13)=some (.nx,kE [a0,a1,a2] f (Lo f) (some (G1 f)) (Kg a.length) (some B) o9 o10 o11 o12 o13):=by refine ak (ae (aa (aE rfl rfl rfl (D5 rfl (oY _) rfl)) (aa (aE rfl rfl rfl (D6 rfl (aA _) rfl)) (aa rfl ag))) rfl c rfl) rfl rfl rfl
 have U:aY (Kt (n+8)) ea5 (kE [a0,a1,a2] f (Lo f) (some (G1 f)) (Kg a.length) (some B) o9 o10 o11 o12 o13)=some (false,kP a0 a1 a2 f (G1 f) (It a.length) a g o9 o10 o11 o12 o13):=by
  refine aP (k:=true) (aL ?_);rcases t with rfl|rfl
  ·exact ae rfl (show aX [false,false,false,false] _ _=_ from gC rfl (gC rfl (gC rfl (gC (bo rfl (DZ _ _) rfl) rfl)))) h rfl
  ·exact ae rfl rfl h rfl
 obtain⟨b,j⟩:∃b,b=kP a0 a1 a2 f (G1 f) (It a.length) a g o9 o10 o11 o12 o13:=⟨_,rfl⟩
 have t2:aY (Kt (n+8)) eay b=some (false,b):=by rw[j];exact t_isb (ae (ρ3:=kP a0 a1 a2 f (G1 f) (It a.length) a g o9 o10 o11 o12 o13) rfl rfl s rfl)
 have hg:=gIx_len (rs:=f.rows) (i:=0);have Q:=P.ul;have a3:a.length<=60:=by have u:=congrArg List.length (nz P V);rw[(sortI_perm _).length_eq]at u;unfold D2 at u;rw[PyProof.Rows.rangeInts_length]at u;have:=eB g [];rw[aaJ]at this;omega
 have W:aY (Kt (n+8)) ebl b=some (false,b):=by rw[j];exact aG (aw (dx:=.int a.length) (dy:=.int a.length) (e_blt (ds:=[.list (a.map Po)]) (aa (aE rfl rfl rfl (item_t atI_zero)) ag) rfl blen) rfl rfl rfl (show some (!decide ((a.length:Int)=a.length))=_ by rw[Dac rfl];rfl))
 have S:aY (Kt (n+8)) ebx b=some (false,b):=by rw[j];exact aG (aw (oX (ns:=g) (aE rfl rfl rfl (item_t (bp (k:=1) rfl))) rfl rfl (by omega)) (GR rfl rfl (by omega)) (show (Il _).dat=_ from aA _) (show (Il _).dat=_ from aA _) (by rw[nz P V];exact rl))
 have t5:aY (Kt (n+8)) ebn b=some (false,b):=by rw[j];exact aG (aw (dx:=Hd f.rows f.longs) (dy:=Hd f.rows f.longs) rfl rfl rfl rfl GQ)
 have T:cJ (Kt (n+8)) ea1 b=some (.nx,kP a0 a1 a2 f (G1 f) (It a.length) a g (Ki (f.rows.filter R.gr)) o10 o11 o12 o13):=by rw[j];exact ak (z:=Rs (f.rows.filter R.gr)) (bG (ρ2:=kP a0 a1 a2 f (G1 f) (It a.length) a g o9 o10 o11 o12 o13) (aR (d:=.list (f.rows.map R.d)) rfl rfl rfl) (by rw[aaa];omega) rfl eg (by rw[bO])) (by rw[aaX,jb];rfl) rfl rfl
 obtain⟨v,m,p,l,o,ew⟩:=xB (n:=n+8) (a0:=a0) (a1:=a1) (a2:=a2) (x6:=G1 f) (x7:=It a.length) P V (by omega) (ds:=bX (a.map Po)) (x9:=Rs (f.rows.filter R.gr)) (o10:=o10) (o11:=o11) (o12:=o12) (o13:=o13) (λd X=>by
  obtain⟨k,L⟩:=abz X;obtain⟨e,w,rfl⟩:=fZ L;rw[aas]at w;obtain⟨q,O,rfl⟩:=aaF.mp w;exact⟨k,q,rfl,O⟩) (.inl rfl)
 refine⟨_,_,_,_,_,_,_,_,ab Y (ab J (ab s8 (ab (az (aV U (by rw[<-j];exact t2)) rfl) (ab (az (aV W (aV S t5)) rfl) (ab T (ab (cx (k6 (x:=.val (Pq a)) (ds:=a.map Po) (aE rfl rfl rfl (item_t atI_zero)) rfl) ew) rfl))))))⟩
abbrev A6:Ss:=match F_law.body with|.cons (.fr _ _ b) _=>b|_=>.nil
theorem D8{ns:List Int}{i:Nat}(hi:i<=8):∃S Q p4 W B p q s d h e g,aN (Kt 8) A6 [some (.fz (.list (ns.map PyData.int))),Kg i,o2,o3,o4,o5,o6,o7,o8,o9,o10,o11,o12,o13]=some (.nx,[some (.fz (.list (ns.map PyData.int))),Kg i,S,Q,p4,W,B,p,q,s,d,h,e,g]):=by
 obtain⟨c,j⟩:∃c:OD,c=.fz (.list (ns.map PyData.int)):=⟨_,rfl⟩
 rw[<-j];obtain⟨a,b,w,t⟩:=DF hi;obtain⟨rs,k,n,l,D,M,r,T⟩:=GF t (aaI _);obtain⟨m,z,x,u,y,Z⟩:=zI (a:=k) (rs:=rs) (by omega) T (by omega);obtain⟨A,C,N,H,Y,o,L,F⟩:=wL Z (by omega);obtain⟨B,p,q,s,d,h,e,g,I⟩:=D7 (f:=⟨rs,m,A,C⟩) M r.1 r.2 L F;have X:(Kt 8).call=pl.pg.call 8:=rfl;rw[<-X]at w D y o;have s2:cJ (Kt 8) ebv [some c,Kg i,o2,o3,o4,o5,o6,o7,o8,o9,o10,o11,o12,o13]=some (.nx,[some c,Kg i,Kh a b 0,o3,o4,o5,o6,o7,o8,o9,o10,o11,o12,o13]):=by rw[j];exact ak (ae rfl rfl w rfl) rfl rfl rfl
 have P:cJ (Kt 8) ect [some c,Kg i,Kh a b 0,o3,o4,o5,o6,o7,o8,o9,o10,o11,o12,o13]=some (.nx,[some c,Kg i,Kh k n l,Ki rs,o4,o5,o6,o7,o8,o9,o10,o11,o12,o13]):=
  ak (ae rfl rfl D rfl) rfl rfl rfl
 have U:cJ (Kt 8) ebw [some c,Kg i,Kh k n l,Ki rs,o4,o5,o6,o7,o8,o9,o10,o11,o12,o13]=some (.nx,[some c,Kg i,Kh z x u,Kk rs,some (Il m),o5,o6,o7,o8,o9,o10,o11,o12,o13]):=by refine ak (ae (ρ2:=[some c,Kg i,none,Kk rs,o4,o5,o6,o7,o8,o9,o10,o11,o12,o13]) rfl ?_ y rfl) rfl rfl rfl;have v:aX [false] [some c,Kg i,none,Ki rs,o4,o5,o6,o7,o8,o9,o10,o11,o12,o13] [.rf 3]=some ([Rl rs],[some c,Kg i,none,Kk rs,o4,o5,o6,o7,o8,o9,o10,o11,o12,o13]):=gC (bo rfl (oY _) rfl) rfl;have O:mv1 [some c,Kg i,Kh k n l,Ki rs,o4,o5,o6,o7,o8,o9,o10,o11,o12,o13] (.rf 2)=some (Tp k n l,[some c,Kg i,none,Ki rs,o4,o5,o6,o7,o8,o9,o10,o11,o12,o13]):=rfl;show aX [true,false] _ [.rf 2,.rf 3]=_;simp only[aX,O]at v ⊢;simp only[v]
 have J:jQ (Kt 8) ebu [some c,Kg i,Kh z x u,Kk rs,some (Il m),o5,o6,o7,o8,o9,o10,o11,o12,o13]=some ([.tuple [.int A,.int C]],[some c,Kg i,Kh N H Y,Kk rs,some (Il m),o5,o6,o7,o8,o9,o10,o11,o12,o13]):=
  aR (eM (aa (ae rfl rfl o rfl) ag) rfl rfl rfl) rfl rfl
 exact⟨_,_,_,_,_,_,_,_,_,_,_,_,ab s2 (ab P (ab U (ab (cx J (bs (bs rfl I) rfl)) rfl)))⟩
theorem pure(ns:List Int)(D:ns.length<=63):∃ys,pl.pg.call 9 Gz [.fz (.list (ns.map PyData.int))]=some (.fz (.bool true),ys):=by
 have n:∀(m i:Nat) (o C B y x z w A v b f c g:Option OD),i+m<=9->∃a,bD (λd a=>(be (.nm 1) (.fz d) a).bind λs=>aN (Kt 8) A6 s) (cA i m) [some (.fz (.list (ns.map PyData.int))),o,C,B,y,x,z,w,A,v,b,f,c,g]=some (.nx,a)/\a[0]?.join=some (.fz (.list (ns.map PyData.int))):=by
  intro m;induction m with
  |zero=>intro i o C B y x z w A v b f c g _;exact⟨_,rfl,rfl⟩
  |succ m I=>intro i o C B y x z w A v b f c g h;obtain⟨M,L,T,O,Q,H,F,J,q,u,r,t,S⟩:=D8 (i:=i) (by omega);obtain⟨p,N,P⟩:=I (i+1) (Kg i) M L T O Q H F J q u r t (by omega);refine⟨p,?_,P⟩;rw[bz];exact bs (bs rfl S) N
 obtain⟨j,k⟩:∃j:Int,j=if (ns.length:Int)<2 then (ns.length:Int) else 2:=⟨_,rfl⟩
 have U:0<=j/\j<=2:=by rw[k];split<;>omega
 obtain⟨a,e,_⟩:=n (1+j).toNat 0 none none none none none none none none none none none none none (by omega);have l:ev (Kt 8) ebc [some (.fz (.list (ns.map PyData.int))),none,none,none,none,none,none,none,none,none,none,none,none,none]=some (.val (It j),[some (.fz (.list (ns.map PyData.int))),none,none,none,none,none,none,none,none,none,none,none,none,none]):=e_blt (aa rfl (aa (e_blt rfl rfl blen) ag)) rfl (by rw[k];rfl);exact⟨_,af rfl rfl (ab (cx (eX (ai rfl l rfl rfl rfl) rfl (by omega)) e) (ax rfl)) rfl⟩
set_option maxHeartbeats 0
def lm:Str:="law_nearpool_k24_plans_of_fewest_pools"
open PySem.W in
def vi(n:Int):Value:=.int n 0
def vr(a:Addr):Value:=.ref a
def vs(x:Str)(t:Nat):Value:=.str x t
def nt(P:Params)(k:Str)(t:Nat)(v:Value):DictEntry:=⟨PyData.keyHash P k,.str k t,v⟩
def fo(d:Df)(m:Str)(t c:Nat):Obj:=⟨.type "function",none,.func (PySem.W.fnOf d.name d.qual (ei d.st) (bY d.st) (aI d.st) .none .none .none (.str m t) none (.ref c) .none),List.toArray []⟩
def cq(vs:List Value):Obj:=⟨.type "code",none,.fields (List.toArray vs),List.toArray []⟩
def cu(n q:Str)(t l a r T:Nat):Obj:=cq [vs n t,vs q (t+1),vs Ka (t+2),vi l,vi a,vi 0,vi 0,vi 3,vr r,.bool true,vi 181,vr (r+1),.none,vr (r+2),vr (r+3),vr (r+4),vi T,vi l,vs Ka (T+1)]
def cw(n q:Str)(t l a r T:Nat):Obj:=cq [vs n t,vs q (t+1),vs Ka (t+2),vi l,vi a,vi 0,vi 0,vi 3,vr r,.bool true,vi 181,vr (r+1),.none,.none,.none,vr (r+2),vi T,vi l,vs Ka (T+1)]
noncomputable def KK(P:Params):Waa:=[(3,⟨(.type "dict"),none,(.dict (List.toArray [nt P "__name__" 165 (vs lm 469),nt P "__doc__" 166 .none,nt P "__package__" 167 .none,nt P "__loader__" 168 (.builtin "__main__.__loader__#opaque"),nt P "__spec__" 169 .none,nt P "__annotations__" 170 (vr 6),nt P "__builtins__" 171 (vr 4),nt P "__file__" 173 (vs Ka 172),nt P "__cached__" 174 .none,nt P "NUMBERS" 190 (.int (100000000) 189),nt P "GREATEST_SMALL" 192 (.int (99) 191),nt P na 200 (vr 21),nt P np 207 (vr 28),nt P oD 213 (vr 33),nt P pc 220 (vr 40),nt P "MOST_WORDS" 222 (.int (100) 221),nt P "OVER_CELLS" 226 (.int (2) 225),nt P "WORD_CELLS" 228 (.int (2) 227),nt P pi 237 (vr 47),nt P pp 245 (vr 54),nt P pr 254 (vr 61),nt P rc 260 (vr 66),nt P re 267 (vr 73),nt P sn 274 (vr 80),nt P sw 280 (vr 85),nt P sK 286 (vr 90),nt P ut 297 (vr 97),nt P wp 313 (vr 104),nt P wv 319 (vr 109),nt P ac 421 (vr 173),nt P wE 432 (vr 184),nt P wP 440 (vr 189),nt P wS 446 (vr 194),nt P wT 459 (vr 201),nt P xz 468 (vr 208),nt P xL 478 (vr 215),nt P zn 487 (vr 222),nt P At 497 (vr 229),nt P AT 506 (vr 236),nt P "_law_rows" 523 (vr 243),nt P BT 529 (vr 248),nt P Ch 536 (vr 255),nt P Db 545 (vr 262),nt P Ev 560 (vr 269),nt P EQ 566 (vr 274),nt P Fa 573 (vr 281),nt P Go 579 (vr 286),nt P IN 585 (vr 291),nt P JZ 594 (vr 298),nt P kt 600 (vr 303)]) 50),List.toArray []⟩),
 (20,cu na na 193 4 2 15 198),
 (21,fo cG lc 187 20),
 (27,cu np np 201 8 1 22 205),
 (28,fo i7 lc 187 27),
 (32,cw oD oD 208 10 1 29 211),
 (33,fo gP lc 187 32),
 (39,cu pc pc 214 12 1 34 218),
 (40,fo qA lc 187 39),
 (46,cu pi pi 229 18 3 41 235),
 (47,fo jZ bd 223 46),
 (53,cu pp pp 238 20 2 48 243),
 (54,fo i8 bd 223 53),
 (60,cu pr pr 246 22 3 55 252),
 (61,fo fE bd 223 60),
 (65,cw rc rc 255 26 3 62 258),
 (66,fo mW bd 223 65),
 (72,cu re re 261 39 1 67 265),
 (73,fo j3 bd 223 72),
 (79,cu sn sn 268 41 1 74 272),
 (80,fo gQ bd 223 79),
 (84,cw sw sw 275 43 2 81 278),
 (85,fo j4 bd 223 84),
 (89,cw sK sK 281 52 2 86 284),
 (90,fo i9 bd 223 89),
 (96,cu ut ut 287 56 3 91 295),
 (97,fo j5 bd 223 96),
 (103,cu wp wp 298 59 5 98 311),
 (104,fo fF bd 223 103),
 (108,cw wv wv 314 65 4 105 317),
 (109,fo j6 bd 223 108),
 (122,cu Kb "Going.__init__" 334 77 4 117 341),
 (123,fo cS bn 320 122),
 (129,cu "is_due" "Going.is_due" 344 88 2 124 352),
 (130,fo dU bn 320 129),
 (136,cu "lay" "Going.lay" 355 97 2 131 363),
 (137,fo gR bn 320 136),
 (143,cu "finds" "Going.finds" 366 109 2 138 371),
 (144,fo eN bn 320 143),
 (150,cu "may_put" "Going.may_put" 374 114 2 145 379),
 (151,fo dq bn 320 150),
 (157,cu "come" "Going.come" 382 119 2 152 388),
 (158,fo fG bn 320 157),
 (164,cu "cross" "Going.cross" 391 129 2 159 396),
 (165,fo eO bn 320 164),
 (169,cw "plan" "Going.plan" 399 137 1 166 402),
 (170,fo fH bn 320 169),
 (172,⟨(.type "dict"),none,(.dict (List.toArray [nt P "__module__" 329 (vs bn 320),nt P "__firstlineno__" 333 (.int (75) 332),nt P Kb 343 (vr 123),nt P "is_due" 354 (vr 130),nt P "lay" 365 (vr 137),nt P "finds" 373 (vr 144),nt P "may_put" 381 (vr 151),nt P "come" 390 (vr 158),nt P "cross" 398 (vr 165),nt P "plan" 404 (vr 170),nt P "__static_attributes__" 414 (vr 171),nt P "__dict__" 416 (vr 174),nt P "__weakref__" 418 (vr 175),nt P "__doc__" 419 .none]) 4),List.toArray []⟩),
 (173,⟨(.type "type"),none,(.cls ⟨ac,[(.type "object")],[(vr 173),(.type "object")],172,ac,true,[],[],false,none,false⟩),List.toArray [none,none,(some (vs ac 322)),(some (vs ac 330)),(some (.builtin "object.__new__")),(some (.bool true))]⟩),
 (183,cu wE wE 422 140 3 178 430),
 (184,fo gS bn 320 183),
 (188,cw wP wP 435 146 1 185 438),
 (189,fo fI lf 433 188),
 (193,cw wS wS 441 151 2 190 444),
 (194,fo j7 lf 433 193),
 (200,cu wT wT 447 158 3 195 457),
 (201,fo eP lf 433 200),
 (207,cu xz xz 460 166 3 202 466),
 (208,fo dW lf 433 207),
 (214,cu xL xL 471 169 2 209 476),
 (215,fo j8 lm 469 214),
 (221,cu zn zn 479 171 2 216 485),
 (222,fo wD lm 469 221),
 (228,cu At At 488 174 2 223 495),
 (229,fo wG lm 469 228),
 (235,cu AT AT 498 183 1 230 504),
 (236,fo qB lm 469 235),
 (247,cw BT BT 524 203 2 244 527),
 (248,fo qC lm 469 247),
 (254,cu Ch Ch 530 207 1 249 534),
 (255,fo fJ lm 469 254),
 (261,cu Db Db 537 209 3 256 543),
 (262,fo wH lm 469 261),
 (268,cu Ev Ev 546 211 3 263 558),
 (269,fo ja lm 469 268),
 (273,cw EQ EQ 561 224 1 270 564),
 (274,fo AJ lm 469 273),
 (280,cu Fa Fa 567 236 1 275 571),
 (281,fo gT lm 469 280),
 (285,cw Go Go 574 238 4 282 577),
 (286,fo gU lm 469 285),
 (290,cw IN IN 580 242 4 287 583),
 (291,fo gV lm 469 290),
 (297,cu JZ JZ 586 262 3 292 592),
 (298,fo j9 lm 469 297),
 (302,cw kt kt 595 264 1 299 598),
 (303,fo D_law lm 469 302)]
def qv:Program:=PySem.W.view PySem.Challenge.pw_nearpool_k24_plans_of_fewest_pools [1,2,3,4,5,6,7,9,10,11,12,13,14,15,16,17,18,19,20,21,23,24,26,27,28,29,31,32,33,34,35,36,37,38,39,40,41,42,43,44,45]
open PySem.W PyProof.Rows in
theorem Ae{p q:Program}{loose:List Str}{Xt:Shared->Bool}{b:Type}{Yf:Shared->b}{Ya:World->b}{N:Nat}{c:Bool}(e:opening p=plainProg p.main.scope.names)(l:Nat.ble 600 N=true)(f:∀s,fenceModules? p s=some s)
  (h:∀(w:World) (a:OsState),(topFrom treeTable p w N ⟨boot_heap w.params,Array.mk [],boot_drawn,boot_toks,a⟩).map (λs=>(openSeen q loose (importedModules p.main.body) Xt c s,Yf s))=some (openGood q loose,Ya w)):LeftO p q loose Xt Yf Ya N c:=λw=>by
 obtain⟨⟨g,i,d,k,a⟩,m,j⟩:=aaF.mp (boot_open e l f w);obtain⟨rfl,rfl,rfl,rfl⟩:g=boot_heap w.params/\i=Array.mk []/\d=boot_drawn/\k=boot_toks:=by simpa using j
 unfold openEnds;rw[m];exact h w a
noncomputable def hk:PySem.W.Hook:=PySem.W.kHook KK [3,20,21,27,28,32,33,39,40,46,47,53,54,60,61,65,66,72,73,79,80,84,85,89,90,96,97,103,104,108,109,122,123,129,130,136,137,143,144,150,151,157,158,164,165,169,170,172,173,183,184,188,189,193,194,200,201,207,208,214,215,221,222,228,229,235,236,247,248,254,255,261,262,268,269,273,274,280,281,285,286,290,291,297,298,302,303] (λ_=>by kernel_rfl)
abbrev xt(s:Shared):Bool:=PySem.W.xlAt qv [] s&&PySem.W.recOk (PySem.W.RowW.records (PySem.Challenge.rw_nearpool_k24_plans_of_fewest_pools).row.toRowW) s
def left:PySem.W.LeftO PySem.Challenge.pw_nearpool_k24_plans_of_fewest_pools qv [] xt (PySem.W.Hook.obs hk) (PySem.W.Hook.val hk) 3304:=Ae (by kernel_rfl) (by rfl) (λs=>by kernel_rfl) (λw a=>by kernel_rfl)
def dd:DefRec:=⟨kt,ei D_law.st,bY D_law.st,aI D_law.st,match D_law.st with|.FunctionDef _ _ _ _ _ _ _ _ _ p=>p|_=>⟨0,0,0,0⟩⟩
def said:(PySem.Challenge.rw_nearpool_k24_plans_of_fewest_pools).wellSaid=true:=by kernel_rfl
def xC(K:Waa):L2.Sp:=λd H Q _=>∃(a:Addr) (b:List Int),d=[.ref a]/\SqL K H a (b.map V.int)/\b.length<=63/\∀c,Q (.bl true) c
def Ha:Option (Option Value)->Bool
 |some none=>true
 |_=>false
def Ef(f:Nat):Option (Option Value)->Bool
 |some (some (.ref g))=>g==f
 |_=>false
def Ja:Option (Option Value)->Bool
 |some (some (.builtin s))=>decide (s="object.__setattr__")
 |_=>false
def xD{o:Option (Option Value)}(h:Ha o=true):o=some none:=by
 unfold Ha at h;split at h
 ·rfl
 ·cases h
def lH{f:Nat}{o:Option (Option Value)}(h:Ef f o=true):o=some (some (.ref f)):=by
 unfold Ef at h;split at h
 ·rw[beq_iff_eq.mp h]
 ·cases h
def D9{o:Option (Option Value)}(h:Ja o=true):o=some (some (.builtin "object.__setattr__")):=by
 unfold Ja at h;split at h
 ·rw[Daa h]
 ·cases h
open PySem.W in
def Jb(K:Frag)(C:Addr):Bool:=plainGet K C Str.empty&&(hasDictIn K C&&(plainOver K C&&Ja (findIn K (.ref C) "__setattr__")))
def xE{K:Waa}{C:Addr}(h:Jb K C=true):Cls K C:=by obtain⟨a,h⟩:=an2 h;obtain⟨c,h⟩:=an2 h;obtain⟨b,h⟩:=an2 h;exact⟨a,c,b,D9 h⟩
open PySem.W in
noncomputable def JY(K:Frag)(d:Df)(f c:Nat):Kd->Bool
 |.fn=>codeIn K (.ref c) d.qual&&(keepIn K (.ref f)&&Ef f (nsIn K mainGlobals d.name))
 |.me x=>codeIn K (.ref c) d.qual&&(keepIn K (.ref f)&&(Jb K (aq K x)&&(Ef f (findIn K (.ref (aq K x)) d.name)&&isFn K (.ref f))))
 |.ini x=>codeIn K (.ref c) d.qual&&(keepIn K (.ref f)&&(makesIn K (aq K x)&&(Ef f (findIn K (.ref (aq K x)) Kb)&&(isFn K (.ref f)&&(keepIn K (.ref (aq K x))&&Ef (aq K x) (nsIn K mainGlobals x))))))
theorem fk{K:Waa}{h:Heap}{n:Str->Option Value}(X:K.In h)(G:h.Ns mainGlobals n){d:Df}{i:Kd}(m:Str)(t c f:Nat)(l:K.lookup f=some (fo d m t c))(q:JY K d f c i=true)
  (b:∀us:List Value,us.length=d.ps.length->bindArgs (PySem.W.fnOf d.name d.qual (ei d.st) (bY d.st) (aI d.st) .none .none .none (.str m t) none (.ref c) .none) ⟨us,[]⟩=Pure.pure (d.ps.zip us)):AG K n (d,i):=by
 cases i with
 |fn=>obtain⟨g,q⟩:=an2 q;obtain⟨a,e⟩:=an2 q;exact⟨f,_,kn l g a,.all b,acb X G (lH e),a⟩
 |me x=>obtain⟨g,q⟩:=an2 q;obtain⟨a,q⟩:=an2 q;obtain⟨e,q⟩:=an2 q;obtain⟨k,j⟩:=an2 q;exact⟨f,_,kn l g a,.all b,xE e,lH k,j,a⟩
 |ini x=>obtain⟨g,q⟩:=an2 q;obtain⟨a,q⟩:=an2 q;obtain⟨e,q⟩:=an2 q;obtain⟨k,q⟩:=an2 q;obtain⟨j,q⟩:=an2 q;obtain⟨o,p⟩:=an2 q;exact⟨f,_,kn l g a,.all b,⟨e,lH k,j,o⟩,acb X G (lH p)⟩
def fm{a:Type}{P:a->Prop}{x:a}{l:List a}(h:P x)(k:∀y∈l,P y):∀y∈x::l,P y:=List.forall_mem_cons.mpr ⟨h,k⟩
def fC{K:Waa}{h:Heap}{a:Str->Option Value}(X:K.In h)(G:h.Ns mainGlobals a){x:Str}{k:Int}(t:Nat)(e:PySem.W.nsIn K mainGlobals x=some (some (.int k t))):∃v u,a x=some u/\RelV v u/\∀S H,Fz K S H v (.int k):=⟨.int k,_,acb X G e,⟨_,rfl⟩,λ_ _=>.int _⟩
def b1{a:Type}{P:List a->Prop}(h:∀a0,P [a0])(l:List a)(e:l.length=1):P l:=by
 match l,e with
 |[a0],_=>exact h a0
def b2{a:Type}{P:List a->Prop}(h:∀a0 a1,P [a0,a1])(l:List a)(e:l.length=2):P l:=by
 match l,e with
 |[a0,a1],_=>exact h a0 a1
def b3{a:Type}{P:List a->Prop}(h:∀a0 a1 a2,P [a0,a1,a2])(l:List a)(e:l.length=3):P l:=by
 match l,e with
 |[a0,a1,a2],_=>exact h a0 a1 a2
def b4{b:Type}{P:List b->Prop}(h:∀a0 a1 a2 a,P [a0,a1,a2,a])(l:List b)(e:l.length=4):P l:=by
 match l,e with
 |[a0,a1,a2,a],_=>exact h a0 a1 a2 a
def b5{c:Type}{P:List c->Prop}(h:∀a0 a1 a2 a b,P [a0,a1,a2,a,b])(l:List c)(e:l.length=5):P l:=by
 match l,e with
 |[a0,a1,a2,a,b],_=>exact h a0 a1 a2 a b
theorem gives{w:World}{b:Str->Option Value}{f:Addr}{h:Heap} (X:(KK w.params).In h) (G:h.Ns mainGlobals b) (c:b kt=some (.ref f)):
  ∃g:FuncData,(∀(s:Shared) (v:Value),BindsTo s g ⟨[v],[]⟩ [(dV,v)])/\∀a:Heap,(KK w.params).In a->a.Ns mainGlobals b->FnOk (PySem.Challenge.rw_nearpool_k24_plans_of_fewest_pools).prog w (KK w.params) b a CX0 10 f g [dV] (xC (KK w.params)):=by
 have M:Md (KK w.params) b pl.tb pl.pg pl.D:=Pl.md GA (fm (fk X G lc 187 20 21 (by kernel_rfl) (by kernel_rfl) (b2 λ_ _=>rfl))
  (fm (fk X G lc 187 27 28 (by kernel_rfl) (by kernel_rfl) (b1 λ_=>rfl))
  (fm (fk X G lc 187 32 33 (by kernel_rfl) (by kernel_rfl) (b1 λ_=>rfl))
  (fm (fk X G lc 187 39 40 (by kernel_rfl) (by kernel_rfl) (b1 λ_=>rfl))
  (fm (fk X G bd 223 46 47 (by kernel_rfl) (by kernel_rfl) (b3 λ_ _ _=>rfl))
  (fm (fk X G bd 223 53 54 (by kernel_rfl) (by kernel_rfl) (b2 λ_ _=>rfl))
  (fm (fk X G bd 223 60 61 (by kernel_rfl) (by kernel_rfl) (b3 λ_ _ _=>rfl))
  (fm (fk X G bd 223 65 66 (by kernel_rfl) (by kernel_rfl) (b3 λ_ _ _=>rfl))
  (fm (fk X G bd 223 72 73 (by kernel_rfl) (by kernel_rfl) (b1 λ_=>rfl))
  (fm (fk X G bd 223 79 80 (by kernel_rfl) (by kernel_rfl) (b1 λ_=>rfl))
  (fm (fk X G bd 223 84 85 (by kernel_rfl) (by kernel_rfl) (b2 λ_ _=>rfl))
  (fm (fk X G bd 223 89 90 (by kernel_rfl) (by kernel_rfl) (b2 λ_ _=>rfl))
  (fm (fk X G bd 223 96 97 (by kernel_rfl) (by kernel_rfl) (b3 λ_ _ _=>rfl))
  (fm (fk X G bd 223 103 104 (by kernel_rfl) (by kernel_rfl) (b5 λ_ _ _ _ _=>rfl))
  (fm (fk X G bd 223 108 109 (by kernel_rfl) (by kernel_rfl) (b4 λ_ _ _ _=>rfl))
  (fm (fk X G bn 320 122 123 (by kernel_rfl) (by kernel_rfl) (b4 λ_ _ _ _=>rfl))
  (fm (fk X G bn 320 129 130 (by kernel_rfl) (by kernel_rfl) (b2 λ_ _=>rfl))
  (fm (fk X G bn 320 136 137 (by kernel_rfl) (by kernel_rfl) (b2 λ_ _=>rfl))
  (fm (fk X G bn 320 143 144 (by kernel_rfl) (by kernel_rfl) (b2 λ_ _=>rfl))
  (fm (fk X G bn 320 150 151 (by kernel_rfl) (by kernel_rfl) (b2 λ_ _=>rfl))
  (fm (fk X G bn 320 157 158 (by kernel_rfl) (by kernel_rfl) (b2 λ_ _=>rfl))
  (fm (fk X G bn 320 164 165 (by kernel_rfl) (by kernel_rfl) (b2 λ_ _=>rfl))
  (fm (fk X G bn 320 169 170 (by kernel_rfl) (by kernel_rfl) (b1 λ_=>rfl))
  (fm (fk X G bn 320 183 184 (by kernel_rfl) (by kernel_rfl) (b3 λ_ _ _=>rfl))
  (fm (fk X G lf 433 188 189 (by kernel_rfl) (by kernel_rfl) (b1 λ_=>rfl))
  (fm (fk X G lf 433 193 194 (by kernel_rfl) (by kernel_rfl) (b2 λ_ _=>rfl))
  (fm (fk X G lf 433 200 201 (by kernel_rfl) (by kernel_rfl) (b3 λ_ _ _=>rfl))
  (fm (fk X G lf 433 207 208 (by kernel_rfl) (by kernel_rfl) (b3 λ_ _ _=>rfl))
  (fm (fk X G lm 469 214 215 (by kernel_rfl) (by kernel_rfl) (b2 λ_ _=>rfl))
  (fm (fk X G lm 469 221 222 (by kernel_rfl) (by kernel_rfl) (b2 λ_ _=>rfl))
  (fm (fk X G lm 469 228 229 (by kernel_rfl) (by kernel_rfl) (b2 λ_ _=>rfl))
  (fm (fk X G lm 469 235 236 (by kernel_rfl) (by kernel_rfl) (b1 λ_=>rfl))
  (fm (fk X G lm 469 247 248 (by kernel_rfl) (by kernel_rfl) (b2 λ_ _=>rfl))
  (fm (fk X G lm 469 254 255 (by kernel_rfl) (by kernel_rfl) (b1 λ_=>rfl))
  (fm (fk X G lm 469 261 262 (by kernel_rfl) (by kernel_rfl) (b3 λ_ _ _=>rfl))
  (fm (fk X G lm 469 268 269 (by kernel_rfl) (by kernel_rfl) (b3 λ_ _ _=>rfl))
  (fm (fk X G lm 469 273 274 (by kernel_rfl) (by kernel_rfl) (b1 λ_=>rfl))
  (fm (fk X G lm 469 280 281 (by kernel_rfl) (by kernel_rfl) (b1 λ_=>rfl))
  (fm (fk X G lm 469 285 286 (by kernel_rfl) (by kernel_rfl) (b4 λ_ _ _ _=>rfl))
  (fm (fk X G lm 469 290 291 (by kernel_rfl) (by kernel_rfl) (b4 λ_ _ _ _=>rfl))
  (fm (fk X G lm 469 297 298 (by kernel_rfl) (by kernel_rfl) (b3 λ_ _ _=>rfl))
  (fm (fk X G lm 469 302 303 (by kernel_rfl) (by kernel_rfl) (b1 λ_=>rfl))
  (λ_ h=>by cases h))))))))))))))))))))))))))))))))))))))))))) (fm (fC X G 191 (by kernel_rfl))
  (fm (fC X G 221 (by kernel_rfl))
  (fm (fC X G 189 (by kernel_rfl))
  (fm (fC X G 225 (by kernel_rfl))
  (fm (fC X G 227 (by kernel_rfl))
  (λ_ h=>by cases h))))))
  (λx i=>PySem.W.mg_none_of X G (xD (abm.mp (by kernel_rfl:(pl.nog.all λx=>Ha (PySem.W.nsIn (KK w.params) mainGlobals x))=true) x i)))
  (λz k=>have q:=an2 (abm.mp (by kernel_rfl:(pl.fld.all λz=>Jb (KK w.params) (aq (KK w.params) z.1)&&Ha (PySem.W.findIn (KK w.params) (.ref (aq (KK w.params) z.1)) z.2))=true) z k);⟨xE q.1,xD q.2⟩)
 have e:=c.symm.trans (acb X G (by kernel_rfl:PySem.W.nsIn (KK w.params) mainGlobals kt=some (some (.ref 303))));cases e;have F:Fun (KK w.params) D_law.name D_law.qual D_law.st 303 _:=kn (by kernel_rfl:(KK w.params).lookup 303=some (fo D_law lm 469 302)) (by kernel_rfl) (by kernel_rfl);exact⟨_,λs v=>.of_eq rfl,λa _ _=>M.law (n:=9) (j:=Gz) (d:=D_law) rfl F pure⟩
theorem walk{l:PySem.W.OpenLaw}{q:Program}{loose:List Str}{XP:(Str->Option Value)->Heap->Prop}{YP:World->Heap->Prop}{d:DefRec}{K:Params->Waa}(o:l.most=some 63)(e:d.params.defaults=[])
  (m:∀(w:World) (h:Heap),YP w h->(K w.params).In h)
  (F:∀(w:World) (c:Str->Option Value) (g:Addr) (h:Heap),(K w.params).In h->h.Ns mainGlobals c->c d.name=some (.ref g) ->
   ∃i:FuncData,(∀(s:Shared) (u:Value),BindsTo s i ⟨[u],[]⟩ [(dV,u)])/\∀b:Heap,(K w.params).In b->b.Ns mainGlobals c->FnOk l.prog w (K w.params) c b CX0 10 g i [dV] (xC (K w.params))):
  PySem.W.WalkO q loose XP YP l.row.toRowW d [] (λf vs=>PySem.call f vs):=
 L2.walk_of (n:=63) (k:=10) (x:=dV) (CX:=λ_=>CX0) (sp:=λw=>xC (K w.params)) o (by decide) e ⟨rfl,by decide,by decide,rfl⟩ m F (λ_ _ a p j _ r=>⟨a,p,rfl,r,j,λ_=>rfl⟩) λ_ _ _ _ _ z=>z
end Np
open PySem PySem.W PyProof.Rows
set_option maxRecDepth 100000 in
set_option maxHeartbeats 0 in
theorem PySem.Challenge.cw_nearpool_k24_plans_of_fewest_pools_holds : PySem.Challenge.rw_nearpool_k24_plans_of_fewest_pools.Holds := by
 w_on
 refine holds_law Np.said λa=>?_;refine holds_open (q:=Np.qv) (loose:=[]) (Xt:=Np.xt) (XP:=XL Np.qv []) (Yf:=Hook.obs Np.hk) (Ya:=Hook.val Np.hk) (YP:=Hook.says Np.hk) (N:=3304) (d:=Np.dd) (kwd:=[]) Np.left (Hook.of Np.hk) (Hook.keeps Np.hk) (λs e=>xl_of s (abY.mp e).1) XL.keeps (by kernel_rfl) (by kernel_rfl) (by kernel_rfl) (λs e=>recFacts_of (abY.mp e).2) (by rfl) a (by kernel_rfl) ⟨rfl,rfl,rfl,rfl,rfl,by decide +kernel⟩ ?hw ?hc
 case hw=>w_witness2
 case hc=>exact Np.walk (l:=PySem.Challenge.rw_nearpool_k24_plans_of_fewest_pools) (K:=Np.KK) (d:=Np.dd) rfl (by kernel_rfl) (λw h Y=>kIn_of Y) (λw g f h c G b=>Np.gives c G b)
