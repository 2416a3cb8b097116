
import PyProof.Rows.All
import Wide.All
import OpenK.AllK
import Wide.FinOn
import Lean
import PyProof.EqAt
import PyProof.EqKinds
import PyProof.TupleCall
import PyProof.Draws
import PyProof.ZipIter
import PyProof.SeqI3
import PyProof.CallStr
import PyProof.StrHeap
import PyProof.ReprBulk
import PyProof.Rows.ListRangeD
import PyProof.EnumFor
import PyProof.EnumStmt
import PyProof.EnumMake
import PyProof.AutoListH
import PyProof.RangeFor
import PyProof.Rows.Range3
import KE.KUnpack
import PyProof.ReprRoads
import PyProof.ReprLen
import PyProof.FitsInt
import PyProof.DictCompW
import KE.KDictSum
import PyProof.NeKinds
import PyProof.SumWalk
import PySem.Challenge.RW_nearpool_k23_the_fewest_pools
set_option compiler.extract_closed false
set_option genSizeOf false
set_option Elab.async false
set_option linter.all false
set_option maxRecDepth 100000
noncomputable section
def Daa:=@of_decide_eq_true
def Dab:=@decide_eq_false
def Dac:=@decide_eq_true
def Dad:=@of_decide_eq_false
abbrev Waa:=PySem.W.Frag
def ada:=@PySem.wpAny_bind
def adb:=@PySem.wpAny_pure
def adc:=@PySem.Heap.lt_size
def ade:=@PySem.Heap.get?_push_of_some
def adf:=@PySem.Heap.get?_push_size
def adg:=@PySem.Heap.size_push
def adh:=@PySem.wpAny_mono
def adi:=@PySem.Heap.SameBut.update
def adj:=@PySem.wpAny_holding
def adk:=@PySem.wpAny_newObj_type
def adl:=@PySem.wpAny_field
def adm:=@PySem.Heap.get?_update_self
def adn:=@PySem.wpAny_setField
def ado:=@PySem.wpAny_truthy_bool
def adp:=@PySem.wpAny_seqItems
def adq:=@PySem.wpAny_standAt
def adr:=@PySem.wpAny_rule
def ads:=@PySem.wpAny_call_entry
def adt:=@PySem.codeAny_mono
def adu:=@PySem.codeAny_builtin
def adv:=@PySem.F.called_set
def adw:=@PySem.wpAny_ite_split
def adx:=@PySem.wpAny_askSetting
def ady:=@PyProof.Rows.assignInOrder_cons
def adz:=@PySem.wpAny_callSpecial?_slot
def adA:=@PySem.wpAny_setField_rec
def adB:=@PySem.wpAny_setState_of
def adC:=@PySem.wpAny_bindName
def adD:=@PySem.wpAny_passesOwn
def adE:=@PySem.Around.under_plainId
def adF:=@PySem.plainId_quiet
def adG:=@PySem.Paired.length
def adH:=@PySem.wpAny_pyIter_list
def adI:=@PySem.sizeLine_eq
def adJ:=@PySem.wpAny_Call_Name_kw
def adK:=@PySem.concat_meets
def adL:=@PySem.Heap.get?_update_other
def adM:=@PySem.wpAny_of_eq
def adN:=@PySem.F.slot_tuple_iterator_next
def adO:=@PySem.wpAny_onRaise
def adP:=@PySem.wpAny_attempt
def adQ:=@PySem.F.slot_zip_next
def adR:=@PySem.tupleKind_room_in1
def adS:=@PySem.Value.isInt_shape
def adT:=@PySem.wpAny_pyIter_tuple
def adU:=@PySem.noFill_tuple_add
def adV:=@PySem.codeAny_of_tree
def adW:=@PySem.wpAny_updateSeq_pair
def adX:=@PySem.wpAny_isInstance
def adY:=@PySem.wpAny_runValue
def adZ:=@PySem.fits_of_scanBound
def ad0:=@PyProof.Rows.F.plain_set_update_loop
def ad1:=@PySem.wpAny_setEntries_of
def ad2:=@PySem.Calls.Name_function_global
def ad3:=@PySem.F.entry_tuple_iterator_next
def ad4:=@PySem.F.args_tuple_iterator_next_1
def aaa:=@List.length_map
def aab:=@List.mem_cons_self
def aac:=@List.mem_cons
def aad:=@List.append_assoc
def aae:=@List.mem_append_right
def aaf:=@List.mem_append_left
def aag:=@Nat.le_refl
def aah:=@List.mem_cons_of_mem
def aai:=@List.mem_append
def aaj:=@List.getElem?_eq_some_iff
def aak:=@List.length_append
def aal:=@Bool.false_ne_true
def aam:=@List.map_cons
def aan:=@List.not_mem_nil
def aao:=@List.mem_singleton
def aap:=@List.getElem?_eq_getElem
def aaq:=@List.append_nil
def aar:=@Nat.ne_of_lt
def aas:=@List.mem_map
def aat:=@List.getElem?_map
def aau:=@List.map_append
def aav:=@Nat.le_trans
def aaw:=@List.length_cons
def aax:=@List.perm_middle
def aay:=@Nat.lt_of_lt_of_le
def aaz:=@List.size_toArray
def aaA:=@List.nodup_cons
def aaB:=@List.length_singleton
def aaC:=@List.map_nil
def aaD:=@List.nodup_append
def aaE:=@Option.some.inj
def aaF:=@Ne.symm
def aaG:=@List.length_nil
def aaH:=@Nat.zero_le
def aaI:=@Bool.and_eq_true
def aaJ:=@List.set_cons_succ
def aaK:=@Array.length_toList
def aaL:=@Nat.ne_of_gt
def aaM:=@Int.toNat_natCast
def aaN:=@Option.map_eq_some_iff
def aaO:=@Option.bind_eq_some_iff
def aaP:=@List.cons_append
def aaQ:=@List.mem_iff_getElem?
def aaR:=@List.getElem?_append_left
def aaS:=@List.getElem?_concat_length
def aaT:=@Nat.lt_irrefl
def aaU:=@Nat.le_of_lt
def aaV:=@List.mem_of_getElem?
def aaW:=@List.pairwise_append
def aaX:=@List.map_map
def aaY:=@Nat.lt_succ_self
def aaZ:=@List.of_mem_zip
def aa0:=@List.any_cons
def aa1:=@Array.getElem?_toList
def aa2:=@Nat.zero_add
def aa3:=@List.findIdx?_cons
def aa4:=@List.getElem?_append_right
def aa5:=@List.nil_append
def aa6:=@List.foldl_cons
def aa7:=@List.getElem?_set_self
def aa8:=@List.lookup_cons
def aa9:=@Nat.lt_succ_of_lt
def aba:=@List.find?_cons
def abb:=@List.perm_append_comm
def abc:=@List.nodup_nil
def abd:=@Int.le_refl
def abe:=@List.length_zip
def abf:=@List.getElem?_set_ne
def abg:=@PySem.mem_of_lookup
def abh:=@Nat.lt_trans
def abi:=@Nat.le_add_right
def abj:=@List.Perm.append_left
def abk:=@List.pairwise_cons
def abl:=@List.take_length
def abm:=@List.all_eq_true
def abn:=@List.eq_nil_or_concat
def abo:=@List.concat_eq_append
def abp:=@Prod.mk.inj
def abq:=@Nat.le_of_eq
def abr:=@Nat.le_succ
def abt:=@Option.isSome_iff_exists
def abu:=@List.getD_eq_getElem?_getD
def abv:=@List.drop_length
def abw:=@Nat.sub_self
def abx:=@List.append_inj'
def aby:=@List.zip_map_right
def abz:=@List.length_take
def abA:=@List.replicate_succ
def abB:=@Classical.axiomOfChoice
def abC:=@List.pairwise_iff_getElem
def abD:=@Nat.lt_or_ge
def abE:=@List.pairwise_map
def abF:=@Array.getElem?_eq_getElem
def abG:=@PySem.F.plainAttrs_list
def abH:=@List.isEmpty_iff
def abI:=@Bool.or_eq_true
def abJ:=@List.any_eq_true
def abK:=@Int.emod_nonneg
def abL:=@Int.emod_lt_of_pos
def abM:=@List.cons.inj
def abN:=@Sum.inl.inj
def abO:=@List.mem_filter
def abP:=@List.set_comm
def abQ:=@PyProof.Rows.callWith_type1
def abR:=@Bool.eq_iff_iff
def abS:=@List.length_replicate
def abT:=@Nat.le_of_not_lt
def abU:=@Nat.lt_of_le_of_lt
def abV:=@Nat.succ.inj
def abW:=@List.zip_cons_cons
def abX:=@List.ext_getElem?
def abY:=@List.getElem?_of_mem
def abZ:=@List.drop_eq_getElem_cons
def ab0:=@List.getElem?_eq_none
def ab1:=@Bool.and_eq_true_iff
def ab2:=@Bool.or_eq_false_iff
def ab3:=@Int.le_trans
def ab4:=@List.any_map
def ab5:=@List.map_congr_left
def ab6:=@Bool.not_eq_true'
def ab7:=@Nat.blt_eq
def ab8:=@List.length_filter_le
def ab9:=@List.pairwise_singleton
def aca:=@List.countP_cons
def acb:=@List.countP_le_length
def acd:=@PySem.W.mg_of
def ace:=@List.mem_range
def acf:=@List.filterMap_cons
def acg:=@List.any_eq_false
def ach:=@PySem.W.plainGet_of
def aci:=@PySem.W.callWith_K
def acj:=@Bool.or_false
def ack:=@List.length_set
def acl:=@List.forIn_cons
def acm:=@Array.getElem?_eq_none
def acn:=@Bool.false_or
def aco:=@Option.isSome_map
def acp:=@List.set_cons_zero
def acq:=@List.getElem?_zip_eq_some
def acr:=@List.perm_append_comm_assoc
def acs:=@List.getElem?_drop
def acu:=@Nat.not_lt_zero
def acv:=@List.getElem?_take
def acw:=@List.length_eq_zero_iff
def acx:=@List.length_range
def acy:=@Option.bind_some
def acz:=@PySem.F.slot_list_append
def acA:=@PySem.F.type_list_append
def acB:=@Nat.add_le_add_left
def acC:=@List.filter_cons_of_neg
def acD:=@Int.zero_add
def acE:=@Nat.min_self
def acF:=@Nat.succ_mul
def acG:=@PySem.W.methodCall_KW
def acH:=@PySem.W.cellsFrom_some
def acI:=@List.getElem?_replicate
def acJ:=@PySem.F.slot_tuple_add
def acK:=@PySem.F.entry_tuple_add
def acL:=@PySem.F.args_tuple_add_2
def acM:=@Nat.add_sub_cancel_left
def acN:=@Nat.add_left_cancel
def acO:=@List.Perm.append_right
def acP:=@List.pairwise_lt_range
def acQ:=@List.take_append_drop
def acR:=@List.findIdx?_eq_some_iff_getElem
def acS:=@PySem.F.plain_set_new
def acT:=@PyProof.Rows.IntsAre.int_at
def acU:=@List.length_eraseIdx_of_lt
def acV:=@List.getElem?_toArray
def acW:=@PySem.F.slot_set_iter
def acX:=@PySem.F.plain_list_iadd
def acY:=@PySem.F.plain_extend_loop
def acZ:=@Classical.choose_spec
def ac0:=@List.length_zipWith
def ac1:=@Nat.le_of_ble_eq_true
def ac2:=@List.filter_cons_of_pos
def ac3:=@Nat.mul_le_mul_left
def ac4:=@List.getElem?_cons_succ
def ac5:=@List.getLast?_concat
def ac6:=@Nat.pow_le_pow_left
def ac7:=@Nat.pow_le_pow_right
def ac8:=@List.perm_ext_iff_of_nodup
def ac9:=@List.getLast?_append
namespace L2
open PySem PySem.Spec PyProof.Rows
section
abbrev Key:=Sum Int Str
def keyIs:Key->Value->Bool
 |.inl k,v=>Value.isInt k v
 |.inr x,v=>Value.isStrOf x v
def keyH(w:World):Key->Int
 |.inl k=>hashInt k
 |.inr x=>hashStr w x
theorem aR:∀{k:Key}{v:Value},keyIs k v=true->(∃i t,k=Sum.inl i/\v=Value.int i t)\/(∃x t,k=Sum.inr x/\v=Value.str x t)
 |.inl i,v,h=>by obtain⟨t,e⟩:=adS h;exact .inl ⟨i,t,rfl,e⟩
 |.inr x,v,h=>by obtain⟨t,e⟩:=Value.isStrOf_shape h;exact .inr ⟨x,t,rfl,e⟩
def qV(i:Int)(t:Tok):keyIs (.inl i) (.int i t)=true:=by simp[keyIs,Value.isInt]
def qW(x:Str)(t:Tok):keyIs (.inr x) (.str x t)=true:=by simp[keyIs,Value.isStrOf]
def Ao(a b:Int):decide ((Sum.inl a:Key)=Sum.inl b)=(a==b):=by
 by_cases e:a=b
 ·subst e;simp
 ·have h:¬ (Sum.inl a:Key)=Sum.inl b:=λq=>e (abN q);rw[Dab h];exact(beq_eq_false_iff_ne.mpr e).symm
def Ap(a b:Str):decide ((Sum.inr a:Key)=Sum.inr b)=decide (a=b):=by
 by_cases e:a=b
 ·subst e;simp
 ·have h:¬ (Sum.inr a:Key)=Sum.inr b:=λq=>e (Sum.inr.inj q);rw[Dab h,Dab e]
def Aq(a:Int)(b:Str):decide ((Sum.inl a:Key)=Sum.inr b)=false:=Dab (λq=>nomatch q)
def Ar(a:Str)(b:Int):decide ((Sum.inr a:Key)=Sum.inl b)=false:=Dab (λq=>nomatch q)
def bb(prog:Program)(w:World):PySem.KeyKind prog w Key where
 is:=keyIs
 hash:=keyH w
 inj:=λv a b g d=>by
  rcases aR g with ⟨i,t,rfl,rfl⟩|⟨x,t,rfl,rfl⟩
  ·rcases aR d with ⟨j,u,rfl,e⟩|⟨y,u,rfl,e⟩
   ·injection e with e1 _;rw[e1]
   ·exact nomatch e
  ·rcases aR d with ⟨j,u,rfl,e⟩|⟨y,u,rfl,e⟩
   ·exact nomatch e
   ·injection e with e1 _;rw[e1]
 byValue:=λk v h=>by rcases aR h with ⟨i,t,rfl,rfl⟩|⟨x,t,rfl,rfl⟩<;>rfl
 pyHash:=λc h=>by
  rcases aR c with ⟨i,t,rfl,rfl⟩|⟨x,t,rfl,rfl⟩
  ·exact wpAny_pyHash_int h
  ·exact wpAny_pyHash_str h
 eqBool:=λf c h=>by
  rcases aR f with ⟨i,t,rfl,rfl⟩|⟨x,t,rfl,rfl⟩
  ·rcases aR c with ⟨j,u,rfl,rfl⟩|⟨y,u,rfl,rfl⟩
   ·rw[Ao]at h;exact wpAny_eqBool_int h
   ·rw[Aq]at h;exact SeqAt.EqAt.int_str i t y u _ _ _ _ h
  ·rcases aR c with ⟨j,u,rfl,rfl⟩|⟨y,u,rfl,rfl⟩
   ·rw[Ar]at h;exact SeqAt.EqAt.str_int x t j u _ _ _ _ h
   ·rw[Ap]at h;exact wpAny_eqBool_str h
 «strs»:=λk x t v h=>by
  rcases aR h with ⟨i,u,rfl,e⟩|⟨y,u,rfl,e⟩
  ·exact nomatch e
  ·injection e with e1 _;subst e1;cases v<;>rfl
def lq(prog:Program)(w:World)(i:Int)(t:Tok):(bb prog w).is (.inl i) (.int i t)=true:=qV i t
def mixKind_str(prog:Program)(w:World)(x:Str)(t:Tok):(bb prog w).is (.inr x) (.str x t)=true:=qW x t
end
section
inductive V where
 |non|bl (b:Bool)|int (i:Int)|str (x:Str)|byt (b:Array UInt8)|flt (b:UInt64)|ref (a:Addr)|ty (n:String)
 deriving DecidableEq
def RelV:V->Value->Prop
 |.non,u=>u=Value.none
 |.bl b,u=>u=Value.bool b
 |.int i,u=>∃t,u=Value.int i t
 |.str x,u=>∃t,u=Value.str x t
 |.byt b,u=>∃t,u=Value.bytes b t
 |.flt b,u=>∃t,u=Value.float b t
 |.ref a,u=>u=Value.ref a
 |.ty n,u=>u=Value.type n
abbrev Vals:List V->List Value->Prop:=Paired RelV
def Vals.length{xs:List V}{us:List Value}(r:Vals xs us):xs.length=us.length:=adG r
theorem Vals.get:∀{xs:List V}{us:List Value}{i:Nat}{x:V},Vals xs us->xs[i]?=some x->∃u,us[i]?=some u/\RelV x u
 |_,_,_,_,.nil,e=>by simp at e
 |_,_,0,_,.cons r _,e=>by simp at e;subst e;exact⟨_,rfl,r⟩
 |_,_,i+1,x,.cons _ t,e=>by obtain⟨u,b,a⟩:=Vals.get (i:=i) (x:=x) t (by simpa using e);exact⟨u,by simpa using b,a⟩
theorem Vals.set(r:RelV x u):∀{xs:List V}{us:List Value} (i:Nat),Vals xs us->Vals (xs.set i x) (us.set i u)
 |_,_,_,.nil=>.nil
 |_,_,0,.cons _ t=>.cons r t
 |_,_,i+1,.cons q t=>.cons q (Vals.set r i t)
theorem Vals.append:∀{xs ys:List V}{us ws:List Value},Vals xs us->Vals ys ws->Vals (xs++ys) (us++ws)
 |_,_,_,_,.nil,s=>s
 |_,_,_,_,.cons r t,s=>.cons r (Vals.append t s)
theorem Vals.take:∀{xs:List V}{us:List Value} (n:Nat),Vals xs us->Vals (xs.take n) (us.take n)
 |_,_,0,_=>.nil
 |_,_,_+1,.nil=>.nil
 |_,_,n+1,.cons r t=>.cons r (Vals.take n t)
theorem Vals.drop:∀{xs:List V}{us:List Value} (n:Nat),Vals xs us->Vals (xs.drop n) (us.drop n)
 |_,_,0,r=>r
 |_,_,_+1,.nil=>.nil
 |_,_,n+1,.cons _ t=>Vals.drop n t
def RelO:Option V->Option Value->Prop
 |some v,some u=>RelV v u
 |none,none=>True
 |_,_=>False
def KV{a:Type}:List (a×V)->List (a×Value)->Prop:=Paired λ(p:a×V) (q:a×Value)=>p.1=q.1/\RelV p.2 q.2
def kV:Key->V
 |.inl i=>.int i
 |.inr x=>.str x
inductive HO where
 |lst (xs:List V)
 |tup (xs:List V)
 |dK (kvs:List (Key×V))|dT (kvs:List (List Key×V))
 |set (S:Int->Bool) (n:Nat)
 |ins (C dx:Addr) (fs:List (Str×V))
 |own (x:Addr)
 |xd (fs:List (Str×V))
 |met (f x:Addr)
 |rng (lo hi:Int)
 |frz (o:Obj) (u:HO)
 |tbl (ps:Array Value)
 |ext (φ:Heap->Prop)
abbrev Hp:=Addr->Option HO
def upd(H:Hp)(a:Addr)(o:HO):Hp:=λb=>if b=a then some o else H b
def ar{H:Hp}:upd H a o a=some o:=by unfold upd;rw[if_pos rfl]
def upd_ne{H:Hp}(h:b≠a):upd H a o b=H b:=by unfold upd;rw[if_neg h]
def Dz{H:Hp}(h:H a=some o)(h':H b=some u)(d:o≠u):a≠b:=by intro e;subst e;rw[h]at h';exact d (aaE h')
def av{H:Hp}(h:H a=some o)(h':H b=none):a≠b:=by intro e;subst e;rw[h]at h';cases h'
section
variable(P:Program)(w:World)
def GA(h:Heap)(a:Addr)(items:Array Value):Prop:=∃o,h.get? a=some o/\o.cls=.type "tuple"/\∃n,o.data=.seq items n/\o.dict=none
def ObjOk(H:Hp)(h:Heap)(a:Addr):HO->Prop
 |.lst xs=>xs.length<=sizeLine/\∃(b:List Value) (n:Nat),Vals xs b/\h.get? a=some { cls:=.type "list",data:=.seq b.toArray n }
 |.tup xs=>xs.length<=sizeLine/\∃b:List Value,Vals xs b/\GA h a b.toArray
 |.dK kvs=>kvs.length<=sizeLine/\(a==sysModules)=false/\∃g,KV kvs g/\h.DictOf (bb P w) a g
 |.dT kvs=>kvs.length<=sizeLine/\(a==sysModules)=false/\∃xs:List (List Key×Addr×Value),
   Paired (λ(p:List Key×V) (q:List Key×Addr×Value)=>p.1=q.1/\H q.2.1=some (.tup (p.1.map kV))/\RelV p.2 q.2.2) kvs xs /\
   ∃o e j,h.get? a=some o/\o.ExactDict/\o.data=.dict e j/\e.toList=xs.map (entryOfKey (tupleKind (bb P w)))/\(xs.map (·.1)).Nodup
 |.set S n=>h.SetOf (intKind P w) a S n
 |.ins C dx fs=>H dx=some (.own a)/\fs.length<=1000/\dx≠a/\h.get? a=some (PySem.W.instObj C dx) /\
   ∃c,h.Ns1 dx c/\(∀f,RelO (fs.lookup f) (c f))/\PySem.Within c (fs.map (·.1))
 |.own _=>∃o,h.get? a=some o
 |.xd fs=>∃c,h.Ns1 a c/\∀f,RelO (fs.lookup f) (c f)
 |.rng lo hi=>∃t u v,h.get? a=some { cls:=.type "range",data:=.fields #[.int lo t,.int hi u,.int 1 v] }
 |.frz o u=>h.get? a=some o/\ObjOk H h a u
 |.tbl ps=>h.get? a=some { cls:=.none,data:=.fields ps }
 |.met f x=>h.get? a=some (PySem.W.methodObj (.ref f) (.ref x))
 |.ext φ=>φ h/\(∃o,h.get? a=some o)/\∀i d:Heap,φ i->(∀o,i.get? a=some o->d.get? a=some o)->φ d
def HOk(H:Hp)(h:Heap):Prop:=∀a o,H a=some o->ObjOk P w H h a o
end
section
variable{P:Program}{w:World}{H H':Hp}{h h':Heap}{a:Addr}{o:HO}
def ObjOk.lt(x:ObjOk P w H h a o):a<h.objs.size:=by
 cases o with
 |lst d=>obtain⟨_,_,_,_,e⟩:=x;exact adc e
 |tup d=>obtain⟨_,_,_,o,e,_⟩:=x;exact adc e
 |dK b=>obtain⟨_,_,_,_,o,_,_,e,_⟩:=x;exact adc e
 |dT b=>obtain⟨_,_,_,_,o,_,_,e,_⟩:=x;exact adc e
 |set S n=>obtain⟨o,_,_,_,e,_⟩:=x;exact adc e
 |ins C k c=>obtain⟨_,_,_,e,_⟩:=x;exact adc e
 |own y=>obtain⟨_,e⟩:=x;exact adc e
 |xd c=>obtain⟨_,⟨_,_,_,e,_⟩,_⟩:=x;exact adc e
 |rng i g=>obtain⟨_,_,_,e⟩:=x;exact adc e
 |frz j u=>obtain⟨e,_⟩:=x;exact adc e
 |tbl l=>exact adc (show h.get? a=some _ from x)
 |met f y=>exact adc (show h.get? a=some _ from x)
 |ext m=>obtain⟨_,⟨_,e⟩,_⟩:=x;exact adc e
theorem Paired.mapP{d e:Type}{F G:d->e->Prop}:∀{c:List d}{l₂:List e},Paired F c l₂->(∀a b,F a b->G a b)->Paired G c l₂
 |_,_,.nil,_=>.nil
 |_,_,.cons r t,f=>.cons (f _ _ r) (Paired.mapP t f)
theorem ObjOk.p9(x:ObjOk P w H h a o)(k:∀b u,(b=a\/H b=some (.own a))->h.get? b=some u->h'.get? b=some u)
  (L:∀b,H b=some (.own a)->H' b=some (.own a)) (F:∀b xs,H b=some (.tup xs)->H' b=some (.tup xs)):ObjOk P w H' h' a o:=by
 induction o with
 |lst xs=>obtain⟨z,l,n,r,e⟩:=x;exact⟨z,l,n,r,k _ _ (.inl rfl) e⟩
 |tup xs=>obtain⟨z,l,r,g,e,c⟩:=x;exact⟨z,l,r,g,k _ _ (.inl rfl) e,c⟩
 |dK s=>obtain⟨z,y,O,r,g,j,i,e,c⟩:=x;exact⟨z,y,O,r,g,j,i,k _ _ (.inl rfl) e,c⟩
 |dT s=>obtain⟨z,y,xs,r,g,j,i,e,c⟩:=x;exact⟨z,y,xs,Paired.mapP r λp q z=>⟨z.1,F _ _ z.2.1,z.2.2⟩,g,j,i,k _ _ (.inl rfl) e,c⟩
 |set S n=>obtain⟨g,j,i,t,e,c⟩:=x;exact⟨g,j,i,t,k _ _ (.inl rfl) e,c⟩
 |ins C U I=>obtain⟨d,z,J,e,A,⟨m,j,i,M,c⟩,r⟩:=x;exact⟨L _ d,z,J,k _ _ (.inl rfl) e,A,⟨m,j,i,k _ _ (.inr d) M,c⟩,r⟩
 |own y=>obtain⟨g,e⟩:=x;exact⟨g,k _ _ (.inl rfl) e⟩
 |xd I=>obtain⟨A,⟨m,j,i,e,c⟩,r⟩:=x;exact⟨A,⟨m,j,i,k _ _ (.inl rfl) e,c⟩,r⟩
 |rng T Q=>obtain⟨t,u,v,e⟩:=x;exact⟨t,u,v,k _ _ (.inl rfl) e⟩
 |frz g u N=>obtain⟨e,q⟩:=x;exact⟨k _ _ (.inl rfl) e,N q⟩
 |tbl D=>have e:h.get? a=some { cls:=.none,data:=.fields D }:=x;show h'.get? a=some { cls:=.none,data:=.fields D };exact k a _ (.inl rfl) e
 |met f y=>have e:h.get? a=some (PySem.W.methodObj (.ref f) (.ref y)):=x;show h'.get? a=some (PySem.W.methodObj (.ref f) (.ref y));exact k a _ (.inl rfl) e
 |ext X=>obtain⟨p,⟨o,e⟩,B⟩:=x;exact⟨B _ _ p λo q=>k _ _ (.inl rfl) q,⟨o,k _ _ (.inl rfl) e⟩,B⟩
def HOk.lt(x:HOk P w H h)(e:H a=some o):a<h.objs.size:=(x a o e).lt
def HOk.fresh(x:HOk P w H h)(e:h.objs.size<=a):H a=none:=by
 cases q:H a with
 |none=>rfl
 |some u=>exact absurd (aay (x.lt q) e) (aaT _)
def HOk.kept(x:HOk P w H h)(k:∀b u,h.get? b=some u->h'.get? b=some u):HOk P w H h':=λa o e=>
 (x a o e).p9 (λb u _ q=>k b u q) (λ_ q=>q) λ_ _ q=>q
def HOk.laid(x:HOk P w H h)(k:∀b u,h.get? b=some u->h'.get? b=some u)(i:h.objs.size<=a)(d:ObjOk P w (upd H a o) h' a o):HOk P w (upd H a o) h':=λb u e=>by
 have f:=x.fresh i;by_cases g:b=a
 ·subst g;rw[ar]at e;cases e;exact d
 ·rw[upd_ne g]at e;exact(x b u e).p9 (λc v _ q=>k c v q) (λc q=>by rw[upd_ne (av q f)];exact q) λc j q=>by rw[upd_ne (av q f)];exact q
end
def Rd(H:Hp)(a:Addr)(u:HO):Prop:=H a=some u\/∃o,H a=some (.frz o u)
def Rd.ok{P:Program}{w:World}(r:Rd H a u)(x:HOk P w H h):ObjOk P w H h a u:=by
 rcases r with r|⟨o,r⟩
 ·exact x a u r
 ·obtain⟨_,q⟩:=x a _ r;exact q
def DB:Option HO->Prop
 |some (.lst _)=>True
 |some (.dK _)=>True
 |some (.dT _)=>True
 |some (.set _ _)=>True
 |some (.ins _ _ _)=>True
 |some (.ext _)=>True
 |_=>False
section
variable{P:Program}{w:World}{H:Hp}{h h':Heap}{x e:Addr}{o':HO}
def HOk.write(t:HOk P w H h)(g:DB (H x))(o:e=x\/H e=some (.own x))(k:∀b u,b≠e->h.get? b=some u->h'.get? b=some u)(n:∃u,h'.get? e=some u)
  (m:ObjOk P w (upd H x o') h' x o'):HOk P w (upd H x o') h':=λb u q=>by
 have d:∀c y,H c=some (.own y)->c≠x:=λc y r z=>by subst z;rw[r]at g;exact g
 have f:∀c i,H c=some (.tup i)->c≠x:=λc i r z=>by subst z;rw[r]at g;exact g
 by_cases l:b=x
 ·subst l;rw[ar]at q;cases q;exact m
 ·rw[upd_ne l]at q;by_cases a:b=e
  ·have p:H b=some (.own x):=by
    rcases o with z|z
    ·exact absurd (a.trans z) l
    ·rw[a];exact z
   rw[q]at p;cases p;obtain⟨v,s⟩:=n;exact⟨v,by rw[a];exact s⟩
  ·refine(t b u q).p9 (λc v j r=>k c v ?_ r) (λc r=>by rw[upd_ne (d c b r)];exact r) λc i r=>by rw[upd_ne (f c i r)];exact r
   rcases j with rfl|j
   ·exact a
   ·rintro rfl;rcases o with z|z
    ·exact d c b j z
    ·rw[j]at z;cases z;exact l rfl
end
structure Un (fs ex:List Addr)(H H':Hp)(h h':Heap):Prop where
 keep:∀b o,h.get? b=some o->H b=none->b ∉ fs->b ∉ ex->h'.get? b=some o
 slot:∀b o,h.get? b=some o->H b=none->b∈fs->b ∉ ex->∃sl,h'.get? b=some { o with slots:=sl }
 free:∀b o,h.get? b=some o->H b=none->b ∉ ex->H' b=none
 there:∀b o,h.get? b=some o->b ∉ ex->∃o',h'.get? b=some o'
 tups:∀b xs,H b=some (.tup xs)->H' b=some (.tup xs)
 frzs:∀b o u,H b=some (.frz o u)->H' b=some (.frz o u)
 tbls:∀b ps,H b=some (.tbl ps)->∃more,H' b=some (.tbl (ps++more))
section
variable{fs fs' ex ex':List Addr}{H H1 H2:Hp}{h h1 h2 h':Heap}{a x e:Addr}{o:HO}
def Un.any(u:Un fs ex H H1 h h1){b:Addr}{c:Obj}(q:h.get? b=some c)(n:H b=none)(f:b ∉ ex):∃g,h1.get? b=some { c with slots:=g }:=by
 by_cases d:b∈fs
 ·exact u.slot b c q n d f
 ·exact⟨c.slots,u.keep b c q n d f⟩
def Un.kept(k:∀b u,h.get? b=some u->h'.get? b=some u):Un fs ex H H h h':=
 ⟨λb c q _ _ _=>k b c q,λb c q _ _ _=>⟨c.slots,k b c q⟩,λ_ _ _ n _=>n,λb c q _=>⟨c,k b c q⟩,λ_ _ q=>q,λ_ _ _ q=>q,λ_ d q=>⟨#[],by rw[q];simp⟩⟩
def Un.refl:Un fs ex H H h h:=Un.kept λ_ _ q=>q
def Un.laid(k:∀b u,h.get? b=some u->h'.get? b=some u)(d:h.objs.size<=a)(c:H a=none):Un fs ex H (upd H a o) h h' where
 keep:=λb u q _ _ _=>k b u q
 slot:=λb u q _ _ _=>⟨u.slots,k b u q⟩
 free:=λb u q n _=>by rw[upd_ne (aar (aay (adc q) d))];exact n
 there:=λb u q _=>⟨u,k b u q⟩
 tups:=λb f q=>by rw[upd_ne (av q c)];exact q
 frzs:=λb u f q=>by rw[upd_ne (av q c)];exact q
 tbls:=λb g q=>⟨#[],by rw[upd_ne (av q c),q];simp⟩
def Un.write(d:DB (H x))(p:e=x\/H e=some (.own x))(k:∀b u,b≠e->h.get? b=some u->h'.get? b=some u)(f:∃u,h'.get? e=some u):Un fs ex H (upd H x o) h h':=by
 have j:∀b,H b=none->b≠x:=λb n z=>by subst z;rw[n]at d;exact d
 have i:∀b,H b=none->b≠e:=λb n z=>by
  subst z;rcases p with r|r
  ·exact j b n r
  ·rw[n]at r;cases r
 have g:∀b u,H b=some u->¬ DB (some u)->b≠x:=λb u q l z=>by subst z;rw[q]at d;exact l d
 refine⟨λb u q n _ _=>k b u (i b n) q,λb u q n _ _=>⟨u.slots,k b u (i b n) q⟩,λb u q n _=>by rw[upd_ne (j b n)];exact n,λb u q _=>?_,
  λb m q=>by rw[upd_ne (g b _ q λz=>z)];exact q,λb u m q=>by rw[upd_ne (g b _ q λz=>z)];exact q,λb s q=>⟨#[],by rw[upd_ne (g b _ q λz=>z),q];simp⟩⟩
 by_cases c:b=e
 ·subst c;exact f
 ·exact⟨u,k b u c q⟩
end
def trk(h:Heap)(H:Hp):List Addr:=(List.range h.objs.size).filter λa=>(H a).isSome
def jV(h:Heap)(H:Hp):Heap:=PySem.W.hideAll h (trk h H)
def qX(h:Heap)(H:Hp):(jV h H).objs.size=h.objs.size:=PySem.W.hideAll_size _ _
def hidT_get(e:h.get? b=some o)(n:H b=none):(jV h H).get? b=some o:=
 PySem.W.hideAll_get _ e λa=>by have q:(H b).isSome=true:=(abO.mp a).2;rw[n]at q;simp at q
def wV(e:(jV h H).get? b=some o):h.get? b=some o/\H b=none:=by
 have a:h.get? b=some o:=PySem.W.of_hideAll (trk h H) e;refine⟨a,?_⟩;cases q:H b with
 |none=>rfl
 |some x=>have c:b∈trk h H:=abO.mpr ⟨ace.mpr (adc a),by simp[q]⟩;have z:(jV h H).get? b=none:=PySem.W.hideAll_none (trk h H) c;rw[z]at e;cases e
end
section
structure Mod (K:Waa)(mg:Str->Option Value)(base:Heap):Prop where
 kin:K.In base
 glob:base.Ns mainGlobals mg
 blt:∃mb,base.Ns builtinsNs mb/\∀x:Str,x≠"__name__"->mb x=bootBuiltins x
 nolimit:base.NoLimit
structure Cx where
 prog:Program
 w:World
 K:Waa
 mg:Str->Option Value
 base:Heap
 A:Around
 N:List Str
 s₀:Shared
 H₀:Hp
 env:Env
 outer:List Env
 stack:List Env
 ex:List Addr
 fn:Str->Bool
 calm:Bool
 pn:List (Addr×Obj)
 xe:Value->Shared->Prop
def sM(l:List Env):List Addr:=l.filterMap (·.frame)
abbrev Cx.fs(X:Cx):List Addr:=sM X.outer
def Vis(sc:Scope)(x:Str):Prop:=sc.names.lookup x=some .local\/sc.names.lookup x=some .cell\/sc.names.lookup x=some .free
def Loc(sc:Scope)(x:Str):Prop:=sc.names.lookup x=some .local\/sc.names.lookup x=some .cell
def Look(env:Env)(h:Heap)(m:Str->Option Value)(x:Str)(u:Value):Prop:=
 (env.kindOf x=some .local/\m x=some u)\/((env.kindOf x=some .cell\/env.kindOf x=some .free)/\∃c,env.cells.lookup x=some c/\h.IsCell c (some u))
structure Cx.Ok (X:Cx):Prop where
 mod:Mod X.K X.mg X.base
 kind:X.env.scope.kind=.function
 glob:X.env.globals=mainGlobals
 blt:X.env.builtins=builtinsNs
 above:X.s₀.heap.objs.size<=X.env.locals
 inj:∀x y c,X.env.cells.lookup x=some c->X.env.cells.lookup y=some c->x=y
 has:∀x,(X.env.kindOf x=some .cell\/X.env.kindOf x=some .free)->∃c,X.env.cells.lookup x=some c
 cab:∀x c,X.fn x=true->X.env.cells.lookup x=some c->X.s₀.heap.objs.size<=c
 hd:X.calm=true->X.A.handled=none
 frames:X.A.frames=some X.stack
 stk:X.stack=X.outer\/(X.stack=X.env::X.outer/\X.env.frame=some X.env.locals)
 exf:∀b∈X.ex,b≠X.env.locals/\∀x c,X.env.cells.lookup x=some c->c≠b
 bs:∀b o,X.base.get? b=some o->X.s₀.heap.get? b=some o/\X.H₀ b=none
 bsz:X.base.objs.size<=X.s₀.heap.objs.size
 noex:∀b o,X.base.get? b=some o->b ∉ X.ex
 exfs:∀b∈X.ex,b ∉ X.fs
 funs:X.s₀.heap.FunFrames X.base X.outer
 frf:∀b∈X.fs,X.H₀ b=none
structure Inv (X:Cx)(pins:List (Addr×Obj))(σ:List (Option V))(H:Hp)(s:Shared):Prop where
 ok:X.Ok
 os:s.os=X.s₀.os
 bare:AllBare s.gens
 base:Un X.fs X.ex X.H₀ H X.s₀.heap s.heap
 loc:∃m,s.heap.Ns X.env.locals m/\∀(i:Nat) (x:Str) (v:V),X.N[i]?=some x->σ[i]?=some (some v)->Vis X.env.scope x->∃u,RelV v u/\Look X.env s.heap m x u
 cell:∀x c,X.env.cells.lookup x=some c->∃v,s.heap.IsCell c v
 free:H X.env.locals=none
 freeC:∀x c,X.env.cells.lookup x=some c->H c=none
 pin:∀p∈X.pn++pins,s.heap.get? p.1=some p.2/\H p.1=none/\p.1≠X.env.locals/\p.1 ∉ X.fs/\∀v,p.2.data≠.cell v
 hok:HOk X.prog X.w H s.heap
 len:σ.length=X.N.length
section
variable{X:Cx}{pins:List (Addr×Obj)}{σ:List (Option V)}{H H':Hp}{s:Shared}{h':Heap}
def Cx.Ok.nofr(a:X.Ok)(e:X.base.get? b=some o):b ∉ X.fs:=λc=>by have:=(a.funs.mem c).1;rw[e]at this;cases this
def Inv.bs(I:Inv X pins σ H s):∀b o,X.base.get? b=some o->s.heap.get? b=some o/\H b=none:=λb o e=>
 ⟨I.base.keep b o (I.ok.bs b o e).1 (I.ok.bs b o e).2 (I.ok.nofr e) (I.ok.noex b o e),I.base.free b o (I.ok.bs b o e).1 (I.ok.bs b o e).2 (I.ok.noex b o e)⟩
def Inv.bk(I:Inv X pins σ H s):∀b o,X.base.get? b=some o->s.heap.get? b=some o:=λb o e=>(I.bs b o e).1
def Inv.mod(I:Inv X pins σ H s):Mod X.K X.mg X.base:=I.ok.mod
theorem Inv.rz(I:Inv X pins σ H s):X.K.In s.heap:=I.ok.mod.kin.keeps I.bk
def Inv.fr(I:Inv X pins σ H s):∃m,Fr X.base X.env.locals s.heap m:=
 let ⟨m,a,_⟩:=I.loc
 ⟨m,a,I.bk,aav I.ok.bsz I.ok.above⟩
def Inv.lt(I:Inv X pins σ H s):X.env.locals<s.heap.objs.size:=let ⟨_,a,_⟩:=I.loc;a.lt
def Inv.sz(I:Inv X pins σ H s):X.s₀.heap.objs.size<=s.heap.objs.size:=aav I.ok.above (aaU I.lt)
def Inv.nofs(I:Inv X pins σ H s)(h:s.heap.objs.size<=a):a ∉ X.fs:=λc=>by obtain⟨_,o,b,_⟩:=I.ok.funs.mem c;exact absurd (aay (adc b) (aav I.sz h)) (aaT _)
def Inv.cne(I:Inv X pins σ H s):∀x c,X.env.cells.lookup x=some c->c≠X.env.locals:=λx c e z=>by obtain⟨v,o,d,f⟩:=I.cell x c e;obtain⟨m,⟨h,i,g,a,b,_⟩,_⟩:=I.loc;rw[z,a]at d;cases d;rw[b]at f;cases f
def Inv.funs(I:Inv X pins σ H s):s.heap.FunFrames X.base X.outer:=by
 have c:∀(l:List Env),(∀b∈sM l,b∈X.fs)->X.s₀.heap.FunFrames X.base l->s.heap.FunFrames X.base l:=by
  intro l;induction l with
  |nil=>intro _ _;trivial
  |cons q r n=>intro g i;obtain⟨p,⟨L,o,a,h,k,m⟩,j⟩:=i;have d:L∈X.fs:=g L (by unfold sM;rw[acf,a];exact aab);obtain⟨t,e⟩:=I.base.slot L o k (I.ok.frf L d) d λz=>I.ok.exfs L z d;exact⟨p,⟨L,_,a,h,e,m⟩,n (λb f=>g b (by unfold sM;rw[acf,a];exact aah _ f)) j⟩
 exact c X.outer (λ_ f=>f) I.ok.funs
def Inv.stack(I:Inv X pins σ H s):s.heap.FunFrames X.base X.stack:=by
 rcases I.ok.stk with e|⟨e,a⟩
 ·rw[e];exact I.funs
 ·rw[e];obtain⟨m,b,_⟩:=I.loc;refine .cons (by rw[I.ok.kind];decide) a b ?_ I.funs;exact Heap.get?_none_of_le (aav I.ok.bsz I.ok.above)
theorem Inv.qd(I:Inv X pins σ H s):∀b∈sM X.stack,b∈X.env.locals::X.fs:=λb a=>by
 rcases I.ok.stk with e|⟨e,c⟩
 ·rw[e]at a;exact aah _ a
 ·rw[e]at a;unfold sM at a;rw[acf,c]at a;exact a
theorem Inv.t4(I:Inv X pins σ H s):∀b∈sM X.stack,H b=none:=λb a=>by
 rcases aac.mp (I.qd b a) with e|a
 ·rw[e];exact I.free
 ·obtain⟨_,o,c,_⟩:=I.ok.funs.mem a;exact I.base.free b o c (I.ok.frf b a) λz=>I.ok.exfs b z a
theorem Inv.step{g':Array GenState}{t':Nat}{d':Drawn}{ch:List Addr}(I:Inv X pins σ H s)
  (g:∀b∈ch,(b∈X.ex\/X.s₀.heap.objs.size<=b)/\b≠X.env.locals/\(∀x c,X.env.cells.lookup x=some c->c≠b)/\∀p∈X.pn++pins,p.1≠b)
  (j:∀b o,b≠X.env.locals->b ∉ X.fs->b ∉ ch->s.heap.get? b=some o->H b=none->h'.get? b=some o)
  (B:∀b o,b≠X.env.locals->b∈X.fs->b ∉ ch->s.heap.get? b=some o->H b=none->∃U,h'.get? b=some { o with slots:=U }) (f:∀b o,b ∉ ch->s.heap.get? b=some o->H b=none->H' b=none)
  (D:∀b o,b ∉ ch->s.heap.get? b=some o->∃L,h'.get? b=some L)
  (O:∀b C,H b=some (.tup C)->H' b=some (.tup C)) (M:∀b o u,H b=some (.frz o u)->H' b=some (.frz o u)) (N:∀b T,H b=some (.tbl T)->∃S,H' b=some (.tbl (T++S)))
  (ns:∀m,s.heap.Ns X.env.locals m->h'.Ns X.env.locals m) (Y:HOk X.prog X.w H' h') (hg:AllBare g'):
  Inv X pins σ H' { s with heap:=h',gens:=g',drawn:=d',toks:=t' }:=by
 have Q:∀b o,X.s₀.heap.get? b=some o->b≠X.env.locals:=λb o e=>aar (aay (adc e) I.ok.above);have A:∀b o,X.s₀.heap.get? b=some o->b ∉ X.ex->b ∉ ch:=λb o e a F=>by
  rcases (g b F).1 with z|z
  ·exact a z
  ·exact absurd (aay (adc e) z) (aaT _)
 have h:∀x c,X.env.cells.lookup x=some c->∀v,s.heap.IsCell c v->h'.IsCell c v:=λx c e v ⟨o,J,Z⟩=>by
  have t:c ∉ ch:=λz=>(g c z).2.2.1 x c e rfl;by_cases hc:c∈X.fs
  ·obtain⟨U,q⟩:=B c o (I.cne x c e) hc t J (I.freeC x c e);exact⟨_,q,Z⟩
  ·exact⟨o,j c o (I.cne x c e) hc t J (I.freeC x c e),Z⟩
 refine⟨I.ok,I.os,hg,⟨λb o e n F a=>?_,λb o e n F a=>?_,λb o e n a=>?_,λb o e a=>?_,λb C e=>O b C (I.base.tups b C e),λb o C e=>M b o C (I.base.frzs b o C e),λb T e=>?_⟩,?_,λx c e=>?_,?_,λx c e=>?_,λp hp=>?_,Y,I.len⟩
 ·exact j b o (Q b o e) F (A b o e a) (I.base.keep b o e n F a) (I.base.free b o e n a)
 ·obtain⟨U,y⟩:=I.base.slot b o e n F a;obtain⟨W,P⟩:=B b _ (Q b o e) F (A b o e a) y (I.base.free b o e n a);exact⟨W,P⟩
 ·obtain⟨L,y⟩:=I.base.there b o e a;exact f b L (A b o e a) y (I.base.free b o e n a)
 ·obtain⟨L,y⟩:=I.base.there b o e a;exact D b L (A b o e a) y
 ·obtain⟨m1,y⟩:=I.base.tbls b T e;obtain⟨m2,P⟩:=N b _ y;exact⟨m1++m2,by rw[P,Array.append_assoc]⟩
 ·obtain⟨m,hn,hl⟩:=I.loc;refine⟨m,ns m hn,λi x v y P e3=>?_⟩;obtain⟨u,r,l⟩:=hl i x v y P e3;refine⟨u,r,?_⟩;rcases l with l|⟨k,c,e,z⟩
  ·exact .inl l
  ·exact .inr ⟨k,c,e,h x c e _ z⟩
 ·obtain⟨v,z⟩:=I.cell x c e;exact⟨v,h x c e v z⟩
 ·obtain⟨m,⟨o,_,_,J,_⟩,_⟩:=I.loc;exact f _ o (λz=>(g _ z).2.1 rfl) J I.free
 ·obtain⟨v,o,J,Z⟩:=I.cell x c e;exact f c o (λz=>(g c z).2.2.1 x c e rfl) J (I.freeC x c e)
 ·obtain⟨e,n,ne,nf,d⟩:=I.pin p hp;have t:p.1 ∉ ch:=λz=>(g p.1 z).2.2.2 p hp rfl;exact⟨j p.1 p.2 ne nf t e n,f p.1 p.2 t e n,ne,nf,d⟩
def Inv.un{t':Nat}(I:Inv X pins σ H s)(u:Un X.fs [] H H' s.heap h')(c:HOk X.prog X.w H' h'):Inv X pins σ H' { s with heap:=h',toks:=t' }:=by
 obtain⟨m,⟨o,t,p,h,r⟩,_⟩:=id I.loc;obtain⟨q,k⟩:=u.any h I.free (by simp);exact I.step (ch:=[]) (λ_ z=>nomatch z) (λb o _ g _ e n=>u.keep b o e n g (by simp)) (λb o _ g _ e n=>u.slot b o e n g (by simp)) (λb o _ e n=>u.free b o e n (by simp)) (λb o _ e=>u.there b o e (by simp)) u.tups u.frzs u.tbls (λv j=>by
  obtain⟨l,d,f,a,i⟩:=j;rw[h]at a;cases a;exact⟨_,d,f,k,i⟩) c I.bare
def Inv.call{t':Nat}{d':Drawn}(I:Inv X pins σ H s)(u:Un (sM X.stack) ch H H' s.heap h')(g:HOk X.prog X.w H' h')(t:AllBare g')
  (d:∀b∈ch,(b∈X.ex\/X.s₀.heap.objs.size<=b)/\b≠X.env.locals/\(∀x c,X.env.cells.lookup x=some c->c≠b)/\∀p∈X.pn++pins,p.1≠b):
  Inv X pins σ H' { s with heap:=h',gens:=g',drawn:=d',toks:=t' }:=by
 obtain⟨m,⟨o,C,y,k,r⟩,_⟩:=id I.loc;obtain⟨A,h⟩:=u.any k I.free λz=>(d _ z).2.1 rfl;exact I.step d (λb o h v a e n=>u.keep b o e n (λz=>(aac.mp (I.qd b z)).elim h v) a) (λb o _ _ a e n=>u.any e n a) (λb o a e n=>u.free b o e n a) (λb o a e=>u.there b o e a) u.tups u.frzs u.tbls (λD q=>by
  obtain⟨B,i,j,f,l⟩:=q;rw[k]at f;cases f;exact⟨_,i,j,h,l⟩) g t
def Inv.turned{t':Nat}(I:Inv X pins σ H s)(k:∀b o,b≠it->s.heap.get? b=some o->h'.get? b=some o)(j:H it=none)(f:it≠X.env.locals)
  (t:it∈X.ex\/X.s₀.heap.objs.size<=it) (h:∀x c,X.env.cells.lookup x=some c->c≠it) (y:∀p∈X.pn++pins,p.1≠it):Inv X pins σ H { s with heap:=h',toks:=t' }:=by
 have d:∀b u,H b=some u->b≠it:=λb u e z=>by rw[z,j]at e;cases e
 refine I.step (ch:=[it]) (λb A=>?_) (λb o _ _ a e _=>k b o (λz=>a (by simp[z])) e) (λb o _ _ a e _=>⟨o.slots,k b o (λz=>a (by simp[z])) e⟩) (λ_ _ _ _ n=>n)
  (λb o a e=>⟨o,k b o (λz=>a (by simp[z])) e⟩) (λ_ _ e=>e) (λ_ _ _ e=>e) (λb B e=>⟨#[],by rw[e];simp⟩) (λm l=>?_) (λb u e=>?_) I.bare
 ·have e:b=it:=by simpa using A
  subst e;exact⟨t,f,h,y⟩
 ·obtain⟨o,i,g,w,r⟩:=l;exact⟨o,i,g,k _ o (aaF f) w,r⟩
 ·refine(I.hok b u e).p9 (λc v a q=>k c v ?_ q) (λ_ q=>q) λ_ _ q=>q;rcases a with z|z
  ·rw[z];exact d b u e
  ·exact d c _ z
def Inv.tok(I:Inv X pins σ H s)(t:Nat):Inv X pins σ H { s with toks:=t }:=I.un (h':=s.heap) (t':=t) Un.refl I.hok
def Inv.kept{t':Nat}(I:Inv X pins σ H s)(k:∀b u,s.heap.get? b=some u->h'.get? b=some u):Inv X pins σ H { s with heap:=h',toks:=t' }:=I.un (Un.kept k) (I.hok.kept k)
def Inv.laid{a:Addr}{o:HO}{t':Nat}(I:Inv X pins σ H s)(k:∀b u,s.heap.get? b=some u->h'.get? b=some u)(c:s.heap.objs.size<=a)(d:ObjOk X.prog X.w (upd H a o) h' a o):
  Inv X pins σ (upd H a o) { s with heap:=h',toks:=t' }:=I.un (Un.laid k c (I.hok.fresh c)) (I.hok.laid k c d)
def Inv.write{t':Nat}(I:Inv X pins σ H s)(d:DB (H x))(f:e=x\/H e=some (.own x))(k:∀b u,b≠e->s.heap.get? b=some u->h'.get? b=some u)(a:∃u,h'.get? e=some u)
  (c:ObjOk X.prog X.w (upd H x o) h' x o):Inv X pins σ (upd H x o) { s with heap:=h',toks:=t' }:=I.un (Un.write d f k a) (I.hok.write d f k a c)
theorem Inv.tr(I:Inv X pins σ H s)(h:∀p∈pins',s.heap.get? p.1=some p.2/\H p.1=none/\p.1≠X.env.locals/\p.1 ∉ X.fs/\∀v,p.2.data≠.cell v):Inv X pins' σ H s:=
 ⟨I.ok,I.os,I.bare,I.base,I.loc,I.cell,I.free,I.freeC,λp a=>(aai.mp a).elim (λz=>I.pin p (aaf _ z)) (h p),I.hok,I.len⟩
def lr{N:List Str}(c:N.Nodup){i j:Nat}(a:N[i]?=some x)(b:N[j]?=some x):i=j:=by obtain⟨g,e⟩:=aaj.mp a;obtain⟨f,d⟩:=aaj.mp b;exact(List.getElem_inj c).mp (e.trans d.symm)
theorem ju{M:Model}{A:Around}{E:Value->Shared->Prop}(I:Inv X pins σ H s)(hN:X.N.Nodup)(W:X.N[i]?=some x)(B:Loc X.env.scope x)(r:RelV v u)
  (h:∀s',Inv X pins (σ.set i (some v)) H s'->(∃a,Heap.SameBut a s.heap s'.heap/\(a=X.env.locals\/X.env.cells.lookup x=some a))->Q () s') (hf:X.fn x=true\/X.env.scope.names.lookup x=some .local:=by first|exact .inl rfl|exact .inr rfl|assumption):wpAny M A (storeName X.env x u) Q E s:=by
 obtain⟨m,hn,hl⟩:=id I.loc;have Z:(X.env.scope.kind==.class||(X.env.scope.kind==.module&&X.env.locals !=X.env.globals))=false:=by rw[I.ok.kind];rfl
 have F:i<σ.length:=by rw[I.len];exact(aaj.mp W).1
 have P:=I.cne;have g:∀{a:Addr}{h':Heap},(∃o,s.heap.get? a=some o/\H a=none)->Heap.SameBut a s.heap h'->HOk X.prog X.w H h':=λ{a h'} ha f b ob e=>by
  obtain⟨_,_,C⟩:=ha;refine(I.hok b ob e).p9 (λc w' t q=>(f.2 c ?_).trans q) (λ_ q=>q) λ_ _ q=>q;rintro rfl;rcases t with rfl|t
  ·rw[C]at e;cases e
  ·rw[C]at t;cases t
 rcases B with J|J
 ·refine wpAny_storeName_local J hn (λh' a2 f=>?_) Z;obtain⟨oL,_,_,a1,_⟩:=id hn;refine h _ ⟨I.ok,I.os,I.bare,⟨λb o e n S B=>?_,λb o e n S B=>?_,I.base.free,λb o e B=>?_,I.base.tups,I.base.frzs,I.base.tbls⟩,⟨_,a2,λj y v' l D e3=>?_⟩,λy c e=>?_,I.free,I.freeC,λp hp=>?_,g ⟨oL,a1,I.free⟩ f,by simpa using I.len⟩ ⟨_,f,.inl rfl⟩
  ·exact(f.2 b (aar (aay (adc e) I.ok.above))).trans (I.base.keep b o e n S B)
  ·obtain⟨sl,l⟩:=I.base.slot b o e n S B;exact⟨sl,(f.2 b (aar (aay (adc e) I.ok.above))).trans l⟩
  ·obtain⟨o',l⟩:=I.base.there b o e B;exact⟨o',(f.2 b (aar (aay (adc e) I.ok.above))).trans l⟩
  ·by_cases L:j=i
   ·subst L;rw[W]at l;cases l;rw[aa7 F]at D;cases D;exact⟨u,r,.inl ⟨J,by simp⟩⟩
   ·rw[abf (aaF L)]at D;obtain⟨u',r',q⟩:=hl j y v' l D e3;refine⟨u',r',?_⟩;rcases q with ⟨k,e⟩|⟨k,c,e,z⟩
    ·refine .inl ⟨k,?_⟩;have:y≠x:=λe=>L (lr hN l (e▸W));simp[this,e]
    ·exact .inr ⟨k,c,e,z.sameBut f (P y c e)⟩
  ·obtain⟨w',z⟩:=I.cell y c e;exact⟨w',z.sameBut f (P y c e)⟩
  ·obtain⟨e,n,ne,nf,d⟩:=I.pin p hp;exact⟨(f.2 p.1 ne).trans e,n,ne,nf,d⟩
 ·have O:X.fn x=true:=by
   rcases hf with z|z
   ·exact z
   ·rw[z]at J;cases J
  obtain⟨c,t⟩:=I.ok.has x (.inl J);obtain⟨w',z⟩:=I.cell x c t;refine wpAny_storeName_cell I.ok.kind J t z (λh' U f=>?_);obtain⟨oc,a0,T⟩:=id z;refine h { s with heap:=h' } ⟨I.ok,I.os,I.bare,⟨λb o e n S B=>?_,λb o e n S B=>?_,I.base.free,λb o e B=>?_,I.base.tups,I.base.frzs,I.base.tbls⟩,⟨m,hn.sameBut f (aaF (P x c t)),λj y v' l D e3=>?_⟩,λy c' e=>?_,I.free,I.freeC,λp hp=>?_,g ⟨oc,a0,I.freeC x c t⟩ f,by simpa using I.len⟩ ⟨c,f,.inr t⟩
  ·exact(f.2 b (aar (aay (adc e) (I.ok.cab x c O t)))).trans (I.base.keep b o e n S B)
  ·obtain⟨sl,l⟩:=I.base.slot b o e n S B;exact⟨sl,(f.2 b (aar (aay (adc e) (I.ok.cab x c O t)))).trans l⟩
  ·obtain⟨o',l⟩:=I.base.there b o e B;exact⟨o',(f.2 b (aar (aay (adc e) (I.ok.cab x c O t)))).trans l⟩
  ·by_cases L:j=i
   ·subst L;rw[W]at l;cases l;rw[aa7 F]at D;cases D;exact⟨u,r,.inr ⟨.inl J,c,t,U⟩⟩
   ·rw[abf (aaF L)]at D;obtain⟨u',r',q⟩:=hl j y v' l D e3;refine⟨u',r',?_⟩;rcases q with q|⟨k,c',e,z'⟩
    ·exact .inl q
    ·refine .inr ⟨k,c',e,z'.sameBut f ?_⟩;rintro rfl;exact L (lr hN l (I.ok.inj _ _ _ e t▸W))
  ·by_cases Y:c'=c
   ·subst Y;exact⟨_,U⟩
   ·obtain⟨w2,z2⟩:=I.cell y c' e;exact⟨w2,z2.sameBut f Y⟩
  ·obtain⟨e,n,ne,nf,d⟩:=I.pin p hp;refine⟨(f.2 p.1 ?_).trans e,n,ne,nf,d⟩;intro q;rw[q,a0]at e;have q':oc=p.2:=aaE e;exact d w' (by rw[<-q'];exact T)
def bS{M:Model}{A:Around}{E:Value->Shared->Prop}(I:Inv X pins σ H s)(d:X.N.Nodup)(c:X.N[i]?=some x)(f:Loc X.env.scope x)(r:RelV v u)
  (h:∀a,Inv X pins (σ.set i (some v)) H a->Q () a) (e:X.fn x=true\/X.env.scope.names.lookup x=some .local:=by first|exact .inl rfl|exact .inr rfl|assumption):wpAny M A (storeName X.env x u) Q E s:=
 ju I d c f r (λa b _=>h a b) e
def Inv.call'(I:Inv X pins σ H s)(h:s'.os=s.os)(u:Un (sM X.stack) ch H H' s.heap s'.heap)(a:HOk X.prog X.w H' s'.heap)(g:AllBare s'.gens)
  (d:∀b∈ch,(b∈X.ex\/X.s₀.heap.objs.size<=b)/\b≠X.env.locals/\(∀x c,X.env.cells.lookup x=some c->c≠b)/\∀p∈X.pn++pins,p.1≠b):Inv X pins σ H' s':=by
 obtain⟨h',j,k,i,f⟩:=s';have e:f=s.os:=h;subst e;exact I.call u a g d
end
abbrev XK:=Value->Option Addr->Hp->Prop
abbrev St:=List (Option V)
abbrev VK:=V->Hp->Prop
abbrev TE:=St->Hp->VK->Prop
abbrev TT:=St->Hp->(Bool->Hp->Prop)->Prop
abbrev TA:=St->Hp->(List V->Hp->Prop)->Prop
structure Ends where
 nx:St->Hp->Prop
 rt:VK
 bk:St->Hp->Prop:=λ_ _=>False
 ct:St->Hp->Prop:=λ_ _=>False
abbrev TS:=Ends->St->Hp->Prop
def EP(X:Cx)(a:List (Addr×Obj))(σ:St)(Q:VK)(u:Value)(c:Shared):Prop:=∃v b,Inv X a σ b c/\RelV v u/\Q v b
def TP(X:Cx)(a:List (Addr×Obj))(σ:St)(Q:Bool->Hp->Prop)(b:Bool)(d:Shared):Prop:=∃c,Inv X a σ c d/\Q b c
def AP(X:Cx)(a:List (Addr×Obj))(σ:St)(Q:List V->Hp->Prop)(us:List Value)(d:Shared):Prop:=∃c b,Inv X a σ b d/\Vals c us/\Q c b
def SP(X:Cx)(b:List (Addr×Obj))(D:Ends)(f:Flow)(d:Shared):Prop:=
 match f with
 |.next=>∃a c,Inv X b a c d/\D.nx a c
 |.brk=>∃a c,Inv X b a c d/\D.bk a c
 |.cont=>∃a c,Inv X b a c d/\D.ct a c
 |.ret u=>∃v a c,Inv X b a c d/\RelV v u/\D.rt v c
def PE(X:Cx)(e:Expr)(t:TE):Prop:=
 ∀(a:List (Addr×Obj)) (s:Shared) (b:St) (H:Hp) (Q:VK),Inv X a b H s->t b H Q->wpAny (model X.prog X.w) X.A (eval e X.env) (EP X a b Q) X.xe s
def PT(X:Cx)(e:Expr)(t:TT):Prop:=
 ∀(a:List (Addr×Obj)) (s:Shared) (b:St) (H:Hp) (Q:Bool->Hp->Prop),Inv X a b H s->t b H Q->wpAny (model X.prog X.w) X.A (isTrue e X.env (eval e X.env)) (TP X a b Q) X.xe s
def PW(X:Cx)(e:Expr)(t:TT):Prop:=
 ∀(b:Sem Value) (a:List (Addr×Obj)) (s:Shared) (c:St) (H:Hp) (Q:Bool->Hp->Prop),Inv X a c H s->t c H Q->wpAny (model X.prog X.w) X.A (isTrue e X.env b) (TP X a c Q) X.xe s
def PW.pt(h:PW X e t):PT X e t:=h _
def PA(X:Cx)(es:List Expr)(t:TA):Prop:=
 ∀(b:Pos) (a:List (Addr×Obj)) (s:Shared) (c:St) (H:Hp) (Q:List V->Hp->Prop),Inv X a c H s->t c H Q->wpAny (model X.prog X.w) X.A (spliced (backTo b (starEach es X.env))) (AP X a c Q) X.xe s
def PS(X:Cx)(st:Stmt)(t:TS):Prop:=
 ∀(a:List (Addr×Obj)) (s:Shared) (b:St) (H:Hp) (D:Ends),Inv X a b H s->t D b H->wpAny (model X.prog X.w) X.A (exec st X.env) (SP X a D) X.xe s
def PSs(X:Cx)(st:List Stmt)(t:TS):Prop:=
 ∀(a:List (Addr×Obj)) (s:Shared) (b:St) (H:Hp) (D:Ends),Inv X a b H s->t D b H->wpAny (model X.prog X.w) X.A (execs st X.env) (SP X a D) X.xe s
def thn{b:Type}{t:Sem b}{Q c:b->Shared->Prop}{A:Around}(h:wpAny M A t Q E s)(d:∀a s,Q a s->c a s):wpAny M A t c E s:=adh h d λ_ _ x=>x
end
section
section
variable{X:Cx}
def tVar(i:Nat):TE:=λa H Q=>∃v,a[i]?=some (some v)/\Q v H
def tC(v:V):TE:=λ_ H Q=>Q v H
def bH{pos:Pos} (w:X.N[i]?=some x) (t:Vis X.env.scope x) (j:(x==("__debug__":Str))=false:=by decide) (g:(x==("__classdict__":Str))=false:=by decide):PE X (.Name x pos) (tVar i):=by
 intro f s q H Q I h;obtain⟨v,e,h⟩:=h;obtain⟨m,n,p⟩:=I.loc;obtain⟨u,r,l⟩:=p i x v w e t;have b:EP X f q Q u s:=⟨v,H,I,r,h⟩
 rcases l with ⟨d,o⟩|⟨d,c,k,a⟩
 ·exact wpAny_Name (wpAny_loadName_local I.ok.kind d n o b) j
 ·rcases d with d|d
  ·exact wpAny_Name (wpAny_loadName_cell I.ok.kind d k a b) j
  ·exact wpAny_Name (wpAny_loadName_free I.ok.kind d k a b g) j
def jW{i j pos}:PE X (.Constant (.int i) j pos) (tC (.int i)):=λ_ _ _ H _ I h=>wpAny_Constant_int ⟨.int i,H,I.tok _,⟨_,rfl⟩,h⟩
def DD{b j pos}:PE X (.Constant (.bool b) j pos) (tC (.bl b)):=λ_ _ _ H _ I h=>Constant_bool ⟨.bl b,H,I,rfl,h⟩
def As{x j pos}:PE X (.Constant (.str x) j pos) (tC (.str x)):=λ_ _ _ H _ I h=>Calls.Constant_str ⟨.str x,H,I.tok _,⟨_,rfl⟩,h⟩
def Gl(X:Cx)(x:Str):Prop:=X.env.kindOf x=some .globalImplicit
def jX{E:Value->Shared->Prop}{pos:Pos}(I:Inv X pins σ H s)(a:Gl X x)(c:X.mg x=some u)(h:Q u s)
  (b:(x==("__debug__":Str))=false:=by decide):wpAny (model X.prog X.w) X.A (eval (.Name x pos) X.env) Q E s:=
 ad2 I.ok.kind a (Calls.loadGlobal_global (by rw[I.ok.glob];exact I.mod.glob.keeps I.bk) c h) b
def fU{E:Value->Shared->Prop}{a:List (Addr×Obj)}{s:Shared}{pos:Pos}(I:Inv X a σ H s)(c:Gl X x)(i:X.mg x=none)(b:bootBuiltins x=some u)(h:Q u s)
  (e:x≠"__name__":=by decide) (f:(x==("__debug__":Str))=false:=by decide):wpAny (model X.prog X.w) X.A (eval (.Name x pos) X.env) Q E s:=by
 obtain⟨j,g,d⟩:=I.mod.blt;exact ad2 I.ok.kind c (Calls.loadGlobal_builtin (by rw[I.ok.glob];exact I.mod.glob.keeps I.bk) i (by rw[I.ok.blt];exact g.keeps I.bk) ((d x e).trans b) h) f
def wW{pos:Pos} (a:Gl X x) (c:X.mg x=some u) (r:RelV v u) (b:(x==("__debug__":Str))=false:=by decide):PE X (.Name x pos) (tC v):=
 λ_ _ _ H _ I h=>jX I a c ⟨v,H,I,r,h⟩ b
def wX{pos:Pos} (a:Gl X x) (e:X.mg x=none) (d:bootBuiltins x=some u) (r:RelV v u) (b:x≠"__name__":=by decide) (c:(x==("__debug__":Str))=false:=by decide):PE X (.Name x pos) (tC v):=
 λ_ _ _ H _ I h=>fU I a e d ⟨v,H,I,r,h⟩ b c
variable{a b:Expr}{ta tb:TE}{pos:Pos}
def PC(X:Cx)(g:CmpOp)(a b:Expr)(t:TE):Prop:=
 ∀(c:List (Addr×Obj)) (s:Shared) (f:St) (H:Hp) (Q:VK),Inv X c f H s->t f H Q ->
  wpAny (model X.prog X.w) X.A (eval a X.env) (λv e=>wpAny (model X.prog X.w) X.A (eval b X.env) (λu d=>wpAny (model X.prog X.w) X.A (compareOp g v u) (EP X c f Q) X.xe d) X.xe e) X.xe s
def nobehind(b:Expr)(h:op≠.In)(c:op≠.NotIn):behindInMarks op b=false:=by
 have e:(op==CmpOp.In)=false:=by cases op<;>first|rfl|exact absurd rfl h
 have d:(op==CmpOp.NotIn)=false:=by cases op<;>first|rfl|exact absurd rfl c
 cases b<;>simp[behindInMarks,e,d]
def tB(t:TE):TT:=λd H Q=>t d H λx e=>∃c,x=.bl c/\Q c e
def sN(h:PC X op a b t)(f:behindInMarks op b=false:=by first|exact nobehind _ (by decide) (by decide)|rfl):PE X (.Compare a [op] [b] pos) t:=λc s e H Q I d=>wpAny_Compare1 (h c s e H Q I d) f
def sO{f:CmpOp}{t:TE}(h:PC X f a b t)(g:behindInMarks f b=false:=by first|exact nobehind _ (by decide) (by decide)|rfl):PT X (.Compare a [f] [b] pos) (tB t):=by intro e s n H Q I k;refine wpAny_isTrue_Compare1 (thn (h e s n H _ I k) λv w g=>thn g λu y j=>thn j λc r o=>?_) g;obtain⟨x,p,i,l,m⟩:=o;obtain⟨d,rfl,q⟩:=m;cases l;exact ado ⟨p,i,q⟩
variable{tA tB':TT}{rest:List Expr}
def GB(t u:TT):TT:=λd H Q=>t d H λc e=>if c=true then u d e Q else Q false e
def Jc(t u:TT):TT:=λd H Q=>t d H λc e=>if c=true then Q true e else u d e Q
def GC(t:TT):TT:=λd H Q=>t d H λc e=>Q (!c) e
def wY(g:PT X a tA):PW X (.BoolOp .And [a] pos) tA:=by
 intro i d s f H Q I h;refine isTrue_and (thn (g d s f H Q I h) λc j e=>?_);cases c with
 |true=>exact isTrue_and_nil e
 |false=>exact e
def Au(g:PT X a tA):PW X (.BoolOp .Or [a] pos) tA:=by
 intro i d s f H Q I h;refine isTrue_or (thn (g d s f H Q I h) λc j e=>?_);cases c with
 |false=>exact isTrue_or_nil e
 |true=>exact e
def Av(m:PT X a tA)(l:PW X (.BoolOp .And (b::rest) pos) tB'):PW X (.BoolOp .And (a::b::rest) pos) (GB tA tB'):=by
 intro j d s e H Q I h;refine isTrue_and (thn (m d s e H _ I h) λc n k=>?_);obtain⟨f,g,i⟩:=k;cases c with
 |true=>exact l j d n e f Q g i
 |false=>exact⟨f,g,i⟩
def DF(m:PT X a tA)(l:PW X (.BoolOp .Or (b::rest) pos) tB'):PW X (.BoolOp .Or (a::b::rest) pos) (Jc tA tB'):=by
 intro j d s e H Q I h;refine isTrue_or (thn (m d s e H _ I h) λc n k=>?_);obtain⟨f,g,i⟩:=k;cases c with
 |true=>exact⟨f,g,i⟩
 |false=>exact l j d n e f Q g i
def Aw(g:PT X a tA):PT X (.UnaryOp .Not a pos) (GC tA):=by intro d s e H Q I h;exact isTrue_not (g d s e H (λc f=>Q (!c) f) I h)
def DH(ta tb:TE):TE:=λd H Q=>ta d H λx e=>∃c,x=.bl c/\if c=true then tb d e Q else Q (.bl false) e
def GD(ta tb:TE):TE:=λd H Q=>ta d H λx e=>∃c,x=.bl c/\if c=true then Q (.bl true) e else tb d e Q
def DJ(ta:TE):TE:=λd H Q=>ta d H λx e=>∃c,x=.bl c/\Q (.bl (!c)) e
def Ax{e}(h:PE X a t):PE X (.BoolOp e [a] pos) t:=λc s f H Q I d=>BoolOp_one (h c s f H Q I d)
def Ay(j:PE X a ta)(n:PE X (.BoolOp .And (b::rest) pos) tb):PE X (.BoolOp .And (a::b::rest) pos) (DH ta tb):=by
 intro d s g H Q I h;refine BoolOp_and (thn (j d s g H _ I h) λv l m=>?_);obtain⟨x,i,f,k,e⟩:=m;obtain⟨c,rfl,e⟩:=e;cases k;refine ado ?_;cases c with
 |true=>exact n d l g i Q f e
 |false=>exact⟨.bl false,i,f,rfl,e⟩
def DL(j:PE X a ta)(n:PE X (.BoolOp .Or (b::rest) pos) tb):PE X (.BoolOp .Or (a::b::rest) pos) (GD ta tb):=by
 intro d s g H Q I h;refine BoolOp_or (thn (j d s g H _ I h) λv l m=>?_);obtain⟨x,i,f,k,e⟩:=m;obtain⟨c,rfl,e⟩:=e;cases k;refine ado ?_;cases c with
 |false=>exact n d l g i Q f e
 |true=>exact⟨.bl true,i,f,rfl,e⟩
def Az(l:PE X a ta):PE X (.UnaryOp .Not a pos) (DJ ta):=by intro d s f H Q I h;refine UnaryOp_ (thn (l d s f H _ I h) λv m g=>?_);obtain⟨x,i,j,k,e⟩:=g;obtain⟨c,rfl,e⟩:=e;cases k;exact not_of (ado ⟨.bl (!c),i,j,rfl,e⟩)
def Jd(t:TT)(ta tb:TE):TE:=λd H Q=>t d H λc e=>if c=true then ta d e Q else tb d e Q
def sP{c:Expr}(o:PT X c tA)(n:PE X a ta)(m:PE X b tb):PE X (.IfExp c a b pos) (Jd tA ta tb):=by
 intro e s f H Q I h;refine wpAny_IfExp (thn (o e s f H _ I h) λd k l=>?_);obtain⟨g,i,j⟩:=l;cases d with
 |true=>exact n e k f g Q i j
 |false=>exact m e k f g Q i j
end
end
section
def SqL(K:Waa)(H:Hp)(a:Addr)(xs:List V):Prop:=
 Rd H a (.lst xs) \/
  ∃(o:Obj) (b:Array Value) (n:Nat),K.lookup a=some o/\o.cls=.type "list"/\o.dict=none/\o.data=.seq b n/\b.size<=sizeLine/\Vals xs b.toList
def SqT(K:Waa)(H:Hp)(a:Addr)(xs:List V):Prop:=
 Rd H a (.tup xs) \/
  ∃(o:Obj) (b:Array Value) (n:Nat),K.lookup a=some o/\o.cls=.type "tuple"/\o.dict=none/\o.data=.seq b n/\b.size<=sizeLine/\Vals xs b.toList
def GE:Value->Option V
 |.none=>some .non
 |.bool b=>some (.bl b)
 |.int i _=>some (.int i)
 |.str x _=>some (.str x)
 |.bytes b _=>some (.byt b)
 |.float b _=>some (.flt b)
 |.ref a=>some (.ref a)
 |.type n=>some (.ty n)
 |_=>none
def RelV.abs(r:RelV x u):GE u=some x:=by
 cases x with
 |non=>cases r;rfl
 |bl _=>cases r;rfl
 |int _=>obtain⟨t,rfl⟩:=r;rfl
 |str _=>obtain⟨t,rfl⟩:=r;rfl
 |byt _=>obtain⟨t,rfl⟩:=r;rfl
 |flt _=>obtain⟨t,rfl⟩:=r;rfl
 |ref _=>cases r;rfl
 |ty _=>cases r;rfl
def RelV.inj{x y:V}{u:Value}(r:RelV x u)(q:RelV y u):x=y:=aaE (r.abs.symm.trans q.abs)
def Vals.inj{xs ys:List V}{us:List Value}(h:Vals xs us)(h':Vals ys us):xs=ys:=by
 induction us generalizing xs ys with
 |nil=>cases h;cases h';rfl
 |cons u us c=>cases h with|cons r t=>cases h' with|cons b a=>rw[r.inj b,c t a]
section
variable{X:Cx}{pins:List (Addr×Obj)}{σ:St}{H:Hp}{s:Shared}{a:Addr}{xs ys:List V}
def SqL.of{K:Waa}(h:H a=some (.lst xs)):SqL K H a xs:=.inl (.inl h)
def SqT.of{K:Waa}(h:H a=some (.tup xs)):SqT K H a xs:=.inl (.inl h)
def Inv.list(I:Inv X pins σ H s)(h:SqL X.K H a xs):∃b:List Value,Vals xs b/\PlainL s.heap a b.toArray/\xs.length<=sizeLine:=by
 rcases h with h|⟨o,b,n,g,d,c,f,i,r⟩
 ·obtain⟨z,b,n,r,e⟩:=h.ok I.hok;exact⟨b,r,⟨_,n,e,rfl,rfl,rfl⟩,z⟩
 ·refine⟨b.toList,r,⟨o,n,I.rz a o g,d,c,by simpa using f⟩,?_⟩;have e:=r.length;simp only[aaK]at e;omega
def Inv.tuple(I:Inv X pins σ H s)(h:SqT X.K H a xs):∃b:List Value,Vals xs b/\IsTup s.heap a b.toArray/\xs.length<=sizeLine:=by
 rcases h with h|⟨o,b,n,i,f,_,g,j,r⟩
 ·obtain⟨z,b,r,o,e,c,n,d,_⟩:=h.ok I.hok;exact⟨b,r,⟨o,e,c,n,d⟩,z⟩
 ·refine⟨b.toList,r,⟨o,I.rz a o i,f,n,by simpa using g⟩,?_⟩;have e:=r.length;simp only[aaK]at e;omega
theorem Inv.ro(I:Inv X pins σ H s)(h:SqL X.K H a xs)(h':SqL X.K H a ys):xs=ys:=by
 obtain⟨c,r,⟨o,n,e,_,_,d⟩,_⟩:=I.list h;obtain⟨b,i,⟨j,k,f,_,_,g⟩,_⟩:=I.list h';rw[e]at f;cases f;rw[d]at g;injection g with d1 _;have:c=b:=by simpa using congrArg Array.toList d1
 subst this;exact r.inj i
def Inv.tupN(I:Inv X pins σ H s)(h:SqT X.K H a xs):∃o,s.heap.get? a=some o/\o.cls=.type "tuple"/\o.dict=none:=by
 rcases h with h|⟨o,b,n,i,g,f,k,j,r⟩
 ·obtain⟨_,_,_,o,e,c,_,_,d⟩:=h.ok I.hok;exact⟨o,e,c,d⟩
 ·exact⟨o,I.rz a o i,g,f⟩
def Inv.uh(I:Inv X pins σ H s)(h:SqT X.K H a xs)(h':SqT X.K H a ys):xs=ys:=by
 obtain⟨c,r,⟨o,e,_,n,d⟩,_⟩:=I.tuple h;obtain⟨b,i,⟨j,f,_,k,g⟩,_⟩:=I.tuple h';rw[e]at f;cases f;rw[d]at g;injection g with d1 _;have:c=b:=by simpa using congrArg Array.toList d1
 subst this;exact r.inj i
end
abbrev Cx.l3(X:Cx)(E:Value->Shared->Prop):Cx:={ X with xe:=E }
abbrev Cx.nox(X:Cx):Cx:=X.l3 λ_ _=>False
def Cx.Ok.l3{X:Cx}(a:X.Ok)(E:Value->Shared->Prop):(X.l3 E).Ok:=
 ⟨a.mod,a.kind,a.glob,a.blt,a.above,a.inj,a.has,a.cab,a.hd,a.frames,a.stk,a.exf,a.bs,a.bsz,a.noex,a.exfs,a.funs,a.frf⟩
def Cx.Ok.dw{X:Cx}(a:(X.l3 E).Ok):X.Ok:=
 ⟨a.mod,a.kind,a.glob,a.blt,a.above,a.inj,a.has,a.cab,a.hd,a.frames,a.stk,a.exf,a.bs,a.bsz,a.noex,a.exfs,a.funs,a.frf⟩
section
variable{X:Cx}{pins:List (Addr×Obj)}{σ:St}{H:Hp}{s:Shared}{E:Value->Shared->Prop}
def Inv.l3(I:Inv X pins σ H s)(E:Value->Shared->Prop):Inv (X.l3 E) pins σ H s:=⟨I.ok.l3 E,I.os,I.bare,I.base,I.loc,I.cell,I.free,I.freeC,I.pin,I.hok,I.len⟩
def Inv.dw(I:Inv (X.l3 E) pins σ H s):Inv X pins σ H s:=⟨I.ok.dw,I.os,I.bare,I.base,I.loc,I.cell,I.free,I.freeC,I.pin,I.hok,I.len⟩
def SP.dw{D:Ends}(h:SP (X.l3 E) pins D f s'):SP X pins D f s':=by
 cases f with
 |next=>obtain⟨a,b,I,q⟩:=h;exact⟨a,b,I.dw,q⟩
 |brk=>obtain⟨a,b,I,q⟩:=h;exact⟨a,b,I.dw,q⟩
 |cont=>obtain⟨a,b,I,q⟩:=h;exact⟨a,b,I.dw,q⟩
 |ret u=>obtain⟨v,a,b,I,r,q⟩:=h;exact⟨v,a,b,I.dw,r,q⟩
def PSs.nox{a:List Stmt}(h:PSs X.nox a t):PSs X a t:=λpins s σ H D I b=>
 adh (h pins s σ H D (I.l3 _) b) (λ_ _ q=>q.dw) λ_ _ z=>False.elim z
end
section
variable{X:Cx}{st:Stmt}{rest:List Stmt}{t u:TS}{e:Expr}{te:TE}{pos:Pos}
def tNext:TS:=λD a H=>D.nx a H
def GF(t u:TS):TS:=λD a H=>t { D with nx:=u D } a H
def wZ:PSs X [] tNext:=λ_ _ a H _ I h=>wpAny_execs_nil ⟨a,H,I,h⟩
def lu(j:PS X st t)(i:PSs X rest u):PSs X (st::rest) (GF t u):=by
 intro a s g H D I h;refine wpAny_execs_cons (thn (j a s g H { D with nx:=u D } I h) λf k q=>?_);cases f with
 |next=>obtain⟨b,c,d,q⟩:=q;exact i a k b c D d q
 |ret v=>exact q
 |brk=>exact q
 |cont=>exact q
def tCont:TS:=λD a H=>D.ct a H
def lx:PS X (.Continue pos) tCont:=λ_ _ a H _ I h=>wpAny_Continue ⟨a,H,I,h⟩
def Inv.quiet{a:List (Addr×Obj)}{σ:St}(I:Inv X a σ H s):interactive X.env=false:=by simp[interactive,I.ok.kind]
def DM(te:TE):TS:=λD a H=>te a H λ_ b=>D.nx a b
def fq(g:PE X e te)(hs:swapsWith e none pos.line X.env=pure false:=by rfl):PS X (.Expr e pos) (DM te):=by intro a s b H D I h;exact wpAny_Expr_any (thn (g a s b H _ I h) λv j ⟨x,c,d,i,f⟩=>⟨b,c,d,f⟩) I.quiet hs
def GG(te:TE):TS:=λD a H=>te a H D.rt
def AA(i:PE X e te):PS X (.Return (some e) pos) (GG te):=by intro a s b H D I h;exact wpAny_Return_some (thn (i a s b H _ I h) λv j ⟨x,c,d,f,g⟩=>⟨x,b,c,d,f,g⟩)
def GH(c:TT)(t u:TS):TS:=λD a H=>c a H λb d=>if b=true then t D a d else u D a d
def DN{c:Expr}{a b:List Stmt}{tc:TT}(n:PT X c tc)(m:PSs X a t)(p:PSs X b u):PS X (.If c a b pos) (GH tc t u):=by
 intro f s g H D I h;refine wpAny_If (thn (n f s g H _ I h) λd k o=>?_);obtain⟨l,i,j⟩:=o;cases d with
 |true=>exact m f k g l D i j
 |false=>exact p f k g l D i j
def tNever:TS:=λ_ _ _=>False
def ly:PS X st tNever:=λ_ _ _ _ _ _ h=>h.elim
end
abbrev TG:=V->St->Hp->(St->Hp->Prop)->Prop
abbrev TGs:=List V->St->Hp->(St->Hp->Prop)->Prop
def PG(X:Cx)(a:Expr)(t:TG):Prop:=
 ∀(b:List (Addr×Obj)) (s:Shared) (e:St) (H:Hp) (v:V) (u:Value) (Q:St->Hp->Prop),Inv X b e H s->RelV v u->t v e H Q ->
  wpAny (model X.prog X.w) X.A (assign a X.env u) (λ_ f=>∃c d,Inv X b c d f/\Q c d) X.xe s
def Ds(X:Cx)(g:List Expr)(t:TGs):Prop:=
 ∀(a:List (Addr×Obj)) (s:Shared) (d:St) (H:Hp) (vs:List V) (e:List Value) (Q:St->Hp->Prop),Inv X a d H s->Vals vs e->t vs d H Q ->
  wpAny (model X.prog X.w) X.A (assignInOrder ((assignEach g X.env).map (·.2)) e) (λ_ f=>∃b c,Inv X a b c f/\Q b c) X.xe s
abbrev AB:=V->V->V->Hp->(Hp->Prop)->Prop
def PSet(X:Cx)(t:AB):Prop:=
 ∀(a:List (Addr×Obj)) (s:Shared) (d:St) (H:Hp) (o i v:V) (c e u:Value) (Q:Hp->Prop),Inv X a d H s->RelV o c->RelV i e->RelV v u->t o i v H Q ->
  wpAny (model X.prog X.w) X.A (setItem c e u) (λ_ f=>∃b,Inv X a d b f/\Q b) X.xe s
abbrev TIp:=V->V->Hp->VK->Prop
def Gc(X:Cx)(c:Operator)(t:TIp):Prop:=
 ∀(a:List (Addr×Obj)) (s:Shared) (b:St) (H:Hp) (x y:V) (v u:Value) (Q:VK),Inv X a b H s->RelV x v->RelV y u->t x y H Q ->
  wpAny (model X.prog X.w) X.A (inplaceOp c v u) (EP X a b Q) X.xe s
section
variable{X:Cx}{pos:Pos}
def gA(i:Nat):TG:=λv a H Q=>Q (a.set i (some v)) H
def w8(d:X.N.Nodup)(c:X.N[i]?=some x)(f:Loc X.env.scope x)(e:X.fn x=true\/X.env.scope.names.lookup x=some .local:=by first|exact .inl rfl|exact .inr rfl|assumption):PG X (.Name x pos) (gA i):=by intro a s j H v u Q I r h;exact wpAny_assign_Name (bS I d c f r (λg b=>⟨_,H,b,h⟩) e)
def gNil:TGs:=λb a H Q=>b=[]/\Q a H
def DP(t:TG)(u:TGs):TGs:=λd c H Q=>∃v r,d=v::r/\t v c H λa b=>u r a b Q
def w9:Ds X [] gNil:=by intro a s b H d c Q I r h;obtain⟨e,h⟩:=h;subst e;cases r;exact assignInOrder_nil ⟨b,H,I,h⟩
def sQ{e:Expr}{es:List Expr}(j:PG X e t)(d:Ds X es u)
  (hs:(assignEach (e::es) X.env).map (·.2)=assign e X.env::(assignEach es X.env).map (·.2):=by rfl):Ds X (e::es) (DP t u):=by
 intro a s i H q o Q I r h;obtain⟨v,p,k,h⟩:=h;subst k;cases r with
 |cons r g=>rw[hs];refine ady (thn (j a s i H _ _ _ I r h) λ_ l m=>?_);obtain⟨b,n,c,f⟩:=m;exact d a l b n _ _ Q c g f
def GI(K:Waa)(n:Nat)(t:TGs):TG:=λv c H Q=>∃a b,v=.ref a/\SqT K H a b/\b.length=n/\t b c H Q
def AC{k:Nat}(A:X.calm=true)(h:Ds X es t)
  (l:(assignEach es X.env).length=n:=by rfl) (d:(assignEach es X.env).findIdx? (·.1)=none:=by rfl):PG X (.Tuple es k pos) (GI X.K n t):=by
 intro c s g H v u Q I r f;obtain⟨a,p,z,y,w,f⟩:=f;subst z;cases r;obtain⟨x,i,q,C⟩:=I.tuple y;refine assign_Tuple_tuple (I.ok.hd A) q (by simp[l,<-w,i.length]) d λm B=>?_;have j:Inv X c g H { s with heap:=m }:=I.kept λb o e=>B b o (aar (adc e)) e;exact h c _ g H p _ Q j (by simpa using i) f
def GJ(e f:TE)(t:AB):TG:=λv a H Q=>e a H λo d=>f a d λi b=>t o i v b λc=>Q a c
def AD{o i:Expr}{f g:TE}{t:AB}(B:PE X o f)(m:PE X i g)(hs:PSet X t)
  (l:∀v,assign (.Subscript o i pos) X.env v=(do
   let b <-holding [v] (eval o X.env)
   let c <-holding [v,b] (eval i X.env)
   standAt pos
   holding [v,b,c] (setItem b c v)
   release [v,b,c] []):=by intro _;rfl):PG X (.Subscript o i pos) (GJ f g t):=by
 intro a s e H v u Q I r h;rw[l];refine ada (adj (thn (B a s e H _ I h) λb C d=>?_));obtain⟨x,J,k,p,q⟩:=d;refine ada (adj (thn (m a C e J _ k q) λc F d=>?_));obtain⟨y,j,n,L,w⟩:=d;refine ada (adq (ada (adj (thn (hs a F e j x y v b c u _ n p L r w) λ_ M d=>?_))));obtain⟨z,D,A⟩:=d;exact wpAny_release ⟨e,z,D,A⟩
def lz(c:TE)(g:TG):TS:=λD a H=>c a H λx b=>g x a b D.nx
def sR{b e:Expr}{d:TE}{g:TG}(i:PE X e d)(n:PG X b g)(hs:swapsWithSole [b] e pos.line X.env=pure false:=by rfl)(j:swappedStores [b] e X.env=pure none:=by rfl)
  (r:(assignEach [b] X.env).map (·.2)=[assign b X.env]:=by rfl):PS X (.Assign [b] e pos) (lz d g):=by
 intro a s c H D I h;refine wpAny_Assign_stores (thn (i a s c H _ I h) λv m o=>?_) hs j;obtain⟨x,p,f,k,l⟩:=o;rw[r];exact thn (n a m c p x v _ f k l) λ_ t q=>q
def sS{i:Nat}{x:Str}(m:X.N.Nodup)(d:X.N[i]?=some x)(p:Loc X.env.scope x)(c:PE X e te)(hs:swapsWith e (some (.Name x pos')) pos.line X.env=pure false:=by rfl)(l:X.fn x=true\/X.env.scope.names.lookup x=some .local:=by first|exact .inl rfl|exact .inr rfl|assumption):
  PS X (.Assign [.Name x pos'] e pos) (lz te (gA i)):=by
 intro a s k H D I h;refine wpAny_Assign_Name (thn (c a s k H _ I h) λv q n=>?_) hs;obtain⟨y,o,b,g,j⟩:=n;exact bS b m d p g (λr f=>⟨_,o,f,j⟩) l
def GK(i j:Nat)(c:TA):TS:=λD a H=>c a H λd b=>∃v w,d=[v,w]/\D.nx ((a.set i (some v)).set j (some w)) b
theorem AE{i j:Nat}{x y:Str}{m u d}(hc:X.calm=true)(F:X.N.Nodup)(S:X.N[i]?=some x)(M:X.N[j]?=some y)(l:i≠j)
  (L:X.env.scope.names.lookup x=some .local) (z:X.env.scope.names.lookup y=some .local) (Q:PA X [a,b] ta)
  (T:swappedStores [.Tuple [.Name x px,.Name y py] m pt] (.Tuple [a,b] u d) X.env=pure (some [x,y]))
  (hs:swapsWithSole [.Tuple [.Name x px,.Name y py] m pt] (.Tuple [a,b] u d) pos.line X.env=pure false:=by rfl):
  PS X (.Assign [.Tuple [.Name x px,.Name y py] m pt] (.Tuple [a,b] u d) pos) (GK i j ta):=by
 intro c s C H D I h;rw[exec_Assign_arm];refine ada (adq ?_);rw[hs];refine ada (adb ?_);rw[if_neg (by decide)];refine ada (Tuple_ (thn (Q _ c s C H _ I h) λO k hZ=>?_));obtain⟨vs,J,P,W,r⟩:=hZ;obtain⟨v,w,Z,r⟩:=r;subst Z;obtain⟨f,g,rfl,Y,t⟩:∃f g,O=[f,g]/\RelV v f/\RelV w g:=by
  cases W with
  |cons p q=>
   cases q with
   |cons p' q'=>cases q';exact⟨_,_,rfl,p,p'⟩
 refine adk ?_ (by show 2<=sizeLine;decide);have U:Inv X c C J { k with heap:=k.heap.push { cls:=.type "tuple",data:=.seq [f,g].toArray } }:=P.kept λb o e=>ade _ e;rw[T];refine ada (adb ?_);show wpAny (model X.prog X.w) X.A (do rule "assign.swapped-stores";let items <-unpackItems (.ref k.heap.objs.size) 2 none;assignInOrder [λv=>bindName X.env y v,λv=>bindName X.env x v] items.reverse;pure Flow.next) _ _ _;refine ada (adr (ada (unpackItems_tuple (items:=#[f,g]) (I.ok.hd hc) (IsTup.new k.heap _) λh' n=>?_)));have I3:=U.kept (t':=k.toks) λb o e=>n b o (aar (adc e)) e;show wpAny _ _ (assignInOrder [λv=>bindName X.env y v,λv=>bindName X.env x v] [g,f] >>= λ_=>pure Flow.next) _ _ _;refine ada (ady (adC (bS I3 F M (.inl z) t (λs2 I4=>?_) (.inr z))));refine ady (adC (bS I4 F S (.inl L) Y (λs3 B=>assignInOrder_nil (adb ?_)) (.inr L)));rw[abP _ _ (aaF l)]at B;exact⟨_,J,B,r⟩
def GL(i:Nat)(c:TE)(e:TIp):TS:=λD a H=>∃x,a[i]?=some (some x)/\c a H λy d=>e x y d λz b=>D.nx (a.set i (some z)) b
theorem AF{i:Nat}{x:Str}{f:Pos}(hN:X.N.Nodup)(t:X.N[i]?=some x)(p:Loc X.env.scope x)(M:PE X e te)(W:Gc X op ti)(U:X.fn x=true\/X.env.scope.names.lookup x=some .local:=by first|exact .inl rfl|exact .inr rfl|assumption):
  PS X (.AugAssign (.Name x f) op e pos) (GL i te ti):=by
 intro a s B H D I h;obtain⟨v,Y,h⟩:=h;obtain⟨m,J,O⟩:=I.loc;have n:Vis X.env.scope x:=by rcases p with k|k;exact .inl k;exact .inr (.inl k)
 obtain⟨u,r,l⟩:=O i x v t Y n;refine wpAny_AugAssign_Name ?_;have q:wpAny (model X.prog X.w) X.A (eval e X.env) (λw g=>wpAny (model X.prog X.w) X.A (inplaceOp op u w) (λr j=>wpAny (model X.prog X.w) X.A (storeName X.env x r) (λ_=>SP X a D .next) X.xe j) X.xe g) X.xe s:=by refine thn (M a s B H _ I h) λw Z o=>?_;obtain⟨y,H1,F,Q,S⟩:=o;refine thn (W a Z B H1 v y u w _ F r Q S) λz s2 o=>?_;obtain⟨zv,C,P,r2,T⟩:=o;exact bS P hN t p r2 (λs3 I3=>⟨_,C,I3,T⟩) U
 rcases l with ⟨b,L⟩|⟨b,c,hc,d⟩
 ·exact wpAny_loadName_local I.ok.kind b J L q
 ·rcases b with b|b
  ·exact wpAny_loadName_cell I.ok.kind b hc d q
  ·rcases p with k|k
   ·have:X.env.scope.names.lookup x=some .free:=b;rw[k]at this;cases this
   ·have:X.env.scope.names.lookup x=some .free:=b;rw[k]at this;cases this
def GM(f:Int->Int->Int):TIp:=λx y H Q=>∃i j,x=.int i/\y=.int j/\Q (.int (f i j)) H
def AG:Gc X .Add (GM λi j=>i+j):=by intro a s g H x y v u Q I b e h;obtain⟨i,j,d,c,q⟩:=h;subst d;subst c;obtain⟨t,rfl⟩:=b;obtain⟨f,rfl⟩:=e;exact iadd_int ⟨.int _,H,I.tok _,⟨_,rfl⟩,q⟩
def AH:Gc X .Sub (GM λi j=>i-j):=by intro a s g H x y v u Q I b e h;obtain⟨i,j,d,c,q⟩:=h;subst d;subst c;obtain⟨t,rfl⟩:=b;obtain⟨f,rfl⟩:=e;exact isub_int ⟨.int _,H,I.tok _,⟨_,rfl⟩,q⟩
end
structure It where
 go:Nat->Hp->Prop
 yld:Nat->Hp->V->Hp->Prop
 stop:Nat->Hp->Prop
def FpOk(X:Cx)(a:List (Addr×Obj))(H:Hp)(b:Addr):Prop:=
 H b=none/\b≠X.env.locals/\b ∉ X.fs/\(b∈X.ex\/X.s₀.heap.objs.size<=b)/\(∀x c,X.env.cells.lookup x=some c->c≠b)/\∀p∈X.pn++a,p.1≠b
def Inv.ub(I:Inv X pins σ H s)(a:s.heap.objs.size<=b)(f:H' b=none):FpOk X pins H' b:=by
 refine⟨f,aaL (aay I.lt a),I.nofs a,.inr (aav I.sz a),λx c e z=>?_,λp d z=>?_⟩
 ·obtain⟨v,q⟩:=I.cell x c e;exact absurd (aay q.lt (by rw[z];exact a)) (aaT _)
 ·exact absurd (aay (adc (I.pin p d).1) (by rw[z];exact a)) (aaT _)
structure Turn (P:Program)(w:World)(K:Waa)(tg:Expr)(J:It)(fp:List Addr)(it:Addr)(tn:Nat->Heap->Prop):Prop where
 mem:it∈fp
 obj:∀i h,tn i h->∀b∈fp,∃o,h.get? b=some o/\∀v,o.data≠.cell v
 keep:∀i h h',tn i h->(∀b∈fp,∀o,h.get? b=some o->h'.get? b=some o)->tn i h'
 item:∀(X:Cx),X.prog=P->X.w=w->X.K=K->X.calm=true->∀(i:Nat) (pins:List (Addr×Obj)) (s:Shared) (σ:St) (H:Hp) (E:Value->Shared->Prop),Inv X pins σ H s->(∀b∈fp,FpOk X pins H b)->tn i s.heap->J.go i H ->
  wpAny (model P w) X.A (pyNext (.ref it)) (λr s1=>∃u,r=some u /\
   wpAny (model P w) X.A (letOwnedTupleGo tg (.ref it) u) (λ_ s2=>∃x H',Inv X pins σ H' s2/\RelV x u/\J.yld i H x H'/\tn (i+1) s2.heap/\∀b∈fp,H' b=none) E s1) E s
 done:∀(X:Cx),X.prog=P->X.w=w->X.K=K->X.calm=true->∀(i:Nat) (pins:List (Addr×Obj)) (s:Shared) (σ:St) (H:Hp) (E:Value->Shared->Prop),Inv X pins σ H s->(∀b∈fp,FpOk X pins H b)->tn i s.heap->J.stop i H ->
  wpAny (model P w) X.A (pyNext (.ref it)) (λr s1=>r=none/\Inv X pins σ H s1) E s
 self:∀(A:Around) (i:Nat) (s:Shared) (Q:Value->Shared->Prop) (E:Value->Shared->Prop),tn i s.heap->Q (.ref it) s->wpAny (model P w) A (pyIter (.ref it)) Q E s
abbrev TI:=St->Hp->(It->Hp->Prop)->Prop
def Ij(X:Cx)(a:List (Addr×Obj))(σ:St)(i:Expr)(R:It->Hp->Prop)(d:Value)(f:Shared):Prop:=
 ∃(g:Addr) (e:List Addr) (h:Nat->Heap->Prop) (J:It) (c:Hp),d=.ref g/\Inv X a σ c f/\Turn X.prog X.w X.K i J e g h/\h 0 f.heap/\(∀b∈e,FpOk X a c b)/\R J c
def PI(X:Cx)(d b:Expr)(e:TI):Prop:=
 ∀(a:List (Addr×Obj)) (s:Shared) (c:St) (H:Hp) (R:It->Hp->Prop),Inv X a c H s->e c H R ->
  wpAny (model X.prog X.w) X.A (eval b X.env) (λv f=>wpAny (model X.prog X.w) X.A (pyIter v) (Ij X a c d R) X.xe f) X.xe s
def sT(b:s.heap.get? it=some o)(e:o.cls=.type n)(d:o.data=.fields vs)
  (c:["enumerate","zip","dict_itemiterator","dict_reverseitemiterator","odict_iterator","itertools.zip_longest","itertools.pairwise"].contains n=false) (a:Q () s):wpAny M A (letOwnedTupleGo tg (.ref it) u) Q E s:=by
 unfold letOwnedTupleGo;cases tg<;>first
  |exact adb a
  | (cases u<;>first
    |exact adb a
    | (refine ada (wpAny_load b ?_)
       rw[e,d];show wpAny M A (if (["enumerate","zip","dict_itemiterator","dict_reverseitemiterator","odict_iterator","itertools.zip_longest","itertools.pairwise"].contains n&&vs[0]?==some (rawInt _))=true then _ else _) Q E s;rw[if_neg (by intro h;rw[c,Bool.false_and]at h;cases h)];exact adb a))
def Gd(K:Waa)(a:Addr):It:=
 ⟨λi H=>∃b x,SqL K H a b/\b[i]?=some x,λi H x c=>c=H/\∀b,SqL K H a b->b[i]?=some x,λi H=>∃b,SqL K H a b/\b.length<=i⟩
def GN(K:Waa)(a:Addr):It:=
 ⟨λi H=>∃b x,SqT K H a b/\b[i]?=some x,λi H x c=>c=H/\∀b,SqT K H a b->b[i]?=some x,λi H=>∃b,SqT K H a b/\b.length<=i⟩
def Ge(lo:Int)(n:Nat):It:=⟨λi _=>i<n,λi H x a=>a=H/\x=.int (lo+i),λi _=>n<=i⟩
def qY{K:Waa}(a it:Addr):Turn P w K tg (Gd K a) [it] it (λi h=>h.IsListIter it a i) where
 mem:=by simp
 obj:=λi h f b j=>by
  have e:b=it:=by simpa using j
  subst e;obtain⟨o,e,c,d⟩:=f;exact⟨o,e,λv z=>by rw[d]at z;cases z⟩
 keep:=λi h q f k=>f.at λo e=>k it (by simp) o e
 item:=by intro X r t A Q i g s O H E I n f F;subst r t A;obtain⟨Y,x,m,M⟩:=F;obtain⟨y,C,p,hz⟩:=I.list m;obtain⟨u,hu,W⟩:=C.get M;obtain⟨L,J,T,B,D,N⟩:=n it (by simp);refine wpAny_pyNext_list_item f p.isList (by simpa using hu) λq l Z=>?_;have U:Inv X g O H { s with heap:=q }:=I.turned (λb o j e=>(Z.2 b j).trans e) L J B D N;obtain⟨o,e,c,d⟩:=id l;exact⟨u,rfl,sT e c d (by decide) ⟨x,H,U,W,⟨rfl,λys S=>by rw[I.ro S m];exact M⟩,l,λb j=>(n b j).1⟩⟩
 done:=by
  intro X r t A Q i g s O H E I n f F;subst r t A;obtain⟨Y,m,M⟩:=F;obtain⟨y,C,p,hz⟩:=I.list m;obtain⟨L,J,T,B,D,N⟩:=n it (by simp);have hl:=C.length;exact wpAny_pyNext_list_end (I.ok.hd Q) f p.isList (by simp;omega) λq eb=>⟨rfl,I.turned (λb o j e=>eb b o j e) L J B D N⟩
 self:=λ_ _ _ _ _ f h=>wpAny_pyIter_listiter f h
def mW{K:Waa}(a it:Addr):Turn P w K tg (GN K a) [it] it (λi h=>h.IsTupleIter it a i) where
 mem:=by simp
 obj:=λi h f b l=>by
  have e:b=it:=by simpa using l
  subst e;obtain⟨o,e,c,d⟩:=f;exact⟨o,e,λv z=>by rw[d]at z;cases z⟩
 keep:=λi h r f k=>f.at λo e=>k it (by simp) o e
 item:=by intro X t y A Q i g s O H E I q f F;subst t y A;obtain⟨Y,x,n,M⟩:=F;obtain⟨j,C,p,hz⟩:=I.tuple n;obtain⟨u,hu,W⟩:=C.get M;obtain⟨L,J,T,B,D,N⟩:=q it (by simp);refine wpAny_pyNext_tuple_item f (show s.heap.IsTuple a j.toArray from p) (by simpa using hu) λr m Z=>?_;have U:Inv X g O H { s with heap:=r }:=I.turned (λb o l e=>(Z.2 b l).trans e) L J B D N;obtain⟨o,e,c,d⟩:=id m;exact⟨u,rfl,sT e c d (by decide) ⟨x,H,U,W,⟨rfl,λys S=>by rw[I.uh S n];exact M⟩,m,λb l=>(q b l).1⟩⟩
 done:=by
  intro X t y A Q i g s O H E I q f F;subst t y A;obtain⟨Y,n,M⟩:=F;obtain⟨j,C,p,hz⟩:=I.tuple n;obtain⟨L,J,T,B,D,N⟩:=q it (by simp);have hl:=C.length;exact wpAny_pyNext_tuple_end (I.ok.hd Q) f (show s.heap.IsTuple a j.toArray from p) (by simp;omega) λr eb=>⟨rfl,I.turned (λb o l e=>eb b o l e) L J B D N⟩
 self:=λ_ _ _ _ _ f h=>wpAny_pyIter_tupleiter f h
def mX{K:Waa}(it:Addr)(lo:Int)(n:Nat):Turn P w K tg (Ge lo n) [it] it (λi h=>IsRangeIter h it (lo+(i:Nat)*1) ((n:Int)-(i:Nat)) 1) where
 mem:=by simp
 obj:=λi h a b d=>by
  have e:b=it:=by simpa using d
  subst e;exact⟨_,a,λv z=>by
   have D:Data.fields _=Data.cell v:=z;cases D⟩
 keep:=λi h j a k=>k it (by simp) _ a
 item:=by intro X l m p r i c s C H E I g a x;subst l m p;obtain⟨A,y,F,q,u,B⟩:=g it (by simp);have W:=Walks.range (prog:=X.prog) (w:=X.w) (I.ok.hd r) it lo 1 n;refine W.item i s _ _ x a λv j M N f L=>?_;obtain⟨t,rfl⟩:=N;have J:Inv X c C H { s with heap:=j,toks:=M }:=I.turned (λb o d e=>L b o (by simpa using d) e) A y q u B;refine⟨_,rfl,sT f rfl rfl (by decide) ⟨.int (lo+i),H,J,⟨t,?_⟩,⟨rfl,rfl⟩,f,λb d=>(g b d).1⟩⟩;rw[Int.mul_one]
 done:=by
  intro X l m p r i c s C H E I g a x;subst l m p;obtain⟨A,y,F,q,u,B⟩:=g it (by simp);exact wpAny_pyNext_range_end (I.ok.hd r) a (by have:n<=i:=x;omega) λj O=>⟨rfl,I.turned (λb o d e=>O b o d e) A y q u B⟩
 self:=λ_ _ _ _ _ a h=>wpAny_pyIter_rangeiter a h
end
section
section
variable{X:Cx}{tg:Expr}
def DQ(K:Waa)(d:TE):TI:=λc H R=>d c H λx b=>∃a,x=.ref a/\(∃e,SqL K b a e)/\R (Gd K a) b
def GP(K:Waa)(d:TE):TI:=λc H R=>d c H λx b=>∃a,x=.ref a/\(∃e,SqT K b a e)/\R (GN K a) b
def oJ{l:Expr}{g:TE}(i:PE X l g):PI X tg l (DQ X.K g):=by
 intro c s r H R I h;refine thn (i c s r H _ I h) λv f t=>?_;obtain⟨x,u,d,j,k⟩:=t;obtain⟨a,e,⟨y,n⟩,q⟩:=k;subst e;cases j;obtain⟨m,A,p,z⟩:=d.list n;refine adH p.isList ?_;refine⟨f.heap.objs.size,[f.heap.objs.size],_,_,u,rfl,d.kept (t':=f.toks) λb o e=>ade _ e,qY a _,⟨_,adf _ rfl,rfl,rfl⟩,λb w=>?_,q⟩;have e:b=f.heap.objs.size:=by simpa using w
 subst e;exact d.ub (aag _) (d.hok.fresh (aag _))
def AI{l:Expr}{i:TE}(j:PE X l i):PI X tg l (GP X.K i):=by
 intro d s r H R I h;refine thn (j d s r H _ I h) λv c t=>?_;obtain⟨x,u,f,k,m⟩:=t;obtain⟨a,e,⟨y,n⟩,q⟩:=m;subst e;cases k;obtain⟨g,A,p,z⟩:=f.tuple n;refine adT (show c.heap.IsTuple a g.toArray from p) ?_;refine⟨c.heap.objs.size,[c.heap.objs.size],_,_,u,rfl,f.kept (t':=c.toks) λb o e=>ade _ e,mW a _,⟨_,adf _ rfl,rfl,rfl⟩,λb w=>?_,q⟩;have e:b=c.heap.objs.size:=by simpa using w
 subst e;exact f.ub (aag _) (f.hok.fresh (aag _))
theorem sU{R:It->Hp->Prop}{lo a:Int}{t u v:Tok}{d:Nat}(I:Inv X pins σ H s)(g:-(2^62)<=lo)(f:lo<2^62)(l:-(2^62)<=a)(j:a<2^62)
  (q:R (Ge lo (a-lo).toNat) H):wpAny (model X.prog X.w) X.A (pyIter (.ref s.heap.objs.size)) (Ij X pins σ tg R) E { s with heap:=s.heap.push { cls:=.type "range",data:=.fields #[.int lo t,.int a u,.int 1 v] },toks:=d }:=by
 refine wpAny_pyIter_range (IsRange.new ..) (small_one g f l j) ?_;have c:Inv X pins σ H { s with heap:=s.heap.push { cls:=.type "range",data:=.fields #[.int lo t,.int a u,.int 1 v] },toks:=d }:=I.kept λb o e=>ade _ e;refine⟨(s.heap.push { cls:=.type "range",data:=.fields #[.int lo t,.int a u,.int 1 v] }).objs.size,[(s.heap.push { cls:=.type "range",data:=.fields #[.int lo t,.int a u,.int 1 v] }).objs.size],_,_,H,rfl,
  c.kept λb o e=>ade _ e,mX _ lo (a-lo).toNat,?_,λb k=>?_,q⟩
 ·have i:lo+((0:Nat):Int)*1=lo:=by simp
  have h:(((a-lo).toNat:Nat):Int)-((0:Nat):Int)=Builtin.Range.rangeSize lo a 1:=by rw[rangeSize_one];split<;>omega
  show IsRangeIter _ _ (lo+((0:Nat):Int)*1) ((((a-lo).toNat:Nat):Int)-((0:Nat):Int)) 1;rw[i,h];exact adf _ rfl
 ·have e:b=(s.heap.push { cls:=.type "range",data:=.fields #[.int lo t,.int a u,.int 1 v] }).objs.size:=by simpa using k
  subst e;exact c.ub (aag _) (c.hok.fresh (aag _))
def DR(c:TA):TI:=λa H R=>c a H λd b=>∃j:Int,d=[.int j]/\-(2^62)<=j/\j<2^62/\R (Ge 0 j.toNat) b
def qZ{a:Expr}{d:TA}{p pos:Pos} (o:Gl X "range") (i:X.mg "range"=none) (g:PA X [a] d) (hs:starEach [a] X.env=[(false,eval a X.env)]:=by rfl):PI X tg (.Call (.Name "range" p) [a] [] pos) (DR d):=by
 intro b s n H R I h;refine Call_ (fU I o i boot_range (abQ (thn (g pos b s n H _ I h) λv w u=>?_) hs rfl));obtain⟨x,y,f,k,c⟩:=u;obtain⟨j,e,c,m,q⟩:=c;subst e;cases k with
 |cons r l=>cases l;obtain⟨t,rfl⟩:=r;exact call_range_1 (sU f (by omega) (by omega) c m (by simpa using q))
def GQ(k:TI)(g:TG)(f:TS):TS:=λD a H=>k a H λJ j=>∃W:Nat->Nat->St->Hp->Prop,(∃m,W 0 m a j)/\∀i m a H,W i m a H ->
 (J.stop i H/\D.nx a H)\/(J.go i H/\∃N:St->Hp->Prop,(∀c b,N c b->∃e,e<m/\W (i+1) e c b)/\∀x b,J.yld i H x b->g x a b λd h=>f { D with nx:=N,ct:=N,bk:=D.nx } d h)
def pinsAt(a:List Addr)(h:Heap):List (Addr×Obj):=a.filterMap λb=>(h.get? b).map λo=>(b,o)
def fb(a:b∈fp)(e:h.get? b=some o):(b,o)∈pinsAt fp h:=List.mem_filterMap.mpr ⟨b,a,by rw[e];rfl⟩
def q8(a:p∈pinsAt fp h):p.1∈fp/\h.get? p.1=some p.2:=by
 obtain⟨b,d,e⟩:=List.mem_filterMap.mp a;cases q:h.get? b with
 |none=>rw[q]at e;cases e
 |some o=>rw[q]at e;have c:(b,o)=p:=aaE e;subst c;exact⟨d,q⟩
def Inv.pinned(I:Inv X pins σ H s)(i:∀b∈fp,FpOk X pins H b)(j:∀b∈fp,∃o,s.heap.get? b=some o/\∀v,o.data≠.cell v):Inv X (pins++pinsAt fp s.heap) σ H s:=
 I.tr λp f=>(aai.mp f).elim (λz=>I.pin p (aae _ z)) λz=>by obtain⟨c,e⟩:=q8 z;obtain⟨k,h,g,_⟩:=i p.1 c;obtain⟨o,a,d⟩:=j p.1 c;rw[e]at a;cases a;exact⟨e,k,h,g,d⟩
theorem Inv.et(I:Inv X (pins++pl) σ H s):Inv X pins σ H s:=I.tr λp a=>I.pin p (aae _ (aaf _ a))
theorem AJ{p:Expr}{F:List Stmt}{pos:Pos}(O:PassesOwn (model X.prog X.w) X.A X.env X.xe)(hc:X.calm=true)(hi:PI X tg p wi)(hg:PG X tg g)(z:PSs X F tb)
  (hs:∀x,foldedSetIterable p X.env x=pure x:=by intro _;rfl):PS X (.For tg p F [] pos) (GQ wi g tb):=by
 intro a s σ H D I h;refine wpAny_For (thn (hi a s σ H _ I h) λv s1 h1=>thn h1 λa4 s2 h2=>?_) hs;obtain⟨it,S,tn,J,H2,e,I2,T,a3,f2,W,⟨m0,w0⟩,Q⟩:=h2;subst e;have k:∀{B:Hp},(∀b∈S,B b=none)->∀b∈S,FpOk X a B b:=λhn b z=>⟨hn b z,(f2 b z).2⟩
 refine codeAny_forLoop_any (λn s'=>∃i l B,Inv X a l B s'/\tn i s'.heap/\(∀b∈S,B b=none)/\W i n l B) ?_ m0 ⟨0,σ,H2,I2,a3,λb z=>(f2 b z).1,w0⟩;rintro n s3 ⟨i,t,H3,I3,Y,P,w3⟩;rcases Q i n t H3 w3 with ⟨Z,qn⟩|⟨go,N,hN,U⟩
 ·refine adD O (thn (T.done X rfl rfl rfl hc i a s3 t H3 X.xe I3 (k P) Y Z) λr s4 M=>?_);obtain⟨hr,I4⟩:=M;subst hr;exact wpAny_execs_nil ⟨t,H3,I4,qn⟩
 ·refine adD O (thn (T.item X rfl rfl rfl hc i a s3 t H3 X.xe I3 (k P) Y go) λr s4 M=>?_);obtain⟨u,hr,h4⟩:=M;subst hr;refine adD O (thn h4 λ_ s5 M=>?_);obtain⟨x,H5,I5,r5,y5,L,a1⟩:=M;have a0:=I5.pinned (k a1) (T.obj _ _ L);refine adD O (thn (hg _ s5 t H5 x u _ a0 r5 (U x H5 y5)) λ_ s6 M=>?_);obtain⟨a2,H6,I6,q6⟩:=M;refine adD O (thn (z _ s6 a2 H6 _ I6 q6) λf s7 C=>?_);have j:∀{c:St}{y:Hp},Inv X (a++pinsAt S s5.heap) c y s7->N c y->∃m,m<n/\∃i l B,Inv X a l B s7/\tn i s7.heap/\(∀b∈S,B b=none)/\W i m l B:=λ{c y} q n7=>by obtain⟨m',hm,w7⟩:=hN c y n7;refine⟨m',hm,i+1,c,y,q.et,T.keep _ _ _ L λb z o e=>(q.pin (b,o) (aae _ (aae _ (fb z e)))).1,λb z=>?_,w7⟩;obtain⟨o,e,d⟩:=T.obj _ _ L b z;exact(q.pin (b,o) (aae _ (aae _ (fb z e)))).2.1
  cases f with
  |next=>obtain⟨c,y,q,n7⟩:=C;exact j q n7
  |cont=>obtain⟨c,y,q,n7⟩:=C;exact j q n7
  |brk=>obtain⟨c,y,q,C⟩:=C;exact⟨c,y,q.et,C⟩
  |ret v=>obtain⟨x7,c,y,q,r7,C⟩:=C;exact⟨x7,c,y,q.et,r7,C⟩
end
end
section
abbrev R2:=V->V->Hp->VK->Prop
def OpR(X:Cx)(f:Value->Value->Sem Value)(r:R2):Prop:=
 ∀(a:List (Addr×Obj)) (s:Shared) (b:St) (H:Hp) (x y:V) (v u:Value) (Q:VK),Inv X a b H s->RelV x v->RelV y u->r x y H Q ->
  wpAny (model X.prog X.w) X.A (f v u) (EP X a b Q) X.xe s
def GR(X:Cx)(f:Value->Sem Value)(r:V->Hp->VK->Prop):Prop:=
 ∀(a:List (Addr×Obj)) (s:Shared) (b:St) (H:Hp) (x:V) (v:Value) (Q:VK),Inv X a b H s->RelV x v->r x H Q ->
  wpAny (model X.prog X.w) X.A (f v) (EP X a b Q) X.xe s
def ck(X:Cx)(f:Value)(r:List V->Hp->VK->Prop):Prop:=
 ∀(a:List (Addr×Obj)) (s:Shared) (b:St) (H:Hp) (d:List V) (c:List Value) (Q:VK),Inv X a b H s->Vals d c->r d H Q ->
  wpAny (model X.prog X.w) X.A (call f c) (EP X a b Q) X.xe s
def GS(X:Cx)(r:V->Hp->(Bool->Hp->Prop)->Prop):Prop:=
 ∀(a:List (Addr×Obj)) (s:Shared) (b:St) (H:Hp) (x:V) (v:Value) (Q:Bool->Hp->Prop),Inv X a b H s->RelV x v->r x H Q ->
  wpAny (model X.prog X.w) X.A (truthy v) (TP X a b Q) X.xe s
def AK(r:R2)(e d:TE):TE:=λa H Q=>e a H λx c=>d a c λy b=>r x y b Q
def Je(r:V->Hp->VK->Prop)(c:TE):TE:=λa H Q=>c a H λx b=>r x b Q
def rI(C:Int->Int->Prop)(g:Int->Int->V):R2:=λx y H Q=>∃i j,x=.int i/\y=.int j/\C i j/\Q (g i j) H
def wO(g:Int->Int->V):R2:=λx y H Q=>∃i j,x=.int i/\y=.int j/\Q (g i j) H
def rU(g:Int->V):V->Hp->VK->Prop:=λx H Q=>∃i,x=.int i/\Q (g i) H
section
variable{X:Cx}{a b c:Expr}{ta tb tc:TE}{pos:Pos}
def AL(n:PE X a ta)(C:PE X b tb){d:List (Addr×Obj)}{s:Shared}{R:V->V->Hp->Prop}(I:Inv X d σ H s)
  (h:ta σ H λx l=>tb σ l λy e=>R x y e) {f:Value->Value->Sem Value}
  (t:∀v u j x y e,Inv X d σ e j->RelV x v->RelV y u->R x y e->wpAny (model X.prog X.w) X.A (f v u) Q X.xe j):
  wpAny (model X.prog X.w) X.A (eval a X.env) (λv i=>wpAny (model X.prog X.w) X.A (eval b X.env) (λu g=>wpAny (model X.prog X.w) X.A (f v u) Q X.xe g) X.xe i) X.xe s:=by
 refine thn (n d s σ H _ I h) λv z k=>?_;obtain⟨x,l,m,p,q⟩:=k;refine thn (C d z σ l _ m q) λu j k=>?_;obtain⟨y,e,o,B,r⟩:=k;exact t v u j x y e o p B r
def sV(j:OpR X (binaryOp op) r)(f:PE X a ta)(n:PE X b tb):PE X (.BinOp a op b pos) (AK r ta tb):=by intro d s i H Q I h;exact wpAny_BinOp (AL f n I h λv u l x y e g k m q=>j d l i e x y v u Q g k m q)
def zD{e:UnaryOp}(k:GR X (unaryOp e) r)(m:PE X a ta):PE X (.UnaryOp e a pos) (Je r ta):=by intro d s f H Q I h;exact UnaryOp_ (thn (m d s f H _ I h) λv n ⟨x,g,i,j,l⟩=>k d n f g x v Q i j l)
def Gf{f:Value->Value->Sem Value}{g:Int->Int->Int}
  (rule:∀(i j:Int) (t u:Tok) (s:Shared) (Q:Value->Shared->Prop) (E:Value->Shared->Prop),C i j->Q (.int (g i j) s.toks) { s with toks:=s.toks+1 }->wpAny (model X.prog X.w) X.A (f (.int i t) (.int j u)) Q E s):
  OpR X f (rI C λi j=>.int (g i j)):=by
 intro d s n H x y v u Q I l m h;obtain⟨i,j,rfl,rfl,k,q⟩:=h;obtain⟨t,rfl⟩:=l;obtain⟨e,rfl⟩:=m;exact rule i j t e s _ _ k ⟨.int (g i j),H,I.tok _,⟨_,rfl⟩,q⟩
def DU{f:Value->Value->Sem Value}{g:Int->Int->Int}
  (rule:∀(i j:Int) (t u:Tok) (s:Shared) (Q:Value->Shared->Prop) (E:Value->Shared->Prop),Q (.int (g i j) s.toks) { s with toks:=s.toks+1 }->wpAny (model X.prog X.w) X.A (f (.int i t) (.int j u)) Q E s):
  OpR X f (wO λi j=>.int (g i j)):=by
 intro d s m H x y v u Q I k l h;obtain⟨i,j,rfl,rfl,q⟩:=h;obtain⟨t,rfl⟩:=k;obtain⟨e,rfl⟩:=l;exact rule i j t e s _ _ ⟨.int (g i j),H,I.tok _,⟨_,rfl⟩,q⟩
def xf{g:Int->Int->Bool}
  (rule:∀(i j:Int) (t u:Tok) (s:Shared) (Q:Value->Shared->Prop) (E:Value->Shared->Prop),Q (.bool (g i j)) s->wpAny (model X.prog X.w) X.A (f (.int i t) (.int j u)) Q E s):
  OpR X f (wO λi j=>.bl (g i j)):=by
 intro d s m H x y v u Q I k l h;obtain⟨i,j,rfl,rfl,q⟩:=h;obtain⟨t,rfl⟩:=k;obtain⟨e,rfl⟩:=l;exact rule i j t e s _ _ ⟨.bl (g i j),H,I,rfl,q⟩
def GT(i j:Int):Prop:=0<j/\j<1073741824
def GU(i j:Int):Prop:=0<=j/\j<=1000000/\i.natAbs<2^64
def CMul(i j:Int):Prop:=(-(2^64)<i/\i<2^64)\/(-(2^64)<j/\j<2^64)
def CMul.ok{i j:Int}(h:CMul i j):IntMulOk i j:=by
 rcases h with ⟨e,d⟩|⟨e,d⟩
 ·exact .of_left (intBits_le_64 e d)
 ·exact .of_right (intBits_le_64 e d)
def AM:OpR X (binaryOp .Add) (wO λi j=>.int (i+j)):=DU λ_ _ _ _ _ _ _ q=>add_int q
def AN:OpR X (binaryOp .Sub) (wO λi j=>.int (i-j)):=DU λ_ _ _ _ _ _ _ q=>sub_int q
def AO:OpR X (binaryOp .Mult) (rI CMul λi j=>.int (i*j)):=Gf λ_ _ _ _ _ _ _ d q=>mul_int q d.ok
def xg:OpR X (binaryOp .FloorDiv) (rI GT λi j=>.int (i/j)):=Gf λi j _ _ _ _ _ d q=>by have f:(0:Int)<j:=d.1;have e:j<1073741824:=d.2;exact floordiv_int (by omega) (by rw[Int.fdiv_eq_ediv_of_nonneg i (by omega)];exact q) (.inl (PyProof.noPylong_small (by omega)))
def AQ:OpR X (binaryOp .Mod) (rI (λ_ j=>0<j) λi j=>.int (i%j)):=Gf λi j _ _ _ _ _ d q=>by have e:(0:Int)<j:=d;exact mod_int' (by omega) (by rw[Int.fmod_eq_emod_of_nonneg i (by omega)];exact q)
def AR:OpR X (binaryOp .Pow) (rI GU λi j=>.int (i^j.toNat)):=Gf λ_ _ _ _ _ _ _ d q=>pow_int_small d.1 d.2.1 d.2.2 q
def unI{f:Value->Sem Value}{g:Int->Int}
  (rule:∀(i:Int) (t:Tok) (s:Shared) (Q:Value->Shared->Prop) (E:Value->Shared->Prop),Q (.int (g i) s.toks) { s with toks:=s.toks+1 }->wpAny (model X.prog X.w) X.A (f (.int i t)) Q E s):
  GR X f (rU λi=>.int (g i)):=by
 intro d s j H x v Q I e h;obtain⟨i,rfl,q⟩:=h;obtain⟨t,rfl⟩:=e;exact rule i t s _ _ ⟨.int (g i),H,I.tok _,⟨_,rfl⟩,q⟩
def sW:GR X (unaryOp .USub) (rU λi=>.int (-i)):=unI λ_ _ _ _ _ q=>neg_int q
end
def AS:V->V->Bool
 |.non,.non=>true|.non,.int _=>true|.int _,.non=>true|.non,.bl _=>true|.bl _,.non=>true|.non,.str _=>true|.str _,.non=>true
 |.int _,.int _=>true|.bl _,.bl _=>true|.str _,.str _=>true|.byt _,.byt _=>true
 |.int _,.str _=>true|.str _,.int _=>true|.bl _,.str _=>true|.str _,.bl _=>true
 |_,_=>false
def rEq:R2:=λx y H Q=>AS x y=true/\Q (.bl (decide (x=y))) H
def rNe:R2:=λx y H Q=>AS x y=true/\Q (.bl (!decide (x=y))) H
def oK:decide (V.int i=V.int j)=(i==j):=by rw[abR];simp
def sX:decide (V.bl i=V.bl j)=(i==j):=by rw[abR];simp
def oM:decide (V.str i=V.str j)=(i==j):=by rw[abR];simp
def oN:decide (V.byt i=V.byt j)=(i.toList==j.toList):=by rw[abR];cases i;cases j;simp
section
variable{X:Cx}{a b c:Expr}{ta tb tc:TE}{pos:Pos}
def fin_bl(I:Inv X pins σ H s)(q:Q (.bl k) H)(e:k=k'):EP X pins σ Q (.bool k') s:=by subst e;exact⟨.bl k,H,I,rfl,q⟩
theorem op_eq:OpR X (compareOp .Eq) rEq:=by
 intro k s l H x y v u Q I g d h;obtain⟨f,q⟩:=h;cases x with
 |non=>
  cases g;cases y with
  |non=>cases d;exact PySem.EqNone.eq_none_none (fin_bl I q (by simp))
  |bl j=>cases d;exact PySem.EqNone.eq_none_bool (fin_bl I q (by simp))
  |int j=>obtain⟨e,rfl⟩:=d;exact PySem.EqNone.eq_none_int (fin_bl I q (by simp))
  |str j=>obtain⟨e,rfl⟩:=d;exact PySem.EqNone.eq_none_str (fin_bl I q (by simp))
  |_=>exact absurd (show false=true from f) aal
 |bl i=>
  cases g;cases y with
  |non=>cases d;exact PySem.EqNone.eq_bool_none (fin_bl I q (by simp))
  |bl j=>cases d;exact eq_bool (fin_bl I q sX)
  |str j=>obtain⟨e,rfl⟩:=d;exact PySem.EqMixed.eq_bool_str (fin_bl I q (by simp))
  |_=>exact absurd (show false=true from f) aal
 |int i=>
  obtain⟨t,rfl⟩:=g;cases y with
  |non=>cases d;exact PySem.EqNone.eq_int_none (fin_bl I q (by simp))
  |int j=>obtain⟨e,rfl⟩:=d;exact eq_int (fin_bl I q oK)
  |str j=>obtain⟨e,rfl⟩:=d;exact PySem.EqMixed.eq_int_str (fin_bl I q (by simp))
  |_=>exact absurd (show false=true from f) aal
 |str i=>
  obtain⟨t,rfl⟩:=g;cases y with
  |non=>cases d;exact PySem.EqNone.eq_str_none (fin_bl I q (by simp))
  |bl j=>cases d;exact PySem.EqMixed.eq_str_bool (fin_bl I q (by simp))
  |int j=>obtain⟨e,rfl⟩:=d;exact PySem.EqMixed.eq_str_int (fin_bl I q (by simp))
  |str j=>obtain⟨e,rfl⟩:=d;exact eq_str (fin_bl I q oM)
  |_=>exact absurd (show false=true from f) aal
 |byt i=>
  obtain⟨t,rfl⟩:=g;cases y with
  |byt j=>obtain⟨e,rfl⟩:=d;exact PySem.W.eq_bytes (fin_bl I q oN)
  |_=>exact absurd (show false=true from f) aal
 |_=>cases y<;>exact absurd (show false=true from f) aal
theorem op_ne:OpR X (compareOp .NotEq) rNe:=by
 intro k s l H x y v u Q I g d h;obtain⟨f,q⟩:=h;cases x with
 |non=>
  cases g;cases y with
  |non=>cases d;exact PySem.EqNone.ne_none_none (fin_bl I q (by simp))
  |bl j=>cases d;exact PySem.EqNone.ne_none_bool (fin_bl I q (by simp))
  |int j=>obtain⟨e,rfl⟩:=d;exact PySem.EqNone.ne_none_int (fin_bl I q (by simp))
  |str j=>obtain⟨e,rfl⟩:=d;exact PySem.EqNone.ne_none_str (fin_bl I q (by simp))
  |_=>exact absurd (show false=true from f) aal
 |bl i=>
  cases g;cases y with
  |non=>cases d;exact PySem.EqNone.ne_bool_none (fin_bl I q (by simp))
  |bl j=>cases d;exact ne_bool (fin_bl I q (congrArg not sX))
  |str j=>obtain⟨e,rfl⟩:=d;exact PySem.EqMixed.ne_bool_str (fin_bl I q (by simp))
  |_=>exact absurd (show false=true from f) aal
 |int i=>
  obtain⟨t,rfl⟩:=g;cases y with
  |non=>cases d;exact PySem.EqNone.ne_int_none (fin_bl I q (by simp))
  |int j=>obtain⟨e,rfl⟩:=d;exact ne_int (fin_bl I q (congrArg not oK))
  |str j=>obtain⟨e,rfl⟩:=d;exact PySem.EqMixed.ne_int_str (fin_bl I q (by simp))
  |_=>exact absurd (show false=true from f) aal
 |str i=>
  obtain⟨t,rfl⟩:=g;cases y with
  |non=>cases d;exact PySem.EqNone.ne_str_none (fin_bl I q (by simp))
  |bl j=>cases d;exact PySem.EqMixed.ne_str_bool (fin_bl I q (by simp))
  |int j=>obtain⟨e,rfl⟩:=d;exact PySem.EqMixed.ne_str_int (fin_bl I q (by simp))
  |str j=>obtain⟨e,rfl⟩:=d;exact ne_str (fin_bl I q (congrArg not oM))
  |_=>exact absurd (show false=true from f) aal
 |byt i=>
  obtain⟨t,rfl⟩:=g;cases y with
  |byt j=>obtain⟨e,rfl⟩:=d;exact PySem.W.ne_bytes (fin_bl I q (congrArg not oN))
  |_=>exact absurd (show false=true from f) aal
 |_=>cases y<;>exact absurd (show false=true from f) aal
def DV:OpR X (compareOp .Lt) (wO λi j=>.bl (decide (i<j))):=xf λ_ _ _ _ _ _ _ q=>lt_int q
def DW:OpR X (compareOp .LtE) (wO λi j=>.bl (decide (i<=j))):=xf λ_ _ _ _ _ _ _ q=>le_int q
def DX:OpR X (compareOp .Gt) (wO λi j=>.bl (decide (j<i))):=xf λ_ _ _ _ _ _ _ q=>gt_int q
def DY:OpR X (compareOp .GtE) (wO λi j=>.bl (decide (j<=i))):=xf λ_ _ _ _ _ _ _ q=>ge_int q
def OpR.or(h:OpR X f r)(h':OpR X f r'):OpR X f (λx y H Q=>r x y H Q\/r' x y H Q):=by
 intro d s e H x y v u Q I i g q;rcases q with q|q
 ·exact h d s e H x y v u Q I i g q
 ·exact h' d s e H x y v u Q I i g q
def oO(k:OpR X (compareOp op) r)(f:PE X a ta)(o:PE X b tb)(g:behindInMarks op b=false):PE X (.Compare a [op] [b] pos) (AK r ta tb):=by intro d s j H Q I h;exact wpAny_Compare1 (AL f o I h λv u m x y e i l n q=>k d m j e x y v u Q i l n q) g
def sY(t:TE):TT:=λe H Q=>t e H λx d=>∃k,x=.bl k/\Q k d
def oP{f:CmpOp}{r:R2}(A:OpR X (compareOp f) r)(l:PE X a ta)(M:PE X b tb)(m:behindInMarks f b=false):PT X (.Compare a [f] [b] pos) (sY (AK r ta tb)):=by
 intro d s g H Q I h;refine wpAny_isTrue_Compare1 (thn (l d s g H _ I h) λv B ⟨x,J,j,o,p⟩=>thn (M d B g J _ j p) λu F ⟨y,i,n,L,q⟩=>
  thn (A d F g i x y v u _ n o L q) λc N ⟨z,t,D,C,k,e,w⟩=>?_) m
 subst e;cases C;exact ado ⟨t,D,w⟩
def mY(r i:R2)(ta tb tc:TE):TE:=λd H Q=>ta d H λx h=>tb d h λy g=>r x y g λz e=>∃k,z=.bl k /\
 (if k=true then tc d e λf j=>i y f j Q else Q (.bl false) e)
def sZ{j g:CmpOp}{r m:R2}(T:OpR X (compareOp j) r)(l:OpR X (compareOp g) m)(B:PE X a ta)(hb:PE X b tb)(W:PE X c tc)
  (C:lastMarks [j,g] [b,c]=false:=by with_unfolding_all rfl):PE X (.Compare a [j,g] [b,c] pos) (mY r m ta tb tc):=by
 intro f s i H Q I h;refine Compare_chain (thn (B f s i H _ I h) λv U ⟨x,H1,A,F,M⟩=>chain_link (thn (hb f U i H1 _ A M) λu s2 ⟨y,w,D,q,O⟩=>
  thn (T f s2 i w x y v u _ D F q O) λd J ⟨z,n,p,Z,k,e,o⟩=>?_)) C
 subst e;cases Z;refine ado ?_;cases k with
 |false=>exact ite_ff ⟨.bl false,n,p,rfl,o⟩
 |true=>exact ite_tt (chain_last (thn (W f J i n _ p o) λP L ⟨t,N,Y,r4,S⟩=>l f L i N y t u P Q Y q r4 S))
def s8{j g:CmpOp}{r m:R2}(Y:OpR X (compareOp j) r)(l:OpR X (compareOp g) m)(D:PE X a ta)(hb:PE X b tb)(hc:PE X c tc)
  (F:lastMarks [j,g] [b,c]=false:=by with_unfolding_all rfl):PT X (.Compare a [j,g] [b,c] pos) (sY (mY r m ta tb tc)):=by
 intro f s i H Q I h;refine isTrue_chain (thn (D f s i H _ I h) λv s1 ⟨x,H1,B,L,O⟩=>test_link (thn (hb f s1 i H1 _ B O) λu s2 ⟨y,A,J,q,S⟩=>
  thn (Y f s2 i A x y v u _ J L q S) λd M ⟨z,n,p,r3,k,e,o⟩=>?_)) F
 subst e;cases r3;refine ado ?_;cases k with
 |false=>obtain⟨k',w,q'⟩:=o;cases w;exact ite_ff ⟨n,p,q'⟩
 |true=>refine ite_tt (test_last (thn (hc f M i n _ p o) λT N ⟨t,P,I4,r4,U⟩=>thn (l f N i P y t u T _ I4 q r4 U) λd' s5 hZ=>?_));obtain⟨z2,W,C,r5,k2,Z,q5⟩:=hZ;subst Z;cases r5;exact ado ⟨W,C,q5⟩
def AU(K:Waa)(x:V)(H:Hp)(k:Bool):Prop:=
 match x with
 |.non=>k=false
 |.bl b=>k=b
 |.int i=>k=(i !=0)
 |.str y=>y.length<=sizeLine/\k=((y.length:Int) !=0)
 |.byt y=>y.size<=sizeLine/\k=((y.size:Int) !=0)
 |.ref p=>(∃d,SqL K H p d/\k=!d.isEmpty)\/(∃d,SqT K H p d/\k=!d.isEmpty)\/∃e,H p=some (.dK e)/\k=!e.isEmpty
 |_=>False
def mZ{e:Type}{d:List (e×V)}{vs:List (e×Value)}(r:KV d vs):(!vs.isEmpty)=!d.isEmpty:=by cases r<;>rfl
def gX{xs:List V}{d:List Value}(r:Vals xs d):(!d.toArray.isEmpty)=!xs.isEmpty:=by cases r<;>simp
def line63:(sizeLine:Nat)<2^63:=by rw[adI];decide
theorem AV:GS X (λx H Q=>∃k,AU X.K x H k/\Q k H):=by
 intro B s J H x v Q I l h;obtain⟨k,e,q⟩:=h;have F:=line63;have L:sizeLine=16777216:=adI;cases x with
 |non=>cases l;have d:k=false:=e;subst d;exact truthy_none ⟨H,I,q⟩
 |bl b=>cases l;have d:k=b:=e;subst d;exact ado ⟨H,I,q⟩
 |int i=>obtain⟨t,rfl⟩:=l;have d:k=(i !=0):=e;subst d;exact PySem.P.truthy_int ⟨H,I,q⟩
 |str y=>obtain⟨t,rfl⟩:=l;obtain⟨C,d⟩:y.length<=sizeLine/\k=((y.length:Int) !=0):=e;subst d;exact PySem.P.truthy_str (by omega) ⟨H,I.tok _,q⟩
 |byt y=>obtain⟨t,rfl⟩:=l;obtain⟨C,d⟩:y.size<=sizeLine/\k=((y.size:Int) !=0):=e;subst d;exact PySem.W.truthy_bytes (by omega) ⟨H,I.tok _,q⟩
 |ref p=>
  cases l;have d:(∃j,SqL X.K H p j/\k=!j.isEmpty)\/(∃j,SqT X.K H p j/\k=!j.isEmpty)\/∃f,H p=some (.dK f)/\k=!f.isEmpty:=e;rcases d with ⟨j,n,d⟩|⟨j,n,d⟩|⟨f,n,d⟩
  ·subst d;obtain⟨z,r,u,A⟩:=I.list n;have g:=r.length;exact wpAny_truthy_list u.isList (by simp only[aaz];omega) ⟨H,I.tok _,by rw[gX r];exact q⟩
  ·subst d;obtain⟨z,r,u,A⟩:=I.tuple n;have g:=r.length;exact truthy_tuple u (by simp only[aaz];omega) ⟨H,I.tok _,by rw[gX r];exact q⟩
  ·subst d;obtain⟨A,D,o,r,m⟩:f.length<=sizeLine/\(p==sysModules)=false/\∃o,KV f o/\s.heap.DictOf (bb X.prog X.w) p o:=I.hok p _ n;have g:f.length=o.length:=adG r;exact wpAny_truthy_dict D m (by omega) ⟨H,I.tok _,by rw[mZ r];exact q⟩
 |_=>exact(show False from e).elim
def lA(i:PE X a ta)(j:∀d,isTrue a X.env d=(do let v <-d;standAt a.pos;holding [v] (truthy v))):
  PT X a (λσ H Q=>ta σ H λx f=>∃k,AU X.K x f k/\Q k f):=by
 intro e s σ H Q I h;exact isTrue_plain (thn (i e s σ H _ I h) λv n ⟨x,o,g,l,m⟩=>AV e n σ o x v Q g l m) (j _)
def vals1(r:Vals [x] us):∃u,us=[u]/\RelV x u:=by
 cases r with
 |cons e d=>cases d;exact⟨_,rfl,e⟩
def vals2(r:Vals [x,y] us):∃u d,us=[u,d]/\RelV x u/\RelV y d:=by
 cases r with
 |cons f g=>
  cases g with
  |cons e h=>cases h;exact⟨_,_,rfl,f,e⟩
def s9:ck X (.builtin "abs") (λxs H Q=>∃i,xs=[.int i]/\Q (.int (if i<0 then -i else i)) H):=by
 intro d s e H xs f Q I r h;obtain⟨i,rfl,q⟩:=h;obtain⟨u,rfl,t,rfl⟩:=vals1 r;exact call_abs_int λu g=>⟨.int (if i<0 then -i else i),H,I.tok _,⟨_,rfl⟩,q⟩
def q9(f:X.calm=true):ck X (.builtin "min") (λxs H Q=>∃i j,xs=[.int i,.int j]/\Q (.int (if j<i then j else i)) H):=by
 intro e s p H xs g Q I r h;obtain⟨i,j,rfl,q⟩:=h;obtain⟨u,o,rfl,⟨t,rfl⟩,⟨n,rfl⟩⟩:=vals2 r;refine min_two_ints (I.ok.hd f) λl m k=>⟨_,H,I.kept k,?_,q⟩
 by_cases d:j<i
 ·rw[if_pos d,if_pos d];exact⟨_,rfl⟩
 ·rw[if_neg d,if_neg d];exact⟨_,rfl⟩
def rg:ck X (.type "int") (λxs H Q=>(∃i,xs=[.int i]/\Q (.int i) H)\/∃k,xs=[.bl k]/\Q (.int (if k then 1 else 0)) H):=by
 intro d s f H xs g Q I r h;rcases h with ⟨i,rfl,q⟩|⟨k,rfl,q⟩
 ·obtain⟨u,rfl,t,rfl⟩:=vals1 r;exact call_int_int ⟨.int i,H,I,⟨_,rfl⟩,q⟩
 ·obtain⟨u,rfl,e⟩:=vals1 r;cases e;exact call_int_bool ⟨.int (if k then 1 else 0),H,I.tok _,⟨_,rfl⟩,q⟩
def DZ(K:Waa)(x:V)(H:Hp)(n:Nat):Prop:=
 match x with
 |.str y=>y.length<=sizeLine/\n=y.length
 |.byt y=>y.size<=sizeLine/\n=y.size
 |.ref p=>(∃d,SqL K H p d/\n=d.length)\/∃d,SqT K H p d/\n=d.length
 |_=>False
def lB:ck X (.builtin "len") (λxs H Q=>∃x n,xs=[x]/\DZ X.K x H n/\Q (.int n) H):=by
 intro m s A H xs w Q I r h;obtain⟨x,n,rfl,e,q⟩:=h;obtain⟨u,rfl,k⟩:=vals1 r;have z:=line63;have B:sizeLine=16777216:=adI;cases x with
 |str y=>obtain⟨t,rfl⟩:=k;obtain⟨o,f⟩:y.length<=sizeLine/\n=y.length:=e;subst f;exact len_str (by omega) ⟨.int _,H,I.tok _,⟨_,rfl⟩,q⟩
 |byt y=>obtain⟨t,rfl⟩:=k;obtain⟨o,f⟩:y.size<=sizeLine/\n=y.size:=e;subst f;exact PySem.W.len_bytes (by omega) ⟨.int _,H,I.tok _,⟨_,rfl⟩,q⟩
 |ref p=>
  cases k;have f:(∃xs,SqL X.K H p xs/\n=xs.length)\/∃xs,SqT X.K H p xs/\n=xs.length:=e;rcases f with ⟨xs,l,f⟩|⟨xs,l,f⟩
  ·subst f;obtain⟨j,g,i,v⟩:=I.list l;have d:=g.length;exact Calls.call_len_list i.isList (by simp only[aaz];omega) ⟨.int xs.length,H,I.tok _,⟨_,by simp only[aaz];rw[d]⟩,q⟩
  ·subst f;obtain⟨j,g,i,v⟩:=I.tuple l;have d:=g.length;exact len_tuple i (by simp only[aaz];omega) ⟨.int xs.length,H,I.tok _,⟨_,by simp only[aaz];rw[d]⟩,q⟩
 |_=>exact(show False from e).elim
end
end
section
structure ObjM (h:Heap)(x dx C:Addr)(mA:Str->Option Value):Prop where
 obj:h.get? x=some (PySem.W.instObj C dx)
 ns:h.Ns1 dx mA
 ne:dx≠x
def rh{h:Heap}(n:h.Ns1 dx mA):∃f,h.get? dx=some f/\∀b,PySem.W.lookIn b f=some (mA b):=by
 obtain⟨o,d,p,j,k,l,_,i⟩:=n;refine⟨o,j,λb=>?_⟩;have e:=i b;unfold nsFind findBy at e;rw[<-Array.find?_toList]at e;unfold PySem.W.lookIn;rw[k];dsimp only;split
 ·rename_i y q;rw[q]at e;exact congrArg some e
 ·rename_i q;rw[q]at e;have a:d.toList.any (·.refKey)=false:=by rw[acg];intro y g;obtain⟨z,t,c⟩:=l y (Array.mem_toList_iff.mp g);simp[DictEntry.refKey,c]
  have m:¬ d.toList.any (·.refKey)=true:=by rw[a];exact aal
  rw[if_neg m];exact congrArg some e
def ObjM.look(I:ObjM h x dx C mA):∃b,PySem.W.InstAt h x (PySem.W.instObj C dx) C (some b)/\∀a,PySem.W.lookIn a b=some (mA a):=
 let ⟨b,d,c⟩:=rh I.ns
 ⟨b,⟨I.obj,rfl,rfl,d⟩,c⟩
section
variable{prog:Program}{w:World}{A:Around}{E:Value->Shared->Prop}{s:Shared}{K:Waa}{x dx C f:Addr}{mA:Str->Option Value}{name:Str}{v:Value}
def get_map{a:Bool}(X:K.In s.heap)(I:ObjM s.heap x dx C mA)(c:PySem.W.plainGet K C name=true)(g:PySem.W.hasDictIn K C=true)
  (e:PySem.W.findIn K (.ref C) name=some none) (i:mA name=some v) (b:PySem.W.handedIn v=true) (h:Q v { s with toks:=s.toks+1 }):
  wpAny (model prog w) A (getAttr (.ref x) name a) Q E s:=by
 obtain⟨j,J,d⟩:=I.look;exact PySem.W.get_value X J (ach c).1 (PySem.W.findObj_own g e rfl (by rw[d,i])) b h
def tf(X:K.In s.heap)(I:ObjM s.heap x dx C mA)(a:PySem.W.plainGet K C name=true)
  (e:PySem.W.findIn K (.ref C) name=some (some (.ref f))) (c:PySem.W.isFn K (.ref f)=true) (g:mA name=none) (h:Q (.ref f,[.ref x]) s):
  wpAny (model prog w) A (getMethod (.ref x) name pl) Q E s:=by
 obtain⟨b,J,d⟩:=I.look;exact PySem.W.method_fn X J (ach a).1 (ach a).2 e (beq_iff_eq.mp c) (by show (PySem.W.lookIn name b).map (·.isSome)=some false;rw[d,g];rfl) h
def xh(X:K.In s.heap)(I:ObjM s.heap x dx C mA)
  (hs:PySem.W.findIn K (.ref C) "__setattr__"=some (some (.builtin "object.__setattr__"))) (k:PySem.W.plainOver K C=true) (l:PySem.W.takerIn K C name=some none) (q:PySem.W.hasDictIn K C=true)
  (m:PySem.Within mA ns) (j:ns.length<=sizeLine)
  (h:∀h',ObjM h' x dx C (λy=>if y=name then some v else mA y)->Heap.SameBut dx s.heap h'->Q () { s with heap:=h',toks:=s.toks+2 }):
  wpAny (model prog w) A (setAttr (.ref x) name v) Q E s:=by
 obtain⟨u,J,z⟩:=I.look;refine PySem.W.set_plain X J hs (PySem.W.osa_open X J k l λb=>?_);obtain⟨B,n,d⟩:=PySem.W.any_some q;have r:s.heap.get? x=some ⟨.ref C,some dx,.plain,#[]⟩:=I.obj;refine ada (adb (ada (ada (wpAny_loadPart r (ada (PySem.W.Looks.here (PySem.W.looks_clsIn X n) ?_))))));rw[d];refine adb (ada (adb (ada ?_)));refine wpAny_nsSet1 I.ns λh' c a=>?_;obtain⟨t,o,p,g,i,e⟩:=c.count (PySem.Within.cons name v m);refine ada (wpAny_lookBehind g (by rw[i];exact pastItsLine_dict (aav e (by rw[aaw];omega))) ?_);exact adb (h _ ⟨(a.2 _ (aaF I.ne)).trans I.obj,c,I.ne⟩ a)
def tj(X:K.In s.heap)(c:PySem.W.makesIn K C=true)
  (a:PySem.W.findIn K (.ref C) "__init__"=some (some (.ref f))) (b:PySem.W.typeIn K (.ref f)=some (.type "function"))
  (h:codeAny (model prog w) (A.under (.builtin "type.__call__" ⟨.ref C::vs,kw⟩)) (.call (.ref f) ⟨.ref (s.heap.objs.size+1)::vs,kw⟩) (PySem.W.InitBack (s.heap.objs.size+1) R)
   { s with heap:=(s.heap.push PySem.W.emptyDict).push (PySem.W.instObj C s.heap.objs.size) }):
  codeAny (model prog w) A (.call (.ref C) ⟨vs,kw⟩) R s:=by
 obtain⟨i,g,d,t,e⟩:=s;exact PySem.W.make_core (PySem.W.makes_of X c) (PySem.W.looks_findIn X a) (λself=>PySem.W.bind_fn X self b) (.inl rfl) h
end
def cm(f:Str)(v:V):List (Str×V)->List (Str×V)
 |[]=>[(f,v)]
 | (g,x)::r=>if g=f then (g,v)::r else (g,x)::cm f v r
theorem gB(f g:Str)(v:V):∀fs:List (Str×V),(cm f v fs).lookup g=if g=f then some v else fs.lookup g
 |[]=>by
  show List.lookup g [(f,v)]=_;by_cases h:g=f
  ·have a:(g==f)=true:=beq_iff_eq.mpr h;simp only[List.lookup,a,if_pos h]
  ·have a:(g==f)=false:=beq_eq_false_iff_ne.mpr h;simp only[List.lookup,a,if_neg h]
 | (k,x)::r=>by
  have c:=gB f g v r;rw[show cm f v ((k,x)::r)=(if k=f then (k,v)::r else (k,x)::cm f v r) from rfl];by_cases b:k=f
  ·rw[if_pos b];by_cases h:g=k
   ·have a:(g==k)=true:=beq_iff_eq.mpr h;simp only[List.lookup,a,if_pos (h.trans b)]
   ·have a:(g==k)=false:=beq_eq_false_iff_ne.mpr h;simp only[List.lookup,a,if_neg (λe:g=f=>h (e.trans b.symm))]
  ·rw[if_neg b];by_cases h:g=k
   ·have a:(g==k)=true:=beq_iff_eq.mpr h;simp only[List.lookup,a,if_neg (λe:g=f=>b (h.symm.trans e))]
   ·have a:(g==k)=false:=beq_eq_false_iff_ne.mpr h;simp only[List.lookup,a];exact c
theorem fV(f:Str)(v:V):∀fs:List (Str×V),f∈(cm f v fs).map (·.1)/\∀g,g∈fs.map (·.1)->g∈(cm f v fs).map (·.1)
 |[]=>⟨by simp[cm],λg h=>by simp at h⟩
 | (k,x)::r=>by
  obtain⟨b,c⟩:=fV f v r;rw[show cm f v ((k,x)::r)=(if k=f then (k,v)::r else (k,x)::cm f v r) from rfl];by_cases a:k=f
  ·rw[if_pos a];subst a;exact⟨by simp,λg h=>by simpa using h⟩
  ·rw[if_neg a];refine⟨?_,λg h=>?_⟩
   ·rw[aam];exact aah _ b
   ·rw[aam]at h ⊢;rcases aac.mp h with e|e
    ·exact aac.mpr (.inl e)
    ·exact aah _ (c g e)
theorem gC(f:Str)(v:V):∀fs:List (Str×V),(cm f v fs).length<=fs.length+1
 |[]=>by simp[cm]
 | (k,x)::r=>by
  have b:=gC f v r;rw[show cm f v ((k,x)::r)=(if k=f then (k,v)::r else (k,x)::cm f v r) from rfl];by_cases a:k=f
  ·rw[if_pos a,aaw,aaw];omega
  ·rw[if_neg a,aaw,aaw];omega
def RelO.some_of(r:RelO (some v) o):∃u,o=some u/\RelV v u:=by
 cases o with
 |none=>exact(show False from r).elim
 |some u=>exact⟨u,rfl,r⟩
def RelO.none_of(r:RelO none o):o=none:=by
 cases o with
 |none=>rfl
 |some u=>exact(show False from r).elim
def rj(r:RelV v u):PySem.W.handedIn u=true:=by
 cases v with
 |non=>cases (show u=Value.none from r);rfl
 |bl b=>cases (show u=Value.bool b from r);rfl
 |int i=>obtain⟨t,e⟩:=(show ∃t,u=Value.int i t from r);cases e;rfl
 |str x=>obtain⟨t,e⟩:=(show ∃t,u=Value.str x t from r);cases e;rfl
 |byt b=>obtain⟨t,e⟩:=(show ∃t,u=Value.bytes b t from r);cases e;rfl
 |flt b=>obtain⟨t,e⟩:=(show ∃t,u=Value.float b t from r);cases e;rfl
 |ref a=>cases (show u=Value.ref a from r);rfl
 |ty n=>cases (show u=Value.type n from r);rfl
section
variable{P:Program}{w:World}{H H':Hp}{h h':Heap}{a C dx:Addr}{fs fs':List (Str×V)}
def jY(c:HOk P w H h)(e:H a=some (.ins C dx fs)):∃b,ObjM h a dx C b/\(∀f,RelO (fs.lookup f) (b f))/\PySem.Within b (fs.map (·.1))/\fs.length<=1000/\H dx=some (.own a):=by
 obtain⟨d,z,g,i,b,n,r,q⟩:=(show ObjOk P w H h a (.ins C dx fs) from c a _ e)
 exact⟨b,⟨i,n,g⟩,r,q,z,d⟩
end
structure Cls (K:Waa)(C:Addr):Prop where
 pg:PySem.W.plainGet K C Str.empty=true
 hd:PySem.W.hasDictIn K C=true
 po:PySem.W.plainOver K C=true
 sa:PySem.W.findIn K (.ref C) "__setattr__"=some (some (.builtin "object.__setattr__"))
def Cls.get{K:Waa}{C:Addr}(c:Cls K C)(f:Str):PySem.W.plainGet K C f=true:=c.pg
def NoAttr(K:Waa)(C:Addr)(f:Str):Prop:=PySem.W.findIn K (.ref C) f=some none
def NoAttr.taker{K:Waa}(n:NoAttr K C f):PySem.W.takerIn K C f=some none:=by unfold PySem.W.takerIn;rw[show PySem.W.findIn K (.ref C) f=some none from n];rfl
structure Meth (K:Waa)(C:Addr)(m:Str)(f:Addr):Prop where
 at_:PySem.W.findIn K (.ref C) m=some (some (.ref f))
 fn:PySem.W.isFn K (.ref f)=true
 kp:PySem.W.keepIn K (.ref f)=true
section
variable{X:Cx}{pins:List (Addr×Obj)}{σ:St}{H:Hp}{s:Shared}{a C dx:Addr}{fs:List (Str×V)}{f:Str}{v:V}{A:Around}{E:Value->Shared->Prop}
def gY{b:Bool}{Q:Value->Shared->Prop}(I:Inv X pins σ H s)(e:H a=some (.ins C dx fs))(c:Cls X.K C)(n:NoAttr X.K C f)(l:fs.lookup f=some v)
  (h:∀u d,Inv X pins σ H d->RelV v u->Q u d):wpAny (model X.prog X.w) A (getAttr (.ref a) f b) Q E s:=by
 obtain⟨j,O,r,_,_,_⟩:=jY I.hok e;obtain⟨u,i,g⟩:=RelO.some_of (by rw[<-l];exact r f);exact get_map I.rz O (c.get f) c.hd n i (rj g) (h u _ (I.tok _) g)
def gZ(I:Inv X pins σ H s)(e:H a=some (.ins C dx fs))(c:Cls X.K C)(k:Meth X.K C m g)(l:fs.lookup m=none)
  (h:Q (.ref g,[.ref a]) s):wpAny (model X.prog X.w) A (getMethod (.ref a) m pl) Q E s:=by
 obtain⟨d,O,r,_,_,_⟩:=jY I.hok e;have b:d m=none:=RelO.none_of (by rw[<-l];exact r m);exact tf I.rz O (c.get m) k.at_ k.fn b h
def g7{y:V}{u:Value}(I:Inv X pins σ H s)(e:H a=some (.ins C dx fs))(c:Cls X.K C)(n:NoAttr X.K C f)(L:fs.length<1000)(F:RelV y u)
  (h:∀j,Inv X pins σ (upd H a (.ins C dx (cm f y fs))) j->Q () j):wpAny (model X.prog X.w) A (setAttr (.ref a) f u) Q E s:=by
 obtain⟨i,O,r,l,_,k⟩:=jY I.hok e;have x:(fs.map (·.1)).length<=sizeLine:=by rw[aaa,adI];omega
 refine xh I.rz O c.sa c.po n.taker c.hd l x λp d t=>h _ ?_;have B:∃o,p.get? dx=some o:=let ⟨o,_,_,m,_⟩:=d.ns;⟨o,m⟩
 refine I.write (by rw[e];exact True.intro) (.inr k) (λb q J z=>(t.2 b J).trans z) B ?_;refine⟨by rw[upd_ne O.ne];exact k,?_,O.ne,d.obj,_,d.ns,λg=>?_,λg D=>?_⟩
 ·have:=gC f y fs;omega
 ·show RelO ((cm f y fs).lookup g) (if g=f then some u else i g);rw[gB];by_cases q:g=f
  ·rw[if_pos q,if_pos q];exact F
  ·rw[if_neg q,if_neg q];exact r g
 ·by_cases q:g=f
  ·rw[q];exact(fV f y fs).1
  ·refine(fV f y fs).2 g (l g λz=>D ?_);show (if g=f then some u else i g)=none;rw[if_neg q];exact z
def Inv.made(I:Inv X pins σ H s):Inv X pins σ (upd (upd H s.heap.objs.size (.own (s.heap.objs.size+1))) (s.heap.objs.size+1) (.ins C s.heap.objs.size []))
  { s with heap:=(s.heap.push PySem.W.emptyDict).push (PySem.W.instObj C s.heap.objs.size) }:=by
 have d:(s.heap.push PySem.W.emptyDict).get? s.heap.objs.size=some PySem.W.emptyDict:=adf s.heap rfl;have j:((s.heap.push PySem.W.emptyDict).push (PySem.W.instObj C s.heap.objs.size)).get? (s.heap.objs.size+1)=some (PySem.W.instObj C s.heap.objs.size):=by
  have:=adf (s.heap.push PySem.W.emptyDict) (o:=PySem.W.instObj C s.heap.objs.size) rfl
  rwa [adg]at this
 have i:(s.heap.push PySem.W.emptyDict).Ns s.heap.objs.size (λ_=>none):=⟨PySem.W.emptyDict,#[],_,d,rfl,(λe k=>absurd k (by simp)),λ_=>rfl⟩
 have h:=I.laid (o:=.own (s.heap.objs.size+1)) (t':=s.toks) (λb u q=>ade _ q) (aag _) ⟨_,d⟩;refine h.laid (λb u q=>ade _ q) (abq (adg _ _)) ?_;have c:s.heap.objs.size≠s.heap.objs.size+1:=aar (aaY _);refine⟨by rw[upd_ne c,ar],aaH _,c,j,λ_=>none,(Heap.Ns1.of_empty i).at λo q=>ade _ q,λ_=>True.intro,λy g=>absurd rfl g⟩
def attr_of{prog:Program}{w:World}(c:attributeBase e f env (eval e env)=eval e env)
  (h:wpAny (model prog w) A (eval e env) (λo b=>wpAny (model prog w) A (getAttr o f true) Q E b) E s):wpAny (model prog w) A (eval (.Attribute e f pos) env) Q E s:=
 Attribute_any_ h (by rw[arm_eval_Attribute,c])
end
def GV(K:Waa)(g:TE)(f:Str):TE:=λd H Q=>g d H λx b=>∃a C e c v,x=.ref a/\b a=some (.ins C e c)/\Cls K C/\NoAttr K C f/\c.lookup f=some v/\Q v b
def GW(K:Waa)(h i:TE)(f:Str):TS:=λD b H=>i b H λy g=>h b g λx d=>∃a C e c,x=.ref a/\d a=some (.ins C e c)/\Cls K C/\NoAttr K C f/\c.length<1000 /\
 D.nx b (upd d a (.ins C e (cm f y c)))
def xi(X:Cx)(c:Operator)(rd:V->V->Hp->VK->Prop):Prop:=
 ∀(a:List (Addr×Obj)) (s:Shared) (b:St) (H:Hp) (x y:V) (u v:Value) (Q:VK),Inv X a b H s->RelV x u->RelV y v->rd x y H Q->wpAny (model X.prog X.w) X.A (inplaceOp c u v) (EP X a b Q) X.xe s
def xj(K:Waa)(j k:TE)(rd:V->V->Hp->VK->Prop)(f:Str):TS:=λD d H=>j d H λx h=>∃a C l e v,x=.ref a/\h a=some (.ins C l e)/\Cls K C/\NoAttr K C f/\e.lookup f=some v /\
 k d h λy i=>rd v y i λz g=>∃c b,g a=some (.ins C c b)/\b.length<1000/\D.nx d (upd g a (.ins C c (cm f z b)))
section
variable{X:Cx}{o e value:Expr}{f:Str}{pos pos' tpos:Pos}{ta tv:TE}
def AW(j:PE X e ta)(y:attributeBase e f X.env (eval e X.env)=eval e X.env):PE X (.Attribute e f pos) (GV X.K ta f):=by
 intro b s p H Q I h;refine attr_of y (thn (j b s p H _ I h) λu D t=>?_);obtain⟨x,w,g,r,a,C,z,A,v,m,i,c,n,l,q⟩:=t;subst m;obtain rfl:u=Value.ref a:=r;exact gY g i c n l λB F k d=>⟨v,w,k,d,q⟩
def AX(i:PE X o ta)(v:PE X value tv)(hs:swapsWith value (some (.Attribute o f pos')) pos.line X.env=pure false):PS X (.Assign [.Attribute o f pos'] value pos) (GW X.K ta tv f):=by
 intro b s d H D I h;refine plainObj_wpAny_Assign_Attribute (thn (v b s d H _ I h) λu t ⟨y,B,g,F,q⟩=>thn (i b t d B _ g q) λk O A=>?_) hs;obtain⟨x,J,m,w,a,C,M,N,p,j,c,n,l,r⟩:=A;subst p;obtain rfl:k=Value.ref a:=w;exact g7 m j c n l F λL z=>⟨d,_,z,r⟩
def rk{m:Operator}{k:V->V->Hp->VK->Prop}(A:PE X o ta)(W:PE X value tv)(g:xi X m k):PS X (.AugAssign (.Attribute o f tpos) m value pos) (xj X.K ta tv k f):=by
 intro b s d H D I h;refine wpAny_AugAssign_AttributeAny (thn (A b s d H _ I h) λL s1 j=>?_);obtain⟨x,H1,t,Y,a,C,dx,fs,v,P,F,c,n,l,q⟩:=j;subst P;obtain rfl:L=Value.ref a:=Y;refine gY t F c n l λu s2 N r=>thn (W b s2 d H1 _ N q) λJ O ⟨y,p,Z,ry,S⟩=>thn (g b O d p v y u J _ Z r ry S) λw4 s4 j=>?_;obtain⟨z,H3,U,T,B,M,i,l',Q⟩:=j;exact g7 U i c n l' T λs5 w=>⟨d,_,w,Q⟩
def rAdd:V->V->Hp->VK->Prop:=λx y H Q=>∃i j,x=.int i/\y=.int j/\Q (.int (i+j)) H
def rSub:V->V->Hp->VK->Prop:=λx y H Q=>∃i j,x=.int i/\y=.int j/\Q (.int (i-j)) H
def AY:xi X .Add rAdd:=by
 rintro b s g H x y u v Q I d c ⟨i,j,rfl,rfl,q⟩;obtain⟨t,rfl⟩:=(show ∃t,u=Value.int i t from d)
 obtain⟨a,rfl⟩:=(show ∃a,v=Value.int j a from c)
 exact PyProof.Rows.iadd_int ⟨.int (i+j),H,I.tok _,⟨_,rfl⟩,q⟩
def AZ:xi X .Sub rSub:=by
 rintro b s g H x y u v Q I d c ⟨i,j,rfl,rfl,q⟩;obtain⟨t,rfl⟩:=(show ∃t,u=Value.int i t from d)
 obtain⟨a,rfl⟩:=(show ∃a,v=Value.int j a from c)
 exact PyProof.Rows.isub_int ⟨.int (i-j),H,I.tok _,⟨_,rfl⟩,q⟩
end
end
section
structure Room (k:Nat)(A:Around):Prop where
 hd:A.handled=none
 dp:A.depth+3*k+5<recursionLimit
 un:A.units+16*k+200<cLine
 gd:A.guards=some []
def Room.deeper(r:Room (k+1) A)(env:Env):Room k (A.deeper env):=
 ⟨r.hd,by have:=r.dp;show A.depth+1+3*k+5<_;omega,by have:=r.un;show A.units+3+16*k+200<_;omega,r.gd⟩
def m3{A:Around}:(A.under (.builtin "type.__call__" ⟨.ref C::us,kw⟩)).depth=A.depth+1:=by
 first|rfl|simp[Around.under,Code.weight,Code.isCreation,Code.isGuard,Code.isCaller,Code.frames,Code.isFrame,guardIds]
def m4{A:Around}:(A.under (.builtin "type.__call__" ⟨.ref C::us,kw⟩)).units=A.units+1:=by
 first|rfl|simp[Around.under,Code.cUnits,Code.frames,Code.isFrame]
def Room.make(r:Room (k+1) A)(C:Addr)(us:List Value)(a:List (Str×Value)):Room k (A.under (.builtin "type.__call__" ⟨.ref C::us,a⟩)):=
 ⟨r.hd,by have:=r.dp;rw[m3];omega,by have:=r.un;rw[m4];omega,by first|exact r.gd|simp[Around.under,Code.isGuard,guardIds,r.gd]⟩
def Room.depth(r:Room k A):A.depth<recursionLimit:=by have:=r.dp;omega
def Room.units{A:Around}(r:Room k A):A.units+64<cLine:=by have:=r.un;omega
def tNil:TA:=λ_ H Q=>Q [] H
def D0(e:TE)(b:TA):TA:=λa H Q=>e a H λx d=>b a d λf c=>Q (x::f) c
section
variable{X:Cx}{e:Expr}{es:List Expr}{te:TE}{t:TA}{pos:Pos}
def bz:PA X [] tNil:=λ_ _ _ _ H Q I h=>Calls.spliced_nil ⟨[],H,I,.nil,h⟩
def aP(f:PE X e te)(m:PA X es t)(hs:starEach (e::es) X.env=(false,eval e X.env)::starEach es X.env:=by rfl):PA X (e::es) (D0 te t):=by
 intro pos a s b H Q I h;rw[hs];show wpAny _ _ (spliced ((false,eval e X.env)::backTo pos (starEach es X.env))) _ _ s;refine Calls.spliced_cons (thn (f a s b H _ I h) λu n o=>?_);obtain⟨x,p,d,j,k⟩:=o;exact thn (m pos a n b p _ d k) λr v ⟨g,c,i,q,l⟩=>⟨x::g,c,i,.cons j q,l⟩
def GX(t:TA):TE:=λc H Q=>t c H λb a=>b.length<=sizeLine/\∀p,a p=none->Q (.ref p) (upd a p (.tup b))
def GY(t:TA):TE:=λc H Q=>t c H λb a=>b.length<=sizeLine/\∀p,a p=none->Q (.ref p) (upd a p (.lst b))
def m5{m}(h:PA X es t):PE X (.Tuple es m pos) (GX t):=by intro a s k H Q I j;refine wpAny_Tuple_spliced (thn (h pos a s k H _ I j) λg c ⟨i,f,d,r,z,q⟩=>⟨by rw[<-r.length];exact z,?_⟩);have l:f c.heap.objs.size=none:=d.hok.fresh (aag _);refine⟨.ref c.heap.objs.size,upd f c.heap.objs.size (.tup i),d.laid (t':=c.toks) (λb u e=>ade _ e) (aag _) ?_,rfl,q _ l⟩;exact⟨z,g,r,⟨_,adf _ rfl,rfl,_,rfl,rfl⟩⟩
def A6(h:PA X es t):PE X (.List es pos) (GY t):=by intro a s k H Q I j;refine wpAny_List_spliced (thn (h pos a s k H _ I j) λg c ⟨i,f,d,r,z,q⟩=>⟨by rw[<-r.length];exact z,?_⟩);have l:f c.heap.objs.size=none:=d.hok.fresh (aag _);refine⟨.ref c.heap.objs.size,upd f c.heap.objs.size (.lst i),d.laid (t':=c.toks) (λb u e=>ade _ e) (aag _) ?_,rfl,q _ l⟩;exact⟨z,g,0,r,adf _ rfl⟩
end
abbrev Sp:=List V->Hp->VK->XK->Prop
abbrev CXT:=List Env->Hp->Shared->XK->Value->Shared->Prop
structure Env0 (P:Program)(w:World)(K:Waa)(mg:Str->Option Value)(base:Heap)(A:Around)(outer:List Env)(s:Shared)(H:Hp):Prop where
 frames:A.frames=some outer
 mod:Mod K mg base
 bs:∀b o,base.get? b=some o->s.heap.get? b=some o/\H b=none
 bsz:base.objs.size<=s.heap.objs.size
 funs:s.heap.FunFrames base outer
 frf:∀b∈sM outer,H b=none
 hok:HOk P w H s.heap
 bare:AllBare s.gens
def CE(a:List Env)(P:Program)(w:World)(H:Hp)(s:Shared)(Q:VK)(u:Value)(b:Shared):Prop:=
 ∃v c,b.os=s.os/\AllBare b.gens/\Un (sM a) [] H c s.heap b.heap/\HOk P w c b.heap/\RelV v u/\Q v c
def CR(CX:CXT)(a:List Env)(P:Program)(w:World)(H:Hp)(s:Shared)(Q:VK)(E:XK)(r:Result)(b:Shared):Prop:=
 match r with
 |.ok (.ret u)=>CE a P w H s Q u b
 |.ok _=>False
 |.error e=>CX a H s E e b
structure FnOk (P:Program)(w:World)(K:Waa)(mg:Str->Option Value)(base:Heap)(CX:CXT)(k:Nat)(f:Addr)(fd:FuncData)(ps:List Str)(sp:Sp):Prop where
 len:∀vs H Q E,sp vs H Q E->vs.length=ps.length
 run:∀(A:Around) (outer:List Env) (s:Shared) (H:Hp) (args:Args) (us:List Value) (vs:List V) (Q:VK) (E:XK),Room k A->Env0 P w K mg base A outer s H->BindsTo s fd args (ps.zip us)->Vals vs us->sp vs H Q E ->
  codeAny (model P w) A (.call (.ref f) args) (CR CX outer P w H s Q E) s
def FnOk.imp{K:Waa}(F:FnOk P w K mg base CX k f fd ps sp)
  (h:∀vs H Q E,sp' vs H Q E->sp vs H Q E):FnOk P w K mg base CX k f fd ps sp':=
 ⟨λvs H Q E q=>F.len vs H Q E (h _ _ _ _ q),λA a s H b c vs Q E d j e g i=>F.run A a s H b c vs Q E d j e g (h _ _ _ _ i)⟩
def Env0.make{K:Waa}(e:Env0 P w K mg base A outer s H)(C:Addr)(us:List Value)(a:List (Str×Value)):
  Env0 P w K mg base (A.under (.builtin "type.__call__" ⟨.ref C::us,a⟩)) outer s H:=⟨by first|exact e.frames|(simpa[Around.under,Code.envs,Code.isFrame,pushEnvs] using e.frames),e.mod,e.bs,e.bsz,e.funs,e.frf,e.hok,e.bare⟩
section
variable{X:Cx}{pins:List (Addr×Obj)}{σ:St}{H:Hp}{s s':Shared}
def Inv.env0(I:Inv X pins σ H s):Env0 X.prog X.w X.K X.mg X.base X.A X.stack s H:=
 ⟨I.ok.frames,I.ok.mod,I.bs,aav I.ok.bsz I.sz,I.stack,I.t4,I.hok,I.bare⟩
def Inv.after(I:Inv X pins σ H s)(h:CE X.stack X.prog X.w H s Q u s'):EP X pins σ Q u s':=by obtain⟨v,f,j,a,i,c,r,q⟩:=h;obtain⟨k,g,d,t,e⟩:=s';obtain rfl:e=s.os:=j;exact⟨v,f,I.call i c a (λb z=>absurd z (by simp)),r,q⟩
end
def zE(sp:Sp)(a:List V)(E:XK)(t:TA):TE:=λb H Q=>t b H λd c=>sp (d++a) c Q E
def tm(C:Addr)(m:Str)(sp:Sp)(b:List V)(E:XK)(h:TE)(t:TA):TE:=λc H Q=>h c H λx d=>∃a g e,x=.ref a/\d a=some (.ins C g e)/\e.lookup m=none /\
 t c d λi f=>sp (x::(i++b)) f Q E
def zF(C:Addr)(sp:Sp)(c:List V)(E:XK)(t:TA):TE:=λe H Q=>t e H λf b=>∀x a,b x=none->b a=none->a≠x ->
 sp (.ref x::(f++c)) (upd (upd b a (.own x)) x (.ins C a [])) (λv d=>v=.non/\Q (.ref x) d) E
def Binds(K:Waa)(b:FuncData)(ps:List Str)(ds:List Value):Prop:=
 ∀(s:Shared) (a:List Value),K.In s.heap->(a++ds).length=ps.length->BindsTo s b ⟨a,[]⟩ (ps.zip (a++ds))
def Binds.all{K:Waa}{b:FuncData}{ps:List Str}(h:∀us:List Value,us.length=ps.length->bindArgs b ⟨us,[]⟩=pure (ps.zip us)):Binds K b ps []:=λs us _ a=>by rw[aaq]at a ⊢;exact .of_eq (h us a)
def Passes(CX:CXT)(X:Cx)(E:XK):Prop:=∀(a:List (Addr×Obj)) (c:St) (H:Hp) (s:Shared) (e:Value) (b:Shared),Inv X a c H s->CX X.stack H s E e b->X.xe e b
section
variable{X:Cx}{CX:CXT}{k:Nat}{f C:Addr}{fd:FuncData}{ps:List Str}{sp:Sp}{dvs:List V}{ds:List Value}{E:XK}{x m:Str}{p pos apos:Pos}{e o:Expr}{es:List Expr}{ta:TE}{t:TA}
def m6(F:FnOk X.prog X.w X.K X.mg X.base CX k f fd ps sp)(g:Room k X.A)(i:Binds X.K fd ps ds)(j:Vals dvs ds)(n:Passes CX X E)
  (I:Inv X pins σ H s) (r:Vals vs us) (h:sp (vs++dvs) H Q E):wpAny (model X.prog X.w) X.A (call (.ref f) us) (EP X pins σ Q) X.xe s:=by
 have b:Vals (vs++dvs) (us++ds):=r.append j;have d:(us++ds).length=ps.length:=by rw[<-b.length];exact F.len _ _ _ _ h
 refine wpAny_call (adt (F.run X.A X.stack s H ⟨us,[]⟩ (us++ds) (vs++dvs) Q E g I.env0 (i s us I.rz d) b h) λr c a=>?_);cases r with
 |error e=>exact n pins σ H s e c I a
 |ok l=>
  cases l with
  |ret u=>exact I.after a
  |next=>exact False.elim a
  |brk=>exact False.elim a
  |cont=>exact False.elim a
def xk(F:FnOk X.prog X.w X.K X.mg X.base CX k f fd ps sp)(n:Room k X.A)(v:Gl X x)(i:X.mg x=some (.ref f))(hk:PySem.W.keepIn X.K (.ref f)=true)(y:Binds X.K fd ps ds)(u:Vals dvs ds)(z:Passes CX X E)
  (g:PA X (e::es) t) (c:(x==("__debug__":Str))=false:=by decide) (j:starEach (e::es) X.env=(false,eval e X.env)::starEach es X.env:=by rfl) (b:(backTo pos (starEach es X.env)).any (·.1)=false:=by rfl):
  PE X (.Call (.Name x p) (e::es) [] pos) (zE sp dvs E t):=by
 intro a s l H Q I h;refine adJ (jX I v i ?_ c);refine aci (h₀:=X.base) I.ok.mod.kin hk (thn (g pos a s l H _ I h) λB D ⟨J,L,d,r,q⟩=>⟨d.rz,?_⟩) j b;exact m6 F n y u z d r q
def xl{pl:Sem Bool}(B:PE X o ta)(c:Cls X.K C)(j:Meth X.K C m f)(F:FnOk X.prog X.w X.K X.mg X.base CX k f fd ps sp)(M:Room k X.A)(U:Binds X.K fd ps ds)(N:Vals dvs ds)(W:Passes CX X E)(y:PA X (e::es) t)
  (d:starEach (e::es) X.env=(false,eval e X.env)::starEach es X.env:=by rfl) (g:(backTo pos (starEach es X.env)).any (·.1)=false:=by rfl)
  (D:eval (.Call (.Attribute o m apos) (e::es) [] pos) X.env=(do
   let ov <-eval o X.env
   standAt apos.atName
   let (f,first) <-holding [ov] (getMethod ov m pl)
   callWith pos f first (backTo pos (starEach (e::es) X.env)) (backToKw pos (keywordEach [] X.env))):=by rfl):
  PE X (.Call (.Attribute o m apos) (e::es) [] pos) (tm C m sp dvs E ta t):=by
 intro b s v H Q I h;refine acG (pl:=pl) (thn (B b s v H _ I h) λu O S=>?_) D;obtain⟨x,T,i,P,a,dx,fs,J,z,l,q⟩:=S;subst J;obtain rfl:u=Value.ref a:=P;refine gZ i z c j l ?_;refine aci (first:=[.ref a]) I.ok.mod.kin j.kp (thn (y pos b O v T _ i q) λZ s2 ⟨vs,Y,n,r,L⟩=>⟨n.rz,?_⟩) d g;exact m6 (vs:=.ref a::vs) F M U N W n (.cons rfl r) L
def tq{pl:Sem Bool}(j:PE X o ta)(c:Cls X.K C)(g:Meth X.K C m f)(F:FnOk X.prog X.w X.K X.mg X.base CX k f fd ps sp)(y:Room k X.A)(J:Binds X.K fd ps ds)(z:Vals dvs ds)(L:Passes CX X E)
  (n:eval (.Call (.Attribute o m apos) [] [] pos) X.env=(do
   let ov <-eval o X.env
   standAt apos.atName
   let (f,first) <-holding [ov] (getMethod ov m pl)
   callWith pos f first (backTo pos (starEach [] X.env)) (backToKw pos (keywordEach [] X.env))):=by rfl):
  PE X (.Call (.Attribute o m apos) [] [] pos) (tm C m sp dvs E ta tNil):=by
 intro b s v H Q I h;refine acG (pl:=pl) (thn (j b s v H _ I h) λu O D=>?_) n;obtain⟨x,P,d,B,a,M,N,r,i,l,q⟩:=D;subst r;obtain rfl:u=Value.ref a:=B;refine gZ d i c g l ?_;exact PySem.W.callWith_K0 d.rz g.kp (m6 (vs:=[.ref a]) F y J z L d (.cons rfl .nil) q)
structure Mk (K:Waa)(C f:Addr):Prop where
 makes:PySem.W.makesIn K C=true
 init:PySem.W.findIn K (.ref C) "__init__"=some (some (.ref f))
 fn:PySem.W.isFn K (.ref f)=true
 kp:PySem.W.keepIn K (.ref C)=true
theorem tu{b:List (Addr×Obj)}{σ:St}(M:Mk X.K C f)(F:FnOk X.prog X.w X.K X.mg X.base CX k f fd ps sp)(n:Room (k+1) X.A)(J:Binds X.K fd ps ds)(z:Vals dvs ds)
  (O:Passes CX X E) (I:Inv X b σ H s) (r:Vals vs us)
  (h:∀x dx,H x=none->H dx=none->dx≠x->sp (.ref x::(vs++dvs)) (upd (upd H dx (.own x)) x (.ins C dx [])) (λv i=>v=.non/\Q (.ref x) i) E):
  wpAny (model X.prog X.w) X.A (call (.ref C) us) (EP X b σ Q) X.xe s:=by
 have d:=h (s.heap.objs.size+1) s.heap.objs.size (I.hok.fresh (abr _)) (I.hok.fresh (aag _)) (aar (aaY _));have c:=Inv.made (C:=C) I;have g:Vals (V.ref (s.heap.objs.size+1)::(vs++dvs)) (Value.ref (s.heap.objs.size+1)::(us++ds)):=.cons rfl (r.append z);have j:(Value.ref (s.heap.objs.size+1)::us++ds).length=ps.length:=by have e:=g.length;rw[F.len _ _ _ _ d]at e;exact e.symm
 refine wpAny_call (tj I.rz M.makes M.init (beq_iff_eq.mp M.fn) (adt (F.run _ X.stack _ _ ⟨Value.ref (s.heap.objs.size+1)::us,[]⟩ (Value.ref (s.heap.objs.size+1)::(us++ds)) _ _ E (n.make C us [])
  (c.env0.make C us []) (J _ (Value.ref (s.heap.objs.size+1)::us) c.rz j) g d) λr l a=>?_))
 cases r with
 |error e=>exact O b σ _ _ e l c a
 |ok L=>
  cases L with
  |ret u=>obtain⟨v,B,D,y,N,q⟩:=c.after a;subst N;exact⟨y,⟨V.ref (s.heap.objs.size+1),B,D,rfl,q⟩⟩
  |next=>exact False.elim a
  |brk=>exact False.elim a
  |cont=>exact False.elim a
def xm(M:Mk X.K C f)(F:FnOk X.prog X.w X.K X.mg X.base CX k f fd ps sp)(n:Room (k+1) X.A)(v:Gl X x)(i:X.mg x=some (.ref C))(y:Binds X.K fd ps ds)(u:Vals dvs ds)(z:Passes CX X E)
  (g:PA X (e::es) t) (c:(x==("__debug__":Str))=false:=by decide) (j:starEach (e::es) X.env=(false,eval e X.env)::starEach es X.env:=by rfl) (b:(backTo pos (starEach es X.env)).any (·.1)=false:=by rfl):
  PE X (.Call (.Name x p) (e::es) [] pos) (zF C sp dvs E t):=by
 intro a s l H Q I h;refine adJ (jX I v i ?_ c);refine aci (h₀:=X.base) I.ok.mod.kin M.kp (thn (g pos a s l H _ I h) λB D ⟨J,L,d,r,q⟩=>⟨d.rz,?_⟩) j b;exact tu M F n y u z d r q
end
structure FnScope (N P:List Str)(sc:Scope):Prop where
 kind:sc.kind=.function
 co:sc.isCoroutine=false
 gen:sc.isGenerator=false
 nd:N.Nodup
 pre:N.take P.length=P
 par:∀x∈P,sc.names.lookup x=some .local\/sc.names.lookup x=some .cell
 nofree:∀y∈sc.names,y.2≠.free
theorem jv{b:Str->Option NameKind}:∀{a:List (Str×Value)}{m:Str->Option Value},(∀v,(x,v) ∉ a)->bindL b a m x=m x
 |[],_,_=>rfl
 | (n,v)::r,m,h=>by
  unfold bindL;rw[jv λw c=>h w (aah _ c)];split
  ·have:x≠n:=by rintro rfl;exact h v aab
   simp[this]
  ·rfl
theorem jw{b:Str->Option NameKind}:∀{a:List (Str×Value)}{m:Str->Option Value},(∀v,(x,v) ∉ a)->bindC b a m x=m x
 |[],_,_=>rfl
 | (n,v)::r,m,h=>by
  unfold bindC;rw[jw λw c=>h w (aah _ c)];split
  ·rfl
  ·have:x≠n:=by rintro rfl;exact h v aab
   simp[this]
def jx{a:Str->Option NameKind}:∀{P:List Str}{vs:List Value}{i:Nat}{m:Str->Option Value},P.Nodup->P[i]?=some x->vs[i]?=some v->a x=some .local ->
  bindL a (P.zip vs) m x=some v
 |[],_,_,_,_,h,_,_=>by simp at h
 |_::_,[],_,_,_,_,h,_=>by simp at h
 |p::P,w::vs,0,m,nd,h1,h2,hk=>by simp at h1 h2;subst h1;subst h2;show bindL a ((p,w)::P.zip vs) m p=_;unfold bindL;rw[jv λv b=>(aaA.mp nd).1 (aaZ b).1,if_pos hk];simp
 |p::P,w::vs,i+1,m,nd,h1,h2,hk=>by show bindL a ((p,w)::P.zip vs) m x=_;unfold bindL;exact jx (i:=i) (aaA.mp nd).2 (by simpa using h1) (by simpa using h2) hk
def jy{a:Str->Option NameKind}:∀{P:List Str}{vs:List Value}{i:Nat}{m:Str->Option Value},P.Nodup->P[i]?=some x->vs[i]?=some v->a x≠some .local ->
  bindC a (P.zip vs) m x=some v
 |[],_,_,_,_,h,_,_=>by simp at h
 |_::_,[],_,_,_,_,h,_=>by simp at h
 |p::P,w::vs,0,m,nd,h1,h2,hk=>by simp at h1 h2;subst h1;subst h2;show bindC a ((p,w)::P.zip vs) m p=_;unfold bindC;rw[jw λv b=>(aaA.mp nd).1 (aaZ b).1,if_neg hk];simp
 |p::P,w::vs,i+1,m,nd,h1,h2,hk=>by show bindC a ((p,w)::P.zip vs) m x=_;unfold bindC;exact jy (i:=i) (aaA.mp nd).2 (by simpa using h1) (by simpa using h2) hk
def start(N:List Str)(vs:List V):St:=vs.map some++List.replicate (N.length-vs.length) none
def jZ(CX:CXT)(P:Program)(w:World)(K:Waa)(mg:Str->Option Value)(base:Heap)(N:List Str)(b:Str)(a:Scope)(f:Addr)(d:Value)(A:Around)(outer:List Env)(s:Shared)(H:Hp)(E:XK):Cx where
 prog:=P
 w:=w
 K:=K
 mg:=mg
 base:=base
 A:=A.deeper (envOfC b a s.heap.objs.size f d)
 N:=N
 s₀:=s
 H₀:=H
 env:=envOfC b a s.heap.objs.size f d
 outer:=outer
 stack:=envOfC b a s.heap.objs.size f d::outer
 ex:=[]
 calm:=true
 fn:=λ_=>true
 pn:=[]
 xe:=λe h=>wpAny (model P w) (A.deeper (envOfC b a s.heap.objs.size f d)) (leaving (envOfC b a s.heap.objs.size f d) e) (λ_ c=>CX outer H s E e c) (λg c=>CX outer H s E g c) h
def lC{sc:Scope}(h:sc.names.lookup x=some .cell):∃c,(cellsFrom n sc.names []).lookup x=some c:=by have q:=acH sc.names n [] (.inl h);exact abt.mp q
theorem rl{K:Waa}
  (S:FnScope N ps scope) (J:A.handled=none) (g:Env0 P w K mg base A outer s H) (L:vs.length=ps.length) (r:Vals vs us)
  (x:InCallC s s.heap.objs.size (bindL (envOfC qual scope s.heap.objs.size f cd).kindOf (ps.zip us) λ_=>none) (cellsFrom (s.heap.objs.size+1) scope.names []) (bindC (envOfC qual scope s.heap.objs.size f cd).kindOf (ps.zip us) λ_=>none) s1):
  Inv (jZ CX P w K mg base N qual scope f cd A outer s H E) [] (start N vs) H s1:=by
 have F:ps.length<=N.length:=by have:=congrArg List.length S.pre;rw[abz]at this;omega
 obtain⟨t,M,rfl,C⟩:=x.done;have l:∀b:Addr,b ∉ (jZ CX P w K mg base N qual scope f cd A outer s H E).ex:=λb z=>absurd (show b∈([]:List Addr) from z) (by simp);refine⟨⟨g.mod,S.kind,rfl,rfl,aag _,λy z c t d=>?_,λy j=>?_,λy c _ h=>?_,λ_=>J,Around.frames_deeper g.frames,.inr ⟨rfl,rfl⟩,λb z=>absurd z (l b),g.bs,g.bsz,λb _ _=>l b,λb z=>absurd z (l b),g.funs,g.frf⟩,
  rfl,g.bare,Un.kept C,⟨_,x.toInCall.ns,λi y v t d O=>?_⟩,λy c h=>⟨_,x.cell y c h⟩,g.hok.fresh (aag _),λy c h=>?_,λp m=>absurd (show p∈([]:List (Addr×Obj)) from m) (by simp),g.hok.kept C,?_⟩
 ·exact name_of_addr x.apart (abg t) (abg d)
 ·have j:scope.names.lookup y=some .cell\/scope.names.lookup y=some .free:=j;rcases j with j|j
  ·exact lC j
  ·exact absurd rfl (S.nofree _ (abg j))
 ·exact aaU (x.above y c (abg h))
 ·have o:i<vs.length:=by
   unfold start at d;by_cases o:i<vs.length
   ·exact o
   ·rw[aa4 (by simpa using o)]at d;rw[acI]at d;split at d<;>cases d
  have D:vs[i]?=some v:=by
   unfold start at d;rw[aaR (by simpa using o),aat]at d;cases e:vs[i]? with
   |none=>rw[e]at d;cases d
   |some a=>rw[e]at d;cases d;rfl
  obtain⟨u,B,I⟩:=r.get D;have m:ps[i]?=some y:=by rw[<-S.pre,List.getElem?_take_of_lt (by omega)];exact t
  have n:ps.Nodup:=by rw[<-S.pre];exact S.nd.sublist (List.take_sublist _ _)
  refine⟨u,I,?_⟩;rcases S.par y (aaV m) with k|k
  ·exact .inl ⟨k,jx n m B k⟩
  ·obtain⟨c,e⟩:=lC k;refine .inr ⟨.inl k,c,e,?_⟩;have q:=x.cell y c e;rw[jy n m B (by show scope.names.lookup y≠_;rw[k];decide)]at q;exact q
 ·exact g.hok.fresh (aaU (x.above y c (abg h)))
 ·unfold start;show _=N.length;rw[aak,aaa,abS];omega
theorem D1{K:Waa}{U Z l pm c Y oc:Value}{X od:Option Addr}
  {M:Array (Option Value)}{N ps:List Str}{sp:Sp} (lk:K.lookup f=some ⟨oc,od,.func (PySem.W.fnOf name qual params body scope U Z l pm X c Y),M⟩) (C:PySem.W.codeIn K c qual=true) (S:FnScope N ps scope)
  (B:∀vs H Q E,sp vs H Q E->vs.length=ps.length)
  (h:∀(A:Around) (a:List Env) (s:Shared) (H:Hp) (vs:List V) (Q:VK) (E:XK),Room k (A.deeper (envOfC qual scope s.heap.objs.size f c))->sp vs H Q E ->
   ∃t,PSs (jZ CX P w K mg base N qual scope f c A a s H E) body t/\t { nx:=λ_ g=>Q .non g,rt:=Q } (start N vs) H):
  FnOk P w K mg base CX (k+1) f (PySem.W.fnOf name qual params body scope U Z l pm X c Y) ps sp:=by
 refine⟨B,λA a s H a0 us vs Q E L p hb r z=>?_⟩;have hl:=B _ _ _ _ z;have T:K.In s.heap:=p.mod.kin.keeps λb o e=>(p.bs b o e).1;have D:s.heap.NoLimit:=p.mod.nolimit.keeps λb o e=>(p.bs b o e).1;have i:∀y∈ps.zip us,scope.names.lookup y.1=some .local\/(scope.names.lookup y.1=some .cell/\((cellsFrom (s.heap.objs.size+1) scope.names []).lookup y.1).isSome=true):=λ⟨n,v⟩ hy=>by
  rcases S.par n (aaZ hy).1 with q|q
  ·exact .inl q
  ·exact .inr ⟨q,acH _ _ _ (.inl q)⟩
 refine codeAny_call_function L.depth (T _ _ lk) rfl S.co S.gen rfl (PySem.W.codeRec_of T C) (hb _ _ _ _ ?_);refine wpAny_newFunctionEnv_cells S.kind i λa1 he s1 x=>?_;subst he;refine⟨D.keeps x.toInCall.keep,codeAny_func ?_⟩;obtain⟨t,ht,hq⟩:=h A a s H vs Q E (L.deeper _) z;have I:Inv (jZ CX P w K mg base N qual scope f c A a s H E) [] (start N vs) H s1:=rl S L.hd p hl r x;refine adh (ht [] s1 (start N vs) H _ I hq) (λfl F j=>?_) λe F j=>j;have m:∀{d:St}{g:Hp}{v:V}{u:Value},Inv (jZ CX P w K mg base N qual scope f c A a s H E) [] d g F->RelV v u->Q v g->CE a P w H s Q u F:=
  λ{d g v u} J O q=>⟨v,g,J.os,J.bare,J.base,J.hok,O,q⟩
 cases fl with
 |ret u=>obtain⟨v,d,g,J,O,q⟩:=j;exact m J O q
 |next=>obtain⟨d,g,J,q⟩:=j;exact m (v:=V.non) (u:=Value.none) J rfl q
 |brk=>obtain⟨_,_,_,q⟩:=j;exact False.elim q
 |cont=>obtain⟨_,_,_,q⟩:=j;exact False.elim q
end
section
section
variable{X:Cx}{x:Str}{p pos:Pos}{e:Expr}{es:List Expr}{t:TA}{id T:String}{r:List V->Hp->VK->Prop}
def GZ(r:List V->Hp->VK->Prop)(t:TA):TE:=λa H Q=>t a H λc b=>r c b Q
def cJ(q:ck X (.builtin id) r) (w:Gl X x) (k:X.mg x=none) (u:bootBuiltins x=some (.builtin id)) (j:PA X (e::es) t) (i:x≠"__name__":=by decide) (c:(x==("__debug__":Str))=false:=by decide)
  (l:starEach (e::es) X.env=(false,eval e X.env)::starEach es X.env:=by rfl) (b:(backTo pos (starEach es X.env)).any (·.1)=false:=by rfl):PE X (.Call (.Name x p) (e::es) [] pos) (GZ r t):=by
 intro a s d H Q I h;refine adJ (fU I w k u ?_ i c);exact PyProof.Rows.callWith_builtin1 (thn (j pos a s d H _ I h) λf o ⟨v,y,g,m,n⟩=>q a o d y v f Q g m n) l b
def eB(q:ck X (.type T) r) (w:Gl X x) (k:X.mg x=none) (u:bootBuiltins x=some (.type T)) (j:PA X (e::es) t) (i:x≠"__name__":=by decide) (c:(x==("__debug__":Str))=false:=by decide)
  (l:starEach (e::es) X.env=(false,eval e X.env)::starEach es X.env:=by rfl) (b:(backTo pos (starEach es X.env)).any (·.1)=false:=by rfl):PE X (.Call (.Name x p) (e::es) [] pos) (GZ r t):=by
 intro a s d H Q I h;refine adJ (fU I w k u ?_ i c);exact abQ (thn (j pos a s d H _ I h) λf o ⟨v,y,g,m,n⟩=>q a o d y v f Q g m n) l b
end
end
end L2
namespace HT
open PySem PyProof.Rows
section
variable{prog:Program}{w:World}{A:Around}{E:Value->Shared->Prop}{s:Shared}
def cat_tup(x:IsTup s.heap t vs.toArray)(y:IsTup s.heap b ws.toArray)(r:vs≠[])
  (z:ws=[]->Q (.ref t) s) (v:ws≠[]->Q (.ref s.heap.objs.size) { s with heap:=s.heap.push { cls:=.type "tuple",data:=.seq (vs++ws).toArray } })
  (j:vs.length+ws.length<=sizeLine):wpAny (model prog w) A (binaryOp .Add (.ref t) (.ref b)) Q E s:=by
 obtain⟨⟨cls,o,data,l⟩,i,q,n,p⟩:=id x;obtain⟨⟨u,c,k,g⟩,a,d,m,f⟩:=id y;simp only at q p d f;subst q p d f;have e:vs.toArray++ws.toArray=(vs++ws).toArray:=by simp
 by_cases h:ws=[]
 ·exact adK ⟨_,i,rfl⟩ ⟨_,a,rfl⟩ adU seq_tuple_add acJ acK (acL _ _)
   (tuple_addW1 t b vs.toArray ws.toArray n m o c l g (by simpa using r) (by simp[h])) ⟨i,a,z h⟩
 ·refine adK ⟨_,i,rfl⟩ ⟨_,a,rfl⟩ adU seq_tuple_add acJ acK (acL _ _)
   (tuple_addW2 t b vs.toArray ws.toArray n m o c l g (by simpa using r) (by simpa using h) (by rw[aaz,aaz];exact j)) ⟨i,a,?_⟩
  rw[e];exact v h
def sIx(n d:Nat):Option Int->Nat
 |none=>d
 |some v=>if v<0 then (v+(n:Int)).toNat else min v.toNat n
end
end HT
namespace L2
open PySem PySem.Spec PyProof.Rows
section
abbrev TO:=St->Hp->(Option Int->Hp->Prop)->Prop
def PO(X:Cx)(e:Option Expr)(t:TO):Prop:=
 ∀(a:List (Addr×Obj)) (s:Shared) (b:St) (H:Hp) (Q:Option Int->Hp->Prop),Inv X a b H s->t b H Q ->
  wpAny (model X.prog X.w) X.A (evalPart e X.env) (λu d=>∃o c,Inv X a b c d/\IsPart u o/\Q o c) X.xe s
def Gg:TO:=λ_ H Q=>Q none H
def Ik(t:TE):TO:=λa H Q=>t a H λx b=>∃i,x=.int i/\Q (some i) b
section
variable{X:Cx}{e:Expr}{te:TE}{lo hi:Option Expr}{tl th:TO}{pos p2:Pos}
def Jx(X:Cx)(r:V->Option Int->Option Int->Hp->VK->Prop):Prop:=
 ∀(a:List (Addr×Obj)) (s:Shared) (d:St) (H:Hp) (x:V) (v f b:Value) (lo hi:Option Int) (c:Addr) (Q:VK),Inv X a d H s->RelV x v->s.heap.IsSliceOf c f b .none->IsPart f lo->IsPart b hi->r x lo hi H Q ->
  ∃T g,typeLookup (.type T) "__getitem__"=pure (some (.builtin g))/\s.TypeIs v T/\wpAny (model X.prog X.w) X.A (getItem v (.ref c)) (EP X a d Q) X.xe s
def Jy(r:V->Option Int->Option Int->Hp->VK->Prop)(te:TE)(tl th:TO):TE:=λa H Q=>te a H λx c=>tl a c λl b=>th a b λu d=>r x l u d Q
def G0(xs:List V)(lo hi:Option Int):List V:=(xs.drop (HT.sIx xs.length 0 lo)).take (HT.sIx xs.length xs.length hi-HT.sIx xs.length 0 lo)
def D2(K:Waa):R2:=λx y H Q=>∃a b d c,x=.ref a/\y=.ref b/\SqT K H a d/\SqT K H b c/\d≠[]/\d.length+c.length<=sizeLine /\
 (c=[]->Q (.ref a) H)/\(c≠[]->∀p,H p=none->Q (.ref p) (upd H p (.tup (d++c))))
theorem Vals.i3(r:Vals xs us):us=[] ↔ xs=[]:=by
 cases r with
 |nil=>simp
 |cons _ _=>simp
def xn:OpR X (binaryOp .Add) (D2 X.K):=by intro i s C H x y v u Q I n p h;obtain⟨a,b,B,A,rfl,rfl,j,r,t,g,k,m⟩:=h;cases n;cases p;obtain⟨l,d,o,_⟩:=I.tuple j;obtain⟨f,c,p2,_⟩:=I.tuple r;refine HT.cat_tup o p2 (λz=>t (d.i3.mp z)) (λz=>⟨.ref a,H,I,rfl,k (c.i3.mp z)⟩) (λz=>?_) (by rw[<-d.length,<-c.length];exact g);refine⟨.ref s.heap.objs.size,_,I.laid (λb D q=>ade _ q) (aag _) ?_,rfl,m (λw=>z (c.i3.mpr w)) _ (I.hok.fresh (aag _))⟩;exact⟨by rw[aak];exact g,_,d.append c,⟨_,adf _ rfl,rfl,_,rfl,rfl⟩⟩
end
end
section
def ixN(n:Nat)(i:Int):Option Nat:=if 0<=i then (if i<n then some i.toNat else none) else if -(n:Int)<=i then some (i+n).toNat else none
def atI{a:Type}(xs:List a)(i:Int):Option a:=(ixN xs.length i).bind λj=>xs[j]?
def ixN_seq(h:ixN n i=some j):seqIndex? i n=some j/\j<n/\-(n:Int)<=i/\i<n:=by
 unfold ixN at h;by_cases b:0<=i
 ·rw[if_pos b]at h;by_cases a:i<n
  ·rw[if_pos a]at h;have e:i.toNat=j:=aaE h;exact⟨by rw[seqIndex_of b a,e],by omega,by omega,a⟩
  ·rw[if_neg a]at h;cases h
 ·rw[if_neg b]at h;by_cases a:-(n:Int)<=i
  ·rw[if_pos a]at h;have e:(i+n).toNat=j:=aaE h;exact⟨by rw[seqIndex_neg (by omega) a,e],by omega,a,by omega⟩
  ·rw[if_neg a]at h;cases h
def atI_get{a:Type}{xs:List a}{i:Int}{v:a}(h:atI xs i=some v):∃j,seqIndex? i xs.length=some j/\xs[j]?=some v/\j<xs.length/\-(xs.length:Int)<=i/\i<xs.length:=by
 unfold atI at h;cases e:ixN xs.length i with
 |none=>rw[e]at h;cases h
 |some j=>rw[e]at h;obtain⟨d,b,c,f⟩:=ixN_seq e;exact⟨j,d,h,b,c,f⟩
def atI_last{a:Type}(xs:List a)(v:a):atI (xs++[v]) (-1)=some v:=by
 have b:(xs++[v]).length=xs.length+1:=by simp
 have e:ixN (xs++[v]).length (-1)=some xs.length:=by unfold ixN;rw[b,if_neg (by decide),if_pos (by omega)];congr 1;omega
 unfold atI;rw[e];show (xs++[v])[xs.length]?=some v;simp
def PlainIx(b:Expr):Prop:=∀o i,subscripted b false o i=operate [o,i] (getItem o i)
def IxR(X:Cx)(r:R2):Prop:=
 ∀(c a:Expr) (b:List (Addr×Obj)) (s:Shared) (d:St) (H:Hp) (x y:V) (v u:Value) (Q:VK),Inv X b d H s->RelV x v->RelV y u->r x y H Q ->
  subscripted a false v u=operate [v,u] (getItem v u)->wpAny (model X.prog X.w) X.A (subscriptTail c a v u) (EP X b d Q) X.xe s
def Im(X:Cx)(id:String)(r:V->List V->Hp->VK->Prop):Prop:=
 ∀(a:List (Addr×Obj)) (s:Shared) (b:St) (H:Hp) (x:V) (d:List V) (v:Value) (c:List Value) (Q:VK),Inv X a b H s->RelV x v->Vals d c->r x d H Q ->
  wpAny (model X.prog X.w) X.A (call (.builtin id) (v::c)) (EP X a b Q) X.xe s
section
variable{X:Cx}{a b:Expr}{ta tb:TE}{pos:Pos}
def IxR.or(h:IxR X r)(h':IxR X r'):IxR X (λx y H Q=>r x y H Q\/r' x y H Q):=by
 intro d c e s g H x y v u Q I f i q j;rcases q with q|q
 ·exact h d c e s g H x y v u Q I f i q j
 ·exact h' d c e s g H x y v u Q I f i q j
def tw(i:IxR X r)(e:PE X a ta)(m:PE X b tb)(hs:PlainIx b):PE X (.Subscript a b pos) (AK r ta tb):=by intro c s g H Q I h;exact Subscript_ (AL e m I h λv u k x y d f j l q=>i a b c k g d x y v u Q f j l q (hs _ _))
def D3(K:Waa):R2:=λx y H Q=>∃p c i v,x=.ref p/\y=.int i/\SqL K H p c/\atI c i=some v/\Q v H
def D4(K:Waa):R2:=λx y H Q=>∃p c i v,x=.ref p/\y=.int i/\SqT K H p c/\atI c i=some v/\Q v H
def rIxS:R2:=λx y H Q=>∃z i c,x=.str z/\y=.int i/\z.length<=sizeLine/\atI z.cps.toList i=some c/\Q (.str ⟨#[c]⟩) H
def ix_list:IxR X (D3 X.K):=by
 intro k m c s o H x y v u Q I N S h C;obtain⟨p,U,i,z,rfl,rfl,L,F,q⟩:=h;cases N;obtain⟨t,rfl⟩:=S;obtain⟨l,r,g,W⟩:=I.list L;obtain⟨j,e,D,Y,O,P⟩:=atI_get F;obtain⟨w,B,n⟩:=r.get D;have J:=r.length;have T:=line63;have d:EP X c o Q w s:=⟨z,H,I,n,q⟩
 by_cases A:0<=i
 ·have f:i.toNat=j:=by rw[seqIndex_of A P]at e;exact aaE e
  exact item_listR g.isList A (by omega) (by rw[f];simpa using B) d C
 ·have f:(i+(l.toArray.size:Int)).toNat=j:=by rw[seqIndex_neg (by omega) O]at e;rw[aaz,<-J];exact aaE e
  exact subscriptTail_builtinR (x:=w) g.isList.typeIs slot_list_getitem.lookup
   (wpAny_getItem_list_neg (Q:=λr M=>r=w/\EP X c o Q r M) g.isList (by omega) (by rw[aaz]<;>omega) (by omega) (by rw[f];simpa using B) ⟨rfl,d⟩) C
def ix_tup:IxR X (D4 X.K):=by
 intro e f c s l H x y v u Q I D F h M;obtain⟨p,O,i,z,rfl,rfl,B,n,q⟩:=h;cases D;obtain⟨t,rfl⟩:=F;obtain⟨A,r,k,P⟩:=I.tuple B;obtain⟨j,L,m,U,S,T⟩:=atI_get n;obtain⟨w,J,g⟩:=r.get m;have o:=r.length;have N:=line63;have d:EP X c l Q w s:=⟨z,H,I,g,q⟩
 exact subscriptTail_builtinR (x:=w) k.typeIs slot_tuple_getitem.lookup
  (getItem_tuple (j:=j) (Q:=λr C=>r=w/\EP X c l Q r C) k (by omega) (by omega) (by rw[aaz,<-o];exact L) (by simpa using J) ⟨rfl,d⟩) M
def A7:IxR X rIxS:=by
 intro d e f s J H x y v u Q I p A h B;obtain⟨z,i,c,rfl,rfl,D,l,q⟩:=h;obtain⟨t,rfl⟩:=p;obtain⟨F,rfl⟩:=A;obtain⟨j,g,k,L,r,w⟩:=atI_get l;have m:z.cps.toList.length=z.length:=by simp[Str.length]
 rw[m]at g r w;have C:=line63;exact tail_any (typeIs_str s z t) slot_str_getitem.lookup (getItem_str (c:=c) (by
  have o:decide (i < -(2^63:Int))=false:=Dab (by omega);have n:decide (i ≥ 2^63)=false:=Dab (by omega);rw[o,n,acj]) (by rw[g];simpa using k) ⟨.str ⟨#[c]⟩,H,I.tok _,⟨_,rfl⟩,q⟩) B
def Io(K:Waa):R2:=λx y H Q=>D3 K x y H Q\/D4 K x y H Q\/rIxS x y H Q
def m7:IxR X (Io X.K):=ix_list.or (ix_tup.or A7)
def m8(c:List Value)(n j:Nat)(u:Value):Obj.mapSeq (·.setIfInBounds j u) { cls:=.type "list",data:=.seq c.toArray n }={ cls:=.type "list",data:=.seq (c.set j u).toArray n }:=by simp[Obj.mapSeq]
def Inv.lst{d:List (Addr×Obj)}{σ:St}(I:Inv X d σ H s)(h:H p=some (.lst xs)):
  ∃(c:List Value) (n:Nat),Vals xs c/\s.heap.get? p=some { cls:=.type "list",data:=.seq c.toArray n }/\xs.length<=sizeLine:=by
 obtain⟨z,c,n,r,e⟩:=I.hok p _ h;exact⟨c,n,r,e,z⟩
def Inv.lstUpd{xs ys:List V}{d c:List Value}{n g:Nat}{f:Obj->Obj}(I:Inv X pins σ H s)(h:H p=some (.lst xs))
  (k:s.heap.get? p=some { cls:=.type "list",data:=.seq d.toArray n }) (i:f { cls:=.type "list",data:=.seq d.toArray n }={ cls:=.type "list",data:=.seq c.toArray g }) (r:Vals ys c) (j:ys.length<=sizeLine) (t:Nat):
  Inv X pins σ (upd H p (.lst ys)) { s with heap:=s.heap.update p f,toks:=t }:=by
 have e:(s.heap.update p f).get? p=some { cls:=.type "list",data:=.seq c.toArray g }:=by rw[adm f k (by rw[i]<;>rfl),i]
 refine I.write (by rw[h];trivial) (.inl rfl) (λb u l q=>(adL _ _ (aaF l)).trans q) ⟨_,e⟩ ?_;exact⟨j,c,g,r,e⟩
def rSetL:V->V->V->Hp->(Hp->Prop)->Prop:=λo i v H Q=>∃p c k j,o=.ref p/\i=.int k/\H p=some (.lst c)/\ixN c.length k=some j/\Q (upd H p (.lst (c.set j v)))
def set_list:PSet X rSetL:=by
 intro d s D H o i v O P u Q I L F J h;obtain⟨p,B,k,j,rfl,rfl,m,A,q⟩:=h;cases L;obtain⟨t,rfl⟩:=F;obtain⟨c,n,r,g,C⟩:=I.lst m;obtain⟨e,M,z,x⟩:=ixN_seq A;have f:=r.length;have N:=line63;have y:Inv X d D (upd H p (.lst (B.set j v))) { s with heap:=s.heap.update p (Obj.mapSeq (·.setIfInBounds j u)) }:=
  I.lstUpd m g (m8 c n j u) (r.set J j) (by rw[ack];exact C) s.toks
 by_cases w:0<=k
 ·have l:k.toNat=j:=by rw[seqIndex_of w x]at e;exact aaE e
  exact PySem.W.ki_setAt g w (by omega) (by rw[aaz,<-f];exact x) (by rw[l];exact⟨_,y,q⟩)
 ·have l:(k+(c.toArray.size:Int)).toNat=j:=by rw[seqIndex_neg (by omega) z]at e;rw[aaz,<-f];exact aaE e
  exact PySem.W.ki_setBack g (by omega) (by rw[aaz,<-f];exact z) (by omega) (by rw[l];exact⟨_,y,q⟩)
def Jf(K:Waa):V->Option Int->Option Int->Hp->VK->Prop:=λx d e H Q=>∃a c,x=.ref a/\SqL K H a c/\∀p,H p=none->Q (.ref p) (upd H p (.lst (G0 c d e)))
def cC:V->Bool
 |.non=>true
 |.bl _=>true
 |.int _=>true
 |.str _=>true
 |_=>false
def eqV:V->V->Bool
 |.non,.non=>true
 |.bl a,.bl b=>a==b
 |.bl a,.int b=>(if a then 1 else 0)==b
 |.int a,.bl b=>a==(if b then 1 else 0)
 |.int a,.int b=>a==b
 |.str a,.str b=>a==b
 |_,_=>false
theorem A8(e:RelV y u)(c:RelV x v)(g:cC y=true)(f:cC x=true):SeqAt.EqAt A s u v (eqV y x):=by
 cases y with
 |non=>
  cases e;cases x with
  |non=>cases c;exact SeqAt.EqAt.same _
  |bl b=>cases c;exact SeqAt.EqAt.none_bool b
  |int b=>obtain⟨t,rfl⟩:=c;exact SeqAt.EqAt.none_int b t
  |str b=>obtain⟨t,rfl⟩:=c;exact SeqAt.EqAt.none_str b t
  |_=>exact absurd (show false=true from f) aal
 |bl a=>
  cases e;cases x with
  |non=>cases c;exact SeqAt.EqAt.bool_none a
  |bl b=>cases c;exact SeqAt.EqAt.bool_bool a b
  |int b=>obtain⟨t,rfl⟩:=c;exact SeqAt.EqAt.bool_int a b t
  |str b=>obtain⟨t,rfl⟩:=c;exact SeqAt.EqAt.bool_str a b t
  |_=>exact absurd (show false=true from f) aal
 |int a=>
  obtain⟨d,rfl⟩:=e;cases x with
  |non=>cases c;exact SeqAt.EqAt.int_none a d
  |bl b=>cases c;exact SeqAt.EqAt.int_bool a d b
  |int b=>obtain⟨t,rfl⟩:=c;exact SeqAt.EqAt.int_int a d b t
  |str b=>obtain⟨t,rfl⟩:=c;exact SeqAt.EqAt.int_str a d b t
  |_=>exact absurd (show false=true from f) aal
 |str a=>
  obtain⟨d,rfl⟩:=e;cases x with
  |non=>cases c;exact SeqAt.EqAt.str_none a d
  |bl b=>cases c;exact SeqAt.EqAt.str_bool a d b
  |int b=>obtain⟨t,rfl⟩:=c;exact SeqAt.EqAt.str_int a d b t
  |str b=>obtain⟨t,rfl⟩:=c;exact SeqAt.EqAt.str_str a d b t
  |_=>exact absurd (show false=true from f) aal
 |_=>exact absurd (show false=true from g) aal
def m9(x:V)(u:Value):Bool:=match u with
 |.none=>eqV .non x
 |.bool b=>eqV (.bl b) x
 |.int i _=>eqV (.int i) x
 |.str z _=>eqV (.str z) x
 |_=>false
def tx(r:RelV y u)(f:cC y=true):m9 x u=eqV y x:=by
 cases y with
 |non=>cases r;rfl
 |bl b=>cases r;rfl
 |int i=>obtain⟨t,rfl⟩:=r;rfl
 |str z=>obtain⟨t,rfl⟩:=r;rfl
 |_=>exact absurd (show false=true from f) aal
theorem ft:∀{xs:List V}{us:List Value},Vals xs us->xs.all cC=true->us.any (m9 x)=xs.any λy=>eqV y x
 |_,_,.nil,_=>rfl
 |y::xs,u::us,.cons r t,f=>by rw[List.all_cons,aaI]at f;rw[aa0,aa0,tx r f.1,ft t f.2]
theorem dF(e:RelV x v)(d:cC x=true):∀{xs:List V}{us:List Value},Vals xs us->xs.all cC=true->∀u∈us,SeqAt.EqAt A s u v (m9 x u)
 |_,_,.nil,_=>λu c=>by cases c
 |y::xs,u::us,.cons r t,f=>λg c=>by
  rw[List.all_cons,aaI]at f;rcases aac.mp c with rfl|c
  ·rw[tx r f.1];exact A8 r e f.1 d
  ·exact dF e d t f.2 g c
def inV(x:V)(xs:List V):Bool:=xs.any λy=>eqV y x
def G1(K:Waa)(d:Bool):R2:=λx y H Q=>∃p c,y=.ref p/\(SqL K H p c\/SqT K H p c)/\cC x=true/\c.all cC=true/\Q (.bl (if d then !inV x c else inV x c)) H
def rm:OpR X (compareOp .In) (G1 X.K false):=by
 intro k s o H x y v u Q I i m h;obtain⟨p,n,rfl,d,j,e,q⟩:=h;cases m;rcases d with d|d
 ·obtain⟨c,r,f,l⟩:=I.list d;refine SeqAt.in_listAt (m9 x) f.isList (λw g=>dF i j r e w (by simpa using g)) ⟨.bl _,H,I,rfl,?_⟩;rw[show c.toArray.any (m9 x)=c.any (m9 x) by simp,ft r e];exact q
 ·obtain⟨c,r,f,l⟩:=I.tuple d;refine SeqAt.in_tupleAt (m9 x) f (λw g=>dF i j r e w (by simpa using g)) ⟨.bl _,H,I,rfl,?_⟩;rw[show c.toArray.any (m9 x)=c.any (m9 x) by simp,ft r e];exact q
def j2:OpR X (compareOp .NotIn) (G1 X.K true):=by
 intro k s o H x y v u Q I i m h;obtain⟨p,n,rfl,d,j,e,q⟩:=h;cases m;rcases d with d|d
 ·obtain⟨c,r,f,l⟩:=I.list d;refine SeqAt.notIn_listAt (m9 x) f.isList (λw g=>dF i j r e w (by simpa using g)) ⟨.bl _,H,I,rfl,?_⟩;rw[show c.toArray.any (m9 x)=c.any (m9 x) by simp,ft r e];exact q
 ·obtain⟨c,r,f,l⟩:=I.tuple d;refine SeqAt.notIn_tupleAt (m9 x) f (λw g=>dF i j r e w (by simpa using g)) ⟨.bl _,H,I,rfl,?_⟩;rw[show c.toArray.any (m9 x)=c.any (m9 x) by simp,ft r e];exact q
def ji:ck X (.type "tuple") (λxs H Q=>∃p ys,xs=[.ref p]/\((SqL X.K H p ys/\∀l,H l=none->Q (.ref l) (upd H l (.tup ys)))\/(SqT X.K H p ys/\Q (.ref p) H))):=by
 intro c s n H xs z Q I r h;obtain⟨p,ys,rfl,h⟩:=h;obtain⟨u,rfl,y⟩:=vals1 r;cases y;rcases h with ⟨j,q⟩|⟨j,q⟩
 ·obtain⟨d,g,i,m⟩:=I.list j;have t:=g.length;refine call_tuple_list i.isList (λf x=>?_) (by simp only[aaz]<;>omega);have k:Inv X c n H { s with heap:=f }:=I.kept x;have v:Inv X c n (upd H f.objs.size (.tup ys)) { s with heap:=f.push { cls:=.type "tuple",data:=.seq d.toArray } }:=
   k.laid (λb o e=>ade _ e) (aag _) (show ObjOk X.prog X.w _ _ _ (.tup ys) from ⟨m,d,g,⟨_,adf _ rfl,rfl,_,rfl,rfl⟩⟩)
  exact⟨.ref f.objs.size,_,v,rfl,q _ (k.hok.fresh (aag _))⟩
 ·obtain⟨d,g,i,m⟩:=I.tuple j;exact call_tuple_same i ⟨.ref p,H,I,rfl,q⟩
def Ip(K:Waa)(T:String)(x:V)(H:Hp):Prop:=match x with
 |.str _=>T="str"
 |.int _=>T="int"
 |.ref p=>(T="list"/\∃d,SqL K H p d)\/(T="tuple"/\∃d,SqT K H p d) \/
   (T="dict"/\((∃c,H p=some (.dK c))\/∃c,H p=some (.dT c)))\/(T="set"/\∃S n,H p=some (.set S n))
 |_=>False
def A9{g:List (Addr×Obj)}{σ:St}(I:Inv X g σ H s)(r:RelV x v)(h:Ip X.K T x H):
  s.TypeIs v T/\∀a,v=.ref a->∃m,s.heap.get? a=some m/\m.dict=none:=by
 cases x with
 |str z=>obtain⟨t,rfl⟩:=r;cases (show T="str" from h);exact⟨typeIs_str s z t,λ_ e=>nomatch e⟩
 |int i=>obtain⟨t,rfl⟩:=r;cases (show T="int" from h);exact⟨typeIs_int s i t,λ_ e=>nomatch e⟩
 |ref p=>
  cases r;rcases h with ⟨rfl,w,A⟩|⟨rfl,w,f⟩|⟨rfl,f⟩|⟨rfl,S,n,f⟩
  ·obtain⟨y,_,l,_⟩:=I.list A;refine⟨l.isList.typeIs,λa e=>?_⟩;cases e;obtain⟨o,n,e,c,B,_⟩:=l;exact⟨o,e,B⟩
  ·obtain⟨o,q,u,C⟩:=I.tupN f;refine⟨⟨o,q,u⟩,λa e=>?_⟩;cases e;exact⟨o,q,C⟩
  ·have z:∃o,s.heap.get? p=some o/\o.ExactDict:=by
    rcases f with ⟨j,f⟩|⟨j,f⟩
    ·obtain⟨_,_,_,_,o,_,_,e,d,_⟩:=I.hok p _ f;exact⟨o,e,d⟩
    ·obtain⟨_,_,_,_,o,_,_,e,d,_⟩:=I.hok p _ f;exact⟨o,e,d⟩
   obtain⟨o,e,d⟩:=z;refine⟨⟨o,e,d.1⟩,λa k=>?_⟩;cases k;exact⟨o,e,d.2.1⟩
  ·obtain⟨o,_,_,_,e,d,_⟩:=I.hok p _ f;refine⟨⟨o,e,d.1⟩,λa k=>?_⟩;cases k;exact⟨o,e,d.2.1⟩
 |_=>exact False.elim h
def Jg(K:Waa)(T:String)(r:V->List V->Hp->VK->Prop)(f:TE)(t:TA):TE:=λc H Q=>f c H λx d=>Ip K T x d/\t c d λg e=>r x g e Q
variable{o e:Expr}{es:List Expr}{to:TE}{t:TA}{name:Str}{apos cpos:Pos}{T id:String}{r:V->List V->Hp->VK->Prop}
def lD(C:PlainAttrs T) (i:Slot T name id) (k:typeOf (.builtin id)=pure (.type "method_descriptor")) (z:Im X id r) (F:PE X o to) (y:PA X (e::es) t)
  (g:attributeBase o name X.env (eval o X.env)=eval o X.env:=by rfl)
  (j:((backTo cpos (starEach (e::es) X.env)).all (λx=>!x.1)&&(backToKw cpos (keywordEach [] X.env)).all (λx=>x.1.isSome)
   && decide ((e::es).length+([]:List Keyword).length+(if ([]:List Keyword).isEmpty then 0 else 1)<30))=true:=by rfl)
  (f:(apos.endLine==cpos.line)=true:=by rfl) (W:starEach (e::es) X.env=(false,eval e X.env)::starEach es X.env:=by rfl) (d:(backTo cpos (starEach es X.env)).any (·.1)=false:=by rfl):
  PE X (.Call (.Attribute o name apos) (e::es) [] cpos) (Jg X.K T r to t):=by
 intro c s l H Q I h;refine wpAny_Call_method_late g j f rfl (thn (F c s l H _ I h) λv J O=>?_);obtain⟨x,P,m,p,M,B⟩:=O;obtain⟨U,w⟩:=A9 m p M;refine⟨T,id,C,i,k,U,w,?_⟩;have n:=y cpos c J l P _ m B;rw[W]at n ⊢;refine Calls.callWith_builtin (by show (false||(backTo cpos (starEach es X.env)).any (·.1))=false;rw[d]<;>rfl) (Calls.evalArgs_plain ?_);exact thn n λu N ⟨L,q,A,S,D⟩=>z c N l q x L v u Q A p S D
end
end
section
def Iq(X:Cx)(id:String)(r:V->List V->Hp->VK->Prop):Prop:=
 ∀(a:List (Addr×Obj)) (s:Shared) (b:St) (H:Hp) (x:V) (d:List V) (v:Value) (c:List Value) (Q:VK),Inv X a b H s->RelV x v->Vals d c->r x d H Q ->
  wpAny (model X.prog X.w) X.A (call (.builtin id) (v::c)) (EP X a b Q) X.xe s
def Vals.one(h:Vals [x] us):∃u,us=[u]/\RelV x u:=by
 cases h with|cons r t=>cases t;exact⟨_,rfl,r⟩
def Vals.two(h:Vals [x,y] us):∃u v,us=[u,v]/\RelV x u/\RelV y v:=by
 cases h with|cons r t=>cases t with|cons q t=>cases t;exact⟨_,_,rfl,r,q⟩
section
variable{X:Cx}{pins:List (Addr×Obj)}{σ:St}{H:Hp}{s:Shared}{l b:Addr}{xs ys zs:List V}
def Inv.lset{c a:List Value}{n:Nat}{f:Array Value->Array Value}{t':Nat}(I:Inv X pins σ H s)(j:H l=some (.lst xs))
  (e:s.heap.get? l=some { cls:=.type "list",data:=.seq c.toArray n }) (h:f c.toArray=a.toArray) (k:Vals ys a) (d:ys.length<=sizeLine):
  Inv X pins σ (upd H l (.lst ys)) { s with heap:=s.heap.update l (Obj.mapSeq f),toks:=t' }:=by
 have q:=PySem.IsL.update e f;rw[h]at q;refine I.write (by rw[j];exact trivial) (.inl rfl) (λm u i g=>(adL s.heap (Obj.mapSeq f) (aaF i)).trans g) ⟨_,q⟩ ?_;exact⟨d,a,_,k,q⟩
def Inv.lnew{t':Nat}(I:Inv X pins σ H s)(c:Vals ys its)(a:ys.length<=sizeLine):
  Inv X pins σ (upd H s.heap.objs.size (.lst ys)) { s with heap:=s.heap.push { cls:=.type "list",data:=.seq its.toArray },toks:=t' }:=
 I.laid (λ_ _ q=>ade _ q) (aag _) ⟨a,its,0,c,adf _ rfl⟩
def Inv.fresh(I:Inv X pins σ H s):H s.heap.objs.size=none:=I.hok.fresh (aag _)
def Inv.lstM(I:Inv X pins σ H s)(c:H l=some (.lst xs)):xs.length<=sizeLine/\∃(a:List Value) (n:Nat),Vals xs a/\xs.length=a.length/\s.heap.get? l=some { cls:=.type "list",data:=.seq a.toArray n }:=by obtain⟨z,a,n,r,e⟩:=I.hok l _ c;exact⟨z,a,n,r,r.length,e⟩
def tz(h:n<=sizeLine):Builtin.List.listTooLong n=false:=by unfold Builtin.List.listTooLong;exact Dab (by omega)
end
section
variable{X:Cx}
def rAppend:V->List V->Hp->VK->Prop:=λx b H Q=>∃l a y,x=.ref l/\b=[y]/\H l=some (.lst a)/\a.length<sizeLine/\Q .non (upd H l (.lst (a++[y])))
def eD:Iq X "list.append" rAppend:=by intro b s o H x p v i Q I g f h;obtain⟨l,j,y,rfl,rfl,c,m,q⟩:=h;cases g;obtain⟨u,rfl,d⟩:=f.one;obtain⟨z,a,n,r,k,e⟩:=I.lstM c;refine call_meets F.slot_list_append ⟨_,e,rfl⟩ F.entry_list_append (F.args_list_append_2 _ _) (PySem.list_append l a.toArray n u (by rw[aaz];omega)) ⟨e,?_⟩;refine⟨.non,_,I.lset c e (by simp) (r.append (.cons d .nil)) ?_,rfl,q⟩;rw[aak,aaB];omega
def rExtend:V->List V->Hp->VK->Prop:=λx d H Q=>∃l b a c,x=.ref l/\d=[.ref b]/\H l=some (.lst a)/\H b=some (.lst c)/\a.length+c.length<=sizeLine/\Q .non (upd H l (.lst (a++c)))
def rn:Iq X "list.extend" rExtend:=by
 intro g s L H x M v A Q I w p h;obtain⟨l,b,C,N,rfl,rfl,i,o,J,q⟩:=h;cases w;obtain⟨u,rfl,j⟩:=p.one;cases j;obtain⟨z,c,n,r,D,e⟩:=I.lstM i;obtain⟨B,a,k,y,m,t⟩:=I.lstM o;have f:c.toArray.size+a.toArray.size<=sizeLine:=by rw[aaz,aaz];omega
 have d:¬ (!c.toArray.isEmpty&&Builtin.List.listTooLong (c.toArray.size+a.toArray.size))=true:=by rw[tz f,Bool.and_false];exact aal
 refine call_meets F.slot_list_extend ⟨_,e,rfl⟩ F.entry_list_extend (F.args_list_extend_2 _ _)
  (AutoSeq1.list_extend_list_list_0 l c.toArray n b a.toArray k d (by rw[aaz];omega) (by omega)) ⟨e,t,?_⟩
 refine⟨.non,_,I.lset i e (by simp) (r.append y) ?_,rfl,q⟩;rw[aak];omega
end
section
variable{prog:Program}{w:World}{A:Around}{E:Value->Shared->Prop}{s:Shared}
set_option maxRecDepth 100000 in
end
end
end L2
namespace Att
open PySem PySem.W PySem.Calls PyProof.Rows
def gP:∀(ns:List Int) (vs:List Value),WellAll P h vs (ns.map WData.int)->IntsAre vs ns:=by
 intro ns;induction ns with
 |nil=>intro vs w;rw[aaC]at w;cases w;exact .nil
 |cons n ns c=>
  intro vs w;rw[aam]at w;cases w with
  |cons a b=>cases a;exact .cons _ _ (c _ b)
def rp{l:OpenLaw}(o:l.most=some n)
  (b:l.row.toRowW.claim.pre args=true) (i:WellAll P h vals args):
  ∃a vs ns,vals=[Value.ref a]/\args=[WData.list (ns.map WData.int)]/\h.get? a=some { cls:=.type "list",data:=.seq vs.toArray }/\IntsAre vs ns/\ns.length<=n:=by
 have j:WShape.hasAll [] args [.list .int]=true:=(pre_splitW b).1;have k:l.pre.holds [] { args:=args }=true:=(pre_splitW b).2;obtain⟨d,r,rfl,w,m⟩:=hasAllW_cons j;obtain rfl:=hasAllW_nil m;obtain⟨x,rfl,v⟩:=hasW_list w;obtain⟨ns,rfl⟩:=items_int v;have e:ns.length<=n:=by
  unfold OpenLaw.pre at k;have f:(WTm.not (.lt (.lit (.int (n:Int))) (.len (.arg 0)))).holds [] { args:=[.list (ns.map .int)] }=true:=by have f:=(holds_andW k).1;rw[o]at f;exact f
  have g:=condW_of f (w_not (w_lt w_lit (w_len_list (w_arg rfl))));rw[aaa]at g;refine abT λq=>?_;have u:(n:Int)<((ns.length:Nat):Int):=by omega
  first
   | (rw[Dac u]at g;exact absurd g (by decide))
   | (simp at g;omega)
 cases i with
 |cons t p=>
  cases p;cases t with
  |list s c=>exact⟨_,_,ns,rfl,rfl,s,gP ns _ c,e⟩
def rq(l:OpenLaw)(args:List WData):l.row.toRowW.claim.post args (.bool true) args=true:=
 postW_of
  (show WShape.has [] (.bool true) .bool=true by first|rfl|decide|simp[WShape.has,WShape.arms,WShape.armsAll])
  (show (WTm.eq .res (.lit (.bool true))).value [] { args:=args,res:=some (.bool true),after:=args }=some (.bool (true==true)) from w_eq_bool (w_res rfl) w_lit) rfl
def attach_call{l:OpenLaw}
  (I:l.most=some n) (v:d.params.defaults=[])
  (call:∀(w:World) (c b:Shared) (s x:Str->Option Value) (h:Addr) (o:Obj) (z m e:Value) (a:Addr) (vs:List Value) (ns:List Int),
   Ground q loose [] XP w c s x b.heap->YP w b.heap ->
   b.heap.get? h=some o->o.data=.func (docDef d.name d.params d.body d.scope z m e)->b.heap.CodeRec m d.name->s d.name=some (.ref h) ->
   b.heap.get? a=some { cls:=.type "list",data:=.seq vs.toArray }->IntsAre vs ns->ns.length<=n->b.gens=#[] ->
   codeAny (model l.prog w) callerA (.call (.ref h) ⟨[.ref a],[]⟩) (λr p=>r=.ok (.ret (.bool true))/\OldK b.heap p.heap/\p.os=b.os/\AllBare p.gens) b):
  WalkO q loose XP YP l.row.toRowW d [] (λf vs=>PySem.call f vs):=by
 intro w c b s x G Y h o z m e H N O P t B y T C A W i D L u Q;obtain rfl:H=.none:=Dflts.none B v;obtain rfl:N=.none:=Dflts.noKw B;obtain⟨a,vs,ns,rfl,rfl,j,g,k⟩:=rp I i u;refine enter_call (adt (call w c b s x h o z m e a vs ns G Y O (fd_plain P) t y j g k T) λr p M=>?_);obtain⟨rfl,F,U,S⟩:=M;exact⟨.inl ⟨.bool true,.bool true,[],rfl,λ_=>rfl,.bool true,rq l _,λ_=>⟨List.Pairwise.nil,λ_ J=>(nomatch J)⟩⟩,F,U,S⟩
end Att
namespace L2
open PySem PySem.Spec PyProof.Rows
section
theorem vals_ints:∀{vs:List Value}{ns:List Int},IntsAre vs ns->Vals (ns.map V.int) vs
 |_,_,.nil=>.nil
 |_,_,.cons n t h=>.cons ⟨t,rfl⟩ (vals_ints h)
def Ba(H:Hp):Prop:=∀b,H b=none\/∃o a,H b=some (.frz o (.lst a))
theorem tD{P:Program}{w:World}{K:Waa}{CX:CXT}{k:Nat}{X a:Addr}{fd:FuncData}{sp:Sp}{vs:List Value}{ns:List Int}
  (KX:K.In s₁.heap) (B:s₁.heap.Ns mainGlobals mg) (f:s₁.heap.Ns builtinsNs mb) (W:∀x:Str,x≠"__name__"->mb x=bootBuiltins x) (t:s₁.heap.NoLimit) (hg:s₁.gens=#[])
  (N:s₁.heap.get? a=some { cls:=.type "list",data:=.seq vs.toArray }) (hi:IntsAre vs ns) (hl:ns.length<=sizeLine) (hr:Room k callerA)
  (F:∀i:Heap,K.In i->i.Ns mainGlobals mg->FnOk P w K mg i CX k X fd [x] sp) (p:∀(s:Shared) (u:Value),BindsTo s fd ⟨[u],[]⟩ [(x,u)])
  (Q:∀H:Hp,Ba H->SqL K H a (ns.map V.int)->sp [.ref a] H (λv _=>v=.bl true) λ_ _ _=>False)
  (S:∀H e g,CX [] H s₁ (λ_ _ _=>False) e g->False):
  codeAny (model P w) callerA (.call (.ref X) ⟨[.ref a],[]⟩) (λr g=>r=.ok (.ret (.bool true))/\OldK s₁.heap g.heap/\g.os=s₁.os/\AllBare g.gens) s₁:=by
 have rv:=vals_ints hi;have L:=hi.length;have l:∀H:Hp,Ba H->SqL K H a (ns.map V.int)->HOk P w H s₁.heap->(∀b,H b≠none->b=a)->(H a≠none->K.lookup a=none) ->
   codeAny (model P w) callerA (.call (.ref X) ⟨[.ref a],[]⟩) (λr g=>r=.ok (.ret (.bool true))/\OldK s₁.heap g.heap/\g.os=s₁.os/\AllBare g.gens) s₁:=by
  intro H Z hS D hA hK;have c:∀{b:Addr}{o:Obj},s₁.heap.get? b=some o->H b=none->(jV s₁.heap H).get? b=some o:=λe n=>hidT_get e n;have T:∀{b:Addr}{o:Obj}{J:Array DictEntry}{C:Nat},s₁.heap.get? b=some o->o.data=.dict J C->H b=none:=λ{b o J C} e d=>by
   cases q:H b with
   |none=>rfl
   |some u=>have O:b=a:=hA b (by rw[q];simp);subst O;rw[N]at e;cases e;have d':Data.seq vs.toArray _=Data.dict J C:=d;cases d'
  have j:∀{b:Addr}{m:Str->Option Value},s₁.heap.Ns b m->(jV s₁.heap H).Ns b m:=λ{b m} ⟨o,J,C,e,d,r⟩=>⟨o,J,C,c e (T e d),d,r⟩
  have I:K.In (jV s₁.heap H):=λb o e=>c (KX b o e) (by
   cases q:H b with
   |none=>rfl
   |some u=>
    have O:b=a:=hA b (by rw[q];simp);subst O;rw[hK (by rw[q];simp)]at e;cases e)
  have hM:Mod K mg (jV s₁.heap H):=⟨I,j B,⟨mb,j f,W⟩,let ⟨mc,h1,h2⟩:=t;⟨mc,j h1,h2⟩⟩
  have e0:Env0 P w K mg (jV s₁.heap H) callerA [] s₁ H:=⟨rfl,hM,λb o e=>wV e,abq (qX _ _),trivial,λb f=>absurd (show b∈([]:List Addr) from f) (by simp),D,.of_eq hg⟩
  refine adt ((F _ I (j B)).run callerA [] s₁ H ⟨[.ref a],[]⟩ [.ref a] [.ref a] _ _ hr e0 (p s₁ (.ref a)) (.cons rfl .nil) (Q H Z hS)) λr g h=>?_;cases r with
  |error e=>exact(S H e g h).elim
  |ok fl=>
   cases fl with
   |next=>exact False.elim h
   |brk=>exact False.elim h
   |cont=>exact False.elim h
   |ret u=>
    obtain⟨v,H',os,A,un,y,r',q⟩:=h;have q':v=.bl true:=q;subst q';obtain rfl:u=Value.bool true:=r';refine⟨rfl,OldK.of_keep λb o e=>?_,os,A⟩;cases q:H b with
    |none=>exact un.keep b o e q (by intro z;exact absurd (show b∈([]:List Addr) from z) (by simp)) (by simp)
    |some u=>
     rcases Z b with z|⟨ob,xs,z⟩
     ·rw[q]at z;cases z
     ·have z2:=un.frzs b ob _ z;obtain⟨Y,_⟩:=D b _ z;obtain⟨e2,_⟩:=y b _ z2;rw[e]at Y;cases Y;exact e2
 cases U:K.lookup a with
 |some o=>have e:=KX a o U;rw[N]at e;cases e;refine l (λ_=>none) (λ_=>.inl rfl) (.inr ⟨_,vs.toArray,_,U,rfl,rfl,rfl,by rw[aaz,L];exact hl,by simpa using rv⟩) (λb u z=>by have M:(none:Option HO)=some u:=z;cases M) (λb z=>absurd rfl z) λz=>absurd rfl z
 |none=>
  refine l (λb=>if b=a then some (.frz { cls:=.type "list",data:=.seq vs.toArray } (.lst (ns.map V.int))) else none) (λb=>?_) (.inl (.inr ⟨{ cls:=.type "list",data:=.seq vs.toArray },if_pos rfl⟩)) (λb u z=>?_) (λb z=>?_) λ_=>U
  ·by_cases f:b=a
   ·exact .inr ⟨_,_,if_pos f⟩
   ·exact .inl (if_neg f)
  ·by_cases f:b=a
   ·have M:=(if_pos f).symm.trans z;cases M;subst f;exact⟨N,by rw[aaa];exact hl,vs,_,rv,N⟩
   ·have M:=(if_neg f).symm.trans z;cases M
  ·by_cases f:b=a
   ·exact f
   ·exact absurd (if_neg f) z
end
section
def walk_of{l:PySem.W.OpenLaw}{K:Params->Waa}{CX:World->CXT}{sp:World->Sp}{x:Str}
  (N:l.most=some n) (C:n<=sizeLine) (z:d.params.defaults=[]) (P:Room k callerA)
  (X:∀(w:World) (h:Heap),YP w h->(K w.params).In h)
  (F:∀(w:World) (m:Str->Option Value) (t:Addr) (h:Heap),(K w.params).In h->h.Ns mainGlobals m->m d.name=some (.ref t) ->
   ∃y:FuncData,(∀(s:Shared) (u:Value),BindsTo s y ⟨[u],[]⟩ [(x,u)]) /\
    ∀c:Heap,(K w.params).In c->c.Ns mainGlobals m->FnOk l.prog w (K w.params) m c (CX w) k t y [x] (sp w))
  (B:∀(w:World) (H:Hp) (a:Addr) (ns:List Int),ns.length<=n->Ba H->SqL (K w.params) H a (ns.map V.int)->sp w [.ref a] H (λv _=>v=.bl true) λ_ _ _=>False)
  (I:∀(w:World) (H:Hp) (s:Shared) (e:Value) (A:Shared),CX w [] H s (λ_ _ _=>False) e A->False):
  PySem.W.WalkO q loose XP YP l.row.toRowW d [] (λf vs=>PySem.call f vs):=by
 refine Att.attach_call N z λw L p m mb t o pm cd M a vs ns G Y ho hd O D r j i S=>?_;have J:=X w _ Y;obtain⟨y,hb,Z⟩:=F w m t _ J G.T.g D;exact tD J G.T.g G.T.b G.T.builtins G.T.nolimit S r j (aav i C) P Z hb (λH Q U=>B w H a ns i Q U) λH e A=>I w H p e A
end
section
def eE(s:Stmt):Arguments:=match s with
 |.FunctionDef _ a _ _ _ _ _ _ _ _=>a
 |_=>{ posonlyargs:=[],args:=[],vararg:=none,kwonlyargs:=[],kw_defaults:=[],kwarg:=none,defaults:=[] }
def b9(s:Stmt):List Stmt:=match s with
 |.FunctionDef _ _ b _ _ _ _ _ _ _=>b
 |_=>[]
def aK(s:Stmt):Scope:=match s with
 |.FunctionDef _ _ _ _ _ _ sc _ _ _=>sc
 |_=>{ kind:=.function,names:=[],isGenerator:=false,isCoroutine:=false }
abbrev CX0:CXT:=λ_ _ _ _ _ _=>False
abbrev E0:XK:=λ_ _ _=>False
def oQ:Passes CX0 X E0:=λ_ _ _ _ _ _ _ h=>h.elim
structure Fun (K:Waa)(x qual:Str)(st:Stmt)(f:Addr)(fd:FuncData):Prop where
 ex:∃(oc:Value) (od:Option Addr) (kV doc pm:Value) (an:Option Addr) (cdv ct:Value) (osl:Array (Option Value)),
  fd=PySem.W.fnOf x qual (eE st) (b9 st) (aK st) .none kV doc pm an cdv ct/\K.lookup f=some ⟨oc,od,.func fd,osl⟩/\PySem.W.codeIn K cdv qual=true
 kp:PySem.W.keepIn K (.ref f)=true
section
variable{P:Program}{w:World}{K:Waa}{mg:Str->Option Value}{base:Heap}
def Fun.ok{x b:Str}{e:Stmt}(F:Fun K x b e f fd)(S:FnScope N ps (aK e))(j:∀vs H Q E,sp vs H Q E->vs.length=ps.length)
  (d:∀(c:Value) (A:Around) (a:List Env) (s:Shared) (H:Hp) (vs:List V) (Q:VK) (E:XK),Room k (A.deeper (envOfC b (aK e) s.heap.objs.size f c))->sp vs H Q E ->
   ∃t,PSs (jZ CX0 P w K mg base N b (aK e) f c A a s H E).nox (b9 e) t/\t { nx:=λ_ p=>Q .non p,rt:=Q } (start N vs) H):FnOk P w K mg base CX0 (k+1) f fd ps sp:=by
 obtain⟨y,u,z,l,B,r,c,v,o,rfl,m,g⟩:=F.ex;refine D1 m g S j λA a s H vs Q E n i=>?_;obtain⟨t,h,q⟩:=d c A a s H vs Q E n i;exact⟨t,h.nox,q⟩
def j3{d:Stmt}{e b h a g:Value}(l:K.lookup f=some ⟨oc,od,.func (PySem.W.fnOf x qual (eE d) (b9 d) (aK d) .none e b h an a g),osl⟩)
  (c:PySem.W.codeIn K a qual=true) (k:PySem.W.keepIn K (.ref f)=true):Fun K x qual d f (PySem.W.fnOf x qual (eE d) (b9 d) (aK d) .none e b h an a g):=⟨⟨oc,od,e,b,h,an,a,g,osl,rfl,l,c⟩,k⟩
end
def Same(H a:Hp):Prop:=∀b o,H b=some o->a b=some o
def Same.seq{K:Waa}(e:Same H H')(h:SqL K H a xs):SqL K H' a xs:=by
 rcases h with (h|⟨o,h⟩)|h
 ·exact .inl (.inl (e _ _ h))
 ·exact .inl (.inr ⟨o,e _ _ h⟩)
 ·exact .inr h
end
section
theorem nh:∀(f:List (Str×NameKind)) (acc:List (Str×Addr)),(∀x∈f,x.2=.free->∃c,env.cells.lookup x.1=some c) ->
  (∀x c,acc.lookup x=some c->env.cells.lookup x=some c) ->
  ∃i:List (Str×Addr),forIn f acc (λ(x:Str×NameKind) (r:List (Str×Addr))=>match x with
    | (name,kind)=>(if kind==NameKind.free then do let c <-cellOf env name;pure (ForInStep.yield ((name,c)::r)) else pure (ForInStep.yield r):Sem (ForInStep (List (Str×Addr)))))=pure i /\
   (∀x c,i.lookup x=some c->env.cells.lookup x=some c)/\(∀x∈f,x.2=.free->∃c,i.lookup x.1=some c)/\(∀x c,acc.lookup x=some c->∃j,i.lookup x=some j):=by
 intro f;induction f with
 |nil=>intro acc _ l;exact⟨acc,rfl,l,λ_ h=>(nomatch h),λx c h=>⟨c,h⟩⟩
 |cons p r v=>
  intro acc w l;obtain⟨n,k⟩:=p;rw[acl];have t:∀x∈r,x.2=.free->∃c,env.cells.lookup x.1=some c:=λx g=>w x (aah _ g);by_cases s:k=.free
  ·subst s;obtain⟨c,u⟩:=w (n,.free) aab rfl;have q:cellOf env n=pure c:=by unfold cellOf;rw[show env.cells.lookup n=some c from u]
   have o:∀x j,((n,c)::acc).lookup x=some j->env.cells.lookup x=some j:=λx j h=>by
    rw[aa8]at h;cases g:x==n with
    |true=>rw[g]at h;cases h;rw[eq_of_beq g];exact u
    |false=>rw[g]at h;exact l x j h
   obtain⟨i,e,a,b,d⟩:=v ((n,c)::acc) t o;refine⟨i,?_,a,λx g m=>?_,λx j h=>?_⟩
   ·show ((cellOf env n >>= λc=>pure (ForInStep.yield ((n,c)::acc))) >>= _)=_;rw[q];exact e
   ·rcases aac.mp g with rfl|g
    ·exact d n c (by simp[aa8])
    ·exact b x g m
   ·cases g:x==n with
    |true=>exact d x c (by rw[aa8,g])
    |false=>exact d x j (by rw[aa8,g];exact h)
  ·have y:(k==NameKind.free)=false:=by simpa using s
   obtain⟨i,e,a,b,d⟩:=v acc t l;refine⟨i,?_,a,λx g m=>?_,d⟩
   ·show ((if (k==NameKind.free)=true then _ else _) >>= _)=_;rw[y];exact e
   ·rcases aac.mp g with rfl|g
    ·exact absurd m s
    ·exact b x g m
def ni(h:∀x∈scope.names,x.2=.free->∃c,env.cells.lookup x.1=some c):
  ∃d:List (Str×Addr),closureFor scope env=pure d/\(∀x c,d.lookup x=some c->env.cells.lookup x=some c)/\(∀x∈scope.names,x.2=.free->∃c,d.lookup x.1=some c):=by
 obtain⟨d,e,a,b,_⟩:=nh scope.names [] h (λ_ _ h=>nomatch h);refine⟨d,?_,a,b⟩;have q:closureFor scope env=(forIn scope.names ([]:List (Str×Addr)) (λ(x:Str×NameKind) (r:List (Str×Addr))=>match x with
    | (name,kind)=>(if kind==NameKind.free then do let c <-cellOf env name;pure (ForInStep.yield ((name,c)::r)) else pure (ForInStep.yield r):Sem (ForInStep (List (Str×Addr))))) >>= λr=>pure r):=rfl
 rw[q,e];rfl
def fc(X:Cx)(N:List Str)(a:Scope)(c:List (Str×Addr))(s:Shared)(H:Hp)(d:List Addr)(b:List (Addr×Obj)):Cx where
 prog:=X.prog
 w:=X.w
 K:=X.K
 mg:=X.mg
 base:=X.base
 A:=X.A
 N:=N
 s₀:=s
 H₀:=H
 env:=compEnvC a c s.heap.objs.size X.env
 outer:=X.stack
 stack:=X.stack
 ex:=d
 fn:=λ_=>false
 calm:=X.calm
 pn:=X.pn++b
 xe:=λ_ _=>False
structure CC where
 cl:List (Str×Addr)
 s:Shared
 H:Hp
 fp:List Addr
 pins:List (Addr×Obj)
abbrev aY(X:Cx)(N:List Str)(scope:Scope)(c:CC):Cx:=fc X N scope c.cl c.s c.H c.fp c.pins
def bV(nt:Nat)(fr:List Nat)(σ:St):St:=List.replicate nt none++fr.map λj=>(σ[j]?).join
structure CompScope (N:List Str)(nt:Nat)(fr:List Nat)(ON:List Str)(sc osc:Scope):Prop where
 kind:sc.kind=.function
 nocell:∀x∈sc.names,x.2≠.cell
 names:∀x∈sc.names,x.2=.local->sc.names.lookup x.1=some .local
 len:N.length=nt+fr.length
 out:∀(i:Nat) (j:Nat),fr[i]?=some j->∃x,N[nt+i]?=some x/\ON[j]?=some x/\osc.names.lookup x=some .cell/\sc.names.lookup x=some .free
 cells:∀x∈sc.names,x.2=.free->osc.names.lookup x.1=some .cell
 looks:∀x∈sc.names,x.2=.free->sc.names.lookup x.1=some .free
def cb{sc:Scope}{env:Env}:∀(a:List (Str×NameKind)) (x:Str) (k:NameKind),
  (a.map λ(n,k)=>if (k==NameKind.free&&env.scope.kind==.function&&env.kindOf n==some .cell) then (n,NameKind.cell) else (n,k)).lookup x=some k ->
  a.lookup x=some k\/(k=.cell/\a.lookup x=some .free)
 |[],_,_,h=>by simp at h
 | (n,k0)::r,x,k,h=>by
  have e:=cb (sc:=sc) (env:=env) r x k;rw[aam]at h;have b:List.lookup x ((if (k0==NameKind.free&&env.scope.kind==.function&&env.kindOf n==some .cell)=true then (n,NameKind.cell) else (n,k0))::(r.map λ(n,k)=>if (k==NameKind.free&&env.scope.kind==.function&&env.kindOf n==some .cell) then (n,NameKind.cell) else (n,k)))=some k:=h;by_cases d:(k0==NameKind.free&&env.scope.kind==.function&&env.kindOf n==some .cell)=true
  ·rw[if_pos d,aa8]at b;rw[aa8];cases c:x==n with
   |true=>
    rw[c]at b;cases b;rw[aaI,aaI]at d;have:k0=.free:=by simpa using d.1.1
    subst this;exact .inr ⟨rfl,rfl⟩
   |false=>rw[c]at b;exact e b
  ·rw[if_neg d,aa8]at b;rw[aa8];cases c:x==n with
   |true=>rw[c]at b;exact .inl b
   |false=>rw[c]at b;exact e b
section
variable{X:Cx}{tg elt iter:Expr}{ifs:List Expr}{scope:Scope}{pos:Pos}{N:List Str}{nt:Nat}{fr:List Nat}
theorem nj(S:CompScope N nt fr X.N scope X.env.scope)(I:Inv X pins σ H s)
  (B:∀b∈fp,FpOk X pins H b) (k:∀b∈fp,b<s.heap.objs.size)
  (a:∀x c,cl.lookup x=some c->X.env.cells.lookup x=some c) (P:∀x∈scope.names,x.2=.free->∃c,cl.lookup x.1=some c)
  (hk:∀b o,s.heap.get? b=some o->s4.heap.get? b=some o) (hn:∃m,s4.heap.Ns s.heap.objs.size m) (ho:s4.os=s.os) (hg:s4.gens=s.gens):
  Inv (fc X N scope cl s H fp pins) [] (bV nt fr σ) H s4:=by
 have hC:H s.heap.objs.size=none:=I.hok.fresh (aag _);have U:∀b o,s.heap.get? b=some o->b≠s.heap.objs.size:=λb o e=>aar (adc e);have kd:(fc X N scope cl s H fp pins).env.scope.kind=.function:=S.kind;have L:∀x,scope.names.lookup x=some .free->∃c,cl.lookup x=some c:=λx h=>P (x,.free) (abg h) rfl;refine⟨⟨I.ok.mod,kd,I.ok.glob,I.ok.blt,aag _,λx y c W f=>I.ok.inj x y c (a x c W) (a y c f),λx hx=>?_,λ_ _ h _=>absurd (show false=true from h) aal,I.ok.hd,I.ok.frames,.inl rfl,λb t=>⟨aar (k b t),λx c e=>(B b t).2.2.2.2.1 x c (a x c e)⟩,
  I.bs,aav I.ok.bsz I.sz,λb o e t=>?_,λb t hs=>?_,I.stack,I.t4⟩,ho,by rw[hg];exact I.bare,Un.kept hk,?_,λx c e=>?_,hC,λx c e=>I.freeC x c (a x c e),λp hp=>?_,I.hok.kept hk,?_⟩
 ·have F:(relabel scope X.env).names.lookup x=some .cell\/(relabel scope X.env).names.lookup x=some .free:=hx;rcases F with h|h
  ·rcases cb (sc:=scope) scope.names x _ h with q|⟨_,q⟩
   ·exact absurd rfl (S.nocell _ (abg q))
   ·exact L x q
  ·rcases cb (sc:=scope) scope.names x _ h with q|⟨q,_⟩
   ·exact L x q
   ·cases q
 ·rcases (B b t).2.2.2.1 with z|z
  ·exact I.ok.noex b o e z
  ·exact absurd (aay (adc e) (aav I.ok.bsz z)) (aaT _)
 ·rcases aac.mp (I.qd b hs) with z|z
  ·exact(B b t).2.1 z
  ·exact(B b t).2.2.1 z
 ·obtain⟨m,hm⟩:=hn;refine⟨m,hm,λi x v W f h3=>?_⟩;obtain⟨m0,a0,T⟩:=I.loc;have hi:nt<=i:=by refine abT λk=>?_;unfold bV at f;rw[aaR (by simpa using k),acI]at f;rw[if_pos k]at f;cases f
  obtain⟨d,rfl⟩:∃d,i=nt+d:=⟨i-nt,by omega⟩
  unfold bV at f;rw[aa4 (by simp),abS,acM,aat]at f;cases J:fr[d]? with
  |none=>rw[J]at f;cases f
  |some j=>
   rw[J]at f;have g:(σ[j]?).join=some v:=aaE f;have O:σ[j]?=some (some v):=by
    cases e:σ[j]? with
    |none=>rw[e]at g;cases g
    |some q=>rw[e]at g;exact congrArg some g
   obtain⟨y,e1,e2,Y,Z⟩:=S.out d j J;have w:N[nt+d]?=some x:=W;rw[e1]at w;cases w;obtain⟨u,ru,l⟩:=T j x v e2 O (.inr (.inl Y));refine⟨u,ru,?_⟩;rcases l with ⟨q,_⟩|⟨_,c,ec,z⟩
   ·have C:X.env.scope.names.lookup x=some .local:=q;rw[Y]at C;cases C
   ·obtain⟨M,A⟩:=L x Z;have:M=c:=by have:=a x M A;rw[ec]at this;exact(aaE this).symm
    subst this;obtain⟨o,r,Q⟩:=z;refine .inr ⟨?_,M,A,⟨o,hk _ _ r,Q⟩⟩;rcases h3 with q|q|q
    ·have C:(relabel scope X.env).names.lookup x=some .local:=q;rcases cb (sc:=scope) scope.names x _ C with z|⟨z,_⟩
     ·rw[Z]at z;cases z
     ·cases z
    ·exact .inl q
    ·exact .inr q
 ·obtain⟨v,o,r,Q⟩:=I.cell x c (a x c e);exact⟨v,o,hk _ _ r,Q⟩
 ·have D:p∈X.pn++pins:=by
   rcases aai.mp hp with z|z
   ·exact z
   ·exact absurd z (by simp)
  obtain⟨e,n,ne,nf,d⟩:=I.pin p D;refine⟨hk _ _ e,n,U _ _ e,λz=>?_,d⟩;rcases aac.mp (I.qd p.1 z) with q|q
  ·exact ne q
  ·exact nf q
 ·show (bV nt fr σ).length=N.length;unfold bV;rw[aak,abS,aaa,S.len]
theorem tE(I:Inv X pins σ H s)(y:∀b∈fp,FpOk X pins H b)
  (l:H D=none) (k:s.heap.objs.size<=D) (m:D<s3.heap.objs.size) (hk:∀b o,s.heap.get? b=some o->s3.heap.get? b=some o) (r:s3.os=s.os)
  (J:Inv (fc X N scope cl s3 (upd H D o0) fp pins) pins' σ' H1 s5) (hs:Heap.SameBut s3.heap.objs.size s5.heap h'):
  Inv X pins σ H1 { s5 with heap:=h' }:=by
 have p:s.heap.objs.size<=s3.heap.objs.size:=aaU (abU k m);have f:∀b,b<s.heap.objs.size->b≠D/\b≠s3.heap.objs.size:=λb d=>⟨aar (aay d k),aar (aay d p)⟩
 have i:∀b,b≠D->(upd H D o0) b=H b:=λb d=>upd_ne d;refine I.call' (ch:=fp) (J.os.trans r) ⟨λb o e n d g=>?_,λb o e n d g=>?_,λb o e n g=>?_,λb o e g=>?_,λb x e=>?_,λb o u e=>?_,λb L e=>?_⟩ ?_ J.bare λb d=>?_
 ·obtain⟨j,h⟩:=f b (adc e);exact(hs.2 b h).trans (J.base.keep b o (hk b o e) ((i b j).trans n) d g)
 ·obtain⟨j,h⟩:=f b (adc e);obtain⟨w,q⟩:=J.base.slot b o (hk b o e) ((i b j).trans n) d g;exact⟨w,(hs.2 b h).trans q⟩
 ·obtain⟨j,h⟩:=f b (adc e);exact J.base.free b o (hk b o e) ((i b j).trans n) g
 ·obtain⟨j,h⟩:=f b (adc e);obtain⟨t,q⟩:=J.base.there b o (hk b o e) g;exact⟨t,(hs.2 b h).trans q⟩
 ·exact J.base.tups b x ((i b (av e l)).trans e)
 ·exact J.base.frzs b o u ((i b (av e l)).trans e)
 ·exact J.base.tbls b L ((i b (av e l)).trans e)
 ·intro b u e;refine(J.hok b u e).p9 (λc v B q=>(hs.2 c ?_).trans q) (λ_ q=>q) λ_ _ q=>q;have a:H1 s3.heap.objs.size=none:=J.free;rintro rfl;rcases B with z|z
  ·rw[z]at a;rw[a]at e;cases e
  ·rw[a]at z;cases z
 ·obtain⟨P,F,O,A,C,M⟩:=y b d;exact⟨A,F,C,M⟩
end
def Du(e:Expr):Prop:=(∃a b c d,e=.ListComp a b c d)\/∃a b c d f,e=.DictComp a b c d f
abbrev bW(e:Expr)(d:Nat)(tg:Expr)(p:Pos)(it acc:Value)(env:Env)(body:Sem Unit):Sem Fin:=
 standAt p >>= λ_=>pyNext it >>= λr=>match r with
  |none=>pure (.done .next)
  |some v=>letOwnedTupleGo tg it v >>= λ_=>assign tg env v >>= λ_=>body >>= λ_=>again (.compLoop e d it acc env)
abbrev TB:=St->Hp->(St->Hp->Prop)->Prop
def PB(Y:Cx)(c:Sem Unit)(g:TB):Prop:=∀(a:List (Addr×Obj)) (s:Shared) (e:St) (H:Hp) (Q:St->Hp->Prop),Inv Y a e H s->g e H Q->wpAny (model Y.prog Y.w) Y.A c (λ_ f=>∃b d,Inv Y a b d f/\Q b d) Y.xe s
section
variable{e:Expr}{p:Pos}{d:Nat}{tg:Expr}{body:Sem Unit}
def rA(k:Du e)
  (l:compTurn e d it acc env=bW e d tg p it acc env body) (I:Nat->Shared->Prop)
  (a:∀n s,I n s->wpAny (model prog w) A (pyNext it) (λr b=>match r with
   |none=>R (.ok .next) b
   |some v=>wpAny (model prog w) A (letOwnedTupleGo tg it v) (λ_ g=>wpAny (model prog w) A (assign tg env v) (λ_ f=>wpAny (model prog w) A body (λ_ c=>∃m,m<n/\I m c) (λ_ _=>False) f) (λ_ _=>False) g) (λ_ _=>False) b) (λ_ _=>False) s)
  (n:Nat) (h:I n s):codeAny (model prog w) A (.compLoop e d it acc env) R s:=by
 rcases k with ⟨x,o,q,B,rfl⟩|⟨x,o,q,B,C,rfl⟩ <;>
 ·refine codeAny_loop rfl I (λn s u=>?_) n h;refine wpAny_noted ?_;rw[l];refine ada (adq (ada (adh (a n s u) (λr b i=>?_) λ_ _ z=>z.elim)));cases r with
  |none=>exact adb i
  |some v=>refine ada (adh i (λ_ g j=>?_) λ_ _ z=>z.elim);refine ada (adh j (λ_ f y=>?_) λ_ _ z=>z.elim);exact ada (adh y (λ_ c t=>adb ⟨rfl,t⟩) λ_ _ z=>z.elim)
def Gh(J:It)(g:TG)(k:TB)(σ:St)(H:Hp)(Q:St->Hp->Prop):Prop:=∃W:Nat->Nat->St->Hp->Prop,(∃m,W 0 m σ H)/\∀i m σ H,W i m σ H->(J.stop i H/\Q σ H)\/(J.go i H/\∀x c,J.yld i H x c->g x σ c λa h=>k a h λb j=>∃f,f<m/\W (i+1) f b j)
theorem jz(he:Du e)(Z:Y.calm=true)(hx:Y.xe=λ_ _=>False)
  (ht:compTurn e d (.ref it) acc Y.env=bW e d tg p (.ref it) acc Y.env body)
  (T:Turn Y.prog Y.w Y.K tg J fp it tn) (O:PG Y tg g) (a:PB Y body tb) (I:Inv Y pins σ H s) (st:tn 0 s.heap) (f:∀b∈fp,FpOk Y pins H b) (w:Gh J g tb σ H Q) (fin:∀j k z,Inv Y pins j k z->(∀b∈fp,k b=none)->Q j k->R (.ok .next) z):
  codeAny (model Y.prog Y.w) Y.A (.compLoop e d (.ref it) acc Y.env) R s:=by
 obtain⟨W,⟨m0,w0⟩,y⟩:=w;unfold PG at O;unfold PB at a;rw[hx]at O a;have c:∀{k:Hp},(∀b∈fp,k b=none)->∀b∈fp,FpOk Y pins k b:=λhn b a=>⟨hn b a,(f b a).2⟩
 refine rA he ht (λn z=>∃i j k,Inv Y pins j k z/\tn i z.heap/\(∀b∈fp,k b=none)/\W i n j k) ?_ m0 ⟨0,σ,H,I,st,λb a=>(f b a).1,w0⟩;rintro n U ⟨i,h,D,I3,B,q,w3⟩;rcases y i n h D w3 with ⟨t,qn⟩|⟨go,v⟩
 ·refine thn (T.done Y rfl rfl rfl Z i pins U h D _ I3 (c q) B t) λr S l=>?_;obtain⟨N,I4⟩:=l;subst N;exact fin h D S I4 q qn
 ·refine thn (T.item Y rfl rfl rfl Z i pins U h D _ I3 (c q) B go) λr S l=>?_;obtain⟨u,N,h4⟩:=l;subst N;refine thn h4 λ_ s5 l=>?_;obtain⟨x,X,I5,r5,y5,m,F⟩:=l;refine thn (O _ s5 h X x u _ (I5.pinned (c F) (T.obj _ _ m)) r5 (v x X y5)) λ_ s6 l=>?_;obtain⟨L,H6,I6,q6⟩:=l;refine thn (a _ s6 L H6 _ I6 q6) λ_ s7 l=>?_;obtain⟨M,H7,P,m',hm,w7⟩:=l;have C:=λb (a:b∈fp) o e=>P.pin (b,o) (aae _ (aae _ (fb a e)));refine⟨m',hm,i+1,M,H7,P.et,T.keep _ _ _ m λb a o e=>(C b a o e).1,λb a=>?_,w7⟩;obtain⟨o,e,_⟩:=T.obj _ _ m b a;exact(C b a o e).2.1
def tF(q:Du e)(g:(clausesOf e)[d]?=some c)(l:c.is_async=0)
  (f:codeAny (model prog w) A (.compLoop e d it acc env) R s) (h:wpAny (model prog w) A (pyIter it) (λa b=>codeAny (model prog w) A (.compLoop e d a acc env) R b) (λ_ _=>False) s):
  codeAny (model prog w) A (.compStart e d it acc env) R s:=by
 have m:((clausesOf e)[d]?).elim false (·.is_async !=0)=false:=by rw[g];show (c.is_async !=0)=false;rw[l];rfl
 rcases q with ⟨j,i,o,n,rfl⟩|⟨j,i,o,n,r,rfl⟩ <;>
 ·refine adV (wpAny_notedAt ?_);unfold compStart;rw[m,g];show wpAny _ _ (ask >>= _) _ _ s;refine ada (adx (wpAny_ite ?_));split
  ·first
    |exact ada (adb (adb ⟨rfl,f⟩))
    |exact adb ⟨rfl,f⟩
  ·refine ada (adr ?_);show wpAny _ _ (standAt c.iter.pos >>= _) _ _ s;exact ada (adq (ada (adh h (λa b k=>adb ⟨rfl,k⟩) λ_ _ z=>z.elim)))
end
structure MkC (X:Cx)(mk:Sem Value)(o:Obj)(o0:HO):Prop where
 new:∀{s:Shared}{Q:Value->Shared->Prop},Q (.ref s.heap.objs.size) { s with heap:=s.heap.push o }->wpAny (model X.prog X.w) X.A mk Q X.xe s
 laid:∀{pins:List (Addr×Obj)}{σ:St}{H:Hp}{s:Shared},Inv X pins σ H s->Inv X pins σ (upd H s.heap.objs.size o0) { s with heap:=s.heap.push o }
def fW(o0:HO)(f:TI)(nt:Nat)(fr:List Nat)(g:CC->TG)(d:CC->Addr->TB):TE:=λa H Q=>f a H λJ b=>∀(c:CC) D,b D=none->Gh J (g c) (d c D) (bV nt fr a) (upd b D o0) λ_ e=>Q (.ref D) e
section
variable{X:Cx}{e tg iter:Expr}{ifs:List Expr}{rest:List Comprehension}{scope:Scope}{pos:Pos}{N:List Str}{nt:Nat}{fr:List Nat}{mk:Sem Value}{o:Obj}{o0:HO}{body:Addr->Env->Sem Unit}
theorem g8{u:Option (Value->Sem Unit)}{Q0:Value->Shared->Prop}(he:Du e)(W:clausesOf e=⟨tg,iter,ifs,0⟩::rest)(ht:∀it D env,compTurn e 0 it (.ref D) env=bW e 0 tg iter.pos it (.ref D) env (body D env))(M:MkC X mk o o0)(hc:X.calm=true)(S:CompScope N nt fr X.N scope X.env.scope)(hi:PI X tg iter wi)
  (hg:∀c:CC,PG (aY X N scope c) tg (g c)) (ha:∀(c:CC) D,PB (aY X N scope c) (body D (aY X N scope c).env) (tb c D))
  (I:Inv X pins σ H s) (h:fW o0 wi nt fr g tb σ H Q) (a5:∀x∈scope.names,x.2=.free->X.env.kindOf x.1=some .cell)
  (fin:∀(D C:Addr) (s5:Shared) (H1:Hp),FpOk X pins H1 C->s5.heap.get? C≠none->C≠X.env.locals->(∃m,s5.heap.Ns C m)->(∀h',Heap.SameBut C s5.heap h'->Inv X pins σ H1 { s5 with heap:=h' })->Q (.ref D) H1 ->
   compPost (model X.prog X.w) X.A X.xe u Q0 (.ref D) C (.ok .next) s5)
  (hs:∀x,foldedSetIterable iter X.env x=pure x:=by intro _;rfl):
  wpAny (model X.prog X.w) X.A (comprehension e scope X.env pos mk false (eval iter X.env) u) Q0 X.xe s:=by
 have l:∀x∈scope.names,x.2=.free->∃c,X.env.cells.lookup x.1=some c:=λx hx hf=>I.ok.has x.1 (.inl (a5 x hx hf));obtain⟨t,O,h1,h2⟩:=ni l;refine wpAny_comprehension_free W hs O S.kind S.names (thn (hi pins s σ H _ I h) λxv s1 hx=>thn hx λa7 a a3=>?_);obtain⟨it,k,tn,J,n,rfl,I2,T,a0,B,hW⟩:=a3;have r:∀b∈k,b<a.heap.objs.size:=λb d=>let ⟨o,e,_⟩:=T.obj 0 _ a0 b d;adc e
 refine M.new (wpAny_newFunctionEnv S.nocell (by intro y hy;simp at hy) (λj i f=>?_) S.kind);have hD:n a.heap.objs.size=none:=I2.hok.fresh (aag _);have I3:=M.laid I2;generalize hs3:({ a with heap:=a.heap.push o }:Shared)=s3 at i f I3 ⊢;have hW:=hW ⟨t,s3,upd n a.heap.objs.size o0,k,pins⟩ _ hD;have U:∀b o,a.heap.get? b=some o->s3.heap.get? b=some o:=λb o e=>by rw[<-hs3];exact ade _ e
 have F:s3.heap.objs.size=a.heap.objs.size+1:=by rw[<-hs3];exact adg ..
 have a2:s3.os=a.os:=by rw[<-hs3]
 have f3:∀b∈k,FpOk X pins (upd n a.heap.objs.size o0) b:=λb d=>⟨by rw[upd_ne (aar (r b d))];exact(B b d).1,(B b d).2⟩
 have L:∀b o,s3.heap.get? b=some o->j.get? b=some o:=λb o e=>f.extBut b o (aar (adc e)) (ade _ e);generalize hs4:({ s3 with heap:=j,toks:=s3.toks+([]:List (Str×Value)).length }:Shared)=s4;have v:s4.heap=j:=by rw[<-hs4]
 have I4:Inv (fc X N scope t s3 (upd n a.heap.objs.size o0) k pins) [] (bV nt fr σ) (upd n a.heap.objs.size o0) s4:=
  nj S I3 f3 (λb d=>by rw[F];exact aa9 (r b d)) h1 h2 (λb o e=>by rw[v];exact L b o e) ⟨_,by rw[v];exact i⟩ (by rw[<-hs4]) (by rw[<-hs4])
 have Z:tn 0 s4.heap:=T.keep 0 _ _ a0 λb d o e=>by rw[v];exact L b o (U b o e)
 have q:codeAny (model X.prog X.w) X.A (.compLoop e 0 (.ref it) (.ref a.heap.objs.size) (compEnvC scope t s3.heap.objs.size X.env))
   (compPost (model X.prog X.w) X.A X.xe u Q0 (.ref a.heap.objs.size) s3.heap.objs.size) s4:=by
  have P:∀{H':Hp},(∀b∈k,H' b=none)->∀b∈k,FpOk (fc X N scope t s3 (upd n a.heap.objs.size o0) k pins) [] H' b:=λ{H'} hn b d=>
   ⟨hn b d,aar (show b<s3.heap.objs.size by rw[F];exact aa9 (r b d)),λz=>I4.ok.exfs b d z,.inl d,λx c e=>(B b d).2.2.2.2.1 x c (h1 x c e),λp hp=>(B b d).2.2.2.2.2 p (by
    rcases aai.mp hp with z|z
    ·exact z
    ·exact absurd z (by simp))⟩
  refine jz he (Y:=fc X N scope t s3 (upd n a.heap.objs.size o0) k pins) hc rfl (ht ..) T (hg ⟨t,s3,upd n a.heap.objs.size o0,k,pins⟩) (ha ⟨t,s3,upd n a.heap.objs.size o0,k,pins⟩ _) I4 Z (P λb d=>(f3 b d).1) hW λa6 H6 s6 I6 _ qn=>?_;obtain⟨m,hm,_⟩:=id I6.loc;refine fin _ _ s6 H6 (I2.ub (by rw[F];exact abr _) I6.free) ?_ ?_ ⟨m,hm⟩ (λh' a4=>tE I2 B hD (aag _) (by rw[F];exact aaY _) U a2 I6 a4) qn
  ·obtain⟨o,_,_,ho,_⟩:=hm;intro z;have a1:s6.heap.get? s3.heap.objs.size=some o:=ho;rw[z]at a1;cases a1
  ·exact aaL (abh I2.lt (by rw[F];exact aaY _))
 exact tF he (by rw[W];rfl) rfl q (T.self X.A 0 s4 _ _ Z q)
theorem j4{F d:Pos}(Y:Du e)(u:clausesOf e=⟨tg,iter,ifs,0⟩::rest)(Z:∀it D env,compTurn e 0 it (.ref D) env=bW e 0 tg iter.pos it (.ref D) env (body D env))(M:MkC X mk o o0)(hu:∀j,evalThenUse e X.env j=(do let _ <-comprehension e scope X.env pos mk false (eval iter X.env) (some j)))(hN:X.N.Nodup)(Q:X.N[i]?=some y)(O:X.env.scope.names.lookup y=some .local)(hc:X.calm=true)(S:CompScope N nt fr X.N scope X.env.scope)(hi:PI X tg iter wi)
  (hg:∀c:CC,PG (aY X N scope c) tg (g c)) (W:∀(c:CC) D,PB (aY X N scope c) (body D (aY X N scope c).env) (tb c D))
  (hs:∀x,foldedSetIterable iter X.env x=pure x:=by intro _;rfl)
  (w:swapsWith e (some (.Name y F)) d.line X.env=pure true):
  PS X (.Assign [.Name y F] e d) (lz (fW o0 wi nt fr g tb) (gA i)):=by
 intro k s σ H D I h;rw[exec_Assign_Name_used _ _ _ _ w];refine ada (adq (ada ?_));rw[hu];refine ada (adh (g8 Y u Z M hc S hi hg W I h (λx hx hf=>S.cells x hx hf) (λL C J P f hC _ p hI q=>?_) hs) (λ_ s' hq=>adb (adb hq)) λ_ _ e=>e);obtain⟨m,p⟩:=p;have U:Inv X k σ P J:=hI J.heap ⟨rfl,λ_ _=>rfl⟩;show wpAny _ X.A (assign (.Name y F) X.env (.ref L)) _ _ _;refine wpAny_assign_Name (ju U hN Q (.inl O) (v:=.ref L) rfl (λs6 T t=>?_) (.inr O));obtain⟨a,r,n⟩:=t;have B:C≠a:=by
  rcases n with e|e
  ·rw[e];exact f.2.1
  ·exact λz=>f.2.2.2.2.1 _ _ e z.symm
 exact⟨m,p.sameBut r B,λh' l=>⟨_,P,T.turned (λb o hb e=>(l.2 b hb).trans e) f.1 f.2.1 f.2.2.2.1 f.2.2.2.2.1 f.2.2.2.2.2,q⟩⟩
def lE(k:Du e)(d:clausesOf e=⟨tg,iter,ifs,0⟩::rest)(l:∀it D env,compTurn e 0 it (.ref D) env=bW e 0 tg iter.pos it (.ref D) env (body D env))(M:MkC X mk o o0)(p:eval e X.env=comprehension e scope X.env pos mk false (eval iter X.env))(t:X.calm=true)(S:CompScope N nt fr X.N scope X.env.scope)(n:PI X tg iter wi)
  (v:∀c:CC,PG (aY X N scope c) tg (g c)) (j:∀(c:CC) D,PB (aY X N scope c) (body D (aY X N scope c).env) (tb c D)) (hs:∀x,foldedSetIterable iter X.env x=pure x):PE X e (fW o0 wi nt fr g tb):=by
 intro f s A H Q I h;rw[p];refine g8 k d l M t S n v j I h (λx y r=>S.cells x y r) (λD C z w _ _ _ b u q=>?_) hs;obtain⟨m,b⟩:=b;exact⟨m,b,λi a=>⟨.ref D,w,u i a,rfl,q⟩⟩
end
abbrev TC:=Addr->St->Hp->(Hp->Prop)->Prop
def oR(d:TE):TC:=λD c H Q=>d c H λy b=>∃a,b D=some (.lst a)/\a.length<sizeLine/\Q (upd b D (.lst (a++[y])))
def D5(d:TT)(e:TE):TC:=λD a H Q=>d a H λb c=>if b=true then oR e D a c Q else Q c
abbrev tZ(tc:CC->TC):CC->Addr->TB:=λc D σ H Q=>tc c D σ H (Q σ)
abbrev oS(wi:TI)(nt:Nat)(fr:List Nat)(g:CC->TG)(tc:CC->TC):TE:=fW (.lst []) wi nt fr g (tZ tc)
def G2(d:TI)(g:TG)(b:TB):TB:=λa H Q=>d a H λJ c=>Gh J g b a c Q
def G3(b:TE)(D:Addr):TB:=λa H Q=>oR b D a H (Q a)
section
variable{Y:Cx}{elt tg iter tg2 iter2:Expr}{scope:Scope}{pos:Pos}{te:TE}{D:Addr}
abbrev fX(elt tg iter tg2 iter2:Expr)(scope:Scope)(pos:Pos):Expr:=.ListComp elt [⟨tg,iter,[],0⟩,⟨tg2,iter2,[],0⟩] scope pos
abbrev Dv(elt:Expr)(acc:Value)(env:Env):Sem Unit:=eval elt env >>= λx=>call (.builtin "list.append") [acc,x] >>= λ_=>pure ()
abbrev inB(elt tg iter tg2 iter2:Expr)(scope:Scope)(pos:Pos)(acc:Value)(env:Env):Sem Unit:=eval iter2 env >>= λx=>standAt iter2.pos >>= λ_=>foldedSetIterable iter2 env x >>= λx=>holding [x] (pyIter x) >>= λit=>runOwn (.compStart (fX elt tg iter tg2 iter2 scope pos) 1 it acc env) env >>= λ_=>pure ()
def Bb(it acc:Value)(env:Env):compTurn (fX elt tg iter tg2 iter2 scope pos) 0 it acc env=bW (fX elt tg iter tg2 iter2 scope pos) 0 tg iter.pos it acc env (inB elt tg iter tg2 iter2 scope pos acc env):=by
 have h:compTurn (fX elt tg iter tg2 iter2 scope pos) 0 it acc env=(standAt iter.pos >>= λ_=>pyNext it >>= λr=>match r with
   |none=>pure (.done .next)
   |some v=>letOwnedTupleGo tg it v >>= λ_=>assign tg env v >>= λ_=>eval iter2 env >>= λx=>standAt iter2.pos >>= λ_=>foldedSetIterable iter2 env x >>= λx=>holding [x] (pyIter x) >>= λi=>runOwn (.compStart (fX elt tg iter tg2 iter2 scope pos) 1 i acc env) env >>= λ_=>again (.compLoop (fX elt tg iter tg2 iter2 scope pos) 0 it acc env)):=rfl
 rw[h];simp only[bW,inB,bind_assoc,pure_bind]
def Bc(it acc:Value)(env:Env):compTurn (fX elt tg iter tg2 iter2 scope pos) 1 it acc env=bW (fX elt tg iter tg2 iter2 scope pos) 1 tg2 iter2.pos it acc env (Dv elt acc env):=rfl
def tG(i:PE Y elt te):PB Y (Dv elt (.ref D) Y.env) (G3 te D):=λa s b H Q I h=>by
 refine ada (thn (i a s b H _ I h) λu n c=>?_);obtain⟨y,p,e,k,f,g,l,q⟩:=c;exact ada (thn (eD a n b p (.ref D) [y] (.ref D) [u] (λv o=>v=.non/\Q b o) e rfl (.cons k .nil) ⟨D,f,y,rfl,rfl,g,l,rfl,q⟩) λv r c=>by
  obtain⟨z,d,j,_,_,m⟩:=c;exact adb ⟨b,d,j,m⟩)
def D6(B:Y.calm=true)(M:Y.xe=λ_ _=>False)(hs:∀x,foldedSetIterable iter2 Y.env x=pure x)(p:PI Y tg2 iter2 wi)(F:PG Y tg2 g)(L:PB Y (Dv elt (.ref D) Y.env) tb):
  PB Y (inB elt tg iter tg2 iter2 scope pos (.ref D) Y.env) (G2 wi g tb):=by
 intro c s u H Q I h;refine ada (thn (p c s u H _ I h) λv P y=>ada (adq (ada (adM (hs v) (ada (adj (thn y λo l n=>?_)))))));obtain⟨z,N,S,J,O,rfl,t,T,d,m,w⟩:=n;have b:codeAny (model Y.prog Y.w) Y.A (.compLoop (fX elt tg iter tg2 iter2 scope pos) 1 (.ref z) (.ref D) Y.env) (λr i=>match r with|.ok _=>∃a k,Inv Y c a k i/\Q a k|.error e=>cameBackBy (model Y.prog Y.w) Y.A Y.env Y.xe e i) l:=
  jz (.inl ⟨_,_,_,_,rfl⟩) B M (Bc ..) T F L t d m w λa k i C _ q=>⟨a,k,C,q⟩
 refine ada (wpAny_runOwn (tF (.inl ⟨_,_,_,_,rfl⟩) rfl rfl ?_ (T.self _ 0 l _ _ d ?_)))
 ·exact adt b λr i j=>by cases r with|ok f=>exact adb j|error e=>exact j
 ·exact adt b λr i j=>by cases r with|ok f=>exact adb j|error e=>exact j
end
abbrev zG(ifs:List Expr)(act:Sem Unit)(env:Env):Sem Unit:=(forIn ifs true λc r=>if r=true then do let ok <-isTrue c env (eval c env);pure (ForInStep.yield ok) else pure (ForInStep.yield r)) >>= λok=>if ok=true then act else pure ()
def tH(h:PB Y act tb):PB Y (zG [] act Y.env) tb:=λa s b H Q I q=>ada (wpAny_tests_nil (h a s b H Q I q))
def Bd(j:PT Y c tt)(h:PB Y act tb):PB Y (zG [c] act Y.env) (λσ H Q=>tt σ H λb d=>if b=true then tb σ d Q else Q σ d):=λa s σ H Q I q=>by
 refine ada (wpAny_tests_one (thn (j a s σ H _ I q) λb i g=>?_));obtain⟨d,e,f⟩:=g;cases b with
 |true=>exact h a i σ d Q e f
 |false=>exact adb ⟨σ,d,e,f⟩
def nk(Y:Cx)(D:Addr)(a:List Expr)(b:Expr)(tc:TC):Prop:=PB Y (zG a (Dv b (.ref D) Y.env) Y.env) (λc H Q=>tc D c H (Q c))
section
variable{X Y:Cx}{tg elt iter kx vx:Expr}{ifs:List Expr}{scope:Scope}{pos:Pos}{N:List Str}{nt:Nat}{fr:List Nat}{D:Addr}
def rB(a:PE Y elt te):nk Y D [] elt (oR te):=tH (tG a)
def tI(a:PT Y c tt)(b:PE Y elt te):nk Y D [c] elt (D5 tt te):=Bd a (tG b)
def G4:MkC X (newList []) { cls:=.type "list",dict:=none,data:=.seq ([]:List Value).toArray } (.lst []):=⟨λh=>adk h (by show 0<=sizeLine;exact aaH _),λI=>I.lnew .nil (aaH _)⟩
def jp{c:Type}(m:Sem Bool)(a:Sem Unit)(k:Sem c):(m >>= λb=>if b=true then a >>= λ_=>k else k)=((m >>= λb=>if b=true then a else pure ()) >>= λ_=>k):=by rw[bind_assoc];congr 1;funext b;cases b<;>rfl
def tJ(it acc:Value)(env:Env):compTurn (.ListComp elt [⟨tg,iter,ifs,0⟩] scope pos) 0 it acc env=bW (.ListComp elt [⟨tg,iter,ifs,0⟩] scope pos) 0 tg iter.pos it acc env (zG ifs (Dv elt acc env) env):=by rw[compTurn_list];simp only[bW,zG,<-jp,Dv];rfl
def oT(e:X.calm=true)(S:CompScope N nt fr X.N scope X.env.scope)(a:PI X tg iter wi)(b:∀c:CC,PG (aY X N scope c) tg (g c))(d:∀(c:CC) D,nk (aY X N scope c) D ifs elt (tc c))(hs:∀x,foldedSetIterable iter X.env x=pure x:=by intro _;rfl):
  PE X (.ListComp elt [⟨tg,iter,ifs,0⟩] scope pos) (oS wi nt fr g tc):=lE (.inl ⟨_,_,_,_,rfl⟩) rfl (λ_ _ _=>tJ ..) G4 rfl e S a b d hs
def xo(f:X.N.Nodup)(d:X.N[i]?=some y)(h:X.env.scope.names.lookup y=some .local)(k:X.calm=true)(S:CompScope N nt fr X.N scope X.env.scope)(b:PI X tg iter wi)(e:∀c:CC,PG (aY X N scope c) tg (g c))(j:∀(c:CC) D,nk (aY X N scope c) D ifs elt (tc c))(hs:∀x,foldedSetIterable iter X.env x=pure x)
  (a:swapsWith (.ListComp elt [⟨tg,iter,ifs,0⟩] scope pos) (some (.Name y py)) spos.line X.env=pure true):PS X (.Assign [.Name y py] (.ListComp elt [⟨tg,iter,ifs,0⟩] scope pos) spos) (lz (oS wi nt fr g tc) (gA i)):=
 j4 (.inl ⟨_,_,_,_,rfl⟩) rfl (λ_ _ _=>tJ ..) G4 (λ_=>rfl) f d h k S b e j hs a
def tK(a:TI)(nt:Nat)(fr:List Nat)(g:CC->TG)(b:CC->Addr->TB):TE:=fW (.lst []) a nt fr g b
def xp(f:X.N.Nodup)(d:X.N[i]?=some y)(h:X.env.scope.names.lookup y=some .local)(k:X.calm=true)(S:CompScope N nt fr X.N scope X.env.scope)(b:PI X tg iter wi)(e:∀c:CC,PG (aY X N scope c) tg (g c))(j:∀(c:CC) D,PB (aY X N scope c) (inB elt tg iter tg2 iter2 scope pos (.ref D) (aY X N scope c).env) (tb c D))(hs:∀x,foldedSetIterable iter X.env x=pure x)
  (a:swapsWith (fX elt tg iter tg2 iter2 scope pos) (some (.Name y py)) spos.line X.env=pure true):PS X (.Assign [.Name y py] (fX elt tg iter tg2 iter2 scope pos) spos) (lz (tK wi nt fr g tb) (gA i)):=
 j4 (.inl ⟨_,_,_,_,rfl⟩) rfl (λ_ _ _=>Bb ..) G4 (λ_=>rfl) f d h k S b e j hs a
end
end
section
section
variable{prog:Program}{w:World}{A:Around}{E:Value->Shared->Prop}{s:Shared}
def fu{items}(a:s.heap.IsTupleIter it t i)
  (f:s.heap.IsTuple t items) (j:items[i]?=some x)
  (g:∀h',h'.IsTupleIter it t (i+1)->Heap.SameBut it s.heap h'->Q x { s with heap:=h' }):
  wpAny (model prog w) A (Builtin.SmallTypes.nextOf (.ref it)) Q E s:=by
 obtain⟨o,c,h,b⟩:=id a;obtain⟨k,d,_,l,e⟩:=f;unfold Builtin.SmallTypes.nextOf;refine ada (adz a.typeIs adN
  (ads adN a.typeIs ad3 ?_ (ad4 _)))
 show wpAny _ _ (field (.ref it) 0 >>= _) _ _ s;refine ada (adl c b rfl ?_);show wpAny _ _ (if (Value.ref t==Value.none)=true then _ else _) _ _ s;rw[if_neg (show ¬ ((Value.ref t==Value.none)=true) from aal)];show wpAny _ _ (field (.ref it) 1 >>= _) _ _ s;refine ada (adl c b rfl ?_);show wpAny _ _ (seqItems? (.ref t) >>= _) _ _ s;refine ada (adp d e ?_);simp only[aaM,j];refine ada (adn c b (by simp) (adb ⟨x,rfl,adb (g _ ?_ (adi ..))⟩));exact⟨_,adm _ c (Obj.isFreed_of_fields (Obj.data_mapFields b _)),(Obj.cls_mapFields ..).trans h,by
  rw[Obj.data_mapFields b];simp[rawInt]⟩
theorem fY{items}{Q:Value->Shared->Prop}(g:A.handled=none)
  (a:s.heap.IsTupleIter it t i) (h:s.heap.IsTuple t items) (k:items[i]?=none)
  (j:∀h' e,Heap.ExtBut it s.heap h'->(∃o,h'.get? e=some o/\o.cls=.type "StopIteration")->E (.ref e) { s with heap:=h' }):
  wpAny (model prog w) A (Builtin.SmallTypes.nextOf (.ref it)) Q E s:=by
 obtain⟨o,c,n,d⟩:=id a;obtain⟨l,b,_,m,f⟩:=h;unfold Builtin.SmallTypes.nextOf;refine ada (adz a.typeIs adN
  (ads adN a.typeIs ad3 ?_ (ad4 _)))
 show wpAny _ _ (field (.ref it) 0 >>= _) _ _ s;refine ada (adl c d rfl ?_);show wpAny _ _ (if (Value.ref t==Value.none)=true then _ else _) _ _ s;rw[if_neg (show ¬ ((Value.ref t==Value.none)=true) from aal)];show wpAny _ _ (field (.ref it) 1 >>= _) _ _ s;refine ada (adl c d rfl ?_);show wpAny _ _ (seqItems? (.ref t) >>= _) _ _ s;refine ada (adp b f ?_);simp only[aaM,k];refine ada (adr (ada (adn c d (by simp) ?_)));show wpAny _ _ (newExc (.type "StopIteration") [] >>= _) _ _ _;refine ada ?_;simp only[newExc,newTuple];refine ada (adk ?_ (by size_fits));refine ada (adM (by first|rfl|(simp only[firstArgMember];rfl)) ?_);refine adk ?_ (by size_fits);simp only[raiseNew];refine ada (wpAny_handled ?_)
 first|rw[show A.in1.handled=none from g]|rw[g]
 refine ada (adb (wpAny_throw ?_));exact j _ _ (((adi ..).extBut.push _).push _) ⟨_,adf _ rfl,rfl⟩
end
inductive ZS where
 |lst (a:Addr) (xs:List V)
 |tup (a:Addr) (xs:List V)
 |str (z:Str)
def ZS.items:ZS->List V
 |.lst _ xs=>xs
 |.tup _ xs=>xs
 |.str z=>z.cps.toList.map λc=>.str ⟨#[c]⟩
def ZS.val:ZS->V
 |.lst a _=>.ref a
 |.tup a _=>.ref a
 |.str z=>.str z
def ZS.ok(K:Waa)(H:Hp):ZS->Prop
 |.lst a xs=>SqL K H a xs
 |.tup a xs=>SqT K H a xs
 |.str _=>True
structure Sub (prog:Program)(w:World)(A:Around)(i:Addr)(sl:List Addr)(src:Heap->Prop)(st:Nat->Heap->Prop)(vs:List V):Prop where
 sfr:∀h h',src h->(∀b∈sl,∀o,h.get? b=some o->h'.get? b=some o)->src h'
 ifr:∀k h h',st k h->(∀o,h.get? i=some o->h'.get? i=some o)->st k h'
 item:∀(k:Nat) (s:Shared) (x:V) (Q:Value->Shared->Prop) (E:Value->Shared->Prop),vs[k]?=some x->src s.heap->st k s.heap ->
  (∀v h' tk,RelV x v->st (k+1) h'->Heap.SameBut i s.heap h'->Q v { s with heap:=h',toks:=tk })->wpAny (model prog w) A (Builtin.SmallTypes.nextOf (.ref i)) Q E s
 done:∀(k:Nat) (s:Shared) (Q:Value->Shared->Prop) (E:Value->Shared->Prop),vs.length<=k->src s.heap->st k s.heap ->
  (∀h' e,Heap.ExtBut i s.heap h'->(∃o,h'.get? e=some o/\o.cls=.type "StopIteration")->E (.ref e) { s with heap:=h' })->wpAny (model prog w) A (Builtin.SmallTypes.nextOf (.ref i)) Q E s
def Sub.list(q:A.handled=none)(i l:Addr)(r:Vals xs its):
  Sub prog w A i [l] (λh=>h.IsList l its.toArray) (λk h=>h.IsListIter i l k) xs where
 sfr:=λh a x k=>x.at λo e=>k l (by simp) o e
 ifr:=λk h a x f=>x.at λo e=>f o e
 item:=λk s x Q E t d b p=>by obtain⟨u,m,g⟩:=r.get t;exact wpAny_nextOf_list_item b d (by simpa using m) λa c j=>p u a s.toks g c j
 done:=λk s Q E y d b n=>by have v:=r.length;exact wpAny_nextOf_list_end q b d (by simp;omega) n
def Sub.tuple(t:A.handled=none)(i l:Addr)(r:Vals xs its):
  Sub prog w A i [l] (λh=>h.IsTuple l its.toArray) (λk h=>h.IsTupleIter i l k) xs where
 sfr:=λh a ⟨o,e,c⟩ k=>⟨o,k l (by simp) o e,c⟩
 ifr:=λk h a ⟨o,e,c⟩ f=>⟨o,f o e,c⟩
 item:=λk s x Q E v g b q=>by obtain⟨u,n,j⟩:=r.get v;exact fu b g (by simpa using n) λa d m=>q u a s.toks j d m
 done:=λk s Q E z g b p=>by have y:=r.length;exact fY t b g (by simp;omega) p
def Sub.strs(u:A.handled=none)(i:Addr)(z:Str)(t:Tok):
  Sub prog w A i [] (λ_=>True) (λk h=>h.IsStrIter i (strIterType z) z t k) (z.cps.toList.map λc=>V.str ⟨#[c]⟩) where
 sfr:=λh g x k=>trivial
 ifr:=λk h g ⟨o,e,c⟩ f=>⟨o,f o e,c⟩
 item:=λk s x Q E l v a j=>by
  rw[aat]at l;cases e:z.cps.toList[k]? with
  |none=>rw[e]at l;cases l
  |some c=>
   rw[e]at l;have p:V.str ⟨#[c]⟩=x:=aaE l;subst p;have d:z.cps[k]?=some c:=by rw[<-aa1];exact e
   unfold strIterType at a j;split at a
   ·rename_i m;rw[if_pos m]at j;exact wpAny_nextOf_ascii_item a d λg b n=>j _ g _ ⟨_,rfl⟩ b n
   ·rename_i m;rw[if_neg m]at j;exact wpAny_nextOf_wide_item a d λg b n=>j _ g _ ⟨_,rfl⟩ b n
 done:=λk s Q E r v a q=>by
  have d:z.cps[k]?=none:=by rw[aaa,aaK]at r;exact acm r
  unfold strIterType at a;split at a
  ·exact wpAny_nextOf_ascii_end u a d q
  ·exact wpAny_nextOf_wide_end u a d q
structure ZApart (z TI TO i1 i2:Addr)(sl1 sl2:List Addr):Prop where
 TIz:TI≠z
 TOz:TO≠z
 i1z:i1≠z
 i2z:i2≠z
 TITO:TI≠TO
 TIi1:TI≠i1
 TIi2:TI≠i2
 TOi1:TO≠i1
 TOi2:TO≠i2
 i12:i1≠i2
 s1:∀b∈sl1,b≠z/\b≠TO/\b≠i1/\b≠i2
 s2:∀b∈sl2,b≠z/\b≠TO/\b≠i1/\b≠i2
section
variable{prog:Program}{w:World}{A:Around}{E:Value->Shared->Prop}{s:Shared}
theorem rC{z O p U T:Addr}{Q:Value->Shared->Prop}(D:ZApart z O p U T sl1 sl2)
  (S1:Sub prog w A U sl1 src1 st1 xs) (S2:Sub prog w A T sl2 src2 st2 ys)
  (hz:IsZip s.heap z O p .none) (c5:IsPair s.heap O (.ref U) (.ref T)) (c6:IsPair s.heap p a b)
  (h1:st1 k s.heap) (h2:st2 k s.heap) (a7:src1 s.heap) (b0:src2 s.heap) (hx:xs[k]?=some x) (hy:ys[k]?=some y)
  (hQ:∀u v h' tk,RelV x u->RelV y v->IsZip h' z O p (rawInt s.heap.objs.size)->IsPair h' p u v->st1 (k+1) h'->st2 (k+1) h'->IsPair h' s.heap.objs.size u v->h'.objs.size=s.heap.objs.size+1 ->
   (∀c o,c≠z->c≠p->c≠U->c≠T->s.heap.get? c=some o->h'.get? c=some o)->Q (.ref s.heap.objs.size) { s with heap:=h',toks:=tk })
  (d1:U<s.heap.objs.size) (d0:T<s.heap.objs.size):
  wpAny (model prog w) A (Builtin.«zip.__next__» ⟨[.ref z],[]⟩) (λb6 s'=>∃v,b6=.done (.ret v)/\Q v s') E s:=by
 show wpAny _ _ (field (.ref z) 2 >>= _) _ _ _;refine ada (adl hz rfl rfl ?_);show wpAny _ _ (field (.ref z) 3 >>= _) _ _ _;refine ada (adl hz rfl rfl ?_);refine ada (adp c5 rfl ?_);show wpAny _ _ (Builtin.SmallTypes.ownedTupleIsFree (.ref z) >>= _) _ _ _;refine ada ?_;unfold Builtin.SmallTypes.ownedTupleIsFree;refine ada (adl hz rfl rfl (adb ?_));simp only[if_true];refine ada (adr ?_);refine ada (adl hz rfl rfl ?_);refine ada (adA hz (by simp) λP t i=>?_);replace t:IsZip P z O p .ellipsis:=t;refine ada ?_;simp only[List.zipIdx_cons,List.zipIdx_nil,acl,List.forIn_nil];refine ada (ada (adO ?_));show wpAny _ _ (Builtin.SmallTypes.nextOf (.ref U) >>= _) _ _ _;refine ada (S1.item k _ x _ _ hx (S1.sfr _ _ a7 λb hb o e=>i.extBut b o (D.s1 b hb).1 e) (S1.ifr _ _ _ h1 λo e=>i.extBut _ o D.i1z e) λu N c0 ru a2 g=>adb ?_);have g:Heap.SameBut U P N:=g;have F:IsPair N p a b:=g.extBut _ _ D.TOi1 (i.extBut _ _ D.TOz c6);refine ada (adp F rfl ?_);refine ada (adW F λJ m f=>?_);replace m:IsPair J p u b:=m;have f:Heap.SameBut p N J:=f;refine ada (wpAny_letGo (adb ?_));refine ada (ada (adO ?_));show wpAny _ _ (Builtin.SmallTypes.nextOf (.ref T) >>= _) _ _ _;refine ada (S2.item k _ y _ _ hy (S2.sfr _ _ b0 λb hb o e=>f.extBut b o (D.s2 b hb).2.1 (g.extBut b o (D.s2 b hb).2.2.1 (i.extBut b o (D.s2 b hb).1 e)))
  (S2.ifr _ _ _ h2 λo e=>f.extBut _ o D.TOi2.symm (g.extBut _ o D.i12.symm (i.extBut _ o D.i2z e))) λv I a6 rv a0 j=>adb ?_)
 have j:Heap.SameBut T J I:=j;have H:IsPair I p u b:=j.extBut _ _ D.TOi2 m;refine ada (adp H rfl ?_);refine ada (adW H λd l h=>?_);replace l:IsPair d p u v:=l;have h:Heap.SameBut p I d:=h;refine ada (wpAny_letGo (adb (adb ?_)));refine ada (adp l rfl ?_);refine ada (wpAny_newTuple ?_);have a3:d.objs.size=s.heap.objs.size:=by rw[h.1,j.1,f.1,g.1,i.1]
 have L:IsZip d z O p .ellipsis:=h.extBut _ _ D.TOz.symm (j.extBut _ _ D.i2z.symm (f.extBut _ _ D.TOz.symm (g.extBut _ _ D.i1z.symm t)));have a1:∀c o,c≠z->c≠p->c≠U->c≠T->s.heap.get? c=some o->d.get? c=some o:=λc o Y c2 c3 c4 e=>
  h.extBut _ _ c2 (j.extBut _ _ c4 (f.extBut _ _ c2 (g.extBut _ _ c3 (i.extBut _ _ Y e))))
 have W:st1 (k+1) d:=S1.ifr _ _ _ a2 λo e=>h.extBut _ o D.TOi1.symm (j.extBut _ o D.i12 (f.extBut _ o D.TOi1.symm e));have Z:st2 (k+1) d:=S2.ifr _ _ _ a0 λo e=>h.extBut _ o D.TOi2.symm e;have S:z<d.objs.size:=adc L;show wpAny _ _ (Builtin.SmallTypes.ownedTupleHandOut (.ref z) (.ref d.objs.size) >>= _) _ _ _;refine ada ?_;unfold Builtin.SmallTypes.ownedTupleHandOut;have X:IsZip (d.push { cls:=.type "tuple",data:=.seq #[u,v] }) z O p .ellipsis:=ade _ L;refine ada (adA X (by simp) λa5 C r=>?_);replace C:IsZip a5 z O p (rawInt d.objs.size):=C;refine adA C (by simp) λq n B=>?_;replace n:IsZip q z O p (rawInt d.objs.size):=n;have up:∀c o,c≠z->d.get? c=some o->q.get? c=some o:=λc o Y e=>B.extBut _ _ Y (r.extBut _ _ Y (ade _ e));have M:IsPair q d.objs.size u v:=B.extBut _ _ (aaL S) (r.extBut _ _ (aaL S) (adf _ rfl));have a4:q.objs.size=d.objs.size+1:=by rw[B.1,r.1,adg]
 rw[a3]at n M a4;refine adb ⟨_,rfl,?_⟩;show Q (.ref d.objs.size) _;rw[a3];exact hQ u v q _ ru rv n (up _ _ D.TOz l) (S1.ifr _ _ _ W λo e=>up _ o D.i1z e) (S2.ifr _ _ _ Z λo e=>up _ o D.i2z e) M a4 λc o Y c2 c3 c4 e=>up c o Y (a1 c o Y c2 c3 c4 e)
theorem tL{z I B H J:Addr}{Q:Fin->Shared->Prop}(D:ZApart z I B H J sl1 sl2)
  (T:Sub prog w A H sl1 src1 st1 xs) (U:Sub prog w A J sl2 src2 st2 ys)
  (N:IsZip s.heap z I B .none) (a1:IsPair s.heap I (.ref H) (.ref J)) (a2:IsPair s.heap B a b)
  (h1:st1 k s.heap) (h2:st2 k s.heap) (W:src1 s.heap) (Z:src2 s.heap) (M:xs.length<=k\/ys.length<=k)
  (hE:∀h' tk e,(∀c o,c≠z->c≠B->c≠H->c≠J->s.heap.get? c=some o->h'.get? c=some o)->(∃o,h'.get? e=some o/\o.cls=.type "StopIteration")->E (.ref e) { s with heap:=h',toks:=tk }):
  wpAny (model prog w) A (Builtin.«zip.__next__» ⟨[.ref z],[]⟩) Q E s:=by
 show wpAny _ _ (field (.ref z) 2 >>= _) _ _ _;refine ada (adl N rfl rfl ?_);show wpAny _ _ (field (.ref z) 3 >>= _) _ _ _;refine ada (adl N rfl rfl ?_);refine ada (adp a1 rfl ?_);show wpAny _ _ (Builtin.SmallTypes.ownedTupleIsFree (.ref z) >>= _) _ _ _;refine ada ?_;unfold Builtin.SmallTypes.ownedTupleIsFree;refine ada (adl N rfl rfl (adb ?_));simp only[if_true];refine ada (adr ?_);refine ada (adl N rfl rfl ?_);refine ada (adA N (by simp) λm j g=>?_);replace j:IsZip m z I B .ellipsis:=j;refine ada ?_;simp only[List.zipIdx_cons,List.zipIdx_nil,acl,List.forIn_nil];refine ada (ada (adO ?_));show wpAny _ _ (Builtin.SmallTypes.nextOf (.ref H) >>= _) _ _ _;have l1:src1 m:=T.sfr _ _ W λb O o e=>g.extBut b o (D.s1 b O).1 e;have t1:st1 k m:=T.ifr _ _ _ h1 λo e=>g.extBut _ o D.i1z e;by_cases hx:xs.length<=k
 ·refine ada (T.done k _ _ _ hx l1 t1 λi e d Y=>?_);have d:Heap.ExtBut H m i:=d;obtain⟨oe,n,t⟩:=Y;have y:IsZip i z I B .ellipsis:=d _ _ D.i1z.symm j;have F:e≠z:=λx=>by subst x;rw[y]at n;cases n;simp at t
  refine adA y (by simp) λq _ f=>hE q _ e (λc o L _ c3 _ x=>f.extBut _ _ L (d _ _ c3 (g.extBut _ _ L x))) ⟨oe,f.extBut _ _ F n,t⟩
 ·have hy:ys.length<=k:=by rcases M with h|h;exact absurd h hx;exact h
  obtain⟨x,X⟩:∃x,xs[k]?=some x:=⟨_,aap (Nat.lt_of_not_le hx)⟩
  refine ada (T.item k _ x _ _ X l1 t1 λu i a0 ru a3 d=>adb ?_);have d:Heap.SameBut H m i:=d;have p:IsPair i B a b:=d.extBut _ _ D.TOi1 (g.extBut _ _ D.TOz a2);refine ada (adp p rfl ?_);refine ada (adW p λq S f=>?_);have f:Heap.SameBut B i q:=f;refine ada (wpAny_letGo (adb ?_));refine ada (ada (adO ?_));show wpAny _ _ (Builtin.SmallTypes.nextOf (.ref J) >>= _) _ _ _;refine ada (U.done k _ _ _ hy (U.sfr _ _ Z λb O o e=>f.extBut b o (D.s2 b O).2.1 (d.extBut b o (D.s2 b O).2.2.1 (g.extBut b o (D.s2 b O).1 e)))
   (U.ifr _ _ _ h2 λo e=>f.extBut _ o D.TOi2.symm (d.extBut _ o D.i12.symm (g.extBut _ o D.i2z e))) λC e l Y=>?_)
  have l:Heap.ExtBut J q C:=l;obtain⟨oe,n,t⟩:=Y;have r:IsZip C z I B .ellipsis:=l _ _ D.i2z.symm (f.extBut _ _ D.TOz.symm (d.extBut _ _ D.i1z.symm j));have F:e≠z:=λx=>by subst x;rw[r]at n;cases n;simp at t
  refine adA r (by simp) λP _ v=>hE P _ e (λc o L c2 c3 c4 x=>v.extBut _ _ L (l _ _ c4 (f.extBut _ _ c2 (d.extBut _ _ c3 (g.extBut _ _ L x))))) ⟨oe,v.extBut _ _ F n,t⟩
def nq{z g d f e:Addr}(D:ZApart z g d f e sl1 sl2)
  (P:Sub prog w A.in1 f sl1 src1 st1 xs) (J:Sub prog w A.in1 e sl2 src2 st2 ys)
  (q:IsZip s.heap z g d .none) (m:IsPair s.heap g (.ref f) (.ref e)) (n:IsPair s.heap d a b)
  (W:st1 k s.heap) (H:st2 k s.heap) (h:src1 s.heap) (i:src2 s.heap) (X:xs[k]?=some x) (B:ys[k]?=some y)
  (T:∀u v h' l,RelV x u->RelV y v->IsZip h' z g d (rawInt s.heap.objs.size)->IsPair h' d u v->st1 (k+1) h'->st2 (k+1) h'->IsPair h' s.heap.objs.size u v->h'.objs.size=s.heap.objs.size+1 ->
   (∀c o,c≠z->c≠d->c≠f->c≠e->s.heap.get? c=some o->h'.get? c=some o)->Q (some (.ref s.heap.objs.size)) { s with heap:=h',toks:=l })
  (p:f<s.heap.objs.size) (j:e<s.heap.objs.size):
  wpAny (model prog w) A (pyNext (.ref z)) Q E s:=by
 have r:s.TypeIs (.ref z) "zip":=⟨_,q,rfl⟩
 unfold pyNext;exact ada (adP (adz r adQ
  (ads adQ r F.entry_zip_next
   (rC D P J q m n W H h i X B (λu v h' l N U I t O S M C L=>adb (T u v h' l N U I t O S M C L)) p j) (F.args_zip_next_1 _))))
def rD{z i f h g:Addr}(D:ZApart z i f h g sl1 sl2)
  (y:Sub prog w A.in1 h sl1 src1 st1 xs) (u:Sub prog w A.in1 g sl2 src2 st2 ys)
  (q:IsZip s.heap z i f .none) (m:IsPair s.heap i (.ref h) (.ref g)) (n:IsPair s.heap f a b)
  (I:st1 k s.heap) (t:st2 k s.heap) (j:src1 s.heap) (l:src2 s.heap) (d:xs.length<=k\/ys.length<=k)
  (H:∀h' p,(∀c o,c≠z->c≠f->c≠h->c≠g->s.heap.get? c=some o->h'.get? c=some o)->Q none { s with heap:=h',toks:=p }):wpAny (model prog w) A (pyNext (.ref z)) Q E s:=by
 have r:s.TypeIs (.ref z) "zip":=⟨_,q,rfl⟩
 unfold pyNext;refine ada (adP (adz r adQ
  (ads adQ r F.entry_zip_next (tL D y u q m n I t j l d λh' p e C v=>?_) (F.args_zip_next_1 _))))
 obtain⟨o,x,B⟩:=v;refine ada (adX ⟨o,x,B⟩ isSubtype_stop ?_);exact adb (H _ _ C)
end
end
section
def G5(K:Waa)(a b:ZS):It:=
 ⟨λi H=>a.ok K H/\b.ok K H/\i<a.items.length/\i<b.items.length,
  λi H v c=>∃T x y,a.items[i]?=some x/\b.items[i]?=some y/\H T=none/\v=.ref T/\c=upd H T (.tup [x,y]),
  λi H=>a.ok K H/\b.ok K H/\(a.items.length<=i\/b.items.length<=i)⟩
def ZS.z3:ZS->Value->Obj
 |.lst _ _,v=>{ cls:=.type "list_iterator",data:=.fields #[v,.int 0 0] }
 |.tup _ _,v=>{ cls:=.type "tuple_iterator",data:=.fields #[v,.int 0 0] }
 |.str z,v=>{ cls:=.type (strIterType z),data:=.fields #[v,.int 0 0] }
def ZS.st(a:ZS)(v:Value)(i:Addr)(k:Nat)(h:Heap):Prop:=match a,v with
 |.lst l _,_=>h.IsListIter i l k
 |.tup l _,_=>h.IsTupleIter i l k
 |.str z,.str _ t=>h.IsStrIter i (strIterType z) z t k
 |.str _,_=>False
def ZS.sl:ZS->List Addr
 |.lst l _=>[l]
 |.tup l _=>[l]
 |.str _=>[]
theorem ZS.oo{a:ZS}(x:a.st v i k h):∃o,h.get? i=some o/\∀c,o.data≠.cell c:=by
 cases a with
 |lst l b=>obtain⟨o,e,c,d⟩:=(show h.IsListIter i l k from x);exact⟨o,e,λv z=>by rw[d]at z;cases z⟩
 |tup l b=>obtain⟨o,e,c,d⟩:=(show h.IsTupleIter i l k from x);exact⟨o,e,λv z=>by rw[d]at z;cases z⟩
 |str z=>
  cases v with
  |str y t=>obtain⟨o,e,c,d⟩:=(show h.IsStrIter i (strIterType z) z t k from x);exact⟨o,e,λv z=>by rw[d]at z;cases z⟩
  |_=>exact False.elim x
theorem ZS.il{a:ZS}(x:a.st v i k h)(f:∀o,h.get? i=some o->h'.get? i=some o):a.st v i k h':=by
 cases a with
 |lst l b=>obtain⟨o,e,c⟩:=(show h.IsListIter i l k from x);exact⟨o,f o e,c⟩
 |tup l b=>obtain⟨o,e,c⟩:=(show h.IsTupleIter i l k from x);exact⟨o,f o e,c⟩
 |str z=>
  cases v with
  |str y t=>obtain⟨o,e,c⟩:=(show h.IsStrIter i (strIterType z) z t k from x);exact⟨o,f o e,c⟩
  |_=>exact False.elim x
section
variable{X:Cx}{pins:List (Addr×Obj)}{σ:St}{H:Hp}{s:Shared}
def ZS.sub(a:ZS)(I:Inv X pins σ H s)(c:a.ok X.K H)(x:RelV a.val v)(A:Around)(q:A.handled=none)(i:Addr):
  ∃f:Heap->Prop,f s.heap/\Sub X.prog X.w A i a.sl f (a.st v i) a.items/\(∀b∈a.sl,∃o,s.heap.get? b=some o/\(H b≠none\/X.base.get? b=some o)):=by
 cases a with
 |lst l k=>
  have c:SqL X.K H l k:=c;obtain⟨m,r,p,u⟩:=I.list c;refine⟨_,p.isList,Sub.list q i l r,λb j=>?_⟩;have e:b=l:=by simpa[ZS.sl] using j
  subst e;rcases c with (h|⟨o,h⟩)|⟨o,d,n,g,_⟩
  ·obtain⟨_,_,_,_,e⟩:=I.hok _ _ h;exact⟨_,e,.inl (by rw[h];simp)⟩
  ·obtain⟨e,_⟩:=I.hok _ _ h;exact⟨_,e,.inl (by rw[h];simp)⟩
  ·exact⟨o,I.rz _ _ g,.inr (I.ok.mod.kin _ _ g)⟩
 |tup l k=>
  have c:SqT X.K H l k:=c;obtain⟨m,r,p,u⟩:=I.tuple c;refine⟨_,p,Sub.tuple q i l r,λb j=>?_⟩;have e:b=l:=by simpa[ZS.sl] using j
  subst e;rcases c with (h|⟨o,h⟩)|⟨o,d,n,g,_⟩
  ·obtain⟨_,_,_,o,e,_⟩:=I.hok _ _ h;exact⟨_,e,.inl (by rw[h];simp)⟩
  ·obtain⟨e,_⟩:=I.hok _ _ h;exact⟨_,e,.inl (by rw[h];simp)⟩
  ·exact⟨o,I.rz _ _ g,.inr (I.ok.mod.kin _ _ g)⟩
 |str z=>obtain⟨t,rfl⟩:=x;exact⟨_,trivial,Sub.strs q i z t,λb j=>by simp[ZS.sl]at j⟩
end
def aL{a:ZS}(I:Inv X pins σ H s)(f:FpOk X pins H b)(h:∀c∈a.sl,∃o,s.heap.get? c=some o/\(H c≠none\/X.base.get? c=some o)):∀c∈a.sl,c≠b:=by
 intro c d e;subst e;obtain⟨o,_,q⟩:=h c d;rcases q with q|q
 ·exact q f.1
 ·rcases f.2.2.2.1 with z|z
  ·exact I.ok.noex c o q z
  ·exact absurd (aay (adc q) (aav I.ok.bsz z)) (aaT _)
structure ZRec (z TI TO i1 i2:Addr):Prop where
 TIz:TI≠z
 TOz:TO≠z
 i1z:i1≠z
 i2z:i2≠z
 TITO:TI≠TO
 TIi1:TI≠i1
 TIi2:TI≠i2
 TOi1:TO≠i1
 TOi2:TO≠i2
 i12:i1≠i2
def Inv.h7{t':Nat}{g:List Addr}(I:Inv X pins σ H s)(k:∀b o,b ∉ g->s.heap.get? b=some o->h'.get? b=some o)(f:∀b∈g,FpOk X pins H b)
  : Inv X pins σ H { s with heap:=h',toks:=t' }:=by
 have d:∀b u,H b=some u->b ∉ g:=λb u e z=>by rw[(f b z).1]at e;cases e
 refine I.step (λb x=>?_) (λb o _ _ a e _=>k b o a e) (λb o _ _ a e _=>⟨o.slots,k b o a e⟩) (λ_ _ _ _ n=>n)
  (λb o a e=>⟨o,k b o a e⟩) (λ_ _ e=>e) (λ_ _ _ e=>e) (λb B e=>⟨#[],by rw[e];simp⟩) (λm j=>?_) (λb u e=>?_) I.bare
 ·obtain⟨C,w,A,p,t,y⟩:=f b x;exact⟨p,w,t,y⟩
 ·obtain⟨o,i,h,l,r⟩:=j;exact⟨o,i,h,k _ o (λz=>(f _ z).2.1 rfl) l,r⟩
 ·refine(I.hok b u e).p9 (λc v a q=>k c v ?_ q) (λ_ q=>q) λ_ _ q=>q;rcases a with z|z
  ·rw[z];exact d b u e
  ·exact d c _ z
theorem tM{P:Program}{w:World}{K:Waa}{es:List Expr}{x1}{pos:Pos}(a b:ZS)(va vb:Value)(ra:RelV a.val va)(rb:RelV b.val vb)(z TI TO i1 i2:Addr)(R:ZRec z TI TO i1 i2):
  Turn P w K (.Tuple es x1 pos) (G5 K a b) [z,TI,TO,i1,i2] z
   (λi h=>IsZip h z TI TO .none/\IsPair h TI (.ref i1) (.ref i2)/\(∃p q,IsPair h TO p q)/\a.st va i1 i h/\b.st vb i2 i h) where
 mem:=by simp
 obj:=λi h ⟨C,F,⟨p,q,L⟩,J,M⟩ c d=>by
  simp only[aac,aan,or_false]at d;rcases d with rfl|rfl|rfl|rfl|rfl
  ·exact⟨_,C,λv z=>by cases z⟩
  ·exact⟨_,F,λv z=>by cases z⟩
  ·exact⟨_,L,λv z=>by cases z⟩
  ·exact ZS.oo J
  ·exact ZS.oo M
 keep:=λi h h' ⟨C,F,⟨p,q,L⟩,J,M⟩ k=>
  ⟨k z (by simp) _ C,k TI (by simp) _ F,⟨p,q,k TO (by simp) _ L⟩,ZS.il J (λo e=>k i1 (by simp) o e),ZS.il M (λo e=>k i2 (by simp) o e)⟩
 item:=by
  intro X hP hw hK d i t s σ H E I g ⟨C,F,⟨p,q,L⟩,J,M⟩ hg;subst hP hw hK;obtain⟨N,O,la,lb⟩:=hg;have hh:X.A.in1.handled=none:=I.ok.hd d;obtain⟨a3,Q,S1,j⟩:=a.sub I N ra X.A.in1 hh i1;obtain⟨a2,S,S2,l⟩:=b.sub I O rb X.A.in1 hh i2;obtain⟨x,hx⟩:∃x,a.items[i]?=some x:=⟨_,aap la⟩
  obtain⟨y,hy⟩:∃y,b.items[i]?=some y:=⟨_,aap lb⟩
  have D:ZApart z TI TO i1 i2 a.sl b.sl:=⟨R.TIz,R.TOz,R.i1z,R.i2z,R.TITO,R.TIi1,R.TIi2,R.TOi1,R.TOi2,R.i12,
   λc d=>⟨aL I (g z (by simp)) j c d,aL I (g TO (by simp)) j c d,aL I (g i1 (by simp)) j c d,aL I (g i2 (by simp)) j c d⟩,
   λc d=>⟨aL I (g z (by simp)) l c d,aL I (g TO (by simp)) l c d,aL I (g i1 (by simp)) l c d,aL I (g i2 (by simp)) l c d⟩⟩
  have fl:∀c∈([z,TI,TO,i1,i2]:List Addr),c<s.heap.objs.size:=λc d=>by
   simp only[aac,aan,or_false]at d;rcases d with rfl|rfl|rfl|rfl|rfl
   ·exact adc C
   ·exact adc F
   ·exact adc L
   ·obtain⟨o,e,_⟩:=ZS.oo J;exact adc e
   ·obtain⟨o,e,_⟩:=ZS.oo M;exact adc e
  refine nq D S1 S2 C F L J M Q S hx hy (λu v h' tk ru rv a6 a0 a4 a1 hT b0 hk=>?_) (fl i1 (by simp)) (fl i2 (by simp));refine⟨.ref s.heap.objs.size,rfl,?_⟩;refine wpAny_letOwnedTupleGo_zip a6 λB Y f=>?_;have f:Heap.SameBut z h' B:=f;have Z:∀c o,c ∉ ([z,TI,TO,i1,i2]:List Addr)->s.heap.get? c=some o->B.get? c=some o:=λc o d e=>by simp only[aac,aan,or_false,not_or]at d;exact f.extBut _ _ d.1 (hk c o d.1 d.2.2.1 d.2.2.2.1 d.2.2.2.2 e)
  have T:H s.heap.objs.size=none:=I.hok.fresh (aag _);have I1:Inv X t σ H { s with heap:=B,toks:=tk }:=I.h7 Z g;have a5:s.heap.objs.size≠z:=aaL (fl z (by simp));have W:IsPair B s.heap.objs.size u v:=f.extBut _ _ a5 hT;have I2:Inv X t σ (upd H s.heap.objs.size (.tup [x,y])) { s with heap:=B,toks:=tk }:=by
   refine I.step (g':=s.gens) (d':=s.drawn) (ch:=[z,TI,TO,i1,i2]) (λb hb=>?_) (λb o _ _ d e _=>Z b o d e) (λb o _ _ d e _=>⟨o.slots,Z b o d e⟩) (λb o d e n=>?_)
    (λb o d e=>⟨o,Z b o d e⟩) (λb ys e=>?_) (λb o u e=>?_) (λb ps e=>⟨#[],?_⟩) (λm hm=>?_) (λb o e=>?_) I.bare
   ·obtain⟨f0,f1,f2,f3,f4,f5⟩:=g b hb;exact⟨f3,f1,f4,f5⟩
   ·rw[upd_ne (aar (adc e))];exact n
   ·rw[upd_ne (av e T)];exact e
   ·rw[upd_ne (av e T)];exact e
   ·rw[upd_ne (av e T),e];simp
   ·obtain⟨o,a7,ep,ho,r⟩:=hm;exact⟨o,a7,ep,Z _ o (λz=>(g _ z).2.1 rfl) ho,r⟩
   ·by_cases hb:b=s.heap.objs.size
    ·subst hb;rw[ar]at e;cases e;exact⟨(by show 2<=sizeLine;decide),[u,v],.cons ru (.cons rv .nil),⟨_,W,rfl,_,rfl,rfl⟩⟩
    ·rw[upd_ne hb]at e;refine(I1.hok b o e).p9 (λc v d q=>q) (λc q=>by rw[upd_ne (av q T)];exact q) λc ys q=>by rw[upd_ne (av q T)];exact q
  refine⟨.ref s.heap.objs.size,_,I2,rfl,⟨_,x,y,hx,hy,T,rfl,rfl⟩,⟨Y,?_,⟨u,v,f.extBut _ _ R.TOz a0⟩,ZS.il a4 (λo e=>f.extBut _ _ R.i1z e),ZS.il a1 (λo e=>f.extBut _ _ R.i2z e)⟩,λc d=>?_⟩
  ·exact f.extBut _ _ R.TIz (hk _ _ R.TIz R.TITO R.TIi1 R.TIi2 F)
  ·rw[upd_ne (aar (fl c d))];exact(g c d).1
 done:=by
  intro X hP hw hK d i t s σ H E I g ⟨C,F,⟨p,q,L⟩,J,M⟩ hg;subst hP hw hK;obtain⟨N,O,U⟩:=hg;have hh:X.A.in1.handled=none:=I.ok.hd d;obtain⟨a3,Q,S1,j⟩:=a.sub I N ra X.A.in1 hh i1;obtain⟨a2,S,S2,l⟩:=b.sub I O rb X.A.in1 hh i2;have D:ZApart z TI TO i1 i2 a.sl b.sl:=⟨R.TIz,R.TOz,R.i1z,R.i2z,R.TITO,R.TIi1,R.TIi2,R.TOi1,R.TOi2,R.i12,
   λc d=>⟨aL I (g z (by simp)) j c d,aL I (g TO (by simp)) j c d,aL I (g i1 (by simp)) j c d,aL I (g i2 (by simp)) j c d⟩,
   λc d=>⟨aL I (g z (by simp)) l c d,aL I (g TO (by simp)) l c d,aL I (g i1 (by simp)) l c d,aL I (g i2 (by simp)) l c d⟩⟩
  refine rD D S1 S2 C F L J M Q S U λh' tk hk=>⟨rfl,I.h7 (λc o d e=>?_) g⟩
  simp only[aac,aan,or_false,not_or]at d;exact hk c o d.1 d.2.2.1 d.2.2.2.1 d.2.2.2.2 e
 self:=λ_ _ _ _ _ ⟨C,_⟩ h=>wpAny_pyIter_zip C h
theorem g9(m i:Value)(o1 o2:Obj)(c a:Heap->Prop)(k:∀h o,a h->a (h.push o))
  (u:∀(prog:Program) (w:World) (A:Around) (E:Value->Shared->Prop) (s:Shared) (Q:Value->Shared->Prop),c s.heap->Q (.ref s.heap.objs.size) { s with heap:=s.heap.push o1 }->wpAny (model prog w) A (pyIter m) Q E s)
  (t:∀(prog:Program) (w:World) (A:Around) (E:Value->Shared->Prop) (s:Shared) (Q:Value->Shared->Prop),a s.heap->Q (.ref s.heap.objs.size) { s with heap:=s.heap.push o2 }->wpAny (model prog w) A (pyIter i) Q E s):
  Meets (Builtin.«zip.__new__» ⟨[.type "zip",m,i],[]⟩) (λ_ R s=>c s.heap/\a s.heap /\
   R (.ok (.ret (.ref ((((s.heap.push o1).push o2).push { cls:=.type "tuple",data:=.seq #[.ref s.heap.objs.size,.ref (s.heap.push o1).objs.size] }).push { cls:=.type "tuple",data:=.seq #[.none,.none] }).objs.size)))
    { s with heap:=((((s.heap.push o1).push o2).push { cls:=.type "tuple",data:=.seq #[.ref s.heap.objs.size,.ref (s.heap.push o1).objs.size] }).push { cls:=.type "tuple",data:=.seq #[.none,.none] }).push { cls:=.type "zip",data:=.fields #[.none,.bool false,.bool false,.ref ((s.heap.push o1).push o2).objs.size,.ref (((s.heap.push o1).push o2).push { cls:=.type "tuple",data:=.seq #[.ref s.heap.objs.size,.ref (s.heap.push o1).objs.size] }).objs.size] } }):=
 .of_wp λprog w A R s h=>by
  obtain⟨b,g,d,f,e⟩:=s;obtain⟨j,l,h⟩:=h;have p:=sub_zip;have q:∀{A:Around}{E:Value->Shared->Prop}{Q:Value->Shared->Prop},Q (.ref b.objs.size) ⟨b.push o1,g,d,f,e⟩->wpAny (model prog w) A (pyIter m) Q E ⟨b,g,d,f,e⟩:=λn=>u _ _ _ _ ⟨b,g,d,f,e⟩ _ j n;have r:∀{A:Around}{E:Value->Shared->Prop}{Q:Value->Shared->Prop},Q (.ref (b.push o1).objs.size) ⟨(b.push o1).push o2,g,d,f,e⟩->wpAny (model prog w) A (pyIter i) Q E ⟨b.push o1,g,d,f,e⟩:=λn=>t _ _ _ _ ⟨b.push o1,g,d,f,e⟩ _ (k _ _ l) n
  wp_walk using q,r
  exact⟨_,rfl,h⟩
end
section
def boot_zip:bootBuiltins "zip"=some (.type "zip"):=by decide +kernel
section
variable{X:Cx}
def ZS.iter(a:ZS)(I:Inv X pins σ H s)(f:a.ok X.K H)(e:RelV a.val v):
  ∃b:Heap->Prop,b s.heap/\(∀h o,b h->b (h.push o)) /\
   ∀(prog:Program) (w:World) (A:Around) (E:Value->Shared->Prop) (s:Shared) (Q:Value->Shared->Prop),b s.heap->Q (.ref s.heap.objs.size) { s with heap:=s.heap.push (a.z3 v) }->wpAny (model prog w) A (pyIter v) Q E s:=by
 cases a with
 |lst l d=>obtain⟨c,r,p,g⟩:=I.list (show SqL X.K H l d from f);cases e;exact⟨λh=>h.IsList l c.toArray,p.isList,λh o x=>x.push o,λprog w A E s Q h q=>adH h q⟩
 |tup l d=>obtain⟨c,r,p,g⟩:=I.tuple (show SqT X.K H l d from f);cases e;exact⟨λh=>h.IsTuple l c.toArray,p,λh o x=>x.push o,λprog w A E s Q h q=>adT h q⟩
 |str z=>obtain⟨t,rfl⟩:=e;exact⟨λ_=>True,trivial,λ_ _ _=>trivial,λprog w A E s Q _ q=>wpAny_pyIter_strU q⟩
def ZS.st0(a:ZS)(b:RelV a.val v)(e:h.get? i=some (a.z3 v)):a.st v i 0 h:=by
 cases a with
 |lst l c=>cases b;exact⟨_,e,rfl,rfl⟩
 |tup l c=>cases b;exact⟨_,e,rfl,rfl⟩
 |str z=>obtain⟨t,rfl⟩:=b;exact⟨_,e,rfl,rfl⟩
def lF(a:ZS)(v:Value):(a.z3 v).isFreed=false:=by cases a<;>rfl
def G6(K:Waa)(e:TA):TI:=λd H R=>e d H λf c=>∃a b:ZS,f=[a.val,b.val]/\a.ok K c/\b.ok K c/\R (G5 K a b) c
def addNe(h:i≠j):(n+i:Addr)≠n+j:=λe=>h (acN e)
def addNe0(h:i≠0):(n+i:Addr)≠n:=λe=>h (acN e)
theorem Be{es:List Expr}{x1}{t:Pos}{a b:Expr}{p pos:Pos} (hg:Gl X "zip") (hm:X.mg "zip"=none) (ha:PA X [a,b] ta) (hs:starEach [a,b] X.env=[(false,eval a X.env),(false,eval b X.env)]:=by rfl) (m:starEach [b] X.env=[(false,eval b X.env)]:=by rfl):
  PI X (.Tuple es x1 t) (.Call (.Name "zip" p) [a,b] [] pos) (G6 X.K ta):=by
 intro f s N H R I h;refine Call_ (fU I hg hm boot_zip (abQ (thn (ha pos f s N H _ I h) λus d hZ=>?_) (by rw[hs,m]) (by rw[m];rfl)));obtain⟨vs,S,j,r1,q1⟩:=hZ;obtain⟨g,i,e,A,D,q⟩:=q1;subst e;obtain⟨l,r,rfl,B,v⟩:=r1.two;obtain⟨u,h1,_,p1⟩:=g.iter j A B;obtain⟨k,Y,y,p2⟩:=i.iter j D v;refine callType_new F.called_zip (by decide) (F.typeCall_zip_2 _ _) (F.newCall_zip_2 _ _) (λz=>F.args_object_init_3 z _ _) F.entry_zip_new
  (g9 l r (g.z3 l) (i.z3 r) u k y p1 p2) ⟨h1,Y,?_⟩
 generalize hA:d.heap.push (g.z3 l)=A1;generalize hB:A1.push (i.z3 r)=A2;generalize hC:A2.push { cls:=.type "tuple",data:=.seq #[.ref d.heap.objs.size,.ref A1.objs.size] }=A3;generalize hD:A3.push { cls:=.type "tuple",data:=.seq #[.none,.none] }=A4;generalize hE:A4.push { cls:=.type "zip",data:=.fields #[.none,.bool false,.bool false,.ref A2.objs.size,.ref A3.objs.size] }=A5;have C:A1.objs.size=d.heap.objs.size+1:=by rw[<-hA];exact adg ..
 have x:A2.objs.size=d.heap.objs.size+2:=by rw[<-hB,adg,C]
 have w:A3.objs.size=d.heap.objs.size+3:=by rw[<-hC,adg,x]
 have M:A4.objs.size=d.heap.objs.size+4:=by rw[<-hD,adg,w]
 have T:A5.get? A4.objs.size=some { cls:=.type "zip",data:=.fields #[.none,.bool false,.bool false,.ref A2.objs.size,.ref A3.objs.size] }:=by rw[<-hE];exact adf _ rfl
 have O:∀c o,A4.get? c=some o->A5.get? c=some o:=λc o e=>by rw[<-hE];exact ade _ e
 have J:∀c o,A3.get? c=some o->A5.get? c=some o:=λc o e=>O c o (by rw[<-hD];exact ade _ e);have P:∀c o,A2.get? c=some o->A5.get? c=some o:=λc o e=>J c o (by rw[<-hC];exact ade _ e);have Q:∀c o,A1.get? c=some o->A5.get? c=some o:=λc o e=>P c o (by rw[<-hB];exact ade _ e);have u1:∀c o,d.heap.get? c=some o->A5.get? c=some o:=λc o e=>Q c o (by rw[<-hA];exact ade _ e);have g4:A5.get? A3.objs.size=some { cls:=.type "tuple",data:=.seq #[.none,.none] }:=O _ _ (by rw[<-hD];exact adf _ rfl);have W:A5.get? A2.objs.size=some { cls:=.type "tuple",data:=.seq #[.ref d.heap.objs.size,.ref A1.objs.size] }:=J _ _ (by rw[<-hC];exact adf _ rfl);have Z:A5.get? A1.objs.size=some (i.z3 r):=P _ _ (by rw[<-hB];exact adf _ (lF _ _));have g1:A5.get? d.heap.objs.size=some (g.z3 l):=Q _ _ (by rw[<-hA];exact adf _ (lF _ _));refine⟨⟨_,T,rfl⟩,?_⟩;have L:IsZip A5 A4.objs.size A2.objs.size A3.objs.size .none:=T;refine wpAny_pyIter_zip L ?_;have R:ZRec A4.objs.size A2.objs.size A3.objs.size d.heap.objs.size A1.objs.size:=by rw[C,x,w,M];refine⟨?_,?_,?_,?_,?_,?_,?_,?_,?_,?_⟩<;>first|exact addNe (by decide)|exact addNe0 (by decide)|exact(addNe0 (by decide)).symm
 have I5:Inv X f N S { d with heap:=A5 }:=j.kept u1;refine⟨A4.objs.size,[A4.objs.size,A2.objs.size,A3.objs.size,d.heap.objs.size,A1.objs.size],_,_,S,rfl,I5,tM g i l r B v _ _ _ _ _ R,
  ⟨L,W,⟨_,_,g4⟩,g.st0 B g1,i.st0 v Z⟩,λb U=>?_,q⟩
 have n:d.heap.objs.size<=b:=by simp only[aac,aan,or_false]at U;rcases U with rfl|rfl|rfl|rfl|rfl<;>first|exact aag _|(rw[M];exact abi _ _)|(rw[w];exact abi _ _)|(rw[x];exact abi _ _)|(rw[C];exact abi _ _)
 exact j.ub n (j.hok.fresh n)
end
section
variable{X:Cx}
def xq:∀{us:List Value},Vals (a.map V.bl) us->LSm.BoolsAre us a:=by
 induction a with
 |nil=>intro us r;rw[aaC]at r;cases r;exact .nil
 |cons b a e=>
  intro us r;rw[aam]at r;cases r with
  |cons c d=>cases c;exact .cons b (e d)
end
end
section
mutual
inductive Dt (K:Waa)(H:Hp):V->PyData->Prop
 |non:Dt K H .non .none
 |bl (b:Bool):Dt K H (.bl b) (.bool b)
 |int (i:Int):Dt K H (.int i) (.int i)
 |str (x:Str):Dt K H (.str x) (.str x)
 |lst {a xs ds}:SqL K H a xs->DtAll K H xs ds->Dt K H (.ref a) (.list ds)
 |tup {a xs ds}:SqT K H a xs->DtAll K H xs ds->Dt K H (.ref a) (.tuple ds)
inductive DtAll (K:Waa)(H:Hp):List V->List PyData->Prop
 |nil:DtAll K H [] []
 |cons {x d xs ds}:Dt K H x d->DtAll K H xs ds->DtAll K H (x::xs) (d::ds)
end
def DtAll.length{K:Waa}(h:DtAll K H xs ds):xs.length=ds.length:=by
 induction xs generalizing ds with
 |nil=>cases h;rfl
 |cons v b a=>cases h with|cons _ t=>rw[aaw,aaw,a t]
theorem DtAll.ints{K:Waa}:∀(ns:List Int),DtAll K H (ns.map V.int) (ns.map PyData.int)
 |[]=>.nil
 |n::ns=>.cons (.int n) (DtAll.ints ns)
def Same.tupS{K:Waa}{H b:Hp}(e:Same H b)(h:SqT K H a xs):SqT K b a xs:=by
 rcases h with (h|⟨o,h⟩)|h
 ·exact .inl (.inl (e _ _ h))
 ·exact .inl (.inr ⟨o,e _ _ h⟩)
 ·exact .inr h
def Dt.ind{K:Waa}{P:V->PyData->Prop}{Q:List V->List PyData->Prop}(c:P .non .none)(l:∀b,P (.bl b) (.bool b))(e:∀i,P (.int i) (.int i))(k:∀x,P (.str x) (.str x))
  (f:∀{a xs ds},SqL K H a xs->Q xs ds->P (.ref a) (.list ds)) (g:∀{a xs ds},SqT K H a xs->Q xs ds->P (.ref a) (.tuple ds)) (nil:Q [] []) (cons:∀{x d xs ds},P x d->Q xs ds->Q (x::xs) (d::ds)):
  (∀{v d},Dt K H v d->P v d)/\∀{vs ds},DtAll K H vs ds->Q vs ds:=
 ⟨λh=>Dt.rec c l e k (λh _ i=>f h i) (λh _ i=>g h i) nil (λ_ _ i j=>cons i j) h,
  λh=>DtAll.rec c l e k (λh _ i=>f h i) (λh _ i=>g h i) nil (λ_ _ i j=>cons i j) h⟩
section
variable{X:Cx}{pins:List (Addr×Obj)}{σ:St}{H:Hp}{s:Shared}
def Dt.reads_(I:Inv X pins σ H s):(∀{x:V}{d:PyData},Dt X.K H x d->∀{u:Value},RelV x u->∃c,Reads s.heap u d c)/\∀{xs:List V}{ds:List PyData},DtAll X.K H xs ds->∀{us:List Value},Vals xs us->∃c,ReadsAll s.heap us ds c:=by
 refine Dt.ind (P:=λx d=>∀{u:Value},RelV x u->∃c,Reads s.heap u d c) ?_ ?_ ?_ ?_ ?_ ?_ ?_ ?_
 ·intro u r;cases r;exact⟨_,.none⟩
 ·intro b u r;cases r;exact⟨_,.bool b⟩
 ·intro i u r;obtain⟨t,rfl⟩:=r;exact⟨_,.int i t⟩
 ·intro x u r;obtain⟨t,rfl⟩:=r;exact⟨_,.str x t⟩
 ·intro a xs ds h i u r;cases r;obtain⟨f,g,⟨o,n,e,l,_,k⟩,_⟩:=I.list h;obtain⟨c,q⟩:=i g;exact⟨_,.list e l k (by simpa using q)⟩
 ·intro a xs ds h i u r;cases r;obtain⟨f,g,⟨o,e,l,n,k⟩,_⟩:=I.tuple h;obtain⟨c,q⟩:=i g;exact⟨_,.tuple e l k (by simpa using q)⟩
 ·intro us r;cases r;exact⟨_,.nil⟩
 ·intro x d xs ds i j us r;cases r with
  |cons m v=>obtain⟨c,q⟩:=i m;obtain⟨w,p⟩:=j v;exact⟨_,.cons q p⟩
def Dt.reads(I:Inv X pins σ H s)(h:Dt X.K H x d)(r:RelV x u):∃a,Reads s.heap u d a:=(Dt.reads_ I).1 h r
end
section
variable{X:Cx}
def D7(K:Waa):R2:=λx y H Q=>∃b a,Dt K H x b/\Dt K H y a/\SeqAt.shaped b=true/\SeqAt.shaped a=true/\Q (.bl (PyData.eqv b a)) H
def D8(K:Waa):R2:=λx y H Q=>∃b a,Dt K H x b/\Dt K H y a/\SeqAt.shaped b=true/\SeqAt.shaped a=true/\Q (.bl (!PyData.eqv b a)) H
def Bf(d:X.A.units+64<cLine):OpR X (compareOp .Eq) (D7 X.K):=by intro a s o H x y v u Q I i j h;obtain⟨p,m,g,b,f,c,q⟩:=h;obtain⟨n,e⟩:=g.reads I i;obtain⟨l,k⟩:=b.reads I j;exact eq_dataH e k f c d ⟨.bl _,H,I,rfl,q⟩
def Bg(d:X.A.units+64<cLine):OpR X (compareOp .NotEq) (D8 X.K):=by intro a s o H x y v u Q I i j h;obtain⟨p,m,g,b,f,c,q⟩:=h;obtain⟨n,e⟩:=g.reads I i;obtain⟨l,k⟩:=b.reads I j;exact ne_dataH e k f c d ⟨.bl _,H,I,rfl,q⟩
def kit_same(K:Waa)(T:String):PySem.W.kitOne K (.type T) (.type T)=some true:=by unfold PySem.W.kitOne;rw[if_pos (by simp)]
def kit_lt(K:Waa):PySem.W.kitOne K (.type "list") (.type "tuple")=some false:=by kernel_rfl
def kit_tl(K:Waa):PySem.W.kitOne K (.type "tuple") (.type "list")=some false:=by kernel_rfl
def kit_bi(K:Waa):PySem.W.kitOne K (.type "bool") (.type "int")=some true:=by kernel_rfl
def kit_ib(K:Waa):PySem.W.kitOne K (.type "int") (.type "bool")=some false:=by kernel_rfl
def kit_il(K:Waa):PySem.W.kitOne K (.type "int") (.type "list")=some false:=by kernel_rfl
def kit_it(K:Waa):PySem.W.kitOne K (.type "int") (.type "tuple")=some false:=by kernel_rfl
def kit_is(K:Waa):PySem.W.kitOne K (.type "int") (.type "str")=some false:=by kernel_rfl
def kit_sl(K:Waa):PySem.W.kitOne K (.type "str") (.type "list")=some false:=by kernel_rfl
def kit_st(K:Waa):PySem.W.kitOne K (.type "str") (.type "tuple")=some false:=by kernel_rfl
def kit_si(K:Waa):PySem.W.kitOne K (.type "str") (.type "int")=some false:=by kernel_rfl
def kit_sb(K:Waa):PySem.W.kitOne K (.type "str") (.type "bool")=some false:=by kernel_rfl
def kit_bl(K:Waa):PySem.W.kitOne K (.type "bool") (.type "list")=some false:=by kernel_rfl
def kit_bt(K:Waa):PySem.W.kitOne K (.type "bool") (.type "tuple")=some false:=by kernel_rfl
def kit_bs(K:Waa):PySem.W.kitOne K (.type "bool") (.type "str")=some false:=by kernel_rfl
def kit_nl(K:Waa):PySem.W.kitOne K (.type "NoneType") (.type "list")=some false:=by kernel_rfl
def kit_nt(K:Waa):PySem.W.kitOne K (.type "NoneType") (.type "tuple")=some false:=by kernel_rfl
def kit_ns(K:Waa):PySem.W.kitOne K (.type "NoneType") (.type "str")=some false:=by kernel_rfl
def kit_ni(K:Waa):PySem.W.kitOne K (.type "NoneType") (.type "int")=some false:=by kernel_rfl
def kit_nb(K:Waa):PySem.W.kitOne K (.type "NoneType") (.type "bool")=some false:=by kernel_rfl
def kit_li(K:Waa):PySem.W.kitOne K (.type "list") (.type "int")=some false:=by kernel_rfl
def kit_ti(K:Waa):PySem.W.kitOne K (.type "tuple") (.type "int")=some false:=by kernel_rfl
def kit_ls(K:Waa):PySem.W.kitOne K (.type "list") (.type "str")=some false:=by kernel_rfl
def kit_ts(K:Waa):PySem.W.kitOne K (.type "tuple") (.type "str")=some false:=by kernel_rfl
def kit_lb(K:Waa):PySem.W.kitOne K (.type "list") (.type "bool")=some false:=by kernel_rfl
def kit_tb(K:Waa):PySem.W.kitOne K (.type "tuple") (.type "bool")=some false:=by kernel_rfl
inductive Ty (K:Waa)(H:Hp):V->String->Prop
 |non:Ty K H .non "NoneType"
 |bl (b:Bool):Ty K H (.bl b) "bool"
 |int (i:Int):Ty K H (.int i) "int"
 |str (x:Str):Ty K H (.str x) "str"
 |lst {a xs}:SqL K H a xs->Ty K H (.ref a) "list"
 |tup {a xs}:SqT K H a xs->Ty K H (.ref a) "tuple"
def Ty.kitx(I:Inv X pins σ H s)(f:Ty X.K H x n)(a:RelV x u):
  ∃Z:Heap->Prop,PySem.W.KitX X.K u (.type n) Z/\Z s.heap/\u≠.builtin "__main__.__loader__#opaque":=by
 cases f with
 |non=>cases a;exact⟨_,PySem.W.kitx_none,trivial,λz=>nomatch z⟩
 |bl b=>cases a;exact⟨_,PySem.W.kitx_bool,trivial,λz=>nomatch z⟩
 |int i=>obtain⟨t,rfl⟩:=a;exact⟨_,PySem.W.kitx_int,trivial,λz=>nomatch z⟩
 |str x=>obtain⟨t,rfl⟩:=a;exact⟨_,PySem.W.kitx_str,trivial,λz=>nomatch z⟩
 |lst h=>cases a;obtain⟨c,_,⟨o,n,e,d,_⟩,_⟩:=I.list h;exact⟨_,PySem.W.kitx_list,⟨o,e,d⟩,λz=>nomatch z⟩
 |tup h=>cases a;obtain⟨c,_,⟨o,e,d,_⟩,_⟩:=I.tuple h;exact⟨_,PySem.W.kitx_tuple,⟨o,e,d⟩,λz=>nomatch z⟩
def tN(T:String):ck X (.builtin "isinstance") (λxs H Q=>∃x n b,xs=[x,.ty T]/\Ty X.K H x n/\PySem.W.kitOne X.K (.type n) (.type T)=some b/\Q (.bl b) H):=by
 intro a s l H xs j Q I r h;obtain⟨x,n,b,rfl,f,e,q⟩:=h;obtain⟨u,v,rfl,d,g⟩:=r.two;cases g;obtain⟨Z,i,z,c⟩:=f.kitx I d;exact PySem.W.kia_one i I.rz z e c λk=>⟨.bl b,H,I.tok _,rfl,q⟩
def rE(S T:String):ck X (.builtin "isinstance") (λxs H Q=>∃x n b p,xs=[x,.ref p]/\H p=some (.tup [.ty S,.ty T])/\Ty X.K H x n/\PySem.W.kitAny X.K (.type n) [.type S,.type T]=some b/\Q (.bl b) H):=by
 intro f s M H xs F Q I r h;obtain⟨x,n,b,p,rfl,i,w,e,q⟩:=h;obtain⟨u,v,rfl,t,A⟩:=r.two;cases A;obtain⟨Z,C,z,m⟩:=w.kitx I t;obtain⟨_,l,o,⟨⟨c,L,g,D⟩,y,d,k,a⟩⟩:=I.hok p _ i;obtain⟨N,O,rfl,j,B⟩:=o.two;cases j;cases B;replace d:c=.type "tuple":=d;replace a:g=.seq [Value.type S,Value.type T].toArray k:=a.1;subst d a;exact PySem.W.kia_tup C I.rz z y e m λJ=>⟨.bl b,H,I.tok _,rfl,q⟩
def hJ(K:Waa)(a:PySem.W.kitOne K (.type n) (.type S)=some true\/(PySem.W.kitOne K (.type n) (.type S)=some false/\PySem.W.kitOne K (.type n) (.type T)=some true)):
  PySem.W.kitAny K (.type n) [.type S,.type T]=some true:=by
 rcases a with h|⟨h,b⟩
 ·simp[PySem.W.kitAny,h]
 ·simp[PySem.W.kitAny,h,b]
def eF(K:Waa)(h:PySem.W.kitOne K (.type n) (.type S)=some false)(h':PySem.W.kitOne K (.type n) (.type T)=some false):
  PySem.W.kitAny K (.type n) [.type S,.type T]=some false:=by
 simp[PySem.W.kitAny,h,h']
end
end
section
section
variable{X:Cx}{pos:Pos}
def D9(i j k:Nat)(d:TA):TS:=λD a H=>d a H λc b=>∃v w u,c=[v,w,u]/\D.nx (((a.set i (some v)).set j (some w)).set k (some u)) b
theorem xr{B Q f}(hc:X.calm=true)(O:X.N.Nodup)(hi:X.N[i]?=some x)(hj:X.N[j]?=some y)(hk:X.N[k]?=some z)(t:i≠j)(C:i≠k)(M:j≠k)
  (Z:X.env.scope.names.lookup x=some .local) (T:X.env.scope.names.lookup y=some .local) (W:X.env.scope.names.lookup z=some .local) (ha:PA X [a,b,c] ta)
  (hw:swappedStores [.Tuple [.Name x px,.Name y py,.Name z pz] B pt] (.Tuple [a,b,c] Q f) X.env=pure (some [x,y,z]))
  (hs:swapsWithSole [.Tuple [.Name x px,.Name y py,.Name z pz] B pt] (.Tuple [a,b,c] Q f) pos.line X.env=pure false:=by rfl):
  PS X (.Assign [.Tuple [.Name x px,.Name y py,.Name z pz] B pt] (.Tuple [a,b,c] Q f) pos) (D9 i j k ta):=by
 intro d s r H D I h;rw[exec_Assign_arm];refine ada (adq ?_);rw[hs];refine ada (adb ?_);rw[if_neg (by decide)];refine ada (Tuple_ (thn (ha _ d s r H _ I h) λus n ⟨vs,Y,I1,r1,J⟩=>?_));obtain⟨v,w,u,e1,J⟩:=J;subst e1;obtain⟨l,m,g,rfl,rv,P,ru⟩:∃l m g,us=[l,m,g]/\RelV v l/\RelV w m/\RelV u g:=by
  cases r1 with
  |cons p q=>
   cases q with
   |cons p' q'=>
    cases q' with
    |cons S L=>cases L;exact⟨_,_,_,rfl,p,p',S⟩
 refine adk ?_ (by show 3<=sizeLine;decide);have I2:Inv X d r Y { n with heap:=n.heap.push { cls:=.type "tuple",data:=.seq [l,m,g].toArray } }:=I1.kept λb o e=>ade _ e;rw[hw];refine ada (adb ?_);show wpAny (model X.prog X.w) X.A (do rule "assign.swapped-stores";let items <-unpackItems (.ref n.heap.objs.size) 3 none;assignInOrder [λv=>bindName X.env z v,λv=>bindName X.env y v,λv=>bindName X.env x v] items.reverse;pure Flow.next) _ _ _;refine ada (adr (ada (unpackItems_tuple (items:=#[l,m,g]) (I.ok.hd hc) (IsTup.new n.heap _) λh' F=>?_)));have I3:=I2.kept (t':=n.toks) λb o e=>F b o (aar (adc e)) e;show wpAny _ _ (assignInOrder [λv=>bindName X.env z v,λv=>bindName X.env y v,λv=>bindName X.env x v] [g,m,l] >>= λ_=>pure Flow.next) _ _ _;refine ada (ady (adC (bS I3 O hk (.inl W) ru (λs2 I4=>?_) (.inr W))));refine ady (adC (bS I4 O hj (.inl T) P (λs3 I5=>?_) (.inr T)));refine ady (adC (bS I5 O hi (.inl Z) rv (λs4 U=>assignInOrder_nil (adb ?_)) (.inr Z)));have e:((r.set k (some u)).set j (some w)).set i (some v)=((r.set i (some v)).set j (some w)).set k (some u):=by rw[abP _ _ (aaF t),abP _ _ (aaF C),abP _ _ (aaF M)]
 rw[e]at U;exact⟨_,Y,U,J⟩
end
def Keep(S:List Addr)(H a:Hp):Prop:=∀b o,H b=some o->b ∉ S->a b=some o
def Keep.same(a:Keep [] H H'):Same H H':=λb o h=>a b o h (by simp)
end
section
def nv:bootBuiltins "len"=some (.builtin "len"):=by decide +kernel
def Bh:bootBuiltins "abs"=some (.builtin "abs"):=by decide +kernel
def Bi:bootBuiltins "min"=some (.builtin "min"):=by decide +kernel
def eP:bootBuiltins "isinstance"=some (.builtin "isinstance"):=by decide +kernel
def tO:bootBuiltins "int"=some (.type "int"):=by decide +kernel
def xu:bootBuiltins "bool"=some (.type "bool"):=by decide +kernel
def Bj:bootBuiltins "str"=some (.type "str"):=by decide +kernel
def oU:bootBuiltins "list"=some (.type "list"):=by decide +kernel
def hU:bootBuiltins "tuple"=some (.type "tuple"):=by decide +kernel
section
variable{H:Hp}{Q:VK}{K:Waa}{x y v:V}{i j:Int}{p l:Addr}{xs:List V}
def j5(h:n<=1000000):n<=sizeLine:=aav h (by decide)
end
end
section
section
variable{X:Cx}
def Ir(c:TA):TE:=λb H Q=>c b H λd a=>∃j:Int,d=[.int j]/\0<=j/\j<=100000/\∀l,a l=none->Q (.ref l) (upd a l (.lst ((rangeInts 0 1 j.toNat).map V.int)))
end
end
section
section
variable{κ:Type}[DecidableEq κ]
def valV(a:List (κ×V))(k:κ):Option V:=(a.find? λb=>decide (b.1=k)).map (·.2)
def putK(a:List (κ×V))(k:κ)(v:V):List (κ×V):=
 if (a.any λb=>decide (b.1=k))=true then a.map (λb=>if b.1=k then (b.1,v) else b) else a++[(k,v)]
def dG{k:κ}(e:p.1=k):valV (p::r) k=some p.2:=by simp[valV,aba,e]
def hV{k:κ}(e:¬ p.1=k):valV (p::r) k=valV r k:=by simp[valV,aba,e]
theorem h8(k:κ):∀a:List (κ×V),(a.any λb=>decide (b.1=k))=(valV a k).isSome
 |[]=>rfl
 |p::r=>by
  rw[aa0];by_cases e:p.1=k
  ·simp only[dG e,Dac e,Bool.true_or,Option.isSome_some]
  ·rw[hV e,Dab e,acn];exact h8 k r
def dH(a:List (κ×V))(k:κ)(v:V):(putK a k v).length<=a.length+1:=by
 unfold putK;split
 ·rw[aaa];omega
 ·rw[aak,aaw,aaG];omega
def putK_new{k:κ}(v:V)(h:valV kvs k=none):putK kvs k v=kvs++[(k,v)]:=by unfold putK;rw[h8,h];exact if_neg (by decide)
def RelO.aj(r:RelO o u):o.isSome=u.isSome:=by
 cases o with
 |none=>cases u with
  |none=>rfl
  |some _=>exact(show False from r).elim
 |some _=>cases u with
  |none=>exact(show False from r).elim
  |some _=>rfl
def KV.val(r:KV kvs vs)(k:κ):RelO (valV kvs k) (valueAt vs k):=by
 unfold KV at r;induction r with
 |nil=>exact True.intro
 |@cons p q ps qs h t ih=>
  obtain⟨c,d⟩:=h;by_cases e:p.1=k
  ·have a:q.1=k:=c.symm.trans e;have b:valueAt (q::qs) k=some q.2:=by simp[valueAt,aba,a]
   rw[dG e,b];exact d
  ·have a:¬ q.1=k:=λz=>e (c.trans z);have b:valueAt (q::qs) k=valueAt qs k:=by simp[valueAt,aba,a]
   rw[hV e,b];exact ih
def KV.any{vs:List (κ×Value)}(r:KV kvs vs)(k:κ):(kvs.any λa=>decide (a.1=k))=vs.any λa=>decide (a.1=k):=by
 unfold KV at r;induction r with
 |nil=>rfl
 |cons h t b=>rw[aa0,aa0,b,h.1]
def KV.repl(r:KV kvs vs)(k:κ)(c:RelV y u):
  KV (kvs.map λa=>if a.1=k then (a.1,y) else a) (vs.map λa=>if a.1=k then (a.1,u) else a):=by
 unfold KV at r ⊢;induction r with
 |nil=>exact .nil
 |@cons p q ps qs h t ih=>
  rw[aam,aam];refine .cons ?_ ih;obtain⟨b,d⟩:=h;by_cases e:p.1=k
  ·rw[if_pos e,if_pos (b.symm.trans e)];exact⟨b,c⟩
  ·rw[if_neg e,if_neg (λz=>e (b.trans z))];exact⟨b,d⟩
def KV.put(r:KV kvs vs)(k:κ)(a:RelV y u):KV (putK kvs k y) (stored vs k u):=by
 unfold putK stored;rw[r.any k];by_cases e:(vs.any λb=>decide (b.1=k))=true
 ·rw[if_pos e,if_pos e];exact r.repl k a
 ·rw[if_neg e,if_neg e];exact Paired.snoc r ⟨rfl,a⟩
def KV.length{vs:List (κ×Value)}(r:KV kvs vs):kvs.length=vs.length:=adG r
end
def jA(r:RelV (kV k) u):(bb P w).is k u=true:=by
 cases k with
 |inl i=>obtain⟨t,e⟩:=(show ∃t,u=Value.int i t from r);subst e;exact lq P w i t
 |inr x=>obtain⟨t,e⟩:=(show ∃t,u=Value.str x t from r);subst e;exact mixKind_str P w x t
theorem jB:∀{ks:List Key}{us:List Value},Vals (ks.map kV) us->ItemsAre (bb P w) ks us
 |[],_,r=>by rw[aaC]at r;cases r;exact .nil
 |k::ks,_,r=>by
  rw[aam]at r;cases r with
  |cons h t=>exact .cons (jA h) (jB t)
abbrev KT(H:Hp):List (List Key×V)->List (List Key×Addr×Value)->Prop:=Paired λp q=>p.1=q.1/\H q.2.1=some (.tup (p.1.map kV))/\RelV p.2 q.2.2
def KT.val(r:KT H kvs xs)(k:List Key):RelO (valV kvs k) ((atKey xs k).map (·.2)):=by
 induction r with
 |nil=>exact True.intro
 |@cons p q ps qs h t ih=>
  obtain⟨c,_,d⟩:=h;by_cases e:p.1=k
  ·have a:q.1=k:=c.symm.trans e;have b:atKey (q::qs) k=some q.2:=by simp[atKey,aba,a]
   rw[dG e,b];exact d
  ·have a:¬ q.1=k:=λz=>e (c.trans z);have b:atKey (q::qs) k=atKey qs k:=by simp[atKey,aba,a]
   rw[hV e,b];exact ih
def KT.repl(r:KT H kvs xs)(k:List Key)(d:RelV y u):
  KT H (kvs.map λb=>if b.1=k then (b.1,y) else b) (xs.map (putAt k u)):=by
 induction r with
 |nil=>exact .nil
 |@cons p q ps qs h t ih=>
  rw[aam,aam];refine .cons ?_ ih;obtain⟨a,c,f⟩:=h;unfold putAt;by_cases e:p.1=k
  ·rw[if_pos e,if_pos (a.symm.trans e)];exact⟨a,c,d⟩
  ·rw[if_neg e,if_neg (λz=>e (a.trans z))];exact⟨a,c,f⟩
def KT.put(r:KT H kvs xs)(k:List Key)(d:H b=some (.tup (k.map kV)))(a:RelV y u):
  KT H (putK kvs k y) (storedH xs k b u):=by
 have e:(kvs.any λc=>decide (c.1=k))=(atKey xs k).isSome:=by rw[h8,(r.val k).aj,aco]
 unfold putK storedH;rw[e];by_cases q:(atKey xs k).isSome=true
 ·rw[if_pos q,if_pos q];exact r.repl k a
 ·rw[if_neg q,if_neg q];exact Paired.snoc r ⟨rfl,d,a⟩
def KT.keeps(r:KT H kvs xs)(a:∀b ys,H b=some (.tup ys)->H' b=some (.tup ys)):KT H' kvs xs:=
 Paired.mapP r λ_ _ z=>⟨z.1,a _ _ z.2.1,z.2.2⟩
section
variable{P:Program}{w:World}{H:Hp}{h:Heap}{a:Addr}
def zH(b:HOk P w H h)(e:Rd H a u):ObjOk P w H h a u:=e.ok b
def lG(b:HOk P w H h)(e:Rd H a (.dK kvs)):kvs.length<=sizeLine/\(a==sysModules)=false/\∃vs,KV kvs vs/\h.DictOf (bb P w) a vs:=
 show ObjOk P w H h a (.dK kvs) from zH b e
def zI(b:HOk P w H h)(e:H a=some (.dK kvs)):kvs.length<=sizeLine/\(a==sysModules)=false/\∃vs,KV kvs vs/\h.DictOf (bb P w) a vs:=lG b (.inl e)
def h9(d:HOk P w H h)(e:H a=some (.tup (ks.map kV))):(tupleKind (bb P w)).is h ks a:=by
 obtain⟨_,b,r,o,g,c,n,f⟩:=(show ObjOk P w H h a (.tup (ks.map kV)) from d a _ e)
 exact⟨o,b.toArray,n,g,c,f.1,by simpa using jB r⟩
def lH(d:HOk P w H h)(e:Rd H a (.dT kvs)):kvs.length<=sizeLine/\(a==sysModules)=false /\
  ∃xs,KT H kvs xs/\h.DictOfH (tupleKind (bb P w)) a xs:=by
 obtain⟨z,y,xs,r,o,i,f,s,g,n,j,k⟩:=(show ObjOk P w H h a (.dT kvs) from zH d e)
 refine⟨z,y,xs,r,o,i,f,s,g,n,j,λx b=>?_,k⟩;have c:∀{l:List (List Key×V)}{m:List (List Key×Addr×Value)},KT H l m->∀x∈m,(tupleKind (bb P w)).is h x.1 x.2.1:=by
  intro l m q;induction q with
  |nil=>intro x b;exact nomatch b
  |@cons p q ps qs hq t ih=>
   intro x b;rcases aac.mp b with e|b
   ·subst e;exact h9 d (by rw[<-hq.1];exact hq.2.1)
   ·exact ih x b
 exact c r x b
def Ea(b:HOk P w H h)(e:H a=some (.dT kvs)):kvs.length<=sizeLine/\(a==sysModules)=false /\
  ∃xs,KT H kvs xs/\h.DictOfH (tupleKind (bb P w)) a xs:=lH b (.inl e)
end
def DGet(H:Hp)(a:Addr)(y:V)(r:Option V):Prop:=
 (∃c k,Rd H a (.dK c)/\y=kV k/\r=valV c k)\/∃c k b,Rd H a (.dT c)/\y=.ref b/\H b=some (.tup (k.map kV))/\r=valV c k
def DPut(H:Hp)(a:Addr)(y v:V)(d:Hp):Prop:=
 (∃c k,H a=some (.dK c)/\y=kV k/\c.length<sizeLine/\d=upd H a (.dK (putK c k v))) \/
 ∃c k b,H a=some (.dT c)/\y=.ref b/\H b=some (.tup (k.map kV))/\c.length<sizeLine/\d=upd H a (.dT (putK c k v))
def DGet.k{H:Hp}{a:Addr}{b:List (Key×V)}{k:Key}(e:H a=some (.dK b)):DGet H a (kV k) (valV b k):=.inl ⟨b,k,.inl e,rfl,rfl⟩
def DPut.k{H:Hp}{a:Addr}{b:List (Key×V)}{k:Key}{v:V}(e:H a=some (.dK b))(c:b.length<sizeLine):DPut H a (kV k) v (upd H a (.dK (putK b k v))):=.inl ⟨b,k,e,rfl,c,rfl⟩
section
variable{X:Cx}{pins:List (Addr×Obj)}{σ:St}{H:Hp}{s:Shared}{a:Addr}{y v:V}{u r:Value}{o:Option V}{A:Around}{E:Value->Shared->Prop}
def Inv.big(I:Inv X pins σ H s):sysModules<s.heap.objs.size:=by have h:mainGlobals<s.heap.objs.size:=(I.mod.glob.keeps I.bk).lt;exact abh (by decide) h
def rF(C:A.units+1<cLine)(I:Inv X pins σ H s)(g:DGet H a y (some v))(x:RelV y u)(h:∀f t,Inv X pins σ H t->RelV v f->Q f t):
  wpAny (model X.prog X.w) A (getItem (.ref a) u) Q E s:=by
 rcases g with ⟨m,k,e,i,l⟩|⟨m,k,b,e,i,F,l⟩
 ·subst i;obtain⟨z,D,L,c,n⟩:=lG I.hok e;obtain⟨f,j,d⟩:=RelO.some_of (by rw[l];exact c.val k);exact wpAny_getItem_of (jA x) n.mapOf j (h f _ (I.tok _) d)
 ·subst i;cases (show u=Value.ref b from x);obtain⟨z,D,J,c,n⟩:=lH I.hok e;obtain⟨f,j,d⟩:=RelO.some_of (by rw[l];exact c.val k);obtain⟨p,B,q⟩:=aaN.mp j;refine wpAny_getItem_heap (adR C) (h9 I.hok F) n B ?_;rw[q];exact h f _ (I.tok _) d
def G7(p:A.units+1<cLine)(I:Inv X pins σ H s)(g:DGet H a y o)(n:RelV y u)(h:∀m,Inv X pins σ H m->Q (.bool o.isSome) m):
  wpAny (model X.prog X.w) A (compareOp .In u (.ref a)) Q E s:=by
 rcases g with ⟨f,k,e,d,l⟩|⟨f,k,b,e,d,t,l⟩
 ·subst d;obtain⟨z,j,B,c,i⟩:=lG I.hok e;refine wpAny_in_of (jA n) j i.mapOf ?_;rw[<-(c.val k).aj,<-l];exact h _ (I.tok _)
 ·subst d;cases (show u=Value.ref b from n);obtain⟨z,j,x,c,i⟩:=lH I.hok e;refine wpAny_in_heap (adR p) (h9 I.hok t) j i ?_;have q:=(c.val k).aj;rw[aco]at q;rw[<-q,<-l];exact h _ (I.tok _)
def xw(p:A.units+1<cLine)(I:Inv X pins σ H s)(g:DGet H a y o)(n:RelV y u)(h:∀m,Inv X pins σ H m->Q (.bool (!o.isSome)) m):
  wpAny (model X.prog X.w) A (compareOp .NotIn u (.ref a)) Q E s:=by
 rcases g with ⟨f,k,e,d,l⟩|⟨f,k,b,e,d,t,l⟩
 ·subst d;obtain⟨z,j,B,c,i⟩:=lG I.hok e;refine wpAny_notIn_of (jA n) j i.mapOf ?_;rw[<-(c.val k).aj,<-l];exact h _ (I.tok _)
 ·subst d;cases (show u=Value.ref b from n);obtain⟨z,j,x,c,i⟩:=lH I.hok e;refine wpAny_notIn_heap (adR p) (h9 I.hok t) j i ?_;have q:=(c.val k).aj;rw[aco]at q;rw[<-q,<-l];exact h _ (I.tok _)
def j6{t':Nat}(I:Inv X pins σ H s)(d:DB (H a))(hs:Heap.SameBut a s.heap h')(f:∃q,h'.get? a=some q)(c:ObjOk X.prog X.w (upd H a ob) h' a ob):
  Inv X pins σ (upd H a ob) { s with heap:=h',toks:=t' }:=
 I.write d (.inl rfl) (λb q e z=>(hs.2 b e).trans z) f c
def tP(z:kvs.length<=sizeLine)(c:(a==sysModules)=false)(b:KV kvs vs)(dd:h'.DictOf (bb P w) a vs):
  ObjOk P w H' h' a (.dK kvs):=⟨z,c,vs,b,dd⟩
def rG(U:A.units+1<cLine)(I:Inv X pins σ H s)(g:DPut H a y v H')(L:RelV y u)(J:RelV v r)(h:∀F,Inv X pins σ H' F->Q () F):
  wpAny (model X.prog X.w) A (setItem (.ref a) u r) Q E s:=by
 rcases g with ⟨f,k,e,n,l,m⟩|⟨f,k,b,e,n,M,l,m⟩
 ·subst n m;obtain⟨z,x,Y,d,t⟩:=zI I.hok e;have W:Y.length<=sizeLine:=by rw[<-d.length];exact z
  have p:(putK f k v).length<=sizeLine:=by have:=dH f k v;omega
  refine wpAny_setItem_pairs (jA L) t λC i B=>h _ ?_;have T:∃q,C.get? a=some q:=let ⟨q,_,_,j,_⟩:=i;⟨q,j⟩
  exact j6 I (by rw[e];exact True.intro) B T (tP p x (d.put k J) i)
 ·subst n m;cases (show u=Value.ref b from L);obtain⟨z,x,S,d,t⟩:=Ea I.hok e;have W:S.length<=sizeLine:=by rw[<-adG d];exact z
  have p:(putK f k v).length<=sizeLine:=by have:=dH f k v;omega
  refine wpAny_setItem_heap (adR U) (h9 I.hok M) t λC i B=>h _ ?_;obtain⟨q,P,N,j,O,h3,Z,_,h5⟩:=i;refine j6 I (by rw[e];exact True.intro) B ⟨q,j⟩ ⟨p,x,_,(d.put k M J).keeps λc ys D=>?_,q,P,N,j,O,h3,Z,h5⟩;rw[upd_ne (Dz D e (λz=>nomatch z))];exact D
end
def NoSl(i:Expr):Prop:=∀a b,subscripted i false a b=operate [a,b] (getItem a b)
def subD_of{T l:String}
  (k:typeLookup (.type T) "__getitem__"=pure (some (.builtin l))) (hs:NoSl slice)
  (h:wpAny (model prog w) A (eval value env) (λo c=>wpAny (model prog w) A (eval slice env) (λi a=>a.TypeIs o T/\wpAny (model prog w) A (getItem o i) Q E a) E c) E s):
  wpAny (model prog w) A (eval (.Subscript value slice pos) env) Q E s:=by
 refine Subscript_ (adh h (λo c f=>adh f (λi a b=>?_) λ_ _ x=>x) λ_ _ x=>x);obtain⟨j,b⟩:=b;unfold subscriptTail;refine ada ?_;rw[getitemInPython_of_ne j.not_modules];refine ada (wpAny_specialOf j k ?_);have e:wpAny (model prog w) A (subscripted slice false o i) (λr d=>wpAny (model prog w) A (letTemporaryGo value o r >>= λ_=>pure r) Q E d) E a:=by rw[hs o i];exact wpAny_operating (adh b (λr d g=>ada (wpAny_letTemporaryGo (adb g))) λ_ _ x=>x)
 first
  |exact adb (ada e)
  |exact ada (adb (ada e))
  |exact ada e
def lI(I:Inv X pins σ H s)(g:DGet H a y o):s.TypeIs (.ref a) "dict":=by
 rcases g with ⟨d,k,e,_,_⟩|⟨d,k,b,e,_,_,_⟩
 ·obtain⟨_,_,h,_,c⟩:=lG I.hok e;exact c.typeIs
 ·obtain⟨_,_,f,_,c⟩:=lH I.hok e;exact c.typeIs
def Eb(e f:TE):TE:=λc H Q=>e c H λx d=>f c d λy b=>∃a v,x=.ref a/\DGet b a y (some v)/\Q v b
def Ec(f e:TE):TE:=λc H Q=>f c H λy d=>e c d λx b=>∃a o,x=.ref a/\DGet b a y o/\Q (.bl o.isSome) b
def oV(f e:TE):TE:=λc H Q=>f c H λy d=>e c d λx b=>∃a o,x=.ref a/\DGet b a y o/\Q (.bl (!o.isSome)) b
def Ed(g i h:TE):TS:=λD b H=>h b H λv e=>g b e λx d=>i b d λy f=>∃a c,x=.ref a/\DPut f a y v c/\D.nx b c
section
variable{X:Cx}{o i e value:Expr}{pos pos' tpos:Pos}{td ty tv:TE}
def xx(m:X.A.units+1<cLine)(r:PE X o td)(l:PE X i ty)(hs:NoSl i):PE X (.Subscript o i pos) (Eb td ty):=by intro b s f H Q I h;refine subD_of PySem.F.slot_dict_getitem.lookup hs (thn (r b s f H _ I h) λu t ⟨x,C,k,w,n⟩=>thn (l b t f C _ k n) λM N B=>?_);obtain⟨y,j,d,D,a,v,p,g,q⟩:=B;subst p;obtain rfl:u=Value.ref a:=w;exact⟨lI d g,rF m d g D λL J z c=>⟨v,j,z,c,q⟩⟩
def tQ(l:X.A.units+1<cLine)(k:PE X i ty)(r:PE X o td):PC X .In i o (Ec ty td):=by
 intro b s c H Q I h;refine thn (k b s c H _ I h) λF t ⟨y,B,f,C,n⟩=>thn (r b t c B _ f n) λu J z=>?_;obtain⟨x,d,m,v,a,j,p,g,q⟩:=z;subst p;obtain rfl:u=Value.ref a:=v;exact G7 l m g C λD w=>⟨.bl j.isSome,d,w,rfl,q⟩
def jC(l:X.A.units+1<cLine)(k:PE X i ty)(r:PE X o td):PC X .NotIn i o (oV ty td):=by
 intro b s c H Q I h;refine thn (k b s c H _ I h) λF t ⟨y,B,f,C,n⟩=>thn (r b t c B _ f n) λu J z=>?_;obtain⟨x,d,m,v,a,j,p,g,q⟩:=z;subst p;obtain rfl:u=Value.ref a:=v;exact xw l m g C λD w=>⟨.bl (!j.isSome),d,w,rfl,q⟩
def xy(k:X.A.units+1<cLine)(w:PE X o td)(j:PE X i ty)(F:PE X value tv)(hs:swapsWith value (some (.Subscript o i pos')) pos.line X.env=pure false):
  PS X (.Assign [.Subscript o i pos'] value pos) (Ed td ty tv):=by
 intro b s c H D I h;refine wpAny_Assign_Subscript (thn (F b s c H _ I h) λr B ⟨v,O,f,z,n⟩=>thn (w b B c O _ f n) λu M ⟨x,d,l,J,q⟩=>thn (j b M c d _ l q) λU S N=>?_) hs;obtain⟨y,T,L,P,a,m,p,g,t⟩:=N;subst p;obtain rfl:u=Value.ref a:=J;exact rG k L g P z λQ C=>⟨c,m,C,t⟩
end
def lJ(h:Heap)(a:sysModules<h.objs.size):ObjOk P w H (h.push { cls:=.type "dict",data:=.dict #[] }) h.objs.size (.dK []):=
 ⟨aaH _,beq_eq_false_iff_ne.mpr (aaF (aar a)),[],.nil,Heap.DictOf.new h⟩
def tDNewK:TE:=λ_ H Q=>∀p,H p=none->Q (.ref p) (upd H p (.dK []))
section
variable{X:Cx}{pos:Pos}
def tR:PE X (.Dict [] [] pos) tDNewK:=λa s b H Q I h=>
 wpAny_Dict_empty ⟨.ref s.heap.objs.size,_,I.laid (λ_ _ q=>ade _ q) (aag _) (lJ s.heap I.big),rfl,h _ (I.hok.fresh (aag _))⟩
end
end
end L2
namespace L2
open PySem PySem.Spec PyProof.Rows
section
section
variable{κ:Type}[DecidableEq κ]
def nd_snoc:∀{l:List κ}{k:κ},l.Nodup->¬ k∈l->(l++[k]).Nodup
 |[],k,_,_=>by simp
 |a::r,k,h,hk=>by
  obtain⟨c,b⟩:=aaA.mp h;show (a::(r++[k])).Nodup;refine aaA.mpr ⟨λm=>?_,nd_snoc b λm=>hk (aac.mpr (Or.inr m))⟩;rcases aai.mp m with q|q
  ·exact c q
  ·exact hk (aac.mpr (Or.inl (aao.mp q).symm))
end
end
section
def G8(K:Waa)(l:Addr):It:=
 ⟨λi H=>∃a x,SqL K H l a/\a[i]?=some x,
  λi H v b=>∃T x,(∀a,SqL K H l a->a[i]?=some x)/\H T=none/\v=.ref T/\b=upd H T (.tup [.int i,x]),
  λi H=>∃a,SqL K H l a/\a.length<=i⟩
theorem rH{P:Program}{w:World}{K:Waa}{es:List Expr}{x1}{pos:Pos}(l e it:Addr)(D:e≠it):
  Turn P w K (.Tuple es x1 pos) (G8 K l) [e,it] e (λi h=>(∃g,IsEnum h e it (i:Int) g)/\h.IsListIter it l i) where
 mem:=by simp
 obj:=λi h ⟨⟨g,y⟩,A⟩ c a=>by
  simp only[aac,aan,or_false]at a;rcases a with rfl|rfl
  ·exact⟨_,y,λv z=>by cases z⟩
  ·obtain⟨o,e,c,d⟩:=A;exact⟨o,e,λv z=>by rw[d]at z;cases z⟩
 keep:=λi h Q ⟨⟨g,y⟩,A⟩ k=>⟨⟨g,k e (by simp) _ y⟩,A.at λo e=>k it (by simp) o e⟩
 item:=by
  intro X S T U a i j s σ H E I B ⟨⟨g,y⟩,A⟩ hg;subst S T U;obtain⟨xs,x,N,Z⟩:=hg;obtain⟨Y,W,p,hz⟩:=I.list N;obtain⟨u,hu,ru⟩:=W.get Z;have le:e<s.heap.objs.size:=adc y;have li:it<s.heap.objs.size:=by obtain⟨o,e',_⟩:=id A;exact adc e'
  refine wpAny_pyNext_enum_item y A p.isList (x:=u) (by simpa using hu) D λQ a0 J hT a2 hk=>?_;refine⟨.ref s.heap.objs.size,rfl,?_⟩;refine wpAny_letOwnedTupleGo_enum a0 λt L f=>?_;have f:Heap.SameBut e Q t:=f;have M:∀c o,c ∉ ([e,it]:List Addr)->s.heap.get? c=some o->t.get? c=some o:=λc o a q=>by simp only[aac,aan,or_false,not_or]at a;exact f.extBut _ _ a.1 (hk c o a.1 a.2 q)
  have C:H s.heap.objs.size=none:=I.hok.fresh (aag _);have I1:Inv X j σ H { s with heap:=t,toks:=s.toks+1 }:=I.h7 M B;have F:IsPair t s.heap.objs.size (.int i s.toks) u:=f.extBut _ _ (aaL le) hT;have I2:Inv X j σ (upd H s.heap.objs.size (.tup [.int i,x])) { s with heap:=t,toks:=s.toks+1 }:=by
   refine I.step (g':=s.gens) (d':=s.drawn) (ch:=[e,it]) (λb O=>?_) (λb o _ _ a e _=>M b o a e) (λb o _ _ a e _=>⟨o.slots,M b o a e⟩) (λb o a e n=>?_)
    (λb o a e=>⟨o,M b o a e⟩) (λb ys e=>?_) (λb o u e=>?_) (λb ps e=>⟨#[],?_⟩) (λm hm=>?_) (λb o e=>?_) I.bare
   ·obtain⟨f0,f1,f2,f3,f4,f5⟩:=B b O;exact⟨f3,f1,f4,f5⟩
   ·rw[upd_ne (aar (adc e))];exact n
   ·rw[upd_ne (av e C)];exact e
   ·rw[upd_ne (av e C)];exact e
   ·rw[upd_ne (av e C),e];simp
   ·obtain⟨o,a1,ep,ho,r⟩:=hm;exact⟨o,a1,ep,M _ o (λz=>(B _ z).2.1 rfl) ho,r⟩
   ·by_cases O:b=s.heap.objs.size
    ·subst O;rw[ar]at e;cases e;exact⟨(by show 2<=sizeLine;decide),[.int i s.toks,u],.cons ⟨_,rfl⟩ (.cons ru .nil),⟨_,F,rfl,_,rfl,rfl⟩⟩
    ·rw[upd_ne O]at e;refine(I1.hok b o e).p9 (λc v a q=>q) (λc q=>by rw[upd_ne (av q C)];exact q) λc ys q=>by rw[upd_ne (av q C)];exact q
  refine⟨.ref s.heap.objs.size,_,I2,rfl,⟨_,x,λys hy=>by rw[I.ro hy N];exact Z,C,rfl,rfl⟩,⟨⟨u,by simpa using L⟩,J.at λo q=>f.extBut _ _ (aaF D) q⟩,λc a=>?_⟩;simp only[aac,aan,or_false]at a;rcases a with rfl|rfl
  ·rw[upd_ne (aar le)];exact(B _ (by simp)).1
  ·rw[upd_ne (aar li)];exact(B _ (by simp)).1
 done:=by
  intro X S T U a i j s σ H E I B ⟨⟨g,y⟩,A⟩ hg;subst S T U;obtain⟨xs,N,Z⟩:=hg;obtain⟨Y,W,p,hz⟩:=I.list N;have hl:=W.length;refine wpAny_pyNext_enum_end (I.ok.hd a) y A p.isList (by simp;omega) λQ eb=>⟨rfl,I.h7 (t':=s.toks) (λc o a q=>?_) B⟩
  simp only[aac,aan,or_false,not_or]at a;exact eb c o a.2 q
 self:=λ_ _ _ _ _ ⟨⟨g,y⟩,_⟩ h=>wpAny_pyIter_enum y h
def rJ:bootBuiltins "enumerate"=some (.type "enumerate"):=by decide +kernel
section
variable{X:Cx}
def Ee(K:Waa)(c:TA):TI:=λb H R=>c b H λe a=>∃l d,e=[.ref l]/\SqL K a l d/\R (G8 K l) a
def xA{es:List Expr}{L}{g:Pos}{a:Expr}{p pos:Pos} (F:Gl X "enumerate") (y:X.mg "enumerate"=none) (w:PA X [a] ta) (hs:starEach [a] X.env=[(false,eval a X.env)]:=by rfl):
  PI X (.Tuple es L g) (.Call (.Name "enumerate" p) [a] [] pos) (Ee X.K ta):=by
 intro c s m H R I h;refine Call_ (fU I F y rJ (abQ (thn (w pos c s m H _ I h) λN d J=>?_) hs rfl));obtain⟨S,n,i,z,A⟩:=J;obtain⟨l,O,e,M,q⟩:=A;subst e;cases z with
 |cons r C=>
  cases C;cases r;obtain⟨B,Q,v,P⟩:=i.list M;refine call_enumerate_list v.isList λu k j x D=>?_;refine wpAny_pyIter_enum k ?_;have t:Inv X c m n { d with heap:=u }:=i.kept D;refine⟨d.heap.objs.size+1,[d.heap.objs.size+1,d.heap.objs.size],_,_,n,rfl,t,rH l _ _ (by show (_:Nat)≠_;omega),⟨⟨_,k⟩,j⟩,λb o=>?_,q⟩;have f:d.heap.objs.size<=b:=by
   simp only[aac,aan,or_false]at o;rcases o with rfl|rfl
   ·show d.heap.objs.size<=d.heap.objs.size+1;omega
   ·exact aag _
  exact i.ub f (i.hok.fresh f)
end
end
section
section
variable{X:Cx}{o i e:Expr}{pos:Pos}{ti:TE}{c:Addr}{kvs:List (Str×Str)}
set_option exponentiation.threshold 2000 in
def G9(K:Waa)(n:Nat)(t:TGs):TG:=λv d H Q=>∃a b,v=.ref a/\SqL K H a b/\b.length=n/\t b d H Q
def Bk{k:Nat}(D:X.calm=true)(h:Ds X es t)
  (w:(assignEach es X.env).length=n:=by rfl) (g:(assignEach es X.env).findIdx? (·.1)=none:=by rfl):PG X (.Tuple es k pos) (G9 X.K n t):=by
 intro d s l H v u Q I r j;obtain⟨a,y,C,B,z,j⟩:=j;subst C;cases r;obtain⟨f,m,⟨L,A,M,q,_,J⟩,O⟩:=I.list B;have F:s.heap.IsList a f.toArray:=⟨L,M,q,A,J⟩
 rw[assign_Tuple];refine ada (adq ?_);unfold unpack;rw[show (assignEach es X.env).length=f.toArray.size by simp[w,<-z,m.length],g];refine ada (adj (PySem.W.kun_itemsOf (I.ok.hd D) F λx N=>?_));have p:Inv X d l H { s with heap:=x }:=I.kept λb o e=>N b o (aar (adc e)) e;exact h d _ l H y _ Q p (by simpa using m) j
end
end
section
def zJ(H:Hp)(a:Addr)(y v:V)(c:Hp):Prop:=∃b k,H a=some (.dK b)/\y=kV k/\b.length<sizeLine/\c=upd H a (.dK (putK b k v))
def tS(tk tv:TE):TC:=λD a H Q=>tk a H λk d=>tv a d λv c=>∃b,zJ c D k v b/\Q b
abbrev ny(wi:TI)(nt:Nat)(fr:List Nat)(g:CC->TG)(tc:CC->TC):TE:=fW (.dK []) wi nt fr g (tZ tc)
abbrev Gi(kx vx:Expr)(D:Addr)(env:Env):Sem Unit:=eval kx env >>= λkv=>holding [kv] (eval vx env) >>= λvv=>standAt { kx.pos with endLine:=vx.pos.endLine,endCol:=vx.pos.endCol } >>= λ_=>holding [kv,vv] (dictSet D kv vv)
def oW(Y:Cx)(D:Addr)(a:List Expr)(d c:Expr)(tc:TC):Prop:=PB Y (zG a (Gi d c D Y.env) Y.env) (λb H Q=>tc D b H (Q b))
def rK(J:A.units+1<cLine)(I:Inv X pins σ H s)(g:zJ H a y v H')(D:RelV y u)(x:RelV v r)(h:∀f,Inv X pins σ H' f->Q () f):
  wpAny (model X.prog X.w) A (dictSet a u r) Q E s:=by
 obtain⟨d,k,e,j,l,i⟩:=g;subst j i;obtain⟨z,B,C,b,p⟩:=zI I.hok e;have L:C.length<=sizeLine:=by rw[<-b.length];exact z
 have o:(putK d k v).length<=sizeLine:=by have:=dH d k v;omega
 refine wpAny_dictSet_pairs (jA D) p λm c F=>h _ ?_;have n:∃q,m.get? a=some q:=let ⟨q,_,_,t,_⟩:=c;⟨q,t⟩
 exact j6 I (by rw[e];exact True.intro) F n (tP o B (b.put k x) c)
section
variable{X Y:Cx}{tg iter kx vx:Expr}{ifs:List Expr}{scope:Scope}{pos:Pos}{N:List Str}{nt:Nat}{fr:List Nat}{D:Addr}
def Bm(d:Y.A.units+1<cLine)(hk:PE Y kx tk)(l:PE Y vx tv):PB Y (Gi kx vx D Y.env) (λσ H Q=>tS tk tv D σ H (Q σ)):=λa s σ H Q I h=>by refine ada (thn (hk a s σ H _ I h) λu k b=>?_);obtain⟨y,n,c,f,j⟩:=b;refine ada (adj (thn (l a k σ n _ c j) λr w b=>?_));obtain⟨v,p,e,o,i,g,q⟩:=b;exact ada (adq (adj (rK d e g f o λt m=>⟨σ,i,m,q⟩)))
def nz(b:Y.A.units+1<cLine)(hk:PE Y kx tk)(a:PE Y vx tv):oW Y D [] kx vx (tS tk tv):=tH (Bm b hk a)
def Iu:MkC X newDict { cls:=.type "dict",data:=.dict #[] } (.dK []):=⟨λh=>adk h (by first|trivial|exact aaH _|decide),λI=>I.laid (λ_ _ q=>ade _ q) (aag _) (lJ _ I.big)⟩
def tT(it:Value)(D:Addr)(env:Env):compTurn (.DictComp kx vx [⟨tg,iter,ifs,0⟩] scope pos) 0 it (.ref D) env=bW (.DictComp kx vx [⟨tg,iter,ifs,0⟩] scope pos) 0 tg iter.pos it (.ref D) env (zG ifs (Gi kx vx D env) env):=by rw[compTurn_dict];simp only[bW,zG,<-jp,Gi];rfl
def tU(e:X.calm=true)(S:CompScope N nt fr X.N scope X.env.scope)(a:PI X tg iter wi)(b:∀c:CC,PG (aY X N scope c) tg (g c))(d:∀(c:CC) D,oW (aY X N scope c) D ifs kx vx (tc c))(hs:∀x,foldedSetIterable iter X.env x=pure x):
  PE X (.DictComp kx vx [⟨tg,iter,ifs,0⟩] scope pos) (ny wi nt fr g tc):=lE (.inr ⟨_,_,_,_,_,rfl⟩) rfl (λ_ _ _=>tT ..) Iu rfl e S a b d hs
def tV(f:X.N.Nodup)(d:X.N[i]?=some y)(h:X.env.scope.names.lookup y=some .local)(k:X.calm=true)(S:CompScope N nt fr X.N scope X.env.scope)(b:PI X tg iter wi)(e:∀c:CC,PG (aY X N scope c) tg (g c))(j:∀(c:CC) D,oW (aY X N scope c) D ifs kx vx (tc c))(hs:∀x,foldedSetIterable iter X.env x=pure x)
  (a:swapsWith (.DictComp kx vx [⟨tg,iter,ifs,0⟩] scope pos) (some (.Name y py)) spos.line X.env=pure true):PS X (.Assign [.Name y py] (.DictComp kx vx [⟨tg,iter,ifs,0⟩] scope pos) spos) (lz (ny wi nt fr g tc) (gA i)):=
 j4 (.inr ⟨_,_,_,_,_,rfl⟩) rfl (λ_ _ _=>tT ..) Iu (λ_=>rfl) f d h k S b e j hs a
end
end
end L2
set_option genInjectivity false
namespace L2
open PySem PySem.Spec PyProof.Rows
section
structure Kp (S:Addr->Prop)(H H':Hp):Prop where
 k:∀b o,H b=some o->¬ S b->H' b=some o
 n:∀b,H' b=none->H b=none
section
variable{S T S':Addr->Prop}{H H1 H' H2:Hp}{p:Addr}{o:HO}
def Kp.refl(S:Addr->Prop)(H:Hp):Kp S H H:=⟨λ_ _ h _=>h,λ_ h=>h⟩
def Kp.trans(a:Kp S H H1)(b:Kp S H1 H2):Kp S H H2:=⟨λc o h n=>b.k c o (a.k c o h n) n,λc h=>a.n c (b.n c h)⟩
def Kp.weak(a:Kp S H H')(h:∀b,S b->T b\/H b=none):Kp T H H':=⟨λb o e n=>a.k b o e λz=>(h b z).elim n λq=>(by rw[q]at e;cases e),a.n⟩
def Kp.put(a:S p\/H p=none):Kp S H (upd H p o):=by
 refine⟨λb u h n=>?_,λb h=>?_⟩
 ·have c:b≠p:=λe=>by
   subst e;rcases a with a|a
   ·exact n a
   ·rw[a]at h;cases h
  rw[upd_ne c];exact h
 ·by_cases e:b=p
  ·subst e;rw[ar]at h;cases h
  ·rw[upd_ne e]at h;exact h
def Kp.keep(a:Kp (λ_=>False) H H'):Keep [] H H':=λb o h _=>a.k b o h (λz=>z)
def Bx(S:Addr->Prop)(F:Hp->Prop)(H:Hp):Prop:=∀H',Kp S H H'->F H'
def Bx.now{F:Hp->Prop}(h:Bx S F H):F H:=h H (Kp.refl _ _)
def Bx.step{F:Hp->Prop}(h:Bx S F H)(k:Kp S H H')(n:∀b,S' b->S b\/H b=none):Bx S' F H':=λH2 a=>
 h H2 ⟨λb o e c=>a.k b o (k.k b o e c) λz=>(n b z).elim c λq=>(by rw[q]at e;cases e),λb e=>k.n b (a.n b e)⟩
end
mutual
inductive Fz (K:Waa)(S:Addr->Prop)(H:Hp):V->PyData->Prop
 |non:Fz K S H .non .none
 |bl (b:Bool):Fz K S H (.bl b) (.bool b)
 |int (i:Int):Fz K S H (.int i) (.int i)
 |str (x:Str):Fz K S H (.str x) (.str x)
 |lst {a xs ds}:Bx S (λH=>SqL K H a xs) H->FzA K S H xs ds->Fz K S H (.ref a) (.list ds)
 |tup {a xs ds}:Bx S (λH=>SqT K H a xs) H->FzA K S H xs ds->Fz K S H (.ref a) (.tuple ds)
inductive FzA (K:Waa)(S:Addr->Prop)(H:Hp):List V->List PyData->Prop
 |nil:FzA K S H [] []
 |cons {x d xs ds}:Fz K S H x d->FzA K S H xs ds->FzA K S H (x::xs) (d::ds)
end
section
variable{K:Waa}{S T S':Addr->Prop}{H H1 H' H2:Hp}
def Fz.ind{P:V->PyData->Prop}{Q:List V->List PyData->Prop}(c:P .non .none)(l:∀b,P (.bl b) (.bool b))(e:∀i,P (.int i) (.int i))(k:∀x,P (.str x) (.str x))
  (f:∀{a xs ds},Bx S (λH=>SqL K H a xs) H->Q xs ds->P (.ref a) (.list ds)) (g:∀{a xs ds},Bx S (λH=>SqT K H a xs) H->Q xs ds->P (.ref a) (.tuple ds)) (nil:Q [] []) (cons:∀{x d xs ds},P x d->Q xs ds->Q (x::xs) (d::ds)):
  (∀{v d},Fz K S H v d->P v d)/\∀{vs ds},FzA K S H vs ds->Q vs ds:=
 ⟨λh=>Fz.rec c l e k (λh _ i=>f h i) (λh _ i=>g h i) nil (λ_ _ i j=>cons i j) h,
  λh=>FzA.rec c l e k (λh _ i=>f h i) (λh _ i=>g h i) nil (λ_ _ i j=>cons i j) h⟩
def Fz.nc(k:Kp S H H')(n:∀b,S' b->S b\/H b=none):(∀{v:V}{d:PyData},Fz K S H v d->Fz K S' H' v d)/\∀{vs:List V}{ds:List PyData},FzA K S H vs ds->FzA K S' H' vs ds:=
 Fz.ind .non .bl .int .str (λh t=>.lst (h.step k n) t) (λh t=>.tup (h.step k n) t) .nil (λr t=>.cons r t)
def Fz.step(k:Kp S H H')(n:∀b,S' b->S b\/H b=none){v:V}{d:PyData}(h:Fz K S H v d):Fz K S' H' v d:=(Fz.nc k n).1 h
def FzA.step(k:Kp S H H')(n:∀b,S' b->S b\/H b=none){vs:List V}{ds:List PyData}(h:FzA K S H vs ds):FzA K S' H' vs ds:=(Fz.nc k n).2 h
def Fz.dt_:(∀{v:V}{d:PyData},Fz K S H v d->Dt K H v d)/\∀{vs:List V}{ds:List PyData},FzA K S H vs ds->DtAll K H vs ds:=
 Fz.ind .non .bl .int .str (λh t=>.lst h.now t) (λh t=>.tup h.now t) .nil (λr t=>.cons r t)
def Fz.dt(h:Fz K S H v d):Dt K H v d:=Fz.dt_.1 h
def Fz.of0(h:Dt K H v d):Fz K (λ_=>False) H v d:=
 Dt.rec .non .bl .int .str (λh _ t=>.lst (λH' k=>k.keep.same.seq h) t) (λh _ t=>.tup (λH' k=>k.keep.same.tupS h) t) .nil (λ_ _ r t=>.cons r t) h
def Fz.sub(h:∀b,S' b->S b)(f:Fz K S H v d):Fz K S' H v d:=f.step (Kp.refl _ _) λb z=>.inl (h b z)
def FzA.sub(h:∀b,S' b->S b)(f:FzA K S H v d):FzA K S' H v d:=f.step (Kp.refl _ _) λb z=>.inl (h b z)
def FzA.length(h:FzA K S H vs ds):vs.length=ds.length:=by
 induction vs generalizing ds with
 |nil=>cases h;rfl
 |cons v vs a=>cases h with|cons _ t=>rw[aaw,aaw,a t]
theorem FzA.ints:∀(ns:List Int),FzA K S H (ns.map V.int) (ns.map PyData.int)
 |[]=>.nil
 |n::ns=>.cons (.int n) (FzA.ints ns)
theorem Fz.ri(h:Fz K S H v (.list ds)):∃a xs,v=.ref a/\Bx S (λH=>SqL K H a xs) H/\FzA K S H xs ds:=by
 cases h with|lst h t=>exact⟨_,_,rfl,h,t⟩
theorem Fz.ua(h:Fz K S H v (.tuple ds)):∃a xs,v=.ref a/\Bx S (λH=>SqT K H a xs) H/\FzA K S H xs ds:=by
 cases h with|tup h t=>exact⟨_,_,rfl,h,t⟩
def Bp(h:H a=some (.lst xs))(n:¬ S a):Bx S (λH=>SqL K H a xs) H:=λ_ k=>SqL.of (k.k _ _ h n)
def tW(h:H a=some (.tup xs))(n:¬ S a):Bx S (λH=>SqT K H a xs) H:=λ_ k=>SqT.of (k.k _ _ h n)
end
inductive OD where
 |fz (d:PyData)|lst (xs:List OD)|tup (xs:List OD)|dic (ks:List Key) (xs:List OD)|obj (c:Str) (ns:List Str) (xs:List OD)|pin (l:Bool) (xs:List V) (ds:List PyData)|hole (v:V)
mutual
noncomputable def OD.dat:OD->Option PyData
 |.fz d=>some d
 |.lst xs=>match OD.ay xs with|some ds=>some (.list ds)|none=>none
 |.tup xs=>match OD.ay xs with|some ds=>some (.tuple ds)|none=>none
 |.dic _ _=>none
 |.obj _ _ _=>none
 |.pin l _ ds=>some (if l then .list ds else .tuple ds)
 |.hole _=>none
noncomputable def OD.ay:List OD->Option (List PyData)
 |[]=>some []
 |x::xs=>match x.dat with
  |some d=>match OD.ay xs with|some ds=>some (d::ds)|none=>none
  |none=>none
end
def au(K:Waa)(c:Str):Addr:=match PySem.W.nsIn K mainGlobals c with|some (some (.ref C))=>C|_=>0
structure Bs where
 K:Waa
 H0:Hp
 S0:Addr->Prop
 C:Addr->Prop
mutual
inductive Ow (b:Bs)(S:Addr->Prop)(H:Hp):V->OD->List Addr->Prop
 |fz {v d}:Fz b.K S H v d->Ow b S H v (.fz d) []
 |lst {a vs xs A}:H a=some (.lst vs)->Ows b S H vs xs A->Ow b S H (.ref a) (.lst xs) (a::A)
 |tup {a vs xs A}:H a=some (.tup vs)->Ows b S H vs xs A->Ow b S H (.ref a) (.tup xs) A
 |dic {a ws ks vs xs A}:H a=some (.dK ws)->ws.map (·.1)=ks->ws.map (·.2)=vs->Ows b S H vs xs A->Ow b S H (.ref a) (.dic ks xs) (a::A)
 |obj {a dx c fs ns vs xs A}:H a=some (.ins (au b.K c) dx fs)->H dx=some (.own a)->fs.map (·.1)=ns->fs.map (·.2)=vs->Ows b S H vs xs A->Ow b S H (.ref a) (.obj c ns xs) (a::dx::A)
 |pinL {a xs ds}:Bx S (λH=>SqL b.K H a xs) H->FzA b.K S H xs ds->Ow b S H (.ref a) (.pin true xs ds) []
 |pinT {a xs ds}:Bx S (λH=>SqT b.K H a xs) H->FzA b.K S H xs ds->Ow b S H (.ref a) (.pin false xs ds) []
 |hole {v u}:v=u->Ow b S H v (.hole u) []
inductive Ows (b:Bs)(S:Addr->Prop)(H:Hp):List V->List OD->List Addr->Prop
 |nil:Ows b S H [] [] []
 |cons {v x A vs xs B}:Ow b S H v x A->Ows b S H vs xs B->Ows b S H (v::vs) (x::xs) (A++B)
end
abbrev OwL(b:Bs)(S:Addr->Prop)(H:Hp)(L:List (V×OD))(A:List Addr):Prop:=Ows b S H (L.map (·.1)) (L.map (·.2)) A
def MutO:HO->Prop
 |.lst _=>True|.dK _=>True|.ins _ _ _=>True|.own _=>True
 |_=>False
section
variable{b:Bs}{S T S':Addr->Prop}{H H1 H' H2:Hp}
def Ows.len(h:Ows b S H vs xs A):vs.length=xs.length:=by
 induction vs generalizing xs A with
 |nil=>cases h;rfl
 |cons v vs a=>cases h with|cons _ t=>rw[aaw,aaw,a t]
theorem Ow.ind{P:V->OD->List Addr->Prop}{Q:List V->List OD->List Addr->Prop}(s:∀{v d},Fz b.K S H v d->P v (.fz d) [])(p:∀{a vs xs A},H a=some (.lst vs)->Q vs xs A->P (.ref a) (.lst xs) (a::A))(q:∀{a vs xs A},H a=some (.tup vs)->Q vs xs A->P (.ref a) (.tup xs) A)
  (n:∀{a ws ks vs xs A},H a=some (.dK ws)->ws.map (·.1)=ks->ws.map (·.2)=vs->Q vs xs A->P (.ref a) (.dic ks xs) (a::A)) (o:∀{a dx c fs ns vs xs A},H a=some (.ins (au b.K c) dx fs)->H dx=some (.own a)->fs.map (·.1)=ns->fs.map (·.2)=vs->Q vs xs A->P (.ref a) (.obj c ns xs) (a::dx::A))
  (k:∀{a xs ds},Bx S (λH=>SqL b.K H a xs) H->FzA b.K S H xs ds->P (.ref a) (.pin true xs ds) []) (g:∀{a xs ds},Bx S (λH=>SqT b.K H a xs) H->FzA b.K S H xs ds->P (.ref a) (.pin false xs ds) []) (f:∀{v u},v=u->P v (.hole u) [])
  (nil:Q [] [] []) (cons:∀{v x A vs xs B},P v x A->Q vs xs B->Q (v::vs) (x::xs) (A++B)):(∀{v x A},Ow b S H v x A->P v x A)/\∀{vs xs A},Ows b S H vs xs A->Q vs xs A:=
 ⟨λh=>Ow.rec s (λe _ i=>p e i) (λe _ i=>q e i) (λe m l _ i=>n e m l i) (λe r m l _ i=>o e r m l i) k g f nil (λ_ _ i j=>cons i j) h,
  λh=>Ows.rec s (λe _ i=>p e i) (λe _ i=>q e i) (λe m l _ i=>n e m l i) (λe r m l _ i=>o e r m l i) k g f nil (λ_ _ i j=>cons i j) h⟩
def oX{P:Addr->Prop}(h:P a)(t:∀c∈A,P c):∀c∈a::A,P c:=λc d=>(aac.mp d).elim (λe=>e▸h) (t c)
def Ow.mu_:(∀{v:V}{x:OD}{A:List Addr},Ow b S H v x A->∀a∈A,∃o,H a=some o/\MutO o)/\∀{vs:List V}{xs:List OD}{A:List Addr},Ows b S H vs xs A->∀a∈A,∃o,H a=some o/\MutO o:=
 Ow.ind (λ_ _ h=>absurd h aan) (λe i=>oX ⟨_,e,trivial⟩ i) (λ_ i=>i) (λe _ _ i=>oX ⟨_,e,trivial⟩ i) (λe c _ _ i=>oX ⟨_,e,trivial⟩ (oX ⟨_,c,trivial⟩ i)) (λ_ _ _ h=>absurd h aan) (λ_ _ _ h=>absurd h aan) (λ_ _ h=>absurd h aan) (λ_ h=>absurd h aan) (λi j a h=>(aai.mp h).elim (i a) (j a))
def Ow.mu(h:Ow b S H v x A):∀a∈A,∃o,H a=some o/\MutO o:=Ow.mu_.1 h
def Ows.mu(h:Ows b S H vs xs A):∀a∈A,∃o,H a=some o/\MutO o:=Ow.mu_.2 h
def Ows.ne(h:Ows b S H vs xs A):∀a∈A,H a≠none:=λa c e=>by obtain⟨o,q,_⟩:=h.mu a c;rw[q]at e;cases e
def Ows.tl(h:Ows b S H vs xs A):∀a∈A,∀ys,H a≠some (.tup ys):=λa c ys e=>by obtain⟨o,q,m⟩:=h.mu a c;rw[q]at e;cases e;exact m
def Ow.nc(c:b2.K=b.K)(k:Kp S H H')(n:∀b,S' b->S b\/H b=none)(hs:∀a xs,H a=some (.tup xs)->¬ S a):(∀{v:V}{x:OD}{A:List Addr},Ow b S H v x A->(∀a∈A,H' a=H a)->Ow b2 S' H' v x A)/\∀{vs:List V}{xs:List OD}{A:List Addr},Ows b S H vs xs A->(∀a∈A,H' a=H a)->Ows b2 S' H' vs xs A:=
 Ow.ind (λf _=>.fz (c▸f.step k n)) (λe i s=>.lst ((s _ aab).trans e) (i λa h=>s a (aah _ h))) (λe i s=>.tup (k.k _ _ e (hs _ _ e)) (i s)) (λe g d i s=>.dic ((s _ aab).trans e) g d (i λa h=>s a (aah _ h)))
  (λe l g d i s=>.obj (c▸(s _ aab).trans e) ((s _ (aah _ aab)).trans l) g d (i λa h=>s a (aah _ (aah _ h)))) (λh t _=>.pinL (c▸h.step k n) (c▸t.step k n)) (λh t _=>.pinT (c▸h.step k n) (c▸t.step k n)) (λe _=>.hole e) (λ_=>.nil) (λi j s=>.cons (i λa h=>s a (aaf _ h)) (j λa h=>s a (aae _ h)))
def Ow.step(k:Kp S H H')(n:∀b,S' b->S b\/H b=none)(hs:∀a xs,H a=some (.tup xs)->¬ S a){v:V}{x:OD}{A:List Addr}(s:∀a∈A,H' a=H a)(h:Ow b S H v x A):Ow b S' H' v x A:=(Ow.nc rfl k n hs).1 h s
def Ows.step(k:Kp S H H')(n:∀b,S' b->S b\/H b=none)(hs:∀a xs,H a=some (.tup xs)->¬ S a){vs:List V}{xs:List OD}{A:List Addr}(s:∀a∈A,H' a=H a)(h:Ows b S H vs xs A):Ows b S' H' vs xs A:=(Ow.nc rfl k n hs).2 h s
def Ow.sub(hs:∀a xs,H a=some (.tup xs)->¬ S a)(n:∀c,S' c->S c)(h:Ow b S H v x A):Ow b S' H v x A:=h.step (Kp.refl _ _) (λc z=>.inl (n c z)) hs (λ_ _=>rfl)
def Ows.sub(hs:∀a xs,H a=some (.tup xs)->¬ S a)(n:∀c,S' c->S c)(h:Ows b S H v x A):Ows b S' H v x A:=h.step (Kp.refl _ _) (λc z=>.inl (n c z)) hs (λ_ _=>rfl)
def Ows.subB(d:b2.K=b.K)(hs:∀a xs,H a=some (.tup xs)->¬ S a)(n:∀c,S' c->S c)(h:Ows b S H v x A):Ows b2 S' H v x A:=(Ow.nc d (Kp.refl _ _) (λc z=>.inl (n c z)) hs).2 h λ_ _=>rfl
def xB(h:(OD.lst xs).dat=some d):∃ds,OD.ay xs=some ds/\d=.list ds:=by
 rw[OD.dat]at h;cases z:OD.ay xs with
 |none=>rw[z]at h;cases h
 |some ds=>rw[z]at h;cases h;exact⟨ds,rfl,rfl⟩
def xC(h:(OD.tup xs).dat=some d):∃ds,OD.ay xs=some ds/\d=.tuple ds:=by
 rw[OD.dat]at h;cases z:OD.ay xs with
 |none=>rw[z]at h;cases h
 |some ds=>rw[z]at h;cases h;exact⟨ds,rfl,rfl⟩
def rL(h:OD.ay (x::xs)=some es):∃d ds,x.dat=some d/\OD.ay xs=some ds/\es=d::ds:=by
 rw[OD.ay]at h;cases z:x.dat with
 |none=>rw[z]at h;cases h
 |some d=>
  cases a:OD.ay xs with
  |none=>rw[z,a]at h;cases h
  |some ds=>rw[z,a]at h;cases h;exact⟨d,ds,rfl,rfl,rfl⟩
def Ow.frz_(k:∀a,S' a->S a)(nt:∀a xs,H a=some (.tup xs)->¬ S a):(∀{v:V}{x:OD}{A:List Addr},Ow b S H v x A->∀d:PyData,(∀a∈A,¬ S' a)->x.dat=some d->Fz b.K S' H v d)/\∀{vs:List V}{xs:List OD}{A:List Addr},Ows b S H vs xs A->∀ds:List PyData,(∀a∈A,¬ S' a)->OD.ay xs=some ds->FzA b.K S' H vs ds:=by
 refine Ow.ind (P:=λv x A=>∀d:PyData,(∀a∈A,¬ S' a)->x.dat=some d->Fz b.K S' H v d) (Q:=λvs xs A=>∀ds:List PyData,(∀a∈A,¬ S' a)->OD.ay xs=some ds->FzA b.K S' H vs ds) ?_ ?_ ?_ (λ_ _ _ _ _ _ q=>?_) (λ_ _ _ _ _ _ _ q=>?_) ?_ ?_ (λ_ _ _ q=>?_) ?_ ?_
 ·intro v d f n _ q;cases q;exact f.sub k
 ·intro a vs xs A e i d g q;obtain⟨ds,z,rfl⟩:=xB q;exact .lst (Bp e (g _ aab)) (i ds (λa h=>g a (aah _ h)) z)
 ·intro a vs xs A e i d g q;obtain⟨ds,z,rfl⟩:=xC q;exact .tup (tW e λy=>nt _ _ e (k _ y)) (i ds g z)
 ·cases q
 ·cases q
 ·intro a xs ds h t d _ q;cases q;exact .lst (h.step (Kp.refl _ _) λc z=>.inl (k c z)) (t.sub k)
 ·intro a xs ds h t d _ q;cases q;exact .tup (h.step (Kp.refl _ _) λc z=>.inl (k c z)) (t.sub k)
 ·cases q
 ·intro ds _ q;cases q;exact .nil
 ·intro v x A vs xs B i j o g q;obtain⟨d,ds,m,l,rfl⟩:=rL q;exact .cons (i d (λa h=>g a (aaf _ h)) m) (j ds (λa h=>g a (aae _ h)) l)
def Ow.frz(c:∀a,S' a->S a)(nt:∀a xs,H a=some (.tup xs)->¬ S a)(e:∀a∈A,¬ S' a)(h:Ow b S H v x A)(q:x.dat=some d):Fz b.K S' H v d:=(Ow.frz_ c nt).1 h d e q
def Ows.append(h:Ows b S H vs xs A)(h':Ows b S H us ys B):Ows b S H (vs++us) (xs++ys) (A++B):=by
 induction vs generalizing xs A with
 |nil=>cases h;exact h'
 |cons v vs a=>cases h with|cons r t=>rw[aad];exact .cons r (a t)
def Ows.split(e:vs.length=xs.length)(h:Ows b S H (vs++us) (xs++ys) A):∃c a,A=c++a/\Ows b S H vs xs c/\Ows b S H us ys a:=by
 induction vs generalizing xs A with
 |nil=>
  cases xs with
  |nil=>exact⟨[],A,rfl,.nil,h⟩
  |cons _ _=>cases e
 |cons v vs d=>
  cases xs with
  |nil=>cases e
  |cons x xs=>
   cases h with
   |cons r t=>obtain⟨c,a,rfl,g,f⟩:=d (abV e) t;exact⟨_,a,(aad ..).symm,.cons r g,f⟩
theorem OwL.fy(h:OwL b S H (L1++L2) A):∃a c,A=a++c/\OwL b S H L1 a/\OwL b S H L2 c:=by unfold OwL at h;rw[aau,aau]at h;exact Ows.split (by simp) h
def OwL.kq(a:OwL b S H L1 A1)(c:OwL b S H L2 A2):OwL b S H (L1++L2) (A1++A2):=by unfold OwL;rw[aau,aau];exact Ows.append a c
def OwL.perm(p:L.Perm L'):∀{A:List Addr},OwL b S H L A->∃e,OwL b S H L' e/\A.Perm e:=by
 induction p with
 |nil=>intro A h;exact⟨A,h,.refl _⟩
 |cons x _ j=>
  intro A h;cases h with
  |cons r t=>obtain⟨B,a,q⟩:=j t;exact⟨_,.cons r a,q.append_left _⟩
 |swap x y l=>
  intro A h;cases h with
  |cons r t=>
   cases t with
   |cons f i=>refine⟨_,.cons f (.cons r i),?_⟩;rw[<-aad,<-aad];exact abb.append_right _
 |trans _ _ c d=>intro A h;obtain⟨B,m,k⟩:=c h;obtain⟨C,a,g⟩:=d m;exact⟨C,a,k.trans g⟩
def OwL.mem:∀{A:List Addr},OwL b S H L A->∀{x:V×OD},x∈L->∃B,Ow b S H x.1 x.2 B:=by
 induction L with
 |nil=>intro A h x a;cases a
 |cons y L c=>
  intro A h x a;cases h with
  |cons r t=>
   rcases aac.mp a with rfl|a
   ·exact⟨_,r⟩
   ·exact c t a
def Ows.zip(h:Ows b S H vs xs A)(e:xs[k]?=some x):∃v d B c,vs[k]?=some v/\A=d++(B++c)/\Ow b S H v x B /\
  ∀{S':Addr->Prop}{H':Hp}{u:V}{y:OD}{f:List Addr},Ow b S' H' u y f->(∀{v:V}{x:OD}{C:List Addr},(∀a∈C,a∈d\/a∈c)->Ow b S H v x C->Ow b S' H' v x C)->Ows b S' H' (vs.set k u) (xs.set k y) (d++(f++c)):=by
 induction vs generalizing xs A k with
 |nil=>cases h;cases k<;>cases e
 |cons v vs i=>
  cases h with
  |@cons _ x0 A _ xs B r t=>
   cases k with
   |zero=>
    cases e;refine⟨v,[],A,B,rfl,rfl,r,λ{S' H' u y f} h g=>Ows.cons (B:=B) h ?_⟩;have m:∀{vs:List V}{xs:List OD}{D:List Addr},(∀a∈D,a∈B)->Ows b S H vs xs D->Ows b S' H' vs xs D:=λ{vs xs D} s h=>by
     induction xs generalizing vs D with
     |nil=>cases h;exact .nil
     |cons x xs i=>cases h with|cons r t=>exact .cons (g (λa h=>.inr (s a (aaf _ h))) r) (i (λa h=>s a (aae _ h)) t)
    exact m (λa h=>h) t
   |succ k=>obtain⟨n,d,j,c,q,l,p,o⟩:=i t e;subst l;refine⟨n,A++d,j,c,q,(aad ..).symm,p,λh g=>?_⟩;rw[aaJ,aaJ,aad];exact .cons (g (λa h=>.inl (aaf _ h)) r) (o h λs h=>g (λa z=>(s a z).imp (aae _) id) h)
end
end
section
structure Wd (b:Bs)(H:Hp)(L:List (V×OD)):Prop where
 out:∃A,OwL b (λa=>a∈A\/b.S0 a) H L A/\A.Nodup/\∀a∈A,b.H0 a=none\/b.C a
 fr:Kp b.C b.H0 H
 s0:∀a,b.S0 a->b.H0 a≠none/\¬ b.C a
 nt:∀a xs,H a=some (.tup xs)->¬ b.S0 a
section
variable{b:Bs}{H H1 H':Hp}{L L':List (V×OD)}{v u:V}{x y:OD}{d:PyData}{ds:List PyData}{p a:Addr}
theorem Wd.q7(w:Wd b H L)(h:OwL b (λa=>a∈A\/b.S0 a) H L A):∀a xs,H a=some (.tup xs)->¬ (a∈A\/b.S0 a):=λa xs e z=>z.elim (λz=>Ows.tl h a z xs e) (w.nt a xs e)
def Wd.al(w:Wd b H L)(h:OwL b (λa=>a∈A\/b.S0 a) H L A)(e:H a=none):¬ (a∈A\/b.S0 a):=λz=>z.elim (λz=>Ows.ne h a z e) λz=>(w.s0 a z).1 (w.fr.n a e)
def Wd.dj(w:Wd b H L){A:List Addr}(c:∀a∈A,b.H0 a=none\/b.C a):∀a∈A,¬ b.S0 a:=λa e z=>(c a e).elim (w.s0 a z).1 (w.s0 a z).2
def Wd.perm(w:Wd b H L)(q:L.Perm L'):Wd b H L':=by obtain⟨A,h,i,f⟩:=w.out;obtain⟨j,g,e⟩:=OwL.perm q h;refine⟨⟨j,Ows.step (Kp.refl _ _) (λc z=>.inl (z.imp (e.mem_iff.mpr) id)) (w.q7 h) (λ_ _=>rfl) g,e.nodup_iff.mp i,λa k=>f a (e.mem_iff.mpr k)⟩,w.fr,w.s0,w.nt⟩
def Wd.drop(w:Wd b H ((v,x)::L)):Wd b H L:=by
 obtain⟨A,h,g,e⟩:=w.out;have f:=w.q7 h;cases h with
 |@cons _ _ A _ _ B r t=>exact⟨⟨B,Ows.step (Kp.refl _ _) (λc z=>.inl (z.imp (aae _) id)) f (λ_ _=>rfl) t,(aaD.mp g).2.1,λa i=>e a (aae _ i)⟩,w.fr,w.s0,w.nt⟩
def Wd.drops(w:Wd b H (L1++L2)):Wd b H L2:=by
 induction L1 with
 |nil=>exact w
 |cons z L1 c=>exact c (Wd.drop w)
def Wd.puts(w:Wd b H (L1++L))(h:∀(S:Addr->Prop) (A:List Addr),OwL b S H L1 A->A.Nodup->(∀a∈A,S a)->(∀a,H a=none->¬ S a)->(∀a xs,H a=some (.tup xs)->¬ S a) ->
  ∃f,OwL b (λa=>(S a/\a ∉ A)\/a∈f) H L2 f/\f.Nodup/\∀a∈f,a∈A):Wd b H (L2++L):=by
 obtain⟨M,n,s,g⟩:=w.out;have j:=w.q7 n;have F:=λ{a}=>w.al n (a:=a);have ds:=w.dj g;obtain⟨A,B,rfl,r,t⟩:=OwL.fy n;obtain⟨C,I,q⟩:=aaD.mp s;obtain⟨f,J,D,k⟩:=h _ A r C (λa z=>.inl (aaf _ z)) (λa e=>F e) j;have i:∀c,(c∈f++B\/b.S0 c)->(c∈A++B\/b.S0 c):=λc z=>z.imp (λz=>(aai.mp z).elim (λz=>aaf _ (k c z)) (aae _)) id;refine⟨⟨f++B,OwL.kq (Ows.step (Kp.refl _ _) (λc z=>.inl ?_) (λa xs e z=>?_) (λ_ _=>rfl) J) (Ows.step (Kp.refl _ _) (λc z=>.inl (i c z)) j (λ_ _=>rfl) t),aaD.mpr ⟨D,I,λa m c l=>q a (k a m) c l⟩,λa m=>?_⟩,w.fr,w.s0,w.nt⟩
 ·by_cases l:c∈f
  ·exact .inr l
  ·refine .inl ⟨i c z,λo=>?_⟩;rcases z with z|z
   ·rcases aai.mp z with z|z
    ·exact l z
    ·exact q c o c z rfl
   ·exact ds c (aaf _ o) z
 ·rcases z with z|z
  ·exact j a xs e z.1
  ·exact j a xs e (.inl (aaf _ (k a z)))
 ·rcases aai.mp m with z|z
  ·exact g a (aaf _ (k a z))
  ·exact g a (aae _ z)
def OwL.one(h:OwL b S H [(v,x)] A):Ow b S H v x A:=by
 cases h with
 |cons r t=>cases t;rw[aaq];exact r
def OwL.of1(h:Ow b S H v x A):OwL b S H [(v,x)] A:=by have:=Ows.cons h (Ows.nil );rw[aaq]at this;exact this
def Wd.frz(w:Wd b H ((v,x)::L))(e:x.dat=some d):Wd b H ((v,.fz d)::L):=by
 refine Wd.puts (L1:=[(v,x)]) w λS A h i j g c=>⟨[],OwL.of1 (.fz ?_),abc,λa z=>by cases z⟩
 exact Ow.frz (λa z=>z.elim (·.1) (λz=>by cases z)) c (λa f z=>z.elim (λz=>z.2 f) (λz=>by cases z)) h.one e
def Wd.dt(w:Wd b H ((v,x)::L))(e:x.dat=some d):Dt b.K H v d:=by obtain⟨A,c,g,f⟩:=w.out;obtain⟨B,h⟩:=OwL.mem c (x:=(v,x)) (by simp);exact(Ow.frz (λa z=>z.elim) (w.q7 c) (λa _ z=>z) h e).dt
theorem Wd.z4(w:Wd b H L)(m:(v,x)∈L)(e:x.dat=some d):Dt b.K H v d:=by obtain⟨A,c,g,f⟩:=w.out;obtain⟨B,h⟩:=OwL.mem c m;exact(Ow.frz (λa z=>z.elim) (w.q7 c) (λa _ z=>z) h e).dt
def FrzIn(b:Bs)(S:Addr->Prop)(H:Hp)(L:List (V×OD)):Prop:=∀u e,(u,OD.fz e)∈L->Fz b.K S H u e
theorem OwL.vy(h:OwL b S H L A):FrzIn b S H L:=λu e m=>by obtain⟨B,q⟩:=OwL.mem h m;cases q with|fz f=>exact f
theorem FrzIn.all(h:FrzIn b S H L):∀{vs:List V}{ds:List PyData},vs.length=ds.length->(∀z∈vs.zip (ds.map OD.fz),z∈L)->FzA b.K S H vs ds
 |[],[],_,_=>.nil
 |v::vs,d::ds,e,m=>.cons (h v d (m _ (by simp))) (FrzIn.all h (by simpa using e) λz c=>m z (by simp[c]))
def Wd.add(w:Wd b H L)(h:∀S:Addr->Prop,(∀(x:V×OD),x∈L->∃A,Ow b S H x.1 x.2 A)->(∀a,H a=none->¬ S a)->(∀a xs,H a=some (.tup xs)->¬ S a)->Fz b.K S H v d):Wd b H ((v,.fz d)::L):=by obtain⟨A,c,g,f⟩:=w.out;exact⟨⟨A,Ows.cons (.fz (h _ (λx i=>OwL.mem c i) (λa e=>w.al c e) (w.q7 c))) c,g,f⟩,w.fr,w.s0,w.nt⟩
def Wd.adds(w:Wd b H L)(h:∀S:Addr->Prop,(∀(x:V×OD),x∈L->∃A,Ow b S H x.1 x.2 A)->FzA b.K S H vs ds):Wd b H (vs.zip (ds.map OD.fz)++L):=by
 obtain⟨A,e,f,c⟩:=w.out;have q:∀{vs:List V}{ds:List PyData},FzA b.K (λa=>a∈A\/b.S0 a) H vs ds->OwL b (λa=>a∈A\/b.S0 a) H (vs.zip (ds.map OD.fz)) []:=by
  intro vs;induction vs with
  |nil=>intro ds h;cases h;exact .nil
  |cons v vs g=>intro ds h;cases h with|cons r t=>exact Ows.cons (.fz r) (g t)
 exact⟨⟨A,OwL.kq (q (h _ λx i=>OwL.mem e i)) e,f,c⟩,w.fr,w.s0,w.nt⟩
def Wd.dup(w:Wd b H ((v,.fz d)::L)):Wd b H ((v,.fz d)::(v,.fz d)::L):=w.add λS h _ _=>by obtain⟨A,q⟩:=h (v,.fz d) (by simp);cases q with|fz f=>exact f
inductive Sc:V->PyData->Prop
 |non:Sc .non .none
 |bl (b:Bool):Sc (.bl b) (.bool b)
 |int (i:Int):Sc (.int i) (.int i)
 |str (x:Str):Sc (.str x) (.str x)
def Sc.fz{K:Waa}(h:Sc v d):Fz K S H v d:=by cases h<;>constructor
def Wd.sc(w:Wd b H L)(h:Sc v d):Wd b H ((v,.fz d)::L):=w.add λS _ _ _=>h.fz
def Wd.new(w:Wd b H L)(f:H p=none):Wd b (upd H p o) L:=by
 obtain⟨A,h,j,g⟩:=w.out;have i:=w.al h f;refine⟨⟨A,Ows.step (Kp.put (.inr f)) (λc z=>.inl z) (w.q7 h) (λa k=>upd_ne λe=>i (.inl (e▸k))) h,j,g⟩,w.fr.trans (Kp.put (.inr f)),w.s0,λa l e z=>?_⟩;by_cases q:a=p
 ·subst q;exact i (.inr z)
 ·rw[upd_ne q]at e;exact w.nt a l e z
theorem Wd.u4(w:Wd b H L)(c:H p=none):b.H0 p=none:=w.fr.n p c
theorem j7:∀{vs:List V}{xs:List OD},vs.length=xs.length->(vs.zip xs).map (·.1)=vs
 |[],[],_=>rfl
 |_::_,_::_,e=>by rw[abW,aam,j7 (by simpa using e)]
 |[],_::_,e=>by simp at e
 |_::_,[],e=>by simp at e
theorem j8:∀{vs:List V}{xs:List OD},vs.length=xs.length->(vs.zip xs).map (·.2)=xs
 |[],[],_=>rfl
 |_::_,_::_,e=>by rw[abW,aam,j8 (by simpa using e)]
 |[],_::_,e=>by simp at e
 |_::_,[],e=>by simp at e
def OwL.vl(e:vs.length=xs.length)(h:OwL b S H (vs.zip xs) A):Ows b S H vs xs A:=by unfold OwL at h;rw[j7 e,j8 e]at h;exact h
def OwL.j1(h:Ows b S H vs xs A):OwL b S H (vs.zip xs) A:=by unfold OwL;rw[j7 h.len,j8 h.len];exact h
theorem Wd.fx(w:Wd b H L)(h:∀S,FrzIn b S H L->FzA b.K S H vs ds)(f:H p=none):Wd b (upd H p (.tup vs)) ((.ref p,.fz (.tuple ds))::L):=by obtain⟨A,g,m,j⟩:=w.out;have k:=w.al g f;have l:=h _ (OwL.vy g);have i:=w.new f (o:=.tup vs);refine⟨⟨A,Ows.cons (.fz (.tup (tW ar k) (l.step (Kp.put (.inr f)) λc z=>.inl z))) (Ows.step (Kp.put (.inr f)) (λc z=>.inl z) (w.q7 g) (λa n=>upd_ne λe=>k (.inl (e▸n))) g),m,j⟩,i.fr,i.s0,i.nt⟩
def Wd.zm(w:Wd b H (vs.zip xs++L))(e:vs.length=xs.length)(g:H p=none):Wd b (upd H p (.tup vs)) ((.ref p,.tup xs)::L):=by obtain⟨A,j,q,h⟩:=w.out;have s:=w.al j g;have l:=w.q7 j;have i:=w.new g (o:=.tup vs);have k:∀a∈A,upd H p (.tup vs) a=H a:=λa f=>upd_ne λe=>s (.inl (e▸f));obtain⟨r,m,rfl,t,n⟩:=OwL.fy j;refine⟨⟨r++m,Ows.cons (.tup ar (Ows.step (Kp.put (.inr g)) (λc z=>.inl z) l (λa f=>k a (aaf _ f)) (OwL.vl e t))) (Ows.step (Kp.put (.inr g)) (λc z=>.inl z) l (λa f=>k a (aae _ f)) n),q,h⟩,i.fr,i.s0,i.nt⟩
def Wd.er(w:Wd b H (vs.zip xs++L))(e:vs.length=xs.length)(g:H p=none):Wd b (upd H p (.lst vs)) ((.ref p,.lst xs)::L):=by
 obtain⟨A,l,t,i⟩:=w.out;have r:=w.al l g;have q:=w.q7 l;have k:=w.new g (o:=.lst vs);have m:∀a∈A,upd H p (.lst vs) a=H a:=λa f=>upd_ne λe=>r (.inl (e▸f));obtain⟨j,h,rfl,B,s⟩:=OwL.fy l;have n:∀c,(c∈p::(j++h)\/b.S0 c)->(c∈j++h\/b.S0 c)\/H c=none:=λc z=>by
  rcases z with z|z
  ·rcases aac.mp z with rfl|z
   ·exact .inr g
   ·exact .inl (.inl z)
  ·exact .inl (.inr z)
 refine⟨⟨p::(j++h),Ows.cons (.lst ar (Ows.step (Kp.put (.inr g)) n q (λa f=>m a (aaf _ f)) (OwL.vl e B))) (Ows.step (Kp.put (.inr g)) n q (λa f=>m a (aae _ f)) s),aaA.mpr ⟨λz=>r (.inl z),t⟩,λa f=>?_⟩,k.fr,k.s0,k.nt⟩;rcases aac.mp f with rfl|f
 ·exact .inl (w.u4 g)
 ·exact i a f
theorem Wd.v5(w:Wd b H L)(f:H p=none):Wd b (upd H p (.dK [])) ((.ref p,.dic [] [])::L):=by
 obtain⟨A,i,m,j⟩:=w.out;have k:=w.al i f;have l:=w.q7 i;have h:=w.new f (o:=.dK []);have n:∀c,(c∈p::A\/b.S0 c)->(c∈A\/b.S0 c)\/H c=none:=λc z=>by
  rcases z with z|z
  ·rcases aac.mp z with rfl|z
   ·exact .inr f
   ·exact .inl (.inl z)
  ·exact .inl (.inr z)
 refine⟨⟨p::A,Ows.cons (A:=[p]) (.dic ar rfl rfl .nil) (Ows.step (Kp.put (.inr f)) n l (λa g=>upd_ne λe=>k (.inl (e▸g))) i),aaA.mpr ⟨λz=>k (.inl z),m⟩,λa g=>?_⟩,h.fr,h.s0,h.nt⟩;rcases aac.mp g with rfl|g
 ·exact .inl (w.u4 f)
 ·exact j a g
end
def OD.kids:OD->List OD
 |.lst xs=>xs|.tup xs=>xs|.dic _ xs=>xs|.obj _ _ xs=>xs
 |_=>[]
def OD.dv(k:Nat)(y:OD):OD->OD
 |.lst xs=>.lst (xs.set k y)|.tup xs=>.tup (xs.set k y)|.dic ks xs=>.dic ks (xs.set k y)|.obj c ns xs=>.obj c ns (xs.set k y)
 |x=>x
def OD.at:List Nat->OD->Option OD
 |[],x=>some x
 |k::ks,x=>match x.kids[k]? with|some z=>OD.at ks z|none=>none
def OD.put(y:OD):List Nat->OD->OD
 |[],_=>y
 |k::ks,x=>match x.kids[k]? with|some z=>OD.dv k (OD.put y ks z) x|none=>x
inductive Chd (b:Bs)(H:Hp):V->OD->Nat->V->OD->Prop
 |lst {a vs xs k w z}:H a=some (.lst vs)->vs.length=xs.length->vs[k]?=some w->xs[k]?=some z->Chd b H (.ref a) (.lst xs) k w z
 |tup {a vs xs k w z}:H a=some (.tup vs)->vs.length=xs.length->vs[k]?=some w->xs[k]?=some z->Chd b H (.ref a) (.tup xs) k w z
 |dic {a ws ks xs k w z}:H a=some (.dK ws)->ws.map (·.1)=ks->ws.length=xs.length->(ws[k]?).map (·.2)=some w->xs[k]?=some z->Chd b H (.ref a) (.dic ks xs) k w z
 |obj {a dx c fs ns xs k w z}:H a=some (.ins (au b.K c) dx fs)->fs.map (·.1)=ns->fs.length=xs.length->(fs[k]?).map (·.2)=some w->xs[k]?=some z->Chd b H (.ref a) (.obj c ns xs) k w z
inductive Chn (b:Bs)(H:Hp):V->OD->List Nat->V->OD->Prop
 |nil {v x}:Chn b H v x [] v x
 |cons {v x k w z ks u y}:Chd b H v x k w z->Chn b H w z ks u y->Chn b H v x (k::ks) u y
section
variable{b:Bs}{S S':Addr->Prop}{H H1 H':Hp}{L L':List (V×OD)}{v u:V}{x y:OD}{d:PyData}{ds:List PyData}{p a:Addr}
def bT{f:Type}(c B e:List f):(c++(B++e)).Perm (B++(c++e)):=by rw[<-aad,<-aad];exact abb.append_right _
theorem bI{c:Type}:∀{l:List c}{i:Nat}{x:c},l[i]?=some x->l.set i x=l
 |[],_,_,e=>by simp at e
 |_::_,0,_,e=>by simp at e;subst e;rfl
 |y::l,i+1,x,e=>by rw[aaJ,bI (by simpa using e)]
theorem Ow.kid(h:Ow b S H v x A)(e:x.kids[k]?=some z):∃w B D,Chd b H v x k w z/\Ow b S H w z B/\A.Perm (B++D) /\
  ∀{S':Addr->Prop}{H':Hp}{r:OD}{j:List Addr},Kp S H H'->(∀c,S' c->S c\/H c=none)->(∀a xs,H a=some (.tup xs)->¬ S a)->(∀a∈D,H' a=H a)->Ow b S' H' w r j->∃C,Ow b S' H' v (OD.dv k r x) C/\C.Perm (j++D):=by
 cases h with
 |fz _=>cases k<;>cases e
 |pinL _ _=>cases k<;>cases e
 |pinT _ _=>cases k<;>cases e
 |hole _=>cases k<;>cases e
 |@lst a vs xs A e1 t=>obtain⟨w,g,B,f,i,rfl,q,o⟩:=t.zip e;refine⟨w,B,a::(g++f),.lst e1 t.len i e,q,((bT g B f).cons a).trans aax.symm,λ{S' H' r j} k n hs s h=>?_⟩;have:=o h λm h=>Ow.step k n hs (λa l=>s a (aah _ (aai.mpr (m a l)))) h;rw[bI i]at this;exact⟨_,.lst ((s a aab).trans e1) this,((bT g j f).cons a).trans aax.symm⟩
 |@tup a vs xs A e1 t=>obtain⟨w,g,B,f,i,rfl,q,o⟩:=t.zip e;refine⟨w,B,g++f,.tup e1 t.len i e,q,bT g B f,λ{S' H' r j} k n hs s h=>?_⟩;have:=o h λm h=>Ow.step k n hs (λa l=>s a (aai.mpr (m a l))) h;rw[bI i]at this;exact⟨_,.tup (k.k _ _ e1 (hs _ _ e1)) this,bT g j f⟩
 |@dic a ws ks vs xs A e1 h5 h6 t=>obtain⟨w,g,B,f,i,rfl,q,o⟩:=t.zip e;refine⟨w,B,a::(g++f),.dic e1 h5 (by rw[<-t.len,<-h6,aaa]) (by rw[<-h6]at i;simpa using i) e,q,((bT g B f).cons a).trans aax.symm,λ{S' H' r j} k n hs s h=>?_⟩;have:=o h λm h=>Ow.step k n hs (λa l=>s a (aah _ (aai.mpr (m a l)))) h;rw[bI i]at this;exact⟨_,.dic ((s a aab).trans e1) h5 h6 this,((bT g j f).cons a).trans aax.symm⟩
 |@obj a dx c fs ns vs xs A e1 e2 h5 h6 t=>
  obtain⟨w,g,B,f,i,rfl,q,o⟩:=t.zip e;have F:∀B:List Addr,(a::dx::(g++(B++f))).Perm (B++(a::dx::(g++f))):=λB=>by refine(((bT g B f).cons dx).cons a).trans ?_;exact((aax ).symm.cons a).trans aax.symm
  refine⟨w,B,a::dx::(g++f),.obj e1 h5 (by rw[<-t.len,<-h6,aaa]) (by rw[<-h6]at i;simpa using i) e,q,F B,λ{S' H' r j} k n hs s h=>?_⟩;have:=o h λm h=>Ow.step k n hs (λa l=>s a (aah _ (aah _ (aai.mpr (m a l))))) h;rw[bI i]at this;exact⟨_,.obj ((s a aab).trans e1) ((s dx (aah _ aab)).trans e2) h5 h6 this,F j⟩
def Ow.path:∀{ks:List Nat}{v:V}{x:OD}{A:List Addr}{y:OD},Ow b S H v x A->x.at ks=some y->∃u B f,Chn b H v x ks u y/\Ow b S H u y B/\A.Perm (B++f) /\
  ∀{S':Addr->Prop}{H':Hp}{l:OD}{i:List Addr},Kp S H H'->(∀c,S' c->S c\/H c=none)->(∀a xs,H a=some (.tup xs)->¬ S a)->(∀a∈f,H' a=H a)->Ow b S' H' u l i->∃g,Ow b S' H' v (OD.put l ks x) g/\g.Perm (i++f)
 |[],v,x,A,y,h,e=>by simp only[OD.at]at e;cases e;exact⟨v,A,[],.nil,h,by simp,λ{S' H' l i} _ _ _ _ h=>⟨i,h,by simp⟩⟩
 |k::ks,v,x,A,y,h,e=>by
  simp only[OD.at]at e;cases j:x.kids[k]? with
  |none=>rw[j]at e;cases e
  |some z=>rw[j]at e;simp only at e;obtain⟨w,B,f,F,T,P,O⟩:=h.kid j;obtain⟨u,J,o,C,t,I,r⟩:=Ow.path T e;refine⟨u,J,o++f,.cons F C,t,P.trans (by rw[<-aad];exact I.append_right _),λ{S' H' l i} k' n hs s h=>?_⟩;obtain⟨U,Q,D⟩:=r k' n hs (λa m=>s a (aaf _ m)) h;obtain⟨M,N,q⟩:=O k' n hs (λa m=>s a (aae _ m)) Q;refine⟨M,?_,q.trans (by rw[<-aad];exact D.append_right _)⟩;simp only[OD.put,j];exact N
end
end
section
section
variable{b:Bs}{S S':Addr->Prop}{H H1 H':Hp}{L L':List (V×OD)}{v u:V}{x y:OD}{d:PyData}{ds:List PyData}{p a:Addr}{us:List V}{zs:List OD}{ks:List Nat}
theorem Wd.wk(w:Wd b H (us.zip zs++((v,x)::L)))(el:us.length=zs.length)(e:x.at ks=some y):∃(S:Addr->Prop) (u:V) (B C:List Addr),Chn b H v x ks u y/\Ow b S H u y B/\Ows b S H us zs C/\(B++C).Nodup/\(∀c∈B,S c)/\(∀c,H c=none->¬ S c)/\(∀c xs,H c=some (.tup xs)->¬ S c)/\FrzIn b S H L /\
  ∀{H':Hp}{U:OD}{D:List Addr},(∀c,c ∉ B->H' c=H c)->(∀c∈B,∃o,H' c=some o/\MutO o)->D.Nodup->(∀c∈D,c∈B\/c∈C)->(∀S':Addr->Prop,(∀c,S' c->S c)->(∀c∈B,S' c->c∈D)->Ow b S' H' u U D)->Wd b H' ((v,OD.put U ks x)::L):=by
 obtain⟨A0,Y,nd,s⟩:=w.out;have O:=w.q7 Y;have al:=λ{a}=>w.al Y (a:=a);obtain⟨C,A1,rfl,hz,h1⟩:=OwL.fy Y;cases h1 with
 |@cons _ _ A _ _ E r t=>
  obtain⟨u,B,I,ch,hy,pB,go⟩:=Ow.path r e;obtain⟨nC,T,m⟩:=aaD.mp nd;obtain⟨nA,nE,l⟩:=aaD.mp T;have P:=pB.nodup_iff.mp nA;obtain⟨nB,Z,F⟩:=aaD.mp P;have f:∀c,c∈A ↔ c∈B\/c∈I:=λc=>by rw[pB.mem_iff,aai]
  refine⟨_,u,B,C,ch,hy,OwL.vl el hz,aaD.mpr ⟨nB,nC,λc h N i e=>m N i c (aaf _ ((f c).mpr (.inl h))) e.symm⟩,λc h=>.inl (aae _ (aaf _ ((f c).mpr (.inl h)))),λc e=>al e,O,OwL.vy t,λ{H' U D} hk hm nD sD hO=>?_⟩;have X:Kp (λc=>c∈C++(A++E)\/b.S0 c) H H':=⟨λc o e n=>by
    rw[hk c λz=>n (.inl (aae _ (aaf _ ((f c).mpr (.inl z)))))];exact e,λc e=>by
    by_cases z:c∈B
    ·obtain⟨o,q,_⟩:=hm c z;rw[q]at e;cases e
    ·rw[hk c z]at e;exact e⟩
  have j:∀c,(c∈(D++I)++E\/b.S0 c)->(c∈C++(A++E)\/b.S0 c):=λc z=>z.imp (λz=>by
   rcases aai.mp z with z|z
   ·rcases aai.mp z with z|z
    ·rcases sD c z with z|z
     ·exact aae _ (aaf _ ((f c).mpr (.inl z)))
     ·exact aaf _ z
    ·exact aae _ (aaf _ ((f c).mpr (.inr z)))
   ·exact aae _ (aae _ z)) id
  obtain⟨M,hx,pA⟩:=go X (λc z=>.inl (j c z)) O (λc h=>hk c λz=>F c z c h rfl) (hO _ j λc h z=>by
   rcases z with z|z
   ·rcases aai.mp z with z|z
    ·rcases aai.mp z with z|z
     ·exact z
     ·exact absurd rfl (F c h c z)
    ·exact absurd rfl (l c ((f c).mpr (.inl h)) c z)
   ·exact absurd z (w.dj s c (aae _ (aaf _ ((f c).mpr (.inl h))))))
  have g:∀c,c∈M ↔ c∈D++I:=λc=>pA.mem_iff;have J:∀c xs,H' c=some (.tup xs)->¬ (c∈(D++I)++E\/b.S0 c):=λc xs e z=>by
   by_cases q:c∈B
   ·obtain⟨o,q1,q2⟩:=hm c q;rw[q1]at e;cases e;exact q2
   ·rw[hk c q]at e;exact O c xs e (j c z)
  have W:∀c∈D,∀N∈I,c≠N:=λc h N i e=>by
   subst e;rcases sD c h with z|z
   ·exact F c z c i rfl
   ·exact m c z c (aaf _ ((f c).mpr (.inr i))) rfl
  refine⟨⟨M++E,Ows.cons (Ow.sub J (λc z=>z.imp (λz=>(aai.mp z).elim (λz=>aaf _ ((g c).mp z)) (aae _)) id) hx) (Ows.step X (λc z=>.inl (j c (z.imp (λz=>(aai.mp z).elim (λz=>aaf _ ((g c).mp z)) (aae _)) id))) O (λc h=>hk c λz=>l c ((f c).mpr (.inl z)) c h rfl) t),?_,λc h=>?_⟩,?_,w.s0,λc xs e z=>?_⟩
  ·refine aaD.mpr ⟨pA.nodup_iff.mpr (aaD.mpr ⟨nD,Z,W⟩),nE,λc h N i e=>?_⟩;subst e;rcases aai.mp ((g c).mp h) with z|z
   ·rcases sD c z with z|z
    ·exact l c ((f c).mpr (.inl z)) c i rfl
    ·exact m c z c (aae _ i) rfl
   ·exact l c ((f c).mpr (.inr z)) c i rfl
  ·have:c∈C++(A++E)\/b.S0 c:=j c (.inl ((aai.mp h).elim (λz=>aaf _ ((g c).mp z)) (aae _)));have Q:c∈C++(A++E):=by
    rcases aai.mp h with z|z
    ·rcases aai.mp ((g c).mp z) with z|z
     ·rcases sD c z with z|z
      ·exact aae _ (aaf _ ((f c).mpr (.inl z)))
      ·exact aaf _ z
     ·exact aae _ (aaf _ ((f c).mpr (.inr z)))
    ·exact aae _ (aae _ z)
   exact s c Q
  ·refine⟨λc o e n=>?_,λc e=>w.fr.n c (X.n c e)⟩;rw[hk c λz=>?_]
   ·exact w.fr.k c o e n
   ·rcases s c (aae _ (aaf _ ((f c).mpr (.inl z)))) with q|q
    ·rw[q]at e;cases e
    ·exact n q
  ·exact J c xs e (.inr z)
theorem Wd.v7(w:Wd b H (us.zip zs++((v,x)::L)))(P:us.length=zs.length)(e:x.at ks=some (.lst xs)):∃a vs,Chn b H v x ks (.ref a) (.lst xs)/\H a=some (.lst vs)/\vs.length=xs.length /\
  ∀f i,(∀(S:Addr->Prop) (H:Hp) (A C:List Addr),(∀c xs,H c=some (.tup xs)->¬ S c)->Ows b S H vs xs A->Ows b S H us zs C->(A++C).Nodup->∃D,Ows b S H f i D/\D.Nodup/\∀c∈D,c∈A\/c∈C)->Wd b (upd H a (.lst f)) ((v,OD.put (.lst i) ks x)::L):=by
 obtain⟨S,u,B,C,O,N,W,U,Y,al,k,Z,T⟩:=w.wk P e;cases N with
 |@lst a vs _ A e1 t=>
  refine⟨a,vs,O,e1,t.len,λf i X=>?_⟩;obtain⟨j,F⟩:=aaA.mp (show (a::(A++C)).Nodup from U);have l:∀c,c≠a->upd H a (.lst f) c=H c:=λc n=>upd_ne n;have J:Kp S H (upd H a (.lst f)):=Kp.put (.inl (Y a (by simp)));have r:∀S':Addr->Prop,(∀c,S' c->S c)->∃D,Ows b S' (upd H a (.lst f)) f i D/\D.Nodup/\∀c∈D,c∈A\/c∈C:=λS' h=>by
   refine X S' _ A C (λc xs e z=>?_) (Ows.step J (λc z=>.inl (h c z)) k (λc g=>l c λe=>j (e▸aaf _ g)) t) (Ows.step J (λc z=>.inl (h c z)) k (λc g=>l c λe=>j (e▸aae _ g)) W) F;by_cases q:c=a
   ·subst q;rw[ar]at e;cases e
   ·rw[upd_ne q]at e;exact k c xs e (h c z)
  obtain⟨D,Q,M,I⟩:=r S λ_ z=>z;have s:∀c xs,upd H a (.lst f) c=some (.tup xs)->¬ S c:=λc xs e z=>by
   by_cases q:c=a
   ·subst q;rw[ar]at e;cases e
   ·rw[upd_ne q]at e;exact k c xs e z
  refine T (λc n=>l c λe=>n (by simp[e])) (λc g=>?_) (aaA.mpr ⟨λz=>j (by rcases I a z with z|z<;>simp[z]),M⟩) (λc g=>?_) λS' h _=>.lst ar (Ows.sub s h Q)
  ·rcases aac.mp g with rfl|g
   ·exact⟨_,ar,trivial⟩
   ·obtain⟨o,q,m⟩:=t.mu c g;exact⟨o,by rw[l c λe=>j (e▸aaf _ g)];exact q,m⟩
  ·rcases aac.mp g with rfl|g
   ·exact .inl (by simp)
   ·exact(I c g).imp (aah _) id
theorem Wd.za(w:Wd b H (us.zip zs++((v,x)::L)))(Q:us.length=zs.length)(e:x.at ks=some (.dic kk xs)):∃a ws,Chn b H v x ks (.ref a) (.dic kk xs)/\H a=some (.dK ws)/\ws.map (·.1)=kk/\ws.length=xs.length /\
  ∀f h i,f.map (·.1)=h->(∀(S:Addr->Prop) (H:Hp) (A C:List Addr),(∀c xs,H c=some (.tup xs)->¬ S c)->Ows b S H (ws.map (·.2)) xs A->Ows b S H us zs C->(A++C).Nodup->∃D,Ows b S H (f.map (·.2)) i D/\D.Nodup/\∀c∈D,c∈A\/c∈C)->Wd b (upd H a (.dK f)) ((v,OD.put (.dic h i) ks x)::L):=by
 obtain⟨S,u,B,C,P,O,X,W,Z,al,F,fi,U⟩:=w.wk Q e;cases O with
 |@dic a ws _ vs _ A e1 h5 h6 t=>
  subst h6;refine⟨a,ws,P,e1,h5,by have:=t.len;rwa [aaa]at this,λf h i r Y=>?_⟩;obtain⟨k,I⟩:=aaA.mp (show (a::(A++C)).Nodup from W);have l:∀c,c≠a->upd H a (.dK f) c=H c:=λc n=>upd_ne n;have M:Kp S H (upd H a (.dK f)):=Kp.put (.inl (Z a (by simp)));have j:∀c xs,upd H a (.dK f) c=some (.tup xs)->¬ S c:=λc xs e z=>by
   by_cases q:c=a
   ·subst q;rw[ar]at e;cases e
   ·rw[upd_ne q]at e;exact F c xs e z
  obtain⟨D,T,N,J⟩:=Y S _ A C j (Ows.step M (λc z=>.inl z) F (λc g=>l c λe=>k (e▸aaf _ g)) t) (Ows.step M (λc z=>.inl z) F (λc g=>l c λe=>k (e▸aae _ g)) X) I;refine U (λc n=>l c λe=>n (by simp[e])) (λc g=>?_) (aaA.mpr ⟨λz=>k (by rcases J a z with z|z<;>simp[z]),N⟩) (λc g=>?_) λS' s _=>.dic ar r rfl (Ows.sub j s T)
  ·rcases aac.mp g with rfl|g
   ·exact⟨_,ar,trivial⟩
   ·obtain⟨o,q,m⟩:=t.mu c g;exact⟨o,by rw[l c λe=>k (e▸aaf _ g)];exact q,m⟩
  ·rcases aac.mp g with rfl|g
   ·exact .inl (by simp)
   ·exact(J c g).imp (aah _) id
theorem Wd.mutO(w:Wd b H (us.zip zs++((v,x)::L)))(W:us.length=zs.length)(e:x.at ks=some (.obj c ns xs)):∃a dx fs,Chn b H v x ks (.ref a) (.obj c ns xs)/\H a=some (.ins (au b.K c) dx fs)/\fs.map (·.1)=ns/\fs.length=xs.length /\
  ∀g k j,g.map (·.1)=k->(∀(S:Addr->Prop) (H:Hp) (A C:List Addr),(∀c xs,H c=some (.tup xs)->¬ S c)->Ows b S H (fs.map (·.2)) xs A->Ows b S H us zs C->(A++C).Nodup->∃D,Ows b S H (g.map (·.2)) j D/\D.Nodup/\∀c∈D,c∈A\/c∈C)->Wd b (upd H a (.ins (au b.K c) dx g)) ((v,OD.put (.obj c k j) ks x)::L):=by
 obtain⟨S,u,B,C,U,T,hz,Z,hS,al,O,fi,Y⟩:=w.wk W e;cases T with
 |@obj a dx _ fs _ vs _ A e1 e2 h5 h6 t=>
  subst h6;refine⟨a,dx,fs,U,e1,h5,by have:=t.len;rwa [aaa]at this,λg k j J hf=>?_⟩;obtain⟨I,l⟩:=aaA.mp (show (a::(dx::(A++C))).Nodup from Z);obtain⟨nX,l⟩:=aaA.mp l;have r:∀z,z≠a->upd H a (.ins (au b.K c) dx g) z=H z:=λz n=>upd_ne n;have P:Kp S H (upd H a (.ins (au b.K c) dx g)):=Kp.put (.inl (hS a (by simp)));have F:∀z xs,upd H a (.ins (au b.K c) dx g) z=some (.tup xs)->¬ S z:=λz xs e s=>by
   by_cases q:z=a
   ·subst q;rw[ar]at e;cases e
   ·rw[upd_ne q]at e;exact O z xs e s
  obtain⟨D,X,Q,M⟩:=hf S _ A C F (Ows.step P (λc z=>.inl z) O (λc f=>r c λe=>I (e▸aah _ (aaf _ f))) t) (Ows.step P (λc z=>.inl z) O (λc f=>r c λe=>I (e▸aah _ (aae _ f))) hz) l;have i:dx≠a:=λe=>I (e▸aab);refine Y (λz n=>r z λe=>n (by simp[e])) (λz f=>?_) (aaA.mpr ⟨λz=>?_,aaA.mpr ⟨λz=>?_,Q⟩⟩) (λz f=>?_) λS' N _=>.obj ar (by rw[r dx i];exact e2) J rfl (Ows.sub F N X)
  ·rcases aac.mp f with rfl|f
   ·exact⟨_,ar,trivial⟩
   ·rcases aac.mp f with rfl|f
    ·exact⟨.own a,by rw[r _ i];exact e2,trivial⟩
    ·obtain⟨o,q,m⟩:=t.mu z f;exact⟨o,by rw[r z λe=>I (e▸aah _ (aaf _ f))];exact q,m⟩
  ·rcases aac.mp z with z|z
   ·exact i z.symm
   ·exact I (aah _ (aai.mpr (M a z)))
  ·exact nX (aai.mpr (M dx z))
  ·rcases aac.mp f with rfl|f
   ·exact .inl (by simp)
   ·rcases aac.mp f with rfl|f
    ·exact .inl (by simp)
    ·exact(M z f).imp (λh=>aah _ (aah _ h)) id
def Chd.det(h:Chd b H v x k w z)(h':Chd b H v x k w' z'):w=w'/\z=z':=by
 cases h with
 |lst j m i g=>cases h' with|lst c l e f=>rw[j]at c;cases c;rw[i]at e;cases e;rw[g]at f;cases f;exact⟨rfl,rfl⟩
 |tup j m i g=>cases h' with|tup c l e f=>rw[j]at c;cases c;rw[i]at e;cases e;rw[g]at f;cases f;exact⟨rfl,rfl⟩
 |dic j m n i g=>cases h' with|dic c l o e f=>rw[j]at c;cases c;rw[i]at e;cases e;rw[g]at f;cases f;exact⟨rfl,rfl⟩
 |obj j m n i g=>cases h' with|obj c l o e f=>rw[j]at c;cases c;rw[i]at e;cases e;rw[g]at f;cases f;exact⟨rfl,rfl⟩
def Chd.same(h:Chd b H v x k w z)(h':Chd b H v (OD.dv k y x) k w' y'):w=w':=by
 cases h with
 |lst g l f j=>cases h' with|lst c i e m=>rw[g]at c;cases c;rw[f]at e;cases e;rfl
 |tup g l f j=>cases h' with|tup c i e m=>rw[g]at c;cases c;rw[f]at e;cases e;rfl
 |dic g l n f j=>cases h' with|dic c i o e m=>rw[g]at c;cases c;rw[f]at e;cases e;rfl
 |obj g l n f j=>cases h' with|obj c i o e m=>rw[g]at c;cases c;rw[f]at e;cases e;rfl
def Chd.kid(h:Chd b H v x k w z):x.kids[k]?=some z:=by
 cases h with
 |lst _ _ _ e=>exact e
 |tup _ _ _ e=>exact e
 |dic _ _ _ _ e=>exact e
 |obj _ _ _ _ e=>exact e
def Chd.set(h:Chd b H v x k w z):(OD.dv k y x).kids[k]?=some y:=by
 cases h with
 |lst _ _ _ e=>exact aa7 (aaj.mp e).1
 |tup _ _ _ e=>exact aa7 (aaj.mp e).1
 |dic _ _ _ _ e=>exact aa7 (aaj.mp e).1
 |obj _ _ _ _ e=>exact aa7 (aaj.mp e).1
def Wd.vu(w:Wd b H ((v,x)::L))(e:x.at ks=some y)(T:y.dat=some d):∃u,Chn b H v x ks u y/\Wd b H ((u,.fz d)::(v,OD.put (.fz d) ks x)::L):=by
 obtain⟨S,u,B,C,l,j,hz,X,hS,al,O,fi,t⟩:=Wd.wk (us:=[]) (zs:=[]) w rfl e;have J:Wd b H ((v,OD.put (.fz d) ks x)::L):=t (λ_ _=>rfl) (λc i=>j.mu c i) abc (λc i=>by cases i) λS' h N=>.fz (Ow.frz h O (λa D z=>by cases N a D z) j T);refine⟨u,l,J.add λm W n M=>?_⟩;obtain⟨A1,F⟩:=W (v,OD.put (.fz d) ks x) (by simp);have q:∀{ks:List Nat}{v u:V}{x:OD}{A:List Addr},Chn b H v x ks u y->Ow b m H v (OD.put (.fz d) ks x) A->Fz b.K m H u d:=λ{ks}=>by
  induction ks with
  |nil=>intro v u x A c o;cases c;simp only[OD.put]at o;cases o with|fz f=>exact f
  |cons k ks Q=>
   intro v u x A c o;cases c with
   |cons g I=>have U:=g.kid;simp only[OD.put,U]at o;obtain⟨u',Z,Y,P,s,_⟩:=o.kid g.set;have r:=g.same P;subst r;exact Q I s
 exact q l F
end
end
section
abbrev DSp:=List OD->(OD->List OD->Prop)->Prop
def Iw(K:Waa)(S:Addr->Prop)(A:List Addr)(vs:List V)(H:Hp)(Q:VK)(x:OD)(ys:List OD):Prop:=∀v b B,Kp (λa=>a∈A) H b ->
 Ows ⟨K,H,S,λa=>a∈A⟩ (λa=>a∈B\/S a) b (v::vs) (x::ys) B->B.Nodup->(∀a∈B,H a=none\/a∈A)->Q v b
def toSp(K:Waa)(sp:DSp):Sp:=λc H Q _=>∃(S:Addr->Prop) (b:List OD) (A:List Addr),(∀a,S a->H a≠none/\a ∉ A)/\(∀a b,H a=some (.tup b)->¬ S a) /\
 Ows ⟨K,H,S,λa=>a∈A⟩ (λa=>a∈A\/S a) H c b A/\A.Nodup/\sp b (Iw K S A c H Q)
def tX(sp:DSp):Prop:=∀a (P R:OD->List OD->Prop),(∀x b,P x b->R x b)->sp a P->sp a R
section
variable{b:Bs}{H H':Hp}{L:List (V×OD)}{v:V}{x:OD}
theorem Wd.call(w:Wd b H (us.zip xs++L))(N:us.length=xs.length)(l:tX sp)
  (h:sp xs λx ys=>us.length=ys.length->∀v H',Wd b H' ((v,x)::(us.zip ys++L))->Q v H'):toSp b.K sp us H Q E:=by
 obtain⟨A0,D,S,f⟩:=w.out;have r:=w.q7 D;have q:=λ{a}=>w.al D (a:=a);obtain⟨A,g,rfl,Z,O⟩:=OwL.fy D;obtain⟨T,J,u⟩:=aaD.mp S;have p:=w.dj f;refine⟨λa=>a∈g\/b.S0 a,xs,A,λa z=>⟨λe=>q e (z.imp (aae _) id),λd=>?_⟩,λa xs e z=>r a xs e (z.imp (aae _) id),?_,T,l _ _ _ (λx ys X v H' B s C Y y=>?_) h⟩
 ·rcases z with z|z
  ·exact u a d a z rfl
  ·exact p a (aaf _ d) z
 ·refine Ows.subB (b2:=⟨b.K,H,λa=>a∈g\/b.S0 a,λa=>a∈A⟩) (b:=b) rfl r (λc z=>?_) (OwL.vl N Z);rcases z with z|z|z
  ·exact .inl (aaf _ z)
  ·exact .inl (aae _ z)
  ·exact .inr z
 have I:us.length=ys.length:=by have:=C.len;simpa using this
 have j:∀a,a ∉ A->H a≠none->H' a=H a:=λa d i=>by
  cases e:H a with
  |none=>exact absurd e i
  |some o=>exact s.k a o e d
 have F:Kp (λa=>a∈A++g\/b.S0 a) H H':=s.weak λc t=>.inl (.inl (aaf _ t));have U:∀c,(c∈B++g\/b.S0 c)->(c∈A++g\/b.S0 c)\/H c=none:=λc z=>by
  rcases z with z|z
  ·rcases aai.mp z with z|z
   ·exact(y c z).elim .inr λz=>.inl (.inl (aaf _ z))
   ·exact .inl (.inl (aae _ z))
  ·exact .inl (.inr z)
 have m:∀a xs,H' a=some (.tup xs)->¬ (a∈B\/a∈g\/b.S0 a):=λa xs e z=>by
  rcases z with z|z
  ·exact C.tl a z xs e
  ·have d:a ∉ A:=λd=>by
    rcases z with z|z
    ·exact u a d a z rfl
    ·exact p a (aaf _ d) z
   have P:H a≠none:=λe=>q e (z.imp (aae _) id);rw[j a d P]at e;exact r a xs e (z.imp (aae _) id)
 have W:((v,x)::(us.zip ys++L))=((v::us).zip (x::ys))++L:=rfl;refine X I v H' ?_;rw[W];refine⟨⟨B++g,OwL.kq (OwL.j1 (Ows.subB (b2:=b) (b:=⟨b.K,H,λa=>a∈g\/b.S0 a,λa=>a∈A⟩) rfl m (λc z=>?_) C)) (Ows.step F U r (λa i=>j a (λd=>u a d a i rfl) λe=>q e (.inl (aae _ i))) O),aaD.mpr ⟨Y,J,λa i c t e=>?_⟩,λa i=>?_⟩,?_,w.s0,λa xs e z=>m a xs e (.inr (.inr z))⟩
 ·rcases z with z|z
  ·exact(aai.mp z).imp id .inl
  ·exact .inr (.inr z)
 ·subst e;rcases y a i with z|z
  ·exact q z (.inl (aae _ t))
  ·exact u a z a t rfl
 ·rcases aai.mp i with z|z
  ·rcases y a z with z|z
   ·exact .inl (w.u4 z)
   ·exact f a (aaf _ z)
  ·exact f a (aae _ z)
 ·refine⟨λc o e M=>s.k c o (w.fr.k c o e M) λd=>?_,λc e=>w.fr.n c (s.n c e)⟩;rcases f c (aaf _ d) with z|z
  ·rw[z]at e;cases e
  ·exact M z
def Wd.pin(w:Wd b H ((v,.fz d)::L))(e:d=if l then .list ds else .tuple ds):∃xs,Wd b H ((v,.pin l xs ds)::L):=by
 obtain⟨j,i,h,c⟩:=w.out;cases i with
 |cons r t=>
  cases r with
  |fz r=>
   cases l with
   |true=>subst e;obtain⟨a,xs,rfl,g,f⟩:=r.ri;exact⟨xs,⟨⟨_,Ows.cons (.pinL g f) t,h,c⟩,w.fr,w.s0,w.nt⟩⟩
   |false=>subst e;obtain⟨a,xs,rfl,g,f⟩:=r.ua;exact⟨xs,⟨⟨_,Ows.cons (.pinT g f) t,h,c⟩,w.fr,w.s0,w.nt⟩⟩
def Wd.pinned(w:Wd b H L)(m:(v,OD.pin l xs ds)∈L):∃a,v=.ref a/\xs.length=ds.length/\(if l then SqL b.K H a xs else SqT b.K H a xs)/\Wd b H (xs.zip (ds.map OD.fz)++L):=by
 obtain⟨A,f,i,g⟩:=w.out;obtain⟨B,h⟩:=OwL.mem f m;have q:Wd b H (xs.zip (ds.map OD.fz)++L):=w.adds λS e=>by
  obtain⟨B,h⟩:=e _ m;cases h with
  |pinL _ t=>exact t
  |pinT _ t=>exact t
 cases h with
 |pinL d c=>exact⟨_,rfl,c.length,d.now,q⟩
 |pinT d c=>exact⟨_,rfl,c.length,d.now,q⟩
end
end
section
abbrev DEnv:=List (Option OD)
def flat:St->DEnv->List (V×OD)
 |some v::σ,some x::ρ=>(v,x)::flat σ ρ
 |_::σ,_::ρ=>flat σ ρ
 |_,_=>[]
def Wf:St->DEnv->Prop
 |[],[]=>True
 |_::σ,none::ρ=>Wf σ ρ
 |some _::σ,some _::ρ=>Wf σ ρ
 |_,_=>False
section
variable{σ:St}{ρ:DEnv}{i:Nat}{x y:OD}{v u:V}
def br:flat (o::σ) (none::ρ)=flat σ ρ:=by cases o<;>rfl
theorem Wf.get:∀{σ:St}{ρ:DEnv}{i:Nat},Wf σ ρ->ρ[i]?=some (some x)->∃v,σ[i]?=some (some v)
 |[],[],_,_,e=>by simp at e
 |[],_::_,_,h,_=>by simp[Wf]at h
 |_::_,[],_,_,e=>by simp at e
 |some v::_,some _::_,0,_,_=>⟨v,rfl⟩
 |none::_,some _::_,_,h,_=>by simp[Wf]at h
 |o::_,none::_,0,_,e=>by simp at e
 |o::σ,none::ρ,i+1,h,e=>by obtain⟨v,q⟩:=Wf.get (ρ:=ρ) h (by simpa using e);exact⟨v,by simpa using q⟩
 |some _::σ,some _::ρ,i+1,h,e=>by obtain⟨v,q⟩:=Wf.get (ρ:=ρ) h (by simpa using e);exact⟨v,by simpa using q⟩
theorem Wf.len:∀{σ:St}{ρ:DEnv},Wf σ ρ->σ.length=ρ.length
 |[],[],_=>rfl
 |[],_::_,h=>by simp[Wf]at h
 |_::_,[],h=>by simp[Wf]at h
 |o::σ,none::ρ,h=>by simp[Wf.len (σ:=σ) h]
 |some _::σ,some _::ρ,h=>by simp[Wf.len (ρ:=ρ) h]
 |none::_,some _::_,h=>by simp[Wf]at h
theorem Wf.off:∀{σ:St}{ρ:DEnv}{i:Nat},Wf σ ρ->Wf σ (ρ.set i none)
 |[],[],_,_=>trivial
 |[],_::_,_,h=>by simp[Wf]at h
 |_::_,[],_,h=>by simp[Wf]at h
 |o::σ,none::ρ,0,h=>h
 |some _::σ,some _::ρ,0,h=>h
 |none::_,some _::_,_,h=>by simp[Wf]at h
 |o::σ,none::ρ,i+1,h=>Wf.off (σ:=σ) h
 |some _::σ,some _::ρ,i+1,h=>Wf.off (i:=i) h
theorem Wf.put:∀{σ:St}{ρ:DEnv}{i:Nat},Wf σ ρ->Wf (σ.set i (some v)) (ρ.set i (some x))
 |[],[],_,_=>trivial
 |[],_::_,_,h=>by simp[Wf]at h
 |_::_,[],_,h=>by simp[Wf]at h
 |o::σ,none::ρ,0,h=>h
 |some _::σ,some _::ρ,0,h=>h
 |none::_,some _::_,_,h=>by simp[Wf]at h
 |o::σ,none::ρ,i+1,h=>Wf.put (σ:=σ) h
 |some _::σ,some _::ρ,i+1,h=>Wf.put (i:=i) h
theorem bD:∀{σ:St}{ρ:DEnv}{i:Nat},ρ[i]?=some (some x)->σ[i]?=some (some v)->(flat σ ρ).Perm ((v,x)::flat σ (ρ.set i none))
 |[],_,_,_,e=>by simp at e
 |_::_,[],_,e,_=>by simp at e
 |some u::σ,some y::ρ,0,e,e'=>by simp at e e';subst e e';exact .refl _
 |none::_,_::_,0,_,e=>by simp at e
 |some _::_,none::_,0,e,_=>by simp at e
 |o::σ,none::ρ,i+1,e,e'=>by rw[aaJ,br,br];exact bD (by simpa using e) (by simpa using e')
 |some u::σ,some y::ρ,i+1,e,e'=>by rw[aaJ];exact((bD (σ:=σ) (by simpa using e) (by simpa using e')).cons _).trans (List.Perm.swap _ _ _)
 |none::σ,some y::ρ,i+1,e,e'=>by rw[aaJ];exact bD (by simpa using e) (by simpa using e')
theorem cK:∀{σ:St}{ρ:DEnv}{i:Nat},i<ρ.length->σ.length=ρ.length->(flat (σ.set i (some v)) (ρ.set i (some x))).Perm ((v,x)::flat σ (ρ.set i none))
 |_,[],_,h,_=>by simp at h
 |[],_::_,_,_,h=>by simp at h
 |o::σ,y::ρ,0,_,_=>by rw[acp,acp,acp,br];exact .refl _
 |o::σ,none::ρ,i+1,h,h'=>by rw[aaJ,aaJ,aaJ,br,br];exact cK (by simpa using h) (by simpa using h')
 |none::σ,some _::ρ,i+1,h,h'=>by rw[aaJ,aaJ,aaJ];exact cK (σ:=σ) (by simpa using h) (by simpa using h')
 |some u::σ,some y::ρ,i+1,h,h'=>by rw[aaJ,aaJ,aaJ];exact((cK (by simpa using h) (by simpa using h')).cons _).trans (List.Perm.swap _ _ _)
theorem set_self{a:Type}:∀{l:List a}{i:Nat}{x:a},l[i]?=some x->l.set i x=l
 |[],_,_,e=>by simp at e
 |_::_,0,_,e=>by simp at e;subst e;rfl
 |y::l,i+1,x,e=>by rw[aaJ,set_self (by simpa using e)]
end
inductive OR where|val (x:OD)|rf (i:Nat)
def stk:List V->List OR->List (V×OD)
 |v::τ,.val x::θ=>(v,x)::stk τ θ
 |_::τ,.rf _::θ=>stk τ θ
 |_,_=>[]
def Al(σ:St):List V->List OR->Prop
 |[],[]=>True
 |_::τ,.val _::θ=>Al σ τ θ
 |v::τ,.rf i::θ=>σ[i]?=some (some v)/\Al σ τ θ
 |_,_=>False
structure Fr where
 σ:St
 ρ:DEnv
 τ:List V
 θ:List OR
def ff(F:List Fr):List (V×OD):=F.flatMap λf=>stk f.τ f.θ++flat f.σ f.ρ
structure Rel (b:Bs)(F:List Fr)(σ:St)(H:Hp)(ρ:DEnv)(τ:List V)(θ:List OR):Prop where
 wf:Wf σ ρ
 al:Al σ τ θ
 wff:∀f∈F,Wf f.σ f.ρ/\Al f.σ f.τ f.θ
 wd:Wd b H (stk τ θ++(flat σ ρ++ff F))
def aw(ρ:DEnv):OR->Option PyData
 |.val x=>x.dat
 |.rf i=>(ρ[i]?.join).bind OD.dat
section
variable{b:Bs}{F:List Fr}{σ:St}{H H':Hp}{ρ ρ':DEnv}{τ vs:List V}{θ rs:List OR}{v u:V}{r:OR}{x y:OD}{d:PyData}{i:Nat}
def join_some{a:Type}{o:Option (Option a)}{x:a}(h:o.join=some x):o=some (some x):=by
 cases o with
 |none=>cases h
 |some o=>exact congrArg some h
theorem aB:∀{vs τ:List V}{rs θ:List OR},vs.length=rs.length->stk (vs++τ) (rs++θ)=stk vs rs++stk τ θ
 |[],_,[],_,_=>rfl
 |_::vs,τ,.val _::rs,θ,e=>by simp only[aaP,stk];rw[aB (by simpa using e)]
 |_::vs,τ,.rf _::rs,θ,e=>by simp only[aaP,stk];exact aB (by simpa using e)
 |[],_,_::_,_,e=>by simp at e
 |_::_,_,[],_,e=>by simp at e
theorem aJ:∀{vs τ:List V}{rs θ:List OR},vs.length=rs.length->(Al σ (vs++τ) (rs++θ) ↔ Al σ vs rs/\Al σ τ θ)
 |[],_,[],_,_=>by simp[Al]
 |_::vs,τ,.val _::rs,θ,e=>by simp only[aaP,Al];exact aJ (by simpa using e)
 |_::vs,τ,.rf _::rs,θ,e=>by simp only[aaP,Al];rw[aJ (by simpa using e),and_assoc]
 |[],_,_::_,_,e=>by simp at e
 |_::_,_,[],_,e=>by simp at e
def Rel.xc(R:Rel b F σ H ρ (vs++v::τ) (rs++r::θ))(e:vs.length=rs.length):Rel b F σ H ρ (v::vs++τ) (r::rs++θ):=by
 obtain⟨f,c⟩:=(aJ e).mp R.al;have a:Al σ [v] [r]/\Al σ τ θ:=(aJ rfl).mp c;refine⟨R.wf,(aJ (vs:=[v]) (rs:=[r]) rfl).mpr ⟨a.1,(aJ e).mpr ⟨f,a.2⟩⟩,R.wff,R.wd.perm ?_⟩;refine acO _ ?_;have h:stk (v::vs++τ) (r::rs++θ)=stk [v] [r]++(stk vs rs++stk τ θ):=by rw[<-aB e,<-aB rfl];rfl
 have g:stk (vs++v::τ) (rs++r::θ)=stk vs rs++(stk [v] [r]++stk τ θ):=by rw[aB e,<-aB (rs:=[r]) rfl];rfl
 rw[h,g,<-aad,<-aad];exact abb.append_right _
theorem Rel.v3(R:Rel b F σ H ρ (v::vs++τ) (r::rs++θ))(e:vs.length=rs.length):Rel b F σ H ρ (vs++v::τ) (rs++r::θ):=by
 obtain⟨g,a⟩:=(aJ (vs:=[v]) (rs:=[r]) rfl).mp R.al;obtain⟨f,c⟩:=(aJ e).mp a;refine⟨R.wf,(aJ e).mpr ⟨f,(aJ rfl).mpr ⟨g,c⟩⟩,R.wff,R.wd.perm ?_⟩;refine acO _ ?_;have j:stk (v::vs++τ) (r::rs++θ)=stk [v] [r]++(stk vs rs++stk τ θ):=by rw[<-aB e,<-aB rfl];rfl
 have h:stk (vs++v::τ) (rs++r::θ)=stk vs rs++(stk [v] [r]++stk τ θ):=by rw[aB e,<-aB (rs:=[r]) rfl];rfl
 rw[j,h,<-aad,<-aad];exact abb.append_right _
def Rel.drop(R:Rel b F σ H ρ (v::τ) (r::θ)):Rel b F σ H ρ τ θ:=by
 cases r with
 |val x=>exact⟨R.wf,R.al,R.wff,R.wd.drop⟩
 |rf i=>exact⟨R.wf,R.al.2,R.wff,R.wd⟩
def Rel.drops(R:Rel b F σ H ρ (vs++τ) (rs++θ))(e:vs.length=rs.length):Rel b F σ H ρ τ θ:=by
 induction vs generalizing rs with
 |nil=>cases rs with
  |nil=>exact R
  |cons _ _=>simp at e
 |cons v vs a=>cases rs with
  |nil=>simp at e
  |cons r rs=>exact a (Rel.drop R) (by simpa using e)
def Rel.sc(R:Rel b F σ H ρ τ θ)(h:Sc v d):Rel b F σ H ρ (v::τ) (.val (.fz d)::θ):=⟨R.wf,R.al,R.wff,R.wd.sc h⟩
def Rel.slot(R:Rel b F σ H ρ τ θ)(e:ρ[i]?=some (some x)):∃v,σ[i]?=some (some v)/\Wd b H ((v,x)::(stk τ θ++(flat σ (ρ.set i none)++ff F))):=by obtain⟨v,a⟩:=R.wf.get e;refine⟨v,a,R.wd.perm ?_⟩;refine((bD e a).append_right _ |>.append_left _).trans ?_;exact aax
theorem Rel.vz(c:Wf σ ρ)(e:Al (σ.set i (some v)) τ θ)(a:∀f∈F,Wf f.σ f.ρ/\Al f.σ f.τ f.θ)(g:i<ρ.length)(w:Wd b H ((v,x)::(stk τ θ++(flat σ (ρ.set i none)++ff F)))):Rel b F (σ.set i (some v)) H (ρ.set i (some x)) τ θ:=by refine⟨c.put,e,a,w.perm ?_⟩;refine(aax.symm).trans ?_;exact((cK g c.len).symm.append_right _).append_left _
def Rel.back(c:Wf σ ρ)(g:Al σ τ θ)(a:∀f∈F,Wf f.σ f.ρ/\Al f.σ f.τ f.θ)(ev:σ[i]?=some (some v))(w:Wd b H ((v,x)::(stk τ θ++(flat σ (ρ.set i none)++ff F)))):Rel b F σ H (ρ.set i (some x)) τ θ:=by
 have h:i<ρ.length:=by rw[<-c.len];exact(aaj.mp ev).1
 have e:σ.set i (some v)=σ:=set_self ev;have:=Rel.vz c (by rw[e];exact g) a h w;rw[e]at this;exact this
def Rel.dt(R:Rel b F σ H ρ (v::τ) (r::θ))(e:aw ρ r=some d):Dt b.K H v d:=by
 cases r with
 |val x=>exact R.wd.z4 (by simp[stk]) e
 |rf i=>
  simp only[aw,aaO]at e;obtain⟨x,c,a⟩:=e;obtain⟨u,f,w⟩:=R.drop.slot (join_some c);have:v=u:=by have:=R.al.1;rw[f]at this;cases this;rfl
  subst this;exact w.z4 (aab) a
def Rel.dt2(R:Rel b F σ H ρ (u::v::τ) (a::r::θ))(e:aw ρ r=some d):Dt b.K H v d:=(R.drop).dt e
def Rel.frzS(R:Rel b F σ H ρ τ θ)(e:ρ[i]?=some (some x))(a:x.dat=some d):Rel b F σ H (ρ.set i (some (.fz d))) τ θ:=by obtain⟨v,c,w⟩:=R.slot e;exact Rel.back R.wf R.al R.wff c (w.frz a)
def Rel.dupS(R:Rel b F σ H ρ τ θ)(e:ρ[i]?=some (some (.fz d)))(ev:σ[i]?=some (some v)):Rel b F σ H ρ (v::τ) (.val (.fz d)::θ):=by obtain⟨u,a,w⟩:=R.slot e;rw[ev]at a;cases a;have c:=w.dup;have f:ρ.set i (some (.fz d))=ρ:=set_self e;have:=Rel.back (i:=i) (τ:=v::τ) (θ:=.val (.fz d)::θ) R.wf R.al R.wff ev (c.perm (List.Perm.swap _ _ _));rw[f]at this;exact this
def frz1(ρ:DEnv):OR->Option (PyData×DEnv)
 |.val x=>x.dat.map (·,ρ)
 |.rf i=>(ρ[i]?.join).bind λx=>x.dat.map λd=>(d,ρ.set i (some (.fz d)))
def Rel.frz1(R:Rel b F σ H ρ (v::τ) (r::θ))(e:frz1 ρ r=some (d,ρ')):Rel b F σ H ρ' (v::τ) (.val (.fz d)::θ):=by
 cases r with
 |val x=>simp only[L2.frz1,aaN]at e;obtain⟨g,a,c⟩:=e;cases c;exact⟨R.wf,R.al,R.wff,R.wd.frz a⟩
 |rf i=>simp only[L2.frz1,aaO,aaN]at e;obtain⟨x,a,g,c,h⟩:=e;cases h;have f:i<ρ.length:=(aaj.mp (join_some a)).1;exact(R.drop.frzS (join_some a) c).dupS (by rw[aa7 f]) R.al.1
def frzL(ρ:DEnv):List OR->Option (List PyData×DEnv)
 |[]=>some ([],ρ)
 |r::rs=>(L2.frz1 ρ r).bind λz=>(frzL z.2 rs).map λy=>(z.1::y.1,y.2)
theorem j9:∀{vs:List V}{rs:List OR}{ρ ρ':DEnv}{ds:List PyData}{τ:List V}{θ:List OR},Rel b F σ H ρ (vs++τ) (rs++θ)->vs.length=rs.length->L2.frzL ρ rs=some (ds,ρ')->Rel b F σ H ρ' (vs++τ) (ds.map (λd=>OR.val (.fz d))++θ)/\vs.length=ds.length
 |[],[],_,_,_,_,_,R,_,e=>by simp only[L2.frzL]at e;cases e;exact⟨R,rfl⟩
 |v::vs,r::rs,ρ,ρ',ds,τ,θ,R,e,h=>by
  simp only[L2.frzL,aaO,aaN]at h;obtain⟨⟨d,ρ1⟩,g,⟨j,ρ2⟩,f,k⟩:=h;cases k;have l:Rel b F σ H ρ1 (v::(vs++τ)) (.val (.fz d)::(rs++θ)):=Rel.frz1 R g;have a:vs.length=rs.length:=by simpa using e
  obtain⟨m,c⟩:=j9 (Rel.v3 l a) a f;exact⟨Rel.xc m (by rw[c,aaa]),by simp[c]⟩
 |[],_::_,_,_,_,_,_,_,e,_=>by simp at e
 |_::_,[],_,_,_,_,_,_,e,_=>by simp at e
end
end
section
section
variable{X:Cx}
def Ef(K:Waa):R2:=λx y H Q=>∃l b a c,x=.ref l/\y=.ref b/\SqL K H l a/\SqL K H b c/\a.length+c.length<=sizeLine/\∀p,H p=none->Q (.ref p) (upd H p (.lst (a++c)))
def xD:OpR X (binaryOp .Add) (Ef X.K):=by
 intro p s T H x y v u Q I J L h;obtain⟨l,b,P,W,rfl,rfl,M,C,S,q⟩:=h;cases J;cases L;obtain⟨d,r,⟨⟨c,D,N,w⟩,n,e,o,_,m⟩,_⟩:=I.list M;obtain⟨a,t,⟨⟨O,i,B,j⟩,z,k,f,_,g⟩,_⟩:=I.list C;have Y:=r.length;have U:=t.length;simp only at o m f g;subst o m f g;refine adK ⟨_,e,rfl⟩ ⟨_,k,rfl⟩ noFill_list_add seq_list_add PySem.F.slot_list_add PySem.F.entry_list_add (PySem.F.args_list_add_2 _ _) (list_addW l b d.toArray a.toArray n z D i w j (by rw[aaz,aaz];omega)) ⟨e,k,?_⟩;have A:d.toArray++a.toArray=(d++a).toArray:=by simp
 rw[A];exact⟨.ref _,_,I.lnew (r.append t) (by rw[aak];omega),rfl,q _ I.fresh⟩
end
abbrev DK:=OR->DEnv->Prop
abbrev DE:=DEnv->DK->Prop
abbrev DT:=DEnv->(Bool->DEnv->Prop)->Prop
abbrev DA:=DEnv->(List OR->DEnv->Prop)->Prop
abbrev DR2:=PyData->PyData->(PyData->Prop)->Prop
abbrev DR1:=PyData->(PyData->Prop)->Prop
abbrev DRn:=List PyData->(PyData->Prop)->Prop
def bG(K:Waa)(h:TE)(i:DE):Prop:=∀(b:Bs) (F:List Fr) (c:St) (H:Hp) (g:DEnv) (e:List V) (f:List OR) (Qd:DK) (Q:VK),b.K=K->Rel b F c H g e f->i g Qd->(∀v d r a,Rel b F c d a (v::e) (r::f)->Qd r a->Q v d)->h c H Q
def SndT(K:Waa)(h:TT)(i:DT):Prop:=∀(b:Bs) (F:List Fr) (c:St) (H:Hp) (g:DEnv) (e:List V) (f:List OR) (Qd:Bool->DEnv->Prop) (Q:Bool->Hp->Prop),b.K=K->Rel b F c H g e f->i g Qd->(∀k d a,Rel b F c d a e f->Qd k a->Q k d)->h c H Q
def tY(K:Waa)(j:TA)(k:DA):Prop:=∀(b:Bs) (F:List Fr) (c:St) (H:Hp) (i:DEnv) (g:List V) (h:List OR) (Qd:List OR->DEnv->Prop) (Q:List V->Hp->Prop),b.K=K->Rel b F c H i g h->k i Qd->(∀e f d a,e.length=d.length->Rel b F c f a (e++g) (d++h)->Qd d a->Q e f)->j c H Q
inductive PDe (X:Cx)(e:Expr)(de:DE):Prop|mk (te:TE) (h:PE X e te) (s:bG X.K te de)
inductive PDt (X:Cx)(e:Expr)(de:DT):Prop|mk (te:TT) (h:PT X e te) (s:SndT X.K te de)
inductive PDw (X:Cx)(e:Expr)(de:DT):Prop|mk (te:TT) (h:PW X e te) (s:SndT X.K te de)
inductive PDa (X:Cx)(es:List Expr)(de:DA):Prop|mk (te:TA) (h:PA X es te) (s:tY X.K te de)
section
variable{X:Cx}{K:Waa}{a b c e:Expr}{es:List Expr}{da db dc:DE}{pos:Pos}{x:Str}{i:Nat}
def dVar(i:Nat):DE:=λf Q=>match f[i]?.join with
 |some (.fz d)=>Q (.val (.fz d)) f
 |some _=>Q (.rf i) f
 |none=>False
def xE:bG K (tVar i) (dVar i):=by
 intro b F l H g m n o Q p R h q;unfold dVar at h;cases e:g[i]?.join with
 |none=>rw[e]at h;exact h.elim
 |some x=>
  rw[e]at h;have k:=join_some e;obtain⟨v,j⟩:=R.wf.get k;have f:o (.rf i) g->tVar i l H Q:=λh=>⟨v,j,q v H (.rf i) g ⟨R.wf,show Al l (v::m) (.rf i::n) from ⟨j,R.al⟩,R.wff,R.wd⟩ h⟩
  cases x with
  |fz d=>exact⟨v,j,q v H _ g (R.dupS k j) h⟩
  |_=>exact f h
def Bq(f:X.N[i]?=some x) (g:Vis X.env.scope x) (h:(x==("__debug__":Str))=false:=by decide) (d:(x==("__classdict__":Str))=false:=by decide):PDe X (.Name x pos) (dVar i):=⟨_,bH f g h d,xE⟩
def dC(d:PyData):DE:=λf Q=>Q (.val (.fz d)) f
def t5(h:Sc v d):bG K (tC v) (dC d):=λb F l H f j k n Q m R g q=>q v H _ f (R.sc h) g
def pd_int{i j pos}:PDe X (.Constant (.int i) j pos) (dC (.int i)):=⟨_,jW,t5 (.int i)⟩
def pd_bl{k j pos}:PDe X (.Constant (.bool k) j pos) (dC (.bool k)):=⟨_,DD,t5 (.bl k)⟩
def pd_str{x j pos}:PDe X (.Constant (.str x) j pos) (dC (.str x)):=⟨_,As,t5 (.str x)⟩
def Rel.addK{b:Bs}(R:Rel b F σ H ρ τ θ)(h:∀S H,Fz b.K S H v d):Rel b F σ H ρ (v::τ) (.val (.fz d)::θ):=⟨R.wf,R.al,R.wff,R.wd.add λS _ _ _=>h S H⟩
def t7(g:Gl X x) (k:X.mg x=some u) (r:RelV v u) (s:∀S H,Fz X.K S H v d) (f:(x==("__debug__":Str))=false:=by decide):PDe X (.Name x pos) (dC d):=
 ⟨_,wW g k r f,λb F n H j l m o Q h R f q=>q v H _ j (R.addK (by rw[h];exact s)) f⟩
def SndR2(K:Waa)(h:R2)(r:DR2):Prop:=∀(H:Hp) (v u:V) (g f:PyData) (Qd:PyData->Prop) (Q:VK),Dt K H v g->Dt K H u f->r g f Qd->(∀w d,Sc w d->Qd d->Q w H)->h v u H Q
def xF(r:DR2)(a b:DE):DE:=λk Q=>a k λx g=>b g λy f=>∃j h,aw f x=some j/\aw f y=some h/\r j h λd=>Q (.val (.fz d)) f
def nF(B:SndR2 K r2 r)(n:bG K ta da)(N:bG K tb db):bG K (AK r2 ta tb) (xF r da db):=by intro b F l H I o s S Q f R h q;refine n b F l H I o s _ _ f R h λv L x g A P=>N b F l L g _ _ _ _ f A P λu k y p j m=>?_;obtain⟨z,t,J,C,O⟩:=m;exact B k v u z t _ _ (f▸j.dt2 J) (f▸j.dt C) O λw d M D=>q w k _ _ (j.drop.drop.sc M) D
theorem Eg(d:OpR X (binaryOp op) r2)(f:SndR2 X.K r2 r):PDe X a da->PDe X b db->PDe X (.BinOp a op b pos) (xF r da db)
 |⟨_,h1,s1⟩,⟨_,h2,s2⟩=>⟨_,sV d h1 h2,nF f s1 s2⟩
def dI(C:Int->Int->Prop)(g:Int->Int->PyData):DR2:=λx y Q=>∃i j,x=.int i/\y=.int j/\C i j/\Q (g i j)
def Iy(g:Int->Int->PyData):DR2:=λx y Q=>∃i j,x=.int i/\y=.int j/\Q (g i j)
def xG(h:∀i j,Sc (g i j) (g' i j)):SndR2 K (rI C g) (dI C g'):=by rintro H v u m l n Q k f ⟨i,j,rfl,rfl,c,d⟩ q;cases k;cases f;exact⟨i,j,rfl,rfl,c,q _ _ (h i j) d⟩
def t8(h:∀i j,Sc (g i j) (g' i j)):SndR2 K (wO g) (Iy g'):=by rintro H v u m l n Q k f ⟨i,j,rfl,rfl,d⟩ q;cases k;cases f;exact⟨i,j,rfl,rfl,q _ _ (h i j) d⟩
theorem Br(d:OpR X (compareOp op) r2)(g:SndR2 X.K r2 r)(f:behindInMarks op b=false):PDe X a da->PDe X b db->PDe X (.Compare a [op] [b] pos) (xF r da db)
 |⟨_,h1,s1⟩,⟨_,h2,s2⟩=>⟨_,oO d h1 h2 f,nF g s1 s2⟩
def xH{g:Int->Int->Bool}:SndR2 K (wO λi j=>.bl (g i j)) (Iy λi j=>.bool (g i j)):=t8 λ_ _=>.bl _
def rM:PyData->PyData->Option Bool
 |.int i,.int j=>some (decide (i=j))
 |.bool i,.bool j=>some (decide (i=j))
 |.str i,.str j=>some (decide (i=j))
 |.none,.none=>some true
 |.none,.int _=>some false|.int _,.none=>some false|.none,.str _=>some false|.str _,.none=>some false
 |.int _,.str _=>some false|.str _,.int _=>some false
 |_,_=>none
def oY(d:Dt K H v dx)(f:Dt K H u dy)(e:rM dx dy=some k):AS v u=true/\decide (v=u)=k:=by cases d<;>cases f<;>cases e<;>refine⟨rfl,?_⟩<;>simp
def dEqS:DR2:=λx y Q=>∃k,rM x y=some k/\Q (.bool k)
def dNeS:DR2:=λx y Q=>∃k,rM x y=some k/\Q (.bool (!k))
def sr_eq:SndR2 K rEq dEqS:=by rintro H v u m l n Q j f ⟨k,e,d⟩ q;obtain⟨h,g⟩:=oY j f e;exact⟨h,by rw[g];exact q _ _ (.bl k) d⟩
def sr_ne:SndR2 K rNe dNeS:=by rintro H v u m l n Q j f ⟨k,e,d⟩ q;obtain⟨h,g⟩:=oY j f e;exact⟨h,by rw[g];exact q _ _ (.bl _) d⟩
def dEqD:DR2:=λx y Q=>SeqAt.shaped x=true/\SeqAt.shaped y=true/\Q (.bool (PyData.eqv x y))
def dNeD:DR2:=λx y Q=>SeqAt.shaped x=true/\SeqAt.shaped y=true/\Q (.bool (!PyData.eqv x y))
def Bt:SndR2 K (D7 K) dEqD:=λH v u j h m Q l f ⟨k,g,d⟩ q=>⟨j,h,l,f,k,g,q _ _ (.bl _) d⟩
def Bu:SndR2 K (D8 K) dNeD:=λH v u j h m Q l f ⟨k,g,d⟩ q=>⟨j,h,l,f,k,g,q _ _ (.bl _) d⟩
def Eh:PyData->PyData->Option Bool
 |.int i,.int j=>some (decide (i=j))
 |.str i,.str j=>some (decide (i=j))
 |.none,.none=>some true
 |.int _,.str _=>some false|.str _,.int _=>some false|.none,.int _=>some false|.int _,.none=>some false|.none,.str _=>some false|.str _,.none=>some false
 |_,_=>none
def memD(x:PyData):List PyData->Option Bool
 |[]=>some false
 |y::ys=>(Eh y x).bind λk=>(memD x ys).map (k||·)
def Bv:PyData->Bool
 |.int _=>true
 |.str _=>true
 |.none=>true
 |_=>false
def Jh(f:Bool):DR2:=λx y Q=>∃d k,(y=.list d\/y=.tuple d)/\Bv x=true/\memD x d=some k/\Q (.bool (if f then !k else k))
def xI{x y:PyData}(f:Dt K H v x)(d:Dt K H w y)(e:Eh y x=some k):cC w=true/\eqV w v=k:=by cases f<;>cases d<;>cases e<;>exact⟨rfl,rfl⟩
def Bw{x:PyData}(d:Dt K H v x)(f:Bv x=true):cC v=true:=by cases d<;>first|rfl|cases f
def oZ{x:PyData}(f:Dt K H v x)(s:Bv x=true)(h:DtAll K H vs ds)(e:memD x ds=some k):cC v=true/\vs.all cC=true/\inV v vs=k:=by
 induction ds generalizing vs k with
 |nil=>cases h;cases e;exact⟨Bw f s,rfl,rfl⟩
 |cons d ds p=>
  cases h with
  |@cons w _ vs _ r t=>
   obtain⟨u,o,e⟩:=aaO.mp e;obtain⟨y,n,rfl⟩:=aaN.mp e;obtain⟨q,m,j⟩:=p t n;obtain⟨l,g⟩:=xI f r o;refine⟨q,?_,?_⟩
   ·show (cC w&&vs.all cC)=true;rw[l,m];rfl
   ·show (eqV w v||inV v vs)=_;rw[g,j]
def zK:SndR2 K (G1 K neg) (Jh neg):=by
 rintro H v u s r w Q n l ⟨y,k,p,o,j,m⟩ q;rcases p with rfl|rfl
 ·cases l with
  |lst h t=>obtain⟨g,d,f⟩:=oZ n o t j;exact⟨_,_,rfl,.inl h,g,d,by rw[f];exact q _ _ (.bl _) m⟩
 ·cases l with
  |tup h t=>obtain⟨g,d,f⟩:=oZ n o t j;exact⟨_,_,rfl,.inr h,g,d,by rw[f];exact q _ _ (.bl _) m⟩
def nG(r n:DR2)(da db dc:DE):DE:=λo Q=>da o λx j=>db j λy f=>∃m h,aw f x=some m/\aw f y=some h/\r m h λz=>∃k,z=.bool k /\
 if k=true then dc f λw g=>∃h l,aw g y=some h/\aw g w=some l/\n h l λd=>Q (.val (.fz d)) g else Q (.val (.fz (.bool false))) f
def jD(P:SndR2 K r2 r)(A:SndR2 K r2' r')(D:bG K ta da)(hb:bG K tb db)(hc:bG K tc dc):bG K (mY r2 r2' ta tb tc) (nG r r' da db dc):=by
 intro b F o H Z J L Qd Q g R h q;refine D b F o H Z J L _ _ g R h λv H1 x p O W=>hb b F o H1 p _ _ _ _ g O W λu l y n j C=>?_;obtain⟨N,M,e1,Y,h3⟩:=C;refine P l v u N M _ _ (g▸j.dt2 e1) (g▸j.dt Y) h3 λw d t f=>?_;obtain⟨k,rfl,f⟩:=f;cases t;refine⟨k,rfl,?_⟩;cases k with
 |false=>rw[if_neg aal]at f ⊢;exact q _ l _ _ (j.drop.drop.sc (.bl _)) f
 |true=>rw[if_pos rfl]at f ⊢;refine hc b F o l n _ _ _ _ g j f λw B z S m h4=>?_;obtain⟨s,I,T,U,h5⟩:=h4;exact A B u w s I _ _ (g▸m.dt2 T) (g▸m.dt U) h5 λw d t f=>q w B _ _ (m.drop.drop.drop.sc t) f
def t9(h:OpR X (compareOp op) r2)(g:SndR2 X.K r2 r)(d:OpR X (compareOp op') r2')(f:SndR2 X.K r2' r')(j:lastMarks [op,op'] [b,c]=false:=by with_unfolding_all rfl):
  PDe X a da->PDe X b db->PDe X c dc->PDe X (.Compare a [op,op'] [b,c] pos) (nG r r' da db dc)
 |⟨_,h1,s1⟩,⟨_,h2,s2⟩,⟨_,h3,s3⟩=>⟨_,sZ h d h1 h2 h3 j,jD g f s1 s2 s3⟩
def Ji(r:DR1)(a:DE):DE:=λg Q=>a g λx f=>∃d,aw f x=some d/\r d λz=>Q (.val (.fz z)) f
def Ha:DR1:=λx Q=>∃i,x=.int i/\Q (.int (-i))
theorem By:PDe X a da->PDe X (.UnaryOp .USub a pos) (Ji Ha da)
 |⟨_,f,s1⟩=>⟨_,zD sW f,λb F σ H ρ τ θ m Q j R h q=>s1 b F σ H ρ τ θ _ _ j R h λv l x ρ1 g ⟨d,e,i,k,f⟩=>by
  subst k;cases g.dt e;exact⟨i,rfl,q _ l _ _ (g.drop.sc (.int _)) f⟩⟩
def Ei(a b:DE):DE:=λf Q=>a f λx d=>∃k,aw d x=some (.bool k)/\if k=true then b d Q else Q (.val (.fz (.bool false))) d
def Hb(a b:DE):DE:=λf Q=>a f λx d=>∃k,aw d x=some (.bool k)/\if k=true then Q (.val (.fz (.bool true))) d else b d Q
def Ej(a:DE):DE:=λf Q=>a f λx d=>∃k,aw d x=some (.bool k)/\Q (.val (.fz (.bool (!k)))) d
theorem uc{d}:PDe X a da->PDe X (.BoolOp d [a] pos) da
 |⟨_,h1,s1⟩=>⟨_,Ax h1,s1⟩
theorem Bz:PDe X a da->PDe X (.BoolOp .And (b::es) pos) db->PDe X (.BoolOp .And (a::b::es) pos) (Ei da db)
 |⟨_,d,s1⟩,⟨_,h2,s2⟩=>⟨_,Ay d h2,λb F σ H ρ τ θ l Q g R h q=>s1 b F σ H ρ τ θ _ _ g R h λv j x ρ1 f ⟨k,e,d⟩=>by
  cases f.dt e;refine⟨k,rfl,?_⟩;cases k with
  |false=>rw[if_neg aal]at d ⊢;exact q _ j _ _ (f.drop.sc (.bl _)) d
  |true=>rw[if_pos rfl]at d ⊢;exact s2 b F σ j ρ1 τ θ _ _ g f.drop d q⟩
theorem Ek:PDe X a da->PDe X (.BoolOp .Or (b::es) pos) db->PDe X (.BoolOp .Or (a::b::es) pos) (Hb da db)
 |⟨_,d,s1⟩,⟨_,h2,s2⟩=>⟨_,DL d h2,λb F σ H ρ τ θ l Q g R h q=>s1 b F σ H ρ τ θ _ _ g R h λv j x ρ1 f ⟨k,e,d⟩=>by
  cases f.dt e;refine⟨k,rfl,?_⟩;cases k with
  |true=>rw[if_pos rfl]at d ⊢;exact q _ j _ _ (f.drop.sc (.bl _)) d
  |false=>rw[if_neg aal]at d ⊢;exact s2 b F σ j ρ1 τ θ _ _ g f.drop d q⟩
theorem BA:PDe X a da->PDe X (.UnaryOp .Not a pos) (Ej da)
 |⟨_,d,s1⟩=>⟨_,Az d,λb F σ H ρ τ θ l Q g R h q=>s1 b F σ H ρ τ θ _ _ g R h λv j x ρ1 f ⟨k,e,d⟩=>by
  cases f.dt e;exact⟨k,rfl,q _ j _ _ (f.drop.sc (.bl _)) d⟩⟩
def lK(a:DE):DT:=λf Q=>a f λx d=>∃k,aw d x=some (.bool k)/\Q k d
def ia(n:bG K ta da):SndT K (sY ta) (lK da):=λb F j H m f g s Q l R h q=>n b F j H m f g _ _ l R h λv p x o d ⟨k,e,r⟩=>by cases d.dt e;exact⟨k,rfl,q _ p _ d.drop r⟩
def BB(n:bG K ta da):SndT K (tB ta) (lK da):=λb F j H m f g s Q l R h q=>n b F j H m f g _ _ l R h λv p x o d ⟨k,e,r⟩=>by cases d.dt e;exact⟨k,rfl,q _ p _ d.drop r⟩
theorem xJ(d:OpR X (compareOp op) r2)(g:SndR2 X.K r2 r)(f:behindInMarks op b=false):PDe X a da->PDe X b db->PDt X (.Compare a [op] [b] pos) (lK (xF r da db))
 |⟨_,h1,s1⟩,⟨_,h2,s2⟩=>⟨_,oP d h1 h2 f,ia (nF g s1 s2)⟩
def rN(h:OpR X (compareOp op) r2)(g:SndR2 X.K r2 r)(d:OpR X (compareOp op') r2')(f:SndR2 X.K r2' r')(j:lastMarks [op,op'] [b,c]=false:=by with_unfolding_all rfl):
  PDe X a da->PDe X b db->PDe X c dc->PDt X (.Compare a [op,op'] [b,c] pos) (lK (nG r r' da db dc))
 |⟨_,h1,s1⟩,⟨_,h2,s2⟩,⟨_,h3,s3⟩=>⟨_,s8 h d h1 h2 h3 j,ia (jD g f s1 s2 s3)⟩
def El(t u:DT):DT:=λf Q=>t f λc d=>if c=true then u d Q else Q false d
def Hc(t u:DT):DT:=λf Q=>t f λc d=>if c=true then Q true d else u d Q
def Em(t:DT):DT:=λf Q=>t f λc d=>Q (!c) d
variable{dt du:DT}
theorem PDw.pt:PDw X e dt->PDt X e dt
 |⟨_,h,s⟩=>⟨_,h.pt,s⟩
theorem ud:PDt X a dt->PDw X (.BoolOp .And [a] pos) dt
 |⟨_,h,s⟩=>⟨_,wY h,s⟩
theorem xK:PDt X a dt->PDw X (.BoolOp .Or [a] pos) dt
 |⟨_,h,s⟩=>⟨_,Au h,s⟩
theorem xM:PDt X a dt->PDw X (.BoolOp .And (b::es) pos) du->PDw X (.BoolOp .And (a::b::es) pos) (El dt du)
 |⟨_,d,s1⟩,⟨_,h2,s2⟩=>⟨_,Av d h2,λb F σ H ρ τ θ l Q g R h q=>s1 b F σ H ρ τ θ _ _ g R h λk j ρ1 f d=>by
  cases k with
  |false=>rw[if_neg aal]at d ⊢;exact q _ j _ f d
  |true=>rw[if_pos rfl]at d ⊢;exact s2 b F σ j ρ1 τ θ _ _ g f d q⟩
theorem BC:PDt X a dt->PDw X (.BoolOp .Or (b::es) pos) du->PDw X (.BoolOp .Or (a::b::es) pos) (Hc dt du)
 |⟨_,d,s1⟩,⟨_,h2,s2⟩=>⟨_,DF d h2,λb F σ H ρ τ θ l Q g R h q=>s1 b F σ H ρ τ θ _ _ g R h λk j ρ1 f d=>by
  cases k with
  |true=>rw[if_pos rfl]at d ⊢;exact q _ j _ f d
  |false=>rw[if_neg aal]at d ⊢;exact s2 b F σ j ρ1 τ θ _ _ g f d q⟩
theorem xN:PDt X a dt->PDt X (.UnaryOp .Not a pos) (Em dt)
 |⟨_,h,s⟩=>⟨_,Aw h,λb F σ H ρ τ θ l Q d R h q=>s b F σ H ρ τ θ _ _ d R h λk f ρ1 j g=>q _ f _ j g⟩
def Jj(t:DT)(a b:DE):DE:=λf Q=>t f λc d=>if c=true then a d Q else b d Q
theorem En:PDt X c dt->PDe X a da->PDe X b db->PDe X (.IfExp c a b pos) (Jj dt da db)
 |⟨_,h,s⟩,⟨_,d,s1⟩,⟨_,h2,s2⟩=>⟨_,sP h d h2,λb F σ H ρ τ θ l Q f R h q=>s b F σ H ρ τ θ _ _ f R h λk g ρ1 j d=>by
  cases k with
  |true=>rw[if_pos rfl]at d ⊢;exact s1 b F σ g ρ1 τ θ _ _ f j d q
  |false=>rw[if_neg aal]at d ⊢;exact s2 b F σ g ρ1 τ θ _ _ f j d q⟩
def DtAll.emp(h:DtAll K H xs ds):xs.isEmpty=ds.isEmpty:=by cases h<;>rfl
end
end
section
section
variable{X:Cx}{K:Waa}{a b c e:Expr}{es:List Expr}{da db dc:DE}{dt:DA}{pos:Pos}{x:Str}
def dNil:DA:=λd Q=>Q [] d
def Ep(a:DE)(t:DA):DA:=λg Q=>a g λx f=>t f λh d=>Q (x::h) d
def pda_nil:PDa X [] dNil:=⟨_,bz,λb F i H d f g k Q j R h q=>q [] H [] d rfl R h⟩
theorem ue(hs:starEach (e::es) X.env=(false,eval e X.env)::starEach es X.env:=by rfl):PDe X e da->PDa X es dt->PDa X (e::es) (Ep da dt)
 |⟨_,i,s1⟩,⟨_,d,s2⟩=>⟨_,aP i d hs,λb F k H t n o z Q l R h q=>s1 b F k H t n o _ _ l R h λv w r g s i=>s2 b F k w g _ _ _ _ l s i λu m p f j y d=>
  q (v::u) m (r::p) f (by simp[j]) (Rel.xc y j) d⟩
end
def own1(ρ:DEnv):OR->Option (OD×DEnv)
 |.val x=>some (x,ρ)
 |.rf i=>(frz1 ρ (.rf i)).map λz=>(.fz z.1,z.2)
def mv1(ρ:DEnv):OR->Option (OD×DEnv)
 |.val x=>some (x,ρ)
 |.rf i=>(ρ[i]?.join).map λx=>(x,ρ.set i none)
def mapR(f:DEnv->OR->Option (OD×DEnv))(ρ:DEnv):List OR->Option (List OD×DEnv)
 |[]=>some ([],ρ)
 |r::rs=>(f ρ r).bind λz=>(mapR f z.2 rs).map λy=>(z.1::y.1,y.2)
def wQ:List OD->Option (List PyData)
 |[]=>some []
 |.fz d::xs=>match wQ xs with|some ds=>some (d::ds)|none=>none
 |_::_=>none
def mkTup(xs:List OD):OD:=match wQ xs with
 |some a=>.fz (.tuple a)
 |none=>.tup xs
section
variable{b:Bs}{F:List Fr}{σ:St}{H H':Hp}{ρ ρ':DEnv}{τ vs:List V}{θ rs:List OR}{v u:V}{r:OR}{x y:OD}{d:PyData}{ds:List PyData}{i:Nat}{L:List (V×OD)}{p:Addr}
def Rel.own1(R:Rel b F σ H ρ (v::τ) (r::θ))(e:own1 ρ r=some (x,ρ')):Rel b F σ H ρ' (v::τ) (.val x::θ):=by
 cases r with
 |val x=>simp only[L2.own1]at e;cases e;exact R
 |rf i=>simp only[L2.own1,aaN]at e;obtain⟨⟨d,f⟩,c,a⟩:=e;cases a;exact R.frz1 c
def Rel.mv1(R:Rel b F σ H ρ (v::τ) (r::θ))(e:mv1 ρ r=some (x,ρ')):Rel b F σ H ρ' (v::τ) (.val x::θ):=by
 cases r with
 |val x=>simp only[L2.mv1]at e;cases e;exact R
 |rf i=>
  simp only[L2.mv1,aaN]at e;obtain⟨x,c,a⟩:=e;cases a;obtain⟨u,f,w⟩:=R.drop.slot (join_some c);have:v=u:=by have:=R.al.1;rw[f]at this;cases this;rfl
  subst this;exact⟨R.wf.off,R.drop.al,R.wff,w⟩
def fv{f:DEnv->OR->Option (OD×DEnv)}(c:∀{ρ ρ':DEnv}{τ:List V}{θ:List OR}{v:V}{r:OR}{x:OD},Rel b F σ H ρ (v::τ) (r::θ)->f ρ r=some (x,ρ')->Rel b F σ H ρ' (v::τ) (.val x::θ)):
  ∀{vs:List V}{rs:List OR}{ρ ρ':DEnv}{xs:List OD}{τ:List V}{θ:List OR},Rel b F σ H ρ (vs++τ) (rs++θ)->vs.length=rs.length->mapR f ρ rs=some (xs,ρ')->Rel b F σ H ρ' (vs++τ) (xs.map OR.val++θ)/\vs.length=xs.length
 |[],[],_,_,_,_,_,R,_,e=>by simp only[mapR]at e;cases e;exact⟨R,rfl⟩
 |v::vs,r::rs,ρ,ρ',ds,τ,θ,R,e,h=>by
  simp only[mapR,aaO,aaN]at h;obtain⟨⟨d,ρ1⟩,k,⟨l,ρ2⟩,j,m⟩:=h;cases m;have n:Rel b F σ H ρ1 (v::(vs++τ)) (.val d::(rs++θ)):=c R k;have a:vs.length=rs.length:=by simpa using e
  obtain⟨o,g⟩:=fv c (Rel.v3 (vs:=vs) (rs:=rs) n a) a j;exact⟨Rel.xc o (by rw[g,aaa]),by simp[g]⟩
 |[],_::_,_,_,_,_,_,_,e,_=>by simp at e
 |_::_,[],_,_,_,_,_,_,e,_=>by simp at e
theorem cp:∀{vs:List V}{xs:List OD},vs.length=xs.length->stk vs (xs.map OR.val)=vs.zip xs
 |[],[],_=>rfl
 |_::_,_::_,e=>by simp only[aam,stk,abW];rw[cp (by simpa using e)]
 |[],_::_,e=>by simp at e
 |_::_,[],e=>by simp at e
def Rel.vals{xs:List OD}(R:Rel b F σ H ρ (vs++τ) (xs.map OR.val++θ))(e:vs.length=xs.length):Wd b H (vs.zip xs++(stk τ θ++(flat σ ρ++ff F))):=by have w:=R.wd;rw[aB (by rw[aaa];exact e),cp e,aad]at w;exact w
def Rel.push(R:Rel b F σ H ρ τ θ)(w:Wd b H' ((v,x)::(stk τ θ++(flat σ ρ++ff F)))):Rel b F σ H' ρ (v::τ) (.val x::θ):=⟨R.wf,R.al,R.wff,w⟩
def Wd.below{z:V×OD}{L1 L2:List (V×OD)}(w:Wd b H (z::(L1++L2))):Wd b H (z::L2):=Wd.drops (L1:=L1) (w.perm (aax.symm))
def fzL_map{xs:List OD}{ds:List PyData}(e:wQ xs=some ds):xs=ds.map OD.fz:=by
 induction xs generalizing ds with
 |nil=>cases e;rfl
 |cons x xs a=>
  cases x with
  |fz d=>
   rw[wQ]at e;cases h:wQ xs with
   |none=>rw[h]at e;cases e
   |some ds=>rw[h]at e;cases e;rw[a h];rfl
  |_=>cases e
theorem ib:∀(ds:List PyData),wQ (ds.map OD.fz)=some ds
 |[]=>rfl
 |d::ds=>by simp only[aam,wQ,ib ds]
theorem dats_fz:∀(ds:List PyData),OD.ay (ds.map OD.fz)=some ds
 |[]=>rfl
 |d::ds=>by simp only[aam,OD.ay,OD.dat,dats_fz ds]
def lL{xs:List OD}(w:Wd b H (vs.zip xs++L))(c:vs.length=xs.length)(a:H p=none):Wd b (upd H p (.tup vs)) ((.ref p,mkTup xs)::L):=by
 unfold mkTup;cases h:wQ xs with
 |some ds=>have g:=fzL_map h;subst g;refine Wd.below (L1:=vs.zip (ds.map OD.fz)) (w.fx (λS f=>f.all (by simpa using c) λz e=>aaf _ e) a)
 |none=>exact w.zm c a
end
section
variable{X:Cx}{K:Waa}{a b c e:Expr}{es:List Expr}{da db dc:DE}{dt:DA}{pos:Pos}{x:Str}
def Hd(f:DEnv->OR->Option (OD×DEnv))(t:DA):DE:=λj Q=>t j λh g=>∃i d,mapR f g h=some (i,d)/\h.length<=1000000/\Q (.val (mkTup i)) d
def He(f:DEnv->OR->Option (OD×DEnv))(t:DA):DE:=λj Q=>t j λh g=>∃i d,mapR f g h=some (i,d)/\h.length<=1000000/\Q (.val (.lst i)) d
structure Hand (f:DEnv->OR->Option (OD×DEnv)):Prop where
 ok:∀{b:Bs}{F:List Fr}{σ:St}{H:Hp}{ρ ρ':DEnv}{τ:List V}{θ:List OR}{v:V}{r:OR}{x:OD},Rel b F σ H ρ (v::τ) (r::θ)->f ρ r=some (x,ρ')->Rel b F σ H ρ' (v::τ) (.val x::θ)
def Er:Hand own1:=⟨Rel.own1⟩
variable{f:DEnv->OR->Option (OD×DEnv)}
theorem BD{s}(m:Hand f):PDa X es dt->PDe X (.Tuple es s pos) (Hd f dt)
 |⟨_,g,s1⟩=>⟨_,m5 g,λb F σ H ρ τ θ t Q n R h q=>s1 b F σ H ρ τ θ _ _ n R h λvs u rs ρ1 i l ⟨xs,ρ2,r,o,g⟩=>⟨j5 (by rw[i];exact o),λp k=>by
  obtain⟨j,d⟩:=fv m.ok l i r;exact q _ _ _ _ ((j.drops (by rw[aaa];exact d)).push (lL (j.vals d) d k)) g⟩⟩
theorem BE(m:Hand f):PDa X es dt->PDe X (.List es pos) (He f dt)
 |⟨_,g,s1⟩=>⟨_,A6 g,λb F σ H ρ τ θ s Q n R h q=>s1 b F σ H ρ τ θ _ _ n R h λvs t rs ρ1 i l ⟨xs,ρ2,r,o,g⟩=>⟨j5 (by rw[i];exact o),λp k=>by
  obtain⟨j,d⟩:=fv m.ok l i r;exact q _ _ _ _ ((j.drops (by rw[aaa];exact d)).push ((j.vals d).er d k)) g⟩⟩
end
def eQ(ρ:DEnv):OR->Option OD
 |.val x=>some x
 |.rf i=>ρ[i]?.join
def listOf:OD->Option (List PyData)
 |.fz (.list ds)=>some ds
 |.lst xs=>wQ xs
 |_=>none
def tupOf:OD->Option (List PyData)
 |.fz (.tuple ds)=>some ds
 |_=>none
def BF(ρ:DEnv)(r:OR):Option (List PyData):=(eQ ρ r).bind listOf
def BG(ρ:DEnv)(r:OR):Option (List PyData):=(eQ ρ r).bind tupOf
def itemO:OD->Int->Option OD
 |.fz (.list ds),i=>match atI ds i with|some d=>some (.fz d)|none=>none
 |.fz (.tuple ds),i=>match atI ds i with|some d=>some (.fz d)|none=>none
 |.lst xs,i=>atI xs i
 |.tup xs,i=>atI xs i
 |_,_=>none
def itemS:OD->Int->Option (PyData×OD)
 |.lst xs,i=>match ixN xs.length i with
  |some k=>match xs[k]? with
   |some c=>match c.dat with|some d=>some (d,.lst (xs.set k (.fz d)))|none=>none
   |none=>none
  |none=>none
 |.tup xs,i=>match ixN xs.length i with
  |some k=>match xs[k]? with
   |some c=>match c.dat with|some d=>some (d,.tup (xs.set k (.fz d)))|none=>none
   |none=>none
  |none=>none
 |_,_=>none
def cv(ρ:DEnv)(r:OR)(i:Int):Option (OD×DEnv):=match r with
 |.val x=>match itemO x i with|some y=>some (y,ρ)|none=>none
 |.rf j=>match ρ[j]?.join with
  |some x=>match itemS x i with|some (d,y)=>some (.fz d,ρ.set j (some y))|none=>none
  |none=>none
section
variable{b:Bs}{F:List Fr}{σ:St}{H H':Hp}{ρ ρ':DEnv}{τ vs:List V}{θ rs:List OR}{v u:V}{r r':OR}{x y:OD}{d:PyData}{ds:List PyData}{i:Nat}{L:List (V×OD)}{p:Addr}
def ic{f a:Type}{xs:List f}{ys:List a}{i:Int}{y:a}(g:xs.length=ys.length)(h:atI ys i=some y):∃k x,ixN xs.length i=some k/\ys[k]?=some y/\xs[k]?=some x/\atI xs i=some x:=by unfold atI at h ⊢;rw[<-g]at h;simp only[aaO]at h;obtain⟨k,e,c⟩:=h;have j:k<ys.length:=(aaj.mp c).1;refine⟨k,xs[k]'(by omega),e,c,aap _,?_⟩;rw[e];exact aap _
def cD{a c:Type}{xs:List a}{ys:List c}{k:Nat}{x:a}{y:c}(f:xs[k]?=some x)(e:ys[k]?=some y):(x,y)∈xs.zip ys:=by rw[aaQ];exact⟨k,by rw[acq];exact⟨f,e⟩⟩
def Wd.pick{z:V×OD}{Z:List (V×OD)}(w:Wd b H (Z++L))(m:z∈Z):Wd b H (z::L):=by obtain⟨c,a,rfl⟩:=List.append_of_mem m;refine Wd.below (L1:=c++a) (w.perm ?_);rw[aad,aad];exact aax
def BH{n k:Nat}{i:Int}(h:ixN n i=some k):k<n:=by
 unfold ixN at h;split at h
 ·split at h
  ·cases h;omega
  ·cases h
 ·split at h
  ·cases h;omega
  ·cases h
def set_at{a:Type}{l:List a}{k:Nat}{x y:a}(h:l[k]?=some x):(l.set k y)[k]?=some y:=aa7 (aaj.mp h).1
theorem Wd.r6{k:Nat}{z:OD}(w:Wd b H ((v,x)::L))(e:x.kids[k]?=some z):∃u,Chd b H v x k u z/\Wd b H ((u,z)::L):=by
 obtain⟨I,s,_,_⟩:=w.out;cases s with
 |cons r t=>obtain⟨u,B,j,c,_⟩:=r.kid e;refine⟨u,c,Wd.puts (L1:=[(v,x)]) (L2:=[(u,z)]) w λS A h g l J n=>?_⟩;obtain⟨q,B,j,o,m,a,_⟩:=(OwL.one h).kid e;have D:q=u:=(Chd.det o c).1;subst D;have f:∀c∈B,c∈A:=λc C=>a.mem_iff.mpr (aaf _ C);exact⟨B,OwL.of1 (Ow.sub n (λc z=>z.elim (·.1) λz=>l c (f c z)) m),(aaD.mp (a.nodup_iff.mp g)).1,f⟩
def Wd.itemF{i:Int}{l:Bool}(w:Wd b H ((v,.fz (if l then .list ds else .tuple ds))::L))(e:atI ds i=some d):∃p vs u,v=.ref p/\(SqL b.K H p vs\/SqT b.K H p vs)/\atI vs i=some u/\Wd b H ((u,.fz d)::L):=by
 obtain⟨c,g⟩:=Wd.pin w rfl;obtain⟨a,rfl,j,h,f⟩:=g.pinned aab;obtain⟨k,u,_,o,m,n⟩:=ic j e;refine⟨a,c,u,rfl,?_,n,Wd.below (L1:=[(V.ref a,OD.pin l c ds)]) (f.pick (cD m (by rw[aat,o];rfl)))⟩;cases l with
 |true=>exact .inl h
 |false=>exact .inr h
def Wd.itemO{i:Int}(w:Wd b H ((v,x)::L))(e:itemO x i=some y):∃p vs u,v=.ref p/\(SqL b.K H p vs\/SqT b.K H p vs)/\atI vs i=some u/\Wd b H ((u,y)::L):=by
 cases x with
 |fz d=>
  cases d with
  |list ds=>
   simp only[L2.itemO]at e;cases h:atI ds i with
   |none=>rw[h]at e;cases e
   |some d=>rw[h]at e;cases e;exact Wd.itemF (l:=true) w h
  |tuple ds=>
   simp only[L2.itemO]at e;cases h:atI ds i with
   |none=>rw[h]at e;cases e
   |some d=>rw[h]at e;cases e;exact Wd.itemF (l:=false) w h
  |_=>simp[L2.itemO]at e
 |lst xs=>
  simp only[L2.itemO]at e;obtain⟨k,_,m,j,_⟩:=ic (xs:=xs) rfl e;obtain⟨u,c,f⟩:=w.r6 (k:=k) (z:=y) j;cases c with
  |lst n a g o=>exact⟨_,_,u,rfl,.inl (SqL.of n),by unfold atI;rw[a,m];exact g,f⟩
 |tup xs=>
  simp only[L2.itemO]at e;obtain⟨k,_,m,j,_⟩:=ic (xs:=xs) rfl e;obtain⟨u,c,f⟩:=w.r6 (k:=k) (z:=y) j;cases c with
  |tup n a g o=>exact⟨_,_,u,rfl,.inr (SqT.of n),by unfold atI;rw[a,m];exact g,f⟩
 |dic _ _=>simp[L2.itemO]at e
 |obj _ _ _=>simp[L2.itemO]at e
 |pin _ _ _=>simp[L2.itemO]at e
 |hole _=>simp[L2.itemO]at e
def Wd.itemS{i:Int}(w:Wd b H ((v,x)::L))(e:itemS x i=some (d,y)):∃p vs u,v=.ref p/\(SqL b.K H p vs\/SqT b.K H p vs)/\atI vs i=some u/\Wd b H ((u,.fz d)::(v,y)::L):=by
 cases x with
 |fz d=>simp[L2.itemS]at e
 |lst t=>
  simp only[L2.itemS]at e;split at e
  ·rename_i k o;split at e
   ·rename_i c f;split at e
    ·rename_i s m;cases e;obtain⟨u,h,a⟩:=w.vu (ks:=[k]) (y:=c) (d:=d) (by simp[OD.at,OD.kids,f]) m;cases h with
     |cons l j=>
      cases j;cases l with
      |lst q g n z=>simp only[OD.put,OD.kids,f,OD.dv]at a;exact⟨_,_,u,rfl,.inl (SqL.of q),by unfold atI;rw[g,o];exact n,a⟩
    ·cases e
   ·cases e
  ·cases e
 |tup t=>
  simp only[L2.itemS]at e;split at e
  ·rename_i k o;split at e
   ·rename_i c f;split at e
    ·rename_i s m;cases e;obtain⟨u,h,a⟩:=w.vu (ks:=[k]) (y:=c) (d:=d) (by simp[OD.at,OD.kids,f]) m;cases h with
     |cons l j=>
      cases j;cases l with
      |tup q g n z=>simp only[OD.put,OD.kids,f,OD.dv]at a;exact⟨_,_,u,rfl,.inr (SqT.of q),by unfold atI;rw[g,o];exact n,a⟩
    ·cases e
   ·cases e
  ·cases e
 |dic _ _=>simp[L2.itemS]at e
 |obj _ _ _=>simp[L2.itemS]at e
 |pin _ _ _=>simp[L2.itemS]at e
 |hole _=>simp[L2.itemS]at e
end
section
variable{X:Cx}{K:Waa}{a b c e:Expr}{es:List Expr}{da db dc:DE}{dt:DA}{pos:Pos}{x:Str}
def Jk(a b:DE):DE:=λh Q=>a h λx g=>b g λy d=>∃i z f,aw d y=some (.int i)/\cv d x i=some (z,f)/\Q (.val z) f
theorem Et(hs:PlainIx b):PDe X a da->PDe X b db->PDe X (.Subscript a b pos) (Jk da db)
 |⟨_,t,s1⟩,⟨_,o,s2⟩=>⟨_,tw m7 t o hs,λb F σ H ρ τ θ T Q r R h q=>s1 b F σ H ρ τ θ _ _ r R h λv S x ρ1 N t=>s2 b F σ S ρ1 _ _ _ _ r N t λu s y ρ2 D ⟨i,z,ρ3,P,f,o⟩=>by
  have I:=D.dt P;cases I;have g:=D.drop;cases x with
  |val x=>
   simp only[cv]at f;cases k:itemO x i with
   |none=>rw[k]at f;cases f
   |some B=>rw[k]at f;cases f;obtain⟨p,m,u,rfl,hs,l,w⟩:=Wd.itemO g.wd k;have n:=q u s _ _ (g.drop.push w) o;rw[r]at hs;exact hs.elim (λhs=>.inl ⟨p,m,i,u,rfl,rfl,hs,l,n⟩) λhs=>.inr (.inl ⟨p,m,i,u,rfl,rfl,hs,l,n⟩)
  |rf j=>
   simp only[cv]at f;cases k:ρ2[j]?.join with
   |none=>rw[k]at f;cases f
   |some x=>
    rw[k]at f;simp only at f;cases A:itemS x i with
    |none=>rw[A]at f;cases f
    |some B=>
     obtain⟨d,J⟩:=B;rw[A]at f;cases f;obtain⟨O,C,w⟩:=g.drop.slot (join_some k);have:v=O:=by have:=g.al.1;rw[C]at this;cases this;rfl
     subst this;obtain⟨p,m,u,rfl,hs,l,L⟩:=Wd.itemS w A;have M:Rel b F σ s (ρ2.set j (some J)) (u::τ) (.val (.fz d)::θ):=Rel.back (τ:=u::τ) (θ:=.val (.fz d)::θ) g.wf g.drop.al g.wff C (L.perm (List.Perm.swap _ _ _));have n:=q u s _ _ M o;rw[r]at hs;exact hs.elim (λhs=>.inl ⟨p,m,i,u,rfl,rfl,hs,l,n⟩) λhs=>.inr (.inl ⟨p,m,i,u,rfl,rfl,hs,l,n⟩)⟩
variable{k:Nat}{f:Addr}{fd:FuncData}{ps:List Str}{sp:DSp}{p:Pos}
def ka(ρ:DEnv):List OR->Option (List PyData)
 |[]=>some []
 |r::rs=>(aw ρ r).bind λd=>(ka ρ rs).map (d::·)
theorem Rel.dtL{b:Bs}{F:List Fr}{σ:St}{H:Hp}{ρ:DEnv}:∀{vs:List V}{rs:List OR}{τ:List V}{θ:List OR}{ds:List PyData},Rel b F σ H ρ (vs++τ) (rs++θ)->vs.length=rs.length->ka ρ rs=some ds->DtAll b.K H vs ds
 |[],[],_,_,_,_,_,e=>by simp only[ka]at e;cases e;exact .nil
 |v::vs,r::rs,τ,θ,ds,R,el,e=>by simp only[ka,aaO,aaN]at e;obtain⟨d,i,g,h,rfl⟩:=e;exact .cons (Rel.dt R i) (Rel.dtL (Rel.drop R) (by simpa using el) h)
 |[],_::_,_,_,_,_,e,_=>by simp at e
 |_::_,[],_,_,_,_,e,_=>by simp at e
def SndCB(K:Waa)(h:List V->Hp->VK->Prop)(r:DRn):Prop:=∀(H:Hp) (vs:List V) (g:List PyData) (Qd:PyData->Prop) (Q:VK),DtAll K H vs g->r g Qd->(∀w d,Sc w d->Qd d->Q w H)->h vs H Q
def Gj(r:DRn)(t:DA):DE:=λj Q=>t j λi g=>∃h,ka g i=some h/\r h λd=>Q (.val (.fz d)) g
def uf{n:List V->Hp->VK->Prop}{r:DRn}{i:TA}(v:SndCB K n r)(A:tY K i dt):bG K (GZ n i) (Gj r dt):=λb F u H z o s L Q l R h q=>A b F u H z o s _ _ l R h λC m M D g j ⟨t,B,J⟩=>
 v m C t _ _ (l▸j.dtL g B) J λw d I y=>q w m _ _ ((j.drops g).sc I) y
def fA{h:List V->Hp->VK->Prop}{r:DRn}{i:String} (n:ck X (.builtin i) h) (l:SndCB X.K h r) (j:Gl X x) (q:X.mg x=none) (o:bootBuiltins x=some (.builtin i)) (m:x≠"__name__":=by decide) (g:(x==("__debug__":Str))=false:=by decide)
  (s:starEach (e::es) X.env=(false,eval e X.env)::starEach es X.env:=by rfl) (d:(backTo pos (starEach es X.env)).any (·.1)=false:=by rfl):PDa X (e::es) dt->PDe X (.Call (.Name x p) (e::es) [] pos) (Gj r dt)
 |⟨_,h1,s1⟩=>⟨_,cJ n j q o h1 m g s d,uf l s1⟩
def ug{h:List V->Hp->VK->Prop}{r:DRn}{i:String} (n:ck X (.type i) h) (l:SndCB X.K h r) (j:Gl X x) (q:X.mg x=none) (o:bootBuiltins x=some (.type i)) (m:x≠"__name__":=by decide) (g:(x==("__debug__":Str))=false:=by decide)
  (s:starEach (e::es) X.env=(false,eval e X.env)::starEach es X.env:=by rfl) (d:(backTo pos (starEach es X.env)).any (·.1)=false:=by rfl):PDa X (e::es) dt->PDe X (.Call (.Name x p) (e::es) [] pos) (Gj r dt)
 |⟨_,h1,s1⟩=>⟨_,eB n j q o h1 m g s d,uf l s1⟩
def kb:PyData->Option Nat
 |.list ds=>some ds.length
 |.tuple ds=>some ds.length
 |_=>none
def dLen:DRn:=λg Q=>∃d n,g=[d]/\kb d=some n/\Q (.int n)
def sc_len:SndCB K (λxs H Q=>∃x n,xs=[x]/\DZ K x H n/\Q (.int n) H) dLen:=by
 rintro H l j m Q i ⟨d,n,rfl,e,g⟩ q;cases i with
 |cons h t=>
  cases t;refine⟨_,n,rfl,?_,q _ _ (.int _) g⟩;cases h with
  |lst s t=>simp only[kb]at e;cases e;exact .inl ⟨_,s,t.length.symm⟩
  |tup s t=>simp only[kb]at e;cases e;exact .inr ⟨_,s,t.length.symm⟩
  |_=>simp[kb]at e
def dAbs:DRn:=λd Q=>∃i,d=[.int i]/\Q (.int (if i<0 then -i else i))
def sc_abs:SndCB K (λxs H Q=>∃i,xs=[.int i]/\Q (.int (if i<0 then -i else i)) H) dAbs:=by rintro H j m l Q g ⟨i,rfl,d⟩ q;cases g with|cons h t=>cases t;cases h;exact⟨i,rfl,q _ _ (.int _) d⟩
def dMin:DRn:=λd Q=>∃i j,d=[.int i,.int j]/\Q (.int (if j<i then j else i))
def sc_min:SndCB K (λxs H Q=>∃i j,xs=[.int i,.int j]/\Q (.int (if j<i then j else i)) H) dMin:=by rintro H m o n Q l ⟨i,j,rfl,d⟩ q;cases l with|cons h t=>cases t with|cons g t=>cases t;cases h;cases g;exact⟨i,j,rfl,q _ _ (.int _) d⟩
def toInt:PyData->Option Int
 |.int i=>some i
 |.bool k=>some (if k then 1 else 0)
 |_=>none
def dInt:DRn:=λg Q=>∃d i,g=[d]/\toInt d=some i/\Q (.int i)
def sc_int:SndCB K (λxs H Q=>(∃i,xs=[.int i]/\Q (.int i) H)\/∃k,xs=[.bl k]/\Q (.int (if k then 1 else 0)) H) dInt:=by
 rintro H m o n Q l ⟨d,i,rfl,e,g⟩ q;cases l with
 |cons h t=>
  cases t;cases h with
  |int j=>simp only[toInt]at e;cases e;exact .inl ⟨_,rfl,q _ _ (.int _) g⟩
  |bl k=>simp only[toInt]at e;cases e;exact .inr ⟨_,rfl,q _ _ (.int _) g⟩
  |_=>simp[toInt]at e
def allB:List PyData->Option (List Bool)
 |[]=>some []
 |.bool k::ds=>(allB ds).map (k::·)
 |_::_=>none
theorem lM:∀{ds:List PyData}{d:List Bool},allB ds=some d->ds=d.map PyData.bool
 |[],_,e=>by simp only[allB]at e;cases e;rfl
 |.bool k::ds,_,e=>by simp only[allB,aaN]at e;obtain⟨d,g,rfl⟩:=e;rw[lM g];rfl
 |.none::_,_,e=>by simp[allB]at e
 |.int _::_,_,e=>by simp[allB]at e
 |.str _::_,_,e=>by simp[allB]at e
 |.list _::_,_,e=>by simp[allB]at e
 |.tuple _::_,_,e=>by simp[allB]at e
 |.dict _::_,_,e=>by simp[allB]at e
def DtAll.bls{H:Hp}{vs:List V}{d:List Bool}(h:DtAll K H vs (d.map PyData.bool)):vs=d.map V.bl:=by
 induction d generalizing vs with
 |nil=>cases h;rfl
 |cons n i g=>cases h with|cons r t=>cases r;rw[aam,g t]
def Jl:DRn:=λg Q=>∃es d,g=[.list es]/\allB es=some d/\Q (.bool (d.all id))
end
end
section
def seqOf(x:OD):Option (List PyData):=match listOf x with
 |some a=>some a
 |none=>tupOf x
section
variable{b:Bs}{F:List Fr}{σ:St}{H H':Hp}{ρ ρ':DEnv}{τ vs:List V}{θ rs:List OR}{v u:V}{r r':OR}{x y:OD}{d:PyData}{ds:List PyData}{i:Nat}{L:List (V×OD)}{p:Addr}
def Rel.mem(R:Rel b F σ H ρ (v::τ) (r::θ))(e:eQ ρ r=some x):(v,x)∈stk (v::τ) (r::θ)++(flat σ ρ++ff F):=by
 cases r with
 |val y=>simp only[eQ]at e;cases e;simp[stk]
 |rf i=>simp only[eQ]at e;refine aae _ (aaf _ ?_);exact(bD (join_some e) R.al.1).mem_iff.mpr aab
def Rel.mem1(R:Rel b F σ H ρ (u::v::τ) (r'::r::θ))(e:eQ ρ r=some x):(v,x)∈stk (u::v::τ) (r'::r::θ)++(flat σ ρ++ff F):=by
 have h:=R.drop.mem e;cases r' with
 |val y=>simp only[stk];exact aah _ h
 |rf i=>exact h
theorem Rel.eu(R:Rel b F σ H ρ (u::v::τ) (r'::r::θ)):Rel b F σ H ρ (u::τ) (r'::θ):=(Rel.xc (vs:=[u]) (rs:=[r']) R rfl).drop
def Ows.fzs(h:Ows b S H vs (ds.map OD.fz) A):FzA b.K S H vs ds:=by
 induction ds generalizing vs A with
 |nil=>cases h;exact .nil
 |cons d ds a=>cases h with|cons r t=>cases r with|fz f=>exact .cons f (a t)
def Wd.exp(w:Wd b H L)(e:OwL b (λa=>a∈A\/b.S0 a) H L A)(f:A.Nodup)(c:∀a∈A,b.H0 a=none\/b.C a)(h:FzA b.K (λa=>a∈A\/b.S0 a) H vs ds):Wd b H (vs.zip (ds.map OD.fz)++L):=by
 have q:∀{vs:List V}{ds:List PyData},FzA b.K (λa=>a∈A\/b.S0 a) H vs ds->OwL b (λa=>a∈A\/b.S0 a) H (vs.zip (ds.map OD.fz)) []:=by
  intro vs;induction vs with
  |nil=>intro ds h;cases h;exact .nil
  |cons v vs g=>intro ds h;cases h with|cons r t=>exact Ows.cons (.fz r) (g t)
 exact⟨⟨A,OwL.kq (q h) e,f,c⟩,w.fr,w.s0,w.nt⟩
def Wd.ai(w:Wd b H L)(m:(v,x)∈L)(e:listOf x=some ds):∃a vs,v=.ref a/\vs.length=ds.length/\SqL b.K H a vs/\Wd b H (vs.zip (ds.map OD.fz)++L):=by
 obtain⟨A,j,k,g⟩:=w.out;obtain⟨B,h⟩:=OwL.mem j m;cases h with
 |@fz _ d f=>
  cases d with
  |list o=>simp only[listOf]at e;cases e;obtain⟨a,vs,rfl,l,c⟩:=f.ri;exact⟨a,vs,rfl,c.length,l.now,w.exp j k g c⟩
  |_=>simp[listOf]at e
 |@lst a vs xs A' e1 t=>simp only[listOf]at e;have n:=fzL_map e;subst n;have c:=Ows.fzs t;exact⟨a,vs,rfl,c.length,SqL.of e1,w.exp j k g c⟩
 |_=>simp[listOf]at e
theorem Wd.ej(w:Wd b H L)(m:(v,x)∈L)(e:tupOf x=some ds):∃a vs,v=.ref a/\vs.length=ds.length/\SqT b.K H a vs/\Wd b H (vs.zip (ds.map OD.fz)++L):=by
 obtain⟨A,j,k,c⟩:=w.out;obtain⟨B,h⟩:=OwL.mem j m;cases h with
 |@fz _ d f=>
  cases d with
  |tuple n=>simp only[tupOf]at e;cases e;obtain⟨a,vs,rfl,l,g⟩:=f.ua;exact⟨a,vs,rfl,g.length,l.now,w.exp j k c g⟩
  |_=>simp[tupOf]at e
 |_=>simp[tupOf]at e
def Wd.zr(w:Wd b H L)(m:(v,x)∈L)(e:seqOf x=some ds):∃a vs,v=.ref a/\vs.length=ds.length/\(SqL b.K H a vs\/SqT b.K H a vs)/\Wd b H (vs.zip (ds.map OD.fz)++L):=by
 unfold seqOf at e;cases h:listOf x with
 |some z=>rw[h]at e;cases e;obtain⟨a,vs,g,c,f,j⟩:=w.ai m h;exact⟨a,vs,g,c,.inl f,j⟩
 |none=>rw[h]at e;obtain⟨a,vs,g,c,f,j⟩:=w.ej m e;exact⟨a,vs,g,c,.inr f,j⟩
def Rel.er(R:Rel b F σ H ρ τ θ){Z:List (V×OD)}(w:Wd b H (Z++(stk τ θ++(flat σ ρ++ff F))))(c:vs.length=ds.length)(m:∀z∈vs.zip (ds.map OD.fz),z∈Z++(stk τ θ++(flat σ ρ++ff F)))(f:H p=none):
  Rel b F σ (upd H p (.lst vs)) ρ (.ref p::τ) (.val (.lst (ds.map OD.fz))::θ):=by
 obtain⟨A,e,h,a⟩:=w.out;have g:=Wd.exp w e h a ((OwL.vy e).all c m);exact R.push (Wd.below (Wd.er g (by simpa using c) f))
theorem Rel.fx(R:Rel b F σ H ρ τ θ){Z:List (V×OD)}(w:Wd b H (Z++(stk τ θ++(flat σ ρ++ff F))))(e:vs.length=ds.length)(m:∀z∈vs.zip (ds.map OD.fz),z∈Z++(stk τ θ++(flat σ ρ++ff F)))(a:H p=none):
  Rel b F σ (upd H p (.tup vs)) ρ (.ref p::τ) (.val (.fz (.tuple ds))::θ):=R.push (Wd.below (w.fx (λS c=>c.all e m) a))
end
section
variable{X:Cx}{K:Waa}{a b c e:Expr}{es:List Expr}{da db dc:DE}{dt:DA}{pos p:Pos}{x:Str}
def Gk(t:DA):DE:=λh Q=>t h λg d=>∃r f,g=[r]/\(eQ d r).bind seqOf=some f/\Q (.val (.lst (f.map OD.fz))) d
def BI(t:DA):DE:=λh Q=>t h λg d=>∃r f,g=[r]/\(eQ d r).bind listOf=some f/\Q (.val (.fz (.tuple f))) d
def ui(S:Gl X x) (s:X.mg x=none) (N:bootBuiltins x=some (.type "tuple")) (o:x≠"__name__":=by decide) (i:(x==("__debug__":Str))=false:=by decide)
  (t:starEach (e::es) X.env=(false,eval e X.env)::starEach es X.env:=by rfl) (f:(backTo pos (starEach es X.env)).any (·.1)=false:=by rfl):PDa X (e::es) dt->PDe X (.Call (.Name x p) (e::es) [] pos) (BI dt)
 |⟨_,j,s1⟩=>⟨_,eB ji S s N j o i t f,λb F C H L u y T Q k R h q=>s1 b F C H L u y _ _ k R h λO Y U P d g ⟨r,W,M,J,j⟩=>by
  subst M;obtain⟨z,D,I⟩:=aaO.mp J
  match O,d with
  |[v],_=>
   obtain⟨a,n,rfl,d,m,w⟩:=g.wd.ai (g.mem D) I;rw[k]at m;exact⟨a,n,rfl,.inl ⟨m,λl A=>q _ _ _ _ (Rel.eu (g.fx w d (λz B=>aaf _ B) A)) j⟩⟩⟩
def Hf(a b:DE):DE:=λh Q=>a h λx g=>b g λy d=>∃f es,BF d x=some f/\BF d y=some es/\f.length+es.length<=1000000/\Q (.val (.lst ((f++es).map OD.fz))) d
def pb{g i:Type}{xs f:List g}{ys d:List i}(h:xs.length=ys.length):(xs++f).zip (ys++d)=xs.zip ys++f.zip d:=List.zip_append h
theorem BJ:PDe X a da->PDe X b db->PDe X (.BinOp a .Add b pos) (Hf da db)
 |⟨_,k,s1⟩,⟨_,j,s2⟩=>⟨_,sV xD k j,λb F σ H ρ τ θ S Q m R h q=>s1 b F σ H ρ τ θ _ _ m R h λv L x ρ1 N k=>s2 b F σ L ρ1 _ _ _ _ m N k λu O y ρ2 g ⟨ds,es,I,D,d,j⟩=>by
  obtain⟨P,B,C⟩:=aaO.mp I;obtain⟨T,M,s⟩:=aaO.mp D;obtain⟨a,t,rfl,n,r,w⟩:=g.wd.ai (g.mem1 B) C;obtain⟨c,J,rfl,i,f,o⟩:=w.ai (aae _ (g.mem M)) s;rw[<-aad]at o;rw[m]at r f;refine⟨a,c,t,J,rfl,rfl,r,f,j5 (by omega),λl A=>q _ _ _ _ (Rel.eu (Rel.eu (g.er o (by simp[n,i]) (λz d=>?_) A))) j⟩;rw[aau,pb (by simpa using n)]at d;refine aaf _ ?_;rcases aai.mp d with d|d
  ·exact aae _ d
  ·exact aaf _ d⟩
abbrev DO:=DEnv->(Option Int->DEnv->Prop)->Prop
def Hg(K:Waa)(l:TO)(m:DO):Prop:=∀(b:Bs) (F:List Fr) (f:St) (H:Hp) (j:DEnv) (h:List V) (i:List OR) (Qd:Option Int->DEnv->Prop) (Q:Option Int->Hp->Prop),b.K=K->Rel b F f H j h i->m j Qd->(∀k g d,Rel b F f g d h i->Qd k d->Q k g)->l f H Q
inductive PDo (X:Cx)(e:Option Expr)(de:DO):Prop|mk (te:TO) (h:PO X e te) (s:Hg X.K te de)
def Gm:DO:=λd Q=>Q none d
def Iz(a:DE):DO:=λf Q=>a f λx d=>∃i,aw d x=some (.int i)/\Q (some i) d
def cutD{d:Type}(xs:List d)(lo hi:Option Int):List d:=(xs.drop (HT.sIx xs.length 0 lo)).take (HT.sIx xs.length xs.length hi-HT.sIx xs.length 0 lo)
variable{lo hi:Option Expr}{dl dh:DO}{p2:Pos}
def Jm(a:DE)(dl dh:DO):DE:=λi Q=>a i λx g=>dl g λl f=>dh f λu d=>∃h,BF d x=some h/\Q (.val (.lst ((cutD h l u).map OD.fz))) d
end
end
section
structure DEnds where
 nx:DEnv->Prop
 rt:OD->DEnv->Prop
 bk:DEnv->Prop:=λ_=>False
 ct:DEnv->Prop:=λ_=>False
abbrev DS:=DEnds->DEnv->Prop
def NoRf(W:Nat->Prop)(θ:List OR):Prop:=∀r∈θ,(∃x,r=.val x)\/∃j,W j/\r=.rf j
abbrev Ff:Nat->Prop:=λ_=>False
structure EndsOk (b:Bs)(F:List Fr)(τ:List V)(θ:List OR)(Dd:DEnds)(D:Ends):Prop where
 nx:∀σ H ρ,Rel b F σ H ρ τ θ->Dd.nx ρ->D.nx σ H
 bk:∀σ H ρ,Rel b F σ H ρ τ θ->Dd.bk ρ->D.bk σ H
 ct:∀σ H ρ,Rel b F σ H ρ τ θ->Dd.ct ρ->D.ct σ H
 rt:∀σ H ρ v x,Rel b F σ H ρ (v::τ) (.val x::θ)->Dd.rt x ρ->D.rt v H
def Eu(K:Waa)(W:Nat->Prop)(g:TS)(ds:DS):Prop:=∀(b:Bs) (F:List Fr) (d:St) (H:Hp) (f:DEnv) (c:List V) (a:List OR) (e:DEnds) (D:Ends),b.K=K->NoRf W a->Rel b F d H f c a->ds e f->EndsOk b F c a e D->g D d H
inductive PDs (X:Cx)(W:Nat->Prop)(e:Stmt)(de:DS):Prop|mk (te:TS) (h:PS X e te) (s:Eu X.K W te de)
inductive PDss (X:Cx)(W:Nat->Prop)(e:List Stmt)(de:DS):Prop|mk (te:TS) (h:PSs X e te) (s:Eu X.K W te de)
section
variable{b:Bs}{F:List Fr}{σ σ':St}{H H':Hp}{ρ ρ':DEnv}{τ vs:List V}{θ rs:List OR}{v u:V}{r r':OR}{x y:OD}{d:PyData}{ds:List PyData}{i:Nat}{L:List (V×OD)}
variable{W:Nat->Prop}
def NoRf.al{o:Option V}(n:NoRf W θ)(f:¬ W i):∀{τ:List V},Al σ τ θ->Al (σ.set i o) τ θ:=by
 induction θ with
 |nil=>intro τ h;cases τ with
  |nil=>trivial
  |cons _ _=>exact h
 |cons r θ c=>
  intro τ h;cases τ with
  |nil=>cases r<;>exact h
  |cons v τ=>
   rcases n r aab with ⟨x,rfl⟩|⟨j,k,rfl⟩
   ·exact c (λr a=>n r (aah _ a)) (τ:=τ) h
   ·refine⟨?_,c (λr a=>n r (aah _ a)) (τ:=τ) h.2⟩;have g:i≠j:=λe=>f (by rw[e];exact k);rw[abf g];exact h.1
def NoRf.al0(n:NoRf Ff θ):∀{τ:List V},Al σ τ θ->Al σ' τ θ:=by
 induction θ with
 |nil=>intro τ h;cases τ with
  |nil=>trivial
  |cons _ _=>exact h
 |cons r θ e=>
  intro τ h;rcases n r aab with ⟨x,rfl⟩|⟨j,a,rfl⟩
  ·cases τ with
   |nil=>exact h
   |cons v τ=>exact e (λr c=>n r (aah _ c)) (τ:=τ) h
  ·exact a.elim
def NoRf.weak(n:NoRf Ff θ):NoRf W θ:=λr c=>(n r c).imp id λ⟨j,a,_⟩=>a.elim
def NoRf.app(a:NoRf W rs)(n:NoRf W θ):NoRf W (rs++θ):=λr c=>(aai.mp c).elim (a r) (n r)
theorem Wd.p7{L1 L2:List (V×OD)}(w:Wd b H (L1++(flat σ ρ++L2)))(c:Wf σ ρ)(i:Nat):Wd b H (L1++(flat σ (ρ.set i none)++L2)):=by
 cases e:ρ[i]?.join with
 |none=>
  have:ρ.set i none=ρ:=by
   cases h:ρ[i]? with
   |none=>exact List.set_eq_of_length_le (by simpa using h)
   |some o=>rw[h]at e;have:o=none:=e;subst this;exact set_self h
  rw[this];exact w
 |some x=>have a:=join_some e;obtain⟨v,f⟩:=c.get a;exact Wd.drop (w.perm ((((bD a f).append_right _).append_left _).trans aax))
def Rel.store(R:Rel b F σ H ρ (v::τ) (.val x::θ))(n:NoRf W θ)(a:i<ρ.length)(c:¬ W i):Rel b F (σ.set i (some v)) H (ρ.set i (some x)) τ θ:=by refine Rel.vz R.wf (n.al c (Rel.drop R).al) R.wff a ?_;exact Wd.p7 (L1:=(v,x)::stk τ θ) (ρ:=ρ) R.wd R.wf i
end
section
variable{X:Cx}{W:Nat->Prop}{K:Waa}{a b c e:Expr}{es:List Expr}{sts:List Stmt}{st:Stmt}{da db dc:DE}{dt:DA}{d1 d2:DS}{dT:DT}{pos p:Pos}{x:Str}
def dNext:DS:=λD d=>D.nx d
def Hh(t u:DS):DS:=λD f=>∃M:DEnv->Prop,(∀d,M d->u D d)/\t { D with nx:=M } f
def pdss_nil:PDss X W [] dNext:=⟨_,wZ,λb F d H f g i j D k n R h E=>E.nx d H f R h⟩
theorem rO:PDs X W st d1->PDss X W sts d2->PDss X W (st::sts) (Hh d1 d2)
 |⟨_,f,s1⟩,⟨_,h2,s2⟩=>⟨_,lu f h2,λb F σ H ρ τ θ i D g n R ⟨M,k,h⟩ E=>s1 b F σ H ρ τ θ _ _ g n R h
  ⟨λd l ρ1 j f=>s2 b F d l ρ1 τ θ i D g n j (k ρ1 f) E,E.bk,E.ct,E.rt⟩⟩
def dCont:DS:=λD d=>D.ct d
def pds_cont:PDs X W (.Continue pos) dCont:=⟨_,lx,λb F d H f g i j D k n R h E=>E.ct d H f R h⟩
def Ew(a:DE):DS:=λD f=>a f λ_ d=>D.nx d
theorem uj(hs:swapsWith e none pos.line X.env=pure false:=by rfl):PDe X e da->PDs X W (.Expr e pos) (Ew da)
 |⟨_,h,s⟩=>⟨_,fq h hs,λb F f H l g i q D k n R h E=>s b F f H l g i _ _ k R h λv m r d j o=>E.nx f m d j.drop o⟩
def Hi(a:DE):DS:=λD g=>a g λr f=>∃x d,mv1 f r=some (x,d)/\D.rt x d
theorem xO:PDe X e da->PDs X W (.Return (some e) pos) (Hi da)
 |⟨_,h,s⟩=>⟨_,AA h,λb F σ H ρ τ θ j D f n R h E=>s b F σ H ρ τ θ _ _ f R h λv g r ρ1 d ⟨x,ρ2,e,i⟩=>E.rt σ g ρ2 v x (d.mv1 e) i⟩
def Hj(c:DT)(t u:DS):DS:=λD f=>c f λk d=>if k=true then t D d else u D d
theorem BK{f g:List Stmt}:PDt X c dT->PDss X W f d1->PDss X W g d2->PDs X W (.If c f g pos) (Hj dT d1 d2)
 |⟨_,h,s⟩,⟨_,d,f⟩,⟨_,h2,g⟩=>⟨_,DN h d h2,λb F σ H ρ τ θ m D i n R h E=>s b F σ H ρ τ θ _ _ i R h λk l ρ1 j d=>by
  cases k with
  |true=>rw[if_pos rfl]at d ⊢;exact f b F σ l ρ1 τ θ _ _ i n j d E
  |false=>rw[if_neg aal]at d ⊢;exact g b F σ l ρ1 τ θ _ _ i n j d E⟩
def Hk(i:Nat)(a:DE):DS:=λD g=>a g λr f=>∃x d,own1 f r=some (x,d)/\i<d.length/\D.nx (d.set i (some x))
def xP{i:Nat}{d:Pos}(j:¬ W i)(y:X.N.Nodup)(f:X.N[i]?=some x)(B:Loc X.env.scope x)(hs:swapsWith e (some (.Name x d)) pos.line X.env=pure false:=by rfl)(q:X.fn x=true\/X.env.scope.names.lookup x=some .local:=by first|exact .inl rfl|exact .inr rfl|assumption):
  PDe X e da->PDs X W (.Assign [.Name x d] e pos) (Hk i da)
 |⟨_,h,s⟩=>⟨_,sS y f B h hs q,λb F o H u g k C D t n R h E=>s b F o H u g k _ _ t R h λv z r w m ⟨x,l,e,f,A⟩=>E.nx _ z _ ((m.own1 e).store n f j) A⟩
def dJ:List Nat->List OD->DEnv->DEnv
 |i::is,x::xs,ρ=>dJ is xs (ρ.set i (some x))
 |_,_,ρ=>ρ
def BL(is:List Nat)(t:DA):DS:=λD j=>t j λh g=>∃f d,mapR own1 g h=some (f,d)/\f.length=is.length/\(∀i∈is,i<d.length)/\D.nx (dJ is f d)
def kc:List Nat->List V->St->St
 |i::is,v::vs,σ=>kc is vs (σ.set i (some v))
 |_,_,σ=>σ
theorem Rel.storeAll{W:Nat->Prop}{b:Bs}{F:List Fr}{H:Hp}{τ:List V}{θ:List OR}:∀{is:List Nat}{vs:List V}{xs:List OD}{σ:St}{ρ:DEnv},Rel b F σ H ρ (vs++τ) (xs.map OR.val++θ)->NoRf W θ->vs.length=xs.length->xs.length=is.length->(∀i∈is,i<ρ.length)->(∀i∈is,¬ W i)->Rel b F (kc is vs σ) H (dJ is xs ρ) τ θ
 |[],[],[],_,_,R,_,_,_,_,_=>R
 |i::is,v::vs,x::xs,σ,ρ,R,n,e1,e2,h,hw=>by have g:NoRf W (xs.map OR.val++θ):=NoRf.app (λr f=>by obtain⟨x,_,rfl⟩:=aas.mp f;exact .inl ⟨x,rfl⟩) n;show Rel b F (kc is vs (σ.set i (some v))) H (dJ is xs (ρ.set i (some x))) τ θ;exact Rel.storeAll (Rel.store (τ:=vs++τ) (θ:=xs.map OR.val++θ) R g (h i aab) (hw i aab)) n (by simpa using e1) (by simpa using e2) (λj d=>by rw[ack];exact h j (aah _ d)) λj d=>hw j (aah _ d)
 |[],_::_,[],_,_,_,_,e,_,_,_=>by simp at e
 |[],_,_::_,_,_,_,_,_,e,_,_=>by simp at e
 |_::_,[],_::_,_,_,_,_,e,_,_,_=>by simp at e
 |_::_,_,[],_,_,_,_,_,e,_,_=>by simp at e
def len2{d:Type}{l:List d}(h:l.length=2):∃a b,l=[a,b]:=by
 match l,h with
 |[a,b],_=>exact⟨a,b,rfl⟩
def Hl{d:Type}{l:List d}(h:l.length=3):∃a b c,l=[a,b,c]:=by
 match l,h with
 |[a,b,c],_=>exact⟨a,b,c,rfl⟩
def xQ{i j:Nat}(Q:∀k∈[i,j],¬ W k){x y:Str}{m t q:Pos}{l r d}(T:X.calm=true)(Y:X.N.Nodup)(o:X.N[i]?=some x)(A:X.N[j]?=some y)(g:i≠j)
  (hx:X.env.scope.names.lookup x=some .local) (z:X.env.scope.names.lookup y=some .local)
  (I:swappedStores [.Tuple [.Name x m,.Name y t] l q] (.Tuple [a,b] r d) X.env=pure (some [x,y]))
  (hs:swapsWithSole [.Tuple [.Name x m,.Name y t] l q] (.Tuple [a,b] r d) pos.line X.env=pure false:=by rfl):PDa X [a,b] dt->PDs X W (.Assign [.Tuple [.Name x m,.Name y t] l q] (.Tuple [a,b] r d) pos) (BL [i,j] dt)
 |⟨_,h,s⟩=>⟨_,AE T Y o A g hx z h I hs,λb F O H S C L Dd D P n R h E=>s b F O H S C L _ _ P R h λvs Z rs U B M ⟨xs,J,e,f,o,h1⟩=>by
  obtain⟨R2,u⟩:=fv Rel.own1 M B e;obtain⟨v,w,rfl⟩:=len2 (u.trans f);exact⟨v,w,rfl,E.nx _ Z _ (Rel.storeAll (is:=[i,j]) R2 n u f o Q) h1⟩⟩
def uk{i j k:Nat}(hW:∀z∈[i,j,k],¬ W z){x y z:Str}{o C t r:Pos}{l B d}(hc:X.calm=true)(hN:X.N.Nodup)(q:X.N[i]?=some x)(L:X.N[j]?=some y)(hk:X.N[k]?=some z)(g:i≠j)(m:i≠k)(A:j≠k)
  (hx:X.env.scope.names.lookup x=some .local) (J:X.env.scope.names.lookup y=some .local) (U:X.env.scope.names.lookup z=some .local)
  (P:swappedStores [.Tuple [.Name x o,.Name y C,.Name z t] l r] (.Tuple [a,b,c] B d) X.env=pure (some [x,y,z]))
  (hs:swapsWithSole [.Tuple [.Name x o,.Name y C,.Name z t] l r] (.Tuple [a,b,c] B d) pos.line X.env=pure false:=by rfl):PDa X [a,b,c] dt->PDs X W (.Assign [.Tuple [.Name x o,.Name y C,.Name z t] l r] (.Tuple [a,b,c] B d) pos) (BL [i,j,k] dt)
 |⟨_,h,s⟩=>⟨_,xr hc hN q L hk g m A hx J U h P hs,λb F Y H ρ O S Dd D Z n R h E=>s b F Y H ρ O S _ _ Z R h λvs H1 rs a0 M T ⟨xs,Q,e,f,q,h1⟩=>by
  obtain⟨R2,I⟩:=fv Rel.own1 T M e;obtain⟨v,w,u,rfl⟩:=Hl (I.trans f);exact⟨v,w,u,rfl,E.nx _ H1 _ (Rel.storeAll (is:=[i,j,k]) R2 n I f q hW) h1⟩⟩
abbrev DG:=OD->DEnv->(DEnv->Prop)->Prop
abbrev DGs:=List OD->DEnv->(DEnv->Prop)->Prop
def jk(K:Waa)(W:Nat->Prop)(m:Nat)(g:TG)(o:DG):Prop:=∀(b:Bs) (F:List Fr) (i:St) (H:Hp) (k:DEnv) (n:List V) (h:List OR) (v:V) (x:OD) (Qd:DEnv->Prop) (Q:St->Hp->Prop),b.K=K->NoRf W h->Rel b F i H k (v::n) (.val x::h)->o x k Qd->(∀d l f,Rel b F d l f n h->(∀j,m<=j->d[j]?=i[j]?/\f[j]?=k[j]?)->Qd f->Q d l)->g v i H Q
def Ex(K:Waa)(W:Nat->Prop)(m:Nat)(g:TGs)(q:DGs):Prop:=∀(b:Bs) (F:List Fr) (i:St) (H:Hp) (k:DEnv) (o:List V) (h:List OR) (vs:List V) (l:List OD) (Qd:DEnv->Prop) (Q:St->Hp->Prop),b.K=K->NoRf W h->vs.length=l.length->Rel b F i H k (vs++o) (l.map OR.val++h)->q l k Qd->(∀d n f,Rel b F d n f o h->(∀j,m<=j->d[j]?=i[j]?/\f[j]?=k[j]?)->Qd f->Q d n)->g vs i H Q
inductive PDg (X:Cx)(W:Nat->Prop)(m:Nat)(e:Expr)(dg:DG):Prop|mk (te:TG) (h:PG X e te) (s:jk X.K W m te dg)
inductive PDgs (X:Cx)(W:Nat->Prop)(m:Nat)(e:List Expr)(dg:DGs):Prop|mk (te:TGs) (h:Ds X e te) (s:Ex X.K W m te dg)
def BM(i:Nat):DG:=λx d Q=>i<d.length/\Q (d.set i (some x))
def dgNil:DGs:=λd f Q=>d=[]/\Q f
def BN(t:DG)(u:DGs):DGs:=λg f Q=>∃x r,g=x::r/\t x f λd=>u r d Q
def unpT:OD->Option (List OD)
 |.fz (.tuple ds)=>some (ds.map OD.fz)
 |.tup xs=>some xs
 |_=>none
def unpL:OD->Option (List OD)
 |.fz (.list ds)=>some (ds.map OD.fz)
 |.lst xs=>some xs
 |_=>none
def Ey(n:Nat)(t:DGs):DG:=λx f Q=>∃d,unpT x=some d/\d.length=n/\t d f Q
def Ez(n:Nat)(t:DGs):DG:=λx f Q=>∃d,unpL x=some d/\d.length=n/\t d f Q
variable{m:Nat}{dg:DG}{dgs:DGs}
def lN{i:Nat}(f:¬ W i)(l:X.N.Nodup)(d:X.N[i]?=some x)(o:Loc X.env.scope x)(g:i<m)(k:X.fn x=true\/X.env.scope.names.lookup x=some .local:=by first|exact .inl rfl|exact .inr rfl|assumption):PDg X W m (.Name x pos) (BM i):=
 ⟨_,w8 l d o k,λb F w H z s t v x u Q y n R ⟨d,h⟩ q=>q _ _ _ (R.store n d f) (λj r=>⟨abf (by omega),abf (by omega)⟩) h⟩
def pdgs_nil:PDgs X W m [] dgNil:=⟨_,w9,λb F r H t k l f i o Q s n d R ⟨e,h⟩ q=>by
 subst e;cases f with
 |nil=>exact⟨rfl,q _ _ _ R (λj g=>⟨rfl,rfl⟩) h⟩
 |cons _ _=>simp at d⟩
theorem rP(hs:(assignEach (e::es) X.env).map (·.2)=assign e X.env::(assignEach es X.env).map (·.2):=by rfl):PDg X W m e dg->PDgs X W m es dgs->PDgs X W m (e::es) (BN dg dgs)
 |⟨_,o,s1⟩,⟨_,g,s2⟩=>⟨_,sQ o g hs,λb F C H J t i d O P Q w n s R ⟨x,r,e,h⟩ q=>by
  subst e;cases d with
  |nil=>simp at s
  |cons v d=>
   have A:NoRf W (r.map OR.val++i):=NoRf.app (λr I=>by obtain⟨x,_,rfl⟩:=aas.mp I;exact .inl ⟨x,rfl⟩) n;exact⟨v,d,rfl,s1 b F C H J (d++t) (r.map OR.val++i) v x _ _ w A R h λl L k B u o=>s2 b F l L k t i d r _ _ w n (by simpa using s) B o λD N z M y g=>
    q _ _ _ M (λj f=>⟨(y j f).1.trans (u j f).1,(y j f).2.trans (u j f).2⟩) g⟩⟩
def Wd.unpT{b:Bs}{H:Hp}{L:List (V×OD)}{v:V}{x:OD}{xs:List OD}(w:Wd b H ((v,x)::L))(e:unpT x=some xs):∃a vs,v=.ref a/\SqT b.K H a vs/\vs.length=xs.length/\Wd b H (vs.zip xs++L):=by
 cases x with
 |fz d=>cases d<;>simp only[L2.unpT]at e<;>cases e;obtain⟨a,vs,rfl,g,k,i⟩:=w.ej aab (rfl:tupOf (.fz (.tuple _))=some _);exact⟨a,vs,rfl,k,by simpa using g,Wd.drop (i.perm aax)⟩
 |tup n=>
  simp only[L2.unpT]at e;cases e;obtain⟨l,j,h,f⟩:=w.out;cases j with
  |cons r t=>
   cases r with
   |@tup a vs _ A h1 h2=>exact⟨a,vs,rfl,SqT.of h1,h2.len,⟨⟨_,OwL.kq (OwL.j1 h2) t,h,f⟩,w.fr,w.s0,w.nt⟩⟩
 |_=>simp[L2.unpT]at e
def Wd.unpL{b:Bs}{H:Hp}{L:List (V×OD)}{v:V}{x:OD}{xs:List OD}(w:Wd b H ((v,x)::L))(e:unpL x=some xs):∃a vs,v=.ref a/\SqL b.K H a vs/\vs.length=xs.length/\Wd b H (vs.zip xs++L):=by
 have g:∀{i:List PyData},listOf x=some i->xs=i.map OD.fz->∃a vs,v=.ref a/\SqL b.K H a vs/\vs.length=xs.length/\Wd b H (vs.zip xs++L):=λ{i} h1 h2=>by subst h2;obtain⟨a,vs,rfl,k,s,n⟩:=w.ai aab h1;exact⟨a,vs,rfl,s,by simpa using k,Wd.drop (n.perm aax)⟩
 cases x with
 |fz d=>cases d<;>simp only[L2.unpL]at e<;>cases e;exact g rfl rfl
 |lst y=>
  simp only[L2.unpL]at e;cases e;obtain⟨u,j,l,f⟩:=w.out;have o:=w.q7 j;cases j with
  |@cons _ _ A _ _ B0 r t=>
   cases r with
   |@lst a vs _ B h1 h2=>have h:∀c,(c∈B++B0\/b.S0 c)->(c∈a::B++B0\/b.S0 c):=λc z=>z.imp (λz=>by simp at z ⊢;exact .inr z) id;exact⟨a,vs,rfl,SqL.of h1,h2.len,⟨⟨_,Ows.step (Kp.refl _ _) (λc z=>.inl (h c z)) o (λ_ _=>rfl) (OwL.kq (OwL.j1 h2) t),(aaA.mp l).2,λc q=>f c (aah _ q)⟩,w.fr,w.s0,w.nt⟩⟩
 |_=>simp[L2.unpL]at e
theorem fB{σ:St}:∀{vs:List V}{xs:List OD},vs.length=xs.length->Al σ vs (xs.map OR.val)
 |[],[],_=>trivial
 |_::vs,_::xs,e=>fB (vs:=vs) (xs:=xs) (by simpa using e)
 |[],_::_,e=>by simp at e
 |_::_,[],e=>by simp at e
def Rel.spread{b:Bs}{F:List Fr}{σ:St}{H:Hp}{ρ:DEnv}{τ vs:List V}{θ:List OR}{xs:List OD}(R:Rel b F σ H ρ τ θ)(d:vs.length=xs.length)(w:Wd b H (vs.zip xs++(stk τ θ++(flat σ ρ++ff F)))):Rel b F σ H ρ (vs++τ) (xs.map OR.val++θ):=
 ⟨R.wf,(aJ (by simpa using d)).mpr ⟨fB d,R.al⟩,R.wff,by rw[aB (by simpa using d),cp d,aad];exact w⟩
theorem xR{k:Nat}{n:Nat}(A:X.calm=true)(l:(assignEach es X.env).length=n:=by rfl)(d:(assignEach es X.env).findIdx? (·.1)=none:=by rfl):PDgs X W m es dgs->PDg X W m (.Tuple es k pos) (Ey n dgs)
 |⟨_,h,s⟩=>⟨_,AC A h l d,λb F y H z r t v x C Q g B R ⟨o,e,u,h⟩ q=>by
  obtain⟨a,i,rfl,j,f,w⟩:=Wd.unpT R.wd e;rw[g]at j;exact⟨a,i,rfl,j,f.trans u,s b F y H z r t i o _ _ g B f (R.drop.spread f w) h q⟩⟩
theorem xS{k:Nat}{n:Nat}(A:X.calm=true)(l:(assignEach es X.env).length=n:=by rfl)(d:(assignEach es X.env).findIdx? (·.1)=none:=by rfl):PDgs X W m es dgs->PDg X W m (.Tuple es k pos) (Ez n dgs)
 |⟨_,h,s⟩=>⟨_,Bk A h l d,λb F y H z r t v x C Q g B R ⟨o,e,u,h⟩ q=>by
  obtain⟨a,i,rfl,j,f,w⟩:=Wd.unpL R.wd e;rw[g]at j;exact⟨a,i,rfl,j,f.trans u,s b F y H z r t i o _ _ g B f (R.drop.spread f w) h q⟩⟩
def Hm(a:DE)(g:DG):DS:=λD h=>a h λr f=>∃x d,own1 f r=some (x,d)/\g x d D.nx
theorem xT{d:Expr}(hs:swapsWithSole [d] e pos.line X.env=pure false:=by rfl)(u:swappedStores [d] e X.env=pure none:=by rfl)(y:(assignEach [d] X.env).map (·.2)=[assign d X.env]:=by rfl):PDe X e da->PDg X W m d dg->PDs X W (.Assign [d] e pos) (Hm da dg)
 |⟨_,j,s1⟩,⟨_,h2,s2⟩=>⟨_,sR j h2 hs u y,λb F o H z k l I D q n R h E=>s1 b F o H z k l _ _ q R h λv C r A w ⟨x,g,e,j⟩=>
  s2 b F o C g k l v x _ _ q n (w.own1 e) j λi B f t _ s=>E.nx i B f t s⟩
abbrev DI:=DEnv->(List PyData->DEnv->Prop)->Prop
def jl(b:Bs)(J:It)(vs:List V)(rs:List OR)(ds:List PyData):Prop:=∀(F:List Fr) (i:St) (H:Hp) (j:DEnv) (f:List V) (g:List OR),Rel b F i H j (vs++f) (rs++g)->∀k,
 (k<ds.length->J.go k H/\∀x h d,J.yld k H x h->ds[k]?=some d->Rel b F i h j (x::(vs++f)) (.val (.fz d)::(rs++g)))/\(k=ds.length->J.stop k H)
def nH(K:Waa)(q:TI)(o:DI):Prop:=∀(b:Bs) (F:List Fr) (g:St) (H:Hp) (l:DEnv) (j:List V) (k:List OR) (Qd:List PyData->DEnv->Prop) (Q:It->Hp->Prop),b.K=K->Rel b F g H l j k->o l Qd ->
 (∀J i n d h f,h.length=f.length->NoRf Ff f->Rel b F g i d (h++j) (f++k)->jl b J h f n->Qd n d->Q J i)->q g H Q
inductive PDi (X:Cx)(tg e:Expr)(di:DI):Prop|mk (te:TI) (h:PI X tg e te) (s:nH X.K te di)
def bX(lo:Int)(n:Nat):List PyData:=(List.range n).map λ(i:Nat)=>PyData.int (lo+(i:Int))
def cL(lo:Int)(n:Nat):(bX lo n).length=n:=by simp[bX]
def um{lo:Int}{n k:Nat}{d:PyData}(h:(bX lo n)[k]?=some d):k<n/\d=.int (lo+k):=by unfold bX at h;rw[aat]at h;obtain⟨j,i,rfl⟩:=aaN.mp h;obtain⟨f,g⟩:=aaj.mp i;simp at f g;subst g;exact⟨f,rfl⟩
def uo(b:Bs)(lo:Int)(n:Nat):jl b (Ge lo n) [] [] (bX lo n):=λF q H r j l R k=>by rw[cL];refine⟨λh=>⟨h,λx o d ⟨g,f⟩ i=>?_⟩,λe=>by subst e;exact aag _⟩;subst g f;rw[(um i).2];exact Rel.sc R (.int _)
def EA(t:DA):DI:=λf Q=>t f λg d=>∃j,ka d g=some [.int j]/\-(2^62)<=j/\j<2^62/\Q (bX 0 j.toNat) d
theorem nI{C:Expr} (A:Gl X "range") (k:X.mg "range"=none) (hs:starEach [a] X.env=[(false,eval a X.env)]:=by rfl):PDa X [a] dt->PDi X C (.Call (.Name "range" p) [a] [] pos) (EA dt)
 |⟨_,h,s⟩=>⟨_,qZ A k h hs,λb F o H z l n I Q w R h q=>s b F o H z l n _ _ w R h λL B J d f g ⟨j,e,i,u,D⟩=>by
  have y:=g.dtL f e;cases y with
  |cons r t=>cases t;cases r;exact⟨j,rfl,i,u,q _ B _ d [] [] rfl (λr v=>by cases v) (g.drops f) (uo b 0 _) D⟩⟩
def Rel.itemAt{b:Bs}{F:List Fr}{σ:St}{H:Hp}{ρ:DEnv}{τ:List V}{θ:List OR}{v:V}{x:OD}{ds:List PyData}{d:PyData}{k:Nat}(R:Rel b F σ H ρ τ θ)(m:(v,x)∈stk τ θ++(flat σ ρ++ff F))(e:seqOf x=some ds)(g:ds[k]?=some d):
  ∃a vs u,v=.ref a/\(SqL b.K H a vs\/SqT b.K H a vs)/\vs.length=ds.length/\vs[k]?=some u/\Rel b F σ H ρ (u::τ) (.val (.fz d)::θ):=by
 obtain⟨a,vs,rfl,f,i,w⟩:=R.wd.zr m e;have h:k<vs.length:=by rw[f];exact(aaj.mp g).1
 refine⟨a,vs,vs[k],rfl,i,f,aap h,R.push (w.pick (cD (aap h) ?_))⟩;rw[aat,g];rfl
def cM{v:V}{x:OD}{τ:List V}{θ:List OR}{L:List (V×OD)}:(v,x)∈stk ([v]++τ) ([OR.val x]++θ)++L:=by simp[stk]
def rQ(b:Bs)(a:Addr)(ds:List PyData):jl b (Gd b.K a) [.ref a] [.val (.fz (.list ds))] ds:=λF I H J B C R k=>by
 obtain⟨N,j,e,A,n,_⟩:=R.wd.ai cM (rfl:listOf (.fz (.list ds))=some ds);cases e;refine⟨λh=>⟨⟨j,j[k]'(by omega),n,aap _⟩,λx z d ⟨w,v⟩ l=>?_⟩,λe=>⟨j,n,by omega⟩⟩;subst w;obtain⟨r,L,u,q,s,_,D,O⟩:=R.itemAt cM (rfl:seqOf (.fz (.list ds))=some ds) l;cases q;obtain⟨_,f,o,g,i,t⟩:=R.wd.ai cM (rfl:listOf (.fz (.list ds))=some ds);cases o;have M:k<f.length:=by rw[g];exact(aaj.mp l).1
 have y:=v f i;refine Rel.push R (t.pick (cD y ?_));rw[aat,l];rfl
def ur(b:Bs)(a:Addr)(ds:List PyData):jl b (GN b.K a) [.ref a] [.val (.fz (.tuple ds))] ds:=λF s H t q r R k=>by obtain⟨u,f,e,o,g,w⟩:=R.wd.ej cM (rfl:tupOf (.fz (.tuple ds))=some ds);cases e;refine⟨λh=>⟨⟨f,f[k]'(by omega),g,aap _⟩,λx n d ⟨l,i⟩ j=>?_⟩,λe=>⟨f,g,by omega⟩⟩;subst l;refine Rel.push R (w.pick (cD (i f g) ?_));rw[aat,j];rfl
def Hn(a:DE):DI:=λh Q=>a h λr f=>∃g d,frz1 f r=some (.list g,d)/\Q g d
theorem uv{n:Expr}:PDe X e da->PDi X n e (Hn da)
 |⟨_,h,s⟩=>⟨_,oJ h,λb F σ H ρ τ θ u Q d R h q=>s b F σ H ρ τ θ _ _ d R h λv l r ρ1 j ⟨ds,ρ2,e,o⟩=>by
  have f:=j.frz1 e;obtain⟨a,i,rfl,t,g,_⟩:=f.wd.ai (f.mem rfl) (rfl:listOf (.fz (.list ds))=some ds);rw[d]at g;exact⟨a,rfl,⟨i,g⟩,d▸q _ l ds ρ2 [.ref a] [.val (.fz (.list ds))] rfl (λr k=>.inl ⟨_,aao.mp k⟩) f (rQ b a ds) o⟩⟩
def Ho(a:DE):DI:=λh Q=>a h λr f=>∃g d,frz1 f r=some (.tuple g,d)/\Q g d
theorem xU{n:Expr}:PDe X e da->PDi X n e (Ho da)
 |⟨_,h,s⟩=>⟨_,AI h,λb F σ H ρ τ θ u Q d R h q=>s b F σ H ρ τ θ _ _ d R h λv l r ρ1 j ⟨ds,ρ2,e,o⟩=>by
  have f:=j.frz1 e;obtain⟨a,i,rfl,t,g,_⟩:=f.wd.ej (f.mem rfl) (rfl:tupOf (.fz (.tuple ds))=some ds);rw[d]at g;exact⟨a,rfl,⟨i,g⟩,d▸q _ l ds ρ2 [.ref a] [.val (.fz (.tuple ds))] rfl (λr k=>.inl ⟨_,aao.mp k⟩) f (ur b a ds) o⟩⟩
end
end
section
section
variable{X:Cx}{K:Waa}{a b c e:Expr}{es:List Expr}{sts:List Stmt}{st:Stmt}{da db dc:DE}{dt:DA}{d1 d2:DS}{dT:DT}{pos p:Pos}{x:Str}
def cN(ds:List PyData):List PyData:=(List.range ds.length).map λ(i:Nat)=>PyData.tuple [.int (i:Int),ds.getD i .none]
def cO(ds:List PyData):(cN ds).length=ds.length:=by simp[cN]
def jE{k:Nat}(h:(cN ds)[k]?=some d):∃e,ds[k]?=some e/\d=.tuple [.int k,e]:=by unfold cN at h;rw[aat]at h;obtain⟨j,i,rfl⟩:=aaN.mp h;obtain⟨f,g⟩:=aaj.mp i;simp at f g;subst g;exact⟨ds[k],aap f,by rw[abu,aap f];rfl⟩
def Rel.so{b:Bs}{d e:PyData}{p:Addr}(R:Rel b F σ H ρ τ θ)(w:Wd b H (Z++(stk τ θ++(flat σ ρ++ff F))))(h:(v,OD.fz d)∈Z)(i:(u,OD.fz e)∈Z)(g:H p=none):
  Rel b F σ (upd H p (.tup [v,u])) ρ (.ref p::τ) (.val (.fz (.tuple [d,e]))::θ):=R.fx w rfl (λz f=>by
   simp at f;rcases f with rfl|rfl
   ·exact aaf _ h
   ·exact aaf _ i) g
def rR(b:Bs)(a:Addr)(ds:List PyData):jl b (G8 b.K a) [.ref a] [.val (.fz (.list ds))] (cN ds):=λF v H z t u R k=>by obtain⟨A,f,e,r,i,w⟩:=R.wd.ai cM (rfl:listOf (.fz (.list ds))=some ds);cases e;rw[cO];refine⟨λh=>⟨⟨f,f[k]'(by omega),i,aap _⟩,λx q d ⟨T,y,o,j,m,l⟩ n=>?_⟩,λe=>⟨f,i,by omega⟩⟩;subst m l;obtain⟨s,g,rfl⟩:=jE n;refine Rel.so (Z:=(V.int k,OD.fz (.int k))::f.zip (ds.map OD.fz)) R (w.sc (.int _)) aab (aah _ (cD (o f i) ?_)) j;rw[aat,g];rfl
def EB(t:DA):DI:=λi Q=>t i λh f=>∃g d,frzL f h=some ([.list g],d)/\Q (cN g) d
theorem uw{I}{g:Pos} (D:Gl X "enumerate") (u:X.mg "enumerate"=none) (hs:starEach [a] X.env=[(false,eval a X.env)]:=by rfl):PDa X [a] dt->PDi X (.Tuple es I g) (.Call (.Name "enumerate" p) [a] [] pos) (EB dt)
 |⟨_,h,s⟩=>⟨_,xA D u h hs,λb F n H A l m M Q j R h q=>s b F n H A l m _ _ j R h λB o N C k J ⟨f,d,e,w⟩=>by
  obtain⟨L,z⟩:=j9 J k e
  match B,z with
  |[v],_=>
   have i:Rel b F n o d (v::l) (.val (.fz (.list f))::m):=L;obtain⟨a,t,rfl,k,hs,_⟩:=i.wd.ai (i.mem rfl) (rfl:listOf (.fz (.list f))=some f);rw[j]at hs;exact⟨a,t,rfl,hs,j▸q _ o _ d [.ref a] [.val (.fz (.list f))] rfl (λr y=>.inl ⟨_,aao.mp y⟩) i (rR b a f) w⟩⟩
def fZ(ds es:List PyData):List PyData:=List.zipWith (λd e=>PyData.tuple [d,e]) ds es
def ux{ds es:List PyData}{k:Nat}(h:(fZ ds es)[k]?=some d):∃x y,ds[k]?=some x/\es[k]?=some y/\d=.tuple [x,y]:=by
 unfold fZ at h;rw[List.getElem?_zipWith]at h;cases f:ds[k]? with
 |none=>rw[f]at h;simp at h
 |some x=>
  cases g:es[k]? with
  |none=>rw[f,g]at h;simp at h
  |some y=>rw[f,g]at h;exact⟨x,y,rfl,rfl,(aaE h).symm⟩
def EC:PyData->Option (Bool×List PyData)
 |.list ds=>some (true,ds)
 |.tuple ds=>some (false,ds)
 |_=>none
def nJ(l:Bool)(a:Addr)(xs:List V):ZS:=if l then .lst a xs else .tup a xs
def eG{a:Addr}(h:if l then SqL K H a xs else SqT K H a xs):(nJ l a xs).ok K H:=by cases l<;>exact h
def lO(l:Bool)(a:Addr)(xs:List V):(nJ l a xs).val=.ref a:=by cases l<;>rfl
def cx(l:Bool)(a:Addr)(xs:List V):(nJ l a xs).items=xs:=by cases l<;>rfl
def uy(h:EC d=some (l,ds)):d=if l then .list ds else .tuple ds:=by cases d<;>simp only[EC]at h<;>cases h<;>rfl
def uz(b:Bs)(a c:Addr)(l k':Bool)(xs ys:List V)(ds es:List PyData):jl b (G5 b.K (nJ l a xs) (nJ k' c ys)) [.ref a,.ref c] [.val (.pin l xs ds),.val (.pin k' ys es)] (fZ ds es):=λF L H M D I R k=>by
 obtain⟨N,e,C,m,w⟩:=R.wd.pinned (v:=.ref a) (l:=l) (xs:=xs) (ds:=ds) (by simp[stk]);cases e;obtain⟨J,e,n,f,g⟩:=w.pinned (v:=.ref c) (l:=k') (xs:=ys) (ds:=es) (by simp[stk]);cases e;have q:(fZ ds es).length=min ds.length es.length:=by simp[fZ]
 rw[q];refine⟨λh=>⟨⟨eG m,eG f,by rw[cx];omega,by rw[cx];omega⟩,λx B d ⟨T,y,z,j,i,r,s,t⟩ u=>?_⟩,λe=>⟨eG m,eG f,by rw[cx,cx];omega⟩⟩;subst s t;rw[cx]at j i;obtain⟨d1,d2,A,o,rfl⟩:=ux u;rw[<-aad]at g;refine Rel.so R g (aae _ (cD j ?_)) (aaf _ (cD i ?_)) r
 ·rw[aat,A];rfl
 ·rw[aat,o];rfl
def Hq(t:DA):DI:=λi Q=>t i λh f=>∃x y l k g es d,frzL f h=some ([x,y],d)/\EC x=some (l,g)/\EC y=some (k,es)/\Q (fZ g es) d
theorem xV{Y}{g:Pos} (W:Gl X "zip") (L:X.mg "zip"=none) (hs:starEach [a,b] X.env=[(false,eval a X.env),(false,eval b X.env)]:=by rfl) (t:starEach [b] X.env=[(false,eval b X.env)]:=by rfl):PDa X [a,b] dt->PDi X (.Tuple es Y g) (.Call (.Name "zip" p) [a,b] [] pos) (Hq dt)
 |⟨_,h,s⟩=>⟨_,Be W L h hs t,λb F z H S n o Qd Q A R h q=>s b F z H S n o _ _ A R h λvs B rs T J Z ⟨x,y,l,k,ds,es,d,e,N,I,O⟩=>by
  obtain⟨D,P⟩:=j9 Z J e;obtain⟨v,u,rfl⟩:=len2 P;have w:Wd b B ((v,.fz x)::(u,.fz y)::(stk n o++(flat z d++ff F))):=D.wd;have j:Rel b F z B d n o:=Rel.drops D rfl;obtain⟨xs,U⟩:=w.pin (uy N);obtain⟨i,M⟩:=(U.perm (List.Perm.swap _ _ _)).pin (uy I);have m:=M.perm (List.Perm.swap _ _ _);obtain⟨a,rfl,_,hs,_⟩:=m.pinned (v:=v) (l:=l) (xs:=xs) (ds:=ds) (by simp);obtain⟨c,rfl,_,f,_⟩:=m.pinned (v:=u) (l:=k) (xs:=i) (ds:=es) (by simp);rw[A]at hs f;refine⟨nJ l a xs,nJ k c i,by rw[lO,lO],eG hs,eG f,A▸q _ B _ d [.ref a,.ref c] [.val (.pin l xs ds),.val (.pin k i es)] rfl (λr C=>by simp at C;rcases C with rfl|rfl<;>exact .inl ⟨_,rfl⟩) ?_ (uz b a c l k xs i ds es) O⟩;exact⟨j.wf,j.al,j.wff,m⟩⟩
end
end
section
def bN:DEnv->List Nat->Option (DEnv×DEnv)
 |ρ,[]=>some ([],ρ)
 |ρ,j::js=>match ρ[j]?.join with
  |some (.fz d)=>match bN ρ js with|some z=>some (some (.fz d)::z.1,z.2)|none=>none
  |some x=>match bN (ρ.set j none) js with|some z=>some (some x::z.1,z.2)|none=>none
  |none=>none
def bY:DEnv->List Nat->DEnv->DEnv
 |ρ,j::js,some x::os=>bY (ρ.set j (some x)) js os
 |ρ,_::js,none::os=>bY ρ js os
 |ρ,_,_=>ρ
def capV(σ:St)(js:List Nat):St:=js.map λj=>(σ[j]?).join
section
variable{b:Bs}{F:List Fr}{σ σ':St}{H H':Hp}{τ vs:List V}{θ rs:List OR}{v u:V}{x y:OD}{d:PyData}{ds:List PyData}{i:Nat}{L:List (V×OD)}
def xW(h:o=some (some v)):o.join=some v:=by rw[h];rfl
theorem pd:∀{js:List Nat}{ρ a ρ2:DEnv}{L1 L2:List (V×OD)},Wd b H (L1++(flat σ ρ++L2))->Wf σ ρ->bN ρ js=some (a,ρ2)->Wd b H (flat (capV σ js) a++(L1++(flat σ ρ2++L2)))/\Wf σ ρ2/\Wf (capV σ js) a
 |[],ρ,a,ρ2,L1,L2,w,wf,e=>by simp only[bN]at e;cases e;exact⟨w,wf,trivial⟩
 |j::js,ρ,a,ρ2,L1,L2,w,wf,e=>by
  cases h:ρ[j]?.join with
  |none=>simp[bN,h]at e
  |some x=>
   have m:=join_some h;obtain⟨v,r⟩:=wf.get m;have A:Wd b H ((v,x)::(L1++(flat σ (ρ.set j none)++L2))):=w.perm ((((bD m r).append_right _).append_left _).trans aax);have k:∀{y:OD}{c:DEnv}{z:DEnv×DEnv},Wd b H ((v,y)::(L1++(flat σ c++L2)))->Wf σ c->bN c js=some z->(some y::z.1,z.2)=(a,ρ2)->Wd b H (flat (capV σ (j::js)) a++(L1++(flat σ ρ2++L2)))/\Wf σ ρ2/\Wf (capV σ (j::js)) a:=λ{y c z} o wf1 f g=>by
    cases g;obtain⟨D,p,n⟩:=pd (L1:=(v,y)::L1) o wf1 (show bN c js=some (z.1,z.2) from f);have I:capV σ (j::js)=some v::capV σ js:=by unfold capV;rw[aam,xW r]
    rw[I];exact⟨D.perm aax,p,n⟩
   have J:∀{z:DEnv×DEnv},bN (ρ.set j none) js=some z->(some x::z.1,z.2)=(a,ρ2)->Wd b H (flat (capV σ (j::js)) a++(L1++(flat σ ρ2++L2)))/\Wf σ ρ2/\Wf (capV σ (j::js)) a:=λ{z} f g=>k A wf.off f g;have l:∀{c:DEnv}{y:OD},(match bN c js with|some z=>some (some y::z.1,z.2)|none=>none)=some (a,ρ2)->∃z,bN c js=some z/\(some y::z.1,z.2)=(a,ρ2):=λ{c y} q=>by
    cases s:bN c js with
    |none=>rw[s]at q;cases q
    |some z=>rw[s]at q;exact⟨z,rfl,aaE q⟩
   cases x with
   |fz d=>simp only[bN,h]at e;obtain⟨z,f,g⟩:=l e;have o:=A.dup;have B:j<ρ.length:=(aaj.mp m).1;have C:σ.set j (some v)=σ:=set_self r;have t:=cK (v:=v) (x:=.fz d) B wf.len;rw[C,set_self m]at t;exact k (o.perm (List.Perm.cons _ (aax.symm.trans ((t.symm.append_right _).append_left _)))) wf f g
   |_=>simp only[bN,h]at e;obtain⟨z,f,g⟩:=l e;exact J f g
theorem kf:∀{js:List Nat}{ρ a:DEnv}{L1 L2:List (V×OD)},Wd b H (L1++(flat (capV σ js) a++(flat σ ρ++L2)))->Wf σ ρ->Wf (capV σ js) a->Wd b H (L1++(flat σ (bY ρ js a)++L2))/\Wf σ (bY ρ js a)
 |[],ρ,a,L1,L2,w,wf,wf2=>by
  cases a with
  |nil=>exact⟨w,wf⟩
  |cons _ _=>simp[capV,Wf]at wf2
 |j::js,ρ,[],L1,L2,w,wf,wf2=>by simp[capV,Wf]at wf2
 |j::js,ρ,o::a,L1,L2,w,wf,wf2=>by
  have n:capV σ (j::js)=(σ[j]?).join::capV σ js:=rfl;rw[n]at w wf2;cases o with
  |none=>rw[br]at w;exact kf (js:=js) w wf (by cases h:(σ[j]?).join<;>(rw[h]at wf2;exact wf2))
  |some x=>
   cases h:(σ[j]?).join with
   |none=>rw[h]at wf2;simp[Wf]at wf2
   |some v=>
    rw[h]at w wf2;have k:Wd b H ((v,x)::(L1++(flat (capV σ js) a++(flat σ ρ++L2)))):=w.perm (aax )
    ·have g:=join_some h;have l:j<ρ.length:=by rw[<-wf.len];exact(aaj.mp g).1
     have f:σ.set j (some v)=σ:=set_self g;have e:=cK (v:=v) (x:=x) l wf.len;rw[f]at e;have c:Wf σ (ρ.set j (some x)):=by have:=wf.put (i:=j) (v:=v) (x:=x);rw[f]at this;exact this
     refine kf (ρ:=ρ.set j (some x)) ?_ c wf2;have m:Wd b H (((v,x)::L1++flat (capV σ js) a)++(flat σ (ρ.set j none)++L2)):=Wd.p7 (by simpa using k) wf j;refine m.perm ?_;rw[<-aad L1];refine List.Perm.trans ?_ ((e.symm.append_right _).append_left _);simp only[aaP];exact aax.symm
theorem Wf.drop:∀{n:Nat}{σ:St}{ρ:DEnv},Wf σ ρ->Wf (σ.drop n) (ρ.drop n)
 |0,_,_,h=>h
 |_+1,[],[],_=>trivial
 |_+1,[],_::_,h=>by simp[Wf]at h
 |_+1,_::_,[],h=>by simp[Wf]at h
 |n+1,o::σ,none::ρ,h=>Wf.drop (n:=n) h
 |n+1,some _::σ,some _::ρ,h=>Wf.drop (ρ:=ρ) h
 |_+1,none::_,some _::_,h=>by simp[Wf]at h
theorem f6:∀{n:Nat}{σ:St}{ρ:DEnv},Wf σ ρ->∃L,flat σ ρ=L++flat (σ.drop n) (ρ.drop n)
 |0,σ,ρ,_=>⟨[],rfl⟩
 |_+1,[],[],_=>⟨[],rfl⟩
 |_+1,[],_::_,h=>by simp[Wf]at h
 |_+1,_::_,[],h=>by simp[Wf]at h
 |n+1,o::σ,none::ρ,h=>by obtain⟨L,e⟩:=f6 (ρ:=ρ) h;exact⟨L,by rw[br];exact e⟩
 |n+1,some v::σ,some x::ρ,h=>by obtain⟨L,e⟩:=f6 (ρ:=ρ) h;exact⟨(v,x)::L,by simp only[flat,aaP,List.drop_succ_cons];rw[e]⟩
 |_+1,none::_,some _::_,h=>by simp[Wf]at h
def uA:flat (List.replicate n none++σ) (List.replicate n none++ρ)=flat σ ρ:=by
 induction n with
 |zero=>rfl
 |succ n a=>rw[abA,abA,aaP,aaP,br,a]
def BO(h:Wf σ ρ):Wf (List.replicate n none++σ) (List.replicate n none++ρ):=by
 induction n with
 |zero=>exact h
 |succ n a=>rw[abA,abA];exact a
theorem Rel.grow(R:Rel b F σ H ρ (v::(vs++[.ref D])) (.val (.fz d)::(rs++[.val (.lst (out.map OD.fz))])))(e:vs.length=rs.length):
  ∃ys,H D=some (.lst ys)/\ys.length=out.length/\Rel b F σ (upd H D (.lst (ys++[v]))) ρ (vs++[.ref D]) (rs++[.val (.lst ((out++[d]).map OD.fz))]):=by
 have f:=R.drop;have r:stk (vs++[.ref D]) (rs++[.val (.lst (out.map OD.fz))])=stk vs rs++[(.ref D,.lst (out.map OD.fz))]:=by rw[aB e];rfl
 have w:Wd b H ((v,.fz d)::((stk vs rs++[(.ref D,.lst (out.map OD.fz))])++(flat σ ρ++ff F))):=by have:=R.wd;simp only[stk]at this;rw[r]at this;exact this
 have o:Wd b H ([v].zip [OD.fz d]++((.ref D,.lst (out.map OD.fz))::(stk vs rs++(flat σ ρ++ff F)))):=w.perm (by
  refine List.Perm.cons _ ?_;rw[aad];exact aax)
 obtain⟨a,ys,g,k,p,l⟩:=o.v7 (ks:=[]) rfl rfl;cases g;refine⟨ys,k,by simpa using p,f.wf,?_,f.wff,?_⟩
 ·obtain⟨j,_⟩:=(aJ e).mp f.al;exact(aJ e).mpr ⟨j,trivial⟩
 ·have n:=l (ys++[v]) ((out++[d]).map OD.fz) λS H A C z t h m=>⟨A++C,by rw[aau];exact Ows.append t h,m,λc s=>aai.mp s⟩
  have q:stk (vs++[.ref D]) (rs++[.val (.lst ((out++[d]).map OD.fz))])=stk vs rs++[(.ref D,.lst ((out++[d]).map OD.fz))]:=by rw[aB e];rfl
  rw[q];refine n.perm ?_;rw[aad];exact aax.symm
end
def BP{a:Type}(A B C T F:List a):(A++(B++(C++(T++F)))).Perm (B++(A++((T++C)++F))):=by refine(acr A B _).trans (abj _ (abj _ ?_));rw[<-aad];exact abb.append_right _
abbrev DC:=DEnv->(List PyData->DEnv->Prop)->Prop
def rS(K:Waa)(tc:TC)(h:DC):Prop:=∀(b:Bs) (F:List Fr) (d:St) (H:Hp) (g:DEnv) (vs:List V) (e:List OR) (D:Addr) (a:List PyData) (Qd:List PyData->DEnv->Prop) (Q:Hp->Prop),b.K=K->vs.length=e.length->a.length<1000000->Rel b F d H g (vs++[.ref D]) (e++[.val (.lst (a.map OD.fz))])->h g Qd ->
 (∀f c o,Rel b F d f c (vs++[.ref D]) (e++[.val (.lst ((a++o).map OD.fz))])->o.length<=1->Qd o c->Q f)->tc D d H Q
inductive PDc (Y:Cx)(ifs:List Expr)(elt:Expr)(dc:DC):Prop|mk (tc:TC) (h:∀D,nk Y D ifs elt tc) (s:rS Y.K tc dc)
section
variable{X Y:Cx}{K:Waa}{a b c e elt iter tg:Expr}{es ifs:List Expr}{da db:DE}{dT:DT}{pos p:Pos}{x:Str}
def pe(a:DE):DC:=λh Q=>a h λr g=>∃d f,frz1 g r=some (d,f)/\Q [d] f
def ie(s:bG K ta da):rS K (oR ta) (pe da):=λb F n H t C A D m z Q o f B R h q=>s b F n H t _ _ _ _ o R h λv I r u l ⟨d,k,e,w⟩=>by obtain⟨g,i,y,j⟩:=(l.frz1 e).grow f;exact⟨g,i,aay (by omega) (by decide:1000001<=sizeLine),q _ _ _ j (aag _) w⟩
theorem rT:PDe Y elt da->PDc Y [] elt (pe da)
 |⟨_,h,s⟩=>⟨_,λD=>rB h,ie s⟩
def xX(t:DT)(a:DE):DC:=λf Q=>t f λk d=>if k=true then pe a d Q else Q [] d
theorem uB:PDt Y c dT->PDe Y elt da->PDc Y [c] elt (xX dT da)
 |⟨_,d,s1⟩,⟨_,h2,s2⟩=>⟨_,λD=>tI d h2,λb F σ H ρ vs rs D out m Q g j l R h q=>s1 b F σ H ρ _ _ _ _ g R h λk i ρ1 f d=>by
  cases k with
  |true=>rw[if_pos rfl]at d ⊢;exact ie s2 b F σ i ρ1 vs rs D out _ _ g j l f d q
  |false=>rw[if_neg aal]at d ⊢;exact q i ρ1 [] (by rw[aaq];exact f) (aaH _) d⟩
def ph(t:DI)(nt:Nat)(fr:List Nat)(g:DG)(n:DC):DE:=λi Q=>t i λr s=>r.length<1000000/\∃f j,bN s fr=some (f,j)/\∃m:Nat->List PyData->DEnv->Prop,m 0 [] (List.replicate nt none++f) /\
 (∀k d h i,r[k]?=some d->m k h i->g (.fz d) i λq=>n q λo l=>m (k+1) (h++o) l)/\∀h i,m r.length h i->Q (.val (.lst (h.map OD.fz))) (bY j fr (i.drop nt))
def BQ{d:Type}(x:d)(S L P T C F:List d):(x::(S++((L++P)++((T++C)++F)))).Perm (L++((x::(S++T))++(P++(C++F)))):=by
 have e:x::(S++((L++P)++((T++C)++F)))=x::(S++(L++(P++(T++(C++F))))):=by simp only[aad]
 rw[e];refine List.Perm.trans ?_ aax.symm;refine List.Perm.cons _ ((acr S L _).trans (abj _ ?_));show (S++(P++(T++(C++F)))).Perm ((S++T)++(P++(C++F)));rw[aad];exact abj _ (acr P T _)
def SndY{f:Type}(acc:f->OD)(h:f->Nat)(K:Waa)(tc:TC)(da:f->DEnv->(f->DEnv->Prop)->Prop):Prop:=∀(b:Bs) (F:List Fr) (i:St) (H:Hp) (l:DEnv) (vs:List V) (j:List OR) (D:Addr) (d:f) (Qd:f->DEnv->Prop) (Q:Hp->Prop),b.K=K->vs.length=j.length->h d<1000000->Rel b F i H l (vs++[.ref D]) (j++[.val (acc d)])->da d l Qd ->
 (∀k g o,Rel b F i k g (vs++[.ref D]) (j++[.val (acc o)])->h o<=h d+1->Qd o g->Q k)->tc D i H Q
abbrev TZ:=Addr->TB
def BR{g:Type}(acc:g->OD)(l:g->Nat)(K:Waa)(nt:Nat)(tc:TZ)(da:g->DEnv->(g->DEnv->Prop)->Prop):Prop:=∀(b:Bs) (F:List Fr) (k:St) (H:Hp) (m:DEnv) (vs:List V) (i:List OR) (D:Addr) (d:g) (Qd:g->DEnv->Prop) (Q:St->Hp->Prop),b.K=K->vs.length=i.length->NoRf Ff i->l d<1000000->Rel b F k H m (vs++[.ref D]) (i++[.val (acc d)])->da d m Qd ->
 (∀f n h o,(∀j,nt<=j->f[j]?=k[j]?)->Rel b F f n h (vs++[.ref D]) (i++[.val (acc o)])->l o<=l d+1->Qd o h->Q f n)->tc D k H Q
def SndY.z{d:Type}{acc:d->OD}{i:d->Nat}{nt:Nat}{tc:TC}{da:d->DEnv->(d->DEnv->Prop)->Prop}(h:SndY acc i K tc da):BR acc i K nt (λD σ H Q=>tc D σ H (Q σ)) da:=
 λb F σ H v w n D g m Q t j _ r R u q=>h b F σ H v w n D g m (Q σ) t j r R u λy f o k l s=>q σ y f o (λ_ _=>rfl) k l s
def tCZ(o0:HO)(J:It)(nt:Nat)(fr:List Nat)(g:CC->TG)(tc:CC->TZ)(σ:St)(d:Hp)(Q:VK):Prop:=∀(c:CC) D,d D=none->Gh J (g c) (tc c D) (bV nt fr σ) (upd d D o0) λ_ f=>Q (.ref D) f
theorem jF{w:Type}{acc:w->OD}{ln:w->Nat}{a0:w}{o0:HO}{nt:Nat}{fr:List Nat}{g:CC->TG}{tc:CC->TZ}{dg:DG}{da:w->DEnv->(w->DEnv->Prop)->Prop}(P:∀{b:Bs}{H:Hp}{L:List (V×OD)}{D:Addr},Wd b H L->H D=none->Wd b (upd H D o0) ((.ref D,acc a0)::L))(l0:ln a0=0)(s2:∀c,jk K Ff nt (g c) dg)(s3:∀c,BR acc ln K nt (tc c) da){b:Bs}{F:List Fr}{σ:St}{M:Hp}{ρ1 ρ2 l:DEnv}{τ vs:List V}{θ rs:List OR}{J:It}{ds:List PyData}{Iv:Nat->w->DEnv->Prop}{Q:VK}(hK:b.K=K)(u:vs.length=rs.length)(nr:NoRf Ff rs)
  (y:Rel b F σ M ρ1 (vs++τ) (rs++θ)) (it:jl b J vs rs ds) (a3:ds.length<1000000) (hc:bN ρ1 fr=some (l,ρ2)) (i0:Iv 0 a0 (List.replicate nt none++l)) (step:∀k d out ρ,ds[k]?=some d->Iv k out ρ->dg (.fz d) ρ λh=>da out h λo I=>Iv (k+1) o I)
  (q:∀t D out h,Rel b F σ t (bY ρ2 fr (h.drop nt)) (.ref D::(vs++τ)) (.val (acc out)::(rs++θ))->Iv ds.length out h->Q (.ref D) t):tCZ o0 J nt fr g tc σ M Q:=by
 intro cc D hD;have w1:Wd b M (stk vs rs++(flat σ ρ1++(stk τ θ++ff F))):=y.wd.perm (by
  rw[aB u,aad];refine abj _ ?_;rw[<-aad,<-aad];exact abb.append_right _)
 obtain⟨w2,z,a2⟩:=pd w1 y.wf hc;have al:=(aJ u).mp y.al;have w3:=P w2 hD;have R2:Rel b (⟨σ,ρ2,τ,θ⟩::F) (bV nt fr σ) (upd M D o0) (List.replicate nt none++l) (vs++[.ref D]) (rs++[.val (acc a0)]):=by
  refine⟨BO a2,(aJ u).mpr ⟨nr.al0 al.1,trivial⟩,λf Z=>?_,?_⟩
  ·rcases aac.mp Z with rfl|Z
   ·exact⟨z,al.2⟩
   ·exact y.wff f Z
  ·have ec:flat (bV nt fr σ) (List.replicate nt none++l)=flat (capV σ fr) l:=uA;rw[ec,aB u];refine w3.perm ?_;have ef:ff (⟨σ,ρ2,τ,θ⟩::F)=(stk τ θ++flat σ ρ2)++ff F:=rfl;rw[ef];have S:stk [V.ref D] [OR.val (acc a0)]=[(V.ref D,acc a0)]:=rfl;rw[S];refine List.Perm.trans (List.Perm.cons _ (BP (flat (capV σ fr) l) (stk vs rs) (flat σ ρ2) (stk τ θ) (ff F))) ?_;rw[aad (stk vs rs)];exact aax.symm
 refine⟨λi m s t=>m=ds.length-i/\i<=ds.length/\(∀j,nt<=j->s[j]?=(bV nt fr σ)[j]?)/\∃out h,ln out<=i/\Rel b (⟨σ,ρ2,τ,θ⟩::F) s t h (vs++[.ref D]) (rs++[.val (acc out)])/\Iv i out h,⟨_,rfl,aaH _,λ_ _=>rfl,a0,_,abq l0,R2,i0⟩,?_⟩;rintro i m s t ⟨rfl,hi,B,out,h,ho,N,iv⟩;obtain⟨go,A⟩:=it _ s t h [.ref D] [.val (acc out)] N i;by_cases v:i<ds.length
 ·obtain⟨g1,g2⟩:=go v;refine .inr ⟨g1,λx H2 hy=>?_⟩;have C:ds[i]?=some ds[i]:=aap v;have nn:NoRf Ff (rs++[.val (acc out)]):=NoRf.app nr λr hr=>.inl ⟨_,aao.mp hr⟩;refine s2 cc b _ s H2 h _ _ x _ _ _ hK nn (g2 x H2 _ hy C) (step i _ out h C iv) λa1 H3 T R3 k3 h3=>?_;exact s3 cc b _ a1 H3 T vs rs D out _ _ hK u nr (by omega) R3 h3 λa4 H4 O o k4 R4 lo h4=>⟨_,by omega,rfl,v,λj hj=>(k4 j hj).trans ((k3 j hj).1.trans (B j hj)),o,O,by omega,R4,h4⟩
 ·have e:i=ds.length:=by omega
  subst e;refine .inl ⟨A rfl,q t D out h ?_ iv⟩;have C:s.drop nt=capV σ fr:=by apply abX;intro j;rw[acs,B _ (by omega)];unfold bV capV;rw[aa4 (by simp),abS,acM]
  have w4:Wd b t ((.ref D,acc out)::(stk vs rs++(flat s h++((stk τ θ++flat σ ρ2)++ff F)))):=N.wd.perm (by
   rw[aB u];have S:stk [V.ref D] [OR.val (acc out)]=[(V.ref D,acc out)]:=rfl;rw[S,aad];exact aax)
  obtain⟨L0,eL⟩:=f6 (n:=nt) N.wf;rw[eL,C]at w4;have w5:Wd b t (((.ref D,acc out)::stk (vs++τ) (rs++θ))++(flat (capV σ fr) (h.drop nt)++(flat σ ρ2++ff F))):=by refine Wd.drops (L1:=L0) (w4.perm ?_);rw[aB u];exact BQ (.ref D,acc out) (stk vs rs) L0 (flat (capV σ fr) (h.drop nt)) (stk τ θ) (flat σ ρ2) (ff F)
  have W:Wf (capV σ fr) (h.drop nt):=C▸N.wf.drop;obtain⟨w6,U⟩:=kf w5 z W;exact⟨U,y.al,y.wff,w6⟩
def lP{i:Type}{acc:i->OD}{s:i->Nat}{a0:i}{o0:HO}{nt:Nat}{fr:List Nat}{g:CC->TG}{tc:CC->TC}{n:DG}{da:i->DEnv->(i->DEnv->Prop)->Prop}(l:∀{b:Bs}{H:Hp}{L:List (V×OD)}{D:Addr},Wd b H L->H D=none->Wd b (upd H D o0) ((.ref D,acc a0)::L))(B:s a0=0)(C:∀c,jk K Ff nt (g c) n)(w:∀c,SndY acc s K (tc c) da){b:Bs}{F:List Fr}{σ:St}{t:Hp}{ρ1 ρ2 f:DEnv}{τ vs:List V}{θ rs:List OR}{J:It}{ds:List PyData}{Iv:Nat->i->DEnv->Prop}{Q:VK}(y:b.K=K)(v:vs.length=rs.length)(I:NoRf Ff rs)
  (M:Rel b F σ t ρ1 (vs++τ) (rs++θ)) (it:jl b J vs rs ds) (m:ds.length<1000000) (A:bN ρ1 fr=some (f,ρ2)) (u:Iv 0 a0 (List.replicate nt none++f)) (step:∀k d out ρ,ds[k]?=some d->Iv k out ρ->n (.fz d) ρ λh=>da out h λo j=>Iv (k+1) o j)
  (q:∀r D out h,Rel b F σ r (bY ρ2 fr (h.drop nt)) (.ref D::(vs++τ)) (.val (acc out)::(rs++θ))->Iv ds.length out h->Q (.ref D) r):tCZ o0 J nt fr g (tZ tc) σ t Q:=
 jF (tc:=tZ tc) l B C (λc=>(w c).z) y v I M it m A u step q
def jG{r:DC}(B:∀c,jk K Ff nt (g c) dg)(u:∀c,rS K (tc c) r){b:Bs}{F:List Fr}{Iv:Nat->List PyData->DEnv->Prop}(n:b.K=K)(l:vs.length=rs.length)(C:NoRf Ff rs)
  (I:Rel b F σ H1 ρ1 (vs++τ) (rs++θ)) (it:jl b J vs rs ds) (m:ds.length<1000000) (A:bN ρ1 fr=some (inner,ρ2)) (s:Iv 0 [] (List.replicate nt none++inner)) (step:∀k d out ρ,ds[k]?=some d->Iv k out ρ->dg (.fz d) ρ λf=>r f λo i=>Iv (k+1) (out++o) i)
  (q:∀j D out f,Rel b F σ j (bY ρ2 fr (f.drop nt)) (.ref D::(vs++τ)) (.val (.lst (out.map OD.fz))::(rs++θ))->Iv ds.length out f->Q (.ref D) j):oS (λ_ _ k=>k J H1) nt fr g tc σ H1 Q:=
 lP (da:=λout ρ Q=>r ρ λo f=>Q (out++o) f) (λw h=>Wd.er w rfl h) rfl B (λc b F σ H ρ vs rs D out v Q n l y R h q=>u c b F σ H ρ vs rs D out (λo f=>v (out++o) f) Q n l y R h λj f o t L z=>q j f (out++o) t (by rw[aak];omega) z) n l C I it m A s step q
def lQ(A:nH K wi di)(M:∀c,jk K Ff nt (g c) dg)(v:∀c,rS K (tc c) dc):bG K (oS wi nt fr g tc) (ph di nt fr dg dc):=by intro b F w H z s u T Q n R h q;refine A b F w H z s u _ _ n R h λJ H1 U C Z W i N P y O=>?_;obtain⟨l,f,t,B,S,o,d,k⟩:=O;exact jG M v n i N P y l B o d λL D m j r I=>q _ L _ _ (Rel.drops (Rel.v3 r i) i) (k m j I)
end
end
section
section
variable{X:Cx}{K:Waa}{a b c e elt iter tg:Expr}{es ifs:List Expr}{da db dc':DE}{dt:DA}{dT:DT}{pos p:Pos}{x:Str}{N:List Str}{nt:Nat}{fr:List Nat}{scope:Scope}{di:DI}{dg:DG}{dc:DC}
def PDg.ex{Y:CC->Cx}(f:∀c,(Y c).K=K)(h:∀c,PDg (Y c) Ff m tg dg):∃g:CC->TG,∀c,PG (Y c) tg (g c)/\jk K Ff m (g c) dg:=
 abB (r:=λc g=>PG (Y c) tg g/\jk K Ff m g dg) λc=>(by obtain⟨d,j,i⟩:=h c;exact⟨d,j,f c▸i⟩)
def PDc.ex{Y:CC->Cx}(f:∀c,(Y c).K=K)(h:∀c,PDc (Y c) ifs elt dc):∃g:CC->TC,∀c,(∀D,nk (Y c) D ifs elt (g c))/\rS K (g c) dc:=
 abB (r:=λc g=>(∀D,nk (Y c) D ifs elt g)/\rS K g dc) λc=>(by obtain⟨d,j,i⟩:=h c;exact⟨d,j,f c▸i⟩)
def xY(l:X.calm=true)(S:CompScope N nt fr X.N scope X.env.scope)(hs:∀x,foldedSetIterable iter X.env x=pure x:=by intro _;rfl)(h:PDi X tg iter di)(i:∀c:CC,PDg (aY X N scope c) Ff nt tg dg)(j:∀c:CC,PDc (aY X N scope c) ifs elt dc):
  PDe X (.ListComp elt [⟨tg,iter,ifs,0⟩] scope pos) (ph di nt fr dg dc):=by
 obtain⟨n,m,k⟩:=h;obtain⟨g,d⟩:=PDg.ex (K:=X.K) (Y:=λc=>aY X N scope c) (λ_=>rfl) i;obtain⟨o,f⟩:=PDc.ex (Y:=λc=>aY X N scope c) (λ_=>rfl) j;exact⟨_,oT l S m (λc=>(d c).1) (λc D=>(f c).1 D) hs,lQ k (λc=>(d c).2) λc=>(f c).2⟩
end
def aU:List Bool->DEnv->List OR->Option (List OD×DEnv)
 |[],ρ,[]=>some ([],ρ)
 |true::ios,ρ,r::rs=>match mv1 ρ r with
  |some (x,ρ1)=>match aU ios ρ1 rs with|some (xs,ρ2)=>some (x::xs,ρ2)|none=>none
  |none=>none
 |false::ios,ρ,r::rs=>match frz1 ρ r with
  |some (d,ρ1)=>match aU ios ρ1 rs with|some (xs,ρ2)=>some (.fz d::xs,ρ2)|none=>none
  |none=>none
 |_,_,_=>none
def dM:List Bool->List OR->List OD->DEnv->DEnv
 |true::ios,.rf j::rs,y::ys,ρ=>dM ios rs ys (ρ.set j (some y))
 |_::ios,_::rs,_::ys,ρ=>dM ios rs ys ρ
 |_,_,_,ρ=>ρ
section
variable{b:Bs}{F:List Fr}{σ:St}{H H':Hp}{ρ ρ':DEnv}{τ vs:List V}{θ rs:List OR}{v u:V}{r:OR}{x y:OD}{d:PyData}{i j:Nat}
theorem argsR_ok:∀{ios:List Bool}{vs:List V}{rs:List OR}{ρ ρ':DEnv}{xs:List OD}{τ:List V}{θ:List OR},Rel b F σ H ρ (vs++τ) (rs++θ)->vs.length=rs.length->aU ios ρ rs=some (xs,ρ')->Rel b F σ H ρ' (vs++τ) (xs.map OR.val++θ)/\vs.length=xs.length
 |[],[],[],_,_,_,_,_,R,_,e=>by simp only[aU]at e;cases e;exact⟨R,rfl⟩
 |true::ios,v::vs,r::rs,ρ,ρ',ds,τ,θ,R,e,h=>by
  simp only[aU]at h;split at h
  ·rename_i x ρ1 k;split at h
   ·rename_i xs ρ2 f;cases h;have g:Rel b F σ H ρ1 (v::(vs++τ)) (.val x::(rs++θ)):=Rel.mv1 R k;have a:vs.length=rs.length:=by simpa using e
    obtain⟨l,c⟩:=argsR_ok (Rel.v3 g a) a f;exact⟨Rel.xc l (by rw[c,aaa]),by simp[c]⟩
   ·cases h
  ·cases h
 |false::ios,v::vs,r::rs,ρ,ρ',ds,τ,θ,R,e,h=>by
  simp only[aU]at h;split at h
  ·rename_i x ρ1 k;split at h
   ·rename_i xs ρ2 f;cases h;have g:Rel b F σ H ρ1 (v::(vs++τ)) (.val (.fz x)::(rs++θ)):=Rel.frz1 R k;have a:vs.length=rs.length:=by simpa using e
    obtain⟨l,c⟩:=argsR_ok (Rel.v3 g a) a f;exact⟨Rel.xc l (by rw[c,aaa]),by simp[c]⟩
   ·cases h
  ·cases h
 |_,[],_::_,_,_,_,_,_,_,e,_=>by simp at e
 |_,_::_,[],_,_,_,_,_,_,e,_=>by simp at e
 |[],_::_,_::_,_,_,_,_,_,_,_,h=>by simp[aU]at h
 |true::_,[],[],_,_,_,_,_,_,_,h=>by simp[aU]at h
 |false::_,[],[],_,_,_,_,_,_,_,h=>by simp[aU]at h
def Rel.give(R:Rel b F σ H ρ (v::τ) (.val y::θ))(ev:σ[j]?=some (some v)):Rel b F σ H (ρ.set j (some y)) τ θ:=
 Rel.back R.wf (Rel.drop R).al R.wff ev (Wd.p7 R.wd R.wf j)
theorem bU:∀{ios:List Bool}{vs:List V}{rs:List OR}{ys:List OD}{ρ:DEnv},Al σ vs rs->vs.length=ys.length->Rel b F σ H ρ (vs++τ) (ys.map OR.val++θ)->Rel b F σ H (dM ios rs ys ρ) τ θ
 |ios,[],[],[],ρ,_,_,R=>by cases ios with|nil=>exact R|cons i ios=>cases i<;>exact R
 |[],v::vs,r::rs,y::ys,ρ,al,e,R=>by
  have a:Al σ vs rs:=by cases r with|val _=>exact al|rf _=>exact al.2
  have:=bU (ios:=[]) a (by simpa using e) (Rel.drop R);cases vs<;>cases rs<;>cases ys<;>exact this
 |true::ios,v::vs,.rf j::rs,y::ys,ρ,al,e,R=>bU (ys:=ys) al.2 (by simpa using e) (Rel.give R al.1)
 |true::ios,v::vs,.val x::rs,y::ys,ρ,al,e,R=>bU (ys:=ys) al (by simpa using e) (Rel.drop R)
 |false::ios,v::vs,.rf j::rs,y::ys,ρ,al,e,R=>bU (ys:=ys) al.2 (by simpa using e) (Rel.drop R)
 |false::ios,v::vs,.val x::rs,y::ys,ρ,al,e,R=>bU (ys:=ys) al (by simpa using e) (Rel.drop R)
 |_,[],_::_,_,_,al,_,_=>by simp[Al]at al
 |_,_::_,[],_,_,al,_,_=>by simp[Al]at al
 |_,[],_,_::_,_,_,e,_=>by simp at e
 |_,_::_,_,[],_,_,e,_=>by simp at e
end
structure FnD (P:Program)(w:World)(K:Waa)(mg:Str->Option Value)(base:Heap)(k:Nat)(f:Addr)(fd:FuncData)(ps:List Str)(sp:DSp):Prop where
 ok:FnOk P w K mg base CX0 k f fd ps (toSp K sp)
 mono:tX sp
section
variable{X:Cx}{K:Waa}{a b c e:Expr}{es:List Expr}{da db dc:DE}{dt:DA}{pos p:Pos}{x:Str}{k:Nat}{f:Addr}{fd:FuncData}{ps:List Str}{sp:DSp}
def zL(sp:DSp)(ios:List Bool)(t:DA):DE:=λl Q=>t l λh g=>∃i d,aU ios g h=some (i,d)/\sp i λx j=>Q (.val x) (dM ios h j d)
def uC(G:FnD X.prog X.w X.K X.mg X.base k f fd ps sp)(I:tY X.K ta dt):bG X.K (zE (toSp X.K sp) [] E0 ta) (zL sp ios dt):=λb F t H D g j P Q u R h q=>I b F t H D g j _ _ u R h λy T S L o s ⟨O,i,J,M⟩=>by
  obtain⟨z,m⟩:=argsR_ok s o J;have B:=((aJ o).mp s.al).1;have w:=z.vals m;rw[aaq,<-u];refine w.call m G.mono (G.mono _ _ _ (λx r N d v n C=>q v n _ _ ?_ N) M);have A:Rel b F t n i (v::(y++g)) (.val x::(r.map OR.val++j)):=by have l:=z.drops (by simpa using m);refine⟨l.wf,(aJ (by simpa using d)).mpr ⟨fB d,l.al⟩,l.wff,?_⟩;show Wd b n ((v,x)::(stk (y++g) (r.map OR.val++j)++_));rw[aB (by simpa using d),cp d,aad];exact C
  exact bU B d (Rel.v3 A (by simpa using d))
def xZ{ios:List Bool} (G:FnD X.prog X.w X.K X.mg X.base k f fd ps sp) (i:Room k X.A) (h:Gl X x) (l:X.mg x=some (.ref f)) (hk:PySem.W.keepIn X.K (.ref f)=true) (j:Binds X.K fd ps []) (g:(x==("__debug__":Str))=false:=by decide)
  (m:starEach (e::es) X.env=(false,eval e X.env)::starEach es X.env:=by rfl) (d:(backTo pos (starEach es X.env)).any (·.1)=false:=by rfl):PDa X (e::es) dt->PDe X (.Call (.Name x p) (e::es) [] pos) (zL sp ios dt)
 |⟨_,h1,s1⟩=>⟨_,xk (E:=E0) G.ok i h l hk j .nil oQ h1 g m d,uC G s1⟩
end
section
variable{P:Program}{w:World}{K:Waa}{mg:Str->Option Value}{base:Heap}
theorem bP:∀{vs:List V}{n:Nat}{ρ:DEnv},flat (vs.map some++List.replicate n none) ρ=flat (vs.map some) ρ
 |[],0,_=>rfl
 |[],n+1,[]=>rfl
 |[],n+1,o::ρ=>by
  rw[aaC,aa5,abA];have:flat (none::List.replicate n none) (o::ρ)=flat (List.replicate n none) ρ:=by cases o<;>rfl
  rw[this];have:=bP (vs:=[]) (n:=n) (ρ:=ρ);simpa[flat] using this
 |v::vs,n,[]=>by simp[flat]
 |v::vs,n,none::ρ=>by simp only[aam,aaP,br];exact bP
 |v::vs,n,some x::ρ=>by simp only[aam,aaP,flat];rw[bP]
theorem ig:∀{vs:List V}{xs:List OD}{k:Nat},vs.length=xs.length->flat (vs.map some) (xs.map some++List.replicate k none)=vs.zip xs
 |[],[],0,_=>rfl
 |[],[],_+1,_=>rfl
 |v::vs,x::xs,k,e=>by simp only[aam,aaP,flat,abW];rw[ig (by simpa using e)]
 |[],_::_,_,e=>by simp at e
 |_::_,[],_,e=>by simp at e
theorem ij:∀{vs:List V}{xs:List OD}{k:Nat},vs.length=xs.length->Wf (vs.map some++List.replicate k none) (xs.map some++List.replicate k none)
 |[],[],0,_=>trivial
 |[],[],k+1,_=>by have:=ij (vs:=[]) (xs:=[]) (k:=k) rfl;exact this
 |v::vs,x::xs,k,e=>ij (xs:=xs) (by simpa using e)
 |[],_::_,_,e=>by simp at e
 |_::_,[],_,e=>by simp at e
def f9(N:Nat)(xs:List OD):DEnv:=xs.map some++List.replicate (N-xs.length) none
def aS:Nat->List Bool->List OD->DEnv->Option (List OD)
 |_,[],[],_=>some []
 |i,true::ios,_::xs,ρ=>match ρ[i]?.join with
  |some y=>match aS (i+1) ios xs ρ with|some ys=>some (y::ys)|none=>none
  |none=>none
 |i,false::ios,.fz d::xs,ρ=>match aS (i+1) ios xs ρ with|some ys=>some (.fz d::ys)|none=>none
 |_,_,_,_=>none
def WS(ios:List Bool):Nat->Prop:=λj=>ios[j]?=some true
def fD:Nat->List Bool->List V->List V
 |i,true::ios,v::vs=>v::fD (i+1) ios vs
 |i,false::ios,_::vs=>fD (i+1) ios vs
 |_,_,_=>[]
def dA:Nat->List Bool->List OR
 |i,true::ios=>.rf i::dA (i+1) ios
 |i,false::ios=>dA (i+1) ios
 |_,[]=>[]
theorem kg:∀{ios:List Bool}{vs:List V}{i:Nat},ios.length=vs.length->(∀k v,vs[k]?=some v->σ[i+k]?=some (some v))->Al σ (fD i ios vs) (dA i ios)
 |[],[],_,_,_=>trivial
 |true::ios,v::vs,i,e,h=>⟨h 0 v rfl,kg (ios:=ios) (by simpa using e) λk u a=>by have:=h (k+1) u (by simpa using a);rwa [show i+1+k=i+(k+1) by omega]⟩
 |false::ios,v::vs,i,e,h=>kg (i:=i+1) (by simpa using e) λk u a=>by have:=h (k+1) u (by simpa using a);rwa [show i+1+k=i+(k+1) by omega]
 |[],_::_,_,e,_=>by simp at e
 |true::_,[],_,e,_=>by simp at e
 |false::_,[],_,e,_=>by simp at e
theorem kh:∀{ios:List Bool}{i:Nat}{W:Nat->Prop},(∀k,ios[k]?=some true->W (i+k))->NoRf W (dA i ios)
 |[],_,_,_=>λr a=>by simp[dA]at a
 |true::ios,i,W,h=>λr a=>by
  simp only[dA]at a;rcases aac.mp a with rfl|a
  ·exact .inr ⟨i,h 0 rfl,rfl⟩
  ·exact kh (ios:=ios) (λk b=>by have:=h (k+1) (by simpa using b);rwa [show i+1+k=i+(k+1) by omega]) r a
 |false::ios,i,W,h=>λr a=>kh (i:=i+1) (λk b=>by have:=h (k+1) (by simpa using b);rwa [show i+1+k=i+(k+1) by omega]) r a
theorem fE:∀{ios:List Bool}{vs:List V}{i:Nat},stk (fD i ios vs) (dA i ios)=[]
 |[],[],_=>rfl
 |[],_::_,_=>rfl
 |true::ios,[],i=>by simp[fD,dA,stk]
 |false::ios,[],i=>by have:fD i (false::ios) ([]:List V)=[]:=rfl;rw[this];cases h:dA i (false::ios)<;>rfl
 |true::ios,v::vs,i=>fE (i:=i+1)
 |false::ios,v::vs,i=>fE (i:=i+1)
end
end
section
section
variable{P:Program}{w:World}{K:Waa}{mg:Str->Option Value}{base:Heap}{b:Bs}{σ:St}{H:Hp}
def Wd.addF(w:Wd b H L)(f:Fz b.K (λa=>b.C a\/b.S0 a) b.H0 v d):Wd b H ((v,.fz d)::L):=by
 obtain⟨A,g,h,e⟩:=w.out;refine⟨⟨A,Ows.cons (.fz (f.step (w.fr.weak λc z=>.inl (.inl z)) λc z=>?_)) g,h,e⟩,w.fr,w.s0,w.nt⟩;rcases z with z|z
 ·exact(e c z).elim .inr λz=>.inl (.inl z)
 ·exact .inl (.inr z)
theorem gb:∀{ios:List Bool}{xs:List OD}{i j:Nat}{ρ:DEnv},j<i->aS i ios xs (ρ.set j none)=aS i ios xs ρ
 |[],[],_,_,_,_=>rfl
 |true::ios,_::xs,i,j,ρ,h=>by simp only[aS];rw[abf (by omega),gb (by omega)]
 |false::ios,.fz d::xs,i,j,ρ,h=>by simp only[aS];rw[gb (by omega)]
 |[],_::_,_,_,_,_=>rfl
 |true::_,[],_,_,_,_=>rfl
 |false::_,[],_,_,_,_=>rfl
 |false::_,.lst _::_,_,_,_,_=>rfl
 |false::_,.tup _::_,_,_,_,_=>rfl
 |false::_,.dic _ _::_,_,_,_,_=>rfl
 |false::_,.obj _ _ _::_,_,_,_,_=>rfl
 |false::_,.pin _ _ _::_,_,_,_,_=>rfl
 |false::_,.hole _::_,_,_,_,_=>rfl
theorem ki:∀{ios:List Bool}{vs:List V}{xs ys:List OD}{i:Nat}{ρ:DEnv}{L1:List (V×OD)},vs.length=xs.length->(∀(k:Nat) v d,vs[k]?=some v->xs[k]?=some (.fz d)->Fz b.K (λa=>b.C a\/b.S0 a) b.H0 v d)->aS i ios xs ρ=some ys ->
  Al σ (fD i ios vs) (dA i ios)->Wf σ ρ->Wd b H (L1++flat σ ρ)->vs.length=ys.length/\∃R,Wd b H (L1++(vs.zip ys++R))
 |[],[],[],ys,i,ρ,L1,_,_,e,_,_,w=>by simp only[aS]at e;cases e;exact⟨rfl,_,w⟩
 |true::ios,v::vs,x::xs,ys,i,ρ,L1,el,hf,e,al,wf,w=>by
  simp only[aS]at e;split at e
  ·rename_i y n;split at e
   ·rename_i g j;cases e;have o:σ[i]?=some (some v):=al.1;have l:Wd b H ((L1++[(v,y)])++flat σ (ρ.set i none)):=w.perm (by
     rw[aad];exact(bD (join_some n) o).append_left _)
    obtain⟨h,R,c⟩:=ki (by simpa using el) (λk u d m f=>hf (k+1) u d (by simpa using m) (by simpa using f)) (by rw[gb (by omega)];exact j) al.2 wf.off l;exact⟨by simp[h],R,by rw[aad]at c;exact c⟩
   ·cases e
  ·cases e
 |false::ios,v::vs,.fz d::xs,ys,i,ρ,L1,el,hf,e,al,wf,w=>by
  simp only[aS]at e;split at e
  ·rename_i g j;cases e;have l:Wd b H ((L1++[(v,.fz d)])++flat σ ρ):=(w.addF (hf 0 v d rfl rfl)).perm (by
    rw[aad];exact aax.symm)
   obtain⟨h,R,c⟩:=ki (by simpa using el) (λk u d m f=>hf (k+1) u d (by simpa using m) (by simpa using f)) j al wf l;exact⟨by simp[h],R,by rw[aad]at c;exact c⟩
  ·cases e
 |[],_::_,_::_,_,_,_,_,_,_,e,_,_,_=>by simp[aS]at e
 |true::_,[],[],_,_,_,_,_,_,e,_,_,_=>by simp[aS]at e
 |false::_,[],[],_,_,_,_,_,_,e,_,_,_=>by simp[aS]at e
 |false::_,_::_,.lst _::_,_,_,_,_,_,_,e,_,_,_=>by simp[aS]at e
 |false::_,_::_,.tup _::_,_,_,_,_,_,_,e,_,_,_=>by simp[aS]at e
 |false::_,_::_,.dic _ _::_,_,_,_,_,_,_,e,_,_,_=>by simp[aS]at e
 |false::_,_::_,.obj _ _ _::_,_,_,_,_,_,_,e,_,_,_=>by simp[aS]at e
 |false::_,_::_,.pin _ _ _::_,_,_,_,_,_,_,e,_,_,_=>by simp[aS]at e
 |false::_,_::_,.hole _::_,_,_,_,_,_,_,e,_,_,_=>by simp[aS]at e
 |_,[],_::_,_,_,_,_,e,_,_,_,_,_=>by simp at e
 |_,_::_,[],_,_,_,_,e,_,_,_,_,_=>by simp at e
theorem Ows.fzAt:∀{vs:List V}{xs:List OD}{A:List Addr}{k:Nat}{v:V}{d:PyData},Ows b S H vs xs A->vs[k]?=some v->xs[k]?=some (.fz d)->Fz b.K S H v d
 |_,_,_,0,_,_,.cons r _,e,e'=>by simp at e e';subst e e';cases r with|fz f=>exact f
 |_,_,_,k+1,_,_,.cons _ t,e,e'=>Ows.fzAt (k:=k) t (by simpa using e) (by simpa using e')
 |_,_,_,_,_,_,.nil,e,_=>by simp at e
theorem Fun.okD{u:Stmt}(F:Fun K x qual u f fd)(S:FnScope N ps (aK u))(y:tX sp)(a1:ios.length=ps.length)(J:∀xs Q,sp xs Q->xs.length=ps.length)
  (o:∀(n:Value) (A:Around) (g:List Env) (s:Shared) (H:Hp) (E:XK),Room k (A.deeper (envOfC qual (aK u) s.heap.objs.size f n))->∀(xs:List OD) (Q:OD->List OD->Prop),sp xs Q ->
   ∃O,PDss (jZ CX0 P w K mg base N qual (aK u) f n A g s H E).nox (WS ios) (b9 u) O/\O { nx:=λρ=>∃j,aS 0 ios xs ρ=some j/\Q (.fz .none) j,rt:=λx ρ=>∃j,aS 0 ios xs ρ=some j/\Q x j } (f9 N.length xs)):FnD P w K mg base (k+1) f fd ps sp:=by
 refine⟨F.ok S (λm H Q E h=>?_) (λn A g s H m Q E hr h=>?_),y⟩
 ·obtain⟨S,xs,A,_,_,I,_,h⟩:=h;rw[I.len];exact J _ _ h
 ·obtain⟨S',xs,U,al,nt,I,nA,h⟩:=h;obtain⟨O,⟨ts,h1,s1⟩,hd⟩:=o n A g s H E hr xs _ h;refine⟨ts,h1,?_⟩
  let b:Bs:=⟨K,H,S',λa=>a∈U⟩
  have L:=I.len;have a2:=J _ _ h;have w0:Wd b H (m.zip xs):=⟨⟨U,OwL.j1 I,nA,λa W=>.inr W⟩,Kp.refl _ _,λa z=>⟨(al a z).1,(al a z).2⟩,nt⟩
  have sg:∀(k:Nat) v,m[k]?=some v->(start N m)[0+k]?=some (some v):=λk v e=>by have hk:=(aaj.mp e).1;unfold start;rw[aa2,aaR (by simpa using hk),aat,e];rfl
  have R:Rel b [] (start N m) H (f9 N.length xs) (fD 0 ios m) (dA 0 ios):=by unfold start f9;refine⟨by rw[L];exact ij L,kg (by omega) sg,λf hf=>(by cases hf),?_⟩;rw[fE];show Wd b H ([]++(flat _ _++[]));rw[aa5,aaq,bP,ig L];exact w0
  have D:∀(l:St) (p:Hp) (i:DEnv) (v:V) (x:OD),Rel b [] l p i (v::fD 0 ios m) (.val x::dA 0 ios)->(∃j,aS 0 ios xs i=some j/\Iw K S' U m H Q x j)->Q v p:=λl p i v x C ⟨j,ey,W⟩=>by
   have w':Wd b p ([(v,x)]++flat l i):=by have:=C.wd;simp only[stk]at this;rw[fE]at this;simpa[ff] using this
   obtain⟨a0,Z,M⟩:=ki L (λk v d h1 h2=>(Ows.fzAt I h1 h2).sub λa z=>z) ey C.al C.wf w';have e1:[(v,x)]++(m.zip j++Z)=(v::m).zip (x::j)++Z:=rfl;rw[e1]at M;obtain⟨B0,h0,nd,X⟩:=M.out;have Y:=M.q7 h0;obtain⟨B,B2,rfl,r,t⟩:=OwL.fy h0;refine W v p B M.fr (Ows.sub Y (λc z=>z.imp (aaf _) id) (OwL.vl (by simp[a0]) r)) (aaD.mp nd).1 λa T=>X a (aaf _ T)
  refine s1 b [] (start N m) H _ _ _ _ _ rfl (kh λk hk=>?_) R hd ⟨λl p i C q=>?_,λ_ _ _ _ q=>q.elim,λ_ _ _ _ q=>q.elim,D⟩
  ·rw[aa2];exact hk
  ·exact D l p i .non _ (C.sc .non) q
end
end
section
open AutoSeq1 (wpAny_loadPart')
section
variable{X:Cx}{a:Expr}{es:List Expr}{p pos:Pos}
def BS{ρ:DEnv}(h:ρ[j]?.join=some x):ρ.set j (some x)=ρ:=bI (join_some h)
end
end
section
section
variable{X:Cx}{K:Waa}{o e:Expr}{da db:DE}{pos pos' apos cpos:Pos}
def ED(n:Int):Value->Bool
 |.int a _=>a==n
 |_=>false
end
end
section
section
variable{X:Cx}{K:Waa}{a:Expr}{pos:Pos}
def EE(K:Waa):R2:=λx y H Q=>∃a b d c,x=.ref a/\y=.ref b/\SqT K H a d/\SqT K H b c/\c≠[]/\d.length+c.length<=sizeLine /\
 (d=[]->Q (.ref b) H)/\(∀p,H p=none->Q (.ref p) (upd H p (.tup (d++c))))
def x6:OpR X (binaryOp .Add) (EE X.K):=by
 intro i s σ H x y v u Q I C D h;obtain⟨a,b,t,P,M,q,r,J,k,Y,U,Z⟩:=id h;by_cases o:t=[]
 ·subst M q;cases C;cases D;obtain⟨m,T,⟨⟨S,W,w,N⟩,z,B,n,A⟩,_⟩:=I.tuple r;obtain⟨c,r2,⟨⟨L,l,j,p⟩,g,d,O,f⟩,_⟩:=I.tuple J;simp only at B A d f;subst B A d f;have e:=T.i3.mpr o;refine adK ⟨_,z,rfl⟩ ⟨_,g,rfl⟩ adU seq_tuple_add F.slot_tuple_add F.entry_tuple_add (F.args_tuple_add_2 _ _) (tuple_addW0 a b m.toArray c.toArray n O W l N p ?_) ⟨z,g,.ref b,H,I,rfl,U o⟩;rw[e];rfl
 ·exact xn i s σ H x y v u Q I C D ⟨a,b,t,P,M,q,r,J,o,Y,λe=>absurd e k,λ_=>Z⟩
def EF(a b:DE):DE:=λg Q=>a g λx f=>b f λy c=>∃e d,BG c x=some e/\BG c y=some d/\d≠[]/\e.length+d.length<=1000000/\Q (.val (.fz (.tuple (e++d)))) c
def BU(h:BG ρ x=some ds):L2.frz1 ρ x=some (.tuple ds,ρ):=by
 obtain⟨c,b,e⟩:=aaO.mp h;have f:c=.fz (.tuple ds):=by
  cases c with
  |fz d=>cases d<;>cases e;rfl
  |_=>cases e
 subst f;cases x with
 |val z=>cases b;rfl
 |rf j=>have b:ρ[j]?.join=some (.fz (.tuple ds)):=b;show (ρ[j]?.join).bind _=_;rw[b];show some (PyData.tuple ds,ρ.set j (some (.fz (.tuple ds))))=_;rw[BS b]
theorem x9:PDe X a da->PDe X b db->PDe X (.BinOp a .Add b pos) (EF da db)
 |⟨_,m,s1⟩,⟨_,i,s2⟩=>⟨_,sV x6 m i,λb F σ H ρ τ θ S Q n R h q=>s1 b F σ H ρ τ θ _ _ n R h λv M x ρ1 O m=>s2 b F σ M ρ1 _ _ _ _ n O m λu t y ρ2 g ⟨ds,es,J,p,k,d,i⟩=>by
  have B:=(g.frz1 (BU p)).eu;obtain⟨P,D,I⟩:=aaO.mp J;obtain⟨T,N,s⟩:=aaO.mp p;obtain⟨a,A,rfl,j,r,w⟩:=g.wd.ej (g.mem1 D) I;obtain⟨c,L,rfl,e,f,o⟩:=w.ej (aae _ (g.mem N)) s;rw[<-aad]at o;rw[n]at r f;refine⟨a,c,A,L,rfl,rfl,r,f,λz=>k (by subst z;cases es with|nil=>rfl|cons _ _=>simp at e),j5 (by omega),λz=>?_,λl C=>q _ _ _ _ (Rel.eu (Rel.eu (g.fx o (by simp[j,e]) (λz d=>?_) C))) i⟩
  ·have:ds=[]:=by subst z;cases ds with|nil=>rfl|cons _ _=>simp at j
   subst this;exact q _ t _ _ B i
  ·rw[aau,pb (by simpa using j)]at d;refine aaf _ ?_;rcases aai.mp d with d|d
   ·exact aae _ d
   ·exact aaf _ d⟩
theorem rV:Im X "list.index" (λx vs H Q=>∃(l:Addr) (ns:List Int) (n:Int) (j:Nat),x=.ref l/\vs=[.int n]/\SqL X.K H l (ns.map V.int)/\ns[j]?=some n/\(∀m,m<j->ns[m]?≠some n)/\j<1000000/\Q (.int j) H):=by
 intro N s σ H x vs v us Q I Y W h;obtain⟨l,ns,n,j,rfl,rfl,hS,L,C,hb,q⟩:=h;cases Y;obtain⟨u,rfl,t,rfl⟩:=W.one;obtain⟨c,r,p1,_⟩:=I.list hS;have M:c.length=ns.length:=by rw[<-r.length,aaa]
 have d:∀m (g:m<c.length),∃a f,c[m]=.int a f/\ns[m]?=some a:=λm g=>by
  have p:m<ns.length:=by omega
  obtain⟨u,T,f,rfl⟩:=r.get (by rw[aat,aap p];rfl);exact⟨ns[m],f,(aaj.mp T).2,aap p⟩
 have i:j<c.length:=by have:=(aaj.mp L).1;omega
 have J:ED n c[j]=true:=by obtain⟨a,f,A,w⟩:=d j i;rw[L]at w;cases w;rw[A];simp[ED]
 have k:∀m (g:m<c.length),m<j->ED n c[m]=false:=λm g D=>by obtain⟨a,f,A,w⟩:=d m g;rw[A];have:a≠n:=λz=>C m D (z▸w);simp[ED,this]
 obtain⟨⟨oc,S,dt,P⟩,B,U,n0,Z⟩:=p1.isList;cases U;cases Z;refine call_meets F.slot_list_index ⟨_,B,rfl⟩ F.entry_list_index (F.args_list_index_2 _ _) (SeqAt.list_indexAt l c.toArray n0 S P (.int n t) (ED n) j i (by omega) J k) ⟨B,λy O=>?_,.int j,H,I.kept λb o e=>e,⟨_,rfl⟩,q⟩;obtain⟨m,g,rfl⟩:=List.getElem_of_mem (List.mem_toArray.mp O);obtain⟨a,f,A,w⟩:=d m g;rw[A];exact(MeetsSeq.EqGives.int a n f t).at _ _
theorem lR{prog:Program}{w:World}{A:Around}{E:Value->Shared->Prop}(k:s.heap.IsTuple l vs.toArray)(i:vs.length<=1000)
  (h:∀h',(∀b o,s.heap.get? b=some o->h'.get? b=some o)->Q vs { s with heap:=h' }):wpAny (model prog w) A (collect (.ref l)) Q E s:=by
 obtain⟨o,m,q,n,p⟩:=id k;unfold collect;refine ada (adY (adu entry_proto_collect' ?_));show wpAny _ _ (newList [] >>= λr=>again (.builtin "list.__iadd__" ⟨[r,.ref l],[]⟩)) _ _ s;refine ada (wpAny_newList (adb ⟨Code.quiet_builtin _ (by decide +kernel),adu entry_list_iadd' ?_⟩));generalize hH:s.heap.push (seqObj "list" #[] 0)=g;show wpAny _ _ (Builtin.List.listExtendWith (.ref s.heap.objs.size) (.ref l) (.ref s.heap.objs.size)) _ _ { s with heap:=g };have f:g.get? s.heap.objs.size=some (seqObj "list" #[] 0):=by rw[<-hH];exact adf _ rfl
 have c:g.get? l=some o:=by rw[<-hH];exact ade _ m
 have t:1000<=sizeLine:=by decide
 unfold Builtin.List.listExtendWith;refine ada (wpAny_typeOf ⟨o,c,q⟩ ?_);have j:(Value.type "tuple" == Value.type "tuple")=true:=by rfl
 rw[if_pos (by rw[j];simp)];refine ada (listItems_at c p (ada (listItems_at f rfl ?_)));rw[if_neg (by simp)];refine ada (listUpdate_at f rfl ?_ (aaH _) (by show (#[]++vs.toArray).size<=sizeLine+1;simp only[Array.size_append,aaz,aaG];omega));refine adb ?_;show wpAny (model prog w) A (load s.heap.objs.size >>= λo=>match o.data with
   |.seq xs _=>pure xs.toList
   |_=>unsupported "internal:collect") Q E _
 refine ada (wpAny_load (get?_update_seq f _) ?_);show wpAny _ _ (pure ((#[]:Array Value)++vs.toArray).toList) Q E _;rw[show ((#[]:Array Value)++vs.toArray).toList=vs by simp];refine adb (h _ λb o e=>?_);have d:b≠s.heap.objs.size:=aar (adc e);rw[Heap.get?_update_ne _ _ _ _ d,<-hH];exact ade _ e
end
end
section
def IA(h:DI)(g:DG)(i:DE)(out:List PyData)(ρ:DEnv)(Q:List PyData->DEnv->Prop):Prop:=h ρ λe f=>out.length+e.length<1000000/\∃b:Nat->List PyData->DEnv->Prop,b 0 out f/\(∀k d out ρ,e[k]?=some d->b k out ρ->g (.fz d) ρ λc=>pe i c λo a=>b (k+1) (out++o) a)/\∀out ρ,b e.length out ρ->Q out ρ
abbrev Hr(z:List PyData×Nat):OD:=.lst (z.1.map OD.fz)
abbrev Hs(di:DI)(dg:DG)(de:DE)(z:List PyData×Nat)(ρ:DEnv)(Q:List PyData×Nat->DEnv->Prop):Prop:=IA di dg de z.1 ρ λo ρ'=>Q (o,z.2+1) ρ'
def BV{K:Waa}(s1:nH K wi di)(s2:jk K Ff nt g dg)(s3:bG K te de):BR Hr Prod.snd K nt (λD=>G2 wi g (G3 te D)) (Hs di dg de):=by
 intro b F P H ρ S O D l Qd Q A Y n0 hz R h q;refine s1 b F P H ρ _ _ _ _ A R h λJ H1 n C d f p nr R1 it hZ=>?_;obtain⟨hl,Iv,X,t,z⟩:=hZ;refine⟨λi m c v=>m=n.length-i/\i<=n.length/\(∀j,nt<=j->c[j]?=P[j]?)/\∃o a,o.length<=l.1.length+i/\Rel b F c v a (d++(S++[.ref D])) (f++(O++[.val (.lst (o.map OD.fz))]))/\Iv i o a,⟨_,rfl,aaH _,λ_ _=>rfl,l.1,C,aag _,R1,X⟩,?_⟩;rintro i m c v ⟨rfl,hi,u,o,a,ho,M,T⟩;obtain⟨Z,s⟩:=it F c v a _ _ M i;by_cases k:i<n.length
 ·obtain⟨g1,g2⟩:=Z k;refine .inr ⟨g1,λx L W=>?_⟩;have U:n[i]?=some n[i]:=aap k;refine s2 b F c L a _ _ x _ _ _ A (NoRf.app nr (NoRf.app n0 λr hr=>.inl ⟨_,aao.mp hr⟩)) (g2 x L _ W U) (t i _ o a U T) λy H3 B N k3 h3=>?_;rw[<-aad d,<-aad f]at N;exact ie s3 b F y H3 B (d++S) (f++O) D o _ _ A (by simp[Y,p]) (by omega) N h3 λH4 w o4 R4 lo h4=>⟨_,by omega,rfl,k,λj I=>(k3 j I).1.trans (u j I),o++o4,w,by rw[aak];omega,by rw[<-aad d,<-aad f];exact R4,h4⟩
 ·have e:i=n.length:=by omega
  subst e;exact .inl ⟨s rfl,q c v a (o,l.2+1) u (M.drops p) (aag _) (z o a T)⟩
def BW(m:DI)(nt:Nat)(fr:List Nat)(g:DG)(h:DI)(g2:DG)(n:DE):DE:=λc Q=>m c λj l=>j.length<1000000/\∃a e,bN l fr=some (a,e)/\∃f:Nat->List PyData->DEnv->Prop,f 0 [] (List.replicate nt none++a) /\
 (∀k d b c,j[k]?=some d->f k b c->g (.fz d) c λi=>IA h g2 n b i (f (k+1)))/\∀b c,f j.length b c->Q (.val (.lst (b.map OD.fz))) (bY e fr (c.drop nt))
def rW{K:Waa}{f:CC->TI}{g g2:CC->TG}{s:CC->TE}(M:nH K wi di)(S:∀c,jk K Ff nt (g c) dg)(B:∀c,nH K (f c) di2)(A:∀c,jk K Ff nt (g2 c) dg2)(u:∀c,bG K (s c) de):
  bG K (tK wi nt fr g λc D=>G2 (f c) (g2 c) (G3 (s c) D)) (BW di nt fr dg di2 dg2 de):=by
 intro b F C H o x y Y Q r R h q;refine M b F C H o x y _ _ r R h λJ H1 Z O vs rs j T W I U=>?_;obtain⟨n,i,z,N,X,t,e,m⟩:=U;exact jF (a0:=([],0)) (λw h=>Wd.er w rfl h) rfl S (λc=>BV (B c) (A c) (u c)) r j T W I n N t (λk d a o L p=>e k d a.1 o L p) λP D a l v p=>q _ P _ _ (Rel.drops (Rel.v3 v j) j) (m a.1 l p)
end
end L2
namespace Np
open PySem
def IB(L:List Nat)(j r:Nat):Prop:=r<=L.length/\(∀(i x:Nat),L[i]?=some x->i<r->x<j)/\∀(i x:Nat),L[i]?=some x->r<=i->j<=x
theorem ik(l:xs.toList.Pairwise (·<·)):∀(f lo hi:Nat),hi-lo<=f->lo<=hi->hi<=xs.size ->
  (∀(i x:Nat),xs.toList[i]?=some x->i<lo->x<j)->(∀(i x:Nat),xs.toList[i]?=some x->hi<=i->j<=x)->IB xs.toList j (SetTable.below.go xs j f lo hi)
 |0,lo,hi,hf,hl,hh,h1,h2=>by
  have e:lo=hi:=by omega
  subst e;exact⟨by rw[aaK];exact hh,h1,h2⟩
 |f+1,lo,hi,hf,hl,hh,h1,h2=>by
  unfold SetTable.below.go;by_cases g:lo<hi
  ·rw[if_pos g];have o:(lo+hi)/2<xs.size:=by omega
   have k:xs.toList[(lo+hi)/2]?=some xs[(lo+hi)/2]:=by simp[o]
   have t:xs.getD ((lo+hi)/2) j=xs[(lo+hi)/2]:=by simp[Array.getD,o]
   have p:∀(a b x y:Nat),a<b->xs.toList[a]?=some x->xs.toList[b]?=some y->x<y:=λa b x y n q w=>by obtain⟨v,u⟩:=aaj.mp q;obtain⟨r,s⟩:=aaj.mp w;rw[<-u,<-s];exact abC.mp l a b v r n
   dsimp only;rw[t];by_cases d:xs[(lo+hi)/2]<j
   ·rw[if_pos d];refine ik l f _ hi (by omega) (by omega) hh (λi x c m=>?_) h2;rcases abD i ((lo+hi)/2) with h|h
    ·exact abh (p _ _ _ _ h c k) d
    ·have e:i=(lo+hi)/2:=by omega
     subst e;rw[k]at c;cases c;exact d
   ·rw[if_neg d];refine ik l f lo _ (by omega) (by omega) (by omega) h1 λi x c m=>?_;rcases abD ((lo+hi)/2) i with h|h
    ·exact aav (Nat.not_lt.mp d) (aaU (p _ _ _ _ h k c))
    ·have e:i=(lo+hi)/2:=by omega
     subst e;rw[k]at c;cases c;exact Nat.not_lt.mp d
  ·rw[if_neg g];have e:lo=hi:=by omega
   subst e;exact⟨by simpa using hh,h1,h2⟩
def ip(a:xs.toList.Pairwise (·<·)):IB xs.toList j (SetTable.below xs j):=
 ik a xs.size 0 xs.size (aag _) (aaH _) (aag _) (λ_ _ _ h=>absurd h (acu _)) λi x b c=>by have:=(aaj.mp b).1;rw[aaK]at this;omega
structure Tab (B:Bool)(t:SetTable):Prop where
 led:t.led=!B
 dum:t.dummies=#[]
 ris:t.place.toList.Pairwise (·<·)
section
variable{B:Bool}{t:SetTable}
def Tab.fresh:Tab B (.fresh 0 0 (!B)):=⟨rfl,rfl,.nil⟩
def Tab.standIn(h:Tab B t)(n:Nat):Tab B (t.standIn n):=⟨h.led,rfl,by
 show (Array.range n).toList.Pairwise _;rw[Array.toList_range];exact acP⟩
def Tab.orStandIn(h:Tab B t)(n:Nat):Tab B (t.orStandIn n):=by
 unfold SetTable.orStandIn;split
 ·exact h
 ·exact h.standIn n
def Tab.slot(h:Tab B t)(j:Nat):t.slot j≠.dummy/\(t.slot j=.empty->∀x∈t.place.toList,x≠j):=by
 have l:SetTable.has t.dummies j=false:=by rw[h.dum];rfl
 have b:=ip (j:=j) h.ris;unfold SetTable.slot;dsimp only;rw[l];by_cases e:(t.place[SetTable.below t.place j]?==some j)=true
 ·rw[if_pos e];exact⟨(λh=>by cases h),λh=>by cases h⟩
 ·rw[if_neg e];refine⟨(λh=>by cases h),λ_ x m n=>e ?_⟩;subst n;obtain⟨i,a⟩:=abY m;have p:¬ i<SetTable.below t.place x:=λh=>aaT _ (b.2.1 i x a h);have o:¬ SetTable.below t.place x<i:=λd=>by obtain⟨c,g⟩:=aaj.mp a;have f:=abh d c;have:=abC.mp h.ris _ _ f c d;rw[g]at this;exact aaT _ (abU (b.2.2 _ _ (aap f) (aag _)) this)
  have k:i=SetTable.below t.place x:=by omega
  rw[beq_iff_eq,<-k,<-aa1];exact a
theorem Tab.rx(h:Tab B t):∀(f:Nat) (p:SetTable.Probe) (j:Nat) (d:Option Nat),p.dummy=none->SetTable.probe.go t g k f p=some (.empty j d)->d=none/\t.slot j=.empty
 |0,_,_,_,_,e=>by cases e
 |f+1,p,j,d,hp,e=>by
  unfold SetTable.probe.go at e;have hs:=h.slot p.j;have b:(t.advance p).dummy=none:=by unfold SetTable.advance;split<;>exact hp
  cases a:t.slot p.j with
  |empty=>rw[a]at e;cases e;exact⟨hp,a⟩
  |dummy=>exact absurd a hs.1
  |live i=>
   rw[a]at e;dsimp only at e;split at e
   ·cases e
   ·exact Tab.rx h f _ j d b e
def Tab.freeSlot(h:Tab B t)(e:t.freeSlot k=some (j,b)):∀x∈t.place.toList,x≠j:=by
 unfold SetTable.freeSlot at e;cases a:t.probe (λ_=>k+1) k (t.probeStart k) with
 |none=>rw[a]at e;cases e
 |some m=>
  rw[a]at e;cases m with
  |candidate _ _ _=>cases e
  |empty c d=>obtain⟨f,g⟩:=h.rx _ _ c d rfl a;subst f;cases e;exact(h.slot c).2 g
def Tab.put(h:Tab B t)(l:∀x∈t.place.toList,x≠j):Tab B (t.put j).1:=by
 have b:=ip (j:=j) h.ris;refine⟨h.led,?_,?_⟩
 ·show (if SetTable.has t.dummies j=true then _ else t.dummies)=#[];rw[h.dum];rfl
 ·show (SetTable.insertAt t.place (SetTable.below t.place j) j).toList.Pairwise _;rw[SetTable.toList_insertAt];have e:=h.ris;rw[<-acQ (SetTable.below t.place j) t.place.toList,aaW]at e;have n:∀x∈t.place.toList.take (SetTable.below t.place j),x<j:=λx f=>by
   obtain⟨i,d⟩:=abY f;rw[acv]at d;split at d
   ·exact b.2.1 i x d (by assumption)
   ·cases d
  have m:∀x∈t.place.toList.drop (SetTable.below t.place j),j<x:=λx f=>by have o:=l x (List.mem_of_mem_drop f);obtain⟨i,d⟩:=abY f;rw[acs]at d;have:=b.2.2 _ x d (abi _ _);omega
  refine aaW.mpr ⟨e.1,abk.mpr ⟨m,e.2.1⟩,λa k c g=>?_⟩;rcases aac.mp g with rfl|g
  ·exact n a k
  ·exact e.2.2 a k c g
def Tab.laid{c:Bool}(e:SetTable.laid mask finger moves (!B) c hs=some (t,o)):Tab B t:=by
 unfold SetTable.laid at e;cases d:SetTable.layClean mask hs with
 |none=>rw[d]at e;cases e
 |some h=>
  rw[d]at e;cases e;refine⟨rfl,rfl,?_⟩;show (List.map _ _).Pairwise _;rw[abE,List.pairwise_filterMap];refine acP.imp λ{a b} hab x hx y hy=>?_;cases f:h.getD a none with
  |none=>rw[f]at hx;cases hx
  |some _=>cases g:h.getD b none with
   |none=>rw[g]at hy;cases hy
   |some _=>rw[f]at hx;rw[g]at hy;cases hx;cases hy;exact hab
def Tab.layNew(h:Tab B t)(es:Array (Int×Value))(k:Int)(x:Value):Tab B (layNew t es k x).2.1:=by
 unfold PySem.layNew;cases a:t.freeSlot k with
 |none=>exact h.standIn _
 |some p=>exact(h.put (h.freeSlot a)).orStandIn _
def Tab.relayAll(h:Tab B t)(es:Array (Int×Value))(n:Nat):Tab B (relayAll t es n).2.1:=by
 unfold PySem.relayAll;cases a:t.relaid (es.map (·.1)) n with
 |none=>exact h.standIn _
 |some p=>
  unfold SetTable.relaid at a;rw[h.led]at a;dsimp only;split
  ·exact Tab.laid a
  ·exact h.standIn _
end
end Np
namespace Np
open PySem
def jm(es:Array (Int×Value))(ep:Nat)(t:SetTable):Obj:={ cls:=.type "set",dict:=none,data:=.set es ep t }
def unI(e:Int×Value):Int:=match e.2 with|.int m _=>m|_=>0
def SetI(P:Program)(w:World)(h:Heap)(a:Addr)(B:Bool)(ns:List Int):Prop:=∃b c t,h.get? a=some (jm b c t)/\ElemsOf (intKind P w) b.toList/\(b.toList.map unI).Perm ns/\b.size<scanBound/\t.fits b.size=true/\Tab B t
def ddI(ns:List Int)(m:Int):List Int:=if m∈ns then ns else ns++[m]
section
variable{P:Program}{w:World}{A:Around}{E:Value->Shared->Prop}{s:Shared}{a:Addr}{B:Bool}{ns:List Int}
def nK(h:(intKind P w).is k e.2=true):unI e=k:=by obtain⟨t,b⟩:=adS h;unfold unI;rw[b]
def SetI.at(I:SetI P w h a B ns)(k:∀o,h.get? a=some o->h'.get? a=some o):SetI P w h' a B ns:=
 let ⟨d,b,t,c,r⟩:=I;⟨d,b,t,k _ c,r⟩
def lS{h:Heap}(b:h.get? a=some (jm es ep t)):(h.update a (Obj.putSet es' t')).get? a=some (jm es' (ep+1) t'):=
 adm (Obj.putSet es' t') b rfl
theorem add_int{m:Int}{J:Tok}(hS:SetI P w s.heap a B ns)(H:ns.length+1<scanBound)
  (h:∀(b:Bool) (h':Heap),Heap.SameBut a s.heap h'->SetI P w h' a B (ddI ns m)->Q b { s with heap:=h' }):wpAny (model P w) A (setAddHashed a (.int m J) (hashInt m)) Q E s:=by
 obtain⟨z,ep,t,U,p,l,hb,hf,hT⟩:=hS;have W:z.size=ns.length:=by rw[<-l.length_eq,aaa,aaK]
 have v:=intKind_is P w m J;unfold setAddHashed setAddHashedIn;refine adj (ada (adB U rfl hf ?_));dsimp only;rw[byScan_of rfl hb p];simp only[↓reduceIte];unfold setAddByScan;refine ada (ada (adr (ada (wpAny_setScan_of v U rfl hf p ?_))));cases hr:List.findIdx? (λe=>(intKind P w).is m e.2) z.toList with
 |some j=>dsimp only;obtain⟨hj,X,_⟩:=acR.mp hr;have N:m∈ns:=l.mem_iff.mp (aas.mpr ⟨_,List.getElem_mem hj,nK X⟩);refine adb (adb ?_);refine h false s.heap (Heap.SameBut.refl a s.heap) ⟨z,ep,t,U,p,?_,hb,hf,hT⟩;rw[ddI,if_pos N];exact l
 |none=>
  dsimp only;have N:m ∉ ns:=λN=>by obtain⟨e,he,e1⟩:=aas.mp (l.mem_iff.mpr N);obtain⟨⟨k,hk,_⟩,_⟩:=p e he;have:=List.findIdx?_eq_none_iff.mp hr e he;rw[nK hk]at e1;subst e1;rw[hk]at this;exact Bool.noConfusion this
  have M:∀(b:Bool) {n:Shared}{Z:Unit->Shared->Prop},Z () n->wpAny (model P w) A (match b with|true=>rule "set.scan.the-table-gave-way" |false=>pure ()) Z E n:=
   λb n Z hq=>by cases b<;>first|exact adb hq|exact adr hq
  have d:=layNew_perm t z (hashInt m) (.int m J);have f:=layNew_fits t z (hashInt m) (.int m J);have r:=hT.layNew z (hashInt m) (.int m J);generalize layNew t z (hashInt m) (.int m J)=L at d f r ⊢;obtain⟨c,i,g,a1⟩:=L;dsimp only at d f r ⊢;rw[Array.toList_push]at d;have u:ElemsOf (intKind P w) c.toList:=(p.push v rfl).perm d;have x:(c.toList.map unI).Perm (ddI ns m):=by rw[ddI,if_neg N];refine(d.map unI).trans ?_;rw[aau];exact l.append_right _
  have y:c.size<scanBound:=by rw[<-aaK,d.length_eq,aak,aaK,W];exact H
  have C:=lS (es':=c) (t':=i) U;have T:=adi s.heap a (Obj.putSet c i);have tail:wpAny (model P w) A (do
    storeSet a c i
    if (!g&&i.tooFull)=true then do
      (match (relayAll i c (SetTable.grown c.size)).2.2 with|true=>rule "set.scan.the-table-gave-way" |false=>pure ())
      storeSet a (relayAll i c (SetTable.grown c.size)).1 (relayAll i c (SetTable.grown c.size)).2.1
      pure (some true)
     else pure (some true)) (λo s'=>o=some true/\Q true s') E s:=by
   refine ada (wpAny_storeSet_of U rfl ?_ (adZ y));split
   ·have O:=relayAll_perm i c (SetTable.grown c.size);have F:=relayAll_fits i c (SetTable.grown c.size);have D:=r.relayAll c (SetTable.grown c.size);generalize relayAll i c (SetTable.grown c.size)=R at O F D ⊢;obtain⟨I,t2,a0⟩:=R;dsimp only at O F D ⊢;have Y:I.size=c.size:=by rw[<-aaK,O.length_eq,aaK]
    have S:I.size<scanBound:=by rw[Y];exact y
    refine ada (M _ (ada (wpAny_storeSet_of C rfl ?_ (adZ S))));exact adb ⟨rfl,h true _ (T.trans (adi _ a _)) ⟨I,_,t2,lS C,u.perm O,(O.map unI).trans x,S,F,D⟩⟩
   ·exact adb ⟨rfl,h true _ T ⟨c,_,i,C,u,x,y,f,r⟩⟩
  refine ada (M _ ?_);split
  ·exact ada (adb (adh tail (λo s' q=>by obtain⟨rfl,q⟩:=q;exact adb q) λ_ _ e=>e))
  ·exact ada (adb (adh tail (λo s' q=>by obtain⟨rfl,q⟩:=q;exact adb q) λ_ _ e=>e))
end
end Np
namespace Np
open PySem PySem.Spec PyProof.Rows
def BX(ns:List Int)(m:Int):(ddI ns m).length<=ns.length+1:=by unfold ddI;split<;>simp
theorem gU:∀(l ns:List Int),(l.foldl ddI ns).length<=ns.length+l.length
 |[],ns=>aag _
 |m::l,ns=>by have:=gU l (ddI ns m);have:=BX ns m;simp only[aa6,aaw];omega
section
variable{P:Program}{w:World}{A:Around}{R:Result->Shared->Prop}{I S:Addr}{fp wr:List Addr}{Pp:Nat->Value->Prop}{St:Nat->Heap->Prop}{B:Bool}{vals:List Int}
theorem set_loop(W:Walks P w A.in1 I fp wr vals.length Pp St)(n:S ∉ fp)(j:∀i v,Pp i v->∃t,v=.int (vals.getD i 0) t)(a:vals.length+1<scanBound):
  ∀(k i:Nat) (s:Shared),vals.length-i=k->i<=vals.length->St i s.heap->SetI P w s.heap S B ((vals.take i).foldl ddI []) ->
   (∀(h':Heap) (z:Nat),(∀b o,b ∉ S::wr->s.heap.get? b=some o->h'.get? b=some o)->SetI P w h' S B (vals.foldl ddI [])->R (.ok (.ret .none)) { s with heap:=h',toks:=z }) ->
   codeAny (model P w) A (.builtin "set.update.loop" ⟨[.ref S,.ref I],[]⟩) R s:=by
 have g:S ∉ wr:=λh=>n (W.sub _ h);intro k;induction k with
 |zero=>
  intro i s U O c q C;have y:i=vals.length:=by omega
  subst y;refine adu F.entry_set_update_loop ?_;rw[adE ad0 _];show wpAny _ A.in1 (pyNext (.ref I) >>= _) _ _ s;refine ada (W.done s _ _ c λh' z M=>?_);rw[abl]at q;exact adb (C h' z (λb o a e=>M b o (λh=>a (aah _ h)) e) (q.at λo e=>M S o g e))
 |succ k T=>
  intro i s U O c q C;have d:i<vals.length:=by omega
  refine adu F.entry_set_update_loop ?_;rw[adE ad0 _];show wpAny _ A.in1 (pyNext (.ref I) >>= _) _ _ s;refine ada (W.item i s _ _ d c λv Z Y N p l=>?_);obtain⟨t,rfl⟩:=j i v N;have J:SetI P w Z S B ((vals.take i).foldl ddI []):=q.at λo e=>l S o g e;show wpAny _ A.in1 (holding [Value.int (vals.getD i 0) t] (setAdd S (.int (vals.getD i 0) t)) >>= _) _ _ _;refine ada (adj ?_);unfold setAdd;refine adj (ada ((intKind P w).pyHash (k:=vals.getD i 0) (intKind_is _ _ _ _) ?_));have f:((vals.take i).foldl ddI []).length+1<scanBound:=by have:=gU (vals.take i) [];rw[abz]at this;simp at this;omega
  refine add_int J f λb L m x=>?_;have Q:vals.take (i+1)=vals.take i++[vals.getD i 0]:=by rw[List.take_succ,abu,aap d];rfl
  have r:SetI P w L S B ((vals.take (i+1)).foldl ddI []):=by rw[Q,List.foldl_append];exact x
  refine adb ⟨adF ad0 _,T (i+1) _ (by omega) d (W.frame _ _ _ p λb a o e=>?_) r λX u D H=>C X u (λb o a e=>D b o a ?_) H⟩
  ·rw[m.2 b (λh:b=S=>n (by rw[<-h];exact a))];exact e
  ·show L.get? b=some o;rw[m.2 b (λh:b=S=>a (by rw[h];exact aab))];exact l b o (λh=>a (aah _ h)) e
end
section
variable{P:Program}{w:World}{A:Around}{E:Value->Shared->Prop}{s:Shared}
abbrev byT(w:World):Bool:=w.params.followText "set-order"
abbrev stO(w:World):Obj:={ cls:=.type "set",dict:=none,data:=.set #[] 0 (.fresh 0 0 (!byT w)) }
def set_new(a:Value){Q₁:Value->Shared->Prop}(h:Q₁ (.ref s.heap.objs.size) { s with heap:=s.heap.push (stO w) }):
  codeAny (model P w) A (.call (.builtin "set.__new__") ⟨[.type "set",a],[]⟩) (wants Q₁ E) s:=by
 refine adV ?_;show wpAny _ A.in1 (do checkBuiltinCall "set.__new__" ⟨[.type "set",a],[]⟩;again (.builtin "set.__new__" ⟨[.type "set",a],[]⟩)) _ _ s;refine ada (adM (PySem.F.newCall_set_1 a) (adb ⟨adF acS _,adu PySem.F.entry_set_new ?_⟩));rw[adE acS _];unfold Builtin.«set.__new__» Builtin.Frozenset.newClass;have b:=sub_set_self;obtain⟨c,g,d,f,e⟩:=s;dsimp only
 wp_walk
 refine adx (adb ?_);dsimp only;simp only[newObj];refine ada (wpAny_alloc (adb ?_));exact adb h
end
end Np
namespace PySem
open PySem.Spec
section
variable{prog:Program}{w:World}{A:Around}{E:Value->Shared->Prop}{s:Shared}
set_option maxHeartbeats 3200000 in
theorem set_seq{l:Addr}{items:Array Value}{ns:List Int}{Q:Value->Shared->Prop}(hh:A.handled=none)(p:s.heap.IsList l items\/s.heap.IsTuple l items)(L:PyProof.Rows.IntsAre items.toList ns)(H:ns.length+1<scanBound)
  (h:∀(h':Heap) (J:Nat),Np.SetI prog w h' s.heap.objs.size (Np.byT w) (ns.foldl Np.ddI [])->(∀b o,b<s.heap.objs.size->s.heap.get? b=some o->h'.get? b=some o)->Q (.ref s.heap.objs.size) { s with heap:=h',toks:=J }):
  wpAny (model prog w) A (call (.type "set") [.ref l]) Q E s:=by
 have D:items.size=ns.length:=by rw[<-PyProof.Rows.IntsAre.length L,aaK]
 obtain⟨c,tl,a1⟩:=adv.mro;have M:=adv.made;have a0:=adv.sub;refine wpAny_call (adV ?_);show wpAny _ _ (callAny (.type "set") _) _ _ _;refine adb ⟨Code.quiet_builtin _ (by decide +kernel),adu F.entry_type_call ?_⟩;rw[Around.under_plain (weight_type_call_type "set" [.ref l] []) rfl];have h1:=adv.notType;have h2:=adv.canCreate;have a3:=F.typeCall_set_1 (.ref l)
 repeat (any_goals (first|assumption|wp_step))
 refine adt (Np.set_new (.ref l) (E:=E) (Q₁:=λq j=>q=.ref s.heap.objs.size/\j={ s with heap:=s.heap.push (Np.stO w) }) ⟨rfl,rfl⟩) λr j O=>?_;cases r with
 |error e=>exact O
 |ok fl=>
  cases fl with
  |ret q=>
   obtain⟨rfl,rfl⟩:=O;have hS:(s.heap.push (Np.stO w)).get? s.heap.objs.size=some (Np.stO w):=adf _ rfl;have hT:Shared.TypeIs { s with heap:=s.heap.push (Np.stO w) } (.ref s.heap.objs.size) "set":=⟨_,hS,rfl⟩
   have a4:=adv.init.lookup;have a2:=adv.init.bind (.ref s.heap.objs.size)
   repeat (any_goals (first|assumption|wp_step))
   refine adt (codeAny_call_builtin (R:=wants (λr g=>r=.none/\∃h' J,g={ s with heap:=h',toks:=J }/\Np.SetI prog w h' s.heap.objs.size (Np.byT w) (ns.foldl Np.ddI [])/\(∀b o,b<s.heap.objs.size->s.heap.get? b=some o->h'.get? b=some o)) E) adv.init.plain F.entry_set_init (check_set_init_1 hT ?_)) λx g a=>?_
   ·have g1:=F.sub_list_set;have g2:=F.sub_list_frozenset;have g3:=F.sub_tuple_set;have g4:=F.sub_tuple_frozenset;have g5:(Value.type "list" == Value.type "dict")=false:=by decide
    have g6:(Value.type "tuple" == Value.type "dict")=false:=by decide
    have t:A.in1.in1.in1.handled=none:=by simp[hh]
    rcases p with p|p <;>
    ·have d:=p.push (Np.stO w);obtain⟨ol,C,u,nl,n⟩:=id p;obtain⟨Z,S,N,I⟩:=ol;simp only at u n;subst u;subst n;have Y:=ade (Np.stO w) C;unfold Builtin.«set.__init__» noKeywords Builtin.Frozenset.updateFrom;generalize hPI:pyIter=PI
     wp_walk
     subst hPI
     first|refine adH d ?_|refine adT d ?_
     refine ada (adY ?_);have z:l<s.heap.objs.size:=adc C;have f:l≠(s.heap.push (Np.stO w)).objs.size:=by rw[adg];exact aar (aa9 z)
     have y:s.heap.objs.size ∉ [(s.heap.push (Np.stO w)).objs.size,l]:=by rw[adg];simp only[aac,aao,aan,or_false,not_or];exact⟨aar (aaY _),aaL z⟩
     have X:=Walks.list (prog:=prog) (w:=w) t _ l f items;have W:=Walks.tuple (prog:=prog) (w:=w) t _ l f items;rw[D]at X W
     first
      |refine Np.set_loop (B:=Np.byT w) X y (λi v P=>acT L i v (by rw[aa1];exact P)) H (ns.length-0) 0 _ (by omega) (aaH _) ⟨⟨_,adf _ rfl,rfl,rfl⟩,(d.push _)⟩ ?_ ?_
      |refine Np.set_loop (B:=Np.byT w) W y (λi v P=>acT L i v (by rw[aa1];exact P)) H (ns.length-0) 0 _ (by omega) (aaH _) ⟨⟨_,adf _ rfl,rfl,rfl⟩,(d.push _)⟩ ?_ ?_
     ·exact⟨#[],0,_,ade _ hS,λe he=>by simp at he,.nil,by decide,rfl,Np.Tab.fresh⟩
     ·intro h' U hm m;show wpAny _ _ _ _ _ _;refine adb ?_;show wpAny _ _ (ret Value.none) _ _ _;refine adb ⟨rfl,h',U,rfl,m,λb o H e=>hm b o ?_ (ade _ (ade _ e))⟩;simp only[aac,aao,aan,or_false,not_or];exact⟨aar H,by rw[adg];exact aar (aa9 H)⟩
   ·cases x with
    |error e=>exact a
    |ok k=>
     cases k with
     |ret r=>
      obtain⟨rfl,h',J,rfl,m,T⟩:=a
      repeat (any_goals (first|assumption|wp_step))
      exact h _ _ m T
     |_=>exact a.elim
  |_=>exact O.elim
end
end PySem
namespace Np
open PySem PySem.Spec PyProof.Rows
def pj{a:Type}{l:List a}(h:i<l.length):(l[i]::l.eraseIdx i).Perm l:=by rw[List.eraseIdx_eq_take_drop_succ];refine aax.symm.trans ?_;rw[<-abZ h,acQ]
theorem pk{b:Type}(f:Nat->Nat):∀(n k:Nat) (l:List b) (o:Array b),l.length=n->(pickOrder.go f n k l o).toList.Perm (o.toList++l)
 |0,k,l,o,h=>by rw[acw.mp h,aaq];exact .rfl
 |n+1,k,l,o,h=>by have a:f k%l.length<l.length:=Nat.mod_lt _ (by omega);unfold pickOrder.go;rw[aap a];refine(pk f n _ _ _ (by rw[acU a];omega)).trans ?_;rw[Array.toList_push,aad];exact(pj a).append_left _
def rX{a:Type}(f:Nat->Nat)(xs:Array a):(pickOrder f xs).toList.Perm xs.toList:=pk f _ 0 _ #[] (by simp)
section
variable{M:Model}{P:Program}{w:World}{A:Around}{E:Value->Shared->Prop}{s:Shared}
def nL{a:Source}{n:Nat}(b:n≠0)(h:∀i d,i<n->Q i { s with drawn:=d }):wpAny M A (choose a n) Q E s:=
 λ_ _ _=>⟨b,h _ _ (Nat.mod_lt _ (Nat.pos_of_ne_zero b))⟩
theorem iq{c:Type}:∀(n:Nat) (l:List c) (s:Shared) (Q:List c->Shared->Prop),l.length=n->(∀b d,b.Perm l->Q b { s with drawn:=d })->wpAny M A (drawOrder n l) Q E s
 |0,l,s,Q,h,q=>by have:=q [] s.drawn (by rw[acw.mp h]);exact adb this
 |n+1,[],s,Q,h,q=>by cases h
 |n+1,x::l,s,Q,h,q=>by show wpAny _ _ (choose .order (x::l).length >>= _) _ _ _;refine ada (nL (by simp) λi d a=>?_);rw[aap a];show wpAny _ _ (drawOrder n ((x::l).eraseIdx i) >>= _) _ _ _;refine ada (iq n _ _ _ (by rw[acU a];omega) λb f e=>adb (q _ f ?_));exact(List.Perm.cons _ e).trans (pj a)
def slot_seti_next:Slot "set_iterator" "__next__" "set_iterator.__next__" :=
 .of (owner:="set_iterator") (n:="__next__") (by rw[typeLookup_type,builtinLookup_eq_fast];kernel_rfl) (by decide +kernel) (by decide +kernel) (by decide +kernel)
  (by first|exact .inl (by decide +kernel)|exact .inr (by decide +kernel)) (by rw[isSubtype_type];kernel_rfl)
def dB:entryFor table "set_iterator.__next__"=some Builtin.«set_iterator.__next__»:=entryFor_of_tree (by kernel_rfl)
def dN(a:Value):argsOk "set_iterator.__next__" ⟨[a],[]⟩:=by unfold argsOk;kernel_rfl
def ir:entryFor table "set.__iter__"=some Builtin.«frozenset.__iter__»:=entryFor_alias (id':="frozenset.__iter__") (by kernel_rfl) rfl (by decide +kernel) (by kernel_rfl)
end
end Np
namespace Np
open PySem PySem.Spec PyProof.Rows
def zM(f:Value)(i:Nat)(a:Addr)(n ep:Nat):Obj:={ cls:=.type "set_iterator",data:=.fields #[f,.int i 0,.ref a,.int n 0,.int ep 0] }
def slotAt(pl:List Nat):Nat->Nat
 |0=>0
 |i+1=>pl.getD i 0+1
def nM(n:xs.toList.Pairwise (·<·)):∀{i:Nat},i<=xs.size->SetTable.below xs (slotAt xs.toList i)=i:=λ{i} hi=>by
 obtain⟨m,q,s⟩:=ip n;rw[aaK]at m;have o:∀(a b x y:Nat),a<b->xs.toList[a]?=some x->xs.toList[b]?=some y->x<y:=λa b x y g r A=>by obtain⟨z,v⟩:=aaj.mp r;obtain⟨t,u⟩:=aaj.mp A;rw[<-v,<-u];exact abC.mp n a b z t g
 have f:∀k,k<xs.size->∃x,xs.toList[k]?=some x:=λk w=>⟨xs.toList[k]'(by simpa using w),aap _⟩
 rcases Nat.lt_trichotomy (SetTable.below xs (slotAt xs.toList i)) i with h|h|h
 ·obtain⟨x,c⟩:=f _ (aay h hi);have B:=s _ x c (aag _);cases i with
  |zero=>exact absurd h (acu _)
  |succ i=>
   obtain⟨y,d⟩:=f i (by omega);have e:slotAt xs.toList (i+1)=y+1:=by show xs.toList.getD i 0+1=_;rw[abu,d];rfl
   rw[e]at B c h;rcases abD (SetTable.below xs (y+1)) i with l|l
   ·have:=o _ _ _ _ l c d;omega
   ·have p:SetTable.below xs (y+1)=i:=by omega
    rw[p,d]at c;cases c;omega
 ·exact h
 ·obtain⟨x,c⟩:=f i (aay h m);have j:=q i x c h;cases i with
  |zero=>exact absurd j (acu _)
  |succ i=>
   obtain⟨y,d⟩:=f i (by omega);have e:slotAt xs.toList (i+1)=y+1:=by show xs.toList.getD i 0+1=_;rw[abu,d];rfl
   rw[e]at j;have:=o i (i+1) y x (aaY _) d c;omega
inductive MdI (w:World)(a:Addr)(es:Array (Int×Value))(ep:Nat)(t:SetTable)(L:List (Int×Value))(tp:Addr)(h:Heap)(i:Nat):Value->Prop
 |txt:byT w=true->L=(pickOrder (w.params.setOrder a ep) es).toList->MdI w a es ep t L tp h i (.int 0 0)
 |pla:byT w=false->(!t.plain&&decide (es.size>1))=false->t.led=true->t.place.toList.Pairwise (·<·)->t.place.size=es.size->L=es.toList->MdI w a es ep t L tp h i (.int (slotAt t.place.toList i) 0)
 |drw (ix:List Nat):h.get? tp=some { cls:=.type "tuple",data:=.seq (ix.map λ(j:Nat)=>rawInt j).toArray }->L.length=ix.length->(∀k j:Nat,ix[k]?=some j->∃e,es[j]?=some e/\L[k]?=some e)->MdI w a es ep t L tp h i (.ref tp)
section
variable{P:Program}{w:World}{A:Around}{E:Value->Shared->Prop}{s:Shared}{it a tp:Addr}{es:Array (Int×Value)}{ep i:Nat}{t:SetTable}{L:List (Int×Value)}{f:Value}
def MdI.keep(m:MdI w a es ep t L tp h i f)(k:∀o,h.get? tp=some o->h'.get? tp=some o):MdI w a es ep t L tp h' i f:=by
 cases m with
 |txt a b=>exact .txt a b
 |pla a b c d e f=>exact .pla a b c d e f
 |drw g a b c=>exact .drw g (k _ a) b c
def set_at{h:Heap}(b:h.get? it=some (zM f i a es.size ep)):((h.update it (Obj.mapFields (·.setIfInBounds 0 f'))).update it (Obj.mapFields (·.setIfInBounds 1 (rawInt ((i:Int)+1))))).get? it=some (zM f' (i+1) a es.size ep):=by have d:=adm (Obj.mapFields (·.setIfInBounds 0 f')) b rfl;have c:=adm (Obj.mapFields (·.setIfInBounds 1 (rawInt ((i:Int)+1)))) d rfl;exact c
def lT(hs:s.heap.get? a=some (jm es ep t))(d:t.fits es.size=true)(c:byT w=true)
  (h:Q ((pickOrder (w.params.setOrder a ep) es)[n]?.map λe=>(e.2,sl)) s):wpAny (model P w) A (setNext a sl n ep) Q E s:=by
 unfold setNext setsByText;refine ada (adB hs rfl d ?_);dsimp only;refine ada (ada (adx (adb ?_)));refine adw (λ_=>?_) λb=>absurd c b;rw[if_neg (by simp)];unfold setWalk setsByText;refine ada (ada (adB hs rfl d ?_));dsimp only;refine ada (ada (adx (adb ?_)));refine adw (λ_=>?_) λb=>absurd c b;exact ada (adx (adb (adb h)))
def lU(hs:s.heap.get? a=some (jm es ep t))(o:t.fits es.size=true)(l:byT w=false)
  (u:(!t.plain&&decide (es.size>1))=false) (m:t.led=true) (p:t.place.toList.Pairwise (·<·)) (g:t.place.size=es.size) (r:n<=es.size)
  (h:Q (es[n]?.map λe=>(e.2,slotAt t.place.toList (n+1))) s):wpAny (model P w) A (setNext a (slotAt t.place.toList n) i ep) Q E s:=by
 unfold setNext setsByText;refine ada (adB hs rfl o ?_);dsimp only;refine ada (ada (adx (adb ?_)));refine adw (λc=>absurd (l.symm.trans c) aal) λ_=>?_;refine adw (λc=>absurd (u.symm.trans c) aal) λ_=>?_;refine ada ?_;show wpAny _ _ (if (!t.led&&!es.isEmpty)=true then unsupported _ else pure ()) _ _ _;rw[m,if_neg (by simp)];refine adb ?_;rw[nM p (by rw[g];exact r)];refine adb ?_;rcases abD n es.size with b|d
 ·have j:es[n]?=some es[n]:=abF b;have k:t.place[n]?=some (t.place[n]'(by rw[g];exact b)):=abF _;have q:slotAt t.place.toList (n+1)=t.place[n]'(by rw[g];exact b)+1:=by show t.place.toList.getD n 0+1=_;rw[abu,aa1,k];rfl
  rw[j]at h ⊢;rw[k];rw[q]at h;exact h
 ·have j:es[n]?=none:=acm d;rw[j]at h ⊢;exact h
theorem rY(D:it≠tp)(b:s.heap.get? it=some (zM f i a es.size ep))(hs:s.heap.get? a=some (jm es ep t))(l:t.fits es.size=true)(B:MdI w a es ep t L tp s.heap i f)(c:L[i]?=some e)
  (n:∀q h',h'.get? it=some (zM q (i+1) a es.size ep)->Heap.SameBut it s.heap h'->MdI w a es ep t L tp h' (i+1) q->Q (some e.2) { s with heap:=h' }):wpAny (model P w) A (pyNext (.ref it)) Q E s:=by
 have u:s.TypeIs (.ref it) "set_iterator":=⟨_,b,rfl⟩
 unfold pyNext;refine ada (adP (adz u slot_seti_next (ads slot_seti_next u dB ?_ (dN _))));unfold Builtin.«set_iterator.__next__»;refine ada (adb ?_);refine ada (wpAny_fieldsOf b rfl ?_);dsimp only;refine ada (ad1 hs rfl l ?_);rw[if_neg (by simp)];cases B with
 |txt h m=>subst m;rw[aa1]at c;refine ada (lT (ep:=ep) hs l h ?_);rw[aaM i,c];refine ada (adn b rfl (by simp) (ada (adn (adm _ b rfl) rfl (by simp) ?_)));exact adb ⟨_,rfl,adb (n _ _ (set_at b) ((adi ..).trans (adi ..)) (.txt h rfl))⟩
 |pla h z d v r m=>
  subst m;have k:i<es.size:=by have:=(aaj.mp c).1;rwa [aaK]at this
  rw[aa1]at c;refine ada (lU hs l h z d v r (aaU k) ?_);rw[c];refine ada (adn b rfl (by simp) (ada (adn (adm _ b rfl) rfl (by simp) ?_)));exact adb ⟨_,rfl,adb (n _ _ (set_at b) ((adi ..).trans (adi ..)) (.pla h z d v r rfl))⟩
 |drw x y d k=>
  obtain⟨j,o⟩:∃j,x[i]?=some j:=⟨_,aap (by rw[<-d];exact(aaj.mp c).1)⟩
  obtain⟨F,C,g⟩:=k i j o;rw[c]at g;cases g;refine ada (adp y rfl ?_);dsimp only;rw[aaM i,acV,aat,o];dsimp only[Option.map,rawInt];refine ada ?_;unfold setNextDrawn;refine ada (adB hs rfl l ?_);dsimp only;rw[if_neg (by simp),aaM j,C];refine adb (ada (adn b rfl (by simp) ?_));have p:=adi s.heap it (Obj.mapFields (·.setIfInBounds 1 (rawInt ((i:Int)+1))));exact adb ⟨_,rfl,adb (n _ _ (adm _ b rfl) p (.drw x ((p.2 _ (aaF D)).trans y) d k))⟩
theorem uD(O:A.handled=none)(c:s.heap.get? it=some (zM f i a es.size ep))(hs:s.heap.get? a=some (jm es ep t))(q:t.fits es.size=true)(C:MdI w a es ep t L tp s.heap i f)(r:L.length=es.size)(y:i=es.size)
  (u:∀h',Heap.ExtBut it s.heap h'->Q none { s with heap:=h' }):wpAny (model P w) A (pyNext (.ref it)) Q E s:=by
 have z:s.TypeIs (.ref it) "set_iterator":=⟨_,c,rfl⟩
 have d:∀(g:Shared),(∀h',Heap.ExtBut it g.heap h'->Q none { g with heap:=h' })->wpAny (model P w) A.in1 (newExc (.type "StopIteration") [] >>= λe=>raiseNew e) (λn g=>∃v,n=Fin.done (Flow.ret v)/\wpAny (model P w) A (pure (some v)) Q E g)
   (λe g=>wpAny (model P w) A (isInstance e (.type "StopIteration") >>= λb=>if b=true then pure none else throw e) Q E g) g:=λg H=>by
  refine ada ?_;simp only[newExc,newTuple];refine ada (adk ?_ (by size_fits));refine ada (adM (by first|rfl|(simp only[firstArgMember];rfl)) ?_);refine adk ?_ (by size_fits);simp only[raiseNew];refine ada (wpAny_handled ?_);rw[show A.in1.handled=none from O];refine ada (adb (wpAny_throw ?_));refine ada (adX ⟨_,adf _ rfl,rfl⟩ isSubtype_stop ?_);exact adb (H _ (((Heap.SameBut.refl it g.heap).extBut.push _).push _))
 have m:∀{B:Type} (l:List B),l.length=es.size->l[i]?=none:=λl k=>ab0 (by rw[k,y];exact aag _);unfold pyNext;refine ada (adP (adz z slot_seti_next (ads slot_seti_next z dB ?_ (dN _))));unfold Builtin.«set_iterator.__next__»;refine ada (adb ?_);refine ada (wpAny_fieldsOf c rfl ?_);dsimp only;refine ada (ad1 hs rfl q ?_);rw[if_neg (by simp)];cases C with
 |txt p j=>have e:=m _ r;rw[j,aa1]at e;refine ada (lT (ep:=ep) hs q p ?_);rw[aaM i,e];exact ada (adn c rfl (by simp) (d _ λh' x=>u h' λb o h e=>x b o h (((adi ..).extBut) b o h e)))
 |pla p N k I F j=>have e:=m _ r;rw[j,aa1]at e;refine ada (lU hs q p N k I F (abq y) ?_);rw[e];exact ada (adn c rfl (by simp) (d _ λh' x=>u h' λb o h e=>x b o h (((adi ..).extBut) b o h e)))
 |drw J M k D=>have e:=m J (k.symm.trans r);refine ada (adp M rfl ?_);dsimp only;rw[aaM i,acV,aat,e];refine ada (adn c rfl (by simp) (ada (adn (adm _ c rfl) rfl (by simp) ?_)));exact d _ λh' x=>u h' λb o h e=>x b o h ((((adi ..).trans (adi ..)).extBut) b o h e)
end
end Np
namespace Np
open PySem PySem.Spec PyProof.Rows
def dO:Slot "set_iterator" "__iter__" "set_iterator.__iter__" :=
 .of (owner:="set_iterator") (n:="__iter__") (by rw[typeLookup_type,builtinLookup_eq_fast];kernel_rfl) (by decide +kernel) (by decide +kernel) (by decide +kernel)
  (by first|exact .inl (by decide +kernel)|exact .inr (by decide +kernel)) (by rw[isSubtype_type];kernel_rfl)
def gQ:entryFor table "set_iterator.__iter__"=some Builtin.«dict_keyiterator.__iter__»:=entryFor_alias (id':="dict_keyiterator.__iter__") (by kernel_rfl) rfl (by decide +kernel) (by kernel_rfl)
def iu(a:Value):argsOk "set_iterator.__iter__" ⟨[a],[]⟩:=by unfold argsOk;kernel_rfl
def uE(es:Array (Int×Value)):(List.range es.size).map (λj=>es.getD j (0,.none))=es.toList:=by
 refine List.ext_getElem (by simp) λi c b=>?_;have a:i<es.size:=by simpa using b
 simp[Array.getD,a]
section
variable{P:Program}{w:World}{A:Around}{E:Value->Shared->Prop}{s:Shared}{a:Addr}{es:Array (Int×Value)}{ep:Nat}{t:SetTable}
theorem uF(hs:s.heap.get? a=some (jm es ep t))(i:t.fits es.size=true)(z:Tab (byT w) t)(D:es.size<=sizeLine)
  (B:∀(h':Heap) (d:Drawn) (I q:Addr) (L:List (Int×Value)) (f:Value),L.Perm es.toList->I≠a->I≠q->s.heap.objs.size<=I->(q=a\/s.heap.objs.size<=q)->h'.get? I=some (zM f 0 a es.size ep)->MdI w a es ep t L q h' 0 f->(∀b o,s.heap.get? b=some o->h'.get? b=some o)->Q (.ref I) { s with heap:=h',drawn:=d }):
  wpAny (model P w) A (pyIter (.ref a)) Q E s:=by
 have p:s.TypeIs (.ref a) "set":=⟨_,hs,rfl⟩
 have g:a<s.heap.objs.size:=adc hs;have x:t.place.size=es.size:=by simp only[SetTable.fits,aaI,beq_iff_eq]at i;exact i.1
 refine wpAny_pyIter_slot p acW (ads acW p ir ?_ (PySem.F.args_set_iter_1 _));unfold Builtin.«frozenset.__iter__» Builtin.Frozenset.slot0;refine ada (ada (adb ?_));refine adb ?_;refine ada (ada (ad1 hs rfl i (adb ?_)));refine ada ?_;unfold setDrawn setsByText;refine ada (adB hs rfl i ?_);dsimp only;refine ada (ada (adx (adb (adb ?_))));refine adw (λh=>?_) λh=>?_
 ·have c:(!byT w&&(!t.plain&&decide (es.size>1)))=true:=h;refine ada (iq _ _ _ _ (acx) λu d v=>?_);have C:u.length=es.size:=by rw[v.length_eq,acx]
  refine ada (adk ?_ (by show (u.map _).toArray.size<=sizeLine;rw[aaz,aaa,C];exact D));refine ada (wpAny_setEpoch_of (ade _ hs) rfl i ?_);refine ada (adk (adb ⟨_,rfl,"set_iterator",_,⟨_,adf _ rfl,rfl⟩,slot_seti_next.lookup,?_⟩));refine B _ d _ s.heap.objs.size (u.map λj=>es.getD j (0,.none)) (.ref s.heap.objs.size) ?_ ?_ ?_ ?_ (.inr (aag _)) (adf _ rfl) (.drw u (ade _ (adf _ rfl)) (by rw[aaa]) λk j y=>?_) λb o e=>ade _ (ade _ e)
  ·rw[<-uE es];exact v.map _
  ·rw[adg];exact aaL (aa9 g)
  ·rw[adg];exact aaL (aaY _)
  ·rw[adg];exact abr _
  ·have l:j<es.size:=ace.mp (v.mem_iff.mp (aaV y));refine⟨es[j],abF l,?_⟩;rw[aat,y];simp[Array.getD,l]
 ·refine ada (adb ?_);refine ada (wpAny_setEpoch_of hs rfl i ?_);refine ada (adk (adb ⟨_,rfl,"set_iterator",_,⟨_,adf _ rfl,rfl⟩,slot_seti_next.lookup,?_⟩));have n:=λL m=>B (s.heap.push (zM (.int 0 0) 0 a es.size ep)) s.drawn s.heap.objs.size a L (.int 0 0) m (aaL g) (aaL g) (aag _) (.inl rfl) (adf _ rfl);cases r:byT w with
  |true=>exact n _ (rX _ _) (.txt r rfl) λb o e=>ade _ e
  |false=>have c:¬ (!byT w&&(!t.plain&&decide (es.size>1)))=true:=h;rw[r]at c;have H:(!t.plain&&decide (es.size>1))=false:=Bool.not_eq_true _▸c;exact n _ .rfl (.pla r H (by rw[z.led,r];rfl) z.ris x rfl) λb o e=>ade _ e
def rZ(H:A.handled=none)(J:I≠a)(y:I≠tp)(r:t.fits es.size=true)(u:L.length=es.size):
  Walks P w A I [I,a,tp] [I] es.size (λi v=>∃e,L[i]?=some e/\v=e.2) (λi h=>∃f,h.get? I=some (zM f i a es.size ep)/\h.get? a=some (jm es ep t)/\MdI w a es ep t L tp h i f) where
 sub:=λb l=>by rw[aao.mp l];exact aab
 frame:=λi h m g p=>by obtain⟨f,d,c,j⟩:=g;exact⟨f,p I (by simp) _ d,p a (by simp) _ c,j.keep λo e=>p tp (by simp) o e⟩
 item:=λi s Q E D g k=>by obtain⟨f,d,c,j⟩:=g;have x:L[i]?=some (L[i]'(by rw[u];exact D)):=aap _;refine rY y d c r j x λz m C q F=>?_;exact k _ m s.toks ⟨_,x,rfl⟩ ⟨z,C,(q.2 a (aaF J)).trans c,F⟩ λb o l e=>(q.2 b (λh=>l (by rw[h];exact aao.mpr rfl))).trans e
 done:=λs Q E g k=>by obtain⟨f,d,c,j⟩:=g;exact uD H d c r j u rfl λm B=>k m s.toks λb o l e=>B b o (λh=>l (by rw[h];exact aao.mpr rfl)) e
 self:=λi s Q E g k=>by
  obtain⟨f,d,c,j⟩:=g;have n:s.TypeIs (.ref I) "set_iterator":=⟨_,d,rfl⟩
  refine wpAny_pyIter_slot n dO (ads dO n gQ ?_ (iu _));show wpAny _ _ (ret (.ref I)) _ _ s;exact adb ⟨_,rfl,"set_iterator",_,n,slot_seti_next.lookup,k⟩
def uG(c:s.TypeIs (.ref a) "set") (h:Q false s):wpAny (model P w) A (Builtin.List.listLengthHint (.ref a)) Q E s:=by
 unfold Builtin.List.listLengthHint;refine ada (wpAny_specialOf c PySem.F.slot_set_len.lookup ?_);generalize hid:("set.__len__":String)=id0
 wp_delta
 rw[show splitId id0=some ("set","__len__") from by subst hid;decide +kernel];subst hid;refine ada (adX c sub_set_self ?_);refine adw (λb=>absurd b (by decide)) (λ_=>?_);refine adw (λ_=>?_) (λb=>absurd (by decide +kernel) b);refine ada (wpAny_typeOf c ?_);exact adb h
end
end Np
namespace Np
open PySem PySem.Spec PyProof.Rows PySem.W
def ints_map{L:List (Int×Value)}:(∀e∈L,∃t,e.2=.int (unI e) t)->IntsAre (L.map (·.2)) (L.map unI):=by
 induction L with
 |nil=>intro _;exact .nil
 |cons e L b=>intro h;obtain⟨t,a⟩:=h e aab;rw[aam,aam,a];exact .cons _ t (b λe c=>h e (aah _ c))
section
variable{P:Program}{w:World}{A:Around}{E:Value->Shared->Prop}{s:Shared}{a:Addr}{ns:List Int}
theorem set_collect(hh:A.handled=none)(hs:SetI P w s.heap a (byT w) ns)
  (h:∀(h':Heap) (p:Nat) (d:Drawn) (vs:List Value) (m:List Int),(∀b o,s.heap.get? b=some o->h'.get? b=some o)->IntsAre vs m->m.Perm ns->R vs { s with heap:=h',toks:=p,drawn:=d }):
  wpAny (model P w) A (collect (.ref a)) R E s:=by
 obtain⟨Z,ep,t,ho,a4,a1,hb,hf,hT⟩:=hs;have hz:Z.size<=sizeLine:=adZ hb;have u:=adc ho;unfold collect;refine ada (adY (adu entry_proto_collect' ?_));rw[adE PySem.F.plain_proto_collect _];show wpAny _ A.in1 (newList [] >>= λl=>again (.builtin "list.__iadd__" ⟨[l,.ref a],[]⟩)) _ _ s;refine ada (adk ?_);refine adb ⟨adF acX _,adu entry_list_iadd' ?_⟩;rw[adE acX _];show wpAny _ A.in1 (Builtin.List.listExtendWith (.ref s.heap.objs.size) (.ref a) (.ref s.heap.objs.size)) _ _ _;have hS:(s.heap.push { cls:=.type "list",data:=.seq ([]:List Value).toArray }).get? s.heap.objs.size=some { cls:=.type "list",data:=.seq #[] }:=adf _ rfl;have B:(s.heap.push { cls:=.type "list",data:=.seq ([]:List Value).toArray }).get? a=some (jm Z ep t):=ade _ ho;unfold Builtin.List.listExtendWith;refine ada (wpAny_typeOf ⟨_,B,rfl⟩ ?_);have n1:Builtin.List.listSameRef (.ref s.heap.objs.size) (.ref a)=false:=by simp[Builtin.List.listSameRef,aaL u]
 have n2:(Value.type "set" == Value.type "list")=false:=by decide
 have n3:(Value.type "set" == Value.type "tuple")=false:=by decide
 simp only[n1,n2,n3,acj,Bool.false_eq_true,if_false];refine ada (uF B hf hT hz λh1 d I tp L f hp i1 i2 Y i4 hI hM hk=>?_);have hL:L.length=Z.size:=by rw[hp.length_eq,aaK]
 have z:=hk _ _ hS;have C:=hk _ _ B;have Q:s.heap.objs.size≠I:=aar (by rw[adg]at Y;exact Y);have W:=rZ (P:=P) (w:=w) (A:=A.in1) (ep:=ep) hh i1 i2 hf hL;have J:s.heap.objs.size≠tp:=by
  rcases i4 with e|e
  ·rw[e];exact aaL u
  ·rw[adg]at e;exact aar e
 have a3:s.heap.objs.size ∉ [I,a,tp]:=by simp only[aac,aan,or_false,not_or];exact⟨Q,aaL u,J⟩
 have M:∀b o,s.heap.get? b=some o->h1.get? b=some o:=λb o e=>hk b o (ade _ e);have S:∀(X:Heap) (c:Nat) (R':Result->Shared->Prop),(∀b,b≠s.heap.objs.size->∀o,h1.get? b=some o->X.get? b=some o)->X.get? s.heap.objs.size=some { cls:=.type "list",data:=.seq #[] c } ->
   (∀(h':Heap) (p q:Nat) (g:Array Value) (m:List Int),(∀b o,s.heap.get? b=some o->h'.get? b=some o)->h'.get? s.heap.objs.size=some { cls:=.type "list",dict:=none,data:=.seq g q,slots:=#[] }->IntsAre g.toList m->m.Perm ns->R' (.ok (.ret (.ref s.heap.objs.size))) { s with heap:=h',toks:=p,drawn:=d }) ->
   codeAny (model P w) A (.builtin "list.extend.loop" ⟨[.ref s.heap.objs.size,.ref I,.ref s.heap.objs.size],[]⟩) R' { s with heap:=X,drawn:=d }:=λX c R' v r hR=>by
  refine codeAny_extend_loopS W.toS hz s.heap.objs.size a3 (.ref s.heap.objs.size) Z.size 0 _ #[] c rfl (aaH _) ⟨f,v _ (aaF Q) _ hI,v _ (aar u) _ C,hM.keep λo e=>v _ (aaF J) o e⟩ r (ItemsOf.nil _) λs' i q hm a2 y=>?_;rw[Moved.eq_with hm];have ea:i.toList=L.map (·.2):=abX λj=>by
   rw[aa1,aat];rcases abD j i.size with O|O
   ·obtain⟨e,e1,e2⟩:=y.2 j i[j] (abF O);rw[abF O,e1,e2];rfl
   ·rw[acm O,ab0 (by rw[hL,<-y.1];exact O)];rfl
  refine hR s'.heap s'.toks q i (L.map unI) (λb o e=>hm.heap b o (λn=>?_) (v b (aar (adc e)) o (M b o e))) a2 ?_ ((hp.map unI).trans a1)
  ·have hl:=adc e;rcases aac.mp n with e'|n
   ·exact aaT _ (e'▸hl)
   ·rw[aao.mp n]at hl;rw[adg]at Y;exact aaT _ (abh hl Y)
  ·rw[ea];refine ints_map λe he=>?_;obtain⟨⟨k,T,_⟩,_⟩:=a4 e (hp.mem_iff.mp he);obtain⟨tt,e1⟩:=adS T;rw[nK T];exact⟨tt,e1⟩
 refine ada (adj (uG ⟨_,C,rfl⟩ ?_));have x:∀(h':Heap) (p q:Nat) (g:Array Value) (m:List Int),(∀b o,s.heap.get? b=some o->h'.get? b=some o)->h'.get? s.heap.objs.size=some { cls:=.type "list",dict:=none,data:=.seq g q,slots:=#[] }->IntsAre g.toList m->m.Perm ns->wpAny (model P w) A (load s.heap.objs.size >>= λo=>match o.data with|.seq xs _=>pure xs.toList|_=>unsupported "internal:collect") R E { s with heap:=h',toks:=p,drawn:=d }:=λh' p q g m N D U H=>
  ada (wpAny_load D (adb (h h' p d _ m N U H)))
 refine adw (λ_=>?_) (λ_=>adb ⟨adF acY _,S h1 0 _ (λ_ _ _ e=>e) z λh' p q g m N D U H=>x h' p q g m N D U H⟩);refine ada (adr ?_);refine ada ?_;show wpAny _ _ (updateSeq s.heap.objs.size (·.push .none) >>= λ_=>updateSeq s.heap.objs.size (·.pop)) _ _ _;refine ada (wpAny_updateSeq z rfl ?_);have r:=adm (Obj.mapSeq (·.push Value.none)) z rfl;refine wpAny_updateSeq r rfl ?_;have a0:=adm (Obj.mapSeq (·.pop)) r rfl;exact adb ⟨adF acY _,S _ _ _ (λb hb o e=>(adL _ _ (aaF hb)).trans ((adL _ _ (aaF hb)).trans e)) a0 λh' p q g m N D U H=>x h' p q g m N D U H⟩
end
end Np
namespace L2
open PySem PySem.Spec PyProof.Rows
section
inductive Bo where|add|sub|mul|fdiv|mod|pow
inductive Co where|lt|le|gt|ge|eq|ne|inn|nin
inductive Bl where|len|abs|min|int|any
inductive Knd where|int|bool|str|list|tuple|seq
inductive Bn where|tuple
inductive Acc where|fld (c f:Str)|ix (k:Int)|key (j:Nat)
inductive Tg where|nm (i:Nat)|tp (ts:List Nat)
mutual
inductive E where
 |nm (i:Nat)|mv (i:Nat)|int (k:Int)|str (x:Str)|bl (b:Bool)|gc (g:Nat)
 |bop (o:Bo) (a b:E)|cat (a b:E)|catV (a b:E)
 |cmp (o:Co) (a b:E)|cmp2 (o o':Co) (a b c:E)
 |and (a b:E)|or (a b:E)|not (a:E)|neg (a:E)|ife (c a b:E)
 |tup (es:Es)|lst (es:Es)|ix (a b:E)
 |call (f:Nat) (es:Es)|blt (f:Bl) (es:Es)|bnw (f:Bn) (e:E)|isi (k:Knd) (a:E)|lset (a:E)|sst (a:E)|idl (i:Nat) (b:E)|dnew
 |pg (i:Nat) (ps:List Acc)|pf (i:Nat) (ps:List Acc)|pl (i:Nat) (ps:List Acc)|pt (i:Nat) (ps:List Acc)|pin (neg:Bool) (e:E) (i:Nat) (ps:List Acc)|din (neg:Bool) (e:E) (i:Nat) (ps:List Acc)
 |comp (nt:Nat) (fr:List Nat) (it:It') (tg:Tg) (ifs:Eo) (elt:E)|compB (i nt:Nat) (fr:List Nat) (tg:Tg) (ifs:Eo) (elt:E)
 |meth (c m:Str) (f:Nat) (i:Nat) (es:Es)|make (c:Str) (f:Nat) (es:Es)
inductive Es where|nil|cons (e:E)(es:Es)
inductive Eo where|none|some (e:E)
inductive It' where|seq (e:E)|rg1 (e:E)|enm (e:E)|zip (a b:E)
end
mutual
inductive S' where
 |ex (e:E)|set (i:Nat) (e:E)|asg (t:Tg) (e:E)|par (is:List Nat) (es:Es)|aug (i:Nat) (o:Bo) (e:E)
 |ret (e:E)|iff (c:E) (a b:Ss)|fr (t:Tg) (it:It') (b:Ss)|cont
 |app (i:Nat) (e:E)|ext (i:Nat) (e:E)|apd (i:Nat) (ps:List Acc) (e:E)|sti (i:Nat) (k e:E)|std (i:Nat) (ps:List Acc) (j:Nat) (e:E)
 |sdc (i nt:Nat) (fr:List Nat) (it:It') (tg:Tg) (ke ve:E)|sdl (i nt:Nat) (fr:List Nat) (it:It') (tg:Tg) (ke:E)|sc2 (i nt:Nat) (fr:List Nat) (it:It') (tg:Tg) (it2:It') (tg2:Tg) (e:E)|stf (i:Nat) (c f:Str) (e:E)|agf (i:Nat) (c f:Str) (o:Bo) (e:E)
inductive Ss where|nil|cons (s:S')(ss:Ss)|ali (i:Nat)(ps:List Acc)(j:Nat)(ss:Ss)
end
structure Fn where
 io:List Bool
 n:Nat
 body:Ss
structure Ct where
 io:Nat->List Bool
 call:Nat->List OD->Option (OD×List OD)
 mak:Nat->List OD->Option (OD×List OD)
 gv:Nat->PyData
 wf:Nat
def uH:OD->Option PyData|.fz d=>some d|_=>none
def r8:OD->Option (List OD)|.lst xs=>some xs|_=>none
def Gn:OD->Option (List Key×List OD)|.dic ks xs=>some (ks,xs)|_=>none
def EG:OD->Option (Str×List Str×List OD)|.obj c ns xs=>some (c,ns,xs)|_=>none
def IC(x:OD):Option (List OD):=match x with|.lst xs=>some xs|.tup xs=>some xs|_=>none
def gR:PyData->Option Int|.int i=>some i|_=>none
def Gp:PyData->Option Bool|.bool k=>some k|_=>none
def EH:PyData->Option (List PyData)|.list ds=>some ds|_=>none
def nN:PyData->Option (List PyData)|.list ds=>some ds|.tuple ds=>some ds|_=>none
def ID:OR->Option (List OD)|.val x=>r8 x|_=>none
def gd(c:Prop)[Decidable c]:Option Unit:=if c then some () else none
def eM{a:Type}:List a->Option a|[x]=>some x|_=>none
def BY{a:Type}:List a->Option (a×a×a)|[x,y,z]=>some (x,y,z)|_=>none
def kj{a:Type}:List a->Option (a×a)|[x,y]=>some (x,y)|_=>none
def IE(w:OD×List OD):Option (OD×List OD):=(uH w.1).bind λd=>match d,w.2 with|.none,y::ys=>some (y,ys)|_,_=>none
def IF:Bo->Int->Int->Option Int
 |.add,i,j=>some (i+j)
 |.sub,i,j=>some (i-j)
 |.mul,i,j=>(gd ((-(2^64)<i/\i<2^64)\/(-(2^64)<j/\j<2^64))).bind λ_=>some (i*j)
 |.fdiv,i,j=>(gd (0<j/\j<1073741824)).bind λ_=>some (i/j)
 |.mod,i,j=>(gd (0<j)).bind λ_=>some (i%j)
 |.pow,i,j=>(gd (0<=j/\j<=1000000/\i.natAbs<2^64)).bind λ_=>some (i^j.toNat)
def ya(o:Bo)(x y:PyData):Option PyData:=(gR x).bind λi=>(gR y).bind λj=>(IF o i j).bind λk=>some (.int k)
def eqA(x y:PyData):Option Bool:=match rM x y with
 |some k=>some k
 |none=>if SeqAt.shaped x&&SeqAt.shaped y then some (PyData.eqv x y) else none
def inA(x y:PyData):Option Bool:=(nN y).bind λa=>(gd (Bv x=true)).bind λ_=>memD x a
def mV(o:Co)(x y:PyData):Option Bool:=match o with
 |.lt=>(gR x).bind λi=>(gR y).bind λj=>some (decide (i<j))
 |.le=>(gR x).bind λi=>(gR y).bind λj=>some (decide (i<=j))
 |.gt=>(gR x).bind λi=>(gR y).bind λj=>some (decide (j<i))
 |.ge=>(gR x).bind λi=>(gR y).bind λj=>some (decide (j<=i))
 |.eq=>eqA x y
 |.ne=>(eqA x y).bind λk=>some (!k)
 |.inn=>inA x y
 |.nin=>(inA x y).bind λk=>some (!k)
def kl:PyData->Option Bool
 |.none=>some false|.bool b=>some b|.int i=>some (i !=0)
 |.list ds=>some (!ds.isEmpty)|.tuple ds=>some (!ds.isEmpty)
 |_=>none
def EI:Knd->PyData->Bool
 |.int,.int _=>true|.int,.bool _=>true|.bool,.bool _=>true|.str,.str _=>true|.list,.list _=>true|.tuple,.tuple _=>true|.seq,.list _=>true|.seq,.tuple _=>true
 |_,_=>false
def iw:List PyData->Option (List Int)
 |[]=>some []
 |d::ds=>(gR d).bind λi=>(iw ds).bind λr=>some (i::r)
def EJ(f:Bl)(ds:List PyData):Option PyData:=match f with
 |.len=>(eM ds).bind λd=>(kb d).bind λn=>some (.int n)
 |.abs=>(eM ds).bind λd=>(gR d).bind λi=>some (.int (if i<0 then -i else i))
 |.min=>(kj ds).bind λz=>(gR z.1).bind λi=>(gR z.2).bind λj=>some (.int (if j<i then j else i))
 |.int=>(eM ds).bind λd=>(toInt d).bind λi=>some (.int i)
 |.any=>(eM ds).bind λd=>(EH d).bind λb=>(allB b).bind λa=>some (.bool (a.any id))
def insI(i:Int):List Int->List Int
 |[]=>[i]
 |j::r=>if i<=j then i::j::r else j::insI i r
def sortI:List Int->List Int
 |[]=>[]
 |i::r=>insI i (sortI r)
def keyOf:PyData->Option Key
 |.int i=>some (.inl i)
 |.str x=>some (.inr x)
 |_=>none
def nmR(ρ:DEnv)(i:Nat):Option OR:=match ρ[i]?.join with
 |some (.fz d)=>some (.val (.fz d))
 |some _=>some (.rf i)
 |none=>none
def accN(ρ:DEnv)(x:OD):Acc->Option Nat
 |.fld c f=>(EG x).bind λq=>(gd (q.1=c)).bind λ_=>q.2.1.findIdx? (λg=>decide (g=f))
 |.ix k=>(IC x).bind λxs=>ixN xs.length k
 |.key j=>(ρ[j]?.join).bind λy=>(uH y).bind λd=>(Gn x).bind λq=>(keyOf d).bind λk=>q.1.findIdx? (λq=>decide (q=k))
def ak(ρ:DEnv)(i:Nat):List Acc->Option (OD×List Nat×OD)
 |[]=>(ρ[i]?.join).bind λx=>some (x,[],x)
 |a::ps=>(ak ρ i ps).bind λp=>(accN ρ p.2.2 a).bind λk=>(p.2.2.kids[k]?).bind λz=>some (p.1,p.2.1++[k],z)
def unpA(x:OD):Option (List OD):=match unpT x with|some a=>some a|none=>unpL x
def Ht(a:List Nat)(x:OD)(ρ:DEnv):Option DEnv:=(unpA x).bind λb=>(gd (b.length=a.length/\∀i∈a,i<ρ.length)).bind λ_=>some (dJ a b ρ)
def aX:Tg->OD->DEnv->Option DEnv
 |.nm i,x,ρ=>(gd (i<ρ.length)).bind λ_=>some (ρ.set i (some x))
 |.tp ts,x,ρ=>Ht ts x ρ
def aT(step:PyData->DEnv->Option (List PyData×DEnv)):List PyData->List PyData->DEnv->Option (List PyData×DEnv)
 |[],out,ρ=>some (out,ρ)
 |d::ds,out,ρ=>(step d ρ).bind λw=>aT step ds (out++w.1) w.2
def cy{a:Type}(step:a->PyData->DEnv->Option (a×DEnv)):List PyData->a->DEnv->Option (a×DEnv)
 |[],o,ρ=>some (o,ρ)
 |d::ds,o,ρ=>(step o d ρ).bind λw=>cy step ds w.1 w.2
inductive Fl where|nx|bk|ct|rt (x:OD)
def bc(step:PyData->DEnv->Option (Fl×DEnv)):List PyData->DEnv->Option (Fl×DEnv)
 |[],ρ=>some (.nx,ρ)
 |d::ds,ρ=>(step d ρ).bind λw=>match w.1 with
  |.nx=>bc step ds w.2
  |.ct=>bc step ds w.2
  |.bk=>some (.nx,w.2)
  |.rt x=>some (.rt x,w.2)
def vt(f:DEnv->Option (OR×DEnv)):(DEnv->Option (OR×DEnv))×(DEnv->Option (Bool×DEnv)):=(f,λa=>(f a).bind λx=>(aw x.2 x.1).bind λd=>(kl d).bind λk=>some (k,x.2))
section
variable(C:Ct)
mutual
noncomputable def cB:E->(DEnv->Option (OR×DEnv))×(DEnv->Option (Bool×DEnv))
 |.nm i=>vt λρ=>match ρ[i]?.join with
  |some (.fz d)=>some (.val (.fz d),ρ)
  |some _=>some (.rf i,ρ)
  |none=>none
 |.mv i=>vt λρ=>(ρ[i]?.join).bind λx=>some (.val x,ρ.set i none)
 |.int k=>vt λρ=>some (.val (.fz (.int k)),ρ)
 |.str x=>vt λρ=>some (.val (.fz (.str x)),ρ)
 |.bl b=>vt λρ=>some (.val (.fz (.bool b)),ρ)
 |.gc g=>vt λρ=>some (.val (.fz (C.gv g)),ρ)
 |.bop o a b=>vt λρ=>((cB a).1 ρ).bind λx=>((cB b).1 x.2).bind λy=>(aw y.2 x.1).bind λdx=>(aw y.2 y.1).bind λdy=>(ya o dx dy).bind λd=>some (.val (.fz d),y.2)
 |.cat a b=>vt λρ=>((cB a).1 ρ).bind λx=>((cB b).1 x.2).bind λy=>(BF y.2 x.1).bind λdx=>(BF y.2 y.1).bind λdy=>(gd (dx.length+dy.length<=1000000)).bind λ_=>some (.val (.lst ((dx++dy).map OD.fz)),y.2)
 |.catV a b=>vt λρ=>((cB a).1 ρ).bind λx=>((cB b).1 x.2).bind λy=>(BG y.2 x.1).bind λdx=>(BG y.2 y.1).bind λdy=>(gd (dy≠[]/\dx.length+dy.length<=1000000)).bind λ_=>some (.val (.fz (.tuple (dx++dy))),y.2)
 |.cmp o a b=>vt λρ=>((cB a).1 ρ).bind λx=>((cB b).1 x.2).bind λy=>(aw y.2 x.1).bind λdx=>(aw y.2 y.1).bind λdy=>(mV o dx dy).bind λk=>some (.val (.fz (.bool k)),y.2)
 |.cmp2 o o' a b c=>vt λρ=>((cB a).1 ρ).bind λx=>((cB b).1 x.2).bind λy=>(aw y.2 x.1).bind λdx=>(aw y.2 y.1).bind λdy=>(mV o dx dy).bind λk=>if k=true then ((cB c).1 y.2).bind λz=>(aw z.2 y.1).bind λr=>(aw z.2 z.1).bind λdz=>(mV o' r dz).bind λk'=>some (.val (.fz (.bool k')),z.2) else some (.val (.fz (.bool false)),y.2)
 |.and a b=>(λρ=>((cB a).1 ρ).bind λx=>(aw x.2 x.1).bind λd=>(Gp d).bind λk=>if k=true then (cB b).1 x.2 else some (.val (.fz (.bool false)),x.2),λρ=>((cB a).2 ρ).bind λx=>if x.1=true then (cB b).2 x.2 else some (false,x.2))
 |.or a b=>(λρ=>((cB a).1 ρ).bind λx=>(aw x.2 x.1).bind λd=>(Gp d).bind λk=>if k=true then some (.val (.fz (.bool true)),x.2) else (cB b).1 x.2,λρ=>((cB a).2 ρ).bind λx=>if x.1=true then some (true,x.2) else (cB b).2 x.2)
 |.not a=>(λρ=>((cB a).1 ρ).bind λx=>(aw x.2 x.1).bind λd=>(Gp d).bind λk=>some (.val (.fz (.bool (!k))),x.2),λρ=>((cB a).2 ρ).bind λx=>some (!x.1,x.2))
 |.neg a=>vt λρ=>((cB a).1 ρ).bind λx=>(aw x.2 x.1).bind λd=>(gR d).bind λi=>some (.val (.fz (.int (-i))),x.2)
 |.ife c a b=>vt λρ=>((cB c).2 ρ).bind λx=>if x.1=true then (cB a).1 x.2 else (cB b).1 x.2
 |.tup es=>vt λρ=>(evs es ρ).bind λx=>(mapR own1 x.2 x.1).bind λz=>(gd (x.1.length<=1000000)).bind λ_=>some (.val (mkTup z.1),z.2)
 |.lst es=>vt λρ=>(evs es ρ).bind λx=>(mapR own1 x.2 x.1).bind λz=>(gd (x.1.length<=1000000)).bind λ_=>some (.val (.lst z.1),z.2)
 |.ix a b=>vt λρ=>((cB a).1 ρ).bind λx=>((cB b).1 x.2).bind λy=>(aw y.2 y.1).bind λd=>(gR d).bind λi=>(cv y.2 x.1 i).bind λz=>some (.val z.1,z.2)
 |.call f es=>vt λρ=>(evs es ρ).bind λx=>(aU (C.io f) x.2 x.1).bind λz=>(C.call f z.1).bind λw=>some (.val w.1,dM (C.io f) x.1 w.2 z.2)
 |.blt f es=>vt λρ=>(evs es ρ).bind λx=>(ka x.2 x.1).bind λds=>(EJ f ds).bind λd=>some (.val (.fz d),x.2)
 |.bnw f e=>vt λρ=>((cB e).1 ρ).bind λx=>match f with
  |.tuple=>((eQ x.2 x.1).bind listOf).bind λds=>some (.val (.fz (.tuple ds)),x.2)
 |.isi k a=>vt λρ=>((cB a).1 ρ).bind λx=>(aw x.2 x.1).bind λd=>some (.val (.fz (.bool (EI k d))),x.2)
 |.lset a=>vt λρ=>((cB a).1 ρ).bind λx=>(aw x.2 x.1).bind λd=>(nN d).bind λes=>(iw es).bind λns=>(gd (ns.length<1000)).bind λ_=>some (.val (.fz (.int (ns.foldl Np.ddI []).length)),x.2)
 |.sst a=>vt λρ=>((cB a).1 ρ).bind λx=>(aw x.2 x.1).bind λd=>(nN d).bind λds=>(iw ds).bind λns=>(gd (ns.length<1000)).bind λ_=>(gd ((ns.foldl Np.ddI []).length<64)).bind λ_=>some (.val (.lst ((sortI (ns.foldl Np.ddI [])).map λi=>.fz (.int i))),x.2)
 |.idl i b=>vt λρ=>(nmR ρ i).bind λx=>(aw ρ x).bind λs=>(EH s).bind λ_=>((cB b).1 ρ).bind λy=>(aw y.2 y.1).bind λd=>(gR d).bind λn=>(aw y.2 x).bind λt=>(EH t).bind λds=>(iw ds).bind λns=>(gd (ns.length<1000000)).bind λ_=>(ns.findIdx? λm=>decide (m=n)).bind λj=>some (.val (.fz (.int j)),y.2)
 |.dnew=>vt λρ=>some (.val (.dic [] []),ρ)
 |.pg i ps=>vt λρ=>(ak ρ i ps).bind λp=>(uH p.2.2).bind λd=>some (.val (.fz d),ρ)
 |.pf i ps=>vt λρ=>(ak ρ i ps).bind λp=>(p.2.2.dat).bind λd=>some (.val (.fz d),ρ.set i (some (OD.put (.fz d) p.2.1 p.1)))
 |.pl i ps=>vt λρ=>(ak ρ i ps).bind λp=>(p.2.2.dat).bind λd=>(kb d).bind λn=>some (.val (.fz (.int n)),ρ)
 |.pt i ps=>(λ_=>none,λρ=>(ak ρ i ps).bind λp=>(p.2.2.dat).bind λd=>(kl d).bind λk=>some (k,ρ))
 |.pin neg e i ps=>vt λρ=>((cB e).1 ρ).bind λx=>(aw x.2 x.1).bind λdx=>(ak x.2 i ps).bind λp=>(p.2.2.dat).bind λd=>(mV (if neg then .nin else .inn) dx d).bind λk=>some (.val (.fz (.bool k)),x.2)
 |.din neg e i ps=>vt λρ=>((cB e).1 ρ).bind λx=>(aw x.2 x.1).bind λdx=>(ak x.2 i ps).bind λp=>(keyOf dx).bind λk=>(Gn p.2.2).bind λq=>some (.val (.fz (.bool (if neg then !(q.1.any λq=>decide (q=k)) else q.1.any λq=>decide (q=k)))),x.2)
 |.comp nt fr it tg ifs elt=>vt λρ=>(jg it ρ).bind λx=>(gd (x.1.length<1000000)).bind λ_=>(bN x.2 fr).bind λz=>
   (aT (λd h=>(aX tg (.fz d) h).bind λρ1=>(Gq ifs ρ1).bind λk=>if k.1=true then ((cB elt).1 k.2).bind λy=>(frz1 y.2 y.1).bind λq=>some ([q.1],q.2) else some ([],k.2)) x.1 [] (List.replicate nt none++z.1)).bind λw=>
    some (.val (.lst (w.1.map OD.fz)),bY z.2 fr (w.2.drop nt))
 |.compB i nt fr tg ifs elt=>vt λρ=>(ρ[i]?.join).bind λl=>(r8 l).bind λxs=>(wQ xs).bind λds=>(gd (ds.length<1000000)).bind λ_=>(bN (ρ.set i none) fr).bind λz=>
   (aT (λd h=>(aX tg (.fz d) h).bind λρ1=>(Gq ifs ρ1).bind λk=>if k.1=true then ((cB elt).1 k.2).bind λy=>(frz1 y.2 y.1).bind λq=>some ([q.1],q.2) else some ([],k.2)) ds [] (List.replicate nt none++z.1)).bind λw=>
    some (.val (.lst (w.1.map OD.fz)),(bY z.2 fr (w.2.drop nt)).set i (some (.lst xs)))
 |.meth c m f i es=>vt λρ=>(ρ[i]?.join).bind λl=>(EG l).bind λq=>(gd (q.1=c/\m ∉ q.2.1)).bind λ_=>(evs es ρ).bind λx=>(aU (C.io f) x.2 (.rf i::x.1)).bind λz=>(C.call f z.1).bind λw=>some (.val w.1,dM (C.io f) (.rf i::x.1) w.2 z.2)
 |.make c f es=>vt λρ=>(evs es ρ).bind λx=>(aU (C.io f).tail x.2 x.1).bind λz=>(C.mak f (.obj c [] []::z.1)).bind λw=>(IE w).bind λy=>some (.val y.1,dM (C.io f).tail x.1 y.2 z.2)
noncomputable def evs:Es->DEnv->Option (List OR×DEnv)
 |.nil,ρ=>some ([],ρ)
 |.cons e es,ρ=>((cB e).1 ρ).bind λx=>(evs es x.2).bind λy=>some (x.1::y.1,y.2)
noncomputable def Gq:Eo->DEnv->Option (Bool×DEnv)
 |.none,ρ=>some (true,ρ)
 |.some e,ρ=>(cB e).2 ρ
noncomputable def jg:It'->DEnv->Option (List PyData×DEnv)
 |.seq e,ρ=>((cB e).1 ρ).bind λx=>(frz1 x.2 x.1).bind λz=>(nN z.1).bind λds=>some (ds,z.2)
 |.rg1 e,ρ=>((cB e).1 ρ).bind λx=>(aw x.2 x.1).bind λd=>(gR d).bind λj=>(gd (-(2^62)<=j/\j<2^62)).bind λ_=>some (bX 0 j.toNat,x.2)
 |.enm e,ρ=>((cB e).1 ρ).bind λx=>(frz1 x.2 x.1).bind λz=>(EH z.1).bind λds=>some (cN ds,z.2)
 |.zip a b,ρ=>((cB a).1 ρ).bind λx=>((cB b).1 x.2).bind λy=>(frz1 y.2 x.1).bind λz=>(frz1 z.2 y.1).bind λw=>(nN z.1).bind λds=>(nN w.1).bind λes=>some (fZ ds es,w.2)
end
abbrev ev(e:E)(ρ:DEnv):=(cB C e).1 ρ
abbrev bj(e:E)(ρ:DEnv):=(cB C e).2 ρ
end
example (C:Ct) (ρ:DEnv):ev C (.bop .add (.int 1) (.int 2)) ρ=some (.val (.fz (.int 3)),ρ):=rfl
example (C:Ct) (ρ:DEnv):bj C (.and (.bl true) (.not (.cmp .lt (.int 1) (.int 2)))) ρ=some (false,ρ):=rfl
end
section
def bnd{b c:Type}{o:Option b}{f:b->Option c}{x:c}(h:o.bind f=some x):∃a,o=some a/\f a=some x:=aaO.mp h
def bn2{α β γ:Type}{o:Option α}{g1:α->Option β}{f:α->β->Option γ}{r:γ}(h:(o.bind λa=>(g1 a).bind (f a))=some r):∃a b,o=some a/\g1 a=some b/\f a b=some r:=by obtain⟨a,p0,h⟩:=bnd h;obtain⟨b,p1,h⟩:=bnd h;exact⟨a,b,p0,p1,h⟩
def bn3{α β γ δ:Type}{o:Option α}{g1:α->Option β}{g2:α->β->Option γ}{f:α->β->γ->Option δ}{r:δ}(h:(o.bind λa=>(g1 a).bind λb=>(g2 a b).bind (f a b))=some r):∃a b c,o=some a/\g1 a=some b/\g2 a b=some c/\f a b c=some r:=by obtain⟨a,p0,h⟩:=bnd h;obtain⟨b,p1,h⟩:=bnd h;obtain⟨c,p2,h⟩:=bnd h;exact⟨a,b,c,p0,p1,p2,h⟩
def bn4{α β γ δ ε:Type}{o:Option α}{g1:α->Option β}{g2:α->β->Option γ}{g3:α->β->γ->Option δ}{f:α->β->γ->δ->Option ε}{r:ε}(h:(o.bind λa=>(g1 a).bind λb=>(g2 a b).bind λc=>(g3 a b c).bind (f a b c))=some r):∃a b c d,o=some a/\g1 a=some b/\g2 a b=some c/\g3 a b c=some d/\f a b c d=some r:=by obtain⟨a,p0,h⟩:=bnd h;obtain⟨b,p1,h⟩:=bnd h;obtain⟨c,p2,h⟩:=bnd h;obtain⟨d,p3,h⟩:=bnd h;exact⟨a,b,c,d,p0,p1,p2,p3,h⟩
def bn5{α β γ δ ε ζ:Type}{o:Option α}{g1:α->Option β}{g2:α->β->Option γ}{g3:α->β->γ->Option δ}{g4:α->β->γ->δ->Option ε}{f:α->β->γ->δ->ε->Option ζ}{r:ζ}(h:(o.bind λa=>(g1 a).bind λb=>(g2 a b).bind λc=>(g3 a b c).bind λd=>(g4 a b c d).bind (f a b c d))=some r):∃a b c d e,o=some a/\g1 a=some b/\g2 a b=some c/\g3 a b c=some d/\g4 a b c d=some e/\f a b c d e=some r:=by obtain⟨a,p0,h⟩:=bnd h;obtain⟨b,p1,h⟩:=bnd h;obtain⟨c,p2,h⟩:=bnd h;obtain⟨d,p3,h⟩:=bnd h;obtain⟨e,p4,h⟩:=bnd h;exact⟨a,b,c,d,e,p0,p1,p2,p3,p4,h⟩
def dP{x:OD}{d:PyData}(h:uH x=some d):x=.fz d:=by cases x<;>cases h;rfl
def cW{x:OD}{xs:List OD}(h:r8 x=some xs):x=.lst xs:=by cases x<;>cases h;rfl
def uI{x:OD}{z:List Key×List OD}(h:Gn x=some z):x=.dic z.1 z.2:=by cases x<;>cases h;rfl
def km{x:OD}{z:Str×List Str×List OD}(h:EG x=some z):x=.obj z.1 z.2.1 z.2.2:=by cases x<;>cases h;rfl
def BZ{x:OD}{xs:List OD}(h:IC x=some xs):x=.lst xs\/x=.tup xs:=by cases x<;>cases h<;>first|exact .inl rfl|exact .inr rfl
def a9{d:PyData}{i:Int}(h:gR d=some i):d=.int i:=by cases d<;>cases h;rfl
def nO{d:PyData}{i:Bool}(h:Gp d=some i):d=.bool i:=by cases d<;>cases h;rfl
def kn{d:PyData}{i:List PyData}(h:EH d=some i):d=.list i:=by cases d<;>cases h;rfl
def iy{d:PyData}{i:List PyData}(h:nN d=some i):d=.list i\/d=.tuple i:=by cases d<;>cases h<;>first|exact .inl rfl|exact .inr rfl
def B3{r:OR}{xs:List OD}(h:ID r=some xs):r=.val (.lst xs):=by
 cases r with
 |val x=>rw[cW h]
 |rf _=>cases h
def gd_ok{c:Prop}[Decidable c]{u:Unit}(h:gd c=some u):c:=by
 by_cases a:c
 ·exact a
 ·rw[gd,if_neg a]at h;cases h
def one1_ok{a:Type}{l:List a}{x:a}(h:eM l=some x):l=[x]:=by
 cases l with
 |nil=>cases h
 |cons y l=>cases l<;>cases h;rfl
def thr3_ok{a:Type}{l:List a}{x:a×a×a}(h:BY l=some x):l=[x.1,x.2.1,x.2.2]:=by
 cases l with
 |nil=>cases h
 |cons y l=>
  cases l with
  |nil=>cases h
  |cons z l=>
   cases l with
   |nil=>cases h
   |cons w l=>cases l<;>cases h;rfl
def two2_ok{a:Type}{l:List a}{x:a×a}(h:kj l=some x):l=[x.1,x.2]:=by
 cases l with
 |nil=>cases h
 |cons y l=>
  cases l with
  |nil=>cases h
  |cons z l=>cases l<;>cases h;rfl
def B4{w z:OD×List OD}(h:IE w=some z):w.1=.fz .none/\w.2=z.1::z.2:=by
 obtain⟨a,b⟩:=w;obtain⟨d,e,h⟩:=bnd h;cases b with
 |nil=>cases d<;>cases h
 |cons y c=>cases d<;>cases h;exact⟨dP e,rfl⟩
section
variable(C:Ct)
mutual
noncomputable def ko:E->DEnv->Option PyData
 |.nm i,ρ=>(ρ[i]?.join).bind uH
 |.int k,_=>some (.int k)
 |.str x,_=>some (.str x)
 |.gc g,_=>some (C.gv g)
 |.bop o a b,ρ=>match o with
  |.add=>(ko a ρ).bind λx=>(ko b ρ).bind λy=>ya .add x y
  |.sub=>(ko a ρ).bind λx=>(ko b ρ).bind λy=>ya .sub x y
  |_=>none
 |.ix a b,ρ=>(ko a ρ).bind λx=>(ko b ρ).bind λy=>(nN x).bind λds=>(gR y).bind λi=>atI ds i
 |.tup es,ρ=>(nP es ρ).bind λds=>(gd (ds.length<=1000000)).bind λ_=>some (.tuple ds)
 |.pg i ps,ρ=>(ak ρ i ps).bind λp=>uH p.2.2
 |_,_=>none
noncomputable def nP:Es->DEnv->Option (List PyData)
 |.nil,_=>some []
 |.cons e es,ρ=>(ko e ρ).bind λx=>(nP es ρ).bind λy=>some (x::y)
end
def bA(f:Str)(z:OD):List Str->List OD->List Str×List OD
 |n::ns,x::xs=>if n=f then (n::ns,z::xs) else ((n::(bA f z ns xs).1),(x::(bA f z ns xs).2))
 |_,_=>([f],[z])
def bB(k:Key)(d:PyData)(ks:List Key)(xs:List OD):List Key×List OD:=
 if (ks.any λq=>decide (q=k))=true then (ks,List.zipWith (λq x=>if q=k then .fz d else x) ks xs) else (ks++[k],xs++[.fz d])
def lV:Bo->Int->PyData->Option Int
 |.add,a,.int k=>some (a+k)
 |.sub,a,.int k=>some (a-k)
 |_,_,_=>none
def uJ(i:Nat)(ks:List Nat)(j:Nat)(u:V)(ρ a:DEnv):Prop:=∃x y,ρ[i]?.join=some x/\x.at ks=some (.hole u)/\ρ[j]?.join=some y/\j≠i/\a=(ρ.set j none).set i (some (OD.put y ks x))
def HolOk(g:V->Option (Fl×DEnv))(i:Nat)(ks:List Nat)(j:Nat)(z:Fl×DEnv):Prop:=∀u:V,∃a,g u=some (z.1,a)/\uJ i ks j u a z.2
open Classical in
def holRun(g:V->Option (Fl×DEnv))(i:Nat)(ks:List Nat)(j:Nat):Option (Fl×DEnv):=if h:∃z,HolOk g i ks j z then some (Classical.choose h) else none
def lW{g:V->Option (Fl×DEnv)}{i j:Nat}{ks:List Nat}{z:Fl×DEnv}(h:holRun g i ks j=some z):HolOk g i ks j z:=by
 unfold holRun at h;by_cases a:∃z,HolOk g i ks j z
 ·rw[dif_pos a]at h;cases h;exact acZ a
 ·rw[dif_neg a]at h;cases h
def r9{g:V->Option (Fl×DEnv)}{i j:Nat}{ks:List Nat}{z:Fl×DEnv}(h:HolOk g i ks j z):holRun g i ks j=some z:=by
 have b:∃z,HolOk g i ks j z:=⟨z,h⟩
 have o:holRun g i ks j=some (Classical.choose b):=dif_pos b;rw[o];have c:=acZ b;generalize Classical.choose b=z' at c;obtain⟨m,f,D,y,k,r,n,t,l⟩:=h .non;obtain⟨q,a,x,A,d,u,e,w,p⟩:=c .non;rw[f]at a;injection a with a;injection a with a a3;subst a3;rw[k]at d;rw[n]at e;cases d;cases e;obtain⟨B,s⟩:=z;obtain⟨C,v⟩:=z';simp only at *;rw[l,p,a]
abbrev AliOk(f:DEnv->Option (Fl×DEnv))(ρ:DEnv)(i:Nat)(p:OD×List Nat×OD)(xs:List OD)(j:Nat)(z:Fl×DEnv):Prop:=HolOk (λu=>f (ρ.set i (some (OD.put (.lst (xs++[.hole u])) p.2.1 p.1)))) i (p.2.1++[xs.length]) j z
def kr(f:DEnv->Option (Fl×DEnv))(ρ:DEnv)(i:Nat)(p:OD×List Nat×OD)(j:Nat):Option (Fl×DEnv):=(r8 p.2.2).bind λa=>(gd (a.length<1000000/\j≠i/\(ρ[j]?.join).isSome)).bind λ_=>holRun (λu=>f (ρ.set i (some (OD.put (.lst (a++[.hole u])) p.2.1 p.1)))) i (p.2.1++[a.length]) j
def lX{f:DEnv->Option (Fl×DEnv)}{ρ:DEnv}{i j:Nat}{p:OD×List Nat×OD}{z:Fl×DEnv}(h:kr f ρ i p j=some z):∃xs,p.2.2=.lst xs/\xs.length<1000000/\j≠i/\(∃y,ρ[j]?.join=some y)/\AliOk f ρ i p xs j z:=by obtain⟨xs,_,b,a,h⟩:=bn2 h;have a:=gd_ok a;exact⟨xs,cW b,a.1,a.2.1,abt.mp a.2.2,lW h⟩
def sd{f:DEnv->Option (Fl×DEnv)}{ρ:DEnv}{i j:Nat}{p:OD×List Nat×OD}{xs:List OD}{y:OD}{z:Fl×DEnv}(d:p.2.2=.lst xs)(b:xs.length<1000000)(c:j≠i)(a:ρ[j]?.join=some y)(h:AliOk f ρ i p xs j z):kr f ρ i p j=some z:=by unfold kr;rw[d,show r8 (.lst xs)=some xs from rfl,acy];have:gd (xs.length<1000000/\j≠i/\(ρ[j]?.join).isSome)=some ():=if_pos ⟨b,c,by rw[a];rfl⟩;rw[this,acy];exact r9 h
def EK(a b:E)(o:List Key×List OD)(ρ:DEnv):Option ((List Key×List OD)×DEnv):=(ev C a ρ).bind λx=>(ev C b x.2).bind λy=>(aw y.2 x.1).bind λd=>(keyOf d).bind λc=>(frz1 y.2 y.1).bind λz=>some (bB c z.1 o.1 o.2,z.2)
def uK(b:Tg)(c e:E)(o:List Key×List OD)(d:PyData)(ρ:DEnv):Option ((List Key×List OD)×DEnv):=(aX b (.fz d) ρ).bind λa=>EK C c e o a
def zN(b:E)(o:List Key×List OD)(ρ:DEnv):Option ((List Key×List OD)×DEnv):=(ev C b ρ).bind λx=>(aw x.2 x.1).bind λc=>(keyOf c).bind λa=>(gd ((o.1.any λq=>decide (q=a))=false)).bind λ_=>some ((o.1++[a],o.2++[.lst []]),x.2)
def EL(b:Tg)(c:E)(o:List Key×List OD)(d:PyData)(ρ:DEnv):Option ((List Key×List OD)×DEnv):=(aX b (.fz d) ρ).bind λa=>zN C c o a
def yb(b:Tg)(e:E)(d:PyData)(ρ:DEnv):Option (List PyData×DEnv):=(aX b (.fz d) ρ).bind λa=>(ev C e a).bind λy=>(frz1 y.2 y.1).bind λq=>some ([q.1],q.2)
def pv(f:Tg)(a:It')(b:Tg)(e:E)(out:List PyData)(d:PyData)(ρ:DEnv):Option (List PyData×DEnv):=(aX f (.fz d) ρ).bind λc=>(jg C a c).bind λx=>(gd (out.length+x.1.length<1000000)).bind λ_=>aT (yb C b e) x.1 out x.2
mutual
noncomputable def cE:S'->DEnv->Option (Fl×DEnv)
 |.ex e,ρ=>(ev C e ρ).bind λx=>some (.nx,x.2)
 |.set i e,ρ=>(ev C e ρ).bind λx=>(own1 x.2 x.1).bind λz=>(gd (i<z.2.length)).bind λ_=>some (.nx,z.2.set i (some z.1))
 |.asg t e,ρ=>(ev C e ρ).bind λx=>(own1 x.2 x.1).bind λz=>(aX t z.1 z.2).bind λρ1=>some (.nx,ρ1)
 |.par is es,ρ=>(evs C es ρ).bind λx=>(mapR own1 x.2 x.1).bind λz=>(gd (z.1.length=is.length/\∀i∈is,i<z.2.length)).bind λ_=>some (.nx,dJ is z.1 z.2)
 |.aug i o e,ρ=>(ρ[i]?.join).bind λg=>(uH g).bind λl=>(gR l).bind λa=>(ev C e ρ).bind λx=>(aw x.2 x.1).bind λd=>(lV o a d).bind λr=>some (.nx,x.2.set i (some (.fz (.int r))))
 |.ret e,ρ=>(ev C e ρ).bind λx=>(mv1 x.2 x.1).bind λz=>some (.rt z.1,z.2)
 |.iff c a b,ρ=>(bj C c ρ).bind λx=>if x.1=true then aG a x.2 else aG b x.2
 |.fr t it b,ρ=>(jg C it ρ).bind λx=>bc (λd m=>(aX t (.fz d) m).bind λρ1=>aG b ρ1) x.1 x.2
 |.cont,ρ=>some (.ct,ρ)
 |.app i e,ρ=>(ρ[i]?.join).bind λg=>(r8 g).bind λ_=>(ev C e ρ).bind λx=>(own1 x.2 x.1).bind λz=>(z.2[i]?.join).bind λh=>(r8 h).bind λxs=>(gd (xs.length<1000000)).bind λ_=>some (.nx,z.2.set i (some (.lst (xs++[z.1]))))
 |.ext i e,ρ=>(ρ[i]?.join).bind λg=>(r8 g).bind λ_=>(ev C e ρ).bind λx=>(ID x.1).bind λys=>(x.2[i]?.join).bind λh=>(r8 h).bind λxs=>(gd (xs.length+ys.length<=1000000)).bind λ_=>some (.nx,x.2.set i (some (.lst (xs++ys))))
 |.apd i ps e,ρ=>(ak ρ i ps).bind λp=>(ko C e ρ).bind λd=>(r8 p.2.2).bind λxs=>(gd (xs.length<1000000)).bind λ_=>some (.nx,ρ.set i (some (OD.put (.lst (xs++[.fz d])) p.2.1 p.1)))
 |.sti i k e,ρ=>(ev C e ρ).bind λx=>(own1 x.2 x.1).bind λz=>(z.2[i]?.join).bind λg=>(r8 g).bind λ_=>(ev C k z.2).bind λq=>(aw q.2 q.1).bind λd=>(gR d).bind λk=>(q.2[i]?.join).bind λh=>(r8 h).bind λxs=>(ixN xs.length k).bind λj=>some (.nx,q.2.set i (some (.lst (xs.set j z.1))))
 |.std i ps j e,ρ=>(ev C e ρ).bind λx=>(frz1 x.2 x.1).bind λz=>(ak z.2 i ps).bind λp=>(z.2[j]?.join).bind λg=>(uH g).bind λs=>(keyOf s).bind λn=>(Gn p.2.2).bind λu=>(gd (u.2.length<1000000)).bind λ_=>some (.nx,z.2.set i (some (OD.put (.dic (bB n z.1 u.1 u.2).1 (bB n z.1 u.1 u.2).2) p.2.1 p.1)))
 |.sdc i nt fr it tg ke ve,ρ=>(jg C it ρ).bind λx=>(gd (x.1.length<1000000)).bind λ_=>(bN x.2 fr).bind λz=>(cy (uK C tg ke ve) x.1 ([],[]) (List.replicate nt none++z.1)).bind λw=>(gd (i<(bY z.2 fr (w.2.drop nt)).length)).bind λ_=>some (.nx,(bY z.2 fr (w.2.drop nt)).set i (some (.dic w.1.1 w.1.2)))
 |.sdl i nt fr it tg ke,ρ=>(jg C it ρ).bind λx=>(gd (x.1.length<1000000)).bind λ_=>(bN x.2 fr).bind λz=>(cy (EL C tg ke) x.1 ([],[]) (List.replicate nt none++z.1)).bind λw=>(gd (i<(bY z.2 fr (w.2.drop nt)).length)).bind λ_=>some (.nx,(bY z.2 fr (w.2.drop nt)).set i (some (.dic w.1.1 w.1.2)))
 |.sc2 i nt fr it tg it2 tg2 e,ρ=>(jg C it ρ).bind λx=>(gd (x.1.length<1000000)).bind λ_=>(bN x.2 fr).bind λz=>(cy (pv C tg it2 tg2 e) x.1 [] (List.replicate nt none++z.1)).bind λw=>(gd (i<(bY z.2 fr (w.2.drop nt)).length)).bind λ_=>some (.nx,(bY z.2 fr (w.2.drop nt)).set i (some (.lst (w.1.map OD.fz))))
 |.stf i c f e,ρ=>(ev C e ρ).bind λx=>(own1 x.2 x.1).bind λz=>(z.2[i]?.join).bind λg=>(EG g).bind λu=>(gd (u.1=c/\u.2.2.length<1000)).bind λ_=>some (.nx,z.2.set i (some (.obj u.1 (bA f z.1 u.2.1 u.2.2).1 (bA f z.1 u.2.1 u.2.2).2)))
 |.agf i c f o e,ρ=>(ak ρ i [.fld c f]).bind λp=>(uH p.2.2).bind λl=>(gR l).bind λa=>(ev C e ρ).bind λx=>(aw x.2 x.1).bind λd=>(lV o a d).bind λr=>(x.2[i]?.join).bind λg=>(EG g).bind λu=>(gd (u.1=c/\u.2.2.length<1000)).bind λ_=>some (.nx,x.2.set i (some (.obj u.1 (bA f (.fz (.int r)) u.2.1 u.2.2).1 (bA f (.fz (.int r)) u.2.1 u.2.2).2)))
noncomputable def aG:Ss->DEnv->Option (Fl×DEnv)
 |.nil,ρ=>some (.nx,ρ)
 |.cons s ss,ρ=>(cE s ρ).bind λx=>match x.1 with
  |.nx=>aG ss x.2
  |fl=>some (fl,x.2)
 |.ali i ps j ss,ρ=>(ak ρ i ps).bind λp=>kr (aG ss) ρ i p j
end
def uL(fn:Fn)(xs:List OD):Option (OD×List OD):=(aG C fn.body (f9 fn.n xs)).bind λx=>match x.1 with
 |.nx=>(aS 0 fn.io xs x.2).bind λa=>some (.fz .none,a)
 |.rt o=>(aS 0 fn.io xs x.2).bind λa=>some (o,a)
 |_=>none
end
structure Pg where
 F:Nat->Option Fn
 gv:Nat->PyData
 wf:Nat
def Pg.io(p:Pg)(f:Nat):List Bool:=match p.F f with|some a=>a.io|none=>[]
def Pg.both(p:Pg):Nat->(Nat->List OD->Option (OD×List OD))×(Nat->List OD->Option (OD×List OD))
 |0=>(λ_ _=>none,λ_ _=>none)
 |n+1=>(λf xs=>match p.F f with
  |some fn=>if xs.length=fn.io.length then uL ⟨p.io,(Pg.both p n).1,(Pg.both p n).2,p.gv,p.wf⟩ fn xs else none
  |none=>none,(Pg.both p n).1)
def Pg.call(p:Pg)(n f:Nat)(xs:List OD):Option (OD×List OD):=(p.both n).1 f xs
def Pg.mak(p:Pg)(n f:Nat)(xs:List OD):Option (OD×List OD):=(p.both n).2 f xs
abbrev Pg.ct(p:Pg)(n:Nat):Ct:=⟨p.io,p.call n,p.mak n,p.gv,p.wf⟩
theorem Pg.ei(p:Pg)(n f:Nat)(xs:List OD):p.call (n+1) f xs=match p.F f with
  |some fn=>if xs.length=fn.io.length then uL (p.ct n) fn xs else none
  |none=>none:=rfl
theorem Pg.u5(p:Pg)(n f:Nat)(xs:List OD):p.mak (n+1) f xs=p.call n f xs:=rfl
end
section
def aF(C:Ct)(m:E):DE:=λa Q=>∃x,ev C m a=some x/\Q x.1 x.2
def iz(C:Ct)(m:E):DT:=λa Q=>∃x,bj C m a=some x/\Q x.1 x.2
def fF(C:Ct)(m:Es):DA:=λa Q=>∃x,evs C m a=some x/\Q x.1 x.2
def dQ(C:Ct)(m:It'):DI:=λa Q=>∃x,jg C m a=some x/\Q x.1 x.2
section
variable{X:Cx}{e:Expr}{es:List Expr}
theorem PDe.imp:PDe X e d->(∀ρ Q,d' ρ Q->d ρ Q)->PDe X e d'
 |⟨te,h,s⟩,f=>⟨te,h,λb F σ H ρ τ θ c Q a R g q=>s b F σ H ρ τ θ c Q a R (f _ _ g) q⟩
theorem PDt.imp:PDt X e d->(∀ρ Q,d' ρ Q->d ρ Q)->PDt X e d'
 |⟨te,h,s⟩,f=>⟨te,h,λb F σ H ρ τ θ c Q a R g q=>s b F σ H ρ τ θ c Q a R (f _ _ g) q⟩
theorem PDw.imp:PDw X e d->(∀ρ Q,d' ρ Q->d ρ Q)->PDw X e d'
 |⟨te,h,s⟩,f=>⟨te,h,λb F σ H ρ τ θ c Q a R g q=>s b F σ H ρ τ θ c Q a R (f _ _ g) q⟩
theorem PDa.imp:PDa X es d->(∀ρ Q,d' ρ Q->d ρ Q)->PDa X es d'
 |⟨te,h,s⟩,f=>⟨te,h,λb F σ H ρ τ θ c Q a R g q=>s b F σ H ρ τ θ c Q a R (f _ _ g) q⟩
theorem PDi.imp:PDi X tg e d->(∀ρ Q,d' ρ Q->d ρ Q)->PDi X tg e d'
 |⟨te,h,s⟩,f=>⟨te,h,λb F σ H ρ τ θ c Q a R g q=>s b F σ H ρ τ θ c Q a R (f _ _ g) q⟩
def SndR2.or{K:Waa}(h:SndR2 K r d)(h':SndR2 K r' d'):SndR2 K (λx y H Q=>r x y H Q\/r' x y H Q) (λx y Q=>d x y Q\/d' x y Q):=λH v u c b f Q g a z q=>z.imp (λz=>h H v u c b f Q g a z q) λz=>h' H v u c b f Q g a z q
def SndR2.imp{K:Waa}(h:SndR2 K r d)(f:∀x y Q,d' x y Q->d x y Q):SndR2 K r d':=λH v u c b g Q i a z q=>h H v u c b g Q i a (f _ _ _ z) q
end
def opOf:Bo->Operator
 |.add=>.Add|.sub=>.Sub|.mul=>.Mult|.fdiv=>.FloorDiv|.mod=>.Mod|.pow=>.Pow
def coOf:Co->CmpOp
 |.lt=>.Lt|.le=>.LtE|.gt=>.Gt|.ge=>.GtE|.eq=>.Eq|.ne=>.NotEq|.inn=>.In|.nin=>.NotIn
def Jn(o:Bo):DR2:=λx y Q=>∃d,ya o x y=some d/\Q d
def Jo(o:Co):DR2:=λx y Q=>∃k,mV o x y=some k/\Q (.bool k)
def eI(h:ya o x y=some d):∃i j k,x=.int i/\y=.int j/\IF o i j=some k/\d=.int k:=by obtain⟨i,j,k,c,b,a,h⟩:=bn3 h;cases h;exact⟨i,j,k,a9 c,a9 b,a,rfl⟩
section
variable{X:Cx}
def EM(o:Bo):∃e,OpR X (binaryOp (opOf o)) e/\SndR2 X.K e (Jn o):=by
 cases o with
 |add=>refine⟨_,AM,(t8 λi j=>.int _).imp λx y Q c=>?_⟩;obtain⟨d,h,q⟩:=c;obtain⟨i,j,k,rfl,rfl,a,rfl⟩:=eI h;cases a;exact⟨i,j,rfl,rfl,q⟩
 |sub=>refine⟨_,AN,(t8 λi j=>.int _).imp λx y Q c=>?_⟩;obtain⟨d,h,q⟩:=c;obtain⟨i,j,k,rfl,rfl,a,rfl⟩:=eI h;cases a;exact⟨i,j,rfl,rfl,q⟩
 |mul=>refine⟨_,AO,(xG λi j=>.int _).imp λx y Q c=>?_⟩;obtain⟨d,h,q⟩:=c;obtain⟨i,j,k,rfl,rfl,a,rfl⟩:=eI h;obtain⟨_,b,a⟩:=bnd a;cases a;have b:=gd_ok b;exact⟨i,j,rfl,rfl,b,q⟩
 |fdiv=>refine⟨_,xg,(xG λi j=>.int _).imp λx y Q c=>?_⟩;obtain⟨d,h,q⟩:=c;obtain⟨i,j,k,rfl,rfl,a,rfl⟩:=eI h;obtain⟨_,b,a⟩:=bnd a;cases a;have b:=gd_ok b;exact⟨i,j,rfl,rfl,b,q⟩
 |mod=>refine⟨_,AQ,(xG λi j=>.int _).imp λx y Q c=>?_⟩;obtain⟨d,h,q⟩:=c;obtain⟨i,j,k,rfl,rfl,a,rfl⟩:=eI h;obtain⟨_,b,a⟩:=bnd a;cases a;have b:=gd_ok b;exact⟨i,j,rfl,rfl,b,q⟩
 |pow=>refine⟨_,AR,(xG λi j=>.int _).imp λx y Q c=>?_⟩;obtain⟨d,h,q⟩:=c;obtain⟨i,j,k,rfl,rfl,a,rfl⟩:=eI h;obtain⟨_,b,a⟩:=bnd a;cases a;have b:=gd_ok b;exact⟨i,j,rfl,rfl,b,q⟩
def pw(h:eqA x y=some k):rM x y=some k\/(SeqAt.shaped x=true/\SeqAt.shaped y=true/\k=PyData.eqv x y):=by
 unfold eqA at h;cases e:rM x y with
 |some d=>rw[e]at h;exact .inl h
 |none=>
  rw[e]at h;simp only at h;split at h
  ·rename_i c;cases h;obtain⟨a,b⟩:=ab1.mp c;exact .inr ⟨a,b,rfl⟩
  ·cases h
def pC(h:inA x y=some k):∃ds,(y=.list ds\/y=.tuple ds)/\Bv x=true/\memD x ds=some k:=by obtain⟨ds,_,b,a,h⟩:=bn2 h;exact⟨ds,iy b,gd_ok a,h⟩
theorem iA(n:X.A.units+64<cLine)(o:Co):∃p,OpR X (compareOp (coOf o)) p/\SndR2 X.K p (Jo o):=by
 have b:∀{x y:PyData}{k:Bool}{g:Int->Int->Bool},((gR x).bind λi=>(gR y).bind λj=>some (g i j))=some k->∃i j,x=.int i/\y=.int j/\k=g i j:=by intro x y k g h;obtain⟨i,j,s,r,h⟩:=bn2 h;cases h;exact⟨i,j,a9 s,a9 r,rfl⟩
 cases o with
 |lt=>refine⟨_,DV,(xH ).imp λx y Q a=>?_⟩;obtain⟨k,h,q⟩:=a;obtain⟨i,j,rfl,rfl,rfl⟩:=b h;exact⟨i,j,rfl,rfl,q⟩
 |le=>refine⟨_,DW,(xH ).imp λx y Q a=>?_⟩;obtain⟨k,h,q⟩:=a;obtain⟨i,j,rfl,rfl,rfl⟩:=b h;exact⟨i,j,rfl,rfl,q⟩
 |gt=>refine⟨_,DX,(xH ).imp λx y Q a=>?_⟩;obtain⟨k,h,q⟩:=a;obtain⟨i,j,rfl,rfl,rfl⟩:=b h;exact⟨i,j,rfl,rfl,q⟩
 |ge=>refine⟨_,DY,(xH ).imp λx y Q a=>?_⟩;obtain⟨k,h,q⟩:=a;obtain⟨i,j,rfl,rfl,rfl⟩:=b h;exact⟨i,j,rfl,rfl,q⟩
 |eq=>
  refine⟨_,op_eq.or (Bf n),(sr_eq.or Bt).imp λx y Q a=>?_⟩;obtain⟨k,h,q⟩:=a;rcases pw h with h|⟨d,c,rfl⟩
  ·exact .inl ⟨k,h,q⟩
  ·exact .inr ⟨d,c,q⟩
 |ne=>
  refine⟨_,op_ne.or (Bg n),(sr_ne.or Bu).imp λx y Q a=>?_⟩;obtain⟨k,h,q⟩:=a;obtain⟨l,e,h⟩:=bnd h;cases h;rcases pw e with h|⟨d,c,rfl⟩
  ·exact .inl ⟨l,h,q⟩
  ·exact .inr ⟨d,c,q⟩
 |inn=>refine⟨_,rm,(zK ).imp λx y Q a=>?_⟩;obtain⟨k,h,q⟩:=a;obtain⟨f,d,c,m⟩:=pC h;exact⟨f,k,d,c,m,q⟩
 |nin=>refine⟨_,j2,(zK ).imp λx y Q a=>?_⟩;obtain⟨k,h,q⟩:=a;obtain⟨l,e,h⟩:=bnd h;cases h;obtain⟨f,d,c,m⟩:=pC e;exact⟨f,l,d,c,m,q⟩
end
section
variable{X:Cx}{C:Ct}{a b c e:Expr}{es:List Expr}{ma mb mc:E}{mes:Es}{pos:Pos}
def EN(v:PDe X a (aF C ma))(g:PDe X b (aF C mb)):PDe X (.BinOp a (opOf o) b pos) (aF C (.bop o ma mb)):=by obtain⟨y,n,l⟩:=EM o;refine(Eg n l v g).imp λw Q t=>?_;obtain⟨x,h,q⟩:=t;obtain⟨k,f,j,i,d,s,r,p,m,u,h⟩:=bn5 h;cases h;exact⟨k,s,f,r,j,i,p,m,d,u,q⟩
def EO(j:X.A.units+64<cLine)(i:behindInMarks (coOf o) b=false)(y:PDe X a (aF C ma))(g:PDe X b (aF C mb)):PDe X (.Compare a [coOf o] [b] pos) (aF C (.cmp o ma mb)):=by obtain⟨B,r,n⟩:=iA j o;refine(Br r n i y g).imp λz Q v=>?_;obtain⟨x,h,q⟩:=v;obtain⟨m,f,l,k,d,u,t,p,s,w,h⟩:=bn5 h;cases h;exact⟨m,u,f,t,l,k,p,s,d,w,q⟩
def ER(k:X.A.units+64<cLine)(j:behindInMarks (coOf o) b=false)(B:PDe X a (aF C ma))(g:PDe X b (aF C mb)):PDt X (.Compare a [coOf o] [b] pos) (iz C (.cmp o ma mb)):=by obtain⟨F,s,p⟩:=iA k o;refine(xJ s p j B g).imp λD Q w=>?_;obtain⟨x,h,q⟩:=w;obtain⟨y,h,i⟩:=bnd h;obtain⟨n,f,m,l,d,v,u,r,t,z,h⟩:=bn5 h;cases h;cases i;exact⟨n,v,f,u,m,l,r,t,d,z,d,rfl,q⟩
def B5(i:X.A.units+64<cLine)(p:lastMarks [coOf o,coOf o'] [b,c]=false)(w:PDe X a (aF C ma))(m:PDe X b (aF C mb))(O:PDe X c (aF C mc)):PDe X (.Compare a [coOf o,coOf o'] [b,c] pos) (aF C (.cmp2 o o' ma mb mc)):=by
 obtain⟨T,D,y⟩:=iA i o;obtain⟨r,d,g⟩:=iA i o';refine(t9 D y d g p w m O).imp λS Q M=>?_;obtain⟨x,h,q⟩:=M;obtain⟨u,l,t,s,k,J,I,B,F,N,h⟩:=bn5 h;refine⟨u,J,l,I,t,s,B,F,k,N,k,rfl,?_⟩;cases k with
 |false=>rw[if_neg aal]at h;cases h;rw[if_neg aal];exact q
 |true=>rw[if_pos rfl]at h ⊢;obtain⟨v,f,H,L,j,P,n,z,h⟩:=bn4 h;cases h;exact⟨v,j,f,H,P,n,L,z,q⟩
end
end
section
def isStar:Expr->Bool
 |.Starred _ _=>true
 |_=>false
def ax(h:isStar e=false):starEach (e::es) env=(false,eval e env)::starEach es env:=by cases e<;>first|rfl|cases h
theorem bM:∀{es:List Expr},es.any isStar=false->(backTo pos (starEach es env)).any (·.1)=false
 |[],_=>rfl
 |e::es,h=>by rw[aa0,ab2]at h;rw[ax h.1];show (false||(backTo pos (starEach es env)).any (·.1))=false;rw[bM h.2];rfl
def plainT:Expr->Bool
 |.UnaryOp .Not _ _=>false
 |.BoolOp _ _ _=>false
 |.IfExp _ _ _ _=>false
 |.Compare _ _ _ _=>false
 |_=>true
def plainT_ok(h:plainT e=true):∀a,isTrue e env a=(do let v <-a;standAt e.pos;holding [v] (truthy v)):=by
 intro a;cases e with
 |UnaryOp b x p=>cases b<;>first|rfl|cases h
 |_=>first|rfl|cases h
section
variable{X:Cx}{C:Ct}{a b c e:Expr}{es:List Expr}{ma mb mc:E}{mes:Es}{pos p:Pos}{x:Str}{i:Nat}
def zO:ev C (.nm i) ρ=(match ρ[i]?.join with|some (.fz d)=>some (.val (.fz d),ρ)|some _=>some (.rf i,ρ)|none=>none):=rfl
def ES(f:X.N[i]?=some x) (l:Vis X.env.scope x) (j:(x==("__debug__":Str))=false) (d:(x==("__classdict__":Str))=false):PDe X (.Name x pos) (aF C (.nm i)):=by
 refine(Bq f l j d).imp λk Q g=>?_;obtain⟨y,h,q⟩:=g;unfold dVar;rw[zO]at h;cases e:k[i]?.join with
 |none=>rw[e]at h;cases h
 |some z=>rw[e]at h;cases z<;>(simp only at h;cases h;exact q)
def Hu(m:X.N[i]?=some x) (l:Vis X.env.scope x) (f:(x==("__debug__":Str))=false) (d:(x==("__classdict__":Str))=false):PDe X (.Name x pos) (aF C (.mv i)):=by refine⟨_,bH m l f d,λb F t H g o r s Q u R ⟨y,h,q⟩ k=>?_⟩;obtain⟨z,j,h⟩:=bnd h;cases h;obtain⟨v,n,w⟩:=R.slot (join_some j);exact⟨v,n,k v H (.val z) (g.set i none) ⟨R.wf.off,R.al,R.wff,w⟩ q⟩
def ET{j pos}:PDe X (.Constant (.int k) j pos) (aF C (.int k)):=pd_int.imp λd Q ⟨y,h,q⟩=>by cases h;exact q
def EU{j pos}:PDe X (.Constant (.str k) j pos) (aF C (.str k)):=pd_str.imp λd Q ⟨y,h,q⟩=>by cases h;exact q
def Hv{j pos}:PDe X (.Constant (.bool k) j pos) (aF C (.bl k)):=pd_bl.imp λd Q ⟨y,h,q⟩=>by cases h;exact q
def Hw(d:Gl X x) (j:X.mg x=some u) (r:RelV v u) (s:∀S H,Fz X.K S H v (C.gv g)) (f:(x==("__debug__":Str))=false):PDe X (.Name x pos) (aF C (.gc g)):=
 (t7 d j r s f).imp λk Q ⟨y,h,q⟩=>by cases h;exact q
def v_and(o:PDe X a (aF C ma))(j:PDe X (.BoolOp .And (b::es) pos) (aF C mb)):PDe X (.BoolOp .And (a::b::es) pos) (aF C (.and ma mb)):=by
 refine(Bz o j).imp λr Q g=>?_;obtain⟨y,h,q⟩:=g;obtain⟨n,d,k,m,f,l,h⟩:=bn3 h;rw[nO l]at f;refine⟨n,m,k,f,?_⟩;cases k with
 |false=>rw[if_neg aal]at h ⊢;cases h;exact q
 |true=>rw[if_pos rfl]at h ⊢;exact⟨y,h,q⟩
def v_or(o:PDe X a (aF C ma))(j:PDe X (.BoolOp .Or (b::es) pos) (aF C mb)):PDe X (.BoolOp .Or (a::b::es) pos) (aF C (.or ma mb)):=by
 refine(Ek o j).imp λr Q g=>?_;obtain⟨y,h,q⟩:=g;obtain⟨n,d,k,m,f,l,h⟩:=bn3 h;rw[nO l]at f;refine⟨n,m,k,f,?_⟩;cases k with
 |false=>rw[if_neg aal]at h ⊢;exact⟨y,h,q⟩
 |true=>rw[if_pos rfl]at h ⊢;cases h;exact q
def v_not(n:PDe X a (aF C ma)):PDe X (.UnaryOp .Not a pos) (aF C (.not ma)):=by refine(BA n).imp λo Q f=>?_;obtain⟨y,h,q⟩:=f;obtain⟨m,d,k,l,j,g,h⟩:=bn3 h;cases h;exact⟨m,l,k,by rw[j,nO g],q⟩
def EV(n:PDe X a (aF C ma)):PDe X (.UnaryOp .USub a pos) (aF C (.neg ma)):=by refine(By n).imp λo Q f=>?_;obtain⟨y,h,q⟩:=f;obtain⟨m,d,k,l,j,g,h⟩:=bn3 h;cases h;exact⟨m,l,d,j,k,a9 g,q⟩
def EW(l:PDt X a (iz C ma))(f:PDw X (.BoolOp .And (b::es) pos) (iz C mb)):PDw X (.BoolOp .And (a::b::es) pos) (iz C (.and ma mb)):=by
 refine(xM l f).imp λm Q d=>?_;obtain⟨y,h,q⟩:=d;obtain⟨j,g,h⟩:=bnd h;refine⟨j,g,?_⟩;split at h
 ·rename_i k;rw[if_pos k];exact⟨y,h,q⟩
 ·rename_i k;rw[if_neg k];cases h;exact q
def Hx(l:PDt X a (iz C ma))(f:PDw X (.BoolOp .Or (b::es) pos) (iz C mb)):PDw X (.BoolOp .Or (a::b::es) pos) (iz C (.or ma mb)):=by
 refine(BC l f).imp λm Q d=>?_;obtain⟨y,h,q⟩:=d;obtain⟨j,g,h⟩:=bnd h;refine⟨j,g,?_⟩;split at h
 ·rename_i k;rw[if_pos k];cases h;exact q
 ·rename_i k;rw[if_neg k];exact⟨y,h,q⟩
def EX(j:PDt X a (iz C ma)):PDt X (.UnaryOp .Not a pos) (iz C (.not ma)):=by refine(xN j).imp λk Q d=>?_;obtain⟨y,h,q⟩:=d;obtain⟨g,f,h⟩:=bnd h;cases h;exact⟨g,f,q⟩
def EY(g:PDt X c (iz C mc))(m:PDe X a (aF C ma))(f:PDe X b (aF C mb)):PDe X (.IfExp c a b pos) (aF C (.ife mc ma mb)):=by
 refine(En g m f).imp λn Q d=>?_;obtain⟨y,h,q⟩:=d;obtain⟨l,j,h⟩:=bnd h;refine⟨l,j,?_⟩;split at h
 ·rename_i k;rw[if_pos k];exact⟨y,h,q⟩
 ·rename_i k;rw[if_neg k];exact⟨y,h,q⟩
def pD(h:Dt X.K H v d)(e:kl d=some k):AU X.K v H k:=by
 cases h with
 |non=>cases e;rfl
 |bl b=>cases e;rfl
 |int i=>cases e;rfl
 |str x=>simp[kl]at e
 |lst s t=>cases e;exact .inl ⟨_,s,by rw[DtAll.emp t]⟩
 |tup s t=>cases e;exact .inr (.inl ⟨_,s,by rw[DtAll.emp t]⟩)
theorem EZ(s:bj C m=(vt (ev C m)).2)(u:plainT e=true):PDe X e (aF C m)->PDt X e (iz C m)
 |⟨te,g,s1⟩=>⟨_,lA g (plainT_ok u),λb F σ H ρ τ θ I Q l R ⟨y,h,q⟩ k=>by
  have h':((ev C m ρ).bind λx=>(aw x.2 x.1).bind λd=>(kl d).bind λk=>some (k,x.2))=some y:=by rw[<-h,s];rfl
  obtain⟨z,d,t,B,A,w,h'⟩:=bn3 h';cases h';refine s1 b F σ H ρ τ θ (λr f=>r=z.1/\f=z.2) _ l R ⟨z,B,rfl,rfl⟩ λv J r f j D=>?_;obtain⟨g,o⟩:=D;subst g o;have n:=j.dt A;rw[l]at n;exact⟨t,pD n w,k _ _ _ j.drop q⟩⟩
def iB:PDa X [] (fF C .nil):=pda_nil.imp λd Q ⟨y,h,q⟩=>by cases h;exact q
def eJ(hs:isStar e=false)(m:PDe X e (aF C ma))(g:PDa X es (fF C mes)):PDa X (e::es) (fF C (.cons ma mes)):=by refine(ue (ax hs) m g).imp λn Q d=>?_;obtain⟨y,h,q⟩:=d;obtain⟨l,f,k,j,h⟩:=bn2 h;cases h;exact⟨l,k,f,j,q⟩
def E3{f}(m:PDa X es (fF C mes)):PDe X (.Tuple es f pos) (aF C (.tup mes)):=by refine(BD Er m).imp λn Q d=>?_;obtain⟨y,h,q⟩:=d;obtain⟨l,z,_,j,g,k,h⟩:=bn3 h;cases h;exact⟨l,j,z.1,z.2,g,gd_ok k,q⟩
def E4(l:PDa X es (fF C mes)):PDe X (.List es pos) (aF C (.lst mes)):=by refine(BE Er l).imp λm Q d=>?_;obtain⟨y,h,q⟩:=d;obtain⟨j,z,_,g,f,k,h⟩:=bn3 h;cases h;exact⟨j,g,z.1,z.2,f,gd_ok k,q⟩
def bQ:Expr->Bool
 |.Slice _ _ _ _=>true
 |_=>false
def ku(h:bQ b=false):PlainIx b:=λo i=>by cases b<;>first|rfl|cases h
def Hy(hs:bQ b=false)(t:PDe X a (aF C ma))(g:PDe X b (aF C mb)):PDe X (.Subscript a b pos) (aF C (.ix ma mb)):=by refine(Et (ku hs) t g).imp λu Q r=>?_;obtain⟨y,h,q⟩:=r;obtain⟨j,f,d,k,z,o,n,l,s,m,h⟩:=bn5 h;cases h;exact⟨j,o,f,n,k,z.1,z.2,by rw[l,a9 s],m,q⟩
def E5(t:PDe X a (aF C ma))(j:PDe X b (aF C mb)):PDe X (.BinOp a .Add b pos) (aF C (.cat ma mb)):=by refine(BJ t j).imp λu Q d=>?_;obtain⟨y,h,q⟩:=d;obtain⟨s,f,l,g,_,r,o,m,n,k,h⟩:=bn5 h;cases h;exact⟨s,r,f,o,l,g,m,n,gd_ok k,q⟩
def B6(t:PDe X a (aF C ma))(j:PDe X b (aF C mb)):PDe X (.BinOp a .Add b pos) (aF C (.catV ma mb)):=by refine(x9 t j).imp λu Q d=>?_;obtain⟨y,h,q⟩:=d;obtain⟨s,f,l,g,_,r,o,m,n,k,h⟩:=bn5 h;cases h;have k:=gd_ok k;exact⟨s,r,f,o,l,g,m,n,k.1,k.2,q⟩
def B7(G:FnD X.prog X.w X.K X.mg X.base k fa fd ps (λxs Q=>∃w,C.call f xs=some w/\Q w.1 w.2)) (n:Room k X.A) (t:Gl X x) (j:X.mg x=some (.ref fa)) (hk:PySem.W.keepIn X.K (.ref fa)=true) (v:Binds X.K fd ps []) (g:(x==("__debug__":Str))=false)
  (l:isStar e=false) (d:es.any isStar=false) (B:PDa X (e::es) (fF C mes)):PDe X (.Call (.Name x p) (e::es) [] pos) (aF C (.call f mes)):=by
 refine(xZ (ios:=C.io f) G n t j hk v g (ax l) (bM d) B).imp λD Q u=>?_;obtain⟨y,h,q⟩:=u;obtain⟨m,z,w,s,r,o,h⟩:=bn3 h;cases h;exact⟨m,s,z.1,z.2,r,w,o,q⟩
def B8:PDe X (.Dict [] [] pos) (aF C .dnew):=⟨_,tR,λb F j H n f g m Q l R ⟨y,h,q⟩ k=>λp d=>by cases h;exact k _ _ _ _ (R.push (R.wd.v5 d)) q⟩
end
end
section
section
variable{X:Cx}{K:Waa}
def uM(t:X.calm=true):ck X (.builtin "any") (λxs H Q=>∃(p:Addr) (a:List Bool),xs=[.ref p]/\SqL X.K H p (a.map V.bl)/\Q (.bl (a.any id)) H):=by
 intro j s M H xs y Q I r h;obtain⟨p,a,rfl,o,q⟩:=h;obtain⟨u,rfl,w⟩:=vals1 r;cases w;obtain⟨c,l,d,J⟩:=I.list o;obtain⟨m,F⟩:=I.fr;have f:p<s.heap.objs.size:=by obtain⟨_,_,e,_⟩:=d;exact adc e
 have k:=xq l;refine call_any_walk (adH d.isList ?_);refine⟨s.heap.objs.size,[s.heap.objs.size,p],[s.heap.objs.size],c.toArray.size,_,_,λi=>(a[i]?).getD false,rfl,Walks.list (A:=X.A.in1) (I.ok.hd t) _ p (aar f) c.toArray,
  ⟨⟨_,adf _ rfl,rfl,rfl⟩,d.isList.push _⟩,λi v L B D n g=>?_,λz C x=>?_⟩
 ·obtain⟨b,e,rfl⟩:=k.get i v (by simpa using n);simp only[e,Option.getD_some]at g;exact ado g
 ·have e:((List.range c.toArray.size).any λi=>(a[i]?).getD false)=a.any id:=by rw[aaz,k.length];exact LSm.range_any a
  rw[e];exact⟨.bl (a.any id),H,I.kept (LSm.kept_iter x),rfl,q⟩
def B9:bootBuiltins "any"=some (.builtin "any"):=by decide +kernel
def se:bootBuiltins "sorted"=some (.builtin "sorted"):=by decide +kernel
def dAny:DRn:=λc Q=>∃a b,c=[.list a]/\allB a=some b/\Q (.bool (b.any id))
def sc_any:SndCB K (λxs H Q=>∃(p:Addr) (a:List Bool),xs=[.ref p]/\SqL K H p (a.map V.bl)/\Q (.bl (a.any id)) H) dAny:=by
 rintro H d i g Q c ⟨f,a,rfl,e,b⟩ q;have:=lM e;subst this;cases c with
 |cons h t=>
  cases t;cases h with
  |lst s t=>rw[t.bls]at s;exact⟨_,a,rfl,s,q _ _ (.bl _) b⟩
theorem cP:∀{ns:List Int}{us:List Value},Vals (ns.map V.int) us->IntsAre us ns
 |[],_,r=>by rw[aaC]at r;cases r;exact .nil
 |n::ns,_,r=>by
  rw[aam]at r;cases r with
  |cons r1 a=>obtain⟨t,rfl⟩:=r1;exact .cons n t (cP a)
def uN:bootBuiltins "set"=some (.type "set"):=by decide +kernel
end
def IG(T:String):PyData->Bool
 |.bool _=>T == "bool" || T == "int"
 |.int _=>T == "int"
 |.str _=>T == "str"
 |.list _=>T == "list"
 |.tuple _=>T == "tuple"
 |_=>false
inductive KindT:String->Prop
 |int:KindT "int" |bool:KindT "bool" |str:KindT "str" |list:KindT "list" |tuple:KindT "tuple"
def Dt.kind{K:Waa}(h:Dt K H v d)(k:KindT T):∃n,Ty K H v n/\PySem.W.kitOne K (.type n) (.type T)=some (IG T d):=by
 cases h with
 |non=>exact⟨_,.non,by cases k<;>first|exact kit_ni K|exact kit_nb K|exact kit_ns K|exact kit_nl K|exact kit_nt K⟩
 |bl b=>exact⟨_,.bl b,by cases k<;>first|exact kit_bi K|exact kit_same K _|exact kit_bs K|exact kit_bl K|exact kit_bt K⟩
 |int i=>exact⟨_,.int i,by cases k<;>first|exact kit_same K _|exact kit_ib K|exact kit_is K|exact kit_il K|exact kit_it K⟩
 |str x=>exact⟨_,.str x,by cases k<;>first|exact kit_same K _|exact kit_si K|exact kit_sb K|exact kit_sl K|exact kit_st K⟩
 |lst s t=>exact⟨_,.lst s,by cases k<;>first|exact kit_same K _|exact kit_li K|exact kit_lb K|exact kit_ls K|exact kit_lt K⟩
 |tup s t=>exact⟨_,.tup s,by cases k<;>first|exact kit_same K _|exact kit_ti K|exact kit_tb K|exact kit_ts K|exact kit_tl K⟩
def Jp(f:Bl):DRn:=λa Q=>∃d,EJ f a=some d/\Q d
def SndCB.imp{K:Waa}(h:SndCB K r2 r)(f:∀ds Q,r' ds Q->r ds Q):SndCB K r2 r':=λH a ds b Q c z q=>h H a ds b Q c (f _ _ z) q
def DtAll.ints'{K:Waa}{ns:List Int}(h:DtAll K H vs (ns.map PyData.int)):vs=ns.map V.int:=by
 induction ns generalizing vs with
 |nil=>cases h;rfl
 |cons n ns a=>cases h with|cons r t=>cases r;rw[aam,a t]
section
variable{X:Cx}{K:Waa}
theorem gf:∀{ds:List PyData}{ns:List Int},iw ds=some ns->ds=ns.map PyData.int
 |[],_,h=>by cases h;rfl
 |d::ds,ns,h=>by obtain⟨i,r,b,a,h⟩:=bn2 h;cases h;rw[a9 b,gf a,aam]
end
def Ca:Bl->Str
 |.len=>"len" |.abs=>"abs" |.min=>"min" |.int=>"int" |.any=>"any"
section
variable{X:Cx}{C:Ct}{a b c e:Expr}{es:List Expr}{ma mb mc:E}{mes:Es}{pos p p1 p2 p3:Pos}{x:Str}{i:Nat}
theorem E6{f:Bl}(B:X.calm=true)(t:Gl X (Ca f))(r:X.mg (Ca f)=none)(s:isStar e=false)(g:es.any isStar=false)(u:PDa X (e::es) (fF C mes)):PDe X (.Call (.Name (Ca f) p) (e::es) [] pos) (aF C (.blt f mes)):=by
 have v:PDe X (.Call (.Name (Ca f) p) (e::es) [] pos) (Gj (Jp f) (fF C mes))->PDe X (.Call (.Name (Ca f) p) (e::es) [] pos) (aF C (.blt f mes)):=λh=>h.imp λI Q ⟨y,h,q⟩=>by obtain⟨F,o,d,k,A,H,h⟩:=bn3 h;cases h;exact⟨F,k,o,A,d,H,q⟩
 refine v ?_;cases f with
 |len=>refine fA lB (sc_len.imp λo Q m=>?_) t r nv (by decide) (by decide) (ax s) (bM g) u;obtain⟨d,h,q⟩:=m;obtain⟨z,n,l,k,h⟩:=bn2 h;cases h;exact⟨z,n,one1_ok l,k,q⟩
 |abs=>refine fA s9 (sc_abs.imp λo Q m=>?_) t r Bh (by decide) (by decide) (ax s) (bM g) u;obtain⟨d,h,q⟩:=m;obtain⟨z,i,l,k,h⟩:=bn2 h;cases h;exact⟨i,by rw[one1_ok l,a9 k],q⟩
 |min=>refine fA (q9 B) (sc_min.imp λo Q m=>?_) t r Bi (by decide) (by decide) (ax s) (bM g) u;obtain⟨d,h,q⟩:=m;obtain⟨z,i,j,l,k,A,h⟩:=bn3 h;cases h;exact⟨i,j,by rw[two2_ok l,a9 k,a9 A],q⟩
 |int=>refine ug rg (sc_int.imp λo Q m=>?_) t r tO (by decide) (by decide) (ax s) (bM g) u;obtain⟨d,h,q⟩:=m;obtain⟨z,n,l,k,h⟩:=bn2 h;cases h;exact⟨z,n,one1_ok l,k,q⟩
 |any=>refine fA (uM B) (sc_any.imp λo Q m=>?_) t r B9 (by decide) (by decide) (ax s) (bM g) u;obtain⟨d,h,q⟩:=m;obtain⟨w,z,n,l,D,k,h⟩:=bn3 h;cases h;exact⟨z,n,by rw[one1_ok l,kn D],k,q⟩
def yc(g:Gl X "tuple") (o:X.mg "tuple"=none) (f:isStar e=false) (n:PDe X e (aF C ma)):PDe X (.Call (.Name "tuple" p) [e] [] pos) (aF C (.bnw .tuple ma)):=by refine(ui g o hU (by decide) (by decide) (ax f) rfl (eJ f n iB)).imp λr Q j=>?_;obtain⟨y,h,q⟩:=j;obtain⟨d,m,l,k,h⟩:=bn2 h;cases h;exact⟨([d.1],d.2),by simp only[evs,l];rfl,d.1,m,rfl,k,q⟩
theorem insI_perm(i:Int):∀l,(insI i l).Perm (i::l)
 |[]=>.refl _
 |j::r=>by
  unfold insI;split
  ·exact .refl _
  ·exact((insI_perm i r).cons j).trans (List.Perm.swap _ _ _)
theorem lY(i:Int):∀{l:List Int},l.Pairwise (·<=·)->(insI i l).Pairwise (·<=·)
 |[],_=>by simp[insI]
 |j::r,h=>by
  obtain⟨g,m⟩:=abk.mp h;unfold insI;split
  ·rename_i d;exact abk.mpr ⟨λk f=>(aac.mp f).elim (λe=>e▸d) λf=>ab3 d (g k f),h⟩
  ·rename_i d;refine abk.mpr ⟨λk f=>?_,lY i m⟩;rcases aac.mp ((insI_perm i r).mem_iff.mp f) with rfl|f
   ·omega
   ·exact g k f
theorem sortI_perm:∀l,(sortI l).Perm l
 |[]=>.refl _
 |i::r=>(insI_perm i _).trans ((sortI_perm r).cons i)
theorem gg:∀l,(sortI l).Pairwise (·<=·)
 |[]=>.nil
 |i::r=>lY i (gg r)
theorem lZ:∀{l d:List Int},l.Perm d->l.Pairwise (·<=·)->d.Pairwise (·<=·)->l=d
 |[],d,p,_,_=>by have:=p.length_eq;cases d with|nil=>rfl|cons _ _=>simp at this
 |a::l,[],p,_,_=>by have:=p.length_eq;simp at this
 |a::l,b::d,p,h,h'=>by
  obtain⟨m,j⟩:=abk.mp h;obtain⟨k,n⟩:=abk.mp h';have e:a=b:=by
   have f:a∈b::d:=p.mem_iff.mp aab;have g:b∈a::l:=p.mem_iff.mpr aab;rcases aac.mp f with e|f
   ·exact e
   ·rcases aac.mp g with e|g
    ·exact e.symm
    ·have:=m b g;have:=k a f;omega
  subst e;rw[lZ (List.Perm.cons_inv p) j n]
def iC(g:match k with|.int=>T="int" |.bool=>T="bool" |.str=>T="str" |.list=>T="list" |.tuple=>T="tuple" |.seq=>False) (I:PE X b (tC (.ty T))) (hg:Gl X "isinstance") (L:X.mg "isinstance"=none) (w:isStar a=false) (D:isStar b=false)
  (o:PDe X a (aF C ma)):PDe X (.Call (.Name "isinstance" p) [a,b] [] pos) (aF C (.isi k ma)):=by
 obtain⟨te,h,s⟩:=o;refine⟨_,cJ (tN T) hg L eP (aP h (aP I bz (ax D)) (ax w)) (by decide) (by decide) (ax w) (bM (by simp[D])),λb F P H U N O Qd Q A R ⟨y,h,q⟩ M=>?_⟩;obtain⟨l,d,Y,S,h⟩:=bn2 h;cases h;refine s b F P H U N O (λr j=>r=l.1/\j=l.2) _ A R ⟨l,Y,rfl,rfl⟩ λv m r j z hZ=>?_;obtain⟨o,J⟩:=hZ;subst o J;have B:=z.dt S;rw[A]at B;have f:∀(t:KindT T),IG T d=EI k d->∃x n b,[v,V.ty T]=[x,V.ty T]/\Ty X.K m x n/\PySem.W.kitOne X.K (.type n) (.type T)=some b/\Q (.bl b) m:=λt ek=>by obtain⟨n,Z,u⟩:=B.kind t;rw[ek]at u;exact⟨v,n,_,rfl,Z,u,M _ m _ _ (z.drop.sc (.bl _)) q⟩
 cases k with
 |int=>subst g;exact f .int (by cases d<;>rfl)
 |bool=>subst g;exact f .bool (by cases d<;>rfl)
 |str=>subst g;exact f .str (by cases d<;>rfl)
 |list=>subst g;exact f .list (by cases d<;>rfl)
 |tuple=>subst g;exact f .tuple (by cases d<;>rfl)
 |seq=>exact g.elim
def Dt.kind2{K:Waa}(h:Dt K H v d):∃n,Ty K H v n/\PySem.W.kitAny K (.type n) [.type "list",.type "tuple"]=some (EI .seq d):=by
 cases h with
 |non=>exact⟨_,.non,eF K (kit_nl K) (kit_nt K)⟩
 |bl b=>exact⟨_,.bl b,eF K (kit_bl K) (kit_bt K)⟩
 |int i=>exact⟨_,.int i,eF K (kit_il K) (kit_it K)⟩
 |str x=>exact⟨_,.str x,eF K (kit_sl K) (kit_st K)⟩
 |lst s t=>exact⟨_,.lst s,hJ K (.inl (kit_same K _))⟩
 |tup s t=>exact⟨_,.tup s,hJ K (.inr ⟨kit_tl K,kit_same K _⟩)⟩
def Cb{x1} (I:PE X b (tC (.ty "list"))) (O:PE X c (tC (.ty "tuple"))) (Y:Gl X "isinstance") (L:X.mg "isinstance"=none) (o:isStar a=false) (hb:isStar b=false) (U:isStar c=false)
  (m:PDe X a (aF C ma)):PDe X (.Call (.Name "isinstance" p) [a,.Tuple [b,c] x1 p1] [] pos) (aF C (.isi .seq ma)):=by
 obtain⟨te,h,s⟩:=m;refine⟨_,cJ (rE "list" "tuple") Y L eP (aP h (aP (m5 (aP I (aP O bz (ax U)) (ax hb))) bz (ax rfl)) (ax o)) (by decide) (by decide) (ax o) (bM rfl),λb F w H S t u Qd Q A R ⟨y,h,q⟩ M=>?_⟩;obtain⟨g,d,T,P,h⟩:=bn2 h;cases h;refine s b F w H S t u (λr f=>r=g.1/\f=g.2) _ A R ⟨g,T,rfl,rfl⟩ λv W r f j Z=>?_;obtain⟨m,J⟩:=Z;subst m J;refine⟨by show 2<=sizeLine;decide,λz N=>?_⟩;have D:Rel b F w (upd W z (.tup [.ty "list",.ty "tuple"])) g.2 (v::t) (g.1::u):=⟨j.wf,j.al,j.wff,j.wd.new N⟩
 have B:=D.dt P;rw[A]at B;obtain⟨n,l,ek⟩:=B.kind2;have k:=M (.bl (EI .seq d)) _ (.val (.fz (.bool (EI .seq d)))) _ (D.drop.sc (.bl _)) q;exact⟨v,_,_,z,rfl,ar,l,ek,k⟩
end
end
section
def eN(t:Tg):DG:=λx b Q=>∃a,aX t x b=some a/\Q a
structure Sto (X:Cx)(W:Nat->Prop)(m:Nat)(i:Nat)(x:Str):Prop where
 hN:X.N[i]?=some x
 loc:Loc X.env.scope x
 fn:X.fn x=true\/X.env.scope.names.lookup x=some .local
 lt:i<m
 nw:¬ W i
section
variable{X:Cx}{W:Nat->Prop}{m:Nat}{C:Ct}{a b c e:Expr}{es:List Expr}{ma mb mc:E}{mes:Es}{pos p p1 p2 p3:Pos}{x:Str}{i:Nat}
theorem PDg.imp:PDg X W m e d->(∀x ρ Q,d' x ρ Q->d x ρ Q)->PDg X W m e d'
 |⟨te,h,s⟩,f=>⟨te,h,λb F σ H ρ τ θ v x j Q g n R k q=>s b F σ H ρ τ θ v x j Q g n R (f _ _ _ k) q⟩
theorem PDgs.imp:PDgs X W m es d->(∀x ρ Q,d' x ρ Q->d x ρ Q)->PDgs X W m es d'
 |⟨te,h,s⟩,f=>⟨te,h,λb F σ H ρ τ θ v x k Q j n g R l q=>s b F σ H ρ τ θ v x k Q j n g R (f _ _ _ l) q⟩
theorem PDg.or:PDg X W m e d->PDg X W m e d'->PDg X W m e (λx ρ Q=>d x ρ Q\/d' x ρ Q)
 |⟨te,h,s⟩,⟨te',h',s'⟩=>⟨λv σ H Q=>te v σ H Q\/te' v σ H Q,λf s σ H v u Q I r z=>z.elim (h f s σ H v u Q I r) (h' f s σ H v u Q I r),λb F σ H ρ τ θ v x j Q k n R g q=>g.imp (λg=>s b F σ H ρ τ θ v x j Q k n R g q) λg=>s' b F σ H ρ τ θ v x j Q k n R g q⟩
def Hz(f:X.N.Nodup)(s:Sto X W m i x):PDg X W m (.Name x pos) (eN (.nm i)):=by refine(lN s.nw f s.hN s.loc s.lt s.fn).imp λy k Q g=>?_;obtain⟨j,h,q⟩:=g;obtain⟨_,d,h⟩:=bnd h;cases h;exact⟨gd_ok d,q⟩
inductive Stos (X:Cx)(W:Nat->Prop)(m:Nat):List Nat->List Expr->Prop
 |nil:Stos X W m [] []
 |cons {i is x pos es}:Sto X W m i x->Stos X W m is es->Stos X W m (i::is) (.Name x pos::es)
theorem nQ(h:X.N.Nodup):∀{d:List Nat}{es:List Expr},Stos X W m d es->PDgs X W m es (λxs ρ Q=>xs.length=d.length/\(∀i∈d,i<ρ.length)/\Q (dJ d xs ρ))
 |[],_,.nil=>pdgs_nil.imp λxs ρ Q ⟨f,g,q⟩=>by
   cases xs with
   |nil=>exact⟨rfl,q⟩
   |cons _ _=>simp at f
 |i::is,_,.cons s t=>(rP rfl (lN s.nw h s.hN s.loc s.lt s.fn) (nQ h t)).imp λxs ρ Q ⟨f,g,q⟩=>by
   cases xs with
   |nil=>simp at f
   |cons z zs=>exact⟨z,zs,rfl,g i aab,by simpa using f,λj k=>by rw[ack];exact g j (aah _ k),q⟩
def fG(h:Stos X W m ts es):(assignEach es X.env).length=ts.length/\(assignEach es X.env).findIdx? (·.1)=none:=by
 induction h with
 |nil=>exact⟨rfl,rfl⟩
 |@cons i is x pos es s t ih=>have e:assignEach (.Name x pos::es) X.env=(false,assign (.Name x pos) X.env)::assignEach es X.env:=rfl;rw[e];refine⟨by simp[ih.1],?_⟩;rw[aa3];simp[ih.2]
def uO(h:unpA y=some xs):unpT y=some xs\/unpL y=some xs:=by
 unfold unpA at h;cases d:unpT y with
 |some f=>rw[d]at h;exact .inl h
 |none=>rw[d]at h;exact .inr h
def HA(l:X.calm=true)(g:X.N.Nodup)(h:Stos X W m ts es):PDg X W m (.Tuple es k pos) (eN (.tp ts)):=by
 refine((xR l (fG h).1 (fG h).2 (nQ g h)).or (xS l (fG h).1 (fG h).2 (nQ g h))).imp λy r Q n=>?_;obtain⟨o,h,q⟩:=n;obtain⟨j,_,f,d,h⟩:=bn2 h;cases h;have d:=gd_ok d;rcases uO f with f|f
 ·exact .inl ⟨j,f,d.1,d.1,d.2,q⟩
 ·exact .inr ⟨j,f,d.1,d.1,d.2,q⟩
def PI.or(h:PI X tg e t)(h':PI X tg e t'):PI X tg e (λσ H R=>t σ H R\/t' σ H R):=λd s σ H R I z=>z.elim (h d s σ H R I) (h' d s σ H R I)
theorem PDi.or:PDi X tg e d->PDi X tg e d'->PDi X tg e (λρ Q=>d ρ Q\/d' ρ Q)
 |⟨te,h,s⟩,⟨te',h',s'⟩=>⟨_,PI.or h h',λb F σ H ρ τ θ j Q g R f q=>f.imp (λf=>s b F σ H ρ τ θ j Q g R f q) λf=>s' b F σ H ρ τ θ j Q g R f q⟩
def Cc(d:ev C ma ρ=some xa):evs C (.cons ma .nil) ρ=some ([xa.1],xa.2):=by show ((ev C ma ρ).bind _)=_;rw[d];rfl
def HB(f:ev C ma ρ=some xa)(d:ev C mb xa.2=some xb):evs C (.cons ma (.cons mb .nil)) ρ=some ([xa.1,xb.1],xb.2):=by show ((ev C ma ρ).bind _)=_;rw[f];show ((evs C (.cons mb .nil) xa.2).bind _)=_;rw[Cc d];rfl
def iD(e:aw ρ r=some d):ka ρ [r]=some [d]:=by show ((aw ρ r).bind _)=_;rw[e];rfl
def zQ(e:frz1 ρ r=some z)(h:z.1=d):frzL ρ [r]=some ([d],z.2):=by show ((frz1 ρ r).bind _)=_;rw[e,<-h];rfl
def E7(e:frz1 ρ r=some z)(d:frz1 z.2 r'=some w):frzL ρ [r,r']=some ([z.1,w.1],w.2):=by show ((frz1 ρ r).bind _)=_;rw[e];show ((frzL z.2 [r']).map _)=_;rw[zQ d rfl];rfl
def zR(h:nN d=some ds):∃l:Bool,EC d=some (l,ds):=(iy h).elim (λh=>⟨true,h▸rfl⟩) λh=>⟨false,h▸rfl⟩
def E8(l:PDe X e (aF C ma)):PDi X tg e (dQ C (.seq ma)):=by
 refine((uv l).or (xU l)).imp λr Q n=>?_;obtain⟨y,h,q⟩:=n;obtain⟨g,z,s,k,j,f,h⟩:=bn3 h;obtain⟨d,o⟩:=z;cases h;rcases iy f with f|f<;>simp only at f<;>subst f
 ·exact .inl ⟨g,k,_,_,j,q⟩
 ·exact .inr ⟨g,k,_,_,j,q⟩
def E9(l:Gl X "range") (t:X.mg "range"=none) (hs:isStar a=false) (s:PDe X a (aF C ma)):PDi X tg (.Call (.Name "range" p) [a] [] pos) (dQ C (.rg1 ma)):=by refine(nI l t (ax hs) (eJ hs s iB)).imp λu Q n=>?_;obtain⟨y,h,q⟩:=n;obtain⟨k,d,j,_,r,g,o,f,h⟩:=bn4 h;cases h;have f:=gd_ok f;rw[a9 o]at g;exact⟨([k.1],k.2),Cc r,j,iD g,f.1,f.2,q⟩
def Fb{j} (f:Gl X "enumerate") (s:X.mg "enumerate"=none) (hs:isStar a=false) (r:PDe X a (aF C ma)):PDi X (.Tuple es j tpos) (.Call (.Name "enumerate" p) [a] [] pos) (dQ C (.enm ma)):=by refine(uw f s (ax hs) (eJ hs r iB)).imp λt Q g=>?_;obtain⟨y,h,q⟩:=g;obtain⟨d,z,o,n,l,k,h⟩:=bn3 h;cases h;exact⟨([d.1],d.2),Cc n,o,z.2,zQ l (kn k),q⟩
def Fc{D} (v:Gl X "zip") (l:X.mg "zip"=none) (hs:isStar a=false) (d:isStar b=false) (H:PDe X a (aF C ma)) (g:PDe X b (aF C mb)):PDi X (.Tuple es D tpos) (.Call (.Name "zip" p) [a,b] [] pos) (dQ C (.zip ma mb)):=by refine(xV v l (by rw[ax hs,ax d];rfl) (ax d) (eJ hs H (eJ d g iB))).imp λL Q B=>?_;obtain⟨y,h,q⟩:=B;obtain⟨J,I,z,w,n,u,f,t,o,r,h⟩:=bn5 h;obtain⟨es,F,h⟩:=bnd h;cases h;obtain⟨A,k⟩:=zR r;obtain⟨s,j⟩:=zR F;exact⟨_,HB u f,_,_,A,s,n,es,w.2,E7 t o,k,j,q⟩
def be(C:Ct)(j:Tg)(f:Eo)(g:E)(d:PyData)(ρ:DEnv):Option (List PyData×DEnv):=
 (aX j (.fz d) ρ).bind λh=>(Gq C f h).bind λk=>if k.1=true then (ev C g k.2).bind λy=>(frz1 y.2 y.1).bind λq=>some ([q.1],q.2) else some ([],k.2)
def zT(C:Ct)(d:Eo)(f:E):DC:=λg Q=>∃w,((Gq C d g).bind λk=>if k.1=true then (ev C f k.2).bind λy=>(frz1 y.2 y.1).bind λq=>some (([q.1]:List PyData),q.2) else some ([],k.2))=some w/\Q w.1 w.2
theorem PDc.imp:PDc Y ifs elt d->(∀ρ Q,d' ρ Q->d ρ Q)->PDc Y ifs elt d'
 |⟨te,h,s⟩,f=>⟨te,h,λb F σ H ρ vs rs D out l Q k j g R n q=>s b F σ H ρ vs rs D out l Q k j g R (f _ _ n) q⟩
def yd(j:PDe Y elt (aF C me)):PDc Y [] elt (zT C .none me):=(rT j).imp λd Q ⟨w,h,q⟩=>by have h:((ev C me d).bind λy=>(frz1 y.2 y.1).bind λq=>some (([q.1]:List PyData),q.2))=some w:=h;obtain⟨y,z,g,f,h⟩:=bn2 h;cases h;exact⟨y,g,z.1,z.2,f,q⟩
def Cd(g:PDt Y c (iz C mc))(n:PDe Y elt (aF C me)):PDc Y [c] elt (zT C (.some mc) me):=(uB g n).imp λo Q ⟨w,h,q⟩=>by
 obtain⟨k,f,h⟩:=bnd h;refine⟨k,f,?_⟩;by_cases d:k.1=true
 ·rw[if_pos d]at h ⊢;obtain⟨y,z,l,j,h⟩:=bn2 h;cases h;exact⟨y,l,z.1,z.2,j,q⟩
 ·rw[if_neg d]at h ⊢;cases h;exact q
def iE(step:PyData->DEnv->Option (List PyData×DEnv))(ds:List PyData)(w:List PyData×DEnv)(k:Nat)(f:ds[k]?=some d)(h:aT step (ds.drop k) out ρ=some w):∃z,step d ρ=some z/\aT step (ds.drop (k+1)) (out++z.1) z.2=some w:=by
 have g:=(aaj.mp f).1;have e:ds.drop k=d::ds.drop (k+1):=by rw[abZ g,(aaj.mp f).2]
 rw[e]at h;exact bnd h
def pF(C:Ct){j:Tg}:∀ρ Q,aF C (.comp nt fr mi j mif me) ρ Q->ph (dQ C mi) nt fr (eN j) (zT C mif me) ρ Q:=λρ Q ⟨y,h,q⟩=>by
 obtain⟨x,_,z,w,B,r,v,s,h⟩:=bn4 h;cases h;refine⟨x,B,gd_ok r,z.1,z.2,v,λk f ρ=>aT (be C j mif me) (x.1.drop k) f ρ=some w,s,λk d f ρ A g=>?_,λf ρ g=>?_⟩
 ·obtain⟨u,l,n⟩:=iE _ _ _ k A g;obtain⟨o,t,l⟩:=bnd l;exact⟨o,t,u,l,n⟩
 ·have g:aT (be C j mif me) (x.1.drop x.1.length) f ρ=some w:=g;rw[abv]at g;cases g;exact q
def Ce{d:Tg}(j:X.calm=true)(S:CompScope N nt fr X.N scope X.env.scope)(hs:∀x,foldedSetIterable iter X.env x=pure x)(f:PDi X tg iter (dQ C mi))(g:∀c:CC,PDg (aY X N scope c) Ff nt tg (eN d))(h:∀c:CC,PDc (aY X N scope c) ifs elt (zT C mif me)):
  PDe X (.ListComp elt [⟨tg,iter,ifs,0⟩] scope pos) (aF C (.comp nt fr mi d mif me)):=(xY j S hs f g h).imp (pF C)
end
end
section
def Cg(D:DEnds)(ρ:DEnv):Fl->Prop
 |.nx=>D.nx ρ|.bk=>D.bk ρ|.ct=>D.ct ρ|.rt x=>D.rt x ρ
def gh(C:Ct)(s:S'):DS:=λD a=>∃x,cE C s a=some x/\Cg D x.2 x.1
def ky(C:Ct)(s:Ss):DS:=λD a=>∃x,aG C s a=some x/\Cg D x.2 x.1
section
variable{b:Bs}{F:List Fr}{σ:St}{H H':Hp}{ρ:DEnv}{τ us:List V}{θ:List OR}{zs:List OD}{v u:V}{x y:OD}{i:Nat}{ks:List Nat}
def Rel.open(R:Rel b F σ H ρ (us++τ) (zs.map OR.val++θ))(a:us.length=zs.length)(e:ρ[i]?.join=some x):∃v,σ[i]?=some (some v)/\Wd b H (us.zip zs++((v,x)::(stk τ θ++(flat σ (ρ.set i none)++ff F)))):=by obtain⟨v,c,w⟩:=R.slot (join_some e);refine⟨v,c,w.perm ?_⟩;rw[aB (by simpa using a),cp a,aad];exact aax.symm
def Rel.close(R:Rel b F σ H ρ τ θ)(ev:σ[i]?=some (some v))(w:Wd b H' ((v,x)::(stk τ θ++(flat σ (ρ.set i none)++ff F)))):Rel b F σ H' (ρ.set i (some x)) τ θ:=Rel.back R.wf R.al R.wff ev w
def Rel.rest(R:Rel b F σ H ρ (us++τ) (zs.map OR.val++θ))(a:us.length=zs.length):Rel b F σ H ρ τ θ:=R.drops (by simpa using a)
end
section
variable{X:Cx}{W:Nat->Prop}{m:Nat}{C:Ct}{a b c e:Expr}{es:List Expr}{sts s1 s2:List Stmt}{st:Stmt}{ma mb mc:E}{mes:Es}{ms:S'}{mss ma' mb':Ss}{pos p p1 p2 p3 pos':Pos}{x:Str}{i:Nat}
theorem PDs.imp:PDs X W st d->(∀D ρ,d' D ρ->d D ρ)->PDs X W st d'
 |⟨te,h,s⟩,f=>⟨te,h,λb F σ H ρ τ θ g D j n R k E=>s b F σ H ρ τ θ g D j n R (f _ _ k) E⟩
theorem PDss.imp:PDss X W sts d->(∀D ρ,d' D ρ->d D ρ)->PDss X W sts d'
 |⟨te,h,s⟩,f=>⟨te,h,λb F σ H ρ τ θ g D j n R k E=>s b F σ H ρ τ θ g D j n R (f _ _ k) E⟩
def Ci:PDss X W [] (ky C .nil):=pdss_nil.imp λD d ⟨y,h,q⟩=>by cases h;exact q
def ye(j:PDs X W st (gh C ms))(g:PDss X W sts (ky C mss)):PDss X W (st::sts) (ky C (.cons ms mss)):=by
 refine(rO j g).imp λD o n=>?_;obtain⟨y,h,q⟩:=n;obtain⟨z,f,h⟩:=bnd h;obtain⟨l,k⟩:=z;refine⟨λd=>l=.nx/\d=k,λd ⟨j,g⟩=>?_,?_⟩
 ·subst j g;exact⟨y,h,q⟩
 ·cases l
  ·exact⟨_,f,rfl,rfl⟩
  ·cases h;exact⟨_,f,q⟩
  ·cases h;exact⟨_,f,q⟩
  ·cases h;exact⟨_,f,q⟩
def Cj:PDs X W (.Continue pos) (gh C .cont):=pds_cont.imp λD d ⟨y,h,q⟩=>by cases h;exact q
def fe:Expr->Bool
 |.ListComp _ _ _ _=>true|.SetComp _ _ _ _=>true|.DictComp _ _ _ _ _=>true
 |_=>false
def iF(h:fe e=false):swapsWith e t l env=pure false:=by cases e<;>first|rfl|cases h
def HC(hs:fe e=false)(g:PDe X e (aF C ma)):PDs X W (.Expr e pos) (gh C (.ex ma)):=by refine(uj (iF hs) g).imp λD j d=>?_;obtain⟨y,h,q⟩:=d;obtain⟨z,f,h⟩:=bnd h;cases h;exact⟨z,f,q⟩
def Fd(j:PDe X e (aF C ma)):PDs X W (.Return (some e) pos) (gh C (.ret ma)):=by refine(xO j).imp λD k d=>?_;obtain⟨y,h,q⟩:=d;obtain⟨z,w,g,f,h⟩:=bn2 h;cases h;exact⟨z,g,w.1,w.2,f,q⟩
def HD(j:PDt X c (iz C mc))(l:PDss X W s1 (ky C ma'))(g:PDss X W s2 (ky C mb')):PDs X W (.If c s1 s2 pos) (gh C (.iff mc ma' mb')):=by
 refine(BK j l g).imp λD n f=>?_;obtain⟨y,h,q⟩:=f;obtain⟨z,k,h⟩:=bnd h;refine⟨z,k,?_⟩;by_cases d:z.1=true
 ·rw[if_pos d]at h ⊢;exact⟨y,h,q⟩
 ·rw[if_neg d]at h ⊢;exact⟨y,h,q⟩
def zU(f:X.N.Nodup)(s:Sto X W m i x)(hs:swapsWith e (some (.Name x pos')) pos.line X.env=pure false)(l:PDe X e (aF C ma)):PDs X W (.Assign [.Name x pos'] e pos) (gh C (.set i ma)):=by refine(xP s.nw f s.hN s.loc hs s.fn l).imp λD n g=>?_;obtain⟨y,h,q⟩:=g;obtain⟨z,w,_,k,j,d,h⟩:=bn3 h;cases h;exact⟨z,k,w.1,w.2,j,gd_ok d,q⟩
def Fe(hs:swapsWithSole [tg] e pos.line X.env=pure false)(f:swappedStores [tg] e X.env=pure none)(l:isStar tg=false)(r:PDe X e (aF C ma))(j:PDg X W m tg (eN t)):PDs X W (.Assign [tg] e pos) (gh C (.asg t ma)):=by refine(xT hs f (by cases tg<;>first|rfl|cases l) r j).imp λD s g=>?_;obtain⟨y,h,q⟩:=g;obtain⟨z,w,d,o,n,k,h⟩:=bn3 h;cases h;exact⟨z,o,w.1,w.2,n,d,k,q⟩
theorem Fg(hp:PassesOwn (model X.prog X.w) X.A X.env X.xe)(hc:X.calm=true)(hs:∀x,foldedSetIterable iter X.env x=pure x)(hi:PDi X tg iter (dQ C mi))(hg:PDg X W m tg (eN t))(hb:PDss X W sts (ky C mss)):PDs X W (.For tg iter sts [] pos) (gh C (.fr t mi mss)):=by
 obtain⟨_,k,s1⟩:=hi;obtain⟨_,j,s2⟩:=hg;obtain⟨_,h3,s3⟩:=hb;refine⟨_,AJ hp hc k j h3 hs,λb F σ H U O N Dd D hK n R ⟨y,h,q⟩ E=>?_⟩;obtain⟨x,e1,h⟩:=bnd h;refine s1 b F σ H U O N (λds f=>ds=x.1/\f=x.2) _ hK R ⟨x,e1,rfl,rfl⟩ λJ H1 ds B Z Y T nr R1 it hZ=>?_;obtain⟨k,j⟩:=hZ;subst k j;refine⟨λi mm σ H=>mm=x.1.length-i/\i<=x.1.length/\∃U,Rel b F σ H U (Z++O) (Y++N)/\bc (λd f=>(aX t (.fz d) f).bind λB=>aG C mss B) (x.1.drop i) U=some y,⟨_,rfl,aaH _,_,R1,h⟩,?_⟩;rintro i mm L H2 ⟨rfl,hi,M,R2,u⟩;obtain⟨go,S⟩:=it F L H2 M O N R2 i;by_cases s:i<x.1.length
 ·obtain⟨g1,g2⟩:=go s;have ed:x.1[i]?=some x.1[i]:=aap s;have ee:x.1.drop i=x.1[i]::x.1.drop (i+1):=abZ s;rw[ee]at u;obtain⟨w,e2,u⟩:=bnd u;obtain⟨P,e3,e2⟩:=bnd e2;obtain⟨Q,l⟩:=w;refine .inr ⟨g1,λg I=>∃f,Rel b F g I f (Z++O) (Y++N)/\bc (λd f=>(aX t (.fz d) f).bind λB=>aG C mss B) (x.1.drop (i+1)) f=some y,λg I ⟨f,r,w'⟩=>⟨_,by omega,rfl,s,f,r,w'⟩,λz H3 hy=>?_⟩;have R3:=g2 z H3 x.1[i] hy ed;refine s2 b F L H3 M (Z++O) (Y++N) z _ (λf=>f=P) _ hK (NoRf.app nr.weak n) R3 ⟨P,e3,rfl⟩ λa0 H4 f R4 _ h4=>?_;subst h4;refine s3 b F a0 H4 _ (Z++O) (Y++N) ⟨λf=>Q=.nx/\f=l,λo f=>Q=.rt o/\f=l,λf=>Q=.bk/\f=l,λf=>Q=.ct/\f=l⟩ _ hK (NoRf.app nr.weak n) R4 ⟨_,e2,by cases Q<;>exact⟨rfl,rfl⟩⟩ ⟨λg I f r ⟨k,j⟩=>?_,λg I f r ⟨k,j⟩=>?_,λg I f r ⟨k,j⟩=>?_,λg I f v o r ⟨k,j⟩=>?_⟩
  ·subst k j;exact⟨_,r,u⟩
  ·subst k j;cases u;exact E.nx g I _ (r.drops T) q
  ·subst k j;exact⟨_,r,u⟩
  ·subst k j;cases u;exact E.rt g I _ v o (Rel.drops (Rel.v3 r T) T) q
 ·have e:i=x.1.length:=by omega
  subst e;rw[abv]at u;cases u;exact .inl ⟨S rfl,E.nx L H2 M (R2.drops T) q⟩
end
end
section
section
variable{X:Cx}{W:Nat->Prop}{m:Nat}{C:Ct}{a b c e:Expr}{es:List Expr}{sts s1 s2:List Stmt}{st:Stmt}{ma mb mc:E}{mes:Es}{ms:S'}{mss ma' mb':Ss}{pos p p1 p2 p3 pos' apos cpos:Pos}{x:Str}{i:Nat}
theorem Fh(hN:X.N.Nodup)(s:Sto X W m i x)(I:PDe X e (aF C ma)):PDs X W (.AugAssign (.Name x pos') (opOf o) e pos) (gh C (.aug i o ma)):=by
 have j:∀(f:Operator) (g:Int->Int->Int),Gc X f (GM g)->(∀a d r,lV o a d=some r->∃k,d=.int k/\r=g a k)->PDs X W (.AugAssign (.Name x pos') f e pos) (gh C (.aug i o ma)):=λf g ho hg=>by
  obtain⟨_,h,s1⟩:=I;refine⟨_,AF hN s.hN s.loc h ho s.fn,λb F O H A J L Z D P n R ⟨y,h,q⟩ E=>?_⟩;obtain⟨x0,U,B,l,S,M,h⟩:=bn3 h;rw[dP S,a9 M]at l
  ·obtain⟨z,dk,r,Q,T,Y,h⟩:=bn3 h;cases h;obtain⟨k,rfl,rfl⟩:=hg _ _ _ Y;obtain⟨v,ev,w⟩:=R.slot (join_some l);have hv:=w.dt rfl;cases hv;have hi:i<A.length:=(aaj.mp (join_some l)).1;refine⟨_,ev,s1 b F O H A J L (λr t=>r=z.1/\t=z.2) _ P R ⟨z,Q,rfl,rfl⟩ λv H1 r a0 u hZ=>?_⟩;obtain⟨I,h2⟩:=hZ;subst I h2;have hm:=u.dt T;cases hm;have hl:i<z.2.length:=by rw[<-u.wf.len,R.wf.len];exact hi
   exact⟨B,k,rfl,rfl,E.nx _ H1 _ ((u.drop.sc (.int (g B k))).store n hl s.nw) q⟩
 have nil:∀f,(∀a d,lV o a d=none)->PDs X W (.AugAssign (.Name x pos') f e pos) (gh C (.aug i o ma)):=λf hn=>by refine⟨_,ly,λb F O H A J L Z D P n R ⟨y,h,q⟩ E=>?_⟩;obtain⟨x0,U,B,z,dk,l,S,M,Q,T,h⟩:=bn5 h;rw[hn]at h;cases h
 cases o with
 |add=>exact j _ _ AG λa d r h=>by cases d<;>cases h;exact⟨_,rfl,rfl⟩
 |sub=>exact j _ _ AH λa d r h=>by cases d<;>cases h;exact⟨_,rfl,rfl⟩
 |_=>exact nil _ λa d=>rfl
def Wd.unpL0{b:Bs}(w:Wd b H ((v,.lst cs)::L)):∃a vs,v=.ref a/\H a=some (.lst vs)/\vs.length=cs.length/\Wd b H (vs.zip cs++L):=by
 obtain⟨l,g,j,f⟩:=w.out;have h:=w.q7 g;cases g with
 |@cons _ _ A _ _ B0 r t=>
  cases r with
  |@lst a vs _ B h1 h2=>have d:∀c,(c∈B++B0\/b.S0 c)->(c∈a::B++B0\/b.S0 c):=λc z=>z.imp (λz=>by simp at z ⊢;exact .inr z) id;exact⟨a,vs,rfl,h1,h2.len,⟨⟨_,Ows.step (Kp.refl _ _) (λc z=>.inl (d c z)) h (λ_ _=>rfl) (OwL.kq (OwL.j1 h2) t),(aaA.mp j).2,λc k=>f c (aah _ k)⟩,w.fr,w.s0,w.nt⟩⟩
end
end
section
section
variable{b:Bs}{S S':Addr->Prop}{H H1 H':Hp}{L L':List (V×OD)}{v u u' w w':V}{x y z z' y':OD}{d:PyData}{ks:List Nat}{k:Nat}
def Chn.det(h:Chn b H v x ks u y)(h':Chn b H v x ks u' y'):u=u'/\y=y':=by
 induction ks generalizing v x with
 |nil=>cases h;cases h';exact⟨rfl,rfl⟩
 |cons k ks c=>
  cases h with
  |cons e f=>
   cases h' with
   |cons j a=>obtain⟨i,g⟩:=Chd.det e j;subst i g;exact c f a
def Chn.snoc(h:Chn b H v x ks u y)(c:Chd b H u y k w z):Chn b H v x (ks++[k]) w z:=by
 induction ks generalizing v x with
 |nil=>cases h;exact .cons c .nil
 |cons k ks f=>cases h with|cons a e=>exact .cons a (f e)
def Chn.unsnoc(h:Chn b H v x (ks++[k]) w z):∃u y,Chn b H v x ks u y/\Chd b H u y k w z:=by
 induction ks generalizing v x with
 |nil=>cases h with|cons c t=>cases t;exact⟨_,_,.nil,c⟩
 |cons k ks a=>
  cases h with
  |cons e g=>obtain⟨u,y,i,f⟩:=a g;exact⟨u,y,.cons e i,f⟩
theorem OD.pa:∀{ks:List Nat}{x:OD},x.at ks=some y->y.kids[k]?=some z->x.at (ks++[k])=some z
 |[],x,e,h=>by simp only[OD.at]at e;cases e;simp[OD.at,h]
 |j::ks,x,e,h=>by
  simp only[OD.at,aaP]at e ⊢;cases a:x.kids[j]? with
  |none=>rw[a]at e;cases e
  |some q=>rw[a]at e;exact OD.pa e h
def setKid_self(h:x.kids[k]?=some z):OD.dv k z x=x:=by cases x<;>simp only[OD.kids]at h<;>first|(simp at h;done)|(simp only[OD.dv];rw[bI h])
theorem OD.rr:∀{ks:List Nat}{x:OD},x.at ks=some y->OD.put y ks x=x
 |[],x,e=>by simp only[OD.at]at e;cases e;rfl
 |j::ks,x,e=>by
  simp only[OD.at,OD.put]at e ⊢;cases a:x.kids[j]? with
  |none=>rfl
  |some q=>rw[a]at e;simp only;rw[OD.rr e];exact setKid_self a
theorem path_at:∀{ps:List Acc}{ρ:DEnv}{i:Nat}{p:OD×List Nat×OD},ak ρ i ps=some p->ρ[i]?.join=some p.1/\p.1.at p.2.1=some p.2.2
 |[],ρ,i,p,h=>by obtain⟨x,c,h⟩:=bnd h;cases h;exact⟨c,rfl⟩
 |a::ps,ρ,i,p,h=>by obtain⟨q,k,z,c,j,f,h⟩:=bn3 h;cases h;obtain⟨g,e⟩:=path_at c;exact⟨g,OD.pa e f⟩
def Wd.way(w:Wd b H ((v,x)::L))(e:x.at ks=some y):∃u,Chn b H v x ks u y:=by
 obtain⟨g,c,h,f⟩:=w.out;cases c with
 |cons r t=>obtain⟨u,B,i,a,_⟩:=Ow.path r e;exact⟨u,a⟩
theorem Wd.u0(w:Wd b H ((v,x)::L))(e:x.at ks=some y)(ch:Chn b H v x ks u y)(f:y.kids[k]?=some z):∃q,Chd b H u y k q z:=by obtain⟨q,c⟩:=w.way (OD.pa e f);obtain⟨u',y',i,a⟩:=Chn.unsnoc c;obtain⟨h,g⟩:=Chn.det ch i;subst h g;exact⟨q,a⟩
def Ext(H H':Hp):Prop:=∀a o,H a=some o->H' a=some o
def Ext.refl(H:Hp):Ext H H:=λ_ _ h=>h
def Ext.trans(h:Ext H H1)(h':Ext H1 H'):Ext H H':=λa o e=>h' a o (h a o e)
def Ext.upd(e:H p=none):Ext H (upd H p o):=λa q h=>by
 by_cases z:a=p
 ·subst z;rw[e]at h;cases h
 ·rw[upd_ne z];exact h
def Chd.ext(E:Ext H H')(h:Chd b H v x k w z):Chd b H' v x k w z:=by
 cases h with
 |lst f e c a=>exact .lst (E _ _ f) e c a
 |tup f e c a=>exact .tup (E _ _ f) e c a
 |dic f e g c a=>exact .dic (E _ _ f) e g c a
 |obj f e g c a=>exact .obj (E _ _ f) e g c a
def Chn.ext(E:Ext H H')(h:Chn b H v x ks u y):Chn b H' v x ks u y:=by
 induction ks generalizing v x with
 |nil=>cases h;exact .nil
 |cons k ks e=>cases h with|cons a c=>exact .cons (a.ext E) (e c)
end
def HE(K:Waa)(f:TE)(i:Nat)(ps:List Acc):Prop:=∀(b:Bs) (F:List Fr) (a:St) (H:Hp) (c:DEnv) (d:List V) (e:List OR) (Q:VK) (p:OD×List Nat×OD),b.K=K->Rel b F a H c d e->ak c i ps=some p->(∀v u,a[i]?=some (some v)->Chn b H v p.1 p.2.1 u p.2.2->Q u H)->f a H Q
inductive PDp (X:Cx)(e:Expr)(i:Nat)(ps:List Acc):Prop|mk (te:TE) (h:PE X e te) (s:HE X.K te i ps)
inductive PX (X:Cx)(e:Expr)(f:St->Option V):Prop|mk (te:TE) (h:PE X e te) (s:∀σ H (Q:VK) v,f σ=some v->Q v H->te σ H Q)
section
variable{X:Cx}{C:Ct}{a e e2:Expr}{es:List Expr}{ma mb:E}{mes:Es}{pos p p1 p2:Pos}{x:Str}{i j:Nat}{ps:List Acc}{k:Int}
def Fi:PX X (.Constant (.int k) j pos) (λ_=>some (.int k)):=⟨_,jW,λb H Q v e q=>by cases e;exact q⟩
def HF(c:X.N[i]?=some x) (f:Vis X.env.scope x) (d:(x==("__debug__":Str))=false) (b:(x==("__classdict__":Str))=false):PX X (.Name x pos) (λσ=>σ[i]?.join):=⟨_,bH c f d b,λσ H Q v e q=>⟨v,join_some e,q⟩⟩
def HG(m:X.N[i]?=some x) (l:Vis X.env.scope x) (f:(x==("__debug__":Str))=false) (c:(x==("__classdict__":Str))=false):PDp X (.Name x pos) i []:=
 ⟨_,bH m l f c,λb F r H t n o Q p s R h q=>by
  obtain⟨y,g,h⟩:=bnd h;cases h;obtain⟨v,d⟩:=R.wf.get (join_some g);exact⟨v,d,q v v d .nil⟩⟩
theorem lookup_at:∀{fs:List (Str×V)}{k:Nat}{w:V},(fs.map (·.1)).findIdx? (λg=>decide (g=f))=some k->(fs[k]?).map (·.2)=some w->fs.lookup f=some w
 |[],_,_,e,_=>by simp at e
 | (g,q)::fs,k,w,e,h=>by
  rw[aam,aa3]at e;by_cases b:g=f
  ·subst b;simp at e;subst e;simp at h;subst h;simp[List.lookup]
  ·simp[b]at e;obtain⟨k',l,e2⟩:=e;subst e2;have c:(fs.map (·.1)).findIdx? (λg=>decide (g=f))=some k':=by rw[List.findIdx?_map];exact l
   have:=lookup_at c (by simpa using h);have d:(f==g)=false:=by simpa using λz=>b z.symm
   simp[List.lookup,d,this]
def Fj{k:Nat}(h:accN ρ y (.fld c f)=some k):∃ns xs,y=.obj c ns xs/\ns.findIdx? (λg=>decide (g=f))=some k:=by obtain⟨q,d,h⟩:=bnd h;obtain⟨_,e2,b⟩:=bnd h;exact⟨q.2.1,q.2.2,by rw[km d,gd_ok e2],b⟩
theorem Fk{c f:Str}(M:attributeBase e f X.env (eval e X.env)=eval e X.env)(L:Cls X.K (au X.K c))(D:NoAttr X.K (au X.K c) f):PDp X e i ps->PDp X (.Attribute e f pos) i (.fld c f::ps)
 |⟨te,h,s⟩=>⟨_,AW h M,λb F σ H ρ τ θ Q p m R d q=>by
  obtain⟨r,k,z,o,e2,J,d⟩:=bn3 d;cases d;refine s b F σ H ρ τ θ _ r m R o λv u y l=>?_;obtain⟨I,B⟩:=path_at o;obtain⟨P,g,w⟩:=R.slot (join_some I);rw[y]at g;cases g;obtain⟨t,n⟩:=w.u0 B l J;obtain⟨O,N,A,e2⟩:=Fj e2;rw[A]at n l;cases n with
  |@obj a dx _ fs _ _ _ _ _ f1 f2 f5 f3 f4=>exact⟨a,_,dx,fs,t,rfl,f1,m▸L,m▸D,lookup_at (by rw[f2];exact e2) f3,q v t y (l.snoc (.obj f1 f2 f5 f3 f4))⟩⟩
def uP{b:Type}{xs:List b}{i:Int}{k:Nat}{y:b}(c:xs.length=n)(h:ixN n i=some k)(e:xs[k]?=some y):atI xs i=some y:=by subst c;unfold atI;rw[h];exact e
theorem Fm(hs:PlainIx e2)(I:∀{b:Bs}{F:List Fr}{σ:St}{H:Hp}{ρ:DEnv}{τ:List V}{θ:List OR}{x:OD}{k:Nat},Rel b F σ H ρ τ θ->accN ρ x B=some k->∃n,f σ=some (.int n)/\((∃xs,x=.lst xs/\ixN xs.length n=some k)\/∃xs,x=.tup xs/\ixN xs.length n=some k)):PDp X e i ps->PX X e2 f->PDp X (.Subscript e e2 pos) i (B::ps)
 |⟨te,h,s⟩,⟨_,m,s2⟩=>⟨_,tw m7 h m hs,λb F σ H ρ τ θ Q p J R c q=>by
  obtain⟨r,k,z,A,e2,L,c⟩:=bn3 c;cases c;refine s b F σ H ρ τ θ _ r J R A λv u o l=>?_;obtain⟨N,m⟩:=path_at A;obtain⟨P,d,w⟩:=R.slot (join_some N);rw[o]at d;cases d;obtain⟨g,y⟩:=w.u0 m l L;obtain⟨n,D,M⟩:=I R e2;refine s2 σ H _ _ D ?_;obtain⟨O,T,S⟩:=r;simp only at *;rcases M with ⟨xs,rfl,t⟩|⟨xs,rfl,t⟩
  ·cases y with
   |@lst a vs _ _ _ _ f1 f2 f3 f4=>exact .inl ⟨a,vs,n,g,rfl,rfl,SqL.of f1,uP f2 t f3,q v g o (l.snoc (.lst f1 f2 f3 f4))⟩
  ·cases y with
   |@tup a vs _ _ _ _ f1 f2 f3 f4=>exact .inr (.inl ⟨a,vs,n,g,rfl,rfl,SqT.of f1,uP f2 t f3,q v g o (l.snoc (.tup f1 f2 f3 f4))⟩)⟩
def HH(hs:PlainIx e2)(h:PDp X e i ps)(f:PX X e2 (λ_=>some (.int k))):PDp X (.Subscript e e2 pos) i (.ix k::ps):=
 Fm hs (λ{b F o H q l m x n} R c=>by
  obtain⟨d,g,c⟩:=bnd c;exact⟨k,rfl,(BZ g).imp (λe=>⟨d,e,c⟩) λe=>⟨d,e,c⟩⟩) h f
def Rel.keyS{k:Key}(R:Rel b F σ H ρ τ θ)(e:ρ[j]?.join=some (.fz d))(hk:keyOf d=some k):σ[j]?.join=some (kV k):=by obtain⟨v,c,w⟩:=R.slot (join_some e);have f:=w.dt rfl;rw[c];cases d<;>cases hk<;>cases f<;>rfl
theorem pG{k:Key}:∀{ws:List (Key×V)}{n:Nat}{w:V},(ws.map (·.1)).findIdx? (λq=>decide (q=k))=some n->(ws[n]?).map (·.2)=some w->valV ws k=some w
 |[],_,_,e,_=>by simp at e
 | (g,q)::ws,n,w,e,h=>by
  rw[aam,aa3]at e;by_cases b:g=k
  ·subst b;simp at e;subst e;simp at h;subst h;exact dG rfl
  ·simp[b]at e;obtain⟨k',d,e2⟩:=e;subst e2;have c:(ws.map (·.1)).findIdx? (λq=>decide (q=k))=some k':=by rw[List.findIdx?_map];exact d
   have:=pG c (by simpa using h);simp only[valV]at this ⊢;rw[aba];simp only[b,decide_false];exact this
theorem Fo(J:X.A.units+1<cLine)(hs:NoSl e2):PDp X e i ps->PX X e2 (λσ=>σ[j]?.join)->PDp X (.Subscript e e2 pos) i (.key j::ps)
 |⟨te,h,s⟩,⟨_,g,s2⟩=>⟨_,xx J h g hs,λb F σ H ρ τ θ Q p M R c q=>by
  obtain⟨r,k,z,t,e2,N,c⟩:=bn3 c;cases c;refine s b F σ H ρ τ θ _ r M R t λv u n l=>?_;obtain⟨P,g⟩:=path_at t;obtain⟨T,f,w⟩:=R.slot (join_some P);rw[n]at f;cases f;obtain⟨B,L⟩:=w.u0 g l N;obtain⟨S,W,U⟩:=r;simp only at *;obtain⟨y,d,Y,I,o,D,m,O,e2⟩:=bn4 e2;rw[dP D]at o;refine s2 σ H _ _ (R.keyS o O) ?_;cases L with
  |@dic a ws _ _ _ _ _ f1 f2 f5 f3 f4=>cases m;refine⟨a,B,rfl,?_,q v B n (l.snoc (.dic f1 f2 f5 f3 f4))⟩;have:=DGet.k (k:=I) f1;rw[pG (by rw[f2];exact e2) f3]at this;exact this
  |_=>cases m⟩
end
section
variable{b:Bs}{F:List Fr}{σ:St}{H H':Hp}{ρ:DEnv}{τ us:List V}{θ:List OR}{v u:V}{i:Nat}{ps:List Acc}{p:OD×List Nat×OD}{d:PyData}
def Rel.partX(R:Rel b F σ H ρ τ θ)(j:ρ[i]?.join=some x)(g:x.at ks=some z)(ev:σ[i]?=some (some v))(ch:Chn b H v x ks u z)(e:z.dat=some d):Rel b F σ H (ρ.set i (some (OD.put (.fz d) ks x))) (u::τ) (.val (.fz d)::θ):=by obtain⟨k,a,w⟩:=R.slot (join_some j);rw[ev]at a;cases a;obtain⟨l,c,f⟩:=w.vu g e;obtain⟨h,_⟩:=Chn.det ch c;subst h;exact Rel.back R.wf R.al R.wff ev (f.perm (List.Perm.swap _ _ _))
def Rel.part(R:Rel b F σ H ρ τ θ)(e:ak ρ i ps=some p)(ev:σ[i]?=some (some v))(ch:Chn b H v p.1 p.2.1 u p.2.2)(a:p.2.2.dat=some d):Rel b F σ H (ρ.set i (some (OD.put (.fz d) p.2.1 p.1))) (u::τ) (.val (.fz d)::θ):=R.partX (path_at e).1 (path_at e).2 ev ch a
theorem Rel.z7(R:Rel b F σ H ρ τ θ)(e:ak ρ i ps=some p)(ev:σ[i]?=some (some v))(ch:Chn b H v p.1 p.2.1 u p.2.2)(a:p.2.2=.fz d):Rel b F σ H ρ (u::τ) (.val (.fz d)::θ):=by obtain⟨f,c⟩:=path_at e;have:=R.part e ev ch (by rw[a];rfl);rw[<-a,OD.rr c,set_self (join_some f)]at this;rw[a]at this;exact this
theorem Rel.sr(R:Rel b F σ H ρ τ θ)(e:ak ρ i ps=some p)(ev:σ[i]?=some (some v))(ch:Chn b H v p.1 p.2.1 u p.2.2)(a:p.2.2.dat=some d):Dt b.K H u d:=(R.part e ev ch a).dt rfl
end
end
section
section
variable{X:Cx}{C:Ct}{a e e2:Expr}{es:List Expr}{ma mb:E}{mes:Es}{pos p p1 p2:Pos}{x:Str}{i j:Nat}{ps:List Acc}{k:Int}
theorem HI:PDp X e i ps->PDe X e (aF C (.pg i ps))
 |⟨te,h,s⟩=>⟨te,h,λb F σ H ρ τ θ n Q g R ⟨y,h,q⟩ k=>by
  obtain⟨r,c,h⟩:=bnd h;refine s b F σ H ρ τ θ _ r g R c λv u m f=>?_;obtain⟨d,l,h⟩:=bnd h;cases h;exact k u H _ _ (R.z7 c m f (dP l)) q⟩
theorem HJ:PDp X e i ps->PDe X e (aF C (.pf i ps))
 |⟨te,h,s⟩=>⟨te,h,λb F σ H ρ τ θ m Q g R ⟨y,h,q⟩ k=>by
  obtain⟨r,d,c,e2,h⟩:=bn2 h;cases h;exact s b F σ H ρ τ θ _ r g R c λv u l f=>k u H _ _ (R.part c l f e2) q⟩
theorem HK(z:Gl X "len") (m:X.mg "len"=none) (c:isStar e=false):PDp X e i ps->PDe X (.Call (.Name "len" p) [e] [] pos) (aF C (.pl i ps))
 |⟨te,h,s⟩=>⟨_,cJ lB z m nv (aP h bz (ax c)) (by decide) (by decide) (ax c) (bM rfl),λb F σ H ρ τ θ I Q f R ⟨y,h,q⟩ k=>by
  obtain⟨r,d,n,g,e2,o,h⟩:=bn3 h;cases h;refine s b F σ H ρ τ θ _ r f R g λv u B l=>?_;refine sc_len H [u] [d] (λd=>d=.int n) _ (.cons (f▸R.sr g B l e2) .nil) ⟨d,n,rfl,o,rfl⟩ λw D A t=>?_;subst t;exact k w H _ _ (R.sc A) q⟩
theorem HL(l:plainT e=true):PDp X e i ps->PDt X e (iz C (.pt i ps))
 |⟨te,h,s⟩=>⟨_,lA h (plainT_ok l),λb F σ H ρ τ θ o Q c R ⟨y,h,q⟩ k=>by
  obtain⟨r,d,t,f,e2,m,h⟩:=bn3 h;cases h;refine s b F σ H ρ τ θ _ r c R f λv u n g=>?_;exact⟨t,pD (c▸R.sr f n g e2) m,k _ _ _ R q⟩⟩
def kz(l:bj C m=(vt (ev C m)).2)(g:∀ρ x,ev C m ρ=some x->∃k,x.1=.val (.fz (.bool k))):∀ρ Q,iz C m ρ Q->lK (aF C m) ρ Q:=λρ Q ⟨y,h,q⟩=>by
 have b:((ev C m ρ).bind λx=>(aw x.2 x.1).bind λd=>(kl d).bind λk=>some (k,x.2))=some y:=by rw[<-h,l];rfl
 obtain⟨z,f,b⟩:=bnd b;obtain⟨k,c⟩:=g ρ z f;rw[c]at b;cases b;exact⟨z,f,k,by rw[c];rfl,q⟩
def SndT.imp{K:Waa}(s:SndT K te d)(f:∀ρ Q,d' ρ Q->d ρ Q):SndT K te d':=λb F h H ρ c g m Q l R n q=>s b F h H ρ c g m Q l R (f _ _ n) q
theorem uQ{c:Bool}(Y:X.A.units+64<cLine)(o:behindInMarks (coOf (if c then .nin else .inn)) e=false):PDe X a (aF C ma)->PDp X e i ps->PDe X (.Compare a [coOf (if c then .nin else .inn)] [e] pos) (aF C (.pin c ma i ps))/\PDt X (.Compare a [coOf (if c then .nin else .inn)] [e] pos) (iz C (.pin c ma i ps))
 |⟨ta,l,s1⟩,⟨te,h,s⟩=>by
  obtain⟨r2,L,Z⟩:=iA Y (if c then .nin else .inn);have S:bG X.K (AK r2 ta te) (aF C (.pin c ma i ps)):=by refine λb F I H N U W Qd Q m R ⟨y,h,q⟩ k=>?_;obtain⟨z,B,r,d,t,D,O,e2,J,M,h⟩:=bn5 h;cases h;refine s1 b F I H N U W (λr f=>r=z.1/\f=z.2) _ m R ⟨z,D,rfl,rfl⟩ λv n r' f g hZ=>?_;obtain⟨l,T⟩:=hZ;subst l T;refine s b F I n _ _ _ _ r m g e2 λv' u ev P=>?_;refine Z n v u B d (λd=>d=.bool t) _ (m▸g.dt O) (m▸g.sr e2 ev P J) ⟨t,M,rfl⟩ λw d' sc hd=>?_;subst hd;exact k w n _ _ (g.drop.sc sc) q
  refine⟨⟨_,oO L l h o,S⟩,⟨_,oP L l h o,(ia S).imp (kz rfl λN x h=>?_)⟩⟩;obtain⟨z,B,r,d,t,D,O,e2,J,M,h⟩:=bn5 h;cases h;exact⟨t,rfl⟩
theorem pH{k:Key}:∀{ws:List (Key×V)},(valV ws k).isSome=(ws.map (·.1)).any λq=>decide (q=k)
 |[]=>rfl
 | (g,q)::ws=>by
  have c:=pH (k:=k) (ws:=ws);by_cases b:g=k
  ·subst b;rw[dG rfl];simp
  ·simp only[valV]at c ⊢;rw[aba];simp only[b,decide_false,aam,aa0,acn];exact c
def Cm(b:Bool)(d c:TE):TE:=if b then oV d c else Ec d c
theorem uR(B:X.A.units+1<cLine)(t:behindInMarks (coOf (if neg then .nin else .inn)) e=false):PDe X a (aF C ma)->PDp X e i ps->PDe X (.Compare a [coOf (if neg then .nin else .inn)] [e] pos) (aF C (.din neg ma i ps))/\PDt X (.Compare a [coOf (if neg then .nin else .inn)] [e] pos) (iz C (.din neg ma i ps))
 |⟨ta,d,s1⟩,⟨te,h,s⟩=>by
  have hp:PE X (.Compare a [coOf (if neg then .nin else .inn)] [e] pos) (Cm neg ta te):=by
   cases neg with
   |true=>exact sN (jC B d h) t
   |false=>exact sN (tQ B d h) t
  have J:PT X (.Compare a [coOf (if neg then .nin else .inn)] [e] pos) (tB (Cm neg ta te)):=by
   cases neg with
   |true=>exact sO (jC B d h) t
   |false=>exact sO (tQ B d h) t
  have S:bG X.K (Cm neg ta te) (aF C (.din neg ma i ps)):=by
   refine λb F g H U M N Qd Q T R ⟨y,h,q⟩ k=>?_;obtain⟨z,dx,r,kk,uu,P,e1,e2,ek,D,h⟩:=bn5 h;have D:=uI D
   ·cases h;have go:∀v l L c,Rel b F g l c (v::M) (L::N)->(L=z.1/\c=z.2)->te g l λx Z=>∃a o,x=.ref a/\DGet Z a v o/\Q (.bl (if neg then !o.isSome else o.isSome)) Z:=λv l L c n ⟨d,m⟩=>by
     subst d m;refine s b F g l _ _ _ _ r T n e2 λv' u ev Y=>?_;obtain⟨d,m⟩:=path_at e2;obtain⟨v2,f,w⟩:=n.slot (join_some d);rw[ev]at f;cases f;rw[D]at m Y;obtain⟨ad,ws,I,hH,W,hl,_⟩:=Wd.za (us:=[]) (zs:=[]) w rfl m;obtain⟨e5,_⟩:=Chn.det Y I;subst e5;have hv:=n.dt e1;have O:v=kV kk:=by cases dx<;>cases ek<;>cases hv<;>rfl
     subst O;refine⟨ad,_,rfl,DGet.k hH,?_⟩;rw[pH,W];exact k _ l _ _ (n.drop.sc (.bl _)) q
    cases neg with
    |true=>exact s1 b F g H U M N (λr c=>r=z.1/\c=z.2) _ T R ⟨z,P,rfl,rfl⟩ go
    |false=>exact s1 b F g H U M N (λr c=>r=z.1/\c=z.2) _ T R ⟨z,P,rfl,rfl⟩ go
  refine⟨⟨_,hp,S⟩,⟨_,J,(BB S).imp (kz rfl λU x h=>?_)⟩⟩;obtain⟨z,dx,r,kk,uu,P,e1,e2,ek,D,h⟩:=bn5 h;cases h;exact⟨_,rfl⟩
end
def HM(K:Waa)(i:TE)(f:DEnv->Option PyData):Prop:=∀(b:Bs) (F:List Fr) (c:St) (H:Hp) (e:DEnv) (g:List V) (h:List OR) (Q:VK) (d:PyData),b.K=K->Rel b F c H e g h->f e=some d->(∀v a,Ext H a->Rel b F c a e (v::g) (.val (.fz d)::h)->Q v a)->i c H Q
inductive PDq (X:Cx)(e:Expr)(f:DEnv->Option PyData):Prop|mk (te:TE) (h:PE X e te) (s:HM X.K te f)
def Fq(K:Waa)(k:TA)(f:DEnv->Option (List PyData)):Prop:=∀(b:Bs) (F:List Fr) (e:St) (H:Hp) (g:DEnv) (i:List V) (j:List OR) (Q:List V->Hp->Prop) (c:List PyData),b.K=K->Rel b F e H g i j->f g=some c->(∀h a,Ext H a->h.length=c.length->Rel b F e a g (h++i) (c.map (λd=>OR.val (.fz d))++j)->Q h a)->k e H Q
inductive PDqs (X:Cx)(es:List Expr)(f:DEnv->Option (List PyData)):Prop|mk (te:TA) (h:PA X es te) (s:Fq X.K te f)
section
variable{X:Cx}{C:Ct}{a e e2:Expr}{es:List Expr}{ma mb:E}{mes:Es}{pos p p1 p2:Pos}{x:Str}{i j:Nat}{ps:List Acc}{k:Int}
def HN(n:X.N[i]?=some x) (m:Vis X.env.scope x) (l:(x==("__debug__":Str))=false) (c:(x==("__classdict__":Str))=false):PDq X (.Name x pos) (ko C (.nm i)):=
 ⟨_,bH n m l c,λb F t H w r s Q d u R h q=>by
  obtain⟨o,f,h⟩:=bnd h;rw[dP h]at f;obtain⟨v,g⟩:=R.wf.get (join_some f);exact⟨v,g,q v H (.refl H) (R.dupS (join_some f) g)⟩⟩
def Fs:PDq X (.Constant (.int k) j pos) (ko C (.int k)):=⟨_,jW,λb F g H m c f Q d l R h q=>by
  cases h;exact q _ H (.refl H) (R.sc (.int k))⟩
theorem HP:PDp X e i ps->PDq X e (ko C (.pg i ps))
 |⟨te,h,s⟩=>⟨te,h,λb F σ H ρ τ θ Q d g R h q=>by
  obtain⟨r,c,h⟩:=bnd h;refine s b F σ H ρ τ θ _ r g R c λv u l f=>?_;exact q u H (.refl H) (R.z7 c l f (dP h))⟩
theorem HQ(hs:PlainIx e2):PDq X e (ko C ma)->PDq X e2 (ko C mb)->PDq X (.Subscript e e2 pos) (ko C (.ix ma mb))
 |⟨_,h1,s1⟩,⟨_,h2,s2⟩=>⟨_,tw m7 h1 h2 hs,λb F σ H ρ τ θ Q d r R h q=>by
  obtain⟨dx,B,T,e2,h⟩:=bn2 h;refine s1 b F σ H ρ τ θ _ dx r R T λv U L W=>s2 b F σ U ρ _ _ _ B r W e2 λu f M s=>?_;have w:=s.eu.drop;have A:∀(l:Bool) (c:List PyData) (n:Int),dx=(if l then .list c else .tuple c)->B=.int n->atI c n=some d->AK (Io X.K) (λ_ _ Q=>Q v f) (λ_ _ Q=>Q u f) σ H Q:=λl c n Y N O=>by
   subst Y N;have P:=s.dt rfl;cases P;obtain⟨D,J,m,rfl,t,g,S⟩:=Wd.itemF s.drop.wd O;have I:Rel b F σ f ρ (m::τ) (.val (.fz d)::θ):=Rel.push s.drop.drop S;rcases t with z|z
   ·exact .inl ⟨D,J,n,m,rfl,rfl,r▸z,g,q m f (L.trans M) I⟩
   ·exact .inr (.inl ⟨D,J,n,m,rfl,rfl,r▸z,g,q m f (L.trans M) I⟩)
  obtain⟨c,n,o,y,h⟩:=bn2 h;rcases iy o with o|o
  ·exact A true c n o (a9 y) h
  ·exact A false c n o (a9 y) h⟩
def Cn:PDqs X [] (nP C .nil):=⟨_,bz,λb F g H m c f Q d l R h q=>by
 cases h;exact q [] H (.refl H) rfl R⟩
theorem yf(hs:isStar e=false):PDq X e (ko C ma)->PDqs X es (nP C mes)->PDqs X (e::es) (nP C (.cons ma mes))
 |⟨_,h1,s1⟩,⟨_,h2,s2⟩=>⟨_,aP h1 h2 (ax hs),λb F σ H ρ τ θ Q d f R h q=>by
  obtain⟨dx,l,m,e2,h⟩:=bn2 h;cases h;refine s1 b F σ H ρ τ θ _ dx f R m λv r o t=>s2 b F σ r ρ _ _ _ l f t e2 λn g s c u=>q (v::n) g (o.trans s) (by simp[c]) ?_;exact Rel.xc u (by simp[c])⟩
theorem Ft{t}:PDqs X es (nP C mes)->PDq X (.Tuple es t pos) (ko C (.tup mes))
 |⟨_,h1,s1⟩=>⟨_,m5 h1,λb F σ H ρ τ θ Q d n R h q=>by
  obtain⟨ds,_,r,m,h⟩:=bn2 h;have m:=gd_ok m
  ·cases h;refine s1 b F σ H ρ τ θ _ ds n R r λu v s c f=>⟨aav (by omega:_<=1000000) (by decide),λp g=>q _ _ (s.trans (.upd g)) ?_⟩
   have e2:ds.map (λd=>OR.val (.fz d))=(ds.map OD.fz).map OR.val:=by simp
   rw[e2]at f;have w:=f.vals (by simpa using c);have l:=lL w (by simpa using c) g;have o:mkTup (ds.map OD.fz)=.fz (.tuple ds):=by simp only[mkTup,ib]
   rw[o]at l;exact Rel.push (f.drops (by simpa using c)) l⟩
end
section
variable{X:Cx}
def Inv.drw{d:Drawn}(I:Inv X pins σ H s):Inv X pins σ H { s with drawn:=d }:=
 ⟨I.ok,I.os,I.bare,I.base,I.loc,I.cell,I.free,I.freeC,I.pin,I.hok,I.len⟩
abbrev stH(X:Cx)(a:Addr)(ns:List Int):HO:=.ext λh=>Np.SetI X.prog X.w h a (Np.byT X.w) ns
def jH(t:X.calm=true):ck X (.type "set") (λxs H Q=>∃(p:Addr) (ns:List Int),xs=[.ref p]/\(SqL X.K H p (ns.map V.int)\/SqT X.K H p (ns.map V.int))/\ns.length<1000/\∀a,H a=none->Q (.ref a) (upd H a (stH X a (ns.foldl Np.ddI [])))):=by
 intro g s z H xs C Q I r h;obtain⟨p,ns,rfl,f,F,q⟩:=h;obtain⟨u,rfl,A⟩:=vals1 r;cases A;have c:∀(i:Heap) (n:Nat),Np.SetI X.prog X.w i s.heap.objs.size (Np.byT X.w) (ns.foldl Np.ddI [])->(∀b o,b<s.heap.objs.size->s.heap.get? b=some o->i.get? b=some o)->EP X g z Q (.ref s.heap.objs.size) { s with heap:=i,toks:=n }:=λi n v B=>
  ⟨.ref _,_,I.laid (o:=stH X _ _) (λb u m=>B b u (adc m) m) (aag _) ⟨v,let ⟨_,_,_,e,_⟩:=v;⟨_,e⟩,λJ D x k=>x.at k⟩,rfl,q _ (I.hok.fresh (aag _))⟩
 rcases f with f|f
 ·obtain⟨d,l,j,y⟩:=I.list f;exact PySem.set_seq (ns:=ns) (I.ok.hd t) (.inl j.isList) (cP l) (by unfold scanBound;omega) c
 ·obtain⟨d,l,j,y⟩:=I.tuple f;exact PySem.set_seq (I.ok.hd t) (.inr (show s.heap.IsTuple _ d.toArray from j)) (cP l) (by unfold scanBound;omega) c
def sf:ck X (.builtin "len") (λxs H Q=>∃(p:Addr) (ns:List Int),xs=[.ref p]/\H p=some (stH X p ns)/\Q (.int ns.length) H):=by
 intro b s o H xs m Q I r h;obtain⟨p,ns,rfl,d,q⟩:=h;obtain⟨u,rfl,j⟩:=vals1 r;cases j;obtain⟨c,l,t,i,f,a,k,g,n⟩:=(I.hok p _ d).1;have e:c.size=ns.length:=by rw[<-a.length_eq,aaa,aaK]
 rw[<-e]at q;exact call_len_set i ⟨rfl,rfl,rfl⟩ rfl g (by unfold scanBound at k;omega) ⟨.int _,H,I.tok _,⟨_,rfl⟩,q⟩
def yg(X:Cx):List V->Hp->VK->Prop:=λd H Q=>∃(p:Addr) (c:List Int),d=[.ref p]/\(SqL X.K H p (c.map V.int)\/SqT X.K H p (c.map V.int)\/H p=some (stH X p c))/\c.length<64/\∀(b:List Int) (a:Addr),b.Perm c->b.Pairwise (·<=·)->H a=none->Q (.ref a) (upd H a (.lst (b.map V.int)))
theorem l4(U:X.calm=true):ck X (.builtin "sorted") (yg X):=by
 intro v s T H xs us Q I r h;obtain⟨p,n,rfl,i,hl,q⟩:=h;obtain⟨u,rfl,W⟩:=vals1 r;cases W;have Z:64<=sizeLine:=by decide
 refine Calls.call_function_entry kind_sorted plain_sorted entry_sorted (args_sorted1 _) ?_;unfold Builtin.«sorted»;refine ada (m:=checkCount "sorted" 1 1 _) (adb (ada (adh (Q:=λk x=>∃(w:List Int),Inv X v T H x/\IntsAre k w/\w.Perm n) ?_ (λk x Y=>?_) λ_ _ z=>z)))
 ·rcases i with i|i|i
  ·obtain⟨g,l,A,J⟩:=I.list i;refine collect_list A.isList ⟨n,I.kept (t':=s.toks) λb o e=>?_,cP l,.refl _⟩ (by rw[<-l.length];exact J);rw[Heap.get?_update_ne _ _ _ _ (aar (adc e))];exact ade _ e
  ·obtain⟨g,l,A,J⟩:=I.tuple i;have L:g.length=n.length:=by have:=l.length;rw[aaa]at this;exact this.symm
   exact lR (show s.heap.IsTuple _ g.toArray from A) (by omega) λN j=>⟨n,I.kept j,cP l,.refl _⟩
  ·exact Np.set_collect (I.ok.hd U) (I.hok p _ i).1 λN tk d k w j y a=>⟨w,(I.kept j).drw,y,a⟩
 ·obtain⟨w,D,y,a⟩:=Y;have P:k.length=n.length:=by rw[IntsAre.length y,a.length_eq]
  refine ada (wpAny_newList ?_ (by rw[P];omega));have c:(x.heap.push (seqObj "list" k.toArray 0)).get? x.heap.objs.size=some (seqObj "list" k.toArray 0):=adf _ rfl;refine ada (adj (ads slot_list_sort ⟨_,c,rfl⟩ entry_list_sort (list_sort_tree c y (by omega) λB t M C S=>⟨_,rfl,adb ⟨_,rfl,?_⟩⟩) (args_list_sort _)));obtain⟨e,O⟩:=sortedHeap_at c;refine⟨.ref _,_,D.laid (o:=.lst (t.map V.int)) (λb u F=>?_) (aag _) ⟨?_,B.toList,e,vals_ints M,O⟩,rfl,q t _ (C.trans a) S (D.hok.fresh (aag _))⟩
  ·have f:=adc F;rw[sortedHeap_old (aar f) (by rw[size_push'];exact aa9 f),Heap.get?_push_ne _ _ _ (aar f)];exact F
  ·rw[aaa,(C.trans a).length_eq];omega
end
section
variable{X:Cx}{C:Ct}{a:Expr}{ma:E}{p p1 p2 pos:Pos}
def pI{ns:List Int}(g:b.K=X.K)(R:Rel b F σ H ρ (v::τ) (r::θ))(i:aw ρ r=some d)(h:nN d=some (ns.map PyData.int)):∃p,v=.ref p/\(SqL X.K H p (ns.map V.int)\/SqT X.K H p (ns.map V.int)):=by
 have f:=R.dt i;rw[g]at f;rcases iy h with rfl|rfl
 ·cases f with|lst c e=>rw[DtAll.ints' e]at c;exact⟨_,rfl,.inl c⟩
 ·cases f with|tup c e=>rw[DtAll.ints' e]at c;exact⟨_,rfl,.inr c⟩
def uS{ns c:List Int}{a:Addr}{P:Prop}(R:Rel b F σ H ρ τ θ)(p1:c.Perm ns)(p2:c.Pairwise (·<=·))(d:H a=none)(k:Rel b F σ (upd H a (.lst (c.map V.int))) ρ (.ref a::τ) (.val (.lst ((sortI ns).map λi=>.fz (.int i)))::θ)->P):P:=by have:c=sortI ns:=lZ (p1.trans (sortI_perm _).symm) p2 (gg _);subst this;refine k (R.push ?_);have w:=R.wd.adds (ds:=(sortI ns).map PyData.int) λS _=>FzA.ints _;have:=Wd.er w (by simp) d;rw[aaX]at this;exact this
def Cp(O:X.calm=true) (S:Gl X "len") (z:X.mg "len"=none) (i:Gl X "set") (j:X.mg "set"=none) (m:isStar a=false) (l:PDe X a (aF C ma)):PDe X (.Call (.Name "len" p) [.Call (.Name "set" p1) [a] [] p2] [] pos) (aF C (.lset ma)):=by
 obtain⟨te,h,s⟩:=l;refine⟨_,cJ sf S z nv (aP (eB (jH O) i j uN (aP h bz (ax m)) (by decide) (by decide) (ax m) rfl) bz (ax rfl)) (by decide) (by decide) (ax rfl) rfl,λb F u H L o t Z Q w R ⟨y,h,q⟩ k=>?_⟩;obtain⟨f,d,ds,n,_,N,J,I,D,B,h⟩:=bn5 h;cases h;refine s b F u H L o t (λr c=>r=f.1/\c=f.2) _ w R ⟨f,N,rfl,rfl⟩ λv P r c e U=>?_;obtain⟨l,x⟩:=U;subst l x;have Y:=gf D;subst Y;obtain⟨T,rfl,M⟩:=pI w e J I;refine⟨T,n,rfl,M,gd_ok B,λg A=>?_⟩;have W:Rel b F u (upd P g (stH X g (n.foldl Np.ddI []))) f.2 o t:=⟨e.drop.wf,e.drop.al,e.drop.wff,e.drop.wd.new A⟩
 exact⟨g,_,rfl,ar,k _ _ _ _ (W.sc (.int _)) q⟩
def Fu(A:X.calm=true) (U:Gl X "sorted") (D:X.mg "sorted"=none) (l:Gl X "set") (m:X.mg "set"=none) (o:isStar a=false) (n:PDe X a (aF C ma)):PDe X (.Call (.Name "sorted" p) [.Call (.Name "set" p1) [a] [] p2] [] pos) (aF C (.sst ma)):=by
 obtain⟨te,h,s⟩:=n;refine⟨_,cJ (l4 A) U D se (aP (eB (jH A) l m uN (aP h bz (ax o)) (by decide) (by decide) (ax o) rfl) bz (ax rfl)) (by decide) (by decide) (ax rfl) rfl,λb F x H O u w Qd Q z R ⟨y,h,q⟩ k=>?_⟩;obtain⟨f,d,ds,t,_,S,N,M,L,J,h⟩:=bn5 h;obtain⟨_,j,h⟩:=bnd h;cases h;refine s b F x H O u w (λr c=>r=f.1/\c=f.2) _ z R ⟨f,S,rfl,rfl⟩ λv T r c e W=>?_;obtain⟨n,B⟩:=W;subst n B;have hx:=gf L;subst hx;obtain⟨Y,rfl,P⟩:=pI z e N M;refine⟨Y,t,rfl,P,gd_ok J,λg I=>?_⟩;have R2:Rel b F x (upd T g (stH X g (t.foldl Np.ddI []))) f.2 u w:=⟨e.drop.wf,e.drop.al,e.drop.wff,e.drop.wd.new I⟩
 exact⟨g,_,rfl,.inr (.inr ar),gd_ok j,λZ a p1 p2 i=>uS R2 p1 p2 i (k _ _ _ _ · q)⟩
end
end
section
section
variable{b:Bs}{S:Addr->Prop}{H:Hp}{vs us:List V}{xs zs:List OD}{A B C:List Addr}{v:V}{z:OD}
def Ows.addA(nt:∀c xs,H c=some (.tup xs)->¬ S c)(f:Ows b S H vs xs A)(a:Ows b S H us zs C)(d:(A++C).Nodup):∃D,Ows b S H (vs++us) (xs++zs) D/\D.Nodup/\∀c∈D,c∈A\/c∈C:=⟨A++C,Ows.append f a,d,λc e=>aai.mp e⟩
def Ows.one(h:Ows b S H [v] [z] C):Ow b S H v z C:=by
 cases h with
 |cons r t=>cases t;rw[aaq];exact r
def Ows.setA(f:j<xs.length)(l:Ows b S H vs xs A)(g:Ows b S H [v] [z] C)(k:(A++C).Nodup):∃D,Ows b S H (vs.set j v) (xs.set j z) D/\D.Nodup/\∀c∈D,c∈A\/c∈C:=by
 obtain⟨q,d,B,e,n,rfl,m,i⟩:=l.zip (aap f);refine⟨d++(C++e),i g.one λ_ h=>h,?_,λc a=>?_⟩
 ·have p:((d++(B++e))++C).Perm (B++(d++(C++e))):=by refine((bT d B e).append_right C).trans ?_;rw[aad];refine abj B ?_;rw[aad];exact abj d abb
  exact(aaD.mp (p.nodup_iff.mp k)).2.1
 ·simp only[aai]at a ⊢;rcases a with a|a|a
  ·exact .inl (.inl a)
  ·exact .inr a
  ·exact .inl (.inr (.inr a))
theorem kA:∀{fs:List (Str×V)}{xs:List OD},fs.length=xs.length->(cm f v fs).map (·.1)=(bA f z (fs.map (·.1)) xs).1
 |[],[],_=>rfl
 | (g,q)::fs,x::xs,e=>by
  simp only[cm,bA,aam];by_cases a:g=f
  ·rw[if_pos a,if_pos a];rfl
  ·rw[if_neg a,if_neg a,aam,kA (fs:=fs) (by simpa using e)]
 |[],_::_,e=>by simp at e
 |_::_,[],e=>by simp at e
theorem iG:∀{fs:List (Str×V)}{xs:List OD}{A:List Addr},Ows b S H (fs.map (·.2)) xs A->Ow b S H v z C->(A++C).Nodup->∃D,Ows b S H ((cm f v fs).map (·.2)) (bA f z (fs.map (·.1)) xs).2 D/\D.Nodup/\∀c∈D,c∈A\/c∈C
 |[],_,_,.nil,h2,nd=>⟨C++[],.cons h2 .nil,by simpa using nd,λc a=>.inr (by simpa using a)⟩
 | (g,q)::fs,x::xs,_,.cons (A:=A1) (B:=A2) r t,h2,nd=>by
  simp only[cm,bA,aam];by_cases d:g=f
  ·rw[if_pos d,if_pos d];refine⟨C++A2,.cons h2 t,?_,λc a=>?_⟩
   ·rw[aad]at nd;exact(abb.nodup_iff.mp (aaD.mp nd).2.1)
   ·rcases aai.mp a with h|h
    ·exact .inr h
    ·exact .inl (aae _ h)
  ·rw[if_neg d,if_neg d];rw[aad]at nd;obtain⟨o,m,n⟩:=aaD.mp nd;obtain⟨D,p,l,k⟩:=iG t h2 m;refine⟨A1++D,.cons r p,aaD.mpr ⟨o,l,λc a j i e=>n c a j (aai.mpr (k j i)) e⟩,λc a=>?_⟩;rcases aai.mp a with h|h
   ·exact .inl (aaf _ h)
   ·exact(k c h).imp (aae _) id
def pJ(e:ws.length=xs.length):(putK ws k v).map (·.1)=(bB k d (ws.map (·.1)) xs).1:=by
 unfold putK bB;rw[ab4];have f:((λq=>decide (q=k)) ∘ λx:Key×V=>x.1)=λc=>decide (c.1=k):=rfl;rw[f];by_cases a:(ws.any λc=>decide (c.1=k))=true
 ·rw[if_pos a,if_pos a,aaX];refine ab5 λq _=>?_;simp only[Function.comp];split<;>rfl
 ·rw[if_neg a,if_neg a,aau];rfl
theorem l5(h:Fz b.K S H v d):∀{ws:List (Key×V)}{xs:List OD}{A:List Addr},Ows b S H (ws.map (·.2)) xs A->∃D,Ows b S H ((ws.map (λc=>if c.1=k then (c.1,v) else c)).map (·.2)) (List.zipWith (λq x=>if q=k then .fz d else x) (ws.map (·.1)) xs) D/\D.Sublist A
 |[],_,_,.nil=>⟨[],.nil,List.Sublist.refl _⟩
 | (g,q)::ws,x::xs,_,.cons (A:=A1) r t=>by
  obtain⟨D,e,f⟩:=l5 h t;simp only[aam,List.zipWith_cons_cons];by_cases a:g=k
  ·rw[if_pos a,if_pos a];exact⟨[]++D,.cons (.fz h) e,(aa5 D).symm▸f.trans (List.sublist_append_right _ _)⟩
  ·rw[if_neg a,if_neg a];exact⟨A1++D,.cons r e,(List.Sublist.refl A1).append f⟩
def l6(j:Ows b S H (ws.map (·.2)) xs A)(n:Ows b S H [v] [.fz d] C)(p:(A++C).Nodup):∃D,Ows b S H ((putK ws k v).map (·.2)) (bB k d (ws.map (·.1)) xs).2 D/\D.Nodup/\∀c∈D,c∈A\/c∈C:=by
 have h:Fz b.K S H v d:=by cases n with|cons r t=>cases r with|fz f=>exact f
 have l:=(aaD.mp p).1;unfold putK bB;rw[ab4];have m:((λq=>decide (q=k)) ∘ λx:Key×V=>x.1)=λe=>decide (e.1=k):=rfl;rw[m];by_cases a:(ws.any λe=>decide (e.1=k))=true
 ·rw[if_pos a,if_pos a];obtain⟨D,o,i⟩:=l5 h j;exact⟨D,o,i.nodup l,λc g=>.inl (i.subset g)⟩
 ·rw[if_neg a,if_neg a,aau];exact⟨A++[],Ows.append j (.cons (.fz h) .nil),by simpa using l,λc g=>.inl (by simpa using g)⟩
end
section
variable{X:Cx}{W:Nat->Prop}{m:Nat}{C:Ct}{a b c e e2 kx:Expr}{es:List Expr}{sts s1 s2:List Stmt}{st:Stmt}{ma mb mc mk':E}{mes:Es}{ms:S'}{mss ma' mb':Ss}{pos p p1 p2 p3 pos' apos cpos:Pos}{x:Str}{i j:Nat}{ps:List Acc}
def Cq{o i:Expr}(h:bQ i=false):∀v,assign (.Subscript o i pos) env v=(do
   let ov <-holding [v] (eval o env)
   let iv <-holding [v,ov] (eval i env)
   standAt pos
   holding [v,ov,iv] (setItem ov iv v)
   release [v,ov,iv] []):=by
 cases i<;>first|(intro _;rfl)|cases h
def uT{env:Env}(h:isStar e=false):((backTo cpos (starEach [e] env)).all (λx=>!x.1)&&(backToKw cpos (keywordEach [] env)).all (λx=>x.1.isSome)
   && decide ([e].length+([]:List Keyword).length+(if ([]:List Keyword).isEmpty then 0 else 1)<30))=true:=by
 cases e<;>first|rfl|cases h
def Rel.cell{b:Bs}{τ:List V}{x:OD}(R:Rel b F σ H ρ τ θ)(o:ρ[i]?.join=some x)(g2:x.at ks=some (.lst xs))(ev:σ[i]?=some (some v))(ch:Chn b H v x ks u (.lst xs)):∃l vs,u=.ref l/\H l=some (.lst vs):=by obtain⟨q,d,n⟩:=R.slot (join_some o);rw[ev]at d;cases d;obtain⟨k,f,g,h,_,_⟩:=Wd.v7 (us:=[]) (zs:=[]) n rfl g2;exact⟨k,f,(Chn.det ch g).1,h⟩
theorem Rel.z8{b:Bs}{F:List Fr}(R:Rel b F σ H ρ τ θ)(d:ρ[i]?.join=some (.lst xs)):∃v,σ[i]?=some (some v)/\∃l vs,v=.ref l/\H l=some (.lst vs):=by obtain⟨v,f⟩:=R.wf.get (join_some d);exact⟨v,f,R.cell d rfl f .nil⟩
def Rel.wh{b:Bs}{x o:OD}{v f:V}(R:Rel b F σ H ρ (f::τ) (.val o::θ))(r:ρ[i]?.join=some x)(g2:x.at ks=some (.lst xs))(ev:σ[i]?=some (some v))(ch:Chn b H v x ks (.ref l) (.lst xs))(z:xs.length<1000000):
  ∃vs,H l=some (.lst vs)/\vs.length<sizeLine/\Rel b F σ (upd H l (.lst (vs++[f]))) (ρ.set i (some (OD.put (.lst (xs++[o])) ks x))) τ θ:=by
 obtain⟨B,d,w⟩:=Rel.open (us:=[f]) (zs:=[o]) R rfl r;rw[ev]at d;cases d;obtain⟨D,vs,g,t,y,n⟩:=w.v7 rfl g2;obtain⟨h,_⟩:=Chn.det ch g;cases h;exact⟨vs,t,aay (by omega) (by decide:1000001<=sizeLine),Rel.close (Rel.rest (us:=[f]) (zs:=[o]) R rfl) ev (n (vs++[f]) (xs++[o]) λS H A C s u k q=>Ows.addA s u k q)⟩
def Fv(hN:X.N[i]?=some x) (Y:Vis X.env.scope x) (S:(x==("__debug__":Str))=false) (l:(x==("__classdict__":Str))=false) (d:(apos.endLine==cpos.line)=true) (hs:isStar e=false):
  PDe X e (aF C ma)->PDs X W (.Expr (.Call (.Attribute (.Name x pos') "append" apos) [e] [] cpos) pos) (gh C (.app i ma))
 |⟨_,h,s⟩=>⟨_,fq (lD abG acz acA eD (bH hN Y S l) (aP h bz (ax hs)) rfl (uT hs) d (ax hs) (bM rfl)) rfl,λb F σ H ρ τ θ Dd D P n R ⟨y,h,q⟩ E=>by
  obtain⟨x0,B,z,o,x1,w,U,T,e2,u,h⟩:=bn5 h;obtain⟨xs,_,f1,O,h⟩:=bn2 h;cases h;rw[cW U]at w;rw[cW f1]at u;obtain⟨v,t,A,g,rfl,k⟩:=R.z8 w;refine⟨.ref A,t,.inl ⟨rfl,g,SqL.of k⟩,?_⟩;refine s b F σ H ρ τ θ (λr f=>r=z.1/\f=z.2) _ P R ⟨z,T,rfl,rfl⟩ λQ H1 r a0 M hZ=>?_;obtain⟨h1,I⟩:=hZ;subst h1 I;obtain⟨Z,hH,L,J⟩:=Rel.wh (M.own1 e2) u rfl t .nil (gd_ok O);exact⟨A,Z,Q,rfl,rfl,hH,L,E.nx σ _ _ J q⟩⟩
theorem Fw(hN:X.N[i]?=some x) (hv:Vis X.env.scope x) (hd:(x==("__debug__":Str))=false) (M:(x==("__classdict__":Str))=false) (f:(apos.endLine==cpos.line)=true) (hs:isStar e=false):
  PDe X e (aF C ma)->PDs X W (.Expr (.Call (.Attribute (.Name x pos') "extend" apos) [e] [] cpos) pos) (gh C (.ext i ma))
 |⟨_,h,s⟩=>⟨_,fq (lD abG PySem.F.slot_list_extend PySem.F.type_list_extend rn (bH hN hv hd M) (aP h bz (ax hs)) rfl (uT hs) f (ax hs) (bM rfl)) rfl,λb F σ H ρ τ θ Dd D hK n R ⟨y,h,q⟩ E=>by
  obtain⟨x0,a0,z,Q,x1,U,f0,e1,B,eb,h⟩:=bn5 h;obtain⟨xs,_,f1,T,h⟩:=bn2 h;cases h;have T:=gd_ok T;have B:=B3 B;rw[cW f0]at U;rw[cW f1]at eb;obtain⟨v,J,Z,I,rfl,L⟩:=R.z8 U;refine⟨.ref Z,J,.inl ⟨rfl,I,SqL.of L⟩,?_⟩;refine s b F σ H ρ τ θ (λr t=>r=z.1/\t=z.2) _ hK R ⟨z,e1,rfl,rfl⟩ λu H1 r a1 O hZ=>?_;obtain⟨P,o⟩:=hZ;subst P o;rw[B]at O;obtain⟨bd,k,rfl,hB,d,w2⟩:=Wd.unpL0 O.wd;have R2:Rel b F σ H1 z.2 (k++τ) (Q.map OR.val++θ):=Rel.spread (Rel.drop O) d w2;obtain⟨v',g,w⟩:=R2.open d eb;rw[J]at g;cases g;obtain⟨l,Y,ch,hH,hl,go⟩:=w.v7 (ks:=[]) d rfl;cases ch;have w3:=go (Y++k) (xs++Q) λS H A C nt P o nd=>⟨A++C,Ows.append P o,nd,λc hc=>aai.mp hc⟩
  exact⟨Z,bd,Y,k,rfl,rfl,hH,hB,aav (by omega:_<=1000000) (by decide),E.nx σ _ _ (Rel.close (R2.rest d) J w3) q⟩⟩
def Fx(Q:attributeBase e "append" X.env (eval e X.env)=eval e X.env) (f:(apos.endLine==cpos.line)=true) (hs:isStar a=false):
  PDp X e i ps->PDq X a (ko C ma)->PDs X W (.Expr (.Call (.Attribute e "append" apos) [a] [] cpos) pos) (gh C (.apd i ps ma))
 |⟨_,h0,s0⟩,⟨_,h,s⟩=>⟨_,fq (lD abG acz acA eD h0 (aP h bz (ax hs)) Q (uT hs) f (ax hs) (bM rfl)) rfl,λb F σ H ρ τ θ U D z n R ⟨y,h,q⟩ E=>by
  obtain⟨r,d,Y,_,A,e2,J,L,h⟩:=bn4 h;cases h;obtain⟨t,k⟩:=path_at A;refine s0 b F σ H ρ τ θ _ r z R A λv u w g=>?_;rw[cW J]at k g;obtain⟨O,l,rfl,o⟩:=R.cell t k w g;refine⟨.inl ⟨rfl,l,SqL.of o⟩,s b F σ H ρ τ θ _ d z R e2 λM Z P T=>?_⟩;obtain⟨N,S,I,B⟩:=Rel.wh T t k w (g.ext P) (gd_ok L);exact⟨O,N,M,rfl,rfl,S,I,E.nx σ _ _ B q⟩⟩
def Rel.moved{b:Bs}(R:Rel b F σ H ρ τ θ)(e:ρ[j]?.join=some y):∃v,σ[j]?=some (some v)/\Rel b F σ H (ρ.set j none) (v::τ) (.val y::θ):=by
 obtain⟨v,f⟩:=R.wf.get (join_some e);have h:Rel b F σ H ρ (v::τ) (.rf j::θ):=⟨R.wf,⟨f,R.al⟩,R.wff,R.wd⟩
 obtain⟨_,_,w⟩:=R.slot (join_some e);rename_i g d;rw[f]at d;cases d;exact⟨v,f,⟨R.wf.off,R.al,R.wff,w⟩⟩
theorem Fy(hN:X.N[i]?=some x) (hv:Vis X.env.scope x) (hd:(x==("__debug__":Str))=false) (J:(x==("__classdict__":Str))=false) (M:bQ kx=false) (hs:swapsWith e (some (.Subscript (.Name x pos') kx p2)) pos.line X.env=pure false) (hw:swappedStores [.Subscript (.Name x pos') kx p2] e X.env=pure none):
  PDe X e (aF C ma)->PDe X kx (aF C mk')->PDs X W (.Assign [.Subscript (.Name x pos') kx p2] e pos) (gh C (.sti i mk' ma))
 |⟨_,g,s1⟩,⟨_,d,s2⟩=>⟨_,sR g (AD (bH hN hv hd J) d set_list (Cq M)) hs hw rfl,λb F σ H ρ τ θ Dd D T n R ⟨y,h,q⟩ E=>by
  obtain⟨z,o,e1,e2,h⟩:=bn2 h;refine s1 b F σ H ρ τ θ (λr f=>r=z.1/\f=z.2) _ T R ⟨z,e1,rfl,rfl⟩ λL H1 r a2 R1 O=>?_;obtain⟨g,d⟩:=O;subst g d;have Z:=R1.own1 e2;obtain⟨x0,a0,t,dk,k,e0,f0,e3,Y,fk,h⟩:=bn5 h;obtain⟨x1,xs,I,Q,f1,P,h⟩:=bn3 h;rw[a9 fk]at Y;rw[cW f1]at Q
  ·obtain⟨v,B⟩:=Z.wf.get (join_some e0);refine⟨v,B,s2 b F σ H1 _ _ _ (λr f=>r=t.1/\f=t.2) _ T Z ⟨t,e3,rfl,rfl⟩ λv2 H2 r a1 u O=>?_⟩;obtain⟨g,d⟩:=O;subst g d
   ·cases h;have M:=u.dt Y;cases M;obtain⟨v',s,w⟩:=Rel.open (us:=[L]) (zs:=[o.1]) u.drop rfl Q;rw[B]at s;cases s;obtain⟨l,U,ch,hH,hl,go⟩:=w.v7 (ks:=[]) rfl rfl;cases ch;refine⟨l,U,k,I,rfl,rfl,hH,by rw[hl];exact P,?_⟩;exact E.nx σ _ _ (Rel.close (Rel.rest (us:=[L]) (zs:=[o.1]) u.drop rfl) B (go (U.set I L) (xs.set I o.1) λS H A C nt g d nd=>Ows.setA (BH P) g d nd)) q⟩
def FA(hu:X.A.units+1<cLine)(hs:swapsWith a (some (.Subscript e e2 p2)) pos.line X.env=pure false):
  PDp X e i ps->PX X e2 (λσ=>σ[j]?.join)->PDe X a (aF C ma)->PDs X W (.Assign [.Subscript e e2 p2] a pos) (gh C (.std i ps j ma))
 |⟨_,h0,s0⟩,⟨_,d,s2⟩,⟨_,g,s1⟩=>⟨_,xy hu h0 d g hs,λb F σ H ρ τ θ Dd D P n R ⟨y,h,q⟩ E=>by
  obtain⟨z,o,r,e1,e2,Q,h⟩:=bn3 h;refine s1 b F σ H ρ τ θ (λr B=>r=z.1/\B=z.2) _ P R ⟨z,e1,rfl,rfl⟩ λL U r' a0 R1 hZ=>?_;obtain⟨g,d⟩:=hZ;subst g d;have t:=R1.frz1 e2;obtain⟨x0,kd,kk,uu,_,T,f0,e5,s,J,h⟩:=bn5 h;have J:=gd_ok J;have s:=uI s;rw[dP f0]at T;obtain⟨ks,xs⟩:=uu;simp only at J s h
  ···cases h
     obtain⟨g1,O⟩:=path_at Q;refine s0 b F σ U _ _ _ _ r P t Q λv u Y N=>s2 σ U _ _ (t.keyS T e5) ?_;obtain⟨v',f,w⟩:=Rel.open (us:=[L]) (zs:=[.fz o.1]) t rfl g1;rw[Y]at f;cases f;rw[s]at O N;obtain⟨l,ws,I,hH,M,hl,go⟩:=w.za rfl O;obtain⟨Z,_⟩:=Chn.det N I;subst Z M;refine⟨l,_,rfl,DPut.k hH (aay (by omega) (by decide:1000001<=sizeLine)),?_⟩;exact E.nx σ _ _ (Rel.close (Rel.rest (us:=[L]) (zs:=[.fz o.1]) t rfl) Y (go (putK ws kk L) _ _ (pJ hl) λS H A C nt g d nd=>l6 g d nd)) q⟩
def FB{c f:Str} (hN:X.N[i]?=some x) (hv:Vis X.env.scope x) (hd:(x==("__debug__":Str))=false) (t:(x==("__classdict__":Str))=false) (hc:Cls X.K (au X.K c)) (U:NoAttr X.K (au X.K c) f) (hs:swapsWith e (some (.Attribute (.Name x pos') f p2)) pos.line X.env=pure false):
  PDe X e (aF C ma)->PDs X W (.Assign [.Attribute (.Name x pos') f p2] e pos) (gh C (.stf i c f ma))
 |⟨_,g,s1⟩=>⟨_,AX (bH hN hv hd t) g hs,λb F σ H ρ τ θ Dd D B n R ⟨y,h,q⟩ E=>by
  obtain⟨z,o,e1,e2,h⟩:=bn2 h;refine s1 b F σ H ρ τ θ (λr s=>r=z.1/\s=z.2) _ B R ⟨z,e1,rfl,rfl⟩ λI H1 r a0 R1 hZ=>?_;obtain⟨g,k⟩:=hZ;subst g k;have P:=R1.own1 e2;obtain⟨x0,uu,_,u,f0,d,h⟩:=bn3 h;have d:=gd_ok d;rw[km f0]at u;obtain⟨c',ns,xs⟩:=uu;simp only at d u h
  ··cases h
    obtain⟨J,d⟩:=d;subst J;obtain⟨v,O,w⟩:=Rel.open (us:=[I]) (zs:=[o.1]) P rfl u;obtain⟨l,dx,M,Q,hH,L,Z,T⟩:=w.mutO (ks:=[]) rfl rfl;cases Q;subst L;refine⟨.ref l,O,l,_,dx,M,rfl,hH,B▸hc,B▸U,by omega,?_⟩;exact E.nx σ _ _ (Rel.close (Rel.rest (us:=[I]) (zs:=[o.1]) P rfl) O (T (cm f I M) _ _ (kA Z) λS H A C nt g k Y=>iG g k.one Y)) q⟩
theorem FC{c f:Str} (hN:X.N[i]?=some x) (hv:Vis X.env.scope x) (hd:(x==("__debug__":Str))=false) (a4:(x==("__classdict__":Str))=false) (hc:Cls X.K (au X.K c)) (hn:NoAttr X.K (au X.K c) f) (L:PDe X e (aF C ma)):
  PDs X W (.AugAssign (.Attribute (.Name x pos') f p2) (opOf o) e pos) (gh C (.agf i c f o ma)):=by
 have O:∀(B:Operator) (g:Int->Int->Int),xi X B (λx y H Q=>∃i j,x=.int i/\y=.int j/\Q (.int (g i j)) H)->(∀a d r,lV o a d=some r->∃k,d=.int k/\r=g a k)->PDs X W (.AugAssign (.Attribute (.Name x pos') f p2) B e pos) (gh C (.agf i c f o ma)):=λB g ho hg=>by
  obtain⟨_,h,s1⟩:=L;refine⟨_,rk (bH hN hv hd a4) h ho,λb F Y H ρ τ θ Dd D T n R ⟨y,h,q⟩ E=>?_⟩;obtain⟨r,d0,t,z,d,s,f0,I,e2,e3,h⟩:=bn5 h;obtain⟨nr,x1,uu,_,e4,ex,f5,P,h⟩:=bn4 h;have P:=gd_ok P;rw[km f5]at ex;obtain⟨c2,b6,a7⟩:=uu;simp only at P ex h;have e0:=dP f0;rw[a9 I]at e0;cases h
  ·have c0:=hg;obtain⟨k,rfl,rfl⟩:=hg _ _ _ e4;obtain⟨g1,g2⟩:=path_at s;obtain⟨v,U,w0⟩:=R.slot (join_some g1);obtain⟨u,ch⟩:=w0.way g2;have hu:=R.sr s U ch (by rw[e0];rfl);obtain⟨r0,k0,z0,I,f2,f3,s⟩:=bn3 s;obtain⟨x0,f4,I⟩:=bnd I;cases I;cases s;simp only[aa5]at ch g2 e0 f2 f3 g1;obtain⟨ns,xs,ey,f7⟩:=Fj f2;subst ey;cases ch with
   |cons cd cn=>
    cases cn;cases cd with
    |@obj l dx c' fs _ _ _ _ _ q1 q2 q5 q3 q4=>
     ·cases hu;refine⟨_,U,l,_,dx,fs,.int t,rfl,q1,T▸hc,T▸hn,lookup_at (by rw[q2];exact f7) q3,?_⟩;refine s1 b F Y H ρ τ θ (λr a0=>r=z.1/\a0=z.2) _ T R ⟨z,e2,rfl,rfl⟩ λv1 H1 r b0 R1 hZ=>?_;obtain⟨L,Z⟩:=hZ;subst L Z;have a2:=R1.dt e3;cases a2;refine⟨t,k,rfl,rfl,?_⟩
      ··obtain⟨a5,P⟩:=P
        subst a5;have R2:Rel b F Y H1 z.2 (.int (g t k)::τ) (.val (.fz (.int (g t k)))::θ):=R1.drop.sc (.int _);obtain⟨v',M,w⟩:=Rel.open (us:=[.int (g t k)]) (zs:=[.fz (.int (g t k))]) R2 rfl ex;rw[U]at M;cases M;obtain⟨l2,a3,J,a1,hH,a6,hl,go⟩:=w.mutO (ks:=[]) rfl rfl;cases a1;subst a6;refine⟨a3,J,hH,by omega,?_⟩;exact E.nx Y _ _ (Rel.close R1.drop U (go (cm f _ J) _ _ (kA hl) λS H A C nt L Z nd=>iG L Z.one nd)) q
 have nil:∀B,(∀a d,lV o a d=none)->PDs X W (.AugAssign (.Attribute (.Name x pos') f p2) B e pos) (gh C (.agf i c f o ma)):=λB hn=>by refine⟨_,ly,λb F Y H ρ τ θ Dd D T n R ⟨y,h,q⟩ E=>?_⟩;obtain⟨r,d0,t,z,dk,s,f0,I,e2,ek,h⟩:=bn5 h;rw[hn]at h;cases h
 cases o with
 |add=>exact O _ _ AY λa d r h=>by cases d<;>cases h;exact⟨_,rfl,rfl⟩
 |sub=>exact O _ _ AZ λa d r h=>by cases d<;>cases h;exact⟨_,rfl,rfl⟩
 |_=>exact nil _ λa d=>rfl
theorem pK{K:Waa}:∀{xs:List V}{ds:List PyData}{ns:List Int},DtAll K H xs ds->iw ds=some ns->xs=ns.map V.int
 |[],_,ns,.nil,e=>by cases e;rfl
 |_::_,_::_,ns,.cons h t,e=>by obtain⟨i,r,d,e2,e⟩:=bn2 e;cases e;rw[a9 d]at h;cases h;rw[pK t e2];rfl
def Cr(h:nmR ρ i=some r):ev C (.nm i) ρ=some (r,ρ):=by
 show (match ρ[i]?.join with
  |some (OD.fz d)=>some (OR.val (OD.fz d),ρ)
  |some _=>some (OR.rf i,ρ)
  |none=>none)=_
 unfold nmR at h;cases e:ρ[i]?.join with
 |none=>rw[e]at h;cases h
 |some x=>rw[e]at h;cases x<;>(cases h;rfl)
theorem FD(g:(apos.endLine==cpos.line)=true)(hs:isStar e=false):PDe X (.Name x pos') (aF C (.nm i))->PDe X e (aF C ma)->PDe X (.Call (.Attribute (.Name x pos') "index" apos) [e] [] cpos) (aF C (.idl i ma))
 |⟨_,h1,s1⟩,⟨_,h2,s2⟩=>⟨_,lD abG PySem.F.slot_list_index PySem.F.type_list_index rV h1 (aP h2 bz (ax hs)) rfl (uT hs) g (ax hs) (bM rfl),λb F σ H ρ τ θ Qd Q l R ⟨y,h,q⟩ O=>by
  obtain⟨r0,d0,Z,z,d,e1,e2,e3,e4,B,h⟩:=bn5 h;obtain⟨n,d1,ds,S,_,L,D,N,e9,k,h⟩:=bn5 h;obtain⟨j,Y,h⟩:=bnd h;cases h;have k:=gd_ok k;refine s1 b F σ H ρ τ θ (λr f=>r=r0/\f=ρ) _ l R ⟨(r0,ρ),Cr e1,rfl,rfl⟩ λv H1 r a0 I w=>?_;obtain⟨s,o⟩:=w;subst s o;rw[kn e3]at e2;rw[a9 L]at B;rw[kn N]at D;have hd:=I.dt e2;cases hd with
  |@lst a xs _ hq hall=>
   rw[l]at hq;refine⟨.inl ⟨rfl,_,hq⟩,?_⟩;refine s2 b F σ H1 _ _ _ (λr f=>r=z.1/\f=z.2) _ l I ⟨z,e4,rfl,rfl⟩ λu M r T A w=>?_;obtain⟨s,o⟩:=w;subst s o;have U:=A.dt B;cases U;have t:=A.dt2 D;cases t with
   |@lst _ xs2 _ hq2 hall2=>
    rw[l]at hq2;rw[pK hall2 e9]at hq2;obtain⟨J,p1,p2⟩:=acR.mp Y;refine⟨a,S,n,j,rfl,rfl,hq2,?_,λm P k=>?_,by omega,O _ M _ _ (A.drop.drop.sc (.int j)) q⟩
    ·rw[aap J,Daa p1]
    ·obtain⟨hl,k⟩:=aaj.mp k;exact p2 m P (Dac k)⟩
end
end
section
section
variable{X:Cx}{C:Ct}{a e e2:Expr}{es:List Expr}{ma mb:E}{mes:Es}{pos p p1 p2 apos:Pos}{x:Str}{i j:Nat}{k n:Nat}{f:Addr}{fd:FuncData}{ps:List Str}{sp:DSp}{c m:Str}{ff:Nat}
def si{E:XK}(g:tX sp)(r:vs.length=rs.length)(s:Rel b F σ H ρ1 (vs++τ) (rs++θ))(A:aU ios ρ1 rs=some (xs,ρ2))(h:sp xs P)
  (q:∀x ys v l,P x ys->Rel b F σ l (dM ios rs ys ρ2) (v::τ) (.val x::θ)->Q v l):toSp b.K sp vs H Q E:=by
 obtain⟨t,e2⟩:=argsR_ok s r A;have y:=((aJ r).mp s.al).1;have w:=t.vals e2;refine w.call e2 g (g _ _ _ (λx ys B d v l z=>q x ys v l B ?_) h);have u:Rel b F σ l ρ2 (v::(vs++τ)) (.val x::(ys.map OR.val++θ)):=by have o:=t.drops (by simpa using e2);refine⟨o.wf,(aJ (by simpa using d)).mpr ⟨fB d,o.al⟩,o.wff,?_⟩;show Wd b l ((v,x)::(stk (vs++τ) (ys.map OR.val++θ)++_));rw[aB (by simpa using d),cp d,aad];exact z
 exact bU y d (Rel.v3 u (by simpa using d))
def spC(g:List OD->Option (OD×List OD)):DSp:=λb Q=>∃w,g b=some w/\Q w.1 w.2
def uU(g:List OD->Option (OD×List OD)):tX (spC g):=λb P R h ⟨w,e,q⟩=>⟨w,e,h _ _ q⟩
theorem jI{f:Str}:∀{fs:List (Str×V)},f ∉ fs.map (·.1)->fs.lookup f=none
 |[],_=>rfl
 | (g,q)::fs,h=>by
  have d:f≠g:=λe=>h (by simp[e]);have b:(f==g)=false:=by simpa using d
  have:=jI λz=>h (by rw[aam];exact aah _ z);simp[List.lookup,b,this]
def l7(G:FnD X.prog X.w X.K X.mg X.base k f fd ps (spC (C.call ff)))(s1:tY X.K ta (fF C mes)):bG X.K (tm (au X.K c) m (toSp X.K (spC (C.call ff))) [] E0 (tVar i) ta) (aF C (.meth c m ff i mes)):=λb F L H M U W Qd Q u R ⟨y,h,q⟩ T=>by
 obtain⟨x0,uu,_,J,f0,d,h⟩:=bn3 h;obtain⟨A,d⟩:=gd_ok d;rw[km f0,A]at J
 ··obtain⟨z,e1,h⟩:=bnd h
   obtain⟨o,w,e2,e3,h⟩:=bn2 h;cases h;obtain⟨v,N,w0⟩:=R.slot (join_some J);obtain⟨l,Y,Z,O,hH,B,hl,go⟩:=Wd.mutO (us:=[]) (zs:=[]) (ks:=[]) w0 rfl rfl;cases O;rw[<-B]at d;refine⟨.ref l,N,l,Y,Z,rfl,u▸hH,jI d,?_⟩;have R0:Rel b F L H M (.ref l::U) (.rf i::W):=⟨R.wf,⟨N,R.al⟩,R.wff,R.wd⟩
   refine s1 b F L H M _ _ (λr s=>r=z.1/\s=z.2) _ u R0 ⟨z,e1,rfl,rfl⟩ λvs H1 rs a0 D R1 hZ=>?_;obtain⟨t,g⟩:=hZ;subst t g;rw[aaq,<-u];refine si (P:=λx I=>x=w.1/\I=w.2) G.mono (by simp[D]) (Rel.xc R1 D) e2 ⟨w,e3,rfl,rfl⟩ λx I v H' hx S=>?_;obtain⟨t,g⟩:=hx;subst t g;exact T v H' _ _ S q
def HR(d:methodCallForm n args kws=true)(b:(apos.endLine==pos.line)=true):
  methodCall o name apos pos env ov n args kws=(do let (f,first) <-holding [ov] (getMethod ov name (do return (<-importBound o env).getD true));callWith pos f first args kws):=by
 unfold methodCall calleeOf methodCallPos;rw[d,b];rfl
def uV(h:es.any isStar=false)(o:decide (es.length<30)=true)(g:(apos.endLine==pos.line)=true):
  eval (.Call (.Attribute (.Name x p1) m apos) es [] pos) env=(do
   let b <-eval (.Name x p1) env
   standAt apos.atName
   let (f,first) <-holding [b] (getMethod b m (do return (<-importBound (.Name x p1) env).getD true))
   callWith pos f first (backTo pos (starEach es env)) (backToKw pos (keywordEach [] env))):=by
 have l:methodCallForm (es.length+([]:List Keyword).length) (backTo pos (starEach es env)) (backToKw pos (keywordEach [] env))=true:=by
  have q:(backTo pos (starEach es env)).all (λz=>!z.1)=true:=by have:=bM (pos:=pos) (env:=env) h;rw[abm];intro z d;rw[acg]at this;have:=this z d;simpa using this
  unfold methodCallForm;rw[q];simpa[keywordEach,backToKw] using o
 show (eval (.Name x p1) env >>= λb=>standAt apos.atName >>= λ_=>methodCall (.Name x p1) m apos pos env b (es.length+([]:List Keyword).length) (backTo pos (starEach es env)) (backToKw pos (keywordEach [] env)))=_;simp only[HR l g]
def Cu(t:Cls X.K (au X.K c))(v:Meth X.K (au X.K c) m f)(G:FnD X.prog X.w X.K X.mg X.base k f fd ps (spC (C.call ff)))(o:Room k X.A)(r:Binds X.K fd ps [])
  (h:X.N[i]?=some x) (u:Vis X.env.scope x) (s:(x==("__debug__":Str))=false) (d:(x==("__classdict__":Str))=false) (g:isStar e=false) (b:es.any isStar=false) (q:decide ((e::es).length<30)=true) (l:(apos.endLine==pos.line)=true):
  PDa X (e::es) (fF C mes)->PDe X (.Call (.Attribute (.Name x p1) m apos) (e::es) [] pos) (aF C (.meth c m ff i mes))
 |⟨_,h1,s1⟩=>⟨_,xl (E:=E0) (bH h u s d) t v G.ok o r .nil oQ h1 (ax g) (bM b) (uV (by rw[aa0,g,b];rfl) q l),l7 G s1⟩
def yh(u:Cls X.K (au X.K c))(g:Meth X.K (au X.K c) m f)(G:FnD X.prog X.w X.K X.mg X.base k f fd ps (spC (C.call ff)))(r:Room k X.A)(B:Binds X.K fd ps [])
  (z:X.N[i]?=some x) (v:Vis X.env.scope x) (s:(x==("__debug__":Str))=false) (d:(x==("__classdict__":Str))=false) (o:(apos.endLine==pos.line)=true):
  PDe X (.Call (.Attribute (.Name x p1) m apos) [] [] pos) (aF C (.meth c m ff i .nil)):=
 ⟨_,tq (bH z v s d) u g G.ok r B .nil oQ (uV rfl rfl o),l7 G λb F L H t D I J Q M R ⟨y,h,q⟩ l=>by
  cases h;exact l [] H [] t rfl R q⟩
theorem Wd.newObj{p dx:Addr}(w:Wd b H L)(g:H p=none)(h:H dx=none)(t:dx≠p):Wd b (upd (upd H dx (.own p)) p (.ins (au b.K c) dx [])) ((.ref p,.obj c [] [])::L):=by
 obtain⟨A,l,B,q⟩:=w.out;have v:=w.al l g;have y:=w.al l h;have F:=w.q7 l;have J:=w.new h (o:=.own p);have s:upd H dx (.own p) p=none:=by rw[upd_ne (λe=>t e.symm)];exact g
 have r:=J.new s (o:=.ins (au b.K c) dx []);have D:Kp (λc=>c∈A\/b.S0 c) H (upd (upd H dx (.own p)) p (.ins (au b.K c) dx [])):=⟨λc o e _=>by
   rw[upd_ne (λz=>by subst z;rw[g]at e;cases e),upd_ne (λz=>by subst z;rw[h]at e;cases e)];exact e,λc e=>by
   by_cases z:c=p
   ·subst z;exact g
   ·rw[upd_ne z]at e;by_cases u:c=dx
    ·subst u;exact h
    ·rw[upd_ne u]at e;exact e⟩
 have n:∀c,(c∈p::dx::A\/b.S0 c)->(c∈A\/b.S0 c)\/H c=none:=λc z=>by
  rcases z with z|z
  ·rcases aac.mp z with rfl|z
   ·exact .inr g
   ·rcases aac.mp z with rfl|z
    ·exact .inr h
    ·exact .inl (.inl z)
  ·exact .inl (.inr z)
 refine⟨⟨p::dx::A,Ows.cons (A:=[p,dx]) (.obj ar (by rw[upd_ne t];exact ar) rfl rfl .nil) (Ows.step D n F (λa d=>?_) l),aaA.mpr ⟨λz=>?_,aaA.mpr ⟨λz=>y (.inl z),B⟩⟩,λa d=>?_⟩,r.fr,r.s0,r.nt⟩
 ·have I:a≠p:=λe=>v (.inl (e▸d));have e2:a≠dx:=λe=>y (.inl (e▸d));rw[upd_ne I,upd_ne e2]
 ·rcases aac.mp z with z|z
  ·exact t z.symm
  ·exact v (.inl z)
 ·rcases aac.mp d with rfl|d
  ·exact .inl (w.u4 g)
  ·rcases aac.mp d with rfl|d
   ·exact .inl (w.u4 h)
   ·exact q a d
theorem uW(G:FnD X.prog X.w X.K X.mg X.base k f fd ps (spC (C.mak ff)))(s1:tY X.K ta (fF C mes)):bG X.K (zF (au X.K c) (toSp X.K (spC (C.mak ff))) [] E0 ta) (aF C (.make c ff mes)):=λb F L H ρ D I Qd Q Y R ⟨y,h,q⟩ kk=>by
 obtain⟨z,o,w,e1,e2,e3,h⟩:=bn3 h;refine s1 b F L H ρ _ _ (λr A=>r=z.1/\A=z.2) _ Y R ⟨z,e1,rfl,rfl⟩ λvs H1 rs a0 P T hZ=>?_;obtain⟨h1,Z⟩:=hZ;subst h1 Z;intro t dx hp hx ne;obtain⟨O,u⟩:=argsR_ok T P e2;have al:=((aJ P).mp T.al).1;have w0:=Wd.newObj (c:=c) O.wd hp hx ne;have R3:Rel b F L _ o.2 (.ref t::(vs++D)) (.val (.obj c [] [])::(o.1.map OR.val++I)):=Rel.push O w0;rw[aaq,<-Y];have M:vs.length=o.1.length:=u;have w1:=Rel.vals (vs:=.ref t::vs) (xs:=.obj c [] []::o.1) R3 (by simp[M]);obtain⟨yy,ew,h⟩:=bnd h;obtain⟨B,g⟩:=B4 ew;obtain⟨U,l⟩:=yy;simp only at g
 ·cases h;refine w1.call (by simp[M]) G.mono ⟨w,e3,λs v N W=>?_⟩;rw[B,g]at W;rw[g]at s;have d:vs.length=l.length:=by simpa using s
  have J:=O.drops (by simpa using M);have S:Rel b F L N o.2 (v::(.ref t::(vs++D))) (.val (.fz .none)::.val U::(l.map OR.val++I)):=by refine⟨J.wf,(aJ (by simpa using d)).mpr ⟨fB d,J.al⟩,J.wff,?_⟩;show Wd b N ((v,.fz .none)::(.ref t,U)::(stk (vs++D) (l.map OR.val++I)++_));rw[aB (by simpa using d),cp d,aad];exact W
  have hv:=S.dt rfl;cases hv;refine⟨rfl,kk _ N _ _ ?_ q⟩;exact bU al d (Rel.v3 S.drop (by simpa using d))
def Cv(M:Mk X.K (au X.K c) f) (G:FnD X.prog X.w X.K X.mg X.base k f fd ps (spC (C.mak ff))) (h:Room (k+1) X.A) (g:Gl X x) (o:X.mg x=some (.ref (au X.K c))) (l:Binds X.K fd ps []) (b:(x==("__debug__":Str))=false)
  (q:isStar e=false) (d:es.any isStar=false):PDa X (e::es) (fF C mes)->PDe X (.Call (.Name x p) (e::es) [] pos) (aF C (.make c ff mes))
 |⟨_,h1,s1⟩=>⟨_,xm (E:=E0) M G.ok h g o l .nil oQ h1 b (ax q) (bM d),uW G s1⟩
end
def uX(b:Bs)(a:Addr)(ds:List PyData):jl b (Gd b.K a) [.ref a] [.val (.lst (ds.map OD.fz))] ds:=λF r H s p q R k=>by have g:listOf (.lst (ds.map OD.fz))=some ds:=ib ds;obtain⟨t,c,e,o,f,i⟩:=R.wd.ai cM g;cases e;refine⟨λh=>⟨⟨c,c[k]'(by omega),f,aap _⟩,λx n d ⟨m,j⟩ l=>?_⟩,λe=>⟨c,f,by omega⟩⟩;subst m;refine Rel.push R (i.pick (cD (j c f) ?_));rw[aat,l];rfl
section
variable{X:Cx}{C:Ct}{pos p:Pos}{x:Str}{i:Nat}
theorem yi{o:Tg} (n:X.N[i]?=some x) (hv:Vis X.env.scope x) (M:(x==("__debug__":Str))=false) (I:(x==("__classdict__":Str))=false) (hc:X.calm=true) (S:CompScope N nt fr X.N scope X.env.scope) (hg:∀c:CC,PDg (aY X N scope c) Ff nt tg (eN o)) (ha:∀c:CC,PDc (aY X N scope c) ifs elt (zT C mif me)):
  PDe X (.ListComp elt [⟨tg,.Name x p,ifs,0⟩] scope pos) (aF C (.compB i nt fr o mif me)):=by
 obtain⟨g,l⟩:=PDg.ex (Y:=λc=>aY X N scope c) (λ_=>rfl) hg;obtain⟨tc,m⟩:=PDc.ex (Y:=λc=>aY X N scope c) (λ_=>rfl) ha;refine⟨_,oT hc S (oJ (bH n hv M I)) (λc=>(l c).1) (λc D=>(m c).1 D) (λ_=>rfl),λb F σ H O τ θ Qd Q L R ⟨y,h,q⟩ k=>?_⟩;obtain⟨x0,xs,j,_,W,f0,e1,J,h⟩:=bn4 h;have J:=gd_ok J;rw[cW f0]at W
 ··obtain⟨z,e2,h⟩:=bnd h
   obtain⟨w,e3,h⟩:=bnd h;cases h;have T:=fzL_map e1;subst T;obtain⟨v,Z,U⟩:=R.moved W;obtain⟨a,us,rfl,el,hs,_⟩:=U.wd.ai (aaf _ aab) (ib j);rw[L]at hs;refine⟨_,Z,a,rfl,⟨us,hs⟩,?_⟩;have B:=jG (Iv:=λk e O=>aT (be C o mif me) (j.drop k) e O=some w) (λc=>(l c).2) (λc=>(m c).2) L rfl (λr hr=>.inl ⟨_,aao.mp hr⟩) U (uX b a j) J e2 e3 (λk d e O M f=>by
    obtain⟨u,t,A⟩:=iE _ _ _ k M f;obtain⟨P,e4,t⟩:=bnd t;exact⟨P,e4,u,t,A⟩) λH' D e s R' f=>by
    have f:aT (be C o mif me) (j.drop j.length) e s=some w:=f;rw[abv]at f;cases f;exact k _ H' _ _ (Rel.give (Rel.xc (vs:=[.ref D]) (rs:=[.val (.lst (e.map OD.fz))]) R' rfl) Z) q
   rw[L]at B;exact B
end
end
section
def cf(e:PySem.Expr):Option (Str):=if h:e.ctorIdx=23 then some (@PySem.Expr.Name.elim (λ_=>Str) e h λx _=>x) else none
def asNm_ok{e:PySem.Expr}{z:Str}(h:cf e=some z):∃p,e=.Name z p:=by
 by_cases a:e.ctorIdx=23
 ·revert h;exact@PySem.Expr.Name.elim (λe=>cf e=some z->∃p,e=.Name z p) e a λx p h=>by cases h;exact⟨p,rfl⟩
 ·rw[cf,dif_neg a]at h;cases h
def jJ(e:PySem.Expr):Option (Const):=if h:e.ctorIdx=19 then some (@PySem.Expr.Constant.elim (λ_=>Const) e h λc _ _=>c) else none
def iH{e:PySem.Expr}{z:Const}(h:jJ e=some z):∃j p,e=.Constant z j p:=by
 by_cases a:e.ctorIdx=19
 ·revert h;exact@PySem.Expr.Constant.elim (λe=>jJ e=some z->∃j p,e=.Constant z j p) e a λc j p h=>by cases h;exact⟨j,p,rfl⟩
 ·rw[jJ,dif_neg a]at h;cases h
def pL(e:PySem.Expr):Option (Expr×Operator×Expr):=if h:e.ctorIdx=2 then some (@PySem.Expr.BinOp.elim (λ_=>Expr×Operator×Expr) e h λx o y _=>(x,o,y)) else none
def uY(h:pL e=some z):∃p,e=.BinOp z.1 z.2.1 z.2.2 p:=by
 by_cases a:e.ctorIdx=2
 ·revert h;exact@PySem.Expr.BinOp.elim (λe=>pL e=some z->∃p,e=.BinOp z.1 z.2.1 z.2.2 p) e a λx o y p h=>by cases h;exact⟨p,rfl⟩
 ·rw[pL,dif_neg a]at h;cases h
def l8(e:PySem.Expr):Option (Expr×List CmpOp×List Expr):=if h:e.ctorIdx=15 then some (@PySem.Expr.Compare.elim (λ_=>Expr×List CmpOp×List Expr) e h λx b a _=>(x,b,a)) else none
def asCmp_ok(h:l8 e=some z):∃p,e=.Compare z.1 z.2.1 z.2.2 p:=by
 by_cases a:e.ctorIdx=15
 ·revert h;exact@PySem.Expr.Compare.elim (λe=>l8 e=some z->∃p,e=.Compare z.1 z.2.1 z.2.2 p) e a λx b c p h=>by cases h;exact⟨p,rfl⟩
 ·rw[l8,dif_neg a]at h;cases h
def yj(e:PySem.Expr):Option (BoolOp×List Expr×Pos):=if h:e.ctorIdx=0 then some (@PySem.Expr.BoolOp.elim (λ_=>BoolOp×List Expr×Pos) e h λo a p=>(o,a,p)) else none
def yk(h:yj e=some z):e=.BoolOp z.1 z.2.1 z.2.2:=by
 by_cases a:e.ctorIdx=0
 ·revert h;exact@PySem.Expr.BoolOp.elim (λe=>yj e=some z->e=.BoolOp z.1 z.2.1 z.2.2) e a λo b p h=>by cases h;exact rfl
 ·rw[yj,dif_neg a]at h;cases h
def uZ(e:PySem.Expr):Option (UnaryOp×Expr):=if h:e.ctorIdx=3 then some (@PySem.Expr.UnaryOp.elim (λ_=>UnaryOp×Expr) e h λo x _=>(o,x)) else none
def pM{e:PySem.Expr}{z:UnaryOp×Expr}(h:uZ e=some z):∃p,e=.UnaryOp z.1 z.2 p:=by
 by_cases a:e.ctorIdx=3
 ·revert h;exact@PySem.Expr.UnaryOp.elim (λe=>uZ e=some z->∃p,e=.UnaryOp z.1 z.2 p) e a λo x p h=>by cases h;exact⟨p,rfl⟩
 ·rw[uZ,dif_neg a]at h;cases h
def yl(e:PySem.Expr):Option (Expr×Expr×Expr):=if h:e.ctorIdx=5 then some (@PySem.Expr.IfExp.elim (λ_=>Expr×Expr×Expr) e h λc a b _=>(c,a,b)) else none
def ym(h:yl e=some z):∃p,e=.IfExp z.1 z.2.1 z.2.2 p:=by
 by_cases d:e.ctorIdx=5
 ·revert h;exact@PySem.Expr.IfExp.elim (λe=>yl e=some z->∃p,e=.IfExp z.1 z.2.1 z.2.2 p) e d λc a b p h=>by cases h;exact⟨p,rfl⟩
 ·rw[yl,dif_neg d]at h;cases h
def cQ(e:PySem.Expr):Option (List Expr):=if h:e.ctorIdx=25 then some (@PySem.Expr.Tuple.elim (λ_=>List Expr) e h λa _ _=>a) else none
def asTup_ok(h:cQ e=some z):∃k p,e=.Tuple z k p:=by
 by_cases a:e.ctorIdx=25
 ·revert h;exact@PySem.Expr.Tuple.elim (λe=>cQ e=some z->∃k p,e=.Tuple z k p) e a λb k p h=>by cases h;exact⟨k,p,rfl⟩
 ·rw[cQ,dif_neg a]at h;cases h
def pN(e:PySem.Expr):Option (List Expr):=if h:e.ctorIdx=24 then some (@PySem.Expr.List.elim (λ_=>List Expr) e h λa _=>a) else none
def u6(h:pN e=some z):∃p,e=.List z p:=by
 by_cases a:e.ctorIdx=24
 ·revert h;exact@PySem.Expr.List.elim (λe=>pN e=some z->∃p,e=.List z p) e a λb p h=>by cases h;exact⟨p,rfl⟩
 ·rw[pN,dif_neg a]at h;cases h
def eR(e:PySem.Expr):Option (Expr×Expr):=if h:e.ctorIdx=21 then some (@PySem.Expr.Subscript.elim (λ_=>Expr×Expr) e h λx y _=>(x,y)) else none
def cR(h:eR e=some z):∃p,e=.Subscript z.1 z.2 p:=by
 by_cases a:e.ctorIdx=21
 ·revert h;exact@PySem.Expr.Subscript.elim (λe=>eR e=some z->∃p,e=.Subscript z.1 z.2 p) e a λx y p h=>by cases h;exact⟨p,rfl⟩
 ·rw[eR,dif_neg a]at h;cases h
def FE(e:PySem.Expr):Option (Option Expr×Option Expr×Option Expr):=if h:e.ctorIdx=26 then some (@PySem.Expr.Slice.elim (λ_=>Option Expr×Option Expr×Option Expr) e h λl a s _=>(l,a,s)) else none
def gi(e:PySem.Expr):Option (Expr×List Expr×List Keyword×Pos):=if h:e.ctorIdx=16 then some (@PySem.Expr.Call.elim (λ_=>Expr×List Expr×List Keyword×Pos) e h λf b a p=>(f,b,a,p)) else none
def gj(h:gi e=some z):e=.Call z.1 z.2.1 z.2.2.1 z.2.2.2:=by
 by_cases a:e.ctorIdx=16
 ·revert h;exact@PySem.Expr.Call.elim (λe=>gi e=some z->e=.Call z.1 z.2.1 z.2.2.1 z.2.2.2) e a λf c b p h=>by cases h;exact rfl
 ·rw[gi,dif_neg a]at h;cases h
def gE(e:PySem.Expr):Option (Expr×Str×Pos):=if h:e.ctorIdx=20 then some (@PySem.Expr.Attribute.elim (λ_=>Expr×Str×Pos) e h λo f p=>(o,f,p)) else none
def asAtt_ok(h:gE e=some z):e=.Attribute z.1 z.2.1 z.2.2:=by
 by_cases a:e.ctorIdx=20
 ·revert h;exact@PySem.Expr.Attribute.elim (λe=>gE e=some z->e=.Attribute z.1 z.2.1 z.2.2) e a λo f p h=>by cases h;exact rfl
 ·rw[gE,dif_neg a]at h;cases h
def pO(e:PySem.Expr):Option (List (Option Expr)×List Expr):=if h:e.ctorIdx=6 then some (@PySem.Expr.Dict.elim (λ_=>List (Option Expr)×List Expr) e h λb a _=>(b,a)) else none
def u7{e:PySem.Expr}{z:List (Option Expr)×List Expr}(h:pO e=some z):∃p,e=.Dict z.1 z.2 p:=by
 by_cases a:e.ctorIdx=6
 ·revert h;exact@PySem.Expr.Dict.elim (λe=>pO e=some z->∃p,e=.Dict z.1 z.2 p) e a λb c p h=>by cases h;exact⟨p,rfl⟩
 ·rw[pO,dif_neg a]at h;cases h
def l9(e:PySem.Expr):Option (Expr×List Comprehension×Scope×Pos):=if h:e.ctorIdx=8 then some (@PySem.Expr.ListComp.elim (λ_=>Expr×List Comprehension×Scope×Pos) e h λx a s p=>(x,a,s,p)) else none
def kB(h:l9 e=some z):e=.ListComp z.1 z.2.1 z.2.2.1 z.2.2.2:=by
 by_cases a:e.ctorIdx=8
 ·revert h;exact@PySem.Expr.ListComp.elim (λe=>l9 e=some z->e=.ListComp z.1 z.2.1 z.2.2.1 z.2.2.2) e a λx b s p h=>by cases h;exact rfl
 ·rw[l9,dif_neg a]at h;cases h
def HS:Const->Option Int|.int k=>some k|_=>none
def HU:Const->Option Str|.str k=>some k|_=>none
def HV:Const->Option Bool|.bool k=>some k|_=>none
def mf(e:Expr):Option Int:=(jJ e).bind HS
def zV(e:Expr):Option Str:=(jJ e).bind HU
def Cw(e:Expr):Option Bool:=(jJ e).bind HV
def zW(e:Expr):Bool:=(pO e).any λz=>z.1.isEmpty&&z.2.isEmpty
def isTup(e:Expr):Bool:=(cQ e).isSome
def anyT{b:Type}{o:Option b}{p:b->Bool}(h:o.any p=true):∃a,o=some a/\p a=true:=by
 cases o with
 |none=>cases h
 |some a=>exact⟨a,rfl,h⟩
def ay2{α β:Type}{o:Option α}{g1:α->Option β}{f:α->β->Bool}(h:(o.any λa=>(g1 a).any (f a))=true):∃a b,o=some a/\g1 a=some b/\f a b=true:=by obtain⟨a,p0,h⟩:=anyT h;obtain⟨b,p1,h⟩:=anyT h;exact⟨a,b,p0,p1,h⟩
def ay3{α β γ:Type}{o:Option α}{g1:α->Option β}{g2:α->β->Option γ}{f:α->β->γ->Bool}(h:(o.any λa=>(g1 a).any λb=>(g2 a b).any (f a b))=true):∃a b c,o=some a/\g1 a=some b/\g2 a b=some c/\f a b c=true:=by obtain⟨a,p0,h⟩:=anyT h;obtain⟨b,p1,h⟩:=anyT h;obtain⟨c,p2,h⟩:=anyT h;exact⟨a,b,c,p0,p1,p2,h⟩
def ay4{α β γ δ:Type}{o:Option α}{g1:α->Option β}{g2:α->β->Option γ}{g3:α->β->γ->Option δ}{f:α->β->γ->δ->Bool}(h:(o.any λa=>(g1 a).any λb=>(g2 a b).any λc=>(g3 a b c).any (f a b c))=true):∃a b c d,o=some a/\g1 a=some b/\g2 a b=some c/\g3 a b c=some d/\f a b c d=true:=by obtain⟨a,p0,h⟩:=anyT h;obtain⟨b,p1,h⟩:=anyT h;obtain⟨c,p2,h⟩:=anyT h;obtain⟨d,p3,h⟩:=anyT h;exact⟨a,b,c,d,p0,p1,p2,p3,h⟩
def ay5{α β γ δ ε:Type}{o:Option α}{g1:α->Option β}{g2:α->β->Option γ}{g3:α->β->γ->Option δ}{g4:α->β->γ->δ->Option ε}{f:α->β->γ->δ->ε->Bool}(h:(o.any λa=>(g1 a).any λb=>(g2 a b).any λc=>(g3 a b c).any λd=>(g4 a b c d).any (f a b c d))=true):∃a b c d e,o=some a/\g1 a=some b/\g2 a b=some c/\g3 a b c=some d/\g4 a b c d=some e/\f a b c d e=true:=by obtain⟨a,p0,h⟩:=anyT h;obtain⟨b,p1,h⟩:=anyT h;obtain⟨c,p2,h⟩:=anyT h;obtain⟨d,p3,h⟩:=anyT h;obtain⟨e,p4,h⟩:=anyT h;exact⟨a,b,c,d,e,p0,p1,p2,p3,p4,h⟩
def an2{a b:Bool}(h:(a&&b)=true):a=true/\b=true:=ab1.mp h
section
variable{e:Expr}
def asInt_ok{k:Int}(h:mf e=some k):∃j p,e=.Constant (.int k) j p:=by obtain⟨c,a,h⟩:=bnd h;obtain⟨j,p,rfl⟩:=iH a;cases c<;>cases h;exact⟨j,p,rfl⟩
def asStr_ok(h:zV e=some k):∃j p,e=.Constant (.str k) j p:=by obtain⟨c,a,h⟩:=bnd h;obtain⟨j,p,rfl⟩:=iH a;cases c<;>cases h;exact⟨j,p,rfl⟩
def asBl_ok(h:Cw e=some k):∃j p,e=.Constant (.bool k) j p:=by obtain⟨c,a,h⟩:=bnd h;obtain⟨j,p,rfl⟩:=iH a;cases c<;>cases h;exact⟨j,p,rfl⟩
def u9(h:zW e=true):∃p,e=.Dict [] [] p:=by obtain⟨z,c,h⟩:=anyT h;obtain⟨p,rfl⟩:=u7 c;obtain⟨a,b⟩:=an2 h;rw[abH]at a b;exact⟨p,by rw[a,b]⟩
def fH(h:isTup e=true):∃xs k p,e=.Tuple xs k p:=by obtain⟨z,a⟩:=abt.mp h;obtain⟨k,p,rfl⟩:=asTup_ok a;exact⟨z,k,p,rfl⟩
end
def an3(h:(a&&b&&c)=true):a=true/\b=true/\c=true:=⟨(an2 (an2 h).1).1,(an2 (an2 h).1).2,(an2 h).2⟩
def an4(h:(a&&b&&c&&d)=true):a=true/\b=true/\c=true/\d=true:=⟨(an3 (an2 h).1).1,(an3 (an2 h).1).2.1,(an3 (an2 h).1).2.2,(an2 h).2⟩
def an5(h:(a&&b&&c&&d&&e)=true):a=true/\b=true/\c=true/\d=true/\e=true:=⟨(an4 (an2 h).1).1,(an4 (an2 h).1).2.1,(an4 (an2 h).1).2.2.1,(an4 (an2 h).1).2.2.2,(an2 h).2⟩
def bt(h:(!a)=true):a=false:=by cases a<;>first|rfl|cases h
def mh{a:Type}:List a->Option (a×List a)|x::xs=>some (x,xs)|_=>none
def con1_ok{a:Type}{l:List a}{x:a×List a}(h:mh l=some x):l=x.1::x.2:=by cases l<;>cases h;rfl
structure Tb where
 fn:Nat->Option Str
 me:Nat->Option (Str×Str)
 mk':Nat->Option Str
 gc:Nat->Option Str
 nog:Str->Bool
 fld:Str->Str->Bool
structure Cy (t:Tb)(C:Ct)(X:Cx):Prop where
 calm:X.calm=true
 units:X.A.units+64<cLine
 guards:X.A.guards=some []
 hfn:∀j nm,t.fn j=some nm->∃k fa fd ps,FnD X.prog X.w X.K X.mg X.base k fa fd ps (spC (C.call j))/\Room k X.A/\X.mg nm=some (.ref fa)/\PySem.W.keepIn X.K (.ref fa)=true/\Binds X.K fd ps []
 hme:∀j c m,t.me j=some (c,m)->Cls X.K (au X.K c)/\∃k fa fd ps,Meth X.K (au X.K c) m fa/\FnD X.prog X.w X.K X.mg X.base k fa fd ps (spC (C.call j))/\Room k X.A/\Binds X.K fd ps []
 hmk:∀j c,t.mk' j=some c->∃k fa fd ps,Mk X.K (au X.K c) fa/\FnD X.prog X.w X.K X.mg X.base k fa fd ps (spC (C.mak j))/\Room (k+1) X.A/\X.mg c=some (.ref (au X.K c))/\Binds X.K fd ps []
 hgc:∀g nm,t.gc g=some nm->∃v u,X.mg nm=some u/\RelV v u/\∀S H,Fz X.K S H v (C.gv g)
 hng:∀x,t.nog x=true->X.mg x=none
 hfl:∀c f,t.fld c f=true->Cls X.K (au X.K c)/\NoAttr X.K (au X.K c) f
def Cy.comp(c:Cy t C X):Cy t C (aY X N sc q):=⟨c.calm,c.units,c.guards,c.hfn,c.hme,c.hmk,c.hgc,c.hng,c.hfl⟩
def sEq(x y:Str):Bool:=decide (x=y)
def bJ(h:sEq x y=true):x=y:=Daa h
def kindB(sc:Scope)(x:Str)(k:NameKind):Bool:=decide (sc.names.lookup x=some k)
def aH(h:kindB sc x k=true):sc.names.lookup x=some k:=Daa h
def Cz(sc:Scope)(x:Str):Bool:=kindB sc x .local||kindB sc x .cell||kindB sc x .free
def yn(sc:Scope)(x:Str):Bool:=kindB sc x .local||kindB sc x .cell
def yo(h:Cz sc x=true):Vis sc x:=by
 unfold Cz at h;rw[abI,abI]at h;rcases h with (h|h)|h
 ·exact .inl (aH h)
 ·exact .inr (.inl (aH h))
 ·exact .inr (.inr (aH h))
def pP(h:yn sc x=true):Loc sc x:=by
 unfold yn at h;rw[abI]at h;rcases h with h|h
 ·exact .inl (aH h)
 ·exact .inr (aH h)
def okN(x:Str):Bool:=!(x==("__debug__":Str))&&!(x==("__classdict__":Str))
def sL(N:List Str)(sc:Scope)(i:Nat)(x:Str):Bool:=decide (N[i]?=some x)&&Cz sc x&&okN x
structure NmX (X:Cx)(i:Nat)(x:Str):Prop where
 n:X.N[i]?=some x
 v:Vis X.env.scope x
 d:(x==("__debug__":Str))=false
 c:(x==("__classdict__":Str))=false
def bK(h:sL X.N X.env.scope i x=true):NmX X i x:=by unfold sL okN at h;simp only[aaI,ab6]at h;exact⟨Daa h.1.1,yo h.1.2,h.2.1,h.2.2⟩
def yp(N:List Str)(sc:Scope)(i:Nat)(e:Expr):Bool:=(cf e).any λx=>sL N sc i x
def gm{N:List Str}(h:yp N sc i e=true):∃x p,e=.Name x p/\sL N sc i x=true:=by obtain⟨x,a,h⟩:=anyT h;obtain⟨p,rfl⟩:=asNm_ok a;exact⟨x,p,rfl,h⟩
def Dw(sc:Scope)(x:Str):Bool:=kindB sc x .globalImplicit&&!(x==("__debug__":Str))
def dR(h:Dw X.env.scope x=true):Gl X x/\(x==("__debug__":Str))=false:=by unfold Dw at h;rw[aaI]at h;exact⟨aH h.1,by simpa using h.2⟩
def vc(t:Tb)(sc:Scope)(x y:Str):Bool:=sEq x y&&Dw sc x&&t.nog x
def blB_ok(c:Cy t C X)(h:vc t X.env.scope x y=true):x=y/\Gl X y/\X.mg y=none:=by unfold vc at h;simp only[aaI]at h;obtain⟨⟨d,a⟩,b⟩:=h;have:=bJ d;subst this;exact⟨rfl,(dR a).1,c.hng _ b⟩
def Gr(o:Bo)(a:Operator):Bool:=decide (a=opOf o)
def nR(h:Gr o op=true):op=opOf o:=Daa h
def Gs(o:Co)(a:CmpOp):Bool:=decide (a=coOf o)
def iI(h:Gs o op=true):op=coOf o:=Daa h
def isSet:Expr->Bool
 |.Set _ _ _=>true
 |_=>false
def dS(a:CmpOp)(h:isSet e=false):behindInMarks a e=false:=by cases e<;>first|rfl|cases h
def fg(h:isSet e=false):∀x,foldedSetIterable e env x=pure x:=by cases e<;>first|(intro _;rfl)|cases h
def isCall:Expr->Bool
 |.Call _ _ _ _=>true
 |_=>false
def kC(h:isCall e=false):attributeBase e f env (eval e env)=eval e env:=by cases e<;>first|rfl|cases h
def CA:UnaryOp->Bool|.USub=>true|_=>false
def pQ{o:UnaryOp}(h:CA o=true):o=.USub:=by cases o<;>first|rfl|cases h
def IH(k:Int)(e:Expr):Bool:=((mf e).any λj=>decide (j=k))||(uZ e).any λz=>CA z.1&&(mf z.2).any λj=>decide (-j=k)
section
variable{X:Cx}{k:Int}{e:Expr}
def FF{j:Nat}{p a:Pos}:PX X (.UnaryOp .USub (.Constant (.int k) j p) a) (λ_=>some (.int (-k))):=⟨_,zD sW jW,λb H Q v e q=>by cases e;exact⟨k,rfl,q⟩⟩
def vd(h:IH k e=true):PX X e (λ_=>some (.int k))/\bQ e=false:=by
 rcases Bool.or_eq_true_iff.mp h with h|h
 ·obtain⟨j,a,h⟩:=anyT h;obtain⟨_,_,rfl⟩:=asInt_ok a;have:=Daa h;subst this;exact⟨Fi,rfl⟩
 ·obtain⟨z,a,h⟩:=anyT h;obtain⟨p,rfl⟩:=pM a;obtain⟨j,b,d⟩:=anyT (an2 h).2;obtain⟨_,_,c⟩:=asInt_ok b;have:=Daa d;subst this;rw[pQ (an2 h).1,c];exact⟨FF,rfl⟩
end
def cH(t:Tb)(N:List Str)(sc:Scope)(i:Nat):List Acc->Expr->Bool
 |[]=>λe=>yp N sc i e
 |.fld c f::ps=>λe=>(gE e).any λz=>sEq z.2.1 f&&t.fld c f&&!isCall z.1&&cH t N sc i ps z.1
 |.ix k::ps=>λe=>(eR e).any λz=>IH k z.2&&cH t N sc i ps z.1
 |.key j::ps=>λe=>(eR e).any λz=>yp N sc j z.2&&cH t N sc i ps z.1
section
variable{t:Tb}{C:Ct}{X:Cx}{i j:Nat}{e:Expr}
def vf(h:yp X.N X.env.scope j e=true):PX X e (λσ=>σ[j]?.join)/\bQ e=false:=by obtain⟨x,p,rfl,h⟩:=gm h;obtain⟨c,a,b,d⟩:=bK h;exact⟨HF c a b d,rfl⟩
def HW(h:bQ e=false):NoSl e:=by cases e<;>first|exact λ_ _=>rfl|cases h
theorem aZ(c:Cy t C X):∀(ps:List Acc) (e:Expr),cH t X.N X.env.scope i ps e=true->PDp X e i ps
 |[],e,h=>by obtain⟨x,p,rfl,h⟩:=gm h;obtain⟨b,m,n,o⟩:=bK h;exact HG b m n o
 |.fld cn f::ps,e,h=>by obtain⟨z,b,k⟩:=anyT h;obtain⟨a,d,l,g⟩:=an4 k;rw[asAtt_ok b,bJ a];exact Fk (kC (bt l)) (c.hfl _ _ d).1 (c.hfl _ _ d).2 (aZ c ps _ g)
 |.ix k::ps,e,h=>by obtain⟨z,b,k⟩:=anyT h;obtain⟨a,d⟩:=an2 k;obtain⟨p,rfl⟩:=cR b;exact HH (ku (vd (X:=X) a).2) (aZ c ps _ d) (vd a).1
 |.key j::ps,e,h=>by obtain⟨z,b,k⟩:=anyT h;obtain⟨a,d⟩:=an2 k;obtain⟨p,rfl⟩:=cR b;exact Fo (by have:=c.units;omega) (HW (vf a).2) (aZ c ps _ d) (vf a).1
end
def kD(a:Nat->Bool)(N:List Str)(sc:Scope)(fn:Bool)(m i:Nat)(x:Str):Bool:=decide (N[i]?=some x)&&yn sc x&&(fn||kindB sc x .local)&&decide (i<m)&&a i
def vg(a:Nat->Bool)(N:List Str)(sc:Scope)(fn:Bool)(m:Nat):List Nat->List Expr->Bool
 |[]=>λes=>es.isEmpty
 |i::is=>λes=>(mh es).any λz=>(cf z.1).any λx=>kD a N sc fn m i x&&vg a N sc fn m is z.2
def jn(a:Nat->Bool)(N:List Str)(sc:Scope)(fn:Bool)(m:Nat):Tg->Expr->Bool
 |.nm i=>λe=>(cf e).any λx=>kD a N sc fn m i x
 |.tp ts=>λe=>(cQ e).any λes=>vg a N sc fn m ts es
section
variable{X:Cx}{W:Nat->Prop}{ok:Nat->Bool}{fn:Bool}{m:Nat}
def cX{i:Nat}{x:Str}(c:fn=true->∀x,X.fn x=true)(a:∀i,ok i=true->¬ W i)(h:kD ok X.N X.env.scope fn m i x=true):Sto X W m i x:=by unfold kD at h;simp only[aaI,abI]at h;obtain⟨⟨⟨⟨f,d⟩,e⟩,g⟩,b⟩:=h;exact⟨Daa f,pP d,e.imp (λz=>c z x) aH,Daa g,a i b⟩
theorem mj(b:fn=true->∀x,X.fn x=true)(a:∀i,ok i=true->¬ W i):∀(c:List Nat) (es:List Expr),vg ok X.N X.env.scope fn m c es=true->Stos X W m c es
 |[],es,h=>by
  cases es with
  |nil=>exact .nil
  |cons _ _=>cases h
 |i::is,es,h=>by obtain⟨z,x,f,d,k⟩:=ay2 h;obtain⟨p,e⟩:=asNm_ok d;rw[con1_ok f,e];exact .cons (cX b a (an2 k).1) (mj b a is _ (an2 k).2)
def cF{a:Tg}{e:Expr}(g:X.calm=true)(d:X.N.Nodup)(f:fn=true->∀x,X.fn x=true)(c:∀i,ok i=true->¬ W i)(h:jn ok X.N X.env.scope fn m a e=true):PDg X W m e (eN a):=by
 cases a with
 |nm i=>obtain⟨x,b,k⟩:=anyT h;obtain⟨p,rfl⟩:=asNm_ok b;exact Hz d (cX f c k)
 |tp l=>obtain⟨j,b,k⟩:=anyT h;obtain⟨_,_,rfl⟩:=asTup_ok b;exact HA g d (mj f c _ _ k)
end
def eO(sc a:Scope):Scope:={ sc with names:=sc.names.map λ(n,k)=>if (k==NameKind.free&&a.kind==.function&&a.names.lookup n==some .cell) then (n,NameKind.cell) else (n,k) }
def ml:Expr->List Str
 |.Name x _=>[x]
 |.Tuple [.Name x _,.Tuple es _ _] _ _=>x::es.filterMap fun|.Name x _=>some x|_=>none
 |.Tuple es _ _=>es.filterMap fun|.Name x _=>some x|_=>none
 |_=>[]
def vh(N:List Str)(nt:Nat)(b:List Str)(sc a:Scope):Nat->List Nat->Bool
 |_,[]=>true
 |i,j::fr=>(match N[nt+i]? with
  |some x=>decide (b[j]?=some x)&&kindB a x .cell&&kindB sc x .free
  |none=>false)&&vh N nt b sc a (i+1) fr
def compB(N:List Str)(nt:Nat)(fr:List Nat)(b:List Str)(sc a:Scope):Bool:=
 decide (sc.kind=.function)&&sc.names.all (λx=>!decide (x.2=.cell))&&sc.names.all (λx=>!decide (x.2=.local)||kindB sc x.1 .local)&&decide (N.length=nt+fr.length)&&vh N nt b sc a 0 fr &&
  sc.names.all (λx=>!decide (x.2=.free)||(kindB a x.1 .cell&&kindB sc x.1 .free))
theorem pR:∀{fr:List Nat}{a:Nat},vh N nt ON sc osc a fr=true->∀(i j:Nat),fr[i]?=some j->∃x,N[nt+(a+i)]?=some x/\ON[j]?=some x/\osc.names.lookup x=some .cell/\sc.names.lookup x=some .free
 |[],_,_,i,j,e=>by simp at e
 |j0::fr,a,h,0,j,e=>by
  simp at e;subst e;simp only[vh,aaI]at h;obtain⟨h,_⟩:=h;split at h
  ·rename_i x d;simp only[aaI]at h;exact⟨x,d,Daa h.1.1,aH h.1.2,aH h.2⟩
  ·cases h
 |j0::fr,a,h,i+1,j,e=>by simp only[vh,aaI]at h;obtain⟨x,c,b⟩:=pR h.2 i j (by simpa using e);exact⟨x,by rw[show a+(i+1)=a+1+i by omega];exact c,b⟩
def cS(h:compB N nt fr ON sc osc=true):CompScope N nt fr ON sc osc:=by
 unfold compB at h;simp only[aaI,abm,abI,ab6,decide_eq_false_iff_not,decide_eq_true_eq]at h;obtain⟨⟨⟨⟨⟨g,d⟩,f⟩,k⟩,c⟩,b⟩:=h;refine⟨g,λx a=>d x a,λx a e=>?_,k,λi j e=>?_,λx a e=>?_,λx a e=>?_⟩
 ·exact(f x a).elim (λz=>absurd e z) aH
 ·have:=pR c i j e;rwa [aa2]at this
 ·exact(b x a).elim (λz=>absurd e z) λz=>aH z.1
 ·exact(b x a).elim (λz=>absurd e z) λz=>aH z.2
end
section
abbrev Ck:=List Str->Scope->Expr->Bool
def fI(f:Ck):Ck×Ck:=(f,λN a e=>plainT e&&f N a e)
def Jq:Bn->Str
 |.tuple=>"tuple"
def Jr:Knd->Str
 |.int=>"int" |.bool=>"bool" |.str=>"str" |.list=>"list" |.tuple=>"tuple" |.seq=>"list"
def yq(e:Expr):Option (Str×List Expr):=(gi e).bind λz=>(cf z.1).bind λx=>if z.2.2.1.isEmpty then some (x,z.2.1) else none
def kF{z}(h:yq e=some z):∃p a,e=.Call (.Name z.1 p) z.2 [] a:=by
 obtain⟨c,x,g,b,h⟩:=bn2 h;obtain⟨f,i,d,a⟩:=c;cases d with
 |cons _ _=>cases h
 |nil=>cases h;obtain⟨p,rfl⟩:=asNm_ok b;exact⟨p,a,gj g⟩
def CB(e:Expr):Option (Expr×CmpOp×Expr):=(l8 e).bind λz=>(eM z.2.1).bind λo=>(eM z.2.2).bind λy=>some (z.1,o,y)
def yr{z}(h:CB e=some z):∃p,e=.Compare z.1 [z.2.1] [z.2.2] p:=by obtain⟨c,o,y,g,f,d,h⟩:=bn3 h;cases h;obtain⟨x,i,j⟩:=c;obtain⟨p,rfl⟩:=asCmp_ok g;have b:=one1_ok f;have a:=one1_ok d;simp only at b a;subst b a;exact⟨p,rfl⟩
def cmp2(e:Expr):Option (Expr×(CmpOp×CmpOp)×(Expr×Expr)):=(l8 e).bind λz=>(kj z.2.1).bind λo=>(kj z.2.2).bind λy=>some (z.1,o,y)
def pS{z}(h:cmp2 e=some z):∃p,e=.Compare z.1 [z.2.1.1,z.2.1.2] [z.2.2.1,z.2.2.2] p:=by obtain⟨c,o,y,g,f,d,h⟩:=bn3 h;cases h;obtain⟨x,i,j⟩:=c;obtain⟨p,rfl⟩:=asCmp_ok g;have b:=two2_ok f;have a:=two2_ok d;simp only at b a;subst b a;exact⟨p,rfl⟩
def HX(a:Bool):CmpOp->Bool
 |.Is=>!a|.IsNot=>a|_=>false
def CD:BoolOp->Bool|.And=>true|_=>false
def pT(h:CD o=true):o=.And:=by cases o<;>first|rfl|cases h
def HY:BoolOp->Bool|.Or=>true|_=>false
def vj(h:HY o=true):o=.Or:=by cases o<;>first|rfl|cases h
def CF:UnaryOp->Bool|.Not=>true|_=>false
def pU(h:CF o=true):o=.Not:=by cases o<;>first|rfl|cases h
def CG:Operator->Bool|.Add=>true|_=>false
def pV(h:CG o=true):o=.Add:=by cases o<;>first|rfl|cases h
def II(e:Expr):Option (Expr×Option Expr×Option Expr):=(eR e).bind λz=>(FE z.2).bind λs=>if s.2.2.isNone then some (z.1,s.1,s.2.1) else none
def yt(e:Expr):Option (Str×Str×List Expr×Pos×Pos):=(gi e).bind λz=>(gE z.1).bind λa=>(cf a.1).bind λx=>if z.2.2.1.isEmpty then some (x,a.2.1,z.2.1,a.2.2,z.2.2.2) else none
def kG{z}(h:yt e=some z):∃p,e=.Call (.Attribute (.Name z.1 p) z.2.1 z.2.2.2.1) z.2.2.1 [] z.2.2.2.2:=by
 obtain⟨c,a,x,k,g,j,h⟩:=bn3 h;obtain⟨f,n,i,q⟩:=c;obtain⟨o,m,l⟩:=a;cases i with
 |cons _ _=>cases h
 |nil=>cases h;obtain⟨p,b⟩:=asNm_ok j;have d:=asAtt_ok g;simp only at d b;subst b;subst d;exact⟨p,gj k⟩
def yu(e:PySem.Expr):Option (Expr×Expr×List Comprehension×Scope×Pos):=if h:e.ctorIdx=10 then some (@PySem.Expr.DictComp.elim (λ_=>Expr×Expr×List Comprehension×Scope×Pos) e h λk x a s p=>(k,x,a,s,p)) else none
def yv(h:yu e=some z):e=.DictComp z.1 z.2.1 z.2.2.1 z.2.2.2.1 z.2.2.2.2:=by
 by_cases a:e.ctorIdx=10
 ·revert h;exact@PySem.Expr.DictComp.elim (λe=>yu e=some z->e=.DictComp z.1 z.2.1 z.2.2.1 z.2.2.2.1 z.2.2.2.2) e a λk x b s p h=>by cases h;exact rfl
 ·rw[yu,dif_neg a]at h;cases h
def vk(e:Expr):Option (Expr×Expr×Expr×Expr×List Expr×Scope×Pos):=(yu e).bind λz=>(eM z.2.2.1).bind λg=>if g.is_async=0 then some (z.1,z.2.1,g.target,g.iter,g.ifs,z.2.2.2.1,z.2.2.2.2) else none
def mo{z}(h:vk e=some z):e=.DictComp z.1 z.2.1 [⟨z.2.2.1,z.2.2.2.1,z.2.2.2.2.1,0⟩] z.2.2.2.2.2.1 z.2.2.2.2.2.2:=by
 obtain⟨c,g,d,f,h⟩:=bn2 h;obtain⟨k,x,o,m,p⟩:=c;obtain⟨j,l,n,i⟩:=g;simp only at h;by_cases a:i=0
 ·subst a;rw[if_pos rfl]at h;cases h;have b:=one1_ok f;simp only at b;rw[yv d,b]
 ·rw[if_neg a]at h;cases h
def vm(e:Expr):Option (Expr×Expr×Expr×List Expr×Scope×Pos):=(l9 e).bind λz=>(eM z.2.1).bind λg=>if g.is_async=0 then some (z.1,g.target,g.iter,g.ifs,z.2.2.1,z.2.2.2) else none
def iJ{z}(h:vm e=some z):e=.ListComp z.1 [⟨z.2.1,z.2.2.1,z.2.2.2.1,0⟩] z.2.2.2.2.1 z.2.2.2.2.2:=by
 obtain⟨c,g,d,f,h⟩:=bn2 h;obtain⟨x,n,l,p⟩:=c;obtain⟨j,k,m,i⟩:=g;simp only at h;by_cases a:i=0
 ·subst a;rw[if_pos rfl]at h;cases h;have b:=one1_ok f;simp only at b;subst b;exact kB d
 ·rw[if_neg a]at h;cases h
def zX(e:Expr):Option (Expr×(Expr×Expr)×(Expr×Expr)×Scope×Pos):=(l9 e).bind λz=>(kj z.2.1).bind λg=>if g.1.is_async=0/\g.2.is_async=0/\g.1.ifs.isEmpty=true/\g.2.ifs.isEmpty=true then some (z.1,(g.1.target,g.1.iter),(g.2.target,g.2.iter),z.2.2.1,z.2.2.2) else none
def vn{e:Expr}{z}(h:zX e=some z):e=.ListComp z.1 [⟨z.2.1.1,z.2.1.2,[],0⟩,⟨z.2.2.1.1,z.2.2.1.2,[],0⟩] z.2.2.2.1 z.2.2.2.2:=by
 obtain⟨c,g,n,d,h⟩:=bn2 h;obtain⟨x,u,t,p⟩:=c;obtain⟨⟨s,r,q,o⟩,j,k,i,m⟩:=g;simp only at h;split at h
 ·rename_i f;obtain⟨rfl,rfl,l,b⟩:=f;cases abH.mp l;cases abH.mp b;cases h;have a:=two2_ok d;simp only at a;subst a;exact kB n
 ·cases h
end
section
section
variable(t:Tb)
def iK(o:Co)(f g:Ck):Ck:=λN a e=>(CB e).any λz=>Gs o z.2.1&&!isSet z.2.2&&f N a z.1&&g N a z.2.2
def vo(o b:Co)(f g k:Ck):Ck:=λN a e=>(cmp2 e).any λz=>Gs o z.2.1.1&&Gs b z.2.1.2&&!isSet z.2.2.2&&(f N a z.1&&g N a z.2.2.1&&k N a z.2.2.2)
def vp(b:BoolOp->Bool)(f g:Ck):Ck:=λN a e=>(yj e).any λz=>b z.1&&((mh z.2.1).any λx=>(mh x.2).any λy=>f N a x.1&&bif y.2.isEmpty then g N a y.1 else g N a (.BoolOp z.1 x.2 z.2.2))
def yw(b:UnaryOp->Bool)(f:Ck):Ck:=λN a e=>(uZ e).any λz=>b z.1&&f N a z.2
def pW(b:Operator->Bool)(f g:Ck):Ck:=λN a e=>(pL e).any λz=>b z.2.1&&f N a z.1&&g N a z.2.2
def kH(p:Str->Bool)(f:List Str->Scope->List Expr->Bool):Ck:=λN a e=>(yq e).any λz=>p z.1&&Dw a z.1&&!z.2.isEmpty&&!z.2.any isStar&&f N a z.2
def cY(p:Str)(f:Ck):Ck:=λN a e=>(yq e).any λz=>(eM z.2).any λx=>vc t a z.1 p&&!isStar x&&f N a x
def nS(p:Str)(f g:Ck):Ck:=λN a e=>(yq e).any λz=>(kj z.2).any λx=>vc t a z.1 p&&!isStar x.1&&!isStar x.2&&f N a x.1&&g N a x.2
def FG(k:Knd):Ck:=λN a e=>match k with
 |.seq=>(cQ e).any λz=>(kj z).any λw=>((cf w.1).any λu=>vc t a u "list")&&(cf w.2).any λv=>vc t a v "tuple"
 |k=>(cf e).any λu=>vc t a u (Jr k)
def IJ(a k:Bool)(f:Ck):Ck:=λN b e=>(CB e).any λz=>HX a z.2.1&&f N b z.1&&(Cw z.2.2).any λj=>decide (j=k)
mutual
noncomputable def aQ:E->Ck×Ck
 |.nm i=>fI λN sc e=>yp N sc i e
 |.mv i=>fI λN sc e=>yp N sc i e
 |.int k=>fI λN sc e=>(mf e).any λj=>decide (j=k)
 |.str k=>fI λN sc e=>(zV e).any λj=>sEq j k
 |.bl k=>fI λN sc e=>(Cw e).any λj=>decide (j=k)
 |.gc g=>fI λN sc e=>(cf e).any λx=>decide (t.gc g=some x)&&Dw sc x
 |.bop o a b=>fI (pW (Gr o) (aQ a).1 (aQ b).1)
 |.cat a b=>fI (pW CG (aQ a).1 (aQ b).1)
 |.catV a b=>fI (pW CG (aQ a).1 (aQ b).1)
 |.cmp o a b=>(iK o (aQ a).1 (aQ b).1,iK o (aQ a).1 (aQ b).1)
 |.cmp2 o o' a b c=>(vo o o' (aQ a).1 (aQ b).1 (aQ c).1,vo o o' (aQ a).1 (aQ b).1 (aQ c).1)
 |.and a b=>(vp CD (aQ a).1 (aQ b).1,vp CD (aQ a).2 (aQ b).2)
 |.or a b=>(vp HY (aQ a).1 (aQ b).1,vp HY (aQ a).2 (aQ b).2)
 |.not a=>(yw CF (aQ a).1,yw CF (aQ a).2)
 |.neg a=>fI (yw CA (aQ a).1)
 |.ife c a b=>fI λN sc e=>(yl e).any λz=>(aQ c).2 N sc z.1&&(aQ a).1 N sc z.2.1&&(aQ b).1 N sc z.2.2
 |.tup es=>fI λN sc e=>(cQ e).any λxs=>gS es N sc xs
 |.lst es=>fI λN sc e=>(pN e).any λxs=>gS es N sc xs
 |.ix a b=>fI λN sc e=>(eR e).any λz=>!bQ z.2&&(aQ a).1 N sc z.1&&(aQ b).1 N sc z.2
 |.call f es=>fI (kH (λx=>decide (t.fn f=some x)) (gS es))
 |.blt f es=>fI (kH (λx=>sEq x (Ca f)&&t.nog x) (gS es))
 |.bnw f a=>fI (cY t (Jq f) (aQ a).1)
 |.isi k a=>fI (nS t "isinstance" (aQ a).1 (FG t k))
 |.lset a=>fI (cY t "len" (cY t "set" (aQ a).1))
 |.sst a=>fI (cY t "sorted" (cY t "set" (aQ a).1))
 |.idl i b=>fI λN sc e=>(yt e).any λz=>(eM z.2.2.1).any λy=>sEq z.2.1 "index" && sL N sc i z.1&&(z.2.2.2.1.endLine==z.2.2.2.2.line)&&!isStar y&&(aQ b).1 N sc y
 |.dnew=>fI λN sc e=>zW e
 |.pg i ps=>fI λN sc e=>cH t N sc i ps e
 |.pf i ps=>fI λN sc e=>cH t N sc i ps e
 |.pl i ps=>fI (cY t "len" λN sc e=>cH t N sc i ps e)
 |.pt i ps=>(λ_ _ _=>false,λN sc e=>plainT e&&cH t N sc i ps e)
 |.pin neg a i ps=>(iK (if neg then .nin else .inn) (aQ a).1 λN sc e=>cH t N sc i ps e,iK (if neg then .nin else .inn) (aQ a).1 λN sc e=>cH t N sc i ps e)
 |.din neg a i ps=>(iK (if neg then .nin else .inn) (aQ a).1 λN sc e=>cH t N sc i ps e,iK (if neg then .nin else .inn) (aQ a).1 λN sc e=>cH t N sc i ps e)
 |.comp nt fr it tg ifs elt=>fI λN sc e=>(vm e).any λz=>(λd=>compB d nt fr N z.2.2.2.2.1 sc&&decide d.Nodup&&!isSet z.2.2.1&&nU it N sc z.2.1 z.2.2.1&&(jn (λ_=>true) d (eO z.2.2.2.2.1 sc) false nt tg z.2.1&&CH ifs d (eO z.2.2.2.2.1 sc) z.2.2.2.1&&(aQ elt).1 d (eO z.2.2.2.2.1 sc) z.1)) (ml z.2.1++fr.filterMap λj=>N[j]?)
 |.compB i nt fr tg ifs elt=>fI λN sc e=>(vm e).any λz=>(λd=>compB d nt fr N z.2.2.2.2.1 sc&&decide d.Nodup&&yp N sc i z.2.2.1&&(jn (λ_=>true) d (eO z.2.2.2.2.1 sc) false nt tg z.2.1&&CH ifs d (eO z.2.2.2.2.1 sc) z.2.2.2.1&&(aQ elt).1 d (eO z.2.2.2.2.1 sc) z.1)) (ml z.2.1++fr.filterMap λj=>N[j]?)
 |.meth c m f i es=>fI λN sc e=>(yt e).any λz=>decide (t.me f=some (c,m))&&sEq z.2.1 m&&sL N sc i z.1&&!z.2.2.1.any isStar&&(decide (z.2.2.1.length<30)&&(z.2.2.2.1.endLine==z.2.2.2.2.line)&&gS es N sc z.2.2.1)
 |.make c f es=>fI (kH (λx=>decide (t.mk' f=some c)&&sEq x c) (gS es))
noncomputable def gS:Es->List Str->Scope->List Expr->Bool
 |.nil=>λN sc xs=>xs.isEmpty
 |.cons a es=>λN sc xs=>(mh xs).any λz=>!isStar z.1&&(aQ a).1 N sc z.1&&gS es N sc z.2
noncomputable def CH:Eo->List Str->Scope->List Expr->Bool
 |.none=>λN sc o=>o.isEmpty
 |.some a=>λN sc o=>(eM o).any λx=>(aQ a).2 N sc x
noncomputable def nU:It'->List Str->Scope->Expr->Expr->Bool
 |.seq a=>λN sc g e=>(aQ a).1 N sc e
 |.rg1 a=>λN sc g e=>cY t "range" (aQ a).1 N sc e
 |.enm a=>λN sc g e=>isTup g&&cY t "enumerate" (aQ a).1 N sc e
 |.zip a b=>λN sc g e=>isTup g&&nS t "zip" (aQ a).1 (aQ b).1 N sc e
end
end
def yx:Expr->Bool
 |.BoolOp _ _ _=>true
 |_=>false
structure EOk (t:Tb)(C:Ct)(m:E):Prop where
 v:∀X e,Cy t C X->(aQ t m).1 X.N X.env.scope e=true->PDe X e (aF C m)
 w:∀X e,Cy t C X->yx e=true->(aQ t m).2 X.N X.env.scope e=true->PDw X e (iz C m)
 t:∀X e,Cy t C X->(aQ t m).2 X.N X.env.scope e=true->PDt X e (iz C m)
section
variable{t:Tb}{C:Ct}{X:Cx}{e:Expr}
def kI(h:yx e=true):∃o xs p,e=.BoolOp o xs p:=by cases e<;>first|exact⟨_,_,_,rfl⟩|cases h
def aD(a:(aQ t m).2=λN sc e=>plainT e&&(aQ t m).1 N sc e)(f:bj C m=(vt (ev C m)).2)(b:∀X e,Cy t C X->(aQ t m).1 X.N X.env.scope e=true->PDe X e (aF C m)):EOk t C m:=
 ⟨b,λX e c d h=>by
  rw[a]at h;obtain⟨o,g,p,rfl⟩:=kI d;exact absurd h aal,
  λX e c h=>by
  rw[a]at h;exact EZ f (an2 h).1 (b X e c (an2 h).2)⟩
def iL(b:∀(X:Cx) e,yx e=true->(aQ t m).2 X.N X.env.scope e=false)(f:∀X e,Cy t C X->(aQ t m).1 X.N X.env.scope e=true->PDe X e (aF C m))(a:∀X e,Cy t C X->(aQ t m).2 X.N X.env.scope e=true->PDt X e (iz C m)):EOk t C m:=
 ⟨f,λX e c d h=>absurd h (by rw[b X e d];exact aal),a⟩
def vq{f:Ck}(a:yx e=true)(h:∀o xs p,f N sc (.BoolOp o xs p)=false):f N sc e=false:=by obtain⟨o,xs,p,rfl⟩:=kI a;exact h o xs p
def ckBin_ok(h:pW b f g N sc e=true):∃x o y p,e=.BinOp x o y p/\b o=true/\f N sc x=true/\g N sc y=true:=by obtain⟨z,a,h⟩:=anyT h;obtain⟨p,rfl⟩:=uY a;exact⟨_,_,_,p,rfl,an3 h⟩
def ckUn_ok(h:yw b f N sc e=true):∃o x p,e=.UnaryOp o x p/\b o=true/\f N sc x=true:=by obtain⟨z,a,h⟩:=anyT h;obtain⟨p,rfl⟩:=pM a;exact⟨_,_,p,rfl,an2 h⟩
def cT(h:iK o f g N sc e=true):∃x y p,e=.Compare x [coOf o] [y] p/\isSet y=false/\f N sc x=true/\g N sc y=true:=by obtain⟨z,a,h⟩:=anyT h;obtain⟨p,rfl⟩:=yr a;obtain⟨a,b,c,d⟩:=an4 h;exact⟨_,_,p,by rw[iI a],bt b,c,d⟩
def gn(h:kH p f N sc e=true):∃x z zs q a,e=.Call (.Name x q) (z::zs) [] a/\p x=true/\Dw sc x=true/\isStar z=false/\zs.any isStar=false/\f N sc (z::zs)=true:=by
 obtain⟨z,b,h⟩:=anyT h;obtain⟨q,a,rfl⟩:=kF b;obtain⟨b,d,i,k,c⟩:=an5 h;obtain⟨x,j⟩:=z;cases j with
 |nil=>cases i
 |cons y g=>have:=bt k;rw[aa0,ab2]at this;exact⟨x,y,g,q,a,rfl,b,d,this.1,this.2,c⟩
def bE(h:cY t p f N sc e=true):∃x z q b,e=.Call (.Name x q) [z] [] b/\vc t sc x p=true/\isStar z=false/\f N sc z=true:=by obtain⟨z,w,c,a,h⟩:=ay2 h;obtain⟨q,b,rfl⟩:=kF c;obtain⟨x,g⟩:=z;have:=one1_ok a;simp only at this;subst this;obtain⟨c,a,d⟩:=an3 h;exact⟨x,w,q,b,rfl,c,bt a,d⟩
def jK(h:nS t p f g N sc e=true):∃x z w q b,e=.Call (.Name x q) [z,w] [] b/\vc t sc x p=true/\isStar z=false/\isStar w=false/\f N sc z=true/\g N sc w=true:=by obtain⟨z,w,c,a,h⟩:=ay2 h;obtain⟨q,b,rfl⟩:=kF c;obtain⟨x,k⟩:=z;have:=two2_ok a;simp only at this;subst this;obtain⟨c,a,i,j,d⟩:=an5 h;exact⟨x,_,_,q,b,rfl,c,bt a,bt i,j,d⟩
def ckBo_ok(h:vp b f g N sc e=true):∃o x y es p,e=.BoolOp o (x::y::es) p/\b o=true/\f N sc x=true/\((es=[]/\g N sc y=true)\/g N sc (.BoolOp o (y::es) p)=true):=by
 obtain⟨z,m,h⟩:=anyT h;have:=yk m;subst this;obtain⟨d,h⟩:=an2 h;obtain⟨x,y,k,n,h⟩:=ay2 h;obtain⟨c,h⟩:=an2 h;obtain⟨o,q,p⟩:=z;obtain⟨x,l⟩:=x;obtain⟨y,es⟩:=y;have j:=con1_ok k;have i:=con1_ok n;simp only at j i;subst i;subst j;cases es with
 |nil=>exact⟨o,x,y,[],p,rfl,d,c,.inl ⟨rfl,h⟩⟩
 |cons a es=>exact⟨o,x,y,a::es,p,rfl,d,c,.inr h⟩
def t_cmp2(n:X.A.units+64<cLine)(N:lastMarks [coOf o,coOf o'] [b,c]=false)(S:PDe X a (aF C ma))(M:PDe X b (aF C mb))(W:PDe X c (aF C mc)):PDt X (.Compare a [coOf o,coOf o'] [b,c] pos) (iz C (.cmp2 o o' ma mb mc)):=by
 obtain⟨Y,U,T⟩:=iA n o;obtain⟨O,g,i⟩:=iA n o';refine(rN U T g i N S M W).imp λF Q P=>?_;obtain⟨x,h,y,d,q⟩:=kz rfl (λF x h=>by
  obtain⟨s,l,r,p,k,H,D,w,z,J,h⟩:=bn5 h;cases k with
  |false=>rw[if_neg aal]at h;cases h;exact⟨_,rfl⟩
  |true=>
   rw[if_pos rfl]at h;obtain⟨u,f,B,I,j,L,m,v,h⟩:=bn4 h;cases h;exact⟨_,rfl⟩) F Q P
 obtain⟨s,l,r,p,k,H,D,w,z,J,h⟩:=bn5 h;refine⟨s,H,l,D,r,p,w,z,k,J,k,rfl,?_⟩;cases k with
 |false=>rw[if_neg aal]at h;cases h;rw[if_neg aal];exact⟨y,d,q⟩
 |true=>rw[if_pos rfl]at h ⊢;obtain⟨u,f,B,I,j,L,m,v,h⟩:=bn4 h;cases h;exact⟨u,j,f,B,L,m,I,v,y,d,q⟩
def nV(a:Gl X x) (f:X.mg x=none) (d:bootBuiltins x=some (.type T)) (b:x≠"__name__") (c:(x==("__debug__":Str))=false):PE X (.Name x p) (tC (.ty T)):=wX a f d rfl b c
theorem CI(c:Cy t C X) (P:vc t X.env.scope x "isinstance"=true) (i:isStar z=false) (f:FG t k X.N X.env.scope w=true) (l:PDe X z (aF C ma)):PDe X (.Call (.Name x q) [z,w] [] q') (aF C (.isi k ma)):=by
 obtain⟨B,j,g⟩:=blB_ok c P;subst B;have d:∀{T:Str},((cf w).any λu=>vc t X.env.scope u T)=true->∃p,w=.Name T p/\Gl X T/\X.mg T=none:=λ{T} h=>by obtain⟨u,n,m⟩:=anyT h;obtain⟨p,rfl⟩:=asNm_ok n;obtain⟨o,a,b⟩:=blB_ok c m;subst o;exact⟨p,rfl,a,b⟩
 cases k with
 |int=>obtain⟨p,rfl,a,b⟩:=d f;exact iC rfl (nV a b tO (by decide) (by decide)) j g i rfl l
 |bool=>obtain⟨p,rfl,a,b⟩:=d f;exact iC rfl (nV a b xu (by decide) (by decide)) j g i rfl l
 |str=>obtain⟨p,rfl,a,b⟩:=d f;exact iC rfl (nV a b Bj (by decide) (by decide)) j g i rfl l
 |list=>obtain⟨p,rfl,a,b⟩:=d f;exact iC rfl (nV a b oU (by decide) (by decide)) j g i rfl l
 |tuple=>obtain⟨p,rfl,a,b⟩:=d f;exact iC rfl (nV a b hU (by decide) (by decide)) j g i rfl l
 |seq=>obtain⟨Y,J,n,m,f⟩:=ay2 f;obtain⟨F,y⟩:=an2 f;obtain⟨u,I,A⟩:=anyT F;obtain⟨v,D,H⟩:=anyT y;obtain⟨U,p1,rfl⟩:=asTup_ok n;have:=two2_ok m;subst this;obtain⟨Z,S⟩:=J;obtain⟨W,s⟩:=asNm_ok I;obtain⟨Q,r⟩:=asNm_ok D;simp only at s r;subst s r;obtain⟨o,a,b⟩:=blB_ok c A;obtain⟨O,L,M⟩:=blB_ok c H;subst o O;exact Cb (nV a b oU (by decide) (by decide)) (nV L M hU (by decide) (by decide)) j g i rfl rfl l
mutual
theorem bf:∀m:E,EOk t C m
 |.nm i=>aD rfl rfl λX e c h=>by obtain⟨x,p,rfl,h⟩:=gm h;obtain⟨l,s,n,A⟩:=bK h;exact ES l s n A
 |.mv i=>aD rfl rfl λX e c h=>by obtain⟨x,p,rfl,h⟩:=gm h;obtain⟨l,s,n,A⟩:=bK h;exact Hu l s n A
 |.int k=>aD rfl rfl λX e c h=>by obtain⟨j,l,h⟩:=anyT h;obtain⟨_,_,rfl⟩:=asInt_ok l;have:=Daa h;subst this;exact ET
 |.str k=>aD rfl rfl λX e c h=>by obtain⟨j,l,h⟩:=anyT h;obtain⟨_,_,rfl⟩:=asStr_ok l;have:=bJ h;subst this;exact EU
 |.bl k=>aD rfl rfl λX e c h=>by obtain⟨j,l,h⟩:=anyT h;obtain⟨_,_,rfl⟩:=asBl_ok l;have:=Daa h;subst this;exact Hv
 |.gc g=>aD rfl rfl λX e c h=>by obtain⟨x,l,h⟩:=anyT h;obtain⟨_,rfl⟩:=asNm_ok l;obtain⟨v,u,I,H,F⟩:=c.hgc _ _ (Daa (an2 h).1);exact Hw (dR (an2 h).2).1 I H F (dR (an2 h).2).2
 |.bop o a b=>aD rfl rfl λX e c h=>by obtain⟨x,o',y,p,rfl,l,s,n⟩:=ckBin_ok h;have:=nR l;subst this;exact EN ((bf a).v X _ c s) ((bf b).v X _ c n)
 |.cat a b=>aD rfl rfl λX e c h=>by obtain⟨x,o',y,p,rfl,l,s,n⟩:=ckBin_ok h;have:=pV l;subst this;exact E5 ((bf a).v X _ c s) ((bf b).v X _ c n)
 |.catV a b=>aD rfl rfl λX e c h=>by obtain⟨x,o',y,p,rfl,l,s,n⟩:=ckBin_ok h;have:=pV l;subst this;exact B6 ((bf a).v X _ c s) ((bf b).v X _ c n)
 |.cmp o a b=>iL (λX e P=>vq (f:=(aQ t (.cmp o a b)).2) P λ_ _ _=>rfl) (λX e c h=>by
  obtain⟨x,y,p,rfl,s,n,A⟩:=cT h;exact EO c.units (dS _ s) ((bf a).v X _ c n) ((bf b).v X _ c A)) λX e c h=>by
  obtain⟨x,y,p,rfl,s,n,A⟩:=cT h;exact ER c.units (dS _ s) ((bf a).v X _ c n) ((bf b).v X _ c A)
 |.cmp2 o o' a b d=>iL (λX e P=>vq (f:=(aQ t (.cmp2 o o' a b d)).2) P λ_ _ _=>rfl) (λX e c h=>by
  obtain⟨z,l,h⟩:=anyT h;obtain⟨p,rfl⟩:=pS l;obtain⟨L,J,M,U⟩:=an4 h;obtain⟨T,Q,S⟩:=an3 U;rw[iI L,iI J];exact B5 c.units (dS _ (bt M)) ((bf a).v X _ c T) ((bf b).v X _ c Q) ((bf d).v X _ c S)) λX e c h=>by
  obtain⟨z,l,h⟩:=anyT h;obtain⟨p,rfl⟩:=pS l;obtain⟨L,J,M,U⟩:=an4 h;obtain⟨T,Q,S⟩:=an3 U;rw[iI L,iI J];exact t_cmp2 c.units (dS _ (bt M)) ((bf a).v X _ c T) ((bf b).v X _ c Q) ((bf d).v X _ c S)
 |.and a b=>by
  have hw:∀X e,Cy t C X->(aQ t (.and a b)).2 X.N X.env.scope e=true->PDw X e (iz C (.and a b)):=λX e c h=>by
   obtain⟨o,x,y,D,p,rfl,l,s,n⟩:=ckBo_ok h;have:=pT l;subst this;refine EW ((bf a).t X _ c s) ?_;rcases n with ⟨rfl,n⟩|n
   ·exact ud ((bf b).t X _ c n)
   ·exact(bf b).w X _ c rfl n
  refine⟨λX e c h=>?_,λX e c _ h=>hw X e c h,λX e c h=>(hw X e c h).pt⟩;obtain⟨o,x,y,D,p,rfl,l,s,n⟩:=ckBo_ok h;have:=pT l;subst this;refine v_and ((bf a).v X _ c s) ?_;rcases n with ⟨rfl,n⟩|n
  ·exact uc ((bf b).v X _ c n)
  ·exact(bf b).v X _ c n
 |.or a b=>by
  have hw:∀X e,Cy t C X->(aQ t (.or a b)).2 X.N X.env.scope e=true->PDw X e (iz C (.or a b)):=λX e c h=>by
   obtain⟨o,x,y,D,p,rfl,l,s,n⟩:=ckBo_ok h;have:=vj l;subst this;refine Hx ((bf a).t X _ c s) ?_;rcases n with ⟨rfl,n⟩|n
   ·exact xK ((bf b).t X _ c n)
   ·exact(bf b).w X _ c rfl n
  refine⟨λX e c h=>?_,λX e c _ h=>hw X e c h,λX e c h=>(hw X e c h).pt⟩;obtain⟨o,x,y,D,p,rfl,l,s,n⟩:=ckBo_ok h;have:=vj l;subst this;refine v_or ((bf a).v X _ c s) ?_;rcases n with ⟨rfl,n⟩|n
  ·exact uc ((bf b).v X _ c n)
  ·exact(bf b).v X _ c n
 |.not a=>iL (λX e P=>vq (f:=(aQ t (.not a)).2) P λ_ _ _=>rfl) (λX e c h=>by
  obtain⟨o,x,p,rfl,l,s⟩:=ckUn_ok h;have:=pU l;subst this;exact v_not ((bf a).v X _ c s)) λX e c h=>by
  obtain⟨o,x,p,rfl,l,s⟩:=ckUn_ok h;have:=pU l;subst this;exact EX ((bf a).t X _ c s)
 |.neg a=>aD rfl rfl λX e c h=>by obtain⟨o,x,p,rfl,l,s⟩:=ckUn_ok h;have:=pQ l;subst this;exact EV ((bf a).v X _ c s)
 |.ife z a b=>aD rfl rfl λX e c h=>by obtain⟨q,l,h⟩:=anyT h;obtain⟨p,rfl⟩:=ym l;obtain⟨L,J,M⟩:=an3 h;exact EY ((bf z).t X _ c L) ((bf a).v X _ c J) ((bf b).v X _ c M)
 |.tup D=>aD rfl rfl λX e c h=>by obtain⟨q,l,h⟩:=anyT h;obtain⟨_,_,rfl⟩:=asTup_ok l;exact E3 (yz D X _ c h)
 |.lst D=>aD rfl rfl λX e c h=>by obtain⟨q,l,h⟩:=anyT h;obtain⟨_,rfl⟩:=u6 l;exact E4 (yz D X _ c h)
 |.ix a b=>aD rfl rfl λX e c h=>by obtain⟨q,l,h⟩:=anyT h;obtain⟨_,rfl⟩:=cR l;obtain⟨L,J,M⟩:=an3 h;exact Hy (bt L) ((bf a).v X _ c J) ((bf b).v X _ c M)
 |.call f D=>aD rfl rfl λX e c h=>by obtain⟨x,z,zs,q,Y,rfl,l,s,n,A,O⟩:=gn (p:=λx=>decide (t.fn f=some x)) (f:=gS t D) (N:=X.N) (sc:=X.env.scope) (e:=e) h;obtain⟨k,fa,fd,B,I,H,F,g4,g5⟩:=c.hfn _ _ (Daa l);exact B7 I H (dR s).1 F g4 g5 (dR s).2 n A (yz D X _ c O)
 |.blt f D=>aD rfl rfl λX e c h=>by obtain⟨x,z,zs,q,Y,rfl,l,s,n,A,O⟩:=gn (p:=λx=>sEq x (Ca f)&&t.nog x) (f:=gS t D) (N:=X.N) (sc:=X.env.scope) (e:=e) h;have:=bJ (an2 l).1;subst this;exact E6 c.calm (dR s).1 (c.hng _ (an2 l).2) n A (yz D X _ c O)
 |.bnw f a=>aD rfl rfl λX e c h=>by
  obtain⟨x,z,q,Y,rfl,l,s,n⟩:=bE h;obtain⟨I,H,F⟩:=blB_ok c l;subst I;cases f with
  |tuple=>exact yc H F s ((bf a).v X _ c n)
 |.isi k a=>aD rfl rfl λX e c h=>by obtain⟨x,z,w,q,Y,rfl,l,s,n,A,O⟩:=jK h;exact CI c l s O ((bf a).v X _ c A)
 |.lset a=>aD rfl rfl λX e c h=>by obtain⟨x,z,q,Y,rfl,l,s,n⟩:=bE h;obtain⟨y,w,r,r',rfl,A,O,h6⟩:=bE n;obtain⟨I,H,F⟩:=blB_ok c l;obtain⟨k1,k2,k3⟩:=blB_ok c A;subst I k1;exact Cp c.calm H F k2 k3 O ((bf a).v X _ c h6)
 |.sst a=>aD rfl rfl λX e c h=>by obtain⟨x,z,q,Y,rfl,l,s,n⟩:=bE h;obtain⟨y,w,r,r',rfl,A,O,h6⟩:=bE n;obtain⟨I,H,F⟩:=blB_ok c l;obtain⟨k1,k2,k3⟩:=blB_ok c A;subst I k1;exact Fu c.calm H F k2 k3 O ((bf a).v X _ c h6)
 |.idl i b=>aD rfl rfl λX e c h=>by obtain⟨z,y,l,s,k'⟩:=ay2 h;obtain⟨p,rfl⟩:=kG l;obtain⟨L,J,M,U,W⟩:=an5 k';obtain⟨n1,Z,n3,n4⟩:=bK J;rw[one1_ok s,bJ L];exact FD M (bt U) (ES n1 Z n3 n4) ((bf b).v X _ c W)
 |.dnew=>aD rfl rfl λX e c h=>by obtain⟨_,rfl⟩:=u9 h;exact B8
 |.pg i B=>aD rfl rfl λX e c h=>HI (aZ c B _ h)
 |.pf i B=>aD rfl rfl λX e c h=>HJ (aZ c B _ h)
 |.pl i B=>aD rfl rfl λX e c h=>by obtain⟨x,z,q,Y,rfl,l,s,n⟩:=bE (t:=t) (p:="len") (f:=λN sc e=>cH t N sc i B e) (N:=X.N) (sc:=X.env.scope) (e:=e) h;obtain⟨I,H,F⟩:=blB_ok c l;subst I;exact HK H F s (aZ c B _ n)
 |.pt i B=>⟨λX e c h=>absurd h aal,λX e c P h=>by
   obtain⟨o,xs,p,rfl⟩:=kI P;exact absurd h aal,λX e c h=>HL (an2 h).1 (aZ c B _ (an2 h).2)⟩
 |.pin neg a i B=>iL (λX e P=>vq (f:=(aQ t (.pin neg a i B)).2) P λ_ _ _=>rfl) (λX e c h=>by
  obtain⟨x,y,p,rfl,s,n,A⟩:=cT (o:=if neg then .nin else .inn) (f:=(aQ t a).1) (g:=λN sc e=>cH t N sc i B e) (N:=X.N) (sc:=X.env.scope) (e:=e) h;exact(uQ c.units (dS _ s) ((bf a).v X _ c n) (aZ c B _ A)).1) λX e c h=>by
  obtain⟨x,y,p,rfl,s,n,A⟩:=cT (o:=if neg then .nin else .inn) (f:=(aQ t a).1) (g:=λN sc e=>cH t N sc i B e) (N:=X.N) (sc:=X.env.scope) (e:=e) h;exact(uQ c.units (dS _ s) ((bf a).v X _ c n) (aZ c B _ A)).2
 |.din neg a i B=>iL (λX e P=>vq (f:=(aQ t (.din neg a i B)).2) P λ_ _ _=>rfl) (λX e c h=>by
  obtain⟨x,y,p,rfl,s,n,A⟩:=cT (o:=if neg then .nin else .inn) (f:=(aQ t a).1) (g:=λN sc e=>cH t N sc i B e) (N:=X.N) (sc:=X.env.scope) (e:=e) h;exact(uR (by have:=c.units;omega) (dS _ s) ((bf a).v X _ c n) (aZ c B _ A)).1) λX e c h=>by
  obtain⟨x,y,p,rfl,s,n,A⟩:=cT (o:=if neg then .nin else .inn) (f:=(aQ t a).1) (g:=λN sc e=>cH t N sc i B e) (N:=X.N) (sc:=X.env.scope) (e:=e) h;exact(uR (by have:=c.units;omega) (dS _ s) ((bf a).v X _ c n) (aZ c B _ A)).2
 |.comp nt fr it tg ifs elt=>aD rfl rfl λX e c h=>by obtain⟨z,l,h⟩:=anyT h;have:=iJ l;subst this;obtain⟨L,J,M,U,W⟩:=an5 h;obtain⟨T,Q,S⟩:=an3 W;exact Ce c.calm (cS L) (fg (bt M)) (CJ it X _ _ c U) (λq=>cF (X:=aY X _ z.2.2.2.2.1 q) (fn:=false) c.calm (Daa J) (λz=>by cases z) (λ_ _ z=>z) T) λq=>HZ ifs (aY X _ z.2.2.2.2.1 q) _ _ c.comp (bf elt) Q S
 |.compB i nt fr tg ifs elt=>aD rfl rfl λX e c h=>by obtain⟨z,l,h⟩:=anyT h;have:=iJ l;subst this;obtain⟨L,J,M,W⟩:=an4 h;obtain⟨T,Q,S⟩:=an3 W;obtain⟨x,p,e0,h0⟩:=gm M;obtain⟨n1,Z,n3,n4⟩:=bK h0;rw[e0];exact yi n1 Z n3 n4 c.calm (cS L) (λq=>cF (X:=aY X _ z.2.2.2.2.1 q) (fn:=false) c.calm (Daa J) (λz=>by cases z) (λ_ _ z=>z) T) λq=>HZ ifs (aY X _ z.2.2.2.2.1 q) _ _ c.comp (bf elt) Q S
 |.meth cn m f i D=>aD rfl rfl λX e c h=>by
  obtain⟨z,l,h⟩:=anyT h;obtain⟨p,rfl⟩:=kG l;obtain⟨L,J,M,U,W⟩:=an5 h;obtain⟨T,Q,S⟩:=an3 W;obtain⟨x,m',zs,ap,q⟩:=z;have:=bJ J;simp only at this;subst this;obtain⟨g0,k,fa,fd,B,I,H,F,g4⟩:=c.hme _ _ _ (Daa L);obtain⟨n1,Z,n3,n4⟩:=bK M;cases zs with
  |nil=>
   cases D with
   |nil=>exact yh g0 I H F g4 n1 Z n3 n4 Q
   |cons a D=>cases S
  |cons z zs=>have:=bt U;rw[aa0,ab2]at this;exact Cu g0 I H F g4 n1 Z n3 n4 this.1 this.2 T Q (yz D X _ c S)
 |.make cn f D=>aD rfl rfl λX e c h=>by obtain⟨x,z,zs,q,Y,rfl,l,s,n,A,O⟩:=gn (p:=λx=>decide (t.mk' f=some cn)&&sEq x cn) (f:=gS t D) (N:=X.N) (sc:=X.env.scope) (e:=e) h;have:=bJ (an2 l).2;subst this;obtain⟨k,fa,fd,B,I,H,F,g4,g5⟩:=c.hmk _ _ (Daa (an2 l).1);exact Cv I H F (dR s).1 g4 g5 (dR s).2 n A (yz D X _ c O)
theorem yz:∀(m:Es) X xs,Cy t C X->gS t m X.N X.env.scope xs=true->PDa X xs (fF C m)
 |.nil,X,xs,c,h=>by
  cases xs with
  |nil=>exact iB
  |cons _ _=>cases h
 |.cons a es,X,xs,c,h=>by obtain⟨z,g,h⟩:=anyT h;have:=con1_ok g;subst this;obtain⟨f,b,d⟩:=an3 h;exact eJ (bt f) ((bf a).v X _ c b) (yz es X _ c d)
theorem HZ:∀(m:Eo) {b:E} X fs x,Cy t C X->EOk t C b->CH t m X.N X.env.scope fs=true->(aQ t b).1 X.N X.env.scope x=true->PDc X fs x (zT C m b)
 |.none,b,X,fs,x,c,he,h,h'=>by
  cases fs with
  |nil=>exact yd (he.v X _ c h')
  |cons _ _=>cases h
 |.some a,b,X,fs,x,c,he,h,h'=>by obtain⟨z,d,h⟩:=anyT h;have:=one1_ok d;subst this;exact Cd ((bf a).t X _ c h) (he.v X _ c h')
theorem CJ:∀(m:It') X g e,Cy t C X->nU t m X.N X.env.scope g e=true->PDi X g e (dQ C m)
 |.seq a,X,g,e,c,h=>E8 ((bf a).v X _ c h)
 |.rg1 a,X,g,e,c,h=>by obtain⟨x,z,q,r,rfl,n,f,l⟩:=bE h;obtain⟨j,i,d⟩:=blB_ok c n;subst j;exact E9 i d f ((bf a).v X _ c l)
 |.enm a,X,g,e,c,h=>by obtain⟨o,h⟩:=an2 h;obtain⟨s,k,p,rfl⟩:=fH o;obtain⟨x,z,q,r,rfl,n,f,l⟩:=bE h;obtain⟨j,i,d⟩:=blB_ok c n;subst j;exact Fb i d f ((bf a).v X _ c l)
 |.zip a b,X,g,e,c,h=>by obtain⟨o,h⟩:=an2 h;obtain⟨s,k,p,rfl⟩:=fH o;obtain⟨x,z,w,q,r,rfl,n,f,l,u,y⟩:=jK h;obtain⟨j,i,d⟩:=blB_ok c n;subst j;exact Fc i d f l ((bf a).v X _ c u) ((bf b).v X _ c y)
end
end
end
section
def bkS(sc:Scope):ScopeKind:=if sc.kind.isAnnotationScope then .function else sc.kind
def sj(a:List Expr)(sc:Scope):List Str:=a.filterMap fun
  |.Name id pos=>if sc.names.lookup id==some .local&&pos.line==(a.head?.map (·.pos.line)).getD 0 then some id else none
  |_=>none
def Gu(ts vs:List Expr)(sc:Scope):Option (Option (List Str)):=
 if !(ts.length==2||ts.length==3)||vs.length !=ts.length||bkS sc !=.function then some none
 else if (vs.any fun|.Starred ..=>true|_=>false) then some none
 else if (sj ts sc).length !=ts.length||(sj ts sc).eraseDups.length !=(sj ts sc).length then some none
 else if vs.all (foldedForSure 8) then some none
 else if vs.all (constantsAlone 8) then none
 else some (some (sj ts sc))
theorem nW(h:Gu ts vs env.scope=some r):swappedStores [.Tuple ts k p] (.Tuple vs k2 p2) env=pure r:=by
 unfold Gu at h;unfold swappedStores;split at h
 ·rename_i e;cases h;show (if (!(ts.length==2||ts.length==3)||vs.length !=ts.length||env.blockKind !=.function)=true then _ else _)=_;rw[if_pos (show (!(ts.length==2||ts.length==3)||vs.length !=ts.length||env.blockKind !=.function)=true from e)]
 ·rename_i e;show (if (!(ts.length==2||ts.length==3)||vs.length !=ts.length||env.blockKind !=.function)=true then _ else _)=_;rw[if_neg (show ¬ (!(ts.length==2||ts.length==3)||vs.length !=ts.length||env.blockKind !=.function)=true from e)];split at h
  ·rename_i c;cases h;show (if (vs.any fun|.Starred ..=>true|_=>false)=true then _ else _)=_;rw[if_pos c]
  ·rename_i c;show (if (vs.any fun|.Starred ..=>true|_=>false)=true then _ else _)=_;rw[if_neg c];split at h
   ·rename_i b;cases h;show (if ((sj ts env.scope).length !=ts.length||(sj ts env.scope).eraseDups.length !=(sj ts env.scope).length)=true then _ else _)=_;rw[if_pos b]
   ·rename_i b;show (if ((sj ts env.scope).length !=ts.length||(sj ts env.scope).eraseDups.length !=(sj ts env.scope).length)=true then _ else _)=_;rw[if_neg b];split at h
    ·rename_i a;cases h;show (if vs.all (foldedForSure 8)=true then _ else _)=_;rw[if_pos a]
    ·rename_i a;show (if vs.all (foldedForSure 8)=true then _ else _)=_;rw[if_neg a];split at h
     ·cases h
     ·rename_i d;cases h;show (if vs.all (constantsAlone 8)=true then _ else _)=_;rw[if_neg d];rfl
def zY(a e:Expr)(sc:Scope):Bool:=(cQ a).any λb=>(cQ e).all λc=>decide (Gu b c sc=some none)
def vw(h:zY tg e env.scope=true):swappedStores [tg] e env=pure none:=by
 obtain⟨f,c,b⟩:=anyT h;clear h;obtain⟨k,p,rfl⟩:=asTup_ok c;cases a:cQ e with
 |some i=>obtain⟨g,d,rfl⟩:=asTup_ok a;rw[a]at b;exact nW (Daa b)
 |none=>cases e<;>first|rfl|cases a
def swC(sc:Scope)(t:Str)(pos p:Pos)(s:Scope):Bool:=bkS sc==.function&&sc.names.lookup t==some .local&&pos.line==p.line&&!(s.names.any λ(n,k)=>n==t&&(k==.local||k==.cell))
def vA:swapsWith (.ListComp elt gs s p) (some (.Name t pos)) l env=pure (swC env.scope t pos p s):=rfl
inductive PDx (X:Cx)(i:Nat)(st:Stmt)(de:DE):Prop|mk (te:TE) (h:PS X st (lz te (gA i))) (s:bG X.K te de)
section
variable{X:Cx}{W:Nat->Prop}{m:Nat}{C:Ct}{e:Expr}{ma:E}{pos p p1 p2 p3 pos' spos py:Pos}{x y:Str}{i:Nat}{st:Stmt}
theorem PDx.imp:PDx X i st d->(∀ρ Q,d' ρ Q->d ρ Q)->PDx X i st d'
 |⟨te,h,s⟩,f=>⟨te,h,λb F σ H ρ τ θ c Q a R g q=>s b F σ H ρ τ θ c Q a R (f _ _ g) q⟩
def CK{f:Tg}(s:X.N.Nodup)(h:X.N[i]?=some y)(l:X.env.scope.names.lookup y=some .local)(q:X.calm=true)(S:CompScope N nt fr X.N scope X.env.scope)(hs:∀x,foldedSetIterable iter X.env x=pure x)(k:PDi X tg iter (dQ C mi))(r:∀c:CC,PDg (aY X N scope c) Ff nt tg (eN f))(j:∀c:CC,PDc (aY X N scope c) ifs elt (zT C mif me))
  (d:swapsWith (.ListComp elt [⟨tg,iter,ifs,0⟩] scope pos) (some (.Name y py)) spos.line X.env=pure true):PDx X i (.Assign [.Name y py] (.ListComp elt [⟨tg,iter,ifs,0⟩] scope pos) spos) (aF C (.comp nt fr mi f mif me)):=by
 have n:PDx X i (.Assign [.Name y py] (.ListComp elt [⟨tg,iter,ifs,0⟩] scope pos) spos) (ph (dQ C mi) nt fr (eN f) (zT C mif me)):=by obtain⟨v,t,o⟩:=k;obtain⟨g,a⟩:=PDg.ex (Y:=λc=>aY X N scope c) (λ_=>rfl) r;obtain⟨u,b⟩:=PDc.ex (Y:=λc=>aY X N scope c) (λ_=>rfl) j;exact⟨_,xo s h l q S t (λc=>(a c).1) (λc D=>(b c).1 D) hs d,lQ o (λc=>(a c).2) λc=>(b c).2⟩
 exact n.imp (pF C)
theorem CL(g:¬ W i):PDx X i st (aF C ma)->PDs X W st (gh C (.set i ma))
 |⟨_,h,s⟩=>⟨_,h,λb F σ H ρ τ θ A D j n R ⟨y,h,q⟩ E=>by
  obtain⟨z,o,_,l,k,f,h⟩:=bn3 h;cases h;refine s b F σ H ρ τ θ (λr a=>r=z.1/\a=z.2) _ j R ⟨z,l,rfl,rfl⟩ λv t r a d u=>?_;obtain⟨w,c⟩:=u;subst w c;exact E.nx _ t _ ((d.own1 k).store n (gd_ok f) g) q⟩
end
def Wd.zb(w:Wd b H ([u].zip [y]++((v,x)::L)))(e:x.at ks=some (.hole u)):Wd b H ((v,OD.put y ks x)::L):=by
 obtain⟨S,o,B,C,l,f,i,h,q,p,j,n,g⟩:=Wd.wk w rfl e;cases f with
 |hole k=>subst k;exact g (λ_ _=>rfl) (λc d=>by cases d) (by simpa using h) (λc d=>.inr d) λm a _=>Ow.sub j a i.one
def Wd.hole(w:Wd b H L):Wd b H ((u,.hole u)::L):=by obtain⟨A,c,d,a⟩:=w.out;exact⟨⟨A,Ows.cons (.hole rfl) c,d,a⟩,w.fr,w.s0,w.nt⟩
def Rel.fill(R:Rel b F σ H ρ (u::τ) (.rf j::θ))(h:uJ i ks j u ρ ρ'):Rel b F σ H ρ' τ θ:=by obtain⟨x,y,e,d,g,f,l⟩:=h;subst l;obtain⟨m,a,c⟩:=R.drop.moved g;have k:σ[j]?=some (some u):=R.al.1;rw[k]at a;cases a;obtain⟨v,a,w⟩:=Rel.open (us:=[u]) (zs:=[y]) c rfl (by rw[abf f];exact e);exact Rel.close (Rel.rest (us:=[u]) (zs:=[y]) c rfl) a (w.zb d)
section
variable{X:Cx}{W:Nat->Prop}{C:Ct}{e:Expr}{pos pos' apos cpos:Pos}{x:Str}{i j:Nat}{ps:List Acc}{sts:List Stmt}{mss:Ss}
theorem CM(hb:attributeBase e "append" X.env (eval e X.env)=eval e X.env) (g:(apos.endLine==cpos.line)=true) (hN:X.N[j]?=some x) (hv:Vis X.env.scope x) (hd:(x==("__debug__":Str))=false) (M:(x==("__classdict__":Str))=false):
  PDp X e i ps->PDss X (λk=>W k\/k=j) sts (ky C mss)->PDss X W (.Expr (.Call (.Attribute e "append" apos) [.Name x pos'] [] cpos) pos::sts) (ky C (.ali i ps j mss))
 |⟨_,h0,s0⟩,⟨_,f,s2⟩=>⟨_,lu (fq (lD abG acz acA eD h0 (aP (bH hN hv hd M) bz (ax rfl)) hb (uT rfl) g (ax rfl) (bM rfl)) rfl) f,λb F σ H ρ τ θ Dd D S n R ⟨z,h,q⟩ E=>by
  obtain⟨r,T,h⟩:=bnd h;obtain⟨xs,ex,hz,a0,⟨o,eo⟩,U⟩:=lX h;obtain⟨P,I⟩:=path_at T;refine s0 b F σ H ρ τ θ _ r S R T λv u Q B=>?_;rw[ex]at I B;obtain⟨l0,J,rfl,L⟩:=R.cell P I Q B;refine⟨.inl ⟨rfl,J,SqL.of L⟩,?_⟩;obtain⟨y,t⟩:=R.wf.get (join_some eo);obtain⟨vs,hH,Z,w⟩:=Rel.wh (Rel.push R R.wd.hole) P I Q B hz;refine⟨y,t,l0,vs,y,rfl,rfl,hH,Z,?_⟩;obtain⟨d,e2,A⟩:=U y;obtain⟨s,a1⟩:=z;refine s2 b F σ _ _ (y::τ) (.rf j::θ) ⟨λa=>s=.nx/\a=d,λo a=>s=.rt o/\a=d,λa=>s=.bk/\a=d,λa=>s=.ct/\a=d⟩ _ S (λr O=>?_) ⟨w.wf,⟨t,w.al⟩,w.wff,w.wd⟩ ⟨(s,d),e2,by cases s<;>exact⟨rfl,rfl⟩⟩ ⟨λc m a l ⟨p,f⟩=>?_,λc m a l ⟨p,f⟩=>?_,λc m a l ⟨p,f⟩=>?_,λc m a v o l ⟨p,f⟩=>?_⟩
  ·rcases aac.mp O with rfl|O
   ·exact .inr ⟨j,.inr rfl,rfl⟩
   ·exact(n r O).imp id λ⟨k,Y,ek⟩=>⟨k,.inl Y,ek⟩
  ·subst p f;exact E.nx c m _ (l.fill A) q
  ·subst p f;exact E.bk c m _ (l.fill A) q
  ·subst p f;exact E.ct c m _ (l.fill A) q
  ·subst p f;exact E.rt c m _ v o (Rel.fill (Rel.xc (vs:=[v]) (rs:=[.val o]) l rfl) A) q⟩
end
def PDe.ex{K:Waa}{Y:CC->Cx}(b:∀c,(Y c).K=K)(h:∀c,PDe (Y c) e d):∃g:CC->TE,∀c,PE (Y c) e (g c)/\bG K (g c) d:=
 abB (r:=λc g=>PE (Y c) e g/\bG K g d) λc=>(by obtain⟨a,i,f⟩:=h c;exact⟨a,i,b c▸f⟩)
def Rel.growD(R:Rel b F σ H ρ (v::(vs++[.ref D])) (.val (.fz d)::(rs++[.val (.dic ks xs)])))(c:vs.length=rs.length):
  ∃ws,H D=some (.dK ws)/\ws.length=xs.length/\Rel b F σ (upd H D (.dK (putK ws kk v))) ρ (vs++[.ref D]) (rs++[.val (.dic (bB kk d ks xs).1 (bB kk d ks xs).2)]):=by
 have e:=R.drop;have h:∀y:OD,stk (vs++[.ref D]) (rs++[.val y])=stk vs rs++[(.ref D,y)]:=λy=>by rw[aB c];rfl
 have w:Wd b H ((v,.fz d)::((stk vs rs++[(.ref D,.dic ks xs)])++(flat σ ρ++ff F))):=by have:=R.wd;simp only[stk]at this;rw[h]at this;exact this
 have o:Wd b H ([v].zip [OD.fz d]++((.ref D,.dic ks xs)::(stk vs rs++(flat σ ρ++ff F)))):=w.perm (by
  refine List.Perm.cons _ ?_;rw[aad];exact aax)
 obtain⟨a,ws,i,l,f,g,m⟩:=o.za (ks:=[]) rfl rfl;cases i;subst f;refine⟨ws,l,g,e.wf,?_,e.wff,?_⟩
 ·obtain⟨k,_⟩:=(aJ c).mp e.al;exact(aJ c).mpr ⟨k,trivial⟩
 ·rw[h];refine(m (putK ws kk v) _ _ (pJ (d:=d) g) λS H A C q p j n=>l6 p j n).perm ?_;rw[aad];exact aax.symm
section
variable{X:Cx}{W:Nat->Prop}{C:Ct}{y:Str}{i nt:Nat}{fr:List Nat}{N:List Str}{scope:Scope}{kx vx iter tg:Expr}{pos py spos:Pos}{mi:It'}{mt:Tg}{mk' mv':E}
def mq{a:Type}(step:a->PyData->DEnv->Option (a×DEnv))(ds:List PyData)(w:a×DEnv)(k:Nat){out:a}(b:ds[k]?=some d)(h:cy step (ds.drop k) out ρ=some w):∃z,step out d ρ=some z/\cy step (ds.drop (k+1)) z.1 z.2=some w:=by
 have c:=(aaj.mp b).1;have e:ds.drop k=d::ds.drop (k+1):=by rw[abZ c,(aaj.mp b).2]
 rw[e]at h;exact bnd h
def yA{K:Waa}(L:bG K tk (aF C mk'))(T:bG K tv (aF C mv')):SndY (λz:List Key×List OD=>.dic z.1 z.2) (λz=>z.2.length) K (tS tk tv) (λo ρ Q=>∃w,EK C mk' mv' o ρ=some w/\Q w.1 w.2):=by
 intro b F g H ρ vs rs D a Qd Q j l v R h q;obtain⟨w,h,p⟩:=h;obtain⟨x,y,u,d,t,M,J,A,B,Z,h⟩:=bn5 h;cases h;refine L b F g H ρ _ _ (λr c=>r=x.1/\c=x.2) _ j R ⟨x,M,rfl,rfl⟩ λI Y r O R1 e=>?_;obtain⟨rfl,rfl⟩:=e;refine T b F g Y _ _ _ (λr c=>r=y.1/\c=y.2) _ j R1 ⟨y,J,rfl,rfl⟩ λv2 H2 r s k e=>?_;obtain⟨rfl,rfl⟩:=e;have P:=k.dt2 A;have f:I=kV d:=by cases u<;>cases B<;>cases P<;>rfl
 subst f;obtain⟨S,m,hl,n⟩:=Rel.growD (Rel.eu (k.frz1 Z)) l;have U:a.2.length<1000000:=v;exact⟨_,⟨S,d,m,rfl,aay (by omega) (by decide:1000001<=sizeLine),rfl⟩,q _ _ _ n (by
  show (bB d t.1 a.1 a.2).2.length<=a.2.length+1;unfold bB;split
  ·rw[ac0];omega
  ·rw[aak];exact aag _) p⟩
theorem zZ{e:List Key×List OD->DEnv->Option ((List Key×List OD)×DEnv)}{I v:CC->TE}(Z:¬ W i)(T:∀{t:TI}{g:CC->TG}{tc:CC->TC},PI X tg iter t->(∀c,PG (aY X N scope c) tg (g c))->(∀c D,oW (aY X N scope c) D [] kx vx (tc c))->PS X (.Assign [.Name y py] (.DictComp kx vx [⟨tg,iter,[],0⟩] scope pos) spos) (lz (ny t nt fr g tc) (gA i)))(l:∀c:CC,(aY X N scope c).A.units+1<cLine)(r:PDi X tg iter (dQ C mi))(hg:∀c:CC,PDg (aY X N scope c) Ff nt tg (eN mt))(hk:∀c:CC,PE (aY X N scope c) kx (I c))(hv:∀c:CC,PE (aY X N scope c) vx (v c))(P:∀c,SndY (λz:List Key×List OD=>.dic z.1 z.2) (λz=>z.2.length) X.K (tS (I c) (v c)) (λo ρ Q=>∃w,e o ρ=some w/\Q w.1 w.2)):
  PDs X W (.Assign [.Name y py] (.DictComp kx vx [⟨tg,iter,[],0⟩] scope pos) spos) (λD ρ=>∃x,((jg C mi ρ).bind λx=>(gd (x.1.length<1000000)).bind λ_=>(bN x.2 fr).bind λz=>(cy (λo d ρ=>(aX mt (.fz d) ρ).bind λρ1=>e o ρ1) x.1 ([],[]) (List.replicate nt none++z.1)).bind λw=>(gd (i<(bY z.2 fr (w.2.drop nt)).length)).bind λ_=>some (Fl.nx,(bY z.2 fr (w.2.drop nt)).set i (some (OD.dic w.1.1 w.1.2))))=some x/\Cg D x.2 x.1):=by
 obtain⟨t,h1,s1⟩:=r;obtain⟨g,m⟩:=PDg.ex (Y:=λc=>aY X N scope c) (λ_=>rfl) hg;refine⟨_,T h1 (λc=>(m c).1) (λc D=>nz (l c) (hk c) (hv c)),λb F L H ρ U θ Dd D M n R ⟨z,h,q⟩ E=>?_⟩;obtain⟨w,_,ca,o,_,e1,hz,e2,e3,r,h⟩:=bn5 h;cases h;refine s1 b F L H ρ U θ (λB f=>B=w.1/\f=w.2) _ M R ⟨w,e1,rfl,rfl⟩ λJ O B ρ1 vs rs p nr R1 it hZ=>?_;obtain⟨rfl,rfl⟩:=hZ;refine lP (Q:=λx O=>D.nx (L.set i (some x)) O) (a0:=([],[])) (Iv:=λk a ρ=>cy (λo d ρ=>(aX mt (.fz d) ρ).bind λρ1=>e o ρ1) (w.1.drop k) a ρ=some o) (λw h=>w.v5 h) rfl (λc=>(m c).2) P M p nr R1 it (gd_ok hz) e2 e3 (λk d a ρ hd j=>by
  obtain⟨u,l,s⟩:=mq _ _ _ k hd j;obtain⟨ρ1,e4,l⟩:=bnd l;exact⟨ρ1,e4,u,l,s⟩) λH' D' a f S j=>by
  have j:cy (λo d ρ=>(aX mt (.fz d) ρ).bind λρ1=>e o ρ1) (w.1.drop w.1.length) a f=some o:=j;rw[abv]at j;cases j;exact E.nx _ _ _ (Rel.store (Rel.drops (Rel.v3 S p) p) n (gd_ok r) Z) q
def FH(h:¬ W i)(o:X.N.Nodup)(e:X.N[i]?=some y)(k:X.env.scope.names.lookup y=some .local)(l:X.calm=true)(S:CompScope N nt fr X.N scope X.env.scope)(hs:∀x,foldedSetIterable iter X.env x=pure x)
  (d:swapsWith (.DictComp kx vx [⟨tg,iter,[],0⟩] scope pos) (some (.Name y py)) spos.line X.env=pure true) (j:∀c:CC,(aY X N scope c).A.units+1<cLine) (g:PDi X tg iter (dQ C mi)) (n:∀c:CC,PDg (aY X N scope c) Ff nt tg (eN mt)) (hk:∀c:CC,PDe (aY X N scope c) kx (aF C mk')) (m:∀c:CC,PDe (aY X N scope c) vx (aF C mv')):PDs X W (.Assign [.Name y py] (.DictComp kx vx [⟨tg,iter,[],0⟩] scope pos) spos) (gh C (.sdc i nt fr mi mt mk' mv')):=by
 obtain⟨s,b⟩:=PDe.ex (K:=X.K) (Y:=λc=>aY X N scope c) (λ_=>rfl) hk;obtain⟨r,a⟩:=PDe.ex (K:=X.K) (Y:=λc=>aY X N scope c) (λ_=>rfl) m;exact zZ h (λq f p=>tV o e k l S q f p hs d) j g n (λc=>(b c).1) (λc=>(a c).1) λc=>yA (b c).2 (a c).2
def Rel.growN(R:Rel b F σ H ρ (v::(vs++[.ref D])) (.val x::(rs++[.val (.dic ks xs)])))(d:vs.length=rs.length)(hk:(ks.any λq=>decide (q=kk))=false):
  ∃ws,H D=some (.dK ws)/\ws.length=xs.length/\Rel b F σ (upd H D (.dK (putK ws kk v))) ρ (vs++[.ref D]) (rs++[.val (.dic (ks++[kk]) (xs++[x]))]):=by
 have e:=R.drop;have g:∀y:OD,stk (vs++[.ref D]) (rs++[.val y])=stk vs rs++[(.ref D,y)]:=λy=>by rw[aB d];rfl
 have w:Wd b H ((v,x)::((stk vs rs++[(.ref D,.dic ks xs)])++(flat σ ρ++ff F))):=by have:=R.wd;simp only[stk]at this;rw[g]at this;exact this
 have p:Wd b H ([v].zip [x]++((.ref D,.dic ks xs)::(stk vs rs++(flat σ ρ++ff F)))):=w.perm (by
  refine List.Perm.cons _ ?_;rw[aad];exact aax)
 obtain⟨a,ws,j,m,f,r,n⟩:=p.za (ks:=[]) rfl rfl;cases j;subst f;have h:putK ws kk v=ws++[(kk,v)]:=by unfold putK;rw[if_neg];rw[ab4]at hk;exact λz=>aal (hk.symm.trans z)
 refine⟨ws,m,r,e.wf,?_,e.wff,?_⟩
 ·obtain⟨k,_⟩:=(aJ d).mp e.al;exact(aJ d).mpr ⟨k,trivial⟩
 ·rw[g,h];refine(n (ws++[(kk,v)]) _ _ (by rw[aau]) λS H A C nt t l o=>⟨A++C,by rw[aau];exact Ows.append t l,o,λc s=>aai.mp s⟩).perm ?_;rw[aad];exact aax.symm
def vB{K:Waa}(I:bG K tk (aF C mk'))(P:bG K tv (aF C (.lst .nil))):SndY (λz:List Key×List OD=>.dic z.1 z.2) (λz=>z.2.length) K (tS tk tv) (λo ρ Q=>∃w,zN C mk' o ρ=some w/\Q w.1 w.2):=by
 intro b F g H ρ vs rs D c Qd Q j l u R h q;obtain⟨w,h,p⟩:=h;obtain⟨x,t,f,_,J,v,A,U,h⟩:=bn4 h;cases h;refine I b F g H ρ _ _ (λr a=>r=x.1/\a=x.2) _ j R ⟨x,J,rfl,rfl⟩ λB T r L Y d=>?_;obtain⟨rfl,rfl⟩:=d;refine P b F g T _ _ _ (λr a=>r=.val (.lst [])/\a=x.2) _ j Y ⟨(.val (.lst []),x.2),rfl,rfl,rfl⟩ λv2 Z r s k d=>?_;obtain⟨rfl,rfl⟩:=d;have M:=k.dt2 v;have e:B=kV f:=by cases t<;>cases A<;>cases M<;>rfl
 subst e;obtain⟨O,m,hl,n⟩:=Rel.growN (Rel.eu k) l (gd_ok U);have S:c.2.length<1000000:=u;exact⟨_,⟨O,f,m,rfl,aay (by omega) (by decide:1000001<=sizeLine),rfl⟩,q _ _ _ n (by show (c.2++[OD.lst []]).length<=c.2.length+1;rw[aak];exact aag _) p⟩
def FI(l:X.N.Nodup)(s:Sto X W X.N.length i y)(h:X.calm=true)(S:CompScope N nt fr X.N scope X.env.scope)(hs:∀x,foldedSetIterable iter X.env x=pure x)
  (d:swapsWith (.DictComp kx vx [⟨tg,iter,[],0⟩] scope pos) (some (.Name y py)) spos.line X.env=pure false) (g:∀c:CC,(aY X N scope c).A.units+1<cLine) (f:PDi X tg iter (dQ C mi)) (k:∀c:CC,PDg (aY X N scope c) Ff nt tg (eN mt)) (hk:∀c:CC,PDe (aY X N scope c) kx (aF C mk')) (j:∀c:CC,PDe (aY X N scope c) vx (aF C (.lst .nil))):PDs X W (.Assign [.Name y py] (.DictComp kx vx [⟨tg,iter,[],0⟩] scope pos) spos) (gh C (.sdl i nt fr mi mt mk')):=by
 obtain⟨p,b⟩:=PDe.ex (K:=X.K) (Y:=λc=>aY X N scope c) (λ_=>rfl) hk;obtain⟨o,a⟩:=PDe.ex (K:=X.K) (Y:=λc=>aY X N scope c) (λ_=>rfl) j;exact zZ s.nw (λn e m=>sS l s.hN s.loc (tU h S n e m hs) d s.fn) g f k (λc=>(b c).1) (λc=>(a c).1) λc=>vB (b c).2 (a c).2
theorem FJ{A j a:Expr}(hw:¬ W i)(hN:X.N.Nodup)(hy:X.N[i]?=some y)(hl:X.env.scope.names.lookup y=some .local)(hc:X.calm=true)(S:CompScope N nt fr X.N scope X.env.scope)(hs:∀x,foldedSetIterable iter X.env x=pure x)(a2:∀(c:CC) x,foldedSetIterable a (aY X N scope c).env x=pure x)
  (a4:swapsWith (fX A tg iter j a scope pos) (some (.Name y py)) spos.line X.env=pure true) (Z:PDi X tg iter (dQ C mi)) (hg:∀c:CC,PDg (aY X N scope c) Ff nt tg (eN mt)) (M:∀c:CC,PDi (aY X N scope c) j a (dQ C mi2)) (P:∀c:CC,PDg (aY X N scope c) Ff nt j (eN mt2)) (he:∀c:CC,PDe (aY X N scope c) A (aF C me)):
  PDs X W (.Assign [.Name y py] (fX A tg iter j a scope pos) spos) (gh C (.sc2 i nt fr mi mt mi2 mt2 me)):=by
 obtain⟨wi,U,s1⟩:=Z;obtain⟨g,I⟩:=PDg.ex (Y:=λc=>aY X N scope c) (λ_=>rfl) hg;obtain⟨g2,p⟩:=PDg.ex (Y:=λc=>aY X N scope c) (λ_=>rfl) P;obtain⟨te,J⟩:=PDe.ex (Y:=λc=>aY X N scope c) (λ_=>rfl) he;obtain⟨a5,s⟩:∃g:CC->TI,∀c,PI (aY X N scope c) j a (g c)/\nH X.K (g c) (dQ C mi2):=
  abB (r:=λc g=>PI (aY X N scope c) j a g/\nH X.K g (dQ C mi2)) λc=>(by obtain⟨te,U,s1⟩:=M c;exact⟨te,U,s1⟩)
 refine⟨_,xp hN hy hl hc S U (λc=>(I c).1) (λc D=>D6 hc rfl (a2 c) (s c).1 (p c).1 (tG (J c).1)) hs a4,λb F σ H m τ θ Dd D hK n R ⟨z,h,q⟩ E=>?_⟩;obtain⟨w,_,T,o,_,e1,hz,e2,e3,Z,h⟩:=bn5 h;cases h;refine rW s1 (λc=>(I c).2) (λc=>(s c).2) (λc=>(p c).2) (λc=>(J c).2) b F σ H m τ θ (λr B=>r=.val (.lst (o.1.map OD.fz))/\B=bY T.2 fr (o.2.drop nt)) _ hK R ⟨w,e1,gd_ok hz,T.1,T.2,e2,λk e m=>cy (pv C mt mi2 mt2 me) (w.1.drop k) e m=some o,e3,λk d e m hd l=>?_,λe m l=>?_⟩ λv H' r B R' hZ=>?_
 ·obtain⟨u,t,O⟩:=mq _ _ _ k hd l;obtain⟨a0,L,_,e4,e5,Q,t⟩:=bn3 t;refine⟨a0,e4,L,e5,gd_ok Q,λk e m=>aT (yb C mt2 me) (L.1.drop k) e m=some u,t,λk d e m hd l=>?_,λe m l=>?_⟩
  ·obtain⟨u2,f,a3⟩:=iE _ _ _ k hd l;obtain⟨a1,y2,q2,e6,e7,e8,f⟩:=bn3 f;cases f;exact⟨a1,e6,y2,e7,q2.1,q2.2,e8,a3⟩
  ·have l:aT (yb C mt2 me) (L.1.drop L.1.length) e m=some u:=l;rw[abv]at l;cases l;exact O
 ·have l:cy (pv C mt mi2 mt2 me) (w.1.drop w.1.length) e m=some o:=l;rw[abv]at l;cases l;exact⟨rfl,rfl⟩
 ·obtain⟨rfl,rfl⟩:=hZ;exact E.nx _ _ _ (Rel.store R' n (gd_ok Z) hw) q
end
end
section
section
variable(t:Tb)
mutual
noncomputable def vC:E->Ck
 |.nm i=>λN sc e=>yp N sc i e
 |.int k=>λN sc e=>(mf e).any λj=>decide (j=k)
 |.ix a b=>λN sc e=>(eR e).any λz=>!bQ z.2&&vC a N sc z.1&&vC b N sc z.2
 |.tup es=>λN sc e=>(cQ e).any λxs=>vD es N sc xs
 |.pg i ps=>λN sc e=>cH t N sc i ps e
 |_=>λ_ _ _=>false
noncomputable def vD:Es->List Str->Scope->List Expr->Bool
 |.nil=>λN sc xs=>xs.isEmpty
 |.cons a es=>λN sc xs=>(mh xs).any λz=>!isStar z.1&&vC a N sc z.1&&vD es N sc z.2
end
end
section
variable{t:Tb}{C:Ct}
mutual
theorem Gv:∀(m:E) X e,Cy t C X->vC t m X.N X.env.scope e=true->PDq X e (ko C m)
 |.nm i,X,e,c,h=>by obtain⟨x,p,rfl,h⟩:=gm h;obtain⟨d,l,o,r⟩:=bK h;exact HN d l o r
 |.int k,X,e,c,h=>by obtain⟨j,d,h⟩:=anyT h;obtain⟨_,_,rfl⟩:=asInt_ok d;have:=Daa h;subst this;exact Fs
 |.ix a b,X,e,c,h=>by obtain⟨q,d,h⟩:=anyT h;obtain⟨_,rfl⟩:=cR d;obtain⟨n,f,g⟩:=an3 h;exact HQ (ku (bt n)) (Gv a X _ c f) (Gv b X _ c g)
 |.tup es,X,e,c,h=>by obtain⟨q,d,h⟩:=anyT h;obtain⟨_,_,rfl⟩:=asTup_ok d;exact Ft (FK es X _ c h)
 |.pg i ps,X,e,c,h=>HP (aZ c ps _ h)
 |.mv _,X,e,c,h|.str _,X,e,c,h|.bl _,X,e,c,h|.gc _,X,e,c,h|.bop _ _ _,X,e,c,h|.cat _ _,X,e,c,h|.catV _ _,X,e,c,h|.cmp _ _ _,X,e,c,h|.cmp2 _ _ _ _ _,X,e,c,h|.and _ _,X,e,c,h|.or _ _,X,e,c,h|.not _,X,e,c,h|.neg _,X,e,c,h|.ife _ _ _,X,e,c,h|.lst _,X,e,c,h|.call _ _,X,e,c,h|.blt _ _,X,e,c,h|.bnw _ _,X,e,c,h|.isi _ _,X,e,c,h|.lset _,X,e,c,h|.sst _,X,e,c,h|.idl _ _,X,e,c,h|.dnew,X,e,c,h|.pf _ _,X,e,c,h|.pl _ _,X,e,c,h|.pt _ _,X,e,c,h|.pin _ _ _ _,X,e,c,h|.din _ _ _ _,X,e,c,h|.comp _ _ _ _ _ _,X,e,c,h|.compB _ _ _ _ _ _,X,e,c,h|.meth _ _ _ _ _,X,e,c,h|.make _ _ _,X,e,c,h=>absurd h aal
theorem FK:∀(m:Es) X xs,Cy t C X->vD t m X.N X.env.scope xs=true->PDqs X xs (nP C m)
 |.nil,X,xs,c,h=>by
  cases xs with
  |nil=>exact Cn
  |cons _ _=>cases h
 |.cons a es,X,xs,c,h=>by obtain⟨z,f,h⟩:=anyT h;have:=con1_ok f;subst this;obtain⟨e,b,d⟩:=an3 h;exact yf (bt e) (Gv a X _ c b) (FK es X _ c d)
end
end
def sk(e:PySem.Stmt):Option (Expr):=if h:e.ctorIdx=24 then some (@PySem.Stmt.Expr.elim (λ_=>Expr) e h λx _=>x) else none
def kJ(h:sk e=some z):∃p,e=.Expr z p:=by
 by_cases a:e.ctorIdx=24
 ·revert h;exact@PySem.Stmt.Expr.elim (λe=>sk e=some z->∃p,e=.Expr z p) e a λx p h=>by cases h;exact⟨p,rfl⟩
 ·rw[sk,dif_neg a]at h;cases h
def yB(e:PySem.Stmt):Option (List Expr×Expr):=if h:e.ctorIdx=5 then some (@PySem.Stmt.Assign.elim (λ_=>List Expr×Expr) e h λa x _=>(a,x)) else none
def asAs_ok(h:yB e=some z):∃p,e=.Assign z.1 z.2 p:=by
 by_cases a:e.ctorIdx=5
 ·revert h;exact@PySem.Stmt.Assign.elim (λe=>yB e=some z->∃p,e=.Assign z.1 z.2 p) e a λb x p h=>by cases h;exact⟨p,rfl⟩
 ·rw[yB,dif_neg a]at h;cases h
def vE(e:PySem.Stmt):Option (Expr×Operator×Expr):=if h:e.ctorIdx=7 then some (@PySem.Stmt.AugAssign.elim (λ_=>Expr×Operator×Expr) e h λt o x _=>(t,o,x)) else none
def asAu_ok(h:vE e=some z):∃p,e=.AugAssign z.1 z.2.1 z.2.2 p:=by
 by_cases a:e.ctorIdx=7
 ·revert h;exact@PySem.Stmt.AugAssign.elim (λe=>vE e=some z->∃p,e=.AugAssign z.1 z.2.1 z.2.2 p) e a λt o x p h=>by cases h;exact⟨p,rfl⟩
 ·rw[vE,dif_neg a]at h;cases h
def yC(e:PySem.Stmt):Option (Option Expr):=if h:e.ctorIdx=3 then some (@PySem.Stmt.Return.elim (λ_=>Option Expr) e h λo _=>o) else none
def yD(h:yC e=some z):∃p,e=.Return z p:=by
 by_cases a:e.ctorIdx=3
 ·revert h;exact@PySem.Stmt.Return.elim (λe=>yC e=some z->∃p,e=.Return z p) e a λo p h=>by cases h;exact⟨p,rfl⟩
 ·rw[yC,dif_neg a]at h;cases h
def yE(e:PySem.Stmt):Option (Expr×List Stmt×List Stmt):=if h:e.ctorIdx=12 then some (@PySem.Stmt.If.elim (λ_=>Expr×List Stmt×List Stmt) e h λc a b _=>(c,a,b)) else none
def yF(h:yE e=some z):∃p,e=.If z.1 z.2.1 z.2.2 p:=by
 by_cases d:e.ctorIdx=12
 ·revert h;exact@PySem.Stmt.If.elim (λe=>yE e=some z->∃p,e=.If z.1 z.2.1 z.2.2 p) e d λc a b p h=>by cases h;exact⟨p,rfl⟩
 ·rw[yE,dif_neg d]at h;cases h
def yG(e:PySem.Stmt):Option (Expr×Expr×List Stmt×List Stmt):=if h:e.ctorIdx=9 then some (@PySem.Stmt.For.elim (λ_=>Expr×Expr×List Stmt×List Stmt) e h λg i a b _=>(g,i,a,b)) else none
def yH(h:yG e=some z):∃p,e=.For z.1 z.2.1 z.2.2.1 z.2.2.2 p:=by
 by_cases c:e.ctorIdx=9
 ·revert h;exact@PySem.Stmt.For.elim (λe=>yG e=some z->∃p,e=.For z.1 z.2.1 z.2.2.1 z.2.2.2 p) e c λg i a b p h=>by cases h;exact⟨p,rfl⟩
 ·rw[yG,dif_neg c]at h;cases h
def FL(s:Stmt):Bool:=decide (s.ctorIdx=27)
def yI(h:FL s=true):∃p,s=.Continue p:=@Stmt.Continue.elim (λs=>∃p,s=.Continue p) s (Daa h) λp=>⟨p,rfl⟩
def jo(s:Stmt):Option (Expr×Expr):=(yB s).bind λz=>(eM z.1).bind λt=>some (t,z.2)
def asg1_ok{z}(h:jo s=some z):∃p,s=.Assign [z.1] z.2 p:=by obtain⟨c,t,b,a,h⟩:=bn2 h;cases h;obtain⟨d,e⟩:=c;obtain⟨p,rfl⟩:=asAs_ok b;have:=one1_ok a;simp only at this;subst this;exact⟨p,rfl⟩
def FM(a:Str)(s:Stmt):Option (Str×List Expr×Pos×Pos):=(sk s).bind λe=>(yt e).bind λz=>if sEq z.2.1 a then some (z.1,z.2.2) else none
def yJ{z}(h:FM m0 s=some z):∃p b,s=.Expr (.Call (.Attribute (.Name z.1 p) m0 z.2.2.1) z.2.1 [] z.2.2.2) b:=by
 obtain⟨e,c,f,d,h⟩:=bn2 h;cases a:sEq c.2.1 m0 with
 |false=>rw[a]at h;cases h
 |true=>rw[a]at h;cases h;obtain⟨p,rfl⟩:=kG d;obtain⟨b,rfl⟩:=kJ f;rw[bJ a];exact⟨p,b,rfl⟩
def pX(s:Stmt):Option (Expr×Expr×Pos×Pos):=(sk s).bind λe=>(gi e).bind λz=>(gE z.1).bind λa=>(eM z.2.1).bind λx=>if z.2.2.1.isEmpty&&sEq a.2.1 "append" then some (a.1,x,a.2.2,z.2.2.2) else none
def iM{z}(h:pX s=some z):∃p,s=.Expr (.Call (.Attribute z.1 "append" z.2.2.1) [z.2.1] [] z.2.2.2) p:=by
 obtain⟨e,c,a,x,r,j,n,k,h⟩:=bn4 h;obtain⟨f,t,i,q⟩:=c;obtain⟨o,m,u⟩:=a;cases b:(i.isEmpty&&sEq m "append") with
 |false=>simp only[b]at h;cases h
 |true=>
  simp only[b]at h;cases h;have d:=asAtt_ok n;have g:=one1_ok k;have l:=bJ (an2 b).2;cases i with
  |cons _ _=>cases b
  |nil=>simp only at d g;subst l;subst g;subst d;obtain⟨p,rfl⟩:=kJ r;exact⟨p,by rw[gj j]⟩
def cmpE:E->Bool
 |.comp _ _ _ _ _ _=>true|_=>false
def setB(t:Tb)(a:Nat->Bool)(N:List Str)(sc:Scope)(i:Nat)(m:E)(x:Str)(p:Pos)(e:Expr):Bool:=kD a N sc true N.length i x&&(aQ t m).1 N sc e&&match l9 e with
 |some z=>!swC sc x p z.2.2.2 z.2.2.1||cmpE m
 |none=>!fe e
def nY(e:PySem.Expr):Option (Str×Pos):=if h:e.ctorIdx=23 then some (@PySem.Expr.Name.elim (λ_=>Str×Pos) e h λx p=>(x,p)) else none
def gV(h:nY e=some z):e=.Name z.1 z.2:=by
 by_cases a:e.ctorIdx=23
 ·revert h;exact@PySem.Expr.Name.elim (λe=>nY e=some z->e=.Name z.1 z.2) e a λx p h=>by cases h;exact rfl
 ·rw[nY,dif_neg a]at h;cases h
section
variable(t:Tb)
mutual
noncomputable def FN(h:Nat->Bool):S'->List Str->Scope->Stmt->Bool
 |.ex m=>λN sc s=>(sk s).any λe=>!fe e&&(aQ t m).1 N sc e
 |.set i m=>λN sc s=>(jo s).any λz=>(nY z.1).any λx=>setB t h N sc i m x.1 x.2 z.2
 |.asg g m=>λN sc s=>(jo s).any λz=>isTup z.1&&zY z.1 z.2 sc&&(aQ t m).1 N sc z.2&&jn h N sc true N.length g z.1
 |.par is ms=>λN sc s=>(jo s).any λz=>(cQ z.1).any λl=>(cQ z.2).any λvs=>gS t ms N sc vs&&decide (Gu l vs sc=some (some (sj l sc)))&&(match is with
  |[i,j]=>(kj l).any λw=>(kj vs).any λ_=>(cf w.1).any λx=>(cf w.2).any λy=>decide (sj l sc=[x,y])&&decide (i≠j)&&(decide (N[i]?=some x)&&decide (N[j]?=some y))&&(kindB sc x .local&&kindB sc y .local)&&(h i&&h j)
  |[i,j,k]=>(BY l).any λw=>(BY vs).any λ_=>(cf w.1).any λx=>(cf w.2.1).any λy=>(cf w.2.2).any λz=>decide (sj l sc=[x,y,z])&&(decide (i≠j)&&decide (i≠k)&&decide (j≠k))&&(decide (N[i]?=some x)&&decide (N[j]?=some y)&&decide (N[k]?=some z))&&(kindB sc x .local&&kindB sc y .local&&kindB sc z .local)&&(h i&&h j&&h k)
  |_=>false)
 |.aug i o m=>λN sc s=>(vE s).any λz=>(cf z.1).any λx=>Gr o z.2.1&&kD h N sc true N.length i x&&(aQ t m).1 N sc z.2.2
 |.ret m=>λN sc s=>(yC s).any λo=>o.any λe=>(aQ t m).1 N sc e
 |.iff c a b=>λN sc s=>(yE s).any λz=>(aQ t c).2 N sc z.1&&iN h a N sc z.2.1&&iN h b N sc z.2.2
 |.fr g it b=>λN sc s=>(yG s).any λz=>!isSet z.2.1&&nU t it N sc z.1 z.2.1&&jn h N sc true N.length g z.1&&iN h b N sc z.2.2.1&&z.2.2.2.isEmpty
 |.cont=>λN sc s=>FL s
 |.app i m=>λN sc s=>(pX s).any λz=>(cf z.1).any λx=>sL N sc i x&&(z.2.2.1.endLine==z.2.2.2.line)&&!isStar z.2.1&&(aQ t m).1 N sc z.2.1
 |.ext i m=>λN sc s=>(FM "extend" s).any λz=>(eM z.2.1).any λy=>sL N sc i z.1&&(z.2.2.1.endLine==z.2.2.2.line)&&!isStar y&&(aQ t m).1 N sc y
 |.apd i ps m=>λN sc s=>(pX s).any λz=>!isCall z.1&&(z.2.2.1.endLine==z.2.2.2.line)&&!isStar z.2.1&&cH t N sc i ps z.1&&vC t m N sc z.2.1
 |.sti i k m=>λN sc s=>(jo s).any λz=>(eR z.1).any λw=>(cf w.1).any λx=>sL N sc i x&&!bQ w.2&&!fe z.2&&(aQ t m).1 N sc z.2&&(aQ t k).1 N sc w.2
 |.std i ps j m=>λN sc s=>(jo s).any λz=>(eR z.1).any λw=>!fe z.2&&cH t N sc i ps w.1&&yp N sc j w.2&&(aQ t m).1 N sc z.2
 |.sdc i nt fr it tg ke ve=>λN sc s=>(jo s).any λz=>(nY z.1).any λx=>(vk z.2).any λw=>(λd=>kD h N sc true N.length i x.1&&compB d nt fr N w.2.2.2.2.2.1 sc&&!isSet w.2.2.2.1&&nU t it N sc w.2.2.1 w.2.2.2.1&&swC sc x.1 x.2 w.2.2.2.2.2.2 w.2.2.2.2.2.1&&(decide d.Nodup&&w.2.2.2.2.1.isEmpty&&jn (λ_=>true) d (eO w.2.2.2.2.2.1 sc) false nt tg w.2.2.1&&(aQ t ke).1 d (eO w.2.2.2.2.2.1 sc) w.1&&(aQ t ve).1 d (eO w.2.2.2.2.2.1 sc) w.2.1)) (ml w.2.2.1++fr.filterMap λj=>N[j]?)
 |.sdl i nt fr it tg ke=>λN sc s=>(jo s).any λz=>(nY z.1).any λx=>(vk z.2).any λw=>(λd=>kD h N sc true N.length i x.1&&compB d nt fr N w.2.2.2.2.2.1 sc&&!isSet w.2.2.2.1&&nU t it N sc w.2.2.1 w.2.2.2.1&&!swC sc x.1 x.2 w.2.2.2.2.2.2 w.2.2.2.2.2.1&&(decide d.Nodup&&w.2.2.2.2.1.isEmpty&&jn (λ_=>true) d (eO w.2.2.2.2.2.1 sc) false nt tg w.2.2.1&&(aQ t ke).1 d (eO w.2.2.2.2.2.1 sc) w.1&&(aQ t (.lst .nil)).1 d (eO w.2.2.2.2.2.1 sc) w.2.1)) (ml w.2.2.1++fr.filterMap λj=>N[j]?)
 |.sc2 i nt fr it tg it2 tg2 e=>λN sc s=>(jo s).any λz=>(nY z.1).any λx=>(zX z.2).any λw=>(λd=>kD h N sc true N.length i x.1&&compB d nt fr N w.2.2.2.1 sc&&!isSet w.2.1.2&&nU t it N sc w.2.1.1 w.2.1.2&&swC sc x.1 x.2 w.2.2.2.2 w.2.2.2.1&&(decide d.Nodup&&!isSet w.2.2.1.2&&jn (λ_=>true) d (eO w.2.2.2.1 sc) false nt tg w.2.1.1&&nU t it2 d (eO w.2.2.2.1 sc) w.2.2.1.1 w.2.2.1.2&&(jn (λ_=>true) d (eO w.2.2.2.1 sc) false nt tg2 w.2.2.1.1&&(aQ t e).1 d (eO w.2.2.2.1 sc) w.1))) (ml w.2.1.1++ml w.2.2.1.1++fr.filterMap λj=>N[j]?)
 |.stf i c f m=>λN sc s=>(jo s).any λz=>(gE z.1).any λw=>(cf w.1).any λx=>sEq w.2.1 f&&sL N sc i x&&t.fld c f&&!fe z.2&&(aQ t m).1 N sc z.2
 |.agf i c f o m=>λN sc s=>(vE s).any λz=>(gE z.1).any λw=>(cf w.1).any λx=>sEq w.2.1 f&&Gr o z.2.1&&sL N sc i x&&t.fld c f&&(aQ t m).1 N sc z.2.2
noncomputable def iN(a:Nat->Bool):Ss->List Str->Scope->List Stmt->Bool
 |.nil=>λN sc s=>s.isEmpty
 |.cons m ms=>λN sc s=>(mh s).any λz=>FN a m N sc z.1&&iN a ms N sc z.2
 |.ali i ps j ms=>λN sc s=>(mh s).any λy=>(pX y.1).any λz=>(cf z.2.1).any λx=>!isCall z.1&&(z.2.2.1.endLine==z.2.2.2.line)&&cH t N sc i ps z.1&&sL N sc j x&&iN (λk=>a k&&!decide (k=j)) ms N sc y.2
end
end
structure Cs (t:Tb)(C:Ct)(W:Nat->Prop)(ok:Nat->Bool)(X:Cx):Prop where
 c:Cy t C X
 nd:X.N.Nodup
 fn:∀x,X.fn x=true
 pass:PassesOwn (model X.prog X.w) X.A X.env X.xe
 hw:∀i,ok i=true->¬ W i
section
variable{t:Tb}{C:Ct}
def FO:swappedStores [.Subscript o i p] e env=pure none:=by cases e<;>rfl
def pY{b:Stmt}(h:PDs X W b (BL is (fF C ms))):PDs X W b (gh C (.par is ms)):=h.imp λD e ⟨y,h,q⟩=>by obtain⟨z,o,_,d,c,a,h⟩:=bn3 h;have a:=gd_ok a;cases h;exact⟨z,d,o.1,o.2,c,a.1,a.2,q⟩
def CN(c:Cs t C W ok X){z}(g:l9 e=some z)(s:Sto X W X.N.length i x)(a:swC X.env.scope x p z.2.2.2 z.2.2.1=true)
  (h:(aQ t (.comp nt fr it tg ifs el)).1 X.N X.env.scope e=true):PDx X i (.Assign [.Name x p] e pos) (aF C (.comp nt fr it tg ifs el)):=by
 have l:X.env.scope.names.lookup x=some .local:=by unfold swC at a;have:=(an4 a).2.1;simpa using this
 obtain⟨w,u,h⟩:=anyT h;have o:=iJ u;subst o;cases g;obtain⟨f,b,n,r,k⟩:=an5 h;obtain⟨j,d,m⟩:=an3 k;exact CK c.nd s.hN l c.c.calm (cS f) (fg (bt n)) (CJ it X _ _ c.c r) (λq=>cF c.c.calm (Daa b) (λz=>by cases z) (λ_ _ z=>z) j) (λq=>HZ ifs (aY X _ w.2.2.2.2.1 q) _ _ c.c.comp (bf el) d m) (by rw[vA,a])
def yK(c:Cs t C W ok X)(h:setB t ok X.N X.env.scope i m x p e=true):PDs X W (.Assign [.Name x p] e pos) (gh C (.set i m)):=by
 obtain⟨k,f,a⟩:=an3 h;have s:=cX (λ_=>c.fn) c.hw k;cases d:l9 e with
 |none=>rw[d]at a;exact zU c.nd s (iF (bt a)) ((bf m).v X _ c.c f)
 |some z=>
  rw[d]at a;cases b:swC X.env.scope x p z.2.2.2 z.2.2.1 with
  |false=>have j:=kB d;exact zU c.nd s (by rw[j,vA,b]) ((bf m).v X _ c.c f)
  |true=>
   have a:(!swC X.env.scope x p z.2.2.2 z.2.2.1||cmpE m)=true:=a;rw[b]at a;have a:cmpE m=true:=a;cases m with
   |comp l q r o g n=>exact CL s.nw (CN c d s b f)
   |_=>cases a
mutual
theorem Js{W:Nat->Prop}{ok:Nat->Bool}:∀(m:S') X s,Cs t C W ok X->FN t ok m X.N X.env.scope s=true->PDs X W s (gh C m)
 |.ex m,X,s,c,h=>by obtain⟨e,d,k'⟩:=anyT h;obtain⟨p,rfl⟩:=kJ d;exact HC (bt (an2 k').1) ((bf m).v X _ c.c (an2 k').2)
 |.set i m,X,s,c,h=>by obtain⟨z,x,d,A,k'⟩:=ay2 h;obtain⟨p,rfl⟩:=asg1_ok d;rw[gV A];exact yK c k'
 |.asg g m,X,s,c,h=>by
  obtain⟨z,d,k'⟩:=anyT h;obtain⟨p,rfl⟩:=asg1_ok d;obtain⟨l,n,B,D⟩:=an4 k';refine Fe ?_ (vw n) ?_ ((bf m).v X _ c.c B) (cF c.c.calm c.nd (λ_=>c.fn) c.hw D)
  ·obtain⟨_,_,_,e⟩:=fH l;rw[e];cases z.2<;>rfl
  obtain⟨_,_,_,e⟩:=fH l;rw[e];rfl
 |.par is ms,X,s,c,h=>by
  obtain⟨z,ts,vs,d,A,F,k'⟩:=ay3 h;obtain⟨p,rfl⟩:=asg1_ok d;obtain⟨z1,z2⟩:=z;obtain⟨Y,p1,e1⟩:=asTup_ok A;obtain⟨k2,p2,e2⟩:=asTup_ok F;simp only at e1 e2;subst e1 e2;obtain⟨l,r,k'⟩:=an3 k';have T:=Daa r
  match is,k' with
  |[i,j],k'=>
   obtain⟨w,u,x,y,L,H,I,P,k'⟩:=ay4 k';have e3:=two2_ok L;have e4:=two2_ok H;obtain⟨w1,w2⟩:=w;obtain⟨q1,e5⟩:=asNm_ok I;obtain⟨q2,e6⟩:=asNm_ok P;simp only at e3 e4 e5 e6;subst e5 e6;subst e3 e4;obtain⟨c1,c2,c3,c4,c5⟩:=an5 k';rw[Daa c1]at T;refine pY (xQ (λk O=>?_) c.c.calm c.nd (Daa (an2 c3).1) (Daa (an2 c3).2) (Daa c2) (aH (an2 c4).1) (aH (an2 c4).2) (nW T) rfl (yz ms X _ c.c l));rcases aac.mp O with rfl|O
   ·exact c.hw _ (an2 c5).1
   ·rw[aao.mp O];exact c.hw _ (an2 c5).2
  |[i,j,k],k'=>
   obtain⟨w,u,x,y,z,L,H,I,P,M,k'⟩:=ay5 k';have e3:=thr3_ok L;have e4:=thr3_ok H;obtain⟨w1,w2,w3⟩:=w;obtain⟨q1,e5⟩:=asNm_ok I;obtain⟨q2,e6⟩:=asNm_ok P;obtain⟨q3,e7⟩:=asNm_ok M;simp only at e3 e4 e5 e6 e7;subst e5 e6 e7;subst e3 e4;obtain⟨c1,c2,c3,c4,c5⟩:=an5 k';obtain⟨d1,d2,d3⟩:=an3 c2;obtain⟨d4,d5,d6⟩:=an3 c3;obtain⟨d7,d8,d9⟩:=an3 c4;obtain⟨f1,f2,f3⟩:=an3 c5;rw[Daa c1]at T;refine pY (uk (λk O=>?_) c.c.calm c.nd (Daa d4) (Daa d5) (Daa d6) (Daa d1) (Daa d2) (Daa d3) (aH d7) (aH d8) (aH d9) (nW T) rfl (yz ms X _ c.c l));rcases aac.mp O with rfl|O
   ·exact c.hw _ f1
   ·rcases aac.mp O with rfl|O
    ·exact c.hw _ f2
    ·rw[aao.mp O];exact c.hw _ f3
  |[],k'=>exact absurd k' aal
  |[_],k'=>exact absurd k' aal
  |_::_::_::_::_,k'=>exact absurd k' aal
 |.aug i o m,X,s,c,h=>by obtain⟨z,x,d,A,k'⟩:=ay2 h;obtain⟨p,rfl⟩:=asAu_ok d;obtain⟨q,e⟩:=asNm_ok A;obtain⟨l,r,n⟩:=an3 k';rw[e,nR l];exact Fh c.nd (cX (λ_=>c.fn) c.hw r) ((bf m).v X _ c.c n)
 |.ret m,X,s,c,h=>by obtain⟨o,e,d,A,k'⟩:=ay2 h;obtain⟨p,rfl⟩:=yD d;subst A;exact Fd ((bf m).v X _ c.c k')
 |.iff z a b,X,s,c,h=>by obtain⟨q,d,k'⟩:=anyT h;obtain⟨p,rfl⟩:=yF d;obtain⟨l,r,n⟩:=an3 k';exact HD ((bf z).t X _ c.c l) (sm a X _ c r) (sm b X _ c n)
 |.fr g it b,X,s,c,h=>by
  obtain⟨q,d,k'⟩:=anyT h;obtain⟨p,rfl⟩:=yH d;obtain⟨l,r,n,B,D⟩:=an5 k';obtain⟨q1,q2,q3,q4⟩:=q;cases q4 with
  |nil=>exact Fg c.pass c.c.calm (fg (bt l)) (CJ it X _ _ c.c r) (cF c.c.calm c.nd (λ_=>c.fn) c.hw n) (sm b X _ c B)
  |cons _ _=>cases D
 |.cont,X,s,c,h=>by obtain⟨p,rfl⟩:=yI h;exact Cj
 |.app i m,X,s,c,h=>by obtain⟨z,x,d,A,k'⟩:=ay2 h;obtain⟨p,rfl⟩:=iM d;obtain⟨q,e⟩:=asNm_ok A;obtain⟨l,r,n,B⟩:=an4 k';obtain⟨U,J,Q,S⟩:=bK l;rw[e];exact Fv U J Q S r (bt n) ((bf m).v X _ c.c B)
 |.ext i m,X,s,c,h=>by obtain⟨z,y,d,A,k'⟩:=ay2 h;obtain⟨p,p',rfl⟩:=yJ d;obtain⟨l,r,n,B⟩:=an4 k';obtain⟨U,J,Q,S⟩:=bK l;rw[one1_ok A];exact Fw U J Q S r (bt n) ((bf m).v X _ c.c B)
 |.apd i ps m,X,s,c,h=>by obtain⟨z,d,k'⟩:=anyT h;obtain⟨p,rfl⟩:=iM d;obtain⟨l,r,n,B,D⟩:=an5 k';exact Fx (kC (bt l)) r (bt n) (aZ c.c ps _ B) (Gv m X _ c.c D)
 |.sti i k m,X,s,c,h=>by obtain⟨z,w,x,d,A,F,k'⟩:=ay3 h;obtain⟨p,rfl⟩:=asg1_ok d;obtain⟨q,e⟩:=cR A;obtain⟨q',Z⟩:=asNm_ok F;obtain⟨l,r,n,B,D⟩:=an5 k';obtain⟨U,J,Q,S⟩:=bK l;rw[e,Z];exact Fy U J Q S (bt r) (iF (bt n)) FO ((bf m).v X _ c.c B) ((bf k).v X _ c.c D)
 |.std i ps j m,X,s,c,h=>by obtain⟨z,w,d,A,k'⟩:=ay2 h;obtain⟨p,rfl⟩:=asg1_ok d;obtain⟨q,e⟩:=cR A;obtain⟨l,r,n,B⟩:=an4 k';rw[e];exact FA (by have:=c.c.units;omega) (iF (bt l)) (aZ c.c ps _ r) (vf n).1 ((bf m).v X _ c.c B)
 |.sdc i nt fr it tg ke ve,X,s,c,h=>by
  obtain⟨z,x,w,d,A,F,k'⟩:=ay3 h;obtain⟨p,rfl⟩:=asg1_ok d;obtain⟨k0,Y⟩:=an2 k';obtain⟨l,r,n,B,D⟩:=an5 k0;obtain⟨L,H,I,P,M⟩:=an5 Y;have s:=cX (W:=W) (λ_=>c.fn) c.hw l;have hl:X.env.scope.names.lookup x.1=some .local:=by unfold swC at D;have:=(an4 D).2.1;simpa using this
  rw[gV A,mo F,abH.mp H];exact FH s.nw c.nd s.hN hl c.c.calm (cS r) (fg (bt n)) (by show pure (swC X.env.scope x.1 x.2 w.2.2.2.2.2.2 w.2.2.2.2.2.1)=_;rw[D]) (λq=>by have:=(c.c.comp (q:=q) (N:=ml w.2.2.1++fr.filterMap λj=>X.N[j]?) (sc:=w.2.2.2.2.2.1)).units;omega) (CJ it X _ _ c.c B) (λq=>cF (X:=aY X _ w.2.2.2.2.2.1 q) (fn:=false) c.c.calm (Daa L) (λz=>by cases z) (λ_ _ z=>z) I) (λq=>(bf ke).v (aY X _ w.2.2.2.2.2.1 q) _ c.c.comp P) λq=>(bf ve).v (aY X _ w.2.2.2.2.2.1 q) _ c.c.comp M
 |.sdl i nt fr it tg ke,X,s,c,h=>by obtain⟨z,x,w,d,A,F,k'⟩:=ay3 h;obtain⟨p,rfl⟩:=asg1_ok d;obtain⟨k0,Y⟩:=an2 k';obtain⟨l,r,n,B,D⟩:=an5 k0;obtain⟨L,H,I,P,M⟩:=an5 Y;have s:=cX (W:=W) (λ_=>c.fn) c.hw l;rw[gV A,mo F,abH.mp H];exact FI c.nd s c.c.calm (cS r) (fg (bt n)) (by show pure (swC X.env.scope x.1 x.2 w.2.2.2.2.2.2 w.2.2.2.2.2.1)=_;rw[bt D]) (λq=>by have:=(c.c.comp (q:=q) (N:=ml w.2.2.1++fr.filterMap λj=>X.N[j]?) (sc:=w.2.2.2.2.2.1)).units;omega) (CJ it X _ _ c.c B) (λq=>cF (X:=aY X _ w.2.2.2.2.2.1 q) (fn:=false) c.c.calm (Daa L) (λz=>by cases z) (λ_ _ z=>z) I) (λq=>(bf ke).v (aY X _ w.2.2.2.2.2.1 q) _ c.c.comp P) λq=>(bf (.lst .nil)).v (aY X _ w.2.2.2.2.2.1 q) _ c.c.comp M
 |.sc2 i nt fr it tg it2 tg2 e,X,s,c,h=>by
  obtain⟨z,x,w,d,A,F,k'⟩:=ay3 h;obtain⟨p,rfl⟩:=asg1_ok d;obtain⟨k0,Y⟩:=an2 k';obtain⟨l,r,n,B,D⟩:=an5 k0;obtain⟨L,H,I,P,M⟩:=an5 Y;obtain⟨M,b6⟩:=an2 M;have s:=cX (W:=W) (λ_=>c.fn) c.hw l;have hl:X.env.scope.names.lookup x.1=some .local:=by unfold swC at D;have:=(an4 D).2.1;simpa using this
  rw[gV A,vn F];have gk:∀{m:Tg}{te:Expr},jn (λ_=>true) _ _ false nt m te=true->∀q,PDg (aY X _ w.2.2.2.1 q) Ff nt te (eN m):=λ{m te} b q=>cF (X:=aY X _ w.2.2.2.1 q) (fn:=false) c.c.calm (Daa L) (λz=>by cases z) (λ_ _ z=>z) b;exact FJ s.nw c.nd s.hN hl c.c.calm (cS r) (fg (bt n)) (λq=>fg (bt H)) (by show pure (swC X.env.scope x.1 x.2 w.2.2.2.2 w.2.2.2.1)=_;rw[D]) (CJ it X _ _ c.c B) (gk I) (λq=>CJ it2 (aY X _ w.2.2.2.1 q) _ _ c.c.comp P) (gk M) λq=>(bf e).v (aY X _ w.2.2.2.1 q) _ c.c.comp b6
 |.stf i cn f m,X,s,c,h=>by obtain⟨z,w,x,d,A,F,k'⟩:=ay3 h;obtain⟨p,rfl⟩:=asg1_ok d;have e:=asAtt_ok A;obtain⟨q',Z⟩:=asNm_ok F;obtain⟨l,r,n,B,D⟩:=an5 k';obtain⟨U,J,Q,S⟩:=bK r;rw[e,Z,bJ l];exact FB U J Q S (c.c.hfl _ _ n).1 (c.c.hfl _ _ n).2 (iF (bt B)) ((bf m).v X _ c.c D)
 |.agf i cn f o m,X,s,c,h=>by obtain⟨z,w,x,d,A,F,k'⟩:=ay3 h;obtain⟨p,rfl⟩:=asAu_ok d;have e:=asAtt_ok A;obtain⟨q',Z⟩:=asNm_ok F;obtain⟨l,r,n,B,D⟩:=an5 k';obtain⟨U,J,Q,S⟩:=bK n;rw[e,Z,bJ l,nR r];exact FC U J Q S (c.c.hfl _ _ B).1 (c.c.hfl _ _ B).2 ((bf m).v X _ c.c D)
theorem sm:∀(m:Ss) X s,Cs t C W ok X->iN t ok m X.N X.env.scope s=true->PDss X W s (ky C m)
 |.nil,X,s,c,h=>by
  cases s with
  |nil=>exact Ci
  |cons _ _=>cases h
 |.cons m ms,X,s,c,h=>by obtain⟨z,a,k'⟩:=anyT h;have:=con1_ok a;subst this;exact ye (Js m X _ c (an2 k').1) (sm ms X _ c (an2 k').2)
 |.ali i ps j ms,X,s,c,h=>by obtain⟨y,z,x,v,a,g,k'⟩:=ay3 h;have:=con1_ok v;subst this;obtain⟨p,w⟩:=iM a;obtain⟨q,e⟩:=asNm_ok g;obtain⟨l,d,r,A,o⟩:=an5 k';obtain⟨B,f,u,n⟩:=bK A;rw[w,e];exact CM (kC (bt l)) d B f u n (aZ c.c ps _ r) (sm ms X _ ⟨c.c,c.nd,c.fn,c.pass,λk b z=>z.elim (c.hw k (an2 b).1) (Dad (bt (an2 b).2))⟩ o)
end
end
end
section
structure Df where
 name:Str
 qual:Str
 st:Stmt
 ps:List Str
 N:List Str
 fn:Fn
def CO(N ps:List Str)(sc:Scope):Bool:=decide (sc.kind=.function)&&!sc.isCoroutine&&!sc.isGenerator&&decide N.Nodup&&decide (N.take ps.length=ps)&&ps.all (λx=>yn sc x)&&sc.names.all λy=>!decide (y.2=.free)
def yL(h:CO N ps sc=true):FnScope N ps sc:=by unfold CO at h;simp only[aaI,abm,ab6,decide_eq_true_eq,decide_eq_false_iff_not]at h;obtain⟨⟨⟨⟨⟨⟨f,d⟩,e⟩,i⟩,b⟩,a⟩,c⟩:=h;exact⟨f,d,e,i,b,λx g=>pP (a x g),c⟩
def nZ(ios:List Bool)(i:Nat):Bool:=!decide (ios[i]?=some true)
def yM(t:Tb)(d:Df):Bool:=CO d.N d.ps (aK d.st)&&decide (d.fn.io.length=d.ps.length)&&decide (d.fn.n=d.N.length)&&iN t (nZ d.fn.io) d.fn.body d.N (aK d.st) (b9 d.st)
structure Md (K:Waa)(mg:Str->Option Value)(t:Tb)(p:Pg)(D:Nat->Option Df):Prop where
 df:∀j d,D j=some d->p.F j=some d.fn/\yM t d=true/\∃f fd,Fun K d.name d.qual d.st f fd/\Binds K fd d.ps [] /\
  (∀nm,t.fn j=some nm->mg nm=some (.ref f)/\PySem.W.keepIn K (.ref f)=true)/\(∀c m,t.me j=some (c,m)->Cls K (au K c)/\Meth K (au K c) m f)/\(∀c,t.mk' j=some c->Mk K (au K c) f/\mg c=some (.ref (au K c)))
 all:∀j,((t.fn j).isSome||(t.me j).isSome||(t.mk' j).isSome)=true->(D j).isSome=true
 gc:∀g nm,t.gc g=some nm->∃v u,mg nm=some u/\RelV v u/\∀S H,Fz K S H v (p.gv g)
 ng:∀x,t.nog x=true->mg x=none
 fl:∀c f,t.fld c f=true->Cls K (au K c)/\NoAttr K (au K c) f
section
variable{P:Program}{w:World}{K:Waa}{mg:Str->Option Value}{base:Heap}{t:Tb}{p:Pg}{D:Nat->Option Df}
def mr(h:∀xs Q,¬ sp xs Q):FnD P w K mg base k f fd ps sp:=by have c:∀a H Q E,¬ toSp K sp a H Q E:=λa H Q E ⟨S,xs,A,_,_,_,_,z⟩=>h _ _ z;exact⟨⟨λa H Q E z=>(c _ _ _ _ z).elim,λA b s H d e a Q E _ _ _ _ z=>(c _ _ _ _ z).elim⟩,λxs P R _ z=>(h _ _ z).elim⟩
def mw(h:∀xs,g xs=none):∀xs Q,¬ spC g xs Q:=λxs Q ⟨w,e,_⟩=>by rw[h]at e;cases e
theorem Md.ok(M:Md K mg t p D):∀(n:Nat),(∀(j:Nat) (d:Df),D j=some d->∀(f:Addr) (r:FuncData),Fun K d.name d.qual d.st f r->FnD P w K mg base (n+1) f r d.ps (spC (p.call n j))) /\
  (∀(j:Nat) (d:Df),D j=some d->∀(f:Addr) (r:FuncData),Fun K d.name d.qual d.st f r->FnD P w K mg base n f r d.ps (spC (p.mak n j)))
 |0=>⟨λj d _ f r _=>mr (mw λ_=>rfl),λj d _ f r _=>mr (mw λ_=>rfl)⟩
 |n+1=>by
  obtain⟨v,W⟩:=Md.ok M n;refine⟨λj d J f r F=>?_,λj d J f r F=>v j d J f r F⟩;obtain⟨h1,L,_⟩:=M.df j d J;unfold yM at L;simp only[aaI,decide_eq_true_eq]at L;obtain⟨⟨⟨g1,X⟩,g3⟩,g4⟩:=L;have S:=yL g1;refine F.okD S (uU _) X (λxs Q ⟨z,e,_⟩=>?_) λB A l s H E C xs Q ⟨z,e,q⟩=>?_
  ·rw[Pg.ei,h1]at e;simp only at e;split at e
   ·rename_i hl;rw[hl];exact X
   ·cases e
  ·have c:Cy t (p.ct n) (jZ CX0 P w K mg base d.N d.qual (aK d.st) f B A l s H E).nox:=by
    refine⟨rfl,C.units,C.gd,λk nm h=>?_,λk c m h=>?_,λk c h=>?_,M.gc,M.ng,M.fl⟩
    ·obtain⟨g,a⟩:=abt.mp (M.all k (by rw[h];rfl));obtain⟨_,_,u,b,I,y,Y,_,_⟩:=M.df k g a;exact⟨n+1,u,b,g.ps,v k g a u b I,C,(Y nm h).1,(Y nm h).2,y⟩
    ·obtain⟨g,a⟩:=abt.mp (M.all k (by rw[h];simp));obtain⟨_,_,u,b,I,y,_,Z,_⟩:=M.df k g a;exact⟨(Z c m h).1,n+1,u,b,g.ps,(Z c m h).2,v k g a u b I,C,y⟩
    ·obtain⟨g,a⟩:=abt.mp (M.all k (by rw[h];simp));obtain⟨_,_,u,b,I,y,_,_,q3⟩:=M.df k g a;exact⟨n,u,b,g.ps,(q3 c h).1,W k g a u b I,C,(q3 c h).2,y⟩
   have cs:Cs t (p.ct n) (WS d.fn.io) (nZ d.fn.io) (jZ CX0 P w K mg base d.N d.qual (aK d.st) f B A l s H E).nox:=
    ⟨c,S.nd,λ_=>rfl,PassesOwn.never,λi T z=>by
     unfold nZ at T;simp only[ab6,decide_eq_false_iff_not]at T;exact T z⟩
   refine⟨_,sm d.fn.body _ _ cs g4,?_⟩;rw[Pg.ei,h1]at e;simp only at e;split at e
   ·unfold uL at e;obtain⟨x,e1,e⟩:=bnd e;rw[g3]at e1;refine⟨x,e1,?_⟩;obtain⟨fl,ρ⟩:=x;cases fl with
    |nx=>obtain⟨O,U,e⟩:=bnd e;cases e;exact⟨O,U,q⟩
    |rt o=>obtain⟨O,U,e⟩:=bnd e;cases e;exact⟨O,U,q⟩
    |bk=>cases e
    |ct=>cases e
   ·cases e
def Md.law(M:Md K mg t p D)(g:D j=some d)(F:Fun K d.name d.qual d.st f fd)
  (h:∀ns:List Int,ns.length<=63->∃ys,p.call n j [.fz (.list (ns.map PyData.int))]=some (.fz (.bool true),ys)):
  FnOk P w K mg base CX0 (n+1) f fd d.ps (λvs H Q _=>∃(a:Addr) (ns:List Int),vs=[.ref a]/\SqL K H a (ns.map V.int)/\ns.length<=63/\∀b,Q (.bl true) b):=by
 refine((M.ok n).1 j d g f fd F).ok.imp λvs H Q E k=>?_;obtain⟨a,ns,rfl,m,i,q⟩:=k;obtain⟨ys,e⟩:=h ns i;refine⟨λ_=>False,[.fz (.list (ns.map PyData.int))],[],λa z=>z.elim,λ_ _ _ z=>z,Ows.cons (.fz ((Fz.of0 (.lst m (DtAll.ints ns))).sub λc z=>z.elim (λz=>by cases z) id)) .nil,abc,_,e,λv b B _ l _ _=>?_⟩;cases l with
 |cons r _=>
  cases r with
  |fz f=>cases f;exact q b
end
end
section
inductive Kd where|fn|me (c:Str)|ini (c:Str)
def Kd.fn?(d:Df):Kd->Option Str|.fn=>some d.name|_=>none
def Kd.me?(d:Df):Kd->Option (Str×Str)|.me c=>some (c,d.name)|_=>none
def Kd.ini?:Kd->Option Str|.ini c=>some c|_=>none
structure Pl where
 ds:List (Df×Kd)
 cs:List (Str×PyData)
 nog:List Str
 fld:List (Str×Str)
def Pl.tb(P:Pl):Tb where
 fn j:=(P.ds[j]?).bind λz=>z.2.fn? z.1
 me j:=(P.ds[j]?).bind λz=>z.2.me? z.1
 mk' j:=(P.ds[j]?).bind λz=>z.2.ini?
 gc g:=(P.cs[g]?).map (·.1)
 nog x:=P.nog.any λy=>sEq x y
 fld c f:=P.fld.any λy=>sEq c y.1&&sEq f y.2
def Pl.pg(P:Pl):Pg where
 F j:=(P.ds[j]?).map (·.1.fn)
 gv g:=((P.cs[g]?).map (·.2)).getD .none
 wf:=100000
def Pl.D(P:Pl)(j:Nat):Option Df:=(P.ds[j]?).map (·.1)
def FP(K:Waa)(a:Str->Option Value)(d:Df)(f:Addr):Kd->Prop
 |.fn=>a d.name=some (.ref f)/\PySem.W.keepIn K (.ref f)=true
 |.me c=>Cls K (au K c)/\Meth K (au K c) d.name f
 |.ini c=>Mk K (au K c) f/\a c=some (.ref (au K c))
def z5(K:Waa)(b:Str->Option Value)(z:Df×Kd):Prop:=∃f a,Fun K z.1.name z.1.qual z.1.st f a/\Binds K a z.1.ps []/\FP K b z.1 f z.2
section
variable{K:Waa}{mg:Str->Option Value}{P:Pl}
def mp{c d:Type}{o:Option c}{f:c->d}{b:d}(h:o.map f=some b):∃a,o=some a/\f a=b:=by
 cases o with
 |none=>cases h
 |some a=>exact⟨a,rfl,aaE h⟩
theorem Pl.md(L:(P.ds.all λz=>yM P.tb z.1)=true)(t:∀z∈P.ds,z5 K mg z)(J:∀z∈P.cs,∃v u,mg z.1=some u/\RelV v u/\∀S H,Fz K S H v z.2)(F:∀x∈P.nog,mg x=none)(I:∀z∈P.fld,Cls K (au K z.1)/\NoAttr K (au K z.1) z.2):Md K mg P.tb P.pg P.D where
 df j d hj:=by
  obtain⟨z,b,n⟩:=mp hj;subst n;have o:=aaV b;obtain⟨f,w,s,q,l⟩:=t z o;refine⟨by show (P.ds[j]?).map _=_;rw[b];rfl,abm.mp L z o,f,w,s,q,λp a=>?_,λc m a=>?_,λc a=>?_⟩
  ·have a:((P.ds[j]?).bind λz=>z.2.fn? z.1)=some p:=a;rw[b]at a;obtain⟨d,k⟩:=z;cases k<;>cases a;exact l
  ·have a:((P.ds[j]?).bind λz=>z.2.me? z.1)=some (c,m):=a;rw[b]at a;obtain⟨d,k⟩:=z;cases k<;>cases a;exact l
  ·have a:((P.ds[j]?).bind λz=>z.2.ini?)=some c:=a;rw[b]at a;obtain⟨d,k⟩:=z;cases k<;>cases a;exact l
 all j h:=by
  show ((P.ds[j]?).map _).isSome=true;cases e:P.ds[j]? with
  |none=>have h:((((P.ds[j]?).bind λz=>z.2.fn? z.1).isSome||((P.ds[j]?).bind λz=>z.2.me? z.1).isSome)||((P.ds[j]?).bind λz=>z.2.ini?).isSome)=true:=h;rw[e]at h;cases h
  |some z=>rfl
 gc g p h:=by
  obtain⟨z,b,n⟩:=mp h;subst n;obtain⟨v,u,A,r,B⟩:=J z (aaV b);have C:P.pg.gv g=z.2:=by show ((P.cs[g]?).map _).getD _=_;rw[b];rfl
  rw[C];exact⟨v,u,A,r,B⟩
 ng x h:=by obtain⟨y,i,e⟩:=abJ.mp h;rw[bJ e];exact F y i
 fl c f h:=by obtain⟨y,i,e⟩:=abJ.mp h;rw[bJ (an2 e).1,bJ (an2 e).2];exact I y i
end
end
end L2
namespace L2
open PySem
def bs{a b:Type}{o:Option a}{f:a->Option b}{x:a}{r:Option b}(h:o=some x)(k:f x=r):o.bind f=r:=by rw[h];exact k
def Jt[Decidable c](h:c):gd c=some ():=if_pos h
def bg{a:Type}[Decidable c]{f:Unit->Option a}{r:Option a}(h:c)(k:f ()=r):(gd c).bind f=r:=bs (Jt h) k
section
variable{C:Ct}{a b c e:E}{es:Es}{ρ ρ1 ρ2 ρ3:DEnv}{x y:OR}{dx dy d:PyData}{k k1:Bool}{i j f:Nat}{n:Int}{rs:List OR}{xs ys zs:List OD}{z w:OD}{ds:List PyData}{s:S'}{ss sa sb:Ss}{fl:Fl}{r:Option (Fl×DEnv)}{rv:Option (OR×DEnv)}{rt:Option (Bool×DEnv)}{ps:List Acc}
def ag{o:Bo}(m:ev C a ρ=some (x,ρ1))(l:ev C b ρ1=some (y,ρ2))(p:aw ρ2 x=some dx)(g:aw ρ2 y=some dy)(h:ya o dx dy=some d):ev C (.bop o a b) ρ=some (.val (.fz d),ρ2):=bs m (bs l (bs p (bs g (bs h rfl))))
def aC{o:Co}(m:ev C a ρ=some (x,ρ1))(l:ev C b ρ1=some (y,ρ2))(p:aw ρ2 x=some dx)(g:aw ρ2 y=some dy)(h:mV o dx dy=some k):ev C (.cmp o a b) ρ=some (.val (.fz (.bool k)),ρ2):=bs m (bs l (bs p (bs g (bs h rfl))))
def aM(g:ev C a ρ=some (x,ρ1))(m:ev C b ρ1=some (y,ρ2))(l:aw ρ2 y=some (.int n))(h:cv ρ2 x n=some (z,ρ3)):ev C (.ix a b) ρ=some (.val z,ρ3):=bs g (bs m (bs l (bs rfl (bs h rfl))))
def ae(g:evs C es ρ=some (rs,ρ1))(l:aU (C.io f) ρ1 rs=some (xs,ρ2))(m:C.call f xs=some (w,ys))(h:dM (C.io f) rs ys ρ2=ρ3):ev C (.call f es) ρ=some (.val w,ρ3):=bs g (bs l (bs m (by rw[<-h])))
def fh{ns:List Str}(h:ρ[i]?.join=some (.obj cn ns zs))(p:m ∉ ns)(o:evs C es ρ=some (rs,ρ1))(g:aU (C.io f) ρ1 (.rf i::rs)=some (xs,ρ2))(l:C.call f xs=some (w,ys))(q:dM (C.io f) (.rf i::rs) ys ρ2=ρ3):ev C (.meth cn m f i es) ρ=some (.val w,ρ3):=bs h (bs rfl (bg ⟨rfl,p⟩ (bs o (bs g (bs l (by rw[<-q]))))))
def CP{g:Str}(m:evs C es ρ=some (rs,ρ1))(h:aU (C.io f).tail ρ1 rs=some (xs,ρ2))(l:C.mak f (.obj g [] []::xs)=some (.fz .none,w::ys))(o:dM (C.io f).tail rs ys ρ2=ρ3):ev C (.make g f es) ρ=some (.val w,ρ3):=bs m (bs h (bs l (bs rfl (by rw[<-o]))))
def jL(g:evs C es ρ=some (rs,ρ1))(h:Nat.ble rs.length 1000000=true)(l:mapR own1 ρ1 rs=some (zs,ρ2)):ev C (.lst es) ρ=some (.val (.lst zs),ρ2):=bs g (bs l (bg (Nat.ble_eq.mp h) rfl))
def eS(g:evs C es ρ=some (rs,ρ1))(h:Nat.ble rs.length 1000000=true)(l:mapR own1 ρ1 rs=some (zs,ρ2))(m:mkTup zs=z):ev C (.tup es) ρ=some (.val z,ρ2):=bs g (bs l (bg (Nat.ble_eq.mp h) (by rw[<-m])))
def ah:evs C .nil ρ=some ([],ρ):=rfl
def aa(g:ev C e ρ=some (x,ρ1))(h:evs C es ρ1=some (rs,ρ2)):evs C (.cons e es) ρ=some (x::rs,ρ2):=bs g (bs h rfl)
def mx(h:bj C c ρ=some (true,ρ1))(k:ev C a ρ1=rv):ev C (.ife c a b) ρ=rv:=bs h k
def vF(h:bj C c ρ=some (false,ρ1))(k:ev C b ρ1=rv):ev C (.ife c a b) ρ=rv:=bs h k
def aV{g:Bl}(h:evs C es ρ=some (rs,ρ1))(l:ka ρ1 rs=some ds)(m:EJ g ds=some d):ev C (.blt g es) ρ=some (.val (.fz d),ρ1):=bs h (bs l (bs m rfl))
def pZ(g:ev C e ρ=some (x,ρ1))(h:(eQ ρ1 x).bind listOf=some ds):ev C (.bnw .tuple e) ρ=some (.val (.fz (.tuple ds)),ρ1):=bs g (bs h rfl)
def FQ{dx dy:List PyData}(m:ev C a ρ=some (x,ρ1))(l:ev C b ρ1=some (y,ρ2))(o:BF ρ2 x=some dx)(g:BF ρ2 y=some dy)(h:dx.length+dy.length<=1000000):ev C (.cat a b) ρ=some (.val (.lst ((dx++dy).map OD.fz)),ρ2):=bs m (bs l (bs o (bs g (bg h rfl))))
def aN{o:Co}(h:ev C (.cmp o a b) ρ=some (.val (.fz (.bool k)),ρ1)):bj C (.cmp o a b) ρ=some (k,ρ1):=bs h rfl
def aW(h:ev C (.call f es) ρ=some (.val (.fz (.bool k)),ρ1)):bj C (.call f es) ρ=some (k,ρ1):=bs h rfl
def n5{g m:Str}(h:ev C (.meth g m f i es) ρ=some (.val (.fz (.bool k)),ρ1)):bj C (.meth g m f i es) ρ=some (k,ρ1):=bs h rfl
def H8(h:ev C (.ix a b) ρ=some (.val (.fz (.bool k)),ρ1)):bj C (.ix a b) ρ=some (k,ρ1):=bs h rfl
def gp(h:bj C a ρ=some (true,ρ1))(k:bj C b ρ1=rt):bj C (.and a b) ρ=rt:=bs h k
def n6(h:bj C a ρ=some (false,ρ1)):bj C (.and a b) ρ=some (false,ρ1):=bs h rfl
def jM(h:bj C a ρ=some (true,ρ1)):bj C (.or a b) ρ=some (true,ρ1):=bs h rfl
def cz(h:bj C a ρ=some (false,ρ1))(k:bj C b ρ1=rt):bj C (.or a b) ρ=rt:=bs h k
def cI(h:bj C a ρ=some (k,ρ1)):bj C (.not a) ρ=some (!k,ρ1):=bs h rfl
def vG(h:ev C a ρ=some (.val (.fz (.bool true)),ρ1))(k:ev C b ρ1=rv):ev C (.and a b) ρ=rv:=bs h (bs rfl (bs rfl k))
def kK(h:ev C a ρ=some (.val (.fz (.bool false)),ρ1)):ev C (.and a b) ρ=some (.val (.fz (.bool false)),ρ1):=bs h rfl
def z6(h:ev C a ρ=some (.val (.fz (.bool true)),ρ1)):ev C (.or a b) ρ=some (.val (.fz (.bool true)),ρ1):=bs h rfl
def z9(h:ev C a ρ=some (.val (.fz (.bool false)),ρ1))(k:ev C b ρ1=rv):ev C (.or a b) ρ=rv:=bs h (bs rfl (bs rfl k))
def cg{p:OD×List Nat×OD}(h:ak ρ i ps=some p)(g:p.2.2=.fz d):ev C (.pg i ps) ρ=some (.val (.fz d),ρ):=bs h (bs (show uH p.2.2=some d by rw[g];rfl) rfl)
variable{p:OD×List Nat×OD}{cn fl':Str}{ns ns':List Str}{xs':List OD}
def yN(h:ak ρ i ps=some p)(l:p.2.2.dat=some d)(g:ρ.set i (some (OD.put (.fz d) p.2.1 p.1))=ρ1):ev C (.pf i ps) ρ=some (.val (.fz d),ρ1):=bs h (bs l (by rw[<-g]))
def FR{m:Nat}(h:ak ρ i ps=some p)(l:p.2.2.dat=some d)(g:kb d=some m):ev C (.pl i ps) ρ=some (.val (.fz (.int m)),ρ):=bs h (bs l (bs g rfl))
def jN(h:ak ρ i ps=some p)(l:p.2.2.dat=some d)(g:kl d=some k):bj C (.pt i ps) ρ=some (k,ρ):=bs h (bs l (bs g rfl))
def n8{g:Bool}(o:ev C e ρ=some (x,ρ1))(q:aw ρ1 x=some dx)(h:ak ρ1 i ps=some p)(l:p.2.2.dat=some d)(m:mV (if g then .nin else .inn) dx d=some k):bj C (.pin g e i ps) ρ=some (k,ρ1):=bs (bs o (bs q (bs h (bs l (bs m rfl))))) rfl
def kL(h:ak ρ i ps=some p)(o:ko C e ρ=some d)(m:p.2.2=.lst xs)(g:xs.length<1000000)(l:ρ.set i (some (OD.put (.lst (xs++[.fz d])) p.2.1 p.1))=ρ1):cE C (.apd i ps e) ρ=some (.nx,ρ1):=bs h (bs o (bs (show r8 p.2.2=some xs by rw[m];rfl) (bg g (by rw[<-l]))))
def vH(u:ev C e ρ=some (x,ρ1))(o:frz1 ρ1 x=some (d,ρ2))(h:ak ρ2 i ps=some p)(l:ρ2[j]?.join=some (.fz kd))(hk:keyOf kd=some kk)(t:p.2.2=.dic ks xs)(m:xs.length<1000000)(g:bB kk d ks xs=(ks',xs'))(q:ρ2.set i (some (OD.put (.dic ks' xs') p.2.1 p.1))=ρ3):cE C (.std i ps j e) ρ=some (.nx,ρ3):=bs u (bs o (bs h (bs l (bs rfl (bs hk (bs (by rw[t];rfl) (bg m (by rw[<-q];simp only[g]))))))))
def bZ(q:ev C e ρ=some (x,ρ1))(m:own1 ρ1 x=some (z,ρ2))(o:ρ2[i]?.join=some (.obj cn ns xs))(h:Nat.blt xs.length 1000=true)(g:bA fl' z ns xs=(ns',xs'))(l:ρ2.set i (some (.obj cn ns' xs'))=ρ3):cE C (.stf i cn fl' e) ρ=some (.nx,ρ3):=bs q (bs m (bs o (bs rfl (bg ⟨rfl,ab7.mp h⟩ (by rw[<-l];simp only[g])))))
def vI{a r:Int}(h:ak ρ i [.fld cn fl']=some p)(l:p.2.2=.fz (.int a))(A:ev C e ρ=some (x,ρ1))(v:aw ρ1 x=some d)(u:lV o a d=some r)(t:ρ1[i]?.join=some (.obj cn ns xs))(m:Nat.blt xs.length 1000=true)(g:bA fl' (.fz (.int r)) ns xs=(ns',xs'))(q:ρ1.set i (some (.obj cn ns' xs'))=ρ3):cE C (.agf i cn fl' o e) ρ=some (.nx,ρ3):=bs h (bs (show uH p.2.2=some (.int a) by rw[l];rfl) (bs rfl (bs A (bs v (bs u (bs t (bs rfl (bg ⟨rfl,ab7.mp m⟩ (by rw[<-q];simp only[g])))))))))
def ab(h:cE C s ρ=some (.nx,ρ1))(k:aG C ss ρ1=r):aG C (.cons s ss) ρ=r:=bs h k
def az(h:cE C s ρ=some (.rt z,ρ1)):aG C (.cons s ss) ρ=some (.rt z,ρ1):=bs h rfl
def aq(h:ev C e ρ=some (x,ρ1))(m:own1 ρ1 x=some (z,ρ2))(g:Nat.blt i ρ2.length=true)(l:ρ2.set i (some z)=ρ3):cE C (.set i e) ρ=some (.nx,ρ3):=bs h (bs m (bg (ab7.mp g) (by rw[<-l])))
def n9{is:List Nat}(h:evs C es ρ=some (rs,ρ1))(o:mapR own1 ρ1 rs=some (zs,ρ2))(g:(zs.length==is.length&&is.all λi=>Nat.blt i ρ2.length)=true)(m:dJ is zs ρ2=ρ3):cE C (.par is es) ρ=some (.nx,ρ3):=bs h (bs o (bg (by rw[aaI,abm]at g;exact⟨eq_of_beq g.1,λi l=>ab7.mp (g.2 i l)⟩) (by rw[<-m])))
def vJ(h:ev C e ρ=some (x,ρ1)):cE C (.ex e) ρ=some (.nx,ρ1):=bs h rfl
def ao(h:ev C e ρ=some (x,ρ1))(g:mv1 ρ1 x=some (z,ρ2)):cE C (.ret e) ρ=some (.rt z,ρ2):=bs h (bs g rfl)
def aO(h:bj C c ρ=some (true,ρ1))(k:aG C sa ρ1=r):cE C (.iff c sa sb) ρ=r:=bs h k
def aI(h:bj C c ρ=some (false,ρ1))(k:aG C sb ρ1=r):cE C (.iff c sa sb) ρ=r:=bs h k
def cZ(m:ρ[i]?.join=some (.lst ys))(h:ev C e ρ=some (x,ρ1))(o:own1 ρ1 x=some (z,ρ2))(q:ρ2[i]?.join=some (.lst xs))(g:xs.length<1000000)(l:ρ2.set i (some (.lst (xs++[z])))=ρ3):cE C (.app i e) ρ=some (.nx,ρ3):=bs m (bs rfl (bs h (bs o (bs q (bs rfl (bg g (by rw[<-l])))))))
def og(h:ev C e ρ=some (x,ρ1))(l:own1 ρ1 x=some (z,ρ2))(m:ρ2[i]?.join=some (.lst ys))(hk:ev C ke ρ2=some (y,ρ3))(q:aw ρ3 y=some (.int n))(t:ρ3[i]?.join=some (.lst xs))(o:ixN xs.length n=some jj)(g:ρ3.set i (some (.lst (xs.set jj z)))=ρ4):cE C (.sti i ke e) ρ=some (.nx,ρ4):=bs h (bs l (bs m (bs rfl (bs hk (bs q (bs rfl (bs t (bs rfl (bs o (by rw[<-g]))))))))))
def bF(h:jg C it ρ=some (ds,ρ1))(k:bc (λd g=>(aX t (.fz d) g).bind λρ1=>aG C ss ρ1) ds ρ1=r):cE C (.fr t it ss) ρ=r:=bs h k
def c7(h:ev C e ρ=some (x,ρ1))(l:aw ρ1 x=some (.int n))(g:-(2^62)<=n/\n<2^62):jg C (.rg1 e) ρ=some (bX 0 n.toNat,ρ1):=bs h (bs l (bs rfl (bg g rfl)))
def bo(h:ev C e ρ=some (x,ρ1))(g:frz1 ρ1 x=some (d,ρ2))(hs:nN d=some ds):jg C (.seq e) ρ=some (ds,ρ2):=bs h (bs g (bs hs rfl))
def oh(h:ev C e ρ=some (x,ρ1))(g:frz1 ρ1 x=some (.list ds,ρ2)):jg C (.enm e) ρ=some (cN ds,ρ2):=bs h (bs g (bs rfl rfl))
def i_zipQ(h:ev C a ρ=some (x,ρ1))(h':ev C b ρ1=some (y,ρ2))(m:frz1 ρ2 x=some (dx,ρ3))(l:frz1 ρ3 y=some (dy,ρ4))(hs:nN dx=some ds)(g:nN dy=some es'):jg C (.zip a b) ρ=some (fZ ds es',ρ4):=bs h (bs h' (bs m (bs l (bs hs (bs g rfl)))))
def b7(o:jg C it ρ=some (ds,ρ1))(g:ds.length<1000000)(m:bN ρ1 fr=some zc)(h:aT (be C tg ifs elt) ds [] (List.replicate nt none++zc.1)=some (out,ρ'))(l:bY zc.2 fr (ρ'.drop nt)=ρ2):ev C (.comp nt fr it tg ifs elt) ρ=some (.val (.lst (out.map OD.fz)),ρ2):=bs o (bg g (bs m (bs h (by rw[<-l]))))
def yO(m:ρ[i]?.join=some (.lst (ds.map OD.fz)))(g:ds.length<1000000)(o:bN (ρ.set i none) fr=some zc)(h:aT (be C tg ifs elt) ds [] (List.replicate nt none++zc.1)=some (out,ρ'))(l:(bY zc.2 fr (ρ'.drop nt)).set i (some (.lst (ds.map OD.fz)))=ρ2):ev C (.compB i nt fr tg ifs elt) ρ=some (.val (.lst (out.map OD.fz)),ρ2):=bs m (bs rfl (bs (ib ds) (bg g (bs o (bs h (by rw[<-l]))))))
def yP(g:aX tg (.fz d) ρ=some ρ1)(h:bj C ifs ρ1=some (true,ρ2))(l:ev C elt ρ2=some (x,ρ3))(m:frz1 ρ3 x=some (dx,ρ4)):be C tg (.some ifs) elt d ρ=some ([dx],ρ4):=bs g (bs h (bs l (bs m rfl)))
def yQ(g:aX tg (.fz d) ρ=some ρ1)(h:bj C ifs ρ1=some (false,ρ2)):be C tg (.some ifs) elt d ρ=some ([],ρ2):=bs g (bs h rfl)
def my(g:aX tg (.fz d) ρ=some ρ1)(h:ev C elt ρ1=some (x,ρ3))(l:frz1 ρ3 x=some (dx,ρ4)):be C tg .none elt d ρ=some ([dx],ρ4):=bs g (bs rfl (bs h (bs l rfl)))
end
def sq{step:PyData->DEnv->Option (Fl×DEnv)}(P:List PyData->DEnv->Prop)(h:∀d ds ρ,P (d::ds) ρ->∃b a,step d ρ=some (b,a)/\(b=.nx\/b=.ct)/\P ds a):∀{ds:List PyData}{ρ:DEnv},P ds ρ->∃a,bc step ds ρ=some (.nx,a)/\P [] a:=by
 intro ds;induction ds with
 |nil=>exact λ{ρ} c=>⟨ρ,rfl,c⟩
 |cons d ds k=>
  intro ρ c;obtain⟨b,m,l,j,e⟩:=h d ds ρ c;obtain⟨f,i,g⟩:=k e;refine⟨f,bs l ?_,g⟩;rcases j with rfl|rfl
  ·exact i
  ·exact i
def gq{step:PyData->DEnv->Option (List PyData×DEnv)}(P:List PyData->List PyData->DEnv->Prop)(h:∀d ds out ρ,P (d::ds) out ρ->∃o b,step d ρ=some (o,b)/\P ds (out++o) b):∀{ds out:List PyData}{ρ:DEnv},P ds out ρ->∃a b,aT step ds out ρ=some (a,b)/\P [] a b:=by
 intro ds;induction ds with
 |nil=>exact λ{out ρ} c=>⟨out,ρ,rfl,c⟩
 |cons d ds j=>intro out ρ c;obtain⟨o,l,k,e⟩:=h d ds out ρ c;obtain⟨a,f,i,g⟩:=j e;exact⟨a,f,bs k i,g⟩
def af{p:Pg}(b:p.F j=some fn)(a:xs.length=fn.io.length)(h:aG (p.ct n) fn.body (f9 fn.n xs)=some (.rt r,ρ))(c:aS 0 fn.io xs ρ=some ys):p.call (n+1) j xs=some (r,ys):=by rw[Pg.ei,b];show (if xs.length=fn.io.length then uL (p.ct n) fn xs else none)=_;rw[if_pos a];exact bs h (bs c rfl)
def c8{p:Pg}(b:p.F j=some fn)(a:xs.length=fn.io.length)(h:aG (p.ct n) fn.body (f9 fn.n xs)=some (.nx,ρ))(c:aS 0 fn.io xs ρ=some ys):p.call (n+1) j xs=some (.fz .none,ys):=by rw[Pg.ei,b];show (if xs.length=fn.io.length then uL (p.ct n) fn xs else none)=_;rw[if_pos a];exact bs h (bs c rfl)
def qa(h:k<n):ixN n (k:Int)=some k:=by unfold ixN;rw[if_pos (by omega),if_pos (by omega)];rfl
def b8{a:Type}{xs:List a}{k:Nat}{x:a}(h:xs[k]?=some x):atI xs (k:Int)=some x:=bs (qa (aaj.mp h).1) h
def kM{b:Type}{xs:List b}{i:Int}(c:0<=i)(d:i<xs.length):∃x,x∈xs/\atI xs i=some x:=by
 have e:i=(i.toNat:Int):=by omega
 have a:i.toNat<xs.length:=by omega
 refine⟨xs[i.toNat],List.getElem_mem a,?_⟩;have:=b8 (aap a);rw[<-e]at this;exact this
section
variable{ρ:DEnv}{ds:List PyData}{d:PyData}{i:Int}{xs:List OD}{x:OD}
def bp(h:atI ds i=some d):cv ρ (.val (.fz (.list ds))) i=some (.fz d,ρ):=by simp only[cv,itemO,h]
def ba(h:atI ds i=some d):cv ρ (.val (.fz (.tuple ds))) i=some (.fz d,ρ):=by simp only[cv,itemO,h]
def iO(h:atI xs i=some x):cv ρ (.val (.lst xs)) i=some (x,ρ):=by simp only[cv,itemO,h]
end
end L2
namespace Np
open PySem L2
def top(i:Nat):Stmt:=PySem.Challenge.pw_nearpool_k23_the_fewest_pools.main.body.getD i (.Pass ⟨0,0,0,0⟩)
def gF(j:Nat):Stmt->Stmt
 |.ClassDef _ _ _ body ..=>body.getD j (.Pass ⟨0,0,0,0⟩)
 |s=>s
abbrev H9:Es:=.cons (.nm 5) .nil
abbrev edq:Es:=.cons (.nm 2) .nil
abbrev edp:Es:=.cons (.nm 3) .nil
abbrev edo:Es:=.cons (.nm 7) .nil
abbrev edn:Es:=.cons (.nm 6) .nil
abbrev edm:Es:=.cons (.nm 0) .nil
abbrev edl:S':=.set 4 (.lst .nil)
abbrev edk:Es:=.cons (.nm 1) .nil
abbrev edj:Es:=.cons (.int 2) .nil
abbrev edi:Es:=.cons (.int 0) .nil
abbrev edh:E:=.ix (.nm 0) (.nm 2)
abbrev edg:It':=.zip (.nm 3) (.nm 4)
abbrev edf:E:=.ix (.nm 0) (.int 1)
abbrev ede:E:=.ix (.nm 0) (.int 2)
abbrev edd:E:=.ix (.nm 0) (.int 0)
abbrev edc:S':=.set 2 (.sst (.nm 1))
abbrev edb:Es:=.cons (.lst .nil) .nil
abbrev IK:E:=.din false (.nm 7) 3 []
abbrev ec9:E:=.cmp .eq (.nm 9) (.nm 6)
abbrev IL:Es:=.cons (.str "stop") .nil
abbrev ec7:E:=.cmp .eq (.nm 7) (.nm 6)
abbrev ec6:E:=.cmp .eq (.nm 6) (.int 0)
abbrev ec5:Ss:=.cons (.ret (.nm 2)) .nil
abbrev ec4:E:=.cmp .inn (.nm 2) (.nm 1)
abbrev ec3:Ss:=.cons (.set 2 (.mv 4)) .nil
abbrev ec2:Ss:=.cons (.app 2 (.nm 8)) .nil
abbrev ec1:Ss:=.cons (.app 6 (.nm 7)) .nil
abbrev ec0:Ss:=.cons (.ret (.bl true)) .nil
abbrev ecz:E:=.call 1 edm
abbrev Gw:E:=.call 29 edm
abbrev ecx:E:=.call 27 edk
abbrev ecw:Ss:=.cons (.ret (.bl false)) .nil
abbrev ecv:E:=.blt .len edp
abbrev ecu:E:=.blt .abs edq
abbrev ect:E:=.blt .len edq
abbrev ecs:E:=.blt .len edm
abbrev ecr:E:=.blt .len edk
abbrev ecq:E:=.cmp .lt (.lset (.nm 5)) (.nm 4)
abbrev ecp:Es:=.cons edh .nil
abbrev eco:E:=.ix (.ix (.nm 0) (.nm 4)) (.int 2)
abbrev ecn:E:=.ix (.ix (.nm 0) (.nm 8)) (.int 2)
abbrev ecm:Es:=.cons (.nm 5) edn
abbrev ecl:Es:=.cons (.nm 0) edk
abbrev eck:It':=.seq ecz
abbrev ecj:E:=.not (.pt 0 [.fld "Going" "words"])
abbrev eci:E:=.not (.pt 0 [.fld "Going" "waiting"])
abbrev ech:S':=.set 3 (.call 32 edq)
abbrev ecg:Es:=.cons (.pg 0 [.fld "Going" "rows"]) .nil
abbrev IM:E:=.ix (.pg 0 [.fld "Going" "rows"]) (.nm 1)
abbrev ece:It':=.zip ecz (.nm 1)
abbrev ecd:E:=.ix (.pg 0 [.fld "Going" "reach"]) (.int 0)
abbrev ecc:It':=.zip ecz (.nm 4)
abbrev ecb:E:=.cmp .eq edd (.str "set")
abbrev eca:E:=.blt .len (.cons (.ix (.nm 3) (.int 0)) .nil)
abbrev eb9:E:=.call 26 (.cons (.nm 0) (.cons (.int 7) .nil))
abbrev eb8:E:=.call 26 (.cons (.nm 0) (.cons (.int 3) .nil))
abbrev eb7:E:=.call 26 (.cons (.nm 0) (.cons (.int 5) .nil))
abbrev eb6:E:=.call 26 (.cons (.nm 0) (.cons (.int 4) .nil))
abbrev eb5:E:=.meth "Going" "finds" 12 0 edq
abbrev eb4:Es:=.cons (.nm 0) (.cons (.bnw .tuple (.nm 1)) .nil)
abbrev IP:E:=.meth "Going" "is_due" 10 0 edk
abbrev IQ:E:=.cmp .lt (.nm 6) ecs
abbrev eb1:E:=.meth "Going" "may_put" 13 0 edq
abbrev eb0:Ss:=.cons (.stf 0 "Going" "waiting" (.lst .nil)) .nil
abbrev ebz:E:=.cmp .lt (.nm 7) ecs
abbrev eby:Es:=.cons (.nm 3) (.cons (.nm 4) H9)
abbrev ebx:Es:=.cons (.nm 0) (.cons (.nm 1) edq)
abbrev ebw:E:=.call 1 ecg
abbrev ebv:Es:=.cons (.nm 0) (.cons (.nm 1) edp)
abbrev ebu:E:=.bop .add ect (.int 1)
abbrev ebt:E:=.pin true (.nm 1) 0 [.ix (-1),.fld "Going" "words"]
abbrev ebs:E:=.bop .add ecs (.int 1)
abbrev ebr:E:=.pin false (.nm 1) 0 [.ix (-1),.fld "Going" "words"]
abbrev ebq:E:=.blt .len ecg
abbrev ebp:S':=.set 2 (.call 25 ecl)
abbrev ebo:E:=.cmp .nin ecn (.nm 7)
abbrev ebn:E:=.ix (.ix (.pg 0 [.fld "Going" "rows"]) (.nm 3)) (.int 2)
abbrev ebm:Es:=.cons (.nm 0) (.cons (.bnw .tuple (.pf 1 [.key 0])) .nil)
abbrev ebl:E:=.pin true eco 3 [.key 5]
abbrev ebk:Es:=.cons (.nm 1) (.cons (.pg 0 [.fld "Going" "place"]) .nil)
abbrev ebj:It':=.rg1 ebs
abbrev ebi:S':=.asg (.tp [5,6]) (.call 19 (.cons (.nm 0) (.cons (.nm 4) .nil)))
abbrev ebh:E:=.call 0 (.cons IM .nil)
abbrev ebg:S':=.set 2 (.ix IM (.int 2))
abbrev ebf:Ss:=.cons (.ex (.meth "Going" "cross" 15 3 (.cons (.nm 4) .nil))) .nil
abbrev ebe:S':=.set 6 (.call 21 eby)
abbrev ebd:S':=.set 8 (.ix (.nm 7) (.blt .min (.cons (.nm 5) (.cons (.int 4) .nil))))
abbrev ebc:E:=.blt .min (.cons (.int 1) (.cons ecs .nil))
abbrev ebb:S':=.set 13 (.comp 1 [] (.seq (.nm 5)) (.nm 0) .none edd)
abbrev eba:E:=.cmp .lt (.lset (.nm 4)) eca
abbrev ea9:E:=.cmp .nin ebn (.nm 2)
abbrev ea8:S':=.sdc 3 2 [] (.seq (.nm 2)) (.tp [0,1]) (.nm 0) ecr
abbrev ea7:E:=.cmp .nin ecn (.ix (.ix (.nm 3) (.nm 9)) (.int 1))
abbrev ea6:S':=.asg (.tp [10,11,12]) (.call 31 (.cons (.nm 0) (.cons (.nm 1) H9)))
abbrev ea5:E:=.cmp .inn (.ix (.nm 1) (.int 0)) (.tup (.cons (.str "go") (.cons (.str "nil") .nil)))
abbrev ea4:S':=.asg (.tp [3,4,5]) (.call 6 (.cons (.nm 0) (.cons (.nm 1) edb)))
abbrev ea3:E:=.call 8 (.cons (.nm 0) (.cons (.nm 1) (.cons (.nm 2) ecm)))
abbrev ea2:E:=.call 35 (.cons (.nm 0) (.cons (.nm 1) (.cons (.nm 2) (.cons (.nm 3) H9))))
abbrev ea1:S':=.set 3 (.comp 2 [] (.enm (.nm 0)) (.tp [0,1]) (.some (.call 29 edk)) (.nm 0))
abbrev ea0:Ss:=.cons (.std 0 [.fld "Going" "uses"] 1 (.bop .sub (.pl 0 [.fld "Going" "gaps"]) (.int 1))) .nil
abbrev eaz:E:=.not (.call 7 (.cons (.nm 2) (.cons (.ix (.nm 5) (.nm 8)) (.cons (.ix (.nm 6) (.nm 9)) .nil))))
abbrev eay:E:=.blt .any (.cons (.comp 1 [] (.seq (.nm 3)) (.nm 0) .none Gw) .nil)
abbrev eax:E:=.call 22 (.cons (.nm 3) (.cons (.nm 2) (.cons (.ix (.nm 6) (.neg (.int 1))) edo)))
abbrev eaw:Ss:=.cons (.apd 0 [.ix (-1),.fld "Going" "words"] (.nm 2)) (.cons (.agf 0 "Going" "place" .add (.gc 2)) .nil)
abbrev eav:E:=.call 3 (.cons (.pg 0 [.fld "Going" "rows"]) (.cons (.pg 0 [.fld "Going" "longs"]) edk))
abbrev IR:Es:=.cons (.bop .add (.ix (.nm 5) (.int 0)) (.int 3)) (.cons (.bop .add (.ix (.nm 5) (.int 1)) (.int 2)) .nil)
abbrev eat:E:=.or (.isi .bool (.nm 6)) (.cmp .ne (.nm 6) (.call 36 eby))
abbrev eas:S':=.par [4,5] (.cons (.call 28 (.cons (.nm 2) edp)) (.cons (.call 33 edq) .nil))
abbrev ear:Ss:=.cons (.apd 0 [.fld "Going" "waiting"] (.tup ebk)) .nil
abbrev eaq:E:=.cmp .eq (.blt .len (.cons (.compB 2 1 [] (.nm 0) (.some Gw) (.nm 0)) .nil)) (.int 4)
abbrev eap:E:=.cmp .nin (.ix (.ix (.nm 0) (.bop .sub (.nm 6) (.int 1))) (.int 0)) (.tup (.cons (.str "go") IL))
abbrev eao:It':=.seq (.call 34 (.cons ebs (.cons ecv .nil)))
abbrev ean:S':=.iff IP (.cons (.ex (.meth "Going" "lay" 11 0 edk)) .nil) .nil
abbrev eam:S':=.par [5,6] (.cons eb9 (.cons eb7 .nil))
abbrev eal:E:=.cmp .eq ec6 eay
abbrev eak:S':=.agf 0 "Going" "place" .add eav
abbrev eaj:E:=.ix (.lst (.cons (.bl false) (.cons (.cmp .eq (.call 26 (.cons (.nm 2) edj)) (.int 0)) (.cons (.bl true) .nil)))) (.nm 1)
abbrev eai:E:=.cmp2 .le .le (.bop .sub (.int 0) (.ix (.nm 2) (.int 1))) (.bop .sub (.ix (.nm 10) (.nm 8)) (.ix (.nm 11) (.idl 13 (.nm 6)))) (.ix (.nm 2) (.int 0))
abbrev eah:E:=.and (.call 29 (.cons (.nm 8) .nil)) eaq
abbrev eag:E:=.not eai
abbrev eaf:E:=.cmp .gt (.call 21 (.cons (.nm 3) (.cons (.nm 4) (.cons (.tup IR) .nil)))) (.nm 6)
abbrev eae:Ss:=.cons (.iff IQ (.cons (.app 3 (.nm 5)) (.cons (.set 5 (.bop .add (.nm 5) (.call 30 (.cons (.nm 0) (.cons (.nm 1) edn))))) .nil)) .nil) .nil
abbrev ead:Ss:=.cons (.set 5 (.bop .sub (.bop .add (.nm 5) (.int 2)) (.bop .mod (.nm 5) (.int 2)))) (.cons (.app 4 (.nm 5)) (.cons (.set 5 (.bop .add (.nm 5) (.bop .mul (.int 2) (.blt .len (.cons (.nm 8) .nil))))) .nil))
abbrev eac:S':=.iff IK (.cons (.app 5 (.call 5 (.cons (.nm 0) (.cons (.nm 7) edn)))) (.cons (.set 6 (.bop .add (.ix (.nm 5) (.neg (.int 1))) (.bop .mul (.gc 2) (.pg 3 [.key 7])))) .nil)) .nil
abbrev eab:E:=.not (.cmp2 .le .le (.blt .len (.cons (.call 23 eby) .nil)) (.nm 6) (.blt .len (.cons (.ix (.call 17 eby) (.int 0)) .nil)))
abbrev eaa:S':=.set 7 (.lst (.cons (.tup (.cons (.str "tell") edn)) (.cons (.tup IL) (.cons (.tup (.cons (.str "go") edi)) (.cons (.tup (.cons (.str "nil") (.cons (.nm 6) edi))) (.cons (.tup (.cons (.str "set") (.cons (.nm 6) (.cons (.ix (.nm 1) (.call 26 (.cons (.nm 0) (.cons ecr .nil)))) .nil)))) .nil))))))
def iP:Fn:=⟨[false],1,(.cons (.ret (.and ecb (.cmp .gt ede (.gc 0)))) .nil)⟩
def gG:Fn:=⟨[false],1,(.cons (.ret (.comp 2 [] (.enm (.nm 0)) (.tp [0,1]) (.some (.call 0 edk)) (.nm 0))) .nil)⟩
def yR:Fn:=⟨[false],1,(.cons (.ret (.and (.cmp .ne edd (.str "go")) (.cmp .ne edd (.str "stop")))) .nil)⟩
def su:Fn:=⟨[false,false,false],3,(.cons (.ret (.ife (.or (.call 0 ecp) ec4) (.int 2) (.int 1))) .nil)⟩
def oi:Fn:=⟨[false,false],2,(.cons (.ret (.or (.cmp .eq (.nm 1) (.int 0)) (.call 2 (.cons (.ix (.nm 0) (.bop .sub (.nm 1) (.int 1))) .nil)))) .nil)⟩
def kN:Fn:=⟨[false,false,false],3,(.cons (.iff (.call 4 ecl) (.cons (.aug 2 .add (.gc 1)) .nil) .nil) (.cons (.ret (.bop .sub (.bop .add (.nm 2) (.int 2)) (.bop .mod (.nm 2) (.int 2)))) .nil))⟩
abbrev ac:Str:="Going"
abbrev am:Str:="rows"
abbrev bi:Str:="reach"
abbrev bm:Str:="longs"
abbrev bn:Str:="nearpool.pooling"
abbrev bv:Str:="place"
abbrev ce:Str:="self"
abbrev ci:Str:="gap"
abbrev cr:Str:="nearpool.places"
abbrev dL:Str:="begin"
abbrev dV:Str:="uses"
abbrev em:Str:="_law_script"
abbrev eH:Str:="_law_tape_here"
abbrev ga:Str:="_law_rows_here"
abbrev hF:Str:="words"
abbrev hY:Str:="waiting"
abbrev ii:Str:="_law_k"
abbrev im:Str:="_law_longs_here"
abbrev kt:Str:="gaps"
abbrev lc:Str:="law"
abbrev lf:Str:="nearpool.fewest"
abbrev lv:Str:="stop"
abbrev lw:Str:="pools"
abbrev na:Str:="nearpool.rows"
abbrev np:Str:="is_great"
abbrev oD:Str:="greats_of"
abbrev pc:Str:="falls"
abbrev pi:Str:="size_of"
abbrev pp:Str:="has_over"
abbrev pr:Str:="first_word"
abbrev rc:Str:="placed"
abbrev re:Str:="places"
abbrev sn:Str:="reaches"
abbrev sw:Str:="all_served"
abbrev sK:Str:="number"
abbrev ut:Str:="pools_for"
abbrev wp:Str:="choices_of"
abbrev wv:Str:="plan_of"
abbrev ww:Str:="fewest_plan"
abbrev wE:Str:="fewest_pools"
abbrev wP:Str:="are_apart"
abbrev wS:Str:="needed_rows"
abbrev wT:Str:="_law_cell_at"
abbrev xz:Str:="_law_tape"
abbrev xL:Str:="_law_take"
abbrev zn:Str:="_law_many"
abbrev At:Str:="_law_great"
abbrev AT:Str:="_law_longs"
abbrev BT:Str:="_law_is_great"
abbrev Ch:Str:="_law_size"
abbrev Db:Str:="_law_placed"
abbrev Ev:Str:="_law_few"
abbrev EQ:Str:="_law_few_reach"
abbrev Fa:Str:="_law_all"
abbrev Go:Str:="_law_gaps_reach"
abbrev Ix:Str:="_law_reach"
abbrev IN:Str:="_law_fewest"
abbrev Jz:Str:="/claim/cut.py"
abbrev JA:Str:="__init__"
abbrev JB:Str:="_law_found"
abbrev JC:Str:="nearpool.needed"
abbrev JD:Str:="_law_pools"
abbrev JE:Str:="_law_numbers"
abbrev JF:Str:="_law_greats"
noncomputable def F_placed:Fn:=⟨[false,false,false],8,(.cons ea8 (.cons edl (.cons (.set 5 (.lst .nil)) (.cons (.set 6 (.int 0)) (.cons (.fr (.nm 7) ebj (.cons eac (.cons (.iff ebz (.cons (.app 4 (.nm 6)) (.cons (.aug 6 .add (.call 3 (.cons (.nm 0) (.cons (.nm 1) edo)))) .nil)) .nil) .nil))) (.cons (.ret (.tup (.cons (.nm 4) ecm))) .nil))))))⟩
def sx:Fn:=⟨[false,false,false],5,(.cons (.asg (.tp [3,4]) (.nm 0)) (.cons (.ret (.and (.cmp .le (.bop .sub (.nm 1) (.nm 2)) (.nm 3)) (.cmp .le (.bop .sub (.nm 2) (.nm 1)) (.nm 4)))) .nil))⟩
noncomputable def F_all_served:Fn:=⟨[false,false,false,false,false],10,(.cons (.asg (.tp [5,6,7]) (.call 6 ebv)) (.cons (.fr (.tp [8,9]) ecc (.cons (.iff (.or ea7 eaz) ecw .nil) .nil)) ec0))⟩
def gu:Fn:=⟨[true,false,false,false],4,(.cons (.stf 0 ac am (.nm 1)) (.cons (.stf 0 ac bm (.nm 2)) (.cons (.stf 0 ac bi (.nm 3)) (.cons (.stf 0 ac bv (.int 0)) (.cons (.stf 0 ac kt (.lst .nil)) (.cons (.stf 0 ac hF (.lst .nil)) (.cons (.stf 0 ac dL (.int 0)) (.cons (.stf 0 ac dV (.dnew)) eb0))))))))⟩
def iQ:Fn:=⟨[true,false],5,(.cons (.iff eci ecw .nil) (.cons (.iff (.cmp .eq (.nm 1) ebq) ec0 .nil) (.cons (.set 2 (.bop .add (.pg 0 [.fld ac bv]) eav)) (.cons (.asg (.tp [3,4]) (.pg 0 [.ix (0),.fld ac hY])) (.cons (.ret (.cmp .gt (.bop .sub (.call 5 (.cons (.pg 0 [.fld ac am]) (.cons (.bop .add (.nm 1) (.int 1)) edq))) (.nm 4)) (.ix (.pg 0 [.fld ac bi]) (.int 1)))) .nil)))))⟩
noncomputable def F_Going_lay:Fn:=⟨[true,false],5,(.cons (.set 2 (.lst .nil)) (.cons (.fr (.tp [3,4]) (.seq (.pf 0 [.fld ac hY])) (.cons (.std 0 [.fld ac dV] 3 (.pl 0 [.fld ac kt])) (.cons (.iff ea9 (.cons (.app 2 ebn) .nil) .nil) .nil))) (.cons (.apd 0 [.fld ac kt] (.nm 1)) (.ali 0 [.fld ac hF] 2 (.cons (.stf 0 ac dL (.call 5 (.cons (.pg 0 [.fld ac am]) ebk))) (.cons (.stf 0 ac bv (.bop .add (.pg 0 [.fld ac dL]) (.bop .mul (.gc 2) ect))) eb0))))))⟩
def jq:Fn:=⟨[true,false],2,(.cons (.iff (.or ecj ebt) ecw .nil) (.cons (.ret (.cmp .le (.bop .sub (.pg 0 [.fld ac bv]) (.pg 0 [.fld ac dL])) ecd)) .nil))⟩
def gT:Fn:=⟨[true,false],2,(.cons (.iff (.or ecj (.or (.pt 0 [.fld ac hY]) ebr)) ecw .nil) (.cons (.ret (.cmp .le (.bop .sub (.bop .add (.pg 0 [.fld ac bv]) (.gc 2)) (.pg 0 [.fld ac dL])) ecd)) .nil))⟩
def c9:Fn:=⟨[true,false],3,(.cons ebg (.cons (.iff eb1 eaw .nil) (.cons (.iff eb5 ea0 ear) .nil)))⟩
def jr:Fn:=⟨[true,false],2,(.cons ean (.cons (.iff (.cmp .lt (.nm 1) ebq) (.cons (.iff ebh (.cons (.ex (.meth ac "come" 14 0 edk)) .nil) .nil) (.cons eak .nil)) .nil) .nil))⟩
def kO:Fn:=⟨[true],2,(.cons (.set 1 (.comp 2 [] (.zip (.pf 0 [.fld ac kt]) (.pf 0 [.fld ac hF])) (.tp [0,1]) .none (.tup eb4))) (.cons (.ret (.tup (.cons (.nm 1) (.cons (.comp 1 [0] (.seq ebw) (.nm 0) .none (.pg 1 [.key 0,.fld ac dV])) .nil)))) .nil))⟩
def mz:Fn:=⟨[false,false,false],5,(.cons (.set 3 (.make ac 9 ebx)) (.cons (.fr (.nm 4) ebj ebf) (.cons (.ret (.meth ac "plan" 16 3 .nil)) .nil)))⟩
def kP:Fn:=⟨[false],3,(.cons (.set 1 (.lst (.cons (.tup .nil) .nil))) (.cons (.fr (.nm 2) eck (.cons (.sc2 1 2 [0] (.seq (.nm 1)) (.nm 0) (.rg1 ebu) (.nm 1) (.catV (.nm 0) (.tup edk))) .nil)) (.cons (.ret (.nm 1)) .nil)))⟩
noncomputable def F_plan_of:Fn:=⟨[false,false],6,(.cons edc (.cons (.sdl 3 1 [] (.seq (.nm 2)) (.nm 0) (.nm 0)) (.cons (.fr (.tp [4,5]) ece (.cons (.iff ebl (.cons (.apd 3 [.key 5] eco) .nil) .nil) .nil)) (.cons (.ret (.tup (.cons (.comp 1 [3] (.seq (.nm 2)) (.nm 0) .none (.tup ebm)) (.cons (.comp 1 [2] (.seq (.nm 1)) (.nm 0) .none (.idl 1 (.nm 0))) .nil)))) .nil))))⟩
noncomputable def F_fewest_plan:Fn:=⟨[false,false,false],7,(.cons (.set 3 (.call 17 ebx)) (.cons (.fr (.nm 4) (.seq (.call 18 edm)) (.cons (.iff eba (.cons ebi (.cons (.iff ea3 (.cons (.set 3 (.tup ecm)) .nil) .nil) .nil)) .nil) .nil)) (.cons (.ret (.nm 3)) .nil)))⟩
def iR:Fn:=⟨[false,false,false],3,(.cons (.ret (.blt .len (.cons (.ix (.call 20 ebx) (.int 0)) .nil))) .nil)⟩
def gH:Fn:=⟨[false,false,false,false],4,(.cons (.ret (.cmp .gt (.bop .sub (.ix (.nm 0) (.nm 3)) edh) (.bop .add (.ix (.nm 1) (.int 0)) (.ix (.nm 1) (.int 1))))) .nil)⟩
def eT:Fn:=⟨[false,false,false],8,(.cons ea4 (.cons (.set 6 (.lst .nil)) (.cons (.fr (.nm 7) eck (.cons (.iff (.or (.not (.nm 6)) eax) ec1 .nil) .nil)) (.cons (.ret (.nm 6)) .nil))))⟩
def gw:Fn:=⟨[false,false],2,(.cons (.ret (.ife (.cmp .lt (.nm 1) ecs) (.ix (.nm 0) (.nm 1)) (.int 0))) .nil)⟩
def vK:Fn:=⟨[false,false],3,(.cons (.set 2 (.call 24 ecl)) (.cons (.ret (.lst (.cons (.bop .mul ecu (.blt .int (.cons (.cmp .ge ecu (.bop .pow (.int 10) (.int 18))) .nil))) (.cons (.bop .mod (.bop .mul (.bop .add (.bop .add (.bop .mod (.nm 2) (.int 2147483647)) (.bop .mul (.int 7121) (.nm 1))) (.int 43)) (.int 48271)) (.int 2147483629)) edi)))) .nil))⟩
def CQ:Fn:=⟨[true,false],4,(.cons (.iff (.cmp .gt edd (.int 0)) (.cons (.set 2 (.bop .mod edd (.nm 1))) (.cons (.sti 0 (.int 0) (.bop .fdiv edd (.nm 1))) ec5)) .nil) (.cons (.sti 0 (.int 2) (.bop .add ede (.int 1))) (.cons (.set 3 (.bop .mod (.bop .mul (.bop .add edf (.bop .mul (.int 39373) ede)) (.bop .add (.int 48271) ede)) (.int 2147483647))) (.cons (.sti 0 (.int 1) (.bop .mod (.bop .add (.bop .mul (.nm 3) (.bop .add (.bop .mod (.nm 3) (.int 40009)) (.int 7))) ede) (.int 2147483629))) (.cons (.ret (.bop .mod (.bop .fdiv (.bop .mod (.bop .mul edf (.bop .add (.bop .mod edf (.int 1009)) (.int 3))) (.int 998244353)) (.int 7)) (.nm 1))) .nil)))))⟩
def yS:Fn:=⟨[true],3,(.cons (.set 1 eb6) (.cons (.set 2 (.bop .add (.int 100) (.call 26 (.cons (.nm 0) (.cons (.int 99999900) .nil))))) (.cons (.ret (.ix (.lst (.cons (.ix (.lst (.cons (.int 100) (.cons (.int 101) (.cons (.int 12345) (.cons (.int 10000) (.cons (.int 9999) .nil)))))) eb7) (.cons (.bop .add (.int 100) (.call 26 (.cons (.nm 0) (.cons (.int 6) .nil)))) (.cons (.nm 2) (.cons (.int 99999999) .nil))))) (.nm 1))) .nil)))⟩
def yT:Fn:=⟨[true,false],4,(.cons (.set 2 eb8) (.cons (.set 3 (.comp 2 [] (.enm (.nm 1)) (.tp [0,1]) (.some ea5) (.nm 0))) (.cons (.ret (.comp 1 [2,0] (.seq (.nm 3)) (.nm 0) (.some eaj) (.nm 0))) .nil)))⟩
def fJ:Fn:=⟨[false],1,(.cons (.ret (.and ecb (.cmp .gt ede (.int 99)))) .nil)⟩
def CS:Fn:=⟨[false,false,false],3,(.cons (.ret (.ife (.or (.call 29 ecp) ec4) (.int 2) (.int 1))) .nil)⟩
def iS:Fn:=⟨[false,false,false],9,(.cons (.par [3,4,5] (.cons (.lst .nil) (.cons (.lst .nil) edi))) (.cons (.fr (.nm 6) ebj (.cons (.fr (.tp [7,8]) (.seq (.nm 2)) (.cons (.iff ec7 (.cons (.set 5 (.bop .add (.nm 5) (.bop .mul (.int 2) (.blt .int (.cons (.or ec6 eap) .nil))))) ead) .nil) .nil)) eae)) (.cons (.ret (.tup eby)) .nil)))⟩
noncomputable def F_few:Fn:=⟨[true],9,(.cons (.set 1 (.comp 1 [0] (.rg1 (.bop .add (.int 1) eb8)) (.nm 0) .none ecx)) (.cons (.set 2 (.lst .nil)) (.cons (.set 3 eb9) (.cons (.fr (.nm 4) (.rg1 (.nm 3)) (.cons eam (.cons eaa (.cons ebd (.cons (.iff eah (.cons (.set 8 (.tup (.cons (.str "sum") (.cons (.int 1) edj)))) .nil) .nil) ec2))))) ec5))))⟩
def mB:Fn:=⟨[true],1,(.cons (.ret (.tup (.cons (.ix (.lst (.cons (.int 0) (.cons (.int 0) (.cons (.call 26 (.cons (.nm 0) (.cons (.int 16) .nil))) (.cons (.int 30) .nil))))) eb6) (.cons (.ix (.lst (.cons (.int 6) (.cons (.bop .add (.int 6) (.call 26 (.cons (.nm 0) (.cons (.int 9) .nil)))) (.cons (.int 30) .nil)))) eb8) .nil)))) .nil)⟩
noncomputable def F_all:Fn:=⟨[false,false],6,(.cons (.set 2 (.lst edb)) (.cons (.fr (.nm 3) (.rg1 (.nm 1)) (.cons edl (.cons (.fr (.nm 5) (.seq (.nm 2)) (.cons (.ext 4 (.comp 1 [5] (.rg1 (.nm 0)) (.nm 0) .none (.cat (.nm 1) (.lst edm)))) .nil)) ec3))) ec5))⟩
noncomputable def F_gaps_reach:Fn:=⟨[false,false,false,false,false],14,(.cons (.set 5 (.lst .nil)) (.cons (.fr (.nm 6) (.seq (.sst (.nm 4))) (.cons (.set 7 (.lst .nil)) (.cons (.fr (.tp [8,9]) edg (.cons (.iff (.and ec9 ebo) (.cons (.app 7 ecn) .nil) .nil) .nil)) (.cons (.app 5 (.tup (.cons (.nm 6) edo))) .nil)))) (.cons ea6 (.cons ebb (.cons (.fr (.tp [8,6]) edg (.cons (.iff eag ecw .nil) .nil)) ec0)))))⟩
noncomputable def F_fewest:Fn:=⟨[false,false,false],6,(.cons ea1 (.cons (.set 4 ecv) (.cons (.fr (.nm 5) eao (.cons (.iff (.and ecq ea2) (.cons (.set 4 (.lset (.nm 5))) .nil) .nil) .nil)) (.cons (.ret (.nm 4)) .nil))))⟩
noncomputable def F_law:Fn:=⟨[false],7,(.cons (.fr (.nm 1) (.rg1 (.bop .add (.int 1) ebc)) (.cons ebp (.cons ech (.cons eas (.cons ebe (.cons (.iff eat ecw .nil) (.cons (.iff eab ecw .nil) (.cons (.iff eaf ecw .nil) (.cons (.iff eal ecw .nil) .nil))))))))) ec0)⟩
def iT:Df:=⟨np,np,top 2,["row"],["row"],iP⟩
def gI:Df:=⟨oD,oD,top 3,[am],[am],gG⟩
def qb:Df:=⟨pc,pc,top 4,["row"],["row"],yR⟩
def jO:Df:=⟨pi,pi,top 8,[am,bm,"at"],[am,bm,"at"],su⟩
def iU:Df:=⟨pp,pp,top 9,[am,ci],[am,ci],oi⟩
def fK:Df:=⟨pr,pr,top 10,[am,ci,bv],[am,ci,bv],kN⟩
def mC:Df:=⟨rc,rc,top 11,[am,bm,lw],[am,bm,lw,hF,re,"begins",bv,ci],F_placed⟩
def jP:Df:=⟨sn,sn,top 12,[bi,bv,dL],[bi,bv,dL,"back","ahead"],sx⟩
def fL:Df:=⟨sw,sw,top 13,[am,bm,bi,lw,dV],[am,bm,bi,lw,dV,re,"begins","end","at","use"],F_all_served⟩
def cU:Df:=⟨JA,"Going.__init__",gF 0 (top 15),[ce,am,bm,bi],[ce,am,bm,bi],gu⟩
def dU:Df:=⟨"is_due","Going.is_due",gF 1 (top 15),[ce,ci],[ce,ci,"behind","first",bv],iQ⟩
def gJ:Df:=⟨"lay","Going.lay",gF 2 (top 15),[ce,ci],[ce,ci,"numbers","at",bv],F_Going_lay⟩
def eU:Df:=⟨"finds","Going.finds",gF 3 (top 15),[ce,sK],[ce,sK],jq⟩
def dD:Df:=⟨"may_put","Going.may_put",gF 4 (top 15),[ce,sK],[ce,sK],gT⟩
def fM:Df:=⟨"come","Going.come",gF 5 (top 15),[ce,"at"],[ce,"at",sK],c9⟩
def eV:Df:=⟨"cross","Going.cross",gF 6 (top 15),[ce,ci],[ce,ci],jr⟩
def fN:Df:=⟨"plan","Going.plan",gF 7 (top 15),[ce],[ce,lw],kO⟩
def gK:Df:=⟨ut,ut,top 16,[am,bm,bi],[am,bm,bi,"going",ci],mz⟩
def fO:Df:=⟨wp,wp,top 18,[am],[am,"choices","at"],kP⟩
def jQ:Df:=⟨wv,wv,top 19,[am,"choice"],[am,"choice",kt,hF,"at",ci],F_plan_of⟩
def eW:Df:=⟨ww,ww,top 20,[am,bm,bi],[am,bm,bi,"best","choice",lw,dV],F_fewest_plan⟩
def dW:Df:=⟨wE,wE,top 21,[am,bm,bi],[am,bm,bi],iR⟩
def gL:Df:=⟨wP,wP,top 23,[re,bi,"one","other"],[re,bi,"one","other"],gH⟩
def eX:Df:=⟨wS,wS,top 24,[am,bm,bi],[am,bm,bi,re,"begins","end","needed","at"],eT⟩
def jR:Df:=⟨wT,wT,top 26,[em,ii],[em,ii],gw⟩
def vL:Df:=⟨xz,xz,top 27,[em,ii],[em,ii,"_law_cell"],vK⟩
def vM:Df:=⟨xL,xL,top 28,[eH,zn],[eH,zn,JB,"_law_once"],CQ⟩
def qc:Df:=⟨At,At,top 29,[eH],[eH,"_law_way","_law_any_one"],yS⟩
def qe:Df:=⟨AT,AT,top 31,[eH,ga],[eH,ga,"_law_share","_law_jumps"],yT⟩
def fP:Df:=⟨BT,BT,top 32,["_law_row"],["_law_row"],fJ⟩
def vN:Df:=⟨Ch,Ch,top 33,[ga,im,ii],[ga,im,ii],CS⟩
def iV:Df:=⟨Db,Db,top 34,[ga,im,JD],[ga,im,JD,"_law_places","_law_begins","_law_place","_law_gap","_law_at",JE],iS⟩
def Aa:Df:=⟨Ev,Ev,top 35,[eH],[eH,JE,JB,zn,ii,"_law_way","_law_r","_law_some","_law_row"],F_few⟩
def gM:Df:=⟨EQ,EQ,top 36,[eH],[eH],mB⟩
def Ab:Df:=⟨Fa,Fa,top 37,["_law_base",zn],["_law_base",zn,JB,"_law_turn","_law_longer","_law_one"],F_all⟩
def fQ:Df:=⟨Go,Go,top 38,[ga,im,Ix,JF,"_law_gaps"],[ga,im,Ix,JF,"_law_gaps",JD,"_law_gap",JE,ii,"_law_own","_law_places","_law_begins","_law_end","_law_order"],F_gaps_reach⟩
def mD:Df:=⟨IN,IN,top 39,[ga,im,Ix],[ga,im,Ix,JF,"_law_least","_law_gaps"],F_fewest⟩
def D_law:Df:=⟨lc,lc,top 40,[em],[em,ii,eH,ga,im,Ix,JB],F_law⟩
noncomputable def pl:Pl where
 ds:=[(iT,.fn),(gI,.fn),(qb,.fn),(jO,.fn),(iU,.fn),(fK,.fn),(mC,.fn),(jP,.fn),(fL,.fn),(cU,.ini ac),(dU,.me ac),(gJ,.me ac),(eU,.me ac),(dD,.me ac),(fM,.me ac),(eV,.me ac),(fN,.me ac),(gK,.fn),(fO,.fn),(jQ,.fn),(eW,.fn),(dW,.fn),(gL,.fn),(eX,.fn),(jR,.fn),(vL,.fn),(vM,.fn),(qc,.fn),(qe,.fn),(fP,.fn),(vN,.fn),(iV,.fn),(Aa,.fn),(gM,.fn),(Ab,.fn),(fQ,.fn),(mD,.fn),(D_law,.fn)]
 cs:=[("GREATEST_SMALL",.int 99),("OVER_CELLS",.int 2),("WORD_CELLS",.int 2)]
 nog:=["abs","any","bool","enumerate","int","isinstance","len","min","range","set","sorted","tuple","zip"]
 fld:=[(ac,dL),(ac,kt),(ac,bm),(ac,bv),(ac,bi),(ac,am),(ac,dV),(ac,hY),(ac,hF)]
abbrev FS:Nat:=37
def FT:(pl.ds.all λz=>yM pl.tb z.1)=true:=by decide +kernel
abbrev It(i:Int):OD:=.fz (.int i)
abbrev JG(i:Int):Option OD:=some (It i)
abbrev Tp(a b c:Int):OD:=.lst [It a,It b,It c]
abbrev JH(a b c:Int):Option OD:=some (Tp a b c)
structure TpOk (b c:Int)(n:Nat):Prop where
 b0:0<=b
 b1:b<2147483629
 c0:0<=c
 c1:c<=n
def eY{i j:Int}(h:(-(2^64)<i/\i<2^64)\/(-(2^64)<j/\j<2^64)):ya .mul (.int i) (.int j)=some (.int (i*j)):=bs rfl (bs rfl (bs (bg h rfl) rfl))
def dE{i j:Int}(h:0<j):ya .mod (.int i) (.int j)=some (.int (i%j)):=bs rfl (bs rfl (bs (bg h rfl) rfl))
def Ac(h:0<j/\j<1073741824):ya .fdiv (.int i) (.int j)=some (.int (i/j)):=bs rfl (bs rfl (bs (bg h rfl) rfl))
def FU(a:0<m)(h:m<=2^64):-(2^64)<x%m/\x%m<2^64:=by have b:=abK x (show m≠0 by omega);have c:=abL x a;omega
def up(h:m<=a)(e:Nat.ble (a+k) b=true):m+k<=b:=aav (Nat.add_le_add_right h k) (ac1 e)
def IS(e:Nat.ble k b=true):m+k<=m+b:=acB (ac1 e) m
theorem bC(h:TpOk b c m)(q:m<=1000000)(d:0<many)(l:many<1073741824):∃x j f e,pl.pg.call (n+1) 26 [Tp a b c,It many]=some (It x,[Tp j f e,It many])/\0<=x/\x<many/\TpOk f e (m+1):=by
 have o:=h.b0;have i:=h.b1;have p:=h.c0;have k:=h.c1;by_cases g:0<a
 ·refine⟨a%many,a/many,b,c,?_,abK _ (by omega),abL _ d,⟨h.b0,h.b1,h.c0,by omega⟩⟩;refine af (ρ:=[JH (a/many) b c,JG many,JG (a%many),none]) rfl rfl ?_ rfl;refine az (aO (aN (aC rfl rfl rfl rfl (show some (decide (0<a))=some true by rw[Dac g]))) ?_);refine ab (aq (ag rfl rfl rfl rfl (dE d)) rfl rfl rfl) ?_;refine ab (og (ag rfl rfl rfl rfl (Ac ⟨d,l⟩)) rfl rfl rfl rfl rfl rfl rfl) rfl
 ·exact⟨_,a,_,c+1,af rfl rfl (ab (aI (aN (aC rfl rfl rfl rfl (show some (decide (0<a))=some false by rw[Dab g]))) rfl) (ab (og rfl rfl rfl rfl rfl rfl rfl rfl) (ab (aq (ag (ag (ag rfl (ag rfl rfl rfl rfl (eY (.inl (by decide)))) rfl rfl rfl) (ag rfl rfl rfl rfl rfl) rfl rfl (eY (.inr (by omega)))) rfl rfl rfl (dE (by decide))) rfl rfl rfl) (ab (og (ag (ag (ag rfl (ag (ag rfl rfl rfl rfl (dE (by decide))) rfl rfl rfl rfl) rfl rfl (eY (.inl (FU (by decide) (by decide))))) rfl rfl rfl rfl) rfl rfl rfl (dE (by decide))) rfl rfl rfl rfl rfl rfl rfl) (az (ao (ag (ag (ag (ag rfl (ag (ag rfl rfl rfl rfl (dE (by decide))) rfl rfl rfl rfl) rfl rfl (eY (.inl (FU (by decide) (by decide))))) rfl rfl rfl (dE (by decide))) rfl rfl rfl (Ac (by decide))) rfl rfl rfl (dE d)) rfl)))))) rfl,abK _ (by omega),abL _ d,⟨abK _ (by decide),abL _ (by decide),by omega,by omega⟩⟩
def CT{n:Nat}{ns:List Int}{k:Nat}:∃x,pl.pg.call (n+1) 24 [.fz (.list (ns.map PyData.int)),It k]=some (It x,[.fz (.list (ns.map PyData.int)),It k]):=by
 by_cases b:(k:Int)<ns.length
 ·have a:k<ns.length:=by omega
  refine⟨ns[k],af (fn:=gw) rfl rfl (az (ao (mx (aN (aC rfl rfl rfl rfl (k:=true) ?_)) (aM rfl rfl rfl (bp (b8 (x:=.int ns[k]) ?_)))) rfl)) rfl⟩
  ·show some (decide ((k:Int)<((ns.map PyData.int).length:Nat)))=some true;rw[aaa,Dac b]
  ·rw[aat,aap a];rfl
 ·refine⟨0,af (fn:=gw) rfl rfl (az (ao (vF (aN (aC rfl rfl rfl rfl (k:=false) ?_)) rfl) rfl)) rfl⟩;show some (decide ((k:Int)<((ns.map PyData.int).length:Nat)))=some false;rw[aaa,Dab b]
def CU{n:Nat}{ns:List Int}{k:Nat}(hk:k<=8):∃a b,pl.pg.call (n+2) 25 [.fz (.list (ns.map PyData.int)),It k]=some (Tp a b 0,[.fz (.list (ns.map PyData.int)),It k])/\TpOk b 0 0:=by obtain⟨x,c⟩:=CT (n:=n) (ns:=ns) (k:=k);refine⟨_,_,af (fn:=vK) rfl rfl (ab (aq (ae rfl rfl c rfl) rfl rfl rfl) (az (ao (jL (aa (ag rfl (aV (aa (aC rfl (ag rfl rfl rfl rfl rfl) rfl rfl rfl) ah) rfl rfl) rfl rfl (eY (.inr ?_))) (aa (ag (ag (ag (ag (ag rfl rfl rfl rfl (dE (by decide))) (ag rfl rfl rfl rfl (eY (.inl (by decide)))) rfl rfl rfl) rfl rfl rfl rfl) rfl rfl rfl (eY (.inr (by decide)))) rfl rfl rfl (dE (by decide))) (aa rfl ah))) rfl rfl) rfl))) rfl,abK _ (by decide),abL _ (by decide),abd _,abd _⟩;exact(show ∀q:Bool,-(2^64)<(if q=true then (1:Int) else 0)/\(if q=true then (1:Int) else 0)<2^64 by decide) _
def fR{ks:List Int}{i:Int}(a:0<=i)(b:i<ks.length):∃k,k∈ks/\atI (ks.map It) i=JG k:=by obtain⟨x,c,e⟩:=kM (xs:=ks.map It) a (by rw[aaa];exact b);obtain⟨k,d,rfl⟩:=aas.mp c;exact⟨k,d,e⟩
def TpOk.up(h:TpOk b c m)(a:m<=m'):TpOk b c m':=⟨h.b0,h.b1,h.c0,by have:=h.c1;omega⟩
def yU(h:TpOk b c m)(e:m<=900000):∃k I o l,pl.pg.call (n+2) 27 [Tp a b c]=some (It k,[Tp I o l])/\(100<=k/\k<=99999999)/\TpOk o l (m+4):=by
 obtain⟨w,U,X,Y,D,L,H,q⟩:=bC (many:=4) h (up (k:=0) e rfl) (by decide) (by decide);obtain⟨v,S,T,W,C,F,t,s⟩:=bC (many:=99999900) q (up e rfl) (by decide) (by decide);obtain⟨x3,a3,Z,c3,A,f,i,z⟩:=bC (many:=5) s (up (k:=2) e rfl) (by decide) (by decide);obtain⟨Q,M,r,u,B,N,y,p⟩:=bC (many:=6) z (up (k:=3) e rfl) (by decide) (by decide);obtain⟨g,J,O⟩:=fR (ks:=[100,101,12345,10000,9999]) f i;obtain⟨k,d,P⟩:=fR (ks:=[g,100+Q,100+v,99999999]) L H;refine⟨k,M,r,u,af rfl rfl (ab (aq (ae rfl rfl D rfl) rfl rfl rfl) (ab (aq (ag rfl (ae rfl rfl C rfl) rfl rfl rfl) rfl rfl rfl) (az (ao (aM (jL (aa (aM rfl (ae rfl rfl A rfl) rfl (iO O)) (aa (ag rfl (ae rfl rfl B rfl) rfl rfl rfl) (aa rfl (aa rfl ah)))) rfl rfl) rfl rfl (iO P)) rfl)))) rfl,?_,p⟩;have j:100<=g/\g<=99999999:=(show ∀x∈[100,101,12345,10000,9999],(100:Int)<=x/\x<=99999999 by decide) g J;rcases aac.mp d with rfl|d
 ·exact j
 rcases aac.mp d with rfl|d
 ·omega
 rcases aac.mp d with rfl|d
 ·omega
 rw[aao.mp d];decide
inductive R where|st (r k:Int)|ot (w:Str) (xs:List Int) (h:w≠"set"/\PyData.strOk w=true)
def R.num:R->Int|.st _ k=>k|.ot _ _ _=>0
abbrev Nb(rs:List R):Prop:=∀r∈rs,r.num<=99999999
def Nb.snoc(h:Nb rs)(b:r.num<=99999999):Nb (rs++[r]):=λx a=>by
 rcases aai.mp a with a|a
 ·exact h x a
 ·rw[aao.mp a];exact b
abbrev FV(a b:Int):R:=.ot "sum" [a,b] (by decide +kernel)
abbrev fS(a:Int):R:=.ot "tell" [a] (by decide +kernel)
abbrev yV(a:Int):R:=.ot "go" [a] (by decide +kernel)
abbrev kQ(a b:Int):R:=.ot "nil" [a,b] (by decide +kernel)
abbrev fT:R:=.ot lv [] (by decide +kernel)
def R.d:R->PyData|.st r k=>.tuple [.str "set",.int r,.int k]|.ot w xs _=>.tuple (.str w::xs.map PyData.int)
abbrev Rs(rs:List R):OD:=.lst (rs.map λr=>.fz r.d)
def FW{rs:List R}{i:Int}(b:0<=i)(c:i<rs.length):∃r,r∈rs/\atI (rs.map λr=>OD.fz r.d) i=some (.fz r.d):=by obtain⟨x,f,e⟩:=kM (xs:=rs.map λr=>OD.fz r.d) b (by rw[aaa];exact c);obtain⟨r,a,rfl⟩:=aas.mp f;exact⟨r,a,e⟩
def yW{r:R}(h:ρ[j]?.join=some (Rs rs))(e:atI (rs.map λr=>OD.fz r.d) i=some (.fz r.d)):cv ρ (.rf j) i=some (.fz r.d,ρ):=by
 obtain⟨k,c,a⟩:=bnd e;have b:itemS (Rs rs) i=some (r.d,Rs rs):=by simp only[Rs,itemS,c,a,OD.dat];rw[bI a]
 simp only[cv,h,b];rw[set_self (join_some h)]
def yX:Rs (rs++[r])=.lst ((rs.map λr=>OD.fz r.d)++[.fz r.d]):=by rw[Rs,aau];rfl
def sy:∀d∈bX lo n,∃i,d=.int i:=λd a=>by obtain⟨i,_,rfl⟩:=aas.mp a;exact⟨_,rfl⟩
def R.gr:R->Bool|.st _ k=>decide (99<k)|.ot _ _ _=>false
abbrev Rd(r:R):OD:=.fz r.d
abbrev JI(r:R):Option OD:=some (Rd r)
abbrev Rl(rs:List R):OD:=.fz (.list (rs.map R.d))
abbrev JJ(rs:List R):Option OD:=some (Rl rs)
def bq{a:Type}{x:a}{xs:List a}:atI (x::xs) 0=some x:=b8 (k:=0) rfl
def CV{n:Nat}(r:R):pl.pg.call (n+1) 0 [Rd r]=some (.fz (.bool r.gr),[Rd r]):=by
 cases r with
 |st r k=>rfl
 |ot w a h=>exact af (fn:=iP) rfl rfl (az (ao (kK (aC (aM rfl rfl rfl (ba bq)) rfl rfl rfl (show some (decide (w="set"))=some false by rw[Dab h.1]))) rfl)) rfl
def jS{n:Nat}(r:R):pl.pg.call (n+1) 29 [Rd r]=some (.fz (.bool r.gr),[Rd r]):=by
 cases r with
 |st r k=>rfl
 |ot w a h=>exact af (fn:=fJ) rfl rfl (az (ao (kK (aC (aM rfl rfl rfl (ba bq)) rfl rfl rfl (show some (decide (w="set"))=some false by rw[Dab h.1]))) rfl)) rfl
abbrev JQ:=pl.pg.ct
theorem kR:∀{rs:List R}{out:List PyData},∃a,aT (be (JQ (n+1)) (.nm 0) (.some Gw) (.nm 0)) (rs.map R.d) out [o]=some (out++((rs.filter R.gr).map R.d),[a])
 |[],out=>⟨o,by rw[List.filter_nil,aaC,aaq];rfl⟩
 |r::rs,out=>by
  cases b:r.gr with
  |false=>obtain⟨a,e⟩:=kR (out:=out++[]);rw[aaq]at e;refine⟨a,?_⟩;rw[acC (by rw[b];decide)];refine bs (yQ rfl (aW (ae rfl rfl (by rw[<-b];exact jS r) rfl))) ?_;rw[aaq];exact e
  |true=>obtain⟨a,e⟩:=kR;refine⟨a,?_⟩;rw[ac2 b,aam];refine bs (yP rfl (aW (ae rfl rfl (by rw[<-b];exact jS r) rfl)) rfl rfl) ?_;rw[aad]at e;exact e
def R.wd:R->Str|.st _ _=>"set" |.ot w _ _=>w
def R.tl:R->List PyData|.st r k=>[.int r,.int k]|.ot _ xs _=>xs.map PyData.int
theorem dats_fz:∀ds:List PyData,OD.ay (ds.map OD.fz)=some ds
 |[]=>rfl
 |d::ds=>by rw[aam,OD.ay,dats_fz ds];rfl
def bO(ds:List PyData):(OD.lst (ds.map OD.fz)).dat=some (.list ds):=by rw[OD.dat,dats_fz]
def bu(h:ρ[j]?.join=some x)(b:x.dat=some d)(a:ρ.set j (some (.fz d))=ρ'):frz1 ρ (.rf j)=some (d,ρ'):=by simp only[frz1,h,acy,b,Option.map_some,a]
def bL{ρ a:DEnv}:bY ρ [] a=ρ:=by cases a with|nil=>rfl|cons o a=>cases o<;>rfl
def R.d_is(r:R):r.d=.tuple (.str r.wd::r.tl):=by cases r<;>rfl
def Ju{w x y:Str}:∃k,mV .inn (.str w) (.tuple [.str x,.str y])=some k:=⟨_,rfl⟩
def vO{rs:List R}:∀d∈cN (rs.map R.d),∃(i:Int) (r:R),d=.tuple [.int i,r.d]:=λd c=>by
 obtain⟨k,f⟩:=abY c;obtain⟨e,a,rfl⟩:=jE f;rw[aat]at a;cases b:rs[k]? with
 |none=>rw[b]at a;cases a
 |some r=>rw[b]at a;cases a;exact⟨k,r,rfl⟩
def oj{C:Ct}{rs:List R}:∃(ls:List Int) (ρ:DEnv),aT (be C (.tp [0,1]) (.some ea5) (.nm 0)) (cN (rs.map R.d)) [] [none,none]=some (ls.map PyData.int,ρ)/\ls.length<=rs.length:=by
 obtain⟨out,ρ,e,_,⟨ls,rfl,a⟩,_⟩:=gq (step:=be C (.tp [0,1]) (.some ea5) (.nm 0))
  (λds out ρ=>(∀d∈ds,∃(i:Int) (r:R),d=.tuple [.int i,r.d])/\(∃ls:List Int,out=ls.map PyData.int/\ls.length+ds.length<=rs.length)/\∃c g,ρ=[c,g]) (λd ds out ρ=>by
   rintro⟨b,⟨ls,rfl,a⟩,c,g,rfl⟩;obtain⟨i,r,rfl⟩:=b _ aab;rw[aaw]at a;obtain⟨k,j⟩:=Ju (w:=r.wd) (x:="go") (y:="nil");have f:bj C ea5 [JG i,JI r]=some (k,[JG i,JI r]):=aN (aC (aM rfl rfl rfl (by rw[R.d_is];exact ba bq)) rfl rfl rfl j);cases k with
   |false=>exact⟨[],_,yQ rfl f,λd h=>b d (aah _ h),⟨ls,by rw[aaq],by omega⟩,_,_,rfl⟩
   |true=>exact⟨[.int i],_,yP rfl f rfl rfl,λd h=>b d (aah _ h),⟨ls++[i],by rw[aau];rfl,by rw[aak,aaB];omega⟩,_,_,rfl⟩)
  (ds:=cN (rs.map R.d)) (out:=[]) (ρ:=[none,none]) ⟨vO,⟨[],rfl,by rw[cO,aaa,aaG,aa2];exact aag _⟩,_,_,rfl⟩
 exact⟨ls,ρ,e,by rw[aaG]at a;omega⟩
theorem om(L:0<=sh)(I:sh<3)(h:TpOk b c m){js:List Int}(O:m+js.length<=100000):∃(ls:List Int) (s l j:Int) (o:Option OD),aT (be (JQ (n+1)) (.nm 0) (.some eaj) (.nm 0)) (js.map PyData.int) [] [none,JG sh,JH a b c]=some (ls.map PyData.int,[o,JG sh,JH s l j])/\TpOk l j (m+js.length):=by
 obtain⟨i,ρ,e,⟨g,r⟩,⟨ls,rfl⟩,o,s,l,j,rfl,t⟩:=gq (step:=be (JQ (n+1)) (.nm 0) (.some eaj) (.nm 0))
  (λp i ρ=>(∃g:List Int,p=g.map PyData.int/\g.length<=js.length)/\(∃ls:List Int,i=ls.map PyData.int)/\∃o a b c,ρ=[o,JG sh,JH a b c]/\TpOk b c (m+(js.length-p.length))) (λd p i ρ=>by
   rintro⟨⟨g,r,D⟩,⟨ls,rfl⟩,o,a,b,c,rfl,t⟩;cases g with
   |nil=>cases r
   |cons k g=>
    cases r;rw[aaw,aaa]at t;rw[aaw]at D;obtain⟨M,N,B,F,J,A,H,x⟩:=bC (many:=2) t (by omega) (by decide) (by decide);obtain⟨y,u,z⟩:=kM (xs:=[OD.fz (.bool false),.fz (.bool (decide (M=0))),.fz (.bool true)]) L I;obtain⟨q,rfl⟩:∃q:Bool,y=.fz (.bool q):=by simp only[aac,aan,or_false]at u;rcases u with rfl|rfl|rfl<;>exact⟨_,rfl⟩
    have w:=H8 (C:=JQ (n+1)) (ρ:=[JG k,JG sh,JH a b c]) (aM (jL (aa rfl (aa (aC (ae (f:=26) (es:=.cons (.nm 2) edj) rfl rfl J rfl) (b:=.int 0) (o:=.eq) rfl rfl rfl rfl) (aa (e:=.bl true) rfl ah)) (e:=.bl false)) rfl rfl) (b:=.nm 1) rfl rfl (iO z));have v:TpOk B F (m+(js.length-(g.map PyData.int).length)):=x.up (by rw[aaa];omega);cases q with
    |false=>exact⟨[],_,yQ rfl w,⟨g,rfl,by omega⟩,⟨ls,by rw[aaq]⟩,_,_,_,_,rfl,v⟩
    |true=>exact⟨[.int k],_,yP rfl w rfl rfl,⟨g,rfl,by omega⟩,⟨ls++[k],by rw[aau];rfl⟩,_,_,_,_,rfl,v⟩)
  ⟨⟨js,rfl,aag _⟩,⟨[],rfl⟩,_,a,b,c,rfl,h.up (by omega)⟩
 exact⟨ls,s,l,j,o,e,t.up (by omega)⟩
def yY{rs:List R}(C:rs.length<=200)(h:TpOk b c m)(s:m<=90000):∃(ls:List Int) (x g f:Int),pl.pg.call (n+2) 28 [Tp a b c,Rl rs]=some (.lst (ls.map It),[Tp x g f,Rl rs])/\TpOk g f (m+300):=by
 obtain⟨D,z,A,B,v,d,e,j⟩:=bC (many:=3) h (up (k:=0) s rfl) (by decide) (by decide);obtain⟨js,w,u,y⟩:=oj (rs:=rs);obtain⟨ls,i,p,q,o,t,r⟩:=om d e j (js:=js) (by omega);have l:(ls.map PyData.int).map OD.fz=ls.map It:=by rw[aaX];rfl
 refine⟨ls,i,p,q,af rfl rfl (ab (aq (ae rfl rfl v rfl) rfl rfl rfl) (ab (aq (b7 (oh rfl rfl) (by rw[cO,aaa];omega) rfl u bL) rfl rfl rfl) (az (ao (b7 (bo rfl (bu rfl (bO _) rfl) rfl) (by rw[aaa];omega) rfl t rfl) (by rw[l];rfl))))) rfl,r.up (by omega)⟩
def oq(h:r.gr=k):pl.pg.call (n+1) 29 [Rd r]=some (.fz (.bool k),[Rd r]):=h▸jS r
abbrev Il(gs:List Int):OD:=.lst (gs.map It)
def iW(gs:List Int):(gs.map PyData.int).map OD.fz=gs.map It:=by rw[aaX];rfl
def aA(gs:List Int):(Il gs).dat=some (.list (gs.map PyData.int)):=by rw[Il,<-iW,bO]
def vP(rs:List R):(rs.map R.d).map OD.fz=rs.map λr=>OD.fz r.d:=by rw[aaX];rfl
def iX(h:ρ[j]?.join=some (Il gs))(d:atI (gs.map It) i=JG g):cv ρ (.rf j) i=some (It g,ρ):=by
 obtain⟨k,c,a⟩:=bnd d;have b:itemS (Il gs) i=some (.int g,Il gs):=by simp only[Il,itemS,c,a,OD.dat];rw[bI a]
 simp only[cv,h,b];rw[set_self (join_some h)]
def mE(h:TpOk b c m)(w:m+4*N<=800000):∃(gs:List Int) (r p l:Int) (o:Option OD),aT (be (JQ (n+2)) (.nm 0) .none ecx) (bX 0 N) [] [none,JH a b c]=some (gs.map PyData.int,[o,JH r p l])/\gs.length=N/\(∀g∈gs,100<=g/\g<=99999999)/\TpOk p l (m+4*N):=by
 obtain⟨f,q,e,gs,r,p,l,o,rfl,i,j,rfl,t⟩:=gq (step:=be (JQ (n+2)) (.nm 0) .none ecx)
  (λds f q=>∃(gs:List Int) (a b c:Int) (o:Option OD),f=gs.map PyData.int/\gs.length+ds.length=N/\(∀g∈gs,100<=g/\g<=99999999)/\q=[o,JH a b c]/\TpOk b c (m+4*gs.length)) (λd ds f q=>by
   rintro⟨gs,a,b,c,o,rfl,i,j,rfl,t⟩;rw[aaw]at i;obtain⟨g,v,y,z,B,A,u⟩:=yU t (aav (acB (ac3 4 (Nat.le.intro i)) m) (aav w (by decide)));have s:(gs++[g]).length=gs.length+1:=aak;refine⟨[.int g],_,my rfl (ae rfl rfl B rfl) rfl,gs++[g],v,y,z,_,by rw[aau];rfl,by rw[s,Nat.add_right_comm];exact i,λx k=>?_,rfl,u.up (by rw[s];exact aag _)⟩;rcases aai.mp k with k|k
   ·exact j x k
   ·rw[aao.mp k];exact A)
  (ds:=bX 0 N) ⟨[],a,b,c,none,rfl,by rw[cL,aaG,aa2],(λg j=>absurd j aan),rfl,h⟩
 rw[aaG]at i;exact⟨gs,r,p,l,o,e,by omega,j,t.up (by omega)⟩
abbrev ll(a b c:Int)(gs:List Int)(rs:List R)(mn:Int)(o4 o5 o6 o7 o8:Option OD):DEnv:=[JH a b c,some (Il gs),some (Rs rs),JG mn,o4,o5,o6,o7,o8]
def vQ:(ll a b c gs rs mn o4 o5 o6 o7 o8).set 2 (some (.lst ((rs.map λr=>OD.fz r.d)++[.fz r.d])))=ll a b c gs (rs++[r]) mn o4 o5 o6 o7 o8:=by rw[<-yX];rfl
def qf(f:rs.length<=1000):bj (JQ (n+2)) eaq (ll a b c gs rs mn o4 o5 o6 o7 o8)=some (decide (((rs.filter R.gr).length:Int)=4),ll a b c gs rs mn o4 o5 o6 o7 o8):=by
 obtain⟨g,e⟩:=kR;refine aN (aC (aV (ds:=[.list ((rs.filter R.gr).map R.d)]) (d:=.int (rs.filter R.gr).length) (aa (yO (by rw[vP];rfl) (by rw[aaa];omega) rfl e (by rw[bL,vP];rfl)) ah) ?_ ?_) rfl rfl rfl rfl)
 ·exact iD (bO _)
 ·show some (PyData.int (((rs.filter R.gr).map R.d).length:Nat))=_;rw[aaa]
abbrev FX:Ss:=match F_few.body with|.cons _ (.cons _ (.cons _ (.cons (.fr _ _ b) _)))=>b|_=>.nil
theorem vR(h:TpOk b c m)(w:m<=100000)(O:rs.length<=1000)(hg:∀g∈gs,100<=g/\g<=99999999)(g0:0<gs.length)(g1:gs.length<100)(v:(rs.filter R.gr).length<=4/\Nb rs):
  ∃p,((aX (.nm 4) (.fz (.int i)) (ll a b c gs rs mn o4 o5 o6 o7 o8)).bind λρ1=>aG (JQ (n+2)) FX ρ1)=some (.nx,p)/\∃(r:R) (a' P N:Int) (T p5 p6 Y p8:Option OD),p=ll a' P N gs (rs++[r]) mn T p5 p6 Y p8/\(((rs++[r]).filter R.gr).length<=4/\Nb (rs++[r]))/\TpOk P N (m+4):=by
 obtain⟨f,a1,b1,c1,e1,X,a4,U⟩:=bC (many:=7) h (up (k:=0) w rfl) (by decide) (by decide);obtain⟨d,D,I,J,e2,a5,a0,Z⟩:=bC (many:=5) U (up w rfl) (by decide) (by decide);obtain⟨x3,o,j,l,e3,A,B,M⟩:=bC (many:=gs.length) Z (up (k:=2) w rfl) (by omega) (by omega);obtain⟨g,C,eg⟩:=fR A B;obtain⟨y,H⟩:∃y:Int,y=(if 4<f then 4 else f):=⟨_,rfl⟩
 have F:0<=y/\y<5:=by rw[H];split<;>omega
 obtain⟨r,u,W⟩:=FW (rs:=[fS d,fT,yV 0,kQ d 0,.st d g]) F.1 F.2;have Q:cE (JQ (n+2)) eam (ll a b c gs rs mn (JG i) o5 o6 o7 o8)=some (.nx,ll D I J gs rs mn (JG i) (JG f) (JG d) o7 o8):=
  n9 (aa (ae rfl rfl e1 rfl) (aa (ae rfl rfl e2 rfl) ah)) rfl rfl rfl
 have S:cE (JQ (n+2)) eaa (ll D I J gs rs mn (JG i) (JG f) (JG d) o7 o8)=some (.nx,ll o j l gs rs mn (JG i) (JG f) (JG d) (some (Rs [fS d,fT,yV 0,kQ d 0,.st d g])) o8):=
  aq (jL (aa rfl (aa rfl (aa rfl (aa rfl (aa (eS (aa rfl (aa rfl (aa (aM rfl (ae (aa rfl (aa (aV rfl (iD (aA gs)) (by show some (PyData.int ((gs.map PyData.int).length:Nat))=_;rw[aaa])) ah)) rfl e3 rfl) rfl (iX rfl eg)) ah))) rfl rfl rfl) ah))))) rfl rfl) rfl rfl rfl
 have L:cE (JQ (n+2)) ebd (ll o j l gs rs mn (JG i) (JG f) (JG d) (some (Rs [fS d,fT,yV 0,kQ d 0,.st d g])) o8)=some (.nx,ll o j l gs rs mn (JG i) (JG f) (JG d) (some (Rs [fS d,fT,yV 0,kQ d 0,.st d g])) (JI r)):=
  aq (aM rfl (aV rfl rfl (show _=some (PyData.int y) by rw[H];rfl)) rfl (yW rfl W)) rfl rfl rfl
 have t:∀q:R,aG (JQ (n+2)) ec2 (ll o j l gs rs mn (JG i) (JG f) (JG d) (some (Rs [fS d,fT,yV 0,kQ d 0,.st d g])) (JI q))=some (.nx,ll o j l gs (rs++[q]) mn (JG i) (JG f) (JG d) (some (Rs [fS d,fT,yV 0,kQ d 0,.st d g])) (JI q)):=λq=>
  ab (cZ rfl rfl rfl rfl (by rw[aaa];omega) vQ) rfl
 have s:r.num<=99999999:=by simp only[aac,aan,or_false]at u;rcases u with rfl|rfl|rfl|rfl|rfl<;>first|exact(by decide:(0:Int)<=99999999)|exact(hg g C).2
 by_cases x:r.gr=true/\(rs.filter R.gr).length=4
 ·refine⟨_,bs rfl (ab Q (ab S (ab L (ab (aO (gp (aW (ae rfl rfl (oq x.1) rfl)) ((qf O).trans (by rw[Dac (by omega)]))) (ab (aq (ρ3:=ll o j l gs rs mn (JG i) (JG f) (JG d) (some (Rs [fS d,fT,yV 0,kQ d 0,.st d g])) (JI (FV 1 2))) rfl rfl rfl rfl) rfl)) (t _))))),FV 1 2,o,j,l,_,_,_,_,_,rfl,⟨?_,v.2.snoc (by decide)⟩,M.up (IS (k:=3) rfl)⟩;rw[List.filter_append,aak];exact v.1
 ·have ht:bj (JQ (n+2)) eah (ll o j l gs rs mn (JG i) (JG f) (JG d) (some (Rs [fS d,fT,yV 0,kQ d 0,.st d g])) (JI r))=some (false,ll o j l gs rs mn (JG i) (JG f) (JG d) (some (Rs [fS d,fT,yV 0,kQ d 0,.st d g])) (JI r)):=by
   cases e:r.gr with
   |false=>exact n6 (aW (ae rfl rfl (oq e) rfl))
   |true=>exact gp (aW (ae rfl rfl (oq e) rfl)) ((qf O).trans (by rw[Dab (λz=>x ⟨e,by omega⟩)]))
  refine⟨_,bs rfl (ab Q (ab S (ab L (ab (aI ht rfl) (t r))))),r,o,j,l,_,_,_,_,_,rfl,⟨?_,v.2.snoc s⟩,M.up (IS (k:=3) rfl)⟩;rw[List.filter_append,aak];cases e:r.gr with
  |false=>rw[acC (by rw[e];decide)];exact v.1
  |true=>have:([r].filter R.gr).length<=1:=ab8 _ _;have:(rs.filter R.gr).length≠4:=λz=>x ⟨e,z⟩;omega
theorem FY(h:TpOk b c m)(I:m<=90000):∃(rs:List R) (B p l:Int),pl.pg.call (n+3) 32 [Tp a b c]=some (Rs rs,[Tp B p l])/\rs.length<=6/\((rs.filter R.gr).length<=4/\Nb rs)/\TpOk p l (m+60):=by
 obtain⟨C,a1,b1,c1,e1,W,a0,Q⟩:=bC (many:=3) h (up (k:=0) I rfl) (by decide) (by decide);obtain⟨gs,a2,b2,c2,o,e2,O,hg,u⟩:=mE Q (N:=(1+C).toNat) (by omega);have x:(1+C).toNat<=3:=by omega
 have u:=u.up (show m+1+4*(1+C).toNat<=m+13 from acB (ac3 4 x) (m+1));obtain⟨j,a3,b3,c3,e3,a4,a5,t3⟩:=bC (many:=7) u (up (k:=13) I rfl) (by decide) (by decide);have hN:j.toNat<=6:=by omega
 obtain⟨f,S,rs,U,T,c6,D,v,w,y,q,rfl,g,z,_,t6⟩:=sq (step:=λd f=>(aX (.nm 4) (.fz d) f).bind λA=>aG (JQ (n+2)) FX A)
  (λds M=>∃(rs:List R) (a b c:Int) (D v w y q:Option OD),M=ll a b c gs rs j D v w y q/\rs.length+ds.length=j.toNat/\((rs.filter R.gr).length<=4/\Nb rs)/\(∀d∈ds,∃i,d=.int i)/\TpOk b c (m+14+4*rs.length)) (λd ds M=>by
   rintro⟨rs,a,b,c,D,v,w,y,q,rfl,g,z,L,t⟩;obtain⟨i,rfl⟩:=L _ aab;have J:rs.length<=6:=aav (Nat.le.intro g) hN;obtain⟨f,e,r,B,p,l,P,Y,p6,X,Z,rfl,F,t'⟩:=vR t (by omega) (by omega) hg (by rw[O];omega) (by rw[O];omega) z;have H:(rs++[r]).length=rs.length+1:=aak;rw[aaw]at g;exact⟨.nx,_,e,.inl rfl,rs++[r],B,p,l,P,Y,p6,X,Z,rfl,by rw[H];omega,F,λd s=>L d (aah _ s),t'.up (by rw[H];omega)⟩)
  (ds:=bX 0 j.toNat) ⟨[],a3,b3,c3,none,none,none,none,none,rfl,by rw[cL,aaG,aa2],⟨aaH _,λr J=>absurd J aan⟩,sy,t3⟩
 have g:rs.length=j.toNat:=g;refine⟨rs,U,T,c6,af rfl rfl (ab (aq (b7 (c7 (ag rfl (ae rfl rfl e1 rfl) rfl rfl rfl) rfl (by omega)) (by rw[cL];omega) rfl e2 rfl) (by rw[iW];rfl) rfl rfl) (ab (aq rfl rfl rfl rfl) (ab (aq (ae rfl rfl e3 rfl) rfl rfl rfl) (ab (bF (c7 rfl rfl (by omega)) S) (az (ao rfl rfl)))))) rfl,by omega,z,t6.up (by omega)⟩
def vS(h:TpOk b c m)(d:m<=900000):∃r0 r1 F x u,pl.pg.call (n+2) 33 [Tp a b c]=some (.fz (.tuple [.int r0,.int r1]),[Tp F x u])/\0<=r0/\6<=r1:=by
 obtain⟨J,P,T,U,C,q,v,p⟩:=bC (many:=16) h (up (k:=0) d rfl) (by decide) (by decide);obtain⟨W,N,Q,S,B,i,e,s⟩:=bC (many:=4) p (up d rfl) (by decide) (by decide);obtain⟨M,Z,X,Y,y,A,D,w⟩:=bC (many:=9) s (up (k:=2) d rfl) (by decide) (by decide);obtain⟨x4,H,r,t,z,j,f,O⟩:=bC (many:=3) w (up (k:=3) d rfl) (by decide) (by decide);obtain⟨g,o,I⟩:=fR (ks:=[0,0,J,30]) i e;obtain⟨k,l,L⟩:=fR (ks:=[6,6+M,30]) j f;refine⟨g,k,H,r,t,af rfl rfl (az (ao (eS (aa (aM (jL (aa rfl (aa rfl (aa (ae rfl rfl C rfl) (aa rfl ah)))) rfl rfl) (ae rfl rfl B rfl) rfl (iO I)) (aa (aM (jL (aa rfl (aa (ag rfl (ae rfl rfl y rfl) rfl rfl rfl) (aa rfl ah))) rfl rfl) (ae rfl rfl z rfl) rfl (iO L)) ah)) rfl rfl rfl) rfl)) rfl,?_,?_⟩
 ·simp only[aac,aan,or_false]at o;rcases o with rfl|rfl|rfl|rfl<;>omega
 ·simp only[aac,aan,or_false]at l;rcases l with rfl|rfl|rfl<;>omega
structure Cf where
 rows:List R
 longs:List Int
 r0:Int
 r1:Int
structure G where
 pl:Int
 gaps:List Int
 words:List (List Int)
 bg:Int
 us:List (Int×Int)
 wt:List (Int×Int)
abbrev Lo(f:Cf):OD:=.fz (.list (f.longs.map PyData.int))
abbrev JK(f:Cf):Option OD:=some (Lo f)
abbrev Re(f:Cf):OD:=.fz (.tuple [.int f.r0,.int f.r1])
abbrev Wq(q:Int×Int):PyData:=.tuple [.int q.1,.int q.2]
abbrev Wl(wt:List (Int×Int)):OD:=.lst ((wt.map Wq).map OD.fz)
abbrev gN:List Str:=[am,bm,bi,bv,kt,hF,dL,dV,hY]
abbrev gD(us:List (Int×Int)):OD:=.dic (us.map λu=>.inl u.1) (us.map λu=>It u.2)
abbrev gO(f:Cf)(pl:Int)(gaps:OD)(words:OD)(bg:Int)(us:OD)(wt:OD):OD:=.obj ac gN [Rl f.rows,Lo f,Re f,It pl,gaps,words,It bg,us,wt]
abbrev GO(f:Cf)(g:G):OD:=gO f g.pl (Il g.gaps) (.lst (g.words.map Il)) g.bg (gD g.us) (Wl g.wt)
section
variable{f:Cf}{p b:Int}{x4 x5 x7 x8:OD}{ρ:DEnv}
def dX:ak (some (gO f p x4 x5 b x7 x8)::ρ) 0 [.fld ac am]=some ((gO f p x4 x5 b x7 x8),[0],Rl f.rows):=rfl
def qg:ak (some (gO f p x4 x5 b x7 x8)::ρ) 0 [.fld ac bm]=some ((gO f p x4 x5 b x7 x8),[1],Lo f):=rfl
def kS:ak (some (gO f p x4 x5 b x7 x8)::ρ) 0 [.fld ac bi]=some ((gO f p x4 x5 b x7 x8),[2],Re f):=rfl
def dm:ak (some (gO f p x4 x5 b x7 x8)::ρ) 0 [.fld ac bv]=some ((gO f p x4 x5 b x7 x8),[3],It p):=rfl
def kT:ak (some (gO f p x4 x5 b x7 x8)::ρ) 0 [.fld ac kt]=some ((gO f p x4 x5 b x7 x8),[4],x4):=rfl
def dn:ak (some (gO f p x4 x5 b x7 x8)::ρ) 0 [.fld ac hF]=some ((gO f p x4 x5 b x7 x8),[5],x5):=rfl
def kU:ak (some (gO f p x4 x5 b x7 x8)::ρ) 0 [.fld ac dL]=some ((gO f p x4 x5 b x7 x8),[6],It b):=rfl
def vT:ak (some (gO f p x4 x5 b x7 x8)::ρ) 0 [.fld ac dV]=some ((gO f p x4 x5 b x7 x8),[7],x7):=rfl
def cV:ak (some (gO f p x4 x5 b x7 x8)::ρ) 0 [.fld ac hY]=some ((gO f p x4 x5 b x7 x8),[8],x8):=rfl
def f_place:bA bv (It q) gN [Rl f.rows,Lo f,Re f,It p,x4,x5,It b,x7,x8]=(gN,[Rl f.rows,Lo f,Re f,It q,x4,x5,It b,x7,x8]):=rfl
def yZ:bA dL (It q) gN [Rl f.rows,Lo f,Re f,It p,x4,x5,It b,x7,x8]=(gN,[Rl f.rows,Lo f,Re f,It p,x4,x5,It q,x7,x8]):=rfl
def sA:bA hY q gN [Rl f.rows,Lo f,Re f,It p,x4,x5,It b,x7,x8]=(gN,[Rl f.rows,Lo f,Re f,It p,x4,x5,It b,x7,q]):=rfl
end
def CW:pl.pg.call (n+1) 9 [.obj ac [] [],Rl f.rows,Lo f,Re f]=some (.fz .none,[GO f ⟨0,[],[],0,[],[]⟩,Rl f.rows,Lo f,Re f]):=c8 rfl rfl (ab (bZ rfl rfl rfl rfl rfl rfl) (ab (bZ rfl rfl rfl rfl rfl rfl) (ab (bZ rfl rfl rfl rfl rfl rfl) (ab (bZ rfl rfl rfl rfl rfl rfl) (ab (bZ rfl rfl rfl rfl rfl rfl) (ab (bZ rfl rfl rfl rfl rfl rfl) (ab (bZ rfl rfl rfl rfl rfl rfl) (ab (bZ rfl rfl rfl rfl rfl rfl) (ab (bZ rfl rfl rfl rfl rfl rfl) rfl))))))))) rfl
def R.fal(r:R):Bool:=!decide (r.wd="go")&&!decide (r.wd=lv)
def y0(rs:List R):Nat->Bool
 |0=>true
 |k+1=>(rs[k]?).elim true R.fal
def fw(rs:List R)(k:Nat)(p:Int):Int:=let q:=if y0 rs k=true then p+2 else p;q+2-q%2
def sz(f:Cf)(k:Nat):Int:=if (f.rows[k]?).elim false R.gr=true\/(k:Int)∈f.longs then 2 else 1
def y4(r:R):pl.pg.call (n+1) 2 [Rd r]=some (.fz (.bool r.fal),[Rd r]):=by
 unfold R.fal;have a:∀x:Str,ev (JQ n) (.cmp .ne edd (.str x)) [JI r]=some (.val (.fz (.bool (!decide (r.wd=x)))),[JI r]):=λx=>aC (aM rfl rfl rfl (by rw[R.d_is];exact ba bq)) rfl rfl rfl rfl;cases b:(!decide (r.wd="go")) with
 |false=>exact af rfl rfl (az (ao (kK (by rw[<-b];exact a "go")) rfl)) rfl
 |true=>rw[Bool.true_and];exact af rfl rfl (az (ao (vG (by rw[<-b];exact a "go") (a lv)) rfl)) rfl
def eZ{rs:List R}{k:Nat}(h:rs[k]?=some r):atI (rs.map R.d) (k:Int)=some r.d:=b8 (by rw[aat,h];rfl)
theorem iY:∀{ls:List Int},memD (.int x) (ls.map PyData.int)=some (decide (x∈ls))
 |[]=>by simp[memD]
 |y::ls=>by rw[aam,memD,iY (ls:=ls)];show some (decide (y=x)||decide (x∈ls))=_;rw[<-Bool.decide_or];congr 1;rw[decide_eq_decide,aac];exact⟨λh=>h.imp Eq.symm id,λh=>h.imp Eq.symm id⟩
def inL{ls:List Int}:mV .inn (.int x) (.list (ls.map PyData.int))=some (decide (x∈ls)):=bs (f:=λa=>(gd (Bv (PyData.int x)=true)).bind λ_=>memD (.int x) a) rfl (bg rfl iY)
def ninL{ls:List Int}:mV .nin (.int x) (.list (ls.map PyData.int))=some (!decide (x∈ls)):=bs (inL ) rfl
def ou{k:Nat}(h:f.rows[k]?=some r):pl.pg.call (n+2) 3 [Rl f.rows,Lo f,It k]=some (It (sz f k),[Rl f.rows,Lo f,It k]):=by
 unfold sz;rw[h];have a:=ae (C:=JQ (n+1)) (f:=0) (es:=.cons edh .nil) (ρ:=[JJ f.rows,JK f,JG k]) (aa (aM rfl rfl rfl (bp (eZ h))) ah) rfl (CV r) rfl;cases b:r.gr with
 |true=>rw[b]at a;rw[if_pos (.inl b)];exact af rfl rfl (az (ao (mx (jM (aW a)) rfl) rfl)) rfl
 |false=>
  rw[b]at a;have c:bj (JQ (n+1)) ec4 [JJ f.rows,JK f,JG k]=some (decide ((k:Int)∈f.longs),[JJ f.rows,JK f,JG k]):=aN (aC rfl rfl rfl rfl inL);cases d:decide ((k:Int)∈f.longs) with
  |true=>rw[d]at c;rw[if_pos (.inr (Daa d))];exact af rfl rfl (az (ao (mx (cz (aW a) c) rfl) rfl)) rfl
  |false=>rw[d]at c;rw[if_neg λz=>z.elim (λz=>absurd (b.symm.trans z) aal) λz=>Dad d z];exact af rfl rfl (az (ao (vF (cz (aW a) c) rfl) rfl)) rfl
def CY{k:Nat}(h:k<=rs.length):pl.pg.call (n+2) 4 [Rl rs,It k]=some (.fz (.bool (y0 rs k)),[Rl rs,It k]):=by
 cases k with
 |zero=>exact af rfl rfl (az (ao (z6 rfl) rfl)) rfl
 |succ k=>
  have b:=y4 (n:=n) rs[k];have c:y0 rs (k+1)=(rs[k]).fal:=by show (rs[k]?).elim true R.fal=_;rw[aap h];rfl
  rw[c];have a:((k+1:Nat):Int)-1=(k:Int):=by omega
  exact af rfl rfl (az (ao (z9 (aC rfl rfl rfl rfl (show some (decide (((k+1:Nat):Int)=0))=some false by rw[Dab (by omega)])) (ae (aa (aM rfl rfl rfl (bp (by rw[a];exact eZ (aap (by omega))))) ah) rfl b rfl)) rfl)) rfl
def kW{rs:List R}{k:Nat}(h:k<=rs.length):pl.pg.call (n+3) 5 [Rl rs,It k,It p]=some (It (fw rs k p),[Rl rs,It k,It p]):=by
 unfold fw;have c:=CY (n:=n) h;have a:=ae (C:=JQ (n+2)) (f:=4) (es:=.cons (.nm 0) edk) (ρ:=[JJ rs,JG k,JG p]) rfl rfl c rfl;cases b:y0 rs k with
 |true=>rw[b]at a;exact af rfl rfl (ab (aO (aW a) (ab rfl rfl)) (az (ao (ag rfl (ag rfl rfl rfl rfl (dE (by decide))) rfl rfl rfl) rfl))) rfl
 |false=>rw[b]at a;exact af rfl rfl (ab (aI (aW a) rfl) (az (ao (ag rfl (ag rfl rfl rfl rfl (dE (by decide))) rfl rfl rfl) rfl))) rfl
def ox(wt:List (Int×Int)):(Wl wt).dat=some (.list (wt.map Wq)):=bO _
def tru_l{a:Type}{f:a->PyData}{l:List a}:kl (.list (l.map f))=some (!l.isEmpty):=by show some (!(l.map f).isEmpty)=_;rw[List.isEmpty_map]
def vU{a:Type}{f:a->PyData}{l:List a}:kb (.list (l.map f))=some l.length:=by show some (l.map f).length=_;rw[aaa]
def blen{a:Type}{f:a->PyData}{l:List a}:EJ .len [.list (l.map f)]=some (.int l.length):=by show (eM [PyData.list (l.map f)]).bind (λd=>(kb d).bind λn=>some (PyData.int n))=_;exact bs rfl (bs vU rfl)
def due(f:Cf)(g:G)(k:Nat):Bool:=g.wt.head?.elim false λq=>decide ((k:Int)=f.rows.length)||decide (fw f.rows (k+1) (g.pl+sz f k)-q.2>f.r1)
theorem FZ{k:Nat}(hk:k<=f.rows.length):pl.pg.call (n+4) 10 [GO f g,It k]=some (.fz (.bool (due f g k)),[GO f g,It k]):=by
 unfold due;have b:bj (JQ (n+3)) eci [some (GO f g),JG k,none,none,none]=some (!(!g.wt.isEmpty),[some (GO f g),JG k,none,none,none]):=cI (jN cV (ox _) tru_l);cases d:g.wt with
 |nil=>rw[d]at b;exact af rfl rfl (az (aO b (az rfl))) rfl
 |cons q l=>
  rw[d]at b;have a:ev (JQ (n+3)) ebq [some (GO f g),JG k,none,none,none]=some (.val (It f.rows.length),[some (GO f g),JG k,none,none,none]):=aV (aa (cg dX rfl) ah) rfl blen;by_cases e:(k:Int)=f.rows.length
  ·show _=some (OD.fz (PyData.bool (decide ((k:Int)=f.rows.length)||decide (fw f.rows (k+1) (g.pl+sz f k)-q.2>f.r1))),_);rw[Dac e,Bool.true_or];exact af rfl rfl (ab (aI b rfl) (az (aO (aN (aC rfl a rfl rfl (show some (decide ((k:Int)=f.rows.length))=some true by rw[Dac e]))) (az rfl)))) rfl
  ·have c:k<f.rows.length:=by omega
   have j:=ou (n:=n+1) (aap c);have i:=kW (n:=n) (p:=g.pl+sz f k) c;show _=some (OD.fz (PyData.bool (decide ((k:Int)=f.rows.length)||decide (fw f.rows (k+1) (g.pl+sz f k)-q.2>f.r1))),_);rw[Dab e,acn];have h:ak [some (GO f g),JG k,JG (g.pl+sz f k),none,none] 0 [.ix 0,.fld ac hY]=some (GO f g,[8,0],.fz (Wq q)):=bs cV (bs (bs rfl (by rw[d];exact qa (by simp))) (bs (by show (List.map OD.fz (g.wt.map Wq))[0]?=_;rw[d];rfl) rfl));exact af rfl rfl (ab (aI b rfl) (ab (aI (aN (aC rfl a rfl rfl (show some (decide ((k:Int)=f.rows.length))=some false by rw[Dab e]))) rfl) (ab (aq (ag (cg dm rfl) (ae (aa (cg dX rfl) (aa (cg qg rfl) (aa rfl ah))) rfl j rfl) rfl rfl rfl) rfl rfl rfl) (ab (bs (cg h rfl) (bs rfl (bs rfl rfl))) (az (ao (aC (ag (ae (aa (cg dX rfl) (aa rfl (aa rfl ah))) rfl i rfl) rfl rfl rfl rfl) (aM (cg kS rfl) rfl rfl rfl) rfl rfl rfl) rfl)))))) rfl
def nu(f:Cf)(a:Int):Int:=((f.rows[a.toNat]?).map R.num).getD 0
def Gt(f:Cf)(a:Int):Prop:=∃(i:Nat) (r k:Int),a=i/\f.rows[i]?=some (.st r k)
def nu_is{i:Nat}(h:f.rows[i]?=some (.st r k)):nu f i=k:=by unfold nu;rw[aaM,h];rfl
def addN(ns:List Int)(x:Int):List Int:=if x∈ns then ns else ns++[x]
def bR{ns:List Int}{x:Int}:Il (ns++[x])=.lst (ns.map It++[It x]):=by rw[Il,aau];rfl
abbrev wF(wt:List (Int×Int)):OD:=.fz (.list (wt.map Wq))
def putK_new(h:a ∉ us.map (·.1)):bB (.inl a) (.int v) (us.map λu=>.inl u.1) (us.map λu=>It u.2)=((us++[(a,v)]).map λu=>.inl u.1,(us++[(a,v)]).map λu=>It u.2):=by
 have d:¬ ((us.map λu=>(Sum.inl u.1:Key)).any λq=>decide (q=.inl a))=true:=by intro f;obtain⟨q,b,e⟩:=abJ.mp f;obtain⟨u,c,rfl⟩:=aas.mp b;have:=Daa e;cases this;exact h (aas.mpr ⟨u,c,rfl⟩)
 unfold bB;rw[if_neg d,aau,aau];rfl
def vV(c:(some (gO f p x4 x5 b x7 x8)::ρ)[j]?.join=JG a)(h:Gt f a):ev C (.ix (.ix (.pg 0 [.fld ac am]) (.nm j)) (.int 2)) (some (gO f p x4 x5 b x7 x8)::ρ)=some (.val (It (nu f a)),some (gO f p x4 x5 b x7 x8)::ρ):=by obtain⟨i,r,k,rfl,h⟩:=h;rw[nu_is h];refine aM (aM (y:=.val (It i)) (cg dX rfl) ?_ rfl (bp (eZ h))) rfl rfl rfl;rw[zO,c]
theorem mF{n:Nat}{f:Cf}{p bg:Int}{gaps:List Int}{x5:OD}{gap:OD}{wtF:OD}(m:gaps.length<1000000):∀(wt:List (Int×Int)) (us:List (Int×Int)) (ns:List Int) (o3 o4:Option OD),(∀q∈wt,Gt f q.1)->(us.map (·.1)++wt.map (·.1)).Nodup->us.length+wt.length<1000->ns.length+wt.length<1000 ->
  ∃a g,bc (λd j=>(aX (.tp [3,4]) (.fz d) j).bind λρ1=>aG (JQ n) (match F_Going_lay.body with|.cons _ (.cons (.fr _ _ b) _)=>b|_=>.nil) ρ1) (wt.map Wq) [some (gO f p (Il gaps) x5 bg (gD us) wtF),some gap,some (Il ns),o3,o4]=some (.nx,[some (gO f p (Il gaps) x5 bg (gD (us++wt.map λq=>(q.1,(gaps.length:Int)))) wtF),some gap,some (Il (wt.foldl (λns q=>addN ns (nu f q.1)) ns)),a,g])
 |[],us,ns,o3,o4,_,_,_,_=>⟨o3,o4,by simp only[aaC,aaq];rfl⟩
 |q::wt,us,ns,o3,o4,hG,nd,hl,hn=>by
  rw[aaw]at hl hn;have k:=hG q aab;have c:q.1 ∉ us.map (·.1):=λh=>(aaD.mp nd).2.2 q.1 h q.1 (by rw[aam];exact aab) rfl;obtain⟨a,g,e⟩:=mF (n:=n) (f:=f) (p:=p) (bg:=bg) (x5:=x5) (gap:=gap) (wtF:=wtF) m wt (us++[(q.1,(gaps.length:Int))]) (addN ns (nu f q.1)) (JG q.1) (JG q.2) (λz l=>hG z (aah _ l)) (by rw[aau,aad];exact nd) (by rw[aak,aaB];omega) (by unfold addN;split;omega;rw[aak,aaB];omega);refine⟨a,g,bs (x:=(.nx,[some (gO f p (Il gaps) x5 bg (gD (us++[(q.1,(gaps.length:Int))])) wtF),some gap,some (Il (addN ns (nu f q.1))),JG q.1,JG q.2])) (bs (x:=[some (gO f p (Il gaps) x5 bg (gD us) wtF),some gap,some (Il ns),JG q.1,JG q.2]) rfl ?_) ?_⟩
  ·refine ab (vH (ρ3:=[some (gO f p (Il gaps) x5 bg (gD (us++[(q.1,(gaps.length:Int))])) wtF),some gap,some (Il ns),JG q.1,JG q.2]) (FR kT (aA _) vU) rfl vT rfl rfl rfl (by rw[aaa];omega) (putK_new c) rfl) ?_;have i:bj (JQ n) ea9 [some (gO f p (Il gaps) x5 bg (gD (us++[(q.1,(gaps.length:Int))])) wtF),some gap,some (Il ns),JG q.1,JG q.2]=some (!decide (nu f q.1∈ns),[some (gO f p (Il gaps) x5 bg (gD (us++[(q.1,(gaps.length:Int))])) wtF),some gap,some (Il ns),JG q.1,JG q.2]):=aN (aC (vV rfl k) rfl rfl (aA _) ninL);by_cases h:nu f q.1∈ns
   ·rw[Dac h]at i;unfold addN;rw[if_pos h];exact ab (aI i rfl) rfl
   ·rw[Dab h]at i;unfold addN;rw[if_neg h];exact ab (aO i (ab (cZ (xs:=ns.map It) rfl (vV rfl k) rfl rfl (by rw[aaa];omega) (by rw[bR];rfl)) rfl)) rfl
  ·rw[aad]at e;exact e
def cA{a b:Type}{f:a->b}{l:List a}{x:a}:(l++[x]).map f=l.map f++[f x]:=by rw[aau];rfl
def y6{l:List OD}{x:OD}:(OD.lst (l++[x])).at [l.length]=some x:=by
 have e:(OD.lst (l++[x])).kids[l.length]?=some x:=by show (l++[x])[l.length]?=some x;rw[aaS]
 simp only[OD.at,e]
def mG{l:List OD}{x y:OD}:OD.put y [l.length] (.lst (l++[x]))=.lst (l++[y]):=by
 have e:(OD.lst (l++[x])).kids[l.length]?=some x:=by show (l++[x])[l.length]?=some x;rw[aaS]
 simp only[OD.put,e,OD.dv];rw[List.set_append_right _ _ (aag _),abw];rfl
def iZ(f:Cf)(g:G)(k:Nat):G:=
 ⟨fw f.rows k g.pl+2*(g.wt.foldl (λa q=>addN a (nu f q.1)) []).length,g.gaps++[(k:Int)],g.words++[g.wt.foldl (λa q=>addN a (nu f q.1)) []],fw f.rows k g.pl,g.us++g.wt.map λq=>(q.1,(g.gaps.length:Int)),[]⟩
theorem F0{n:Nat}{f:Cf}{g:G}{k:Nat}(hk:k<=f.rows.length)(i:∀q∈g.wt,Gt f q.1)(j:(g.us.map (·.1)++g.wt.map (·.1)).Nodup)(o:g.us.length+g.wt.length<1000)(l:g.gaps.length<1000)(m:g.words.length<1000):
  pl.pg.call (n+4) 11 [GO f g,It k]=some (.fz .none,[GO f (iZ f g k),It k]):=by
 unfold iZ;obtain⟨b,c,e⟩:=mF (n:=n+3) (f:=f) (p:=g.pl) (bg:=g.bg) (gaps:=g.gaps) (x5:=.lst (g.words.map Il)) (gap:=It k) (wtF:=wF g.wt) (by omega) g.wt g.us [] none none i j (by omega) (by rw[aaG];omega);generalize hns:g.wt.foldl (λa q=>addN a (nu f q.1)) []=a at e ⊢;generalize hus:(g.us++g.wt.map λq=>(q.1,(g.gaps.length:Int)))=us at e ⊢;have h:=kW (n:=n) (rs:=f.rows) (k:=k) (p:=g.pl) hk;generalize fw f.rows k g.pl=v at h ⊢;refine c8 (fn:=F_Going_lay) (ρ:=[some (GO f ⟨v+2*a.length,g.gaps++[(k:Int)],g.words++[a],v,us,[]⟩),JG k,none,b,c]) rfl rfl ?_ rfl;refine ab (aq (ρ3:=[some (GO f g),JG k,some (Il []),none,none]) rfl rfl rfl rfl) ?_;refine ab (bF (bo (ds:=g.wt.map Wq) (ρ2:=[some (gO f g.pl (Il g.gaps) (.lst (g.words.map Il)) g.bg (gD g.us) (wF g.wt)),JG k,some (Il []),none,none]) (yN cV (ox _) rfl) rfl rfl) e) ?_;refine ab (kL (ρ1:=[some (gO f g.pl (Il (g.gaps++[(k:Int)])) (.lst (g.words.map Il)) g.bg (gD us) (wF g.wt)),JG k,some (Il a),b,c]) (d:=.int k) kT rfl rfl (by rw[aaa];omega) (by rw[bR];rfl)) ?_;refine bs dn (sd (xs:=g.words.map Il) (y:=Il a) rfl (by rw[aaa];omega) (by decide) rfl λu=>⟨[some (gO f (v+2*a.length) (Il (g.gaps++[(k:Int)])) (.lst (g.words.map Il++[.hole u])) v (gD us) (.lst [])),JG k,some (Il a),b,c],?_,?_⟩)
 ·refine ab (bZ (ρ3:=[some (gO f g.pl (Il (g.gaps++[(k:Int)])) (.lst (g.words.map Il++[.hole u])) v (gD us) (wF g.wt)),JG k,some (Il a),b,c]) (ae (ρ3:=[some (gO f g.pl (Il (g.gaps++[(k:Int)])) (.lst (g.words.map Il++[.hole u])) g.bg (gD us) (wF g.wt)),JG k,some (Il a),b,c]) (aa (cg dX rfl) (aa rfl (aa (cg dm rfl) ah))) rfl h rfl) rfl rfl rfl yZ rfl) ?_;refine ab (bZ (z:=It (v+2*a.length)) (ρ3:=[some (gO f (v+2*a.length) (Il (g.gaps++[(k:Int)])) (.lst (g.words.map Il++[.hole u])) v (gD us) (wF g.wt)),JG k,some (Il a),b,c]) (ag (cg kU rfl) (ag (dx:=.int 2) (dy:=.int a.length) rfl (aV rfl (iD (aA _)) blen) rfl rfl (eY (.inl (by decide)))) rfl rfl rfl) rfl rfl rfl f_place rfl) ?_;exact ab (bZ (ρ3:=[some (gO f (v+2*a.length) (Il (g.gaps++[(k:Int)])) (.lst (g.words.map Il++[.hole u])) v (gD us) (.lst [])),JG k,some (Il a),b,c]) rfl rfl rfl rfl sA rfl) rfl
 ·refine⟨_,Il a,rfl,?_,rfl,by decide,?_⟩
  ·exact y6
  ·show _=[some (gO f (v+2*a.length) (Il (g.gaps++[(k:Int)])) (OD.put (Il a) [(g.words.map Il).length] (.lst (g.words.map Il++[.hole u]))) v (gD us) (.lst [])),JG k,none,b,c];rw[mG,<-cA];rfl
def vW:ixN (n+1) (-1)=some n:=by unfold ixN;rw[if_neg (by decide),if_pos (by omega)];congr 1;omega
def oy:ak (some (gO f p x4 (.lst (l++[y])) b x7 x8)::ρ) 0 [.ix (-1),.fld ac hF]=some (gO f p x4 (.lst (l++[y])) b x7 x8,[5,l.length],y):=
 bs dn (bs (by show ixN (l++[y]).length (-1)=_;rw[aak];exact vW) (bs (by show (l++[y])[l.length]?=_;rw[aaS]) rfl))
theorem qh:∀ws:List (List Int),OD.ay (ws.map Il)=some (ws.map λw=>.list (w.map PyData.int))
 |[]=>rfl
 |w::ws=>by rw[aam,OD.ay,aA,qh ws];rfl
def i5(ws:List (List Int)):(OD.lst (ws.map Il)).dat=some (.list (ws.map λw=>.list (w.map PyData.int))):=by rw[OD.dat,qh]
def vX(h:g.words=[]):pl.pg.call (n+1) 12 [GO f g,It x]=some (.fz (.bool false),[GO f g,It x]):=by have a:bj (JQ n) ecj [some (GO f g),JG x]=some (!(!g.words.isEmpty),[some (GO f g),JG x]):=cI (jN dn (i5 _) tru_l);rw[h]at a;exact af rfl rfl (az (aO (jM a) (az rfl))) rfl
def qi(h:g.words=ws++[w]):pl.pg.call (n+1) 12 [GO f g,It x]=some (.fz (.bool (decide (x∈w/\g.pl-g.bg<=f.r0))),[GO f g,It x]):=by
 have c:bj (JQ n) ecj [some (GO f g),JG x]=some (!(!g.words.isEmpty),[some (GO f g),JG x]):=cI (jN dn (i5 _) tru_l);have d:(!(!g.words.isEmpty))=false:=by rw[h];cases ws<;>rfl
 rw[d]at c;have a:bj (JQ n) ebt [some (GO f g),JG x]=some (!decide (x∈w),[some (GO f g),JG x]):=by rw[GO,h,cA];exact n8 rfl rfl oy (aA w) ninL
 by_cases b:x∈w
 ·rw[Dac b]at a;have e:decide (x∈w/\g.pl-g.bg<=f.r0)=decide (g.pl-g.bg<=f.r0):=by rw[decide_eq_decide];exact⟨λz=>z.2,λz=>⟨b,z⟩⟩
  rw[e];exact af rfl rfl (ab (aI (cz c a) rfl) (az (ao (aC (ag (cg dm rfl) (cg kU rfl) rfl rfl rfl) (aM (cg kS rfl) rfl rfl rfl) rfl rfl rfl) rfl))) rfl
 ·rw[Dab b]at a;rw[Dab (λz=>b z.1)];exact af rfl rfl (az (aO (cz c a) (az rfl))) rfl
def CZ(h:g.words=[]):pl.pg.call (n+1) 13 [GO f g,It x]=some (.fz (.bool false),[GO f g,It x]):=by have a:bj (JQ n) ecj [some (GO f g),JG x]=some (!(!g.words.isEmpty),[some (GO f g),JG x]):=cI (jN dn (i5 _) tru_l);rw[h]at a;exact af rfl rfl (az (aO (jM a) (az rfl))) rfl
theorem Ad(h:g.words=ws++[w]):pl.pg.call (n+1) 13 [GO f g,It x]=some (.fz (.bool (decide (g.wt=[]/\x ∉ w/\g.pl+2-g.bg<=f.r0))),[GO f g,It x]):=by
 have c:bj (JQ n) ecj [some (GO f g),JG x]=some (!(!g.words.isEmpty),[some (GO f g),JG x]):=cI (jN dn (i5 _) tru_l);have j:(!(!g.words.isEmpty))=false:=by rw[h];cases ws<;>rfl
 rw[j]at c;have a:bj (JQ n) (.pt 0 [.fld ac hY]) [some (GO f g),JG x]=some (!g.wt.isEmpty,[some (GO f g),JG x]):=jN cV (ox _) tru_l;have d:bj (JQ n) ebr [some (GO f g),JG x]=some (decide (x∈w),[some (GO f g),JG x]):=by rw[GO,h,cA];exact n8 rfl rfl oy (aA w) inL
 cases b:g.wt with
 |cons q k=>rw[b]at a;rw[Dab (λz=>List.cons_ne_nil _ _ z.1)];exact af rfl rfl (az (aO (cz c (jM a)) (az rfl))) rfl
 |nil=>
  rw[b]at a;by_cases i:x∈w
  ·rw[Dac i]at d;rw[Dab (λz=>z.2.1 i)];exact af rfl rfl (az (aO (cz c (cz a d)) (az rfl))) rfl
  ·rw[Dab i]at d;have e:decide (([]:List (Int×Int))=[]/\x ∉ w/\g.pl+2-g.bg<=f.r0)=decide (g.pl+2-g.bg<=f.r0):=by rw[decide_eq_decide];exact⟨λz=>z.2.2,λz=>⟨rfl,i,z⟩⟩
   rw[e];exact af rfl rfl (ab (aI (cz c (cz a d)) rfl) (az (ao (aC (ag (ag (cg dm rfl) rfl rfl rfl rfl) (cg kU rfl) rfl rfl rfl) (aM (cg kS rfl) rfl rfl rfl) rfl rfl rfl) rfl))) rfl
def vY(h:pl.pg.call (n+1) 13 [GO f g,It x]=some (.fz (.bool k),[GO f g,It x])):bj (JQ (n+1)) eb1 [some (GO f g),some o,JG x]=some (k,[some (GO f g),some o,JG x]):=n5 (fh rfl (by decide +kernel) rfl rfl h rfl)
def vZ(h:pl.pg.call (n+1) 12 [GO f g,It x]=some (.fz (.bool k),[GO f g,It x])):bj (JQ (n+1)) eb5 [some (GO f g),some o,JG x]=some (k,[some (GO f g),some o,JG x]):=n5 (fh rfl (by decide +kernel) rfl rfl h rfl)
inductive Come (f:Cf)(g:G)(a:Int):G->Prop
 |put {ws:List (List Int)}{w:List Int} (h:g.words=ws++[w]) (hw:g.wt=[]) (hn:nu f a ∉ w) (hr:g.pl+2-g.bg<=f.r0):Come f g a ⟨g.pl+2,g.gaps,ws++[w++[nu f a]],g.bg,g.us++[(a,(g.gaps.length:Int)-1)],g.wt⟩
 |got {ws:List (List Int)}{w:List Int} (h:g.words=ws++[w]) (hn:nu f a∈w) (hr:g.pl-g.bg<=f.r0):Come f g a ⟨g.pl,g.gaps,g.words,g.bg,g.us++[(a,(g.gaps.length:Int)-1)],g.wt⟩
 |wait (h:∀ws w,g.words=ws++[w]->g.wt=[]->(nu f a∈w/\f.r0<g.pl-g.bg)\/(nu f a ∉ w/\f.r0<g.pl+2-g.bg)):Come f g a ⟨g.pl,g.gaps,g.words,g.bg,g.us,g.wt++[(a,g.pl)]⟩
def mH(fresh:a ∉ g.us.map (·.1))(b:g.us.length<1000):aG (JQ (n+1)) ea0 [some (GO f g),JG a,JG x]=some (.nx,[some (GO f ⟨g.pl,g.gaps,g.words,g.bg,g.us++[(a,(g.gaps.length:Int)-1)],g.wt⟩),JG a,JG x]):=
 ab (vH (ag (FR kT (aA _) vU) rfl rfl rfl rfl) rfl vT rfl rfl rfl (by rw[aaa];omega) (putK_new fresh) rfl) rfl
def y7:Wl (wt++[q])=.lst ((wt.map Wq).map OD.fz++[.fz (Wq q)]):=by rw[Wl,cA,cA]
def jT(b:g.wt.length<1000):aG (JQ (n+1)) ear [some (GO f g),JG a,JG x]=some (.nx,[some (GO f ⟨g.pl,g.gaps,g.words,g.bg,g.us,g.wt++[(a,g.pl)]⟩),JG a,JG x]):=
 ab (kL cV (bs (bs rfl (bs (bs (bs dm rfl) rfl) rfl)) rfl) rfl (by rw[aaa,aaa];omega) (by show _=[some (gO f g.pl (Il g.gaps) (.lst (g.words.map Il)) g.bg (gD g.us) (Wl (g.wt++[(a,g.pl)]))),JG a,JG x];rw[y7];rfl)) rfl
theorem C0(t:Gt f a)(fresh:a ∉ g.us.map (·.1))(r:g.us.length<1000)(q:g.wt.length<1000)(p:∀w∈g.words,w.length<1000):∃g',pl.pg.call (n+2) 14 [GO f g,It a]=some (.fz .none,[GO f g',It a])/\Come f g a g':=by
 have l:cE (JQ (n+1)) ebg [some (GO f g),JG a,none]=some (.nx,[some (GO f g),JG a,JG (nu f a)]):=aq (vV rfl t) rfl rfl rfl;rcases abn g.words with h|⟨i,w,h⟩
 ·exact⟨_,c8 rfl rfl (ab l (ab (aI (vY (CZ h)) rfl) (ab (aI (vZ (vX h)) (jT q)) rfl))) rfl,.wait λi w z=>absurd (h.symm.trans z) (by simp)⟩
 ·rw[abo]at h;by_cases b:g.wt=[]/\nu f a ∉ w/\g.pl+2-g.bg<=f.r0
  ·have d:=vY (o:=It a) (Ad (n:=n) (f:=f) (x:=nu f a) h);rw[Dac b]at d;have v:aG (JQ (n+1)) eaw [some (GO f g),JG a,JG (nu f a)]=some (.nx,[some (GO f ⟨g.pl+2,g.gaps,i++[w++[nu f a]],g.bg,g.us,g.wt⟩),JG a,JG (nu f a)]):=by
    have s:w.length<1000:=p w (by rw[h];exact aae _ aab);rw[GO,h,cA];refine ab (kL (ρ1:=[some (gO f g.pl (Il g.gaps) (.lst (i.map Il++[Il (w++[nu f a])])) g.bg (gD g.us) (Wl g.wt)),JG a,JG (nu f a)]) oy rfl rfl (by rw[aaa];omega) ?_) (ab (vI dm rfl rfl rfl rfl rfl rfl f_place ?_) rfl)
    ·show [some (gO f g.pl (Il g.gaps) (OD.put (.lst (w.map It++[It (nu f a)])) [(i.map Il).length] (.lst (i.map Il++[Il w]))) g.bg (gD g.us) (Wl g.wt)),JG a,JG (nu f a)]=_;rw[mG,bR]
    ·rw[GO,cA];rfl
   have c:=vZ (o:=It a) (qi (n:=n) (f:=f) (x:=nu f a) (g:=⟨g.pl+2,g.gaps,i++[w++[nu f a]],g.bg,g.us,g.wt⟩) rfl);rw[Dac ⟨aae _ aab,b.2.2⟩]at c;exact⟨_,c8 rfl rfl (ab l (ab (aO d v) (ab (aO c (mH fresh r)) rfl))) rfl,.put h b.1 b.2.1 b.2.2⟩
  ·have d:=vY (o:=It a) (Ad (n:=n) (f:=f) (x:=nu f a) h);rw[Dab b]at d;have c:=vZ (o:=It a) (qi (n:=n) (f:=f) (x:=nu f a) h);by_cases j:nu f a∈w/\g.pl-g.bg<=f.r0
   ·rw[Dac j]at c;exact⟨_,c8 (fn:=c9) rfl rfl (ab l (ab (aI d rfl) (ab (aO c (mH fresh r)) rfl))) rfl,.got h j.1 j.2⟩
   ·rw[Dab j]at c;refine⟨_,c8 (fn:=c9) rfl rfl (ab l (ab (aI d rfl) (ab (aI c (jT q)) rfl))) rfl,.wait λu y z m=>?_⟩;obtain⟨rfl,e⟩:=abx (h.symm.trans z) rfl;obtain rfl:=(abM e).1;by_cases k:nu f a∈w
    ·exact .inl ⟨k,Int.not_le.mp λz=>j ⟨k,z⟩⟩
    ·exact .inr ⟨k,Int.not_le.mp λz=>b ⟨m,k,z⟩⟩
def gIx:Int->List R->List Int
 |_,[]=>[]
 |i,r::rs=>if r.gr=true then i::gIx (i+1) rs else gIx (i+1) rs
theorem qj:∀{a b:List R}{i:Int},gIx i (a++b)=gIx i a++gIx (i+a.length) b
 |[],b,i=>by simp[gIx]
 |r::a,b,i=>by
  have e:i+1+(a.length:Int)=i+((r::a).length:Nat):=by rw[aaw];omega
  rw[aaP,gIx,gIx,qj ,e];split<;>rfl
theorem cG:∀{rs:List R}{i a:Int},a∈gIx i rs->∃(j:Nat) (r:R),a=i+j/\rs[j]?=some r/\r.gr=true
 |[],i,a,h=>absurd h aan
 |r::rs,i,a,h=>by
  rw[gIx]at h;by_cases b:r.gr=true
  ·rw[if_pos b]at h;rcases aac.mp h with rfl|h
   ·exact⟨0,r,by simp,rfl,b⟩
   ·obtain⟨j,q,e,d,c⟩:=cG h;exact⟨j+1,q,by rw[e];omega,d,c⟩
  ·rw[if_neg b]at h;obtain⟨j,q,e,d,c⟩:=cG h;exact⟨j+1,q,by rw[e];omega,d,c⟩
theorem eK:∀{rs:List R}{i:Int},(gIx i rs).Nodup
 |[],i=>abc
 |r::rs,i=>by
  rw[gIx];split
  ·refine aaA.mpr ⟨λh=>?_,eK⟩;obtain⟨j,q,e,_⟩:=cG h;omega
  ·exact eK
def gr_st{r:R}(h:r.gr=true):∃x k,r=.st x k:=by
 cases r with
 |st x k=>exact⟨x,k,rfl⟩
 |ot w b a=>cases h
def kX(h:a∈gIx 0 (f.rows.take k)):Gt f a:=by
 obtain⟨j,r,e,b,c⟩:=cG h;obtain⟨x,y,rfl⟩:=gr_st c;refine⟨j,x,y,by omega,?_⟩;rw[acv]at b;split at b
 ·exact b
 ·cases b
theorem cj:∀{rs:List R}{i:Int},(gIx i rs).length=(rs.filter R.gr).length
 |[],i=>rfl
 |r::rs,i=>by
  rw[gIx];by_cases a:r.gr=true
  ·rw[if_pos a,ac2 a,aaw,aaw,cj]
  ·rw[if_neg a,acC a,cj]
def i6:(addN ns x).length<=ns.length+1:=by
 unfold addN;split
 ·omega
 ·rw[aak,aaB];exact aag _
def take_one{f:Cf}(h:f.rows[k]?=some r):f.rows.take (k+1)=f.rows.take k++[r]:=by rw[List.take_succ,h];rfl
def kY{f:Cf}(h:f.rows[k]?=some r):gIx 0 (f.rows.take (k+1))=gIx 0 (f.rows.take k)++if r.gr=true then [(k:Int)] else []:=by have a:=(aaj.mp h).1;rw[take_one h,qj,abz,Nat.min_eq_left (by omega),gIx,gIx,acD]
theorem mI:∀{wt:List (Int×Int)}{ns:List Int},(wt.foldl (λns q=>addN ns (nu f q.1)) ns).length<=ns.length+wt.length
 |[],ns=>aag _
 |q::wt,ns=>by have b:=mI (f:=f) (wt:=wt) (ns:=addN ns (nu f q.1));have a:=i6 (ns:=ns) (x:=nu f q.1);rw[aa6,aaw];omega
structure Iv (f:Cf)(g:G)(k m:Nat):Prop where
 ix:g.us.map (·.1)++g.wt.map (·.1)=gIx 0 (f.rows.take k)
 wl:g.words.length=g.gaps.length
 gl:g.gaps.length<=m
 wn:∀w∈g.words,w.length<=g.us.length
 far:g.wt≠[]->g.words≠[]->f.r0<g.pl-g.bg
def Iv.start:Iv f ⟨0,[],[],0,[],[]⟩ 0 0:=⟨rfl,rfl,aag _,λw h=>absurd h aan,λh=>absurd rfl h⟩
def Iv.lay(I:Iv f g k m):Iv f (iZ f g k) k (m+1):=by
 refine⟨?_,?_,?_,λw a=>?_,λh=>absurd rfl h⟩
 ·show (g.us++_).map (·.1)++[]=_;rw[aaq,aau,aaX,<-I.ix];rfl
 ·show (g.words++[_]).length=(g.gaps++[_]).length;rw[aak,aak,I.wl];rfl
 ·show (g.gaps++[_]).length<=m+1;rw[aak,aaB];exact Nat.succ_le_succ I.gl
 ·show w.length<=(g.us++g.wt.map _).length;rw[aak,aaa];rcases aai.mp a with h|h
  ·exact aav (I.wn w h) (abi _ _)
  ·rw[aao.mp h];have:=mI (f:=f) (wt:=g.wt) (ns:=[]);rw[aaG,aa2]at this;exact aav this (Nat.le_add_left _ _)
theorem Iv.come(I:Iv f g k m)(l:f.rows[k]?=some r)(o:r.gr=true)(h:Come f g k g'):Iv f ⟨g'.pl+2,g'.gaps,g'.words,g'.bg,g'.us,g'.wt⟩ (k+1) m:=by
 have p:∀j:Int,g.wt=[]->(g.us++[((k:Int),j)]).map (·.1)++g.wt.map (·.1)=gIx 0 (f.rows.take (k+1)):=λj a=>by have q:=I.ix;rw[kY l,if_pos o,<-q,a,aaC,aaq,aaq,aau];rfl
 have i:∀j:Int,(g.us++[((k:Int),j)]).length=g.us.length+1:=λj=>by rw[aak];rfl
 cases h with
 |@put c w h a hn=>
  have n:=I.wl;rw[h,aak]at n;refine⟨p _ a,?_,I.gl,λv d=>?_,λz=>absurd a z⟩
  ·show (c++[_]).length=_;rw[aak];exact n
  ·show v.length<=(g.us++[_]).length;rw[i];rcases aai.mp d with z|z
   ·exact Nat.le_succ_of_le (I.wn v (by rw[h];exact aaf _ z))
   ·rw[aao.mp z,aak,aaB];exact Nat.succ_le_succ (I.wn w (by rw[h];exact aae _ aab))
 |@got c w h hn h0=>
  have a:g.wt=[]:=by
   by_cases a:g.wt=[]
   ·exact a
   ·have:=I.far a (by rw[h];simp);omega
  exact⟨p _ a,I.wl,I.gl,λv d=>by show _<=(g.us++[_]).length;rw[i];exact Nat.le_succ_of_le (I.wn v d),λz=>absurd a z⟩
 |wait h=>
  refine⟨?_,I.wl,I.gl,I.wn,λ_ a=>?_⟩
  ·show g.us.map (·.1)++(g.wt++[_]).map (λu:Int×Int=>u.1)=_;rw[kY l,if_pos o,aau,<-aad,I.ix];rfl
  ·show f.r0<g.pl+2-g.bg;by_cases b:g.wt=[]
   ·rcases abn g.words with e|⟨c,w,e⟩
    ·exact absurd e a
    ·rw[abo]at e;rcases h c w e b with z|z<;>omega
   ·have:=I.far b a;omega
def Iv.skip(I:Iv f g k m)(b:f.rows[k]?=some r)(a:r.gr=false)(hs:1<=s):Iv f ⟨g.pl+s,g.gaps,g.words,g.bg,g.us,g.wt⟩ (k+1) m:=
 ⟨by rw[kY b,a,if_neg aal,aaq];exact I.ix,I.wl,I.gl,I.wn,λh c=>by have:=I.far h c;show f.r0<g.pl+s-g.bg;omega⟩
def Iv.more(I:Iv f g k m)(h:m<=m'):Iv f g k m':=⟨I.ix,I.wl,aav I.gl h,I.wn,I.far⟩
def Iv.len(I:Iv f g k m):g.us.length+g.wt.length<=k:=by have:=congrArg List.length I.ix;rw[aak,aaa,aaa,cj]at this;rw[this];exact aav (ab8 _ _) (by rw[abz];exact Nat.min_le_left _ _)
theorem Iv.wj(I:Iv f g k m):∀w∈g.words,w.length<=k:=λw a=>aav (I.wn w a) (aav (abi _ _) I.len)
def Iv.nodup(I:Iv f g k m):(g.us.map (·.1)++g.wt.map (·.1)).Nodup:=by rw[I.ix];exact eK
def Iv.gt(I:Iv f g k m):∀q∈g.wt,Gt f q.1:=λq a=>kX (by rw[<-I.ix];exact aae _ (aas.mpr ⟨q,a,rfl⟩))
def laysG(f:Cf)(g:G)(k:Nat):G:=if due f g k=true then iZ f g k else g
def m_lays(I:Iv f g k k)(hk:k<=f.rows.length)(i:f.rows.length<=200):cE (JQ (n+4)) ean [some (GO f g),JG k]=some (.nx,[some (GO f (laysG f g k)),JG k])/\Iv f (laysG f g k) k (k+1):=by
 have c:=FZ (n:=n) (g:=g) hk;unfold laysG;generalize due f g k=b at c ⊢;have a:bj (JQ (n+4)) IP [some (GO f g),JG k]=some (b,[some (GO f g),JG k]):=n5 (fh rfl (by decide +kernel) rfl rfl c rfl);cases b with
 |false=>exact⟨aI a rfl,I.more (abr _)⟩
 |true=>have j:=I.len;have h:=I.gl;have d:=I.wl;have e:=F0 (n:=n) hk I.gt I.nodup (by omega) (by omega) (by omega);exact⟨aO a (ab (vJ (fh rfl (by decide +kernel) rfl rfl e rfl)) rfl),I.lay⟩
structure Cross (f:Cf)(g:G)(k:Nat)(g2:G):Prop where
 gr:(f.rows[k]?).elim false R.gr=true->Come f (laysG f g k) k g2
 no:(f.rows[k]?).elim false R.gr=false->g2=laysG f g k
abbrev jt(g:G)(s:Int):G:=⟨g.pl+s,g.gaps,g.words,g.bg,g.us,g.wt⟩
def sz_gr(a:f.rows[k]?=some r)(b:r.gr=true):sz f k=2:=by unfold sz;rw[a];exact if_pos (.inl b)
def oz:1<=sz f k:=by unfold sz;split<;>decide
theorem qk(I:Iv f g k k)(hk:k<=f.rows.length)(D:f.rows.length<=200):(k<f.rows.length->∃g2,pl.pg.call (n+5) 15 [GO f g,It k]=some (.fz .none,[GO f (jt g2 (sz f k)),It k])/\Cross f g k g2/\Iv f (jt g2 (sz f k)) (k+1) (k+1))/\(k=f.rows.length->pl.pg.call (n+5) 15 [GO f g,It k]=some (.fz .none,[GO f (laysG f g k),It k])/\Iv f (laysG f g k) k (k+1)):=by
 obtain⟨s,i⟩:=m_lays I hk D;generalize hg1:laysG f g k=g1 at s i ⊢;have d:ev (JQ (n+4)) ebq [some (GO f g1),JG k]=some (.val (It f.rows.length),[some (GO f g1),JG k]):=aV (aa (cg dX rfl) ah) rfl blen;by_cases p:k<f.rows.length
 ·have l:=aap p;refine⟨λ_=>?_,λe=>absurd e (by omega)⟩;have H:=ou (n:=n+2) l;have m:(f.rows[k]?).elim false R.gr=(f.rows[k]).gr:=by rw[l];rfl
  have q:=aN (aC (ρ:=[some (GO f g1),JG k]) (a:=.nm 1) (o:=.lt) rfl d rfl rfl (show some (decide ((k:Int)<f.rows.length))=some true by rw[Dac (by omega)]));have t:bj (JQ (n+4)) ebh [some (GO f g1),JG k]=some ((f.rows[k]).gr,[some (GO f g1),JG k]):=aW (ae (aa (aM (cg dX rfl) rfl rfl (bp (eZ l))) ah) rfl (CV _) rfl);have b:∀g2:G,cE (JQ (n+4)) eak [some (GO f g2),JG k]=some (.nx,[some (GO f (jt g2 (sz f k))),JG k]):=λg2=>vI dm rfl (ae (aa (cg dX rfl) (aa (cg qg rfl) (aa rfl ah))) rfl H rfl) rfl rfl rfl rfl f_place rfl;cases c:(f.rows[k]).gr with
  |false=>rw[c]at t;exact⟨_,c8 rfl rfl (ab s (ab (aO q (ab (aI t rfl) (ab (b g1) rfl))) rfl)) rfl,⟨λz=>absurd (c.symm.trans (m.symm.trans z)) aal,λ_=>hg1.symm⟩,i.skip l c oz⟩
  |true=>
   rw[c]at t;obtain⟨x,y,u⟩:=gr_st c;have J:=i.len;obtain⟨g2,C,v⟩:=C0 ⟨k,x,y,rfl,by rw[l,u]⟩ (λA=>by
    have:=cG (by rw[<-i.ix];exact aaf _ A);obtain⟨j,r,e,F,_⟩:=this;have:=(aaj.mp F).1;rw[abz]at this;omega) (by omega) (by omega) (λw B=>by have:=i.wj w B;omega)
   exact⟨_,c8 rfl rfl (ab s (ab (aO q (ab (aO t (ab (vJ (fh rfl (by decide +kernel) rfl rfl C rfl)) rfl)) (ab (b g2) rfl))) rfl)) rfl,⟨λ_=>by rw[hg1];exact v,λz=>absurd (c.symm.trans (m.symm.trans z)).symm aal⟩,by rw[sz_gr l c];exact i.come l c v⟩
 ·have q:=aN (aC (ρ:=[some (GO f g1),JG k]) (a:=.nm 1) (o:=.lt) rfl d rfl rfl (show some (decide ((k:Int)<f.rows.length))=some false by rw[Dab (by omega)]));exact⟨λh=>absurd h p,λ_=>⟨c8 rfl rfl (ab s (ab (aI q rfl) rfl)) rfl,i⟩⟩
def enF:Int->List R->List PyData
 |_,[]=>[]
 |i,r::rs=>.tuple [.int i,r.d]::enF (i+1) rs
theorem qm:∀{rs:List R}{i:Int}{j:Nat},(enF i rs)[j]?=(rs[j]?).map λr=>.tuple [.int (i+j),r.d]
 |[],_,_=>by simp[enF]
 |r::rs,i,0=>by simp[enF]
 |r::rs,i,j+1=>by
  rw[enF,ac4,ac4,qm];congr 1;funext r;have e:i+1+(j:Int)=i+((j+1:Nat):Int):=by omega
  rw[e]
def qo(rs:List R):cN (rs.map R.d)=enF 0 rs:=by
 refine abX λj=>?_;rw[qm,acD];unfold cN;rw[aat,aaa];by_cases a:j<rs.length
 ·rw[List.getElem?_range a,aap a];simp[abu,aat,aap a]
 ·rw[ab0 (by simpa using a),ab0 (by omega)];rfl
theorem gW{C:Ct}{z:E}(c:∀(i:Int) (r:R),bj C z [JG i,JI r]=some (r.gr,[JG i,JI r])):∀{rs:List R}{i:Int}{out:List PyData}{o0 o1:Option OD},∃a,aT (be C (.tp [0,1]) (.some z) (.nm 0)) (enF i rs) out [o0,o1]=some (out++(gIx i rs).map PyData.int,a)
 |[],i,out,o0,o1=>⟨[o0,o1],by rw[gIx,aaC,aaq];rfl⟩
 |r::rs,i,out,o0,o1=>by
  have b:=c i r;rw[gIx];cases d:r.gr with
  |false=>rw[d]at b;obtain⟨a,e⟩:=gW c (rs:=rs) (i:=i+1) (out:=out++[]) (o0:=JG i) (o1:=JI r);refine⟨a,bs (x:=([],[JG i,JI r])) (yQ rfl b) ?_⟩;rw[if_neg aal,e,aaq]
  |true=>rw[d]at b;obtain⟨a,e⟩:=gW c (rs:=rs) (i:=i+1) (out:=out++[.int i]) (o0:=JG i) (o1:=JI r);refine⟨a,bs (x:=([.int i],[JG i,JI r])) (yP rfl b rfl rfl) ?_⟩;rw[if_pos rfl,e,aad];rfl
def dY{n:Nat}{rs:List R}(b:rs.length<=1000):pl.pg.call (n+2) 1 [Rl rs]=some (Il (gIx 0 rs),[Rl rs]):=by obtain⟨a,e⟩:=gW (C:=JQ (n+1)) (z:=.call 0 edk) (λi r=>aW (ae (ρ3:=[JG i,JI r]) rfl rfl (CV r) rfl)) (rs:=rs) (i:=0) (out:=[]) (o0:=none) (o1:=none);rw[aa5,<-qo]at e;refine af (fn:=gG) (ρ:=[JJ rs]) rfl rfl (az (ao (z:=Il (gIx 0 rs)) (b7 (ρ2:=[JJ rs]) (oh rfl rfl) (by rw[cO,aaa];omega) rfl e bL) (by rw[iW];rfl))) rfl
abbrev Po(q:Int×List Int):PyData:=.tuple [.int q.1,.tuple (q.2.map PyData.int)]
abbrev Pn(ps:List (Int×List Int))(us:List Int):OD:=.tup [.fz (.list (ps.map Po)),Il us]
theorem i7:∀{gs:List Int}{ws:List (List Int)}{out:List PyData}{o0 o1:Option OD},∃a,aT (be C (.tp [0,1]) .none (.tup eb4)) (fZ (gs.map PyData.int) (ws.map λw=>.list (w.map PyData.int))) out [o0,o1]=some (out++(gs.zip ws).map Po,a)
 |[],ws,out,o0,o1=>⟨[o0,o1],by simp only[aaC,List.zip_nil_left,aaq];rfl⟩
 |g::gs,[],out,o0,o1=>⟨[o0,o1],by simp only[aaC,List.zip_nil_right,aaq];rfl⟩
 |g::gs,w::ws,out,o0,o1=>by obtain⟨a,e⟩:=i7;refine⟨a,bs (my rfl (eS (aa rfl (aa (pZ rfl rfl) ah)) rfl rfl rfl) rfl) ?_⟩;rw[aad]at e;exact e
theorem find_key:∀{us:List (Int×Int)}{i:Nat}{u:Int×Int},(us.map (·.1)).Nodup->us[i]?=some u->(us.map λu=>(Sum.inl u.1:Key)).findIdx? (λq=>decide (q=.inl u.1))=some i
 |[],_,_,_,h=>by simp at h
 |v::us,0,u,_,h=>by cases h;rw[aam,aa3];simp
 |v::us,i+1,u,nd,h=>by rw[aam]at nd;obtain⟨c,b⟩:=aaA.mp nd;have h:us[i]?=some u:=h;have a:v.1≠u.1:=λe=>c (by rw[e];exact aas.mpr ⟨u,aaV h,rfl⟩);rw[aam,aa3,find_key b h];have d:decide ((Sum.inl v.1:Key)=.inl u.1)=false:=Dab λe=>a (abN e);rw[d];rfl
theorem comp_uses(d:(us.map (·.1)).Nodup):∀{vs:List (Int×Int)}{i:Nat}{out:List PyData}{o:Option OD},us.drop i=vs->∃a,aT (be C (.nm 0) .none (.pg 1 [.key 0,.fld ac dV])) ((vs.map (·.1)).map PyData.int) out [o,some (gO f p x4 x5 b (gD us) x8)]=some (out++(vs.map (·.2)).map PyData.int,[a,some (gO f p x4 x5 b (gD us) x8)])
 |[],i,out,o,_=>⟨o,by simp only[aaC,aaq];rfl⟩
 |v::vs,i,out,o,h=>by
  have c:us[i]?=some v:=by have:=congrArg (λl=>l[0]?) h;simp only[acs,Nat.add_zero]at this;exact this
  have g:us.drop (i+1)=vs:=by have:=congrArg List.tail h;rw[List.tail_drop]at this;exact this
  obtain⟨a,e⟩:=comp_uses d g;have j:ak [JG v.1,some (gO f p x4 x5 b (gD us) x8)] 1 [.key 0,.fld ac dV]=some (gO f p x4 x5 b (gD us) x8,[7,i],It v.2):=bs rfl (bs (find_key d c) (bs (by show (us.map λu=>It u.2)[i]?=_;rw[aat,c];rfl) rfl));refine⟨a,bs (my rfl (cg j rfl) rfl) ?_⟩;rw[aad]at e;exact e
theorem C1(e:f.rows.length<=1000)(j:g.gaps.length<1000)(k:g.words.length=g.gaps.length)(b:g.us.map (·.1)=gIx 0 f.rows):∃y,pl.pg.call (n+3) 16 [GO f g]=some (Pn (g.gaps.zip g.words) (g.us.map (·.2)),[y]):=by
 obtain⟨ρ1,c⟩:=i7;obtain⟨l,a⟩:=comp_uses (by rw[b];exact eK) (vs:=g.us) (i:=0) rfl;rw[aa5]at c a;rw[b]at a;generalize hO:gO f g.pl (.fz (.list (g.gaps.map PyData.int))) (.fz (.list (g.words.map λw=>.list (w.map PyData.int)))) g.bg (gD g.us) (Wl g.wt)=O at a;have h:(g.us.map (·.1)).length=(gIx 0 f.rows).length:=by rw[b]
 refine⟨O,af rfl rfl (ab (aq (b7 (i_zipQ (ρ2:=[some O,none]) (yN kT (aA _) rfl) (yN dn (i5 _) (by rw[<-hO];rfl)) rfl rfl rfl rfl) ?_ rfl c bL) rfl rfl rfl) (az (ao (eS (rs:=[.rf 1,.val (Il (g.us.map (·.2)))]) (zs:=[.fz (.list ((g.gaps.zip g.words).map Po)),Il (g.us.map (·.2))]) (ρ1:=[some O,some (.lst (((g.gaps.zip g.words).map Po).map OD.fz))]) (ρ2:=[some O,some (.fz (.list ((g.gaps.zip g.words).map Po)))]) (aa rfl (aa ?_ ah)) rfl ?_ rfl) rfl))) rfl⟩
 ·unfold fZ;rw[ac0,aaa];omega
 ·have:=b7 (C:=JQ (n+2)) (nt:=1) (fr:=[0]) (it:=.seq ebw) (bo (ds:=(gIx 0 f.rows).map PyData.int) (ae (ρ3:=[some O,some (.lst (((g.gaps.zip g.words).map Po).map OD.fz))]) (aa (cg (d:=.list (f.rows.map R.d)) (p:=(O,[0],Rl f.rows)) (by rw[<-hO];rfl) rfl) ah) rfl (dY (n:=n) e) rfl) (show frz1 _ (.val (Il (gIx 0 f.rows)))=some (.list ((gIx 0 f.rows).map PyData.int),_) by show ((Il (gIx 0 f.rows)).dat).map _=_;rw[aA];rfl) rfl) (by rw[aaa];rw[cj];have:=ab8 R.gr f.rows;omega) (zc:=([some O],[none,some (.lst (((g.gaps.zip g.words).map Po).map OD.fz))])) (by rw[<-hO];rfl) a rfl;rw[iW]at this;exact this
 ·exact bs (x:=(.fz (.list ((g.gaps.zip g.words).map Po)),[some O,some (.fz (.list ((g.gaps.zip g.words).map Po)))])) (by show (frz1 _ (.rf 1)).map _=_;rw[bu rfl (bO _) rfl];rfl) rfl
def a8:bX lo (n+1)=.int lo::bX (lo+1) n:=by
 unfold bX;rw[List.range_succ_eq_map,aam,aaX];congr 1
 ·simp
 ·refine ab5 λi _=>?_;show PyData.int (lo+((i+1:Nat):Int))=_;congr 1;omega
abbrev pE(f:Cf)(g:G)(o:Option OD):DEnv:=[JJ f.rows,JK f,some (Re f),some (GO f g),o]
inductive Gone (f:Cf):Nat->G->Prop
 |zero:Gone f 0 ⟨0,[],[],0,[],[]⟩
 |step {k:Nat}{g g2:G} (h:Gone f k g) (hk:k<f.rows.length) (I:Iv f g k k) (C:Cross f g k g2):Gone f (k+1) (jt g2 (sz f k))
def y8(h:g.wt≠[]):due f g f.rows.length=true:=by
 unfold due;cases a:g.wt with
 |nil=>exact absurd a h
 |cons q b=>show (decide _||_)=true;rw[Dac rfl];rfl
def mJ:(laysG f g f.rows.length).wt=[]:=by
 unfold laysG;by_cases h:g.wt=[]
 ·split
  ·rfl
  ·exact h
 ·rw[if_pos (y8 h)];rfl
def i8(e:pl.pg.call (n+5) 15 [GO f g,It k]=some (.fz .none,[GO f g',It k])):((aX (.nm 4) (.fz (.int k)) (pE f g o)).bind λρ1=>aG (JQ (n+5)) ebf ρ1)=some (.nx,pE f g' (JG k)):=
 bs rfl (ab (vJ (fh rfl (by decide +kernel) rfl rfl e rfl)) rfl)
theorem i9(b:f.rows.length<=200):∀{m k:Nat}{g:G}{o:Option OD},k+m=f.rows.length->Iv f g k k->Gone f k g->∃g' a,bc (λd i=>(aX (.nm 4) (.fz d) i).bind λρ1=>aG (JQ (n+5)) ebf ρ1) (bX k (m+1)) (pE f g o)=some (.nx,pE f (laysG f g' f.rows.length) a)/\Iv f g' f.rows.length f.rows.length/\Iv f (laysG f g' f.rows.length) f.rows.length (f.rows.length+1)/\Gone f f.rows.length g'
 |0,k,g,o,h,I,W=>by obtain rfl:k=f.rows.length:=h;obtain⟨e,J⟩:=(qk I (aag _) b).2 rfl;refine⟨g,JG f.rows.length,?_,I,J,W⟩;rw[a8];exact bs (i8 e) rfl
 |m+1,k,g,o,h,I,W=>by
  have j:k<f.rows.length:=by omega
  obtain⟨q,e,C,J⟩:=(qk I (aaU j) b).1 j;obtain⟨c,a,l,p⟩:=i9 b (m:=m) (by omega) J (.step W j I C);refine⟨c,a,?_,p⟩;rw[a8];exact bs (i8 e) l
def F1:(JQ (n+5)).mak 9 [.obj ac [] [],Rl f.rows,Lo f,Re f]=some (.fz .none,[GO f ⟨0,[],[],0,[],[]⟩,Rl f.rows,Lo f,Re f]):=by have e:(JQ (n+5)).mak=pl.pg.mak (n+5):=rfl;rw[e,Pg.u5 pl.pg (n+4) 9];exact CW
def qp(h:f.rows.length<=200):∃g:G,pl.pg.call (n+6) 17 [Rl f.rows,Lo f,Re f]=some (Pn (g.gaps.zip g.words) (g.us.map (·.2)),[Rl f.rows,Lo f,Re f])/\∃a,g=laysG f a f.rows.length/\Iv f a f.rows.length f.rows.length/\Iv f g f.rows.length (f.rows.length+1)/\Gone f f.rows.length a:=by
 obtain⟨a,o,e,j,I,W⟩:=i9 h (m:=f.rows.length) (by omega) Iv.start .zero;have b:=mJ (f:=f) (g:=a);generalize hg:laysG f a f.rows.length=g at e I b;have c:g.us.map (·.1)=gIx 0 f.rows:=by have:=I.ix;rw[b,aaC,aaq,abl]at this;exact this
 have i:=I.gl;obtain⟨y,d⟩:=C1 (by omega) (by omega) I.wl c;refine⟨g,af (ρ:=[JJ f.rows,JK f,some (Re f),some y,o]) rfl rfl ?_ rfl,a,hg.symm,j,I,W⟩;refine ab (aq (CP rfl rfl F1 rfl) rfl rfl rfl) ?_;refine ab (bF (c7 (ag (aV rfl rfl blen) rfl rfl rfl rfl) rfl (by omega)) (by rw[show ((f.rows.length:Int)+1).toNat=f.rows.length+1 by omega];exact e)) ?_;exact az (ao (fh rfl (by decide +kernel) rfl rfl d rfl) rfl)
structure Mc where
 ps:List Int
 bs:List Int
 pl:Int
def inn(f:Cf)(k:Nat)(s:Mc)(q:Int×List Int):Mc:=if q.1=(k:Int) then ⟨s.ps,s.bs++[fw f.rows k s.pl],fw f.rows k s.pl+2*q.2.length⟩ else s
def inner(f:Cf)(qs:List (Int×List Int))(k:Nat)(s:Mc):Mc:=qs.foldl (inn f k) s
def jh(f:Cf)(k:Nat)(s:Mc):Mc:=⟨s.ps++[s.pl],s.bs,s.pl+sz f k⟩
def mac(f:Cf)(qs:List (Int×List Int)):Nat->Mc
 |0=>⟨[],[],0⟩
 |k+1=>jh f k (inner f qs k (mac f qs k))
theorem bw{k:Nat}:∀{qs:List (Int×List Int)}{s:Mc},(∀q∈qs,q.1≠(k:Int))->inner f qs k s=s
 |[],s,_=>rfl
 |q::qs,s,h=>by show inner f qs k (inn f k s q)=s;have e:inn f k s q=s:=if_neg (h q aab);rw[e];exact bw λq a=>h q (aah _ a)
def gx:inner f (a++b) k s=inner f b k (inner f a k s):=List.foldl_append
theorem kZ:∀{k:Nat},(∀q∈qs,(k:Int)<=q.1)->mac f (ps++qs) k=mac f ps k
 |0,_=>rfl
 |k+1,h=>by
  have c:∀q∈qs,(k:Int)<=q.1:=λq a=>by have:=h q a;omega
  have b:∀q∈qs,q.1≠(k:Int):=λq a=>by have:=h q a;omega
  show jh f k (inner f (ps++qs) k (mac f (ps++qs) k))=jh f k (inner f ps k (mac f ps k));rw[kZ c,gx,bw b]
def k5{k:Nat}(h:∀q∈qs,q.1≠(k:Int)):mac f qs (k+1)=jh f k (mac f qs k):=by show jh f k (inner f qs k (mac f qs k))=_;rw[bw h]
def gy{k:Nat}(h:∀q∈ps,q.1<(k:Int)):inner f (ps++[((k:Int),w)]) k (mac f (ps++[((k:Int),w)]) k)=⟨(mac f ps k).ps,(mac f ps k).bs++[fw f.rows k (mac f ps k).pl],fw f.rows k (mac f ps k).pl+2*w.length⟩:=by rw[kZ (λq a=>by rw[aao.mp a];exact abd _),gx,bw (qs:=ps) λq a e=>by have:=h q a;omega];show inn f k _ _=_;exact if_pos rfl
def C3:(inn f k s q).ps=s.ps:=by unfold inn;split<;>rfl
theorem bx:∀{qs:List (Int×List Int)}{s:Mc},(inner f qs k s).ps=s.ps
 |[],s=>rfl
 |q::qs,s=>by show (inner f qs k (inn f k s q)).ps=_;rw[bx,C3]
theorem bh:∀{k:Nat},(mac f qs k).ps.length=k
 |0=>rfl
 |k+1=>by show ((inner f qs k (mac f qs k)).ps++[_]).length=_;rw[bx,aak,bh];rfl
theorem k6:∀{m i:Nat},i<k->(mac f qs (k+m)).ps[i]?=(mac f qs k).ps[i]?
 |0,i,_=>rfl
 |m+1,i,h=>by show ((inner f qs (k+m) (mac f qs (k+m))).ps++[_])[i]?=_;rw[bx,aaR (by rw[bh];omega)];exact k6 h
theorem mac_more{a:Nat}(h:∀q∈ps,q.1<(a:Int)):∀{m:Nat},(mac f (ps++[((a:Int),w++[x])]) (a+1+m)).bs=(mac f (ps++[((a:Int),w)]) (a+1+m)).bs/\(mac f (ps++[((a:Int),w++[x])]) (a+1+m)).pl=(mac f (ps++[((a:Int),w)]) (a+1+m)).pl+2
 |0=>by show (jh f a (inner f _ a (mac f _ a))).bs=(jh f a (inner f _ a (mac f _ a))).bs/\(jh f a (inner f _ a (mac f _ a))).pl=(jh f a (inner f _ a (mac f _ a))).pl+2;rw[gy h,gy h];refine⟨rfl,?_⟩;show fw f.rows a (mac f ps a).pl+2*((w++[x]).length:Int)+sz f a=fw f.rows a (mac f ps a).pl+2*(w.length:Int)+sz f a+2;rw[aak,aaB];omega
 |m+1=>by
  obtain⟨g,e⟩:=mac_more h;have d:∀v:List Int,∀q∈ps++[((a:Int),v)],q.1≠((a+1+m:Nat):Int):=λv q c=>by
   rcases aai.mp c with z|z
   ·have:=h q z;omega
   ·rw[aao.mp z];show (a:Int)≠_;omega
  have b:∀v:List Int,mac f (ps++[((a:Int),v)]) (a+1+(m+1))=jh f (a+1+m) (mac f (ps++[((a:Int),v)]) (a+1+m)):=λv=>k5 (d v);rw[b,b];refine⟨g,?_⟩;show (mac f (ps++[((a:Int),w++[x])]) (a+1+m)).pl+sz f (a+1+m)=(mac f (ps++[((a:Int),w)]) (a+1+m)).pl+sz f (a+1+m)+2;rw[e];omega
abbrev Pz:=List (Int×List Int)
def dZ(h:ws.length=gs.length):(gs++[a]).zip (ws++[w])=gs.zip ws++[(a,w)]:=by rw[List.zip_append h.symm];rfl
def oA{a k:Nat}(h:∀q∈ps,q.1<(a:Int))(hk:a<=k):(inner f (ps++[((a:Int),w++[x])]) k (mac f (ps++[((a:Int),w++[x])]) k)).bs=(inner f (ps++[((a:Int),w)]) k (mac f (ps++[((a:Int),w)]) k)).bs/\(inner f (ps++[((a:Int),w++[x])]) k (mac f (ps++[((a:Int),w++[x])]) k)).pl=(inner f (ps++[((a:Int),w)]) k (mac f (ps++[((a:Int),w)]) k)).pl+2:=by
 by_cases e:a=k
 ·subst e;rw[gy h,gy h];refine⟨rfl,?_⟩;show _+2*((w++[x]).length:Int)=_+2*(w.length:Int)+2;rw[aak,aaB];omega
 ·have b:∀v:List Int,∀q∈ps++[((a:Int),v)],q.1≠(k:Int):=λv q c=>by
   rcases aai.mp c with z|z
   ·have:=h q z;omega
   ·rw[aao.mp z];show (a:Int)≠_;omega
  rw[bw (b _),bw (b _)];obtain⟨m,rfl⟩:∃m,k=a+1+m:=⟨k-a-1,by omega⟩
  exact mac_more h
def sC(h:(l++[b]).getLast?=some c):c=b:=by rw[ac5]at h;exact(aaE h).symm
def C4(h:g.wt=q::qs):due f g k=(decide ((k:Int)=f.rows.length)||decide (fw f.rows (k+1) (g.pl+sz f k)-q.2>f.r1)):=by unfold due;rw[h];rfl
def zip_last(h:(ws++[w]).length=gs.length):∃hs c,gs=hs++[c]/\ws.length=hs.length:=by
 rcases abn gs with e|⟨hs,c,e⟩
 ·rw[e,aak]at h;exact absurd h (by simp)
 ·rw[abo]at e;refine⟨hs,c,e,?_⟩;rw[e,aak,aak]at h;exact abV h
def wa:p<=fw rs k p/\fw rs k p<=p+4:=by
 unfold fw;by_cases h:y0 rs k=true
 ·rw[if_pos h];show p<=p+2+2-(p+2)%2/\p+2+2-(p+2)%2<=p+4;omega
 ·rw[if_neg h];show p<=p+2-p%2/\p+2-p%2<=p+4;omega
theorem wb{a:Nat}(h:∀q∈ps,q.1<(a:Int)):∀{m i:Nat}{p:Int},(mac f (ps++[((a:Int),w)]) (a+1+m)).ps[i]?=some p->(mac f (ps++[((a:Int),w++[x])]) (a+1+m)).ps[i]?=some (if a<=i then p+2 else p)
 |0,i,p,b=>by
  have e:∀v:List Int,mac f (ps++[((a:Int),v)]) (a+1)=jh f a ⟨(mac f ps a).ps,(mac f ps a).bs++[fw f.rows a (mac f ps a).pl],fw f.rows a (mac f ps a).pl+2*v.length⟩:=λv=>by show jh f a (inner f _ a (mac f _ a))=_;rw[gy h]
  have c:=bh (f:=f) (qs:=ps) (k:=a);rw[Nat.add_zero,e]at b ⊢;have b:((mac f ps a).ps++[fw f.rows a (mac f ps a).pl+2*(w.length:Int)])[i]?=some p:=b;show ((mac f ps a).ps++[fw f.rows a (mac f ps a).pl+2*((w++[x]).length:Int)])[i]?=_;by_cases g:i<a
  ·rw[aaR (by rw[c];exact g)]at b ⊢;rw[if_neg (by omega)];exact b
  ·have d:i=a:=by have:=(aaj.mp b).1;rw[aak,c,aaB]at this;omega
   subst d;rw[aa4 (by rw[c];exact aag _),c,abw]at b ⊢;rw[if_pos (aag _)];have b:fw f.rows i (mac f ps i).pl+2*(w.length:Int)=p:=aaE b;show some (fw f.rows i (mac f ps i).pl+2*((w++[x]).length:Int))=_;rw[aak,aaB,<-b];congr 1;omega
 |m+1,i,p,b=>by
  have l:∀v:List Int,∀q∈ps++[((a:Int),v)],q.1≠((a+1+m:Nat):Int):=λv q j=>by
   rcases aai.mp j with z|z
   ·have:=h q z;omega
   ·rw[aao.mp z];show (a:Int)≠_;omega
  have c:=λv=>bh (f:=f) (qs:=ps++[((a:Int),v)]) (k:=a+1+m);have n:=(mac_more (f:=f) (w:=w) (x:=x) h (m:=m)).2;rw[show a+1+(m+1)=a+1+m+1 from rfl,k5 (l _)]at b ⊢;have b:((mac f (ps++[((a:Int),w)]) (a+1+m)).ps++[(mac f (ps++[((a:Int),w)]) (a+1+m)).pl])[i]?=some p:=b;show ((mac f (ps++[((a:Int),w++[x])]) (a+1+m)).ps++[(mac f (ps++[((a:Int),w++[x])]) (a+1+m)).pl])[i]?=_;by_cases g:i<a+1+m
  ·rw[aaR (by rw[c];exact g)]at b ⊢;exact wb h b
  ·have d:i=a+1+m:=by have:=(aaj.mp b).1;rw[aak,c,aaB]at this;omega
   subst d;rw[aa4 (by rw[c];exact aag _),c,abw]at b ⊢;rw[if_pos (by omega)];have b:(mac f (ps++[((a:Int),w)]) (a+1+m)).pl=p:=aaE b;show some (mac f (ps++[((a:Int),w++[x])]) (a+1+m)).pl=_;rw[n,b]
def sF{a k:Nat}(h:∀q∈ps,q.1<(a:Int))(hk:a<=k)(b:(inner f (ps++[((a:Int),w)]) k (mac f (ps++[((a:Int),w)]) k)).ps[i]?=some p):(inner f (ps++[((a:Int),w++[x])]) k (mac f (ps++[((a:Int),w++[x])]) k)).ps[i]?=some (if a<=i then p+2 else p):=by
 rw[bx]at b ⊢;by_cases e:a=k
 ·subst e;have g:=λv=>bh (f:=f) (qs:=ps++[((a:Int),v)]) (k:=a);have c:=(aaj.mp b).1;rw[g]at c;rw[kZ λq d=>by rw[aao.mp d];exact abd _]at b ⊢;rw[if_neg (by omega)];exact b
 ·obtain⟨m,rfl⟩:∃m,k=a+1+m:=⟨k-a-1,by omega⟩
  exact wb h b
def nm(f:Cf):List Int:=(f.rows.filter R.gr).map R.num
def nu_nm{k:Nat}(a:f.rows[k]?=some r)(b:r.gr=true):nu f k∈nm f:=by
 have e:nu f k=r.num:=by unfold nu;rw[aaM,a];rfl
 rw[e];exact aas.mpr ⟨r,abO.mpr ⟨aaV a,b⟩,rfl⟩
def wc(h:a∈gIx 0 (f.rows.take k)):nu f a∈nm f:=by
 obtain⟨j,r,e,b,c⟩:=cG h;rw[acD]at e;rw[e];rw[acv]at b;split at b
 ·exact nu_nm b c
 ·cases b
def nd_snoc(h:w.Nodup)(f:x ∉ w):(w++[x]).Nodup:=aaD.mpr ⟨h,by simp,λa d b c e=>f (by rw[aao.mp c]at e;rw[<-e];exact d)⟩
def k7(h:ns.Nodup):(addN ns x).Nodup:=by
 unfold addN;split
 ·exact h
 ·rename_i a;exact nd_snoc h a
def mK(h:y∈addN ns x):y∈ns\/y=x:=by
 unfold addN at h;split at h
 ·exact .inl h
 ·rcases aai.mp h with h|h
  ·exact .inl h
  ·exact .inr (aao.mp h)
theorem qq:∀{wt:List (Int×Int)}{ns:List Int},ns.Nodup->(∀x∈ns,x∈nm f)->(∀q∈wt,nu f q.1∈nm f)->(wt.foldl (λns q=>addN ns (nu f q.1)) ns).Nodup/\∀x∈wt.foldl (λns q=>addN ns (nu f q.1)) ns,x∈nm f
 |[],ns,h1,h2,_=>⟨h1,h2⟩
 |q::wt,ns,h1,h2,h3=>qq (wt:=wt) (k7 h1) (λx b=>(mK b).elim (h2 x) λe=>by rw[e];exact h3 q aab) λp a=>h3 p (aah _ a)
theorem mL:∀{wt:List (Int×Int)}{ns:List Int}{x:Int},x∈ns->x∈wt.foldl (λns q=>addN ns (nu f q.1)) ns
 |[],ns,x,h=>h
 |q::wt,ns,x,h=>mL (wt:=wt) (by show x∈addN ns (nu f q.1);unfold addN;split;exact h;exact aaf _ h)
theorem fold_new:∀{wt:List (Int×Int)}{ns:List Int}{q:Int×Int},q∈wt->nu f q.1∈wt.foldl (λns q=>addN ns (nu f q.1)) ns
 |p::wt,ns,q,h=>by
  rcases aac.mp h with rfl|h
  ·exact mL (wt:=wt) (by show nu f q.1∈addN ns (nu f q.1);unfold addN;split;assumption;exact aae _ aab)
  ·exact fold_new (wt:=wt) h
def Us(f:Cf)(qs:Pz)(s:Mc)(u:Int×Int):Prop:=∃(i j:Nat) (p b:Int) (q:Int×List Int),u.1=i/\u.2=j/\s.ps[i]?=some p/\s.bs[j]?=some b/\qs[j]?=some q/\nu f i∈q.2/\b-p<=f.r1/\p-b<=f.r0/\p<=s.pl/\∀a d w,qs=a++[(d,w)]->d<=(i:Int)->j=a.length
structure Kv (f:Cf)(g:G)(m:Nat)(s:Mc):Prop where
 lt:∀q∈g.gaps.zip g.words,∃d:Nat,q.1=d/\d<m
 inc:(g.gaps.zip g.words).Pairwise λx y=>x.1<y.1
 pl:s.pl=g.pl
 bl:s.bs.length=(g.gaps.zip g.words).length
 bg:∀b,s.bs.getLast?=some b->b=g.bg
 ble:∀b∈s.bs,b<=s.pl
 use:∀u∈g.us,Us f (g.gaps.zip g.words) s u
 wt:∀q∈g.wt,∃i:Nat,q.1=i/\s.ps[i]?=some q.2/\q.2<=s.pl
 fst:∀q0 q,g.wt.head?=some q0->q∈g.wt->q0.2<=q.2
 wd:∀w∈g.words,w≠[]/\w.Nodup/\∀x∈w,x∈nm f
def Near(f:Cf)(g:G)(k:Nat):Prop:=∀a,g.wt.head?=some a->fw f.rows k g.pl-a.2<=f.r1
section
variable{f:Cf}{g:G}{k:Nat}
theorem Kv.ow(h0:0<=f.r0)(I:Iv f g k k)(V:Kv f g k (mac f (g.gaps.zip g.words) k))(N:Near f g k):Kv f (laysG f g k) (k+1) (inner f ((laysG f g k).gaps.zip (laysG f g k).words) k (mac f ((laysG f g k).gaps.zip (laysG f g k).words) k)):=by
 have s:∀q∈g.gaps.zip g.words,q.1<(k:Int):=λq l=>by obtain⟨d,o,r⟩:=V.lt q l;omega
 unfold laysG;by_cases D:due f g k=true
 ·rw[if_pos D];obtain⟨A,n⟩:∃A,g.wt.head?=some A:=by
   cases F:g.wt with
   |nil=>unfold due at D;rw[F]at D;cases D
   |cons q _=>exact⟨q,rfl⟩
  have hn:=N A n;have U:(iZ f g k).gaps.zip (iZ f g k).words=g.gaps.zip g.words++[((k:Int),g.wt.foldl (λm q=>addN m (nu f q.1)) [])]:=dZ I.wl;obtain⟨w1,w2⟩:=qq abc (λx h=>absurd h aan) λq l=>wc (by rw[<-I.ix];exact aae _ (aas.mpr ⟨q,l,rfl⟩));have w3:g.wt.foldl (λm q=>addN m (nu f q.1)) []≠[]:=λe=>by have:nu f A.1∈g.wt.foldl (λm q=>addN m (nu f q.1)) []:=fold_new (by cases F:g.wt with|nil=>rw[F]at n;cases n|cons a b=>rw[F]at n;cases n;exact aab);rw[e]at this;exact aan this
  have w4:∀q∈g.wt,nu f q.1∈g.wt.foldl (λm q=>addN m (nu f q.1)) []:=λq l=>fold_new l;have O:(g.gaps.zip g.words).length=g.gaps.length:=by rw[abe,I.wl,acE]
  have a1:=(wa (rs:=f.rows) (k:=k) (p:=g.pl)).1;have c:=V.pl;have S:=bh (f:=f) (qs:=g.gaps.zip g.words) (k:=k);have M:=V.wd;have P:(iZ f g k).us=g.us++g.wt.map λq=>(q.1,(g.gaps.length:Int)):=rfl;have L:(iZ f g k).words=g.words++[g.wt.foldl (λm q=>addN m (nu f q.1)) []]:=rfl;have Q:(iZ f g k).pl=fw f.rows k g.pl+2*(g.wt.foldl (λm q=>addN m (nu f q.1)) []).length:=rfl;have H:(iZ f g k).bg=fw f.rows k g.pl:=rfl;have B:(iZ f g k).wt=[]:=rfl;rw[U,gy s];generalize g.wt.foldl (λm q=>addN m (nu f q.1)) []=w at *;refine⟨?_,?_,?_,?_,?_,?_,?_,?_,?_,?_⟩
  all_goals try rw[U]
  ·intro x t;rcases aai.mp t with z|z
   ·obtain⟨d,o,r⟩:=V.lt x z;exact⟨d,o,aa9 r⟩
   ·rw[aao.mp z];exact⟨k,rfl,aaY k⟩
  ·refine aaW.mpr ⟨V.inc,ab9 _ _,λx t y hy=>?_⟩;rw[aao.mp hy];exact s x t
  ·show fw f.rows k (mac f (g.gaps.zip g.words) k).pl+_=_;rw[Q,c]
  ·show (_++[_]).length=(_++[_]).length;rw[aak,aak,V.bl];rfl
  ·intro b T;rw[sC T,H,c]
  ·intro b T;show b<=fw f.rows k (mac f (g.gaps.zip g.words) k).pl+2*(w.length:Int);rw[c];rcases aai.mp T with z|z
   ·have:=V.ble b z;rw[c]at this;omega
   ·rw[aao.mp z,c];omega
  ·intro u W;rw[P]at W;rcases aai.mp W with z|z
   ·obtain⟨i,j,p,b,q,o,r,C,X,Z,e6,e7,e8,e9,_⟩:=V.use u z;have hi:i<k:=by have:=(aaj.mp C).1;rwa [S]at this
    refine⟨i,j,p,b,q,o,r,C,?_,?_,e6,e7,e8,?_,λps d w' J a0=>?_⟩
    ·show (_++[_])[j]?=_;rw[aaR (aaj.mp X).1];exact X
    ·rw[aaR (aaj.mp Z).1];exact Z
    ·show p<=fw f.rows k (mac f (g.gaps.zip g.words) k).pl+2*(w.length:Int);rw[c]at e9 ⊢;omega
    ·have:=(abM (abx J rfl).2).1;have:(k:Int)=d:=congrArg (·.1) this;omega
   ·obtain⟨x,t,rfl⟩:=aas.mp z;obtain⟨i,o,r,C⟩:=V.wt x t;have h1:=V.fst A x n t;refine⟨i,g.gaps.length,x.2,fw f.rows k g.pl,((k:Int),w),o,rfl,r,?_,?_,by rw[<-o];exact w4 x t,by omega,by rw[c]at C;omega,?_,λps d w' J _=>?_⟩
    ·show (_++[_])[g.gaps.length]?=_;rw[<-O,<-V.bl,aaS,c]
    ·rw[<-O,aaS]
    ·show x.2<=fw f.rows k (mac f (g.gaps.zip g.words) k).pl+2*(w.length:Int);rw[c]at C ⊢;omega
    ·rw[<-O,(abx J rfl).1]
  ·intro q l;rw[B]at l;exact absurd l aan
  ·intro q q' l;rw[B]at l;cases l
  ·intro v Y;rw[L]at Y;rcases aai.mp Y with z|z
   ·exact M v z
   ·rw[aao.mp z];exact⟨w3,w1,w2⟩
 ·rw[if_neg D,bw λq l e=>by have:=s q l;omega];exact⟨λq l=>by obtain⟨d,o,r⟩:=V.lt q l;exact⟨d,o,aa9 r⟩,V.inc,V.pl,V.bl,V.bg,V.ble,V.use,V.wt,V.fst,V.wd⟩
end
def last_at{l:List Int}(h:l.length=n+1):∃b,l[n]?=some b/\l.getLast?=some b/\b∈l:=by
 rcases abn l with e|⟨m,b,e⟩
 ·rw[e]at h;cases h
 ·rw[abo]at e;subst e;rw[aak]at h;obtain rfl:m.length=n:=abV h;exact⟨b,aaS,ac5,aae _ aab⟩
section
variable{f:Cf}{g:G}{k:Nat}
def Kv.row(V:Kv f g (k+1) s)(hs:s.ps.length=k):Kv f (jt g (sz f k)) (k+1) (jh f k s):=by
 have z:=oz (f:=f) (k:=k);have l:∀{i:Nat}{p:Int},s.ps[i]?=some p->(s.ps++[s.pl])[i]?=some p:=λ{i p} h=>by rw[aaR (aaj.mp h).1];exact h
 have a:(jh f k s).pl=s.pl+sz f k:=rfl;refine⟨V.lt,V.inc,?_,V.bl,V.bg,λb x=>?_,λu r=>?_,λq t=>?_,V.fst,V.wd⟩
 ·rw[a,V.pl]
 ·have:=V.ble b x;omega
 ·obtain⟨i,j,p,b,q,e,d,m,v,w,n,y,o,A,c⟩:=V.use u r;exact⟨i,j,p,b,q,e,d,l m,v,w,n,y,o,by omega,c⟩
 ·obtain⟨i,e,d,m⟩:=V.wt q t;exact⟨i,e,l d,by omega⟩
def Kv.addU(V:Kv f g m s)(h:Us f (g.gaps.zip g.words) s u):Kv f ⟨g.pl,g.gaps,g.words,g.bg,g.us++[u],g.wt⟩ m s:=
 ⟨V.lt,V.inc,V.pl,V.bl,V.bg,V.ble,λv a=>(aai.mp a).elim (V.use v) λz=>by rw[aao.mp z];exact h,V.wt,V.fst,V.wd⟩
def Kv.addW{m i:Nat}(V:Kv f g m s)(h:s.ps[i]?=some p)(j:p<=s.pl)(n:∀q∈g.wt,q.2<=p):Kv f ⟨g.pl,g.gaps,g.words,g.bg,g.us,g.wt++[((i:Int),p)]⟩ m s:=by
 refine⟨V.lt,V.inc,V.pl,V.bl,V.bg,V.ble,V.use,λq b=>?_,λd q c b=>?_,V.wd⟩
 ·rcases aai.mp b with z|z
  ·exact V.wt q z
  ·rw[aao.mp z];exact⟨i,rfl,h,j⟩
 ·have c:(g.wt++[((i:Int),p)]).head?=some d:=c;have b:q∈g.wt++[((i:Int),p)]:=b;cases e:g.wt with
  |nil=>rw[e]at c b;cases c;rw[aao.mp b];exact abd _
  |cons a l=>
   rw[e]at c;cases c;rcases aai.mp b with z|z
   ·exact V.fst d q (by rw[e];rfl) z
   ·rw[aao.mp z];exact n d (by rw[e];exact aab)
theorem Kv.put{d:Nat}(h0:0<=f.r0)(H:g.words=ws++[w])(X:g.gaps=hs++[(d:Int)])(P:ws.length=hs.length)(U:d<=k)(n:∀q∈hs.zip ws,q.1<(d:Int))(hn:x ∉ w)(hx:x∈nm f)(r:g.wt=[])(hr:g.pl+2-g.bg<=f.r0)
  (V:Kv f g (k+1) (inner f (g.gaps.zip g.words) k (mac f (g.gaps.zip g.words) k))):Kv f ⟨g.pl+2,g.gaps,ws++[w++[x]],g.bg,g.us,g.wt⟩ (k+1) (inner f (g.gaps.zip (ws++[w++[x]])) k (mac f (g.gaps.zip (ws++[w++[x]])) k)):=by
 have ez:g.gaps.zip g.words=hs.zip ws++[((d:Int),w)]:=by rw[H,X,dZ P]
 have l:g.gaps.zip (ws++[w++[x]])=hs.zip ws++[((d:Int),w++[x])]:=by rw[X,dZ P]
 have m:=oA (f:=f) (w:=w) (x:=x) n U;have Y:=λ{i p}=>sF (f:=f) (w:=w) (x:=x) n U (i:=i) (p:=p);obtain⟨S,N,O,F,I,W,T,v8,v9,y⟩:=V;rw[ez]at S N O F I W T v8;rw[l];generalize inner f (hs.zip ws++[((d:Int),w)]) k (mac f (hs.zip ws++[((d:Int),w)]) k)=s at *;generalize inner f (hs.zip ws++[((d:Int),w++[x])]) k (mac f (hs.zip ws++[((d:Int),w++[x])]) k)=t at *;refine⟨?_,?_,?_,?_,?_,?_,λu hu=>?_,?_,?_,?_⟩
 ·show ∀q∈g.gaps.zip (ws++[w++[x]]),_;rw[l];intro q h;rcases aai.mp h with z|z
  ·exact S q (aaf _ z)
  ·rw[aao.mp z];exact⟨d,rfl,by omega⟩
 ·show (g.gaps.zip (ws++[w++[x]])).Pairwise _;rw[l];refine aaW.mpr ⟨(aaW.mp N).1,ab9 _ _,λa ha b B=>?_⟩;rw[aao.mp B];exact n a ha
 ·rw[m.2,O]
 ·show _=(g.gaps.zip (ws++[w++[x]])).length;rw[l,m.1,F,aak,aak];rfl
 ·rw[m.1];exact I
 ·rw[m.1];intro b B;have:=W b B;rw[m.2];omega
 ·show Us f (g.gaps.zip (ws++[w++[x]])) t u;rw[l];obtain⟨i,j,p,b,q,e1,e2,e3,L,A,M,e7,e8,e9,J⟩:=T u hu;have o:d<=i->j=(hs.zip ws).length:=λD=>J _ _ _ rfl (by omega);have B:d<=i->b=g.bg:=λD=>by have o:=o D;rw[aak]at F;obtain⟨c,c1,c2,_⟩:=last_at F;rw[o,c1]at L;cases L;exact I _ c2
  have h:∃C,(hs.zip ws++[((d:Int),w++[x])])[j]?=some C/\nu f i∈C.2:=by
   by_cases o:j<(hs.zip ws).length
   ·rw[aaR o]at A ⊢;exact⟨q,A,M⟩
   ·have:j=(hs.zip ws).length:=by have:=(aaj.mp A).1;rw[aak,aaB]at this;omega
    subst this;rw[aaS]at A ⊢;cases A;exact⟨_,rfl,aaf _ M⟩
  obtain⟨C,q1,q2⟩:=h;refine⟨i,j,_,b,C,e1,e2,Y e3,by rw[m.1];exact L,q1,q2,?_,?_,?_,λps Z w' ee a0=>?_⟩
  ·split<;>omega
  ·split
   ·rename_i D;have:=B D;omega
   ·exact e8
  ·rw[m.2];split<;>omega
  ·have Q:=abx ee rfl;have h2:(d:Int)=Z:=congrArg (·.1) (abM Q.2).1;rw[<-Q.1];exact o (by omega)
 ·intro q h;have h:q∈g.wt:=h;rw[r]at h;exact absurd h aan
 ·intro q C h;have h:g.wt.head?=some q:=h;rw[r]at h;cases h
 ·intro v hv;rcases aai.mp hv with z|z
  ·exact y v (by rw[H];exact aaf _ z)
  ·rw[aao.mp z];obtain⟨y1,y2,y3⟩:=y w (by rw[H];exact aae _ aab);exact⟨by simp,nd_snoc y2 hn,λc hc=>(aai.mp hc).elim (y3 c) λe=>by rw[aao.mp e];exact hx⟩
def Kv.us(V:Kv f g (k+1) s)(hs:s.ps.length=k)(a:g.gaps.zip g.words=ps++[(d,w)])(i:nu f k∈w)(v:0<=f.r1)(p:g.pl-g.bg<=f.r0):Us f (g.gaps.zip g.words) (jh f k s) ((k:Int),(ps.length:Int)):=by have c:=V.bl;rw[a,aak]at c;obtain⟨b,j,e,l⟩:=last_at c;have u:=V.bg b e;have t:=V.ble b l;have q:=V.pl;have r:=oz (f:=f) (k:=k);rw[a];refine⟨k,ps.length,s.pl,b,(d,w),rfl,rfl,?_,j,aaS,i,by omega,by omega,by show s.pl<=s.pl+sz f k;omega,λm n o h _=>by rw[(abx h rfl).1]⟩;show (s.ps++[s.pl])[k]?=_;rw[<-hs,aaS]
end
def Iv.ow(I:Iv f g k k):Iv f (laysG f g k) k (k+1):=by
 unfold laysG;split
 ·exact I.lay
 ·exact I.more (abr _)
def we(m:6<=f.r1)(hk:k<f.rows.length)(l:g2.pl=(laysG f g k).pl)(a:g2.wt=(laysG f g k).wt\/sz f k=2/\g2.wt=(laysG f g k).wt++[((k:Int),(laysG f g k).pl)]):Near f (jt g2 (sz f k)) (k+1):=by
 intro e c;have c:g2.wt.head?=some e:=c;show fw f.rows (k+1) (g2.pl+sz f k)-e.2<=f.r1;rw[l];cases b:(laysG f g k).wt with
 |nil=>
  rcases a with a|⟨j,a⟩
  ·rw[a,b]at c;cases c
  ·rw[a,b]at c;cases c;have:=(wa (rs:=f.rows) (k:=k+1) (p:=(laysG f g k).pl+sz f k)).2;show _-(laysG f g k).pl<=_;omega
 |cons q n=>
  have i:q=e:=by rcases a with a|⟨j,a⟩<;>rw[a,b]at c<;>exact aaE c
  subst i;have d:due f g k=false:=by
   cases d:due f g k with
   |false=>rfl
   |true=>unfold laysG at b;rw[if_pos d]at b;cases b
  have h:laysG f g k=g:=by unfold laysG;rw[if_neg (by rw[d];exact aal)]
  rw[h]at b ⊢;rw[C4 b,ab2]at d;exact Int.not_lt.mp (Dad d.2)
theorem y9{f:Cf}{g g2:G}(X:0<=f.r0)(H:6<=f.r1)(hk:k<f.rows.length)(I:Iv f g k k)(C:Cross f g k g2)(V:Kv f g k (mac f (g.gaps.zip g.words) k))(N:Near f g k):
  Kv f (jt g2 (sz f k)) (k+1) (mac f (g2.gaps.zip g2.words) (k+1))/\Near f (jt g2 (sz f k)) (k+1):=by
 have p:=V.ow X I N;have S:=I.ow;have Z:=λh=>we (g:=g) (g2:=g2) H hk h;have r:=aap hk;have A:=C.gr;have B:=C.no;rw[r]at A B;have b:∀M:Pz,(inner f M k (mac f M k)).ps.length=k:=λM=>by rw[bx];exact bh
 generalize laysG f g k=g1 at *;have t:g2.wt=[]->Near f (jt g2 (sz f k)) (k+1):=λz q h=>by have h:g2.wt.head?=some q:=h;rw[z]at h;cases h
 cases D:(f.rows[k]).gr with
 |false=>obtain rfl:=B D;exact⟨p.row (b _),Z rfl (.inl rfl)⟩
 |true=>
  have P:=sz_gr r D;have Q:=nu_nm r D;have x:=S.wl;have n:∀{m w},g1.words=m++[w]->∃(b:List Int) (d:Nat),g1.gaps=b++[(d:Int)]/\m.length=b.length/\d<=k/\(∀q∈b.zip m,q.1<(d:Int))/\g1.gaps.zip g1.words=b.zip m++[((d:Int),w)]:=λ{m w} h=>by
   rw[h]at x;obtain⟨b,c,j,s⟩:=zip_last x;have v:g1.gaps.zip g1.words=b.zip m++[(c,w)]:=by rw[h,j,dZ s]
   obtain⟨d,F,d2⟩:=p.lt (c,w) (by rw[v];exact aae _ aab);have F:c=(d:Int):=F;subst F;refine⟨b,d,j,s,by omega,λq J=>?_,v⟩;have:=p.inc;rw[v]at this;exact(aaW.mp this).2.2 q J _ aab
  cases A D with
  |@put m w h u hni r=>
   obtain⟨o,d,j,s,Y,W,v⟩:=n h;have T:=Kv.put X h j s Y W hni Q u r p;have O:g1.gaps.zip (m++[w++[nu f k]])=o.zip m++[((d:Int),w++[nu f k])]:=by rw[j,dZ s]
   have U:=T.us (b _) O (aae _ aab) (by omega) r;have y:=(T.row (b _)).addU U;have L:(g1.gaps.length:Int)-1=((o.zip m).length:Int):=by rw[j,aak,abe,s,acE,aaB];omega
   refine⟨?_,t u⟩;rw[L];exact y
  |@got m w h hni r=>
   obtain⟨o,d,j,s,Y,W,v⟩:=n h;have u:g1.wt=[]:=by
    by_cases u:g1.wt=[]
    ·exact u
    ·have:=S.far u (by rw[h];simp);omega
   have U:=p.us (b _) v hni (by omega) r;have y:=(p.row (b _)).addU U;have L:(g1.gaps.length:Int)-1=((o.zip m).length:Int):=by rw[j,aak,abe,s,acE,aaB];omega
   refine⟨?_,t u⟩;rw[L];exact y
  |wait h=>
   have j:=p.pl;have y:=(p.row (b _)).addW (by
    show ((inner f (g1.gaps.zip g1.words) k (mac f (g1.gaps.zip g1.words) k)).ps++[(inner f (g1.gaps.zip g1.words) k (mac f (g1.gaps.zip g1.words) k)).pl])[k]?=_;rw[j];have:=aaS (l:=(inner f (g1.gaps.zip g1.words) k (mac f (g1.gaps.zip g1.words) k)).ps) (a:=g1.pl);rw[b]at this;exact this) (by show _<=(inner f (g1.gaps.zip g1.words) k (mac f (g1.gaps.zip g1.words) k)).pl+sz f k;rw[j];omega) (λq J=>by obtain⟨i,_,_,e⟩:=p.wt q J;rw[j]at e;exact e)
   exact⟨y,Z rfl (.inr ⟨P,rfl⟩)⟩
def zd(e:0<=f.r0)(a:6<=f.r1)(W:Gone f k g):Kv f g k (mac f (g.gaps.zip g.words) k)/\Near f g k:=by
 induction W with
 |zero=>exact⟨⟨λq h=>absurd h aan,List.Pairwise.nil,rfl,rfl,λb h=>absurd h (by simp[mac]),λb h=>absurd h aan,λu h=>absurd h aan,λu h=>absurd h aan,λq i h=>absurd h (by simp),λu h=>absurd h aan⟩,λq h=>absurd h (by simp)⟩
 |step h d I C c=>exact y9 e a d I C c.1 c.2
def end_kv(b:0<=f.r0)(a:6<=f.r1)(c:g=laysG f g0 f.rows.length)(d:Iv f g0 f.rows.length f.rows.length)(W:Gone f f.rows.length g0):Kv f g (f.rows.length+1) (inner f (g.gaps.zip g.words) f.rows.length (mac f (g.gaps.zip g.words) f.rows.length)):=by obtain⟨V,N⟩:=zd b a W;rw[c];exact V.ow b d N
def ze{k:Nat}(h:f.rows[k]?=some r):pl.pg.call (n+2) 30 [Rl f.rows,Lo f,It k]=some (It (sz f k),[Rl f.rows,Lo f,It k]):=by
 unfold sz;rw[h];have a:=ae (C:=JQ (n+1)) (f:=29) (es:=.cons edh .nil) (ρ:=[JJ f.rows,JK f,JG k]) (aa (aM rfl rfl rfl (bp (eZ h))) ah) rfl (jS r) rfl;cases b:r.gr with
 |true=>rw[b]at a;rw[if_pos (.inl b)];exact af rfl rfl (az (ao (mx (jM (aW a)) rfl) rfl)) rfl
 |false=>
  rw[b]at a;have c:bj (JQ (n+1)) ec4 [JJ f.rows,JK f,JG k]=some (decide ((k:Int)∈f.longs),[JJ f.rows,JK f,JG k]):=aN (aC rfl rfl rfl rfl inL);cases d:decide ((k:Int)∈f.longs) with
  |true=>rw[d]at c;rw[if_pos (.inr (Daa d))];exact af rfl rfl (az (ao (mx (cz (aW a) c) rfl) rfl)) rfl
  |false=>rw[d]at c;rw[if_neg λz=>z.elim (λz=>absurd (b.symm.trans z) aal) λz=>Dad d z];exact af rfl rfl (az (ao (vF (cz (aW a) c) rfl) rfl)) rfl
theorem ja:∀{qs:Pz}{s:Mc},(inner f qs k s).bs.length=s.bs.length+qs.countP λq=>decide (q.1=(k:Int))
 |[],s=>rfl
 |q::qs,s=>by
  show (inner f qs k (inn f k s q)).bs.length=_;rw[ja,aca];unfold inn;by_cases h:q.1=(k:Int)
  ·rw[if_pos h,Dac h,if_pos rfl];show (s.bs++[_]).length+_=_;rw[aak,aaB];omega
  ·rw[if_neg h,Dab h,if_neg aal];omega
theorem jb:∀{qs:Pz},(∀q∈qs,0<=q.1)->qs.countP (λq=>decide (q.1<((k+1:Nat):Int)))=qs.countP (λq=>decide (q.1<(k:Int)))+qs.countP λq=>decide (q.1=(k:Int))
 |[],_=>rfl
 |q::qs,h=>by rw[aca,aca,aca,jb λq a=>h q (aah _ a)];simp only[decide_eq_true_eq];split<;>split<;>split<;>omega
theorem gz(h:∀q∈qs,0<=q.1):∀{k:Nat},(mac f qs k).bs.length=qs.countP λq=>decide (q.1<(k:Int))
 |0=>by show 0=_;rw[eq_comm,List.countP_eq_zero];intro q a z;have:=h q a;have:=Daa z;omega
 |k+1=>by show (inner f qs k (mac f qs k)).bs.length=_;rw[ja,gz h,jb h]
abbrev Pol(q:Int×List Int):PyData:=.tuple [.int q.1,.list (q.2.map PyData.int)]
abbrev lp(qs:Pz):OD:=.fz (.list (qs.map Pol))
abbrev JM(qs:Pz):Option OD:=some (lp qs)
abbrev qE(f:Cf)(qs:Pz)(s:Mc)(k:Nat)(o7 o8:Option OD):DEnv:=[JJ f.rows,JK f,JM qs,some (Il s.ps),some (Il s.bs),JG s.pl,JG k,o7,o8]
abbrev Ia:E:=.or ec6 eap
def zf(r:R):mV .nin (.str r.wd) (.tuple [.str "go",.str lv])=some r.fal:=by show some (!(decide ("go"=r.wd)||(decide (lv=r.wd)||false)))=some (!decide (r.wd="go")&&!decide (r.wd=lv));rw[acj,Bool.not_or,decide_eq_decide.mpr (eq_comm ),decide_eq_decide.mpr (eq_comm (a:=Str.ofString "stop"))]
def Ib(h:k<=f.rows.length):ev (JQ n) Ia (qE f qs s k o7 o8)=some (.val (.fz (.bool (y0 f.rows k))),qE f qs s k o7 o8):=by
 cases k with
 |zero=>exact z6 rfl
 |succ k=>
  have a:((k+1:Nat):Int)-1=(k:Int):=by omega
  have b:y0 f.rows (k+1)=(f.rows[k]).fal:=by show (f.rows[k]?).elim true R.fal=_;rw[aap h];rfl
  rw[b];exact z9 (aC rfl rfl rfl rfl (show some (decide (((k+1:Nat):Int)=0))=some false by rw[Dab (by omega)])) (aC (aM (aM rfl rfl rfl (bp (by rw[a];exact eZ (aap (by omega))))) rfl rfl (by rw[R.d_is];exact ba bq)) rfl rfl rfl (zf _))
abbrev inB:Ss:=.cons (.iff ec7 (.cons (.set 5 (.bop .add (.nm 5) (.bop .mul (.int 2) (.blt .int (.cons Ia .nil))))) ead) .nil) .nil
abbrev Gx(q:Int×List Int):OD:=.fz (.list (q.2.map PyData.int))
abbrev qF(f:Cf)(qs:Pz)(s:Mc)(k:Nat)(q:Int×List Int):DEnv:=qE f qs s k (JG q.1) (some (Gx q))
theorem zg{n:Nat}{f:Cf}{qs:Pz}{s:Mc}{k:Nat}{q:Int×List Int}(h:k<=f.rows.length)(g:s.bs.length<1000):aG (JQ n) inB (qF f qs s k q)=some (.nx,qF f qs (inn f k s q) k q):=by
 unfold inn;by_cases e:q.1=(k:Int)
 ·rw[if_pos e];have b:=Ib (n:=n) (qs:=qs) (s:=s) (o7:=JG q.1) (o8:=some (Gx q)) h;refine ab (aO (aN (aC rfl rfl rfl rfl (show some (decide (q.1=(k:Int)))=some true by rw[Dac e]))) ?_) rfl;have c:∀v,y0 f.rows k=v->cE (JQ n) (.set 5 (.bop .add (.nm 5) (.bop .mul (.int 2) (.blt .int (.cons Ia .nil))))) (qF f qs s k q)=some (.nx,qF f qs ⟨s.ps,s.bs,if v=true then s.pl+2 else s.pl⟩ k q):=λv i=>by
   rw[i]at b;cases v with
   |true=>exact aq (ag rfl (ag (dx:=.int 2) (dy:=.int 1) rfl (aV (aa b ah) rfl rfl) rfl rfl rfl) rfl rfl rfl) rfl rfl rfl
   |false=>exact aq (ag (dx:=.int s.pl) (dy:=.int 0) (d:=.int s.pl) rfl (ag (dx:=.int 2) (dy:=.int 0) rfl (aV (aa b ah) rfl rfl) rfl rfl rfl) rfl rfl (by show some (PyData.int (s.pl+0))=_;rw[Int.add_zero])) rfl rfl rfl
  refine ab (c _ rfl) ?_;generalize hq:(if y0 f.rows k=true then s.pl+2 else s.pl)=p;have a:fw f.rows k s.pl=p+2-p%2:=by unfold fw;rw[hq]
  rw[a];refine ab (aq (ρ3:=qF f qs ⟨s.ps,s.bs,p+2-p%2⟩ k q) (ag rfl (ag rfl rfl rfl rfl (dE (by decide))) rfl rfl rfl) rfl rfl rfl) ?_;refine ab (cZ (ρ3:=qF f qs ⟨s.ps,s.bs++[p+2-p%2],p+2-p%2⟩ k q) rfl rfl rfl rfl (by rw[aaa];exact abh g (by decide)) (by show _=[JJ f.rows,JK f,JM qs,some (Il s.ps),some (Il (s.bs++[p+2-p%2])),JG (p+2-p%2),JG k,JG q.1,some (Gx q)];rw[bR];rfl)) ?_;exact ab (aq (ag rfl (ag (dx:=.int 2) (dy:=.int q.2.length) rfl (aV rfl rfl (by show some (PyData.int ((q.2.map PyData.int).length:Nat))=_;rw[aaa])) rfl rfl (eY (.inl (by decide)))) rfl rfl rfl) rfl rfl rfl) rfl
 ·rw[if_neg e];exact ab (aI (aN (aC rfl rfl rfl rfl (show some (decide (q.1=(k:Int)))=some false by rw[Dab e]))) rfl) rfl
abbrev IT(n:Nat)(d:PyData)(ρ':DEnv):Option (Fl×DEnv):=(aX (.tp [7,8]) (.fz d) ρ').bind λρ1=>aG (JQ n) inB ρ1
theorem qr{n:Nat}{f:Cf}{qs:Pz}{k:Nat}(h:k<=f.rows.length):∀{rs:Pz}{s:Mc}{o7 o8:Option OD},s.bs.length+rs.length<1000->∃b a,bc (IT n) (rs.map Pol) (qE f qs s k o7 o8)=some (.nx,qE f qs (inner f rs k s) k b a)
 |[],s,o7,o8,_=>⟨o7,o8,rfl⟩
 |q::rs,s,o7,o8,hb=>by
  rw[aaw]at hb;have e:IT n (Pol q) (qE f qs s k o7 o8)=some (.nx,qF f qs (inn f k s q) k q):=bs (x:=qF f qs s k q) rfl (zg h (by omega));have c:(inn f k s q).bs.length+rs.length<1000:=by
   unfold inn;split
   ·show (s.bs++[_]).length+_<_;rw[aak,aaB];omega
   ·omega
  obtain⟨b,a,d⟩:=qr (n:=n) (qs:=qs) h (rs:=rs) (s:=inn f k s q) (o7:=JG q.1) (o8:=some (Gx q)) c;exact⟨b,a,bs e d⟩
abbrev qG(f:Cf)(qs:Pz)(s:Mc)(o6 o7 o8:Option OD):DEnv:=[JJ f.rows,JK f,JM qs,some (Il s.ps),some (Il s.bs),JG s.pl,o6,o7,o8]
abbrev ouB:Ss:=.cons (.fr (.tp [7,8]) (.seq (.nm 2)) inB) eae
abbrev IU(n:Nat)(d:PyData)(ρ':DEnv):Option (Fl×DEnv):=(aX (.nm 6) (.fz d) ρ').bind λρ1=>aG (JQ n) ouB ρ1
def Ae:bj (JQ n) IQ (qE f qs s k o7 o8)=some (decide ((k:Int)<(f.rows.length:Int)),qE f qs s k o7 o8):=aN (aC rfl (aV rfl rfl (by show some (PyData.int ((f.rows.map R.d).length:Nat))=_;rw[aaa])) rfl rfl rfl)
def Af(h:k<=f.rows.length)(c:s.bs.length+qs.length<1000):∃b a,cE (JQ n) (.fr (.tp [7,8]) (.seq (.nm 2)) inB) (qE f qs s k o7 o8)=some (.nx,qE f qs (inner f qs k s) k b a):=by obtain⟨b,a,e⟩:=qr h c;exact⟨b,a,bF (bo rfl rfl rfl) e⟩
def zh{n:Nat}{f:Cf}{qs:Pz}{s:Mc}{k:Nat}{o6 o7 o8:Option OD}(h:k<f.rows.length)(i:s.bs.length+qs.length<1000)(j:s.ps.length<1000):∃d b a,IU (n+2) (.int k) (qG f qs s o6 o7 o8)=some (.nx,qG f qs (jh f k (inner f qs k s)) d b a):=by
 obtain⟨b,a,e⟩:=Af (n:=n+2) (qs:=qs) (s:=s) (o7:=o7) (o8:=o8) (aaU h) i;have c:(inner f qs k s).ps.length<1000000:=by rw[bx];omega
 generalize inner f qs k s=t at e c;have g:=Ae (n:=n+2) (f:=f) (qs:=qs) (s:=t) (k:=k) (o7:=b) (o8:=a);rw[Dac (by omega)]at g;refine⟨JG k,b,a,bs (x:=qE f qs s k o7 o8) rfl (ab e (ab (aO g (ab (cZ (ρ3:=qE f qs ⟨t.ps++[t.pl],t.bs,t.pl⟩ k b a) rfl rfl rfl rfl (by rw[aaa];exact c) ?_) (ab (aq (ρ3:=qE f qs (jh f k t) k b a) (ag rfl (ae (ρ3:=qE f qs ⟨t.ps++[t.pl],t.bs,t.pl⟩ k b a) rfl rfl (ze (n:=n) (aap h)) rfl) rfl rfl rfl) rfl rfl rfl) rfl))) rfl))⟩;show _=[JJ f.rows,JK f,JM qs,some (Il (t.ps++[t.pl])),some (Il t.bs),JG t.pl,JG k,b,a];rw[bR];rfl
theorem qt{f:Cf}{qs:Pz}(i:∀q∈qs,0<=q.1)(u:qs.length<=300)(y:f.rows.length<=200):∀{m k:Nat}{o6 o7 o8:Option OD},k+m=f.rows.length->∃o g d,bc (IU (n+2)) (bX k (m+1)) (qG f qs (mac f qs k) o6 o7 o8)=some (.nx,qG f qs (inner f qs f.rows.length (mac f qs f.rows.length)) o g d)
 |0,k,o6,o7,o8,h=>by
  obtain rfl:k=f.rows.length:=h;have j:(mac f qs f.rows.length).bs.length+qs.length<1000:=by rw[gz i];have:=acb (p:=λq:Int×List Int=>decide (q.1<(f.rows.length:Int))) (l:=qs);omega
  obtain⟨g,d,e⟩:=Af (aag _) j;have r:=Ae (n:=n+2) (f:=f) (qs:=qs) (s:=inner f qs f.rows.length (mac f qs f.rows.length)) (k:=f.rows.length) (o7:=g) (o8:=d);rw[Dab (by omega)]at r;refine⟨JG f.rows.length,g,d,?_⟩;rw[a8];exact bs (bs rfl (ab e (ab (aI r rfl) rfl))) rfl
 |m+1,k,o6,o7,o8,h=>by
  have j:(mac f qs k).bs.length+qs.length<1000:=by rw[gz i];have:=acb (p:=λq:Int×List Int=>decide (q.1<(k:Int))) (l:=qs);omega
  obtain⟨a,b,c,e⟩:=zh (o7:=o7) (o8:=o8) (show k<f.rows.length by omega) j (by rw[bh];omega);obtain⟨x,w,v,t⟩:=qt (n:=n) i u y (m:=m) (k:=k+1) (o6:=a) (o7:=b) (o8:=c) (by omega);refine⟨x,w,v,?_⟩;rw[a8];exact bs e t
abbrev Ic(s:Mc):OD:=.fz (.tuple [.list (s.ps.map PyData.int),.list (s.bs.map PyData.int),.int s.pl])
abbrev Dl(gs:List Int):OD:=.fz (.list (gs.map PyData.int))
abbrev JN(gs:List Int):Option OD:=some (Dl gs)
theorem wg{n:Nat}{f:Cf}{qs:Pz}(h:∀q∈qs,0<=q.1)(a:qs.length<=300)(b:f.rows.length<=200):pl.pg.call (n+3) 31 [Rl f.rows,Lo f,lp qs]=some (Ic (inner f qs f.rows.length (mac f qs f.rows.length)),[Rl f.rows,Lo f,lp qs]):=by
 obtain⟨o6,o7,o8,e⟩:=qt (n:=n) h a b (m:=f.rows.length) (k:=0) (o6:=none) (o7:=none) (o8:=none) (aa2 _);generalize inner f qs f.rows.length (mac f qs f.rows.length)=s at e;have c:(((f.rows.length:Nat):Int)+1).toNat=f.rows.length+1:=by omega
 refine af (fn:=iS) (ρ:=[JJ f.rows,JK f,JM qs,JN s.ps,JN s.bs,JG s.pl,o6,o7,o8]) rfl rfl (ab (n9 (ρ3:=qG f qs ⟨[],[],0⟩ none none none) rfl rfl rfl rfl) (ab (bF (ρ1:=qG f qs ⟨[],[],0⟩ none none none) (c7 (n:=(f.rows.length:Int)+1) (ag (dx:=.int f.rows.length) (dy:=.int 1) (aV rfl rfl (by show some (PyData.int ((f.rows.map R.d).length:Nat))=_;rw[aaa])) rfl rfl rfl rfl) rfl (by omega)) (by rw[c];exact e)) (az (ao (z:=Ic s) (eS (rs:=[.rf 3,.rf 4,.val (It s.pl)]) (ρ1:=qG f qs s o6 o7 o8) (zs:=[Dl s.ps,Dl s.bs,It s.pl]) (ρ2:=[JJ f.rows,JK f,JM qs,JN s.ps,JN s.bs,JG s.pl,o6,o7,o8]) rfl rfl ?_ rfl) rfl)))) rfl;have j:own1 (qG f qs s o6 o7 o8) (.rf 3)=some (Dl s.ps,[JJ f.rows,JK f,JM qs,JN s.ps,some (Il s.bs),JG s.pl,o6,o7,o8]):=by show (frz1 _ (.rf 3)).map _=_;rw[bu rfl (aA _) rfl];rfl
 have i:own1 [JJ f.rows,JK f,JM qs,JN s.ps,some (Il s.bs),JG s.pl,o6,o7,o8] (.rf 4)=some (Dl s.bs,[JJ f.rows,JK f,JM qs,JN s.ps,JN s.bs,JG s.pl,o6,o7,o8]):=by show (frz1 _ (.rf 4)).map _=_;rw[bu rfl (aA _) rfl];rfl
 have g:mapR own1 [JJ f.rows,JK f,JM qs,JN s.ps,some (Il s.bs),JG s.pl,o6,o7,o8] [.rf 4,.val (It s.pl)]=some ([Dl s.bs,It s.pl],[JJ f.rows,JK f,JM qs,JN s.ps,JN s.bs,JG s.pl,o6,o7,o8]):=bs i rfl;exact bs j (by show Option.map _ (mapR own1 _ _)=_;rw[g];rfl)
def C5(c:ρ[i]?.join=JG a)(g:ev C e ρ=some (x,ρ1))(b:aw ρ1 x=some d)(f:lV o a d=some r)(h:ρ1.set i (JG r)=ρ2):cE C (.aug i o e) ρ=some (.nx,ρ2):=bs c (bs rfl (bs rfl (bs g (bs b (bs f (by rw[<-h]))))))
def jc(h:ev C e ρ=some (x,ρ1))(b:own1 ρ1 x=some (z,ρ2))(a:aX t z ρ2=some ρ3):cE C (.asg t e) ρ=some (.nx,ρ3):=bs h (bs b (bs a rfl))
def C6(h:jg C it ρ=some (ds,ρ1))(a:ds.length<1000000)(e:bN ρ1 fr=some zc)(d:cy (uK C tg ke ve) ds ([],[]) (List.replicate nt none++zc.1)=some ((ks,vs),ρ2))(b:i<(bY zc.2 fr (ρ2.drop nt)).length)(c:(bY zc.2 fr (ρ2.drop nt)).set i (some (.dic ks vs))=ρ3):cE C (.sdc i nt fr it tg ke ve) ρ=some (.nx,ρ3):=bs h (bg a (bs e (bs d (bg b (by rw[<-c])))))
abbrev Pq(qs:Pz):OD:=.fz (.list (qs.map Po))
abbrev JO(qs:Pz):Option OD:=some (Pq qs)
abbrev Tn(q:Int×List Int):OD:=.fz (.tuple (q.2.map PyData.int))
abbrev Qk(qs:Pz):List Key:=(qs.map λq=>(q.1,(q.2.length:Int))).map λu=>.inl u.1
abbrev Qv(qs:Pz):List OD:=(qs.map λq=>(q.1,(q.2.length:Int))).map λu=>It u.2
abbrev Qd(qs:Pz):OD:=.dic (Qk qs) (Qv qs)
abbrev JP(qs:Pz):Option OD:=some (Qd qs)
theorem wm:∀{qs ps:Pz}{o0 o1:Option OD},(ps++qs).Pairwise (λx y=>x.1<y.1)->∃b a,cy (uK C (.tp [0,1]) (.nm 0) ecr) (qs.map Po) (Qk ps,Qv ps) [o0,o1]=some ((Qk (ps++qs),Qv (ps++qs)),[b,a])
 |[],ps,o0,o1,_=>⟨o0,o1,by rw[aaq];rfl⟩
 |q::qs,ps,o0,o1,h=>by
  have g:q.1 ∉ (ps.map λq=>(q.1,(q.2.length:Int))).map (·.1):=λz=>by obtain⟨u,f,e⟩:=aas.mp z;obtain⟨x,i,rfl⟩:=aas.mp f;have:=(aaW.mp h).2.2 x i q aab;have e:x.1=q.1:=e;omega
  have e:=putK_new (v:=(q.2.length:Int)) g;obtain⟨b,a,c⟩:=wm (ps:=ps++[q]) (by rw[aad];exact h);rw[aad]at c;refine⟨b,a,bs (x:=((Qk (ps++[q]),Qv (ps++[q])),[JG q.1,some (Tn q)])) ?_ c⟩;refine bs rfl (bs rfl (bs (aV rfl rfl (by show some (PyData.int ((q.2.map PyData.int).length:Nat))=_;rw[aaa])) (bs rfl (bs rfl (bs rfl ?_)))));have d:(ps++[q]).map (λq=>(q.1,(q.2.length:Int)))=ps.map (λq=>(q.1,(q.2.length:Int)))++[(q.1,(q.2.length:Int))]:=aau;show some (bB (.inl q.1) (.int (q.2.length:Int)) (Qk ps) (Qv ps),[JG q.1,some (Tn q)])=some ((List.map _ ((ps++[q]).map _),List.map _ ((ps++[q]).map _)),_);rw[d,e]
abbrev zP(f:Cf)(qs:Pz)(s:Mc)(o7:Option OD):DEnv:=[JJ f.rows,JK f,JO qs,JP qs,some (Il s.ps),some (Il s.bs),JG s.pl,o7]
abbrev zS:Ss:=match F_placed.body with|.cons _ (.cons _ (.cons _ (.cons _ (.cons (.fr _ _ b) _))))=>b|_=>.nil
def Ag:bj (JQ n) ebz (zP f qs s (JG k))=some (decide ((k:Int)<(f.rows.length:Int)),zP f qs s (JG k)):=aN (aC rfl (aV rfl rfl blen) rfl rfl rfl)
def Ah(h:((Qk qs).any λq=>decide (q=.inl (k:Int)))=b):bj (JQ n) IK (zP f qs s (JG k))=some (b,zP f qs s (JG k)):=by rw[<-h];rfl
def Qk_any:((Qk qs).any λq=>decide (q=.inl (k:Int)))=true ↔ ∃q∈qs,q.1=(k:Int):=by
 rw[abJ];constructor
 ·rintro⟨x,c,e⟩;obtain⟨u,b,rfl⟩:=aas.mp c;obtain⟨q,a,rfl⟩:=aas.mp b;have:=Daa e;injection this with this;exact⟨q,a,this⟩
 ·rintro⟨q,a,e⟩;exact⟨.inl q.1,aas.mpr ⟨_,aas.mpr ⟨q,a,rfl⟩,rfl⟩,Dac (by rw[e])⟩
def zi(h:∀x∈a,x.1≠(k:Int))(e:q.1=(k:Int)):(Qk (a++q::b)).findIdx? (λq=>decide (q=.inl (k:Int)))=some a.length:=by
 induction a with
 |nil=>exact(aa3).trans (if_pos (Dac (show (Sum.inl q.1:Key)=.inl (k:Int) by rw[e])))
 |cons x a d=>have f:¬ (decide ((Sum.inl x.1:Key)=.inl (k:Int)))=true:=λz=>h x aab (by have:=Daa z;injection this);refine(aa3).trans ((if_neg f).trans ?_);exact congrArg (Option.map λi=>i+1) (d λy c=>h y (aah _ c))
theorem F2(m:qs.Pairwise λx y=>x.1<y.1)(hk:k<=f.rows.length)(v:s.bs.length<1000)(K:aG (JQ (n+3)) sb (zP f qs (inner f qs k s) (JG k))=r):aG (JQ (n+3)) (.cons eac sb) (zP f qs s (JG k))=r:=by
 by_cases h:∃q∈qs,q.1=(k:Int)
 ·have g:=Ah (n:=n+3) (f:=f) (s:=s) (Qk_any.mpr h);obtain⟨q,c,e⟩:=h;obtain⟨a,b,rfl⟩:=List.append_of_mem c;have l:∀x∈a,x.1≠(k:Int):=λx j=>by have:=(aaW.mp m).2.2 x j q aab;omega
  have d:∀x∈b,x.1≠(k:Int):=λx j=>by have:=(abk.mp (aaW.mp m).2.1).1 x j;omega
  have o:inner f (a++q::b) k s=⟨s.ps,s.bs++[fw f.rows k s.pl],fw f.rows k s.pl+2*q.2.length⟩:=by rw[gx,bw l];show inner f b k (inn f k s q)=_;rw[bw d];exact if_pos e
  have u:(Qv (a++q::b))[a.length]?=JG q.2.length:=by rw[aat,aat,aa4 (aag _),abw];rfl
  have i:∀t:Mc,ak (zP f (a++q::b) t (JG k)) 3 [.key 7]=some (Qd (a++q::b),[a.length],It q.2.length):=λt=>by refine bs rfl (bs ?_ (bs u rfl));exact bs rfl (bs rfl (bs rfl (bs rfl (zi l e))))
  rw[o]at K;refine ab (aO g (ab (cZ (ρ3:=zP f (a++q::b) ⟨s.ps,s.bs++[fw f.rows k s.pl],s.pl⟩ (JG k)) rfl (ae rfl rfl (kW hk) rfl) rfl rfl (by rw[aaa];omega) ?_) (ab (aq (ag (aM rfl rfl rfl (iX rfl ?_)) (ag rfl (cg (i _) rfl) rfl rfl (eY (.inl (by decide)))) rfl rfl rfl) rfl rfl rfl) rfl))) K
  ·show _=[JJ f.rows,JK f,some (Pq (a++q::b)),some (Qd (a++q::b)),some (Il s.ps),some (Il (s.bs++[fw f.rows k s.pl])),JG s.pl,JG k];rw[bR];rfl
  ·rw[aau];have p:ixN (s.bs.map It++[fw f.rows k s.pl].map It).length (-1)=some (s.bs.map It).length:=by unfold ixN;rw[if_neg (by decide),aak,aaa,if_pos (by simp;omega)];congr 1;simp;omega
   exact bs p aaS
 ·have g:=Ah (n:=n+3) (f:=f) (s:=s) (by rw[Bool.eq_false_iff];exact λz=>h (Qk_any.mp z));rw[bw λq c e=>h ⟨q,c,e⟩]at K;exact ab (aI g rfl) K
theorem wq(c:qs.Pairwise λx y=>x.1<y.1)(e:∀q∈qs,0<=q.1)(v:qs.length<=300)(z:f.rows.length<=200):∀{m k:Nat}{o7:Option OD},k+m=f.rows.length->∃g,bc (λd b=>(aX (.nm 7) (.fz d) b).bind λρ1=>aG (JQ (n+3)) zS ρ1) (bX k (m+1)) (zP f qs (mac f qs k) o7)=some (.nx,zP f qs (inner f qs f.rows.length (mac f qs f.rows.length)) g)
 |0,k,o7,h=>by
  obtain rfl:k=f.rows.length:=h;have i:(mac f qs f.rows.length).bs.length<1000:=by rw[gz e];have:=acb (p:=λq:Int×List Int=>decide (q.1<(f.rows.length:Int))) (l:=qs);omega
  have a:=Ag (n:=n+3) (f:=f) (qs:=qs) (s:=inner f qs f.rows.length (mac f qs f.rows.length)) (k:=f.rows.length);rw[Dab (by omega)]at a;refine⟨JG f.rows.length,?_⟩;rw[a8];exact bs (bs rfl (F2 c (aag _) i (ab (aI a rfl) rfl))) rfl
 |m+1,k,o7,h=>by
  have o:k<f.rows.length:=by omega
  have i:(mac f qs k).bs.length<1000:=by rw[gz e];have:=acb (p:=λq:Int×List Int=>decide (q.1<(k:Int))) (l:=qs);omega
  have a:=Ag (n:=n+3) (f:=f) (qs:=qs) (s:=inner f qs k (mac f qs k)) (k:=k);rw[Dac (by omega)]at a;have w:mac f qs (k+1)=jh f k (inner f qs k (mac f qs k)):=rfl;have u:(inner f qs k (mac f qs k)).ps.length<1000000:=by rw[bx,bh];omega
  obtain⟨t,j⟩:=wq c e v z (m:=m) (k:=k+1) (o7:=JG k) (by omega);rw[w]at j;refine⟨t,?_⟩;rw[a8];refine bs (x:=(Fl.nx,zP f qs (jh f k (inner f qs k (mac f qs k))) (JG k))) (bs (x:=zP f qs (mac f qs k) (JG k)) rfl (F2 c (aaU o) i ?_)) j;generalize inner f qs k (mac f qs k)=s at *;refine ab (aO a (ab (cZ (ρ3:=zP f qs ⟨s.ps++[s.pl],s.bs,s.pl⟩ (JG k)) rfl rfl rfl rfl (by rw[aaa];exact u) ?_) (ab (C5 (r:=s.pl+sz f k) (ρ2:=zP f qs (jh f k s) (JG k)) rfl (ae (ρ3:=zP f qs ⟨s.ps++[s.pl],s.bs,s.pl⟩ (JG k)) rfl rfl (ou (n:=n+1) (aap o)) rfl) rfl rfl rfl) rfl))) rfl;show _=[JJ f.rows,JK f,JO qs,JP qs,some (Il (s.ps++[s.pl])),some (Il s.bs),JG s.pl,JG k];rw[bR];rfl
theorem qu(b:qs.Pairwise λx y=>x.1<y.1)(j:∀q∈qs,0<=q.1)(d:qs.length<=300)(g:f.rows.length<=200):pl.pg.call (n+4) 6 [Rl f.rows,Lo f,Pq qs]=some (Ic (inner f qs f.rows.length (mac f qs f.rows.length)),[Rl f.rows,Lo f,Pq qs]):=by
 obtain⟨a,e⟩:=wq b j d g (aa2 _);generalize inner f qs f.rows.length (mac f qs f.rows.length)=s at e;have h:(((f.rows.length:Nat):Int)+1).toNat=f.rows.length+1:=by omega
 obtain⟨p,o,c⟩:=wm (ps:=[]) b;have l:cE (JQ (n+3)) ea8 [JJ f.rows,JK f,JO qs,none,none,none,none,none]=some (.nx,[JJ f.rows,JK f,JO qs,JP qs,none,none,none,none]):=C6 (bo rfl rfl rfl) (by rw[aaa];omega) rfl c (by show 3<8;decide) rfl;refine af rfl rfl (ab l (ab rfl (ab rfl (ab rfl (ab (bF (c7 (ag (aV rfl rfl blen) rfl rfl rfl rfl) rfl (by omega)) (by rw[h];exact e)) (az (ao (eS (zs:=[Dl s.ps,Dl s.bs,It s.pl]) (ρ2:=[JJ f.rows,JK f,JO qs,JP qs,JN s.ps,JN s.bs,JG s.pl,a]) rfl rfl ?_ rfl) rfl))))))) rfl;have m:own1 (zP f qs s a) (.rf 4)=some (Dl s.ps,[JJ f.rows,JK f,JO qs,JP qs,JN s.ps,some (Il s.bs),JG s.pl,a]):=by show (frz1 _ (.rf 4)).map _=_;rw[bu rfl (aA _) rfl];rfl
 have k:own1 [JJ f.rows,JK f,JO qs,JP qs,JN s.ps,some (Il s.bs),JG s.pl,a] (.rf 5)=some (Dl s.bs,[JJ f.rows,JK f,JO qs,JP qs,JN s.ps,JN s.bs,JG s.pl,a]):=by show (frz1 _ (.rf 5)).map _=_;rw[bu rfl (aA _) rfl];rfl
 have i:mapR own1 [JJ f.rows,JK f,JO qs,JP qs,JN s.ps,some (Il s.bs),JG s.pl,a] [.rf 5,.val (It s.pl)]=some ([Dl s.bs,It s.pl],[JJ f.rows,JK f,JO qs,JP qs,JN s.ps,JN s.bs,JG s.pl,a]):=bs k rfl;exact bs m (by show Option.map _ (mapR own1 _ _)=_;rw[i];rfl)
theorem eh:∀ns:List Int,iw (ns.map PyData.int)=some ns
 |[]=>rfl
 |n::ns=>bs rfl (bs (eh ns) rfl)
def C7(h:x<=y):mV .le (.int x) (.int y)=some true:=by show some (decide (x<=y))=_;rw[Dac h]
def Jv{ls:List Int}:mV .inn (.int x) (.tuple (ls.map PyData.int))=some (decide (x∈ls)):=bs (f:=λa=>(gd (Bv (PyData.int x)=true)).bind λ_=>memD (.int x) a) rfl (bg rfl iY)
def Ie{ls:List Int}:mV .nin (.int x) (.tuple (ls.map PyData.int))=some (!decide (x∈ls)):=bs (Jv ) rfl
def t_cmp2(h:ev C (.cmp2 o o' x y z) ρ=some (.val (.fz (.bool k)),ρ1)):bj C (.cmp2 o o' x y z) ρ=some (k,ρ1):=bs h rfl
structure Pok (N:Nat)(q:Int×List Int):Prop where
 lo:0<=q.1
 hi:q.1<=N
 ne:q.2≠[]
 nd:q.2.Nodup
 ln:q.2.length<=100
 nb:∀x∈q.2,100<=x/\x<=99999999
def Pok.pos(h:Pok N q):1<=q.2.length:=List.length_pos_iff.mpr h.ne
def sG:pl.pg.call (n+1) 7 [.fz (.tuple [.int r0,.int r1]),It p,It b]=some (.fz (.bool (decide (b-p<=r1/\p-b<=r0))),[.fz (.tuple [.int r0,.int r1]),It p,It b]):=by
 have c:=jc (C:=JQ n) (t:=.tp [3,4]) (e:=.nm 0) (ρ:=[some (.fz (.tuple [.int r0,.int r1])),JG p,JG b,none,none]) rfl rfl rfl;by_cases a:p-b<=r0
 ·refine af rfl rfl (ab c (az (ao (vG (aC rfl rfl rfl rfl (C7 a)) (aC rfl rfl rfl rfl ?_)) rfl))) rfl;show some (decide (b-p<=r1))=_;simp only[a,and_true]
 ·rw[Dab λz=>a z.2];exact af rfl rfl (ab c (az (ao (kK (aC rfl rfl rfl rfl (show some (decide (p-b<=r0))=some false by rw[Dab a]))) rfl))) rfl
abbrev fin(f:Cf)(qs:Pz):Mc:=inner f qs f.rows.length (mac f qs f.rows.length)
def Sv(f:Cf)(qs:Pz)(r0 r1:Int)(z:Int×Int):Prop:=∃(i j:Nat) (p b:Int) (q:Int×List Int),z=((i:Int),(j:Int))/\(fin f qs).ps[i]?=some p/\(fin f qs).bs[j]?=some b/\qs[j]?=some q/\nu f i∈q.2/\b-p<=r1/\p-b<=r0/\∃x y,f.rows[i]?=some (.st x y)
structure Pf (f:Cf)(qs:Pz)(us:List Int)(r0 r1:Int):Prop where
 ok:∀q∈qs,Pok f.rows.length q
 inc:qs.Pairwise λx y=>x.1<y.1
 ql:qs.length<=300
 ul:us.length=(gIx 0 f.rows).length
 sv:∀z∈(gIx 0 f.rows).zip us,Sv f qs r0 r1 z
 uq:∀u∈us,0<=u/\u<qs.length
abbrev Ra(r0 r1:Int):OD:=.fz (.tuple [.int r0,.int r1])
abbrev Fp(qs:Pz)(us:List Int):OD:=.fz (.tuple [.list (qs.map Po),.list (us.map PyData.int)])
abbrev Zp(z:Int×Int):PyData:=.tuple [.int z.1,.int z.2]
theorem en:∀{gs us:List Int},fZ (gs.map PyData.int) (us.map PyData.int)=(gs.zip us).map Zp
 |[],us=>by unfold fZ;simp
 |g::gs,[]=>by unfold fZ;simp
 |g::gs,u::us=>congrArg (Zp (g,u)::·) (en (gs:=gs) )
abbrev sE(f:Cf)(qs:Pz)(us:List Int)(r0 r1:Int)(o8 o9:Option OD):DEnv:=[JJ f.rows,JK f,some (Ra r0 r1),JO qs,JN us,JN (fin f qs).ps,JN (fin f qs).bs,JG (fin f qs).pl,o8,o9]
abbrev sB:Ss:=match F_all_served.body with|.cons _ (.cons (.fr _ _ b) _)=>b|_=>.nil
def k8{l:List Int}{i:Nat}(h:l[i]?=some p):atI (l.map PyData.int) (i:Int)=some (.int p):=b8 (by rw[aat,h];rfl)
def Sw(f:Cf)(qs:Pz)(z:Int×Int):Prop:=∃(i j:Nat) (p b:Int) (q:Int×List Int),z=((i:Int),(j:Int))/\(fin f qs).ps[i]?=some p/\(fin f qs).bs[j]?=some b/\qs[j]?=some q/\nu f i∈q.2/\∃x y,f.rows[i]?=some (.st x y)
def Rr(f:Cf)(qs:Pz)(r0 r1:Int)(z:Int×Int):Prop:=((fin f qs).bs[z.2.toNat]?).getD 0-((fin f qs).ps[z.1.toNat]?).getD 0<=r1/\((fin f qs).ps[z.1.toNat]?).getD 0-((fin f qs).bs[z.2.toNat]?).getD 0<=r0
instance {f:Cf}{qs:Pz}{r0 r1:Int}{z:Int×Int}:Decidable (Rr f qs r0 r1 z):=by unfold Rr;infer_instance
def Rr.iff{i j:Nat}(a:(fin f qs).ps[i]?=some p)(c:(fin f qs).bs[j]?=some b):Rr f qs r0 r1 ((i:Int),(j:Int)) ↔ b-p<=r1/\p-b<=r0:=by unfold Rr;simp only[aaM,a,c,Option.getD_some]
def Sv.two(h:Sv f qs r0 r1 z):Sw f qs z/\Rr f qs r0 r1 z:=by obtain⟨i,j,p,b,q,rfl,c,a,g,k,e,d,l⟩:=h;exact⟨⟨i,j,p,b,q,rfl,c,a,g,k,l⟩,(Rr.iff c a).mpr ⟨e,d⟩⟩
def Sv.of{z:Int×Int}(h:Sw f qs z)(h':Rr f qs r0 r1 z):Sv f qs r0 r1 z:=by obtain⟨i,j,p,b,q,rfl,c,a,e,g,k⟩:=h;obtain⟨d,l⟩:=(Rr.iff c a).mp h';exact⟨i,j,p,b,q,rfl,c,a,e,g,d,l,k⟩
def oB(h:Sw f qs z):aG (JQ (n+1)) sB (sE f qs us r0 r1 (JG z.1) (JG z.2))=some (if Rr f qs r0 r1 z then .nx else .rt (.fz (.bool false)),sE f qs us r0 r1 (JG z.1) (JG z.2)):=by
 obtain⟨i,j,p,b,q,rfl,k,g,s,o,x,y,m⟩:=h;have r:atI (qs.map Po) (j:Int)=some (Po q):=b8 (by rw[aat,s];rfl);rw[nu_is m]at o;obtain⟨a,e⟩:∃a,a=sE f qs us r0 r1 (JG i) (JG j):=⟨_,rfl⟩
 have l:bj (JQ (n+1)) ea7 a=some (false,a):=by rw[e];exact aN (aC (aM (aM rfl rfl rfl (bp (eZ m))) rfl rfl (ba (b8 rfl))) (aM (aM rfl rfl rfl (bp r)) rfl rfl (ba (b8 rfl))) rfl rfl (by rw[Ie,Dac o];rfl))
 have c:bj (JQ (n+1)) eaz a=some (!decide (b-p<=r1/\p-b<=r0),a):=by rw[e];exact cI (aW (ae (aa rfl (aa (aM rfl rfl rfl (bp (k8 k))) (aa (aM rfl rfl rfl (bp (k8 g))) ah))) rfl (sG ) rfl))
 show aG _ _ (sE f qs us r0 r1 (JG i) (JG j))=_;rw[<-e];by_cases d:b-p<=r1/\p-b<=r0
 ·rw[Dac d]at c;rw[if_pos ((Rr.iff k g).mpr d)];exact ab (aI (cz l c) rfl) rfl
 ·rw[Dab d]at c;rw[if_neg (λz=>d ((Rr.iff k g).mp z))];exact az (aO (cz l c) (az rfl))
theorem serve_walk:∀{zs:List (Int×Int)}{o8 o9:Option OD},(∀z∈zs,Sw f qs z)->∃k i,bc (λd j=>(aX (.tp [8,9]) (.fz d) j).bind λρ1=>aG (JQ (n+1)) sB ρ1) (zs.map Zp) (sE f qs us r0 r1 o8 o9)=some (if ∀z∈zs,Rr f qs r0 r1 z then .nx else .rt (.fz (.bool false)),sE f qs us r0 r1 k i)
 |[],o8,o9,_=>⟨o8,o9,by rw[if_pos (λz l=>absurd l aan)];rfl⟩
 |z::zs,o8,o9,h=>by
  have hs:=oB (n:=n) (us:=us) (r0:=r0) (r1:=r1) (h z aab);by_cases g:Rr f qs r0 r1 z
  ·rw[if_pos g]at hs;obtain⟨a,b,e⟩:=serve_walk λx c=>h x (aah _ c);refine⟨a,b,bs (bs rfl hs) (e.trans ?_)⟩;have:(∀x∈z::zs,Rr f qs r0 r1 x) ↔ ∀x∈zs,Rr f qs r0 r1 x:=⟨λq x c=>q x (aah _ c),λq x c=>(aac.mp c).elim (λe=>e▸g) (q x)⟩
   simp only[this]
  ·rw[if_neg g]at hs;refine⟨JG z.1,JG z.2,bs (bs rfl hs) ?_⟩;rw[if_neg (λq=>g (q z aab))]
def Pf.pos(h:Pf f qs us r0 r1):∀q∈qs,0<=q.1:=λq a=>(h.ok q a).lo
def sH(d:qs.Pairwise λx y=>x.1<y.1)(pos:∀q∈qs,0<=q.1)(o:qs.length<=300)(m:∀z∈(gIx 0 f.rows).zip us,Sw f qs z)(l:f.rows.length<=200):pl.pg.call (n+5) 8 [Rl f.rows,Lo f,Ra r0 r1,Pq qs,Dl us]=some (.fz (.bool (decide (∀z∈(gIx 0 f.rows).zip us,Rr f qs r0 r1 z))),[Rl f.rows,Lo f,Ra r0 r1,Pq qs,Dl us]):=by
 have j:=qu (n:=n) d pos o l;obtain⟨a,b,e⟩:=serve_walk m;have h:=dY (n:=n+2) (rs:=f.rows) (by omega);have k:(JQ (n+4)).call=pl.pg.call (n+4):=rfl;rw[<-k]at j h;have g:jg (JQ (n+4)) ecc (sE f qs us r0 r1 none none)=some (((gIx 0 f.rows).zip us).map Zp,sE f qs us r0 r1 none none):=by rw[<-en];exact i_zipQ (ae rfl rfl h rfl) rfl (by simp only[frz1,aA];rfl) rfl rfl rfl
 have i:=jc (t:=.tp [5,6,7]) (e:=.call 6 ebv) (ae (ρ:=[JJ f.rows,JK f,some (Ra r0 r1),JO qs,JN us,none,none,none,none,none]) rfl rfl j rfl) rfl rfl;by_cases c:∀z∈(gIx 0 f.rows).zip us,Rr f qs r0 r1 z
 ·rw[if_pos c]at e;rw[Dac c];exact af rfl rfl (ab i (ab (bF g e) (az rfl))) rfl
 ·rw[if_neg c]at e;rw[Dab c];exact af rfl rfl (ab i (az (bF g e))) rfl
def Ai(g:Nb f.rows)(h:x∈nm f):100<=x/\x<=99999999:=by
 obtain⟨r,e,rfl⟩:=aas.mp h;obtain⟨i,d⟩:=abO.mp e;refine⟨?_,g r i⟩;cases r with
 |st a k=>exact Daa d
 |ot a b c=>cases d
theorem jd:∀us:List (Int×Int),(us.map (·.1)).zip (us.map (·.2))=us
 |[]=>rfl
 |u::us=>congrArg (u::·) (jd us)
def Rq(f:Cf)(g:G):Prop:=∀(j:Nat) (w:List Int),g.words[j]?=some w->∀x∈w,∃u∈g.us,u.2=(j:Int)/\nu f u.1=x
theorem mM{f:Cf}:∀{wt:List (Int×Int)}{ns:List Int}{x:Int},x∈wt.foldl (λns q=>addN ns (nu f q.1)) ns->x∈ns\/∃q∈wt,nu f q.1=x
 |[],ns,x,h=>.inl h
 |q::wt,ns,x,h=>by
  rcases mM (wt:=wt) h with h|⟨p,a,e⟩
  ·rcases mK h with h|h
   ·exact .inl h
   ·exact .inr ⟨q,aab,h.symm⟩
  ·exact .inr ⟨p,aah _ a,e⟩
def get_snoc{b:Type}{l:List b}{a x:b}{j:Nat}(h:(l++[a])[j]?=some x):l[j]?=some x\/(j=l.length/\x=a):=by
 by_cases c:j<l.length
 ·rw[aaR c]at h;exact .inl h
 ·rw[aa4 (by omega)]at h;obtain⟨f,d⟩:=aaj.mp h;rw[aaB]at f;have e:j-l.length=0:=by omega
  refine .inr ⟨by omega,?_⟩;rw[<-d];simp[e]
def Rq.more{f:Cf}{g g':G}{vs:List (Int×Int)}(V:Rq f g)(b:g'.words=g.words)(c:g'.us=g.us++vs):Rq f g':=λj w a x h=>by rw[b]at a;obtain⟨u,e,d⟩:=V j w a x h;exact⟨u,by rw[c];exact aaf _ e,d⟩
def Rq.ow{f:Cf}{g:G}{k:Nat}(I:Iv f g k k)(V:Rq f g):Rq f (laysG f g k):=by
 unfold laysG;split
 ·intro j w a x b;rcases get_snoc a with a|⟨rfl,rfl⟩
  ·obtain⟨u,i,d⟩:=V j w a x b;exact⟨u,aaf _ i,d⟩
  ·rcases mM b with h|⟨q,c,e⟩
   ·exact absurd h aan
   ·exact⟨(q.1,(g.gaps.length:Int)),aae _ (aas.mpr ⟨q,c,rfl⟩),by rw[I.wl],e⟩
 ·exact V
def Rq.come{f:Cf}{g g':G}{a:Int}(l:g.words.length=g.gaps.length)(V:Rq f g)(C:Come f g a g'):Rq f g':=by
 cases C with
 |put h p k n=>
  rename_i i w;intro j m c x b;have o:g.gaps.length=i.length+1:=by rw[<-l,h,aak];rfl
  rcases get_snoc c with c|⟨rfl,rfl⟩
  ·obtain⟨u,e,d⟩:=V j m (by rw[h,aaR (aaj.mp c).1];exact c) x b;exact⟨u,aaf _ e,d⟩
  ·rcases aai.mp b with b|b
   ·obtain⟨u,e,d⟩:=V i.length w (by rw[h];simp) x b;exact⟨u,aaf _ e,d⟩
   ·refine⟨(a,(g.gaps.length:Int)-1),aae _ aab,?_,(aao.mp b).symm⟩;show (g.gaps.length:Int)-1=_;omega
 |got h k n=>exact V.more rfl rfl
 |wait h=>exact V.more (vs:=[]) rfl (aaq _).symm
def zj(W:Gone f k g):Rq f g:=by
 induction W with
 |zero=>exact λj w h=>by simp at h
 |@step k g g2 h hk I C ih=>
  have V:=Rq.ow I ih;have b:=(Iv.ow I).wl;cases a:(f.rows[k]?).elim false R.gr with
  |true=>exact(Rq.come b V (C.gr a)).more rfl (aaq _).symm
  |false=>rw[C.no a];exact V.more rfl (aaq _).symm
def Rw(f:Cf)(qs:Pz)(us:List Int):Prop:=∀(j:Nat) (q:Int×List Int),qs[j]?=some q->∀x∈q.2,∃z∈(gIx 0 f.rows).zip us,z.2=(j:Int)/\nu f z.1=x
def Come.uniq(o:g.wt≠[]->g.words≠[]->f.r0<g.pl-g.bg)(t:Come f g a g1)(n:Come f g a g2):g1=g2:=by
 have d:∀{i k:List (List Int)}{w r:List Int},g.words=i++[w]->g.words=k++[r]->i=k/\w=r:=λe c=>by obtain⟨x,y⟩:=abx (e.symm.trans c) rfl;exact⟨x,abM y |>.1⟩
 have s:∀{i:List (List Int)}{w:List Int},g.words=i++[w]->nu f a∈w->g.pl-g.bg<=f.r0->(∀i w,g.words=i++[w]->g.wt=[]->(nu f a∈w/\f.r0<g.pl-g.bg)\/(nu f a ∉ w/\f.r0<g.pl+2-g.bg))->False:=λ{i w} e j p h=>by
  by_cases m:g.wt=[]
  ·rcases h i w e m with h|h
   ·omega
   ·exact h.1 j
  ·have:=o m (by rw[e];simp);omega
 cases t with
 |put e m j p=>
  cases n with
  |put c _ _ _=>obtain⟨rfl,rfl⟩:=d e c;rfl
  |got c b _=>exact absurd ((d e c).2▸b) j
  |wait h=>rcases h _ _ e m with h|h;exact absurd h.1 j;omega
 |got e j p=>
  cases n with
  |put c _ b _=>exact absurd ((d e c).2▸j) b
  |got c _ _=>rfl
  |wait h=>exact(s e j p h).elim
 |wait h=>
  cases n with
  |put c q b l=>rcases h _ _ c q with h|h;exact absurd h.1 b;omega
  |got c b l=>exact(s c b l h).elim
  |wait _=>rfl
theorem Gone.uniq:∀{k:Nat}{g g':G},Gone f k g->Gone f k g'->g=g'
 |0,_,_,.zero,.zero=>rfl
 |k+1,_,_,.step h hk I C,.step h' _ _ C'=>by
  obtain rfl:=Gone.uniq h h';refine congrArg (jt · (sz f k)) ?_;cases a:(f.rows[k]?).elim false R.gr with
  |true=>exact Come.uniq (Iv.ow I).far (C.gr a) (C'.gr a)
  |false=>rw[C.no a,C'.no a]
theorem C8(J:f.rows.length<=200)(hc:(f.rows.filter R.gr).length<=60)(hb:Nb f.rows)(h0:0<=f.r0)(h6:6<=f.r1):∃qs us,(∀n,pl.pg.call (n+6) 17 [Rl f.rows,Lo f,Re f]=some (Pn qs us,[Rl f.rows,Lo f,Re f]))/\Pf f qs us f.r0 f.r1/\Rw f qs us:=by
 obtain⟨g,_,Z,m,L,I,W⟩:=qp (n:=0) J;have e:∀n,pl.pg.call (n+6) 17 [Rl f.rows,Lo f,Re f]=some (Pn (g.gaps.zip g.words) (g.us.map (·.2)),[Rl f.rows,Lo f,Re f]):=λn=>by obtain⟨g',M,N,t,_,_,T⟩:=qp J;rw[M,t,Gone.uniq T W,<-m]
 have V:=end_kv h0 h6 m L W;have B:=mJ (f:=f) (g:=Z);rw[<-m]at B;have h:g.us.map (·.1)=gIx 0 f.rows:=by have:=I.ix;rw[B,aaC,aaq,abl]at this;exact this
 have X:g.us.length=(gIx 0 f.rows).length:=by rw[<-h,aaa]
 have a0:=cj (rs:=f.rows) (i:=0);have A:=Rq.ow L (zj W);rw[<-m]at A;refine⟨_,_,e,⟨λq l=>?_,V.inc,?_,by rw[aaa];exact X,λz a=>?_,λu o=>?_⟩,λj q l x w=>?_⟩
 ·obtain⟨d,d1,d2⟩:=V.lt q l;have c:=(aaZ l).2;obtain⟨w1,U,S⟩:=V.wd q.2 c;have:=I.wn q.2 c;exact⟨by omega,by omega,w1,U,by omega,λx w=>Ai hb (S x w)⟩
 ·have:=I.gl;rw[abe];omega
 ·rw[<-h,jd]at a;obtain⟨i,j,p,b,q,H,F,C,D,v,O,e7,Q,_⟩:=V.use z a;have c:z.1∈gIx 0 f.rows:=by rw[<-h];exact aas.mpr ⟨z,a,rfl⟩
  obtain⟨k,r,k1,k2,Y⟩:=cG c;obtain⟨x,y,rfl⟩:=gr_st Y;obtain rfl:k=i:=by omega
  exact⟨k,j,p,b,q,Prod.ext H F,C,D,v,O,e7,Q,x,y,k2⟩
 ·obtain⟨z,a,rfl⟩:=aas.mp o;obtain⟨i,j,p,b,q,H,F,C,D,v,_⟩:=V.use z a;have:=(aaj.mp v).1;show 0<=z.2/\z.2<_;omega
 ·obtain⟨h1,P⟩:=aaj.mp l;have s:g.words[j]?=some q.2:=by have:=congrArg Prod.snd P;rw[List.getElem_zip]at this;rw[abe]at h1;exact aaj.mpr ⟨by omega,this⟩
  obtain⟨u,u1,u2,u3⟩:=A j q.2 s x w;exact⟨u,by rw[<-h,jd];exact u1,u2,u3⟩
abbrev Tc(c:List Int):PyData:=.tuple (c.map PyData.int)
def nxc(c:List Int)(lo:Int):Nat->List (List Int)
 |0=>[]
 |m+1=>(c++[lo])::nxc c (lo+1) m
def grow(N:Nat)(cs:List (List Int)):List (List Int):=cs.flatMap λc=>nxc c 0 (N+1)
def dq(N:Nat):Nat->List (List Int)
 |0=>[[]]
 |k+1=>grow N (dq N k)
theorem nxc_mem:∀{m:Nat}{lo:Int},d∈nxc c lo m ↔ ∃g,lo<=g/\g<lo+m/\d=c++[g]
 |0,lo=>⟨λh=>absurd h aan,λ⟨g,b,a,_⟩=>by omega⟩
 |m+1,lo=>by
  rw[nxc,aac,nxc_mem (m:=m)];constructor
  ·rintro (rfl|⟨g,b,a,rfl⟩)
   ·exact⟨lo,by omega,by omega,rfl⟩
   ·exact⟨g,by omega,by omega,rfl⟩
  ·rintro⟨g,b,a,rfl⟩;by_cases e:g=lo
   ·subst e;exact .inl rfl
   ·exact .inr ⟨g,by omega,by omega,rfl⟩
theorem nxc_len:∀{m:Nat}{lo:Int},(nxc c lo m).length=m
 |0,_=>rfl
 |m+1,_=>congrArg (·+1) nxc_len
theorem mN:∀{cs:List (List Int)},(grow N cs).length=cs.length*(N+1)
 |[]=>(Nat.zero_mul _).symm
 |c::cs=>by show (nxc c 0 (N+1)++grow N cs).length=_;rw[aak,nxc_len,mN,aaw,acF,Nat.add_comm]
theorem dr:∀{k:Nat}{c:List Int},c∈dq N k->c.length=k/\∀g∈c,0<=g/\g<=(N:Int)
 |0,c,h=>by rw[aao.mp h];exact⟨rfl,λg b=>absurd b aan⟩
 |k+1,c,h=>by
  obtain⟨d,f,i⟩:=List.mem_flatMap.mp h;obtain⟨g,l,m,rfl⟩:=nxc_mem.mp i;obtain⟨j,e⟩:=dr f;refine⟨by rw[aak,j];rfl,λx a=>?_⟩;rcases aai.mp a with a|a
  ·exact e x a
  ·rw[aao.mp a];omega
theorem k9:∀{k:Nat},(dq N k).length=(N+1)^k
 |0=>rfl
 |k+1=>by rw[dq,mN,k9,Nat.pow_succ]
def C9(f:ev C a ρ=some (x,ρ1))(e:ev C b ρ1=some (y,ρ2))(g:BG ρ2 x=some dx)(c:BG ρ2 y=some dy)(d:dy≠[]/\dx.length+dy.length<=1000000):ev C (.catV a b) ρ=some (.val (.fz (.tuple (dx++dy))),ρ2):=bs f (bs e (bs g (bs c (bg d rfl))))
abbrev Gy:E:=.catV (.nm 0) (.tup edk)
theorem qw(d:c.length<=1000):∀{m:Nat}{lo:Int}{out:List PyData}{o1:Option OD},∃a,aT (yb C (.nm 1) Gy) (bX lo m) out [some (.fz (Tc c)),o1,some x2]=some (out++(nxc c lo m).map Tc,[some (.fz (Tc c)),a,some x2])
 |0,lo,out,o1=>⟨o1,by rw[nxc,aaC,aaq];rfl⟩
 |m+1,lo,out,o1=>by
  obtain⟨b,e⟩:=qw d;refine⟨b,?_⟩;rw[a8];refine bs (x:=([Tc (c++[lo])],[some (.fz (Tc c)),JG lo,some x2])) ?_ (e.trans ?_)
  ·refine bs rfl (bs (C9 rfl rfl rfl rfl ⟨by simp,by rw[aaa];simp;omega⟩) (bs rfl ?_));show some ([PyData.tuple (c.map PyData.int++[.int lo])],_)=some ([PyData.tuple ((c++[lo]).map PyData.int)],_);rw[aau];rfl
  ·rw[nxc,aam,aad];rfl
abbrev Ig:It':=.rg1 ebu
theorem mO(i:rs.length<=1000):∀{cs:List (List Int)}{out:List PyData}{o0 o1:Option OD},(∀c∈cs,c.length<=1000)->out.length+cs.length*(rs.length+1)<1000000->∃b a,cy (pv C (.nm 0) Ig (.nm 1) Gy) (cs.map Tc) out [o0,o1,JJ rs]=some (out++(grow rs.length cs).map Tc,[b,a,JJ rs])
 |[],out,o0,o1,_,_=>⟨o0,o1,by rw[show grow rs.length []=[] from rfl,aaC,aaq];rfl⟩
 |c::cs,out,o0,o1,h,hl=>by
  rw[aaw,acF]at hl;obtain⟨a,k⟩:=qw (h c aab);obtain⟨f,g,e⟩:=mO i (out:=out++(nxc c 0 (rs.length+1)).map Tc) (λd j=>h d (aah _ j)) (by rw[aak,aaa,nxc_len];omega);refine⟨f,g,bs (bs rfl (bs (x:=(bX 0 (rs.length+1),[some (.fz (Tc c)),o1,JJ rs])) ?_ (bg ?_ k))) (e.trans ?_)⟩
  ·have:=c7 (C:=C) (e:=.bop .add ect (.int 1)) (ρ:=[some (.fz (Tc c)),o1,JJ rs]) (ag (aV rfl rfl blen) rfl rfl rfl rfl) rfl (by omega);rw[show ((rs.length:Int)+1).toNat=rs.length+1 by omega]at this;exact this
  ·show out.length+(bX 0 (rs.length+1)).length<1000000;rw[cL];omega
  ·rw[aad,<-aau];rfl
abbrev Cl(cs:List (List Int)):OD:=.lst ((cs.map Tc).map OD.fz)
def zk(b:rs.length<=1000)(d:∀c∈cs,c.length<=1000)(h:cs.length*(rs.length+1)<1000000):aG (JQ n) (.cons (.sc2 1 2 [0] (.seq (.nm 1)) (.nm 0) Ig (.nm 1) Gy) .nil) [JJ rs,some (Cl cs),JG a]=some (.nx,[JJ rs,some (Cl (grow rs.length cs)),JG a]):=by obtain⟨f,i,e⟩:=mO b d (by rw[aaG];omega);have g:cs.length<=cs.length*(rs.length+1):=Nat.le_mul_of_pos_right _ (Nat.succ_pos _);refine ab (bs (bo rfl (bu rfl (bO _) rfl) rfl) (bg (by rw[aaa];omega) (bs rfl (bs e (bg (by show 1<3;decide) rfl))))) rfl
theorem qx(g:rs.length<=6):∀{gs:List Int}{k:Nat}{o:Option OD},k+gs.length<=4->∃b,bc (λd f=>(aX (.nm 2) (.fz d) f).bind λρ1=>aG (JQ n) (.cons (.sc2 1 2 [0] (.seq (.nm 1)) (.nm 0) Ig (.nm 1) Gy) .nil) ρ1) (gs.map PyData.int) [JJ rs,some (Cl (dq rs.length k)),o]=some (.nx,[JJ rs,some (Cl (dq rs.length (k+gs.length))),b])
 |[],k,o,_=>⟨o,rfl⟩
 |a::gs,k,o,h=>by
  rw[aaw]at h;obtain⟨b,e⟩:=qx g (gs:=gs) (k:=k+1) (by omega);have j:(dq rs.length k).length<=343:=by rw[k9];exact aav (ac6 (show rs.length+1<=7 by omega) k) (aav (ac7 (by decide) (show k<=3 by omega)) (by decide))
  refine⟨b,bs (bs rfl (zk (by omega) (λc i=>by rw[(dr i).1];omega) (abU (Nat.mul_le_mul j (show rs.length+1<=7 by omega)) (by decide)))) (e.trans ?_)⟩;rw[aaw,Nat.add_assoc,Nat.add_comm 1]
def sI(c:rs.length<=6)(d:(gIx 0 rs).length<=4):pl.pg.call (n+3) 18 [Rl rs]=some (Cl (dq rs.length (gIx 0 rs).length),[Rl rs]):=by obtain⟨o,e⟩:=qx c (gs:=gIx 0 rs) (k:=0) (by omega);rw[aa2]at e;have a:=dY (n:=n) (rs:=rs) (by omega);have b:(JQ (n+2)).call=pl.pg.call (n+2):=rfl;rw[<-b]at a;exact af rfl rfl (ab (aq rfl rfl rfl rfl) (ab (bF (bo (ae rfl rfl a rfl) (by simp only[frz1,aA];rfl) rfl) e) (az (ao rfl rfl)))) rfl
def wu{ns:List Int}(b:ev C e ρ=some (x,ρ1))(a:aw ρ1 x=some d)(hs:nN d=some (ns.map PyData.int))(c:ns.length<64):ev C (.sst e) ρ=some (.val (Il (sortI (ns.foldl ddI []))),ρ1):=by have:=gU ns [];rw[aaG]at this;exact bs b (bs a (bs hs (bs (eh ns) (bg (by omega) (bg (by omega) rfl)))))
theorem fky:∀{gs:List Int}{j:Nat}{g:Int},gs.Nodup->gs[j]?=some g->(gs.map λg=>(Sum.inl g:Key)).findIdx? (λq=>decide (q=.inl g))=some j/\gs.findIdx? (λm=>decide (m=g))=some j
 |[],_,_,_,h=>by simp at h
 |v::gs,0,g,_,h=>by cases h;simp[aa3]
 |v::gs,j+1,g,nd,h=>by obtain⟨c,b⟩:=aaA.mp nd;have h:gs[j]?=some g:=h;have a:v≠g:=λe=>c (by rw[e];exact aaV h);obtain⟨f,d⟩:=fky b h;rw[aam,aa3,aa3,f,d,Dab (λe=>a (abN e)),Dab a];exact⟨rfl,rfl⟩
abbrev gDi(gs:List Int)(X:Int->OD):OD:=.dic (gs.map Sum.inl) (gs.map X)
def p_gDi(a:ρ[i]?.join=some (gDi gs X))(b:ρ[j]?.join=JG g)(d:gs.Nodup)(hk:gs[k]?=some g):ak ρ i [.key j]=some (gDi gs X,[k],X g):=by
 have f:ak ρ i []=some (gDi gs X,[],gDi gs X):=by unfold ak;rw[a];rfl
 have e:accN ρ (gDi gs X) (.key j)=some k:=by unfold accN;exact bs b (bs rfl (bs rfl (bs rfl ((fky d hk).1))))
 have c:(gDi gs X).kids[k]?=some (X g):=by show (gs.map X)[k]?=_;rw[aat,hk];rfl
 exact bs f (bs e (bs c rfl))
def qy(j:gs.Nodup)(hk:gs[k]?=some g)(h:∀x,x≠g->Y x=X x):OD.put (Y g) [k] (gDi gs X)=gDi gs Y:=by
 have f:(gDi gs X).kids[k]?=some (X g):=by show (gs.map X)[k]?=_;rw[aat,hk];rfl
 have:(gs.map X).set k (Y g)=gs.map Y:=by
  apply abX;intro i;rw[aat,List.getElem?_set];obtain⟨d,a⟩:=aaj.mp hk;by_cases e:k=i
  ·subst e;rw[if_pos rfl,if_pos (by rw[aaa];exact d),hk];rfl
  ·rw[if_neg e,aat];cases c:gs[i]? with
   |none=>rfl
   |some x=>refine congrArg some (h x λz=>e ?_).symm;obtain⟨l,b⟩:=aaj.mp c;exact(List.getElem_inj j).mp (by rw[a,b,z])
 unfold OD.put;rw[f];show OD.dic _ ((gs.map X).set k _)=_;exact congrArg _ this
theorem qz:∀{gs hs:List Int}{o:Option OD},(hs++gs).Nodup->∃a,cy (EL C (.nm 0) (.nm 0)) (gs.map PyData.int) (hs.map Sum.inl,hs.map λ_=>OD.lst []) [o]=some (((hs++gs).map Sum.inl,(hs++gs).map λ_=>OD.lst []),[a])
 |[],hs,o,_=>⟨o,by rw[aaq];rfl⟩
 |g::gs,hs,o,nd=>by
  obtain⟨a,e⟩:=qz (hs:=hs++[g]) (by rw[aad];exact nd);rw[aad]at e;refine⟨a,bs (x:=(((hs++[g]).map Sum.inl,(hs++[g]).map λ_=>OD.lst []),[JG g])) (bs rfl (bs rfl (bs rfl (bs rfl (bg ?_ ?_))))) e⟩
  ·rw[Bool.eq_false_iff];intro z;obtain⟨q,b,e⟩:=abJ.mp z;obtain⟨u,c,rfl⟩:=aas.mp b;have e:=abN (Daa e);subst e;exact(aaD.mp nd).2.2 u c u aab rfl
  ·rw[aau,aau];rfl
def wst(f:Cf)(W:Int->List Int)(z:Int×Int):Int->List Int:=λh=>if h=z.2 then addN (W h) (nu f z.1) else W h
abbrev wR(f:Cf)(ch gs:List Int)(W:Int->List Int)(o4 o5:Option OD):DEnv:=[JJ f.rows,some (.fz (Tc ch)),JN gs,some (gDi gs λg=>Il (W g)),o4,o5]
abbrev IV:Ss:=match F_plan_of.body with|.cons _ (.cons _ (.cons (.fr _ _ b) _))=>b|_=>.nil
theorem zl(m:gs.Nodup)(r:Gt f z.1)(t:z.2∈gs)(q:∀h,(W h).length<1000):aG (JQ n) IV (wR f ch gs W (JG z.1) (JG z.2))=some (.nx,wR f ch gs (wst f W z) (JG z.1) (JG z.2)):=by
 obtain⟨a,g⟩:=z;obtain⟨i,x,y,l,j⟩:=r;have l:a=i:=l;subst l;obtain⟨k,p⟩:=aaQ.mp t;have o:ak (wR f ch gs W (JG i) (JG g)) 3 [.key 5]=some (gDi gs λg=>Il (W g),[k],Il (W g)):=p_gDi rfl rfl m p;have c:bj (JQ n) ebl (wR f ch gs W (JG i) (JG g))=some (!decide (y∈W g),wR f ch gs W (JG i) (JG g)):=
  n8 (aM (aM rfl rfl rfl (bp (eZ j))) rfl rfl (ba (b8 rfl))) rfl o (aA _) ninL
 have s:wst f W ((i:Int),g)=λh=>if h=g then addN (W h) y else W h:=by unfold wst;rw[nu_is j]
 rw[s];by_cases b:y∈W g
 ·rw[Dac b]at c;have e:(λh=>if h=g then addN (W h) y else W h)=W:=by
   funext h;split
   ·rename_i e;subst e;unfold addN;rw[if_pos b]
   ·rfl
  rw[e];exact ab (aI c rfl) rfl
 ·rw[Dab b]at c;refine ab (aO c (ab (kL (d:=.int y) o ?_ rfl (by rw[aaa];exact abh (q g) (by decide)) ?_) rfl)) rfl
  ·exact bs (bs rfl (bs rfl (bs rfl (bs rfl (eZ j))))) (bs rfl (bs rfl (bs rfl (b8 rfl))))
  ·have:=qy (Y:=λh=>Il (if h=g then addN (W h) y else W h)) m p λx u=>by rw[if_neg u]
   rw[if_pos rfl,show addN (W g) y=W g++[y] from if_neg b,bR]at this;show [JJ f.rows,some (.fz (Tc ch)),JN gs,some (OD.put (.lst ((W g).map It++[It y])) [k] (gDi gs λg=>Il (W g))),JG i,JG g]=_;rw[this]
def qA:(wst f W z h).length<=(W h).length+1:=by
 unfold wst;split
 ·exact i6
 ·exact abr _
theorem qB(j:gs.Nodup):∀{zs:List (Int×Int)}{W:Int->List Int}{o4 o5:Option OD},(∀z∈zs,Gt f z.1/\z.2∈gs)->(∀h,(W h).length+zs.length<1000)->∃g c,bc (λd i=>(aX (.tp [4,5]) (.fz d) i).bind λρ1=>aG (JQ n) IV ρ1) (zs.map Zp) (wR f ch gs W o4 o5)=some (.nx,wR f ch gs (zs.foldl (wst f) W) g c)
 |[],W,o4,o5,_,_=>⟨o4,o5,rfl⟩
 |z::zs,W,o4,o5,h,hw=>by
  simp only[aaw]at hw;obtain⟨a,b,e⟩:=qB j (W:=wst f W z) (λx k=>h x (aah _ k)) λh=>by have:=hw h;have:=qA (f:=f) (W:=W) (z:=z) (h:=h);omega
  exact⟨a,b,bs (bs rfl (zl j (h z aab).1 (h z aab).2 λh=>by have:=hw h;omega)) e⟩
theorem mP{W:Int->List Int}(c:gs.Nodup):∀{hs:List Int}{X:Int->OD}{out:List PyData}{o:Option OD},(∀h∈hs,h∈gs)->(∀h,(X h).dat=some (.list ((W h).map PyData.int)))->∃(b:Int->OD) (a:Option OD),aT (be C (.nm 0) .none (.tup ebm)) (hs.map PyData.int) out [o,some (gDi gs X)]=some (out++(hs.map λg=>(g,W g)).map Po,[a,some (gDi gs b)])
 |[],X,out,o,_,_=>⟨X,o,by simp only[aaC,aaq];rfl⟩
 |g::hs,X,out,o,h,hX=>by
  obtain⟨k,i⟩:=aaQ.mp (h g aab);obtain⟨b,a,e⟩:=mP c (X:=λh=>if h=g then Dl (W g) else X h) (λx d=>h x (aah _ d)) λh=>by
   split
   ·rename_i e;subst e;rfl
   ·exact hX h
  have f:=qy (Y:=λh=>if h=g then Dl (W g) else X h) c i λx d=>if_neg d;rw[if_pos rfl]at f;refine⟨b,a,bs (x:=([Po (g,W g)],[JG g,some (gDi gs λh=>if h=g then Dl (W g) else X h)])) (my rfl (eS (aa rfl (aa (pZ (yN (p_gDi rfl rfl c i) (hX g) rfl) rfl) ah)) rfl rfl rfl) ?_) (e.trans ?_)⟩
  ·show some (Po (g,W g),[JG g,some (OD.put (Dl (W g)) [k] (gDi gs X))])=_;rw[f]
  ·rw[aam,aam,aad];rfl
def ixo(gs:List Int)(g:Int):Int:=((gs.findIdx? λm=>decide (m=g)).getD 0:Nat)
def fj{k:Nat}(a:gs.Nodup)(hk:gs[k]?=some g):ixo gs g=k:=by unfold ixo;rw[(fky a hk).2];rfl
def F3(c:ρ[i]?.join=JN gs)(f:ev C b ρ=some (y,ρ))(a:aw ρ y=some (.int g))(h:gs.length<1000)(d:gs.findIdx? (λm=>decide (m=g))=some j):ev C (.idl i b) ρ=some (.val (It j),ρ):=by
 have e:nmR ρ i=some (.val (Dl gs)):=by unfold nmR;rw[c]
 exact bs e (bs rfl (bs rfl (bs f (bs a (bs rfl (bs rfl (bs rfl (bs (eh gs) (bg (by omega) (bs d rfl))))))))))
theorem qC(b:gs.Nodup)(c:gs.length<1000):∀{hs:List Int}{out:List PyData}{o:Option OD},(∀h∈hs,h∈gs)->∃a:Option OD,aT (be C (.nm 0) .none (.idl 1 (.nm 0))) (hs.map PyData.int) out [o,JN gs]=some (out++(hs.map (ixo gs)).map PyData.int,[a,JN gs])
 |[],out,o,_=>⟨o,by simp only[aaC,aaq];rfl⟩
 |g::hs,out,o,h=>by obtain⟨k,d⟩:=aaQ.mp (h g aab);obtain⟨a,e⟩:=qC b c (λx f=>h x (aah _ f));refine⟨a,bs (x:=([.int (ixo gs g)],[JG g,JN gs])) (my rfl (F3 rfl rfl rfl c (fky b d).2) (by rw[fj b d];rfl)) (e.trans ?_)⟩;rw[aam,aam,aad];rfl
abbrev gsO(ch:List Int):List Int:=sortI (ch.foldl ddI [])
abbrev wo(f:Cf)(ch:List Int):Int->List Int:=((gIx 0 f.rows).zip ch).foldl (wst f) λ_=>[]
def pq(f:Cf)(ch:List Int):Pz:=(gsO ch).map λg=>(g,wo f ch g)
def pu(ch:List Int):List Int:=ch.map (ixo (gsO ch))
def wx:a∈ddI ns m ↔ a∈ns\/a=m:=by
 unfold ddI;split
 ·rename_i h;exact⟨.inl,λz=>z.elim id λe=>e▸h⟩
 ·rw[aai,aao]
theorem qD:∀{l ns:List Int}{a:Int},a∈l.foldl ddI ns ↔ a∈ns\/a∈l
 |[],ns,a=>by simp
 |m::l,ns,a=>by rw[aa6,qD,wx,aac,or_assoc]
theorem jU:∀{l ns:List Int},ns.Nodup->(l.foldl ddI ns).Nodup
 |[],_,h=>h
 |m::l,ns,h=>jU (l:=l) (k7 h)
def gsO_mem:g∈gsO ch ↔ g∈ch:=by rw[(sortI_perm _).mem_iff,qD];exact⟨λh=>h.elim (λz=>absurd z aan) id,.inr⟩
def gsO_nd(ch:List Int):(gsO ch).Nodup:=(sortI_perm _).nodup_iff.mpr (jU abc)
def qH(ch:List Int):(gsO ch).Pairwise (·<·):=by refine((gg _).and (gsO_nd ch)).imp λh=>?_;have:=h.1;have:=h.2;omega
def gsO_len(ch:List Int):(gsO ch).length<=ch.length:=by rw[(sortI_perm _).length_eq];have:=gU ch [];rw[aaG]at this;omega
theorem wo_mem:∀{zs:List (Int×Int)}{W:Int->List Int}{g x:Int},x∈zs.foldl (wst f) W g ↔ x∈W g\/∃z∈zs,z.2=g/\nu f z.1=x
 |[],W,g,x=>by simp
 |z::zs,W,g,x=>by
  rw[aa6,wo_mem];have:x∈wst f W z g ↔ x∈W g\/(z.2=g/\nu f z.1=x):=by
   unfold wst;split
   ·rename_i e;show x∈ddI _ _ ↔ _;rw[wx];exact⟨λh=>h.imp id λh=>⟨e.symm,h.symm⟩,λh=>h.imp id λh=>h.2.symm⟩
   ·rename_i e;exact⟨.inl,λh=>h.elim id λh=>absurd h.1.symm e⟩
  rw[this,or_assoc];refine or_congr Iff.rfl ⟨λh=>?_,λ⟨y,a,e⟩=>?_⟩
  ·rcases h with h|⟨y,a,e⟩
   ·exact⟨z,aab,h⟩
   ·exact⟨y,aah _ a,e⟩
  ·rcases aac.mp a with rfl|a
   ·exact .inl e
   ·exact .inr ⟨y,a,e⟩
theorem wy:∀{zs:List (Int×Int)}{W:Int->List Int},(∀g,(W g).Nodup)->∀g,(zs.foldl (wst f) W g).Nodup/\(zs.foldl (wst f) W g).length<=(W g).length+zs.length
 |[],W,h,g=>⟨h g,aag _⟩
 |z::zs,W,h,g=>by
  obtain⟨a,b⟩:=wy (W:=wst f W z) (λg=>by
   unfold wst;split
   ·exact k7 (h g)
   ·exact h g) g
  have:=qA (f:=f) (W:=W) (z:=z) (h:=g);exact⟨a,by rw[aaw];show (zs.foldl (wst f) (wst f W z) g).length<=_;omega⟩
theorem wz(A:f.rows.length<=200)(w:ch.length=(gIx 0 f.rows).length)(y:ch.length<60):pl.pg.call (n+3) 19 [Rl f.rows,.fz (Tc ch)]=some (.tup [.lst (((pq f ch).map Po).map OD.fz),Il (pu ch)],[Rl f.rows,.fz (Tc ch)]):=by
 have c:=gsO_nd ch;have B:=gsO_len ch;obtain⟨u,m⟩:=qz (hs:=[]) c;obtain⟨a,b,l⟩:=qB c (λz d=>by
  obtain⟨t,j⟩:=aaZ d;exact⟨kX (k:=f.rows.length) (by rw[abl];exact t),gsO_mem.mpr j⟩) λh=>by rw[abe,aaG];omega
 obtain⟨X,v,r⟩:=mP c (λ_ h=>h) λh=>aA _;obtain⟨x,g⟩:=qC c (by omega) λh s=>gsO_mem.mpr s;have e:=dY (n:=n) (rs:=f.rows) (by omega);have p:(JQ (n+2)).call=pl.pg.call (n+2):=rfl;rw[<-p]at e;have o:cE (JQ (n+2)) edc [JJ f.rows,some (.fz (Tc ch)),none,none,none,none]=some (.nx,[JJ f.rows,some (.fz (Tc ch)),some (Il (gsO ch)),none,none,none]):=aq (wu rfl rfl rfl (by omega)) rfl rfl rfl;have q:cE (JQ (n+2)) (.sdl 3 1 [] (.seq (.nm 2)) (.nm 0) (.nm 0)) [JJ f.rows,some (.fz (Tc ch)),some (Il (gsO ch)),none,none,none]=some (.nx,wR f ch (gsO ch) (λ_=>[]) none none):=
  bs (bo rfl (bu rfl (aA _) rfl) rfl) (bg (by rw[aaa];omega) (bs rfl (bs m (bg (by rw[bL];show 3<6;decide) (by rw[bL];rfl)))))
 have d:jg (JQ (n+2)) ece (wR f ch (gsO ch) (λ_=>[]) none none)=some (((gIx 0 f.rows).zip ch).map Zp,wR f ch (gsO ch) (λ_=>[]) none none):=by rw[<-en];exact i_zipQ (ae rfl rfl e rfl) rfl (by simp only[frz1,aA];rfl) rfl rfl rfl
 have i:Il (pu ch)=.lst (((ch.map (ixo (gsO ch))).map PyData.int).map OD.fz):=by rw[iW];rfl
 rw[i];exact af rfl rfl (ab o (ab q (ab (bF d l) (az (ao (eS (aa (b7 (bo rfl rfl rfl) (by rw[aaa];omega) rfl r rfl) (aa (b7 (bo rfl rfl rfl) (by rw[aaa];omega) rfl g rfl) ah)) rfl rfl rfl) rfl))))) rfl
def eA{ios:List Bool}{ρ ρ1 ρ2:DEnv}{r:OR}{rs:List OR}{d:PyData}{xs:List OD}(h:frz1 ρ r=some (d,ρ1))(h':aU ios ρ1 rs=some (xs,ρ2)):aU (false::ios) ρ (r::rs)=some (.fz d::xs,ρ2):=by simp only[aU,h,h']
def fin_bl(h:∀q∈qs,0<=q.1/\q.1<=(f.rows.length:Int)):(fin f qs).bs.length=qs.length:=by rw[fin,ja,gz λq a=>(h q a).1,<-jb λq a=>(h q a).1,List.countP_eq_length];intro q a;have:=(h q a).2;exact Dac (by omega)
def oC{f:Cf}{qs:Pz}:(fin f qs).ps.length=f.rows.length:=by rw[fin,bx];exact bh
structure Cho (f:Cf)(ch:List Int):Prop where
 len:ch.length=(gIx 0 f.rows).length
 few:ch.length<60
 rng:∀g∈ch,0<=g/\g<=(f.rows.length:Int)
section
variable{f:Cf}{ch:List Int}
def mQ(C:Cho f ch)(n:Nb f.rows):∀q∈pq f ch,Pok f.rows.length q:=λq l=>by
 obtain⟨g,j,rfl⟩:=aas.mp l;have c:=gsO_mem.mp j;obtain⟨o,d⟩:=wy (f:=f) (zs:=(gIx 0 f.rows).zip ch) (W:=λ_=>[]) (λ_=>abc) g;rw[abe,aaG]at d;have d:(wo f ch g).length<=_:=d;have:=C.few;refine⟨(C.rng g c).1,(C.rng g c).2,λz=>?_,o,by show (wo f ch g).length<=100;omega,λx p=>?_⟩
 ·obtain⟨k,e⟩:=aaQ.mp c;have m:=(aaj.mp e).1;have:nu f ((gIx 0 f.rows)[k]'(by rw[<-C.len];exact m))∈wo f ch g:=wo_mem.mpr (.inr ⟨(_,g),aaQ.mpr ⟨k,by rw[acq];exact⟨aap _,e⟩⟩,rfl,rfl⟩);have z:wo f ch g=[]:=z;rw[z]at this;exact absurd this aan
 ·rcases wo_mem.mp p with h|⟨z,i,_,rfl⟩
  ·exact absurd h aan
  ·exact Ai n (wc (k:=f.rows.length) (by rw[abl];exact(aaZ (a:=z.1) (b:=z.2) i).1))
def wA:(pq f ch).Pairwise λx y=>x.1<y.1:=abE.mpr (qH ch)
def Aj{k:Nat}(hk:(gsO ch)[k]?=some g):(pq f ch)[k]?=some (g,wo f ch g):=by unfold pq;rw[aat,hk];rfl
def pu_zip(b:z∈(gIx 0 f.rows).zip (pu ch)):∃(i k:Nat) (g x y:Int),z=((i:Int),(k:Int))/\((i:Int),g)∈(gIx 0 f.rows).zip ch/\(gsO ch)[k]?=some g/\f.rows[i]?=some (.st x y):=by unfold pu at b;rw[aby]at b;obtain⟨⟨a,g⟩,c,rfl⟩:=aas.mp b;obtain⟨j,h⟩:=aaZ c;obtain⟨i,x,y,rfl,e⟩:=kX (by rw[abl];exact j);obtain⟨k,d⟩:=aaQ.mp (gsO_mem.mpr h);exact⟨i,k,g,x,y,by show ((i:Int),ixo (gsO ch) g)=_;rw[fj (gsO_nd ch) d],c,d,e⟩
def wB(C:Cho f ch)(c:Nb f.rows):∀z∈(gIx 0 f.rows).zip (pu ch),Sw f (pq f ch) z:=λz h=>by
 obtain⟨i,k,g,x,y,rfl,l,d,e⟩:=pu_zip h;have j:i<(fin f (pq f ch)).ps.length:=by rw[oC];exact(aaj.mp e).1
 have a:k<(fin f (pq f ch)).bs.length:=by rw[fin_bl λq b=>⟨(mQ C c q b).lo,(mQ C c q b).hi⟩];exact(aaj.mp (Aj (f:=f) d)).1
 exact⟨i,k,_,_,_,rfl,aap j,aap a,Aj d,wo_mem.mpr (.inr ⟨_,l,rfl,rfl⟩),x,y,e⟩
def F4(C:Cho f ch):Rw f (pq f ch) (pu ch):=λj q a x d=>by
 unfold pq at a;rw[aat]at a;obtain⟨g,c,rfl⟩:=aaN.mp a;rcases wo_mem.mp d with h|⟨z,b,rfl,e⟩
 ·exact absurd h aan
 ·refine⟨(z.1,ixo (gsO ch) z.2),?_,fj (gsO_nd ch) c,e⟩;unfold pu;rw[aby];exact aas.mpr ⟨z,b,rfl⟩
def F5(C:Cho f ch)(b:Nb f.rows)(h:∀z∈(gIx 0 f.rows).zip (pu ch),Rr f (pq f ch) f.r0 f.r1 z):Pf f (pq f ch) (pu ch) f.r0 f.r1:=by
 refine⟨mQ C b,wA,?_,by rw[pu,aaa];exact C.len,λz a=>Sv.of (wB C b z a) (h z a),λu e=>?_⟩
 ·have:=gsO_len ch;have:=C.few;rw[pq,aaa];omega
 ·obtain⟨g,d,rfl⟩:=aas.mp e;obtain⟨k,c⟩:=aaQ.mp (gsO_mem.mpr d);rw[fj (gsO_nd ch) c,pq,aaa];have:=(aaj.mp c).1;omega
end
def qI{C:Ct}{e:E}{ρ ρ1:DEnv}{x:OR}{d:PyData}{ns:List Int}(h:ev C e ρ=some (x,ρ1))(b:aw ρ1 x=some d)(hs:nN d=some (ns.map PyData.int))(a:ns.length<1000):ev C (.lset e) ρ=some (.val (It (ns.foldl ddI []).length),ρ1):=bs h (bs b (bs hs (bs (eh ns) (bg a rfl))))
def Dx(f:Cf)(B:OD)(qs:Pz)(us:List Int):Prop:=(B=Pn qs us\/B=Fp qs us)/\Pf f qs us f.r0 f.r1/\Rw f qs us
abbrev lg(f:Cf)(B:OD)(o4 o5 o6:Option OD):DEnv:=[JJ f.rows,JK f,some (Re f),some B,o4,o5,o6]
abbrev IW:Ss:=match F_fewest_plan.body with|.cons _ (.cons (.fr _ _ b) _)=>b|_=>.nil
def Da{C:Ct}{f:Cf}{B:OD}{qs:Pz}{us:List Int}{o4 o5 o6:Option OD}(h:B=Pn qs us\/B=Fp qs us):ev C eca (lg f B o4 o5 o6)=some (.val (It qs.length),lg f B o4 o5 o6):=by
 rcases h with rfl|rfl
 ·exact aV (ds:=[.list (qs.map Po)]) (aa rfl ah) rfl blen
 ·exact aV (ds:=[.list (qs.map Po)]) (aa (aM rfl rfl rfl (ba bq)) ah) rfl blen
def fs(f:Cf)(t:OD×Pz×List Int)(ch:List Int):OD×Pz×List Int:=if ((ch.foldl ddI []).length:Int)<(t.2.1.length:Int)/\∀z∈(gIx 0 f.rows).zip (pu ch),Rr f (pq f ch) f.r0 f.r1 z then (Fp (pq f ch) (pu ch),pq f ch,pu ch) else t
theorem zo{n:Nat}{f:Cf}{t:OD×Pz×List Int}{ch:List Int}{o5 o6:Option OD}(p:f.rows.length<=200)(l:Nb f.rows)(C:Cho f ch)(h:Dx f t.1 t.2.1 t.2.2):Dx f (fs f t ch).1 (fs f t ch).2.1 (fs f t ch).2.2/\∃(j m:Option OD),aG (JQ (n+5)) IW (lg f t.1 (some (.fz (Tc ch))) o5 o6)=some (.nx,lg f (fs f t ch).1 (some (.fz (Tc ch))) j m):=by
 obtain⟨B,e,k⟩:=t;have b:bj (JQ (n+5)) eba (lg f B (some (.fz (Tc ch))) o5 o6)=some (decide (((ch.foldl ddI []).length:Int)<(e.length:Int)),lg f B (some (.fz (Tc ch))) o5 o6):=
  aN (aC (qI rfl rfl rfl (by have:=C.few;omega)) (Da h.1) rfl rfl rfl)
 by_cases i:((ch.foldl ddI []).length:Int)<(e.length:Int)
 ·rw[Dac i]at b;have a:=wz (n:=n+2) (f:=f) p C.len C.few;have u:(pq f ch).length<=300:=by have:=gsO_len ch;have:=C.few;rw[pq,aaa];omega
  have d:=sH (n:=n) (f:=f) (r0:=f.r0) (r1:=f.r1) (wA (f:=f) (ch:=ch)) (λq r=>(mQ C l q r).lo) u (wB C l) p;have s:(JQ (n+5)).call=pl.pg.call (n+5):=rfl;rw[<-s]at a d;have o:cE (JQ (n+5)) ebi (lg f B (some (.fz (Tc ch))) o5 o6)=some (.nx,lg f B (some (.fz (Tc ch))) (some (.lst (((pq f ch).map Po).map OD.fz))) (some (Il (pu ch)))):=
   jc (ae (ρ3:=lg f B (some (.fz (Tc ch))) o5 o6) rfl rfl a rfl) rfl rfl
  have g:bj (JQ (n+5)) ea3 (lg f B (some (.fz (Tc ch))) (some (.lst (((pq f ch).map Po).map OD.fz))) (some (Il (pu ch))))=some (decide (∀z∈(gIx 0 f.rows).zip (pu ch),Rr f (pq f ch) f.r0 f.r1 z),lg f B (some (.fz (Tc ch))) (JO (pq f ch)) (JN (pu ch))):=
   aW (ae (rs:=[.val (Rl f.rows),.val (Lo f),.val (Re f),.rf 5,.rf 6]) (ρ3:=lg f B (some (.fz (Tc ch))) (JO (pq f ch)) (JN (pu ch))) rfl (show aU [false,false,false,false,false] _ _=_ from eA rfl (eA rfl (eA rfl (eA (bu rfl (bO _) rfl) (eA (bu rfl (aA _) rfl) rfl))))) d rfl)
  by_cases c:∀z∈(gIx 0 f.rows).zip (pu ch),Rr f (pq f ch) f.r0 f.r1 z
  ·rw[Dac c]at g;rw[show fs f (B,e,k) ch=_ from if_pos ⟨i,c⟩];exact⟨⟨.inr rfl,F5 C l c,F4 C⟩,_,_,ab (aO b (ab o (ab (aO g (ab (aq (ρ3:=lg f (Fp (pq f ch) (pu ch)) (some (.fz (Tc ch))) (JO (pq f ch)) (JN (pu ch))) rfl rfl rfl rfl) rfl)) rfl))) rfl⟩
  ·rw[Dab c]at g;rw[show fs f (B,e,k) ch=_ from if_neg λz=>c z.2];exact⟨h,_,_,ab (aO b (ab o (ab (aI g rfl) rfl))) rfl⟩
 ·rw[Dab i]at b;rw[show fs f (B,e,k) ch=_ from if_neg λz=>i z.1];exact⟨h,o5,o6,ab (aI b rfl) rfl⟩
theorem qJ(i:f.rows.length<=200)(j:Nb f.rows):∀{cs:List (List Int)}{t:OD×Pz×List Int}{o4 o5 o6:Option OD},(∀c∈cs,Cho f c)->Dx f t.1 t.2.1 t.2.2->Dx f (cs.foldl (fs f) t).1 (cs.foldl (fs f) t).2.1 (cs.foldl (fs f) t).2.2/\∃(e a g:Option OD),bc (λd b=>(aX (.nm 4) (.fz d) b).bind λρ1=>aG (JQ (n+5)) IW ρ1) (cs.map Tc) (lg f t.1 o4 o5 o6)=some (.nx,lg f (cs.foldl (fs f) t).1 e a g)
 |[],t,o4,o5,o6,_,h=>⟨h,o4,o5,o6,rfl⟩
 |c::cs,t,o4,o5,o6,hc,h=>by obtain⟨m,u,v,q⟩:=zo i j (hc c aab) h;obtain⟨l,r,s,k,o⟩:=qJ i j (λd p=>hc d (aah _ p)) m;exact⟨l,r,s,k,bs (bs rfl q) o⟩
theorem mR{f:Cf}(u:f.rows.length<=6)(l:(f.rows.filter R.gr).length<=4)(o:Nb f.rows)(r:0<=f.r0)(q:6<=f.r1):∃(B:OD) (qs:Pz) (us:List Int),(∀n,pl.pg.call (n+7) 20 [Rl f.rows,Lo f,Re f]=some (B,[Rl f.rows,Lo f,Re f]))/\Dx f B qs us/\∃(g:Pz) (j:List Int),(∀n,pl.pg.call (n+6) 17 [Rl f.rows,Lo f,Re f]=some (Pn g j,[Rl f.rows,Lo f,Re f]))/\Pf f g j f.r0 f.r1/\Rw f g j/\(dq f.rows.length (gIx 0 f.rows).length).foldl (fs f) (Pn g j,g,j)=(B,qs,us):=by
 obtain⟨qs,us,a,P,V⟩:=C8 (f:=f) (by omega) (by omega) o r q;have v:=cj (rs:=f.rows) (i:=0);have w:=λn=>qJ (n:=n+1) (f:=f) (by omega) o (cs:=dq f.rows.length (gIx 0 f.rows).length) (t:=(Pn qs us,qs,us)) (o4:=none) (o5:=none) (o6:=none) (λc l=>⟨(dr l).1,by rw[(dr l).1];omega,(dr l).2⟩) ⟨.inl rfl,P,V⟩;generalize ht:(dq f.rows.length (gIx 0 f.rows).length).foldl (fs f) (Pn qs us,qs,us)=t at w;refine⟨t.1,t.2.1,t.2.2,λn=>?_,(w 0).1,qs,us,a,P,V,ht⟩;obtain⟨h,o4,o5,o6,e⟩:=w n;have a:=a n;have k:=sI (n:=n+3) u (by omega);have s:(JQ (n+6)).call=pl.pg.call (n+6):=rfl;rw[<-s]at a k;have m:∃b,cE (JQ (n+6)) (.ret (.nm 3)) (lg f t.1 o4 o5 o6)=some (.rt t.1,b)/\aS 0 F_fewest_plan.io [Rl f.rows,Lo f,Re f] b=some [Rl f.rows,Lo f,Re f]:=by
  rcases h.1 with e|e
  ·rw[e];exact⟨_,ao rfl rfl,rfl⟩
  ·rw[e];exact⟨_,ao rfl rfl,rfl⟩
 obtain⟨b,m,p⟩:=m;exact af (fn:=F_fewest_plan) rfl rfl (ab (aq (ρ3:=lg f (Pn qs us) none none none) (ae (ρ3:=[JJ f.rows,JK f,some (Re f),none,none,none,none]) rfl rfl a rfl) rfl rfl rfl) (ab (bF (bo (d:=.list ((dq f.rows.length (gIx 0 f.rows).length).map Tc)) (ρ2:=lg f (Pn qs us) none none none) (ae (ρ3:=lg f (Pn qs us) none none none) rfl rfl k rfl) (by simp only[frz1,bO];rfl) rfl) e) (az m))) p
def mS(h:pl.pg.call (n+7) 20 [Rl f.rows,Lo f,Re f]=some (B,[Rl f.rows,Lo f,Re f]))(b:Dx f B qs us):pl.pg.call (n+8) 21 [Rl f.rows,Lo f,Re f]=some (It qs.length,[Rl f.rows,Lo f,Re f]):=by
 have a:(JQ (n+7)).call=pl.pg.call (n+7):=rfl;rw[<-a]at h;refine af (ρ:=[JJ f.rows,JK f,some (Re f)]) rfl rfl (az (ao (aV (aa (aM (ae rfl rfl h rfl) rfl rfl (z:=Pq qs) ?_) ah) rfl blen) rfl)) rfl;rcases b.1 with rfl|rfl
 ·rfl
 ·exact ba bq
def Dc{C:Ct}{i:Nat}{e:E}{ρ ρ1 ρ2:DEnv}{xs ys zs:List OD}(c:ρ[i]?.join=some (.lst zs))(h:ev C e ρ=some (.val (.lst ys),ρ1))(d:ρ1[i]?.join=some (.lst xs))(a:xs.length+ys.length<=1000000)(b:ρ1.set i (some (.lst (xs++ys)))=ρ2):cE C (.ext i e) ρ=some (.nx,ρ2):=bs c (bs rfl (bs h (bs rfl (bs d (bs rfl (bg a (by rw[<-b])))))))
abbrev Lc(c:List Int):PyData:=.list (c.map PyData.int)
abbrev Ll(cs:List (List Int)):OD:=.lst ((cs.map Lc).map OD.fz)
abbrev IX:E:=.cat (.nm 1) (.lst edm)
theorem Ak{C:Ct}{c:List Int}(b:c.length<=1000):∀{m:Nat}{lo:Int}{out:List PyData}{o:Option OD},∃a,aT (be C (.nm 0) .none IX) (bX lo m) out [o,some (.fz (Lc c))]=some (out++(nxc c lo m).map Lc,[a,some (.fz (Lc c))])
 |0,lo,out,o=>⟨o,by rw[nxc,aaC,aaq];rfl⟩
 |m+1,lo,out,o=>by
  obtain⟨a,e⟩:=Ak (C:=C) b (m:=m) (lo:=lo+1) (out:=out++[Lc (c++[lo])]) (o:=JG lo);refine⟨a,?_⟩;rw[a8];refine bs (x:=([Lc (c++[lo])],[JG lo,some (.fz (Lc c))])) (my (ρ1:=[JG lo,some (.fz (Lc c))]) rfl (FQ (dx:=c.map PyData.int) (dy:=[PyData.int lo]) rfl rfl rfl rfl (by rw[aaa];simp;omega)) ?_) (e.trans ?_)
  ·show ((OD.lst ((c.map PyData.int++[PyData.int lo]).map OD.fz)).dat).map _=_;rw[bO,show c.map PyData.int++[PyData.int lo]=(c++[lo]).map PyData.int by rw[aau];rfl];rfl
  ·rw[nxc,aam,aad];rfl
abbrev aE(N k:Nat)(x2:OD)(o3:Option OD)(cs:List (List Int))(o5:Option OD):DEnv:=[JG (N+1:Nat),JG k,some x2,o3,some (Ll cs),o5]
abbrev IY:Ss:=.cons (.ext 4 (.comp 1 [5] (.rg1 (.nm 0)) (.nm 0) .none IX)) .nil
theorem wC{n N k:Nat}{x2:OD}{o3:Option OD}(j:N<=1000):∀{cs ds:List (List Int)}{o5:Option OD},(∀c∈cs,c.length<=1000)->ds.length+cs.length*(N+1)<1000000->∃a,bc (λd b=>(aX (.nm 5) (.fz d) b).bind λρ1=>aG (JQ n) IY ρ1) (cs.map Lc) (aE N k x2 o3 ds o5)=some (.nx,aE N k x2 o3 (ds++grow N cs) a)
 |[],ds,o5,_,_=>⟨o5,by rw[show grow N []=[] from rfl,aaq];rfl⟩
 |c::cs,ds,o5,h,hl=>by
  rw[aaw,acF]at hl;obtain⟨l,i⟩:=Ak (C:=JQ n) (h c aab) (m:=N+1) (lo:=0) (out:=[]) (o:=none);obtain⟨p,e⟩:=wC (n:=n) (k:=k) (x2:=x2) (o3:=o3) j (cs:=cs) (ds:=ds++nxc c 0 (N+1)) (o5:=some (.fz (Lc c))) (λd g=>h d (aah _ g)) (by rw[aak,nxc_len];omega);have f:jg (JQ n) (.rg1 (.nm 0)) (aE N k x2 o3 ds (some (.fz (Lc c))))=some (bX 0 (N+1),aE N k x2 o3 ds (some (.fz (Lc c)))):=c7 (n:=((N+1:Nat):Int)) rfl rfl (by omega);refine⟨p,bs (x:=(Fl.nx,aE N k x2 o3 (ds++nxc c 0 (N+1)) (some (.fz (Lc c))))) (bs (x:=aE N k x2 o3 ds (some (.fz (Lc c)))) rfl (ab (Dc (xs:=(ds.map Lc).map OD.fz) (ys:=((nxc c 0 (N+1)).map Lc).map OD.fz) (ρ1:=aE N k x2 o3 ds (some (.fz (Lc c)))) rfl (b7 f (by rw[cL];omega) rfl i rfl) rfl (by simp only[aaa,nxc_len];omega) ?_) rfl)) (e.trans ?_)⟩
  ·show [JG (N+1:Nat),JG k,some x2,o3,some (.lst ((ds.map Lc).map OD.fz++((nxc c 0 (N+1)).map Lc).map OD.fz)),some (.fz (Lc c))]=_;rw[<-aau,<-aau]
  ·rw[aad];rfl
theorem F6{n N k:Nat}(J:N<=6)(hk:k<=4):∃x,pl.pg.call (n+1) 34 [It (N+1:Nat),It k]=some (x,[It (N+1:Nat),It k])/\x.dat=some (.list ((dq N k).map Lc)):=by
 have j:∀(m i:Nat) (x2:OD) (o3 b o5:Option OD),i+m=k->x2.dat=some (.list ((dq N i).map Lc))->∃g p u o,bc (λd a=>(aX (.nm 3) (.fz d) a).bind λρ1=>aG (JQ n) (.cons edl (.cons (.fr (.nm 5) (.seq (.nm 2)) IY) ec3)) ρ1) (bX i m) [JG (N+1:Nat),JG k,some x2,o3,b,o5]=some (.nx,[JG (N+1:Nat),JG k,some g,p,u,o])/\g.dat=some (.list ((dq N k).map Lc)):=by
  intro m;induction m with
  |zero=>intro i x2 o3 b o5 h f;obtain rfl:i=k:=h;exact⟨x2,o3,b,o5,rfl,f⟩
  |succ m D=>
   intro i x2 o3 b o5 h f;have l:(dq N i).length<=343:=by rw[k9];exact aav (ac6 (show N+1<=7 by omega) i) (aav (ac7 (by decide) (show i<=3 by omega)) (by decide))
   have L:(dq N i).length*(N+1)<1000000:=abU (Nat.mul_le_mul l (show N+1<=7 by omega)) (by decide);obtain⟨s,C⟩:=wC (n:=n) (N:=N) (k:=k) (x2:=.fz (.list ((dq N i).map Lc))) (o3:=JG i) (by omega) (cs:=dq N i) (ds:=[]) (o5:=o5) (λc F=>by rw[(dr F).1];omega) (by rw[aaG];omega);obtain⟨w,A,z,H,B,q⟩:=D (i+1) (Ll (grow N (dq N i))) (JG i) none s (by omega) (bO _);refine⟨w,A,z,H,?_,q⟩;rw[a8];refine bs (x:=(Fl.nx,[JG (N+1:Nat),JG k,some (Ll (grow N (dq N i))),JG i,none,s])) (bs (x:=[JG (N+1:Nat),JG k,some x2,JG i,b,o5]) rfl (ab (aq (ρ3:=[JG (N+1:Nat),JG k,some x2,JG i,some (Ll []),o5]) rfl rfl rfl rfl) (ab (bF (ds:=(dq N i).map Lc) (ρ1:=aE N k (.fz (.list ((dq N i).map Lc))) (JG i) [] o5) ?_ C) (ab (aq (ρ3:=[JG (N+1:Nat),JG k,some (Ll (grow N (dq N i))),JG i,none,s]) rfl rfl rfl rfl) rfl)))) B;have:∃r,ev (JQ n) (.nm 2) [JG (N+1:Nat),JG k,some x2,JG i,some (Ll []),o5]=some (r,[JG (N+1:Nat),JG k,some x2,JG i,some (Ll []),o5])/\frz1 [JG (N+1:Nat),JG k,some x2,JG i,some (Ll []),o5] r=some (.list ((dq N i).map Lc),aE N k (.fz (.list ((dq N i).map Lc))) (JG i) [] o5):=by
    cases x2 with
    |fz d=>cases f;exact⟨_,rfl,rfl⟩
    |_=>exact⟨.rf 2,rfl,bu rfl f rfl⟩
   obtain⟨r,I,v⟩:=this;exact bo I v rfl
 obtain⟨x,o3,b,o5,e,f⟩:=j k 0 (.lst [.lst []]) none none none (by omega) rfl;have t:∃a,cE (JQ n) (.ret (.nm 2)) [JG (N+1:Nat),JG k,some x,o3,b,o5]=some (.rt x,a)/\aS 0 F_all.io [It (N+1:Nat),It k] a=some [It (N+1:Nat),It k]:=by
  cases x with
  |fz d=>exact⟨_,ao rfl rfl,rfl⟩
  |_=>exact⟨_,ao rfl rfl,rfl⟩
 obtain⟨a,t,y⟩:=t;exact⟨x,af (fn:=F_all) rfl rfl (ab (aq (ρ3:=[JG (N+1:Nat),JG k,some (.lst [.lst []]),none,none,none]) rfl rfl rfl rfl) (ab (bF (c7 (n:=(k:Int)) rfl rfl (by omega)) e) (az t))) y,f⟩
theorem Am{f:Cf}{g:Int}:∀{zs:List (Int×Int)}{W:Int->List Int},zs.foldl (wst f) W g=zs.foldl (λns z=>if g=z.2 then addN ns (nu f z.1) else ns) (W g)
 |[],_=>rfl
 |z::zs,W=>by rw[aa6,aa6,Am];rfl
abbrev grE(f:Cf)(ch:List Int)(x5:OD)(o6 o7 o8 o9 o10 o11 o12 o13:Option OD):DEnv:=[JJ f.rows,JK f,some (Re f),JN (gIx 0 f.rows),some (.fz (Lc ch)),some x5,o6,o7,o8,o9,o10,o11,o12,o13]
abbrev IZ:Ss:=match F_gaps_reach.body with|.cons _ (.cons (.fr _ _ (.cons _ (.cons (.fr _ _ b) _))) _)=>b|_=>.nil
abbrev I8:Ss:=match F_gaps_reach.body with|.cons _ (.cons (.fr _ _ b) _)=>b|_=>.nil
abbrev I9:Ss:=match F_gaps_reach.body with|.cons _ (.cons _ (.cons _ (.cons _ (.cons (.fr _ _ b) _))))=>b|_=>.nil
section
variable{n:Nat}{f:Cf}{ch:List Int}{x5:OD}{g:Int}{o10 o11 o12 o13:Option OD}
theorem qK:∀{zs:List (Int×Int)}{ns:List Int}{o8 o9:Option OD},(∀z∈zs,Gt f z.1)->ns.length+zs.length<1000->∃q s,bc (λd p=>(aX (.tp [8,9]) (.fz d) p).bind λρ1=>aG (JQ n) IZ ρ1) (zs.map Zp) (grE f ch x5 (JG g) (some (Il ns)) o8 o9 o10 o11 o12 o13)=some (.nx,grE f ch x5 (JG g) (some (Il (zs.foldl (λns z=>if g=z.2 then addN ns (nu f z.1) else ns) ns))) q s o10 o11 o12 o13)
 |[],ns,o8,o9,_,_=>⟨o8,o9,rfl⟩
 |z::zs,ns,o8,o9,h,hl=>by
  rw[aaw]at hl;obtain⟨i,x,y,u,t⟩:=h z aab;have v:=nu_is t;have r:nu f z.1=y:=by rw[u];exact v
  have j:∀{ns:List Int},ev (JQ n) ecn (grE f ch x5 (JG g) (some (Il ns)) (JG z.1) (JG z.2) o10 o11 o12 o13)=some (.val (It y),grE f ch x5 (JG g) (some (Il ns)) (JG z.1) (JG z.2) o10 o11 o12 o13):=by rw[u];exact aM (aM rfl rfl rfl (bp (eZ t))) rfl rfl (ba (b8 (k:=2) rfl))
  have c:bj (JQ n) ec9 (grE f ch x5 (JG g) (some (Il ns)) (JG z.1) (JG z.2) o10 o11 o12 o13)=some (decide (z.2=g),grE f ch x5 (JG g) (some (Il ns)) (JG z.1) (JG z.2) o10 o11 o12 o13):=rfl;have l:bj (JQ n) ebo (grE f ch x5 (JG g) (some (Il ns)) (JG z.1) (JG z.2) o10 o11 o12 o13)=some (!decide (y∈ns),grE f ch x5 (JG g) (some (Il ns)) (JG z.1) (JG z.2) o10 o11 o12 o13):=aN (aC (y:=.rf 7) (dx:=.int y) (dy:=.list (ns.map PyData.int)) j rfl rfl (aA _) ninL);have A:aG (JQ n) IZ (grE f ch x5 (JG g) (some (Il ns)) (JG z.1) (JG z.2) o10 o11 o12 o13)=some (.nx,grE f ch x5 (JG g) (some (Il (if g=z.2 then addN ns (nu f z.1) else ns))) (JG z.1) (JG z.2) o10 o11 o12 o13):=by
   by_cases o:z.2=g
   ·rw[Dac o]at c;rw[if_pos o.symm,r];unfold addN;by_cases m:y∈ns
    ·rw[Dac m]at l;rw[if_pos m];exact ab (aI (gp c l) rfl) rfl
    ·rw[Dab m]at l;rw[if_neg m];exact ab (aO (gp c l) (ab (cZ (xs:=ns.map It) rfl j rfl rfl (by rw[aaa];omega) (by rw[<-bR];rfl)) rfl)) rfl
   ·rw[Dab o]at c;rw[if_neg λe=>o e.symm];exact ab (aI (n6 c) rfl) rfl
  obtain⟨a,b,e⟩:=qK (zs:=zs) (ns:=if g=z.2 then addN ns (nu f z.1) else ns) (o8:=JG z.1) (o9:=JG z.2) (λx w=>h x (aah _ w)) (by
   split
   ·have:=i6 (ns:=ns) (x:=nu f z.1);omega
   ·omega)
  exact⟨a,b,bs (x:=(Fl.nx,_)) (bs (x:=grE f ch x5 (JG g) (some (Il ns)) (JG z.1) (JG z.2) o10 o11 o12 o13) rfl A) e⟩
end
abbrev Pl5(qs:Pz):OD:=.lst ((qs.map Pol).map OD.fz)
theorem qL{n:Nat}{f:Cf}{ch:List Int}(s:ch.length<60):∀{gs:List Int}{qs:Pz}{o6 o7 o8 o9:Option OD},qs.length+gs.length<1000->∃o l j m,bc (λd c=>(aX (.nm 6) (.fz d) c).bind λρ1=>aG (JQ n) I8 ρ1) (gs.map PyData.int) (grE f ch (Pl5 qs) o6 o7 o8 o9 none none none none)=some (.nx,grE f ch (Pl5 (qs++gs.map λg=>(g,wo f ch g))) o l j m none none none none)
 |[],qs,o6,o7,o8,o9,_=>⟨o6,o7,o8,o9,by show _=some (_,grE f ch (Pl5 (qs++[])) o6 o7 o8 o9 none none none none);rw[aaq];rfl⟩
 |g::gs,qs,o6,o7,o8,o9,h=>by
  rw[aaw]at h;obtain⟨a,b,e⟩:=qK (n:=n) (f:=f) (ch:=ch) (x5:=Pl5 qs) (g:=g) (o10:=none) (o11:=none) (o12:=none) (o13:=none) (zs:=(gIx 0 f.rows).zip ch) (ns:=[]) (o8:=o8) (o9:=o9) (λz i=>kX (k:=f.rows.length) (by rw[abl];exact(aaZ (a:=z.1) (b:=z.2) i).1)) (by rw[abe,aaG];omega);rw[<-Am (W:=λ_=>[])]at e;obtain⟨t,q,r,u,p⟩:=qL (n:=n) s (gs:=gs) (qs:=qs++[(g,wo f ch g)]) (o6:=JG g) (o7:=JN (wo f ch g)) (o8:=a) (o9:=b) (by rw[aak,aaB];omega);rw[aad]at p;have i:jg (JQ n) edg (grE f ch (Pl5 qs) (JG g) (some (Il [])) o8 o9 none none none none)=some (((gIx 0 f.rows).zip ch).map Zp,grE f ch (Pl5 qs) (JG g) (some (Il [])) o8 o9 none none none none):=by rw[<-en];exact i_zipQ rfl rfl rfl rfl rfl rfl
  refine⟨t,q,r,u,bs (x:=(Fl.nx,grE f ch (Pl5 (qs++[(g,wo f ch g)])) (JG g) (JN (wo f ch g)) a b none none none none)) (bs (x:=grE f ch (Pl5 qs) (JG g) o7 o8 o9 none none none none) rfl (ab (aq (ρ3:=grE f ch (Pl5 qs) (JG g) (some (Il [])) o8 o9 none none none none) rfl rfl rfl rfl) (ab (bF i e) (ab ?_ rfl)))) p⟩;have v:own1 (grE f ch (Pl5 qs) (JG g) (some (Il (wo f ch g))) a b none none none none) (.rf 7)=some (Dl (wo f ch g),grE f ch (Pl5 qs) (JG g) (JN (wo f ch g)) a b none none none none):=by show (frz1 _ (.rf 7)).map _=_;rw[bu rfl (aA _) rfl];rfl
  refine cZ (xs:=(qs.map Pol).map OD.fz) (z:=.fz (Pol (g,wo f ch g))) (ρ2:=grE f ch (Pl5 qs) (JG g) (JN (wo f ch g)) a b none none none none) rfl (eS (rs:=[.val (It g),.rf 7]) (ρ1:=grE f ch (Pl5 qs) (JG g) (some (Il (wo f ch g))) a b none none none none) (zs:=[It g,Dl (wo f ch g)]) rfl rfl ?_ rfl) rfl rfl (by rw[aaa,aaa];omega) ?_
  ·have w:mapR own1 (grE f ch (Pl5 qs) (JG g) (some (Il (wo f ch g))) a b none none none none) [.rf 7]=some ([Dl (wo f ch g)],grE f ch (Pl5 qs) (JG g) (JN (wo f ch g)) a b none none none none):=bs v rfl;show ((mapR own1 _ [.rf 7]).map _)=_;rw[w];rfl
  ·show _=[JJ f.rows,JK f,some (Re f),JN (gIx 0 f.rows),some (.fz (Lc ch)),some (.lst (((qs++[(g,wo f ch g)]).map Pol).map OD.fz)),JG g,JN (wo f ch g),a,b,none,none,none,none];rw[aau,aau];rfl
def qM{C:Ct}{o b:Co}{x y z:E}{ρ:DEnv}{c e d:OR}{dx dy dz:PyData}{k k':Bool}(j:ev C x ρ=some (c,ρ))(f:ev C y ρ=some (e,ρ))(l:aw ρ c=some dx)(a:aw ρ e=some dy)(h:mV o dx dy=some k)(i:ev C z ρ=some (d,ρ))(g:aw ρ d=some dz)(h':mV b dy dz=some k'):ev C (.cmp2 o b x y z) ρ=some (.val (.fz (.bool (k&&k'))),ρ):=by
 refine bs j (bs f (bs l (bs a (bs h ?_))));cases k with
 |true=>exact bs i (bs a (bs g (bs h' rfl)))
 |false=>rfl
def Dg{C:Ct}{i j:Nat}{b:E}{ρ:DEnv}{y:OR}{gs:List Int}{g:Int}(a:ρ[i]?.join=some (Il gs))(h:ev C b ρ=some (y,ρ))(c:aw ρ y=some (.int g))(k:gs.length<1000)(f:gs.findIdx? (λm=>decide (m=g))=some j):ev C (.idl i b) ρ=some (.val (It j),ρ):=by
 have e:nmR ρ i=some (.rf i):=by unfold nmR;rw[a]
 have d:aw ρ (.rf i)=some (.list (gs.map PyData.int)):=by show (ρ[i]?.join).bind OD.dat=_;rw[a];exact aA _
 exact bs e (bs d (bs rfl (bs h (bs c (bs rfl (bs d (bs rfl (bs (eh gs) (bg (by omega) (bs f rfl))))))))))
abbrev gtE(f:Cf)(ch:List Int)(qs:Pz)(o6 o7 o8 o9:Option OD):DEnv:=grE f ch (lp qs) o6 o7 o8 o9 (JN (fin f qs).ps) (JN (fin f qs).bs) (JG (fin f qs).pl) (some (Il (gsO ch)))
section
variable{n:Nat}{f:Cf}{ch:List Int}{qs:Pz}
theorem zp{z:Int×Int}{k:Nat}{o7 o9:Option OD}(hk:(gsO ch)[k]?=some z.2)(v:ch.length<60)(h:Sw f qs (z.1,(k:Int))):aG (JQ n) I9 (gtE f ch qs (JG z.2) o7 (JG z.1) o9)=some (if Rr f qs f.r0 f.r1 (z.1,(k:Int)) then .nx else .rt (.fz (.bool false)),gtE f ch qs (JG z.2) o7 (JG z.1) o9):=by
 obtain⟨a,g⟩:=z;obtain⟨i,j,p,b,q,s,o,m,_⟩:=h;obtain⟨c,l⟩:=abp s;have c:a=(i:Int):=c;have l:(k:Int)=(j:Int):=l;have:k=j:=by omega
 subst c;subst this;have r:=gsO_len ch;have t:ev (JQ n) eai (gtE f ch qs (JG g) o7 (JG i) o9)=some (.val (.fz (.bool (decide (0-f.r1<=p-b)&&decide (p-b<=f.r0)))),gtE f ch qs (JG g) o7 (JG i) o9):=
  qM (dx:=.int (0-f.r1)) (dy:=.int (p-b)) (dz:=.int f.r0) (ag rfl (aM rfl rfl rfl (ba (b8 (k:=1) rfl))) rfl rfl rfl) (ag (dx:=.int p) (dy:=.int b) (aM rfl rfl rfl (bp (k8 o))) (aM rfl (Dg rfl rfl rfl (by omega) (fky (gsO_nd ch) hk).2) rfl (bp (k8 m))) rfl rfl rfl) rfl rfl rfl (aM rfl rfl rfl (ba bq)) rfl rfl
 have d:bj (JQ n) eag (gtE f ch qs (JG g) o7 (JG i) o9)=some (!(decide (0-f.r1<=p-b)&&decide (p-b<=f.r0)),gtE f ch qs (JG g) o7 (JG i) o9):=cI (t_cmp2 t);by_cases e:Rr f qs f.r0 f.r1 ((i:Int),(k:Int))
 ·obtain⟨r1,u⟩:=(Rr.iff o m).mp e;rw[if_pos e];rw[Dac (by omega),Dac u]at d;exact ab (aI d rfl) rfl
 ·rw[if_neg e];have:(decide (0-f.r1<=p-b)&&decide (p-b<=f.r0))=false:=by
   rw[Bool.and_eq_false_iff];by_cases c:p-b<=f.r0
   ·exact .inl (Dab λl=>e ((Rr.iff o m).mpr ⟨by omega,c⟩))
   ·exact .inr (Dab c)
  rw[this]at d;exact az (aO d (az rfl))
theorem qN(o:ch.length<60):∀{zs:List (Int×Int)}{o6 o7 o8 o9:Option OD},(∀z∈zs,∃k:Nat,(gsO ch)[k]?=some z.2/\Sw f qs (z.1,(k:Int)))->∃m l,bc (λd j=>(aX (.tp [8,6]) (.fz d) j).bind λρ1=>aG (JQ n) I9 ρ1) (zs.map Zp) (gtE f ch qs o6 o7 o8 o9)=some (if ∀z∈zs,Rr f qs f.r0 f.r1 (z.1,ixo (gsO ch) z.2) then .nx else .rt (.fz (.bool false)),gtE f ch qs m o7 l o9)
 |[],o6,o7,o8,o9,_=>⟨o6,o8,by rw[if_pos (λz s=>absurd s aan)];rfl⟩
 |z::zs,o6,o7,o8,o9,h=>by
  obtain⟨k,p,r⟩:=h z aab;have g:=zp (n:=n) (o7:=o7) (o9:=o9) p o r;rw[<-fj (gsO_nd ch) p]at g;by_cases i:Rr f qs f.r0 f.r1 (z.1,ixo (gsO ch) z.2)
  ·rw[if_pos i]at g;obtain⟨a,b,e⟩:=qN o (zs:=zs) (o6:=JG z.2) (o7:=o7) (o8:=JG z.1) (o9:=o9) λx c=>h x (aah _ c);refine⟨a,b,bs (x:=(Fl.nx,gtE f ch qs (JG z.2) o7 (JG z.1) o9)) (bs (x:=gtE f ch qs (JG z.2) o7 (JG z.1) o9) rfl g) (e.trans ?_)⟩;have:(∀x∈z::zs,Rr f qs f.r0 f.r1 (x.1,ixo (gsO ch) x.2)) ↔ ∀x∈zs,Rr f qs f.r0 f.r1 (x.1,ixo (gsO ch) x.2):=⟨λq x c=>q x (aah _ c),λq x c=>(aac.mp c).elim (λe=>e▸i) (q x)⟩
   simp only[this]
  ·rw[if_neg i]at g;refine⟨JG z.2,JG z.1,bs (x:=(Fl.rt (.fz (.bool false)),gtE f ch qs (JG z.2) o7 (JG z.1) o9)) (bs (x:=gtE f ch qs (JG z.2) o7 (JG z.1) o9) rfl g) ?_⟩;rw[if_neg (λq=>i (q z aab))]
end
theorem mT{C:Ct}:∀{qs:Pz}{out:List PyData}{o:Option OD},∃a,aT (be C (.nm 0) .none edd) (qs.map Pol) out [o]=some (out++(qs.map (·.1)).map PyData.int,[a])
 |[],out,o=>⟨o,by simp only[aaC,aaq];rfl⟩
 |q::qs,out,o=>by obtain⟨a,e⟩:=mT (C:=C) (qs:=qs) (out:=out++[.int q.1]) (o:=some (.fz (Pol q)));refine⟨a,bs (x:=([.int q.1],[some (.fz (Pol q))])) (my (ρ1:=[some (.fz (Pol q))]) rfl (aM rfl rfl rfl (ba bq)) rfl) (e.trans ?_)⟩;rw[aam,aam,aad];rfl
def Srv(f:Cf)(ch:List Int):Prop:=∀z∈(gIx 0 f.rows).zip (pu ch),Rr f (pq f ch) f.r0 f.r1 z
instance {f:Cf}{ch:List Int}:Decidable (Srv f ch):=by unfold Srv;infer_instance
theorem wD{n:Nat}{f:Cf}{ch:List Int}(H:f.rows.length<=200)(x:Nb f.rows)(C:Cho f ch):pl.pg.call (n+4) 35 [Rl f.rows,Lo f,Re f,Dl (gIx 0 f.rows),.fz (Lc ch)]=some (.fz (.bool (decide (Srv f ch))),[Rl f.rows,Lo f,Re f,Dl (gIx 0 f.rows),.fz (Lc ch)]):=by
 have M:=gsO_len ch;have J:=C.few;obtain⟨o6,o7,o8,o9,D⟩:=qL (n:=n+3) (f:=f) C.few (gs:=gsO ch) (qs:=[]) (o6:=none) (o7:=none) (o8:=none) (o9:=none) (by rw[aaG];omega);have I:(pq f ch).length<=300:=by rw[pq,aaa];omega
 have e:=wg (n:=n) (f:=f) (qs:=pq f ch) (λq B=>(mQ C x q B).lo) I H;have F:(JQ (n+3)).call=pl.pg.call (n+3):=rfl;rw[<-F]at e;obtain⟨L,v⟩:=mT (C:=JQ (n+3)) (qs:=pq f ch) (out:=[]) (o:=none);have j:(pq f ch).map (·.1)=gsO ch:=by unfold pq;rw[aaX];exact List.map_id _
 rw[j,aa5]at v;obtain⟨p,l,i⟩:=qN (n:=n+3) (f:=f) (qs:=pq f ch) C.few (zs:=(gIx 0 f.rows).zip ch) (o6:=o6) (o7:=o7) (o8:=o8) (o9:=o9) (λz c=>by
  obtain⟨N,y⟩:=aaZ (a:=z.1) (b:=z.2) c;obtain⟨k,s⟩:=aaQ.mp (gsO_mem.mpr y);refine⟨k,s,wB C x _ ?_⟩;unfold pu;rw[aby];exact aas.mpr ⟨z,c,by show (z.1,ixo (gsO ch) z.2)=_;rw[fj (gsO_nd ch) s]⟩)
 have t:(∀z∈(gIx 0 f.rows).zip ch,Rr f (pq f ch) f.r0 f.r1 (z.1,ixo (gsO ch) z.2)) ↔ Srv f ch:=by unfold Srv pu;rw[aby];exact⟨λh z c=>by obtain⟨w,A,rfl⟩:=aas.mp c;exact h w A,λh z c=>h (z.1,ixo (gsO ch) z.2) (aas.mpr ⟨z,c,rfl⟩)⟩
 have r:cE (JQ (n+3)) (.fr (.nm 6) (.seq (.sst (.nm 4))) I8) (grE f ch (Pl5 []) none none none none none none none none)=some (.nx,grE f ch (Pl5 (pq f ch)) o6 o7 o8 o9 none none none none):=
  bF (bo (d:=.list ((gsO ch).map PyData.int)) (wu rfl rfl rfl (by omega)) (by simp only[frz1,aA];rfl) rfl) D
 have u:cE (JQ (n+3)) ea6 (grE f ch (Pl5 (pq f ch)) o6 o7 o8 o9 none none none none)=some (.nx,grE f ch (lp (pq f ch)) o6 o7 o8 o9 (JN (fin f (pq f ch)).ps) (JN (fin f (pq f ch)).bs) (JG (fin f (pq f ch)).pl) none):=
  jc (ae (rs:=[.val (Rl f.rows),.val (Lo f),.rf 5]) (ρ3:=grE f ch (lp (pq f ch)) o6 o7 o8 o9 none none none none) rfl (show aU [false,false,false] _ _=_ from eA rfl (eA rfl (eA (bu rfl (bO _) rfl) rfl))) e rfl) rfl rfl
 have m:cE (JQ (n+3)) ebb (grE f ch (lp (pq f ch)) o6 o7 o8 o9 (JN (fin f (pq f ch)).ps) (JN (fin f (pq f ch)).bs) (JG (fin f (pq f ch)).pl) none)=some (.nx,gtE f ch (pq f ch) o6 o7 o8 o9):=
  aq (z:=Il (gsO ch)) (b7 (ρ2:=grE f ch (lp (pq f ch)) o6 o7 o8 o9 (JN (fin f (pq f ch)).ps) (JN (fin f (pq f ch)).bs) (JG (fin f (pq f ch)).pl) none) (bo (d:=.list ((pq f ch).map Pol)) rfl rfl rfl) (by rw[aaa];omega) rfl v (by rw[bL])) (by rw[iW];rfl) rfl rfl
 have c:jg (JQ (n+3)) edg (gtE f ch (pq f ch) o6 o7 o8 o9)=some (((gIx 0 f.rows).zip ch).map Zp,gtE f ch (pq f ch) o6 o7 o8 o9):=by rw[<-en];exact i_zipQ rfl rfl rfl rfl rfl rfl
 by_cases g:Srv f ch
 ·rw[if_pos (t.mpr g)]at i;rw[Dac g];exact af (fn:=F_gaps_reach) (ρ:=gtE f ch (pq f ch) p o7 l o9) rfl rfl (ab (aq (ρ3:=grE f ch (Pl5 []) none none none none none none none none) rfl rfl rfl rfl) (ab r (ab u (ab m (ab (bF c i) (az rfl)))))) rfl
 ·rw[if_neg (λz=>g (t.mp z))]at i;rw[Dab g];exact af (fn:=F_gaps_reach) (ρ:=gtE f ch (pq f ch) p o7 l o9) rfl rfl (ab (aq (ρ3:=grE f ch (Pl5 []) none none none none none none none none) rfl rfl rfl rfl) (ab r (ab u (ab m (az (bF c i)))))) rfl
abbrev nd'(ch:List Int):Nat:=(ch.foldl ddI []).length
def ls(f:Cf)(m:Nat)(ch:List Int):Nat:=if nd' ch<m/\Srv f ch then nd' ch else m
abbrev lwE(f:Cf)(x3:OD)(m:Nat)(o5:Option OD):DEnv:=[JJ f.rows,JK f,some (Re f),some x3,JG m,o5]
abbrev Ja:Ss:=match F_fewest.body with|.cons _ (.cons _ (.cons (.fr _ _ b) _))=>b|_=>.nil
theorem zq{n:Nat}{f:Cf}{m:Nat}{ch:List Int}{x3:OD}(p:f.rows.length<=200)(q:Nb f.rows)(C:Cho f ch)(h:x3.dat=some (.list ((gIx 0 f.rows).map PyData.int))):∃a,aG (JQ (n+4)) Ja (lwE f x3 m (some (.fz (Lc ch))))=some (.nx,lwE f a (ls f m ch) (some (.fz (Lc ch))))/\a.dat=some (.list ((gIx 0 f.rows).map PyData.int)):=by
 have s:=C.few;have i:∀(x3:OD),ev (JQ (n+4)) (.lset (.nm 5)) (lwE f x3 m (some (.fz (Lc ch))))=some (.val (It (nd' ch)),lwE f x3 m (some (.fz (Lc ch)))):=λx3=>qI rfl rfl rfl (by omega);have c:bj (JQ (n+4)) ecq (lwE f x3 m (some (.fz (Lc ch))))=some (decide ((nd' ch:Int)<(m:Int)),lwE f x3 m (some (.fz (Lc ch)))):=aN (aC (i x3) rfl rfl rfl rfl);by_cases j:nd' ch<m
 ·rw[Dac (show (nd' ch:Int)<(m:Int) by omega)]at c;have b:=wD (n:=n) p q C;have o:(JQ (n+4)).call=pl.pg.call (n+4):=rfl;rw[<-o]at b;have:∃r,ev (JQ (n+4)) (.nm 3) (lwE f x3 m (some (.fz (Lc ch))))=some (r,lwE f x3 m (some (.fz (Lc ch))))/\frz1 (lwE f x3 m (some (.fz (Lc ch)))) r=some (.list ((gIx 0 f.rows).map PyData.int),lwE f (Dl (gIx 0 f.rows)) m (some (.fz (Lc ch)))):=by
   cases x3 with
   |fz d=>cases h;exact⟨_,rfl,rfl⟩
   |_=>exact⟨.rf 3,rfl,bu rfl h rfl⟩
  obtain⟨r,l,k⟩:=this;have e:bj (JQ (n+4)) ea2 (lwE f x3 m (some (.fz (Lc ch))))=some (decide (Srv f ch),lwE f (Dl (gIx 0 f.rows)) m (some (.fz (Lc ch)))):=
   aW (ae (rs:=[.val (Rl f.rows),.val (Lo f),.val (Re f),r,.val (.fz (Lc ch))]) (ρ3:=lwE f (Dl (gIx 0 f.rows)) m (some (.fz (Lc ch)))) (aa rfl (aa rfl (aa rfl (aa l (aa rfl ah))))) (show aU [false,false,false,false,false] _ _=_ from eA rfl (eA rfl (eA rfl (eA k (eA rfl rfl))))) b rfl)
  by_cases g:Srv f ch
  ·rw[Dac g]at e;refine⟨Dl (gIx 0 f.rows),?_,rfl⟩;rw[show ls f m ch=nd' ch from if_pos ⟨j,g⟩];exact ab (aO (gp c e) (ab (aq (ρ3:=lwE f (Dl (gIx 0 f.rows)) (nd' ch) (some (.fz (Lc ch)))) (i _) rfl rfl rfl) rfl)) rfl
  ·rw[Dab g]at e;refine⟨Dl (gIx 0 f.rows),?_,rfl⟩;rw[show ls f m ch=m from if_neg λz=>g z.2];exact ab (aI (gp c e) rfl) rfl
 ·rw[Dab (show ¬ (nd' ch:Int)<(m:Int) by omega)]at c;refine⟨x3,?_,h⟩;rw[show ls f m ch=m from if_neg λz=>j z.1];exact ab (aI (n6 c) rfl) rfl
theorem qO{n:Nat}{f:Cf}(i:f.rows.length<=200)(j:Nb f.rows):∀{cs:List (List Int)}{m:Nat}{x3:OD}{o5:Option OD},(∀c∈cs,Cho f c)->x3.dat=some (.list ((gIx 0 f.rows).map PyData.int))->∃b a,bc (λd e=>(aX (.nm 5) (.fz d) e).bind λρ1=>aG (JQ (n+4)) Ja ρ1) (cs.map Lc) (lwE f x3 m o5)=some (.nx,lwE f b (cs.foldl (ls f) m) a)
 |[],m,x3,o5,_,_=>⟨x3,o5,rfl⟩
 |c::cs,m,x3,o5,h,h3=>by obtain⟨k,r,g⟩:=zq (n:=n) (m:=m) i j (h c aab) h3;obtain⟨l,o,p⟩:=qO (n:=n) i j (cs:=cs) (m:=ls f m c) (x3:=k) (o5:=some (.fz (Lc c))) (λd q=>h d (aah _ q)) g;exact⟨l,o,bs (x:=(Fl.nx,lwE f k (ls f m c) (some (.fz (Lc c))))) (bs (x:=lwE f x3 m (some (.fz (Lc c)))) rfl r) p⟩
theorem sJ{n:Nat}{f:Cf}(s:f.rows.length<=6)(b:(gIx 0 f.rows).length<=4)(u:Nb f.rows):pl.pg.call (n+5) 36 [Rl f.rows,Lo f,Re f]=some (It ((dq f.rows.length (gIx 0 f.rows).length).foldl (ls f) (gIx 0 f.rows).length:Nat),[Rl f.rows,Lo f,Re f]):=by
 obtain⟨j,e⟩:=gW (C:=JQ (n+4)) (z:=.call 29 edk) (λi r=>aW (ae (ρ3:=[JG i,JI r]) rfl rfl (jS r) rfl)) (rs:=f.rows) (i:=0) (out:=[]) (o0:=none) (o1:=none);rw[aa5,<-qo]at e;obtain⟨x,h,v⟩:=F6 (n:=n+3) (N:=f.rows.length) s b;have q:(JQ (n+4)).call=pl.pg.call (n+4):=rfl;rw[<-q]at h;obtain⟨o,k,t⟩:=qO (n:=n) (f:=f) (by omega) u (cs:=dq f.rows.length (gIx 0 f.rows).length) (m:=(gIx 0 f.rows).length) (x3:=Il (gIx 0 f.rows)) (o5:=none) (λc b=>⟨(dr b).1,by rw[(dr b).1];omega,(dr b).2⟩) (aA _);have a:∀g o5:Option OD,ev (JQ (n+4)) ecv [JJ f.rows,JK f,some (Re f),some (Il (gIx 0 f.rows)),g,o5]=some (.val (It (gIx 0 f.rows).length),[JJ f.rows,JK f,some (Re f),some (Il (gIx 0 f.rows)),g,o5]):=λg o5=>aV (ds:=[.list ((gIx 0 f.rows).map PyData.int)]) rfl (iD (aA _)) blen;have p:cE (JQ (n+4)) ea1 [JJ f.rows,JK f,some (Re f),none,none,none]=some (.nx,[JJ f.rows,JK f,some (Re f),some (Il (gIx 0 f.rows)),none,none]):=aq (z:=Il (gIx 0 f.rows)) (b7 (ρ2:=[JJ f.rows,JK f,some (Re f),none,none,none]) (oh rfl rfl) (by rw[cO,aaa];omega) rfl e bL) (by rw[iW];rfl) rfl rfl;have l:jg (JQ (n+4)) eao (lwE f (Il (gIx 0 f.rows)) (gIx 0 f.rows).length none)=some ((dq f.rows.length (gIx 0 f.rows).length).map Lc,lwE f (Il (gIx 0 f.rows)) (gIx 0 f.rows).length none):=
  bo (d:=.list ((dq f.rows.length (gIx 0 f.rows).length).map Lc)) (ρ2:=lwE f (Il (gIx 0 f.rows)) (gIx 0 f.rows).length none) (ae (rs:=[.val (It (f.rows.length+1:Nat)),.val (It (gIx 0 f.rows).length)]) (ρ3:=lwE f (Il (gIx 0 f.rows)) (gIx 0 f.rows).length none) (aa (ag (aV rfl rfl blen) rfl rfl rfl rfl) (aa (a _ _) ah)) rfl h rfl) (by simp only[frz1,v];rfl) rfl
 exact af (fn:=F_fewest) (ρ:=lwE f o ((dq f.rows.length (gIx 0 f.rows).length).foldl (ls f) (gIx 0 f.rows).length) k) rfl rfl (ab p (ab (aq (ρ3:=lwE f (Il (gIx 0 f.rows)) (gIx 0 f.rows).length none) (a _ _) rfl rfl rfl) (ab (bF l t) (az (ao rfl rfl))))) rfl
theorem ls_fold{f:Cf}:∀{cs:List (List Int)}{m:Nat},cs.foldl (ls f) m<=m/\(∀c∈cs,Srv f c->cs.foldl (ls f) m<=nd' c)/\(cs.foldl (ls f) m=m\/∃c∈cs,Srv f c/\cs.foldl (ls f) m=nd' c)
 |[],m=>⟨aag _,λc l=>absurd l aan,.inl rfl⟩
 |c::cs,m=>by
  obtain⟨e,j,a⟩:=ls_fold (f:=f) (cs:=cs) (m:=ls f m c);rw[aa6];generalize cs.foldl (ls f) (ls f m c)=r at e j a;by_cases g:nd' c<m/\Srv f c
  ·rw[show ls f m c=nd' c from if_pos g]at e a;refine⟨aav e (aaU g.1),λd b h=>?_,?_⟩
   ·rcases aac.mp b with rfl|b
    ·exact e
    ·exact j d b h
   ·rcases a with a|⟨d,k,i⟩
    ·exact .inr ⟨c,aab,g.2,a⟩
    ·exact .inr ⟨d,aah _ k,i⟩
  ·rw[show ls f m c=m from if_neg g]at e a;refine⟨e,λd b h=>?_,?_⟩
   ·rcases aac.mp b with rfl|b
    ·exact aav e (abT λz=>g ⟨z,h⟩)
    ·exact j d b h
   ·rcases a with a|⟨d,k,i⟩
    ·exact .inl a
    ·exact .inr ⟨d,aah _ k,i⟩
def zt{f:Cf}{cs:List (List Int)}{m a:Nat}{c:List Int}(n:c∈cs)(hs:Srv f c)(p:nd' c=m)(h:m<=a):cs.foldl (ls f) m=cs.foldl (ls f) a:=by
 obtain⟨o,l,k⟩:=ls_fold (f:=f) (cs:=cs) (m:=m);obtain⟨q,i,j⟩:=ls_fold (f:=f) (cs:=cs) (m:=a);have z:=i c n hs;refine Nat.le_antisymm ?_ ?_
 ·rcases j with j|⟨d,e,g,b⟩
  ·omega
  ·rw[b];exact l d e g
 ·rcases k with k|⟨d,e,g,b⟩
  ·omega
  ·rw[b];exact i d e g
def oE(ch:List Int):(gsO ch).length=nd' ch:=(sortI_perm _).length_eq
theorem oF{f:Cf}:∀{cs:List (List Int)}{t:OD×Pz×List Int},(cs.foldl (fs f) t).2.1.length=cs.foldl (ls f) t.2.1.length
 |[],t=>rfl
 |c::cs,t=>by
  rw[aa6,aa6,oF (cs:=cs)];congr 1;by_cases a:nd' c<t.2.1.length/\Srv f c
  ·rw[show ls f _ c=nd' c from if_pos a,show fs f t c=_ from if_pos ⟨by have:=a.1;show ((nd' c:Nat):Int)<_;omega,a.2⟩,<-oE];exact aaa _
  ·rw[show ls f _ c=_ from if_neg a,show fs f t c=t from if_neg λz=>a ⟨by have:((nd' c:Nat):Int)<_:=z.1;omega,z.2⟩]
theorem qP{N:Nat}:∀{k:Nat}{c:List Int},c.length=k->(∀g∈c,0<=g/\g<=(N:Int))->c∈dq N k
 |0,c,h,_=>by rw[List.eq_nil_of_length_eq_zero h];exact aab
 |k+1,c,h,hg=>by
  rcases abn c with rfl|⟨d,g,rfl⟩
  ·cases h
  ·rw[abo]at *;have b:d.length=k:=by rw[aak]at h;exact abV h
   obtain⟨a,f⟩:=hg g (aae _ aab);refine List.mem_flatMap.mpr ⟨d,qP b λx e=>hg x (aaf _ e),nxc_mem.mpr ⟨g,a,by omega,rfl⟩⟩
def qQ(qs:Pz)(us:List Int):List Int:=us.map λu=>((qs[u.toNat]?).map (·.1)).getD 0
theorem je{f:Cf}{k:Nat}:∀{ps qs:Pz}{s:Mc},ps.map (λq=>(q.1,q.2.length))=qs.map (λq=>(q.1,q.2.length))->inner f ps k s=inner f qs k s
 |[],[],s,_=>rfl
 |[],q::qs,s,h=>by cases h
 |p::ps,[],s,h=>by cases h
 |p::ps,q::qs,s,h=>by obtain⟨d,c⟩:=abM h;obtain⟨a,b⟩:=abp d;have a:p.1=q.1:=a;have b:p.2.length=q.2.length:=b;show inner f ps k (inn f k s p)=inner f qs k (inn f k s q);rw[show inn f k s p=inn f k s q by unfold inn;rw[a,b]];exact je c
def Dh{f:Cf}{ps qs:Pz}(h:ps.map (λq=>(q.1,q.2.length))=qs.map (λq=>(q.1,q.2.length))):fin f ps=fin f qs:=by
 have:∀k,mac f ps k=mac f qs k:=λk=>by
  induction k with
  |zero=>rfl
  |succ k a=>rw[mac,mac,a,je h]
 unfold fin;rw[this,je h]
section
variable{f:Cf}{qs:Pz}{us:List Int}{r0 r1:Int}
def oG(P:Pf f qs us r0 r1){u:Int}(b:u∈us):∃(j:Nat) (q:Int×List Int),u=j/\qs[j]?=some q/\((qs[u.toNat]?).map (·.1)).getD 0=q.1:=by
 obtain⟨c,d⟩:=P.uq u b;have a:u.toNat<qs.length:=by omega
 exact⟨u.toNat,qs[u.toNat],by omega,aap a,by rw[aap a];rfl⟩
def rd(P:Pf f qs us r0 r1)(V:Rw f qs us){j:Nat}{q:Int×List Int}(h:qs[j]?=some q):(j:Int)∈us:=by obtain⟨x,d⟩:=List.exists_mem_of_ne_nil _ (P.ok q (aaV h)).ne;obtain⟨z,c,e,_⟩:=V j q h x d;rw[<-e];exact(aaZ (a:=z.1) (b:=z.2) c).2
def zu(P:Pf f qs us r0 r1){i j:Nat}{p q:Int×List Int}(c:qs[i]?=some p)(d:qs[j]?=some q)(e:p.1=q.1):i=j:=by
 obtain⟨a,k⟩:=aaj.mp c;obtain⟨b,g⟩:=aaj.mp d;rw[<-k,<-g]at e;rcases Nat.lt_trichotomy i j with h|h|h
 ·have:=abC.mp P.inc i j a b h;omega
 ·exact h
 ·have:=abC.mp P.inc j i b a h;omega
def lh(P:Pf f qs us r0 r1)(V:Rw f qs us):gsO (qQ qs us)=qs.map (·.1):=by
 have c:(qs.map (·.1)).Pairwise (·<·):=abE.mpr P.inc;have m:(qs.map (·.1)).Nodup:=c.imp λh=>by omega
 refine List.Perm.eq_of_pairwise (le:=(·<·)) (λa b _ _ h n=>by omega) (qH _) c ((ac8 (gsO_nd _) m).mpr λg=>?_);rw[gsO_mem];constructor
 ·intro h;obtain⟨u,i,rfl⟩:=aas.mp h;obtain⟨j,q,_,l,k⟩:=oG P i;exact aas.mpr ⟨q,aaV l,k.symm⟩
 ·intro h;obtain⟨q,e,rfl⟩:=aas.mp h;obtain⟨j,d⟩:=aaQ.mp e;refine aas.mpr ⟨(j:Int),rd P V d,?_⟩;show ((qs[j]?).map (·.1)).getD 0=_;rw[d];rfl
def Di(P:Pf f qs us r0 r1)(V:Rw f qs us):pu (qQ qs us)=us:=by unfold pu;rw[lh P V,qQ,aaX];refine(ab5 λu a=>?_).trans (List.map_id _);obtain⟨j,q,rfl,b,c⟩:=oG P a;show ixo _ (((qs[((j:Nat):Int).toNat]?).map (·.1)).getD 0)=_;rw[c];exact fj (by rw[<-lh P V];exact gsO_nd _) (by rw[aat,b];rfl)
def Dj(P:Pf f qs us r0 r1)(V:Rw f qs us){j:Nat}{q:Int×List Int}(h:qs[j]?=some q):(wo f (qQ qs us) q.1).length=q.2.length:=by
 have l:=(wy (f:=f) (zs:=(gIx 0 f.rows).zip (qQ qs us)) (W:=λ_=>[]) (λ_=>abc) q.1).1;refine((ac8 l (P.ok q (aaV h)).nd).mpr λx=>?_).length_eq;rw[wo_mem];constructor
 ·rintro (k|⟨z,a,e,rfl⟩)
  ·exact absurd k aan
  ·unfold qQ at a;rw[aby]at a;obtain⟨w,m,rfl⟩:=aas.mp a;obtain⟨i,n,p,b,v,d,g,t,c,o,_⟩:=P.sv w m;obtain⟨u,s⟩:=w;obtain⟨rfl,rfl⟩:=abp d;have e:((qs[((n:Nat):Int).toNat]?).map (·.1)).getD 0=q.1:=e;rw[aaM,c]at e;obtain rfl:=zu P c h e;rw[h]at c;cases c;exact o
 ·intro r;obtain⟨z,a,d,g⟩:=V j q h x r;refine .inr ⟨(z.1,q.1),?_,rfl,g⟩;unfold qQ;rw[aby];refine aas.mpr ⟨z,a,?_⟩;show (z.1,((qs[z.2.toNat]?).map (·.1)).getD 0)=_;rw[d,aaM,h];rfl
def zw(P:Pf f qs us r0 r1)(V:Rw f qs us):fin f (pq f (qQ qs us))=fin f qs:=by refine Dh ?_;unfold pq;rw[lh P V,aaX,aaX];refine ab5 λq a=>?_;obtain⟨j,b⟩:=aaQ.mp a;show (q.1,(wo f (qQ qs us) q.1).length)=_;rw[Dj P V b]
def zx(P:Pf f qs us f.r0 f.r1)(V:Rw f qs us):Srv f (qQ qs us):=by unfold Srv;rw[Di P V];intro z a;unfold Rr;rw[zw P V];exact(P.sv z a).two.2
def zy(P:Pf f qs us r0 r1):qQ qs us∈dq f.rows.length (gIx 0 f.rows).length:=qP (by rw[qQ,aaa];exact P.ul) λg a=>by obtain⟨u,b,rfl⟩:=aas.mp a;obtain⟨j,q,_,c,d⟩:=oG P b;rw[d];have:=P.ok q (aaV c);exact⟨this.lo,this.hi⟩
def wG(P:Pf f qs us r0 r1)(V:Rw f qs us):nd' (qQ qs us)=qs.length:=by rw[<-oE,lh P V,aaa]
def least(f:Cf):Nat:=(dq f.rows.length (gIx 0 f.rows).length).foldl (ls f) (gIx 0 f.rows).length
def jf(P:Pf f qs us f.r0 f.r1)(V:Rw f qs us):(dq f.rows.length (gIx 0 f.rows).length).foldl (ls f) qs.length=least f:=by refine zt (zy P) (zx P V) (wG P V) ?_;rw[<-wG P V,<-oE,<-P.ul];refine aav (gsO_len _) ?_;rw[qQ,aaa];exact aag _
end
def P0(f:Cf)(k:Nat):Int:=(mac f [] k).pl
def F7{f:Cf}{k:Nat}:1<=sz f k/\sz f k<=2:=by unfold sz;split<;>omega
def P0_succ{f:Cf}{k:Nat}:P0 f (k+1)=P0 f k+sz f k:=by unfold P0;rw[k5 λq a=>absurd a aan];rfl
theorem qR{f:Cf}{i:Nat}:∀{m:Nat},P0 f i<=P0 f (i+m)
 |0=>abd _
 |m+1=>by have b:=qR (f:=f) (i:=i) (m:=m);have a:P0 f (i+(m+1))=P0 f (i+m)+sz f (i+m):=P0_succ;have:=(F7 (f:=f) (k:=i+m)).1;omega
def F8{f:Cf}{i k:Nat}(h:i<=k):P0 f i<=P0 f k:=by
 obtain⟨m,rfl⟩:∃m,k=i+m:=⟨k-i,by omega⟩
 exact qR
def F9{C:Ct}{i:Nat}{ρ:DEnv}{x:OR}{d:PyData}{k:Bool}(h:ev C (.nm i) ρ=some (x,ρ))(b:aw ρ x=some d)(a:kl d=some k):bj C (.nm i) ρ=some (k,ρ):=bs h (bs b (bs a rfl))
abbrev De:OD:=.fz (.list [])
abbrev wU(f:Cf):List Int:=(mac f [] f.rows.length).ps
abbrev Jb(f:Cf):OD:=.fz (.tuple [.list ((wU f).map PyData.int),.list ((mac f [] f.rows.length).bs.map PyData.int),.int (P0 f f.rows.length)])
def wH{f:Cf}{i:Nat}(h:i<f.rows.length):(wU f)[i]?=some (P0 f i):=by
 obtain⟨m,e⟩:∃m,f.rows.length=(i+1)+m:=⟨f.rows.length-i-1,by omega⟩
 unfold wU;rw[e,k6 (aaY i),k5 λq a=>absurd a aan];show ((mac f [] i).ps++[_])[i]?=_;rw[aa4 (by rw[bh];exact aag _),bh,abw];rfl
def zz{n:Nat}{f:Cf}{i j:Nat}(b:i<f.rows.length)(c:j<f.rows.length):pl.pg.call (n+1) 22 [Dl (wU f),Re f,It i,It j]=some (.fz (.bool (decide (f.r0+f.r1<P0 f j-P0 f i))),[Dl (wU f),Re f,It i,It j]):=by have d:atI ((wU f).map PyData.int) (i:Int)=some (.int (P0 f i)):=b8 (by rw[aat,wH b];rfl);have a:atI ((wU f).map PyData.int) (j:Int)=some (.int (P0 f j)):=b8 (by rw[aat,wH c];rfl);exact af (fn:=gH) rfl rfl (az (ao (aC (dx:=.int (P0 f j-P0 f i)) (dy:=.int (f.r0+f.r1)) (ag (aM rfl rfl rfl (bp a)) (aM rfl rfl rfl (bp d)) rfl rfl rfl) (ag (aM rfl rfl rfl (ba bq)) (aM rfl rfl rfl (ba (b8 (k:=1) rfl))) rfl rfl rfl) rfl rfl rfl) rfl)) rfl
def tk(f:Cf)(c:Int)(acc:List Int)(a:Int):Bool:=acc.getLast?.elim true λb=>decide (c<P0 f a.toNat-P0 f b.toNat)
def need(f:Cf)(b:Int):List Int->List Int->List Int
 |acc,[]=>acc
 |acc,a::gs=>need f b (if tk f b acc a=true then acc++[a] else acc) gs
def InR(f:Cf)(a:Int):Prop:=∃i:Nat,a=i/\i<f.rows.length
def Dk{f:Cf}{a:Int}(h:a∈gIx 0 f.rows):InR f a:=by obtain⟨j,r,c,b,_⟩:=cG h;exact⟨j,by omega,(aaj.mp b).1⟩
def atI_last{a:Type}{xs:List a}{x:a}:atI (xs++[x]) (-1)=some x:=by
 have e:ixN (xs++[x]).length (-1)=some xs.length:=by unfold ixN;rw[aak,aaB];rw[if_neg (by omega),if_pos (by omega)];congr 1;omega
 exact bs e aaS
abbrev nE(f:Cf)(acc:List Int)(o7:Option OD):DEnv:=[JJ f.rows,JK f,some (Re f),JN (wU f),JN (mac f [] f.rows.length).bs,JG (P0 f f.rows.length),some (Il acc),o7]
abbrev nT:E:=.or (.not (.nm 6)) eax
def Ga{n:Nat}{f:Cf}{acc:List Int}{a:Int}(o:InR f a)(p:∀b∈acc,InR f b):bj (JQ (n+1)) nT (nE f acc (JG a))=some (tk f (f.r0+f.r1) acc a,nE f acc (JG a)):=by
 have g:bj (JQ (n+1)) (.nm 6) (nE f acc (JG a))=some (!acc.isEmpty,nE f acc (JG a)):=F9 (x:=.rf 6) (d:=.list (acc.map PyData.int)) rfl (aA acc) (by cases acc<;>rfl);rcases abn acc with h|⟨c,b,h⟩
 ·subst h;exact jM (cI g)
 ·rw[abo]at h;subst h;obtain⟨i,rfl,k⟩:=o;obtain⟨j,e,l⟩:=p b (aae _ aab);subst e;have m:bj (JQ (n+1)) (.not (.nm 6)) (nE f (c++[(j:Int)]) (JG i))=some (false,nE f (c++[(j:Int)]) (JG i)):=by have:=cI g;rw[this];cases c<;>rfl
  refine cz m ((aW (ae (ρ3:=nE f (c++[(j:Int)]) (JG i)) (aa rfl (aa rfl (aa (aM (z:=It j) (ρ3:=nE f (c++[(j:Int)]) (JG i)) rfl rfl rfl (iX rfl (by rw[aau];exact atI_last))) (aa rfl ah)))) rfl (zz (n:=n) l k) rfl)).trans ?_);unfold tk;rw[ac9];rfl
theorem oH{n:Nat}{f:Cf}(m:f.rows.length<=200):∀{gs acc:List Int}{o7:Option OD},(∀a∈gs,InR f a)->(∀b∈acc,InR f b)->acc.length+gs.length<=1000->∃l,bc (λd j=>(aX (.nm 7) (.fz d) j).bind λρ1=>aG (JQ (n+1)) (.cons (.iff nT ec1 .nil) .nil) ρ1) (gs.map PyData.int) (nE f acc o7)=some (.nx,nE f (need f (f.r0+f.r1) acc gs) l)
 |[],acc,o7,_,_,_=>⟨o7,rfl⟩
 |a::gs,acc,o7,h1,h2,hl=>by
  have g:=Ga (n:=n) (h1 a aab) h2;rw[aaw]at hl;cases h:tk f (f.r0+f.r1) acc a with
  |true=>
   rw[h]at g;obtain⟨i,e⟩:=oH (n:=n) m (gs:=gs) (acc:=acc++[a]) (o7:=JG a) (λx c=>h1 x (aah _ c)) (λx c=>by
    rcases aai.mp c with z|z
    ·exact h2 x z
    ·rw[aao.mp z];exact h1 a aab) (by rw[aak,aaB];omega)
   refine⟨i,?_⟩;have k:need f (f.r0+f.r1) acc (a::gs)=need f (f.r0+f.r1) (acc++[a]) gs:=by rw[need,h,if_pos rfl]
   rw[k];refine bs (bs (x:=nE f acc (JG a)) rfl (ab (aO g (ab (cZ (ρ3:=nE f (acc++[a]) (JG a)) rfl rfl rfl rfl (by rw[aaa];omega) ?_) rfl)) rfl)) e;show _=[JJ f.rows,JK f,some (Re f),JN (wU f),JN (mac f [] f.rows.length).bs,JG (P0 f f.rows.length),some (Il (acc++[a])),JG a];rw[bR];rfl
  |false=>
   rw[h]at g;obtain⟨i,e⟩:=oH (n:=n) m (gs:=gs) (acc:=acc) (o7:=JG a) (λx c=>h1 x (aah _ c)) h2 (by omega);refine⟨i,?_⟩;have k:need f (f.r0+f.r1) acc (a::gs)=need f (f.r0+f.r1) acc gs:=by rw[need,h,if_neg aal]
   rw[k];exact bs (bs (x:=nE f acc (JG a)) rfl (ab (aI g rfl) rfl)) e
def Dm{f:Cf}:(gIx 0 f.rows).length<=f.rows.length:=by rw[cj];exact ab8 _ _
theorem wI{n:Nat}{f:Cf}(g:f.rows.length<=200):pl.pg.call (n+4+1) 23 [Rl f.rows,Lo f,Re f]=some (Il (need f (f.r0+f.r1) [] (gIx 0 f.rows)),[Rl f.rows,Lo f,Re f]):=by
 have o:=Dm (f:=f);obtain⟨o7,e⟩:=oH (n:=n+3) g (gs:=gIx 0 f.rows) (acc:=[]) (o7:=none) (λa h=>Dk h) (λb h=>absurd h aan) (by rw[aaG];omega);have c:pl.pg.call (n+4) 6 [Rl f.rows,Lo f,De]=some (Jb f,[Rl f.rows,Lo f,De]):=qu (n:=n) (qs:=[]) List.Pairwise.nil (λq k=>absurd k aan) (aaH _) g;have i:pl.pg.call (n+4) 1 [Rl f.rows]=some (Il (gIx 0 f.rows),[Rl f.rows]):=dY (n:=n+2) (by omega);have m:(JQ (n+4)).call=pl.pg.call (n+4):=rfl;rw[<-m]at c i;have j:cE (JQ (n+4)) ea4 [JJ f.rows,JK f,some (Re f),none,none,none,none,none]=some (.nx,[JJ f.rows,JK f,some (Re f),JN (wU f),JN (mac f [] f.rows.length).bs,JG (P0 f f.rows.length),none,none]):=jc (z:=Jb f) (ρ1:=[JJ f.rows,JK f,some (Re f),none,none,none,none,none]) (ae (rs:=[.val (Rl f.rows),.val (Lo f),.val (.lst [])]) (ρ1:=[JJ f.rows,JK f,some (Re f),none,none,none,none,none]) (ρ2:=[JJ f.rows,JK f,some (Re f),none,none,none,none,none]) rfl rfl c rfl) rfl rfl;have l:jg (JQ (n+4)) eck (nE f [] none)=some ((gIx 0 f.rows).map PyData.int,nE f [] none):=bo (d:=.list ((gIx 0 f.rows).map PyData.int)) (ρ1:=nE f [] none) (ae (rs:=[.val (Rl f.rows)]) (ρ1:=nE f [] none) (ρ2:=nE f [] none) rfl rfl i rfl) (by show ((Il (gIx 0 f.rows)).dat).map _=_;rw[aA];rfl) rfl;refine af (fn:=eT) (ρ:=nE f (need f (f.r0+f.r1) [] (gIx 0 f.rows)) o7 |>.set 6 none) rfl rfl (ab j (ab (ρ1:=nE f [] none) rfl (ab (bF l e) (az (ao (x:=.rf 6) (ρ1:=nE f (need f (f.r0+f.r1) [] (gIx 0 f.rows)) o7) rfl ?_))))) ?_
 ·rfl
 ·rfl
def pA(f:Cf)(qs:Pz)(k:Nat):Int:=(inner f qs k (mac f qs k)).pl
theorem mU{f:Cf}{k:Nat}:∀{qs:Pz}{s:Mc},s.pl<=(inner f qs k s).pl
 |[],s=>abd _
 |q::qs,s=>by
  refine ab3 ?_ (mU (qs:=qs) (s:=inn f k s q));unfold inn;split
  ·have:=(wa (rs:=f.rows) (k:=k) (p:=s.pl)).1;show s.pl<=fw f.rows k s.pl+2*(q.2.length:Int);omega
  ·exact abd _
theorem wJ{f:Cf}{qs:Pz}{i:Nat}:∀{m:Nat},P0 f (i+m)-P0 f i<=pA f qs (i+m)-pA f qs i
 |0=>by show P0 f i-P0 f i<=pA f qs i-pA f qs i;omega
 |m+1=>by have h:=wJ (f:=f) (qs:=qs) (i:=i) (m:=m);have b:P0 f (i+(m+1))=P0 f (i+m)+sz f (i+m):=P0_succ;have a:pA f qs (i+m)+sz f (i+m)<=pA f qs (i+(m+1)):=mU (qs:=qs) (s:=mac f qs (i+m+1));omega
def An{f:Cf}{qs:Pz}{i:Nat}(h:i<f.rows.length):(fin f qs).ps[i]?=some (pA f qs i):=by
 obtain⟨m,e⟩:∃m,f.rows.length=(i+1)+m:=⟨f.rows.length-i-1,by omega⟩
 unfold fin;rw[bx,e,k6 (aaY i)];show ((inner f qs i (mac f qs i)).ps++[_])[i]?=_;rw[bx,aa4 (by rw[bh];exact aag _),bh,abw];rfl
theorem qS{f:Cf}{g:Int}(l:0<=g):∀{gs acc:List Int},acc.Pairwise (λa b=>g<P0 f b.toNat-P0 f a.toNat)->(need f g acc gs).Pairwise (λa b=>g<P0 f b.toNat-P0 f a.toNat)/\∀x∈need f g acc gs,x∈acc\/x∈gs
 |[],acc,h=>⟨h,λx j=>.inl j⟩
 |a::gs,acc,h=>by
  rw[need];have h':(if tk f g acc a=true then acc++[a] else acc).Pairwise (λa b=>g<P0 f b.toNat-P0 f a.toNat):=by
   cases i:tk f g acc a with
   |false=>rw[if_neg aal];exact h
   |true=>
    rw[if_pos rfl];rcases abn acc with e|⟨p,b,e⟩
    ·subst e;exact ab9 _ _
    ·rw[abo]at e;subst e;have i:g<P0 f a.toNat-P0 f b.toNat:=by unfold tk at i;rw[ac9]at i;exact Daa i
     refine aaW.mpr ⟨h,ab9 _ _,λc n d m=>?_⟩;rw[aao.mp m];rcases aai.mp n with z|z
     ·have:=(aaW.mp h).2.2 c z b aab;omega
     ·rw[aao.mp z];exact i
  obtain⟨o,k⟩:=qS (f:=f) l (gs:=gs) h';refine⟨o,λx j=>?_⟩;rcases k x j with z|z
  ·split at z
   ·rcases aai.mp z with z|z
    ·exact .inl z
    ·rw[aao.mp z];exact .inr aab
   ·exact .inl z
  ·exact .inr (aah _ z)
theorem zA{f:Cf}{qs:Pz}{us:List Int}(O:0<=f.r0+f.r1)(P:Pf f qs us f.r0 f.r1):(need f (f.r0+f.r1) [] (gIx 0 f.rows)).length<=qs.length:=by
 obtain⟨u,s⟩:=qS (f:=f) O (gs:=gIx 0 f.rows) (acc:=[]) List.Pairwise.nil;generalize need f (f.r0+f.r1) [] (gIx 0 f.rows)=D at u s ⊢;have J:∀a∈D,∃j:Nat,Sv f qs f.r0 f.r1 (a,(j:Int)):=λa n=>by have n:a∈gIx 0 f.rows:=(s a n).elim (λz=>absurd z aan) id;obtain⟨k,B⟩:=aaQ.mp n;have v:=(aaj.mp B).1;rw[<-P.ul]at v;have:=P.sv (a,us[k]) (aaQ.mpr ⟨k,by rw[acq];exact⟨B,aap v⟩⟩);obtain⟨i,j,p,b,q,c,e⟩:=this;exact⟨j,i,j,p,b,q,by rw[(abp c).1],e⟩
 have:=λa:{ a // a∈D }=>J a.1 a.2;obtain⟨g,r⟩:=abB this;have F:(D.attach.map g).Nodup:=by
  refine abE.mpr ?_;have N:D.attach.Pairwise λa b=>f.r0+f.r1<P0 f b.1.toNat-P0 f a.1.toNat:=by have:=abE (f:=Subtype.val) (l:=D.attach) (R:=λa b:Int=>f.r0+f.r1<P0 f b.toNat-P0 f a.toNat);rw[List.attach_map_subtype_val]at this;exact this.mp u
  refine N.imp λ{a b} hab e=>?_;obtain⟨i,j,p,t,q,c,h,w,y,e5,X,e7,_⟩:=r a;obtain⟨d,M,p',Z,q',H,o,A,Y,d5,d6,W,_⟩:=r b;obtain⟨C,I⟩:=abp c;obtain⟨L,y2⟩:=abp H;rw[C,L,aaM,aaM]at hab;have:j=M:=by omega
  subst this;rw[w]at A;cases A;have S:i<f.rows.length:=by have:=(aaj.mp h).1;rw[oC]at this;exact this
  have Q:d<f.rows.length:=by have:=(aaj.mp o).1;rw[oC]at this;exact this
  rw[An S]at h;rw[An Q]at o;cases h;cases o;have T:i<=d:=abT λz=>by have:=F8 (f:=f) (aaU z);omega
  obtain⟨m,rfl⟩:∃m,d=i+m:=⟨d-i,by omega⟩
  have:=wJ (f:=f) (qs:=qs) (i:=i) (m:=m);omega
 have:=F.length_le_of_subset (l₂:=List.range qs.length) λx U=>by obtain⟨a,_,rfl⟩:=aas.mp U;obtain⟨i,j,p,t,q,c,h,w,y,_⟩:=r a;obtain⟨C,I⟩:=abp c;have:=(aaj.mp y).1;exact ace.mpr (by omega)
 rw[aaa,List.length_attach,acx]at this;exact this
abbrev oI(f:Cf):Cf:=⟨f.rows,f.longs,f.r0+3,f.r1+2⟩
def zB{f:Cf}{qs:Pz}:fin (oI f) qs=fin f qs:=by
 have:∀k,mac (oI f) qs k=mac f qs k:=λk=>by
  induction k with
  |zero=>rfl
  |succ k a=>show jh (oI f) k (inner (oI f) qs k (mac (oI f) qs k))=jh f k (inner f qs k (mac f qs k));rw[a];rfl
 show inner (oI f) qs f.rows.length (mac (oI f) qs f.rows.length)=inner f qs f.rows.length (mac f qs f.rows.length);rw[this];rfl
def least_wide{f:Cf}:least (oI f)<=least f:=by
 obtain⟨d,a,_⟩:=ls_fold (f:=oI f) (cs:=dq f.rows.length (gIx 0 f.rows).length) (m:=(gIx 0 f.rows).length);rcases (ls_fold (f:=f) (cs:=dq f.rows.length (gIx 0 f.rows).length) (m:=(gIx 0 f.rows).length)).2.2 with h|⟨c,e,g,h⟩
 ·exact aav d (abq h.symm)
 ·refine aav (a c e λz b=>?_) (abq h.symm);have:Rr f (pq f c) f.r0 f.r1 z:=g z b;have:Rr (oI f) (pq f c) f.r0 f.r1 z:=by unfold Rr;rw[zB];exact this
  exact⟨ab3 this.1 (show f.r1<=f.r1+2 by omega),ab3 this.2 (show f.r0<=f.r0+3 by omega)⟩
def gr_any{rs:List R}{i:Int}:(gIx i rs).length=0 ↔ rs.any R.gr=false:=by rw[cj,acw,List.filter_eq_nil_iff,acg]
theorem qT{n:Nat}:∀{rs:List R}{out:List PyData}{o:Option OD},∃a,aT (be (JQ (n+1)) (.nm 0) .none Gw) (rs.map R.d) out [o]=some (out++rs.map (λr=>.bool r.gr),[a])
 |[],out,o=>⟨o,by simp only[aaC,aaq];rfl⟩
 |r::rs,out,o=>by obtain⟨a,e⟩:=qT (n:=n) (rs:=rs) (out:=out++[.bool r.gr]) (o:=JI r);refine⟨a,bs (x:=([.bool r.gr],[JI r])) (my (ρ1:=[JI r]) rfl (ae (ρ3:=[JI r]) rfl rfl (jS r) rfl) rfl) (e.trans ?_)⟩;rw[aam,aad];rfl
theorem qU:∀rs:List R,allB (rs.map λr=>.bool r.gr)=some (rs.map R.gr)
 |[]=>rfl
 |r::rs=>by simp only[aam,allB,qU rs];rfl
def Dn{rs:List R}:EJ .any [.list (rs.map λr=>.bool r.gr)]=some (.bool (rs.any R.gr)):=by show (allB (rs.map λr=>PyData.bool r.gr)).bind (λa=>some (PyData.bool (a.any id)))=_;rw[qU];show some (PyData.bool ((rs.map R.gr).any id))=_;rw[ab4];rfl
abbrev kE(a0 a1 a2:Option OD)(f:Cf)(x4:OD)(o6:Option OD):DEnv:=[a0,a1,a2,JJ f.rows,some x4,some (Re f),o6]
abbrev wK:Ss:=match F_law.body with|.cons (.fr _ _ b) _=>b|_=>.nil
abbrev Gb:Ss:=match wK with|.cons _ (.cons _ (.cons _ b))=>b|_=>.nil
def Do(rs:List R):(Rs rs).dat=some (.list (rs.map R.d)):=by rw[Rs,<-vP];exact bO _
theorem Dp{a0 a1 a2:Option OD}{f:Cf}{o6:Option OD}(H:f.rows.length<=6)(P:(f.rows.filter R.gr).length<=4)(I:Nb f.rows)(h0:0<=f.r0)(h6:6<=f.r1):∃Y,aG (JQ 8) Gb (kE a0 a1 a2 f (Il f.longs) o6)=some (.nx,kE a0 a1 a2 f (Lo f) Y):=by
 obtain⟨B,a,M,x,w,h,O,b,l,Q,X⟩:=mR H P I h0 h6;obtain⟨B',e,a3,j,J,q,m,L,v,A,D⟩:=mR (f:=oI f) H P I (show 0<=f.r0+3 by omega) (show 6<=f.r1+2 by omega);have C:a.length=least f:=by have:=oF (f:=f) (cs:=dq f.rows.length (gIx 0 f.rows).length) (t:=(Pn h O,h,O));rw[X]at this;exact this.trans (jf l Q)
 have F:e.length=least (oI f):=by have:=oF (f:=oI f) (cs:=dq f.rows.length (gIx 0 f.rows).length) (t:=(Pn q m,q,m));rw[D]at this;exact this.trans (jf v A)
 have hg:=cj (rs:=f.rows) (i:=0);have Z:a.length<=h.length:=by rw[C,<-jf l Q];exact ls_fold.1
 have hw:e.length<=a.length:=by rw[C,F];exact least_wide
 have hn:=zA (by omega) w.2.1;have hz:decide ((a.length:Int)=0)=!f.rows.any R.gr:=by
  cases y:f.rows.any R.gr with
  |false=>have:(gIx 0 f.rows).length=0:=gr_any.mpr y;have:least f<=(gIx 0 f.rows).length:=ls_fold.1;exact Dac (by omega)
  |true=>
   refine Dab λz=>?_;have:(gIx 0 f.rows).length=0:=by
    rw[<-w.2.1.ul];cases M with
    |nil=>rfl
    |cons u M=>have:=w.2.1.uq u aab;omega
   rw[gr_any.mp this]at y;cases y
 have p:=mS (n:=0) (x 0) w;have g:=mS (n:=0) (j 0) J;have c:=sJ (n:=3) (f:=f) H (by omega) I;have c:pl.pg.call 8 36 [Rl f.rows,Lo f,Re f]=some (It (a.length:Nat),[Rl f.rows,Lo f,Re f]):=by rw[C];exact c
 have s:=wI (n:=3) (f:=f) (by omega);have b:=b 2;have eC:(JQ 8).call=pl.pg.call 8:=rfl;rw[<-eC]at p g c s b;obtain⟨oa,N⟩:=qT (n:=7) (rs:=f.rows) (out:=[]) (o:=none);rw[aa5]at N;have s6:cE (JQ 8) ebe (kE a0 a1 a2 f (Il f.longs) o6)=some (.nx,kE a0 a1 a2 f (Lo f) (JG a.length)):=
  aq (ae (rs:=[.val (Rl f.rows),.rf 4,.val (Re f)]) (ρ3:=kE a0 a1 a2 f (Lo f) o6) rfl (show aU [false,false,false] _ _=_ from eA rfl (eA (bu rfl (aA _) rfl) (eA rfl rfl))) p rfl) rfl rfl rfl
 have T:bj (JQ 8) eat (kE a0 a1 a2 f (Lo f) (JG a.length))=some (false,kE a0 a1 a2 f (Lo f) (JG a.length)):=
  cz (ρ1:=kE a0 a1 a2 f (Lo f) (JG a.length)) rfl (aN (aC (dx:=.int a.length) (dy:=.int a.length) rfl (ae (ρ3:=kE a0 a1 a2 f (Lo f) (JG a.length)) rfl rfl c rfl) rfl rfl (show some (!decide ((a.length:Int)=a.length))=_ by rw[Dac rfl];rfl)))
 have W:bj (JQ 8) eab (kE a0 a1 a2 f (Lo f) (JG a.length))=some (false,kE a0 a1 a2 f (Lo f) (JG a.length)):=by refine cI (k:=true) (t_cmp2 (qM (dx:=.int (need f (f.r0+f.r1) [] (gIx 0 f.rows)).length) (dy:=.int a.length) (dz:=.int h.length) (k:=true) (k':=true) (aV (ds:=[.list ((need f (f.r0+f.r1) [] (gIx 0 f.rows)).map PyData.int)]) (aa (ae (ρ3:=kE a0 a1 a2 f (Lo f) (JG a.length)) rfl rfl s rfl) ah) (iD (aA _)) blen) rfl rfl rfl (C7 (by omega)) (aV (ds:=[.list (h.map Po)]) (aa (aM (ae (ρ3:=kE a0 a1 a2 f (Lo f) (JG a.length)) rfl rfl b rfl) rfl rfl (z:=Pq h) rfl) ah) rfl blen) rfl (C7 (by omega))))
 have t3:bj (JQ 8) eaf (kE a0 a1 a2 f (Lo f) (JG a.length))=some (false,kE a0 a1 a2 f (Lo f) (JG a.length)):=by have S:ev (JQ 8) (.tup IR) (kE a0 a1 a2 f (Lo f) (JG a.length))=some (.val (Re (oI f)),kE a0 a1 a2 f (Lo f) (JG a.length)):=eS (aa (ag (aM rfl rfl rfl (ba bq)) rfl rfl rfl rfl) (aa (ag (aM rfl rfl rfl (ba (b8 (k:=1) rfl))) rfl rfl rfl rfl) ah)) rfl rfl rfl;refine aN (aC (dx:=.int e.length) (dy:=.int a.length) (ae (rs:=[.val (Rl f.rows),.val (Lo f),.val (Re (oI f))]) (ρ3:=kE a0 a1 a2 f (Lo f) (JG a.length)) (aa rfl (aa rfl (aa S ah))) rfl g rfl) rfl rfl rfl ?_);show some (decide ((a.length:Int)<(e.length:Int)))=_;rw[Dab (by omega)]
 have U:bj (JQ 8) eal (kE a0 a1 a2 f (Lo f) (JG a.length))=some (false,kE a0 a1 a2 f (Lo f) (JG a.length)):=by
  have e1:ev (JQ 8) ec6 (kE a0 a1 a2 f (Lo f) (JG a.length))=some (.val (.fz (.bool (!f.rows.any R.gr))),kE a0 a1 a2 f (Lo f) (JG a.length)):=by rw[<-hz];exact aC (dx:=.int a.length) (dy:=.int 0) rfl rfl rfl rfl rfl
  have e2:ev (JQ 8) eay (kE a0 a1 a2 f (Lo f) (JG a.length))=some (.val (.fz (.bool (f.rows.any R.gr))),kE a0 a1 a2 f (Lo f) (JG a.length)):=
   aV (ds:=[.list (f.rows.map λr:R=>PyData.bool r.gr)]) (aa (b7 (ρ2:=kE a0 a1 a2 f (Lo f) (JG a.length)) (bo (d:=.list (f.rows.map R.d)) rfl rfl rfl) (by rw[aaa];omega) rfl N (by rw[bL])) ah) (iD (bO (f.rows.map λr:R=>PyData.bool r.gr))) Dn
  refine aN (aC e1 e2 rfl rfl ?_);cases f.rows.any R.gr<;>rfl
 exact⟨_,ab s6 (ab (aI T rfl) (ab (aI W rfl) (ab (aI t3 rfl) (ab (aI U rfl) rfl))))⟩
theorem Dq{ns:List Int}{i:Nat}{o2 o3 o4 o5 o6:Option OD}(F:i<=8):∃M B x D p,aG (JQ 8) wK [some (.fz (.list (ns.map PyData.int))),JG i,o2,o3,o4,o5,o6]=some (.nx,[some (.fz (.list (ns.map PyData.int))),JG i,M,B,x,D,p]):=by
 obtain⟨c,g⟩:∃c:OD,c=.fz (.list (ns.map PyData.int)):=⟨_,rfl⟩
 rw[<-g];obtain⟨a,b,m,t⟩:=CU (n:=6) (ns:=ns) F;obtain⟨rs,a1,d,e,u,I,v,y⟩:=FY (n:=5) (a:=a) t (aaH _);obtain⟨l,a2,z,A,s,C⟩:=yY (n:=6) (a:=a1) (rs:=rs) (by omega) y (by omega);obtain⟨w,o,k,h,j,r,O,N⟩:=vS (n:=6) (a:=a2) C (by omega);obtain⟨p,S⟩:=Dp (a0:=some c) (a1:=JG i) (a2:=JH k h j) (f:=⟨rs,l,w,o⟩) (o6:=o6) I v.1 v.2 O N;have P:(JQ 8).call=pl.pg.call 8:=rfl;rw[<-P]at m u s r;have Q:cE (JQ 8) ebp [some c,JG i,o2,o3,o4,o5,o6]=some (.nx,[some c,JG i,JH a b 0,o3,o4,o5,o6]):=by rw[g];exact aq (ae (ρ3:=[some (.fz (.list (ns.map PyData.int))),JG i,o2,o3,o4,o5,o6]) rfl rfl m rfl) rfl rfl rfl
 have L:cE (JQ 8) ech [some c,JG i,JH a b 0,o3,o4,o5,o6]=some (.nx,[some c,JG i,JH a1 d e,some (Rs rs),o4,o5,o6]):=
  aq (ae (ρ3:=[some c,JG i,JH a1 d e,o3,o4,o5,o6]) rfl rfl u rfl) rfl rfl rfl
 have J:cE (JQ 8) eas [some c,JG i,JH a1 d e,some (Rs rs),o4,o5,o6]=some (.nx,kE (some c) (JG i) (JH k h j) ⟨rs,l,w,o⟩ (Il l) o6):=by refine n9 (aa (ae (rs:=[.rf 2,.rf 3]) (ρ2:=[some c,JG i,none,JJ rs,o4,o5,o6]) (ρ3:=[some c,JG i,JH a2 z A,JJ rs,o4,o5,o6]) rfl ?_ s rfl) (aa (ae (ρ3:=[some c,JG i,JH k h j,JJ rs,o4,o5,o6]) rfl rfl r rfl) ah)) rfl rfl rfl;have q:aU [false] [some c,JG i,none,some (Rs rs),o4,o5,o6] [.rf 3]=some ([Rl rs],[some c,JG i,none,JJ rs,o4,o5,o6]):=eA (bu rfl (Do _) rfl) rfl;have H:mv1 [some c,JG i,JH a1 d e,some (Rs rs),o4,o5,o6] (.rf 2)=some (Tp a1 d e,[some c,JG i,none,some (Rs rs),o4,o5,o6]):=rfl;show aU [true,false] _ [.rf 2,.rf 3]=_;simp only[aU,H]at q ⊢;simp only[q]
 exact⟨_,_,_,_,_,ab Q (ab L (ab J S))⟩
theorem pure(ns:List Int)(u:ns.length<=63):∃ys,pl.pg.call 9 FS [.fz (.list (ns.map PyData.int))]=some (.fz (.bool true),ys):=by
 have f:∀(m i:Nat) (j o2 o3 o4 o5 o6:Option OD),i+m<=9->∃a,bc (λd a=>(aX (.nm 1) (.fz d) a).bind λl=>aG (JQ 8) wK l) (bX i m) [some (.fz (.list (ns.map PyData.int))),j,o2,o3,o4,o5,o6]=some (.nx,a)/\a[0]?.join=some (.fz (.list (ns.map PyData.int))):=by
  intro m;induction m with
  |zero=>intro i j o2 o3 o4 o5 o6 _;exact⟨_,rfl,rfl⟩
  |succ m y=>intro i j o2 o3 o4 o5 o6 h;obtain⟨s,p,o,q,r,w⟩:=Dq (ns:=ns) (i:=i) (o2:=o2) (o3:=o3) (o4:=o4) (o5:=o5) (o6:=o6) (by omega);obtain⟨k,v,t⟩:=y (i+1) (JG i) s p o q r (by omega);refine⟨k,?_,t⟩;rw[a8];exact bs (x:=(Fl.nx,([some (OD.fz (PyData.list (ns.map PyData.int))),JG i,s,p,o,q,r]:DEnv))) (bs (x:=([some (OD.fz (PyData.list (ns.map PyData.int))),JG i,o2,o3,o4,o5,o6]:DEnv)) rfl w) v
 obtain⟨b,c⟩:∃b:Int,b=if (ns.length:Int)<1 then (ns.length:Int) else 1:=⟨_,rfl⟩
 have z:0<=b/\b<=1:=by rw[c];split<;>omega
 obtain⟨a,e,_⟩:=f (1+b).toNat 0 none none none none none none (by omega);have g:ev (JQ 8) ebc [some (.fz (.list (ns.map PyData.int))),none,none,none,none,none,none]=some (.val (It b),[some (.fz (.list (ns.map PyData.int))),none,none,none,none,none,none]):=aV (aa rfl (aa (aV rfl rfl blen) ah)) rfl (by rw[c];rfl);exact⟨_,af (fn:=F_law) rfl rfl (ab (bF (c7 (n:=1+b) (ag rfl g rfl rfl rfl) rfl (by omega)) e) (az rfl)) rfl⟩
set_option maxHeartbeats 0
def lm:Str:="law_nearpool_k23_the_fewest_pools"
open PySem.W in
def vi(n:Int):Value:=.int n 0
def vr(a:Addr):Value:=.ref a
def vs(x:Str)(t:Nat):Value:=.str x t
def nt(P:Params)(k:Str)(t:Nat)(v:Value):DictEntry:=⟨PyData.keyHash P k,.str k t,v⟩
def fo(d:Df)(m:Str)(t c:Nat):Obj:=⟨.type "function",none,.func (PySem.W.fnOf d.name d.qual (eE d.st) (b9 d.st) (aK d.st) .none .none .none (.str m t) none (.ref c) .none),List.toArray []⟩
def cq(vs:List Value):Obj:=⟨.type "code",none,.fields (List.toArray vs),List.toArray []⟩
def cu(n q:Str)(t l a r T:Nat):Obj:=cq [vs n t,vs q (t+1),vs Jz (t+2),vi l,vi a,vi 0,vi 0,vi 3,vr r,.bool true,vi 181,vr (r+1),.none,vr (r+2),vr (r+3),vr (r+4),vi T,vi l,vs Jz (T+1)]
def cw(n q:Str)(t l a r T:Nat):Obj:=cq [vs n t,vs q (t+1),vs Jz (t+2),vi l,vi a,vi 0,vi 0,vi 3,vr r,.bool true,vi 181,vr (r+1),.none,.none,.none,vr (r+2),vi T,vi l,vs Jz (T+1)]
noncomputable def KK(P:Params):Waa:=[(3,⟨(.type "dict"),none,(.dict (List.toArray [nt P "__name__" 165 (vs lm 451),nt P "__doc__" 166 .none,nt P "__package__" 167 .none,nt P "__loader__" 168 (.builtin "__main__.__loader__#opaque"),nt P "__spec__" 169 .none,nt P "__annotations__" 170 (vr 6),nt P "__builtins__" 171 (vr 4),nt P "__file__" 173 (vs Jz 172),nt P "__cached__" 174 .none,nt P "GREATEST_SMALL" 190 (.int (99) 189),nt P np 197 (vr 21),nt P oD 203 (vr 26),nt P pc 210 (vr 33),nt P "OVER_CELLS" 214 (.int (2) 213),nt P "WORD_CELLS" 216 (.int (2) 215),nt P pi 225 (vr 40),nt P pp 233 (vr 47),nt P pr 242 (vr 54),nt P rc 248 (vr 59),nt P sn 259 (vr 66),nt P sw 275 (vr 73),nt P ac 377 (vr 137),nt P ut 388 (vr 148),nt P wp 396 (vr 153),nt P wv 402 (vr 158),nt P ww 415 (vr 165),nt P wE 424 (vr 172),nt P wP 436 (vr 179),nt P wS 450 (vr 186),nt P wT 460 (vr 193),nt P xz 469 (vr 200),nt P xL 479 (vr 207),nt P At 488 (vr 214),nt P "_law_rows" 505 (vr 221),nt P AT 511 (vr 226),nt P BT 518 (vr 233),nt P Ch 527 (vr 240),nt P Db 542 (vr 247),nt P Ev 548 (vr 252),nt P EQ 555 (vr 259),nt P Fa 561 (vr 264),nt P Go 567 (vr 269),nt P IN 573 (vr 274),nt P lc 579 (vr 279)]) 44),List.toArray []⟩),
 (20,cu np np 191 3 1 15 195),
 (21,fo iT na 187 20),
 (25,cw oD oD 198 5 1 22 201),
 (26,fo gI na 187 25),
 (32,cu pc pc 204 7 1 27 208),
 (33,fo qb na 187 32),
 (39,cu pi pi 217 12 3 34 223),
 (40,fo jO cr 211 39),
 (46,cu pp pp 226 14 2 41 231),
 (47,fo iU cr 211 46),
 (53,cu pr pr 234 16 3 48 240),
 (54,fo fK cr 211 53),
 (58,cw rc rc 243 20 3 55 246),
 (59,fo mC cr 211 58),
 (65,cu sn sn 249 33 3 60 257),
 (66,fo jP cr 211 65),
 (72,cu sw sw 260 36 5 67 273),
 (73,fo fL cr 211 72),
 (86,cu JA "Going.__init__" 290 45 4 81 297),
 (87,fo cU bn 276 86),
 (93,cu "is_due" "Going.is_due" 300 56 2 88 308),
 (94,fo dU bn 276 93),
 (100,cu "lay" "Going.lay" 311 65 2 95 319),
 (101,fo gJ bn 276 100),
 (107,cu "finds" "Going.finds" 322 77 2 102 327),
 (108,fo eU bn 276 107),
 (114,cu "may_put" "Going.may_put" 330 82 2 109 335),
 (115,fo dD bn 276 114),
 (121,cu "come" "Going.come" 338 87 2 116 344),
 (122,fo fM bn 276 121),
 (128,cu "cross" "Going.cross" 347 97 2 123 352),
 (129,fo eV bn 276 128),
 (133,cw "plan" "Going.plan" 355 105 1 130 358),
 (134,fo fN bn 276 133),
 (136,⟨(.type "dict"),none,(.dict (List.toArray [nt P "__module__" 285 (vs bn 276),nt P "__firstlineno__" 289 (.int (43) 288),nt P JA 299 (vr 87),nt P "is_due" 310 (vr 94),nt P "lay" 321 (vr 101),nt P "finds" 329 (vr 108),nt P "may_put" 337 (vr 115),nt P "come" 346 (vr 122),nt P "cross" 354 (vr 129),nt P "plan" 360 (vr 134),nt P "__static_attributes__" 370 (vr 135),nt P "__dict__" 372 (vr 138),nt P "__weakref__" 374 (vr 139),nt P "__doc__" 375 .none]) 4),List.toArray []⟩),
 (137,⟨(.type "type"),none,(.cls ⟨ac,[(.type "object")],[(vr 137),(.type "object")],136,ac,true,[],[],false,none,false⟩),List.toArray [none,none,(some (vs ac 278)),(some (vs ac 286)),(some (.builtin "object.__new__")),(some (.bool true))]⟩),
 (147,cu ut ut 378 108 3 142 386),
 (148,fo gK bn 276 147),
 (152,cw wp wp 391 114 1 149 394),
 (153,fo fO lf 389 152),
 (157,cw wv wv 397 119 2 154 400),
 (158,fo jQ lf 389 157),
 (164,cu ww ww 403 126 3 159 413),
 (165,fo eW lf 389 164),
 (171,cu wE wE 416 134 3 166 422),
 (172,fo dW lf 389 171),
 (178,cu wP wP 427 137 4 173 434),
 (179,fo gL JC 425 178),
 (185,cu wS wS 437 139 3 180 448),
 (186,fo eX JC 425 185),
 (192,cu wT wT 453 147 2 187 458),
 (193,fo jR lm 451 192),
 (199,cu xz xz 461 149 2 194 467),
 (200,fo vL lm 451 199),
 (206,cu xL xL 470 152 2 201 477),
 (207,fo vM lm 451 206),
 (213,cu At At 480 161 1 208 486),
 (214,fo qc lm 451 213),
 (225,cw AT AT 506 181 2 222 509),
 (226,fo qe lm 451 225),
 (232,cu BT BT 512 185 1 227 516),
 (233,fo fP lm 451 232),
 (239,cu Ch Ch 519 187 3 234 525),
 (240,fo vN lm 451 239),
 (246,cu Db Db 528 189 3 241 540),
 (247,fo iV lm 451 246),
 (251,cw Ev Ev 543 202 1 248 546),
 (252,fo Aa lm 451 251),
 (258,cu EQ EQ 549 214 1 253 553),
 (259,fo gM lm 451 258),
 (263,cw Fa Fa 556 216 2 260 559),
 (264,fo Ab lm 451 263),
 (268,cw Go Go 562 224 5 265 565),
 (269,fo fQ lm 451 268),
 (273,cw IN IN 568 238 3 270 571),
 (274,fo mD lm 451 273),
 (278,cw lc lc 574 245 1 275 577),
 (279,fo D_law lm 451 278)]
def qv:Program:=PySem.W.view PySem.Challenge.pw_nearpool_k23_the_fewest_pools [1,2,3,4,6,7,8,9,10,11,12,13,15,16,18,19,20,21,23,24,26,27,28,29,30,31,32,33,34,35,36,37,38,39,40]
open PySem.W PyProof.Rows in
def zC{p q:Program}{loose:List Str}{Xt:Shared->Bool}{b:Type}{Yf:Shared->b}{Ya:World->b}{N:Nat}{c:Bool}(e:opening p=plainProg p.main.scope.names)(l:Nat.ble 600 N=true)(f:∀s,fenceModules? p s=some s)
  (h:∀(w:World) (a:OsState),(topFrom treeTable p w N ⟨boot_heap w.params,Array.mk [],boot_drawn,boot_toks,a⟩).map (λs=>(openSeen q loose (importedModules p.main.body) Xt c s,Yf s))=some (openGood q loose,Ya w)):LeftO p q loose Xt Yf Ya N c:=λw=>by
 obtain⟨⟨m,j,d,k,a⟩,i,g⟩:=aaN.mp (boot_open e l f w);obtain⟨rfl,rfl,rfl,rfl⟩:m=boot_heap w.params/\j=Array.mk []/\d=boot_drawn/\k=boot_toks:=by simpa using g
 unfold openEnds;rw[i];exact h w a
def hk:PySem.W.Hook:=PySem.W.kHook KK [3,20,21,25,26,32,33,39,40,46,47,53,54,58,59,65,66,72,73,86,87,93,94,100,101,107,108,114,115,121,122,128,129,133,134,136,137,147,148,152,153,157,158,164,165,171,172,178,179,185,186,192,193,199,200,206,207,213,214,225,226,232,233,239,240,246,247,251,252,258,259,263,264,268,269,273,274,278,279] (λ_=>by kernel_rfl)
abbrev xt(s:Shared):Bool:=PySem.W.xlAt qv [] s&&PySem.W.recOk (PySem.W.RowW.records (PySem.Challenge.rw_nearpool_k23_the_fewest_pools).row.toRowW) s
def left:PySem.W.LeftO PySem.Challenge.pw_nearpool_k23_the_fewest_pools qv [] xt (PySem.W.Hook.obs hk) (PySem.W.Hook.val hk) 3080:=zC (by kernel_rfl) (by rfl) (λs=>by kernel_rfl) (λw a=>by kernel_rfl)
def dd:DefRec:=⟨lc,eE D_law.st,b9 D_law.st,aK D_law.st,match D_law.st with|.FunctionDef _ _ _ _ _ _ _ _ _ p=>p|_=>⟨0,0,0,0⟩⟩
def said:(PySem.Challenge.rw_nearpool_k23_the_fewest_pools).wellSaid=true:=by kernel_rfl
def wL(K:Waa):L2.Sp:=λd H Q _=>∃(a:Addr) (b:List Int),d=[.ref a]/\SqL K H a (b.map V.int)/\b.length<=63/\∀c,Q (.bl true) c
def Gz:Option (Option Value)->Bool
 |some none=>true
 |_=>false
def Dy(f:Nat):Option (Option Value)->Bool
 |some (some (.ref g))=>g==f
 |_=>false
def Ih:Option (Option Value)->Bool
 |some (some (.builtin s))=>decide (s="object.__setattr__")
 |_=>false
def wM{o:Option (Option Value)}(h:Gz o=true):o=some none:=by
 unfold Gz at h;split at h
 ·rfl
 ·cases h
def lj{f:Nat}{o:Option (Option Value)}(h:Dy f o=true):o=some (some (.ref f)):=by
 unfold Dy at h;split at h
 ·rw[beq_iff_eq.mp h]
 ·cases h
def Dr{o:Option (Option Value)}(h:Ih o=true):o=some (some (.builtin "object.__setattr__")):=by
 unfold Ih at h;split at h
 ·rw[Daa h]
 ·cases h
open PySem.W in
def Ii(K:Frag)(C:Addr):Bool:=plainGet K C Str.empty&&(hasDictIn K C&&(plainOver K C&&Ih (findIn K (.ref C) "__setattr__")))
def wN{K:Waa}{C:Addr}(h:Ii K C=true):Cls K C:=by obtain⟨c,h⟩:=an2 h;obtain⟨a,h⟩:=an2 h;obtain⟨b,h⟩:=an2 h;exact⟨c,a,b,Dr h⟩
open PySem.W in
def Jw(K:Frag)(d:Df)(f c:Nat):Kd->Bool
 |.fn=>codeIn K (.ref c) d.qual&&(keepIn K (.ref f)&&Dy f (nsIn K mainGlobals d.name))
 |.me x=>codeIn K (.ref c) d.qual&&(keepIn K (.ref f)&&(Ii K (au K x)&&(Dy f (findIn K (.ref (au K x)) d.name)&&isFn K (.ref f))))
 |.ini x=>codeIn K (.ref c) d.qual&&(keepIn K (.ref f)&&(makesIn K (au K x)&&(Dy f (findIn K (.ref (au K x)) JA)&&(isFn K (.ref f)&&(keepIn K (.ref (au K x))&&Dy (au K x) (nsIn K mainGlobals x))))))
def fk{K:Waa}{h:Heap}{n:Str->Option Value}(X:K.In h)(G:h.Ns mainGlobals n){d:Df}{i:Kd}(m:Str)(t c f:Nat)(l:K.lookup f=some (fo d m t c))(q:Jw K d f c i=true)
  (b:∀us:List Value,us.length=d.ps.length->bindArgs (PySem.W.fnOf d.name d.qual (eE d.st) (b9 d.st) (aK d.st) .none .none .none (.str m t) none (.ref c) .none) ⟨us,[]⟩=Pure.pure (d.ps.zip us)):z5 K n (d,i):=by
 cases i with
 |fn=>obtain⟨g,q⟩:=an2 q;obtain⟨a,e⟩:=an2 q;exact⟨f,_,j3 l g a,.all b,acd X G (lj e),a⟩
 |me x=>obtain⟨g,q⟩:=an2 q;obtain⟨a,q⟩:=an2 q;obtain⟨e,q⟩:=an2 q;obtain⟨j,k⟩:=an2 q;exact⟨f,_,j3 l g a,.all b,wN e,lj j,k,a⟩
 |ini x=>obtain⟨g,q⟩:=an2 q;obtain⟨a,q⟩:=an2 q;obtain⟨e,q⟩:=an2 q;obtain⟨j,q⟩:=an2 q;obtain⟨k,q⟩:=an2 q;obtain⟨o,p⟩:=an2 q;exact⟨f,_,j3 l g a,.all b,⟨e,lj j,k,o⟩,acd X G (lj p)⟩
def fm{a:Type}{P:a->Prop}{x:a}{l:List a}(h:P x)(k:∀y∈l,P y):∀y∈x::l,P y:=List.forall_mem_cons.mpr ⟨h,k⟩
def fC{K:Waa}{h:Heap}{a:Str->Option Value}(X:K.In h)(G:h.Ns mainGlobals a){x:Str}{k:Int}(t:Nat)(e:PySem.W.nsIn K mainGlobals x=some (some (.int k t))):∃v u,a x=some u/\RelV v u/\∀S H,Fz K S H v (.int k):=⟨.int k,_,acd X G e,⟨_,rfl⟩,λ_ _=>.int _⟩
def b1{a:Type}{P:List a->Prop}(h:∀a0,P [a0])(l:List a)(e:l.length=1):P l:=by
 match l,e with
 |[a0],_=>exact h a0
def b2{a:Type}{P:List a->Prop}(h:∀a0 a1,P [a0,a1])(l:List a)(e:l.length=2):P l:=by
 match l,e with
 |[a0,a1],_=>exact h a0 a1
def b3{a:Type}{P:List a->Prop}(h:∀a0 a1 a2,P [a0,a1,a2])(l:List a)(e:l.length=3):P l:=by
 match l,e with
 |[a0,a1,a2],_=>exact h a0 a1 a2
def b4{b:Type}{P:List b->Prop}(h:∀a0 a1 a2 a,P [a0,a1,a2,a])(l:List b)(e:l.length=4):P l:=by
 match l,e with
 |[a0,a1,a2,a],_=>exact h a0 a1 a2 a
def b5{c:Type}{P:List c->Prop}(h:∀a0 a1 a2 b a,P [a0,a1,a2,b,a])(l:List c)(e:l.length=5):P l:=by
 match l,e with
 |[a0,a1,a2,b,a],_=>exact h a0 a1 a2 b a
theorem gives{w:World}{b:Str->Option Value}{f:Addr}{h:Heap} (X:(KK w.params).In h) (G:h.Ns mainGlobals b) (c:b lc=some (.ref f)):
  ∃g:FuncData,(∀(s:Shared) (v:Value),BindsTo s g ⟨[v],[]⟩ [(em,v)])/\∀a:Heap,(KK w.params).In a->a.Ns mainGlobals b->FnOk (PySem.Challenge.rw_nearpool_k23_the_fewest_pools).prog w (KK w.params) b a CX0 10 f g [em] (wL (KK w.params)):=by
 have M:Md (KK w.params) b pl.tb pl.pg pl.D:=Pl.md FT (fm (fk X G na 187 20 21 (by kernel_rfl) (by kernel_rfl) (b1 λ_=>rfl))
  (fm (fk X G na 187 25 26 (by kernel_rfl) (by kernel_rfl) (b1 λ_=>rfl))
  (fm (fk X G na 187 32 33 (by kernel_rfl) (by kernel_rfl) (b1 λ_=>rfl))
  (fm (fk X G cr 211 39 40 (by kernel_rfl) (by kernel_rfl) (b3 λ_ _ _=>rfl))
  (fm (fk X G cr 211 46 47 (by kernel_rfl) (by kernel_rfl) (b2 λ_ _=>rfl))
  (fm (fk X G cr 211 53 54 (by kernel_rfl) (by kernel_rfl) (b3 λ_ _ _=>rfl))
  (fm (fk X G cr 211 58 59 (by kernel_rfl) (by kernel_rfl) (b3 λ_ _ _=>rfl))
  (fm (fk X G cr 211 65 66 (by kernel_rfl) (by kernel_rfl) (b3 λ_ _ _=>rfl))
  (fm (fk X G cr 211 72 73 (by kernel_rfl) (by kernel_rfl) (b5 λ_ _ _ _ _=>rfl))
  (fm (fk X G bn 276 86 87 (by kernel_rfl) (by kernel_rfl) (b4 λ_ _ _ _=>rfl))
  (fm (fk X G bn 276 93 94 (by kernel_rfl) (by kernel_rfl) (b2 λ_ _=>rfl))
  (fm (fk X G bn 276 100 101 (by kernel_rfl) (by kernel_rfl) (b2 λ_ _=>rfl))
  (fm (fk X G bn 276 107 108 (by kernel_rfl) (by kernel_rfl) (b2 λ_ _=>rfl))
  (fm (fk X G bn 276 114 115 (by kernel_rfl) (by kernel_rfl) (b2 λ_ _=>rfl))
  (fm (fk X G bn 276 121 122 (by kernel_rfl) (by kernel_rfl) (b2 λ_ _=>rfl))
  (fm (fk X G bn 276 128 129 (by kernel_rfl) (by kernel_rfl) (b2 λ_ _=>rfl))
  (fm (fk X G bn 276 133 134 (by kernel_rfl) (by kernel_rfl) (b1 λ_=>rfl))
  (fm (fk X G bn 276 147 148 (by kernel_rfl) (by kernel_rfl) (b3 λ_ _ _=>rfl))
  (fm (fk X G lf 389 152 153 (by kernel_rfl) (by kernel_rfl) (b1 λ_=>rfl))
  (fm (fk X G lf 389 157 158 (by kernel_rfl) (by kernel_rfl) (b2 λ_ _=>rfl))
  (fm (fk X G lf 389 164 165 (by kernel_rfl) (by kernel_rfl) (b3 λ_ _ _=>rfl))
  (fm (fk X G lf 389 171 172 (by kernel_rfl) (by kernel_rfl) (b3 λ_ _ _=>rfl))
  (fm (fk X G JC 425 178 179 (by kernel_rfl) (by kernel_rfl) (b4 λ_ _ _ _=>rfl))
  (fm (fk X G JC 425 185 186 (by kernel_rfl) (by kernel_rfl) (b3 λ_ _ _=>rfl))
  (fm (fk X G lm 451 192 193 (by kernel_rfl) (by kernel_rfl) (b2 λ_ _=>rfl))
  (fm (fk X G lm 451 199 200 (by kernel_rfl) (by kernel_rfl) (b2 λ_ _=>rfl))
  (fm (fk X G lm 451 206 207 (by kernel_rfl) (by kernel_rfl) (b2 λ_ _=>rfl))
  (fm (fk X G lm 451 213 214 (by kernel_rfl) (by kernel_rfl) (b1 λ_=>rfl))
  (fm (fk X G lm 451 225 226 (by kernel_rfl) (by kernel_rfl) (b2 λ_ _=>rfl))
  (fm (fk X G lm 451 232 233 (by kernel_rfl) (by kernel_rfl) (b1 λ_=>rfl))
  (fm (fk X G lm 451 239 240 (by kernel_rfl) (by kernel_rfl) (b3 λ_ _ _=>rfl))
  (fm (fk X G lm 451 246 247 (by kernel_rfl) (by kernel_rfl) (b3 λ_ _ _=>rfl))
  (fm (fk X G lm 451 251 252 (by kernel_rfl) (by kernel_rfl) (b1 λ_=>rfl))
  (fm (fk X G lm 451 258 259 (by kernel_rfl) (by kernel_rfl) (b1 λ_=>rfl))
  (fm (fk X G lm 451 263 264 (by kernel_rfl) (by kernel_rfl) (b2 λ_ _=>rfl))
  (fm (fk X G lm 451 268 269 (by kernel_rfl) (by kernel_rfl) (b5 λ_ _ _ _ _=>rfl))
  (fm (fk X G lm 451 273 274 (by kernel_rfl) (by kernel_rfl) (b3 λ_ _ _=>rfl))
  (fm (fk X G lm 451 278 279 (by kernel_rfl) (by kernel_rfl) (b1 λ_=>rfl))
  (λ_ h=>by cases h))))))))))))))))))))))))))))))))))))))) (fm (fC X G 189 (by kernel_rfl))
  (fm (fC X G 213 (by kernel_rfl))
  (fm (fC X G 215 (by kernel_rfl))
  (λ_ h=>by cases h))))
  (λx k=>PySem.W.mg_none_of X G (wM (abm.mp (by kernel_rfl:(pl.nog.all λx=>Gz (PySem.W.nsIn (KK w.params) mainGlobals x))=true) x k)))
  (λz i=>have q:=an2 (abm.mp (by kernel_rfl:(pl.fld.all λz=>Ii (KK w.params) (au (KK w.params) z.1)&&Gz (PySem.W.findIn (KK w.params) (.ref (au (KK w.params) z.1)) z.2))=true) z i);⟨wN q.1,wM q.2⟩)
 have e:=c.symm.trans (acd X G (by kernel_rfl:PySem.W.nsIn (KK w.params) mainGlobals lc=some (some (.ref 279))));cases e;have F:Fun (KK w.params) D_law.name D_law.qual D_law.st 279 _:=j3 (by kernel_rfl:(KK w.params).lookup 279=some (fo D_law lm 451 278)) (by kernel_rfl) (by kernel_rfl);exact⟨_,λs v=>.of_eq rfl,λa _ _=>M.law (n:=9) (j:=FS) (d:=D_law) rfl F pure⟩
def walk{l:PySem.W.OpenLaw}{q:Program}{loose:List Str}{XP:(Str->Option Value)->Heap->Prop}{YP:World->Heap->Prop}{d:DefRec}{K:Params->Waa}(j:l.most=some 63)(e:d.params.defaults=[])
  (r:∀(w:World) (h:Heap),YP w h->(K w.params).In h)
  (F:∀(w:World) (c:Str->Option Value) (g:Addr) (h:Heap),(K w.params).In h->h.Ns mainGlobals c->c d.name=some (.ref g) ->
   ∃i:FuncData,(∀(s:Shared) (u:Value),BindsTo s i ⟨[u],[]⟩ [(em,u)])/\∀b:Heap,(K w.params).In b->b.Ns mainGlobals c->FnOk l.prog w (K w.params) c b CX0 10 g i [em] (wL (K w.params))):
  PySem.W.WalkO q loose XP YP l.row.toRowW d [] (λf vs=>PySem.call f vs):=
 L2.walk_of (n:=63) (k:=10) (x:=em) (CX:=λ_=>CX0) (sp:=λw=>wL (K w.params)) j (by decide) e ⟨rfl,by decide,by decide,rfl⟩ r F (λ_ _ a m o _ p=>⟨a,m,rfl,p,o,λ_=>rfl⟩) λ_ _ _ _ _ z=>z
end Np
open PySem PySem.W PyProof.Rows
set_option maxRecDepth 100000 in
set_option maxHeartbeats 0 in
theorem PySem.Challenge.cw_nearpool_k23_the_fewest_pools_holds : PySem.Challenge.rw_nearpool_k23_the_fewest_pools.Holds := by
 w_on
 refine holds_law Np.said λa=>?_;refine holds_open (q:=Np.qv) (loose:=[]) (Xt:=Np.xt) (XP:=XL Np.qv []) (Yf:=Hook.obs Np.hk) (Ya:=Hook.val Np.hk) (YP:=Hook.says Np.hk) (N:=3080) (d:=Np.dd) (kwd:=[]) Np.left (Hook.of Np.hk) (Hook.keeps Np.hk) (λs e=>xl_of s (ab1.mp e).1) XL.keeps (by kernel_rfl) (by kernel_rfl) (by kernel_rfl) (λs e=>recFacts_of (ab1.mp e).2) (by rfl) a (by kernel_rfl) ⟨rfl,rfl,rfl,rfl,rfl,by decide +kernel⟩ ?hw ?hc
 case hw=>w_witness2
 case hc=>exact Np.walk (l:=PySem.Challenge.rw_nearpool_k23_the_fewest_pools) (K:=Np.KK) (d:=Np.dd) rfl (by kernel_rfl) (λw h Y=>kIn_of Y) (λw g f h c G b=>Np.gives c G b)
