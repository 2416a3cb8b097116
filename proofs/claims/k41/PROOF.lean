import PyProof.Rows.All
import Wide.All
import OpenK.AllK
import Wide.FinOn
import Lean
import PyProof.EqAt
import PyProof.EqKinds
import PyProof.TupleCall
import PyProof.Draws
import PyProof.ZipIter
import PyProof.SeqI3
import PyProof.CallStr
import PyProof.StrHeap
import PyProof.ReprBulk
import PyProof.Rows.ListRangeD
import PyProof.EnumFor
import PyProof.EnumStmt
import PyProof.EnumMake
import PyProof.AutoListH
import PyProof.RangeFor
import PyProof.Rows.Range3
import KE.KUnpack
import PyProof.ReprRoads
import PyProof.ReprLen
import PyProof.FitsInt
import PyProof.DictCompW
import KE.KDictSum
import PyProof.NeKinds
import PyProof.SumWalk
import PyProof.SliceStr2
import PyProof.StrCalls2
import PyProof.Rows.StrNews
import PyProof.Rows.StrJoin2
import PyProof.StrWalks
import KE.KUnpackStar
import KE.KIntText
import PyProof.StrLawsTight
import PyProof.Rows.StrItems
import PyProof.Rows.StrClose3
import PyProof.SetRoads
import PyProof.Rows.FStr
import KE.KxText
import PySem.Challenge.RW_nearpool_k41_texts_written
set_option compiler.extract_closed false
set_option genSizeOf false
set_option Elab.async false
set_option linter.all false
set_option maxRecDepth 100000
noncomputable section
def Daa:=@of_decide_eq_true
def Dab:=@decide_eq_false
def Dac:=@decide_eq_true
abbrev Waa:=PySem.W.Frag
def acl:=@PySem.wpAny_bind
def acm:=@PySem.wpAny_pure
def acn:=@PySem.Heap.lt_size
def aco:=@PySem.Heap.get?_push_of_some
def acp:=@PySem.Heap.get?_push_size
def acq:=@PySem.wpAny_field
def acr:=@PySem.wpAny_mono
def acs:=@PySem.wpAny_holding
def acu:=@PySem.wpAny_standAt
def acv:=@PySem.wpAny_truthy_bool
def acw:=@PySem.wpAny_newObj_type
def acx:=@PySem.Heap.size_push
def acy:=@PySem.wpAny_seqItems
def acz:=@PySem.wpAny_pyIter_list
def acA:=@PyProof.Rows.assignInOrder_cons
def acB:=@PySem.wpAny_rule
def acC:=@PySem.sizeLine_eq
def acD:=@PySem.wpAny_setField_rec
def acE:=@PySem.wpAny_loadPart'
def acF:=@PySem.wpAny_bindName
def acG:=@PySem.wpAny_passesOwn
def acH:=@PySem.codeAny_mono
def acI:=@PySem.wpAny_callSpecial?_slot
def acJ:=@PySem.wpAny_call_entry
def acK:=@PySem.typeIs_str
def acL:=@PySem.Paired.length
def acM:=@PySem.wpAny_Call_Name_kw
def acN:=@PySem.F.slot_tuple_iterator_next
def acO:=@PySem.wpAny_onRaise
def acP:=@PySem.F.slot_zip_next
def acQ:=@PySem.tupleKind_room_in1
def acR:=@PySem.noFill_tuple_add
def acS:=@PySem.wpAny_updateSeq_pair
def acT:=@PySem.F.called_enumerate
def acU:=@PySem.Calls.Name_function_global
def acV:=@PySem.F.entry_tuple_iterator_next
def acW:=@PySem.F.args_tuple_iterator_next_1
def aaa:=@List.length_map
def aab:=@List.mem_cons
def aac:=@List.append_assoc
def aad:=@List.mem_append_left
def aae:=@List.mem_append_right
def aaf:=@List.mem_cons_of_mem
def aag:=@Nat.le_refl
def aah:=@List.mem_cons_self
def aai:=@List.mem_append
def aaj:=@List.map_cons
def aak:=@Bool.false_ne_true
def aal:=@List.mem_map
def aam:=@Nat.ne_of_lt
def aan:=@List.length_cons
def aao:=@List.getElem?_eq_some_iff
def aap:=@List.size_toArray
def aaq:=@List.append_nil
def aar:=@List.perm_middle
def aas:=@Nat.le_trans
def aat:=@Bool.and_eq_true
def aau:=@List.length_append
def aav:=@List.not_mem_nil
def aaw:=@List.mem_singleton
def aax:=@Nat.lt_of_lt_of_le
def aay:=@List.nodup_cons
def aaz:=@List.getElem?_map
def aaA:=@List.nodup_append
def aaB:=@List.getElem?_eq_getElem
def aaC:=@List.map_append
def aaD:=@Option.some.inj
def aaE:=@List.set_cons_succ
def aaF:=@Option.bind_eq_some_iff
def aaG:=@List.cons_append
def aaH:=@Option.map_eq_some_iff
def aaI:=@List.map_map
def aaJ:=@Ne.symm
def aaK:=@Nat.zero_le
def aaL:=@List.map_nil
def aaM:=@List.lookup_cons
def aaN:=@List.getElem?_set_self
def aaO:=@List.getElem?_set_ne
def aaP:=@List.any_cons
def aaQ:=@List.length_singleton
def aaR:=@List.find?_cons
def aaS:=@List.perm_append_comm
def aaT:=@List.nil_append
def aaU:=@Nat.lt_irrefl
def aaV:=@List.length_take
def aaW:=@PySem.mem_of_lookup
def aaX:=@List.nodup_nil
def aaY:=@List.Perm.append_left
def aaZ:=@Nat.ne_of_gt
def aa0:=@Bool.eq_iff_iff
def aa1:=@List.mem_of_getElem?
def aa2:=@List.replicate_succ
def aa3:=@Nat.zero_add
def aa4:=@List.all_eq_true
def aa5:=@PySem.W.mg_of
def aa6:=@Array.length_toList
def aa7:=@Option.isSome_iff_exists
def aa8:=@List.length_drop
def aa9:=@Option.isSome_map
def aba:=@Bool.not_eq_true'
def abb:=@Bool.or_eq_true
def abc:=@Int.emod_nonneg
def abd:=@Int.emod_lt_of_pos
def abe:=@Sum.inr.inj
def abf:=@Nat.le_of_lt
def abg:=@List.set_comm
def abh:=@List.mem_filterMap
def abi:=@Nat.le_of_eq
def abj:=@List.length_replicate
def abk:=@List.length_set
def abl:=@List.reverse_cons
def abm:=@Nat.le_add_right
def abn:=@Bool.false_or
def abo:=@List.zip_cons_cons
def abp:=@List.getElem?_drop
def abq:=@Classical.axiomOfChoice
def abr:=@List.drop_length
def abt:=@Bool.and_eq_true_iff
def abu:=@List.map_congr_left
def abv:=@List.Sublist.refl
def abw:=@List.any_eq_true
def abx:=@Nat.mod_lt
def aby:=@List.mem_filter
def abz:=@List.filterMap_cons
def abA:=@PyProof.Rows.callWith_type1
def abB:=@Nat.lt_succ_self
def abC:=@List.of_mem_zip
def abD:=@List.getElem?_append_right
def abE:=@List.getElem?_append_left
def abF:=@PySem.F.slot_tuple_add
def abG:=@PySem.F.entry_tuple_add
def abH:=@PySem.F.args_tuple_add_2
def abI:=@PyProof.Rows.slot_tuple_getitem
def abJ:=@List.forIn_cons
def abK:=@List.set_cons_zero
def abL:=@Option.map_some
def abM:=@List.perm_append_comm_assoc
def abN:=@Nat.add_le_add_right
def abO:=@List.findIdx?_cons
def abP:=@List.drop_eq_getElem_cons
def abQ:=@PySem.F.plainAttrs_str
def abR:=@Nat.add_le_add_left
def abS:=@Int.eq_ofNat_of_zero_le
def abT:=@Prod.mk.inj
def abU:=@Nat.add_zero
def abV:=@List.drop_drop
def abW:=@List.getElem?_eq_none_iff
def abX:=@PySem.W.cellsFrom_some
def abY:=@List.getElem?_replicate
def abZ:=@Nat.add_sub_cancel_left
def ab0:=@Array.getElem?_toList
def ab1:=@Array.getElem?_eq_none
def ab2:=@Nat.add_left_cancel
def ab3:=@PySem.F.slot_dict_getitem
def ab4:=@List.Perm.append_right
def ab5:=@List.zip_eq_zipWith
def ab6:=@Bool.or_eq_false_iff
def ab7:=@List.sublist_append_right
def ab8:=@PySem.F.plainAttrs_list
def ab9:=@Nat.le_of_ble_eq_true
def aca:=@Int.le_add_of_nonneg_right
def acb:=@Nat.mul_le_mul_left
def acd:=@List.take_of_length_le
def ace:=@List.length_zipWith
def acf:=@List.range_succ_eq_map
def acg:=@List.filter_cons_of_pos
def ach:=@List.filter_cons_of_neg
def aci:=@List.filterMap_cons_none
def acj:=@List.filterMap_cons_some
def ack:=@List.filter_sublist
namespace L2
open PySem PySem.Spec PyProof.Rows
section
abbrev Key:=Sum Int Str
def keyIs:Key->Value->Bool
 |.inl k,v=>Value.isInt k v
 |.inr x,v=>Value.isStrOf x v
def keyH(w:World):Key->Int
 |.inl k=>hashInt k
 |.inr x=>hashStr w x
theorem aK:∀{k:Key}{v:Value},keyIs k v=true->(∃i t,k=Sum.inl i/\v=Value.int i t)\/(∃x t,k=Sum.inr x/\v=Value.str x t)
 |.inl i,v,h=>by obtain⟨t,e⟩:=Value.isInt_shape h;exact .inl ⟨i,t,rfl,e⟩
 |.inr x,v,h=>by obtain⟨t,e⟩:=Value.isStrOf_shape h;exact .inr ⟨x,t,rfl,e⟩
theorem oH(i:Int)(t:Tok):keyIs (.inl i) (.int i t)=true:=by simp[keyIs,Value.isInt]
theorem oI(x:Str)(t:Tok):keyIs (.inr x) (.str x t)=true:=by simp[keyIs,Value.isStrOf]
theorem yA(a b:Int):decide ((Sum.inl a:Key)=Sum.inl b)=(a==b):=by
 by_cases e:a=b
 ·subst e;simp
 ·have h:¬ (Sum.inl a:Key)=Sum.inl b:=λq=>e (Sum.inl.inj q);rw[Dab h];exact(beq_eq_false_iff_ne.mpr e).symm
theorem yB(a b:Str):decide ((Sum.inr a:Key)=Sum.inr b)=decide (a=b):=by
 by_cases e:a=b
 ·subst e;simp
 ·have h:¬ (Sum.inr a:Key)=Sum.inr b:=λq=>e (abe q);rw[Dab h,Dab e]
theorem yC(a:Int)(b:Str):decide ((Sum.inl a:Key)=Sum.inr b)=false:=Dab (λq=>nomatch q)
theorem yD(a:Str)(b:Int):decide ((Sum.inr a:Key)=Sum.inl b)=false:=Dab (λq=>nomatch q)
def aH(prog:Program)(w:World):PySem.KeyKind prog w Key where
 is:=keyIs
 hash:=keyH w
 inj:=λv a b g d=>by
  rcases aK g with ⟨i,t,rfl,rfl⟩|⟨x,t,rfl,rfl⟩
  ·rcases aK d with ⟨j,u,rfl,e⟩|⟨y,u,rfl,e⟩
   ·injection e with e1 _;rw[e1]
   ·exact nomatch e
  ·rcases aK d with ⟨j,u,rfl,e⟩|⟨y,u,rfl,e⟩
   ·exact nomatch e
   ·injection e with e1 _;rw[e1]
 byValue:=λk v h=>by rcases aK h with ⟨i,t,rfl,rfl⟩|⟨x,t,rfl,rfl⟩<;>rfl
 pyHash:=λc h=>by
  rcases aK c with ⟨i,t,rfl,rfl⟩|⟨x,t,rfl,rfl⟩
  ·exact wpAny_pyHash_int h
  ·exact wpAny_pyHash_str h
 eqBool:=λf c h=>by
  rcases aK f with ⟨i,t,rfl,rfl⟩|⟨x,t,rfl,rfl⟩
  ·rcases aK c with ⟨j,u,rfl,rfl⟩|⟨y,u,rfl,rfl⟩
   ·rw[yA]at h;exact wpAny_eqBool_int h
   ·rw[yC]at h;exact SeqAt.EqAt.int_str i t y u _ _ _ _ h
  ·rcases aK c with ⟨j,u,rfl,rfl⟩|⟨y,u,rfl,rfl⟩
   ·rw[yD]at h;exact SeqAt.EqAt.str_int x t j u _ _ _ _ h
   ·rw[yB]at h;exact wpAny_eqBool_str h
 «strs»:=λk x t v h=>by
  rcases aK h with ⟨i,u,rfl,e⟩|⟨y,u,rfl,e⟩
  ·exact nomatch e
  ·injection e with e1 _;subst e1;cases v<;>rfl
theorem jI(prog:Program)(w:World)(i:Int)(t:Tok):(aH prog w).is (.inl i) (.int i t)=true:=oH i t
theorem mixKind_str(prog:Program)(w:World)(x:Str)(t:Tok):(aH prog w).is (.inr x) (.str x t)=true:=oI x t
end
section
inductive V where
 |non|bl (b:Bool)|int (i:Int)|str (x:Str)|byt (b:Array UInt8)|flt (b:UInt64)|ref (a:Addr)|ty (n:String)
 deriving DecidableEq
def RelV:V->Value->Prop
 |.non,u=>u=Value.none
 |.bl b,u=>u=Value.bool b
 |.int i,u=>∃t,u=Value.int i t
 |.str x,u=>∃t,u=Value.str x t
 |.byt b,u=>∃t,u=Value.bytes b t
 |.flt b,u=>∃t,u=Value.float b t
 |.ref a,u=>u=Value.ref a
 |.ty n,u=>u=Value.type n
abbrev Vals:List V->List Value->Prop:=Paired RelV
theorem Vals.length{xs:List V}{us:List Value}(r:Vals xs us):xs.length=us.length:=acL r
theorem Vals.get:∀{xs:List V}{us:List Value}{i:Nat}{x:V},Vals xs us->xs[i]?=some x->∃u,us[i]?=some u/\RelV x u
 |_,_,_,_,.nil,e=>by simp at e
 |_,_,0,_,.cons r _,e=>by simp at e;subst e;exact⟨_,rfl,r⟩
 |_,_,i+1,x,.cons _ t,e=>by obtain⟨u,b,a⟩:=Vals.get (i:=i) (x:=x) t (by simpa using e);exact⟨u,by simpa using b,a⟩
theorem Vals.set(r:RelV x u):∀{xs:List V}{us:List Value} (i:Nat),Vals xs us->Vals (xs.set i x) (us.set i u)
 |_,_,_,.nil=>.nil
 |_,_,0,.cons _ t=>.cons r t
 |_,_,i+1,.cons q t=>.cons q (Vals.set r i t)
theorem Vals.append:∀{xs ys:List V}{us ws:List Value},Vals xs us->Vals ys ws->Vals (xs++ys) (us++ws)
 |_,_,_,_,.nil,s=>s
 |_,_,_,_,.cons r t,s=>.cons r (Vals.append t s)
theorem Vals.take:∀{xs:List V}{us:List Value} (n:Nat),Vals xs us->Vals (xs.take n) (us.take n)
 |_,_,0,_=>.nil
 |_,_,_+1,.nil=>.nil
 |_,_,n+1,.cons r t=>.cons r (Vals.take n t)
theorem Vals.drop:∀{xs:List V}{us:List Value} (n:Nat),Vals xs us->Vals (xs.drop n) (us.drop n)
 |_,_,0,r=>r
 |_,_,_+1,.nil=>.nil
 |_,_,n+1,.cons _ t=>Vals.drop n t
theorem Vals.none_of:∀{xs:List V}{us:List Value}{i:Nat},Vals xs us->xs[i]?=none->us[i]?=none:=λ{xs us i} r e=>by have b:=r.length;have a:xs.length<=i:=abW.mp e;exact abW.mpr (by omega)
def RelO:Option V->Option Value->Prop
 |some v,some u=>RelV v u
 |none,none=>True
 |_,_=>False
def KV{a:Type}:List (a×V)->List (a×Value)->Prop:=Paired λ(p:a×V) (q:a×Value)=>p.1=q.1/\RelV p.2 q.2
def kV:Key->V
 |.inl i=>.int i
 |.inr x=>.str x
inductive HO where
 |lst (xs:List V)
 |tup (xs:List V)
 |dK (kvs:List (Key×V))|dT (kvs:List (List Key×V))
 |set (S:Int->Bool) (n:Nat)
 |ins (C dx:Addr) (fs:List (Str×V))
 |own (x:Addr)
 |xd (fs:List (Str×V))
 |met (f x:Addr)
 |rng (lo hi:Int)
 |frz (o:Obj) (u:HO)
 |tbl (ps:Array Value)
 |ext (φ:Heap->Prop)
abbrev Hp:=Addr->Option HO
def upd(H:Hp)(a:Addr)(o:HO):Hp:=λb=>if b=a then some o else H b
theorem aq{H:Hp}:upd H a o a=some o:=by unfold upd;rw[if_pos rfl]
theorem upd_ne{H:Hp}(h:b≠a):upd H a o b=H b:=by unfold upd;rw[if_neg h]
theorem BD{H:Hp}(h:H a=some o)(h':H b=some u)(d:o≠u):a≠b:=by intro e;subst e;rw[h]at h';exact d (aaD h')
theorem ai{H:Hp}(h:H a=some o)(h':H b=none):a≠b:=by intro e;subst e;rw[h]at h';cases h'
section
variable(P:Program)(w:World)
def Fb(h:Heap)(a:Addr)(items:Array Value):Prop:=∃o,h.get? a=some o/\o.cls=.type "tuple"/\∃n,o.data=.seq items n/\o.dict=none
def ObjOk(H:Hp)(h:Heap)(a:Addr):HO->Prop
 |.lst xs=>xs.length<=sizeLine/\∃(b:List Value) (n:Nat),Vals xs b/\h.get? a=some { cls:=.type "list",data:=.seq b.toArray n }
 |.tup xs=>xs.length<=sizeLine/\∃b:List Value,Vals xs b/\Fb h a b.toArray
 |.dK kvs=>kvs.length<=sizeLine/\(a==sysModules)=false/\∃g,KV kvs g/\h.DictOf (aH P w) a g
 |.dT kvs=>kvs.length<=sizeLine/\(a==sysModules)=false/\∃xs:List (List Key×Addr×Value),
   Paired (λ(p:List Key×V) (q:List Key×Addr×Value)=>p.1=q.1/\H q.2.1=some (.tup (p.1.map kV))/\RelV p.2 q.2.2) kvs xs /\
   ∃o i j,h.get? a=some o/\o.ExactDict/\o.data=.dict i j/\i.toList=xs.map (entryOfKey (tupleKind (aH P w)))/\(xs.map (·.1)).Nodup
 |.set S n=>h.SetOf (intKind P w) a S n
 |.ins C dx fs=>H dx=some (.own a)/\fs.length<=1000/\dx≠a/\h.get? a=some (PySem.W.instObj C dx) /\
   ∃c,h.Ns1 dx c/\(∀f,RelO (fs.lookup f) (c f))/\PySem.Within c (fs.map (·.1))
 |.own _=>∃o,h.get? a=some o
 |.xd fs=>∃c,h.Ns1 a c/\∀f,RelO (fs.lookup f) (c f)
 |.rng lo hi=>∃t u v,h.get? a=some { cls:=.type "range",data:=.fields #[.int lo t,.int hi u,.int 1 v] }
 |.frz o u=>h.get? a=some o/\ObjOk H h a u
 |.tbl ps=>h.get? a=some { cls:=.none,data:=.fields ps }
 |.met f x=>h.get? a=some (PySem.W.methodObj (.ref f) (.ref x))
 |.ext φ=>φ h/\(∃o,h.get? a=some o)/\∀e d:Heap,φ e->(∀o,e.get? a=some o->d.get? a=some o)->φ d
def HOk(H:Hp)(h:Heap):Prop:=∀a o,H a=some o->ObjOk P w H h a o
end
theorem ObjOk.lt(x:ObjOk P w H h a o):a<h.objs.size:=by
 cases o with
 |lst c=>obtain⟨_,_,_,_,e⟩:=x;exact acn e
 |tup c=>obtain⟨_,_,_,o,e,_⟩:=x;exact acn e
 |dK b=>obtain⟨_,_,_,_,o,_,_,e,_⟩:=x;exact acn e
 |dT b=>obtain⟨_,_,_,_,o,_,_,e,_⟩:=x;exact acn e
 |set S n=>obtain⟨o,_,_,_,e,_⟩:=x;exact acn e
 |ins C l d=>obtain⟨_,_,_,e,_⟩:=x;exact acn e
 |own y=>obtain⟨_,e⟩:=x;exact acn e
 |xd d=>obtain⟨_,⟨_,_,_,e,_⟩,_⟩:=x;exact acn e
 |rng j m=>obtain⟨_,_,_,e⟩:=x;exact acn e
 |frz g u=>obtain⟨e,_⟩:=x;exact acn e
 |tbl i=>exact acn (show h.get? a=some _ from x)
 |met f y=>exact acn (show h.get? a=some _ from x)
 |ext k=>obtain⟨_,⟨_,e⟩,_⟩:=x;exact acn e
theorem Paired.u0{g e:Type}{F G:g->e->Prop}:∀{c:List g}{d:List e},Paired F c d->(∀a b,F a b->G a b)->Paired G c d
 |_,_,.nil,_=>.nil
 |_,_,.cons r t,f=>.cons (f _ _ r) (Paired.u0 t f)
theorem ObjOk.g7(x:ObjOk P w H h a o)(k:∀b u,(b=a\/H b=some (.own a))->h.get? b=some u->h'.get? b=some u)
  (J:∀b,H b=some (.own a)->H' b=some (.own a)) (G:∀b xs,H b=some (.tup xs)->H' b=some (.tup xs)):ObjOk P w H' h' a o:=by
 induction o with
 |lst xs=>obtain⟨z,l,n,r,e⟩:=x;exact⟨z,l,n,r,k _ _ (.inl rfl) e⟩
 |tup xs=>obtain⟨z,l,r,g,e,c⟩:=x;exact⟨z,l,r,g,k _ _ (.inl rfl) e,c⟩
 |dK s=>obtain⟨z,y,L,r,g,i,j,e,c⟩:=x;exact⟨z,y,L,r,g,i,j,k _ _ (.inl rfl) e,c⟩
 |dT s=>obtain⟨z,y,xs,r,g,i,j,e,c⟩:=x;exact⟨z,y,xs,Paired.u0 r λp q z=>⟨z.1,G _ _ z.2.1,z.2.2⟩,g,i,j,k _ _ (.inl rfl) e,c⟩
 |set S n=>obtain⟨g,i,j,t,e,c⟩:=x;exact⟨g,i,j,t,k _ _ (.inl rfl) e,c⟩
 |ins C Q M=>obtain⟨d,z,I,e,A,⟨m,i,j,F,c⟩,r⟩:=x;exact⟨J _ d,z,I,k _ _ (.inl rfl) e,A,⟨m,i,j,k _ _ (.inr d) F,c⟩,r⟩
 |own y=>obtain⟨g,e⟩:=x;exact⟨g,k _ _ (.inl rfl) e⟩
 |xd M=>obtain⟨A,⟨m,i,j,e,c⟩,r⟩:=x;exact⟨A,⟨m,i,j,k _ _ (.inl rfl) e,c⟩,r⟩
 |rng O U=>obtain⟨t,u,v,e⟩:=x;exact⟨t,u,v,k _ _ (.inl rfl) e⟩
 |frz g u N=>obtain⟨e,q⟩:=x;exact⟨k _ _ (.inl rfl) e,N q⟩
 |tbl B=>have e:h.get? a=some { cls:=.none,data:=.fields B }:=x;show h'.get? a=some { cls:=.none,data:=.fields B };exact k a _ (.inl rfl) e
 |met f y=>have e:h.get? a=some (PySem.W.methodObj (.ref f) (.ref y)):=x;show h'.get? a=some (PySem.W.methodObj (.ref f) (.ref y));exact k a _ (.inl rfl) e
 |ext T=>obtain⟨p,⟨o,e⟩,D⟩:=x;exact⟨D _ _ p λo q=>k _ _ (.inl rfl) q,⟨o,k _ _ (.inl rfl) e⟩,D⟩
theorem HOk.lt(x:HOk P w H h)(e:H a=some o):a<h.objs.size:=(x a o e).lt
theorem HOk.fresh(x:HOk P w H h)(e:h.objs.size<=a):H a=none:=by
 cases q:H a with
 |none=>rfl
 |some u=>exact absurd (aax (x.lt q) e) (aaU _)
theorem HOk.kept(x:HOk P w H h)(k:∀b u,h.get? b=some u->h'.get? b=some u):HOk P w H h':=λa o e=>
 (x a o e).g7 (λb u _ q=>k b u q) (λ_ q=>q) λ_ _ q=>q
theorem HOk.laid(x:HOk P w H h)(k:∀b u,h.get? b=some u->h'.get? b=some u)(i:h.objs.size<=a)(d:ObjOk P w (upd H a o) h' a o):HOk P w (upd H a o) h':=λb u e=>by
 have g:=x.fresh i;by_cases f:b=a
 ·subst f;rw[aq]at e;cases e;exact d
 ·rw[upd_ne f]at e;exact(x b u e).g7 (λc v _ q=>k c v q) (λc q=>by rw[upd_ne (ai q g)];exact q) λc j q=>by rw[upd_ne (ai q g)];exact q
def Rd(H:Hp)(a:Addr)(u:HO):Prop:=H a=some u\/∃o,H a=some (.frz o u)
theorem Rd.of(h:H a=some u):Rd H a u:=.inl h
theorem Rd.ok{P:Program}{w:World}(r:Rd H a u)(x:HOk P w H h):ObjOk P w H h a u:=by
 rcases r with r|⟨o,r⟩
 ·exact x a u r
 ·obtain⟨_,q⟩:=x a _ r;exact q
def BE:Option HO->Prop
 |some (.lst _)=>True
 |some (.dK _)=>True
 |some (.dT _)=>True
 |some (.set _ _)=>True
 |some (.ins _ _ _)=>True
 |some (.ext _)=>True
 |_=>False
theorem HOk.write(t:HOk P w H h)(l:BE (H x))(o:e=x\/H e=some (.own x))(k:∀b u,b≠e->h.get? b=some u->h'.get? b=some u)(m:∃u,h'.get? e=some u)
  (n:ObjOk P w (upd H x o') h' x o'):HOk P w (upd H x o') h':=λb u q=>by
 have d:∀c y,H c=some (.own y)->c≠x:=λc y r z=>by subst z;rw[r]at l;exact l
 have f:∀c j,H c=some (.tup j)->c≠x:=λc j r z=>by subst z;rw[r]at l;exact l
 by_cases g:b=x
 ·subst g;rw[aq]at q;cases q;exact n
 ·rw[upd_ne g]at q;by_cases a:b=e
  ·have p:H b=some (.own x):=by
    rcases o with z|z
    ·exact absurd (a.trans z) g
    ·rw[a];exact z
   rw[q]at p;cases p;obtain⟨v,s⟩:=m;exact⟨v,by rw[a];exact s⟩
  ·refine(t b u q).g7 (λc v i r=>k c v ?_ r) (λc r=>by rw[upd_ne (d c b r)];exact r) λc j r=>by rw[upd_ne (f c j r)];exact r
   rcases i with rfl|i
   ·exact a
   ·rintro rfl;rcases o with z|z
    ·exact d c b i z
    ·rw[i]at z;cases z;exact g rfl
structure Un (fs ex:List Addr)(H H':Hp)(h h':Heap):Prop where
 keep:∀b o,h.get? b=some o->H b=none->b ∉ fs->b ∉ ex->h'.get? b=some o
 slot:∀b o,h.get? b=some o->H b=none->b∈fs->b ∉ ex->∃sl,h'.get? b=some { o with slots:=sl }
 free:∀b o,h.get? b=some o->H b=none->b ∉ ex->H' b=none
 there:∀b o,h.get? b=some o->b ∉ ex->∃o',h'.get? b=some o'
 tups:∀b xs,H b=some (.tup xs)->H' b=some (.tup xs)
 frzs:∀b o u,H b=some (.frz o u)->H' b=some (.frz o u)
 tbls:∀b ps,H b=some (.tbl ps)->∃more,H' b=some (.tbl (ps++more))
theorem Un.any(u:Un fs ex H H1 h h1){b:Addr}{a:Obj}(q:h.get? b=some a)(n:H b=none)(d:b ∉ ex):∃e,h1.get? b=some { a with slots:=e }:=by
 by_cases c:b∈fs
 ·exact u.slot b a q n c d
 ·exact⟨a.slots,u.keep b a q n c d⟩
theorem Un.trans(a:Un fs ex H H1 h h1)(b:Un fs ex H1 H2 h1 h2):Un fs ex H H2 h h2 where
 keep:=λc d q n i e=>b.keep c d (a.keep c d q n i e) (a.free c d q n e) i e
 slot:=λc d q n i e=>by obtain⟨r,f⟩:=a.slot c d q n i e;obtain⟨l,j⟩:=b.slot c _ f (a.free c d q n e) i e;exact⟨l,j⟩
 free:=λc d q n e=>by obtain⟨k,f⟩:=a.there c d q e;exact b.free c k f (a.free c d q n e) e
 there:=λc d q e=>by obtain⟨k,f⟩:=a.there c d q e;exact b.there c k f e
 tups:=λc g q=>b.tups c g (a.tups c g q)
 frzs:=λc d g q=>b.frzs c d g (a.frzs c d g q)
 tbls:=λc m q=>by obtain⟨p,f⟩:=a.tbls c m q;obtain⟨o,j⟩:=b.tbls c _ f;exact⟨p++o,by rw[j,Array.append_assoc]⟩
theorem Un.kept(k:∀b u,h.get? b=some u->h'.get? b=some u):Un fs ex H H h h':=
 ⟨λb a q _ _ _=>k b a q,λb a q _ _ _=>⟨a.slots,k b a q⟩,λ_ _ _ n _=>n,λb a q _=>⟨a,k b a q⟩,λ_ _ q=>q,λ_ _ _ q=>q,λ_ c q=>⟨#[],by rw[q];simp⟩⟩
theorem Un.refl:Un fs ex H H h h:=Un.kept λ_ _ q=>q
theorem Un.laid(k:∀b u,h.get? b=some u->h'.get? b=some u)(d:h.objs.size<=a)(c:H a=none):Un fs ex H (upd H a o) h h' where
 keep:=λb u q _ _ _=>k b u q
 slot:=λb u q _ _ _=>⟨u.slots,k b u q⟩
 free:=λb u q n _=>by rw[upd_ne (aam (aax (acn q) d))];exact n
 there:=λb u q _=>⟨u,k b u q⟩
 tups:=λb e q=>by rw[upd_ne (ai q c)];exact q
 frzs:=λb u e q=>by rw[upd_ne (ai q c)];exact q
 tbls:=λb f q=>⟨#[],by rw[upd_ne (ai q c),q];simp⟩
theorem Un.write(c:BE (H x))(j:e=x\/H e=some (.own x))(k:∀b u,b≠e->h.get? b=some u->h'.get? b=some u)(d:∃u,h'.get? e=some u):Un fs ex H (upd H x o) h h':=by
 have i:∀b,H b=none->b≠x:=λb n z=>by subst z;rw[n]at c;exact c
 have g:∀b,H b=none->b≠e:=λb n z=>by
  subst z;rcases j with r|r
  ·exact i b n r
  ·rw[n]at r;cases r
 have f:∀b u,H b=some u->¬ BE (some u)->b≠x:=λb u q m z=>by subst z;rw[q]at c;exact m c
 refine⟨λb u q n _ _=>k b u (g b n) q,λb u q n _ _=>⟨u.slots,k b u (g b n) q⟩,λb u q n _=>by rw[upd_ne (i b n)];exact n,λb u q _=>?_,
  λb l q=>by rw[upd_ne (f b _ q λz=>z)];exact q,λb u l q=>by rw[upd_ne (f b _ q λz=>z)];exact q,λb p q=>⟨#[],by rw[upd_ne (f b _ q λz=>z),q];simp⟩⟩
 by_cases a:b=e
 ·subst a;exact d
 ·exact⟨u,k b u a q⟩
theorem Un.mono(u:Un fs ex H H1 h h1)(f:∀b∈fs,b∈fs')(d:∀b∈ex,b∈ex'):Un fs' ex' H H1 h h1:=
 ⟨λb c q n e a=>u.keep b c q n (λz=>e (f b z)) λz=>a (d b z),λ_ _ q n _ a=>u.any q n λz=>a (d _ z),λb c q n a=>u.free b c q n λz=>a (d b z),λb c q a=>u.there b c q λz=>a (d b z),u.tups,u.frzs,u.tbls⟩
def trk(h:Heap)(H:Hp):List Addr:=(List.range h.objs.size).filter λa=>(H a).isSome
def iM(h:Heap)(H:Hp):Heap:=PySem.W.hideAll h (trk h H)
theorem oJ(h:Heap)(H:Hp):(iM h H).objs.size=h.objs.size:=PySem.W.hideAll_size _ _
theorem hidT_get(e:h.get? b=some o)(n:H b=none):(iM h H).get? b=some o:=
 PySem.W.hideAll_get _ e λa=>by have q:(H b).isSome=true:=(aby.mp a).2;rw[n]at q;simp at q
theorem uP(e:(iM h H).get? b=some o):h.get? b=some o/\H b=none:=by
 have a:h.get? b=some o:=PySem.W.of_hideAll (trk h H) e;refine⟨a,?_⟩;cases q:H b with
 |none=>rfl
 |some x=>have c:b∈trk h H:=aby.mpr ⟨List.mem_range.mpr (acn a),by simp[q]⟩;have z:(iM h H).get? b=none:=PySem.W.hideAll_none (trk h H) c;rw[z]at e;cases e
def uQ(g h:Heap)(L:Addr):List (Addr×Obj):=(List.range h.objs.size).filterMap λa=>if a=L\/(g.get? a).isSome=true then none else (h.get? a).map λo=>(a,o)
def rest(g h:Heap)(L d:Addr):List (Addr×Obj):=(uQ g h L).filter λp=>decide (p.1≠d)
end
section
structure Mod (K:Waa)(mg:Str->Option Value)(base:Heap):Prop where
 kin:K.In base
 glob:base.Ns mainGlobals mg
 blt:∃mb,base.Ns builtinsNs mb/\∀x:Str,x≠"__name__"->mb x=bootBuiltins x
 nolimit:base.NoLimit
structure Cx where
 prog:Program
 w:World
 K:Waa
 mg:Str->Option Value
 base:Heap
 A:Around
 N:List Str
 s₀:Shared
 H₀:Hp
 env:Env
 outer:List Env
 stack:List Env
 ex:List Addr
 fn:Str->Bool
 calm:Bool
 pn:List (Addr×Obj)
 xe:Value->Shared->Prop
def qi(l:List Env):List Addr:=l.filterMap (·.frame)
abbrev Cx.fs(X:Cx):List Addr:=qi X.outer
def Vis(sc:Scope)(x:Str):Prop:=sc.names.lookup x=some .local\/sc.names.lookup x=some .cell\/sc.names.lookup x=some .free
def Loc(sc:Scope)(x:Str):Prop:=sc.names.lookup x=some .local\/sc.names.lookup x=some .cell
def Look(env:Env)(h:Heap)(m:Str->Option Value)(x:Str)(u:Value):Prop:=
 (env.kindOf x=some .local/\m x=some u)\/((env.kindOf x=some .cell\/env.kindOf x=some .free)/\∃c,env.cells.lookup x=some c/\h.IsCell c (some u))
structure Cx.Ok (X:Cx):Prop where
 mod:Mod X.K X.mg X.base
 kind:X.env.scope.kind=.function
 glob:X.env.globals=mainGlobals
 blt:X.env.builtins=builtinsNs
 above:X.s₀.heap.objs.size<=X.env.locals
 inj:∀x y c,X.env.cells.lookup x=some c->X.env.cells.lookup y=some c->x=y
 has:∀x,(X.env.kindOf x=some .cell\/X.env.kindOf x=some .free)->∃c,X.env.cells.lookup x=some c
 cab:∀x c,X.fn x=true->X.env.cells.lookup x=some c->X.s₀.heap.objs.size<=c
 hd:X.calm=true->X.A.handled=none
 frames:X.A.frames=some X.stack
 stk:X.stack=X.outer\/(X.stack=X.env::X.outer/\X.env.frame=some X.env.locals)
 exf:∀b∈X.ex,b≠X.env.locals/\∀x c,X.env.cells.lookup x=some c->c≠b
 bs:∀b o,X.base.get? b=some o->X.s₀.heap.get? b=some o/\X.H₀ b=none
 bsz:X.base.objs.size<=X.s₀.heap.objs.size
 noex:∀b o,X.base.get? b=some o->b ∉ X.ex
 exfs:∀b∈X.ex,b ∉ X.fs
 funs:X.s₀.heap.FunFrames X.base X.outer
 frf:∀b∈X.fs,X.H₀ b=none
structure Inv (X:Cx)(pins:List (Addr×Obj))(σ:List (Option V))(H:Hp)(s:Shared):Prop where
 ok:X.Ok
 os:s.os=X.s₀.os
 bare:AllBare s.gens
 base:Un X.fs X.ex X.H₀ H X.s₀.heap s.heap
 loc:∃m,s.heap.Ns X.env.locals m/\∀(i:Nat) (x:Str) (v:V),X.N[i]?=some x->σ[i]?=some (some v)->Vis X.env.scope x->∃u,RelV v u/\Look X.env s.heap m x u
 cell:∀x c,X.env.cells.lookup x=some c->∃v,s.heap.IsCell c v
 free:H X.env.locals=none
 freeC:∀x c,X.env.cells.lookup x=some c->H c=none
 pin:∀p∈X.pn++pins,s.heap.get? p.1=some p.2/\H p.1=none/\p.1≠X.env.locals/\p.1 ∉ X.fs/\∀v,p.2.data≠.cell v
 hok:HOk X.prog X.w H s.heap
 len:σ.length=X.N.length
section
variable{X:Cx}
theorem Cx.Ok.nofr(a:X.Ok)(e:X.base.get? b=some o):b ∉ X.fs:=λc=>by have:=(a.funs.mem c).1;rw[e]at this;cases this
theorem Inv.bs(I:Inv X pins σ H s):∀b o,X.base.get? b=some o->s.heap.get? b=some o/\H b=none:=λb o e=>
 ⟨I.base.keep b o (I.ok.bs b o e).1 (I.ok.bs b o e).2 (I.ok.nofr e) (I.ok.noex b o e),I.base.free b o (I.ok.bs b o e).1 (I.ok.bs b o e).2 (I.ok.noex b o e)⟩
theorem Inv.bk(I:Inv X pins σ H s):∀b o,X.base.get? b=some o->s.heap.get? b=some o:=λb o e=>(I.bs b o e).1
theorem Inv.mod(I:Inv X pins σ H s):Mod X.K X.mg X.base:=I.ok.mod
theorem Inv.pe(I:Inv X pins σ H s):X.K.In s.heap:=I.ok.mod.kin.keeps I.bk
theorem Inv.nolimit(I:Inv X pins σ H s):s.heap.NoLimit:=I.ok.mod.nolimit.keeps I.bk
theorem Inv.fr(I:Inv X pins σ H s):∃m,Fr X.base X.env.locals s.heap m:=
 let ⟨m,a,_⟩:=I.loc
 ⟨m,a,I.bk,aas I.ok.bsz I.ok.above⟩
theorem Inv.lt(I:Inv X pins σ H s):X.env.locals<s.heap.objs.size:=let ⟨_,a,_⟩:=I.loc;a.lt
theorem Inv.sz(I:Inv X pins σ H s):X.s₀.heap.objs.size<=s.heap.objs.size:=aas I.ok.above (abf I.lt)
theorem Inv.nofs(I:Inv X pins σ H s)(h:s.heap.objs.size<=a):a ∉ X.fs:=λb=>by obtain⟨_,o,c,_⟩:=I.ok.funs.mem b;exact absurd (aax (acn c) (aas I.sz h)) (aaU _)
theorem Inv.cne(I:Inv X pins σ H s):∀x c,X.env.cells.lookup x=some c->c≠X.env.locals:=λx c e z=>by obtain⟨v,o,d,f⟩:=I.cell x c e;obtain⟨m,⟨g,h,i,a,b,_⟩,_⟩:=I.loc;rw[z,a]at d;cases d;rw[b]at f;cases f
theorem Inv.funs(I:Inv X pins σ H s):s.heap.FunFrames X.base X.outer:=by
 have d:∀(l:List Env),(∀b∈qi l,b∈X.fs)->X.s₀.heap.FunFrames X.base l->s.heap.FunFrames X.base l:=by
  intro l;induction l with
  |nil=>intro _ _;trivial
  |cons n r p=>intro g i;obtain⟨m,⟨L,o,c,h,j,k⟩,q⟩:=i;have f:L∈X.fs:=g L (by unfold qi;rw[abz,c];exact aah);obtain⟨t,e⟩:=I.base.slot L o j (I.ok.frf L f) f λz=>I.ok.exfs L z f;exact⟨m,⟨L,_,c,h,e,k⟩,p (λb a=>g b (by unfold qi;rw[abz,c];exact aaf _ a)) q⟩
 exact d X.outer (λ_ a=>a) I.ok.funs
theorem Inv.stack(I:Inv X pins σ H s):s.heap.FunFrames X.base X.stack:=by
 rcases I.ok.stk with e|⟨e,b⟩
 ·rw[e];exact I.funs
 ·rw[e];obtain⟨m,a,_⟩:=I.loc;refine .cons (by rw[I.ok.kind];decide) b a ?_ I.funs;exact Heap.get?_none_of_le (aas I.ok.bsz I.ok.above)
theorem Inv.j1(I:Inv X pins σ H s):∀b∈qi X.stack,b∈X.env.locals::X.fs:=λb a=>by
 rcases I.ok.stk with e|⟨e,c⟩
 ·rw[e]at a;exact aaf _ a
 ·rw[e]at a;unfold qi at a;rw[abz,c]at a;exact a
theorem Inv.n0(I:Inv X pins σ H s):∀b∈qi X.stack,H b=none:=λb a=>by
 rcases aab.mp (I.j1 b a) with e|a
 ·rw[e];exact I.free
 ·obtain⟨_,o,c,_⟩:=I.ok.funs.mem a;exact I.base.free b o c (I.ok.frf b a) λz=>I.ok.exfs b z a
theorem Inv.step{g':Array GenState}{t':Nat}{d':Drawn}{ch:List Addr}(I:Inv X pins σ H s)
  (g:∀b∈ch,(b∈X.ex\/X.s₀.heap.objs.size<=b)/\b≠X.env.locals/\(∀x c,X.env.cells.lookup x=some c->c≠b)/\∀p∈X.pn++pins,p.1≠b)
  (t:∀b o,b≠X.env.locals->b ∉ X.fs->b ∉ ch->s.heap.get? b=some o->H b=none->h'.get? b=some o)
  (B:∀b o,b≠X.env.locals->b∈X.fs->b ∉ ch->s.heap.get? b=some o->H b=none->∃W,h'.get? b=some { o with slots:=W }) (f:∀b o,b ∉ ch->s.heap.get? b=some o->H b=none->H' b=none)
  (F:∀b o,b ∉ ch->s.heap.get? b=some o->∃L,h'.get? b=some L)
  (P:∀b C,H b=some (.tup C)->H' b=some (.tup C)) (M:∀b o u,H b=some (.frz o u)->H' b=some (.frz o u)) (O:∀b S,H b=some (.tbl S)->∃N,H' b=some (.tbl (S++N)))
  (ns:∀m,s.heap.Ns X.env.locals m->h'.Ns X.env.locals m) (U:HOk X.prog X.w H' h') (hg:AllBare g'):
  Inv X pins σ H' { s with heap:=h',gens:=g',drawn:=d',toks:=t' }:=by
 have Q:∀b o,X.s₀.heap.get? b=some o->b≠X.env.locals:=λb o e=>aam (aax (acn e) I.ok.above);have A:∀b o,X.s₀.heap.get? b=some o->b ∉ X.ex->b ∉ ch:=λb o e a D=>by
  rcases (g b D).1 with z|z
  ·exact a z
  ·exact absurd (aax (acn e) z) (aaU _)
 have h:∀x c,X.env.cells.lookup x=some c->∀v,s.heap.IsCell c v->h'.IsCell c v:=λx c e v ⟨o,G,T⟩=>by
  have j:c ∉ ch:=λz=>(g c z).2.2.1 x c e rfl;by_cases Z:c∈X.fs
  ·obtain⟨W,q⟩:=B c o (I.cne x c e) Z j G (I.freeC x c e);exact⟨_,q,T⟩
  ·exact⟨o,t c o (I.cne x c e) Z j G (I.freeC x c e),T⟩
 refine⟨I.ok,I.os,hg,⟨λb o e n D a=>?_,λb o e n D a=>?_,λb o e n a=>?_,λb o e a=>?_,λb C e=>P b C (I.base.tups b C e),λb o C e=>M b o C (I.base.frzs b o C e),λb S e=>?_⟩,?_,λx c e=>?_,?_,λx c e=>?_,λp hp=>?_,U,I.len⟩
 ·exact t b o (Q b o e) D (A b o e a) (I.base.keep b o e n D a) (I.base.free b o e n a)
 ·obtain⟨W,y⟩:=I.base.slot b o e n D a;obtain⟨Y,J⟩:=B b _ (Q b o e) D (A b o e a) y (I.base.free b o e n a);exact⟨Y,J⟩
 ·obtain⟨L,y⟩:=I.base.there b o e a;exact f b L (A b o e a) y (I.base.free b o e n a)
 ·obtain⟨L,y⟩:=I.base.there b o e a;exact F b L (A b o e a) y
 ·obtain⟨m1,y⟩:=I.base.tbls b S e;obtain⟨m2,J⟩:=O b _ y;exact⟨m1++m2,by rw[J,Array.append_assoc]⟩
 ·obtain⟨m,hn,hl⟩:=I.loc;refine⟨m,ns m hn,λi x v y J e3=>?_⟩;obtain⟨u,r,l⟩:=hl i x v y J e3;refine⟨u,r,?_⟩;rcases l with l|⟨k,c,e,z⟩
  ·exact .inl l
  ·exact .inr ⟨k,c,e,h x c e _ z⟩
 ·obtain⟨v,z⟩:=I.cell x c e;exact⟨v,h x c e v z⟩
 ·obtain⟨m,⟨o,_,_,G,_⟩,_⟩:=I.loc;exact f _ o (λz=>(g _ z).2.1 rfl) G I.free
 ·obtain⟨v,o,G,T⟩:=I.cell x c e;exact f c o (λz=>(g c z).2.2.1 x c e rfl) G (I.freeC x c e)
 ·obtain⟨e,n,ne,nf,d⟩:=I.pin p hp;have j:p.1 ∉ ch:=λz=>(g p.1 z).2.2.2 p hp rfl;exact⟨t p.1 p.2 ne nf j e n,f p.1 p.2 j e n,ne,nf,d⟩
theorem Inv.un{t':Nat}(I:Inv X pins σ H s)(u:Un X.fs [] H H' s.heap h')(g:HOk X.prog X.w H' h'):Inv X pins σ H' { s with heap:=h',toks:=t' }:=by
 obtain⟨m,⟨o,p,q,h,r⟩,_⟩:=id I.loc;obtain⟨t,k⟩:=u.any h I.free (by simp);exact I.step (ch:=[]) (λ_ z=>nomatch z) (λb o _ c _ e n=>u.keep b o e n c (by simp)) (λb o _ c _ e n=>u.slot b o e n c (by simp)) (λb o _ e n=>u.free b o e n (by simp)) (λb o _ e=>u.there b o e (by simp)) u.tups u.frzs u.tbls (λv i=>by
  obtain⟨l,f,d,a,j⟩:=i;rw[h]at a;cases a;exact⟨_,f,d,k,j⟩) g I.bare
theorem Inv.call{t':Nat}{d':Drawn}(I:Inv X pins σ H s)(u:Un (qi X.stack) ch H H' s.heap h')(i:HOk X.prog X.w H' h')(q:AllBare g')
  (d:∀b∈ch,(b∈X.ex\/X.s₀.heap.objs.size<=b)/\b≠X.env.locals/\(∀x c,X.env.cells.lookup x=some c->c≠b)/\∀p∈X.pn++pins,p.1≠b):
  Inv X pins σ H' { s with heap:=h',gens:=g',drawn:=d',toks:=t' }:=by
 obtain⟨m,⟨o,A,B,k,r⟩,_⟩:=id I.loc;obtain⟨C,j⟩:=u.any k I.free λz=>(d _ z).2.1 rfl;exact I.step d (λb o j l a e n=>u.keep b o e n (λz=>(aab.mp (I.j1 b z)).elim j l) a) (λb o _ _ a e n=>u.any e n a) (λb o a e n=>u.free b o e n a) (λb o a e=>u.there b o e a) u.tups u.frzs u.tbls (λD t=>by
  obtain⟨y,h,g,f,v⟩:=t;rw[k]at f;cases f;exact⟨_,h,g,j,v⟩) i q
theorem Inv.turned{t':Nat}(I:Inv X pins σ H s)(k:∀b o,b≠it->s.heap.get? b=some o->h'.get? b=some o)(i:H it=none)(f:it≠X.env.locals)
  (t:it∈X.ex\/X.s₀.heap.objs.size<=it) (h:∀x c,X.env.cells.lookup x=some c->c≠it) (A:∀p∈X.pn++pins,p.1≠it):Inv X pins σ H { s with heap:=h',toks:=t' }:=by
 have d:∀b u,H b=some u->b≠it:=λb u e z=>by rw[z,i]at e;cases e
 refine I.step (ch:=[it]) (λb g=>?_) (λb o _ _ a e _=>k b o (λz=>a (by simp[z])) e) (λb o _ _ a e _=>⟨o.slots,k b o (λz=>a (by simp[z])) e⟩) (λ_ _ _ _ n=>n)
  (λb o a e=>⟨o,k b o (λz=>a (by simp[z])) e⟩) (λ_ _ e=>e) (λ_ _ _ e=>e) (λb B e=>⟨#[],by rw[e];simp⟩) (λm j=>?_) (λb u e=>?_) I.bare
 ·have e:b=it:=by simpa using g
  subst e;exact⟨t,f,h,A⟩
 ·obtain⟨o,w,y,l,r⟩:=j;exact⟨o,w,y,k _ o (aaJ f) l,r⟩
 ·refine(I.hok b u e).g7 (λc v a q=>k c v ?_ q) (λ_ q=>q) λ_ _ q=>q;rcases a with z|z
  ·rw[z];exact d b u e
  ·exact d c _ z
theorem Inv.tok(I:Inv X pins σ H s)(t:Nat):Inv X pins σ H { s with toks:=t }:=I.un (h':=s.heap) (t':=t) Un.refl I.hok
theorem Inv.kept{t':Nat}(I:Inv X pins σ H s)(k:∀b u,s.heap.get? b=some u->h'.get? b=some u):Inv X pins σ H { s with heap:=h',toks:=t' }:=I.un (Un.kept k) (I.hok.kept k)
theorem Inv.laid{a:Addr}{o:HO}{t':Nat}(I:Inv X pins σ H s)(k:∀b u,s.heap.get? b=some u->h'.get? b=some u)(c:s.heap.objs.size<=a)(d:ObjOk X.prog X.w (upd H a o) h' a o):
  Inv X pins σ (upd H a o) { s with heap:=h',toks:=t' }:=I.un (Un.laid k c (I.hok.fresh c)) (I.hok.laid k c d)
theorem Inv.write{t':Nat}(I:Inv X pins σ H s)(f:BE (H x))(d:e=x\/H e=some (.own x))(k:∀b u,b≠e->s.heap.get? b=some u->h'.get? b=some u)(a:∃u,h'.get? e=some u)
  (c:ObjOk X.prog X.w (upd H x o) h' x o):Inv X pins σ (upd H x o) { s with heap:=h',toks:=t' }:=I.un (Un.write f d k a) (I.hok.write f d k a c)
theorem Inv.weak(I:Inv X pins σ H s)(d:σ'.length=σ.length)(w:∀(i:Nat) v,σ'[i]?=some (some v)->σ[i]?=some (some v)):Inv X pins σ' H s:=
 ⟨I.ok,I.os,I.bare,I.base,let ⟨m,e,a⟩:=I.loc;⟨m,e,λi x v f b c=>a i x v f (w i v b) c⟩,I.cell,I.free,I.freeC,I.pin,I.hok,d.trans I.len⟩
theorem Inv.n2(I:Inv X pins σ H s)(h:∀p∈pins',s.heap.get? p.1=some p.2/\H p.1=none/\p.1≠X.env.locals/\p.1 ∉ X.fs/\∀v,p.2.data≠.cell v):Inv X pins' σ H s:=
 ⟨I.ok,I.os,I.bare,I.base,I.loc,I.cell,I.free,I.freeC,λp a=>(aai.mp a).elim (λz=>I.pin p (aad _ z)) (h p),I.hok,I.len⟩
theorem jJ{N:List Str}(d:N.Nodup){i j:Nat}(a:N[i]?=some x)(b:N[j]?=some x):i=j:=by obtain⟨g,e⟩:=aao.mp a;obtain⟨f,c⟩:=aao.mp b;exact(List.getElem_inj d).mp (e.trans c.symm)
theorem hR{M:Model}{A:Around}{E:Value->Shared->Prop}(I:Inv X pins σ H s)(hN:X.N.Nodup)(hi:X.N[i]?=some x)(B:Loc X.env.scope x)(r:RelV v u)
  (h:∀s',Inv X pins (σ.set i (some v)) H s'->(∃a,Heap.SameBut a s.heap s'.heap/\(a=X.env.locals\/X.env.cells.lookup x=some a))->Q () s') (hf:X.fn x=true\/X.env.scope.names.lookup x=some .local:=by first|exact .inl rfl|exact .inr rfl|assumption):wpAny M A (storeName X.env x u) Q E s:=by
 obtain⟨m,hn,hl⟩:=id I.loc;have U:(X.env.scope.kind==.class||(X.env.scope.kind==.module&&X.env.locals !=X.env.globals))=false:=by rw[I.ok.kind];rfl
 have F:i<σ.length:=by rw[I.len];exact(aao.mp hi).1
 have O:=I.cne;have l:∀{a:Addr}{S:Heap},(∃o,s.heap.get? a=some o/\H a=none)->Heap.SameBut a s.heap S->HOk X.prog X.w H S:=λ{a S} ha f b ob e=>by
  obtain⟨_,_,C⟩:=ha;refine(I.hok b ob e).g7 (λc w' t q=>(f.2 c ?_).trans q) (λ_ q=>q) λ_ _ q=>q;rintro rfl;rcases t with rfl|t
  ·rw[C]at e;cases e
  ·rw[C]at t;cases t
 rcases B with G|G
 ·refine wpAny_storeName_local G hn (λS a1 f=>?_) U;obtain⟨oL,_,_,a0,_⟩:=id hn;refine h _ ⟨I.ok,I.os,I.bare,⟨λb o e n J B=>?_,λb o e n J B=>?_,I.base.free,λb o e B=>?_,I.base.tups,I.base.frzs,I.base.tbls⟩,⟨_,a1,λj y v' g D e3=>?_⟩,λy c e=>?_,I.free,I.freeC,λp hp=>?_,l ⟨oL,a0,I.free⟩ f,by simpa using I.len⟩ ⟨_,f,.inl rfl⟩
  ·exact(f.2 b (aam (aax (acn e) I.ok.above))).trans (I.base.keep b o e n J B)
  ·obtain⟨sl,g⟩:=I.base.slot b o e n J B;exact⟨sl,(f.2 b (aam (aax (acn e) I.ok.above))).trans g⟩
  ·obtain⟨o',g⟩:=I.base.there b o e B;exact⟨o',(f.2 b (aam (aax (acn e) I.ok.above))).trans g⟩
  ·by_cases P:j=i
   ·subst P;rw[hi]at g;cases g;rw[aaN F]at D;cases D;exact⟨u,r,.inl ⟨G,by simp⟩⟩
   ·rw[aaO (aaJ P)]at D;obtain⟨u',r',q⟩:=hl j y v' g D e3;refine⟨u',r',?_⟩;rcases q with ⟨k,e⟩|⟨k,c,e,z⟩
    ·refine .inl ⟨k,?_⟩;have:y≠x:=λe=>P (jJ hN g (e▸hi));simp[this,e]
    ·exact .inr ⟨k,c,e,z.sameBut f (O y c e)⟩
  ·obtain⟨w',z⟩:=I.cell y c e;exact⟨w',z.sameBut f (O y c e)⟩
  ·obtain⟨e,n,ne,nf,d⟩:=I.pin p hp;exact⟨(f.2 p.1 ne).trans e,n,ne,nf,d⟩
 ·have L:X.fn x=true:=by
   rcases hf with z|z
   ·exact z
   ·rw[z]at G;cases G
  obtain⟨c,t⟩:=I.ok.has x (.inl G);obtain⟨w',z⟩:=I.cell x c t;refine wpAny_storeName_cell I.ok.kind G t z (λS T f=>?_);obtain⟨oc,Y,Z⟩:=id z;refine h { s with heap:=S } ⟨I.ok,I.os,I.bare,⟨λb o e n J B=>?_,λb o e n J B=>?_,I.base.free,λb o e B=>?_,I.base.tups,I.base.frzs,I.base.tbls⟩,⟨m,hn.sameBut f (aaJ (O x c t)),λj y v' g D e3=>?_⟩,λy c' e=>?_,I.free,I.freeC,λp hp=>?_,l ⟨oc,Y,I.freeC x c t⟩ f,by simpa using I.len⟩ ⟨c,f,.inr t⟩
  ·exact(f.2 b (aam (aax (acn e) (I.ok.cab x c L t)))).trans (I.base.keep b o e n J B)
  ·obtain⟨sl,g⟩:=I.base.slot b o e n J B;exact⟨sl,(f.2 b (aam (aax (acn e) (I.ok.cab x c L t)))).trans g⟩
  ·obtain⟨o',g⟩:=I.base.there b o e B;exact⟨o',(f.2 b (aam (aax (acn e) (I.ok.cab x c L t)))).trans g⟩
  ·by_cases P:j=i
   ·subst P;rw[hi]at g;cases g;rw[aaN F]at D;cases D;exact⟨u,r,.inr ⟨.inl G,c,t,T⟩⟩
   ·rw[aaO (aaJ P)]at D;obtain⟨u',r',q⟩:=hl j y v' g D e3;refine⟨u',r',?_⟩;rcases q with q|⟨k,c',e,z'⟩
    ·exact .inl q
    ·refine .inr ⟨k,c',e,z'.sameBut f ?_⟩;rintro rfl;exact P (jJ hN g (I.ok.inj _ _ _ e t▸hi))
  ·by_cases W:c'=c
   ·subst W;exact⟨_,T⟩
   ·obtain⟨w2,z2⟩:=I.cell y c' e;exact⟨w2,z2.sameBut f W⟩
  ·obtain⟨e,n,ne,nf,d⟩:=I.pin p hp;refine⟨(f.2 p.1 ?_).trans e,n,ne,nf,d⟩;intro q;rw[q,Y]at e;have q':oc=p.2:=aaD e;exact d w' (by rw[<-q'];exact Z)
theorem bt{M:Model}{A:Around}{E:Value->Shared->Prop}(I:Inv X pins σ H s)(c:X.N.Nodup)(hi:X.N[i]?=some x)(d:Loc X.env.scope x)(r:RelV v u)
  (h:∀a,Inv X pins (σ.set i (some v)) H a->Q () a) (b:X.fn x=true\/X.env.scope.names.lookup x=some .local:=by first|exact .inl rfl|exact .inr rfl|assumption):wpAny M A (storeName X.env x u) Q E s:=
 hR I c hi d r (λa e _=>h a e) b
theorem Inv.call'(I:Inv X pins σ H s)(h:s'.os=s.os)(u:Un (qi X.stack) ch H H' s.heap s'.heap)(d:HOk X.prog X.w H' s'.heap)(f:AllBare s'.gens)
  (a:∀b∈ch,(b∈X.ex\/X.s₀.heap.objs.size<=b)/\b≠X.env.locals/\(∀x c,X.env.cells.lookup x=some c->c≠b)/\∀p∈X.pn++pins,p.1≠b):Inv X pins σ H' s':=by
 obtain⟨k,l,i,j,g⟩:=s';have e:g=s.os:=h;subst e;exact I.call u d f a
end
abbrev XK:=Value->Option Addr->Hp->Prop
abbrev St:=List (Option V)
abbrev VK:=V->Hp->Prop
abbrev TE:=St->Hp->VK->Prop
abbrev TT:=St->Hp->(Bool->Hp->Prop)->Prop
abbrev TA:=St->Hp->(List V->Hp->Prop)->Prop
structure Ends where
 nx:St->Hp->Prop
 rt:VK
 bk:St->Hp->Prop:=λ_ _=>False
 ct:St->Hp->Prop:=λ_ _=>False
abbrev TS:=Ends->St->Hp->Prop
def EP(X:Cx)(a:List (Addr×Obj))(σ:St)(Q:VK)(u:Value)(c:Shared):Prop:=∃v b,Inv X a σ b c/\RelV v u/\Q v b
def TP(X:Cx)(a:List (Addr×Obj))(σ:St)(Q:Bool->Hp->Prop)(b:Bool)(d:Shared):Prop:=∃c,Inv X a σ c d/\Q b c
def AP(X:Cx)(a:List (Addr×Obj))(σ:St)(Q:List V->Hp->Prop)(us:List Value)(d:Shared):Prop:=∃b c,Inv X a σ c d/\Vals b us/\Q b c
def SP(X:Cx)(b:List (Addr×Obj))(D:Ends)(f:Flow)(d:Shared):Prop:=
 match f with
 |.next=>∃a c,Inv X b a c d/\D.nx a c
 |.brk=>∃a c,Inv X b a c d/\D.bk a c
 |.cont=>∃a c,Inv X b a c d/\D.ct a c
 |.ret u=>∃v a c,Inv X b a c d/\RelV v u/\D.rt v c
def PE(X:Cx)(e:Expr)(t:TE):Prop:=
 ∀(a:List (Addr×Obj)) (s:Shared) (b:St) (H:Hp) (Q:VK),Inv X a b H s->t b H Q->wpAny (model X.prog X.w) X.A (eval e X.env) (EP X a b Q) X.xe s
def PT(X:Cx)(e:Expr)(t:TT):Prop:=
 ∀(a:List (Addr×Obj)) (s:Shared) (b:St) (H:Hp) (Q:Bool->Hp->Prop),Inv X a b H s->t b H Q->wpAny (model X.prog X.w) X.A (isTrue e X.env (eval e X.env)) (TP X a b Q) X.xe s
def PW(X:Cx)(e:Expr)(t:TT):Prop:=
 ∀(b:Sem Value) (a:List (Addr×Obj)) (s:Shared) (c:St) (H:Hp) (Q:Bool->Hp->Prop),Inv X a c H s->t c H Q->wpAny (model X.prog X.w) X.A (isTrue e X.env b) (TP X a c Q) X.xe s
theorem PW.pt(h:PW X e t):PT X e t:=h _
def PA(X:Cx)(es:List Expr)(t:TA):Prop:=
 ∀(c:Pos) (a:List (Addr×Obj)) (s:Shared) (b:St) (H:Hp) (Q:List V->Hp->Prop),Inv X a b H s->t b H Q->wpAny (model X.prog X.w) X.A (spliced (backTo c (starEach es X.env))) (AP X a b Q) X.xe s
def PS(X:Cx)(st:Stmt)(t:TS):Prop:=
 ∀(a:List (Addr×Obj)) (s:Shared) (b:St) (H:Hp) (D:Ends),Inv X a b H s->t D b H->wpAny (model X.prog X.w) X.A (exec st X.env) (SP X a D) X.xe s
def PSs(X:Cx)(st:List Stmt)(t:TS):Prop:=
 ∀(a:List (Addr×Obj)) (s:Shared) (b:St) (H:Hp) (D:Ends),Inv X a b H s->t D b H->wpAny (model X.prog X.w) X.A (execs st X.env) (SP X a D) X.xe s
theorem thn{c:Type}{t:Sem c}{Q b:c->Shared->Prop}{A:Around}(h:wpAny M A t Q E s)(d:∀a s,Q a s->b a s):wpAny M A t b E s:=acr h d λ_ _ x=>x
end
section
section
variable{X:Cx}
def tVar(i:Nat):TE:=λa H Q=>∃v,a[i]?=some (some v)/\Q v H
def tC(v:V):TE:=λ_ H Q=>Q v H
theorem cn{pos:Pos} (p:X.N[i]?=some x) (o:Vis X.env.scope x) (g:(x==("__debug__":Str))=false:=by decide) (j:(x==("__classdict__":Str))=false:=by decide):PE X (.Name x pos) (tVar i):=by
 intro f s w H Q I h;obtain⟨v,e,h⟩:=h;obtain⟨m,n,t⟩:=I.loc;obtain⟨u,r,l⟩:=t i x v p e o;have d:EP X f w Q u s:=⟨v,H,I,r,h⟩
 rcases l with ⟨b,q⟩|⟨b,c,k,a⟩
 ·exact wpAny_Name (wpAny_loadName_local I.ok.kind b n q d) g
 ·rcases b with b|b
  ·exact wpAny_Name (wpAny_loadName_cell I.ok.kind b k a d) g
  ·exact wpAny_Name (wpAny_loadName_free I.ok.kind b k a d j) g
theorem iN{i j pos}:PE X (.Constant (.int i) j pos) (tC (.int i)):=λ_ _ _ H _ I h=>wpAny_Constant_int ⟨.int i,H,I.tok _,⟨_,rfl⟩,h⟩
theorem BF{b j pos}:PE X (.Constant (.bool b) j pos) (tC (.bl b)):=λ_ _ _ H _ I h=>Constant_bool ⟨.bl b,H,I,rfl,h⟩
theorem yE{j pos}:PE X (.Constant .none j pos) (tC .non):=λ_ _ _ H _ I h=>Constant_none ⟨.non,H,I,rfl,h⟩
theorem iO{x j pos}:PE X (.Constant (.str x) j pos) (tC (.str x)):=λ_ _ _ H _ I h=>Calls.Constant_str ⟨.str x,H,I.tok _,⟨_,rfl⟩,h⟩
def Gl(X:Cx)(x:Str):Prop:=X.env.kindOf x=some .globalImplicit
theorem my{E:Value->Shared->Prop}{pos:Pos}(I:Inv X pins σ H s)(a:Gl X x)(c:X.mg x=some u)(h:Q u s)
  (b:(x==("__debug__":Str))=false:=by decide):wpAny (model X.prog X.w) X.A (eval (.Name x pos) X.env) Q E s:=
 acU I.ok.kind a (Calls.loadGlobal_global (by rw[I.ok.glob];exact I.mod.glob.keeps I.bk) c h) b
theorem eF{E:Value->Shared->Prop}{a:List (Addr×Obj)}{s:Shared}{pos:Pos}(I:Inv X a σ H s)(b:Gl X x)(i:X.mg x=none)(e:bootBuiltins x=some u)(h:Q u s)
  (d:x≠"__name__":=by decide) (f:(x==("__debug__":Str))=false:=by decide):wpAny (model X.prog X.w) X.A (eval (.Name x pos) X.env) Q E s:=by
 obtain⟨j,g,c⟩:=I.mod.blt;exact acU I.ok.kind b (Calls.loadGlobal_builtin (by rw[I.ok.glob];exact I.mod.glob.keeps I.bk) i (by rw[I.ok.blt];exact g.keeps I.bk) ((c x d).trans e) h) f
theorem iP{pos:Pos} (a:Gl X x) (c:X.mg x=some u) (r:RelV v u) (b:(x==("__debug__":Str))=false:=by decide):PE X (.Name x pos) (tC v):=
 λ_ _ _ H _ I h=>my I a c ⟨v,H,I,r,h⟩ b
theorem uR{pos:Pos} (a:Gl X x) (e:X.mg x=none) (c:bootBuiltins x=some u) (r:RelV v u) (b:x≠"__name__":=by decide) (d:(x==("__debug__":Str))=false:=by decide):PE X (.Name x pos) (tC v):=
 λ_ _ _ H _ I h=>eF I a e c ⟨v,H,I,r,h⟩ b d
def PC(X:Cx)(g:CmpOp)(a b:Expr)(t:TE):Prop:=
 ∀(c:List (Addr×Obj)) (s:Shared) (f:St) (H:Hp) (Q:VK),Inv X c f H s->t f H Q ->
  wpAny (model X.prog X.w) X.A (eval a X.env) (λv d=>wpAny (model X.prog X.w) X.A (eval b X.env) (λu e=>wpAny (model X.prog X.w) X.A (compareOp g v u) (EP X c f Q) X.xe e) X.xe d) X.xe s
theorem nobehind(b:Expr)(h:op≠.In)(c:op≠.NotIn):behindInMarks op b=false:=by
 have d:(op==CmpOp.In)=false:=by cases op<;>first|rfl|exact absurd rfl h
 have a:(op==CmpOp.NotIn)=false:=by cases op<;>first|rfl|exact absurd rfl c
 cases b<;>simp[behindInMarks,d,a]
def Fc(a:TE):TE:=λb H Q=>a b H λx c=>Q (.bl (decide (x=.non))) c
def BG(a:TE):TE:=λb H Q=>a b H λx c=>Q (.bl (!decide (x=.non))) c
theorem RelV.kq{x:V}{v:Value}(r:RelV x v):(v==Value.none)=decide (x=.non):=by
 cases x with
 |non=>cases r;rfl
 |bl _=>cases r;rfl
 |int _=>obtain⟨t,rfl⟩:=r;rfl
 |str _=>obtain⟨t,rfl⟩:=r;rfl
 |byt _=>obtain⟨t,rfl⟩:=r;rfl
 |flt _=>obtain⟨t,rfl⟩:=r;rfl
 |ref _=>cases r;rfl
 |ty _=>cases r;rfl
theorem qj{j pos'}(i:PE X a ta):PC X .Is a (.Constant .none j pos') (Fc ta):=by intro b s d H Q I h;refine thn (i b s d H _ I h) λv l f=>?_;obtain⟨x,e,k,g,c⟩:=f;exact Constant_none (is_none_gen ⟨.bl _,e,k,by rw[g.kq];rfl,c⟩)
theorem mz{j pos'}(i:PE X a ta):PC X .IsNot a (.Constant .none j pos') (BG ta):=by intro b s d H Q I h;refine thn (i b s d H _ I h) λv l f=>?_;obtain⟨x,e,k,g,c⟩:=f;exact Constant_none (isnot_none_gen ⟨.bl _,e,k,by rw[g.kq];rfl,c⟩)
def tB(t:TE):TT:=λa H Q=>t a H λx b=>∃c,x=.bl c/\Q c b
theorem eG(h:PC X op a b t)(f:behindInMarks op b=false:=by first|exact nobehind _ (by decide) (by decide)|rfl):PE X (.Compare a [op] [b] pos) t:=λc s d H Q I e=>wpAny_Compare1 (h c s d H Q I e) f
theorem eI{g:CmpOp}{t:TE}(h:PC X g a b t)(f:behindInMarks g b=false:=by first|exact nobehind _ (by decide) (by decide)|rfl):PT X (.Compare a [g] [b] pos) (tB t):=by intro e s m H Q I o;refine wpAny_isTrue_Compare1 (thn (h e s m H _ I o) λv r f=>thn f λu y i=>thn i λc w n=>?_) f;obtain⟨x,l,p,j,k⟩:=n;obtain⟨d,rfl,q⟩:=k;cases j;exact acv ⟨l,p,q⟩
variable{rest:List Expr}
def Fd(t u:TT):TT:=λa H Q=>t a H λc b=>if c=true then u a b Q else Q false b
def HC(t u:TT):TT:=λa H Q=>t a H λc b=>if c=true then Q true b else u a b Q
def Fe(t:TT):TT:=λa H Q=>t a H λc b=>Q (!c) b
theorem uS(f:PT X a tA):PW X (.BoolOp .And [a] pos) tA:=by
 intro g b s d H Q I h;refine isTrue_and (thn (f b s d H Q I h) λc i e=>?_);cases c with
 |true=>exact isTrue_and_nil e
 |false=>exact e
theorem yF(f:PT X a tA):PW X (.BoolOp .Or [a] pos) tA:=by
 intro g b s d H Q I h;refine isTrue_or (thn (f b s d H Q I h) λc i e=>?_);cases c with
 |false=>exact isTrue_or_nil e
 |true=>exact e
theorem yG(m:PT X a tA)(k:PW X (.BoolOp .And (b::rest) pos) tB'):PW X (.BoolOp .And (a::b::rest) pos) (Fd tA tB'):=by
 intro j d s f H Q I h;refine isTrue_and (thn (m d s f H _ I h) λc n l=>?_);obtain⟨g,i,e⟩:=l;cases c with
 |true=>exact k j d n f g Q i e
 |false=>exact⟨g,i,e⟩
theorem BH(m:PT X a tA)(k:PW X (.BoolOp .Or (b::rest) pos) tB'):PW X (.BoolOp .Or (a::b::rest) pos) (HC tA tB'):=by
 intro j d s f H Q I h;refine isTrue_or (thn (m d s f H _ I h) λc n l=>?_);obtain⟨g,i,e⟩:=l;cases c with
 |true=>exact⟨g,i,e⟩
 |false=>exact k j d n f g Q i e
theorem yH(f:PT X a tA):PT X (.UnaryOp .Not a pos) (Fe tA):=by intro b s d H Q I h;exact isTrue_not (f b s d H (λc e=>Q (!c) e) I h)
def BI(d e:TE):TE:=λa H Q=>d a H λx b=>∃c,x=.bl c/\if c=true then e a b Q else Q (.bl false) b
def Fg(d e:TE):TE:=λa H Q=>d a H λx b=>∃c,x=.bl c/\if c=true then Q (.bl true) b else e a b Q
def BJ(a:TE):TE:=λb H Q=>a b H λx d=>∃c,x=.bl c/\Q (.bl (!c)) d
theorem yI{c}(h:PE X a t):PE X (.BoolOp c [a] pos) t:=λb s d H Q I e=>BoolOp_one (h b s d H Q I e)
theorem yJ(l:PE X a ta)(j:PE X (.BoolOp .And (b::rest) pos) tb):PE X (.BoolOp .And (a::b::rest) pos) (BI ta tb):=by
 intro d s g H Q I h;refine BoolOp_and (thn (l d s g H _ I h) λv m n=>?_);obtain⟨x,f,i,k,e⟩:=n;obtain⟨c,rfl,e⟩:=e;cases k;refine acv ?_;cases c with
 |true=>exact j d m g f Q i e
 |false=>exact⟨.bl false,f,i,rfl,e⟩
theorem BK(l:PE X a ta)(j:PE X (.BoolOp .Or (b::rest) pos) tb):PE X (.BoolOp .Or (a::b::rest) pos) (Fg ta tb):=by
 intro d s g H Q I h;refine BoolOp_or (thn (l d s g H _ I h) λv m n=>?_);obtain⟨x,f,i,k,e⟩:=n;obtain⟨c,rfl,e⟩:=e;cases k;refine acv ?_;cases c with
 |false=>exact j d m g f Q i e
 |true=>exact⟨.bl true,f,i,rfl,e⟩
theorem yK(j:PE X a ta):PE X (.UnaryOp .Not a pos) (BJ ta):=by intro b s e H Q I h;refine UnaryOp_ (thn (j b s e H _ I h) λv l g=>?_);obtain⟨x,f,k,i,d⟩:=g;obtain⟨c,rfl,d⟩:=d;cases i;exact not_of (acv ⟨.bl (!c),f,k,rfl,d⟩)
def HD(t:TT)(d e:TE):TE:=λa H Q=>t a H λc b=>if c=true then d a b Q else e a b Q
theorem qk{c:Expr}(m:PT X c tA)(o:PE X a ta)(l:PE X b tb):PE X (.IfExp c a b pos) (HD tA ta tb):=by
 intro e s f H Q I h;refine wpAny_IfExp (thn (m e s f H _ I h) λd k n=>?_);obtain⟨i,j,g⟩:=n;cases d with
 |true=>exact o e k f i Q j g
 |false=>exact l e k f i Q j g
end
end
section
def SqL(K:Waa)(H:Hp)(a:Addr)(xs:List V):Prop:=
 Rd H a (.lst xs) \/
  ∃(o:Obj) (b:Array Value) (n:Nat),K.lookup a=some o/\o.cls=.type "list"/\o.dict=none/\o.data=.seq b n/\b.size<=sizeLine/\Vals xs b.toList
def SqT(K:Waa)(H:Hp)(a:Addr)(xs:List V):Prop:=
 Rd H a (.tup xs) \/
  ∃(o:Obj) (b:Array Value) (n:Nat),K.lookup a=some o/\o.cls=.type "tuple"/\o.dict=none/\o.data=.seq b n/\b.size<=sizeLine/\Vals xs b.toList
def Fh:Value->Option V
 |.none=>some .non
 |.bool b=>some (.bl b)
 |.int i _=>some (.int i)
 |.str x _=>some (.str x)
 |.bytes b _=>some (.byt b)
 |.float b _=>some (.flt b)
 |.ref a=>some (.ref a)
 |.type n=>some (.ty n)
 |_=>none
theorem RelV.abs(r:RelV x u):Fh u=some x:=by
 cases x with
 |non=>cases r;rfl
 |bl _=>cases r;rfl
 |int _=>obtain⟨t,rfl⟩:=r;rfl
 |str _=>obtain⟨t,rfl⟩:=r;rfl
 |byt _=>obtain⟨t,rfl⟩:=r;rfl
 |flt _=>obtain⟨t,rfl⟩:=r;rfl
 |ref _=>cases r;rfl
 |ty _=>cases r;rfl
theorem RelV.inj{x y:V}{u:Value}(r:RelV x u)(q:RelV y u):x=y:=aaD (r.abs.symm.trans q.abs)
theorem Vals.inj{xs ys:List V}{us:List Value}(h:Vals xs us)(h':Vals ys us):xs=ys:=by
 induction us generalizing xs ys with
 |nil=>cases h;cases h';rfl
 |cons u us c=>cases h with|cons r t=>cases h' with|cons a b=>rw[r.inj a,c t b]
theorem SqL.of{K:Waa}(h:H a=some (.lst xs)):SqL K H a xs:=.inl (.inl h)
theorem SqT.of{K:Waa}(h:H a=some (.tup xs)):SqT K H a xs:=.inl (.inl h)
theorem Inv.list(I:Inv X pins σ H s)(h:SqL X.K H a xs):∃b:List Value,Vals xs b/\PlainL s.heap a b.toArray/\xs.length<=sizeLine:=by
 rcases h with h|⟨o,b,n,g,c,d,f,i,r⟩
 ·obtain⟨z,b,n,r,e⟩:=h.ok I.hok;exact⟨b,r,⟨_,n,e,rfl,rfl,rfl⟩,z⟩
 ·refine⟨b.toList,r,⟨o,n,I.pe a o g,c,d,by simpa using f⟩,?_⟩;have e:=r.length;simp only[aa6]at e;omega
theorem Inv.tuple(I:Inv X pins σ H s)(h:SqT X.K H a xs):∃b:List Value,Vals xs b/\IsTup s.heap a b.toArray/\xs.length<=sizeLine:=by
 rcases h with h|⟨o,b,n,i,f,_,g,j,r⟩
 ·obtain⟨z,b,r,o,e,c,n,d,_⟩:=h.ok I.hok;exact⟨b,r,⟨o,e,c,n,d⟩,z⟩
 ·refine⟨b.toList,r,⟨o,I.pe a o i,f,n,by simpa using g⟩,?_⟩;have e:=r.length;simp only[aa6]at e;omega
theorem Inv.l4(I:Inv X pins σ H s)(h:SqL X.K H a xs)(h':SqL X.K H a ys):xs=ys:=by
 obtain⟨c,r,⟨o,n,e,_,_,d⟩,_⟩:=I.list h;obtain⟨b,i,⟨j,k,f,_,_,g⟩,_⟩:=I.list h';rw[e]at f;cases f;rw[d]at g;injection g with d1 _;have:c=b:=by simpa using congrArg Array.toList d1
 subst this;exact r.inj i
theorem Inv.tupN(I:Inv X pins σ H s)(h:SqT X.K H a xs):∃o,s.heap.get? a=some o/\o.cls=.type "tuple"/\o.dict=none:=by
 rcases h with h|⟨o,b,n,i,f,g,k,j,r⟩
 ·obtain⟨_,_,_,o,e,c,_,_,d⟩:=h.ok I.hok;exact⟨o,e,c,d⟩
 ·exact⟨o,I.pe a o i,f,g⟩
theorem Inv.n3(I:Inv X pins σ H s)(h:SqT X.K H a xs)(h':SqT X.K H a ys):xs=ys:=by
 obtain⟨c,r,⟨o,e,_,n,d⟩,_⟩:=I.tuple h;obtain⟨b,i,⟨j,f,_,k,g⟩,_⟩:=I.tuple h';rw[e]at f;cases f;rw[d]at g;injection g with d1 _;have:c=b:=by simpa using congrArg Array.toList d1
 subst this;exact r.inj i
abbrev Cx.ft(X:Cx)(E:Value->Shared->Prop):Cx:={ X with xe:=E }
abbrev Cx.q7(X:Cx):Cx:=X.ft λ_ _=>False
theorem Cx.Ok.ft{X:Cx}(a:X.Ok)(E:Value->Shared->Prop):(X.ft E).Ok:=
 ⟨a.mod,a.kind,a.glob,a.blt,a.above,a.inj,a.has,a.cab,a.hd,a.frames,a.stk,a.exf,a.bs,a.bsz,a.noex,a.exfs,a.funs,a.frf⟩
theorem Cx.Ok.c8{X:Cx}(a:(X.ft E).Ok):X.Ok:=
 ⟨a.mod,a.kind,a.glob,a.blt,a.above,a.inj,a.has,a.cab,a.hd,a.frames,a.stk,a.exf,a.bs,a.bsz,a.noex,a.exfs,a.funs,a.frf⟩
theorem Inv.ft(I:Inv X pins σ H s)(E:Value->Shared->Prop):Inv (X.ft E) pins σ H s:=⟨I.ok.ft E,I.os,I.bare,I.base,I.loc,I.cell,I.free,I.freeC,I.pin,I.hok,I.len⟩
theorem Inv.c8(I:Inv (X.ft E) pins σ H s):Inv X pins σ H s:=⟨I.ok.c8,I.os,I.bare,I.base,I.loc,I.cell,I.free,I.freeC,I.pin,I.hok,I.len⟩
theorem SP.c8{D:Ends}(h:SP (X.ft E) pins D f s'):SP X pins D f s':=by
 cases f with
 |next=>obtain⟨a,b,I,q⟩:=h;exact⟨a,b,I.c8,q⟩
 |brk=>obtain⟨a,b,I,q⟩:=h;exact⟨a,b,I.c8,q⟩
 |cont=>obtain⟨a,b,I,q⟩:=h;exact⟨a,b,I.c8,q⟩
 |ret u=>obtain⟨v,a,b,I,r,q⟩:=h;exact⟨v,a,b,I.c8,r,q⟩
theorem PE.q7(h:PE X.q7 e t):PE X e t:=λa s b H Q I c=>
 acr (h a s b H Q (I.ft _) c) (λ_ _ ⟨v,d,f,r,q⟩=>⟨v,d,f.c8,r,q⟩) λ_ _ z=>False.elim z
theorem PT.q7(h:PT X.q7 e t):PT X e t:=λa s b H Q I c=>
 acr (h a s b H Q (I.ft _) c) (λ_ _ ⟨d,f,q⟩=>⟨d,f.c8,q⟩) λ_ _ z=>False.elim z
theorem PSs.q7{st:List Stmt}(h:PSs X.q7 st t):PSs X st t:=λa s b H D I c=>
 acr (h a s b H D (I.ft _) c) (λ_ _ q=>q.c8) λ_ _ z=>False.elim z
section
variable{st:Stmt}{rest:List Stmt}
def tNext:TS:=λD a H=>D.nx a H
def Fi(t u:TS):TS:=λD a H=>t { D with nx:=u D } a H
theorem uT:PSs X [] tNext:=λ_ _ a H _ I h=>wpAny_execs_nil ⟨a,H,I,h⟩
theorem ql(c:PS X st t)(e:PSs X rest u):PSs X (st::rest) (Fi t u):=by
 intro a s g H D I h;refine wpAny_execs_cons (thn (c a s g H { D with nx:=u D } I h) λf j q=>?_);cases f with
 |next=>obtain⟨b,i,d,q⟩:=q;exact e a j b i D d q
 |ret v=>exact q
 |brk=>exact q
 |cont=>exact q
def tCont:TS:=λD a H=>D.ct a H
theorem jK:PS X (.Continue pos) tCont:=λ_ _ a H _ I h=>wpAny_Continue ⟨a,H,I,h⟩
theorem Inv.quiet{a:List (Addr×Obj)}{σ:St}(I:Inv X a σ H s):interactive X.env=false:=by simp[interactive,I.ok.kind]
def BL(c:TE):TS:=λD a H=>c a H λ_ b=>D.nx a b
theorem mB(c:PE X e te)(g:swapsWith e none pos.line X.env=pure false:=by rfl):PS X (.Expr e pos) (BL te):=by intro a s b H D I h;exact wpAny_Expr_any (thn (c a s b H _ I h) λv k ⟨x,f,i,j,d⟩=>⟨b,f,i,d⟩) I.quiet g
def Fj(a:TE):TS:=λD b H=>a b H D.rt
theorem yL(c:PE X e te):PS X (.Return (some e) pos) (Fj te):=by intro a s b H D I h;exact wpAny_Return_some (thn (c a s b H _ I h) λv j ⟨x,f,i,g,d⟩=>⟨x,b,f,i,g,d⟩)
def Fk(c:TT)(t u:TS):TS:=λD a H=>c a H λb d=>if b=true then t D a d else u D a d
theorem BM{c:Expr}{a b:List Stmt}{tc:TT}(m:PT X c tc)(n:PSs X a t)(l:PSs X b u):PS X (.If c a b pos) (Fk tc t u):=by
 intro e s f H D I h;refine wpAny_If (thn (m e s f H _ I h) λd j o=>?_);obtain⟨i,k,g⟩:=o;cases d with
 |true=>exact n e j f i D k g
 |false=>exact l e j f i D k g
def tNever:TS:=λ_ _ _=>False
theorem qm:PS X st tNever:=λ_ _ _ _ _ _ h=>h.elim
end
abbrev TG:=V->St->Hp->(St->Hp->Prop)->Prop
abbrev TGs:=List V->St->Hp->(St->Hp->Prop)->Prop
def PG(X:Cx)(a:Expr)(t:TG):Prop:=
 ∀(b:List (Addr×Obj)) (s:Shared) (d:St) (H:Hp) (v:V) (u:Value) (Q:St->Hp->Prop),Inv X b d H s->RelV v u->t v d H Q ->
  wpAny (model X.prog X.w) X.A (assign a X.env u) (λ_ f=>∃c e,Inv X b c e f/\Q c e) X.xe s
def yM(X:Cx)(g:List Expr)(t:TGs):Prop:=
 ∀(a:List (Addr×Obj)) (s:Shared) (d:St) (H:Hp) (vs:List V) (c:List Value) (Q:St->Hp->Prop),Inv X a d H s->Vals vs c->t vs d H Q ->
  wpAny (model X.prog X.w) X.A (assignInOrder ((assignEach g X.env).map (·.2)) c) (λ_ f=>∃b e,Inv X a b e f/\Q b e) X.xe s
abbrev yN:=V->V->V->Hp->(Hp->Prop)->Prop
def PSet(X:Cx)(t:yN):Prop:=
 ∀(a:List (Addr×Obj)) (s:Shared) (b:St) (H:Hp) (o i v:V) (e c u:Value) (Q:Hp->Prop),Inv X a b H s->RelV o e->RelV i c->RelV v u->t o i v H Q ->
  wpAny (model X.prog X.w) X.A (setItem e c u) (λ_ f=>∃d,Inv X a b d f/\Q d) X.xe s
abbrev TIp:=V->V->Hp->VK->Prop
def BN(X:Cx)(c:Operator)(t:TIp):Prop:=
 ∀(a:List (Addr×Obj)) (s:Shared) (b:St) (H:Hp) (x y:V) (v u:Value) (Q:VK),Inv X a b H s->RelV x v->RelV y u->t x y H Q ->
  wpAny (model X.prog X.w) X.A (inplaceOp c v u) (EP X a b Q) X.xe s
def fW(i:Nat):TG:=λv a H Q=>Q (a.set i (some v)) H
theorem uU(c:X.N.Nodup)(hi:X.N[i]?=some x)(d:Loc X.env.scope x)(b:X.fn x=true\/X.env.scope.names.lookup x=some .local:=by first|exact .inl rfl|exact .inr rfl|assumption):PG X (.Name x pos) (fW i):=by intro a s g H v u Q I r h;exact wpAny_assign_Name (bt I c hi d r (λf e=>⟨_,H,e,h⟩) b)
def gNil:TGs:=λa b H Q=>a=[]/\Q b H
def BO(t:TG)(u:TGs):TGs:=λb c H Q=>∃v r,b=v::r/\t v c H λa d=>u r a d Q
theorem uV:yM X [] gNil:=by intro a s b H d c Q I r h;obtain⟨e,h⟩:=h;subst e;cases r;exact assignInOrder_nil ⟨b,H,I,h⟩
theorem qo{e:Expr}{es:List Expr}(g:PG X e t)(c:yM X es u)
  (f:(assignEach (e::es) X.env).map (·.2)=assign e X.env::(assignEach es X.env).map (·.2):=by rfl):yM X (e::es) (BO t u):=by
 intro a s l H w p Q I r h;obtain⟨v,q,d,h⟩:=h;subst d;cases r with
 |cons r o=>rw[f];refine acA (thn (g a s l H _ _ _ I r h) λ_ k m=>?_);obtain⟨b,j,n,i⟩:=m;exact c a k b j _ _ Q n o i
def Fm(K:Waa)(n:Nat)(t:TGs):TG:=λv c H Q=>∃a b,v=.ref a/\SqT K H a b/\b.length=n/\t b c H Q
theorem yO{k:Nat}(m:X.calm=true)(h:yM X es t)
  (j:(assignEach es X.env).length=n:=by rfl) (d:(assignEach es X.env).findIdx? (·.1)=none:=by rfl):PG X (.Tuple es k pos) (Fm X.K n t):=by
 intro c s i H v u Q I r f;obtain⟨a,x,p,y,w,f⟩:=f;subst p;cases r;obtain⟨q,g,l,C⟩:=I.tuple y;refine assign_Tuple_tuple (I.ok.hd m) l (by simp[j,<-w,g.length]) d λz B=>?_;have A:Inv X c i H { s with heap:=z }:=I.kept λb o e=>B b o (aam (acn e)) e;exact h c _ i H x _ Q A (by simpa using g) f
def Fo(e f:TE)(t:yN):TG:=λv a H Q=>e a H λo d=>f a d λi b=>t o i v b λc=>Q a c
theorem qp{o i:Expr}{g f:TE}{t:yN}(k:PE X o g)(hi:PE X i f)(m:PSet X t)
  (z:∀v,assign (.Subscript o i pos) X.env v=(do
   let b <-holding [v] (eval o X.env)
   let c <-holding [v,b] (eval i X.env)
   standAt pos
   holding [v,b,c] (setItem b c v)
   release [v,b,c] []):=by intro _;rfl):PG X (.Subscript o i pos) (Fo g f t):=by
 intro a s e H v u Q I r h;rw[z];refine acl (acs (thn (k a s e H _ I h) λb A d=>?_));obtain⟨x,q,D,n,p⟩:=d;refine acl (acs (thn (hi a A e q _ D p) λc G d=>?_));obtain⟨y,B,l,C,J⟩:=d;refine acl (acu (acl (acs (thn (m a G e B x y v b c u _ l n C r J) λ_ L d=>?_))));obtain⟨j,w,F⟩:=d;exact wpAny_release ⟨e,j,w,F⟩
def kH(c:TE)(g:TG):TS:=λD a H=>c a H λx b=>g x a b D.nx
theorem qq{b e:Expr}{c:TE}{g:TG}(i:PE X e c)(f:PG X b g)(j:swapsWithSole [b] e pos.line X.env=pure false:=by rfl)(r:swappedStores [b] e X.env=pure none:=by rfl)
  (l:(assignEach [b] X.env).map (·.2)=[assign b X.env]:=by rfl):PS X (.Assign [b] e pos) (kH c g):=by
 intro a s d H D I h;refine wpAny_Assign_stores (thn (i a s d H _ I h) λv o p=>?_) j r;obtain⟨x,n,t,k,m⟩:=p;rw[l];exact thn (f a o d n x v _ t k m) λ_ u q=>q
theorem yP{i:Nat}{x:Str}(b:X.N.Nodup)(hi:X.N[i]?=some x)(p:Loc X.env.scope x)(c:PE X e te)(f:swapsWith e (some (.Name x pos')) pos.line X.env=pure false:=by rfl)(k:X.fn x=true\/X.env.scope.names.lookup x=some .local:=by first|exact .inl rfl|exact .inr rfl|assumption):
  PS X (.Assign [.Name x pos'] e pos) (kH te (fW i)):=by
 intro a s m H D I h;refine wpAny_Assign_Name (thn (c a s m H _ I h) λv q n=>?_) f;obtain⟨y,l,o,g,j⟩:=n;exact bt o b hi p g (λr d=>⟨_,l,d,j⟩) k
def Fp(i j:Nat)(b:TA):TS:=λD a H=>b a H λc d=>∃v w,c=[v,w]/\D.nx ((a.set i (some v)).set j (some w)) d
theorem yQ{i j:Nat}{x y:Str}{u t d}(M:X.calm=true)(z:X.N.Nodup)(hi:X.N[i]?=some x)(hj:X.N[j]?=some y)(n:i≠j)
  (J:X.env.scope.names.lookup x=some .local) (C:X.env.scope.names.lookup y=some .local) (Y:PA X [a,b] ta)
  (hw:swappedStores [.Tuple [.Name x px,.Name y py] u pt] (.Tuple [a,b] t d) X.env=pure (some [x,y]))
  (Q:swapsWithSole [.Tuple [.Name x px,.Name y py] u pt] (.Tuple [a,b] t d) pos.line X.env=pure false:=by rfl):
  PS X (.Assign [.Tuple [.Name x px,.Name y py] u pt] (.Tuple [a,b] t d) pos) (Fp i j ta):=by
 intro c s F H D I h;rw[exec_Assign_arm];refine acl (acu ?_);rw[Q];refine acl (acm ?_);rw[if_neg (by decide)];refine acl (Tuple_ (thn (Y _ c s F H _ I h) λL k hZ=>?_));obtain⟨vs,B,I1,S,r⟩:=hZ;obtain⟨v,w,O,r⟩:=r;subst O;obtain⟨f,g,rfl,Z,m⟩:∃f g,L=[f,g]/\RelV v f/\RelV w g:=by
  cases S with
  |cons p q=>
   cases q with
   |cons p' U=>cases U;exact⟨_,_,rfl,p,p'⟩
 refine acw ?_ (by show 2<=sizeLine;decide);have P:Inv X c F B { k with heap:=k.heap.push { cls:=.type "tuple",data:=.seq [f,g].toArray } }:=I1.kept λb o e=>aco _ e;rw[hw];refine acl (acm ?_);show wpAny (model X.prog X.w) X.A (do rule "assign.swapped-stores";let items <-unpackItems (.ref k.heap.objs.size) 2 none;assignInOrder [λv=>bindName X.env y v,λv=>bindName X.env x v] items.reverse;pure Flow.next) _ _ _;refine acl (acB (acl (unpackItems_tuple (items:=#[f,g]) (I.ok.hd M) (IsTup.new k.heap _) λh' l=>?_)));have W:=P.kept (t':=k.toks) λb o e=>l b o (aam (acn e)) e;show wpAny _ _ (assignInOrder [λv=>bindName X.env y v,λv=>bindName X.env x v] [g,f] >>= λ_=>pure Flow.next) _ _ _;refine acl (acA (acF (bt W z hj (.inl C) m (λs2 T=>?_) (.inr C))));refine acA (acF (bt T z hi (.inl J) Z (λs3 G=>assignInOrder_nil (acm ?_)) (.inr J)));rw[abg _ _ (aaJ n)]at G;exact⟨_,B,G,r⟩
def Fq(i:Nat)(d:TE)(e:TIp):TS:=λD a H=>∃x,a[i]?=some (some x)/\d a H λy c=>e x y c λz b=>D.nx (a.set i (some z)) b
theorem qr{i:Nat}{x:Str}{pos':Pos}(C:X.N.Nodup)(hi:X.N[i]?=some x)(n:Loc X.env.scope x)(J:PE X e te)(M:BN X op ti)(S:X.fn x=true\/X.env.scope.names.lookup x=some .local:=by first|exact .inl rfl|exact .inr rfl|assumption):
  PS X (.AugAssign (.Name x pos') op e pos) (Fq i te ti):=by
 intro a s q H D I h;obtain⟨v,F,h⟩:=h;obtain⟨m,t,L⟩:=I.loc;have j:Vis X.env.scope x:=by rcases n with k|k;exact .inl k;exact .inr (.inl k)
 obtain⟨u,r,l⟩:=L i x v hi F j;refine wpAny_AugAssign_Name ?_;have p:wpAny (model X.prog X.w) X.A (eval e X.env) (λw f=>wpAny (model X.prog X.w) X.A (inplaceOp op u w) (λr g=>wpAny (model X.prog X.w) X.A (storeName X.env x r) (λ_=>SP X a D .next) X.xe g) X.xe f) X.xe s:=by refine thn (J a s q H _ I h) λw W o=>?_;obtain⟨y,T,I1,P,Q⟩:=o;refine thn (M a W q T v y u w _ I1 r P Q) λz s2 o=>?_;obtain⟨zv,Y,O,Z,q2⟩:=o;exact bt O C hi n Z (λs3 U=>⟨_,Y,U,q2⟩) S
 rcases l with ⟨b,G⟩|⟨b,c,B,d⟩
 ·exact wpAny_loadName_local I.ok.kind b t G p
 ·rcases b with b|b
  ·exact wpAny_loadName_cell I.ok.kind b B d p
  ·rcases n with k|k
   ·have:X.env.scope.names.lookup x=some .free:=b;rw[k]at this;cases this
   ·have:X.env.scope.names.lookup x=some .free:=b;rw[k]at this;cases this
def Fs(f:Int->Int->Int):TIp:=λx y H Q=>∃i j,x=.int i/\y=.int j/\Q (.int (f i j)) H
theorem yR:BN X .Add (Fs λi j=>i+j):=by intro a s g H x y v u Q I d e h;obtain⟨i,j,c,b,q⟩:=h;subst c;subst b;obtain⟨t,rfl⟩:=d;obtain⟨f,rfl⟩:=e;exact iadd_int ⟨.int _,H,I.tok _,⟨_,rfl⟩,q⟩
theorem yS:BN X .Sub (Fs λi j=>i-j):=by intro a s g H x y v u Q I d e h;obtain⟨i,j,c,b,q⟩:=h;subst c;subst b;obtain⟨t,rfl⟩:=d;obtain⟨f,rfl⟩:=e;exact isub_int ⟨.int _,H,I.tok _,⟨_,rfl⟩,q⟩
structure It where
 go:Nat->Hp->Prop
 yld:Nat->Hp->V->Hp->Prop
 stop:Nat->Hp->Prop
def FpOk(X:Cx)(a:List (Addr×Obj))(H:Hp)(b:Addr):Prop:=
 H b=none/\b≠X.env.locals/\b ∉ X.fs/\(b∈X.ex\/X.s₀.heap.objs.size<=b)/\(∀x c,X.env.cells.lookup x=some c->c≠b)/\∀p∈X.pn++a,p.1≠b
theorem Inv.mn(I:Inv X pins σ H s)(a:s.heap.objs.size<=b)(f:H' b=none):FpOk X pins H' b:=by
 refine⟨f,aaZ (aax I.lt a),I.nofs a,.inr (aas I.sz a),λx c e z=>?_,λp d z=>?_⟩
 ·obtain⟨v,q⟩:=I.cell x c e;exact absurd (aax q.lt (by rw[z];exact a)) (aaU _)
 ·exact absurd (aax (acn (I.pin p d).1) (by rw[z];exact a)) (aaU _)
structure Turn (P:Program)(w:World)(K:Waa)(tg:Expr)(J:It)(fp:List Addr)(it:Addr)(tn:Nat->Heap->Prop):Prop where
 mem:it∈fp
 obj:∀i h,tn i h->∀b∈fp,∃o,h.get? b=some o/\∀v,o.data≠.cell v
 keep:∀i h h',tn i h->(∀b∈fp,∀o,h.get? b=some o->h'.get? b=some o)->tn i h'
 item:∀(X:Cx),X.prog=P->X.w=w->X.K=K->X.calm=true->∀(i:Nat) (pins:List (Addr×Obj)) (s:Shared) (σ:St) (H:Hp) (E:Value->Shared->Prop),Inv X pins σ H s->(∀b∈fp,FpOk X pins H b)->tn i s.heap->J.go i H ->
  wpAny (model P w) X.A (pyNext (.ref it)) (λr s1=>∃u,r=some u /\
   wpAny (model P w) X.A (letOwnedTupleGo tg (.ref it) u) (λ_ s2=>∃x H',Inv X pins σ H' s2/\RelV x u/\J.yld i H x H'/\tn (i+1) s2.heap/\∀b∈fp,H' b=none) E s1) E s
 done:∀(X:Cx),X.prog=P->X.w=w->X.K=K->X.calm=true->∀(i:Nat) (pins:List (Addr×Obj)) (s:Shared) (σ:St) (H:Hp) (E:Value->Shared->Prop),Inv X pins σ H s->(∀b∈fp,FpOk X pins H b)->tn i s.heap->J.stop i H ->
  wpAny (model P w) X.A (pyNext (.ref it)) (λr s1=>r=none/\Inv X pins σ H s1) E s
 self:∀(A:Around) (i:Nat) (s:Shared) (Q:Value->Shared->Prop) (E:Value->Shared->Prop),tn i s.heap->Q (.ref it) s->wpAny (model P w) A (pyIter (.ref it)) Q E s
abbrev TI:=St->Hp->(It->Hp->Prop)->Prop
def Ft(X:Cx)(a:List (Addr×Obj))(σ:St)(i:Expr)(R:It->Hp->Prop)(d:Value)(e:Shared):Prop:=
 ∃(f:Addr) (g:List Addr) (h:Nat->Heap->Prop) (J:It) (c:Hp),d=.ref f/\Inv X a σ c e/\Turn X.prog X.w X.K i J g f h/\h 0 e.heap/\(∀b∈g,FpOk X a c b)/\R J c
def PI(X:Cx)(tg iter:Expr)(c:TI):Prop:=
 ∀(a:List (Addr×Obj)) (s:Shared) (b:St) (H:Hp) (R:It->Hp->Prop),Inv X a b H s->c b H R ->
  wpAny (model X.prog X.w) X.A (eval iter X.env) (λv d=>wpAny (model X.prog X.w) X.A (pyIter v) (Ft X a b tg R) X.xe d) X.xe s
theorem mC(c:s.heap.get? it=some o)(e:o.cls=.type n)(d:o.data=.fields vs)
  (b:["enumerate","zip","dict_itemiterator","dict_reverseitemiterator","odict_iterator","itertools.zip_longest","itertools.pairwise"].contains n=false) (a:Q () s):wpAny M A (letOwnedTupleGo tg (.ref it) u) Q E s:=by
 unfold letOwnedTupleGo;cases tg<;>first
  |exact acm a
  | (cases u<;>first
    |exact acm a
    | (refine acl (wpAny_load c ?_)
       rw[e,d];show wpAny M A (if (["enumerate","zip","dict_itemiterator","dict_reverseitemiterator","odict_iterator","itertools.zip_longest","itertools.pairwise"].contains n&&vs[0]?==some (rawInt _))=true then _ else _) Q E s;rw[if_neg (by intro h;rw[b,Bool.false_and]at h;cases h)];exact acm a))
def Fu(K:Waa)(a:Addr):It:=
 ⟨λi H=>∃b x,SqL K H a b/\b[i]?=some x,λi H x c=>c=H/\∀b,SqL K H a b->b[i]?=some x,λi H=>∃b,SqL K H a b/\b.length<=i⟩
def Fv(K:Waa)(a:Addr):It:=
 ⟨λi H=>∃b x,SqT K H a b/\b[i]?=some x,λi H x c=>c=H/\∀b,SqT K H a b->b[i]?=some x,λi H=>∃b,SqT K H a b/\b.length<=i⟩
def EV(lo:Int)(n:Nat):It:=⟨λi _=>i<n,λi H x a=>a=H/\x=.int (lo+i),λi _=>n<=i⟩
theorem oK{K:Waa}(a it:Addr):Turn P w K tg (Fu K a) [it] it (λi h=>h.IsListIter it a i) where
 mem:=by simp
 obj:=λi h f b j=>by
  have e:b=it:=by simpa using j
  subst e;obtain⟨o,e,c,d⟩:=f;exact⟨o,e,λv z=>by rw[d]at z;cases z⟩
 keep:=λi h C f k=>f.at λo e=>k it (by simp) o e
 item:=by intro X G J q N i g s O H E I n f r;subst G J q;obtain⟨U,x,m,M⟩:=r;obtain⟨y,F,p,hz⟩:=I.list m;obtain⟨u,W,S⟩:=F.get M;obtain⟨L,B,Y,t,A,D⟩:=n it (by simp);refine wpAny_pyNext_list_item f p.isList (by simpa using W) λC l Q=>?_;have I1:Inv X g O H { s with heap:=C }:=I.turned (λb o j e=>(Q.2 b j).trans e) L B t A D;obtain⟨o,e,c,d⟩:=id l;exact⟨u,rfl,mC e c d (by decide) ⟨x,H,I1,S,⟨rfl,λys Z=>by rw[I.l4 Z m];exact M⟩,l,λb j=>(n b j).1⟩⟩
 done:=by
  intro X G J q N i g s O H E I n f r;subst G J q;obtain⟨U,m,M⟩:=r;obtain⟨y,F,p,hz⟩:=I.list m;obtain⟨L,B,Y,t,A,D⟩:=n it (by simp);have hl:=F.length;exact wpAny_pyNext_list_end (I.ok.hd N) f p.isList (by simp;omega) λC T=>⟨rfl,I.turned (λb o j e=>T b o j e) L B t A D⟩
 self:=λ_ _ _ _ _ f h=>wpAny_pyIter_listiter f h
theorem kI{K:Waa}(a it:Addr):Turn P w K tg (Fv K a) [it] it (λi h=>h.IsTupleIter it a i) where
 mem:=by simp
 obj:=λi h f b j=>by
  have e:b=it:=by simpa using j
  subst e;obtain⟨o,e,c,d⟩:=f;exact⟨o,e,λv z=>by rw[d]at z;cases z⟩
 keep:=λi h C f k=>f.at λo e=>k it (by simp) o e
 item:=by intro X G J r N i g s O H E I q f t;subst G J r;obtain⟨U,x,n,M⟩:=t;obtain⟨l,F,p,hz⟩:=I.tuple n;obtain⟨u,W,S⟩:=F.get M;obtain⟨L,B,Y,y,A,D⟩:=q it (by simp);refine wpAny_pyNext_tuple_item f (show s.heap.IsTuple a l.toArray from p) (by simpa using W) λC m Q=>?_;have I1:Inv X g O H { s with heap:=C }:=I.turned (λb o j e=>(Q.2 b j).trans e) L B y A D;obtain⟨o,e,c,d⟩:=id m;exact⟨u,rfl,mC e c d (by decide) ⟨x,H,I1,S,⟨rfl,λys Z=>by rw[I.n3 Z n];exact M⟩,m,λb j=>(q b j).1⟩⟩
 done:=by
  intro X G J r N i g s O H E I q f t;subst G J r;obtain⟨U,n,M⟩:=t;obtain⟨l,F,p,hz⟩:=I.tuple n;obtain⟨L,B,Y,y,A,D⟩:=q it (by simp);have hl:=F.length;exact wpAny_pyNext_tuple_end (I.ok.hd N) f (show s.heap.IsTuple a l.toArray from p) (by simp;omega) λC T=>⟨rfl,I.turned (λb o j e=>T b o j e) L B y A D⟩
 self:=λ_ _ _ _ _ f h=>wpAny_pyIter_tupleiter f h
theorem kJ{K:Waa}(it:Addr)(lo:Int)(n:Nat):Turn P w K tg (EV lo n) [it] it (λi h=>IsRangeIter h it (lo+(i:Nat)*1) ((n:Int)-(i:Nat)) 1) where
 mem:=by simp
 obj:=λi h a b d=>by
  have e:b=it:=by simpa using d
  subst e;exact⟨_,a,λv z=>by
   have N:Data.fields _=Data.cell v:=z;cases N⟩
 keep:=λi h u a k=>k it (by simp) _ a
 item:=by intro X y A j m i c s C H E I g a l;subst y A j;obtain⟨B,r,J,p,q,x⟩:=g it (by simp);have W:=Walks.range (prog:=X.prog) (w:=X.w) (I.ok.hd m) it lo 1 n;refine W.item i s _ _ l a λv u L F f D=>?_;obtain⟨t,rfl⟩:=F;have M:Inv X c C H { s with heap:=u,toks:=L }:=I.turned (λb o d e=>D b o (by simpa using d) e) B r p q x;refine⟨_,rfl,mC f rfl rfl (by decide) ⟨.int (lo+i),H,M,⟨t,?_⟩,⟨rfl,rfl⟩,f,λb d=>(g b d).1⟩⟩;rw[Int.mul_one]
 done:=by
  intro X y A j m i c s C H E I g a l;subst y A j;obtain⟨B,r,J,p,q,x⟩:=g it (by simp);exact wpAny_pyNext_range_end (I.ok.hd m) a (by have:n<=i:=l;omega) λu G=>⟨rfl,I.turned (λb o d e=>G b o d e) B r p q x⟩
 self:=λ_ _ _ _ _ a h=>wpAny_pyIter_rangeiter a h
end
section
def BP(K:Waa)(tl:TE):TI:=λd H R=>tl d H λx b=>∃a,x=.ref a/\(∃c,SqL K b a c)/\R (Fu K a) b
def Fw(K:Waa)(tl:TE):TI:=λd H R=>tl d H λx b=>∃a,x=.ref a/\(∃c,SqT K b a c)/\R (Fv K a) b
theorem uW{l:Expr}{g:TE}(k:PE X l g):PI X tg l (BP X.K g):=by
 intro c s u H R I h;refine thn (k c s u H _ I h) λv d w=>?_;obtain⟨x,t,f,m,r⟩:=w;obtain⟨a,e,⟨y,n⟩,q⟩:=r;subst e;cases m;obtain⟨j,z,p,A⟩:=f.list n;refine acz p.isList ?_;refine⟨d.heap.objs.size,[d.heap.objs.size],_,_,t,rfl,f.kept (t':=d.toks) λb o e=>aco _ e,oK a _,⟨_,acp _ rfl,rfl,rfl⟩,λb i=>?_,q⟩;have e:b=d.heap.objs.size:=by simpa using i
 subst e;exact f.mn (aag _) (f.hok.fresh (aag _))
theorem yT{l:Expr}{i:TE}(k:PE X l i):PI X tg l (Fw X.K i):=by
 intro c s u H R I h;refine thn (k c s u H _ I h) λv d w=>?_;obtain⟨x,t,f,m,r⟩:=w;obtain⟨a,e,⟨y,n⟩,q⟩:=r;subst e;cases m;obtain⟨g,z,p,A⟩:=f.tuple n;refine wpAny_pyIter_tuple (show d.heap.IsTuple a g.toArray from p) ?_;refine⟨d.heap.objs.size,[d.heap.objs.size],_,_,t,rfl,f.kept (t':=d.toks) λb o e=>aco _ e,kI a _,⟨_,acp _ rfl,rfl,rfl⟩,λb j=>?_,q⟩;have e:b=d.heap.objs.size:=by simpa using j
 subst e;exact f.mn (aag _) (f.hok.fresh (aag _))
theorem qt{R:It->Hp->Prop}{lo hi:Int}{t u v:Tok}{c:Nat}(I:Inv X pins σ H s)(i:-(2^62)<=lo)(g:lo<2^62)(j:-(2^62)<=hi)(k:hi<2^62)
  (q:R (EV lo (hi-lo).toNat) H):wpAny (model X.prog X.w) X.A (pyIter (.ref s.heap.objs.size)) (Ft X pins σ tg R) E { s with heap:=s.heap.push { cls:=.type "range",data:=.fields #[.int lo t,.int hi u,.int 1 v] },toks:=c }:=by
 refine wpAny_pyIter_range (IsRange.new ..) (small_one i g j k) ?_;have a:Inv X pins σ H { s with heap:=s.heap.push { cls:=.type "range",data:=.fields #[.int lo t,.int hi u,.int 1 v] },toks:=c }:=I.kept λb o e=>aco _ e;refine⟨(s.heap.push { cls:=.type "range",data:=.fields #[.int lo t,.int hi u,.int 1 v] }).objs.size,[(s.heap.push { cls:=.type "range",data:=.fields #[.int lo t,.int hi u,.int 1 v] }).objs.size],_,_,H,rfl,
  a.kept λb o e=>aco _ e,kJ _ lo (hi-lo).toNat,?_,λb d=>?_,q⟩
 ·have h:lo+((0:Nat):Int)*1=lo:=by simp
  have f:(((hi-lo).toNat:Nat):Int)-((0:Nat):Int)=Builtin.Range.rangeSize lo hi 1:=by rw[rangeSize_one];split<;>omega
  show IsRangeIter _ _ (lo+((0:Nat):Int)*1) ((((hi-lo).toNat:Nat):Int)-((0:Nat):Int)) 1;rw[h,f];exact acp _ rfl
 ·have e:b=(s.heap.push { cls:=.type "range",data:=.fields #[.int lo t,.int hi u,.int 1 v] }).objs.size:=by simpa using d
  subst e;exact a.mn (aag _) (a.hok.fresh (aag _))
def BQ(a:TA):TI:=λc H R=>a c H λb d=>∃j:Int,b=[.int j]/\-(2^62)<=j/\j<2^62/\R (EV 0 j.toNat) d
theorem oM{a:Expr}{d:TA}{p pos:Pos} (f:Gl X "range") (g:X.mg "range"=none) (m:PA X [a] d) (i:starEach [a] X.env=[(false,eval a X.env)]:=by rfl):PI X tg (.Call (.Name "range" p) [a] [] pos) (BQ d):=by
 intro b s n H R I h;refine Call_ (eF I f g boot_range (abA (thn (m pos b s n H _ I h) λw z o=>?_) i rfl));obtain⟨x,y,u,k,c⟩:=o;obtain⟨j,e,c,l,q⟩:=c;subst e;cases k with
 |cons r v=>cases v;obtain⟨t,rfl⟩:=r;exact call_range_1 (qt u (by omega) (by omega) c l (by simpa using q))
def Fx(f:TI)(g:TG)(h:TS):TS:=λD a H=>f a H λJ k=>∃W:Nat->Nat->St->Hp->Prop,(∃m,W 0 m a k)/\∀i m a H,W i m a H ->
 (J.stop i H/\D.nx a H)\/(J.go i H/\∃N:St->Hp->Prop,(∀b c,N b c->∃e,e<m/\W (i+1) e b c)/\∀x c,J.yld i H x c->g x a c λd j=>h { D with nx:=N,ct:=N,bk:=D.nx } d j)
def pinsAt(a:List Addr)(h:Heap):List (Addr×Obj):=a.filterMap λb=>(h.get? b).map λo=>(b,o)
theorem dm(a:b∈fp)(e:h.get? b=some o):(b,o)∈pinsAt fp h:=abh.mpr ⟨b,a,by rw[e];rfl⟩
theorem oN(d:p∈pinsAt fp h):p.1∈fp/\h.get? p.1=some p.2:=by
 obtain⟨b,a,e⟩:=abh.mp d;cases q:h.get? b with
 |none=>rw[q]at e;cases e
 |some o=>rw[q]at e;have c:(b,o)=p:=aaD e;subst c;exact⟨a,q⟩
theorem Inv.pinned(I:Inv X pins σ H s)(i:∀b∈fp,FpOk X pins H b)(h:∀b∈fp,∃o,s.heap.get? b=some o/\∀v,o.data≠.cell v):Inv X (pins++pinsAt fp s.heap) σ H s:=
 I.n2 λp g=>(aai.mp g).elim (λz=>I.pin p (aae _ z)) λz=>by obtain⟨a,e⟩:=oN z;obtain⟨j,f,k,_⟩:=i p.1 a;obtain⟨o,c,d⟩:=h p.1 a;rw[e]at c;cases c;exact⟨e,j,f,k,d⟩
theorem Inv.ew(I:Inv X (pins++pl) σ H s):Inv X pins σ H s:=I.n2 λp a=>I.pin p (aae _ (aad _ a))
theorem yU{j:Expr}{body:List Stmt}{pos:Pos}(U:PassesOwn (model X.prog X.w) X.A X.env X.xe)(hc:X.calm=true)(hi:PI X tg j wi)(hg:PG X tg g)(y:PSs X body tb)
  (hs:∀x,foldedSetIterable j X.env x=pure x:=by intro _;rfl):PS X (.For tg j body [] pos) (Fx wi g tb):=by
 intro a s σ H D I h;refine wpAny_For (thn (hi a s σ H _ I h) λv s1 h1=>thn h1 λa4 s2 h2=>?_) hs;obtain⟨it,L,tn,J,H2,e,I2,T,a2,f2,W,⟨m0,w0⟩,Q⟩:=h2;subst e;have k:∀{B:Hp},(∀b∈L,B b=none)->∀b∈L,FpOk X a B b:=λhn b y=>⟨hn b y,(f2 b y).2⟩
 refine codeAny_forLoop_any (λn s'=>∃i q B,Inv X a q B s'/\tn i s'.heap/\(∀b∈L,B b=none)/\W i n q B) ?_ m0 ⟨0,σ,H2,I2,a2,λb y=>(f2 b y).1,w0⟩;rintro n s3 ⟨i,t,Z,I3,M,O,w3⟩;rcases Q i n t Z w3 with ⟨Y,qn⟩|⟨go,N,hN,S⟩
 ·refine acG U (thn (T.done X rfl rfl rfl hc i a s3 t Z X.xe I3 (k O) M Y) λr s4 G=>?_);obtain⟨hr,I4⟩:=G;subst hr;exact wpAny_execs_nil ⟨t,Z,I4,qn⟩
 ·refine acG U (thn (T.item X rfl rfl rfl hc i a s3 t Z X.xe I3 (k O) M go) λr s4 G=>?_);obtain⟨u,hr,h4⟩:=G;subst hr;refine acG U (thn h4 λ_ s5 G=>?_);obtain⟨x,H5,I5,r5,y5,F,a3⟩:=G;have a1:=I5.pinned (k a3) (T.obj _ _ F);refine acG U (thn (hg _ s5 t H5 x u _ a1 r5 (S x H5 y5)) λ_ s6 G=>?_);obtain⟨a0,H6,I6,q6⟩:=G;refine acG U (thn (y _ s6 a0 H6 _ I6 q6) λf s7 C=>?_);have l:∀{c:St}{z:Hp},Inv X (a++pinsAt L s5.heap) c z s7->N c z->∃m,m<n/\∃i q B,Inv X a q B s7/\tn i s7.heap/\(∀b∈L,B b=none)/\W i m q B:=λ{c z} p P=>by obtain⟨m',hm,w7⟩:=hN c z P;refine⟨m',hm,i+1,c,z,p.ew,T.keep _ _ _ F λb y o e=>(p.pin (b,o) (aae _ (aae _ (dm y e)))).1,λb y=>?_,w7⟩;obtain⟨o,e,d⟩:=T.obj _ _ F b y;exact(p.pin (b,o) (aae _ (aae _ (dm y e)))).2.1
  cases f with
  |next=>obtain⟨c,z,p,P⟩:=C;exact l p P
  |cont=>obtain⟨c,z,p,P⟩:=C;exact l p P
  |brk=>obtain⟨c,z,p,C⟩:=C;exact⟨c,z,p.ew,C⟩
  |ret v=>obtain⟨x7,c,z,p,r7,C⟩:=C;exact⟨x7,c,z,p.ew,r7,C⟩
end
section
abbrev R2:=V->V->Hp->VK->Prop
def OpR(X:Cx)(f:Value->Value->Sem Value)(r:R2):Prop:=
 ∀(a:List (Addr×Obj)) (s:Shared) (b:St) (H:Hp) (x y:V) (v u:Value) (Q:VK),Inv X a b H s->RelV x v->RelV y u->r x y H Q ->
  wpAny (model X.prog X.w) X.A (f v u) (EP X a b Q) X.xe s
def Fy(X:Cx)(f:Value->Sem Value)(r:V->Hp->VK->Prop):Prop:=
 ∀(a:List (Addr×Obj)) (s:Shared) (b:St) (H:Hp) (x:V) (v:Value) (Q:VK),Inv X a b H s->RelV x v->r x H Q ->
  wpAny (model X.prog X.w) X.A (f v) (EP X a b Q) X.xe s
def CallR(X:Cx)(f:Value)(r:List V->Hp->VK->Prop):Prop:=
 ∀(a:List (Addr×Obj)) (s:Shared) (d:St) (H:Hp) (c:List V) (b:List Value) (Q:VK),Inv X a d H s->Vals c b->r c H Q ->
  wpAny (model X.prog X.w) X.A (call f b) (EP X a d Q) X.xe s
def FA(X:Cx)(r:V->Hp->(Bool->Hp->Prop)->Prop):Prop:=
 ∀(a:List (Addr×Obj)) (s:Shared) (b:St) (H:Hp) (x:V) (v:Value) (Q:Bool->Hp->Prop),Inv X a b H s->RelV x v->r x H Q ->
  wpAny (model X.prog X.w) X.A (truthy v) (TP X a b Q) X.xe s
def yV(r:R2)(c d:TE):TE:=λa H Q=>c a H λx e=>d a e λy b=>r x y b Q
def HE(r:V->Hp->VK->Prop)(a:TE):TE:=λb H Q=>a b H λx c=>r x c Q
def rI(C:Int->Int->Prop)(g:Int->Int->V):R2:=λx y H Q=>∃i j,x=.int i/\y=.int j/\C i j/\Q (g i j) H
def uJ(g:Int->Int->V):R2:=λx y H Q=>∃i j,x=.int i/\y=.int j/\Q (g i j) H
def rU(g:Int->V):V->Hp->VK->Prop:=λx H Q=>∃i,x=.int i/\Q (g i) H
theorem yW(q:PE X a ta)(l:PE X b tb){c:List (Addr×Obj)}{s:Shared}{R:V->V->Hp->Prop}(I:Inv X c σ H s)
  (h:ta σ H λx j=>tb σ j λy d=>R x y d) {f:Value->Value->Sem Value}
  (p:∀v u i x y d,Inv X c σ d i->RelV x v->RelV y u->R x y d->wpAny (model X.prog X.w) X.A (f v u) Q X.xe i):
  wpAny (model X.prog X.w) X.A (eval a X.env) (λv g=>wpAny (model X.prog X.w) X.A (eval b X.env) (λu e=>wpAny (model X.prog X.w) X.A (f v u) Q X.xe e) X.xe g) X.xe s:=by
 refine thn (q c s σ H _ I h) λv r k=>?_;obtain⟨x,j,z,n,o⟩:=k;refine thn (l c r σ j _ z o) λu i k=>?_;obtain⟨y,d,m,t,B⟩:=k;exact p v u i x y d m n t B
theorem mD(f:OpR X (binaryOp op) r)(j:PE X a ta)(d:PE X b tb):PE X (.BinOp a op b pos) (yV r ta tb):=by intro c s l H Q I h;exact wpAny_BinOp (yW j d I h λv u m x y k g e i q=>f c m l k x y v u Q g e i q)
theorem xD{c:UnaryOp}(f:Fy X (unaryOp c) r)(j:PE X a ta):PE X (.UnaryOp c a pos) (HE r ta):=by intro b s d H Q I h;exact UnaryOp_ (thn (j b s d H _ I h) λv l ⟨x,g,k,i,e⟩=>f b l d g x v Q k i e)
theorem EW{f:Value->Value->Sem Value}{g:Int->Int->Int}
  (rule:∀(i j:Int) (t u:Tok) (s:Shared) (Q:Value->Shared->Prop) (E:Value->Shared->Prop),C i j->Q (.int (g i j) s.toks) { s with toks:=s.toks+1 }->wpAny (model X.prog X.w) X.A (f (.int i t) (.int j u)) Q E s):
  OpR X f (rI C λi j=>.int (g i j)):=by
 intro a s k H x y v u Q I c d h;obtain⟨i,j,rfl,rfl,b,q⟩:=h;obtain⟨t,rfl⟩:=c;obtain⟨e,rfl⟩:=d;exact rule i j t e s _ _ b ⟨.int (g i j),H,I.tok _,⟨_,rfl⟩,q⟩
theorem BR{f:Value->Value->Sem Value}{g:Int->Int->Int}
  (rule:∀(i j:Int) (t u:Tok) (s:Shared) (Q:Value->Shared->Prop) (E:Value->Shared->Prop),Q (.int (g i j) s.toks) { s with toks:=s.toks+1 }->wpAny (model X.prog X.w) X.A (f (.int i t) (.int j u)) Q E s):
  OpR X f (uJ λi j=>.int (g i j)):=by
 intro a s e H x y v u Q I b c h;obtain⟨i,j,rfl,rfl,q⟩:=h;obtain⟨t,rfl⟩:=b;obtain⟨d,rfl⟩:=c;exact rule i j t d s _ _ ⟨.int (g i j),H,I.tok _,⟨_,rfl⟩,q⟩
theorem uX{g:Int->Int->Bool}
  (rule:∀(i j:Int) (t u:Tok) (s:Shared) (Q:Value->Shared->Prop) (E:Value->Shared->Prop),Q (.bool (g i j)) s->wpAny (model X.prog X.w) X.A (f (.int i t) (.int j u)) Q E s):
  OpR X f (uJ λi j=>.bl (g i j)):=by
 intro a s e H x y v u Q I b c h;obtain⟨i,j,rfl,rfl,q⟩:=h;obtain⟨t,rfl⟩:=b;obtain⟨d,rfl⟩:=c;exact rule i j t d s _ _ ⟨.bl (g i j),H,I,rfl,q⟩
def FB(i j:Int):Prop:=0<j/\j<1073741824
def FC(i j:Int):Prop:=0<=j/\j<=1000000/\i.natAbs<2^64
def CMul(i j:Int):Prop:=(-(2^64)<i/\i<2^64)\/(-(2^64)<j/\j<2^64)
theorem CMul.ok{i j:Int}(h:CMul i j):IntMulOk i j:=by
 rcases h with ⟨b,a⟩|⟨b,a⟩
 ·exact .of_left (intBits_le_64 b a)
 ·exact .of_right (intBits_le_64 b a)
theorem yX:OpR X (binaryOp .Add) (uJ λi j=>.int (i+j)):=BR λ_ _ _ _ _ _ _ q=>add_int q
theorem yY:OpR X (binaryOp .Sub) (uJ λi j=>.int (i-j)):=BR λ_ _ _ _ _ _ _ q=>sub_int q
theorem yZ:OpR X (binaryOp .Mult) (rI CMul λi j=>.int (i*j)):=EW λ_ _ _ _ _ _ _ a q=>mul_int q a.ok
theorem uY:OpR X (binaryOp .FloorDiv) (rI FB λi j=>.int (i/j)):=EW λi j _ _ _ _ _ a q=>by have c:(0:Int)<j:=a.1;have b:j<1073741824:=a.2;exact floordiv_int (by omega) (by rw[Int.fdiv_eq_ediv_of_nonneg i (by omega)];exact q) (.inl (PyProof.noPylong_small (by omega)))
theorem y1:OpR X (binaryOp .Mod) (rI (λ_ j=>0<j) λi j=>.int (i%j)):=EW λi j _ _ _ _ _ a q=>by have b:(0:Int)<j:=a;exact mod_int' (by omega) (by rw[Int.fmod_eq_emod_of_nonneg i (by omega)];exact q)
theorem y2:OpR X (binaryOp .Pow) (rI FC λi j=>.int (i^j.toNat)):=EW λ_ _ _ _ _ _ _ a q=>pow_int_small a.1 a.2.1 a.2.2 q
theorem HF{f:Value->Sem Value}{g:Int->Int}
  (rule:∀(i:Int) (t:Tok) (s:Shared) (Q:Value->Shared->Prop) (E:Value->Shared->Prop),Q (.int (g i) s.toks) { s with toks:=s.toks+1 }->wpAny (model X.prog X.w) X.A (f (.int i t)) Q E s):
  Fy X f (rU λi=>.int (g i)):=by
 intro a s c H x v Q I b h;obtain⟨i,rfl,q⟩:=h;obtain⟨t,rfl⟩:=b;exact rule i t s _ _ ⟨.int (g i),H,I.tok _,⟨_,rfl⟩,q⟩
theorem qu:Fy X (unaryOp .USub) (rU λi=>.int (-i)):=HF λ_ _ _ _ _ q=>neg_int q
def y3:V->V->Bool
 |.non,.non=>true|.non,.int _=>true|.int _,.non=>true|.non,.bl _=>true|.bl _,.non=>true|.non,.str _=>true|.str _,.non=>true
 |.int _,.int _=>true|.bl _,.bl _=>true|.str _,.str _=>true|.byt _,.byt _=>true
 |.int _,.str _=>true|.str _,.int _=>true|.bl _,.str _=>true|.str _,.bl _=>true
 |_,_=>false
def rEq:R2:=λx y H Q=>y3 x y=true/\Q (.bl (decide (x=y))) H
def rNe:R2:=λx y H Q=>y3 x y=true/\Q (.bl (!decide (x=y))) H
theorem mE:decide (V.int i=V.int j)=(i==j):=by rw[aa0];simp
theorem qw:decide (V.bl i=V.bl j)=(i==j):=by rw[aa0];simp
theorem mF:decide (V.str i=V.str j)=(i==j):=by rw[aa0];simp
theorem mG:decide (V.byt i=V.byt j)=(i.toList==j.toList):=by rw[aa0];cases i;cases j;simp
theorem az(I:Inv X pins σ H s)(q:Q (.bl k) H)(e:k=k'):EP X pins σ Q (.bool k') s:=by subst e;exact⟨.bl k,H,I,rfl,q⟩
theorem op_eq:OpR X (compareOp .Eq) rEq:=by
 intro e s f H x y v u Q I d a h;obtain⟨c,q⟩:=h;cases x with
 |non=>
  cases d;cases y with
  |non=>cases a;exact PySem.EqNone.eq_none_none (az I q (by simp))
  |bl j=>cases a;exact PySem.EqNone.eq_none_bool (az I q (by simp))
  |int j=>obtain⟨b,rfl⟩:=a;exact PySem.EqNone.eq_none_int (az I q (by simp))
  |str j=>obtain⟨b,rfl⟩:=a;exact PySem.EqNone.eq_none_str (az I q (by simp))
  |_=>exact absurd (show false=true from c) aak
 |bl i=>
  cases d;cases y with
  |non=>cases a;exact PySem.EqNone.eq_bool_none (az I q (by simp))
  |bl j=>cases a;exact eq_bool (az I q qw)
  |str j=>obtain⟨b,rfl⟩:=a;exact PySem.EqMixed.eq_bool_str (az I q (by simp))
  |_=>exact absurd (show false=true from c) aak
 |int i=>
  obtain⟨t,rfl⟩:=d;cases y with
  |non=>cases a;exact PySem.EqNone.eq_int_none (az I q (by simp))
  |int j=>obtain⟨b,rfl⟩:=a;exact eq_int (az I q mE)
  |str j=>obtain⟨b,rfl⟩:=a;exact PySem.EqMixed.eq_int_str (az I q (by simp))
  |_=>exact absurd (show false=true from c) aak
 |str i=>
  obtain⟨t,rfl⟩:=d;cases y with
  |non=>cases a;exact PySem.EqNone.eq_str_none (az I q (by simp))
  |bl j=>cases a;exact PySem.EqMixed.eq_str_bool (az I q (by simp))
  |int j=>obtain⟨b,rfl⟩:=a;exact PySem.EqMixed.eq_str_int (az I q (by simp))
  |str j=>obtain⟨b,rfl⟩:=a;exact eq_str (az I q mF)
  |_=>exact absurd (show false=true from c) aak
 |byt i=>
  obtain⟨t,rfl⟩:=d;cases y with
  |byt j=>obtain⟨b,rfl⟩:=a;exact PySem.W.eq_bytes (az I q mG)
  |_=>exact absurd (show false=true from c) aak
 |_=>cases y<;>exact absurd (show false=true from c) aak
theorem op_ne:OpR X (compareOp .NotEq) rNe:=by
 intro e s f H x y v u Q I d a h;obtain⟨c,q⟩:=h;cases x with
 |non=>
  cases d;cases y with
  |non=>cases a;exact PySem.EqNone.ne_none_none (az I q (by simp))
  |bl j=>cases a;exact PySem.EqNone.ne_none_bool (az I q (by simp))
  |int j=>obtain⟨b,rfl⟩:=a;exact PySem.EqNone.ne_none_int (az I q (by simp))
  |str j=>obtain⟨b,rfl⟩:=a;exact PySem.EqNone.ne_none_str (az I q (by simp))
  |_=>exact absurd (show false=true from c) aak
 |bl i=>
  cases d;cases y with
  |non=>cases a;exact PySem.EqNone.ne_bool_none (az I q (by simp))
  |bl j=>cases a;exact ne_bool (az I q (congrArg not qw))
  |str j=>obtain⟨b,rfl⟩:=a;exact PySem.EqMixed.ne_bool_str (az I q (by simp))
  |_=>exact absurd (show false=true from c) aak
 |int i=>
  obtain⟨t,rfl⟩:=d;cases y with
  |non=>cases a;exact PySem.EqNone.ne_int_none (az I q (by simp))
  |int j=>obtain⟨b,rfl⟩:=a;exact ne_int (az I q (congrArg not mE))
  |str j=>obtain⟨b,rfl⟩:=a;exact PySem.EqMixed.ne_int_str (az I q (by simp))
  |_=>exact absurd (show false=true from c) aak
 |str i=>
  obtain⟨t,rfl⟩:=d;cases y with
  |non=>cases a;exact PySem.EqNone.ne_str_none (az I q (by simp))
  |bl j=>cases a;exact PySem.EqMixed.ne_str_bool (az I q (by simp))
  |int j=>obtain⟨b,rfl⟩:=a;exact PySem.EqMixed.ne_str_int (az I q (by simp))
  |str j=>obtain⟨b,rfl⟩:=a;exact ne_str (az I q (congrArg not mF))
  |_=>exact absurd (show false=true from c) aak
 |byt i=>
  obtain⟨t,rfl⟩:=d;cases y with
  |byt j=>obtain⟨b,rfl⟩:=a;exact PySem.W.ne_bytes (az I q (congrArg not mG))
  |_=>exact absurd (show false=true from c) aak
 |_=>cases y<;>exact absurd (show false=true from c) aak
theorem BS:OpR X (compareOp .Lt) (uJ λi j=>.bl (decide (i<j))):=uX λ_ _ _ _ _ _ _ q=>lt_int q
theorem BU:OpR X (compareOp .LtE) (uJ λi j=>.bl (decide (i<=j))):=uX λ_ _ _ _ _ _ _ q=>le_int q
theorem BV:OpR X (compareOp .Gt) (uJ λi j=>.bl (decide (j<i))):=uX λ_ _ _ _ _ _ _ q=>gt_int q
theorem BW:OpR X (compareOp .GtE) (uJ λi j=>.bl (decide (j<=i))):=uX λ_ _ _ _ _ _ _ q=>ge_int q
theorem oO:OpR X (compareOp .In) (λx y H Q=>∃i j,x=.str i/\y=.str j/\Q (.bl (!(Builtin.Str.occurrences j i 0 j.length 1).isEmpty)) H):=by intro a s e H x y v u Q I c b h;obtain⟨i,j,rfl,rfl,q⟩:=h;obtain⟨t,rfl⟩:=c;obtain⟨d,rfl⟩:=b;exact in_str (az I q rfl)
theorem OpR.or(h:OpR X f r)(h':OpR X f r'):OpR X f (λx y H Q=>r x y H Q\/r' x y H Q):=by
 intro a s c H x y v u Q I d b q;rcases q with q|q
 ·exact h a s c H x y v u Q I d b q
 ·exact h' a s c H x y v u Q I d b q
theorem fM(g:OpR X (compareOp op) r)(k:PE X a ta)(d:PE X b tb)(f:behindInMarks op b=false):PE X (.Compare a [op] [b] pos) (yV r ta tb):=by intro c s m H Q I h;exact wpAny_Compare1 (yW k d I h λv u n x y l i e j q=>g c n m l x y v u Q i e j q) f
def qx(t:TE):TT:=λa H Q=>t a H λx b=>∃k,x=.bl k/\Q k b
theorem mI{f:CmpOp}{r:R2}(m:OpR X (compareOp f) r)(w:PE X a ta)(i:PE X b tb)(j:behindInMarks f b=false):PT X (.Compare a [f] [b] pos) (qx (yV r ta tb)):=by
 intro d s g H Q I h;refine wpAny_isTrue_Compare1 (thn (w d s g H _ I h) λv A ⟨x,q,F,o,p⟩=>thn (i d A g q _ F p) λu J ⟨y,B,n,C,L⟩=>
  thn (m d J g B x y v u _ n o C L) λc M ⟨z,l,t,D,k,e,G⟩=>?_) j
 subst e;cases D;exact acv ⟨l,t,G⟩
def kK(r f:R2)(d e tc:TE):TE:=λa H Q=>d a H λx g=>e a g λy c=>r x y c λz b=>∃k,z=.bl k /\
 (if k=true then tc a b λh i=>f y h i Q else Q (.bl false) b)
theorem qy{l g:CmpOp}{r m:R2}(B:OpR X (compareOp l) r)(j:OpR X (compareOp g) m)(N:PE X a ta)(t:PE X b tb)(w:PE X c tc)
  (A:lastMarks [l,g] [b,c]=false:=by with_unfolding_all rfl):PE X (.Compare a [l,g] [b,c] pos) (kK r m ta tb tc):=by
 intro f s i H Q I h;refine Compare_chain (thn (N f s i H _ I h) λv O ⟨x,M,Z,F,L⟩=>chain_link (thn (t f O i M _ Z L) λu U ⟨y,T,D,p,q2⟩=>
  thn (B f U i T x y v u _ D F p q2) λd S ⟨z,n,o,W,k,e,q⟩=>?_)) A
 subst e;cases W;refine acv ?_;cases k with
 |false=>exact ite_ff ⟨.bl false,n,o,rfl,q⟩
 |true=>exact ite_tt (chain_last (thn (w f S i n _ o q) λY J ⟨z',P,G,r4,C⟩=>j f J i P y z' u Y Q G p r4 C))
theorem qz{l g:CmpOp}{r m:R2}(F:OpR X (compareOp l) r)(j:OpR X (compareOp g) m)(U:PE X a ta)(t:PE X b tb)(B:PE X c tc)
  (D:lastMarks [l,g] [b,c]=false:=by with_unfolding_all rfl):PT X (.Compare a [l,g] [b,c] pos) (qx (kK r m ta tb tc)):=by
 intro f s i H Q I h;refine isTrue_chain (thn (U f s i H _ I h) λv W ⟨x,T,I1,L,O⟩=>test_link (thn (t f W i T _ I1 O) λu s2 ⟨y,H2,J,p,q2⟩=>
  thn (F f s2 i H2 x y v u _ J L p q2) λd Z ⟨z,n,o,r3,k,e,q⟩=>?_)) D
 subst e;cases r3;refine acv ?_;cases k with
 |false=>obtain⟨k',e',P⟩:=q;cases e';exact ite_ff ⟨n,o,P⟩
 |true=>refine ite_tt (test_last (thn (B f Z i n _ o q) λw' M ⟨z',Y,N,r4,G⟩=>thn (j f M i Y y z' u w' _ N p r4 G) λd' s5 hZ=>?_));obtain⟨z2,S,I5,A,k2,w,C⟩:=hZ;subst w;cases A;exact acv ⟨S,I5,C⟩
def y4(K:Waa)(x:V)(H:Hp)(k:Bool):Prop:=
 match x with
 |.non=>k=false
 |.bl b=>k=b
 |.int i=>k=(i !=0)
 |.str y=>y.length<=sizeLine/\k=((y.length:Int) !=0)
 |.byt y=>y.size<=sizeLine/\k=((y.size:Int) !=0)
 |.ref p=>(∃c,SqL K H p c/\k=!c.isEmpty)\/(∃c,SqT K H p c/\k=!c.isEmpty)\/∃a,H p=some (.dK a)/\k=!a.isEmpty
 |_=>False
theorem kM{a:Type}{kvs:List (a×V)}{vs:List (a×Value)}(r:KV kvs vs):(!vs.isEmpty)=!kvs.isEmpty:=by cases r<;>rfl
theorem fX{xs:List V}{a:List Value}(r:Vals xs a):(!a.toArray.isEmpty)=!xs.isEmpty:=by cases r<;>simp
theorem line63:(sizeLine:Nat)<2^63:=by rw[acC];decide
theorem y6:FA X (λx H Q=>∃k,y4 X.K x H k/\Q k H):=by
 intro u s F H x v Q I g h;obtain⟨k,e,q⟩:=h;have C:=line63;have D:sizeLine=16777216:=acC;cases x with
 |non=>cases g;have a:k=false:=e;subst a;exact truthy_none ⟨H,I,q⟩
 |bl b=>cases g;have a:k=b:=e;subst a;exact acv ⟨H,I,q⟩
 |int i=>obtain⟨t,rfl⟩:=g;have a:k=(i !=0):=e;subst a;exact PySem.P.truthy_int ⟨H,I,q⟩
 |str y=>obtain⟨t,rfl⟩:=g;obtain⟨B,a⟩:y.length<=sizeLine/\k=((y.length:Int) !=0):=e;subst a;exact PySem.P.truthy_str (by omega) ⟨H,I.tok _,q⟩
 |byt y=>obtain⟨t,rfl⟩:=g;obtain⟨B,a⟩:y.size<=sizeLine/\k=((y.size:Int) !=0):=e;subst a;exact PySem.W.truthy_bytes (by omega) ⟨H,I.tok _,q⟩
 |ref p=>
  cases g;have a:(∃f,SqL X.K H p f/\k=!f.isEmpty)\/(∃f,SqT X.K H p f/\k=!f.isEmpty)\/∃c,H p=some (.dK c)/\k=!c.isEmpty:=e;rcases a with ⟨f,j,a⟩|⟨f,j,a⟩|⟨c,j,a⟩
  ·subst a;obtain⟨n,r,o,z⟩:=I.list j;have d:=r.length;exact wpAny_truthy_list o.isList (by simp only[aap];omega) ⟨H,I.tok _,by rw[fX r];exact q⟩
  ·subst a;obtain⟨n,r,o,z⟩:=I.tuple j;have d:=r.length;exact truthy_tuple o (by simp only[aap];omega) ⟨H,I.tok _,by rw[fX r];exact q⟩
  ·subst a;obtain⟨z,A,l,r,m⟩:c.length<=sizeLine/\(p==sysModules)=false/\∃l,KV c l/\s.heap.DictOf (aH X.prog X.w) p l:=I.hok p _ j;have d:c.length=l.length:=acL r;exact wpAny_truthy_dict A m (by omega) ⟨H,I.tok _,by rw[kM r];exact q⟩
 |_=>exact(show False from e).elim
theorem qA(j:PE X a ta)(e:∀b,isTrue a X.env b=(do let v <-b;standAt a.pos;holding [v] (truthy v))):
  PT X a (λσ H Q=>ta σ H λx d=>∃k,y4 X.K x d k/\Q k d):=by
 intro c s σ H Q I h;exact isTrue_plain (thn (j c s σ H _ I h) λv l ⟨x,i,m,f,g⟩=>y6 c l σ i x v Q m f g) (e _)
theorem kN:OpR X (binaryOp .Add) (λx y H Q=>∃i j,x=.str i/\y=.str j/\i.length+j.length<=sizeLine/\Q (.str (i++j)) H):=by intro a s g H x y v u Q I b c h;obtain⟨i,j,rfl,rfl,e,q⟩:=h;obtain⟨t,rfl⟩:=b;obtain⟨d,rfl⟩:=c;exact add_str (λd f=>⟨.str (i++j),H,I.tok _,⟨_,rfl⟩,q⟩) e
theorem vals1(r:Vals [x] us):∃u,us=[u]/\RelV x u:=by
 cases r with
 |cons b a=>cases a;exact⟨_,rfl,b⟩
theorem vals2(r:Vals [x,y] us):∃u a,us=[u,a]/\RelV x u/\RelV y a:=by
 cases r with
 |cons d b=>
  cases b with
  |cons c e=>cases e;exact⟨_,_,rfl,d,c⟩
theorem qB:CallR X (.builtin "abs") (λxs H Q=>∃i,xs=[.int i]/\Q (.int (if i<0 then -i else i)) H):=by
 intro a s c H xs b Q I r h;obtain⟨i,rfl,q⟩:=h;obtain⟨u,rfl,t,rfl⟩:=vals1 r;exact call_abs_int λu d=>⟨.int (if i<0 then -i else i),H,I.tok _,⟨_,rfl⟩,q⟩
theorem oP(c:X.calm=true):CallR X (.builtin "max") (λxs H Q=>∃i j,xs=[.int i,.int j]/\Q (.int (if j>i then j else i)) H):=by
 intro b s l H xs d Q I r h;obtain⟨i,j,rfl,q⟩:=h;obtain⟨u,m,rfl,⟨t,rfl⟩,⟨e,rfl⟩⟩:=vals2 r;refine max_two_ints (I.ok.hd c) λf g k=>⟨_,H,I.kept k,?_,q⟩
 by_cases a:j>i
 ·rw[if_pos a,if_pos a];exact⟨_,rfl⟩
 ·rw[if_neg a,if_neg a];exact⟨_,rfl⟩
theorem oQ(c:X.calm=true):CallR X (.builtin "min") (λxs H Q=>∃i j,xs=[.int i,.int j]/\Q (.int (if j<i then j else i)) H):=by
 intro b s l H xs d Q I r h;obtain⟨i,j,rfl,q⟩:=h;obtain⟨u,m,rfl,⟨t,rfl⟩,⟨e,rfl⟩⟩:=vals2 r;refine min_two_ints (I.ok.hd c) λf g k=>⟨_,H,I.kept k,?_,q⟩
 by_cases a:j<i
 ·rw[if_pos a,if_pos a];exact⟨_,rfl⟩
 ·rw[if_neg a,if_neg a];exact⟨_,rfl⟩
theorem oR:CallR X (.type "int") (λxs H Q=>(∃i,xs=[.int i]/\Q (.int i) H)\/∃k,xs=[.bl k]/\Q (.int (if k then 1 else 0)) H):=by
 intro a s d H xs c Q I r h;rcases h with ⟨i,rfl,q⟩|⟨k,rfl,q⟩
 ·obtain⟨u,rfl,t,rfl⟩:=vals1 r;exact call_int_int ⟨.int i,H,I,⟨_,rfl⟩,q⟩
 ·obtain⟨u,rfl,b⟩:=vals1 r;cases b;exact call_int_bool ⟨.int (if k then 1 else 0),H,I.tok _,⟨_,rfl⟩,q⟩
def BX(K:Waa)(x:V)(H:Hp)(n:Nat):Prop:=
 match x with
 |.str y=>y.length<=sizeLine/\n=y.length
 |.byt y=>y.size<=sizeLine/\n=y.size
 |.ref p=>(∃a,SqL K H p a/\n=a.length)\/∃a,SqT K H p a/\n=a.length
 |_=>False
theorem qC:CallR X (.builtin "len") (λxs H Q=>∃x n,xs=[x]/\BX X.K x H n/\Q (.int n) H):=by
 intro j s w H xs m Q I r h;obtain⟨x,n,rfl,e,q⟩:=h;obtain⟨u,rfl,c⟩:=vals1 r;have o:=line63;have v:sizeLine=16777216:=acC;cases x with
 |str y=>obtain⟨t,rfl⟩:=c;obtain⟨k,b⟩:y.length<=sizeLine/\n=y.length:=e;subst b;exact len_str (by omega) ⟨.int _,H,I.tok _,⟨_,rfl⟩,q⟩
 |byt y=>obtain⟨t,rfl⟩:=c;obtain⟨k,b⟩:y.size<=sizeLine/\n=y.size:=e;subst b;exact PySem.W.len_bytes (by omega) ⟨.int _,H,I.tok _,⟨_,rfl⟩,q⟩
 |ref p=>
  cases c;have b:(∃xs,SqL X.K H p xs/\n=xs.length)\/∃xs,SqT X.K H p xs/\n=xs.length:=e;rcases b with ⟨xs,i,b⟩|⟨xs,i,b⟩
  ·subst b;obtain⟨d,f,g,l⟩:=I.list i;have a:=f.length;exact Calls.call_len_list g.isList (by simp only[aap];omega) ⟨.int xs.length,H,I.tok _,⟨_,by simp only[aap];rw[a]⟩,q⟩
  ·subst b;obtain⟨d,f,g,l⟩:=I.tuple i;have a:=f.length;exact len_tuple g (by simp only[aap];omega) ⟨.int xs.length,H,I.tok _,⟨_,by simp only[aap];rw[a]⟩,q⟩
 |_=>exact(show False from e).elim
end
section
structure ObjM (h:Heap)(x dx C:Addr)(mA:Str->Option Value):Prop where
 obj:h.get? x=some (PySem.W.instObj C dx)
 ns:h.Ns1 dx mA
 ne:dx≠x
theorem RelO.some_of(r:RelO (some v) o):∃u,o=some u/\RelV v u:=by
 cases o with
 |none=>exact(show False from r).elim
 |some u=>exact⟨u,rfl,r⟩
theorem RelO.none_of(r:RelO none o):o=none:=by
 cases o with
 |none=>rfl
 |some u=>exact(show False from r).elim
structure Cls (K:Waa)(C:Addr):Prop where
 pg:PySem.W.plainGet K C Str.empty=true
 hd:PySem.W.hasDictIn K C=true
 po:PySem.W.plainOver K C=true
 sa:PySem.W.findIn K (.ref C) "__setattr__"=some (some (.builtin "object.__setattr__"))
theorem Cls.get{K:Waa}{C:Addr}(c:Cls K C)(f:Str):PySem.W.plainGet K C f=true:=c.pg
def kO(K:Waa)(C:Addr)(f:Str):Prop:=PySem.W.findIn K (.ref C) f=some none
structure Con (K:Waa)(C:Addr)(f:Str)(v:V)(u:Value):Prop where
 at_:PySem.W.findIn K (.ref C) f=some (some u)
 rel:RelV v u
 get:PySem.W.specialIn K u "__get__"=some none
 cp:PySem.W.copiedNames.contains f=false
structure Meth (K:Waa)(C:Addr)(m:Str)(f:Addr):Prop where
 at_:PySem.W.findIn K (.ref C) m=some (some (.ref f))
 fn:PySem.W.isFn K (.ref f)=true
 kp:PySem.W.keepIn K (.ref f)=true
theorem Inv.made(I:Inv X pins σ H s):Inv X pins σ (upd (upd H s.heap.objs.size (.own (s.heap.objs.size+1))) (s.heap.objs.size+1) (.ins C s.heap.objs.size []))
  { s with heap:=(s.heap.push PySem.W.emptyDict).push (PySem.W.instObj C s.heap.objs.size) }:=by
 have c:(s.heap.push PySem.W.emptyDict).get? s.heap.objs.size=some PySem.W.emptyDict:=acp s.heap rfl;have f:((s.heap.push PySem.W.emptyDict).push (PySem.W.instObj C s.heap.objs.size)).get? (s.heap.objs.size+1)=some (PySem.W.instObj C s.heap.objs.size):=by
  have:=acp (s.heap.push PySem.W.emptyDict) (o:=PySem.W.instObj C s.heap.objs.size) rfl
  rwa [acx]at this
 have g:(s.heap.push PySem.W.emptyDict).Ns s.heap.objs.size (λ_=>none):=⟨PySem.W.emptyDict,#[],_,c,rfl,(λe d=>absurd d (by simp)),λ_=>rfl⟩
 have i:=I.laid (o:=.own (s.heap.objs.size+1)) (t':=s.toks) (λb u q=>aco _ q) (aag _) ⟨_,c⟩;refine i.laid (λb u q=>aco _ q) (abi (acx _ _)) ?_;have a:s.heap.objs.size≠s.heap.objs.size+1:=aam (abB _);refine⟨by rw[upd_ne a,aq],aaK _,a,f,λ_=>none,(Heap.Ns1.of_empty g).at λo q=>aco _ q,λ_=>True.intro,λy h=>absurd rfl h⟩
inductive TyOf (K:Waa)(H:Hp):V->Value->Prop where
 |non:TyOf K H .non (.type "NoneType")
 |bl (x:Bool):TyOf K H (.bl x) (.type "bool")
 |int (i:Int):TyOf K H (.int i) (.type "int")
 |str (x:Str):TyOf K H (.str x) (.type "str")
 |flt (x:UInt64):TyOf K H (.flt x) (.type "float")
 |lst {a:Addr}{xs:List V} (e:H a=some (.lst xs)):TyOf K H (.ref a) (.type "list")
 |frz {a:Addr}{o:Obj}{xs:List V} (e:H a=some (.frz o (.lst xs))):TyOf K H (.ref a) (.type "list")
 |tup {a:Addr}{xs:List V} (e:H a=some (.tup xs)):TyOf K H (.ref a) (.type "tuple")
 |dK {a:Addr}{kvs:List (Key×V)} (e:H a=some (.dK kvs)):TyOf K H (.ref a) (.type "dict")
 |dT {a:Addr}{kvs:List (List Key×V)} (e:H a=some (.dT kvs)):TyOf K H (.ref a) (.type "dict")
 |ins {a C dx:Addr}{fs:List (Str×V)} (e:H a=some (.ins C dx fs)) (cl:Cls K C) (ha:PySem.W.findIn K (.ref C) "__class__"=some (some (.builtin "object.__class__")))
   (hn:PySem.W.specialIn K (.builtin "object.__class__") "__get__"=some (some (.builtin "getset_descriptor.__get__"))) (htk:PySem.W.takesIn K (.builtin "object.__class__")=some true)
   (hm:PySem.W.mroIn K C (.type "object")=some true):TyOf K H (.ref a) (.ref C)
end
section
structure Room (k:Nat)(A:Around):Prop where
 hd:A.handled=none
 dp:A.depth+3*k+5<recursionLimit
 un:A.units+16*k+200<cLine
 gd:A.guards=some []
theorem Room.mono(r:Room k A)(h:j<=k):Room j A:=⟨r.hd,by have:=r.dp;omega,by have:=r.un;omega,r.gd⟩
theorem Room.deeper(r:Room (k+1) A)(env:Env):Room k (A.deeper env):=
 ⟨r.hd,by have:=r.dp;show A.depth+1+3*k+5<_;omega,by have:=r.un;show A.units+3+16*k+200<_;omega,r.gd⟩
theorem Room.in1(r:Room (k+1) A):Room k A.in1:=
 ⟨r.hd,by have:=r.dp;show A.depth+3*k+5<_;omega,by have:=r.un;show A.units+1+16*k+200<_;omega,r.gd⟩
theorem kP{A:Around}:(A.under (.builtin "type.__call__" ⟨.ref C::us,kw⟩)).depth=A.depth+1:=by
 first|rfl|simp[Around.under,Code.weight,Code.isCreation,Code.isGuard,Code.isCaller,Code.frames,Code.isFrame,guardIds]
theorem kQ{A:Around}:(A.under (.builtin "type.__call__" ⟨.ref C::us,kw⟩)).units=A.units+1:=by
 first|rfl|simp[Around.under,Code.cUnits,Code.frames,Code.isFrame]
theorem Room.make(r:Room (k+1) A)(C:Addr)(us:List Value)(a:List (Str×Value)):Room k (A.under (.builtin "type.__call__" ⟨.ref C::us,a⟩)):=
 ⟨r.hd,by have:=r.dp;rw[kP];omega,by have:=r.un;rw[kQ];omega,by first|exact r.gd|simp[Around.under,Code.isGuard,guardIds,r.gd]⟩
theorem Room.depth(r:Room k A):A.depth<recursionLimit:=by have:=r.dp;omega
theorem Room.units{A:Around}(r:Room k A):A.units+64<cLine:=by have:=r.un;omega
def tNil:TA:=λ_ H Q=>Q [] H
def BY(c:TE)(f:TA):TA:=λa H Q=>c a H λx e=>f a e λd b=>Q (x::d) b
theorem bw:PA X [] tNil:=λ_ _ _ _ H Q I h=>Calls.spliced_nil ⟨[],H,I,.nil,h⟩
theorem aO(l:PE X e te)(p:PA X es t)(g:starEach (e::es) X.env=(false,eval e X.env)::starEach es X.env:=by rfl):PA X (e::es) (BY te t):=by
 intro b a s c H Q I h;rw[g];show wpAny _ _ (spliced ((false,eval e X.env)::backTo b (starEach es X.env))) _ _ s;refine Calls.spliced_cons (thn (l a s c H _ I h) λu m q=>?_);obtain⟨x,k,r,i,j⟩:=q;exact thn (p b a m c k _ r j) λw y ⟨d,n,f,o,v⟩=>⟨x::d,n,f,.cons i o,v⟩
def FD(t:TA):TE:=λc H Q=>t c H λa b=>a.length<=sizeLine/\∀p,b p=none->Q (.ref p) (upd b p (.tup a))
def FE(t:TA):TE:=λc H Q=>t c H λa b=>a.length<=sizeLine/\∀p,b p=none->Q (.ref p) (upd b p (.lst a))
theorem qD{j}(h:PA X es t):PE X (.Tuple es j pos) (FD t):=by intro a s m H Q I k;refine wpAny_Tuple_spliced (thn (h pos a s m H _ I k) λg c ⟨i,d,f,r,z,q⟩=>⟨by rw[<-r.length];exact z,?_⟩);have l:d c.heap.objs.size=none:=f.hok.fresh (aag _);refine⟨.ref c.heap.objs.size,upd d c.heap.objs.size (.tup i),f.laid (t':=c.toks) (λb u e=>aco _ e) (aag _) ?_,rfl,q _ l⟩;exact⟨z,g,r,⟨_,acp _ rfl,rfl,_,rfl,rfl⟩⟩
theorem y7(h:PA X es t):PE X (.List es pos) (FE t):=by intro a s l H Q I j;refine wpAny_List_spliced (thn (h pos a s l H _ I j) λg c ⟨i,d,f,r,z,q⟩=>⟨by rw[<-r.length];exact z,?_⟩);have k:d c.heap.objs.size=none:=f.hok.fresh (aag _);refine⟨.ref c.heap.objs.size,upd d c.heap.objs.size (.lst i),f.laid (t':=c.toks) (λb u e=>aco _ e) (aag _) ?_,rfl,q _ k⟩;exact⟨z,g,0,r,acp _ rfl⟩
abbrev Sp:=List V->Hp->VK->XK->Prop
abbrev CXT:=List Env->Hp->Shared->XK->Value->Shared->Prop
structure Env0 (P:Program)(w:World)(K:Waa)(mg:Str->Option Value)(base:Heap)(A:Around)(outer:List Env)(s:Shared)(H:Hp):Prop where
 frames:A.frames=some outer
 mod:Mod K mg base
 bs:∀b o,base.get? b=some o->s.heap.get? b=some o/\H b=none
 bsz:base.objs.size<=s.heap.objs.size
 funs:s.heap.FunFrames base outer
 frf:∀b∈qi outer,H b=none
 hok:HOk P w H s.heap
 bare:AllBare s.gens
def CE(a:List Env)(P:Program)(w:World)(H:Hp)(s:Shared)(Q:VK)(u:Value)(b:Shared):Prop:=
 ∃v c,b.os=s.os/\AllBare b.gens/\Un (qi a) [] H c s.heap b.heap/\HOk P w c b.heap/\RelV v u/\Q v c
def CR(CX:CXT)(a:List Env)(P:Program)(w:World)(H:Hp)(s:Shared)(Q:VK)(E:XK)(r:Result)(b:Shared):Prop:=
 match r with
 |.ok (.ret u)=>CE a P w H s Q u b
 |.ok _=>False
 |.error e=>CX a H s E e b
structure FnOk (P:Program)(w:World)(K:Waa)(mg:Str->Option Value)(base:Heap)(CX:CXT)(k:Nat)(f:Addr)(fd:FuncData)(ps:List Str)(sp:Sp):Prop where
 len:∀vs H Q E,sp vs H Q E->vs.length=ps.length
 run:∀(A:Around) (outer:List Env) (s:Shared) (H:Hp) (args:Args) (us:List Value) (vs:List V) (Q:VK) (E:XK),Room k A->Env0 P w K mg base A outer s H->BindsTo s fd args (ps.zip us)->Vals vs us->sp vs H Q E ->
  codeAny (model P w) A (.call (.ref f) args) (CR CX outer P w H s Q E) s
theorem FnOk.mono{K:Waa}(F:FnOk P w K mg base CX j f fd ps sp)(h:j<=k):
  FnOk P w K mg base CX k f fd ps sp:=⟨F.len,λA a s H b c d Q E e=>F.run A a s H b c d Q E (e.mono h)⟩
theorem FnOk.imp{K:Waa}(F:FnOk P w K mg base CX k f fd ps sp)
  (h:∀vs H Q E,sp' vs H Q E->sp vs H Q E):FnOk P w K mg base CX k f fd ps sp':=
 ⟨λvs H Q E q=>F.len vs H Q E (h _ _ _ _ q),λA a s H b d vs Q E i c e g j=>F.run A a s H b d vs Q E i c e g (h _ _ _ _ j)⟩
theorem Env0.make{K:Waa}(e:Env0 P w K mg base A outer s H)(C:Addr)(us:List Value)(a:List (Str×Value)):
  Env0 P w K mg base (A.under (.builtin "type.__call__" ⟨.ref C::us,a⟩)) outer s H:=⟨by first|exact e.frames|(simpa[Around.under,Code.envs,Code.isFrame,pushEnvs] using e.frames),e.mod,e.bs,e.bsz,e.funs,e.frf,e.hok,e.bare⟩
theorem Env0.in1{K:Waa}(e:Env0 P w K mg base A outer s H):
  Env0 P w K mg base A.in1 outer s H:=⟨e.frames,e.mod,e.bs,e.bsz,e.funs,e.frf,e.hok,e.bare⟩
theorem Inv.env0(I:Inv X pins σ H s):Env0 X.prog X.w X.K X.mg X.base X.A X.stack s H:=
 ⟨I.ok.frames,I.ok.mod,I.bs,aas I.ok.bsz I.sz,I.stack,I.n0,I.hok,I.bare⟩
theorem Inv.after(I:Inv X pins σ H s)(h:CE X.stack X.prog X.w H s Q u s'):EP X pins σ Q u s':=by obtain⟨v,i,f,a,j,c,r,q⟩:=h;obtain⟨k,g,d,t,e⟩:=s';obtain rfl:e=s.os:=f;exact⟨v,i,I.call j c a (λb z=>absurd z (by simp)),r,q⟩
def xF(sp:Sp)(a:List V)(E:XK)(t:TA):TE:=λc H Q=>t c H λb d=>sp (b++a) d Q E
def Binds(K:Waa)(b:FuncData)(ps:List Str)(ds:List Value):Prop:=
 ∀(s:Shared) (a:List Value),K.In s.heap->(a++ds).length=ps.length->BindsTo s b ⟨a,[]⟩ (ps.zip (a++ds))
theorem Binds.all{K:Waa}{b:FuncData}{ps:List Str}(h:∀us:List Value,us.length=ps.length->bindArgs b ⟨us,[]⟩=pure (ps.zip us)):Binds K b ps []:=λs us _ a=>by rw[aaq]at a ⊢;exact .of_eq (h us a)
def Passes(CX:CXT)(X:Cx)(E:XK):Prop:=∀(a:List (Addr×Obj)) (c:St) (H:Hp) (s:Shared) (e:Value) (b:Shared),Inv X a c H s->CX X.stack H s E e b->X.xe e b
theorem y8(F:FnOk X.prog X.w X.K X.mg X.base CX k f fd ps sp)(l:Room k X.A)(c:Binds X.K fd ps ds)(j:Vals dvs ds)(m:Passes CX X E)
  (I:Inv X pins σ H s) (r:Vals vs us) (h:sp (vs++dvs) H Q E):wpAny (model X.prog X.w) X.A (call (.ref f) us) (EP X pins σ Q) X.xe s:=by
 have b:Vals (vs++dvs) (us++ds):=r.append j;have d:(us++ds).length=ps.length:=by rw[<-b.length];exact F.len _ _ _ _ h
 refine wpAny_call (acH (F.run X.A X.stack s H ⟨us,[]⟩ (us++ds) (vs++dvs) Q E l I.env0 (c s us I.pe d) b h) λr g a=>?_);cases r with
 |error e=>exact m pins σ H s e g I a
 |ok i=>
  cases i with
  |ret u=>exact I.after a
  |next=>exact False.elim a
  |brk=>exact False.elim a
  |cont=>exact False.elim a
theorem mJ(F:FnOk X.prog X.w X.K X.mg X.base CX k f fd ps sp)(u:Room k X.A)(i:Gl X x)(l:X.mg x=some (.ref f))(hk:PySem.W.keepIn X.K (.ref f)=true)(g:Binds X.K fd ps ds)(m:Vals dvs ds)(v:Passes CX X E)
  (n:PA X (e::es) t) (b:(x==("__debug__":Str))=false:=by decide) (j:starEach (e::es) X.env=(false,eval e X.env)::starEach es X.env:=by rfl) (c:(backTo pos (starEach es X.env)).any (·.1)=false:=by rfl):
  PE X (.Call (.Name x p) (e::es) [] pos) (xF sp dvs E t):=by
 intro a s o H Q I h;refine acM (my I i l ?_ b);refine PySem.W.callWith_K (h₀:=X.base) I.ok.mod.kin hk (thn (n pos a s o H _ I h) λy C ⟨z,B,d,r,q⟩=>⟨d.pe,?_⟩) j c;exact y8 F u g m v d r q
structure Mk (K:Waa)(C f:Addr):Prop where
 makes:PySem.W.makesIn K C=true
 init:PySem.W.findIn K (.ref C) "__init__"=some (some (.ref f))
 fn:PySem.W.isFn K (.ref f)=true
 kp:PySem.W.keepIn K (.ref C)=true
structure KBinds (K:Waa)(fd:FuncData)(ps ks:List Str)(g:List Value->List Value->List Value)(gV:List V->List V->List V):Prop where
 to:∀(s:Shared) (us ws:List Value),K.In s.heap->(g us ws).length=ps.length->BindsTo s fd ⟨us,ks.zip ws⟩ (ps.zip (g us ws))
 rel:∀{vs:List V}{us:List Value}{zs:List V}{ws:List Value},Vals vs us->Vals zs ws->Vals (gV vs zs) (g us ws)
structure FnScope (N P:List Str)(sc:Scope):Prop where
 kind:sc.kind=.function
 co:sc.isCoroutine=false
 gen:sc.isGenerator=false
 nd:N.Nodup
 pre:N.take P.length=P
 par:∀x∈P,sc.names.lookup x=some .local\/sc.names.lookup x=some .cell
 nofree:∀y∈sc.names,y.2≠.free
theorem hU{b:Str->Option NameKind}:∀{a:List (Str×Value)}{m:Str->Option Value},(∀v,(x,v) ∉ a)->bindL b a m x=m x
 |[],_,_=>rfl
 | (n,v)::r,m,h=>by
  unfold bindL;rw[hU λw c=>h w (aaf _ c)];split
  ·have:x≠n:=by rintro rfl;exact h v aah
   simp[this]
  ·rfl
theorem hV{b:Str->Option NameKind}:∀{a:List (Str×Value)}{m:Str->Option Value},(∀v,(x,v) ∉ a)->bindC b a m x=m x
 |[],_,_=>rfl
 | (n,v)::r,m,h=>by
  unfold bindC;rw[hV λw c=>h w (aaf _ c)];split
  ·rfl
  ·have:x≠n:=by rintro rfl;exact h v aah
   simp[this]
theorem hX{a:Str->Option NameKind}:∀{P:List Str}{vs:List Value}{i:Nat}{m:Str->Option Value},P.Nodup->P[i]?=some x->vs[i]?=some v->a x=some .local ->
  bindL a (P.zip vs) m x=some v
 |[],_,_,_,_,h,_,_=>by simp at h
 |_::_,[],_,_,_,_,h,_=>by simp at h
 |p::P,w::vs,0,m,nd,h1,h2,hk=>by simp at h1 h2;subst h1;subst h2;show bindL a ((p,w)::P.zip vs) m p=_;unfold bindL;rw[hU λv b=>(aay.mp nd).1 (abC b).1,if_pos hk];simp
 |p::P,w::vs,i+1,m,nd,h1,h2,hk=>by show bindL a ((p,w)::P.zip vs) m x=_;unfold bindL;exact hX (i:=i) (aay.mp nd).2 (by simpa using h1) (by simpa using h2) hk
theorem ia{a:Str->Option NameKind}:∀{P:List Str}{vs:List Value}{i:Nat}{m:Str->Option Value},P.Nodup->P[i]?=some x->vs[i]?=some v->a x≠some .local ->
  bindC a (P.zip vs) m x=some v
 |[],_,_,_,_,h,_,_=>by simp at h
 |_::_,[],_,_,_,_,h,_=>by simp at h
 |p::P,w::vs,0,m,nd,h1,h2,hk=>by simp at h1 h2;subst h1;subst h2;show bindC a ((p,w)::P.zip vs) m p=_;unfold bindC;rw[hV λv b=>(aay.mp nd).1 (abC b).1,if_neg hk];simp
 |p::P,w::vs,i+1,m,nd,h1,h2,hk=>by show bindC a ((p,w)::P.zip vs) m x=_;unfold bindC;exact ia (i:=i) (aay.mp nd).2 (by simpa using h1) (by simpa using h2) hk
def start(N:List Str)(vs:List V):St:=vs.map some++List.replicate (N.length-vs.length) none
def iQ(CX:CXT)(P:Program)(w:World)(K:Waa)(mg:Str->Option Value)(base:Heap)(N:List Str)(b:Str)(a:Scope)(f:Addr)(d:Value)(A:Around)(outer:List Env)(s:Shared)(H:Hp)(E:XK):Cx where
 prog:=P
 w:=w
 K:=K
 mg:=mg
 base:=base
 A:=A.deeper (envOfC b a s.heap.objs.size f d)
 N:=N
 s₀:=s
 H₀:=H
 env:=envOfC b a s.heap.objs.size f d
 outer:=outer
 stack:=envOfC b a s.heap.objs.size f d::outer
 ex:=[]
 calm:=true
 fn:=λ_=>true
 pn:=[]
 xe:=λe h=>wpAny (model P w) (A.deeper (envOfC b a s.heap.objs.size f d)) (leaving (envOfC b a s.heap.objs.size f d) e) (λ_ c=>CX outer H s E e c) (λg c=>CX outer H s E g c) h
theorem jL{sc:Scope}(h:sc.names.lookup x=some .cell):∃c,(cellsFrom n sc.names []).lookup x=some c:=by have q:=abX sc.names n [] (.inl h);exact aa7.mp q
theorem oS{K:Waa}
  (S:FnScope N ps scope) (D:A.handled=none) (g:Env0 P w K mg base A outer s H) (J:vs.length=ps.length) (r:Vals vs us)
  (x:InCallC s s.heap.objs.size (bindL (envOfC qual scope s.heap.objs.size f cd).kindOf (ps.zip us) λ_=>none) (cellsFrom (s.heap.objs.size+1) scope.names []) (bindC (envOfC qual scope s.heap.objs.size f cd).kindOf (ps.zip us) λ_=>none) s1):
  Inv (iQ CX P w K mg base N qual scope f cd A outer s H E) [] (start N vs) H s1:=by
 have I:ps.length<=N.length:=by have:=congrArg List.length S.pre;rw[aaV]at this;omega
 obtain⟨o,L,rfl,C⟩:=x.done;have j:∀b:Addr,b ∉ (iQ CX P w K mg base N qual scope f cd A outer s H E).ex:=λb z=>absurd (show b∈([]:List Addr) from z) (by simp);refine⟨⟨g.mod,S.kind,rfl,rfl,aag _,λy z c o d=>?_,λy l=>?_,λy c _ h=>?_,λ_=>D,Around.frames_deeper g.frames,.inr ⟨rfl,rfl⟩,λb z=>absurd z (j b),g.bs,g.bsz,λb _ _=>j b,λb z=>absurd z (j b),g.funs,g.frf⟩,
  rfl,g.bare,Un.kept C,⟨_,x.toInCall.ns,λi y v o d M=>?_⟩,λy c h=>⟨_,x.cell y c h⟩,g.hok.fresh (aag _),λy c h=>?_,λp n=>absurd (show p∈([]:List (Addr×Obj)) from n) (by simp),g.hok.kept C,?_⟩
 ·exact name_of_addr x.apart (aaW o) (aaW d)
 ·have l:scope.names.lookup y=some .cell\/scope.names.lookup y=some .free:=l;rcases l with l|l
  ·exact jL l
  ·exact absurd rfl (S.nofree _ (aaW l))
 ·exact abf (x.above y c (aaW h))
 ·have t:i<vs.length:=by
   unfold start at d;by_cases t:i<vs.length
   ·exact t
   ·rw[abD (by simpa using t)]at d;rw[abY]at d;split at d<;>cases d
  have F:vs[i]?=some v:=by
   unfold start at d;rw[abE (by simpa using t),aaz]at d;cases e:vs[i]? with
   |none=>rw[e]at d;cases d
   |some a=>rw[e]at d;cases d;rfl
  obtain⟨u,B,G⟩:=r.get F;have n:ps[i]?=some y:=by rw[<-S.pre,List.getElem?_take_of_lt (by omega)];exact o
  have m:ps.Nodup:=by rw[<-S.pre];exact S.nd.sublist (List.take_sublist _ _)
  refine⟨u,G,?_⟩;rcases S.par y (aa1 n) with k|k
  ·exact .inl ⟨k,hX m n B k⟩
  ·obtain⟨c,e⟩:=jL k;refine .inr ⟨.inl k,c,e,?_⟩;have q:=x.cell y c e;rw[ia m n B (by show scope.names.lookup y≠_;rw[k];decide)]at q;exact q
 ·exact g.hok.fresh (abf (x.above y c (aaW h)))
 ·unfold start;show _=N.length;rw[aau,aaa,abj];omega
theorem BZ{K:Waa}{U X z T c Z oc:Value}{O od:Option Addr}
  {B:Array (Option Value)}{N ps:List Str}{sp:Sp} (lk:K.lookup f=some ⟨oc,od,.func (PySem.W.fnOf name qual params body scope U X z T O c Z),B⟩) (C:PySem.W.codeIn K c qual=true) (S:FnScope N ps scope)
  (len:∀vs H Q E,sp vs H Q E->vs.length=ps.length)
  (i:∀(A:Around) (a:List Env) (s:Shared) (H:Hp) (vs:List V) (Q:VK) (E:XK),Room k (A.deeper (envOfC qual scope s.heap.objs.size f c))->sp vs H Q E ->
   ∃t,PSs (iQ CX P w K mg base N qual scope f c A a s H E) body t/\t { nx:=λ_ g=>Q .non g,rt:=Q } (start N vs) H):
  FnOk P w K mg base CX (k+1) f (PySem.W.fnOf name qual params body scope U X z T O c Z) ps sp:=by
 refine⟨len,λA a s H M us vs Q E L l hb r p=>?_⟩;have hl:=len _ _ _ _ p;have KX:K.In s.heap:=l.mod.kin.keeps λb o e=>(l.bs b o e).1;have G:s.heap.NoLimit:=l.mod.nolimit.keeps λb o e=>(l.bs b o e).1;have h:∀y∈ps.zip us,scope.names.lookup y.1=some .local\/(scope.names.lookup y.1=some .cell/\((cellsFrom (s.heap.objs.size+1) scope.names []).lookup y.1).isSome=true):=λ⟨n,v⟩ hy=>by
  rcases S.par n (abC hy).1 with q|q
  ·exact .inl q
  ·exact .inr ⟨q,abX _ _ _ (.inl q)⟩
 refine codeAny_call_function L.depth (KX _ _ lk) rfl S.co S.gen rfl (PySem.W.codeRec_of KX C) (hb _ _ _ _ ?_);refine wpAny_newFunctionEnv_cells S.kind h λa0 he Y x=>?_;subst he;refine⟨G.keeps x.toInCall.keep,codeAny_func ?_⟩;obtain⟨t,ht,hq⟩:=i A a s H vs Q E (L.deeper _) p;have I:Inv (iQ CX P w K mg base N qual scope f c A a s H E) [] (start N vs) H Y:=oS S L.hd l hl r x;refine acr (ht [] Y (start N vs) H _ I hq) (λfl F j=>?_) λe F j=>j;have m:∀{d:St}{g:Hp}{v:V}{u:Value},Inv (iQ CX P w K mg base N qual scope f c A a s H E) [] d g F->RelV v u->Q v g->CE a P w H s Q u F:=
  λ{d g v u} J D q=>⟨v,g,J.os,J.bare,J.base,J.hok,D,q⟩
 cases fl with
 |ret u=>obtain⟨v,d,g,J,D,q⟩:=j;exact m J D q
 |next=>obtain⟨d,g,J,q⟩:=j;exact m (v:=V.non) (u:=Value.none) J rfl q
 |brk=>obtain⟨_,_,_,q⟩:=j;exact False.elim q
 |cont=>obtain⟨_,_,_,q⟩:=j;exact False.elim q
end
section
section
variable{id T:String}
def FF(r:List V->Hp->VK->Prop)(t:TA):TE:=λb H Q=>t b H λa c=>r a c Q
theorem dJ(k:CallR X (.builtin id) r) (g:Gl X x) (l:X.mg x=none) (j:bootBuiltins x=some (.builtin id)) (v:PA X (e::es) t) (i:x≠"__name__":=by decide) (b:(x==("__debug__":Str))=false:=by decide)
  (m:starEach (e::es) X.env=(false,eval e X.env)::starEach es X.env:=by rfl) (c:(backTo pos (starEach es X.env)).any (·.1)=false:=by rfl):PE X (.Call (.Name x p) (e::es) [] pos) (FF r t):=by
 intro a s d H Q I h;refine acM (eF I g l j ?_ i b);exact PyProof.Rows.callWith_builtin1 (thn (v pos a s d H _ I h) λf w ⟨q,u,y,n,o⟩=>k a w d u q f Q y n o) m c
theorem bW(k:CallR X (.type T) r) (g:Gl X x) (l:X.mg x=none) (j:bootBuiltins x=some (.type T)) (v:PA X (e::es) t) (i:x≠"__name__":=by decide) (b:(x==("__debug__":Str))=false:=by decide)
  (m:starEach (e::es) X.env=(false,eval e X.env)::starEach es X.env:=by rfl) (c:(backTo pos (starEach es X.env)).any (·.1)=false:=by rfl):PE X (.Call (.Name x p) (e::es) [] pos) (FF r t):=by
 intro a s d H Q I h;refine acM (eF I g l j ?_ i b);exact abA (thn (v pos a s d H _ I h) λf w ⟨q,u,y,n,o⟩=>k a w d u q f Q y n o) m c
end
end
end L2
namespace HT
open PySem PyProof.Rows
theorem cat_tup(y:IsTup s.heap t vs.toArray)(v:IsTup s.heap b ws.toArray)(l:vs≠[])
  (z:ws=[]->Q (.ref t) s) (x:ws≠[]->Q (.ref s.heap.objs.size) { s with heap:=s.heap.push { cls:=.type "tuple",data:=.seq (vs++ws).toArray } })
  (k:vs.length+ws.length<=sizeLine):wpAny (model prog w) A (binaryOp .Add (.ref t) (.ref b)) Q E s:=by
 obtain⟨⟨cls,q,data,u⟩,h,m,n,p⟩:=id y;obtain⟨⟨r,c,j,g⟩,a,f,o,d⟩:=id v;simp only at m p f d;subst m p f d;have e:vs.toArray++ws.toArray=(vs++ws).toArray:=by simp
 by_cases i:ws=[]
 ·exact concat_meets ⟨_,h,rfl⟩ ⟨_,a,rfl⟩ acR seq_tuple_add abF abG (abH _ _)
   (tuple_addW1 t b vs.toArray ws.toArray n o q c u g (by simpa using l) (by simp[i])) ⟨h,a,z i⟩
 ·refine concat_meets ⟨_,h,rfl⟩ ⟨_,a,rfl⟩ acR seq_tuple_add abF abG (abH _ _)
   (tuple_addW2 t b vs.toArray ws.toArray n o q c u g (by simpa using l) (by simpa using i) (by rw[aap,aap];exact k)) ⟨h,a,?_⟩
  rw[e];exact x i
def sIx(n d:Nat):Option Int->Nat
 |none=>d
 |some v=>if v<0 then (v+(n:Int)).toNat else min v.toNat n
theorem y9(n d:Nat)(b:d<=n)(o:Option Int):sIx n d o<=n:=by
 cases o with
 |none=>exact b
 |some v=>
  show (if v<0 then (v+(n:Int)).toNat else min v.toNat n)<=n;by_cases a:v<0
  ·rw[if_pos a];omega
  ·rw[if_neg a];exact Nat.min_le_right _ _
theorem mK(v:Int)(n d:Nat):(if v<0 then max (v+(n:Int)) 0 else min v (n:Int))=((sIx n d (some v):Nat):Int):=by
 show (if v<0 then max (v+(n:Int)) 0 else min v (n:Int))=(((if v<0 then (v+(n:Int)).toNat else min v.toNat n):Nat):Int);by_cases a:v<0
 ·simp only[if_pos a];omega
 ·simp only[if_neg a];omega
theorem kR(lo hi:Option Int)(n:Nat):Builtin.Slice.sliceAdjust lo hi 1 (n:Int)=(((sIx n 0 lo:Nat):Int),((sIx n n hi:Nat):Int)):=by
 have a:¬ ((1:Int)<0):=by omega
 unfold Builtin.Slice.sliceAdjust;simp only[a,if_false];refine Prod.ext ?_ ?_
 ·cases lo with
  |none=>rfl
  |some v=>exact mK v n 0
 ·cases hi with
  |none=>rfl
  |some v=>exact mK v n n
theorem kS(i j:Nat):Builtin.Slice.slicePlaces (i:Int) (j:Int) 1=j-i:=by
 unfold Builtin.Slice.slicePlaces;have a:(1:Int)>0:=by omega
 simp only[a,if_true,Int.ediv_one];split<;>omega
theorem fY(p:IsPart v o)(h:Q o s):wpAny (model prog w) A (Builtin.Slice.slicePartIndex v) Q E s:=by
 cases p with
 |none=>exact slicePart_none h
 |int i t=>exact slicePart_int h
theorem eJ{lo hi:Option Int}{Q:Int×Int×Nat->Shared->Prop}(c:s.heap.IsSliceOf sl vl vu .none)(pl:IsPart vl lo)(d:IsPart vu hi)
  (h:Q (((sIx n 0 lo:Nat):Int),1,sIx n n hi-sIx n 0 lo) s):wpAny (model prog w) A (Builtin.Slice.sliceApplied (.ref sl) (pure (n:Int))) Q E s:=by
 obtain⟨f,a,e,b⟩:=id c;unfold Builtin.Slice.sliceApplied Builtin.Slice.sliceFields;refine acl (acl (acq a b rfl (acl (acq a b rfl (acl (acq a b rfl (acm ?_)))))));refine acl (slicePart_none ?_);show wpAny _ _ (if ((1:Int)==0)=true then _ else _) _ _ s;rw[if_neg (by decide)];refine acl (fY pl (acl (fY d (acl (acm ?_)))));show wpAny _ _ (match Builtin.Slice.sliceAdjust lo hi 1 (n:Int) with|(lo,hi)=>pure (lo,(1:Int),Builtin.Slice.slicePlaces lo hi 1)) _ _ s;rw[kR lo hi n];show wpAny _ _ (pure (((sIx n 0 lo:Nat):Int),(1:Int),Builtin.Slice.slicePlaces ((sIx n 0 lo:Nat):Int) ((sIx n n hi:Nat):Int) 1)) _ _ s;rw[kS];exact acm h
theorem qE(xs:Array Value)(i k:Nat):((List.range k).filterMap λ(m:Nat)=>xs[((i:Int)+(m:Int)*1).toNat]?).toArray=((xs.toList.drop i).take k).toArray:=by
 have e:(λ(m:Nat)=>xs[((i:Int)+(m:Int)*1).toNat]?)=λm=>xs[i+m]?:=by
  funext m;have:((i:Int)+(m:Int)*1).toNat=i+m:=by omega
  rw[this]
 rw[e];have:=pick_run xs i k;rw[List.filterMap_map]at this;have a:((λx=>xs[x]?) ∘ λx=>i+x)=λm=>xs[i+m]?:=rfl;rw[a]at this;rw[this]
theorem getItem_tuple_cut{lo hi:Option Int}(b:IsTup s.heap t items)(g:s.heap.IsSliceOf sl vl vu .none)(pl:IsPart vl lo)(j:IsPart vu hi)
  (m:¬ (sIx items.size 0 lo=0/\sIx items.size items.size hi=items.size))
  (h:Q (.ref s.heap.objs.size) { s with heap:=s.heap.push { cls:=.type "tuple",data:=.seq ((items.toList.drop (sIx items.size 0 lo)).take (sIx items.size items.size hi-sIx items.size 0 lo)).toArray } })
  (l:items.size<=sizeLine):wpAny (model prog w) A (getItem (.ref t) (.ref sl)) Q E s:=by
 have a:sizeOk (.seq ((items.toList.drop (sIx items.size 0 lo)).take (sIx items.size items.size hi-sIx items.size 0 lo)).toArray):=by show ((items.toList.drop (sIx items.size 0 lo)).take (sIx items.size items.size hi-sIx items.size 0 lo)).toArray.size<=sizeLine;rw[aap,aaV,aa8,aa6];omega
 have o:sIx items.size items.size hi<=items.size:=y9 _ _ (aag _) hi;obtain⟨k,c,e,i⟩:=id g;have f:s.TypeIs (.ref sl) "slice":=⟨k,c,e⟩
 unfold getItem
 try with_reducible refine acs ?_
 first|refine acl (acm ?_)|skip
 refine acl (wpAny_sequenceKey b.typeIs (by decide) ?_);refine acl (acI b.typeIs abI
  (acJ abI b.typeIs entry_tuple_getitem ?_ (args_tuple_getitem _ _)))
 show wpAny _ _ (Builtin.Tuple.tupleItemsOf (.ref t) >>= _) _ _ s;refine acl (tupleItemsOf_ b ?_);refine acl (wpAny_typeOf f ?_);rw[if_pos (by decide)];refine acl (eJ g pl j ?_);have d:¬ ((((sIx items.size 0 lo:Nat):Int)==0&&(1:Int)==1&&(sIx items.size items.size hi-sIx items.size 0 lo)==items.size)=true):=by intro q;rw[aat,aat]at q;have n:((sIx items.size 0 lo:Nat):Int)=0:=eq_of_beq q.1.1;have p:sIx items.size items.size hi-sIx items.size 0 lo=items.size:=eq_of_beq q.2;exact m ⟨by omega,by omega⟩
 show wpAny _ _ (if (((sIx items.size 0 lo:Nat):Int)==0&&(1:Int)==1&&(sIx items.size items.size hi-sIx items.size 0 lo)==items.size)=true then _ else _) _ _ s;rw[if_neg d,qE]
 first
  |exact acl (acw (acm ⟨_,rfl,acm h⟩) a)
  |exact acl (acw (acl (acm (acm ⟨_,rfl,acm h⟩))) a)
  |exact acl (acl (acw (acm (acm ⟨_,rfl,acm h⟩)) a))
  |exact acl (acl (acw (acm ⟨_,rfl,acm h⟩) a))
end HT
namespace L2
open PySem PySem.Spec PyProof.Rows
section
abbrev TO:=St->Hp->(Option Int->Hp->Prop)->Prop
def PO(X:Cx)(e:Option Expr)(t:TO):Prop:=
 ∀(a:List (Addr×Obj)) (s:Shared) (b:St) (H:Hp) (Q:Option Int->Hp->Prop),Inv X a b H s->t b H Q ->
  wpAny (model X.prog X.w) X.A (evalPart e X.env) (λu d=>∃o c,Inv X a b c d/\IsPart u o/\Q o c) X.xe s
def tNoPart:TO:=λ_ H Q=>Q none H
def B3(t:TE):TO:=λa H Q=>t a H λx b=>∃i,x=.int i/\Q (some i) b
section
variable{lo hi:Option Expr}
theorem uZ:PO X none tNoPart:=by intro a s b H Q I h;rw[evalPart_none];exact acm ⟨none,H,I,.none,h⟩
theorem u6(h:PE X e te):PO X (some e) (B3 te):=by intro a s f H Q I j;rw[evalPart_some];refine thn (h a s f H _ I j) λu l g=>?_;obtain⟨x,d,k,b,c⟩:=g;obtain⟨i,rfl,q⟩:=c;obtain⟨t,rfl⟩:=b;exact⟨some i,d,k,.int i t,q⟩
def SlR(X:Cx)(r:V->Option Int->Option Int->Hp->VK->Prop):Prop:=
 ∀(a:List (Addr×Obj)) (s:Shared) (d:St) (H:Hp) (x:V) (v c e:Value) (lo hi:Option Int) (b:Addr) (Q:VK),Inv X a d H s->RelV x v->s.heap.IsSliceOf b c e .none->IsPart c lo->IsPart e hi->r x lo hi H Q ->
  ∃T f,typeLookup (.type T) "__getitem__"=pure (some (.builtin f))/\s.TypeIs v T/\wpAny (model X.prog X.w) X.A (getItem v (.ref b)) (EP X a d Q) X.xe s
theorem SlR.or(h:SlR X r)(h':SlR X r'):SlR X (λx lo hi H Q=>r x lo hi H Q\/r' x lo hi H Q):=by
 intro a s i H x v c j lo hi f Q I b d g e q;rcases q with q|q
 ·exact h a s i H x v c j lo hi f Q I b d g e q
 ·exact h' a s i H x v c j lo hi f Q I b d g e q
def HG(r:V->Option Int->Option Int->Hp->VK->Prop)(e:TE)(tl th:TO):TE:=λa H Q=>e a H λx d=>tl a d λl b=>th a b λu c=>r x l u c Q
theorem jM{r:V->Option Int->Option Int->Hp->VK->Prop}(O:SlR X r)(n:PE X e te)(o:PO X lo tl)(t:PO X hi th):PE X (.Subscript e (.Slice lo hi none p2) pos) (HG r te tl th):=by intro a s d H Q I h;refine Subscript_ (thn (n a s d H _ I h) λv L i=>?_);obtain⟨x,G,P,z,D⟩:=i;refine wpAny_Slice (thn (o a L d G _ P D) λf S ⟨l,M,p,N,U⟩=>thn (t a S d M _ p U) λg c i=>?_);obtain⟨u,j,J,y,F⟩:=i;rw[evalPart_none];refine acm ?_;have B:Inv X a d j { c with heap:=c.heap.push { cls:=.type "slice",data:=.fields #[f,g,.none] } }:=J.kept (t':=c.toks) λb Y q=>aco _ q;obtain⟨T,W,C,m,k⟩:=O a { c with heap:=c.heap.push { cls:=.type "slice",data:=.fields #[f,g,.none] } } d j x v f g l u c.heap.objs.size Q B z (Heap.IsSliceOf.new ..) N y F;show wpAny (model X.prog X.w) X.A (subscriptTail e (.Slice lo hi none p2) v (.ref c.heap.objs.size)) (EP X a d Q) X.xe { c with heap:=c.heap.push { cls:=.type "slice",data:=.fields #[f,g,.none] } };exact tail_any (ops:=[.ref c.heap.objs.size,v]) m C k (by with_unfolding_all rfl)
def zd(xs:List V)(lo hi:Option Int):List V:=(xs.drop (HT.sIx xs.length 0 lo)).take (HT.sIx xs.length xs.length hi-HT.sIx xs.length 0 lo)
theorem jN(xs:List V)(lo hi:Option Int):(zd xs lo hi).length<=xs.length:=by unfold zd;rw[aaV,aa8];omega
def FG(K:Waa):V->Option Int->Option Int->Hp->VK->Prop:=λx lo hi H Q=>∃a b,x=.ref a/\SqT K H a b /\
 ¬ (HT.sIx b.length 0 lo=0/\HT.sIx b.length b.length hi=b.length)/\∀p,H p=none->Q (.ref p) (upd H p (.tup (zd b lo hi)))
theorem ze:SlR X (FG X.K):=by
 intro g s w H x v p y lo hi t Q I j k m l h;obtain⟨a,d,rfl,o,n,q⟩:=h;cases j;obtain⟨e,r,f,i⟩:=I.tuple o;have c:e.toArray.size=d.length:=by rw[aap];exact r.length.symm
 refine⟨"tuple",_,abI.lookup,f.typeIs,?_⟩;refine HT.getItem_tuple_cut f k m l (by rw[c];exact n) ?_ (by rw[c];exact i);rw[c];refine⟨.ref s.heap.objs.size,_,I.laid (λb u q=>aco _ q) (aag _) ?_,rfl,q _ (I.hok.fresh (aag _))⟩;exact⟨aas (jN d lo hi) i,_,(r.drop (HT.sIx d.length 0 lo)).take (HT.sIx d.length d.length hi-HT.sIx d.length 0 lo),⟨_,acp _ rfl,rfl,_,rfl,rfl⟩⟩
def B4(K:Waa):R2:=λx y H Q=>∃a b d c,x=.ref a/\y=.ref b/\SqT K H a d/\SqT K H b c/\d≠[]/\d.length+c.length<=sizeLine /\
 (c=[]->Q (.ref a) H)/\(c≠[]->∀p,H p=none->Q (.ref p) (upd H p (.tup (d++c))))
theorem Vals.eu(r:Vals xs us):us=[] ↔ xs=[]:=by
 cases r with
 |nil=>simp
 |cons _ _=>simp
theorem u7:OpR X (binaryOp .Add) (B4 X.K):=by intro f s D H x y v u Q I k n h;obtain⟨a,b,B,A,rfl,rfl,r,i,l,g,o,t⟩:=h;cases k;cases n;obtain⟨m,d,p,_⟩:=I.tuple r;obtain⟨e,c,j,_⟩:=I.tuple i;refine HT.cat_tup p j (λz=>l (d.eu.mp z)) (λz=>⟨.ref a,H,I,rfl,o (c.eu.mp z)⟩) (λz=>?_) (by rw[<-d.length,<-c.length];exact g);refine⟨.ref s.heap.objs.size,_,I.laid (λb C q=>aco _ q) (aag _) ?_,rfl,t (λw=>z (c.eu.mpr w)) _ (I.hok.fresh (aag _))⟩;exact⟨by rw[aau];exact g,_,d.append c,⟨_,acp _ rfl,rfl,_,rfl,rfl⟩⟩
end
end
section
def ixN(n:Nat)(i:Int):Option Nat:=if 0<=i then (if i<n then some i.toNat else none) else if -(n:Int)<=i then some (i+n).toNat else none
def atI{a:Type}(xs:List a)(i:Int):Option a:=(ixN xs.length i).bind λj=>xs[j]?
theorem ixN_seq(h:ixN n i=some j):seqIndex? i n=some j/\j<n/\-(n:Int)<=i/\i<n:=by
 unfold ixN at h;by_cases b:0<=i
 ·rw[if_pos b]at h;by_cases a:i<n
  ·rw[if_pos a]at h;have e:i.toNat=j:=aaD h;exact⟨by rw[seqIndex_of b a,e],by omega,by omega,a⟩
  ·rw[if_neg a]at h;cases h
 ·rw[if_neg b]at h;by_cases a:-(n:Int)<=i
  ·rw[if_pos a]at h;have e:(i+n).toNat=j:=aaD h;exact⟨by rw[seqIndex_neg (by omega) a,e],by omega,a,by omega⟩
  ·rw[if_neg a]at h;cases h
theorem atI_get{a:Type}{xs:List a}{i:Int}{v:a}(h:atI xs i=some v):∃j,seqIndex? i xs.length=some j/\xs[j]?=some v/\j<xs.length/\-(xs.length:Int)<=i/\i<xs.length:=by
 unfold atI at h;cases e:ixN xs.length i with
 |none=>rw[e]at h;cases h
 |some j=>rw[e]at h;obtain⟨d,c,b,f⟩:=ixN_seq e;exact⟨j,d,h,c,b,f⟩
def PlainIx(b:Expr):Prop:=∀o i,subscripted b false o i=operate [o,i] (getItem o i)
def IxR(X:Cx)(r:R2):Prop:=
 ∀(c a:Expr) (b:List (Addr×Obj)) (s:Shared) (d:St) (H:Hp) (x y:V) (v u:Value) (Q:VK),Inv X b d H s->RelV x v->RelV y u->r x y H Q ->
  subscripted a false v u=operate [v,u] (getItem v u)->wpAny (model X.prog X.w) X.A (subscriptTail c a v u) (EP X b d Q) X.xe s
def MtR(X:Cx)(id:String)(r:V->List V->Hp->VK->Prop):Prop:=
 ∀(a:List (Addr×Obj)) (s:Shared) (d:St) (H:Hp) (x:V) (c:List V) (v:Value) (b:List Value) (Q:VK),Inv X a d H s->RelV x v->Vals c b->r x c H Q ->
  wpAny (model X.prog X.w) X.A (call (.builtin id) (v::b)) (EP X a d Q) X.xe s
section
theorem IxR.or(h:IxR X r)(h':IxR X r'):IxR X (λx y H Q=>r x y H Q\/r' x y H Q):=by
 intro a b c s e H x y v u Q I g d q f;rcases q with q|q
 ·exact h a b c s e H x y v u Q I g d q f
 ·exact h' a b c s e H x y v u Q I g d q f
theorem MtR.or{id:String}(h:MtR X id r)(h':MtR X id r'):MtR X id (λx xs H Q=>r x xs H Q\/r' x xs H Q):=by
 intro a s c H x xs v b Q I d e q;rcases q with q|q
 ·exact h a s c H x xs v b Q I d e q
 ·exact h' a s c H x xs v b Q I d e q
theorem qF(m:IxR X r)(j:PE X a ta)(d:PE X b tb)(g:PlainIx b):PE X (.Subscript a b pos) (yV r ta tb):=by intro c s l H Q I h;exact Subscript_ (yW j d I h λv u n x y k f e i q=>m a b c n l k x y v u Q f e i q (g _ _))
def B5(K:Waa):R2:=λx y H Q=>∃p a i v,x=.ref p/\y=.int i/\SqL K H p a/\atI a i=some v/\Q v H
def B6(K:Waa):R2:=λx y H Q=>∃p a i v,x=.ref p/\y=.int i/\SqT K H p a/\atI a i=some v/\Q v H
def rIxS:R2:=λx y H Q=>∃z i c,x=.str z/\y=.int i/\z.length<=sizeLine/\atI z.cps.toList i=some c/\Q (.str ⟨#[c]⟩) H
theorem ix_list:IxR X (B5 X.K):=by
 intro d e a s o H x y v u Q I D L h m;obtain⟨p,P,i,z,rfl,rfl,J,F,q⟩:=h;cases D;obtain⟨t,rfl⟩:=L;obtain⟨f,r,k,T⟩:=I.list J;obtain⟨j,c,B,S,N,C⟩:=atI_get F;obtain⟨w,n,g⟩:=r.get B;have G:=r.length;have O:=line63;have b:EP X a o Q w s:=⟨z,H,I,g,q⟩
 by_cases A:0<=i
 ·have l:i.toNat=j:=by rw[seqIndex_of A C]at c;exact aaD c
  exact item_listR k.isList A (by omega) (by rw[l];simpa using n) b m
 ·have l:(i+(f.toArray.size:Int)).toNat=j:=by rw[seqIndex_neg (by omega) N]at c;rw[aap,<-G];exact aaD c
  exact subscriptTail_builtinR (x:=w) k.isList.typeIs slot_list_getitem.lookup
   (wpAny_getItem_list_neg (Q:=λr M=>r=w/\EP X a o Q r M) k.isList (by omega) (by rw[aap]<;>omega) (by omega) (by rw[l];simpa using n) ⟨rfl,b⟩) m
theorem ix_tup:IxR X (B6 X.K):=by
 intro b c a s g H x y v u Q I l D h A;obtain⟨p,M,i,z,rfl,rfl,C,m,q⟩:=h;cases l;obtain⟨t,rfl⟩:=D;obtain⟨n,r,f,O⟩:=I.tuple C;obtain⟨j,B,k,N,P,L⟩:=atI_get m;obtain⟨w,F,d⟩:=r.get k;have o:=r.length;have J:=line63;have e:EP X a g Q w s:=⟨z,H,I,d,q⟩
 exact subscriptTail_builtinR (x:=w) f.typeIs slot_tuple_getitem.lookup
  (getItem_tuple (j:=j) (Q:=λr G=>r=w/\EP X a g Q r G) f (by omega) (by omega) (by rw[aap,<-o];exact B) (by simpa using F) ⟨rfl,e⟩) A
theorem qG:IxR X rIxS:=by
 intro a b e s F H x y v u Q I m r h p;obtain⟨z,i,c,rfl,rfl,D,n,q⟩:=h;obtain⟨t,rfl⟩:=m;obtain⟨B,rfl⟩:=r;obtain⟨j,d,g,C,w,k⟩:=atI_get n;have o:z.cps.toList.length=z.length:=by simp[Str.length]
 rw[o]at d w k;have A:=line63;exact tail_any (acK s z t) slot_str_getitem.lookup (getItem_str (c:=c) (by
  have l:decide (i < -(2^63:Int))=false:=Dab (by omega);have f:decide (i ≥ 2^63)=false:=Dab (by omega);rw[l,f,Bool.or_false]) (by rw[d];simpa using g) ⟨.str ⟨#[c]⟩,H,I.tok _,⟨_,rfl⟩,q⟩) p
def HH(K:Waa):R2:=λx y H Q=>B5 K x y H Q\/B6 K x y H Q\/rIxS x y H Q
theorem qH:IxR X (HH X.K):=ix_list.or (ix_tup.or qG)
theorem kT(a:List Value)(n j:Nat)(u:Value):Obj.mapSeq (·.setIfInBounds j u) { cls:=.type "list",data:=.seq a.toArray n }={ cls:=.type "list",data:=.seq (a.set j u).toArray n }:=by simp[Obj.mapSeq]
theorem Inv.lst{b:List (Addr×Obj)}{σ:St}(I:Inv X b σ H s)(h:H p=some (.lst xs)):
  ∃(a:List Value) (n:Nat),Vals xs a/\s.heap.get? p=some { cls:=.type "list",data:=.seq a.toArray n }/\xs.length<=sizeLine:=by
 obtain⟨z,a,n,r,e⟩:=I.hok p _ h;exact⟨a,n,r,e,z⟩
theorem Inv.ub{xs ys:List V}{c a:List Value}{n d:Nat}{f:Obj->Obj}(I:Inv X pins σ H s)(h:H p=some (.lst xs))
  (j:s.heap.get? p=some { cls:=.type "list",data:=.seq c.toArray n }) (g:f { cls:=.type "list",data:=.seq c.toArray n }={ cls:=.type "list",data:=.seq a.toArray d }) (r:Vals ys a) (k:ys.length<=sizeLine) (t:Nat):
  Inv X pins σ (upd H p (.lst ys)) { s with heap:=s.heap.update p f,toks:=t }:=by
 have e:(s.heap.update p f).get? p=some { cls:=.type "list",data:=.seq a.toArray d }:=by rw[Heap.get?_update_self f j (by rw[g]<;>rfl),g]
 refine I.write (by rw[h];trivial) (.inl rfl) (λb u i q=>(Heap.get?_update_other _ _ (aaJ i)).trans q) ⟨_,e⟩ ?_;exact⟨k,a,d,r,e⟩
def rSetL:V->V->V->Hp->(Hp->Prop)->Prop:=λo i v H Q=>∃p a k j,o=.ref p/\i=.int k/\H p=some (.lst a)/\ixN a.length k=some j/\Q (upd H p (.lst (a.set j v)))
theorem set_list:PSet X rSetL:=by
 intro b s D H o i v L M u Q I F z A h;obtain⟨p,y,k,j,rfl,rfl,l,C,q⟩:=h;cases F;obtain⟨t,rfl⟩:=z;obtain⟨a,n,r,e,B⟩:=I.lst l;obtain⟨c,G,g,x⟩:=ixN_seq C;have d:=r.length;have J:=line63;have w:Inv X b D (upd H p (.lst (y.set j v))) { s with heap:=s.heap.update p (Obj.mapSeq (·.setIfInBounds j u)) }:=
  I.ub l e (kT a n j u) (r.set A j) (by rw[abk];exact B) s.toks
 by_cases m:0<=k
 ·have f:k.toNat=j:=by rw[seqIndex_of m x]at c;exact aaD c
  exact PySem.W.ki_setAt e m (by omega) (by rw[aap,<-d];exact x) (by rw[f];exact⟨_,w,q⟩)
 ·have f:(k+(a.toArray.size:Int)).toNat=j:=by rw[seqIndex_neg (by omega) g]at c;rw[aap,<-d];exact aaD c
  exact PySem.W.ki_setBack e (by omega) (by rw[aap,<-d];exact g) (by omega) (by rw[f];exact⟨_,w,q⟩)
def bL:V->Bool
 |.non=>true
 |.bl _=>true
 |.int _=>true
 |.str _=>true
 |_=>false
def eqV:V->V->Bool
 |.non,.non=>true
 |.bl a,.bl b=>a==b
 |.bl a,.int b=>(if a then 1 else 0)==b
 |.int a,.bl b=>a==(if b then 1 else 0)
 |.int a,.int b=>a==b
 |.str a,.str b=>a==b
 |_,_=>false
theorem zf(e:RelV y u)(c:RelV x v)(f:bL y=true)(fx:bL x=true):SeqAt.EqAt A s u v (eqV y x):=by
 cases y with
 |non=>
  cases e;cases x with
  |non=>cases c;exact SeqAt.EqAt.same _
  |bl b=>cases c;exact SeqAt.EqAt.none_bool b
  |int b=>obtain⟨t,rfl⟩:=c;exact SeqAt.EqAt.none_int b t
  |str b=>obtain⟨t,rfl⟩:=c;exact SeqAt.EqAt.none_str b t
  |_=>exact absurd (show false=true from fx) aak
 |bl a=>
  cases e;cases x with
  |non=>cases c;exact SeqAt.EqAt.bool_none a
  |bl b=>cases c;exact SeqAt.EqAt.bool_bool a b
  |int b=>obtain⟨t,rfl⟩:=c;exact SeqAt.EqAt.bool_int a b t
  |str b=>obtain⟨t,rfl⟩:=c;exact SeqAt.EqAt.bool_str a b t
  |_=>exact absurd (show false=true from fx) aak
 |int a=>
  obtain⟨d,rfl⟩:=e;cases x with
  |non=>cases c;exact SeqAt.EqAt.int_none a d
  |bl b=>cases c;exact SeqAt.EqAt.int_bool a d b
  |int b=>obtain⟨t,rfl⟩:=c;exact SeqAt.EqAt.int_int a d b t
  |str b=>obtain⟨t,rfl⟩:=c;exact SeqAt.EqAt.int_str a d b t
  |_=>exact absurd (show false=true from fx) aak
 |str a=>
  obtain⟨d,rfl⟩:=e;cases x with
  |non=>cases c;exact SeqAt.EqAt.str_none a d
  |bl b=>cases c;exact SeqAt.EqAt.str_bool a d b
  |int b=>obtain⟨t,rfl⟩:=c;exact SeqAt.EqAt.str_int a d b t
  |str b=>obtain⟨t,rfl⟩:=c;exact SeqAt.EqAt.str_str a d b t
  |_=>exact absurd (show false=true from fx) aak
 |_=>exact absurd (show false=true from f) aak
def kU(x:V)(u:Value):Bool:=match u with
 |.none=>eqV .non x
 |.bool b=>eqV (.bl b) x
 |.int i _=>eqV (.int i) x
 |.str z _=>eqV (.str z) x
 |_=>false
theorem qI(r:RelV y u)(f:bL y=true):kU x u=eqV y x:=by
 cases y with
 |non=>cases r;rfl
 |bl b=>cases r;rfl
 |int i=>obtain⟨t,rfl⟩:=r;rfl
 |str z=>obtain⟨t,rfl⟩:=r;rfl
 |_=>exact absurd (show false=true from f) aak
theorem dM:∀{xs:List V}{us:List Value},Vals xs us->xs.all bL=true->us.any (kU x)=xs.any λy=>eqV y x
 |_,_,.nil,_=>rfl
 |y::xs,u::us,.cons r t,f=>by rw[List.all_cons,aat]at f;rw[aaP,aaP,qI r f.1,dM t f.2]
theorem cG(b:RelV x v)(fx:bL x=true):∀{xs:List V}{us:List Value},Vals xs us->xs.all bL=true->∀u∈us,SeqAt.EqAt A s u v (kU x u)
 |_,_,.nil,_=>λu a=>by cases a
 |y::xs,u::us,.cons r t,f=>λc a=>by
  rw[List.all_cons,aat]at f;rcases aab.mp a with rfl|a
  ·rw[qI r f.1];exact zf r b f.1 fx
  ·exact cG b fx t f.2 c a
def inV(x:V)(xs:List V):Bool:=xs.any λy=>eqV y x
def FH(K:Waa)(neg:Bool):R2:=λx y H Q=>∃p a,y=.ref p/\(SqL K H p a\/SqT K H p a)/\bL x=true/\a.all bL=true/\Q (.bl (if neg then !inV x a else inV x a)) H
theorem oT:OpR X (compareOp .In) (FH X.K false):=by
 intro g s m H x y v u Q I f j h;obtain⟨p,l,rfl,b,i,c,q⟩:=h;cases j;rcases b with b|b
 ·obtain⟨a,r,d,k⟩:=I.list b;refine SeqAt.in_listAt (kU x) d.isList (λw e=>cG f i r c w (by simpa using e)) ⟨.bl _,H,I,rfl,?_⟩;rw[show a.toArray.any (kU x)=a.any (kU x) by simp,dM r c];exact q
 ·obtain⟨a,r,d,k⟩:=I.tuple b;refine SeqAt.in_tupleAt (kU x) d (λw e=>cG f i r c w (by simpa using e)) ⟨.bl _,H,I,rfl,?_⟩;rw[show a.toArray.any (kU x)=a.any (kU x) by simp,dM r c];exact q
theorem iR:OpR X (compareOp .NotIn) (FH X.K true):=by
 intro g s m H x y v u Q I f j h;obtain⟨p,l,rfl,b,i,c,q⟩:=h;cases j;rcases b with b|b
 ·obtain⟨a,r,d,k⟩:=I.list b;refine SeqAt.notIn_listAt (kU x) d.isList (λw e=>cG f i r c w (by simpa using e)) ⟨.bl _,H,I,rfl,?_⟩;rw[show a.toArray.any (kU x)=a.any (kU x) by simp,dM r c];exact q
 ·obtain⟨a,r,d,k⟩:=I.tuple b;refine SeqAt.notIn_tupleAt (kU x) d (λw e=>cG f i r c w (by simpa using e)) ⟨.bl _,H,I,rfl,?_⟩;rw[show a.toArray.any (kU x)=a.any (kU x) by simp,dM r c];exact q
theorem iS:OpR X (compareOp .NotIn) (λx y H Q=>∃i j,x=.str i/\y=.str j/\Q (.bl (!(!(Builtin.Str.occurrences j i 0 j.length 1).isEmpty))) H):=by intro a s e H x y v u Q I c b h;obtain⟨i,j,rfl,rfl,q⟩:=h;obtain⟨t,rfl⟩:=c;obtain⟨d,rfl⟩:=b;exact notIn_str ⟨.bl _,H,I,rfl,q⟩
theorem iT:CallR X (.builtin "len") (λxs H Q=>∃z,xs=[.str z]/\z.length<=sizeLine/\Q (.int z.length) H):=by intro a s e H xs b Q I r h;obtain⟨z,rfl,c,q⟩:=h;obtain⟨u,rfl,t,rfl⟩:=vals1 r;have d:=line63;exact len_str (by omega) ⟨.int z.length,H,I.tok _,⟨_,rfl⟩,q⟩
theorem CallR.or(h:CallR X f r)(h':CallR X f r'):CallR X f (λxs H Q=>r xs H Q\/r' xs H Q):=by
 intro a s c H xs b Q I d q;rcases q with q|q
 ·exact h a s c H xs b Q I d q
 ·exact h' a s c H xs b Q I d q
theorem iU:CallR X (.type "list") (λxs H Q=>∃p ys,xs=[.ref p]/\(SqL X.K H p ys\/SqT X.K H p ys)/\∀l,H l=none->Q (.ref l) (upd H l (.lst ys))):=by
 intro i s C H xs D Q I r h;obtain⟨p,ys,rfl,g,q⟩:=h;obtain⟨u,rfl,B⟩:=vals1 r;cases B;have k:∀(a:List Value),Vals ys a->ys.length<=sizeLine->∀(c:Heap) (f:Nat),(∀b A,s.heap.get? b=some A->c.get? b=some A) ->
   c.get? s.heap.objs.size=some { cls:=.type "list",dict:=none,data:=.seq a.toArray f,slots:=#[] }->EP X i C Q (.ref s.heap.objs.size) { s with heap:=c }:=λa d j c f t e=>
  ⟨.ref s.heap.objs.size,_,I.laid t (aag _) (show ObjOk X.prog X.w _ c _ (.lst ys) from ⟨j,a,f,d,e⟩),rfl,q _ (I.hok.fresh (aag _))⟩
 rcases g with g|g
 ·obtain⟨a,d,z,j⟩:=I.list g;have m:=d.length;obtain⟨o,x,v,n,y⟩:=z.isList;exact call_list_seq p (.inl rfl) x v y (λc f t e=>k a d j c f t e) (by simp only[aap]<;>omega)
 ·obtain⟨a,d,z,j⟩:=I.tuple g;have m:=d.length;obtain⟨o,x,v,n,y⟩:=z;exact call_list_seq p (.inr rfl) x v y (λc f t e=>k a d j c f t e) (by simp only[aap]<;>omega)
theorem g9:CallR X (.type "tuple") (λxs H Q=>∃p ys,xs=[.ref p]/\((SqL X.K H p ys/\∀l,H l=none->Q (.ref l) (upd H l (.tup ys)))\/(SqT X.K H p ys/\Q (.ref p) H))):=by
 intro a s m H xs y Q I r h;obtain⟨p,ys,rfl,h⟩:=h;obtain⟨u,rfl,t⟩:=vals1 r;cases t;rcases h with ⟨g,q⟩|⟨g,q⟩
 ·obtain⟨c,f,i,k⟩:=I.list g;have j:=f.length;refine call_tuple_list i.isList (λd x=>?_) (by simp only[aap]<;>omega);have n:Inv X a m H { s with heap:=d }:=I.kept x;have v:Inv X a m (upd H d.objs.size (.tup ys)) { s with heap:=d.push { cls:=.type "tuple",data:=.seq c.toArray } }:=
   n.laid (λb o e=>aco _ e) (aag _) (show ObjOk X.prog X.w _ _ _ (.tup ys) from ⟨k,c,f,⟨_,acp _ rfl,rfl,_,rfl,rfl⟩⟩)
  exact⟨.ref d.objs.size,_,v,rfl,q _ (n.hok.fresh (aag _))⟩
 ·obtain⟨c,f,i,k⟩:=I.tuple g;exact call_tuple_same i ⟨.ref p,H,I,rfl,q⟩
def FI(K:Waa)(T:String)(x:V)(H:Hp):Prop:=match x with
 |.str _=>T="str"
 |.int _=>T="int"
 |.ref p=>(T="list"/\∃b,SqL K H p b)\/(T="tuple"/\∃b,SqT K H p b) \/
   (T="dict"/\((∃a,H p=some (.dK a))\/∃a,H p=some (.dT a)))\/(T="set"/\∃S n,H p=some (.set S n))
 |_=>False
theorem qJ{f:List (Addr×Obj)}{σ:St}(I:Inv X f σ H s)(r:RelV x v)(g:FI X.K T x H):
  s.TypeIs v T/\∀a,v=.ref a->∃l,s.heap.get? a=some l/\l.dict=none:=by
 cases x with
 |str z=>obtain⟨t,rfl⟩:=r;cases (show T="str" from g);exact⟨acK s z t,λ_ e=>nomatch e⟩
 |int i=>obtain⟨t,rfl⟩:=r;cases (show T="int" from g);exact⟨typeIs_int s i t,λ_ e=>nomatch e⟩
 |ref p=>
  cases r;rcases g with ⟨rfl,w,A⟩|⟨rfl,w,b⟩|⟨rfl,b⟩|⟨rfl,S,n,b⟩
  ·obtain⟨u,_,m,_⟩:=I.list A;refine⟨m.isList.typeIs,λa e=>?_⟩;cases e;obtain⟨o,n,e,c,y,_⟩:=m;exact⟨o,e,y⟩
  ·obtain⟨o,k,q,B⟩:=I.tupN b;refine⟨⟨o,k,q⟩,λa e=>?_⟩;cases e;exact⟨o,k,B⟩
  ·have z:∃o,s.heap.get? p=some o/\o.ExactDict:=by
    rcases b with ⟨j,b⟩|⟨j,b⟩
    ·obtain⟨_,_,_,_,o,_,_,e,d,_⟩:=I.hok p _ b;exact⟨o,e,d⟩
    ·obtain⟨_,_,_,_,o,_,_,e,d,_⟩:=I.hok p _ b;exact⟨o,e,d⟩
   obtain⟨o,e,d⟩:=z;refine⟨⟨o,e,d.1⟩,λa h=>?_⟩;cases h;exact⟨o,e,d.2.1⟩
  ·obtain⟨o,_,_,_,e,d,_⟩:=I.hok p _ b;refine⟨⟨o,e,d.1⟩,λa h=>?_⟩;cases h;exact⟨o,e,d.2.1⟩
 |_=>exact False.elim g
def FJ(K:Waa)(T:String)(r:V->List V->Hp->VK->Prop)(c:TE):TE:=λb H Q=>c b H λx a=>FI K T x a/\r x [] a Q
def HI(K:Waa)(T:String)(r:V->List V->Hp->VK->Prop)(e:TE)(t:TA):TE:=λa H Q=>e a H λx b=>FI K T x b/\t a b λd c=>r x d c Q
variable{T id:String}
theorem zg(u:PlainAttrs T) (d:Slot T name id) (e:typeOf (.builtin id)=pure (.type "method_descriptor")) (k:MtR X id r) (m:PE X o to)
  (c:attributeBase o name X.env (eval o X.env)=eval o X.env:=by rfl) (b:(apos.endLine==cpos.line)=true:=by rfl):PE X (.Call (.Attribute o name apos) [] [] cpos) (FJ X.K T r to):=by
 intro a s g H Q I h;refine wpAny_Call_method0_late c b (thn (m a s g H _ I h) λv t w=>?_);obtain⟨x,q,i,f,l,p⟩:=w;obtain⟨n,j⟩:=qJ i f l;exact⟨T,id,u,d,e,n,j,Calls.callWith_builtin rfl (PySem.evalArgs_none (k a t g q x [] v [] Q i f .nil p))⟩
theorem mL(M:PlainAttrs T) (f:Slot T name id) (i:typeOf (.builtin id)=pure (.type "method_descriptor")) (q:MtR X id r) (w:PE X o to) (F:PA X (e::es) t)
  (d:attributeBase o name X.env (eval o X.env)=eval o X.env:=by rfl)
  (g:((backTo cpos (starEach (e::es) X.env)).all (λx=>!x.1)&&(backToKw cpos (keywordEach [] X.env)).all (λx=>x.1.isSome)
   && decide ((e::es).length+([]:List Keyword).length+(if ([]:List Keyword).isEmpty then 0 else 1)<30))=true:=by rfl)
  (c:(apos.endLine==cpos.line)=true:=by rfl) (z:starEach (e::es) X.env=(false,eval e X.env)::starEach es X.env:=by rfl) (b:(backTo cpos (starEach es X.env)).any (·.1)=false:=by rfl):
  PE X (.Call (.Attribute o name apos) (e::es) [] cpos) (HI X.K T r to t):=by
 intro a s j H Q I h;refine wpAny_Call_method_late d g c rfl (thn (w a s j H _ I h) λv G N=>?_);obtain⟨x,D,m,l,u,B⟩:=N;obtain⟨A,p⟩:=qJ m l u;refine⟨T,id,M,f,i,A,p,?_⟩;have k:=F cpos a G j D _ m B;rw[z]at k ⊢;refine Calls.callWith_builtin (by show (false||(backTo cpos (starEach es X.env)).any (·.1))=false;rw[b]<;>rfl) (Calls.evalArgs_plain ?_);exact thn k λn O ⟨C,J,y,L,P⟩=>q a O j J x C v n Q y l L P
end
end
section
def GY(X:Cx)(id:String)(r:V->List V->Hp->VK->Prop):Prop:=
 ∀(a:List (Addr×Obj)) (s:Shared) (d:St) (H:Hp) (x:V) (c:List V) (v:Value) (b:List Value) (Q:VK),Inv X a d H s->RelV x v->Vals c b->r x c H Q ->
  wpAny (model X.prog X.w) X.A (call (.builtin id) (v::b)) (EP X a d Q) X.xe s
theorem Vals.one(h:Vals [x] us):∃u,us=[u]/\RelV x u:=by
 cases h with|cons r t=>cases t;exact⟨_,rfl,r⟩
theorem Vals.two(h:Vals [x,y] us):∃u v,us=[u,v]/\RelV x u/\RelV y v:=by
 cases h with|cons r t=>cases t with|cons q t=>cases t;exact⟨_,_,rfl,r,q⟩
theorem Vals.zero:∀{us:List Value},Vals [] us->us=[]
 |_,.nil=>rfl
theorem Vals.eraseIdx:∀{xs:List V}{us:List Value} (i:Nat),Vals xs us->Vals (xs.eraseIdx i) (us.eraseIdx i)
 |_,_,_,.nil=>.nil
 |_,_,0,.cons _ t=>t
 |_,_,i+1,.cons r t=>.cons r (Vals.eraseIdx i t)
theorem Vals.reverse(h:Vals xs us):Vals xs.reverse us.reverse:=by
 induction h with
 |nil=>exact .nil
 |cons r t a=>rw[abl,abl];exact Vals.append a (.cons r .nil)
theorem Inv.lset{b a:List Value}{n:Nat}{f:Array Value->Array Value}{t':Nat}(I:Inv X pins σ H s)(c:H l=some (.lst xs))
  (e:s.heap.get? l=some { cls:=.type "list",data:=.seq b.toArray n }) (i:f b.toArray=a.toArray) (h:Vals ys a) (g:ys.length<=sizeLine):
  Inv X pins σ (upd H l (.lst ys)) { s with heap:=s.heap.update l (Obj.mapSeq f),toks:=t' }:=by
 have q:=PySem.IsL.update e f;rw[i]at q;refine I.write (by rw[c];exact trivial) (.inl rfl) (λk u d j=>(Heap.get?_update_other s.heap (Obj.mapSeq f) (aaJ d)).trans j) ⟨_,q⟩ ?_;exact⟨g,a,_,h,q⟩
theorem Inv.lnew{t':Nat}(I:Inv X pins σ H s)(b:Vals ys its)(a:ys.length<=sizeLine):
  Inv X pins σ (upd H s.heap.objs.size (.lst ys)) { s with heap:=s.heap.push { cls:=.type "list",data:=.seq its.toArray },toks:=t' }:=
 I.laid (λ_ _ q=>aco _ q) (aag _) ⟨a,its,0,b,acp _ rfl⟩
theorem Inv.fresh(I:Inv X pins σ H s):H s.heap.objs.size=none:=I.hok.fresh (aag _)
theorem Inv.lstM(I:Inv X pins σ H s)(b:H l=some (.lst xs)):xs.length<=sizeLine/\∃(a:List Value) (n:Nat),Vals xs a/\xs.length=a.length/\s.heap.get? l=some { cls:=.type "list",data:=.seq a.toArray n }:=by obtain⟨z,a,n,r,e⟩:=I.hok l _ b;exact⟨z,a,n,r,r.length,e⟩
def rAppend:V->List V->Hp->VK->Prop:=λx b H Q=>∃l a y,x=.ref l/\b=[y]/\H l=some (.lst a)/\a.length<sizeLine/\Q .non (upd H l (.lst (a++[y])))
theorem ib:GY X "list.append" rAppend:=by intro c s p H x m v i Q I d g h;obtain⟨l,k,y,rfl,rfl,b,o,q⟩:=h;cases d;obtain⟨u,rfl,f⟩:=g.one;obtain⟨z,a,n,r,j,e⟩:=I.lstM b;refine call_meets F.slot_list_append ⟨_,e,rfl⟩ F.entry_list_append (F.args_list_append_2 _ _) (PySem.list_append l a.toArray n u (by rw[aap];omega)) ⟨e,?_⟩;refine⟨.non,_,I.lset b e (by simp) (r.append (.cons f .nil)) ?_,rfl,q⟩;rw[aau,aaQ];omega
def rReverse:V->List V->Hp->VK->Prop:=λx b H Q=>∃l a,x=.ref l/\b=[]/\H l=some (.lst a)/\Q .non (upd H l (.lst a.reverse))
theorem kW:GY X "list.reverse" rReverse:=by intro d s o H x m v i Q I f g h;obtain⟨l,k,rfl,rfl,c,q⟩:=h;cases f;have b:=g.zero;subst b;obtain⟨z,a,n,r,j,e⟩:=I.lstM c;refine call_meets F.slot_list_reverse ⟨_,e,rfl⟩ F.entry_list_reverse (F.args_list_reverse_1 _) (AutoSeq1.list_reverse_list_0 l a.toArray n (by rw[aap];omega)) ⟨e,?_⟩;refine⟨.non,_,I.lset c e (by simp) r.reverse ?_,rfl,q⟩;rw[List.length_reverse];omega
end
end L2
namespace Att
open PySem PySem.W PySem.Calls PyProof.Rows
theorem fJ:∀(ns:List Int) (vs:List Value),WellAll P h vs (ns.map WData.int)->IntsAre vs ns:=by
 intro ns;induction ns with
 |nil=>intro vs w;rw[aaL]at w;cases w;exact .nil
 |cons n ns c=>
  intro vs w;rw[aaj]at w;cases w with
  |cons a b=>cases a;exact .cons _ _ (c _ b)
theorem oU{l:OpenLaw}(o:l.most=some n)
  (b:l.row.toRowW.claim.pre args=true) (j:WellAll P h vals args):
  ∃a vs ns,vals=[Value.ref a]/\args=[WData.list (ns.map WData.int)]/\h.get? a=some { cls:=.type "list",data:=.seq vs.toArray }/\IntsAre vs ns/\ns.length<=n:=by
 have i:WShape.hasAll [] args [.list .int]=true:=(pre_splitW b).1;have k:l.pre.holds [] { args:=args }=true:=(pre_splitW b).2;obtain⟨d,r,rfl,s,m⟩:=hasAllW_cons i;obtain rfl:=hasAllW_nil m;obtain⟨x,rfl,u⟩:=hasW_list s;obtain⟨ns,rfl⟩:=items_int u;have e:ns.length<=n:=by
  unfold OpenLaw.pre at k;have g:(WTm.not (.lt (.lit (.int (n:Int))) (.len (.arg 0)))).holds [] { args:=[.list (ns.map .int)] }=true:=by have g:=(holds_andW k).1;rw[o]at g;exact g
  have f:=condW_of g (w_not (w_lt w_lit (w_len_list (w_arg rfl))));rw[aaa]at f;refine Nat.le_of_not_lt λq=>?_;have t:(n:Int)<((ns.length:Nat):Int):=by omega
  first
   | (rw[Dac t]at f;exact absurd f (by decide))
   | (simp at f;omega)
 cases j with
 |cons w v=>
  cases v;cases w with
  |list p c=>exact⟨_,_,ns,rfl,rfl,p,fJ ns _ c,e⟩
theorem oV(l:OpenLaw)(args:List WData):l.row.toRowW.claim.post args (.bool true) args=true:=
 postW_of
  (show WShape.has [] (.bool true) .bool=true by first|rfl|decide|simp[WShape.has,WShape.arms,WShape.armsAll])
  (show (WTm.eq .res (.lit (.bool true))).value [] { args:=args,res:=some (.bool true),after:=args }=some (.bool (true==true)) from w_eq_bool (w_res rfl) w_lit) rfl
theorem attach_call{l:OpenLaw}
  (I:l.most=some n) (u:d.params.defaults=[])
  (call:∀(w:World) (c b:Shared) (p v:Str->Option Value) (j:Addr) (o:Obj) (t m g:Value) (a:Addr) (vs:List Value) (ns:List Int),
   Ground q loose [] XP w c p v b.heap->YP w b.heap ->
   b.heap.get? j=some o->o.data=.func (docDef d.name d.params d.body d.scope t m g)->b.heap.CodeRec m d.name->p d.name=some (.ref j) ->
   b.heap.get? a=some { cls:=.type "list",data:=.seq vs.toArray }->IntsAre vs ns->ns.length<=n->b.gens=#[] ->
   codeAny (model l.prog w) callerA (.call (.ref j) ⟨[.ref a],[]⟩) (λr s=>r=.ok (.ret (.bool true))/\OldK b.heap s.heap/\s.os=b.os/\AllBare s.gens) b):
  WalkO q loose XP YP l.row.toRowW d [] (λf vs=>PySem.call f vs):=by
 intro w c b p v G Y j o t m g O Q M N y C z F A D W h B S x J;obtain rfl:O=.none:=Dflts.none C u;obtain rfl:Q=.none:=Dflts.noKw C;obtain⟨a,vs,ns,rfl,rfl,i,e,k⟩:=oU I h x;refine enter_call (acH (call w c b p v j o t m g a vs ns G Y M (fd_plain N) y z i e k F) λr s P=>?_);obtain⟨rfl,H,T,U⟩:=P;exact⟨.inl ⟨.bool true,.bool true,[],rfl,λ_=>rfl,.bool true,oV l _,λ_=>⟨List.Pairwise.nil,λ_ L=>(nomatch L)⟩⟩,H,T,U⟩
section
variable{K:Frag}
end
end Att
namespace L2
open PySem PySem.Spec PyProof.Rows
section
theorem vals_ints:∀{vs:List Value}{ns:List Int},IntsAre vs ns->Vals (ns.map V.int) vs
 |_,_,.nil=>.nil
 |_,_,.cons n t h=>.cons ⟨t,rfl⟩ (vals_ints h)
def zh(H:Hp):Prop:=∀b,H b=none\/∃o a,H b=some (.frz o (.lst a))
theorem qK{P:Program}{w:World}{K:Waa}{CX:CXT}{k:Nat}{U a:Addr}{Z:FuncData}{sp:Sp}{vs:List Value}{ns:List Int}
  (KX:K.In s₁.heap) (B:s₁.heap.Ns mainGlobals mg) (f:s₁.heap.Ns builtinsNs mb) (S:∀x:Str,x≠"__name__"->mb x=bootBuiltins x) (y:s₁.heap.NoLimit) (hg:s₁.gens=#[])
  (M:s₁.heap.get? a=some { cls:=.type "list",data:=.seq vs.toArray }) (hi:IntsAre vs ns) (hl:ns.length<=sizeLine) (hr:Room k callerA)
  (F:∀g:Heap,K.In g->g.Ns mainGlobals mg->FnOk P w K mg g CX k U Z [x] sp) (p:∀(s:Shared) (u:Value),BindsTo s Z ⟨[u],[]⟩ [(x,u)])
  (O:∀H:Hp,zh H->SqL K H a (ns.map V.int)->sp [.ref a] H (λv _=>v=.bl true) λ_ _ _=>False)
  (W:∀H e i,CX [] H s₁ (λ_ _ _=>False) e i->False):
  codeAny (model P w) callerA (.call (.ref U) ⟨[.ref a],[]⟩) (λr i=>r=.ok (.ret (.bool true))/\OldK s₁.heap i.heap/\i.os=s₁.os/\AllBare i.gens) s₁:=by
 have rv:=vals_ints hi;have J:=hi.length;have l:∀H:Hp,zh H->SqL K H a (ns.map V.int)->HOk P w H s₁.heap->(∀b,H b≠none->b=a)->(H a≠none->K.lookup a=none) ->
   codeAny (model P w) callerA (.call (.ref U) ⟨[.ref a],[]⟩) (λr i=>r=.ok (.ret (.bool true))/\OldK s₁.heap i.heap/\i.os=s₁.os/\AllBare i.gens) s₁:=by
  intro H hO hS t Y hK;have c:∀{b:Addr}{o:Obj},s₁.heap.get? b=some o->H b=none->(iM s₁.heap H).get? b=some o:=λe n=>hidT_get e n;have Q:∀{b:Addr}{o:Obj}{L:Array DictEntry}{D:Nat},s₁.heap.get? b=some o->o.data=.dict L D->H b=none:=λ{b o L D} e d=>by
   cases q:H b with
   |none=>rfl
   |some u=>have T:b=a:=Y b (by rw[q];simp);subst T;rw[M]at e;cases e;have d':Data.seq vs.toArray _=Data.dict L D:=d;cases d'
  have j:∀{b:Addr}{m:Str->Option Value},s₁.heap.Ns b m->(iM s₁.heap H).Ns b m:=λ{b m} ⟨o,L,D,e,d,r⟩=>⟨o,L,D,c e (Q e d),d,r⟩
  have C:K.In (iM s₁.heap H):=λb o e=>c (KX b o e) (by
   cases q:H b with
   |none=>rfl
   |some u=>
    have T:b=a:=Y b (by rw[q];simp);subst T;rw[hK (by rw[q];simp)]at e;cases e)
  have hM:Mod K mg (iM s₁.heap H):=⟨C,j B,⟨mb,j f,S⟩,let ⟨mc,h1,h2⟩:=y;⟨mc,j h1,h2⟩⟩
  have e0:Env0 P w K mg (iM s₁.heap H) callerA [] s₁ H:=⟨rfl,hM,λb o e=>uP e,abi (oJ _ _),trivial,λb f=>absurd (show b∈([]:List Addr) from f) (by simp),t,.of_eq hg⟩
  refine acH ((F _ C (j B)).run callerA [] s₁ H ⟨[.ref a],[]⟩ [.ref a] [.ref a] _ _ hr e0 (p s₁ (.ref a)) (.cons rfl .nil) (O H hO hS)) λr i h=>?_;cases r with
  |error e=>exact(W H e i h).elim
  |ok fl=>
   cases fl with
   |next=>exact False.elim h
   |brk=>exact False.elim h
   |cont=>exact False.elim h
   |ret u=>
    obtain⟨v,H',os,G,un,A,r',q⟩:=h;have q':v=.bl true:=q;subst q';obtain rfl:u=Value.bool true:=r';refine⟨rfl,OldK.of_keep λb o e=>?_,os,G⟩;cases q:H b with
    |none=>exact un.keep b o e q (by intro z;exact absurd (show b∈([]:List Addr) from z) (by simp)) (by simp)
    |some u=>
     rcases hO b with z|⟨ob,xs,z⟩
     ·rw[q]at z;cases z
     ·have z2:=un.frzs b ob _ z;obtain⟨X,_⟩:=t b _ z;obtain⟨e2,_⟩:=A b _ z2;rw[e]at X;cases X;exact e2
 cases N:K.lookup a with
 |some o=>have e:=KX a o N;rw[M]at e;cases e;refine l (λ_=>none) (λ_=>.inl rfl) (.inr ⟨_,vs.toArray,_,N,rfl,rfl,rfl,by rw[aap,J];exact hl,by simpa using rv⟩) (λb u z=>by have I:(none:Option HO)=some u:=z;cases I) (λb z=>absurd rfl z) λz=>absurd rfl z
 |none=>
  refine l (λb=>if b=a then some (.frz { cls:=.type "list",data:=.seq vs.toArray } (.lst (ns.map V.int))) else none) (λb=>?_) (.inl (.inr ⟨{ cls:=.type "list",data:=.seq vs.toArray },if_pos rfl⟩)) (λb u z=>?_) (λb z=>?_) λ_=>N
  ·by_cases f:b=a
   ·exact .inr ⟨_,_,if_pos f⟩
   ·exact .inl (if_neg f)
  ·by_cases f:b=a
   ·have I:=(if_pos f).symm.trans z;cases I;subst f;exact⟨M,by rw[aaa];exact hl,vs,_,rv,M⟩
   ·have I:=(if_neg f).symm.trans z;cases I
  ·by_cases f:b=a
   ·exact f
   ·exact absurd (if_neg f) z
end
section
theorem walk_of{l:PySem.W.OpenLaw}{K:Params->Waa}{CX:World->CXT}{sp:World->Sp}{x:Str}
  (N:l.most=some n) (t:n<=sizeLine) (y:d.params.defaults=[]) (U:Room k callerA)
  (X:∀(w:World) (h:Heap),YP w h->(K w.params).In h)
  (F:∀(w:World) (j:Str->Option Value) (r:Addr) (h:Heap),(K w.params).In h->h.Ns mainGlobals j->j d.name=some (.ref r) ->
   ∃z:FuncData,(∀(s:Shared) (u:Value),BindsTo s z ⟨[u],[]⟩ [(x,u)]) /\
    ∀base:Heap,(K w.params).In base->base.Ns mainGlobals j->FnOk l.prog w (K w.params) j base (CX w) k r z [x] (sp w))
  (A:∀(w:World) (H:Hp) (a:Addr) (ns:List Int),ns.length<=n->zh H->SqL (K w.params) H a (ns.map V.int)->sp w [.ref a] H (λv _=>v=.bl true) λ_ _ _=>False)
  (D:∀(w:World) (H:Hp) (s:Shared) (e:Value) (C:Shared),CX w [] H s (λ_ _ _=>False) e C->False):
  PySem.W.WalkO q loose XP YP l.row.toRowW d [] (λf vs=>PySem.call f vs):=by
 refine Att.attach_call N y λw I p j mb r o pm cd Z a vs ns G Y ho hd S B m i c M=>?_;have J:=X w _ Y;obtain⟨z,L,O⟩:=F w j r _ J G.T.g B;exact qK J G.T.g G.T.b G.T.builtins G.T.nolimit M m i (aas c t) U O L (λH Q P=>A w H a ns c Q P) λH e C=>D w H p e C
end
section
def bM(s:Stmt):Arguments:=match s with
 |.FunctionDef _ a _ _ _ _ _ _ _ _=>a
 |_=>{ posonlyargs:=[],args:=[],vararg:=none,kwonlyargs:=[],kw_defaults:=[],kwarg:=none,defaults:=[] }
def bb(s:Stmt):List Stmt:=match s with
 |.FunctionDef _ _ b _ _ _ _ _ _ _=>b
 |_=>[]
def aB(s:Stmt):Scope:=match s with
 |.FunctionDef _ _ _ _ _ _ sc _ _ _=>sc
 |_=>{ kind:=.function,names:=[],isGenerator:=false,isCoroutine:=false }
abbrev CX0:CXT:=λ_ _ _ _ _ _=>False
abbrev E0:XK:=λ_ _ _=>False
theorem xG:Passes CX0 X E0:=λ_ _ _ _ _ _ _ h=>h.elim
structure Fun (K:Waa)(x qual:Str)(st:Stmt)(f:Addr)(fd:FuncData):Prop where
 ex:∃(oc:Value) (od:Option Addr) (kV doc pm:Value) (an:Option Addr) (cdv ct:Value) (osl:Array (Option Value)),
  fd=PySem.W.fnOf x qual (bM st) (bb st) (aB st) .none kV doc pm an cdv ct/\K.lookup f=some ⟨oc,od,.func fd,osl⟩/\PySem.W.codeIn K cdv qual=true
 kp:PySem.W.keepIn K (.ref f)=true
section
variable{K:Waa}
theorem Fun.ok{x b:Str}{st:Stmt}(F:Fun K x b st f fd)(S:FnScope N ps (aB st))(len:∀vs H Q E,sp vs H Q E->vs.length=ps.length)
  (d:∀(c:Value) (A:Around) (a:List Env) (s:Shared) (H:Hp) (vs:List V) (Q:VK) (E:XK),Room k (A.deeper (envOfC b (aB st) s.heap.objs.size f c))->sp vs H Q E ->
   ∃t,PSs (iQ CX0 P w K mg base N b (aB st) f c A a s H E).q7 (bb st) t/\t { nx:=λ_ l=>Q .non l,rt:=Q } (start N vs) H):FnOk P w K mg base CX0 (k+1) f fd ps sp:=by
 obtain⟨y,u,r,n,p,o,c,v,j,rfl,i,e⟩:=F.ex;refine BZ i e S len λA a s H vs Q E m g=>?_;obtain⟨t,h,q⟩:=d c A a s H vs Q E m g;exact⟨t,h.q7,q⟩
theorem Fun.binds{st:Stmt}(F:Fun K x qual st f fd)
  (h:∀(c b d:Value) (e:Option Addr) (a g:Value) (us:List Value),us.length=ps.length->bindArgs (PySem.W.fnOf x qual (bM st) (bb st) (aB st) .none c b d e a g) ⟨us,[]⟩=pure (ps.zip us)):Binds K fd ps []:=by
 obtain⟨l,m,c,b,d,e,a,g,j,rfl,k,i⟩:=F.ex;exact .all (h c b d e a g)
theorem iV{st:Stmt}{d b e a g:Value}(l:K.lookup f=some ⟨oc,od,.func (PySem.W.fnOf x qual (bM st) (bb st) (aB st) .none d b e an a g),osl⟩)
  (c:PySem.W.codeIn K a qual=true) (k:PySem.W.keepIn K (.ref f)=true):Fun K x qual st f (PySem.W.fnOf x qual (bM st) (bb st) (aB st) .none d b e an a g):=⟨⟨oc,od,d,b,e,an,a,g,osl,rfl,l,c⟩,k⟩
end
def Same(H a:Hp):Prop:=∀b o,H b=some o->a b=some o
theorem Same.refl(H:Hp):Same H H:=λ_ _ h=>h
theorem Same.trans(a:Same H H1)(b:Same H1 H2):Same H H2:=λc o h=>b c o (a c o h)
theorem Same.free{H a:Hp}(e:Same H a)(h:a l=Option.none):H l=Option.none:=by
 cases q:H l with
 |none=>rfl
 |some o=>rw[e l o q]at h;cases h
theorem Same.seq{K:Waa}(e:Same H H')(h:SqL K H a xs):SqL K H' a xs:=by
 rcases h with (h|⟨o,h⟩)|h
 ·exact .inl (.inl (e _ _ h))
 ·exact .inl (.inr ⟨o,e _ _ h⟩)
 ·exact .inr h
end
section
theorem kX:∀(f:List (Str×NameKind)) (acc:List (Str×Addr)),(∀x∈f,x.2=.free->∃c,env.cells.lookup x.1=some c) ->
  (∀x c,acc.lookup x=some c->env.cells.lookup x=some c) ->
  ∃j:List (Str×Addr),forIn f acc (λ(x:Str×NameKind) (r:List (Str×Addr))=>match x with
    | (name,kind)=>(if kind==NameKind.free then do let c <-cellOf env name;pure (ForInStep.yield ((name,c)::r)) else pure (ForInStep.yield r):Sem (ForInStep (List (Str×Addr)))))=pure j /\
   (∀x c,j.lookup x=some c->env.cells.lookup x=some c)/\(∀x∈f,x.2=.free->∃c,j.lookup x.1=some c)/\(∀x c,acc.lookup x=some c->∃i,j.lookup x=some i):=by
 intro f;induction f with
 |nil=>intro acc _ l;exact⟨acc,rfl,l,λ_ h=>(nomatch h),λx c h=>⟨c,h⟩⟩
 |cons p r v=>
  intro acc u l;obtain⟨n,k⟩:=p;rw[abJ];have w:∀x∈r,x.2=.free->∃c,env.cells.lookup x.1=some c:=λx g=>u x (aaf _ g);by_cases o:k=.free
  ·subst o;obtain⟨c,t⟩:=u (n,.free) aah rfl;have q:cellOf env n=pure c:=by unfold cellOf;rw[show env.cells.lookup n=some c from t]
   have s:∀x i,((n,c)::acc).lookup x=some i->env.cells.lookup x=some i:=λx i h=>by
    rw[aaM]at h;cases g:x==n with
    |true=>rw[g]at h;cases h;rw[eq_of_beq g];exact t
    |false=>rw[g]at h;exact l x i h
   obtain⟨j,e,a,b,d⟩:=v ((n,c)::acc) w s;refine⟨j,?_,a,λx g m=>?_,λx i h=>?_⟩
   ·show ((cellOf env n >>= λc=>pure (ForInStep.yield ((n,c)::acc))) >>= _)=_;rw[q];exact e
   ·rcases aab.mp g with rfl|g
    ·exact d n c (by simp[aaM])
    ·exact b x g m
   ·cases g:x==n with
    |true=>exact d x c (by rw[aaM,g])
    |false=>exact d x i (by rw[aaM,g];exact h)
  ·have y:(k==NameKind.free)=false:=by simpa using o
   obtain⟨j,e,a,b,d⟩:=v acc w l;refine⟨j,?_,a,λx g m=>?_,d⟩
   ·show ((if (k==NameKind.free)=true then _ else _) >>= _)=_;rw[y];exact e
   ·rcases aab.mp g with rfl|g
    ·exact absurd m o
    ·exact b x g m
theorem kY(h:∀x∈scope.names,x.2=.free->∃c,env.cells.lookup x.1=some c):
  ∃d:List (Str×Addr),closureFor scope env=pure d/\(∀x c,d.lookup x=some c->env.cells.lookup x=some c)/\(∀x∈scope.names,x.2=.free->∃c,d.lookup x.1=some c):=by
 obtain⟨d,e,a,b,_⟩:=kX scope.names [] h (λ_ _ h=>nomatch h);refine⟨d,?_,a,b⟩;have q:closureFor scope env=(forIn scope.names ([]:List (Str×Addr)) (λ(x:Str×NameKind) (r:List (Str×Addr))=>match x with
    | (name,kind)=>(if kind==NameKind.free then do let c <-cellOf env name;pure (ForInStep.yield ((name,c)::r)) else pure (ForInStep.yield r):Sem (ForInStep (List (Str×Addr))))) >>= λr=>pure r):=rfl
 rw[q,e];rfl
def dn(X:Cx)(N:List Str)(a:Scope)(c:List (Str×Addr))(s:Shared)(H:Hp)(d:List Addr)(b:List (Addr×Obj)):Cx where
 prog:=X.prog
 w:=X.w
 K:=X.K
 mg:=X.mg
 base:=X.base
 A:=X.A
 N:=N
 s₀:=s
 H₀:=H
 env:=compEnvC a c s.heap.objs.size X.env
 outer:=X.stack
 stack:=X.stack
 ex:=d
 fn:=λ_=>false
 calm:=X.calm
 pn:=X.pn++b
 xe:=λ_ _=>False
structure CC where
 cl:List (Str×Addr)
 s:Shared
 H:Hp
 fp:List Addr
 pins:List (Addr×Obj)
abbrev bJ(X:Cx)(N:List Str)(scope:Scope)(c:CC):Cx:=dn X N scope c.cl c.s c.H c.fp c.pins
def bx(nt:Nat)(fr:List Nat)(σ:St):St:=List.replicate nt none++fr.map λj=>(σ[j]?).join
structure CompScope (N:List Str)(nt:Nat)(fr:List Nat)(ON:List Str)(sc osc:Scope):Prop where
 kind:sc.kind=.function
 nocell:∀x∈sc.names,x.2≠.cell
 names:∀x∈sc.names,x.2=.local->sc.names.lookup x.1=some .local
 len:N.length=nt+fr.length
 out:∀(i:Nat) (j:Nat),fr[i]?=some j->∃x,N[nt+i]?=some x/\ON[j]?=some x/\osc.names.lookup x=some .cell/\sc.names.lookup x=some .free
 cells:∀x∈sc.names,x.2=.free->osc.names.lookup x.1=some .cell
 looks:∀x∈sc.names,x.2=.free->sc.names.lookup x.1=some .free
theorem bB{sc:Scope}{env:Env}:∀(a:List (Str×NameKind)) (x:Str) (k:NameKind),
  (a.map λ(n,k)=>if (k==NameKind.free&&env.scope.kind==.function&&env.kindOf n==some .cell) then (n,NameKind.cell) else (n,k)).lookup x=some k ->
  a.lookup x=some k\/(k=.cell/\a.lookup x=some .free)
 |[],_,_,h=>by simp at h
 | (n,k0)::r,x,k,h=>by
  have e:=bB (sc:=sc) (env:=env) r x k;rw[aaj]at h;have b:List.lookup x ((if (k0==NameKind.free&&env.scope.kind==.function&&env.kindOf n==some .cell)=true then (n,NameKind.cell) else (n,k0))::(r.map λ(n,k)=>if (k==NameKind.free&&env.scope.kind==.function&&env.kindOf n==some .cell) then (n,NameKind.cell) else (n,k)))=some k:=h;by_cases d:(k0==NameKind.free&&env.scope.kind==.function&&env.kindOf n==some .cell)=true
  ·rw[if_pos d,aaM]at b;rw[aaM];cases c:x==n with
   |true=>
    rw[c]at b;cases b;rw[aat,aat]at d;have:k0=.free:=by simpa using d.1.1
    subst this;exact .inr ⟨rfl,rfl⟩
   |false=>rw[c]at b;exact e b
  ·rw[if_neg d,aaM]at b;rw[aaM];cases c:x==n with
   |true=>rw[c]at b;exact .inl b
   |false=>rw[c]at b;exact e b
theorem kZ(S:CompScope N nt fr X.N scope X.env.scope)(I:Inv X pins σ H s)
  (C:∀b∈fp,FpOk X pins H b) (k:∀b∈fp,b<s.heap.objs.size)
  (a:∀x c,cl.lookup x=some c->X.env.cells.lookup x=some c) (G:∀x∈scope.names,x.2=.free->∃c,cl.lookup x.1=some c)
  (hk:∀b o,s.heap.get? b=some o->s4.heap.get? b=some o) (hn:∃m,s4.heap.Ns s.heap.objs.size m) (ho:s4.os=s.os) (hg:s4.gens=s.gens):
  Inv (dn X N scope cl s H fp pins) [] (bx nt fr σ) H s4:=by
 have hC:H s.heap.objs.size=none:=I.hok.fresh (aag _);have P:∀b o,s.heap.get? b=some o->b≠s.heap.objs.size:=λb o e=>aam (acn e);have kd:(dn X N scope cl s H fp pins).env.scope.kind=.function:=S.kind;have D:∀x,scope.names.lookup x=some .free->∃c,cl.lookup x=some c:=λx h=>G (x,.free) (aaW h) rfl;refine⟨⟨I.ok.mod,kd,I.ok.glob,I.ok.blt,aag _,λx y c Q f=>I.ok.inj x y c (a x c Q) (a y c f),λx hx=>?_,λ_ _ h _=>absurd (show false=true from h) aak,I.ok.hd,I.ok.frames,.inl rfl,λb r=>⟨aam (k b r),λx c e=>(C b r).2.2.2.2.1 x c (a x c e)⟩,
  I.bs,aas I.ok.bsz I.sz,λb o e r=>?_,λb r hs=>?_,I.stack,I.n0⟩,ho,by rw[hg];exact I.bare,Un.kept hk,?_,λx c e=>?_,hC,λx c e=>I.freeC x c (a x c e),λp hp=>?_,I.hok.kept hk,?_⟩
 ·have L:(relabel scope X.env).names.lookup x=some .cell\/(relabel scope X.env).names.lookup x=some .free:=hx;rcases L with h|h
  ·rcases bB (sc:=scope) scope.names x _ h with q|⟨_,q⟩
   ·exact absurd rfl (S.nocell _ (aaW q))
   ·exact D x q
  ·rcases bB (sc:=scope) scope.names x _ h with q|⟨q,_⟩
   ·exact D x q
   ·cases q
 ·rcases (C b r).2.2.2.1 with z|z
  ·exact I.ok.noex b o e z
  ·exact absurd (aax (acn e) (aas I.ok.bsz z)) (aaU _)
 ·rcases aab.mp (I.j1 b hs) with z|z
  ·exact(C b r).2.1 z
  ·exact(C b r).2.2.1 z
 ·obtain⟨m,hm⟩:=hn;refine⟨m,hm,λi x v Q f h3=>?_⟩;obtain⟨m0,a0,J⟩:=I.loc;have hi:nt<=i:=by refine Nat.le_of_not_lt λk=>?_;unfold bx at f;rw[abE (by simpa using k),abY]at f;rw[if_pos k]at f;cases f
  obtain⟨d,rfl⟩:∃d,i=nt+d:=⟨i-nt,by omega⟩
  unfold bx at f;rw[abD (by simp),abj,abZ,aaz]at f;cases U:fr[d]? with
  |none=>rw[U]at f;cases f
  |some j=>
   rw[U]at f;have g:(σ[j]?).join=some v:=aaD f;have F:σ[j]?=some (some v):=by
    cases e:σ[j]? with
    |none=>rw[e]at g;cases g
    |some q=>rw[e]at g;exact congrArg some g
   obtain⟨y,e1,Z,W,Y⟩:=S.out d j U;have A:N[nt+d]?=some x:=Q;rw[e1]at A;cases A;obtain⟨u,ru,l⟩:=J j x v Z F (.inr (.inl W));refine⟨u,ru,?_⟩;rcases l with ⟨q,_⟩|⟨_,c,ec,z⟩
   ·have B:X.env.scope.names.lookup x=some .local:=q;rw[W]at B;cases B
   ·obtain⟨T,w⟩:=D x Y;have:T=c:=by have:=a x T w;rw[ec]at this;exact(aaD this).symm
    subst this;obtain⟨o,t,O⟩:=z;refine .inr ⟨?_,T,w,⟨o,hk _ _ t,O⟩⟩;rcases h3 with q|q|q
    ·have B:(relabel scope X.env).names.lookup x=some .local:=q;rcases bB (sc:=scope) scope.names x _ B with z|⟨z,_⟩
     ·rw[Y]at z;cases z
     ·cases z
    ·exact .inl q
    ·exact .inr q
 ·obtain⟨v,o,t,O⟩:=I.cell x c (a x c e);exact⟨v,o,hk _ _ t,O⟩
 ·have M:p∈X.pn++pins:=by
   rcases aai.mp hp with z|z
   ·exact z
   ·exact absurd z (by simp)
  obtain⟨e,n,ne,nf,d⟩:=I.pin p M;refine⟨hk _ _ e,n,P _ _ e,λz=>?_,d⟩;rcases aab.mp (I.j1 p.1 z) with q|q
  ·exact ne q
  ·exact nf q
 ·show (bx nt fr σ).length=N.length;unfold bx;rw[aau,abj,aaa,S.len]
theorem qL(I:Inv X pins σ H s)(G:∀b∈fp,FpOk X pins H b)
  (p:H D=none) (k:s.heap.objs.size<=D) (r:D<s3.heap.objs.size) (hk:∀b o,s.heap.get? b=some o->s3.heap.get? b=some o) (m:s3.os=s.os)
  (J:Inv (dn X N scope cl s3 (upd H D o0) fp pins) pins' σ' H1 s5) (l:Heap.SameBut s3.heap.objs.size s5.heap h'):
  Inv X pins σ H1 { s5 with heap:=h' }:=by
 have t:s.heap.objs.size<=s3.heap.objs.size:=abf (Nat.lt_of_le_of_lt k r);have f:∀b,b<s.heap.objs.size->b≠D/\b≠s3.heap.objs.size:=λb d=>⟨aam (aax d k),aam (aax d t)⟩
 have h:∀b,b≠D->(upd H D o0) b=H b:=λb d=>upd_ne d;refine I.call' (ch:=fp) (J.os.trans m) ⟨λb o e n d g=>?_,λb o e n d g=>?_,λb o e n g=>?_,λb o e g=>?_,λb B e=>?_,λb o u e=>?_,λb x e=>?_⟩ ?_ J.bare λb d=>?_
 ·obtain⟨j,i⟩:=f b (acn e);exact(l.2 b i).trans (J.base.keep b o (hk b o e) ((h b j).trans n) d g)
 ·obtain⟨j,i⟩:=f b (acn e);obtain⟨M,q⟩:=J.base.slot b o (hk b o e) ((h b j).trans n) d g;exact⟨M,(l.2 b i).trans q⟩
 ·obtain⟨j,i⟩:=f b (acn e);exact J.base.free b o (hk b o e) ((h b j).trans n) g
 ·obtain⟨j,i⟩:=f b (acn e);obtain⟨w,q⟩:=J.base.there b o (hk b o e) g;exact⟨w,(l.2 b i).trans q⟩
 ·exact J.base.tups b B ((h b (ai e p)).trans e)
 ·exact J.base.frzs b o u ((h b (ai e p)).trans e)
 ·exact J.base.tbls b x ((h b (ai e p)).trans e)
 ·intro b u e;refine(J.hok b u e).g7 (λc v y q=>(l.2 c ?_).trans q) (λ_ q=>q) λ_ _ q=>q;have a:H1 s3.heap.objs.size=none:=J.free;rintro rfl;rcases y with z|z
  ·rw[z]at a;rw[a]at e;cases e
  ·rw[a]at z;cases z
 ·obtain⟨P,F,O,A,C,L⟩:=G b d;exact⟨A,F,C,L⟩
def By(e:Expr):Prop:=(∃a b c d,e=.ListComp a b c d)\/(∃a b c d f,e=.DictComp a b c d f)\/∃a b c d,e=.SetComp a b c d
abbrev cv(e:Expr)(d:Nat)(tg:Expr)(p:Pos)(it acc:Value)(env:Env)(body:Sem Unit):Sem Fin:=
 standAt p >>= λ_=>pyNext it >>= λr=>match r with
  |none=>pure (.done .next)
  |some v=>letOwnedTupleGo tg it v >>= λ_=>assign tg env v >>= λ_=>body >>= λ_=>again (.compLoop e d it acc env)
abbrev TB:=St->Hp->(St->Hp->Prop)->Prop
def PB(Y:Cx)(body:Sem Unit)(e:TB):Prop:=∀(a:List (Addr×Obj)) (s:Shared) (c:St) (H:Hp) (Q:St->Hp->Prop),Inv Y a c H s->e c H Q->wpAny (model Y.prog Y.w) Y.A body (λ_ f=>∃b d,Inv Y a b d f/\Q b d) Y.xe s
theorem oW(u:By e)
  (t:compTurn e d it acc env=cv e d tg p it acc env body) (I:Nat->Shared->Prop)
  (a:∀n s,I n s->wpAny (model prog w) A (pyNext it) (λr b=>match r with
   |none=>R (.ok .next) b
   |some v=>wpAny (model prog w) A (letOwnedTupleGo tg it v) (λ_ o=>wpAny (model prog w) A (assign tg env v) (λ_ l=>wpAny (model prog w) A body (λ_ i=>∃m,m<n/\I m i) (λ_ _=>False) l) (λ_ _=>False) o) (λ_ _=>False) b) (λ_ _=>False) s)
  (n:Nat) (h:I n s):codeAny (model prog w) A (.compLoop e d it acc env) R s:=by
 rcases u with ⟨f,j,k,c,rfl⟩|⟨f,j,k,c,C,rfl⟩|⟨f,j,k,c,rfl⟩ <;>
 ·refine codeAny_loop rfl I (λn s x=>?_) n h;refine wpAny_noted ?_;rw[t];refine acl (acu (acl (acr (a n s x) (λr b g=>?_) λ_ _ z=>z.elim)));cases r with
  |none=>exact acm g
  |some v=>refine acl (acr g (λ_ o q=>?_) λ_ _ z=>z.elim);refine acl (acr q (λ_ l y=>?_) λ_ _ z=>z.elim);exact acl (acr y (λ_ i B=>acm ⟨rfl,B⟩) λ_ _ z=>z.elim)
def FK(J:It)(g:TG)(f:TB)(σ:St)(H:Hp)(Q:St->Hp->Prop):Prop:=∃W:Nat->Nat->St->Hp->Prop,(∃m,W 0 m σ H)/\∀i m σ H,W i m σ H->(J.stop i H/\Q σ H)\/(J.go i H/\∀x d,J.yld i H x d->g x σ d λa e=>f a e λb h=>∃c,c<m/\W (i+1) c b h)
theorem oX(he:By e)(P:Y.calm=true)(hx:Y.xe=λ_ _=>False)
  (ht:compTurn e d (.ref it) acc Y.env=cv e d tg p (.ref it) acc Y.env body)
  (T:Turn Y.prog Y.w Y.K tg J fp it tn) (G:PG Y tg g) (a:PB Y body tb) (I:Inv Y pins σ H s) (st:tn 0 s.heap) (f:∀b∈fp,FpOk Y pins H b) (w:FK J g tb σ H Q) (M:∀c k C,Inv Y pins c k C->(∀b∈fp,k b=none)->Q c k->R (.ok .next) C):
  codeAny (model Y.prog Y.w) Y.A (.compLoop e d (.ref it) acc Y.env) R s:=by
 obtain⟨W,⟨m0,w0⟩,v⟩:=w;unfold PG at G;unfold PB at a;rw[hx]at G a;have j:∀{k:Hp},(∀b∈fp,k b=none)->∀b∈fp,FpOk Y pins k b:=λhn b a=>⟨hn b a,(f b a).2⟩
 refine oW he ht (λn C=>∃i c k,Inv Y pins c k C/\tn i C.heap/\(∀b∈fp,k b=none)/\W i n c k) ?_ m0 ⟨0,σ,H,I,st,λb a=>(f b a).1,w0⟩;rintro n s3 ⟨i,h,D,Z,t,m,w3⟩;rcases v i n h D w3 with ⟨B,qn⟩|⟨go,y⟩
 ·refine thn (T.done Y rfl rfl rfl P i pins s3 h D _ Z (j m) t B) λr U l=>?_;obtain⟨N,I4⟩:=l;subst N;exact M h D U I4 m qn
 ·refine thn (T.item Y rfl rfl rfl P i pins s3 h D _ Z (j m) t go) λr U l=>?_;obtain⟨u,N,h4⟩:=l;subst N;refine thn h4 λ_ s5 l=>?_;obtain⟨x,X,I5,r5,y5,q,L⟩:=l;refine thn (G _ s5 h X x u _ (I5.pinned (j L) (T.obj _ _ q)) r5 (y x X y5)) λ_ s6 l=>?_;obtain⟨F,H6,I6,q6⟩:=l;refine thn (a _ s6 F H6 _ I6 q6) λ_ s7 l=>?_;obtain⟨O,H7,S,m',hm,w7⟩:=l;have z:=λb (a:b∈fp) o e=>S.pin (b,o) (aae _ (aae _ (dm a e)));refine⟨m',hm,i+1,O,H7,S.ew,T.keep _ _ _ q λb a o e=>(z b a o e).1,λb a=>?_,w7⟩;obtain⟨o,e,_⟩:=T.obj _ _ q b a;exact(z b a o e).2.1
theorem zi(m:By e)(j:(clausesOf e)[d]?=some c)(o:c.is_async=0)
  (l:codeAny (model prog w) A (.compLoop e d it acc env) R s) (h:wpAny (model prog w) A (pyIter it) (λa f=>codeAny (model prog w) A (.compLoop e d a acc env) R f) (λ_ _=>False) s):
  codeAny (model prog w) A (.compStart e d it acc env) R s:=by
 have p:((clausesOf e)[d]?).elim false (·.is_async !=0)=false:=by rw[j];show (c.is_async !=0)=false;rw[o];rfl
 rcases m with ⟨k,b,i,g,rfl⟩|⟨k,b,i,g,q,rfl⟩|⟨k,b,i,g,rfl⟩ <;>
 ·refine codeAny_of_tree (wpAny_notedAt ?_);unfold compStart;rw[p,j];show wpAny _ _ (ask >>= _) _ _ s;refine acl (wpAny_askSetting (wpAny_ite ?_));split
  ·first
    |exact acl (acm (acm ⟨rfl,l⟩))
    |exact acm ⟨rfl,l⟩
  ·refine acl (acB ?_);show wpAny _ _ (standAt c.iter.pos >>= _) _ _ s;exact acl (acu (acl (acr h (λa f n=>acm ⟨rfl,n⟩) λ_ _ z=>z.elim)))
structure MkC (X:Cx)(mk:Sem Value)(o:Obj)(o0:HO):Prop where
 new:∀{s:Shared}{Q:Value->Shared->Prop},Q (.ref s.heap.objs.size) { s with heap:=s.heap.push o }->wpAny (model X.prog X.w) X.A mk Q X.xe s
 laid:∀{pins:List (Addr×Obj)}{σ:St}{H:Hp}{s:Shared},Inv X pins σ H s->Inv X pins σ (upd H s.heap.objs.size o0) { s with heap:=s.heap.push o }
def fZ(o0:HO)(d:TI)(nt:Nat)(fr:List Nat)(g:CC->TG)(e:CC->Addr->TB):TE:=λa H Q=>d a H λJ b=>∀(c:CC) D,b D=none->FK J (g c) (e c D) (bx nt fr a) (upd b D o0) λ_ f=>Q (.ref D) f
section
variable{rest:List Comprehension}{body:Addr->Env->Sem Unit}
theorem f6{r:Option (Value->Sem Unit)}{Q0:Value->Shared->Prop}(he:By e)(a0:clausesOf e=⟨tg,iter,ifs,0⟩::rest)(ht:∀it D env,compTurn e 0 it (.ref D) env=cv e 0 tg iter.pos it (.ref D) env (body D env))(M:MkC X mk o o0)(hc:X.calm=true)(S:CompScope N nt fr X.N scope X.env.scope)(hi:PI X tg iter wi)
  (hg:∀c:CC,PG (bJ X N scope c) tg (g c)) (ha:∀(c:CC) D,PB (bJ X N scope c) (body D (bJ X N scope c).env) (tb c D))
  (I:Inv X pins σ H s) (h:fZ o0 wi nt fr g tb σ H Q) (a3:∀x∈scope.names,x.2=.free->X.env.kindOf x.1=some .cell)
  (a4:∀(D C:Addr) (U:Shared) (H1:Hp),FpOk X pins H1 C->U.heap.get? C≠none->C≠X.env.locals->(∃m,U.heap.Ns C m)->(∀h',Heap.SameBut C U.heap h'->Inv X pins σ H1 { U with heap:=h' })->Q (.ref D) H1 ->
   compPost (model X.prog X.w) X.A X.xe r Q0 (.ref D) C (.ok .next) U)
  (hs:∀x,foldedSetIterable iter X.env x=pure x:=by intro _;rfl):
  wpAny (model X.prog X.w) X.A (comprehension e scope X.env pos mk false (eval iter X.env) r) Q0 X.xe s:=by
 have l:∀x∈scope.names,x.2=.free->∃c,X.env.cells.lookup x.1=some c:=λx hx hf=>I.ok.has x.1 (.inl (a3 x hx hf));obtain⟨t,B,h1,h2⟩:=kY l;refine wpAny_comprehension_free a0 hs B S.kind S.names (thn (hi pins s σ H _ I h) λxv s1 hx=>thn hx λb0 d a6=>?_);obtain⟨it,k,tn,J,n,rfl,O,T,a1,Z,hW⟩:=a6;have u:∀b∈k,b<d.heap.objs.size:=λb a=>let ⟨o,e,_⟩:=T.obj 0 _ a1 b a;acn e
 refine M.new (wpAny_newFunctionEnv S.nocell (by intro y hy;simp at hy) (λj i f=>?_) S.kind);have hD:n d.heap.objs.size=none:=O.hok.fresh (aag _);have I3:=M.laid O;generalize hs3:({ d with heap:=d.heap.push o }:Shared)=s3 at i f I3 ⊢;have hW:=hW ⟨t,s3,upd n d.heap.objs.size o0,k,pins⟩ _ hD;have a2:∀b o,d.heap.get? b=some o->s3.heap.get? b=some o:=λb o e=>by rw[<-hs3];exact aco _ e
 have F:s3.heap.objs.size=d.heap.objs.size+1:=by rw[<-hs3];exact acx ..
 have a5:s3.os=d.os:=by rw[<-hs3]
 have f3:∀b∈k,FpOk X pins (upd n d.heap.objs.size o0) b:=λb a=>⟨by rw[upd_ne (aam (u b a))];exact(Z b a).1,(Z b a).2⟩
 have L:∀b o,s3.heap.get? b=some o->j.get? b=some o:=λb o e=>f.extBut b o (aam (acn e)) (aco _ e);generalize hs4:({ s3 with heap:=j,toks:=s3.toks+([]:List (Str×Value)).length }:Shared)=s4;have v:s4.heap=j:=by rw[<-hs4]
 have I4:Inv (dn X N scope t s3 (upd n d.heap.objs.size o0) k pins) [] (bx nt fr σ) (upd n d.heap.objs.size o0) s4:=
  kZ S I3 f3 (λb a=>by rw[F];exact Nat.lt_succ_of_lt (u b a)) h1 h2 (λb o e=>by rw[v];exact L b o e) ⟨_,by rw[v];exact i⟩ (by rw[<-hs4]) (by rw[<-hs4])
 have G:tn 0 s4.heap:=T.keep 0 _ _ a1 λb a o e=>by rw[v];exact L b o (a2 b o e)
 have q:codeAny (model X.prog X.w) X.A (.compLoop e 0 (.ref it) (.ref d.heap.objs.size) (compEnvC scope t s3.heap.objs.size X.env))
   (compPost (model X.prog X.w) X.A X.xe r Q0 (.ref d.heap.objs.size) s3.heap.objs.size) s4:=by
  have P:∀{H':Hp},(∀b∈k,H' b=none)->∀b∈k,FpOk (dn X N scope t s3 (upd n d.heap.objs.size o0) k pins) [] H' b:=λ{H'} hn b a=>
   ⟨hn b a,aam (show b<s3.heap.objs.size by rw[F];exact Nat.lt_succ_of_lt (u b a)),λz=>I4.ok.exfs b a z,.inl a,λx c e=>(Z b a).2.2.2.2.1 x c (h1 x c e),λp hp=>(Z b a).2.2.2.2.2 p (by
    rcases aai.mp hp with z|z
    ·exact z
    ·exact absurd z (by simp))⟩
  refine oX he (Y:=dn X N scope t s3 (upd n d.heap.objs.size o0) k pins) hc rfl (ht ..) T (hg ⟨t,s3,upd n d.heap.objs.size o0,k,pins⟩) (ha ⟨t,s3,upd n d.heap.objs.size o0,k,pins⟩ _) I4 G (P λb a=>(f3 b a).1) hW λa8 H6 s6 I6 _ qn=>?_;obtain⟨m,hm,_⟩:=id I6.loc;refine a4 _ _ s6 H6 (O.mn (by rw[F];exact Nat.le_succ _) I6.free) ?_ ?_ ⟨m,hm⟩ (λh' a7=>qL O Z hD (aag _) (by rw[F];exact abB _) a2 a5 I6 a7) qn
  ·obtain⟨o,_,_,ho,_⟩:=hm;intro z;have W:s6.heap.get? s3.heap.objs.size=some o:=ho;rw[z]at W;cases W
  ·exact aaZ (Nat.lt_trans O.lt (by rw[F];exact abB _))
 exact zi he (by rw[a0];rfl) rfl q (T.self X.A 0 s4 _ _ G q)
theorem mM{B d:Pos}(Z:By e)(u:clausesOf e=⟨tg,iter,ifs,0⟩::rest)(T:∀it D env,compTurn e 0 it (.ref D) env=cv e 0 tg iter.pos it (.ref D) env (body D env))(M:MkC X mk o o0)(hu:∀j,evalThenUse e X.env j=(do let _ <-comprehension e scope X.env pos mk false (eval iter X.env) (some j)))(W:X.N.Nodup)(hy:X.N[i]?=some y)(J:X.env.scope.names.lookup y=some .local)(U:X.calm=true)(S:CompScope N nt fr X.N scope X.env.scope)(hi:PI X tg iter wi)
  (Q:∀c:CC,PG (bJ X N scope c) tg (g c)) (ha:∀(c:CC) D,PB (bJ X N scope c) (body D (bJ X N scope c).env) (tb c D))
  (hs:∀x,foldedSetIterable iter X.env x=pure x:=by intro _;rfl)
  (F:swapsWith e (some (.Name y B)) d.line X.env=pure true):
  PS X (.Assign [.Name y B] e d) (kH (fZ o0 wi nt fr g tb) (fW i)):=by
 intro k s σ H D I h;rw[exec_Assign_Name_used _ _ _ _ F];refine acl (acu (acl ?_));rw[hu];refine acl (acr (f6 Z u T M U S hi Q ha I h (λx Y hf=>S.cells x Y hf) (λO C G L f hC _ p hI q=>?_) hs) (λ_ s' hq=>acm (acm hq)) λ_ _ e=>e);obtain⟨m,p⟩:=p;have I5:Inv X k σ L G:=hI G.heap ⟨rfl,λ_ _=>rfl⟩;show wpAny _ X.A (assign (.Name y B) X.env (.ref O)) _ _ _;refine wpAny_assign_Name (hR I5 W hy (.inl J) (v:=.ref O) rfl (λs6 I6 t=>?_) (.inr J));obtain⟨a,l,r⟩:=t;have w:C≠a:=by
  rcases r with e|e
  ·rw[e];exact f.2.1
  ·exact λz=>f.2.2.2.2.1 _ _ e z.symm
 exact⟨m,p.sameBut l w,λh' n=>⟨_,L,I6.turned (λb o P e=>(n.2 b P).trans e) f.1 f.2.1 f.2.2.2.1 f.2.2.2.2.1 f.2.2.2.2.2,q⟩⟩
theorem qM(l:By e)(d:clausesOf e=⟨tg,iter,ifs,0⟩::rest)(j:∀it D env,compTurn e 0 it (.ref D) env=cv e 0 tg iter.pos it (.ref D) env (body D env))(M:MkC X mk o o0)(n:eval e X.env=comprehension e scope X.env pos mk false (eval iter X.env))(k:X.calm=true)(S:CompScope N nt fr X.N scope X.env.scope)(hi:PI X tg iter wi)
  (i:∀c:CC,PG (bJ X N scope c) tg (g c)) (v:∀(c:CC) D,PB (bJ X N scope c) (body D (bJ X N scope c).env) (tb c D)) (p:∀x,foldedSetIterable iter X.env x=pure x):PE X e (fZ o0 wi nt fr g tb):=by
 intro f s A H Q I h;rw[n];refine f6 l d j M k S hi i v I h (λx y r=>S.cells x y r) (λD C z t _ _ _ b w q=>?_) p;obtain⟨m,b⟩:=b;exact⟨m,b,λu a=>⟨.ref D,t,w u a,rfl,q⟩⟩
end
abbrev TC:=Addr->St->Hp->(Hp->Prop)->Prop
def mN(d:TE):TC:=λD c H Q=>d c H λy b=>∃a,b D=some (.lst a)/\a.length<sizeLine/\Q (upd b D (.lst (a++[y])))
def B7(d:TT)(e:TE):TC:=λD a H Q=>d a H λb c=>if b=true then mN e D a c Q else Q c
abbrev tZ(tc:CC->TC):CC->Addr->TB:=λc D σ H Q=>tc c D σ H (Q σ)
abbrev mO(wi:TI)(nt:Nat)(fr:List Nat)(g:CC->TG)(tc:CC->TC):TE:=fZ (.lst []) wi nt fr g (tZ tc)
def HJ(b:TE)(D:Addr):TB:=λa H Q=>mN b D a H (Q a)
abbrev EX(elt:Expr)(acc:Value)(env:Env):Sem Unit:=eval elt env >>= λx=>call (.builtin "list.append") [acc,x] >>= λ_=>pure ()
theorem xH(d:PE Y elt te):PB Y (EX elt (.ref D) Y.env) (HJ te D):=λa s b H Q I h=>by
 refine acl (thn (d a s b H _ I h) λu l c=>?_);obtain⟨y,j,o,g,e,i,n,q⟩:=c;exact acl (thn (ib a l b j (.ref D) [y] (.ref D) [u] (λv k=>v=.non/\Q b k) o rfl (.cons g .nil) ⟨D,e,y,rfl,rfl,i,n,rfl,q⟩) λv r c=>by
  obtain⟨z,m,f,_,_,p⟩:=c;exact acm ⟨b,m,f,p⟩)
abbrev u9(ifs:List Expr)(act:Sem Unit)(env:Env):Sem Unit:=(forIn ifs true λc r=>if r=true then do let ok <-isTrue c env (eval c env);pure (ForInStep.yield ok) else pure (ForInStep.yield r)) >>= λok=>if ok=true then act else pure ()
theorem qN(h:PB Y act tb):PB Y (u9 [] act Y.env) tb:=λa s b H Q I q=>acl (wpAny_tests_nil (h a s b H Q I q))
theorem qO(g:PT Y c tt)(h:PB Y act tb):PB Y (u9 [c] act Y.env) (λσ H Q=>tt σ H λb d=>if b=true then tb σ d Q else Q σ d):=λa s σ H Q I q=>by
 refine acl (wpAny_tests_one (thn (g a s σ H _ I q) λb j i=>?_));obtain⟨d,f,e⟩:=i;cases b with
 |true=>exact h a j σ d Q f e
 |false=>exact acm ⟨σ,d,f,e⟩
def k5(Y:Cx)(D:Addr)(ifs:List Expr)(elt:Expr)(tc:TC):Prop:=PB Y (u9 ifs (EX elt (.ref D) Y.env) Y.env) (λa H Q=>tc D a H (Q a))
theorem oY(a:PE Y elt te):k5 Y D [] elt (mN te):=qN (xH a)
theorem qP(b:PT Y c tt)(a:PE Y elt te):k5 Y D [c] elt (B7 tt te):=qO b (xH a)
theorem GZ:MkC X (newList []) { cls:=.type "list",dict:=none,data:=.seq ([]:List Value).toArray } (.lst []):=⟨λh=>acw h (by show 0<=sizeLine;exact aaK _),λI=>I.lnew .nil (aaK _)⟩
theorem jp{c:Type}(m:Sem Bool)(a:Sem Unit)(k:Sem c):(m >>= λb=>if b=true then a >>= λ_=>k else k)=((m >>= λb=>if b=true then a else pure ()) >>= λ_=>k):=by rw[bind_assoc];congr 1;funext b;cases b<;>rfl
theorem qQ(it acc:Value)(env:Env):compTurn (.ListComp elt [⟨tg,iter,ifs,0⟩] scope pos) 0 it acc env=cv (.ListComp elt [⟨tg,iter,ifs,0⟩] scope pos) 0 tg iter.pos it acc env (u9 ifs (EX elt acc env) env):=by rw[compTurn_list];simp only[cv,u9,<-jp,EX];rfl
theorem vc(b:X.calm=true)(S:CompScope N nt fr X.N scope X.env.scope)(hi:PI X tg iter wi)(a:∀c:CC,PG (bJ X N scope c) tg (g c))(e:∀(c:CC) D,k5 (bJ X N scope c) D ifs elt (tc c))(d:∀x,foldedSetIterable iter X.env x=pure x:=by intro _;rfl):
  PE X (.ListComp elt [⟨tg,iter,ifs,0⟩] scope pos) (mO wi nt fr g tc):=qM (.inl ⟨_,_,_,_,rfl⟩) rfl (λ_ _ _=>qQ ..) GZ rfl b S hi a e d
theorem vd(h:X.N.Nodup)(d:X.N[i]?=some y)(b:X.env.scope.names.lookup y=some .local)(f:X.calm=true)(S:CompScope N nt fr X.N scope X.env.scope)(hi:PI X tg iter wi)(e:∀c:CC,PG (bJ X N scope c) tg (g c))(k:∀(c:CC) D,k5 (bJ X N scope c) D ifs elt (tc c))(j:∀x,foldedSetIterable iter X.env x=pure x)
  (a:swapsWith (.ListComp elt [⟨tg,iter,ifs,0⟩] scope pos) (some (.Name y py)) spos.line X.env=pure true):PS X (.Assign [.Name y py] (.ListComp elt [⟨tg,iter,ifs,0⟩] scope pos) spos) (kH (mO wi nt fr g tc) (fW i)):=
 mM (.inl ⟨_,_,_,_,rfl⟩) rfl (λ_ _ _=>qQ ..) GZ (λ_=>rfl) h d b f S hi e k j a
end
section
theorem dN{items}(a:s.heap.IsTupleIter it t i)
  (f:s.heap.IsTuple t items) (j:items[i]?=some x)
  (h:∀h',h'.IsTupleIter it t (i+1)->Heap.SameBut it s.heap h'->Q x { s with heap:=h' }):
  wpAny (model prog w) A (Builtin.SmallTypes.nextOf (.ref it)) Q E s:=by
 obtain⟨o,c,g,b⟩:=id a;obtain⟨k,e,_,l,d⟩:=f;unfold Builtin.SmallTypes.nextOf;refine acl (acI a.typeIs acN
  (acJ acN a.typeIs acV ?_ (acW _)))
 show wpAny _ _ (field (.ref it) 0 >>= _) _ _ s;refine acl (acq c b rfl ?_);show wpAny _ _ (if (Value.ref t==Value.none)=true then _ else _) _ _ s;rw[if_neg (show ¬ ((Value.ref t==Value.none)=true) from aak)];show wpAny _ _ (field (.ref it) 1 >>= _) _ _ s;refine acl (acq c b rfl ?_);show wpAny _ _ (seqItems? (.ref t) >>= _) _ _ s;refine acl (acy e d ?_);simp only[Int.toNat_natCast,j];refine acl (wpAny_setField c b (by simp) (acm ⟨x,rfl,acm (h _ ?_ (Heap.SameBut.update ..))⟩));exact⟨_,Heap.get?_update_self _ c (Obj.isFreed_of_fields (Obj.data_mapFields b _)),(Obj.cls_mapFields ..).trans g,by
  rw[Obj.data_mapFields b];simp[rawInt]⟩
theorem eK{items}{Q:Value->Shared->Prop}(g:A.handled=none)
  (a:s.heap.IsTupleIter it t i) (h:s.heap.IsTuple t items) (k:items[i]?=none)
  (j:∀h' e,Heap.ExtBut it s.heap h'->(∃o,h'.get? e=some o/\o.cls=.type "StopIteration")->E (.ref e) { s with heap:=h' }):
  wpAny (model prog w) A (Builtin.SmallTypes.nextOf (.ref it)) Q E s:=by
 obtain⟨o,c,m,d⟩:=id a;obtain⟨l,f,_,n,b⟩:=h;unfold Builtin.SmallTypes.nextOf;refine acl (acI a.typeIs acN
  (acJ acN a.typeIs acV ?_ (acW _)))
 show wpAny _ _ (field (.ref it) 0 >>= _) _ _ s;refine acl (acq c d rfl ?_);show wpAny _ _ (if (Value.ref t==Value.none)=true then _ else _) _ _ s;rw[if_neg (show ¬ ((Value.ref t==Value.none)=true) from aak)];show wpAny _ _ (field (.ref it) 1 >>= _) _ _ s;refine acl (acq c d rfl ?_);show wpAny _ _ (seqItems? (.ref t) >>= _) _ _ s;refine acl (acy f b ?_);simp only[Int.toNat_natCast,k];refine acl (acB (acl (wpAny_setField c d (by simp) ?_)));show wpAny _ _ (newExc (.type "StopIteration") [] >>= _) _ _ _;refine acl ?_;simp only[newExc,newTuple];refine acl (acw ?_ (by size_fits));refine acl (wpAny_of_eq (by first|rfl|(simp only[firstArgMember];rfl)) ?_);refine acw ?_ (by size_fits);simp only[raiseNew];refine acl (wpAny_handled ?_)
 first|rw[show A.in1.handled=none from g]|rw[g]
 refine acl (acm (wpAny_throw ?_));exact j _ _ (((Heap.SameBut.update ..).extBut.push _).push _) ⟨_,acp _ rfl,rfl⟩
inductive ZS where
 |lst (a:Addr) (xs:List V)
 |tup (a:Addr) (xs:List V)
 |str (z:Str)
def ZS.items:ZS->List V
 |.lst _ xs=>xs
 |.tup _ xs=>xs
 |.str z=>z.cps.toList.map λc=>.str ⟨#[c]⟩
def ZS.val:ZS->V
 |.lst a _=>.ref a
 |.tup a _=>.ref a
 |.str z=>.str z
def ZS.ok(K:Waa)(H:Hp):ZS->Prop
 |.lst a xs=>SqL K H a xs
 |.tup a xs=>SqT K H a xs
 |.str _=>True
structure Sub (prog:Program)(w:World)(A:Around)(i:Addr)(sl:List Addr)(src:Heap->Prop)(st:Nat->Heap->Prop)(vs:List V):Prop where
 sfr:∀h h',src h->(∀b∈sl,∀o,h.get? b=some o->h'.get? b=some o)->src h'
 ifr:∀k h h',st k h->(∀o,h.get? i=some o->h'.get? i=some o)->st k h'
 item:∀(k:Nat) (s:Shared) (x:V) (Q:Value->Shared->Prop) (E:Value->Shared->Prop),vs[k]?=some x->src s.heap->st k s.heap ->
  (∀v h' tk,RelV x v->st (k+1) h'->Heap.SameBut i s.heap h'->Q v { s with heap:=h',toks:=tk })->wpAny (model prog w) A (Builtin.SmallTypes.nextOf (.ref i)) Q E s
 done:∀(k:Nat) (s:Shared) (Q:Value->Shared->Prop) (E:Value->Shared->Prop),vs.length<=k->src s.heap->st k s.heap ->
  (∀h' e,Heap.ExtBut i s.heap h'->(∃o,h'.get? e=some o/\o.cls=.type "StopIteration")->E (.ref e) { s with heap:=h' })->wpAny (model prog w) A (Builtin.SmallTypes.nextOf (.ref i)) Q E s
theorem Sub.list(q:A.handled=none)(i l:Addr)(r:Vals xs its):
  Sub prog w A i [l] (λh=>h.IsList l its.toArray) (λk h=>h.IsListIter i l k) xs where
 sfr:=λh d x k=>x.at λo e=>k l (by simp) o e
 ifr:=λk h d x f=>x.at λo e=>f o e
 item:=λk s x Q E t c b m=>by obtain⟨u,n,j⟩:=r.get t;exact wpAny_nextOf_list_item b c (by simpa using n) λd a g=>m u d s.toks j a g
 done:=λk s Q E y c b p=>by have v:=r.length;exact wpAny_nextOf_list_end q b c (by simp;omega) p
theorem Sub.tuple(t:A.handled=none)(i l:Addr)(r:Vals xs its):
  Sub prog w A i [l] (λh=>h.IsTuple l its.toArray) (λk h=>h.IsTupleIter i l k) xs where
 sfr:=λh g ⟨o,e,c⟩ k=>⟨o,k l (by simp) o e,c⟩
 ifr:=λk h g ⟨o,e,c⟩ f=>⟨o,f o e,c⟩
 item:=λk s x Q E v d b n=>by obtain⟨u,p,m⟩:=r.get v;exact dN b d (by simpa using p) λg a j=>n u g s.toks m a j
 done:=λk s Q E z d b q=>by have y:=r.length;exact eK t b d (by simp;omega) q
theorem Sub.strs(u:A.handled=none)(i:Addr)(z:Str)(t:Tok):
  Sub prog w A i [] (λ_=>True) (λk h=>h.IsStrIter i (strIterType z) z t k) (z.cps.toList.map λc=>V.str ⟨#[c]⟩) where
 sfr:=λh g x k=>trivial
 ifr:=λk h g ⟨o,e,c⟩ f=>⟨o,f o e,c⟩
 item:=λk s x Q E l v a d=>by
  rw[aaz]at l;cases e:z.cps.toList[k]? with
  |none=>rw[e]at l;cases l
  |some c=>
   rw[e]at l;have n:V.str ⟨#[c]⟩=x:=aaD l;subst n;have j:z.cps[k]?=some c:=by rw[<-ab0];exact e
   unfold strIterType at a d;split at a
   ·rename_i p;rw[if_pos p]at d;exact wpAny_nextOf_ascii_item a j λg b m=>d _ g _ ⟨_,rfl⟩ b m
   ·rename_i p;rw[if_neg p]at d;exact wpAny_nextOf_wide_item a j λg b m=>d _ g _ ⟨_,rfl⟩ b m
 done:=λk s Q E q v a r=>by
  have j:z.cps[k]?=none:=by rw[aaa,aa6]at q;exact ab1 q
  unfold strIterType at a;split at a
  ·exact wpAny_nextOf_ascii_end u a j r
  ·exact wpAny_nextOf_wide_end u a j r
structure ZApart (z TI TO i1 i2:Addr)(sl1 sl2:List Addr):Prop where
 TIz:TI≠z
 TOz:TO≠z
 i1z:i1≠z
 i2z:i2≠z
 TITO:TI≠TO
 TIi1:TI≠i1
 TIi2:TI≠i2
 TOi1:TO≠i1
 TOi2:TO≠i2
 i12:i1≠i2
 s1:∀b∈sl1,b≠z/\b≠TO/\b≠i1/\b≠i2
 s2:∀b∈sl2,b≠z/\b≠TO/\b≠i1/\b≠i2
theorem oZ{z N p P T:Addr}{Q:Value->Shared->Prop}(D:ZApart z N p P T sl1 sl2)
  (S1:Sub prog w A P sl1 src1 st1 xs) (S2:Sub prog w A T sl2 src2 st2 ys)
  (hz:IsZip s.heap z N p .none) (b1:IsPair s.heap N (.ref P) (.ref T)) (b0:IsPair s.heap p a b)
  (h1:st1 k s.heap) (h2:st2 k s.heap) (a5:src1 s.heap) (a8:src2 s.heap) (hx:xs[k]?=some x) (hy:ys[k]?=some y)
  (hQ:∀u v h' tk,RelV x u->RelV y v->IsZip h' z N p (rawInt s.heap.objs.size)->IsPair h' p u v->st1 (k+1) h'->st2 (k+1) h'->IsPair h' s.heap.objs.size u v->h'.objs.size=s.heap.objs.size+1 ->
   (∀c o,c≠z->c≠p->c≠P->c≠T->s.heap.get? c=some o->h'.get? c=some o)->Q (.ref s.heap.objs.size) { s with heap:=h',toks:=tk })
  (b3:P<s.heap.objs.size) (b4:T<s.heap.objs.size):
  wpAny (model prog w) A (Builtin.«zip.__next__» ⟨[.ref z],[]⟩) (λb2 s'=>∃v,b2=.done (.ret v)/\Q v s') E s:=by
 show wpAny _ _ (field (.ref z) 2 >>= _) _ _ _;refine acl (acq hz rfl rfl ?_);show wpAny _ _ (field (.ref z) 3 >>= _) _ _ _;refine acl (acq hz rfl rfl ?_);refine acl (acy b1 rfl ?_);show wpAny _ _ (Builtin.SmallTypes.ownedTupleIsFree (.ref z) >>= _) _ _ _;refine acl ?_;unfold Builtin.SmallTypes.ownedTupleIsFree;refine acl (acq hz rfl rfl (acm ?_));simp only[if_true];refine acl (acB ?_);refine acl (acq hz rfl rfl ?_);refine acl (acD hz (by simp) λO C i=>?_);replace C:IsZip O z N p .ellipsis:=C;refine acl ?_;simp only[List.zipIdx_cons,List.zipIdx_nil,abJ,List.forIn_nil];refine acl (acl (acO ?_));show wpAny _ _ (Builtin.SmallTypes.nextOf (.ref P) >>= _) _ _ _;refine acl (S1.item k _ x _ _ hx (S1.sfr _ _ a5 λb hb o e=>i.extBut b o (D.s1 b hb).1 e) (S1.ifr _ _ _ h1 λo e=>i.extBut _ o D.i1z e) λu I a7 ru a0 f=>acm ?_);have f:Heap.SameBut P O I:=f;have G:IsPair I p a b:=f.extBut _ _ D.TOi1 (i.extBut _ _ D.TOz b0);refine acl (acy G rfl ?_);refine acl (acS G λJ m g=>?_);replace m:IsPair J p u b:=m;have g:Heap.SameBut p I J:=g;refine acl (wpAny_letGo (acm ?_));refine acl (acl (acO ?_));show wpAny _ _ (Builtin.SmallTypes.nextOf (.ref T) >>= _) _ _ _;refine acl (S2.item k _ y _ _ hy (S2.sfr _ _ a8 λb hb o e=>g.extBut b o (D.s2 b hb).2.1 (f.extBut b o (D.s2 b hb).2.2.1 (i.extBut b o (D.s2 b hb).1 e)))
  (S2.ifr _ _ _ h2 λo e=>g.extBut _ o D.TOi2.symm (f.extBut _ o D.i12.symm (i.extBut _ o D.i2z e))) λv M a6 rv X h=>acm ?_)
 have h:Heap.SameBut T J M:=h;have F:IsPair M p u b:=h.extBut _ _ D.TOi2 m;refine acl (acy F rfl ?_);refine acl (acS F λd l j=>?_);replace l:IsPair d p u v:=l;have j:Heap.SameBut p M d:=j;refine acl (wpAny_letGo (acm (acm ?_)));refine acl (acy l rfl ?_);refine acl (wpAny_newTuple ?_);have a4:d.objs.size=s.heap.objs.size:=by rw[j.1,h.1,g.1,f.1,i.1]
 have H:IsZip d z N p .ellipsis:=j.extBut _ _ D.TOz.symm (h.extBut _ _ D.i2z.symm (g.extBut _ _ D.TOz.symm (f.extBut _ _ D.i1z.symm C)));have a1:∀c o,c≠z->c≠p->c≠P->c≠T->s.heap.get? c=some o->d.get? c=some o:=λc o Z c2 c3 c4 e=>
  j.extBut _ _ c2 (h.extBut _ _ c4 (g.extBut _ _ c2 (f.extBut _ _ c3 (i.extBut _ _ Z e))))
 have W:st1 (k+1) d:=S1.ifr _ _ _ a0 λo e=>j.extBut _ o D.TOi1.symm (h.extBut _ o D.i12 (g.extBut _ o D.TOi1.symm e));have U:st2 (k+1) d:=S2.ifr _ _ _ X λo e=>j.extBut _ o D.TOi2.symm e;have S:z<d.objs.size:=acn H;show wpAny _ _ (Builtin.SmallTypes.ownedTupleHandOut (.ref z) (.ref d.objs.size) >>= _) _ _ _;refine acl ?_;unfold Builtin.SmallTypes.ownedTupleHandOut;have Y:IsZip (d.push { cls:=.type "tuple",data:=.seq #[u,v] }) z N p .ellipsis:=aco _ H;refine acl (acD Y (by simp) λa3 t r=>?_);replace t:IsZip a3 z N p (rawInt d.objs.size):=t;refine acD t (by simp) λq n B=>?_;replace n:IsZip q z N p (rawInt d.objs.size):=n;have up:∀c o,c≠z->d.get? c=some o->q.get? c=some o:=λc o Z e=>B.extBut _ _ Z (r.extBut _ _ Z (aco _ e));have L:IsPair q d.objs.size u v:=B.extBut _ _ (aaZ S) (r.extBut _ _ (aaZ S) (acp _ rfl));have a2:q.objs.size=d.objs.size+1:=by rw[B.1,r.1,acx]
 rw[a4]at n L a2;refine acm ⟨_,rfl,?_⟩;show Q (.ref d.objs.size) _;rw[a4];exact hQ u v q _ ru rv n (up _ _ D.TOz l) (S1.ifr _ _ _ W λo e=>up _ o D.i1z e) (S2.ifr _ _ _ U λo e=>up _ o D.i2z e) L a2 λc o Z c2 c3 c4 e=>up c o Z (a1 c o Z c2 c3 c4 e)
theorem qR{z I B G H:Addr}{Q:Fin->Shared->Prop}(D:ZApart z I B G H sl1 sl2)
  (P:Sub prog w A G sl1 src1 st1 xs) (S2:Sub prog w A H sl2 src2 st2 ys)
  (O:IsZip s.heap z I B .none) (a2:IsPair s.heap I (.ref G) (.ref H)) (a1:IsPair s.heap B a b)
  (h1:st1 k s.heap) (h2:st2 k s.heap) (T:src1 s.heap) (Z:src2 s.heap) (N:xs.length<=k\/ys.length<=k)
  (hE:∀h' tk e,(∀c o,c≠z->c≠B->c≠G->c≠H->s.heap.get? c=some o->h'.get? c=some o)->(∃o,h'.get? e=some o/\o.cls=.type "StopIteration")->E (.ref e) { s with heap:=h',toks:=tk }):
  wpAny (model prog w) A (Builtin.«zip.__next__» ⟨[.ref z],[]⟩) Q E s:=by
 show wpAny _ _ (field (.ref z) 2 >>= _) _ _ _;refine acl (acq O rfl rfl ?_);show wpAny _ _ (field (.ref z) 3 >>= _) _ _ _;refine acl (acq O rfl rfl ?_);refine acl (acy a2 rfl ?_);show wpAny _ _ (Builtin.SmallTypes.ownedTupleIsFree (.ref z) >>= _) _ _ _;refine acl ?_;unfold Builtin.SmallTypes.ownedTupleIsFree;refine acl (acq O rfl rfl (acm ?_));simp only[if_true];refine acl (acB ?_);refine acl (acq O rfl rfl ?_);refine acl (acD O (by simp) λm l g=>?_);replace l:IsZip m z I B .ellipsis:=l;refine acl ?_;simp only[List.zipIdx_cons,List.zipIdx_nil,abJ,List.forIn_nil];refine acl (acl (acO ?_));show wpAny _ _ (Builtin.SmallTypes.nextOf (.ref G) >>= _) _ _ _;have l1:src1 m:=P.sfr _ _ T λb J o e=>g.extBut b o (D.s1 b J).1 e;have t1:st1 k m:=P.ifr _ _ _ h1 λo e=>g.extBut _ o D.i1z e;by_cases hx:xs.length<=k
 ·refine acl (P.done k _ _ _ hx l1 t1 λi e d X=>?_);have d:Heap.ExtBut G m i:=d;obtain⟨oe,n,t⟩:=X;have y:IsZip i z I B .ellipsis:=d _ _ D.i1z.symm l;have F:e≠z:=λx=>by subst x;rw[y]at n;cases n;simp at t
  refine acD y (by simp) λp _ f=>hE p _ e (λc o L _ Y _ x=>f.extBut _ _ L (d _ _ Y (g.extBut _ _ L x))) ⟨oe,f.extBut _ _ F n,t⟩
 ·have hy:ys.length<=k:=by rcases N with h|h;exact absurd h hx;exact h
  obtain⟨x,W⟩:∃x,xs[k]?=some x:=⟨_,aaB (Nat.lt_of_not_le hx)⟩
  refine acl (P.item k _ x _ _ W l1 t1 λu i U ru a0 d=>acm ?_);have d:Heap.SameBut G m i:=d;have q:IsPair i B a b:=d.extBut _ _ D.TOi1 (g.extBut _ _ D.TOz a1);refine acl (acy q rfl ?_);refine acl (acS q λp S f=>?_);have f:Heap.SameBut B i p:=f;refine acl (wpAny_letGo (acm ?_));refine acl (acl (acO ?_));show wpAny _ _ (Builtin.SmallTypes.nextOf (.ref H) >>= _) _ _ _;refine acl (S2.done k _ _ _ hy (S2.sfr _ _ Z λb J o e=>f.extBut b o (D.s2 b J).2.1 (d.extBut b o (D.s2 b J).2.2.1 (g.extBut b o (D.s2 b J).1 e)))
   (S2.ifr _ _ _ h2 λo e=>f.extBut _ o D.TOi2.symm (d.extBut _ o D.i12.symm (g.extBut _ o D.i2z e))) λC e j X=>?_)
  have j:Heap.ExtBut H p C:=j;obtain⟨oe,n,t⟩:=X;have r:IsZip C z I B .ellipsis:=j _ _ D.i2z.symm (f.extBut _ _ D.TOz.symm (d.extBut _ _ D.i1z.symm l));have F:e≠z:=λx=>by subst x;rw[r]at n;cases n;simp at t
  refine acD r (by simp) λM _ v=>hE M _ e (λc o L c2 Y c4 x=>v.extBut _ _ L (j _ _ c4 (f.extBut _ _ c2 (d.extBut _ _ Y (g.extBut _ _ L x))))) ⟨oe,v.extBut _ _ F n,t⟩
theorem k6{z g d e f:Addr}(D:ZApart z g d e f sl1 sl2)
  (G:Sub prog w A.in1 e sl1 src1 st1 xs) (N:Sub prog w A.in1 f sl2 src2 st2 ys)
  (r:IsZip s.heap z g d .none) (n:IsPair s.heap g (.ref e) (.ref f)) (l:IsPair s.heap d a b)
  (I:st1 k s.heap) (t:st2 k s.heap) (h:src1 s.heap) (i:src2 s.heap) (W:xs[k]?=some x) (S:ys[k]?=some y)
  (C:∀u v h' m,RelV x u->RelV y v->IsZip h' z g d (rawInt s.heap.objs.size)->IsPair h' d u v->st1 (k+1) h'->st2 (k+1) h'->IsPair h' s.heap.objs.size u v->h'.objs.size=s.heap.objs.size+1 ->
   (∀c o,c≠z->c≠d->c≠e->c≠f->s.heap.get? c=some o->h'.get? c=some o)->Q (some (.ref s.heap.objs.size)) { s with heap:=h',toks:=m })
  (j:e<s.heap.objs.size) (p:f<s.heap.objs.size):
  wpAny (model prog w) A (pyNext (.ref z)) Q E s:=by
 have q:s.TypeIs (.ref z) "zip":=⟨_,r,rfl⟩
 unfold pyNext;exact acl (wpAny_attempt (acI q acP
  (acJ acP q F.entry_zip_next
   (oZ D G N r n l I t h i W S (λu v h' m H P M L J B T O U=>acm (C u v h' m H P M L J B T O U)) j p) (F.args_zip_next_1 _))))
theorem pb{z n f g h:Addr}(D:ZApart z n f g h sl1 sl2)
  (B:Sub prog w A.in1 g sl1 src1 st1 xs) (H:Sub prog w A.in1 h sl2 src2 st2 ys)
  (r:IsZip s.heap z n f .none) (m:IsPair s.heap n (.ref g) (.ref h)) (l:IsPair s.heap f a b)
  (C:st1 k s.heap) (t:st2 k s.heap) (i:src1 s.heap) (j:src2 s.heap) (d:xs.length<=k\/ys.length<=k)
  (x:∀h' q,(∀c o,c≠z->c≠f->c≠g->c≠h->s.heap.get? c=some o->h'.get? c=some o)->Q none { s with heap:=h',toks:=q }):wpAny (model prog w) A (pyNext (.ref z)) Q E s:=by
 have p:s.TypeIs (.ref z) "zip":=⟨_,r,rfl⟩
 unfold pyNext;refine acl (wpAny_attempt (acI p acP
  (acJ acP p F.entry_zip_next (qR D B H r m l C t i j d λh' q e G v=>?_) (F.args_zip_next_1 _))))
 obtain⟨o,y,u⟩:=v;refine acl (wpAny_isInstance ⟨o,y,u⟩ isSubtype_stop ?_);exact acm (x _ _ G)
end
section
def EY(K:Waa)(a b:ZS):It:=
 ⟨λi H=>a.ok K H/\b.ok K H/\i<a.items.length/\i<b.items.length,
  λi H v c=>∃T x y,a.items[i]?=some x/\b.items[i]?=some y/\H T=none/\v=.ref T/\c=upd H T (.tup [x,y]),
  λi H=>a.ok K H/\b.ok K H/\(a.items.length<=i\/b.items.length<=i)⟩
def ZS.ry:ZS->Value->Obj
 |.lst _ _,v=>{ cls:=.type "list_iterator",data:=.fields #[v,.int 0 0] }
 |.tup _ _,v=>{ cls:=.type "tuple_iterator",data:=.fields #[v,.int 0 0] }
 |.str z,v=>{ cls:=.type (strIterType z),data:=.fields #[v,.int 0 0] }
def ZS.st(a:ZS)(v:Value)(i:Addr)(k:Nat)(h:Heap):Prop:=match a,v with
 |.lst l _,_=>h.IsListIter i l k
 |.tup l _,_=>h.IsTupleIter i l k
 |.str z,.str _ t=>h.IsStrIter i (strIterType z) z t k
 |.str _,_=>False
def ZS.sl:ZS->List Addr
 |.lst l _=>[l]
 |.tup l _=>[l]
 |.str _=>[]
theorem ZS.h7{a:ZS}(x:a.st v i k h):∃o,h.get? i=some o/\∀c,o.data≠.cell c:=by
 cases a with
 |lst l b=>obtain⟨o,e,c,d⟩:=(show h.IsListIter i l k from x);exact⟨o,e,λv z=>by rw[d]at z;cases z⟩
 |tup l b=>obtain⟨o,e,c,d⟩:=(show h.IsTupleIter i l k from x);exact⟨o,e,λv z=>by rw[d]at z;cases z⟩
 |str z=>
  cases v with
  |str y t=>obtain⟨o,e,c,d⟩:=(show h.IsStrIter i (strIterType z) z t k from x);exact⟨o,e,λv z=>by rw[d]at z;cases z⟩
  |_=>exact False.elim x
theorem ZS.gi{a:ZS}(x:a.st v i k h)(f:∀o,h.get? i=some o->h'.get? i=some o):a.st v i k h':=by
 cases a with
 |lst l b=>obtain⟨o,e,c⟩:=(show h.IsListIter i l k from x);exact⟨o,f o e,c⟩
 |tup l b=>obtain⟨o,e,c⟩:=(show h.IsTupleIter i l k from x);exact⟨o,f o e,c⟩
 |str z=>
  cases v with
  |str y t=>obtain⟨o,e,c⟩:=(show h.IsStrIter i (strIterType z) z t k from x);exact⟨o,f o e,c⟩
  |_=>exact False.elim x
theorem ZS.sub(a:ZS)(I:Inv X pins σ H s)(c:a.ok X.K H)(u:RelV a.val v)(A:Around)(q:A.handled=none)(i:Addr):
  ∃f:Heap->Prop,f s.heap/\Sub X.prog X.w A i a.sl f (a.st v i) a.items/\(∀b∈a.sl,∃o,s.heap.get? b=some o/\(H b≠none\/X.base.get? b=some o)):=by
 cases a with
 |lst l m=>
  have c:SqL X.K H l m:=c;obtain⟨k,r,p,x⟩:=I.list c;refine⟨_,p.isList,Sub.list q i l r,λb d=>?_⟩;have e:b=l:=by simpa[ZS.sl] using d
  subst e;rcases c with (h|⟨o,h⟩)|⟨o,j,n,g,_⟩
  ·obtain⟨_,_,_,_,e⟩:=I.hok _ _ h;exact⟨_,e,.inl (by rw[h];simp)⟩
  ·obtain⟨e,_⟩:=I.hok _ _ h;exact⟨_,e,.inl (by rw[h];simp)⟩
  ·exact⟨o,I.pe _ _ g,.inr (I.ok.mod.kin _ _ g)⟩
 |tup l m=>
  have c:SqT X.K H l m:=c;obtain⟨k,r,p,x⟩:=I.tuple c;refine⟨_,p,Sub.tuple q i l r,λb d=>?_⟩;have e:b=l:=by simpa[ZS.sl] using d
  subst e;rcases c with (h|⟨o,h⟩)|⟨o,j,n,g,_⟩
  ·obtain⟨_,_,_,o,e,_⟩:=I.hok _ _ h;exact⟨_,e,.inl (by rw[h];simp)⟩
  ·obtain⟨e,_⟩:=I.hok _ _ h;exact⟨_,e,.inl (by rw[h];simp)⟩
  ·exact⟨o,I.pe _ _ g,.inr (I.ok.mod.kin _ _ g)⟩
 |str z=>obtain⟨t,rfl⟩:=u;exact⟨_,trivial,Sub.strs q i z t,λb d=>by simp[ZS.sl]at d⟩
theorem aG{a:ZS}(I:Inv X pins σ H s)(f:FpOk X pins H b)(h:∀c∈a.sl,∃o,s.heap.get? c=some o/\(H c≠none\/X.base.get? c=some o)):∀c∈a.sl,c≠b:=by
 intro c d e;subst e;obtain⟨o,_,q⟩:=h c d;rcases q with q|q
 ·exact q f.1
 ·rcases f.2.2.2.1 with z|z
  ·exact I.ok.noex c o q z
  ·exact absurd (aax (acn q) (aas I.ok.bsz z)) (aaU _)
structure ZRec (z TI TO i1 i2:Addr):Prop where
 TIz:TI≠z
 TOz:TO≠z
 i1z:i1≠z
 i2z:i2≠z
 TITO:TI≠TO
 TIi1:TI≠i1
 TIi2:TI≠i2
 TOi1:TO≠i1
 TOi2:TO≠i2
 i12:i1≠i2
theorem Inv.fy{t':Nat}{g:List Addr}(I:Inv X pins σ H s)(k:∀b o,b ∉ g->s.heap.get? b=some o->h'.get? b=some o)(f:∀b∈g,FpOk X pins H b)
  : Inv X pins σ H { s with heap:=h',toks:=t' }:=by
 have d:∀b u,H b=some u->b ∉ g:=λb u e z=>by rw[(f b z).1]at e;cases e
 refine I.step (λb h=>?_) (λb o _ _ a e _=>k b o a e) (λb o _ _ a e _=>⟨o.slots,k b o a e⟩) (λ_ _ _ _ n=>n)
  (λb o a e=>⟨o,k b o a e⟩) (λ_ _ e=>e) (λ_ _ _ e=>e) (λb A e=>⟨#[],by rw[e];simp⟩) (λm j=>?_) (λb u e=>?_) I.bare
 ·obtain⟨C,t,B,i,p,y⟩:=f b h;exact⟨i,t,p,y⟩
 ·obtain⟨o,w,x,l,r⟩:=j;exact⟨o,w,x,k _ o (λz=>(f _ z).2.1 rfl) l,r⟩
 ·refine(I.hok b u e).g7 (λc v a q=>k c v ?_ q) (λ_ q=>q) λ_ _ q=>q;rcases a with z|z
  ·rw[z];exact d b u e
  ·exact d c _ z
theorem qS{P:Program}{w:World}{K:Waa}{es:List Expr}{x1}{pos:Pos}(a b:ZS)(va vb:Value)(ra:RelV a.val va)(rb:RelV b.val vb)(z TI TO i1 i2:Addr)(R:ZRec z TI TO i1 i2):
  Turn P w K (.Tuple es x1 pos) (EY K a b) [z,TI,TO,i1,i2] z
   (λi h=>IsZip h z TI TO .none/\IsPair h TI (.ref i1) (.ref i2)/\(∃p q,IsPair h TO p q)/\a.st va i1 i h/\b.st vb i2 i h) where
 mem:=by simp
 obj:=λi h ⟨C,F,⟨p,q,L⟩,J,G⟩ c d=>by
  simp only[aab,aav,or_false]at d;rcases d with rfl|rfl|rfl|rfl|rfl
  ·exact⟨_,C,λv z=>by cases z⟩
  ·exact⟨_,F,λv z=>by cases z⟩
  ·exact⟨_,L,λv z=>by cases z⟩
  ·exact ZS.h7 J
  ·exact ZS.h7 G
 keep:=λi h h' ⟨C,F,⟨p,q,L⟩,J,G⟩ k=>
  ⟨k z (by simp) _ C,k TI (by simp) _ F,⟨p,q,k TO (by simp) _ L⟩,ZS.gi J (λo e=>k i1 (by simp) o e),ZS.gi G (λo e=>k i2 (by simp) o e)⟩
 item:=by
  intro X hP hw hK d i t s σ H E I g ⟨C,F,⟨p,q,L⟩,J,G⟩ hg;subst hP hw hK;obtain⟨O,Q,la,lb⟩:=hg;have U:X.A.in1.handled=none:=I.ok.hd d;obtain⟨W,M,S1,j⟩:=a.sub I O ra X.A.in1 U i1;obtain⟨a4,N,S2,l⟩:=b.sub I Q rb X.A.in1 U i2;obtain⟨x,hx⟩:∃x,a.items[i]?=some x:=⟨_,aaB la⟩
  obtain⟨y,hy⟩:∃y,b.items[i]?=some y:=⟨_,aaB lb⟩
  have D:ZApart z TI TO i1 i2 a.sl b.sl:=⟨R.TIz,R.TOz,R.i1z,R.i2z,R.TITO,R.TIi1,R.TIi2,R.TOi1,R.TOi2,R.i12,
   λc d=>⟨aG I (g z (by simp)) j c d,aG I (g TO (by simp)) j c d,aG I (g i1 (by simp)) j c d,aG I (g i2 (by simp)) j c d⟩,
   λc d=>⟨aG I (g z (by simp)) l c d,aG I (g TO (by simp)) l c d,aG I (g i1 (by simp)) l c d,aG I (g i2 (by simp)) l c d⟩⟩
  have fl:∀c∈([z,TI,TO,i1,i2]:List Addr),c<s.heap.objs.size:=λc d=>by
   simp only[aab,aav,or_false]at d;rcases d with rfl|rfl|rfl|rfl|rfl
   ·exact acn C
   ·exact acn F
   ·exact acn L
   ·obtain⟨o,e,_⟩:=ZS.h7 J;exact acn e
   ·obtain⟨o,e,_⟩:=ZS.h7 G;exact acn e
  refine k6 D S1 S2 C F L J G M N hx hy (λu v h' tk ru rv a5 a2 T a1 hT a8 hk=>?_) (fl i1 (by simp)) (fl i2 (by simp));refine⟨.ref s.heap.objs.size,rfl,?_⟩;refine wpAny_letOwnedTupleGo_zip a5 λB a0 f=>?_;have f:Heap.SameBut z h' B:=f;have Z:∀c o,c ∉ ([z,TI,TO,i1,i2]:List Addr)->s.heap.get? c=some o->B.get? c=some o:=λc o d e=>by simp only[aab,aav,or_false,not_or]at d;exact f.extBut _ _ d.1 (hk c o d.1 d.2.2.1 d.2.2.2.1 d.2.2.2.2 e)
  have S:H s.heap.objs.size=none:=I.hok.fresh (aag _);have I1:Inv X t σ H { s with heap:=B,toks:=tk }:=I.fy Z g;have a6:s.heap.objs.size≠z:=aaZ (fl z (by simp));have Y:IsPair B s.heap.objs.size u v:=f.extBut _ _ a6 hT;have I2:Inv X t σ (upd H s.heap.objs.size (.tup [x,y])) { s with heap:=B,toks:=tk }:=by
   refine I.step (g':=s.gens) (d':=s.drawn) (ch:=[z,TI,TO,i1,i2]) (λb hb=>?_) (λb o _ _ d e _=>Z b o d e) (λb o _ _ d e _=>⟨o.slots,Z b o d e⟩) (λb o d e n=>?_)
    (λb o d e=>⟨o,Z b o d e⟩) (λb ys e=>?_) (λb o u e=>?_) (λb ps e=>⟨#[],?_⟩) (λm hm=>?_) (λb o e=>?_) I.bare
   ·obtain⟨f0,f1,f2,f3,f4,f5⟩:=g b hb;exact⟨f3,f1,f4,f5⟩
   ·rw[upd_ne (aam (acn e))];exact n
   ·rw[upd_ne (ai e S)];exact e
   ·rw[upd_ne (ai e S)];exact e
   ·rw[upd_ne (ai e S),e];simp
   ·obtain⟨o,a7,ep,ho,r⟩:=hm;exact⟨o,a7,ep,Z _ o (λz=>(g _ z).2.1 rfl) ho,r⟩
   ·by_cases hb:b=s.heap.objs.size
    ·subst hb;rw[aq]at e;cases e;exact⟨(by show 2<=sizeLine;decide),[u,v],.cons ru (.cons rv .nil),⟨_,Y,rfl,_,rfl,rfl⟩⟩
    ·rw[upd_ne hb]at e;refine(I1.hok b o e).g7 (λc v d q=>q) (λc q=>by rw[upd_ne (ai q S)];exact q) λc ys q=>by rw[upd_ne (ai q S)];exact q
  refine⟨.ref s.heap.objs.size,_,I2,rfl,⟨_,x,y,hx,hy,S,rfl,rfl⟩,⟨a0,?_,⟨u,v,f.extBut _ _ R.TOz a2⟩,ZS.gi T (λo e=>f.extBut _ _ R.i1z e),ZS.gi a1 (λo e=>f.extBut _ _ R.i2z e)⟩,λc d=>?_⟩
  ·exact f.extBut _ _ R.TIz (hk _ _ R.TIz R.TITO R.TIi1 R.TIi2 F)
  ·rw[upd_ne (aam (fl c d))];exact(g c d).1
 done:=by
  intro X hP hw hK d i t s σ H E I g ⟨C,F,⟨p,q,L⟩,J,G⟩ hg;subst hP hw hK;obtain⟨O,Q,a3⟩:=hg;have U:X.A.in1.handled=none:=I.ok.hd d;obtain⟨W,M,S1,j⟩:=a.sub I O ra X.A.in1 U i1;obtain⟨a4,N,S2,l⟩:=b.sub I Q rb X.A.in1 U i2;have D:ZApart z TI TO i1 i2 a.sl b.sl:=⟨R.TIz,R.TOz,R.i1z,R.i2z,R.TITO,R.TIi1,R.TIi2,R.TOi1,R.TOi2,R.i12,
   λc d=>⟨aG I (g z (by simp)) j c d,aG I (g TO (by simp)) j c d,aG I (g i1 (by simp)) j c d,aG I (g i2 (by simp)) j c d⟩,
   λc d=>⟨aG I (g z (by simp)) l c d,aG I (g TO (by simp)) l c d,aG I (g i1 (by simp)) l c d,aG I (g i2 (by simp)) l c d⟩⟩
  refine pb D S1 S2 C F L J G M N a3 λh' tk hk=>⟨rfl,I.fy (λc o d e=>?_) g⟩
  simp only[aab,aav,or_false,not_or]at d;exact hk c o d.1 d.2.2.1 d.2.2.2.1 d.2.2.2.2 e
 self:=λ_ _ _ _ _ ⟨C,_⟩ h=>wpAny_pyIter_zip C h
theorem f7(i n:Value)(o1 o2:Obj)(b a:Heap->Prop)(k:∀h o,a h->a (h.push o))
  (t:∀(prog:Program) (w:World) (A:Around) (E:Value->Shared->Prop) (s:Shared) (Q:Value->Shared->Prop),b s.heap->Q (.ref s.heap.objs.size) { s with heap:=s.heap.push o1 }->wpAny (model prog w) A (pyIter i) Q E s)
  (q:∀(prog:Program) (w:World) (A:Around) (E:Value->Shared->Prop) (s:Shared) (Q:Value->Shared->Prop),a s.heap->Q (.ref s.heap.objs.size) { s with heap:=s.heap.push o2 }->wpAny (model prog w) A (pyIter n) Q E s):
  Meets (Builtin.«zip.__new__» ⟨[.type "zip",i,n],[]⟩) (λ_ R s=>b s.heap/\a s.heap /\
   R (.ok (.ret (.ref ((((s.heap.push o1).push o2).push { cls:=.type "tuple",data:=.seq #[.ref s.heap.objs.size,.ref (s.heap.push o1).objs.size] }).push { cls:=.type "tuple",data:=.seq #[.none,.none] }).objs.size)))
    { s with heap:=((((s.heap.push o1).push o2).push { cls:=.type "tuple",data:=.seq #[.ref s.heap.objs.size,.ref (s.heap.push o1).objs.size] }).push { cls:=.type "tuple",data:=.seq #[.none,.none] }).push { cls:=.type "zip",data:=.fields #[.none,.bool false,.bool false,.ref ((s.heap.push o1).push o2).objs.size,.ref (((s.heap.push o1).push o2).push { cls:=.type "tuple",data:=.seq #[.ref s.heap.objs.size,.ref (s.heap.push o1).objs.size] }).objs.size] } }):=
 .of_wp λprog w A R s h=>by
  obtain⟨c,g,d,e,f⟩:=s;obtain⟨j,m,h⟩:=h;have p:=sub_zip;have r:∀{A:Around}{E:Value->Shared->Prop}{Q:Value->Shared->Prop},Q (.ref c.objs.size) ⟨c.push o1,g,d,e,f⟩->wpAny (model prog w) A (pyIter i) Q E ⟨c,g,d,e,f⟩:=λl=>t _ _ _ _ ⟨c,g,d,e,f⟩ _ j l;have u:∀{A:Around}{E:Value->Shared->Prop}{Q:Value->Shared->Prop},Q (.ref (c.push o1).objs.size) ⟨(c.push o1).push o2,g,d,e,f⟩->wpAny (model prog w) A (pyIter n) Q E ⟨c.push o1,g,d,e,f⟩:=λl=>q _ _ _ _ ⟨c.push o1,g,d,e,f⟩ _ (k _ _ m) l
  wp_walk using r,u
  exact⟨_,rfl,h⟩
end
section
theorem boot_zip:bootBuiltins "zip"=some (.type "zip"):=by decide +kernel
theorem ZS.iter(a:ZS)(I:Inv X pins σ H s)(f:a.ok X.K H)(e:RelV a.val v):
  ∃b:Heap->Prop,b s.heap/\(∀h o,b h->b (h.push o)) /\
   ∀(prog:Program) (w:World) (A:Around) (E:Value->Shared->Prop) (s:Shared) (Q:Value->Shared->Prop),b s.heap->Q (.ref s.heap.objs.size) { s with heap:=s.heap.push (a.ry v) }->wpAny (model prog w) A (pyIter v) Q E s:=by
 cases a with
 |lst l d=>obtain⟨c,r,p,g⟩:=I.list (show SqL X.K H l d from f);cases e;exact⟨λh=>h.IsList l c.toArray,p.isList,λh o x=>x.push o,λprog w A E s Q h q=>acz h q⟩
 |tup l d=>obtain⟨c,r,p,g⟩:=I.tuple (show SqT X.K H l d from f);cases e;exact⟨λh=>h.IsTuple l c.toArray,p,λh o x=>x.push o,λprog w A E s Q h q=>wpAny_pyIter_tuple h q⟩
 |str z=>obtain⟨t,rfl⟩:=e;exact⟨λ_=>True,trivial,λ_ _ _=>trivial,λprog w A E s Q _ q=>wpAny_pyIter_strU q⟩
theorem ZS.st0(a:ZS)(b:RelV a.val v)(e:h.get? i=some (a.ry v)):a.st v i 0 h:=by
 cases a with
 |lst l c=>cases b;exact⟨_,e,rfl,rfl⟩
 |tup l c=>cases b;exact⟨_,e,rfl,rfl⟩
 |str z=>obtain⟨t,rfl⟩:=b;exact⟨_,e,rfl,rfl⟩
theorem jO(a:ZS)(v:Value):(a.ry v).isFreed=false:=by cases a<;>rfl
def FL(K:Waa)(d:TA):TI:=λf H R=>d f H λe c=>∃a b:ZS,e=[a.val,b.val]/\a.ok K c/\b.ok K c/\R (EY K a b) c
theorem addNe(h:i≠j):(n+i:Addr)≠n+j:=λe=>h (ab2 e)
theorem addNe0(h:i≠0):(n+i:Addr)≠n:=λe=>h (ab2 e)
theorem qT{es:List Expr}{x1}{k:Pos}{a b:Expr}{p pos:Pos} (W:Gl X "zip") (hm:X.mg "zip"=none) (ha:PA X [a,b] ta) (hs:starEach [a,b] X.env=[(false,eval a X.env),(false,eval b X.env)]:=by rfl) (m:starEach [b] X.env=[(false,eval b X.env)]:=by rfl):
  PI X (.Tuple es x1 k) (.Call (.Name "zip" p) [a,b] [] pos) (FL X.K ta):=by
 intro f s T H R I h;refine Call_ (eF I W hm boot_zip (abA (thn (ha pos f s T H _ I h) λus d hZ=>?_) (by rw[hs,m]) (by rw[m];rfl)));obtain⟨vs,P,u,r1,q1⟩:=hZ;obtain⟨i,g,e,A,z,q⟩:=q1;subst e;obtain⟨r,l,rfl,D,y⟩:=r1.two;obtain⟨j,h1,_,p1⟩:=i.iter u A D;obtain⟨t,Y,x,Z⟩:=g.iter u z y;refine callType_new F.called_zip (by decide) (F.typeCall_zip_2 _ _) (F.newCall_zip_2 _ _) (λC=>F.args_object_init_3 C _ _) F.entry_zip_new
  (f7 r l (i.ry r) (g.ry l) j t x p1 Z) ⟨h1,Y,?_⟩
 generalize hA:d.heap.push (i.ry r)=A1;generalize hB:A1.push (g.ry l)=A2;generalize hC:A2.push { cls:=.type "tuple",data:=.seq #[.ref d.heap.objs.size,.ref A1.objs.size] }=A3;generalize hD:A3.push { cls:=.type "tuple",data:=.seq #[.none,.none] }=A4;generalize hE:A4.push { cls:=.type "zip",data:=.fields #[.none,.bool false,.bool false,.ref A2.objs.size,.ref A3.objs.size] }=A5;have w:A1.objs.size=d.heap.objs.size+1:=by rw[<-hA];exact acx ..
 have B:A2.objs.size=d.heap.objs.size+2:=by rw[<-hB,acx,w]
 have v:A3.objs.size=d.heap.objs.size+3:=by rw[<-hC,acx,B]
 have S:A4.objs.size=d.heap.objs.size+4:=by rw[<-hD,acx,v]
 have Q:A5.get? A4.objs.size=some { cls:=.type "zip",data:=.fields #[.none,.bool false,.bool false,.ref A2.objs.size,.ref A3.objs.size] }:=by rw[<-hE];exact acp _ rfl
 have O:∀c o,A4.get? c=some o->A5.get? c=some o:=λc o e=>by rw[<-hE];exact aco _ e
 have M:∀c o,A3.get? c=some o->A5.get? c=some o:=λc o e=>O c o (by rw[<-hD];exact aco _ e);have L:∀c o,A2.get? c=some o->A5.get? c=some o:=λc o e=>M c o (by rw[<-hC];exact aco _ e);have J:∀c o,A1.get? c=some o->A5.get? c=some o:=λc o e=>L c o (by rw[<-hB];exact aco _ e);have U:∀c o,d.heap.get? c=some o->A5.get? c=some o:=λc o e=>J c o (by rw[<-hA];exact aco _ e);have g4:A5.get? A3.objs.size=some { cls:=.type "tuple",data:=.seq #[.none,.none] }:=O _ _ (by rw[<-hD];exact acp _ rfl);have g3:A5.get? A2.objs.size=some { cls:=.type "tuple",data:=.seq #[.ref d.heap.objs.size,.ref A1.objs.size] }:=M _ _ (by rw[<-hC];exact acp _ rfl);have g2:A5.get? A1.objs.size=some (g.ry l):=L _ _ (by rw[<-hB];exact acp _ (jO _ _));have g1:A5.get? d.heap.objs.size=some (i.ry r):=J _ _ (by rw[<-hA];exact acp _ (jO _ _));refine⟨⟨_,Q,rfl⟩,?_⟩;have N:IsZip A5 A4.objs.size A2.objs.size A3.objs.size .none:=Q;refine wpAny_pyIter_zip N ?_;have R:ZRec A4.objs.size A2.objs.size A3.objs.size d.heap.objs.size A1.objs.size:=by rw[w,B,v,S];refine⟨?_,?_,?_,?_,?_,?_,?_,?_,?_,?_⟩<;>first|exact addNe (by decide)|exact addNe0 (by decide)|exact(addNe0 (by decide)).symm
 have I5:Inv X f T P { d with heap:=A5 }:=u.kept U;refine⟨A4.objs.size,[A4.objs.size,A2.objs.size,A3.objs.size,d.heap.objs.size,A1.objs.size],_,_,P,rfl,I5,qS i g r l D y _ _ _ _ _ R,
  ⟨N,g3,⟨_,_,g4⟩,i.st0 D g1,g.st0 y g2⟩,λb G=>?_,q⟩
 have n:d.heap.objs.size<=b:=by simp only[aab,aav,or_false]at G;rcases G with rfl|rfl|rfl|rfl|rfl<;>first|exact aag _|(rw[S];exact abm _ _)|(rw[v];exact abm _ _)|(rw[B];exact abm _ _)|(rw[w];exact abm _ _)
 exact u.mn n (u.hok.fresh n)
theorem ve:∀{us:List Value},Vals (a.map V.bl) us->LSm.BoolsAre us a:=by
 induction a with
 |nil=>intro us r;rw[aaL]at r;cases r;exact .nil
 |cons b a e=>
  intro us r;rw[aaj]at r;cases r with
  |cons d c=>cases d;exact .cons b (e c)
theorem qU(l:X.calm=true):CallR X (.builtin "all") (λxs H Q=>∃(p:Addr) (a:List Bool),xs=[.ref p]/\SqL X.K H p (a.map V.bl)/\Q (.bl (a.all id)) H):=by
 intro k s L H xs y Q I r h;obtain⟨p,a,rfl,w,q⟩:=h;obtain⟨u,rfl,n⟩:=vals1 r;cases n;obtain⟨c,o,d,D⟩:=I.list w;obtain⟨m,F⟩:=I.fr;have f:p<s.heap.objs.size:=by obtain⟨_,_,e,_⟩:=d;exact acn e
 have g:=ve o;refine call_all_walk (acz d.isList ?_);refine⟨s.heap.objs.size,[s.heap.objs.size,p],[s.heap.objs.size],c.toArray.size,_,_,λi=>(a[i]?).getD true,rfl,Walks.list (A:=X.A.in1) (I.ok.hd l) _ p (aam f) c.toArray,
  ⟨⟨_,acp _ rfl,rfl,rfl⟩,d.isList.push _⟩,λi v G z J x j=>?_,λB C t=>?_⟩
 ·obtain⟨b,e,rfl⟩:=g.get i v (by simpa using x);simp only[e,Option.getD_some]at j;exact acv j
 ·have e:((List.range c.toArray.size).all λi=>(a[i]?).getD true)=a.all id:=by rw[aap,g.length];exact LSm.range_all a
  rw[e];exact⟨.bl (a.all id),H,I.kept (LSm.kept_iter t),rfl,q⟩
end
section
mutual
inductive Dt (K:Waa)(H:Hp):V->PyData->Prop
 |non:Dt K H .non .none
 |bl (b:Bool):Dt K H (.bl b) (.bool b)
 |int (i:Int):Dt K H (.int i) (.int i)
 |str (x:Str):Dt K H (.str x) (.str x)
 |lst {a xs ds}:SqL K H a xs->DtAll K H xs ds->Dt K H (.ref a) (.list ds)
 |tup {a xs ds}:SqT K H a xs->DtAll K H xs ds->Dt K H (.ref a) (.tuple ds)
inductive DtAll (K:Waa)(H:Hp):List V->List PyData->Prop
 |nil:DtAll K H [] []
 |cons {x d xs ds}:Dt K H x d->DtAll K H xs ds->DtAll K H (x::xs) (d::ds)
end
theorem DtAll.length{K:Waa}(h:DtAll K H xs ds):xs.length=ds.length:=by
 induction xs generalizing ds with
 |nil=>cases h;rfl
 |cons v b a=>cases h with|cons _ t=>rw[aan,aan,a t]
theorem DtAll.get{K:Waa}{i:Nat}(h:DtAll K H xs ds)(e:ds[i]?=some d):∃x,xs[i]?=some x/\Dt K H x d:=by
 induction xs generalizing ds i with
 |nil=>cases h;cases i<;>cases e
 |cons v b a=>
  cases h with
  |cons r t=>
   cases i with
   |zero=>cases e;exact⟨_,rfl,r⟩
   |succ i=>exact a t e
theorem DtAll.append{K:Waa}(h:DtAll K H xs ds)(h':DtAll K H ys es):DtAll K H (xs++ys) (ds++es):=by
 induction xs generalizing ds with
 |nil=>cases h;exact h'
 |cons v b a=>cases h with|cons r t=>exact .cons r (a t)
theorem DtAll.ints{K:Waa}:∀(ns:List Int),DtAll K H (ns.map V.int) (ns.map PyData.int)
 |[]=>.nil
 |n::ns=>.cons (.int n) (DtAll.ints ns)
theorem Same.tupS{K:Waa}{H b:Hp}(e:Same H b)(h:SqT K H a xs):SqT K b a xs:=by
 rcases h with (h|⟨o,h⟩)|h
 ·exact .inl (.inl (e _ _ h))
 ·exact .inl (.inr ⟨o,e _ _ h⟩)
 ·exact .inr h
theorem Dt.ind{K:Waa}{P:V->PyData->Prop}{Q:List V->List PyData->Prop}(e:P .non .none)(l:∀b,P (.bl b) (.bool b))(k:∀i,P (.int i) (.int i))(f:∀x,P (.str x) (.str x))
  (c:∀{a xs ds},SqL K H a xs->Q xs ds->P (.ref a) (.list ds)) (g:∀{a xs ds},SqT K H a xs->Q xs ds->P (.ref a) (.tuple ds)) (nil:Q [] []) (cons:∀{x d xs ds},P x d->Q xs ds->Q (x::xs) (d::ds)):
  (∀{v d},Dt K H v d->P v d)/\∀{vs ds},DtAll K H vs ds->Q vs ds:=
 ⟨λh=>Dt.rec e l k f (λh _ i=>c h i) (λh _ i=>g h i) nil (λ_ _ i j=>cons i j) h,
  λh=>DtAll.rec e l k f (λh _ i=>c h i) (λh _ i=>g h i) nil (λ_ _ i j=>cons i j) h⟩
theorem Dt.ua{K:Waa}{H a:Hp}(s:Same H a):(∀{x:V}{d:PyData},Dt K H x d->Dt K a x d)/\∀{xs:List V}{ds:List PyData},DtAll K H xs ds->DtAll K a xs ds:=
 Dt.ind .non .bl .int .str (λh t=>.lst (s.seq h) t) (λh t=>.tup (s.tupS h) t) .nil (λr t=>.cons r t)
theorem Dt.mono{K:Waa}(s:Same H H')(h:Dt K H x d):Dt K H' x d:=(Dt.ua s).1 h
theorem DtAll.mono{K:Waa}(s:Same H H')(h:DtAll K H xs ds):DtAll K H' xs ds:=(Dt.ua s).2 h
theorem Dt.pk(I:Inv X pins σ H s):(∀{x:V}{d:PyData},Dt X.K H x d->∀{u:Value},RelV x u->∃as,Reads s.heap u d as)/\∀{xs:List V}{ds:List PyData},DtAll X.K H xs ds->∀{us:List Value},Vals xs us->∃as,ReadsAll s.heap us ds as:=by
 refine Dt.ind (P:=λx d=>∀{u:Value},RelV x u->∃as,Reads s.heap u d as) ?_ ?_ ?_ ?_ ?_ ?_ ?_ ?_
 ·intro u r;cases r;exact⟨_,.none⟩
 ·intro b u r;cases r;exact⟨_,.bool b⟩
 ·intro i u r;obtain⟨t,rfl⟩:=r;exact⟨_,.int i t⟩
 ·intro x u r;obtain⟨t,rfl⟩:=r;exact⟨_,.str x t⟩
 ·intro a xs ds h i u r;cases r;obtain⟨f,k,⟨o,n,e,c,_,g⟩,_⟩:=I.list h;obtain⟨as,q⟩:=i k;exact⟨_,.list e c g (by simpa using q)⟩
 ·intro a xs ds h i u r;cases r;obtain⟨f,k,⟨o,e,c,n,g⟩,_⟩:=I.tuple h;obtain⟨as,q⟩:=i k;exact⟨_,.tuple e c g (by simpa using q)⟩
 ·intro us r;cases r;exact⟨_,.nil⟩
 ·intro x d xs ds i j us r;cases r with
  |cons l m=>obtain⟨as,q⟩:=i l;obtain⟨v,p⟩:=j m;exact⟨_,.cons q p⟩
theorem Dt.reads(I:Inv X pins σ H s)(h:Dt X.K H x d)(r:RelV x u):∃as,Reads s.heap u d as:=(Dt.pk I).1 h r
theorem DtAll.reads(I:Inv X pins σ H s)(h:DtAll X.K H xs ds)(r:Vals xs us):∃as,ReadsAll s.heap us ds as:=(Dt.pk I).2 h r
mutual
theorem eqv_refl:∀(d:PyData),d.canLay0=true->PyData.eqv d d=true
 |.none,_=>by simp[PyData.eqv]
 |.bool b,_=>by simp[PyData.eqv]
 |.int i,_=>by simp[PyData.eqv]
 |.str x,_=>by simp[PyData.eqv]
 |.list xs,h=>by simp only[PyData.eqv];exact eqvAll_refl xs (by simpa[PyData.canLay0] using h)
 |.tuple xs,h=>by simp only[PyData.eqv];exact eqvAll_refl xs (by simpa[PyData.canLay0] using h)
 |.dict _,h=>by simp[PyData.canLay0]at h
theorem eqvAll_refl:∀(ds:List PyData),PyData.canLayAll0 ds=true->PyData.eqvAll ds ds=true
 |[],_=>by simp[PyData.eqvAll]
 |d::ds,h=>by simp only[PyData.canLayAll0,aat]at h;simp only[PyData.eqvAll,aat];exact⟨eqv_refl d h.1,eqvAll_refl ds h.2⟩
end
def B8(K:Waa):R2:=λx y H Q=>∃a b,Dt K H x a/\Dt K H y b/\SeqAt.shaped a=true/\SeqAt.shaped b=true/\Q (.bl (PyData.eqv a b)) H
def B9(K:Waa):R2:=λx y H Q=>∃a b,Dt K H x a/\Dt K H y b/\SeqAt.shaped a=true/\SeqAt.shaped b=true/\Q (.bl (!PyData.eqv a b)) H
theorem zj(f:X.A.units+64<cLine):OpR X (compareOp .Eq) (B8 X.K):=by intro a s o H x y v u Q I d i h;obtain⟨n,p,k,e,c,b,q⟩:=h;obtain⟨m,g⟩:=k.reads I d;obtain⟨l,j⟩:=e.reads I i;exact eq_dataH g j c b f ⟨.bl _,H,I,rfl,q⟩
theorem zk(f:X.A.units+64<cLine):OpR X (compareOp .NotEq) (B9 X.K):=by intro a s o H x y v u Q I d i h;obtain⟨n,p,k,e,c,b,q⟩:=h;obtain⟨m,g⟩:=k.reads I d;obtain⟨l,j⟩:=e.reads I i;exact ne_dataH g j c b f ⟨.bl _,H,I,rfl,q⟩
theorem kit_same(K:Waa)(T:String):PySem.W.kitOne K (.type T) (.type T)=some true:=by unfold PySem.W.kitOne;rw[if_pos (by simp)]
theorem kit_lt(K:Waa):PySem.W.kitOne K (.type "list") (.type "tuple")=some false:=by kernel_rfl
theorem kit_tl(K:Waa):PySem.W.kitOne K (.type "tuple") (.type "list")=some false:=by kernel_rfl
theorem kit_bi(K:Waa):PySem.W.kitOne K (.type "bool") (.type "int")=some true:=by kernel_rfl
theorem kit_ib(K:Waa):PySem.W.kitOne K (.type "int") (.type "bool")=some false:=by kernel_rfl
theorem kit_il(K:Waa):PySem.W.kitOne K (.type "int") (.type "list")=some false:=by kernel_rfl
theorem kit_it(K:Waa):PySem.W.kitOne K (.type "int") (.type "tuple")=some false:=by kernel_rfl
theorem kit_is(K:Waa):PySem.W.kitOne K (.type "int") (.type "str")=some false:=by kernel_rfl
theorem kit_sl(K:Waa):PySem.W.kitOne K (.type "str") (.type "list")=some false:=by kernel_rfl
theorem kit_st(K:Waa):PySem.W.kitOne K (.type "str") (.type "tuple")=some false:=by kernel_rfl
theorem kit_si(K:Waa):PySem.W.kitOne K (.type "str") (.type "int")=some false:=by kernel_rfl
theorem kit_sb(K:Waa):PySem.W.kitOne K (.type "str") (.type "bool")=some false:=by kernel_rfl
theorem kit_bl(K:Waa):PySem.W.kitOne K (.type "bool") (.type "list")=some false:=by kernel_rfl
theorem kit_bt(K:Waa):PySem.W.kitOne K (.type "bool") (.type "tuple")=some false:=by kernel_rfl
theorem kit_bs(K:Waa):PySem.W.kitOne K (.type "bool") (.type "str")=some false:=by kernel_rfl
theorem kit_nl(K:Waa):PySem.W.kitOne K (.type "NoneType") (.type "list")=some false:=by kernel_rfl
theorem kit_nt(K:Waa):PySem.W.kitOne K (.type "NoneType") (.type "tuple")=some false:=by kernel_rfl
theorem kit_ns(K:Waa):PySem.W.kitOne K (.type "NoneType") (.type "str")=some false:=by kernel_rfl
theorem kit_ni(K:Waa):PySem.W.kitOne K (.type "NoneType") (.type "int")=some false:=by kernel_rfl
theorem kit_nb(K:Waa):PySem.W.kitOne K (.type "NoneType") (.type "bool")=some false:=by kernel_rfl
theorem kit_li(K:Waa):PySem.W.kitOne K (.type "list") (.type "int")=some false:=by kernel_rfl
theorem kit_ti(K:Waa):PySem.W.kitOne K (.type "tuple") (.type "int")=some false:=by kernel_rfl
theorem kit_ls(K:Waa):PySem.W.kitOne K (.type "list") (.type "str")=some false:=by kernel_rfl
theorem kit_ts(K:Waa):PySem.W.kitOne K (.type "tuple") (.type "str")=some false:=by kernel_rfl
theorem kit_lb(K:Waa):PySem.W.kitOne K (.type "list") (.type "bool")=some false:=by kernel_rfl
theorem kit_tb(K:Waa):PySem.W.kitOne K (.type "tuple") (.type "bool")=some false:=by kernel_rfl
inductive Ty (K:Waa)(H:Hp):V->String->Prop
 |non:Ty K H .non "NoneType"
 |bl (b:Bool):Ty K H (.bl b) "bool"
 |int (i:Int):Ty K H (.int i) "int"
 |str (x:Str):Ty K H (.str x) "str"
 |lst {a xs}:SqL K H a xs->Ty K H (.ref a) "list"
 |tup {a xs}:SqT K H a xs->Ty K H (.ref a) "tuple"
theorem Ty.kitx(I:Inv X pins σ H s)(f:Ty X.K H x n)(a:RelV x u):
  ∃Z:Heap->Prop,PySem.W.KitX X.K u (.type n) Z/\Z s.heap/\u≠.builtin "__main__.__loader__#opaque":=by
 cases f with
 |non=>cases a;exact⟨_,PySem.W.kitx_none,trivial,λz=>nomatch z⟩
 |bl b=>cases a;exact⟨_,PySem.W.kitx_bool,trivial,λz=>nomatch z⟩
 |int i=>obtain⟨t,rfl⟩:=a;exact⟨_,PySem.W.kitx_int,trivial,λz=>nomatch z⟩
 |str x=>obtain⟨t,rfl⟩:=a;exact⟨_,PySem.W.kitx_str,trivial,λz=>nomatch z⟩
 |lst h=>cases a;obtain⟨c,_,⟨o,n,e,d,_⟩,_⟩:=I.list h;exact⟨_,PySem.W.kitx_list,⟨o,e,d⟩,λz=>nomatch z⟩
 |tup h=>cases a;obtain⟨c,_,⟨o,e,d,_⟩,_⟩:=I.tuple h;exact⟨_,PySem.W.kitx_tuple,⟨o,e,d⟩,λz=>nomatch z⟩
theorem qV(T:String):CallR X (.builtin "isinstance") (λxs H Q=>∃x n b,xs=[x,.ty T]/\Ty X.K H x n/\PySem.W.kitOne X.K (.type n) (.type T)=some b/\Q (.bl b) H):=by
 intro a s l H xs j Q I r h;obtain⟨x,n,b,rfl,g,e,q⟩:=h;obtain⟨u,v,rfl,d,i⟩:=r.two;cases i;obtain⟨Z,c,z,f⟩:=g.kitx I d;exact PySem.W.kia_one c I.pe z e f λk=>⟨.bl b,H,I.tok _,rfl,q⟩
theorem pd(S T:String):CallR X (.builtin "isinstance") (λxs H Q=>∃x n b p,xs=[x,.ref p]/\H p=some (.tup [.ty S,.ty T])/\Ty X.K H x n/\PySem.W.kitAny X.K (.type n) [.type S,.type T]=some b/\Q (.bl b) H):=by
 intro f s N H xs D Q I r h;obtain⟨x,n,b,p,rfl,C,l,e,q⟩:=h;obtain⟨u,v,rfl,j,y⟩:=r.two;cases y;obtain⟨Z,i,z,k⟩:=l.kitx I j;obtain⟨_,m,B,⟨⟨c,J,o,M⟩,g,a,t,d⟩⟩:=I.hok p _ C;obtain⟨F,G,rfl,w,A⟩:=B.two;cases w;cases A;replace a:c=.type "tuple":=a;replace d:o=.seq [Value.type S,Value.type T].toArray t:=d.1;subst a d;exact PySem.W.kia_tup i I.pe z g e k λL=>⟨.bl b,H,I.tok _,rfl,q⟩
theorem f9(K:Waa)(b:PySem.W.kitOne K (.type n) (.type S)=some true\/(PySem.W.kitOne K (.type n) (.type S)=some false/\PySem.W.kitOne K (.type n) (.type T)=some true)):
  PySem.W.kitAny K (.type n) [.type S,.type T]=some true:=by
 rcases b with h|⟨h,a⟩
 ·simp[PySem.W.kitAny,h]
 ·simp[PySem.W.kitAny,h,a]
theorem cR(K:Waa)(h:PySem.W.kitOne K (.type n) (.type S)=some false)(h':PySem.W.kitOne K (.type n) (.type T)=some false):
  PySem.W.kitAny K (.type n) [.type S,.type T]=some false:=by
 simp[PySem.W.kitAny,h,h']
end
section
def Ca(i j k:Nat)(b:TA):TS:=λD a H=>b a H λc d=>∃v w u,c=[v,w,u]/\D.nx (((a.set i (some v)).set j (some w)).set k (some u)) d
theorem vf{P M f}(hc:X.calm=true)(t:X.N.Nodup)(hi:X.N[i]?=some x)(hj:X.N[j]?=some y)(hk:X.N[k]?=some z)(J:i≠j)(C:i≠k)(Q:j≠k)
  (Y:X.env.scope.names.lookup x=some .local) (U:X.env.scope.names.lookup y=some .local) (W:X.env.scope.names.lookup z=some .local) (ha:PA X [a,b,c] ta)
  (hw:swappedStores [.Tuple [.Name x px,.Name y py,.Name z pz] P pt] (.Tuple [a,b,c] M f) X.env=pure (some [x,y,z]))
  (hs:swapsWithSole [.Tuple [.Name x px,.Name y py,.Name z pz] P pt] (.Tuple [a,b,c] M f) pos.line X.env=pure false:=by rfl):
  PS X (.Assign [.Tuple [.Name x px,.Name y py,.Name z pz] P pt] (.Tuple [a,b,c] M f) pos) (Ca i j k ta):=by
 intro d s r H D I h;rw[exec_Assign_arm];refine acl (acu ?_);rw[hs];refine acl (acm ?_);rw[if_neg (by decide)];refine acl (Tuple_ (thn (ha _ d s r H _ I h) λZ n ⟨vs,T,I1,r1,L⟩=>?_));obtain⟨v,w,u,e1,L⟩:=L;subst e1;obtain⟨g,l,m,rfl,rv,F,ru⟩:∃g l m,Z=[g,l,m]/\RelV v g/\RelV w l/\RelV u m:=by
  cases r1 with
  |cons p q=>
   cases q with
   |cons p' q'=>
    cases q' with
    |cons G O=>cases O;exact⟨_,_,_,rfl,p,p',G⟩
 refine acw ?_ (by show 3<=sizeLine;decide);have I2:Inv X d r T { n with heap:=n.heap.push { cls:=.type "tuple",data:=.seq [g,l,m].toArray } }:=I1.kept λb o e=>aco _ e;rw[hw];refine acl (acm ?_);show wpAny (model X.prog X.w) X.A (do rule "assign.swapped-stores";let items <-unpackItems (.ref n.heap.objs.size) 3 none;assignInOrder [λv=>bindName X.env z v,λv=>bindName X.env y v,λv=>bindName X.env x v] items.reverse;pure Flow.next) _ _ _;refine acl (acB (acl (unpackItems_tuple (items:=#[g,l,m]) (I.ok.hd hc) (IsTup.new n.heap _) λh' B=>?_)));have I3:=I2.kept (t':=n.toks) λb o e=>B b o (aam (acn e)) e;show wpAny _ _ (assignInOrder [λv=>bindName X.env z v,λv=>bindName X.env y v,λv=>bindName X.env x v] [m,l,g] >>= λ_=>pure Flow.next) _ _ _;refine acl (acA (acF (bt I3 t hk (.inl W) ru (λs2 I4=>?_) (.inr W))));refine acA (acF (bt I4 t hj (.inl U) F (λs3 I5=>?_) (.inr U)));refine acA (acF (bt I5 t hi (.inl Y) rv (λs4 S=>assignInOrder_nil (acm ?_)) (.inr Y)));have e:((r.set k (some u)).set j (some w)).set i (some v)=((r.set i (some v)).set j (some w)).set k (some u):=by rw[abg _ _ (aaJ J),abg _ _ (aaJ C),abg _ _ (aaJ Q)]
 rw[e]at S;exact⟨_,T,S,L⟩
def Keep(S:List Addr)(H a:Hp):Prop:=∀b o,H b=some o->b ∉ S->a b=some o
theorem Keep.refl(S:List Addr)(H:Hp):Keep S H H:=λ_ _ h _=>h
theorem Keep.trans(a:Keep S H H1)(b:Keep S H1 H2):Keep S H H2:=λc o h n=>b c o (a c o h n) n
theorem Keep.new(a:Keep S H H1)(n:H1 p=none):Keep S H (upd H1 p o):=λc u h m=>by have q:=a c u h m;rw[upd_ne (ai q n)];exact q
theorem Keep.put(a:Keep S H H1)(n:p∈S\/H p=none):Keep S H (upd H1 p o):=λc u h m=>by
 have b:c≠p:=λe=>by
  subst e;rcases n with n|n
  ·exact m n
  ·rw[n]at h;cases h
 rw[upd_ne b];exact a c u h m
theorem Keep.at(a:Keep S H H')(h:H b=some o)(n:b ∉ S):H' b=some o:=a b o h n
theorem Keep.same(a:Keep [] H H'):Same H H':=λb o h=>a b o h (by simp)
theorem Keep.sub(a:Keep S H H')(h:∀b∈S,b∈T):Keep T H H':=λb o e n=>a b o e λz=>n (h b z)
theorem Keep.free(e:Keep S H H')(h:H' l=none)(n:l ∉ S):H l=none:=by
 cases q:H l with
 |none=>rfl
 |some o=>rw[e l o q n]at h;cases h
end
section
theorem qW:bootBuiltins "len"=some (.builtin "len"):=by decide +kernel
theorem zl:bootBuiltins "abs"=some (.builtin "abs"):=by decide +kernel
theorem zm:bootBuiltins "max"=some (.builtin "max"):=by decide +kernel
theorem zo:bootBuiltins "min"=some (.builtin "min"):=by decide +kernel
theorem zp:bootBuiltins "all"=some (.builtin "all"):=by decide +kernel
theorem cW:bootBuiltins "isinstance"=some (.builtin "isinstance"):=by decide +kernel
theorem k7:bootBuiltins "int"=some (.type "int"):=by decide +kernel
theorem vg:bootBuiltins "bool"=some (.type "bool"):=by decide +kernel
theorem qX:bootBuiltins "str"=some (.type "str"):=by decide +kernel
theorem iW:bootBuiltins "list"=some (.type "list"):=by decide +kernel
theorem gb:bootBuiltins "tuple"=some (.type "tuple"):=by decide +kernel
structure CompOk (N:List Str)(nt:Nat)(fr:List Nat)(ON:List Str)(sc osc:Scope):Prop where
 sc:CompScope N nt fr ON sc osc
 nd:N.Nodup
section
variable{Q:VK}{K:Waa}
theorem gf(h:n<=1000000):n<=sizeLine:=aas h (by decide)
end
end
section
section
variable{X:Cx}
end
end
section
section
variable{κ:Type}[DecidableEq κ]
def valV(kvs:List (κ×V))(k:κ):Option V:=(kvs.find? λa=>decide (a.1=k)).map (·.2)
def putK(kvs:List (κ×V))(k:κ)(v:V):List (κ×V):=
 if (kvs.any λa=>decide (a.1=k))=true then kvs.map (λa=>if a.1=k then (a.1,v) else a) else kvs++[(k,v)]
def xI(kvs:List (κ×V))(k:κ):List (κ×V):=kvs.filter λa=>decide (a.1≠k)
theorem bX{k:κ}(e:p.1=k):valV (p::r) k=some p.2:=by simp[valV,aaR,e]
theorem dO{k:κ}(e:¬ p.1=k):valV (p::r) k=valV r k:=by simp[valV,aaR,e]
theorem jP(k:κ):∀kvs:List (κ×V),(kvs.any λa=>decide (a.1=k))=(valV kvs k).isSome
 |[]=>rfl
 |p::r=>by
  rw[aaP];by_cases e:p.1=k
  ·simp only[bX e,Dac e,Bool.true_or,Option.isSome_some]
  ·rw[dO e,Dab e,abn];exact jP k r
theorem fh(kvs:List (κ×V))(k:κ)(v:V):(putK kvs k v).length<=kvs.length+1:=by
 unfold putK;split
 ·rw[aaa];omega
 ·rw[aau,aan,List.length_nil];omega
theorem RelO.ay(r:RelO o u):o.isSome=u.isSome:=by
 cases o with
 |none=>cases u with
  |none=>rfl
  |some _=>exact(show False from r).elim
 |some _=>cases u with
  |none=>exact(show False from r).elim
  |some _=>rfl
theorem RelO.getD(r:RelO o u)(a:RelV d d'):RelV (o.getD d) (u.getD d'):=by
 cases o with
 |none=>cases u with
  |none=>exact a
  |some _=>exact(show False from r).elim
 |some _=>cases u with
  |none=>exact(show False from r).elim
  |some _=>exact r
theorem KV.val(r:KV kvs vs)(k:κ):RelO (valV kvs k) (valueAt vs k):=by
 unfold KV at r;induction r with
 |nil=>exact True.intro
 |@cons p q ps qs h t ih=>
  obtain⟨c,d⟩:=h;by_cases e:p.1=k
  ·have a:q.1=k:=c.symm.trans e;have b:valueAt (q::qs) k=some q.2:=by simp[valueAt,aaR,a]
   rw[bX e,b];exact d
  ·have a:¬ q.1=k:=λz=>e (c.trans z);have b:valueAt (q::qs) k=valueAt qs k:=by simp[valueAt,aaR,a]
   rw[dO e,b];exact ih
theorem KV.any{vs:List (κ×Value)}(r:KV kvs vs)(k:κ):(kvs.any λa=>decide (a.1=k))=vs.any λa=>decide (a.1=k):=by
 unfold KV at r;induction r with
 |nil=>rfl
 |cons h t b=>rw[aaP,aaP,b,h.1]
theorem KV.u5(r:KV kvs vs)(k:κ)(c:RelV y u):
  KV (kvs.map λa=>if a.1=k then (a.1,y) else a) (vs.map λa=>if a.1=k then (a.1,u) else a):=by
 unfold KV at r ⊢;induction r with
 |nil=>exact .nil
 |@cons p q ps qs h t ih=>
  rw[aaj,aaj];refine .cons ?_ ih;obtain⟨b,d⟩:=h;by_cases e:p.1=k
  ·rw[if_pos e,if_pos (b.symm.trans e)];exact⟨b,c⟩
  ·rw[if_neg e,if_neg (λz=>e (b.trans z))];exact⟨b,d⟩
theorem KV.put(r:KV kvs vs)(k:κ)(a:RelV y u):KV (putK kvs k y) (stored vs k u):=by
 unfold putK stored;rw[r.any k];by_cases e:(vs.any λb=>decide (b.1=k))=true
 ·rw[if_pos e,if_pos e];exact r.u5 k a
 ·rw[if_neg e,if_neg e];exact Paired.snoc r ⟨rfl,a⟩
theorem KV.drop(r:KV kvs vs)(k:κ):KV (xI kvs k) (without vs k):=by
 unfold KV at r ⊢;unfold xI without;induction r with
 |nil=>exact .nil
 |@cons p q ps qs h t ih=>
  obtain⟨c,f⟩:=h;rw[List.filter_cons,List.filter_cons];by_cases e:p.1=k
  ·have a:¬ decide (p.1≠k)=true:=by simp[e]
   have b:¬ decide (q.1≠k)=true:=by simp[c.symm.trans e]
   rw[if_neg a,if_neg b];exact ih
  ·have d:¬ q.1=k:=λz=>e (c.trans z);have a:decide (p.1≠k)=true:=by simp[e]
   have b:decide (q.1≠k)=true:=by simp[d]
   rw[if_pos a,if_pos b];exact .cons ⟨c,f⟩ ih
theorem KV.keys{vs:List (κ×Value)}(r:KV kvs vs):kvs.map (·.1)=vs.map (·.1):=by
 unfold KV at r;induction r with
 |nil=>rfl
 |cons h t a=>rw[aaj,aaj,a,h.1]
theorem KV.length{vs:List (κ×Value)}(r:KV kvs vs):kvs.length=vs.length:=acL r
end
theorem fj(r:RelV (kV k) u):(aH P w).is k u=true:=by
 cases k with
 |inl i=>obtain⟨t,e⟩:=(show ∃t,u=Value.int i t from r);subst e;exact jI P w i t
 |inr x=>obtain⟨t,e⟩:=(show ∃t,u=Value.str x t from r);subst e;exact mixKind_str P w x t
theorem ic:∀{ks:List Key}{us:List Value},Vals (ks.map kV) us->ItemsAre (aH P w) ks us
 |[],_,r=>by rw[aaL]at r;cases r;exact .nil
 |k::ks,_,r=>by
  rw[aaj]at r;cases r with
  |cons h t=>exact .cons (fj h) (ic t)
abbrev KT(H:Hp):List (List Key×V)->List (List Key×Addr×Value)->Prop:=Paired λp q=>p.1=q.1/\H q.2.1=some (.tup (p.1.map kV))/\RelV p.2 q.2.2
theorem KT.val(r:KT H kvs xs)(k:List Key):RelO (valV kvs k) ((atKey xs k).map (·.2)):=by
 induction r with
 |nil=>exact True.intro
 |@cons p q ps qs h t ih=>
  obtain⟨c,_,d⟩:=h;by_cases e:p.1=k
  ·have a:q.1=k:=c.symm.trans e;have b:atKey (q::qs) k=some q.2:=by simp[atKey,aaR,a]
   rw[bX e,b];exact d
  ·have a:¬ q.1=k:=λz=>e (c.trans z);have b:atKey (q::qs) k=atKey qs k:=by simp[atKey,aaR,a]
   rw[dO e,b];exact ih
theorem KT.u5(r:KT H kvs xs)(k:List Key)(d:RelV y u):
  KT H (kvs.map λb=>if b.1=k then (b.1,y) else b) (xs.map (putAt k u)):=by
 induction r with
 |nil=>exact .nil
 |@cons p q ps qs h t ih=>
  rw[aaj,aaj];refine .cons ?_ ih;obtain⟨a,c,f⟩:=h;unfold putAt;by_cases e:p.1=k
  ·rw[if_pos e,if_pos (a.symm.trans e)];exact⟨a,c,d⟩
  ·rw[if_neg e,if_neg (λz=>e (a.trans z))];exact⟨a,c,f⟩
theorem KT.put(r:KT H kvs xs)(k:List Key)(c:H b=some (.tup (k.map kV)))(a:RelV y u):
  KT H (putK kvs k y) (storedH xs k b u):=by
 have e:(kvs.any λd=>decide (d.1=k))=(atKey xs k).isSome:=by rw[jP,(r.val k).ay,aa9]
 unfold putK storedH;rw[e];by_cases q:(atKey xs k).isSome=true
 ·rw[if_pos q,if_pos q];exact r.u5 k a
 ·rw[if_neg q,if_neg q];exact Paired.snoc r ⟨rfl,c,a⟩
theorem KT.keeps(r:KT H kvs xs)(a:∀b ys,H b=some (.tup ys)->H' b=some (.tup ys)):KT H' kvs xs:=
 Paired.u0 r λ_ _ z=>⟨z.1,a _ _ z.2.1,z.2.2⟩
theorem xJ(b:HOk P w H h)(e:Rd H a u):ObjOk P w H h a u:=e.ok b
theorem jQ(b:HOk P w H h)(e:Rd H a (.dK kvs)):kvs.length<=sizeLine/\(a==sysModules)=false/\∃vs,KV kvs vs/\h.DictOf (aH P w) a vs:=
 show ObjOk P w H h a (.dK kvs) from xJ b e
theorem Cb(b:HOk P w H h)(e:H a=some (.dK kvs)):kvs.length<=sizeLine/\(a==sysModules)=false/\∃vs,KV kvs vs/\h.DictOf (aH P w) a vs:=jQ b (.inl e)
theorem gg(f:HOk P w H h)(e:H a=some (.tup (ks.map kV))):(tupleKind (aH P w)).is h ks a:=by
 obtain⟨_,b,r,o,g,d,n,c⟩:=(show ObjOk P w H h a (.tup (ks.map kV)) from f a _ e)
 exact⟨o,b.toArray,n,g,d,c.1,by simpa using ic r⟩
theorem jR(d:HOk P w H h)(e:Rd H a (.dT kvs)):kvs.length<=sizeLine/\(a==sysModules)=false /\
  ∃xs,KT H kvs xs/\h.DictOfH (tupleKind (aH P w)) a xs:=by
 obtain⟨z,y,xs,r,o,j,k,i,f,n,s,g⟩:=(show ObjOk P w H h a (.dT kvs) from xJ d e)
 refine⟨z,y,xs,r,o,j,k,i,f,n,s,λx b=>?_,g⟩;have c:∀{l:List (List Key×V)}{m:List (List Key×Addr×Value)},KT H l m->∀x∈m,(tupleKind (aH P w)).is h x.1 x.2.1:=by
  intro l m q;induction q with
  |nil=>intro x b;exact nomatch b
  |@cons p q ps qs hq t ih=>
   intro x b;rcases aab.mp b with e|b
   ·subst e;exact gg d (by rw[<-hq.1];exact hq.2.1)
   ·exact ih x b
 exact c r x b
theorem Cc(b:HOk P w H h)(e:H a=some (.dT kvs)):kvs.length<=sizeLine/\(a==sysModules)=false /\
  ∃xs,KT H kvs xs/\h.DictOfH (tupleKind (aH P w)) a xs:=jR b (.inl e)
def DGet(H:Hp)(a:Addr)(y:V)(r:Option V):Prop:=
 (∃c k,Rd H a (.dK c)/\y=kV k/\r=valV c k)\/∃c k b,Rd H a (.dT c)/\y=.ref b/\H b=some (.tup (k.map kV))/\r=valV c k
def DPut(H:Hp)(a:Addr)(y v:V)(d:Hp):Prop:=
 (∃c k,H a=some (.dK c)/\y=kV k/\c.length<sizeLine/\d=upd H a (.dK (putK c k v))) \/
 ∃c k b,H a=some (.dT c)/\y=.ref b/\H b=some (.tup (k.map kV))/\c.length<sizeLine/\d=upd H a (.dT (putK c k v))
theorem DGet.k{H:Hp}{a:Addr}{kvs:List (Key×V)}{k:Key}(e:H a=some (.dK kvs)):DGet H a (kV k) (valV kvs k):=.inl ⟨kvs,k,.inl e,rfl,rfl⟩
theorem DGet.t{H:Hp}{a b:Addr}{kvs:List (List Key×V)}{k:List Key}(e:H a=some (.dT kvs))(c:H b=some (.tup (k.map kV))):DGet H a (.ref b) (valV kvs k):=.inr ⟨kvs,k,b,.inl e,rfl,c,rfl⟩
theorem DPut.k{H:Hp}{a:Addr}{kvs:List (Key×V)}{k:Key}{v:V}(e:H a=some (.dK kvs))(b:kvs.length<sizeLine):DPut H a (kV k) v (upd H a (.dK (putK kvs k v))):=.inl ⟨kvs,k,e,rfl,b,rfl⟩
theorem DPut.t{H:Hp}{a b:Addr}{kvs:List (List Key×V)}{k:List Key}{v:V}(e:H a=some (.dT kvs))(d:H b=some (.tup (k.map kV)))(c:kvs.length<sizeLine):
  DPut H a (.ref b) v (upd H a (.dT (putK kvs k v))):=.inr ⟨kvs,k,b,e,rfl,d,c,rfl⟩
theorem Inv.big(I:Inv X pins σ H s):sysModules<s.heap.objs.size:=by have h:mainGlobals<s.heap.objs.size:=(I.mod.glob.keeps I.bk).lt;exact Nat.lt_trans (by decide) h
theorem pf(B:A.units+1<cLine)(I:Inv X pins σ H s)(g:DGet H a y (some v))(q:RelV y u)(h:∀f r,Inv X pins σ H r->RelV v f->Q f r):
  wpAny (model X.prog X.w) A (getItem (.ref a) u) Q E s:=by
 rcases g with ⟨j,k,e,n,l⟩|⟨j,k,b,e,n,t,l⟩
 ·subst n;obtain⟨z,x,F,d,i⟩:=jQ I.hok e;obtain⟨f,o,c⟩:=RelO.some_of (by rw[l];exact d.val k);exact wpAny_getItem_of (fj q) i.mapOf o (h f _ (I.tok _) c)
 ·subst n;cases (show u=Value.ref b from q);obtain⟨z,x,D,d,i⟩:=jR I.hok e;obtain⟨f,o,c⟩:=RelO.some_of (by rw[l];exact d.val k);obtain⟨p,C,m⟩:=aaH.mp o;refine wpAny_getItem_heap (acQ B) (gg I.hok t) i C ?_;rw[m];exact h f _ (I.tok _) c
theorem FM(r:A.units+1<cLine)(I:Inv X pins σ H s)(g:DGet H a y o)(m:RelV y u)(h:∀n,Inv X pins σ H n->Q (.bool o.isSome) n):
  wpAny (model X.prog X.w) A (compareOp .In u (.ref a)) Q E s:=by
 rcases g with ⟨i,k,e,j,l⟩|⟨i,k,b,e,j,p,l⟩
 ·subst j;obtain⟨z,d,v,c,f⟩:=jQ I.hok e;refine wpAny_in_of (fj m) d f.mapOf ?_;rw[<-(c.val k).ay,<-l];exact h _ (I.tok _)
 ·subst j;cases (show u=Value.ref b from m);obtain⟨z,d,t,c,f⟩:=jR I.hok e;refine wpAny_in_heap (acQ r) (gg I.hok p) d f ?_;have q:=(c.val k).ay;rw[aa9]at q;rw[<-q,<-l];exact h _ (I.tok _)
theorem vh(r:A.units+1<cLine)(I:Inv X pins σ H s)(g:DGet H a y o)(m:RelV y u)(h:∀n,Inv X pins σ H n->Q (.bool (!o.isSome)) n):
  wpAny (model X.prog X.w) A (compareOp .NotIn u (.ref a)) Q E s:=by
 rcases g with ⟨i,k,e,j,l⟩|⟨i,k,b,e,j,p,l⟩
 ·subst j;obtain⟨z,d,v,c,f⟩:=jQ I.hok e;refine wpAny_notIn_of (fj m) d f.mapOf ?_;rw[<-(c.val k).ay,<-l];exact h _ (I.tok _)
 ·subst j;cases (show u=Value.ref b from m);obtain⟨z,d,t,c,f⟩:=jR I.hok e;refine wpAny_notIn_heap (acQ r) (gg I.hok p) d f ?_;have q:=(c.val k).ay;rw[aa9]at q;rw[<-q,<-l];exact h _ (I.tok _)
theorem iX{t':Nat}(I:Inv X pins σ H s)(g:BE (H a))(f:Heap.SameBut a s.heap h')(d:∃q,h'.get? a=some q)(c:ObjOk X.prog X.w (upd H a ob) h' a ob):
  Inv X pins σ (upd H a ob) { s with heap:=h',toks:=t' }:=
 I.write g (.inl rfl) (λb q e z=>(f.2 b e).trans z) d c
theorem zq(z:kvs.length<=sizeLine)(c:(a==sysModules)=false)(b:KV kvs vs)(dd:h'.DictOf (aH P w) a vs):
  ObjOk P w H' h' a (.dK kvs):=⟨z,c,vs,b,dd⟩
theorem ph(P:A.units+1<cLine)(I:Inv X pins σ H s)(g:DPut H a y v H')(D:RelV y u)(G:RelV v r)(h:∀J,Inv X pins σ H' J->Q () J):
  wpAny (model X.prog X.w) A (setItem (.ref a) u r) Q E s:=by
 rcases g with ⟨f,k,e,x,l,p⟩|⟨f,k,b,e,x,B,l,p⟩
 ·subst x p;obtain⟨z,n,S,d,t⟩:=Cb I.hok e;have Y:S.length<=sizeLine:=by rw[<-d.length];exact z
  have m:(putK f k v).length<=sizeLine:=by have:=fh f k v;omega
  refine wpAny_setItem_pairs (fj D) t λF i o=>h _ ?_;have N:∃q,F.get? a=some q:=let ⟨q,_,_,j,_⟩:=i;⟨q,j⟩
  exact iX I (by rw[e];exact True.intro) o N (zq m n (d.put k G) i)
 ·subst x p;cases (show u=Value.ref b from D);obtain⟨z,n,O,d,t⟩:=Cc I.hok e;have Y:O.length<=sizeLine:=by rw[<-acL d];exact z
  have m:(putK f k v).length<=sizeLine:=by have:=fh f k v;omega
  refine wpAny_setItem_heap (acQ P) (gg I.hok B) t λF i o=>h _ ?_;obtain⟨q,T,U,j,L,W,Z,_,M⟩:=i;refine iX I (by rw[e];exact True.intro) o ⟨q,j⟩ ⟨m,n,_,(d.put k B G).keeps λc ys C=>?_,q,T,U,j,L,W,Z,M⟩;rw[upd_ne (BD C e (λz=>nomatch z))];exact C
def NoSl(i:Expr):Prop:=∀a b,subscripted i false a b=operate [a,b] (getItem a b)
theorem subD_of{T id:String}
  (k:typeLookup (.type T) "__getitem__"=pure (some (.builtin id))) (l:NoSl slice)
  (h:wpAny (model prog w) A (eval value env) (λo c=>wpAny (model prog w) A (eval slice env) (λi a=>a.TypeIs o T/\wpAny (model prog w) A (getItem o i) Q E a) E c) E s):
  wpAny (model prog w) A (eval (.Subscript value slice pos) env) Q E s:=by
 refine Subscript_ (acr h (λo c f=>acr f (λi a b=>?_) λ_ _ x=>x) λ_ _ x=>x);obtain⟨j,b⟩:=b;unfold subscriptTail;refine acl ?_;rw[getitemInPython_of_ne j.not_modules];refine acl (wpAny_specialOf j k ?_);have e:wpAny (model prog w) A (subscripted slice false o i) (λr d=>wpAny (model prog w) A (letTemporaryGo value o r >>= λ_=>pure r) Q E d) E a:=by rw[l o i];exact wpAny_operating (acr b (λr d g=>acl (wpAny_letTemporaryGo (acm g))) λ_ _ x=>x)
 first
  |exact acm (acl e)
  |exact acl (acm (acl e))
  |exact acl e
theorem jS(I:Inv X pins σ H s)(g:DGet H a y o):s.TypeIs (.ref a) "dict":=by
 rcases g with ⟨c,k,e,_,_⟩|⟨c,k,b,e,_,_,_⟩
 ·obtain⟨_,_,f,_,d⟩:=jQ I.hok e;exact d.typeIs
 ·obtain⟨_,_,h,_,d⟩:=jR I.hok e;exact d.typeIs
def Cd(f d:TE):TE:=λc H Q=>f c H λx e=>d c e λy b=>∃a v,x=.ref a/\DGet b a y (some v)/\Q v b
def Ce(d f:TE):TE:=λc H Q=>d c H λy e=>f c e λx b=>∃a o,x=.ref a/\DGet b a y o/\Q (.bl o.isSome) b
def mP(d f:TE):TE:=λc H Q=>d c H λy e=>f c e λx b=>∃a o,x=.ref a/\DGet b a y o/\Q (.bl (!o.isSome)) b
def Cf(h e g:TE):TS:=λD b H=>g b H λv i=>h b i λx d=>e b d λy f=>∃a c,x=.ref a/\DPut f a y v c/\D.nx b c
theorem vj(k:X.A.units+1<cLine)(j:PE X o td)(hi:PE X i ty)(l:NoSl i):PE X (.Subscript o i pos) (Cd td ty):=by intro b s e H Q I h;refine subD_of ab3.lookup l (thn (j b s e H _ I h) λu r ⟨x,p,B,f,m⟩=>thn (hi b r e p _ B m) λD J z=>?_);obtain⟨y,t,d,n,a,v,w,g,C⟩:=z;subst w;obtain rfl:u=Value.ref a:=f;exact⟨jS d g,pf k d g n λF G q c=>⟨v,t,q,c,C⟩⟩
theorem qY(j:X.A.units+1<cLine)(hi:PE X i ty)(e:PE X o td):PC X .In i o (Ce ty td):=by
 intro b s c H Q I h;refine thn (hi b s c H _ I h) λB q ⟨y,n,w,l,m⟩=>thn (e b q c n _ w m) λu D v=>?_;obtain⟨x,r,f,d,a,k,t,g,z⟩:=v;subst t;obtain rfl:u=Value.ref a:=d;exact FM j f g l λC p=>⟨.bl k.isSome,r,p,rfl,z⟩
theorem ie(j:X.A.units+1<cLine)(hi:PE X i ty)(e:PE X o td):PC X .NotIn i o (mP ty td):=by
 intro b s c H Q I h;refine thn (hi b s c H _ I h) λB q ⟨y,n,w,l,m⟩=>thn (e b q c n _ w m) λu D v=>?_;obtain⟨x,r,f,d,a,k,t,g,z⟩:=v;subst t;obtain rfl:u=Value.ref a:=d;exact vh j f g l λC p=>⟨.bl (!k.isSome),r,p,rfl,z⟩
theorem vk(k:X.A.units+1<cLine)(f:PE X o td)(hi:PE X i ty)(d:PE X value tv)(l:swapsWith value (some (.Subscript o i pos')) pos.line X.env=pure false):
  PS X (.Assign [.Subscript o i pos'] value pos) (Cf td ty tv):=by
 intro b s c H D I h;refine wpAny_Assign_Subscript (thn (d b s c H _ I h) λr z ⟨v,t,L,F,p⟩=>thn (f b z c t _ L p) λu M ⟨x,C,j,e,N⟩=>thn (hi b M c C _ j N) λQ S J=>?_) l;obtain⟨y,O,w,n,a,B,G,g,q⟩:=J;subst G;obtain rfl:u=Value.ref a:=e;exact ph k w g n F λP m=>⟨c,B,m,q⟩
theorem qZ(h:Heap)(a:sysModules<h.objs.size):ObjOk P w H (h.push { cls:=.type "dict",data:=.dict #[] }) h.objs.size (.dK []):=
 ⟨aaK _,beq_eq_false_iff_ne.mpr (aaJ (aam a)),[],.nil,Heap.DictOf.new h⟩
def tDNewK:TE:=λ_ H Q=>∀p,H p=none->Q (.ref p) (upd H p (.dK []))
theorem q0:PE X (.Dict [] [] pos) tDNewK:=λa s b H Q I h=>
 wpAny_Dict_empty ⟨.ref s.heap.objs.size,_,I.laid (λ_ _ q=>aco _ q) (aag _) (qZ s.heap I.big),rfl,h _ (I.hok.fresh (aag _))⟩
def k8:List (TE×TE)->St->Hp->(List (V×V)->Hp->Prop)->Prop
 |[],_,H,Q=>Q [] H
 | (tk,tv)::r,σ,H,Q=>tk σ H λx c=>tv σ c λy a=>k8 r σ a λps b=>Q ((x,y)::ps) b
abbrev VV:List (V×V)->List (Value×Value)->Prop:=Paired λp q=>RelV p.1 q.1/\RelV p.2 q.2
def Cg(X:Cx)(pos:Pos)(c:List (Option Expr))(a:List Expr)(e:List (TE×TE)):Prop:=
 ∀(b:List (Addr×Obj)) (s:Shared) (d:St) (H:Hp) (Q:List (V×V)->Hp->Prop),Inv X b d H s->k8 e d H Q ->
  wpAny (model X.prog X.w) X.A (evalPairs (pairTrees c a X.env pos)) (λh i=>∃f g,Inv X b d g i/\VV f h/\Q f g) X.xe s
theorem mQ:Cg X pos [] [] []:=λa s b H Q I h=>pairTrees_nil_walk ⟨[],H,I,.nil,h⟩
theorem jT(hk:PE X k tk)(e:PE X v tv)(r:Cg X pos ks vs trs):
  Cg X pos (some k::ks) (v::vs) ((tk,tv)::trs):=λa s c H Q I h=>
 pairTrees_cons_walk (thn (hk a s c H _ I h) λu p ⟨x,m,o,f,j⟩=>thn (e a p c m _ o j) λB w ⟨y,q,i,l,z⟩=>
  thn (r a w c q _ i z) λC A ⟨d,g,n,b,t⟩=>⟨(x,y)::d,g,n,.cons ⟨f,l⟩ b,t⟩)
structure M1 (X:Cx)(o:Expr)(m:Str)(apos:Pos)(e:Expr)(cpos:Pos):Prop where
 base:attributeBase o m X.env (eval o X.env)=eval o X.env
 few:((backTo cpos (starEach [e] X.env)).all (λx=>!x.1)&&(backToKw cpos (keywordEach [] X.env)).all (λx=>x.1.isSome)
  && decide (([e]:List Expr).length+([]:List Keyword).length+(if ([]:List Keyword).isEmpty then 0 else 1)<30))=true
 line:(apos.endLine==cpos.line)=true
 trees:backTo cpos (starEach [e] X.env)=[(false,eval e X.env)]
structure M2 (X:Cx)(o:Expr)(m:Str)(apos:Pos)(e f:Expr)(cpos:Pos):Prop where
 base:attributeBase o m X.env (eval o X.env)=eval o X.env
 few:((backTo cpos (starEach [e,f] X.env)).all (λx=>!x.1)&&(backToKw cpos (keywordEach [] X.env)).all (λx=>x.1.isSome)
  && decide (([e,f]:List Expr).length+([]:List Keyword).length+(if ([]:List Keyword).isEmpty then 0 else 1)<30))=true
 line:(apos.endLine==cpos.line)=true
 trees:backTo cpos (starEach [e,f] X.env)=[(false,eval e X.env),(false,eval f X.env)]
end
end L2
namespace L2
open PySem PySem.Spec PyProof.Rows
section
def FN(K:Waa)(l:Addr):It:=
 ⟨λi H=>∃a x,SqL K H l a/\a[i]?=some x,
  λi H v b=>∃T x,(∀a,SqL K H l a->a[i]?=some x)/\H T=none/\v=.ref T/\b=upd H T (.tup [.int i,x]),
  λi H=>∃a,SqL K H l a/\a.length<=i⟩
theorem pj{P:Program}{w:World}{K:Waa}{es:List Expr}{x1}{pos:Pos}(l e it:Addr)(J:e≠it):
  Turn P w K (.Tuple es x1 pos) (FN K l) [e,it] e (λi h=>(∃g,IsEnum h e it (i:Int) g)/\h.IsListIter it l i) where
 mem:=by simp
 obj:=λi h ⟨⟨g,y⟩,A⟩ c a=>by
  simp only[aab,aav,or_false]at a;rcases a with rfl|rfl
  ·exact⟨_,y,λv z=>by cases z⟩
  ·obtain⟨o,e,c,d⟩:=A;exact⟨o,e,λv z=>by rw[d]at z;cases z⟩
 keep:=λi h Q ⟨⟨g,y⟩,A⟩ k=>⟨⟨g,k e (by simp) _ y⟩,A.at λo e=>k it (by simp) o e⟩
 item:=by
  intro X hP U Y a i j s σ H E I B ⟨⟨g,y⟩,A⟩ S;subst hP U Y;obtain⟨xs,x,M,W⟩:=S;obtain⟨O,T,p,hz⟩:=I.list M;obtain⟨u,hu,ru⟩:=T.get W;have le:e<s.heap.objs.size:=acn y;have li:it<s.heap.objs.size:=by obtain⟨o,e',_⟩:=id A;exact acn e'
  refine wpAny_pyNext_enum_item y A p.isList (x:=u) (by simpa using hu) J λQ Z L hT a1 hk=>?_;refine⟨.ref s.heap.objs.size,rfl,?_⟩;refine wpAny_letOwnedTupleGo_enum Z λt D f=>?_;have f:Heap.SameBut e Q t:=f;have G:∀c o,c ∉ ([e,it]:List Addr)->s.heap.get? c=some o->t.get? c=some o:=λc o a q=>by simp only[aab,aav,or_false,not_or]at a;exact f.extBut _ _ a.1 (hk c o a.1 a.2 q)
  have C:H s.heap.objs.size=none:=I.hok.fresh (aag _);have I1:Inv X j σ H { s with heap:=t,toks:=s.toks+1 }:=I.fy G B;have F:IsPair t s.heap.objs.size (.int i s.toks) u:=f.extBut _ _ (aaZ le) hT;have I2:Inv X j σ (upd H s.heap.objs.size (.tup [.int i,x])) { s with heap:=t,toks:=s.toks+1 }:=by
   refine I.step (g':=s.gens) (d':=s.drawn) (ch:=[e,it]) (λb N=>?_) (λb o _ _ a e _=>G b o a e) (λb o _ _ a e _=>⟨o.slots,G b o a e⟩) (λb o a e n=>?_)
    (λb o a e=>⟨o,G b o a e⟩) (λb ys e=>?_) (λb o u e=>?_) (λb ps e=>⟨#[],?_⟩) (λm hm=>?_) (λb o e=>?_) I.bare
   ·obtain⟨f0,f1,f2,f3,f4,f5⟩:=B b N;exact⟨f3,f1,f4,f5⟩
   ·rw[upd_ne (aam (acn e))];exact n
   ·rw[upd_ne (ai e C)];exact e
   ·rw[upd_ne (ai e C)];exact e
   ·rw[upd_ne (ai e C),e];simp
   ·obtain⟨o,a0,ep,ho,r⟩:=hm;exact⟨o,a0,ep,G _ o (λz=>(B _ z).2.1 rfl) ho,r⟩
   ·by_cases N:b=s.heap.objs.size
    ·subst N;rw[aq]at e;cases e;exact⟨(by show 2<=sizeLine;decide),[.int i s.toks,u],.cons ⟨_,rfl⟩ (.cons ru .nil),⟨_,F,rfl,_,rfl,rfl⟩⟩
    ·rw[upd_ne N]at e;refine(I1.hok b o e).g7 (λc v a q=>q) (λc q=>by rw[upd_ne (ai q C)];exact q) λc ys q=>by rw[upd_ne (ai q C)];exact q
  refine⟨.ref s.heap.objs.size,_,I2,rfl,⟨_,x,λys hy=>by rw[I.l4 hy M];exact W,C,rfl,rfl⟩,⟨⟨u,by simpa using D⟩,L.at λo q=>f.extBut _ _ (aaJ J) q⟩,λc a=>?_⟩;simp only[aab,aav,or_false]at a;rcases a with rfl|rfl
  ·rw[upd_ne (aam le)];exact(B _ (by simp)).1
  ·rw[upd_ne (aam li)];exact(B _ (by simp)).1
 done:=by
  intro X hP U Y a i j s σ H E I B ⟨⟨g,y⟩,A⟩ S;subst hP U Y;obtain⟨xs,M,W⟩:=S;obtain⟨O,T,p,hz⟩:=I.list M;have hl:=T.length;refine wpAny_pyNext_enum_end (I.ok.hd a) y A p.isList (by simp;omega) λQ eb=>⟨rfl,I.fy (t':=s.toks) (λc o a q=>?_) B⟩
  simp only[aab,aav,or_false,not_or]at a;exact eb c o a.2 q
 self:=λ_ _ _ _ _ ⟨⟨g,y⟩,_⟩ h=>wpAny_pyIter_enum y h
theorem pq:bootBuiltins "enumerate"=some (.type "enumerate"):=by decide +kernel
section
variable{X:Cx}
end
end
section
end
section
end
section
def xK(w:World)(e:DictEntry)(a:Str×Str):Prop:=e.hash=hashStr w a.1/\(∃t,e.key=.str a.1 t)/\∃t,e.val=.str a.2 t
def KDict(K:Waa)(w:World)(c:Addr)(kvs:List (Str×Str)):Prop:=
 ∃o a b,K.lookup c=some o/\o.ExactDict/\o.data=.dict a b/\Paired (xK w) a.toList kvs/\(kvs.map (·.1)).Nodup/\(c==sysModules)=false
def keysOf(kvs:List (Str×Str)):List (Key×V):=kvs.map λa=>(.inr a.1,.str a.2)
theorem pv{kvs:List (Str×Str)}(h:(kvs.map (·.1)).Nodup):(kvs.map λc=>(.inr c.1:Key)).Nodup:=by unfold List.Nodup at *;rw[List.pairwise_map]at *;exact h.imp λ{a b} q z=>q (abe z)
theorem cS:∀(kvs:List (Str×Str)) (k:Str),valV (keysOf kvs) (.inr k)=(kvs.lookup k).map V.str
 |[],k=>rfl
 |kv::r,k=>by
  show valV ((.inr kv.1,V.str kv.2)::keysOf r) (.inr k)=_;obtain⟨a,b⟩:=kv;by_cases e:a=k
  ·subst e;rw[bX rfl,List.lookup_cons_self];rfl
  ·rw[dO (λz=>e (abe z)),cS r k];rw[aaM,show (k==a)=false from by simpa using λz=>e z.symm]
theorem KDict.dict{K:Waa}(D:KDict K w c kvs)(X:K.In h):∃vs,KV (keysOf kvs) vs/\h.DictOf (aH P w) c vs:=by
 obtain⟨o,z,A,v,u,x,G,s,_⟩:=D;have d:∀{l:List DictEntry}{m:List (Str×Str)},Paired (xK w) l m->∃vs:List (Key×Value),KV (keysOf m) vs/\Pairs (aH P w) l vs/\vs.map (·.1)=m.map (λb=>(.inr b.1:Key))/\∀e∈l,∃k,(aH P w).is k e.key=true/\e.hash=(aH P w).hash k:=by
  intro l m r;induction r with
  |nil=>exact⟨[],.nil,.nil,rfl,λe a=>by cases a⟩
  |@cons e b l m h t ih=>
   obtain⟨vs,g,j,i,f⟩:=ih;obtain⟨y,⟨F,q⟩,⟨p,C⟩⟩:=h;have n:(aH P w).is (.inr b.1) e.key=true:=by rw[q];exact mixKind_str P w b.1 F
   refine⟨(.inr b.1,.str b.2 p)::vs,.cons ⟨rfl,⟨p,rfl⟩⟩ g,.cons n C j,by rw[aaj,aaj,i],λB a=>?_⟩;rcases aab.mp a with rfl|a
   ·exact⟨_,n,y⟩
   ·exact f B a
 obtain⟨vs,g,j,i,f⟩:=d G;refine⟨vs,g,o,z,A,X _ _ v,u,x,λe a=>f e (by simpa using a),j,?_⟩;rw[i];exact pv s
def xM(kvs:List (Str×Str))(c:TE):TE:=λa H Q=>c a H λy b=>∃k v,y=.str k/\kvs.lookup k=some v/\Q (.str v) b
theorem vm(D:KDict X.K X.w c kvs)(n:PE X o (tC (.ref c)))(hi:PE X i ti)(p:NoSl i):PE X (.Subscript o i pos) (xM kvs ti):=by
 intro a s f H Q I h;refine subD_of ab3.lookup p (thn (n a s f H (λx d=>x=.ref c/\xM kvs ti f d Q) I ⟨rfl,h⟩) λu t ⟨x,d,F,m,A,q⟩=>thn (hi a t f d _ F q) λL N ⟨y,z,g,r,k,v,B,l,G⟩=>?_);subst A;obtain rfl:u=Value.ref c:=m;subst B;obtain⟨J,e,j⟩:=D.dict (P:=X.prog) g.pe;refine⟨j.typeIs,?_⟩;obtain⟨M,C,b⟩:=RelO.some_of (by
  have:=e.val (.inr k)
  rwa [cS,l]at this)
 exact wpAny_getItem_of (fj (k:=.inr k) r) j.mapOf C ⟨.str v,z,g.tok _,b,G⟩
def FO(kvs:List (Str×Str))(c:TE):TE:=λa H Q=>c a H λy b=>∃k,y=.str k/\Q (.bl (kvs.lookup k).isSome) b
def Ci(kvs:List (Str×Str))(c:TE):TE:=λa H Q=>c a H λy b=>∃k,y=.str k/\Q (.bl (!(kvs.lookup k).isSome)) b
theorem q8(D:KDict X.K X.w c kvs)(hi:PE X i ti)(l:PE X o (tC (.ref c))):PC X .In i o (FO kvs ti):=by
 intro a s g H Q I h;refine thn (hi a s g H _ I h) λG t ⟨y,q,B,n,k,v,p⟩=>thn (l a t g q (λx d=>x=.ref c/\Q (.bl (kvs.lookup k).isSome) d) B ⟨rfl,p⟩) λu J ⟨x,d,f,j,A,C⟩=>?_;subst A;obtain rfl:u=Value.ref c:=j;subst v;obtain⟨F,b,r⟩:=D.dict (P:=X.prog) f.pe;have m:(c==sysModules)=false:=let ⟨_,_,_,_,_,_,_,_,z⟩:=D;z
 refine wpAny_in_of (fj (k:=.inr k) n) m r.mapOf ?_;have e:=(b.val (.inr k)).ay;rw[cS,aa9]at e;rw[<-e];exact⟨.bl (kvs.lookup k).isSome,d,f.tok _,rfl,C⟩
theorem mR(D:KDict X.K X.w c kvs)(hi:PE X i ti)(l:PE X o (tC (.ref c))):PC X .NotIn i o (Ci kvs ti):=by
 intro a s g H Q I h;refine thn (hi a s g H _ I h) λG t ⟨y,q,B,n,k,v,p⟩=>thn (l a t g q (λx d=>x=.ref c/\Q (.bl (!(kvs.lookup k).isSome)) d) B ⟨rfl,p⟩) λu J ⟨x,d,f,j,A,C⟩=>?_;subst A;obtain rfl:u=Value.ref c:=j;subst v;obtain⟨F,b,r⟩:=D.dict (P:=X.prog) f.pe;have m:(c==sysModules)=false:=let ⟨_,_,_,_,_,_,_,_,z⟩:=D;z
 refine wpAny_notIn_of (fj (k:=.inr k) n) m r.mapOf ?_;have e:=(b.val (.inr k)).ay;rw[cS,aa9]at e;rw[<-e];exact⟨.bl (!(kvs.lookup k).isSome),d,f.tok _,rfl,C⟩
def Fit(d:PyData)(n:Nat):Prop:=d.showable=true/\d.hasDict=false/\d.shown.length<=n
theorem Fit.le(h:Fit d n)(a:n<=m):Fit d m:=⟨h.1,h.2.1,aas h.2.2 a⟩
def FP(K:Waa)(n:Nat)(t:TGs):TG:=λv c H Q=>∃a b,v=.ref a/\SqL K H a b/\b.length=n/\t b c H Q
theorem zr{k:Nat}(p:X.calm=true)(h:yM X es t)
  (m:(assignEach es X.env).length=n:=by rfl) (f:(assignEach es X.env).findIdx? (·.1)=none:=by rfl):PG X (.Tuple es k pos) (FP X.K n t):=by
 intro c s j H v u Q I r g;obtain⟨a,x,q,A,w,g⟩:=g;subst q;cases r;obtain⟨d,i,⟨D,y,z,l,_,C⟩,L⟩:=I.list A;have F:s.heap.IsList a d.toArray:=⟨D,z,l,y,C⟩
 rw[assign_Tuple];refine acl (acu ?_);unfold unpack;rw[show (assignEach es X.env).length=d.toArray.size by simp[m,<-w,i.length],f];refine acl (acs (PySem.W.kun_itemsOf (I.ok.hd p) F λB J=>?_));have G:Inv X c j H { s with heap:=B }:=I.kept λb o e=>J b o (aam (acn e)) e;exact h c _ j H x _ Q G (by simpa using i) g
end
section
end
section
def Cj(H:Hp)(a:Addr)(y:V)(b:Hp):Prop:=∃S n m,H a=some (.set S n)/\y=.int m/\n+1<scanBound/\b=upd H a (.set (λk=>S k||decide (k=m)) (if S m then n else n+1))
def vn(d:TE):TC:=λD b H Q=>d b H λk c=>∃a,Cj c D k a/\Q a
abbrev q9(wi:TI)(nt:Nat)(fr:List Nat)(g:CC->TG)(tc:CC->TC):TE:=fZ (.set (λ_=>false) 0) wi nt fr g (tZ tc)
abbrev Cm(x:Expr)(D:Addr)(env:Env):Sem Unit:=eval x env >>= λv=>standAt x.pos >>= λ_=>call (.builtin "set.add") [.ref D,v] >>= λ_=>pure ()
def jU(Y:Cx)(D:Addr)(ifs:List Expr)(x:Expr)(tc:TC):Prop:=PB Y (u9 ifs (Cm x D Y.env) Y.env) (λa H Q=>tc D a H (Q a))
theorem iY(elt target iter:Expr)(ifs:List Expr)(a:Scope)(pos:Pos)(it:Value)(D:Addr)(env:Env):
  compTurn (.SetComp elt [⟨target,iter,ifs,0⟩] a pos) 0 it (.ref D) env=(do
   standAt iter.pos
   match <-pyNext it with
   |none=>pure (.done .next)
   |some v=>
    letOwnedTupleGo target it v
    assign target env v
    let mut ok:=true
    for c in ifs do
     if ok then ok <-isTrue c env (eval c env)
    if ok then
     (do
      let v <-eval elt env
      standAt elt.pos
      let _ <-call (.builtin "set.add") [.ref D,v])
    again (.compLoop (.SetComp elt [⟨target,iter,ifs,0⟩] a pos) 0 it (.ref D) env)):=by rfl
theorem rh{X:Cx}{b:List (Addr×Obj)}{σ:St}{H d:Hp}{s:Shared}{E:Value->Shared->Prop}{A:Around}{a:Addr}{y:V}{u:Value}{Q:Value->Shared->Prop}(I:Inv X b σ H s)(g:Cj H a y d)(r:RelV y u)(h:∀f,Inv X b σ d f->Q .none f):
  wpAny (model X.prog X.w) A (call (.builtin "set.add") [.ref a,u]) Q E s:=by
 obtain⟨S,n,m,e,rfl,l,rfl⟩:=g;obtain⟨t,rfl⟩:=r;have p:s.heap.SetOf (intKind X.prog X.w) a S n:=I.hok a _ e;refine call_set_add (intKind_is X.prog X.w m t) rfl p l λv i c=>h _ ?_;have j:∃q,v.get? a=some q:=let ⟨o,_,_,_,k,_⟩:=c;⟨o,k⟩
 exact iX I (by rw[e];exact True.intro) i j c
section
variable{X Y:Cx}{tg iter x:Expr}{ifs:List Expr}{scope:Scope}{pos:Pos}{N:List Str}{nt:Nat}{fr:List Nat}{D:Addr}
theorem xN{b:TE}(j:PE Y x b):PB Y (Cm x D Y.env) (λσ H Q=>vn b D σ H (Q σ)):=λa s σ H Q I h=>by refine acl (thn (j a s σ H _ I h) λu l f=>?_);obtain⟨y,k,i,c,e,g,q⟩:=f;exact acl (acu (acl (rh i g c λm d=>acm ⟨σ,e,d,q⟩)))
theorem zt(it:Value)(D:Addr)(env:Env):compTurn (.SetComp x [⟨tg,iter,ifs,0⟩] scope pos) 0 it (.ref D) env=cv (.SetComp x [⟨tg,iter,ifs,0⟩] scope pos) 0 tg iter.pos it (.ref D) env (u9 ifs (Cm x D env) env):=by rw[iY];simp only[cv,u9,<-jp,Cm]<;>rfl
def FQ(a:Bool):Obj:={ cls:=.type "set",dict:=none,data:=.set #[] 0 (.fresh 0 0 a) }
theorem rj(X:Cx):∃o:Obj,MkC X (newSet (.type "set")) o (.set (λ_=>false) 0):=by
 refine⟨FQ (!X.w.params.followText "set-order"),λ{s Q} h=>?_,λ{a c H s} I=>?_⟩
 ·unfold newSet setsByText;refine acl (acl (wpAny_askSetting (acm ?_)));dsimp only;simp only[newObj];exact acl (wpAny_alloc (acm h))
 ·exact I.laid (t':=_) (o:=.set (λ_=>false) 0) (λ_ _ q=>aco _ q) (aag _) ⟨_,#[],0,_,acp _ rfl,⟨rfl,rfl,rfl⟩,rfl,λe b=>by simp at b,λk=>by simp,by decide,by rfl,rfl⟩
theorem jV{i:Nat}{y:Str}{e a:Pos}{d:TI}{g:CC->TG}{tc:CC->TC}(j:X.N.Nodup)(n:X.N[i]?=some y)(k:X.env.scope.names.lookup y=some .local)(h:X.calm=true)(S:CompScope N nt fr X.N scope X.env.scope)(hi:PI X tg iter d)(f:∀c:CC,PG (bJ X N scope c) tg (g c))(m:∀(c:CC) D,jU (bJ X N scope c) D ifs x (tc c))(l:∀x,foldedSetIterable iter X.env x=pure x)
  (b:swapsWith (.SetComp x [⟨tg,iter,ifs,0⟩] scope pos) (some (.Name y e)) a.line X.env=pure true):PS X (.Assign [.Name y e] (.SetComp x [⟨tg,iter,ifs,0⟩] scope pos) a) (kH (q9 d nt fr g tc) (fW i)):=
 let ⟨_,M⟩:=rj X
 mM (body:=λD env=>u9 ifs (Cm x D env) env) (.inr (.inr ⟨_,_,_,_,rfl⟩)) rfl (λ_ _ _=>zt ..) M (λ_=>rfl) j n k h S hi f m l b
end
end
end L2
set_option genInjectivity false
namespace L2
open PySem PySem.Spec PyProof.Rows
section
structure Kp (S:Addr->Prop)(H H':Hp):Prop where
 k:∀b o,H b=some o->¬ S b->H' b=some o
 n:∀b,H' b=none->H b=none
theorem Kp.refl(S:Addr->Prop)(H:Hp):Kp S H H:=⟨λ_ _ h _=>h,λ_ h=>h⟩
theorem Kp.trans(a:Kp S H H1)(b:Kp S H1 H2):Kp S H H2:=⟨λc o h n=>b.k c o (a.k c o h n) n,λc h=>a.n c (b.n c h)⟩
theorem Kp.weak(a:Kp S H H')(h:∀b,S b->T b\/H b=none):Kp T H H':=⟨λb o e n=>a.k b o e λz=>(h b z).elim n λq=>(by rw[q]at e;cases e),a.n⟩
theorem Kp.put(a:S p\/H p=none):Kp S H (upd H p o):=by
 refine⟨λb u h n=>?_,λb h=>?_⟩
 ·have c:b≠p:=λe=>by
   subst e;rcases a with a|a
   ·exact n a
   ·rw[a]at h;cases h
  rw[upd_ne c];exact h
 ·by_cases e:b=p
  ·subst e;rw[aq]at h;cases h
  ·rw[upd_ne e]at h;exact h
theorem Kp.ne(a:Kp S H H')(h:H b≠none):H' b≠none:=λe=>h (a.n b e)
theorem Kp.keep(a:Kp (λ_=>False) H H'):Keep [] H H':=λb o h _=>a.k b o h (λz=>z)
def Bx(S:Addr->Prop)(F:Hp->Prop)(H:Hp):Prop:=∀a,Kp S H a->F a
theorem Bx.now{F:Hp->Prop}(h:Bx S F H):F H:=h H (Kp.refl _ _)
theorem Bx.step{F:Hp->Prop}(h:Bx S F H)(k:Kp S H H')(n:∀b,S' b->S b\/H b=none):Bx S' F H':=λd c=>
 h d ⟨λb o e a=>c.k b o (k.k b o e a) λz=>(n b z).elim a λq=>(by rw[q]at e;cases e),λb e=>k.n b (c.n b e)⟩
mutual
inductive Fz (K:Waa)(S:Addr->Prop)(H:Hp):V->PyData->Prop
 |non:Fz K S H .non .none
 |bl (b:Bool):Fz K S H (.bl b) (.bool b)
 |int (i:Int):Fz K S H (.int i) (.int i)
 |str (x:Str):Fz K S H (.str x) (.str x)
 |lst {a xs ds}:Bx S (λH=>SqL K H a xs) H->FzA K S H xs ds->Fz K S H (.ref a) (.list ds)
 |tup {a xs ds}:Bx S (λH=>SqT K H a xs) H->FzA K S H xs ds->Fz K S H (.ref a) (.tuple ds)
inductive FzA (K:Waa)(S:Addr->Prop)(H:Hp):List V->List PyData->Prop
 |nil:FzA K S H [] []
 |cons {x d xs ds}:Fz K S H x d->FzA K S H xs ds->FzA K S H (x::xs) (d::ds)
end
section
variable{K:Waa}
theorem Fz.ind{P:V->PyData->Prop}{Q:List V->List PyData->Prop}(e:P .non .none)(l:∀b,P (.bl b) (.bool b))(k:∀i,P (.int i) (.int i))(f:∀x,P (.str x) (.str x))
  (c:∀{a xs ds},Bx S (λH=>SqL K H a xs) H->Q xs ds->P (.ref a) (.list ds)) (g:∀{a xs ds},Bx S (λH=>SqT K H a xs) H->Q xs ds->P (.ref a) (.tuple ds)) (nil:Q [] []) (cons:∀{x d xs ds},P x d->Q xs ds->Q (x::xs) (d::ds)):
  (∀{v d},Fz K S H v d->P v d)/\∀{vs ds},FzA K S H vs ds->Q vs ds:=
 ⟨λh=>Fz.rec e l k f (λh _ i=>c h i) (λh _ i=>g h i) nil (λ_ _ i j=>cons i j) h,
  λh=>FzA.rec e l k f (λh _ i=>c h i) (λh _ i=>g h i) nil (λ_ _ i j=>cons i j) h⟩
theorem Fz.gk(k:Kp S H H')(n:∀b,S' b->S b\/H b=none):(∀{v:V}{d:PyData},Fz K S H v d->Fz K S' H' v d)/\∀{vs:List V}{ds:List PyData},FzA K S H vs ds->FzA K S' H' vs ds:=
 Fz.ind .non .bl .int .str (λh t=>.lst (h.step k n) t) (λh t=>.tup (h.step k n) t) .nil (λr t=>.cons r t)
theorem Fz.step(k:Kp S H H')(n:∀b,S' b->S b\/H b=none){v:V}{d:PyData}(h:Fz K S H v d):Fz K S' H' v d:=(Fz.gk k n).1 h
theorem FzA.step(k:Kp S H H')(n:∀b,S' b->S b\/H b=none){vs:List V}{ds:List PyData}(h:FzA K S H vs ds):FzA K S' H' vs ds:=(Fz.gk k n).2 h
theorem Fz.dt_:(∀{v:V}{d:PyData},Fz K S H v d->Dt K H v d)/\∀{vs:List V}{ds:List PyData},FzA K S H vs ds->DtAll K H vs ds:=
 Fz.ind .non .bl .int .str (λh t=>.lst h.now t) (λh t=>.tup h.now t) .nil (λr t=>.cons r t)
theorem Fz.dt(h:Fz K S H v d):Dt K H v d:=Fz.dt_.1 h
theorem FzA.dt(h:FzA K S H vs ds):DtAll K H vs ds:=Fz.dt_.2 h
theorem Fz.of0(h:Dt K H v d):Fz K (λ_=>False) H v d:=
 Dt.rec .non .bl .int .str (λh _ t=>.lst (λa k=>k.keep.same.seq h) t) (λh _ t=>.tup (λa k=>k.keep.same.tupS h) t) .nil (λ_ _ r t=>.cons r t) h
theorem FzA.of0:∀{vs:List V}{ds:List PyData},DtAll K H vs ds->FzA K (λ_=>False) H vs ds:=by
 intro vs;induction vs with
 |nil=>intro ds h;cases h;exact .nil
 |cons v vs a=>intro ds h;cases h with|cons r t=>exact .cons (Fz.of0 r) (a t)
theorem Fz.sub(h:∀b,S' b->S b)(f:Fz K S H v d):Fz K S' H v d:=f.step (Kp.refl _ _) λb z=>.inl (h b z)
theorem FzA.sub(h:∀b,S' b->S b)(f:FzA K S H v d):FzA K S' H v d:=f.step (Kp.refl _ _) λb z=>.inl (h b z)
theorem FzA.length(h:FzA K S H vs ds):vs.length=ds.length:=by
 induction vs generalizing ds with
 |nil=>cases h;rfl
 |cons v vs a=>cases h with|cons _ t=>rw[aan,aan,a t]
theorem FzA.get{i:Nat}(h:FzA K S H vs ds)(e:ds[i]?=some d):∃v,vs[i]?=some v/\Fz K S H v d:=by
 induction vs generalizing ds i with
 |nil=>cases h;cases i<;>cases e
 |cons v vs a=>
  cases h with
  |cons r t=>
   cases i with
   |zero=>cases e;exact⟨_,rfl,r⟩
   |succ i=>exact a t e
theorem FzA.append(h:FzA K S H vs ds)(h':FzA K S H ws es):FzA K S H (vs++ws) (ds++es):=by
 induction vs generalizing ds with
 |nil=>cases h;exact h'
 |cons v vs a=>cases h with|cons r t=>exact .cons r (a t)
theorem FzA.take:∀(n:Nat) {vs:List V}{ds:List PyData},FzA K S H vs ds->FzA K S H (vs.take n) (ds.take n)
 |0,_,_,_=>.nil
 |_+1,_,_,.nil=>.nil
 |n+1,_,_,.cons r t=>.cons r (FzA.take n t)
theorem FzA.drop:∀(n:Nat) {vs:List V}{ds:List PyData},FzA K S H vs ds->FzA K S H (vs.drop n) (ds.drop n)
 |0,_,_,h=>h
 |_+1,_,_,.nil=>.nil
 |n+1,_,_,.cons _ t=>FzA.drop n t
theorem FzA.set(h:Fz K S H u d):∀(n:Nat) {vs:List V}{ds:List PyData},FzA K S H vs ds->FzA K S H (vs.set n u) (ds.set n d)
 |_,_,_,.nil=>.nil
 |0,_,_,.cons _ t=>.cons h t
 |n+1,_,_,.cons r t=>.cons r (FzA.set h n t)
theorem FzA.ints:∀(ns:List Int),FzA K S H (ns.map V.int) (ns.map PyData.int)
 |[]=>.nil
 |n::ns=>.cons (.int n) (FzA.ints ns)
theorem Fz.kl(h:Fz K S H v (.list ds)):∃a xs,v=.ref a/\Bx S (λH=>SqL K H a xs) H/\FzA K S H xs ds:=by
 cases h with|lst h t=>exact⟨_,_,rfl,h,t⟩
theorem Fz.nk(h:Fz K S H v (.tuple ds)):∃a xs,v=.ref a/\Bx S (λH=>SqT K H a xs) H/\FzA K S H xs ds:=by
 cases h with|tup h t=>exact⟨_,_,rfl,h,t⟩
theorem zu(h:H a=some (.lst xs))(n:¬ S a):Bx S (λH=>SqL K H a xs) H:=λ_ k=>SqL.of (k.k _ _ h n)
theorem rk(h:H a=some (.tup xs))(n:¬ S a):Bx S (λH=>SqT K H a xs) H:=λ_ k=>SqT.of (k.k _ _ h n)
end
inductive OD where
 |fz (d:PyData)|lst (xs:List OD)|tup (xs:List OD)|dic (ks:List Key) (xs:List OD)|obj (c:Str) (ns:List Str) (xs:List OD)|pin (l:Bool) (xs:List V) (ds:List PyData)|hole (v:V)|st (ns:List Int)
mutual
def OD.dat:OD->Option PyData
 |.fz d=>some d
 |.lst xs=>match OD.dv xs with|some ds=>some (.list ds)|none=>none
 |.tup xs=>match OD.dv xs with|some ds=>some (.tuple ds)|none=>none
 |.dic _ _=>none
 |.obj _ _ _=>none
 |.pin l _ ds=>some (if l then .list ds else .tuple ds)
 |.hole _=>none
 |.st _=>none
def OD.dv:List OD->Option (List PyData)
 |[]=>some []
 |x::xs=>match x.dat with
  |some d=>match OD.dv xs with|some ds=>some (d::ds)|none=>none
  |none=>none
end
def aI(K:Waa)(c:Str):Addr:=match PySem.W.nsIn K mainGlobals c with|some (some (.ref C))=>C|_=>0
structure Bs where
 K:Waa
 H0:Hp
 S0:Addr->Prop
 C:Addr->Prop
mutual
inductive Ow (b:Bs)(S:Addr->Prop)(H:Hp):V->OD->List Addr->Prop
 |fz {v d}:Fz b.K S H v d->Ow b S H v (.fz d) []
 |lst {a vs xs A}:H a=some (.lst vs)->Ows b S H vs xs A->Ow b S H (.ref a) (.lst xs) (a::A)
 |tup {a vs xs A}:H a=some (.tup vs)->Ows b S H vs xs A->Ow b S H (.ref a) (.tup xs) A
 |dic {a ws ks vs xs A}:H a=some (.dK ws)->ws.map (·.1)=ks->ws.map (·.2)=vs->Ows b S H vs xs A->Ow b S H (.ref a) (.dic ks xs) (a::A)
 |obj {a dx c fs ns vs xs A}:H a=some (.ins (aI b.K c) dx fs)->H dx=some (.own a)->fs.map (·.1)=ns->fs.map (·.2)=vs->Ows b S H vs xs A->Ow b S H (.ref a) (.obj c ns xs) (a::dx::A)
 |pinL {a xs ds}:Bx S (λH=>SqL b.K H a xs) H->FzA b.K S H xs ds->Ow b S H (.ref a) (.pin true xs ds) []
 |pinT {a xs ds}:Bx S (λH=>SqT b.K H a xs) H->FzA b.K S H xs ds->Ow b S H (.ref a) (.pin false xs ds) []
 |hole {v u}:v=u->Ow b S H v (.hole u) []
 |st {a ns M n}:H a=some (.set M n)->(∀k,M k=decide (k∈ns))->n<=ns.length->Ow b S H (.ref a) (.st ns) [a]
inductive Ows (b:Bs)(S:Addr->Prop)(H:Hp):List V->List OD->List Addr->Prop
 |nil:Ows b S H [] [] []
 |cons {v x A vs xs B}:Ow b S H v x A->Ows b S H vs xs B->Ows b S H (v::vs) (x::xs) (A++B)
end
abbrev OwL(b:Bs)(S:Addr->Prop)(H:Hp)(L:List (V×OD))(A:List Addr):Prop:=Ows b S H (L.map (·.1)) (L.map (·.2)) A
def MutO:HO->Prop
 |.lst _=>True|.dK _=>True|.ins _ _ _=>True|.own _=>True|.set _ _=>True
 |_=>False
theorem Ows.len(h:Ows b S H vs xs A):vs.length=xs.length:=by
 induction vs generalizing xs A with
 |nil=>cases h;rfl
 |cons v vs a=>cases h with|cons _ t=>rw[aan,aan,a t]
theorem Ow.ind{P:V->OD->List Addr->Prop}{Q:List V->List OD->List Addr->Prop}(y:∀{v d},Fz b.K S H v d->P v (.fz d) [])(p:∀{a vs xs A},H a=some (.lst vs)->Q vs xs A->P (.ref a) (.lst xs) (a::A))(r:∀{a vs xs A},H a=some (.tup vs)->Q vs xs A->P (.ref a) (.tup xs) A)
  (s:∀{a ws ks vs xs A},H a=some (.dK ws)->ws.map (·.1)=ks->ws.map (·.2)=vs->Q vs xs A->P (.ref a) (.dic ks xs) (a::A)) (q:∀{a dx c w ns vs xs A},H a=some (.ins (aI b.K c) dx w)->H dx=some (.own a)->w.map (·.1)=ns->w.map (·.2)=vs->Q vs xs A->P (.ref a) (.obj c ns xs) (a::dx::A))
  (f:∀{a xs ds},Bx S (λH=>SqL b.K H a xs) H->FzA b.K S H xs ds->P (.ref a) (.pin true xs ds) []) (g:∀{a xs ds},Bx S (λH=>SqT b.K H a xs) H->FzA b.K S H xs ds->P (.ref a) (.pin false xs ds) []) (l:∀{v u},v=u->P v (.hole u) []) (st:∀{a ns M n},H a=some (.set M n)->(∀k,M k=decide (k∈ns))->n<=ns.length->P (.ref a) (.st ns) [a])
  (nil:Q [] [] []) (cons:∀{v x A vs xs B},P v x A->Q vs xs B->Q (v::vs) (x::xs) (A++B)):(∀{v x A},Ow b S H v x A->P v x A)/\∀{vs xs A},Ows b S H vs xs A->Q vs xs A:=
 ⟨λh=>Ow.rec y (λe _ i=>p e i) (λe _ i=>r e i) (λe o m _ i=>s e o m i) (λe t o m _ i=>q e t o m i) f g l st nil (λ_ _ i j=>cons i j) h,
  λh=>Ows.rec y (λe _ i=>p e i) (λe _ i=>r e i) (λe o m _ i=>s e o m i) (λe t o m _ i=>q e t o m i) f g l st nil (λ_ _ i j=>cons i j) h⟩
theorem jW{P:Addr->Prop}(h:P a)(t:∀c∈A,P c):∀c∈a::A,P c:=λc b=>(aab.mp b).elim (λe=>e▸h) (t c)
theorem Ow.mu_:(∀{v:V}{x:OD}{A:List Addr},Ow b S H v x A->∀a∈A,∃o,H a=some o/\MutO o)/\∀{vs:List V}{xs:List OD}{A:List Addr},Ows b S H vs xs A->∀a∈A,∃o,H a=some o/\MutO o:=
 Ow.ind (λ_ _ h=>absurd h aav) (λe i=>jW ⟨_,e,trivial⟩ i) (λ_ i=>i) (λe _ _ i=>jW ⟨_,e,trivial⟩ i) (λe c _ _ i=>jW ⟨_,e,trivial⟩ (jW ⟨_,c,trivial⟩ i)) (λ_ _ _ h=>absurd h aav) (λ_ _ _ h=>absurd h aav) (λ_ _ h=>absurd h aav) (λe _ _=>jW ⟨_,e,trivial⟩ λ_ h=>absurd h aav) (λ_ h=>absurd h aav) (λi j a h=>(aai.mp h).elim (i a) (j a))
theorem Ow.mu(h:Ow b S H v x A):∀a∈A,∃o,H a=some o/\MutO o:=Ow.mu_.1 h
theorem Ows.mu(h:Ows b S H vs xs A):∀a∈A,∃o,H a=some o/\MutO o:=Ow.mu_.2 h
theorem Ows.ne(h:Ows b S H vs xs A):∀a∈A,H a≠none:=λa c e=>by obtain⟨o,q,_⟩:=h.mu a c;rw[q]at e;cases e
theorem Ow.ne(h:Ow b S H v x A):∀a∈A,H a≠none:=λa c e=>by obtain⟨o,q,_⟩:=h.mu a c;rw[q]at e;cases e
theorem Ows.tl(h:Ows b S H vs xs A):∀a∈A,∀ys,H a≠some (.tup ys):=λa c ys e=>by obtain⟨o,q,m⟩:=h.mu a c;rw[q]at e;cases e;exact m
theorem Ow.tl(h:Ow b S H v x A):∀a∈A,∀ys,H a≠some (.tup ys):=λa c ys e=>by obtain⟨o,q,m⟩:=h.mu a c;rw[q]at e;cases e;exact m
theorem Ow.gk(hK:b2.K=b.K)(k:Kp S H H')(n:∀b,S' b->S b\/H b=none)(o:∀a xs,H a=some (.tup xs)->¬ S a):(∀{v:V}{x:OD}{A:List Addr},Ow b S H v x A->(∀a∈A,H' a=H a)->Ow b2 S' H' v x A)/\∀{vs:List V}{xs:List OD}{A:List Addr},Ows b S H vs xs A->(∀a∈A,H' a=H a)->Ows b2 S' H' vs xs A:=
 Ow.ind (λf _=>.fz (hK▸f.step k n)) (λe i s=>.lst ((s _ aah).trans e) (i λa h=>s a (aaf _ h))) (λe i s=>.tup (k.k _ _ e (o _ _ e)) (i s)) (λe d c i s=>.dic ((s _ aah).trans e) d c (i λa h=>s a (aaf _ h)))
  (λe g d c i s=>.obj (hK▸(s _ aah).trans e) ((s _ (aaf _ aah)).trans g) d c (i λa h=>s a (aaf _ (aaf _ h)))) (λh t _=>.pinL (hK▸h.step k n) (hK▸t.step k n)) (λh t _=>.pinT (hK▸h.step k n) (hK▸t.step k n)) (λe _=>.hole e) (λe m l s=>.st ((s _ aah).trans e) m l) (λ_=>.nil) (λi j s=>.cons (i λa h=>s a (aad _ h)) (j λa h=>s a (aae _ h)))
theorem Ow.step(k:Kp S H H')(n:∀b,S' b->S b\/H b=none)(c:∀a xs,H a=some (.tup xs)->¬ S a){v:V}{x:OD}{A:List Addr}(s:∀a∈A,H' a=H a)(h:Ow b S H v x A):Ow b S' H' v x A:=(Ow.gk rfl k n c).1 h s
theorem Ows.step(k:Kp S H H')(n:∀b,S' b->S b\/H b=none)(c:∀a xs,H a=some (.tup xs)->¬ S a){vs:List V}{xs:List OD}{A:List Addr}(s:∀a∈A,H' a=H a)(h:Ows b S H vs xs A):Ows b S' H' vs xs A:=(Ow.gk rfl k n c).2 h s
theorem Ow.sub(d:∀a xs,H a=some (.tup xs)->¬ S a)(n:∀c,S' c->S c)(h:Ow b S H v x A):Ow b S' H v x A:=h.step (Kp.refl _ _) (λc z=>.inl (n c z)) d (λ_ _=>rfl)
theorem Ows.sub(d:∀a xs,H a=some (.tup xs)->¬ S a)(n:∀c,S' c->S c)(h:Ows b S H v x A):Ows b S' H v x A:=h.step (Kp.refl _ _) (λc z=>.inl (n c z)) d (λ_ _=>rfl)
theorem Ows.subB(hK:b2.K=b.K)(d:∀a xs,H a=some (.tup xs)->¬ S a)(n:∀c,S' c->S c)(h:Ows b S H v x A):Ows b2 S' H v x A:=(Ow.gk hK (Kp.refl _ _) (λc z=>.inl (n c z)) d).2 h λ_ _=>rfl
theorem vo(h:(OD.lst xs).dat=some d):∃ds,OD.dv xs=some ds/\d=.list ds:=by
 rw[OD.dat]at h;cases z:OD.dv xs with
 |none=>rw[z]at h;cases h
 |some ds=>rw[z]at h;cases h;exact⟨ds,rfl,rfl⟩
theorem vp(h:(OD.tup xs).dat=some d):∃ds,OD.dv xs=some ds/\d=.tuple ds:=by
 rw[OD.dat]at h;cases z:OD.dv xs with
 |none=>rw[z]at h;cases h
 |some ds=>rw[z]at h;cases h;exact⟨ds,rfl,rfl⟩
theorem pw(h:OD.dv (x::xs)=some es):∃d ds,x.dat=some d/\OD.dv xs=some ds/\es=d::ds:=by
 rw[OD.dv]at h;cases z:x.dat with
 |none=>rw[z]at h;cases h
 |some d=>
  cases a:OD.dv xs with
  |none=>rw[z,a]at h;cases h
  |some ds=>rw[z,a]at h;cases h;exact⟨d,ds,rfl,rfl,rfl⟩
theorem Ow.xc(k:∀a,S' a->S a)(nt:∀a xs,H a=some (.tup xs)->¬ S a):(∀{v:V}{x:OD}{A:List Addr},Ow b S H v x A->∀d:PyData,(∀a∈A,¬ S' a)->x.dat=some d->Fz b.K S' H v d)/\∀{vs:List V}{xs:List OD}{A:List Addr},Ows b S H vs xs A->∀ds:List PyData,(∀a∈A,¬ S' a)->OD.dv xs=some ds->FzA b.K S' H vs ds:=by
 refine Ow.ind (P:=λv x A=>∀d:PyData,(∀a∈A,¬ S' a)->x.dat=some d->Fz b.K S' H v d) (Q:=λvs xs A=>∀ds:List PyData,(∀a∈A,¬ S' a)->OD.dv xs=some ds->FzA b.K S' H vs ds) ?_ ?_ ?_ (λ_ _ _ _ _ _ q=>?_) (λ_ _ _ _ _ _ _ q=>?_) ?_ ?_ (λ_ _ _ q=>?_) (λ_ _ _ _ _ q=>?_) ?_ ?_
 ·intro v d f n _ q;cases q;exact f.sub k
 ·intro a vs xs A e i d g q;obtain⟨ds,z,rfl⟩:=vo q;exact .lst (zu e (g _ aah)) (i ds (λa h=>g a (aaf _ h)) z)
 ·intro a vs xs A e i d g q;obtain⟨ds,z,rfl⟩:=vp q;exact .tup (rk e λy=>nt _ _ e (k _ y)) (i ds g z)
 ·cases q
 ·cases q
 ·intro a xs ds h t d _ q;cases q;exact .lst (h.step (Kp.refl _ _) λc z=>.inl (k c z)) (t.sub k)
 ·intro a xs ds h t d _ q;cases q;exact .tup (h.step (Kp.refl _ _) λc z=>.inl (k c z)) (t.sub k)
 ·cases q
 ·cases q
 ·intro ds _ q;cases q;exact .nil
 ·intro v x A vs xs B i j o g q;obtain⟨d,ds,l,m,rfl⟩:=pw q;exact .cons (i d (λa h=>g a (aad _ h)) l) (j ds (λa h=>g a (aae _ h)) m)
theorem Ow.frz(e:∀a,S' a->S a)(nt:∀a xs,H a=some (.tup xs)->¬ S a)(c:∀a∈A,¬ S' a)(h:Ow b S H v x A)(q:x.dat=some d):Fz b.K S' H v d:=(Ow.xc e nt).1 h d c q
theorem Ows.frz(d:∀a,S' a->S a)(nt:∀a xs,H a=some (.tup xs)->¬ S a)(c:∀a∈A,¬ S' a)(h:Ows b S H vs xs A)(q:OD.dv xs=some ds):FzA b.K S' H vs ds:=(Ow.xc d nt).2 h ds c q
theorem Ows.append(h:Ows b S H vs xs A)(h':Ows b S H us ys B):Ows b S H (vs++us) (xs++ys) (A++B):=by
 induction vs generalizing xs A with
 |nil=>cases h;exact h'
 |cons v vs a=>cases h with|cons r t=>rw[aac];exact .cons r (a t)
theorem Ows.split(e:vs.length=xs.length)(h:Ows b S H (vs++us) (xs++ys) A):∃c a,A=c++a/\Ows b S H vs xs c/\Ows b S H us ys a:=by
 induction vs generalizing xs A with
 |nil=>
  cases xs with
  |nil=>exact⟨[],A,rfl,.nil,h⟩
  |cons _ _=>cases e
 |cons v vs g=>
  cases xs with
  |nil=>cases e
  |cons x xs=>
   cases h with
   |cons r t=>obtain⟨c,a,rfl,f,d⟩:=g (Nat.succ.inj e) t;exact⟨_,a,(aac ..).symm,.cons r f,d⟩
theorem OwL.fi(h:OwL b S H (L1++L2) A):∃a c,A=a++c/\OwL b S H L1 a/\OwL b S H L2 c:=by unfold OwL at h;rw[aaC,aaC]at h;exact Ows.split (by simp) h
theorem OwL.g6(c:OwL b S H L1 A1)(a:OwL b S H L2 A2):OwL b S H (L1++L2) (A1++A2):=by unfold OwL;rw[aaC,aaC];exact Ows.append c a
theorem OwL.perm(p:L.Perm L'):∀{A:List Addr},OwL b S H L A->∃e,OwL b S H L' e/\A.Perm e:=by
 induction p with
 |nil=>intro A h;exact⟨A,h,.refl _⟩
 |cons x _ m=>
  intro A h;cases h with
  |cons r t=>obtain⟨B,a,q⟩:=m t;exact⟨_,.cons r a,q.append_left _⟩
 |swap x y l=>
  intro A h;cases h with
  |cons r t=>
   cases t with
   |cons g j=>refine⟨_,.cons g (.cons r j),?_⟩;rw[<-aac,<-aac];exact aaS.append_right _
 |trans _ _ c d=>intro A h;obtain⟨B,i,k⟩:=c h;obtain⟨C,a,f⟩:=d i;exact⟨C,a,k.trans f⟩
theorem OwL.mem:∀{A:List Addr},OwL b S H L A->∀{x:V×OD},x∈L->∃B,Ow b S H x.1 x.2 B:=by
 induction L with
 |nil=>intro A h x a;cases a
 |cons y L c=>
  intro A h x a;cases h with
  |cons r t=>
   rcases aab.mp a with rfl|a
   ·exact⟨_,r⟩
   ·exact c t a
theorem Ows.zip(h:Ows b S H vs xs A)(e:xs[k]?=some x):∃v i B c,vs[k]?=some v/\A=i++(B++c)/\Ow b S H v x B /\
  ∀{f:Addr->Prop}{d:Hp}{u:V}{y:OD}{j:List Addr},Ow b f d u y j->(∀{v:V}{x:OD}{C:List Addr},(∀a∈C,a∈i\/a∈c)->Ow b S H v x C->Ow b f d v x C)->Ows b f d (vs.set k u) (xs.set k y) (i++(j++c)):=by
 induction vs generalizing xs A k with
 |nil=>cases h;cases k<;>cases e
 |cons v vs l=>
  cases h with
  |@cons _ x0 A _ xs B r t=>
   cases k with
   |zero=>
    cases e;refine⟨v,[],A,B,rfl,rfl,r,λ{f d u y j} h g=>Ows.cons (B:=B) h ?_⟩;have p:∀{vs:List V}{xs:List OD}{D:List Addr},(∀a∈D,a∈B)->Ows b S H vs xs D->Ows b f d vs xs D:=λ{vs xs D} s h=>by
     induction xs generalizing vs D with
     |nil=>cases h;exact .nil
     |cons x xs l=>cases h with|cons r t=>exact .cons (g (λa h=>.inr (s a (aad _ h))) r) (l (λa h=>s a (aae _ h)) t)
    exact p (λa h=>h) t
   |succ k=>obtain⟨w,i,o,c,n,m,q,F⟩:=l t e;subst m;refine⟨w,A++i,o,c,n,(aac ..).symm,q,λh g=>?_⟩;rw[aaE,aaE,aac];exact .cons (g (λa h=>.inl (aad _ h)) r) (F h λs h=>g (λa z=>(s a z).imp (aae _) id) h)
end
section
structure Wd (b:Bs)(H:Hp)(L:List (V×OD)):Prop where
 out:∃A,OwL b (λa=>a∈A\/b.S0 a) H L A/\A.Nodup/\∀a∈A,b.H0 a=none\/b.C a
 fr:Kp b.C b.H0 H
 s0:∀a,b.S0 a->b.H0 a≠none/\¬ b.C a
 nt:∀a xs,H a=some (.tup xs)->¬ b.S0 a
theorem Wd.kg(w:Wd b H L)(h:OwL b (λa=>a∈A\/b.S0 a) H L A):∀a xs,H a=some (.tup xs)->¬ (a∈A\/b.S0 a):=λa xs e z=>z.elim (λz=>Ows.tl h a z xs e) (w.nt a xs e)
theorem Wd.al(w:Wd b H L)(h:OwL b (λa=>a∈A\/b.S0 a) H L A)(e:H a=none):¬ (a∈A\/b.S0 a):=λz=>z.elim (λz=>Ows.ne h a z e) λz=>(w.s0 a z).1 (w.fr.n a e)
theorem Wd.dj(w:Wd b H L){A:List Addr}(c:∀a∈A,b.H0 a=none\/b.C a):∀a∈A,¬ b.S0 a:=λa d z=>(c a d).elim (w.s0 a z).1 (w.s0 a z).2
theorem Wd.perm(w:Wd b H L)(q:L.Perm L'):Wd b H L':=by obtain⟨A,h,j,e⟩:=w.out;obtain⟨f,g,d⟩:=OwL.perm q h;refine⟨⟨f,Ows.step (Kp.refl _ _) (λc z=>.inl (z.imp (d.mem_iff.mpr) id)) (w.kg h) (λ_ _=>rfl) g,d.nodup_iff.mp j,λa i=>e a (d.mem_iff.mpr i)⟩,w.fr,w.s0,w.nt⟩
theorem Wd.drop(w:Wd b H ((v,x)::L)):Wd b H L:=by
 obtain⟨A,h,g,d⟩:=w.out;have e:=w.kg h;cases h with
 |@cons _ _ A _ _ B r t=>exact⟨⟨B,Ows.step (Kp.refl _ _) (λc z=>.inl (z.imp (aae _) id)) e (λ_ _=>rfl) t,(aaA.mp g).2.1,λa f=>d a (aae _ f)⟩,w.fr,w.s0,w.nt⟩
theorem Wd.drops(w:Wd b H (L1++L2)):Wd b H L2:=by
 induction L1 with
 |nil=>exact w
 |cons z L1 a=>exact a (Wd.drop w)
theorem Wd.puts(w:Wd b H (L1++L))(h:∀(S:Addr->Prop) (A:List Addr),OwL b S H L1 A->A.Nodup->(∀a∈A,S a)->(∀a,H a=none->¬ S a)->(∀a xs,H a=some (.tup xs)->¬ S a) ->
  ∃d,OwL b (λa=>(S a/\a ∉ A)\/a∈d) H L2 d/\d.Nodup/\∀a∈d,a∈A):Wd b H (L2++L):=by
 obtain⟨C,m,u,f⟩:=w.out;have i:=w.kg m;have p:=λ{a}=>w.al m (a:=a);have v:=w.dj f;obtain⟨A,B,rfl,r,t⟩:=OwL.fi m;obtain⟨x,s,o⟩:=aaA.mp u;obtain⟨d,q,y,k⟩:=h _ A r x (λa z=>.inl (aad _ z)) (λa e=>p e) i;have g:∀c,(c∈d++B\/b.S0 c)->(c∈A++B\/b.S0 c):=λc z=>z.imp (λz=>(aai.mp z).elim (λz=>aad _ (k c z)) (aae _)) id;refine⟨⟨d++B,OwL.g6 (Ows.step (Kp.refl _ _) (λc z=>.inl ?_) (λa xs e z=>?_) (λ_ _=>rfl) q) (Ows.step (Kp.refl _ _) (λc z=>.inl (g c z)) i (λ_ _=>rfl) t),aaA.mpr ⟨y,s,λa l c j=>o a (k a l) c j⟩,λa l=>?_⟩,w.fr,w.s0,w.nt⟩
 ·by_cases j:c∈d
  ·exact .inr j
  ·refine .inl ⟨g c z,λn=>?_⟩;rcases z with z|z
   ·rcases aai.mp z with z|z
    ·exact j z
    ·exact o c n c z rfl
   ·exact v c (aad _ n) z
 ·rcases z with z|z
  ·exact i a xs e z.1
  ·exact i a xs e (.inl (aad _ (k a z)))
 ·rcases aai.mp l with z|z
  ·exact f a (aad _ (k a z))
  ·exact f a (aae _ z)
theorem OwL.one(h:OwL b S H [(v,x)] A):Ow b S H v x A:=by
 cases h with
 |cons r t=>cases t;rw[aaq];exact r
theorem OwL.of1(h:Ow b S H v x A):OwL b S H [(v,x)] A:=by have:=Ows.cons h (Ows.nil );rw[aaq]at this;exact this
theorem Wd.frz(w:Wd b H ((v,x)::L))(e:x.dat=some d):Wd b H ((v,.fz d)::L):=by
 refine Wd.puts (L1:=[(v,x)]) w λS A h j i g c=>⟨[],OwL.of1 (.fz ?_),aaX,λa z=>by cases z⟩
 exact Ow.frz (λa z=>z.elim (·.1) (λz=>by cases z)) c (λa f z=>z.elim (λz=>z.2 f) (λz=>by cases z)) h.one e
theorem Wd.dt(w:Wd b H ((v,x)::L))(e:x.dat=some d):Dt b.K H v d:=by obtain⟨A,c,g,f⟩:=w.out;obtain⟨B,h⟩:=OwL.mem c (x:=(v,x)) (by simp);exact(Ow.frz (λa z=>z.elim) (w.kg c) (λa _ z=>z) h e).dt
theorem Wd.r8(w:Wd b H L)(m:(v,x)∈L)(e:x.dat=some d):Dt b.K H v d:=by obtain⟨A,c,g,f⟩:=w.out;obtain⟨B,h⟩:=OwL.mem c m;exact(Ow.frz (λa z=>z.elim) (w.kg c) (λa _ z=>z) h e).dt
def FrzIn(b:Bs)(S:Addr->Prop)(H:Hp)(L:List (V×OD)):Prop:=∀u e,(u,OD.fz e)∈L->Fz b.K S H u e
theorem OwL.qd(h:OwL b S H L A):FrzIn b S H L:=λu e m=>by obtain⟨B,q⟩:=OwL.mem h m;cases q with|fz f=>exact f
theorem FrzIn.all(h:FrzIn b S H L):∀{vs:List V}{ds:List PyData},vs.length=ds.length->(∀z∈vs.zip (ds.map OD.fz),z∈L)->FzA b.K S H vs ds
 |[],[],_,_=>.nil
 |v::vs,d::ds,e,m=>.cons (h v d (m _ (by simp))) (FrzIn.all h (by simpa using e) λz a=>m z (by simp[a]))
theorem Wd.add(w:Wd b H L)(h:∀S:Addr->Prop,(∀(x:V×OD),x∈L->∃A,Ow b S H x.1 x.2 A)->(∀a,H a=none->¬ S a)->(∀a xs,H a=some (.tup xs)->¬ S a)->Fz b.K S H v d):Wd b H ((v,.fz d)::L):=by obtain⟨A,c,i,f⟩:=w.out;exact⟨⟨A,Ows.cons (.fz (h _ (λx g=>OwL.mem c g) (λa e=>w.al c e) (w.kg c))) c,i,f⟩,w.fr,w.s0,w.nt⟩
theorem Wd.z4(w:Wd b H L)(h:∀S:Addr->Prop,(∀(x:V×OD),x∈L->∃A,Ow b S H x.1 x.2 A)->FzA b.K S H vs ds):Wd b H (vs.zip (ds.map OD.fz)++L):=by
 obtain⟨A,d,g,c⟩:=w.out;have q:∀{vs:List V}{ds:List PyData},FzA b.K (λa=>a∈A\/b.S0 a) H vs ds->OwL b (λa=>a∈A\/b.S0 a) H (vs.zip (ds.map OD.fz)) []:=by
  intro vs;induction vs with
  |nil=>intro ds h;cases h;exact .nil
  |cons v vs e=>intro ds h;cases h with|cons r t=>exact Ows.cons (.fz r) (e t)
 exact⟨⟨A,OwL.g6 (q (h _ λx f=>OwL.mem d f)) d,g,c⟩,w.fr,w.s0,w.nt⟩
theorem Wd.dup(w:Wd b H ((v,.fz d)::L)):Wd b H ((v,.fz d)::(v,.fz d)::L):=w.add λS h _ _=>by obtain⟨A,q⟩:=h (v,.fz d) (by simp);cases q with|fz f=>exact f
inductive Sc:V->PyData->Prop
 |non:Sc .non .none
 |bl (b:Bool):Sc (.bl b) (.bool b)
 |int (i:Int):Sc (.int i) (.int i)
 |str (x:Str):Sc (.str x) (.str x)
theorem Sc.fz{K:Waa}(h:Sc v d):Fz K S H v d:=by cases h<;>constructor
theorem Wd.sc(w:Wd b H L)(h:Sc v d):Wd b H ((v,.fz d)::L):=w.add λS _ _ _=>h.fz
theorem Wd.new(w:Wd b H L)(d:H p=none):Wd b (upd H p o) L:=by
 obtain⟨A,h,k,f⟩:=w.out;have g:=w.al h d;refine⟨⟨A,Ows.step (Kp.put (.inr d)) (λc z=>.inl z) (w.kg h) (λa j=>upd_ne λe=>g (.inl (e▸j))) h,k,f⟩,w.fr.trans (Kp.put (.inr d)),w.s0,λa i e z=>?_⟩;by_cases q:a=p
 ·subst q;exact g (.inr z)
 ·rw[upd_ne q]at e;exact w.nt a i e z
theorem Wd.n7(w:Wd b H L)(a:H p=none):b.H0 p=none:=w.fr.n p a
theorem iZ:∀{vs:List V}{xs:List OD},vs.length=xs.length->(vs.zip xs).map (·.1)=vs
 |[],[],_=>rfl
 |_::_,_::_,e=>by rw[abo,aaj,iZ (by simpa using e)]
 |[],_::_,e=>by simp at e
 |_::_,[],e=>by simp at e
theorem i3:∀{vs:List V}{xs:List OD},vs.length=xs.length->(vs.zip xs).map (·.2)=xs
 |[],[],_=>rfl
 |_::_,_::_,e=>by rw[abo,aaj,i3 (by simpa using e)]
 |[],_::_,e=>by simp at e
 |_::_,[],e=>by simp at e
theorem OwL.q5(e:vs.length=xs.length)(h:OwL b S H (vs.zip xs) A):Ows b S H vs xs A:=by unfold OwL at h;rw[iZ e,i3 e]at h;exact h
theorem OwL.h9(h:Ows b S H vs xs A):OwL b S H (vs.zip xs) A:=by unfold OwL;rw[iZ h.len,i3 h.len];exact h
theorem Wd.dw(w:Wd b H L)(h:∀S,FrzIn b S H L->FzA b.K S H vs ds)(d:H p=none):Wd b (upd H p (.tup vs)) ((.ref p,.fz (.tuple ds))::L):=by obtain⟨A,f,m,g⟩:=w.out;have j:=w.al f d;have k:=h _ (OwL.qd f);have i:=w.new d (o:=.tup vs);refine⟨⟨A,Ows.cons (.fz (.tup (rk aq j) (k.step (Kp.put (.inr d)) λc z=>.inl z))) (Ows.step (Kp.put (.inr d)) (λc z=>.inl z) (w.kg f) (λa l=>upd_ne λe=>j (.inl (e▸l))) f),m,g⟩,i.fr,i.s0,i.nt⟩
theorem Wd.rx(w:Wd b H (vs.zip xs++L))(e:vs.length=xs.length)(f:H p=none):Wd b (upd H p (.tup vs)) ((.ref p,.tup xs)::L):=by obtain⟨A,i,r,g⟩:=w.out;have m:=w.al i f;have j:=w.kg i;have h:=w.new f (o:=.tup vs);have k:∀a∈A,upd H p (.tup vs) a=H a:=λa d=>upd_ne λe=>m (.inl (e▸d));obtain⟨s,n,rfl,q,l⟩:=OwL.fi i;refine⟨⟨s++n,Ows.cons (.tup aq (Ows.step (Kp.put (.inr f)) (λc z=>.inl z) j (λa d=>k a (aad _ d)) (OwL.q5 e q))) (Ows.step (Kp.put (.inr f)) (λc z=>.inl z) j (λa d=>k a (aae _ d)) l),r,g⟩,h.fr,h.s0,h.nt⟩
theorem Wd.ej(w:Wd b H (vs.zip xs++L))(e:vs.length=xs.length)(f:H p=none):Wd b (upd H p (.lst vs)) ((.ref p,.lst xs)::L):=by
 obtain⟨A,j,t,h⟩:=w.out;have m:=w.al j f;have l:=w.kg j;have i:=w.new f (o:=.lst vs);have q:∀a∈A,upd H p (.lst vs) a=H a:=λa d=>upd_ne λe=>m (.inl (e▸d));obtain⟨k,g,rfl,s,r⟩:=OwL.fi j;have n:∀c,(c∈p::(k++g)\/b.S0 c)->(c∈k++g\/b.S0 c)\/H c=none:=λc z=>by
  rcases z with z|z
  ·rcases aab.mp z with rfl|z
   ·exact .inr f
   ·exact .inl (.inl z)
  ·exact .inl (.inr z)
 refine⟨⟨p::(k++g),Ows.cons (.lst aq (Ows.step (Kp.put (.inr f)) n l (λa d=>q a (aad _ d)) (OwL.q5 e s))) (Ows.step (Kp.put (.inr f)) n l (λa d=>q a (aae _ d)) r),aay.mpr ⟨λz=>m (.inl z),t⟩,λa d=>?_⟩,i.fr,i.s0,i.nt⟩;rcases aab.mp d with rfl|d
 ·exact .inl (w.n7 f)
 ·exact h a d
theorem Wd.u3(w:Wd b H L)(d:H p=none):Wd b (upd H p (.dK [])) ((.ref p,.dic [] [])::L):=by
 obtain⟨A,i,l,g⟩:=w.out;have j:=w.al i d;have k:=w.kg i;have h:=w.new d (o:=.dK []);have n:∀c,(c∈p::A\/b.S0 c)->(c∈A\/b.S0 c)\/H c=none:=λc z=>by
  rcases z with z|z
  ·rcases aab.mp z with rfl|z
   ·exact .inr d
   ·exact .inl (.inl z)
  ·exact .inl (.inr z)
 refine⟨⟨p::A,Ows.cons (A:=[p]) (.dic aq rfl rfl .nil) (Ows.step (Kp.put (.inr d)) n k (λa f=>upd_ne λe=>j (.inl (e▸f))) i),aay.mpr ⟨λz=>j (.inl z),l⟩,λa f=>?_⟩,h.fr,h.s0,h.nt⟩;rcases aab.mp f with rfl|f
 ·exact .inl (w.n7 d)
 ·exact g a f
def OD.kids:OD->List OD
 |.lst xs=>xs|.tup xs=>xs|.dic _ xs=>xs|.obj _ _ xs=>xs
 |_=>[]
def OD.eg(k:Nat)(y:OD):OD->OD
 |.lst xs=>.lst (xs.set k y)|.tup xs=>.tup (xs.set k y)|.dic ks xs=>.dic ks (xs.set k y)|.obj c ns xs=>.obj c ns (xs.set k y)
 |x=>x
def OD.at:List Nat->OD->Option OD
 |[],x=>some x
 |k::ks,x=>match x.kids[k]? with|some z=>OD.at ks z|none=>none
def OD.put(y:OD):List Nat->OD->OD
 |[],_=>y
 |k::ks,x=>match x.kids[k]? with|some z=>OD.eg k (OD.put y ks z) x|none=>x
inductive Chd (b:Bs)(H:Hp):V->OD->Nat->V->OD->Prop
 |lst {a vs xs k w z}:H a=some (.lst vs)->vs.length=xs.length->vs[k]?=some w->xs[k]?=some z->Chd b H (.ref a) (.lst xs) k w z
 |tup {a vs xs k w z}:H a=some (.tup vs)->vs.length=xs.length->vs[k]?=some w->xs[k]?=some z->Chd b H (.ref a) (.tup xs) k w z
 |dic {a ws ks xs k w z}:H a=some (.dK ws)->ws.map (·.1)=ks->ws.length=xs.length->(ws[k]?).map (·.2)=some w->xs[k]?=some z->Chd b H (.ref a) (.dic ks xs) k w z
 |obj {a dx c fs ns xs k w z}:H a=some (.ins (aI b.K c) dx fs)->fs.map (·.1)=ns->fs.length=xs.length->(fs[k]?).map (·.2)=some w->xs[k]?=some z->Chd b H (.ref a) (.obj c ns xs) k w z
inductive Chn (b:Bs)(H:Hp):V->OD->List Nat->V->OD->Prop
 |nil {v x}:Chn b H v x [] v x
 |cons {v x k w z ks u y}:Chd b H v x k w z->Chn b H w z ks u y->Chn b H v x (k::ks) u y
theorem bu{c:Type}(b B a:List c):(b++(B++a)).Perm (B++(b++a)):=by rw[<-aac,<-aac];exact aaS.append_right _
theorem bD{a:Type}:∀{l:List a}{i:Nat}{x:a},l[i]?=some x->l.set i x=l
 |[],_,_,e=>by simp at e
 |_::_,0,_,e=>by simp at e;subst e;rfl
 |y::l,i+1,x,e=>by rw[aaE,bD (by simpa using e)]
theorem Ow.wh(h:Ow b S H v x A)(e:x.kids[k]?=some z):∃w B y,Chd b H v x k w z/\Ow b S H w z B/\A.Perm (B++y) /\
  ∀{p:Addr->Prop}{j:Hp}{r:OD}{i:List Addr},Kp S H j->(∀c,p c->S c\/H c=none)->(∀a xs,H a=some (.tup xs)->¬ S a)->(∀a∈y,j a=H a)->Ow b p j w r i->∃u,Ow b p j v (OD.eg k r x) u/\u.Perm (i++y):=by
 cases h with
 |fz _=>cases k<;>cases e
 |pinL _ _=>cases k<;>cases e
 |pinT _ _=>cases k<;>cases e
 |hole _=>cases k<;>cases e
 |st _ _ _=>cases k<;>cases e
 |@lst a vs xs A e1 t=>obtain⟨w,f,B,d,g,rfl,o,q⟩:=t.zip e;refine⟨w,B,a::(f++d),.lst e1 t.len g e,o,((bu f B d).cons a).trans aar.symm,λ{p j r i} k n hs s h=>?_⟩;have:=q h λl h=>Ow.step k n hs (λa m=>s a (aaf _ (aai.mpr (l a m)))) h;rw[bD g]at this;exact⟨_,.lst ((s a aah).trans e1) this,((bu f i d).cons a).trans aar.symm⟩
 |@tup a vs xs A e1 t=>obtain⟨w,f,B,d,g,rfl,o,q⟩:=t.zip e;refine⟨w,B,f++d,.tup e1 t.len g e,o,bu f B d,λ{p j r i} k n hs s h=>?_⟩;have:=q h λl h=>Ow.step k n hs (λa m=>s a (aai.mpr (l a m))) h;rw[bD g]at this;exact⟨_,.tup (k.k _ _ e1 (hs _ _ e1)) this,bu f i d⟩
 |@dic a ws ks vs xs A e1 h5 h6 t=>obtain⟨w,f,B,d,g,rfl,o,q⟩:=t.zip e;refine⟨w,B,a::(f++d),.dic e1 h5 (by rw[<-t.len,<-h6,aaa]) (by rw[<-h6]at g;simpa using g) e,o,((bu f B d).cons a).trans aar.symm,λ{p j r i} k n hs s h=>?_⟩;have:=q h λl h=>Ow.step k n hs (λa m=>s a (aaf _ (aai.mpr (l a m)))) h;rw[bD g]at this;exact⟨_,.dic ((s a aah).trans e1) h5 h6 this,((bu f i d).cons a).trans aar.symm⟩
 |@obj a dx c fs ns vs xs A e1 e2 h5 h6 t=>
  obtain⟨w,f,B,d,g,rfl,o,q⟩:=t.zip e;have C:∀B:List Addr,(a::dx::(f++(B++d))).Perm (B++(a::dx::(f++d))):=λB=>by refine(((bu f B d).cons dx).cons a).trans ?_;exact((aar ).symm.cons a).trans aar.symm
  refine⟨w,B,a::dx::(f++d),.obj e1 h5 (by rw[<-t.len,<-h6,aaa]) (by rw[<-h6]at g;simpa using g) e,o,C B,λ{p j r i} k n hs s h=>?_⟩;have:=q h λl h=>Ow.step k n hs (λa m=>s a (aaf _ (aaf _ (aai.mpr (l a m))))) h;rw[bD g]at this;exact⟨_,.obj ((s a aah).trans e1) ((s dx (aaf _ aah)).trans e2) h5 h6 this,C i⟩
theorem Ow.path:∀{ks:List Nat}{v:V}{x:OD}{A:List Addr}{y:OD},Ow b S H v x A->x.at ks=some y->∃u B j,Chn b H v x ks u y/\Ow b S H u y B/\A.Perm (B++j) /\
  ∀{i:Addr->Prop}{d:Hp}{y':OD}{f:List Addr},Kp S H d->(∀c,i c->S c\/H c=none)->(∀a xs,H a=some (.tup xs)->¬ S a)->(∀a∈j,d a=H a)->Ow b i d u y' f->∃g,Ow b i d v (OD.put y' ks x) g/\g.Perm (f++j)
 |[],v,x,A,y,h,e=>by simp only[OD.at]at e;cases e;exact⟨v,A,[],.nil,h,by simp,λ{i d y' f} _ _ _ _ h=>⟨f,h,by simp⟩⟩
 |k::ks,v,x,A,y,h,e=>by
  simp only[OD.at]at e;cases l:x.kids[k]? with
  |none=>rw[l]at e;cases e
  |some z=>rw[l]at e;simp only at e;obtain⟨w,B,j,I,C,L,J⟩:=h.wh l;obtain⟨u,q,t,G,o,p,D⟩:=Ow.path C e;refine⟨u,q,t++j,.cons I G,o,L.trans (by rw[<-aac];exact p.append_right _),λ{i d y' f} k' n hs s h=>?_⟩;obtain⟨P,M,F⟩:=D k' n hs (λa m=>s a (aad _ m)) h;obtain⟨N,O,r⟩:=J k' n hs (λa m=>s a (aae _ m)) M;refine⟨N,?_,r.trans (by rw[<-aac];exact F.append_right _)⟩;simp only[OD.put,l];exact O
end
section
theorem Wd.ri(w:Wd b H (us.zip zs++((v,x)::L)))(el:us.length=zs.length)(e:x.at ks=some y):∃(S:Addr->Prop) (u:V) (B C:List Addr),Chn b H v x ks u y/\Ow b S H u y B/\Ows b S H us zs C/\(B++C).Nodup/\(∀c∈B,S c)/\(∀c,H c=none->¬ S c)/\(∀c xs,H c=some (.tup xs)->¬ S c)/\FrzIn b S H L /\
  ∀{p:Hp}{y':OD}{D:List Addr},(∀c,c ∉ B->p c=H c)->(∀c∈B,∃o,p c=some o/\MutO o)->D.Nodup->(∀c∈D,c∈B\/c∈C)->(∀U:Addr->Prop,(∀c,U c->S c)->(∀c∈B,U c->c∈D)->Ow b U p u y' D)->Wd b p ((v,OD.put y' ks x)::L):=by
 obtain⟨A0,W,nd,s⟩:=w.out;have M:=w.kg W;have al:=λ{a}=>w.al W (a:=a);obtain⟨C,A1,rfl,hz,h1⟩:=OwL.fi W;cases h1 with
 |@cons _ _ A _ _ E r t=>
  obtain⟨u,B,I,ch,hy,Z,go⟩:=Ow.path r e;obtain⟨nC,Q,l⟩:=aaA.mp nd;obtain⟨nA,nE,j⟩:=aaA.mp Q;have P:=Z.nodup_iff.mp nA;obtain⟨nB,N,m⟩:=aaA.mp P;have d:∀c,c∈A ↔ c∈B\/c∈I:=λc=>by rw[Z.mem_iff,aai]
  refine⟨_,u,B,C,ch,hy,OwL.q5 el hz,aaA.mpr ⟨nB,nC,λc g F h e=>l F h c (aad _ ((d c).mpr (.inl g))) e.symm⟩,λc g=>.inl (aae _ (aad _ ((d c).mpr (.inl g)))),λc e=>al e,M,OwL.qd t,λ{p y' D} hk hm nD sD hO=>?_⟩;have X:Kp (λc=>c∈C++(A++E)\/b.S0 c) H p:=⟨λc o e n=>by
    rw[hk c λz=>n (.inl (aae _ (aad _ ((d c).mpr (.inl z)))))];exact e,λc e=>by
    by_cases z:c∈B
    ·obtain⟨o,q,_⟩:=hm c z;rw[q]at e;cases e
    ·rw[hk c z]at e;exact e⟩
  have i:∀c,(c∈(D++I)++E\/b.S0 c)->(c∈C++(A++E)\/b.S0 c):=λc z=>z.imp (λz=>by
   rcases aai.mp z with z|z
   ·rcases aai.mp z with z|z
    ·rcases sD c z with z|z
     ·exact aae _ (aad _ ((d c).mpr (.inl z)))
     ·exact aad _ z
    ·exact aae _ (aad _ ((d c).mpr (.inr z)))
   ·exact aae _ (aae _ z)) id
  obtain⟨G,hx,Y⟩:=go X (λc z=>.inl (i c z)) M (λc g=>hk c λz=>m c z c g rfl) (hO _ i λc g z=>by
   rcases z with z|z
   ·rcases aai.mp z with z|z
    ·rcases aai.mp z with z|z
     ·exact z
     ·exact absurd rfl (m c g c z)
    ·exact absurd rfl (j c ((d c).mpr (.inl g)) c z)
   ·exact absurd z (w.dj s c (aae _ (aad _ ((d c).mpr (.inl g))))))
  have f:∀c,c∈G ↔ c∈D++I:=λc=>Y.mem_iff;have J:∀c xs,p c=some (.tup xs)->¬ (c∈(D++I)++E\/b.S0 c):=λc xs e z=>by
   by_cases q:c∈B
   ·obtain⟨o,q1,q2⟩:=hm c q;rw[q1]at e;cases e;exact q2
   ·rw[hk c q]at e;exact M c xs e (i c z)
  have O:∀c∈D,∀F∈I,c≠F:=λc g F h e=>by
   subst e;rcases sD c g with z|z
   ·exact m c z c h rfl
   ·exact l c z c (aad _ ((d c).mpr (.inr h))) rfl
  refine⟨⟨G++E,Ows.cons (Ow.sub J (λc z=>z.imp (λz=>(aai.mp z).elim (λz=>aad _ ((f c).mp z)) (aae _)) id) hx) (Ows.step X (λc z=>.inl (i c (z.imp (λz=>(aai.mp z).elim (λz=>aad _ ((f c).mp z)) (aae _)) id))) M (λc g=>hk c λz=>j c ((d c).mpr (.inl z)) c g rfl) t),?_,λc g=>?_⟩,?_,w.s0,λc xs e z=>?_⟩
  ·refine aaA.mpr ⟨Y.nodup_iff.mpr (aaA.mpr ⟨nD,N,O⟩),nE,λc g F h e=>?_⟩;subst e;rcases aai.mp ((f c).mp g) with z|z
   ·rcases sD c z with z|z
    ·exact j c ((d c).mpr (.inl z)) c h rfl
    ·exact l c z c (aae _ h) rfl
   ·exact j c ((d c).mpr (.inr z)) c h rfl
  ·have:c∈C++(A++E)\/b.S0 c:=i c (.inl ((aai.mp g).elim (λz=>aad _ ((f c).mp z)) (aae _)));have T:c∈C++(A++E):=by
    rcases aai.mp g with z|z
    ·rcases aai.mp ((f c).mp z) with z|z
     ·rcases sD c z with z|z
      ·exact aae _ (aad _ ((d c).mpr (.inl z)))
      ·exact aad _ z
     ·exact aae _ (aad _ ((d c).mpr (.inr z)))
    ·exact aae _ (aae _ z)
   exact s c T
  ·refine⟨λc o e n=>?_,λc e=>w.fr.n c (X.n c e)⟩;rw[hk c λz=>?_]
   ·exact w.fr.k c o e n
   ·rcases s c (aae _ (aad _ ((d c).mpr (.inl z)))) with q|q
    ·rw[q]at e;cases e
    ·exact n q
  ·exact J c xs e (.inr z)
theorem Wd.pa(w:Wd b H (us.zip zs++((v,x)::L)))(Q:us.length=zs.length)(e:x.at ks=some (.lst xs)):∃a vs,Chn b H v x ks (.ref a) (.lst xs)/\H a=some (.lst vs)/\vs.length=xs.length /\
  ∀d h,(∀(S:Addr->Prop) (H:Hp) (A C:List Addr),(∀c xs,H c=some (.tup xs)->¬ S c)->Ows b S H vs xs A->Ows b S H us zs C->(A++C).Nodup->∃D,Ows b S H d h D/\D.Nodup/\∀c∈D,c∈A\/c∈C)->Wd b (upd H a (.lst d)) ((v,OD.put (.lst h) ks x)::L):=by
 obtain⟨S,u,B,C,G,T,U,P,J,W,j,X,O⟩:=w.ri Q e;cases T with
 |@lst a vs _ A e1 t=>
  refine⟨a,vs,G,e1,t.len,λd h N=>?_⟩;obtain⟨l,r⟩:=aay.mp (show (a::(A++C)).Nodup from P);have k:∀c,c≠a->upd H a (.lst d) c=H c:=λc n=>upd_ne n;have F:Kp S H (upd H a (.lst d)):=Kp.put (.inl (J a (by simp)));have p:∀i:Addr->Prop,(∀c,i c->S c)->∃D,Ows b i (upd H a (.lst d)) d h D/\D.Nodup/\∀c∈D,c∈A\/c∈C:=λi g=>by
   refine N i _ A C (λc xs e z=>?_) (Ows.step F (λc z=>.inl (g c z)) j (λc f=>k c λe=>l (e▸aad _ f)) t) (Ows.step F (λc z=>.inl (g c z)) j (λc f=>k c λe=>l (e▸aae _ f)) U) r;by_cases q:c=a
   ·subst q;rw[aq]at e;cases e
   ·rw[upd_ne q]at e;exact j c xs e (g c z)
  obtain⟨D,M,I,y⟩:=p S λ_ z=>z;have s:∀c xs,upd H a (.lst d) c=some (.tup xs)->¬ S c:=λc xs e z=>by
   by_cases q:c=a
   ·subst q;rw[aq]at e;cases e
   ·rw[upd_ne q]at e;exact j c xs e z
  refine O (λc n=>k c λe=>n (by simp[e])) (λc f=>?_) (aay.mpr ⟨λz=>l (by rcases y a z with z|z<;>simp[z]),I⟩) (λc f=>?_) λi g _=>.lst aq (Ows.sub s g M)
  ·rcases aab.mp f with rfl|f
   ·exact⟨_,aq,trivial⟩
   ·obtain⟨o,q,m⟩:=t.mu c f;exact⟨o,by rw[k c λe=>l (e▸aad _ f)];exact q,m⟩
  ·rcases aab.mp f with rfl|f
   ·exact .inl (by simp)
   ·exact(y c f).imp (aaf _) id
theorem Wd.zb(w:Wd b H (us.zip zs++((v,x)::L)))(Q:us.length=zs.length)(e:x.at ks=some (.dic kk xs)):∃a ws,Chn b H v x ks (.ref a) (.dic kk xs)/\H a=some (.dK ws)/\ws.map (·.1)=kk/\ws.length=xs.length /\
  ∀d g h,d.map (·.1)=g->(∀(S:Addr->Prop) (H:Hp) (A C:List Addr),(∀c xs,H c=some (.tup xs)->¬ S c)->Ows b S H (ws.map (·.2)) xs A->Ows b S H us zs C->(A++C).Nodup->∃D,Ows b S H (d.map (·.2)) h D/\D.Nodup/\∀c∈D,c∈A\/c∈C)->Wd b (upd H a (.dK d)) ((v,OD.put (.dic g h) ks x)::L):=by
 obtain⟨S,u,B,C,G,T,U,P,J,W,p,X,O⟩:=w.ri Q e;cases T with
 |@dic a ws _ vs _ A e1 h5 h6 t=>
  subst h6;refine⟨a,ws,G,e1,h5,by have:=t.len;rwa [aaa]at this,λd g h r N=>?_⟩;obtain⟨k,s⟩:=aay.mp (show (a::(A++C)).Nodup from P);have j:∀c,c≠a->upd H a (.dK d) c=H c:=λc n=>upd_ne n;have F:Kp S H (upd H a (.dK d)):=Kp.put (.inl (J a (by simp)));have i:∀c xs,upd H a (.dK d) c=some (.tup xs)->¬ S c:=λc xs e z=>by
   by_cases q:c=a
   ·subst q;rw[aq]at e;cases e
   ·rw[upd_ne q]at e;exact p c xs e z
  obtain⟨D,M,I,y⟩:=N S _ A C i (Ows.step F (λc z=>.inl z) p (λc f=>j c λe=>k (e▸aad _ f)) t) (Ows.step F (λc z=>.inl z) p (λc f=>j c λe=>k (e▸aae _ f)) U) s;refine O (λc n=>j c λe=>n (by simp[e])) (λc f=>?_) (aay.mpr ⟨λz=>k (by rcases y a z with z|z<;>simp[z]),I⟩) (λc f=>?_) λY l _=>.dic aq r rfl (Ows.sub i l M)
  ·rcases aab.mp f with rfl|f
   ·exact⟨_,aq,trivial⟩
   ·obtain⟨o,q,m⟩:=t.mu c f;exact⟨o,by rw[j c λe=>k (e▸aad _ f)];exact q,m⟩
  ·rcases aab.mp f with rfl|f
   ·exact .inl (by simp)
   ·exact(y c f).imp (aaf _) id
theorem Chd.det(h:Chd b H v x k w z)(h':Chd b H v x k w' z'):w=w'/\z=z':=by
 cases h with
 |lst g i e f=>cases h' with|lst a j c d=>rw[g]at a;cases a;rw[e]at c;cases c;rw[f]at d;cases d;exact⟨rfl,rfl⟩
 |tup g i e f=>cases h' with|tup a j c d=>rw[g]at a;cases a;rw[e]at c;cases c;rw[f]at d;cases d;exact⟨rfl,rfl⟩
 |dic g i l e f=>cases h' with|dic a j m c d=>rw[g]at a;cases a;rw[e]at c;cases c;rw[f]at d;cases d;exact⟨rfl,rfl⟩
 |obj g i l e f=>cases h' with|obj a j m c d=>rw[g]at a;cases a;rw[e]at c;cases c;rw[f]at d;cases d;exact⟨rfl,rfl⟩
theorem Chd.same(h:Chd b H v x k w z)(h':Chd b H v (OD.eg k y x) k w' y'):w=w':=by
 cases h with
 |lst e f d g=>cases h' with|lst a j c i=>rw[e]at a;cases a;rw[d]at c;cases c;rfl
 |tup e f d g=>cases h' with|tup a j c i=>rw[e]at a;cases a;rw[d]at c;cases c;rfl
 |dic e f l d g=>cases h' with|dic a j m c i=>rw[e]at a;cases a;rw[d]at c;cases c;rfl
 |obj e f l d g=>cases h' with|obj a j m c i=>rw[e]at a;cases a;rw[d]at c;cases c;rfl
theorem Chd.wh(h:Chd b H v x k w z):x.kids[k]?=some z:=by
 cases h with
 |lst _ _ _ e=>exact e
 |tup _ _ _ e=>exact e
 |dic _ _ _ _ e=>exact e
 |obj _ _ _ _ e=>exact e
theorem Chd.set(h:Chd b H v x k w z):(OD.eg k y x).kids[k]?=some y:=by
 cases h with
 |lst _ _ _ e=>exact aaN (aao.mp e).1
 |tup _ _ _ e=>exact aaN (aao.mp e).1
 |dic _ _ _ _ e=>exact aaN (aao.mp e).1
 |obj _ _ _ _ e=>exact aaN (aao.mp e).1
theorem Wd.ro(w:Wd b H ((v,x)::L))(e:x.at ks=some y)(J:y.dat=some d):∃u,Chn b H v x ks u y/\Wd b H ((u,.fz d)::(v,OD.put (.fz d) ks x)::L):=by
 obtain⟨S,u,B,C,m,l,hz,nd,Z,U,s,X,N⟩:=Wd.ri (us:=[]) (zs:=[]) w rfl e;have Q:Wd b H ((v,OD.put (.fz d) ks x)::L):=N (λ_ _=>rfl) (λc h=>l.mu c h) aaX (λc h=>by cases h) λS' g p=>.fz (Ow.frz g s (λa O z=>by cases p a O z) l J);refine⟨u,m,Q.add λj G D t=>?_⟩;obtain⟨A1,T⟩:=G (v,OD.put (.fz d) ks x) (by simp);have q:∀{ks:List Nat}{v u:V}{x:OD}{A:List Addr},Chn b H v x ks u y->Ow b j H v (OD.put (.fz d) ks x) A->Fz b.K j H u d:=λ{ks}=>by
  induction ks with
  |nil=>intro v u x A c o;cases c;simp only[OD.put]at o;cases o with|fz f=>exact f
  |cons k ks P=>
   intro v u x A c o;cases c with
   |cons i I=>have n:=i.wh;simp only[OD.put,n]at o;obtain⟨W,Y,A',F,r,_⟩:=o.wh i.set;have M:=i.same F;subst M;exact P I r
 exact q m T
end
section
section
variable{b:Bs}{H:Hp}{L:List (V×OD)}{us:List V}{zs:List OD}{v:V}{a p:Addr}{ns ns':List Int}{d:PyData}
theorem Wd.mutS{i:V}(w:Wd b H ((i,.fz d)::((v,.st ns)::L))):∃a M n,v=.ref a/\H a=some (.set M n)/\(∀k,M k=decide (k∈ns))/\n<=ns.length /\
  ∀g h ns',(∀k,g k=decide (k∈ns'))->h<=List.length ns'->Wd b (upd H a (.set g h)) ((v,.st ns')::L):=by
 obtain⟨S,u,B,C,s,o,G,F,A,t,z,y,j⟩:=Wd.ri (us:=[i]) (zs:=[.fz d]) (x:=.st ns) (ks:=[]) w rfl rfl;cases s;cases o with
 |@st a _ M n e1 m l=>refine⟨a,M,n,rfl,e1,m,l,λg h ns' r q=>?_⟩;refine j (y':=.st ns') (D:=[a]) (λc f=>upd_ne λe=>f (by simp[e])) (λc f=>?_) (by simp) (λc f=>.inl f) λI _ _=>.st aq r q;rw[aaw.mp f];exact⟨_,aq,trivial⟩
theorem Wd.newSet(w:Wd b H L)(f:H p=none):Wd b (upd H p (.set (λ_=>false) 0)) ((.ref p,.st [])::L):=by
 obtain⟨A,j,q,h⟩:=w.out;have l:=w.al j f;have m:=w.kg j;have i:=w.new f (o:=.set (λ_=>false) 0);have n:∀c,(c∈p::A\/b.S0 c)->(c∈A\/b.S0 c)\/H c=none:=λc z=>by
  rcases z with z|z
  ·rcases aab.mp z with rfl|z
   ·exact .inr f
   ·exact .inl (.inl z)
  ·exact .inl (.inr z)
 refine⟨⟨p::A,Ows.cons (A:=[p]) (.st aq (λk=>by simp) (aaK _)) (Ows.step (Kp.put (.inr f)) n m (λa g=>upd_ne λe=>l (.inl (e▸g))) j),aay.mpr ⟨λz=>l (.inl z),q⟩,λa g=>?_⟩,i.fr,i.s0,i.nt⟩;rcases aab.mp g with rfl|g
 ·exact .inl (w.n7 f)
 ·exact h a g
end
end
section
abbrev DSp:=List OD->(OD->List OD->Prop)->Prop
def G0(K:Waa)(S:Addr->Prop)(A:List Addr)(vs:List V)(H:Hp)(Q:VK)(x:OD)(ys:List OD):Prop:=∀v b B,Kp (λa=>a∈A) H b ->
 Ows ⟨K,H,S,λa=>a∈A⟩ (λa=>a∈B\/S a) b (v::vs) (x::ys) B->B.Nodup->(∀a∈B,H a=none\/a∈A)->Q v b
def toSp(K:Waa)(sp:DSp):Sp:=λc H Q _=>∃(S:Addr->Prop) (b:List OD) (A:List Addr),(∀a,S a->H a≠none/\a ∉ A)/\(∀a b,H a=some (.tup b)->¬ S a) /\
 Ows ⟨K,H,S,λa=>a∈A⟩ (λa=>a∈A\/S a) H c b A/\A.Nodup/\sp b (G0 K S A c H Q)
def vq(sp:DSp):Prop:=∀b (P R:OD->List OD->Prop),(∀x a,P x a->R x a)->sp b P->sp b R
theorem Wd.call(w:Wd b H (us.zip xs++L))(X:us.length=xs.length)(m:vq sp)
  (h:sp xs λx ys=>us.length=ys.length->∀v l,Wd b l ((v,x)::(us.zip ys++L))->Q v l):toSp b.K sp us H Q E:=by
 obtain⟨A0,J,W,f⟩:=w.out;have s:=w.kg J;have r:=λ{a}=>w.al J (a:=a);obtain⟨A,g,rfl,T,N⟩:=OwL.fi J;obtain⟨Y,D,u⟩:=aaA.mp W;have p:=w.dj f;refine⟨λa=>a∈g\/b.S0 a,xs,A,λa z=>⟨λe=>r e (z.imp (aae _) id),λd=>?_⟩,λa xs e z=>s a xs e (z.imp (aae _) id),?_,Y,m _ _ _ (λx ys S v l B y I U C=>?_) h⟩
 ·rcases z with z|z
  ·exact u a d a z rfl
  ·exact p a (aad _ d) z
 ·refine Ows.subB (b2:=⟨b.K,H,λa=>a∈g\/b.S0 a,λa=>a∈A⟩) (b:=b) rfl s (λc z=>?_) (OwL.q5 X T);rcases z with z|z|z
  ·exact .inl (aad _ z)
  ·exact .inl (aae _ z)
  ·exact .inr z
 have G:us.length=ys.length:=by have:=I.len;simpa using this
 have i:∀a,a ∉ A->H a≠none->l a=H a:=λa d j=>by
  cases e:H a with
  |none=>exact absurd e j
  |some o=>exact y.k a o e d
 have F:Kp (λa=>a∈A++g\/b.S0 a) H l:=y.weak λc t=>.inl (.inl (aad _ t));have Z:∀c,(c∈B++g\/b.S0 c)->(c∈A++g\/b.S0 c)\/H c=none:=λc z=>by
  rcases z with z|z
  ·rcases aai.mp z with z|z
   ·exact(C c z).elim .inr λz=>.inl (.inl (aad _ z))
   ·exact .inl (.inl (aae _ z))
  ·exact .inl (.inr z)
 have q:∀a xs,l a=some (.tup xs)->¬ (a∈B\/a∈g\/b.S0 a):=λa xs e z=>by
  rcases z with z|z
  ·exact I.tl a z xs e
  ·have d:a ∉ A:=λd=>by
    rcases z with z|z
    ·exact u a d a z rfl
    ·exact p a (aad _ d) z
   have O:H a≠none:=λe=>r e (z.imp (aae _) id);rw[i a d O]at e;exact s a xs e (z.imp (aae _) id)
 have P:((v,x)::(us.zip ys++L))=((v::us).zip (x::ys))++L:=rfl;refine S G v l ?_;rw[P];refine⟨⟨B++g,OwL.g6 (OwL.h9 (Ows.subB (b2:=b) (b:=⟨b.K,H,λa=>a∈g\/b.S0 a,λa=>a∈A⟩) rfl q (λc z=>?_) I)) (Ows.step F Z s (λa j=>i a (λd=>u a d a j rfl) λe=>r e (.inl (aae _ j))) N),aaA.mpr ⟨U,D,λa j c t e=>?_⟩,λa j=>?_⟩,?_,w.s0,λa xs e z=>q a xs e (.inr (.inr z))⟩
 ·rcases z with z|z
  ·exact(aai.mp z).imp id .inl
  ·exact .inr (.inr z)
 ·subst e;rcases C a j with z|z
  ·exact r z (.inl (aae _ t))
  ·exact u a z a t rfl
 ·rcases aai.mp j with z|z
  ·rcases C a z with z|z
   ·exact .inl (w.n7 z)
   ·exact f a (aad _ z)
  ·exact f a (aae _ z)
 ·refine⟨λc o e M=>y.k c o (w.fr.k c o e M) λd=>?_,λc e=>w.fr.n c (y.n c e)⟩;rcases f c (aad _ d) with z|z
  ·rw[z]at e;cases e
  ·exact M z
theorem Wd.pin(w:Wd b H ((v,.fz d)::L))(e:d=if l then .list ds else .tuple ds):∃xs,Wd b H ((v,.pin l xs ds)::L):=by
 obtain⟨j,i,h,c⟩:=w.out;cases i with
 |cons r t=>
  cases r with
  |fz r=>
   cases l with
   |true=>subst e;obtain⟨a,xs,rfl,g,f⟩:=r.kl;exact⟨xs,⟨⟨_,Ows.cons (.pinL g f) t,h,c⟩,w.fr,w.s0,w.nt⟩⟩
   |false=>subst e;obtain⟨a,xs,rfl,g,f⟩:=r.nk;exact⟨xs,⟨⟨_,Ows.cons (.pinT g f) t,h,c⟩,w.fr,w.s0,w.nt⟩⟩
theorem Wd.pinned(w:Wd b H L)(m:(v,OD.pin l xs ds)∈L):∃a,v=.ref a/\xs.length=ds.length/\(if l then SqL b.K H a xs else SqT b.K H a xs)/\Wd b H (xs.zip (ds.map OD.fz)++L):=by
 obtain⟨A,f,i,e⟩:=w.out;obtain⟨B,h⟩:=OwL.mem f m;have q:Wd b H (xs.zip (ds.map OD.fz)++L):=w.z4 λS g=>by
  obtain⟨B,h⟩:=g _ m;cases h with
  |pinL _ t=>exact t
  |pinT _ t=>exact t
 cases h with
 |pinL d c=>exact⟨_,rfl,c.length,d.now,q⟩
 |pinT d c=>exact⟨_,rfl,c.length,d.now,q⟩
end
section
abbrev DEnv:=List (Option OD)
def flat:St->DEnv->List (V×OD)
 |some v::σ,some x::ρ=>(v,x)::flat σ ρ
 |_::σ,_::ρ=>flat σ ρ
 |_,_=>[]
def Wf:St->DEnv->Prop
 |[],[]=>True
 |_::σ,none::ρ=>Wf σ ρ
 |some _::σ,some _::ρ=>Wf σ ρ
 |_,_=>False
theorem aU:flat (o::σ) (none::ρ)=flat σ ρ:=by cases o<;>rfl
theorem Wf.get:∀{σ:St}{ρ:DEnv}{i:Nat},Wf σ ρ->ρ[i]?=some (some x)->∃v,σ[i]?=some (some v)
 |[],[],_,_,e=>by simp at e
 |[],_::_,_,h,_=>by simp[Wf]at h
 |_::_,[],_,_,e=>by simp at e
 |some v::_,some _::_,0,_,_=>⟨v,rfl⟩
 |none::_,some _::_,_,h,_=>by simp[Wf]at h
 |o::_,none::_,0,_,e=>by simp at e
 |o::σ,none::ρ,i+1,h,e=>by obtain⟨v,q⟩:=Wf.get (ρ:=ρ) h (by simpa using e);exact⟨v,by simpa using q⟩
 |some _::σ,some _::ρ,i+1,h,e=>by obtain⟨v,q⟩:=Wf.get (ρ:=ρ) h (by simpa using e);exact⟨v,by simpa using q⟩
theorem Wf.len:∀{σ:St}{ρ:DEnv},Wf σ ρ->σ.length=ρ.length
 |[],[],_=>rfl
 |[],_::_,h=>by simp[Wf]at h
 |_::_,[],h=>by simp[Wf]at h
 |o::σ,none::ρ,h=>by simp[Wf.len (σ:=σ) h]
 |some _::σ,some _::ρ,h=>by simp[Wf.len (ρ:=ρ) h]
 |none::_,some _::_,h=>by simp[Wf]at h
theorem Wf.off:∀{σ:St}{ρ:DEnv}{i:Nat},Wf σ ρ->Wf σ (ρ.set i none)
 |[],[],_,_=>trivial
 |[],_::_,_,h=>by simp[Wf]at h
 |_::_,[],_,h=>by simp[Wf]at h
 |o::σ,none::ρ,0,h=>h
 |some _::σ,some _::ρ,0,h=>h
 |none::_,some _::_,_,h=>by simp[Wf]at h
 |o::σ,none::ρ,i+1,h=>Wf.off (σ:=σ) h
 |some _::σ,some _::ρ,i+1,h=>Wf.off (i:=i) h
theorem Wf.put:∀{σ:St}{ρ:DEnv}{i:Nat},Wf σ ρ->Wf (σ.set i (some v)) (ρ.set i (some x))
 |[],[],_,_=>trivial
 |[],_::_,_,h=>by simp[Wf]at h
 |_::_,[],_,h=>by simp[Wf]at h
 |o::σ,none::ρ,0,h=>h
 |some _::σ,some _::ρ,0,h=>h
 |none::_,some _::_,_,h=>by simp[Wf]at h
 |o::σ,none::ρ,i+1,h=>Wf.put (σ:=σ) h
 |some _::σ,some _::ρ,i+1,h=>Wf.put (i:=i) h
theorem a9:∀{σ:St}{ρ:DEnv}{i:Nat},ρ[i]?=some (some x)->σ[i]?=some (some v)->(flat σ ρ).Perm ((v,x)::flat σ (ρ.set i none))
 |[],_,_,_,e=>by simp at e
 |_::_,[],_,e,_=>by simp at e
 |some u::σ,some y::ρ,0,e,e'=>by simp at e e';subst e e';exact .refl _
 |none::_,_::_,0,_,e=>by simp at e
 |some _::_,none::_,0,e,_=>by simp at e
 |o::σ,none::ρ,i+1,e,e'=>by rw[aaE,aU,aU];exact a9 (by simpa using e) (by simpa using e')
 |some u::σ,some y::ρ,i+1,e,e'=>by rw[aaE];exact((a9 (σ:=σ) (by simpa using e) (by simpa using e')).cons _).trans (List.Perm.swap _ _ _)
 |none::σ,some y::ρ,i+1,e,e'=>by rw[aaE];exact a9 (by simpa using e) (by simpa using e')
theorem bY:∀{σ:St}{ρ:DEnv}{i:Nat},i<ρ.length->σ.length=ρ.length->(flat (σ.set i (some v)) (ρ.set i (some x))).Perm ((v,x)::flat σ (ρ.set i none))
 |_,[],_,h,_=>by simp at h
 |[],_::_,_,_,h=>by simp at h
 |o::σ,y::ρ,0,_,_=>by rw[abK,abK,abK,aU];exact .refl _
 |o::σ,none::ρ,i+1,h,h'=>by rw[aaE,aaE,aaE,aU,aU];exact bY (by simpa using h) (by simpa using h')
 |none::σ,some _::ρ,i+1,h,h'=>by rw[aaE,aaE,aaE];exact bY (σ:=σ) (by simpa using h) (by simpa using h')
 |some u::σ,some y::ρ,i+1,h,h'=>by rw[aaE,aaE,aaE];exact((bY (by simpa using h) (by simpa using h')).cons _).trans (List.Perm.swap _ _ _)
theorem set_self{a:Type}:∀{l:List a}{i:Nat}{x:a},l[i]?=some x->l.set i x=l
 |[],_,_,e=>by simp at e
 |_::_,0,_,e=>by simp at e;subst e;rfl
 |y::l,i+1,x,e=>by rw[aaE,set_self (by simpa using e)]
inductive OR where|val (x:OD)|rf (i:Nat)
def stk:List V->List OR->List (V×OD)
 |v::τ,.val x::θ=>(v,x)::stk τ θ
 |_::τ,.rf _::θ=>stk τ θ
 |_,_=>[]
def Al(σ:St):List V->List OR->Prop
 |[],[]=>True
 |_::τ,.val _::θ=>Al σ τ θ
 |v::τ,.rf i::θ=>σ[i]?=some (some v)/\Al σ τ θ
 |_,_=>False
structure Fr where
 σ:St
 ρ:DEnv
 τ:List V
 θ:List OR
def ff(F:List Fr):List (V×OD):=F.flatMap λf=>stk f.τ f.θ++flat f.σ f.ρ
structure Rel (b:Bs)(F:List Fr)(σ:St)(H:Hp)(ρ:DEnv)(τ:List V)(θ:List OR):Prop where
 wf:Wf σ ρ
 al:Al σ τ θ
 wff:∀f∈F,Wf f.σ f.ρ/\Al f.σ f.τ f.θ
 wd:Wd b H (stk τ θ++(flat σ ρ++ff F))
def ag(ρ:DEnv):OR->Option PyData
 |.val x=>x.dat
 |.rf i=>(ρ[i]?.join).bind OD.dat
section
variable{i:Nat}
theorem join_some{a:Type}{o:Option (Option a)}{x:a}(h:o.join=some x):o=some (some x):=by
 cases o with
 |none=>cases h
 |some o=>exact congrArg some h
theorem Al.len:∀{τ:List V}{θ:List OR},Al σ τ θ->τ.length=θ.length
 |[],[],_=>rfl
 |[],_::_,h=>by simp[Al]at h
 |_::_,[],h=>by simp[Al]at h
 |_::τ,.val _::θ,h=>by simp[Al.len (τ:=τ) h]
 |_::τ,.rf _::θ,h=>by simp[Al.len h.2]
theorem aD:∀{vs τ:List V}{rs θ:List OR},vs.length=rs.length->stk (vs++τ) (rs++θ)=stk vs rs++stk τ θ
 |[],_,[],_,_=>rfl
 |_::vs,τ,.val _::rs,θ,e=>by simp only[aaG,stk];rw[aD (by simpa using e)]
 |_::vs,τ,.rf _::rs,θ,e=>by simp only[aaG,stk];exact aD (by simpa using e)
 |[],_,_::_,_,e=>by simp at e
 |_::_,_,[],_,e=>by simp at e
theorem aP:∀{vs τ:List V}{rs θ:List OR},vs.length=rs.length->(Al σ (vs++τ) (rs++θ) ↔ Al σ vs rs/\Al σ τ θ)
 |[],_,[],_,_=>by simp[Al]
 |_::vs,τ,.val _::rs,θ,e=>by simp only[aaG,Al];exact aP (by simpa using e)
 |_::vs,τ,.rf _::rs,θ,e=>by simp only[aaG,Al];rw[aP (by simpa using e),and_assoc]
 |[],_,_::_,_,e=>by simp at e
 |_::_,_,[],_,e=>by simp at e
theorem Rel.u4(R:Rel b F σ H ρ (vs++v::τ) (rs++r::θ))(e:vs.length=rs.length):Rel b F σ H ρ (v::vs++τ) (r::rs++θ):=by
 obtain⟨f,d⟩:=(aP e).mp R.al;have a:Al σ [v] [r]/\Al σ τ θ:=(aP rfl).mp d;refine⟨R.wf,(aP (vs:=[v]) (rs:=[r]) rfl).mpr ⟨a.1,(aP e).mpr ⟨f,a.2⟩⟩,R.wff,R.wd.perm ?_⟩;refine ab4 _ ?_;have g:stk (v::vs++τ) (r::rs++θ)=stk [v] [r]++(stk vs rs++stk τ θ):=by rw[<-aD e,<-aD rfl];rfl
 have c:stk (vs++v::τ) (rs++r::θ)=stk vs rs++(stk [v] [r]++stk τ θ):=by rw[aD e,<-aD (rs:=[r]) rfl];rfl
 rw[g,c,<-aac,<-aac];exact aaS.append_right _
theorem Rel.tw(R:Rel b F σ H ρ (v::vs++τ) (r::rs++θ))(e:vs.length=rs.length):Rel b F σ H ρ (vs++v::τ) (rs++r::θ):=by
 obtain⟨f,c⟩:=(aP (vs:=[v]) (rs:=[r]) rfl).mp R.al;obtain⟨h,d⟩:=(aP e).mp c;refine⟨R.wf,(aP e).mpr ⟨h,(aP rfl).mpr ⟨f,d⟩⟩,R.wff,R.wd.perm ?_⟩;refine ab4 _ ?_;have g:stk (v::vs++τ) (r::rs++θ)=stk [v] [r]++(stk vs rs++stk τ θ):=by rw[<-aD e,<-aD rfl];rfl
 have a:stk (vs++v::τ) (rs++r::θ)=stk vs rs++(stk [v] [r]++stk τ θ):=by rw[aD e,<-aD (rs:=[r]) rfl];rfl
 rw[g,a,<-aac,<-aac];exact aaS.append_right _
theorem Rel.drop(R:Rel b F σ H ρ (v::τ) (r::θ)):Rel b F σ H ρ τ θ:=by
 cases r with
 |val x=>exact⟨R.wf,R.al,R.wff,R.wd.drop⟩
 |rf i=>exact⟨R.wf,R.al.2,R.wff,R.wd⟩
theorem Rel.drops(R:Rel b F σ H ρ (vs++τ) (rs++θ))(e:vs.length=rs.length):Rel b F σ H ρ τ θ:=by
 induction vs generalizing rs with
 |nil=>cases rs with
  |nil=>exact R
  |cons _ _=>simp at e
 |cons v vs a=>cases rs with
  |nil=>simp at e
  |cons r rs=>exact a (Rel.drop R) (by simpa using e)
theorem Rel.sc(R:Rel b F σ H ρ τ θ)(h:Sc v d):Rel b F σ H ρ (v::τ) (.val (.fz d)::θ):=⟨R.wf,R.al,R.wff,R.wd.sc h⟩
theorem Rel.slot(R:Rel b F σ H ρ τ θ)(e:ρ[i]?=some (some x)):∃v,σ[i]?=some (some v)/\Wd b H ((v,x)::(stk τ θ++(flat σ (ρ.set i none)++ff F))):=by obtain⟨v,a⟩:=R.wf.get e;refine⟨v,a,R.wd.perm ?_⟩;refine((a9 e a).append_right _ |>.append_left _).trans ?_;exact aar
theorem Rel.rd(c:Wf σ ρ)(d:Al (σ.set i (some v)) τ θ)(a:∀f∈F,Wf f.σ f.ρ/\Al f.σ f.τ f.θ)(hi:i<ρ.length)(w:Wd b H ((v,x)::(stk τ θ++(flat σ (ρ.set i none)++ff F)))):Rel b F (σ.set i (some v)) H (ρ.set i (some x)) τ θ:=by refine⟨c.put,d,a,w.perm ?_⟩;refine(aar.symm).trans ?_;exact((bY hi c.len).symm.append_right _).append_left _
theorem Rel.back(c:Wf σ ρ)(d:Al σ τ θ)(a:∀f∈F,Wf f.σ f.ρ/\Al f.σ f.τ f.θ)(ev:σ[i]?=some (some v))(w:Wd b H ((v,x)::(stk τ θ++(flat σ (ρ.set i none)++ff F)))):Rel b F σ H (ρ.set i (some x)) τ θ:=by
 have g:i<ρ.length:=by rw[<-c.len];exact(aao.mp ev).1
 have e:σ.set i (some v)=σ:=set_self ev;have:=Rel.rd c (by rw[e];exact d) a g w;rw[e]at this;exact this
theorem Rel.dt(R:Rel b F σ H ρ (v::τ) (r::θ))(e:ag ρ r=some d):Dt b.K H v d:=by
 cases r with
 |val x=>exact R.wd.r8 (by simp[stk]) e
 |rf i=>
  simp only[ag,aaF]at e;obtain⟨x,c,a⟩:=e;obtain⟨u,f,w⟩:=R.drop.slot (join_some c);have:v=u:=by have:=R.al.1;rw[f]at this;cases this;rfl
  subst this;exact w.r8 (aah) a
theorem Rel.dt2(R:Rel b F σ H ρ (u::v::τ) (a::r::θ))(e:ag ρ r=some d):Dt b.K H v d:=(R.drop).dt e
theorem Rel.frzS(R:Rel b F σ H ρ τ θ)(e:ρ[i]?=some (some x))(a:x.dat=some d):Rel b F σ H (ρ.set i (some (.fz d))) τ θ:=by obtain⟨v,c,w⟩:=R.slot e;exact Rel.back R.wf R.al R.wff c (w.frz a)
theorem Rel.dupS(R:Rel b F σ H ρ τ θ)(e:ρ[i]?=some (some (.fz d)))(ev:σ[i]?=some (some v)):Rel b F σ H ρ (v::τ) (.val (.fz d)::θ):=by obtain⟨u,a,w⟩:=R.slot e;rw[ev]at a;cases a;have c:=w.dup;have f:ρ.set i (some (.fz d))=ρ:=set_self e;have:=Rel.back (i:=i) (τ:=v::τ) (θ:=.val (.fz d)::θ) R.wf R.al R.wff ev (c.perm (List.Perm.swap _ _ _));rw[f]at this;exact this
def frz1(ρ:DEnv):OR->Option (PyData×DEnv)
 |.val x=>x.dat.map (·,ρ)
 |.rf i=>(ρ[i]?.join).bind λx=>x.dat.map λd=>(d,ρ.set i (some (.fz d)))
theorem Rel.frz1(R:Rel b F σ H ρ (v::τ) (r::θ))(e:frz1 ρ r=some (d,ρ')):Rel b F σ H ρ' (v::τ) (.val (.fz d)::θ):=by
 cases r with
 |val x=>simp only[L2.frz1,aaH]at e;obtain⟨g,a,c⟩:=e;cases c;exact⟨R.wf,R.al,R.wff,R.wd.frz a⟩
 |rf i=>simp only[L2.frz1,aaF,aaH]at e;obtain⟨x,a,g,c,f⟩:=e;cases f;have h:i<ρ.length:=(aao.mp (join_some a)).1;exact(R.drop.frzS (join_some a) c).dupS (by rw[aaN h]) R.al.1
def frzL(ρ:DEnv):List OR->Option (List PyData×DEnv)
 |[]=>some ([],ρ)
 |r::rs=>(L2.frz1 ρ r).bind λz=>(frzL z.2 rs).map λy=>(z.1::y.1,y.2)
theorem fN:∀{vs:List V}{rs:List OR}{ρ a:DEnv}{ds:List PyData}{τ:List V}{θ:List OR},Rel b F σ H ρ (vs++τ) (rs++θ)->vs.length=rs.length->L2.frzL ρ rs=some (ds,a)->Rel b F σ H a (vs++τ) (ds.map (λd=>OR.val (.fz d))++θ)/\vs.length=ds.length
 |[],[],_,_,_,_,_,R,_,e=>by simp only[L2.frzL]at e;cases e;exact⟨R,rfl⟩
 |v::vs,r::rs,ρ,a,ds,τ,θ,R,e,h=>by
  simp only[L2.frzL,aaF,aaH]at h;obtain⟨⟨d,ρ1⟩,k,⟨j,ρ2⟩,g,n⟩:=h;cases n;have m:Rel b F σ H ρ1 (v::(vs++τ)) (.val (.fz d)::(rs++θ)):=Rel.frz1 R k;have f:vs.length=rs.length:=by simpa using e
  obtain⟨l,c⟩:=fN (Rel.tw m f) f g;exact⟨Rel.u4 l (by rw[c,aaa]),by simp[c]⟩
 |[],_::_,_,_,_,_,_,_,e,_=>by simp at e
 |_::_,[],_,_,_,_,_,_,e,_=>by simp at e
end
end
section
def Cn(K:Waa):R2:=λx y H Q=>∃l b a c,x=.ref l/\y=.ref b/\SqL K H l a/\SqL K H b c/\a.length+c.length<=sizeLine/\∀p,H p=none->Q (.ref p) (upd H p (.lst (a++c)))
theorem vv:OpR X (binaryOp .Add) (Cn X.K):=by
 intro p s W H x y v u Q I A D h;obtain⟨l,b,M,O,rfl,rfl,w,z,U,q⟩:=h;cases A;cases D;obtain⟨d,r,⟨⟨c,G,P,J⟩,n,e,m,_,o⟩,_⟩:=I.list w;obtain⟨a,t,⟨⟨S,i,B,j⟩,C,k,g,_,f⟩,_⟩:=I.list z;have T:=r.length;have N:=t.length;simp only at m o g f;subst m o g f;refine concat_meets ⟨_,e,rfl⟩ ⟨_,k,rfl⟩ noFill_list_add seq_list_add PySem.F.slot_list_add PySem.F.entry_list_add (PySem.F.args_list_add_2 _ _) (list_addW l b d.toArray a.toArray n C G i J j (by rw[aap,aap];omega)) ⟨e,k,?_⟩;have L:d.toArray++a.toArray=(d++a).toArray:=by simp
 rw[L];exact⟨.ref _,_,I.lnew (r.append t) (by rw[aau];omega),rfl,q _ I.fresh⟩
abbrev DK:=OR->DEnv->Prop
abbrev DE:=DEnv->DK->Prop
abbrev DT:=DEnv->(Bool->DEnv->Prop)->Prop
abbrev DA:=DEnv->(List OR->DEnv->Prop)->Prop
abbrev DR2:=PyData->PyData->(PyData->Prop)->Prop
abbrev DR1:=PyData->(PyData->Prop)->Prop
abbrev DRn:=List PyData->(PyData->Prop)->Prop
def bp(K:Waa)(j:TE)(i:DE):Prop:=∀(b:Bs) (F:List Fr) (c:St) (H:Hp) (g:DEnv) (f:List V) (d:List OR) (e:DK) (Q:VK),b.K=K->Rel b F c H g f d->i g e->(∀v h r a,Rel b F c h a (v::f) (r::d)->e r a->Q v h)->j c H Q
def SndT(K:Waa)(j:TT)(i:DT):Prop:=∀(b:Bs) (F:List Fr) (c:St) (H:Hp) (g:DEnv) (f:List V) (d:List OR) (e:Bool->DEnv->Prop) (Q:Bool->Hp->Prop),b.K=K->Rel b F c H g f d->i g e->(∀k h a,Rel b F c h a f d->e k a->Q k h)->j c H Q
def zw(K:Waa)(l:TA)(k:DA):Prop:=∀(b:Bs) (F:List Fr) (d:St) (H:Hp) (i:DEnv) (h:List V) (f:List OR) (g:List OR->DEnv->Prop) (Q:List V->Hp->Prop),b.K=K->Rel b F d H i h f->k i g->(∀c j e a,c.length=e.length->Rel b F d j a (c++h) (e++f)->g e a->Q c j)->l d H Q
inductive PDe (X:Cx)(e:Expr)(de:DE):Prop|mk (te:TE) (h:PE X e te) (s:bp X.K te de)
inductive PDt (X:Cx)(e:Expr)(de:DT):Prop|mk (te:TT) (h:PT X e te) (s:SndT X.K te de)
inductive PDw (X:Cx)(e:Expr)(de:DT):Prop|mk (te:TT) (h:PW X e te) (s:SndT X.K te de)
inductive PDa (X:Cx)(es:List Expr)(de:DA):Prop|mk (te:TA) (h:PA X es te) (s:zw X.K te de)
section
variable{K:Waa}
def dVar(i:Nat):DE:=λa Q=>match a[i]?.join with
 |some (.fz d)=>Q (.val (.fz d)) a
 |some _=>Q (.rf i) a
 |none=>False
theorem mS:bp K (tVar i) (dVar i):=by
 intro b F j H c m l k Q n R h q;unfold dVar at h;cases e:c[i]?.join with
 |none=>rw[e]at h;exact h.elim
 |some x=>
  rw[e]at h;have g:=join_some e;obtain⟨v,f⟩:=R.wf.get g;have a:k (.rf i) c->tVar i j H Q:=λh=>⟨v,f,q v H (.rf i) c ⟨R.wf,show Al j (v::m) (.rf i::l) from ⟨f,R.al⟩,R.wff,R.wd⟩ h⟩
  cases x with
  |fz d=>exact⟨v,f,q v H _ c (R.dupS g f) h⟩
  |_=>exact a h
theorem zx(b:X.N[i]?=some x) (c:Vis X.env.scope x) (d:(x==("__debug__":Str))=false:=by decide) (a:(x==("__classdict__":Str))=false:=by decide):PDe X (.Name x pos) (dVar i):=⟨_,cn b c d a,mS⟩
def dC(d:PyData):DE:=λa Q=>Q (.val (.fz d)) a
theorem mT(h:Sc v d):bp K (tC v) (dC d):=λb F i H c j f g Q e R a q=>q v H _ c (R.sc h) a
theorem pd_int{i j pos}:PDe X (.Constant (.int i) j pos) (dC (.int i)):=⟨_,iN,mT (.int i)⟩
theorem pd_bl{k j pos}:PDe X (.Constant (.bool k) j pos) (dC (.bool k)):=⟨_,BF,mT (.bl k)⟩
theorem pd_non{j pos}:PDe X (.Constant .none j pos) (dC .none):=⟨_,yE,mT .non⟩
theorem pd_str{x j pos}:PDe X (.Constant (.str x) j pos) (dC (.str x)):=⟨_,iO,mT (.str x)⟩
theorem Rel.addK{b:Bs}(R:Rel b F σ H ρ τ θ)(h:∀S H,Fz b.K S H v d):Rel b F σ H ρ (v::τ) (.val (.fz d)::θ):=⟨R.wf,R.al,R.wff,R.wd.add λS _ _ _=>h S H⟩
theorem rm(e:Gl X x) (g:X.mg x=some u) (r:RelV v u) (s:∀S H,Fz X.K S H v d) (a:(x==("__debug__":Str))=false:=by decide):PDe X (.Name x pos) (dC d):=
 ⟨_,iP e g r a,λb F i H f k h j Q c R a q=>q v H _ f (R.addK (by rw[c];exact s)) a⟩
def SndR2(K:Waa)(e:R2)(r:DR2):Prop:=∀(H:Hp) (v u:V) (b c:PyData) (a:PyData->Prop) (Q:VK),Dt K H v b->Dt K H u c->r b c a->(∀w d,Sc w d->a d->Q w H)->e v u H Q
def vw(r:DR2)(a b:DE):DE:=λh Q=>a h λx e=>b e λy c=>∃f g,ag c x=some f/\ag c y=some g/\r f g λd=>Q (.val (.fz d)) c
theorem k9(J:SndR2 K r2 r)(C:bp K ta da)(i:bp K tb db):bp K (yV r2 ta tb) (vw r da db):=by intro b F g H p D n L Q a R h q;refine C b F g H p D n _ _ a R h λv B x e A s=>i b F g B e _ _ _ _ a A s λu f y t c k=>?_;obtain⟨z,m,l,j,G⟩:=k;exact J f v u z m _ _ (a▸c.dt2 l) (a▸c.dt j) G λw d I o=>q w f _ _ (c.drop.drop.sc I) o
theorem Cp(d:OpR X (binaryOp op) r2)(c:SndR2 X.K r2 r):PDe X a da->PDe X b db->PDe X (.BinOp a op b pos) (vw r da db)
 |⟨_,h1,s1⟩,⟨_,h2,s2⟩=>⟨_,mD d h1 h2,k9 c s1 s2⟩
def dI(C:Int->Int->Prop)(g:Int->Int->PyData):DR2:=λx y Q=>∃i j,x=.int i/\y=.int j/\C i j/\Q (g i j)
def G1(g:Int->Int->PyData):DR2:=λx y Q=>∃i j,x=.int i/\y=.int j/\Q (g i j)
theorem vx(h:∀i j,Sc (g i j) (g' i j)):SndR2 K (rI C g) (dI C g'):=by rintro H v u f k e Q b d ⟨i,j,rfl,rfl,c,a⟩ q;cases b;cases d;exact⟨i,j,rfl,rfl,c,q _ _ (h i j) a⟩
theorem rp(h:∀i j,Sc (g i j) (g' i j)):SndR2 K (uJ g) (G1 g'):=by rintro H v u e f d Q b c ⟨i,j,rfl,rfl,a⟩ q;cases b;cases c;exact⟨i,j,rfl,rfl,q _ _ (h i j) a⟩
theorem zy(d:OpR X (compareOp op) r2)(c:SndR2 X.K r2 r)(e:behindInMarks op b=false):PDe X a da->PDe X b db->PDe X (.Compare a [op] [b] pos) (vw r da db)
 |⟨_,h1,s1⟩,⟨_,h2,s2⟩=>⟨_,fM d h1 h2 e,k9 c s1 s2⟩
theorem vy{g:Int->Int->Bool}:SndR2 K (uJ λi j=>.bl (g i j)) (G1 λi j=>.bool (g i j)):=rp λ_ _=>.bl _
def pC:PyData->PyData->Option Bool
 |.int i,.int j=>some (decide (i=j))
 |.bool i,.bool j=>some (decide (i=j))
 |.str i,.str j=>some (decide (i=j))
 |.none,.none=>some true
 |.none,.int _=>some false|.int _,.none=>some false|.none,.str _=>some false|.str _,.none=>some false
 |.int _,.str _=>some false|.str _,.int _=>some false
 |_,_=>none
theorem mU(b:Dt K H v dx)(a:Dt K H u dy)(e:pC dx dy=some k):y3 v u=true/\decide (v=u)=k:=by cases b<;>cases a<;>cases e<;>refine⟨rfl,?_⟩<;>simp
def dEqS:DR2:=λx y Q=>∃k,pC x y=some k/\Q (.bool k)
def dNeS:DR2:=λx y Q=>∃k,pC x y=some k/\Q (.bool (!k))
theorem sr_eq:SndR2 K rEq dEqS:=by rintro H v u h i g Q c d ⟨k,e,a⟩ q;obtain⟨f,b⟩:=mU c d e;exact⟨f,by rw[b];exact q _ _ (.bl k) a⟩
theorem sr_ne:SndR2 K rNe dNeS:=by rintro H v u h i g Q c d ⟨k,e,a⟩ q;obtain⟨f,b⟩:=mU c d e;exact⟨f,by rw[b];exact q _ _ (.bl _) a⟩
def dEqD:DR2:=λx y Q=>SeqAt.shaped x=true/\SeqAt.shaped y=true/\Q (.bool (PyData.eqv x y))
def dNeD:DR2:=λx y Q=>SeqAt.shaped x=true/\SeqAt.shaped y=true/\Q (.bool (!PyData.eqv x y))
theorem zz:SndR2 K (B8 K) dEqD:=λH v u e b h Q c d ⟨g,f,a⟩ q=>⟨e,b,c,d,g,f,q _ _ (.bl _) a⟩
theorem zA:SndR2 K (B9 K) dNeD:=λH v u e b h Q c d ⟨g,f,a⟩ q=>⟨e,b,c,d,g,f,q _ _ (.bl _) a⟩
def zB:PyData->PyData->Option Bool
 |.int i,.int j=>some (decide (i=j))
 |.str i,.str j=>some (decide (i=j))
 |.none,.none=>some true
 |.int _,.str _=>some false|.str _,.int _=>some false|.none,.int _=>some false|.int _,.none=>some false|.none,.str _=>some false|.str _,.none=>some false
 |_,_=>none
def memD(x:PyData):List PyData->Option Bool
 |[]=>some false
 |y::ys=>(zB y x).bind λk=>(memD x ys).map (k||·)
def Cq:PyData->Bool
 |.int _=>true
 |.str _=>true
 |.none=>true
 |_=>false
def HK(neg:Bool):DR2:=λx y Q=>∃a k,(y=.list a\/y=.tuple a)/\Cq x=true/\memD x a=some k/\Q (.bool (if neg then !k else k))
theorem vz{x y:PyData}(a:Dt K H v x)(b:Dt K H w y)(e:zB y x=some k):bL w=true/\eqV w v=k:=by cases a<;>cases b<;>cases e<;>exact⟨rfl,rfl⟩
theorem zC{x:PyData}(a:Dt K H v x)(b:Cq x=true):bL v=true:=by cases a<;>first|rfl|cases b
theorem mV{x:PyData}(a:Dt K H v x)(n:Cq x=true)(h:DtAll K H vs ds)(e:memD x ds=some k):bL v=true/\vs.all bL=true/\inV v vs=k:=by
 induction ds generalizing vs k with
 |nil=>cases h;cases e;exact⟨zC a n,rfl,rfl⟩
 |cons d ds l=>
  cases h with
  |@cons w _ vs _ r t=>
   obtain⟨p,m,e⟩:=aaF.mp e;obtain⟨o,b,rfl⟩:=aaH.mp e;obtain⟨j,f,c⟩:=l t b;obtain⟨i,g⟩:=vz a r m;refine⟨j,?_,?_⟩
   ·show (bL w&&vs.all bL)=true;rw[i,f];rfl
   ·show (eqV w v||inV v vs)=_;rw[g,c]
theorem xO:SndR2 K (FH K neg) (HK neg):=by
 rintro H v u n m l Q d f ⟨o,k,j,i,e,g⟩ q;rcases j with rfl|rfl
 ·cases f with
  |lst h t=>obtain⟨b,a,c⟩:=mV d i t e;exact⟨_,_,rfl,.inl h,b,a,by rw[c];exact q _ _ (.bl _) g⟩
 ·cases f with
  |tup h t=>obtain⟨b,a,c⟩:=mV d i t e;exact⟨_,_,rfl,.inr h,b,a,by rw[c];exact q _ _ (.bl _) g⟩
theorem ig(i:Int):∀ns:List Int,memD (.int i) (ns.map PyData.int)=some (decide (i∈ns))
 |[]=>by simp[memD]
 |n::ns=>by rw[aaj,memD,ig i ns];simp only[zB,Option.bind_some,abL,aab,Bool.decide_or,eq_comm]
def lg(r h:DR2)(da l i:DE):DE:=λj Q=>da j λx e=>l e λy a=>∃g c,ag a x=some g/\ag a y=some c/\r g c λz=>∃k,z=.bool k /\
 if k=true then i a λw b=>∃c f,ag b y=some c/\ag b w=some f/\h c f λd=>Q (.val (.fz d)) b else Q (.val (.fz (.bool false))) a
theorem ij(Y:SndR2 K r2 r)(g:SndR2 K r2' r')(U:bp K ta da)(s:bp K tb db)(C:bp K tc dc):bp K (kK r2 r2' ta tb tc) (lg r r' da db dc):=by
 intro b F n H M W L Qd Q c R h q;refine U b F n H M W L _ _ c R h λv T x j P N=>s b F n T j _ _ _ _ c P N λu l y i e B=>?_;obtain⟨O,J,I,A,X⟩:=B;refine Y l v u O J _ _ (c▸e.dt2 I) (c▸e.dt A) X λw d m a=>?_;obtain⟨k,rfl,a⟩:=a;cases m;refine⟨k,rfl,?_⟩;cases k with
 |false=>rw[if_neg aak]at a ⊢;exact q _ l _ _ (e.drop.drop.sc (.bl _)) a
 |true=>rw[if_pos rfl]at a ⊢;refine C b F n l i _ _ _ _ c e a λw p z S o h4=>?_;obtain⟨f,G,t,Z,D⟩:=h4;exact g p u w f G _ _ (c▸o.dt2 t) (c▸o.dt Z) D λw d m a=>q w p _ _ (o.drop.drop.drop.sc m) a
theorem rq(f:OpR X (compareOp op) r2)(g:SndR2 X.K r2 r)(e:OpR X (compareOp op') r2')(d:SndR2 X.K r2' r')(h:lastMarks [op,op'] [b,c]=false:=by with_unfolding_all rfl):
  PDe X a da->PDe X b db->PDe X c dc->PDe X (.Compare a [op,op'] [b,c] pos) (lg r r' da db dc)
 |⟨_,h1,s1⟩,⟨_,h2,s2⟩,⟨_,h3,s3⟩=>⟨_,qy f e h1 h2 h3 h,ij g d s1 s2 s3⟩
def isNn:PyData->Bool|.none=>true|_=>false
def pD(neg:Bool)(a:DE):DE:=λc Q=>a c λx b=>∃d,ag b x=some d/\Q (.val (.fz (.bool (if neg then !isNn d else isNn d)))) b
theorem fO(h:Dt K H v d):decide (v=.non)=isNn d:=by cases h<;>simp[isNn]
theorem zD{j pos'}:PDe X a da->PDe X (.Compare a [.Is] [.Constant .none j pos'] pos) (pD false da)
 |⟨_,c,s1⟩=>⟨_,eG (qj c),λb F σ H ρ τ θ k Q g R h q=>s1 b F σ H ρ τ θ _ _ g R h λv i x ρ1 f ⟨d,e,c⟩=>by
  rw[fO (f.dt e)];exact q _ i _ _ (f.drop.sc (.bl _)) c⟩
theorem vA{j pos'}:PDe X a da->PDe X (.Compare a [.IsNot] [.Constant .none j pos'] pos) (pD true da)
 |⟨_,c,s1⟩=>⟨_,eG (mz c),λb F σ H ρ τ θ k Q g R h q=>s1 b F σ H ρ τ θ _ _ g R h λv i x ρ1 f ⟨d,e,c⟩=>by
  rw[fO (f.dt e)];exact q _ i _ _ (f.drop.sc (.bl _)) c⟩
def HL(r:DR1)(a:DE):DE:=λc Q=>a c λx b=>∃d,ag b x=some d/\r d λz=>Q (.val (.fz z)) b
def FR:DR1:=λx Q=>∃i,x=.int i/\Q (.int (-i))
theorem zE:PDe X a da->PDe X (.UnaryOp .USub a pos) (HL FR da)
 |⟨_,c,s1⟩=>⟨_,xD qu c,λb F σ H ρ τ θ l Q j R h q=>s1 b F σ H ρ τ θ _ _ j R h λv k x ρ1 f ⟨d,e,i,g,c⟩=>by
  subst g;cases f.dt e;exact⟨i,rfl,q _ k _ _ (f.drop.sc (.int _)) c⟩⟩
def Cr(a b:DE):DE:=λd Q=>a d λx c=>∃k,ag c x=some (.bool k)/\if k=true then b c Q else Q (.val (.fz (.bool false))) c
def FT(a b:DE):DE:=λd Q=>a d λx c=>∃k,ag c x=some (.bool k)/\if k=true then Q (.val (.fz (.bool true))) c else b c Q
def Cu(a:DE):DE:=λc Q=>a c λx b=>∃k,ag b x=some (.bool k)/\Q (.val (.fz (.bool (!k)))) b
theorem rz{b}:PDe X a da->PDe X (.BoolOp b [a] pos) da
 |⟨_,h1,s1⟩=>⟨_,yI h1,s1⟩
theorem zF:PDe X a da->PDe X (.BoolOp .And (b::es) pos) db->PDe X (.BoolOp .And (a::b::es) pos) (Cr da db)
 |⟨_,c,s1⟩,⟨_,h2,s2⟩=>⟨_,yJ c h2,λb F σ H ρ τ θ i Q f R h q=>s1 b F σ H ρ τ θ _ _ f R h λv g x ρ1 d ⟨k,e,c⟩=>by
  cases d.dt e;refine⟨k,rfl,?_⟩;cases k with
  |false=>rw[if_neg aak]at c ⊢;exact q _ g _ _ (d.drop.sc (.bl _)) c
  |true=>rw[if_pos rfl]at c ⊢;exact s2 b F σ g ρ1 τ θ _ _ f d.drop c q⟩
theorem Cv:PDe X a da->PDe X (.BoolOp .Or (b::es) pos) db->PDe X (.BoolOp .Or (a::b::es) pos) (FT da db)
 |⟨_,c,s1⟩,⟨_,h2,s2⟩=>⟨_,BK c h2,λb F σ H ρ τ θ i Q f R h q=>s1 b F σ H ρ τ θ _ _ f R h λv g x ρ1 d ⟨k,e,c⟩=>by
  cases d.dt e;refine⟨k,rfl,?_⟩;cases k with
  |true=>rw[if_pos rfl]at c ⊢;exact q _ g _ _ (d.drop.sc (.bl _)) c
  |false=>rw[if_neg aak]at c ⊢;exact s2 b F σ g ρ1 τ θ _ _ f d.drop c q⟩
theorem zG:PDe X a da->PDe X (.UnaryOp .Not a pos) (Cu da)
 |⟨_,c,s1⟩=>⟨_,yK c,λb F σ H ρ τ θ i Q f R h q=>s1 b F σ H ρ τ θ _ _ f R h λv g x ρ1 d ⟨k,e,c⟩=>by
  cases d.dt e;exact⟨k,rfl,q _ g _ _ (d.drop.sc (.bl _)) c⟩⟩
def fq(a:DE):DT:=λc Q=>a c λx b=>∃k,ag b x=some (.bool k)/\Q k b
theorem dP(l:bp K ta da):SndT K (qx ta) (fq da):=λb F n H f j d o Q c R h q=>l b F n H f j d _ _ c R h λv i x m a ⟨k,e,g⟩=>by cases a.dt e;exact⟨k,rfl,q _ i _ a.drop g⟩
theorem lh(l:bp K ta da):SndT K (tB ta) (fq da):=λb F n H f j d o Q c R h q=>l b F n H f j d _ _ c R h λv i x m a ⟨k,e,g⟩=>by cases a.dt e;exact⟨k,rfl,q _ i _ a.drop g⟩
theorem vB(d:OpR X (compareOp op) r2)(c:SndR2 X.K r2 r)(e:behindInMarks op b=false):PDe X a da->PDe X b db->PDt X (.Compare a [op] [b] pos) (fq (vw r da db))
 |⟨_,h1,s1⟩,⟨_,h2,s2⟩=>⟨_,mI d h1 h2 e,dP (k9 c s1 s2)⟩
theorem pE(f:OpR X (compareOp op) r2)(g:SndR2 X.K r2 r)(e:OpR X (compareOp op') r2')(d:SndR2 X.K r2' r')(h:lastMarks [op,op'] [b,c]=false:=by with_unfolding_all rfl):
  PDe X a da->PDe X b db->PDe X c dc->PDt X (.Compare a [op,op'] [b,c] pos) (fq (lg r r' da db dc))
 |⟨_,h1,s1⟩,⟨_,h2,s2⟩,⟨_,h3,s3⟩=>⟨_,qz f e h1 h2 h3 h,dP (ij g d s1 s2 s3)⟩
theorem vC{j pos'}:PDe X a da->PDt X (.Compare a [.Is] [.Constant .none j pos'] pos) (fq (pD false da))
 |⟨_,c,s1⟩=>⟨_,eI (qj c),lh (λb F σ H ρ τ θ k Q g R h q=>s1 b F σ H ρ τ θ _ _ g R h λv i x ρ1 f ⟨d,e,c⟩=>by
  rw[fO (f.dt e)];exact q _ i _ _ (f.drop.sc (.bl _)) c)⟩
theorem rA{j pos'}:PDe X a da->PDt X (.Compare a [.IsNot] [.Constant .none j pos'] pos) (fq (pD true da))
 |⟨_,c,s1⟩=>⟨_,eI (mz c),lh (λb F σ H ρ τ θ k Q g R h q=>s1 b F σ H ρ τ θ _ _ g R h λv i x ρ1 f ⟨d,e,c⟩=>by
  rw[fO (f.dt e)];exact q _ i _ _ (f.drop.sc (.bl _)) c)⟩
def Cw(t u:DT):DT:=λb Q=>t b λc a=>if c=true then u a Q else Q false a
def FU(t u:DT):DT:=λb Q=>t b λc a=>if c=true then Q true a else u a Q
def Cz(t:DT):DT:=λb Q=>t b λc a=>Q (!c) a
theorem PDw.pt:PDw X e dt->PDt X e dt
 |⟨_,h,s⟩=>⟨_,h.pt,s⟩
theorem rC:PDt X a dt->PDw X (.BoolOp .And [a] pos) dt
 |⟨_,h,s⟩=>⟨_,uS h,s⟩
theorem vD:PDt X a dt->PDw X (.BoolOp .Or [a] pos) dt
 |⟨_,h,s⟩=>⟨_,yF h,s⟩
theorem vE:PDt X a dt->PDw X (.BoolOp .And (b::es) pos) du->PDw X (.BoolOp .And (a::b::es) pos) (Cw dt du)
 |⟨_,c,s1⟩,⟨_,h2,s2⟩=>⟨_,yG c h2,λb F σ H ρ τ θ g Q d R h q=>s1 b F σ H ρ τ θ _ _ d R h λk f ρ1 e c=>by
  cases k with
  |false=>rw[if_neg aak]at c ⊢;exact q _ f _ e c
  |true=>rw[if_pos rfl]at c ⊢;exact s2 b F σ f ρ1 τ θ _ _ d e c q⟩
theorem zH:PDt X a dt->PDw X (.BoolOp .Or (b::es) pos) du->PDw X (.BoolOp .Or (a::b::es) pos) (FU dt du)
 |⟨_,c,s1⟩,⟨_,h2,s2⟩=>⟨_,BH c h2,λb F σ H ρ τ θ g Q d R h q=>s1 b F σ H ρ τ θ _ _ d R h λk f ρ1 e c=>by
  cases k with
  |true=>rw[if_pos rfl]at c ⊢;exact q _ f _ e c
  |false=>rw[if_neg aak]at c ⊢;exact s2 b F σ f ρ1 τ θ _ _ d e c q⟩
theorem vF:PDt X a dt->PDt X (.UnaryOp .Not a pos) (Cz dt)
 |⟨_,h,s⟩=>⟨_,yH h,λb F σ H ρ τ θ g Q c R h q=>s b F σ H ρ τ θ _ _ c R h λk d ρ1 f e=>q _ d _ f e⟩
def HM(t:DT)(a b:DE):DE:=λe Q=>t e λc d=>if c=true then a d Q else b d Q
theorem CA:PDt X c dt->PDe X a da->PDe X b db->PDe X (.IfExp c a b pos) (HM dt da db)
 |⟨_,h,s⟩,⟨_,d,s1⟩,⟨_,h2,s2⟩=>⟨_,qk h d h2,λb F σ H ρ τ θ i Q e R h q=>s b F σ H ρ τ θ _ _ e R h λk f ρ1 g d=>by
  cases k with
  |true=>rw[if_pos rfl]at d ⊢;exact s1 b F σ f ρ1 τ θ _ _ e g d q
  |false=>rw[if_neg aak]at d ⊢;exact s2 b F σ f ρ1 τ θ _ _ e g d q⟩
theorem DtAll.emp(h:DtAll K H xs ds):xs.isEmpty=ds.isEmpty:=by cases h<;>rfl
end
end
section
def dNil:DA:=λa Q=>Q [] a
def CB(a:DE)(t:DA):DA:=λe Q=>a e λx c=>t c λd b=>Q (x::d) b
theorem pda_nil:PDa X [] dNil:=⟨_,bw,λb F f H a g d e Q c R h q=>q [] H [] a rfl R h⟩
theorem rD(l:starEach (e::es) X.env=(false,eval e X.env)::starEach es X.env:=by rfl):PDe X e da->PDa X es dt->PDa X (e::es) (CB da dt)
 |⟨_,c,s1⟩,⟨_,a,s2⟩=>⟨_,aO c a l,λb F j H m t k x Q g R h q=>s1 b F j H m t k _ _ g R h λv s r f o c=>s2 b F j s f _ _ _ _ g o c λp u w d i n a=>
  q (v::p) u (r::w) d (by simp[i]) (Rel.u4 n i) a⟩
def own1(ρ:DEnv):OR->Option (OD×DEnv)
 |.val x=>some (x,ρ)
 |.rf i=>(frz1 ρ (.rf i)).map λz=>(.fz z.1,z.2)
def mv1(ρ:DEnv):OR->Option (OD×DEnv)
 |.val x=>some (x,ρ)
 |.rf i=>(ρ[i]?.join).map λx=>(x,ρ.set i none)
def mapR(f:DEnv->OR->Option (OD×DEnv))(ρ:DEnv):List OR->Option (List OD×DEnv)
 |[]=>some ([],ρ)
 |r::rs=>(f ρ r).bind λz=>(mapR f z.2 rs).map λy=>(z.1::y.1,y.2)
def uK:List OD->Option (List PyData)
 |[]=>some []
 |.fz d::xs=>match uK xs with|some ds=>some (d::ds)|none=>none
 |_::_=>none
def mkTup(xs:List OD):OD:=match uK xs with
 |some a=>.fz (.tuple a)
 |none=>.tup xs
theorem Rel.own1(R:Rel b F σ H ρ (v::τ) (r::θ))(e:own1 ρ r=some (x,ρ')):Rel b F σ H ρ' (v::τ) (.val x::θ):=by
 cases r with
 |val x=>simp only[L2.own1]at e;cases e;exact R
 |rf i=>simp only[L2.own1,aaH]at e;obtain⟨⟨d,f⟩,c,a⟩:=e;cases a;exact R.frz1 c
theorem Rel.mv1(R:Rel b F σ H ρ (v::τ) (r::θ))(e:mv1 ρ r=some (x,ρ')):Rel b F σ H ρ' (v::τ) (.val x::θ):=by
 cases r with
 |val x=>simp only[L2.mv1]at e;cases e;exact R
 |rf i=>
  simp only[L2.mv1,aaH]at e;obtain⟨x,c,a⟩:=e;cases a;obtain⟨u,d,w⟩:=R.drop.slot (join_some c);have:v=u:=by have:=R.al.1;rw[d]at this;cases this;rfl
  subst this;exact⟨R.wf.off,R.drop.al,R.wff,w⟩
theorem dQ{f:DEnv->OR->Option (OD×DEnv)}(g:∀{ρ a:DEnv}{τ:List V}{θ:List OR}{v:V}{r:OR}{x:OD},Rel b F σ H ρ (v::τ) (r::θ)->f ρ r=some (x,a)->Rel b F σ H a (v::τ) (.val x::θ)):
  ∀{vs:List V}{rs:List OR}{ρ a:DEnv}{xs:List OD}{τ:List V}{θ:List OR},Rel b F σ H ρ (vs++τ) (rs++θ)->vs.length=rs.length->mapR f ρ rs=some (xs,a)->Rel b F σ H a (vs++τ) (xs.map OR.val++θ)/\vs.length=xs.length
 |[],[],_,_,_,_,_,R,_,e=>by simp only[mapR]at e;cases e;exact⟨R,rfl⟩
 |v::vs,r::rs,ρ,a,ds,τ,θ,R,e,h=>by
  simp only[mapR,aaF,aaH]at h;obtain⟨⟨d,ρ1⟩,m,⟨k,ρ2⟩,j,o⟩:=h;cases o;have n:Rel b F σ H ρ1 (v::(vs++τ)) (.val d::(rs++θ)):=g R m;have i:vs.length=rs.length:=by simpa using e
  obtain⟨l,c⟩:=dQ g (Rel.tw (vs:=vs) (rs:=rs) n i) i j;exact⟨Rel.u4 l (by rw[c,aaa]),by simp[c]⟩
 |[],_::_,_,_,_,_,_,_,e,_=>by simp at e
 |_::_,[],_,_,_,_,_,_,e,_=>by simp at e
theorem cH:∀{vs:List V}{xs:List OD},vs.length=xs.length->stk vs (xs.map OR.val)=vs.zip xs
 |[],[],_=>rfl
 |_::_,_::_,e=>by simp only[aaj,stk,abo];rw[cH (by simpa using e)]
 |[],_::_,e=>by simp at e
 |_::_,[],e=>by simp at e
theorem Rel.vals{xs:List OD}(R:Rel b F σ H ρ (vs++τ) (xs.map OR.val++θ))(e:vs.length=xs.length):Wd b H (vs.zip xs++(stk τ θ++(flat σ ρ++ff F))):=by have w:=R.wd;rw[aD (by rw[aaa];exact e),cH e,aac]at w;exact w
theorem Rel.push(R:Rel b F σ H ρ τ θ)(w:Wd b H' ((v,x)::(stk τ θ++(flat σ ρ++ff F)))):Rel b F σ H' ρ (v::τ) (.val x::θ):=⟨R.wf,R.al,R.wff,w⟩
theorem Wd.below{z:V×OD}{L1 L2:List (V×OD)}(w:Wd b H (z::(L1++L2))):Wd b H (z::L2):=Wd.drops (L1:=L1) (w.perm (aar.symm))
theorem fzL_map{xs:List OD}{ds:List PyData}(e:uK xs=some ds):xs=ds.map OD.fz:=by
 induction xs generalizing ds with
 |nil=>cases e;rfl
 |cons x xs a=>
  cases x with
  |fz d=>
   rw[uK]at e;cases h:uK xs with
   |none=>rw[h]at e;cases e
   |some ds=>rw[h]at e;cases e;rw[a h];rfl
  |_=>cases e
theorem eM:∀(ds:List PyData),uK (ds.map OD.fz)=some ds
 |[]=>rfl
 |d::ds=>by simp only[aaj,uK,eM ds]
theorem dats_fz:∀(ds:List PyData),OD.dv (ds.map OD.fz)=some ds
 |[]=>rfl
 |d::ds=>by simp only[aaj,OD.dv,OD.dat,dats_fz ds]
theorem rF{xs:List OD}(w:Wd b H (vs.zip xs++L))(a:vs.length=xs.length)(c:H p=none):Wd b (upd H p (.tup vs)) ((.ref p,mkTup xs)::L):=by
 unfold mkTup;cases h:uK xs with
 |some d=>have g:=fzL_map h;subst g;refine Wd.below (L1:=vs.zip (d.map OD.fz)) (w.dw (λS f=>f.all (by simpa using a) λz e=>aad _ e) c)
 |none=>exact w.rx a c
def FV(f:DEnv->OR->Option (OD×DEnv))(t:DA):DE:=λe Q=>t e λd b=>∃c a,mapR f b d=some (c,a)/\d.length<=1000000/\Q (.val (mkTup c)) a
def FW(f:DEnv->OR->Option (OD×DEnv))(t:DA):DE:=λe Q=>t e λd b=>∃c a,mapR f b d=some (c,a)/\d.length<=1000000/\Q (.val (.lst c)) a
structure Hand (f:DEnv->OR->Option (OD×DEnv)):Prop where
 ok:∀{b:Bs}{F:List Fr}{σ:St}{H:Hp}{ρ ρ':DEnv}{τ:List V}{θ:List OR}{v:V}{r:OR}{x:OD},Rel b F σ H ρ (v::τ) (r::θ)->f ρ r=some (x,ρ')->Rel b F σ H ρ' (v::τ) (.val x::θ)
theorem CD:Hand own1:=⟨Rel.own1⟩
theorem zI{k}(m:Hand f):PDa X es dt->PDe X (.Tuple es k pos) (FV f dt)
 |⟨_,a,s1⟩=>⟨_,qD a,λb F σ H ρ τ θ o Q i R h q=>s1 b F σ H ρ τ θ _ _ i R h λvs r rs ρ1 e l ⟨xs,ρ2,j,g,a⟩=>⟨gf (by rw[e];exact g),λp n=>by
  obtain⟨d,c⟩:=dQ m.ok l e j;exact q _ _ _ _ ((d.drops (by rw[aaa];exact c)).push (rF (d.vals c) c n)) a⟩⟩
theorem zJ(l:Hand f):PDa X es dt->PDe X (.List es pos) (FW f dt)
 |⟨_,a,s1⟩=>⟨_,y7 a,λb F σ H ρ τ θ n Q i R h q=>s1 b F σ H ρ τ θ _ _ i R h λvs o rs ρ1 e k ⟨xs,ρ2,j,g,a⟩=>⟨gf (by rw[e];exact g),λp m=>by
  obtain⟨d,c⟩:=dQ l.ok k e j;exact q _ _ _ _ ((d.drops (by rw[aaa];exact c)).push ((d.vals c).ej c m)) a⟩⟩
def cC(ρ:DEnv):OR->Option OD
 |.val x=>some x
 |.rf i=>ρ[i]?.join
def listOf:OD->Option (List PyData)
 |.fz (.list ds)=>some ds
 |.lst xs=>uK xs
 |_=>none
def tupOf:OD->Option (List PyData)
 |.fz (.tuple ds)=>some ds
 |_=>none
def Bz(ρ:DEnv)(r:OR):Option (List PyData):=(cC ρ r).bind listOf
def rG(ρ:DEnv)(r:OR):Option (List PyData):=(cC ρ r).bind tupOf
def itemO:OD->Int->Option OD
 |.fz (.list ds),i=>match atI ds i with|some d=>some (.fz d)|none=>none
 |.fz (.tuple ds),i=>match atI ds i with|some d=>some (.fz d)|none=>none
 |.lst xs,i=>atI xs i
 |.tup xs,i=>atI xs i
 |_,_=>none
def itemS:OD->Int->Option (PyData×OD)
 |.lst xs,i=>match ixN xs.length i with
  |some k=>match xs[k]? with
   |some c=>match c.dat with|some d=>some (d,.lst (xs.set k (.fz d)))|none=>none
   |none=>none
  |none=>none
 |.tup xs,i=>match ixN xs.length i with
  |some k=>match xs[k]? with
   |some c=>match c.dat with|some d=>some (d,.tup (xs.set k (.fz d)))|none=>none
   |none=>none
  |none=>none
 |_,_=>none
def bZ(ρ:DEnv)(r:OR)(i:Int):Option (OD×DEnv):=match r with
 |.val x=>match itemO x i with|some y=>some (y,ρ)|none=>none
 |.rf j=>match ρ[j]?.join with
  |some x=>match itemS x i with|some (d,y)=>some (.fz d,ρ.set j (some y))|none=>none
  |none=>none
theorem gh{e b:Type}{xs:List e}{ys:List b}{i:Int}{y:b}(d:xs.length=ys.length)(h:atI ys i=some y):∃k x,ixN xs.length i=some k/\ys[k]?=some y/\xs[k]?=some x/\atI xs i=some x:=by unfold atI at h ⊢;rw[<-d]at h;simp only[aaF]at h;obtain⟨k,c,a⟩:=h;have f:k<ys.length:=(aao.mp a).1;refine⟨k,xs[k]'(by omega),c,a,aaB _,?_⟩;rw[c];exact aaB _
theorem bN{b a:Type}{xs:List b}{ys:List a}{k:Nat}{x:b}{y:a}(d:xs[k]?=some x)(c:ys[k]?=some y):(x,y)∈xs.zip ys:=by rw[List.mem_iff_getElem?];exact⟨k,by rw[List.getElem?_zip_eq_some];exact⟨d,c⟩⟩
theorem Wd.pick{z:V×OD}{Z:List (V×OD)}(w:Wd b H (Z++L))(m:z∈Z):Wd b H (z::L):=by obtain⟨a,c,rfl⟩:=List.append_of_mem m;refine Wd.below (L1:=a++c) (w.perm ?_);rw[aac,aac];exact aar
theorem rH{n k:Nat}{i:Int}(h:ixN n i=some k):k<n:=by
 unfold ixN at h;split at h
 ·split at h
  ·cases h;omega
  ·cases h
 ·split at h
  ·cases h;omega
  ·cases h
theorem Wd.nc{k:Nat}{z:OD}(w:Wd b H ((v,x)::L))(e:x.kids[k]?=some z):∃u,Chd b H v x k u z/\Wd b H ((u,z)::L):=by
 obtain⟨y,p,_,_⟩:=w.out;cases p with
 |cons r t=>obtain⟨u,B,o,c,_⟩:=r.wh e;refine⟨u,c,Wd.puts (L1:=[(v,x)]) (L2:=[(u,z)]) w λS A h n i s j=>?_⟩;obtain⟨f,B,o,m,g,d,_⟩:=(OwL.one h).wh e;have q:f=u:=(Chd.det m c).1;subst q;have a:∀c∈B,c∈A:=λc l=>d.mem_iff.mpr (aad _ l);exact⟨B,OwL.of1 (Ow.sub j (λc z=>z.elim (·.1) λz=>i c (a c z)) g),(aaA.mp (d.nodup_iff.mp n)).1,a⟩
theorem Fz.at{K:Waa}{S:Addr->Prop}{vs:List V}{ds:List PyData}{k:Nat}{v:V}{d:PyData}(h:FzA K S H vs ds)(e:vs[k]?=some v)(b:ds[k]?=some d):Fz K S H v d:=by obtain⟨u,a,c⟩:=h.get b;rw[e]at a;cases a;exact c
theorem Wd.itemF{i:Int}{l:Bool}(w:Wd b H ((v,.fz (if l then .list ds else .tuple ds))::L))(e:atI ds i=some d):∃p vs u,v=.ref p/\(SqL b.K H p vs\/SqT b.K H p vs)/\atI vs i=some u/\Wd b H ((u,.fz d)::L):=by
 obtain⟨c,m⟩:=Wd.pin w rfl;obtain⟨a,rfl,f,h,n⟩:=m.pinned aah;obtain⟨k,u,_,g,j,o⟩:=gh f e;refine⟨a,c,u,rfl,?_,o,Wd.below (L1:=[(V.ref a,OD.pin l c ds)]) (n.pick (bN j (by rw[aaz,g];rfl)))⟩;cases l with
 |true=>exact .inl h
 |false=>exact .inr h
theorem Wd.itemO{i:Int}(w:Wd b H ((v,x)::L))(e:itemO x i=some y):∃p vs u,v=.ref p/\(SqL b.K H p vs\/SqT b.K H p vs)/\atI vs i=some u/\Wd b H ((u,y)::L):=by
 cases x with
 |fz d=>
  cases d with
  |list n=>
   simp only[L2.itemO]at e;cases h:atI n i with
   |none=>rw[h]at e;cases e
   |some d=>rw[h]at e;cases e;exact Wd.itemF (l:=true) w h
  |tuple n=>
   simp only[L2.itemO]at e;cases h:atI n i with
   |none=>rw[h]at e;cases e
   |some d=>rw[h]at e;cases e;exact Wd.itemF (l:=false) w h
  |_=>simp[L2.itemO]at e
 |lst xs=>
  simp only[L2.itemO]at e;obtain⟨k,_,g,a,_⟩:=gh (xs:=xs) rfl e;obtain⟨u,c,o⟩:=w.nc (k:=k) (z:=y) a;cases c with
  |lst m j f q=>exact⟨_,_,u,rfl,.inl (SqL.of m),by unfold atI;rw[j,g];exact f,o⟩
 |tup xs=>
  simp only[L2.itemO]at e;obtain⟨k,_,g,a,_⟩:=gh (xs:=xs) rfl e;obtain⟨u,c,o⟩:=w.nc (k:=k) (z:=y) a;cases c with
  |tup m j f q=>exact⟨_,_,u,rfl,.inr (SqT.of m),by unfold atI;rw[j,g];exact f,o⟩
 |dic _ _=>simp[L2.itemO]at e
 |obj _ _ _=>simp[L2.itemO]at e
 |pin _ _ _=>simp[L2.itemO]at e
 |hole _=>simp[L2.itemO]at e
 |st _=>simp[L2.itemO]at e
theorem Wd.itemS{i:Int}(w:Wd b H ((v,x)::L))(e:itemS x i=some (d,y)):∃p vs u,v=.ref p/\(SqL b.K H p vs\/SqT b.K H p vs)/\atI vs i=some u/\Wd b H ((u,.fz d)::(v,y)::L):=by
 cases x with
 |fz d=>simp[L2.itemS]at e
 |lst r=>
  simp only[L2.itemS]at e;split at e
  ·rename_i k j;split at e
   ·rename_i c a;split at e
    ·rename_i t g;cases e;obtain⟨u,q,f⟩:=w.ro (ks:=[k]) (y:=c) (d:=d) (by simp[OD.at,OD.kids,a]) g;cases q with
     |cons n m=>
      cases m;cases n with
      |lst o l h s=>simp only[OD.put,OD.kids,a,OD.eg]at f;exact⟨_,_,u,rfl,.inl (SqL.of o),by unfold atI;rw[l,j];exact h,f⟩
    ·cases e
   ·cases e
  ·cases e
 |tup r=>
  simp only[L2.itemS]at e;split at e
  ·rename_i k j;split at e
   ·rename_i c a;split at e
    ·rename_i t g;cases e;obtain⟨u,q,f⟩:=w.ro (ks:=[k]) (y:=c) (d:=d) (by simp[OD.at,OD.kids,a]) g;cases q with
     |cons n m=>
      cases m;cases n with
      |tup o l h s=>simp only[OD.put,OD.kids,a,OD.eg]at f;exact⟨_,_,u,rfl,.inr (SqT.of o),by unfold atI;rw[l,j];exact h,f⟩
    ·cases e
   ·cases e
  ·cases e
 |dic _ _=>simp[L2.itemS]at e
 |obj _ _ _=>simp[L2.itemS]at e
 |pin _ _ _=>simp[L2.itemS]at e
 |hole _=>simp[L2.itemS]at e
 |st _=>simp[L2.itemS]at e
section
variable{K:Waa}
def HN(a b:DE):DE:=λf Q=>a f λx e=>b e λy d=>∃i z c,ag d y=some (.int i)/\bZ d x i=some (z,c)/\Q (.val z) c
theorem CF(c:PlainIx b):PDe X a da->PDe X b db->PDe X (.Subscript a b pos) (HN da db)
 |⟨_,r,s1⟩,⟨_,o,s2⟩=>⟨_,qF qH r o c,λb F σ H ρ τ θ P Q n R h q=>s1 b F σ H ρ τ θ _ _ n R h λv M x ρ1 L r=>s2 b F σ M ρ1 _ _ _ _ n L r λu s y ρ2 A ⟨i,z,ρ3,G,e,o⟩=>by
  have J:=A.dt G;cases J;have g:=A.drop;cases x with
  |val x=>
   simp only[bZ]at e;cases f:itemO x i with
   |none=>rw[f]at e;cases e
   |some C=>rw[f]at e;cases e;obtain⟨p,l,u,rfl,c,m,w⟩:=Wd.itemO g.wd f;have k:=q u s _ _ (g.drop.push w) o;rw[n]at c;exact c.elim (λc=>.inl ⟨p,l,i,u,rfl,rfl,c,m,k⟩) λc=>.inr (.inl ⟨p,l,i,u,rfl,rfl,c,m,k⟩)
  |rf j=>
   simp only[bZ]at e;cases f:ρ2[j]?.join with
   |none=>rw[f]at e;cases e
   |some x=>
    rw[f]at e;simp only at e;cases t:itemS x i with
    |none=>rw[t]at e;cases e
    |some C=>
     obtain⟨d,D⟩:=C;rw[t]at e;cases e;obtain⟨O,B,w⟩:=g.drop.slot (join_some f);have:v=O:=by have:=g.al.1;rw[B]at this;cases this;rfl
     subst this;obtain⟨p,l,u,rfl,c,m,N⟩:=Wd.itemS w t;have I:Rel b F σ s (ρ2.set j (some D)) (u::τ) (.val (.fz d)::θ):=Rel.back (τ:=u::τ) (θ:=.val (.fz d)::θ) g.wf g.drop.al g.wff B (N.perm (List.Perm.swap _ _ _));have k:=q u s _ _ I o;rw[n]at c;exact c.elim (λc=>.inl ⟨p,l,i,u,rfl,rfl,c,m,k⟩) λc=>.inr (.inl ⟨p,l,i,u,rfl,rfl,c,m,k⟩)⟩
variable{k:Nat}
def cE(ρ:DEnv):List OR->Option (List PyData)
 |[]=>some []
 |r::rs=>(ag ρ r).bind λd=>(cE ρ rs).map (d::·)
theorem Rel.dtL{b:Bs}{F:List Fr}{σ:St}{H:Hp}{ρ:DEnv}:∀{vs:List V}{rs:List OR}{τ:List V}{θ:List OR}{ds:List PyData},Rel b F σ H ρ (vs++τ) (rs++θ)->vs.length=rs.length->cE ρ rs=some ds->DtAll b.K H vs ds
 |[],[],_,_,_,_,_,e=>by simp only[cE]at e;cases e;exact .nil
 |v::vs,r::rs,τ,θ,ds,R,el,e=>by simp only[cE,aaF,aaH]at e;obtain⟨d,f,c,a,rfl⟩:=e;exact .cons (Rel.dt R f) (Rel.dtL (Rel.drop R) (by simpa using el) a)
 |[],_::_,_,_,_,_,e,_=>by simp at e
 |_::_,[],_,_,_,_,e,_=>by simp at e
def SndCB(K:Waa)(c:List V->Hp->VK->Prop)(r:DRn):Prop:=∀(H:Hp) (vs:List V) (a:List PyData) (b:PyData->Prop) (Q:VK),DtAll K H vs a->r a b->(∀w d,Sc w d->b d->Q w H)->c vs H Q
def EZ(r:DRn)(t:DA):DE:=λc Q=>t c λe a=>∃b,cE a e=some b/\r b λd=>Q (.val (.fz d)) a
theorem rJ{i:List V->Hp->VK->Prop}{r:DRn}{e:TA}(z:SndCB K i r)(u:zw K e dt):bp K (FF i e) (EZ r dt):=λb F y H n s l A Q a R h q=>u b F y H n s l _ _ a R h λp f B t g c ⟨v,j,o⟩=>
 z f p v _ _ (a▸c.dtL g j) o λw d x m=>q w f _ _ ((c.drops g).sc x) m
theorem cI{c:List V->Hp->VK->Prop}{r:DRn}{id:String} (i:CallR X (.builtin id) c) (j:SndCB X.K c r) (f:Gl X x) (l:X.mg x=none) (h:bootBuiltins x=some (.builtin id)) (g:x≠"__name__":=by decide) (a:(x==("__debug__":Str))=false:=by decide)
  (d:starEach (e::es) X.env=(false,eval e X.env)::starEach es X.env:=by rfl) (b:(backTo pos (starEach es X.env)).any (·.1)=false:=by rfl):PDa X (e::es) dt->PDe X (.Call (.Name x p) (e::es) [] pos) (EZ r dt)
 |⟨_,h1,s1⟩=>⟨_,dJ i f l h h1 g a d b,rJ j s1⟩
theorem rK{c:List V->Hp->VK->Prop}{r:DRn}{id:String} (i:CallR X (.type id) c) (j:SndCB X.K c r) (f:Gl X x) (l:X.mg x=none) (h:bootBuiltins x=some (.type id)) (g:x≠"__name__":=by decide) (a:(x==("__debug__":Str))=false:=by decide)
  (d:starEach (e::es) X.env=(false,eval e X.env)::starEach es X.env:=by rfl) (b:(backTo pos (starEach es X.env)).any (·.1)=false:=by rfl):PDa X (e::es) dt->PDe X (.Call (.Name x p) (e::es) [] pos) (EZ r dt)
 |⟨_,h1,s1⟩=>⟨_,bW i f l h h1 g a d b,rJ j s1⟩
def lj:PyData->Option Nat
 |.list ds=>some ds.length
 |.tuple ds=>some ds.length
 |_=>none
def dLen:DRn:=λa Q=>∃d n,a=[d]/\lj d=some n/\Q (.int n)
theorem sc_len:SndCB K (λxs H Q=>∃x n,xs=[x]/\BX K x H n/\Q (.int n) H) dLen:=by
 rintro H f c g Q b ⟨d,n,rfl,e,a⟩ q;cases b with
 |cons h t=>
  cases t;refine⟨_,n,rfl,?_,q _ _ (.int _) a⟩;cases h with
  |lst s t=>simp only[lj]at e;cases e;exact .inl ⟨_,s,t.length.symm⟩
  |tup s t=>simp only[lj]at e;cases e;exact .inr ⟨_,s,t.length.symm⟩
  |_=>simp[lj]at e
def dAbs:DRn:=λa Q=>∃i,a=[.int i]/\Q (.int (if i<0 then -i else i))
theorem sc_abs:SndCB K (λxs H Q=>∃i,xs=[.int i]/\Q (.int (if i<0 then -i else i)) H) dAbs:=by rintro H d c e Q b ⟨i,rfl,a⟩ q;cases b with|cons h t=>cases t;cases h;exact⟨i,rfl,q _ _ (.int _) a⟩
def dMax:DRn:=λa Q=>∃i j,a=[.int i,.int j]/\Q (.int (if j>i then j else i))
theorem sc_max:SndCB K (λxs H Q=>∃i j,xs=[.int i,.int j]/\Q (.int (if j>i then j else i)) H) dMax:=by rintro H e d f Q b ⟨i,j,rfl,a⟩ q;cases b with|cons h t=>cases t with|cons c t=>cases t;cases h;cases c;exact⟨i,j,rfl,q _ _ (.int _) a⟩
def dMin:DRn:=λa Q=>∃i j,a=[.int i,.int j]/\Q (.int (if j<i then j else i))
theorem sc_min:SndCB K (λxs H Q=>∃i j,xs=[.int i,.int j]/\Q (.int (if j<i then j else i)) H) dMin:=by rintro H e d f Q b ⟨i,j,rfl,a⟩ q;cases b with|cons h t=>cases t with|cons c t=>cases t;cases h;cases c;exact⟨i,j,rfl,q _ _ (.int _) a⟩
def toInt:PyData->Option Int
 |.int i=>some i
 |.bool k=>some (if k then 1 else 0)
 |_=>none
def dInt:DRn:=λa Q=>∃d i,a=[d]/\toInt d=some i/\Q (.int i)
theorem sc_int:SndCB K (λxs H Q=>(∃i,xs=[.int i]/\Q (.int i) H)\/∃k,xs=[.bl k]/\Q (.int (if k then 1 else 0)) H) dInt:=by
 rintro H f c g Q b ⟨d,i,rfl,e,a⟩ q;cases b with
 |cons h t=>
  cases t;cases h with
  |int j=>simp only[toInt]at e;cases e;exact .inl ⟨_,rfl,q _ _ (.int _) a⟩
  |bl k=>simp only[toInt]at e;cases e;exact .inr ⟨_,rfl,q _ _ (.int _) a⟩
  |_=>simp[toInt]at e
def allB:List PyData->Option (List Bool)
 |[]=>some []
 |.bool k::ds=>(allB ds).map (k::·)
 |_::_=>none
theorem jX:∀{ds:List PyData}{a:List Bool},allB ds=some a->ds=a.map PyData.bool
 |[],_,e=>by simp only[allB]at e;cases e;rfl
 |.bool k::ds,_,e=>by simp only[allB,aaH]at e;obtain⟨a,b,rfl⟩:=e;rw[jX b];rfl
 |.none::_,_,e=>by simp[allB]at e
 |.int _::_,_,e=>by simp[allB]at e
 |.str _::_,_,e=>by simp[allB]at e
 |.list _::_,_,e=>by simp[allB]at e
 |.tuple _::_,_,e=>by simp[allB]at e
 |.dict _::_,_,e=>by simp[allB]at e
theorem allB_bools(a:List Bool):allB (a.map PyData.bool)=some a:=by
 induction a with
 |nil=>rfl
 |cons b a c=>rw[aaj,allB,c];rfl
theorem DtAll.bls{H:Hp}{vs:List V}{a:List Bool}(h:DtAll K H vs (a.map PyData.bool)):vs=a.map V.bl:=by
 induction a generalizing vs with
 |nil=>cases h;rfl
 |cons n c b=>cases h with|cons r t=>cases r;rw[aaj,b t]
def dAll:DRn:=λc Q=>∃a b,c=[.list a]/\allB a=some b/\Q (.bool (b.all id))
theorem sc_all:SndCB K (λxs H Q=>∃(p:Addr) (a:List Bool),xs=[.ref p]/\SqL K H p (a.map V.bl)/\Q (.bl (a.all id)) H) dAll:=by
 rintro H f d i Q c ⟨g,a,rfl,e,b⟩ q;have:=jX e;subst this;cases c with
 |cons h t=>
  cases t;cases h with
  |lst s t=>rw[t.bls]at s;exact⟨_,a,rfl,s,q _ _ (.bl _) b⟩
def HP:PyData->String
 |.none=>"NoneType" |.bool _=>"bool" |.int _=>"int" |.str _=>"str" |.list _=>"list" |.tuple _=>"tuple" |.dict _=>"dict"
theorem Dt.ty{H:Hp}{v:V}{d:PyData}(h:Dt K H v d):Ty K H v (HP d):=by
 cases h with
 |non=>exact .non
 |bl b=>exact .bl b
 |int i=>exact .int i
 |str x=>exact .str x
 |lst s _=>exact .lst s
 |tup s _=>exact .tup s
end
end
section
def seqOf(x:OD):Option (List PyData):=match listOf x with
 |some a=>some a
 |none=>tupOf x
section
variable{ds:List PyData}
theorem Rel.mem(R:Rel b F σ H ρ (v::τ) (r::θ))(e:cC ρ r=some x):(v,x)∈stk (v::τ) (r::θ)++(flat σ ρ++ff F):=by
 cases r with
 |val y=>simp only[cC]at e;cases e;simp[stk]
 |rf i=>simp only[cC]at e;refine aae _ (aad _ ?_);exact(a9 (join_some e) R.al.1).mem_iff.mpr aah
theorem Rel.mem1(R:Rel b F σ H ρ (u::v::τ) (a::r::θ))(e:cC ρ r=some x):(v,x)∈stk (u::v::τ) (a::r::θ)++(flat σ ρ++ff F):=by
 have h:=R.drop.mem e;cases a with
 |val y=>simp only[stk];exact aaf _ h
 |rf i=>exact h
theorem Rel.eo(R:Rel b F σ H ρ (u::v::τ) (a::r::θ)):Rel b F σ H ρ (u::τ) (a::θ):=(Rel.u4 (vs:=[u]) (rs:=[a]) R rfl).drop
theorem Ows.fzs(h:Ows b S H vs (ds.map OD.fz) A):FzA b.K S H vs ds:=by
 induction ds generalizing vs A with
 |nil=>cases h;exact .nil
 |cons d ds a=>cases h with|cons r t=>cases r with|fz f=>exact .cons f (a t)
theorem Wd.exp(w:Wd b H L)(d:OwL b (λa=>a∈A\/b.S0 a) H L A)(f:A.Nodup)(c:∀a∈A,b.H0 a=none\/b.C a)(h:FzA b.K (λa=>a∈A\/b.S0 a) H vs ds):Wd b H (vs.zip (ds.map OD.fz)++L):=by
 have q:∀{vs:List V}{ds:List PyData},FzA b.K (λa=>a∈A\/b.S0 a) H vs ds->OwL b (λa=>a∈A\/b.S0 a) H (vs.zip (ds.map OD.fz)) []:=by
  intro vs;induction vs with
  |nil=>intro ds h;cases h;exact .nil
  |cons v vs e=>intro ds h;cases h with|cons r t=>exact Ows.cons (.fz r) (e t)
 exact⟨⟨A,OwL.g6 (q h) d,f,c⟩,w.fr,w.s0,w.nt⟩
theorem Wd.ar(w:Wd b H L)(m:(v,x)∈L)(e:listOf x=some ds):∃a vs,v=.ref a/\vs.length=ds.length/\SqL b.K H a vs/\Wd b H (vs.zip (ds.map OD.fz)++L):=by
 obtain⟨A,i,j,g⟩:=w.out;obtain⟨B,h⟩:=OwL.mem i m;cases h with
 |@fz _ d f=>
  cases d with
  |list n=>simp only[listOf]at e;cases e;obtain⟨a,vs,rfl,k,c⟩:=f.kl;exact⟨a,vs,rfl,c.length,k.now,w.exp i j g c⟩
  |_=>simp[listOf]at e
 |@lst a vs xs A' e1 t=>simp only[listOf]at e;have l:=fzL_map e;subst l;have c:=Ows.fzs t;exact⟨a,vs,rfl,c.length,SqL.of e1,w.exp i j g c⟩
 |_=>simp[listOf]at e
theorem Wd.b8(w:Wd b H L)(m:(v,x)∈L)(e:tupOf x=some ds):∃a vs,v=.ref a/\vs.length=ds.length/\SqT b.K H a vs/\Wd b H (vs.zip (ds.map OD.fz)++L):=by
 obtain⟨A,i,k,c⟩:=w.out;obtain⟨B,h⟩:=OwL.mem i m;cases h with
 |@fz _ d f=>
  cases d with
  |tuple l=>simp only[tupOf]at e;cases e;obtain⟨a,vs,rfl,j,g⟩:=f.nk;exact⟨a,vs,rfl,g.length,j.now,w.exp i k c g⟩
  |_=>simp[tupOf]at e
 |_=>simp[tupOf]at e
theorem Wd.m3(w:Wd b H L)(m:(v,x)∈L)(e:seqOf x=some ds):∃a vs,v=.ref a/\vs.length=ds.length/\(SqL b.K H a vs\/SqT b.K H a vs)/\Wd b H (vs.zip (ds.map OD.fz)++L):=by
 unfold seqOf at e;cases h:listOf x with
 |some z=>rw[h]at e;cases e;obtain⟨a,vs,f,d,c,g⟩:=w.ar m h;exact⟨a,vs,f,d,.inl c,g⟩
 |none=>rw[h]at e;obtain⟨a,vs,f,d,c,g⟩:=w.b8 m e;exact⟨a,vs,f,d,.inr c,g⟩
theorem Rel.ej(R:Rel b F σ H ρ τ θ){Z:List (V×OD)}(w:Wd b H (Z++(stk τ θ++(flat σ ρ++ff F))))(c:vs.length=ds.length)(m:∀z∈vs.zip (ds.map OD.fz),z∈Z++(stk τ θ++(flat σ ρ++ff F)))(f:H p=none):
  Rel b F σ (upd H p (.lst vs)) ρ (.ref p::τ) (.val (.lst (ds.map OD.fz))::θ):=by
 obtain⟨A,d,g,a⟩:=w.out;have e:=Wd.exp w d g a ((OwL.qd d).all c m);exact R.push (Wd.below (Wd.ej e (by simpa using c) f))
theorem Rel.dw(R:Rel b F σ H ρ τ θ){Z:List (V×OD)}(w:Wd b H (Z++(stk τ θ++(flat σ ρ++ff F))))(a:vs.length=ds.length)(m:∀z∈vs.zip (ds.map OD.fz),z∈Z++(stk τ θ++(flat σ ρ++ff F)))(c:H p=none):
  Rel b F σ (upd H p (.tup vs)) ρ (.ref p::τ) (.val (.fz (.tuple ds))::θ):=R.push (Wd.below (w.dw (λS d=>d.all a m) c))
end
section
variable{X:Cx}
def vG(t:DA):DE:=λc Q=>t c λd a=>∃r b,d=[r]/\(cC a r).bind seqOf=some b/\Q (.val (.lst (b.map OD.fz))) a
theorem pF(s:Gl X x) (B:X.mg x=none) (u:bootBuiltins x=some (.type "list")) (t:x≠"__name__":=by decide) (c:(x==("__debug__":Str))=false:=by decide)
  (A:starEach (e::es) X.env=(false,eval e X.env)::starEach es X.env:=by rfl) (i:(backTo pos (starEach es X.env)).any (·.1)=false:=by rfl):PDa X (e::es) dt->PDe X (.Call (.Name x p) (e::es) [] pos) (vG dt)
 |⟨_,d,s1⟩=>⟨_,bW iU s B u d t c A i,λb F N H G J D P Q j R h q=>s1 b F N H G J D _ _ j R h λI S U L g f ⟨r,T,y,m,d⟩=>by
  subst y;obtain⟨z,o,O⟩:=aaF.mp m
  match I,g with
  |[v],_=>
   obtain⟨a,n,rfl,g,k,w⟩:=f.wd.m3 (f.mem o) O;rw[j]at k;exact⟨a,n,rfl,k,λl C=>q _ _ _ _ (Rel.eo (f.ej w g (λz M=>aad _ M) C)) d⟩⟩
def zK(t:DA):DE:=λc Q=>t c λd a=>∃r b,d=[r]/\(cC a r).bind listOf=some b/\Q (.val (.fz (.tuple b))) a
theorem rL(s:Gl X x) (B:X.mg x=none) (u:bootBuiltins x=some (.type "tuple")) (t:x≠"__name__":=by decide) (c:(x==("__debug__":Str))=false:=by decide)
  (A:starEach (e::es) X.env=(false,eval e X.env)::starEach es X.env:=by rfl) (i:(backTo pos (starEach es X.env)).any (·.1)=false:=by rfl):PDa X (e::es) dt->PDe X (.Call (.Name x p) (e::es) [] pos) (zK dt)
 |⟨_,d,s1⟩=>⟨_,bW g9 s B u d t c A i,λb F N H G J D P Q j R h q=>s1 b F N H G J D _ _ j R h λI S U L g f ⟨r,T,y,m,d⟩=>by
  subst y;obtain⟨z,o,O⟩:=aaF.mp m
  match I,g with
  |[v],_=>
   obtain⟨a,n,rfl,g,k,w⟩:=f.wd.ar (f.mem o) O;rw[j]at k;exact⟨a,n,rfl,.inl ⟨k,λl C=>q _ _ _ _ (Rel.eo (f.dw w g (λz M=>aad _ M) C)) d⟩⟩⟩
def FX(a b:DE):DE:=λg Q=>a g λx f=>b f λy c=>∃d e,Bz c x=some d/\Bz c y=some e/\d.length+e.length<=1000000/\Q (.val (.lst ((d++e).map OD.fz))) c
theorem i4{d c:Type}{xs a:List d}{ys b:List c}(h:xs.length=ys.length):(xs++a).zip (ys++b)=xs.zip ys++a.zip b:=List.zip_append h
theorem zL:PDe X a da->PDe X b db->PDe X (.BinOp a .Add b pos) (FX da db)
 |⟨_,k,s1⟩,⟨_,i,s2⟩=>⟨_,mD vv k i,λb F σ H ρ τ θ L Q g R h q=>s1 b F σ H ρ τ θ _ _ g R h λv D x ρ1 C k=>s2 b F σ D ρ1 _ _ _ _ g C k λu O y ρ2 f ⟨ds,es,A,p,d,i⟩=>by
  obtain⟨M,s,I⟩:=aaF.mp A;obtain⟨N,r,G⟩:=aaF.mp p;obtain⟨a,t,rfl,n,m,w⟩:=f.wd.ar (f.mem1 s) I;obtain⟨c,J,rfl,j,e,o⟩:=w.ar (aae _ (f.mem r)) G;rw[<-aac]at o;rw[g]at m e;refine⟨a,c,t,J,rfl,rfl,m,e,gf (by omega),λl B=>q _ _ _ _ (Rel.eo (Rel.eo (f.ej o (by simp[n,j]) (λz d=>?_) B))) i⟩;rw[aaC,i4 (by simpa using n)]at d;refine aad _ ?_;rcases aai.mp d with d|d
  ·exact aae _ d
  ·exact aad _ d⟩
def CG(a b:DE):DE:=λg Q=>a g λx f=>b f λy c=>∃d e,rG c x=some d/\rG c y=some e/\d≠[]/\e≠[]/\d.length+e.length<=1000000/\Q (.val (.fz (.tuple (d++e)))) c
theorem vH:PDe X a da->PDe X b db->PDe X (.BinOp a .Add b pos) (CG da db)
 |⟨_,n,s1⟩,⟨_,k,s2⟩=>⟨_,mD u7 n k,λb F σ H ρ τ θ N Q j R h q=>s1 b F σ H ρ τ θ _ _ j R h λv I x ρ1 G n=>s2 b F σ I ρ1 _ _ _ _ j G n λu S y ρ2 i ⟨ds,es,C,s,m,g,d,k⟩=>by
  obtain⟨O,A,L⟩:=aaF.mp C;obtain⟨P,t,J⟩:=aaF.mp s;obtain⟨a,B,rfl,o,p,w⟩:=i.wd.b8 (i.mem1 A) L;obtain⟨c,M,rfl,e,f,r⟩:=w.b8 (aae _ (i.mem t)) J;rw[<-aac]at r;rw[j]at p f;refine⟨a,c,B,M,rfl,rfl,p,f,λz=>m (by subst z;cases ds with|nil=>rfl|cons _ _=>simp at o),gf (by omega),λz=>absurd (show es=[] by subst z;cases es with|nil=>rfl|cons _ _=>simp at e) g,λ_ l D=>q _ _ _ _ (Rel.eo (Rel.eo (i.dw r (by simp[o,e]) (λz d=>?_) D))) k⟩;rw[aaC,i4 (by simpa using o)]at d;refine aad _ ?_;rcases aai.mp d with d|d
  ·exact aae _ d
  ·exact aad _ d⟩
abbrev DO:=DEnv->(Option Int->DEnv->Prop)->Prop
def FY(K:Waa)(j:TO)(i:DO):Prop:=∀(b:Bs) (F:List Fr) (c:St) (H:Hp) (g:DEnv) (f:List V) (d:List OR) (e:Option Int->DEnv->Prop) (Q:Option Int->Hp->Prop),b.K=K->Rel b F c H g f d->i g e->(∀k h a,Rel b F c h a f d->e k a->Q k h)->j c H Q
inductive PDo (X:Cx)(e:Option Expr)(de:DO):Prop|mk (te:TO) (h:PO X e te) (s:FY X.K te de)
def dNoPart:DO:=λa Q=>Q none a
def CH(a:DE):DO:=λc Q=>a c λx b=>∃i,ag b x=some (.int i)/\Q (some i) b
theorem pdo_none:PDo X none dNoPart:=⟨_,uZ,λb F f H a g d e Q c R h q=>q none H a R h⟩
theorem rM:PDe X e da->PDo X (some e) (CH da)
 |⟨_,a,s1⟩=>⟨_,u6 a,λb F σ H ρ τ θ g Q d R h q=>s1 b F σ H ρ τ θ _ _ d R h λv f x ρ1 c ⟨i,e,a⟩=>by
  cases c.dt e;exact⟨i,rfl,q _ f _ c.drop a⟩⟩
def cutD{a:Type}(xs:List a)(lo hi:Option Int):List a:=(xs.drop (HT.sIx xs.length 0 lo)).take (HT.sIx xs.length xs.length hi-HT.sIx xs.length 0 lo)
theorem vI{vs:List V}{ds:List OD}(b:vs.length=ds.length)(lo hi:Option Int):∀z∈(cutD vs lo hi).zip (cutD ds lo hi),z∈vs.zip ds:=by intro z a;unfold cutD at a;rw[b,ab5,<-List.take_zipWith,<-List.drop_zipWith,<-ab5]at a;exact List.mem_of_mem_drop (List.mem_of_mem_take a)
theorem rN{a b:Type}(f:a->b)(xs:List a)(lo hi:Option Int):cutD (xs.map f) lo hi=(cutD xs lo hi).map f:=by unfold cutD;rw[aaa,List.map_take,List.map_drop]
theorem rO{c b:Type}{xs:List c}{ys:List b}(a:xs.length=ys.length)(lo hi:Option Int):(cutD xs lo hi).length=(cutD ys lo hi).length:=by unfold cutD;rw[aaV,aa8,aaV,aa8,a]
variable{lo hi:Option Expr}{dl dh:DO}
def FZ(a:DE)(dl dh:DO):DE:=λf Q=>a f λx d=>dl d λl e=>dh e λu c=>∃b,rG c x=some b/\¬ (HT.sIx b.length 0 l=0/\HT.sIx b.length b.length u=b.length)/\Q (.val (.fz (.tuple (cutD b l u)))) c
theorem zM:PDe X e da->PDo X lo dl->PDo X hi dh->PDe X (.Subscript e (.Slice lo hi none p2) pos) (FZ da dl dh)
 |⟨_,f,s1⟩,⟨_,d,s2⟩,⟨_,i,s3⟩=>⟨_,jM ze f d i,λb F σ H ρ τ θ D Q c R h q=>s1 b F σ H ρ τ θ _ _ c R h λv A x ρ1 y f=>s2 b F σ A ρ1 _ _ _ _ c y f λl B ρ2 t d=>s3 b F σ B ρ2 _ _ _ _ c t d λu I ρ3 j ⟨ds,r,p,i⟩=>by
  obtain⟨G,o,C⟩:=aaF.mp r;obtain⟨a,n,rfl,g,k,w⟩:=j.wd.b8 (j.mem o) C;rw[c]at k;refine⟨a,n,rfl,k,by rw[g];exact p,λJ s=>q _ _ _ _ (Rel.eo (j.dw w (rO g l u) (λz m=>aad _ ?_) s)) i⟩;rw[<-rN]at m;exact vI (by simpa using g) l u z m⟩
end
end
section
structure DEnds where
 nx:DEnv->Prop
 rt:OD->DEnv->Prop
 bk:DEnv->Prop:=λ_=>False
 ct:DEnv->Prop:=λ_=>False
abbrev DS:=DEnds->DEnv->Prop
def NoRf(W:Nat->Prop)(θ:List OR):Prop:=∀r∈θ,(∃x,r=.val x)\/∃j,W j/\r=.rf j
abbrev Ff:Nat->Prop:=λ_=>False
structure EndsOk (b:Bs)(F:List Fr)(τ:List V)(θ:List OR)(Dd:DEnds)(D:Ends):Prop where
 nx:∀σ H ρ,Rel b F σ H ρ τ θ->Dd.nx ρ->D.nx σ H
 bk:∀σ H ρ,Rel b F σ H ρ τ θ->Dd.bk ρ->D.bk σ H
 ct:∀σ H ρ,Rel b F σ H ρ τ θ->Dd.ct ρ->D.ct σ H
 rt:∀σ H ρ v x,Rel b F σ H ρ (v::τ) (.val x::θ)->Dd.rt x ρ->D.rt v H
def CI(K:Waa)(W:Nat->Prop)(g:TS)(ds:DS):Prop:=∀(b:Bs) (F:List Fr) (d:St) (H:Hp) (e:DEnv) (f:List V) (a:List OR) (c:DEnds) (D:Ends),b.K=K->NoRf W a->Rel b F d H e f a->ds c e->EndsOk b F f a c D->g D d H
inductive PDs (X:Cx)(W:Nat->Prop)(e:Stmt)(de:DS):Prop|mk (te:TS) (h:PS X e te) (s:CI X.K W te de)
inductive PDss (X:Cx)(W:Nat->Prop)(e:List Stmt)(de:DS):Prop|mk (te:TS) (h:PSs X e te) (s:CI X.K W te de)
theorem NoRf.al{o:Option V}(n:NoRf W θ)(f:¬ W i):∀{τ:List V},Al σ τ θ->Al (σ.set i o) τ θ:=by
 induction θ with
 |nil=>intro τ h;cases τ with
  |nil=>trivial
  |cons _ _=>exact h
 |cons r θ b=>
  intro τ h;cases τ with
  |nil=>cases r<;>exact h
  |cons v τ=>
   rcases n r aah with ⟨x,rfl⟩|⟨j,d,rfl⟩
   ·exact b (λr a=>n r (aaf _ a)) (τ:=τ) h
   ·refine⟨?_,b (λr a=>n r (aaf _ a)) (τ:=τ) h.2⟩;have c:i≠j:=λe=>f (by rw[e];exact d);rw[aaO c];exact h.1
theorem NoRf.al0(n:NoRf Ff θ):∀{τ:List V},Al σ τ θ->Al σ' τ θ:=by
 induction θ with
 |nil=>intro τ h;cases τ with
  |nil=>trivial
  |cons _ _=>exact h
 |cons r θ c=>
  intro τ h;rcases n r aah with ⟨x,rfl⟩|⟨j,a,rfl⟩
  ·cases τ with
   |nil=>exact h
   |cons v τ=>exact c (λr b=>n r (aaf _ b)) (τ:=τ) h
  ·exact a.elim
theorem NoRf.weak(n:NoRf Ff θ):NoRf W θ:=λr b=>(n r b).imp id λ⟨j,a,_⟩=>a.elim
theorem NoRf.cons(n:NoRf W θ):NoRf W (.val x::θ):=λr a=>(aab.mp a).elim (λe=>.inl ⟨x,e⟩) (n r)
theorem NoRf.app(b:NoRf W rs)(n:NoRf W θ):NoRf W (rs++θ):=λr a=>(aai.mp a).elim (b r) (n r)
theorem Wd.i5{L1 L2:List (V×OD)}(w:Wd b H (L1++(flat σ ρ++L2)))(d:Wf σ ρ)(i:Nat):Wd b H (L1++(flat σ (ρ.set i none)++L2)):=by
 cases e:ρ[i]?.join with
 |none=>
  have:ρ.set i none=ρ:=by
   cases h:ρ[i]? with
   |none=>exact List.set_eq_of_length_le (by simpa using h)
   |some o=>rw[h]at e;have:o=none:=e;subst this;exact set_self h
  rw[this];exact w
 |some x=>have a:=join_some e;obtain⟨v,c⟩:=d.get a;exact Wd.drop (w.perm ((((a9 a c).append_right _).append_left _).trans aar))
theorem Rel.store(R:Rel b F σ H ρ (v::τ) (.val x::θ))(n:NoRf W θ)(hi:i<ρ.length)(a:¬ W i):Rel b F (σ.set i (some v)) H (ρ.set i (some x)) τ θ:=by refine Rel.rd R.wf (n.al a (Rel.drop R).al) R.wff hi ?_;exact Wd.i5 (L1:=(v,x)::stk τ θ) (ρ:=ρ) R.wd R.wf i
section
variable{st:Stmt}
def dNext:DS:=λD a=>D.nx a
def F0(t u:DS):DS:=λD b=>∃M:DEnv->Prop,(∀a,M a->u D a)/\t { D with nx:=M } b
theorem pdss_nil:PDss X W [] dNext:=⟨_,uT,λb F a H c g e f D d n R h E=>E.nx a H c R h⟩
theorem pG:PDs X W st d1->PDss X W sts d2->PDss X W (st::sts) (F0 d1 d2)
 |⟨_,c,s1⟩,⟨_,h2,s2⟩=>⟨_,ql c h2,λb F σ H ρ τ θ i D d n R ⟨M,e,h⟩ E=>s1 b F σ H ρ τ θ _ _ d n R h
  ⟨λa g ρ1 f c=>s2 b F a g ρ1 τ θ i D d n f (e ρ1 c) E,E.bk,E.ct,E.rt⟩⟩
def dCont:DS:=λD a=>D.ct a
theorem pds_cont:PDs X W (.Continue pos) dCont:=⟨_,jK,λb F a H c g e f D d n R h E=>E.ct a H c R h⟩
def F1(a:DE):DS:=λD d=>a d λr c=>∃x b,mv1 c r=some (x,b)/\D.rt x b
theorem vJ:PDe X e da->PDs X W (.Return (some e) pos) (F1 da)
 |⟨_,h,s⟩=>⟨_,yL h,λb F σ H ρ τ θ g D a n R h E=>s b F σ H ρ τ θ _ _ a R h λv f r ρ1 d ⟨x,ρ2,e,c⟩=>E.rt σ f ρ2 v x (d.mv1 e) c⟩
def F2(c:DT)(t u:DS):DS:=λD b=>c b λk a=>if k=true then t D a else u D a
theorem zN{d e:List Stmt}:PDt X c dT->PDss X W d d1->PDss X W e d2->PDs X W (.If c d e pos) (F2 dT d1 d2)
 |⟨_,h,s⟩,⟨_,a,d⟩,⟨_,h2,e⟩=>⟨_,BM h a h2,λb F σ H ρ τ θ j D f n R h E=>s b F σ H ρ τ θ _ _ f R h λk i ρ1 g a=>by
  cases k with
  |true=>rw[if_pos rfl]at a ⊢;exact d b F σ i ρ1 τ θ _ _ f n g a E
  |false=>rw[if_neg aak]at a ⊢;exact e b F σ i ρ1 τ θ _ _ f n g a E⟩
def F3(i:Nat)(a:DE):DS:=λD d=>a d λr c=>∃x b,own1 c r=some (x,b)/\i<b.length/\D.nx (b.set i (some x))
theorem vK{i:Nat}{pos':Pos}(u:¬ W i)(c:X.N.Nodup)(hi:X.N[i]?=some x)(w:Loc X.env.scope x)(f:swapsWith e (some (.Name x pos')) pos.line X.env=pure false:=by rfl)(m:X.fn x=true\/X.env.scope.names.lookup x=some .local:=by first|exact .inl rfl|exact .inr rfl|assumption):
  PDe X e da->PDs X W (.Assign [.Name x pos'] e pos) (F3 i da)
 |⟨_,h,s⟩=>⟨_,yP c hi w h f m,λb F t H g p d y D a n R h E=>s b F t H g p d _ _ a R h λv o r q l ⟨x,k,e,hi,j⟩=>E.nx _ o _ ((l.own1 e).store n hi u) j⟩
def bS:List Nat->List OD->DEnv->DEnv
 |i::is,x::xs,ρ=>bS is xs (ρ.set i (some x))
 |_,_,ρ=>ρ
def zO(is:List Nat)(t:DA):DS:=λD d=>t d λe c=>∃b a,mapR own1 c e=some (b,a)/\b.length=is.length/\(∀i∈is,i<a.length)/\D.nx (bS is b a)
def i6:List Nat->List V->St->St
 |i::is,v::vs,σ=>i6 is vs (σ.set i (some v))
 |_,_,σ=>σ
theorem Rel.storeAll{W:Nat->Prop}{b:Bs}{F:List Fr}{H:Hp}{τ:List V}{θ:List OR}:∀{is:List Nat}{vs:List V}{xs:List OD}{σ:St}{ρ:DEnv},Rel b F σ H ρ (vs++τ) (xs.map OR.val++θ)->NoRf W θ->vs.length=xs.length->xs.length=is.length->(∀i∈is,i<ρ.length)->(∀i∈is,¬ W i)->Rel b F (i6 is vs σ) H (bS is xs ρ) τ θ
 |[],[],[],_,_,R,_,_,_,_,_=>R
 |i::is,v::vs,x::xs,σ,ρ,R,n,e1,e2,h,hw=>by have d:NoRf W (xs.map OR.val++θ):=NoRf.app (λr c=>by obtain⟨x,_,rfl⟩:=aal.mp c;exact .inl ⟨x,rfl⟩) n;show Rel b F (i6 is vs (σ.set i (some v))) H (bS is xs (ρ.set i (some x))) τ θ;exact Rel.storeAll (Rel.store (τ:=vs++τ) (θ:=xs.map OR.val++θ) R d (h i aah) (hw i aah)) n (by simpa using e1) (by simpa using e2) (λj a=>by rw[abk];exact h j (aaf _ a)) λj a=>hw j (aaf _ a)
 |[],_::_,[],_,_,_,_,e,_,_,_=>by simp at e
 |[],_,_::_,_,_,_,_,_,e,_,_=>by simp at e
 |_::_,[],_::_,_,_,_,_,e,_,_,_=>by simp at e
 |_::_,_,[],_,_,_,_,_,e,_,_=>by simp at e
theorem len2{c:Type}{l:List c}(h:l.length=2):∃a b,l=[a,b]:=by
 match l,h with
 |[a,b],_=>exact⟨a,b,rfl⟩
theorem F4{d:Type}{l:List d}(h:l.length=3):∃a b c,l=[a,b,c]:=by
 match l,h with
 |[a,b,c],_=>exact⟨a,b,c,rfl⟩
theorem vL{i j:Nat}(L:∀k∈[i,j],¬ W k){x y:Str}{l o p:Pos}{m g c}(t:X.calm=true)(u:X.N.Nodup)(hi:X.N[i]?=some x)(T:X.N[j]?=some y)(f:i≠j)
  (Z:X.env.scope.names.lookup x=some .local) (S:X.env.scope.names.lookup y=some .local)
  (Y:swappedStores [.Tuple [.Name x l,.Name y o] m p] (.Tuple [a,b] g c) X.env=pure (some [x,y]))
  (A:swapsWithSole [.Tuple [.Name x l,.Name y o] m p] (.Tuple [a,b] g c) pos.line X.env=pure false:=by rfl):PDa X [a,b] dt->PDs X W (.Assign [.Tuple [.Name x l,.Name y o] m p] (.Tuple [a,b] g c) pos) (zO [i,j] dt)
 |⟨_,h,s⟩=>⟨_,yQ t u hi T f Z S h Y A,λb F U H B O z Dd D r n R h E=>s b F U H B O z _ _ r R h λvs M rs P Q J ⟨xs,I,e,d,hi,G⟩=>by
  obtain⟨C,q⟩:=dQ Rel.own1 J Q e;obtain⟨v,w,rfl⟩:=len2 (q.trans d);exact⟨v,w,rfl,E.nx _ M _ (Rel.storeAll (is:=[i,j]) C n q d hi L) G⟩⟩
theorem rQ{i j k:Nat}(T:∀z∈[i,j,k],¬ W z){x y z:Str}{p r g t:Pos}{q o d}(G:X.calm=true)(I:X.N.Nodup)(hi:X.N[i]?=some x)(hj:X.N[j]?=some y)(hk:X.N[k]?=some z)(m:i≠j)(l:i≠k)(A:j≠k)
  (hx:X.env.scope.names.lookup x=some .local) (hy:X.env.scope.names.lookup y=some .local) (hz:X.env.scope.names.lookup z=some .local)
  (hw:swappedStores [.Tuple [.Name x p,.Name y r,.Name z g] q t] (.Tuple [a,b,c] o d) X.env=pure (some [x,y,z]))
  (L:swapsWithSole [.Tuple [.Name x p,.Name y r,.Name z g] q t] (.Tuple [a,b,c] o d) pos.line X.env=pure false:=by rfl):PDa X [a,b,c] dt->PDs X W (.Assign [.Tuple [.Name x p,.Name y r,.Name z g] q t] (.Tuple [a,b,c] o d) pos) (zO [i,j,k] dt)
 |⟨_,h,s⟩=>⟨_,vf G I hi hj hk m l A hx hy hz h hw L,λb F σ H M Y J Dd D C n R h E=>s b F σ H M Y J _ _ C R h λvs U rs Z el S ⟨xs,Q,e,f,hi,P⟩=>by
  obtain⟨O,B⟩:=dQ Rel.own1 S el e;obtain⟨v,w,u,rfl⟩:=F4 (B.trans f);exact⟨v,w,u,rfl,E.nx _ U _ (Rel.storeAll (is:=[i,j,k]) O n B f hi T) P⟩⟩
abbrev DG:=OD->DEnv->(DEnv->Prop)->Prop
abbrev DGs:=List OD->DEnv->(DEnv->Prop)->Prop
def ll(K:Waa)(W:Nat->Prop)(m:Nat)(g:TG)(dg:DG):Prop:=∀(b:Bs) (F:List Fr) (f:St) (H:Hp) (e:DEnv) (i:List V) (d:List OR) (v:V) (x:OD) (h:DEnv->Prop) (Q:St->Hp->Prop),b.K=K->NoRf W d->Rel b F f H e (v::i) (.val x::d)->dg x e h->(∀c k a,Rel b F c k a i d->(∀j,m<=j->c[j]?=f[j]?/\a[j]?=e[j]?)->h a->Q c k)->g v f H Q
def CJ(K:Waa)(W:Nat->Prop)(m:Nat)(g:TGs)(dg:DGs):Prop:=∀(b:Bs) (F:List Fr) (f:St) (H:Hp) (h:DEnv) (k:List V) (d:List OR) (vs:List V) (e:List OD) (i:DEnv->Prop) (Q:St->Hp->Prop),b.K=K->NoRf W d->vs.length=e.length->Rel b F f H h (vs++k) (e.map OR.val++d)->dg e h i->(∀c l a,Rel b F c l a k d->(∀j,m<=j->c[j]?=f[j]?/\a[j]?=h[j]?)->i a->Q c l)->g vs f H Q
inductive PDg (X:Cx)(W:Nat->Prop)(m:Nat)(e:Expr)(dg:DG):Prop|mk (te:TG) (h:PG X e te) (s:ll X.K W m te dg)
inductive PDgs (X:Cx)(W:Nat->Prop)(m:Nat)(e:List Expr)(dg:DGs):Prop|mk (te:TGs) (h:yM X e te) (s:CJ X.K W m te dg)
def zP(i:Nat):DG:=λx a Q=>i<a.length/\Q (a.set i (some x))
def dgNil:DGs:=λb a Q=>b=[]/\Q a
def rR(t:DG)(u:DGs):DGs:=λb c Q=>∃x r,b=x::r/\t x c λa=>u r a Q
def unpT:OD->Option (List OD)
 |.fz (.tuple ds)=>some (ds.map OD.fz)
 |.tup xs=>some xs
 |_=>none
def unpL:OD->Option (List OD)
 |.fz (.list ds)=>some (ds.map OD.fz)
 |.lst xs=>some xs
 |_=>none
def CK(n:Nat)(t:DGs):DG:=λx b Q=>∃a,unpT x=some a/\a.length=n/\t a b Q
def CL(n:Nat)(t:DGs):DG:=λx b Q=>∃a,unpL x=some a/\a.length=n/\t a b Q
theorem jY{i:Nat}(e:¬ W i)(a:X.N.Nodup)(hi:X.N[i]?=some x)(f:Loc X.env.scope x)(c:i<m)(d:X.fn x=true\/X.env.scope.names.lookup x=some .local:=by first|exact .inl rfl|exact .inr rfl|assumption):PDg X W m (.Name x pos) (zP i):=
 ⟨_,uU a hi f d,λb F s H o p l v x k Q g n R ⟨hi,h⟩ q=>q _ _ _ (R.store n hi e) (λj r=>⟨aaO (by omega),aaO (by omega)⟩) h⟩
theorem pdgs_nil:PDgs X W m [] dgNil:=⟨_,uV,λb F p H k l g a i f Q d n c R ⟨e,h⟩ q=>by
 subst e;cases a with
 |nil=>exact⟨rfl,q _ _ _ R (λj o=>⟨rfl,rfl⟩) h⟩
 |cons _ _=>simp at c⟩
theorem eN(w:(assignEach (e::es) X.env).map (·.2)=assign e X.env::(assignEach es X.env).map (·.2):=by rfl):PDg X W m e dg->PDgs X W m es dgs->PDgs X W m (e::es) (rR dg dgs)
 |⟨_,i,s1⟩,⟨_,d,s2⟩=>⟨_,qo i d w,λb F G H z p f a L J Q l n s R ⟨x,r,e,h⟩ q=>by
  subst e;cases a with
  |nil=>simp at s
  |cons v a=>
   have y:NoRf W (r.map OR.val++f):=NoRf.app (λr I=>by obtain⟨x,_,rfl⟩:=aal.mp I;exact .inl ⟨x,rfl⟩) n;exact⟨v,a,rfl,s1 b F G H z (a++p) (r.map OR.val++f) v x _ _ l y R h λg D k C t i=>s2 b F g D k p f a r _ _ l n (by simpa using s) C i λu M A B o d=>
    q _ _ _ B (λj c=>⟨(o j c).1.trans (t j c).1,(o j c).2.trans (t j c).2⟩) d⟩⟩
theorem Wd.unpT{b:Bs}{H:Hp}{L:List (V×OD)}{v:V}{x:OD}{xs:List OD}(w:Wd b H ((v,x)::L))(e:unpT x=some xs):∃a vs,v=.ref a/\SqT b.K H a vs/\vs.length=xs.length/\Wd b H (vs.zip xs++L):=by
 cases x with
 |fz d=>cases d<;>simp only[L2.unpT]at e<;>cases e;obtain⟨a,vs,rfl,h,f,i⟩:=w.b8 aah (rfl:tupOf (.fz (.tuple _))=some _);exact⟨a,vs,rfl,f,by simpa using h,Wd.drop (i.perm aar)⟩
 |tup k=>
  simp only[L2.unpT]at e;cases e;obtain⟨l,j,g,c⟩:=w.out;cases j with
  |cons r t=>
   cases r with
   |@tup a vs _ A h1 h2=>exact⟨a,vs,rfl,SqT.of h1,h2.len,⟨⟨_,OwL.g6 (OwL.h9 h2) t,g,c⟩,w.fr,w.s0,w.nt⟩⟩
 |_=>simp[L2.unpT]at e
theorem Wd.unpL{b:Bs}{H:Hp}{L:List (V×OD)}{v:V}{x:OD}{xs:List OD}(w:Wd b H ((v,x)::L))(e:unpL x=some xs):∃a vs,v=.ref a/\SqL b.K H a vs/\vs.length=xs.length/\Wd b H (vs.zip xs++L):=by
 have g:∀{h:List PyData},listOf x=some h->xs=h.map OD.fz->∃a vs,v=.ref a/\SqL b.K H a vs/\vs.length=xs.length/\Wd b H (vs.zip xs++L):=λ{h} h1 h2=>by subst h2;obtain⟨a,vs,rfl,o,m,p⟩:=w.ar aah h1;exact⟨a,vs,rfl,m,by simpa using o,Wd.drop (p.perm aar)⟩
 cases x with
 |fz d=>cases d<;>simp only[L2.unpL]at e<;>cases e;exact g rfl rfl
 |lst q=>
  simp only[L2.unpL]at e;cases e;obtain⟨s,j,n,i⟩:=w.out;have k:=w.kg j;cases j with
  |@cons _ _ A _ _ B0 r t=>
   cases r with
   |@lst a vs _ B h1 h2=>have f:∀c,(c∈B++B0\/b.S0 c)->(c∈a::B++B0\/b.S0 c):=λc z=>z.imp (λz=>by simp at z ⊢;exact .inr z) id;exact⟨a,vs,rfl,SqL.of h1,h2.len,⟨⟨_,Ows.step (Kp.refl _ _) (λc z=>.inl (f c z)) k (λ_ _=>rfl) (OwL.g6 (OwL.h9 h2) t),(aay.mp n).2,λc l=>i c (aaf _ l)⟩,w.fr,w.s0,w.nt⟩⟩
 |_=>simp[L2.unpL]at e
theorem i7{σ:St}:∀{vs:List V}{xs:List OD},vs.length=xs.length->Al σ vs (xs.map OR.val)
 |[],[],_=>trivial
 |_::vs,_::xs,e=>i7 (vs:=vs) (xs:=xs) (by simpa using e)
 |[],_::_,e=>by simp at e
 |_::_,[],e=>by simp at e
theorem Rel.spread{b:Bs}{F:List Fr}{σ:St}{H:Hp}{ρ:DEnv}{τ vs:List V}{θ:List OR}{xs:List OD}(R:Rel b F σ H ρ τ θ)(a:vs.length=xs.length)(w:Wd b H (vs.zip xs++(stk τ θ++(flat σ ρ++ff F)))):Rel b F σ H ρ (vs++τ) (xs.map OR.val++θ):=
 ⟨R.wf,(aP (by simpa using a)).mpr ⟨i7 a,R.al⟩,R.wff,by rw[aD (by simpa using a),cH a,aac];exact w⟩
theorem mW{k:Nat}{n:Nat}(l:X.calm=true)(j:(assignEach es X.env).length=n:=by rfl)(c:(assignEach es X.env).findIdx? (·.1)=none:=by rfl):PDgs X W m es dgs->PDg X W m (.Tuple es k pos) (CK n dgs)
 |⟨_,h,s⟩=>⟨_,yO l h j c,λb F z H u y r v x A Q f o R ⟨t,e,p,h⟩ q=>by
  obtain⟨a,i,rfl,g,d,w⟩:=Wd.unpT R.wd e;rw[f]at g;exact⟨a,i,rfl,g,d.trans p,s b F z H u y r i t _ _ f o d (R.drop.spread d w) h q⟩⟩
theorem mX{k:Nat}{n:Nat}(l:X.calm=true)(j:(assignEach es X.env).length=n:=by rfl)(c:(assignEach es X.env).findIdx? (·.1)=none:=by rfl):PDgs X W m es dgs->PDg X W m (.Tuple es k pos) (CL n dgs)
 |⟨_,h,s⟩=>⟨_,zr l h j c,λb F z H u y r v x A Q f o R ⟨t,e,p,h⟩ q=>by
  obtain⟨a,i,rfl,g,d,w⟩:=Wd.unpL R.wd e;rw[f]at g;exact⟨a,i,rfl,g,d.trans p,s b F z H u y r i t _ _ f o d (R.drop.spread d w) h q⟩⟩
def F5(a:DE)(g:DG):DS:=λD d=>a d λr c=>∃x b,own1 c r=some (x,b)/\g x b D.nx
theorem vM{a:Expr}(p:swapsWithSole [a] e pos.line X.env=pure false:=by rfl)(A:swappedStores [a] e X.env=pure none:=by rfl)(z:(assignEach [a] X.env).map (·.2)=[assign a X.env]:=by rfl):PDe X e da->PDg X W m a dg->PDs X W (.Assign [a] e pos) (F5 da dg)
 |⟨_,c,s1⟩,⟨_,h2,s2⟩=>⟨_,qq c h2 p A z,λb F l H q k j B D i n R h E=>s1 b F l H q k j _ _ i R h λv t r w s ⟨x,d,e,c⟩=>
  s2 b F l t d k j v x _ _ i n (s.own1 e) c λg y f o _ u=>E.nx g y f o u⟩
abbrev DI:=DEnv->(List PyData->DEnv->Prop)->Prop
def gj(b:Bs)(J:It)(vs:List V)(rs:List OR)(ds:List PyData):Prop:=∀(F:List Fr) (e:St) (H:Hp) (f:DEnv) (g:List V) (c:List OR),Rel b F e H f (vs++g) (rs++c)->∀k,
 (k<ds.length->J.go k H/\∀x a d,J.yld k H x a->ds[k]?=some d->Rel b F e a f (x::(vs++g)) (.val (.fz d)::(rs++c)))/\(k=ds.length->J.stop k H)
def CM(K:Waa)(l:TI)(m:DI):Prop:=∀(b:Bs) (F:List Fr) (e:St) (H:Hp) (j:DEnv) (i:List V) (g:List OR) (h:List PyData->DEnv->Prop) (Q:It->Hp->Prop),b.K=K->Rel b F e H j i g->m j h ->
 (∀J k f a d c,d.length=c.length->NoRf Ff c->Rel b F e k a (d++i) (c++g)->gj b J d c f->h f a->Q J k)->l e H Q
inductive PDi (X:Cx)(tg e:Expr)(di:DI):Prop|mk (te:TI) (h:PI X tg e te) (s:CM X.K te di)
def cx(lo:Int)(n:Nat):List PyData:=(List.range n).map λ(i:Nat)=>PyData.int (lo+(i:Int))
theorem jZ(lo:Int)(n:Nat):(cx lo n).length=n:=by simp[cx]
theorem rS{lo:Int}{n k:Nat}{d:PyData}(h:(cx lo n)[k]?=some d):k<n/\d=.int (lo+k):=by unfold cx at h;rw[aaz]at h;obtain⟨j,c,rfl⟩:=aaH.mp h;obtain⟨b,a⟩:=aao.mp c;simp at b a;subst a;exact⟨b,rfl⟩
theorem rT(b:Bs)(lo:Int)(n:Nat):gj b (EV lo n) [] [] (cx lo n):=λF j H l m i R k=>by rw[jZ];refine⟨λh=>⟨h,λx g d ⟨f,a⟩ c=>?_⟩,λe=>by subst e;exact aag _⟩;subst f a;rw[(rS c).2];exact Rel.sc R (.int _)
def CN(t:DA):DI:=λb Q=>t b λc a=>∃j,cE a c=some [.int j]/\-(2^62)<=j/\j<2^62/\Q (cx 0 j.toNat) a
theorem lp{o:Expr} (i:Gl X "range") (l:X.mg "range"=none) (u:starEach [a] X.env=[(false,eval a X.env)]:=by rfl):PDa X [a] dt->PDi X o (.Call (.Name "range" p) [a] [] pos) (CN dt)
 |⟨_,h,s⟩=>⟨_,oM i l h u,λb F A H v y m C Q g R h q=>s b F A H v y m _ _ g R h λD x G c f d ⟨j,e,k,z,w⟩=>by
  have n:=d.dtL f e;cases n with
  |cons r t=>cases t;cases r;exact⟨j,rfl,k,z,q _ x _ c [] [] rfl (λr B=>by cases B) (d.drops f) (rT b 0 _) w⟩⟩
theorem Rel.itemAt{b:Bs}{F:List Fr}{σ:St}{H:Hp}{ρ:DEnv}{τ:List V}{θ:List OR}{v:V}{x:OD}{ds:List PyData}{d:PyData}{k:Nat}(R:Rel b F σ H ρ τ θ)(m:(v,x)∈stk τ θ++(flat σ ρ++ff F))(e:seqOf x=some ds)(c:ds[k]?=some d):
  ∃a vs u,v=.ref a/\(SqL b.K H a vs\/SqT b.K H a vs)/\vs.length=ds.length/\vs[k]?=some u/\Rel b F σ H ρ (u::τ) (.val (.fz d)::θ):=by
 obtain⟨a,vs,rfl,g,h,w⟩:=R.wd.m3 m e;have f:k<vs.length:=by rw[g];exact(aao.mp c).1
 refine⟨a,vs,vs[k],rfl,h,g,aaB f,R.push (w.pick (bN (aaB f) ?_))⟩;rw[aaz,c];rfl
theorem b9{v:V}{x:OD}{τ:List V}{θ:List OR}{L:List (V×OD)}:(v,x)∈stk ([v]++τ) ([OR.val x]++θ)++L:=by simp[stk]
theorem pH(b:Bs)(a:Addr)(ds:List PyData):gj b (Fu b.K a) [.ref a] [.val (.fz (.list ds))] ds:=λF J H y D v R k=>by
 obtain⟨A,f,e,G,l,_⟩:=R.wd.ar b9 (rfl:listOf (.fz (.list ds))=some ds);cases e;refine⟨λh=>⟨⟨f,f[k]'(by omega),l,aaB _⟩,λx I d ⟨n,m⟩ j=>?_⟩,λe=>⟨f,l,by omega⟩⟩;subst n;obtain⟨p,C,u,q,o,_,w,z⟩:=R.itemAt b9 (rfl:seqOf (.fz (.list ds))=some ds) j;cases q;obtain⟨_,c,r,g,i,s⟩:=R.wd.ar b9 (rfl:listOf (.fz (.list ds))=some ds);cases r;have B:k<c.length:=by rw[g];exact(aao.mp j).1
 have t:=m c i;refine Rel.push R (s.pick (bN t ?_));rw[aaz,j];rfl
theorem rV(b:Bs)(a:Addr)(ds:List PyData):gj b (Fv b.K a) [.ref a] [.val (.fz (.tuple ds))] ds:=λF r H m o l R k=>by obtain⟨n,c,e,p,f,w⟩:=R.wd.b8 b9 (rfl:tupOf (.fz (.tuple ds))=some ds);cases e;refine⟨λh=>⟨⟨c,c[k]'(by omega),f,aaB _⟩,λx q d ⟨i,g⟩ j=>?_⟩,λe=>⟨c,f,by omega⟩⟩;subst i;refine Rel.push R (w.pick (bN (g c f) ?_));rw[aaz,j];rfl
def F6(a:DE):DI:=λe Q=>a e λr c=>∃d b,frz1 c r=some (.list d,b)/\Q d b
theorem rW{i:Expr}:PDe X e da->PDi X i e (F6 da)
 |⟨_,h,s⟩=>⟨_,uW h,λb F σ H ρ τ θ n Q c R h q=>s b F σ H ρ τ θ _ _ c R h λv l r ρ1 k ⟨ds,ρ2,e,j⟩=>by
  have d:=k.frz1 e;obtain⟨a,g,rfl,o,f,_⟩:=d.wd.ar (d.mem rfl) (rfl:listOf (.fz (.list ds))=some ds);rw[c]at f;exact⟨a,rfl,⟨g,f⟩,c▸q _ l ds ρ2 [.ref a] [.val (.fz (.list ds))] rfl (λr m=>.inl ⟨_,aaw.mp m⟩) d (pH b a ds) j⟩⟩
def F7(a:DE):DI:=λe Q=>a e λr c=>∃d b,frz1 c r=some (.tuple d,b)/\Q d b
theorem vN{i:Expr}:PDe X e da->PDi X i e (F7 da)
 |⟨_,h,s⟩=>⟨_,yT h,λb F σ H ρ τ θ n Q c R h q=>s b F σ H ρ τ θ _ _ c R h λv l r ρ1 k ⟨ds,ρ2,e,j⟩=>by
  have d:=k.frz1 e;obtain⟨a,g,rfl,o,f,_⟩:=d.wd.b8 (d.mem rfl) (rfl:tupOf (.fz (.tuple ds))=some ds);rw[c]at f;exact⟨a,rfl,⟨g,f⟩,c▸q _ l ds ρ2 [.ref a] [.val (.fz (.tuple ds))] rfl (λr m=>.inl ⟨_,aaw.mp m⟩) d (rV b a ds) j⟩⟩
end
end
section
section
variable{K:Waa}
def fu(ds:List PyData):List PyData:=(List.range ds.length).map λ(i:Nat)=>PyData.tuple [.int (i:Int),ds.getD i .none]
theorem ik(ds:List PyData):(fu ds).length=ds.length:=by simp[fu]
theorem pI{k:Nat}(h:(fu ds)[k]?=some d):∃e,ds[k]?=some e/\d=.tuple [.int k,e]:=by unfold fu at h;rw[aaz]at h;obtain⟨j,c,rfl⟩:=aaH.mp h;obtain⟨a,b⟩:=aao.mp c;simp at a b;subst b;exact⟨ds[k],aaB a,by rw[List.getD_eq_getElem?_getD,aaB a];rfl⟩
theorem Rel.hh{b:Bs}{d e:PyData}{p:Addr}(R:Rel b F σ H ρ τ θ)(w:Wd b H (Z++(stk τ θ++(flat σ ρ++ff F))))(g:(v,OD.fz d)∈Z)(f:(u,OD.fz e)∈Z)(c:H p=none):
  Rel b F σ (upd H p (.tup [v,u])) ρ (.ref p::τ) (.val (.fz (.tuple [d,e]))::θ):=R.dw w rfl (λz a=>by
   simp at a;rcases a with rfl|rfl
   ·exact aad _ g
   ·exact aad _ f) c
theorem pJ(b:Bs)(a:Addr)(ds:List PyData):gj b (FN b.K a) [.ref a] [.val (.fz (.list ds))] (fu ds):=λF v H p s o R k=>by obtain⟨q,c,e,t,f,w⟩:=R.wd.ar b9 (rfl:listOf (.fz (.list ds))=some ds);cases e;rw[ik];refine⟨λh=>⟨⟨c,c[k]'(by omega),f,aaB _⟩,λx u d ⟨T,y,l,n,i,j⟩ m=>?_⟩,λe=>⟨c,f,by omega⟩⟩;subst i j;obtain⟨r,g,rfl⟩:=pI m;refine Rel.hh (Z:=(V.int k,OD.fz (.int k))::c.zip (ds.map OD.fz)) R (w.sc (.int _)) aah (aaf _ (bN (l c f) ?_)) n;rw[aaz,g];rfl
def bE(ds es:List PyData):List PyData:=List.zipWith (λd e=>PyData.tuple [d,e]) ds es
theorem zipD_get{ds es:List PyData}{k:Nat}(h:(bE ds es)[k]?=some d):∃x y,ds[k]?=some x/\es[k]?=some y/\d=.tuple [x,y]:=by
 unfold bE at h;rw[List.getElem?_zipWith]at h;cases a:ds[k]? with
 |none=>rw[a]at h;simp at h
 |some x=>
  cases b:es[k]? with
  |none=>rw[a,b]at h;simp at h
  |some y=>rw[a,b]at h;exact⟨x,y,rfl,rfl,(aaD h).symm⟩
def BA:PyData->Option (Bool×List PyData)
 |.list ds=>some (true,ds)
 |.tuple ds=>some (false,ds)
 |_=>none
def i8(l:Bool)(a:Addr)(xs:List V):ZS:=if l then .lst a xs else .tup a xs
theorem bC{a:Addr}(h:if l then SqL K H a xs else SqT K H a xs):(i8 l a xs).ok K H:=by cases l<;>exact h
theorem gm(l:Bool)(a:Addr)(xs:List V):(i8 l a xs).val=.ref a:=by cases l<;>rfl
theorem aR(l:Bool)(a:Addr)(xs:List V):(i8 l a xs).items=xs:=by cases l<;>rfl
theorem lq(h:BA d=some (l,ds)):d=if l then .list ds else .tuple ds:=by cases d<;>simp only[BA]at h<;>cases h<;>rfl
theorem rX(b:Bs)(a c:Addr)(l g:Bool)(xs ys:List V)(ds es:List PyData):gj b (EY b.K (i8 l a xs) (i8 g c ys)) [.ref a,.ref c] [.val (.pin l xs ds),.val (.pin g ys es)] (bE ds es):=λF N H C J B R k=>by
 obtain⟨D,e,L,m,w⟩:=R.wd.pinned (v:=.ref a) (l:=l) (xs:=xs) (ds:=ds) (by simp[stk]);cases e;obtain⟨G,e,p,f,n⟩:=w.pinned (v:=.ref c) (l:=g) (xs:=ys) (ds:=es) (by simp[stk]);cases e;have r:(bE ds es).length=min ds.length es.length:=by simp[bE]
 rw[r];refine⟨λh=>⟨⟨bC m,bC f,by rw[aR];omega,by rw[aR];omega⟩,λx M d ⟨T,y,z,j,i,u,o,A⟩ s=>?_⟩,λe=>⟨bC m,bC f,by rw[aR,aR];omega⟩⟩;subst o A;rw[aR]at j i;obtain⟨I,O,t,q,rfl⟩:=zipD_get s;rw[<-aac]at n;refine Rel.hh R n (aae _ (bN j ?_)) (aad _ (bN i ?_)) u
 ·rw[aaz,t];rfl
 ·rw[aaz,q];rfl
def F8(t:DA):DI:=λe Q=>t e λf b=>∃x y l k c d a,frzL b f=some ([x,y],a)/\BA x=some (l,c)/\BA y=some (k,d)/\Q (bE c d) a
theorem vO{N}{g:Pos} (L:Gl X "zip") (M:X.mg "zip"=none) (j:starEach [a,b] X.env=[(false,eval a X.env),(false,eval b X.env)]:=by rfl) (t:starEach [b] X.env=[(false,eval b X.env)]:=by rfl):PDa X [a,b] dt->PDi X (.Tuple m N g) (.Call (.Name "zip" p) [a,b] [] pos) (F8 dt)
 |⟨_,h,s⟩=>⟨_,qT L M h j t,λb F C H O B o Qd Q n R h q=>s b F C H O B o _ _ n R h λvs A rs T U S ⟨x,y,l,k,ds,m,d,e,Y,Z,P⟩=>by
  obtain⟨G,J⟩:=fN S U e;obtain⟨v,u,rfl⟩:=len2 J;have w:Wd b A ((v,.fz x)::(u,.fz y)::(stk B o++(flat C d++ff F))):=G.wd;have D:Rel b F C A d B o:=Rel.drops G rfl;obtain⟨xs,w1⟩:=w.pin (lq Y);obtain⟨i,W⟩:=(w1.perm (List.Perm.swap _ _ _)).pin (lq Z);have z:=W.perm (List.Perm.swap _ _ _);obtain⟨a,rfl,_,j,_⟩:=z.pinned (v:=v) (l:=l) (xs:=xs) (ds:=ds) (by simp);obtain⟨c,rfl,_,f,_⟩:=z.pinned (v:=u) (l:=k) (xs:=i) (ds:=m) (by simp);rw[n]at j f;refine⟨i8 l a xs,i8 k c i,by rw[gm,gm],bC j,bC f,n▸q _ A _ d [.ref a,.ref c] [.val (.pin l xs ds),.val (.pin k i m)] rfl (λr I=>by simp at I;rcases I with rfl|rfl<;>exact .inl ⟨_,rfl⟩) ?_ (rX b a c l k xs i ds m) P⟩;exact⟨D.wf,D.al,D.wff,z⟩⟩
end
end
section
def bK:DEnv->List Nat->Option (DEnv×DEnv)
 |ρ,[]=>some ([],ρ)
 |ρ,j::js=>match ρ[j]?.join with
  |some (.fz d)=>match bK ρ js with|some z=>some (some (.fz d)::z.1,z.2)|none=>none
  |some x=>match bK (ρ.set j none) js with|some z=>some (some x::z.1,z.2)|none=>none
  |none=>none
def cJ:DEnv->List Nat->DEnv->DEnv
 |ρ,j::js,some x::os=>cJ (ρ.set j (some x)) js os
 |ρ,_::js,none::os=>cJ ρ js os
 |ρ,_,_=>ρ
def capV(σ:St)(js:List Nat):St:=js.map λj=>(σ[j]?).join
theorem vP(h:o=some (some v)):o.join=some v:=by rw[h];rfl
theorem mY:∀{js:List Nat}{ρ a ρ2:DEnv}{L1 L2:List (V×OD)},Wd b H (L1++(flat σ ρ++L2))->Wf σ ρ->bK ρ js=some (a,ρ2)->Wd b H (flat (capV σ js) a++(L1++(flat σ ρ2++L2)))/\Wf σ ρ2/\Wf (capV σ js) a
 |[],ρ,a,ρ2,L1,L2,w,wf,e=>by simp only[bK]at e;cases e;exact⟨w,wf,trivial⟩
 |j::js,ρ,a,ρ2,L1,L2,w,wf,e=>by
  cases h:ρ[j]?.join with
  |none=>simp[bK,h]at e
  |some x=>
   have l:=join_some h;obtain⟨v,n⟩:=wf.get l;have t:Wd b H ((v,x)::(L1++(flat σ (ρ.set j none)++L2))):=w.perm ((((a9 l n).append_right _).append_left _).trans aar);have k:∀{y:OD}{c:DEnv}{z:DEnv×DEnv},Wd b H ((v,y)::(L1++(flat σ c++L2)))->Wf σ c->bK c js=some z->(some y::z.1,z.2)=(a,ρ2)->Wd b H (flat (capV σ (j::js)) a++(L1++(flat σ ρ2++L2)))/\Wf σ ρ2/\Wf (capV σ (j::js)) a:=λ{y c z} o wf1 g f=>by
    cases f;obtain⟨C,m,p⟩:=mY (L1:=(v,y)::L1) o wf1 (show bK c js=some (z.1,z.2) from g);have A:capV σ (j::js)=some v::capV σ js:=by unfold capV;rw[aaj,vP n]
    rw[A];exact⟨C.perm aar,m,p⟩
   have u:∀{z:DEnv×DEnv},bK (ρ.set j none) js=some z->(some x::z.1,z.2)=(a,ρ2)->Wd b H (flat (capV σ (j::js)) a++(L1++(flat σ ρ2++L2)))/\Wf σ ρ2/\Wf (capV σ (j::js)) a:=λ{z} g f=>k t wf.off g f;have i:∀{c:DEnv}{y:OD},(match bK c js with|some z=>some (some y::z.1,z.2)|none=>none)=some (a,ρ2)->∃z,bK c js=some z/\(some y::z.1,z.2)=(a,ρ2):=λ{c y} q=>by
    cases s:bK c js with
    |none=>rw[s]at q;cases q
    |some z=>rw[s]at q;exact⟨z,rfl,aaD q⟩
   cases x with
   |fz d=>simp only[bK,h]at e;obtain⟨z,g,f⟩:=i e;have o:=t.dup;have D:j<ρ.length:=(aao.mp l).1;have B:σ.set j (some v)=σ:=set_self n;have r:=bY (v:=v) (x:=.fz d) D wf.len;rw[B,set_self l]at r;exact k (o.perm (List.Perm.cons _ (aar.symm.trans ((r.symm.append_right _).append_left _)))) wf g f
   |_=>simp only[bK,h]at e;obtain⟨z,g,f⟩:=i e;exact u g f
theorem i9:∀{js:List Nat}{ρ a:DEnv}{L1 L2:List (V×OD)},Wd b H (L1++(flat (capV σ js) a++(flat σ ρ++L2)))->Wf σ ρ->Wf (capV σ js) a->Wd b H (L1++(flat σ (cJ ρ js a)++L2))/\Wf σ (cJ ρ js a)
 |[],ρ,a,L1,L2,w,wf,wf2=>by
  cases a with
  |nil=>exact⟨w,wf⟩
  |cons _ _=>simp[capV,Wf]at wf2
 |j::js,ρ,[],L1,L2,w,wf,wf2=>by simp[capV,Wf]at wf2
 |j::js,ρ,o::a,L1,L2,w,wf,wf2=>by
  have m:capV σ (j::js)=(σ[j]?).join::capV σ js:=rfl;rw[m]at w wf2;cases o with
  |none=>rw[aU]at w;exact i9 (js:=js) w wf (by cases h:(σ[j]?).join<;>(rw[h]at wf2;exact wf2))
  |some x=>
   cases h:(σ[j]?).join with
   |none=>rw[h]at wf2;simp[Wf]at wf2
   |some v=>
    rw[h]at w wf2;have l:Wd b H ((v,x)::(L1++(flat (capV σ js) a++(flat σ ρ++L2)))):=w.perm (aar )
    ·have f:=join_some h;have k:j<ρ.length:=by rw[<-wf.len];exact(aao.mp f).1
     have e:σ.set j (some v)=σ:=set_self f;have d:=bY (v:=v) (x:=x) k wf.len;rw[e]at d;have c:Wf σ (ρ.set j (some x)):=by have:=wf.put (i:=j) (v:=v) (x:=x);rw[e]at this;exact this
     refine i9 (ρ:=ρ.set j (some x)) ?_ c wf2;have g:Wd b H (((v,x)::L1++flat (capV σ js) a)++(flat σ (ρ.set j none)++L2)):=Wd.i5 (by simpa using l) wf j;refine g.perm ?_;rw[<-aac L1];refine List.Perm.trans ?_ ((d.symm.append_right _).append_left _);simp only[aaG];exact aar.symm
theorem Wf.drop:∀{n:Nat}{σ:St}{ρ:DEnv},Wf σ ρ->Wf (σ.drop n) (ρ.drop n)
 |0,_,_,h=>h
 |_+1,[],[],_=>trivial
 |_+1,[],_::_,h=>by simp[Wf]at h
 |_+1,_::_,[],h=>by simp[Wf]at h
 |n+1,o::σ,none::ρ,h=>Wf.drop (n:=n) h
 |n+1,some _::σ,some _::ρ,h=>Wf.drop (ρ:=ρ) h
 |_+1,none::_,some _::_,h=>by simp[Wf]at h
theorem eO:∀{n:Nat}{σ:St}{ρ:DEnv},Wf σ ρ->∃L,flat σ ρ=L++flat (σ.drop n) (ρ.drop n)
 |0,σ,ρ,_=>⟨[],rfl⟩
 |_+1,[],[],_=>⟨[],rfl⟩
 |_+1,[],_::_,h=>by simp[Wf]at h
 |_+1,_::_,[],h=>by simp[Wf]at h
 |n+1,o::σ,none::ρ,h=>by obtain⟨L,e⟩:=eO (ρ:=ρ) h;exact⟨L,by rw[aU];exact e⟩
 |n+1,some v::σ,some x::ρ,h=>by obtain⟨L,e⟩:=eO (ρ:=ρ) h;exact⟨(v,x)::L,by simp only[flat,aaG,List.drop_succ_cons];rw[e]⟩
 |_+1,none::_,some _::_,h=>by simp[Wf]at h
theorem rY:flat (List.replicate n none++σ) (List.replicate n none++ρ)=flat σ ρ:=by
 induction n with
 |zero=>rfl
 |succ n a=>rw[aa2,aa2,aaG,aaG,aU,a]
theorem zQ(h:Wf σ ρ):Wf (List.replicate n none++σ) (List.replicate n none++ρ):=by
 induction n with
 |zero=>exact h
 |succ n a=>rw[aa2,aa2];exact a
theorem Rel.grow(R:Rel b F σ H ρ (v::(vs++[.ref D])) (.val (.fz d)::(rs++[.val (.lst (out.map OD.fz))])))(e:vs.length=rs.length):
  ∃ys,H D=some (.lst ys)/\ys.length=out.length/\Rel b F σ (upd H D (.lst (ys++[v]))) ρ (vs++[.ref D]) (rs++[.val (.lst ((out++[d]).map OD.fz))]):=by
 have f:=R.drop;have j:stk (vs++[.ref D]) (rs++[.val (.lst (out.map OD.fz))])=stk vs rs++[(.ref D,.lst (out.map OD.fz))]:=by rw[aD e];rfl
 have w:Wd b H ((v,.fz d)::((stk vs rs++[(.ref D,.lst (out.map OD.fz))])++(flat σ ρ++ff F))):=by have:=R.wd;simp only[stk]at this;rw[j]at this;exact this
 have r:Wd b H ([v].zip [OD.fz d]++((.ref D,.lst (out.map OD.fz))::(stk vs rs++(flat σ ρ++ff F)))):=w.perm (by
  refine List.Perm.cons _ ?_;rw[aac];exact aar)
 obtain⟨a,ys,s,m,k,p⟩:=r.pa (ks:=[]) rfl rfl;cases s;refine⟨ys,m,by simpa using k,f.wf,?_,f.wff,?_⟩
 ·obtain⟨n,_⟩:=(aP e).mp f.al;exact(aP e).mpr ⟨n,trivial⟩
 ·have o:=p (ys++[v]) ((out++[d]).map OD.fz) λS H A C t l h q=>⟨A++C,by rw[aaC];exact Ows.append l h,q,λc i=>aai.mp i⟩
  have g:stk (vs++[.ref D]) (rs++[.val (.lst ((out++[d]).map OD.fz))])=stk vs rs++[(.ref D,.lst ((out++[d]).map OD.fz))]:=by rw[aD e];rfl
  rw[g];refine o.perm ?_;rw[aac];exact aar.symm
theorem zR{a:Type}(A B C T F:List a):(A++(B++(C++(T++F)))).Perm (B++(A++((T++C)++F))):=by refine(abM A B _).trans (aaY _ (aaY _ ?_));rw[<-aac];exact aaS.append_right _
abbrev DC:=DEnv->(List PyData->DEnv->Prop)->Prop
def pK(K:Waa)(tc:TC)(i:DC):Prop:=∀(b:Bs) (F:List Fr) (d:St) (H:Hp) (g:DEnv) (vs:List V) (e:List OR) (D:Addr) (a:List PyData) (f:List PyData->DEnv->Prop) (Q:Hp->Prop),b.K=K->vs.length=e.length->a.length<1000000->Rel b F d H g (vs++[.ref D]) (e++[.val (.lst (a.map OD.fz))])->i g f ->
 (∀h c o,Rel b F d h c (vs++[.ref D]) (e++[.val (.lst ((a++o).map OD.fz))])->o.length<=1->f o c->Q h)->tc D d H Q
inductive PDc (Y:Cx)(ifs:List Expr)(elt:Expr)(dc:DC):Prop|mk (tc:TC) (h:∀D,k5 Y D ifs elt tc) (s:pK Y.K tc dc)
section
variable{K:Waa}
def rZ(a:DE):DC:=λe Q=>a e λr c=>∃d b,frz1 c r=some (d,b)/\Q [d] b
theorem j2(s:bp K ta da):pK K (mN ta) (rZ da):=λb F n H f w z D p t Q a m y R h q=>s b F n H f _ _ _ _ a R h λv x r l k ⟨d,j,e,g⟩=>by obtain⟨c,i,u,o⟩:=(k.frz1 e).grow m;exact⟨c,i,aax (by omega) (by decide:1000001<=sizeLine),q _ _ _ o (aag _) g⟩
theorem pL:PDe Y elt da->PDc Y [] elt (rZ da)
 |⟨_,h,s⟩=>⟨_,λD=>oY h,j2 s⟩
def vQ(t:DT)(a:DE):DC:=λc Q=>t c λk b=>if k=true then rZ a b Q else Q [] b
theorem r6:PDt Y c dT->PDe Y elt da->PDc Y [c] elt (vQ dT da)
 |⟨_,a,s1⟩,⟨_,h2,s2⟩=>⟨_,λD=>qP a h2,λb F σ H ρ vs rs D out j Q d g i R h q=>s1 b F σ H ρ _ _ _ _ d R h λk f ρ1 e a=>by
  cases k with
  |true=>rw[if_pos rfl]at a ⊢;exact j2 s2 b F σ f ρ1 vs rs D out _ _ d g i e a q
  |false=>rw[if_neg aak]at a ⊢;exact q f ρ1 [] (by rw[aaq];exact e) (aaK _) a⟩
def mZ(m:DI)(nt:Nat)(fr:List Nat)(g:DG)(act:DC):DE:=λc Q=>m c λi j=>i.length<1000000/\∃a e,bK j fr=some (a,e)/\∃h:Nat->List PyData->DEnv->Prop,h 0 [] (List.replicate nt none++a) /\
 (∀k d b c,i[k]?=some d->h k b c->g (.fz d) c λl=>act l λo f=>h (k+1) (b++o) f)/\∀b c,h i.length b c->Q (.val (.lst (b.map OD.fz))) (cJ e fr (c.drop nt))
theorem zS{a:Type}(x:a)(S L P T C F:List a):(x::(S++((L++P)++((T++C)++F)))).Perm (L++((x::(S++T))++(P++(C++F)))):=by
 have e:x::(S++((L++P)++((T++C)++F)))=x::(S++(L++(P++(T++(C++F))))):=by simp only[aac]
 rw[e];refine List.Perm.trans ?_ aar.symm;refine List.Perm.cons _ ((abM S L _).trans (aaY _ ?_));show (S++(P++(T++(C++F)))).Perm ((S++T)++(P++(C++F)));rw[aac];exact aaY _ (abM P T _)
def SndY{c:Type}(acc:c->OD)(ln:c->Nat)(K:Waa)(tc:TC)(da:c->DEnv->(c->DEnv->Prop)->Prop):Prop:=∀(b:Bs) (F:List Fr) (e:St) (H:Hp) (h:DEnv) (vs:List V) (f:List OR) (D:Addr) (a:c) (g:c->DEnv->Prop) (Q:Hp->Prop),b.K=K->vs.length=f.length->ln a<1000000->Rel b F e H h (vs++[.ref D]) (f++[.val (acc a)])->da a h g ->
 (∀i d o,Rel b F e i d (vs++[.ref D]) (f++[.val (acc o)])->ln o<=ln a+1->g o d->Q i)->tc D e H Q
abbrev TZ:=Addr->TB
def CO{d:Type}(acc:d->OD)(ln:d->Nat)(K:Waa)(nt:Nat)(tc:TZ)(da:d->DEnv->(d->DEnv->Prop)->Prop):Prop:=∀(b:Bs) (F:List Fr) (g:St) (H:Hp) (i:DEnv) (vs:List V) (f:List OR) (D:Addr) (a:d) (h:d->DEnv->Prop) (Q:St->Hp->Prop),b.K=K->vs.length=f.length->NoRf Ff f->ln a<1000000->Rel b F g H i (vs++[.ref D]) (f++[.val (acc a)])->da a i h ->
 (∀c k e o,(∀j,nt<=j->c[j]?=g[j]?)->Rel b F c k e (vs++[.ref D]) (f++[.val (acc o)])->ln o<=ln a+1->h o e->Q c k)->tc D g H Q
theorem SndY.z{a:Type}{acc:a->OD}{ln:a->Nat}{nt:Nat}{tc:TC}{da:a->DEnv->(a->DEnv->Prop)->Prop}(h:SndY acc ln K tc da):CO acc ln K nt (λD σ H Q=>tc D σ H (Q σ)) da:=
 λb F σ H k m s D d f Q e p _ r R j q=>h b F σ H k m s D d f (Q σ) e p r R j λn c o i g l=>q σ n c o (λ_ _=>rfl) i g l
def tCZ(o0:HO)(J:It)(nt:Nat)(fr:List Nat)(g:CC->TG)(tc:CC->TZ)(σ:St)(a:Hp)(Q:VK):Prop:=∀(c:CC) D,a D=none->FK J (g c) (tc c D) (bx nt fr σ) (upd a D o0) λ_ b=>Q (.ref D) b
theorem pM{v:Type}{acc:v->OD}{ln:v->Nat}{a0:v}{o0:HO}{nt:Nat}{fr:List Nat}{g:CC->TG}{tc:CC->TZ}{dg:DG}{da:v->DEnv->(v->DEnv->Prop)->Prop}(T:∀{b:Bs}{H:Hp}{L:List (V×OD)}{D:Addr},Wd b H L->H D=none->Wd b (upd H D o0) ((.ref D,acc a0)::L))(l0:ln a0=0)(s2:∀c,ll K Ff nt (g c) dg)(s3:∀c,CO acc ln K nt (tc c) da){b:Bs}{F:List Fr}{σ:St}{G:Hp}{ρ1 ρ2 h:DEnv}{τ vs:List V}{θ rs:List OR}{J:It}{ds:List PyData}{Iv:Nat->v->DEnv->Prop}{Q:VK}(hK:b.K=K)(s:vs.length=rs.length)(W:NoRf Ff rs)
  (u:Rel b F σ G ρ1 (vs++τ) (rs++θ)) (it:gj b J vs rs ds) (a1:ds.length<1000000) (hc:bK ρ1 fr=some (h,ρ2)) (i0:Iv 0 a0 (List.replicate nt none++h)) (step:∀k d out ρ,ds[k]?=some d->Iv k out ρ->dg (.fz d) ρ λa=>da out a λo w=>Iv (k+1) o w)
  (q:∀p D out a,Rel b F σ p (cJ ρ2 fr (a.drop nt)) (.ref D::(vs++τ)) (.val (acc out)::(rs++θ))->Iv ds.length out a->Q (.ref D) p):tCZ o0 J nt fr g tc σ G Q:=by
 intro cc D hD;have w1:Wd b G (stk vs rs++(flat σ ρ1++(stk τ θ++ff F))):=u.wd.perm (by
  rw[aD s,aac];refine aaY _ ?_;rw[<-aac,<-aac];exact aaS.append_right _)
 obtain⟨w2,z,Y⟩:=mY w1 u.wf hc;have al:=(aP s).mp u.al;have w3:=T w2 hD;have R2:Rel b (⟨σ,ρ2,τ,θ⟩::F) (bx nt fr σ) (upd G D o0) (List.replicate nt none++h) (vs++[.ref D]) (rs++[.val (acc a0)]):=by
  refine⟨zQ Y,(aP s).mpr ⟨W.al0 al.1,trivial⟩,λf O=>?_,?_⟩
  ·rcases aab.mp O with rfl|O
   ·exact⟨z,al.2⟩
   ·exact u.wff f O
  ·have ec:flat (bx nt fr σ) (List.replicate nt none++h)=flat (capV σ fr) h:=rY;rw[ec,aD s];refine w3.perm ?_;have ef:ff (⟨σ,ρ2,τ,θ⟩::F)=(stk τ θ++flat σ ρ2)++ff F:=rfl;rw[ef];have P:stk [V.ref D] [OR.val (acc a0)]=[(V.ref D,acc a0)]:=rfl;rw[P];refine List.Perm.trans (List.Perm.cons _ (zR (flat (capV σ fr) h) (stk vs rs) (flat σ ρ2) (stk τ θ) (ff F))) ?_;rw[aac (stk vs rs)];exact aar.symm
 refine⟨λi m l p=>m=ds.length-i/\i<=ds.length/\(∀j,nt<=j->l[j]?=(bx nt fr σ)[j]?)/\∃out a,ln out<=i/\Rel b (⟨σ,ρ2,τ,θ⟩::F) l p a (vs++[.ref D]) (rs++[.val (acc out)])/\Iv i out a,⟨_,rfl,aaK _,λ_ _=>rfl,a0,_,abi l0,R2,i0⟩,?_⟩;rintro i m l p ⟨rfl,hi,y,out,a,ho,C,Z⟩;obtain⟨go,B⟩:=it _ l p a [.ref D] [.val (acc out)] C i;by_cases t:i<ds.length
 ·obtain⟨g1,g2⟩:=go t;refine .inr ⟨g1,λx H2 hy=>?_⟩;have A:ds[i]?=some ds[i]:=aaB t;have nn:NoRf Ff (rs++[.val (acc out)]):=NoRf.app W λr hr=>.inl ⟨_,aaw.mp hr⟩;refine s2 cc b _ l H2 a _ _ x _ _ _ hK nn (g2 x H2 _ hy A) (step i _ out a A Z) λS H3 N R3 k3 h3=>?_;exact s3 cc b _ S H3 N vs rs D out _ _ hK s W (by omega) R3 h3 λa2 H4 I o k4 R4 lo h4=>⟨_,by omega,rfl,t,λj X=>(k4 j X).trans ((k3 j X).1.trans (y j X)),o,I,by omega,R4,h4⟩
 ·have e:i=ds.length:=by omega
  subst e;refine .inl ⟨B rfl,q p D out a ?_ Z⟩;have A:l.drop nt=capV σ fr:=by apply List.ext_getElem?;intro j;rw[abp,y _ (by omega)];unfold bx capV;rw[abD (by simp),abj,abZ]
  have w4:Wd b p ((.ref D,acc out)::(stk vs rs++(flat l a++((stk τ θ++flat σ ρ2)++ff F)))):=C.wd.perm (by
   rw[aD s];have P:stk [V.ref D] [OR.val (acc out)]=[(V.ref D,acc out)]:=rfl;rw[P,aac];exact aar)
  obtain⟨L0,eL⟩:=eO (n:=nt) C.wf;rw[eL,A]at w4;have w5:Wd b p (((.ref D,acc out)::stk (vs++τ) (rs++θ))++(flat (capV σ fr) (a.drop nt)++(flat σ ρ2++ff F))):=by refine Wd.drops (L1:=L0) (w4.perm ?_);rw[aD s];exact zS (.ref D,acc out) (stk vs rs) L0 (flat (capV σ fr) (a.drop nt)) (stk τ θ) (flat σ ρ2) (ff F)
  have U:Wf (capV σ fr) (a.drop nt):=A▸C.wf.drop;obtain⟨w6,M⟩:=i9 w5 z U;exact⟨M,u.al,u.wff,w6⟩
theorem j3{f:Type}{acc:f->OD}{ln:f->Nat}{a0:f}{o0:HO}{nt:Nat}{fr:List Nat}{g:CC->TG}{tc:CC->TC}{dg:DG}{da:f->DEnv->(f->DEnv->Prop)->Prop}(j:∀{b:Bs}{H:Hp}{L:List (V×OD)}{D:Addr},Wd b H L->H D=none->Wd b (upd H D o0) ((.ref D,acc a0)::L))(s:ln a0=0)(w:∀c,ll K Ff nt (g c) dg)(v:∀c,SndY acc ln K (tc c) da){b:Bs}{F:List Fr}{σ:St}{l:Hp}{ρ1 ρ2 a:DEnv}{τ vs:List V}{θ rs:List OR}{J:It}{ds:List PyData}{Iv:Nat->f->DEnv->Prop}{Q:VK}(hK:b.K=K)(u:vs.length=rs.length)(r:NoRf Ff rs)
  (t:Rel b F σ l ρ1 (vs++τ) (rs++θ)) (it:gj b J vs rs ds) (i:ds.length<1000000) (n:bK ρ1 fr=some (a,ρ2)) (p:Iv 0 a0 (List.replicate nt none++a)) (step:∀k d out ρ,ds[k]?=some d->Iv k out ρ->dg (.fz d) ρ λe=>da out e λo h=>Iv (k+1) o h)
  (q:∀m D out e,Rel b F σ m (cJ ρ2 fr (e.drop nt)) (.ref D::(vs++τ)) (.val (acc out)::(rs++θ))->Iv ds.length out e->Q (.ref D) m):tCZ o0 J nt fr g (tZ tc) σ l Q:=
 pM (tc:=tZ tc) j s w (λc=>(v c).z) hK u r t it i n p step q
theorem pN{l:DC}(z:∀c,ll K Ff nt (g c) dg)(y:∀c,pK K (tc c) l){b:Bs}{F:List Fr}{Iv:Nat->List PyData->DEnv->Prop}(i:b.K=K)(m:vs.length=rs.length)(s:NoRf Ff rs)
  (u:Rel b F σ H1 ρ1 (vs++τ) (rs++θ)) (it:gj b J vs rs ds) (j:ds.length<1000000) (p:bK ρ1 fr=some (inner,ρ2)) (r:Iv 0 [] (List.replicate nt none++inner)) (step:∀k d out ρ,ds[k]?=some d->Iv k out ρ->dg (.fz d) ρ λa=>l a λo e=>Iv (k+1) (out++o) e)
  (q:∀f D out a,Rel b F σ f (cJ ρ2 fr (a.drop nt)) (.ref D::(vs++τ)) (.val (.lst (out.map OD.fz))::(rs++θ))->Iv ds.length out a->Q (.ref D) f):mO (λ_ _ k=>k J H1) nt fr g tc σ H1 Q:=
 j3 (da:=λout ρ Q=>l ρ λo a=>Q (out++o) a) (λw h=>Wd.ej w rfl h) rfl z (λc b F σ H ρ vs rs D out n Q i m x R h q=>y c b F σ H ρ vs rs D out (λo a=>n (out++o) a) Q i m x R h λf a o t A v=>q f a (out++o) t (by rw[aau];omega) v) i m s u it j p r step q
theorem j4(x:CM K wi di)(I:∀c,ll K Ff nt (g c) dg)(A:∀c,pK K (tc c) dc):bp K (mO wi nt fr g tc) (mZ di nt fr dg dc):=by intro b F B H t w r L Q l R h q;refine x b F B H t w r _ _ l R h λJ O P y N S i o v s G=>?_;obtain⟨e,d,u,m,M,n,a,j⟩:=G;exact pN I A l i o v s e m n a λz D k f p C=>q _ z _ _ (Rel.drops (Rel.tw p i) i) (j k f C)
end
end
section
def xP(d:TT)(e:TE):TC:=λD a H Q=>d a H λb c=>if b=true then vn e D a c Q else Q c
section
variable{X Y:Cx}{x c:Expr}{ifs:List Expr}{D:Addr}
theorem lr{a:TE}(b:PE Y x a):jU Y D [] x (vn a):=qN (xN b)
theorem pO{b:TT}{a:TE}(e:PT Y c b)(d:PE Y x a):jU Y D [c] x (xP b a):=qO e (xN d)
end
theorem Rel.growS{b:Bs}{F:List Fr}{σ:St}{H:Hp}{ρ:DEnv}{vs:List V}{rs:List OR}{v:V}{d:PyData}{D:Addr}{ns:List Int}(R:Rel b F σ H ρ (v::(vs++[.ref D])) (.val (.fz d)::(rs++[.val (.st ns)])))(f:vs.length=rs.length)(m:Int):
  ∃M n,H D=some (.set M n)/\n<=ns.length/\Rel b F σ (upd H D (.set (λk=>M k||decide (k=m)) (if M m then n else n+1))) ρ (vs++[.ref D]) (rs++[.val (.st (ns++[m]))]):=by
 have c:=R.drop;have g:∀y:OD,stk (vs++[.ref D]) (rs++[.val y])=stk vs rs++[(.ref D,y)]:=λy=>by rw[aD f];rfl
 have w:Wd b H ((v,.fz d)::((stk vs rs++[(.ref D,.st ns)])++(flat σ ρ++ff F))):=by have:=R.wd;simp only[stk]at this;rw[g]at this;exact this
 have p:Wd b H ((v,.fz d)::((.ref D,.st ns)::(stk vs rs++(flat σ ρ++ff F)))):=w.perm (by
  refine List.Perm.cons _ ?_;rw[aac];exact aar)
 obtain⟨a,M,n,e,j,h,i,o⟩:=p.mutS;cases e;refine⟨M,n,j,i,c.wf,?_,c.wff,?_⟩
 ·obtain⟨l,_⟩:=(aP f).mp c.al;exact(aP f).mpr ⟨l,trivial⟩
 ·rw[g];refine(o _ _ (ns++[m]) (λk=>by rw[h k];simp[Bool.decide_or]) (by rw[aau,aaQ];split<;>omega)).perm ?_;rw[aac];exact aar.symm
end
section
section
variable{K:Waa}
theorem PDg.ex{Y:CC->Cx}(hK:∀c,(Y c).K=K)(h:∀c,PDg (Y c) Ff m tg dg):∃g:CC->TG,∀c,PG (Y c) tg (g c)/\ll K Ff m (g c) dg:=
 abq (r:=λc g=>PG (Y c) tg g/\ll K Ff m g dg) λc=>(by obtain⟨a,b,d⟩:=h c;exact⟨a,b,hK c▸d⟩)
theorem PDc.ex{Y:CC->Cx}(hK:∀c,(Y c).K=K)(h:∀c,PDc (Y c) ifs elt dc):∃g:CC->TC,∀c,(∀D,k5 (Y c) D ifs elt (g c))/\pK K (g c) dc:=
 abq (r:=λc g=>(∀D,k5 (Y c) D ifs elt g)/\pK K g dc) λc=>(by obtain⟨a,b,d⟩:=h c;exact⟨a,b,hK c▸d⟩)
theorem vR(e:X.calm=true)(S:CompScope N nt fr X.N scope X.env.scope)(f:∀x,foldedSetIterable iter X.env x=pure x:=by intro _;rfl)(j:PDi X tg iter di)(d:∀c:CC,PDg (bJ X N scope c) Ff nt tg dg)(h:∀c:CC,PDc (bJ X N scope c) ifs elt dc):
  PDe X (.ListComp elt [⟨tg,iter,ifs,0⟩] scope pos) (mZ di nt fr dg dc):=by
 obtain⟨l,i,k⟩:=j;obtain⟨g,b⟩:=PDg.ex (K:=X.K) (Y:=λc=>bJ X N scope c) (λ_=>rfl) d;obtain⟨m,a⟩:=PDc.ex (Y:=λc=>bJ X N scope c) (λ_=>rfl) h;exact⟨_,vc e S i (λc=>(b c).1) (λc D=>(a c).1 D) f,j4 k (λc=>(b c).2) λc=>(a c).2⟩
end
def bc:List Bool->DEnv->List OR->Option (List OD×DEnv)
 |[],ρ,[]=>some ([],ρ)
 |true::ios,ρ,r::rs=>match mv1 ρ r with
  |some (x,ρ1)=>match bc ios ρ1 rs with|some (xs,ρ2)=>some (x::xs,ρ2)|none=>none
  |none=>none
 |false::ios,ρ,r::rs=>match frz1 ρ r with
  |some (d,ρ1)=>match bc ios ρ1 rs with|some (xs,ρ2)=>some (.fz d::xs,ρ2)|none=>none
  |none=>none
 |_,_,_=>none
def gn:List Bool->List OR->List OD->DEnv->DEnv
 |true::ios,.rf j::rs,y::ys,ρ=>gn ios rs ys (ρ.set j (some y))
 |_::ios,_::rs,_::ys,ρ=>gn ios rs ys ρ
 |_,_,_,ρ=>ρ
theorem argsR_ok:∀{ios:List Bool}{vs:List V}{rs:List OR}{ρ a:DEnv}{xs:List OD}{τ:List V}{θ:List OR},Rel b F σ H ρ (vs++τ) (rs++θ)->vs.length=rs.length->bc ios ρ rs=some (xs,a)->Rel b F σ H a (vs++τ) (xs.map OR.val++θ)/\vs.length=xs.length
 |[],[],[],_,_,_,_,_,R,_,e=>by simp only[bc]at e;cases e;exact⟨R,rfl⟩
 |true::ios,v::vs,r::rs,ρ,a,ds,τ,θ,R,e,h=>by
  simp only[bc]at h;split at h
  ·rename_i x ρ1 f;split at h
   ·rename_i xs ρ2 g;cases h;have j:Rel b F σ H ρ1 (v::(vs++τ)) (.val x::(rs++θ)):=Rel.mv1 R f;have d:vs.length=rs.length:=by simpa using e
    obtain⟨i,c⟩:=argsR_ok (Rel.tw j d) d g;exact⟨Rel.u4 i (by rw[c,aaa]),by simp[c]⟩
   ·cases h
  ·cases h
 |false::ios,v::vs,r::rs,ρ,a,ds,τ,θ,R,e,h=>by
  simp only[bc]at h;split at h
  ·rename_i x ρ1 f;split at h
   ·rename_i xs ρ2 g;cases h;have j:Rel b F σ H ρ1 (v::(vs++τ)) (.val (.fz x)::(rs++θ)):=Rel.frz1 R f;have d:vs.length=rs.length:=by simpa using e
    obtain⟨i,c⟩:=argsR_ok (Rel.tw j d) d g;exact⟨Rel.u4 i (by rw[c,aaa]),by simp[c]⟩
   ·cases h
  ·cases h
 |_,[],_::_,_,_,_,_,_,_,e,_=>by simp at e
 |_,_::_,[],_,_,_,_,_,_,e,_=>by simp at e
 |[],_::_,_::_,_,_,_,_,_,_,_,h=>by simp[bc]at h
 |true::_,[],[],_,_,_,_,_,_,_,h=>by simp[bc]at h
 |false::_,[],[],_,_,_,_,_,_,_,h=>by simp[bc]at h
theorem Rel.give(R:Rel b F σ H ρ (v::τ) (.val y::θ))(ev:σ[j]?=some (some v)):Rel b F σ H (ρ.set j (some y)) τ θ:=
 Rel.back R.wf (Rel.drop R).al R.wff ev (Wd.i5 R.wd R.wf j)
theorem cb:∀{ios:List Bool}{vs:List V}{rs:List OR}{ys:List OD}{ρ:DEnv},Al σ vs rs->vs.length=ys.length->Rel b F σ H ρ (vs++τ) (ys.map OR.val++θ)->Rel b F σ H (gn ios rs ys ρ) τ θ
 |ios,[],[],[],ρ,_,_,R=>by cases ios with|nil=>exact R|cons i ios=>cases i<;>exact R
 |[],v::vs,r::rs,y::ys,ρ,al,e,R=>by
  have a:Al σ vs rs:=by cases r with|val _=>exact al|rf _=>exact al.2
  have:=cb (ios:=[]) a (by simpa using e) (Rel.drop R);cases vs<;>cases rs<;>cases ys<;>exact this
 |true::ios,v::vs,.rf j::rs,y::ys,ρ,al,e,R=>cb (ys:=ys) al.2 (by simpa using e) (Rel.give R al.1)
 |true::ios,v::vs,.val x::rs,y::ys,ρ,al,e,R=>cb (ys:=ys) al (by simpa using e) (Rel.drop R)
 |false::ios,v::vs,.rf j::rs,y::ys,ρ,al,e,R=>cb (ys:=ys) al.2 (by simpa using e) (Rel.drop R)
 |false::ios,v::vs,.val x::rs,y::ys,ρ,al,e,R=>cb (ys:=ys) al (by simpa using e) (Rel.drop R)
 |_,[],_::_,_,_,al,_,_=>by simp[Al]at al
 |_,_::_,[],_,_,al,_,_=>by simp[Al]at al
 |_,[],_,_::_,_,_,e,_=>by simp at e
 |_,_::_,_,[],_,_,e,_=>by simp at e
structure FnD (P:Program)(w:World)(K:Waa)(mg:Str->Option Value)(base:Heap)(k:Nat)(f:Addr)(fd:FuncData)(ps:List Str)(sp:DSp):Prop where
 ok:FnOk P w K mg base CX0 k f fd ps (toSp K sp)
 mono:vq sp
section
variable{X:Cx}
def xQ(sp:DSp)(ios:List Bool)(t:DA):DE:=λf Q=>t f λd b=>∃c a,bc ios b d=some (c,a)/\sp c λx e=>Q (.val x) (gn ios d e a)
theorem r9(G:FnD X.prog X.w X.K X.mg X.base k f fd ps sp)(B:zw X.K ta dt):bp X.K (xF (toSp X.K sp) [] E0 ta) (xQ sp ios dt):=λb F s H y g d J Q l R h q=>B b F s H y g d _ _ l R h λp M N A r o ⟨L,e,u,z⟩=>by
  obtain⟨n,c⟩:=argsR_ok o r u;have t:=((aP r).mp o.al).1;have w:=n.vals c;rw[aaq,<-l];refine w.call c G.mono (G.mono _ _ _ (λx m I a v i C=>q v i _ _ ?_ I) z);have D:Rel b F s i e (v::(p++g)) (.val x::(m.map OR.val++d)):=by have j:=n.drops (by simpa using c);refine⟨j.wf,(aP (by simpa using a)).mpr ⟨i7 a,j.al⟩,j.wff,?_⟩;show Wd b i ((v,x)::(stk (p++g) (m.map OR.val++d)++_));rw[aD (by simpa using a),cH a,aac];exact C
  exact cb t a (Rel.tw D (by simpa using a))
theorem vS{ios:List Bool} (G:FnD X.prog X.w X.K X.mg X.base k f fd ps sp) (h:Room k X.A) (g:Gl X x) (i:X.mg x=some (.ref f)) (hk:PySem.W.keepIn X.K (.ref f)=true) (d:Binds X.K fd ps []) (a:(x==("__debug__":Str))=false:=by decide)
  (c:starEach (e::es) X.env=(false,eval e X.env)::starEach es X.env:=by rfl) (b:(backTo pos (starEach es X.env)).any (·.1)=false:=by rfl):PDa X (e::es) dt->PDe X (.Call (.Name x p) (e::es) [] pos) (xQ sp ios dt)
 |⟨_,h1,s1⟩=>⟨_,mJ (E:=E0) G.ok h g i hk d .nil xG h1 a c b,r9 G s1⟩
end
def CP:PyData->Bool
 |.int _=>true
 |.bool _=>true
 |.str _=>true
 |.none=>true
 |_=>false
theorem Fz.sc{K:Waa}(h:Fz K S H v d)(e:CP d=true):Sc v d:=by cases h<;>first|constructor|cases e
theorem Wd.x2(w:Wd b H L)(k:Kp (λa=>a∈([]:List Addr)) H H'):Wd b H' L:=by
 obtain⟨A,i,r,h⟩:=w.out;have l:=w.kg i;have j:∀a o,H a=some o->H' a=some o:=λa o e=>k.k a o e aav;have g:∀a,a∈A->H' a=H a:=λa q=>by
  cases e:H a with
  |none=>exact absurd e (Ows.ne i a q)
  |some o=>exact j a o e
 refine⟨⟨A,Ows.step (k.weak λc f=>absurd f aav) (λc z=>.inl z) l g i,r,h⟩,w.fr.trans (k.weak λc f=>absurd f aav),w.s0,λa m e z=>?_⟩;have p:=(w.s0 a z).1;cases d:H a with
 |none=>exact p (w.fr.n a d)
 |some o=>have:=j a o d;rw[e]at this;cases this;exact w.nt a m d z
def zT(sp:DSp)(t:DA):DE:=λc Q=>t c λe a=>∃b,cE a e=some b/\sp (b.map OD.fz) λx _=>∃d,x=.fz d/\CP d=true/\Q (.val (.fz d)) a
theorem zU{b:Bs}:∀{vs:List V}{ds:List PyData},FzA b.K S H vs ds->Ows b S H vs (ds.map OD.fz) []:=by
 intro vs;induction vs with
 |nil=>intro ds h;cases h;exact .nil
 |cons v vs a=>intro ds h;cases h with|cons r t=>exact Ows.cons (.fz r) (a t)
theorem sd(G:FnD X.prog X.w X.K X.mg X.base k f fd ps sp) (hr:Room k X.A) (C:Gl X x) (J:X.mg x=some (.ref f)) (hk:PySem.W.keepIn X.K (.ref f)=true) (y:Binds X.K fd ps []) (i:(x==("__debug__":Str))=false:=by decide)
  (I:starEach (e::c) X.env=(false,eval e X.env)::starEach c X.env:=by rfl) (m:(backTo pos (starEach c X.env)).any (·.1)=false:=by rfl):PDa X (e::c) j->PDe X (.Call (.Name x p) (e::c) [] pos) (zT sp j)
 |⟨_,l,s1⟩=>⟨_,mJ (E:=E0) G.ok hr C J hk y .nil xG l i I m,λb F σ H N T L Qd Q o R h q=>s1 b F σ H N T L _ _ o R h λvs S rs U u s ⟨Z,D,l⟩=>by
  have j:=s.dtL u D;rw[aaq,<-o];have c:(λa=>a∈([]:List Addr)\/False)=λ_=>False:=funext λa=>by simp
  refine⟨λ_=>False,Z.map OD.fz,[],λa z=>z.elim,λ_ _ _ z=>z,?_,aaX,G.mono _ _ _ (λx ys n v Y B kp O nB hB=>?_) l⟩
  ·rw[c];exact zU (b:=⟨b.K,S,λ_=>False,λa=>a∈[]⟩) (FzA.of0 j)
  ·obtain⟨d,n,M,P⟩:=n;subst n;cases O with
   |cons r t=>
    cases r with
    |fz r=>
     have g:=s.drops u;exact q v Y _ _ (Rel.sc ⟨g.wf,g.al,g.wff,g.wd.x2 kp⟩ (r.sc M)) P⟩
theorem br:∀{vs:List V}{n:Nat}{ρ:DEnv},flat (vs.map some++List.replicate n none) ρ=flat (vs.map some) ρ
 |[],0,_=>rfl
 |[],n+1,[]=>rfl
 |[],n+1,o::ρ=>by
  rw[aaL,aaT,aa2];have:flat (none::List.replicate n none) (o::ρ)=flat (List.replicate n none) ρ:=by cases o<;>rfl
  rw[this];have:=br (vs:=[]) (n:=n) (ρ:=ρ);simpa[flat] using this
 |v::vs,n,[]=>by simp[flat]
 |v::vs,n,none::ρ=>by simp only[aaj,aaG,aU];exact br
 |v::vs,n,some x::ρ=>by simp only[aaj,aaG,flat];rw[br]
theorem gp:∀{vs:List V}{xs:List OD}{k:Nat},vs.length=xs.length->flat (vs.map some) (xs.map some++List.replicate k none)=vs.zip xs
 |[],[],0,_=>rfl
 |[],[],_+1,_=>rfl
 |v::vs,x::xs,k,e=>by simp only[aaj,aaG,flat,abo];rw[gp (by simpa using e)]
 |[],_::_,_,e=>by simp at e
 |_::_,[],_,e=>by simp at e
theorem gq:∀{vs:List V}{xs:List OD}{k:Nat},vs.length=xs.length->Wf (vs.map some++List.replicate k none) (xs.map some++List.replicate k none)
 |[],[],0,_=>trivial
 |[],[],k+1,_=>by have:=gq (vs:=[]) (xs:=[]) (k:=k) rfl;exact this
 |v::vs,x::xs,k,e=>gq (xs:=xs) (by simpa using e)
 |[],_::_,_,e=>by simp at e
 |_::_,[],_,e=>by simp at e
def gr(N:Nat)(xs:List OD):DEnv:=xs.map some++List.replicate (N-xs.length) none
def aN:Nat->List Bool->List OD->DEnv->Option (List OD)
 |_,[],[],_=>some []
 |i,true::ios,_::xs,ρ=>match ρ[i]?.join with
  |some y=>match aN (i+1) ios xs ρ with|some ys=>some (y::ys)|none=>none
  |none=>none
 |i,false::ios,.fz d::xs,ρ=>match aN (i+1) ios xs ρ with|some ys=>some (.fz d::ys)|none=>none
 |_,_,_,_=>none
def WS(ios:List Bool):Nat->Prop:=λj=>ios[j]?=some true
def dR:Nat->List Bool->List V->List V
 |i,true::ios,v::vs=>v::dR (i+1) ios vs
 |i,false::ios,_::vs=>dR (i+1) ios vs
 |_,_,_=>[]
def cD:Nat->List Bool->List OR
 |i,true::ios=>.rf i::cD (i+1) ios
 |i,false::ios=>cD (i+1) ios
 |_,[]=>[]
theorem ja:∀{ios:List Bool}{vs:List V}{i:Nat},ios.length=vs.length->(∀k v,vs[k]?=some v->σ[i+k]?=some (some v))->Al σ (dR i ios vs) (cD i ios)
 |[],[],_,_,_=>trivial
 |true::ios,v::vs,i,e,h=>⟨h 0 v rfl,ja (ios:=ios) (by simpa using e) λk u a=>by have:=h (k+1) u (by simpa using a);rwa [show i+1+k=i+(k+1) by omega]⟩
 |false::ios,v::vs,i,e,h=>ja (i:=i+1) (by simpa using e) λk u a=>by have:=h (k+1) u (by simpa using a);rwa [show i+1+k=i+(k+1) by omega]
 |[],_::_,_,e,_=>by simp at e
 |true::_,[],_,e,_=>by simp at e
 |false::_,[],_,e,_=>by simp at e
theorem jb:∀{ios:List Bool}{i:Nat}{W:Nat->Prop},(∀k,ios[k]?=some true->W (i+k))->NoRf W (cD i ios)
 |[],_,_,_=>λr a=>by simp[cD]at a
 |true::ios,i,W,h=>λr a=>by
  simp only[cD]at a;rcases aab.mp a with rfl|a
  ·exact .inr ⟨i,h 0 rfl,rfl⟩
  ·exact jb (ios:=ios) (λk b=>by have:=h (k+1) (by simpa using b);rwa [show i+1+k=i+(k+1) by omega]) r a
 |false::ios,i,W,h=>λr a=>jb (i:=i+1) (λk b=>by have:=h (k+1) (by simpa using b);rwa [show i+1+k=i+(k+1) by omega]) r a
theorem dS:∀{ios:List Bool}{vs:List V}{i:Nat},stk (dR i ios vs) (cD i ios)=[]
 |[],[],_=>rfl
 |[],_::_,_=>rfl
 |true::ios,[],i=>by simp[dR,cD,stk]
 |false::ios,[],i=>by have:dR i (false::ios) ([]:List V)=[]:=rfl;rw[this];cases h:cD i (false::ios)<;>rfl
 |true::ios,v::vs,i=>dS (i:=i+1)
 |false::ios,v::vs,i=>dS (i:=i+1)
end
section
section
variable{K:Waa}
theorem Wd.addF(w:Wd b H L)(f:Fz b.K (λa=>b.C a\/b.S0 a) b.H0 v d):Wd b H ((v,.fz d)::L):=by
 obtain⟨A,g,h,e⟩:=w.out;refine⟨⟨A,Ows.cons (.fz (f.step (w.fr.weak λc z=>.inl (.inl z)) λc z=>?_)) g,h,e⟩,w.fr,w.s0,w.nt⟩;rcases z with z|z
 ·exact(e c z).elim .inr λz=>.inl (.inl z)
 ·exact .inl (.inr z)
theorem eP:∀{ios:List Bool}{xs:List OD}{i j:Nat}{ρ:DEnv},j<i->aN i ios xs (ρ.set j none)=aN i ios xs ρ
 |[],[],_,_,_,_=>rfl
 |true::ios,_::xs,i,j,ρ,h=>by simp only[aN];rw[aaO (by omega),eP (by omega)]
 |false::ios,.fz d::xs,i,j,ρ,h=>by simp only[aN];rw[eP (by omega)]
 |[],_::_,_,_,_,_=>rfl
 |true::_,[],_,_,_,_=>rfl
 |false::_,[],_,_,_,_=>rfl
 |false::_,.lst _::_,_,_,_,_=>rfl
 |false::_,.tup _::_,_,_,_,_=>rfl
 |false::_,.dic _ _::_,_,_,_,_=>rfl
 |false::_,.obj _ _ _::_,_,_,_,_=>rfl
 |false::_,.pin _ _ _::_,_,_,_,_=>rfl
 |false::_,.hole _::_,_,_,_,_=>rfl
 |false::_,.st _::_,_,_,_,_=>rfl
theorem jc:∀{ios:List Bool}{vs:List V}{xs ys:List OD}{i:Nat}{ρ:DEnv}{L1:List (V×OD)},vs.length=xs.length->(∀(k:Nat) v d,vs[k]?=some v->xs[k]?=some (.fz d)->Fz b.K (λa=>b.C a\/b.S0 a) b.H0 v d)->aN i ios xs ρ=some ys ->
  Al σ (dR i ios vs) (cD i ios)->Wf σ ρ->Wd b H (L1++flat σ ρ)->vs.length=ys.length/\∃R,Wd b H (L1++(vs.zip ys++R))
 |[],[],[],ys,i,ρ,L1,_,_,e,_,_,w=>by simp only[aN]at e;cases e;exact⟨rfl,_,w⟩
 |true::ios,v::vs,x::xs,ys,i,ρ,L1,el,hf,e,al,wf,w=>by
  simp only[aN]at e;split at e
  ·rename_i y o;split at e
   ·rename_i l f;cases e;have n:σ[i]?=some (some v):=al.1;have m:Wd b H ((L1++[(v,y)])++flat σ (ρ.set i none)):=w.perm (by
     rw[aac];exact(a9 (join_some o) n).append_left _)
    obtain⟨g,R,c⟩:=jc (by simpa using el) (λk u d j h=>hf (k+1) u d (by simpa using j) (by simpa using h)) (by rw[eP (by omega)];exact f) al.2 wf.off m;exact⟨by simp[g],R,by rw[aac]at c;exact c⟩
   ·cases e
  ·cases e
 |false::ios,v::vs,.fz d::xs,ys,i,ρ,L1,el,hf,e,al,wf,w=>by
  simp only[aN]at e;split at e
  ·rename_i l f;cases e;have m:Wd b H ((L1++[(v,.fz d)])++flat σ ρ):=(w.addF (hf 0 v d rfl rfl)).perm (by
    rw[aac];exact aar.symm)
   obtain⟨g,R,c⟩:=jc (by simpa using el) (λk u d j h=>hf (k+1) u d (by simpa using j) (by simpa using h)) f al wf m;exact⟨by simp[g],R,by rw[aac]at c;exact c⟩
  ·cases e
 |[],_::_,_::_,_,_,_,_,_,_,e,_,_,_=>by simp[aN]at e
 |true::_,[],[],_,_,_,_,_,_,e,_,_,_=>by simp[aN]at e
 |false::_,[],[],_,_,_,_,_,_,e,_,_,_=>by simp[aN]at e
 |false::_,_::_,.lst _::_,_,_,_,_,_,_,e,_,_,_=>by simp[aN]at e
 |false::_,_::_,.tup _::_,_,_,_,_,_,_,e,_,_,_=>by simp[aN]at e
 |false::_,_::_,.dic _ _::_,_,_,_,_,_,_,e,_,_,_=>by simp[aN]at e
 |false::_,_::_,.obj _ _ _::_,_,_,_,_,_,_,e,_,_,_=>by simp[aN]at e
 |false::_,_::_,.pin _ _ _::_,_,_,_,_,_,_,e,_,_,_=>by simp[aN]at e
 |false::_,_::_,.hole _::_,_,_,_,_,_,_,e,_,_,_=>by simp[aN]at e
 |false::_,_::_,.st _::_,_,_,_,_,_,_,e,_,_,_=>by simp[aN]at e
 |_,[],_::_,_,_,_,_,e,_,_,_,_,_=>by simp at e
 |_,_::_,[],_,_,_,_,e,_,_,_,_,_=>by simp at e
theorem Ows.x6:∀{vs:List V}{xs:List OD}{A:List Addr}{k:Nat}{v:V}{d:PyData},Ows b S H vs xs A->vs[k]?=some v->xs[k]?=some (.fz d)->Fz b.K S H v d
 |_,_,_,0,_,_,.cons r _,e,e'=>by simp at e e';subst e e';cases r with|fz f=>exact f
 |_,_,_,k+1,_,_,.cons _ t,e,e'=>Ows.x6 (k:=k) t (by simpa using e) (by simpa using e')
 |_,_,_,_,_,_,.nil,e,_=>by simp at e
theorem Fun.okD{st:Stmt}(F:Fun K x qual st f fd)(S:FnScope N ps (aB st))(q:vq sp)(a0:ios.length=ps.length)(len:∀xs Q,sp xs Q->xs.length=ps.length)
  (o:∀(n:Value) (A:Around) (g:List Env) (s:Shared) (H:Hp) (E:XK),Room k (A.deeper (envOfC qual (aB st) s.heap.objs.size f n))->∀(xs:List OD) (Q:OD->List OD->Prop),sp xs Q ->
   ∃db,PDss (iQ CX0 P w K mg base N qual (aB st) f n A g s H E).q7 (WS ios) (bb st) db/\db { nx:=λL=>∃j,aN 0 ios xs L=some j/\Q (.fz .none) j,rt:=λx L=>∃j,aN 0 ios xs L=some j/\Q x j } (gr N.length xs)):FnD P w K mg base (k+1) f fd ps sp:=by
 refine⟨F.ok S (λl H Q E h=>?_) (λn A g s H l Q E hr h=>?_),q⟩
 ·obtain⟨S,xs,A,_,_,y,_,h⟩:=h;rw[y.len];exact len _ _ h
 ·obtain⟨S',xs,Y,al,nt,y,nA,h⟩:=h;obtain⟨db,⟨ts,M,s1⟩,hd⟩:=o n A g s H E hr xs _ h;refine⟨ts,M,?_⟩
  let b:Bs:=⟨K,H,S',λa=>a∈Y⟩
  have G:=y.len;have a1:=len _ _ h;have w0:Wd b H (l.zip xs):=⟨⟨Y,OwL.h9 y,nA,λa W=>.inr W⟩,Kp.refl _ _,λa z=>⟨(al a z).1,(al a z).2⟩,nt⟩
  have sg:∀(k:Nat) v,l[k]?=some v->(start N l)[0+k]?=some (some v):=λk v e=>by have T:=(aao.mp e).1;unfold start;rw[aa3,abE (by simpa using T),aaz,e];rfl
  have R:Rel b [] (start N l) H (gr N.length xs) (dR 0 ios l) (cD 0 ios):=by unfold start gr;refine⟨by rw[G];exact gq G,ja (by omega) sg,λf hf=>(by cases hf),?_⟩;rw[dS];show Wd b H ([]++(flat _ _++[]));rw[aaT,aaq,br,gp G];exact w0
  have D:∀(m:St) (p:Hp) (i:DEnv) (v:V) (x:OD),Rel b [] m p i (v::dR 0 ios l) (.val x::cD 0 ios)->(∃j,aN 0 ios xs i=some j/\G0 K S' Y l H Q x j)->Q v p:=λm p i v x u ⟨j,ey,W⟩=>by
   have w':Wd b p ([(v,x)]++flat m i):=by have:=u.wd;simp only[stk]at this;rw[dS]at this;simpa[ff] using this
   obtain⟨O,Z,I⟩:=jc G (λk v d M h2=>(Ows.x6 y M h2).sub λa z=>z) ey u.al u.wf w';have e1:[(v,x)]++(l.zip j++Z)=(v::l).zip (x::j)++Z:=rfl;rw[e1]at I;obtain⟨B0,h0,nd,X⟩:=I.out;have J:=I.kg h0;obtain⟨B,B2,rfl,r,t⟩:=OwL.fi h0;refine W v p B I.fr (Ows.sub J (λc z=>z.imp (aad _) id) (OwL.q5 (by simp[O]) r)) (aaA.mp nd).1 λa U=>X a (aad _ U)
  refine s1 b [] (start N l) H _ _ _ _ _ rfl (jb λk T=>?_) R hd ⟨λm p i u C=>?_,λ_ _ _ _ C=>C.elim,λ_ _ _ _ C=>C.elim,D⟩
  ·rw[aa3];exact T
  ·exact D m p i .non _ (u.sc .non) C
end
end
section
def lu:PyData->Str
 |.str x=>x
 |d=>d.shown
def vT:PyData->Bool
 |.str _=>true
 |_=>false
def zV(d:PyData):Bool:=vT d||(d.showable&&!d.hasDict&&decide (d.shown.length<=10000000)&&decide (d.depth<=40))
section
variable{X:Cx}
theorem pQ{prog:Program}{w:World}{E:Value->Shared->Prop}(r:Reads s.heap (.ref a) d as)(n:d.showable=true)(l:d.hasDict=false)(k:A.guards=some [])(x:A.units+64<cLine)(z:d.depth<=40)(t:d.shown.length<=sizeLine)
  (m:∀h' u c,(∀b o,s.heap.get? b=some o->h'.get? b=some o)->Q (.str d.shown u) { s with heap:=h',toks:=c }):wpAny (model prog w) A (call (.type "str") [.ref a]) Q E s:=by
 refine callType_new F.called_str (by decide) (F.typeCall_str_1 _) (F.newCall_str_1 _) (λi=>F.args_object_init_2 i _) F.entry_str_new
  (S:=λA R f=>A.guards=some []/\A.units+60<cLine/\(∀b o,s.heap.get? b=some o->f.heap.get? b=some o)/\∀h' u c,(∀b o,f.heap.get? b=some o->h'.get? b=some o)->R (.ok (.ret (.str d.shown u))) { f with heap:=h',toks:=c })
  (meets_str_new λprog w A R f h=>?_) ⟨k,by show A.units+1+60<cLine;omega,λ_ _ e=>e,λh' u c g=>⟨acK _ _ _,m h' u c g⟩⟩
 obtain⟨p,y,j,v⟩:=h;obtain⟨T,q,S⟩:=showsBy_of_reads r n (PyData.noDict_hsm l) t;exact wpAny_strOf_slot rfl (by show A.units+1+1<cLine;omega) (S.typeIs f j) S.slotStr S.slotRepr (S.call A.in1.in1 _ f _ p (by show A.units+1+1+d.depth<cLine;omega) j λh' u c g=>⟨_,_,rfl,v h' u c g⟩)
def CQ(K:Waa):List V->Hp->VK->Prop:=λa H Q=>∃v d,a=[v]/\Dt K H v d/\zV d=true/\Q (.str (lu d)) H
theorem pR(l:X.A.guards=some [])(n:X.A.units+64<cLine):CallR X (.type "str") (CQ X.K):=by
 intro g s z H D B Q I r h;obtain⟨v,d,rfl,k,c,q⟩:=h;obtain⟨u,rfl,e⟩:=vals1 r;have f:∀a,u=.ref a->vT d=false->Dt X.K H v d->lu d=d.shown->wpAny (model X.prog X.w) X.A (call (.type "str") [u]) (EP X g z Q) X.xe s:=λa y j k p=>by subst y;rw[zV,j,abn,aat,aat,aat,aba,decide_eq_true_eq,decide_eq_true_eq]at c;obtain⟨C,m⟩:=k.reads I e;refine pQ m c.1.1.1 c.1.1.2 l n c.2 (aas c.1.2 (by decide)) λF u G o=>?_;exact⟨.str d.shown,H,I.kept o,⟨u,rfl⟩,by rw[<-p];exact q⟩
 cases k with
 |non=>cases e;exact P.str_of_none ⟨.str _,H,I.tok _,⟨_,rfl⟩,q⟩
 |bl b=>cases e;exact P.str_of_bool ⟨.str _,H,I.tok _,⟨_,rfl⟩,q⟩
 |int i=>obtain⟨t,rfl⟩:=e;rw[zV,show vT (.int i)=false from rfl,abn,aat,aat,aat]at c;exact P.str_of_int (by simpa[PyData.showable] using c.1.1.1) ⟨.str _,H,I.tok _,⟨_,rfl⟩,q⟩
 |str x=>obtain⟨t,rfl⟩:=e;exact P.str_of_str ⟨.str _,H,I,⟨_,rfl⟩,q⟩
 |lst s t=>cases e;exact f _ rfl rfl (.lst s t) rfl
 |tup s t=>cases e;exact f _ rfl rfl (.tup s t) rfl
section
variable{e st:Expr}
end
end
end
section
end
section
end
section
end
section
end
section
end
end L2
namespace L2
open PySem PySem.Spec PyProof.Rows PySem.Builtin PySem.Builtin.Str
section
variable{X:Cx}
def rSlS:V->Option Int->Option Int->Hp->VK->Prop:=λx a b H Q=>∃z,x=.str z/\z.length<=sizeLine/\Q (.str (Txt.slice z a b)) H
theorem part_of{v:Value}{o:Option Int}(h:IsPart v o):∃p:Option (Int×Tok),v=partValue p/\o=p.map (·.1):=by
 cases h with
 |none=>exact⟨none,rfl,rfl⟩
 |int i t=>exact⟨some (i,t),rfl,rfl⟩
theorem zW:SlR X rSlS:=by intro a s o H x v i p g m n Q I b c f d h;obtain⟨z,rfl,e,q⟩:=h;obtain⟨t,rfl⟩:=b;obtain⟨l,rfl,rfl⟩:=part_of f;obtain⟨u,rfl,rfl⟩:=part_of d;refine⟨"str",_,F.slot_str_getitem.lookup,acK _ _ _,wpAny_getItem_str_slice (st:=none) c rfl ?_⟩;exact post_val_or_str ⟨aas (Txt.slice_le z _ _) e,λj k=>⟨.str _,H,I.tok _,⟨_,rfl⟩,q⟩⟩
theorem ip:∀(l:List (Str×Tok)),Vals (l.map λp=>V.str p.1) (strValues l)
 |[]=>.nil
 |p::r=>.cons ⟨p.2,rfl⟩ (ip r)
theorem se{prog:Program}{w:World}{A:Around}{E:Value->Shared->Prop}{s:Shared}{x y:Str}{t u:Tok}{Q:Value->Shared->Prop}(d:(y.length==0)=false)(f:x.length+2<=sizeLine)
  (h:∀l k,l.map (·.1)=Txt.split x y->Q (.ref s.heap.objs.size) { s with heap:=s.heap.push { cls:=.type "list",data:=.seq (strValues l).toArray },toks:=k }):
  wpAny (model prog w) A (call (.builtin "str.split") [.str x t,.str y u]) Q E s:=by
 have C:=λ{S:PySem.Spec} (m:Meets (Builtin.«str.split» ⟨[.str x t,.str y u],[]⟩) S)=>call_meets (prog:=prog) (w:=w) (A:=A) (E:=E) (s:=s) (Q:=Q) F.slot_str_split (acK _ _ _) F.entry_str_split (F.args_str_split_2 _ _) m;by_cases b:(decide (x.length<y.length)||decide (strKind x<strKind y))=true
 ·exact C (meets_str_split_cannot_occur x y t u b) (h [(x,t)] s.toks (if_pos b).symm)
 ·have a:=Bool.eq_false_iff.mpr b;by_cases c:(occurrences x y 0 x.length (x.length+1)).isEmpty=true
  ·exact C (meets_str_split_not_found x y t u a d c) (h [(x,t)] s.toks ((if_neg b).trans (if_pos c)).symm)
  ·have e:(partsBetween x (occurrences x y 0 x.length (x.length+1)) y.length).length<=sizeLine:=by have:=StrLaws.occ_length_le x y 0 x.length (x.length+1);rw[length_partsBetween];omega
   refine C (meets_str_split_sep x y t u a d (Bool.eq_false_iff.mpr c) (by omega) e) ?_;have:=h (numbered s.toks (partsBetween x (occurrences x y 0 x.length (x.length+1)) y.length)) (s.toks+(partsBetween x (occurrences x y 0 x.length (x.length+1)) y.length).length) ((numbered_texts _ _).trans ((if_neg b).trans (if_neg c)).symm);rw[<-strsFrom_eq]at this;exact this
def rSplit:V->List V->Hp->VK->Prop:=λx a H Q=>∃z y,x=.str z/\a=[.str y]/\(y.length==0)=false/\z.length<=1000000/\(Txt.split z y).length<=sizeLine/\∀l,H l=none->Q (.ref l) (upd H l (.lst ((Txt.split z y).map V.str)))
theorem sf:MtR X "str.split" rSplit:=by intro a s n H x m v j Q I c g h;obtain⟨z,y,rfl,rfl,f,i,d,q⟩:=h;obtain⟨t,rfl⟩:=c;obtain⟨u,rfl,w,rfl⟩:=g.one;refine se f (aas (abN i 2) (by decide)) λl k e=>?_;refine⟨.ref _,_,I.laid (t':=k) (o:=.lst ((Txt.split z y).map V.str)) (λb o q=>aco _ q) (aag _) ?_,rfl,q _ (I.hok.fresh (aag _))⟩;refine⟨by rw[aaa];exact d,_,0,?_,acp _ rfl⟩;rw[<-e,aaI];exact ip l
end
end L2
namespace L2
open PySem PySem.Spec PyProof.Rows
section
def kG(z:Str):List PyData:=z.cps.toList.map λc=>PyData.str ⟨#[c]⟩
section
variable{X:Cx}{a b:Expr}{es:List Expr}{dt:DA}{pos p:Pos}
theorem pS(b:Bs)(c:Addr)(z:Str)(j:Bool)(ys:List V)(es:List PyData):gj b (EY b.K (.str z) (i8 j c ys)) [.str z,.ref c] [.val (.fz (.str z)),.val (.pin j ys es)] (bE (kG z) es):=λF O H J M I R k=>by
 obtain⟨L,e,r,f,D⟩:=R.wd.pinned (v:=.ref c) (l:=j) (xs:=ys) (ds:=es) (by simp[stk]);cases e;have t:(bE (kG z) es).length=min z.cps.toList.length es.length:=by simp[bE,kG]
 have n:(ZS.str z).items.length=z.cps.toList.length:=aaa _;rw[t];refine⟨λh=>⟨⟨trivial,bC f,by rw[n];omega,by rw[aR];omega⟩,λx N d ⟨T,y,u,i,m,A,o,G⟩ w=>?_⟩,λe=>⟨trivial,bC f,by rw[n,aR];omega⟩⟩;subst o G;rw[aR]at m;obtain⟨B,P,g,s,rfl⟩:=zipD_get w;have i:(z.cps.toList.map λc=>V.str ⟨#[c]⟩)[k]?=some y:=i;have g:(z.cps.toList.map λc=>PyData.str ⟨#[c]⟩)[k]?=some B:=g;rw[aaz]at i g;obtain⟨q,C,rfl⟩:=aaH.mp i;rw[C]at g;cases g;refine Rel.hh (Z:=(V.str ⟨#[q]⟩,OD.fz (.str ⟨#[q]⟩))::ys.zip (es.map OD.fz)) R (D.sc (.str _)) aah (aaf _ (bN m ?_)) A;rw[aaz,s];rfl
def CS(t:DA):DI:=λe Q=>t e λf d=>∃z y k es c,frzL d f=some ([.str z,y],c)/\BA y=some (k,es)/\Q (bE (kG z) es) c
theorem si{N}{i:Pos} (J:Gl X "zip") (L:X.mg "zip"=none) (O:starEach [a,b] X.env=[(false,eval a X.env),(false,eval b X.env)]:=by rfl) (A:starEach [b] X.env=[(false,eval b X.env)]:=by rfl):PDa X [a,b] dt->PDi X (.Tuple es N i) (.Call (.Name "zip" p) [a,b] [] pos) (CS dt)
 |⟨_,h,s⟩=>⟨_,qT J L h O A,λb F t H P o m Qd Q x R h q=>s b F t H P o m _ _ x R h λvs n rs W Y U ⟨z,y,k,es,f,e,ey,T⟩=>by
  obtain⟨B,I⟩:=fN U Y e;obtain⟨v,u,rfl⟩:=len2 I;have w:Wd b n ((v,.fz (.str z))::(u,.fz y)::(stk o m++(flat t f++ff F))):=B.wd;have C:Rel b F t n f o m:=Rel.drops (vs:=[v,u]) (rs:=[.val (.fz (.str z)),.val (.fz y)]) B rfl;have S:v=.str z:=by have M:Rel b F t n f (v::u::o) (.val (.fz (.str z))::.val (.fz y)::m):=B;have:=M.dt (d:=.str z) rfl;cases this;rfl
  subst S;obtain⟨j,Z⟩:=(w.perm (List.Perm.swap _ _ _)).pin (lq ey);have D:=Z.perm (List.Perm.swap _ _ _);obtain⟨c,rfl,_,g,_⟩:=D.pinned (v:=u) (l:=k) (xs:=j) (ds:=es) (by simp);rw[x]at g;refine⟨.str z,i8 k c j,by rw[gm];rfl,trivial,bC g,x▸q _ n _ f [.str z,.ref c] [.val (.fz (.str z)),.val (.pin k j es)] rfl (λr G=>by simp at G;rcases G with rfl|rfl<;>exact .inl ⟨_,rfl⟩) ?_ (pS b c z k j es) T⟩;exact⟨C.wf,C.al,C.wff,D⟩⟩
end
end
section
section
variable{X:Cx}{tg:Expr}{pos p:Pos}
def E1(z:Str):It:=⟨λi _=>i<z.cps.size,λi H x a=>a=H/\∃c,z.cps.toList[i]?=some c/\x=.str ⟨#[c]⟩,λi _=>z.cps.size<=i⟩
theorem sj{P:Program}{w:World}{K:Waa}(it:Addr)(z:Str)(t:Tok):Turn P w K tg (E1 z) [it] it (λi h=>h.IsStrIter it (strIterType z) z t i) where
 mem:=by simp
 obj:=λi h a b j=>by
  have e:b=it:=by simpa using j
  subst e;obtain⟨o,e,c,d⟩:=a;exact⟨o,e,λv z=>by rw[d]at z;cases z⟩
 keep:=λi h g a k=>by obtain⟨o,e,c⟩:=a;exact⟨o,k it (by simp) o e,c⟩
 item:=by
  intro X W U J L i l s Y H E I D a q;subst W U J;obtain⟨G,C,f2,y,B,F⟩:=D it (by simp);have q:i<z.cps.size:=q;have m:z.cps[i]?=some z.cps[i]:=by simp[q]
  have r:∀(T:String) (g:Heap) (S:Nat),["enumerate","zip","dict_itemiterator","dict_reverseitemiterator","odict_iterator","itertools.zip_longest","itertools.pairwise"].contains T=false->g.IsStrIter it T z t (i+1)->(∀b o,b≠it->s.heap.get? b=some o->g.get? b=some o)->∀u:Tok,
    wpAny (model X.prog X.w) X.A (letOwnedTupleGo tg (.ref it) (.str ⟨#[z.cps[i]]⟩ u)) (λ_ Z=>∃x O,Inv X l Y O Z/\RelV x (.str ⟨#[z.cps[i]]⟩ u)/\(E1 z).yld i H x O/\Z.heap.IsStrIter it T z t (i+1)/\∀b∈[it],O b=none) E { s with heap:=g,toks:=S }:=λT g S hT f n u=>by
   obtain⟨o,e,c,d⟩:=id f;exact mC (s:={ s with heap:=g,toks:=S }) e c d hT ⟨.str ⟨#[z.cps[i]]⟩,H,I.turned n G C y B F,⟨u,rfl⟩,⟨rfl,z.cps[i],by rw[ab0];exact m,rfl⟩,f,λb j=>(D b j).1⟩
  unfold strIterType at a ⊢;split at a
  ·rename_i N;rw[if_pos N];exact wpAny_pyNext_ascii_item a m λg f n=>⟨_,rfl,r _ g _ (by decide) f (λb o j e=>n.extBut b o j e) _⟩
  ·rename_i N;rw[if_neg N];exact wpAny_pyNext_wide_item a m λg f n=>⟨_,rfl,r _ g _ (by decide) f (λb o j e=>n.extBut b o j e) _⟩
 done:=by
  intro X W U J L i l s Y H E I D a q;subst W U J;obtain⟨G,C,f2,y,B,F⟩:=D it (by simp);have m:z.cps[i]?=none:=ab1 q;unfold strIterType at a;split at a
  ·exact wpAny_pyNext_ascii_end (I.ok.hd L) a m λg M=>⟨rfl,I.turned (t':=s.toks) (λb o j e=>M b o j e) G C y B F⟩
  ·exact wpAny_pyNext_wide_end (I.ok.hd L) a m λg M=>⟨rfl,I.turned (t':=s.toks) (λb o j e=>M b o j e) G C y B F⟩
 self:=λA i s Q E a h=>by
  unfold strIterType at a;split at a
  ·exact wpAny_pyIter_striter_ascii a h
  ·exact wpAny_pyIter_striter_wide a h
def F9(tl:TE):TI:=λa H R=>tl a H λx b=>∃z,x=.str z/\R (E1 z) b
theorem zX{l:Expr}{j:TE}(r:PE X l j):PI X tg l (F9 j):=by
 intro a s k H R I h;refine thn (r a s k H _ I h) λv c y=>?_;obtain⟨x,w,g,u,z,e,q⟩:=y;subst e;obtain⟨t,rfl⟩:=u;have d:∀o:Obj,o.cls=.type (strIterType z)->o.data=.fields #[.str z t,.int 0 0]->Ft X a k tg R (.ref c.heap.objs.size) { c with heap:=c.heap.push o }:=λo n i=>
  ⟨c.heap.objs.size,[c.heap.objs.size],_,_,w,rfl,g.kept (t':=c.toks) λb o e=>aco _ e,sj _ z t,⟨o,acp _ (Obj.isFreed_of_fields i),n,i⟩,λb m=>by
   have e:b=c.heap.objs.size:=by simpa using m
   subst e;exact g.mn (aag _) (g.hok.fresh (aag _)),q⟩
 cases f:z.cps.all (·<128)
 ·exact wpAny_pyIter_wide f (d _ (by unfold strIterType;rw[f];rfl) rfl)
 ·exact wpAny_pyIter_ascii f (d _ (by unfold strIterType;rw[f];rfl) rfl)
def Ga(a:DE):DI:=λc Q=>a c λr b=>∃z,ag b r=some (.str z)/\Q (kG z) b
theorem sk(b:Bs)(z:Str):gj b (E1 z) [] [] (kG z):=λF o H l m j R k=>by
 have g:(kG z).length=z.cps.size:=by rw[kG,aaa,aa6]
 rw[g];refine⟨λh=>⟨h,λx n d ⟨e,c,f,i⟩ a=>?_⟩,λe=>abi e.symm⟩;subst e i;have a:(z.cps.toList.map λc=>PyData.str ⟨#[c]⟩)[k]?=some d:=a;rw[aaz,f]at a;cases a;exact R.sc (.str _)
theorem vU{e:Expr}{da:DE}:PDe X e da->PDi X tg e (Ga da)
 |⟨_,h,s⟩=>⟨_,zX h,λb F σ H ρ τ θ j Q c R h q=>s b F σ H ρ τ θ _ _ c R h λv g r ρ1 a ⟨z,e,d⟩=>by
  have f:=a.dt e;cases f;exact⟨z,rfl,q _ g _ ρ1 [] [] rfl (λr i=>by cases i) a.drop (sk b z) d⟩⟩
def gu:List PyData->Option (List Str)
 |[]=>some []
 |.str x::r=>(gu r).map (x::·)
 |_::_=>none
def CT(z:Str)(ys:List Str):Option Str:=if (ys.map (·.length)).sum+ys.length*z.length<=16777216 then some (Txt.join z ys) else none
def rJoin(K:Waa):V->List V->Hp->VK->Prop:=λx b H Q=>∃z l a w,x=.str z/\b=[.ref l]/\SqL K H l (a.map V.str)/\CT z a=some w/\Q (.str w) H
theorem vV:MtR X "str.join" (rJoin X.K):=by
 intro d s G H x D v C Q I e A h;obtain⟨z,l,b,w,rfl,rfl,i,c,q⟩:=h;obtain⟨t,rfl⟩:=e;obtain⟨u,rfl,f⟩:=vals1 A;cases f;obtain⟨a,j,p,F⟩:=I.list i;unfold CT at c;split at c
 ·rename_i g;cases c;have n:∀{b:List Str}{a:List Value},Vals (b.map V.str) a->StrsAre a b:=λ{b}=>by
   induction b with
   |nil=>intro a h;cases h;exact .nil
   |cons y b o=>intro a h;cases h with|cons r B=>obtain⟨t,rfl⟩:=r;exact .cons _ _ (o B)
  exact join_list p.isList (by simpa using n j) g λm k=>⟨.str _,H,I.tok k,⟨m,rfl⟩,q⟩
 ·cases c
def rIntS:List V->Hp->VK->Prop:=λa H Q=>∃z n,a=[.str z]/\intText? z=some n/\z.length<=640/\Q (.int n) H
theorem pT:CallR X (.type "int") rIntS:=by intro a s f H e d Q I r h;obtain⟨z,n,rfl,c,b,q⟩:=h;obtain⟨u,rfl,t,rfl⟩:=vals1 r;exact PySem.W.KIN.call_text c b ⟨.int n,H,I.tok _,⟨_,rfl⟩,q⟩
def CU(K:Waa)(t:TGs):TG:=λv c H Q=>∃a x b,v=.ref a/\SqL K H a (x::b)/\b.length<16384/\∀l,H l=none->t [x,.ref l] c (upd H l (.lst b)) Q
theorem vW{y n:Expr}{k:Nat}{O:Pos}{t:TGs}(U:X.calm=true)(h:yM X [y,n] t)(h0:assignEach [y,.Starred n O] X.env=[(false,assign y X.env),(true,assign n X.env)])(h1:(assignEach [y,n] X.env).map (·.2)=[assign y X.env,assign n X.env]):PG X (.Tuple [y,.Starred n O] k pos) (CU X.K t):=by
 intro l s F H v u Q I r G;obtain⟨a,x,M,ea,hq,hl,G⟩:=G;subst ea;cases r;obtain⟨a0,rv,hp,hz⟩:=I.list hq;cases rv with
 |@cons _ B _ us r0 rr=>
 have P:=rr.length;have i:s.heap.IsList a (B::us).toArray:=hp.isList;have z:a≠s.heap.objs.size:=by obtain⟨o,ho,_⟩:=i;exact aam (acn ho)
 rw[assign_Tuple];refine acl (acu ?_);unfold unpack;rw[h0];refine acl (acs ?_);show wpAny _ _ (unpackItems (.ref a) 2 (some 1)) _ _ _;unfold unpackItems;refine acl ?_;unfold notIterableAtAll;refine acl (wpAny_specialOf i.typeIs slot_list_iter.lookup (acm ?_));simp only[Bool.false_eq_true,if_false];refine acl (acs (acz i ?_));refine acl (acs (PySem.W.kun_draw z 1 0 _ _ ⟨_,acp _ rfl,rfl,rfl⟩ (i.push _) (by simp) λw c g=>?_));have m:w.IsList a (B::us).toArray:=(i.push _).extBut g.extBut z;rw[aa3]at c;obtain⟨oi,J,_⟩:=id c;obtain⟨ol,C,_⟩:=id m;show wpAny _ _ (if ([B]:List Value).length<1 then _ else _) _ _ _;rw[if_neg (by simp)];refine acl (acs (PySem.W.kun_collect (s:={ s with heap:=w }) (T:="list_iterator") (.inr (.inr (.inl rfl))) (Walks.list (A:=X.A.in1) (I.ok.hd U) s.heap.objs.size a z (B::us).toArray) (λj u Y=>Y.1.typeIs) (k:=1) (by simp) ⟨c,m⟩ (acn J) (acn C) (λf D hk=>?_) (by rw[acC];simp;omega)));have ed:((B::us).toArray.toList.drop 1)=us:=rfl;rw[ed];show wpAny _ _ (if us.length<2-1-1 then _ else _) _ _ _;rw[if_neg (by simp)];show wpAny _ _ (newList (us.take (us.length-0)) >>= λd=>pure ([B]++[d]++us.drop (us.length-0))) _ _ _;rw[Nat.sub_zero,List.take_length,abr];have Z:∀b o,s.heap.get? b=some o->f.get? b=some o:=λb o e=>by have L:b≠s.heap.objs.size:=aam (acn e);exact hk b o L (g.extBut b o L (aco _ e))
 refine acl (wpAny_newList ?_ (by rw[acC];omega));refine acm ?_;have N:Inv X l F H { s with heap:=f,toks:=D }:=I.kept Z;have I3:Inv X l F (upd H f.objs.size (.lst M)) { s with heap:=f.push { cls:=.type "list",data:=.seq us.toArray },toks:=D }:=N.laid (t':=D) (λb o q=>aco _ q) (aag _) ⟨by have:M.length<16384:=hl;rw[acC];omega,_,0,by simpa using rr,acp _ rfl⟩;have S:([(false,assign y X.env),(true,assign n X.env)].map (·.2))=(assignEach [y,n] X.env).map (·.2):=h1.symm;rw[S];exact h l _ F _ [x,.ref _] [B,.ref _] Q I3 (.cons r0 (.cons rfl .nil)) (G _ (N.hok.fresh (aag _)))
theorem hG:typeLookup (.type "tuple") (dunderI "add")=pure none:=by rw[typeLookup_type,builtinLookup_eq_fast];kernel_rfl
def G2(K:Waa):TIp:=λx y H Q=>∃a b d c,x=.ref a/\y=.ref b/\SqT K H a d/\SqT K H b c/\d≠[]/\c≠[]/\d.length+c.length<=sizeLine/\∀l,H l=none->Q (.ref l) (upd H l (.tup (d++c)))
theorem vX:BN X .Add (G2 X.K):=by intro B s σ H x y v u Q I J P h;obtain⟨a,b,N,M,rfl,rfl,W,D,hx,Y,Z,q⟩:=h;cases J;cases P;obtain⟨f,j,U,_⟩:=I.tuple W;obtain⟨g,r,G,_⟩:=I.tuple D;obtain⟨⟨L,S,A,sl⟩,i,t,n,w⟩:=id U;obtain⟨⟨C,k,l,m⟩,e,d,O,c⟩:=id G;simp only at t w d c;subst t w d c;have F:f≠[]:=λz=>hx (j.eu.mp z);have hw:g≠[]:=λz=>Y (r.eu.mp z);have l1:=j.length;have l2:=r.length;refine inplaceOp_concat (T:="tuple") ⟨_,i,rfl⟩ ⟨_,e,rfl⟩ hG acR seq_tuple_add ?_;refine call_meets abF ⟨_,i,rfl⟩ abG (abH _ _) (PyProof.Rows.tuple_addW2 a b f.toArray g.toArray n O S k sl m (by simpa using F) (by simpa using hw) (by rw[aap,aap];omega)) ⟨i,e,?_⟩;rw[show f.toArray++g.toArray=(f++g).toArray by simp];exact⟨.ref s.heap.objs.size,_,I.laid (t':=s.toks) (o:=.tup (N++M)) (λb ob q=>aco _ q) (aag _) ⟨by rw[aau];exact Z,_,j.append r,⟨_,acp _ rfl,rfl,_,rfl,rfl⟩⟩,rfl,q _ (I.hok.fresh (aag _))⟩
end
end
section
theorem vY{X:Cx}{e:Expr}{g:TE}{z:Str}{j:Nat}{k p2 pos:Pos}(h:PE X e g):PE X (.JoinedStr [.FormattedValue e (-1) none k,.Constant (.str z) j p2] pos) (λσ H Q=>g σ H λv b=>∃y,v=.str y/\y.length+z.length<=1000000/\Q (.str (y++z)) b):=by
 intro a s σ H Q I q;refine JoinedStr_many (joinParts_cons (FormattedValue_plain (thn (h a s σ H _ I q) λu w d=>?_)));obtain⟨v,b,n,r,y,rfl,o,q⟩:=d;obtain⟨t,rfl⟩:=r;have B:1000000<=sizeLine:=by decide
 have m:Str.empty++y=y:=PySem.W.KT.empty_app y;refine formatField_str (λp A=>?_) (by omega);show (Str.empty++y).length<=sizeLine/\wpAny _ _ (joinParts (Str.empty++y) _) _ _ _;rw[m];have f:(y++z).length=y.length+z.length:=strLen_append y z;refine⟨by omega,joinParts_cons (thn (iO (X:=X) (x:=z) (j:=j) (pos:=p2) a _ σ b (λv c=>v=.str z/\c=b) (n.tok _) ⟨rfl,rfl⟩) λu D d=>?_)⟩;obtain⟨v,c,i,l,rfl,rfl⟩:=d;obtain⟨C,rfl⟩:=l;show (y++z).length<=sizeLine/\wpAny _ _ (joinParts (y++z) []) _ _ _;refine⟨by rw[f];omega,joinParts_nil ?_ (by rw[f];omega)⟩;exact⟨.str (y++z),c,i.tok _,⟨_,rfl⟩,q⟩
end
section
open Sem (wp)
theorem so(a v:Value):checkTypeCall "enumerate" ⟨[a],[("start",v)]⟩=pure ():=by kernel_rfl
theorem sq(a v:Value):checkBuiltinCall "enumerate.__new__" ⟨[.type "enumerate",a],[("start",v)]⟩=pure ():=by kernel_rfl
theorem sr(a b v:Value):argsOk "object.__init__" ⟨[a,b],[("start",v)]⟩:=by unfold argsOk;rw[signature?_of (id:="object.__init__") (n:=['_','_','t','i','n','i','_','_']) (o:=['t','c','e','j','b','o']) (by kernel_rfl) PySem.F.owner_object];kernel_rfl
theorem j5(l:Addr)(items:Array Value)(n:Nat)(b:Option Addr)(k:Array (Option Value))(t:Tok):
  Meets (Builtin.«enumerate.__new__» ⟨[.type "enumerate",.ref l],[("start",.int 0 t)]⟩) (λ_ R s=>s.heap.get? l=some { cls:=.type "list",dict:=b,data:=.seq items n,slots:=k } /\
   R (.ok (.ret (.ref (s.heap.push { cls:=.type "list_iterator",data:=.fields #[.ref l,.int 0 0] }).objs.size)))
    { s with heap:=(s.heap.push { cls:=.type "list_iterator",data:=.fields #[.ref l,.int 0 0] }).push { cls:=.type "enumerate",data:=.fields #[.none,.bool false,.ref s.heap.objs.size,rawInt 0,.none,.none] } }):=
 .of_wp λi w A R s h=>by
  obtain⟨m,g,d,j,o⟩:=s;obtain⟨a,h⟩:=h;have f:=sub_enumerate;have e:Heap.IsList (Shared.heap ⟨m,g,d,j,o⟩) l items:=⟨_,a,rfl,n,rfl⟩
  wp_walk using acE a
  refine wpAny_stack_any λp=>acm ?_;split
  ·rename_i c _ _ _ _ _;cases (c==Value.type "enumerate")
   ·wp_walk using acE a,acz e
    exact⟨_,rfl,h⟩
   ·wp_walk using acE a,acz e
    exact⟨_,rfl,h⟩
  ·wp_walk using acE a,acz e
   exact⟨_,rfl,h⟩
theorem lx(a b v:Value):Meets (Builtin.«object.__init__» ⟨[a,b],[("start",v)]⟩) (λ_ R s=>s.TypeIs a "enumerate"/\R (.ok (.ret .none)) s):=by
 refine Meets.of_wp λc w A R s ⟨e,d⟩=>?_;have f:=acT.init.lookup;have g:=acT.made
 repeat (any_goals (first|assumption|wp_step))
 all_goals exact⟨_,rfl,d⟩
section
variable{prog:Program}{w:World}{A:Around}{E:Value->Shared->Prop}{s:Shared}
theorem ly{l:Addr}{items:Array Value}{t:Tok}{Q:Value->Shared->Prop}(L:s.heap.IsList l items)
  (h:∀h',IsEnum h' (s.heap.objs.size+1) s.heap.objs.size 0 .none->h'.IsListIter s.heap.objs.size l 0->(∀b o,s.heap.get? b=some o->h'.get? b=some o)->Q (.ref (s.heap.objs.size+1)) { s with heap:=h' }):
  wpAny (model prog w) A (call (.type "enumerate") [.ref l] [("start",.int 0 t)]) Q E s:=by
 obtain⟨⟨c,k,D,J⟩,C,g,n,m⟩:=L;replace g:c=.type "list":=g;replace m:D=.seq items n:=m;subst g m;have a:=acT;obtain⟨c,T,q⟩:=a.mro;have i:=a.made;have x:=a.sub;refine wpAny_call (codeAny_of_tree ?_);show wpAny _ _ (callAny (.type "enumerate") _) _ _ _;refine acm ⟨Code.quiet_builtin _ (by decide +kernel),codeAny_builtin F.entry_type_call ?_⟩;rw[Around.under_plain (weight_type_call_type "enumerate" _ _) (units_type_call_type "enumerate" _ _)];have S:=a.notType;have P:=a.canCreate;have M:=so (.ref l) (.int 0 t);have j:=sq (.ref l) (.int 0 t)
 repeat (any_goals (first|assumption|wp_step))
 have z:(s.heap.push { cls:=.type "list_iterator",data:=.fields #[.ref l,.int 0 0] }).objs.size=s.heap.objs.size+1:=acx ..;generalize hH:(s.heap.push { cls:=.type "list_iterator",data:=.fields #[.ref l,.int 0 0] }).push { cls:=.type "enumerate",data:=.fields #[.none,.bool false,.ref s.heap.objs.size,rawInt 0,.none,.none] }=H1;have u:IsEnum H1 (s.heap.objs.size+1) s.heap.objs.size 0 .none:=by rw[<-hH,<-z];exact acp _ rfl
 have H:H1.IsListIter s.heap.objs.size l 0:=by rw[<-hH];exact⟨_,aco _ (acp _ rfl),rfl,rfl⟩
 have G:∀b o,s.heap.get? b=some o->H1.get? b=some o:=λb o e=>by rw[<-hH];exact aco _ (aco _ e)
 refine acH (codeAny_call_builtin a.plain F.entry_enumerate_new (wpAny_of_eq j (j5 l items n k J t prog w A.in1 (wants (λv p=>v=.ref (s.heap.objs.size+1)/\p={ s with heap:=H1 }) λ_ _=>False) s ⟨C,by rw[z,hH];exact⟨rfl,rfl⟩⟩))) λr I d=>?_;obtain⟨v,rfl,rfl,rfl⟩:∃v,r=.ok (.ret v)/\v=.ref (s.heap.objs.size+1)/\I={ s with heap:=H1 }:=by
  cases r with
  |error e=>exact d.elim
  |ok f=>cases f with
   |ret v=>exact⟨v,rfl,d⟩
   |_=>exact d.elim
 have y:Shared.TypeIs { s with heap:=H1 } (.ref (s.heap.objs.size+1)) "enumerate":=⟨_,u,rfl⟩
 have B:=a.init.lookup;have N:=a.init.bind (.ref (s.heap.objs.size+1))
 repeat (any_goals (first|assumption|wp_step))
 refine acH (codeAny_call_builtin a.init.plain F.entry_object_init (a.init.check _ _ _ _ _ _ _ _ y (sr _ _ _) (lx (.ref (s.heap.objs.size+1)) (.ref l) (.int 0 t) prog w A.in1 (wants (λv p=>v=.none/\p={ s with heap:=H1 }) λ_ _=>False) _ ⟨y,rfl,rfl⟩))) λr O d=>?_;obtain⟨v,rfl,rfl,rfl⟩:∃v,r=.ok (.ret v)/\v=.none/\O={ s with heap:=H1 }:=by
  cases r with
  |error e=>exact d.elim
  |ok f=>cases f with
   |ret v=>exact⟨v,rfl,d⟩
   |_=>exact d.elim
 repeat (any_goals (first|assumption|wp_step))
 all_goals exact h H1 u H G
end
section
variable{M:Model}{A:Around}{E:Value->Shared->Prop}{s:Shared}
theorem gw{pos:Pos}{T:String}{b:List (Bool×Sem Value)}{d:List (Option Str×Sem Value)}{Q:Value->Shared->Prop}(i:b.any (·.1)=false)(j:d.any (·.1.isNone)=false)
  (h:wpAny M A (evalArgs (.type T) true b d) (λa c=>wpAny M A (call (.type T) a.pos a.kw) Q E c) E s):wpAny M A (callWith pos (.type T) [] b d) Q E s:=by
 unfold callWith;refine acl (acs (thn h λa c e=>acl (acu ?_)));simp only[i,j,Bool.or_false];refine acl (acm ?_);exact acl (thn e λr f g=>acl (acs (wpAny_point (acm g))))
end
section
variable{X:Cx}{a b:Expr}{es:List Expr}{p pos kp:Pos}
def zY(K:Waa)(e:TA)(f:TE):TI:=λd H R=>e d H λg i=>f d i λy c=>∃l h,g=[.ref l]/\y=.int 0/\SqL K c l h/\R (FN K l) c
theorem su{D}{f:Pos}{x:TA}{w:TE} (A:Gl X "enumerate") (B:X.mg "enumerate"=none) (N:PA X [a] x) (j:PE X b w) (F:starEach [a] X.env=[(false,eval a X.env)]):
  PI X (.Tuple es D f) (.Call (.Name "enumerate" p) [a] [⟨some "start",b,kp⟩] pos) (zY X.K x w):=by
 intro c s n H R I h;refine acM (eF I A B pq ?_);have g:=N pos c s n H _ I h;rw[F]at g ⊢;refine gw rfl rfl (evalArgs_kw rfl (thn g λZ O o=>?_));obtain⟨vs,L,W,G,J⟩:=o;refine wpAny_evalAll_cons (acl (thn (j c O n L _ W J) λu d o=>acl (acu (acm (wpAny_evalAll_nil ?_)))));obtain⟨y,z,k,P,l,xs,e,S,T,q⟩:=o;subst e S;obtain⟨t,rfl⟩:=P;cases G with
 |cons r Y=>
  cases Y;cases r;obtain⟨C,rv,Q,hz⟩:=k.list T;refine ly Q.isList λM v m kp=>?_;refine wpAny_pyIter_enum v ?_;have U:Inv X c n z { d with heap:=M }:=k.kept (t':=d.toks) kp;refine⟨d.heap.objs.size+1,[d.heap.objs.size+1,d.heap.objs.size],_,_,z,rfl,U,pj l _ _ (by show (_:Nat)≠_;omega),⟨⟨_,v⟩,m⟩,λb j=>?_,q⟩;have i:d.heap.objs.size<=b:=by
   simp only[aab,aav,or_false]at j;rcases j with rfl|rfl
   ·show d.heap.objs.size<=d.heap.objs.size+1;omega
   ·exact aag _
  exact k.mn i (k.hok.fresh i)
end
end
section
inductive Bo where|add|sub|mul|fdiv|mod|pow
inductive Co where|lt|le|gt|ge|eq|ne|inn|nin
inductive O2 where|ixs|cts|tin|tni|sws|ews|six
inductive Bl where|len|abs|max|min|int|all
inductive Knd where|int|bool|str|list|tuple|seq
inductive Bn where|list|tuple
inductive Acc where|ix (k:Int)|key (j:Nat)
inductive Tg where|nm (i:Nat)|tp (ts:List Nat)|sv (i j k:Nat)|st (i j:Nat)
mutual
inductive E where
 |nm (i:Nat)|int (k:Int)|str (x:Str)|bl (b:Bool)|non|gc (g:Nat)
 |bop (o:Bo) (a b:E)|cat (a b:E)|catT (a b:E)
 |cmp (o:Co) (a b:E)|cmp2 (o o':Co) (a b c:E)|isn (neg:Bool) (a:E)
 |and (a b:E)|or (a b:E)|not (a:E)|neg (a:E)|ife (c a b:E)
 |tup (es:Es)|lst (es:Es)|ix (a b:E)|slt (a:E) (lo hi:Eo)
 |call (f:Nat) (es:Es)|callS (f:Nat) (es:Es)|blt (f:Bl) (es:Es)|bnw (f:Bn) (e:E)|isi (k:Knd) (a:E)|sht (a:E)|dnew
 |op2 (o:O2) (a b:E)|sls (a:E) (lo hi:Eo)|spl (a b:E)|lns (a:E)|kin (neg:Bool) (x:Str) (kvs:List (Str×Str)) (a:E)|kgt (x:Str) (kvs:List (Str×Str)) (a:E)|joi (a b:E)|ist (a:E)
 |pg (i:Nat) (ps:List Acc)|din (neg:Bool) (e:E) (i:Nat) (ps:List Acc)
 |comp (nt:Nat) (fr:List Nat) (it:It') (tg:Tg) (ifs:Eo) (elt:E)
 |sin (neg:Bool) (e:E) (i:Nat) (ps:List Acc)|fst (a:E) (z:Str)
inductive Es where|nil|cons (e:E)(es:Es)
inductive Eo where|none|some (e:E)
inductive It' where|seq (e:E)|rg1 (e:E)|zip (a b:E)|zps (a b:E)|sqs (e:E)|enk (a b:E)
end
mutual
inductive S' where
 |set (i:Nat) (e:E)|asg (t:Tg) (e:E)|par (is:List Nat) (es:Es)|aug (i:Nat) (o:Bo) (e:E)
 |ret (e:E)|iff (c:E) (a b:Ss)|fr (t:Tg) (it:It') (b:Ss)|cont|stk
 |app (i:Nat) (e:E)|rev (i:Nat)|aut (i:Nat) (e:E)|sti (i:Nat) (k e:E)|sdk (i:Nat) (k e:E)
 |ssc (i nt:Nat) (fr:List Nat) (it:It') (tg:Tg) (ifs:Eo) (elt:E)
inductive Ss where|nil|cons (s:S')(ss:Ss)
end
structure Fn where
 io:List Bool
 n:Nat
 body:Ss
structure Ct where
 io:Nat->List Bool
 call:Nat->List OD->Option (OD×List OD)
 mak:Nat->List OD->Option (OD×List OD)
 gv:Nat->PyData
 wf:Nat
def uL:OD->Option PyData|.fz d=>some d|_=>none
def zZ:OD->Option (List OD)|.lst xs=>some xs|_=>none
def CV:OD->Option (List Key×List OD)|.dic ks xs=>some (ks,xs)|_=>none
def G3(x:OD):Option (List OD):=match x with|.lst xs=>some xs|.tup xs=>some xs|_=>none
def j6:PyData->Option Str|.str x=>some x|_=>none
def inP:PyData->Option Int|.int i=>some i|_=>none
def E2:PyData->Option Bool|.bool k=>some k|_=>none
def E3:PyData->Option (List PyData)|.list ds=>some ds|_=>none
def CW:OD->Option (List Int)|.st ns=>some ns|_=>none
def pU:PyData->Option (List PyData)|.list ds=>some ds|.tuple ds=>some ds|_=>none
def gd(c:Prop)[Decidable c]:Option Unit:=if c then some () else none
def dq{a:Type}:List a->Option a|[x]=>some x|_=>none
def z5{a:Type}:List a->Option (a×a×a)|[x,y,z]=>some (x,y,z)|_=>none
def G4:PyData->Option (List PyData)|.tuple ds=>some ds|_=>none
def eQ{a:Type}:List a->Option (a×a)|[x,y]=>some (x,y)|_=>none
def G5:Bo->Int->Int->Option Int
 |.add,i,j=>some (i+j)
 |.sub,i,j=>some (i-j)
 |.mul,i,j=>(gd ((-(2^64)<i/\i<2^64)\/(-(2^64)<j/\j<2^64))).bind λ_=>some (i*j)
 |.fdiv,i,j=>(gd (0<j/\j<1073741824)).bind λ_=>some (i/j)
 |.mod,i,j=>(gd (0<j)).bind λ_=>some (i%j)
 |.pow,i,j=>(gd (0<=j/\j<=1000000/\i.natAbs<2^64)).bind λ_=>some (i^j.toNat)
def vZ(o:Bo)(x y:PyData):Option PyData:=(inP x).bind λi=>(inP y).bind λj=>(G5 o i j).bind λk=>some (.int k)
def o2S(o:O2)(x y:Str):Option PyData:=match o with
 |.cts=>(gd (x.length+y.length<=1000000)).bind λ_=>some (.str (x++y))
 |.tin=>some (.bool (!(Builtin.Str.occurrences y x 0 y.length 1).isEmpty))
 |.tni=>some (.bool (!!(Builtin.Str.occurrences y x 0 y.length 1).isEmpty))
 |.sws=>some (.bool (Txt.startswith x y))
 |.ews=>some (.bool (Txt.endswith x y))
 |.six=>(Builtin.Str.occurrences x y 0 x.length 1).head?.bind λi=>some (.int i)
 |.ixs=>none
def CY(o:O2)(a:Str)(y:PyData):Option PyData:=match o with
 |.ixs=>(inP y).bind λi=>(gd (a.length<=1000000)).bind λ_=>(atI a.cps.toList i).bind λc=>some (.str ⟨#[c]⟩)
 |o=>(j6 y).bind λb=>o2S o a b
def eqA(x y:PyData):Option Bool:=match pC x y with
 |some k=>some k
 |none=>if SeqAt.shaped x&&SeqAt.shaped y then some (PyData.eqv x y) else none
def inA(x y:PyData):Option Bool:=(pU y).bind λa=>(gd (Cq x=true)).bind λ_=>memD x a
def cF(o:Co)(x y:PyData):Option Bool:=match o with
 |.lt=>(inP x).bind λi=>(inP y).bind λj=>some (decide (i<j))
 |.le=>(inP x).bind λi=>(inP y).bind λj=>some (decide (i<=j))
 |.gt=>(inP x).bind λi=>(inP y).bind λj=>some (decide (j<i))
 |.ge=>(inP x).bind λi=>(inP y).bind λj=>some (decide (j<=i))
 |.eq=>eqA x y
 |.ne=>(eqA x y).bind λk=>some (!k)
 |.inn=>inA x y
 |.nin=>(inA x y).bind λk=>some (!k)
def sy:PyData->Option Bool
 |.none=>some false|.bool b=>some b|.int i=>some (i !=0)
 |.list ds=>some (!ds.isEmpty)|.tuple ds=>some (!ds.isEmpty)
 |_=>none
def uM:Knd->PyData->Bool
 |.int,.int _=>true|.int,.bool _=>true|.bool,.bool _=>true|.str,.str _=>true|.list,.list _=>true|.tuple,.tuple _=>true|.seq,.list _=>true|.seq,.tuple _=>true
 |_,_=>false
def z6(f:Bl)(ds:List PyData):Option PyData:=match f with
 |.len=>(dq ds).bind λd=>(lj d).bind λn=>some (.int n)
 |.abs=>(dq ds).bind λd=>(inP d).bind λi=>some (.int (if i<0 then -i else i))
 |.max=>(eQ ds).bind λz=>(inP z.1).bind λi=>(inP z.2).bind λj=>some (.int (if j>i then j else i))
 |.min=>(eQ ds).bind λz=>(inP z.1).bind λi=>(inP z.2).bind λj=>some (.int (if j<i then j else i))
 |.int=>(dq ds).bind λd=>(toInt d).bind λi=>some (.int i)
 |.all=>(dq ds).bind λd=>(E3 d).bind λa=>(allB a).bind λb=>some (.bool (b.all id))
def keyOf:PyData->Option Key
 |.int i=>some (.inl i)
 |.str x=>some (.inr x)
 |_=>none
def accN(ρ:DEnv)(x:OD):Acc->Option Nat
 |.ix k=>(G3 x).bind λxs=>ixN xs.length k
 |.key j=>(ρ[j]?.join).bind λy=>(uL y).bind λd=>(CV x).bind λq=>(keyOf d).bind λk=>q.1.findIdx? (λq=>decide (q=k))
def bq(ρ:DEnv)(i:Nat):List Acc->Option (OD×List Nat×OD)
 |[]=>(ρ[i]?.join).bind λx=>some (x,[],x)
 |a::ps=>(bq ρ i ps).bind λp=>(accN ρ p.2.2 a).bind λk=>(p.2.2.kids[k]?).bind λz=>some (p.1,p.2.1++[k],z)
def unpA(x:OD):Option (List OD):=match unpT x with|some a=>some a|none=>unpL x
def Gb(a:List Nat)(x:OD)(ρ:DEnv):Option DEnv:=(unpA x).bind λb=>(gd (b.length=a.length/\∀i∈a,i<ρ.length)).bind λ_=>some (bS a b ρ)
def gx(ρ:DEnv)(j:Nat):Option Int:=(ρ[j]?.join).bind λy=>(uL y).bind inP
def G6:List PyData->Option (Str×List PyData)|.str z::r=>some (z,r)|_=>none
def aY:Tg->OD->DEnv->Option DEnv
 |.nm i,x,ρ=>(gd (i<ρ.length)).bind λ_=>some (ρ.set i (some x))
 |.tp ts,x,ρ=>Gb ts x ρ
 |.sv i j k,x,ρ=>(unpA x).bind λxs=>(eQ xs).bind λz=>(ρ[i]?.join).bind λy=>(zZ y).bind λys=>(gx ρ j).bind λm=>(gx ρ k).bind λn=>(ixN ys.length m).bind λa=>(ixN ys.length n).bind λb=>some (ρ.set i (some (.lst ((ys.set a z.1).set b z.2))))
 |.st i j,x,ρ=>(listOf x).bind λds=>(G6 ds).bind λz=>(gd (z.2.length<16384/\i<ρ.length/\j<ρ.length)).bind λ_=>some (bS [i,j] [.fz (.str z.1),.lst (z.2.map OD.fz)] ρ)
def bO(step:PyData->DEnv->Option (List PyData×DEnv)):List PyData->List PyData->DEnv->Option (List PyData×DEnv)
 |[],out,ρ=>some (out,ρ)
 |d::ds,out,ρ=>(step d ρ).bind λw=>bO step ds (out++w.1) w.2
def dU{a:Type}(step:a->PyData->DEnv->Option (a×DEnv)):List PyData->a->DEnv->Option (a×DEnv)
 |[],o,ρ=>some (o,ρ)
 |d::ds,o,ρ=>(step o d ρ).bind λw=>dU step ds w.1 w.2
inductive Fl where|nx|bk|ct|rt (x:OD)
def bF(step:PyData->DEnv->Option (Fl×DEnv)):List PyData->DEnv->Option (Fl×DEnv)
 |[],ρ=>some (.nx,ρ)
 |d::ds,ρ=>(step d ρ).bind λw=>match w.1 with
  |.nx=>bF step ds w.2
  |.ct=>bF step ds w.2
  |.bk=>some (.nx,w.2)
  |.rt x=>some (.rt x,w.2)
def vt(f:DEnv->Option (OR×DEnv)):(DEnv->Option (OR×DEnv))×(DEnv->Option (Bool×DEnv)):=(f,λa=>(f a).bind λx=>(ag x.2 x.1).bind λd=>(sy d).bind λk=>some (k,x.2))
section
variable(C:Ct)
mutual
def ba:E->(DEnv->Option (OR×DEnv))×(DEnv->Option (Bool×DEnv))
 |.nm i=>vt λρ=>match ρ[i]?.join with
  |some (.fz d)=>some (.val (.fz d),ρ)
  |some _=>some (.rf i,ρ)
  |none=>none
 |.int k=>vt λρ=>some (.val (.fz (.int k)),ρ)
 |.str x=>vt λρ=>some (.val (.fz (.str x)),ρ)
 |.bl b=>vt λρ=>some (.val (.fz (.bool b)),ρ)
 |.non=>vt λρ=>some (.val (.fz .none),ρ)
 |.gc g=>vt λρ=>some (.val (.fz (C.gv g)),ρ)
 |.bop o a b=>vt λρ=>((ba a).1 ρ).bind λx=>((ba b).1 x.2).bind λy=>(ag y.2 x.1).bind λdx=>(ag y.2 y.1).bind λdy=>(vZ o dx dy).bind λd=>some (.val (.fz d),y.2)
 |.cat a b=>vt λρ=>((ba a).1 ρ).bind λx=>((ba b).1 x.2).bind λy=>(Bz y.2 x.1).bind λdx=>(Bz y.2 y.1).bind λdy=>(gd (dx.length+dy.length<=1000000)).bind λ_=>some (.val (.lst ((dx++dy).map OD.fz)),y.2)
 |.catT a b=>vt λρ=>((ba a).1 ρ).bind λx=>((ba b).1 x.2).bind λy=>(rG y.2 x.1).bind λdx=>(rG y.2 y.1).bind λdy=>(gd (dx≠[]/\dy≠[]/\dx.length+dy.length<=1000000)).bind λ_=>some (.val (.fz (.tuple (dx++dy))),y.2)
 |.cmp o a b=>vt λρ=>((ba a).1 ρ).bind λx=>((ba b).1 x.2).bind λy=>(ag y.2 x.1).bind λdx=>(ag y.2 y.1).bind λdy=>(cF o dx dy).bind λk=>some (.val (.fz (.bool k)),y.2)
 |.cmp2 o o' a b c=>vt λρ=>((ba a).1 ρ).bind λx=>((ba b).1 x.2).bind λy=>(ag y.2 x.1).bind λdx=>(ag y.2 y.1).bind λdy=>(cF o dx dy).bind λk=>if k=true then ((ba c).1 y.2).bind λz=>(ag z.2 y.1).bind λh=>(ag z.2 z.1).bind λdz=>(cF o' h dz).bind λr=>some (.val (.fz (.bool r)),z.2) else some (.val (.fz (.bool false)),y.2)
 |.isn neg a=>vt λρ=>((ba a).1 ρ).bind λx=>(ag x.2 x.1).bind λd=>some (.val (.fz (.bool (if neg then !isNn d else isNn d))),x.2)
 |.and a b=>(λρ=>((ba a).1 ρ).bind λx=>(ag x.2 x.1).bind λd=>(E2 d).bind λk=>if k=true then (ba b).1 x.2 else some (.val (.fz (.bool false)),x.2),λρ=>((ba a).2 ρ).bind λx=>if x.1=true then (ba b).2 x.2 else some (false,x.2))
 |.or a b=>(λρ=>((ba a).1 ρ).bind λx=>(ag x.2 x.1).bind λd=>(E2 d).bind λk=>if k=true then some (.val (.fz (.bool true)),x.2) else (ba b).1 x.2,λρ=>((ba a).2 ρ).bind λx=>if x.1=true then some (true,x.2) else (ba b).2 x.2)
 |.not a=>(λρ=>((ba a).1 ρ).bind λx=>(ag x.2 x.1).bind λd=>(E2 d).bind λk=>some (.val (.fz (.bool (!k))),x.2),λρ=>((ba a).2 ρ).bind λx=>some (!x.1,x.2))
 |.neg a=>vt λρ=>((ba a).1 ρ).bind λx=>(ag x.2 x.1).bind λd=>(inP d).bind λi=>some (.val (.fz (.int (-i))),x.2)
 |.ife c a b=>vt λρ=>((ba c).2 ρ).bind λx=>if x.1=true then (ba a).1 x.2 else (ba b).1 x.2
 |.tup es=>vt λρ=>(evs es ρ).bind λx=>(mapR own1 x.2 x.1).bind λz=>(gd (x.1.length<=1000000)).bind λ_=>some (.val (mkTup z.1),z.2)
 |.lst es=>vt λρ=>(evs es ρ).bind λx=>(mapR own1 x.2 x.1).bind λz=>(gd (x.1.length<=1000000)).bind λ_=>some (.val (.lst z.1),z.2)
 |.ix a b=>vt λρ=>((ba a).1 ρ).bind λx=>((ba b).1 x.2).bind λy=>(ag y.2 y.1).bind λd=>(inP d).bind λi=>(bZ y.2 x.1 i).bind λz=>some (.val z.1,z.2)
 |.slt a lo hi=>vt λρ=>((ba a).1 ρ).bind λx=>(uN lo x.2).bind λl=>(uN hi l.2).bind λu=>(rG u.2 x.1).bind λds=>(gd (¬ (HT.sIx ds.length 0 l.1=0/\HT.sIx ds.length ds.length u.1=ds.length))).bind λ_=>some (.val (.fz (.tuple (cutD ds l.1 u.1))),u.2)
 |.call f es=>vt λρ=>(evs es ρ).bind λx=>(bc (C.io f) x.2 x.1).bind λz=>(C.call f z.1).bind λw=>some (.val w.1,gn (C.io f) x.1 w.2 z.2)
 |.callS f es=>vt λρ=>(evs es ρ).bind λx=>(cE x.2 x.1).bind λds=>(C.call f (ds.map OD.fz)).bind λw=>(uL w.1).bind λd=>(gd (CP d=true)).bind λ_=>some (.val (.fz d),x.2)
 |.blt f es=>vt λρ=>(evs es ρ).bind λx=>(cE x.2 x.1).bind λds=>(z6 f ds).bind λd=>some (.val (.fz d),x.2)
 |.bnw f e=>vt λρ=>((ba e).1 ρ).bind λx=>match f with
  |.list=>((cC x.2 x.1).bind seqOf).bind λds=>some (.val (.lst (ds.map OD.fz)),x.2)
  |.tuple=>((cC x.2 x.1).bind listOf).bind λds=>some (.val (.fz (.tuple ds)),x.2)
 |.isi k a=>vt λρ=>((ba a).1 ρ).bind λx=>(ag x.2 x.1).bind λd=>some (.val (.fz (.bool (uM k d))),x.2)
 |.op2 o a b=>vt λρ=>((ba a).1 ρ).bind λx=>(ag x.2 x.1).bind λdx=>(j6 dx).bind λz=>((ba b).1 x.2).bind λy=>(ag y.2 y.1).bind λdy=>(CY o z dy).bind λd=>some (.val (.fz d),y.2)
 |.sls a lo hi=>vt λρ=>((ba a).1 ρ).bind λx=>(uN lo x.2).bind λl=>(uN hi l.2).bind λu=>(ag u.2 x.1).bind λd=>(j6 d).bind λz=>(gd (z.length<=1000000)).bind λ_=>some (.val (.fz (.str (Txt.slice z l.1 u.1))),u.2)
 |.spl a b=>vt λρ=>((ba a).1 ρ).bind λx=>(ag x.2 x.1).bind λdx=>(j6 dx).bind λz=>((ba b).1 x.2).bind λy=>(ag y.2 y.1).bind λdy=>(j6 dy).bind λw=>(gd ((w.length==0)=false/\z.length<=1000000/\(Txt.split z w).length<=1000000)).bind λ_=>some (.val (.lst ((Txt.split z w).map λq=>.fz (.str q))),y.2)
 |.lns a=>vt λρ=>((ba a).1 ρ).bind λx=>(ag x.2 x.1).bind λd=>(j6 d).bind λz=>(gd (z.length<=1000000)).bind λ_=>some (.val (.fz (.int z.length)),x.2)
 |.joi a b=>vt λρ=>((ba a).1 ρ).bind λx=>(ag x.2 x.1).bind λdx=>(j6 dx).bind λz=>((ba b).1 x.2).bind λy=>(ag y.2 y.1).bind λdy=>(E3 dy).bind λds=>(gu ds).bind λys=>(CT z ys).bind λw=>some (.val (.fz (.str w)),y.2)
 |.ist a=>vt λρ=>((ba a).1 ρ).bind λx=>(ag x.2 x.1).bind λd=>(j6 d).bind λz=>(intText? z).bind λn=>(gd (z.length<=640)).bind λ_=>some (.val (.fz (.int n)),x.2)
 |.fst a z=>vt λρ=>((ba a).1 ρ).bind λx=>(ag x.2 x.1).bind λd=>(j6 d).bind λy=>(gd (y.length+z.length<=1000000)).bind λ_=>some (.val (.fz (.str (y++z))),x.2)
 |.sin neg e i ps=>vt λρ=>((ba e).1 ρ).bind λx=>(ag x.2 x.1).bind λdx=>(bq x.2 i ps).bind λp=>(inP dx).bind λm=>(CW p.2.2).bind λns=>some (.val (.fz (.bool (if neg then !decide (m∈ns) else decide (m∈ns)))),x.2)
 |.kin neg _ kvs a=>vt λρ=>((ba a).1 ρ).bind λx=>(ag x.2 x.1).bind λd=>(j6 d).bind λk=>some (.val (.fz (.bool (if neg then !(kvs.lookup k).isSome else (kvs.lookup k).isSome))),x.2)
 |.kgt _ kvs a=>vt λρ=>((ba a).1 ρ).bind λx=>(ag x.2 x.1).bind λd=>(j6 d).bind λk=>(kvs.lookup k).bind λv=>some (.val (.fz (.str v)),x.2)
 |.sht a=>vt λρ=>((ba a).1 ρ).bind λx=>(ag x.2 x.1).bind λd=>(gd (zV d=true)).bind λ_=>some (.val (.fz (.str (lu d))),x.2)
 |.dnew=>vt λρ=>some (.val (.dic [] []),ρ)
 |.pg i ps=>vt λρ=>(bq ρ i ps).bind λp=>(uL p.2.2).bind λd=>some (.val (.fz d),ρ)
 |.din neg e i ps=>vt λρ=>((ba e).1 ρ).bind λx=>(ag x.2 x.1).bind λdx=>(bq x.2 i ps).bind λp=>(keyOf dx).bind λk=>(CV p.2.2).bind λq=>some (.val (.fz (.bool (if neg then !(q.1.any λq=>decide (q=k)) else q.1.any λq=>decide (q=k)))),x.2)
 |.comp nt fr it tg ifs elt=>vt λρ=>(lz it ρ).bind λx=>(gd (x.1.length<1000000)).bind λ_=>(bK x.2 fr).bind λz=>
   (bO (λd j=>(aY tg (.fz d) j).bind λρ1=>(Gc ifs ρ1).bind λk=>if k.1=true then ((ba elt).1 k.2).bind λy=>(frz1 y.2 y.1).bind λq=>some ([q.1],q.2) else some ([],k.2)) x.1 [] (List.replicate nt none++z.1)).bind λw=>
    some (.val (.lst (w.1.map OD.fz)),cJ z.2 fr (w.2.drop nt))
def evs:Es->DEnv->Option (List OR×DEnv)
 |.nil,ρ=>some ([],ρ)
 |.cons e es,ρ=>((ba e).1 ρ).bind λx=>(evs es x.2).bind λy=>some (x.1::y.1,y.2)
def uN:Eo->DEnv->Option (Option Int×DEnv)
 |.none,ρ=>some (none,ρ)
 |.some e,ρ=>((ba e).1 ρ).bind λx=>(ag x.2 x.1).bind λd=>(inP d).bind λi=>some (some i,x.2)
def Gc:Eo->DEnv->Option (Bool×DEnv)
 |.none,ρ=>some (true,ρ)
 |.some e,ρ=>(ba e).2 ρ
def lz:It'->DEnv->Option (List PyData×DEnv)
 |.seq e,ρ=>((ba e).1 ρ).bind λx=>(frz1 x.2 x.1).bind λz=>(pU z.1).bind λds=>some (ds,z.2)
 |.rg1 e,ρ=>((ba e).1 ρ).bind λx=>(ag x.2 x.1).bind λd=>(inP d).bind λj=>(gd (-(2^62)<=j/\j<2^62)).bind λ_=>some (cx 0 j.toNat,x.2)
 |.sqs e,ρ=>((ba e).1 ρ).bind λx=>(ag x.2 x.1).bind λd=>(j6 d).bind λz=>some (kG z,x.2)
 |.enk a b,ρ=>((ba a).1 ρ).bind λx=>((ba b).1 x.2).bind λy=>(ag y.2 y.1).bind λd=>(inP d).bind λk=>(gd (k=0)).bind λ_=>(frz1 y.2 x.1).bind λz=>(E3 z.1).bind λds=>some (fu ds,z.2)
 |.zps a b,ρ=>((ba a).1 ρ).bind λx=>((ba b).1 x.2).bind λy=>(frz1 y.2 x.1).bind λz=>(frz1 z.2 y.1).bind λw=>(j6 z.1).bind λs=>(pU w.1).bind λes=>some (bE (kG s) es,w.2)
 |.zip a b,ρ=>((ba a).1 ρ).bind λx=>((ba b).1 x.2).bind λy=>(frz1 y.2 x.1).bind λz=>(frz1 z.2 y.1).bind λw=>(pU z.1).bind λds=>(pU w.1).bind λes=>some (bE ds es,w.2)
end
abbrev ev(e:E)(ρ:DEnv):=(ba C e).1 ρ
abbrev aZ(e:E)(ρ:DEnv):=(ba C e).2 ρ
end
end
section
theorem bnd{c b:Type}{o:Option c}{f:c->Option b}{x:b}(h:o.bind f=some x):∃a,o=some a/\f a=some x:=aaF.mp h
theorem bn2{α β γ:Type}{o:Option α}{g1:α->Option β}{f:α->β->Option γ}{r:γ}(h:(o.bind λa=>(g1 a).bind (f a))=some r):∃a b,o=some a/\g1 a=some b/\f a b=some r:=by obtain⟨a,p0,h⟩:=bnd h;obtain⟨b,p1,h⟩:=bnd h;exact⟨a,b,p0,p1,h⟩
theorem bn3{α β γ δ:Type}{o:Option α}{g1:α->Option β}{g2:α->β->Option γ}{f:α->β->γ->Option δ}{r:δ}(h:(o.bind λa=>(g1 a).bind λb=>(g2 a b).bind (f a b))=some r):∃a b c,o=some a/\g1 a=some b/\g2 a b=some c/\f a b c=some r:=by obtain⟨a,p0,h⟩:=bnd h;obtain⟨b,p1,h⟩:=bnd h;obtain⟨c,p2,h⟩:=bnd h;exact⟨a,b,c,p0,p1,p2,h⟩
theorem bn4{α β γ δ ε:Type}{o:Option α}{g1:α->Option β}{g2:α->β->Option γ}{g3:α->β->γ->Option δ}{f:α->β->γ->δ->Option ε}{r:ε}(h:(o.bind λa=>(g1 a).bind λb=>(g2 a b).bind λc=>(g3 a b c).bind (f a b c))=some r):∃a b c d,o=some a/\g1 a=some b/\g2 a b=some c/\g3 a b c=some d/\f a b c d=some r:=by obtain⟨a,p0,h⟩:=bnd h;obtain⟨b,p1,h⟩:=bnd h;obtain⟨c,p2,h⟩:=bnd h;obtain⟨d,p3,h⟩:=bnd h;exact⟨a,b,c,d,p0,p1,p2,p3,h⟩
theorem bn5{α β γ δ ε ζ:Type}{o:Option α}{g1:α->Option β}{g2:α->β->Option γ}{g3:α->β->γ->Option δ}{g4:α->β->γ->δ->Option ε}{f:α->β->γ->δ->ε->Option ζ}{r:ζ}(h:(o.bind λa=>(g1 a).bind λb=>(g2 a b).bind λc=>(g3 a b c).bind λd=>(g4 a b c d).bind (f a b c d))=some r):∃a b c d e,o=some a/\g1 a=some b/\g2 a b=some c/\g3 a b c=some d/\g4 a b c d=some e/\f a b c d e=some r:=by obtain⟨a,p0,h⟩:=bnd h;obtain⟨b,p1,h⟩:=bnd h;obtain⟨c,p2,h⟩:=bnd h;obtain⟨d,p3,h⟩:=bnd h;obtain⟨e,p4,h⟩:=bnd h;exact⟨a,b,c,d,e,p0,p1,p2,p3,p4,h⟩
theorem eR{x:OD}{d:PyData}(h:uL x=some d):x=.fz d:=by cases x<;>cases h;rfl
theorem gy{x:OD}{xs:List OD}(h:zZ x=some xs):x=.lst xs:=by cases x<;>cases h;rfl
theorem sA{x:OD}{z:List Key×List OD}(h:CV x=some z):x=.dic z.1 z.2:=by cases x<;>cases h;rfl
theorem z7{x:OD}{xs:List OD}(h:G3 x=some xs):x=.lst xs\/x=.tup xs:=by cases x<;>cases h<;>first|exact .inl rfl|exact .inr rfl
theorem aL{d:PyData}{i:Int}(h:inP d=some i):d=.int i:=by cases d<;>cases h;rfl
theorem lA{d:PyData}{i:Bool}(h:E2 d=some i):d=.bool i:=by cases d<;>cases h;rfl
theorem lC{d:PyData}{i:List PyData}(h:E3 d=some i):d=.list i:=by cases d<;>cases h;rfl
theorem lD{d:PyData}{i:List PyData}(h:pU d=some i):d=.list i\/d=.tuple i:=by cases d<;>cases h<;>first|exact .inl rfl|exact .inr rfl
theorem gd_ok{c:Prop}[Decidable c]{u:Unit}(h:gd c=some u):c:=by
 by_cases a:c
 ·exact a
 ·rw[gd,if_neg a]at h;cases h
theorem one1_ok{a:Type}{l:List a}{x:a}(h:dq l=some x):l=[x]:=by
 cases l with
 |nil=>cases h
 |cons y l=>cases l<;>cases h;rfl
theorem thr3_ok{a:Type}{l:List a}{x:a×a×a}(h:z5 l=some x):l=[x.1,x.2.1,x.2.2]:=by
 cases l with
 |nil=>cases h
 |cons y l=>
  cases l with
  |nil=>cases h
  |cons z l=>
   cases l with
   |nil=>cases h
   |cons w l=>cases l<;>cases h;rfl
theorem z8{d:PyData}{i:List PyData}(h:G4 d=some i):d=.tuple i:=by cases d<;>cases h;rfl
theorem two2_ok{a:Type}{l:List a}{x:a×a}(h:eQ l=some x):l=[x.1,x.2]:=by
 cases l with
 |nil=>cases h
 |cons y l=>
  cases l with
  |nil=>cases h
  |cons z l=>cases l<;>cases h;rfl
section
variable(C:Ct)
mutual
def z9:E->DEnv->Option PyData
 |.nm i,ρ=>(ρ[i]?.join).bind uL
 |.int k,_=>some (.int k)
 |.str x,_=>some (.str x)
 |.gc g,_=>some (C.gv g)
 |.bop o a b,ρ=>match o with
  |.add=>(z9 a ρ).bind λx=>(z9 b ρ).bind λy=>vZ .add x y
  |.sub=>(z9 a ρ).bind λx=>(z9 b ρ).bind λy=>vZ .sub x y
  |_=>none
 |.ix a b,ρ=>(z9 a ρ).bind λx=>(z9 b ρ).bind λy=>(pU x).bind λds=>(inP y).bind λi=>atI ds i
 |.tup es,ρ=>(CZ es ρ).bind λds=>(gd (ds.length<=1000000)).bind λ_=>some (.tuple ds)
 |.pg i ps,ρ=>(bq ρ i ps).bind λp=>uL p.2.2
 |_,_=>none
def CZ:Es->DEnv->Option (List PyData)
 |.nil,_=>some []
 |.cons e es,ρ=>(z9 e ρ).bind λx=>(CZ es ρ).bind λy=>some (x::y)
end
def cy(k:Key)(d:PyData)(ks:List Key)(xs:List OD):List Key×List OD:=
 if (ks.any λq=>decide (q=k))=true then (ks,List.zipWith (λq x=>if q=k then .fz d else x) ks xs) else (ks++[k],xs++[.fz d])
def v3:Bo->Int->PyData->Option Int
 |.add,a,.int k=>some (a+k)
 |.sub,a,.int k=>some (a-k)
 |_,_,_=>none
def sC(e:E)(o:List Int)(ρ:DEnv):Option (List Int×DEnv):=(gd (o.length<1000)).bind λ_=>(ev C e ρ).bind λx=>(ag x.2 x.1).bind λd=>(inP d).bind λm=>some (o++[m],x.2)
def j7(ifs:Eo)(e:E)(o:List Int)(ρ:DEnv):Option (List Int×DEnv):=match ifs with
 |.none=>sC C e o ρ
 |.some c=>(aZ C c ρ).bind λt=>if t.1 then sC C e o t.2 else some (o,t.2)
mutual
def bT:S'->DEnv->Option (Fl×DEnv)
 |.set i e,ρ=>(ev C e ρ).bind λx=>(own1 x.2 x.1).bind λz=>(gd (i<z.2.length)).bind λ_=>some (.nx,z.2.set i (some z.1))
 |.asg t e,ρ=>(ev C e ρ).bind λx=>(own1 x.2 x.1).bind λz=>(aY t z.1 z.2).bind λρ1=>some (.nx,ρ1)
 |.par is es,ρ=>(evs C es ρ).bind λx=>(mapR own1 x.2 x.1).bind λz=>(gd (z.1.length=is.length/\∀i∈is,i<z.2.length)).bind λ_=>some (.nx,bS is z.1 z.2)
 |.aug i o e,ρ=>(ρ[i]?.join).bind λf=>(uL f).bind λh=>(inP h).bind λa=>(ev C e ρ).bind λx=>(ag x.2 x.1).bind λd=>(v3 o a d).bind λr=>some (.nx,x.2.set i (some (.fz (.int r))))
 |.ret e,ρ=>(ev C e ρ).bind λx=>(mv1 x.2 x.1).bind λz=>some (.rt z.1,z.2)
 |.iff c a b,ρ=>(aZ C c ρ).bind λx=>if x.1=true then aQ a x.2 else aQ b x.2
 |.fr t it b,ρ=>(lz C it ρ).bind λx=>bF (λd l=>(aY t (.fz d) l).bind λρ1=>aQ b ρ1) x.1 x.2
 |.cont,ρ=>some (.ct,ρ)
 |.stk,_=>none
 |.app i e,ρ=>(ρ[i]?.join).bind λf=>(zZ f).bind λ_=>(ev C e ρ).bind λx=>(own1 x.2 x.1).bind λz=>(z.2[i]?.join).bind λg=>(zZ g).bind λxs=>(gd (xs.length<1000000)).bind λ_=>some (.nx,z.2.set i (some (.lst (xs++[z.1]))))
 |.rev i,ρ=>(ρ[i]?.join).bind λf=>(zZ f).bind λxs=>some (.nx,ρ.set i (some (.lst xs.reverse)))
 |.aut i e,ρ=>(ρ[i]?.join).bind λf=>(uL f).bind λh=>(G4 h).bind λxs=>(ev C e ρ).bind λx=>(rG x.2 x.1).bind λys=>(gd (xs≠[]/\ys≠[]/\xs.length+ys.length<=1000000)).bind λ_=>some (.nx,x.2.set i (some (.fz (.tuple (xs++ys)))))
 |.sti i k e,ρ=>(ev C e ρ).bind λx=>(own1 x.2 x.1).bind λz=>(z.2[i]?.join).bind λf=>(zZ f).bind λ_=>(ev C k z.2).bind λq=>(ag q.2 q.1).bind λd=>(inP d).bind λk=>(q.2[i]?.join).bind λg=>(zZ g).bind λxs=>(ixN xs.length k).bind λj=>some (.nx,q.2.set i (some (.lst (xs.set j z.1))))
 |.sdk i k e,ρ=>(ev C e ρ).bind λx=>(frz1 x.2 x.1).bind λz=>(z.2[i]?.join).bind λf=>(CV f).bind λ_=>(ev C k z.2).bind λq=>(ag q.2 q.1).bind λkd=>(keyOf kd).bind λm=>(q.2[i]?.join).bind λg=>(CV g).bind λu=>(gd (u.2.length<1000000)).bind λ_=>some (.nx,q.2.set i (some (.dic (cy m z.1 u.1 u.2).1 (cy m z.1 u.1 u.2).2)))
 |.ssc i nt fr it tg ifs elt,ρ=>(lz C it ρ).bind λx=>(gd (x.1.length<1000000)).bind λ_=>(bK x.2 fr).bind λz=>(dU (λo d ρ=>(aY tg (.fz d) ρ).bind λρ1=>j7 C ifs elt o ρ1) x.1 [] (List.replicate nt none++z.1)).bind λw=>(gd (i<(cJ z.2 fr (w.2.drop nt)).length)).bind λ_=>some (.nx,(cJ z.2 fr (w.2.drop nt)).set i (some (.st w.1)))
def aQ:Ss->DEnv->Option (Fl×DEnv)
 |.nil,ρ=>some (.nx,ρ)
 |.cons s ss,ρ=>(bT s ρ).bind λx=>match x.1 with
  |.nx=>aQ ss x.2
  |fl=>some (fl,x.2)
end
def v5(fn:Fn)(xs:List OD):Option (OD×List OD):=(aQ C fn.body (gr fn.n xs)).bind λx=>match x.1 with
 |.nx=>(aN 0 fn.io xs x.2).bind λa=>some (.fz .none,a)
 |.rt o=>(aN 0 fn.io xs x.2).bind λa=>some (o,a)
 |_=>none
end
structure Pg where
 F:Nat->Option Fn
 gv:Nat->PyData
 wf:Nat
def Pg.io(p:Pg)(f:Nat):List Bool:=match p.F f with|some a=>a.io|none=>[]
def Pg.both(p:Pg):Nat->(Nat->List OD->Option (OD×List OD))×(Nat->List OD->Option (OD×List OD))
 |0=>(λ_ _=>none,λ_ _=>none)
 |n+1=>(λf xs=>match p.F f with
  |some fn=>if xs.length=fn.io.length then v5 ⟨p.io,(Pg.both p n).1,(Pg.both p n).2,p.gv,p.wf⟩ fn xs else none
  |none=>none,(Pg.both p n).1)
def Pg.call(p:Pg)(n f:Nat)(xs:List OD):Option (OD×List OD):=(p.both n).1 f xs
def Pg.mak(p:Pg)(n f:Nat)(xs:List OD):Option (OD×List OD):=(p.both n).2 f xs
abbrev Pg.ct(p:Pg)(n:Nat):Ct:=⟨p.io,p.call n,p.mak n,p.gv,p.wf⟩
theorem Pg.ez(p:Pg)(n f:Nat)(xs:List OD):p.call (n+1) f xs=match p.F f with
  |some fn=>if xs.length=fn.io.length then v5 (p.ct n) fn xs else none
  |none=>none:=rfl
end
section
def ak(C:Ct)(m:E):DE:=λa Q=>∃x,ev C m a=some x/\Q x.1 x.2
def eS(C:Ct)(m:E):DT:=λa Q=>∃x,aZ C m a=some x/\Q x.1 x.2
def fK(C:Ct)(m:Es):DA:=λa Q=>∃x,evs C m a=some x/\Q x.1 x.2
def lF(C:Ct)(m:Eo):DO:=λa Q=>∃x,uN C m a=some x/\Q x.1 x.2
def dr(C:Ct)(m:It'):DI:=λa Q=>∃x,lz C m a=some x/\Q x.1 x.2
theorem PDe.imp:PDe X e d->(∀ρ Q,d' ρ Q->d ρ Q)->PDe X e d'
 |⟨te,h,s⟩,f=>⟨te,h,λb F σ H ρ τ θ c Q a R g q=>s b F σ H ρ τ θ c Q a R (f _ _ g) q⟩
theorem PDt.imp:PDt X e d->(∀ρ Q,d' ρ Q->d ρ Q)->PDt X e d'
 |⟨te,h,s⟩,f=>⟨te,h,λb F σ H ρ τ θ c Q a R g q=>s b F σ H ρ τ θ c Q a R (f _ _ g) q⟩
theorem PDw.imp:PDw X e d->(∀ρ Q,d' ρ Q->d ρ Q)->PDw X e d'
 |⟨te,h,s⟩,f=>⟨te,h,λb F σ H ρ τ θ c Q a R g q=>s b F σ H ρ τ θ c Q a R (f _ _ g) q⟩
theorem PDa.imp:PDa X es d->(∀ρ Q,d' ρ Q->d ρ Q)->PDa X es d'
 |⟨te,h,s⟩,f=>⟨te,h,λb F σ H ρ τ θ c Q a R e q=>s b F σ H ρ τ θ c Q a R (f _ _ e) q⟩
theorem PDi.imp:PDi X tg e d->(∀ρ Q,d' ρ Q->d ρ Q)->PDi X tg e d'
 |⟨te,h,s⟩,f=>⟨te,h,λb F σ H ρ τ θ c Q a R g q=>s b F σ H ρ τ θ c Q a R (f _ _ g) q⟩
theorem PDo.imp:PDo X o d->(∀ρ Q,d' ρ Q->d ρ Q)->PDo X o d'
 |⟨te,h,s⟩,f=>⟨te,h,λb F σ H ρ τ θ c Q a R e q=>s b F σ H ρ τ θ c Q a R (f _ _ e) q⟩
theorem SndR2.or{K:Waa}(h:SndR2 K r d)(h':SndR2 K r' d'):SndR2 K (λx y H Q=>r x y H Q\/r' x y H Q) (λx y Q=>d x y Q\/d' x y Q):=λH v u e f a Q b c z q=>z.imp (λz=>h H v u e f a Q b c z q) λz=>h' H v u e f a Q b c z q
theorem SndR2.imp{K:Waa}(h:SndR2 K r d)(f:∀x y Q,d' x y Q->d x y Q):SndR2 K r d':=λH v u e g a Q b c z q=>h H v u e g a Q b c (f _ _ _ z) q
def opOf:Bo->Operator
 |.add=>.Add|.sub=>.Sub|.mul=>.Mult|.fdiv=>.FloorDiv|.mod=>.Mod|.pow=>.Pow
def coOf:Co->CmpOp
 |.lt=>.Lt|.le=>.LtE|.gt=>.Gt|.ge=>.GtE|.eq=>.Eq|.ne=>.NotEq|.inn=>.In|.nin=>.NotIn
def HQ(o:Bo):DR2:=λx y Q=>∃d,vZ o x y=some d/\Q d
def HR(o:Co):DR2:=λx y Q=>∃k,cF o x y=some k/\Q (.bool k)
theorem cT(h:vZ o x y=some d):∃i j k,x=.int i/\y=.int j/\G5 o i j=some k/\d=.int k:=by obtain⟨i,j,k,c,a,b,h⟩:=bn3 h;cases h;exact⟨i,j,k,aL c,aL a,b,rfl⟩
theorem C0(o:Bo):∃e,OpR X (binaryOp (opOf o)) e/\SndR2 X.K e (HQ o):=by
 cases o with
 |add=>refine⟨_,yX,(rp λi j=>.int _).imp λx y Q c=>?_⟩;obtain⟨d,h,q⟩:=c;obtain⟨i,j,k,rfl,rfl,a,rfl⟩:=cT h;cases a;exact⟨i,j,rfl,rfl,q⟩
 |sub=>refine⟨_,yY,(rp λi j=>.int _).imp λx y Q c=>?_⟩;obtain⟨d,h,q⟩:=c;obtain⟨i,j,k,rfl,rfl,a,rfl⟩:=cT h;cases a;exact⟨i,j,rfl,rfl,q⟩
 |mul=>refine⟨_,yZ,(vx λi j=>.int _).imp λx y Q c=>?_⟩;obtain⟨d,h,q⟩:=c;obtain⟨i,j,k,rfl,rfl,a,rfl⟩:=cT h;obtain⟨_,b,a⟩:=bnd a;cases a;have b:=gd_ok b;exact⟨i,j,rfl,rfl,b,q⟩
 |fdiv=>refine⟨_,uY,(vx λi j=>.int _).imp λx y Q c=>?_⟩;obtain⟨d,h,q⟩:=c;obtain⟨i,j,k,rfl,rfl,a,rfl⟩:=cT h;obtain⟨_,b,a⟩:=bnd a;cases a;have b:=gd_ok b;exact⟨i,j,rfl,rfl,b,q⟩
 |mod=>refine⟨_,y1,(vx λi j=>.int _).imp λx y Q c=>?_⟩;obtain⟨d,h,q⟩:=c;obtain⟨i,j,k,rfl,rfl,a,rfl⟩:=cT h;obtain⟨_,b,a⟩:=bnd a;cases a;have b:=gd_ok b;exact⟨i,j,rfl,rfl,b,q⟩
 |pow=>refine⟨_,y2,(vx λi j=>.int _).imp λx y Q c=>?_⟩;obtain⟨d,h,q⟩:=c;obtain⟨i,j,k,rfl,rfl,a,rfl⟩:=cT h;obtain⟨_,b,a⟩:=bnd a;cases a;have b:=gd_ok b;exact⟨i,j,rfl,rfl,b,q⟩
theorem m5(h:eqA x y=some k):pC x y=some k\/(SeqAt.shaped x=true/\SeqAt.shaped y=true/\k=PyData.eqv x y):=by
 unfold eqA at h;cases e:pC x y with
 |some d=>rw[e]at h;exact .inl h
 |none=>
  rw[e]at h;simp only at h;split at h
  ·rename_i c;cases h;obtain⟨a,b⟩:=abt.mp c;exact .inr ⟨a,b,rfl⟩
  ·cases h
theorem m6(h:inA x y=some k):∃ds,(y=.list ds\/y=.tuple ds)/\Cq x=true/\memD x ds=some k:=by obtain⟨ds,_,b,a,h⟩:=bn2 h;exact⟨ds,lD b,gd_ok a,h⟩
theorem iq(n:X.A.units+64<cLine)(o:Co):∃p,OpR X (compareOp (coOf o)) p/\SndR2 X.K p (HR o):=by
 have b:∀{x y:PyData}{k:Bool}{g:Int->Int->Bool},((inP x).bind λi=>(inP y).bind λj=>some (g i j))=some k->∃i j,x=.int i/\y=.int j/\k=g i j:=by intro x y k g h;obtain⟨i,j,s,r,h⟩:=bn2 h;cases h;exact⟨i,j,aL s,aL r,rfl⟩
 cases o with
 |lt=>refine⟨_,BS,(vy ).imp λx y Q a=>?_⟩;obtain⟨k,h,q⟩:=a;obtain⟨i,j,rfl,rfl,rfl⟩:=b h;exact⟨i,j,rfl,rfl,q⟩
 |le=>refine⟨_,BU,(vy ).imp λx y Q a=>?_⟩;obtain⟨k,h,q⟩:=a;obtain⟨i,j,rfl,rfl,rfl⟩:=b h;exact⟨i,j,rfl,rfl,q⟩
 |gt=>refine⟨_,BV,(vy ).imp λx y Q a=>?_⟩;obtain⟨k,h,q⟩:=a;obtain⟨i,j,rfl,rfl,rfl⟩:=b h;exact⟨i,j,rfl,rfl,q⟩
 |ge=>refine⟨_,BW,(vy ).imp λx y Q a=>?_⟩;obtain⟨k,h,q⟩:=a;obtain⟨i,j,rfl,rfl,rfl⟩:=b h;exact⟨i,j,rfl,rfl,q⟩
 |eq=>
  refine⟨_,op_eq.or (zj n),(sr_eq.or zz).imp λx y Q a=>?_⟩;obtain⟨k,h,q⟩:=a;rcases m5 h with h|⟨d,c,rfl⟩
  ·exact .inl ⟨k,h,q⟩
  ·exact .inr ⟨d,c,q⟩
 |ne=>
  refine⟨_,op_ne.or (zk n),(sr_ne.or zA).imp λx y Q a=>?_⟩;obtain⟨k,h,q⟩:=a;obtain⟨f,e,h⟩:=bnd h;cases h;rcases m5 e with h|⟨d,c,rfl⟩
  ·exact .inl ⟨f,h,q⟩
  ·exact .inr ⟨d,c,q⟩
 |inn=>refine⟨_,oT,(xO ).imp λx y Q a=>?_⟩;obtain⟨k,h,q⟩:=a;obtain⟨l,d,c,m⟩:=m6 h;exact⟨l,k,d,c,m,q⟩
 |nin=>refine⟨_,iR,(xO ).imp λx y Q a=>?_⟩;obtain⟨k,h,q⟩:=a;obtain⟨f,e,h⟩:=bnd h;cases h;obtain⟨l,d,c,m⟩:=m6 e;exact⟨l,f,d,c,m,q⟩
theorem C1(m:PDe X a (ak C ma))(g:PDe X b (ak C mb)):PDe X (.BinOp a (opOf o) b pos) (ak C (.bop o ma mb)):=by obtain⟨v,l,r⟩:=C0 o;refine(Cp l r m g).imp λu Q s=>?_;obtain⟨x,h,q⟩:=s;obtain⟨i,p,n,k,d,j,c,f,t,e,h⟩:=bn5 h;cases h;exact⟨i,j,p,c,n,k,f,t,d,e,q⟩
theorem C2(n:X.A.units+64<cLine)(l:behindInMarks (coOf o) b=false)(p:PDe X a (ak C ma))(g:PDe X b (ak C mb)):PDe X (.Compare a [coOf o] [b] pos) (ak C (.cmp o ma mb)):=by obtain⟨y,m,t⟩:=iq n o;refine(zy m t l p g).imp λw Q u=>?_;obtain⟨x,h,q⟩:=u;obtain⟨i,s,r,k,d,j,c,f,v,e,h⟩:=bn5 h;cases h;exact⟨i,j,s,c,r,k,f,v,d,e,q⟩
theorem C3(n:X.A.units+64<cLine)(l:behindInMarks (coOf o) b=false)(p:PDe X a (ak C ma))(g:PDe X b (ak C mb)):PDt X (.Compare a [coOf o] [b] pos) (eS C (.cmp o ma mb)):=by obtain⟨B,m,u⟩:=iq n o;refine(vB m u l p g).imp λz Q v=>?_;obtain⟨x,h,q⟩:=v;obtain⟨y,h,s⟩:=bnd h;obtain⟨i,t,r,k,d,j,c,f,w,e,h⟩:=bn5 h;cases h;cases s;exact⟨i,j,t,c,r,k,f,w,d,e,d,rfl,q⟩
theorem Aa(g:X.A.units+64<cLine)(s:lastMarks [coOf o,coOf o'] [b,c]=false)(y:PDe X a (ak C ma))(m:PDe X b (ak C mb))(H:PDe X c (ak C mc)):PDe X (.Compare a [coOf o,coOf o'] [b,c] pos) (ak C (.cmp2 o o' ma mb mc)):=by
 obtain⟨P,w,I⟩:=iq g o;obtain⟨u,f,e⟩:=iq g o';refine(rq w I f e s y m H).imp λO Q J=>?_;obtain⟨x,h,q⟩:=J;obtain⟨n,G,z,r,k,p,i,l,L,j,h⟩:=bn5 h;refine⟨n,p,G,i,z,r,l,L,k,j,k,rfl,?_⟩;cases k with
 |false=>rw[if_neg aak]at h;cases h;rw[if_neg aak];exact q
 |true=>rw[if_pos rfl]at h ⊢;obtain⟨B,d,N,F,D,v,t,M,h⟩:=bn4 h;cases h;exact⟨B,D,d,N,v,t,F,M,q⟩
end
section
def isStar:Expr->Bool
 |.Starred _ _=>true
 |_=>false
theorem aw(h:isStar e=false):starEach (e::es) env=(false,eval e env)::starEach es env:=by cases e<;>first|rfl|cases h
theorem bG:∀{es:List Expr},es.any isStar=false->(backTo pos (starEach es env)).any (·.1)=false
 |[],_=>rfl
 |e::es,h=>by rw[aaP,ab6]at h;rw[aw h.1];show (false||(backTo pos (starEach es env)).any (·.1))=false;rw[bG h.2];rfl
def plainT:Expr->Bool
 |.UnaryOp .Not _ _=>false
 |.BoolOp _ _ _=>false
 |.IfExp _ _ _ _=>false
 |.Compare _ _ _ _=>false
 |_=>true
theorem plainT_ok(h:plainT e=true):∀a,isTrue e env a=(do let v <-a;standAt e.pos;holding [v] (truthy v)):=by
 intro a;cases e with
 |UnaryOp b x p=>cases b<;>first|rfl|cases h
 |_=>first|rfl|cases h
section
variable{X:Cx}
theorem C4:ev C (.nm i) ρ=(match ρ[i]?.join with|some (.fz d)=>some (.val (.fz d),ρ)|some _=>some (.rf i,ρ)|none=>none):=rfl
theorem Gd(d:X.N[i]?=some x) (b:Vis X.env.scope x) (c:(x==("__debug__":Str))=false) (a:(x==("__classdict__":Str))=false):PDe X (.Name x pos) (ak C (.nm i)):=by
 refine(zx d b c a).imp λg Q f=>?_;obtain⟨y,h,q⟩:=f;unfold dVar;rw[C4]at h;cases e:g[i]?.join with
 |none=>rw[e]at h;cases h
 |some z=>rw[e]at h;cases z<;>(simp only at h;cases h;exact q)
theorem C5{j pos}:PDe X (.Constant (.int k) j pos) (ak C (.int k)):=pd_int.imp λa Q ⟨y,h,q⟩=>by cases h;exact q
theorem C6{j pos}:PDe X (.Constant (.str k) j pos) (ak C (.str k)):=pd_str.imp λa Q ⟨y,h,q⟩=>by cases h;exact q
theorem Ge{j pos}:PDe X (.Constant (.bool k) j pos) (ak C (.bl k)):=pd_bl.imp λa Q ⟨y,h,q⟩=>by cases h;exact q
theorem C7{j pos}:PDe X (.Constant .none j pos) (ak C .non):=pd_non.imp λa Q ⟨y,h,q⟩=>by cases h;exact q
theorem Gf(a:Gl X x) (c:X.mg x=some u) (r:RelV v u) (s:∀S H,Fz X.K S H v (C.gv g)) (b:(x==("__debug__":Str))=false):PDe X (.Name x pos) (ak C (.gc g)):=
 (rm a c r s b).imp λd Q ⟨y,h,q⟩=>by cases h;exact q
theorem C8{j pos'}(e:PDe X a (ak C ma)):PDe X (.Compare a [if neg then .IsNot else .Is] [.Constant .none j pos'] pos) (ak C (.isn neg ma)):=by
 have b:∀c Q,ak C (.isn neg ma) c Q->pD neg (ak C ma) c Q:=λc Q ⟨y,h,q⟩=>by obtain⟨g,d,i,f,h⟩:=bn2 h;cases h;exact⟨g,i,d,f,q⟩
 cases neg with
 |false=>exact(zD e).imp b
 |true=>exact(vA e).imp b
theorem C9{j pos'}(e:PDe X a (ak C ma)):PDt X (.Compare a [if neg then .IsNot else .Is] [.Constant .none j pos'] pos) (eS C (.isn neg ma)):=by
 have b:∀c Q,eS C (.isn neg ma) c Q->fq (pD neg (ak C ma)) c Q:=λc Q ⟨y,h,q⟩=>by obtain⟨z,h,g⟩:=bnd h;obtain⟨i,d,k,f,h⟩:=bn2 h;cases h;cases g;exact⟨i,k,d,f,_,rfl,q⟩
 cases neg with
 |false=>exact(vC e).imp b
 |true=>exact(rA e).imp b
theorem v_and(j:PDe X a (ak C ma))(f:PDe X (.BoolOp .And (b::es) pos) (ak C mb)):PDe X (.BoolOp .And (a::b::es) pos) (ak C (.and ma mb)):=by
 refine(zF j f).imp λm Q i=>?_;obtain⟨y,h,q⟩:=i;obtain⟨g,d,k,l,c,e,h⟩:=bn3 h;rw[lA e]at c;refine⟨g,l,k,c,?_⟩;cases k with
 |false=>rw[if_neg aak]at h ⊢;cases h;exact q
 |true=>rw[if_pos rfl]at h ⊢;exact⟨y,h,q⟩
theorem v_or(j:PDe X a (ak C ma))(f:PDe X (.BoolOp .Or (b::es) pos) (ak C mb)):PDe X (.BoolOp .Or (a::b::es) pos) (ak C (.or ma mb)):=by
 refine(Cv j f).imp λm Q i=>?_;obtain⟨y,h,q⟩:=i;obtain⟨g,d,k,l,c,e,h⟩:=bn3 h;rw[lA e]at c;refine⟨g,l,k,c,?_⟩;cases k with
 |false=>rw[if_neg aak]at h ⊢;exact⟨y,h,q⟩
 |true=>rw[if_pos rfl]at h ⊢;cases h;exact q
theorem v_not(g:PDe X a (ak C ma)):PDe X (.UnaryOp .Not a pos) (ak C (.not ma)):=by refine(zG g).imp λj Q f=>?_;obtain⟨y,h,q⟩:=f;obtain⟨e,d,k,i,b,c,h⟩:=bn3 h;cases h;exact⟨e,i,k,by rw[b,lA c],q⟩
theorem Da(g:PDe X a (ak C ma)):PDe X (.UnaryOp .USub a pos) (ak C (.neg ma)):=by refine(zE g).imp λj Q f=>?_;obtain⟨y,h,q⟩:=f;obtain⟨e,d,k,i,b,c,h⟩:=bn3 h;cases h;exact⟨e,i,d,b,k,aL c,q⟩
theorem De(f:PDt X a (eS C ma))(c:PDw X (.BoolOp .And (b::es) pos) (eS C mb)):PDw X (.BoolOp .And (a::b::es) pos) (eS C (.and ma mb)):=by
 refine(vE f c).imp λi Q e=>?_;obtain⟨y,h,q⟩:=e;obtain⟨d,g,h⟩:=bnd h;refine⟨d,g,?_⟩;split at h
 ·rename_i k;rw[if_pos k];exact⟨y,h,q⟩
 ·rename_i k;rw[if_neg k];cases h;exact q
theorem Gg(f:PDt X a (eS C ma))(c:PDw X (.BoolOp .Or (b::es) pos) (eS C mb)):PDw X (.BoolOp .Or (a::b::es) pos) (eS C (.or ma mb)):=by
 refine(zH f c).imp λi Q e=>?_;obtain⟨y,h,q⟩:=e;obtain⟨d,g,h⟩:=bnd h;refine⟨d,g,?_⟩;split at h
 ·rename_i k;rw[if_pos k];cases h;exact q
 ·rename_i k;rw[if_neg k];exact⟨y,h,q⟩
theorem Dg(d:PDt X a (eS C ma)):PDt X (.UnaryOp .Not a pos) (eS C (.not ma)):=by refine(vF d).imp λf Q c=>?_;obtain⟨y,h,q⟩:=c;obtain⟨b,e,h⟩:=bnd h;cases h;exact⟨b,e,q⟩
theorem Dh(f:PDt X c (eS C mc))(i:PDe X a (ak C ma))(d:PDe X b (ak C mb)):PDe X (.IfExp c a b pos) (ak C (.ife mc ma mb)):=by
 refine(CA f i d).imp λl Q g=>?_;obtain⟨y,h,q⟩:=g;obtain⟨e,j,h⟩:=bnd h;refine⟨e,j,?_⟩;split at h
 ·rename_i k;rw[if_pos k];exact⟨y,h,q⟩
 ·rename_i k;rw[if_neg k];exact⟨y,h,q⟩
theorem v7(h:Dt X.K H v d)(e:sy d=some k):y4 X.K v H k:=by
 cases h with
 |non=>cases e;rfl
 |bl b=>cases e;rfl
 |int i=>cases e;rfl
 |str x=>simp[sy]at e
 |lst s t=>cases e;exact .inl ⟨_,s,by rw[DtAll.emp t]⟩
 |tup s t=>cases e;exact .inr (.inl ⟨_,s,by rw[DtAll.emp t]⟩)
theorem Di(s:aZ C m=(vt (ev C m)).2)(p:plainT e=true):PDe X e (ak C m)->PDt X e (eS C m)
 |⟨te,c,s1⟩=>⟨_,qA c (plainT_ok p),λb F σ H ρ τ θ w Q f R ⟨y,h,q⟩ k=>by
  have h':((ev C m ρ).bind λx=>(ag x.2 x.1).bind λd=>(sy d).bind λk=>some (k,x.2))=some y:=by rw[<-h,s];rfl
  obtain⟨z,d,t,o,j,l,h'⟩:=bn3 h';cases h';refine s1 b F σ H ρ τ θ (λr a=>r=z.1/\a=z.2) _ f R ⟨z,o,rfl,rfl⟩ λv A r a g u=>?_;obtain⟨c,n⟩:=u;subst c n;have i:=g.dt j;rw[f]at i;exact⟨t,v7 i l,k _ _ _ g.drop q⟩⟩
theorem eT:PDa X [] (fK C .nil):=pda_nil.imp λa Q ⟨y,h,q⟩=>by cases h;exact q
theorem bP(g:isStar e=false)(b:PDe X e (ak C ma))(c:PDa X es (fK C mes)):PDa X (e::es) (fK C (.cons ma mes)):=by refine(rD (aw g) b c).imp λk Q f=>?_;obtain⟨y,h,q⟩:=f;obtain⟨d,i,j,a,h⟩:=bn2 h;cases h;exact⟨d,j,i,a,q⟩
theorem Dj{b}(e:PDa X es (fK C mes)):PDe X (.Tuple es b pos) (ak C (.tup mes)):=by refine(zI CD e).imp λg Q d=>?_;obtain⟨y,h,q⟩:=d;obtain⟨c,z,_,f,a,k,h⟩:=bn3 h;cases h;exact⟨c,f,z.1,z.2,a,gd_ok k,q⟩
theorem Dl(d:PDa X es (fK C mes)):PDe X (.List es pos) (ak C (.lst mes)):=by refine(zJ CD d).imp λf Q c=>?_;obtain⟨y,h,q⟩:=c;obtain⟨b,z,_,e,a,k,h⟩:=bn3 h;cases h;exact⟨b,e,z.1,z.2,a,gd_ok k,q⟩
def be:Expr->Bool
 |.Slice _ _ _ _=>true
 |_=>false
theorem jd(h:be b=false):PlainIx b:=λo i=>by cases b<;>first|rfl|cases h
theorem Gh(l:be b=false)(m:PDe X a (ak C ma))(g:PDe X b (ak C mb)):PDe X (.Subscript a b pos) (ak C (.ix ma mb)):=by refine(CF (jd l) m g).imp λr Q o=>?_;obtain⟨y,h,q⟩:=o;obtain⟨i,n,d,k,z,j,c,f,e,p,h⟩:=bn5 h;cases h;exact⟨i,j,n,c,k,z.1,z.2,by rw[f,aL e],p,q⟩
theorem v8:PDo X none (lF C .none):=pdo_none.imp λa Q ⟨y,h,q⟩=>by cases h;exact q
theorem v9(g:PDe X e (ak C ma)):PDo X (some e) (lF C (.some ma)):=by refine(rM g).imp λj Q f=>?_;obtain⟨y,h,q⟩:=f;obtain⟨c,d,k,i,a,b,h⟩:=bn3 h;cases h;exact⟨c,i,k,by rw[a,aL b],q⟩
theorem Dm{lo hi:Option Expr}(g:PDe X e (ak C ma))(c:PDo X lo (lF C ml))(j:PDo X hi (lF C mh)):PDe X (.Subscript e (.Slice lo hi none p2) pos) (ak C (.slt ma ml mh)):=by refine(zM g c j).imp λo Q m=>?_;obtain⟨y,h,q⟩:=m;obtain⟨d,l,u,i,_,f,a,b,n,k,h⟩:=bn5 h;cases h;exact⟨d,f,l,a,u,b,i,n,gd_ok k,q⟩
theorem Dn(e:PDe X a (ak C ma))(f:PDe X b (ak C mb)):PDe X (.BinOp a .Add b pos) (ak C (.cat ma mb)):=by refine(zL e f).imp λp Q i=>?_;obtain⟨y,h,q⟩:=i;obtain⟨g,l,m,o,_,n,c,d,j,k,h⟩:=bn5 h;cases h;exact⟨g,n,l,c,m,o,d,j,gd_ok k,q⟩
theorem Ab(e:PDe X a (ak C ma))(f:PDe X b (ak C mb)):PDe X (.BinOp a .Add b pos) (ak C (.catT ma mb)):=by refine(vH e f).imp λp Q i=>?_;obtain⟨y,h,q⟩:=i;obtain⟨g,l,m,o,_,n,c,d,j,k,h⟩:=bn5 h;cases h;have k:=gd_ok k;exact⟨g,n,l,c,m,o,d,j,k.1,k.2.1,k.2.2,q⟩
theorem Ac(G:FnD X.prog X.w X.K X.mg X.base k fa fd ps (λxs Q=>∃w,C.call f xs=some w/\Q w.1 w.2)) (r:Room k X.A) (i:Gl X x) (m:X.mg x=some (.ref fa)) (hk:PySem.W.keepIn X.K (.ref fa)=true) (c:Binds X.K fd ps []) (a:(x==("__debug__":Str))=false)
  (n:isStar e=false) (b:es.any isStar=false) (o:PDa X (e::es) (fK C mes)):PDe X (.Call (.Name x p) (e::es) [] pos) (ak C (.call f mes)):=by
 refine(vS (ios:=C.io f) G r i m hk c a (aw n) (bG b) o).imp λt Q s=>?_;obtain⟨y,h,q⟩:=s;obtain⟨j,z,w,l,d,g,h⟩:=bn3 h;cases h;exact⟨j,l,z.1,z.2,d,w,g,q⟩
theorem wa(G:FnD X.prog X.w X.K X.mg X.base k fa fd ps (λxs Q=>∃w,C.call f xs=some w/\Q w.1 w.2)) (u:Room k X.A) (l:Gl X x) (o:X.mg x=some (.ref fa)) (hk:PySem.W.keepIn X.K (.ref fa)=true) (c:Binds X.K fd ps []) (a:(x==("__debug__":Str))=false)
  (r:isStar e=false) (b:es.any isStar=false) (s:PDa X (e::es) (fK C mes)):PDe X (.Call (.Name x p) (e::es) [] pos) (ak C (.callS f mes)):=by
 refine(sd G u l o hk c a (aw r) (bG b) s).imp λB Q v=>?_;obtain⟨y,h,q⟩:=v;obtain⟨m,t,w,d,_,n,g,i,z,j,h⟩:=bn5 h;cases h;exact⟨m,n,t,g,w,i,d,eR z,gd_ok j,q⟩
theorem Ad:PDe X (.Dict [] [] pos) (ak C .dnew):=⟨_,q0,λb F f H g i d e Q c R ⟨y,h,q⟩ k=>λp a=>by cases h;exact k _ _ _ _ (R.push (R.wd.u3 a)) q⟩
end
end
section
section
variable{K:Waa}
end
def G7(T:String):PyData->Bool
 |.bool _=>T == "bool" || T == "int"
 |.int _=>T == "int"
 |.str _=>T == "str"
 |.list _=>T == "list"
 |.tuple _=>T == "tuple"
 |_=>false
inductive KindT:String->Prop
 |int:KindT "int" |bool:KindT "bool" |str:KindT "str" |list:KindT "list" |tuple:KindT "tuple"
theorem Dt.kind{K:Waa}(h:Dt K H v d)(k:KindT T):∃n,Ty K H v n/\PySem.W.kitOne K (.type n) (.type T)=some (G7 T d):=by
 cases h with
 |non=>exact⟨_,.non,by cases k<;>first|exact kit_ni K|exact kit_nb K|exact kit_ns K|exact kit_nl K|exact kit_nt K⟩
 |bl b=>exact⟨_,.bl b,by cases k<;>first|exact kit_bi K|exact kit_same K _|exact kit_bs K|exact kit_bl K|exact kit_bt K⟩
 |int i=>exact⟨_,.int i,by cases k<;>first|exact kit_same K _|exact kit_ib K|exact kit_is K|exact kit_il K|exact kit_it K⟩
 |str x=>exact⟨_,.str x,by cases k<;>first|exact kit_same K _|exact kit_si K|exact kit_sb K|exact kit_sl K|exact kit_st K⟩
 |lst s t=>exact⟨_,.lst s,by cases k<;>first|exact kit_same K _|exact kit_li K|exact kit_lb K|exact kit_ls K|exact kit_lt K⟩
 |tup s t=>exact⟨_,.tup s,by cases k<;>first|exact kit_same K _|exact kit_ti K|exact kit_tb K|exact kit_ts K|exact kit_tl K⟩
def HS(f:Bl):DRn:=λa Q=>∃d,z6 f a=some d/\Q d
theorem SndCB.imp{K:Waa}(h:SndCB K r2 r)(f:∀ds Q,r' ds Q->r ds Q):SndCB K r2 r':=λH a ds b Q c z q=>h H a ds b Q c (f _ _ z) q
def Ae:Bl->Str
 |.len=>"len" |.abs=>"abs" |.max=>"max" |.min=>"min" |.int=>"int" |.all=>"all"
theorem Do{f:Bl}(t:X.calm=true)(l:Gl X (Ae f))(m:X.mg (Ae f)=none)(o:isStar e=false)(b:es.any isStar=false)(r:PDa X (e::es) (fK C mes)):PDe X (.Call (.Name (Ae f) p) (e::es) [] pos) (ak C (.blt f mes)):=by
 have u:PDe X (.Call (.Name (Ae f) p) (e::es) [] pos) (EZ (HS f) (fK C mes))->PDe X (.Call (.Name (Ae f) p) (e::es) [] pos) (ak C (.blt f mes)):=λh=>h.imp λB Q ⟨y,h,q⟩=>by obtain⟨x,k,d,a,s,v,h⟩:=bn3 h;cases h;exact⟨x,a,k,s,d,v,q⟩
 refine u ?_;cases f with
 |len=>refine cI qC (sc_len.imp λk Q g=>?_) l m qW (by decide) (by decide) (aw o) (bG b) r;obtain⟨d,h,q⟩:=g;obtain⟨z,n,c,a,h⟩:=bn2 h;cases h;exact⟨z,n,one1_ok c,a,q⟩
 |abs=>refine cI qB (sc_abs.imp λk Q g=>?_) l m zl (by decide) (by decide) (aw o) (bG b) r;obtain⟨d,h,q⟩:=g;obtain⟨z,i,c,a,h⟩:=bn2 h;cases h;exact⟨i,by rw[one1_ok c,aL a],q⟩
 |max=>refine cI (oP t) (sc_max.imp λk Q g=>?_) l m zm (by decide) (by decide) (aw o) (bG b) r;obtain⟨d,h,q⟩:=g;obtain⟨z,i,j,c,a,s,h⟩:=bn3 h;cases h;exact⟨i,j,by rw[two2_ok c,aL a,aL s],q⟩
 |min=>refine cI (oQ t) (sc_min.imp λk Q g=>?_) l m zo (by decide) (by decide) (aw o) (bG b) r;obtain⟨d,h,q⟩:=g;obtain⟨z,i,j,c,a,s,h⟩:=bn3 h;cases h;exact⟨i,j,by rw[two2_ok c,aL a,aL s],q⟩
 |int=>refine rK oR (sc_int.imp λk Q g=>?_) l m k7 (by decide) (by decide) (aw o) (bG b) r;obtain⟨d,h,q⟩:=g;obtain⟨z,n,c,a,h⟩:=bn2 h;cases h;exact⟨z,n,one1_ok c,a,q⟩
 |all=>refine cI (qU t) (sc_all.imp λk Q g=>?_) l m zp (by decide) (by decide) (aw o) (bG b) r;obtain⟨d,h,q⟩:=g;obtain⟨w,z,n,c,A,a,h⟩:=bn3 h;cases h;exact⟨z,n,by rw[one1_ok c,lC A],a,q⟩
theorem Af(f:Gl X "list") (k:X.mg "list"=none) (b:isStar e=false) (i:PDe X e (ak C ma)):PDe X (.Call (.Name "list" p) [e] [] pos) (ak C (.bnw .list ma)):=by refine(pF f k iW (by decide) (by decide) (aw b) rfl (bP b i eT)).imp λl Q g=>?_;obtain⟨y,h,q⟩:=g;obtain⟨a,d,j,c,h⟩:=bn2 h;cases h;exact⟨([a.1],a.2),by simp only[evs,j];rfl,a.1,d,rfl,c,q⟩
theorem wb(f:Gl X "tuple") (k:X.mg "tuple"=none) (b:isStar e=false) (i:PDe X e (ak C ma)):PDe X (.Call (.Name "tuple" p) [e] [] pos) (ak C (.bnw .tuple ma)):=by refine(rL f k gb (by decide) (by decide) (aw b) rfl (bP b i eT)).imp λl Q g=>?_;obtain⟨y,h,q⟩:=g;obtain⟨a,d,j,c,h⟩:=bn2 h;cases h;exact⟨([a.1],a.2),by simp only[evs,j];rfl,a.1,d,rfl,c,q⟩
theorem gz(e:match k with|.int=>T="int" |.bool=>T="bool" |.str=>T="str" |.list=>T="list" |.tuple=>T="tuple" |.seq=>False) (P:PE X b (tC (.ty T))) (D:Gl X "isinstance") (J:X.mg "isinstance"=none) (u:isStar a=false) (l:isStar b=false)
  (i:PDe X a (ak C ma)):PDe X (.Call (.Name "isinstance" p) [a,b] [] pos) (ak C (.isi k ma)):=by
 obtain⟨te,h,s⟩:=i;refine⟨_,dJ (qV T) D J cW (aO h (aO P bw (aw l)) (aw u)) (by decide) (by decide) (aw u) (bG (by simp[l])),λb F U H N O M Z Q m R ⟨y,h,q⟩ B=>?_⟩;obtain⟨g,d,I,A,h⟩:=bn2 h;cases h;refine s b F U H N O M (λr f=>r=g.1/\f=g.2) _ m R ⟨g,I,rfl,rfl⟩ λv j r f o Y=>?_;obtain⟨i,G⟩:=Y;subst i G;have t:=o.dt A;rw[m]at t;have c:∀(w:KindT T),G7 T d=uM k d->∃x n b,[v,V.ty T]=[x,V.ty T]/\Ty X.K j x n/\PySem.W.kitOne X.K (.type n) (.type T)=some b/\Q (.bl b) j:=λw S=>by obtain⟨n,L,z⟩:=t.kind w;rw[S]at z;exact⟨v,n,_,rfl,L,z,B _ j _ _ (o.drop.sc (.bl _)) q⟩
 cases k with
 |int=>subst e;exact c .int (by cases d<;>rfl)
 |bool=>subst e;exact c .bool (by cases d<;>rfl)
 |str=>subst e;exact c .str (by cases d<;>rfl)
 |list=>subst e;exact c .list (by cases d<;>rfl)
 |tuple=>subst e;exact c .tuple (by cases d<;>rfl)
 |seq=>exact e.elim
theorem Dt.x5{K:Waa}(h:Dt K H v d):∃n,Ty K H v n/\PySem.W.kitAny K (.type n) [.type "list",.type "tuple"]=some (uM .seq d):=by
 cases h with
 |non=>exact⟨_,.non,cR K (kit_nl K) (kit_nt K)⟩
 |bl b=>exact⟨_,.bl b,cR K (kit_bl K) (kit_bt K)⟩
 |int i=>exact⟨_,.int i,cR K (kit_il K) (kit_it K)⟩
 |str x=>exact⟨_,.str x,cR K (kit_sl K) (kit_st K)⟩
 |lst s t=>exact⟨_,.lst s,f9 K (.inl (kit_same K _))⟩
 |tup s t=>exact⟨_,.tup s,f9 K (.inr ⟨kit_tl K,kit_same K _⟩)⟩
theorem Ag{N} (S:PE X b (tC (.ty "list"))) (T:PE X c (tC (.ty "tuple"))) (G:Gl X "isinstance") (M:X.mg "isinstance"=none) (w:isStar a=false) (A:isStar b=false) (J:isStar c=false)
  (j:PDe X a (ak C ma)):PDe X (.Call (.Name "isinstance" p) [a,.Tuple [b,c] N p1] [] pos) (ak C (.isi .seq ma)):=by
 obtain⟨te,h,s⟩:=j;refine⟨_,dJ (pd "list" "tuple") G M cW (aO h (aO (qD (aO S (aO T bw (aw J)) (aw A))) bw (aw rfl)) (aw w)) (by decide) (by decide) (aw w) (bG rfl),λb F z H O x m Z Q l R ⟨y,h,q⟩ D=>?_⟩;obtain⟨e,d,L,B,h⟩:=bn2 h;cases h;refine s b F z H O x m (λr f=>r=e.1/\f=e.2) _ l R ⟨e,L,rfl,rfl⟩ λv P r f g Y=>?_;obtain⟨j,I⟩:=Y;subst j I;refine⟨by show 2<=sizeLine;decide,λu U=>?_⟩;have t:Rel b F z (upd P u (.tup [.ty "list",.ty "tuple"])) e.2 (v::x) (e.1::m):=⟨g.wf,g.al,g.wff,g.wd.new U⟩
 have o:=t.dt B;rw[l]at o;obtain⟨n,k,W⟩:=o.x5;have i:=D (.bl (uM .seq d)) _ (.val (.fz (.bool (uM .seq d)))) _ (t.drop.sc (.bl _)) q;exact⟨v,_,_,u,rfl,aq,k,W,i⟩
end
section
def dA(t:Tg):DG:=λx b Q=>∃a,aY t x b=some a/\Q a
structure Sto (X:Cx)(W:Nat->Prop)(m:Nat)(i:Nat)(x:Str):Prop where
 hN:X.N[i]?=some x
 loc:Loc X.env.scope x
 fn:X.fn x=true\/X.env.scope.names.lookup x=some .local
 lt:i<m
 nw:¬ W i
theorem PDg.imp:PDg X W m e d->(∀x ρ Q,d' x ρ Q->d x ρ Q)->PDg X W m e d'
 |⟨te,h,s⟩,f=>⟨te,h,λb F σ H ρ τ θ v x c Q a n R g q=>s b F σ H ρ τ θ v x c Q a n R (f _ _ _ g) q⟩
theorem PDgs.imp:PDgs X W m es d->(∀x ρ Q,d' x ρ Q->d x ρ Q)->PDgs X W m es d'
 |⟨te,h,s⟩,f=>⟨te,h,λb F σ H ρ τ θ v x e Q c n a R g q=>s b F σ H ρ τ θ v x e Q c n a R (f _ _ _ g) q⟩
theorem PDg.or:PDg X W m e d->PDg X W m e d'->PDg X W m e (λx ρ Q=>d x ρ Q\/d' x ρ Q)
 |⟨te,h,s⟩,⟨te',h',s'⟩=>⟨λv σ H Q=>te v σ H Q\/te' v σ H Q,λa s σ H v u Q I r z=>z.elim (h a s σ H v u Q I r) (h' a s σ H v u Q I r),λb F σ H ρ τ θ v x g Q f n R c q=>c.imp (λc=>s b F σ H ρ τ θ v x g Q f n R c q) λc=>s' b F σ H ρ τ θ v x g Q f n R c q⟩
theorem Gi(b:X.N.Nodup)(s:Sto X W m i x):PDg X W m (.Name x pos) (dA (.nm i)):=by refine(jY s.nw b s.hN s.loc s.lt s.fn).imp λy e Q c=>?_;obtain⟨a,h,q⟩:=c;obtain⟨_,d,h⟩:=bnd h;cases h;exact⟨gd_ok d,q⟩
inductive Stos (X:Cx)(W:Nat->Prop)(m:Nat):List Nat->List Expr->Prop
 |nil:Stos X W m [] []
 |cons {i is x pos es}:Sto X W m i x->Stos X W m is es->Stos X W m (i::is) (.Name x pos::es)
theorem je(d:X.N.Nodup):∀{b:List Nat}{es:List Expr},Stos X W m b es->PDgs X W m es (λxs ρ Q=>xs.length=b.length/\(∀i∈b,i<ρ.length)/\Q (bS b xs ρ))
 |[],_,.nil=>pdgs_nil.imp λxs ρ Q ⟨a,c,q⟩=>by
   cases xs with
   |nil=>exact⟨rfl,q⟩
   |cons _ _=>simp at a
 |i::is,_,.cons s t=>(eN rfl (jY s.nw d s.hN s.loc s.lt s.fn) (je d t)).imp λxs ρ Q ⟨a,c,q⟩=>by
   cases xs with
   |nil=>simp at a
   |cons z zs=>exact⟨z,zs,rfl,c i aah,by simpa using a,λj e=>by rw[abk];exact c j (aaf _ e),q⟩
theorem dW(h:Stos X W m ts es):(assignEach es X.env).length=ts.length/\(assignEach es X.env).findIdx? (·.1)=none:=by
 induction h with
 |nil=>exact⟨rfl,rfl⟩
 |@cons i is x pos es s t ih=>have e:assignEach (.Name x pos::es) X.env=(false,assign (.Name x pos) X.env)::assignEach es X.env:=rfl;rw[e];refine⟨by simp[ih.1],?_⟩;rw[abO];simp[ih.2]
theorem j8(h:unpA y=some xs):unpT y=some xs\/unpL y=some xs:=by
 unfold unpA at h;cases a:unpT y with
 |some b=>rw[a]at h;exact .inl h
 |none=>rw[a]at h;exact .inr h
theorem Gj(d:X.calm=true)(e:X.N.Nodup)(h:Stos X W m ts es):PDg X W m (.Tuple es k pos) (dA (.tp ts)):=by
 refine((mW d (dW h).1 (dW h).2 (je e h)).or (mX d (dW h).1 (dW h).2 (je e h))).imp λy i Q g=>?_;obtain⟨f,h,q⟩:=g;obtain⟨c,_,b,a,h⟩:=bn2 h;cases h;have a:=gd_ok a;rcases j8 b with b|b
 ·exact .inl ⟨c,b,a.1,a.1,a.2,q⟩
 ·exact .inr ⟨c,b,a.1,a.1,a.2,q⟩
theorem PI.or(h:PI X tg e t)(h':PI X tg e t'):PI X tg e (λσ H R=>t σ H R\/t' σ H R):=λa s σ H R I z=>z.elim (h a s σ H R I) (h' a s σ H R I)
theorem PDi.or:PDi X tg e d->PDi X tg e d'->PDi X tg e (λρ Q=>d ρ Q\/d' ρ Q)
 |⟨te,h,s⟩,⟨te',h',s'⟩=>⟨_,PI.or h h',λb F σ H ρ τ θ f Q c R a q=>a.imp (λa=>s b F σ H ρ τ θ f Q c R a q) λa=>s' b F σ H ρ τ θ f Q c R a q⟩
theorem Dp(a:ev C ma ρ=some xa):evs C (.cons ma .nil) ρ=some ([xa.1],xa.2):=by show ((ev C ma ρ).bind _)=_;rw[a];rfl
theorem Dq(b:ev C ma ρ=some xa)(a:ev C mb xa.2=some xb):evs C (.cons ma (.cons mb .nil)) ρ=some ([xa.1,xb.1],xb.2):=by show ((ev C ma ρ).bind _)=_;rw[b];show ((evs C (.cons mb .nil) xa.2).bind _)=_;rw[Dp a];rfl
theorem Dr(e:ag ρ r=some d):cE ρ [r]=some [d]:=by show ((ag ρ r).bind _)=_;rw[e];rfl
theorem xR(e:frz1 ρ r=some z)(h:z.1=d):frzL ρ [r]=some ([d],z.2):=by show ((frz1 ρ r).bind _)=_;rw[e,<-h];rfl
theorem xS(e:frz1 ρ r=some z)(a:frz1 z.2 r'=some w):frzL ρ [r,r']=some ([z.1,w.1],w.2):=by show ((frz1 ρ r).bind _)=_;rw[e];show ((frzL z.2 [r']).map _)=_;rw[xR a rfl];rfl
theorem sE(h:pU d=some ds):∃l:Bool,BA d=some (l,ds):=(lD h).elim (λh=>⟨true,h▸rfl⟩) λh=>⟨false,h▸rfl⟩
theorem Ds(f:PDe X e (ak C ma)):PDi X tg e (dr C (.seq ma)):=by
 refine((rW f).or (vN f)).imp λl Q j=>?_;obtain⟨y,h,q⟩:=j;obtain⟨c,z,k,g,b,a,h⟩:=bn3 h;obtain⟨d,i⟩:=z;cases h;rcases lD a with a|a<;>simp only at a<;>subst a
 ·exact .inl ⟨c,g,_,_,b,q⟩
 ·exact .inr ⟨c,g,_,_,b,q⟩
theorem Du(i:Gl X "range") (n:X.mg "range"=none) (f:isStar a=false) (l:PDe X a (ak C ma)):PDi X tg (.Call (.Name "range" p) [a] [] pos) (dr C (.rg1 ma)):=by refine(lp i n (aw f) (bP f l eT)).imp λo Q k=>?_;obtain⟨y,h,q⟩:=k;obtain⟨e,d,j,_,m,c,g,b,h⟩:=bn4 h;cases h;have b:=gd_ok b;rw[aL g]at c;exact⟨([e.1],e.2),Dp m,j,Dr c,b.1,b.2,q⟩
theorem Dv(B:X.A.units+64<cLine) (g:X.A.guards=some []) (o:Gl X "str") (w:X.mg "str"=none) (l:isStar a=false) (f:PDe X a (ak C ma)):PDe X (.Call (.Name "str" p) [a] [] pos) (ak C (.sht ma)):=by obtain⟨N,h,s⟩:=f;refine⟨_,bW (pR g B) o w qX (aO h bw (aw l)) (by decide) (by decide) (aw l) rfl,λb F J H D I z M Q i R ⟨y,h,q⟩ m=>?_⟩;obtain⟨e,d,_,u,n,x,h⟩:=bn3 h;cases h;refine s b F J H D I z (λr c=>r=e.1/\c=e.2) _ i R ⟨e,u,rfl,rfl⟩ λv G r c j L=>?_;obtain⟨f,t⟩:=L;subst f t;have k:=j.dt n;rw[i]at k;exact⟨v,d,rfl,k,gd_ok x,m _ G _ _ (j.drop.sc (.str _)) q⟩
theorem Dw{o} (j:Gl X "zip") (m:X.mg "zip"=none) (e:isStar a=false) (c:isStar b=false) (s:PDe X a (ak C ma)) (k:PDe X b (ak C mb)):PDi X (.Tuple es o tpos) (.Call (.Name "zip" p) [a,b] [] pos) (dr C (.zip ma mb)):=by refine(vO j m (by rw[aw e,aw c];rfl) (aw c) (bP e s (bP c k eT))).imp λD Q x=>?_;obtain⟨y,h,q⟩:=x;obtain⟨B,F,z,w,u,l,d,f,i,A,h⟩:=bn5 h;obtain⟨es,g,h⟩:=bnd h;cases h;obtain⟨v,t⟩:=sE A;obtain⟨n,r⟩:=sE g;exact⟨_,Dq l d,_,_,v,n,u,es,w.2,xS f i,t,r,q⟩
def bH(C:Ct)(b:Tg)(ifs:Eo)(elt:E)(d:PyData)(ρ:DEnv):Option (List PyData×DEnv):=
 (aY b (.fz d) ρ).bind λa=>(Gc C ifs a).bind λk=>if k.1=true then (ev C elt k.2).bind λy=>(frz1 y.2 y.1).bind λq=>some ([q.1],q.2) else some ([],k.2)
def Ah(C:Ct)(ifs:Eo)(elt:E):DC:=λa Q=>∃w,((Gc C ifs a).bind λk=>if k.1=true then (ev C elt k.2).bind λy=>(frz1 y.2 y.1).bind λq=>some (([q.1]:List PyData),q.2) else some ([],k.2))=some w/\Q w.1 w.2
theorem PDc.imp:PDc Y ifs elt d->(∀ρ Q,d' ρ Q->d ρ Q)->PDc Y ifs elt d'
 |⟨te,h,s⟩,f=>⟨te,h,λb F σ H ρ vs rs D out g Q c a e R i q=>s b F σ H ρ vs rs D out g Q c a e R (f _ _ i) q⟩
theorem wc(c:PDe Y elt (ak C me)):PDc Y [] elt (Ah C .none me):=(pL c).imp λb Q ⟨w,h,q⟩=>by have h:((ev C me b).bind λy=>(frz1 y.2 y.1).bind λq=>some (([q.1]:List PyData),q.2))=some w:=h;obtain⟨y,z,d,a,h⟩:=bn2 h;cases h;exact⟨y,d,z.1,z.2,a,q⟩
theorem Ai(e:PDt Y c (eS C mc))(f:PDe Y elt (ak C me)):PDc Y [c] elt (Ah C (.some mc) me):=(r6 e f).imp λi Q ⟨w,h,q⟩=>by
 obtain⟨k,d,h⟩:=bnd h;refine⟨k,d,?_⟩;by_cases a:k.1=true
 ·rw[if_pos a]at h ⊢;obtain⟨y,z,g,b,h⟩:=bn2 h;cases h;exact⟨y,g,z.1,z.2,b,q⟩
 ·rw[if_neg a]at h ⊢;cases h;exact q
theorem sF(step:PyData->DEnv->Option (List PyData×DEnv))(ds:List PyData)(w:List PyData×DEnv)(k:Nat)(a:ds[k]?=some d)(h:bO step (ds.drop k) out ρ=some w):∃z,step d ρ=some z/\bO step (ds.drop (k+1)) (out++z.1) z.2=some w:=by
 have b:=(aao.mp a).1;have e:ds.drop k=d::ds.drop (k+1):=by rw[abP b,(aao.mp a).2]
 rw[e]at h;exact bnd h
theorem m7(C:Ct){c:Tg}:∀ρ Q,ak C (.comp nt fr mi c mif me) ρ Q->mZ (dr C mi) nt fr (dA c) (Ah C mif me) ρ Q:=λρ Q ⟨y,h,q⟩=>by
 obtain⟨x,_,z,w,l,n,i,j,h⟩:=bn4 h;cases h;refine⟨x,l,gd_ok n,z.1,z.2,i,λk a ρ=>bO (bH C c mif me) (x.1.drop k) a ρ=some w,j,λk d a ρ m b=>?_,λa ρ b=>?_⟩
 ·obtain⟨u,e,f⟩:=sF _ _ _ k m b;obtain⟨g,o,e⟩:=bnd e;exact⟨g,o,u,e,f⟩
 ·have b:bO (bH C c mif me) (x.1.drop x.1.length) a ρ=some w:=b;rw[abr]at b;cases b;exact q
theorem Aj{a:Tg}(d:X.calm=true)(S:CompScope N nt fr X.N scope X.env.scope)(e:∀x,foldedSetIterable iter X.env x=pure x)(hi:PDi X tg iter (dr C mi))(b:∀c:CC,PDg (bJ X N scope c) Ff nt tg (dA a))(f:∀c:CC,PDc (bJ X N scope c) ifs elt (Ah C mif me)):
  PDe X (.ListComp elt [⟨tg,iter,ifs,0⟩] scope pos) (ak C (.comp nt fr mi a mif me)):=(vR d S e hi b f).imp (m7 C)
end
section
def Ak(D:DEnds)(ρ:DEnv):Fl->Prop
 |.nx=>D.nx ρ|.bk=>D.bk ρ|.ct=>D.ct ρ|.rt x=>D.rt x ρ
def g8(C:Ct)(s:S'):DS:=λD a=>∃x,bT C s a=some x/\Ak D x.2 x.1
def lG(C:Ct)(s:Ss):DS:=λD a=>∃x,aQ C s a=some x/\Ak D x.2 x.1
section
variable{zs:List OD}
theorem Rel.open(R:Rel b F σ H ρ (us++τ) (zs.map OR.val++θ))(a:us.length=zs.length)(e:ρ[i]?.join=some x):∃v,σ[i]?=some (some v)/\Wd b H (us.zip zs++((v,x)::(stk τ θ++(flat σ (ρ.set i none)++ff F)))):=by obtain⟨v,c,w⟩:=R.slot (join_some e);refine⟨v,c,w.perm ?_⟩;rw[aD (by simpa using a),cH a,aac];exact aar.symm
theorem Rel.close(R:Rel b F σ H ρ τ θ)(ev:σ[i]?=some (some v))(w:Wd b H' ((v,x)::(stk τ θ++(flat σ (ρ.set i none)++ff F)))):Rel b F σ H' (ρ.set i (some x)) τ θ:=Rel.back R.wf R.al R.wff ev w
theorem Rel.rest(R:Rel b F σ H ρ (us++τ) (zs.map OR.val++θ))(a:us.length=zs.length):Rel b F σ H ρ τ θ:=R.drops (by simpa using a)
end
section
variable{st:Stmt}
theorem PDs.imp:PDs X W st d->(∀D ρ,d' D ρ->d D ρ)->PDs X W st d'
 |⟨te,h,s⟩,f=>⟨te,h,λb F σ H ρ τ θ c D a n R e E=>s b F σ H ρ τ θ c D a n R (f _ _ e) E⟩
theorem PDss.imp:PDss X W sts d->(∀D ρ,d' D ρ->d D ρ)->PDss X W sts d'
 |⟨te,h,s⟩,f=>⟨te,h,λb F σ H ρ τ θ c D a n R e E=>s b F σ H ρ τ θ c D a n R (f _ _ e) E⟩
theorem Am:PDss X W [] (lG C .nil):=pdss_nil.imp λD a ⟨y,h,q⟩=>by cases h;exact q
theorem we(d:PDs X W st (g8 C ms))(c:PDss X W sts (lG C mss)):PDss X W (st::sts) (lG C (.cons ms mss)):=by
 refine(pG d c).imp λD i g=>?_;obtain⟨y,h,q⟩:=g;obtain⟨z,b,h⟩:=bnd h;obtain⟨f,e⟩:=z;refine⟨λa=>f=.nx/\a=e,λa ⟨d,c⟩=>?_,?_⟩
 ·subst d c;exact⟨y,h,q⟩
 ·cases f
  ·exact⟨_,b,rfl,rfl⟩
  ·cases h;exact⟨_,b,q⟩
  ·cases h;exact⟨_,b,q⟩
  ·cases h;exact⟨_,b,q⟩
theorem Dy{s:Stmt}:PDs X W s (g8 C .stk):=⟨λ_ _ _=>False,λ_ _ _ _ _ _ h=>h.elim,λb F e H f g c d D a n R ⟨y,h,q⟩ k=>by cases h⟩
theorem An:PDs X W (.Continue pos) (g8 C .cont):=pds_cont.imp λD a ⟨y,h,q⟩=>by cases h;exact q
def jf:Expr->Bool
 |.ListComp _ _ _ _=>true|.SetComp _ _ _ _=>true|.DictComp _ _ _ _ _=>true
 |_=>false
theorem lH(h:jf e=false):swapsWith e t l env=pure false:=by cases e<;>first|rfl|cases h
theorem Dz(d:PDe X e (ak C ma)):PDs X W (.Return (some e) pos) (g8 C (.ret ma)):=by refine(vJ d).imp λD f c=>?_;obtain⟨y,h,q⟩:=c;obtain⟨z,w,b,a,h⟩:=bn2 h;cases h;exact⟨z,b,w.1,w.2,a,q⟩
theorem Gk(d:PDt X c (eS C mc))(f:PDss X W s1 (lG C ma'))(b:PDss X W s2 (lG C mb')):PDs X W (.If c s1 s2 pos) (g8 C (.iff mc ma' mb')):=by
 refine(zN d f b).imp λD i e=>?_;obtain⟨y,h,q⟩:=e;obtain⟨z,g,h⟩:=bnd h;refine⟨z,g,?_⟩;by_cases a:z.1=true
 ·rw[if_pos a]at h ⊢;exact⟨y,h,q⟩
 ·rw[if_neg a]at h ⊢;exact⟨y,h,q⟩
theorem xT(c:X.N.Nodup)(s:Sto X W m i x)(f:swapsWith e (some (.Name x pos')) pos.line X.env=pure false)(g:PDe X e (ak C ma)):PDs X W (.Assign [.Name x pos'] e pos) (g8 C (.set i ma)):=by refine(vK s.nw c s.hN s.loc f s.fn g).imp λD k d=>?_;obtain⟨y,h,q⟩:=d;obtain⟨z,w,_,b,a,j,h⟩:=bn3 h;cases h;exact⟨z,b,w.1,w.2,a,gd_ok j,q⟩
theorem DB(i:swapsWithSole [tg] e pos.line X.env=pure false)(j:swappedStores [tg] e X.env=pure none)(f:isStar tg=false)(k:PDe X e (ak C ma))(d:PDg X W m tg (dA t)):PDs X W (.Assign [tg] e pos) (g8 C (.asg t ma)):=by refine(vM i j (by cases tg<;>first|rfl|cases f) k d).imp λD n g=>?_;obtain⟨y,h,q⟩:=g;obtain⟨z,w,a,l,b,c,h⟩:=bn3 h;cases h;exact⟨z,l,w.1,w.2,b,a,c,q⟩
theorem DD(hp:PassesOwn (model X.prog X.w) X.A X.env X.xe)(hc:X.calm=true)(hs:∀x,foldedSetIterable iter X.env x=pure x)(hi:PDi X tg iter (dr C mi))(hg:PDg X W m tg (dA t))(hb:PDss X W sts (lG C mss)):PDs X W (.For tg iter sts [] pos) (g8 C (.fr t mi mss)):=by
 obtain⟨_,f,s1⟩:=hi;obtain⟨_,g,s2⟩:=hg;obtain⟨_,h3,s3⟩:=hb;refine⟨_,yU hp hc f g h3 hs,λb F Z H Q I G Dd D Y n R ⟨y,h,q⟩ E=>?_⟩;obtain⟨x,e1,h⟩:=bnd h;refine s1 b F Z H Q I G (λds a=>ds=x.1/\a=x.2) _ Y R ⟨x,e1,rfl,rfl⟩ λJ H1 ds p P O S nr R1 it hZ=>?_;obtain⟨f,g⟩:=hZ;subst f g;refine⟨λi mm Z H=>mm=x.1.length-i/\i<=x.1.length/\∃Q,Rel b F Z H Q (P++I) (O++G)/\bF (λd a=>(aY t (.fz d) a).bind λp=>aQ C mss p) (x.1.drop i) Q=some y,⟨_,rfl,aaK _,_,R1,h⟩,?_⟩;rintro i mm u H2 ⟨rfl,hi,B,R2,k⟩;obtain⟨go,N⟩:=it F u H2 B I G R2 i;by_cases r:i<x.1.length
 ·obtain⟨g1,g2⟩:=go r;have ed:x.1[i]?=some x.1[i]:=aaB r;have ee:x.1.drop i=x.1[i]::x.1.drop (i+1):=abP r;rw[ee]at k;obtain⟨w,U,k⟩:=bnd k;obtain⟨L,e3,U⟩:=bnd U;obtain⟨M,j⟩:=w;refine .inr ⟨g1,λc s=>∃a,Rel b F c s a (P++I) (O++G)/\bF (λd a=>(aY t (.fz d) a).bind λp=>aQ C mss p) (x.1.drop (i+1)) a=some y,λc s ⟨a,l,w'⟩=>⟨_,by omega,rfl,r,a,l,w'⟩,λz H3 hy=>?_⟩;have R3:=g2 z H3 x.1[i] hy ed;refine s2 b F u H3 B (P++I) (O++G) z _ (λa=>a=L) _ Y (NoRf.app nr.weak n) R3 ⟨L,e3,rfl⟩ λT H4 a R4 _ h4=>?_;subst h4;refine s3 b F T H4 _ (P++I) (O++G) ⟨λa=>M=.nx/\a=j,λo a=>M=.rt o/\a=j,λa=>M=.bk/\a=j,λa=>M=.ct/\a=j⟩ _ Y (NoRf.app nr.weak n) R4 ⟨_,U,by cases M<;>exact⟨rfl,rfl⟩⟩ ⟨λc s a l ⟨f,g⟩=>?_,λc s a l ⟨f,g⟩=>?_,λc s a l ⟨f,g⟩=>?_,λc s a v o l ⟨f,g⟩=>?_⟩
  ·subst f g;exact⟨_,l,k⟩
  ·subst f g;cases k;exact E.nx c s _ (l.drops S) q
  ·subst f g;exact⟨_,l,k⟩
  ·subst f g;cases k;exact E.rt c s _ v o (Rel.drops (Rel.tw l S) S) q
 ·have e:i=x.1.length:=by omega
  subst e;rw[abr]at k;cases k;exact .inl ⟨N rfl,E.nx u H2 B (R2.drops S) q⟩
end
end
section
section
variable{x:Str}
end
theorem DF(hN:X.N.Nodup)(s:Sto X W m i x)(p:PDe X e (ak C ma)):PDs X W (.AugAssign (.Name x pos') (opOf o) e pos) (g8 C (.aug i o ma)):=by
 have f:∀(c:Operator) (g:Int->Int->Int),BN X c (Fs g)->(∀a d r,v3 o a d=some r->∃k,d=.int k/\r=g a k)->PDs X W (.AugAssign (.Name x pos') c e pos) (g8 C (.aug i o ma)):=λc g ho S=>by
  obtain⟨_,h,s1⟩:=p;refine⟨_,qr hN s.hN s.loc h ho s.fn,λb F O H l L J Dd D G n R ⟨y,h,q⟩ E=>?_⟩;obtain⟨Y,d0,u,j,P,B,h⟩:=bn3 h;rw[eR P,aL B]at j
  ·obtain⟨z,Q,r,I,M,er,h⟩:=bn3 h;cases h;obtain⟨k,rfl,rfl⟩:=S _ _ _ er;obtain⟨v,ev,w⟩:=R.slot (join_some j);have Z:=w.dt rfl;cases Z;have hi:i<l.length:=(aao.mp (join_some j)).1;refine⟨_,ev,s1 b F O H l L J (λr A=>r=z.1/\A=z.2) _ G R ⟨z,I,rfl,rfl⟩ λv H1 r a0 t hZ=>?_⟩;obtain⟨p,T⟩:=hZ;subst p T;have hm:=t.dt M;cases hm;have hl:i<z.2.length:=by rw[<-t.wf.len,R.wf.len];exact hi
   exact⟨u,k,rfl,rfl,E.nx _ H1 _ ((t.drop.sc (.int (g u k))).store n hl s.nw) q⟩
 have nil:∀c,(∀a d,v3 o a d=none)->PDs X W (.AugAssign (.Name x pos') c e pos) (g8 C (.aug i o ma)):=λc U=>by refine⟨_,qm,λb F O H l L J Dd D G n R ⟨y,h,q⟩ E=>?_⟩;obtain⟨Y,d0,u,z,Q,j,P,B,I,M,h⟩:=bn5 h;rw[U]at h;cases h
 cases o with
 |add=>exact f _ _ yR λa d r h=>by cases d<;>cases h;exact⟨_,rfl,rfl⟩
 |sub=>exact f _ _ yS λa d r h=>by cases d<;>cases h;exact⟨_,rfl,rfl⟩
 |_=>exact nil _ λa d=>rfl
end
section
theorem Chn.det(h:Chn b H v x ks u y)(h':Chn b H v x ks u' y'):u=u'/\y=y':=by
 induction ks generalizing v x with
 |nil=>cases h;cases h';exact⟨rfl,rfl⟩
 |cons k ks e=>
  cases h with
  |cons i g=>
   cases h' with
   |cons c d=>obtain⟨f,a⟩:=Chd.det i c;subst f a;exact e g d
theorem Chn.snoc(h:Chn b H v x ks u y)(c:Chd b H u y k w z):Chn b H v x (ks++[k]) w z:=by
 induction ks generalizing v x with
 |nil=>cases h;exact .cons c .nil
 |cons k ks a=>cases h with|cons e d=>exact .cons e (a d)
theorem Chn.u1(h:Chn b H v x (ks++[k]) w z):∃u y,Chn b H v x ks u y/\Chd b H u y k w z:=by
 induction ks generalizing v x with
 |nil=>cases h with|cons c t=>cases t;exact⟨_,_,.nil,c⟩
 |cons k ks e=>
  cases h with
  |cons g f=>obtain⟨u,y,d,a⟩:=e f;exact⟨u,y,.cons g d,a⟩
theorem OD.il:∀{ks:List Nat}{x:OD},x.at ks=some y->y.kids[k]?=some z->x.at (ks++[k])=some z
 |[],x,e,h=>by simp only[OD.at]at e;cases e;simp[OD.at,h]
 |j::ks,x,e,h=>by
  simp only[OD.at,aaG]at e ⊢;cases a:x.kids[j]? with
  |none=>rw[a]at e;cases e
  |some q=>rw[a]at e;exact OD.il e h
theorem setKid_self(h:x.kids[k]?=some z):OD.eg k z x=x:=by cases x<;>simp only[OD.kids]at h<;>first|(simp at h;done)|(simp only[OD.eg];rw[bD h])
theorem OD.l3:∀{ks:List Nat}{x:OD},x.at ks=some y->OD.put y ks x=x
 |[],x,e=>by simp only[OD.at]at e;cases e;rfl
 |j::ks,x,e=>by
  simp only[OD.at,OD.put]at e ⊢;cases a:x.kids[j]? with
  |none=>rfl
  |some q=>rw[a]at e;simp only;rw[OD.l3 e];exact setKid_self a
theorem path_at:∀{ps:List Acc}{ρ:DEnv}{i:Nat}{p:OD×List Nat×OD},bq ρ i ps=some p->ρ[i]?.join=some p.1/\p.1.at p.2.1=some p.2.2
 |[],ρ,i,p,h=>by obtain⟨x,b,h⟩:=bnd h;cases h;exact⟨b,rfl⟩
 |a::ps,ρ,i,p,h=>by obtain⟨q,k,z,b,f,c,h⟩:=bn3 h;cases h;obtain⟨e,d⟩:=path_at b;exact⟨e,OD.il d c⟩
theorem Wd.way(w:Wd b H ((v,x)::L))(e:x.at ks=some y):∃u,Chn b H v x ks u y:=by
 obtain⟨f,c,h,a⟩:=w.out;cases c with
 |cons r t=>obtain⟨u,B,g,d,_⟩:=Ow.path r e;exact⟨u,d⟩
theorem Wd.tr(w:Wd b H ((v,x)::L))(e:x.at ks=some y)(ch:Chn b H v x ks u y)(f:y.kids[k]?=some z):∃q,Chd b H u y k q z:=by obtain⟨q,c⟩:=w.way (OD.il e f);obtain⟨i,j,g,d⟩:=Chn.u1 c;obtain⟨h,a⟩:=Chn.det ch g;subst h a;exact⟨q,d⟩
def Ext(H b:Hp):Prop:=∀a o,H a=some o->b a=some o
theorem Ext.refl(H:Hp):Ext H H:=λ_ _ h=>h
theorem Ext.trans(h:Ext H H1)(h':Ext H1 H'):Ext H H':=λa o e=>h' a o (h a o e)
theorem Ext.upd(e:H p=none):Ext H (upd H p o):=λa q h=>by
 by_cases z:a=p
 ·subst z;rw[e]at h;cases h
 ·rw[upd_ne z];exact h
theorem Chd.ext(E:Ext H H')(h:Chd b H v x k w z):Chd b H' v x k w z:=by
 cases h with
 |lst e a c d=>exact .lst (E _ _ e) a c d
 |tup e a c d=>exact .tup (E _ _ e) a c d
 |dic e a f c d=>exact .dic (E _ _ e) a f c d
 |obj e a f c d=>exact .obj (E _ _ e) a f c d
theorem Chn.ext(E:Ext H H')(h:Chn b H v x ks u y):Chn b H' v x ks u y:=by
 induction ks generalizing v x with
 |nil=>cases h;exact .nil
 |cons k ks a=>cases h with|cons d c=>exact .cons (d.ext E) (a c)
def Gm(K:Waa)(e:TE)(i:Nat)(ps:List Acc):Prop:=∀(b:Bs) (F:List Fr) (a:St) (H:Hp) (c:DEnv) (f:List V) (d:List OR) (Q:VK) (p:OD×List Nat×OD),b.K=K->Rel b F a H c f d->bq c i ps=some p->(∀v u,a[i]?=some (some v)->Chn b H v p.1 p.2.1 u p.2.2->Q u H)->e a H Q
inductive PDp (X:Cx)(e:Expr)(i:Nat)(ps:List Acc):Prop|mk (te:TE) (h:PE X e te) (s:Gm X.K te i ps)
inductive PX (X:Cx)(e:Expr)(f:St->Option V):Prop|mk (te:TE) (h:PE X e te) (s:∀σ H (Q:VK) v,f σ=some v->Q v H->te σ H Q)
section
variable{i j:Nat}
theorem DH:PX X (.Constant (.int k) j pos) (λ_=>some (.int k)):=⟨_,iN,λa H Q v e q=>by cases e;exact q⟩
theorem Gn(d:X.N[i]?=some x) (b:Vis X.env.scope x) (c:(x==("__debug__":Str))=false) (a:(x==("__classdict__":Str))=false):PX X (.Name x pos) (λσ=>σ[i]?.join):=⟨_,cn d b c a,λσ H Q v e q=>⟨v,join_some e,q⟩⟩
theorem Gp(e:X.N[i]?=some x) (d:Vis X.env.scope x) (g:(x==("__debug__":Str))=false) (a:(x==("__classdict__":Str))=false):PDp X (.Name x pos) i []:=
 ⟨_,cn e d g a,λb F o H m n l Q p k R h q=>by
  obtain⟨y,f,h⟩:=bnd h;cases h;obtain⟨v,c⟩:=R.wf.get (join_some f);exact⟨v,c,q v v c .nil⟩⟩
theorem sG{a:Type}{xs:List a}{i:Int}{k:Nat}{y:a}(b:xs.length=n)(h:ixN n i=some k)(e:xs[k]?=some y):atI xs i=some y:=by subst b;unfold atI;rw[h];exact e
theorem DJ(I:PlainIx g)(L:∀{b:Bs}{F:List Fr}{σ:St}{H:Hp}{ρ:DEnv}{τ:List V}{θ:List OR}{x:OD}{k:Nat},Rel b F σ H ρ τ θ->accN ρ x N=some k->∃n,f σ=some (.int n)/\((∃xs,x=.lst xs/\ixN xs.length n=some k)\/∃xs,x=.tup xs/\ixN xs.length n=some k)):PDp X e i ps->PX X g f->PDp X (.Subscript e g pos) i (N::ps)
 |⟨te,h,s⟩,⟨_,m,s2⟩=>⟨_,qF qH h m I,λb F σ H ρ τ θ Q p D R c q=>by
  obtain⟨r,k,z,A,g,C,c⟩:=bn3 c;cases c;refine s b F σ H ρ τ θ _ r D R A λv u o t=>?_;obtain⟨J,m⟩:=path_at A;obtain⟨S,d,w⟩:=R.slot (join_some J);rw[o]at d;cases d;obtain⟨l,B⟩:=w.tr m t C;obtain⟨n,M,G⟩:=L R g;refine s2 σ H _ _ M ?_;obtain⟨O,P,T⟩:=r;simp only at *;rcases G with ⟨xs,rfl,y⟩|⟨xs,rfl,y⟩
  ·cases B with
   |@lst a vs _ _ _ _ f1 f2 f3 f4=>exact .inl ⟨a,vs,n,l,rfl,rfl,SqL.of f1,sG f2 y f3,q v l o (t.snoc (.lst f1 f2 f3 f4))⟩
  ·cases B with
   |@tup a vs _ _ _ _ f1 f2 f3 f4=>exact .inr (.inl ⟨a,vs,n,l,rfl,rfl,SqT.of f1,sG f2 y f3,q v l o (t.snoc (.tup f1 f2 f3 f4))⟩)⟩
theorem Gq(f:PlainIx e2)(h:PDp X e i ps)(d:PX X e2 (λ_=>some (.int k))):PDp X (.Subscript e e2 pos) i (.ix k::ps):=
 DJ f (λ{b F m H o p l x n} R a=>by
  obtain⟨c,g,a⟩:=bnd a;exact⟨k,rfl,(z7 g).imp (λe=>⟨c,e,a⟩) λe=>⟨c,e,a⟩⟩) h d
theorem Rel.keyS{k:Key}(R:Rel b F σ H ρ τ θ)(e:ρ[j]?.join=some (.fz d))(hk:keyOf d=some k):σ[j]?.join=some (kV k):=by obtain⟨v,c,w⟩:=R.slot (join_some e);have a:=w.dt rfl;rw[c];cases d<;>cases hk<;>cases a<;>rfl
theorem m8{k:Key}:∀{ws:List (Key×V)}{n:Nat}{w:V},(ws.map (·.1)).findIdx? (λq=>decide (q=k))=some n->(ws[n]?).map (·.2)=some w->valV ws k=some w
 |[],_,_,e,_=>by simp at e
 | (g,q)::ws,n,w,e,h=>by
  rw[aaj,abO]at e;by_cases a:g=k
  ·subst a;simp at e;subst e;simp at h;subst h;exact bX rfl
  ·simp[a]at e;obtain⟨d,f,b⟩:=e;subst b;have c:(ws.map (·.1)).findIdx? (λq=>decide (q=k))=some d:=by rw[List.findIdx?_map];exact f
   have:=m8 c (by simpa using h);simp only[valV]at this ⊢;rw[aaR];simp only[a,decide_false];exact this
theorem DL(J:X.A.units+1<cLine)(L:NoSl c):PDp X e i ps->PX X c (λσ=>σ[j]?.join)->PDp X (.Subscript e c pos) i (.key j::ps)
 |⟨te,h,s⟩,⟨_,l,s2⟩=>⟨_,vj J h l L,λb F σ H ρ τ θ Q p G R f q=>by
  obtain⟨r,k,z,m,c,D,f⟩:=bn3 f;cases f;refine s b F σ H ρ τ θ _ r G R m λv u o B=>?_;obtain⟨M,l⟩:=path_at m;obtain⟨U,g,w⟩:=R.slot (join_some M);rw[o]at g;cases g;obtain⟨t,I⟩:=w.tr l B D;obtain⟨P,T,W⟩:=r;simp only at *;obtain⟨y,d,S,C,x,N,n,O,c⟩:=bn4 c;rw[eR N]at x;refine s2 σ H _ _ (R.keyS x O) ?_;cases I with
  |@dic a ws _ _ _ _ _ f1 f2 f5 f3 f4=>cases n;refine⟨a,t,rfl,?_,q v t o (B.snoc (.dic f1 f2 f5 f3 f4))⟩;have:=DGet.k (k:=C) f1;rw[m8 (by rw[f2];exact c) f3]at this;exact this
  |_=>cases n⟩
end
section
variable{i:Nat}
theorem Rel.za(R:Rel b F σ H ρ τ θ)(f:ρ[i]?.join=some x)(g:x.at ks=some z)(ev:σ[i]?=some (some v))(ch:Chn b H v x ks u z)(h:z.dat=some d):Rel b F σ H (ρ.set i (some (OD.put (.fz d) ks x))) (u::τ) (.val (.fz d)::θ):=by obtain⟨l,a,w⟩:=R.slot (join_some f);rw[ev]at a;cases a;obtain⟨k,c,e⟩:=w.ro g h;obtain⟨j,_⟩:=Chn.det ch c;subst j;exact Rel.back R.wf R.al R.wff ev (e.perm (List.Perm.swap _ _ _))
theorem Rel.part(R:Rel b F σ H ρ τ θ)(e:bq ρ i ps=some p)(ev:σ[i]?=some (some v))(ch:Chn b H v p.1 p.2.1 u p.2.2)(a:p.2.2.dat=some d):Rel b F σ H (ρ.set i (some (OD.put (.fz d) p.2.1 p.1))) (u::τ) (.val (.fz d)::θ):=R.za (path_at e).1 (path_at e).2 ev ch a
theorem Rel.z3(R:Rel b F σ H ρ τ θ)(e:bq ρ i ps=some p)(ev:σ[i]?=some (some v))(ch:Chn b H v p.1 p.2.1 u p.2.2)(a:p.2.2=.fz d):Rel b F σ H ρ (u::τ) (.val (.fz d)::θ):=by obtain⟨f,c⟩:=path_at e;have:=R.part e ev ch (by rw[a];rfl);rw[<-a,OD.l3 c,set_self (join_some f)]at this;rw[a]at this;exact this
end
end
section
theorem Gr:PDp X e i ps->PDe X e (ak C (.pg i ps))
 |⟨te,h,s⟩=>⟨te,h,λb F σ H ρ τ θ l Q c R ⟨y,h,q⟩ k=>by
  obtain⟨r,a,h⟩:=bnd h;refine s b F σ H ρ τ θ _ r c R a λv u f j=>?_;obtain⟨d,g,h⟩:=bnd h;cases h;exact k u H _ _ (R.z3 a f j (eR g)) q⟩
theorem fP(f:aZ C m=(vt (ev C m)).2)(e:∀ρ x,ev C m ρ=some x->∃k,x.1=.val (.fz (.bool k))):∀ρ Q,eS C m ρ Q->fq (ak C m) ρ Q:=λρ Q ⟨y,h,q⟩=>by
 have a:((ev C m ρ).bind λx=>(ag x.2 x.1).bind λd=>(sy d).bind λk=>some (k,x.2))=some y:=by rw[<-h,f];rfl
 obtain⟨z,c,a⟩:=bnd a;obtain⟨k,b⟩:=e ρ z c;rw[b]at a;cases a;exact⟨z,c,k,by rw[b];rfl,q⟩
theorem SndT.imp{K:Waa}(s:SndT K te d)(f:∀ρ Q,d' ρ Q->d ρ Q):SndT K te d':=λb F h H ρ i c e Q a R g q=>s b F h H ρ i c e Q a R (f _ _ g) q
theorem m9{k:Key}:∀{ws:List (Key×V)},(valV ws k).isSome=(ws.map (·.1)).any λq=>decide (q=k)
 |[]=>rfl
 | (g,q)::ws=>by
  have b:=m9 (k:=k) (ws:=ws);by_cases a:g=k
  ·subst a;rw[bX rfl];simp
  ·simp only[valV]at b ⊢;rw[aaR];simp only[a,decide_false,aaj,aaP,abn];exact b
def Ao(neg:Bool)(b a:TE):TE:=if neg then mP b a else Ce b a
theorem sH(p:X.A.units+1<cLine)(m:behindInMarks (coOf (if neg then .nin else .inn)) e=false):PDe X a (ak C ma)->PDp X e i ps->PDe X (.Compare a [coOf (if neg then .nin else .inn)] [e] pos) (ak C (.din neg ma i ps))/\PDt X (.Compare a [coOf (if neg then .nin else .inn)] [e] pos) (eS C (.din neg ma i ps))
 |⟨ta,d,s1⟩,⟨te,h,s⟩=>by
  have hp:PE X (.Compare a [coOf (if neg then .nin else .inn)] [e] pos) (Ao neg ta te):=by
   cases neg with
   |true=>exact eG (ie p d h) m
   |false=>exact eG (qY p d h) m
  have J:PT X (.Compare a [coOf (if neg then .nin else .inn)] [e] pos) (tB (Ao neg ta te)):=by
   cases neg with
   |true=>exact eI (ie p d h) m
   |false=>exact eI (qY p d h) m
  have S:bp X.K (Ao neg ta te) (ak C (.din neg ma i ps)):=by
   refine λb F j H L N I Qd Q D R ⟨y,h,q⟩ k=>?_;obtain⟨z,Y,r,U,uu,P,W,B,ek,t,h⟩:=bn5 h;have t:=sA t
   ·cases h;have Z:∀v g G c,Rel b F j g c (v::N) (G::I)->(G=z.1/\c=z.2)->te j g λx H2=>∃a o,x=.ref a/\DGet H2 a v o/\Q (.bl (if neg then !o.isSome else o.isSome)) H2:=λv g G c n ⟨d,l⟩=>by
     subst d l;refine s b F j g _ _ _ _ r D n B λv' u ev ch=>?_;obtain⟨d,l⟩:=path_at B;obtain⟨v2,f,w⟩:=n.slot (join_some d);rw[ev]at f;cases f;rw[t]at l ch;obtain⟨ad,ws,M,hH,O,hl,_⟩:=Wd.zb (us:=[]) (zs:=[]) w rfl l;obtain⟨e5,_⟩:=Chn.det ch M;subst e5;have hv:=n.dt W;have T:v=kV U:=by cases Y<;>cases ek<;>cases hv<;>rfl
     subst T;refine⟨ad,_,rfl,DGet.k hH,?_⟩;rw[m9,O];exact k _ g _ _ (n.drop.sc (.bl _)) q
    cases neg with
    |true=>exact s1 b F j H L N I (λr c=>r=z.1/\c=z.2) _ D R ⟨z,P,rfl,rfl⟩ Z
    |false=>exact s1 b F j H L N I (λr c=>r=z.1/\c=z.2) _ D R ⟨z,P,rfl,rfl⟩ Z
  refine⟨⟨_,hp,S⟩,⟨_,J,(lh S).imp (fP rfl λL x h=>?_)⟩⟩;obtain⟨z,Y,r,U,uu,P,W,B,ek,t,h⟩:=bn5 h;cases h;exact⟨_,rfl⟩
def Gs(K:Waa)(i:TE)(f:DEnv->Option PyData):Prop:=∀(b:Bs) (F:List Fr) (a:St) (H:Hp) (c:DEnv) (h:List V) (g:List OR) (Q:VK) (d:PyData),b.K=K->Rel b F a H c h g->f c=some d->(∀v e,Ext H e->Rel b F a e c (v::h) (.val (.fz d)::g)->Q v e)->i a H Q
inductive PDq (X:Cx)(e:Expr)(f:DEnv->Option PyData):Prop|mk (te:TE) (h:PE X e te) (s:Gs X.K te f)
def DM(K:Waa)(k:TA)(f:DEnv->Option (List PyData)):Prop:=∀(b:Bs) (F:List Fr) (e:St) (H:Hp) (g:DEnv) (j:List V) (i:List OR) (Q:List V->Hp->Prop) (a:List PyData),b.K=K->Rel b F e H g j i->f g=some a->(∀c h,Ext H h->c.length=a.length->Rel b F e h g (c++j) (a.map (λd=>OR.val (.fz d))++i)->Q c h)->k e H Q
inductive PDqs (X:Cx)(es:List Expr)(f:DEnv->Option (List PyData)):Prop|mk (te:TA) (h:PA X es te) (s:DM X.K te f)
end
section
theorem wg{x:OD}{ns:List Int}(h:CW x=some ns):x=.st ns:=by cases x<;>first|(cases h;rfl)|cases h
theorem Gu{d:PyData}{x:Str}(h:j6 d=some x):d=.str x:=by cases d<;>first|(cases h;rfl)|cases h
def DN(neg:Bool):R2:=λx y H Q=>∃m a M n,x=.int m/\y=.ref a/\H a=some (.set M n)/\Q (.bl (if neg then !M m else M m)) H
section
variable{X:Cx}{C:Ct}{a e:Expr}{ma:E}{i:Nat}{ps:List Acc}{pos p1 p2:Pos}
theorem sI{neg:Bool}:OpR X (compareOp (coOf (if neg then .nin else .inn))) (DN neg):=by
 intro c s g H x y v u Q I d f h;obtain⟨m,a,M,n,rfl,rfl,e,q⟩:=h;obtain⟨t,rfl⟩:=d;cases f;have b:s.heap.SetOf (intKind X.prog X.w) a M n:=I.hok a _ e;cases neg with
 |true=>exact wpAny_notInSet_of (intKind_is X.prog X.w m t) rfl b ⟨.bl _,H,I.tok _,rfl,q⟩
 |false=>exact wpAny_inSet_of (intKind_is X.prog X.w m t) rfl b ⟨.bl _,H,I.tok _,rfl,q⟩
theorem sJ{neg:Bool}(I:behindInMarks (coOf (if neg then .nin else .inn)) e=false):PDe X a (ak C ma)->PDp X e i ps->PDe X (.Compare a [coOf (if neg then .nin else .inn)] [e] pos) (ak C (.sin neg ma i ps))/\PDt X (.Compare a [coOf (if neg then .nin else .inn)] [e] pos) (eS C (.sin neg ma i ps))
 |⟨ta,c,s1⟩,⟨te,h,s⟩=>by
  have S:bp X.K (yV (DN neg) ta te) (ak C (.sin neg ma i ps)):=by
   refine λb F O H J τ W Qd Q A R ⟨y,h,q⟩ k=>?_;obtain⟨z,Z,r,m,ns,N,G,o,t,l,h⟩:=bn5 h;cases h;have l:=wg l;refine s1 b F O H J τ W (λr f=>r=z.1/\f=z.2) _ A R ⟨z,N,rfl,rfl⟩ λv L r' f j hZ=>?_;obtain⟨c,g⟩:=hZ;subst c g;refine s b F O L _ _ _ _ r A j o λv' u ev P=>?_;obtain⟨c,g⟩:=path_at o;obtain⟨v2,d,w⟩:=j.slot (join_some c);rw[ev]at d;cases d;rw[l]at g P;obtain⟨S,u2,B,D,p,hy,_⟩:=Wd.ri (us:=[]) (zs:=[]) w rfl g;obtain⟨T,_⟩:=Chn.det P p;subst T;cases hy with
   |@st ad _ M n hH hM hl=>have U:=j.dt G;have Y:=aL t;subst Y;cases U;refine⟨m,ad,M,n,rfl,rfl,hH,?_⟩;rw[hM m];exact k _ L _ _ (j.drop.sc (.bl _)) q
  refine⟨⟨_,fM sI c h I,S⟩,⟨_,mI sI c h I,(dP S).imp (fP rfl λJ x h=>?_)⟩⟩;obtain⟨z,Z,r,m,ns,N,G,o,t,l,h⟩:=bn5 h;cases h;exact⟨_,rfl⟩
theorem DP{z:Str}{j:Nat}:PDe X a (ak C ma)->PDe X (.JoinedStr [.FormattedValue a (-1) none p1,.Constant (.str z) j p2] pos) (ak C (.fst ma z))
 |⟨ta,f,s1⟩=>⟨_,vY f,λb F σ H ρ τ θ D Q n R ⟨y,h,q⟩ k=>by
  obtain⟨w,d,x,_,A,s,l,m,h⟩:=bn4 h;cases h;refine s1 b F σ H ρ τ θ (λr c=>r=w.1/\c=w.2) _ n R ⟨w,A,rfl,rfl⟩ λv u G c g B=>?_;obtain⟨f,o⟩:=B;subst f o;have p:=g.dt s;have t:=Gu l;subst t;cases p;exact⟨x,rfl,gd_ok m,k _ u _ _ (g.drop.sc (.str _)) q⟩⟩
end
end
section
theorem Ows.addA(nt:∀c xs,H c=some (.tup xs)->¬ S c)(e:Ows b S H vs xs A)(a:Ows b S H us zs C)(f:(A++C).Nodup):∃D,Ows b S H (vs++us) (xs++zs) D/\D.Nodup/\∀c∈D,c∈A\/c∈C:=⟨A++C,Ows.append e a,f,λc d=>aai.mp d⟩
theorem Ows.one(h:Ows b S H [v] [z] C):Ow b S H v z C:=by
 cases h with
 |cons r t=>cases t;rw[aaq];exact r
theorem Ows.z0(g:j<xs.length)(k:Ows b S H vs xs A)(f:Ows b S H [v] [z] C)(l:(A++C).Nodup):∃D,Ows b S H (vs.set j v) (xs.set j z) D/\D.Nodup/\∀c∈D,c∈A\/c∈C:=by
 obtain⟨q,d,B,e,n,rfl,m,i⟩:=k.zip (aaB g);refine⟨d++(C++e),i f.one λ_ h=>h,?_,λc a=>?_⟩
 ·have p:((d++(B++e))++C).Perm (B++(d++(C++e))):=by refine((bu d B e).append_right C).trans ?_;rw[aac];refine aaY B ?_;rw[aac];exact aaY d aaS
  exact(aaA.mp (p.nodup_iff.mp l)).2.1
 ·simp only[aai]at a ⊢;rcases a with a|a|a
  ·exact .inl (.inl a)
  ·exact .inr a
  ·exact .inl (.inr (.inr a))
theorem wk(e:ws.length=xs.length):(putK ws k v).map (·.1)=(cy k d (ws.map (·.1)) xs).1:=by
 unfold putK cy;rw[List.any_map];have c:((λq=>decide (q=k)) ∘ λx:Key×V=>x.1)=λb=>decide (b.1=k):=rfl;rw[c];by_cases a:(ws.any λb=>decide (b.1=k))=true
 ·rw[if_pos a,if_pos a,aaI];refine abu λq _=>?_;simp only[Function.comp];split<;>rfl
 ·rw[if_neg a,if_neg a,aaC];rfl
theorem j9(f:Fz b.K S H v d):∀{ws:List (Key×V)}{xs:List OD}{A:List Addr},Ows b S H (ws.map (·.2)) xs A->∃D,Ows b S H ((ws.map (λc=>if c.1=k then (c.1,v) else c)).map (·.2)) (List.zipWith (λq x=>if q=k then .fz d else x) (ws.map (·.1)) xs) D/\D.Sublist A
 |[],_,_,.nil=>⟨[],.nil,abv _⟩
 | (g,q)::ws,x::xs,_,.cons (A:=A1) r t=>by
  obtain⟨D,h,e⟩:=j9 f t;simp only[aaj,List.zipWith_cons_cons];by_cases a:g=k
  ·rw[if_pos a,if_pos a];exact⟨[]++D,.cons (.fz f) h,(aaT D).symm▸e.trans (ab7 _ _)⟩
  ·rw[if_neg a,if_neg a];exact⟨A1++D,.cons r h,(abv A1).append e⟩
theorem sL(l:Ows b S H (ws.map (·.2)) xs A)(m:Ows b S H [v] [.fz d] C)(n:(A++C).Nodup):∃D,Ows b S H ((putK ws k v).map (·.2)) (cy k d (ws.map (·.1)) xs).2 D/\D.Nodup/\∀c∈D,c∈A\/c∈C:=by
 have i:Fz b.K S H v d:=by cases m with|cons r t=>cases r with|fz f=>exact f
 have j:=(aaA.mp n).1;unfold putK cy;rw[List.any_map];have o:((λq=>decide (q=k)) ∘ λx:Key×V=>x.1)=λe=>decide (e.1=k):=rfl;rw[o];by_cases a:(ws.any λe=>decide (e.1=k))=true
 ·rw[if_pos a,if_pos a];obtain⟨D,p,h⟩:=j9 i l;exact⟨D,p,h.nodup j,λc g=>.inl (h.subset g)⟩
 ·rw[if_neg a,if_neg a,aaC];exact⟨A++[],Ows.append l (.cons (.fz i) .nil),by simpa using j,λc g=>.inl (by simpa using g)⟩
section
variable{i j:Nat}
theorem sM{o i:Expr}(h:be i=false):∀v,assign (.Subscript o i pos) env v=(do
   let ov <-holding [v] (eval o env)
   let iv <-holding [v,ov] (eval i env)
   standAt pos
   holding [v,ov,iv] (setItem ov iv v)
   release [v,ov,iv] []):=by
 cases i<;>first|(intro _;rfl)|cases h
theorem wm{env:Env}(h:isStar e=false):((backTo cpos (starEach [e] env)).all (λx=>!x.1)&&(backToKw cpos (keywordEach [] env)).all (λx=>x.1.isSome)
   && decide ([e].length+([]:List Keyword).length+(if ([]:List Keyword).isEmpty then 0 else 1)<30))=true:=by
 cases e<;>first|rfl|cases h
theorem Rel.cell{b:Bs}{τ:List V}{x:OD}(R:Rel b F σ H ρ τ θ)(k:ρ[i]?.join=some x)(h:x.at ks=some (.lst xs))(ev:σ[i]?=some (some v))(ch:Chn b H v x ks u (.lst xs)):∃l vs,u=.ref l/\H l=some (.lst vs):=by obtain⟨m,a,f⟩:=R.slot (join_some k);rw[ev]at a;cases a;obtain⟨g,c,e,d,_,_⟩:=Wd.pa (us:=[]) (zs:=[]) f rfl h;exact⟨g,c,(Chn.det ch e).1,d⟩
theorem Rel.x4{b:Bs}{F:List Fr}(R:Rel b F σ H ρ τ θ)(a:ρ[i]?.join=some (.lst xs)):∃v,σ[i]?=some (some v)/\∃l vs,v=.ref l/\H l=some (.lst vs):=by obtain⟨v,c⟩:=R.wf.get (join_some a);exact⟨v,c,R.cell a rfl c .nil⟩
theorem Rel.wj{b:Bs}{x o:OD}{v a:V}(R:Rel b F σ H ρ (a::τ) (.val o::θ))(m:ρ[i]?.join=some x)(h:x.at ks=some (.lst xs))(ev:σ[i]?=some (some v))(ch:Chn b H v x ks (.ref l) (.lst xs))(t:xs.length<1000000):
  ∃vs,H l=some (.lst vs)/\vs.length<sizeLine/\Rel b F σ (upd H l (.lst (vs++[a]))) (ρ.set i (some (OD.put (.lst (xs++[o])) ks x))) τ θ:=by
 obtain⟨u,c,w⟩:=Rel.open (us:=[a]) (zs:=[o]) R rfl m;rw[ev]at c;cases c;obtain⟨s,vs,d,e,r,p⟩:=w.pa rfl h;obtain⟨n,_⟩:=Chn.det ch d;cases n;exact⟨vs,e,aax (by omega) (by decide:1000001<=sizeLine),Rel.close (Rel.rest (us:=[a]) (zs:=[o]) R rfl) ev (p (vs++[a]) (xs++[o]) λS H A C g k f q=>Ows.addA g k f q)⟩
theorem DQ(L:X.N[i]?=some x) (J:Vis X.env.scope x) (P:(x==("__debug__":Str))=false) (f:(x==("__classdict__":Str))=false) (a:(apos.endLine==cpos.line)=true) (d:isStar e=false):
  PDe X e (ak C ma)->PDs X W (.Expr (.Call (.Attribute (.Name x pos') "append" apos) [e] [] cpos) pos) (g8 C (.app i ma))
 |⟨_,h,s⟩=>⟨_,mB (mL ab8 PySem.F.slot_list_append PySem.F.type_list_append ib (cn L J P f) (aO h bw (aw d)) rfl (wm d) a (aw d) (bG rfl)) rfl,λb F σ H ρ τ θ Dd D B n R ⟨y,h,q⟩ E=>by
  obtain⟨x0,Z,z,o,x1,p,A,M,w,t,h⟩:=bn5 h;obtain⟨xs,_,T,hz,h⟩:=bn2 h;cases h;rw[gy A]at p;rw[gy T]at t;obtain⟨v,m,l,k,rfl,c⟩:=R.x4 p;refine⟨.ref l,m,.inl ⟨rfl,k,SqL.of c⟩,?_⟩;refine s b F σ H ρ τ θ (λr g=>r=z.1/\g=z.2) _ B R ⟨z,M,rfl,rfl⟩ λI H1 r Y S hZ=>?_;obtain⟨Q,G⟩:=hZ;subst Q G;obtain⟨U,u,O,R3⟩:=Rel.wj (S.own1 w) t rfl m .nil (gd_ok hz);exact⟨l,U,I,rfl,rfl,u,O,E.nx σ _ _ R3 q⟩⟩
theorem Rel.moved{b:Bs}(R:Rel b F σ H ρ τ θ)(e:ρ[j]?.join=some y):∃v,σ[j]?=some (some v)/\Rel b F σ H (ρ.set j none) (v::τ) (.val y::θ):=by
 obtain⟨v,c⟩:=R.wf.get (join_some e);have f:Rel b F σ H ρ (v::τ) (.rf j::θ):=⟨R.wf,⟨c,R.al⟩,R.wff,R.wd⟩
 obtain⟨_,_,w⟩:=R.slot (join_some e);rename_i d a;rw[c]at a;cases a;exact⟨v,c,⟨R.wf.off,R.al,R.wff,w⟩⟩
theorem DR(Z:X.N[i]?=some x) (Y:Vis X.env.scope x) (hd:(x==("__debug__":Str))=false) (u:(x==("__classdict__":Str))=false) (s:be kx=false) (hs:swapsWith e (some (.Subscript (.Name x pos') kx p2)) pos.line X.env=pure false) (hw:swappedStores [.Subscript (.Name x pos') kx p2] e X.env=pure none):
  PDe X e (ak C ma)->PDe X kx (ak C mk')->PDs X W (.Assign [.Subscript (.Name x pos') kx p2] e pos) (g8 C (.sti i mk' ma))
 |⟨_,c,s1⟩,⟨_,a,s2⟩=>⟨_,qq c (qp (cn Z Y hd u) a set_list (sM s)) hs hw rfl,λb F σ H ρ τ θ Dd D I n R ⟨y,h,q⟩ E=>by
  obtain⟨z,o,e1,T,h⟩:=bn2 h;refine s1 b F σ H ρ τ θ (λr d=>r=z.1/\d=z.2) _ I R ⟨z,e1,rfl,rfl⟩ λm H1 r a1 R1 B=>?_;obtain⟨c,a⟩:=B;subst c a;have J:=R1.own1 T;obtain⟨x0,a2,t,dk,k,e0,f0,U,P,fk,h⟩:=bn5 h;obtain⟨x1,xs,g,O,f1,M,h⟩:=bn3 h;rw[aL fk]at P;rw[gy f1]at O
  ·obtain⟨v,p⟩:=J.wf.get (join_some e0);refine⟨v,p,s2 b F σ H1 _ _ _ (λr d=>r=t.1/\d=t.2) _ I J ⟨t,U,rfl,rfl⟩ λv2 H2 r a0 G B=>?_⟩;obtain⟨c,a⟩:=B;subst c a
   ·cases h;have s:=G.dt P;cases s;obtain⟨v',f,w⟩:=Rel.open (us:=[m]) (zs:=[o.1]) G.drop rfl O;rw[p]at f;cases f;obtain⟨l,L,ch,Q,hl,go⟩:=w.pa (ks:=[]) rfl rfl;cases ch;refine⟨l,L,k,g,rfl,rfl,Q,by rw[hl];exact M,?_⟩;exact E.nx σ _ _ (Rel.close (Rel.rest (us:=[m]) (zs:=[o.1]) G.drop rfl) p (go (L.set g m) (xs.set g o.1) λS H A C nt c a nd=>Ows.z0 (rH M) c a nd)) q⟩
theorem DU(hu:X.A.units+1<cLine) (hN:X.N[i]?=some x) (hv:Vis X.env.scope x) (hd:(x==("__debug__":Str))=false) (s:(x==("__classdict__":Str))=false) (hs:swapsWith e (some (.Subscript (.Name x pos') kx p2)) pos.line X.env=pure false):
  PDe X e (ak C ma)->PDe X kx (ak C mk')->PDs X W (.Assign [.Subscript (.Name x pos') kx p2] e pos) (g8 C (.sdk i mk' ma))
 |⟨_,c,s1⟩,⟨_,a,s2⟩=>⟨_,vk hu (cn hN hv hd s) a c hs,λb F σ H ρ τ θ Dd D L n R ⟨y,h,q⟩ E=>by
  obtain⟨z,o,e1,U,h⟩:=bn2 h;refine s1 b F σ H ρ τ θ (λr d=>r=z.1/\d=z.2) _ L R ⟨z,e1,rfl,rfl⟩ λm H1 r a1 R1 B=>?_;obtain⟨c,a⟩:=B;subst c a;have O:=R1.frz1 U;obtain⟨x0,_,t,kd,J,e0,f0,Y,e4,Z,h⟩:=bn5 h;obtain⟨x1,uu,_,Q,f1,u,h⟩:=bn3 h;have u:=gd_ok u;rw[sA f1]at Q
  ·obtain⟨v,p⟩:=O.wf.get (join_some e0);refine⟨v,p,s2 b F σ H1 _ _ _ (λr d=>r=t.1/\d=t.2) _ L O ⟨t,Y,rfl,rfl⟩ λv2 H2 r a0 I B=>?_⟩;obtain⟨c,a⟩:=B;subst c a
   ··cases h
     have hk:=I.dt e4;have G:v2=kV J:=by cases kd<;>cases Z<;>cases hk<;>rfl
     subst G;obtain⟨v',f,w⟩:=Rel.open (us:=[m]) (zs:=[.fz o.1]) I.drop rfl Q;rw[p]at f;cases f;obtain⟨l,ws,ch,T,g,M,P⟩:=w.zb (ks:=[]) rfl rfl;cases ch;obtain⟨ks,xs⟩:=uu;simp only at g M q P u;subst g;refine⟨l,_,rfl,DPut.k T (aax (by omega) (by decide:1000001<=sizeLine)),?_⟩;exact E.nx σ _ _ (Rel.close (Rel.rest (us:=[m]) (zs:=[.fz o.1]) I.drop rfl) p (P (putK ws J m) _ _ (wk M) λS H A C nt c a nd=>sL c a nd)) q⟩
inductive Dsp:List (Str×Int)->List (Option Expr)->List Expr->Prop
 |nil:Dsp [] [] []
 |cons {x n j k p p' ks es vs}:Dsp ks es vs->Dsp ((x,n)::ks) (some (.Constant (.str x) j p)::es) (.Constant (.int n) k p'::vs)
abbrev HU(ks:List (Str×Int)):List (TE×TE):=ks.map λz=>(tC (.str z.1),tC (.int z.2))
theorem Dsp.pps{es:List (Option Expr)}(h:Dsp ks es vs):Cg X pos es vs (HU ks):=by
 induction h with
 |nil=>exact mQ
 |cons _ a=>exact jT iO iN a
theorem Dsp.all{es:List (Option Expr)}(h:Dsp ks es vs):es.all (·.isSome)=true/\es.length=vs.length/\es.length=ks.length:=by
 induction h with
 |nil=>exact⟨rfl,rfl,rfl⟩
 |cons _ a=>exact⟨by simp[a.1],by simp[a.2.1],by simp[a.2.2]⟩
end
end
section
section
variable{X:Cx}{ff:Nat}
def spC(g:List OD->Option (OD×List OD)):DSp:=λa Q=>∃w,g a=some w/\Q w.1 w.2
theorem sN(g:List OD->Option (OD×List OD)):vq (spC g):=λa P R h ⟨w,e,q⟩=>⟨w,e,h _ _ q⟩
theorem Wd.newObj{p dx:Addr}(w:Wd b H L)(f:H p=none)(g:H dx=none)(i:dx≠p):Wd b (upd (upd H dx (.own p)) p (.ins (aI b.K c) dx [])) ((.ref p,.obj c [] [])::L):=by
 obtain⟨A,h,v,k⟩:=w.out;have m:=w.al h f;have r:=w.al h g;have t:=w.kg h;have y:=w.new g (o:=.own p);have j:upd H dx (.own p) p=none:=by rw[upd_ne (λe=>i e.symm)];exact f
 have l:=y.new j (o:=.ins (aI b.K c) dx []);have x:Kp (λc=>c∈A\/b.S0 c) H (upd (upd H dx (.own p)) p (.ins (aI b.K c) dx [])):=⟨λc o e _=>by
   rw[upd_ne (λz=>by subst z;rw[f]at e;cases e),upd_ne (λz=>by subst z;rw[g]at e;cases e)];exact e,λc e=>by
   by_cases z:c=p
   ·subst z;exact f
   ·rw[upd_ne z]at e;by_cases q:c=dx
    ·subst q;exact g
    ·rw[upd_ne q]at e;exact e⟩
 have n:∀c,(c∈p::dx::A\/b.S0 c)->(c∈A\/b.S0 c)\/H c=none:=λc z=>by
  rcases z with z|z
  ·rcases aab.mp z with rfl|z
   ·exact .inr f
   ·rcases aab.mp z with rfl|z
    ·exact .inr g
    ·exact .inl (.inl z)
  ·exact .inl (.inr z)
 refine⟨⟨p::dx::A,Ows.cons (A:=[p,dx]) (.obj aq (by rw[upd_ne i];exact aq) rfl rfl .nil) (Ows.step x n t (λa d=>?_) h),aay.mpr ⟨λz=>?_,aay.mpr ⟨λz=>r (.inl z),v⟩⟩,λa d=>?_⟩,l.fr,l.s0,l.nt⟩
 ·have u:a≠p:=λe=>m (.inl (e▸d));have s:a≠dx:=λe=>r (.inl (e▸d));rw[upd_ne u,upd_ne s]
 ·rcases aab.mp z with z|z
  ·exact i z.symm
  ·exact m (.inl z)
 ·rcases aab.mp d with rfl|d
  ·exact .inl (w.n7 f)
  ·rcases aab.mp d with rfl|d
   ·exact .inl (w.n7 g)
   ·exact k a d
end
end
section
theorem bf{d:PyData}{x:Str}(h:j6 d=some x):d=.str x:=by cases d<;>cases h;rfl
def ir(o:Expr):Bool:=o.ctorIdx !=16
theorem gA{o:Expr}(h:ir o=true){m:Str}{env:Env}:attributeBase o m env (eval o env)=eval o env:=by cases o<;>first|rfl|exact absurd h aak
section
variable{X:Cx}{C:Ct}{a b c e:Expr}{es:List Expr}{ma mb mc:E}{pos p p2 apos cpos:Pos}{o:O2}{ta tb:TE}
theorem jg{K:Waa}{B:R2}(f:∀H i u dy d Q,Dt K H u dy->CY o i dy=some d->(∀w,Sc w d->Q w H)->B (.str i) u H Q)(W:bp K ta (ak C ma))(s2:bp K tb (ak C mb)):bp K (yV B ta tb) (ak C (.op2 o ma mb)):=λb F D H N U M Qd Q j R ⟨y,h,q⟩ G=>by obtain⟨x,dx,i,z,dy,L,n,I,e4,J,h⟩:=bn5 h;obtain⟨d,T,h⟩:=bnd h;cases h;rw[bf I]at n;refine W b F D H N U M (λr g=>r=x.1/\g=x.2) _ j R ⟨x,L,rfl,rfl⟩ λv S r Y t m=>?_;obtain⟨l,k⟩:=m;subst l k;have P:=t.dt n;refine s2 b F D S _ _ _ (λr g=>r=z.1/\g=z.2) _ j t ⟨z,e4,rfl,rfl⟩ λu A r O s m=>?_;obtain⟨l,k⟩:=m;subst l k;cases P;exact f A i u dy d _ (j▸s.dt J) T λw Z=>G w A _ _ (s.drop.drop.sc Z) q
theorem lI{K:Waa}{H:Hp}{i:Str}{u:V}{dy d:PyData}(k:o.ctorIdx≠0)(f:Dt K H u dy)(h:CY o i dy=some d):∃j,u=.str j/\o2S o i j=some d:=by
 have h:((j6 dy).bind λb=>o2S o i b)=some d:=by cases o<;>first|exact h|exact absurd rfl k
 obtain⟨j,g,h⟩:=bnd h;rw[bf g]at f;cases f;exact⟨j,rfl,h⟩
theorem DV(m:PlainIx b):PDe X a (ak C ma)->PDe X b (ak C mb)->PDe X (.Subscript a b pos) (ak C (.op2 .ixs ma mb))
 |⟨_,h1,s1⟩,⟨_,h2,s2⟩=>⟨_,qF qG h1 h2 m,jg (λH i u dy d Q f h q=>by
  obtain⟨k,_,c,g,j,l,h⟩:=bn3 h;cases h;rw[aL g]at f;cases f;exact⟨i,k,c,rfl,rfl,aas (gd_ok j) (by decide),l,q _ (.str _)⟩) s1 s2⟩
theorem DW:PDe X a (ak C ma)->PDe X b (ak C mb)->PDe X (.BinOp a .Add b pos) (ak C (.op2 .cts ma mb))
 |⟨_,h1,s1⟩,⟨_,h2,s2⟩=>⟨_,mD kN h1 h2,jg (λH i u dy d Q f h q=>by
  obtain⟨j,rfl,h⟩:=lI (o:=.cts) (by decide) f h;obtain⟨_,e,h⟩:=bnd h;cases h;exact⟨i,j,rfl,rfl,aas (gd_ok e) (by decide),q _ (.str _)⟩) s1 s2⟩
theorem DX(g:behindInMarks .In b=false):PDe X a (ak C ma)->PDe X b (ak C mb)->PDe X (.Compare a [.In] [b] pos) (ak C (.op2 .tin ma mb))
 |⟨_,h1,s1⟩,⟨_,h2,s2⟩=>⟨_,fM oO h1 h2 g,jg (λH i u dy d Q f h q=>by obtain⟨j,rfl,h⟩:=lI (o:=.tin) (by decide) f h;cases h;exact⟨i,j,rfl,rfl,q _ (.bl _)⟩) s1 s2⟩
theorem DY(g:behindInMarks .NotIn b=false):PDe X a (ak C ma)->PDe X b (ak C mb)->PDe X (.Compare a [.NotIn] [b] pos) (ak C (.op2 .tni ma mb))
 |⟨_,h1,s1⟩,⟨_,h2,s2⟩=>⟨_,fM iS h1 h2 g,jg (λH i u dy d Q f h q=>by obtain⟨j,rfl,h⟩:=lI (o:=.tni) (by decide) f h;cases h;exact⟨i,j,rfl,rfl,q _ (.bl _)⟩) s1 s2⟩
def DZ(o:O2):V->List V->Hp->VK->Prop:=λx f H Q=>∃i j d w,x=.str i/\f=[.str j]/\o2S o i j=some d/\Sc w d/\Q w H
theorem Ap:MtR X "str.startswith" (DZ .sws):=by intro f s y H x n v m Q I g k h;obtain⟨i,j,d,w,rfl,rfl,e,l,q⟩:=h;obtain⟨t,rfl⟩:=g;obtain⟨u,rfl,r,rfl⟩:=k.one;cases e;cases l;exact SC.startswith ⟨.bl _,H,I,rfl,q⟩
theorem Aq:MtR X "str.endswith" (DZ .ews):=by intro f s y H x n v m Q I g k h;obtain⟨i,j,d,w,rfl,rfl,e,l,q⟩:=h;obtain⟨t,rfl⟩:=g;obtain⟨u,rfl,r,rfl⟩:=k.one;cases e;cases l;exact SC.endswith ⟨.bl _,H,I,rfl,q⟩
theorem Ar:MtR X "str.index" (DZ .six):=by
 intro l s F H x A v z Q I m n h;obtain⟨i,j,d,w,rfl,rfl,e,y,q⟩:=h;obtain⟨t,rfl⟩:=m;obtain⟨u,rfl,B,rfl⟩:=n.one;obtain⟨k,f,h⟩:=bnd e;cases h;cases y;cases g:Builtin.Str.occurrences i j 0 i.length 1 with
 |nil=>rw[g]at f;cases f
 |cons D r=>rw[g]at f;cases f;exact SC.index g ⟨.int _,H,I.tok _,⟨_,rfl⟩,q⟩
theorem D0{f:Str}{id:String} (I:o.ctorIdx≠0) (l:Slot "str" f id) (s:typeOf (.builtin id)=pure (.type "method_descriptor")) (T:MtR X id (DZ o)) (hr:ir a=true) (g:(apos.endLine==cpos.line)=true) (m:isStar b=false):PDe X a (ak C ma)->PDe X b (ak C mb)->PDe X (.Call (.Attribute a f apos) [b] [] cpos) (ak C (.op2 o ma mb))
 |⟨_,h1,s1⟩,⟨_,h2,s2⟩=>⟨_,mL abQ l s T h1 (aO h2 bw (aw m)) (gA hr) (wm m) g (aw m) (bG rfl),λb F σ H ρ τ θ Qd Q G R ⟨y,h,q⟩ N=>by
  obtain⟨x,dx,i,z,S,P,B,O,e4,D,h⟩:=bn5 h;obtain⟨d,e6,h⟩:=bnd h;cases h;rw[bf O]at B;refine s1 b F σ H ρ τ θ (λr k=>r=x.1/\k=x.2) _ G R ⟨x,P,rfl,rfl⟩ λv Z r a0 L A=>?_;obtain⟨t,n⟩:=A;subst t n;have Y:=L.dt B;cases Y;refine⟨rfl,s2 b F σ Z _ _ _ (λr k=>r=z.1/\k=z.2) _ G L ⟨z,e4,rfl,rfl⟩ λu H2 r W J A=>?_⟩;obtain⟨t,n⟩:=A;subst t n;have h:((j6 S).bind λb=>o2S o i b)=some d:=by cases o<;>first|exact e6|exact absurd rfl I
  obtain⟨j,U,h⟩:=bnd h;rw[bf U]at D;have d2:=J.dt D;cases d2;obtain⟨w,M⟩:∃w,Sc w d:=by
   cases o<;>simp only[o2S]at h
   ·exact absurd rfl I
   all_goals first|(cases h;exact⟨_,.bl _⟩)|(obtain⟨_,_,h⟩:=bnd h;cases h;first|exact⟨_,.str _⟩|exact⟨_,.int _⟩)
  exact⟨i,j,d,w,rfl,rfl,h,M,N w H2 _ _ (J.drop.drop.sc M) q⟩⟩
theorem D1{lo hi:Option Expr}{n m:Eo}:PDe X e (ak C ma)->PDo X lo (lF C n)->PDo X hi (lF C m)->PDe X (.Subscript e (.Slice lo hi none p2) pos) (ak C (.sls ma n m))
 |⟨_,h1,s1⟩,⟨_,h2,s2⟩,⟨_,h3,s3⟩=>⟨_,jM zW h1 h2 h3,λb F σ H ρ τ θ Y Q k R ⟨y,h,q⟩ w=>by
  obtain⟨x,l,u,d,z,G,A,B,s,D,h⟩:=bn5 h;obtain⟨_,S,h⟩:=bnd h;cases h;rw[bf D]at s;refine s1 b F σ H ρ τ θ (λr f=>r=x.1/\f=x.2) _ k R ⟨x,G,rfl,rfl⟩ λv P r T M j=>?_;obtain⟨i,g⟩:=j;subst i g;refine s2 b F σ P _ _ _ (λr f=>r=l.1/\f=l.2) _ k M ⟨l,A,rfl,rfl⟩ λZ U L J j=>?_;obtain⟨i,g⟩:=j;subst i g;refine s3 b F σ U _ _ _ (λr f=>r=u.1/\f=u.2) _ k J ⟨u,B,rfl,rfl⟩ λW I N t j=>?_;obtain⟨i,g⟩:=j;subst i g;have O:=t.dt s;cases O;exact⟨z,rfl,aas (gd_ok S) (by decide),w _ I _ _ (t.drop.sc (.str _)) q⟩⟩
theorem FzA.strs{K:Waa}{S:Addr->Prop}{H:Hp}:∀xs:List Str,FzA K S H (xs.map V.str) (xs.map PyData.str)
 |[]=>.nil
 |x::r=>.cons (.str x) (FzA.strs r)
theorem D2(Y:ir a=true)(d:(apos.endLine==cpos.line)=true)(k:isStar b=false):PDe X a (ak C ma)->PDe X b (ak C mb)->PDe X (.Call (.Attribute a "split" apos) [b] [] cpos) (ak C (.spl ma mb))
 |⟨_,h1,s1⟩,⟨_,h2,s2⟩=>⟨_,mL abQ PySem.F.slot_str_split PySem.F.type_str_split sf h1 (aO h2 bw (aw k)) (gA Y) (wm k) d (aw k) (bG rfl),λb F σ H ρ τ θ Qd Q D R ⟨y,h,q⟩ I=>by
  obtain⟨x,dx,i,z,dy,L,A,J,Z,B,h⟩:=bn5 h;obtain⟨j,_,T,M,h⟩:=bn2 h;cases h;have g:=gd_ok M;rw[bf J]at A;rw[bf T]at B;refine s1 b F σ H ρ τ θ (λr f=>r=x.1/\f=x.2) _ D R ⟨x,L,rfl,rfl⟩ λv P r U G t=>?_;obtain⟨s,m⟩:=t;subst s m;have O:=G.dt A;cases O;refine⟨rfl,s2 b F σ P _ _ _ (λr f=>r=z.1/\f=z.2) _ D G ⟨z,Z,rfl,rfl⟩ λu H2 r N n t=>?_⟩;obtain⟨s,m⟩:=t;subst s m;have d2:=n.dt B;cases d2;refine⟨i,j,rfl,rfl,g.1,g.2.1,aas g.2.2 (by decide),λl W=>I _ _ _ _ (n.drop.drop.push ?_) q⟩;have w:=n.drop.drop.wd.z4 (vs:=(Txt.split i j).map V.str) (ds:=(Txt.split i j).map PyData.str) λS _=>FzA.strs _;have:=Wd.ej w (by simp) W;rw[aaI]at this;exact this⟩
theorem D3(u:Gl X "len") (A:X.mg "len"=none) (l:isStar a=false) (i:PDe X a (ak C ma)):PDe X (.Call (.Name "len" p) [a] [] pos) (ak C (.lns ma)):=by obtain⟨P,h,s⟩:=i;refine⟨_,dJ iT u A qW (aO h bw (aw l)) (by decide) (by decide) (aw l) rfl,λb F M H I J D O Q t R ⟨y,h,q⟩ m=>?_⟩;obtain⟨g,d,z,_,x,j,n,B,h⟩:=bn4 h;cases h;rw[bf n]at j;refine s b F M H I J D (λr f=>r=g.1/\f=g.2) _ t R ⟨g,x,rfl,rfl⟩ λv L r f k N=>?_;obtain⟨i,w⟩:=N;subst i w;have G:=k.dt j;cases G;exact⟨z,rfl,aas (gd_ok B) (by decide),m _ L _ _ (k.drop.sc (.int _)) q⟩
end
end
section
section
variable{X:Cx}{C:Ct}{pos p p2 apos cpos:Pos}
inductive Dk (X:Cx)(C:Ct):List Str->List (Option Expr)->List Expr->Es->Prop
 |nil:Dk X C [] [] [] .nil
 |cons {x j p ks e es me mes xs}:PDe X e (ak C me)->Dk X C xs ks es mes->Dk X C (x::xs) (some (.Constant (.str x) j p)::ks) (e::es) (.cons me mes)
def D4(K:Waa)(xs:List Str)(e:List (TE×TE))(l:DA):Prop:=∀(b:Bs) (F:List Fr) (d:St) (H:Hp) (j:DEnv) (i:List V) (g:List OR) (h:List OR->DEnv->Prop) (Q:List (V×V)->Hp->Prop),b.K=K->Rel b F d H j i g->l j h ->
 (∀c k f a,c.length=f.length->c.length=xs.length->Rel b F d k a (c++i) (f++g)->h f a->Q ((xs.map V.str).zip c) k)->k8 e d H Q
theorem Dk.pps{xs:List Str}{ks:List (Option Expr)}{es:List Expr}{c:Es}(h:Dk X C xs ks es c):∃a,Cg X pos ks es a/\D4 X.K xs a (fK C c):=by
 induction h with
 |nil=>exact⟨[],mQ,λb F t H n z w I Q l R ⟨y,h,q⟩ i=>by cases h;exact i [] H [] n rfl rfl R q⟩
 |@cons x j p ks e es me c xs o _ ih=>obtain⟨S,o,T⟩:=o;obtain⟨a,G,Y⟩:=ih;refine⟨(tC (.str x),S)::a,jT iO o G,λb F t H n z w I Q l R ⟨y,h,q⟩ i=>?_⟩;obtain⟨f,g,J,D,h⟩:=bn2 h;cases h;refine T b F t H n z w (λr d=>r=f.1/\d=f.2) _ l R ⟨f,J,rfl,rfl⟩ λv P r U N u=>?_;obtain⟨s,m⟩:=u;subst s m;refine Y b F t P _ _ _ (λB d=>B=g.1/\d=g.2) _ l N ⟨g,D,rfl,rfl⟩ λO W B M A k L u=>?_;obtain⟨s,m⟩:=u;subst s m;exact i (v::O) W (f.1::g.1) _ (by simp[A]) (by simp[k]) (Rel.u4 L A) q
theorem Dk.all{xs:List Str}{ks:List (Option Expr)}{es:List Expr}{a:Es}(h:Dk X C xs ks es a):ks.all (·.isSome)=true/\ks.length=es.length/\ks.length=xs.length:=by
 induction h with
 |nil=>exact⟨rfl,rfl,rfl⟩
 |cons _ _ b=>exact⟨by simp[b.1],by simp[b.2.1],by simp[b.2.2]⟩
end
end
section
section
variable{X:Cx}{C:Ct}{a b c e kx:Expr}{es:List Expr}{ma mb mc:E}{pos pos' p p1 p2 p3 apos cpos:Pos}{x:Str}{i m:Nat}{W:Nat->Prop}{kvs:List (Str×Str)}{d:Addr}
theorem sO{neg:Bool} (G:Gl X x) (M:X.mg x=some (.ref d)) (D:KDict X.K X.w d kvs) (O:(x==("__debug__":Str))=false):PDe X a (ak C ma)->PDe X (.Compare a [coOf (if neg then .nin else .inn)] [.Name x p] pos) (ak C (.kin neg x kvs ma))/\PDt X (.Compare a [coOf (if neg then .nin else .inn)] [.Name x p] pos) (eS C (.kin neg x kvs ma))
 |⟨ta,f,s1⟩=>by
  have n:PE X (.Name x p) (tC (.ref d)):=iP G M rfl O;obtain⟨l,J,pt,L⟩:∃l,PE X (.Compare a [coOf (if neg then .nin else .inn)] [.Name x p] pos) l/\PT X (.Compare a [coOf (if neg then .nin else .inn)] [.Name x p] pos) (tB l)/\∀g H Q,(ta g H λy U=>∃k,y=.str k/\Q (.bl (if neg then !(kvs.lookup k).isSome else (kvs.lookup k).isSome)) U)->l g H Q:=by
   cases neg with
   |true=>exact⟨_,eG (mR D f n) rfl,eI (mR D f n) rfl,λg H Q z=>z⟩
   |false=>exact⟨_,eG (q8 D f n) rfl,eI (q8 D f n) rfl,λg H Q z=>z⟩
  have S:bp X.K l (ak C (.kin neg x kvs ma)):=by refine λb F g H u Z N Qd Q B R ⟨y,h,q⟩ k=>L _ _ _ ?_;obtain⟨z,P,w,A,o,s,h⟩:=bn3 h;cases h;rw[bf s]at o;refine s1 b F g H u Z N (λr j=>r=z.1/\j=z.2) _ B R ⟨z,A,rfl,rfl⟩ λv Y r' j t hZ=>?_;obtain⟨f,I⟩:=hZ;subst f I;have T:=t.dt o;cases T;exact⟨w,rfl,k _ Y _ _ (t.drop.sc (.bl _)) q⟩
  refine⟨⟨_,J,S⟩,⟨_,pt,(dP S).imp (fP rfl λu x h=>?_)⟩⟩;obtain⟨z,P,w,A,o,s,h⟩:=bn3 h;cases h;exact⟨_,rfl⟩
theorem D5(t:Gl X x) (B:X.mg x=some (.ref d)) (D:KDict X.K X.w d kvs) (G:(x==("__debug__":Str))=false) (I:NoSl a):PDe X a (ak C ma)->PDe X (.Subscript (.Name x p) a pos) (ak C (.kgt x kvs ma))
 |⟨ta,g,s1⟩=>⟨_,vm D (iP t B rfl G) g I,λb F σ H ρ τ θ O Q s R ⟨y,h,q⟩ k=>by
   obtain⟨z,S,w,v,M,j,n,o,h⟩:=bn4 h;cases h;rw[bf n]at j;refine s1 b F σ H ρ τ θ (λr f=>r=z.1/\f=z.2) _ s R ⟨z,M,rfl,rfl⟩ λu L P f l N=>?_;obtain⟨g,A⟩:=N;subst g A;have J:=l.dt j;cases J;exact⟨w,v,rfl,o,k _ L _ _ (l.drop.sc (.str _)) q⟩⟩
theorem D6{B}{g:Pos} (r:Gl X "zip") (v:X.mg "zip"=none) (k:isStar a=false) (f:isStar b=false) (F:PDe X a (ak C ma)) (t:PDe X b (ak C mb)):PDi X (.Tuple es B g) (.Call (.Name "zip" p) [a,b] [] pos) (dr C (.zps ma mb)):=by refine(si r v (by rw[aw k,aw f];rfl) (aw f) (bP k F (bP f t eT))).imp λJ Q G=>?_;obtain⟨y,h,q⟩:=G;obtain⟨I,L,z,w,s,u,j,l,o,H,h⟩:=bn5 h;obtain⟨es,n,h⟩:=bnd h;cases h;obtain⟨A,D⟩:=sE n;exact⟨_,Dq u j,s,w.1,A,es,w.2,by rw[<-bf H];exact xS l o,D,q⟩
theorem Ows.erase{b:Bs}{S:Addr->Prop}{H:Hp}:∀(k:Nat) {vs:List V}{xs:List OD}{A:List Addr},Ows b S H vs xs A->∃D,Ows b S H (vs.eraseIdx k) (xs.eraseIdx k) D/\D.Sublist A
 |_,_,_,_,.nil=>⟨[],.nil,abv _⟩
 |0,_,_,_,.cons (A:=A) (B:=B) _ t=>⟨B,t,ab7 A B⟩
 |k+1,_,_,_,.cons (A:=A) r t=>let ⟨D,h,s⟩:=Ows.erase k t;⟨A++D,.cons r h,(abv A).append s⟩
theorem Ows.rev{b:Bs}{S:Addr->Prop}{H:Hp}:∀{vs:List V}{xs:List OD}{A:List Addr},Ows b S H vs xs A->∃D,Ows b S H vs.reverse xs.reverse D/\D.Perm A
 |_,_,_,.nil=>⟨[],.nil,List.Perm.refl _⟩
 |_,_,_,.cons (A:=A) (B:=B) r t=>by
  obtain⟨D,h,s⟩:=Ows.rev t;refine⟨D++(A++[]),?_,?_⟩
  ·rw[abl,abl];exact h.append (.cons r .nil)
  ·rw[aaq];exact(s.append_right A).trans aaS
theorem D7(v:X.N[i]?=some x) (t:Vis X.env.scope x) (B:(x==("__debug__":Str))=false) (j:(x==("__classdict__":Str))=false) (f:(apos.endLine==cpos.line)=true):
  PDs X W (.Expr (.Call (.Attribute (.Name x pos') "reverse" apos) [] [] cpos) pos) (g8 C (.rev i)):=
 ⟨_,mB (zg ab8 PySem.F.slot_list_reverse PySem.F.type_list_reverse kW (cn v t B j) rfl f) rfl,λb F L H ρ τ Z Dd D P n R ⟨y,h,q⟩ E=>by
  obtain⟨T,z,r,O,h⟩:=bn2 h;cases h;rw[gy O]at r;obtain⟨v',g,w⟩:=Rel.open (us:=[]) (zs:=[]) R rfl r;obtain⟨l,k,M,o,Y,I⟩:=w.pa (ks:=[]) rfl rfl;cases M;refine⟨_,g,.inl ⟨rfl,k,SqL.of o⟩,l,k,rfl,rfl,o,?_⟩;exact E.nx L _ _ (Rel.close (Rel.rest (us:=[]) (zs:=[]) R rfl) g (I k.reverse z.reverse λS H A C U G Q J=>by
   obtain⟨D,h,s⟩:=Ows.rev G;exact⟨D,h,s.nodup_iff.mpr (aaA.mp J).1,λc u=>.inl (s.mem_iff.mp u)⟩)) q⟩
theorem xU{j:Nat}{y:Str} (P:X.N[i]?=some x) (O:Vis X.env.scope x) (Y:(x==("__debug__":Str))=false) (u:(x==("__classdict__":Str))=false) (hi:i<m) (s:X.N[j]?=some y) (o:Vis X.env.scope y) (t:(y==("__debug__":Str))=false) (g:(y==("__classdict__":Str))=false):PDg X W m (.Subscript (.Name x pos') (.Name y p2) pos) (λz ρ Q=>∃xs k a,ρ[i]?.join=some (.lst xs)/\gx ρ j=some k/\ixN xs.length k=some a/\Q (ρ.set i (some (.lst (xs.set a z))))):=
 ⟨_,qp (cn P O Y u) (cn s o t g) set_list (sM rfl),λb F I H ρ τ U v y Qd Q hK n R ⟨xs,k,a,ex,ek,G,q⟩ E=>by
  obtain⟨v',f,w⟩:=Rel.open (us:=[v]) (zs:=[y]) R rfl ex;obtain⟨l,D,ch,J,T,go⟩:=w.pa (ks:=[]) rfl rfl;cases ch;obtain⟨z,d,B,L,h⟩:=bn2 ek;rw[eR L,aL h]at B;obtain⟨v2,r,w2⟩:=R.slot (join_some B);have R5:Rel b F I H (ρ.set j none) (v2::v::τ) (.val (.fz (.int k))::.val y::U):=⟨R.wf.off,R.al,R.wff,w2⟩
  have d2:=R5.dt (d:=.int k) rfl;cases d2;refine⟨_,f,_,r,l,D,k,a,rfl,rfl,J,by rw[T];exact G,?_⟩;exact E I _ _ (Rel.close (Rel.rest (us:=[v]) (zs:=[y]) R rfl) f (go (D.set a v) (xs.set a y) λS H A C nt Z M nd=>Ows.z0 (rH G) Z M nd)) (λj hj=>⟨rfl,aaO (by omega)⟩) q⟩
theorem Gw{j k:Nat}{y z:Str}{n:Nat}{Y T Z:Pos} (S:X.calm=true) (U:X.N[i]?=some x) (P:Vis X.env.scope x) (o:(x==("__debug__":Str))=false) (s:(x==("__classdict__":Str))=false) (hi:i<m)
  (M:X.N[j]?=some y) (O:Vis X.env.scope y) (A:(y==("__debug__":Str))=false) (D:(y==("__classdict__":Str))=false) (L:X.N[k]?=some z) (B:Vis X.env.scope z) (I:(z==("__debug__":Str))=false) (G:(z==("__classdict__":Str))=false):
  PDg X W m (.Tuple [.Subscript (.Name x pos') (.Name y p2) p3,.Subscript (.Name x Y) (.Name z T) Z] n pos) (dA (.sv i j k)):=by
 have hs:=eN (W:=W) (m:=m) rfl (xU (W:=W) (m:=m) (pos:=p3) (pos':=pos') (p2:=p2) U P o s hi M O A D) (eN rfl (xU (W:=W) (m:=m) (pos:=Z) (pos':=Y) (p2:=T) U P o s hi L B I G) pdgs_nil);refine((mW (n:=2) S rfl rfl hs).or (mX (n:=2) S rfl rfl hs)).imp λy' f Q hZ=>?_;obtain⟨a0,h,q⟩:=hZ;obtain⟨g,w,y0,F,c,l,e2,v,e4,f1,h⟩:=bn5 h;obtain⟨d,a,b,H,e5,e6,h⟩:=bn3 h;cases h;rw[two2_ok e2]at l;rw[gy e4]at v;have hl:i<f.length:=aao.mp (join_some v) |>.1;have ne:k≠i:=λz=>by subst z;obtain⟨u,g1,g2⟩:=bnd H;rw[v]at g1;cases g1;cases g2
 have J:gx (f.set i (some (.lst (F.set a w.1)))) k=some d:=by unfold gx at H ⊢;rw[aaO (aaJ ne)];exact H
 have o:∃x r,[w.1,w.2]=x::r/\∃g t a,f[i]?.join=some (.lst g)/\gx f j=some t/\ixN g.length t=some a/\rR (λy f Q=>∃g t a,f[i]?.join=some (.lst g)/\gx f k=some t/\ixN g.length t=some a/\Q (f.set i (some (.lst (g.set a y))))) dgNil r (f.set i (some (.lst (g.set a x)))) Q:=by
  refine⟨w.1,[w.2],rfl,F,c,a,v,f1,e5,w.2,[],rfl,F.set a w.1,d,b,?_,J,by rw[abk];exact e6,rfl,?_⟩
  ·rw[aaN hl];rfl
  ·rw[List.set_set];exact q
 rcases j8 l with l|l
 ·exact .inl ⟨_,l,rfl,o⟩
 ·exact .inr ⟨_,l,rfl,o⟩
end
end
section
theorem ka:∀{ds:List PyData}{ys:List Str},gu ds=some ys->ds=ys.map PyData.str
 |[],ys,h=>by cases h;rfl
 |d::r,ys,h=>by
  cases d<;>simp only[gu]at h<;>first|(cases h;done)|skip
  cases e:gu r with
  |none=>rw[e]at h;cases h
  |some zs=>rw[e]at h;cases h;rw[aaj,<-ka e]
theorem kb{K:Waa}{H:Hp}:∀{ys:List Str}{vs:List V},DtAll K H vs (ys.map PyData.str)->vs=ys.map V.str
 |[],vs,h=>by cases h;rfl
 |y::ys,vs,h=>by
  cases h with
  |cons r t=>cases r;rw[aaj,<-kb t]
section
variable{X:Cx}{W:Nat->Prop}{C:Ct}{a b e:Expr}{es:List Expr}{ma mb:E}{pos p p2 apos cpos kp:Pos}{x y:Str}{i j m:Nat}
theorem D8(hr:ir a=true)(c:(apos.endLine==cpos.line)=true)(f:isStar b=false)(n:PDe X a (ak C ma))(k:PDe X b (ak C mb)):PDe X (.Call (.Attribute a "join" apos) [b] [] cpos) (ak C (.joi ma mb)):=by
 obtain⟨_,n,s1⟩:=n;obtain⟨_,k,s2⟩:=k;refine⟨_,mL abQ PySem.F.slot_str_join PySem.F.type_str_join vV n (aO k bw (aw f)) (gA hr) (wm f) c (aw f) (bG rfl),λb F G H T τ S Qd Q g R ⟨y,h,q⟩ J=>?_⟩;obtain⟨x,dx,i,z,dy,M,t,L,e4,A,h⟩:=bn5 h;obtain⟨ds,P,w,e6,O,N,h⟩:=bn3 h;cases h;rw[bf L]at t;rw[lC e6,ka O]at A;refine s1 b F G H T τ S (λr d=>r=x.1/\d=x.2) _ g R ⟨x,M,rfl,rfl⟩ λv Z r a0 D s=>?_;obtain⟨o,l⟩:=s;subst o l;have Y:=D.dt t;cases Y;refine⟨rfl,s2 b F G Z _ _ _ (λr d=>r=z.1/\d=z.2) _ g D ⟨z,e4,rfl,rfl⟩ λu H2 r U B s=>?_⟩;obtain⟨o,l⟩:=s;subst o l;have I:=B.dt A;rw[g]at I;cases I with
 |lst f ha=>rw[kb ha]at f;exact⟨i,_,P,w,rfl,rfl,f,N,J _ H2 _ _ (B.drop.drop.sc (.str _)) q⟩
theorem D9(A:Gl X "int") (G:X.mg "int"=none) (o:isStar a=false) (g:PDe X a (ak C ma)):PDe X (.Call (.Name "int" p) [a] [] pos) (ak C (.ist ma)):=by obtain⟨Y,h,s⟩:=g;refine⟨_,bW pT A G k7 (aO h bw (aw o)) (by decide) (by decide) (aw o) rfl,λb F P H M N J U Q w R ⟨y,h,q⟩ t=>?_⟩;obtain⟨f,d,z,n,_,D,k,u,S,I,h⟩:=bn5 h;cases h;rw[bf u]at k;refine s b F P H M N J (λr c=>r=f.1/\c=f.2) _ w R ⟨f,D,rfl,rfl⟩ λv O r c l T=>?_;obtain⟨g,B⟩:=T;subst g B;have L:=l.dt k;cases L;exact⟨z,n,rfl,S,gd_ok I,t _ O _ _ (l.drop.sc (.int _)) q⟩
theorem Ea{k:Expr}(n:PDe X e (ak C ma)):PDi X k e (dr C (.sqs ma)):=by refine(vU n).imp λr Q l=>?_;obtain⟨y,h,q⟩:=l;obtain⟨g,d,z,o,c,f,h⟩:=bn3 h;cases h;rw[bf f]at c;exact⟨g,o,z,c,q⟩
theorem Eb{x1}{f:Pos} (hg:Gl X "enumerate") (hm:X.mg "enumerate"=none) (g:isStar a=false) (B:PDe X a (ak C ma)) (t:PDe X b (ak C mb)):PDi X (.Tuple es x1 f) (.Call (.Name "enumerate" p) [a] [⟨some "start",b,kp⟩] pos) (dr C (.enk ma mb)):=by obtain⟨_,B,s1⟩:=B;obtain⟨_,t,s2⟩:=t;refine⟨_,su hg hm (aO B bw (aw g)) t (aw g),λb F J H ρ P N Qd Q o R ⟨y,h,q⟩ T=>?_⟩;obtain⟨x,z,d,k,_,e1,U,M,e4,G,h⟩:=bn5 h;obtain⟨w,n,Y,s,h⟩:=bn2 h;cases h;have G:=gd_ok G;subst G;rw[aL e4]at M;refine s1 b F J H ρ P N (λr c=>r=x.1/\c=x.2) _ o R ⟨x,e1,rfl,rfl⟩ λv H1 r a1 R1 L=>?_;obtain⟨D,A⟩:=L;subst D A;refine s2 b F J H1 _ _ _ (λr c=>r=z.1/\c=z.2) _ o R1 ⟨z,U,rfl,rfl⟩ λu S r a0 O L=>?_;obtain⟨D,A⟩:=L;subst D A;have d2:=O.dt M;cases d2;have R3:=O.drop;have s:=lC s;obtain⟨wd,l⟩:=w;simp only at s;subst s;obtain⟨R4,_⟩:=fN (vs:=[v]) (rs:=[x.1]) R3 rfl (xR Y rfl);have I:Rel b F J S l (v::P) (.val (.fz (.list n))::N):=R4;obtain⟨a,Z,rfl,el,g,_⟩:=I.wd.ar (I.mem rfl) (rfl:listOf (.fz (.list n))=some n);rw[o]at g;exact⟨a,Z,rfl,rfl,g,o▸T _ S _ l [.ref a] [.val (.fz (.list n))] rfl (λr hr=>.inl ⟨_,aaw.mp hr⟩) I (pJ b a n) q⟩
theorem Ec(hN:X.N.Nodup)(s:Sto X W m i x)(h1:PDe X e (ak C ma)):PDs X W (.AugAssign (.Name x p2) .Add e pos) (g8 C (.aut i ma)):=by
 obtain⟨te,h,s1⟩:=h1;refine⟨_,qr hN s.hN s.loc h vX s.fn,λb F B H J τ θ Dd D G n R ⟨y,h,q⟩ E=>?_⟩;obtain⟨x0,d0,f,z,ys,P,f0,g0,e1,ey,h⟩:=bn5 h;obtain⟨_,A,h⟩:=bnd h;cases h;have A:=gd_ok A;rw[eR f0,z8 g0]at P;have hi:i<J.length:=(aao.mp (join_some P)).1;refine mS b F B H J τ θ (λr d=>r=.val (.fz (.tuple f))/\d=J) (λv M=>te B M λy Y=>G2 X.K v y Y λz H3=>D.nx (B.set i (some z)) H3) G R (by unfold dVar;rw[P];exact⟨rfl,rfl⟩) λv M r a1 R1 Q=>?_;obtain⟨L,I⟩:=Q;subst L I;refine s1 b F B M _ _ _ (λr d=>r=z.1/\d=z.2) _ G R1 ⟨z,e1,rfl,rfl⟩ λu Y r a0 t Q=>?_;obtain⟨L,I⟩:=Q;subst L I;obtain⟨y',e5,e6⟩:=aaF.mp ey;obtain⟨a,S,rfl,O,U,w⟩:=t.wd.b8 (t.mem1 (rfl:cC _ (.val (.fz (.tuple f)))=some (.fz (.tuple f)))) (rfl:tupOf (.fz (.tuple f))=some f);obtain⟨c,ws,rfl,k,o,Z⟩:=w.b8 (aae _ (t.mem e5)) e6;rw[<-aac]at Z;rw[G]at U o;have hl:i<z.2.length:=by rw[<-t.wf.len,R.wf.len];exact hi
 have T:∀{vs:List V}{ds:List PyData},vs.length=ds.length->ds≠[]->vs≠[]:=λ{vs ds} e h z=>h (by subst z;cases ds with|nil=>rfl|cons _ _=>simp at e);refine⟨a,c,S,ws,rfl,rfl,U,o,T O A.1,T k A.2.1,gf (by omega),λl hp=>E.nx _ _ _ ((Rel.eo (Rel.eo (t.dw (vs:=S++ws) (ds:=f++ys) Z (by simp[O,k]) (λz g=>?_) hp))).store n hl s.nw) q⟩;rw[aaC,i4 (by simpa using O)]at g;refine aad _ ?_;rcases aai.mp g with g|g
 ·exact aae _ g
 ·exact aad _ g
theorem As{ds:List PyData}{z:Str×List PyData}(h:G6 ds=some z):ds=.str z.1::z.2:=by
 cases ds with
 |nil=>cases h
 |cons d r=>cases d<;>cases h;rfl
theorem Gx{k:Nat}(r:X.calm=true)(u:X.N.Nodup)(s:Sto X W m i x)(U:Sto X W m j y):PDg X W m (.Tuple [.Name x p,.Starred (.Name y p2) kp] k pos) (dA (.st i j)):=by
 obtain⟨t,h,st⟩:=je u (Stos.cons (pos:=p) s (Stos.cons (pos:=p2) U .nil));refine⟨_,vW r h rfl rfl,λb F Y H L P I v x Z Q n B R ⟨O,h,q⟩ E=>?_⟩;obtain⟨ds,z,_,A,o,d,h⟩:=bn3 h;cases h;have d:=gd_ok d;have S:=As o;subst S;obtain⟨a,c,rfl,g,J,w⟩:=R.wd.ar b9 A;cases c with
 |nil=>simp at g
 |cons D c=>have G:Wd b H ((D,.fz (.str z.1))::_):=w;have M:=G.dt rfl;cases M;refine⟨a,_,c,rfl,n▸J,by have:c.length=z.2.length:=(by simpa using g);omega,λl T=>st b F Y _ L P I [.str z.1,.ref l] [.fz (.str z.1),.lst (z.2.map OD.fz)] _ _ n B rfl ?_ ⟨rfl,by intro q f;simp at f;rcases f with rfl|rfl;exact d.2.1;exact d.2.2,q⟩ E⟩;exact(Rel.eo (Rel.ej R w (vs:=c) (ds:=z.2) (by simpa using g) (λq f=>aad _ (aaf _ f)) T)).sc (.str _)
end
end
section
def aV(e:PySem.Expr):Option (Str):=if h:e.ctorIdx=23 then some (@PySem.Expr.Name.elim (λ_=>Str) e h λx _=>x) else none
theorem asNm_ok{e:PySem.Expr}{z:Str}(h:aV e=some z):∃p,e=.Name z p:=by
 by_cases a:e.ctorIdx=23
 ·revert h;exact@PySem.Expr.Name.elim (λe=>aV e=some z->∃p,e=.Name z p) e a λx p h=>by cases h;exact⟨p,rfl⟩
 ·rw[aV,dif_neg a]at h;cases h
def gC(e:PySem.Expr):Option (Const):=if h:e.ctorIdx=19 then some (@PySem.Expr.Constant.elim (λ_=>Const) e h λc _ _=>c) else none
theorem dX{e:PySem.Expr}{z:Const}(h:gC e=some z):∃j p,e=.Constant z j p:=by
 by_cases a:e.ctorIdx=19
 ·revert h;exact@PySem.Expr.Constant.elim (λe=>gC e=some z->∃j p,e=.Constant z j p) e a λc j p h=>by cases h;exact⟨j,p,rfl⟩
 ·rw[gC,dif_neg a]at h;cases h
def nh(e:PySem.Expr):Option (Expr×Operator×Expr):=if h:e.ctorIdx=2 then some (@PySem.Expr.BinOp.elim (λ_=>Expr×Operator×Expr) e h λx o y _=>(x,o,y)) else none
theorem sP(h:nh e=some z):∃p,e=.BinOp z.1 z.2.1 z.2.2 p:=by
 by_cases a:e.ctorIdx=2
 ·revert h;exact@PySem.Expr.BinOp.elim (λe=>nh e=some z->∃p,e=.BinOp z.1 z.2.1 z.2.2 p) e a λx o y p h=>by cases h;exact⟨p,rfl⟩
 ·rw[nh,dif_neg a]at h;cases h
def kc(e:PySem.Expr):Option (Expr×List CmpOp×List Expr):=if h:e.ctorIdx=15 then some (@PySem.Expr.Compare.elim (λ_=>Expr×List CmpOp×List Expr) e h λx b a _=>(x,b,a)) else none
theorem asCmp_ok(h:kc e=some z):∃p,e=.Compare z.1 z.2.1 z.2.2 p:=by
 by_cases a:e.ctorIdx=15
 ·revert h;exact@PySem.Expr.Compare.elim (λe=>kc e=some z->∃p,e=.Compare z.1 z.2.1 z.2.2 p) e a λx c b p h=>by cases h;exact⟨p,rfl⟩
 ·rw[kc,dif_neg a]at h;cases h
def wo(e:PySem.Expr):Option (BoolOp×List Expr×Pos):=if h:e.ctorIdx=0 then some (@PySem.Expr.BoolOp.elim (λ_=>BoolOp×List Expr×Pos) e h λo a p=>(o,a,p)) else none
theorem wq(h:wo e=some z):e=.BoolOp z.1 z.2.1 z.2.2:=by
 by_cases a:e.ctorIdx=0
 ·revert h;exact@PySem.Expr.BoolOp.elim (λe=>wo e=some z->e=.BoolOp z.1 z.2.1 z.2.2) e a λo b p h=>by cases h;exact rfl
 ·rw[wo,dif_neg a]at h;cases h
def sQ(e:PySem.Expr):Option (UnaryOp×Expr):=if h:e.ctorIdx=3 then some (@PySem.Expr.UnaryOp.elim (λ_=>UnaryOp×Expr) e h λo x _=>(o,x)) else none
theorem ni{e:PySem.Expr}{z:UnaryOp×Expr}(h:sQ e=some z):∃p,e=.UnaryOp z.1 z.2 p:=by
 by_cases a:e.ctorIdx=3
 ·revert h;exact@PySem.Expr.UnaryOp.elim (λe=>sQ e=some z->∃p,e=.UnaryOp z.1 z.2 p) e a λo x p h=>by cases h;exact⟨p,rfl⟩
 ·rw[sQ,dif_neg a]at h;cases h
def wt(e:PySem.Expr):Option (Expr×Expr×Expr):=if h:e.ctorIdx=5 then some (@PySem.Expr.IfExp.elim (λ_=>Expr×Expr×Expr) e h λc a b _=>(c,a,b)) else none
theorem wu(h:wt e=some z):∃p,e=.IfExp z.1 z.2.1 z.2.2 p:=by
 by_cases d:e.ctorIdx=5
 ·revert h;exact@PySem.Expr.IfExp.elim (λe=>wt e=some z->∃p,e=.IfExp z.1 z.2.1 z.2.2 p) e d λc a b p h=>by cases h;exact⟨p,rfl⟩
 ·rw[wt,dif_neg d]at h;cases h
def bQ(e:PySem.Expr):Option (List Expr):=if h:e.ctorIdx=25 then some (@PySem.Expr.Tuple.elim (λ_=>List Expr) e h λa _ _=>a) else none
theorem asTup_ok(h:bQ e=some z):∃k p,e=.Tuple z k p:=by
 by_cases a:e.ctorIdx=25
 ·revert h;exact@PySem.Expr.Tuple.elim (λe=>bQ e=some z->∃k p,e=.Tuple z k p) e a λb k p h=>by cases h;exact⟨k,p,rfl⟩
 ·rw[bQ,dif_neg a]at h;cases h
def nj(e:PySem.Expr):Option (List Expr):=if h:e.ctorIdx=24 then some (@PySem.Expr.List.elim (λ_=>List Expr) e h λa _=>a) else none
theorem sR(h:nj e=some z):∃p,e=.List z p:=by
 by_cases a:e.ctorIdx=24
 ·revert h;exact@PySem.Expr.List.elim (λe=>nj e=some z->∃p,e=.List z p) e a λb p h=>by cases h;exact⟨p,rfl⟩
 ·rw[nj,dif_neg a]at h;cases h
def cf(e:PySem.Expr):Option (Expr×Expr):=if h:e.ctorIdx=21 then some (@PySem.Expr.Subscript.elim (λ_=>Expr×Expr) e h λx y _=>(x,y)) else none
theorem aW(h:cf e=some z):∃p,e=.Subscript z.1 z.2 p:=by
 by_cases a:e.ctorIdx=21
 ·revert h;exact@PySem.Expr.Subscript.elim (λe=>cf e=some z->∃p,e=.Subscript z.1 z.2 p) e a λx y p h=>by cases h;exact⟨p,rfl⟩
 ·rw[cf,dif_neg a]at h;cases h
def nq(e:PySem.Expr):Option (Option Expr×Option Expr×Option Expr):=if h:e.ctorIdx=26 then some (@PySem.Expr.Slice.elim (λ_=>Option Expr×Option Expr×Option Expr) e h λl a s _=>(l,a,s)) else none
theorem sS(h:nq e=some z):∃p,e=.Slice z.1 z.2.1 z.2.2 p:=by
 by_cases a:e.ctorIdx=26
 ·revert h;exact@PySem.Expr.Slice.elim (λe=>nq e=some z->∃p,e=.Slice z.1 z.2.1 z.2.2 p) e a λl b s p h=>by cases h;exact⟨p,rfl⟩
 ·rw[nq,dif_neg a]at h;cases h
def cK(e:PySem.Expr):Option (Expr×List Expr×List Keyword×Pos):=if h:e.ctorIdx=16 then some (@PySem.Expr.Call.elim (λ_=>Expr×List Expr×List Keyword×Pos) e h λf b a p=>(f,b,a,p)) else none
theorem cg(h:cK e=some z):e=.Call z.1 z.2.1 z.2.2.1 z.2.2.2:=by
 by_cases a:e.ctorIdx=16
 ·revert h;exact@PySem.Expr.Call.elim (λe=>cK e=some z->e=.Call z.1 z.2.1 z.2.2.1 z.2.2.2) e a λf c b p h=>by cases h;exact rfl
 ·rw[cK,dif_neg a]at h;cases h
def iu(e:PySem.Expr):Option (Expr×Str×Pos):=if h:e.ctorIdx=20 then some (@PySem.Expr.Attribute.elim (λ_=>Expr×Str×Pos) e h λo f p=>(o,f,p)) else none
theorem asAtt_ok(h:iu e=some z):e=.Attribute z.1 z.2.1 z.2.2:=by
 by_cases a:e.ctorIdx=20
 ·revert h;exact@PySem.Expr.Attribute.elim (λe=>iu e=some z->e=.Attribute z.1 z.2.1 z.2.2) e a λo f p h=>by cases h;exact rfl
 ·rw[iu,dif_neg a]at h;cases h
def nu(e:PySem.Expr):Option (List (Option Expr)×List Expr):=if h:e.ctorIdx=6 then some (@PySem.Expr.Dict.elim (λ_=>List (Option Expr)×List Expr) e h λb a _=>(b,a)) else none
theorem sT{e:PySem.Expr}{z:List (Option Expr)×List Expr}(h:nu e=some z):∃p,e=.Dict z.1 z.2 p:=by
 by_cases a:e.ctorIdx=6
 ·revert h;exact@PySem.Expr.Dict.elim (λe=>nu e=some z->∃p,e=.Dict z.1 z.2 p) e a λb c p h=>by cases h;exact⟨p,rfl⟩
 ·rw[nu,dif_neg a]at h;cases h
def lJ(e:PySem.Expr):Option (Expr×List Comprehension×Scope×Pos):=if h:e.ctorIdx=8 then some (@PySem.Expr.ListComp.elim (λ_=>Expr×List Comprehension×Scope×Pos) e h λx a s p=>(x,a,s,p)) else none
theorem nv(h:lJ e=some z):e=.ListComp z.1 z.2.1 z.2.2.1 z.2.2.2:=by
 by_cases a:e.ctorIdx=8
 ·revert h;exact@PySem.Expr.ListComp.elim (λe=>lJ e=some z->e=.ListComp z.1 z.2.1 z.2.2.1 z.2.2.2) e a λx b s p h=>by cases h;exact rfl
 ·rw[lJ,dif_neg a]at h;cases h
def Gy:Const->Option Int|.int k=>some k|_=>none
def Gz:Const->Option Str|.str k=>some k|_=>none
def GA:Const->Option Bool|.bool k=>some k|_=>none
def GB:Const->Bool|.none=>true|_=>false
def ny(e:Expr):Option Int:=(gC e).bind Gy
def sU(e:Expr):Option Str:=(gC e).bind Gz
def Ed(e:Expr):Option Bool:=(gC e).bind GA
def sV(e:Expr):Bool:=(gC e).any GB
def xV(e:Expr):Bool:=(nu e).any λz=>z.1.isEmpty&&z.2.isEmpty
def isTup(e:Expr):Bool:=(bQ e).isSome
theorem anyT{b:Type}{o:Option b}{p:b->Bool}(h:o.any p=true):∃a,o=some a/\p a=true:=by
 cases o with
 |none=>cases h
 |some a=>exact⟨a,rfl,h⟩
theorem ay2{α β:Type}{o:Option α}{g1:α->Option β}{f:α->β->Bool}(h:(o.any λa=>(g1 a).any (f a))=true):∃a b,o=some a/\g1 a=some b/\f a b=true:=by obtain⟨a,p0,h⟩:=anyT h;obtain⟨b,p1,h⟩:=anyT h;exact⟨a,b,p0,p1,h⟩
theorem ay3{α β γ:Type}{o:Option α}{g1:α->Option β}{g2:α->β->Option γ}{f:α->β->γ->Bool}(h:(o.any λa=>(g1 a).any λb=>(g2 a b).any (f a b))=true):∃a b c,o=some a/\g1 a=some b/\g2 a b=some c/\f a b c=true:=by obtain⟨a,p0,h⟩:=anyT h;obtain⟨b,p1,h⟩:=anyT h;obtain⟨c,p2,h⟩:=anyT h;exact⟨a,b,c,p0,p1,p2,h⟩
theorem ay4{α β γ δ:Type}{o:Option α}{g1:α->Option β}{g2:α->β->Option γ}{g3:α->β->γ->Option δ}{f:α->β->γ->δ->Bool}(h:(o.any λa=>(g1 a).any λb=>(g2 a b).any λc=>(g3 a b c).any (f a b c))=true):∃a b c d,o=some a/\g1 a=some b/\g2 a b=some c/\g3 a b c=some d/\f a b c d=true:=by obtain⟨a,p0,h⟩:=anyT h;obtain⟨b,p1,h⟩:=anyT h;obtain⟨c,p2,h⟩:=anyT h;obtain⟨d,p3,h⟩:=anyT h;exact⟨a,b,c,d,p0,p1,p2,p3,h⟩
theorem ay5{α β γ δ ε:Type}{o:Option α}{g1:α->Option β}{g2:α->β->Option γ}{g3:α->β->γ->Option δ}{g4:α->β->γ->δ->Option ε}{f:α->β->γ->δ->ε->Bool}(h:(o.any λa=>(g1 a).any λb=>(g2 a b).any λc=>(g3 a b c).any λd=>(g4 a b c d).any (f a b c d))=true):∃a b c d e,o=some a/\g1 a=some b/\g2 a b=some c/\g3 a b c=some d/\g4 a b c d=some e/\f a b c d e=true:=by obtain⟨a,p0,h⟩:=anyT h;obtain⟨b,p1,h⟩:=anyT h;obtain⟨c,p2,h⟩:=anyT h;obtain⟨d,p3,h⟩:=anyT h;obtain⟨e,p4,h⟩:=anyT h;exact⟨a,b,c,d,e,p0,p1,p2,p3,p4,h⟩
theorem an2{a b:Bool}(h:(a&&b)=true):a=true/\b=true:=abt.mp h
theorem asInt_ok{k:Int}(h:ny e=some k):∃j p,e=.Constant (.int k) j p:=by obtain⟨c,a,h⟩:=bnd h;obtain⟨j,p,rfl⟩:=dX a;cases c<;>cases h;exact⟨j,p,rfl⟩
theorem asStr_ok(h:sU e=some k):∃j p,e=.Constant (.str k) j p:=by obtain⟨c,a,h⟩:=bnd h;obtain⟨j,p,rfl⟩:=dX a;cases c<;>cases h;exact⟨j,p,rfl⟩
theorem asBl_ok(h:Ed e=some k):∃j p,e=.Constant (.bool k) j p:=by obtain⟨c,a,h⟩:=bnd h;obtain⟨j,p,rfl⟩:=dX a;cases c<;>cases h;exact⟨j,p,rfl⟩
theorem gD(h:sV e=true):∃j p,e=.Constant .none j p:=by obtain⟨c,a,h⟩:=anyT h;obtain⟨j,p,rfl⟩:=dX a;cases c<;>cases h;exact⟨j,p,rfl⟩
theorem sW(h:xV e=true):∃p,e=.Dict [] [] p:=by obtain⟨z,c,h⟩:=anyT h;obtain⟨p,rfl⟩:=sT c;obtain⟨b,a⟩:=an2 h;rw[List.isEmpty_iff]at b a;exact⟨p,by rw[b,a]⟩
theorem cL(h:isTup e=true):∃xs k p,e=.Tuple xs k p:=by obtain⟨z,a⟩:=aa7.mp h;obtain⟨k,p,rfl⟩:=asTup_ok a;exact⟨z,k,p,rfl⟩
theorem an3(h:(a&&b&&c)=true):a=true/\b=true/\c=true:=⟨(an2 (an2 h).1).1,(an2 (an2 h).1).2,(an2 h).2⟩
theorem an4(h:(a&&b&&c&&d)=true):a=true/\b=true/\c=true/\d=true:=⟨(an3 (an2 h).1).1,(an3 (an2 h).1).2.1,(an3 (an2 h).1).2.2,(an2 h).2⟩
theorem nz(h:(a&&b&&c&&d&&e)=true):a=true/\b=true/\c=true/\d=true/\e=true:=⟨(an4 (an2 h).1).1,(an4 (an2 h).1).2.1,(an4 (an2 h).1).2.2.1,(an4 (an2 h).1).2.2.2,(an2 h).2⟩
theorem bz(h:(!a)=true):a=false:=by cases a<;>first|rfl|cases h
def pV{a:Type}:List a->Option (a×List a)|x::xs=>some (x,xs)|_=>none
theorem con1_ok{a:Type}{l:List a}{x:a×List a}(h:pV l=some x):l=x.1::x.2:=by cases l<;>cases h;rfl
structure Tb where
 fn:Nat->Option Str
 me:Nat->Option (Str×Str)
 mk':Nat->Option Str
 gc:Nat->Option Str
 nog:Str->Bool
 fld:Str->Str->Bool
 kd:Str->List (Str×Str)->Bool:=λ_ _=>false
structure Cy (t:Tb)(C:Ct)(X:Cx):Prop where
 calm:X.calm=true
 units:X.A.units+64<cLine
 guards:X.A.guards=some []
 hfn:∀j nm,t.fn j=some nm->∃k fa fd ps,FnD X.prog X.w X.K X.mg X.base k fa fd ps (spC (C.call j))/\Room k X.A/\X.mg nm=some (.ref fa)/\PySem.W.keepIn X.K (.ref fa)=true/\Binds X.K fd ps []
 hme:∀j c m,t.me j=some (c,m)->Cls X.K (aI X.K c)/\∃k fa fd ps,Meth X.K (aI X.K c) m fa/\FnD X.prog X.w X.K X.mg X.base k fa fd ps (spC (C.call j))/\Room k X.A/\Binds X.K fd ps []
 hmk:∀j c,t.mk' j=some c->∃k fa fd ps,Mk X.K (aI X.K c) fa/\FnD X.prog X.w X.K X.mg X.base k fa fd ps (spC (C.mak j))/\Room (k+1) X.A/\X.mg c=some (.ref (aI X.K c))/\Binds X.K fd ps []
 hgc:∀g nm,t.gc g=some nm->∃v u,X.mg nm=some u/\RelV v u/\∀S H,Fz X.K S H v (C.gv g)
 hng:∀x,t.nog x=true->X.mg x=none
 hfl:∀c f,t.fld c f=true->Cls X.K (aI X.K c)/\kO X.K (aI X.K c) f
 hkd:∀x kvs,t.kd x kvs=true->∃d,X.mg x=some (.ref d)/\KDict X.K X.w d kvs
theorem Cy.comp{t:Tb}{C:Ct}{X:Cx}(c:Cy t C X){N:List Str}{sc:Scope}{q:CC}:Cy t C (bJ X N sc q):=⟨c.calm,c.units,c.guards,c.hfn,c.hme,c.hmk,c.hgc,c.hng,c.hfl,c.hkd⟩
def sEq(x y:Str):Bool:=decide (x=y)
theorem aS(h:sEq x y=true):x=y:=Daa h
def kindB(sc:Scope)(x:Str)(k:NameKind):Bool:=decide (sc.names.lookup x=some k)
theorem aF(h:kindB sc x k=true):sc.names.lookup x=some k:=Daa h
def Au(sc:Scope)(x:Str):Bool:=kindB sc x .local||kindB sc x .cell||kindB sc x .free
def wx(sc:Scope)(x:Str):Bool:=kindB sc x .local||kindB sc x .cell
theorem wy(h:Au sc x=true):Vis sc x:=by
 unfold Au at h;rw[abb,abb]at h;rcases h with (h|h)|h
 ·exact .inl (aF h)
 ·exact .inr (.inl (aF h))
 ·exact .inr (.inr (aF h))
theorem nF(h:wx sc x=true):Loc sc x:=by
 unfold wx at h;rw[abb]at h;rcases h with h|h
 ·exact .inl (aF h)
 ·exact .inr (aF h)
def okN(x:Str):Bool:=!(x==("__debug__":Str))&&!(x==("__classdict__":Str))
def sX(N:List Str)(sc:Scope)(i:Nat)(x:Str):Bool:=decide (N[i]?=some x)&&Au sc x&&okN x
structure NmX (X:Cx)(i:Nat)(x:Str):Prop where
 n:X.N[i]?=some x
 v:Vis X.env.scope x
 d:(x==("__debug__":Str))=false
 c:(x==("__classdict__":Str))=false
theorem bU(h:sX X.N X.env.scope i x=true):NmX X i x:=by unfold sX okN at h;simp only[aat,aba]at h;exact⟨Daa h.1.1,wy h.1.2,h.2.1,h.2.2⟩
def Ee(N:List Str)(sc:Scope)(i:Nat)(e:Expr):Bool:=(aV e).any λx=>sX N sc i x
theorem lK{N:List Str}(h:Ee N sc i e=true):∃x p,e=.Name x p/\sX N sc i x=true:=by obtain⟨x,a,h⟩:=anyT h;obtain⟨p,rfl⟩:=asNm_ok a;exact⟨x,p,rfl,h⟩
def xW(sc:Scope)(x:Str):Bool:=kindB sc x .globalImplicit&&!(x==("__debug__":Str))
theorem bh(h:xW X.env.scope x=true):Gl X x/\(x==("__debug__":Str))=false:=by unfold xW at h;rw[aat]at h;exact⟨aF h.1,by simpa using h.2⟩
def qh(t:Tb)(sc:Scope)(x y:Str):Bool:=sEq x y&&xW sc x&&t.nog x
theorem blB_ok(c:Cy t C X)(h:qh t X.env.scope x y=true):x=y/\Gl X y/\X.mg y=none:=by unfold qh at h;simp only[aat]at h;obtain⟨⟨d,b⟩,a⟩:=h;have:=aS d;subst this;exact⟨rfl,(bh b).1,c.hng _ a⟩
def GC(o:Bo)(a:Operator):Bool:=decide (a=opOf o)
theorem sY(h:GC o op=true):op=opOf o:=Daa h
def E4(o:Co)(a:CmpOp):Bool:=decide (a=coOf o)
theorem gF(h:E4 o op=true):op=coOf o:=Daa h
def isSet:Expr->Bool
 |.Set _ _ _=>true
 |_=>false
theorem bV(a:CmpOp)(h:isSet e=false):behindInMarks a e=false:=by cases e<;>first|rfl|cases h
theorem gG(h:isSet e=false):∀x,foldedSetIterable e env x=pure x:=by cases e<;>first|(intro _;rfl)|cases h
def Av:UnaryOp->Bool|.USub=>true|_=>false
theorem nG{o:UnaryOp}(h:Av o=true):o=.USub:=by cases o<;>first|rfl|cases h
def G8(k:Int)(e:Expr):Bool:=((ny e).any λj=>decide (j=k))||(sQ e).any λz=>Av z.1&&(ny z.2).any λj=>decide (-j=k)
theorem Ef{j:Nat}{p a:Pos}:PX X (.UnaryOp .USub (.Constant (.int k) j p) a) (λ_=>some (.int (-k))):=⟨_,xD qu iN,λb H Q v e q=>by cases e;exact⟨k,rfl,q⟩⟩
theorem sZ(h:G8 k e=true):PX X e (λ_=>some (.int k))/\be e=false:=by
 rcases Bool.or_eq_true_iff.mp h with h|h
 ·obtain⟨j,a,h⟩:=anyT h;obtain⟨_,_,rfl⟩:=asInt_ok a;have:=Daa h;subst this;exact⟨DH,rfl⟩
 ·obtain⟨z,a,h⟩:=anyT h;obtain⟨p,rfl⟩:=ni a;obtain⟨j,d,c⟩:=anyT (an2 h).2;obtain⟨_,_,b⟩:=asInt_ok d;have:=Daa c;subst this;rw[nG (an2 h).1,b];exact⟨Ef,rfl⟩
def fL(t:Tb)(N:List Str)(sc:Scope)(i:Nat):List Acc->Expr->Bool
 |[]=>λe=>Ee N sc i e
 |.ix k::ps=>λe=>(cf e).any λz=>G8 k z.2&&fL t N sc i ps z.1
 |.key j::ps=>λe=>(cf e).any λz=>Ee N sc j z.2&&fL t N sc i ps z.1
theorem xX(h:Ee X.N X.env.scope j e=true):PX X e (λσ=>σ[j]?.join)/\be e=false:=by obtain⟨x,p,rfl,h⟩:=lK h;obtain⟨c,b,a,d⟩:=bU h;exact⟨Gn c b a d,rfl⟩
theorem Eg(h:be e=false):NoSl e:=by cases e<;>first|exact λ_ _=>rfl|cases h
theorem cz(c:Cy t C X):∀(ps:List Acc) (e:Expr),fL t X.N X.env.scope i ps e=true->PDp X e i ps
 |[],e,h=>by obtain⟨x,p,rfl,h⟩:=lK h;obtain⟨b,g,f,l⟩:=bU h;exact Gp b g f l
 |.ix k::ps,e,h=>by obtain⟨z,b,k⟩:=anyT h;obtain⟨a,d⟩:=an2 k;obtain⟨p,rfl⟩:=aW b;exact Gq (jd (sZ (X:=X) a).2) (cz c ps _ d) (sZ a).1
 |.key j::ps,e,h=>by obtain⟨z,b,k⟩:=anyT h;obtain⟨a,d⟩:=an2 k;obtain⟨p,rfl⟩:=aW b;exact DL (by have:=c.units;omega) (Eg (xX a).2) (cz c ps _ d) (xX a).1
def hJ(a:Nat->Bool)(N:List Str)(sc:Scope)(fn:Bool)(m i:Nat)(x:Str):Bool:=decide (N[i]?=some x)&&wx sc x&&(fn||kindB sc x .local)&&decide (i<m)&&a i
def s8(a:Nat->Bool)(N:List Str)(sc:Scope)(fn:Bool)(m:Nat):List Nat->List Expr->Bool
 |[]=>λes=>es.isEmpty
 |i::is=>λes=>(pV es).any λz=>(aV z.1).any λx=>hJ a N sc fn m i x&&s8 a N sc fn m is z.2
def wz(e:PySem.Expr):Option Expr:=if h:e.ctorIdx=22 then some (@PySem.Expr.Starred.elim (λ_=>Expr) e h λv p=>v) else none
theorem wA{e z:PySem.Expr}(h:wz e=some z):∃p,e=.Starred z p:=by
 by_cases a:e.ctorIdx=22
 ·revert h;exact@PySem.Expr.Starred.elim (λe=>wz e=some z->∃p,e=.Starred z p) e a λv p h=>by cases h;exact⟨p,rfl⟩
 ·rw[wz,dif_neg a]at h;cases h
def s9(c:Nat->Bool)(N:List Str)(sc:Scope)(fn:Bool)(m:Nat):Tg->Expr->Bool
 |.nm i=>λe=>(aV e).any λx=>hJ c N sc fn m i x
 |.tp ts=>λe=>(bQ e).any λes=>s8 c N sc fn m ts es
 |.st i j=>λe=>(bQ e).any λes=>(eQ es).any λw=>(aV w.1).any λx=>(wz w.2).any λu=>(aV u).any λy=>hJ c N sc fn m i x&&hJ c N sc fn m j y
 |.sv i j k=>λe=>(bQ e).any λes=>(eQ es).any λw=>(cf w.1).any λu=>(cf w.2).any λv=>(aV u.1).any λx=>(aV v.1).any λy=>(aV u.2).any λa=>(aV v.2).any λb=>decide (x=y)&&sX N sc j a&&sX N sc k b&&sX N sc i x&&decide (i<m)
theorem bR{i:Nat}{x:Str}(c:fn=true->∀x,X.fn x=true)(d:∀i,ok i=true->¬ W i)(h:hJ ok X.N X.env.scope fn m i x=true):Sto X W m i x:=by unfold hJ at h;simp only[aat,abb]at h;obtain⟨⟨⟨⟨f,b⟩,a⟩,g⟩,e⟩:=h;exact⟨Daa f,nF b,a.imp (λz=>c z x) aF,Daa g,d i e⟩
theorem kf(a:fn=true->∀x,X.fn x=true)(b:∀i,ok i=true->¬ W i):∀(c:List Nat) (es:List Expr),s8 ok X.N X.env.scope fn m c es=true->Stos X W m c es
 |[],es,h=>by
  cases es with
  |nil=>exact .nil
  |cons _ _=>cases h
 |i::is,es,h=>by obtain⟨z,x,f,e,k⟩:=ay2 h;obtain⟨p,d⟩:=asNm_ok e;rw[con1_ok f,d];exact .cons (bR a b (an2 k).1) (kf a b is _ (an2 k).2)
theorem dY{t:Tg}{e:Expr}(q:X.calm=true)(r:X.N.Nodup)(f:fn=true->∀x,X.fn x=true)(g:∀i,ok i=true->¬ W i)(h:s9 ok X.N X.env.scope fn m t e=true):PDg X W m e (dA t):=by
 cases t with
 |nm i=>obtain⟨x,d,k⟩:=anyT h;obtain⟨p,rfl⟩:=asNm_ok d;exact Gi r (bR f g k)
 |tp ts=>obtain⟨C,d,k⟩:=anyT h;obtain⟨_,_,rfl⟩:=asTup_ok d;exact Gj q r (kf f g _ _ k)
 |st i j=>obtain⟨C,w,x,u,y,d,o,z,B,s,c⟩:=ay5 h;obtain⟨_,_,rfl⟩:=asTup_ok d;obtain⟨_,n⟩:=asNm_ok z;obtain⟨_,A⟩:=wA B;obtain⟨_,l⟩:=asNm_ok s;rw[two2_ok o,n,A,l];exact Gx q r (bR f g (an2 c).1) (bR f g (an2 c).2)
 |sv i j k=>obtain⟨C,w,u,v,x,d,o,z,B,s,c⟩:=ay5 h;obtain⟨y,a,b,D,U,O,c⟩:=ay3 c;obtain⟨c,c5⟩:=an2 c;obtain⟨c,c4⟩:=an2 c;obtain⟨c,S⟩:=an2 c;obtain⟨Z,Y⟩:=an2 c;obtain⟨_,_,rfl⟩:=asTup_ok d;obtain⟨_,n⟩:=aW z;obtain⟨_,A⟩:=aW B;obtain⟨_,l⟩:=asNm_ok s;obtain⟨_,e6⟩:=asNm_ok D;obtain⟨_,P⟩:=asNm_ok U;obtain⟨_,M⟩:=asNm_ok O;obtain⟨n1,T,G,n4⟩:=bU c4;obtain⟨L,J,F,m4⟩:=bU Y;obtain⟨l1,Q,I,H⟩:=bU S;rw[two2_ok o,n,A,l,e6,P,M,<-Daa Z];exact Gw q n1 T G n4 (Daa c5) L J F m4 l1 Q I H
def pW(sc a:Scope):Scope:={ sc with names:=sc.names.map λ(n,k)=>if (k==NameKind.free&&a.kind==.function&&a.names.lookup n==some .cell) then (n,NameKind.cell) else (n,k) }
def Eh:Expr->List Str
 |.Name x _=>[x]
 |.Tuple [.Name x _,.Tuple es _ _] _ _=>x::es.filterMap fun|.Name x _=>some x|_=>none
 |.Tuple es _ _=>es.filterMap fun|.Name x _=>some x|_=>none
 |_=>[]
def tf(N:List Str)(nt:Nat)(b:List Str)(sc a:Scope):Nat->List Nat->Bool
 |_,[]=>true
 |i,j::fr=>(match N[nt+i]? with
  |some x=>decide (b[j]?=some x)&&kindB a x .cell&&kindB sc x .free
  |none=>false)&&tf N nt b sc a (i+1) fr
def nI(N:List Str)(nt:Nat)(fr:List Nat)(b:List Str)(sc a:Scope):Bool:=
 decide (sc.kind=.function)&&sc.names.all (λx=>!decide (x.2=.cell))&&sc.names.all (λx=>!decide (x.2=.local)||kindB sc x.1 .local)&&decide (N.length=nt+fr.length)&&tf N nt b sc a 0 fr &&
  sc.names.all (λx=>!decide (x.2=.free)||(kindB a x.1 .cell&&kindB sc x.1 .free))
theorem nJ:∀{fr:List Nat}{a:Nat},tf N nt ON sc osc a fr=true->∀(i j:Nat),fr[i]?=some j->∃x,N[nt+(a+i)]?=some x/\ON[j]?=some x/\osc.names.lookup x=some .cell/\sc.names.lookup x=some .free
 |[],_,_,i,j,e=>by simp at e
 |j0::fr,a,h,0,j,e=>by
  simp at e;subst e;simp only[tf,aat]at h;obtain⟨h,_⟩:=h;split at h
  ·rename_i x c;simp only[aat]at h;exact⟨x,c,Daa h.1.1,aF h.1.2,aF h.2⟩
  ·cases h
 |j0::fr,a,h,i+1,j,e=>by simp only[tf,aat]at h;obtain⟨x,d,b⟩:=nJ h.2 i j (by simpa using e);exact⟨x,by rw[show a+(i+1)=a+1+i by omega];exact d,b⟩
theorem dZ(h:nI N nt fr ON sc osc=true):CompScope N nt fr ON sc osc:=by
 unfold nI at h;simp only[aat,aa4,abb,aba,decide_eq_false_iff_not,decide_eq_true_eq]at h;obtain⟨⟨⟨⟨⟨g,d⟩,c⟩,k⟩,f⟩,b⟩:=h;refine⟨g,λx a=>d x a,λx a e=>?_,k,λi j e=>?_,λx a e=>?_,λx a e=>?_⟩
 ·exact(c x a).elim (λz=>absurd e z) aF
 ·have:=nJ f i j e;rwa [aa3]at this
 ·exact(b x a).elim (λz=>absurd e z) λz=>aF z.1
 ·exact(b x a).elim (λz=>absurd e z) λz=>aF z.2
end
section
abbrev Ck:=List Str->Scope->Expr->Bool
def cX(f:Ck):Ck×Ck:=(f,λN a e=>plainT e&&f N a e)
def HV:Bn->Str
 |.list=>"list" |.tuple=>"tuple"
def HW:Knd->Str
 |.int=>"int" |.bool=>"bool" |.str=>"str" |.list=>"list" |.tuple=>"tuple" |.seq=>"list"
def wB(e:Expr):Option (Str×List Expr):=(cK e).bind λz=>(aV z.1).bind λx=>if z.2.2.1.isEmpty then some (x,z.2.1) else none
theorem jh{z}(h:wB e=some z):∃p a,e=.Call (.Name z.1 p) z.2 [] a:=by
 obtain⟨c,x,g,d,h⟩:=bn2 h;obtain⟨f,i,b,a⟩:=c;cases b with
 |cons _ _=>cases h
 |nil=>cases h;obtain⟨p,rfl⟩:=asNm_ok d;exact⟨p,a,cg g⟩
def GD:List Keyword->Option (Str×Expr)
 |[⟨some k,v,_⟩]=>some (k,v)
 |_=>none
theorem kw1_ok{ks:List Keyword}{z}(h:GD ks=some z):∃p,ks=[⟨some z.1,z.2,p⟩]:=by
 unfold GD at h;split at h
 ·cases h;exact⟨_,rfl⟩
 ·cases h
def Ei(e:Expr):Option (Str×List Expr×Str×Expr):=(cK e).bind λz=>(aV z.1).bind λx=>(GD z.2.2.1).bind λk=>some (x,z.2.1,k)
theorem wC{e:Expr}{z}(h:Ei e=some z):∃p j a,e=.Call (.Name z.1 p) z.2.1 [⟨some z.2.2.1,z.2.2.2,a⟩] j:=by obtain⟨c,x,k,l,i,g,h⟩:=bn3 h;cases h;obtain⟨p,d⟩:=asNm_ok i;obtain⟨a,f⟩:=kw1_ok g;have b:=cg l;rw[d,f]at b;exact⟨p,_,a,b⟩
def Aw(e:Expr):Option (Expr×CmpOp×Expr):=(kc e).bind λz=>(dq z.2.1).bind λo=>(dq z.2.2).bind λy=>some (z.1,o,y)
theorem ji{z}(h:Aw e=some z):∃p,e=.Compare z.1 [z.2.1] [z.2.2] p:=by obtain⟨c,o,y,g,f,d,h⟩:=bn3 h;cases h;obtain⟨x,j,i⟩:=c;obtain⟨p,rfl⟩:=asCmp_ok g;have b:=one1_ok f;have a:=one1_ok d;simp only at b a;subst b a;exact⟨p,rfl⟩
def cmp2(e:Expr):Option (Expr×(CmpOp×CmpOp)×(Expr×Expr)):=(kc e).bind λz=>(eQ z.2.1).bind λo=>(eQ z.2.2).bind λy=>some (z.1,o,y)
theorem nK{z}(h:cmp2 e=some z):∃p,e=.Compare z.1 [z.2.1.1,z.2.1.2] [z.2.2.1,z.2.2.2] p:=by obtain⟨c,o,y,g,f,d,h⟩:=bn3 h;cases h;obtain⟨x,j,i⟩:=c;obtain⟨p,rfl⟩:=asCmp_ok g;have b:=two2_ok f;have a:=two2_ok d;simp only at b a;subst b a;exact⟨p,rfl⟩
def Ej(neg:Bool):CmpOp->Bool
 |.Is=>!neg|.IsNot=>neg|_=>false
theorem nL(h:Ej neg o=true):o=if neg then .IsNot else .Is:=by cases o<;>cases neg<;>first|rfl|cases h
def Ax:BoolOp->Bool|.And=>true|_=>false
theorem nM(h:Ax o=true):o=.And:=by cases o<;>first|rfl|cases h
def GE:BoolOp->Bool|.Or=>true|_=>false
theorem tj(h:GE o=true):o=.Or:=by cases o<;>first|rfl|cases h
def Ay:UnaryOp->Bool|.Not=>true|_=>false
theorem nN(h:Ay o=true):o=.Not:=by cases o<;>first|rfl|cases h
def tm:Operator->Bool|.Add=>true|_=>false
theorem fQ(h:tm o=true):o=.Add:=by cases o<;>first|rfl|cases h
def tq(e:Expr):Option (Expr×Option Expr×Option Expr):=(cf e).bind λz=>(nq z.2).bind λs=>if s.2.2.isNone then some (z.1,s.1,s.2.1) else none
theorem kh{z}(h:tq e=some z):∃p a,e=.Subscript z.1 (.Slice z.2.1 z.2.2 none p) a:=by
 obtain⟨c,s,g,d,h⟩:=bn2 h;obtain⟨x,y⟩:=c;obtain⟨l,i,f⟩:=s;cases f with
 |some _=>cases h
 |none=>cases h;obtain⟨a,rfl⟩:=aW g;obtain⟨p,b⟩:=sS d;simp only at b;subst b;exact⟨p,a,rfl⟩
def Ek(e:Expr):Option (Expr×Str×List Expr×Pos×Pos):=(cK e).bind λz=>(iu z.1).bind λa=>(gd (ir a.1=true/\z.2.2.1.isEmpty=true)).bind λ_=>some (a.1,a.2.1,z.2.1,a.2.2,z.2.2.2)
theorem jk{e:Expr}{z}(h:Ek e=some z):ir z.1=true/\e=.Call (.Attribute z.1 z.2.1 z.2.2.2.1) z.2.2.1 [] z.2.2.2.2:=by
 obtain⟨c,a,_,l,k,n,h⟩:=bn3 h;obtain⟨i,g⟩:=gd_ok n;obtain⟨f,p,j,r⟩:=c;obtain⟨o,m,q⟩:=a;have b:=asAtt_ok k;have d:=cg l;simp only at d b i g;cases j with
 |cons _ _=>cases g
 |nil=>cases h;exact⟨i,by rw[d,b]⟩
def GF:O2->Str
 |.sws=>"startswith" |.ews=>"endswith" |.six=>"index" |_=>""
def El(e:Expr):Option (Str×Str×List Expr×Pos×Pos):=(cK e).bind λz=>(iu z.1).bind λa=>(aV a.1).bind λx=>if z.2.2.1.isEmpty then some (x,a.2.1,z.2.1,a.2.2,z.2.2.2) else none
theorem wD{z}(h:El e=some z):∃p,e=.Call (.Attribute (.Name z.1 p) z.2.1 z.2.2.2.1) z.2.2.1 [] z.2.2.2.2:=by
 obtain⟨c,a,x,k,j,g,h⟩:=bn3 h;obtain⟨f,l,i,n⟩:=c;obtain⟨o,m,q⟩:=a;cases i with
 |cons _ _=>cases h
 |nil=>cases h;obtain⟨p,d⟩:=asNm_ok g;have b:=asAtt_ok j;simp only at b d;subst d;subst b;exact⟨p,cg k⟩
def xY(e:Expr):Option (Expr×Expr×Expr×List Expr×Scope×Pos):=(lJ e).bind λz=>(dq z.2.1).bind λg=>if g.is_async=0 then some (z.1,g.target,g.iter,g.ifs,z.2.2.1,z.2.2.2) else none
theorem ki{z}(h:xY e=some z):e=.ListComp z.1 [⟨z.2.1,z.2.2.1,z.2.2.2.1,0⟩] z.2.2.2.2.1 z.2.2.2.2.2:=by
 obtain⟨c,g,i,d,h⟩:=bn2 h;obtain⟨x,j,k,p⟩:=c;obtain⟨l,m,n,f⟩:=g;simp only at h;by_cases a:f=0
 ·subst a;rw[if_pos rfl]at h;cases h;have b:=one1_ok d;simp only at b;subst b;exact nv i
 ·rw[if_neg a]at h;cases h
end
section
def wF(e:PySem.Expr):Option (List Expr):=if h:e.ctorIdx=18 then some (@PySem.Expr.JoinedStr.elim (λ_=>List Expr) e h λa _=>a) else none
theorem asJs_ok{e:PySem.Expr}{z:List Expr}(h:wF e=some z):∃p,e=.JoinedStr z p:=by
 by_cases a:e.ctorIdx=18
 ·revert h;exact@PySem.Expr.JoinedStr.elim (λe=>wF e=some z->∃p,e=.JoinedStr z p) e a λb p h=>by cases h;exact⟨p,rfl⟩
 ·rw[wF,dif_neg a]at h;cases h
def wG(e:PySem.Expr):Option (Expr×Int×Option Expr):=if h:e.ctorIdx=17 then some (@PySem.Expr.FormattedValue.elim (λ_=>Expr×Int×Option Expr) e h λx c s _=>(x,c,s)) else none
theorem wH{e:PySem.Expr}{z:Expr×Int×Option Expr}(h:wG e=some z):∃p,e=.FormattedValue z.1 z.2.1 z.2.2 p:=by
 by_cases a:e.ctorIdx=17
 ·revert h;exact@PySem.Expr.FormattedValue.elim (λe=>wG e=some z->∃p,e=.FormattedValue z.1 z.2.1 z.2.2 p) e a λx c s p h=>by cases h;exact⟨p,rfl⟩
 ·rw[wG,dif_neg a]at h;cases h
def xZ(e:Expr):Option (Expr×Str):=(wF e).bind λa=>(eQ a).bind λw=>(wG w.1).bind λf=>(sU w.2).bind λz=>if f.2.1=-1/\f.2.2.isNone=true then some (f.1,z) else none
theorem tu{e:Expr}{w:Expr×Str}(h:xZ e=some w):∃c j p2 p,e=.JoinedStr [.FormattedValue w.1 (-1) none c,.Constant (.str w.2) j p2] p:=by
 obtain⟨q,v,f,l,i,m,h⟩:=bn3 h;obtain⟨z,o,b⟩:=bnd h;by_cases a:f.2.1=-1/\f.2.2.isNone=true
 ·rw[if_pos a]at b;obtain⟨p,k⟩:=asJs_ok l;have d:=two2_ok i;obtain⟨c,g⟩:=wH m;obtain⟨j,p2,n⟩:=asStr_ok o;cases b;rw[k,d,g,n,a.1,Option.isNone_iff_eq_none.mp a.2];exact⟨c,j,p2,p,rfl⟩
 ·rw[if_neg a]at b;cases b
def wI(e:PySem.Expr):Option (Expr×List Comprehension×Scope×Pos):=if h:e.ctorIdx=9 then some (@PySem.Expr.SetComp.elim (λ_=>Expr×List Comprehension×Scope×Pos) e h λx a s p=>(x,a,s,p)) else none
theorem wJ{e:PySem.Expr}{z:Expr×List Comprehension×Scope×Pos}(h:wI e=some z):e=.SetComp z.1 z.2.1 z.2.2.1 z.2.2.2:=by
 by_cases a:e.ctorIdx=9
 ·revert h;exact@PySem.Expr.SetComp.elim (λe=>wI e=some z->e=.SetComp z.1 z.2.1 z.2.2.1 z.2.2.2) e a λx b s p h=>by cases h;exact rfl
 ·rw[wI,dif_neg a]at h;cases h
def x9(e:Expr):Option (Expr×Expr×Expr×List Expr×Scope×Pos):=(wI e).bind λz=>(dq z.2.1).bind λg=>if g.is_async=0 then some (z.1,g.target,g.iter,g.ifs,z.2.2.1,z.2.2.2) else none
theorem tz{e:Expr}{z}(h:x9 e=some z):e=.SetComp z.1 [⟨z.2.1,z.2.2.1,z.2.2.2.1,0⟩] z.2.2.2.2.1 z.2.2.2.2.2:=by
 obtain⟨c,g,f,b,h⟩:=bn2 h;obtain⟨x,i,j,p⟩:=c;obtain⟨k,l,m,d⟩:=g;simp only at h;by_cases a:d=0
 ·subst a;rw[if_pos rfl]at h;cases h;rw[wJ f,one1_ok b]
 ·rw[if_neg a]at h;cases h
end
section
section
variable(t:Tb)
def cY(o:Co)(f g:Ck):Ck:=λN a e=>(Aw e).any λz=>E4 o z.2.1&&!isSet z.2.2&&f N a z.1&&g N a z.2.2
def tD(o o':Co)(f g k:Ck):Ck:=λN a e=>(cmp2 e).any λz=>E4 o z.2.1.1&&E4 o' z.2.1.2&&!isSet z.2.2.2&&(f N a z.1&&g N a z.2.2.1&&k N a z.2.2.2)
def ya(neg:Bool)(f:Ck):Ck:=λN a e=>(Aw e).any λz=>Ej neg z.2.1&&sV z.2.2&&f N a z.1
def tE(b:BoolOp->Bool)(f g:Ck):Ck:=λN a e=>(wo e).any λz=>b z.1&&((pV z.2.1).any λx=>(pV x.2).any λy=>f N a x.1&&bif y.2.isEmpty then g N a y.1 else g N a (.BoolOp z.1 x.2 z.2.2))
def wK(b:UnaryOp->Bool)(f:Ck):Ck:=λN a e=>(sQ e).any λz=>b z.1&&f N a z.2
def kj(b:Operator->Bool)(f g:Ck):Ck:=λN a e=>(nh e).any λz=>b z.2.1&&f N a z.1&&g N a z.2.2
def jl(p:Str->Bool)(f:List Str->Scope->List Expr->Bool):Ck:=λN a e=>(wB e).any λz=>p z.1&&xW a z.1&&!z.2.isEmpty&&!z.2.any isStar&&f N a z.2
def eU(p:Str)(f:Ck):Ck:=λN a e=>(wB e).any λz=>(dq z.2).any λx=>qh t a z.1 p&&!isStar x&&f N a x
def jm(p:Str)(f g:Ck):Ck:=λN a e=>(wB e).any λz=>(eQ z.2).any λx=>qh t a z.1 p&&!isStar x.1&&!isStar x.2&&f N a x.1&&g N a x.2
def Em(k:Knd):Ck:=λN a e=>match k with
 |.seq=>(bQ e).any λz=>(eQ z).any λw=>((aV w.1).any λu=>qh t a u "list")&&(aV w.2).any λv=>qh t a v "tuple"
 |k=>(aV e).any λu=>qh t a u (HW k)
def wL(m:Str)(f g:Ck):Ck:=λN a e=>(Ek e).any λz=>(dq z.2.2.1).any λy=>sEq z.2.1 m&&(z.2.2.2.1.endLine==z.2.2.2.2.line)&&!isStar y&&f N a z.1&&g N a y
def GG(o:O2)(f g:Ck):Ck:=match o with
 |.ixs=>λN a e=>(cf e).any λz=>!be z.2&&f N a z.1&&g N a z.2
 |.cts=>kj tm f g
 |.tin=>cY .inn f g
 |.tni=>cY .nin f g
 |o=>wL (GF o) f g
def Az(x:Str)(kvs:List (Str×Str)):Ck:=λN a e=>(aV e).any λy=>sEq y x&&xW a x&&t.kd x kvs
def yb(neg:Bool)(x:Str)(kvs:List (Str×Str))(f:Ck):Ck:=cY (if neg then .nin else .inn) f (Az t x kvs)
mutual
def aE:E->Ck×Ck
 |.nm i=>cX λN sc e=>Ee N sc i e
 |.int k=>cX λN sc e=>(ny e).any λj=>decide (j=k)
 |.str k=>cX λN sc e=>(sU e).any λj=>sEq j k
 |.bl k=>cX λN sc e=>(Ed e).any λj=>decide (j=k)
 |.non=>cX λN sc e=>sV e
 |.gc g=>cX λN sc e=>(aV e).any λx=>decide (t.gc g=some x)&&xW sc x
 |.bop o a b=>cX (kj (GC o) (aE a).1 (aE b).1)
 |.cat a b=>cX (kj tm (aE a).1 (aE b).1)
 |.catT a b=>cX (kj tm (aE a).1 (aE b).1)
 |.cmp o a b=>(cY o (aE a).1 (aE b).1,cY o (aE a).1 (aE b).1)
 |.cmp2 o o' a b c=>(tD o o' (aE a).1 (aE b).1 (aE c).1,tD o o' (aE a).1 (aE b).1 (aE c).1)
 |.isn neg a=>(ya neg (aE a).1,ya neg (aE a).1)
 |.and a b=>(tE Ax (aE a).1 (aE b).1,tE Ax (aE a).2 (aE b).2)
 |.or a b=>(tE GE (aE a).1 (aE b).1,tE GE (aE a).2 (aE b).2)
 |.not a=>(wK Ay (aE a).1,wK Ay (aE a).2)
 |.neg a=>cX (wK Av (aE a).1)
 |.ife c a b=>cX λN sc e=>(wt e).any λz=>(aE c).2 N sc z.1&&(aE a).1 N sc z.2.1&&(aE b).1 N sc z.2.2
 |.tup es=>cX λN sc e=>(bQ e).any λxs=>gH es N sc xs
 |.lst es=>cX λN sc e=>(nj e).any λxs=>gH es N sc xs
 |.ix a b=>cX λN sc e=>(cf e).any λz=>!be z.2&&(aE a).1 N sc z.1&&(aE b).1 N sc z.2
 |.slt a lo hi=>cX λN sc e=>(tq e).any λz=>(aE a).1 N sc z.1&&tF lo N sc z.2.1&&tF hi N sc z.2.2
 |.call f es=>cX (jl (λx=>decide (t.fn f=some x)) (gH es))
 |.callS f es=>cX (jl (λx=>decide (t.fn f=some x)) (gH es))
 |.blt f es=>cX (jl (λx=>sEq x (Ae f)&&t.nog x) (gH es))
 |.bnw f a=>cX (eU t (HV f) (aE a).1)
 |.isi k a=>cX (jm t "isinstance" (aE a).1 (Em t k))
 |.op2 o a b=>cX (GG o (aE a).1 (aE b).1)
 |.sls a lo hi=>cX λN sc e=>(tq e).any λz=>(aE a).1 N sc z.1&&tF lo N sc z.2.1&&tF hi N sc z.2.2
 |.spl a b=>cX (wL "split" (aE a).1 (aE b).1)
 |.lns a=>cX (eU t "len" (aE a).1)
 |.joi a b=>cX (wL "join" (aE a).1 (aE b).1)
 |.ist a=>cX (eU t "int" (aE a).1)
 |.fst a z=>cX λN sc e=>(xZ e).any λw=>sEq w.2 z&&(aE a).1 N sc w.1
 |.kin neg x kvs a=>(yb t neg x kvs (aE a).1,yb t neg x kvs (aE a).1)
 |.kgt x kvs a=>cX λN sc e=>(cf e).any λz=>(aV z.1).any λy=>sEq y x&&xW sc x&&t.kd x kvs&&!be z.2&&(aE a).1 N sc z.2
 |.sht a=>cX (eU t "str" (aE a).1)
 |.dnew=>cX λN sc e=>xV e
 |.pg i ps=>cX λN sc e=>fL t N sc i ps e
 |.din neg a i ps=>(cY (if neg then .nin else .inn) (aE a).1 λN sc e=>fL t N sc i ps e,cY (if neg then .nin else .inn) (aE a).1 λN sc e=>fL t N sc i ps e)
 |.sin neg a i ps=>(cY (if neg then .nin else .inn) (aE a).1 λN sc e=>fL t N sc i ps e,cY (if neg then .nin else .inn) (aE a).1 λN sc e=>fL t N sc i ps e)
 |.comp nt fr it tg ifs elt=>cX λN sc e=>(xY e).any λz=>(λd=>nI d nt fr N z.2.2.2.2.1 sc&&decide d.Nodup&&!isSet z.2.2.1&&wM it N sc z.2.1 z.2.2.1&&(s9 (λ_=>true) d (pW z.2.2.2.2.1 sc) false nt tg z.2.1&&AA ifs d (pW z.2.2.2.2.1 sc) z.2.2.2.1&&(aE elt).1 d (pW z.2.2.2.2.1 sc) z.1)) (Eh z.2.1++fr.filterMap λj=>N[j]?)
def gH:Es->List Str->Scope->List Expr->Bool
 |.nil=>λN sc xs=>xs.isEmpty
 |.cons a es=>λN sc xs=>(pV xs).any λz=>!isStar z.1&&(aE a).1 N sc z.1&&gH es N sc z.2
def tF:Eo->List Str->Scope->Option Expr->Bool
 |.none=>λN sc o=>o.isNone
 |.some a=>λN sc o=>o.any λx=>(aE a).1 N sc x
def AA:Eo->List Str->Scope->List Expr->Bool
 |.none=>λN sc o=>o.isEmpty
 |.some a=>λN sc o=>(dq o).any λx=>(aE a).2 N sc x
def wM:It'->List Str->Scope->Expr->Expr->Bool
 |.seq a=>λN sc g e=>(aE a).1 N sc e
 |.rg1 a=>λN sc g e=>eU t "range" (aE a).1 N sc e
 |.sqs a=>λN sc g e=>(aE a).1 N sc e
 |.enk a b=>λN sc g e=>isTup g&&(Ei e).any λz=>(dq z.2.1).any λx=>qh t sc z.1 "enumerate" && !isStar x&&(aE a).1 N sc x&&sEq z.2.2.1 "start" && (aE b).1 N sc z.2.2.2
 |.zps a b=>λN sc g e=>isTup g&&jm t "zip" (aE a).1 (aE b).1 N sc e
 |.zip a b=>λN sc g e=>isTup g&&jm t "zip" (aE a).1 (aE b).1 N sc e
end
end
def wN:Expr->Bool
 |.BoolOp _ _ _=>true
 |_=>false
structure EOk (t:Tb)(C:Ct)(m:E):Prop where
 v:∀X e,Cy t C X->(aE t m).1 X.N X.env.scope e=true->PDe X e (ak C m)
 w:∀X e,Cy t C X->wN e=true->(aE t m).2 X.N X.env.scope e=true->PDw X e (eS C m)
 t:∀X e,Cy t C X->(aE t m).2 X.N X.env.scope e=true->PDt X e (eS C m)
theorem nO(h:wN e=true):∃o xs p,e=.BoolOp o xs p:=by cases e<;>first|exact⟨_,_,_,rfl⟩|cases h
theorem ax(b:(aE t m).2=λN sc e=>plainT e&&(aE t m).1 N sc e)(f:aZ C m=(vt (ev C m)).2)(a:∀X e,Cy t C X->(aE t m).1 X.N X.env.scope e=true->PDe X e (ak C m)):EOk t C m:=
 ⟨a,λX e c d h=>by
  rw[b]at h;obtain⟨o,g,p,rfl⟩:=nO d;exact absurd h aak,
  λX e c h=>by
  rw[b]at h;exact Di f (an2 h).1 (a X e c (an2 h).2)⟩
theorem dD(f:∀(X:Cx) e,wN e=true->(aE t m).2 X.N X.env.scope e=false)(d:∀X e,Cy t C X->(aE t m).1 X.N X.env.scope e=true->PDe X e (ak C m))(b:∀X e,Cy t C X->(aE t m).2 X.N X.env.scope e=true->PDt X e (eS C m)):EOk t C m:=
 ⟨d,λX e c a h=>absurd h (by rw[f X e a];exact aak),b⟩
theorem lL{f:Ck}(a:wN e=true)(h:∀o xs p,f N sc (.BoolOp o xs p)=false):f N sc e=false:=by obtain⟨o,xs,p,rfl⟩:=nO a;exact h o xs p
theorem ckBin_ok(h:kj b f g N sc e=true):∃x o y p,e=.BinOp x o y p/\b o=true/\f N sc x=true/\g N sc y=true:=by obtain⟨z,a,h⟩:=anyT h;obtain⟨p,rfl⟩:=sP a;exact⟨_,_,_,p,rfl,an3 h⟩
theorem ckUn_ok(h:wK b f N sc e=true):∃o x p,e=.UnaryOp o x p/\b o=true/\f N sc x=true:=by obtain⟨z,a,h⟩:=anyT h;obtain⟨p,rfl⟩:=ni a;exact⟨_,_,p,rfl,an2 h⟩
theorem aX(h:cY o f g N sc e=true):∃x y p,e=.Compare x [coOf o] [y] p/\isSet y=false/\f N sc x=true/\g N sc y=true:=by obtain⟨z,a,h⟩:=anyT h;obtain⟨p,rfl⟩:=ji a;obtain⟨a,c,b,d⟩:=an4 h;exact⟨_,_,p,by rw[gF a],bz c,b,d⟩
theorem eV(h:jl p f N sc e=true):∃x z zs q a,e=.Call (.Name x q) (z::zs) [] a/\p x=true/\xW sc x=true/\isStar z=false/\zs.any isStar=false/\f N sc (z::zs)=true:=by
 obtain⟨z,b,h⟩:=anyT h;obtain⟨q,a,rfl⟩:=jh b;obtain⟨b,d,c,k,j⟩:=nz h;obtain⟨x,i⟩:=z;cases i with
 |nil=>cases c
 |cons y g=>have:=bz k;rw[aaP,ab6]at this;exact⟨x,y,g,q,a,rfl,b,d,this.1,this.2,j⟩
theorem cj(h:eU t p f N sc e=true):∃x z q a,e=.Call (.Name x q) [z] [] a/\qh t sc x p=true/\isStar z=false/\f N sc z=true:=by obtain⟨z,w,c,b,h⟩:=ay2 h;obtain⟨q,a,rfl⟩:=jh c;obtain⟨x,g⟩:=z;have:=one1_ok b;simp only at this;subst this;obtain⟨c,b,d⟩:=an3 h;exact⟨x,w,q,a,rfl,c,bz b,d⟩
theorem eW(h:jm t p f g N sc e=true):∃x z w q a,e=.Call (.Name x q) [z,w] [] a/\qh t sc x p=true/\isStar z=false/\isStar w=false/\f N sc z=true/\g N sc w=true:=by obtain⟨z,w,c,b,h⟩:=ay2 h;obtain⟨q,a,rfl⟩:=jh c;obtain⟨x,k⟩:=z;have:=two2_ok b;simp only at this;subst this;obtain⟨c,b,d,j,i⟩:=nz h;exact⟨x,_,_,q,a,rfl,c,bz b,bz d,j,i⟩
theorem ckBo_ok(h:tE b f g N sc e=true):∃o x y es p,e=.BoolOp o (x::y::es) p/\b o=true/\f N sc x=true/\((es=[]/\g N sc y=true)\/g N sc (.BoolOp o (y::es) p)=true):=by
 obtain⟨z,m,h⟩:=anyT h;have:=wq m;subst this;obtain⟨d,h⟩:=an2 h;obtain⟨x,y,k,n,h⟩:=ay2 h;obtain⟨i,h⟩:=an2 h;obtain⟨o,q,p⟩:=z;obtain⟨x,l⟩:=x;obtain⟨y,es⟩:=y;have j:=con1_ok k;have c:=con1_ok n;simp only at j c;subst c;subst j;cases es with
 |nil=>exact⟨o,x,y,[],p,rfl,d,i,.inl ⟨rfl,h⟩⟩
 |cons a es=>exact⟨o,x,y,a::es,p,rfl,d,i,.inr h⟩
theorem AB(u:X.A.units+64<cLine)(J:lastMarks [coOf o,coOf o'] [b,c]=false)(N:PDe X a (ak C ma))(I:PDe X b (ak C mb))(P:PDe X c (ak C mc)):PDt X (.Compare a [coOf o,coOf o'] [b,c] pos) (eS C (.cmp2 o o' ma mb mc)):=by
 obtain⟨T,M,S⟩:=iq u o;obtain⟨L,g,f⟩:=iq u o';refine(pE M S g f J N I P).imp λv Q O=>?_;obtain⟨x,h,s,e,q⟩:=fP rfl (λv x h=>by
  obtain⟨m,D,w,p,k,n,i,j,F,l,h⟩:=bn5 h;cases k with
  |false=>rw[if_neg aak]at h;cases h;exact⟨_,rfl⟩
  |true=>
   rw[if_pos rfl]at h;obtain⟨y,d,H,B,z,t,r,G,h⟩:=bn4 h;cases h;exact⟨_,rfl⟩) v Q O
 obtain⟨m,D,w,p,k,n,i,j,F,l,h⟩:=bn5 h;refine⟨m,n,D,i,w,p,j,F,k,l,k,rfl,?_⟩;cases k with
 |false=>rw[if_neg aak]at h;cases h;rw[if_neg aak];exact⟨s,e,q⟩
 |true=>rw[if_pos rfl]at h ⊢;obtain⟨y,d,H,B,z,t,r,G,h⟩:=bn4 h;cases h;exact⟨y,z,d,H,t,r,B,G,s,e,q⟩
theorem lM(a:Gl X x) (e:X.mg x=none) (c:bootBuiltins x=some (.type T)) (b:x≠"__name__") (d:(x==("__debug__":Str))=false):PE X (.Name x p) (tC (.ty T)):=uR a e c rfl b d
theorem AC(c:Cy t C X) (D:qh t X.env.scope x "isinstance"=true) (f:isStar z=false) (e:Em t k X.N X.env.scope w=true) (j:PDe X z (ak C ma)):PDe X (.Call (.Name x q) [z,w] [] q') (ak C (.isi k ma)):=by
 obtain⟨G,g,i⟩:=blB_ok c D;subst G;have d:∀{T:Str},((aV w).any λu=>qh t X.env.scope u T)=true->∃p,w=.Name T p/\Gl X T/\X.mg T=none:=λ{T} h=>by obtain⟨u,n,m⟩:=anyT h;obtain⟨p,rfl⟩:=asNm_ok n;obtain⟨l,b,a⟩:=blB_ok c m;subst l;exact⟨p,rfl,b,a⟩
 cases k with
 |int=>obtain⟨p,rfl,b,a⟩:=d e;exact gz rfl (lM b a k7 (by decide) (by decide)) g i f rfl j
 |bool=>obtain⟨p,rfl,b,a⟩:=d e;exact gz rfl (lM b a vg (by decide) (by decide)) g i f rfl j
 |str=>obtain⟨p,rfl,b,a⟩:=d e;exact gz rfl (lM b a qX (by decide) (by decide)) g i f rfl j
 |list=>obtain⟨p,rfl,b,a⟩:=d e;exact gz rfl (lM b a iW (by decide) (by decide)) g i f rfl j
 |tuple=>obtain⟨p,rfl,b,a⟩:=d e;exact gz rfl (lM b a gb (by decide) (by decide)) g i f rfl j
 |seq=>obtain⟨P,L,n,m,e⟩:=ay2 e;obtain⟨y,B⟩:=an2 e;obtain⟨u,H,F⟩:=anyT y;obtain⟨v,I,M⟩:=anyT B;obtain⟨W,S,rfl⟩:=asTup_ok n;have:=two2_ok m;subst this;obtain⟨Y,U⟩:=L;obtain⟨O,o⟩:=asNm_ok H;obtain⟨Q,r⟩:=asNm_ok I;simp only at o r;subst o r;obtain⟨l,b,a⟩:=blB_ok c F;obtain⟨J,A,s⟩:=blB_ok c M;subst l J;exact Ag (lM b a iW (by decide) (by decide)) (lM A s gb (by decide) (by decide)) g i f rfl rfl j
mutual
theorem aJ:∀m:E,EOk t C m
 |.nm i=>ax rfl rfl λX e c h=>by obtain⟨x,p,rfl,h⟩:=lK h;obtain⟨l,s,r,A⟩:=bU h;exact Gd l s r A
 |.int k=>ax rfl rfl λX e c h=>by obtain⟨j,l,h⟩:=anyT h;obtain⟨_,_,rfl⟩:=asInt_ok l;have:=Daa h;subst this;exact C5
 |.str k=>ax rfl rfl λX e c h=>by obtain⟨j,l,h⟩:=anyT h;obtain⟨_,_,rfl⟩:=asStr_ok l;have:=aS h;subst this;exact C6
 |.bl k=>ax rfl rfl λX e c h=>by obtain⟨j,l,h⟩:=anyT h;obtain⟨_,_,rfl⟩:=asBl_ok l;have:=Daa h;subst this;exact Ge
 |.non=>ax rfl rfl λX e c h=>by obtain⟨_,_,rfl⟩:=gD h;exact C7
 |.gc g=>ax rfl rfl λX e c h=>by obtain⟨x,l,h⟩:=anyT h;obtain⟨_,rfl⟩:=asNm_ok l;obtain⟨v,u,T,L,M⟩:=c.hgc _ _ (Daa (an2 h).1);exact Gf (bh (an2 h).2).1 T L M (bh (an2 h).2).2
 |.bop o a b=>ax rfl rfl λX e c h=>by obtain⟨x,o',y,p,rfl,l,s,r⟩:=ckBin_ok h;have:=sY l;subst this;exact C1 ((aJ a).v X _ c s) ((aJ b).v X _ c r)
 |.cat a b=>ax rfl rfl λX e c h=>by obtain⟨x,o',y,p,rfl,l,s,r⟩:=ckBin_ok h;have:=fQ l;subst this;exact Dn ((aJ a).v X _ c s) ((aJ b).v X _ c r)
 |.catT a b=>ax rfl rfl λX e c h=>by obtain⟨x,o',y,p,rfl,l,s,r⟩:=ckBin_ok h;have:=fQ l;subst this;exact Ab ((aJ a).v X _ c s) ((aJ b).v X _ c r)
 |.cmp o a b=>dD (λX e Q=>lL (f:=(aE t (.cmp o a b)).2) Q λ_ _ _=>rfl) (λX e c h=>by
  obtain⟨x,y,p,rfl,s,r,A⟩:=aX h;exact C2 c.units (bV _ s) ((aJ a).v X _ c r) ((aJ b).v X _ c A)) λX e c h=>by
  obtain⟨x,y,p,rfl,s,r,A⟩:=aX h;exact C3 c.units (bV _ s) ((aJ a).v X _ c r) ((aJ b).v X _ c A)
 |.cmp2 o o' a b d=>dD (λX e Q=>lL (f:=(aE t (.cmp2 o o' a b d)).2) Q λ_ _ _=>rfl) (λX e c h=>by
  obtain⟨z,l,h⟩:=anyT h;obtain⟨p,rfl⟩:=nK l;obtain⟨G,D,B,U⟩:=an4 h;obtain⟨H,O,W⟩:=an3 U;rw[gF G,gF D];exact Aa c.units (bV _ (bz B)) ((aJ a).v X _ c H) ((aJ b).v X _ c O) ((aJ d).v X _ c W)) λX e c h=>by
  obtain⟨z,l,h⟩:=anyT h;obtain⟨p,rfl⟩:=nK l;obtain⟨G,D,B,U⟩:=an4 h;obtain⟨H,O,W⟩:=an3 U;rw[gF G,gF D];exact AB c.units (bV _ (bz B)) ((aJ a).v X _ c H) ((aJ b).v X _ c O) ((aJ d).v X _ c W)
 |.isn neg a=>dD (λX e Q=>lL (f:=(aE t (.isn neg a)).2) Q λ_ _ _=>rfl) (λX e c h=>by
  obtain⟨z,l,h⟩:=anyT h;obtain⟨p,rfl⟩:=ji l;obtain⟨G,D,B⟩:=an3 h;obtain⟨_,_,e2⟩:=gD D;rw[nL G,e2];exact C8 ((aJ a).v X _ c B)) λX e c h=>by
  obtain⟨z,l,h⟩:=anyT h;obtain⟨p,rfl⟩:=ji l;obtain⟨G,D,B⟩:=an3 h;obtain⟨_,_,e2⟩:=gD D;rw[nL G,e2];exact C9 ((aJ a).v X _ c B)
 |.and a b=>by
  have hw:∀X e,Cy t C X->(aE t (.and a b)).2 X.N X.env.scope e=true->PDw X e (eS C (.and a b)):=λX e c h=>by
   obtain⟨o,x,y,I,p,rfl,l,s,r⟩:=ckBo_ok h;have:=nM l;subst this;refine De ((aJ a).t X _ c s) ?_;rcases r with ⟨rfl,r⟩|r
   ·exact rC ((aJ b).t X _ c r)
   ·exact(aJ b).w X _ c rfl r
  refine⟨λX e c h=>?_,λX e c _ h=>hw X e c h,λX e c h=>(hw X e c h).pt⟩;obtain⟨o,x,y,I,p,rfl,l,s,r⟩:=ckBo_ok h;have:=nM l;subst this;refine v_and ((aJ a).v X _ c s) ?_;rcases r with ⟨rfl,r⟩|r
  ·exact rz ((aJ b).v X _ c r)
  ·exact(aJ b).v X _ c r
 |.or a b=>by
  have hw:∀X e,Cy t C X->(aE t (.or a b)).2 X.N X.env.scope e=true->PDw X e (eS C (.or a b)):=λX e c h=>by
   obtain⟨o,x,y,I,p,rfl,l,s,r⟩:=ckBo_ok h;have:=tj l;subst this;refine Gg ((aJ a).t X _ c s) ?_;rcases r with ⟨rfl,r⟩|r
   ·exact vD ((aJ b).t X _ c r)
   ·exact(aJ b).w X _ c rfl r
  refine⟨λX e c h=>?_,λX e c _ h=>hw X e c h,λX e c h=>(hw X e c h).pt⟩;obtain⟨o,x,y,I,p,rfl,l,s,r⟩:=ckBo_ok h;have:=tj l;subst this;refine v_or ((aJ a).v X _ c s) ?_;rcases r with ⟨rfl,r⟩|r
  ·exact rz ((aJ b).v X _ c r)
  ·exact(aJ b).v X _ c r
 |.not a=>dD (λX e Q=>lL (f:=(aE t (.not a)).2) Q λ_ _ _=>rfl) (λX e c h=>by
  obtain⟨o,x,p,rfl,l,s⟩:=ckUn_ok h;have:=nN l;subst this;exact v_not ((aJ a).v X _ c s)) λX e c h=>by
  obtain⟨o,x,p,rfl,l,s⟩:=ckUn_ok h;have:=nN l;subst this;exact Dg ((aJ a).t X _ c s)
 |.neg a=>ax rfl rfl λX e c h=>by obtain⟨o,x,p,rfl,l,s⟩:=ckUn_ok h;have:=nG l;subst this;exact Da ((aJ a).v X _ c s)
 |.ife z a b=>ax rfl rfl λX e c h=>by obtain⟨q,l,h⟩:=anyT h;obtain⟨p,rfl⟩:=wu l;obtain⟨G,D,B⟩:=an3 h;exact Dh ((aJ z).t X _ c G) ((aJ a).v X _ c D) ((aJ b).v X _ c B)
 |.tup I=>ax rfl rfl λX e c h=>by obtain⟨q,l,h⟩:=anyT h;obtain⟨_,_,rfl⟩:=asTup_ok l;exact Dj (yc I X _ c h)
 |.lst I=>ax rfl rfl λX e c h=>by obtain⟨q,l,h⟩:=anyT h;obtain⟨_,rfl⟩:=sR l;exact Dl (yc I X _ c h)
 |.ix a b=>ax rfl rfl λX e c h=>by obtain⟨q,l,h⟩:=anyT h;obtain⟨_,rfl⟩:=aW l;obtain⟨G,D,B⟩:=an3 h;exact Gh (bz G) ((aJ a).v X _ c D) ((aJ b).v X _ c B)
 |.slt a lo hi=>ax rfl rfl λX e c h=>by obtain⟨q,l,h⟩:=anyT h;obtain⟨_,_,rfl⟩:=kh l;obtain⟨G,D,B⟩:=an3 h;exact Dm ((aJ a).v X _ c G) (E5 lo X _ c D) (E5 hi X _ c B)
 |.call f I=>ax rfl rfl λX e c h=>by obtain⟨x,z,zs,q,Y,rfl,l,s,r,A,S⟩:=eV (p:=λx=>decide (t.fn f=some x)) (f:=gH t I) (N:=X.N) (sc:=X.env.scope) (e:=e) h;obtain⟨k,fa,fd,J,T,L,M,g4,g5⟩:=c.hfn _ _ (Daa l);exact Ac T L (bh s).1 M g4 g5 (bh s).2 r A (yc I X _ c S)
 |.callS f I=>ax rfl rfl λX e c h=>by obtain⟨x,z,zs,q,Y,rfl,l,s,r,A,S⟩:=eV (p:=λx=>decide (t.fn f=some x)) (f:=gH t I) (N:=X.N) (sc:=X.env.scope) (e:=e) h;obtain⟨k,fa,fd,J,T,L,M,g4,g5⟩:=c.hfn _ _ (Daa l);exact wa T L (bh s).1 M g4 g5 (bh s).2 r A (yc I X _ c S)
 |.blt f I=>ax rfl rfl λX e c h=>by obtain⟨x,z,zs,q,Y,rfl,l,s,r,A,S⟩:=eV (p:=λx=>sEq x (Ae f)&&t.nog x) (f:=gH t I) (N:=X.N) (sc:=X.env.scope) (e:=e) h;have:=aS (an2 l).1;subst this;exact Do c.calm (bh s).1 (c.hng _ (an2 l).2) r A (yc I X _ c S)
 |.bnw f a=>ax rfl rfl λX e c h=>by
  obtain⟨x,z,q,Y,rfl,l,s,r⟩:=cj h;obtain⟨T,L,M⟩:=blB_ok c l;subst T;cases f with
  |list=>exact Af L M s ((aJ a).v X _ c r)
  |tuple=>exact wb L M s ((aJ a).v X _ c r)
 |.isi k a=>ax rfl rfl λX e c h=>by obtain⟨x,z,w,q,Y,rfl,l,s,r,A,S⟩:=eW h;exact AC c l s S ((aJ a).v X _ c A)
 |.op2 o a b=>ax rfl rfl λX e c h=>by
  have ms:∀{id:String},o.ctorIdx≠0->Slot "str" (GF o) id->typeOf (.builtin id)=pure (.type "method_descriptor")->MtR X id (DZ o)->wL (GF o) (aE t a).1 (aE t b).1 X.N X.env.scope e=true->PDe X e (ak C (.op2 o a b)):=λho s1 s2 s3 h=>by obtain⟨z,y,l,s,P⟩:=ay2 h;obtain⟨hr,rfl⟩:=jk l;obtain⟨G,D,B,U,Z⟩:=nz P;rw[one1_ok s,aS G];exact D0 ho s1 s2 s3 hr D (bz B) ((aJ a).v X _ c U) ((aJ b).v X _ c Z)
  cases o with
  |ixs=>obtain⟨q,l,h⟩:=anyT h;obtain⟨_,rfl⟩:=aW l;obtain⟨G,D,B⟩:=an3 h;exact DV (jd (bz G)) ((aJ a).v X _ c D) ((aJ b).v X _ c B)
  |cts=>obtain⟨x,o',y,p,rfl,l,s,r⟩:=ckBin_ok h;have:=fQ l;subst this;exact DW ((aJ a).v X _ c s) ((aJ b).v X _ c r)
  |tin=>obtain⟨x,y,p,rfl,s,r,A⟩:=aX (o:=.inn) h;exact DX (bV _ s) ((aJ a).v X _ c r) ((aJ b).v X _ c A)
  |tni=>obtain⟨x,y,p,rfl,s,r,A⟩:=aX (o:=.nin) h;exact DY (bV _ s) ((aJ a).v X _ c r) ((aJ b).v X _ c A)
  |sws=>exact ms (by decide) PySem.F.slot_str_startswith PySem.F.type_str_startswith Ap h
  |ews=>exact ms (by decide) PySem.F.slot_str_endswith PySem.F.type_str_endswith Aq h
  |six=>exact ms (by decide) PySem.F.slot_str_index PySem.F.type_str_index Ar h
 |.sls a lo hi=>ax rfl rfl λX e c h=>by obtain⟨q,l,h⟩:=anyT h;obtain⟨_,_,rfl⟩:=kh l;obtain⟨G,D,B⟩:=an3 h;exact D1 ((aJ a).v X _ c G) (E5 lo X _ c D) (E5 hi X _ c B)
 |.spl a b=>ax rfl rfl λX e c h=>by obtain⟨z,y,l,s,P⟩:=ay2 h;obtain⟨hr,rfl⟩:=jk l;obtain⟨G,D,B,U,Z⟩:=nz P;rw[one1_ok s,aS G];exact D2 hr D (bz B) ((aJ a).v X _ c U) ((aJ b).v X _ c Z)
 |.lns a=>ax rfl rfl λX e c h=>by obtain⟨x,z,q,Y,rfl,l,s,r⟩:=cj h;obtain⟨T,L,M⟩:=blB_ok c l;subst T;exact D3 L M s ((aJ a).v X _ c r)
 |.joi a b=>ax rfl rfl λX e c h=>by obtain⟨z,y,l,s,P⟩:=ay2 h;obtain⟨hr,rfl⟩:=jk l;obtain⟨G,D,B,U,Z⟩:=nz P;rw[one1_ok s,aS G];exact D8 hr D (bz B) ((aJ a).v X _ c U) ((aJ b).v X _ c Z)
 |.ist a=>ax rfl rfl λX e c h=>by obtain⟨x,z,q,Y,rfl,l,s,r⟩:=cj h;obtain⟨T,L,M⟩:=blB_ok c l;subst T;exact D9 L M s ((aJ a).v X _ c r)
 |.fst a z=>ax rfl rfl λX e c h=>by obtain⟨w,l,P⟩:=anyT h;obtain⟨p1,j,p2,p,rfl⟩:=tu l;rw[aS (an2 P).1];exact DP ((aJ a).v X _ c (an2 P).2)
 |.kin neg x kvs a=>dD (λX e Q=>lL (f:=(aE t (.kin neg x kvs a)).2) Q λ_ _ _=>rfl) (λX e c h=>by
  obtain⟨y,n,p,rfl,s,r,A⟩:=aX (o:=if neg then .nin else .inn) (f:=(aE t a).1) (g:=Az t x kvs) (N:=X.N) (sc:=X.env.scope) (e:=e) h;obtain⟨z,S,A⟩:=anyT A;obtain⟨q,rfl⟩:=asNm_ok S;obtain⟨H,O,W⟩:=an3 A;obtain⟨d,d1,d2⟩:=c.hkd _ _ W;have H:z=x:=aS H;subst H;exact(sO (bh O).1 d1 d2 (bh O).2 ((aJ a).v X _ c r)).1) λX e c h=>by
  obtain⟨y,n,p,rfl,s,r,A⟩:=aX (o:=if neg then .nin else .inn) (f:=(aE t a).1) (g:=Az t x kvs) (N:=X.N) (sc:=X.env.scope) (e:=e) h;obtain⟨z,S,A⟩:=anyT A;obtain⟨q,rfl⟩:=asNm_ok S;obtain⟨H,O,W⟩:=an3 A;obtain⟨d,d1,d2⟩:=c.hkd _ _ W;have H:z=x:=aS H;subst H;exact(sO (bh O).1 d1 d2 (bh O).2 ((aJ a).v X _ c r)).2
 |.kgt x kvs a=>ax rfl rfl λX e c h=>by obtain⟨q,l,h⟩:=anyT h;obtain⟨z,S,h0⟩:=anyT h;obtain⟨_,rfl⟩:=aW l;obtain⟨_,e5⟩:=asNm_ok S;obtain⟨H,O,W,b4,b5⟩:=nz h0;obtain⟨d,d1,d2⟩:=c.hkd _ _ W;rw[e5];have H:z=x:=aS H;subst H;exact D5 (bh O).1 d1 d2 (bh O).2 (Eg (bz b4)) ((aJ a).v X _ c b5)
 |.sht a=>ax rfl rfl λX e c h=>by obtain⟨x,z,q,Y,rfl,l,s,r⟩:=cj h;obtain⟨T,L,M⟩:=blB_ok c l;subst T;exact Dv c.units c.guards L M s ((aJ a).v X _ c r)
 |.dnew=>ax rfl rfl λX e c h=>by obtain⟨_,rfl⟩:=sW h;exact Ad
 |.pg i J=>ax rfl rfl λX e c h=>Gr (cz c J _ h)
 |.din neg a i J=>dD (λX e Q=>lL (f:=(aE t (.din neg a i J)).2) Q λ_ _ _=>rfl) (λX e c h=>by
  obtain⟨x,y,p,rfl,s,r,A⟩:=aX (o:=if neg then .nin else .inn) (f:=(aE t a).1) (g:=λN sc e=>fL t N sc i J e) (N:=X.N) (sc:=X.env.scope) (e:=e) h;exact(sH (by have:=c.units;omega) (bV _ s) ((aJ a).v X _ c r) (cz c J _ A)).1) λX e c h=>by
  obtain⟨x,y,p,rfl,s,r,A⟩:=aX (o:=if neg then .nin else .inn) (f:=(aE t a).1) (g:=λN sc e=>fL t N sc i J e) (N:=X.N) (sc:=X.env.scope) (e:=e) h;exact(sH (by have:=c.units;omega) (bV _ s) ((aJ a).v X _ c r) (cz c J _ A)).2
 |.sin neg a i J=>dD (λX e Q=>lL (f:=(aE t (.sin neg a i J)).2) Q λ_ _ _=>rfl) (λX e c h=>by
  obtain⟨x,y,p,rfl,s,r,A⟩:=aX (o:=if neg then .nin else .inn) (f:=(aE t a).1) (g:=λN sc e=>fL t N sc i J e) (N:=X.N) (sc:=X.env.scope) (e:=e) h;exact(sJ (bV _ s) ((aJ a).v X _ c r) (cz c J _ A)).1) λX e c h=>by
  obtain⟨x,y,p,rfl,s,r,A⟩:=aX (o:=if neg then .nin else .inn) (f:=(aE t a).1) (g:=λN sc e=>fL t N sc i J e) (N:=X.N) (sc:=X.env.scope) (e:=e) h;exact(sJ (bV _ s) ((aJ a).v X _ c r) (cz c J _ A)).2
 |.comp nt fr it tg ifs elt=>ax rfl rfl λX e c h=>by obtain⟨z,l,h⟩:=anyT h;have:=ki l;subst this;obtain⟨G,D,B,U,Z⟩:=nz h;obtain⟨H,O,W⟩:=an3 Z;exact Aj c.calm (dZ G) (gG (bz B)) (En it X _ _ c U) (λq=>dY (X:=bJ X _ z.2.2.2.2.1 q) (fn:=false) c.calm (Daa D) (λz=>by cases z) (λ_ _ z=>z) H) λq=>G9 ifs (bJ X _ z.2.2.2.2.1 q) _ _ c.comp (aJ elt) O W
theorem yc:∀(m:Es) X xs,Cy t C X->gH t m X.N X.env.scope xs=true->PDa X xs (fK C m)
 |.nil,X,xs,c,h=>by
  cases xs with
  |nil=>exact eT
  |cons _ _=>cases h
 |.cons a es,X,xs,c,h=>by obtain⟨z,e,h⟩:=anyT h;have:=con1_ok e;subst this;obtain⟨d,b,f⟩:=an3 h;exact bP (bz d) ((aJ a).v X _ c b) (yc es X _ c f)
theorem E5:∀(m:Eo) X o,Cy t C X->tF t m X.N X.env.scope o=true->PDo X o (lF C m)
 |.none,X,o,c,h=>by
  cases o with
  |none=>exact v8
  |some _=>cases h
 |.some a,X,o,c,h=>by obtain⟨z,b,h⟩:=anyT h;subst b;exact v9 ((aJ a).v X _ c h)
theorem G9:∀(m:Eo) {elt:E} X fs x,Cy t C X->EOk t C elt->AA t m X.N X.env.scope fs=true->(aE t elt).1 X.N X.env.scope x=true->PDc X fs x (Ah C m elt)
 |.none,elt,X,fs,x,c,he,h,h'=>by
  cases fs with
  |nil=>exact wc (he.v X _ c h')
  |cons _ _=>cases h
 |.some a,elt,X,fs,x,c,he,h,h'=>by obtain⟨z,b,h⟩:=anyT h;have:=one1_ok b;subst this;exact Ai ((aJ a).t X _ c h) (he.v X _ c h')
theorem En:∀(m:It') X g e,Cy t C X->wM t m X.N X.env.scope g e=true->PDi X g e (dr C m)
 |.seq a,X,g,e,c,h=>Ds ((aJ a).v X _ c h)
 |.rg1 a,X,g,e,c,h=>by obtain⟨x,z,q,s,rfl,l,f,n⟩:=cj h;obtain⟨d,i,j⟩:=blB_ok c l;subst d;exact Du i j f ((aJ a).v X _ c n)
 |.sqs a,X,g,e,c,h=>Ea ((aJ a).v X _ c h)
 |.enk a b,X,g,e,c,h=>by obtain⟨o,h⟩:=an2 h;obtain⟨y,k,p,rfl⟩:=cL o;obtain⟨z,x,l,f,h⟩:=ay2 h;obtain⟨F,D,B,A,G⟩:=nz h;obtain⟨q,s,H,rfl⟩:=wC l;obtain⟨d,i,j⟩:=blB_ok c F;rw[one1_ok f,d,aS A];exact Eb (d▸i) (d▸j) (bz D) ((aJ a).v X _ c B) ((aJ b).v X _ c G)
 |.zps a b,X,g,e,c,h=>by obtain⟨o,h⟩:=an2 h;obtain⟨y,k,p,rfl⟩:=cL o;obtain⟨x,z,w,q,s,rfl,l,f,n,u,r⟩:=eW h;obtain⟨d,i,j⟩:=blB_ok c l;subst d;exact D6 i j f n ((aJ a).v X _ c u) ((aJ b).v X _ c r)
 |.zip a b,X,g,e,c,h=>by obtain⟨o,h⟩:=an2 h;obtain⟨y,k,p,rfl⟩:=cL o;obtain⟨x,z,w,q,s,rfl,l,f,n,u,r⟩:=eW h;obtain⟨d,i,j⟩:=blB_ok c l;subst d;exact Dw i j f n ((aJ a).v X _ c u) ((aJ b).v X _ c r)
end
end
section
def bkS(sc:Scope):ScopeKind:=if sc.kind.isAnnotationScope then .function else sc.kind
def pX(a:List Expr)(sc:Scope):List Str:=a.filterMap fun
  |.Name id pos=>if sc.names.lookup id==some .local&&pos.line==(a.head?.map (·.pos.line)).getD 0 then some id else none
  |_=>none
def E6(ts vs:List Expr)(sc:Scope):Option (Option (List Str)):=
 if !(ts.length==2||ts.length==3)||vs.length !=ts.length||bkS sc !=.function then some none
 else if (vs.any fun|.Starred ..=>true|_=>false) then some none
 else if (pX ts sc).length !=ts.length||(pX ts sc).eraseDups.length !=(pX ts sc).length then some none
 else if vs.all (foldedForSure 8) then some none
 else if vs.all (constantsAlone 8) then none
 else some (some (pX ts sc))
theorem lN(h:E6 ts vs env.scope=some r):swappedStores [.Tuple ts k p] (.Tuple vs k2 p2) env=pure r:=by
 unfold E6 at h;unfold swappedStores;split at h
 ·rename_i d;cases h;show (if (!(ts.length==2||ts.length==3)||vs.length !=ts.length||env.blockKind !=.function)=true then _ else _)=_;rw[if_pos (show (!(ts.length==2||ts.length==3)||vs.length !=ts.length||env.blockKind !=.function)=true from d)]
 ·rename_i d;show (if (!(ts.length==2||ts.length==3)||vs.length !=ts.length||env.blockKind !=.function)=true then _ else _)=_;rw[if_neg (show ¬ (!(ts.length==2||ts.length==3)||vs.length !=ts.length||env.blockKind !=.function)=true from d)];split at h
  ·rename_i b;cases h;show (if (vs.any fun|.Starred ..=>true|_=>false)=true then _ else _)=_;rw[if_pos b]
  ·rename_i b;show (if (vs.any fun|.Starred ..=>true|_=>false)=true then _ else _)=_;rw[if_neg b];split at h
   ·rename_i c;cases h;show (if ((pX ts env.scope).length !=ts.length||(pX ts env.scope).eraseDups.length !=(pX ts env.scope).length)=true then _ else _)=_;rw[if_pos c]
   ·rename_i c;show (if ((pX ts env.scope).length !=ts.length||(pX ts env.scope).eraseDups.length !=(pX ts env.scope).length)=true then _ else _)=_;rw[if_neg c];split at h
    ·rename_i a;cases h;show (if vs.all (foldedForSure 8)=true then _ else _)=_;rw[if_pos a]
    ·rename_i a;show (if vs.all (foldedForSure 8)=true then _ else _)=_;rw[if_neg a];split at h
     ·cases h
     ·rename_i e;cases h;show (if vs.all (constantsAlone 8)=true then _ else _)=_;rw[if_neg e];rfl
def yd(b e:Expr)(sc:Scope):Bool:=(bQ b).any λc=>(bQ e).all λa=>decide (E6 c a sc=some none)
theorem tG(h:yd tg e env.scope=true):swappedStores [tg] e env=pure none:=by
 obtain⟨i,c,b⟩:=anyT h;clear h;obtain⟨k,p,rfl⟩:=asTup_ok c;cases a:bQ e with
 |some d=>obtain⟨f,g,rfl⟩:=asTup_ok a;rw[a]at b;exact lN (Daa b)
 |none=>cases e<;>first|rfl|cases a
def swC(sc:Scope)(t:Str)(pos p:Pos)(s:Scope):Bool:=bkS sc==.function&&sc.names.lookup t==some .local&&pos.line==p.line&&!(s.names.any λ(n,k)=>n==t&&(k==.local||k==.cell))
theorem tH:swapsWith (.ListComp elt gs s p) (some (.Name t pos)) l env=pure (swC env.scope t pos p s):=rfl
inductive PDx (X:Cx)(i:Nat)(st:Stmt)(de:DE):Prop|mk (te:TE) (h:PS X st (kH te (fW i))) (s:bp X.K te de)
section
variable{st:Stmt}
theorem PDx.imp:PDx X i st d->(∀ρ Q,d' ρ Q->d ρ Q)->PDx X i st d'
 |⟨te,h,s⟩,f=>⟨te,h,λb F σ H ρ τ θ c Q a R e q=>s b F σ H ρ τ θ c Q a R (f _ _ e) q⟩
theorem AD{d:Tg}(j:X.N.Nodup)(p:X.N[i]?=some y)(k:X.env.scope.names.lookup y=some .local)(h:X.calm=true)(S:CompScope N nt fr X.N scope X.env.scope)(l:∀x,foldedSetIterable iter X.env x=pure x)(hi:PDi X tg iter (dr C mi))(f:∀c:CC,PDg (bJ X N scope c) Ff nt tg (dA d))(n:∀c:CC,PDc (bJ X N scope c) ifs elt (Ah C mif me))
  (e:swapsWith (.ListComp elt [⟨tg,iter,ifs,0⟩] scope pos) (some (.Name y py)) spos.line X.env=pure true):PDx X i (.Assign [.Name y py] (.ListComp elt [⟨tg,iter,ifs,0⟩] scope pos) spos) (ak C (.comp nt fr mi d mif me)):=by
 have q:PDx X i (.Assign [.Name y py] (.ListComp elt [⟨tg,iter,ifs,0⟩] scope pos) spos) (mZ (dr C mi) nt fr (dA d) (Ah C mif me)):=by obtain⟨r,m,o⟩:=hi;obtain⟨g,b⟩:=PDg.ex (Y:=λc=>bJ X N scope c) (λ_=>rfl) f;obtain⟨s,a⟩:=PDc.ex (Y:=λc=>bJ X N scope c) (λ_=>rfl) n;exact⟨_,vd j p k h S m (λc=>(b c).1) (λc D=>(a c).1 D) l e,j4 o (λc=>(b c).2) λc=>(a c).2⟩
 exact q.imp (m7 C)
theorem AE(p:¬ W i):PDx X i st (ak C ma)->PDs X W st (g8 C (.set i ma))
 |⟨_,h,s⟩=>⟨_,h,λb F σ H ρ τ θ t D d n R ⟨y,h,q⟩ E=>by
  obtain⟨z,o,_,f,c,k,h⟩:=bn3 h;cases h;refine s b F σ H ρ τ θ (λr a=>r=z.1/\a=z.2) _ d R ⟨z,f,rfl,rfl⟩ λv l r a g m=>?_;obtain⟨j,e⟩:=m;subst j e;exact E.nx _ l _ ((g.own1 c).store n (gd_ok k) p) q⟩
end
theorem Wd.hole(w:Wd b H L):Wd b H ((u,.hole u)::L):=by obtain⟨A,c,d,a⟩:=w.out;exact⟨⟨A,Ows.cons (.hole rfl) c,d,a⟩,w.fr,w.s0,w.nt⟩
theorem PDe.ex{K:Waa}{Y:CC->Cx}(hK:∀c,(Y c).K=K)(h:∀c,PDe (Y c) e d):∃g:CC->TE,∀c,PE (Y c) e (g c)/\bp K (g c) d:=
 abq (r:=λc g=>PE (Y c) e g/\bp K g d) λc=>(by obtain⟨a,b,f⟩:=h c;exact⟨a,b,hK c▸f⟩)
theorem Dt.sc{K:Waa}(h:Dt K H v d)(e:CP d=true):Sc v d:=by cases h<;>first|constructor|cases e
section
variable{mt:Tg}
theorem tI{a:Type}(step:a->PyData->DEnv->Option (a×DEnv))(ds:List PyData)(w:a×DEnv)(k:Nat){out:a}(b:ds[k]?=some d)(h:dU step (ds.drop k) out ρ=some w):∃z,step out d ρ=some z/\dU step (ds.drop (k+1)) z.1 z.2=some w:=by
 have c:=(aao.mp b).1;have e:ds.drop k=d::ds.drop (k+1):=by rw[abP c,(aao.mp b).2]
 rw[e]at h;exact bnd h
end
end
section
theorem PDt.ex{K:Waa}{Y:CC->Cx}{e:Expr}{d:DT}(hK:∀c,(Y c).K=K)(h:∀c,PDt (Y c) e d):∃g:CC->TT,∀c,PT (Y c) e (g c)/\SndT K (g c) d:=
 abq (r:=λc g=>PT (Y c) e g/\SndT K g d) λc=>(by obtain⟨a,b,f⟩:=h c;exact⟨a,b,hK c▸f⟩)
section
variable{X:Cx}{W:Nat->Prop}{C:Ct}{y:Str}{i nt:Nat}{fr:List Nat}{N:List Str}{scope:Scope}{x iter tg c:Expr}{ifs:List Expr}{pos py spos:Pos}{mi:It'}{mt:Tg}{me mc:E}
theorem km{K:Waa}{f:TE}(A:bp K f (ak C me)):SndY (λns:List Int=>OD.st ns) List.length K (vn f) (λo ρ Q=>∃w,sC C me o ρ=some w/\Q w.1 w.2):=by intro b F I H ρ U rs D O S Q l G Z R h q;obtain⟨w,h,t⟩:=h;obtain⟨_,z,d,m,g,s,j,k,h⟩:=bn4 h;cases h;have g:=gd_ok g;refine A b F I H ρ _ _ (λr a=>r=z.1/\a=z.2) _ l R ⟨z,s,rfl,rfl⟩ λP Y r B e J=>?_;obtain⟨rfl,rfl⟩:=J;have p:=e.dt j;have u:=aL k;subst u;cases p;obtain⟨M,n,v,T,L⟩:=Rel.growS (e.drop.sc (.int m)) G m;exact⟨_,⟨M,n,m,v,rfl,by unfold scanBound;omega,rfl⟩,q _ _ _ L (by rw[aau,aaQ];exact aag _) t⟩
theorem tJ{K:Waa}{g:TT}{m:TE}(r:SndT K g (eS C mc))(v:bp K m (ak C me)):SndY (λns:List Int=>OD.st ns) List.length K (xP g m) (λo ρ Q=>∃w,j7 C (.some mc) me o ρ=some w/\Q w.1 w.2):=by
 intro b F n H ρ s J D d p Q e A G R h q;obtain⟨w,h,j⟩:=h;obtain⟨t,B,h⟩:=bnd h;refine r b F n H ρ _ _ (λk a=>k=t.1/\a=t.2) _ e R ⟨t,B,rfl,rfl⟩ λk u z l I=>?_;obtain⟨rfl,rfl⟩:=I;by_cases f:t.1=true
 ·rw[if_pos f]at h ⊢;exact km v b F n u t.2 s J D d p Q e A G l ⟨w,h,j⟩ q
 ·rw[if_neg f]at h ⊢;cases h;exact q _ _ _ l (Nat.le_succ _) j
theorem ye{act:List Int->DEnv->Option (List Int×DEnv)}{t:CC->TC}(hw:¬ W i)(hp:∀{l:TI}{g:CC->TG}{tc:CC->TC},PI X tg iter l->(∀c,PG (bJ X N scope c) tg (g c))->(∀c D,jU (bJ X N scope c) D ifs x (tc c))->PS X (.Assign [.Name y py] (.SetComp x [⟨tg,iter,ifs,0⟩] scope pos) spos) (kH (q9 l nt fr g tc) (fW i)))(hi:PDi X tg iter (dr C mi))(L:∀c:CC,PDg (bJ X N scope c) Ff nt tg (dA mt))(ha:∀c D,jU (bJ X N scope c) D ifs x (t c))(U:∀c,SndY (λns:List Int=>OD.st ns) List.length X.K (t c) (λo ρ Q=>∃w,act o ρ=some w/\Q w.1 w.2)):
  PDs X W (.Assign [.Name y py] (.SetComp x [⟨tg,iter,ifs,0⟩] scope pos) spos) (λD ρ=>∃x,((lz C mi ρ).bind λx=>(gd (x.1.length<1000000)).bind λ_=>(bK x.2 fr).bind λz=>(dU (λo d ρ=>(aY mt (.fz d) ρ).bind λρ1=>act o ρ1) x.1 [] (List.replicate nt none++z.1)).bind λw=>(gd (i<(cJ z.2 fr (w.2.drop nt)).length)).bind λ_=>some (Fl.nx,(cJ z.2 fr (w.2.drop nt)).set i (some (OD.st w.1))))=some x/\Ak D x.2 x.1):=by
 obtain⟨l,Z,s1⟩:=hi;obtain⟨g,j⟩:=PDg.ex (K:=X.K) (Y:=λc=>bJ X N scope c) (λ_=>rfl) L;refine⟨_,hp Z (λc=>(j c).1) ha,λb F B H ρ τ θ Dd D s n R ⟨z,h,q⟩ E=>?_⟩;obtain⟨w,_,ca,o,_,M,hz,G,I,hi,h⟩:=bn5 h;cases h;refine s1 b F B H ρ τ θ (λA e=>A=w.1/\e=w.2) _ s R ⟨w,M,rfl,rfl⟩ λJ v A ρ1 vs rs r O R1 T hZ=>?_;obtain⟨rfl,rfl⟩:=hZ;refine j3 (Q:=λx v=>D.nx (B.set i (some x)) v) (acc:=λz:List Int=>OD.st z) (ln:=List.length) (a0:=[]) (o0:=.set (λ_=>false) 0) (dg:=dA mt) (Iv:=λk a ρ=>dU (λo d ρ=>(aY mt (.fz d) ρ).bind λρ1=>act o ρ1) (w.1.drop k) a ρ=some o) (λw h=>w.newSet h) rfl (λc=>(j c).2) U s r O R1 T (gd_ok hz) G I (λk d a ρ S f=>by
  obtain⟨u,m,p⟩:=tI _ _ _ k S f;obtain⟨ρ1,e4,m⟩:=bnd m;exact⟨ρ1,e4,u,m,p⟩) λH' D' a e P f=>by
  have f:dU (λo d ρ=>(aY mt (.fz d) ρ).bind λρ1=>act o ρ1) (w.1.drop w.1.length) a e=some o:=f;rw[abr]at f;cases f;exact E.nx _ _ _ (Rel.store (Rel.drops (vs:=vs) (rs:=rs) (τ:=.ref D'::τ) (θ:=.val (.st a)::θ) (Rel.tw P r) r) n (gd_ok hi) hw) q
theorem AF(q:¬ W i)(g:X.N.Nodup)(p:X.N[i]?=some y)(j:X.env.scope.names.lookup y=some .local)(f:X.calm=true)(S:CompScope N nt fr X.N scope X.env.scope)(k:∀x,foldedSetIterable iter X.env x=pure x)
  (b:swapsWith (.SetComp x [⟨tg,iter,[],0⟩] scope pos) (some (.Name y py)) spos.line X.env=pure true) (hi:PDi X tg iter (dr C mi)) (d:∀c:CC,PDg (bJ X N scope c) Ff nt tg (dA mt)) (h:∀c:CC,PDe (bJ X N scope c) x (ak C me)):PDs X W (.Assign [.Name y py] (.SetComp x [⟨tg,iter,[],0⟩] scope pos) spos) (g8 C (.ssc i nt fr mi mt .none me)):=by
 obtain⟨r,a⟩:=PDe.ex (K:=X.K) (Y:=λc=>bJ X N scope c) (λ_=>rfl) h;exact ye (act:=λo l=>j7 C .none me o l) q (λm e n=>jV g p j f S m e n k b) hi d (λc D=>lr (a c).1) λc=>km (a c).2
theorem AG(t:¬ W i)(j:X.N.Nodup)(s:X.N[i]?=some y)(l:X.env.scope.names.lookup y=some .local)(h:X.calm=true)(S:CompScope N nt fr X.N scope X.env.scope)(m:∀x,foldedSetIterable iter X.env x=pure x)
  (d:swapsWith (.SetComp x [⟨tg,iter,[c],0⟩] scope pos) (some (.Name y py)) spos.line X.env=pure true) (hi:PDi X tg iter (dr C mi)) (e:∀c:CC,PDg (bJ X N scope c) Ff nt tg (dA mt)) (g:∀q:CC,PDt (bJ X N scope q) c (eS C mc)) (k:∀c:CC,PDe (bJ X N scope c) x (ak C me)):PDs X W (.Assign [.Name y py] (.SetComp x [⟨tg,iter,[c],0⟩] scope pos) spos) (g8 C (.ssc i nt fr mi mt (.some mc) me)):=by
 obtain⟨v,a⟩:=PDe.ex (K:=X.K) (Y:=λc=>bJ X N scope c) (λ_=>rfl) k;obtain⟨u,b⟩:=PDt.ex (K:=X.K) (Y:=λc=>bJ X N scope c) (λ_=>rfl) g;exact ye (act:=λo n=>j7 C (.some mc) me o n) t (λp f r=>jV j s l h S p f r m d) hi e (λc D=>pO (b c).1 (a c).1) λc=>tJ (b c).2 (a c).2
end
end
section
section
variable(t:Tb)
end
def tK(e:PySem.Stmt):Option (Expr):=if h:e.ctorIdx=24 then some (@PySem.Stmt.Expr.elim (λ_=>Expr) e h λx _=>x) else none
theorem nQ(h:tK e=some z):∃p,e=.Expr z p:=by
 by_cases a:e.ctorIdx=24
 ·revert h;exact@PySem.Stmt.Expr.elim (λe=>tK e=some z->∃p,e=.Expr z p) e a λx p h=>by cases h;exact⟨p,rfl⟩
 ·rw[tK,dif_neg a]at h;cases h
def wO(e:PySem.Stmt):Option (List Expr×Expr):=if h:e.ctorIdx=5 then some (@PySem.Stmt.Assign.elim (λ_=>List Expr×Expr) e h λa x _=>(a,x)) else none
theorem asAs_ok(h:wO e=some z):∃p,e=.Assign z.1 z.2 p:=by
 by_cases a:e.ctorIdx=5
 ·revert h;exact@PySem.Stmt.Assign.elim (λe=>wO e=some z->∃p,e=.Assign z.1 z.2 p) e a λb x p h=>by cases h;exact⟨p,rfl⟩
 ·rw[wO,dif_neg a]at h;cases h
def tL(e:PySem.Stmt):Option (Expr×Operator×Expr):=if h:e.ctorIdx=7 then some (@PySem.Stmt.AugAssign.elim (λ_=>Expr×Operator×Expr) e h λt o x _=>(t,o,x)) else none
theorem nR(h:tL e=some z):∃p,e=.AugAssign z.1 z.2.1 z.2.2 p:=by
 by_cases a:e.ctorIdx=7
 ·revert h;exact@PySem.Stmt.AugAssign.elim (λe=>tL e=some z->∃p,e=.AugAssign z.1 z.2.1 z.2.2 p) e a λt o x p h=>by cases h;exact⟨p,rfl⟩
 ·rw[tL,dif_neg a]at h;cases h
def wQ(e:PySem.Stmt):Option (Option Expr):=if h:e.ctorIdx=3 then some (@PySem.Stmt.Return.elim (λ_=>Option Expr) e h λo _=>o) else none
theorem wR(h:wQ e=some z):∃p,e=.Return z p:=by
 by_cases a:e.ctorIdx=3
 ·revert h;exact@PySem.Stmt.Return.elim (λe=>wQ e=some z->∃p,e=.Return z p) e a λo p h=>by cases h;exact⟨p,rfl⟩
 ·rw[wQ,dif_neg a]at h;cases h
def wU(e:PySem.Stmt):Option (Expr×List Stmt×List Stmt):=if h:e.ctorIdx=12 then some (@PySem.Stmt.If.elim (λ_=>Expr×List Stmt×List Stmt) e h λc a b _=>(c,a,b)) else none
theorem wV(h:wU e=some z):∃p,e=.If z.1 z.2.1 z.2.2 p:=by
 by_cases d:e.ctorIdx=12
 ·revert h;exact@PySem.Stmt.If.elim (λe=>wU e=some z->∃p,e=.If z.1 z.2.1 z.2.2 p) e d λc a b p h=>by cases h;exact⟨p,rfl⟩
 ·rw[wU,dif_neg d]at h;cases h
def wW(e:PySem.Stmt):Option (Expr×Expr×List Stmt×List Stmt):=if h:e.ctorIdx=9 then some (@PySem.Stmt.For.elim (λ_=>Expr×Expr×List Stmt×List Stmt) e h λg i a b _=>(g,i,a,b)) else none
theorem wX(h:wW e=some z):∃p,e=.For z.1 z.2.1 z.2.2.1 z.2.2.2 p:=by
 by_cases c:e.ctorIdx=9
 ·revert h;exact@PySem.Stmt.For.elim (λe=>wW e=some z->∃p,e=.For z.1 z.2.1 z.2.2.1 z.2.2.2 p) e c λg i a b p h=>by cases h;exact⟨p,rfl⟩
 ·rw[wW,dif_neg c]at h;cases h
def Ep(s:Stmt):Bool:=decide (s.ctorIdx=27)
theorem wY(h:Ep s=true):∃p,s=.Continue p:=@Stmt.Continue.elim (λs=>∃p,s=.Continue p) s (Daa h) λp=>⟨p,rfl⟩
def lO(s:Stmt):Option (Expr×Expr):=(wO s).bind λz=>(dq z.1).bind λt=>some (t,z.2)
theorem cU{z}(h:lO s=some z):∃p,s=.Assign [z.1] z.2 p:=by obtain⟨c,t,b,a,h⟩:=bn2 h;cases h;obtain⟨d,e⟩:=c;obtain⟨p,rfl⟩:=asAs_ok b;have:=one1_ok a;simp only at this;subst this;exact⟨p,rfl⟩
def Er(a:Str)(s:Stmt):Option (Str×List Expr×Pos×Pos):=(tK s).bind λe=>(El e).bind λz=>if sEq z.2.1 a then some (z.1,z.2.2) else none
theorem wZ{z}(h:Er m0 s=some z):∃p a,s=.Expr (.Call (.Attribute (.Name z.1 p) m0 z.2.2.1) z.2.1 [] z.2.2.2) a:=by
 obtain⟨e,c,f,d,h⟩:=bn2 h;cases b:sEq c.2.1 m0 with
 |false=>rw[b]at h;cases h
 |true=>rw[b]at h;cases h;obtain⟨p,rfl⟩:=wD d;obtain⟨a,rfl⟩:=nQ f;rw[aS b];exact⟨p,a,rfl⟩
def yf(s:Stmt):Option (Expr×Expr×Pos×Pos):=(tK s).bind λe=>(cK e).bind λz=>(iu z.1).bind λa=>(dq z.2.1).bind λx=>if z.2.2.1.isEmpty&&sEq a.2.1 "append" then some (a.1,x,a.2.2,z.2.2.2) else none
theorem tM{z}(h:yf s=some z):∃p,s=.Expr (.Call (.Attribute z.1 "append" z.2.2.1) [z.2.1] [] z.2.2.2) p:=by
 obtain⟨e,c,a,x,l,k,n,r,h⟩:=bn4 h;obtain⟨f,t,g,q⟩:=c;obtain⟨o,m,u⟩:=a;cases b:(g.isEmpty&&sEq m "append") with
 |false=>simp only[b]at h;cases h
 |true=>
  simp only[b]at h;cases h;have d:=asAtt_ok n;have i:=one1_ok r;have j:=aS (an2 b).2;cases g with
  |cons _ _=>cases b
  |nil=>simp only at d i;subst j;subst i;subst d;obtain⟨p,rfl⟩:=nQ l;exact⟨p,by rw[cg k]⟩
def cmpE:E->Bool
 |.comp _ _ _ _ _ _=>true|_=>false
def setB(t:Tb)(a:Nat->Bool)(N:List Str)(sc:Scope)(i:Nat)(m:E)(x:Str)(p:Pos)(e:Expr):Bool:=hJ a N sc true N.length i x&&(aE t m).1 N sc e&&match lJ e with
 |some z=>!swC sc x p z.2.2.2 z.2.2.1||cmpE m
 |none=>!jf e
def tN(e:PySem.Expr):Option (Str×Pos):=if h:e.ctorIdx=23 then some (@PySem.Expr.Name.elim (λ_=>Str×Pos) e h λx p=>(x,p)) else none
theorem nS(h:tN e=some z):e=.Name z.1 z.2:=by
 by_cases a:e.ctorIdx=23
 ·revert h;exact@PySem.Expr.Name.elim (λe=>tN e=some z->e=.Name z.1 z.2) e a λx p h=>by cases h;exact rfl
 ·rw[tN,dif_neg a]at h;cases h
section
variable(t:Tb)
mutual
def Et(d:Nat->Bool):S'->List Str->Scope->Stmt->Bool
 |.set i m=>λN sc s=>(lO s).any λz=>(tN z.1).any λx=>setB t d N sc i m x.1 x.2 z.2
 |.asg g m=>λN sc s=>(lO s).any λz=>isTup z.1&&yd z.1 z.2 sc&&(aE t m).1 N sc z.2&&s9 d N sc true N.length g z.1
 |.par is ms=>λN sc s=>(lO s).any λz=>(bQ z.1).any λf=>(bQ z.2).any λvs=>gH t ms N sc vs&&decide (E6 f vs sc=some (some (pX f sc)))&&(match is with
  |[i,j]=>(eQ f).any λw=>(eQ vs).any λ_=>(aV w.1).any λx=>(aV w.2).any λy=>decide (pX f sc=[x,y])&&decide (i≠j)&&(decide (N[i]?=some x)&&decide (N[j]?=some y))&&(kindB sc x .local&&kindB sc y .local)&&(d i&&d j)
  |[i,j,k]=>(z5 f).any λw=>(z5 vs).any λ_=>(aV w.1).any λx=>(aV w.2.1).any λy=>(aV w.2.2).any λz=>decide (pX f sc=[x,y,z])&&(decide (i≠j)&&decide (i≠k)&&decide (j≠k))&&(decide (N[i]?=some x)&&decide (N[j]?=some y)&&decide (N[k]?=some z))&&(kindB sc x .local&&kindB sc y .local&&kindB sc z .local)&&(d i&&d j&&d k)
  |_=>false)
 |.aug i o m=>λN sc s=>(tL s).any λz=>(aV z.1).any λx=>GC o z.2.1&&hJ d N sc true N.length i x&&(aE t m).1 N sc z.2.2
 |.aut i m=>λN sc s=>(tL s).any λz=>(aV z.1).any λx=>tm z.2.1&&hJ d N sc true N.length i x&&(aE t m).1 N sc z.2.2
 |.ret m=>λN sc s=>(wQ s).any λo=>o.any λe=>(aE t m).1 N sc e
 |.iff c a b=>λN sc s=>(wU s).any λz=>(aE t c).2 N sc z.1&&iw d a N sc z.2.1&&iw d b N sc z.2.2
 |.fr g it b=>λN sc s=>(wW s).any λz=>!isSet z.2.1&&wM t it N sc z.1 z.2.1&&s9 d N sc true N.length g z.1&&iw d b N sc z.2.2.1&&z.2.2.2.isEmpty
 |.cont=>λN sc s=>Ep s
 |.stk=>λ_ _ _=>true
 |.app i m=>λN sc s=>(yf s).any λz=>(aV z.1).any λx=>sX N sc i x&&(z.2.2.1.endLine==z.2.2.2.line)&&!isStar z.2.1&&(aE t m).1 N sc z.2.1
 |.rev i=>λN sc s=>(Er "reverse" s).any λz=>sX N sc i z.1&&(z.2.2.1.endLine==z.2.2.2.line)&&z.2.1.isEmpty
 |.sti i k m=>λN sc s=>(lO s).any λz=>(cf z.1).any λw=>(aV w.1).any λx=>sX N sc i x&&!be w.2&&!jf z.2&&(aE t m).1 N sc z.2&&(aE t k).1 N sc w.2
 |.sdk i k m=>λN sc s=>(lO s).any λz=>(cf z.1).any λw=>(aV w.1).any λx=>sX N sc i x&&!jf z.2&&(aE t m).1 N sc z.2&&(aE t k).1 N sc w.2
 |.ssc i nt fr it tg ifs elt=>λN sc s=>(lO s).any λz=>(tN z.1).any λx=>(x9 z.2).any λw=>(λh=>hJ d N sc true N.length i x.1&&nI h nt fr N w.2.2.2.2.1 sc&&!isSet w.2.2.1&&wM t it N sc w.2.1 w.2.2.1&&swC sc x.1 x.2 w.2.2.2.2.2 w.2.2.2.2.1&&(decide h.Nodup&&s9 (λ_=>true) h (pW w.2.2.2.2.1 sc) false nt tg w.2.1&&AA t ifs h (pW w.2.2.2.2.1 sc) w.2.2.2.1&&(aE t elt).1 h (pW w.2.2.2.2.1 sc) w.1)) (Eh w.2.1++fr.filterMap λj=>N[j]?)
def iw(a:Nat->Bool):Ss->List Str->Scope->List Stmt->Bool
 |.nil=>λN sc s=>s.isEmpty
 |.cons m ms=>λN sc s=>(pV s).any λz=>Et a m N sc z.1&&iw a ms N sc z.2
end
end
structure Cs (t:Tb)(C:Ct)(W:Nat->Prop)(ok:Nat->Bool)(X:Cx):Prop where
 c:Cy t C X
 nd:X.N.Nodup
 fn:∀x,X.fn x=true
 pass:PassesOwn (model X.prog X.w) X.A X.env X.xe
 hw:∀i,ok i=true->¬ W i
theorem Eu:swappedStores [.Subscript o i p] e env=pure none:=by cases e<;>rfl
theorem nT{st:Stmt}(h:PDs X W st (zO is (fK C ms))):PDs X W st (g8 C (.par is ms)):=h.imp λD d ⟨y,h,q⟩=>by obtain⟨z,o,_,c,b,a,h⟩:=bn3 h;have a:=gd_ok a;cases h;exact⟨z,c,o.1,o.2,b,a.1,a.2,q⟩
theorem AH(c:Cs t C W ok X){z}(j:lJ e=some z)(s:Sto X W X.N.length i x)(a:swC X.env.scope x p z.2.2.2 z.2.2.1=true)
  (h:(aE t (.comp nt fr it tg ifs el)).1 X.N X.env.scope e=true):PDx X i (.Assign [.Name x p] e pos) (ak C (.comp nt fr it tg ifs el)):=by
 have k:X.env.scope.names.lookup x=some .local:=by unfold swC at a;have:=(an4 a).2.1;simpa using this
 obtain⟨w,l,h⟩:=anyT h;have f:=ki l;subst f;cases j;obtain⟨r,o,n,b,u⟩:=nz h;obtain⟨g,m,d⟩:=an3 u;exact AD c.nd s.hN k c.c.calm (dZ r) (gG (bz n)) (En it X _ _ c.c b) (λq=>dY c.c.calm (Daa o) (λz=>by cases z) (λ_ _ z=>z) g) (λq=>G9 ifs (bJ X _ w.2.2.2.2.1 q) _ _ c.c.comp (aJ el) m d) (by rw[tH,a])
theorem w8(c:Cs t C W ok X)(h:setB t ok X.N X.env.scope i m x p e=true):PDs X W (.Assign [.Name x p] e pos) (g8 C (.set i m)):=by
 obtain⟨j,f,a⟩:=an3 h;have s:=bR (λ_=>c.fn) c.hw j;cases d:lJ e with
 |none=>rw[d]at a;exact xT c.nd s (lH (bz a)) ((aJ m).v X _ c.c f)
 |some z=>
  rw[d]at a;cases b:swC X.env.scope x p z.2.2.2 z.2.2.1 with
  |false=>have k:=nv d;exact xT c.nd s (by rw[k,tH,b]) ((aJ m).v X _ c.c f)
  |true=>
   have a:(!swC X.env.scope x p z.2.2.2 z.2.2.1||cmpE m)=true:=a;rw[b]at a;have a:cmpE m=true:=a;cases m with
   |comp n o r q g l=>exact AE s.nw (AH c d s b f)
   |_=>cases a
mutual
theorem HX{W:Nat->Prop}{ok:Nat->Bool}:∀(m:S') X s,Cs t C W ok X->Et t ok m X.N X.env.scope s=true->PDs X W s (g8 C m)
 |.set i m,X,s,c,h=>by obtain⟨z,x,l,B,d⟩:=ay2 h;obtain⟨p,rfl⟩:=cU l;rw[nS B];exact w8 c d
 |.asg g m,X,s,c,h=>by
  obtain⟨z,l,d⟩:=anyT h;obtain⟨p,rfl⟩:=cU l;obtain⟨n,r,F,H⟩:=an4 d;refine DB ?_ (tG r) ?_ ((aJ m).v X _ c.c F) (dY c.c.calm c.nd (λ_=>c.fn) c.hw H)
  ·obtain⟨_,_,_,e⟩:=cL n;rw[e];cases z.2<;>rfl
  obtain⟨_,_,_,e⟩:=cL n;rw[e];rfl
 |.par is ms,X,s,c,h=>by
  obtain⟨z,ts,vs,l,B,P,d⟩:=ay3 h;obtain⟨p,rfl⟩:=cU l;obtain⟨z1,z2⟩:=z;obtain⟨k1,p1,e1⟩:=asTup_ok B;obtain⟨k2,p2,e2⟩:=asTup_ok P;simp only at e1 e2;subst e1 e2;obtain⟨n,A,d⟩:=an3 d;have D:=Daa A
  match is,d with
  |[i,j],d=>
   obtain⟨w,u,x,y,b1,U,Q,S,d⟩:=ay4 d;have T:=two2_ok b1;have Y:=two2_ok U;obtain⟨w1,w2⟩:=w;obtain⟨q1,Z⟩:=asNm_ok Q;obtain⟨q2,e6⟩:=asNm_ok S;simp only at T Y Z e6;subst Z e6;subst T Y;obtain⟨c1,c2,c3,c4,c5⟩:=nz d;rw[Daa c1]at D;refine nT (vL (λk G=>?_) c.c.calm c.nd (Daa (an2 c3).1) (Daa (an2 c3).2) (Daa c2) (aF (an2 c4).1) (aF (an2 c4).2) (lN D) rfl (yc ms X _ c.c n));rcases aab.mp G with rfl|G
   ·exact c.hw _ (an2 c5).1
   ·rw[aaw.mp G];exact c.hw _ (an2 c5).2
  |[i,j,k],d=>
   obtain⟨w,u,x,y,z,b1,U,Q,S,b5,d⟩:=ay5 d;have T:=thr3_ok b1;have Y:=thr3_ok U;obtain⟨w1,w2,w3⟩:=w;obtain⟨q1,Z⟩:=asNm_ok Q;obtain⟨q2,e6⟩:=asNm_ok S;obtain⟨q3,e7⟩:=asNm_ok b5;simp only at T Y Z e6 e7;subst Z e6 e7;subst T Y;obtain⟨c1,c2,c3,c4,c5⟩:=nz d;obtain⟨d1,d2,d3⟩:=an3 c2;obtain⟨d4,d5,d6⟩:=an3 c3;obtain⟨d7,d8,d9⟩:=an3 c4;obtain⟨f1,f2,f3⟩:=an3 c5;rw[Daa c1]at D;refine nT (rQ (λk G=>?_) c.c.calm c.nd (Daa d4) (Daa d5) (Daa d6) (Daa d1) (Daa d2) (Daa d3) (aF d7) (aF d8) (aF d9) (lN D) rfl (yc ms X _ c.c n));rcases aab.mp G with rfl|G
   ·exact c.hw _ f1
   ·rcases aab.mp G with rfl|G
    ·exact c.hw _ f2
    ·rw[aaw.mp G];exact c.hw _ f3
  |[],d=>exact absurd d aak
  |[_],d=>exact absurd d aak
  |_::_::_::_::_,d=>exact absurd d aak
 |.aug i o m,X,s,c,h=>by obtain⟨z,x,l,B,d⟩:=ay2 h;obtain⟨p,rfl⟩:=nR l;obtain⟨q,e⟩:=asNm_ok B;obtain⟨n,A,r⟩:=an3 d;rw[e,sY n];exact DF c.nd (bR (λ_=>c.fn) c.hw A) ((aJ m).v X _ c.c r)
 |.aut i m,X,s,c,h=>by obtain⟨z,x,l,B,d⟩:=ay2 h;obtain⟨p,rfl⟩:=nR l;obtain⟨q,e⟩:=asNm_ok B;obtain⟨n,A,r⟩:=an3 d;rw[e,fQ n];exact Ec c.nd (bR (λ_=>c.fn) c.hw A) ((aJ m).v X _ c.c r)
 |.ret m,X,s,c,h=>by obtain⟨o,e,l,B,d⟩:=ay2 h;obtain⟨p,rfl⟩:=wR l;subst B;exact Dz ((aJ m).v X _ c.c d)
 |.iff z a b,X,s,c,h=>by obtain⟨q,l,d⟩:=anyT h;obtain⟨p,rfl⟩:=wV l;obtain⟨n,A,r⟩:=an3 d;exact Gk ((aJ z).t X _ c.c n) (tO a X _ c A) (tO b X _ c r)
 |.fr g it b,X,s,c,h=>by
  obtain⟨q,l,d⟩:=anyT h;obtain⟨p,rfl⟩:=wX l;obtain⟨n,A,r,F,H⟩:=nz d;obtain⟨q1,q2,q3,q4⟩:=q;cases q4 with
  |nil=>exact DD c.pass c.c.calm (gG (bz n)) (En it X _ _ c.c A) (dY c.c.calm c.nd (λ_=>c.fn) c.hw r) (tO b X _ c F)
  |cons _ _=>cases H
 |.cont,X,s,c,h=>by obtain⟨p,rfl⟩:=wY h;exact An
 |.stk,X,s,c,h=>Dy
 |.app i m,X,s,c,h=>by obtain⟨z,x,l,B,d⟩:=ay2 h;obtain⟨p,rfl⟩:=tM l;obtain⟨q,e⟩:=asNm_ok B;obtain⟨n,A,r,F⟩:=an4 d;obtain⟨I,J,O,L⟩:=bU n;rw[e];exact DQ I J O L A (bz r) ((aJ m).v X _ c.c F)
 |.rev i,X,s,c,h=>by obtain⟨z,l,d⟩:=anyT h;obtain⟨p,p',rfl⟩:=wZ l;obtain⟨n,A,r⟩:=an3 d;obtain⟨I,J,O,L⟩:=bU n;rw[List.isEmpty_iff.mp r];exact D7 I J O L A
 |.sti i k m,X,s,c,h=>by obtain⟨z,w,x,l,B,P,d⟩:=ay3 h;obtain⟨p,rfl⟩:=cU l;obtain⟨q,e⟩:=aW B;obtain⟨q',e'⟩:=asNm_ok P;obtain⟨n,A,r,F,H⟩:=nz d;obtain⟨I,J,O,L⟩:=bU n;rw[e,e'];exact DR I J O L (bz A) (lH (bz r)) Eu ((aJ m).v X _ c.c F) ((aJ k).v X _ c.c H)
 |.sdk i k m,X,s,c,h=>by obtain⟨z,w,x,l,B,P,d⟩:=ay3 h;obtain⟨p,rfl⟩:=cU l;obtain⟨q,e⟩:=aW B;obtain⟨q',e'⟩:=asNm_ok P;obtain⟨n,A,r,F⟩:=an4 d;obtain⟨I,J,O,L⟩:=bU n;rw[e,e'];exact DU (by have:=c.c.units;omega) I J O L (lH (bz A)) ((aJ m).v X _ c.c r) ((aJ k).v X _ c.c F)
 |.ssc i nt fr it tg ifs elt,X,s,c,h=>by
  obtain⟨z,x,w,l,B,P,d⟩:=ay3 h;obtain⟨p,rfl⟩:=cU l;obtain⟨k0,k1⟩:=an2 d;obtain⟨n,A,r,F,H⟩:=nz k0;obtain⟨b1,U,Q,S⟩:=an4 k1;have s:=bR (W:=W) (λ_=>c.fn) c.hw n;have hl:X.env.scope.names.lookup x.1=some .local:=by unfold swC at H;have:=(an4 H).2.1;simpa using this
  have hg:=λq=>dY (X:=bJ X _ w.2.2.2.2.1 q) (fn:=false) c.c.calm (Daa b1) (λz=>by cases z) (λ_ _ z=>z) U;have D:pure (swC X.env.scope x.1 x.2 w.2.2.2.2.2 w.2.2.2.2.1)=(pure true:Sem Bool):=by rw[H]
  rw[nS B,tz P];obtain⟨a0,a6,a7,fs,M,p0⟩:=w;cases ifs with
  |none=>
   cases fs with
   |nil=>exact AF s.nw c.nd s.hN hl c.c.calm (dZ A) (gG (bz r)) D (En it X _ _ c.c F) hg λq=>(aJ elt).v (bJ X _ M q) _ c.c.comp S
   |cons _ _=>cases Q
  |some m=>obtain⟨f,g1,g2⟩:=anyT Q;have:=one1_ok g1;subst this;exact AG s.nw c.nd s.hN hl c.c.calm (dZ A) (gG (bz r)) D (En it X _ _ c.c F) hg (λq=>(aJ m).t (bJ X _ M q) _ c.c.comp g2) λq=>(aJ elt).v (bJ X _ M q) _ c.c.comp S
theorem tO{W:Nat->Prop}{a:Nat->Bool}:∀(m:Ss) X s,Cs t C W a X->iw t a m X.N X.env.scope s=true->PDss X W s (lG C m)
 |.nil,X,s,c,h=>by
  cases s with
  |nil=>exact Am
  |cons _ _=>cases h
 |.cons m ms,X,s,c,h=>by obtain⟨z,d,b⟩:=anyT h;have:=con1_ok d;subst this;exact we (HX m X _ c (an2 b).1) (tO ms X _ c (an2 b).2)
end
end
section
structure Df where
 name:Str
 qual:Str
 st:Stmt
 ps:List Str
 N:List Str
 fn:Fn
def AI(N ps:List Str)(sc:Scope):Bool:=decide (sc.kind=.function)&&!sc.isCoroutine&&!sc.isGenerator&&decide N.Nodup&&decide (N.take ps.length=ps)&&ps.all (λx=>wx sc x)&&sc.names.all λy=>!decide (y.2=.free)
theorem w9(h:AI N ps sc=true):FnScope N ps sc:=by unfold AI at h;simp only[aat,aa4,aba,decide_eq_true_eq,decide_eq_false_iff_not]at h;obtain⟨⟨⟨⟨⟨⟨e,c⟩,a⟩,i⟩,d⟩,b⟩,f⟩:=h;exact⟨e,c,a,i,d,λx g=>nF (b x g),f⟩
def lQ(ios:List Bool)(i:Nat):Bool:=!decide (ios[i]?=some true)
def xf(t:Tb)(d:Df):Bool:=AI d.N d.ps (aB d.st)&&decide (d.fn.io.length=d.ps.length)&&decide (d.fn.n=d.N.length)&&iw t (lQ d.fn.io) d.fn.body d.N (aB d.st) (bb d.st)
structure Md (K:Waa)(mg:Str->Option Value)(t:Tb)(p:Pg)(D:Nat->Option Df)(w:World):Prop where
 df:∀j d,D j=some d->p.F j=some d.fn/\xf t d=true/\∃f fd,Fun K d.name d.qual d.st f fd/\Binds K fd d.ps [] /\
  (∀nm,t.fn j=some nm->mg nm=some (.ref f)/\PySem.W.keepIn K (.ref f)=true)/\(∀c m,t.me j=some (c,m)->Cls K (aI K c)/\Meth K (aI K c) m f)/\(∀c,t.mk' j=some c->Mk K (aI K c) f/\mg c=some (.ref (aI K c)))
 all:∀j,((t.fn j).isSome||(t.me j).isSome||(t.mk' j).isSome)=true->(D j).isSome=true
 gc:∀g nm,t.gc g=some nm->∃v u,mg nm=some u/\RelV v u/\∀S H,Fz K S H v (p.gv g)
 ng:∀x,t.nog x=true->mg x=none
 fl:∀c f,t.fld c f=true->Cls K (aI K c)/\kO K (aI K c) f
 kd:∀x kvs,t.kd x kvs=true->∃d,mg x=some (.ref d)/\KDict K w d kvs
section
variable{K:Waa}
theorem kn(h:∀xs Q,¬ sp xs Q):FnD P w K mg base k f fd ps sp:=by have d:∀a H Q E,¬ toSp K sp a H Q E:=λa H Q E ⟨S,xs,A,_,_,_,_,z⟩=>h _ _ z;exact⟨⟨λa H Q E z=>(d _ _ _ _ z).elim,λA b s H c e a Q E _ _ _ _ z=>(d _ _ _ _ z).elim⟩,λxs P R _ z=>(h _ _ z).elim⟩
theorem ko(h:∀xs,g xs=none):∀xs Q,¬ spC g xs Q:=λxs Q ⟨w,e,_⟩=>by rw[h]at e;cases e
theorem Md.ok(M:Md K mg t p D w):∀(n:Nat),(∀(j:Nat) (d:Df),D j=some d->∀(f:Addr) (r:FuncData),Fun K d.name d.qual d.st f r->FnD P w K mg base (n+1) f r d.ps (spC (p.call n j))) /\
  (∀(j:Nat) (d:Df),D j=some d->∀(f:Addr) (r:FuncData),Fun K d.name d.qual d.st f r->FnD P w K mg base n f r d.ps (spC (p.mak n j)))
 |0=>⟨λj d _ f r _=>kn (ko λ_=>rfl),λj d _ f r _=>kn (ko λ_=>rfl)⟩
 |n+1=>by
  obtain⟨v,T⟩:=Md.ok M n;refine⟨λj d U f r F=>?_,λj d U f r F=>v j d U f r F⟩;obtain⟨Y,J,_⟩:=M.df j d U;unfold xf at J;simp only[aat,decide_eq_true_eq]at J;obtain⟨⟨⟨g1,X⟩,g3⟩,g4⟩:=J;have S:=w9 g1;refine F.okD (ios:=d.fn.io) S (sN _) X (λxs Q ⟨z,e,_⟩=>?_) λG A g s H E C xs Q ⟨z,e,q⟩=>?_
  ·rw[Pg.ez,Y]at e;simp only at e;split at e
   ·rename_i hl;rw[hl];exact X
   ·cases e
  ·have c:Cy t (p.ct n) (iQ CX0 P w K mg base d.N d.qual (aB d.st) f G A g s H E).q7:=by
    refine⟨rfl,C.units,C.gd,λl nm h=>?_,λl c m h=>?_,λl c h=>?_,M.gc,M.ng,M.fl,M.kd⟩
    ·obtain⟨k,a⟩:=aa7.mp (M.all l (by rw[h];rfl));obtain⟨_,_,u,b,B,y,Z,_,_⟩:=M.df l k a;exact⟨n+1,u,b,k.ps,v l k a u b B,C,(Z nm h).1,(Z nm h).2,y⟩
    ·obtain⟨k,a⟩:=aa7.mp (M.all l (by rw[h];simp));obtain⟨_,_,u,b,B,y,_,q2,_⟩:=M.df l k a;exact⟨(q2 c m h).1,n+1,u,b,k.ps,(q2 c m h).2,v l k a u b B,C,y⟩
    ·obtain⟨k,a⟩:=aa7.mp (M.all l (by rw[h];simp));obtain⟨_,_,u,b,B,y,_,_,q3⟩:=M.df l k a;exact⟨n,u,b,k.ps,(q3 c h).1,T l k a u b B,C,(q3 c h).2,y⟩
   have cs:Cs t (p.ct n) (WS d.fn.io) (lQ d.fn.io) (iQ CX0 P w K mg base d.N d.qual (aB d.st) f G A g s H E).q7:=
    ⟨c,S.nd,λ_=>rfl,PassesOwn.never,λi O z=>by
     unfold lQ at O;simp only[aba,decide_eq_false_iff_not]at O;exact O z⟩
   refine⟨_,tO d.fn.body _ _ cs g4,?_⟩;rw[Pg.ez,Y]at e;simp only at e;split at e
   ·unfold v5 at e;obtain⟨x,W,e⟩:=bnd e;rw[g3]at W;refine⟨x,W,?_⟩;obtain⟨fl,ρ⟩:=x;cases fl with
    |nx=>obtain⟨L,I,e⟩:=bnd e;cases e;exact⟨L,I,q⟩
    |rt o=>obtain⟨L,I,e⟩:=bnd e;cases e;exact⟨L,I,q⟩
    |bk=>cases e
    |ct=>cases e
   ·cases e
theorem Md.law(M:Md K mg t p D w){n j:Nat}{d:Df}{f:Addr}{b:FuncData}(o:D j=some d)(F:Fun K d.name d.qual d.st f b)
  (h:∀ns:List Int,ns.length<=63->∃ys,p.call n j [.fz (.list (ns.map PyData.int))]=some (.fz (.bool true),ys)):
  FnOk P w K mg base CX0 (n+1) f b d.ps (λvs H Q _=>∃(a:Addr) (ns:List Int),vs=[.ref a]/\SqL K H a (ns.map V.int)/\ns.length<=63/\∀e,Q (.bl true) e):=by
 refine((M.ok (P:=P) (w:=w) (base:=base) n).1 j d o f b F).ok.imp λvs H Q E l=>?_;obtain⟨a,ns,rfl,i,g,q⟩:=l;obtain⟨ys,m⟩:=h ns g;refine⟨λ_=>False,[.fz (.list (ns.map PyData.int))],[],λa z=>z.elim,λ_ _ _ z=>z,Ows.cons (A:=[]) (B:=[]) (.fz ((Fz.of0 (.lst i (DtAll.ints ns))).sub λc z=>z.elim (λz=>by cases z) id)) .nil,aaX,_,m,λv e B _ k _ _=>?_⟩;cases k with
 |cons r _=>
  cases r with
  |fz f=>cases f;exact q e
end
end
section
inductive Kd where|fn|me (c:Str)|ini (c:Str)
def Kd.fn?(d:Df):Kd->Option Str|.fn=>some d.name|_=>none
def Kd.me?(d:Df):Kd->Option (Str×Str)|.me c=>some (c,d.name)|_=>none
def Kd.ini?:Kd->Option Str|.ini c=>some c|_=>none
structure Pl where
 ds:List (Df×Kd)
 cs:List (Str×PyData)
 nog:List Str
 fld:List (Str×Str)
 kds:List (Str×List (Str×Str)):=[]
def Pl.tb(P:Pl):Tb where
 fn j:=(P.ds[j]?).bind λz=>z.2.fn? z.1
 me j:=(P.ds[j]?).bind λz=>z.2.me? z.1
 mk' j:=(P.ds[j]?).bind λz=>z.2.ini?
 gc g:=(P.cs[g]?).map (·.1)
 nog x:=P.nog.any λy=>sEq x y
 fld c f:=P.fld.any λy=>sEq c y.1&&sEq f y.2
 kd x kvs:=P.kds.any λy=>sEq x y.1&&decide (y.2=kvs)
def Pl.pg(P:Pl):Pg where
 F j:=(P.ds[j]?).map (·.1.fn)
 gv g:=((P.cs[g]?).map (·.2)).getD .none
 wf:=100000
def Pl.D(P:Pl)(j:Nat):Option Df:=(P.ds[j]?).map (·.1)
def Ew(K:Waa)(a:Str->Option Value)(d:Df)(f:Addr):Kd->Prop
 |.fn=>a d.name=some (.ref f)/\PySem.W.keepIn K (.ref f)=true
 |.me c=>Cls K (aI K c)/\Meth K (aI K c) d.name f
 |.ini c=>Mk K (aI K c) f/\a c=some (.ref (aI K c))
def FactD(K:Waa)(b:Str->Option Value)(z:Df×Kd):Prop:=∃f a,Fun K z.1.name z.1.qual z.1.st f a/\Binds K a z.1.ps []/\Ew K b z.1 f z.2
section
variable{K:Waa}{mg:Str->Option Value}{P:Pl}{w:World}
theorem mp{d c:Type}{o:Option d}{f:d->c}{b:c}(h:o.map f=some b):∃a,o=some a/\f a=b:=by
 cases o with
 |none=>cases h
 |some a=>exact⟨a,rfl,aaD h⟩
theorem Pl.md(F:(P.ds.all λz=>xf P.tb z.1)=true)(s:∀z∈P.ds,FactD K mg z)(L:∀z∈P.cs,∃v u,mg z.1=some u/\RelV v u/\∀S H,Fz K S H v z.2)(M:∀x∈P.nog,mg x=none)(A:∀z∈P.fld,Cls K (aI K z.1)/\kO K (aI K z.1) z.2)(r:∀z∈P.kds,∃d,mg z.1=some (.ref d)/\KDict K w d z.2):Md K mg P.tb P.pg P.D w where
 df j d hj:=by
  obtain⟨z,b,i⟩:=mp hj;subst i;have o:=aa1 b;obtain⟨f,J,I,G,n⟩:=s z o;refine⟨by show (P.ds[j]?).map _=_;rw[b];rfl,aa4.mp F z o,f,J,I,G,λp a=>?_,λc m a=>?_,λc a=>?_⟩
  ·have a:((P.ds[j]?).bind λz=>z.2.fn? z.1)=some p:=a;rw[b]at a;obtain⟨d,k⟩:=z;cases k<;>cases a;exact n
  ·have a:((P.ds[j]?).bind λz=>z.2.me? z.1)=some (c,m):=a;rw[b]at a;obtain⟨d,k⟩:=z;cases k<;>cases a;exact n
  ·have a:((P.ds[j]?).bind λz=>z.2.ini?)=some c:=a;rw[b]at a;obtain⟨d,k⟩:=z;cases k<;>cases a;exact n
 all j h:=by
  show ((P.ds[j]?).map _).isSome=true;cases e:P.ds[j]? with
  |none=>have h:((((P.ds[j]?).bind λz=>z.2.fn? z.1).isSome||((P.ds[j]?).bind λz=>z.2.me? z.1).isSome)||((P.ds[j]?).bind λz=>z.2.ini?).isSome)=true:=h;rw[e]at h;cases h
  |some z=>rfl
 gc g p h:=by
  obtain⟨z,b,i⟩:=mp h;subst i;obtain⟨v,u,B,C,t⟩:=L z (aa1 b);have q:P.pg.gv g=z.2:=by show ((P.cs[g]?).map _).getD _=_;rw[b];rfl
  rw[q];exact⟨v,u,B,C,t⟩
 ng x h:=by obtain⟨y,l,e⟩:=abw.mp h;rw[aS e];exact M y l
 fl c f h:=by obtain⟨y,l,e⟩:=abw.mp h;rw[aS (an2 e).1,aS (an2 e).2];exact A y l
 kd x kvs h:=by obtain⟨y,l,e⟩:=abw.mp h;obtain⟨b,i⟩:=an2 e;rw[aS b,<-Daa i];exact r y l
end
end
end L2
namespace L2
open PySem
theorem bs{a b:Type}{o:Option a}{f:a->Option b}{x:a}{r:Option b}(h:o=some x)(k:f x=r):o.bind f=r:=by rw[h];exact k
theorem HY[Decidable c](h:c):gd c=some ():=if_pos h
theorem bg{a:Type}[Decidable c]{f:Unit->Option a}{r:Option a}(h:c)(k:f ()=r):(gd c).bind f=r:=bs (HY h) k
theorem aA{o:Bo}(f:ev C a ρ=some (x,ρ1))(e:ev C b ρ1=some (y,ρ2))(g:ag ρ2 x=some dx)(c:ag ρ2 y=some dy)(h:vZ o dx dy=some d):ev C (.bop o a b) ρ=some (.val (.fz d),ρ2):=bs f (bs e (bs g (bs c (bs h rfl))))
theorem aj{o:Co}(e:ev C a ρ=some (x,ρ1))(d:ev C b ρ1=some (y,ρ2))(f:ag ρ2 x=some dx)(c:ag ρ2 y=some dy)(h:cF o dx dy=some k):ev C (.cmp o a b) ρ=some (.val (.fz (.bool k)),ρ2):=bs e (bs d (bs f (bs c (bs h rfl))))
theorem gI(d:ev C a ρ=some (x,ρ1))(c:ev C b ρ1=some (y,ρ2))(e:ag ρ2 y=some (.int n))(h:bZ ρ2 x n=some (z,ρ3)):ev C (.ix a b) ρ=some (.val z,ρ3):=bs d (bs c (bs e (bs rfl (bs h rfl))))
theorem af(b:evs C es ρ=some (rs,ρ1))(a:bc (C.io f) ρ1 rs=some (xs,ρ2))(c:C.call f xs=some (w,ys))(d:gn (C.io f) rs ys ρ2=ρ3):ev C (.call f es) ρ=some (.val w,ρ3):=bs b (bs a (bs c (by rw[<-d])))
theorem nU(b:evs C es ρ=some (rs,ρ1))(a:cE ρ1 rs=some ds)(c:C.call f (ds.map OD.fz)=some (.fz d,ys))(e:CP d=true):ev C (.callS f es) ρ=some (.val (.fz d),ρ1):=bs b (bs a (bs c (bs rfl (bg e rfl))))
theorem nV(h:ev C (.callS f es) ρ=some (.val (.fz (.bool k)),ρ1)):aZ C (.callS f es) ρ=some (k,ρ1):=bs h rfl
theorem iy(b:evs C es ρ=some (rs,ρ1))(c:Nat.ble rs.length 1000000=true)(a:mapR own1 ρ1 rs=some (zs,ρ2)):ev C (.lst es) ρ=some (.val (.lst zs),ρ2):=bs b (bs a (bg (Nat.ble_eq.mp c) rfl))
theorem gJ(b:evs C es ρ=some (rs,ρ1))(d:Nat.ble rs.length 1000000=true)(a:mapR own1 ρ1 rs=some (zs,ρ2))(c:mkTup zs=z):ev C (.tup es) ρ=some (.val z,ρ2):=bs b (bs a (bg (Nat.ble_eq.mp d) (by rw[<-c])))
theorem av:evs C .nil ρ=some ([],ρ):=rfl
theorem aa(b:ev C e ρ=some (x,ρ1))(a:evs C es ρ1=some (rs,ρ2)):evs C (.cons e es) ρ=some (x::rs,ρ2):=bs b (bs a rfl)
theorem gK(h:aZ C c ρ=some (true,ρ1))(k:ev C a ρ1=rv):ev C (.ife c a b) ρ=rv:=bs h k
theorem e_ifF(h:aZ C c ρ=some (false,ρ1))(k:ev C b ρ1=rv):ev C (.ife c a b) ρ=rv:=bs h k
theorem bI{g:Bl}(b:evs C es ρ=some (rs,ρ1))(a:cE ρ1 rs=some ds)(c:z6 g ds=some d):ev C (.blt g es) ρ=some (.val (.fz d),ρ1):=bs b (bs a (bs c rfl))
theorem tP{dx dy:List PyData}(f:ev C a ρ=some (x,ρ1))(e:ev C b ρ1=some (y,ρ2))(g:Bz ρ2 x=some dx)(d:Bz ρ2 y=some dy)(c:dx.length+dy.length<=1000000):ev C (.cat a b) ρ=some (.val (.lst ((dx++dy).map OD.fz)),ρ2):=bs f (bs e (bs g (bs d (bg c rfl))))
theorem ah{o:Co}(h:ev C (.cmp o a b) ρ=some (.val (.fz (.bool k)),ρ1)):aZ C (.cmp o a b) ρ=some (k,ρ1):=bs h rfl
theorem eX(h:ev C (.call f es) ρ=some (.val (.fz (.bool k)),ρ1)):aZ C (.call f es) ρ=some (k,ρ1):=bs h rfl
theorem jo(h:aZ C a ρ=some (true,ρ1))(k:aZ C b ρ1=rt):aZ C (.and a b) ρ=rt:=bs h k
theorem lR(h:aZ C a ρ=some (false,ρ1)):aZ C (.and a b) ρ=some (false,ρ1):=bs h rfl
theorem nW(h:aZ C a ρ=some (false,ρ1))(k:aZ C b ρ1=rt):aZ C (.or a b) ρ=rt:=bs h k
theorem eY(h:aZ C a ρ=some (k,ρ1)):aZ C (.not a) ρ=some (!k,ρ1):=bs h rfl
theorem eZ(h:ev C a ρ=some (.val (.fz (.bool true)),ρ1))(k:ev C b ρ1=rv):ev C (.and a b) ρ=rv:=bs h (bs rfl (bs rfl k))
theorem yg(h:ev C a ρ=some (.val (.fz (.bool true)),ρ1)):ev C (.or a b) ρ=some (.val (.fz (.bool true)),ρ1):=bs h rfl
theorem yh(h:ev C a ρ=some (.val (.fz (.bool false)),ρ1))(k:ev C b ρ1=rv):ev C (.or a b) ρ=rv:=bs h (bs rfl (bs rfl k))
theorem GH{p:OD×List Nat×OD}(h:bq ρ i ps=some p)(a:p.2.2=.fz d):ev C (.pg i ps) ρ=some (.val (.fz d),ρ):=bs h (bs (show uL p.2.2=some d by rw[a];rfl) rfl)
theorem ae(h:bT C s ρ=some (.nx,ρ1))(k:aQ C ss ρ1=r):aQ C (.cons s ss) ρ=r:=bs h k
theorem aM(h:bT C s ρ=some (.rt z,ρ1)):aQ C (.cons s ss) ρ=some (.rt z,ρ1):=bs h rfl
theorem GI(h:bT C s ρ=some (.ct,ρ1)):aQ C (.cons s ss) ρ=some (.ct,ρ1):=bs h rfl
theorem s_setQ(h:ev C e ρ=some (x,ρ1))(b:own1 ρ1 x=some (z,ρ2))(hi:Nat.blt i ρ2.length=true)(a:ρ2.set i (some z)=ρ3):bT C (.set i e) ρ=some (.nx,ρ3):=bs h (bs b (bg (Nat.blt_eq.mp hi) (by rw[<-a])))
theorem jq{is:List Nat}(h:evs C es ρ=some (rs,ρ1))(b:mapR own1 ρ1 rs=some (zs,ρ2))(a:(zs.length==is.length&&is.all λi=>Nat.blt i ρ2.length)=true)(c:bS is zs ρ2=ρ3):bT C (.par is es) ρ=some (.nx,ρ3):=bs h (bs b (bg (by rw[aat,aa4]at a;exact⟨eq_of_beq a.1,λi d=>Nat.blt_eq.mp (a.2 i d)⟩) (by rw[<-c])))
theorem au(h:ev C e ρ=some (x,ρ1))(a:mv1 ρ1 x=some (z,ρ2)):bT C (.ret e) ρ=some (.rt z,ρ2):=bs h (bs a rfl)
theorem bj(h:aZ C c ρ=some (true,ρ1))(k:aQ C sa ρ1=r):bT C (.iff c sa sb) ρ=r:=bs h k
theorem s_ifF(h:aZ C c ρ=some (false,ρ1))(k:aQ C sb ρ1=r):bT C (.iff c sa sb) ρ=r:=bs h k
theorem bA(d:ρ[i]?.join=some (.lst ys))(h:ev C e ρ=some (x,ρ1))(b:own1 ρ1 x=some (z,ρ2))(f:ρ2[i]?.join=some (.lst xs))(a:xs.length<1000000)(c:ρ2.set i (some (.lst (xs++[z])))=ρ3):bT C (.app i e) ρ=some (.nx,ρ3):=bs d (bs rfl (bs h (bs b (bs f (bs rfl (bg a (by rw[<-c])))))))
theorem lS(h:ev C e ρ=some (x,ρ1))(b:own1 ρ1 x=some (z,ρ2))(f:ρ2[i]?.join=some (.lst ys))(hk:ev C ke ρ2=some (y,ρ3))(c:ag ρ3 y=some (.int n))(g:ρ3[i]?.join=some (.lst xs))(a:ixN xs.length n=some jj)(d:ρ3.set i (some (.lst (xs.set jj z)))=ρ4):bT C (.sti i ke e) ρ=some (.nx,ρ4):=bs h (bs b (bs f (bs rfl (bs hk (bs c (bs rfl (bs g (bs rfl (bs a (by rw[<-d]))))))))))
theorem fv(h:lz C it ρ=some (ds,ρ1))(k:bF (λd a=>(aY t (.fz d) a).bind λρ1=>aQ C ss ρ1) ds ρ1=r):bT C (.fr t it ss) ρ=r:=bs h k
theorem gL(h:ev C e ρ=some (x,ρ1))(b:ag ρ1 x=some (.int n))(a:-(2^62)<=n/\n<2^62):lz C (.rg1 e) ρ=some (cx 0 n.toNat,ρ1):=bs h (bs b (bs rfl (bg a rfl)))
theorem gM(h:ev C e ρ=some (x,ρ1))(a:frz1 ρ1 x=some (d,ρ2))(b:pU d=some ds):lz C (.seq e) ρ=some (ds,ρ2):=bs h (bs a (bs b rfl))
theorem AJ(h:ev C a ρ=some (x,ρ1))(h':ev C b ρ1=some (y,ρ2))(e:frz1 ρ2 x=some (dx,ρ3))(d:frz1 ρ3 y=some (dy,ρ4))(f:pU dx=some ds)(c:pU dy=some es'):lz C (.zip a b) ρ=some (bE ds es',ρ4):=bs h (bs h' (bs e (bs d (bs f (bs c rfl)))))
theorem cM(e:lz C it ρ=some (ds,ρ1))(b:ds.length<1000000)(c:bK ρ1 fr=some zc)(a:bO (bH C tg ifs elt) ds [] (List.replicate nt none++zc.1)=some (out,ρ'))(d:cJ zc.2 fr (ρ'.drop nt)=ρ2):ev C (.comp nt fr it tg ifs elt) ρ=some (.val (.lst (out.map OD.fz)),ρ2):=bs e (bg b (bs c (bs a (by rw[<-d]))))
theorem cs_T(c:aY tg (.fz d) ρ=some ρ1)(b:aZ C ifs ρ1=some (true,ρ2))(a:ev C elt ρ2=some (x,ρ3))(e:frz1 ρ3 x=some (dx,ρ4)):bH C tg (.some ifs) elt d ρ=some ([dx],ρ4):=bs c (bs b (bs a (bs e rfl)))
theorem xg(b:aY tg (.fz d) ρ=some ρ1)(a:aZ C ifs ρ1=some (false,ρ2)):bH C tg (.some ifs) elt d ρ=some ([],ρ2):=bs b (bs a rfl)
theorem xh(b:aY tg (.fz d) ρ=some ρ1)(a:ev C elt ρ1=some (x,ρ3))(c:frz1 ρ3 x=some (dx,ρ4)):bH C tg .none elt d ρ=some ([dx],ρ4):=bs b (bs rfl (bs a (bs c rfl)))
theorem pY{step:PyData->DEnv->Option (Fl×DEnv)}(P:List PyData->DEnv->Prop)(h:∀d ds ρ,P (d::ds) ρ->∃b a,step d ρ=some (b,a)/\(b=.nx\/b=.ct)/\P ds a):∀{ds:List PyData}{ρ:DEnv},P ds ρ->∃a,bF step ds ρ=some (.nx,a)/\P [] a:=by
 intro ds;induction ds with
 |nil=>exact λ{ρ} f=>⟨ρ,rfl,f⟩
 |cons d ds l=>
  intro ρ f;obtain⟨b,m,j,k,c⟩:=h d ds ρ f;obtain⟨g,i,e⟩:=l c;refine⟨g,bs j ?_,e⟩;rcases k with rfl|rfl
  ·exact i
  ·exact i
theorem ao{p:Pg}(c:p.F j=some fn)(a:xs.length=fn.io.length)(h:aQ (p.ct n) fn.body (gr fn.n xs)=some (.rt r,ρ))(b:aN 0 fn.io xs ρ=some ys):p.call (n+1) j xs=some (r,ys):=by rw[Pg.ez,c];show (if xs.length=fn.io.length then v5 (p.ct n) fn xs else none)=_;rw[if_pos a];exact bs h (bs b rfl)
theorem xi(h:k<n):ixN n (k:Int)=some k:=by unfold ixN;rw[if_pos (by omega),if_pos (by omega)];rfl
theorem atI_n{a:Type}{xs:List a}{k:Nat}{x:a}(h:xs[k]?=some x):atI xs (k:Int)=some x:=bs (xi (aao.mp h).1) h
theorem nX{b:Type}{xs:List b}{i:Int}(c:0<=i)(d:i<xs.length):∃x,x∈xs/\atI xs i=some x:=by
 have e:i=(i.toNat:Int):=by omega
 have a:i.toNat<xs.length:=by omega
 refine⟨xs[i.toNat],List.getElem_mem a,?_⟩;have:=atI_n (aaB a);rw[<-e]at this;exact this
theorem lT(h:atI ds i=some d):bZ ρ (.val (.fz (.list ds))) i=some (.fz d,ρ):=by simp only[bZ,itemO,h]
theorem lU(h:atI ds i=some d):bZ ρ (.val (.fz (.tuple ds))) i=some (.fz d,ρ):=by simp only[bZ,itemO,h]
theorem jr(h:atI xs i=some x):bZ ρ (.val (.lst xs)) i=some (x,ρ):=by simp only[bZ,itemO,h]
end L2
namespace Np
open PySem L2
def top(i:Nat):Stmt:=PySem.Challenge.pw_nearpool_k41_texts_written.main.body.getD i (.Pass ⟨0,0,0,0⟩)
abbrev GJ:Ss:=.cons (.stk) .nil
abbrev ec3:Es:=.cons (.nm 3) .nil
abbrev ec2:Es:=.cons (.nm 2) .nil
abbrev ec1:Es:=.cons (.nm 1) .nil
abbrev ec0:Es:=.cons (.nm 0) .nil
abbrev ecz:E:=.ix (.nm 5) (.int 2)
abbrev Ex:E:=.ix (.nm 5) (.int 0)
abbrev ecx:E:=.ix (.nm 0) (.int 1)
abbrev ecw:E:=.ix (.nm 0) (.int 2)
abbrev ecv:E:=.ix (.nm 0) (.int 0)
abbrev Ha:E:=.cmp .ne (.nm 2) (.nm 3)
abbrev ect:E:=.cmp .eq (.nm 0) (.nm 1)
abbrev ecs:E:=.cmp .inn (.nm 4) (.nm 2)
abbrev ecr:Ss:=.cons (.ret (.nm 2)) .nil
abbrev Hb:E:=.cmp .eq (.nm 0) (.str "")
abbrev ecp:S':=.set 3 (.bnw .list (.nm 2))
abbrev Hc:E:=.sht ecz
abbrev GK:E:=.ix (.nm 5) (.neg (.int 1))
abbrev Hd:E:=.cmp .eq (.nm 0) (.str "0")
abbrev ecl:E:=.ix (.nm 0) (.neg (.int 1))
abbrev eck:S':=.set 5 (.ix (.nm 0) (.nm 4))
abbrev ecj:E:=.call 7 ec0
abbrev eci:E:=.call 0 ec0
abbrev He:E:=.call 15 ec2
abbrev ecg:E:=.call 20 ec0
abbrev E7:E:=.call 13 ec3
abbrev ece:Ss:=.cons (.ret (.bl false)) .nil
abbrev Hf:E:=.blt .len ec3
abbrev ecc:E:=.blt .abs ec2
abbrev ecb:E:=.blt .len ec0
abbrev eca:E:=.blt .len ec2
abbrev eb9:E:=.blt .len ec1
abbrev eb8:E:=.cmp .lt (.nm 1) (.lns (.gc 1))
abbrev eb7:E:=.bop .mod (.nm 0) (.lns (.gc 1))
abbrev Hg:Es:=.cons Ex .nil
abbrev eb5:E:=.bop .fdiv (.nm 0) (.lns (.gc 1))
abbrev eb4:Es:=.cons (.nm 6) (.cons (.nm 7) .nil)
abbrev eb3:S':=.set 5 (.tup ec3)
abbrev eb2:Es:=.cons (.nm 0) ec1
abbrev eb1:E:=.slt (.nm 0) (.some (.int 1)) .none
abbrev eb0:E:=.not (.call 7 ec1)
abbrev Hh:E:=.not (.call 7 (.cons (.nm 5) .nil))
abbrev Hi:E:=.not (.call 8 (.cons (.nm 5) .nil))
abbrev ebx:E:=.not eci
abbrev Hj:S':=.set 6 (.call 12 (.cons (.nm 4) .nil))
abbrev ebv:S':=.set 4 (.call 23 ec2)
abbrev ebu:Es:=.cons (.str "tell") (.cons (.nm 6) .nil)
abbrev ebt:S':=.asg (.st 3 4) (.spl (.nm 0) (.str " "))
abbrev ebs:S':=.asg (.st 1 2) (.spl (.nm 0) (.str " "))
abbrev ebr:E:=.cmp .gt ecw (.int 99)
abbrev ebq:S':=.set 1 (.str "abcdefghijklmnopqrstuvwxyz")
abbrev ebp:E:=.slt (.nm 0) .none (.some (.neg (.int 1)))
abbrev GL:E:=.cmp .ne (.ix (.nm 1) (.int 0)) (.str "go")
abbrev GM:Es:=.cons (.str "go") (.cons (.str "nil") .nil)
abbrev ebm:E:=.cmp .eq ecv (.str "go")
abbrev Hl:E:=.cmp .eq Ex (.str "set")
abbrev ebk:E:=.cmp .eq ecv (.str "set")
abbrev ebj:E:=.call 6 eb2
abbrev ebi:E:=.cmp .eq ecv (.str "nil")
abbrev ebh:E:=.call 21 eb2
abbrev ebg:E:=.cmp2 .le .le (.int 1) (.lns (.nm 0)) (.nm 2)
abbrev Hm:E:=.slt (.nm 5) (.some (.int 1)) (.some (.int 2))
abbrev ebe:E:=.call 18 (.cons (.nm 0) (.cons (.int 5) .nil))
abbrev ebd:E:=.bop .add ecl (.nm 1)
abbrev ebc:E:=.cmp .lt (.nm 4) ecb
abbrev Hn:E:=.cmp .lt (.nm 3) ecb
abbrev eba:S':=.set 1 (.lst (.cons ecv .nil))
abbrev ea9:Es:=.cons (.nm 1) (.cons (.nm 0) ec2)
abbrev Ho:E:=.cmp .lt Hf (.int 31)
abbrev Hq:E:=.cmp .lt eb9 (.int 61)
abbrev Hr:E:=.not (.callS 21 (.cons (.nm 6) ec2))
abbrev ea5:It':=.rg1 (.bop .add ecb (.int 1))
abbrev Hs:Es:=.cons (.nm 0) (.cons eb9 .nil)
abbrev ea3:E:=.cmp .eq (.call 18 (.cons (.nm 0) (.cons (.int 8) .nil))) (.int 0)
abbrev ea2:S':=.iff Hi GJ .nil
abbrev ea1:E:=.comp 1 [1] (.sqs (.nm 0)) (.nm 0) .none (.op2 .tin (.nm 0) (.nm 1))
abbrev ea0:E:=.or Hd (.not (.op2 .sws (.nm 0) (.str "0")))
abbrev eaz:E:=.ife Hb (.lst .nil) (.spl (.nm 0) (.str "\n"))
abbrev eay:E:=.blt .min (.cons (.int 10) (.cons ecb .nil))
abbrev eax:E:=.cmp .ne ecb eb9
abbrev Ht:E:=.not (.callS 21 (.cons He (.cons (.nm 4) .nil)))
abbrev eav:S':=.set 2 (.call 22 (.cons (.call 17 eb2) .nil))
abbrev eau:E:=.cmp .inn Ex (.tup GM)
abbrev Hu:E:=.cmp .inn ecv (.tup GM)
abbrev Hv:E:=.cmp .inn Ex (.tup (.cons (.str "sum") (.cons (.str "less") .nil)))
abbrev GN:E:=.and ebk ebr
abbrev eaq:E:=.or ebm ebi
abbrev eap:S':=.iff (.sin false (.nm 3) 1 []) (.cons (.app 2 (.fst E7 ":")) .nil) .nil
abbrev eao:E:=.comp 1 [0] (.seq (.nm 1)) (.nm 0) .none (.call 1 Hs)
abbrev ean:E:=.and (.nm 2) (.and Hq Ho)
abbrev Hw:S':=.iff Hn (.cons (.app 2 (.call 14 (.cons (.ix (.nm 0) (.nm 3)) .nil))) .nil) .nil
abbrev eal:Ss:=.cons Hw .nil
abbrev eak:S':=.iff (.or Ht Ha) ece .nil
abbrev eaj:Ss:=.cons (.app 3 (.op2 .cts (.op2 .cts (.op2 .ixs (.nm 1) (.bop .fdiv (.nm 4) (.int 26))) (.op2 .ixs (.nm 1) (.bop .mod (.nm 4) (.int 26)))) (.str ":"))) .nil
abbrev eai:S':=.set 3 (.comp 1 [] (.seq (.nm 1)) (.nm 0) (.some GN) (.nm 0))
abbrev eah:E:=.comp 1 [] (.seq (.nm 0)) (.nm 0) (.some Hu) ecl
abbrev eag:Ss:=.cons Hj (.cons (.iff Hr ece .nil) (.cons (.rev 6) .nil))
abbrev eaf:Ss:=.cons (.app 6 (.op2 .cts (.op2 .ixs (.nm 1) (.bop .fdiv GK (.int 26))) (.op2 .ixs (.nm 1) (.bop .mod GK (.int 26))))) .nil
abbrev eae:S':=.iff (.cmp .eq (.nm 2) (.str "r")) (.cons (.app 1 (.op2 .ixs (.gc 1) (.nm 3))) .nil) (.cons (.app 1 (.ife (.cmp .eq (.nm 2) (.str "n")) (.sht (.nm 3)) E7)) .nil)
abbrev ead:E:=.cat (.lst Hg) (.comp 1 [5] (.seq Hm) (.nm 0) (.some GL) (.op2 .ixs (.str "abcde") (.nm 0)))
abbrev eac:Ss:=.cons (.iff Hh (.cons (.aug 3 .add (.int 1)) .nil) (.cons (.iff (.din false (.sls (.nm 5) .none (.some (.neg (.int 1)))) 2 []) GJ (.cons (.sdk 2 (.sls (.nm 5) .none (.some (.neg (.int 1)))) (.nm 3)) .nil)) .nil)) .nil
abbrev eab:Ss:=.cons (.iff Hl (.cons (.app 6 Hc) .nil) (.cons (.iff Hv (.cons (.app 6 (.op2 .ixs (.str "abcde") ecz)) .nil) .nil) .nil)) .nil
abbrev eaa:S':=.iff (.cmp .eq (.nm 6) (.str "r")) (.cons (.aut 5 (.tup (.cons (.op2 .six (.gc 1) (.nm 7)) .nil))) .nil) (.cons (.iff (.cmp .eq (.nm 6) (.str "n")) (.cons (.aut 5 (.tup (.cons (.ist (.nm 7)) .nil))) .nil) (.cons (.iff (.din false (.nm 7) 2 []) (.cons (.aut 5 (.tup (.cons (.pg 2 [.key 7]) .nil))) .nil) GJ) .nil)) .nil)
def iz:Fn:=⟨[false],1,(.cons (.ret eaq) .nil)⟩
def fR:Fn:=⟨[false,false],2,(.cons (.iff ebx (.cons (.ret (.nm 0)) .nil) .nil) (.cons (.ret (.catT ebp (.tup (.cons ebd .nil)))) .nil))⟩
def kr:Fn:=⟨[false,false],2,(.cons (.ret (.cat (.bnw .list (.nm 0)) eao)) .nil)⟩
def eh:Fn:=⟨[false,false,false],3,(.cons (.ret (.and ebg (.blt .all (.cons ea1 .nil)))) .nil)⟩
def gN:Fn:=⟨[false],1,(.cons (.ret (.call 3 (.cons (.nm 0) (.cons (.gc 1) (.cons (.gc 2) .nil))))) .nil)⟩
def ei:Fn:=⟨[false],1,(.cons (.ret (.and (.call 3 (.cons (.nm 0) (.cons (.gc 0) (.cons (.gc 3) .nil)))) ea0)) .nil)⟩
def cV:Fn:=⟨[false,false],2,(.cons (.iff (.cmp .eq (.nm 0) (.str "r")) (.cons (.ret (.call 3 (.cons (.nm 1) (.cons (.sls (.gc 1) .none (.some (.gc 4))) (.cons (.int 1) .nil))))) .nil) .nil) (.cons (.ret (.ife (.cmp .eq (.nm 0) (.str "n")) (.call 5 ec1) (.call 4 ec1))) .nil))⟩
def cZ:Fn:=⟨[false],1,(.cons (.ret (.op2 .ews (.nm 0) (.str ":"))) .nil)⟩
def cA:Fn:=⟨[false],3,(.cons (.iff ecj (.cons (.ret (.call 4 (.cons (.sls (.nm 0) .none (.some (.neg (.int 1)))) .nil))) .nil) .nil) (.cons ebs (.cons (.iff (.or (.kin true "FORMS" [("set","rn"),("sum","rr"),("less","rr"),("tell","r"),("go","t"),("nil","rt"),("stop","")] (.nm 1)) (.cmp .ne eca (.lns (.kgt "FORMS" [("set","rn"),("sum","rr"),("less","rr"),("tell","r"),("go","t"),("nil","rt"),("stop","")] (.nm 1))))) ece .nil) (.cons (.ret (.blt .all (.cons (.comp 2 [] (.zps (.kgt "FORMS" [("set","rn"),("sum","rr"),("less","rr"),("tell","r"),("go","t"),("nil","rt"),("stop","")] (.nm 1)) (.nm 2)) (.tp [0,1]) .none ebj) .nil))) .nil))))⟩
def fw:Fn:=⟨[false,false],6,(.cons (.set 2 (.dnew)) (.cons (.set 3 (.int 0)) (.cons (.fr (.tp [4,5]) (.enk (.nm 0) (.nm 1)) (.cons ea2 eac)) ecr)))⟩
def ku:Fn:=⟨[false,false,true],8,(.cons ebt (.cons eb3 (.cons (.fr (.tp [6,7]) (.zps (.kgt "FORMS" [("set","rn"),("sum","rr"),("less","rr"),("tell","r"),("go","t"),("nil","rt"),("stop","")] (.nm 3)) (.nm 4)) (.cons eaa .nil)) (.cons (.ret (.nm 5)) .nil))))⟩
def iA:Fn:=⟨[false,false],3,(.cons (.set 2 (.call 9 eb2)) (.cons (.ret (.comp 2 [2] (.enk (.nm 0) (.nm 1)) (.tp [0,1]) (.some eb0) (.call 10 ea9))) .nil))⟩
def fA:Fn:=⟨[false],1,(.cons (.ret (.call 11 (.cons eaz (.cons (.int 0) .nil)))) .nil)⟩
def gO:Fn:=⟨[false],3,(.cons (.set 1 eb5) (.cons (.set 2 (.ife eb8 (.op2 .ixs (.gc 1) (.nm 1)) (.call 13 ec1))) (.cons (.ret (.op2 .cts (.nm 2) (.op2 .ixs (.gc 1) eb7))) .nil)))⟩
def iC:Fn:=⟨[false],4,(.cons eba (.cons (.fr (.tp [2,3]) (.zps (.kgt "FORMS" [("set","rn"),("sum","rr"),("less","rr"),("tell","r"),("go","t"),("nil","rt"),("stop","")] ecv) eb1) (.cons eae .nil)) (.cons (.ret (.joi (.str " ") (.nm 1))) .nil)))⟩
def fB:Fn:=⟨[false],4,(.cons (.ssc 1 1 [] (.seq (.nm 0)) (.nm 0) (.some eci) ecl) (.cons (.set 2 (.lst .nil)) (.cons (.fr (.nm 3) ea5 (.cons eap eal)) (.cons (.ret (.joi (.str "\n") (.nm 2))) .nil))))⟩
def fb:Fn:=⟨[false,false],2,(.cons (.ret (.ife (.cmp .lt (.nm 1) ecb) (.ix (.nm 0) (.nm 1)) (.int 0))) .nil)⟩
def tQ:Fn:=⟨[false,false],3,(.cons (.set 2 (.call 16 eb2)) (.cons (.ret (.lst (.cons (.bop .mul ecc (.blt .int (.cons (.cmp .ge ecc (.bop .pow (.int 10) (.int 18))) .nil))) (.cons (.bop .mod (.bop .mul (.bop .add (.bop .add (.bop .mod (.nm 2) (.int 2147483647)) (.bop .mul (.int 7121) (.nm 1))) (.int 43)) (.int 48271)) (.int 2147483629)) (.cons (.int 0) .nil))))) .nil))⟩
def lV:Fn:=⟨[true,false],4,(.cons (.iff (.cmp .gt ecv (.int 0)) (.cons (.set 2 (.bop .mod ecv (.nm 1))) (.cons (.sti 0 (.int 0) (.bop .fdiv ecv (.nm 1))) ecr)) .nil) (.cons (.sti 0 (.int 2) (.bop .add ecw (.int 1))) (.cons (.set 3 (.bop .mod (.bop .mul (.bop .add ecx (.bop .mul (.int 39373) ecw)) (.bop .add (.int 48271) ecw)) (.int 2147483647))) (.cons (.sti 0 (.int 1) (.bop .mod (.bop .add (.bop .mul (.nm 3) (.bop .add (.bop .mod (.nm 3) (.int 40009)) (.int 7))) ecw) (.int 2147483629))) (.cons (.ret (.bop .mod (.bop .fdiv (.bop .mod (.bop .mul ecx (.bop .add (.bop .mod ecx (.int 1009)) (.int 3))) (.int 998244353)) (.int 7)) (.nm 1))) .nil)))))⟩
def nY:Fn:=⟨[true],3,(.cons (.set 1 (.call 18 (.cons (.nm 0) (.cons (.int 4) .nil)))) (.cons (.set 2 (.bop .add (.int 100) (.call 18 (.cons (.nm 0) (.cons (.int 99999900) .nil))))) (.cons (.ret (.ix (.lst (.cons (.ix (.lst (.cons (.int 100) (.cons (.int 101) (.cons (.int 12345) (.cons (.int 10000) (.cons (.int 9999) .nil)))))) ebe) (.cons (.bop .add (.int 100) (.call 18 (.cons (.nm 0) (.cons (.int 6) .nil)))) (.cons (.nm 2) (.cons (.int 99999999) .nil))))) (.nm 1))) .nil)))⟩
abbrev ac:Str:="go"
abbrev am:Str:="nil"
abbrev ap:Str:="set"
abbrev bd:Str:="nearpool.texts"
abbrev bi:Str:="sum"
abbrev bm:Str:="less"
abbrev bn:Str:="stop"
abbrev bv:Str:="tell"
abbrev ce:Str:="rr"
abbrev ci:Str:="FORMS"
abbrev cr:Str:="_law_script"
abbrev dL:Str:="word"
abbrev dV:Str:="_law_tape_here"
abbrev em:Str:="line"
abbrev eH:Str:="nearpool.rows"
abbrev ga:Str:="lines"
abbrev hF:Str:="_law_k"
abbrev hY:Str:="abcdefghijklmnopqrstuvwxyz"
abbrev ii:Str:="abcde"
abbrev im:Str:="/claim/cut.py"
abbrev kt:Str:="_law_found"
abbrev lc:Str:="_law_rows_here"
abbrev lf:Str:="0123456789"
abbrev lv:Str:="is_made_of"
abbrev lw:Str:="is_figures"
abbrev lP:Str:="bears_label"
abbrev mH:Str:="is_written"
abbrev nb:Str:="_law_cell_at"
abbrev np:Str:="_law_great"
abbrev nH:Str:="_law_due_here"
abbrev nP:Str:="_law_many_rows"
def F_rows:Fn:=⟨[true],11,(.cons (.set 1 (.ife ea3 (.bop .add (.int 20) (.call 18 (.cons (.nm 0) (.cons (.int 41) .nil)))) (.call 18 (.cons (.nm 0) (.cons (.int 11) .nil))))) (.cons (.set 2 (.ix (.lst (.cons (.int 2) (.cons (.int 5) (.cons (.int 9) .nil)))) (.call 18 (.cons (.nm 0) (.cons (.int 3) .nil))))) (.cons (.set 3 (.lst .nil)) (.cons (.fr (.nm 4) (.rg1 (.nm 1)) (.cons (.par [5,6] (.cons (.call 18 (.cons (.nm 0) (.cons (.int 10) .nil))) (.cons ebe .nil))) (.cons (.iff (.cmp .lt (.nm 5) (.nm 2)) (.cons (.app 3 (.tup (.cons (.str ap) (.cons (.nm 6) (.cons (.call 19 ec0) .nil))))) (.cons (.cont) .nil)) .nil) (.cons (.set 5 (.call 18 (.cons (.nm 0) (.cons (.int 9) .nil)))) (.cons (.par [7,8] (.cons ebe (.cons (.call 18 (.cons (.nm 0) (.cons (.bop .add (.nm 1) (.int 1)) .nil))) .nil))) (.cons (.set 9 (.blt .max (.cons (.int 0) (.cons (.blt .min (.cons (.nm 1) (.cons (.bop .sub (.bop .add (.nm 4) (.call 18 (.cons (.nm 0) (.cons (.int 7) .nil)))) (.int 2)) .nil))) .nil)))) (.cons (.set 10 (.lst (.cons (.tup (.cons (.str ap) (.cons (.nm 6) (.cons (.call 18 (.cons (.nm 0) (.cons (.int 100) .nil))) .nil)))) (.cons (.tup (.cons (.str bi) eb4)) (.cons (.tup (.cons (.str bm) eb4)) (.cons (.tup ebu) (.cons (.tup (.cons (.str ac) (.cons (.nm 9) .nil))) .nil))))))) (.cons (.set 10 (.cat (.nm 10) (.lst (.cons (.tup (.cons (.str am) (.cons (.nm 6) (.cons (.nm 9) .nil)))) (.cons (.tup (.cons (.str am) (.cons (.nm 6) (.cons (.nm 8) .nil)))) (.cons (.tup ebu) (.cons (.ix (.lst (.cons (.tup (.cons (.str ac) (.cons (.nm 8) .nil))) (.cons (.tup (.cons (.str bn) .nil)) .nil))) (.call 18 (.cons (.nm 0) (.cons (.int 2) .nil)))) .nil))))))) (.cons (.app 3 (.ix (.nm 10) (.nm 5))) .nil))))))))) (.cons (.ret (.nm 3)) .nil)))))⟩
def jt:Fn:=⟨[false,false],2,(.cons (.iff (.isi .seq (.nm 1)) (.cons (.iff (.or (.cmp .ne (.isi .list (.nm 0)) (.isi .list (.nm 1))) (.cmp .ne (.isi .tuple (.nm 0)) (.isi .tuple (.nm 1)))) ece .nil) (.cons (.iff eax ece .nil) (.cons (.ret (.blt .all (.cons (.comp 2 [] (.zip (.nm 0) (.nm 1)) (.tp [0,1]) .none ebh) .nil))) .nil))) .nil) (.cons (.iff (.or (.isn false (.nm 1)) (.isi .str (.nm 1))) (.cons (.ret (.and ect (.cmp .eq (.isi .str (.nm 0)) (.isi .str (.nm 1))))) .nil) .nil) (.cons (.iff (.isi .bool (.nm 1)) (.cons (.ret (.and (.isi .bool (.nm 0)) ect)) .nil) .nil) (.cons (.ret (.and (.isi .int (.nm 0)) (.and (.not (.isi .bool (.nm 0))) ect))) .nil))))⟩
def cN:Fn:=⟨[true],4,(.cons (.par [1,2] (.cons ecg (.cons ea3 .nil))) (.cons eai (.cons (.ret (.ife ean (.call 2 (.cons (.nm 1) ec1)) (.nm 1))) .nil)))⟩
def yi:Fn:=⟨[false],7,(.cons ebq (.cons (.set 2 eah) (.cons (.set 3 (.lst .nil)) (.cons (.fr (.nm 4) ea5 (.cons (.iff ecs eaj .nil) (.cons (.iff ebc (.cons eck (.cons (.set 6 ead) (.cons (.iff eau eaf eab) (.cons (.app 3 (.joi (.str " ") (.nm 6))) .nil)))) .nil) .nil))) (.cons (.ret (.joi (.str "\n") (.nm 3))) .nil)))))⟩
def yj:Fn:=⟨[false],7,(.cons (.fr (.nm 1) (.rg1 (.bop .add (.int 1) eay)) (.cons eav (.cons ecp (.cons ebv (.cons (.fr (.nm 5) (.rg1 (.int 2)) (.cons eak .nil)) eag))))) (.cons (.ret (.and (.cmp .eq (.call 15 (.cons (.lst .nil) .nil)) (.str "")) (.cmp .eq (.call 15 (.cons (.lst (.cons (.tup (.cons (.str ac) (.cons (.int 1) .nil))) .nil)) .nil)) (.str "go ab\nab:")))) .nil))⟩
def iD:Df:=⟨"is_jump","is_jump",top 6,["row"],["row"],iz⟩
def nZ:Df:=⟨"moved","moved",top 7,["row","many"],["row","many"],fR⟩
def ky:Df:=⟨"joined","joined",top 8,["one","other"],["one","other"],kr⟩
def en:Df:=⟨lv,lv,top 14,[dL,"signs","most"],[dL,"signs","most"],eh⟩
def gP:Df:=⟨"is_label","is_label",top 15,[dL],[dL],gN⟩
def et:Df:=⟨lw,lw,top 16,[dL],[dL],ei⟩
def iE:Df:=⟨"is_part","is_part",top 17,["sign",dL],["sign",dL],cV⟩
def c9:Df:=⟨lP,lP,top 18,[em],[em],cZ⟩
def eA:Df:=⟨mH,mH,top 19,[em],[em,dL,"parts"],cA⟩
def fD:Df:=⟨"labels_in","labels_in",top 20,[ga,"first"],[ga,"first","labels","many","at",em],fw⟩
def kz:Df:=⟨"row_in","row_in",top 21,[em,"at","labels"],[em,"at","labels",dL,"parts","row","sign","part"],ku⟩
def iF:Df:=⟨"rows_in","rows_in",top 22,[ga,"first"],[ga,"first","labels"],iA⟩
def fE:Df:=⟨"rows_from","rows_from",top 23,["text"],["text"],fA⟩
def gQ:Df:=⟨"label_of","label_of",top 24,["number"],["number","ahead","head"],gO⟩
def iG:Df:=⟨"line_of","line_of",top 25,["row"],["row","words","sign","part"],iC⟩
def fF:Df:=⟨"text_from","text_from",top 26,["rows"],["rows","goals",ga,"at"],fB⟩
def iH:Df:=⟨nb,nb,top 28,[cr,hF],[cr,hF],fb⟩
def tR:Df:=⟨"_law_tape","_law_tape",top 29,[cr,hF],[cr,hF,"_law_cell"],tQ⟩
def tS:Df:=⟨"_law_take","_law_take",top 30,[dV,"_law_many"],[dV,"_law_many",kt,"_law_once"],lV⟩
def n5:Df:=⟨np,np,top 31,[dV],[dV,"_law_way","_law_any_one"],nY⟩
def tT:Df:=⟨"_law_rows","_law_rows",top 32,[dV],[dV,"_law_many","_law_share","_law_made_rows","_law_number","_law_way","_law_r","_law_s","_law_t","_law_near","_law_some"],F_rows⟩
def tU:Df:=⟨"_law_same","_law_same",top 33,[kt,nH],[kt,nH],jt⟩
def fG:Df:=⟨nP,nP,top 34,[dV],[dV,lc,"_law_twice","_law_greats"],cN⟩
def yk:Df:=⟨"_law_due","_law_due",top 35,[lc],[lc,"_law_letters","_law_goals","_law_lines","_law_number","_law_row","_law_words"],yi⟩
def D_law:Df:=⟨"law","law",top 36,[cr],[cr,hF,lc,"_law_kept",nH,"_law_turn",kt],yj⟩
def pl:Pl where
 ds:=[(iD,.fn),(nZ,.fn),(ky,.fn),(en,.fn),(gP,.fn),(et,.fn),(iE,.fn),(c9,.fn),(eA,.fn),(fD,.fn),(kz,.fn),(iF,.fn),(fE,.fn),(gQ,.fn),(iG,.fn),(fF,.fn),(iH,.fn),(tR,.fn),(tS,.fn),(n5,.fn),(tT,.fn),(tU,.fn),(fG,.fn),(yk,.fn),(D_law,.fn)]
 cs:=[("FIGURES",.str lf),("LETTERS",.str hY),("LONGEST_LABEL",.int 8),("MOST_FIGURES",.int 8),("REGISTERS",.int 5)]
 nog:=["abs","all","bool","enumerate","int","isinstance","len","list","max","min","range","str","tuple","zip"]
 fld:=[]
 kds:=[(ci,[(ap,"rn"),(bi,ce),(bm,ce),(bv,"r"),(ac,"t"),(am,"rt"),(bn,"")])]
abbrev Ey:Nat:=24
theorem Ez:(pl.ds.all λz=>xf pl.tb z.1)=true:=by decide +kernel
abbrev It(i:Int):OD:=.fz (.int i)
abbrev pc(i:Int):Option OD:=some (It i)
abbrev Tp(a b c:Int):OD:=.lst [It a,It b,It c]
abbrev pi(a b c:Int):Option OD:=some (Tp a b c)
structure TpOk (b c:Int)(n:Nat):Prop where
 b0:0<=b
 b1:b<2147483629
 c0:0<=c
 c1:c<=n
theorem gR{i j:Int}(h:(-(2^64)<i/\i<2^64)\/(-(2^64)<j/\j<2^64)):vZ .mul (.int i) (.int j)=some (.int (i*j)):=bs rfl (bs rfl (bs (bg h rfl) rfl))
theorem cO{i j:Int}(h:0<j):vZ .mod (.int i) (.int j)=some (.int (i%j)):=bs rfl (bs rfl (bs (bg h rfl) rfl))
theorem n6{i j:Int}(h:0<j/\j<1073741824):vZ .fdiv (.int i) (.int j)=some (.int (i/j)):=bs rfl (bs rfl (bs (bg h rfl) rfl))
theorem EA{x m:Int}(a:0<m)(h:m<=2^64):-(2^64)<x%m/\x%m<2^64:=by have c:=abc x (show m≠0 by omega);have b:=abd x a;omega
theorem up{m a k b:Nat}(h:m<=a)(e:Nat.ble (a+k) b=true):m+k<=b:=aas (abN h k) (ab9 e)
theorem HZ{m k b:Nat}(e:Nat.ble k b=true):m+k<=m+b:=abR (ab9 e) m
theorem aT{n m:Nat}{a b c many:Int}(h:TpOk b c m)(q:m<=1000000)(d:0<many)(l:many<1073741824):∃x k e f,pl.pg.call (n+1) 18 [Tp a b c,It many]=some (It x,[Tp k e f,It many])/\0<=x/\x<many/\TpOk e f (m+1):=by
 have o:=h.b0;have j:=h.b1;have p:=h.c0;have i:=h.c1;by_cases g:0<a
 ·refine⟨a%many,a/many,b,c,?_,abc _ (by omega),abd _ d,⟨h.b0,h.b1,h.c0,by omega⟩⟩;refine ao (fn:=lV) (ρ:=[pi (a/many) b c,pc many,pc (a%many),none]) rfl rfl ?_ rfl;refine aM (bj (ah (aj rfl rfl rfl rfl (show some (decide (0<a))=some true by rw[Dac g]))) ?_);refine ae (s_setQ (aA rfl rfl rfl rfl (cO d)) rfl rfl rfl) ?_;refine ae (lS (aA rfl rfl rfl rfl (n6 ⟨d,l⟩)) rfl rfl rfl rfl rfl rfl rfl) rfl
 ·exact⟨_,a,_,c+1,ao (fn:=lV) rfl rfl (ae (s_ifF (ah (aj rfl rfl rfl rfl (show some (decide (0<a))=some false by rw[Dab g]))) rfl) (ae (lS rfl rfl rfl rfl rfl rfl rfl rfl) (ae (s_setQ (aA (aA (aA rfl (aA rfl rfl rfl rfl (gR (.inl (by decide)))) rfl rfl rfl) (aA rfl rfl rfl rfl rfl) rfl rfl (gR (.inr (by omega)))) rfl rfl rfl (cO (by decide))) rfl rfl rfl) (ae (lS (aA (aA (aA rfl (aA (aA rfl rfl rfl rfl (cO (by decide))) rfl rfl rfl rfl) rfl rfl (gR (.inl (EA (by decide) (by decide))))) rfl rfl rfl rfl) rfl rfl rfl (cO (by decide))) rfl rfl rfl rfl rfl rfl rfl) (aM (au (aA (aA (aA (aA rfl (aA (aA rfl rfl rfl rfl (cO (by decide))) rfl rfl rfl rfl) rfl rfl (gR (.inl (EA (by decide) (by decide))))) rfl rfl rfl (cO (by decide))) rfl rfl rfl (n6 (by decide))) rfl rfl rfl (cO d)) rfl)))))) rfl,abc _ (by omega),abd _ d,⟨abc _ (by decide),abd _ (by decide),by omega,by omega⟩⟩
theorem AK{n:Nat}{ns:List Int}{k:Nat}:∃x,pl.pg.call (n+1) 16 [.fz (.list (ns.map PyData.int)),It k]=some (It x,[.fz (.list (ns.map PyData.int)),It k]):=by
 by_cases b:(k:Int)<ns.length
 ·have a:k<ns.length:=by omega
  refine⟨ns[k],ao (fn:=fb) rfl rfl (aM (au (gK (ah (aj rfl rfl rfl rfl (k:=true) ?_)) (gI rfl rfl rfl (lT (atI_n (x:=.int ns[k]) ?_)))) rfl)) rfl⟩
  ·show some (decide ((k:Int)<((ns.map PyData.int).length:Nat)))=some true;rw[aaa,Dac b]
  ·rw[aaz,aaB a];rfl
 ·refine⟨0,ao (fn:=fb) rfl rfl (aM (au (e_ifF (ah (aj rfl rfl rfl rfl (k:=false) ?_)) rfl) rfl)) rfl⟩;show some (decide ((k:Int)<((ns.map PyData.int).length:Nat)))=some false;rw[aaa,Dab b]
theorem AL{n:Nat}{ns:List Int}{k:Nat}(hk:k<=10):∃a b,pl.pg.call (n+2) 17 [.fz (.list (ns.map PyData.int)),It k]=some (Tp a b 0,[.fz (.list (ns.map PyData.int)),It k])/\TpOk b 0 0:=by obtain⟨x,c⟩:=AK (n:=n) (ns:=ns) (k:=k);refine⟨_,_,ao (fn:=tQ) rfl rfl (ae (s_setQ (af rfl rfl c rfl) rfl rfl rfl) (aM (au (iy (aa (aA rfl (bI (aa (aj rfl (aA rfl rfl rfl rfl rfl) rfl rfl rfl) av) rfl rfl) rfl rfl (gR (.inr ?_))) (aa (aA (aA (aA (aA (aA rfl rfl rfl rfl (cO (by decide))) (aA rfl rfl rfl rfl (gR (.inl (by decide)))) rfl rfl rfl) rfl rfl rfl rfl) rfl rfl rfl (gR (.inr (by decide)))) rfl rfl rfl (cO (by decide))) (aa rfl av))) rfl rfl) rfl))) rfl,abc _ (by decide),abd _ (by decide),Int.le_refl _,Int.le_refl _⟩;exact(show ∀q:Bool,-(2^64)<(if q=true then (1:Int) else 0)/\(if q=true then (1:Int) else 0)<2^64 by decide) _
theorem ju{ks:List Int}{i:Int}(a:0<=i)(b:i<ks.length):∃k,k∈ks/\atI (ks.map It) i=pc k:=by obtain⟨x,c,e⟩:=nX (xs:=ks.map It) a (by rw[aaa];exact b);obtain⟨k,d,rfl⟩:=aal.mp c;exact⟨k,d,e⟩
theorem TpOk.up{b c:Int}{m a:Nat}(h:TpOk b c m)(d:m<=a):TpOk b c a:=⟨h.b0,h.b1,h.c0,by have:=h.c1;omega⟩
theorem xj{n m:Nat}{a b c:Int}(h:TpOk b c m)(f:m<=900000):∃k F q r,pl.pg.call (n+2) 19 [Tp a b c]=some (It k,[Tp F q r])/\100<=k/\k<=99999999/\TpOk q r (m+4):=by
 obtain⟨w,L,W,c1,y,z,T,O⟩:=aT (n:=n) (a:=a) (many:=4) h (up (k:=0) f rfl) (by decide) (by decide);obtain⟨H,J,Y,Z,s,l,C,N⟩:=aT (n:=n) (a:=L) (many:=99999900) O (up (k:=1) f rfl) (by decide) (by decide);obtain⟨x3,G,U,X,u,i,o,t⟩:=aT (n:=n) (a:=J) (many:=5) N (up (k:=2) f rfl) (by decide) (by decide);obtain⟨B,v,D,M,S,j,I,P⟩:=aT (n:=n) (a:=G) (many:=6) t (up (k:=3) f rfl) (by decide) (by decide);obtain⟨g,p,A⟩:=ju (ks:=[100,101,12345,10000,9999]) i o;obtain⟨k,d,Q⟩:=ju (ks:=[g,100+B,100+H,99999999]) z T;refine⟨k,v,D,M,ao (fn:=nY) rfl rfl (ae (s_setQ (af rfl rfl y rfl) rfl rfl rfl) (ae (s_setQ (aA rfl (af rfl rfl s rfl) rfl rfl rfl) rfl rfl rfl) (aM (au (gI (iy (aa (gI rfl (af rfl rfl u rfl) rfl (jr A)) (aa (aA rfl (af rfl rfl S rfl) rfl rfl rfl) (aa rfl (aa rfl av)))) rfl rfl) rfl rfl (jr Q)) rfl)))) rfl,?_,?_,P⟩
 ·have e:100<=g:=(show ∀x∈[100,101,12345,10000,9999],(100:Int)<=x by decide) g p;rcases aab.mp d with rfl|d
  ·exact e
  rcases aab.mp d with rfl|d
  ·exact aca j
  rcases aab.mp d with rfl|d
  ·exact aca l
  rw[aaw.mp d];decide
 ·have e:g<=99999999:=(show ∀x∈[100,101,12345,10000,9999],x<=(99999999:Int) by decide) g p;rcases aab.mp d with rfl|d
  ·exact e
  rcases aab.mp d with rfl|d
  ·omega
  rcases aab.mp d with rfl|d
  ·omega
  rw[aaw.mp d];decide
inductive R where|st (r k:Int)|sm (a b:Int)|ls (a b:Int)|tl (a:Int)|go (t:Int)|nl (r t:Int)|sp
def R.d:R->PyData
 |.st r k=>.tuple [.str ap,.int r,.int k]
 |.sm a b=>.tuple [.str bi,.int a,.int b]
 |.ls a b=>.tuple [.str bm,.int a,.int b]
 |.tl a=>.tuple [.str bv,.int a]
 |.go t=>.tuple [.str ac,.int t]
 |.nl r t=>.tuple [.str am,.int r,.int t]
 |.sp=>.tuple [.str bn]
abbrev rg(x:Int):Prop:=0<=x/\x<5
def Rk(m:Nat):R->Prop
 |.st r k=>rg r/\0<=k/\k<100000000
 |.sm a b=>rg a/\rg b
 |.ls a b=>rg a/\rg b
 |.tl a=>rg a
 |.go t=>0<=t/\t<=m
 |.nl r t=>rg r/\0<=t/\t<=m
 |.sp=>True
abbrev Rs(rs:List R):OD:=.lst (rs.map λr=>.fz r.d)
abbrev pp(rs:List R):Option OD:=some (Rs rs)
theorem yl{rs:List R}{i:Int}(b:0<=i)(c:i<rs.length):∃r,r∈rs/\atI (rs.map λr=>OD.fz r.d) i=some (.fz r.d):=by obtain⟨x,f,e⟩:=nX (xs:=rs.map λr=>OD.fz r.d) b (by rw[aaa];exact c);obtain⟨r,a,rfl⟩:=aal.mp f;exact⟨r,a,e⟩
theorem xk{ρ:DEnv}{j:Nat}{rs:List R}{i:Int}{r:R}(h:ρ[j]?.join=pp rs)(c:atI (rs.map λr=>OD.fz r.d) i=some (.fz r.d)):bZ ρ (.rf j) i=some (.fz r.d,ρ):=by
 obtain⟨k,e,a⟩:=bnd c;have b:itemS (Rs rs) i=some (r.d,Rs rs):=by simp only[Rs,itemS,e,a,OD.dat];rw[bD a]
 simp only[bZ,h,b];rw[set_self (join_some h)]
theorem n8{rs:List R}{r:R}:Rs (rs++[r])=.lst ((rs.map λr=>OD.fz r.d)++[.fz r.d]):=by rw[Rs,aaC];rfl
abbrev pB:=pl.pg.ct
theorem qa{n m:Nat}{a b c many share i:Int}{rs:List R}{o4 o5 o6 o7 o8 o9 o10:Option OD}(h:TpOk b c m)(s:m<=100000)(hl:rs.length<=1000)(m0:0<=many)(m1:many<=100):
  ∃fl G,((aY (.nm 4) (.fz (.int i)) [pi a b c,pc many,pc share,pp rs,o4,o5,o6,o7,o8,o9,o10]).bind λρ1=>aQ (pB (n+2)) (match F_rows.body with|.cons _ (.cons _ (.cons _ (.cons (.fr _ _ b) _)))=>b|_=>.nil) ρ1)=some (fl,G)/\(fl=.nx\/fl=.ct)/\∃(r:R) (a' b' c':Int) (p4 p5 p6 p7 p8 p9 P:Option OD),Rk many.toNat r/\G=[pi a' b' c',pc many,pc share,some (Rs (rs++[r])),p4,p5,p6,p7,p8,p9,P]/\TpOk b' c' (m+8):=by
 obtain⟨t,S,b1,c1,e1,d0,c0,t1⟩:=aT (n:=n+1) (a:=a) (many:=10) h (up (k:=0) s rfl) (by decide) (by decide);obtain⟨e,y,H,L,e2,l,o,t2⟩:=aT (n:=n+1) (a:=S) (many:=5) t1 (up (k:=1) s rfl) (by decide) (by decide);by_cases hw:t<share
 ·obtain⟨g,v,w,x,O,g0,g1,t3⟩:=xj (n:=n) (a:=y) t2 (up (k:=2) s rfl);refine⟨.ct,_,bs rfl (ae (jq (ρ3:=[pi y H L,pc many,pc share,pp rs,pc i,pc t,pc e,o7,o8,o9,o10]) (aa (af (ρ3:=[pi S b1 c1,pc many,pc share,pp rs,pc i,o5,o6,o7,o8,o9,o10]) rfl rfl e1 rfl) (aa (af (ρ3:=[pi y H L,pc many,pc share,pp rs,pc i,o5,o6,o7,o8,o9,o10]) rfl rfl e2 rfl) av)) rfl rfl rfl) (GI (bj (ah (aj rfl rfl rfl rfl (show some (decide (t<share))=some true by rw[Dac hw]))) (ae (bA (ρ3:=[pi v w x,pc many,pc share,some (Rs (rs++[.st e g])),pc i,pc t,pc e,o7,o8,o9,o10]) (xs:=rs.map λr=>.fz r.d) rfl (gJ (z:=.fz (R.st e g).d) (aa rfl (aa rfl (aa (af (ρ3:=[pi v w x,pc many,pc share,pp rs,pc i,pc t,pc e,o7,o8,o9,o10]) rfl rfl O rfl) av))) rfl rfl rfl) rfl rfl (by rw[aaa];omega) (by rw[n8];rfl)) rfl)))),.inr rfl,.st e g,v,w,x,pc i,pc t,pc e,o7,o8,o9,o10,show rg e/\0<=g/\g<100000000 from ⟨⟨l,o⟩,by omega,by omega⟩,rfl,t3.up (HZ (k:=6) rfl)⟩
 ·obtain⟨q,v,w,x,O,Q,X,t3⟩:=aT (n:=n+1) (a:=y) (many:=9) t2 (up (k:=2) s rfl) (by decide) (by decide);obtain⟨f,a4,b4,c4,e4,D,B,t4⟩:=aT (n:=n+1) (a:=v) (many:=5) t3 (up (k:=3) s rfl) (by decide) (by decide);obtain⟨p,Y,b5,c5,e5,F,d4,t5⟩:=aT (n:=n+1) (a:=a4) (many:=many+1) t4 (up (k:=4) s rfl) (by omega) (by omega);obtain⟨I,W,b6,c6,e6,d1,d3,t6⟩:=aT (n:=n+1) (a:=Y) (many:=7) t5 (up (k:=5) s rfl) (by decide) (by decide);obtain⟨u,a7,b7,c7,e7,a0,d2,t7⟩:=aT (n:=n+1) (a:=W) (many:=100) t6 (up (k:=6) s rfl) (by decide) (by decide);obtain⟨x8,N,M,J,e8,Z,U,t8⟩:=aT (n:=n+1) (a:=a7) (many:=2) t7 (up (k:=7) s rfl) (by decide) (by decide);obtain⟨A,h8,e9⟩:=yl (rs:=[R.go p,R.sp]) Z U;obtain⟨j,C⟩:∃j:Int,j=(if (if i+I-2<many then i+I-2 else many)>0 then (if i+I-2<many then i+I-2 else many) else 0):=⟨_,rfl⟩
  have hM:((many.toNat:Nat):Int)=many:=by omega
  have hn:0<=j/\j<((many.toNat:Nat):Int)+1:=by rw[C];split<;>split<;>omega
  have T:Rk many.toNat A:=by
   simp only[aab,aav,or_false]at h8;rcases h8 with rfl|rfl
   ·exact⟨F,by omega⟩
   ·trivial
  obtain⟨r,hr,b0⟩:=yl (rs:=[.st e u,R.sm e f,R.ls e f,R.tl e,R.go j,R.nl e j,R.nl e p,R.tl e,A]) Q X;have hk:Rk many.toNat r:=by
   simp only[aab,aav,or_false]at hr;rcases hr with rfl|rfl|rfl|rfl|rfl|rfl|rfl|rfl|rfl
   ·exact⟨⟨l,o⟩,a0,by omega⟩
   ·exact⟨⟨l,o⟩,D,B⟩
   ·exact⟨⟨l,o⟩,D,B⟩
   ·exact⟨l,o⟩
   ·exact⟨hn.1,by omega⟩
   ·exact⟨⟨l,o⟩,hn.1,by omega⟩
   ·exact⟨⟨l,o⟩,F,by omega⟩
   ·exact⟨l,o⟩
   ·exact T
  refine⟨.nx,_,bs rfl (ae (jq (ρ3:=[pi y H L,pc many,pc share,pp rs,pc i,pc t,pc e,o7,o8,o9,o10]) (aa (af (ρ3:=[pi S b1 c1,pc many,pc share,pp rs,pc i,o5,o6,o7,o8,o9,o10]) rfl rfl e1 rfl) (aa (af (ρ3:=[pi y H L,pc many,pc share,pp rs,pc i,o5,o6,o7,o8,o9,o10]) rfl rfl e2 rfl) av)) rfl rfl rfl) (ae (s_ifF (ah (aj rfl rfl rfl rfl (show some (decide (t<share))=some false by rw[Dab hw]))) rfl) ?_)),.inl rfl,r,N,M,J,pc i,pc q,pc e,pc f,pc p,pc j,some (Rs [.st e u,R.sm e f,R.ls e f,R.tl e,R.go j,R.nl e j,R.nl e p,R.tl e,A]),hk,rfl,t8⟩;refine ae (s_setQ (ρ3:=[pi v w x,pc many,pc share,pp rs,pc i,pc q,pc e,o7,o8,o9,o10]) (af (ρ3:=[pi v w x,pc many,pc share,pp rs,pc i,pc t,pc e,o7,o8,o9,o10]) rfl rfl O rfl) rfl rfl rfl) ?_;refine ae (jq (ρ3:=[pi Y b5 c5,pc many,pc share,pp rs,pc i,pc q,pc e,pc f,pc p,o9,o10]) (aa (af (ρ3:=[pi a4 b4 c4,pc many,pc share,pp rs,pc i,pc q,pc e,o7,o8,o9,o10]) rfl rfl e4 rfl) (aa (af (ρ3:=[pi Y b5 c5,pc many,pc share,pp rs,pc i,pc q,pc e,o7,o8,o9,o10]) rfl rfl e5 rfl) av)) rfl rfl rfl) ?_;refine ae (s_setQ (ρ3:=[pi W b6 c6,pc many,pc share,pp rs,pc i,pc q,pc e,pc f,pc p,pc j,o10]) (bI (aa rfl (aa (bI (aa rfl (aa (aA (aA rfl (af (ρ3:=[pi W b6 c6,pc many,pc share,pp rs,pc i,pc q,pc e,pc f,pc p,o9,o10]) rfl rfl e6 rfl) rfl rfl rfl) rfl rfl rfl rfl) av)) rfl rfl) av)) rfl (show _=some (PyData.int j) by rw[C];rfl)) rfl rfl rfl) ?_;refine ae (s_setQ (ρ3:=[pi a7 b7 c7,pc many,pc share,pp rs,pc i,pc q,pc e,pc f,pc p,pc j,some (Rs [.st e u,R.sm e f,R.ls e f,R.tl e,R.go j])]) (iy (zs:=[.fz (R.st e u).d,.fz (R.sm e f).d,.fz (R.ls e f).d,.fz (R.tl e).d,.fz (R.go j).d]) (aa (gJ (z:=.fz (R.st e u).d) (aa rfl (aa rfl (aa (af (ρ3:=[pi a7 b7 c7,pc many,pc share,pp rs,pc i,pc q,pc e,pc f,pc p,pc j,o10]) rfl rfl e7 rfl) av))) rfl rfl rfl) (aa rfl (aa rfl (aa rfl (aa rfl av))))) rfl rfl) rfl rfl rfl) ?_;refine ae (s_setQ (ρ3:=[pi N M J,pc many,pc share,pp rs,pc i,pc q,pc e,pc f,pc p,pc j,some (Rs [.st e u,R.sm e f,R.ls e f,R.tl e,R.go j,R.nl e j,R.nl e p,R.tl e,A])]) (tP rfl (iy (aa rfl (aa rfl (aa rfl (aa (gI rfl (af (ρ3:=[pi N M J,pc many,pc share,pp rs,pc i,pc q,pc e,pc f,pc p,pc j,some (Rs [.st e u,R.sm e f,R.ls e f,R.tl e,R.go j])]) rfl rfl e8 rfl) rfl (jr e9)) av)))) rfl rfl) rfl rfl (show 9<=1000000 by decide)) rfl rfl rfl) ?_;exact ae (bA (ρ3:=[pi N M J,pc many,pc share,some (Rs (rs++[r])),pc i,pc q,pc e,pc f,pc p,pc j,some (Rs [.st e u,R.sm e f,R.ls e f,R.tl e,R.go j,R.nl e j,R.nl e p,R.tl e,A])]) (xs:=rs.map λr=>.fz r.d) rfl (gI rfl rfl rfl (xk rfl b0)) rfl rfl (by rw[aaa];omega) (by rw[n8];rfl)) rfl
theorem qb{lo:Int}{n:Nat}:∀d∈cx lo n,∃i,d=.int i:=λd a=>by obtain⟨i,_,rfl⟩:=aal.mp a;exact⟨_,rfl⟩
theorem qc{n m:Nat}{a b c many sh:Int}(h:TpOk b c (m+3))(I:m<=90000)(G:0<=many)(H:many<=60):∃(rs:List R) (q k l:Int) (o4 o5 o6 o7 o8 o9 o10:Option OD),bF (λd f=>(aY (.nm 4) (.fz d) f).bind λρ1=>aQ (pB (n+2)) (match F_rows.body with|.cons _ (.cons _ (.cons _ (.cons (.fr _ _ b) _)))=>b|_=>.nil) ρ1) (cx 0 many.toNat) [pi a b c,pc many,pc sh,some (Rs []),none,none,none,none,none,none,none]=some (.nx,[pi q k l,pc many,pc sh,pp rs,o4,o5,o6,o7,o8,o9,o10])/\rs.length=many.toNat/\(∀r∈rs,Rk many.toNat r)/\TpOk k l (m+500):=by
 have x:many.toNat<=60:=by omega
 have p:many<=100:=Int.le_trans H (by decide);obtain⟨f,B,rs,P,M,N,o4,o5,o6,o7,o8,o9,o10,rfl,g,_,u,U⟩:=pY (step:=λd f=>(aY (.nm 4) (.fz d) f).bind λρ1=>aQ (pB (n+2)) (match F_rows.body with|.cons _ (.cons _ (.cons _ (.cons (.fr _ _ b) _)))=>b|_=>.nil) ρ1)
  (λds ρ=>∃(rs:List R) (a b c:Int) (o4 o5 o6 o7 o8 o9 o10:Option OD),ρ=[pi a b c,pc many,pc sh,pp rs,o4,o5,o6,o7,o8,o9,o10]/\rs.length+ds.length=many.toNat/\(∀d∈ds,∃i,d=.int i)/\(∀r∈rs,Rk many.toNat r)/\TpOk b c (m+3+8*rs.length)) (λd ds ρ=>by
   rintro⟨rs,a,b,c,o4,o5,o6,o7,o8,o9,o10,rfl,g,w,u,t⟩;obtain⟨i,rfl⟩:=w _ aah;have A:rs.length<=60:=aas (Nat.le.intro g) x;obtain⟨Q,f,e,S,r,q,k,l,J,D,L,F,C,O,o,v,rfl,T⟩:=qa (n:=n) (share:=sh) (i:=i) (a:=a) (o4:=o4) (o5:=o5) (o6:=o6) (o7:=o7) (o8:=o8) (o9:=o9) (o10:=o10) t (aas (Nat.add_le_add (abN I 3) (acb 8 A)) (by decide)) (aas A (by decide):rs.length<=1000) G p;have y:(rs++[r]).length=rs.length+1:=aau;exact⟨Q,_,e,S,rs++[r],q,k,l,J,D,L,F,C,O,o,rfl,by rw[y,Nat.add_right_comm];exact g,λd s=>w d (aaf _ s),λz j=>(aai.mp j).elim (u z) λj=>by rw[aaw.mp j];exact v,T.up (by rw[y];exact aag _)⟩)
  (ds:=cx 0 many.toNat) (ρ:=[pi a b c,pc many,pc sh,some (Rs []),none,none,none,none,none,none,none]) ⟨[],a,b,c,none,none,none,none,none,none,none,rfl,by rw[jZ,List.length_nil,aa3],qb,λz j=>absurd j (by simp),h⟩
 have g:rs.length=many.toNat:=g;exact⟨rs,P,M,N,o4,o5,o6,o7,o8,o9,o10,B,g,u,U.up (aas (abR (acb 8 (g▸x)) (m+3)) (abR (show 3+8*60<=500 by decide) m))⟩
theorem AM{n m:Nat}{a b c:Int}(h:TpOk b c m)(o:m<=90000):∃(rs:List R) (J q s:Int),pl.pg.call (n+3) 20 [Tp a b c]=some (Rs rs,[Tp J q s])/\rs.length<=60/\(∀r∈rs,Rk rs.length r)/\TpOk q s (m+500):=by
 have v:∀(a b c many:Int),TpOk b c (m+2)->0<=many->many<=60->∃(rs:List R) (J q s:Int) (I:DEnv),aQ (pB (n+2)) (match F_rows.body with|.cons _ ss=>ss|_=>.nil) [pi a b c,pc many,none,none,none,none,none,none,none,none,none]=some (.rt (Rs rs),pi J q s::I)/\rs.length<=60/\(∀r∈rs,Rk rs.length r)/\TpOk q s (m+500):=by intro a b c many h P Q;obtain⟨A,g,i,j,z,x,t,B⟩:=aT (n:=n+1) (a:=a) (many:=3) h (up (k:=2) o rfl) (by decide) (by decide);obtain⟨sh,_,S⟩:=ju (ks:=[2,5,9]) x t;obtain⟨rs,f,d,e,Z,T,U,Y,W,X,O,l,p,u,y⟩:=qc (n:=n) (a:=g) (sh:=sh) B o P Q;exact⟨rs,f,d,e,_,ae (s_setQ (ρ3:=[pi g i j,pc many,pc sh,none,none,none,none,none,none,none,none]) (gI rfl (af (ρ3:=[pi g i j,pc many,none,none,none,none,none,none,none,none,none]) rfl rfl z rfl) rfl (jr S)) rfl rfl rfl) (ae (s_setQ (ρ3:=[pi g i j,pc many,pc sh,some (Rs []),none,none,none,none,none,none,none]) rfl rfl rfl rfl) (ae (fv (gL rfl rfl (by omega)) l) (aM (au rfl rfl)))),by omega,by rw[p];exact u,y⟩
 obtain⟨A,g,i,j,z,x,t,B⟩:=aT (n:=n+1) (a:=a) (many:=8) h (up (k:=0) o rfl) (by decide) (by decide);by_cases N:A=0
 ·obtain⟨w,f,d,e,l,M,G,y⟩:=aT (n:=n+1) (a:=g) (many:=41) B (up (k:=1) o rfl) (by decide) (by decide);obtain⟨rs,L,F,H,I,C,p,u,D⟩:=v f d e (20+w) y (by omega) (by omega);exact⟨rs,L,F,H,ao (fn:=F_rows) rfl rfl (ae (s_setQ (ρ3:=[pi f d e,pc (20+w),none,none,none,none,none,none,none,none,none]) (gK (ah (aj (af (ρ3:=[pi g i j,none,none,none,none,none,none,none,none,none,none]) rfl rfl z rfl) rfl rfl rfl (show some (decide (A=0))=some true by rw[Dac N]))) (aA rfl (af (ρ3:=[pi f d e,none,none,none,none,none,none,none,none,none,none]) rfl rfl l rfl) rfl rfl rfl)) rfl rfl rfl) C) rfl,p,u,D⟩
 ·obtain⟨w,f,d,e,l,M,G,y⟩:=aT (n:=n+1) (a:=g) (many:=11) B (up (k:=1) o rfl) (by decide) (by decide);obtain⟨rs,L,F,H,I,C,p,u,D⟩:=v f d e w y (by omega) (by omega);exact⟨rs,L,F,H,ao (fn:=F_rows) rfl rfl (ae (s_setQ (ρ3:=[pi f d e,pc w,none,none,none,none,none,none,none,none,none]) (e_ifF (ah (aj (af (ρ3:=[pi g i j,none,none,none,none,none,none,none,none,none,none]) rfl rfl z rfl) rfl rfl rfl (show some (decide (A=0))=some false by rw[Dab N]))) (af (ρ3:=[pi f d e,none,none,none,none,none,none,none,none,none,none]) rfl rfl l rfl)) rfl rfl rfl) C) rfl,p,u,D⟩
abbrev sx(l:List Nat):Str:=⟨l.toArray⟩
theorem ym(x:Str):x=sx x.cps.toList:=by cases x;simp
theorem jv{a b:List Nat}(h:sx a=sx b):a=b:=by simpa using h
theorem fc{a b:List Nat}:sx a++sx b=sx (a++b):=by show (⟨a.toArray++b.toArray⟩:Str)=_;simp
theorem aC{a:List Nat}:(sx a).length=a.length:=by show a.toArray.size=_;simp
def jn(c:Nat):List (List Nat)->List Nat
 |[]=>[]
 |[a]=>a
 |a::b::r=>a++c::jn c (b::r)
theorem jw{c:Nat}:∀ps:List (List Nat),Str.join (sx [c]) (ps.map sx)=sx (jn c ps)
 |[]=>rfl
 |[a]=>rfl
 |a::b::r=>by show sx a++sx [c]++Str.join (sx [c]) ((b::r).map sx)=_;rw[jw (b::r),fc,fc];simp[jn]
theorem fT{c:Nat}(ps:List (List Nat)):Txt.join (sx [c]) (ps.map sx)=sx (jn c ps):=(StrLaws.glued_eq_join _ _).trans (jw ps)
theorem AN{c:Nat}:∀{ps qs:List (List Nat)},ps≠[]->qs≠[]->(∀p∈ps,c ∉ p)->(∀q∈qs,c ∉ q)->jn c ps=jn c qs->ps=qs:=by
 have i:∀{a b r s:List Nat},c ∉ a->c ∉ b->a++c::r=b++c::s->a=b/\r=s:=by
  intro a;induction a with
  |nil=>
   intro b r s _ d h;cases b with
   |nil=>simp at h;exact⟨rfl,h⟩
   |cons y b=>simp at h;exact absurd (by simp[h.1]) d
  |cons x a j=>
   intro b r s e d h;cases b with
   |nil=>simp at h;exact absurd (by simp[h.1]) e
   |cons y b=>simp at h;obtain⟨g,f⟩:=j (λz=>e (aaf _ z)) (λz=>d (aaf _ z)) h.2;exact⟨by rw[h.1,g],f⟩
 intro ps;induction ps with
 |nil=>exact λh=>absurd rfl h
 |cons a ps j=>
  intro qs _ o m l h;cases qs with
  |nil=>exact absurd rfl o
  |cons b qs=>
   have e:=m a aah;have d:=l b aah;cases ps with
   |nil=>
    cases qs with
    |nil=>simp only[jn]at h;rw[h]
    |cons n qs=>simp only[jn]at h;exact absurd (by rw[h];simp) e
   |cons t ps=>
    cases qs with
    |nil=>simp only[jn]at h;exact absurd (by rw[<-h];simp) d
    |cons n qs=>simp only[jn]at h;obtain⟨g,f⟩:=i e d h;rw[g,j (by simp) (by simp) (λp k=>m p (aaf _ k)) (λp k=>l p (aaf _ k)) f]
theorem tV{c:Nat}{ps:List (List Nat)}(i:ps≠[])(h:∀p∈ps,c ∉ p):Txt.split (sx (jn c ps)) (sx [c])=ps.map sx:=by
 have b:=StrLaws.join_split (sx (jn c ps)) (sx [c]);have e:=StrLaws.split_free (sx (jn c ps)) c;have a:=PyProof.Rows.split_pos (sx (jn c ps)) (sx [c]);generalize Txt.split (sx (jn c ps)) (sx [c])=qs at b e a;have d:qs=(qs.map λq=>q.cps.toList).map sx:=by rw[aaI];exact((abu (λq _=>(ym q).symm)).trans (List.map_id _)).symm
 rw[d,jw]at b;have:=AN (c:=c) (ps:=qs.map λq=>q.cps.toList) (qs:=ps) (λz=>by rw[List.map_eq_nil_iff.mp z]at a;exact absurd a (by decide)) i (λp g=>by obtain⟨q,f,rfl⟩:=aal.mp g;exact e q f) h (jv b);rw[d,this]
theorem EB{c:Nat}{l:List Nat}:o2S .tin (sx [c]) (sx l)=some (.bool (decide (c∈l))):=by show some (PyData.bool (!(Builtin.Str.occurrences (sx l) ⟨#[c]⟩ 0 (sx l).length 1).isEmpty))=_;rw[StrLaws.found_one]
theorem xl{c:Nat}{l:List Nat}:Txt.endswith (sx l) (sx [c])=decide (l.getLast?=some c):=by
 unfold Txt.endswith;rw[StrLaws.subAt_eq,aC,aC];rcases List.eq_nil_or_concat l with rfl|⟨a,b,rfl⟩
 ·simp
 ·simp[List.drop_append];exact aa0.mpr (by simp)
theorem kA{c:Nat}{l:List Nat}:Txt.slice (sx (l++[c])) none (some (-1))=sx l:=by have h:=PyProof.Rows.slice_closes_to_neg (x:=sx (l++[c])) (j:=-1) (k:=l.length) (by decide) (by rw[aC];simp;omega) (by rw[aC];simp;omega);have h:=beq_iff_eq.mp h;rw[h];simp
theorem AO{l:List Nat}{j:Nat}(h:j<=l.length):Txt.slice (sx l) none (some (j:Int))=sx (l.take j):=by have h:=beq_iff_eq.mp (PyProof.Rows.slice_closes_to (x:=sx l) (j:=j) ⟨by omega,by simp;omega⟩);rw[h];simp
theorem xm{C:Ct}{o o':Co}{a b c:E}{ρ ρ1 ρ2 ρ3:DEnv}{x y z:OR}{dx dy dz:PyData}{k:Bool}(f:ev C a ρ=some (x,ρ1))(e:ev C b ρ1=some (y,ρ2))(l:ag ρ2 x=some dx)(i:ag ρ2 y=some dy)(h:cF o dx dy=some true)(g:ev C c ρ2=some (z,ρ3))(d:ag ρ3 y=some dy)(j:ag ρ3 z=some dz)(h':cF o' dy dz=some k):ev C (.cmp2 o o' a b c) ρ=some (.val (.fz (.bool k)),ρ3):=bs f (bs e (bs l (bs i (bs h (bs g (bs d (bs j (bs h' rfl))))))))
theorem dats_fz:∀ds:List PyData,OD.dv (ds.map OD.fz)=some ds
 |[]=>rfl
 |d::ds=>by rw[aaj,OD.dv,dats_fz ds];rfl
theorem dat_fz(ds:List PyData):(OD.lst (ds.map OD.fz)).dat=some (.list ds):=by rw[OD.dat,dats_fz]
theorem jx{ρ a:DEnv}{j:Nat}{x:OD}{d:PyData}(h:ρ[j]?.join=some x)(b:x.dat=some d)(c:ρ.set j (some (.fz d))=a):frz1 ρ (.rf j)=some (d,a):=by simp only[frz1,h,Option.bind_some,b,abL,c]
theorem unca_nil{ρ a:DEnv}:cJ ρ [] a=ρ:=by cases a with|nil=>rfl|cons o a=>cases o<;>rfl
theorem allB_bools:∀(bs:List Bool),allB (bs.map PyData.bool)=some bs
 |[]=>rfl
 |b::bs=>by rw[aaj,allB,allB_bools bs];rfl
theorem yn{C:Ct}{e:E}{ρ ρ1:DEnv}{a:List Bool}(h:ev C e ρ=some (.val (.lst ((a.map PyData.bool).map OD.fz)),ρ1)):ev C (.blt .all (.cons e .nil)) ρ=some (.val (.fz (.bool (a.all id))),ρ1):=bI (ds:=[.list (a.map PyData.bool)]) (aa h av) (by show (ag _ _).bind _=_;rw[show ag ρ1 (.val (.lst ((a.map PyData.bool).map OD.fz)))=some (.list (a.map PyData.bool)) from dat_fz _];rfl) (by show (allB (a.map PyData.bool)).bind _=_;rw[allB_bools];rfl)
theorem tW{ds:List PyData}:cutD ds (some 1) none=ds.drop 1:=by
 unfold cutD;cases ds with
 |nil=>rfl
 |cons d ds=>
  have b:HT.sIx (d::ds).length 0 (some 1)=1:=by simp[HT.sIx]
  have a:HT.sIx (d::ds).length (d::ds).length none=(d::ds).length:=by simp[HT.sIx]
  rw[b,a,acd (by rw[aa8];exact aag _)]
theorem jy{C:Ct}{a:E}{lo hi:Eo}{ρ ρ1 ρ2 ρ3:DEnv}{x:OR}{l u:Option Int}{ds:List PyData}(e:ev C a ρ=some (x,ρ1))(c:uN C lo ρ1=some (l,ρ2))(b:uN C hi ρ2=some (u,ρ3))(f:rG ρ3 x=some ds)(d:¬ (HT.sIx ds.length 0 l=0/\HT.sIx ds.length ds.length u=ds.length)):ev C (.slt a lo hi) ρ=some (.val (.fz (.tuple (cutD ds l u))),ρ3):=bs e (bs c (bs b (bs f (bg d rfl))))
theorem AQ{C:Ct}{ρ:DEnv}{j:Nat}{d:PyData}{xs:List PyData}(h:ev C (.nm j) ρ=some (.val (.fz (.tuple (d::xs))),ρ)):ev C (.slt (.nm j) (.some (.int 1)) .none) ρ=some (.val (.fz (.tuple xs)),ρ):=by have:=jy (lo:=.some (.int 1)) (hi:=.none) (l:=some 1) (u:=none) (ρ2:=ρ) (ρ3:=ρ) h rfl rfl (ds:=d::xs) rfl (by simp[HT.sIx]);rw[tW]at this;exact this
theorem xn{a b:List PyData}:(bE a b).length<=b.length:=by simp only[bE,ace];exact Nat.min_le_right _ _
theorem AR{C:Ct}{neg:Bool}{x:Str}{kvs:List (Str×Str)}{a:E}{ρ ρ1:DEnv}{r:OR}{k:Str}(c:ev C a ρ=some (r,ρ1))(b:ag ρ1 r=some (.str k)):ev C (.kin neg x kvs a) ρ=some (.val (.fz (.bool (if neg then !(kvs.lookup k).isSome else (kvs.lookup k).isSome))),ρ1):=bs c (bs b (bs rfl rfl))
theorem AS{C:Ct}{neg:Bool}{x:Str}{kvs:List (Str×Str)}{a:E}{ρ ρ1:DEnv}{r:OR}{k:Str}(c:ev C a ρ=some (r,ρ1))(b:ag ρ1 r=some (.str k)):aZ C (.kin neg x kvs a) ρ=some (if neg then !(kvs.lookup k).isSome else (kvs.lookup k).isSome,ρ1):=bs (AR (x:=x) c b) rfl
theorem e_kgtQ{C:Ct}{x:Str}{kvs:List (Str×Str)}{a:E}{ρ ρ1:DEnv}{r:OR}{k v:Str}(d:ev C a ρ=some (r,ρ1))(c:ag ρ1 r=some (.str k))(b:kvs.lookup k=some v):ev C (.kgt x kvs a) ρ=some (.val (.fz (.str v)),ρ1):=bs d (bs c (bs rfl (bs b rfl)))
theorem lW{C:Ct}{a:E}{ρ ρ1:DEnv}{r:OR}{z:Str}(d:ev C a ρ=some (r,ρ1))(c:ag ρ1 r=some (.str z))(b:z.length<=1000000):ev C (.lns a) ρ=some (.val (It z.length),ρ1):=bs d (bs c (bs rfl (bg b rfl)))
theorem i_zpsQ{C:Ct}{a b:E}{ρ ρ1 ρ2 ρ3 c:DEnv}{x y:OR}{s:Str}{es:List PyData}{d:PyData}(h:ev C a ρ=some (x,ρ1))(f:ev C b ρ1=some (y,ρ2))(e:frz1 ρ2 x=some (.str s,ρ3))(i:frz1 ρ3 y=some (d,c))(g:pU d=some es):lz C (.zps a b) ρ=some (bE (kG s) es,c):=bs h (bs f (bs e (bs i (bs rfl (bs g rfl)))))
theorem gS{ds:List PyData}:z6 .len [.list ds]=some (.int ds.length):=rfl
theorem dG{C:Ct}{o:O2}{a b:E}{ρ ρ1 ρ2:DEnv}{x y:OR}{z:Str}{dy d:PyData}(g:ev C a ρ=some (x,ρ1))(e:ag ρ1 x=some (.str z))(c:ev C b ρ1=some (y,ρ2))(h:ag ρ2 y=some dy)(f:CY o z dy=some d):ev C (.op2 o a b) ρ=some (.val (.fz d),ρ2):=bs g (bs e (bs rfl (bs c (bs h (bs f rfl)))))
theorem lX{C:Ct}{a:E}{lo hi:Eo}{ρ ρ1 ρ2 ρ3:DEnv}{x:OR}{l u:Option Int}{z:Str}(e:ev C a ρ=some (x,ρ1))(c:uN C lo ρ1=some (l,ρ2))(b:uN C hi ρ2=some (u,ρ3))(f:ag ρ3 x=some (.str z))(d:z.length<=1000000):ev C (.sls a lo hi) ρ=some (.val (.fz (.str (Txt.slice z l u))),ρ3):=bs e (bs c (bs b (bs f (bs rfl (bg d rfl)))))
theorem lY{C:Ct}{a b:E}{ρ ρ1 ρ2:DEnv}{x y:OR}{z w:Str}(f:ev C a ρ=some (x,ρ1))(d:ag ρ1 x=some (.str z))(c:ev C b ρ1=some (y,ρ2))(g:ag ρ2 y=some (.str w))(e:z.length+w.length<=1000000):ev C (.op2 .cts a b) ρ=some (.val (.fz (.str (z++w))),ρ2):=dG f d c g (bg e rfl)
theorem kB{C:Ct}{e:E}{ρ ρ1:DEnv}{k:Int}(h:ev C e ρ=some (.val (It k),ρ1)):uN C (.some e) ρ=some (some k,ρ1):=bs h rfl
theorem jz{C:Ct}{e:E}{ρ ρ1:DEnv}{x:OR}{ds:List PyData}(b:ev C e ρ=some (x,ρ1))(a:(cC ρ1 x).bind seqOf=some ds):ev C (.bnw .list e) ρ=some (.val (.lst (ds.map OD.fz)),ρ1):=bs b (bs a rfl)
theorem tX{C:Ct}{t:Tg}{e:E}{ρ ρ1 ρ2 ρ3:DEnv}{x:OR}{z:OD}(h:ev C e ρ=some (x,ρ1))(a:own1 ρ1 x=some (z,ρ2))(b:aY t z ρ2=some ρ3):bT C (.asg t e) ρ=some (.nx,ρ3):=bs h (bs a (bs b rfl))
theorem q1{C:Ct}{s:S'}{ρ:DEnv}{f:Fl}{ρ1:DEnv}(h:bT C s ρ=some (f,ρ1)):aQ C (.cons s .nil) ρ=some (f,ρ1):=by cases f<;>exact bs h rfl
theorem tY{C:Ct}{e:E}{ρ ρ1:DEnv}{x:OR}{d:PyData}(c:ev C e ρ=some (x,ρ1))(b:ag ρ1 x=some d)(a:zV d=true):ev C (.sht e) ρ=some (.val (.fz (.str (lu d))),ρ1):=bs c (bs b (bg a rfl))
def enF:Nat->List PyData->List PyData
 |_,[]=>[]
 |p,x::r=>.tuple [.int p,x]::enF (p+1) r
theorem t9:∀(ds:List PyData) (p:Nat),(List.range ds.length).map (λ(i:Nat)=>PyData.tuple [.int ((i+p:Nat):Int),ds.getD i .none])=enF p ds
 |[],_=>rfl
 |x::ds,p=>by
  rw[aan,acf,aaj,aaI,enF,<-t9 ds (p+1)];congr 1
  ·simp
  ·refine abu λi _=>?_;show PyData.tuple [.int ((i+1+p:Nat):Int),_]=_;rw[show i+1+p=i+(p+1) by omega];rfl
theorem iI(ds:List PyData):fu ds=enF 0 ds:=t9 ds 0
theorem ck{lo:Int}{n:Nat}:cx lo (n+1)=.int lo::cx (lo+1) n:=by
 unfold cx;rw[acf,aaj,aaI];congr 1
 ·simp
 ·refine abu λi _=>?_;show PyData.int (lo+((i+1:Nat):Int))=_;congr 1;omega
theorem AU{rs:List R}:(Rs rs).dat=some (.list (rs.map R.d)):=by have:=dat_fz (rs.map R.d);rw[aaI]at this;exact this
theorem AV{C:Ct}{a:E}{ρ ρ1:DEnv}{k:Bool}(h:ev C a ρ=some (.val (.fz (.bool k)),ρ1)):ev C (.not a) ρ=some (.val (.fz (.bool (!k))),ρ1):=bs h (bs rfl (bs rfl rfl))
abbrev FS:List (Str×Str):=[(ap,"rn"),(bi,ce),(bm,ce),(bv,"r"),(ac,"t"),(am,"rt"),(bn,"")]
abbrev ltrs:List Nat:=[97,98,99,100,101,102,103,104,105,106,107,108,109,110,111,112,113,114,115,116,117,118,119,120,121,122]
theorem n9:(hY:Str)=sx ltrs:=by decide +kernel
theorem xo:(lf:Str)=sx [48,49,50,51,52,53,54,55,56,57]:=by decide +kernel
abbrev Sx(l:List Nat):OD:=.fz (.str (sx l))
abbrev pr(l:List Nat):Option OD:=some (Sx l)
theorem uc{l:List Nat}:kG (sx l)=l.map λc=>PyData.str (sx [c]):=by show (sx l).cps.toList.map _=_;simp
theorem oa{n:Nat}{ss:List Nat}:∀{l:List Nat}{out:List PyData}{o:Option OD},(∀c∈l,c∈ss)->∃o',bO (bH (pB n) (.nm 0) .none (.op2 .tin (.nm 0) (.nm 1))) (l.map λc=>PyData.str (sx [c])) out [o,pr ss]=some (out++(l.map λ_=>true).map PyData.bool,[o',pr ss])
 |[],out,o,_=>⟨o,by show some (out,_)=some (out++[],_);rw[aaq]⟩
 |c::l,out,o,h=>by obtain⟨o',e⟩:=oa (n:=n) (l:=l) (out:=out++[.bool true]) (o:=some (Sx [c])) λx a=>h x (aaf _ a);refine⟨o',bs (xh (ρ1:=[some (Sx [c]),pr ss]) rfl (dG (o:=.tin) (z:=sx [c]) (dy:=.str (sx ss)) (d:=.bool true) rfl rfl rfl rfl (show o2S .tin (sx [c]) (sx ss)=some (.bool true) by rw[EB,Dac (h c aah)])) rfl) (e.trans ?_)⟩;rw[aac];rfl
theorem lZ{n:Nat}{w ss:List Nat}{most:Nat}(m:1<=w.length)(j:w.length<=most)(i:w.length<=1000)(h:∀c∈w,c∈ss):pl.pg.call (n+1) 3 [Sx w,Sx ss,It most]=some (.fz (.bool true),[Sx w,Sx ss,It most]):=by
 obtain⟨o',e⟩:=oa (n:=n) (l:=w) (out:=[]) (o:=none) h;have g:ev (pB n) ea1 [pr w,pr ss,pc most]=some (.val (.lst (((w.map λ_=>true).map PyData.bool).map OD.fz)),[pr w,pr ss,pc most]):=
  cM (ρ1:=[pr w,pr ss,pc most]) (show lz _ _ _=some (w.map λc=>PyData.str (sx [c]),_) by rw[<-uc];rfl) (by rw[aaa];omega) rfl e rfl
 have d:=yn g;rw[show (w.map λ_=>true).all id=true by simp]at d;have f:ev (pB n) ebg [pr w,pr ss,pc most]=some (.val (.fz (.bool true)),[pr w,pr ss,pc most]):=by have:=xm (C:=pB n) (o:=.le) (o':=.le) (a:=.int 1) (b:=.lns (.nm 0)) (c:=.nm 2) (ρ:=[pr w,pr ss,pc most]) (dx:=.int 1) (dy:=.int (sx w).length) (dz:=.int most) (k:=true) rfl (lW rfl rfl (by rw[aC];omega)) rfl rfl (by rw[aC];show some (decide _)=_;rw[Dac (by omega)]) rfl rfl rfl (by rw[aC];show some (decide _)=_;rw[Dac (by omega)]);exact this
 exact ao (fn:=eh) (ρ:=[pr w,pr ss,pc most]) rfl rfl (aM (au (eZ f d) rfl)) rfl
def Lab(l:List Nat):Prop:=1<=l.length/\l.length<=8/\∀c∈l,c∈ltrs
theorem jA{n:Nat}{ρ:DEnv}:ev (pB n) (.gc 1) ρ=some (.val (Sx ltrs),ρ):=by show some (OR.val (.fz (.str hY)),ρ)=_;rw[n9]
theorem og{n:Nat}{l:List Nat}(h:Lab l):pl.pg.call (n+2) 4 [Sx l]=some (.fz (.bool true),[Sx l]):=by have e:=lZ (n:=n) (ss:=ltrs) (most:=8) h.1 h.2.1 (by have:=h.2.1;omega) h.2.2;exact ao (fn:=gN) (ρ:=[pr l]) rfl rfl (aM (au (af (ρ3:=[pr l]) (aa rfl (aa jA (aa rfl av))) rfl e rfl) rfl)) rfl
structure Fig (l:List Nat)(v:Int):Prop where
 l1:1<=l.length
 l8:l.length<=8
 dg:∀c∈l,c∈[48,49,50,51,52,53,54,55,56,57]
 z:l=[48]\/l.head?≠some 48
 int:intText? (sx l)=some v
theorem qe{c:Nat}{l:List Nat}:Txt.startswith (sx l) (sx [c])=decide (l.head?=some c):=by
 unfold Txt.startswith;rw[StrLaws.subAt_eq,aC,aC];cases l with
 |nil=>simp
 |cons a b=>simp;exact aa0.mpr (by simp)
theorem AW{n:Nat}{l:List Nat}{v:Int}(h:Fig l v):pl.pg.call (n+2) 5 [Sx l]=some (.fz (.bool true),[Sx l]):=by
 have e:=lZ (n:=n) (ss:=[48,49,50,51,52,53,54,55,56,57]) (most:=8) h.l1 h.l8 (by have:=h.l8;omega) h.dg;have d:ev (pB (n+1)) (.gc 0) [pr l]=some (.val (Sx [48,49,50,51,52,53,54,55,56,57]),[pr l]):=by show some (OR.val (.fz (.str lf)),_)=_;rw[xo]
 have c:("0":Str)=sx [48]:=by decide +kernel
 have a:ev (pB (n+1)) Hd [pr l]=some (.val (.fz (.bool (decide (sx l=sx [48])))),[pr l]):=by exact Eq.trans (aj (k:=decide (sx l="0")) rfl rfl rfl rfl rfl) (by rw[c])
 have g:ev (pB (n+1)) ea0 [pr l]=some (.val (.fz (.bool true)),[pr l]):=by
  by_cases b:l=[48]
  ·rw[Dac (by rw[b])]at a;exact yg a
  ·rw[Dab (λz=>b (jv z))]at a;have i:=h.z.resolve_left b;have f:ev (pB (n+1)) (.op2 .sws (.nm 0) (.str "0")) [pr l]=some (.val (.fz (.bool false)),[pr l]):=by exact dG (o:=.sws) (z:=sx l) (dy:=.str "0") rfl rfl rfl rfl (show some (PyData.bool (Txt.startswith (sx l) "0"))=_ by rw[c,qe,Dab i])
   exact yh a (AV f)
 exact ao (fn:=ei) (ρ:=[pr l]) rfl rfl (aM (au (eZ (af (ρ3:=[pr l]) (aa rfl (aa d (aa rfl av))) rfl e rfl) g) rfl)) rfl
structure Pt where
 s:Nat
 tx:List Nat
 v:Int
inductive Pt.ok:Pt->Prop
 |r (k:Nat) (h:k<5):Pt.ok ⟨114,[97+k],k⟩
 |n (l:List Nat) (v:Int) (h:Fig l v):Pt.ok ⟨110,l,v⟩
 |t (l:List Nat) (v:Int) (h:Lab l):Pt.ok ⟨116,l,v⟩
theorem AX{n:Nat}{p:Pt}(h:p.ok):pl.pg.call (n+3) 6 [Sx [p.s],Sx p.tx]=some (.fz (.bool true),[Sx [p.s],Sx p.tx]):=by
 have d:(pB (n+2)).call=pl.pg.call (n+2):=rfl;have f:∀c:Nat,c=110\/c=116->cF .eq (.str (sx [c])) (.str "r")=some false:=λc h=>by rcases h with rfl|rfl<;>decide +kernel
 cases h with
 |r k j=>
  have e:=lZ (n:=n+1) (w:=[97+k]) (ss:=[97,98,99,100,101]) (most:=1) (by simp) (by simp) (by simp) (by intro c i;simp at i ⊢;omega);rw[<-d]at e;have g:ev (pB (n+2)) (.sls (.gc 1) .none (.some (.gc 4))) [some (Sx [114]),some (Sx [97+k])]=some (.val (Sx [97,98,99,100,101]),[some (Sx [114]),some (Sx [97+k])]):=by have:=lX (C:=pB (n+2)) (a:=.gc 1) (lo:=.none) (hi:=.some (.gc 4)) (ρ:=[some (Sx [114]),some (Sx [97+k])]) (l:=none) (u:=some 5) (z:=sx ltrs) jA rfl (kB (k:=5) rfl) rfl (by rw[aC];decide);rw[show (5:Int)=((5:Nat):Int) from rfl,AO (by decide)]at this;exact this
  exact ao (fn:=cV) (ρ:=[some (Sx [114]),some (Sx [97+k])]) rfl rfl (aM (bj (ah (aj rfl rfl rfl rfl (show cF .eq (.str (sx [114])) (.str "r")=some true by decide +kernel))) (aM (au (af (ρ3:=[some (Sx [114]),some (Sx [97+k])]) (aa rfl (aa g (aa rfl av))) rfl e rfl) rfl)))) rfl
 |n l v b=>have e:=AW (n:=n) b;rw[<-d]at e;exact ao (fn:=cV) (ρ:=[some (Sx [110]),pr l]) rfl rfl (ae (s_ifF (ah (aj rfl rfl rfl rfl (f 110 (.inl rfl)))) rfl) (aM (au (gK (ah (aj rfl rfl rfl rfl (show cF .eq (.str (sx [110])) (.str "n")=some true by decide +kernel))) (af (ρ3:=[some (Sx [110]),pr l]) rfl rfl e rfl)) rfl))) rfl
 |t l v b=>have e:=og (n:=n) b;rw[<-d]at e;exact ao (fn:=cV) (ρ:=[some (Sx [116]),pr l]) rfl rfl (ae (s_ifF (ah (aj rfl rfl rfl rfl (f 116 (.inr rfl)))) rfl) (aM (au (e_ifF (ah (aj rfl rfl rfl rfl (show cF .eq (.str (sx [116])) (.str "n")=some false by decide +kernel))) (af (ρ3:=[some (Sx [116]),pr l]) rfl rfl e rfl)) rfl))) rfl
theorem jB{n:Nat}{l:List Nat}:pl.pg.call (n+1) 7 [Sx l]=some (.fz (.bool (decide (l.getLast?=some 58))),[Sx l]):=by
 have a:(":":Str)=sx [58]:=by decide +kernel
 refine ao (fn:=cZ) (ρ:=[pr l]) rfl rfl (aM (au (dG (o:=.ews) (z:=sx l) (dy:=.str ":") rfl rfl rfl rfl (show some (PyData.bool (Txt.endswith (sx l) ":"))=_ by rw[a,xl])) rfl)) rfl
inductive Ln where|lb (l:List Nat)|rl (w:List Nat)(f:Str)(ps:List Pt)
def Ln.tx:Ln->List Nat
 |.lb l=>l++[58]
 |.rl w _ ps=>jn 32 (w::ps.map Pt.tx)
inductive Ln.ok:Ln->Prop
 |lb (l:List Nat) (h:Lab l):Ln.ok (.lb l)
 |rl (w:List Nat) (f:Str) (ps:List Pt) (h1:FS.lookup (sx w)=some f) (h2:kG f=ps.map λp=>PyData.str (sx [p.s])) (h3:f.length=ps.length) (h4:∀p∈ps,p.ok) (h5:w≠[]/\w.length<=4/\∀c∈w,c∈ltrs) (h6:ps.length<=2):Ln.ok (.rl w f ps)
theorem Pt.ok.sg{p:Pt}(h:p.ok):p.tx≠[]/\p.tx.length<=8/\∀c∈p.tx,c∈ltrs\/c∈[48,49,50,51,52,53,54,55,56,57]:=by
 cases h with
 |r k d=>exact⟨by simp,by simp,λc b=>.inl (by simp at b ⊢;omega)⟩
 |n l v a=>exact⟨λz=>by have:=a.l1;simp[show l=[] from z]at this,a.l8,λc b=>.inr (a.dg c b)⟩
 |t l v a=>exact⟨λz=>by have:=a.1;simp[show l=[] from z]at this,a.2.1,λc b=>.inl (a.2.2 c b)⟩
theorem jn_mem{d c:Nat}:∀{ps:List (List Nat)},c∈jn d ps->c=d\/∃p∈ps,c∈p
 |[],h=>by simp[jn]at h
 |[a],h=>.inr ⟨a,by simp,h⟩
 |a::b::r,h=>by
  simp only[jn,aai,aab]at h;rcases h with h|h|h
  ·exact .inr ⟨a,by simp,h⟩
  ·exact .inl h
  ·exact(jn_mem h).imp id λ⟨p,e,f⟩=>⟨p,aaf _ e,f⟩
theorem iJ{w:List Nat}{f:Str}{ps:List Pt}(h:Ln.ok (.rl w f ps)):∀c∈(Ln.rl w f ps).tx,c=32\/c∈ltrs\/c∈[48,49,50,51,52,53,54,55,56,57]:=by
 cases h with
 |rl _ _ _ m l j i g k=>
  intro c e;rcases jn_mem e with h|⟨p,b,a⟩
  ·exact .inl h
  ·rcases aab.mp b with rfl|b
   ·exact .inr (.inl (g.2.2 c a))
   ·obtain⟨q,d,rfl⟩:=aal.mp b;exact .inr ((i q d).sg.2.2 c a)
theorem row_parts{w:List Nat}{f:Str}{ps:List Pt}(h:Ln.ok (.rl w f ps)):∀q∈w::ps.map Pt.tx,32 ∉ q:=by
 cases h with
 |rl _ _ _ j i e d c g=>
  intro q a z;rcases aab.mp a with rfl|a
  ·have:=c.2.2 _ z;revert this;decide
  ·obtain⟨p,b,rfl⟩:=aal.mp a;have:=(d p b).sg.2.2 _ z;revert this;decide
theorem jC{w:List Nat}{f:Str}{ps:List Pt}(h:Ln.ok (.rl w f ps)):(Ln.rl w f ps).tx.length<=30:=by
 cases h with
 |rl _ _ _ g d c a e b=>
  show (jn 32 (w::ps.map Pt.tx)).length<=30
  match ps,b,a with
  |[],_,_=>simp[jn];omega
  |[p],_,a=>have:=(a p (by simp)).sg.2.1;simp[jn];omega
  |[p,q],_,a=>have:=(a p (by simp)).sg.2.1;have:=(a q (by simp)).sg.2.1;simp[jn];omega
theorem fe{w:List Nat}{f:Str}{ps:List Pt}(h:Ln.ok (.rl w f ps)):decide ((Ln.rl w f ps).tx.getLast?=some 58)=false:=by rw[Dab];intro z;have:=iJ h 58 (List.mem_of_getLast? z);revert this;decide
theorem gU{l:List Nat}:decide ((Ln.lb l).tx.getLast?=some 58)=true:=by rw[Dac];show (l++[58]).getLast?=_;simp
abbrev Dx(q:List Nat):PyData:=.str (sx q)
theorem oh:(" ":Str)=sx [32]:=by decide +kernel
theorem l5{C:Ct}{a b:E}{ρ ρ1 ρ2:DEnv}{x y:OR}{c:Nat}{w:Str}{ps:List (List Nat)}(g:ev C a ρ=some (x,ρ1))(d:ag ρ1 x=some (Dx (jn c ps)))(i:ev C b ρ1=some (y,ρ2))(m:ag ρ2 y=some (.str w))(l:w=sx [c])(k:ps≠[])(h:∀p∈ps,c ∉ p)(f:(jn c ps).length<=1000000)(j:ps.length<=1000000):ev C (.spl a b) ρ=some (.val (.lst ((ps.map Dx).map OD.fz)),ρ2):=by subst l;have e:=tV k h;refine bs g (bs d (bs rfl (bs i (bs m (bs rfl (bg ⟨rfl,by rw[aC];exact f,by rw[e,aaa];exact j⟩ ?_))))));rw[e,aaI,aaI];rfl
theorem ud{i j:Nat}{ρ:DEnv}{w:List Nat}{qs:List PyData}(hi:i<ρ.length)(b:j<ρ.length)(a:qs.length<16384):aY (.st i j) (.lst ((Dx w::qs).map OD.fz)) ρ=some (bS [i,j] [Sx w,.lst (qs.map OD.fz)] ρ):=by refine bs (show listOf (.lst ((Dx w::qs).map OD.fz))=some (Dx w::qs) from eM _) (bs rfl (bg ⟨a,hi,b⟩ rfl))
abbrev pZ(ps:List Pt):List PyData:=ps.map λp=>.tuple [Dx [p.s],Dx p.tx]
theorem oj:∀ps:List Pt,bE (ps.map λp=>Dx [p.s]) ((ps.map Pt.tx).map Dx)=pZ ps:=by
 intro ps;induction ps with
 |nil=>rfl
 |cons p ps a=>simpa[bE] using a
theorem om{n:Nat}:∀{ps:List Pt}{out:List PyData}{o1 o2:Option OD},(∀p∈ps,p.ok)->∃a p2,bO (bH (pB (n+3)) (.tp [0,1]) .none ebj) (pZ ps) out [o1,o2]=some (out++(ps.map λ_=>true).map PyData.bool,[a,p2])
 |[],out,o1,o2,_=>⟨o1,o2,by show some (out,_)=some (out++[],_);rw[aaq]⟩
 |p::ps,out,o1,o2,h=>by obtain⟨a,p2,e⟩:=om (n:=n) (ps:=ps) (out:=out++[.bool true]) (o1:=some (Sx [p.s])) (o2:=pr p.tx) λx c=>h x (aaf _ c);have b:=AX (n:=n) (h p aah);have d:(pB (n+3)).call=pl.pg.call (n+3):=rfl;rw[<-d]at b;refine⟨a,p2,bs (xh (ρ1:=[some (Sx [p.s]),pr p.tx]) rfl (af (ρ3:=[some (Sx [p.s]),pr p.tx]) rfl rfl b rfl) rfl) (e.trans ?_)⟩;rw[aac];rfl
theorem qf{n:Nat}{L:Ln}(h:L.ok):pl.pg.call (n+4) 8 [Sx L.tx]=some (.fz (.bool true),[Sx L.tx]):=by
 have v:(pB (n+3)).call=pl.pg.call (n+3):=rfl;have q:=jB (n:=n+2) (l:=L.tx);rw[<-v]at q;have e:aZ (pB (n+3)) ecj [pr L.tx,none,none]=some (decide (L.tx.getLast?=some 58),[pr L.tx,none,none]):=eX (af (ρ3:=[pr L.tx,none,none]) rfl rfl q rfl);cases L with
 |lb l=>
  rw[gU]at e;have p:Lab l:=by cases h;assumption
  have j:=og (n:=n+1) p;rw[<-v]at j;have g:ev (pB (n+3)) (.sls (.nm 0) .none (.some (.neg (.int 1)))) [pr (Ln.lb l).tx,none,none]=some (.val (Sx l),[pr (Ln.lb l).tx,none,none]):=by have:=lX (C:=pB (n+3)) (a:=.nm 0) (lo:=.none) (hi:=.some (.neg (.int 1))) (ρ:=[some (Sx (l++[58])),none,none]) (l:=none) (u:=some (-1)) (z:=sx (l++[58])) rfl rfl (kB (k:=-1) rfl) rfl (by rw[aC];have:=p.2.1;simp;omega);rw[kA]at this;exact this
  exact ao (fn:=cA) (ρ:=[pr (Ln.lb l).tx,none,none]) rfl rfl (aM (bj e (aM (au (af (ρ3:=[pr (Ln.lb l).tx,none,none]) (aa g av) rfl j rfl) rfl)))) rfl
 |rl w f ps=>
  rw[fe h]at e;have H:=row_parts h;have i:=jC h;cases h with
  |rl _ _ _ r B I M P N=>
  have F:(FS.lookup (sx w)).isSome=true:=by rw[r];rfl
  obtain⟨t,m⟩:∃t,t=(Ln.rl w f ps).tx:=⟨_,rfl⟩
  have j:bT (pB (n+3)) ebs [pr t,none,none]=some (.nx,[pr t,pr w,some (.lst (((ps.map Pt.tx).map Dx).map OD.fz))]):=
   tX (l5 (c:=32) (ps:=w::ps.map Pt.tx) (w:=" ") (x:=.val (Sx t)) rfl (by rw[m];rfl) rfl rfl oh (by simp) H (by have:(jn 32 (w::ps.map Pt.tx)).length<=30:=i;omega) (by simp;omega)) rfl (ud (by simp) (by simp) (by simp;omega))
  have J:aZ (pB (n+3)) (.kin true ci FS (.nm 1)) [pr t,pr w,some (.lst (((ps.map Pt.tx).map Dx).map OD.fz))]=some (false,[pr t,pr w,some (.lst (((ps.map Pt.tx).map Dx).map OD.fz))]):=by have:=AS (C:=pB (n+3)) (neg:=true) (x:=ci) (kvs:=FS) (a:=.nm 1) (ρ:=[pr t,pr w,some (.lst (((ps.map Pt.tx).map Dx).map OD.fz))]) (k:=sx w) rfl rfl;rw[F]at this;exact this
  have o:ev (pB (n+3)) (.kgt ci FS (.nm 1)) [pr t,pr w,some (.lst (((ps.map Pt.tx).map Dx).map OD.fz))]=some (.val (.fz (.str f)),[pr t,pr w,some (.lst (((ps.map Pt.tx).map Dx).map OD.fz))]):=e_kgtQ rfl rfl r;have D:ev (pB (n+3)) eca [pr t,pr w,some (.lst (((ps.map Pt.tx).map Dx).map OD.fz))]=some (.val (It ps.length),[pr t,pr w,some (.lst (((ps.map Pt.tx).map Dx).map OD.fz))]):=by have:=bI (C:=pB (n+3)) (g:=.len) (es:=.cons (.nm 2) .nil) (ρ:=[pr t,pr w,some (.lst (((ps.map Pt.tx).map Dx).map OD.fz))]) (rs:=[.rf 2]) (ds:=[.list ((ps.map Pt.tx).map Dx)]) rfl (by show (ag _ _).bind _=_;rw[show ag [pr t,pr w,some (OD.lst (((ps.map Pt.tx).map Dx).map OD.fz))] (.rf 2)=some (.list ((ps.map Pt.tx).map Dx)) from dat_fz _];rfl) gS;rw[aaa,aaa]at this;exact this
  have G:aZ (pB (n+3)) (.cmp .ne eca (.lns (.kgt ci FS (.nm 1)))) [pr t,pr w,some (.lst (((ps.map Pt.tx).map Dx).map OD.fz))]=some (false,[pr t,pr w,some (.lst (((ps.map Pt.tx).map Dx).map OD.fz))]):=by refine ah (aj (dx:=.int ps.length) (dy:=.int f.length) D (lW o rfl (by omega)) rfl rfl ?_);rw[I];show some (!decide ((ps.length:Int)=ps.length))=_;rw[Dac rfl];rfl
  obtain⟨Q,O,A⟩:=om (n:=n) (ps:=ps) (out:=[]) (o1:=none) (o2:=none) M;rw[<-oj,<-B]at A;have y:=yn (cM (C:=pB (n+3)) (nt:=2) (fr:=[]) (ρ1:=[pr t,pr w,some (.fz (.list ((ps.map Pt.tx).map Dx)))]) (i_zpsQ (a:=.kgt ci FS (.nm 1)) (b:=.nm 2) (s:=f) (es:=(ps.map Pt.tx).map Dx) o rfl rfl (jx (x:=.lst (((ps.map Pt.tx).map Dx).map OD.fz)) (d:=.list ((ps.map Pt.tx).map Dx)) rfl (dat_fz _) rfl) rfl) (by have:=xn (a:=kG f) (b:=(ps.map Pt.tx).map Dx);simp at this ⊢;omega) rfl A rfl);rw[show (ps.map λ_=>true).all id=true by simp]at y;rw[<-m]at e ⊢;exact ao (fn:=cA) rfl rfl (ae (s_ifF e rfl) (ae j (ae (s_ifF (nW J G) rfl) (aM (au y rfl))))) rfl
theorem AY{C:Ct}{i:Nat}{g e:E}{ρ:DEnv}{d kd:PyData}{f:Key}{ks b:List Key}{xs a:List OD}{ρ3:DEnv}(j:ev C e ρ=some (.val (.fz d),ρ))(h:ρ[i]?.join=some (.dic ks xs))(hk:ev C g ρ=some (.val (.fz kd),ρ))(c:keyOf kd=some f)(k:xs.length<1000000)(l:cy f d ks xs=(b,a))(m:ρ.set i (some (.dic b a))=ρ3):bT C (.sdk i g e) ρ=some (.nx,ρ3):=bs j (bs (x:=(d,ρ)) rfl (bs h (bs rfl (bs hk (bs (x:=kd) rfl (bs c (bs h (bs rfl (bg k (by rw[l,<-m]))))))))))
theorem AZ{C:Ct}{i:Nat}{o:Bo}{e:E}{ρ ρ1 ρ2:DEnv}{a r:Int}{x:OR}{d:PyData}(f:ρ[i]?.join=pc a)(g:ev C e ρ=some (x,ρ1))(c:ag ρ1 x=some d)(b:v3 o a d=some r)(h:ρ1.set i (pc r)=ρ2):bT C (.aug i o e) ρ=some (.nx,ρ2):=bs f (bs rfl (bs rfl (bs g (bs c (bs b (by rw[<-h]))))))
theorem ue{C:Ct}{neg:Bool}{e:E}{i:Nat}{ρ ρ1:DEnv}{x:OR}{dx:PyData}{a:Key}{ks:List Key}{xs:List OD}(h:ev C e ρ=some (x,ρ1))(c:ag ρ1 x=some dx)(b:ρ1[i]?.join=some (.dic ks xs))(hk:keyOf dx=some a):aZ C (.din neg e i []) ρ=some (if neg then !(ks.any λq=>decide (q=a)) else ks.any λq=>decide (q=a),ρ1):=by have p:bq ρ1 i []=some (.dic ks xs,[],.dic ks xs):=bs b rfl;exact bs (show ev C (.din neg e i []) ρ=some (.val (.fz (.bool (if neg then !(ks.any λq=>decide (q=a)) else ks.any λq=>decide (q=a)))),ρ1) from bs h (bs c (bs p (bs hk (bs rfl rfl))))) rfl
abbrev LD:=List (List Nat×Nat)
abbrev kL(l:List Nat):Key:=.inr (sx l)
abbrev Dc(D:LD):OD:=.dic (D.map λz=>kL z.1) (D.map λz=>It z.2)
abbrev pu(D:LD):Option OD:=some (Dc D)
theorem uf{a b:List Nat}(h:kL a=kL b):a=b:=jv (abe h)
theorem ug{D:LD}{l:List Nat}(h:l ∉ D.map (·.1)):((D.map λz=>kL z.1).any λq=>decide (q=kL l))=false:=by rw[List.any_eq_false];intro q a;obtain⟨z,b,rfl⟩:=aal.mp a;simp only[decide_eq_true_eq];exact λe=>h (aal.mpr ⟨z,b,uf e⟩)
theorem xp{D:LD}{l:List Nat}(h:l∈D.map (·.1)):((D.map λz=>kL z.1).any λq=>decide (q=kL l))=true:=by rw[abw];obtain⟨z,a,rfl⟩:=aal.mp h;exact⟨kL z.1,aal.mpr ⟨z,a,rfl⟩,by simp⟩
def bo:List Ln->Nat->LD->LD
 |[],_,D=>D
 |.lb l::r,m,D=>bo r m (D++[(l,m)])
 |.rl _ _ _::r,m,D=>bo r (m+1) D
def lbs:List Ln->List (List Nat)
 |[]=>[]
 |.lb l::r=>l::lbs r
 |.rl _ _ _::r=>lbs r
abbrev cP(Ls:List Ln):List PyData:=Ls.map λL=>Dx L.tx
abbrev gB:Ss:=.cons ea2 eac
abbrev gE(o0 o1:Option OD)(D:LD)(m:Nat)(o4 o5:Option OD):DEnv:=[o0,o1,pu D,pc m,o4,o5]
theorem l6{n:Nat}{o0 o1:Option OD}:∀{Ls:List Ln}{k m:Nat}{D:LD}{o4 o5:Option OD},(∀L∈Ls,L.ok)->(D.map (·.1)++lbs Ls).Nodup->D.length+Ls.length<=100000->∃c j b,bF (λd r=>(aY (.tp [4,5]) (.fz d) r).bind λρ1=>aQ (pB (n+4)) gB ρ1) (enF k (cP Ls)) (gE o0 o1 D m o4 o5)=some (.nx,gE o0 o1 (bo Ls m D) c j b)
 |[],k,m,D,o4,o5,_,_,_=>⟨m,o4,o5,rfl⟩
 |L::Ls,k,m,D,o4,o5,h,nd,hl=>by
  have H:(pB (n+4)).call=pl.pg.call (n+4):=rfl;have s:=h L aah;have B:=λx J=>h x (aaf L J);have t:=qf (n:=n) s;have F:=jB (n:=n+3) (l:=L.tx);rw[<-H]at t F;have A:aZ (pB (n+4)) Hi (gE o0 o1 D m (pc k) (pr L.tx))=some (false,gE o0 o1 D m (pc k) (pr L.tx)):=eY (k:=true) (eX (af (ρ3:=gE o0 o1 D m (pc k) (pr L.tx)) rfl rfl t rfl));have q:aZ (pB (n+4)) Hh (gE o0 o1 D m (pc k) (pr L.tx))=some (!decide (L.tx.getLast?=some 58),gE o0 o1 D m (pc k) (pr L.tx)):=eY (eX (af (ρ3:=gE o0 o1 D m (pc k) (pr L.tx)) rfl rfl F rfl));rw[aan]at hl;cases L with
  |lb l=>
   rw[gU]at q;have o:Lab l:=by cases s;assumption
   have p:(D.map (·.1)++l::lbs Ls).Nodup:=nd;have v:l ∉ D.map (·.1):=λz=>(aaA.mp p).2.2 l z l aah rfl;have g:ev (pB (n+4)) (.sls (.nm 5) .none (.some (.neg (.int 1)))) (gE o0 o1 D m (pc k) (pr (Ln.lb l).tx))=some (.val (Sx l),gE o0 o1 D m (pc k) (pr (Ln.lb l).tx)):=by have:=lX (C:=pB (n+4)) (a:=.nm 5) (lo:=.none) (hi:=.some (.neg (.int 1))) (ρ:=gE o0 o1 D m (pc k) (some (Sx (l++[58])))) (l:=none) (u:=some (-1)) (z:=sx (l++[58])) rfl rfl (kB (k:=-1) rfl) rfl (by rw[aC];have:=o.2.1;simp;omega);rw[kA]at this;exact this
   have y:=ue (neg:=false) (i:=2) g (dx:=Dx l) rfl rfl rfl;rw[ug v]at y;have I:cy (kL l) (.int m) (D.map λz=>kL z.1) (D.map λz=>It z.2)=((D++[(l,m)]).map λz=>kL z.1,(D++[(l,m)]).map λz=>It z.2):=by unfold cy;rw[ug v];simp
   obtain⟨c,j,b,e⟩:=l6 (n:=n) (o0:=o0) (o1:=o1) (Ls:=Ls) (k:=k+1) (m:=m) (D:=D++[(l,m)]) (o4:=pc k) (o5:=pr (Ln.lb l).tx) B (by rw[aaC,aac];exact p) (by simp;omega);exact⟨c,j,b,bs (bs rfl (ae (s_ifF A rfl) (ae (s_ifF q (ae (s_ifF y (ae (AY (d:=.int m) (kd:=Dx l) rfl rfl g rfl (by rw[aaa];omega) I rfl) rfl)) rfl)) rfl))) e⟩
  |rl w f G=>rw[fe s]at q;obtain⟨c,j,b,e⟩:=l6 (n:=n) (o0:=o0) (o1:=o1) (Ls:=Ls) (k:=k+1) (m:=m+1) (D:=D) (o4:=pc k) (o5:=pr (Ln.rl w f G).tx) B nd (by omega);exact⟨c,j,b,bs (bs rfl (ae (s_ifF A rfl) (ae (bj q (ae (AZ rfl rfl rfl rfl rfl) rfl)) rfl))) e⟩
theorem uh{C:Ct}{a b:E}{ρ ρ1 ρ2 ρ3:DEnv}{x y:OR}{ds:List PyData}(e:ev C a ρ=some (x,ρ1))(d:ev C b ρ1=some (y,ρ2))(c:ag ρ2 y=some (.int 0))(f:frz1 ρ2 x=some (.list ds,ρ3)):lz C (.enk a b) ρ=some (enF 0 ds,ρ3):=by rw[<-iI];exact bs e (bs d (bs c (bs rfl (bg rfl (bs f (bs rfl rfl))))))
theorem ui{n:Nat}{Ls:List Ln}(h:∀L∈Ls,L.ok)(b:(lbs Ls).Nodup)(a:Ls.length<=100000):pl.pg.call (n+5) 9 [.fz (.list (cP Ls)),It 0]=some (Dc (bo Ls 0 []),[.fz (.list (cP Ls)),It 0]):=by obtain⟨f,c,d,e⟩:=l6 (n:=n) (o0:=some (.fz (.list (cP Ls)))) (o1:=pc 0) (Ls:=Ls) (k:=0) (m:=0) (D:=[]) (o4:=none) (o5:=none) h (by simpa using b) (by simpa using a);exact ao (fn:=fw) rfl rfl (ae (ρ1:=[some (.fz (.list (cP Ls))),pc 0,some (Dc []),none,none,none]) rfl (ae (s_setQ rfl rfl rfl rfl) (ae (fv (uh (x:=.val (.fz (.list (cP Ls)))) rfl rfl rfl rfl) e) (aM (au (x:=.rf 2) (z:=Dc (bo Ls 0 [])) rfl rfl))))) rfl
theorem l7{C:Ct}{i:Nat}{e:E}{ρ ρ1 ρ2:DEnv}{x:OR}{xs ys:List PyData}(g:ρ[i]?.join=some (.fz (.tuple xs)))(h:ev C e ρ=some (x,ρ1))(b:rG ρ1 x=some ys)(c:xs≠[])(d:ys≠[])(a:xs.length+ys.length<=1000000)(f:ρ1.set i (some (.fz (.tuple (xs++ys))))=ρ2):bT C (.aut i e) ρ=some (.nx,ρ2):=bs g (bs rfl (bs rfl (bs h (bs b (bg ⟨c,d,a⟩ (by rw[<-f]))))))
theorem A6{C:Ct}{a:E}{ρ ρ1:DEnv}{x:OR}{z:Str}{v:Int}(d:ev C a ρ=some (x,ρ1))(c:ag ρ1 x=some (.str z))(b:intText? z=some v)(e:z.length<=640):ev C (.ist a) ρ=some (.val (It v),ρ1):=bs d (bs c (bs rfl (bs b (bg e rfl))))
theorem find_key:∀{D:LD}{l:List Nat}{v:Nat},(D.map (·.1)).Nodup->(l,v)∈D->∃j:Nat,(D.map λz=>kL z.1).findIdx? (λq=>decide (q=kL l))=some j/\(D.map λz=>It z.2)[j]?=pc v
 |[],l,v,_,h=>by cases h
 |z::D,l,v,nd,h=>by
  rw[aaj,abO];rw[aaj]at nd;rcases aab.mp h with rfl|h
  ·exact⟨0,by simp,rfl⟩
  ·have a:z.1≠l:=λe=>(aay.mp nd).1 (aal.mpr ⟨_,h,e.symm⟩);obtain⟨j,c,b⟩:=find_key (aay.mp nd).2 h;refine⟨j+1,?_,by simpa using b⟩;rw[Dab (λe=>a (uf e)),c];rfl
theorem EC{C:Ct}{ρ:DEnv}{i j:Nat}{D:LD}{l:List Nat}{v:Nat}(d:ρ[i]?.join=pu D)(f:ρ[j]?.join=pr l)(m:(D.map (·.1)).Nodup)(h:(l,v)∈D):ev C (.pg i [.key j]) ρ=some (.val (It v),ρ):=by obtain⟨k,g,a⟩:=find_key m h;have b:bq ρ i []=some (Dc D,[],Dc D):=bs d rfl;have c:accN ρ (Dc D) (.key j)=some k:=bs f (bs rfl (bs rfl (bs rfl g)));have e:bq ρ i [.key j]=some (Dc D,[]++[k],It v):=bs b (bs c (bs a rfl));exact GH e rfl
theorem A7{k:Nat}(h:k<5):o2S .six (sx ltrs) (sx [97+k])=some (.int k):=by
 have e:(Builtin.Str.occurrences (sx ltrs) (sx [97+k]) 0 (sx ltrs).length 1).head?=some k:=by
  have:k=0\/k=1\/k=2\/k=3\/k=4:=by omega
  rcases this with rfl|rfl|rfl|rfl|rfl<;>decide +kernel
 exact bs e rfl
abbrev rB:Ss:=.cons eaa .nil
abbrev rE(o0 o1:Option OD)(D:LD)(o3 o4:Option OD)(acc:List PyData)(o6 o7:Option OD):DEnv:=[o0,o1,pu D,o3,o4,some (.fz (.tuple acc)),o6,o7]
theorem uj{n:Nat}{o0 o1 o3 o4:Option OD}{D:LD}(y:(D.map (·.1)).Nodup):∀{ps:List Pt}{acc:List PyData}{o6 o7:Option OD},(∀p∈ps,p.ok)->(∀p∈ps,p.s=116->∃v:Nat,p.v=v/\(p.tx,v)∈D)->acc≠[]->acc.length+ps.length<=100 ->
  ∃c a,bF (λd j=>(aY (.tp [6,7]) (.fz d) j).bind λρ1=>aQ (pB n) rB ρ1) (pZ ps) (rE o0 o1 D o3 o4 acc o6 o7)=some (.nx,rE o0 o1 D o3 o4 (acc++ps.map λp=>.int p.v) c a)
 |[],acc,o6,o7,_,_,_,_=>⟨o6,o7,by rw[aaL,aaq];rfl⟩
 |p::ps,acc,o6,o7,h,hd,na,hl=>by
  rw[aan]at hl;obtain⟨c,a,e⟩:=uj (n:=n) (o0:=o0) (o1:=o1) (o3:=o3) (o4:=o4) y (ps:=ps) (acc:=acc++[.int p.v]) (o6:=some (Sx [p.s])) (o7:=pr p.tx) (λx q=>h x (aaf _ q)) (λx q=>hd x (aaf _ q)) (by simp) (by simp;omega);rw[aac]at e;have F:=h p aah;have B:=hd p aah;have f:([PyData.int p.v]:List PyData)≠[]:=by simp
  have b:acc.length+([PyData.int p.v]:List PyData).length<=1000000:=by simp;omega
  refine⟨c,a,bs (x:=(Fl.nx,rE o0 o1 D o3 o4 (acc++[.int p.v]) (some (Sx [p.s])) (pr p.tx))) (bs (x:=rE o0 o1 D o3 o4 acc (some (Sx [p.s])) (pr p.tx)) rfl ?_) e⟩;clear e;cases F with
  |r k A=>have g:ev (pB n) (.op2 .six (.gc 1) (.nm 7)) (rE o0 o1 D o3 o4 acc (some (Sx [114])) (some (Sx [97+k])))=some (.val (It k),rE o0 o1 D o3 o4 acc (some (Sx [114])) (some (Sx [97+k]))):=dG (o:=.six) (z:=sx ltrs) (dy:=Dx [97+k]) jA rfl rfl rfl (A7 A);exact ae (bj (ah (aj rfl rfl rfl rfl (show cF .eq (Dx [114]) (.str "r")=some true by decide +kernel))) (ae (l7 rfl (gJ (z:=.fz (.tuple [.int k])) (aa g av) rfl rfl rfl) rfl na f b rfl) rfl)) rfl
  |n l v m=>have g:ev (pB n) (.ist (.nm 7)) (rE o0 o1 D o3 o4 acc (some (Sx [110])) (pr l))=some (.val (It v),rE o0 o1 D o3 o4 acc (some (Sx [110])) (pr l)):=A6 (z:=sx l) rfl rfl m.int (by rw[aC];have:=m.l8;omega);exact ae (s_ifF (ah (aj rfl rfl rfl rfl (show cF .eq (Dx [110]) (.str "r")=some false by decide +kernel))) (ae (bj (ah (aj rfl rfl rfl rfl (show cF .eq (Dx [110]) (.str "n")=some true by decide +kernel))) (ae (l7 rfl (gJ (z:=.fz (.tuple [.int v])) (aa g av) rfl rfl rfl) rfl na f b rfl) rfl)) rfl)) rfl
  |t l v m=>obtain⟨k,rfl,u⟩:=B rfl;have w:=ue (C:=pB n) (neg:=false) (e:=.nm 7) (i:=2) (ρ:=rE o0 o1 D o3 o4 acc (some (Sx [116])) (pr l)) (dx:=Dx l) rfl rfl rfl rfl;rw[xp (aal.mpr ⟨_,u,rfl⟩)]at w;have g:ev (pB n) (.pg 2 [.key 7]) (rE o0 o1 D o3 o4 acc (some (Sx [116])) (pr l))=some (.val (It k),rE o0 o1 D o3 o4 acc (some (Sx [116])) (pr l)):=EC rfl rfl y u;exact ae (s_ifF (ah (aj rfl rfl rfl rfl (show cF .eq (Dx [116]) (.str "r")=some false by decide +kernel))) (ae (s_ifF (ah (aj rfl rfl rfl rfl (show cF .eq (Dx [116]) (.str "n")=some false by decide +kernel))) (ae (bj w (ae (l7 rfl (gJ (z:=.fz (.tuple [.int k])) (aa g av) rfl rfl rfl) rfl na f b rfl) rfl)) rfl)) rfl)) rfl
def rowD(w:List Nat)(ps:List Pt):PyData:=.tuple (Dx w::ps.map λp=>.int p.v)
theorem ED{n:Nat}{k:Int}{D:LD}{w:List Nat}{f:Str}{ps:List Pt}(y:(D.map (·.1)).Nodup)(h:Ln.ok (.rl w f ps))(q:∀p∈ps,p.s=116->∃v:Nat,p.v=v/\(p.tx,v)∈D):pl.pg.call (n+1) 10 [Sx (Ln.rl w f ps).tx,It k,Dc D]=some (.fz (rowD w ps),[Sx (Ln.rl w f ps).tx,It k,Dc D]):=by
 have u:=row_parts h;have e:=jC h;cases h with
 |rl _ _ _ r l G z C A=>
 obtain⟨t,i⟩:∃t,t=(Ln.rl w f ps).tx:=⟨_,rfl⟩
 have o:bT (pB n) ebt [pr t,pc k,pu D,none,none,none,none,none]=some (.nx,[pr t,pc k,pu D,pr w,some (.lst (((ps.map Pt.tx).map Dx).map OD.fz)),none,none,none]):=
  tX (l5 (c:=32) (ps:=w::ps.map Pt.tx) (w:=" ") (x:=.val (Sx t)) rfl (by rw[i];rfl) rfl rfl oh (by simp) u (by have:(jn 32 (w::ps.map Pt.tx)).length<=30:=e;omega) (by simp;omega)) rfl (ud (by simp) (by simp) (by simp;omega))
 have j:bT (pB n) eb3 [pr t,pc k,pu D,pr w,some (.lst (((ps.map Pt.tx).map Dx).map OD.fz)),none,none,none]=some (.nx,rE (pr t) (pc k) D (pr w) (some (.lst (((ps.map Pt.tx).map Dx).map OD.fz))) [Dx w] none none):=rfl;have m:ev (pB n) (.kgt ci FS (.nm 3)) (rE (pr t) (pc k) D (pr w) (some (.lst (((ps.map Pt.tx).map Dx).map OD.fz))) [Dx w] none none)=some (.val (.fz (.str f)),rE (pr t) (pc k) D (pr w) (some (.lst (((ps.map Pt.tx).map Dx).map OD.fz))) [Dx w] none none):=e_kgtQ rfl rfl r;obtain⟨F,B,g⟩:=uj (n:=n) (o0:=pr t) (o1:=pc k) (o3:=pr w) (o4:=some (.fz (.list ((ps.map Pt.tx).map Dx)))) y (ps:=ps) (acc:=[Dx w]) (o6:=none) (o7:=none) z q (by simp) (by simp;omega);rw[<-oj,<-l]at g;rw[<-i];exact ao (fn:=ku) rfl rfl (ae o (ae j (ae (fv (i_zpsQ (a:=.kgt ci FS (.nm 3)) (b:=.nm 4) (s:=f) (es:=(ps.map Pt.tx).map Dx) m rfl rfl (jx (x:=.lst (((ps.map Pt.tx).map Dx).map OD.fz)) (d:=.list ((ps.map Pt.tx).map Dx)) rfl (dat_fz _) rfl) rfl) g) (aM (au rfl rfl))))) rfl
def rwD:List Ln->List PyData
 |[]=>[]
 |.lb _::r=>rwD r
 |.rl w _ ps::r=>rowD w ps::rwD r
theorem cm:∀{Ls:List Ln}{m:Nat}{D:LD},(bo Ls m D).map (·.1)=D.map (·.1)++lbs Ls
 |[],m,D=>by simp[bo,lbs]
 |.lb l::r,m,D=>by rw[bo,cm (Ls:=r)];simp[lbs]
 |.rl _ _ _::r,m,D=>by rw[bo,cm (Ls:=r)];rfl
abbrev Rfs(D:LD)(Ls:List Ln):Prop:=∀w f ps,Ln.rl w f ps∈Ls->∀p∈ps,p.s=116->∃v:Nat,p.v=v/\(p.tx,v)∈D
abbrev H8:E:=.call 10 ea9
theorem jD{n:Nat}{D:LD}(i:(D.map (·.1)).Nodup):∀{Ls:List Ln}{k:Nat}{out:List PyData}{o0 o1:Option OD},(∀L∈Ls,L.ok)->Rfs D Ls ->
  ∃b d,bO (bH (pB (n+1)) (.tp [0,1]) (.some eb0) H8) (enF k (cP Ls)) out [o0,o1,pu D]=some (out++rwD Ls,[b,d,pu D])
 |[],k,out,o0,o1,_,_=>⟨o0,o1,by show some (out,_)=some (out++[],_);rw[aaq]⟩
 |L::Ls,k,out,o0,o1,h,hd=>by
  have m:(pB (n+1)).call=pl.pg.call (n+1):=rfl;have o:=h L aah;have q:=jB (n:=n) (l:=L.tx);rw[<-m]at q;have g:aZ (pB (n+1)) eb0 [pc k,pr L.tx,pu D]=some (!decide (L.tx.getLast?=some 58),[pc k,pr L.tx,pu D]):=eY (eX (af (ρ3:=[pc k,pr L.tx,pu D]) rfl rfl q rfl));have p:=λx s=>h x (aaf L s);have c:Rfs D Ls:=λw f a r=>hd w f a (aaf _ r);cases L with
  |lb l=>rw[gU]at g;obtain⟨b,d,e⟩:=jD (n:=n) i (Ls:=Ls) (k:=k+1) (out:=out++[]) (o0:=pc k) (o1:=pr (Ln.lb l).tx) p c;rw[aaq]at e;exact⟨b,d,bs (xg (ρ1:=[pc k,pr (Ln.lb l).tx,pu D]) rfl g) (by rw[aaq];exact e)⟩
  |rl w f a=>rw[fe o]at g;have j:=ED (n:=n) (k:=k) i o (hd w f a aah);rw[<-m]at j;obtain⟨b,d,e⟩:=jD (n:=n) i (Ls:=Ls) (k:=k+1) (out:=out++[rowD w a]) (o0:=pc k) (o1:=pr (Ln.rl w f a).tx) p c;refine⟨b,d,bs (cs_T (ρ1:=[pc k,pr (Ln.rl w f a).tx,pu D]) rfl g (af (ρ3:=[pc k,pr (Ln.rl w f a).tx,pu D]) rfl rfl j rfl) rfl) (e.trans ?_)⟩;rw[aac];rfl
theorem uk{n:Nat}{Ls:List Ln}(h:∀L∈Ls,L.ok)(b:(lbs Ls).Nodup)(i:Ls.length<=20000)(d:Rfs (bo Ls 0 []) Ls):pl.pg.call (n+6) 11 [.fz (.list (cP Ls)),It 0]=some (.lst ((rwD Ls).map OD.fz),[.fz (.list (cP Ls)),It 0]):=by
 have g:((bo Ls 0 []).map (·.1)).Nodup:=by rw[cm];simpa using b
 have c:=ui (n:=n) h b (by omega);have f:(pB (n+5)).call=pl.pg.call (n+5):=rfl;rw[<-f]at c;obtain⟨j,l,e⟩:=jD (n:=n+4) g (Ls:=Ls) (k:=0) (out:=[]) (o0:=none) (o1:=none) h d;have a:(enF 0 (cP Ls)).length<1000000:=by rw[<-iI];have:(fu (cP Ls)).length=(cP Ls).length:=ik _;rw[this,aaa];omega
 exact ao (fn:=iA) rfl rfl (ae (s_setQ (ρ2:=[some (.fz (.list (cP Ls))),pc 0,none]) (ρ3:=[some (.fz (.list (cP Ls))),pc 0,pu (bo Ls 0 [])]) (af (ρ3:=[some (.fz (.list (cP Ls))),pc 0,none]) rfl rfl c rfl) rfl rfl rfl) (aM (au (cM (C:=pB (n+5)) (ρ1:=[some (.fz (.list (cP Ls))),pc 0,pu (bo Ls 0 [])]) (uh (x:=.val (.fz (.list (cP Ls)))) rfl rfl rfl rfl) a rfl e rfl) rfl))) rfl
theorem um{c:Nat}:∀{ps:List (List Nat)},(∀p∈ps,p.length<=30)->(jn c ps).length<=31*ps.length
 |[],_=>by simp[jn]
 |[a],h=>by have:=h a (by simp);simp[jn];omega
 |a::b::r,h=>by have f:=h a (by simp);have d:=um (c:=c) (ps:=b::r) λp e=>h p (aaf _ e);simp only[jn,aau,aan]at d ⊢;omega
theorem Ln.ok.line{L:Ln}(h:L.ok):L.tx.length<=30/\10 ∉ L.tx/\L.tx≠[]:=by
 cases L with
 |lb l=>
  have b:Lab l:=by cases h;assumption
  refine⟨by have:=b.2.1;simp[Ln.tx];omega,λz=>?_,by simp[Ln.tx]⟩;simp only[Ln.tx,aai,aaw]at z;rcases z with z|z
  ·have:=b.2.2 _ z;revert this;decide
  ·revert z;decide
 |rl w f c=>
  refine⟨jC h,λz=>?_,?_⟩
  ·have:=iJ h 10 z;revert this;decide
  ·cases h with
   |rl _ _ _ j i e k d g=>
   cases w with
   |nil=>exact absurd rfl d.1
   |cons a w=>cases c<;>simp[Ln.tx,jn]
abbrev dH(Ls:List Ln):List Nat:=jn 10 (Ls.map Ln.tx)
theorem A8{n:Nat}{Ls:List Ln}(h:∀L∈Ls,L.ok)(A:(lbs Ls).Nodup)(o:Ls.length<=20000)(s:Rfs (bo Ls 0 []) Ls):pl.pg.call (n+7) 12 [Sx (dH Ls)]=some (.lst ((rwD Ls).map OD.fz),[Sx (dH Ls)]):=by
 have i:=uk (n:=n) h A o s;have t:(pB (n+6)).call=pl.pg.call (n+6):=rfl;rw[<-t]at i;have u:("\n":Str)=sx [10]:=by decide +kernel
 have v:("":Str)=sx []:=by decide +kernel
 have e:aZ (pB (n+6)) Hb [pr (dH Ls)]=some (decide (sx (dH Ls)=sx []),[pr (dH Ls)]):=by exact Eq.trans (ah (aj (k:=decide (sx (dH Ls)="")) rfl rfl rfl rfl rfl)) (by rw[v])
 have l:ev (pB (n+6)) eaz [pr (dH Ls)]=some (.val (.lst ((cP Ls).map OD.fz)),[pr (dH Ls)]):=by
  cases d:Ls with
  |nil=>subst d;rw[Dac (show sx (dH [])=sx [] from rfl)]at e;exact gK e rfl
  |cons L r=>
   rw[<-d];have m:dH Ls≠[]:=by
    have y:=(h L (by rw[d];exact aah)).line.2.2;rw[d];intro z;cases r with
    |nil=>exact y z
    |cons a r=>have z:jn 10 (L.tx::a.tx::r.map Ln.tx)=[]:=z;rw[jn]at z;simp at z
   rw[Dab λz=>m (jv z)]at e;have:=l5 (C:=pB (n+6)) (a:=.nm 0) (b:=.str "\n") (ρ:=[pr (dH Ls)]) (c:=10) (w:="\n") (ps:=Ls.map Ln.tx) (x:=.val (Sx (dH Ls))) rfl rfl rfl rfl u (by rw[d];simp) (λp g=>by obtain⟨q,f,rfl⟩:=aal.mp g;exact(h q f).line.2.1) (by have:=um (c:=10) (ps:=Ls.map Ln.tx) (λp g=>by obtain⟨q,f,rfl⟩:=aal.mp g;exact(h q f).line.1);rw[aaa]at this;omega) (by rw[aaa];omega);rw[show (Ls.map Ln.tx).map Dx=cP Ls from aaI ..]at this;exact e_ifF e this
 have j:bc ((pB (n+6)).io 11) [pr (dH Ls)] [.val (.lst ((cP Ls).map OD.fz)),.val (It 0)]=some ([.fz (.list (cP Ls)),It 0],[pr (dH Ls)]):=by show bc [false,false] _ _=_;have:(OD.lst ((cP Ls).map OD.fz)).dat=some (.list (cP Ls)):=dat_fz _;simp only[bc,frz1,this,abL];rfl
 exact ao (fn:=fA) (ρ:=[pr (dH Ls)]) rfl rfl (aM (au (af (ρ3:=[pr (dH Ls)]) (aa l (aa rfl av)) j i rfl) rfl)) rfl
abbrev Sm(n:Nat)(d:PyData):Prop:=pl.pg.call (n+1) 21 [.fz d,.fz d]=some (.fz (.bool true),[.fz d,.fz d])
theorem xq{n:Nat}{a:Int}:Sm n (.int a):=by have h:ev (pB n) ect [pc a,pc a]=some (.val (.fz (.bool true)),[pc a,pc a]):=aj rfl rfl rfl rfl (show some (decide (a=a))=some true by rw[Dac rfl]);exact ao (fn:=jt) rfl rfl (ae (s_ifF rfl rfl) (ae (s_ifF rfl rfl) (ae (s_ifF rfl rfl) (aM (au (eZ rfl (eZ rfl h)) rfl))))) rfl
theorem kC:∀m:Nat,allB (List.replicate m (.bool true))=some (List.replicate m true)
 |0=>rfl
 |m+1=>by rw[aa2,allB,kC m];rfl
theorem xr{m:Nat}:z6 .all [.list (List.replicate m (.bool true))]=some (.bool true):=by show (allB (List.replicate m (.bool true))).bind _=_;rw[kC];show some (PyData.bool ((List.replicate m true).all id))=_;rw[List.all_replicate];simp
theorem uo{ρ:DEnv}{ds:List PyData}:cE ρ [.val (.lst (ds.map OD.fz))]=some [.list ds]:=by have:ag ρ (.val (.lst (ds.map OD.fz)))=some (.list ds):=dat_fz ds;simp only[cE,this];rfl
theorem oo{n:Nat}:∀{ds out:List PyData}{o0 o1:Option OD},(∀d∈ds,Sm n d)->∃c b,bO (bH (pB (n+1)) (.tp [0,1]) .none ebh) (bE ds ds) out [o0,o1]=some (out++List.replicate ds.length (.bool true),[c,b])
 |[],out,o0,o1,_=>⟨o0,o1,by show some (out,_)=some (out++[],_);rw[aaq]⟩
 |x::xs,out,o0,o1,h=>by obtain⟨o',a,e⟩:=oo (n:=n) (ds:=xs) (out:=out++[.bool true]) (o0:=some (.fz x)) (o1:=some (.fz x)) λd f=>h d (aaf _ f);refine⟨o',a,bs (x:=([.bool true],[some (.fz x),some (.fz x)])) (xh (x:=.val (.fz (.bool true))) rfl (af (ρ3:=[some (.fz x),some (.fz x)]) rfl rfl (h x aah) rfl) rfl) ?_⟩;rw[aac]at e;exact e
theorem oq{n:Nat}{ds:List PyData}(p:ds.length<=100000)(h:∀d∈ds,Sm n d):Sm (n+1) (.list ds)/\Sm (n+1) (.tuple ds):=by
 obtain⟨o0,o1,e⟩:=oo (n:=n) (ds:=ds) (out:=[]) (o0:=none) (o1:=none) h;rw[aaT]at e;have o:(bE ds ds).length<1000000:=by unfold bE;rw[ace];omega
 have a:∀x:PyData,pU x=some ds->lj x=some ds.length->uM .seq x=true->Sm (n+1) x:=λx c g m=>by
  have j:=cM (C:=pB (n+1)) (nt:=2) (fr:=[]) (it:=.zip (.nm 0) (.nm 1)) (ρ:=[some (.fz x),some (.fz x)]) (ρ1:=[some (.fz x),some (.fz x)]) (ρ2:=[some (.fz x),some (.fz x)]) (AJ (ρ3:=[some (.fz x),some (.fz x)]) rfl rfl rfl rfl c c) o rfl e unca_nil;have b:z6 .len [x]=some (.int ds.length):=by show (lj x).bind (λn=>some (PyData.int n))=_;rw[g];rfl
  have i:aZ (pB (n+1)) eax [some (.fz x),some (.fz x)]=some (false,[some (.fz x),some (.fz x)]):=ah (aj (dx:=.int ds.length) (dy:=.int ds.length) (bI rfl rfl b) (bI rfl rfl b) rfl rfl (show some (!decide ((ds.length:Int)=ds.length))=some false by rw[Dac rfl];rfl));have f:∀k,aZ (pB (n+1)) (.cmp .ne (.isi k (.nm 0)) (.isi k (.nm 1))) [some (.fz x),some (.fz x)]=some (false,[some (.fz x),some (.fz x)]):=λk=>ah (aj (dx:=.bool (uM k x)) (dy:=.bool (uM k x)) rfl rfl rfl rfl (by cases uM k x<;>rfl));have l:aZ (pB (n+1)) (.isi .seq (.nm 1)) [some (.fz x),some (.fz x)]=some (true,[some (.fz x),some (.fz x)]):=by show some (uM .seq x,_)=_;rw[m]
  exact ao (fn:=jt) rfl rfl (aM (bj l (ae (s_ifF (nW (f .list) (f .tuple)) rfl) (ae (s_ifF i rfl) (aM (au (bI (ds:=[.list (List.replicate ds.length (.bool true))]) (aa j av) uo xr) rfl)))))) rfl
 exact⟨a _ rfl rfl rfl,a _ rfl rfl rfl⟩
theorem ot{n:Nat}{w:Str}:Sm n (.str w):=by have h:ev (pB n) ect [some (.fz (.str w)),some (.fz (.str w))]=some (.val (.fz (.bool true)),[some (.fz (.str w)),some (.fz (.str w))]):=aj rfl rfl rfl rfl (show some (decide (w=w))=some true by rw[Dac rfl]);exact ao (fn:=jt) rfl rfl (ae (s_ifF rfl rfl) (aM (bj (nW rfl rfl) (aM (au (eZ h rfl) rfl))))) rfl
theorem yo{a:Str}{i:Int}{c:Nat}(d:a.length<=1000000)(b:atI a.cps.toList i=some c):CY .ixs a (.int i)=some (.str ⟨#[c]⟩):=by show (gd _).bind _=_;exact bg d (bs b rfl)
theorem EE{C:Ct}{i:Nat}{ρ ρ1 ρ2:DEnv}{a b:E}{x:OR}(f:ev C a ρ=some (x,ρ1))(d:ag ρ1 x=some (Dx ltrs))(c:ev C b ρ1=some (.val (It i),ρ2))(hi:i<26):ev C (.op2 .ixs a b) ρ=some (.val (Sx [97+i]),ρ2):=by
 have e:atI (sx ltrs).cps.toList (i:Int)=some (97+i):=by
  refine atI_n ?_;have:∀j<26,ltrs[j]?=some (97+j):=by decide
  simpa using this i hi
 exact dG (o:=.ixs) (z:=sx ltrs) (dy:=.int i) f d c rfl (yo (by rw[aC];decide) e)
theorem uq{a:Type}{C:Ct}{elt:E}{E0:Option OD->DEnv}{f g:a->PyData}:∀{L:List a}{out:List PyData}{o:Option OD},(∀x∈L,∀o,bH C (.nm 0) .none elt (f x) (E0 o)=some ([g x],E0 (some (.fz (f x)))))->∃o',bO (bH C (.nm 0) .none elt) (L.map f) out (E0 o)=some (out++L.map g,E0 o')
 |[],out,o,_=>⟨o,by show some (out,_)=some (out++[],_);rw[aaq]⟩
 |x::L,out,o,h=>by obtain⟨o',e⟩:=uq (C:=C) (elt:=elt) (E0:=E0) (f:=f) (g:=g) (L:=L) (out:=out++[g x]) (o:=some (.fz (f x))) λy b=>h y (aaf _ b);refine⟨o',?_⟩;refine bs (h x aah o) (e.trans ?_);rw[aac];rfl
theorem kD:∀ls:List (List Nat),gu (ls.map Dx)=some (ls.map sx)
 |[]=>rfl
 |l::ls=>by rw[aaj,aaj,gu,kD ls];rfl
theorem jE{C:Ct}{a b:E}{ρ ρ1 ρ2:DEnv}{x y:OR}{z w:Str}{ls:List (List Nat)}(h:ev C a ρ=some (x,ρ1))(d:ag ρ1 x=some (.str z))(c:ev C b ρ1=some (y,ρ2))(i:ag ρ2 y=some (.list (ls.map Dx)))(g:((ls.map sx).map (·.length)).sum+ls.length*z.length<=16777216)(f:Txt.join z (ls.map sx)=w):ev C (.joi a b) ρ=some (.val (.fz (.str w)),ρ2):=by
 have e:CT z (ls.map sx)=some w:=by unfold CT;rw[if_pos (by rw[aaa];exact g),f]
 exact bs h (bs d (bs rfl (bs c (bs i (bs rfl (bs (kD ls) (bs e rfl)))))))
theorem eB:∀{ls:List (List Nat)}{b:Nat},(∀l∈ls,l.length<=b)->((ls.map sx).map (·.length)).sum<=b*ls.length
 |[],_,_=>by simp
 |l::ls,b,h=>by have d:=h l aah;have a:=eB λx c=>h x (aaf l c);simp only[aaj,List.sum_cons,aan,aC,Nat.mul_add]at a ⊢;omega
theorem ou{i:Nat}(h:i<26):97+i∈ltrs:=by simp;omega
theorem len_sub{d:Type}[DecidableEq d]:∀{a b:List d},a.Nodup->(∀x∈a,x∈b)->a.length<=b.length
 |[],_,_,_=>aaK _
 |x::a,b,nd,h=>by have f:=h x aah;have:=len_sub (a:=a) (b:=b.erase x) (aay.mp nd).2 λy c=>(List.mem_erase_of_ne (λe:y=x=>(aay.mp nd).1 (by rw[<-e];exact c))).mpr (h y (aaf _ c));rw[List.length_erase_of_mem f]at this;have:=List.length_pos_of_mem f;rw[aan];omega
theorem l9{b:Type}{C:Ct}{elt ifs:E}{E0:Option OD->DEnv}{f g:b->PyData}{p:b->Bool}:∀{L:List b}{out:List PyData}{o:Option OD},(∀x∈L,∀o,bH C (.nm 0) (.some ifs) elt (f x) (E0 o)=some (if p x then [g x] else [],E0 (some (.fz (f x)))))->∃o',bO (bH C (.nm 0) (.some ifs) elt) (L.map f) out (E0 o)=some (out++(L.filter p).map g,E0 o')
 |[],out,o,_=>⟨o,by show some (out,_)=some (out++[],_);rw[aaq]⟩
 |x::L,out,o,h=>by
  obtain⟨o',e⟩:=l9 (C:=C) (ifs:=ifs) (elt:=elt) (E0:=E0) (f:=f) (g:=g) (p:=p) (L:=L) (out:=out++if p x then [g x] else []) (o:=some (.fz (f x))) λy c=>h y (aaf _ c);refine⟨o',?_⟩;refine bs (h x aah o) (e.trans ?_);by_cases a:p x=true
  ·rw[if_pos a,aac,acg a];rfl
  ·rw[if_neg a,aaq,ach a]
abbrev fgs(k:Int):List Nat:=(Nat.toDigits 10 k.toNat).map Char.toNat
theorem fgs_sx{k:Int}(h:0<=k):lu (.int k)=sx (fgs k):=by obtain⟨m,rfl⟩:=abS h;show Str.ofString (toString ((m:Nat):Int))=_;rw[ym (Str.ofString (toString ((m:Nat):Int))),PySem.W.KIN.signs_num];rfl
theorem EF:∀d:Nat,d<10->d≠0->(Nat.digitChar d).toNat≠48:=by decide
theorem xu(m:Nat)(b:m≠0):∃c r,Nat.toDigits 10 m=c::r/\c.toNat≠48:=by
 induction m using Nat.strongRecOn with
 |_ m d=>
  by_cases h:m<10
  ·rw[Nat.toDigits_of_lt_base h];exact⟨_,[],rfl,EF m h b⟩
  ·have f:m%10<10:=abx m (by decide);have t:Nat.toDigits 10 (m/10)++Nat.toDigits 10 (m%10)=Nat.toDigits 10 (10*(m/10)+m%10):=Nat.toDigits_append_toDigits (by decide) (by omega) f;rw[Nat.div_add_mod]at t;obtain⟨c,r,e,a⟩:=d (m/10) (by omega) (by omega);exact⟨c,r++Nat.toDigits 10 (m%10),by rw[<-t,e];rfl,a⟩
theorem jF{k:Int}(a:0<=k)(o:k<100000000):Fig (fgs k) k:=by
 have h:intText? (sx (fgs k))=some k:=by have:=PySem.W.KIN.num_reads (n:=k) a (by omega);rw[<-show lu (.int k)=Str.ofString (toString k) from rfl,fgs_sx a]at this;exact this
 have d:(fgs k).length<=8:=by have:=PyProof.Rows.toString_length_le (v:=k) (k:=8) a (by decide) (by omega);rw[<-show lu (.int k)=Str.ofString (toString k) from rfl,fgs_sx a,aC]at this;exact this
 have f:∀c∈fgs k,c∈[48,49,50,51,52,53,54,55,56,57]:=by intro c j;obtain⟨m,b,e⟩:=aal.mp j;have r:=PyProof.Rows.digit_range (Nat.isDigit_of_mem_toDigits (by decide) (by decide) b);rw[e]at r;simp;omega
 by_cases g:k.toNat=0
 ·have e:fgs k=[48]:=by show (Nat.toDigits 10 k.toNat).map _=_;rw[g];decide
  exact⟨by rw[e];decide,d,f,.inl e,h⟩
 ·obtain⟨c,r,l,i⟩:=xu k.toNat g;have e:fgs k=c.toNat::r.map Char.toNat:=by show (Nat.toDigits 10 k.toNat).map _=_;rw[l];rfl
  exact⟨by rw[e];simp,d,f,.inr (by rw[e];simp;exact i),h⟩
theorem yp{k:Int}(c:0<=k)(d:k<100000000):zV (.int k)=true:=by
 have g:=(jF c d).l8;have e:(PyData.int k).shown=sx (fgs k):=fgs_sx c;have f:k.natAbs.log2<1920:=by
  by_cases b:k.natAbs=0
  ·rw[b];decide
  ·exact aax ((Nat.log2_lt b).mpr (show k.natAbs<2^27 by omega)) (show 27<=1920 by decide)
 have a:decide ((PyData.int k).shown.length<=10000000)=true:=by rw[e,aC];exact Dac (by omega)
 unfold zV;rw[a];simp[vT,PyData.showable,PyData.hasDict,PyData.depth];omega
abbrev rP(r:Int):Pt:=⟨114,[97+r.toNat],r⟩
def lnR(c:List Nat):R->Ln
 |.st r k=>.rl [115,101,116] "rn" [rP r,⟨110,fgs k,k⟩]
 |.sm a b=>.rl [115,117,109] ce [rP a,rP b]
 |.ls a b=>.rl [108,101,115,115] ce [rP a,rP b]
 |.tl a=>.rl [116,101,108,108] "r" [rP a]
 |.go t=>.rl [103,111] "t" [⟨116,c,t⟩]
 |.nl r t=>.rl [110,105,108] "rt" [rP r,⟨116,c,t⟩]
 |.sp=>.rl [115,116,111,112] "" []
def Gl:R->Prop|.go _=>True|.nl _ _=>True|_=>False
theorem ow{f:Str}{l:List Nat}(h:f=sx l):kG f=l.map λc=>PyData.str (sx [c]):=by rw[h,uc]
theorem gW{r:Int}(h:rg r):(rP r).ok:=by have:=Pt.ok.r r.toNat (by have:=h.1;have:=h.2;omega);rw[show ((r.toNat:Nat):Int)=r by have:=h.1;omega]at this;exact this
theorem mf{N:Nat}{r:R}{d:List Nat}(h:Rk N r)(f:Gl r->Lab d):(lnR d r).ok:=by
 have q:∀{a b:Pt},a.ok->b.ok->∀p∈[a,b],p.ok:=λe g p c=>by
  rcases aab.mp c with rfl|c
  ·exact e
  ·exact aaw.mp c▸g
 have o:∀{a:Pt},a.ok->∀p∈[a],p.ok:=λe p c=>aaw.mp c▸e;cases r with
 |st r k=>exact .rl _ _ _ (by decide +kernel) (ow (l:=[114,110]) (by decide +kernel)) (show ("rn":Str).length=2 by decide +kernel) (q (gW h.1) (.n _ _ (jF h.2.1 h.2.2))) (by decide) (show 2<=2 by decide)
 |sm a b=>exact .rl _ _ _ (by decide +kernel) (ow (l:=[114,114]) (by decide +kernel)) (show (ce:Str).length=2 by decide +kernel) (q (gW h.1) (gW h.2)) (by decide) (show 2<=2 by decide)
 |ls a b=>exact .rl _ _ _ (by decide +kernel) (ow (l:=[114,114]) (by decide +kernel)) (show (ce:Str).length=2 by decide +kernel) (q (gW h.1) (gW h.2)) (by decide) (show 2<=2 by decide)
 |tl a=>exact .rl _ _ _ (by decide +kernel) (ow (l:=[114]) (by decide +kernel)) (show ("r":Str).length=1 by decide +kernel) (o (gW h)) (by decide) (show 1<=2 by decide)
 |go t=>exact .rl _ _ _ (by decide +kernel) (ow (l:=[116]) (by decide +kernel)) (show ("t":Str).length=1 by decide +kernel) (o (.t _ _ (f trivial))) (by decide) (show 1<=2 by decide)
 |nl r t=>exact .rl _ _ _ (by decide +kernel) (ow (l:=[114,116]) (by decide +kernel)) (show ("rt":Str).length=2 by decide +kernel) (q (gW h.1) (.t _ _ (f trivial))) (by decide) (show 2<=2 by decide)
 |sp=>exact .rl _ _ _ (by decide +kernel) (ow (l:=[]) (by decide +kernel)) (by decide) (λp c=>absurd c (by simp)) (by decide) (by decide)
theorem xw{r:R}{a:List Nat}:rwD [lnR a r]=[r.d]:=by
 have g:sx [115,101,116]=ap:=by decide +kernel
 have b:sx [115,117,109]=bi:=by decide +kernel
 have e:sx [108,101,115,115]=bm:=by decide +kernel
 have i:sx [116,101,108,108]=bv:=by decide +kernel
 have c:sx [103,111]=ac:=by decide +kernel
 have h:sx [110,105,108]=am:=by decide +kernel
 have f:sx [115,116,111,112]=bn:=by decide +kernel
 cases r<;>simp only[lnR,rwD,rowD,R.d,Dx,List.map,g,b,e,i,c,h,f]
def xx(a:List Nat)(r:R):List (List Nat):=match lnR a r with|.lb _=>[]|.rl w _ ps=>w::ps.map Pt.tx
theorem A9{a:List Nat}{r:R}:jn 32 (xx a r)=(lnR a r).tx:=by cases r<;>rfl
theorem Ba:(ii:Str)=sx [97,98,99,100,101]:=by decide +kernel
theorem yq{C:Ct}{ρ ρ2:DEnv}{b:E}{y:OR}{r:Int}(a:ev C b ρ=some (y,ρ2))(c:ag ρ2 y=some (.int r))(h:rg r):ev C (.op2 .ixs (.str ii) b) ρ=some (.val (Sx [97+r.toNat]),ρ2):=by
 obtain⟨k,rfl⟩:=abS h.1;have d:k<5:=by have:=h.2;omega
 have e:atI (sx [97,98,99,100,101]).cps.toList ((k:Nat):Int)=some (97+k):=by
  refine atI_n ?_;have:∀j<5,[97,98,99,100,101][j]?=some (97+j):=by decide
  simpa using this k d
 refine dG (o:=.ixs) (x:=.val (Sx [97,98,99,100,101])) (z:=sx [97,98,99,100,101]) (dy:=.int k) ?_ rfl a c (yo (by rw[aC];decide) e);show some (OR.val (.fz (.str ii)),ρ)=_;rw[Ba]
theorem qg{C:Ct}{ρ:DEnv}{j:Nat}{ds:List PyData}{k:Nat}{i:Int}{d:PyData}(h:ev C (.nm j) ρ=some (.val (.fz (.tuple ds)),ρ))(hi:i=k)(hk:ds[k]?=some d):ev C (.ix (.nm j) (.int i)) ρ=some (.val (.fz d),ρ):=by subst hi;exact gI h rfl rfl (lU (atI_n hk))
def ddI(ns:List Int)(m:Int):List Int:=if m∈ns then ns else ns++[m]
theorem Bb{ns:List Int}{m a:Int}:a∈ddI ns m ↔ a∈ns\/a=m:=by
 unfold ddI;by_cases h:m∈ns
 ·rw[if_pos h];exact⟨.inl,λz=>z.elim id λe=>e▸h⟩
 ·rw[if_neg h,aai,aaw]
theorem ox:∀{l ns:List Int}{a:Int},a∈l.foldl ddI ns ↔ a∈ns\/a∈l
 |[],ns,a=>by simp
 |m::l,ns,a=>by rw[List.foldl_cons,ox,Bb,aab,or_assoc]
theorem fg:∀{l ns:List Int},ns.Nodup->(l.foldl ddI ns).Nodup
 |[],ns,h=>h
 |m::l,ns,h=>by
  refine fg (l:=l) ?_;unfold ddI;by_cases c:m∈ns
  ·rw[if_pos c];exact h
  ·rw[if_neg c];exact aaA.mpr ⟨h,aay.mpr ⟨aav,.nil⟩,λa f b d e=>c (by rw[<-aaw.mp d,<-e];exact f)⟩
abbrev Il(ns:List Int):OD:=.lst ((ns.map PyData.int).map OD.fz)
def R.w:R->Str|.st _ _=>ap |.sm _ _=>bi |.ls _ _=>bm |.tl _=>bv |.go _=>ac |.nl _ _=>am |.sp=>bn
def R.la:R->PyData|.st _ k=>.int k|.sm _ b=>.int b|.ls _ b=>.int b|.tl a=>.int a|.go t=>.int t|.nl _ t=>.int t|.sp=>.str bn
def Gv:R->Option Int|.go t=>some t|.nl _ t=>some t|_=>none
theorem fH{C:Ct}{e:E}{ρ:DEnv}{r:R}(h:ev C e ρ=some (.val (.fz r.d),ρ)):ev C (.ix e (.int 0)) ρ=some (.val (.fz (.str r.w)),ρ):=by cases r<;>exact gI h rfl rfl (lU rfl)
theorem r_ixl{C:Ct}{e:E}{ρ:DEnv}{r:R}(h:ev C e ρ=some (.val (.fz r.d),ρ)):ev C (.ix e (.neg (.int 1))) ρ=some (.val (.fz r.la),ρ):=by cases r<;>exact gI (n:=-1) h rfl rfl (lU rfl)
theorem EG{r:R}:inA (.str r.w) (.tuple [.str ac,.str am])=some (Gv r).isSome:=by
 have g:inA (.str ap) (.tuple [.str ac,.str am])=some false:=by decide +kernel
 have a:inA (.str bi) (.tuple [.str ac,.str am])=some false:=by decide +kernel
 have c:inA (.str bm) (.tuple [.str ac,.str am])=some false:=by decide +kernel
 have f:inA (.str bv) (.tuple [.str ac,.str am])=some false:=by decide +kernel
 have b:inA (.str ac) (.tuple [.str ac,.str am])=some true:=by decide +kernel
 have e:inA (.str am) (.tuple [.str ac,.str am])=some true:=by decide +kernel
 have d:inA (.str bn) (.tuple [.str ac,.str am])=some false:=by decide +kernel
 cases r with
 |st=>exact g|sm=>exact a|ls=>exact c|tl=>exact f|go=>exact b|nl=>exact e|sp=>exact d
theorem ur{r:R}{t:Int}(h:Gv r=some t):r.la=.int t:=by cases r<;>cases h<;>rfl
theorem Gv_gl{r:R}(h:Gl r):∃t,Gv r=some t:=by cases r<;>first|exact⟨_,rfl⟩|exact absurd h id
theorem fI{N:Nat}{r:R}{t:Int}(h:Rk N r)(e:Gv r=some t):0<=t/\t<=N:=by
 cases r<;>cases e
 ·exact h
 ·exact h.2
theorem gv_map:∀rs:List R,(rs.filter λr=>(Gv r).isSome).map R.la=(rs.filterMap Gv).map PyData.int
 |[]=>rfl
 |r::rs=>by
  have a:=gv_map rs;cases h:Gv r with
  |none=>rw[ach (by rw[h];decide),aci h];exact a
  |some t=>rw[acg (by rw[h];rfl),acj h,aaj,aaj,a,ur h]
abbrev Fr(rs:List R):OD:=.fz (.list (rs.map R.d))
abbrev pA(rs:List R):Option OD:=some (Fr rs)
theorem fU:∀{A B:List Ln},rwD (A++B)=rwD A++rwD B
 |[],B=>rfl
 |.lb l::A,B=>fU (A:=A)
 |.rl w f ps::A,B=>by rw[aaG,rwD,rwD,fU (A:=A)];rfl
theorem fV:∀{A B:List Ln},lbs (A++B)=lbs A++lbs B
 |[],B=>rfl
 |.lb l::A,B=>by rw[aaG,lbs,lbs,fV (A:=A)];rfl
 |.rl w f ps::A,B=>fV (A:=A)
theorem uv:∀{H:List (List Nat)},rwD (H.map Ln.lb)=[]
 |[]=>rfl
 |_::H=>uv (H:=H)
theorem uw:∀{H:List (List Nat)},lbs (H.map Ln.lb)=H
 |[]=>rfl
 |l::H=>by rw[aaj,lbs,uw]
theorem eC:∀{A B:List Ln}{m:Nat}{D:LD},bo (A++B) m D=bo B (m+(rwD A).length) (bo A m D)
 |[],B,m,D=>rfl
 |.lb l::A,B,m,D=>eC (A:=A)
 |.rl w f ps::A,B,m,D=>by rw[aaG,bo,bo,eC (A:=A),rwD,aan,Nat.add_assoc,Nat.add_comm 1]
theorem oy:∀{H:List (List Nat)}{m:Nat}{D:LD},bo (H.map Ln.lb) m D=D++H.map λl=>(l,m)
 |[],m,D=>by rw[aaL,aaL,aaq];rfl
 |l::H,m,D=>by rw[aaj,bo,oy (H:=H),aac];rfl
theorem mj:∀{A:List Ln},A.length=(lbs A).length+(rwD A).length
 |[]=>rfl
 |.lb l::A=>by rw[aan,lbs,rwD,aan,mj (A:=A)];omega
 |.rl w f ps::A=>by rw[aan,lbs,rwD,aan,mj (A:=A)];omega
theorem Bc{L:Ln}{m:Nat}{D:LD}(h:lbs [L]=[]):bo [L] m D=D:=by
 cases L with
 |lb l=>cases h
 |rl w f a=>rfl
abbrev LP:=List (List Nat×Int)
abbrev Hk(P:LP)(k:Int):List (List Nat):=(P.filter λz=>decide (z.2=k)).map (·.1)
theorem Hk_mem{P:LP}{k:Int}{l:List Nat}:l∈Hk P k ↔ (l,k)∈P:=by simp[Hk,aal,aby]
theorem oz:∀{P:LP}{l:List Nat}{a b:Int},(P.map (·.1)).Nodup->(l,a)∈P->(l,b)∈P->a=b
 |[],l,a,b,_,h,_=>by cases h
 |z::P,l,a,b,nd,e,c=>by
  rw[aaj]at nd;obtain⟨f,i⟩:=aay.mp nd;rcases aab.mp e with g|e
  ·rcases aab.mp c with d|c
   ·rw[<-g]at d;exact(abT d).2.symm
   ·exact absurd (aal.mpr ⟨_,c,by rw[<-g]⟩) f
  ·rcases aab.mp c with d|c
   ·exact absurd (aal.mpr ⟨_,e,by rw[<-d]⟩) f
   ·exact oz i e c
structure Iv (P:LP)(rs:List R)(k:Nat)(Ls:List Ln):Prop where
 ok:∀L∈Ls,L.ok
 rl:rwD Ls=(rs.take k).map R.d
 gt:∀l v,(l,v)∈bo Ls 0 [] ↔ (l,(v:Int))∈P/\v<k
 nd:(lbs Ls).Nodup
 rf:∀w f ps,Ln.rl w f ps∈Ls->∀p∈ps,p.s=116->(p.tx,p.v)∈P/\0<=p.v/\p.v<=rs.length
def Nx(P:LP)(rs:List R)(k:Nat)(Q:List Ln):Prop:=(k=rs.length/\Q=[])\/∃r a,rs[k]?=some r/\Q=[lnR a r]/\(lnR a r).ok/\∀t,Gv r=some t->(a,t)∈P/\0<=t/\t<=rs.length
theorem EH{a:List Nat}{r:R}{w:List Nat}{f:Str}{ps:List Pt}{p:Pt}(e:lnR a r=.rl w f ps)(b:p∈ps)(c:p.s=116):p.tx=a/\Gv r=some p.v:=by cases r<;>(cases e)<;>simp at b<;>(first|(rcases b with rfl|rfl)|subst b)<;>first|exact⟨rfl,rfl⟩|exact absurd c (show ¬ (114:Nat)=116 by decide)|exact absurd c (show ¬ (110:Nat)=116 by decide)
theorem ux{a:List Nat}{r:R}:lbs [lnR a r]=[]:=by cases r<;>rfl
theorem Iv.step{P:LP}{rs:List R}{k:Nat}{Ls Q:List Ln}{H:List (List Nat)}(j:Iv P rs k Ls)(hk:k<=rs.length)(x:H.Perm (Hk P k))(A:(P.map (·.1)).Nodup)(T:∀z∈P,Lab z.1)(B:Nx P rs k Q):Iv P rs (k+1) (Ls++H.map Ln.lb++Q):=by
 have s:∀{l},l∈H ↔ (l,(k:Int))∈P:=λ{l}=>x.mem_iff.trans Hk_mem;have O:H.Nodup:=x.nodup_iff.mpr ((ack.map _).nodup A);have q:lbs Q=[]/\(∀L∈Q,L.ok)/\rwD Q=(rs[k]?.toList).map R.d/\∀m D,bo Q m D=D:=by
  rcases B with ⟨c,rfl⟩|⟨r,u,c,rfl,n,_⟩
  ·exact⟨rfl,λL h=>absurd h (by simp),by rw[List.getElem?_eq_none (by omega)];rfl,λ_ _=>rfl⟩
  ·exact⟨ux,λL h=>aaw.mp h▸n,by rw[c];exact xw,λ_ _=>Bc ux⟩
 have o:(rwD Ls).length=k:=by rw[j.rl,aaa,aaV];omega
 refine⟨λL i=>?_,?_,λl v=>?_,?_,λw f J g p G C=>?_⟩
 ·rcases aai.mp i with i|i
  ·rcases aai.mp i with i|i
   ·exact j.ok L i
   ·obtain⟨l,N,rfl⟩:=aal.mp i;exact .lb _ (T _ (s.mp N))
  ·exact q.2.1 L i
 ·rw[fU,fU,uv,aaq,j.rl,q.2.2.1,List.take_succ,aaC]
 ·rw[eC,q.2.2.2,eC,oy,aai,j.gt,o,aa3,aal];constructor
  ·rintro (⟨c,n⟩|⟨W,c,n⟩)
   ·exact⟨c,by omega⟩
   ·obtain⟨rfl,rfl⟩:=abT n;exact⟨s.mp c,by omega⟩
  ·rintro⟨c,n⟩;by_cases h:v<k
   ·exact .inl ⟨c,h⟩
   ·have:v=k:=by omega
    subst this;exact .inr ⟨l,s.mpr c,rfl⟩
 ·rw[fV,fV,uw,q.1,aaq];refine aaA.mpr ⟨j.nd,O,λa F b y e=>?_⟩;have t:(bo Ls 0 []).map (·.1)=lbs Ls:=by rw[cm];rfl
  rw[<-t]at F;obtain⟨z,U,rfl⟩:=aal.mp F;have c:=(j.gt z.1 z.2).mp U;rw[<-e]at y;have:=oz A c.1 (s.mp y);have:=c.2;omega
 ·rcases aai.mp g with g|g
  ·rcases aai.mp g with g|g
   ·exact j.rf w f J g p G C
   ·obtain⟨l,_,e⟩:=aal.mp g;cases e
  ·rcases B with ⟨_,rfl⟩|⟨r,u,_,rfl,_,S⟩
   ·exact absurd g (by simp)
   ·obtain⟨M,I⟩:=EH (aaw.mp g).symm G C;rw[M];exact S _ I
theorem Iv.len{P:LP}{rs:List R}{k:Nat}{Ls:List Ln}(a:Iv P rs k Ls):Ls.length<=P.length+rs.length:=by
 have e:(lbs Ls).length<=(P.map (·.1)).length:=len_sub a.nd λl c=>by
  have b:(bo Ls 0 []).map (·.1)=lbs Ls:=by rw[cm];rfl
  rw[<-b]at c;obtain⟨z,d,rfl⟩:=aal.mp c;exact aal.mpr ⟨_,((a.gt z.1 z.2).mp d).1,rfl⟩
 have f:(rwD Ls).length<=rs.length:=by rw[a.rl,aaa,aaV];omega
 rw[aaa]at e;rw[mj];omega
theorem Iv.rfs{P:LP}{rs:List R}{Ls:List Ln}(a:Iv P rs (rs.length+1) Ls):Rfs (bo Ls 0 []) Ls:=λw f c g p b d=>by obtain⟨e,i,h⟩:=a.rf w f c g p b d;refine⟨p.v.toNat,by omega,(a.gt _ _).mpr ⟨?_,by omega⟩⟩;rw[show ((p.v.toNat:Nat):Int)=p.v by omega];exact e
theorem Iv.nil{P:LP}{rs:List R}:Iv P rs 0 []:=⟨λ_ h=>absurd h (by simp),rfl,λl v=>⟨λh=>absurd h (by simp[bo]),λh=>absurd h.2 (by omega)⟩,aaX,λ_ _ _ h=>absurd h (by simp)⟩
structure Tt (rs:List R)(Ls:List Ln):Prop where
 ok:∀L∈Ls,L.ok
 nd:(lbs Ls).Nodup
 len:Ls.length<=20000
 rf:Rfs (bo Ls 0 []) Ls
 rl:rwD Ls=rs.map R.d
theorem Bd{r:R}{n:Nat}:Sm (n+1) r.d:=by
 have s:∀{w:Str}{xs:List Int},xs.length<=3->Sm (n+1) (.tuple (.str w::xs.map PyData.int)):=λ{w xs} h=>(oq (n:=n) (ds:=.str w::xs.map PyData.int) (by simp;omega) λd c=>by
  rcases aab.mp c with rfl|c
  ·exact ot
  ·obtain⟨i,_,rfl⟩:=aal.mp c;exact xq).2
 cases r with
 |st a k=>exact s (xs:=[a,k]) (by simp)
 |sm a b=>exact s (xs:=[a,b]) (by simp)
 |ls a b=>exact s (xs:=[a,b]) (by simp)
 |tl a=>exact s (xs:=[a]) (by simp)
 |go t=>exact s (xs:=[t]) (by simp)
 |nl a t=>exact s (xs:=[a,t]) (by simp)
 |sp=>exact s (xs:=[]) (by simp)
theorem xy{rs:List R}{n:Nat}(h:rs.length<=10000):Sm (n+2) (.list (rs.map R.d)):=(oq (n:=n+1) (by rw[aaa];omega) λd a=>by
 obtain⟨r,_,rfl⟩:=aal.mp a;exact Bd).1
abbrev two(k:Nat):List Nat:=[97+k/26,97+k%26]
theorem uy{C:Ct}{ρ:DEnv}(h:ev C (.gc 1) ρ=some (.val (Sx ltrs),ρ)):ev C (.lns (.gc 1)) ρ=some (.val (It 26),ρ):=by have:=lW (C:=C) h rfl (by rw[aC];decide);rw[aC]at this;exact this
theorem yr{n k:Nat}(hk:k<=600):pl.pg.call (n+1) 13 [It k]=some (Sx (two k),[It k]):=by
 have d:((k:Int)/26)=((k/26:Nat):Int):=by omega
 have c:((k:Int)%26)=((k%26:Nat):Int):=by omega
 have h:ev (pB n) eb5 [pc k,none,none]=some (.val (It ((k/26:Nat):Int)),[pc k,none,none]):=by rw[<-d];exact aA rfl (uy jA) rfl rfl (n6 (by decide))
 have e:aZ (pB n) eb8 [pc k,pc ((k/26:Nat):Int),none]=some (true,[pc k,pc ((k/26:Nat):Int),none]):=
  ah (aj rfl (uy jA) rfl rfl (show some (decide (((k/26:Nat):Int)<26))=some true by rw[Dac (by omega)]))
 have f:ev (pB n) (.op2 .ixs (.gc 1) (.nm 1)) [pc k,pc ((k/26:Nat):Int),none]=some (.val (Sx [97+k/26]),[pc k,pc ((k/26:Nat):Int),none]):=EE jA rfl rfl (by omega);have g:ev (pB n) (.op2 .ixs (.gc 1) eb7) [pc k,pc ((k/26:Nat):Int),some (Sx [97+k/26])]=some (.val (Sx [97+k%26]),[pc k,pc ((k/26:Nat):Int),some (Sx [97+k/26])]):=by refine EE (i:=k%26) jA rfl ?_ (abx _ (by decide));rw[<-c];exact aA rfl (uy jA) rfl rfl (cO (by decide))
 have b:=lY (C:=pB n) (a:=.nm 2) (ρ:=[pc k,pc ((k/26:Nat):Int),some (Sx [97+k/26])]) (x:=.val (Sx [97+k/26])) rfl rfl g rfl (by rw[aC,aC];simp);rw[fc]at b;exact ao (fn:=gO) rfl rfl (ae (s_setQ (ρ3:=[pc k,pc ((k/26:Nat):Int),none]) h rfl rfl rfl) (ae (s_setQ (ρ3:=[pc k,pc ((k/26:Nat):Int),some (Sx [97+k/26])]) (gK e f) rfl rfl rfl) (aM (au b rfl)))) rfl
theorem eD{k:Nat}(hk:k<=600):Lab (two k):=by
 refine⟨by simp,by simp,λc a=>?_⟩;have:k/26<26:=by omega
 have:k%26<26:=abx _ (by decide);simp only[two,aab,aav,or_false]at a;rcases a with rfl|rfl
 ·exact ou (by omega)
 ·exact ou (by omega)
theorem two_inj{a b:Nat}(h:two a=two b):a=b:=by simp at h;omega
def R.mv(m:Int):R->R
 |.go t=>.go (t+m)
 |.nl r t=>.nl r (t+m)
 |r=>r
theorem EI{r:R}{N m:Nat}(h:Rk N r):Rk (N+m) (r.mv m):=by
 cases r with
 |st r k=>exact h
 |sm a b=>exact h
 |ls a b=>exact h
 |tl a=>exact h
 |go t=>exact⟨by have:=h.1;omega,by have:=h.2;show t+m<=((N+m:Nat):Int);omega⟩
 |nl r t=>exact⟨h.1,by have:=h.2.1;omega,by have:=h.2.2;show t+m<=((N+m:Nat):Int);omega⟩
 |sp=>exact h
theorem uz{C:Ct}{a b:E}{ρ ρ1 ρ2:DEnv}{x y:OR}{dx dy:List PyData}(f:ev C a ρ=some (x,ρ1))(e:ev C b ρ1=some (y,ρ2))(g:rG ρ2 x=some dx)(d:rG ρ2 y=some dy)(c:dx≠[]/\dy≠[]/\dx.length+dy.length<=1000000):ev C (.catT a b) ρ=some (.val (.fz (.tuple (dx++dy))),ρ2):=bs f (bs e (bs g (bs d (bg c rfl))))
theorem GO{r:R}:(decide (r.w=ac)||decide (r.w=am))=(Gv r).isSome:=by
 cases r with
 |st=>exact(show (decide ((ap:Str)=ac)||decide ((ap:Str)=am))=false by decide +kernel)
 |sm=>exact(show (decide ((bi:Str)=ac)||decide ((bi:Str)=am))=false by decide +kernel)
 |ls=>exact(show (decide ((bm:Str)=ac)||decide ((bm:Str)=am))=false by decide +kernel)
 |tl=>exact(show (decide ((bv:Str)=ac)||decide ((bv:Str)=am))=false by decide +kernel)
 |go=>exact(show (decide ((ac:Str)=ac)||decide ((ac:Str)=am))=true by decide +kernel)
 |nl=>exact(show (decide ((am:Str)=ac)||decide ((am:Str)=am))=true by decide +kernel)
 |sp=>exact(show (decide ((bn:Str)=ac)||decide ((bn:Str)=am))=false by decide +kernel)
theorem uA{n:Nat}{r:R}:pl.pg.call (n+1) 0 [.fz r.d]=some (.fz (.bool (Gv r).isSome),[.fz r.d]):=by
 have a:ev (pB n) ebm [some (.fz r.d)]=some (.val (.fz (.bool (decide (r.w=ac)))),[some (.fz r.d)]):=aj (fH rfl) rfl rfl rfl rfl;have c:ev (pB n) ebi [some (.fz r.d)]=some (.val (.fz (.bool (decide (r.w=am)))),[some (.fz r.d)]):=aj (fH rfl) rfl rfl rfl rfl;have g:ev (pB n) eaq [some (.fz r.d)]=some (.val (.fz (.bool (Gv r).isSome)),[some (.fz r.d)]):=by
  rw[<-GO];cases b:decide (r.w=ac) with
  |true=>rw[b]at a;exact yg a
  |false=>rw[b]at a;exact yh a c
 exact ao (fn:=iz) rfl rfl (aM (au g rfl)) rfl
theorem xA{n:Nat}{r:R}{m:Int}:pl.pg.call (n+2) 1 [.fz r.d,It m]=some (.fz (r.mv m).d,[.fz r.d,It m]):=by
 have e:=uA (n:=n) (r:=r);have o:(pB (n+1)).call=pl.pg.call (n+1):=rfl;rw[<-o]at e;have t:aZ (pB (n+1)) ebx [some (.fz r.d),pc m]=some (!(Gv r).isSome,[some (.fz r.d),pc m]):=eY (eX (af (ρ3:=[some (.fz r.d),pc m]) rfl rfl e rfl));have c:(Gv r).isSome=false->r.mv m=r->pl.pg.call (n+2) 1 [.fz r.d,It m]=some (.fz (r.mv m).d,[.fz r.d,It m]):=λh j=>by rw[h]at t;rw[j];exact ao (fn:=fR) rfl rfl (aM (bj t (aM (au rfl rfl)))) rfl
 cases r with
 |st a k=>exact c rfl rfl
 |sm a b=>exact c rfl rfl
 |ls a b=>exact c rfl rfl
 |tl a=>exact c rfl rfl
 |sp=>exact c rfl rfl
 |go g=>have t:aZ (pB (n+1)) ebx [some (.fz (R.go g).d),pc m]=some (false,[some (.fz (R.go g).d),pc m]):=t;have i:ev (pB (n+1)) ebp [some (.fz (R.go g).d),pc m]=some (.val (.fz (.tuple [.str ac])),[some (.fz (R.go g).d),pc m]):=jy (l:=none) (u:=some (-1)) (x:=.val (.fz (R.go g).d)) (ds:=[.str ac,.int g]) rfl rfl (kB (k:=-1) rfl) rfl (by simp[HT.sIx]);have f:ev (pB (n+1)) ebd [some (.fz (R.go g).d),pc m]=some (.val (It (g+m)),[some (.fz (R.go g).d),pc m]):=aA (dx:=.int g) (dy:=.int m) (r_ixl (r:=.go g) rfl) rfl rfl rfl rfl;exact ao (fn:=fR) rfl rfl (ae (s_ifF t rfl) (aM (au (uz (dx:=[.str ac]) (dy:=[.int (g+m)]) i (gJ (z:=.fz (.tuple [.int (g+m)])) (aa f av) rfl rfl rfl) rfl rfl ⟨by simp,by simp,by simp⟩) rfl))) rfl
 |nl a g=>have t:aZ (pB (n+1)) ebx [some (.fz (R.nl a g).d),pc m]=some (false,[some (.fz (R.nl a g).d),pc m]):=t;have i:ev (pB (n+1)) ebp [some (.fz (R.nl a g).d),pc m]=some (.val (.fz (.tuple [.str am,.int a])),[some (.fz (R.nl a g).d),pc m]):=jy (l:=none) (u:=some (-1)) (x:=.val (.fz (R.nl a g).d)) (ds:=[.str am,.int a,.int g]) rfl rfl (kB (k:=-1) rfl) rfl (by simp[HT.sIx]);have f:ev (pB (n+1)) ebd [some (.fz (R.nl a g).d),pc m]=some (.val (It (g+m)),[some (.fz (R.nl a g).d),pc m]):=aA (dx:=.int g) (dy:=.int m) (r_ixl (r:=.nl a g) rfl) rfl rfl rfl rfl;exact ao (fn:=fR) rfl rfl (ae (s_ifF t rfl) (aM (au (uz (dx:=[.str am,.int a]) (dy:=[.int (g+m)]) i (gJ (z:=.fz (.tuple [.int (g+m)])) (aa f av) rfl rfl rfl) rfl rfl ⟨by simp,by simp,by simp⟩) rfl))) rfl
theorem uB{n:Nat}{as bs':List R}(j:as.length+bs'.length<=1000):pl.pg.call (n+3) 2 [Fr as,Fr bs']=some (.lst (((as++bs'.map (R.mv as.length)).map R.d).map OD.fz),[Fr as,Fr bs']):=by
 have h:(pB (n+2)).call=pl.pg.call (n+2):=rfl;have i:ev (pB (n+2)) (.bnw .list (.nm 0)) [pA as,pA bs']=some (.val (.lst ((as.map R.d).map OD.fz)),[pA as,pA bs']):=jz rfl rfl;obtain⟨k,e⟩:=uq (C:=pB (n+2)) (elt:=.call 1 Hs) (E0:=λo=>[o,pA as]) (f:=R.d) (g:=λr=>(R.mv as.length r).d) (L:=bs') (out:=[]) (o:=none) λr _ o=>by have b:=xA (n:=n) (r:=r) (m:=as.length);rw[<-h]at b;have l:=bI (C:=pB (n+2)) (g:=.len) (es:=.cons (.nm 1) .nil) (ρ:=[some (.fz r.d),pA as]) (rs:=[.val (Fr as)]) (ds:=[.list (as.map R.d)]) rfl rfl gS;rw[aaa]at l;exact xh (ρ1:=[some (.fz r.d),pA as]) rfl (af (ρ3:=[some (.fz r.d),pA as]) (aa rfl (aa l av)) rfl b rfl) rfl
 have c:ev (pB (n+2)) eao [pA as,pA bs']=some (.val (.lst ((bs'.map λr=>(R.mv as.length r).d).map OD.fz)),[pA as,pA bs']):=cM (ρ1:=[pA as,pA bs']) (gM (x:=.val (Fr bs')) rfl rfl rfl) (by rw[aaa];omega) rfl e rfl;have a:=tP i c (eM (as.map R.d)) (eM (bs'.map λr=>(R.mv as.length r).d)) (by rw[aaa,aaa];omega);rw[show as.map R.d++bs'.map (λr=>(R.mv as.length r).d)=(as++bs'.map (R.mv as.length)).map R.d by rw[aaC,aaI];rfl]at a;exact ao (fn:=kr) rfl rfl (aM (au a rfl)) rfl
abbrev tl(r:R):List Nat:=two ((Gv r).getD 0).toNat
abbrev Be:Ss:=.cons eae .nil
abbrev liE(o0:Option OD)(ds:List PyData)(s:Nat)(v:Int):DEnv:=[o0,some (.lst (ds.map OD.fz)),some (Sx [s]),pc v]
theorem iK{ds:List PyData}{d:PyData}:ds.map OD.fz++[OD.fz d]=(ds++[d]).map OD.fz:=by rw[aaC];rfl
theorem mo{n:Nat}{o0:Option OD}{ds:List PyData}{a:Int}(h:rg a)(c:ds.length<=100):aQ (pB (n+1)) Be (liE o0 ds 114 a)=some (.nx,liE o0 (ds++[Dx [97+a.toNat]]) 114 a):=by
 obtain⟨k,rfl⟩:=abS h.1;have b:k<26:=by have:=h.2;omega
 refine ae (bj (ah (aj rfl rfl rfl rfl (show cF .eq (Dx [114]) (.str "r")=some true by decide +kernel))) (ae (bA (xs:=ds.map OD.fz) rfl (EE (i:=k) jA rfl rfl b) rfl rfl (by rw[aaa];omega) ?_) rfl)) rfl;rw[iK];rfl
theorem GP{n:Nat}{o0:Option OD}{ds:List PyData}{a:Int}(b:0<=a)(c:a<100000000)(f:ds.length<=100):aQ (pB (n+1)) Be (liE o0 ds 110 a)=some (.nx,liE o0 (ds++[Dx (fgs a)]) 110 a):=by
 have g:ev (pB (n+1)) (.sht (.nm 3)) (liE o0 ds 110 a)=some (.val (Sx (fgs a)),liE o0 ds 110 a):=by have:=tY (C:=pB (n+1)) (e:=.nm 3) (ρ:=liE o0 ds 110 a) (d:=.int a) rfl rfl (yp b c);rw[fgs_sx b]at this;exact this
 refine ae (s_ifF (ah (aj rfl rfl rfl rfl (show cF .eq (Dx [110]) (.str "r")=some false by decide +kernel))) (ae (bA (xs:=ds.map OD.fz) rfl (gK (ah (aj rfl rfl rfl rfl (show cF .eq (Dx [110]) (.str "n")=some true by decide +kernel))) g) rfl rfl (by rw[aaa];omega) ?_) rfl)) rfl;rw[iK];rfl
theorem GQ{n:Nat}{o0:Option OD}{ds:List PyData}{k:Nat}(h:k<=600)(b:ds.length<=100):aQ (pB (n+1)) Be (liE o0 ds 116 k)=some (.nx,liE o0 (ds++[Dx (two k)]) 116 k):=by have e:=yr (n:=n) h;have a:(pB (n+1)).call=pl.pg.call (n+1):=rfl;rw[<-a]at e;refine ae (s_ifF (ah (aj rfl rfl rfl rfl (show cF .eq (Dx [116]) (.str "r")=some false by decide +kernel))) (ae (bA (xs:=ds.map OD.fz) rfl (e_ifF (ah (aj rfl rfl rfl rfl (show cF .eq (Dx [116]) (.str "n")=some false by decide +kernel))) (af (ρ3:=liE o0 ds 116 k) rfl rfl e rfl)) rfl rfl (by rw[aaa];omega) ?_) rfl)) rfl;rw[iK];rfl
theorem oA{n:Nat}{o0:Option OD}:∀{ps:List Pt}{ds:List PyData}{o2 o3:Option OD},(∀p∈ps,∀ds:List PyData,ds.length<=100->aQ (pB (n+1)) Be (liE o0 ds p.s p.v)=some (.nx,liE o0 (ds++[Dx p.tx]) p.s p.v))->ds.length+ps.length<=100 ->
  ∃p2 b,bF (λd a=>(aY (.tp [2,3]) (.fz d) a).bind λρ1=>aQ (pB (n+1)) Be ρ1) (ps.map λp=>.tuple [Dx [p.s],.int p.v]) [o0,some (.lst (ds.map OD.fz)),o2,o3]=some (.nx,[o0,some (.lst ((ds++ps.map λp=>Dx p.tx).map OD.fz)),p2,b])
 |[],ds,o2,o3,_,_=>⟨o2,o3,by rw[aaL,aaL,aaq];rfl⟩
 |p::ps,ds,o2,o3,h,hl=>by rw[aan]at hl;obtain⟨p2,b,e⟩:=oA (n:=n) (o0:=o0) (ps:=ps) (ds:=ds++[Dx p.tx]) (o2:=some (Sx [p.s])) (o3:=pc p.v) (λq c=>h q (aaf _ c)) (by rw[aau,aaQ];omega);rw[aac]at e;exact⟨p2,b,bs (bs (x:=liE o0 ds p.s p.v) rfl (h p aah ds (by omega))) e⟩
theorem Bf:∀ps:List Pt,bE (ps.map λp=>Dx [p.s]) (ps.map λp=>PyData.int p.v)=ps.map λp=>.tuple [Dx [p.s],.int p.v]:=by
 intro ps;induction ps with
 |nil=>rfl
 |cons p ps a=>simpa[bE] using a
theorem cB{n:Nat}{W:Str}{w:List Nat}{f:Str}{ps:List Pt}(I:W=sx w)(F:FS.lookup W=some f)(A:kG f=ps.map λp=>Dx [p.s])(i:∀o0,∀p∈ps,∀ds:List PyData,ds.length<=100->aQ (pB (n+1)) Be (liE o0 ds p.s p.v)=some (.nx,liE o0 (ds++[Dx p.tx]) p.s p.v))(c:ps.length<=2)(q:w.length<=8/\∀p∈ps,p.tx.length<=8):
  pl.pg.call (n+2) 14 [.fz (.tuple (.str W::ps.map λp=>.int p.v))]=some (Sx (jn 32 (w::ps.map Pt.tx)),[.fz (.tuple (.str W::ps.map λp=>.int p.v))]):=by
 obtain⟨d,g⟩:∃d:PyData,d=.tuple (.str W::ps.map λp=>.int p.v):=⟨_,rfl⟩
 have o:∀{m o2 o3:Option OD},ev (pB (n+1)) ecv [some (.fz d),m,o2,o3]=some (.val (.fz (.str W)),[some (.fz d),m,o2,o3]):=λ{m o2 o3}=>qg (k:=0) (by rw[g];rfl) rfl rfl;have D:bT (pB (n+1)) eba [some (.fz d),none,none,none]=some (.nx,[some (.fz d),some (.lst ([Dx w].map OD.fz)),none,none]):=s_setQ (iy (aa o av) rfl rfl) rfl rfl (by rw[I];rfl);have u:ev (pB (n+1)) (.kgt ci FS ecv) [some (.fz d),some (.lst ([Dx w].map OD.fz)),none,none]=some (.val (.fz (.str f)),[some (.fz d),some (.lst ([Dx w].map OD.fz)),none,none]):=e_kgtQ o rfl F;have r:ev (pB (n+1)) eb1 [some (.fz d),some (.lst ([Dx w].map OD.fz)),none,none]=some (.val (.fz (.tuple (ps.map λp=>.int p.v))),[some (.fz d),some (.lst ([Dx w].map OD.fz)),none,none]):=AQ (d:=.str W) (by rw[g];rfl);obtain⟨t,B,e⟩:=oA (n:=n) (o0:=some (.fz d)) (ps:=ps) (ds:=[Dx w]) (o2:=none) (o3:=none) (i _) (by simp;omega);have H:lz (pB (n+1)) (.zps (.kgt ci FS ecv) eb1) [some (.fz d),some (.lst ([Dx w].map OD.fz)),none,none]=some (ps.map λp=>.tuple [Dx [p.s],.int p.v],[some (.fz d),some (.lst ([Dx w].map OD.fz)),none,none]):=by rw[<-Bf,<-A];exact i_zpsQ u r rfl rfl rfl
 have G:(" ":Str).length=1:=by decide +kernel
 have h:[Dx w]++ps.map (λp=>Dx p.tx)=(w::ps.map Pt.tx).map Dx:=by simp
 rw[h]at e;have j:=jE (C:=pB (n+1)) (a:=.str " ") (b:=.nm 1) (ρ:=[some (.fz d),some (.lst (((w::ps.map Pt.tx).map Dx).map OD.fz)),t,B]) (x:=.val (.fz (.str " "))) (y:=.rf 1) (z:=" ") (ls:=w::ps.map Pt.tx) (w:=sx (jn 32 (w::ps.map Pt.tx))) rfl rfl rfl (dat_fz _) (by
  rw[G];have:=eB (ls:=w::ps.map Pt.tx) (b:=8) λl c=>by
   rcases aab.mp c with rfl|c
   ·exact q.1
   ·obtain⟨p,i,rfl⟩:=aal.mp c;exact q.2 p i
  rw[aan,aaa]at this ⊢;omega) (by rw[oh,fT])
 rw[<-g];exact ao (fn:=iC) rfl rfl (ae D (ae (fv H e) (aM (au j rfl)))) rfl
theorem kE{d:Type}{P:d->Prop}{a b:d}(f:P a)(e:P b):∀p∈[a,b],P p:=λp c=>by
 rcases aab.mp c with rfl|c
 ·exact f
 ·exact aaw.mp c▸e
theorem mem1{b:Type}{P:b->Prop}{a:b}(d:P a):∀p∈[a],P p:=λp c=>aaw.mp c▸d
theorem Bg{n N:Nat}{r:R}(h:Rk N r)(j:N<=600):pl.pg.call (n+2) 14 [.fz r.d]=some (Sx (lnR (tl r) r).tx,[.fz r.d]):=by
 have i:∀{g:Int},0<=g->g<=N->∀(o0:Option OD) (ds:List PyData),ds.length<=100->aQ (pB (n+1)) Be (liE o0 ds 116 g)=some (.nx,liE o0 (ds++[Dx (two g.toNat)]) 116 g):=λ{g} h0 h1 o0 ds c=>by have:=GQ (n:=n) (o0:=o0) (ds:=ds) (k:=g.toNat) (by omega) c;rw[show ((g.toNat:Nat):Int)=g by omega]at this;exact this
 cases r with
 |st r k=>exact cB (n:=n) (W:=ap) (w:=[115,101,116]) (f:="rn") (ps:=[rP r,⟨110,fgs k,k⟩]) (by decide +kernel) (by decide +kernel) (ow (l:=[114,110]) (by decide +kernel)) (λo0=>kE (λds c=>mo h.1 c) (λds c=>GP h.2.1 h.2.2 c)) (by simp) ⟨by decide,kE (by simp) (jF h.2.1 h.2.2).l8⟩
 |sm a b=>exact cB (n:=n) (W:=bi) (w:=[115,117,109]) (f:=ce) (ps:=[rP a,rP b]) (by decide +kernel) (by decide +kernel) (ow (l:=[114,114]) (by decide +kernel)) (λo0=>kE (λds c=>mo h.1 c) (λds c=>mo h.2 c)) (by simp) ⟨by decide,kE (by simp) (by simp)⟩
 |ls a b=>exact cB (n:=n) (W:=bm) (w:=[108,101,115,115]) (f:=ce) (ps:=[rP a,rP b]) (by decide +kernel) (by decide +kernel) (ow (l:=[114,114]) (by decide +kernel)) (λo0=>kE (λds c=>mo h.1 c) (λds c=>mo h.2 c)) (by simp) ⟨by decide,kE (by simp) (by simp)⟩
 |tl a=>exact cB (n:=n) (W:=bv) (w:=[116,101,108,108]) (f:="r") (ps:=[rP a]) (by decide +kernel) (by decide +kernel) (ow (l:=[114]) (by decide +kernel)) (λo0=>mem1 (λds c=>mo h c)) (by simp) ⟨by decide,mem1 (by simp)⟩
 |go g=>exact cB (n:=n) (W:=ac) (w:=[103,111]) (f:="t") (ps:=[⟨116,two g.toNat,g⟩]) (by decide +kernel) (by decide +kernel) (ow (l:=[116]) (by decide +kernel)) (λo0=>mem1 (λds c=>i h.1 h.2 o0 ds c)) (by simp) ⟨by decide,mem1 (by simp)⟩
 |nl r g=>exact cB (n:=n) (W:=am) (w:=[110,105,108]) (f:="rt") (ps:=[rP r,⟨116,two g.toNat,g⟩]) (by decide +kernel) (by decide +kernel) (ow (l:=[114,116]) (by decide +kernel)) (λo0=>kE (λds c=>mo h.1 c) (λds c=>i h.2.1 h.2.2 o0 ds c)) (by simp) ⟨by decide,kE (by simp) (by simp)⟩
 |sp=>exact cB (n:=n) (W:=bn) (w:=[115,116,111,112]) (f:="") (ps:=[]) (by decide +kernel) (by decide +kernel) (ow (l:=[]) (by decide +kernel)) (λo0 p e=>absurd e (by simp)) (by simp) ⟨by decide,λp e=>absurd e (by simp)⟩
def gl(rs:List R):List Int:=rs.filterMap Gv
def uO(G:List Int):List R->Nat->List Ln
 |[],k=>if (k:Int)∈G then [.lb (two k)] else []
 |r::rs,k=>(if (k:Int)∈G then [.lb (two k)] else [])++lnR (tl r) r::uO G rs (k+1)
abbrev lns(rs:List R):List Ln:=uO (gl rs) rs 0
theorem t_sin{C:Ct}{neg:Bool}{e:E}{i:Nat}{ps:List Acc}{ρ ρ1:DEnv}{k:Bool}(h:ev C (.sin neg e i ps) ρ=some (.val (.fz (.bool k)),ρ1)):aZ C (.sin neg e i ps) ρ=some (k,ρ1):=bs h rfl
theorem Bh{C:Ct}{c e:E}{o:List Int}{ρ ρ1:DEnv}{z:Option (List Int×DEnv)}(h:aZ C c ρ=some (true,ρ1))(k:sC C e o ρ1=z):j7 C (.some c) e o ρ=z:=bs h (by rw[if_pos rfl];exact k)
theorem Bi{C:Ct}{c e:E}{o:List Int}{ρ ρ1:DEnv}(h:aZ C c ρ=some (false,ρ1)):j7 C (.some c) e o ρ=some (o,ρ1):=bs h (by rw[if_neg (show ¬ false=true by decide)])
abbrev gT:E:=.call 0 ec0
abbrev gX:E:=.ix (.nm 0) (.neg (.int 1))
theorem gY{n:Nat}:∀{rs:List R}{out:List Int}{o:Option OD},out.length+rs.length<=900->∃o',dU (λo d ρ=>(aY (.nm 0) (.fz d) ρ).bind λρ1=>j7 (pB (n+1)) (.some gT) gX o ρ1) (rs.map R.d) out [o]=some (out++gl rs,[o'])
 |[],out,o,_=>⟨o,by show some (out,_)=some (out++[],_);rw[aaq]⟩
 |r::rs,out,o,hl=>by
  rw[aan]at hl;have e:=uA (n:=n) (r:=r);have f:(pB (n+1)).call=pl.pg.call (n+1):=rfl;rw[<-f]at e;have t:aZ (pB (n+1)) gT [some (.fz r.d)]=some ((Gv r).isSome,[some (.fz r.d)]):=eX (af (ρ3:=[some (.fz r.d)]) rfl rfl e rfl);cases b:Gv r with
  |none=>rw[b]at t;obtain⟨o',c⟩:=gY (n:=n) (rs:=rs) (out:=out) (o:=some (.fz r.d)) (by omega);refine⟨o',bs (x:=(out,[some (.fz r.d)])) (bs (x:=[some (.fz r.d)]) rfl (Bi t)) (c.trans ?_)⟩;rw[gl,gl,aci b]
  |some g=>rw[b]at t;obtain⟨o',c⟩:=gY (n:=n) (rs:=rs) (out:=out++[g]) (o:=some (.fz r.d)) (by rw[aau,aaQ];omega);have x:ev (pB (n+1)) gX [some (.fz r.d)]=some (.val (.fz r.la),[some (.fz r.d)]):=r_ixl rfl;have a:sC (pB (n+1)) gX out [some (.fz r.d)]=some (out++[g],[some (.fz r.d)]):=bg (by omega) (bs x (bs rfl (by rw[ur b];rfl)));refine⟨o',bs (x:=(out++[g],[some (.fz r.d)])) (bs (x:=[some (.fz r.d)]) rfl (Bh t a)) (c.trans ?_)⟩;rw[gl,gl,acj b,aac];rfl
abbrev H9:Ss:=.cons eap eal
abbrev xE(rs:List R)(G:List Int)(Ls:List Ln)(o3:Option OD):DEnv:=[pA rs,some (.st G),some (.lst ((cP Ls).map OD.fz)),o3]
theorem eE{Ls:List Ln}{L:Ln}:(cP Ls).map OD.fz++[Sx L.tx]=(cP (Ls++[L])).map OD.fz:=by rw[cP,cP,aaC,aaC];rfl
abbrev lbK(G:List Int)(k:Nat):List Ln:=if (k:Int)∈G then [.lb (two k)] else []
theorem yt{n k:Nat}{rs:List R}{G:List Int}{Ls:List Ln}(hk:k<=600)(f:Ls.length<=10000):bT (pB (n+1)) eap (xE rs G Ls (pc k))=some (.nx,xE rs G (Ls++lbK G k) (pc k)):=by
 have c:(":":Str)=sx [58]:=by decide +kernel
 have t:aZ (pB (n+1)) (.sin false (.nm 3) 1 []) (xE rs G Ls (pc k))=some (decide ((k:Int)∈G),xE rs G Ls (pc k)):=by have:ev (pB (n+1)) (.sin false (.nm 3) 1 []) (xE rs G Ls (pc k))=some (.val (.fz (.bool (decide ((k:Int)∈G)))),xE rs G Ls (pc k)):=rfl;exact t_sin this
 by_cases h:(k:Int)∈G
 ·rw[Dac h]at t;rw[lbK,if_pos h];have e:=yr (n:=n) hk;have d:(pB (n+1)).call=pl.pg.call (n+1):=rfl;rw[<-d]at e;have g:ev (pB (n+1)) E7 (xE rs G Ls (pc k))=some (.val (Sx (two k)),xE rs G Ls (pc k)):=af (ρ3:=xE rs G Ls (pc k)) rfl rfl e rfl;have a:ev (pB (n+1)) (.fst E7 ":") (xE rs G Ls (pc k))=some (.val (.fz (.str (sx (two k)++":"))),xE rs G Ls (pc k)):=bs g (bs rfl (bs rfl (bg (by rw[aC];have:(":":Str).length=1:=(by decide +kernel);simp;omega) rfl)));have b:sx (two k)++":"=sx (Ln.lb (two k)).tx:=by rw[c,fc];rfl
  refine bj t (ae (bA (xs:=(cP Ls).map OD.fz) rfl a rfl rfl (by rw[aaa,aaa];omega) ?_) rfl);rw[b,eE];rfl
 ·rw[Dab h]at t;rw[lbK,if_neg h,aaq];exact s_ifF t rfl
theorem mq{C:Ct}{rs:List R}{G:List Int}{Ls:List Ln}{o3:Option OD}:ev C ecb (xE rs G Ls o3)=some (.val (It rs.length),xE rs G Ls o3):=by have:=bI (C:=C) (g:=.len) (es:=.cons (.nm 0) .nil) (ρ:=xE rs G Ls o3) (rs:=[.val (Fr rs)]) (ds:=[.list (rs.map R.d)]) rfl rfl gS;rw[aaa]at this;exact this
theorem Bj{n k N:Nat}{rs:List R}{G:List Int}{Ls:List Ln}{r:R}(a:rs[k]?=some r)(hk:Rk N r)(f:N<=600)(h:Ls.length<=10000):bT (pB (n+2)) Hw (xE rs G Ls (pc k))=some (.nx,xE rs G (Ls++[lnR (tl r) r]) (pc k)):=by have c:k<rs.length:=(aao.mp a).1;have e:=Bg (n:=n) hk f;have g:(pB (n+2)).call=pl.pg.call (n+2):=rfl;rw[<-g]at e;have b:ev (pB (n+2)) (.ix (.nm 0) (.nm 3)) (xE rs G Ls (pc k))=some (.val (.fz r.d),xE rs G Ls (pc k)):=gI (x:=.val (Fr rs)) rfl rfl rfl (lT (atI_n (by rw[aaz,a];rfl)));refine bj (ah (aj (dx:=.int k) (dy:=.int rs.length) rfl mq rfl rfl (show some (decide ((k:Int)<rs.length))=some true by rw[Dac (by omega)]))) (ae (bA (xs:=(cP Ls).map OD.fz) rfl (af (ρ3:=xE rs G Ls (pc k)) (aa b av) rfl e rfl) rfl rfl (by rw[aaa,aaa];omega) ?_) rfl);rw[eE];rfl
theorem Bk{C:Ct}{i nt:Nat}{fr:List Nat}{it:It'}{c:Tg}{ifs:Eo}{elt:E}{ρ ρ1 a ρ3:DEnv}{ds:List PyData}{b:DEnv×DEnv}{out:List Int}(g:lz C it ρ=some (ds,ρ1))(h:ds.length<1000000)(e:bK ρ1 fr=some b)(f:dU (λo d ρ=>(aY c (.fz d) ρ).bind λρ1=>j7 C ifs elt o ρ1) ds [] (List.replicate nt none++b.1)=some (out,a))(hi:i<(cJ b.2 fr (a.drop nt)).length)(j:(cJ b.2 fr (a.drop nt)).set i (some (.st out))=ρ3):bT C (.ssc i nt fr it c ifs elt) ρ=some (.nx,ρ3):=bs g (bg h (bs e (bs (x:=(out,a)) f (bg hi (by rw[<-j])))))
theorem cQ{G:List Int}{r:R}{rs:List R}{k:Nat}:uO G (r::rs) k=lbK G k++([lnR (tl r) r]++uO G rs (k+1)):=by show (if (k:Int)∈G then [.lb (two k)] else [])++lnR (tl r) r::uO G rs (k+1)=_;rfl
theorem oB{n N:Nat}{rs:List R}{G:List Int}(hk:∀r∈rs,Rk N r)(f:N<=600)(m:rs.length<=500):∀{suf:List R}{k:Nat}{Ls:List Ln}{o3:Option OD},rs.drop k=suf->k+suf.length=rs.length->Ls.length<=2*k->∃c,bF (λd e=>(aY (.nm 3) (.fz d) e).bind λρ1=>aQ (pB (n+2)) H9 ρ1) (cx k (suf.length+1)) (xE rs G Ls o3)=some (.nx,xE rs G (Ls++uO G suf k) c)
 |[],k,Ls,o3,hd,a,hL=>by have a:k=rs.length:=a;have b:=yt (n:=n+1) (k:=k) (rs:=rs) (G:=G) (Ls:=Ls) (by omega) (by omega);have t:aZ (pB (n+2)) Hn (xE rs G (Ls++lbK G k) (pc k))=some (false,xE rs G (Ls++lbK G k) (pc k)):=ah (aj (dx:=.int k) (dy:=.int rs.length) rfl mq rfl rfl (show some (decide ((k:Int)<rs.length))=some false by rw[Dab (by omega)]));refine⟨pc k,?_⟩;rw[show ([]:List R).length+1=0+1 from rfl,ck];exact bs (bs (x:=xE rs G Ls (pc k)) rfl (ae b (ae (s_ifF t rfl) rfl))) rfl
 |r::suf,k,Ls,o3,hd,a,hL=>by
  rw[aan]at a;have g:rs[k]?=some r:=by have:=abp (xs:=rs) (i:=k) (j:=0);rw[hd,abU]at this;exact this.symm
  have b:=yt (n:=n+1) (k:=k) (rs:=rs) (G:=G) (Ls:=Ls) (by omega) (by omega);have o:(lbK G k).length<=1:=by unfold lbK;split<;>simp
  have h:=Bj (n:=n) (G:=G) (Ls:=Ls++lbK G k) g (hk r (aa1 g)) f (by rw[aau];omega);obtain⟨c,l⟩:=oB hk f m (suf:=suf) (k:=k+1) (Ls:=Ls++lbK G k++[lnR (tl r) r]) (o3:=pc k) (by rw[<-abV,hd];rfl) (by omega) (by rw[aau,aau,aaQ];omega);refine⟨c,?_⟩;rw[aan,ck,cQ,<-aac,<-aac];exact bs (bs (x:=xE rs G Ls (pc k)) rfl (ae b (ae h rfl))) l
theorem jG{G:List Int}:∀{rs:List R}{k:Nat},(uO G rs k).length<=2*rs.length+1
 |[],k=>by show (lbK G k).length<=_;unfold lbK;split<;>simp
 |r::rs,k=>by
  have:=jG (G:=G) (rs:=rs) (k:=k+1);have a:(lbK G k).length<=1:=by unfold lbK;split<;>simp
  rw[cQ,aau,aau,aaQ,aan];omega
theorem uC{G:List Int}{N:Nat}(i:N<=600):∀{rs:List R}{k:Nat},(∀r∈rs,Rk N r)->k+rs.length<=600->∀L∈uO G rs k,L.ok:=by
 have c:∀{k:Nat},k<=600->∀L∈lbK G k,L.ok:=λ{k} b L h=>by
  unfold lbK at h;split at h
  ·rw[aaw.mp h];exact .lb _ (eD b)
  ·exact absurd h (by simp)
 intro rs;induction rs with
 |nil=>exact λ{k} _ b=>c b
 |cons r rs f=>
  intro k h b L a;rw[aan]at b;rw[cQ]at a;rcases aai.mp a with a|a
  ·exact c (by omega) L a
  ·rcases aai.mp a with a|a
   ·rw[aaw.mp a];refine mf (h r aah) λg=>?_;obtain⟨t,e⟩:=Gv_gl g;have:=fI (h r aah) e;show Lab (two ((Gv r).getD 0).toNat);rw[e];exact eD (by show t.toNat<=600;omega)
   ·exact f (k:=k+1) (λq d=>h q (aaf _ d)) (by omega) L a
theorem gZ{n N:Nat}{rs:List R}(hk:∀r∈rs,Rk N r)(d:N<=600)(a:rs.length<=500):pl.pg.call (n+3) 15 [Fr rs]=some (Sx (dH (lns rs)),[Fr rs]):=by
 obtain⟨t,g⟩:=gY (n:=n+1) (rs:=rs) (out:=[]) (o:=none) (by simp;omega);rw[aaT]at g;have j:bT (pB (n+2)) (.ssc 1 1 [] (.seq (.nm 0)) (.nm 0) (.some gT) gX) [pA rs,none,none,none]=some (.nx,[pA rs,some (.st (gl rs)),none,none]):=Bk (gM (x:=.val (Fr rs)) rfl rfl rfl) (by rw[aaa];omega) rfl g (show 1<4 by decide) rfl;obtain⟨f,e⟩:=oB (n:=n) (rs:=rs) (G:=gl rs) hk d a (suf:=rs) (k:=0) (Ls:=[]) (o3:=none) rfl (by omega) (by simp);rw[aaT]at e;have p:("\n":Str)=sx [10]:=by decide +kernel
 have s:("\n":Str).length=1:=by decide +kernel
 have c:=uC (G:=gl rs) d (rs:=rs) (k:=0) hk (by omega);have h:(lns rs).length<=2*rs.length+1:=jG (G:=gl rs) (rs:=rs) (k:=0);have i:ev (pB (n+2)) (.joi (.str "\n") (.nm 2)) (xE rs (gl rs) (lns rs) f)=some (.val (Sx (dH (lns rs))),xE rs (gl rs) (lns rs) f):=by
  refine jE (x:=.val (.fz (.str "\n"))) (z:="\n") (y:=.rf 2) (ls:=(lns rs).map Ln.tx) rfl rfl rfl ?_ ?_ ?_
  ·rw[aaI];exact dat_fz (cP (lns rs))
  ·have:=eB (ls:=(lns rs).map Ln.tx) (b:=30) λl a=>by obtain⟨q,m,rfl⟩:=aal.mp a;exact(c q m).line.1
   rw[s];rw[aaa]at this ⊢;omega
  ·rw[p,fT]
 exact ao (fn:=fB) rfl rfl (ae j (ae (ρ1:=xE rs (gl rs) [] none) (s_setQ rfl rfl rfl rfl) (ae (fv (gL (n:=((rs.length+1:Nat):Int)) (aA (dx:=.int rs.length) (dy:=.int 1) mq rfl rfl rfl rfl) rfl (by omega)) e) (aM (au i rfl))))) rfl
abbrev pP(rs:List R):LP:=((gl rs).foldl ddI []).map λt=>(two t.toNat,t)
theorem gl_mem{rs:List R}{t:Int}:t∈(gl rs).foldl ddI [] ↔ ∃r∈rs,Gv r=some t:=by rw[ox,gl,abh];simp
theorem EJ{rs:List R}{t:Int}:t∈gl rs ↔ ∃r∈rs,Gv r=some t:=by rw[gl,abh]
theorem pP_mem{rs:List R}{l:List Nat}{t:Int}:(l,t)∈pP rs ↔ (∃r∈rs,Gv r=some t)/\l=two t.toNat:=by
 rw[pP,aal];constructor
 ·rintro⟨q,a,b⟩;obtain⟨rfl,rfl⟩:=abT b;exact⟨gl_mem.mp a,rfl⟩
 ·rintro⟨a,rfl⟩;exact⟨t,gl_mem.mpr a,rfl⟩
theorem uD{rs:List R}(hk:∀r∈rs,Rk rs.length r):((pP rs).map (·.1)).Nodup:=by rw[pP,aaI,List.nodup_iff_pairwise_ne,List.pairwise_map];refine(fg (l:=gl rs) aaX).imp_of_mem λ{a b} ha hb ne e=>ne ?_;obtain⟨r,f,g⟩:=gl_mem.mp ha;obtain⟨q,d,c⟩:=gl_mem.mp hb;have:=two_inj e;have:=fI (hk r f) g;have:=fI (hk q d) c;omega
theorem Bm{rs:List R}(hk:∀r∈rs,Rk rs.length r):(pP rs).length<=rs.length+1:=by
 rw[pP,aaa];have:=len_sub (a:=(gl rs).foldl ddI []) (b:=(List.range (rs.length+1)).map λ(k:Nat)=>(k:Int)) (fg aaX) λt c=>by obtain⟨r,d,e⟩:=gl_mem.mp c;have:=fI (hk r d) e;exact aal.mpr ⟨t.toNat,List.mem_range.mpr (by omega),by omega⟩
 rw[aaa,List.length_range]at this;exact this
abbrev hK(G:List Int)(k:Nat):List (List Nat):=if (k:Int)∈G then [two k] else []
theorem yu{G:List Int}{k:Nat}:(hK G k).map Ln.lb=lbK G k:=by unfold hK lbK;split<;>rfl
theorem oC{rs:List R}{k:Nat}(hk:∀r∈rs,Rk rs.length r):(hK (gl rs) k).Perm (Hk (pP rs) k):=by
 refine(List.perm_ext_iff_of_nodup ?_ ((ack.map _).nodup (uD hk))).mpr λa=>?_
 ·unfold hK;split
  ·exact aay.mpr ⟨aav,.nil⟩
  ·exact .nil
 ·rw[Hk_mem,pP_mem,<-EJ];unfold hK;split
  ·rename_i h;rw[aaw];exact⟨λe=>⟨h,by rw[e];rfl⟩,λe=>by rw[e.2];rfl⟩
  ·rename_i h;exact⟨λe=>absurd e (by simp),λe=>absurd e.1 h⟩
theorem Bp{rs:List R}(hk:∀r∈rs,Rk rs.length r)(p:rs.length<=500):∀{suf:List R}{k:Nat}{Ls:List Ln},rs.drop k=suf->k+suf.length=rs.length->Iv (pP rs) rs k Ls->Iv (pP rs) rs (rs.length+1) (Ls++uO (gl rs) suf k):=by
 have b:∀z∈pP rs,Lab z.1:=λz n=>by obtain⟨⟨r,d,e⟩,h⟩:=pP_mem.mp (show (z.1,z.2)∈pP rs from n);have:=fI (hk r d) e;rw[h];exact eD (by omega)
 intro suf;induction suf with
 |nil=>intro k Ls f a l;have a:k=rs.length:=a;have:=l.step (Q:=[]) (by omega) (oC hk) (uD hk) b (.inl ⟨a,rfl⟩);rw[aaq,yu,a]at this;rw[a];exact this
 |cons r suf m=>
  intro k Ls f a l;rw[aan]at a;have d:rs[k]?=some r:=by have:=abp (xs:=rs) (i:=k) (j:=0);rw[f,abU]at this;exact this.symm
  have c:=aa1 d;have o:(lnR (tl r) r).ok:=mf (hk r c) λg=>by obtain⟨t,e⟩:=Gv_gl g;have:=fI (hk r c) e;show Lab (two ((Gv r).getD 0).toNat);rw[e];exact eD (by show t.toNat<=600;omega)
  have:=l.step (Q:=[lnR (tl r) r]) (by omega) (oC hk) (uD hk) b (.inr ⟨r,tl r,d,rfl,o,λt e=>⟨pP_mem.mpr ⟨⟨r,c,e⟩,by show two ((Gv r).getD 0).toNat=_;rw[e];rfl⟩,fI (hk r c) e⟩⟩);rw[yu]at this;have:=m (k:=k+1) (by rw[<-abV,f];rfl) (by omega) this;rw[aac,aac]at this;rw[cQ];exact this
theorem Bq{rs:List R}(hk:∀r∈rs,Rk rs.length r)(b:rs.length<=500):Tt rs (lns rs):=by have a:=Bp hk b (suf:=rs) (k:=0) (Ls:=[]) rfl (by omega) .nil;rw[aaT]at a;have c:(lns rs).length<=(pP rs).length+rs.length:=a.len;have:=Bm hk;exact⟨a.ok,a.nd,by omega,a.rfs,by rw[a.rl,acd (by omega)]⟩
theorem yv{C:Ct}{ρ:DEnv}{e:E}{k:Nat}(hk:k<=600)(c:ev C (.nm 1) ρ=some (.val (Sx ltrs),ρ))(a:ev C e ρ=some (.val (It k),ρ)):ev C (.op2 .cts (.op2 .ixs (.nm 1) (.bop .fdiv e (.int 26))) (.op2 .ixs (.nm 1) (.bop .mod e (.int 26)))) ρ=some (.val (Sx (two k)),ρ):=by
 have f:((k:Int)/26)=((k/26:Nat):Int):=by omega
 have d:((k:Int)%26)=((k%26:Nat):Int):=by omega
 have h:ev C (.op2 .ixs (.nm 1) (.bop .fdiv e (.int 26))) ρ=some (.val (Sx [97+k/26]),ρ):=by refine EE (i:=k/26) c rfl ?_ (by omega);rw[<-f];exact aA a rfl rfl rfl (n6 (by decide))
 have g:ev C (.op2 .ixs (.nm 1) (.bop .mod e (.int 26))) ρ=some (.val (Sx [97+k%26]),ρ):=by refine EE (i:=k%26) c rfl ?_ (abx _ (by decide));rw[<-d];exact aA a rfl rfl rfl (cO (by decide))
 have b:=lY (C:=C) h rfl g rfl (by rw[aC,aC];simp);rw[fc]at b;exact b
theorem EK{C:Ct}{rs:List R}{ρ:DEnv}(c:rs.length<=500)(b:ev C (.nm 0) ρ=some (.val (Fr rs),ρ)):ev C eah ρ=some (.val (Il (gl rs)),ρ):=by
 obtain⟨h,e⟩:=l9 (C:=C) (ifs:=.cmp .inn ecv (.tup GM)) (elt:=.ix (.nm 0) (.neg (.int 1))) (E0:=λo=>[o]) (f:=R.d) (g:=R.la) (p:=λr=>(Gv r).isSome) (L:=rs) (out:=[]) (o:=none) λr _ o=>by
  have t:aZ C Hu [some (.fz r.d)]=some ((Gv r).isSome,[some (.fz r.d)]):=ah (aj (fH rfl) rfl rfl rfl EG);cases a:(Gv r).isSome with
  |false=>rw[a]at t;exact xg rfl t
  |true=>rw[a]at t;exact cs_T rfl t (r_ixl rfl) rfl
 rw[gv_map]at e;exact cM (ρ1:=ρ) (gM b rfl rfl) (by rw[aaa];omega) rfl e rfl
abbrev dE(rs:List R)(Ls:List Ln)(o4 o5 o6:Option OD):DEnv:=[pA rs,pr ltrs,some (Il (gl rs)),some (.lst ((cP Ls).map OD.fz)),o4,o5,o6]
abbrev Hx:S':=.iff ecs eaj .nil
theorem yw{C:Ct}{k:Nat}{rs:List R}{Ls:List Ln}{o5 o6:Option OD}(hk:k<=600)(f:Ls.length<=10000):bT C Hx (dE rs Ls (pc k) o5 o6)=some (.nx,dE rs (Ls++lbK (gl rs) k) (pc k) o5 o6):=by
 have d:(":":Str)=sx [58]:=by decide +kernel
 have t:aZ C ecs (dE rs Ls (pc k) o5 o6)=some (decide ((k:Int)∈gl rs),dE rs Ls (pc k) o5 o6):=
  ah (aj (x:=.val (It k)) (y:=.rf 2) (dx:=.int k) (dy:=.list ((gl rs).map PyData.int)) rfl rfl rfl (dat_fz _) (show inA _ _=_ from bs rfl (bg rfl (ig k (gl rs)))))
 by_cases h:(k:Int)∈gl rs
 ·rw[Dac h]at t;rw[lbK,if_pos h];have g:=yv (C:=C) (ρ:=dE rs Ls (pc k) o5 o6) (e:=.nm 4) hk rfl rfl;have a:=lY (C:=C) (b:=.str ":") (y:=.val (.fz (.str ":"))) (w:=":") g rfl rfl rfl (by rw[aC];have:(":":Str).length=1:=(by decide +kernel);simp;omega);have c:sx (two k)++":"=sx (Ln.lb (two k)).tx:=by rw[d,fc];rfl
  refine bj t (ae (bA (xs:=(cP Ls).map OD.fz) rfl a rfl rfl (by rw[aaa,aaa];omega) ?_) rfl);rw[c,eE];rfl
 ·rw[Dab h]at t;rw[lbK,if_neg h,aaq];exact s_ifF t rfl
abbrev GR:S':=.set 6 ead
abbrev dF(rs:List R)(Ls:List Ln)(o4:Option OD)(d:PyData)(ds:List PyData):DEnv:=dE rs Ls o4 (some (.fz d)) (some (.lst (ds.map OD.fz)))
theorem iL{a b:PyData}{xs:List PyData}:cutD (a::b::xs) (some 1) (some 2)=[b]:=by
 unfold cutD;have d:HT.sIx (a::b::xs).length 0 (some 1)=1:=by simp[HT.sIx]
 have c:HT.sIx (a::b::xs).length (a::b::xs).length (some 2)=2:=by simp[HT.sIx]
 rw[d,c];rfl
theorem mr{C:Ct}{rs:List R}{Ls:List Ln}{o4 o6:Option OD}{W:Str}{xs ws:List PyData}{k:Bool} (g:cF .ne (.str W) (.str ac)=some k) (s:cutD (.str W::xs) (some 1) (some 2)=xs.take 1) (f:(k=true/\∃a ys,xs=.int a::ys/\rg a/\ws=[Dx [97+a.toNat]])\/((k=false\/xs=[])/\ws=[])):bT C GR (dE rs Ls o4 (some (.fz (.tuple (.str W::xs)))) o6)=some (.nx,dF rs Ls o4 (.tuple (.str W::xs)) (.str W::ws)):=by
 have i:ev C Ex (dE rs Ls o4 (some (.fz (.tuple (.str W::xs)))) o6)=some (.val (.fz (.str W)),dE rs Ls o4 (some (.fz (.tuple (.str W::xs)))) o6):=qg (k:=0) rfl rfl rfl;have n:ev C (.lst Hg) (dE rs Ls o4 (some (.fz (.tuple (.str W::xs)))) o6)=some (.val (.lst ([PyData.str W].map OD.fz)),dE rs Ls o4 (some (.fz (.tuple (.str W::xs)))) o6):=iy (aa i av) rfl rfl;have j:ev C Hm (dE rs Ls o4 (some (.fz (.tuple (.str W::xs)))) o6)=some (.val (.fz (.tuple (xs.take 1))),dE rs Ls o4 (some (.fz (.tuple (.str W::xs)))) o6):=by
  have:=jy (C:=C) (a:=.nm 5) (lo:=.some (.int 1)) (hi:=.some (.int 2)) (ρ:=dE rs Ls o4 (some (.fz (.tuple (.str W::xs)))) o6) (x:=.val (.fz (.tuple (.str W::xs)))) (l:=some 1) (u:=some 2) (ds:=.str W::xs) rfl rfl rfl rfl (by
   intro h;have h:=h.1;simp[HT.sIx]at h)
  rw[s]at this;exact this
 have d:∀{o:Option OD},aZ C GL [o,some (.fz (.tuple (.str W::xs)))]=some (k,[o,some (.fz (.tuple (.str W::xs)))]):=λ{o}=>ah (aj (qg (k:=0) rfl rfl rfl) rfl rfl rfl g);have b:∃c,bO (bH C (.nm 0) (.some GL) (.op2 .ixs (.str ii) (.nm 0))) (xs.take 1) [] [none,some (.fz (.tuple (.str W::xs)))]=some (ws,[c,some (.fz (.tuple (.str W::xs)))]):=by
  rcases f with ⟨rfl,a,ys,rfl,q,rfl⟩|⟨h,rfl⟩
  ·exact⟨pc a,bs (x:=([Dx [97+a.toNat]],[pc a,some (.fz (.tuple (.str W::.int a::ys)))])) (cs_T (ρ1:=[pc a,some (.fz (.tuple (.str W::.int a::ys)))]) rfl d (yq (r:=a) rfl rfl q) rfl) rfl⟩
  ·cases xs with
   |nil=>exact⟨none,rfl⟩
   |cons x xs=>have h:k=false:=h.resolve_right (by simp);subst h;exact⟨some (.fz x),bs (x:=([],[some (.fz x),some (.fz (.tuple (.str W::x::xs)))])) (xg (ρ1:=[some (.fz x),some (.fz (.tuple (.str W::x::xs)))]) rfl d) rfl⟩
 obtain⟨c,e⟩:=b;have m:=cM (C:=C) (nt:=1) (fr:=[5]) (ρ2:=dE rs Ls o4 (some (.fz (.tuple (.str W::xs)))) o6) (gM j rfl rfl) (by have:=List.length_take_le 1 xs;omega) rfl e rfl;have p:ws.length<=1:=by rcases f with ⟨_,a,ys,_,_,rfl⟩|⟨_,rfl⟩<;>simp
 exact s_setQ (tP (dx:=[.str W]) (dy:=ws) n m rfl (eM ws) (by simp;omega)) rfl rfl rfl
abbrev BB:S':=.iff eau eaf eab
section
variable{C:Ct}{rs:List R}{Ls:List Ln}{o4:Option OD}{N:Nat}{ds:List PyData}
theorem oD{r:R}:aZ C eau (dF rs Ls o4 r.d ds)=some ((Gv r).isSome,dF rs Ls o4 r.d ds):=ah (aj (fH (e:=.nm 5) rfl) rfl rfl rfl EG)
theorem mw{r:R}{k:Bool} (h:cF .eq (.str r.w) (.str ap)=some k):aZ C Hl (dF rs Ls o4 r.d ds)=some (k,dF rs Ls o4 r.d ds):=ah (aj (fH (e:=.nm 5) rfl) rfl rfl rfl h)
theorem yx{r:R}{k:Bool} (h:inA (.str r.w) (.tuple [.str bi,.str bm])=some k):aZ C Hv (dF rs Ls o4 r.d ds)=some (k,dF rs Ls o4 r.d ds):=ah (aj (fH (e:=.nm 5) rfl) rfl rfl rfl h)
theorem oE{r:R}{t:Int}(a:Gv r=some t)(h:0<=t)(i:t<=600)(f:ds.length<=10):bT C BB (dF rs Ls o4 r.d ds)=some (.nx,dF rs Ls o4 r.d (ds++[Dx (two t.toNat)])):=by
 have b:=oD (C:=C) (rs:=rs) (Ls:=Ls) (o4:=o4) (ds:=ds) (r:=r);rw[a]at b;have c:ev C GK (dF rs Ls o4 r.d ds)=some (.val (It (t.toNat:Int)),dF rs Ls o4 r.d ds):=by have:=r_ixl (C:=C) (e:=.nm 5) (ρ:=dF rs Ls o4 r.d ds) (r:=r) rfl;rw[ur a]at this;rw[show ((t.toNat:Nat):Int)=t by omega];exact this
 have g:=yv (k:=t.toNat) (by omega) rfl c;refine bj b (ae (bA (xs:=ds.map OD.fz) rfl g rfl rfl (by rw[aaa];omega) ?_) rfl);rw[iK];rfl
theorem EL{a k:Int}(b:0<=k)(c:k<100000000)(f:ds.length<=10):bT C BB (dF rs Ls o4 (R.st a k).d ds)=some (.nx,dF rs Ls o4 (R.st a k).d (ds++[Dx (fgs k)])):=by
 have g:ev C Hc (dF rs Ls o4 (R.st a k).d ds)=some (.val (Sx (fgs k)),dF rs Ls o4 (R.st a k).d ds):=by have:=tY (C:=C) (e:=.ix (.nm 5) (.int 2)) (ρ:=dF rs Ls o4 (R.st a k).d ds) (d:=.int k) (qg (k:=2) rfl rfl rfl) rfl (yp b c);rw[fgs_sx b]at this;exact this
 refine s_ifF (oD (r:=.st a k)) (ae (bj (mw (r:=.st a k) (show cF .eq (.str ap) (.str ap)=some true by decide +kernel)) (ae (bA (xs:=ds.map OD.fz) rfl g rfl rfl (by rw[aaa];omega) ?_) rfl)) rfl);rw[iK];rfl
theorem EM{r:R}{W:Str}{a b:Int} (j:r.d=.tuple [.str W,.int a,.int b]) (c:r.w=W) (h:Gv r=none) (l:cF .eq (.str W) (.str ap)=some false) (i:inA (.str W) (.tuple [.str bi,.str bm])=some true) (f:rg b) (m:ds.length<=10):bT C BB (dF rs Ls o4 r.d ds)=some (.nx,dF rs Ls o4 r.d (ds++[Dx [97+b.toNat]])):=by have e:=oD (C:=C) (rs:=rs) (Ls:=Ls) (o4:=o4) (ds:=ds) (r:=r);rw[h]at e;have g:ev C (.op2 .ixs (.str ii) ecz) (dF rs Ls o4 r.d ds)=some (.val (Sx [97+b.toNat]),dF rs Ls o4 r.d ds):=yq (r:=b) (qg (k:=2) (by rw[j];rfl) rfl rfl) rfl f;refine s_ifF e (ae (s_ifF (mw (by rw[c];exact l)) (ae (bj (yx (by rw[c];exact i)) (ae (bA (xs:=ds.map OD.fz) rfl g rfl rfl (by rw[aaa];omega) ?_) rfl)) rfl)) rfl);rw[iK];rfl
theorem EN{r:R}{W:Str} (a:r.w=W) (c:Gv r=none) (f:cF .eq (.str W) (.str ap)=some false) (e:inA (.str W) (.tuple [.str bi,.str bm])=some false):bT C BB (dF rs Ls o4 r.d ds)=some (.nx,dF rs Ls o4 r.d ds):=by have b:=oD (C:=C) (rs:=rs) (Ls:=Ls) (o4:=o4) (ds:=ds) (r:=r);rw[c]at b;exact s_ifF b (ae (s_ifF (mw (by rw[a];exact f)) (ae (s_ifF (yx (by rw[a];exact e)) rfl) rfl)) rfl)
end
theorem Br{C:Ct}{rs:List R}{Ls:List Ln}{o4 o6:Option OD}{N:Nat}{r:R}(h:Rk N r)(m:N<=600):∃ds,bT C GR (dE rs Ls o4 (some (.fz r.d)) o6)=some (.nx,dF rs Ls o4 r.d ds)/\bT C BB (dF rs Ls o4 r.d ds)=some (.nx,dF rs Ls o4 r.d ((xx (tl r) r).map Dx)):=by
 have g:sx [115,101,116]=ap:=by decide +kernel
 have c:sx [115,117,109]=bi:=by decide +kernel
 have f:sx [108,101,115,115]=bm:=by decide +kernel
 have l:sx [116,101,108,108]=bv:=by decide +kernel
 have e:sx [103,111]=ac:=by decide +kernel
 have j:sx [110,105,108]=am:=by decide +kernel
 have i:sx [115,116,111,112]=bn:=by decide +kernel
 cases r with
 |st a k=>refine⟨_,mr (W:=ap) (xs:=[.int a,.int k]) (ws:=[Dx [97+a.toNat]]) (k:=true) (by decide +kernel) iL (.inl ⟨rfl,a,[.int k],rfl,h.1,rfl⟩),(EL h.2.1 h.2.2 (by simp)).trans ?_⟩;rw[<-g];rfl
 |sm a b=>refine⟨_,mr (W:=bi) (xs:=[.int a,.int b]) (ws:=[Dx [97+a.toNat]]) (k:=true) (by decide +kernel) iL (.inl ⟨rfl,a,[.int b],rfl,h.1,rfl⟩),(EM (r:=.sm a b) (W:=bi) rfl rfl rfl (by decide +kernel) (by decide +kernel) h.2 (by simp)).trans ?_⟩;rw[<-c];rfl
 |ls a b=>refine⟨_,mr (W:=bm) (xs:=[.int a,.int b]) (ws:=[Dx [97+a.toNat]]) (k:=true) (by decide +kernel) iL (.inl ⟨rfl,a,[.int b],rfl,h.1,rfl⟩),(EM (r:=.ls a b) (W:=bm) rfl rfl rfl (by decide +kernel) (by decide +kernel) h.2 (by simp)).trans ?_⟩;rw[<-f];rfl
 |tl a=>refine⟨_,mr (W:=bv) (xs:=[.int a]) (ws:=[Dx [97+a.toNat]]) (k:=true) (by decide +kernel) iL (.inl ⟨rfl,a,[],rfl,h,rfl⟩),(EN (r:=.tl a) (W:=bv) rfl rfl (by decide +kernel) (by decide +kernel)).trans ?_⟩;rw[<-l];rfl
 |go t=>refine⟨_,mr (W:=ac) (xs:=[.int t]) (ws:=[]) (k:=false) (by decide +kernel) iL (.inr ⟨.inl rfl,rfl⟩),(oE (r:=.go t) rfl h.1 (by have:=h.2;omega) (by simp)).trans ?_⟩;rw[<-e];rfl
 |nl a t=>refine⟨_,mr (W:=am) (xs:=[.int a,.int t]) (ws:=[Dx [97+a.toNat]]) (k:=true) (by decide +kernel) iL (.inl ⟨rfl,a,[.int t],rfl,h.1,rfl⟩),(oE (r:=.nl a t) rfl h.2.1 (by have:=h.2.2;omega) (by simp)).trans ?_⟩;rw[<-j];rfl
 |sp=>refine⟨_,mr (W:=bn) (xs:=[]) (ws:=[]) (k:=true) (by decide +kernel) (by unfold cutD;simp[HT.sIx]) (.inr ⟨.inr rfl,rfl⟩),(EN (r:=.sp) (W:=bn) rfl rfl (by decide +kernel) (by decide +kernel)).trans ?_⟩;rw[<-i];rfl
abbrev Hy:S':=.app 3 (.joi (.str " ") (.nm 6))
abbrev Hz:S':=.iff ebc (.cons eck (.cons GR (.cons BB (.cons Hy .nil)))) .nil
abbrev dB:Ss:=.cons Hx (.cons Hz .nil)
theorem Bt{a:List Nat}{r:R}(h:(lnR a r).ok):(∀l∈xx a r,l.length<=8)/\(xx a r).length<=3:=by
 unfold xx;generalize lnR a r=L at h;cases h with
 |lb l h=>exact⟨λl h=>absurd h (by simp),by simp⟩
 |rl w f k m j g e d i=>
  refine⟨λl b=>?_,by simp;omega⟩;rcases aab.mp b with rfl|b
  ·have:=d.2.1;omega
  ·obtain⟨p,c,rfl⟩:=aal.mp b;exact(e p c).sg.2.1
theorem EO{r:R}{N:Nat}(h:Rk N r)(a:N<=600):(lnR (tl r) r).ok:=mf h λg=>by obtain⟨t,e⟩:=Gv_gl g;have:=fI h e;show Lab (two ((Gv r).getD 0).toNat);rw[e];exact eD (by show t.toNat<=600;omega)
theorem mx{C:Ct}{rs:List R}{Ls:List Ln}{o4 o5 o6:Option OD}:ev C ecb (dE rs Ls o4 o5 o6)=some (.val (It rs.length),dE rs Ls o4 o5 o6):=by have:=bI (C:=C) (g:=.len) (es:=.cons (.nm 0) .nil) (ρ:=dE rs Ls o4 o5 o6) (rs:=[.val (Fr rs)]) (ds:=[.list (rs.map R.d)]) rfl rfl gS;rw[aaa]at this;exact this
theorem GS{C:Ct}{rs:List R}{Ls:List Ln}{k N:Nat}{o5 o6:Option OD}{r:R}(e:rs[k]?=some r)(h:Rk N r)(c:N<=600)(t:Ls.length<=10000):∃g l,bT C Hz (dE rs Ls (pc k) o5 o6)=some (.nx,dE rs (Ls++[lnR (tl r) r]) (pc k) g l):=by
 have p:k<rs.length:=(aao.mp e).1;obtain⟨u,m,i⟩:=Br (C:=C) (rs:=rs) (Ls:=Ls) (o4:=pc k) (o6:=o6) h c;obtain⟨q,v⟩:=Bt (EO h c);have o:ev C (.ix (.nm 0) (.nm 4)) (dE rs Ls (pc k) o5 o6)=some (.val (.fz r.d),dE rs Ls (pc k) o5 o6):=gI (x:=.val (Fr rs)) rfl rfl rfl (lT (atI_n (by rw[aaz,e];rfl)));have f:bT C eck (dE rs Ls (pc k) o5 o6)=some (.nx,dE rs Ls (pc k) (some (.fz r.d)) o6):=s_setQ o rfl rfl rfl;have n:(" ":Str).length=1:=by decide +kernel
 have j:=jE (C:=C) (a:=.str " ") (b:=.nm 6) (ρ:=dF rs Ls (pc k) r.d ((xx (tl r) r).map Dx)) (x:=.val (.fz (.str " "))) (y:=.rf 6) (z:=" ") (ls:=xx (tl r) r) (w:=sx (lnR (tl r) r).tx) rfl rfl rfl (dat_fz _) (by rw[n];have:=eB q;omega) (by rw[oh,fT,A9]);have s:bT C Hy (dF rs Ls (pc k) r.d ((xx (tl r) r).map Dx))=some (.nx,dF rs (Ls++[lnR (tl r) r]) (pc k) r.d ((xx (tl r) r).map Dx)):=by refine bA (xs:=(cP Ls).map OD.fz) rfl j rfl rfl (by rw[aaa,aaa];omega) ?_;rw[eE];rfl
 exact⟨_,_,bj (ah (aj (dx:=.int k) (dy:=.int rs.length) rfl mx rfl rfl (show some (decide ((k:Int)<rs.length))=some true by rw[Dac (by omega)]))) (ae f (ae m (ae i (ae s rfl))))⟩
theorem oF{C:Ct}{N:Nat}{rs:List R}(hk:∀r∈rs,Rk N r)(g:N<=600)(o:rs.length<=500):∀{suf:List R}{k:Nat}{Ls:List Ln}{o4 o5 o6:Option OD},rs.drop k=suf->k+suf.length=rs.length->Ls.length<=2*k->∃p b e,bF (λd f=>(aY (.nm 4) (.fz d) f).bind λρ1=>aQ C dB ρ1) (cx k (suf.length+1)) (dE rs Ls o4 o5 o6)=some (.nx,dE rs (Ls++uO (gl rs) suf k) p b e)
 |[],k,Ls,o4,o5,o6,hd,a,hL=>by have a:k=rs.length:=a;have c:=yw (C:=C) (k:=k) (rs:=rs) (Ls:=Ls) (o5:=o5) (o6:=o6) (by omega) (by omega);have t:aZ C ebc (dE rs (Ls++lbK (gl rs) k) (pc k) o5 o6)=some (false,dE rs (Ls++lbK (gl rs) k) (pc k) o5 o6):=ah (aj (dx:=.int k) (dy:=.int rs.length) rfl mx rfl rfl (show some (decide ((k:Int)<rs.length))=some false by rw[Dab (by omega)]));refine⟨pc k,o5,o6,?_⟩;rw[show ([]:List R).length+1=0+1 from rfl,ck];exact bs (bs (x:=dE rs Ls (pc k) o5 o6) rfl (ae c (ae (s_ifF t rfl) rfl))) rfl
 |r::suf,k,Ls,o4,o5,o6,hd,a,hL=>by
  rw[aan]at a;have h:rs[k]?=some r:=by have:=abp (xs:=rs) (i:=k) (j:=0);rw[hd,abU]at this;exact this.symm
  have c:=yw (C:=C) (k:=k) (rs:=rs) (Ls:=Ls) (o5:=o5) (o6:=o6) (by omega) (by omega);have q:(lbK (gl rs) k).length<=1:=by unfold lbK;split<;>simp
  obtain⟨b,e,l⟩:=GS (C:=C) (Ls:=Ls++lbK (gl rs) k) (o5:=o5) (o6:=o6) h (hk r (aa1 h)) g (by rw[aau];omega);obtain⟨s,n,u,m⟩:=oF hk g o (suf:=suf) (k:=k+1) (Ls:=Ls++lbK (gl rs) k++[lnR (tl r) r]) (o4:=pc k) (o5:=b) (o6:=e) (by rw[<-abV,hd];rfl) (by omega) (by rw[aau,aau,aaQ];omega);refine⟨s,n,u,?_⟩;rw[aan,ck,cQ,<-aac,<-aac];exact bs (bs (x:=dE rs Ls (pc k) o5 o6) rfl (ae c (ae l rfl))) m
theorem ER{n N:Nat}{rs:List R}(hk:∀r∈rs,Rk N r)(e:N<=600)(a:rs.length<=500):pl.pg.call (n+1) 23 [Fr rs]=some (Sx (dH (lns rs)),[Fr rs]):=by
 obtain⟨g,d,h,f⟩:=oF (C:=pB n) hk e a (suf:=rs) (k:=0) (Ls:=[]) (o4:=none) (o5:=none) (o6:=none) rfl (by omega) (by simp);rw[aaT]at f;have s:("\n":Str)=sx [10]:=by decide +kernel
 have t:("\n":Str).length=1:=by decide +kernel
 have c:=uC (G:=gl rs) e (rs:=rs) (k:=0) hk (by omega);have i:(lns rs).length<=2*rs.length+1:=jG (G:=gl rs) (rs:=rs) (k:=0);have o:bT (pB n) ebq [pA rs,none,none,none,none,none,none]=some (.nx,[pA rs,pr ltrs,none,none,none,none,none]):=s_setQ (x:=.val (.fz (.str hY))) rfl rfl rfl (by rw[n9];rfl);have m:=EK (C:=pB n) (ρ:=[pA rs,pr ltrs,none,none,none,none,none]) a rfl;have j:ev (pB n) (.joi (.str "\n") (.nm 3)) (dE rs (lns rs) g d h)=some (.val (Sx (dH (lns rs))),dE rs (lns rs) g d h):=by
  refine jE (x:=.val (.fz (.str "\n"))) (z:="\n") (y:=.rf 3) (ls:=(lns rs).map Ln.tx) rfl rfl rfl ?_ ?_ ?_
  ·rw[aaI];exact dat_fz (cP (lns rs))
  ·have:=eB (ls:=(lns rs).map Ln.tx) (b:=30) λl a=>by obtain⟨q,p,rfl⟩:=aal.mp a;exact(c q p).line.1
   rw[t];rw[aaa]at this ⊢;omega
  ·rw[s,fT]
 exact ao (fn:=yi) rfl rfl (ae o (ae (s_setQ (ρ3:=[pA rs,pr ltrs,some (Il (gl rs)),none,none,none,none]) m rfl rfl rfl) (ae (ρ1:=dE rs [] none none none) (s_setQ rfl rfl rfl rfl) (ae (fv (gL (n:=((rs.length+1:Nat):Int)) (aA (dx:=.int rs.length) (dy:=.int 1) mx rfl rfl rfl rfl) rfl (by omega)) f) (aM (au j rfl)))))) rfl
def E8:R->Bool|.st _ k=>decide (99<k)|_=>false
theorem ES{C:Ct}{r:R}:aZ C GN [some (.fz r.d)]=some (E8 r,[some (.fz r.d)]):=by
 have c:∀{r:R},cF .eq (.str r.w) (.str ap)=some false->aZ C GN [some (.fz r.d)]=some (false,[some (.fz r.d)]):=λh=>lR (ah (aj (fH rfl) rfl rfl rfl h));cases r with
 |st a k=>exact jo (ah (aj (fH (r:=.st a k) rfl) rfl rfl rfl (show cF .eq (.str ap) (.str ap)=some true by decide +kernel))) (ah (aj (dx:=.int k) (dy:=.int 99) (qg (k:=2) rfl rfl rfl) rfl rfl rfl rfl))
 |sm a b=>exact c (r:=.sm a b) (show cF .eq (.str bi) (.str ap)=some false by decide +kernel)
 |ls a b=>exact c (r:=.ls a b) (show cF .eq (.str bm) (.str ap)=some false by decide +kernel)
 |tl a=>exact c (r:=.tl a) (show cF .eq (.str bv) (.str ap)=some false by decide +kernel)
 |go t=>exact c (r:=.go t) (show cF .eq (.str ac) (.str ap)=some false by decide +kernel)
 |nl a t=>exact c (r:=.nl a t) (show cF .eq (.str am) (.str ap)=some false by decide +kernel)
 |sp=>exact c (r:=.sp) (show cF .eq (.str bn) (.str ap)=some false by decide +kernel)
theorem xB{rs:List R}(hk:∀r∈rs,Rk rs.length r):∀r∈rs++rs.map (R.mv rs.length),Rk (rs++rs.map (R.mv rs.length)).length r:=λr h=>by
 rw[aau,aaa];rcases aai.mp h with h|h
 ·have:=hk r h;cases r with
  |st=>exact this|sm=>exact this|ls=>exact this|tl=>exact this|sp=>exact this
  |go t=>exact⟨this.1,by have:=this.2;show t<=((rs.length+rs.length:Nat):Int);omega⟩
  |nl a t=>exact⟨this.1,this.2.1,by have:=this.2.2;show t<=((rs.length+rs.length:Nat):Int);omega⟩
 ·obtain⟨q,b,rfl⟩:=aal.mp h;exact EI (hk q b)
theorem Bu{n m:Nat}{a b c:Int}(S:TpOk b c m)(hm:m<=80000):∃(qs:List R) (x:OD) (W I J:Int),pl.pg.call (n+4) 22 [Tp a b c]=some (x,[Tp W I J])/\(x=Fr qs\/x=.lst ((qs.map R.d).map OD.fz))/\qs.length<=120/\(∀r∈qs,Rk qs.length r)/\TpOk I J (m+501):=by
 have X:(pB (n+3)).call=pl.pg.call (n+3):=rfl;obtain⟨rs,y,A,D,H,hl,N,t1⟩:=AM (n:=n) (a:=a) S (by omega);obtain⟨x,l,i,j,F,x0,x1,Q⟩:=aT (n:=n+2) (a:=y) (many:=8) t1 (by omega) (by decide) (by decide);have G:=uB (n:=n) (as:=rs) (bs':=rs) (by omega);rw[<-X]at H F G;have Y:ev (pB (n+3)) ecg [pi a b c,none,none,none]=some (.val (Rs rs),[pi y A D,none,none,none]):=af (ρ3:=[pi y A D,none,none,none]) rfl rfl H rfl;have U:ev (pB (n+3)) ea3 [pi y A D,none,none,none]=some (.val (.fz (.bool (decide (x=0)))),[pi l i j,none,none,none]):=aj (af (ρ3:=[pi l i j,none,none,none]) rfl rfl F rfl) rfl rfl rfl rfl;have P:=jq (C:=pB (n+3)) (is:=[1,2]) (ρ3:=[pi l i j,pp rs,some (.fz (.bool (decide (x=0)))),none]) (aa Y (aa U av)) rfl rfl rfl;obtain⟨o',e4⟩:=l9 (C:=pB (n+3)) (ifs:=.and ebk ebr) (elt:=.nm 0) (E0:=λo=>[o]) (f:=R.d) (g:=R.d) (p:=E8) (L:=rs) (out:=[]) (o:=none) λr _ o=>by
  have t:=ES (C:=pB (n+3)) (r:=r);cases u:E8 r with
  |false=>rw[u]at t;exact xg rfl t
  |true=>rw[u]at t;exact cs_T rfl t rfl rfl
 have M:=cM (C:=pB (n+3)) (nt:=1) (fr:=[]) (ρ1:=[pi l i j,pA rs,some (.fz (.bool (decide (x=0)))),none]) (ρ2:=[pi l i j,pA rs,some (.fz (.bool (decide (x=0)))),none]) (gM (e:=.nm 1) (ρ:=[pi l i j,pp rs,some (.fz (.bool (decide (x=0)))),none]) (x:=.rf 1) rfl (jx (x:=Rs rs) (d:=.list (rs.map R.d)) rfl AU rfl) rfl) (by rw[aaa];omega) rfl e4 rfl;obtain⟨q,B⟩:∃q:List PyData,q=[]++(rs.filter E8).map R.d:=⟨_,rfl⟩
 rw[<-B]at M;obtain⟨h,s⟩:∃h:DEnv,h=[pi l i j,pA rs,some (.fz (.bool (decide (x=0)))),some (.lst (q.map OD.fz))]:=⟨_,rfl⟩
 have z:bT (pB (n+3)) eai [pi l i j,pp rs,some (.fz (.bool (decide (x=0)))),none]=some (.nx,h):=by rw[s];exact s_setQ M rfl rfl rfl
 have l1:ev (pB (n+3)) eb9 h=some (.val (It rs.length),h):=by have:=bI (C:=pB (n+3)) (g:=.len) (es:=.cons (.nm 1) .nil) (ρ:=h) (ρ1:=h) (rs:=[.val (Fr rs)]) (ds:=[.list (rs.map R.d)]) (by rw[s];rfl) (by rw[s];rfl) gS;rw[aaa]at this;exact this
 have T:ev (pB (n+3)) Hf h=some (.val (It q.length),h):=by
  have dl:cE h [.rf 3]=some [.list q]:=by
   have:ag h (.rf 3)=some (.list q):=by rw[s];exact dat_fz q
   simp only[cE,this];rfl
  exact bI (C:=pB (n+3)) (g:=.len) (es:=.cons (.nm 3) .nil) (ρ:=h) (ρ1:=h) (rs:=[.rf 3]) (by rw[s];rfl) dl gS
 obtain⟨k,t⟩:∃k:Bool,aZ (pB (n+3)) ean h=some (k,h):=by
  have v:aZ (pB (n+3)) (.nm 2) h=some (decide (x=0),h):=by rw[s];rfl
  have w:aZ (pB (n+3)) Hq h=some (decide ((rs.length:Int)<61),h):=ah (aj (dx:=.int rs.length) (dy:=.int 61) l1 rfl rfl rfl rfl);have Z:aZ (pB (n+3)) Ho h=some (decide ((q.length:Int)<31),h):=ah (aj (dx:=.int q.length) (dy:=.int 31) T rfl rfl rfl rfl);cases O:decide (x=0) with
  |false=>rw[O]at v;exact⟨_,lR v⟩
  |true=>
   rw[O]at v;cases u:decide ((rs.length:Int)<61) with
   |false=>rw[u]at w;exact⟨_,jo v (lR w)⟩
   |true=>rw[u]at w;exact⟨_,jo v (jo w Z)⟩
 cases k with
 |false=>refine⟨rs,Fr rs,l,i,j,?_,.inl rfl,by omega,N,Q⟩;rw[s]at t z;exact ao (fn:=cN) rfl rfl (ae P (ae z (aM (au (e_ifF t rfl) rfl)))) rfl
 |true=>refine⟨rs++rs.map (R.mv rs.length),.lst (((rs++rs.map (R.mv rs.length)).map R.d).map OD.fz),l,i,j,?_,.inr rfl,by rw[aau,aaa];omega,xB N,Q⟩;rw[s]at t z;exact ao (fn:=cN) rfl rfl (ae P (ae z (aM (au (gK t (af (ρ3:=[pi l i j,pA rs,some (.fz (.bool (decide (x=0)))),some (.lst (q.map OD.fz))]) rfl rfl G rfl)) rfl)))) rfl
theorem Bv{C:Ct}{i:Nat}{ρ ρ1:DEnv}{xs:List OD}(b:ρ[i]?.join=some (.lst xs))(a:ρ.set i (some (.lst xs.reverse))=ρ1):bT C (.rev i) ρ=some (.nx,ρ1):=bs b (bs rfl (by rw[a]))
theorem ET{r:R}:PyData.canLay0 r.d=true:=by
 have c:PyData.strOk (Str.ofString "set")=true:=by decide +kernel
 have b:PyData.strOk (Str.ofString "sum")=true:=by decide +kernel
 have h:PyData.strOk (Str.ofString "less")=true:=by decide +kernel
 have f:PyData.strOk (Str.ofString "tell")=true:=by decide +kernel
 have a:PyData.strOk (Str.ofString "go")=true:=by decide +kernel
 have g:PyData.strOk (Str.ofString "nil")=true:=by decide +kernel
 have e:PyData.strOk (Str.ofString "stop")=true:=by decide +kernel
 cases r<;>simp[PyData.canLayAll0,PyData.canLay0,R.d,c,b,h,f,a,g,e]
theorem EU{r:R}:PyData.depth r.d<=1:=by cases r<;>simp[PyData.depthAll,PyData.depth,R.d]
theorem lay_rows:∀rs:List R,PyData.canLayAll0 (rs.map R.d)=true
 |[]=>rfl
 |r::rs=>by show (PyData.canLay0 r.d&&PyData.canLayAll0 (rs.map R.d))=true;rw[ET,lay_rows rs];rfl
theorem dep_rows:∀rs:List R,PyData.depthAll (rs.map R.d)<=1
 |[]=>by simp[PyData.depthAll]
 |r::rs=>by have b:=dep_rows rs;have a:=EU (r:=r);rw[aaj,PyData.depthAll];omega
theorem xC{rs:List R}:cF .ne (.list (rs.map R.d)) (.list (rs.map R.d))=some false:=by
 have b:=dep_rows rs;have a:PyData.canLay0 (.list (rs.map R.d))=true:=lay_rows rs;have h:SeqAt.shaped (.list (rs.map R.d))=true:=by unfold SeqAt.shaped;rw[a,Bool.true_and];exact Dac (by rw[PyData.depth];omega)
 show (if (SeqAt.shaped (.list (rs.map R.d))&&SeqAt.shaped (.list (rs.map R.d)))=true then some (PyData.eqv (.list (rs.map R.d)) (.list (rs.map R.d))) else none).bind _=_;rw[h,Bool.and_self,if_pos rfl,eqv_refl _ a];rfl
abbrev iB:Ss:=.cons eak .nil
abbrev lE(s:OD)(k:Nat)(rs:List R)(o5 o6:Option OD):DEnv:=[some s,pc k,pA rs,some (.lst ((rs.map R.d).map OD.fz)),pr (dH (lns rs)),o5,o6]
theorem oG{s:OD}{k:Nat}{rs:List R}{o5 o6:Option OD}{i:Int}(hk:∀r∈rs,Rk rs.length r)(j:rs.length<=120):((aY (.nm 5) (.fz (.int i)) (lE s k rs o5 o6)).bind λρ1=>aQ (pB 7) iB ρ1)=some (.nx,lE s k rs (pc i) o6):=by have a:=gZ (n:=4) hk (by omega) (by omega);have b:pl.pg.call 7 21 [Sx (dH (lns rs)),Sx (dH (lns rs))]=some (.fz (.bool true),[Sx (dH (lns rs)),Sx (dH (lns rs))]):=ot (n:=6);have h:(pB 7).call=pl.pg.call 7:=rfl;rw[<-h]at a b;have g:ev (pB 7) He (lE s k rs (pc i) o6)=some (.val (Sx (dH (lns rs))),lE s k rs (pc i) o6):=af (ρ3:=lE s k rs (pc i) o6) rfl rfl a rfl;have c:aZ (pB 7) Ht (lE s k rs (pc i) o6)=some (false,lE s k rs (pc i) o6):=eY (k:=true) (nV (nU (aa g (aa rfl av)) rfl b rfl));have e:ag (lE s k rs (pc i) o6) (.rf 3)=some (.list (rs.map R.d)):=dat_fz _;have f:aZ (pB 7) Ha (lE s k rs (pc i) o6)=some (false,lE s k rs (pc i) o6):=ah (aj (x:=.val (Fr rs)) (y:=.rf 3) rfl rfl rfl e xC);exact bs (x:=lE s k rs (pc i) o6) rfl (ae (s_ifF (nW c f) rfl) rfl)
abbrev lB:Ss:=.cons eav (.cons ecp (.cons ebv (.cons (.fr (.nm 5) (.rg1 (.int 2)) iB) eag)))
theorem uE{ns:List Int}{k:Nat}(hk:k<=10){o1 o2 o3 o4 o5 o6:Option OD}:∃p2 B w u z,((aY (.nm 1) (.fz (.int k)) [some (.fz (.list (ns.map PyData.int))),o1,o2,o3,o4,o5,o6]).bind λρ1=>aQ (pB 7) lB ρ1)=some (.nx,[some (.fz (.list (ns.map PyData.int))),pc k,p2,B,w,u,z]):=by
 obtain⟨s,i⟩:∃s:OD,s=.fz (.list (ns.map PyData.int)):=⟨_,rfl⟩
 obtain⟨a,b,h,t⟩:=AL (n:=5) (ns:=ns) hk;obtain⟨c,x,M,J,L,o,q,p,f,_⟩:=Bu (n:=3) (a:=a) t (aaK _);have C:(pB 7).call=pl.pg.call 7:=rfl;have g:=ER (n:=6) f (by omega) (by omega);have T:=Bq f (by omega);have l:=A8 (n:=0) T.ok T.nd T.len T.rf;rw[T.rl]at l;have e:pl.pg.call 7 21 [.fz (.list (c.map R.d)),.fz (.list (c.map R.d))]=some (.fz (.bool true),[.fz (.list (c.map R.d)),.fz (.list (c.map R.d))]):=xy (n:=4) (by omega);rw[<-i]at h ⊢;rw[<-C]at h o g l e;have r:bT (pB 7) eav [some s,pc k,o2,o3,o4,o5,o6]=some (.nx,[some s,pc k,some x,o3,o4,o5,o6]):=by subst i;exact s_setQ (ρ3:=[some (.fz (.list (ns.map PyData.int))),pc k,some x,o3,o4,o5,o6]) (af (ρ3:=[some (.fz (.list (ns.map PyData.int))),pc k,o2,o3,o4,o5,o6]) (aa (af (ρ3:=[some (.fz (.list (ns.map PyData.int))),pc k,o2,o3,o4,o5,o6]) rfl rfl h rfl) av) rfl o rfl) rfl rfl rfl
 have D:ev (pB 7) (.bnw .list (.nm 2)) [some s,pc k,some x,o3,o4,o5,o6]=some (.val (.lst ((c.map R.d).map OD.fz)),[some s,pc k,some x,o3,o4,o5,o6]):=by
  rcases q with rfl|rfl
  ·exact jz (x:=.val (Fr c)) rfl rfl
  ·refine jz (x:=.rf 2) rfl ?_;show (match uK ((c.map R.d).map OD.fz) with|some H=>some H|none=>none)=_;rw[eM]
 have A:bT (pB 7) ebv [some s,pc k,some x,some (.lst ((c.map R.d).map OD.fz)),o4,o5,o6]=some (.nx,lE s k c o5 o6):=by
  rcases q with rfl|rfl
  ·exact s_setQ (af (ρ3:=[some s,pc k,pA c,some (.lst ((c.map R.d).map OD.fz)),o4,o5,o6]) rfl rfl g rfl) rfl rfl rfl
  ·have v:bc ((pB 7).io 23) [some s,pc k,some (.lst ((c.map R.d).map OD.fz)),some (.lst ((c.map R.d).map OD.fz)),o4,o5,o6] [.rf 2]=some ([Fr c],[some s,pc k,pA c,some (.lst ((c.map R.d).map OD.fz)),o4,o5,o6]):=by show bc [false] _ _=_;have m:frz1 [some s,pc k,some (.lst ((c.map R.d).map OD.fz)),some (.lst ((c.map R.d).map OD.fz)),o4,o5,o6] (.rf 2)=some (.list (c.map R.d),[some s,pc k,pA c,some (.lst ((c.map R.d).map OD.fz)),o4,o5,o6]):=jx (x:=.lst ((c.map R.d).map OD.fz)) rfl (dat_fz _) rfl;simp only[bc,m]
   exact s_setQ (af (ρ3:=[some s,pc k,pA c,some (.lst ((c.map R.d).map OD.fz)),o4,o5,o6]) rfl v g rfl) rfl rfl rfl
 have G:bF (λd j=>(aY (.nm 5) (.fz d) j).bind λρ1=>aQ (pB 7) iB ρ1) (cx 0 2) (lE s k c o5 o6)=some (.nx,lE s k c (pc 1) o6):=by rw[show cx 0 2=[.int 0,.int 1] from rfl];exact bs (oG f p) (bs (oG f p) rfl)
 have y:bT (pB 7) Hj (lE s k c (pc 1) o6)=some (.nx,lE s k c (pc 1) (some (.lst ((c.map R.d).map OD.fz)))):=s_setQ (ρ3:=lE s k c (pc 1) (some (.lst ((c.map R.d).map OD.fz)))) (af (ρ3:=lE s k c (pc 1) o6) rfl rfl l rfl) rfl rfl rfl;have I:cE (lE s k c (pc 1) (some (.lst ((c.map R.d).map OD.fz)))) [.rf 6,.val (Fr c)]=some [.list (c.map R.d),.list (c.map R.d)]:=by have:ag (lE s k c (pc 1) (some (.lst ((c.map R.d).map OD.fz)))) (.rf 6)=some (.list (c.map R.d)):=dat_fz _;simp only[cE,this];rfl
 have F:aZ (pB 7) Hr (lE s k c (pc 1) (some (.lst ((c.map R.d).map OD.fz))))=some (false,lE s k c (pc 1) (some (.lst ((c.map R.d).map OD.fz)))):=eY (k:=true) (nV (nU rfl I e rfl));subst i;exact⟨_,_,_,_,_,bs (x:=[some (.fz (.list (ns.map PyData.int))),pc k,o2,o3,o4,o5,o6]) rfl (ae r (ae (s_setQ (ρ3:=[some (.fz (.list (ns.map PyData.int))),pc k,some x,some (.lst ((c.map R.d).map OD.fz)),o4,o5,o6]) D rfl rfl rfl) (ae A (ae (fv (gL (n:=2) rfl rfl (by decide)) G) (ae y (ae (s_ifF F rfl) (ae (Bv (xs:=(c.map R.d).map OD.fz) rfl rfl) rfl)))))))⟩
theorem yy{e:E}{rs:List R}{s z:Str}{N:Nat}{ρ:DEnv}(hk:∀r∈rs,Rk N r)(g:N<=600)(b:rs.length<=500)(i:∃y:OR,ev (pB 7) e ρ=some (y,ρ)/\bc ((pB 7).io 15) ρ [y]=some ([Fr rs],ρ)/\gn ((pB 7).io 15) [y] [Fr rs] ρ=ρ)(c:sx (dH (lns rs))=z)(h:cF .eq (.str z) (.str s)=some true):ev (pB 7) (.cmp .eq (.call 15 (.cons e .nil)) (.str s)) ρ=some (.val (.fz (.bool true)),ρ):=by obtain⟨y,d,f,k⟩:=i;have a:=gZ (n:=4) hk g b;have j:(pB 7).call=pl.pg.call 7:=rfl;rw[<-j]at a;exact aj (dx:=.str (sx (dH (lns rs)))) (dy:=.str s) (af (ρ3:=ρ) (aa d av) f a k) rfl rfl rfl (Eq.trans (congrArg (λz=>cF .eq (.str z) (.str s)) c) h)
theorem pure(ns:List Int)(B:ns.length<=63):∃ys,pl.pg.call 8 Ey [.fz (.list (ns.map PyData.int))]=some (.fz (.bool true),ys):=by
 have c:∀(m i:Nat) (o1 o2 o3 o4 o5 o6:Option OD),i+m<=11->∃u l q o j p,bF (λd s=>(aY (.nm 1) (.fz d) s).bind λt=>aQ (pB 7) lB t) (cx i m) [some (.fz (.list (ns.map PyData.int))),o1,o2,o3,o4,o5,o6]=some (.nx,[some (.fz (.list (ns.map PyData.int))),u,l,q,o,j,p]):=by
  intro m;induction m with
  |zero=>intro i o1 o2 o3 o4 o5 o6 _;exact⟨_,_,_,_,_,_,rfl⟩
  |succ m G=>intro i o1 o2 o3 o4 o5 o6 h;obtain⟨l,q,o,j,p,y⟩:=uE (ns:=ns) (k:=i) (by omega) (o1:=o1) (o2:=o2) (o3:=o3) (o4:=o4) (o5:=o5) (o6:=o6);obtain⟨C,J,I,A,x,D,v⟩:=G (i+1) (pc i) l q o j p (by omega);refine⟨C,J,I,A,x,D,?_⟩;rw[ck];exact bs y v
 obtain⟨a,b⟩:∃a:Int,a=if (ns.length:Int)<10 then (ns.length:Int) else 10:=⟨_,rfl⟩
 have L:0<=a/\a<=10:=by rw[b];split<;>omega
 obtain⟨u,l,q,o,j,p,e⟩:=c (1+a).toNat 0 none none none none none none (by omega);have f:z6 .len [.list (ns.map PyData.int)]=some (.int ns.length):=by rw[gS,aaa]
 have g:ev (pB 7) eay [some (.fz (.list (ns.map PyData.int))),none,none,none,none,none,none]=some (.val (It a),[some (.fz (.list (ns.map PyData.int))),none,none,none,none,none,none]):=bI (aa rfl (aa (bI rfl rfl f) av)) rfl (by rw[b];rfl);have F:sx (dH (lns []))="":=by decide +kernel
 have w:sx (dH (lns [.go 1]))="go ab\nab:":=by decide +kernel
 have z:∀r∈([]:List R),Rk 0 r:=λ_ h=>absurd h (by simp);have H:∀r∈[R.go 1],Rk 1 r:=λr h=>aaw.mp h▸(⟨by decide,by decide⟩:(0:Int)<=1/\(1:Int)<=((1:Nat):Int))
 exact⟨_,ao (fn:=yj) rfl rfl (ae (fv (gL (n:=1+a) (aA rfl g rfl rfl rfl) rfl (by omega)) e) (aM (au (eZ (yy z (by decide) (by decide) ⟨_,rfl,rfl,rfl⟩ F (by decide +kernel)) (yy H (by decide) (by decide) ⟨_,rfl,rfl,rfl⟩ w (by decide +kernel))) rfl))) rfl⟩
set_option maxHeartbeats 0
def lm:Str:="law_nearpool_k41_texts_written"
open PySem.W in
def vi(n:Int):Value:=.int n 0
def vr(a:Addr):Value:=.ref a
def vs(x:Str)(t:Nat):Value:=.str x t
def nt(P:Params)(k:Str)(t:Nat)(v:Value):DictEntry:=⟨PyData.keyHash P k,.str k t,v⟩
def fo(d:Df)(m:Str)(t c:Nat):Obj:=⟨.type "function",none,.func (PySem.W.fnOf d.name d.qual (bM d.st) (bb d.st) (aB d.st) .none .none .none (.str m t) none (.ref c) .none),List.toArray []⟩
def cq(vs:List Value):Obj:=⟨.type "code",none,.fields (List.toArray vs),List.toArray []⟩
def cu(n q:Str)(t l a r T:Nat):Obj:=cq [vs n t,vs q (t+1),vs im (t+2),vi l,vi a,vi 0,vi 0,vi 3,vr r,.bool true,vi 181,vr (r+1),.none,vr (r+2),vr (r+3),vr (r+4),vi T,vi l,vs im (T+1)]
def cw(n q:Str)(t l a r T:Nat):Obj:=cq [vs n t,vs q (t+1),vs im (t+2),vi l,vi a,vi 0,vi 0,vi 3,vr r,.bool true,vi 181,vr (r+1),.none,.none,.none,vr (r+2),vi T,vi l,vs im (T+1)]
def HA(c:Nat)(o:Obj)(r:Waa):Waa:=(c,o)::r
def kF(c:Nat)(d:Df)(m:Str)(k t l T:Nat)(r:Waa):Waa:=(c,cu d.name d.qual t l d.ps.length (c-5) T)::(c+1,fo d m k c)::r
def yz(c:Nat)(d:Df)(m:Str)(k t l T:Nat)(r:Waa):Waa:=(c,cw d.name d.qual t l d.ps.length (c-3) T)::(c+1,fo d m k c)::r
def KK(P:Params):Waa:=HA 3 ⟨(.type "dict"),none,(.dict (List.toArray [nt P "__name__" 165 (vs lm 394),nt P "__doc__" 166 .none,nt P "__package__" 167 .none,nt P "__loader__" 168 (.builtin "__main__.__loader__#opaque"),nt P "__spec__" 169 .none,nt P "__annotations__" 170 (vr 6),nt P "__builtins__" 171 (vr 4),nt P "__file__" 173 (vs im 172),nt P "__cached__" 174 .none,nt P "PoolError" 206 (vr 24),nt P "BadText" 231 (vr 44),nt P "REGISTERS" 235 (.int (5) 234),nt P ci 257 (vr 47),nt P "is_jump" 264 (vr 54),nt P "moved" 272 (vr 61),nt P "joined" 278 (vr 66),nt P "LETTERS" 282 (vs hY 281),nt P "FIGURES" 284 (vs lf 283),nt P "LONGEST_LABEL" 286 (.int (8) 285),nt P "MOST_FIGURES" 288 (.int (8) 287),nt P lv 294 (vr 71),nt P "is_label" 301 (vr 78),nt P lw 308 (vr 85),nt P "is_part" 316 (vr 92),nt P lP 323 (vr 99),nt P mH 329 (vr 104),nt P "labels_in" 341 (vr 111),nt P "row_in" 355 (vr 118),nt P "rows_in" 361 (vr 123),nt P "rows_from" 368 (vr 130),nt P "label_of" 377 (vr 137),nt P "line_of" 387 (vr 144),nt P "text_from" 393 (vr 149),nt P nb 403 (vr 156),nt P "_law_tape" 412 (vr 163),nt P "_law_take" 422 (vr 170),nt P np 431 (vr 177),nt P "_law_rows" 448 (vr 184),nt P "_law_same" 454 (vr 189),nt P nP 460 (vr 194),nt P "_law_due" 466 (vr 199),nt P "law" 479 (vr 206)]) 42),List.toArray []⟩ (
 HA 47 ⟨(.type "dict"),none,(.dict (List.toArray [nt P ap 236 (vs "rn" 237),nt P bi 238 (vs ce 239),nt P bm 240 (vs ce 241),nt P bv 242 (vs "r" 243),nt P ac 244 (vs "t" 245),nt P am 246 (vs "rt" 247),nt P bn 248 (vs "" 249)]) 7),List.toArray []⟩ (
 kF 53 iD eH 232 258 12 262 (
 kF 60 nZ eH 232 265 14 270 (
 yz 65 ky eH 232 273 18 276 (
 yz 70 en bd 279 289 25 292 (
 kF 77 gP bd 279 295 27 299 (
 kF 84 et bd 279 302 29 306 (
 kF 91 iE bd 279 309 31 314 (
 kF 98 c9 bd 279 317 35 321 (
 yz 103 eA bd 279 324 37 327 (
 kF 110 fD bd 279 330 44 339 (
 kF 117 kz bd 279 342 57 353 (
 yz 122 iF bd 279 356 70 359 (
 kF 129 fE bd 279 362 73 366 (
 kF 136 gQ bd 279 369 75 375 (
 kF 143 iG bd 279 378 79 385 (
 yz 148 fF bd 279 388 87 391 (
 kF 155 iH lm 394 396 97 401 (
 kF 162 tR lm 394 404 99 410 (
 kF 169 tS lm 394 413 102 420 (
 kF 176 n5 lm 394 423 111 429 (
 kF 183 tT lm 394 432 115 446 (
 yz 188 tU lm 394 449 131 452 (
 yz 193 fG lm 394 455 143 458 (
 yz 198 yk lm 394 461 147 464 (
 kF 205 D_law lm 394 467 165 477 []))))))))))))))))))))))))))
def qv:Program:=PySem.W.view PySem.Challenge.pw_nearpool_k41_texts_written [1,2,4,5,6,7,8,10,11,12,13,14,15,16,17,18,19,20,21,22,23,24,25,26,28,29,30,31,32,33,34,35,36]
open PySem.W PyProof.Rows in
theorem uF{p q:Program}{loose:List Str}{Xt:Shared->Bool}{i:Type}{Yf:Shared->i}{Ya:World->i}{N:Nat}{g:Bool}(a:String)(e:opening p=plainProg p.main.scope.names)(l:Nat.ble 600 N=true)(f:∀s,fenceModules? p s=some s)
  (h:∀(b:Bool) (w:World) (c:OsState),(topFrom treeTable p (w.withFollow a b) N ⟨boot_heap w.params,Array.mk [],boot_drawn,boot_toks,c⟩).map (λs=>(openSeen q loose (importedModules p.main.body) Xt g s,Yf s))=some (openGood q loose,Ya (w.withFollow a b))):LeftO p q loose Xt Yf Ya N g:=LeftO.of_split a λw=>by
 obtain⟨⟨o,n,d,k,c⟩,m,j⟩:=aaH.mp (boot_open e l f w);obtain⟨rfl,rfl,rfl,rfl⟩:o=boot_heap w.params/\n=Array.mk []/\d=boot_drawn/\k=boot_toks:=by simpa using j
 rw[m];exact congrArg some (Prod.ext (h false w c) (h true w c))
def hk:PySem.W.Hook:=PySem.W.kHook KK (3::47::[53,60,65,70,77,84,91,98,103,110,117,122,129,136,143,148,155,162,169,176,183,188,193,198,205].flatMap λc=>[c,c+1]) (λ_=>by kernel_rfl)
abbrev xt(s:Shared):Bool:=PySem.W.xlAt qv [] s&&PySem.W.recOk (PySem.W.RowW.records (PySem.Challenge.rw_nearpool_k41_texts_written).row.toRowW) s
theorem left:PySem.W.LeftO PySem.Challenge.pw_nearpool_k41_texts_written qv [ci] xt (PySem.W.Hook.obs hk) (PySem.W.Hook.val hk) 2868:=uF "special-get-raises" (by kernel_rfl) (by rfl) (λs=>by kernel_rfl) (λb=>match b with|false=>λw a=>by kernel_rfl|true=>λw a=>by kernel_rfl)
def dd:DefRec:=⟨"law",bM D_law.st,bb D_law.st,aB D_law.st,match D_law.st with|.FunctionDef _ _ _ _ _ _ _ _ _ p=>p|_=>⟨0,0,0,0⟩⟩
theorem said:(PySem.Challenge.rw_nearpool_k41_texts_written).wellSaid=true:=by kernel_rfl
def uG(K:Waa):L2.Sp:=λc H Q _=>∃(a:Addr) (b:List Int),c=[.ref a]/\SqL K H a (b.map V.int)/\b.length<=63/\∀d,Q (.bl true) d
def E9:Option (Option Value)->Bool
 |some none=>true
 |_=>false
def BC(f:Nat):Option (Option Value)->Bool
 |some (some (.ref g))=>g==f
 |_=>false
def GT:Option (Option Value)->Bool
 |some (some (.builtin s))=>decide (s="object.__setattr__")
 |_=>false
theorem uH{o:Option (Option Value)}(h:E9 o=true):o=some none:=by
 unfold E9 at h;split at h
 ·rfl
 ·cases h
theorem jH{f:Nat}{o:Option (Option Value)}(h:BC f o=true):o=some (some (.ref f)):=by
 unfold BC at h;split at h
 ·rw[beq_iff_eq.mp h]
 ·cases h
theorem Bw{o:Option (Option Value)}(h:GT o=true):o=some (some (.builtin "object.__setattr__")):=by
 unfold GT at h;split at h
 ·rw[Daa h]
 ·cases h
open PySem.W in
def GU(K:Frag)(C:Addr):Bool:=plainGet K C Str.empty&&(hasDictIn K C&&(plainOver K C&&GT (findIn K (.ref C) "__setattr__")))
theorem uI{K:Waa}{C:Addr}(h:GU K C=true):Cls K C:=by obtain⟨c,h⟩:=an2 h;obtain⟨b,h⟩:=an2 h;obtain⟨a,h⟩:=an2 h;exact⟨c,b,a,Bw h⟩
open PySem.W in
def HB(K:Frag)(d:Df)(f c:Nat):Kd->Bool
 |.fn=>codeIn K (.ref c) d.qual&&(keepIn K (.ref f)&&BC f (nsIn K mainGlobals d.name))
 |.me x=>codeIn K (.ref c) d.qual&&(keepIn K (.ref f)&&(GU K (aI K x)&&(BC f (findIn K (.ref (aI K x)) d.name)&&isFn K (.ref f))))
 |.ini x=>codeIn K (.ref c) d.qual&&(keepIn K (.ref f)&&(makesIn K (aI K x)&&(BC f (findIn K (.ref (aI K x)) "__init__")&&(isFn K (.ref f)&&(keepIn K (.ref (aI K x))&&BC (aI K x) (nsIn K mainGlobals x))))))
theorem fk{K:Waa}{h:Heap}{k:Str->Option Value}(X:K.In h)(G:h.Ns mainGlobals k){d:Df}{kd:Kd}(m:Str)(t c f:Nat)(l:K.lookup f=some (fo d m t c))(q:HB K d f c kd=true)
  (b:∀us:List Value,us.length=d.ps.length->bindArgs (PySem.W.fnOf d.name d.qual (bM d.st) (bb d.st) (aB d.st) .none .none .none (.str m t) none (.ref c) .none) ⟨us,[]⟩=Pure.pure (d.ps.zip us)):FactD K k (d,kd):=by
 cases kd with
 |fn=>obtain⟨e,q⟩:=an2 q;obtain⟨a,g⟩:=an2 q;exact⟨f,_,iV l e a,.all b,aa5 X G (jH g),a⟩
 |me x=>obtain⟨e,q⟩:=an2 q;obtain⟨a,q⟩:=an2 q;obtain⟨g,q⟩:=an2 q;obtain⟨j,i⟩:=an2 q;exact⟨f,_,iV l e a,.all b,uI g,jH j,i,a⟩
 |ini x=>obtain⟨e,q⟩:=an2 q;obtain⟨a,q⟩:=an2 q;obtain⟨g,q⟩:=an2 q;obtain⟨j,q⟩:=an2 q;obtain⟨i,q⟩:=an2 q;obtain⟨n,o⟩:=an2 q;exact⟨f,_,iV l e a,.all b,⟨g,jH j,i,n⟩,aa5 X G (jH o)⟩
theorem fm{a:Type}{P:a->Prop}{x:a}{l:List a}(h:P x)(k:∀y∈l,P y):∀y∈x::l,P y:=List.forall_mem_cons.mpr ⟨h,k⟩
theorem fC{K:Waa}{h:Heap}{a:Str->Option Value}(X:K.In h)(G:h.Ns mainGlobals a){x:Str}{k:Int}(t:Nat)(e:PySem.W.nsIn K mainGlobals x=some (some (.int k t))):∃v u,a x=some u/\RelV v u/\∀S H,Fz K S H v (.int k):=⟨.int k,_,aa5 X G e,⟨_,rfl⟩,λ_ _=>.int _⟩
theorem fS{K:Waa}{h:Heap}{a:Str->Option Value}(X:K.In h)(G:h.Ns mainGlobals a){x k:Str}(t:Nat)(e:PySem.W.nsIn K mainGlobals x=some (some (.str k t))):∃v u,a x=some u/\RelV v u/\∀S H,Fz K S H v (.str k):=⟨.str k,_,aa5 X G e,⟨_,rfl⟩,λ_ _=>.str _⟩
theorem GV{a:Type}{P:List a->Prop}(h:∀a0,P [a0])(l:List a)(e:l.length=1):P l:=by
 match l,e with
 |[a0],_=>exact h a0
theorem GW{b:Type}{P:List b->Prop}(h:∀a0 a,P [a0,a])(l:List b)(e:l.length=2):P l:=by
 match l,e with
 |[a0,a],_=>exact h a0 a
theorem GX{c:Type}{P:List c->Prop}(h:∀a0 b a,P [a0,b,a])(l:List c)(e:l.length=3):P l:=by
 match l,e with
 |[a0,b,a],_=>exact h a0 b a
theorem fx{K:Waa}{h:Heap}{e:Str->Option Value}(X:K.In h)(G:h.Ns mainGlobals e){d:Df}{kd:Kd}{ds:List (Df×Kd)}(m:Str)(t c:Nat)(r:∀z∈ds,FactD K e z)(l:K.lookup (c+1)=some (fo d m t c):=by kernel_rfl)(q:HB K d (c+1) c kd=true:=by kernel_rfl)
  (b:∀a:List Value,a.length=d.ps.length->bindArgs (PySem.W.fnOf d.name d.qual (bM d.st) (bb d.st) (aB d.st) .none .none .none (.str m t) none (.ref c) .none) ⟨a,[]⟩=Pure.pure (d.ps.zip a):=by first|exact(GV λ_=>rfl)|exact(GW λ_ _=>rfl)|exact(GX λ_ _ _=>rfl)):∀z∈(d,kd)::ds,FactD K e z:=fm (fk X G m t c _ l q b) r
theorem gives{w:World}{a:Str->Option Value}{f:Addr}{h:Heap} (X:(KK w.params).In h) (G:h.Ns mainGlobals a) (b:a "law"=some (.ref f)):
  ∃c:FuncData,(∀(s:Shared) (v:Value),BindsTo s c ⟨[v],[]⟩ [(cr,v)])/\∀base:Heap,(KK w.params).In base->base.Ns mainGlobals a->FnOk (PySem.Challenge.rw_nearpool_k41_texts_written).prog w (KK w.params) a base CX0 9 f c [cr] (uG (KK w.params)):=by
 have M:Md (KK w.params) a pl.tb pl.pg pl.D w:=Pl.md Ez (fx X G eH 232 53
  (fx X G eH 232 60
  (fx X G eH 232 65
  (fx X G bd 279 70
  (fx X G bd 279 77
  (fx X G bd 279 84
  (fx X G bd 279 91
  (fx X G bd 279 98
  (fx X G bd 279 103
  (fx X G bd 279 110
  (fx X G bd 279 117
  (fx X G bd 279 122
  (fx X G bd 279 129
  (fx X G bd 279 136
  (fx X G bd 279 143
  (fx X G bd 279 148
  (fx X G lm 394 155
  (fx X G lm 394 162
  (fx X G lm 394 169
  (fx X G lm 394 176
  (fx X G lm 394 183
  (fx X G lm 394 188
  (fx X G lm 394 193
  (fx X G lm 394 198
  (fx X G lm 394 205
  (λ_ h=>by cases h)))))))))))))))))))))))))) (fm (fS X G 283 (by kernel_rfl))
  (fm (fS X G 281 (by kernel_rfl))
  (fm (fC X G 285 (by kernel_rfl))
  (fm (fC X G 287 (by kernel_rfl))
  (fm (fC X G 234 (by kernel_rfl))
  (λ_ h=>by cases h))))))
  (λx i=>PySem.W.mg_none_of X G (uH (aa4.mp (by kernel_rfl:(pl.nog.all λx=>E9 (PySem.W.nsIn (KK w.params) mainGlobals x))=true) x i)))
  (λz g=>have q:=an2 (aa4.mp (by kernel_rfl:(pl.fld.all λz=>GU (KK w.params) (aI (KK w.params) z.1)&&E9 (PySem.W.findIn (KK w.params) (.ref (aI (KK w.params) z.1)) z.2))=true) z g);⟨uI q.1,uH q.2⟩)
  (fm ⟨_,aa5 X G (by kernel_rfl:PySem.W.nsIn (KK w.params) mainGlobals ci=some (some (.ref 47))),_,_,_,(by kernel_rfl:(KK w.params).lookup 47=some (⟨(.type "dict"),none,(.dict (List.toArray [nt w.params ap 236 (vs "rn" 237),nt w.params bi 238 (vs ce 239),nt w.params bm 240 (vs ce 241),nt w.params bv 242 (vs "r" 243),nt w.params ac 244 (vs "t" 245),nt w.params am 246 (vs "rt" 247),nt w.params bn 248 (vs "" 249)]) 7),List.toArray []⟩:Obj)),⟨rfl,rfl,rfl⟩,rfl,.cons ⟨rfl,⟨_,rfl⟩,_,rfl⟩ (.cons ⟨rfl,⟨_,rfl⟩,_,rfl⟩ (.cons ⟨rfl,⟨_,rfl⟩,_,rfl⟩ (.cons ⟨rfl,⟨_,rfl⟩,_,rfl⟩ (.cons ⟨rfl,⟨_,rfl⟩,_,rfl⟩ (.cons ⟨rfl,⟨_,rfl⟩,_,rfl⟩ (.cons ⟨rfl,⟨_,rfl⟩,_,rfl⟩ (.nil))))))),by decide +kernel,rfl⟩
  (λ_ h=>by cases h))
 have e:=b.symm.trans (aa5 X G (by kernel_rfl:PySem.W.nsIn (KK w.params) mainGlobals "law"=some (some (.ref 206))));cases e;have F:Fun (KK w.params) D_law.name D_law.qual D_law.st 206 _:=iV (by kernel_rfl:(KK w.params).lookup 206=some (fo D_law lm 394 205)) (by kernel_rfl) (by kernel_rfl);exact⟨_,λs v=>.of_eq rfl,λbase _ _=>M.law (n:=8) (j:=Ey) (d:=D_law) rfl F pure⟩
theorem walk{l:PySem.W.OpenLaw}{q:Program}{loose:List Str}{XP:(Str->Option Value)->Heap->Prop}{YP:World->Heap->Prop}{d:DefRec}{K:Params->Waa}(i:l.most=some 63)(c:d.params.defaults=[])
  (p:∀(w:World) (h:Heap),YP w h->(K w.params).In h)
  (F:∀(w:World) (b:Str->Option Value) (g:Addr) (h:Heap),(K w.params).In h->h.Ns mainGlobals b->b d.name=some (.ref g) ->
   ∃e:FuncData,(∀(s:Shared) (u:Value),BindsTo s e ⟨[u],[]⟩ [(cr,u)])/\∀base:Heap,(K w.params).In base->base.Ns mainGlobals b->FnOk l.prog w (K w.params) b base CX0 9 g e [cr] (uG (K w.params))):
  PySem.W.WalkO q loose XP YP l.row.toRowW d [] (λf vs=>PySem.call f vs):=
 L2.walk_of (n:=63) (k:=9) (x:=cr) (CX:=λ_=>CX0) (sp:=λw=>uG (K w.params)) i (by decide) c ⟨rfl,by decide,by decide,rfl⟩ p F (λ_ _ a o j _ m=>⟨a,o,rfl,m,j,λ_=>rfl⟩) λ_ _ _ _ _ z=>z
end Np
open PySem PySem.W PyProof.Rows
set_option maxRecDepth 100000 in
set_option maxHeartbeats 0 in
theorem PySem.Challenge.cw_nearpool_k41_texts_written_holds : PySem.Challenge.rw_nearpool_k41_texts_written.Holds := by
 w_on
 refine holds_law Np.said λa=>?_;refine holds_open (q:=Np.qv) (loose:=_) (Xt:=Np.xt) (XP:=XL Np.qv []) (Yf:=Hook.obs Np.hk) (Ya:=Hook.val Np.hk) (YP:=Hook.says Np.hk) (N:=2868) (d:=Np.dd) (kwd:=[]) Np.left (Hook.of Np.hk) (Hook.keeps Np.hk) (λs e=>xl_of s (abt.mp e).1) XL.keeps (by kernel_rfl) (by kernel_rfl) (by kernel_rfl) (λs e=>recFacts_of (abt.mp e).2) (by rfl) a (by kernel_rfl) ⟨rfl,rfl,rfl,rfl,rfl,by decide +kernel⟩ ?hw ?hc
 case hw=>w_witness2
 case hc=>exact Np.walk (l:=PySem.Challenge.rw_nearpool_k41_texts_written) (K:=Np.KK) (d:=Np.dd) rfl (by kernel_rfl) (λw h Y=>kIn_of Y) (λw f g h c G b=>Np.gives c G b)
