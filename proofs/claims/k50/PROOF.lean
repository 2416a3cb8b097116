import PyProof.Rows.All
import Wide.All
import OpenK.AllK
import Wide.FinOn
import Lean
import PyProof.EqAt
import PyProof.EqKinds
import PyProof.TupleCall
import PyProof.Draws
import PyProof.ZipIter
import PyProof.SeqI3
import PyProof.CallStr
import PyProof.StrHeap
import PyProof.ReprBulk
import PyProof.Rows.ListRangeD
import PyProof.EnumFor
import PyProof.EnumStmt
import PyProof.EnumMake
import PyProof.AutoListH
import PyProof.RangeFor
import PyProof.Rows.Range3
import KE.KUnpack
import PyProof.ReprRoads
import PyProof.ReprLen
import PyProof.FitsInt
import PyProof.DictCompW
import KE.KDictSum
import PyProof.NeKinds
import PyProof.SumWalk
import PyProof.SliceStr2
import PyProof.StrCalls2
import PyProof.Rows.StrNews
import PyProof.Rows.StrJoin2
import PyProof.StrWalks
import KE.KUnpackStar
import KE.KIntText
import PyProof.StrLawsTight
import PyProof.Rows.StrItems
import PyProof.Rows.StrClose3
import PyProof.SetRoads
import PyProof.Rows.FStr
import KE.KxText
import PySem.Challenge.RW_nearpool_k50_whole_made_cells_run
set_option compiler.extract_closed false
set_option genSizeOf false
set_option backward.match.sparseCases false
set_option bootstrap.genMatcherCode false
set_option Elab.async false
set_option linter.all false
set_option maxRecDepth 100000
noncomputable section
def Daa:=@of_decide_eq_true
def Dab:=@decide_eq_false
def Dac:=@decide_eq_true
def Dad:=@of_decide_eq_false
abbrev Waa:=PySem.W.Frag
def acs:=@PySem.wpAny_bind
def acu:=@PySem.Heap.lt_size
def acv:=@PySem.wpAny_pure
def acw:=@PySem.Heap.get?_push_of_some
def acx:=@PySem.Heap.get?_push_size
def acy:=@PySem.wpAny_mono
def acz:=@PySem.wpAny_field
def acA:=@PySem.wpAny_truthy_bool
def acB:=@PySem.wpAny_holding
def acC:=@PySem.wpAny_standAt
def acD:=@PySem.wpAny_seqItems
def acE:=@PySem.wpAny_passesOwn
def acF:=@PyProof.Rows.assignInOrder_cons
def acG:=@PySem.wpAny_newObj_type
def acH:=@PySem.wpAny_rule
def acI:=@PySem.wpAny_setField_rec
def acJ:=@PySem.wpAny_bindName
def acK:=@PySem.Heap.size_push
def acL:=@PySem.call_meets
def acM:=@PySem.wpAny_call_entry
def acN:=@PySem.tupleKind_room_in1
def acO:=@PySem.Paired.length
def acP:=@PySem.codeAny_mono
def acQ:=@PySem.wpAny_Call_Name_kw
def acR:=@PySem.wpAny_callSpecial?_slot
def acS:=@PySem.F.slot_tuple_iterator_next
def acT:=@PySem.wpAny_onRaise
def acU:=@PySem.F.slot_zip_next
def acV:=@PySem.wpAny_loadPart'
def acW:=@PySem.wpAny_execs_nil
def acX:=@PySem.wpAny_pyIter_list
def acY:=@PySem.wpAny_updateSeq_pair
def acZ:=@PySem.Calls.Name_function_global
def ac0:=@PySem.F.entry_tuple_iterator_next
def ac1:=@PySem.F.args_tuple_iterator_next_1
def aaa:=@List.mem_cons
def aab:=@List.append_assoc
def aac:=@Nat.le_refl
def aad:=@List.mem_append_right
def aae:=@List.length_map
def aaf:=@List.mem_append_left
def aag:=@List.mem_cons_of_mem
def aah:=@List.getElem?_eq_some_iff
def aai:=@List.mem_cons_self
def aaj:=@List.length_append
def aak:=@List.mem_append
def aal:=@List.map_cons
def aam:=@List.getElem?_eq_getElem
def aan:=@Nat.le_trans
def aao:=@Nat.ne_of_lt
def aap:=@List.append_nil
def aaq:=@Bool.false_ne_true
def aar:=@List.not_mem_nil
def aas:=@Nat.lt_of_lt_of_le
def aat:=@List.nodup_cons
def aau:=@List.nodup_append
def aav:=@List.perm_middle
def aaw:=@List.mem_singleton
def aax:=@List.mem_of_getElem?
def aay:=@List.map_nil
def aaz:=@List.getElem?_map
def aaA:=@List.set_cons_succ
def aaB:=@Nat.zero_le
def aaC:=@Bool.and_eq_true
def aaD:=@List.length_cons
def aaE:=@List.map_append
def aaF:=@Option.bind_eq_some_iff
def aaG:=@Ne.symm
def aaH:=@List.mem_map
def aaI:=@List.nil_append
def aaJ:=@Option.map_eq_some_iff
def aaK:=@List.cons_append
def aaL:=@List.length_singleton
def aaM:=@Nat.le_of_lt
def aaN:=@Int.toNat_natCast
def aaO:=@List.of_mem_zip
def aaP:=@List.any_cons
def aaQ:=@Nat.zero_add
def aaR:=@List.findIdx?_cons
def aaS:=@Nat.le_add_right
def aaT:=@List.pairwise_cons
def aaU:=@List.map_map
def aaV:=@List.mem_filter
def aaW:=@List.find?_cons
def aaX:=@List.getD_eq_getElem?_getD
def aaY:=@Nat.lt_irrefl
def aaZ:=@List.getElem?_set_self
def aa0:=@List.getElem?_set_ne
def aa1:=@Option.some.inj
def aa2:=@Option.isSome_iff_exists
def aa3:=@PySem.mem_of_lookup
def aa4:=@List.replicate_succ
def aa5:=@List.getElem?_append_right
def aa6:=@List.perm_append_comm
def aa7:=@List.Perm.append_left
def aa8:=@List.getElem?_append_left
def aa9:=@Nat.ne_of_gt
def aba:=@Nat.lt_succ_self
def abb:=@Nat.le_succ
def abc:=@Bool.or_eq_true
def abd:=@List.nodup_nil
def abe:=@Int.zero_add
def abf:=@PyProof.Rows.callWith_type1
def abg:=@Bool.false_or
def abh:=@List.all_eq_true
def abi:=@Int.emod_nonneg
def abj:=@Int.emod_lt_of_pos
def abk:=@List.pairwise_append
def abl:=@List.length_filter_le
def abm:=@List.set_comm
def abn:=@Bool.eq_iff_iff
def abo:=@List.size_toArray
def abp:=@List.flatten_cons
def abq:=@List.lookup_cons
def abr:=@List.zip_cons_cons
def abt:=@List.getElem?_zip_eq_some
def abu:=@List.append_of_mem
def abv:=@Bool.or_eq_false_iff
def abw:=@List.drop_eq_getElem_cons
def abx:=@Bool.not_eq_true'
def aby:=@List.getElem?_cons_succ
def abz:=@List.countP_cons
def abA:=@Nat.sub_self
def abB:=@PySem.W.mg_of
def abC:=@PySem.W.plainGet_of
def abD:=@Nat.le_of_eq
def abE:=@PySem.W.callWith_K
def abF:=@List.forIn_cons
def abG:=@List.length_replicate
def abH:=@Nat.add_sub_cancel_left
def abI:=@Nat.lt_trans
def abJ:=@Option.isSome_map
def abK:=@PySem.F.slot_dict_get
def abL:=@Int.le_trans
def abM:=@List.set_cons_zero
def abN:=@List.length_set
def abO:=@List.perm_append_comm_assoc
def abP:=@List.ext_getElem?
def abQ:=@Classical.axiomOfChoice
def abR:=@Option.bind_some
def abS:=@List.drop_length
def abT:=@PySem.F.plainAttrs_list
def abU:=@PySem.F.slot_list_append
def abV:=@PySem.F.type_list_append
def abW:=@Bool.and_eq_true_iff
def abX:=@List.any_eq_true
def abY:=@Bool.true_and
def abZ:=@List.filter_cons_of_pos
def ab0:=@List.filter_cons_of_neg
def ab1:=@List.length_take
def ab2:=@Nat.min_eq_left
def ab3:=@Sum.inl.inj
def ab4:=@List.getElem?_eq_none
def ab5:=@List.filter_eq_nil_iff
def ab6:=@List.filterMap_cons
def ab7:=@PyProof.noPylong_small
def ab8:=@PySem.W.methodCall_KW
def ab9:=@PySem.W.cellsFrom_some
def aca:=@PySem.F.entry_dict_get
def acb:=@PySem.F.args_dict_get_2
def acd:=@List.Perm.append_right
def ace:=@List.map_congr_left
def acf:=@List.findIdx?_eq_some_iff_getElem
def acg:=@List.findIdx?_eq_none_iff
def ach:=@Nat.add_le_add_right
def aci:=@Nat.mul_le_mul_left
def acj:=@Nat.add_le_add_left
def ack:=@List.eq_nil_or_concat
def acl:=@List.getElem?_concat_length
def acm:=@List.mem_of_mem_take
def acn:=@List.countP_eq_length_filter
def aco:=@List.length_pos_iff
def acp:=@List.take_append_drop
def acq:=@List.countP_eq_length
def acr:=@List.getElem?_eq_none_iff
namespace L2
open PySem PySem.Spec PyProof.Rows
section
abbrev Key:=Sum Int Str
noncomputable def keyIs:Key->Value->Bool
 |.inl k,v=>Value.isInt k v
 |.inr x,v=>Value.isStrOf x v
noncomputable def keyH(w:World):Key->Int
 |.inl k=>hashInt k
 |.inr x=>hashStr w x
theorem aV:∀{k:Key}{v:Value},keyIs k v=true->(∃i t,k=Sum.inl i/\v=Value.int i t)\/(∃x t,k=Sum.inr x/\v=Value.str x t)
 |.inl i,v,h=>by obtain⟨t,e⟩:=Value.isInt_shape h;exact .inl ⟨i,t,rfl,e⟩
 |.inr x,v,h=>by obtain⟨t,e⟩:=Value.isStrOf_shape h;exact .inr ⟨x,t,rfl,e⟩
theorem sm(i:Int)(t:Tok):keyIs (.inl i) (.int i t)=true:=by simp[keyIs,Value.isInt]
theorem so(x:Str)(t:Tok):keyIs (.inr x) (.str x t)=true:=by simp[keyIs,Value.isStrOf]
theorem Cc(a b:Int):decide ((Sum.inl a:Key)=Sum.inl b)=(a==b):=by
 grind
theorem Cd(a b:Str):decide ((Sum.inr a:Key)=Sum.inr b)=decide (a=b):=by simp
theorem Ce(a:Int)(b:Str):decide ((Sum.inl a:Key)=Sum.inr b)=false:=by rfl
theorem Cg(a:Str)(b:Int):decide ((Sum.inr a:Key)=Sum.inl b)=false:=by rfl
def aP(prog:Program)(w:World):PySem.KeyKind prog w Key where
 is:=keyIs
 hash:=keyH w
 inj:=λv a b d S=>by
  rcases aV d with ⟨i,t,rfl,rfl⟩|⟨x,t,rfl,rfl⟩
  ·rcases aV S with ⟨j,u,rfl,e⟩|⟨y,u,rfl,e⟩
   ·injection e with e1 _;rw[e1]
   ·exact nomatch e
  ·rcases aV S with ⟨j,u,rfl,e⟩|⟨y,u,rfl,e⟩
   ·exact nomatch e
   ·injection e with e1 _;rw[e1]
 byValue:=λk v h=>by rcases aV h with ⟨i,t,rfl,rfl⟩|⟨x,t,rfl,rfl⟩<;>rfl
 pyHash:=λo h=>by
  rcases aV o with ⟨i,t,rfl,rfl⟩|⟨x,t,rfl,rfl⟩
  ·exact wpAny_pyHash_int h
  ·exact wpAny_pyHash_str h
 eqBool:=λU o h=>by
  rcases aV U with ⟨i,t,rfl,rfl⟩|⟨x,t,rfl,rfl⟩
  ·rcases aV o with ⟨j,u,rfl,rfl⟩|⟨y,u,rfl,rfl⟩
   ·rw[Cc]at h;exact wpAny_eqBool_int h
   ·rw[Ce]at h;exact SeqAt.EqAt.int_str i t y u _ _ _ _ h
  ·rcases aV o with ⟨j,u,rfl,rfl⟩|⟨y,u,rfl,rfl⟩
   ·rw[Cg]at h;exact SeqAt.EqAt.str_int x t j u _ _ _ _ h
   ·rw[Cd]at h;exact wpAny_eqBool_str h
 «strs»:=λk x t v h=>by
  rcases aV h with ⟨i,u,rfl,e⟩|⟨y,u,rfl,e⟩
  ·exact nomatch e
  ·injection e with e1 _;subst e1;cases v<;>rfl
theorem lU(prog:Program)(w:World)(i:Int)(t:Tok):(aP prog w).is (.inl i) (.int i t)=true:=sm i t
theorem mixKind_str(prog:Program)(w:World)(x:Str)(t:Tok):(aP prog w).is (.inr x) (.str x t)=true:=so x t
end
section
inductive V where
 |non|bl (b:Bool)|int (i:Int)|str (x:Str)|byt (b:Array UInt8)|flt (b:UInt64)|ref (a:Addr)|ty (n:String)
 deriving DecidableEq
def RelV:V->Value->Prop
 |.non,u=>u=Value.none
 |.bl b,u=>u=Value.bool b
 |.int i,u=>∃t,u=Value.int i t
 |.str x,u=>∃t,u=Value.str x t
 |.byt b,u=>∃t,u=Value.bytes b t
 |.flt b,u=>∃t,u=Value.float b t
 |.ref a,u=>u=Value.ref a
 |.ty n,u=>u=Value.type n
abbrev Vals:List V->List Value->Prop:=Paired RelV
theorem Vals.length{xs:List V}{us:List Value}(r:Vals xs us):xs.length=us.length:=acO r
theorem Vals.get:∀{xs:List V}{us:List Value}{i:Nat}{x:V},Vals xs us->xs[i]?=some x->∃u,us[i]?=some u/\RelV x u
 |_,_,_,_,.nil,e=>by simp at e
 |_,_,0,_,.cons r _,e=>by simp at e;subst e;exact⟨_,rfl,r⟩
 |_,_,i+1,x,.cons _ t,e=>by obtain⟨u,O,Z⟩:=Vals.get (i:=i) (x:=x) t (by simpa using e);exact⟨u,by simpa using O,Z⟩
theorem Vals.set(r:RelV x u):∀{xs:List V}{us:List Value} (i:Nat),Vals xs us->Vals (xs.set i x) (us.set i u)
 |_,_,_,.nil=>.nil
 |_,_,0,.cons _ t=>.cons r t
 |_,_,i+1,.cons q t=>.cons q (Vals.set r i t)
theorem Vals.append:∀{xs ys:List V}{us ws:List Value},Vals xs us->Vals ys ws->Vals (xs++ys) (us++ws)
 |_,_,_,_,.nil,s=>s
 |_,_,_,_,.cons r t,s=>.cons r (Vals.append t s)
theorem Vals.take:∀{xs:List V}{us:List Value} (n:Nat),Vals xs us->Vals (xs.take n) (us.take n)
 |_,_,0,_=>.nil
 |_,_,_+1,.nil=>.nil
 |_,_,n+1,.cons r t=>.cons r (Vals.take n t)
theorem Vals.drop:∀{xs:List V}{us:List Value} (n:Nat),Vals xs us->Vals (xs.drop n) (us.drop n)
 |_,_,0,r=>r
 |_,_,_+1,.nil=>.nil
 |_,_,n+1,.cons _ t=>Vals.drop n t
theorem Vals.none_of:∀{xs:List V}{us:List Value}{i:Nat},Vals xs us->xs[i]?=none->us[i]?=none:=λ{xs us i} r e=>by
 have O:=r.length
 grind
def RelO:Option V->Option Value->Prop
 |some v,some u=>RelV v u
 |none,none=>True
 |_,_=>False
def KV{A:Type}:List (A×V)->List (A×Value)->Prop:=Paired λ(p:A×V) (q:A×Value)=>p.1=q.1/\RelV p.2 q.2
def kV:Key->V
 |.inl i=>.int i
 |.inr x=>.str x
inductive HO where
 |lst (xs:List V)
 |tup (xs:List V)
 |dK (kvs:List (Key×V))|dT (kvs:List (List Key×V))
 |set (S:Int->Bool) (n:Nat)
 |ins (C dx:Addr) (fs:List (Str×V))
 |own (x:Addr)
 |xd (fs:List (Str×V))
 |met (f x:Addr)
 |rng (lo hi:Int)
 |frz (o:Obj) (u:HO)
 |tbl (ps:Array Value)
 |ext (φ:Heap->Prop)
abbrev Hp:=Addr->Option HO
def upd(H:Hp)(a:Addr)(o:HO):Hp:=λb=>if b=a then some o else H b
theorem aB{H:Hp}:upd H a o a=some o:=by unfold upd;simp
theorem upd_ne{H:Hp}(h:b≠a):upd H a o b=H b:=by unfold upd;rw[if_neg h]
theorem FS{H:Hp}(h:H a=some o)(h':H b=some u)(d:o≠u):a≠b:=by
 grind
theorem au{H:Hp}(h:H a=some o)(h':H b=none):a≠b:=by
 grind
section
variable(P:Program)(w:World)
def Ja(h:Heap)(a:Addr)(items:Array Value):Prop:=∃o,h.get? a=some o/\o.cls=.type "tuple"/\∃n,o.data=.seq items n/\o.dict=none
def ObjOk(H:Hp)(h:Heap)(a:Addr):HO->Prop
 |.lst xs=>xs.length<=sizeLine/\∃(D:List Value) (n:Nat),Vals xs D/\h.get? a=some { cls:=.type "list",data:=.seq D.toArray n }
 |.tup xs=>xs.length<=sizeLine/\∃D:List Value,Vals xs D/\Ja h a D.toArray
 |.dK kvs=>kvs.length<=sizeLine/\(a==sysModules)=false/\∃c,KV kvs c/\h.DictOf (aP P w) a c
 |.dT kvs=>kvs.length<=sizeLine/\(a==sysModules)=false/\∃xs:List (List Key×Addr×Value),
   Paired (λ(p:List Key×V) (q:List Key×Addr×Value)=>p.1=q.1/\H q.2.1=some (.tup (p.1.map kV))/\RelV p.2 q.2.2) kvs xs /\
   ∃o L i,h.get? a=some o/\o.ExactDict/\o.data=.dict L i/\L.toList=xs.map (entryOfKey (tupleKind (aP P w)))/\(xs.map (·.1)).Nodup
 |.set S n=>h.SetOf (intKind P w) a S n
 |.ins C dx fs=>H dx=some (.own a)/\fs.length<=1000/\dx≠a/\h.get? a=some (PySem.W.instObj C dx) /\
   ∃M,h.Ns1 dx M/\(∀f,RelO (fs.lookup f) (M f))/\PySem.Within M (fs.map (·.1))
 |.own _=>∃o,h.get? a=some o
 |.xd fs=>∃M,h.Ns1 a M/\∀f,RelO (fs.lookup f) (M f)
 |.rng lo hi=>∃t u v,h.get? a=some { cls:=.type "range",data:=.fields #[.int lo t,.int hi u,.int 1 v] }
 |.frz o u=>h.get? a=some o/\ObjOk H h a u
 |.tbl ps=>h.get? a=some { cls:=.none,data:=.fields ps }
 |.met f x=>h.get? a=some (PySem.W.methodObj (.ref f) (.ref x))
 |.ext φ=>φ h/\(∃o,h.get? a=some o)/\∀O Z:Heap,φ O->(∀o,O.get? a=some o->Z.get? a=some o)->φ Z
def HOk(H:Hp)(h:Heap):Prop:=∀a o,H a=some o->ObjOk P w H h a o
end
theorem ObjOk.lt(x:ObjOk P w H h a o):a<h.objs.size:=by
 cases o with
 |lst Y=>obtain⟨_,_,_,_,e⟩:=x;exact acu e
 |tup Y=>obtain⟨_,_,_,o,e,_⟩:=x;exact acu e
 |dK N=>obtain⟨_,_,_,_,o,_,_,e,_⟩:=x;exact acu e
 |dT N=>obtain⟨_,_,_,_,o,_,_,e,_⟩:=x;exact acu e
 |set S n=>obtain⟨o,_,_,_,e,_⟩:=x;exact acu e
 |ins C W U=>obtain⟨_,_,_,e,_⟩:=x;exact acu e
 |own y=>obtain⟨_,e⟩:=x;exact acu e
 |xd U=>obtain⟨_,⟨_,_,_,e,_⟩,_⟩:=x;exact acu e
 |rng s r=>obtain⟨_,_,_,e⟩:=x;exact acu e
 |frz m u=>obtain⟨e,_⟩:=x;exact acu e
 |tbl T=>exact acu (x)
 |met f y=>exact acu (x)
 |ext F=>obtain⟨_,⟨_,e⟩,_⟩:=x;exact acu e
theorem Paired.mapP{Y C:Type}{F G:Y->C->Prop}:∀{L:List Y}{l:List C},Paired F L l->(∀a b,F a b->G a b)->Paired G L l
 |_,_,.nil,_=>.nil
 |_,_,.cons r t,f=>.cons (f _ _ r) (Paired.mapP t f)
theorem ObjOk.nc(x:ObjOk P w H h a o)(k:∀b u,(b=a\/H b=some (.own a))->h.get? b=some u->h'.get? b=some u)
  (j:∀b,H b=some (.own a)->H' b=some (.own a)) (X:∀b xs,H b=some (.tup xs)->H' b=some (.tup xs)):ObjOk P w H' h' a o:=by
 induction o with
 |lst xs=>obtain⟨z,D,n,r,e⟩:=x;exact⟨z,D,n,r,k _ _ (.inl rfl) e⟩
 |tup xs=>obtain⟨z,D,r,m,e,c⟩:=x;exact⟨z,D,r,m,k _ _ (.inl rfl) e,c⟩
 |dK N=>obtain⟨z,y,O,r,m,L,i,e,c⟩:=x;exact⟨z,y,O,r,m,L,i,k _ _ (.inl rfl) e,c⟩
 |dT N=>obtain⟨z,y,xs,r,m,L,i,e,c⟩:=x;exact⟨z,y,xs,Paired.mapP r λp q z=>⟨z.1,X _ _ z.2.1,z.2.2⟩,m,L,i,k _ _ (.inl rfl) e,c⟩
 |set S n=>obtain⟨m,L,i,t,e,c⟩:=x;exact⟨m,L,i,t,k _ _ (.inl rfl) e,c⟩
 |ins C g U=>obtain⟨d,z,A,e,M,⟨Z,L,i,B,c⟩,r⟩:=x;exact⟨j _ d,z,A,k _ _ (.inl rfl) e,M,⟨Z,L,i,k _ _ (.inr d) B,c⟩,r⟩
 |own y=>obtain⟨m,e⟩:=x;exact⟨m,k _ _ (.inl rfl) e⟩
 |xd U=>obtain⟨M,⟨Z,L,i,e,c⟩,r⟩:=x;exact⟨M,⟨Z,L,i,k _ _ (.inl rfl) e,c⟩,r⟩
 |rng s l=>obtain⟨t,u,v,e⟩:=x;exact⟨t,u,v,k _ _ (.inl rfl) e⟩
 |frz m u Y=>obtain⟨e,q⟩:=x;exact⟨k _ _ (.inl rfl) e,Y q⟩
 |tbl T=>have e:h.get? a=some { cls:=.none,data:=.fields T }:=x;show h'.get? a=some { cls:=.none,data:=.fields T };exact k a _ (.inl rfl) e
 |met f y=>have e:h.get? a=some (PySem.W.methodObj (.ref f) (.ref y)):=x;show h'.get? a=some (PySem.W.methodObj (.ref f) (.ref y));exact k a _ (.inl rfl) e
 |ext F=>obtain⟨p,⟨o,e⟩,J⟩:=x;exact⟨J _ _ p λo q=>k _ _ (.inl rfl) q,⟨o,k _ _ (.inl rfl) e⟩,J⟩
theorem HOk.lt(x:HOk P w H h)(e:H a=some o):a<h.objs.size:=(x a o e).lt
theorem HOk.fresh(x:HOk P w H h)(e:h.objs.size<=a):H a=none:=by
 cases q:H a with
 |none=>rfl
 |some u=>exact absurd (aas (x.lt q) e) (aaY _)
theorem HOk.kept(x:HOk P w H h)(k:∀b u,h.get? b=some u->h'.get? b=some u):HOk P w H h':=λa o e=>
 (x a o e).nc (λb u _ q=>k b u q) (λ_ q=>q) λ_ _ q=>q
theorem HOk.laid(x:HOk P w H h)(k:∀b u,h.get? b=some u->h'.get? b=some u)(C:h.objs.size<=a)(i:ObjOk P w (upd H a o) h' a o):HOk P w (upd H a o) h':=λb u e=>by
 have l:=x.fresh C;by_cases S:b=a
 ·subst S;rw[aB]at e;grind
 ·rw[upd_ne S]at e;exact(x b u e).nc (λc v _ q=>k c v q) (λc q=>by rw[upd_ne (au q l)];exact q) λc Y q=>by rw[upd_ne (au q l)];exact q
def Rd(H:Hp)(a:Addr)(u:HO):Prop:=H a=some u\/∃o,H a=some (.frz o u)
theorem Rd.of(h:H a=some u):Rd H a u:=.inl h
theorem Rd.ok{P:Program}{w:World}(r:Rd H a u)(x:HOk P w H h):ObjOk P w H h a u:=by
 rcases r with r|⟨o,r⟩
 ·exact x a u r
 ·obtain⟨_,q⟩:=x a _ r;exact q
def FT:Option HO->Prop
 |some (.lst _)=>True
 |some (.dK _)=>True
 |some (.dT _)=>True
 |some (.set _ _)=>True
 |some (.ins _ _ _)=>True
 |some (.ext _)=>True
 |_=>False
theorem HOk.write(U:HOk P w H h)(M:FT (H x))(n:e=x\/H e=some (.own x))(k:∀b u,b≠e->h.get? b=some u->h'.get? b=some u)(O:∃u,h'.get? e=some u)
  (i:ObjOk P w (upd H x o') h' x o'):HOk P w (upd H x o') h':=λb u q=>by
 have N:∀c y,H c=some (.own y)->c≠x:=λc y r z=>by subst z;rw[r]at M;exact M
 have p:∀c Y,H c=some (.tup Y)->c≠x:=λc Y r z=>by subst z;rw[r]at M;exact M
 by_cases S:b=x
 ·subst S;rw[aB]at q;grind
 ·rw[upd_ne S]at q;by_cases A:b=e
  ·have D:H b=some (.own x):=by
    grind
   rw[q]at D;cases D;obtain⟨v,o⟩:=O;exact⟨v,by grind⟩
  ·refine(U b u q).nc (λc v J r=>k c v ?_ r) (λc r=>by rw[upd_ne (N c b r)];exact r) λc Y r=>by rw[upd_ne (p c Y r)];exact r
   grind
structure Un (fs ex:List Addr)(H H':Hp)(h h':Heap):Prop where
 keep:∀b o,h.get? b=some o->H b=none->b ∉ fs->b ∉ ex->h'.get? b=some o
 slot:∀b o,h.get? b=some o->H b=none->b∈fs->b ∉ ex->∃sl,h'.get? b=some { o with slots:=sl }
 free:∀b o,h.get? b=some o->H b=none->b ∉ ex->H' b=none
 there:∀b o,h.get? b=some o->b ∉ ex->∃o',h'.get? b=some o'
 tups:∀b xs,H b=some (.tup xs)->H' b=some (.tup xs)
 frzs:∀b o u,H b=some (.frz o u)->H' b=some (.frz o u)
 tbls:∀b ps,H b=some (.tbl ps)->∃more,H' b=some (.tbl (ps++more))
theorem Un.any(u:Un fs ex H H1 h h1){b:Addr}{m:Obj}(q:h.get? b=some m)(n:H b=none)(F:b ∉ ex):∃Z,h1.get? b=some { m with slots:=Z }:=by
 by_cases S:b∈fs
 ·exact u.slot b m q n S F
 ·exact⟨m.slots,u.keep b m q n S F⟩
theorem Un.trans(a:Un fs ex H H1 h h1)(b:Un fs ex H1 H2 h1 h2):Un fs ex H H2 h h2 where
 keep:=λc m q n U F=>b.keep c m (a.keep c m q n U F) (a.free c m q n F) U F
 slot:=λc m q n U F=>by
  obtain⟨Z,J⟩:=a.slot c m q n U F;obtain⟨y,B⟩:=b.slot c _ J (a.free c m q n F) U F
  grind
 free:=λc m q n F=>by obtain⟨P,J⟩:=a.there c m q F;exact b.free c P J (a.free c m q n F) F
 there:=λc m q F=>by obtain⟨P,J⟩:=a.there c m q F;exact b.there c P J F
 tups:=λc Y q=>b.tups c Y (a.tups c Y q)
 frzs:=λc m Y q=>b.frzs c m Y (a.frzs c m Y q)
 tbls:=λc T q=>by
  obtain⟨w,J⟩:=a.tbls c T q;obtain⟨j,B⟩:=b.tbls c _ J
  grind
theorem Un.kept(k:∀b u,h.get? b=some u->h'.get? b=some u):Un fs ex H H h h':=
 ⟨λb m q _ _ _=>k b m q,λb m q _ _ _=>⟨m.slots,k b m q⟩,λ_ _ _ n _=>n,λb m q _=>⟨m,k b m q⟩,λ_ _ q=>q,λ_ _ _ q=>q,λ_ T q=>⟨#[],by rw[q];simp⟩⟩
theorem Un.refl:Un fs ex H H h h:=Un.kept λ_ _ q=>q
theorem Un.laid(k:∀b u,h.get? b=some u->h'.get? b=some u)(C:h.objs.size<=a)(l:H a=none):Un fs ex H (upd H a o) h h' where
 keep:=λb u q _ _ _=>k b u q
 slot:=λb u q _ _ _=>⟨u.slots,k b u q⟩
 free:=λb u q n _=>by rw[upd_ne (aao (aas (acu q) C))];exact n
 there:=λb u q _=>⟨u,k b u q⟩
 tups:=λb Y q=>by rw[upd_ne (au q l)];exact q
 frzs:=λb u Y q=>by rw[upd_ne (au q l)];exact q
 tbls:=λb T q=>⟨#[],by rw[upd_ne (au q l),q];simp⟩
theorem Un.write(M:FT (H x))(a:e=x\/H e=some (.own x))(k:∀b u,b≠e->h.get? b=some u->h'.get? b=some u)(O:∃u,h'.get? e=some u):Un fs ex H (upd H x o) h h':=by
 have F:∀b,H b=none->b≠x:=λb n z=>by subst z;rw[n]at M;exact M
 have S:∀b,H b=none->b≠e:=λb n z=>by
  grind
 have Y:∀b u,H b=some u->¬ FT (some u)->b≠x:=λb u q N z=>by grind
 refine⟨λb u q n _ _=>k b u (S b n) q,λb u q n _ _=>⟨u.slots,k b u (S b n) q⟩,λb u q n _=>by rw[upd_ne (F b n)];exact n,λb u q _=>?_,
  λb C q=>by rw[upd_ne (Y b _ q λz=>z)];exact q,λb u C q=>by rw[upd_ne (Y b _ q λz=>z)];exact q,λb T q=>⟨#[],by rw[upd_ne (Y b _ q λz=>z),q];simp⟩⟩
 grind
theorem Un.mono(u:Un fs ex H H1 h h1)(g:∀b∈fs,b∈fs')(F:∀b∈ex,b∈ex'):Un fs' ex' H H1 h h1:=
 ⟨λb m q n S a=>u.keep b m q n (λz=>S (g b z)) λz=>a (F b z),λ_ _ q n _ a=>u.any q n λz=>a (F _ z),λb m q n a=>u.free b m q n λz=>a (F b z),λb m q a=>u.there b m q λz=>a (F b z),u.tups,u.frzs,u.tbls⟩
def trk(h:Heap)(H:Hp):List Addr:=(List.range h.objs.size).filter λa=>(H a).isSome
def lV(h:Heap)(H:Hp):Heap:=PySem.W.hideAll h (trk h H)
theorem sq(h:Heap)(H:Hp):(lV h H).objs.size=h.objs.size:=PySem.W.hideAll_size _ _
theorem hidT_get(e:h.get? b=some o)(n:H b=none):(lV h H).get? b=some o:=
 PySem.W.hideAll_get _ e λY=>by
  have q:=(aaV.mp Y).2
  grind
theorem yI(e:(lV h H).get? b=some o):h.get? b=some o/\H b=none:=by
 have L:=PySem.W.of_hideAll (trk h H) e;refine⟨L,?_⟩;cases q:H b with
 |none=>rfl
 |some x=>
  have Y:b∈trk h H:=aaV.mpr ⟨List.mem_range.mpr (acu L),by simp[q]⟩;have z:(lV h H).get? b=none:=PySem.W.hideAll_none (trk h H) Y
  grind
def yJ(g h:Heap)(L:Addr):List (Addr×Obj):=(List.range h.objs.size).filterMap λa=>if a=L\/(g.get? a).isSome=true then none else (h.get? a).map λo=>(a,o)
def rest(g h:Heap)(L d:Addr):List (Addr×Obj):=(yJ g h L).filter λp=>decide (p.1≠d)
end
section
structure Mod (K:Waa)(mg:Str->Option Value)(base:Heap):Prop where
 kin:K.In base
 glob:base.Ns mainGlobals mg
 blt:∃mb,base.Ns builtinsNs mb/\∀x:Str,x≠"__name__"->mb x=bootBuiltins x
 nolimit:base.NoLimit
structure Cx where
 prog:Program
 w:World
 K:Waa
 mg:Str->Option Value
 base:Heap
 A:Around
 N:List Str
 s₀:Shared
 H₀:Hp
 env:Env
 outer:List Env
 stack:List Env
 ex:List Addr
 fn:Str->Bool
 calm:Bool
 pn:List (Addr×Obj)
 xe:Value->Shared->Prop
def uI(l:List Env):List Addr:=l.filterMap (·.frame)
abbrev Cx.fs(X:Cx):List Addr:=uI X.outer
def Vis(sc:Scope)(x:Str):Prop:=sc.names.lookup x=some .local\/sc.names.lookup x=some .cell\/sc.names.lookup x=some .free
def Loc(sc:Scope)(x:Str):Prop:=sc.names.lookup x=some .local\/sc.names.lookup x=some .cell
def Look(env:Env)(h:Heap)(m:Str->Option Value)(x:Str)(u:Value):Prop:=
 (env.kindOf x=some .local/\m x=some u)\/((env.kindOf x=some .cell\/env.kindOf x=some .free)/\∃c,env.cells.lookup x=some c/\h.IsCell c (some u))
structure Cx.Ok (X:Cx):Prop where
 mod:Mod X.K X.mg X.base
 kind:X.env.scope.kind=.function
 glob:X.env.globals=mainGlobals
 blt:X.env.builtins=builtinsNs
 above:X.s₀.heap.objs.size<=X.env.locals
 inj:∀x y c,X.env.cells.lookup x=some c->X.env.cells.lookup y=some c->x=y
 has:∀x,(X.env.kindOf x=some .cell\/X.env.kindOf x=some .free)->∃c,X.env.cells.lookup x=some c
 cab:∀x c,X.fn x=true->X.env.cells.lookup x=some c->X.s₀.heap.objs.size<=c
 hd:X.calm=true->X.A.handled=none
 frames:X.A.frames=some X.stack
 stk:X.stack=X.outer\/(X.stack=X.env::X.outer/\X.env.frame=some X.env.locals)
 exf:∀b∈X.ex,b≠X.env.locals/\∀x c,X.env.cells.lookup x=some c->c≠b
 bs:∀b o,X.base.get? b=some o->X.s₀.heap.get? b=some o/\X.H₀ b=none
 bsz:X.base.objs.size<=X.s₀.heap.objs.size
 noex:∀b o,X.base.get? b=some o->b ∉ X.ex
 exfs:∀b∈X.ex,b ∉ X.fs
 funs:X.s₀.heap.FunFrames X.base X.outer
 frf:∀b∈X.fs,X.H₀ b=none
structure Inv (X:Cx)(pins:List (Addr×Obj))(σ:List (Option V))(H:Hp)(s:Shared):Prop where
 ok:X.Ok
 os:s.os=X.s₀.os
 bare:AllBare s.gens
 base:Un X.fs X.ex X.H₀ H X.s₀.heap s.heap
 loc:∃m,s.heap.Ns X.env.locals m/\∀(i:Nat) (x:Str) (v:V),X.N[i]?=some x->σ[i]?=some (some v)->Vis X.env.scope x->∃u,RelV v u/\Look X.env s.heap m x u
 cell:∀x c,X.env.cells.lookup x=some c->∃v,s.heap.IsCell c v
 free:H X.env.locals=none
 freeC:∀x c,X.env.cells.lookup x=some c->H c=none
 pin:∀p∈X.pn++pins,s.heap.get? p.1=some p.2/\H p.1=none/\p.1≠X.env.locals/\p.1 ∉ X.fs/\∀v,p.2.data≠.cell v
 hok:HOk X.prog X.w H s.heap
 len:σ.length=X.N.length
section
variable{X:Cx}
theorem Cx.Ok.nofr(U:X.Ok)(e:X.base.get? b=some o):b ∉ X.fs:=λS=>by
 have:=(U.funs.mem S).1
 grind
theorem Inv.bs(I:Inv X pins σ H s):∀b o,X.base.get? b=some o->s.heap.get? b=some o/\H b=none:=λb o e=>
 ⟨I.base.keep b o (I.ok.bs b o e).1 (I.ok.bs b o e).2 (I.ok.nofr e) (I.ok.noex b o e),I.base.free b o (I.ok.bs b o e).1 (I.ok.bs b o e).2 (I.ok.noex b o e)⟩
theorem Inv.bk(I:Inv X pins σ H s):∀b o,X.base.get? b=some o->s.heap.get? b=some o:=λb o e=>(I.bs b o e).1
theorem Inv.mod(I:Inv X pins σ H s):Mod X.K X.mg X.base:=I.ok.mod
theorem Inv.qd(I:Inv X pins σ H s):X.K.In s.heap:=I.ok.mod.kin.keeps I.bk
theorem Inv.nolimit(I:Inv X pins σ H s):s.heap.NoLimit:=I.ok.mod.nolimit.keeps I.bk
theorem Inv.fr(I:Inv X pins σ H s):∃m,Fr X.base X.env.locals s.heap m:=
 let ⟨m,l,_⟩:=I.loc
 ⟨m,l,I.bk,aan I.ok.bsz I.ok.above⟩
theorem Inv.lt(I:Inv X pins σ H s):X.env.locals<s.heap.objs.size:=let ⟨_,l,_⟩:=I.loc;l.lt
theorem Inv.sz(I:Inv X pins σ H s):X.s₀.heap.objs.size<=s.heap.objs.size:=aan I.ok.above (aaM I.lt)
theorem Inv.nofs(I:Inv X pins σ H s)(h:s.heap.objs.size<=a):a ∉ X.fs:=λS=>by obtain⟨_,o,j,_⟩:=I.ok.funs.mem S;exact absurd (aas (acu j) (aan I.sz h)) (aaY _)
theorem Inv.cne(I:Inv X pins σ H s):∀x c,X.env.cells.lookup x=some c->c≠X.env.locals:=λx c e z=>by
 obtain⟨v,o,j,W⟩:=I.cell x c e;obtain⟨m,⟨P,L,i,T,l,_⟩,_⟩:=I.loc
 grind
theorem Inv.funs(I:Inv X pins σ H s):s.heap.FunFrames X.base X.outer:=by
 have A:∀(l:List Env),(∀b∈uI l,b∈X.fs)->X.s₀.heap.FunFrames X.base l->s.heap.FunFrames X.base l:=by
  intro l;induction l with
  |nil=>intro _ _;trivial
  |cons v r Y=>intro g t;obtain⟨T,⟨L,o,y,Q,j,W⟩,D⟩:=t;have h:=g L (by unfold uI;grind);obtain⟨Z,e⟩:=I.base.slot L o j (I.ok.frf L h) h λz=>I.ok.exfs L z h;exact⟨T,⟨L,_,y,Q,e,W⟩,Y (λb S=>g b (by unfold uI;rw[ab6,y];exact aag _ S)) D⟩
 exact A X.outer (λ_ S=>S) I.ok.funs
theorem Inv.stack(I:Inv X pins σ H s):s.heap.FunFrames X.base X.stack:=by
 rcases I.ok.stk with e|⟨e,y⟩
 ·rw[e];exact I.funs
 ·rw[e];obtain⟨m,l,_⟩:=I.loc;refine .cons (by rw[I.ok.kind];decide) y l ?_ I.funs;exact Heap.get?_none_of_le (aan I.ok.bsz I.ok.above)
theorem Inv.l3(I:Inv X pins σ H s):∀b∈uI X.stack,b∈X.env.locals::X.fs:=λb S=>by
 rcases I.ok.stk with e|⟨e,y⟩
 ·grind
 ·rw[e]at S;unfold uI at S;rw[ab6,y]at S;exact S
theorem Inv.r8(I:Inv X pins σ H s):∀b∈uI X.stack,H b=none:=λb S=>by
 rcases aaa.mp (I.l3 b S) with e|S
 ·rw[e];exact I.free
 ·obtain⟨_,o,j,_⟩:=I.ok.funs.mem S;exact I.base.free b o j (I.ok.frf b S) λz=>I.ok.exfs b z S
theorem Inv.step{g':Array GenState}{t':Nat}{d':Drawn}{ch:List Addr}(I:Inv X pins σ H s)
  (D:∀b∈ch,(b∈X.ex\/X.s₀.heap.objs.size<=b)/\b≠X.env.locals/\(∀x c,X.env.cells.lookup x=some c->c≠b)/\∀p∈X.pn++pins,p.1≠b)
  (M:∀b o,b≠X.env.locals->b ∉ X.fs->b ∉ ch->s.heap.get? b=some o->H b=none->h'.get? b=some o)
  (a:∀b o,b≠X.env.locals->b∈X.fs->b ∉ ch->s.heap.get? b=some o->H b=none->∃Z,h'.get? b=some { o with slots:=Z }) (free:∀b o,b ∉ ch->s.heap.get? b=some o->H b=none->H' b=none)
  (a3:∀b o,b ∉ ch->s.heap.get? b=some o->∃P,h'.get? b=some P)
  (a0:∀b Y,H b=some (.tup Y)->H' b=some (.tup Y)) (a2:∀b o u,H b=some (.frz o u)->H' b=some (.frz o u)) (a4:∀b T,H b=some (.tbl T)->∃a1,H' b=some (.tbl (T++a1)))
  (ns:∀m,s.heap.Ns X.env.locals m->h'.Ns X.env.locals m) (Q:HOk X.prog X.w H' h') (N:AllBare g'):
  Inv X pins σ H' { s with heap:=h',gens:=g',drawn:=d',toks:=t' }:=by
 have g:∀b o,X.s₀.heap.get? b=some o->b≠X.env.locals:=λb o e=>aao (aas (acu e) I.ok.above);have L:∀b o,X.s₀.heap.get? b=some o->b ∉ X.ex->b ∉ ch:=λb o e F S=>by
  rcases (D b S).1 with z|z
  ·grind
  ·exact absurd (aas (acu e) z) (aaY _)
 have f:∀x c,X.env.cells.lookup x=some c->∀v,s.heap.IsCell c v->h'.IsCell c v:=λx c e v ⟨o,j,W⟩=>by
  have h:=λz=>(D c z).2.2.1 x c e rfl;by_cases U:c∈X.fs
  ·obtain⟨Z,q⟩:=a c o (I.cne x c e) U h j (I.freeC x c e);exact⟨_,q,W⟩
  ·exact⟨o,M c o (I.cne x c e) U h j (I.freeC x c e),W⟩
 refine⟨I.ok,I.os,N,⟨λb o e n S F=>?_,λb o e n S F=>?_,λb o e n F=>?_,λb o e F=>?_,λb Y e=>a0 b Y (I.base.tups b Y e),λb o Y e=>a2 b o Y (I.base.frzs b o Y e),λb T e=>?_⟩,?_,λx c e=>?_,?_,λx c e=>?_,λp C=>?_,Q,I.len⟩
 ·exact M b o (g b o e) S (L b o e F) (I.base.keep b o e n S F) (I.base.free b o e n F)
 ·obtain⟨Z,J⟩:=I.base.slot b o e n S F;obtain⟨y,B⟩:=a b _ (g b o e) S (L b o e F) J (I.base.free b o e n F)
  grind
 ·obtain⟨P,J⟩:=I.base.there b o e F;exact free b P (L b o e F) J (I.base.free b o e n F)
 ·obtain⟨P,J⟩:=I.base.there b o e F
  grind
 ·obtain⟨m1,J⟩:=I.base.tbls b T e
  grind
 ·obtain⟨m,hn,t⟩:=I.loc;refine⟨m,ns m hn,λi x v J B e3=>?_⟩;obtain⟨u,r,l⟩:=t i x v J B e3;refine⟨u,r,?_⟩;rcases l with l|⟨k,c,e,z⟩
  ·exact .inl l
  ·exact .inr ⟨k,c,e,f x c e _ z⟩
 ·obtain⟨v,z⟩:=I.cell x c e;exact⟨v,f x c e v z⟩
 ·obtain⟨m,⟨o,_,_,j,_⟩,_⟩:=I.loc;exact free _ o (λz=>(D _ z).2.1 rfl) j I.free
 ·obtain⟨v,o,j,W⟩:=I.cell x c e;exact free c o (λz=>(D c z).2.2.1 x c e rfl) j (I.freeC x c e)
 ·obtain⟨e,n,A,O,d⟩:=I.pin p C;have h:=λz=>(D p.1 z).2.2.2 p C rfl;exact⟨M p.1 p.2 A O h e n,free p.1 p.2 h e n,A,O,d⟩
theorem Inv.un{t':Nat}(I:Inv X pins σ H s)(u:Un X.fs [] H H' s.heap h')(Q:HOk X.prog X.w H' h'):Inv X pins σ H' { s with heap:=h',toks:=t' }:=by
 obtain⟨m,⟨o,L,i,j,r⟩,_⟩:=id I.loc;obtain⟨Z,h⟩:=u.any j I.free (by simp);exact I.step (ch:=[]) (λ_ z=>nomatch z) (λb o _ S _ e n=>u.keep b o e n S (by simp)) (λb o _ S _ e n=>u.slot b o e n S (by simp)) (λb o _ e n=>u.free b o e n (by simp)) (λb o _ e=>u.there b o e (by simp)) u.tups u.frzs u.tbls (λy Y=>by
  obtain⟨P,A,B,T,f⟩:=Y;rw[j]at T;cases T;exact⟨_,A,B,h,f⟩) Q I.bare
theorem Inv.call{t':Nat}{d':Drawn}(I:Inv X pins σ H s)(u:Un (uI X.stack) ch H H' s.heap h')(Q:HOk X.prog X.w H' h')(N:AllBare g')
  (D:∀b∈ch,(b∈X.ex\/X.s₀.heap.objs.size<=b)/\b≠X.env.locals/\(∀x c,X.env.cells.lookup x=some c->c≠b)/\∀p∈X.pn++pins,p.1≠b):
  Inv X pins σ H' { s with heap:=h',gens:=g',drawn:=d',toks:=t' }:=by
 obtain⟨m,⟨o,L,i,j,r⟩,_⟩:=id I.loc;obtain⟨Z,h⟩:=u.any j I.free λz=>(D _ z).2.1 rfl;exact I.step D (λb o h S U e n=>u.keep b o e n (λz=>(aaa.mp (I.l3 b z)).elim h S) U) (λb o _ _ U e n=>u.any e n U) (λb o U e n=>u.free b o e n U) (λb o U e=>u.there b o e U) u.tups u.frzs u.tbls (λy Y=>by
  obtain⟨P,A,B,T,f⟩:=Y;rw[j]at T;cases T;exact⟨_,A,B,h,f⟩) Q N
theorem Inv.turned{t':Nat}(I:Inv X pins σ H s)(k:∀b o,b≠it->s.heap.get? b=some o->h'.get? b=some o)(l:H it=none)(h:it≠X.env.locals)
  (O:it∈X.ex\/X.s₀.heap.objs.size<=it) (Z:∀x c,X.env.cells.lookup x=some c->c≠it) (M:∀p∈X.pn++pins,p.1≠it):Inv X pins σ H { s with heap:=h',toks:=t' }:=by
 have t:∀b u,H b=some u->b≠it:=λb u e z=>by grind
 refine I.step (ch:=[it]) (λb S=>?_) (λb o _ _ U e _=>k b o (λz=>U (by simp[z])) e) (λb o _ _ U e _=>⟨o.slots,k b o (λz=>U (by simp[z])) e⟩) (λ_ _ _ _ n=>n)
  (λb o U e=>⟨o,k b o (λz=>U (by simp[z])) e⟩) (λ_ _ e=>e) (λ_ _ _ e=>e) (λb T e=>⟨#[],by rw[e];simp⟩) (λm Y=>?_) (λb u e=>?_) I.bare
 ·have e:b=it:=by simpa using S
  subst e;exact⟨O,h,Z,M⟩
 ·obtain⟨o,L,i,j,r⟩:=Y;exact⟨o,L,i,k _ o (aaG h) j,r⟩
 ·refine(I.hok b u e).nc (λc v U q=>k c v ?_ q) (λ_ q=>q) λ_ _ q=>q;rcases U with z|z
  ·rw[z];exact t b u e
  ·exact t c _ z
theorem Inv.tok(I:Inv X pins σ H s)(t:Nat):Inv X pins σ H { s with toks:=t }:=I.un (h':=s.heap) (t':=t) Un.refl I.hok
theorem Inv.kept{t':Nat}(I:Inv X pins σ H s)(k:∀b u,s.heap.get? b=some u->h'.get? b=some u):Inv X pins σ H { s with heap:=h',toks:=t' }:=I.un (Un.kept k) (I.hok.kept k)
theorem Inv.laid{a:Addr}{o:HO}{t':Nat}(I:Inv X pins σ H s)(k:∀b u,s.heap.get? b=some u->h'.get? b=some u)(C:s.heap.objs.size<=a)(i:ObjOk X.prog X.w (upd H a o) h' a o):
  Inv X pins σ (upd H a o) { s with heap:=h',toks:=t' }:=I.un (Un.laid k C (I.hok.fresh C)) (I.hok.laid k C i)
theorem Inv.write{t':Nat}(I:Inv X pins σ H s)(M:FT (H x))(n:e=x\/H e=some (.own x))(k:∀b u,b≠e->s.heap.get? b=some u->h'.get? b=some u)(O:∃u,h'.get? e=some u)
  (i:ObjOk X.prog X.w (upd H x o) h' x o):Inv X pins σ (upd H x o) { s with heap:=h',toks:=t' }:=I.un (Un.write M n k O) (I.hok.write M n k O i)
theorem Inv.weak(I:Inv X pins σ H s)(t:σ'.length=σ.length)(w:∀(i:Nat) v,σ'[i]?=some (some v)->σ[i]?=some (some v)):Inv X pins σ' H s:=
 ⟨I.ok,I.os,I.bare,I.base,let ⟨m,l,A⟩:=I.loc;⟨m,l,λi x v J B U=>A i x v J (w i v B) U⟩,I.cell,I.free,I.freeC,I.pin,I.hok,t.trans I.len⟩
theorem Inv.r3(I:Inv X pins σ H s)(h:∀p∈pins',s.heap.get? p.1=some p.2/\H p.1=none/\p.1≠X.env.locals/\p.1 ∉ X.fs/\∀v,p.2.data≠.cell v):Inv X pins' σ H s:=
 ⟨I.ok,I.os,I.bare,I.base,I.loc,I.cell,I.free,I.freeC,λp C=>(aak.mp C).elim (λz=>I.pin p (aaf _ z)) (h p),I.hok,I.len⟩
theorem lW{N:List Str}(u:N.Nodup){i j:Nat}(a:N[i]?=some x)(b:N[j]?=some x):i=j:=by obtain⟨O,J⟩:=aah.mp a;obtain⟨Z,B⟩:=aah.mp b;exact(List.getElem_inj u).mp (J.trans B.symm)
theorem jU{M:Model}{A:Around}{E:Value->Shared->Prop}(I:Inv X pins σ H s)(hN:X.N.Nodup)(hi:X.N[i]?=some x)(F:Loc X.env.scope x)(r:RelV v u)
  (h:∀s',Inv X pins (σ.set i (some v)) H s'->(∃a,Heap.SameBut a s.heap s'.heap/\(a=X.env.locals\/X.env.cells.lookup x=some a))->Q () s') (hf:X.fn x=true\/X.env.scope.names.lookup x=some .local:=by first|exact .inl rfl|exact .inr rfl|assumption):wpAny M A (storeName X.env x u) Q E s:=by
 obtain⟨m,l,t⟩:=id I.loc;have a4:(X.env.scope.kind==.class||(X.env.scope.kind==.module&&X.env.locals !=X.env.globals))=false:=by rw[I.ok.kind];rfl
 have a1:i<σ.length:=by rw[I.len];grind
 have a3:=I.cne;have a0:∀{a:Addr}{C:Heap},(∃o,s.heap.get? a=some o/\H a=none)->Heap.SameBut a s.heap C->HOk X.prog X.w H C:=λ{a C} ha g b ob e=>by
  obtain⟨_,_,a9⟩:=ha;refine(I.hok b ob e).nc (λc D U q=>(g.2 c ?_).trans q) (λ_ q=>q) λ_ _ q=>q
  grind
 rcases F with T|T
 ·refine wpAny_storeName_local T l (λC b0 g=>?_) a4;obtain⟨oL,_,_,a8,_⟩:=id l;refine h _ ⟨I.ok,I.os,I.bare,⟨λb o e n S F=>?_,λb o e n S F=>?_,I.base.free,λb o e F=>?_,I.base.tups,I.base.frzs,I.base.tbls⟩,⟨_,b0,λj y L J B e3=>?_⟩,λy c e=>?_,I.free,I.freeC,λp hp=>?_,a0 ⟨oL,a8,I.free⟩ g,by simpa using I.len⟩ ⟨_,g,.inl rfl⟩
  ·exact(g.2 b (aao (aas (acu e) I.ok.above))).trans (I.base.keep b o e n S F)
  ·obtain⟨Z,J⟩:=I.base.slot b o e n S F;exact⟨Z,(g.2 b (aao (aas (acu e) I.ok.above))).trans J⟩
  ·obtain⟨P,J⟩:=I.base.there b o e F;exact⟨P,(g.2 b (aao (aas (acu e) I.ok.above))).trans J⟩
  ·by_cases W:j=i
   ·subst W;rw[hi]at J;cases J;rw[aaZ a1]at B;cases B;exact⟨u,r,.inl ⟨T,by simp⟩⟩
   ·rw[aa0 (aaG W)]at B;obtain⟨u',f,q⟩:=t j y L J B e3;refine⟨u',f,?_⟩;rcases q with ⟨k,e⟩|⟨k,c,e,z⟩
    ·refine .inl ⟨k,?_⟩;have:y≠x:=λe=>W (lW hN J (e▸hi))
     grind
    ·exact .inr ⟨k,c,e,z.sameBut g (a3 y c e)⟩
  ·obtain⟨D,z⟩:=I.cell y c e;exact⟨D,z.sameBut g (a3 y c e)⟩
  ·obtain⟨e,n,ne,O,d⟩:=I.pin p hp;exact⟨(g.2 p.1 ne).trans e,n,ne,O,d⟩
 ·have a2:X.fn x=true:=by
   grind
  obtain⟨c,U⟩:=I.ok.has x (.inl T);obtain⟨D,z⟩:=I.cell x c U;refine wpAny_storeName_cell I.ok.kind T U z (λC a5 g=>?_);obtain⟨oc,a6,a7⟩:=id z;refine h { s with heap:=C } ⟨I.ok,I.os,I.bare,⟨λb o e n S F=>?_,λb o e n S F=>?_,I.base.free,λb o e F=>?_,I.base.tups,I.base.frzs,I.base.tbls⟩,⟨m,l.sameBut g (aaG (a3 x c U)),λj y L J B e3=>?_⟩,λy c' e=>?_,I.free,I.freeC,λp hp=>?_,a0 ⟨oc,a6,I.freeC x c U⟩ g,by simpa using I.len⟩ ⟨c,g,.inr U⟩
  ·exact(g.2 b (aao (aas (acu e) (I.ok.cab x c a2 U)))).trans (I.base.keep b o e n S F)
  ·obtain⟨Z,J⟩:=I.base.slot b o e n S F;exact⟨Z,(g.2 b (aao (aas (acu e) (I.ok.cab x c a2 U)))).trans J⟩
  ·obtain⟨P,J⟩:=I.base.there b o e F;exact⟨P,(g.2 b (aao (aas (acu e) (I.ok.cab x c a2 U)))).trans J⟩
  ·by_cases W:j=i
   ·subst W;rw[hi]at J;cases J;rw[aaZ a1]at B;cases B;exact⟨u,r,.inr ⟨.inl T,c,U,a5⟩⟩
   ·rw[aa0 (aaG W)]at B;obtain⟨u',f,q⟩:=t j y L J B e3;refine⟨u',f,?_⟩;rcases q with q|⟨k,c',e,z'⟩
    ·exact .inl q
    ·refine .inr ⟨k,c',e,z'.sameBut g ?_⟩;rintro rfl;exact W (lW hN J (I.ok.inj _ _ _ e U▸hi))
  ·by_cases Y:c'=c
   ·subst Y;exact⟨_,a5⟩
   ·obtain⟨w2,z2⟩:=I.cell y c' e;exact⟨w2,z2.sameBut g Y⟩
  ·obtain⟨e,n,ne,O,d⟩:=I.pin p hp;refine⟨(g.2 p.1 ?_).trans e,n,ne,O,d⟩;intro q;rw[q,a6]at e;have q':=aa1 e;exact d D (by rw[<-q'];exact a7)
theorem bO{M:Model}{A:Around}{E:Value->Shared->Prop}(I:Inv X pins σ H s)(a:X.N.Nodup)(k:X.N[i]?=some x)(F:Loc X.env.scope x)(r:RelV v u)
  (h:∀B,Inv X pins (σ.set i (some v)) H B->Q () B) (y:X.fn x=true\/X.env.scope.names.lookup x=some .local:=by first|exact .inl rfl|exact .inr rfl|assumption):wpAny M A (storeName X.env x u) Q E s:=
 jU I a k F r (λB J _=>h B J) y
theorem Inv.call'(I:Inv X pins σ H s)(j:s'.os=s.os)(u:Un (uI X.stack) ch H H' s.heap s'.heap)(Q:HOk X.prog X.w H' s'.heap)(N:AllBare s'.gens)
  (D:∀b∈ch,(b∈X.ex\/X.s₀.heap.objs.size<=b)/\b≠X.env.locals/\(∀x c,X.env.cells.lookup x=some c->c≠b)/\∀p∈X.pn++pins,p.1≠b):Inv X pins σ H' s':=by
 obtain⟨C,A,k,z,P⟩:=s';have e:=j;subst e;exact I.call u Q N D
end
abbrev XK:=Value->Option Addr->Hp->Prop
abbrev St:=List (Option V)
abbrev VK:=V->Hp->Prop
abbrev TE:=St->Hp->VK->Prop
abbrev TT:=St->Hp->(Bool->Hp->Prop)->Prop
abbrev TA:=St->Hp->(List V->Hp->Prop)->Prop
structure Ends where
 nx:St->Hp->Prop
 rt:VK
 bk:St->Hp->Prop:=λ_ _=>False
 ct:St->Hp->Prop:=λ_ _=>False
abbrev TS:=Ends->St->Hp->Prop
def EP(X:Cx)(M:List (Addr×Obj))(σ:St)(Q:VK)(u:Value)(B:Shared):Prop:=∃v l,Inv X M σ l B/\RelV v u/\Q v l
def TP(X:Cx)(M:List (Addr×Obj))(σ:St)(Q:Bool->Hp->Prop)(b:Bool)(B:Shared):Prop:=∃l,Inv X M σ l B/\Q b l
def AP(X:Cx)(M:List (Addr×Obj))(σ:St)(Q:List V->Hp->Prop)(us:List Value)(B:Shared):Prop:=∃c l,Inv X M σ l B/\Vals c us/\Q c l
def SP(X:Cx)(M:List (Addr×Obj))(D:Ends)(f:Flow)(B:Shared):Prop:=
 match f with
 |.next=>∃z l,Inv X M z l B/\D.nx z l
 |.brk=>∃z l,Inv X M z l B/\D.bk z l
 |.cont=>∃z l,Inv X M z l B/\D.ct z l
 |.ret u=>∃v z l,Inv X M z l B/\RelV v u/\D.rt v l
def PE(X:Cx)(e:Expr)(t:TE):Prop:=
 ∀(M:List (Addr×Obj)) (s:Shared) (L:St) (H:Hp) (Q:VK),Inv X M L H s->t L H Q->wpAny (model X.prog X.w) X.A (eval e X.env) (EP X M L Q) X.xe s
def PT(X:Cx)(e:Expr)(t:TT):Prop:=
 ∀(M:List (Addr×Obj)) (s:Shared) (L:St) (H:Hp) (Q:Bool->Hp->Prop),Inv X M L H s->t L H Q->wpAny (model X.prog X.w) X.A (isTrue e X.env (eval e X.env)) (TP X M L Q) X.xe s
def PW(X:Cx)(e:Expr)(t:TT):Prop:=
 ∀(W:Sem Value) (M:List (Addr×Obj)) (s:Shared) (L:St) (H:Hp) (Q:Bool->Hp->Prop),Inv X M L H s->t L H Q->wpAny (model X.prog X.w) X.A (isTrue e X.env W) (TP X M L Q) X.xe s
theorem PW.pt(h:PW X e t):PT X e t:=h _
def PA(X:Cx)(es:List Expr)(t:TA):Prop:=
 ∀(S:Pos) (M:List (Addr×Obj)) (s:Shared) (L:St) (H:Hp) (Q:List V->Hp->Prop),Inv X M L H s->t L H Q->wpAny (model X.prog X.w) X.A (spliced (backTo S (starEach es X.env))) (AP X M L Q) X.xe s
def PS(X:Cx)(st:Stmt)(t:TS):Prop:=
 ∀(M:List (Addr×Obj)) (s:Shared) (L:St) (H:Hp) (D:Ends),Inv X M L H s->t D L H->wpAny (model X.prog X.w) X.A (exec st X.env) (SP X M D) X.xe s
def PSs(X:Cx)(st:List Stmt)(t:TS):Prop:=
 ∀(M:List (Addr×Obj)) (s:Shared) (L:St) (H:Hp) (D:Ends),Inv X M L H s->t D L H->wpAny (model X.prog X.w) X.A (execs st X.env) (SP X M D) X.xe s
theorem thn{Y:Type}{t:Sem Y}{Q O:Y->Shared->Prop}{A:Around}(h:wpAny M A t Q E s)(X:∀a s,Q a s->O a s):wpAny M A t O E s:=acy h X λ_ _ x=>x
end
section
section
variable{X:Cx}
def tVar(i:Nat):TE:=λL H Q=>∃v,L[i]?=some (some v)/\Q v H
def tC(v:V):TE:=λ_ H Q=>Q v H
theorem bB{pos:Pos} (a:X.N[i]?=some x) (o:Vis X.env.scope x) (W:(x==("__debug__":Str))=false:=by decide) (P:(x==("__classdict__":Str))=false:=by decide):PE X (.Name x pos) (tVar i):=by
 intro M s L H Q I h;obtain⟨v,e,h⟩:=h;obtain⟨m,y,t⟩:=I.loc;obtain⟨u,r,l⟩:=t i x v a e o;have Y:EP X M L Q u s:=⟨v,H,I,r,h⟩
 rcases l with ⟨T,j⟩|⟨T,c,U,S⟩
 ·exact wpAny_Name (wpAny_loadName_local I.ok.kind T y j Y) W
 ·rcases T with T|T
  ·exact wpAny_Name (wpAny_loadName_cell I.ok.kind T U S Y) W
  ·exact wpAny_Name (wpAny_loadName_free I.ok.kind T U S Y P) W
theorem iA{i j pos}:PE X (.Constant (.int i) j pos) (tC (.int i)):=λ_ _ _ H _ I h=>wpAny_Constant_int ⟨.int i,H,I.tok _,⟨_,rfl⟩,h⟩
theorem FU{b j pos}:PE X (.Constant (.bool b) j pos) (tC (.bl b)):=λ_ _ _ H _ I h=>Constant_bool ⟨.bl b,H,I,rfl,h⟩
theorem Ci{j pos}:PE X (.Constant .none j pos) (tC .non):=λ_ _ _ H _ I h=>Constant_none ⟨.non,H,I,rfl,h⟩
theorem nT{x j pos}:PE X (.Constant (.str x) j pos) (tC (.str x)):=λ_ _ _ H _ I h=>Calls.Constant_str ⟨.str x,H,I.tok _,⟨_,rfl⟩,h⟩
def Gl(X:Cx)(x:Str):Prop:=X.env.kindOf x=some .globalImplicit
theorem ky{E:Value->Shared->Prop}{pos:Pos}(I:Inv X pins σ H s)(N:Gl X x)(Y:X.mg x=some u)(h:Q u s)
  (W:(x==("__debug__":Str))=false:=by decide):wpAny (model X.prog X.w) X.A (eval (.Name x pos) X.env) Q E s:=
 acZ I.ok.kind N (Calls.loadGlobal_global (by rw[I.ok.glob];exact I.mod.glob.keeps I.bk) Y h) W
theorem fB{E:Value->Shared->Prop}{M:List (Addr×Obj)}{s:Shared}{pos:Pos}(I:Inv X M σ H s)(N:Gl X x)(Y:X.mg x=none)(o:bootBuiltins x=some u)(h:Q u s)
  (l:x≠"__name__":=by decide) (W:(x==("__debug__":Str))=false:=by rfl):wpAny (model X.prog X.w) X.A (eval (.Name x pos) X.env) Q E s:=by
 obtain⟨m,O,Z⟩:=I.mod.blt;exact acZ I.ok.kind N (Calls.loadGlobal_builtin (by rw[I.ok.glob];exact I.mod.glob.keeps I.bk) Y (by rw[I.ok.blt];exact O.keeps I.bk) ((Z x l).trans o) h) W
theorem yK{pos:Pos} (N:Gl X x) (Y:X.mg x=some u) (r:RelV v u) (W:(x==("__debug__":Str))=false:=by decide):PE X (.Name x pos) (tC v):=
 λ_ _ _ H _ I h=>ky I N Y ⟨v,H,I,r,h⟩ W
theorem yL{pos:Pos} (N:Gl X x) (Y:X.mg x=none) (o:bootBuiltins x=some u) (r:RelV v u) (l:x≠"__name__":=by decide) (W:(x==("__debug__":Str))=false:=by decide):PE X (.Name x pos) (tC v):=
 λ_ _ _ H _ I h=>fB I N Y o ⟨v,H,I,r,h⟩ l W
def PC(X:Cx)(F:CmpOp)(a b:Expr)(t:TE):Prop:=
 ∀(M:List (Addr×Obj)) (s:Shared) (L:St) (H:Hp) (Q:VK),Inv X M L H s->t L H Q ->
  wpAny (model X.prog X.w) X.A (eval a X.env) (λv J=>wpAny (model X.prog X.w) X.A (eval b X.env) (λu W=>wpAny (model X.prog X.w) X.A (compareOp F v u) (EP X M L Q) X.xe W) X.xe J) X.xe s
theorem nobehind(b:Expr)(h:op≠.In)(Z:op≠.NotIn):behindInMarks op b=false:=by
 have J:(op==CmpOp.In)=false:=by grind
 have B:(op==CmpOp.NotIn)=false:=by grind
 cases b<;>simp[behindInMarks,J,B]
def Jc(Z:TE):TE:=λL H Q=>Z L H λx P=>Q (.bl (decide (x=.non))) P
def FV(Z:TE):TE:=λL H Q=>Z L H λx P=>Q (.bl (!decide (x=.non))) P
theorem RelV.pa{x:V}{v:Value}(r:RelV x v):(v==Value.none)=decide (x=.non):=by
 cases x with
 |non=>cases r;rfl
 |bl _=>cases r;rfl
 |int _=>obtain⟨t,rfl⟩:=r;rfl
 |str _=>obtain⟨t,rfl⟩:=r;rfl
 |byt _=>obtain⟨t,rfl⟩:=r;rfl
 |flt _=>obtain⟨t,rfl⟩:=r;rfl
 |ref _=>cases r;rfl
 |ty _=>cases r;rfl
theorem uJ{j Z}(i:PE X a ta):PC X .Is a (.Constant .none j Z) (Jc ta):=by intro M s L H Q I h;refine thn (i M s L H _ I h) λv f m=>?_;obtain⟨x,P,B,w,C⟩:=m;exact Constant_none (is_none_gen ⟨.bl _,P,B,by rw[w.pa];rfl,C⟩)
theorem pU{j Z}(i:PE X a ta):PC X .IsNot a (.Constant .none j Z) (FV ta):=by intro M s L H Q I h;refine thn (i M s L H _ I h) λv f m=>?_;obtain⟨x,P,B,w,C⟩:=m;exact Constant_none (isnot_none_gen ⟨.bl _,P,B,by rw[w.pa];rfl,C⟩)
def tB(t:TE):TT:=λL H Q=>t L H λx P=>∃c,x=.bl c/\Q c P
theorem kz(h:PC X op a b t)(O:behindInMarks op b=false:=by first|exact nobehind _ (by decide) (by decide)|rfl):PE X (.Compare a [op] [b] pos) t:=λM s L H Q I c=>wpAny_Compare1 (h M s L H Q I c) O
theorem kA{F:CmpOp}{t:TE}(h:PC X F a b t)(O:behindInMarks F b=false:=by first|exact nobehind _ (by decide) (by decide)|rfl):PT X (.Compare a [F] [b] pos) (tB t):=by intro M s L H Q I o;refine wpAny_isTrue_Compare1 (thn (h M s L H _ I o) λv f O=>thn O λu W Z=>thn Z λc A m=>?_) O;obtain⟨x,P,B,w,C⟩:=m;obtain⟨d,rfl,q⟩:=C;cases w;exact acA ⟨P,B,q⟩
variable{rest:List Expr}
def Jd(t u:TT):TT:=λL H Q=>t L H λc P=>if c=true then u L P Q else Q false P
def LJ(t u:TT):TT:=λL H Q=>t L H λc P=>if c=true then Q true P else u L P Q
def Je(t:TT):TT:=λL H Q=>t L H λc P=>Q (!c) P
theorem yM(j:PT X a tA):PW X (.BoolOp .And [a] pos) tA:=by
 intro W M s L H Q I h;refine isTrue_and (thn (j M s L H Q I h) λc f e=>?_);cases c with
 |true=>exact isTrue_and_nil e
 |false=>exact e
theorem Cj(j:PT X a tA):PW X (.BoolOp .Or [a] pos) tA:=by
 intro W M s L H Q I h;refine isTrue_or (thn (j M s L H Q I h) λc f e=>?_);cases c with
 |false=>exact isTrue_or_nil e
 |true=>exact e
theorem Cm(j:PT X a tA)(S:PW X (.BoolOp .And (b::rest) pos) tB'):PW X (.BoolOp .And (a::b::rest) pos) (Jd tA tB'):=by
 intro W M s L H Q I h;refine isTrue_and (thn (j M s L H _ I h) λc f m=>?_);obtain⟨P,B,C⟩:=m;cases c with
 |true=>exact S W M f L P Q B C
 |false=>exact⟨P,B,C⟩
theorem FW(j:PT X a tA)(S:PW X (.BoolOp .Or (b::rest) pos) tB'):PW X (.BoolOp .Or (a::b::rest) pos) (LJ tA tB'):=by
 intro W M s L H Q I h;refine isTrue_or (thn (j M s L H _ I h) λc f m=>?_);obtain⟨P,B,C⟩:=m;cases c with
 |true=>exact⟨P,B,C⟩
 |false=>exact S W M f L P Q B C
theorem Cn(j:PT X a tA):PT X (.UnaryOp .Not a pos) (Je tA):=by intro M s L H Q I h;exact isTrue_not (j M s L H (λc P=>Q (!c) P) I h)
def FX(Z T:TE):TE:=λL H Q=>Z L H λx P=>∃c,x=.bl c/\if c=true then T L P Q else Q (.bl false) P
def Jf(Z T:TE):TE:=λL H Q=>Z L H λx P=>∃c,x=.bl c/\if c=true then Q (.bl true) P else T L P Q
def FY(Z:TE):TE:=λL H Q=>Z L H λx P=>∃c,x=.bl c/\Q (.bl (!c)) P
theorem Cp{F}(h:PE X a t):PE X (.BoolOp F [a] pos) t:=by trivial
theorem Cq(j:PE X a ta)(S:PE X (.BoolOp .And (b::rest) pos) tb):PE X (.BoolOp .And (a::b::rest) pos) (FX ta tb):=by
 intro M s L H Q I h;refine BoolOp_and (thn (j M s L H _ I h) λv f m=>?_);obtain⟨x,P,B,w,C⟩:=m;obtain⟨c,rfl,C⟩:=C;cases w;refine acA ?_;cases c with
 |true=>exact S M f L P Q B C
 |false=>exact⟨.bl false,P,B,rfl,C⟩
theorem FZ(j:PE X a ta)(S:PE X (.BoolOp .Or (b::rest) pos) tb):PE X (.BoolOp .Or (a::b::rest) pos) (Jf ta tb):=by
 intro M s L H Q I h;refine BoolOp_or (thn (j M s L H _ I h) λv f m=>?_);obtain⟨x,P,B,w,C⟩:=m;obtain⟨c,rfl,C⟩:=C;cases w;refine acA ?_;cases c with
 |false=>exact S M f L P Q B C
 |true=>exact⟨.bl true,P,B,rfl,C⟩
theorem Cr(j:PE X a ta):PE X (.UnaryOp .Not a pos) (FY ta):=by intro M s L H Q I h;refine UnaryOp_ (thn (j M s L H _ I h) λv f m=>?_);obtain⟨x,P,B,w,C⟩:=m;obtain⟨c,rfl,C⟩:=C;cases w;exact not_of (acA ⟨.bl (!c),P,B,rfl,C⟩)
def LK(t:TT)(Z T:TE):TE:=λL H Q=>t L H λc P=>if c=true then Z L P Q else T L P Q
theorem uK{c:Expr}(U:PT X c tA)(j:PE X a ta)(S:PE X b tb):PE X (.IfExp c a b pos) (LK tA ta tb):=by
 intro M s L H Q I h;refine wpAny_IfExp (thn (U M s L H _ I h) λd f m=>?_);obtain⟨P,B,C⟩:=m;cases d with
 |true=>exact j M f L P Q B C
 |false=>exact S M f L P Q B C
end
end
section
def SqL(K:Waa)(H:Hp)(a:Addr)(xs:List V):Prop:=
 Rd H a (.lst xs) \/
  ∃(o:Obj) (D:Array Value) (n:Nat),K.lookup a=some o/\o.cls=.type "list"/\o.dict=none/\o.data=.seq D n/\D.size<=sizeLine/\Vals xs D.toList
def SqT(K:Waa)(H:Hp)(a:Addr)(xs:List V):Prop:=
 Rd H a (.tup xs) \/
  ∃(o:Obj) (D:Array Value) (n:Nat),K.lookup a=some o/\o.cls=.type "tuple"/\o.dict=none/\o.data=.seq D n/\D.size<=sizeLine/\Vals xs D.toList
noncomputable def Jg:Value->Option V
 |.none=>some .non
 |.bool b=>some (.bl b)
 |.int i _=>some (.int i)
 |.str x _=>some (.str x)
 |.bytes b _=>some (.byt b)
 |.float b _=>some (.flt b)
 |.ref a=>some (.ref a)
 |.type n=>some (.ty n)
 |_=>none
theorem RelV.abs(r:RelV x u):Jg u=some x:=by
 cases x with
 |non=>cases r;rfl
 |bl _=>cases r;rfl
 |int _=>obtain⟨t,rfl⟩:=r;rfl
 |str _=>obtain⟨t,rfl⟩:=r;rfl
 |byt _=>obtain⟨t,rfl⟩:=r;rfl
 |flt _=>obtain⟨t,rfl⟩:=r;rfl
 |ref _=>cases r;rfl
 |ty _=>cases r;rfl
theorem RelV.inj{x y:V}{u:Value}(r:RelV x u)(q:RelV y u):x=y:=aa1 (r.abs.symm.trans q.abs)
theorem Vals.inj{xs ys:List V}{us:List Value}(h:Vals xs us)(h':Vals ys us):xs=ys:=by
 induction us generalizing xs ys with
 |nil=>cases h;cases h';rfl
 |cons u us Y=>cases h with|cons r t=>cases h' with|cons f z=>rw[r.inj f,Y t z]
theorem SqL.of{K:Waa}(h:H a=some (.lst xs)):SqL K H a xs:=.inl (.inl h)
theorem SqT.of{K:Waa}(h:H a=some (.tup xs)):SqT K H a xs:=.inl (.inl h)
theorem Inv.list(I:Inv X pins σ H s)(h:SqL X.K H a xs):∃D:List Value,Vals xs D/\PlainL s.heap a D.toArray/\xs.length<=sizeLine:=by
 rcases h with h|⟨o,D,n,T,U,W,g,d,r⟩
 ·obtain⟨z,D,n,r,e⟩:=h.ok I.hok;exact⟨D,r,⟨_,n,e,rfl,rfl,rfl⟩,z⟩
 ·refine⟨D.toList,r,⟨o,n,I.qd a o T,U,W,by omega⟩,?_⟩;have e:=r.length
  grind
theorem Inv.tuple(I:Inv X pins σ H s)(h:SqT X.K H a xs):∃D:List Value,Vals xs D/\IsTup s.heap a D.toArray/\xs.length<=sizeLine:=by
 rcases h with h|⟨o,D,n,T,U,_,g,f,r⟩
 ·obtain⟨z,D,r,o,e,c,n,d,_⟩:=h.ok I.hok;exact⟨D,r,⟨o,e,c,n,d⟩,z⟩
 ·refine⟨D.toList,r,⟨o,I.qd a o T,U,n,by omega⟩,?_⟩;have e:=r.length
  grind
theorem Inv.n8(I:Inv X pins σ H s)(h:SqL X.K H a xs)(h':SqL X.K H a ys):xs=ys:=by
 obtain⟨D,r,⟨o,n,e,_,_,d⟩,_⟩:=I.list h;obtain⟨B,f,⟨P,v,L,_,_,k⟩,_⟩:=I.list h';rw[e]at L;cases L;rw[d]at k;injection k with d1 _;have:D=B:=by grind
 subst this;exact r.inj f
theorem Inv.tupN(I:Inv X pins σ H s)(h:SqT X.K H a xs):∃o,s.heap.get? a=some o/\o.cls=.type "tuple"/\o.dict=none:=by
 rcases h with h|⟨o,D,n,T,U,W,g,f,r⟩
 ·obtain⟨_,_,_,o,e,c,_,_,d⟩:=h.ok I.hok;exact⟨o,e,c,d⟩
 ·exact⟨o,I.qd a o T,U,W⟩
theorem Inv.tr(I:Inv X pins σ H s)(h:SqT X.K H a xs)(h':SqT X.K H a ys):xs=ys:=by
 obtain⟨D,r,⟨o,e,_,n,d⟩,_⟩:=I.tuple h;obtain⟨B,f,⟨P,L,_,v,k⟩,_⟩:=I.tuple h';rw[e]at L;cases L;rw[d]at k;injection k with d1 _;have:D=B:=by grind
 subst this;exact r.inj f
noncomputable abbrev Cx.fy(X:Cx)(E:Value->Shared->Prop):Cx:={ X with xe:=E }
abbrev Cx.xc(X:Cx):Cx:=X.fy λ_ _=>False
theorem Cx.Ok.fy{X:Cx}(U:X.Ok)(E:Value->Shared->Prop):(X.fy E).Ok:=
 ⟨U.mod,U.kind,U.glob,U.blt,U.above,U.inj,U.has,U.cab,U.hd,U.frames,U.stk,U.exf,U.bs,U.bsz,U.noex,U.exfs,U.funs,U.frf⟩
theorem Cx.Ok.dn{X:Cx}(U:(X.fy E).Ok):X.Ok:=
 ⟨U.mod,U.kind,U.glob,U.blt,U.above,U.inj,U.has,U.cab,U.hd,U.frames,U.stk,U.exf,U.bs,U.bsz,U.noex,U.exfs,U.funs,U.frf⟩
theorem Inv.fy(I:Inv X pins σ H s)(E:Value->Shared->Prop):Inv (X.fy E) pins σ H s:=⟨I.ok.fy E,I.os,I.bare,I.base,I.loc,I.cell,I.free,I.freeC,I.pin,I.hok,I.len⟩
theorem Inv.dn(I:Inv (X.fy E) pins σ H s):Inv X pins σ H s:=⟨I.ok.dn,I.os,I.bare,I.base,I.loc,I.cell,I.free,I.freeC,I.pin,I.hok,I.len⟩
theorem SP.dn{D:Ends}(h:SP (X.fy E) pins D f s'):SP X pins D f s':=by
 cases f with
 |next=>obtain⟨z,l,I,q⟩:=h;exact⟨z,l,I.dn,q⟩
 |brk=>obtain⟨z,l,I,q⟩:=h;exact⟨z,l,I.dn,q⟩
 |cont=>obtain⟨z,l,I,q⟩:=h;exact⟨z,l,I.dn,q⟩
 |ret u=>obtain⟨v,z,l,I,r,q⟩:=h;exact⟨v,z,l,I.dn,r,q⟩
theorem PE.xc(h:PE X.xc e t):PE X e t:=λM s L H Q I c=>
 acy (h M s L H Q (I.fy _) c) (λ_ _ ⟨v,l,J,r,q⟩=>⟨v,l,J.dn,r,q⟩) λ_ _ z=>False.elim z
theorem PT.xc(h:PT X.xc e t):PT X e t:=λM s L H Q I c=>
 acy (h M s L H Q (I.fy _) c) (λ_ _ ⟨l,J,q⟩=>⟨l,J.dn,q⟩) λ_ _ z=>False.elim z
theorem PSs.xc{J:List Stmt}(h:PSs X.xc J t):PSs X J t:=λM s L H D I Q=>
 acy (h M s L H D (I.fy _) Q) (λ_ _ q=>q.dn) λ_ _ z=>False.elim z
section
variable{st:Stmt}{rest:List Stmt}
def tNext:TS:=λD L H=>D.nx L H
def Jh(t u:TS):TS:=λD L H=>t { D with nx:=u D } L H
theorem yN:PSs X [] tNext:=λ_ _ L H _ I h=>acW ⟨L,H,I,h⟩
theorem lY(O:PS X st t)(Z:PSs X rest u):PSs X (st::rest) (Jh t u):=by
 intro M s L H D I h;refine wpAny_execs_cons (thn (O M s L H { D with nx:=u D } I h) λf i q=>?_);cases f with
 |next=>obtain⟨z,l,J,q⟩:=q;exact Z M i z l D J q
 |ret v=>exact q
 |brk=>exact q
 |cont=>exact q
def tCont:TS:=λD L H=>D.ct L H
theorem lZ:PS X (.Continue pos) tCont:=λ_ _ L H _ I h=>wpAny_Continue ⟨L,H,I,h⟩
theorem Inv.quiet{M:List (Addr×Obj)}{σ:St}(I:Inv X M σ H s):interactive X.env=false:=by simp[interactive,I.ok.kind]
def F0(o:TE):TS:=λD L H=>o L H λ_ P=>D.nx L P
theorem ip(n:PE X e te)(g:swapsWith e none pos.line X.env=pure false:=by rfl):PS X (.Expr e pos) (F0 te):=by intro M s L H D I h;exact wpAny_Expr_any (thn (n M s L H _ I h) λv f ⟨x,P,B,w,C⟩=>⟨L,P,B,C⟩) I.quiet g
def Ji(o:TE):TS:=λD L H=>o L H D.rt
theorem Cu(n:PE X e te):PS X (.Return (some e) pos) (Ji te):=by intro M s L H D I h;exact wpAny_Return_some (thn (n M s L H _ I h) λv f ⟨x,P,B,w,C⟩=>⟨x,L,P,B,w,C⟩)
def Jj(c:TT)(t u:TS):TS:=λD L H=>c L H λb P=>if b=true then t D L P else u D L P
theorem F1{c:Expr}{a b:List Stmt}{tc:TT}(U:PT X c tc)(j:PSs X a t)(S:PSs X b u):PS X (.If c a b pos) (Jj tc t u):=by
 intro M s L H D I h;refine wpAny_If (thn (U M s L H _ I h) λd f m=>?_);obtain⟨P,B,C⟩:=m;cases d with
 |true=>exact j M f L P D B C
 |false=>exact S M f L P D B C
def tNever:TS:=λ_ _ _=>False
theorem l4:PS X st tNever:=λ_ _ _ _ _ _ h=>h.elim
end
abbrev TG:=V->St->Hp->(St->Hp->Prop)->Prop
abbrev TGs:=List V->St->Hp->(St->Hp->Prop)->Prop
def PG(X:Cx)(T:Expr)(t:TG):Prop:=
 ∀(M:List (Addr×Obj)) (s:Shared) (L:St) (H:Hp) (v:V) (u:Value) (Q:St->Hp->Prop),Inv X M L H s->RelV v u->t v L H Q ->
  wpAny (model X.prog X.w) X.A (assign T X.env u) (λ_ B=>∃z l,Inv X M z l B/\Q z l) X.xe s
def FI(X:Cx)(d:List Expr)(t:TGs):Prop:=
 ∀(M:List (Addr×Obj)) (s:Shared) (L:St) (H:Hp) (vs:List V) (y:List Value) (Q:St->Hp->Prop),Inv X M L H s->Vals vs y->t vs L H Q ->
  wpAny (model X.prog X.w) X.A (assignInOrder ((assignEach d X.env).map (·.2)) y) (λ_ B=>∃z l,Inv X M z l B/\Q z l) X.xe s
abbrev Cv:=V->V->V->Hp->(Hp->Prop)->Prop
def PSet(X:Cx)(t:Cv):Prop:=
 ∀(M:List (Addr×Obj)) (s:Shared) (L:St) (H:Hp) (o i v:V) (S a u:Value) (Q:Hp->Prop),Inv X M L H s->RelV o S->RelV i a->RelV v u->t o i v H Q ->
  wpAny (model X.prog X.w) X.A (setItem S a u) (λ_ B=>∃l,Inv X M L l B/\Q l) X.xe s
abbrev TIp:=V->V->Hp->VK->Prop
def F2(X:Cx)(F:Operator)(t:TIp):Prop:=
 ∀(M:List (Addr×Obj)) (s:Shared) (L:St) (H:Hp) (x y:V) (v u:Value) (Q:VK),Inv X M L H s->RelV x v->RelV y u->t x y H Q ->
  wpAny (model X.prog X.w) X.A (inplaceOp F v u) (EP X M L Q) X.xe s
def iB(i:Nat):TG:=λv L H Q=>Q (L.set i (some v)) H
theorem yO(a:X.N.Nodup)(k:X.N[i]?=some x)(F:Loc X.env.scope x)(y:X.fn x=true\/X.env.scope.names.lookup x=some .local:=by first|exact .inl rfl|exact .inr rfl|assumption):PG X (.Name x pos) (iB i):=by intro M s L H v u Q I r h;exact wpAny_assign_Name (bO I a k F r (λB J=>⟨_,H,J,h⟩) y)
def gNil:TGs:=λc L H Q=>c=[]/\Q L H
def F3(t:TG)(u:TGs):TGs:=λc L H Q=>∃v r,c=v::r/\t v L H λz l=>u r z l Q
theorem yP:FI X [] gNil:=by intro M s L H c y Q I r h;obtain⟨e,h⟩:=h;subst e;cases r;exact assignInOrder_nil ⟨L,H,I,h⟩
theorem uL{e:Expr}{es:List Expr}(O:PG X e t)(Z:FI X es u)
  (g:(assignEach (e::es) X.env).map (·.2)=assign e X.env::(assignEach es X.env).map (·.2):=by rfl):FI X (e::es) (F3 t u):=by
 intro M s L H c y Q I r h;obtain⟨v,D,J,h⟩:=h;subst J;cases r with
 |cons r A=>rw[g];refine acF (thn (O M s L H _ _ _ I r h) λ_ f m=>?_);obtain⟨U,P,B,C⟩:=m;exact Z M f U P _ _ Q B A C
def Jk(K:Waa)(n:Nat)(t:TGs):TG:=λv L H Q=>∃a Y,v=.ref a/\SqT K H a Y/\Y.length=n/\t Y L H Q
theorem Cw{k:Nat}(U:X.calm=true)(h:FI X es t)
  (l:(assignEach es X.env).length=n:=by rfl) (p:(assignEach es X.env).findIdx? (·.1)=none:=by rfl):PG X (.Tuple es k pos) (Jk X.K n t):=by
 intro M s L H v u Q I r c;obtain⟨a,Y,J,A,j,c⟩:=c;subst J;cases r;obtain⟨D,O,Z,d⟩:=I.tuple A;refine assign_Tuple_tuple (I.ok.hd U) Z (by simp[l,<-j,O.length]) p λC F=>?_;have B:Inv X M L H { s with heap:=C }:=I.kept λb o e=>F b o (aao (acu e)) e;exact h M _ L H Y _ Q B (by omega) c
def Jl(A T:TE)(t:Cv):TG:=λv L H Q=>A L H λo P=>T L P λi N=>t o i v N λq=>Q L q
theorem Cz{o i:Expr}{A T:TE}{t:Cv}(j:PE X o A)(k:PE X i T)(Y:PSet X t)
  (l:∀v,assign (.Subscript o i pos) X.env v=(do
   let S <-holding [v] (eval o X.env)
   let a <-holding [v,S] (eval i X.env)
   standAt pos
   holding [v,S,a] (setItem S a v)
   release [v,S,a] []):=by intro _;rfl):PG X (.Subscript o i pos) (Jl A T t):=by
 intro M s L H v u Q I r h;rw[l];refine acs (acB (thn (j M s L H _ I h) λS f m=>?_));obtain⟨x,P,B,w,C⟩:=m;refine acs (acB (thn (k M f L P _ B C) λa Z m=>?_));obtain⟨y,N,W,p,b⟩:=m;refine acs (acC (acs (acB (thn (Y M Z L N x y v S a u _ W w p r b) λ_ O m=>?_))));obtain⟨q,d,g⟩:=m;exact wpAny_release ⟨L,q,d,g⟩
def nU(o:TE)(g:TG):TS:=λD L H=>o L H λx P=>g x L P D.nx
theorem uM{f e:Expr}{o:TE}{g:TG}(n:PE X e o)(N:PG X f g)(W:swapsWithSole [f] e pos.line X.env=pure false:=by rfl)(Q:swappedStores [f] e X.env=pure none:=by rfl)
  (O:(assignEach [f] X.env).map (·.2)=[assign f X.env]:=by rfl):PS X (.Assign [f] e pos) (nU o g):=by
 intro M s L H D I h;refine wpAny_Assign_stores (thn (n M s L H _ I h) λv i m=>?_) W Q;obtain⟨x,P,B,w,C⟩:=m;rw[O];exact thn (N M i L P x v _ B w C) λ_ Z q=>q
theorem CA{i:Nat}{x:Str}(a:X.N.Nodup)(r:X.N[i]?=some x)(F:Loc X.env.scope x)(n:PE X e te)(g:swapsWith e (some (.Name x pos')) pos.line X.env=pure false:=by rfl)(W:X.fn x=true\/X.env.scope.names.lookup x=some .local:=by first|exact .inl rfl|exact .inr rfl|assumption):
  PS X (.Assign [.Name x pos'] e pos) (nU te (iB i)):=by
 intro M s L H D I h;refine wpAny_Assign_Name (thn (n M s L H _ I h) λv f m=>?_) g;obtain⟨y,P,B,w,C⟩:=m;exact bO B a r F w (λZ t=>⟨_,P,t,C⟩) W
def Jm(i j:Nat)(Z:TA):TS:=λD L H=>Z L H λc P=>∃v w,c=[v,w]/\D.nx ((L.set i (some v)).set j (some w)) P
theorem CB{i j:Nat}{x y:Str}{l A Y}(U:X.calm=true)(hN:X.N.Nodup)(r:X.N[i]?=some x)(W:X.N[j]?=some y)(z:i≠j)
  (F:X.env.scope.names.lookup x=some .local) (m:X.env.scope.names.lookup y=some .local) (ha:PA X [a,b] ta)
  (Q:swappedStores [.Tuple [.Name x px,.Name y py] l pt] (.Tuple [a,b] A Y) X.env=pure (some [x,y]))
  (g:swapsWithSole [.Tuple [.Name x px,.Name y py] l pt] (.Tuple [a,b] A Y) pos.line X.env=pure false:=by rfl):
  PS X (.Assign [.Tuple [.Name x px,.Name y py] l pt] (.Tuple [a,b] A Y) pos) (Jm i j ta):=by
 intro M s L H D I h;rw[exec_Assign_arm];refine acs (acC ?_);rw[g];refine acs (acv ?_);rw[if_neg (by decide)];refine acs (Tuple_ (thn (ha _ M s L H _ I h) λus f hZ=>?_));obtain⟨c,P,B,r1,C⟩:=hZ;obtain⟨v,w,J,C⟩:=C;subst J;obtain⟨S,k,rfl,O,a0⟩:∃S k,us=[S,k]/\RelV v S/\RelV w k:=by
  cases r1 with
  |cons p q=>
   cases q with
   |cons p' q'=>
    cases q'
    grind
 refine acG ?_ (by show 2<=sizeLine;decide);have t:Inv X M L P { f with heap:=f.heap.push { cls:=.type "tuple",data:=.seq [S,k].toArray } }:=B.kept λb o e=>acw _ e;rw[Q];refine acs (acv ?_);refine acs (acH (acs (unpackItems_tuple (items:=#[S,k]) (I.ok.hd U) (IsTup.new f.heap _) λh' u=>?_)));have d:=t.kept (t':=f.toks) λb o e=>u b o (aao (acu e)) e;refine acs (acF (acJ (bO d hN W (.inl m) a0 (λZ n=>?_) (.inr m))));refine acF (acJ (bO n hN r (.inl F) O (λs3 T=>assignInOrder_nil (acv ?_)) (.inr F)));rw[abm _ _ (aaG z)]at T;exact⟨_,P,T,C⟩
def Jn(i:Nat)(o:TE)(T:TIp):TS:=λD L H=>∃x,L[i]?=some (some x)/\o L H λy P=>T x y P λz N=>D.nx (L.set i (some z)) N
theorem uN{i:Nat}{x:Str}{Z:Pos}(a:X.N.Nodup)(q:X.N[i]?=some x)(F:Loc X.env.scope x)(n:PE X e te)(j:F2 X op ti)(hf:X.fn x=true\/X.env.scope.names.lookup x=some .local:=by first|exact .inl rfl|exact .inr rfl|assumption):
  PS X (.AugAssign (.Name x Z) op e pos) (Jn i te ti):=by
 intro M s L H D I h;obtain⟨v,J,h⟩:=h;obtain⟨m,hn,hl⟩:=I.loc;have Q:Vis X.env.scope x:=by rcases F with k|k;exact .inl k;exact .inr (.inl k)
 obtain⟨u,r,l⟩:=hl i x v q J Q;refine wpAny_AugAssign_Name ?_;have go:wpAny (model X.prog X.w) X.A (eval e X.env) (λw W=>wpAny (model X.prog X.w) X.A (inplaceOp op u w) (λr o=>wpAny (model X.prog X.w) X.A (storeName X.env x r) (λ_=>SP X M D .next) X.xe o) X.xe W) X.xe s:=by refine thn (n M s L H _ I h) λw f g=>?_;obtain⟨y,P,B,r1,C⟩:=g;refine thn (j M f L P v y u w _ B r r1 C) λz s2 g=>?_;obtain⟨O,H2,t,p,b⟩:=g;exact bO t a q F p (λs3 d=>⟨_,H2,d,b⟩) hf
 rcases l with ⟨T,Y⟩|⟨T,c,U,S⟩
 ·exact wpAny_loadName_local I.ok.kind T hn Y go
 ·rcases T with T|T
  ·exact wpAny_loadName_cell I.ok.kind T U S go
  ·rcases F with k|k
   ·have:X.env.scope.names.lookup x=some .free:=T
    grind
   ·have:X.env.scope.names.lookup x=some .free:=T
    grind
def Jo(f:Int->Int->Int):TIp:=λx y H Q=>∃i j,x=.int i/\y=.int j/\Q (.int (f i j)) H
theorem CD:F2 X .Add (Jo λi j=>i+j):=by intro M s L H x y v u Q I w p h;obtain⟨i,j,J,B,q⟩:=h;subst J;subst B;obtain⟨t,rfl⟩:=w;obtain⟨z,rfl⟩:=p;exact iadd_int ⟨.int _,H,I.tok _,⟨_,rfl⟩,q⟩
theorem CF:F2 X .Sub (Jo λi j=>i-j):=by intro M s L H x y v u Q I w p h;obtain⟨i,j,J,B,q⟩:=h;subst J;subst B;obtain⟨t,rfl⟩:=w;obtain⟨z,rfl⟩:=p;exact isub_int ⟨.int _,H,I.tok _,⟨_,rfl⟩,q⟩
def CG(c:TT)(T:TS):TS:=λD L H=>∃W:Nat->St->Hp->Prop,(∃m,W m L H)/\∀m L H,W m L H ->
 c L H λb P=>if b=true then ∃N:St->Hp->Prop,(∀z l,N z l->∃y,y<m/\W y z l)/\T { D with nx:=N,ct:=N,bk:=D.nx } L P else D.nx L P
theorem uO{c:Expr}{u:List Stmt}(C:PassesOwn (model X.prog X.w) X.A X.env X.xe)(U:PT X c tc)(S:PSs X u tb):PS X (.While c u [] pos) (CG tc tb):=by
 intro M s L H D I h;obtain⟨W,⟨k,e⟩,T⟩:=h;refine wpAny_While (codeAny_whileLoop (λn B=>∃z l,Inv X M z l B/\W n z l) ?_ k ⟨L,H,I,e⟩);rintro n r ⟨Q,P,p,x⟩;refine acE C (thn (U M r Q P _ p (T n Q P x)) λb Z m=>?_);obtain⟨i,t,F⟩:=m;cases b with
 |true=>
  obtain⟨N,a,F⟩:=F;rw[if_pos rfl];refine acE C (thn (S M Z Q i _ t F) λf O g=>?_);cases f with
  |next=>obtain⟨j,q,d,o⟩:=g;obtain⟨y,Y,J⟩:=a j q o;exact⟨y,Y,j,q,d,J⟩
  |cont=>obtain⟨j,q,d,o⟩:=g;obtain⟨y,Y,J⟩:=a j q o;exact⟨y,Y,j,q,d,J⟩
  |brk=>exact g
  |ret v=>exact g
 |false=>rw[if_neg aaq];exact acW ⟨Q,i,t,F⟩
structure It where
 go:Nat->Hp->Prop
 yld:Nat->Hp->V->Hp->Prop
 stop:Nat->Hp->Prop
def FpOk(X:Cx)(M:List (Addr×Obj))(H:Hp)(b:Addr):Prop:=
 H b=none/\b≠X.env.locals/\b ∉ X.fs/\(b∈X.ex\/X.s₀.heap.objs.size<=b)/\(∀x c,X.env.cells.lookup x=some c->c≠b)/\∀p∈X.pn++M,p.1≠b
theorem Inv.rd(I:Inv X pins σ H s)(S:s.heap.objs.size<=b)(l:H' b=none):FpOk X pins H' b:=by
 refine⟨l,aa9 (aas I.lt S),I.nofs S,.inr (aan I.sz S),λx c e z=>?_,λp C z=>?_⟩
 ·obtain⟨v,q⟩:=I.cell x c e;exact absurd (aas q.lt (by rw[z];exact S)) (aaY _)
 ·exact absurd (aas (acu (I.pin p C).1) (by rw[z];exact S)) (aaY _)
structure Turn (P:Program)(w:World)(K:Waa)(tg:Expr)(J:It)(fp:List Addr)(it:Addr)(tn:Nat->Heap->Prop):Prop where
 mem:it∈fp
 obj:∀i h,tn i h->∀b∈fp,∃o,h.get? b=some o/\∀v,o.data≠.cell v
 keep:∀i h h',tn i h->(∀b∈fp,∀o,h.get? b=some o->h'.get? b=some o)->tn i h'
 item:∀(X:Cx),X.prog=P->X.w=w->X.K=K->X.calm=true->∀(i:Nat) (pins:List (Addr×Obj)) (s:Shared) (σ:St) (H:Hp) (E:Value->Shared->Prop),Inv X pins σ H s->(∀b∈fp,FpOk X pins H b)->tn i s.heap->J.go i H ->
  wpAny (model P w) X.A (pyNext (.ref it)) (λr s1=>∃u,r=some u /\
   wpAny (model P w) X.A (letOwnedTupleGo tg (.ref it) u) (λ_ s2=>∃x H',Inv X pins σ H' s2/\RelV x u/\J.yld i H x H'/\tn (i+1) s2.heap/\∀b∈fp,H' b=none) E s1) E s
 done:∀(X:Cx),X.prog=P->X.w=w->X.K=K->X.calm=true->∀(i:Nat) (pins:List (Addr×Obj)) (s:Shared) (σ:St) (H:Hp) (E:Value->Shared->Prop),Inv X pins σ H s->(∀b∈fp,FpOk X pins H b)->tn i s.heap->J.stop i H ->
  wpAny (model P w) X.A (pyNext (.ref it)) (λr s1=>r=none/\Inv X pins σ H s1) E s
 self:∀(A:Around) (i:Nat) (s:Shared) (Q:Value->Shared->Prop) (E:Value->Shared->Prop),tn i s.heap->Q (.ref it) s->wpAny (model P w) A (pyIter (.ref it)) Q E s
abbrev TI:=St->Hp->(It->Hp->Prop)->Prop
def K5(X:Cx)(M:List (Addr×Obj))(σ:St)(f:Expr)(R:It->Hp->Prop)(z:Value)(Z:Shared):Prop:=
 ∃(y:Addr) (k:List Addr) (A:Nat->Heap->Prop) (J:It) (l:Hp),z=.ref y/\Inv X M σ l Z/\Turn X.prog X.w X.K f J k y A/\A 0 Z.heap/\(∀b∈k,FpOk X M l b)/\R J l
def PI(X:Cx)(tg iter:Expr)(Z:TI):Prop:=
 ∀(M:List (Addr×Obj)) (s:Shared) (L:St) (H:Hp) (R:It->Hp->Prop),Inv X M L H s->Z L H R ->
  wpAny (model X.prog X.w) X.A (eval iter X.env) (λv f=>wpAny (model X.prog X.w) X.A (pyIter v) (K5 X M L tg R) X.xe f) X.xe s
theorem pV(j:s.heap.get? it=some o)(U:o.cls=.type n)(W:o.data=.fields vs)
  (l:["enumerate","zip","dict_itemiterator","dict_reverseitemiterator","odict_iterator","itertools.zip_longest","itertools.pairwise"].contains n=false) (X:Q () s):wpAny M A (letOwnedTupleGo tg (.ref it) u) Q E s:=by
 unfold letOwnedTupleGo;cases tg<;>first
  |exact acv X
  | (cases u<;>first
    |exact acv X
    | (refine acs (wpAny_load j ?_)
       rw[U,W];show wpAny M A (if (["enumerate","zip","dict_itemiterator","dict_reverseitemiterator","odict_iterator","itertools.zip_longest","itertools.pairwise"].contains n&&vs[0]?==some (rawInt _))=true then _ else _) Q E s;rw[if_neg (by intro h;rw[l,Bool.false_and]at h;cases h)];exact acv X))
def Jp(K:Waa)(a:Addr):It:=
 ⟨λi H=>∃Y x,SqL K H a Y/\Y[i]?=some x,λi H x l=>l=H/\∀Y,SqL K H a Y->Y[i]?=some x,λi H=>∃Y,SqL K H a Y/\Y.length<=i⟩
def Jq(K:Waa)(a:Addr):It:=
 ⟨λi H=>∃Y x,SqT K H a Y/\Y[i]?=some x,λi H x l=>l=H/\∀Y,SqT K H a Y->Y[i]?=some x,λi H=>∃Y,SqT K H a Y/\Y.length<=i⟩
def IL(lo:Int)(n:Nat):It:=⟨λi _=>i<n,λi H x l=>l=H/\x=.int (lo+i),λi _=>n<=i⟩
theorem sr{K:Waa}(a it:Addr):Turn P w K tg (Jp K a) [it] it (λi h=>h.IsListIter it a i) where
 mem:=by simp
 obj:=λi h J b S=>by
  have e:b=it:=by grind
  subst e;obtain⟨o,e,c,d⟩:=J
  grind
 keep:=λi h C J k=>J.at λo e=>k it (by simp) o e
 item:=by intro X q Q T U i M s L H E I y J N;subst q Q T;obtain⟨Y,x,A,F⟩:=N;obtain⟨D,O,p,v⟩:=I.list A;obtain⟨u,hu,ru⟩:=O.get F;obtain⟨z,r,W,g,Z,l⟩:=y it (by simp);refine wpAny_pyNext_list_item J p.isList (by simpa using hu) λC n sb=>?_;have B:Inv X M L H { s with heap:=C }:=I.turned (λb o S e=>(sb.2 b S).trans e) z r g Z l;obtain⟨o,e,c,d⟩:=id n;exact⟨u,rfl,pV e c d (by rfl) ⟨x,H,B,ru,⟨rfl,λj m=>by rw[I.n8 m A];omega⟩,n,λb S=>(y b S).1⟩⟩
 done:=by
  intro X q Q T U i M s L H E I y J N;subst q Q T;obtain⟨Y,A,F⟩:=N;obtain⟨D,O,p,v⟩:=I.list A;obtain⟨z,r,W,g,Z,l⟩:=y it (by simp);have t:=O.length;exact wpAny_pyNext_list_end (I.ok.hd U) J p.isList (by grind) λC f=>⟨rfl,I.turned (λb o S e=>f b o S e) z r g Z l⟩
 self:=λ_ _ _ _ _ J h=>wpAny_pyIter_listiter J h
theorem nV{K:Waa}(a it:Addr):Turn P w K tg (Jq K a) [it] it (λi h=>h.IsTupleIter it a i) where
 mem:=by simp
 obj:=λi h J b S=>by
  have e:b=it:=by grind
  subst e;obtain⟨o,e,c,d⟩:=J
  grind
 keep:=λi h C J k=>J.at λo e=>k it (by simp) o e
 item:=by intro X q Q T U i M s L H E I y J N;subst q Q T;obtain⟨Y,x,A,F⟩:=N;obtain⟨D,O,p,v⟩:=I.tuple A;obtain⟨u,hu,ru⟩:=O.get F;obtain⟨z,r,W,g,Z,l⟩:=y it (by simp);refine wpAny_pyNext_tuple_item J (p) (by simpa using hu) λC n sb=>?_;have B:Inv X M L H { s with heap:=C }:=I.turned (λb o S e=>(sb.2 b S).trans e) z r g Z l;obtain⟨o,e,c,d⟩:=id n;exact⟨u,rfl,pV e c d (by rfl) ⟨x,H,B,ru,⟨rfl,λj m=>by rw[I.tr m A];lia⟩,n,λb S=>(y b S).1⟩⟩
 done:=by
  intro X q Q T U i M s L H E I y J N;subst q Q T;obtain⟨Y,A,F⟩:=N;obtain⟨D,O,p,v⟩:=I.tuple A;obtain⟨z,r,W,g,Z,l⟩:=y it (by simp);have t:=O.length;exact wpAny_pyNext_tuple_end (I.ok.hd U) J (p) (by grind) λC f=>⟨rfl,I.turned (λb o S e=>f b o S e) z r g Z l⟩
 self:=λ_ _ _ _ _ J h=>wpAny_pyIter_tupleiter J h
theorem nW{K:Waa}(it:Addr)(lo:Int)(n:Nat):Turn P w K tg (IL lo n) [it] it (λi h=>IsRangeIter h it (lo+(i:Nat)*1) ((n:Int)-(i:Nat)) 1) where
 mem:=by simp
 obj:=λi h J b S=>by
  grind
 keep:=λi h C J k=>k it (by simp) _ J
 item:=by intro X q Q T U i M s L H E I y J N;subst q Q T;obtain⟨z,r,d,g,Z,l⟩:=y it (by simp);have W:=Walks.range (prog:=X.prog) (w:=X.w) (I.ok.hd U) it lo 1 n;refine W.item i s _ _ N J λv C f u a D=>?_;obtain⟨t,rfl⟩:=u;have B:Inv X M L H { s with heap:=C,toks:=f }:=I.turned (λb o S e=>D b o (by grind) e) z r g Z l;refine⟨_,rfl,pV a rfl rfl (by rfl) ⟨.int (lo+i),H,B,⟨t,?_⟩,⟨rfl,rfl⟩,a,λb S=>(y b S).1⟩⟩;simp
 done:=by
  intro X q Q T U i M s L H E I y J N;subst q Q T;obtain⟨z,r,d,g,Z,l⟩:=y it (by simp);exact wpAny_pyNext_range_end (I.ok.hd U) J (by have:n<=i:=N;lia) λC x=>⟨rfl,I.turned (λb o S e=>x b o S e) z r g Z l⟩
 self:=λ_ _ _ _ _ J h=>wpAny_pyIter_rangeiter J h
end
section
def F4(K:Waa)(T:TE):TI:=λL H R=>T L H λx P=>∃a,x=.ref a/\(∃Y,SqL K P a Y)/\R (Jp K a) P
def Jr(K:Waa)(T:TE):TI:=λL H R=>T L H λx P=>∃a,x=.ref a/\(∃Y,SqT K P a Y)/\R (Jq K a) P
theorem yQ{l:Expr}{T:TE}(t:PE X l T):PI X tg l (F4 X.K T):=by
 intro M s L H R I h;refine thn (t M s L H _ I h) λv f m=>?_;obtain⟨x,P,B,w,C⟩:=m;obtain⟨a,e,⟨Y,A⟩,q⟩:=C;subst e;cases w;obtain⟨D,O,p,d⟩:=B.list A;refine acX p.isList ?_;refine⟨f.heap.objs.size,[f.heap.objs.size],_,_,P,rfl,B.kept (t':=f.toks) λb o e=>acw _ e,sr a _,⟨_,acx _ rfl,rfl,rfl⟩,λb S=>?_,q⟩;have e:b=f.heap.objs.size:=by simpa using S
 subst e;exact B.rd (aac _) (B.hok.fresh (aac _))
theorem CH{l:Expr}{T:TE}(t:PE X l T):PI X tg l (Jr X.K T):=by
 intro M s L H R I h;refine thn (t M s L H _ I h) λv f m=>?_;obtain⟨x,P,B,w,C⟩:=m;obtain⟨a,e,⟨Y,A⟩,q⟩:=C;subst e;cases w;obtain⟨D,O,p,d⟩:=B.tuple A;refine wpAny_pyIter_tuple (p) ?_;refine⟨f.heap.objs.size,[f.heap.objs.size],_,_,P,rfl,B.kept (t':=f.toks) λb o e=>acw _ e,nV a _,⟨_,acx _ rfl,rfl,rfl⟩,λb S=>?_,q⟩;have e:b=f.heap.objs.size:=by grind
 subst e;exact B.rd (aac _) (B.hok.fresh (aac _))
theorem uP{R:It->Hp->Prop}{lo r:Int}{t u v:Tok}{f:Nat}(I:Inv X pins σ H s)(O:-(2^62)<=lo)(Z:lo<2^62)(M:-(2^62)<=r)(F:r<2^62)
  (q:R (IL lo (r-lo).toNat) H):wpAny (model X.prog X.w) X.A (pyIter (.ref s.heap.objs.size)) (K5 X pins σ tg R) E { s with heap:=s.heap.push { cls:=.type "range",data:=.fields #[.int lo t,.int r u,.int 1 v] },toks:=f }:=by
 refine wpAny_pyIter_range (IsRange.new ..) (small_one O Z M F) ?_;have B:Inv X pins σ H { s with heap:=s.heap.push { cls:=.type "range",data:=.fields #[.int lo t,.int r u,.int 1 v] },toks:=f }:=I.kept λb o e=>acw _ e;refine⟨(s.heap.push { cls:=.type "range",data:=.fields #[.int lo t,.int r u,.int 1 v] }).objs.size,[(s.heap.push { cls:=.type "range",data:=.fields #[.int lo t,.int r u,.int 1 v] }).objs.size],_,_,H,rfl,
  B.kept λb o e=>acw _ e,nW _ lo (r-lo).toNat,?_,λb S=>?_,q⟩
 ·have J:lo+((0:Nat))*1=lo:=by simp
  have Y:(((r-lo).toNat))-((0:Nat))=Builtin.Range.rangeSize lo r 1:=by rw[rangeSize_one];grind
  rw[J,Y];exact acx _ rfl
 ·have e:b=(s.heap.push { cls:=.type "range",data:=.fields #[.int lo t,.int r u,.int 1 v] }).objs.size:=by grind
  subst e;exact B.rd (aac _) (B.hok.fresh (aac _))
def F5(Z:TA):TI:=λL H R=>Z L H λc P=>∃j:Int,c=[.int j]/\-(2^62)<=j/\j<2^62/\R (IL 0 j.toNat) P
theorem su{a:Expr}{Z:TA}{p pos:Pos} (N:Gl X "range") (Y:X.mg "range"=none) (i:PA X [a] Z) (g:starEach [a] X.env=[(false,eval a X.env)]:=by rfl):PI X tg (.Call (.Name "range" p) [a] [] pos) (F5 Z):=by
 intro M s L H R I h;refine Call_ (fB I N Y boot_range (abf (thn (i pos M s L H _ I h) λy f m=>?_) g rfl));obtain⟨c,P,B,w,C⟩:=m;obtain⟨j,e,C,b,q⟩:=C;subst e;cases w with
 |cons r A=>cases A;obtain⟨t,rfl⟩:=r;exact call_range_1 (uP B (by lia) (by lia) C b (by grind))
def Js(Z:TI)(g:TG)(T:TS):TS:=λD L H=>Z L H λJ P=>∃W:Nat->Nat->St->Hp->Prop,(∃m,W 0 m L P)/\∀i m L H,W i m L H ->
 (J.stop i H/\D.nx L H)\/(J.go i H/\∃N:St->Hp->Prop,(∀z l,N z l->∃y,y<m/\W (i+1) y z l)/\∀x l,J.yld i H x l->g x L l λk t=>T { D with nx:=N,ct:=N,bk:=D.nx } k t)
def pinsAt(k:List Addr)(h:Heap):List (Addr×Obj):=k.filterMap λb=>(h.get? b).map λo=>(b,o)
theorem fD(S:b∈fp)(e:h.get? b=some o):(b,o)∈pinsAt fp h:=List.mem_filterMap.mpr ⟨b,S,by rw[e];rfl⟩
theorem sv(C:p∈pinsAt fp h):p.1∈fp/\h.get? p.1=some p.2:=by
 obtain⟨b,S,e⟩:=List.mem_filterMap.mp C;cases q:h.get? b with
 |none=>grind
 |some o=>
  grind
theorem Inv.pinned(I:Inv X pins σ H s)(y:∀b∈fp,FpOk X pins H b)(j:∀b∈fp,∃o,s.heap.get? b=some o/\∀v,o.data≠.cell v):Inv X (pins++pinsAt fp s.heap) σ H s:=
 I.r3 λp C=>(aak.mp C).elim (λz=>I.pin p (aad _ z)) λz=>by
  obtain⟨S,e⟩:=sv z;obtain⟨q,r,W,_⟩:=y p.1 S
  grind
theorem Inv.et(I:Inv X (pins++pl) σ H s):Inv X pins σ H s:=I.r3 λp C=>I.pin p (aad _ (aaf _ C))
theorem CI{B:Expr}{a1:List Stmt}{pos:Pos}(hp:PassesOwn (model X.prog X.w) X.A X.env X.xe)(U:X.calm=true)(hi:PI X tg B wi)(hg:PG X tg g)(S:PSs X a1 tb)
  (hs:∀x,foldedSetIterable B X.env x=pure x:=by intro _;rfl):PS X (.For tg B a1 [] pos) (Js wi g tb):=by
 intro M s σ H D I h;refine wpAny_For (thn (hi M s σ H _ I h) λv s1 h1=>thn h1 λa9 s2 h2=>?_) hs;obtain⟨it,k,tn,J,H2,e,I2,T,a6,f2,W,⟨m0,w0⟩,a4⟩:=h2;subst e;have t:∀{l:Hp},(∀b∈k,l b=none)->∀b∈k,FpOk X M l b:=λhn b S=>⟨hn b S,(f2 b S).2⟩
 refine codeAny_forLoop_any (λn s'=>∃i z l,Inv X M z l s'/\tn i s'.heap/\(∀b∈k,l b=none)/\W i n z l) ?_ m0 ⟨0,σ,H2,I2,a6,λb S=>(f2 b S).1,w0⟩;rintro n O ⟨i,j,q,I3,a2,C,w3⟩;rcases a4 i n j q w3 with ⟨L,qn⟩|⟨go,N,hN,a3⟩
 ·refine acE hp (thn (T.done X rfl rfl rfl U i M O j q X.xe I3 (t C) a2 L) λr c hZ=>?_);obtain⟨hr,I4⟩:=hZ;subst hr;exact acW ⟨j,q,I4,qn⟩
 ·refine acE hp (thn (T.item X rfl rfl rfl U i M O j q X.xe I3 (t C) a2 go) λr c hZ=>?_);obtain⟨u,hr,h4⟩:=hZ;subst hr;refine acE hp (thn h4 λ_ s5 hZ=>?_);obtain⟨x,H5,I5,r5,y5,a,a7⟩:=hZ;have a8:=I5.pinned (t a7) (T.obj _ _ a);refine acE hp (thn (hg _ s5 j H5 x u _ a8 r5 (a3 x H5 y5)) λ_ s6 hZ=>?_);obtain⟨a5,H6,I6,q6⟩:=hZ;refine acE hp (thn (S _ s6 a5 H6 _ I6 q6) λf s7 F=>?_);have a0:∀{Q:St}{p:Hp},Inv X (M++pinsAt k s5.heap) Q p s7->N Q p->∃m,m<n/\∃i z l,Inv X M z l s7/\tn i s7.heap/\(∀b∈k,l b=none)/\W i m z l:=λ{Q p} P Y=>by obtain⟨y,hm,Z⟩:=hN Q p Y;refine⟨y,hm,i+1,Q,p,P.et,T.keep _ _ _ a λb S o e=>(P.pin (b,o) (aad _ (aad _ (fD S e)))).1,λb S=>?_,Z⟩;obtain⟨o,e,d⟩:=T.obj _ _ a b S;exact(P.pin (b,o) (aad _ (aad _ (fD S e)))).2.1
  cases f with
  |next=>obtain⟨Q,p,P,Y⟩:=F;exact a0 P Y
  |cont=>obtain⟨Q,p,P,Y⟩:=F;exact a0 P Y
  |brk=>obtain⟨Q,p,P,F⟩:=F;exact⟨Q,p,P.et,F⟩
  |ret v=>obtain⟨x7,Q,p,P,r7,F⟩:=F;exact⟨x7,Q,p,P.et,r7,F⟩
end
section
abbrev R2:=V->V->Hp->VK->Prop
def OpR(X:Cx)(f:Value->Value->Sem Value)(r:R2):Prop:=
 ∀(M:List (Addr×Obj)) (s:Shared) (L:St) (H:Hp) (x y:V) (v u:Value) (Q:VK),Inv X M L H s->RelV x v->RelV y u->r x y H Q ->
  wpAny (model X.prog X.w) X.A (f v u) (EP X M L Q) X.xe s
def Jt(X:Cx)(f:Value->Sem Value)(r:V->Hp->VK->Prop):Prop:=
 ∀(M:List (Addr×Obj)) (s:Shared) (L:St) (H:Hp) (x:V) (v:Value) (Q:VK),Inv X M L H s->RelV x v->r x H Q ->
  wpAny (model X.prog X.w) X.A (f v) (EP X M L Q) X.xe s
def CallR(X:Cx)(f:Value)(r:List V->Hp->VK->Prop):Prop:=
 ∀(M:List (Addr×Obj)) (s:Shared) (L:St) (H:Hp) (Y:List V) (y:List Value) (Q:VK),Inv X M L H s->Vals Y y->r Y H Q ->
  wpAny (model X.prog X.w) X.A (call f y) (EP X M L Q) X.xe s
def Ju(X:Cx)(r:V->Hp->(Bool->Hp->Prop)->Prop):Prop:=
 ∀(M:List (Addr×Obj)) (s:Shared) (L:St) (H:Hp) (x:V) (v:Value) (Q:Bool->Hp->Prop),Inv X M L H s->RelV x v->r x H Q ->
  wpAny (model X.prog X.w) X.A (truthy v) (TP X M L Q) X.xe s
def CJ(r:R2)(Z T:TE):TE:=λL H Q=>Z L H λx P=>T L P λy N=>r x y N Q
def LL(r:V->Hp->VK->Prop)(Z:TE):TE:=λL H Q=>Z L H λx P=>r x P Q
def rI(C:Int->Int->Prop)(g:Int->Int->V):R2:=λx y H Q=>∃i j,x=.int i/\y=.int j/\C i j/\Q (g i j) H
def yD(g:Int->Int->V):R2:=λx y H Q=>∃i j,x=.int i/\y=.int j/\Q (g i j) H
def rU(g:Int->V):V->Hp->VK->Prop:=λx H Q=>∃i,x=.int i/\Q (g i) H
theorem CK(j:PE X a ta)(S:PE X b tb){M:List (Addr×Obj)}{s:Shared}{R:V->V->Hp->Prop}(I:Inv X M σ H s)
  (h:ta σ H λx P=>tb σ P λy N=>R x y N) {f:Value->Value->Sem Value}
  (Y:∀v u Z x y N,Inv X M σ N Z->RelV x v->RelV y u->R x y N->wpAny (model X.prog X.w) X.A (f v u) Q X.xe Z):
  wpAny (model X.prog X.w) X.A (eval a X.env) (λv J=>wpAny (model X.prog X.w) X.A (eval b X.env) (λu W=>wpAny (model X.prog X.w) X.A (f v u) Q X.xe W) X.xe J) X.xe s:=by
 refine thn (j M s σ H _ I h) λv i m=>?_;obtain⟨x,P,B,z,C⟩:=m;refine thn (S M i σ P _ B C) λu Z m=>?_;obtain⟨y,N,t,p,d⟩:=m;exact Y v u Z x y N t z p d
theorem uQ(j:OpR X (binaryOp op) r)(i:PE X a ta)(S:PE X b tb):PE X (.BinOp a op b pos) (CJ r ta tb):=by intro M s L H Q I h;exact wpAny_BinOp (CK i S I h λv u Z x y N t J T q=>j M Z L N x y v u Q t J T q)
theorem Bi{F:UnaryOp}(j:Jt X (unaryOp F) r)(i:PE X a ta):PE X (.UnaryOp F a pos) (LL r ta):=by intro M s L H Q I h;exact UnaryOp_ (thn (i M s L H _ I h) λv f ⟨x,P,B,w,C⟩=>j M f L P x v Q B w C)
theorem IM{f:Value->Value->Sem Value}{g:Int->Int->Int}
  (rule:∀(i j:Int) (t u:Tok) (s:Shared) (Q:Value->Shared->Prop) (E:Value->Shared->Prop),C i j->Q (.int (g i j) s.toks) { s with toks:=s.toks+1 }->wpAny (model X.prog X.w) X.A (f (.int i t) (.int j u)) Q E s):
  OpR X f (rI C λi j=>.int (g i j)):=by
 intro M s L H x y v u Q I J T h;obtain⟨i,j,rfl,rfl,U,q⟩:=h;obtain⟨t,rfl⟩:=J;obtain⟨z,rfl⟩:=T;exact rule i j t z s _ _ U ⟨.int (g i j),H,I.tok _,⟨_,rfl⟩,q⟩
theorem F6{f:Value->Value->Sem Value}{g:Int->Int->Int}
  (rule:∀(i j:Int) (t u:Tok) (s:Shared) (Q:Value->Shared->Prop) (E:Value->Shared->Prop),Q (.int (g i j) s.toks) { s with toks:=s.toks+1 }->wpAny (model X.prog X.w) X.A (f (.int i t) (.int j u)) Q E s):
  OpR X f (yD λi j=>.int (g i j)):=by
 intro M s L H x y v u Q I J T h;obtain⟨i,j,rfl,rfl,q⟩:=h;obtain⟨t,rfl⟩:=J;obtain⟨z,rfl⟩:=T;exact rule i j t z s _ _ ⟨.int (g i j),H,I.tok _,⟨_,rfl⟩,q⟩
theorem yR{g:Int->Int->Bool}
  (rule:∀(i j:Int) (t u:Tok) (s:Shared) (Q:Value->Shared->Prop) (E:Value->Shared->Prop),Q (.bool (g i j)) s->wpAny (model X.prog X.w) X.A (f (.int i t) (.int j u)) Q E s):
  OpR X f (yD λi j=>.bl (g i j)):=by
 intro M s L H x y v u Q I J T h;obtain⟨i,j,rfl,rfl,q⟩:=h;obtain⟨t,rfl⟩:=J;obtain⟨z,rfl⟩:=T;exact rule i j t z s _ _ ⟨.bl (g i j),H,I,rfl,q⟩
def Jv(i j:Int):Prop:=0<j/\j<1073741824
def Jw(i j:Int):Prop:=0<=j/\j<=1000000/\i.natAbs<2^64
def CMul(i j:Int):Prop:=(-(2^64)<i/\i<2^64)\/(-(2^64)<j/\j<2^64)
theorem CMul.ok{i j:Int}(h:CMul i j):IntMulOk i j:=by
 rcases h with ⟨O,Z⟩|⟨O,Z⟩
 ·exact .of_left (intBits_le_64 O Z)
 ·exact .of_right (intBits_le_64 O Z)
theorem CL:OpR X (binaryOp .Add) (yD λi j=>.int (i+j)):=F6 λ_ _ _ _ _ _ _ q=>add_int q
theorem CM:OpR X (binaryOp .Sub) (yD λi j=>.int (i-j)):=F6 λ_ _ _ _ _ _ _ q=>sub_int q
theorem CN:OpR X (binaryOp .Mult) (rI CMul λi j=>.int (i*j)):=IM λ_ _ _ _ _ _ _ U q=>mul_int q U.ok
theorem yS:OpR X (binaryOp .FloorDiv) (rI Jv λi j=>.int (i/j)):=IM λi j _ _ _ _ _ U q=>by have O:=U.1;have Z:=U.2;exact floordiv_int (by omega) (by grind) (.inl (ab7 (by omega)))
theorem CO:OpR X (binaryOp .Mod) (rI (λ_ j=>0<j) λi j=>.int (i%j)):=IM λi j _ _ _ _ _ U q=>by have O:=U;exact mod_int' (by lia) (by grind)
theorem CP:OpR X (binaryOp .Pow) (rI Jw λi j=>.int (i^j.toNat)):=IM λ_ _ _ _ _ _ _ U q=>pow_int_small U.1 U.2.1 U.2.2 q
theorem LM{f:Value->Sem Value}{g:Int->Int}
  (rule:∀(i:Int) (t:Tok) (s:Shared) (Q:Value->Shared->Prop) (E:Value->Shared->Prop),Q (.int (g i) s.toks) { s with toks:=s.toks+1 }->wpAny (model X.prog X.w) X.A (f (.int i t)) Q E s):
  Jt X f (rU λi=>.int (g i)):=by
 intro M s L H x v Q I J h;obtain⟨i,rfl,q⟩:=h;obtain⟨t,rfl⟩:=J;exact rule i t s _ _ ⟨.int (g i),H,I.tok _,⟨_,rfl⟩,q⟩
theorem uR:Jt X (unaryOp .USub) (rU λi=>.int (-i)):=LM λ_ _ _ _ _ q=>neg_int q
noncomputable def CQ:V->V->Bool
 |.non,.non=>true|.non,.int _=>true|.int _,.non=>true|.non,.bl _=>true|.bl _,.non=>true|.non,.str _=>true|.str _,.non=>true
 |.int _,.int _=>true|.bl _,.bl _=>true|.str _,.str _=>true|.byt _,.byt _=>true
 |.int _,.str _=>true|.str _,.int _=>true|.bl _,.str _=>true|.str _,.bl _=>true
 |_,_=>false
def rEq:R2:=λx y H Q=>CQ x y=true/\Q (.bl (decide (x=y))) H
def rNe:R2:=λx y H Q=>CQ x y=true/\Q (.bl (!decide (x=y))) H
theorem pW:decide (V.int i=V.int j)=(i==j):=by rw[abn];simp
theorem uS:decide (V.bl i=V.bl j)=(i==j):=by rw[abn];simp
theorem pX:decide (V.str i=V.str j)=(i==j):=by rw[abn];simp
theorem pY:decide (V.byt i=V.byt j)=(i.toList==j.toList):=by rw[abn];simp
theorem aG(I:Inv X pins σ H s)(q:Q (.bl k) H)(e:k=k'):EP X pins σ Q (.bool k') s:=by subst e;exact⟨.bl k,H,I,rfl,q⟩
theorem op_eq:OpR X (compareOp .Eq) rEq:=by
 intro M s L H x y v u Q I J T h;obtain⟨g,q⟩:=h;cases x with
 |non=>
  cases J;cases y with
  |non=>cases T;exact PySem.EqNone.eq_none_none (aG I q (by simp))
  |bl j=>cases T;exact PySem.EqNone.eq_none_bool (aG I q (by simp))
  |int j=>obtain⟨z,rfl⟩:=T;exact PySem.EqNone.eq_none_int (aG I q (by simp))
  |str j=>obtain⟨z,rfl⟩:=T;exact PySem.EqNone.eq_none_str (aG I q (by simp))
  |_=>trivial
 |bl i=>
  cases J;cases y with
  |non=>cases T;exact PySem.EqNone.eq_bool_none (aG I q (by simp))
  |bl j=>cases T;exact eq_bool (aG I q uS)
  |str j=>obtain⟨z,rfl⟩:=T;exact PySem.EqMixed.eq_bool_str (aG I q (by simp))
  |_=>trivial
 |int i=>
  obtain⟨t,rfl⟩:=J;cases y with
  |non=>cases T;exact PySem.EqNone.eq_int_none (aG I q (by simp))
  |int j=>obtain⟨z,rfl⟩:=T;exact eq_int (aG I q pW)
  |str j=>obtain⟨z,rfl⟩:=T;exact PySem.EqMixed.eq_int_str (aG I q (by simp))
  |_=>trivial
 |str i=>
  obtain⟨t,rfl⟩:=J;cases y with
  |non=>cases T;exact PySem.EqNone.eq_str_none (aG I q (by simp))
  |bl j=>cases T;exact PySem.EqMixed.eq_str_bool (aG I q (by simp))
  |int j=>obtain⟨z,rfl⟩:=T;exact PySem.EqMixed.eq_str_int (aG I q (by simp))
  |str j=>obtain⟨z,rfl⟩:=T;exact eq_str (aG I q pX)
  |_=>trivial
 |byt i=>
  obtain⟨t,rfl⟩:=J;cases y with
  |byt j=>obtain⟨z,rfl⟩:=T;exact PySem.W.eq_bytes (aG I q pY)
  |_=>trivial
 |_=>trivial
theorem op_ne:OpR X (compareOp .NotEq) rNe:=by
 intro M s L H x y v u Q I J T h;obtain⟨g,q⟩:=h;cases x with
 |non=>
  cases J;cases y with
  |non=>cases T;exact PySem.EqNone.ne_none_none (aG I q (by simp))
  |bl j=>cases T;exact PySem.EqNone.ne_none_bool (aG I q (by simp))
  |int j=>obtain⟨z,rfl⟩:=T;exact PySem.EqNone.ne_none_int (aG I q (by simp))
  |str j=>obtain⟨z,rfl⟩:=T;exact PySem.EqNone.ne_none_str (aG I q (by simp))
  |_=>trivial
 |bl i=>
  cases J;cases y with
  |non=>cases T;exact PySem.EqNone.ne_bool_none (aG I q (by simp))
  |bl j=>cases T;exact ne_bool (aG I q (congrArg not uS))
  |str j=>obtain⟨z,rfl⟩:=T;exact PySem.EqMixed.ne_bool_str (aG I q (by simp))
  |_=>trivial
 |int i=>
  obtain⟨t,rfl⟩:=J;cases y with
  |non=>cases T;exact PySem.EqNone.ne_int_none (aG I q (by simp))
  |int j=>obtain⟨z,rfl⟩:=T;exact ne_int (aG I q (congrArg not pW))
  |str j=>obtain⟨z,rfl⟩:=T;exact PySem.EqMixed.ne_int_str (aG I q (by simp))
  |_=>trivial
 |str i=>
  obtain⟨t,rfl⟩:=J;cases y with
  |non=>cases T;exact PySem.EqNone.ne_str_none (aG I q (by simp))
  |bl j=>cases T;exact PySem.EqMixed.ne_str_bool (aG I q (by simp))
  |int j=>obtain⟨z,rfl⟩:=T;exact PySem.EqMixed.ne_str_int (aG I q (by simp))
  |str j=>obtain⟨z,rfl⟩:=T;exact ne_str (aG I q (congrArg not pX))
  |_=>trivial
 |byt i=>
  obtain⟨t,rfl⟩:=J;cases y with
  |byt j=>obtain⟨z,rfl⟩:=T;exact PySem.W.ne_bytes (aG I q (congrArg not pY))
  |_=>trivial
 |_=>trivial
theorem F7:OpR X (compareOp .Lt) (yD λi j=>.bl (decide (i<j))):=yR λ_ _ _ _ _ _ _ q=>lt_int q
theorem F8:OpR X (compareOp .LtE) (yD λi j=>.bl (decide (i<=j))):=yR λ_ _ _ _ _ _ _ q=>le_int q
theorem F9:OpR X (compareOp .Gt) (yD λi j=>.bl (decide (j<i))):=yR λ_ _ _ _ _ _ _ q=>gt_int q
theorem Ga:OpR X (compareOp .GtE) (yD λi j=>.bl (decide (j<=i))):=yR λ_ _ _ _ _ _ _ q=>ge_int q
theorem OpR.or(h:OpR X f r)(h':OpR X f r'):OpR X f (λx y H Q=>r x y H Q\/r' x y H Q):=by
 intro M s L H x y v u Q I J T q;rcases q with q|q
 ·exact h M s L H x y v u Q I J T q
 ·exact h' M s L H x y v u Q I J T q
theorem pZ(j:OpR X (compareOp op) r)(i:PE X a ta)(S:PE X b tb)(Y:behindInMarks op b=false):PE X (.Compare a [op] [b] pos) (CJ r ta tb):=by intro M s L H Q I h;exact wpAny_Compare1 (CK i S I h λv u Z x y N t J T q=>j M Z L N x y v u Q t J T q) Y
def uT(t:TE):TT:=λL H Q=>t L H λx l=>∃k,x=.bl k/\Q k l
theorem qa{F:CmpOp}{r:R2}(j:OpR X (compareOp F) r)(i:PE X a ta)(S:PE X b tb)(Y:behindInMarks F b=false):PT X (.Compare a [F] [b] pos) (uT (CJ r ta tb)):=by
 intro M s L H Q I h;refine wpAny_isTrue_Compare1 (thn (i M s L H _ I h) λv f ⟨x,P,B,w,C⟩=>thn (S M f L P _ B C) λu Z ⟨y,N,t,p,W⟩=>
  thn (j M Z L N x y v u _ t w p W) λc O ⟨z,q,d,o,k,e,g⟩=>?_) Y
 subst e;cases o;exact acA ⟨q,d,g⟩
def nY(r f:R2)(Z T tc:TE):TE:=λL H Q=>Z L H λx P=>T L P λy N=>r x y N λz q=>∃k,z=.bl k /\
 (if k=true then tc L q λD w=>f y D w Q else Q (.bl false) q)
theorem uU{F J:CmpOp}{r f:R2}(j:OpR X (compareOp F) r)(T:OpR X (compareOp J) f)(ha:PE X a ta)(S:PE X b tb)(U:PE X c tc)
  (Y:lastMarks [F,J] [b,c]=false:=by with_unfolding_all rfl):PE X (.Compare a [F,J] [b,c] pos) (nY r f ta tb tc):=by
 intro M s L H Q I h;refine Compare_chain (thn (ha M s L H _ I h) λv s1 ⟨x,P,B,w,C⟩=>chain_link (thn (S M s1 L P _ B C) λu Z ⟨y,N,t,p,m⟩=>
  thn (j M Z L N x y v u _ t w p m) λd O ⟨z,q,i,o,k,e,g⟩=>?_)) Y
 subst e;cases o;refine acA ?_;cases k with
 |false=>exact ite_ff ⟨.bl false,q,i,rfl,g⟩
 |true=>exact ite_tt (chain_last (thn (U M O L q _ i g) λD s4 ⟨W,H4,n,l,A⟩=>T M s4 L H4 y W u D Q n p l A))
theorem uV{F J:CmpOp}{r f:R2}(j:OpR X (compareOp F) r)(T:OpR X (compareOp J) f)(ha:PE X a ta)(S:PE X b tb)(U:PE X c tc)
  (Y:lastMarks [F,J] [b,c]=false:=by with_unfolding_all rfl):PT X (.Compare a [F,J] [b,c] pos) (uT (nY r f ta tb tc)):=by
 intro M s L H Q I h;refine isTrue_chain (thn (ha M s L H _ I h) λv s1 ⟨x,P,I1,r1,C⟩=>test_link (thn (S M s1 L P _ I1 C) λu Z ⟨y,N,t,p,q2⟩=>
  thn (j M Z L N x y v u _ t r1 p q2) λd O ⟨z,q,I3,o,k,e,g⟩=>?_)) Y
 subst e;cases o;refine acA ?_;cases k with
 |false=>obtain⟨k',e',D⟩:=g;cases e';exact ite_ff ⟨q,I3,D⟩
 |true=>refine ite_tt (test_last (thn (U M O L q _ I3 g) λw' s4 ⟨W,H4,n,l,q4⟩=>thn (T M s4 L H4 y W u w' _ n p l q4) λd' i m=>?_));obtain⟨z2,H5,I5,w,k2,B,A⟩:=m;subst B;cases w;exact acA ⟨H5,I5,A⟩
def CS(K:Waa)(x:V)(H:Hp)(k:Bool):Prop:=
 match x with
 |.non=>k=false
 |.bl b=>k=b
 |.int i=>k=(i !=0)
 |.str y=>y.length<=sizeLine/\k=((y.length:Int) !=0)
 |.byt y=>y.size<=sizeLine/\k=((y.size:Int) !=0)
 |.ref p=>(∃Y,SqL K H p Y/\k=!Y.isEmpty)\/(∃Y,SqT K H p Y/\k=!Y.isEmpty)\/∃N,H p=some (.dK N)/\k=!N.isEmpty
 |_=>False
theorem nZ{A:Type}{N:List (A×V)}{vs:List (A×Value)}(r:KV N vs):(!vs.isEmpty)=!N.isEmpty:=by cases r<;>rfl
theorem iC{xs:List V}{D:List Value}(r:Vals xs D):(!D.toArray.isEmpty)=!xs.isEmpty:=by cases r<;>simp
theorem line63:(sizeLine:Nat)<2^63:=by decide
theorem CT:Ju X (λx H Q=>∃k,CS X.K x H k/\Q k H):=by
 intro M s U H x v Q I J h;obtain⟨k,e,q⟩:=h;have j:=line63;have C:=sizeLine_eq;cases x with
 |non=>cases J;have L:=e;subst L;exact truthy_none ⟨H,I,q⟩
 |bl b=>cases J;have L:=e;subst L;exact acA ⟨H,I,q⟩
 |int i=>obtain⟨t,rfl⟩:=J;have L:=e;subst L;exact PySem.P.truthy_int ⟨H,I,q⟩
 |str y=>obtain⟨t,rfl⟩:=J;obtain⟨f,L⟩:=e;subst L;exact PySem.P.truthy_str (by lia) ⟨H,I.tok _,q⟩
 |byt y=>obtain⟨t,rfl⟩:=J;obtain⟨f,L⟩:=e;subst L;exact PySem.W.truthy_bytes (by lia) ⟨H,I.tok _,q⟩
 |ref p=>
  cases J;have L:=e;rcases L with ⟨Y,F,L⟩|⟨Y,F,L⟩|⟨N,F,L⟩
  ·subst L;obtain⟨D,r,a,d⟩:=I.list F;have S:=r.length;exact wpAny_truthy_list a.isList (by grind) ⟨H,I.tok _,by rw[iC r];exact q⟩
  ·subst L;obtain⟨D,r,a,d⟩:=I.tuple F;have S:=r.length;exact truthy_tuple a (by grind) ⟨H,I.tok _,by rw[iC r];exact q⟩
  ·subst L;obtain⟨d,g,c,r,m⟩:=I.hok p _ F;have S:=acO r;exact wpAny_truthy_dict g m (by lia) ⟨H,I.tok _,by rw[nZ r];exact q⟩
 |_=>trivial
theorem l5(j:PE X a ta)(n:∀W,isTrue a X.env W=(do let v <-W;standAt a.pos;holding [v] (truthy v))):
  PT X a (λσ H Q=>ta σ H λx l=>∃k,CS X.K x l k/\Q k l):=by
 intro M s σ H Q I h;exact isTrue_plain (thn (j M s σ H _ I h) λv f ⟨x,P,B,w,C⟩=>CT M f σ P x v Q B w C) (n _)
theorem vals1(r:Vals [x] us):∃u,us=[u]/\RelV x u:=by
 cases r with
 |cons w p=>cases p;exact⟨_,rfl,w⟩
theorem vals2(r:Vals [x,y] us):∃u D,us=[u,D]/\RelV x u/\RelV y D:=by
 cases r with
 |cons w p=>
  cases p with
  |cons o l=>cases l;exact⟨_,_,rfl,w,o⟩
theorem uX:CallR X (.builtin "abs") (λxs H Q=>∃i,xs=[.int i]/\Q (.int (if i<0 then -i else i)) H):=by
 intro M s L H xs y Q I r h;obtain⟨i,rfl,q⟩:=h;obtain⟨u,rfl,t,rfl⟩:=vals1 r;exact call_abs_int λu f=>⟨.int (if i<0 then -i else i),H,I.tok _,⟨_,rfl⟩,q⟩
theorem sy(U:X.calm=true):CallR X (.builtin "max") (λxs H Q=>∃i j,xs=[.int i,.int j]/\Q (.int (if j>i then j else i)) H):=by
 intro M s L H xs y Q I r h;obtain⟨i,j,rfl,q⟩:=h;obtain⟨u,D,rfl,⟨t,rfl⟩,⟨z,rfl⟩⟩:=vals2 r;refine max_two_ints (I.ok.hd U) λC f k=>⟨_,H,I.kept k,?_,q⟩
 by_cases W:j>i
 ·rw[if_pos W,if_pos W];exact⟨_,rfl⟩
 ·rw[if_neg W,if_neg W];exact⟨_,rfl⟩
theorem sA(U:X.calm=true):CallR X (.builtin "min") (λxs H Q=>∃i j,xs=[.int i,.int j]/\Q (.int (if j<i then j else i)) H):=by
 intro M s L H xs y Q I r h;obtain⟨i,j,rfl,q⟩:=h;obtain⟨u,D,rfl,⟨t,rfl⟩,⟨z,rfl⟩⟩:=vals2 r;refine min_two_ints (I.ok.hd U) λC f k=>⟨_,H,I.kept k,?_,q⟩
 by_cases W:j<i
 ·rw[if_pos W,if_pos W];exact⟨_,rfl⟩
 ·rw[if_neg W,if_neg W];exact⟨_,rfl⟩
theorem sC:CallR X (.type "int") (λxs H Q=>(∃i,xs=[.int i]/\Q (.int i) H)\/∃k,xs=[.bl k]/\Q (.int (if k then 1 else 0)) H):=by
 intro M s L H xs y Q I r h;rcases h with ⟨i,rfl,q⟩|⟨k,rfl,q⟩
 ·obtain⟨u,rfl,t,rfl⟩:=vals1 r;exact call_int_int ⟨.int i,H,I,⟨_,rfl⟩,q⟩
 ·obtain⟨u,rfl,w⟩:=vals1 r;cases w;exact call_int_bool ⟨.int (if k then 1 else 0),H,I.tok _,⟨_,rfl⟩,q⟩
def Gb(K:Waa)(x:V)(H:Hp)(n:Nat):Prop:=
 match x with
 |.str y=>y.length<=sizeLine/\n=y.length
 |.byt y=>y.size<=sizeLine/\n=y.size
 |.ref p=>(∃Y,SqL K H p Y/\n=Y.length)\/∃Y,SqT K H p Y/\n=Y.length
 |_=>False
theorem l6:CallR X (.builtin "len") (λxs H Q=>∃x n,xs=[x]/\Gb X.K x H n/\Q (.int n) H):=by
 intro M s U H xs k Q I r h;obtain⟨x,n,rfl,e,q⟩:=h;obtain⟨u,rfl,J⟩:=vals1 r;have j:=line63;have g:=sizeLine_eq;cases x with
 |str y=>obtain⟨t,rfl⟩:=J;obtain⟨m,L⟩:=e;subst L;exact len_str (by lia) ⟨.int _,H,I.tok _,⟨_,rfl⟩,q⟩
 |byt y=>obtain⟨t,rfl⟩:=J;obtain⟨m,L⟩:=e;subst L;exact PySem.W.len_bytes (by lia) ⟨.int _,H,I.tok _,⟨_,rfl⟩,q⟩
 |ref p=>
  cases J;have L:=e;rcases L with ⟨xs,F,L⟩|⟨xs,F,L⟩
  ·subst L;obtain⟨D,f,a,d⟩:=I.list F;have S:=f.length;exact Calls.call_len_list a.isList (by grind) ⟨.int xs.length,H,I.tok _,⟨_,by simp only[abo];rw[S]⟩,q⟩
  ·subst L;obtain⟨D,f,a,d⟩:=I.tuple F;have S:=f.length;exact len_tuple a (by grind) ⟨.int xs.length,H,I.tok _,⟨_,by simp only[abo];rw[S]⟩,q⟩
 |_=>trivial
end
section
structure ObjM (h:Heap)(x dx C:Addr)(mA:Str->Option Value):Prop where
 obj:h.get? x=some (PySem.W.instObj C dx)
 ns:h.Ns1 dx mA
 ne:dx≠x
theorem sE{h:Heap}(n:h.Ns1 dx mA):∃Z,h.get? dx=some Z/\∀N,PySem.W.lookIn N Z=some (mA N):=by
 obtain⟨o,L,i,j,M,T,_,Y⟩:=n;refine⟨o,j,λN=>?_⟩;have e:=Y N;unfold nsFind findBy at e;rw[<-Array.find?_toList]at e;unfold PySem.W.lookIn;rw[M];dsimp only;split
 ·grind
 ·rename_i q;rw[q]at e;have a:L.toList.any (·.refKey)=false:=by rw[List.any_eq_false];intro y m;obtain⟨z,t,H⟩:=T y (Array.mem_toList_iff.mp m);simp[DictEntry.refKey,H]
  grind
theorem ObjM.look(I:ObjM h x dx C mA):∃Z,PySem.W.InstAt h x (PySem.W.instObj C dx) C (some Z)/\∀N,PySem.W.lookIn N Z=some (mA N):=
 let ⟨Z,j,t⟩:=sE I.ns
 ⟨Z,⟨I.obj,rfl,rfl,j⟩,t⟩
section
variable{K:Waa}
theorem get_map{r:Bool}(X:K.In s.heap)(I:ObjM s.heap x dx C mA)(N:PySem.W.plainGet K C name=true)(L:PySem.W.hasDictIn K C=true)
  (j:PySem.W.findIn K (.ref C) name=some none) (o:mA name=some v) (P:PySem.W.handedIn v=true) (h:Q v { s with toks:=s.toks+1 }):
  wpAny (model prog w) A (getAttr (.ref x) name r) Q E s:=by
 obtain⟨Z,J,t⟩:=I.look;exact PySem.W.get_value X J (abC N).1 (PySem.W.findObj_own L j rfl (by rw[t,o])) P h
theorem uY(X:K.In s.heap)(I:ObjM s.heap x dx C mA)(N:PySem.W.plainGet K C name=true)
  (y:PySem.W.findIn K (.ref C) name=some (some (.ref f))) (u:PySem.W.isFn K (.ref f)=true) (o:mA name=none) (h:Q (.ref f,[.ref x]) s):
  wpAny (model prog w) A (getMethod (.ref x) name pl) Q E s:=by
 obtain⟨Z,J,t⟩:=I.look;exact PySem.W.method_fn X J (abC N).1 (abC N).2 y (beq_iff_eq.mp u) (by show (PySem.W.lookIn name Z).map (·.isSome)=some false;rw[t,o];rfl) h
theorem yT(X:K.In s.heap)(I:ObjM s.heap x dx C mA)
  (g:PySem.W.findIn K (.ref C) "__setattr__"=some (some (.builtin "object.__setattr__"))) (N:PySem.W.plainOver K C=true) (u:PySem.W.takerIn K C name=some none) (L:PySem.W.hasDictIn K C=true)
  (c:PySem.Within mA ns) (k:ns.length<=sizeLine)
  (h:∀h',ObjM h' x dx C (λy=>if y=name then some v else mA y)->Heap.SameBut dx s.heap h'->Q () { s with heap:=h',toks:=s.toks+2 }):
  wpAny (model prog w) A (setAttr (.ref x) name v) Q E s:=by
 obtain⟨Z,J,t⟩:=I.look;refine PySem.W.set_plain X J g (PySem.W.osa_open X J N u λb=>?_);obtain⟨m,U,T⟩:=PySem.W.any_some L;have F:s.heap.get? x=some ⟨.ref C,some dx,.plain,#[]⟩:=I.obj;refine acs (acv (acs (acs (wpAny_loadPart F (acs (PySem.W.Looks.here (PySem.W.looks_clsIn X U) ?_))))));rw[T];refine acv (acs (acv (acs ?_)));refine wpAny_nsSet1 I.ns λh' P d=>?_;obtain⟨O,e,M,D,B,H⟩:=P.count (PySem.Within.cons name v c);refine acs (wpAny_lookBehind D (by rw[B];exact pastItsLine_dict (aan H (by grind))) ?_);exact acv (h _ ⟨(d.2 _ (aaG I.ne)).trans I.obj,P,I.ne⟩ d)
theorem uZ(X:K.In s.heap)(Y:PySem.W.makesIn K C=true)
  (r:PySem.W.findIn K (.ref C) "__init__"=some (some (.ref f))) (y:PySem.W.typeIn K (.ref f)=some (.type "function"))
  (h:codeAny (model prog w) (A.under (.builtin "type.__call__" ⟨.ref C::vs,kw⟩)) (.call (.ref f) ⟨.ref (s.heap.objs.size+1)::vs,kw⟩) (PySem.W.InitBack (s.heap.objs.size+1) R)
   { s with heap:=(s.heap.push PySem.W.emptyDict).push (PySem.W.instObj C s.heap.objs.size) }):
  codeAny (model prog w) A (.call (.ref C) ⟨vs,kw⟩) R s:=by
 obtain⟨L,g,d,t,F⟩:=s;exact PySem.W.make_core (PySem.W.makes_of X Y) (PySem.W.looks_findIn X r) (λself=>PySem.W.bind_fn X self y) (.inl rfl) h
end
noncomputable def cf(f:Str)(v:V):List (Str×V)->List (Str×V)
 |[]=>[(f,v)]
 | (g,x)::r=>if g=f then (g,v)::r else (g,x)::cf f v r
theorem gR(f g:Str)(v:V):∀fs:List (Str×V),(cf f v fs).lookup g=if g=f then some v else fs.lookup g
 |[]=>by
  show List.lookup g [(f,v)]=_
  grind
 | (k,x)::r=>by
  have Y:=gR f g v r;rw[show cf f v ((k,x)::r)=(if k=f then (k,v)::r else (k,x)::cf f v r) from rfl]
  grind
theorem gq(f:Str)(v:V):∀fs:List (Str×V),f∈(cf f v fs).map (·.1)/\∀g,g∈fs.map (·.1)->g∈(cf f v fs).map (·.1)
 |[]=>⟨by simp[cf],λg h=>by grind⟩
 | (k,x)::r=>by
  obtain⟨C,J⟩:=gq f v r;rw[show cf f v ((k,x)::r)=(if k=f then (k,v)::r else (k,x)::cf f v r) from rfl]
  grind
theorem gS(f:Str)(v:V):∀fs:List (Str×V),(cf f v fs).length<=fs.length+1
 |[]=>by simp[cf]
 | (k,x)::r=>by
  have Y:=gS f v r;rw[show cf f v ((k,x)::r)=(if k=f then (k,v)::r else (k,x)::cf f v r) from rfl]
  grind
theorem RelO.some_of(r:RelO (some v) o):∃u,o=some u/\RelV v u:=by
 cases o with
 |none=>trivial
 |some u=>exact⟨u,rfl,r⟩
theorem RelO.none_of(r:RelO none o):o=none:=by
 cases o with
 |none=>rfl
 |some u=>trivial
theorem sF(r:RelV v u):PySem.W.handedIn u=true:=by
 cases v with
 |non=>cases (show u=Value.none from r);rfl
 |bl b=>cases (show u=Value.bool b from r);rfl
 |int i=>obtain⟨t,e⟩:=(show ∃t,u=Value.int i t from r);cases e;rfl
 |str x=>obtain⟨t,e⟩:=(show ∃t,u=Value.str x t from r);cases e;rfl
 |byt b=>obtain⟨t,e⟩:=(show ∃t,u=Value.bytes b t from r);cases e;rfl
 |flt b=>obtain⟨t,e⟩:=(show ∃t,u=Value.float b t from r);cases e;rfl
 |ref a=>cases (show u=Value.ref a from r);rfl
 |ty n=>cases (show u=Value.type n from r);rfl
theorem kB(Q:HOk P w H h)(e:H a=some (.ins C dx fs)):∃M,ObjM h a dx C M/\(∀f,RelO (fs.lookup f) (M f))/\PySem.Within M (fs.map (·.1))/\fs.length<=1000/\H dx=some (.own a):=by
 obtain⟨d,z,A,m,M,n,r,q⟩:=(show ObjOk P w H h a (.ins C dx fs) from Q a _ e)
 exact⟨M,⟨m,n,A⟩,r,q,z,d⟩
structure Cls (K:Waa)(C:Addr):Prop where
 pg:PySem.W.plainGet K C Str.empty=true
 hd:PySem.W.hasDictIn K C=true
 po:PySem.W.plainOver K C=true
 sa:PySem.W.findIn K (.ref C) "__setattr__"=some (some (.builtin "object.__setattr__"))
theorem Cls.get{K:Waa}{C:Addr}(c:Cls K C)(f:Str):PySem.W.plainGet K C f=true:=c.pg
def NoAttr(K:Waa)(C:Addr)(f:Str):Prop:=PySem.W.findIn K (.ref C) f=some none
theorem NoAttr.taker{K:Waa}(n:NoAttr K C f):PySem.W.takerIn K C f=some none:=by unfold PySem.W.takerIn;rw[show PySem.W.findIn K (.ref C) f=some none from n];rfl
structure Meth (K:Waa)(C:Addr)(m:Str)(f:Addr):Prop where
 at_:PySem.W.findIn K (.ref C) m=some (some (.ref f))
 fn:PySem.W.isFn K (.ref f)=true
 kp:PySem.W.keepIn K (.ref f)=true
theorem iD{b:Bool}{Q:Value->Shared->Prop}(I:Inv X pins σ H s)(e:H a=some (.ins C dx fs))(c:Cls X.K C)(n:NoAttr X.K C f)(l:fs.lookup f=some v)
  (h:∀u B,Inv X pins σ H B->RelV v u->Q u B):wpAny (model X.prog X.w) A (getAttr (.ref a) f b) Q E s:=by
 obtain⟨M,O,r,_,_,_⟩:=kB I.hok e;obtain⟨u,U,p⟩:=RelO.some_of (by rw[<-l];exact r f);exact get_map I.qd O (c.get f) c.hd n U (sF p) (h u _ (I.tok _) p)
theorem iF(I:Inv X pins σ H s)(e:H a=some (.ins C dx fs))(c:Cls X.K C)(k:Meth X.K C m g)(l:fs.lookup m=none)
  (h:Q (.ref g,[.ref a]) s):wpAny (model X.prog X.w) A (getMethod (.ref a) m pl) Q E s:=by
 obtain⟨M,O,r,_,_,_⟩:=kB I.hok e;have i:M m=none:=RelO.none_of (by rw[<-l];exact r m);exact uY I.qd O (c.get m) k.at_ k.fn i h
theorem iG{y:V}{u:Value}(I:Inv X pins σ H s)(e:H a=some (.ins C dx fs))(c:Cls X.K C)(n:NoAttr X.K C f)(t:fs.length<1000)(T:RelV y u)
  (h:∀B,Inv X pins σ (upd H a (.ins C dx (cf f y fs))) B->Q () B):wpAny (model X.prog X.w) A (setAttr (.ref a) f u) Q E s:=by
 obtain⟨M,O,r,Z,_,j⟩:=kB I.hok e;have d:(fs.map (·.1)).length<=sizeLine:=by rw[aae,sizeLine_eq];lia
 refine yT I.qd O c.sa c.po n.taker c.hd Z d λv F D=>h _ ?_;have W:∃o,v.get? dx=some o:=let ⟨o,_,_,L,_⟩:=F.ns;⟨o,L⟩
 refine I.write (by rw[e];trivial) (.inr j) (λb q S z=>(D.2 b S).trans z) W ?_;refine⟨by rw[upd_ne O.ne];lia,?_,O.ne,F.obj,_,F.ns,λg=>?_,λg N=>?_⟩
 ·have:=gS f y fs;lia
 ·show RelO ((cf f y fs).lookup g) (if g=f then some u else M g);rw[gR];by_cases q:g=f
  ·rw[if_pos q,if_pos q];exact T
  ·grind
 ·by_cases q:g=f
  ·rw[q];exact(gq f y fs).1
  ·refine(gq f y fs).2 g (Z g λz=>N ?_)
   grind
theorem Inv.made(I:Inv X pins σ H s):Inv X pins σ (upd (upd H s.heap.objs.size (.own (s.heap.objs.size+1))) (s.heap.objs.size+1) (.ins C s.heap.objs.size []))
  { s with heap:=(s.heap.push PySem.W.emptyDict).push (PySem.W.instObj C s.heap.objs.size) }:=by
 have J:(s.heap.push PySem.W.emptyDict).get? s.heap.objs.size=some PySem.W.emptyDict:=acx s.heap rfl;have Y:((s.heap.push PySem.W.emptyDict).push (PySem.W.instObj C s.heap.objs.size)).get? (s.heap.objs.size+1)=some (PySem.W.instObj C s.heap.objs.size):=by have:=acx (s.heap.push PySem.W.emptyDict) (o:=PySem.W.instObj C s.heap.objs.size) rfl;simp_all
 have l:(s.heap.push PySem.W.emptyDict).Ns s.heap.objs.size (λ_=>none):=⟨PySem.W.emptyDict,#[],_,J,rfl,(λe n=>absurd n (by simp)),λ_=>rfl⟩
 have B:=I.laid (o:=.own (s.heap.objs.size+1)) (t':=s.toks) (λb u q=>acw _ q) (aac _) ⟨_,J⟩;refine B.laid (λb u q=>acw _ q) (abD (acK _ _)) ?_;have A:s.heap.objs.size≠s.heap.objs.size+1:=aao (aba _);refine⟨by rw[upd_ne A,aB],aaB _,A,Y,λ_=>none,(Heap.Ns1.of_empty l).at λo q=>acw _ q,λ_=>True.intro,λy m=>absurd rfl m⟩
theorem attr_of{prog:Program}{w:World}(S:attributeBase e f env (eval e env)=eval e env)
  (h:wpAny (model prog w) A (eval e env) (λo J=>wpAny (model prog w) A (getAttr o f true) Q E J) E s):wpAny (model prog w) A (eval (.Attribute e f pos) env) Q E s:=
 Attribute_any_ h (by rw[arm_eval_Attribute,S])
def Jx(K:Waa)(Z:TE)(f:Str):TE:=λL H Q=>Z L H λx P=>∃a C e U v,x=.ref a/\P a=some (.ins C e U)/\Cls K C/\NoAttr K C f/\U.lookup f=some v/\Q v P
def Jy(K:Waa)(Z I:TE)(f:Str):TS:=λD L H=>I L H λy P=>Z L P λx N=>∃a C e U,x=.ref a/\N a=some (.ins C e U)/\Cls K C/\NoAttr K C f/\U.length<1000 /\
 D.nx L (upd N a (.ins C e (cf f y U)))
def yU(X:Cx)(F:Operator)(b:V->V->Hp->VK->Prop):Prop:=
 ∀(M:List (Addr×Obj)) (s:Shared) (L:St) (H:Hp) (x y:V) (u v:Value) (Q:VK),Inv X M L H s->RelV x u->RelV y v->b x y H Q->wpAny (model X.prog X.w) X.A (inplaceOp F u v) (EP X M L Q) X.xe s
def yV(K:Waa)(Z I:TE)(b:V->V->Hp->VK->Prop)(f:Str):TS:=λD L H=>Z L H λx P=>∃a C e U v,x=.ref a/\P a=some (.ins C e U)/\Cls K C/\NoAttr K C f/\U.lookup f=some v /\
 I L P λy N=>b v y N λz q=>∃Q Y,q a=some (.ins C Q Y)/\Y.length<1000/\D.nx L (upd q a (.ins C Q (cf f z Y)))
theorem CU(i:PE X e ta)(S:attributeBase e f X.env (eval e X.env)=eval e X.env):PE X (.Attribute e f pos) (Jx X.K ta f):=by
 intro M s L H Q I h;refine attr_of S (thn (i M s L H _ I h) λu z m=>?_);obtain⟨x,P,B,J,a,C,W,U,v,k,A,c,n,l,q⟩:=m;subst k;obtain rfl:u=Value.ref a:=J;exact iD B A c n l λo Z t p=>⟨v,P,t,p,q⟩
theorem CV(j:PE X o ta)(z:PE X value tv)(g:swapsWith value (some (.Attribute o f pos')) pos.line X.env=pure false):PS X (.Assign [.Attribute o f pos'] value pos) (Jy X.K ta tv f):=by
 intro M s L H D I h;refine plainObj_wpAny_Assign_Attribute (thn (z M s L H _ I h) λu i ⟨y,P,B,T,q⟩=>thn (j M i L P _ B q) λS Z m=>?_) g;obtain⟨x,N,t,J,a,C,e,U,k,A,c,n,l,b⟩:=m;subst k;obtain rfl:S=Value.ref a:=J;exact iG t A c n l T λO d=>⟨L,_,d,b⟩
theorem sG{F:Operator}{b:V->V->Hp->VK->Prop}(j:PE X o ta)(hv:PE X value tv)(hop:yU X F b):PS X (.AugAssign (.Attribute o f tpos) F value pos) (yV X.K ta tv b f):=by
 intro M s L H D I h;refine wpAny_AugAssign_AttributeAny (thn (j M s L H _ I h) λS s1 m=>?_);obtain⟨x,P,B,rx,a,C,e,U,v,k,A,c,n,l,q⟩:=m;subst k;obtain rfl:S=Value.ref a:=rx;refine iD B A c n l λu Z t p=>thn (hv M Z L P _ t q) λJ O ⟨y,N,d,ry,g⟩=>thn (hop M O L N v y u J _ d p ry g) λw4 s4 m=>?_;obtain⟨z,H3,I4,w,Q,Y,r,W,q4⟩:=m;exact iG I4 r c n W w λi T=>⟨L,_,T,q4⟩
def rAdd:V->V->Hp->VK->Prop:=λx y H Q=>∃i j,x=.int i/\y=.int j/\Q (.int (i+j)) H
def rSub:V->V->Hp->VK->Prop:=λx y H Q=>∃i j,x=.int i/\y=.int j/\Q (.int (i-j)) H
theorem CW:yU X .Add rAdd:=by
 rintro M s L H x y u v Q I J T ⟨i,j,rfl,rfl,q⟩;obtain⟨t,rfl⟩:=(show ∃t,u=Value.int i t from J)
 obtain⟨z,rfl⟩:=(show ∃z,v=Value.int j z from T)
 exact PyProof.Rows.iadd_int ⟨.int (i+j),H,I.tok _,⟨_,rfl⟩,q⟩
theorem CY:yU X .Sub rSub:=by
 rintro M s L H x y u v Q I J T ⟨i,j,rfl,rfl,q⟩;obtain⟨t,rfl⟩:=(show ∃t,u=Value.int i t from J)
 obtain⟨z,rfl⟩:=(show ∃z,v=Value.int j z from T)
 exact PyProof.Rows.isub_int ⟨.int (i-j),H,I.tok _,⟨_,rfl⟩,q⟩
end
section
structure Room (k:Nat)(A:Around):Prop where
 hd:A.handled=none
 dp:A.depth+3*k+5<recursionLimit
 un:A.units+16*k+200<cLine
 gd:A.guards=some []
theorem Room.mono(r:Room k A)(h:j<=k):Room j A:=⟨r.hd,by have:=r.dp;lia,by have:=r.un;lia,r.gd⟩
theorem Room.deeper(r:Room (k+1) A)(env:Env):Room k (A.deeper env):=
 ⟨r.hd,by have:=r.dp;show A.depth+1+3*k+5<_;lia,by have:=r.un;show A.units+3+16*k+200<_;lia,r.gd⟩
theorem Room.in1(r:Room (k+1) A):Room k A.in1:=
 ⟨r.hd,by have:=r.dp;show A.depth+3*k+5<_;omega,by have:=r.un;show A.units+1+16*k+200<_;omega,r.gd⟩
theorem n5{A:Around}:(A.under (.builtin "type.__call__" ⟨.ref C::us,kw⟩)).depth=A.depth+1:=by rfl
theorem n6{A:Around}:(A.under (.builtin "type.__call__" ⟨.ref C::us,kw⟩)).units=A.units+1:=by rfl
theorem Room.make(r:Room (k+1) A)(C:Addr)(us:List Value)(W:List (Str×Value)):Room k (A.under (.builtin "type.__call__" ⟨.ref C::us,W⟩)):=
 ⟨r.hd,by have:=r.dp;rw[n5];lia,by have:=r.un;rw[n6];lia,by first|exact r.gd|simp[Around.under,Code.isGuard,guardIds,r.gd]⟩
theorem Room.depth(r:Room k A):A.depth<recursionLimit:=by have:=r.dp;lia
theorem Room.units{A:Around}(r:Room k A):A.units+64<cLine:=by have:=r.un;lia
def tNil:TA:=λ_ H Q=>Q [] H
def Gc(Z:TE)(r:TA):TA:=λL H Q=>Z L H λx P=>r L P λY N=>Q (x::Y) N
theorem cg:PA X [] tNil:=λ_ _ _ _ H Q I h=>Calls.spliced_nil ⟨[],H,I,.nil,h⟩
theorem aZ(j:PE X e te)(D:PA X es t)(g:starEach (e::es) X.env=(false,eval e X.env)::starEach es X.env:=by rfl):PA X (e::es) (Gc te t):=by
 intro S M s L H Q I h;rw[g];refine Calls.spliced_cons (thn (j M s L H _ I h) λu f m=>?_);obtain⟨x,P,B,w,C⟩:=m;exact thn (D S M f L P _ B C) λy Z ⟨Y,N,W,p,b⟩=>⟨x::Y,N,W,.cons w p,b⟩
def Jz(t:TA):TE:=λL H Q=>t L H λY P=>Y.length<=sizeLine/\∀p,P p=none->Q (.ref p) (upd P p (.tup Y))
def JA(t:TA):TE:=λL H Q=>t L H λY P=>Y.length<=sizeLine/\∀p,P p=none->Q (.ref p) (upd P p (.lst Y))
theorem n9{v}(h:PA X es t):PE X (.Tuple es v pos) (Jz t):=by intro M s L H Q I A;refine wpAny_Tuple_spliced (thn (h pos M s L H _ I A) λk f ⟨Y,P,B,r,z,q⟩=>⟨by rw[<-r.length];exact z,?_⟩);have y:=B.hok.fresh (aac _);refine⟨.ref f.heap.objs.size,upd P f.heap.objs.size (.tup Y),B.laid (t':=f.toks) (λb u e=>acw _ e) (aac _) ?_,rfl,q _ y⟩;exact⟨z,k,r,⟨_,acx _ rfl,rfl,_,rfl,rfl⟩⟩
theorem CZ(h:PA X es t):PE X (.List es pos) (JA t):=by intro M s L H Q I A;refine wpAny_List_spliced (thn (h pos M s L H _ I A) λk f ⟨Y,P,B,r,z,q⟩=>⟨by rw[<-r.length];exact z,?_⟩);have y:=B.hok.fresh (aac _);refine⟨.ref f.heap.objs.size,upd P f.heap.objs.size (.lst Y),B.laid (t':=f.toks) (λb u e=>acw _ e) (aac _) ?_,rfl,q _ y⟩;exact⟨z,k,0,r,acx _ rfl⟩
abbrev Sp:=List V->Hp->VK->XK->Prop
abbrev CXT:=List Env->Hp->Shared->XK->Value->Shared->Prop
structure Env0 (P:Program)(w:World)(K:Waa)(mg:Str->Option Value)(base:Heap)(A:Around)(outer:List Env)(s:Shared)(H:Hp):Prop where
 frames:A.frames=some outer
 mod:Mod K mg base
 bs:∀b o,base.get? b=some o->s.heap.get? b=some o/\H b=none
 bsz:base.objs.size<=s.heap.objs.size
 funs:s.heap.FunFrames base outer
 frf:∀b∈uI outer,H b=none
 hok:HOk P w H s.heap
 bare:AllBare s.gens
def CE(M:List Env)(P:Program)(w:World)(H:Hp)(s:Shared)(Q:VK)(u:Value)(B:Shared):Prop:=
 ∃v l,B.os=s.os/\AllBare B.gens/\Un (uI M) [] H l s.heap B.heap/\HOk P w l B.heap/\RelV v u/\Q v l
def CR(CX:CXT)(M:List Env)(P:Program)(w:World)(H:Hp)(s:Shared)(Q:VK)(E:XK)(r:Result)(B:Shared):Prop:=
 match r with
 |.ok (.ret u)=>CE M P w H s Q u B
 |.ok _=>False
 |.error e=>CX M H s E e B
structure FnOk (P:Program)(w:World)(K:Waa)(mg:Str->Option Value)(base:Heap)(CX:CXT)(k:Nat)(f:Addr)(fd:FuncData)(ps:List Str)(sp:Sp):Prop where
 len:∀vs H Q E,sp vs H Q E->vs.length=ps.length
 run:∀(A:Around) (outer:List Env) (s:Shared) (H:Hp) (args:Args) (us:List Value) (vs:List V) (Q:VK) (E:XK),Room k A->Env0 P w K mg base A outer s H->BindsTo s fd args (ps.zip us)->Vals vs us->sp vs H Q E ->
  codeAny (model P w) A (.call (.ref f) args) (CR CX outer P w H s Q E) s
theorem FnOk.mono{K:Waa}(F:FnOk P w K mg base CX j f fd ps sp)(h:j<=k):
  FnOk P w K mg base CX k f fd ps sp:=⟨F.len,λA M s H b y c Q E D=>F.run A M s H b y c Q E (D.mono h)⟩
theorem FnOk.imp{K:Waa}(F:FnOk P w K mg base CX k f fd ps sp)
  (h:∀vs H Q E,sp' vs H Q E->sp vs H Q E):FnOk P w K mg base CX k f fd ps sp':=
 ⟨λvs H Q E q=>F.len vs H Q E (h _ _ _ _ q),λA M s H b y vs Q E D n S o g=>F.run A M s H b y vs Q E D n S o (h _ _ _ _ g)⟩
theorem Env0.make{K:Waa}(e:Env0 P w K mg base A outer s H)(C:Addr)(us:List Value)(W:List (Str×Value)):
  Env0 P w K mg base (A.under (.builtin "type.__call__" ⟨.ref C::us,W⟩)) outer s H:=⟨by first|exact e.frames|(simpa[Around.under,Code.envs,Code.isFrame,pushEnvs] using e.frames),e.mod,e.bs,e.bsz,e.funs,e.frf,e.hok,e.bare⟩
theorem Env0.in1{K:Waa}(e:Env0 P w K mg base A outer s H):
  Env0 P w K mg base A.in1 outer s H:=⟨e.frames,e.mod,e.bs,e.bsz,e.funs,e.frf,e.hok,e.bare⟩
theorem Inv.env0(I:Inv X pins σ H s):Env0 X.prog X.w X.K X.mg X.base X.A X.stack s H:=
 ⟨I.ok.frames,I.ok.mod,I.bs,aan I.ok.bsz I.sz,I.stack,I.r8,I.hok,I.bare⟩
theorem Inv.after(I:Inv X pins σ H s)(h:CE X.stack X.prog X.w H s Q u s'):EP X pins σ Q u s':=by obtain⟨v,l,F,e,C,M,r,q⟩:=h;obtain⟨L,g,d,t,O⟩:=s';obtain rfl:=F;exact⟨v,l,I.call C M e (λb z=>absurd z (by simp)),r,q⟩
def Bj(sp:Sp)(S:List V)(E:XK)(t:TA):TE:=λL H Q=>t L H λc P=>sp (c++S) P Q E
def u6(C:Addr)(m:Str)(sp:Sp)(S:List V)(E:XK)(Z:TE)(t:TA):TE:=λL H Q=>Z L H λx P=>∃a e U,x=.ref a/\P a=some (.ins C e U)/\U.lookup m=none /\
 t L P λc N=>sp (x::(c++S)) N Q E
def Bk(C:Addr)(sp:Sp)(S:List V)(E:XK)(t:TA):TE:=λL H Q=>t L H λc P=>∀x e,P x=none->P e=none->e≠x ->
 sp (.ref x::(c++S)) (upd (upd P e (.own x)) x (.ins C e [])) (λv N=>v=.non/\Q (.ref x) N) E
def Binds(K:Waa)(U:FuncData)(ps:List Str)(ds:List Value):Prop:=
 ∀(s:Shared) (y:List Value),K.In s.heap->(y++ds).length=ps.length->BindsTo s U ⟨y,[]⟩ (ps.zip (y++ds))
theorem Binds.all{K:Waa}{U:FuncData}{ps:List Str}(h:∀us:List Value,us.length=ps.length->bindArgs U ⟨us,[]⟩=pure (ps.zip us)):Binds K U ps []:=λs us _ t=>by rw[aap]at t ⊢;exact .of_eq (h us t)
def Passes(CX:CXT)(X:Cx)(E:XK):Prop:=∀(M:List (Addr×Obj)) (L:St) (H:Hp) (s:Shared) (e:Value) (B:Shared),Inv X M L H s->CX X.stack H s E e B->X.xe e B
theorem oa(F:FnOk X.prog X.w X.K X.mg X.base CX k f fd ps sp)(D:Room k X.A)(S:Binds X.K fd ps ds)(W:Vals dvs ds)(C:Passes CX X E)
  (I:Inv X pins σ H s) (r:Vals vs us) (h:sp (vs++dvs) H Q E):wpAny (model X.prog X.w) X.A (call (.ref f) us) (EP X pins σ Q) X.xe s:=by
 have p:=r.append W;have t:(us++ds).length=ps.length:=by rw[<-p.length];exact F.len _ _ _ _ h
 refine wpAny_call (acP (F.run X.A X.stack s H ⟨us,[]⟩ (us++ds) (vs++dvs) Q E D I.env0 (S s us I.qd t) p h) λr B c=>?_);cases r with
 |error e=>exact C pins σ H s e B I c
 |ok a=>
  cases a with
  |ret u=>exact I.after c
  |next=>trivial
  |brk=>trivial
  |cont=>trivial
theorem qb(F:FnOk X.prog X.w X.K X.mg X.base CX k f fd ps sp)(D:Room k X.A)(N:Gl X x)(Y:X.mg x=some (.ref f))(hk:PySem.W.keepIn X.K (.ref f)=true)(S:Binds X.K fd ps ds)(m:Vals dvs ds)(C:Passes CX X E)
  (j:PA X (e::es) t) (Z:(x==("__debug__":Str))=false:=by decide) (n:starEach (e::es) X.env=(false,eval e X.env)::starEach es X.env:=by rfl) (z:(backTo pos (starEach es X.env)).any (·.1)=false:=by rfl):
  PE X (.Call (.Name x p) (e::es) [] pos) (Bj sp dvs E t):=by
 intro M s L H Q I h;refine acQ (ky I N Y ?_ Z);refine abE (h₀:=X.base) I.ok.mod.kin hk (thn (j pos M s L H _ I h) λy i ⟨c,P,B,r,q⟩=>⟨B.qd,?_⟩) n z;exact oa F D S m C B r q
theorem yW{pl:Sem Bool}(n:PE X o ta)(c:Cls X.K C)(Y:Meth X.K C m f)(F:FnOk X.prog X.w X.K X.mg X.base CX k f fd ps sp)(D:Room k X.A)(S:Binds X.K fd ps ds)(W:Vals dvs ds)(hx:Passes CX X E)(j:PA X (e::es) t)
  (p:starEach (e::es) X.env=(false,eval e X.env)::starEach es X.env:=by rfl) (z:(backTo pos (starEach es X.env)).any (·.1)=false:=by rfl)
  (v:eval (.Call (.Attribute o m apos) (e::es) [] pos) X.env=(do
   let ov <-eval o X.env
   standAt apos.atName
   let (f,first) <-holding [ov] (getMethod ov m pl)
   callWith pos f first (backTo pos (starEach (e::es) X.env)) (backToKw pos (keywordEach [] X.env))):=by rfl):
  PE X (.Call (.Attribute o m apos) (e::es) [] pos) (u6 C m sp dvs E ta t):=by
 intro M s L H Q I h;refine ab8 (pl:=pl) (thn (n M s L H _ I h) λu T d=>?_) v;obtain⟨x,P,B,J,a,dx,U,O,g,l,q⟩:=d;subst O;obtain rfl:u=Value.ref a:=J;refine iF B g c Y l ?_;refine abE (first:=[.ref a]) I.ok.mod.kin Y.kp (thn (j pos M T L P _ B q) λy Z ⟨vs,N,i,r,b⟩=>⟨i.qd,?_⟩) p z;exact oa (vs:=.ref a::vs) F D S W hx i (.cons rfl r) b
theorem u7{pl:Sem Bool}(n:PE X o ta)(c:Cls X.K C)(Y:Meth X.K C m f)(F:FnOk X.prog X.w X.K X.mg X.base CX k f fd ps sp)(D:Room k X.A)(S:Binds X.K fd ps ds)(N:Vals dvs ds)(t:Passes CX X E)
  (v:eval (.Call (.Attribute o m apos) [] [] pos) X.env=(do
   let ov <-eval o X.env
   standAt apos.atName
   let (f,first) <-holding [ov] (getMethod ov m pl)
   callWith pos f first (backTo pos (starEach [] X.env)) (backToKw pos (keywordEach [] X.env))):=by rfl):
  PE X (.Call (.Attribute o m apos) [] [] pos) (u6 C m sp dvs E ta tNil):=by
 intro M s L H Q I h;refine ab8 (pl:=pl) (thn (n M s L H _ I h) λu i j=>?_) v;obtain⟨x,P,B,J,a,e,U,b,g,l,q⟩:=j;subst b;obtain rfl:u=Value.ref a:=J;refine iF B g c Y l ?_;exact PySem.W.callWith_K0 B.qd Y.kp (oa (vs:=[.ref a]) F D S N t B (.cons rfl .nil) q)
structure Mk (K:Waa)(C f:Addr):Prop where
 makes:PySem.W.makesIn K C=true
 init:PySem.W.findIn K (.ref C) "__init__"=some (some (.ref f))
 fn:PySem.W.isFn K (.ref f)=true
 kp:PySem.W.keepIn K (.ref C)=true
theorem u9{Y:List (Addr×Obj)}{σ:St}(M:Mk X.K C f)(F:FnOk X.prog X.w X.K X.mg X.base CX k f fd ps sp)(D:Room (k+1) X.A)(S:Binds X.K fd ps ds)(W:Vals dvs ds)
  (T:Passes CX X E) (I:Inv X Y σ H s) (r:Vals vs us)
  (h:∀x dx,H x=none->H dx=none->dx≠x->sp (.ref x::(vs++dvs)) (upd (upd H dx (.own x)) x (.ins C dx [])) (λv N=>v=.non/\Q (.ref x) N) E):
  wpAny (model X.prog X.w) X.A (call (.ref C) us) (EP X Y σ Q) X.xe s:=by
 have c:=h (s.heap.objs.size+1) s.heap.objs.size (I.hok.fresh (abb _)) (I.hok.fresh (aac _)) (aao (aba _));have t:=Inv.made (C:=C) I;have p:Vals (V.ref (s.heap.objs.size+1)::(vs++dvs)) (Value.ref (s.heap.objs.size+1)::(us++ds)):=.cons rfl (r.append W);have j:(Value.ref (s.heap.objs.size+1)::us++ds).length=ps.length:=by
  have e:=p.length;rw[F.len _ _ _ _ c]at e
  grind
 refine wpAny_call (uZ I.qd M.makes M.init (beq_iff_eq.mp M.fn) (acP (F.run _ X.stack _ _ ⟨Value.ref (s.heap.objs.size+1)::us,[]⟩ (Value.ref (s.heap.objs.size+1)::(us++ds)) _ _ E (D.make C us [])
  (t.env0.make C us []) (S _ (Value.ref (s.heap.objs.size+1)::us) t.qd j) p c) λr B J=>?_))
 cases r with
 |error e=>exact T Y σ _ _ e B t J
 |ok a=>
  cases a with
  |ret u=>obtain⟨v,l,d,O,P,g⟩:=t.after J;subst P;exact⟨O,⟨V.ref (s.heap.objs.size+1),l,d,rfl,g⟩⟩
  |next=>trivial
  |brk=>trivial
  |cont=>trivial
theorem yX(M:Mk X.K C f)(F:FnOk X.prog X.w X.K X.mg X.base CX k f fd ps sp)(D:Room (k+1) X.A)(N:Gl X x)(Y:X.mg x=some (.ref C))(S:Binds X.K fd ps ds)(W:Vals dvs ds)(m:Passes CX X E)
  (j:PA X (e::es) t) (Z:(x==("__debug__":Str))=false:=by decide) (n:starEach (e::es) X.env=(false,eval e X.env)::starEach es X.env:=by rfl) (z:(backTo pos (starEach es X.env)).any (·.1)=false:=by rfl):
  PE X (.Call (.Name x p) (e::es) [] pos) (Bk C sp dvs E t):=by
 intro T s L H Q I h;refine acQ (ky I N Y ?_ Z);refine abE (h₀:=X.base) I.ok.mod.kin M.kp (thn (j pos T s L H _ I h) λy i ⟨c,P,B,r,q⟩=>⟨B.qd,?_⟩) n z;exact u9 M F D S W m B r q
structure FnScope (N P:List Str)(sc:Scope):Prop where
 kind:sc.kind=.function
 co:sc.isCoroutine=false
 gen:sc.isGenerator=false
 nd:N.Nodup
 pre:N.take P.length=P
 par:∀x∈P,sc.names.lookup x=some .local\/sc.names.lookup x=some .cell
 nofree:∀y∈sc.names,y.2≠.free
theorem jV{F:Str->Option NameKind}:∀{S:List (Str×Value)}{m:Str->Option Value},(∀v,(x,v) ∉ S)->bindL F S m x=m x
 |[],_,_=>rfl
 | (n,v)::r,m,h=>by
  unfold bindL;rw[jV λw Q=>h w (aag _ Q)];split
  ·grind
  ·rfl
theorem jW{F:Str->Option NameKind}:∀{S:List (Str×Value)}{m:Str->Option Value},(∀v,(x,v) ∉ S)->bindC F S m x=m x
 |[],_,_=>rfl
 | (n,v)::r,m,h=>by
  unfold bindC;rw[jW λw Q=>h w (aag _ Q)];split
  ·rfl
  ·grind
theorem jX{F:Str->Option NameKind}:∀{P:List Str}{vs:List Value}{i:Nat}{m:Str->Option Value},P.Nodup->P[i]?=some x->vs[i]?=some v->F x=some .local ->
  bindL F (P.zip vs) m x=some v
 |[],_,_,_,_,h,_,_=>by simp at h
 |_::_,[],_,_,_,_,h,_=>by simp at h
 |p::P,w::vs,0,m,nd,h1,h2,hk=>by simp at h1 h2;subst h1;subst h2;show bindL F ((p,w)::P.zip vs) m p=_;unfold bindL;rw[jV λv o=>(aat.mp nd).1 (aaO o).1,if_pos hk];simp
 |p::P,w::vs,i+1,m,nd,h1,h2,hk=>by show bindL F ((p,w)::P.zip vs) m x=_;unfold bindL;exact jX (i:=i) (aat.mp nd).2 (by simpa using h1) (by simpa using h2) hk
theorem jY{F:Str->Option NameKind}:∀{P:List Str}{vs:List Value}{i:Nat}{m:Str->Option Value},P.Nodup->P[i]?=some x->vs[i]?=some v->F x≠some .local ->
  bindC F (P.zip vs) m x=some v
 |[],_,_,_,_,h,_,_=>by grind
 |_::_,[],_,_,_,_,h,_=>by grind
 |p::P,w::vs,0,m,nd,h1,h2,hk=>by simp at h1 h2;subst h1;subst h2;show bindC F ((p,w)::P.zip vs) m p=_;unfold bindC;rw[jW λv o=>(aat.mp nd).1 (aaO o).1,if_neg hk];simp
 |p::P,w::vs,i+1,m,nd,h1,h2,hk=>by unfold bindC;exact jY (i:=i) (aat.mp nd).2 (by grind) (by grind) hk
def start(N:List Str)(vs:List V):St:=vs.map some++List.replicate (N.length-vs.length) none
noncomputable def kC(CX:CXT)(P:Program)(w:World)(K:Waa)(mg:Str->Option Value)(base:Heap)(N:List Str)(O:Str)(S:Scope)(f:Addr)(I:Value)(A:Around)(outer:List Env)(s:Shared)(H:Hp)(E:XK):Cx where
 prog:=P
 w:=w
 K:=K
 mg:=mg
 base:=base
 A:=A.deeper (envOfC O S s.heap.objs.size f I)
 N:=N
 s₀:=s
 H₀:=H
 env:=envOfC O S s.heap.objs.size f I
 outer:=outer
 stack:=envOfC O S s.heap.objs.size f I::outer
 ex:=[]
 calm:=true
 fn:=λ_=>true
 pn:=[]
 xe:=λe B=>wpAny (model P w) (A.deeper (envOfC O S s.heap.objs.size f I)) (leaving (envOfC O S s.heap.objs.size f I) e) (λ_ C=>CX outer H s E e C) (λL C=>CX outer H s E L C) B
theorem l7{sc:Scope}(h:sc.names.lookup x=some .cell):∃c,(cellsFrom n sc.names []).lookup x=some c:=by have q:=ab9 sc.names n [] (.inl h);exact aa2.mp q
theorem sH{K:Waa}
  (S:FnScope N ps scope) (W:A.handled=none) (X:Env0 P w K mg base A outer s H) (t:vs.length=ps.length) (r:Vals vs us)
  (x:InCallC s s.heap.objs.size (bindL (envOfC qual scope s.heap.objs.size f cd).kindOf (ps.zip us) λ_=>none) (cellsFrom (s.heap.objs.size+1) scope.names []) (bindC (envOfC qual scope s.heap.objs.size f cd).kindOf (ps.zip us) λ_=>none) s1):
  Inv (kC CX P w K mg base N qual scope f cd A outer s H E) [] (start N vs) H s1:=by
 have a:ps.length<=N.length:=by have:=congrArg List.length S.pre;grind
 obtain⟨O,Y,rfl,T⟩:=x.done;have n:∀b:Addr,b ∉ (kC CX P w K mg base N qual scope f cd A outer s H E).ex:=λb z=>absurd (show b∈([]:List Addr) from z) (by simp);refine⟨⟨X.mod,S.kind,rfl,rfl,aac _,λy z c O Z=>?_,λy m=>?_,λy c _ h=>?_,λ_=>W,Around.frames_deeper X.frames,.inr ⟨rfl,rfl⟩,λb z=>absurd z (n b),X.bs,X.bsz,λb _ _=>n b,λb z=>absurd z (n b),X.funs,X.frf⟩,
  rfl,X.bare,Un.kept T,⟨_,x.toInCall.ns,λi y v O Z M=>?_⟩,λy c h=>⟨_,x.cell y c h⟩,X.hok.fresh (aac _),λy c h=>?_,λp C=>absurd (show p∈([]:List (Addr×Obj)) from C) (by simp),X.hok.kept T,?_⟩
 ·exact name_of_addr x.apart (aa3 O) (aa3 Z)
 ·have m:=m;rcases m with m|m
  ·exact l7 m
  ·exact absurd rfl (S.nofree _ (aa3 m))
 ·exact aaM (x.above y c (aa3 h))
 ·have l:i<vs.length:=by
   unfold start at Z
   grind
  have j:vs[i]?=some v:=by
   unfold start at Z
   grind
  obtain⟨u,U,g⟩:=r.get j;have C:ps[i]?=some y:=by rw[<-S.pre,List.getElem?_take_of_lt (by lia)];exact O
  have B:ps.Nodup:=by rw[<-S.pre];exact S.nd.sublist (List.take_sublist _ _)
  refine⟨u,g,?_⟩;rcases S.par y (aax C) with k|k
  ·exact .inl ⟨k,jX B C U k⟩
  ·obtain⟨c,e⟩:=l7 k;refine .inr ⟨.inl k,c,e,?_⟩;have q:=x.cell y c e;rw[jY B C U (by show scope.names.lookup y≠_;grind)]at q;exact q
 ·exact X.hok.fresh (aaM (x.above y c (aa3 h)))
 ·unfold start;show _=N.length
  grind
theorem Ge{K:Waa}{F d T U L C j:Value}{i Z:Option Addr}
  {p:Array (Option Value)}{N ps:List Str}{sp:Sp} (lk:K.lookup f=some ⟨j,Z,.func (PySem.W.fnOf name qual params body scope F d T U i L C),p⟩) (a2:PySem.W.codeIn K L qual=true) (S:FnScope N ps scope)
  (len:∀vs H Q E,sp vs H Q E->vs.length=ps.length)
  (h:∀(A:Around) (M:List Env) (s:Shared) (H:Hp) (vs:List V) (Q:VK) (E:XK),Room k (A.deeper (envOfC qual scope s.heap.objs.size f L))->sp vs H Q E ->
   ∃t,PSs (kC CX P w K mg base N qual scope f L A M s H E) body t/\t { nx:=λ_ l=>Q .non l,rt:=Q } (start N vs) H):
  FnOk P w K mg base CX (k+1) f (PySem.W.fnOf name qual params body scope F d T U i L C) ps sp:=by
 refine⟨len,λA M s H a3 us vs Q E D c hb r X=>?_⟩;have hl:=len _ _ _ _ X;have KX:K.In s.heap:=c.mod.kin.keeps λb o e=>(c.bs b o e).1;have a1:s.heap.NoLimit:=c.mod.nolimit.keeps λb o e=>(c.bs b o e).1;have a0:∀y∈ps.zip us,scope.names.lookup y.1=some .local\/(scope.names.lookup y.1=some .cell/\((cellsFrom (s.heap.objs.size+1) scope.names []).lookup y.1).isSome=true):=λ⟨n,v⟩ m=>by
  rcases S.par n (aaO m).1 with q|q
  ·exact .inl q
  ·exact .inr ⟨q,ab9 _ _ _ (.inl q)⟩
 refine codeAny_call_function D.depth (KX _ _ lk) rfl S.co S.gen rfl (PySem.W.codeRec_of KX a2) (hb _ _ _ _ ?_);refine wpAny_newFunctionEnv_cells S.kind a0 λa4 he s1 x=>?_;subst he;refine⟨a1.keeps x.toInCall.keep,codeAny_func ?_⟩;obtain⟨t,ht,hq⟩:=h A M s H vs Q E (D.deeper _) X;have I:Inv (kC CX P w K mg base N qual scope f L A M s H E) [] (start N vs) H s1:=sH S D.hd c hl r x;refine acy (ht [] s1 (start N vs) H _ I hq) (λa B g=>?_) λe B g=>g;have Y:∀{z:St}{l:Hp}{v:V}{u:Value},Inv (kC CX P w K mg base N qual scope f L A M s H E) [] z l B->RelV v u->Q v l->CE M P w H s Q u B:=
  λ{z l v u} J O q=>⟨v,l,J.os,J.bare,J.base,J.hok,O,q⟩
 cases a with
 |ret u=>obtain⟨v,z,l,J,O,q⟩:=g;exact Y J O q
 |next=>obtain⟨z,l,J,q⟩:=g;exact Y (v:=V.non) (u:=Value.none) J rfl q
 |brk=>obtain⟨_,_,_,q⟩:=g;exact False.elim q
 |cont=>obtain⟨_,_,_,q⟩:=g;exact False.elim q
end
section
section
variable{id T:String}
def JB(r:List V->Hp->VK->Prop)(t:TA):TE:=λL H Q=>t L H λc P=>r c P Q
theorem dR(U:CallR X (.builtin id) r) (N:Gl X x) (Y:X.mg x=none) (o:bootBuiltins x=some (.builtin id)) (j:PA X (e::es) t) (l:x≠"__name__":=by decide) (Z:(x==("__debug__":Str))=false:=by decide)
  (n:starEach (e::es) X.env=(false,eval e X.env)::starEach es X.env:=by rfl) (z:(backTo pos (starEach es X.env)).any (·.1)=false:=by rfl):PE X (.Call (.Name x p) (e::es) [] pos) (JB r t):=by
 intro M s L H Q I h;refine acQ (fB I N Y o ?_ l Z);exact PyProof.Rows.callWith_builtin1 (thn (j pos M s L H _ I h) λy f ⟨c,P,B,w,C⟩=>U M f L P c y Q B w C) n z
theorem gu(U:CallR X (.type T) r) (N:Gl X x) (Y:X.mg x=none) (o:bootBuiltins x=some (.type T)) (j:PA X (e::es) t) (l:x≠"__name__":=by decide) (Z:(x==("__debug__":Str))=false:=by decide)
  (n:starEach (e::es) X.env=(false,eval e X.env)::starEach es X.env:=by rfl) (z:(backTo pos (starEach es X.env)).any (·.1)=false:=by rfl):PE X (.Call (.Name x p) (e::es) [] pos) (JB r t):=by
 intro M s L H Q I h;refine acQ (fB I N Y o ?_ l Z);exact abf (thn (j pos M s L H _ I h) λy f ⟨c,P,B,w,C⟩=>U M f L P c y Q B w C) n z
end
end
end L2
namespace HT
open PySem PyProof.Rows
end HT
namespace L2
open PySem PySem.Spec PyProof.Rows
section
abbrev TO:=St->Hp->(Option Int->Hp->Prop)->Prop
section
variable{lo hi:Option Expr}
def SlR(X:Cx)(r:V->Option Int->Option Int->Hp->VK->Prop):Prop:=
 ∀(M:List (Addr×Obj)) (s:Shared) (L:St) (H:Hp) (x:V) (v l U:Value) (lo hi:Option Int) (Z:Addr) (Q:VK),Inv X M L H s->RelV x v->s.heap.IsSliceOf Z l U .none->IsPart l lo->IsPart U hi->r x lo hi H Q ->
  ∃T d,typeLookup (.type T) "__getitem__"=pure (some (.builtin d))/\s.TypeIs v T/\wpAny (model X.prog X.w) X.A (getItem v (.ref Z)) (EP X M L Q) X.xe s
theorem SlR.or(h:SlR X r)(h':SlR X r'):SlR X (λx lo hi H Q=>r x lo hi H Q\/r' x lo hi H Q):=by
 intro M s L H x v l U lo hi Z Q I J g a u q;rcases q with q|q
 ·exact h M s L H x v l U lo hi Z Q I J g a u q
 ·exact h' M s L H x v l U lo hi Z Q I J g a u q
end
end
section
noncomputable def ixN(n:Nat)(i:Int):Option Nat:=if 0<=i then (if i<n then some i.toNat else none) else if -(n:Int)<=i then some (i+n).toNat else none
def atI{Y:Type}(xs:List Y)(i:Int):Option Y:=(ixN xs.length i).bind λj=>xs[j]?
theorem ixN_seq(h:ixN n i=some j):seqIndex? i n=some j/\j<n/\-(n:Int)<=i/\i<n:=by
 unfold ixN at h;by_cases P:0<=i
 ·rw[if_pos P]at h;by_cases O:i<n
  ·rw[if_pos O]at h;have e:=aa1 h;exact⟨by rw[seqIndex_of P O,e],by lia,by lia,O⟩
  ·grind
 ·rw[if_neg P]at h;by_cases O:-(n)<=i
  ·rw[if_pos O]at h;have e:=aa1 h;exact⟨by rw[seqIndex_neg (by lia) O,e],by lia,O,by lia⟩
  ·grind
theorem atI_get{Y:Type}{xs:List Y}{i:Int}{v:Y}(h:atI xs i=some v):∃j,seqIndex? i xs.length=some j/\xs[j]?=some v/\j<xs.length/\-(xs.length:Int)<=i/\i<xs.length:=by
 unfold atI at h;cases e:ixN xs.length i with
 |none=>rw[e]at h;cases h
 |some j=>rw[e]at h;obtain⟨O,Z,M,F⟩:=ixN_seq e;exact⟨j,O,h,Z,M,F⟩
theorem atI_last{Y:Type}(xs:List Y)(v:Y):atI (xs++[v]) (-1)=some v:=by
 have t:(xs++[v]).length=xs.length+1:=by simp
 have e:ixN (xs++[v]).length (-1)=some xs.length:=by unfold ixN;rw[t,if_neg (by decide),if_pos (by omega)];congr 1;omega
 unfold atI;rw[e];show (xs++[v])[xs.length]?=some v;simp
def PlainIx(b:Expr):Prop:=∀o i,subscripted b false o i=operate [o,i] (getItem o i)
def IxR(X:Cx)(r:R2):Prop:=
 ∀(C e:Expr) (M:List (Addr×Obj)) (s:Shared) (L:St) (H:Hp) (x y:V) (v u:Value) (Q:VK),Inv X M L H s->RelV x v->RelV y u->r x y H Q ->
  subscripted e false v u=operate [v,u] (getItem v u)->wpAny (model X.prog X.w) X.A (subscriptTail C e v u) (EP X M L Q) X.xe s
def MtR(X:Cx)(id:String)(r:V->List V->Hp->VK->Prop):Prop:=
 ∀(M:List (Addr×Obj)) (s:Shared) (L:St) (H:Hp) (x:V) (Y:List V) (v:Value) (y:List Value) (Q:VK),Inv X M L H s->RelV x v->Vals Y y->r x Y H Q ->
  wpAny (model X.prog X.w) X.A (call (.builtin id) (v::y)) (EP X M L Q) X.xe s
section
theorem IxR.or(h:IxR X r)(h':IxR X r'):IxR X (λx y H Q=>r x y H Q\/r' x y H Q):=by
 intro C e M s L H x y v u Q I J T q g;rcases q with q|q
 ·exact h C e M s L H x y v u Q I J T q g
 ·exact h' C e M s L H x y v u Q I J T q g
theorem MtR.or{d:String}(h:MtR X d r)(h':MtR X d r'):MtR X d (λx xs H Q=>r x xs H Q\/r' x xs H Q):=by
 intro M s L H x xs v y Q I J U q;rcases q with q|q
 ·exact h M s L H x xs v y Q I J U q
 ·exact h' M s L H x xs v y Q I J U q
theorem vc(D:IxR X r)(j:PE X a ta)(S:PE X b tb)(g:PlainIx b):PE X (.Subscript a b pos) (CJ r ta tb):=by intro M s L H Q I h;exact Subscript_ (CK j S I h λv u Z x y N t J T q=>D a b M Z L N x y v u Q t J T q (g _ _))
def Gf(K:Waa):R2:=λx y H Q=>∃p Y i v,x=.ref p/\y=.int i/\SqL K H p Y/\atI Y i=some v/\Q v H
def Gg(K:Waa):R2:=λx y H Q=>∃p Y i v,x=.ref p/\y=.int i/\SqT K H p Y/\atI Y i=some v/\Q v H
def rIxS:R2:=λx y H Q=>∃z i c,x=.str z/\y=.int i/\z.length<=sizeLine/\atI z.cps.toList i=some c/\Q (.str ⟨#[c]⟩) H
theorem ix_list:IxR X (Gf X.K):=by
 intro C e M s L H x y v u Q I k T h g;obtain⟨p,N,i,z,rfl,rfl,A,n,q⟩:=h;cases k;obtain⟨t,rfl⟩:=T;obtain⟨D,r,a,d⟩:=I.list A;obtain⟨j,O,Z,U,F,J⟩:=atI_get n;obtain⟨w,S,o⟩:=r.get Z;have c:=r.length;have l:=line63;have Y:EP X M L Q w s:=⟨z,H,I,o,q⟩
 by_cases P:0<=i
 ·have W:i.toNat=j:=by
   rw[seqIndex_of P J]at O
   grind
  exact item_listR a.isList P (by lia) (by grind) Y g
 ·have W:(i+(D.toArray.size)).toNat=j:=by
   rw[seqIndex_neg (by lia) F]at O
   grind
  exact subscriptTail_builtinR (x:=w) a.isList.typeIs slot_list_getitem.lookup
   (wpAny_getItem_list_neg (Q:=λr B=>r=w/\EP X M L Q r B) a.isList (by lia) (by grind) (by lia) (by grind) ⟨rfl,Y⟩) g
theorem ix_tup:IxR X (Gg X.K):=by
 intro C e M s L H x y v u Q I J T h g;obtain⟨p,N,i,z,rfl,rfl,A,n,q⟩:=h;cases J;obtain⟨t,rfl⟩:=T;obtain⟨D,r,a,d⟩:=I.tuple A;obtain⟨j,O,Z,U,F,W⟩:=atI_get n;obtain⟨w,P,o⟩:=r.get Z;have c:=r.length;have l:=line63;have Y:EP X M L Q w s:=⟨z,H,I,o,q⟩
 exact subscriptTail_builtinR (x:=w) a.typeIs slot_tuple_getitem.lookup
  (getItem_tuple (j:=j) (Q:=λr B=>r=w/\EP X M L Q r B) a (by lia) (by lia) (by grind) (by grind) ⟨rfl,Y⟩) g
theorem C0:IxR X rIxS:=by
 intro C e M s L H x y v u Q I k T h g;obtain⟨z,i,c,rfl,rfl,d,n,q⟩:=h;obtain⟨t,rfl⟩:=k;obtain⟨m,rfl⟩:=T;obtain⟨j,O,Z,P,F,J⟩:=atI_get n;have A:z.cps.toList.length=z.length:=by rfl
 rw[A]at O F J;have l:=line63;exact tail_any (typeIs_str s z t) slot_str_getitem.lookup (getItem_str (c:=c) (by
  grind) (by grind) ⟨.str ⟨#[c]⟩,H,I.tok _,⟨_,rfl⟩,q⟩) g
def K6(K:Waa):R2:=λx y H Q=>Gf K x y H Q\/Gg K x y H Q\/rIxS x y H Q
theorem og:IxR X (K6 X.K):=ix_list.or (ix_tup.or C0)
theorem oh(D:List Value)(n j:Nat)(u:Value):Obj.mapSeq (·.setIfInBounds j u) { cls:=.type "list",data:=.seq D.toArray n }={ cls:=.type "list",data:=.seq (D.set j u).toArray n }:=by simp[Obj.mapSeq]
theorem Inv.lst{M:List (Addr×Obj)}{σ:St}(I:Inv X M σ H s)(h:H p=some (.lst xs)):
  ∃(D:List Value) (n:Nat),Vals xs D/\s.heap.get? p=some { cls:=.type "list",data:=.seq D.toArray n }/\xs.length<=sizeLine:=by
 obtain⟨z,D,n,r,e⟩:=I.hok p _ h;exact⟨D,n,r,e,z⟩
theorem Inv.lstUpd{xs ys:List V}{D B:List Value}{n v:Nat}{f:Obj->Obj}(I:Inv X pins σ H s)(h:H p=some (.lst xs))
  (j:s.heap.get? p=some { cls:=.type "list",data:=.seq D.toArray n }) (y:f { cls:=.type "list",data:=.seq D.toArray n }={ cls:=.type "list",data:=.seq B.toArray v }) (r:Vals ys B) (d:ys.length<=sizeLine) (t:Nat):
  Inv X pins σ (upd H p (.lst ys)) { s with heap:=s.heap.update p f,toks:=t }:=by
 have e:(s.heap.update p f).get? p=some { cls:=.type "list",data:=.seq B.toArray v }:=by rw[Heap.get?_update_self f j (by rw[y]<;>rfl),y]
 refine I.write (by rw[h];trivial) (.inl rfl) (λb u S q=>(Heap.get?_update_other _ _ (aaG S)).trans q) ⟨_,e⟩ ?_;exact⟨d,B,v,r,e⟩
def rSetL:V->V->V->Hp->(Hp->Prop)->Prop:=λo i v H Q=>∃p Y k j,o=.ref p/\i=.int k/\H p=some (.lst Y)/\ixN Y.length k=some j/\Q (upd H p (.lst (Y.set j v)))
theorem set_list:PSet X rSetL:=by
 intro M s L H o i v S a u Q I A B f h;obtain⟨p,Y,k,j,rfl,rfl,C,c,q⟩:=h;cases A;obtain⟨t,rfl⟩:=B;obtain⟨D,n,r,g,d⟩:=I.lst C;obtain⟨O,Z,U,F⟩:=ixN_seq c;have m:=r.length;have l:=line63;have J:=
  I.lstUpd C g (oh D n j u) (r.set f j) (by grind) s.toks
 by_cases P:0<=k
 ·have T:k.toNat=j:=by
   rw[seqIndex_of P F]at O
   grind
  exact PySem.W.ki_setAt g P (by lia) (by grind) (by grind)
 ·have T:(k+(D.toArray.size)).toNat=j:=by
   rw[seqIndex_neg (by lia) U]at O
   grind
  exact PySem.W.ki_setBack g (by lia) (by grind) (by lia) (by grind)
def cF:V->Bool
 |.non=>true
 |.bl _=>true
 |.int _=>true
 |.str _=>true
 |_=>false
noncomputable def eqV:V->V->Bool
 |.non,.non=>true
 |.bl a,.bl b=>a==b
 |.bl a,.int b=>(if a then 1 else 0)==b
 |.int a,.bl b=>a==(if b then 1 else 0)
 |.int a,.int b=>a==b
 |.str a,.str b=>a==b
 |_,_=>false
theorem C1(T:RelV y u)(J:RelV x v)(Y:cF y=true)(fx:cF x=true):SeqAt.EqAt A s u v (eqV y x):=by
 cases y with
 |non=>
  cases T;cases x with
  |non=>cases J;exact SeqAt.EqAt.same _
  |bl b=>cases J;exact SeqAt.EqAt.none_bool b
  |int b=>obtain⟨t,rfl⟩:=J;exact SeqAt.EqAt.none_int b t
  |str b=>obtain⟨t,rfl⟩:=J;exact SeqAt.EqAt.none_str b t
  |_=>trivial
 |bl a=>
  cases T;cases x with
  |non=>cases J;exact SeqAt.EqAt.bool_none a
  |bl b=>cases J;exact SeqAt.EqAt.bool_bool a b
  |int b=>obtain⟨t,rfl⟩:=J;exact SeqAt.EqAt.bool_int a b t
  |str b=>obtain⟨t,rfl⟩:=J;exact SeqAt.EqAt.bool_str a b t
  |_=>trivial
 |int a=>
  obtain⟨z,rfl⟩:=T;cases x with
  |non=>cases J;exact SeqAt.EqAt.int_none a z
  |bl b=>cases J;exact SeqAt.EqAt.int_bool a z b
  |int b=>obtain⟨t,rfl⟩:=J;exact SeqAt.EqAt.int_int a z b t
  |str b=>obtain⟨t,rfl⟩:=J;exact SeqAt.EqAt.int_str a z b t
  |_=>trivial
 |str a=>
  obtain⟨z,rfl⟩:=T;cases x with
  |non=>cases J;exact SeqAt.EqAt.str_none a z
  |bl b=>cases J;exact SeqAt.EqAt.str_bool a z b
  |int b=>obtain⟨t,rfl⟩:=J;exact SeqAt.EqAt.str_int a z b t
  |str b=>obtain⟨t,rfl⟩:=J;exact SeqAt.EqAt.str_str a z b t
  |_=>trivial
 |_=>trivial
def oi(x:V)(u:Value):Bool:=match u with
 |.none=>eqV .non x
 |.bool b=>eqV (.bl b) x
 |.int i _=>eqV (.int i) x
 |.str z _=>eqV (.str z) x
 |_=>false
theorem vd(r:RelV y u)(f:cF y=true):oi x u=eqV y x:=by
 cases y with
 |non=>cases r;rfl
 |bl b=>cases r;rfl
 |int i=>obtain⟨t,rfl⟩:=r;rfl
 |str z=>obtain⟨t,rfl⟩:=r;rfl
 |_=>trivial
theorem fM:∀{xs:List V}{us:List Value},Vals xs us->xs.all cF=true->us.any (oi x)=xs.any λy=>eqV y x
 |_,_,.nil,_=>rfl
 |y::xs,u::us,.cons r t,f=>by rw[List.all_cons,aaC]at f;rw[aaP,aaP,vd r f.1,fM t f.2]
theorem dS(J:RelV x v)(fx:cF x=true):∀{xs:List V}{us:List Value},Vals xs us->xs.all cF=true->∀u∈us,SeqAt.EqAt A s u v (oi x u)
 |_,_,.nil,_=>by simp
 |y::xs,u::us,.cons r t,f=>λo U=>by
  rw[List.all_cons,aaC]at f;rcases aaa.mp U with rfl|U
  ·rw[vd r f.1];exact C1 r J f.1 fx
  ·exact dS J fx t f.2 o U
def inV(x:V)(xs:List V):Bool:=xs.any λy=>eqV y x
def JC(K:Waa)(M:Bool):R2:=λx y H Q=>∃p Y,y=.ref p/\(SqL K H p Y\/SqT K H p Y)/\cF x=true/\Y.all cF=true/\Q (.bl (if M then !inV x Y else inV x Y)) H
theorem sI:OpR X (compareOp .In) (JC X.K false):=by
 intro M s L H x y v u Q I J T h;obtain⟨p,Y,rfl,A,F,U,q⟩:=h;cases T;rcases A with A|A
 ·obtain⟨D,r,a,d⟩:=I.list A;refine SeqAt.in_listAt (oi x) a.isList (λw c=>dS J F r U w (by grind)) ⟨.bl _,H,I,rfl,?_⟩;rw[show D.toArray.any (oi x)=D.any (oi x) by simp,fM r U];exact q
 ·obtain⟨D,r,a,d⟩:=I.tuple A;refine SeqAt.in_tupleAt (oi x) a (λw c=>dS J F r U w (by grind)) ⟨.bl _,H,I,rfl,?_⟩;rw[show D.toArray.any (oi x)=D.any (oi x) by simp,fM r U];exact q
theorem kD:OpR X (compareOp .NotIn) (JC X.K true):=by
 intro M s L H x y v u Q I J T h;obtain⟨p,Y,rfl,A,F,U,q⟩:=h;cases T;rcases A with A|A
 ·obtain⟨D,r,a,d⟩:=I.list A;refine SeqAt.notIn_listAt (oi x) a.isList (λw c=>dS J F r U w (by grind)) ⟨.bl _,H,I,rfl,?_⟩;rw[show D.toArray.any (oi x)=D.any (oi x) by simp,fM r U];exact q
 ·obtain⟨D,r,a,d⟩:=I.tuple A;refine SeqAt.notIn_tupleAt (oi x) a (λw c=>dS J F r U w (by grind)) ⟨.bl _,H,I,rfl,?_⟩;rw[show D.toArray.any (oi x)=D.any (oi x) by simp,fM r U];exact q
theorem CallR.or(h:CallR X f r)(h':CallR X f r'):CallR X f (λxs H Q=>r xs H Q\/r' xs H Q):=by
 intro M s L H xs y Q I U q;rcases q with q|q
 ·exact h M s L H xs y Q I U q
 ·exact h' M s L H xs y Q I U q
theorem kF:CallR X (.type "list") (λxs H Q=>∃p ys,xs=[.ref p]/\(SqL X.K H p ys\/SqT X.K H p ys)/\∀l,H l=none->Q (.ref l) (upd H l (.lst ys))):=by
 intro B s L H xs y Q I r h;obtain⟨p,ys,rfl,A,q⟩:=h;obtain⟨u,rfl,J⟩:=vals1 r;cases J;have Y:∀(D:List Value),Vals ys D->ys.length<=sizeLine->∀(C:Heap) (M:Nat),(∀b P,s.heap.get? b=some P->C.get? b=some P) ->
   C.get? s.heap.objs.size=some { cls:=.type "list",dict:=none,data:=.seq D.toArray M,slots:=#[] }->EP X B L Q (.ref s.heap.objs.size) { s with heap:=C }:=λD f d C M Z e=>
  ⟨.ref s.heap.objs.size,_,I.laid Z (aac _) (show ObjOk X.prog X.w _ C _ (.lst ys) from ⟨d,D,M,f,e⟩),rfl,q _ (I.hok.fresh (aac _))⟩
 rcases A with A|A
 ·obtain⟨D,f,a,d⟩:=I.list A;have S:=f.length;obtain⟨o,j,U,n,W⟩:=a.isList;exact call_list_seq p (.inl rfl) j U W (λC M Z e=>Y D f d C M Z e) (by grind)
 ·obtain⟨D,f,a,d⟩:=I.tuple A;have S:=f.length;obtain⟨o,j,U,n,W⟩:=a;exact call_list_seq p (.inr rfl) j U W (λC M Z e=>Y D f d C M Z e) (by grind)
theorem jO:CallR X (.type "tuple") (λxs H Q=>∃p ys,xs=[.ref p]/\((SqL X.K H p ys/\∀l,H l=none->Q (.ref l) (upd H l (.tup ys)))\/(SqT X.K H p ys/\Q (.ref p) H))):=by
 intro M s L H xs y Q I r h;obtain⟨p,ys,rfl,h⟩:=h;obtain⟨u,rfl,J⟩:=vals1 r;cases J;rcases h with ⟨A,q⟩|⟨A,q⟩
 ·obtain⟨D,f,a,d⟩:=I.list A;have S:=f.length;refine call_tuple_list a.isList (λC Z=>?_) (by grind);have B:Inv X M L H { s with heap:=C }:=I.kept Z;have t:Inv X M L (upd H C.objs.size (.tup ys)) { s with heap:=C.push { cls:=.type "tuple",data:=.seq D.toArray } }:=
   B.laid (λb o e=>acw _ e) (aac _) (⟨d,D,f,⟨_,acx _ rfl,rfl,_,rfl,rfl⟩⟩)
  exact⟨.ref C.objs.size,_,t,rfl,q _ (B.hok.fresh (aac _))⟩
 ·obtain⟨D,f,a,d⟩:=I.tuple A;exact call_tuple_same a ⟨.ref p,H,I,rfl,q⟩
def K7(K:Waa)(T:String)(x:V)(H:Hp):Prop:=match x with
 |.str _=>T="str"
 |.int _=>T="int"
 |.ref p=>(T="list"/\∃Y,SqL K H p Y)\/(T="tuple"/\∃Y,SqT K H p Y) \/
   (T="dict"/\((∃N,H p=some (.dK N))\/∃N,H p=some (.dT N)))\/(T="set"/\∃S n,H p=some (.set S n))
 |_=>False
theorem C3{M:List (Addr×Obj)}{σ:St}(I:Inv X M σ H s)(r:RelV x v)(d:K7 X.K T x H):
  s.TypeIs v T/\∀a,v=.ref a->∃m,s.heap.get? a=some m/\m.dict=none:=by
 cases x with
 |str z=>obtain⟨t,rfl⟩:=r;cases (d);exact⟨typeIs_str s z t,λ_ e=>nomatch e⟩
 |int i=>obtain⟨t,rfl⟩:=r;cases (d);exact⟨typeIs_int s i t,λ_ e=>nomatch e⟩
 |ref p=>
  cases r;rcases d with ⟨rfl,Y,A⟩|⟨rfl,Y,P⟩|⟨rfl,P⟩|⟨rfl,S,n,P⟩
  ·obtain⟨D,_,l,_⟩:=I.list A;refine⟨l.isList.typeIs,λa e=>?_⟩;cases e;obtain⟨o,n,e,c,W,_⟩:=l
   grind
  ·obtain⟨o,O,Z,Q⟩:=I.tupN P;refine⟨⟨o,O,Z⟩,λa e=>?_⟩
   grind
  ·have z:∃o,s.heap.get? p=some o/\o.ExactDict:=by
    rcases P with ⟨N,P⟩|⟨N,P⟩
    ·obtain⟨_,_,_,_,o,_,_,e,k,_⟩:=I.hok p _ P
     grind
    ·obtain⟨_,_,_,_,o,_,_,e,k,_⟩:=I.hok p _ P
     grind
   obtain⟨o,e,k⟩:=z;refine⟨⟨o,e,k.1⟩,λa B=>?_⟩;cases B;exact⟨o,e,k.2.1⟩
  ·obtain⟨o,_,_,_,e,k,_⟩:=I.hok p _ P;refine⟨⟨o,e,k.1⟩,λa B=>?_⟩;cases B;exact⟨o,e,k.2.1⟩
 |_=>trivial
def LN(K:Waa)(T:String)(r:V->List V->Hp->VK->Prop)(A:TE)(t:TA):TE:=λL H Q=>A L H λx P=>K7 K T x P/\t L P λY N=>r x Y N Q
variable{T id:String}
theorem qc(J:PlainAttrs T) (a:Slot T name id) (D:typeOf (.builtin id)=pure (.type "method_descriptor")) (Y:MtR X id r) (j:PE X o to) (i:PA X (e::es) t)
  (A:attributeBase o name X.env (eval o X.env)=eval o X.env:=by rfl)
  (W:((backTo cpos (starEach (e::es) X.env)).all (λx=>!x.1)&&(backToKw cpos (keywordEach [] X.env)).all (λx=>x.1.isSome)
   && decide ((e::es).length+([]:List Keyword).length+(if ([]:List Keyword).isEmpty then 0 else 1)<30))=true:=by rfl)
  (S:(apos.endLine==cpos.line)=true:=by rfl) (g:starEach (e::es) X.env=(false,eval e X.env)::starEach es X.env:=by rfl) (n:(backTo cpos (starEach es X.env)).any (·.1)=false:=by rfl):
  PE X (.Call (.Attribute o name apos) (e::es) [] cpos) (LN X.K T r to t):=by
 intro M s L H Q I h;refine wpAny_Call_method_late A W S rfl (thn (j M s L H _ I h) λv f m=>?_);obtain⟨x,P,B,w,d,C⟩:=m;obtain⟨O,U⟩:=C3 B w d;refine⟨T,id,J,a,D,O,U,?_⟩;have F:=i cpos M f L P _ B C;rw[g]at F ⊢;refine Calls.callWith_builtin (by show (false||(backTo cpos (starEach es X.env)).any (·.1))=false;rw[n]<;>rfl) (Calls.evalArgs_plain ?_);exact thn F λy Z ⟨c,N,k,p,b⟩=>Y M Z L N x c v y Q k w p b
end
end
section
def LO(X:Cx)(id:String)(r:V->List V->Hp->VK->Prop):Prop:=
 ∀(M:List (Addr×Obj)) (s:Shared) (L:St) (H:Hp) (x:V) (Y:List V) (v:Value) (y:List Value) (Q:VK),Inv X M L H s->RelV x v->Vals Y y->r x Y H Q ->
  wpAny (model X.prog X.w) X.A (call (.builtin id) (v::y)) (EP X M L Q) X.xe s
theorem Vals.one(h:Vals [x] us):∃u,us=[u]/\RelV x u:=by
 cases h with|cons r t=>cases t;exact⟨_,rfl,r⟩
theorem Vals.two(h:Vals [x,y] us):∃u v,us=[u,v]/\RelV x u/\RelV y v:=by
 cases h with|cons r t=>cases t with|cons q t=>cases t;exact⟨_,_,rfl,r,q⟩
theorem Vals.zero:∀{us:List Value},Vals [] us->us=[]
 |_,.nil=>rfl
theorem Vals.rep(h:Vals xs us):∀k:Nat,Vals (List.replicate k xs).flatten (List.replicate k us).flatten
 |0=>.nil
 |k+1=>by rw[aa4,aa4,abp,abp];exact Vals.append h (Vals.rep h k)
theorem foldl_rep(D:List Value):∀(k:Nat) (C:List Value),
  List.foldl (λv U=>v++U) C.toArray (List.replicate k D.toArray)=(C++(List.replicate k D).flatten).toArray
 |0,C=>by simp
 |k+1,C=>by
  have e:C.toArray++D.toArray=(C++D).toArray:=by simp
  have B:(C++D)++(List.replicate k D).flatten=C++(List.replicate (k+1) D).flatten:=by
   grind
  rw[<-B,<-foldl_rep D k (C++D),<-e,aa4,List.foldl_cons]
theorem Inv.lset{D B:List Value}{n:Nat}{f:Array Value->Array Value}{t':Nat}(I:Inv X pins σ H s)(w:H l=some (.lst xs))
  (e:s.heap.get? l=some { cls:=.type "list",data:=.seq D.toArray n }) (y:f D.toArray=B.toArray) (o:Vals ys B) (d:ys.length<=sizeLine):
  Inv X pins σ (upd H l (.lst ys)) { s with heap:=s.heap.update l (Obj.mapSeq f),toks:=t' }:=by
 have q:=PySem.IsL.update e f;rw[y]at q;refine I.write (by rw[w];trivial) (.inl rfl) (λC u S U=>(Heap.get?_update_other s.heap (Obj.mapSeq f) (aaG S)).trans U) ⟨_,q⟩ ?_;exact⟨d,B,_,o,q⟩
theorem Inv.lnew{t':Nat}(I:Inv X pins σ H s)(o:Vals ys its)(d:ys.length<=sizeLine):
  Inv X pins σ (upd H s.heap.objs.size (.lst ys)) { s with heap:=s.heap.push { cls:=.type "list",data:=.seq its.toArray },toks:=t' }:=
 I.laid (λ_ _ q=>acw _ q) (aac _) ⟨d,its,0,o,acx _ rfl⟩
theorem Inv.fresh(I:Inv X pins σ H s):H s.heap.objs.size=none:=I.hok.fresh (aac _)
theorem Inv.lstM(I:Inv X pins σ H s)(w:H l=some (.lst xs)):xs.length<=sizeLine/\∃(D:List Value) (n:Nat),Vals xs D/\xs.length=D.length/\s.heap.get? l=some { cls:=.type "list",data:=.seq D.toArray n }:=by obtain⟨z,D,n,r,e⟩:=I.hok l _ w;exact⟨z,D,n,r,r.length,e⟩
theorem l8(h:n<=sizeLine):Builtin.List.listTooLong n=false:=by
 unfold Builtin.List.listTooLong
 grind
def rAppend:V->List V->Hp->VK->Prop:=λx c H Q=>∃l Y y,x=.ref l/\c=[y]/\H l=some (.lst Y)/\Y.length<sizeLine/\Q .non (upd H l (.lst (Y++[y])))
theorem eN:LO X "list.append" rAppend:=by
 intro M s L H x c v k Q I J O h;obtain⟨l,Y,y,rfl,rfl,w,d,q⟩:=h;cases J;obtain⟨u,rfl,p⟩:=O.one;obtain⟨z,D,n,r,t,e⟩:=I.lstM w;refine acL F.slot_list_append ⟨_,e,rfl⟩ F.entry_list_append (F.args_list_append_2 _ _) (PySem.list_append l D.toArray n u (by grind)) ⟨e,?_⟩;refine⟨.non,_,I.lset w e (by simp) (r.append (.cons p .nil)) ?_,rfl,q⟩
 grind
def rRep:R2:=λx y H Q=>∃l k Y,x=.ref l/\y=.int k/\H l=some (.lst Y)/\-(2^63)<=k/\k<2^63/\Y.length*k.toNat<=sizeLine /\
 ∀p,H p=none->Q (.ref p) (upd H p (.lst (List.replicate k.toNat Y).flatten))
theorem len_rep{Y:Type}(xs:List Y)(k:Nat):(List.replicate k xs).flatten.length=k*xs.length:=by simp
theorem C4:OpR X (binaryOp .Mult) rRep:=by
 intro M s L H x y v u Q I J T h;obtain⟨l,k,Y,rfl,rfl,w,O,Z,d,q⟩:=h;cases J;obtain⟨t,rfl⟩:=T;obtain⟨z,D,n,r,j,e⟩:=I.lstM w;have S:D.toArray.size*k.toNat<=sizeLine:=by grind
 have P:¬ D.toArray.size*k.toNat>(2^63-1)/8:=by
  have:(sizeLine:Nat)<=(2^63-1)/8:=by decide
  omega
 have A:¬ (!Builtin.List.listFitsIndex k)=true:=by rw[fitsIndex_both O Z];simp
 have g:¬ Builtin.List.listTooLong (D.toArray.size*k.toNat)=true:=by rw[l8 S];simp
 have W:List.foldl (λo U=>o++U) #[] (List.replicate (if D.toArray.isEmpty=true then 0 else k.toNat) D.toArray)=(List.replicate k.toNat D).flatten.toArray:=by
  have b:∀m:Nat,List.foldl (λo U=>o++U) #[] (List.replicate m D.toArray)=(List.replicate m D).flatten.toArray:=λm=>by
   have:=foldl_rep D m []
   grind
  rw[b];cases D with
  |nil=>simp
  |cons a f=>rfl
 refine wpAny_binaryOp_repeat_ref (by rfl) ⟨_,e,rfl⟩ (λB=>typeIs_int B k t) noFill_list_mul F.fills_int_mul F.slot_int_rmul repeat_list F.slot_int_index.lookup
  (acL F.slot_int_rmul (typeIs_int s k t) F.entry_int_rmul (F.args_int_rmul_2 _ _) (int___rmul___int_list k t l D.toArray n)
   ⟨e,rfl,⟨_,e,rfl⟩,acL F.slot_list_mul ⟨_,e,rfl⟩ F.entry_list_mul (F.args_list_mul_2 _ _) (AutoListH.list___mul___list_int_3 l D.toArray n k t A P g) ⟨e,?_⟩⟩)
 rw[W];exact⟨.ref _,_,I.lnew (r.rep k.toNat) (by rw[len_rep,Nat.mul_comm];omega),rfl,q _ I.fresh⟩
end
end L2
namespace Att
open PySem PySem.W PySem.Calls PyProof.Rows
theorem ij:∀(ns:List Int) (vs:List Value),WellAll P h vs (ns.map WData.int)->IntsAre vs ns:=by
 intro ns;induction ns with
 |nil=>intro vs w;rw[aay]at w;cases w;exact .nil
 |cons n ns Y=>
  intro vs w;rw[aal]at w;cases w with
  |cons a b=>cases a;exact .cons _ _ (Y _ b)
theorem sJ{l:OpenLaw}(Q:l.most=some n)
  (e:l.row.toRowW.claim.pre args=true) (H:WellAll P h vals args):
  ∃a vs ns,vals=[Value.ref a]/\args=[WData.list (ns.map WData.int)]/\h.get? a=some { cls:=.type "list",data:=.seq vs.toArray }/\IntsAre vs ns/\ns.length<=n:=by
 have A:=(pre_splitW e).1;have U:l.pre.holds [] { args:=args }=true:=(pre_splitW e).2;obtain⟨d,r,rfl,O,Z⟩:=hasAllW_cons A;obtain rfl:=hasAllW_nil Z;obtain⟨Y,rfl,M⟩:=hasW_list O;obtain⟨ns,rfl⟩:=items_int M;have S:ns.length<=n:=by
  unfold OpenLaw.pre at U;have F:(WTm.not (.lt (.lit (.int (n))) (.len (.arg 0)))).holds [] { args:=[.list (ns.map .int)] }=true:=by
   have F:=(holds_andW U).1
   grind
  have J:=condW_of F (w_not (w_lt w_lit (w_len_list (w_arg rfl))))
  grind
 cases H with
 |cons x X=>
  cases X;cases x with
  |list j L=>exact⟨_,_,ns,rfl,rfl,j,ij ns _ L,S⟩
theorem sL(l:OpenLaw)(b:List WData):l.row.toRowW.claim.post b (.bool true) b=true:=
 postW_of
  (show WShape.has [] (.bool true) .bool=true by rfl)
  (w_eq_bool (w_res rfl) w_lit) rfl
theorem attach_call{l:OpenLaw}
  (z:l.most=some n) (O:d.params.defaults=[])
  (call:∀(w:World) (Q J:Shared) (C m:Str->Option Value) (p:Addr) (o:Obj) (U I T:Value) (a:Addr) (vs:List Value) (ns:List Int),
   Ground q loose [] XP w Q C m J.heap->YP w J.heap ->
   J.heap.get? p=some o->o.data=.func (docDef d.name d.params d.body d.scope U I T)->J.heap.CodeRec I d.name->C d.name=some (.ref p) ->
   J.heap.get? a=some { cls:=.type "list",data:=.seq vs.toArray }->IntsAre vs ns->ns.length<=n->J.gens=#[] ->
   codeAny (model l.prog w) callerA (.call (.ref p) ⟨[.ref a],[]⟩) (λr B=>r=.ok (.ret (.bool true))/\OldK J.heap B.heap/\B.os=J.os/\AllBare B.gens) J):
  WalkO q loose XP YP l.row.toRowW d [] (λf vs=>PySem.call f vs):=by
 intro w Q J C m G Y p o U I T k g j W u i L N b s P e y D H h;obtain rfl:=Dflts.none i O;obtain rfl:=Dflts.noKw i;obtain⟨a,vs,ns,rfl,rfl,t,c,S⟩:=sJ z e H;refine enter_call (acP (call w Q J C m p o U I T a vs ns G Y j (fd_plain W) u L t c S N) λr B A=>?_);obtain⟨rfl,Z,M,F⟩:=A;exact⟨.inl ⟨.bool true,.bool true,[],rfl,λ_=>rfl,.bool true,sL l _,λ_=>⟨List.Pairwise.nil,λ_ v=>(nomatch v)⟩⟩,Z,M,F⟩
section
variable{K:Frag}
end
end Att
namespace L2
open PySem PySem.Spec PyProof.Rows
section
theorem vals_ints:∀{vs:List Value}{ns:List Int},IntsAre vs ns->Vals (ns.map V.int) vs
 |_,_,.nil=>.nil
 |_,_,.cons n t h=>.cons ⟨t,rfl⟩ (vals_ints h)
def C5(H:Hp):Prop:=∀b,H b=none\/∃o Y,H b=some (.frz o (.lst Y))
theorem vf{P:Program}{w:World}{K:Waa}{CX:CXT}{k:Nat}{p a:Addr}{U:FuncData}{sp:Sp}{vs:List Value}{ns:List Int}
  (M:K.In s₁.heap) (a7:s₁.heap.Ns mainGlobals mg) (S:s₁.heap.Ns builtinsNs mb) (a8:∀x:Str,x≠"__name__"->mb x=bootBuiltins x) (a6:s₁.heap.NoLimit) (N:s₁.gens=#[])
  (j:s₁.heap.get? a=some { cls:=.type "list",data:=.seq vs.toArray }) (hi:IntsAre vs ns) (t:ns.length<=sizeLine) (hr:Room k callerA)
  (F:∀A:Heap,K.In A->A.Ns mainGlobals mg->FnOk P w K mg A CX k p U [x] sp) (a1:∀(s:Shared) (u:Value),BindsTo s U ⟨[u],[]⟩ [(x,u)])
  (X:∀H:Hp,C5 H->SqL K H a (ns.map V.int)->sp [.ref a] H (λv _=>v=.bl true) λ_ _ _=>False)
  (b0:∀H e B,CX [] H s₁ (λ_ _ _=>False) e B->False):
  codeAny (model P w) callerA (.call (.ref p) ⟨[.ref a],[]⟩) (λr B=>r=.ok (.ret (.bool true))/\OldK s₁.heap B.heap/\B.os=s₁.os/\AllBare B.gens) s₁:=by
 have O:=vals_ints hi;have a2:=hi.length;have a0:∀H:Hp,C5 H->SqL K H a (ns.map V.int)->HOk P w H s₁.heap->(∀b,H b≠none->b=a)->(H a≠none->K.lookup a=none) ->
   codeAny (model P w) callerA (.call (.ref p) ⟨[.ref a],[]⟩) (λr B=>r=.ok (.ret (.bool true))/\OldK s₁.heap B.heap/\B.os=s₁.os/\AllBare B.gens) s₁:=by
  intro H y g Q hA hK;have l:∀{b:Addr}{o:Obj},s₁.heap.get? b=some o->H b=none->(lV s₁.heap H).get? b=some o:=λe n=>hidT_get e n;have a9:∀{b:Addr}{o:Obj}{L:Array DictEntry}{i:Nat},s₁.heap.get? b=some o->o.data=.dict L i->H b=none:=λ{b o L i} e d=>by
   grind
  have Y:∀{b:Addr}{m:Str->Option Value},s₁.heap.Ns b m->(lV s₁.heap H).Ns b m:=λ{b m} ⟨o,L,i,e,d,r⟩=>⟨o,L,i,l e (a9 e d),d,r⟩
  have a3:=λb o e=>l (M b o e) (by
   grind)
  have I:Mod K mg (lV s₁.heap H):=⟨a3,Y a7,⟨mb,Y S,a8⟩,let ⟨mc,h1,Z⟩:=a6;⟨mc,Y h1,Z⟩⟩
  have c:Env0 P w K mg (lV s₁.heap H) callerA [] s₁ H:=⟨rfl,I,λb o e=>yI e,abD (sq _ _),trivial,λb S=>absurd (show b∈([]:List Addr) from S) (by simp),Q,.of_eq N⟩
  refine acP ((F _ a3 (Y a7)).run callerA [] s₁ H ⟨[.ref a],[]⟩ [.ref a] [.ref a] _ _ hr c (a1 s₁ (.ref a)) (.cons rfl .nil) (X H y g)) λr B h=>?_;cases r with
  |error e=>exact(b0 H e B h).elim
  |ok fl=>
   cases fl with
   |next=>trivial
   |brk=>trivial
   |cont=>trivial
   |ret u=>
    obtain⟨v,H',os,a5,C,a4,f,q⟩:=h;have D:=q;subst D;obtain rfl:=f;refine⟨rfl,OldK.of_keep λb o e=>?_,os,a5⟩;cases q:H b with
    |none=>exact C.keep b o e q (by intro z;exact absurd (show b∈([]:List Addr) from z) (by simp)) (by simp)
    |some u=>
     rcases y b with z|⟨ob,xs,z⟩
     ·rw[q]at z;cases z
     ·have z2:=C.frzs b ob _ z;obtain⟨J,_⟩:=Q b _ z;obtain⟨e2,_⟩:=a4 b _ z2;rw[e]at J;cases J;exact e2
 cases T:K.lookup a with
 |some o=>have e:=M a o T;rw[j]at e;cases e;refine a0 (λ_=>none) (λ_=>.inl rfl) (.inr ⟨_,vs.toArray,_,T,rfl,rfl,rfl,by rw[abo,a2];exact t,O⟩) (λb u z=>by have W:=z;cases W) (λb z=>absurd rfl z) λz=>absurd rfl z
 |none=>
  refine a0 (λb=>if b=a then some (.frz { cls:=.type "list",data:=.seq vs.toArray } (.lst (ns.map V.int))) else none) (λb=>?_) (.inl (.inr ⟨{ cls:=.type "list",data:=.seq vs.toArray },if_pos rfl⟩)) (λb u z=>?_) (λb z=>?_) λ_=>T
  ·by_cases S:b=a
   ·exact .inr ⟨_,_,if_pos S⟩
   ·exact .inl (if_neg S)
  ·by_cases S:b=a
   ·have W:=(if_pos S).symm.trans z;cases W;subst S;exact⟨j,by rw[aae];exact t,vs,_,O,j⟩
   ·have W:=(if_neg S).symm.trans z;cases W
  ·by_cases S:b=a
   ·exact S
   ·exact absurd (if_neg S) z
end
section
theorem walk_of{l:PySem.W.OpenLaw}{K:Params->Waa}{CX:World->CXT}{sp:World->Sp}{x:Str}
  (i:l.most=some n) (P:n<=sizeLine) (O:d.params.defaults=[]) (D:Room k callerA)
  (A:∀(w:World) (h:Heap),YP w h->(K w.params).In h)
  (F:∀(w:World) (C:Str->Option Value) (p:Addr) (h:Heap),(K w.params).In h->h.Ns mainGlobals C->C d.name=some (.ref p) ->
   ∃U:FuncData,(∀(s:Shared) (u:Value),BindsTo s U ⟨[u],[]⟩ [(x,u)]) /\
    ∀base:Heap,(K w.params).In base->base.Ns mainGlobals C->FnOk l.prog w (K w.params) C base (CX w) k p U [x] (sp w))
  (X:∀(w:World) (H:Hp) (a:Addr) (ns:List Int),ns.length<=n->C5 H->SqL (K w.params) H a (ns.map V.int)->sp w [.ref a] H (λv _=>v=.bl true) λ_ _ _=>False)
  (z:∀(w:World) (H:Hp) (s:Shared) (e:Value) (B:Shared),CX w [] H s (λ_ _ _=>False) e B->False):
  PySem.W.WalkO q loose XP YP l.row.toRowW d [] (λf vs=>PySem.call f vs):=by
 refine Att.attach_call i O λw Q J C m p o pm I a1 a vs ns G Y j hd a0 L t c S N=>?_;have M:=A w _ Y;obtain⟨U,hb,Z⟩:=F w C p _ M G.T.g L;exact vf M G.T.g G.T.b G.T.builtins G.T.nolimit N t c (aan S P) D Z hb (λH y r=>X w H a ns S y r) λH e B=>z w H J e B
end
section
noncomputable def cG(s:Stmt):Arguments:=match s with
 |.FunctionDef _ a _ _ _ _ _ _ _ _=>a
 |_=>{ posonlyargs:=[],args:=[],vararg:=none,kwonlyargs:=[],kw_defaults:=[],kwarg:=none,defaults:=[] }
def bC(s:Stmt):List Stmt:=match s with
 |.FunctionDef _ _ b _ _ _ _ _ _ _=>b
 |_=>[]
def aK(s:Stmt):Scope:=match s with
 |.FunctionDef _ _ _ _ _ _ sc _ _ _=>sc
 |_=>{ kind:=.function,names:=[],isGenerator:=false,isCoroutine:=false }
abbrev CX0:CXT:=λ_ _ _ _ _ _=>False
abbrev E0:XK:=λ_ _ _=>False
theorem l9:Passes CX0 X E0:=λ_ _ _ _ _ _ _ h=>h.elim
structure Fun (K:Waa)(x qual:Str)(st:Stmt)(f:Addr)(fd:FuncData):Prop where
 ex:∃(oc:Value) (od:Option Addr) (kV doc pm:Value) (an:Option Addr) (cdv ct:Value) (osl:Array (Option Value)),
  fd=PySem.W.fnOf x qual (cG st) (bC st) (aK st) .none kV doc pm an cdv ct/\K.lookup f=some ⟨oc,od,.func fd,osl⟩/\PySem.W.codeIn K cdv qual=true
 kp:PySem.W.keepIn K (.ref f)=true
section
variable{K:Waa}
theorem Fun.ok{x O:Str}{J:Stmt}(F:Fun K x O J f fd)(S:FnScope N ps (aK J))(len:∀vs H Q E,sp vs H Q E->vs.length=ps.length)
  (o:∀(L:Value) (A:Around) (M:List Env) (s:Shared) (H:Hp) (vs:List V) (Q:VK) (E:XK),Room k (A.deeper (envOfC O (aK J) s.heap.objs.size f L))->sp vs H Q E ->
   ∃t,PSs (kC CX0 P w K mg base N O (aK J) f L A M s H E).xc (bC J) t/\t { nx:=λ_ l=>Q .non l,rt:=Q } (start N vs) H):FnOk P w K mg base CX0 (k+1) f fd ps sp:=by
 obtain⟨j,Z,d,T,U,i,L,C,p,rfl,r,u⟩:=F.ex;refine Ge r u S len λA M s H vs Q E D X=>?_;obtain⟨t,h,q⟩:=o L A M s H vs Q E D X;exact⟨t,h.xc,q⟩
theorem kG{J:Stmt}{d T U L C:Value}(l:K.lookup f=some ⟨oc,od,.func (PySem.W.fnOf x qual (cG J) (bC J) (aK J) .none d T U an L C),osl⟩)
  (c:PySem.W.codeIn K L qual=true) (k:PySem.W.keepIn K (.ref f)=true):Fun K x qual J f (PySem.W.fnOf x qual (cG J) (bC J) (aK J) .none d T U an L C):=⟨⟨oc,od,d,T,U,an,L,C,osl,rfl,l,c⟩,k⟩
end
def Same(H l:Hp):Prop:=∀b o,H b=some o->l b=some o
theorem Same.refl(H:Hp):Same H H:=λ_ _ h=>h
theorem Same.trans(a:Same H H1)(b:Same H1 H2):Same H H2:=λc o h=>b c o (a c o h)
theorem Same.free{H Y:Hp}(e:Same H Y)(h:Y l=Option.none):H l=Option.none:=by
 cases q:H l with
 |none=>rfl
 |some o=>rw[e l o q]at h;cases h
theorem Same.seq{K:Waa}(e:Same H H')(h:SqL K H a xs):SqL K H' a xs:=by
 rcases h with (h|⟨o,h⟩)|h
 ·exact .inl (.inl (e _ _ h))
 ·exact .inl (.inr ⟨o,e _ _ h⟩)
 ·exact .inr h
end
section
theorem oj:∀(s:List (Str×NameKind)) (C:List (Str×Addr)),(∀x∈s,x.2=.free->∃c,env.cells.lookup x.1=some c) ->
  (∀x c,C.lookup x=some c->env.cells.lookup x=some c) ->
  ∃L:List (Str×Addr),forIn s C (λ(x:Str×NameKind) (r:List (Str×Addr))=>match x with
    | (name,kind)=>(if kind==NameKind.free then do let c <-cellOf env name;pure (ForInStep.yield ((name,c)::r)) else pure (ForInStep.yield r):Sem (ForInStep (List (Str×Addr)))))=pure L /\
   (∀x c,L.lookup x=some c->env.cells.lookup x=some c)/\(∀x∈s,x.2=.free->∃c,L.lookup x.1=some c)/\(∀x c,C.lookup x=some c->∃M,L.lookup x=some M):=by
 intro s;induction s with
 |nil=>intro C _ Z;exact⟨C,rfl,Z,λ_ h=>(nomatch h),λx c h=>⟨c,h⟩⟩
 |cons p r Y=>
  intro C O Z;obtain⟨n,k⟩:=p;rw[abF];have D:=λx F=>O x (aag _ F);by_cases T:k=.free
  ·subst T;obtain⟨c,U⟩:=O (n,.free) aai rfl;have X:cellOf env n=pure c:=by unfold cellOf;rw[U]
   have f:∀x M,((n,c)::C).lookup x=some M->env.cells.lookup x=some M:=λx M h=>by
    rw[abq]at h;cases F:x==n with
    |true=>rw[F]at h;cases h;rw[eq_of_beq F];exact U
    |false=>rw[F]at h;exact Z x M h
   obtain⟨L,e,a,b,d⟩:=Y ((n,c)::C) D f;refine⟨L,?_,a,λx F y=>?_,λx M h=>?_⟩
   ·show ((cellOf env n >>= λc=>pure (ForInStep.yield ((n,c)::C))) >>= _)=_;rw[X];exact e
   ·rcases aaa.mp F with rfl|F
    ·exact d n c (by simp[abq])
    ·exact b x F y
   ·cases F:x==n with
    |true=>exact d x c (by rw[abq,F])
    |false=>exact d x M (by rw[abq,F];exact h)
  ·have S:(k==NameKind.free)=false:=by simpa using T
   obtain⟨L,e,a,b,d⟩:=Y C D Z;refine⟨L,?_,a,λx F y=>?_,d⟩
   ·show ((if (k==NameKind.free)=true then _ else _) >>= _)=_;rw[S];exact e
   ·rcases aaa.mp F with rfl|F
    ·exact absurd y T
    ·exact b x F y
theorem om(h:∀x∈scope.names,x.2=.free->∃c,env.cells.lookup x.1=some c):
  ∃L:List (Str×Addr),closureFor scope env=pure L/\(∀x c,L.lookup x=some c->env.cells.lookup x=some c)/\(∀x∈scope.names,x.2=.free->∃c,L.lookup x.1=some c):=by
 obtain⟨L,e,a,b,_⟩:=oj scope.names [] h (λ_ _ h=>nomatch h);refine⟨L,?_,a,b⟩;have q:closureFor scope env=(forIn scope.names ([]:List (Str×Addr)) (λ(x:Str×NameKind) (r:List (Str×Addr))=>match x with
    | (name,kind)=>(if kind==NameKind.free then do let c <-cellOf env name;pure (ForInStep.yield ((name,c)::r)) else pure (ForInStep.yield r):Sem (ForInStep (List (Str×Addr))))) >>= λr=>pure r):=rfl
 rw[q,e];rfl
noncomputable def gw(X:Cx)(N:List Str)(S:Scope)(L:List (Str×Addr))(s:Shared)(H:Hp)(k:List Addr)(M:List (Addr×Obj)):Cx where
 prog:=X.prog
 w:=X.w
 K:=X.K
 mg:=X.mg
 base:=X.base
 A:=X.A
 N:=N
 s₀:=s
 H₀:=H
 env:=compEnvC S L s.heap.objs.size X.env
 outer:=X.stack
 stack:=X.stack
 ex:=k
 fn:=λ_=>false
 calm:=X.calm
 pn:=X.pn++M
 xe:=λ_ _=>False
structure CC where
 cl:List (Str×Addr)
 s:Shared
 H:Hp
 fp:List Addr
 pins:List (Addr×Obj)
abbrev cC(X:Cx)(N:List Str)(scope:Scope)(c:CC):Cx:=gw X N scope c.cl c.s c.H c.fp c.pins
def bU(nt:Nat)(fr:List Nat)(σ:St):St:=List.replicate nt none++fr.map λj=>(σ[j]?).join
structure CompScope (N:List Str)(nt:Nat)(fr:List Nat)(ON:List Str)(sc osc:Scope):Prop where
 kind:sc.kind=.function
 nocell:∀x∈sc.names,x.2≠.cell
 names:∀x∈sc.names,x.2=.local->sc.names.lookup x.1=some .local
 len:N.length=nt+fr.length
 out:∀(i:Nat) (j:Nat),fr[i]?=some j->∃x,N[nt+i]?=some x/\ON[j]?=some x/\osc.names.lookup x=some .cell/\sc.names.lookup x=some .free
 cells:∀x∈sc.names,x.2=.free->osc.names.lookup x.1=some .cell
 looks:∀x∈sc.names,x.2=.free->sc.names.lookup x.1=some .free
theorem cb{sc:Scope}{env:Env}:∀(s:List (Str×NameKind)) (x:Str) (k:NameKind),
  (s.map λ(n,k)=>if (k==NameKind.free&&env.scope.kind==.function&&env.kindOf n==some .cell) then (n,NameKind.cell) else (n,k)).lookup x=some k ->
  s.lookup x=some k\/(k=.cell/\s.lookup x=some .free)
 |[],_,_,h=>by grind
 | (n,k0)::r,x,k,h=>by
  have Y:=cb (sc:=sc) (env:=env) r x k
  grind
theorem oo(S:CompScope N nt fr X.N scope X.env.scope)(I:Inv X pins σ H s)
  (hf:∀b∈fp,FpOk X pins H b) (a0:∀b∈fp,b<s.heap.objs.size)
  (a:∀x c,cl.lookup x=some c->X.env.cells.lookup x=some c) (a1:∀x∈scope.names,x.2=.free->∃c,cl.lookup x.1=some c)
  (hk:∀b o,s.heap.get? b=some o->s4.heap.get? b=some o) (hn:∃m,s4.heap.Ns s.heap.objs.size m) (ho:s4.os=s.os) (hg:s4.gens=s.gens):
  Inv (gw X N scope cl s H fp pins) [] (bU nt fr σ) H s4:=by
 have f:=I.hok.fresh (aac _);have L:∀b o,s.heap.get? b=some o->b≠s.heap.objs.size:=λb o e=>aao (acu e);have U:=S.kind;have P:=λx h=>a1 (x,.free) (aa3 h) rfl;refine⟨⟨I.ok.mod,U,I.ok.glob,I.ok.blt,aac _,λx y c O Z=>I.ok.inj x y c (a x c O) (a y c Z),λx F=>?_,λ_ _ h _=>absurd (h) aaq,I.ok.hd,I.ok.frames,.inl rfl,λb hb=>⟨aao (a0 b hb),λx c e=>(hf b hb).2.2.2.2.1 x c (a x c e)⟩,
  I.bs,aan I.ok.bsz I.sz,λb o e hb=>?_,λb hb g=>?_,I.stack,I.r8⟩,ho,by rw[hg];exact I.bare,Un.kept hk,?_,λx c e=>?_,f,λx c e=>I.freeC x c (a x c e),λp C=>?_,I.hok.kept hk,?_⟩
 ·have a3:=F;rcases a3 with h|h
  ·rcases cb (sc:=scope) scope.names x _ h with q|⟨_,q⟩
   ·exact absurd rfl (S.nocell _ (aa3 q))
   ·exact P x q
  ·rcases cb (sc:=scope) scope.names x _ h with q|⟨q,_⟩
   ·exact P x q
   ·cases q
 ·rcases (hf b hb).2.2.2.1 with z|z
  ·exact I.ok.noex b o e z
  ·exact absurd (aas (acu e) (aan I.ok.bsz z)) (aaY _)
 ·rcases aaa.mp (I.l3 b g) with z|z
  ·exact(hf b hb).2.1 z
  ·exact(hf b hb).2.2.1 z
 ·obtain⟨m,Y⟩:=hn;refine⟨m,Y,λi x v O Z h3=>?_⟩;obtain⟨k,a5,a2⟩:=I.loc;have r:nt<=i:=by
   refine Nat.le_of_not_lt λa0=>?_;unfold bU at Z
   grind
  obtain⟨d,rfl⟩:∃d,i=nt+d:=⟨i-nt,by lia⟩
  unfold bU at Z;rw[aa5 (by simp),abG,abH,aaz]at Z;cases ej:fr[d]? with
  |none=>grind
  |some j=>
   rw[ej]at Z;have a6:=aa1 Z;have a4:σ[j]?=some (some v):=by
    grind
   obtain⟨y,J,B,e3,e4⟩:=S.out d j ej;have t:N[nt+d]?=some x:=O;rw[J]at t;cases t;obtain⟨u,ru,l⟩:=a2 j x v B a4 (.inr (.inl e3));refine⟨u,ru,?_⟩;rcases l with ⟨q,_⟩|⟨_,c,ec,z⟩
   ·have D:X.env.scope.names.lookup x=some .local:=q
    grind
   ·obtain⟨M,Q⟩:=P x e4;have:M=c:=by grind
    subst this;obtain⟨o,T,W⟩:=z;refine .inr ⟨?_,M,Q,⟨o,hk _ _ T,W⟩⟩;rcases h3 with q|q|q
    ·have D:=q;rcases cb (sc:=scope) scope.names x _ D with z|⟨z,_⟩
     ·grind
     ·cases z
    ·exact .inl q
    ·exact .inr q
 ·obtain⟨v,o,T,W⟩:=I.cell x c (a x c e);exact⟨v,o,hk _ _ T,W⟩
 ·have w:p∈X.pn++pins:=by
   rcases aak.mp C with z|z
   ·exact z
   ·grind
  obtain⟨e,n,A,nf,d⟩:=I.pin p w;refine⟨hk _ _ e,n,L _ _ e,λz=>?_,d⟩;rcases aaa.mp (I.l3 p.1 z) with q|q
  ·grind
  ·grind
 ·show (bU nt fr σ).length=N.length;unfold bU;rw[aaj,abG,aae,S.len]
theorem vg(I:Inv X pins σ H s)(y:∀b∈fp,FpOk X pins H b)
  (i:H D=none) (h:s.heap.objs.size<=D) (C:D<s3.heap.objs.size) (hk:∀b o,s.heap.get? b=some o->s3.heap.get? b=some o) (B:s3.os=s.os)
  (J:Inv (gw X N scope cl s3 (upd H D o0) fp pins) pins' σ' H1 s5) (g:Heap.SameBut s3.heap.objs.size s5.heap h'):
  Inv X pins σ H1 { s5 with heap:=h' }:=by
 have k:=aaM (Nat.lt_of_le_of_lt h C);have A:∀b,b<s.heap.objs.size->b≠D/\b≠s3.heap.objs.size:=λb S=>⟨aao (aas S h),aao (aas S k)⟩
 have O:∀b,b≠D->(upd H D o0) b=H b:=λb S=>upd_ne S;refine I.call' (ch:=fp) (J.os.trans B) ⟨λb o e n S F=>?_,λb o e n S F=>?_,λb o e n F=>?_,λb o e F=>?_,λb Y e=>?_,λb o u e=>?_,λb T e=>?_⟩ ?_ J.bare λb S=>?_
 ·obtain⟨d,a⟩:=A b (acu e);exact(g.2 b a).trans (J.base.keep b o (hk b o e) ((O b d).trans n) S F)
 ·obtain⟨d,a⟩:=A b (acu e);obtain⟨Z,q⟩:=J.base.slot b o (hk b o e) ((O b d).trans n) S F;exact⟨Z,(g.2 b a).trans q⟩
 ·obtain⟨d,a⟩:=A b (acu e);exact J.base.free b o (hk b o e) ((O b d).trans n) F
 ·obtain⟨d,a⟩:=A b (acu e);obtain⟨P,q⟩:=J.base.there b o (hk b o e) F;exact⟨P,(g.2 b a).trans q⟩
 ·exact J.base.tups b Y ((O b (au e i)).trans e)
 ·exact J.base.frzs b o u ((O b (au e i)).trans e)
 ·exact J.base.tbls b T ((O b (au e i)).trans e)
 ·intro b u e;refine(J.hok b u e).nc (λc v U q=>(g.2 c ?_).trans q) (λ_ q=>q) λ_ _ q=>q;have m:H1 s3.heap.objs.size=none:=J.free
  grind
 ·obtain⟨z,r,W,f,p,l⟩:=y b S
  grind
def FJ(e:Expr):Prop:=(∃a b c d,e=.ListComp a b c d)\/(∃a b c d f,e=.DictComp a b c d f)\/∃a b c d,e=.SetComp a b c d
noncomputable abbrev cY(e:Expr)(d:Nat)(tg:Expr)(p:Pos)(it acc:Value)(env:Env)(body:Sem Unit):Sem Fin:=
 standAt p >>= λ_=>pyNext it >>= λr=>match r with
  |none=>pure (.done .next)
  |some v=>letOwnedTupleGo tg it v >>= λ_=>assign tg env v >>= λ_=>body >>= λ_=>again (.compLoop e d it acc env)
abbrev TB:=St->Hp->(St->Hp->Prop)->Prop
def PB(Y:Cx)(u:Sem Unit)(T:TB):Prop:=∀(M:List (Addr×Obj)) (s:Shared) (L:St) (H:Hp) (Q:St->Hp->Prop),Inv Y M L H s->T L H Q->wpAny (model Y.prog Y.w) Y.A u (λ_ B=>∃z l,Inv Y M z l B/\Q z l) Y.xe s
theorem sM(a:FJ e)
  (u:compTurn e d it acc env=cY e d tg p it acc env body) (I:Nat->Shared->Prop)
  (H:∀n s,I n s->wpAny (model prog w) A (pyNext it) (λr f=>match r with
   |none=>R (.ok .next) f
   |some v=>wpAny (model prog w) A (letOwnedTupleGo tg it v) (λ_ Z=>wpAny (model prog w) A (assign tg env v) (λ_ Q=>wpAny (model prog w) A body (λ_ c=>∃m,m<n/\I m c) (λ_ _=>False) Q) (λ_ _=>False) Z) (λ_ _=>False) f) (λ_ _=>False) s)
  (n:Nat) (h:I n s):codeAny (model prog w) A (.compLoop e d it acc env) R s:=by
 rcases a with ⟨x,U,o,X,rfl⟩|⟨x,U,o,X,t,rfl⟩|⟨x,U,o,X,rfl⟩ <;>
 ·refine codeAny_loop rfl I (λn s W=>?_) n h;refine wpAny_noted ?_;rw[u];refine acs (acC (acs (acy (H n s W) (λr f O=>?_) λ_ _ z=>z.elim)));cases r with
  |none=>exact acv O
  |some v=>refine acs (acy O (λ_ Z Y=>?_) λ_ _ z=>z.elim);refine acs (acy Y (λ_ Q M=>?_) λ_ _ z=>z.elim);exact acs (acy M (λ_ c F=>acv ⟨rfl,F⟩) λ_ _ z=>z.elim)
def JD(J:It)(g:TG)(T:TB)(σ:St)(H:Hp)(Q:St->Hp->Prop):Prop:=∃W:Nat->Nat->St->Hp->Prop,(∃m,W 0 m σ H)/\∀i m σ H,W i m σ H->(J.stop i H/\Q σ H)\/(J.go i H/\∀x l,J.yld i H x l->g x σ l λk N=>T k N λj q=>∃y,y<m/\W (i+1) y j q)
theorem sN(he:FJ e)(U:Y.calm=true)(hx:Y.xe=λ_ _=>False)
  (ht:compTurn e d (.ref it) acc Y.env=cY e d tg p (.ref it) acc Y.env body)
  (T:Turn Y.prog Y.w Y.K tg J fp it tn) (N:PG Y tg g) (S:PB Y body tb) (I:Inv Y pins σ H s) (st:tn 0 s.heap) (f:∀b∈fp,FpOk Y pins H b) (w:JD J g tb σ H Q) (fin:∀z l B,Inv Y pins z l B->(∀b∈fp,l b=none)->Q z l->R (.ok .next) B):
  codeAny (model Y.prog Y.w) Y.A (.compLoop e d (.ref it) acc Y.env) R s:=by
 obtain⟨W,⟨k,w0⟩,a0⟩:=w;unfold PG at N;unfold PB at S;rw[hx]at N S;have t:∀{l:Hp},(∀b∈fp,l b=none)->∀b∈fp,FpOk Y pins l b:=λhn b S=>⟨hn b S,(f b S).2⟩
 refine sM he ht (λn B=>∃i z l,Inv Y pins z l B/\tn i B.heap/\(∀b∈fp,l b=none)/\W i n z l) ?_ k ⟨0,σ,H,I,st,λb S=>(f b S).1,w0⟩;rintro n O ⟨i,j,q,I3,M,C,w3⟩;rcases a0 i n j q w3 with ⟨L,qn⟩|⟨h,a2⟩
 ·refine thn (T.done Y rfl rfl rfl U i pins O j q _ I3 (t C) M L) λr c m=>?_;obtain⟨D,I4⟩:=m;subst D;exact fin j q c I4 C qn
 ·refine thn (T.item Y rfl rfl rfl U i pins O j q _ I3 (t C) M h) λr c m=>?_;obtain⟨u,D,F⟩:=m;subst D;refine thn F λ_ s5 m=>?_;obtain⟨x,v,I5,r5,y5,a,a5⟩:=m;refine thn (N _ s5 j v x u _ (I5.pinned (t a5) (T.obj _ _ a)) r5 (a2 x v y5)) λ_ s6 m=>?_;obtain⟨a4,H6,X,q6⟩:=m;refine thn (S _ s6 a4 H6 _ X q6) λ_ s7 m=>?_;obtain⟨a3,H7,P,y,hm,Z⟩:=m;have a1:=λb (S:b∈fp) o e=>P.pin (b,o) (aad _ (aad _ (fD S e)));refine⟨y,hm,i+1,a3,H7,P.et,T.keep _ _ _ a λb S o e=>(a1 b S o e).1,λb S=>?_,Z⟩;obtain⟨o,e,_⟩:=T.obj _ _ a b S;exact(a1 b S o e).2.1
theorem C6(n:FJ e)(W:(clausesOf e)[d]?=some c)(j:c.is_async=0)
  (P:codeAny (model prog w) A (.compLoop e d it acc env) R s) (h:wpAny (model prog w) A (pyIter it) (λI B=>codeAny (model prog w) A (.compLoop e d I acc env) R B) (λ_ _=>False) s):
  codeAny (model prog w) A (.compStart e d it acc env) R s:=by
 have J:((clausesOf e)[d]?).elim false (·.is_async !=0)=false:=by
  grind
 rcases n with ⟨v,U,o,X,rfl⟩|⟨v,U,o,X,t,rfl⟩|⟨v,U,o,X,rfl⟩ <;>
 ·refine codeAny_of_tree (wpAny_notedAt ?_);unfold compStart;rw[J,W];refine acs (wpAny_askSetting (wpAny_ite ?_));split
  ·first
    |exact acs (acv (acv ⟨rfl,P⟩))
    |exact acv ⟨rfl,P⟩
  ·refine acs (acH ?_);exact acs (acC (acs (acy h (λI B C=>acv ⟨rfl,C⟩) λ_ _ z=>z.elim)))
structure MkC (X:Cx)(mk:Sem Value)(o:Obj)(o0:HO):Prop where
 new:∀{s:Shared}{Q:Value->Shared->Prop},Q (.ref s.heap.objs.size) { s with heap:=s.heap.push o }->wpAny (model X.prog X.w) X.A mk Q X.xe s
 laid:∀{pins:List (Addr×Obj)}{σ:St}{H:Hp}{s:Shared},Inv X pins σ H s->Inv X pins σ (upd H s.heap.objs.size o0) { s with heap:=s.heap.push o }
def iH(B:HO)(Z:TI)(nt:Nat)(fr:List Nat)(g:CC->TG)(T:CC->Addr->TB):TE:=λL H Q=>Z L H λJ P=>∀(c:CC) D,P D=none->JD J (g c) (T c D) (bU nt fr L) (upd P D B) λ_ l=>Q (.ref D) l
section
variable{rest:List Comprehension}{body:Addr->Env->Sem Unit}
theorem iI{B:Option (Value->Sem Unit)}{Q0:Value->Shared->Prop}(he:FJ e)(a:clausesOf e=⟨tg,iter,ifs,0⟩::rest)(u:∀it D env,compTurn e 0 it (.ref D) env=cY e 0 tg iter.pos it (.ref D) env (body D env))(M:MkC X mk o o0)(U:X.calm=true)(S:CompScope N nt fr X.N scope X.env.scope)(r:PI X tg iter wi)
  (hg:∀c:CC,PG (cC X N scope c) tg (g c)) (ha:∀(c:CC) D,PB (cC X N scope c) (body D (cC X N scope c).env) (tb c D))
  (I:Inv X pins σ H s) (h:iH o0 wi nt fr g tb σ H Q) (b1:∀x∈scope.names,x.2=.free->X.env.kindOf x.1=some .cell)
  (fin:∀(D C:Addr) (i:Shared) (P:Hp),FpOk X pins P C->i.heap.get? C≠none->C≠X.env.locals->(∃m,i.heap.Ns C m)->(∀h',Heap.SameBut C i.heap h'->Inv X pins σ P { i with heap:=h' })->Q (.ref D) P ->
   compPost (model X.prog X.w) X.A X.xe B Q0 (.ref D) C (.ok .next) i)
  (hs:∀x,foldedSetIterable iter X.env x=pure x:=by intro _;rfl):
  wpAny (model X.prog X.w) X.A (comprehension e scope X.env pos mk false (eval iter X.env) B) Q0 X.xe s:=by
 have a2:=λx hx y=>I.ok.has x.1 (.inl (b1 x hx y));obtain⟨L,a7,h1,h2⟩:=om a2;refine wpAny_comprehension_free a hs a7 S.kind S.names (thn (r pins s σ H _ I h) λxv s1 hx=>thn hx λb4 Z F=>?_);obtain⟨it,k,tn,J,H2,rfl,I2,T,a5,W,f⟩:=F;have v:=λb hb=>let ⟨o,e,_⟩:=T.obj 0 _ a5 b hb;acu e
 refine M.new (wpAny_newFunctionEnv S.nocell (by simp) (λq a1 a0=>?_) S.kind);have hD:=I2.hok.fresh (aac _);have d:=M.laid I2;generalize hs3:({ Z with heap:=Z.heap.push o })=s3 at a1 a0 d ⊢;have f:=f ⟨L,s3,upd H2 Z.heap.objs.size o0,k,pins⟩ _ hD;have a9:∀b o,Z.heap.get? b=some o->s3.heap.get? b=some o:=λb o e=>by rw[<-hs3];exact acw _ e
 have z3:s3.heap.objs.size=Z.heap.objs.size+1:=by rw[<-hs3];simp
 have O:s3.os=Z.os:=by grind
 have f3:∀b∈k,FpOk X pins (upd H2 Z.heap.objs.size o0) b:=λb hb=>⟨by rw[upd_ne (aao (v b hb))];exact(W b hb).1,(W b hb).2⟩
 have b3:=λb o e=>a0.extBut b o (aao (acu e)) (acw _ e);generalize hs4:({ s3 with heap:=q,toks:=s3.toks+([]).length })=s4;have b0:s4.heap=q:=by grind
 have n:Inv (gw X N scope L s3 (upd H2 Z.heap.objs.size o0) k pins) [] (bU nt fr σ) (upd H2 Z.heap.objs.size o0) s4:=
  oo S d f3 (λb hb=>by grind) h1 h2 (λb o e=>by grind) ⟨_,by rw[b0];omega⟩ (by grind) (by grind)
 have a6:tn 0 s4.heap:=T.keep 0 _ _ a5 λb hb o e=>by grind
 have a3:codeAny (model X.prog X.w) X.A (.compLoop e 0 (.ref it) (.ref Z.heap.objs.size) (compEnvC scope L s3.heap.objs.size X.env))
   (compPost (model X.prog X.w) X.A X.xe B Q0 (.ref Z.heap.objs.size) s3.heap.objs.size) s4:=by
  have t:∀{l:Hp},(∀b∈k,l b=none)->∀b∈k,FpOk (gw X N scope L s3 (upd H2 Z.heap.objs.size o0) k pins) [] l b:=λ{l} hn b hb=>
   ⟨hn b hb,aao (show b<s3.heap.objs.size by grind),λz=>n.ok.exfs b hb z,.inl hb,λx c e=>(W b hb).2.2.2.2.1 x c (h1 x c e),λp hp=>(W b hb).2.2.2.2.2 p (by
    rcases aak.mp hp with z|z
    ·exact z
    ·grind)⟩
  refine sN he (Y:=gw X N scope L s3 (upd H2 Z.heap.objs.size o0) k pins) U rfl (u ..) T (hg ⟨L,s3,upd H2 Z.heap.objs.size o0,k,pins⟩) (ha ⟨L,s3,upd H2 Z.heap.objs.size o0,k,pins⟩ _) n a6 (t λb hb=>(f3 b hb).1) f λb2 H6 s6 I6 _ qn=>?_;obtain⟨m,hm,_⟩:=id I6.loc;refine fin _ _ s6 H6 (I2.rd (by rw[z3];exact abb _) I6.free) ?_ ?_ ⟨m,hm⟩ (λh' a8=>vg I2 W hD (aac _) (by rw[z3];exact aba _) a9 O I6 a8) qn
  ·obtain⟨o,_,_,j,_⟩:=hm;intro z;have a4:s6.heap.get? s3.heap.objs.size=some o:=j;rw[z]at a4;cases a4
  ·exact aa9 (abI I2.lt (by rw[z3];exact aba _))
 exact C6 he (by rw[a];rfl) rfl a3 (T.self X.A 0 s4 _ _ a6 a3)
theorem qe{J O:Pos}(n:FJ e)(a0:clausesOf e=⟨tg,iter,ifs,0⟩::rest)(u:∀it D env,compTurn e 0 it (.ref D) env=cY e 0 tg iter.pos it (.ref D) env (body D env))(M:MkC X mk o o0)(hu:∀B,evalThenUse e X.env B=(do let _ <-comprehension e scope X.env pos mk false (eval iter X.env) (some B)))(hN:X.N.Nodup)(hy:X.N[i]?=some y)(t:X.env.scope.names.lookup y=some .local)(U:X.calm=true)(S:CompScope N nt fr X.N scope X.env.scope)(r:PI X tg iter wi)
  (hg:∀c:CC,PG (cC X N scope c) tg (g c)) (j:∀(c:CC) D,PB (cC X N scope c) (body D (cC X N scope c).env) (tb c D))
  (hs:∀x,foldedSetIterable iter X.env x=pure x:=by intro _;rfl)
  (w:swapsWith e (some (.Name y J)) O.line X.env=pure true):
  PS X (.Assign [.Name y J] e O) (nU (iH o0 wi nt fr g tb) (iB i)):=by
 intro a1 s L H D I h;rw[exec_Assign_Name_used _ _ _ _ w];refine acs (acC (acs ?_));rw[hu];refine acs (acy (iI n a0 u M U S r hg j I h (λx F hf=>S.cells x F hf) (λDd C s5 P k f _ Y W q=>?_) hs) (λ_ s' A=>acv (acv A)) λ_ _ e=>e);obtain⟨m,Y⟩:=Y;have T:=W s5.heap ⟨rfl,λ_ _=>rfl⟩;refine wpAny_assign_Name (jU T hN hy (.inl t) (v:=.ref Dd) rfl (λs6 I6 d=>?_) (.inr t));obtain⟨a,Z,Q⟩:=d;have l:C≠a:=by
  rcases Q with e|e
  ·rw[e];exact k.2.1
  ·exact λz=>k.2.2.2.2.1 _ _ e z.symm
 exact⟨m,Y.sameBut Z l,λh' p=>⟨_,P,I6.turned (λb o hb e=>(p.2 b hb).trans e) k.1 k.2.1 k.2.2.2.1 k.2.2.2.2.1 k.2.2.2.2.2,q⟩⟩
theorem vh(n:FJ e)(a:clausesOf e=⟨tg,iter,ifs,0⟩::rest)(u:∀it D env,compTurn e 0 it (.ref D) env=cY e 0 tg iter.pos it (.ref D) env (body D env))(M:MkC X mk o o0)(l:eval e X.env=comprehension e scope X.env pos mk false (eval iter X.env))(U:X.calm=true)(S:CompScope N nt fr X.N scope X.env.scope)(r:PI X tg iter wi)
  (t:∀c:CC,PG (cC X N scope c) tg (g c)) (j:∀(c:CC) D,PB (cC X N scope c) (body D (cC X N scope c).env) (tb c D)) (f:∀x,foldedSetIterable iter X.env x=pure x):PE X e (iH o0 wi nt fr g tb):=by
 intro B s L H Q I h;rw[l];refine iI n a u M U S r t j I h (λx F y=>S.cells x F y) (λD C i P _ _ _ Y W q=>?_) f;obtain⟨m,Y⟩:=Y;exact⟨m,Y,λv p=>⟨.ref D,P,W v p,rfl,q⟩⟩
end
abbrev TC:=Addr->St->Hp->(Hp->Prop)->Prop
def qf(o:TE):TC:=λD L H Q=>o L H λy P=>∃j,P D=some (.lst j)/\j.length<sizeLine/\Q (upd P D (.lst (j++[y])))
def Gh(T:TT)(o:TE):TC:=λD L H Q=>T L H λb P=>if b=true then qf o D L P Q else Q P
abbrev tZ(tc:CC->TC):CC->Addr->TB:=λc D σ H Q=>tc c D σ H (Q σ)
abbrev qg(wi:TI)(nt:Nat)(fr:List Nat)(g:CC->TG)(tc:CC->TC):TE:=iH (.lst []) wi nt fr g (tZ tc)
def LP(o:TE)(D:Addr):TB:=λL H Q=>qf o D L H (Q L)
noncomputable abbrev JE(elt tg iter tg2 iter2:Expr)(scope:Scope)(pos:Pos):Expr:=.ListComp elt [⟨tg,iter,[],0⟩,⟨tg2,iter2,[],0⟩] scope pos
abbrev IP(elt:Expr)(acc:Value)(env:Env):Sem Unit:=eval elt env >>= λx=>call (.builtin "list.append") [acc,x] >>= λ_=>pure ()
abbrev inB(elt tg iter tg2 iter2:Expr)(scope:Scope)(pos:Pos)(acc:Value)(env:Env):Sem Unit:=eval iter2 env >>= λx=>standAt iter2.pos >>= λ_=>foldedSetIterable iter2 env x >>= λx=>holding [x] (pyIter x) >>= λit=>runOwn (.compStart (JE elt tg iter tg2 iter2 scope pos) 1 it acc env) env >>= λ_=>pure ()
theorem Bm(n:PE Y elt te):PB Y (IP elt (.ref D) Y.env) (LP te D):=λM s L H Q I h=>by
 refine acs (thn (n M s L H _ I h) λu f m=>?_);obtain⟨y,P,B,w,j,i,d,q⟩:=m;exact acs (thn (eN M f L P (.ref D) [y] (.ref D) [u] (λv l=>v=.non/\Q L l) B rfl (.cons w .nil) ⟨D,j,y,rfl,rfl,i,d,rfl,q⟩) λv Z m=>by
  obtain⟨z,N,t,_,_,b⟩:=m;exact acv ⟨L,N,t,b⟩)
noncomputable abbrev Bp(ifs:List Expr)(act:Sem Unit)(env:Env):Sem Unit:=(forIn ifs true λc r=>if r=true then do let ok <-isTrue c env (eval c env);pure (ForInStep.yield ok) else pure (ForInStep.yield r)) >>= λok=>if ok=true then act else pure ()
theorem vj(h:PB Y act tb):PB Y (Bp [] act Y.env) tb:=by grind
theorem C7(U:PT Y c tt)(h:PB Y act tb):PB Y (Bp [c] act Y.env) (λσ H Q=>tt σ H λb P=>if b=true then tb σ P Q else Q σ P):=λM s σ H Q I q=>by
 refine acs (wpAny_tests_one (thn (U M s σ H _ I q) λb f m=>?_));obtain⟨P,B,C⟩:=m;cases b with
 |true=>exact h M f σ P Q B C
 |false=>exact acv ⟨σ,P,B,C⟩
def oq(Y:Cx)(D:Addr)(S:List Expr)(elt:Expr)(tc:TC):Prop:=PB Y (Bp S (IP elt (.ref D) Y.env) Y.env) (λL H Q=>tc D L H (Q L))
theorem sO(n:PE Y elt te):oq Y D [] elt (qf te):=vj (Bm n)
theorem vk(U:PT Y c tt)(n:PE Y elt te):oq Y D [c] elt (Gh tt te):=C7 U (Bm n)
theorem K8:MkC X (newList []) { cls:=.type "list",dict:=none,data:=.seq ([]:List Value).toArray } (.lst []):=⟨λh=>acG h (by show 0<=sizeLine;simp),λI=>I.lnew .nil (aaB _)⟩
theorem jp{Y:Type}(m:Sem Bool)(a:Sem Unit)(k:Sem Y):(m >>= λU=>if U=true then a >>= λ_=>k else k)=((m >>= λU=>if U=true then a else pure ()) >>= λ_=>k):=by rw[bind_assoc];congr 1;funext U;cases U<;>rfl
theorem vm(it C:Value)(env:Env):compTurn (.ListComp elt [⟨tg,iter,ifs,0⟩] scope pos) 0 it C env=cY (.ListComp elt [⟨tg,iter,ifs,0⟩] scope pos) 0 tg iter.pos it C env (Bp ifs (IP elt C env) env):=by rw[compTurn_list];simp only[cY,Bp,<-jp,IP];rfl
theorem yY(U:X.calm=true)(S:CompScope N nt fr X.N scope X.env.scope)(r:PI X tg iter wi)(m:∀c:CC,PG (cC X N scope c) tg (g c))(j:∀(c:CC) D,oq (cC X N scope c) D ifs elt (tc c))(f:∀x,foldedSetIterable iter X.env x=pure x:=by intro _;rfl):
  PE X (.ListComp elt [⟨tg,iter,ifs,0⟩] scope pos) (qg wi nt fr g tc):=vh (.inl ⟨_,_,_,_,rfl⟩) rfl (λ_ _ _=>vm ..) K8 rfl U S r m j f
theorem yZ(a:X.N.Nodup)(m:X.N[i]?=some y)(t:X.env.scope.names.lookup y=some .local)(U:X.calm=true)(S:CompScope N nt fr X.N scope X.env.scope)(r:PI X tg iter wi)(A:∀c:CC,PG (cC X N scope c) tg (g c))(j:∀(c:CC) D,oq (cC X N scope c) D ifs elt (tc c))(f:∀x,foldedSetIterable iter X.env x=pure x)
  (Y:swapsWith (.ListComp elt [⟨tg,iter,ifs,0⟩] scope pos) (some (.Name y py)) spos.line X.env=pure true):PS X (.Assign [.Name y py] (.ListComp elt [⟨tg,iter,ifs,0⟩] scope pos) spos) (nU (qg wi nt fr g tc) (iB i)):=
 qe (.inl ⟨_,_,_,_,rfl⟩) rfl (λ_ _ _=>vm ..) K8 (λ_=>rfl) a m t U S r A j f Y
end
section
theorem fN{items}(k:s.heap.IsTupleIter it t i)
  (u:s.heap.IsTuple t items) (F:items[i]?=some x)
  (X:∀h',h'.IsTupleIter it t (i+1)->Heap.SameBut it s.heap h'->Q x { s with heap:=h' }):
  wpAny (model prog w) A (Builtin.SmallTypes.nextOf (.ref it)) Q E s:=by
 obtain⟨o,j,U,W⟩:=id k;obtain⟨O,l,_,N,H⟩:=u;unfold Builtin.SmallTypes.nextOf;refine acs (acR k.typeIs acS
  (acM acS k.typeIs ac0 ?_ (ac1 _)))
 show wpAny _ _ (field (.ref it) 0 >>= _) _ _ s;refine acs (acz j W rfl ?_);show wpAny _ _ (if (Value.ref t==Value.none)=true then _ else _) _ _ s;rw[if_neg (show ¬ ((Value.ref t==Value.none)=true) from aaq)];refine acs (acz j W rfl ?_);refine acs (acD l H ?_);simp only[aaN,F];refine acs (wpAny_setField j W (by simp) (acv ⟨x,rfl,acv (X _ ?_ (Heap.SameBut.update ..))⟩));exact⟨_,Heap.get?_update_self _ j (Obj.isFreed_of_fields (Obj.data_mapFields W _)),(Obj.cls_mapFields ..).trans U,by
  rw[Obj.data_mapFields W];rfl⟩
theorem gx{items}{Q:Value->Shared->Prop}(L:A.handled=none)
  (k:s.heap.IsTupleIter it t i) (u:s.heap.IsTuple t items) (F:items[i]?=none)
  (hE:∀h' e,Heap.ExtBut it s.heap h'->(∃o,h'.get? e=some o/\o.cls=.type "StopIteration")->E (.ref e) { s with heap:=h' }):
  wpAny (model prog w) A (Builtin.SmallTypes.nextOf (.ref it)) Q E s:=by
 obtain⟨o,j,U,W⟩:=id k;obtain⟨O,l,_,N,H⟩:=u;unfold Builtin.SmallTypes.nextOf;refine acs (acR k.typeIs acS
  (acM acS k.typeIs ac0 ?_ (ac1 _)))
 show wpAny _ _ (field (.ref it) 0 >>= _) _ _ s;refine acs (acz j W rfl ?_);show wpAny _ _ (if (Value.ref t==Value.none)=true then _ else _) _ _ s;rw[if_neg (show ¬ ((Value.ref t==Value.none)=true) from aaq)];refine acs (acz j W rfl ?_);refine acs (acD l H ?_);simp only[aaN,F];refine acs (acH (acs (wpAny_setField j W (by simp) ?_)));refine acs ?_;simp only[newExc,newTuple];refine acs (acG ?_ (by size_fits));refine acs (wpAny_of_eq (by rfl) ?_);refine acG ?_ (by size_fits);simp only[raiseNew];refine acs (wpAny_handled ?_)
 first|rw[L]|rw[L]
 refine acs (acv (wpAny_throw ?_));exact hE _ _ (((Heap.SameBut.update ..).extBut.push _).push _) ⟨_,acx _ rfl,rfl⟩
inductive ZS where
 |lst (a:Addr) (xs:List V)
 |tup (a:Addr) (xs:List V)
 |str (z:Str)
noncomputable def ZS.items:ZS->List V
 |.lst _ xs=>xs
 |.tup _ xs=>xs
 |.str z=>z.cps.toList.map λc=>.str ⟨#[c]⟩
def ZS.val:ZS->V
 |.lst a _=>.ref a
 |.tup a _=>.ref a
 |.str z=>.str z
def ZS.ok(K:Waa)(H:Hp):ZS->Prop
 |.lst a xs=>SqL K H a xs
 |.tup a xs=>SqT K H a xs
 |.str _=>True
structure Sub (prog:Program)(w:World)(A:Around)(i:Addr)(sl:List Addr)(src:Heap->Prop)(st:Nat->Heap->Prop)(vs:List V):Prop where
 sfr:∀h h',src h->(∀b∈sl,∀o,h.get? b=some o->h'.get? b=some o)->src h'
 ifr:∀k h h',st k h->(∀o,h.get? i=some o->h'.get? i=some o)->st k h'
 item:∀(k:Nat) (s:Shared) (x:V) (Q:Value->Shared->Prop) (E:Value->Shared->Prop),vs[k]?=some x->src s.heap->st k s.heap ->
  (∀v h' tk,RelV x v->st (k+1) h'->Heap.SameBut i s.heap h'->Q v { s with heap:=h',toks:=tk })->wpAny (model prog w) A (Builtin.SmallTypes.nextOf (.ref i)) Q E s
 done:∀(k:Nat) (s:Shared) (Q:Value->Shared->Prop) (E:Value->Shared->Prop),vs.length<=k->src s.heap->st k s.heap ->
  (∀h' e,Heap.ExtBut i s.heap h'->(∃o,h'.get? e=some o/\o.cls=.type "StopIteration")->E (.ref e) { s with heap:=h' })->wpAny (model prog w) A (Builtin.SmallTypes.nextOf (.ref i)) Q E s
theorem Sub.list(L:A.handled=none)(i l:Addr)(r:Vals xs its):
  Sub prog w A i [l] (λh=>h.IsList l its.toArray) (λk h=>h.IsListIter i l k) xs where
 sfr:=λh C x k=>x.at λo e=>k l (by simp) o e
 ifr:=λk h C x f=>x.at λo e=>f o e
 item:=λk s x Q E F g J X=>by obtain⟨u,U,p⟩:=r.get F;exact wpAny_nextOf_list_item J g (by simpa using U) λC a D=>X u C s.toks p a D
 done:=λk s Q E T g J H=>by have t:=r.length;exact wpAny_nextOf_list_end L J g (by simp;omega) H
theorem Sub.tuple(L:A.handled=none)(i l:Addr)(r:Vals xs its):
  Sub prog w A i [l] (λh=>h.IsTuple l its.toArray) (λk h=>h.IsTupleIter i l k) xs where
 sfr:=λh C ⟨o,e,c⟩ k=>⟨o,k l (by simp) o e,c⟩
 ifr:=λk h C ⟨o,e,c⟩ f=>⟨o,f o e,c⟩
 item:=λk s x Q E F g J X=>by obtain⟨u,U,p⟩:=r.get F;exact fN J g (by grind) λC a D=>X u C s.toks p a D
 done:=λk s Q E T g J H=>by have t:=r.length;exact gx L J g (by grind) H
theorem Sub.strs(P:A.handled=none)(i:Addr)(z:Str)(t:Tok):
  Sub prog w A i [] (λ_=>True) (λk h=>h.IsStrIter i (strIterType z) z t k) (z.cps.toList.map λc=>V.str ⟨#[c]⟩) where
 sfr:=λh C x k=>trivial
 ifr:=λk h C ⟨o,e,c⟩ f=>⟨o,f o e,c⟩
 item:=λk s x Q E F g J X=>by
  rw[aaz]at F;cases e:z.cps.toList[k]? with
  |none=>rw[e]at F;cases F
  |some c=>
   rw[e]at F;have u:V.str ⟨#[c]⟩=x:=aa1 F;subst u;have L:z.cps[k]?=some c:=by rw[<-Array.getElem?_toList];exact e
   unfold strIterType at J X;split at J
   ·rename_i j;rw[if_pos j]at X;exact wpAny_nextOf_ascii_item J L λC a D=>X _ C _ ⟨_,rfl⟩ a D
   ·rename_i j;rw[if_neg j]at X;exact wpAny_nextOf_wide_item J L λC a D=>X _ C _ ⟨_,rfl⟩ a D
 done:=λk s Q E T g J H=>by
  have L:z.cps[k]?=none:=by rw[aae,Array.length_toList]at T;exact Array.getElem?_eq_none T
  unfold strIterType at J;split at J
  ·exact wpAny_nextOf_ascii_end P J L H
  ·exact wpAny_nextOf_wide_end P J L H
structure ZApart (z TI TO i1 i2:Addr)(sl1 sl2:List Addr):Prop where
 TIz:TI≠z
 TOz:TO≠z
 i1z:i1≠z
 i2z:i2≠z
 TITO:TI≠TO
 TIi1:TI≠i1
 TIi2:TI≠i2
 TOi1:TO≠i1
 TOi2:TO≠i2
 i12:i1≠i2
 s1:∀b∈sl1,b≠z/\b≠TO/\b≠i1/\b≠i2
 s2:∀b∈sl2,b≠z/\b≠TO/\b≠i1/\b≠i2
theorem sR{z L t i1 J:Addr}{Q:Value->Shared->Prop}(D:ZApart z L t i1 J sl1 sl2)
  (W:Sub prog w A i1 sl1 src1 st1 xs) (g:Sub prog w A J sl2 src2 st2 ys)
  (d:IsZip s.heap z L t .none) (b6:IsPair s.heap L (.ref i1) (.ref J)) (i:IsPair s.heap t a b)
  (O:st1 k s.heap) (h2:st2 k s.heap) (r:src1 s.heap) (b8:src2 s.heap) (hx:xs[k]?=some x) (m:ys[k]?=some y)
  (hQ:∀u v h' f,RelV x u->RelV y v->IsZip h' z L t (rawInt s.heap.objs.size)->IsPair h' t u v->st1 (k+1) h'->st2 (k+1) h'->IsPair h' s.heap.objs.size u v->h'.objs.size=s.heap.objs.size+1 ->
   (∀c o,c≠z->c≠t->c≠i1->c≠J->s.heap.get? c=some o->h'.get? c=some o)->Q (.ref s.heap.objs.size) { s with heap:=h',toks:=f })
  (c8:i1<s.heap.objs.size) (c9:J<s.heap.objs.size):
  wpAny (model prog w) A (Builtin.«zip.__next__» ⟨[.ref z],[]⟩) (λb7 s'=>∃v,b7=.done (.ret v)/\Q v s') E s:=by
 show wpAny _ _ (field (.ref z) 2 >>= _) _ _ _;refine acs (acz d rfl rfl ?_);refine acs (acz d rfl rfl ?_);refine acs (acD b6 rfl ?_);refine acs ?_;unfold Builtin.SmallTypes.ownedTupleIsFree;refine acs (acz d rfl rfl (acv ?_));simp only[if_true];refine acs (acH ?_);refine acs (acz d rfl rfl ?_);refine acs (acI d (by simp) λc0 B M=>?_);replace B:=B;refine acs ?_;simp only[List.zipIdx_cons,List.zipIdx_nil,abF,List.forIn_nil];refine acs (acs (acT ?_));refine acs (W.item k _ x _ _ hx (W.sfr _ _ r λb S o e=>M.extBut b o (D.s1 b S).1 e) (W.ifr _ _ _ O λo e=>M.extBut _ o D.i1z e) λu c7 b9 p a8 H=>acv ?_);have H:=H;have a3:=H.extBut _ _ D.TOi1 (M.extBut _ _ D.TOz i);refine acs (acD a3 rfl ?_);refine acs (acY a3 λc6 a0 I=>?_);replace a0:=a0;have I:=I;refine acs (wpAny_letGo (acv ?_));refine acs (acs (acT ?_));refine acs (g.item k _ y _ _ m (g.sfr _ _ b8 λb S o e=>I.extBut b o (D.s2 b S).2.1 (H.extBut b o (D.s2 b S).2.2.1 (M.extBut b o (D.s2 b S).1 e)))
  (g.ifr _ _ _ h2 λo e=>I.extBut _ o D.TOi2.symm (H.extBut _ o D.i12.symm (M.extBut _ o D.i2z e))) λv c5 b5 rv b0 T=>acv ?_)
 have T:=T;have a2:=T.extBut _ _ D.TOi2 a0;refine acs (acD a2 rfl ?_);refine acs (acY a2 λP N U=>?_);replace N:IsPair P t u v:=N;have U:=U;refine acs (wpAny_letGo (acv (acv ?_)));refine acs (acD N rfl ?_);refine acs (wpAny_newTuple ?_);have b2:P.objs.size=s.heap.objs.size:=by rw[U.1,T.1,I.1,H.1,M.1]
 have a5:=U.extBut _ _ D.TOz.symm (T.extBut _ _ D.i2z.symm (I.extBut _ _ D.TOz.symm (H.extBut _ _ D.i1z.symm B)));have b1:∀c o,c≠z->c≠t->c≠i1->c≠J->s.heap.get? c=some o->P.get? c=some o:=λc o l q j h e=>
  U.extBut _ _ q (T.extBut _ _ h (I.extBut _ _ q (H.extBut _ _ j (M.extBut _ _ l e))))
 have C:=W.ifr _ _ _ a8 λo e=>U.extBut _ o D.TOi1.symm (T.extBut _ o D.i12 (I.extBut _ o D.TOi1.symm e));have a9:=g.ifr _ _ _ b0 λo e=>U.extBut _ o D.TOi2.symm e;have a6:=acu a5;refine acs ?_;unfold Builtin.SmallTypes.ownedTupleHandOut;have a7:IsZip (P.push { cls:=.type "tuple",data:=.seq #[u,v] }) z L t .ellipsis:=acw _ a5;refine acs (acI a7 (by simp) λb3 a1 Z=>?_);replace a1:IsZip b3 z L t (rawInt P.objs.size):=a1;refine acI a1 (by simp) λF X Y=>?_;replace X:IsZip F z L t (rawInt P.objs.size):=X;have n:∀c o,c≠z->P.get? c=some o->F.get? c=some o:=λc o l e=>Y.extBut _ _ l (Z.extBut _ _ l (acw _ e));have a4:IsPair F P.objs.size u v:=Y.extBut _ _ (aa9 a6) (Z.extBut _ _ (aa9 a6) (acx _ rfl));have b4:F.objs.size=P.objs.size+1:=by rw[Y.1,Z.1,acK]
 rw[b2]at X a4 b4;refine acv ⟨_,rfl,?_⟩;show Q (.ref P.objs.size) _;rw[b2];exact hQ u v F _ p rv X (n _ _ D.TOz N) (W.ifr _ _ _ C λo e=>n _ o D.i1z e) (g.ifr _ _ _ a9 λo e=>n _ o D.i2z e) a4 b4 λc o l q j h e=>n c o l (b1 c o l q j h e)
theorem vn{z L t C J:Addr}{Q:Fin->Shared->Prop}(D:ZApart z L t C J sl1 sl2)
  (W:Sub prog w A C sl1 src1 st1 xs) (g:Sub prog w A J sl2 src2 st2 ys)
  (d:IsZip s.heap z L t .none) (v:IsPair s.heap L (.ref C) (.ref J)) (i:IsPair s.heap t a b)
  (O:st1 k s.heap) (Z:st2 k s.heap) (r:src1 s.heap) (N:src2 s.heap) (P:xs.length<=k\/ys.length<=k)
  (hE:∀h' f e,(∀c o,c≠z->c≠t->c≠C->c≠J->s.heap.get? c=some o->h'.get? c=some o)->(∃o,h'.get? e=some o/\o.cls=.type "StopIteration")->E (.ref e) { s with heap:=h',toks:=f }):
  wpAny (model prog w) A (Builtin.«zip.__next__» ⟨[.ref z],[]⟩) Q E s:=by
 show wpAny _ _ (field (.ref z) 2 >>= _) _ _ _;refine acs (acz d rfl rfl ?_);refine acs (acz d rfl rfl ?_);refine acs (acD v rfl ?_);refine acs ?_;unfold Builtin.SmallTypes.ownedTupleIsFree;refine acs (acz d rfl rfl (acv ?_));simp only[if_true];refine acs (acH ?_);refine acs (acz d rfl rfl ?_);refine acs (acI d (by simp) λq B M=>?_);replace B:=B;refine acs ?_;simp only[List.zipIdx_cons,List.zipIdx_nil,abF,List.forIn_nil];refine acs (acs (acT ?_));have l1:=W.sfr _ _ r λb S o e=>M.extBut b o (D.s1 b S).1 e;have t1:=W.ifr _ _ _ O λo e=>M.extBut _ o D.i1z e;by_cases F:xs.length<=k
 ·refine acs (W.done k _ _ _ F l1 t1 λy e H n=>?_);have H:=H;obtain⟨oe,Y,X⟩:=n;have a1:=H _ _ D.i1z.symm B;have p:e≠z:=λx=>by subst x;rw[a1]at Y;cases Y;simp at X
  refine acI a1 (by simp) λa3 _ I=>hE a3 _ e (λc o l _ j _ x=>I.extBut _ _ l (H _ _ j (M.extBut _ _ l x))) ⟨oe,I.extBut _ _ p Y,X⟩
 ·have m:ys.length<=k:=by rcases P with h|h;exact absurd h F;exact h
  obtain⟨x,a7⟩:∃x,xs[k]?=some x:=⟨_,aam (Nat.lt_of_not_le F)⟩
  refine acs (W.item k _ x _ _ a7 l1 t1 λu y a8 ru a6 H=>acv ?_);have H:=H;have a0:=H.extBut _ _ D.TOi1 (M.extBut _ _ D.TOz i);refine acs (acD a0 rfl ?_);refine acs (acY a0 λa3 a5 I=>?_);have I:=I;refine acs (wpAny_letGo (acv ?_));refine acs (acs (acT ?_));refine acs (g.done k _ _ _ m (g.sfr _ _ N λb S o e=>I.extBut b o (D.s2 b S).2.1 (H.extBut b o (D.s2 b S).2.2.1 (M.extBut b o (D.s2 b S).1 e)))
   (g.ifr _ _ _ Z λo e=>I.extBut _ o D.TOi2.symm (H.extBut _ o D.i12.symm (M.extBut _ o D.i2z e))) λa9 e T n=>?_)
  have T:=T;obtain⟨oe,Y,X⟩:=n;have a2:=T _ _ D.i2z.symm (I.extBut _ _ D.TOz.symm (H.extBut _ _ D.i1z.symm B));have p:e≠z:=λx=>by subst x;rw[a2]at Y;cases Y;simp at X
  refine acI a2 (by simp) λa4 _ U=>hE a4 _ e (λc o l c2 j c4 x=>U.extBut _ _ l (T _ _ c4 (I.extBut _ _ c2 (H.extBut _ _ j (M.extBut _ _ l x))))) ⟨oe,U.extBut _ _ p Y,X⟩
theorem ou{z L t C J:Addr}(D:ZApart z L t C J sl1 sl2)
  (W:Sub prog w A.in1 C sl1 src1 st1 xs) (g:Sub prog w A.in1 J sl2 src2 st2 ys)
  (d:IsZip s.heap z L t .none) (e:IsPair s.heap L (.ref C) (.ref J)) (i:IsPair s.heap t a b)
  (O:st1 k s.heap) (Z:st2 k s.heap) (r:src1 s.heap) (N:src2 s.heap) (j:xs[k]?=some x) (m:ys[k]?=some y)
  (X:∀u v h' f,RelV x u->RelV y v->IsZip h' z L t (rawInt s.heap.objs.size)->IsPair h' t u v->st1 (k+1) h'->st2 (k+1) h'->IsPair h' s.heap.objs.size u v->h'.objs.size=s.heap.objs.size+1 ->
   (∀c o,c≠z->c≠t->c≠C->c≠J->s.heap.get? c=some o->h'.get? c=some o)->Q (some (.ref s.heap.objs.size)) { s with heap:=h',toks:=f })
  (h:C<s.heap.objs.size) (M:J<s.heap.objs.size):
  wpAny (model prog w) A (pyNext (.ref z)) Q E s:=by
 have n:s.TypeIs (.ref z) "zip":=⟨_,d,rfl⟩
 unfold pyNext;exact acs (wpAny_attempt (acR n acU
  (acM acU n F.entry_zip_next
   (sR D W g d e i O Z r N j m (λu v h' f T p I U H P B Y l=>acv (X u v h' f T p I U H P B Y l)) h M) (F.args_zip_next_1 _))))
theorem sS{z L t C J:Addr}(D:ZApart z L t C J sl1 sl2)
  (W:Sub prog w A.in1 C sl1 src1 st1 xs) (g:Sub prog w A.in1 J sl2 src2 st2 ys)
  (d:IsZip s.heap z L t .none) (v:IsPair s.heap L (.ref C) (.ref J)) (i:IsPair s.heap t a b)
  (O:st1 k s.heap) (Z:st2 k s.heap) (r:src1 s.heap) (N:src2 s.heap) (P:xs.length<=k\/ys.length<=k)
  (X:∀h' f,(∀c o,c≠z->c≠t->c≠C->c≠J->s.heap.get? c=some o->h'.get? c=some o)->Q none { s with heap:=h',toks:=f }):wpAny (model prog w) A (pyNext (.ref z)) Q E s:=by
 have u:s.TypeIs (.ref z) "zip":=⟨_,d,rfl⟩
 unfold pyNext;refine acs (wpAny_attempt (acR u acU
  (acM acU u F.entry_zip_next (vn D W g d v i O Z r N P λh' f e T n=>?_) (F.args_zip_next_1 _))))
 obtain⟨o,j,U⟩:=n;refine acs (wpAny_isInstance ⟨o,j,U⟩ isSubtype_stop ?_);exact acv (X _ _ T)
end
section
def JF(K:Waa)(a b:ZS):It:=
 ⟨λi H=>a.ok K H/\b.ok K H/\i<a.items.length/\i<b.items.length,
  λi H v l=>∃T x y,a.items[i]?=some x/\b.items[i]?=some y/\H T=none/\v=.ref T/\l=upd H T (.tup [x,y]),
  λi H=>a.ok K H/\b.ok K H/\(a.items.length<=i\/b.items.length<=i)⟩
noncomputable def ZS.rcd:ZS->Value->Obj
 |.lst _ _,v=>{ cls:=.type "list_iterator",data:=.fields #[v,.int 0 0] }
 |.tup _ _,v=>{ cls:=.type "tuple_iterator",data:=.fields #[v,.int 0 0] }
 |.str z,v=>{ cls:=.type (strIterType z),data:=.fields #[v,.int 0 0] }
def ZS.st(a:ZS)(v:Value)(i:Addr)(k:Nat)(h:Heap):Prop:=match a,v with
 |.lst l _,_=>h.IsListIter i l k
 |.tup l _,_=>h.IsTupleIter i l k
 |.str z,.str _ t=>h.IsStrIter i (strIterType z) z t k
 |.str _,_=>False
def ZS.sl:ZS->List Addr
 |.lst l _=>[l]
 |.tup l _=>[l]
 |.str _=>[]
theorem ZS.mn{a:ZS}(x:a.st v i k h):∃o,h.get? i=some o/\∀c,o.data≠.cell c:=by
 cases a with
 |lst l Y=>obtain⟨o,e,c,d⟩:=(x);grind
 |tup l Y=>obtain⟨o,e,c,d⟩:=(x);grind
 |str z=>
  cases v with
  |str y t=>obtain⟨o,e,c,d⟩:=(x);grind
  |_=>trivial
theorem ZS.hh{a:ZS}(x:a.st v i k h)(f:∀o,h.get? i=some o->h'.get? i=some o):a.st v i k h':=by
 cases a with
 |lst l Y=>obtain⟨o,e,c⟩:=(x);exact⟨o,f o e,c⟩
 |tup l Y=>obtain⟨o,e,c⟩:=(x);exact⟨o,f o e,c⟩
 |str z=>
  cases v with
  |str y t=>obtain⟨o,e,c⟩:=(x);exact⟨o,f o e,c⟩
  |_=>trivial
theorem ZS.sub(a:ZS)(I:Inv X pins σ H s)(U:a.ok X.K H)(O:RelV a.val v)(A:Around)(L:A.handled=none)(i:Addr):
  ∃C:Heap->Prop,C s.heap/\Sub X.prog X.w A i a.sl C (a.st v i) a.items/\(∀b∈a.sl,∃o,s.heap.get? b=some o/\(H b≠none\/X.base.get? b=some o)):=by
 cases a with
 |lst l Y=>
  have U:SqL X.K H l Y:=U;obtain⟨D,r,p,d⟩:=I.list U;refine⟨_,p.isList,Sub.list L i l r,λb S=>?_⟩;have e:b=l:=by simpa[ZS.sl] using S
  subst e;rcases U with (h|⟨o,h⟩)|⟨o,B,n,T,_⟩
  ·obtain⟨_,_,_,_,e⟩:=I.hok _ _ h;exact⟨_,e,.inl (by rw[h];simp)⟩
  ·obtain⟨e,_⟩:=I.hok _ _ h;exact⟨_,e,.inl (by rw[h];simp)⟩
  ·exact⟨o,I.qd _ _ T,.inr (I.ok.mod.kin _ _ T)⟩
 |tup l Y=>
  have U:SqT X.K H l Y:=U;obtain⟨D,r,p,d⟩:=I.tuple U;refine⟨_,p,Sub.tuple L i l r,λb S=>?_⟩;have e:b=l:=by simpa[ZS.sl] using S
  subst e;rcases U with (h|⟨o,h⟩)|⟨o,B,n,T,_⟩
  ·obtain⟨_,_,_,o,e,_⟩:=I.hok _ _ h;exact⟨_,e,.inl (by rw[h];simp)⟩
  ·obtain⟨e,_⟩:=I.hok _ _ h;exact⟨_,e,.inl (by rw[h];simp)⟩
  ·exact⟨o,I.qd _ _ T,.inr (I.ok.mod.kin _ _ T)⟩
 |str z=>obtain⟨t,rfl⟩:=O;exact⟨_,trivial,Sub.strs L i z t,λb S=>by simp[ZS.sl]at S⟩
theorem aQ{a:ZS}(I:Inv X pins σ H s)(f:FpOk X pins H b)(h:∀c∈a.sl,∃o,s.heap.get? c=some o/\(H c≠none\/X.base.get? c=some o)):∀c∈a.sl,c≠b:=by
 intro c U e;subst e;obtain⟨o,_,q⟩:=h c U;rcases q with q|q
 ·exact q f.1
 ·rcases f.2.2.2.1 with z|z
  ·exact I.ok.noex c o q z
  ·exact absurd (aas (acu q) (aan I.ok.bsz z)) (aaY _)
structure ZRec (z TI TO i1 i2:Addr):Prop where
 TIz:TI≠z
 TOz:TO≠z
 i1z:i1≠z
 i2z:i2≠z
 TITO:TI≠TO
 TIi1:TI≠i1
 TIi2:TI≠i2
 TOi1:TO≠i1
 TOi2:TO≠i2
 i12:i1≠i2
theorem Inv.h7{t':Nat}{B:List Addr}(I:Inv X pins σ H s)(k:∀b o,b ∉ B->s.heap.get? b=some o->h'.get? b=some o)(f:∀b∈B,FpOk X pins H b)
  : Inv X pins σ H { s with heap:=h',toks:=t' }:=by
 have t:∀b u,H b=some u->b ∉ B:=λb u e z=>by rw[(f b z).1]at e;cases e
 refine I.step (λb S=>?_) (λb o _ _ U e _=>k b o U e) (λb o _ _ U e _=>⟨o.slots,k b o U e⟩) (λ_ _ _ _ n=>n)
  (λb o U e=>⟨o,k b o U e⟩) (λ_ _ e=>e) (λ_ _ _ e=>e) (λb T e=>⟨#[],by rw[e];simp⟩) (λm Y=>?_) (λb u e=>?_) I.bare
 ·obtain⟨x,a,W,g,Z,l⟩:=f b S;exact⟨g,a,Z,l⟩
 ·obtain⟨o,L,i,j,r⟩:=Y;exact⟨o,L,i,k _ o (λz=>(f _ z).2.1 rfl) j,r⟩
 ·refine(I.hok b u e).nc (λc v U q=>k c v ?_ q) (λ_ q=>q) λ_ _ q=>q;rcases U with z|z
  ·rw[z];exact t b u e
  ·exact t c _ z
theorem vo{P:Program}{w:World}{K:Waa}{es:List Expr}{x1}{pos:Pos}(a b:ZS)(va vb:Value)(ra:RelV a.val va)(rb:RelV b.val vb)(z TI TO i1 i2:Addr)(R:ZRec z TI TO i1 i2):
  Turn P w K (.Tuple es x1 pos) (JF K a b) [z,TI,TO,i1,i2] z
   (λi h=>IsZip h z TI TO .none/\IsPair h TI (.ref i1) (.ref i2)/\(∃p q,IsPair h TO p q)/\a.st va i1 i h/\b.st vb i2 i h) where
 mem:=by simp
 obj:=λi h ⟨O,Z,⟨p,q,h3⟩,F,J⟩ c U=>by
  simp only[aaa,aar,or_false]at U;rcases U with rfl|rfl|rfl|rfl|rfl
  ·grind
  ·grind
  ·grind
  ·exact ZS.mn F
  ·exact ZS.mn J
 keep:=λi h h' ⟨O,Z,⟨p,q,h3⟩,F,J⟩ k=>
  ⟨k z (by simp) _ O,k TI (by simp) _ Z,⟨p,q,k TO (by simp) _ h3⟩,ZS.hh F (λo e=>k i1 (by simp) o e),ZS.hh J (λo e=>k i2 (by simp) o e)⟩
 item:=by
  intro X hP Q hK U i M s σ H E I hf ⟨O,Z,⟨p,q,h3⟩,F,J⟩ N;subst hP Q hK;obtain⟨a3,a0,la,lb⟩:=N;have L:=I.ok.hd U;obtain⟨a4,a2,W,t⟩:=a.sub I a3 ra X.A.in1 L i1;obtain⟨a9,d,g,Y⟩:=b.sub I a0 rb X.A.in1 L i2;obtain⟨x,hx⟩:∃x,a.items[i]?=some x:=⟨_,aam la⟩
  obtain⟨y,hy⟩:∃y,b.items[i]?=some y:=⟨_,aam lb⟩
  have D:ZApart z TI TO i1 i2 a.sl b.sl:=⟨R.TIz,R.TOz,R.i1z,R.i2z,R.TITO,R.TIi1,R.TIi2,R.TOi1,R.TOi2,R.i12,
   λc U=>⟨aQ I (hf z (by simp)) t c U,aQ I (hf TO (by simp)) t c U,aQ I (hf i1 (by simp)) t c U,aQ I (hf i2 (by simp)) t c U⟩,
   λc U=>⟨aQ I (hf z (by simp)) Y c U,aQ I (hf TO (by simp)) Y c U,aQ I (hf i1 (by simp)) Y c U,aQ I (hf i2 (by simp)) Y c U⟩⟩
  have fl:∀c∈([z,TI,TO,i1,i2]:List Addr),c<s.heap.objs.size:=λc U=>by
   simp only[aaa,aar,or_false]at U;rcases U with rfl|rfl|rfl|rfl|rfl
   ·exact acu O
   ·exact acu Z
   ·exact acu h3
   ·obtain⟨o,e,_⟩:=ZS.mn F;exact acu e
   ·obtain⟨o,e,_⟩:=ZS.mn J;exact acu e
  refine ou D W g O Z h3 F J a2 d hx hy (λu v h' tk ru rv b2 b0 a8 C hT b4 T=>?_) (fl i1 (by simp)) (fl i2 (by simp));refine⟨.ref s.heap.objs.size,rfl,?_⟩;refine wpAny_letOwnedTupleGo_zip b2 λa1 a7 B=>?_;have B:=B;have f:∀c o,c ∉ ([z,TI,TO,i1,i2]:List Addr)->s.heap.get? c=some o->a1.get? c=some o:=λc o U e=>by simp only[aaa,aar,or_false,not_or]at U;exact B.extBut _ _ U.1 (T c o U.1 U.2.2.1 U.2.2.2.1 U.2.2.2.2 e)
  have l:=I.hok.fresh (aac _);have I1:Inv X M σ H { s with heap:=a1,toks:=tk }:=I.h7 f hf;have b3:=aa9 (fl z (by simp));have a6:=B.extBut _ _ b3 hT;have I2:Inv X M σ (upd H s.heap.objs.size (.tup [x,y])) { s with heap:=a1,toks:=tk }:=by
   refine I.step (g':=s.gens) (d':=s.drawn) (ch:=[z,TI,TO,i1,i2]) (λb S=>?_) (λb o _ _ U e _=>f b o U e) (λb o _ _ U e _=>⟨o.slots,f b o U e⟩) (λb o U e n=>?_)
    (λb o U e=>⟨o,f b o U e⟩) (λb ys e=>?_) (λb o u e=>?_) (λb ps e=>⟨#[],?_⟩) (λm hm=>?_) (λb o e=>?_) I.bare
   ·obtain⟨f0,f1,f2,f3,f4,f5⟩:=hf b S
    grind
   ·rw[upd_ne (aao (acu e))];exact n
   ·rw[upd_ne (au e l)];exact e
   ·rw[upd_ne (au e l)];exact e
   ·rw[upd_ne (au e l),e];simp
   ·obtain⟨o,b1,ep,j,r⟩:=hm;exact⟨o,b1,ep,f _ o (λz=>(hf _ z).2.1 rfl) j,r⟩
   ·by_cases S:b=s.heap.objs.size
    ·subst S;rw[aB]at e;cases e;exact⟨(by show 2<=sizeLine;decide),[u,v],.cons ru (.cons rv .nil),⟨_,a6,rfl,_,rfl,rfl⟩⟩
    ·rw[upd_ne S]at e;refine(I1.hok b o e).nc (λc v U q=>q) (λc q=>by rw[upd_ne (au q l)];exact q) λc ys q=>by rw[upd_ne (au q l)];exact q
  refine⟨.ref s.heap.objs.size,_,I2,rfl,⟨_,x,y,hx,hy,l,rfl,rfl⟩,⟨a7,?_,⟨u,v,B.extBut _ _ R.TOz b0⟩,ZS.hh a8 (λo e=>B.extBut _ _ R.i1z e),ZS.hh C (λo e=>B.extBut _ _ R.i2z e)⟩,λc U=>?_⟩
  ·exact B.extBut _ _ R.TIz (T _ _ R.TIz R.TITO R.TIi1 R.TIi2 Z)
  ·rw[upd_ne (aao (fl c U))];exact(hf c U).1
 done:=by
  intro X hP Q hK U i M s σ H E I hf ⟨O,Z,⟨p,q,h3⟩,F,J⟩ N;subst hP Q hK;obtain⟨a3,a0,a5⟩:=N;have L:=I.ok.hd U;obtain⟨a4,a2,W,t⟩:=a.sub I a3 ra X.A.in1 L i1;obtain⟨a9,d,g,Y⟩:=b.sub I a0 rb X.A.in1 L i2;have D:ZApart z TI TO i1 i2 a.sl b.sl:=⟨R.TIz,R.TOz,R.i1z,R.i2z,R.TITO,R.TIi1,R.TIi2,R.TOi1,R.TOi2,R.i12,
   λc U=>⟨aQ I (hf z (by simp)) t c U,aQ I (hf TO (by simp)) t c U,aQ I (hf i1 (by simp)) t c U,aQ I (hf i2 (by simp)) t c U⟩,
   λc U=>⟨aQ I (hf z (by simp)) Y c U,aQ I (hf TO (by simp)) Y c U,aQ I (hf i1 (by simp)) Y c U,aQ I (hf i2 (by simp)) Y c U⟩⟩
  refine sS D W g O Z h3 F J a2 d a5 λh' tk T=>⟨rfl,I.h7 (λc o U e=>?_) hf⟩
  simp only[aaa,aar,or_false,not_or]at U;exact T c o U.1 U.2.2.1 U.2.2.2.1 U.2.2.2.2 e
 self:=λ_ _ _ _ _ ⟨O,_⟩ h=>wpAny_pyIter_zip O h
theorem iJ(L j:Value)(c k:Obj)(I x:Heap->Prop)(H:∀h o,x h->x (h.push o))
  (e:∀(prog:Program) (w:World) (A:Around) (E:Value->Shared->Prop) (s:Shared) (Q:Value->Shared->Prop),I s.heap->Q (.ref s.heap.objs.size) { s with heap:=s.heap.push c }->wpAny (model prog w) A (pyIter L) Q E s)
  (i:∀(prog:Program) (w:World) (A:Around) (E:Value->Shared->Prop) (s:Shared) (Q:Value->Shared->Prop),x s.heap->Q (.ref s.heap.objs.size) { s with heap:=s.heap.push k }->wpAny (model prog w) A (pyIter j) Q E s):
  Meets (Builtin.«zip.__new__» ⟨[.type "zip",L,j],[]⟩) (λ_ R s=>I s.heap/\x s.heap /\
   R (.ok (.ret (.ref ((((s.heap.push c).push k).push { cls:=.type "tuple",data:=.seq #[.ref s.heap.objs.size,.ref (s.heap.push c).objs.size] }).push { cls:=.type "tuple",data:=.seq #[.none,.none] }).objs.size)))
    { s with heap:=((((s.heap.push c).push k).push { cls:=.type "tuple",data:=.seq #[.ref s.heap.objs.size,.ref (s.heap.push c).objs.size] }).push { cls:=.type "tuple",data:=.seq #[.none,.none] }).push { cls:=.type "zip",data:=.fields #[.none,.bool false,.bool false,.ref ((s.heap.push c).push k).objs.size,.ref (((s.heap.push c).push k).push { cls:=.type "tuple",data:=.seq #[.ref s.heap.objs.size,.ref (s.heap.push c).objs.size] }).objs.size] } }):=
 .of_wp λprog w A R s h=>by
  obtain⟨C,g,d,f,F⟩:=s;obtain⟨r,N,h⟩:=h;have B:=sub_zip;have z:∀{A:Around}{E:Value->Shared->Prop}{Q:Value->Shared->Prop},Q (.ref C.objs.size) ⟨C.push c,g,d,f,F⟩->wpAny (model prog w) A (pyIter L) Q E ⟨C,g,d,f,F⟩:=λX=>e _ _ _ _ ⟨C,g,d,f,F⟩ _ r X;have b:∀{A:Around}{E:Value->Shared->Prop}{Q:Value->Shared->Prop},Q (.ref (C.push c).objs.size) ⟨(C.push c).push k,g,d,f,F⟩->wpAny (model prog w) A (pyIter j) Q E ⟨C.push c,g,d,f,F⟩:=λX=>i _ _ _ _ ⟨C.push c,g,d,f,F⟩ _ (H _ _ N) X
  wp_walk using z,b
  exact⟨_,rfl,h⟩
end
section
theorem boot_zip:bootBuiltins "zip"=some (.type "zip"):=by rfl
theorem ZS.iter(a:ZS)(I:Inv X pins σ H s)(U:a.ok X.K H)(O:RelV a.val v):
  ∃C:Heap->Prop,C s.heap/\(∀h o,C h->C (h.push o)) /\
   ∀(prog:Program) (w:World) (A:Around) (E:Value->Shared->Prop) (s:Shared) (Q:Value->Shared->Prop),C s.heap->Q (.ref s.heap.objs.size) { s with heap:=s.heap.push (a.rcd v) }->wpAny (model prog w) A (pyIter v) Q E s:=by
 cases a with
 |lst l Y=>obtain⟨D,r,p,d⟩:=I.list (U);cases O;exact⟨λh=>h.IsList l D.toArray,p.isList,λh o x=>x.push o,λprog w A E s Q h q=>acX h q⟩
 |tup l Y=>obtain⟨D,r,p,d⟩:=I.tuple (U);cases O;exact⟨λh=>h.IsTuple l D.toArray,p,λh o x=>x.push o,λprog w A E s Q h q=>wpAny_pyIter_tuple h q⟩
 |str z=>obtain⟨t,rfl⟩:=O;exact⟨λ_=>True,trivial,λ_ _ _=>trivial,λprog w A E s Q _ q=>wpAny_pyIter_strU q⟩
theorem ZS.st0(a:ZS)(O:RelV a.val v)(e:h.get? i=some (a.rcd v)):a.st v i 0 h:=by
 cases a with
 |lst l Y=>cases O;exact⟨_,e,rfl,rfl⟩
 |tup l Y=>cases O;exact⟨_,e,rfl,rfl⟩
 |str z=>obtain⟨t,rfl⟩:=O;exact⟨_,e,rfl,rfl⟩
theorem mf(a:ZS)(v:Value):(a.rcd v).isFreed=false:=by cases a<;>rfl
def JG(K:Waa)(Z:TA):TI:=λL H R=>Z L H λc P=>∃a b:ZS,c=[a.val,b.val]/\a.ok K P/\b.ok K P/\R (JF K a b) P
theorem C8{es:List Expr}{v}{W:Pos}{a b:Expr}{p pos:Pos} (hg:Gl X "zip") (hm:X.mg "zip"=none) (j:PA X [a,b] ta) (hs:starEach [a,b] X.env=[(false,eval a X.env),(false,eval b X.env)]:=by rfl) (d:starEach [b] X.env=[(false,eval b X.env)]:=by rfl):
  PI X (.Tuple es v W) (.Call (.Name "zip" p) [a,b] [] pos) (JG X.K ta):=by
 intro M s L H R I h;refine Call_ (fB I hg hm boot_zip (abf (thn (j pos M s L H _ I h) λus f m=>?_) (by grind) (by rw[d];rfl)));obtain⟨vs,P,B,w,q1⟩:=m;obtain⟨y,A,e,a4,a1,q⟩:=q1;subst e;obtain⟨N,C,rfl,z,rb⟩:=w.two;obtain⟨a0,O,_,p1⟩:=y.iter B a4 z;obtain⟨x,Z,a2,i⟩:=A.iter B a1 rb;refine callType_new F.called_zip (by rfl) (F.typeCall_zip_2 _ _) (F.newCall_zip_2 _ _) (λa3=>F.args_object_init_3 a3 _ _) F.entry_zip_new
  (iJ N C (y.rcd N) (A.rcd C) a0 x a2 p1 i) ⟨O,Z,?_⟩
 generalize hA:f.heap.push (y.rcd N)=A1;generalize hB:A1.push (A.rcd C)=A2;generalize hC:A2.push { cls:=.type "tuple",data:=.seq #[.ref f.heap.objs.size,.ref A1.objs.size] }=A3;generalize hD:A3.push { cls:=.type "tuple",data:=.seq #[.none,.none] }=A4;generalize hE:A4.push { cls:=.type "zip",data:=.fields #[.none,.bool false,.bool false,.ref A2.objs.size,.ref A3.objs.size] }=A5;have r:A1.objs.size=f.heap.objs.size+1:=by rw[<-hA];simp
 have u:A2.objs.size=f.heap.objs.size+2:=by rw[<-hB,acK,r]
 have J:A3.objs.size=f.heap.objs.size+3:=by rw[<-hC,acK,u]
 have z4:A4.objs.size=f.heap.objs.size+4:=by rw[<-hD,acK,J]
 have g:A5.get? A4.objs.size=some { cls:=.type "zip",data:=.fields #[.none,.bool false,.bool false,.ref A2.objs.size,.ref A3.objs.size] }:=by rw[<-hE];exact acx _ rfl
 have u5:∀c o,A4.get? c=some o->A5.get? c=some o:=λc o e=>by rw[<-hE];exact acw _ e
 have u4:=λc o e=>u5 c o (by rw[<-hD];exact acw _ e);have U:=λc o e=>u4 c o (by rw[<-hC];exact acw _ e);have k:=λc o e=>U c o (by rw[<-hB];exact acw _ e);have u1:=λc o e=>k c o (by rw[<-hA];exact acw _ e);have t:=u5 _ _ (by rw[<-hD];exact acx _ rfl);have n:=u4 _ _ (by rw[<-hC];exact acx _ rfl);have l:=U _ _ (by rw[<-hB];exact acx _ (mf _ _));have Y:=k _ _ (by rw[<-hA];exact acx _ (mf _ _));refine⟨⟨_,g,rfl⟩,?_⟩;have Q:=g;refine wpAny_pyIter_zip Q ?_;have R:ZRec A4.objs.size A2.objs.size A3.objs.size f.heap.objs.size A1.objs.size:=by rw[r,u,J,z4];refine⟨?_,?_,?_,?_,?_,?_,?_,?_,?_,?_⟩<;>first|simp|simp|simp
 have T:Inv X M L P { f with heap:=A5 }:=B.kept u1;refine⟨A4.objs.size,[A4.objs.size,A2.objs.size,A3.objs.size,f.heap.objs.size,A1.objs.size],_,_,P,rfl,T,vo y A N C z rb _ _ _ _ _ R,
  ⟨Q,n,⟨_,_,t⟩,y.st0 z Y,A.st0 rb l⟩,λb S=>?_,q⟩
 have D:f.heap.objs.size<=b:=by simp only[aaa,aar,or_false]at S;rcases S with rfl|rfl|rfl|rfl|rfl<;>first|exact aac _|(rw[z4];exact aaS _ _)|(rw[J];exact aaS _ _)|(rw[u];exact aaS _ _)|(rw[r];exact aaS _ _)
 exact B.rd D (B.hok.fresh D)
theorem y3:∀{us:List Value},Vals (N.map V.bl) us->LSm.BoolsAre us N:=by
 induction N with
 |nil=>intro us r;rw[aay]at r;cases r;exact .nil
 |cons b N Y=>
  intro us r;rw[aal]at r;cases r with
  |cons w p=>cases w;exact .cons b (Y p)
theorem vp(U:X.calm=true):CallR X (.builtin "all") (λxs H Q=>∃(p:Addr) (N:List Bool),xs=[.ref p]/\SqL X.K H p (N.map V.bl)/\Q (.bl (N.all id)) H):=by
 intro M s L H xs y Q I r h;obtain⟨p,N,rfl,c,q⟩:=h;obtain⟨u,rfl,J⟩:=vals1 r;cases J;obtain⟨D,f,a,d⟩:=I.list c;obtain⟨m,F⟩:=I.fr;have k:p<s.heap.objs.size:=by obtain⟨_,_,e,_⟩:=a;exact acu e
 have S:=y3 f;refine call_all_walk (acX a.isList ?_);refine⟨s.heap.objs.size,[s.heap.objs.size,p],[s.heap.objs.size],D.toArray.size,_,_,λi=>(N[i]?).getD true,rfl,Walks.list (A:=X.A.in1) (I.ok.hd U) _ p (aao k) D.toArray,
  ⟨⟨_,acx _ rfl,rfl,rfl⟩,a.isList.push _⟩,λi v B O P n W=>?_,λC Y T=>?_⟩
 ·obtain⟨b,e,rfl⟩:=S.get i v (by simpa using n);simp only[e,Option.getD_some]at W;exact acA W
 ·have e:((List.range D.toArray.size).all λi=>(N[i]?).getD true)=N.all id:=by rw[abo,S.length];exact LSm.range_all N
  rw[e];exact⟨.bl (N.all id),H,I.kept (LSm.kept_iter T),rfl,q⟩
end
section
mutual
inductive Dt (K:Waa)(H:Hp):V->PyData->Prop
 |non:Dt K H .non .none
 |bl (b:Bool):Dt K H (.bl b) (.bool b)
 |int (i:Int):Dt K H (.int i) (.int i)
 |str (x:Str):Dt K H (.str x) (.str x)
 |lst {a xs ds}:SqL K H a xs->DtAll K H xs ds->Dt K H (.ref a) (.list ds)
 |tup {a xs ds}:SqT K H a xs->DtAll K H xs ds->Dt K H (.ref a) (.tuple ds)
inductive DtAll (K:Waa)(H:Hp):List V->List PyData->Prop
 |nil:DtAll K H [] []
 |cons {x d xs ds}:Dt K H x d->DtAll K H xs ds->DtAll K H (x::xs) (d::ds)
end
theorem DtAll.length{K:Waa}(h:DtAll K H xs ds):xs.length=ds.length:=by
 induction xs generalizing ds with
 |nil=>cases h;rfl
 |cons v c Y=>cases h with|cons _ t=>rw[aaD,aaD,Y t]
theorem DtAll.get{K:Waa}{i:Nat}(h:DtAll K H xs ds)(e:ds[i]?=some d):∃x,xs[i]?=some x/\Dt K H x d:=by
 induction xs generalizing ds i with
 |nil=>cases h;cases i<;>cases e
 |cons v c Y=>
  cases h with
  |cons r t=>
   cases i with
   |zero=>cases e;exact⟨_,rfl,r⟩
   |succ i=>exact Y t e
theorem DtAll.append{K:Waa}(h:DtAll K H xs ds)(h':DtAll K H ys es):DtAll K H (xs++ys) (ds++es):=by
 induction xs generalizing ds with
 |nil=>cases h;exact h'
 |cons v c Y=>cases h with|cons r t=>exact .cons r (Y t)
theorem DtAll.ints{K:Waa}:∀(ns:List Int),DtAll K H (ns.map V.int) (ns.map PyData.int)
 |[]=>.nil
 |n::ns=>.cons (.int n) (DtAll.ints ns)
theorem Same.tupS{K:Waa}{H l:Hp}(e:Same H l)(h:SqT K H a xs):SqT K l a xs:=by
 rcases h with (h|⟨o,h⟩)|h
 ·exact .inl (.inl (e _ _ h))
 ·exact .inl (.inr ⟨o,e _ _ h⟩)
 ·exact .inr h
theorem Dt.ind{K:Waa}{P:V->PyData->Prop}{Q:List V->List PyData->Prop}(N:P .non .none)(L:∀b,P (.bl b) (.bool b))(t:∀i,P (.int i) (.int i))(r:∀x,P (.str x) (.str x))
  (T:∀{a xs ds},SqL K H a xs->Q xs ds->P (.ref a) (.list ds)) (p:∀{a xs ds},SqT K H a xs->Q xs ds->P (.ref a) (.tuple ds)) (nil:Q [] []) (cons:∀{x d xs ds},P x d->Q xs ds->Q (x::xs) (d::ds)):
  (∀{v d},Dt K H v d->P v d)/\∀{vs ds},DtAll K H vs ds->Q vs ds:=
 ⟨λh=>Dt.rec N L t r (λh _ i=>T h i) (λh _ i=>p h i) nil (λ_ _ i j=>cons i j) h,
  λh=>DtAll.rec N L t r (λh _ i=>T h i) (λh _ i=>p h i) nil (λ_ _ i j=>cons i j) h⟩
theorem Dt.mono_{K:Waa}{H l:Hp}(s:Same H l):(∀{x:V}{d:PyData},Dt K H x d->Dt K l x d)/\∀{xs:List V}{ds:List PyData},DtAll K H xs ds->DtAll K l xs ds:=
 Dt.ind .non .bl .int .str (λh t=>.lst (s.seq h) t) (λh t=>.tup (s.tupS h) t) .nil (λr t=>.cons r t)
theorem Dt.mono{K:Waa}(s:Same H H')(h:Dt K H x d):Dt K H' x d:=(Dt.mono_ s).1 h
theorem DtAll.mono{K:Waa}(s:Same H H')(h:DtAll K H xs ds):DtAll K H' xs ds:=(Dt.mono_ s).2 h
theorem Dt.u3(I:Inv X pins σ H s):(∀{x:V}{d:PyData},Dt X.K H x d->∀{u:Value},RelV x u->∃as,Reads s.heap u d as)/\∀{xs:List V}{ds:List PyData},DtAll X.K H xs ds->∀{us:List Value},Vals xs us->∃as,ReadsAll s.heap us ds as:=by
 refine Dt.ind (P:=λx d=>∀{u:Value},RelV x u->∃as,Reads s.heap u d as) ?_ ?_ ?_ ?_ ?_ ?_ ?_ ?_
 ·intro u r;cases r;exact⟨_,.none⟩
 ·intro b u r;cases r;exact⟨_,.bool b⟩
 ·intro i u r;obtain⟨t,rfl⟩:=r;exact⟨_,.int i t⟩
 ·intro x u r;obtain⟨t,rfl⟩:=r;exact⟨_,.str x t⟩
 ·intro a xs ds h i u r;cases r;obtain⟨D,O,⟨o,n,e,U,_,W⟩,_⟩:=I.list h;obtain⟨as,q⟩:=i O;exact⟨_,.list e U W (by omega)⟩
 ·intro a xs ds h i u r;cases r;obtain⟨D,O,⟨o,e,U,n,W⟩,_⟩:=I.tuple h;obtain⟨as,q⟩:=i O;exact⟨_,.tuple e U W (by omega)⟩
 ·intro us r;cases r;exact⟨_,.nil⟩
 ·intro x d xs ds i j us r;cases r with
  |cons w z=>obtain⟨as,q⟩:=i w;obtain⟨N,p⟩:=j z;exact⟨_,.cons q p⟩
theorem Dt.reads(I:Inv X pins σ H s)(h:Dt X.K H x d)(r:RelV x u):∃as,Reads s.heap u d as:=(Dt.u3 I).1 h r
theorem DtAll.reads(I:Inv X pins σ H s)(h:DtAll X.K H xs ds)(r:Vals xs us):∃as,ReadsAll s.heap us ds as:=(Dt.u3 I).2 h r
mutual
theorem eqv_refl:∀(d:PyData),d.canLay0=true->PyData.eqv d d=true
 |.none,_=>by rfl
 |.bool b,_=>by simp[PyData.eqv]
 |.int i,_=>by simp[PyData.eqv]
 |.str x,_=>by simp[PyData.eqv]
 |.list xs,h=>by simp only[PyData.eqv];exact eqvAll_refl xs (by trivial)
 |.tuple xs,h=>by simp only[PyData.eqv];exact eqvAll_refl xs (by trivial)
 |.dict _,h=>by trivial
theorem eqvAll_refl:∀(ds:List PyData),PyData.canLayAll0 ds=true->PyData.eqvAll ds ds=true
 |[],_=>by rfl
 |d::ds,h=>by simp only[PyData.canLayAll0,aaC]at h;simp only[PyData.eqvAll,aaC];exact⟨eqv_refl d h.1,eqvAll_refl ds h.2⟩
end
def Gi(K:Waa):R2:=λx y H Q=>∃a n,Dt K H x a/\Dt K H y n/\SeqAt.shaped a=true/\SeqAt.shaped n=true/\Q (.bl (PyData.eqv a n)) H
def Gj(K:Waa):R2:=λx y H Q=>∃a n,Dt K H x a/\Dt K H y n/\SeqAt.shaped a=true/\SeqAt.shaped n=true/\Q (.bl (!PyData.eqv a n)) H
theorem C9(U:X.A.units+64<cLine):OpR X (compareOp .Eq) (Gi X.K):=by intro M s L H x y v u Q I J T h;obtain⟨a,n,z,o,S,D,q⟩:=h;obtain⟨P,w⟩:=z.reads I J;obtain⟨N,p⟩:=o.reads I T;exact eq_dataH w p S D U ⟨.bl _,H,I,rfl,q⟩
theorem Da(U:X.A.units+64<cLine):OpR X (compareOp .NotEq) (Gj X.K):=by intro M s L H x y v u Q I J T h;obtain⟨a,n,z,o,S,D,q⟩:=h;obtain⟨P,w⟩:=z.reads I J;obtain⟨N,p⟩:=o.reads I T;exact ne_dataH w p S D U ⟨.bl _,H,I,rfl,q⟩
theorem kit_same(K:Waa)(T:String):PySem.W.kitOne K (.type T) (.type T)=some true:=by unfold PySem.W.kitOne;simp
theorem kit_lt(K:Waa):PySem.W.kitOne K (.type "list") (.type "tuple")=some false:=by rfl
theorem kit_tl(K:Waa):PySem.W.kitOne K (.type "tuple") (.type "list")=some false:=by rfl
theorem kit_il(K:Waa):PySem.W.kitOne K (.type "int") (.type "list")=some false:=by rfl
theorem kit_it(K:Waa):PySem.W.kitOne K (.type "int") (.type "tuple")=some false:=by rfl
theorem kit_is(K:Waa):PySem.W.kitOne K (.type "int") (.type "str")=some false:=by rfl
theorem kit_sl(K:Waa):PySem.W.kitOne K (.type "str") (.type "list")=some false:=by rfl
theorem kit_st(K:Waa):PySem.W.kitOne K (.type "str") (.type "tuple")=some false:=by rfl
theorem kit_sb(K:Waa):PySem.W.kitOne K (.type "str") (.type "bool")=some false:=by rfl
theorem kit_bl(K:Waa):PySem.W.kitOne K (.type "bool") (.type "list")=some false:=by rfl
theorem kit_bt(K:Waa):PySem.W.kitOne K (.type "bool") (.type "tuple")=some false:=by rfl
theorem kit_nl(K:Waa):PySem.W.kitOne K (.type "NoneType") (.type "list")=some false:=by rfl
theorem kit_nt(K:Waa):PySem.W.kitOne K (.type "NoneType") (.type "tuple")=some false:=by rfl
theorem kit_ns(K:Waa):PySem.W.kitOne K (.type "NoneType") (.type "str")=some false:=by rfl
theorem kit_nb(K:Waa):PySem.W.kitOne K (.type "NoneType") (.type "bool")=some false:=by rfl
theorem kit_ti(K:Waa):PySem.W.kitOne K (.type "tuple") (.type "int")=some false:=by rfl
theorem kit_ls(K:Waa):PySem.W.kitOne K (.type "list") (.type "str")=some false:=by rfl
theorem kit_ts(K:Waa):PySem.W.kitOne K (.type "tuple") (.type "str")=some false:=by rfl
theorem kit_lb(K:Waa):PySem.W.kitOne K (.type "list") (.type "bool")=some false:=by rfl
theorem kit_tb(K:Waa):PySem.W.kitOne K (.type "tuple") (.type "bool")=some false:=by rfl
inductive Ty (K:Waa)(H:Hp):V->String->Prop
 |non:Ty K H .non "NoneType"
 |bl (b:Bool):Ty K H (.bl b) "bool"
 |int (i:Int):Ty K H (.int i) "int"
 |str (x:Str):Ty K H (.str x) "str"
 |lst {a xs}:SqL K H a xs->Ty K H (.ref a) "list"
 |tup {a xs}:SqT K H a xs->Ty K H (.ref a) "tuple"
theorem Ty.kitx(I:Inv X pins σ H s)(d:Ty X.K H x n)(J:RelV x u):
  ∃Z:Heap->Prop,PySem.W.KitX X.K u (.type n) Z/\Z s.heap/\u≠.builtin "__main__.__loader__#opaque":=by
 cases d with
 |non=>cases J;exact⟨_,PySem.W.kitx_none,trivial,λz=>nomatch z⟩
 |bl b=>cases J;exact⟨_,PySem.W.kitx_bool,trivial,λz=>nomatch z⟩
 |int i=>obtain⟨t,rfl⟩:=J;exact⟨_,PySem.W.kitx_int,trivial,λz=>nomatch z⟩
 |str x=>obtain⟨t,rfl⟩:=J;exact⟨_,PySem.W.kitx_str,trivial,λz=>nomatch z⟩
 |lst h=>cases J;obtain⟨D,_,⟨o,n,e,U,_⟩,_⟩:=I.list h;exact⟨_,PySem.W.kitx_list,⟨o,e,U⟩,λz=>nomatch z⟩
 |tup h=>cases J;obtain⟨D,_,⟨o,e,U,_⟩,_⟩:=I.tuple h;exact⟨_,PySem.W.kitx_tuple,⟨o,e,U⟩,λz=>nomatch z⟩
theorem vq(T:String):CallR X (.builtin "isinstance") (λxs H Q=>∃x n b,xs=[x,.ty T]/\Ty X.K H x n/\PySem.W.kitOne X.K (.type n) (.type T)=some b/\Q (.bl b) H):=by
 intro M s L H xs y Q I r h;obtain⟨x,n,b,rfl,d,e,q⟩:=h;obtain⟨u,v,rfl,J,p⟩:=r.two;cases p;obtain⟨Z,B,z,A⟩:=d.kitx I J;exact PySem.W.kia_one B I.qd z e A λf=>⟨.bl b,H,I.tok _,rfl,q⟩
theorem sU(S T:String):CallR X (.builtin "isinstance") (λxs H Q=>∃x n b p,xs=[x,.ref p]/\H p=some (.tup [.ty S,.ty T])/\Ty X.K H x n/\PySem.W.kitAny X.K (.type n) [.type S,.type T]=some b/\Q (.bl b) H):=by
 intro M s L H xs y Q I r h;obtain⟨x,n,b,p,rfl,C,d,e,q⟩:=h;obtain⟨u,v,rfl,J,Y⟩:=r.two;cases Y;obtain⟨Z,B,z,A⟩:=d.kitx I J;obtain⟨_,D,O,⟨⟨c,P,m,i⟩,F,U,a,N⟩⟩:=I.hok p _ C;obtain⟨t,k,rfl,w,g⟩:=O.two;cases w;cases g;replace U:=U;replace N:=N.1;subst U N;exact PySem.W.kia_tup B I.qd z F e A λf=>⟨.bl b,H,I.tok _,rfl,q⟩
theorem iK(K:Waa)(O:PySem.W.kitOne K (.type n) (.type S)=some true\/(PySem.W.kitOne K (.type n) (.type S)=some false/\PySem.W.kitOne K (.type n) (.type T)=some true)):
  PySem.W.kitAny K (.type n) [.type S,.type T]=some true:=by
 rcases O with h|⟨h,C⟩
 ·simp[PySem.W.kitAny,h]
 ·simp[PySem.W.kitAny,h,C]
theorem eP(K:Waa)(h:PySem.W.kitOne K (.type n) (.type S)=some false)(h':PySem.W.kitOne K (.type n) (.type T)=some false):
  PySem.W.kitAny K (.type n) [.type S,.type T]=some false:=by
 simp[PySem.W.kitAny,h,h']
end
section
def Gk(i j k:Nat)(Z:TA):TS:=λD L H=>Z L H λc P=>∃v w u,c=[v,w,u]/\D.nx (((L.set i (some v)).set j (some w)).set k (some u)) P
theorem y4{l A Y}(hc:X.calm=true)(hN:X.N.Nodup)(r:X.N[i]?=some x)(W:X.N[j]?=some y)(hk:X.N[k]?=some z)(a0:i≠j)(a1:i≠k)(Z:j≠k)
  (F:X.env.scope.names.lookup x=some .local) (m:X.env.scope.names.lookup y=some .local) (d:X.env.scope.names.lookup z=some .local) (ha:PA X [a,b,c] ta)
  (Q:swappedStores [.Tuple [.Name x px,.Name y py,.Name z pz] l pt] (.Tuple [a,b,c] A Y) X.env=pure (some [x,y,z]))
  (g:swapsWithSole [.Tuple [.Name x px,.Name y py,.Name z pz] l pt] (.Tuple [a,b,c] A Y) pos.line X.env=pure false:=by rfl):
  PS X (.Assign [.Tuple [.Name x px,.Name y py,.Name z pz] l pt] (.Tuple [a,b,c] A Y) pos) (Gk i j k ta):=by
 intro M s L H D I h;rw[exec_Assign_arm];refine acs (acC ?_);rw[g];refine acs (acv ?_);rw[if_neg (by decide)];refine acs (Tuple_ (thn (ha _ M s L H _ I h) λus f ⟨vs,P,B,r1,C⟩=>?_));obtain⟨v,w,u,J,C⟩:=C;subst J;obtain⟨S,u2,U,rfl,O,a3,ru⟩:∃S u2 U,us=[S,u2,U]/\RelV v S/\RelV w u2/\RelV u U:=by
  cases r1 with
  |cons p q=>
   cases q with
   |cons p' q'=>
    cases q' with
    |cons a5 a2=>
     cases a2
     grind
 refine acG ?_ (by show 3<=sizeLine;decide);have t:Inv X M L P { f with heap:=f.heap.push { cls:=.type "tuple",data:=.seq [S,u2,U].toArray } }:=B.kept λb o e=>acw _ e;rw[Q];refine acs (acv ?_);refine acs (acH (acs (unpackItems_tuple (items:=#[S,u2,U]) (I.ok.hd hc) (IsTup.new f.heap _) λh' a4=>?_)));have I3:=t.kept (t':=f.toks) λb o e=>a4 b o (aao (acu e)) e;refine acs (acF (acJ (bO I3 hN hk (.inl d) ru (λs2 n=>?_) (.inr d))));refine acF (acJ (bO n hN W (.inl m) a3 (λs3 T=>?_) (.inr m)));refine acF (acJ (bO T hN r (.inl F) O (λs4 I6=>assignInOrder_nil (acv ?_)) (.inr F)));have e:((L.set k (some u)).set j (some w)).set i (some v)=((L.set i (some v)).set j (some w)).set k (some u):=by rw[abm _ _ (aaG a0),abm _ _ (aaG a1),abm _ _ (aaG Z)]
 rw[e]at I6;exact⟨_,P,I6,C⟩
def Keep(S:List Addr)(H l:Hp):Prop:=∀b o,H b=some o->b ∉ S->l b=some o
theorem Keep.refl(S:List Addr)(H:Hp):Keep S H H:=λ_ _ h _=>h
theorem Keep.trans(a:Keep S H H1)(b:Keep S H1 H2):Keep S H H2:=λc o h n=>b c o (a c o h n) n
theorem Keep.new(a:Keep S H H1)(n:H1 p=none):Keep S H (upd H1 p o):=λc u h m=>by have q:=a c u h m;rw[upd_ne (au q n)];exact q
theorem Keep.put(a:Keep S H H1)(n:p∈S\/H p=none):Keep S H (upd H1 p o):=λc u h m=>by
 have A:c≠p:=λe=>by
  grind
 rw[upd_ne A];exact a c u h m
theorem Keep.at(a:Keep S H H')(h:H b=some o)(n:b ∉ S):H' b=some o:=a b o h n
theorem Keep.same(a:Keep [] H H'):Same H H':=λb o h=>a b o h (by simp)
theorem Keep.sub(a:Keep S H H')(h:∀b∈S,b∈T):Keep T H H':=λb o e n=>a b o e λz=>n (h b z)
theorem Keep.free(e:Keep S H H')(h:H' l=none)(n:l ∉ S):H l=none:=by
 cases q:H l with
 |none=>rfl
 |some o=>rw[e l o q n]at h;cases h
end
section
theorem vw:bootBuiltins "len"=some (.builtin "len"):=by rfl
theorem Dc:bootBuiltins "abs"=some (.builtin "abs"):=by rfl
theorem De:bootBuiltins "max"=some (.builtin "max"):=by rfl
theorem Dg:bootBuiltins "min"=some (.builtin "min"):=by rfl
theorem Dh:bootBuiltins "all"=some (.builtin "all"):=by rfl
theorem fj:bootBuiltins "isinstance"=some (.builtin "isinstance"):=by rfl
theorem vy:bootBuiltins "int"=some (.type "int"):=by rfl
theorem y6:bootBuiltins "bool"=some (.type "bool"):=by rfl
theorem Di:bootBuiltins "str"=some (.type "str"):=by rfl
theorem kH:bootBuiltins "list"=some (.type "list"):=by rfl
theorem iL:bootBuiltins "tuple"=some (.type "tuple"):=by rfl
section
variable{Q:VK}{K:Waa}
theorem ow(h:n<=1000000):n<=sizeLine:=aan h (by decide)
end
end
section
section
variable{X:Cx}
end
end
section
section
variable{κ:Type}[DecidableEq κ]
noncomputable def valV(N:List (κ×V))(k:κ):Option V:=(N.find? λB=>decide (B.1=k)).map (·.2)
def putK(N:List (κ×V))(k:κ)(v:V):List (κ×V):=
 if (N.any λB=>decide (B.1=k))=true then N.map (λB=>if B.1=k then (B.1,v) else B) else N++[(k,v)]
def Bq(N:List (κ×V))(k:κ):List (κ×V):=N.filter λB=>decide (B.1≠k)
theorem dU{k:κ}(e:p.1=k):valV (p::r) k=some p.2:=by simp[valV,aaW,e]
theorem iM{k:κ}(e:¬ p.1=k):valV (p::r) k=valV r k:=by simp[valV,aaW,e]
theorem iN(k:κ):∀N:List (κ×V),(N.any λB=>decide (B.1=k))=(valV N k).isSome
 |[]=>rfl
 |p::r=>by
  rw[aaP];by_cases e:p.1=k
  ·simp only[dU e,Dac e,Bool.true_or,Option.isSome_some]
  ·rw[iM e,Dab e,abg];exact iN k r
theorem dW(N:List (κ×V))(k:κ)(v:V):(putK N k v).length<=N.length+1:=by
 unfold putK
 grind
theorem putK_new{k:κ}(v:V)(h:valV kvs k=none):putK kvs k v=kvs++[(k,v)]:=by unfold putK;rw[iN,h];rfl
theorem RelO.dw(r:RelO o u):o.isSome=u.isSome:=by
 cases o with
 |none=>cases u with
  |none=>rfl
  |some _=>trivial
 |some _=>cases u with
  |none=>trivial
  |some _=>rfl
theorem RelO.getD(r:RelO o u)(b:RelV d d'):RelV (o.getD d) (u.getD d'):=by
 cases o with
 |none=>cases u with
  |none=>grind
  |some _=>trivial
 |some _=>cases u with
  |none=>trivial
  |some _=>exact r
theorem KV.val(r:KV kvs vs)(k:κ):RelO (valV kvs k) (valueAt vs k):=by
 unfold KV at r;induction r with
 |nil=>trivial
 |@cons p q ps qs h t ih=>
  obtain⟨O,Z⟩:=h;by_cases e:p.1=k
  ·have L:=O.symm.trans e;have b:valueAt (q::qs) k=some q.2:=by simp[valueAt,aaW,L]
   rw[dU e,b];exact Z
  ·have L:¬ q.1=k:=λz=>e (O.trans z);have b:valueAt (q::qs) k=valueAt qs k:=by simp[valueAt,aaW,L]
   rw[iM e,b];omega
theorem KV.any{vs:List (κ×Value)}(r:KV kvs vs)(k:κ):(kvs.any λB=>decide (B.1=k))=vs.any λB=>decide (B.1=k):=by
 unfold KV at r;induction r with
 |nil=>rfl
 |cons h t Y=>rw[aaP,aaP,Y,h.1]
theorem KV.repl(r:KV kvs vs)(k:κ)(T:RelV y u):
  KV (kvs.map λB=>if B.1=k then (B.1,y) else B) (vs.map λB=>if B.1=k then (B.1,u) else B):=by
 unfold KV at r ⊢;induction r with
 |nil=>exact .nil
 |@cons p q ps qs h t ih=>
  rw[aal,aal];refine .cons ?_ ih
  grind
theorem KV.put(r:KV kvs vs)(k:κ)(T:RelV y u):KV (putK kvs k y) (stored vs k u):=by
 unfold putK stored;rw[r.any k];by_cases e:(vs.any λB=>decide (B.1=k))=true
 ·rw[if_pos e,if_pos e];exact r.repl k T
 ·rw[if_neg e,if_neg e];exact Paired.snoc r ⟨rfl,T⟩
theorem KV.drop(r:KV kvs vs)(k:κ):KV (Bq kvs k) (without vs k):=by
 unfold KV at r ⊢;unfold Bq without;induction r with
 |nil=>exact .nil
 |@cons p q ps qs h t ih=>
  obtain⟨O,Z⟩:=h;rw[List.filter_cons,List.filter_cons];by_cases e:p.1=k
  ·grind
  ·have L:=λz=>e (O.trans z);have a:decide (p.1≠k)=true:=by simp[e]
   have b:decide (q.1≠k)=true:=by grind
   rw[if_pos a,if_pos b];exact .cons ⟨O,Z⟩ ih
theorem KV.length{vs:List (κ×Value)}(r:KV kvs vs):kvs.length=vs.length:=acO r
end
theorem iO(r:RelV (kV k) u):(aP P w).is k u=true:=by
 cases k with
 |inl i=>obtain⟨t,e⟩:=(r);subst e;exact lU P w i t
 |inr x=>obtain⟨t,e⟩:=(r);subst e;exact mixKind_str P w x t
theorem jZ:∀{ks:List Key}{us:List Value},Vals (ks.map kV) us->ItemsAre (aP P w) ks us
 |[],_,r=>by rw[aay]at r;cases r;exact .nil
 |k::ks,_,r=>by
  rw[aal]at r;cases r with
  |cons h t=>exact .cons (iO h) (jZ t)
abbrev KT(H:Hp):List (List Key×V)->List (List Key×Addr×Value)->Prop:=Paired λp q=>p.1=q.1/\H q.2.1=some (.tup (p.1.map kV))/\RelV p.2 q.2.2
theorem KT.val(r:KT H kvs xs)(k:List Key):RelO (valV kvs k) ((atKey xs k).map (·.2)):=by
 induction r with
 |nil=>trivial
 |@cons p q ps qs h t ih=>
  obtain⟨O,_,Z⟩:=h;by_cases e:p.1=k
  ·have L:=O.symm.trans e;have b:atKey (q::qs) k=some q.2:=by simp[atKey,aaW,L]
   rw[dU e,b];exact Z
  ·have L:¬ q.1=k:=λz=>e (O.trans z);have b:atKey (q::qs) k=atKey qs k:=by simp[atKey,aaW,L]
   rw[iM e,b];omega
theorem KT.repl(r:KT H kvs xs)(k:List Key)(T:RelV y u):
  KT H (kvs.map λB=>if B.1=k then (B.1,y) else B) (xs.map (putAt k u)):=by
 induction r with
 |nil=>exact .nil
 |@cons p q ps qs h t ih=>
  rw[aal,aal];refine .cons ?_ ih;obtain⟨O,Z,M⟩:=h;unfold putAt;by_cases e:p.1=k
  ·rw[if_pos e,if_pos (O.symm.trans e)];exact⟨O,Z,T⟩
  ·rw[if_neg e,if_neg (λz=>e (O.trans z))];exact⟨O,Z,M⟩
theorem KT.put(r:KT H kvs xs)(k:List Key)(S:H b=some (.tup (k.map kV)))(T:RelV y u):
  KT H (putK kvs k y) (storedH xs k b u):=by
 have e:(kvs.any λB=>decide (B.1=k))=(atKey xs k).isSome:=by rw[iN,(r.val k).dw,abJ]
 unfold putK storedH;rw[e];by_cases q:(atKey xs k).isSome=true
 ·rw[if_pos q,if_pos q];exact r.repl k T
 ·rw[if_neg q,if_neg q];exact Paired.snoc r ⟨rfl,S,T⟩
theorem KT.keeps(r:KT H kvs xs)(u:∀b ys,H b=some (.tup ys)->H' b=some (.tup ys)):KT H' kvs xs:=
 Paired.mapP r λ_ _ z=>⟨z.1,u _ _ z.2.1,z.2.2⟩
theorem Br(U:HOk P w H h)(e:Rd H a u):ObjOk P w H h a u:=e.ok U
theorem iP(U:HOk P w H h)(e:Rd H a (.dK kvs)):kvs.length<=sizeLine/\(a==sysModules)=false/\∃vs,KV kvs vs/\h.DictOf (aP P w) a vs:=
 Br U e
theorem Bt(U:HOk P w H h)(e:H a=some (.dK kvs)):kvs.length<=sizeLine/\(a==sysModules)=false/\∃vs,KV kvs vs/\h.DictOf (aP P w) a vs:=iP U (.inl e)
theorem gy(U:HOk P w H h)(e:H a=some (.tup (ks.map kV))):(tupleKind (aP P w)).is h ks a:=by
 obtain⟨_,D,r,o,O,Z,n,M⟩:=(U a _ e)
 exact⟨o,D.toArray,n,O,Z,M.1,jZ r⟩
theorem iQ(U:HOk P w H h)(e:Rd H a (.dT kvs)):kvs.length<=sizeLine/\(a==sysModules)=false /\
  ∃xs,KT H kvs xs/\h.DictOfH (tupleKind (aP P w)) a xs:=by
 obtain⟨z,y,xs,r,o,L,i,O,Z,M,I,J⟩:=(Br U e)
 refine⟨z,y,xs,r,o,L,i,O,Z,M,I,λx F=>?_,J⟩;have A:∀{l:List (List Key×V)}{m:List (List Key×Addr×Value)},KT H l m->∀x∈m,(tupleKind (aP P w)).is h x.1 x.2.1:=by
  intro l m q;induction q with
  |nil=>simp
  |@cons p q ps qs hq t ih=>
   intro x F;rcases aaa.mp F with e|F
   ·subst e;exact gy U (by grind)
   ·grind
 grind
theorem Gm(U:HOk P w H h)(e:H a=some (.dT kvs)):kvs.length<=sizeLine/\(a==sysModules)=false /\
  ∃xs,KT H kvs xs/\h.DictOfH (tupleKind (aP P w)) a xs:=iQ U (.inl e)
def DGet(H:Hp)(a:Addr)(y:V)(r:Option V):Prop:=
 (∃N k,Rd H a (.dK N)/\y=kV k/\r=valV N k)\/∃N k b,Rd H a (.dT N)/\y=.ref b/\H b=some (.tup (k.map kV))/\r=valV N k
def DPut(H:Hp)(a:Addr)(y v:V)(l:Hp):Prop:=
 (∃N k,H a=some (.dK N)/\y=kV k/\N.length<sizeLine/\l=upd H a (.dK (putK N k v))) \/
 ∃N k b,H a=some (.dT N)/\y=.ref b/\H b=some (.tup (k.map kV))/\N.length<sizeLine/\l=upd H a (.dT (putK N k v))
theorem DGet.k{H:Hp}{a:Addr}{N:List (Key×V)}{k:Key}(e:H a=some (.dK N)):DGet H a (kV k) (valV N k):=.inl ⟨N,k,.inl e,rfl,rfl⟩
theorem DGet.t{H:Hp}{a b:Addr}{N:List (List Key×V)}{k:List Key}(e:H a=some (.dT N))(x:H b=some (.tup (k.map kV))):DGet H a (.ref b) (valV N k):=.inr ⟨N,k,b,.inl e,rfl,x,rfl⟩
theorem DPut.k{H:Hp}{a:Addr}{N:List (Key×V)}{k:Key}{v:V}(e:H a=some (.dK N))(t:N.length<sizeLine):DPut H a (kV k) v (upd H a (.dK (putK N k v))):=.inl ⟨N,k,e,rfl,t,rfl⟩
theorem DPut.t{H:Hp}{a b:Addr}{N:List (List Key×V)}{k:List Key}{v:V}(e:H a=some (.dT N))(x:H b=some (.tup (k.map kV)))(j:N.length<sizeLine):
  DPut H a (.ref b) v (upd H a (.dT (putK N k v))):=.inr ⟨N,k,b,e,rfl,x,j,rfl⟩
theorem Inv.big(I:Inv X pins σ H s):sysModules<s.heap.objs.size:=by have h:=(I.mod.glob.keeps I.bk).lt;exact abI (by decide) h
theorem sW(U:A.units+1<cLine)(I:Inv X pins σ H s)(g:DGet H a y (some v))(T:RelV y u)(h:∀D B,Inv X pins σ H B->RelV v D->Q D B):
  wpAny (model X.prog X.w) A (getItem (.ref a) u) Q E s:=by
 rcases g with ⟨N,k,e,m,l⟩|⟨N,k,b,e,m,x,l⟩
 ·subst m;obtain⟨z,W,c,S,P⟩:=iP I.hok e;obtain⟨D,Z,o⟩:=RelO.some_of (by rw[l];exact S.val k);exact wpAny_getItem_of (iO T) P.mapOf Z (h D _ (I.tok _) o)
 ·subst m;cases (T);obtain⟨z,W,Y,S,P⟩:=iQ I.hok e;obtain⟨D,Z,o⟩:=RelO.some_of (by rw[l];exact S.val k);obtain⟨p,C,F⟩:=aaJ.mp Z;refine wpAny_getItem_heap (acN U) (gy I.hok x) P C ?_;rw[F];exact h D _ (I.tok _) o
theorem JO(U:A.units+1<cLine)(I:Inv X pins σ H s)(g:DGet H a y o)(T:RelV y u)(h:∀B,Inv X pins σ H B->Q (.bool o.isSome) B):
  wpAny (model X.prog X.w) A (compareOp .In u (.ref a)) Q E s:=by
 rcases g with ⟨N,k,e,m,l⟩|⟨N,k,b,e,m,x,l⟩
 ·subst m;obtain⟨z,W,c,S,P⟩:=iP I.hok e;refine wpAny_in_of (iO T) W P.mapOf ?_;rw[<-(S.val k).dw,<-l];exact h _ (I.tok _)
 ·subst m;cases (T);obtain⟨z,W,Y,S,P⟩:=iQ I.hok e;refine wpAny_in_heap (acN U) (gy I.hok x) W P ?_;have q:=(S.val k).dw;rw[abJ]at q;rw[<-q,<-l];exact h _ (I.tok _)
theorem y7(U:A.units+1<cLine)(I:Inv X pins σ H s)(g:DGet H a y o)(T:RelV y u)(h:∀B,Inv X pins σ H B->Q (.bool (!o.isSome)) B):
  wpAny (model X.prog X.w) A (compareOp .NotIn u (.ref a)) Q E s:=by
 rcases g with ⟨N,k,e,m,l⟩|⟨N,k,b,e,m,x,l⟩
 ·subst m;obtain⟨z,W,c,S,P⟩:=iP I.hok e;refine wpAny_notIn_of (iO T) W P.mapOf ?_;rw[<-(S.val k).dw,<-l];exact h _ (I.tok _)
 ·subst m;cases (T);obtain⟨z,W,Y,S,P⟩:=iQ I.hok e;refine wpAny_notIn_heap (acN U) (gy I.hok x) W P ?_;have q:=(S.val k).dw;rw[abJ]at q;rw[<-q,<-l];exact h _ (I.tok _)
theorem kI{t':Nat}(I:Inv X pins σ H s)(M:FT (H a))(g:Heap.SameBut a s.heap h')(n:∃q,h'.get? a=some q)(i:ObjOk X.prog X.w (upd H a ob) h' a ob):
  Inv X pins σ (upd H a ob) { s with heap:=h',toks:=t' }:=
 I.write M (.inl rfl) (λb q S z=>(g.2 b S).trans z) n i
theorem vz(z:kvs.length<=sizeLine)(W:(a==sysModules)=false)(S:KV kvs vs)(dd:h'.DictOf (aP P w) a vs):
  ObjOk P w H' h' a (.dK kvs):=⟨z,W,vs,S,dd⟩
theorem sX(U:A.units+1<cLine)(I:Inv X pins σ H s)(g:DPut H a y v H')(T:RelV y u)(O:RelV v r)(h:∀B,Inv X pins σ H' B->Q () B):
  wpAny (model X.prog X.w) A (setItem (.ref a) u r) Q E s:=by
 rcases g with ⟨N,k,e,m,l,f⟩|⟨N,k,b,e,m,x,l,f⟩
 ·subst m f;obtain⟨z,W,vs,S,P⟩:=Bt I.hok e;have d:vs.length<=sizeLine:=by rw[<-S.length];exact z
  have t:(putK N k v).length<=sizeLine:=by have:=dW N k v;lia
  refine wpAny_setItem_pairs (iO T) P λC D hs=>h _ ?_;have n:∃q,C.get? a=some q:=let ⟨q,_,_,p,_⟩:=D;⟨q,p⟩
  exact kI I (by rw[e];trivial) hs n (vz t W (S.put k O) D)
 ·subst m f;cases (T);obtain⟨z,W,Y,S,P⟩:=Gm I.hok e;have d:Y.length<=sizeLine:=by rw[<-acO S];exact z
  have t:(putK N k v).length<=sizeLine:=by have:=dW N k v;lia
  refine wpAny_setItem_heap (acN U) (gy I.hok x) P λC D hs=>h _ ?_;obtain⟨q,L,i,p,Z,M,F,_,J⟩:=D;refine kI I (by rw[e];trivial) hs ⟨q,p⟩ ⟨t,W,_,(S.put k x O).keeps λc j o=>?_,q,L,i,p,Z,M,F,J⟩;rw[upd_ne (FS o e (λz=>nomatch z))]
  lia
def NoSl(i:Expr):Prop:=∀S a,subscripted i false S a=operate [S,a] (getItem S a)
theorem subD_of{T d:String}
  (t:typeLookup (.type T) "__getitem__"=pure (some (.builtin d))) (g:NoSl slice)
  (h:wpAny (model prog w) A (eval value env) (λo J=>wpAny (model prog w) A (eval slice env) (λi W=>W.TypeIs o T/\wpAny (model prog w) A (getItem o i) Q E W) E J) E s):
  wpAny (model prog w) A (eval (.Subscript value slice pos) env) Q E s:=by
 refine Subscript_ (acy h (λo J q=>acy q (λi W y=>?_) λ_ _ x=>x) λ_ _ x=>x);obtain⟨c,y⟩:=y;unfold subscriptTail;refine acs ?_;rw[getitemInPython_of_ne c.not_modules];refine acs (wpAny_specialOf c t ?_);have Y:wpAny (model prog w) A (subscripted slice false o i) (λr H=>wpAny (model prog w) A (letTemporaryGo value o r >>= λ_=>pure r) Q E H) E W:=by rw[g o i];exact wpAny_operating (acy y (λr H D=>acs (wpAny_letTemporaryGo (acv D))) λ_ _ x=>x)
 first
  |exact acv (acs Y)
  |exact acs (acv (acs Y))
  |exact acs Y
theorem mh(I:Inv X pins σ H s)(g:DGet H a y o):s.TypeIs (.ref a) "dict":=by
 rcases g with ⟨N,k,e,_,_⟩|⟨N,k,b,e,_,_,_⟩
 ·obtain⟨_,_,c,_,P⟩:=iP I.hok e;exact P.typeIs
 ·obtain⟨_,_,Y,_,P⟩:=iQ I.hok e;exact P.typeIs
def Gn(T d:TE):TE:=λL H Q=>T L H λx P=>d L P λy N=>∃a v,x=.ref a/\DGet N a y (some v)/\Q v N
def Gp(d T:TE):TE:=λL H Q=>d L H λy P=>T L P λx N=>∃a o,x=.ref a/\DGet N a y o/\Q (.bl o.isSome) N
def qh(d T:TE):TE:=λL H Q=>d L H λy P=>T L P λx N=>∃a o,x=.ref a/\DGet N a y o/\Q (.bl (!o.isSome)) N
def Gq(T d I:TE):TS:=λD L H=>I L H λv P=>T L P λx N=>d L N λy q=>∃a Q,x=.ref a/\DPut q a y v Q/\D.nx L Q
theorem y8(U:X.A.units+1<cLine)(j:PE X o td)(r:PE X i ty)(W:NoSl i):PE X (.Subscript o i pos) (Gn td ty):=by intro M s L H Q I h;refine subD_of PySem.F.slot_dict_getitem.lookup W (thn (j M s L H _ I h) λu f ⟨x,P,B,J,C⟩=>thn (r M f L P _ B C) λS Z m=>?_);obtain⟨y,N,t,T,a,v,k,g,b⟩:=m;subst k;obtain rfl:=J;exact⟨mh t g,sW U t g T λD O d q=>⟨v,N,d,q,b⟩⟩
theorem vA(U:X.A.units+1<cLine)(r:PE X i ty)(j:PE X o td):PC X .In i o (Gp ty td):=by
 intro M s L H Q I h;refine thn (r M s L H _ I h) λe f ⟨y,P,B,T,C⟩=>thn (j M f L P _ B C) λu Z m=>?_;obtain⟨x,N,t,J,a,S,k,g,b⟩:=m;subst k;obtain rfl:=J;exact JO U t g T λO d=>⟨.bl S.isSome,N,d,rfl,b⟩
theorem j3(U:X.A.units+1<cLine)(r:PE X i ty)(j:PE X o td):PC X .NotIn i o (qh ty td):=by
 intro M s L H Q I h;refine thn (r M s L H _ I h) λe f ⟨y,P,B,T,C⟩=>thn (j M f L P _ B C) λu Z m=>?_;obtain⟨x,N,t,J,a,S,k,g,b⟩:=m;subst k;obtain rfl:=J;exact y7 U t g T λO d=>⟨.bl (!S.isSome),N,d,rfl,b⟩
theorem qi(U:X.A.units+1<cLine)(j:PE X o td)(z:PE X i ty)(F:PE X value tv)(W:swapsWith value (some (.Subscript o i pos')) pos.line X.env=pure false):
  PS X (.Assign [.Subscript o i pos'] value pos) (Gq td ty tv):=by
 intro M s L H D I h;refine wpAny_Assign_Subscript (thn (F M s L H _ I h) λr f ⟨v,P,B,O,C⟩=>thn (j M f L P _ B C) λu Z ⟨x,N,t,J,b⟩=>thn (z M Z L N _ t b) λS w m=>?_) W;obtain⟨y,q,d,T,a,Q,k,g,e⟩:=m;subst k;obtain rfl:=J;exact sX U d g T O λc n=>⟨L,Q,n,e⟩
theorem mj(h:Heap)(S:sysModules<h.objs.size):ObjOk P w H (h.push { cls:=.type "dict",data:=.dict #[] }) h.objs.size (.dK []):=
 ⟨aaB _,beq_eq_false_iff_ne.mpr (aaG (aao S)),[],.nil,Heap.DictOf.new h⟩
def tDNewK:TE:=λ_ H Q=>∀p,H p=none->Q (.ref p) (upd H p (.dK []))
theorem vB:PE X (.Dict [] [] pos) tDNewK:=λM s L H Q I h=>
 wpAny_Dict_empty ⟨.ref s.heap.objs.size,_,I.laid (λ_ _ q=>acw _ q) (aac _) (mj s.heap I.big),rfl,h _ (I.hok.fresh (aac _))⟩
structure M1 (X:Cx)(o:Expr)(m:Str)(apos:Pos)(e:Expr)(cpos:Pos):Prop where
 base:attributeBase o m X.env (eval o X.env)=eval o X.env
 few:((backTo cpos (starEach [e] X.env)).all (λx=>!x.1)&&(backToKw cpos (keywordEach [] X.env)).all (λx=>x.1.isSome)
  && decide (([e]:List Expr).length+([]:List Keyword).length+(if ([]:List Keyword).isEmpty then 0 else 1)<30))=true
 line:(apos.endLine==cpos.line)=true
 trees:backTo cpos (starEach [e] X.env)=[(false,eval e X.env)]
def La(H:Hp)(a:Addr):Prop:=(∃N,Rd H a (.dK N))\/∃N,Rd H a (.dT N)
theorem Dj(I:Inv X pins σ H s)(d:La H a):
  s.TypeIs (.ref a) "dict"/\(∀b,Value.ref a=.ref b->∃m,s.heap.get? b=some m/\m.dict=none)/\(a==sysModules)=false:=by
 rcases d with ⟨N,e⟩|⟨N,e⟩
 ·obtain⟨_,W,c,_,P⟩:=iP I.hok e;refine⟨P.typeIs,λb q=>?_,W⟩;cases q;obtain⟨m,_,_,O,Z,_⟩:=P;exact⟨m,O,Z.2.1⟩
 ·obtain⟨_,W,Y,_,P⟩:=iQ I.hok e;refine⟨P.typeIs,λb q=>?_,W⟩;cases q;obtain⟨m,_,_,O,Z,_⟩:=P;exact⟨m,O,Z.2.1⟩
theorem Dm(U:A.units+1<cLine)(I:Inv X pins σ H s)(g:DGet H a y o)(T:RelV y u)(h:∀D B,Inv X pins σ H B->RelV (o.getD .non) D->Q D B):
  wpAny (model X.prog X.w) A (call (.builtin "dict.get") [.ref a,u]) Q E s:=by
 rcases g with ⟨N,k,e,m,l⟩|⟨N,k,b,e,m,x,l⟩
 ·subst m;obtain⟨z,W,c,S,P⟩:=iP I.hok e;refine call_meetsIn abK P.typeIs aca (acb _ _) (meets_dict_get (aP X.prog X.w) a (iO T) W) ⟨_,P.mapOf,h _ _ (I.tok _) ?_⟩;rw[l];exact(S.val k).getD rfl
 ·subst m;cases (show u=Value.ref b from T);obtain⟨z,W,Y,S,P⟩:=iQ I.hok e;refine call_meetsIn abK P.typeIs aca (acb _ _) (meetsH_dict_get (tupleKind (aP X.prog X.w)) a b W) ⟨acN U,k,Y,gy I.hok x,P,h _ _ (I.tok _) ?_⟩;rw[l];exact(S.val k).getD rfl
def vC(T d:TE):TE:=λL H Q=>T L H λx P=>∃a,x=.ref a/\La P a/\d L P λy N=>∃o,DGet N a y o/\Q (o.getD .non) N
theorem vD(U:X.A.units+1<cLine) (j:PE X o td) (n:PE X e ty) (m:M1 X o "get" apos e cpos):PE X (.Call (.Attribute o "get" apos) [e] [] cpos) (vC td ty):=by
 intro M s L H Q I h;refine wpAny_Call_method m.base m.few m.line PySem.F.plainAttrs_dict abK PySem.F.type_dict_get (thn (j M s L H _ I h) λu f Y=>?_);obtain⟨x,P,B,J,a,k,d,C⟩:=Y;subst k;obtain rfl:u=Value.ref a:=J;obtain⟨i,z,_⟩:=Dj B d;refine⟨i,z,?_⟩;rw[m.trees];refine Calls.callWith_builtin rfl (Calls.evalArgs_plain (Calls.spliced_cons (thn (n M f L P _ B C) λp Z ⟨y,N,t,T,S,g,b⟩=>Calls.spliced_nil ?_)));exact Dm U t g T λD O c q=>⟨_,N,c,q,b⟩
end
end L2
namespace L2
open PySem PySem.Spec PyProof.Rows
section
def JP(K:Waa)(l:Addr):It:=
 ⟨λi H=>∃Y x,SqL K H l Y/\Y[i]?=some x,
  λi H v j=>∃T x,(∀Y,SqL K H l Y->Y[i]?=some x)/\H T=none/\v=.ref T/\j=upd H T (.tup [.int i,x]),
  λi H=>∃Y,SqL K H l Y/\Y.length<=i⟩
theorem sY{P:Program}{w:World}{K:Waa}{es:List Expr}{x1}{pos:Pos}(l e it:Addr)(J:e≠it):
  Turn P w K (.Tuple es x1 pos) (JP K l) [e,it] e (λi h=>(∃a,IsEnum h e it (i:Int) a)/\h.IsListIter it l i) where
 mem:=by simp
 obj:=λi h ⟨⟨a,O⟩,Z⟩ c U=>by
  simp only[aaa,aar,or_false]at U;rcases U with rfl|rfl
  ·grind
  ·obtain⟨o,e,c,d⟩:=Z;grind
 keep:=λi h C ⟨⟨a,O⟩,Z⟩ k=>⟨⟨a,k e (by simp) _ O⟩,Z.at λo e=>k it (by simp) o e⟩
 item:=by
  intro X hP Q T U i M s L H E I y ⟨⟨a,O⟩,Z⟩ N;subst hP Q T;obtain⟨Y,x,A,F⟩:=N;obtain⟨D,rv,p,hz⟩:=I.list A;obtain⟨u,hu,ru⟩:=rv.get F;have W:=acu O;have li:it<s.heap.objs.size:=by obtain⟨o,e',_⟩:=id Z;exact acu e'
  refine wpAny_pyNext_enum_item O Z p.isList (x:=u) (by grind) J λC a4 a2 hT a6 hk=>?_;refine⟨.ref s.heap.objs.size,rfl,?_⟩;refine wpAny_letOwnedTupleGo_enum a4 λa0 a5 B=>?_;have B:=B;have f:∀c o,c ∉ ([e,it]:List Addr)->s.heap.get? c=some o->a0.get? c=some o:=λc o U q=>by simp only[aaa,aar,or_false,not_or]at U;exact B.extBut _ _ U.1 (hk c o U.1 U.2 q)
  have hn:=I.hok.fresh (aac _);have I1:Inv X M L H { s with heap:=a0,toks:=s.toks+1 }:=I.h7 f y;have a1:=B.extBut _ _ (aa9 W) hT;have t:Inv X M L (upd H s.heap.objs.size (.tup [.int i,x])) { s with heap:=a0,toks:=s.toks+1 }:=by
   refine I.step (g':=s.gens) (d':=s.drawn) (ch:=[e,it]) (λb S=>?_) (λb o _ _ U e _=>f b o U e) (λb o _ _ U e _=>⟨o.slots,f b o U e⟩) (λb o U e n=>?_)
    (λb o U e=>⟨o,f b o U e⟩) (λb j e=>?_) (λb o u e=>?_) (λb ps e=>⟨#[],?_⟩) (λm hm=>?_) (λb o e=>?_) I.bare
   ·obtain⟨f0,f1,f2,g,f4,f5⟩:=y b S
    grind
   ·rw[upd_ne (aao (acu e))];exact n
   ·rw[upd_ne (au e hn)];exact e
   ·rw[upd_ne (au e hn)];exact e
   ·rw[upd_ne (au e hn),e];simp
   ·obtain⟨o,a3,ep,ho,r⟩:=hm;exact⟨o,a3,ep,f _ o (λz=>(y _ z).2.1 rfl) ho,r⟩
   ·by_cases S:b=s.heap.objs.size
    ·subst S;rw[aB]at e;cases e;exact⟨(by show 2<=sizeLine;decide),[.int i s.toks,u],.cons ⟨_,rfl⟩ (.cons ru .nil),⟨_,a1,rfl,_,rfl,rfl⟩⟩
    ·rw[upd_ne S]at e;refine(I1.hok b o e).nc (λc v U q=>q) (λc q=>by rw[upd_ne (au q hn)];exact q) λc j q=>by rw[upd_ne (au q hn)];exact q
  refine⟨.ref s.heap.objs.size,_,t,rfl,⟨_,x,λj hy=>by rw[I.n8 hy A];omega,hn,rfl,rfl⟩,⟨⟨u,by grind⟩,a2.at λo q=>B.extBut _ _ (aaG J) q⟩,λc U=>?_⟩;simp only[aaa,aar,or_false]at U;rcases U with rfl|rfl
  ·rw[upd_ne (aao W)];exact(y _ (by simp)).1
  ·rw[upd_ne (aao li)];exact(y _ (by simp)).1
 done:=by
  intro X hP Q T U i M s L H E I y ⟨⟨a,O⟩,Z⟩ N;subst hP Q T;obtain⟨Y,A,F⟩:=N;obtain⟨D,rv,p,hz⟩:=I.list A;have hl:=rv.length;refine wpAny_pyNext_enum_end (I.ok.hd U) O Z p.isList (by grind) λC eb=>⟨rfl,I.h7 (t':=s.toks) (λc o U q=>?_) y⟩
  simp only[aaa,aar,or_false,not_or]at U;exact eb c o U.2 q
 self:=λ_ _ _ _ _ ⟨⟨a,O⟩,_⟩ h=>wpAny_pyIter_enum O h
theorem sZ:bootBuiltins "enumerate"=some (.type "enumerate"):=by rfl
section
variable{X:Cx}
def Gs(K:Waa)(Z:TA):TI:=λL H R=>Z L H λc P=>∃l Y,c=[.ref l]/\SqL K P l Y/\R (JP K l) P
theorem y9{es:List Expr}{v}{W:Pos}{a:Expr}{p pos:Pos} (N:Gl X "enumerate") (Y:X.mg "enumerate"=none) (j:PA X [a] ta) (g:starEach [a] X.env=[(false,eval a X.env)]:=by rfl):
  PI X (.Tuple es v W) (.Call (.Name "enumerate" p) [a] [] pos) (Gs X.K ta):=by
 intro M s L H R I h;refine Call_ (fB I N Y sZ (abf (thn (j pos M s L H _ I h) λy f m=>?_) g rfl));obtain⟨c,P,B,w,C⟩:=m;obtain⟨l,F,e,U,q⟩:=C;subst e;cases w with
 |cons r A=>
  cases A;cases r;obtain⟨J,O,z,d⟩:=B.list U;refine call_enumerate_list z.isList λx n k i Z=>?_;refine wpAny_pyIter_enum n ?_;have T:Inv X M L P { f with heap:=x }:=B.kept Z;refine⟨f.heap.objs.size+1,[f.heap.objs.size+1,f.heap.objs.size],_,_,P,rfl,T,sY l _ _ (by simp),⟨⟨_,n⟩,k⟩,λb S=>?_,q⟩;have D:f.heap.objs.size<=b:=by
   grind
  exact B.rd D (B.hok.fresh D)
end
end
section
end
section
def JQ(lo c:Int)(n:Nat):It:=⟨λi _=>i<n,λi H x l=>l=H/\x=.int (lo+i*c),λi _=>n<=i⟩
theorem tf{K:Waa}(it:Addr)(lo c:Int)(n:Nat):Turn P w K tg (JQ lo c n) [it] it (λi h=>IsRangeIter h it (lo+(i:Nat)*c) ((n:Int)-(i:Nat)) c) where
 mem:=by simp
 obj:=λi h J b S=>by
  grind
 keep:=λi h C J k=>k it (by simp) _ J
 item:=by intro X q Q T U i M s L H E I y J N;subst q Q T;obtain⟨z,r,d,g,Z,l⟩:=y it (by simp);have W:=Walks.range (prog:=X.prog) (w:=X.w) (I.ok.hd U) it lo c n;refine W.item i s _ _ N J λv C f u a D=>?_;obtain⟨t,rfl⟩:=u;have B:Inv X M L H { s with heap:=C,toks:=f }:=I.turned (λb o S e=>D b o (by grind) e) z r g Z l;exact⟨_,rfl,pV a rfl rfl (by rfl) ⟨.int (lo+i*c),H,B,⟨t,rfl⟩,⟨rfl,rfl⟩,a,λb S=>(y b S).1⟩⟩
 done:=by
  intro X q Q T U i M s L H E I y J N;subst q Q T;obtain⟨z,r,d,g,Z,l⟩:=y it (by simp);exact wpAny_pyNext_range_end (I.ok.hd U) J (by have:n<=i:=N;lia) λC x=>⟨rfl,I.turned (λb o S e=>x b o S e) z r g Z l⟩
 self:=λ_ _ _ _ _ J h=>wpAny_pyIter_rangeiter J h
def Gu(Z:TA):TI:=λL H R=>Z L H λo P=>∃(i j c:Int) (n:Nat),o=[.int i,.int j,.int c]/\(-1000000<=i/\i<=1000000/\-1000000<=j/\j<=1000000/\0<c/\c<=1000)/\Builtin.Range.rangeSize i j c=(n:Int)/\R (JQ i c n) P
theorem oy(O:-1000000<=a)(Z:a<=1000000)(M:-1000000<=b)(F:b<=1000000)(h5:0<c)(L:c<=1000):Builtin.Range.small a b c=true:=by
 have y:0<=(if a<b then (b-a-1)/c+1 else 0)/\(if a<b then (b-a-1)/c+1 else 0)<=3000000:=by
  split
  ·have v:0<=(b-a-1)/c:=Int.ediv_nonneg (by lia) (by lia);have U:(b-a-1)/c<=b-a-1:=Int.ediv_le_self _ (by lia)
   lia
  ·lia
 have P:(if a<b then (b-a-1)/c+1 else 0)*c<=3000000000/\0<=(if a<b then (b-a-1)/c+1 else 0)*c:=by generalize (if a<b then (b-a-1)/c+1 else 0)=n at *;exact⟨abL (Int.mul_le_mul y.2 L (by lia) (by lia)) (by decide),Int.mul_nonneg y.1 (by lia)⟩
 unfold Builtin.Range.small;unfold Builtin.Range.rangeSize;rw[if_pos h5];generalize (if a<b then (b-a-1)/c+1 else 0)=n at *;simp only[Builtin.Range.rangeFitsLong,aaC,abc,decide_eq_true_eq,beq_iff_eq,if_pos h5]
 lia
theorem th{p pos:Pos} (N:Gl X "range") (Y:X.mg "range"=none) (u:PA X [a,b,c] ta) (g:starEach [a,b,c] X.env=[(false,eval a X.env),(false,eval b X.env),(false,eval c X.env)]:=by rfl)
  (d:starEach [b,c] X.env=[(false,eval b X.env),(false,eval c X.env)]:=by rfl):
  PI X tg (.Call (.Name "range" p) [a,b,c] [] pos) (Gu ta):=by
 intro M s L H R I h;refine Call_ (fB I N Y boot_range (abf (thn (u pos M s L H _ I h) λx f ⟨vs,P,F,w,C⟩=>?_) (by grind) (by rw[d];rfl)));obtain⟨i,j,k,n,e,⟨y,Q,W,m,v,Z⟩,l,q⟩:=C;subst e;cases w with
 |cons r A=>
  cases A with
  |cons O A=>
   cases A with
   |cons U A=>
    cases A;obtain⟨t,rfl⟩:=r;obtain⟨z,rfl⟩:=O;obtain⟨T,rfl⟩:=U;refine call_range_3 (by omega) ?_ (Or.inl (ab7 (by omega)));refine wpAny_pyIter_range (IsRange.new ..) (oy y Q W m v Z) ?_;have D:Inv X M L P { f with heap:=f.heap.push { cls:=.type "range",data:=.fields #[.int i t,.int j z,.int k T] },toks:=f.toks }:=F.kept λb o e=>acw _ e;refine⟨(f.heap.push { cls:=.type "range",data:=.fields #[.int i t,.int j z,.int k T] }).objs.size,[(f.heap.push { cls:=.type "range",data:=.fields #[.int i t,.int j z,.int k T] }).objs.size],_,_,P,rfl,
     D.kept λb o e=>acw _ e,tf _ i k n,?_,λb S=>?_,q⟩
    ·have J:i+((0:Nat):Int)*k=i:=by simp
     have B:(n:Int)-((0:Nat):Int)=Builtin.Range.rangeSize i j k:=by grind
     show IsRangeIter _ _ (i+((0:Nat):Int)*k) ((n:Int)-((0:Nat):Int)) k;rw[J,B];exact acx _ rfl
    ·have e:b=(f.heap.push { cls:=.type "range",data:=.fields #[.int i t,.int j z,.int k T] }).objs.size:=by grind
     subst e;exact D.rd (aac _) (D.hok.fresh (aac _))
end
section
def Bu(w:World)(e:DictEntry)(B:Str×Str):Prop:=e.hash=hashStr w B.1/\(∃t,e.key=.str B.1 t)/\∃t,e.val=.str B.2 t
def KDict(K:Waa)(w:World)(c:Addr)(N:List (Str×Str)):Prop:=
 ∃o L i,K.lookup c=some o/\o.ExactDict/\o.data=.dict L i/\Paired (Bu w) L.toList N/\(N.map (·.1)).Nodup/\(c==sysModules)=false
def keysOf(N:List (Str×Str)):List (Key×V):=N.map λB=>(.inr B.1,.str B.2)
theorem tj{N:List (Str×Str)}(h:(N.map (·.1)).Nodup):(N.map λB=>(.inr B.1:Key)).Nodup:=by
 grind
theorem KDict.dict{K:Waa}(D:KDict K w c kvs)(X:K.In h):∃vs,KV (keysOf kvs) vs/\h.DictOf (aP P w) c vs:=by
 obtain⟨o,U,I,j,F,W,y,Q,_⟩:=D;have A:∀{l:List DictEntry}{m:List (Str×Str)},Paired (Bu w) l m->∃vs:List (Key×Value),KV (keysOf m) vs/\Pairs (aP P w) l vs/\vs.map (·.1)=m.map (λB=>(.inr B.1:Key))/\∀e∈l,∃k,(aP P w).is k e.key=true/\e.hash=(aP P w).hash k:=by
  intro l m r;induction r with
  |nil=>exact⟨[],.nil,.nil,rfl,λe n=>by cases n⟩
  |@cons e B l m h t ih=>
   obtain⟨vs,C,b,g,v⟩:=ih;obtain⟨O,⟨i,Z⟩,⟨N,M⟩⟩:=h;have T:(aP P w).is (.inr B.1) e.key=true:=by rw[Z];exact mixKind_str P w B.1 i
   refine⟨(.inr B.1,.str B.2 N)::vs,.cons ⟨rfl,⟨N,rfl⟩⟩ C,.cons T M b,by rw[aal,aal,g],λL n=>?_⟩;rcases aaa.mp n with rfl|n
   ·exact⟨_,T,O⟩
   ·exact v L n
 obtain⟨vs,C,b,g,v⟩:=A y;refine⟨vs,C,o,U,I,X _ _ j,F,W,λe n=>v e (by simpa using n),b,?_⟩;rw[g];exact tj Q
def Fit(d:PyData)(n:Nat):Prop:=d.showable=true/\d.hasDict=false/\d.shown.length<=n
theorem Fit.le(h:Fit d n)(Y:n<=m):Fit d m:=⟨h.1,h.2.1,aan h.2.2 Y⟩
def JR(K:Waa)(n:Nat)(t:TGs):TG:=λv L H Q=>∃a Y,v=.ref a/\SqL K H a Y/\Y.length=n/\t Y L H Q
theorem Dn{k:Nat}(U:X.calm=true)(h:FI X es t)
  (l:(assignEach es X.env).length=n:=by rfl) (p:(assignEach es X.env).findIdx? (·.1)=none:=by rfl):PG X (.Tuple es k pos) (JR X.K n t):=by
 intro M s L H v u Q I r c;obtain⟨a,Y,J,A,j,c⟩:=c;subst J;cases r;obtain⟨D,g,⟨m,z,O,Z,_,P⟩,d⟩:=I.list A;have i:s.heap.IsList a D.toArray:=⟨m,O,Z,z,P⟩
 rw[assign_Tuple];refine acs (acC ?_);unfold unpack;rw[show (assignEach es X.env).length=D.toArray.size by simp[l,<-j,g.length],p];refine acs (acB (PySem.W.kun_itemsOf (I.ok.hd U) i λC F=>?_));have B:Inv X M L H { s with heap:=C }:=I.kept λb o e=>F b o (aao (acu e)) e;exact h M _ L H Y _ Q B (by omega) c
end
section
def Bv(H:Hp)(a:Addr)(y v:V)(l:Hp):Prop:=∃N k,H a=some (.dK N)/\y=kV k/\N.length<sizeLine/\l=upd H a (.dK (putK N k v))
def zd(f I:TE):TC:=λD L H Q=>f L H λk P=>I L P λv N=>∃q,Bv N D k v q/\Q q
abbrev vE(wi:TI)(nt:Nat)(fr:List Nat)(g:CC->TG)(tc:CC->TC):TE:=iH (.dK []) wi nt fr g (tZ tc)
noncomputable abbrev IQ(kx vx:Expr)(D:Addr)(env:Env):Sem Unit:=eval kx env >>= λkv=>holding [kv] (eval vx env) >>= λvv=>standAt { kx.pos with endLine:=vx.pos.endLine,endCol:=vx.pos.endCol } >>= λ_=>holding [kv,vv] (dictSet D kv vv)
def vF(Y:Cx)(D:Addr)(S:List Expr)(B X:Expr)(tc:TC):Prop:=PB Y (Bp S (IQ B X D Y.env) Y.env) (λL H Q=>tc D L H (Q L))
theorem tm(U:A.units+1<cLine)(I:Inv X pins σ H s)(g:Bv H a y v H')(T:RelV y u)(O:RelV v r)(h:∀B,Inv X pins σ H' B->Q () B):
  wpAny (model X.prog X.w) A (dictSet a u r) Q E s:=by
 obtain⟨N,k,e,m,l,f⟩:=g;subst m f;obtain⟨z,W,c,S,P⟩:=Bt I.hok e;have d:c.length<=sizeLine:=by rw[<-S.length];exact z
 have t:(putK N k v).length<=sizeLine:=by have:=dW N k v;lia
 refine wpAny_dictSet_pairs (iO T) P λC D Y=>h _ ?_;have n:∃q,C.get? a=some q:=let ⟨q,_,_,i,_⟩:=D;⟨q,i⟩
 exact kI I (by rw[e];trivial) Y n (vz t W (S.put k O) D)
theorem Do(U:Y.A.units+1<cLine)(hk:PE Y kx tk)(o:PE Y vx tv):PB Y (IQ kx vx D Y.env) (λσ H Q=>zd tk tv D σ H (Q σ)):=λM s σ H Q I h=>by refine acs (thn (hk M s σ H _ I h) λu f m=>?_);obtain⟨y,P,B,w,O⟩:=m;refine acs (acB (thn (o M f σ P _ B O) λr Z m=>?_));obtain⟨v,N,t,p,a,g,q⟩:=m;exact acs (acC (acB (tm U t g w p λW d=>⟨σ,a,d,q⟩)))
theorem oz(U:Y.A.units+1<cLine)(hk:PE Y kx tk)(o:PE Y vx tv):vF Y D [] kx vx (zd tk tv):=vj (Do U hk o)
theorem LQ:MkC X newDict { cls:=.type "dict",data:=.dict #[] } (.dK []):=⟨λh=>acG h (by first|trivial|exact aaB _|decide),λI=>I.laid (λ_ _ q=>acw _ q) (aac _) (mj _ I.big)⟩
theorem Dp(it:Value)(D:Addr)(env:Env):compTurn (.DictComp kx vx [⟨tg,iter,ifs,0⟩] scope pos) 0 it (.ref D) env=cY (.DictComp kx vx [⟨tg,iter,ifs,0⟩] scope pos) 0 tg iter.pos it (.ref D) env (Bp ifs (IQ kx vx D env) env):=by rw[compTurn_dict];simp only[cY,Bp,<-jp,IQ];rfl
theorem vG(a:X.N.Nodup)(m:X.N[i]?=some y)(t:X.env.scope.names.lookup y=some .local)(U:X.calm=true)(S:CompScope N nt fr X.N scope X.env.scope)(r:PI X tg iter wi)(A:∀c:CC,PG (cC X N scope c) tg (g c))(j:∀(c:CC) D,vF (cC X N scope c) D ifs kx vx (tc c))(f:∀x,foldedSetIterable iter X.env x=pure x)
  (Y:swapsWith (.DictComp kx vx [⟨tg,iter,ifs,0⟩] scope pos) (some (.Name y py)) spos.line X.env=pure true):PS X (.Assign [.Name y py] (.DictComp kx vx [⟨tg,iter,ifs,0⟩] scope pos) spos) (nU (vE wi nt fr g tc) (iB i)):=
 qe (.inr (.inl ⟨_,_,_,_,_,rfl⟩)) rfl (λ_ _ _=>Dp ..) LQ (λ_=>rfl) a m t U S r A j f Y
end
end L2
set_option genInjectivity false
namespace L2
open PySem PySem.Spec PyProof.Rows
section
structure Kp (S:Addr->Prop)(H H':Hp):Prop where
 k:∀b o,H b=some o->¬ S b->H' b=some o
 n:∀b,H' b=none->H b=none
theorem Kp.refl(S:Addr->Prop)(H:Hp):Kp S H H:=⟨λ_ _ h _=>h,λ_ h=>h⟩
theorem Kp.trans(a:Kp S H H1)(b:Kp S H1 H2):Kp S H H2:=⟨λc o h n=>b.k c o (a.k c o h n) n,λc h=>a.n c (b.n c h)⟩
theorem Kp.weak(a:Kp S H H')(h:∀b,S b->T b\/H b=none):Kp T H H':=⟨λb o e n=>a.k b o e λz=>(h b z).elim n λq=>(by grind),a.n⟩
theorem Kp.put(C:S p\/H p=none):Kp S H (upd H p o):=by
 refine⟨λb u h n=>?_,λb h=>?_⟩
 ·have A:b≠p:=λe=>by
   grind
  rw[upd_ne A];exact h
 ·by_cases e:b=p
  ·subst e;rw[aB]at h;cases h
  ·rw[upd_ne e]at h;exact h
theorem Kp.ne(a:Kp S H H')(h:H b≠none):H' b≠none:=λe=>h (a.n b e)
theorem Kp.keep(a:Kp (λ_=>False) H H'):Keep [] H H':=λb o h _=>a.k b o h (λz=>z)
def Bx(S:Addr->Prop)(F:Hp->Prop)(H:Hp):Prop:=∀l,Kp S H l->F l
theorem Bx.now{F:Hp->Prop}(h:Bx S F H):F H:=h H (Kp.refl _ _)
theorem Bx.step{F:Hp->Prop}(h:Bx S F H)(k:Kp S H H')(n:∀b,S' b->S b\/H b=none):Bx S' F H':=λN r=>
 h N ⟨λb o e x=>r.k b o (k.k b o e x) λz=>(n b z).elim x λq=>(by grind),λb e=>k.n b (r.n b e)⟩
mutual
inductive Fz (K:Waa)(S:Addr->Prop)(H:Hp):V->PyData->Prop
 |non:Fz K S H .non .none
 |bl (b:Bool):Fz K S H (.bl b) (.bool b)
 |int (i:Int):Fz K S H (.int i) (.int i)
 |str (x:Str):Fz K S H (.str x) (.str x)
 |lst {a xs ds}:Bx S (λH=>SqL K H a xs) H->FzA K S H xs ds->Fz K S H (.ref a) (.list ds)
 |tup {a xs ds}:Bx S (λH=>SqT K H a xs) H->FzA K S H xs ds->Fz K S H (.ref a) (.tuple ds)
inductive FzA (K:Waa)(S:Addr->Prop)(H:Hp):List V->List PyData->Prop
 |nil:FzA K S H [] []
 |cons {x d xs ds}:Fz K S H x d->FzA K S H xs ds->FzA K S H (x::xs) (d::ds)
end
section
variable{K:Waa}
theorem Fz.ind{P:V->PyData->Prop}{Q:List V->List PyData->Prop}(N:P .non .none)(L:∀b,P (.bl b) (.bool b))(t:∀i,P (.int i) (.int i))(r:∀x,P (.str x) (.str x))
  (T:∀{a xs ds},Bx S (λH=>SqL K H a xs) H->Q xs ds->P (.ref a) (.list ds)) (p:∀{a xs ds},Bx S (λH=>SqT K H a xs) H->Q xs ds->P (.ref a) (.tuple ds)) (nil:Q [] []) (cons:∀{x d xs ds},P x d->Q xs ds->Q (x::xs) (d::ds)):
  (∀{v d},Fz K S H v d->P v d)/\∀{vs ds},FzA K S H vs ds->Q vs ds:=
 ⟨λh=>Fz.rec N L t r (λh _ i=>T h i) (λh _ i=>p h i) nil (λ_ _ i j=>cons i j) h,
  λh=>FzA.rec N L t r (λh _ i=>T h i) (λh _ i=>p h i) nil (λ_ _ i j=>cons i j) h⟩
theorem Fz.j2(k:Kp S H H')(n:∀b,S' b->S b\/H b=none):(∀{v:V}{d:PyData},Fz K S H v d->Fz K S' H' v d)/\∀{vs:List V}{ds:List PyData},FzA K S H vs ds->FzA K S' H' vs ds:=
 Fz.ind .non .bl .int .str (λh t=>.lst (h.step k n) t) (λh t=>.tup (h.step k n) t) .nil (λr t=>.cons r t)
theorem Fz.step(k:Kp S H H')(n:∀b,S' b->S b\/H b=none){v:V}{d:PyData}(h:Fz K S H v d):Fz K S' H' v d:=(Fz.j2 k n).1 h
theorem FzA.step(k:Kp S H H')(n:∀b,S' b->S b\/H b=none){vs:List V}{ds:List PyData}(h:FzA K S H vs ds):FzA K S' H' vs ds:=(Fz.j2 k n).2 h
theorem Fz.dt_:(∀{v:V}{d:PyData},Fz K S H v d->Dt K H v d)/\∀{vs:List V}{ds:List PyData},FzA K S H vs ds->DtAll K H vs ds:=
 Fz.ind .non .bl .int .str (λh t=>.lst h.now t) (λh t=>.tup h.now t) .nil (λr t=>.cons r t)
theorem Fz.dt(h:Fz K S H v d):Dt K H v d:=Fz.dt_.1 h
theorem FzA.dt(h:FzA K S H vs ds):DtAll K H vs ds:=Fz.dt_.2 h
theorem Fz.of0(h:Dt K H v d):Fz K (λ_=>False) H v d:=
 Dt.rec .non .bl .int .str (λh _ t=>.lst (λl k=>k.keep.same.seq h) t) (λh _ t=>.tup (λl k=>k.keep.same.tupS h) t) .nil (λ_ _ r t=>.cons r t) h
theorem FzA.of0:∀{vs:List V}{ds:List PyData},DtAll K H vs ds->FzA K (λ_=>False) H vs ds:=by
 intro vs;induction vs with
 |nil=>intro ds h;cases h;exact .nil
 |cons v vs Y=>intro ds h;cases h with|cons r t=>exact .cons (Fz.of0 r) (Y t)
theorem Fz.sub(h:∀b,S' b->S b)(f:Fz K S H v d):Fz K S' H v d:=f.step (Kp.refl _ _) λb z=>.inl (h b z)
theorem FzA.sub(h:∀b,S' b->S b)(f:FzA K S H v d):FzA K S' H v d:=f.step (Kp.refl _ _) λb z=>.inl (h b z)
theorem FzA.length(h:FzA K S H vs ds):vs.length=ds.length:=by
 induction vs generalizing ds with
 |nil=>cases h;rfl
 |cons v vs Y=>cases h with|cons _ t=>grind
theorem FzA.get{i:Nat}(h:FzA K S H vs ds)(e:ds[i]?=some d):∃v,vs[i]?=some v/\Fz K S H v d:=by
 induction vs generalizing ds i with
 |nil=>cases h;cases i<;>cases e
 |cons v vs Y=>
  cases h with
  |cons r t=>
   cases i with
   |zero=>cases e;exact⟨_,rfl,r⟩
   |succ i=>exact Y t e
theorem FzA.append(h:FzA K S H vs ds)(h':FzA K S H ws es):FzA K S H (vs++ws) (ds++es):=by
 induction vs generalizing ds with
 |nil=>cases h;exact h'
 |cons v vs Y=>cases h with|cons r t=>exact .cons r (Y t)
theorem FzA.take:∀(n:Nat) {vs:List V}{ds:List PyData},FzA K S H vs ds->FzA K S H (vs.take n) (ds.take n)
 |0,_,_,_=>.nil
 |_+1,_,_,.nil=>.nil
 |n+1,_,_,.cons r t=>.cons r (FzA.take n t)
theorem FzA.drop:∀(n:Nat) {vs:List V}{ds:List PyData},FzA K S H vs ds->FzA K S H (vs.drop n) (ds.drop n)
 |0,_,_,h=>h
 |_+1,_,_,.nil=>.nil
 |n+1,_,_,.cons _ t=>FzA.drop n t
theorem FzA.set(h:Fz K S H u d):∀(n:Nat) {vs:List V}{ds:List PyData},FzA K S H vs ds->FzA K S H (vs.set n u) (ds.set n d)
 |_,_,_,.nil=>.nil
 |0,_,_,.cons _ t=>.cons h t
 |n+1,_,_,.cons r t=>.cons r (FzA.set h n t)
theorem FzA.ints:∀(ns:List Int),FzA K S H (ns.map V.int) (ns.map PyData.int)
 |[]=>.nil
 |n::ns=>.cons (.int n) (FzA.ints ns)
theorem Fz.q7(h:Fz K S H v (.list ds)):∃a xs,v=.ref a/\Bx S (λH=>SqL K H a xs) H/\FzA K S H xs ds:=by
 cases h with|lst h t=>exact⟨_,_,rfl,h,t⟩
theorem Fz.ri(h:Fz K S H v (.tuple ds)):∃a xs,v=.ref a/\Bx S (λH=>SqT K H a xs) H/\FzA K S H xs ds:=by
 cases h with|tup h t=>exact⟨_,_,rfl,h,t⟩
theorem Dq(h:H a=some (.lst xs))(n:¬ S a):Bx S (λH=>SqL K H a xs) H:=λ_ k=>SqL.of (k.k _ _ h n)
theorem vH(h:H a=some (.tup xs))(n:¬ S a):Bx S (λH=>SqT K H a xs) H:=λ_ k=>SqT.of (k.k _ _ h n)
end
inductive OD where
 |fz (d:PyData)|lst (xs:List OD)|tup (xs:List OD)|dic (ks:List Key) (xs:List OD)|obj (c:Str) (ns:List Str) (xs:List OD)|pin (l:Bool) (xs:List V) (ds:List PyData)|hole (v:V)|st (ns:List Int)
mutual
noncomputable def OD.dat:OD->Option PyData
 |.fz d=>some d
 |.lst xs=>match OD.dv xs with|some ds=>some (.list ds)|none=>none
 |.tup xs=>match OD.dv xs with|some ds=>some (.tuple ds)|none=>none
 |.dic _ _=>none
 |.obj _ _ _=>none
 |.pin l _ ds=>some (if l then .list ds else .tuple ds)
 |.hole _=>none
 |.st _=>none
noncomputable def OD.dv:List OD->Option (List PyData)
 |[]=>some []
 |x::xs=>match x.dat with
  |some d=>match OD.dv xs with|some ds=>some (d::ds)|none=>none
  |none=>none
end
noncomputable def av(K:Waa)(c:Str):Addr:=match PySem.W.nsIn K mainGlobals c with|some (some (.ref C))=>C|_=>0
structure Bs where
 K:Waa
 H0:Hp
 S0:Addr->Prop
 C:Addr->Prop
mutual
inductive Ow (b:Bs)(S:Addr->Prop)(H:Hp):V->OD->List Addr->Prop
 |fz {v d}:Fz b.K S H v d->Ow b S H v (.fz d) []
 |lst {a vs xs A}:H a=some (.lst vs)->Ows b S H vs xs A->Ow b S H (.ref a) (.lst xs) (a::A)
 |tup {a vs xs A}:H a=some (.tup vs)->Ows b S H vs xs A->Ow b S H (.ref a) (.tup xs) A
 |dic {a ws ks vs xs A}:H a=some (.dK ws)->ws.map (·.1)=ks->ws.map (·.2)=vs->Ows b S H vs xs A->Ow b S H (.ref a) (.dic ks xs) (a::A)
 |obj {a dx c fs ns vs xs A}:H a=some (.ins (av b.K c) dx fs)->H dx=some (.own a)->fs.map (·.1)=ns->fs.map (·.2)=vs->Ows b S H vs xs A->Ow b S H (.ref a) (.obj c ns xs) (a::dx::A)
 |pinL {a xs ds}:Bx S (λH=>SqL b.K H a xs) H->FzA b.K S H xs ds->Ow b S H (.ref a) (.pin true xs ds) []
 |pinT {a xs ds}:Bx S (λH=>SqT b.K H a xs) H->FzA b.K S H xs ds->Ow b S H (.ref a) (.pin false xs ds) []
 |hole {v u}:v=u->Ow b S H v (.hole u) []
 |st {a ns M n}:H a=some (.set M n)->(∀k,M k=decide (k∈ns))->n<=ns.length->Ow b S H (.ref a) (.st ns) [a]
inductive Ows (b:Bs)(S:Addr->Prop)(H:Hp):List V->List OD->List Addr->Prop
 |nil:Ows b S H [] [] []
 |cons {v x A vs xs B}:Ow b S H v x A->Ows b S H vs xs B->Ows b S H (v::vs) (x::xs) (A++B)
end
abbrev OwL(b:Bs)(S:Addr->Prop)(H:Hp)(L:List (V×OD))(A:List Addr):Prop:=Ows b S H (L.map (·.1)) (L.map (·.2)) A
def MutO:HO->Prop
 |.lst _=>True|.dK _=>True|.ins _ _ _=>True|.own _=>True|.set _ _=>True
 |_=>False
theorem Ows.len(h:Ows b S H vs xs A):vs.length=xs.length:=by
 induction vs generalizing xs A with
 |nil=>cases h;rfl
 |cons v vs Y=>cases h with|cons _ t=>grind
theorem Ow.ind{P:V->OD->List Addr->Prop}{Q:List V->List OD->List Addr->Prop}(z:∀{v d},Fz b.K S H v d->P v (.fz d) [])(T:∀{a vs xs A},H a=some (.lst vs)->Q vs xs A->P (.ref a) (.lst xs) (a::A))(p:∀{a vs xs A},H a=some (.tup vs)->Q vs xs A->P (.ref a) (.tup xs) A)
  (D:∀{a ws ks vs xs A},H a=some (.dK ws)->ws.map (·.1)=ks->ws.map (·.2)=vs->Q vs xs A->P (.ref a) (.dic ks xs) (a::A)) (F:∀{a dx c fs ns vs xs A},H a=some (.ins (av b.K c) dx fs)->H dx=some (.own a)->fs.map (·.1)=ns->fs.map (·.2)=vs->Q vs xs A->P (.ref a) (.obj c ns xs) (a::dx::A))
  (L:∀{a xs ds},Bx S (λH=>SqL b.K H a xs) H->FzA b.K S H xs ds->P (.ref a) (.pin true xs ds) []) (t:∀{a xs ds},Bx S (λH=>SqT b.K H a xs) H->FzA b.K S H xs ds->P (.ref a) (.pin false xs ds) []) (C:∀{v u},v=u->P v (.hole u) []) (st:∀{a ns M n},H a=some (.set M n)->(∀k,M k=decide (k∈ns))->n<=ns.length->P (.ref a) (.st ns) [a])
  (nil:Q [] [] []) (cons:∀{v x A vs xs B},P v x A->Q vs xs B->Q (v::vs) (x::xs) (A++B)):(∀{v x A},Ow b S H v x A->P v x A)/\∀{vs xs A},Ows b S H vs xs A->Q vs xs A:=
 ⟨λh=>Ow.rec z (λe _ i=>T e i) (λe _ i=>p e i) (λe O Z _ i=>D e O Z i) (λe Y O Z _ i=>F e Y O Z i) L t C st nil (λ_ _ i j=>cons i j) h,
  λh=>Ows.rec z (λe _ i=>T e i) (λe _ i=>p e i) (λe O Z _ i=>D e O Z i) (λe Y O Z _ i=>F e Y O Z i) L t C st nil (λ_ _ i j=>cons i j) h⟩
theorem mo{P:Addr->Prop}(h:P a)(t:∀c∈A,P c):∀c∈a::A,P c:=by grind
theorem Ow.mu_:(∀{v:V}{x:OD}{A:List Addr},Ow b S H v x A->∀a∈A,∃o,H a=some o/\MutO o)/\∀{vs:List V}{xs:List OD}{A:List Addr},Ows b S H vs xs A->∀a∈A,∃o,H a=some o/\MutO o:=
 Ow.ind (λ_ _ h=>absurd h aar) (λe i=>mo ⟨_,e,trivial⟩ i) (λ_ i=>i) (λe _ _ i=>mo ⟨_,e,trivial⟩ i) (λe B _ _ i=>mo ⟨_,e,trivial⟩ (mo ⟨_,B,trivial⟩ i)) (λ_ _ _ h=>absurd h aar) (λ_ _ _ h=>absurd h aar) (λ_ _ h=>absurd h aar) (λe _ _=>mo ⟨_,e,trivial⟩ λ_ h=>absurd h aar) (λ_ h=>absurd h aar) (λi j a h=>(aak.mp h).elim (i a) (j a))
theorem Ow.mu(h:Ow b S H v x A):∀a∈A,∃o,H a=some o/\MutO o:=Ow.mu_.1 h
theorem Ows.mu(h:Ows b S H vs xs A):∀a∈A,∃o,H a=some o/\MutO o:=Ow.mu_.2 h
theorem Ows.ne(h:Ows b S H vs xs A):∀a∈A,H a≠none:=λa j e=>by
 obtain⟨o,q,_⟩:=h.mu a j
 grind
theorem Ow.ne(h:Ow b S H v x A):∀a∈A,H a≠none:=λa j e=>by
 obtain⟨o,q,_⟩:=h.mu a j
 grind
theorem Ows.tl(h:Ows b S H vs xs A):∀a∈A,∀ys,H a≠some (.tup ys):=λa j ys e=>by obtain⟨o,q,m⟩:=h.mu a j;rw[q]at e;cases e;exact m
theorem Ow.tl(h:Ow b S H v x A):∀a∈A,∀ys,H a≠some (.tup ys):=λa j ys e=>by obtain⟨o,q,m⟩:=h.mu a j;rw[q]at e;cases e;exact m
theorem Ow.j2(T:b2.K=b.K)(k:Kp S H H')(n:∀b,S' b->S b\/H b=none)(g:∀a xs,H a=some (.tup xs)->¬ S a):(∀{v:V}{x:OD}{A:List Addr},Ow b S H v x A->(∀a∈A,H' a=H a)->Ow b2 S' H' v x A)/\∀{vs:List V}{xs:List OD}{A:List Addr},Ows b S H vs xs A->(∀a∈A,H' a=H a)->Ows b2 S' H' vs xs A:=
 Ow.ind (λf _=>.fz (T▸f.step k n)) (λe i s=>.lst ((s _ aai).trans e) (i λa h=>s a (aag _ h))) (λe i s=>.tup (k.k _ _ e (g _ _ e)) (i s)) (λe O Z i s=>.dic ((s _ aai).trans e) O Z (i λa h=>s a (aag _ h)))
  (λe B O Z i s=>.obj (T▸(s _ aai).trans e) ((s _ (aag _ aai)).trans B) O Z (i λa h=>s a (aag _ (aag _ h)))) (λh t _=>.pinL (T▸h.step k n) (T▸t.step k n)) (λh t _=>.pinT (T▸h.step k n) (T▸t.step k n)) (λe _=>.hole e) (λe m l s=>.st ((s _ aai).trans e) m l) (λ_=>.nil) (λi j s=>.cons (i λa h=>s a (aaf _ h)) (j λa h=>s a (aad _ h)))
theorem Ow.step(k:Kp S H H')(n:∀b,S' b->S b\/H b=none)(g:∀a xs,H a=some (.tup xs)->¬ S a){v:V}{x:OD}{A:List Addr}(s:∀a∈A,H' a=H a)(h:Ow b S H v x A):Ow b S' H' v x A:=(Ow.j2 rfl k n g).1 h s
theorem Ows.step(k:Kp S H H')(n:∀b,S' b->S b\/H b=none)(g:∀a xs,H a=some (.tup xs)->¬ S a){vs:List V}{xs:List OD}{A:List Addr}(s:∀a∈A,H' a=H a)(h:Ows b S H vs xs A):Ows b S' H' vs xs A:=(Ow.j2 rfl k n g).2 h s
theorem Ow.sub(g:∀a xs,H a=some (.tup xs)->¬ S a)(n:∀c,S' c->S c)(h:Ow b S H v x A):Ow b S' H v x A:=h.step (Kp.refl _ _) (λc z=>.inl (n c z)) g (λ_ _=>rfl)
theorem Ows.sub(g:∀a xs,H a=some (.tup xs)->¬ S a)(n:∀c,S' c->S c)(h:Ows b S H v x A):Ows b S' H v x A:=h.step (Kp.refl _ _) (λc z=>.inl (n c z)) g (λ_ _=>rfl)
theorem Ows.subB(T:b2.K=b.K)(g:∀a xs,H a=some (.tup xs)->¬ S a)(n:∀c,S' c->S c)(h:Ows b S H v x A):Ows b2 S' H v x A:=(Ow.j2 T (Kp.refl _ _) (λc z=>.inl (n c z)) g).2 h λ_ _=>rfl
theorem ze(h:(OD.lst xs).dat=some d):∃ds,OD.dv xs=some ds/\d=.list ds:=by
 rw[OD.dat]at h
 grind
theorem zf(h:(OD.tup xs).dat=some d):∃ds,OD.dv xs=some ds/\d=.tuple ds:=by
 rw[OD.dat]at h
 grind
theorem tu(h:OD.dv (x::xs)=some es):∃d ds,x.dat=some d/\OD.dv xs=some ds/\es=d::ds:=by
 rw[OD.dv]at h
 grind
theorem Ow.frz_(g:∀a,S' a->S a)(nt:∀a xs,H a=some (.tup xs)->¬ S a):(∀{v:V}{x:OD}{A:List Addr},Ow b S H v x A->∀d:PyData,(∀a∈A,¬ S' a)->x.dat=some d->Fz b.K S' H v d)/\∀{vs:List V}{xs:List OD}{A:List Addr},Ows b S H vs xs A->∀ds:List PyData,(∀a∈A,¬ S' a)->OD.dv xs=some ds->FzA b.K S' H vs ds:=by
 refine Ow.ind (P:=λv x A=>∀d:PyData,(∀a∈A,¬ S' a)->x.dat=some d->Fz b.K S' H v d) (Q:=λvs xs A=>∀ds:List PyData,(∀a∈A,¬ S' a)->OD.dv xs=some ds->FzA b.K S' H vs ds) ?_ ?_ ?_ (λ_ _ _ _ _ _ q=>?_) (λ_ _ _ _ _ _ _ q=>?_) ?_ ?_ (λ_ _ _ q=>?_) (λ_ _ _ _ _ q=>?_) ?_ ?_
 ·intro v d f k _ q;cases q;exact f.sub g
 ·intro a vs xs A e i d F q;obtain⟨ds,z,rfl⟩:=ze q;exact .lst (Dq e (F _ aai)) (i ds (λa h=>F a (aag _ h)) z)
 ·intro a vs xs A e i d F q;obtain⟨ds,z,rfl⟩:=zf q;exact .tup (vH e λy=>nt _ _ e (g _ y)) (i ds F z)
 ·cases q
 ·cases q
 ·intro a xs ds h t d _ q;cases q;exact .lst (h.step (Kp.refl _ _) λc z=>.inl (g c z)) (t.sub g)
 ·intro a xs ds h t d _ q;cases q;exact .tup (h.step (Kp.refl _ _) λc z=>.inl (g c z)) (t.sub g)
 ·cases q
 ·cases q
 ·intro ds _ q;cases q;exact .nil
 ·intro v x A vs xs B i j L F q;obtain⟨d,ds,r,u,rfl⟩:=tu q;exact .cons (i d (λa h=>F a (aaf _ h)) r) (j ds (λa h=>F a (aad _ h)) u)
theorem Ow.frz(g:∀a,S' a->S a)(nt:∀a xs,H a=some (.tup xs)->¬ S a)(F:∀a∈A,¬ S' a)(h:Ow b S H v x A)(q:x.dat=some d):Fz b.K S' H v d:=(Ow.frz_ g nt).1 h d F q
theorem Ows.frz(g:∀a,S' a->S a)(nt:∀a xs,H a=some (.tup xs)->¬ S a)(F:∀a∈A,¬ S' a)(h:Ows b S H vs xs A)(q:OD.dv xs=some ds):FzA b.K S' H vs ds:=(Ow.frz_ g nt).2 h ds F q
theorem Ows.append(h:Ows b S H vs xs A)(h':Ows b S H us ys B):Ows b S H (vs++us) (xs++ys) (A++B):=by
 induction vs generalizing xs A with
 |nil=>cases h;exact h'
 |cons v vs Y=>cases h with|cons r t=>rw[aab];exact .cons r (Y t)
theorem Ows.split(e:vs.length=xs.length)(h:Ows b S H (vs++us) (xs++ys) A):∃T N,A=T++N/\Ows b S H vs xs T/\Ows b S H us ys N:=by
 induction vs generalizing xs A with
 |nil=>
  cases xs with
  |nil=>exact⟨[],A,rfl,.nil,h⟩
  |cons _ _=>cases e
 |cons v vs Y=>
  cases xs with
  |nil=>cases e
  |cons x xs=>
   cases h with
   |cons r t=>obtain⟨T,N,rfl,O,Z⟩:=Y (Nat.succ.inj e) t;exact⟨_,N,(aab ..).symm,.cons r O,Z⟩
theorem OwL.eu(h:OwL b S H (L1++L2) A):∃T N,A=T++N/\OwL b S H L1 T/\OwL b S H L2 N:=by unfold OwL at h;rw[aaE,aaE]at h;exact Ows.split (by simp) h
theorem OwL.il(O:OwL b S H L1 A1)(Z:OwL b S H L2 A2):OwL b S H (L1++L2) (A1++A2):=by unfold OwL;rw[aaE,aaE];exact Ows.append O Z
theorem OwL.perm(p:L.Perm L'):∀{A:List Addr},OwL b S H L A->∃m,OwL b S H L' m/\A.Perm m:=by
 induction p with
 |nil=>intro A h;exact⟨A,h,.refl _⟩
 |cons x _ Y=>
  intro A h;cases h with
  |cons r t=>obtain⟨B,Z,q⟩:=Y t;exact⟨_,.cons r Z,q.append_left _⟩
 |swap x y l=>
  intro A h;cases h with
  |cons r t=>
   cases t with
   |cons f z=>refine⟨_,.cons f (.cons r z),?_⟩;rw[<-aab,<-aab];exact aa6.append_right _
 |trans _ _ I F=>intro A h;obtain⟨B,O,e⟩:=I h;obtain⟨C,Z,i⟩:=F O;exact⟨C,Z,e.trans i⟩
theorem OwL.mem:∀{A:List Addr},OwL b S H L A->∀{x:V×OD},x∈L->∃B,Ow b S H x.1 x.2 B:=by
 induction L with
 |nil=>simp
 |cons y L Y=>
  intro A h x F;cases h with
  |cons r t=>
   grind
theorem Ows.zip(h:Ows b S H vs xs A)(e:xs[k]?=some x):∃v T B N,vs[k]?=some v/\A=T++(B++N)/\Ow b S H v x B /\
  ∀{p:Addr->Prop}{l:Hp}{u:V}{y:OD}{X:List Addr},Ow b p l u y X->(∀{v:V}{x:OD}{C:List Addr},(∀a∈C,a∈T\/a∈N)->Ow b S H v x C->Ow b p l v x C)->Ows b p l (vs.set k u) (xs.set k y) (T++(X++N)):=by
 induction vs generalizing xs A k with
 |nil=>cases h;cases k<;>cases e
 |cons v vs Y=>
  cases h with
  |@cons _ x0 A _ xs B r t=>
   cases k with
   |zero=>
    cases e;refine⟨v,[],A,B,rfl,rfl,r,λ{p l u y X} h g=>Ows.cons (B:=B) h ?_⟩;have j:∀{vs:List V}{xs:List OD}{D:List Addr},(∀a∈D,a∈B)->Ows b S H vs xs D->Ows b p l vs xs D:=λ{vs xs D} s h=>by
     induction xs generalizing vs D with
     |nil=>cases h;exact .nil
     |cons x xs Y=>cases h with|cons r t=>exact .cons (g (λa h=>.inr (s a (aaf _ h))) r) (Y (λa h=>s a (aad _ h)) t)
    exact j (λa h=>h) t
   |succ k=>obtain⟨L,T,I,N,O,Z,M,F⟩:=Y t e;subst Z;refine⟨L,A++T,I,N,O,(aab ..).symm,M,λh g=>?_⟩;rw[aaA,aaA,aab];exact .cons (g (λa h=>.inl (aaf _ h)) r) (F h λs h=>g (λa z=>(s a z).imp (aad _) id) h)
end
section
structure Wd (b:Bs)(H:Hp)(L:List (V×OD)):Prop where
 out:∃A,OwL b (λa=>a∈A\/b.S0 a) H L A/\A.Nodup/\∀a∈A,b.H0 a=none\/b.C a
 fr:Kp b.C b.H0 H
 s0:∀a,b.S0 a->b.H0 a≠none/\¬ b.C a
 nt:∀a xs,H a=some (.tup xs)->¬ b.S0 a
theorem Wd.n7(w:Wd b H L)(h:OwL b (λa=>a∈A\/b.S0 a) H L A):∀a xs,H a=some (.tup xs)->¬ (a∈A\/b.S0 a):=λa xs e z=>z.elim (λz=>Ows.tl h a z xs e) (w.nt a xs e)
theorem Wd.al(w:Wd b H L)(h:OwL b (λa=>a∈A\/b.S0 a) H L A)(e:H a=none):¬ (a∈A\/b.S0 a):=λz=>z.elim (λz=>Ows.ne h a z e) λz=>(w.s0 a z).1 (w.fr.n a e)
theorem Wd.dj(w:Wd b H L){A:List Addr}(i:∀a∈A,b.H0 a=none\/b.C a):∀a∈A,¬ b.S0 a:=λa j z=>(i a j).elim (w.s0 a z).1 (w.s0 a z).2
theorem Wd.perm(w:Wd b H L)(q:L.Perm L'):Wd b H L':=by obtain⟨A,h,Q,i⟩:=w.out;obtain⟨m,C,X⟩:=OwL.perm q h;refine⟨⟨m,Ows.step (Kp.refl _ _) (λc z=>.inl (z.imp (X.mem_iff.mpr) id)) (w.n7 h) (λ_ _=>rfl) C,X.nodup_iff.mp Q,λa j=>i a (X.mem_iff.mpr j)⟩,w.fr,w.s0,w.nt⟩
theorem Wd.drop(w:Wd b H ((v,x)::L)):Wd b H L:=by
 obtain⟨A,h,Q,i⟩:=w.out;have I:=w.n7 h;cases h with
 |@cons _ _ A _ _ B r t=>exact⟨⟨B,Ows.step (Kp.refl _ _) (λc z=>.inl (z.imp (aad _) id)) I (λ_ _=>rfl) t,(aau.mp Q).2.1,λa j=>i a (aad _ j)⟩,w.fr,w.s0,w.nt⟩
theorem Wd.drops(w:Wd b H (L1++L2)):Wd b H L2:=by
 induction L1 with
 |nil=>exact w
 |cons z L1 Y=>exact Y (Wd.drop w)
theorem Wd.puts(w:Wd b H (L1++L))(h:∀(S:Addr->Prop) (A:List Addr),OwL b S H L1 A->A.Nodup->(∀a∈A,S a)->(∀a,H a=none->¬ S a)->(∀a xs,H a=some (.tup xs)->¬ S a) ->
  ∃m,OwL b (λa=>(S a/\a ∉ A)\/a∈m) H L2 m/\m.Nodup/\∀a∈m,a∈A):Wd b H (L2++L):=by
 obtain⟨q,P,Q,i⟩:=w.out;have I:=w.n7 P;have s:=λ{a}=>w.al P (a:=a);have D:=w.dj i;obtain⟨A,B,rfl,r,t⟩:=OwL.eu P;obtain⟨W,T,d⟩:=aau.mp Q;obtain⟨m,O,v,p⟩:=h _ A r W (λa z=>.inl (aaf _ z)) (λa e=>s e) I;have f:∀c,(c∈m++B\/b.S0 c)->(c∈A++B\/b.S0 c):=λc z=>z.imp (λz=>(aak.mp z).elim (λz=>aaf _ (p c z)) (aad _)) id;refine⟨⟨m++B,OwL.il (Ows.step (Kp.refl _ _) (λc z=>.inl ?_) (λa xs e z=>?_) (λ_ _=>rfl) O) (Ows.step (Kp.refl _ _) (λc z=>.inl (f c z)) I (λ_ _=>rfl) t),aau.mpr ⟨v,T,λa j c U=>d a (p a j) c U⟩,λa j=>?_⟩,w.fr,w.s0,w.nt⟩
 ·grind
 ·grind
 ·grind
theorem OwL.one(h:OwL b S H [(v,x)] A):Ow b S H v x A:=by
 cases h with
 |cons r t=>cases t;grind
theorem OwL.of1(h:Ow b S H v x A):OwL b S H [(v,x)] A:=by have:=Ows.cons h (Ows.nil );rw[aap]at this;exact this
theorem Wd.frz(w:Wd b H ((v,x)::L))(e:x.dat=some d):Wd b H ((v,.fz d)::L):=by
 refine Wd.puts (L1:=[(v,x)]) w λS A h Q F s I=>⟨[],OwL.of1 (.fz ?_),abd,λa z=>by cases z⟩
 exact Ow.frz (λa z=>z.elim (·.1) (λz=>by cases z)) I (λa j z=>z.elim (λz=>z.2 j) (λz=>by cases z)) h.one e
theorem Wd.dt(w:Wd b H ((v,x)::L))(e:x.dat=some d):Dt b.K H v d:=by obtain⟨A,P,Q,i⟩:=w.out;obtain⟨B,h⟩:=OwL.mem P (x:=(v,x)) (by simp);exact(Ow.frz (λa z=>z.elim) (w.n7 P) (λa _ z=>z) h e).dt
theorem Wd.memDt(w:Wd b H L)(m:(v,x)∈L)(e:x.dat=some d):Dt b.K H v d:=by obtain⟨A,P,Q,i⟩:=w.out;obtain⟨B,h⟩:=OwL.mem P m;exact(Ow.frz (λa z=>z.elim) (w.n7 P) (λa _ z=>z) h e).dt
def FrzIn(b:Bs)(S:Addr->Prop)(H:Hp)(L:List (V×OD)):Prop:=∀u e,(u,OD.fz e)∈L->Fz b.K S H u e
theorem OwL.uh(h:OwL b S H L A):FrzIn b S H L:=λu e m=>by obtain⟨B,q⟩:=OwL.mem h m;cases q with|fz f=>exact f
theorem FrzIn.all(h:FrzIn b S H L):∀{vs:List V}{ds:List PyData},vs.length=ds.length->(∀z∈vs.zip (ds.map OD.fz),z∈L)->FzA b.K S H vs ds
 |[],[],_,_=>.nil
 |v::vs,d::ds,e,m=>.cons (h v d (m _ (by simp))) (FrzIn.all h (by simpa using e) λz f=>m z (by simp[f]))
theorem Wd.add(w:Wd b H L)(h:∀S:Addr->Prop,(∀(x:V×OD),x∈L->∃A,Ow b S H x.1 x.2 A)->(∀a,H a=none->¬ S a)->(∀a xs,H a=some (.tup xs)->¬ S a)->Fz b.K S H v d):Wd b H ((v,.fz d)::L):=by obtain⟨A,P,Q,i⟩:=w.out;exact⟨⟨A,Ows.cons (.fz (h _ (λx F=>OwL.mem P F) (λa e=>w.al P e) (w.n7 P))) P,Q,i⟩,w.fr,w.s0,w.nt⟩
theorem Wd.adds(w:Wd b H L)(h:∀S:Addr->Prop,(∀(x:V×OD),x∈L->∃A,Ow b S H x.1 x.2 A)->FzA b.K S H vs ds):Wd b H (vs.zip (ds.map OD.fz)++L):=by
 obtain⟨A,P,Q,i⟩:=w.out;have q:∀{vs:List V}{ds:List PyData},FzA b.K (λa=>a∈A\/b.S0 a) H vs ds->OwL b (λa=>a∈A\/b.S0 a) H (vs.zip (ds.map OD.fz)) []:=by
  intro vs;induction vs with
  |nil=>intro ds h;cases h;exact .nil
  |cons v vs Y=>intro ds h;cases h with|cons r t=>exact Ows.cons (.fz r) (Y t)
 exact⟨⟨A,OwL.il (q (h _ λx F=>OwL.mem P F)) P,Q,i⟩,w.fr,w.s0,w.nt⟩
theorem Wd.dup(w:Wd b H ((v,.fz d)::L)):Wd b H ((v,.fz d)::(v,.fz d)::L):=w.add λS h _ _=>by obtain⟨A,q⟩:=h (v,.fz d) (by simp);cases q with|fz f=>exact f
inductive Sc:V->PyData->Prop
 |non:Sc .non .none
 |bl (b:Bool):Sc (.bl b) (.bool b)
 |int (i:Int):Sc (.int i) (.int i)
 |str (x:Str):Sc (.str x) (.str x)
theorem Sc.fz{K:Waa}(h:Sc v d):Fz K S H v d:=by cases h<;>constructor
theorem Wd.sc(w:Wd b H L)(h:Sc v d):Wd b H ((v,.fz d)::L):=w.add λS _ _ _=>h.fz
theorem Wd.new(w:Wd b H L)(C:H p=none):Wd b (upd H p o) L:=by
 obtain⟨A,h,Q,i⟩:=w.out;have M:=w.al h C;refine⟨⟨A,Ows.step (Kp.put (.inr C)) (λc z=>.inl z) (w.n7 h) (λa j=>upd_ne λe=>M (.inl (e▸j))) h,Q,i⟩,w.fr.trans (Kp.put (.inr C)),w.s0,λa Y e z=>?_⟩;by_cases q:a=p
 ·grind
 ·rw[upd_ne q]at e;exact w.nt a Y e z
theorem Wd.vu(w:Wd b H L)(C:H p=none):b.H0 p=none:=w.fr.n p C
theorem kJ:∀{vs:List V}{xs:List OD},vs.length=xs.length->(vs.zip xs).map (·.1)=vs
 |[],[],_=>rfl
 |_::_,_::_,e=>by rw[abr,aal,kJ (by simpa using e)]
 |[],_::_,e=>by simp at e
 |_::_,[],e=>by simp at e
theorem kK:∀{vs:List V}{xs:List OD},vs.length=xs.length->(vs.zip xs).map (·.2)=xs
 |[],[],_=>rfl
 |_::_,_::_,e=>by rw[abr,aal,kK (by simpa using e)]
 |[],_::_,e=>by simp at e
 |_::_,[],e=>by simp at e
theorem OwL.wh(e:vs.length=xs.length)(h:OwL b S H (vs.zip xs) A):Ows b S H vs xs A:=by unfold OwL at h;rw[kJ e,kK e]at h;exact h
theorem OwL.j1(h:Ows b S H vs xs A):OwL b S H (vs.zip xs) A:=by unfold OwL;rw[kJ h.len,kK h.len];exact h
theorem Wd.h9(w:Wd b H L)(h:∀S,FrzIn b S H L->FzA b.K S H vs ds)(C:H p=none):Wd b (upd H p (.tup vs)) ((.ref p,.fz (.tuple ds))::L):=by obtain⟨A,P,Q,i⟩:=w.out;have M:=w.al P C;have y:=h _ (OwL.uh P);have D:=w.new C (o:=.tup vs);refine⟨⟨A,Ows.cons (.fz (.tup (vH aB M) (y.step (Kp.put (.inr C)) λc z=>.inl z))) (Ows.step (Kp.put (.inr C)) (λc z=>.inl z) (w.n7 P) (λa j=>upd_ne λe=>M (.inl (e▸j))) P),Q,i⟩,D.fr,D.s0,D.nt⟩
theorem Wd.newTupC(w:Wd b H (vs.zip xs++L))(e:vs.length=xs.length)(C:H p=none):Wd b (upd H p (.tup vs)) ((.ref p,.tup xs)::L):=by obtain⟨A,P,Q,i⟩:=w.out;have M:=w.al P C;have I:=w.n7 P;have D:=w.new C (o:=.tup vs);have n:∀a∈A,upd H p (.tup vs) a=H a:=λa j=>upd_ne λe=>M (.inl (e▸j));obtain⟨T,N,rfl,O,Z⟩:=OwL.eu P;refine⟨⟨T++N,Ows.cons (.tup aB (Ows.step (Kp.put (.inr C)) (λc z=>.inl z) I (λa j=>n a (aaf _ j)) (OwL.wh e O))) (Ows.step (Kp.put (.inr C)) (λc z=>.inl z) I (λa j=>n a (aad _ j)) Z),Q,i⟩,D.fr,D.s0,D.nt⟩
theorem Wd.eg(w:Wd b H (vs.zip xs++L))(e:vs.length=xs.length)(C:H p=none):Wd b (upd H p (.lst vs)) ((.ref p,.lst xs)::L):=by
 obtain⟨A,P,Q,i⟩:=w.out;have M:=w.al P C;have I:=w.n7 P;have D:=w.new C (o:=.lst vs);have B:∀a∈A,upd H p (.lst vs) a=H a:=λa j=>upd_ne λe=>M (.inl (e▸j));obtain⟨T,N,rfl,O,Z⟩:=OwL.eu P;have n:∀c,(c∈p::(T++N)\/b.S0 c)->(c∈T++N\/b.S0 c)\/H c=none:=λc z=>by
  grind
 refine⟨⟨p::(T++N),Ows.cons (.lst aB (Ows.step (Kp.put (.inr C)) n I (λa j=>B a (aaf _ j)) (OwL.wh e O))) (Ows.step (Kp.put (.inr C)) n I (λa j=>B a (aad _ j)) Z),aat.mpr ⟨λz=>M (.inl z),Q⟩,λa j=>?_⟩,D.fr,D.s0,D.nt⟩;rcases aaa.mp j with rfl|j
 ·exact .inl (w.vu C)
 ·grind
theorem Wd.w7(w:Wd b H L)(C:H p=none):Wd b (upd H p (.dK [])) ((.ref p,.dic [] [])::L):=by
 obtain⟨A,P,Q,i⟩:=w.out;have M:=w.al P C;have I:=w.n7 P;have D:=w.new C (o:=.dK []);have n:∀c,(c∈p::A\/b.S0 c)->(c∈A\/b.S0 c)\/H c=none:=λc z=>by
  grind
 refine⟨⟨p::A,Ows.cons (A:=[p]) (.dic aB rfl rfl .nil) (Ows.step (Kp.put (.inr C)) n I (λa j=>upd_ne λe=>M (.inl (e▸j))) P),aat.mpr ⟨λz=>M (.inl z),Q⟩,λa j=>?_⟩,D.fr,D.s0,D.nt⟩;rcases aaa.mp j with rfl|j
 ·exact .inl (w.vu C)
 ·grind
noncomputable def OD.kids:OD->List OD
 |.lst xs=>xs|.tup xs=>xs|.dic _ xs=>xs|.obj _ _ xs=>xs
 |_=>[]
def OD.ea(k:Nat)(y:OD):OD->OD
 |.lst xs=>.lst (xs.set k y)|.tup xs=>.tup (xs.set k y)|.dic ks xs=>.dic ks (xs.set k y)|.obj c ns xs=>.obj c ns (xs.set k y)
 |x=>x
def OD.at:List Nat->OD->Option OD
 |[],x=>some x
 |k::ks,x=>match x.kids[k]? with|some z=>OD.at ks z|none=>none
def OD.put(y:OD):List Nat->OD->OD
 |[],_=>y
 |k::ks,x=>match x.kids[k]? with|some z=>OD.ea k (OD.put y ks z) x|none=>x
inductive Chd (b:Bs)(H:Hp):V->OD->Nat->V->OD->Prop
 |lst {a vs xs k w z}:H a=some (.lst vs)->vs.length=xs.length->vs[k]?=some w->xs[k]?=some z->Chd b H (.ref a) (.lst xs) k w z
 |tup {a vs xs k w z}:H a=some (.tup vs)->vs.length=xs.length->vs[k]?=some w->xs[k]?=some z->Chd b H (.ref a) (.tup xs) k w z
 |dic {a ws ks xs k w z}:H a=some (.dK ws)->ws.map (·.1)=ks->ws.length=xs.length->(ws[k]?).map (·.2)=some w->xs[k]?=some z->Chd b H (.ref a) (.dic ks xs) k w z
 |obj {a dx c fs ns xs k w z}:H a=some (.ins (av b.K c) dx fs)->fs.map (·.1)=ns->fs.length=xs.length->(fs[k]?).map (·.2)=some w->xs[k]?=some z->Chd b H (.ref a) (.obj c ns xs) k w z
inductive Chn (b:Bs)(H:Hp):V->OD->List Nat->V->OD->Prop
 |nil {v x}:Chn b H v x [] v x
 |cons {v x k w z ks u y}:Chd b H v x k w z->Chn b H w z ks u y->Chn b H v x (k::ks) u y
theorem cj{Y:Type}(T B N:List Y):(T++(B++N)).Perm (B++(T++N)):=by rw[<-aab,<-aab];exact aa6.append_right _
theorem bD{Y:Type}:∀{l:List Y}{i:Nat}{x:Y},l[i]?=some x->l.set i x=l
 |[],_,_,e=>by simp at e
 |_::_,0,_,e=>by simp at e;subst e;rfl
 |y::l,i+1,x,e=>by rw[aaA,bD (by simpa using e)]
theorem Ow.kid(h:Ow b S H v x A)(e:x.kids[k]?=some z):∃w B m,Chd b H v x k w z/\Ow b S H w z B/\A.Perm (B++m) /\
  ∀{p:Addr->Prop}{l:Hp}{W:OD}{X:List Addr},Kp S H l->(∀c,p c->S c\/H c=none)->(∀a xs,H a=some (.tup xs)->¬ S a)->(∀a∈m,l a=H a)->Ow b p l w W X->∃g,Ow b p l v (OD.ea k W x) g/\g.Perm (X++m):=by
 cases h with
 |fz _=>trivial
 |pinL _ _=>trivial
 |pinT _ _=>trivial
 |hole _=>trivial
 |st _ _ _=>trivial
 |@lst a vs xs A e1 t=>obtain⟨w,T,B,N,O,rfl,M,F⟩:=t.zip e;refine⟨w,B,a::(T++N),.lst e1 t.len O e,M,((cj T B N).cons a).trans aav.symm,λ{p l W X} k n hs s h=>?_⟩;have:=F h λD h=>Ow.step k n hs (λa j=>s a (aag _ (aak.mpr (D a j)))) h;rw[bD O]at this;exact⟨_,.lst ((s a aai).trans e1) this,((cj T X N).cons a).trans aav.symm⟩
 |@tup a vs xs A e1 t=>obtain⟨w,T,B,N,O,rfl,M,F⟩:=t.zip e;refine⟨w,B,T++N,.tup e1 t.len O e,M,cj T B N,λ{p l W X} k n hs s h=>?_⟩;have:=F h λD h=>Ow.step k n hs (λa j=>s a (aak.mpr (D a j))) h;rw[bD O]at this;exact⟨_,.tup (k.k _ _ e1 (hs _ _ e1)) this,cj T X N⟩
 |@dic a ws ks vs xs A e1 h5 h6 t=>obtain⟨w,T,B,N,O,rfl,M,F⟩:=t.zip e;refine⟨w,B,a::(T++N),.dic e1 h5 (by rw[<-t.len,<-h6,aae]) (by grind) e,M,((cj T B N).cons a).trans aav.symm,λ{p l W X} k n hs s h=>?_⟩;have:=F h λD h=>Ow.step k n hs (λa j=>s a (aag _ (aak.mpr (D a j)))) h;rw[bD O]at this;exact⟨_,.dic ((s a aai).trans e1) h5 h6 this,((cj T X N).cons a).trans aav.symm⟩
 |@obj a dx c fs ns vs xs A e1 e2 h5 h6 t=>
  obtain⟨w,T,B,N,O,rfl,M,F⟩:=t.zip e;have U:∀B:List Addr,(a::dx::(T++(B++N))).Perm (B++(a::dx::(T++N))):=λB=>by
   grind
  refine⟨w,B,a::dx::(T++N),.obj e1 h5 (by rw[<-t.len,<-h6,aae]) (by grind) e,M,U B,λ{p l W X} k n hs s h=>?_⟩;have:=F h λD h=>Ow.step k n hs (λa j=>s a (aag _ (aag _ (aak.mpr (D a j))))) h;rw[bD O]at this;exact⟨_,.obj ((s a aai).trans e1) ((s dx (aag _ aai)).trans e2) h5 h6 this,U X⟩
theorem Ow.path:∀{ks:List Nat}{v:V}{x:OD}{A:List Addr}{y:OD},Ow b S H v x A->x.at ks=some y->∃u B m,Chn b H v x ks u y/\Ow b S H u y B/\A.Perm (B++m) /\
  ∀{p:Addr->Prop}{l:Hp}{Y:OD}{X:List Addr},Kp S H l->(∀c,p c->S c\/H c=none)->(∀a xs,H a=some (.tup xs)->¬ S a)->(∀a∈m,l a=H a)->Ow b p l u Y X->∃g,Ow b p l v (OD.put Y ks x) g/\g.Perm (X++m)
 |[],v,x,A,y,h,e=>by simp only[OD.at]at e;cases e;exact⟨v,A,[],.nil,h,by simp,λ{p l Y X} _ _ _ _ h=>⟨X,h,by simp⟩⟩
 |k::ks,v,x,A,y,h,e=>by
  simp only[OD.at]at e;cases Q:x.kids[k]? with
  |none=>grind
  |some z=>rw[Q]at e;simp only at e;obtain⟨w,B,m,f,O,T,r⟩:=h.kid Q;obtain⟨u,o,N,q,Z,i,W⟩:=Ow.path O e;refine⟨u,o,N++m,.cons f q,Z,T.trans (by grind),λ{p l Y X} k' n hs s h=>?_⟩;obtain⟨D,M,I⟩:=W k' n hs (λa j=>s a (aaf _ j)) h;obtain⟨C,F,J⟩:=r k' n hs (λa j=>s a (aad _ j)) M;refine⟨C,?_,J.trans (by grind)⟩;simp only[OD.put,Q];omega
end
section
theorem Wd.vl(w:Wd b H (us.zip zs++((v,x)::L)))(el:us.length=zs.length)(e:x.at ks=some y):∃(S:Addr->Prop) (u:V) (B C:List Addr),Chn b H v x ks u y/\Ow b S H u y B/\Ows b S H us zs C/\(B++C).Nodup/\(∀c∈B,S c)/\(∀c,H c=none->¬ S c)/\(∀c xs,H c=some (.tup xs)->¬ S c)/\FrzIn b S H L /\
  ∀{l:Hp}{Y:OD}{D:List Addr},(∀c,c ∉ B->l c=H c)->(∀c∈B,∃o,l c=some o/\MutO o)->D.Nodup->(∀c∈D,c∈B\/c∈C)->(∀p:Addr->Prop,(∀c,p c->S c)->(∀c∈B,p c->c∈D)->Ow b p l u Y D)->Wd b l ((v,OD.put Y ks x)::L):=by
 obtain⟨A0,P,nd,i⟩:=w.out;have I:=w.n7 P;have s:=λ{a}=>w.al P (a:=a);obtain⟨C,A1,rfl,hz,O⟩:=OwL.eu P;cases O with
 |@cons _ _ A _ _ E r t=>
  obtain⟨u,B,m,N,hy,pB,h⟩:=Ow.path r e;obtain⟨nC,a3,a1⟩:=aau.mp nd;obtain⟨W,nE,d⟩:=aau.mp a3;have a4:=pB.nodup_iff.mp W;obtain⟨T,a6,a0⟩:=aau.mp a4;have J:∀c,c∈A ↔ c∈B\/c∈m:=λc=>by rw[pB.mem_iff,aak]
  refine⟨_,u,B,C,N,hy,OwL.wh el hz,aau.mpr ⟨T,nC,λc U M Q e=>a1 M Q c (aaf _ ((J c).mpr (.inl U))) e.symm⟩,λc U=>.inl (aad _ (aaf _ ((J c).mpr (.inl U)))),λc e=>s e,I,OwL.uh t,λ{l Y D} hk hm nD sD hO=>?_⟩;have Z:Kp (λc=>c∈C++(A++E)\/b.S0 c) H l:=⟨λc o e n=>by
    rw[hk c λz=>n (.inl (aad _ (aaf _ ((J c).mpr (.inl z)))))];exact e,λc e=>by
    by_cases z:c∈B
    ·obtain⟨o,q,_⟩:=hm c z;rw[q]at e;cases e
    ·rw[hk c z]at e;exact e⟩
  have f:∀c,(c∈(D++m)++E\/b.S0 c)->(c∈C++(A++E)\/b.S0 c):=λc z=>z.imp (λz=>by
   rcases aak.mp z with z|z
   ·rcases aak.mp z with z|z
    ·rcases sD c z with z|z
     ·exact aad _ (aaf _ ((J c).mpr (.inl z)))
     ·exact aaf _ z
    ·exact aad _ (aaf _ ((J c).mpr (.inr z)))
   ·exact aad _ (aad _ z)) id
  obtain⟨g,hx,X⟩:=h Z (λc z=>.inl (f c z)) I (λc U=>hk c λz=>a0 c z c U rfl) (hO _ f λc U z=>by
   rcases z with z|z
   ·rcases aak.mp z with z|z
    ·rcases aak.mp z with z|z
     ·exact z
     ·exact absurd rfl (a0 c U c z)
    ·exact absurd rfl (d c ((J c).mpr (.inl U)) c z)
   ·exact absurd z (w.dj i c (aad _ (aaf _ ((J c).mpr (.inl U))))))
  have F:∀c,c∈g ↔ c∈D++m:=λc=>X.mem_iff;have a2:∀c xs,l c=some (.tup xs)->¬ (c∈(D++m)++E\/b.S0 c):=λc xs e z=>by
   by_cases q:c∈B
   ·obtain⟨o,q1,q2⟩:=hm c q;rw[q1]at e;cases e;exact q2
   ·rw[hk c q]at e;exact I c xs e (f c z)
  have a5:∀c∈D,∀M∈m,c≠M:=λc U M Q e=>by
   subst e;rcases sD c U with z|z
   ·exact a0 c z c Q rfl
   ·exact a1 c z c (aaf _ ((J c).mpr (.inr Q))) rfl
  refine⟨⟨g++E,Ows.cons (Ow.sub a2 (λc z=>z.imp (λz=>(aak.mp z).elim (λz=>aaf _ ((F c).mp z)) (aad _)) id) hx) (Ows.step Z (λc z=>.inl (f c (z.imp (λz=>(aak.mp z).elim (λz=>aaf _ ((F c).mp z)) (aad _)) id))) I (λc U=>hk c λz=>d c ((J c).mpr (.inl z)) c U rfl) t),?_,λc U=>?_⟩,?_,w.s0,λc xs e z=>?_⟩
  ·refine aau.mpr ⟨X.nodup_iff.mpr (aau.mpr ⟨nD,a6,a5⟩),nE,λc U M Q e=>?_⟩;subst e;rcases aak.mp ((F c).mp U) with z|z
   ·rcases sD c z with z|z
    ·exact d c ((J c).mpr (.inl z)) c Q rfl
    ·exact a1 c z c (aad _ Q) rfl
   ·exact d c ((J c).mpr (.inr z)) c Q rfl
  ·have:c∈C++(A++E)\/b.S0 c:=f c (.inl ((aak.mp U).elim (λz=>aaf _ ((F c).mp z)) (aad _)));have j:c∈C++(A++E):=by
    rcases aak.mp U with z|z
    ·rcases aak.mp ((F c).mp z) with z|z
     ·rcases sD c z with z|z
      ·exact aad _ (aaf _ ((J c).mpr (.inl z)))
      ·exact aaf _ z
     ·exact aad _ (aaf _ ((J c).mpr (.inr z)))
    ·exact aad _ (aad _ z)
   exact i c j
  ·refine⟨λc o e n=>?_,λc e=>w.fr.n c (Z.n c e)⟩;rw[hk c λz=>?_]
   ·exact w.fr.k c o e n
   ·rcases i c (aad _ (aaf _ ((J c).mpr (.inl z)))) with q|q
    ·rw[q]at e;cases e
    ·exact n q
  ·exact a2 c xs e (.inr z)
theorem Wd.y2(w:Wd b H (us.zip zs++((v,x)::L)))(r:us.length=zs.length)(e:x.at ks=some (.lst xs)):∃a vs,Chn b H v x ks (.ref a) (.lst xs)/\H a=some (.lst vs)/\vs.length=xs.length /\
  ∀M P,(∀(S:Addr->Prop) (H:Hp) (A C:List Addr),(∀c xs,H c=some (.tup xs)->¬ S c)->Ows b S H vs xs A->Ows b S H us zs C->(A++C).Nodup->∃D,Ows b S H M P D/\D.Nodup/\∀c∈D,c∈A\/c∈C)->Wd b (upd H a (.lst M)) ((v,OD.put (.lst P) ks x)::L):=by
 obtain⟨S,u,B,C,N,l,d,Q,g,s,I,f,h⟩:=w.vl r e;cases l with
 |@lst a vs _ A e1 t=>
  refine⟨a,vs,N,e1,t.len,λM P y=>?_⟩;obtain⟨W,X⟩:=aat.mp (Q);have T:∀c,c≠a->upd H a (.lst M) c=H c:=λc n=>upd_ne n;have Z:Kp S H (upd H a (.lst M)):=Kp.put (.inl (g a (by simp)));have j:∀p:Addr->Prop,(∀c,p c->S c)->∃D,Ows b p (upd H a (.lst M)) M P D/\D.Nodup/\∀c∈D,c∈A\/c∈C:=λp J=>by
   refine y p _ A C (λc xs e z=>?_) (Ows.step Z (λc z=>.inl (J c z)) I (λc U=>T c λe=>W (e▸aaf _ U)) t) (Ows.step Z (λc z=>.inl (J c z)) I (λc U=>T c λe=>W (e▸aad _ U)) d) X;by_cases q:c=a
   ·subst q;rw[aB]at e;cases e
   ·rw[upd_ne q]at e;exact I c xs e (J c z)
  obtain⟨D,i,k,F⟩:=j S λ_ z=>z;have O:∀c xs,upd H a (.lst M) c=some (.tup xs)->¬ S c:=λc xs e z=>by
   by_cases q:c=a
   ·subst q;rw[aB]at e;cases e
   ·rw[upd_ne q]at e;exact I c xs e z
  refine h (λc n=>T c λe=>n (by simp[e])) (λc U=>?_) (aat.mpr ⟨λz=>W (by rcases F a z with z|z<;>simp[z]),k⟩) (λc U=>?_) λp J _=>.lst aB (Ows.sub O J i)
  ·rcases aaa.mp U with rfl|U
   ·exact⟨_,aB,trivial⟩
   ·obtain⟨o,q,m⟩:=t.mu c U;exact⟨o,by rw[T c λe=>W (e▸aaf _ U)];exact q,m⟩
  ·rcases aaa.mp U with rfl|U
   ·exact .inl (by simp)
   ·exact(F c U).imp (aag _) id
theorem Wd.sx(w:Wd b H (us.zip zs++((v,x)::L)))(j:us.length=zs.length)(e:x.at ks=some (.dic kk xs)):∃a ws,Chn b H v x ks (.ref a) (.dic kk xs)/\H a=some (.dK ws)/\ws.map (·.1)=kk/\ws.length=xs.length /\
  ∀M f P,M.map (·.1)=f->(∀(S:Addr->Prop) (H:Hp) (A C:List Addr),(∀c xs,H c=some (.tup xs)->¬ S c)->Ows b S H (ws.map (·.2)) xs A->Ows b S H us zs C->(A++C).Nodup->∃D,Ows b S H (M.map (·.2)) P D/\D.Nodup/\∀c∈D,c∈A\/c∈C)->Wd b (upd H a (.dK M)) ((v,OD.put (.dic f P) ks x)::L):=by
 obtain⟨S,u,B,C,N,Y,d,Q,g,s,I,r,h⟩:=w.vl j e;cases Y with
 |@dic a ws _ vs _ A e1 h5 h6 t=>
  subst h6;refine⟨a,ws,N,e1,h5,by have:=t.len;rwa [aae]at this,λM f P l y=>?_⟩;obtain⟨W,X⟩:=aat.mp (Q);have T:∀c,c≠a->upd H a (.dK M) c=H c:=λc n=>upd_ne n;have Z:Kp S H (upd H a (.dK M)):=Kp.put (.inl (g a (by simp)));have O:∀c xs,upd H a (.dK M) c=some (.tup xs)->¬ S c:=λc xs e z=>by
   by_cases q:c=a
   ·subst q;rw[aB]at e;cases e
   ·rw[upd_ne q]at e;exact I c xs e z
  obtain⟨D,i,k,F⟩:=y S _ A C O (Ows.step Z (λc z=>.inl z) I (λc U=>T c λe=>W (e▸aaf _ U)) t) (Ows.step Z (λc z=>.inl z) I (λc U=>T c λe=>W (e▸aad _ U)) d) X;refine h (λc n=>T c λe=>n (by simp[e])) (λc U=>?_) (aat.mpr ⟨λz=>W (by rcases F a z with z|z<;>simp[z]),k⟩) (λc U=>?_) λp J _=>.dic aB l rfl (Ows.sub O J i)
  ·rcases aaa.mp U with rfl|U
   ·exact⟨_,aB,trivial⟩
   ·obtain⟨o,q,m⟩:=t.mu c U;exact⟨o,by rw[T c λe=>W (e▸aaf _ U)];exact q,m⟩
  ·rcases aaa.mp U with rfl|U
   ·exact .inl (by simp)
   ·exact(F c U).imp (aag _) id
theorem Wd.mutO(w:Wd b H (us.zip zs++((v,x)::L)))(el:us.length=zs.length)(e:x.at ks=some (.obj c ns xs)):∃a dx fs,Chn b H v x ks (.ref a) (.obj c ns xs)/\H a=some (.ins (av b.K c) dx fs)/\fs.map (·.1)=ns/\fs.length=xs.length /\
  ∀Y j P,Y.map (·.1)=j->(∀(S:Addr->Prop) (H:Hp) (A C:List Addr),(∀c xs,H c=some (.tup xs)->¬ S c)->Ows b S H (fs.map (·.2)) xs A->Ows b S H us zs C->(A++C).Nodup->∃D,Ows b S H (Y.map (·.2)) P D/\D.Nodup/\∀c∈D,c∈A\/c∈C)->Wd b (upd H a (.ins (av b.K c) dx Y)) ((v,OD.put (.obj c j P) ks x)::L):=by
 obtain⟨S,u,B,C,N,hy,d,Q,g,al,I,f,go⟩:=w.vl el e;cases hy with
 |@obj a dx _ fs _ vs _ A e1 e2 h5 h6 t=>
  subst h6;refine⟨a,dx,fs,N,e1,h5,by have:=t.len;grind,λY j P l y=>?_⟩;obtain⟨W,X⟩:=aat.mp (show (a::(dx::(A++C))).Nodup from Q);obtain⟨r,X⟩:=aat.mp X;have T:∀z,z≠a->upd H a (.ins (av b.K c) dx Y) z=H z:=λz n=>upd_ne n;have Z:Kp S H (upd H a (.ins (av b.K c) dx Y)):=Kp.put (.inl (g a (by simp)));have O:∀z xs,upd H a (.ins (av b.K c) dx Y) z=some (.tup xs)->¬ S z:=λz xs e s=>by
   by_cases q:z=a
   ·subst q;rw[aB]at e;cases e
   ·grind
  obtain⟨D,i,k,F⟩:=y S _ A C O (Ows.step Z (λc z=>.inl z) I (λc U=>T c λe=>W (e▸aag _ (aaf _ U))) t) (Ows.step Z (λc z=>.inl z) I (λc U=>T c λe=>W (e▸aag _ (aad _ U))) d) X;have M:dx≠a:=λe=>W (e▸aai);refine go (λz n=>T z λe=>n (by simp[e])) (λz U=>?_) (aat.mpr ⟨λz=>?_,aat.mpr ⟨λz=>?_,k⟩⟩) (λz U=>?_) λp J _=>.obj aB (by rw[T dx M];exact e2) l rfl (Ows.sub O J i)
  ·rcases aaa.mp U with rfl|U
   ·exact⟨_,aB,trivial⟩
   ·rcases aaa.mp U with rfl|U
    ·exact⟨.own a,by rw[T _ M];exact e2,trivial⟩
    ·obtain⟨o,q,m⟩:=t.mu z U;exact⟨o,by rw[T z λe=>W (e▸aag _ (aaf _ U))];exact q,m⟩
  ·rcases aaa.mp z with z|z
   ·exact M z.symm
   ·exact W (aag _ (aak.mpr (F a z)))
  ·exact r (aak.mpr (F dx z))
  ·rcases aaa.mp U with rfl|U
   ·exact .inl (by simp)
   ·rcases aaa.mp U with rfl|U
    ·exact .inl (by simp)
    ·exact(F z U).imp (λh=>aag _ (aag _ h)) id
theorem Chd.det(h:Chd b H v x k w z)(h':Chd b H v x k w' z'):w=w'/\z=z':=by
 cases h with
 |lst J B s n=>cases h' with|lst r W g Z=>grind
 |tup J B s n=>cases h' with|tup r W g Z=>grind
 |dic J B F s n=>cases h' with|dic r W l g Z=>grind
 |obj J B F s n=>cases h' with|obj r W l g Z=>grind
theorem Chd.same(h:Chd b H v x k w z)(h':Chd b H v (OD.ea k y x) k w' y'):w=w':=by
 cases h with
 |lst J B s n=>cases h' with|lst r W g Z=>grind
 |tup J B s n=>cases h' with|tup r W g Z=>grind
 |dic J B F s n=>cases h' with|dic r W l g Z=>grind
 |obj J B F s n=>cases h' with|obj r W l g Z=>grind
theorem Chd.kid(h:Chd b H v x k w z):x.kids[k]?=some z:=by
 cases h with
 |lst _ _ _ e=>exact e
 |tup _ _ _ e=>exact e
 |dic _ _ _ _ e=>exact e
 |obj _ _ _ _ e=>exact e
theorem Chd.set(h:Chd b H v x k w z):(OD.ea k y x).kids[k]?=some y:=by
 cases h with
 |lst _ _ _ e=>exact aaZ (aah.mp e).1
 |tup _ _ _ e=>exact aaZ (aah.mp e).1
 |dic _ _ _ _ e=>exact aaZ (aah.mp e).1
 |obj _ _ _ _ e=>exact aaZ (aah.mp e).1
theorem Wd.wj(w:Wd b H ((v,x)::L))(e:x.at ks=some y)(r:y.dat=some d):∃u,Chn b H v x ks u y/\Wd b H ((u,.fz d)::(v,OD.put (.fz d) ks x)::L):=by
 obtain⟨S,u,B,C,N,m,hz,Q,g,s,I,fi,h⟩:=Wd.vl (us:=[]) (zs:=[]) w rfl e;have X:=h (λ_ _=>rfl) (λc U=>m.mu c U) abd (λc U=>by cases U) λp J t=>.fz (Ow.frz J I (λa j z=>by cases t a j z) m r);refine⟨u,N,X.add λW O D n=>?_⟩;obtain⟨T,o1⟩:=O (v,OD.put (.fz d) ks x) (by simp);have q:∀{ks:List Nat}{v u:V}{x:OD}{A:List Addr},Chn b H v x ks u y->Ow b W H v (OD.put (.fz d) ks x) A->Fz b.K W H u d:=λ{ks}=>by
  induction ks with
  |nil=>intro v u x A c o;cases c;simp only[OD.put]at o;cases o with|fz f=>exact f
  |cons k ks Y=>
   intro v u x A c o;cases c with
   |cons l i=>have F:=l.kid;simp only[OD.put,F]at o;obtain⟨u',B',A',M,P,_⟩:=o.kid l.set;have Z:=l.same M;subst Z;exact Y i P
 exact q N o1
end
section
abbrev DSp:=List OD->(OD->List OD->Prop)->Prop
def Lb(K:Waa)(S:Addr->Prop)(A:List Addr)(vs:List V)(H:Hp)(Q:VK)(x:OD)(ys:List OD):Prop:=∀v l B,Kp (λa=>a∈A) H l ->
 Ows ⟨K,H,S,λa=>a∈A⟩ (λa=>a∈B\/S a) l (v::vs) (x::ys) B->B.Nodup->(∀a∈B,H a=none\/a∈A)->Q v l
def toSp(K:Waa)(sp:DSp):Sp:=λc H Q _=>∃(S:Addr->Prop) (Y:List OD) (A:List Addr),(∀a,S a->H a≠none/\a ∉ A)/\(∀a Y,H a=some (.tup Y)->¬ S a) /\
 Ows ⟨K,H,S,λa=>a∈A⟩ (λa=>a∈A\/S a) H c Y A/\A.Nodup/\sp Y (Lb K S A c H Q)
def vI(sp:DSp):Prop:=∀Y (P R:OD->List OD->Prop),(∀x j,P x j->R x j)->sp Y P->sp Y R
theorem Wd.call(w:Wd b H (us.zip xs++L))(u:us.length=xs.length)(S:vI sp)
  (h:sp xs λx ys=>us.length=ys.length->∀v l,Wd b l ((v,x)::(us.zip ys++L))->Q v l):toSp b.K sp us H Q E:=by
 obtain⟨q,P,r,i⟩:=w.out;have I:=w.n7 P;have s:=λ{a}=>w.al P (a:=a);obtain⟨A,N,rfl,O,t⟩:=OwL.eu P;obtain⟨W,f,d⟩:=aau.mp r;have p:=w.dj i;refine⟨λa=>a∈N\/b.S0 a,xs,A,λa z=>⟨λe=>s e (z.imp (aad _) id),λF=>?_⟩,λa xs e z=>I a xs e (z.imp (aad _) id),?_,W,S _ _ _ (λx ys X v l B Z y T C=>?_) h⟩
 ·grind
 ·refine Ows.subB (b2:=⟨b.K,H,λa=>a∈N\/b.S0 a,λa=>a∈A⟩) (b:=b) rfl I (λc z=>?_) (OwL.wh u O)
  grind
 have g:us.length=ys.length:=by have:=y.len;grind
 have Y:∀a,a ∉ A->H a≠none->l a=H a:=λa F j=>by
  cases e:H a with
  |none=>grind
  |some o=>exact Z.k a o e F
 have m:Kp (λa=>a∈A++N\/b.S0 a) H l:=Z.weak λc U=>.inl (.inl (aaf _ U));have n':∀c,(c∈B++N\/b.S0 c)->(c∈A++N\/b.S0 c)\/H c=none:=λc z=>by
  grind
 have D:∀a xs,l a=some (.tup xs)->¬ (a∈B\/a∈N\/b.S0 a):=λa xs e z=>by
  rcases z with z|z
  ·exact y.tl a z xs e
  ·grind
 have J:((v,x)::(us.zip ys++L))=((v::us).zip (x::ys))++L:=rfl;refine X g v l ?_;rw[J];refine⟨⟨B++N,OwL.il (OwL.j1 (Ows.subB (b2:=b) (b:=⟨b.K,H,λa=>a∈N\/b.S0 a,λa=>a∈A⟩) rfl D (λc z=>?_) y)) (Ows.step m n' I (λa j=>Y a (λF=>d a F a j rfl) λe=>s e (.inl (aad _ j))) t),aau.mpr ⟨T,f,λa j c U e=>?_⟩,λa j=>?_⟩,?_,w.s0,λa xs e z=>D a xs e (.inr (.inr z))⟩
 ·rcases z with z|z
  ·exact(aak.mp z).imp id .inl
  ·exact .inr (.inr z)
 ·subst e;rcases C a j with z|z
  ·exact s z (.inl (aad _ U))
  ·exact d a z a U rfl
 ·rcases aak.mp j with z|z
  ·rcases C a z with z|z
   ·exact .inl (w.vu z)
   ·exact i a (aaf _ z)
  ·exact i a (aad _ z)
 ·refine⟨λc o e M=>Z.k c o (w.fr.k c o e M) λF=>?_,λc e=>w.fr.n c (Z.n c e)⟩;rcases i c (aaf _ F) with z|z
  ·rw[z]at e;cases e
  ·exact M z
theorem Wd.pin(w:Wd b H ((v,.fz d)::L))(e:d=if l then .list ds else .tuple ds):∃xs,Wd b H ((v,.pin l xs ds)::L):=by
 obtain⟨q,P,Q,i⟩:=w.out;cases P with
 |cons r t=>
  cases r with
  |fz r=>
   cases l with
   |true=>subst e;obtain⟨a,xs,rfl,O,Z⟩:=r.q7;exact⟨xs,⟨⟨_,Ows.cons (.pinL O Z) t,Q,i⟩,w.fr,w.s0,w.nt⟩⟩
   |false=>subst e;obtain⟨a,xs,rfl,O,Z⟩:=r.ri;exact⟨xs,⟨⟨_,Ows.cons (.pinT O Z) t,Q,i⟩,w.fr,w.s0,w.nt⟩⟩
theorem Wd.pinned(w:Wd b H L)(m:(v,OD.pin l xs ds)∈L):∃a,v=.ref a/\xs.length=ds.length/\(if l then SqL b.K H a xs else SqT b.K H a xs)/\Wd b H (xs.zip (ds.map OD.fz)++L):=by
 obtain⟨A,P,Q,i⟩:=w.out;obtain⟨B,h⟩:=OwL.mem P m;have q:=w.adds λS g=>by
  obtain⟨B,h⟩:=g _ m;cases h with
  |pinL _ t=>exact t
  |pinT _ t=>exact t
 cases h with
 |pinL O Z=>exact⟨_,rfl,Z.length,O.now,q⟩
 |pinT O Z=>exact⟨_,rfl,Z.length,O.now,q⟩
end
section
abbrev DEnv:=List (Option OD)
noncomputable def flat:St->DEnv->List (V×OD)
 |some v::σ,some x::ρ=>(v,x)::flat σ ρ
 |_::σ,_::ρ=>flat σ ρ
 |_,_=>[]
def Wf:St->DEnv->Prop
 |[],[]=>True
 |_::σ,none::ρ=>Wf σ ρ
 |some _::σ,some _::ρ=>Wf σ ρ
 |_,_=>False
theorem bz:flat (o::σ) (none::ρ)=flat σ ρ:=by cases o<;>rfl
theorem Wf.get:∀{σ:St}{ρ:DEnv}{i:Nat},Wf σ ρ->ρ[i]?=some (some x)->∃v,σ[i]?=some (some v)
 |[],[],_,_,e=>by simp at e
 |[],_::_,_,h,_=>by simp[Wf]at h
 |_::_,[],_,_,e=>by simp at e
 |some v::_,some _::_,0,_,_=>⟨v,rfl⟩
 |none::_,some _::_,_,h,_=>by simp[Wf]at h
 |o::_,none::_,0,_,e=>by simp at e
 |o::σ,none::ρ,i+1,h,e=>by obtain⟨v,q⟩:=Wf.get (ρ:=ρ) h (by simpa using e);exact⟨v,by simpa using q⟩
 |some _::σ,some _::ρ,i+1,h,e=>by obtain⟨v,q⟩:=Wf.get (ρ:=ρ) h (by simpa using e);exact⟨v,by simpa using q⟩
theorem Wf.len:∀{σ:St}{ρ:DEnv},Wf σ ρ->σ.length=ρ.length
 |[],[],_=>rfl
 |[],_::_,h=>by trivial
 |_::_,[],h=>by trivial
 |o::σ,none::ρ,h=>by simp[Wf.len (σ:=σ) h]
 |some _::σ,some _::ρ,h=>by simp[Wf.len (ρ:=ρ) h]
 |none::_,some _::_,h=>by trivial
theorem Wf.off:∀{σ:St}{ρ:DEnv}{i:Nat},Wf σ ρ->Wf σ (ρ.set i none)
 |[],[],_,_=>trivial
 |[],_::_,_,h=>by simp[Wf]at h
 |_::_,[],_,h=>by simp[Wf]at h
 |o::σ,none::ρ,0,h=>h
 |some _::σ,some _::ρ,0,h=>h
 |none::_,some _::_,_,h=>by simp[Wf]at h
 |o::σ,none::ρ,i+1,h=>Wf.off (σ:=σ) h
 |some _::σ,some _::ρ,i+1,h=>Wf.off (i:=i) h
theorem Wf.put:∀{σ:St}{ρ:DEnv}{i:Nat},Wf σ ρ->Wf (σ.set i (some v)) (ρ.set i (some x))
 |[],[],_,_=>trivial
 |[],_::_,_,h=>by trivial
 |_::_,[],_,h=>by trivial
 |o::σ,none::ρ,0,h=>h
 |some _::σ,some _::ρ,0,h=>h
 |none::_,some _::_,_,h=>by trivial
 |o::σ,none::ρ,i+1,h=>Wf.put (σ:=σ) h
 |some _::σ,some _::ρ,i+1,h=>Wf.put (i:=i) h
theorem bA:∀{σ:St}{ρ:DEnv}{i:Nat},ρ[i]?=some (some x)->σ[i]?=some (some v)->(flat σ ρ).Perm ((v,x)::flat σ (ρ.set i none))
 |[],_,_,_,e=>by simp at e
 |_::_,[],_,e,_=>by simp at e
 |some u::σ,some y::ρ,0,e,e'=>by simp at e e';subst e e';exact .refl _
 |none::_,_::_,0,_,e=>by simp at e
 |some _::_,none::_,0,e,_=>by simp at e
 |o::σ,none::ρ,i+1,e,e'=>by rw[aaA,bz,bz];exact bA (by simpa using e) (by simpa using e')
 |some u::σ,some y::ρ,i+1,e,e'=>by rw[aaA];exact((bA (σ:=σ) (by simpa using e) (by simpa using e')).cons _).trans (List.Perm.swap _ _ _)
 |none::σ,some y::ρ,i+1,e,e'=>by rw[aaA];exact bA (by simpa using e) (by simpa using e')
theorem cP:∀{σ:St}{ρ:DEnv}{i:Nat},i<ρ.length->σ.length=ρ.length->(flat (σ.set i (some v)) (ρ.set i (some x))).Perm ((v,x)::flat σ (ρ.set i none))
 |_,[],_,h,_=>by simp at h
 |[],_::_,_,_,h=>by simp at h
 |o::σ,y::ρ,0,_,_=>by rw[abM,abM,abM,bz];exact .refl _
 |o::σ,none::ρ,i+1,h,h'=>by rw[aaA,aaA,aaA,bz,bz];exact cP (by simpa using h) (by simpa using h')
 |none::σ,some _::ρ,i+1,h,h'=>by rw[aaA,aaA,aaA];exact cP (σ:=σ) (by simpa using h) (by simpa using h')
 |some u::σ,some y::ρ,i+1,h,h'=>by rw[aaA,aaA,aaA];exact((cP (by simpa using h) (by simpa using h')).cons _).trans (List.Perm.swap _ _ _)
theorem set_self{Y:Type}:∀{l:List Y}{i:Nat}{x:Y},l[i]?=some x->l.set i x=l
 |[],_,_,e=>by rfl
 |_::_,0,_,e=>by grind
 |y::l,i+1,x,e=>by rw[aaA,set_self (by grind)]
inductive OR where|val (x:OD)|rf (i:Nat)
noncomputable def stk:List V->List OR->List (V×OD)
 |v::τ,.val x::θ=>(v,x)::stk τ θ
 |_::τ,.rf _::θ=>stk τ θ
 |_,_=>[]
def Al(σ:St):List V->List OR->Prop
 |[],[]=>True
 |_::τ,.val _::θ=>Al σ τ θ
 |v::τ,.rf i::θ=>σ[i]?=some (some v)/\Al σ τ θ
 |_,_=>False
structure Fr where
 σ:St
 ρ:DEnv
 τ:List V
 θ:List OR
def ff(F:List Fr):List (V×OD):=F.flatMap λf=>stk f.τ f.θ++flat f.σ f.ρ
structure Rel (b:Bs)(F:List Fr)(σ:St)(H:Hp)(ρ:DEnv)(τ:List V)(θ:List OR):Prop where
 wf:Wf σ ρ
 al:Al σ τ θ
 wff:∀f∈F,Wf f.σ f.ρ/\Al f.σ f.τ f.θ
 wd:Wd b H (stk τ θ++(flat σ ρ++ff F))
def az(ρ:DEnv):OR->Option PyData
 |.val x=>x.dat
 |.rf i=>(ρ[i]?.join).bind OD.dat
section
variable{i:Nat}
theorem join_some{Y:Type}{o:Option (Option Y)}{x:Y}(h:o.join=some x):o=some (some x):=by
 cases o with
 |none=>cases h
 |some o=>exact congrArg some h
theorem Al.len:∀{τ:List V}{θ:List OR},Al σ τ θ->τ.length=θ.length
 |[],[],_=>rfl
 |[],_::_,h=>by trivial
 |_::_,[],h=>by trivial
 |_::τ,.val _::θ,h=>by simp[Al.len (τ:=τ) h]
 |_::τ,.rf _::θ,h=>by simp[Al.len h.2]
theorem aH:∀{vs τ:List V}{rs θ:List OR},vs.length=rs.length->stk (vs++τ) (rs++θ)=stk vs rs++stk τ θ
 |[],_,[],_,_=>rfl
 |_::vs,τ,.val _::rs,θ,e=>by simp only[aaK,stk];rw[aH (by simpa using e)]
 |_::vs,τ,.rf _::rs,θ,e=>by simp only[aaK,stk];exact aH (by simpa using e)
 |[],_,_::_,_,e=>by simp at e
 |_::_,_,[],_,e=>by simp at e
theorem aS:∀{vs τ:List V}{rs θ:List OR},vs.length=rs.length->(Al σ (vs++τ) (rs++θ) ↔ Al σ vs rs/\Al σ τ θ)
 |[],_,[],_,_=>by simp[Al]
 |_::vs,τ,.val _::rs,θ,e=>by simp only[aaK,Al];exact aS (by simpa using e)
 |_::vs,τ,.rf _::rs,θ,e=>by simp only[aaK,Al];rw[aS (by simpa using e),and_assoc]
 |[],_,_::_,_,e=>by simp at e
 |_::_,_,[],_,e=>by simp at e
theorem Rel.zv(R:Rel b F σ H ρ (vs++v::τ) (rs++r::θ))(e:vs.length=rs.length):Rel b F σ H ρ (v::vs++τ) (r::rs++θ):=by
 obtain⟨I,A⟩:=(aS e).mp R.al;have P:Al σ [v] [r]/\Al σ τ θ:=(aS rfl).mp A;refine⟨R.wf,(aS (vs:=[v]) (rs:=[r]) rfl).mpr ⟨P.1,(aS e).mpr ⟨I,P.2⟩⟩,R.wff,R.wd.perm ?_⟩;refine acd _ ?_;have J:stk (v::vs++τ) (r::rs++θ)=stk [v] [r]++(stk vs rs++stk τ θ):=by rw[<-aH e,<-aH rfl];rfl
 have B:stk (vs++v::τ) (rs++r::θ)=stk vs rs++(stk [v] [r]++stk τ θ):=by rw[aH e,<-aH (rs:=[r]) rfl];rfl
 rw[J,B,<-aab,<-aab];exact aa6.append_right _
theorem Rel.zb(R:Rel b F σ H ρ (v::vs++τ) (r::rs++θ))(e:vs.length=rs.length):Rel b F σ H ρ (vs++v::τ) (rs++r::θ):=by
 obtain⟨I,A⟩:=(aS (vs:=[v]) (rs:=[r]) rfl).mp R.al;obtain⟨U,P⟩:=(aS e).mp A;refine⟨R.wf,(aS e).mpr ⟨U,(aS rfl).mpr ⟨I,P⟩⟩,R.wff,R.wd.perm ?_⟩;refine acd _ ?_;have J:stk (v::vs++τ) (r::rs++θ)=stk [v] [r]++(stk vs rs++stk τ θ):=by rw[<-aH e,<-aH rfl];rfl
 have B:stk (vs++v::τ) (rs++r::θ)=stk vs rs++(stk [v] [r]++stk τ θ):=by rw[aH e,<-aH (rs:=[r]) rfl];rfl
 rw[J,B,<-aab,<-aab];exact aa6.append_right _
theorem Rel.drop(R:Rel b F σ H ρ (v::τ) (r::θ)):Rel b F σ H ρ τ θ:=by
 cases r with
 |val x=>exact⟨R.wf,R.al,R.wff,R.wd.drop⟩
 |rf i=>exact⟨R.wf,R.al.2,R.wff,R.wd⟩
theorem Rel.drops(R:Rel b F σ H ρ (vs++τ) (rs++θ))(e:vs.length=rs.length):Rel b F σ H ρ τ θ:=by
 induction vs generalizing rs with
 |nil=>cases rs with
  |nil=>exact R
  |cons _ _=>simp at e
 |cons v vs Y=>cases rs with
  |nil=>simp at e
  |cons r rs=>exact Y (Rel.drop R) (by simpa using e)
theorem Rel.sc(R:Rel b F σ H ρ τ θ)(h:Sc v d):Rel b F σ H ρ (v::τ) (.val (.fz d)::θ):=⟨R.wf,R.al,R.wff,R.wd.sc h⟩
theorem Rel.slot(R:Rel b F σ H ρ τ θ)(e:ρ[i]?=some (some x)):∃v,σ[i]?=some (some v)/\Wd b H ((v,x)::(stk τ θ++(flat σ (ρ.set i none)++ff F))):=by obtain⟨v,f⟩:=R.wf.get e;refine⟨v,f,R.wd.perm ?_⟩;refine((bA e f).append_right _ |>.append_left _).trans ?_;simp
theorem Rel.wk(W:Wf σ ρ)(s:Al (σ.set i (some v)) τ θ)(A:∀f∈F,Wf f.σ f.ρ/\Al f.σ f.τ f.θ)(r:i<ρ.length)(w:Wd b H ((v,x)::(stk τ θ++(flat σ (ρ.set i none)++ff F)))):Rel b F (σ.set i (some v)) H (ρ.set i (some x)) τ θ:=by refine⟨W.put,s,A,w.perm ?_⟩;refine(aav.symm).trans ?_;exact((cP r W.len).symm.append_right _).append_left _
theorem Rel.back(W:Wf σ ρ)(s:Al σ τ θ)(A:∀f∈F,Wf f.σ f.ρ/\Al f.σ f.τ f.θ)(ev:σ[i]?=some (some v))(w:Wd b H ((v,x)::(stk τ θ++(flat σ (ρ.set i none)++ff F)))):Rel b F σ H (ρ.set i (some x)) τ θ:=by
 have r:i<ρ.length:=by rw[<-W.len];grind
 have e:=set_self ev;have:=Rel.wk W (by grind) A r w
 grind
theorem Rel.dt(R:Rel b F σ H ρ (v::τ) (r::θ))(e:az ρ r=some d):Dt b.K H v d:=by
 cases r with
 |val x=>exact R.wd.memDt (by simp[stk]) e
 |rf i=>
  simp only[az,aaF]at e;obtain⟨x,J,B⟩:=e;obtain⟨u,O,w⟩:=R.drop.slot (join_some J);have:v=u:=by have:=R.al.1;grind
  subst this;exact w.memDt (aai) B
theorem Rel.dt2(R:Rel b F σ H ρ (u::v::τ) (f::r::θ))(e:az ρ r=some d):Dt b.K H v d:=(R.drop).dt e
theorem Rel.frzS(R:Rel b F σ H ρ τ θ)(e:ρ[i]?=some (some x))(A:x.dat=some d):Rel b F σ H (ρ.set i (some (.fz d))) τ θ:=by obtain⟨v,f,w⟩:=R.slot e;exact Rel.back R.wf R.al R.wff f (w.frz A)
theorem Rel.dupS(R:Rel b F σ H ρ τ θ)(e:ρ[i]?=some (some (.fz d)))(ev:σ[i]?=some (some v)):Rel b F σ H ρ (v::τ) (.val (.fz d)::θ):=by
 obtain⟨u,O,w⟩:=R.slot e;rw[ev]at O;cases O;have X:=w.dup;have J:=set_self e;have:=Rel.back (i:=i) (τ:=v::τ) (θ:=.val (.fz d)::θ) R.wf R.al R.wff ev (X.perm (List.Perm.swap _ _ _))
 grind
def frz1(ρ:DEnv):OR->Option (PyData×DEnv)
 |.val x=>x.dat.map (·,ρ)
 |.rf i=>(ρ[i]?.join).bind λx=>x.dat.map λd=>(d,ρ.set i (some (.fz d)))
theorem Rel.frz1(R:Rel b F σ H ρ (v::τ) (r::θ))(e:frz1 ρ r=some (d,ρ')):Rel b F σ H ρ' (v::τ) (.val (.fz d)::θ):=by
 cases r with
 |val x=>simp only[L2.frz1,aaJ]at e;obtain⟨k,J,B⟩:=e;cases B;exact⟨R.wf,R.al,R.wff,R.wd.frz J⟩
 |rf i=>simp only[L2.frz1,aaF,aaJ]at e;obtain⟨x,J,k,B,s⟩:=e;cases s;have a:i<ρ.length:=(aah.mp (join_some J)).1;exact(R.drop.frzS (join_some J) B).dupS (by rw[aaZ a]) R.al.1
def frzL(ρ:DEnv):List OR->Option (List PyData×DEnv)
 |[]=>some ([],ρ)
 |r::rs=>(L2.frz1 ρ r).bind λz=>(frzL z.2 rs).map λy=>(z.1::y.1,y.2)
theorem kL:∀{vs:List V}{rs:List OR}{ρ p:DEnv}{ds:List PyData}{τ:List V}{θ:List OR},Rel b F σ H ρ (vs++τ) (rs++θ)->vs.length=rs.length->L2.frzL ρ rs=some (ds,p)->Rel b F σ H p (vs++τ) (ds.map (λd=>OR.val (.fz d))++θ)/\vs.length=ds.length
 |[],[],_,_,_,_,_,R,_,e=>by simp only[L2.frzL]at e;grind
 |v::vs,r::rs,ρ,p,ds,τ,θ,R,e,h=>by
  simp only[L2.frzL,aaF,aaJ]at h;obtain⟨⟨d,ρ1⟩,O,⟨D,ρ2⟩,Z,Q⟩:=h;cases Q;have M:=Rel.frz1 R O;have L:vs.length=rs.length:=by grind
  obtain⟨t,B⟩:=kL (Rel.zb M L) L Z;exact⟨Rel.zv t (by grind),by grind⟩
 |[],_::_,_,_,_,_,_,_,e,_=>by grind
 |_::_,[],_,_,_,_,_,_,e,_=>by grind
end
end
section
def Gv(K:Waa):R2:=λx y H Q=>∃l b Y s,x=.ref l/\y=.ref b/\SqL K H l Y/\SqL K H b s/\Y.length+s.length<=sizeLine/\∀p,H p=none->Q (.ref p) (upd H p (.lst (Y++s)))
theorem zg:OpR X (binaryOp .Add) (Gv X.K):=by
 intro M s L H x y v u Q I J T h;obtain⟨l,b,Y,z,rfl,rfl,w,C,d,q⟩:=h;cases J;cases T;obtain⟨D,r,⟨⟨c,P,m,Z⟩,n,e,U,_,W⟩,_⟩:=I.list w;obtain⟨i,p,⟨⟨g,N,f,S⟩,a,B,j,_,O⟩,_⟩:=I.list C;have o:=r.length;have k:=p.length;simp only at U W j O;subst U W j O;refine concat_meets ⟨_,e,rfl⟩ ⟨_,B,rfl⟩ noFill_list_add seq_list_add PySem.F.slot_list_add PySem.F.entry_list_add (PySem.F.args_list_add_2 _ _) (list_addW l b D.toArray i.toArray n a P N Z S (by grind)) ⟨e,B,?_⟩;have A:D.toArray++i.toArray=(D++i).toArray:=by simp
 rw[A];exact⟨.ref _,_,I.lnew (r.append p) (by grind),rfl,q _ I.fresh⟩
abbrev DK:=OR->DEnv->Prop
abbrev DE:=DEnv->DK->Prop
abbrev DT:=DEnv->(Bool->DEnv->Prop)->Prop
abbrev DA:=DEnv->(List OR->DEnv->Prop)->Prop
abbrev DR2:=PyData->PyData->(PyData->Prop)->Prop
abbrev DR1:=PyData->(PyData->Prop)->Prop
abbrev DRn:=List PyData->(PyData->Prop)->Prop
def bI(K:Waa)(o:TE)(e:DE):Prop:=∀(b:Bs) (F:List Fr) (L:St) (H:Hp) (I:DEnv) (i:List V) (S:List OR) (Qd:DK) (Q:VK),b.K=K->Rel b F L H I i S->e I Qd->(∀v l r p,Rel b F L l p (v::i) (r::S)->Qd r p->Q v l)->o L H Q
def SndT(K:Waa)(o:TT)(e:DT):Prop:=∀(b:Bs) (F:List Fr) (L:St) (H:Hp) (I:DEnv) (i:List V) (S:List OR) (Qd:Bool->DEnv->Prop) (Q:Bool->Hp->Prop),b.K=K->Rel b F L H I i S->e I Qd->(∀k l p,Rel b F L l p i S->Qd k p->Q k l)->o L H Q
def vJ(K:Waa)(o:TA)(e:DA):Prop:=∀(b:Bs) (F:List Fr) (L:St) (H:Hp) (I:DEnv) (i:List V) (S:List OR) (Qd:List OR->DEnv->Prop) (Q:List V->Hp->Prop),b.K=K->Rel b F L H I i S->e I Qd->(∀c l U p,c.length=U.length->Rel b F L l p (c++i) (U++S)->Qd U p->Q c l)->o L H Q
inductive PDe (X:Cx)(e:Expr)(de:DE):Prop|mk (te:TE) (h:PE X e te) (s:bI X.K te de)
inductive PDt (X:Cx)(e:Expr)(de:DT):Prop|mk (te:TT) (h:PT X e te) (s:SndT X.K te de)
inductive PDw (X:Cx)(e:Expr)(de:DT):Prop|mk (te:TT) (h:PW X e te) (s:SndT X.K te de)
inductive PDa (X:Cx)(es:List Expr)(de:DA):Prop|mk (te:TA) (h:PA X es te) (s:vJ X.K te de)
section
variable{K:Waa}
def dVar(i:Nat):DE:=λI Q=>match I[i]?.join with
 |some (.fz d)=>Q (.val (.fz d)) I
 |some _=>Q (.rf i) I
 |none=>False
theorem zh:bI K (tVar i) (dVar i):=by
 intro b F L H I z S w Q T R h q;unfold dVar at h;cases e:I[i]?.join with
 |none=>rw[e]at h;exact h.elim
 |some x=>
  rw[e]at h;have U:=join_some e;obtain⟨v,f⟩:=R.wf.get U;have A:w (.rf i) I->tVar i L H Q:=λh=>⟨v,f,q v H (.rf i) I ⟨R.wf,show Al L (v::z) (.rf i::S) from ⟨f,R.al⟩,R.wff,R.wd⟩ h⟩
  cases x with
  |fz d=>exact⟨v,f,q v H _ I (R.dupS U f) h⟩
  |_=>exact A h
theorem Ds(a:X.N[i]?=some x) (o:Vis X.env.scope x) (W:(x==("__debug__":Str))=false:=by decide) (u:(x==("__classdict__":Str))=false:=by decide):PDe X (.Name x pos) (dVar i):=⟨_,bB a o W u,zh⟩
def dC(d:PyData):DE:=λI Q=>Q (.val (.fz d)) I
theorem qk(h:Sc v d):bI K (tC v) (dC d):=λb F L H I i S w Q T R W q=>q v H _ I (R.sc h) W
theorem pd_int{i j pos}:PDe X (.Constant (.int i) j pos) (dC (.int i)):=⟨_,iA,qk (.int i)⟩
theorem pd_bl{k j pos}:PDe X (.Constant (.bool k) j pos) (dC (.bool k)):=⟨_,FU,qk (.bl k)⟩
theorem pd_non{j pos}:PDe X (.Constant .none j pos) (dC .none):=⟨_,Ci,qk .non⟩
theorem pd_str{x j pos}:PDe X (.Constant (.str x) j pos) (dC (.str x)):=⟨_,nT,qk (.str x)⟩
theorem Rel.addK{b:Bs}(R:Rel b F σ H ρ τ θ)(h:∀S H,Fz b.K S H v d):Rel b F σ H ρ (v::τ) (.val (.fz d)::θ):=⟨R.wf,R.al,R.wff,R.wd.add λS _ _ _=>h S H⟩
theorem vK(N:Gl X x) (Y:X.mg x=some u) (r:RelV v u) (s:∀S H,Fz X.K S H v d) (W:(x==("__debug__":Str))=false:=by decide):PDe X (.Name x pos) (dC d):=
 ⟨_,yK N Y r W,λb F L H I i z w Q T R W q=>q v H _ I (R.addK (by rw[T];exact s)) W⟩
def SndR2(K:Waa)(p:R2)(r:DR2):Prop:=∀(H:Hp) (v u:V) (e l:PyData) (Qd:PyData->Prop) (Q:VK),Dt K H v e->Dt K H u l->r e l Qd->(∀w d,Sc w d->Qd d->Q w H)->p v u H Q
def zi(r:DR2)(a b:DE):DE:=λI Q=>a I λx A=>b A λy o=>∃e l,az o x=some e/\az o y=some l/\r e l λd=>Q (.val (.fz d)) o
theorem oA(D:SndR2 K r2 r)(j:bI K ta da)(Y:bI K tb db):bI K (CJ r2 ta tb) (zi r da db):=by intro b F L H I i S z Q T R h q;refine j b F L H I i S _ _ T R h λv P x A M O=>Y b F L P A _ _ _ _ T M O λu N y o t Z=>?_;obtain⟨e,l,J,B,n⟩:=Z;exact D N v u e l _ _ (T▸t.dt2 J) (T▸t.dt B) n λw d C W=>q w N _ _ (t.drop.drop.sc C) W
theorem Gw(j:OpR X (binaryOp op) r2)(D:SndR2 X.K r2 r):PDe X a da->PDe X b db->PDe X (.BinOp a op b pos) (zi r da db)
 |⟨_,h1,s1⟩,⟨_,h2,s2⟩=>⟨_,uQ j h1 h2,oA D s1 s2⟩
def dI(C:Int->Int->Prop)(g:Int->Int->PyData):DR2:=λx y Q=>∃i j,x=.int i/\y=.int j/\C i j/\Q (g i j)
def Lc(g:Int->Int->PyData):DR2:=λx y Q=>∃i j,x=.int i/\y=.int j/\Q (g i j)
theorem zj(h:∀i j,Sc (g i j) (g' i j)):SndR2 K (rI C g) (dI C g'):=by rintro H v u e l w Q o U ⟨i,j,rfl,rfl,c,A⟩ q;cases o;cases U;exact⟨i,j,rfl,rfl,c,q _ _ (h i j) A⟩
theorem vL(h:∀i j,Sc (g i j) (g' i j)):SndR2 K (yD g) (Lc g'):=by rintro H v u e l w Q o U ⟨i,j,rfl,rfl,A⟩ q;cases o;cases U;exact⟨i,j,rfl,rfl,q _ _ (h i j) A⟩
theorem Du(j:OpR X (compareOp op) r2)(D:SndR2 X.K r2 r)(Y:behindInMarks op b=false):PDe X a da->PDe X b db->PDe X (.Compare a [op] [b] pos) (zi r da db)
 |⟨_,h1,s1⟩,⟨_,h2,s2⟩=>⟨_,pZ j h1 h2 Y,oA D s1 s2⟩
theorem zk{g:Int->Int->Bool}:SndR2 K (yD λi j=>.bl (g i j)) (Lc λi j=>.bool (g i j)):=vL λ_ _=>.bl _
noncomputable def vM:PyData->PyData->Option Bool
 |.int i,.int j=>some (decide (i=j))
 |.bool i,.bool j=>some (decide (i=j))
 |.str i,.str j=>some (decide (i=j))
 |.none,.none=>some true
 |.none,.int _=>some false|.int _,.none=>some false|.none,.str _=>some false|.str _,.none=>some false
 |.int _,.str _=>some false|.str _,.int _=>some false
 |_,_=>none
theorem ql(o:Dt K H v dx)(U:Dt K H u dy)(e:vM dx dy=some k):CQ v u=true/\decide (v=u)=k:=by cases o<;>cases U<;>cases e<;>refine⟨rfl,?_⟩<;>simp
def dEqS:DR2:=λx y Q=>∃k,vM x y=some k/\Q (.bool k)
def dNeS:DR2:=λx y Q=>∃k,vM x y=some k/\Q (.bool (!k))
theorem sr_eq:SndR2 K rEq dEqS:=by rintro H v u W l w Q o U ⟨k,e,A⟩ q;obtain⟨O,Z⟩:=ql o U e;exact⟨O,by rw[Z];exact q _ _ (.bl k) A⟩
theorem sr_ne:SndR2 K rNe dNeS:=by rintro H v u W l w Q o U ⟨k,e,A⟩ q;obtain⟨O,Z⟩:=ql o U e;exact⟨O,by rw[Z];exact q _ _ (.bl _) A⟩
def dEqD:DR2:=λx y Q=>SeqAt.shaped x=true/\SeqAt.shaped y=true/\Q (.bool (PyData.eqv x y))
def dNeD:DR2:=λx y Q=>SeqAt.shaped x=true/\SeqAt.shaped y=true/\Q (.bool (!PyData.eqv x y))
theorem Dv:SndR2 K (Gi K) dEqD:=λH v u e l w Q o U ⟨f,Z,A⟩ q=>⟨e,l,o,U,f,Z,q _ _ (.bl _) A⟩
theorem Dw:SndR2 K (Gj K) dNeD:=λH v u e l w Q o U ⟨f,Z,A⟩ q=>⟨e,l,o,U,f,Z,q _ _ (.bl _) A⟩
noncomputable def Gx:PyData->PyData->Option Bool
 |.int i,.int j=>some (decide (i=j))
 |.str i,.str j=>some (decide (i=j))
 |.none,.none=>some true
 |.int _,.str _=>some false|.str _,.int _=>some false|.none,.int _=>some false|.int _,.none=>some false|.none,.str _=>some false|.str _,.none=>some false
 |_,_=>none
def memD(x:PyData):List PyData->Option Bool
 |[]=>some false
 |y::ys=>(Gx y x).bind λk=>(memD x ys).map (k||·)
def FK:PyData->Bool
 |.int _=>true
 |.str _=>true
 |.none=>true
 |_=>false
def LR(M:Bool):DR2:=λx y Q=>∃D k,(y=.list D\/y=.tuple D)/\FK x=true/\memD x D=some k/\Q (.bool (if M then !k else k))
theorem zl{x y:PyData}(o:Dt K H v x)(Q:Dt K H w y)(e:Gx y x=some k):cF w=true/\eqV w v=k:=by cases o<;>cases Q<;>cases e<;>exact⟨rfl,rfl⟩
theorem Dx{x:PyData}(o:Dt K H v x)(F:FK x=true):cF v=true:=by cases o<;>first|rfl|cases F
theorem qm{x:PyData}(o:Dt K H v x)(F:FK x=true)(h:DtAll K H vs ds)(e:memD x ds=some k):cF v=true/\vs.all cF=true/\inV v vs=k:=by
 induction ds generalizing vs k with
 |nil=>cases h;cases e;exact⟨Dx o F,rfl,rfl⟩
 |cons d ds Y=>
  cases h with
  |@cons w _ vs _ r t=>
   obtain⟨f,J,e⟩:=aaF.mp e;obtain⟨z,B,rfl⟩:=aaJ.mp e;obtain⟨O,Z,M⟩:=Y t B;obtain⟨I,A⟩:=zl o r J;refine⟨O,?_,?_⟩
   ·show (cF w&&vs.all cF)=true;rw[I,Z];rfl
   ·show (eqV w v||inV v vs)=_;rw[A,M]
theorem Bw:SndR2 K (JC K neg) (LR neg):=by
 rintro H v u e l w Q o U ⟨D,k,m,F,Y,A⟩ q;rcases m with rfl|rfl
 ·cases U with
  |lst h t=>obtain⟨O,Z,M⟩:=qm o F t Y;exact⟨_,_,rfl,.inl h,O,Z,by rw[M];exact q _ _ (.bl _) A⟩
 ·cases U with
  |tup h t=>obtain⟨O,Z,M⟩:=qm o F t Y;exact⟨_,_,rfl,.inr h,O,Z,by rw[M];exact q _ _ (.bl _) A⟩
def oB(r f:DR2)(da n C:DE):DE:=λI Q=>da I λx A=>n A λy o=>∃e l,az o x=some e/\az o y=some l/\r e l λz=>∃k,z=.bool k /\
 if k=true then C o λw H=>∃l X,az H y=some l/\az H w=some X/\f l X λd=>Q (.val (.fz d)) H else Q (.val (.fz (.bool false))) o
theorem j4(D:SndR2 K r2 r)(m:SndR2 K r2' r')(j:bI K ta da)(c:bI K tb db)(U:bI K tc dc):bI K (nY r2 r2' ta tb tc) (oB r r' da db dc):=by
 intro b F L H Y i S Qd Q T R h q;refine j b F L H Y i S _ _ T R h λv P x A M O=>c b F L P A _ _ _ _ T M O λu N y o t Z=>?_;obtain⟨e,l,e1,B,h3⟩:=Z;refine D N v u e l _ _ (T▸t.dt2 e1) (T▸t.dt B) h3 λw d C W=>?_;obtain⟨k,rfl,W⟩:=W;cases C;refine⟨k,rfl,?_⟩;cases k with
 |false=>rw[if_neg aaq]at W ⊢;exact q _ N _ _ (t.drop.drop.sc (.bl _)) W
 |true=>rw[if_pos rfl]at W ⊢;refine U b F L N o _ _ _ _ T t W λw a z p I g=>?_;obtain⟨f,X,s,n,J⟩:=g;exact m a u w f X _ _ (T▸I.dt2 s) (T▸I.dt n) J λw d C W=>q w a _ _ (I.drop.drop.drop.sc C) W
theorem vN(j:OpR X (compareOp op) r2)(D:SndR2 X.K r2 r)(T:OpR X (compareOp op') r2')(d:SndR2 X.K r2' r')(Y:lastMarks [op,op'] [b,c]=false:=by with_unfolding_all rfl):
  PDe X a da->PDe X b db->PDe X c dc->PDe X (.Compare a [op,op'] [b,c] pos) (oB r r' da db dc)
 |⟨_,h1,s1⟩,⟨_,h2,s2⟩,⟨_,h3,s3⟩=>⟨_,uU j T h1 h2 h3 Y,j4 D d s1 s2 s3⟩
def isNn:PyData->Bool|.none=>true|_=>false
def tw(M:Bool)(a:DE):DE:=λI Q=>a I λx A=>∃d,az A x=some d/\Q (.val (.fz (.bool (if M then !isNn d else isNn d)))) A
theorem iq(h:Dt K H v d):decide (v=.non)=isNn d:=by cases h<;>simp[isNn]
theorem Dy{j Z}:PDe X a da->PDe X (.Compare a [.Is] [.Constant .none j Z] pos) (tw false da)
 |⟨_,O,s1⟩=>⟨_,kz (uJ O),λb F σ H ρ τ θ w Q T R h q=>s1 b F σ H ρ τ θ _ _ T R h λv P x ρ1 M ⟨d,e,O⟩=>by
  rw[iq (M.dt e)];exact q _ P _ _ (M.drop.sc (.bl _)) O⟩
theorem zm{j Z}:PDe X a da->PDe X (.Compare a [.IsNot] [.Constant .none j Z] pos) (tw true da)
 |⟨_,O,s1⟩=>⟨_,kz (pU O),λb F σ H ρ τ θ w Q T R h q=>s1 b F σ H ρ τ θ _ _ T R h λv P x ρ1 M ⟨d,e,O⟩=>by
  rw[iq (M.dt e)];exact q _ P _ _ (M.drop.sc (.bl _)) O⟩
def LS(r:DR1)(a:DE):DE:=λI Q=>a I λx A=>∃d,az A x=some d/\r d λz=>Q (.val (.fz z)) A
def JS:DR1:=λx Q=>∃i,x=.int i/\Q (.int (-i))
theorem Dz:PDe X a da->PDe X (.UnaryOp .USub a pos) (LS JS da)
 |⟨_,O,s1⟩=>⟨_,Bi uR O,λb F σ H ρ τ θ w Q T R h q=>s1 b F σ H ρ τ θ _ _ T R h λv P x ρ1 M ⟨d,e,i,B,O⟩=>by
  subst B;cases M.dt e;exact⟨i,rfl,q _ P _ _ (M.drop.sc (.int _)) O⟩⟩
def Gy(a b:DE):DE:=λI Q=>a I λx A=>∃k,az A x=some (.bool k)/\if k=true then b A Q else Q (.val (.fz (.bool false))) A
def JT(a b:DE):DE:=λI Q=>a I λx A=>∃k,az A x=some (.bool k)/\if k=true then Q (.val (.fz (.bool true))) A else b A Q
def Gz(a:DE):DE:=λI Q=>a I λx A=>∃k,az A x=some (.bool k)/\Q (.val (.fz (.bool (!k)))) A
theorem vO{F}:PDe X a da->PDe X (.BoolOp F [a] pos) da
 |⟨_,h1,s1⟩=>⟨_,Cp h1,s1⟩
theorem DB:PDe X a da->PDe X (.BoolOp .And (b::es) pos) db->PDe X (.BoolOp .And (a::b::es) pos) (Gy da db)
 |⟨_,O,s1⟩,⟨_,h2,s2⟩=>⟨_,Cq O h2,λb F σ H ρ τ θ w Q T R h q=>s1 b F σ H ρ τ θ _ _ T R h λv P x ρ1 M ⟨k,e,O⟩=>by
  cases M.dt e;refine⟨k,rfl,?_⟩;cases k with
  |false=>rw[if_neg aaq]at O ⊢;exact q _ P _ _ (M.drop.sc (.bl _)) O
  |true=>rw[if_pos rfl]at O ⊢;exact s2 b F σ P ρ1 τ θ _ _ T M.drop O q⟩
theorem GA:PDe X a da->PDe X (.BoolOp .Or (b::es) pos) db->PDe X (.BoolOp .Or (a::b::es) pos) (JT da db)
 |⟨_,O,s1⟩,⟨_,h2,s2⟩=>⟨_,FZ O h2,λb F σ H ρ τ θ w Q T R h q=>s1 b F σ H ρ τ θ _ _ T R h λv P x ρ1 M ⟨k,e,O⟩=>by
  cases M.dt e;refine⟨k,rfl,?_⟩;cases k with
  |true=>rw[if_pos rfl]at O ⊢;exact q _ P _ _ (M.drop.sc (.bl _)) O
  |false=>rw[if_neg aaq]at O ⊢;exact s2 b F σ P ρ1 τ θ _ _ T M.drop O q⟩
theorem DD:PDe X a da->PDe X (.UnaryOp .Not a pos) (Gz da)
 |⟨_,O,s1⟩=>⟨_,Cr O,λb F σ H ρ τ θ w Q T R h q=>s1 b F σ H ρ τ θ _ _ T R h λv P x ρ1 M ⟨k,e,O⟩=>by
  cases M.dt e;exact⟨k,rfl,q _ P _ _ (M.drop.sc (.bl _)) O⟩⟩
def gT(a:DE):DT:=λI Q=>a I λx A=>∃k,az A x=some (.bool k)/\Q k A
theorem iR(f:bI K ta da):SndT K (uT ta) (gT da):=λb F L H I i S w Q T R h q=>f b F L H I i S _ _ T R h λv P x A M ⟨k,e,O⟩=>by cases M.dt e;exact⟨k,rfl,q _ P _ M.drop O⟩
theorem oC(f:bI K ta da):SndT K (tB ta) (gT da):=λb F L H I i S w Q T R h q=>f b F L H I i S _ _ T R h λv P x A M ⟨k,e,O⟩=>by cases M.dt e;exact⟨k,rfl,q _ P _ M.drop O⟩
theorem zo(j:OpR X (compareOp op) r2)(D:SndR2 X.K r2 r)(Y:behindInMarks op b=false):PDe X a da->PDe X b db->PDt X (.Compare a [op] [b] pos) (gT (zi r da db))
 |⟨_,h1,s1⟩,⟨_,h2,s2⟩=>⟨_,qa j h1 h2 Y,iR (oA D s1 s2)⟩
theorem tx(j:OpR X (compareOp op) r2)(D:SndR2 X.K r2 r)(T:OpR X (compareOp op') r2')(d:SndR2 X.K r2' r')(Y:lastMarks [op,op'] [b,c]=false:=by with_unfolding_all rfl):
  PDe X a da->PDe X b db->PDe X c dc->PDt X (.Compare a [op,op'] [b,c] pos) (gT (oB r r' da db dc))
 |⟨_,h1,s1⟩,⟨_,h2,s2⟩,⟨_,h3,s3⟩=>⟨_,uV j T h1 h2 h3 Y,iR (j4 D d s1 s2 s3)⟩
theorem zp{j Z}:PDe X a da->PDt X (.Compare a [.Is] [.Constant .none j Z] pos) (gT (tw false da))
 |⟨_,O,s1⟩=>⟨_,kA (uJ O),oC (λb F σ H ρ τ θ w Q T R h q=>s1 b F σ H ρ τ θ _ _ T R h λv P x ρ1 M ⟨d,e,O⟩=>by
  rw[iq (M.dt e)];exact q _ P _ _ (M.drop.sc (.bl _)) O)⟩
theorem vP{j Z}:PDe X a da->PDt X (.Compare a [.IsNot] [.Constant .none j Z] pos) (gT (tw true da))
 |⟨_,O,s1⟩=>⟨_,kA (pU O),oC (λb F σ H ρ τ θ w Q T R h q=>s1 b F σ H ρ τ θ _ _ T R h λv P x ρ1 M ⟨d,e,O⟩=>by
  rw[iq (M.dt e)];exact q _ P _ _ (M.drop.sc (.bl _)) O)⟩
def GB(t u:DT):DT:=λI Q=>t I λc A=>if c=true then u A Q else Q false A
def JU(t u:DT):DT:=λI Q=>t I λc A=>if c=true then Q true A else u A Q
def GC(t:DT):DT:=λI Q=>t I λc A=>Q (!c) A
theorem PDw.pt:PDw X e dt->PDt X e dt
 |⟨_,h,s⟩=>⟨_,h.pt,s⟩
theorem vQ:PDt X a dt->PDw X (.BoolOp .And [a] pos) dt
 |⟨_,h,s⟩=>⟨_,yM h,s⟩
theorem zq:PDt X a dt->PDw X (.BoolOp .Or [a] pos) dt
 |⟨_,h,s⟩=>⟨_,Cj h,s⟩
theorem zt:PDt X a dt->PDw X (.BoolOp .And (b::es) pos) du->PDw X (.BoolOp .And (a::b::es) pos) (GB dt du)
 |⟨_,O,s1⟩,⟨_,h2,s2⟩=>⟨_,Cm O h2,λb F σ H ρ τ θ w Q T R h q=>s1 b F σ H ρ τ θ _ _ T R h λk P ρ1 M O=>by
  cases k with
  |false=>grind
  |true=>rw[if_pos rfl]at O ⊢;exact s2 b F σ P ρ1 τ θ _ _ T M O q⟩
theorem DF:PDt X a dt->PDw X (.BoolOp .Or (b::es) pos) du->PDw X (.BoolOp .Or (a::b::es) pos) (JU dt du)
 |⟨_,O,s1⟩,⟨_,h2,s2⟩=>⟨_,FW O h2,λb F σ H ρ τ θ w Q T R h q=>s1 b F σ H ρ τ θ _ _ T R h λk P ρ1 M O=>by
  cases k with
  |true=>grind
  |false=>rw[if_neg aaq]at O ⊢;exact s2 b F σ P ρ1 τ θ _ _ T M O q⟩
theorem zu:PDt X a dt->PDt X (.UnaryOp .Not a pos) (GC dt)
 |⟨_,h,s⟩=>⟨_,Cn h,λb F σ H ρ τ θ w Q T R h q=>s b F σ H ρ τ θ _ _ T R h λk P ρ1 M O=>q _ P _ M O⟩
def LU(t:DT)(a b:DE):DE:=λI Q=>t I λc A=>if c=true then a A Q else b A Q
theorem GD:PDt X c dt->PDe X a da->PDe X b db->PDe X (.IfExp c a b pos) (LU dt da db)
 |⟨_,h,s⟩,⟨_,O,s1⟩,⟨_,h2,s2⟩=>⟨_,uK h O h2,λb F σ H ρ τ θ w Q T R h q=>s b F σ H ρ τ θ _ _ T R h λk P ρ1 M O=>by
  cases k with
  |true=>rw[if_pos rfl]at O ⊢;exact s1 b F σ P ρ1 τ θ _ _ T M O q
  |false=>rw[if_neg aaq]at O ⊢;exact s2 b F σ P ρ1 τ θ _ _ T M O q⟩
theorem DtAll.emp(h:DtAll K H xs ds):xs.isEmpty=ds.isEmpty:=by cases h<;>rfl
end
end
section
def dNil:DA:=λI Q=>Q [] I
def GE(a:DE)(t:DA):DA:=λI Q=>a I λx A=>t A λY o=>Q (x::Y) o
theorem pda_nil:PDa X [] dNil:=⟨_,cg,λb F L H I i S w Q T R h q=>q [] H [] I rfl R h⟩
theorem vR(g:starEach (e::es) X.env=(false,eval e X.env)::starEach es X.env:=by rfl):PDe X e da->PDa X es dt->PDa X (e::es) (GE da dt)
 |⟨_,O,s1⟩,⟨_,Z,s2⟩=>⟨_,aZ O Z g,λb F L H I i S w Q T R h q=>s1 b F L H I i S _ _ T R h λv P r A M O=>s2 b F L P A _ _ _ _ T M O λc N U o u t Z=>
  q (v::c) N (r::U) o (by simp[u]) (Rel.zv t u) Z⟩
def own1(ρ:DEnv):OR->Option (OD×DEnv)
 |.val x=>some (x,ρ)
 |.rf i=>(frz1 ρ (.rf i)).map λz=>(.fz z.1,z.2)
def mv1(ρ:DEnv):OR->Option (OD×DEnv)
 |.val x=>some (x,ρ)
 |.rf i=>(ρ[i]?.join).map λx=>(x,ρ.set i none)
noncomputable def mapR(f:DEnv->OR->Option (OD×DEnv))(ρ:DEnv):List OR->Option (List OD×DEnv)
 |[]=>some ([],ρ)
 |r::rs=>(f ρ r).bind λz=>(mapR f z.2 rs).map λy=>(z.1::y.1,y.2)
noncomputable def tz:List OD->Option (List PyData)
 |[]=>some []
 |.fz d::xs=>match tz xs with|some ds=>some (d::ds)|none=>none
 |_::_=>none
def mkTup(xs:List OD):OD:=match tz xs with
 |some D=>.fz (.tuple D)
 |none=>.tup xs
theorem Rel.own1(R:Rel b F σ H ρ (v::τ) (r::θ))(e:own1 ρ r=some (x,ρ')):Rel b F σ H ρ' (v::τ) (.val x::θ):=by
 cases r with
 |val x=>simp only[L2.own1]at e;cases e;exact R
 |rf i=>simp only[L2.own1,aaJ]at e;obtain⟨⟨d,A⟩,J,B⟩:=e;cases B;exact R.frz1 J
theorem Rel.mv1(R:Rel b F σ H ρ (v::τ) (r::θ))(e:mv1 ρ r=some (x,ρ')):Rel b F σ H ρ' (v::τ) (.val x::θ):=by
 cases r with
 |val x=>simp only[L2.mv1]at e;grind
 |rf i=>
  simp only[L2.mv1,aaJ]at e;obtain⟨x,J,B⟩:=e;cases B;obtain⟨u,O,w⟩:=R.drop.slot (join_some J);have:v=u:=by have:=R.al.1;grind
  subst this;exact⟨R.wf.off,R.drop.al,R.wff,w⟩
theorem fO{f:DEnv->OR->Option (OD×DEnv)}(y:∀{ρ p:DEnv}{τ:List V}{θ:List OR}{v:V}{r:OR}{x:OD},Rel b F σ H ρ (v::τ) (r::θ)->f ρ r=some (x,p)->Rel b F σ H p (v::τ) (.val x::θ)):
  ∀{vs:List V}{rs:List OR}{ρ p:DEnv}{xs:List OD}{τ:List V}{θ:List OR},Rel b F σ H ρ (vs++τ) (rs++θ)->vs.length=rs.length->mapR f ρ rs=some (xs,p)->Rel b F σ H p (vs++τ) (xs.map OR.val++θ)/\vs.length=xs.length
 |[],[],_,_,_,_,_,R,_,e=>by simp only[mapR]at e;grind
 |v::vs,r::rs,ρ,p,ds,τ,θ,R,e,h=>by
  simp only[mapR,aaF,aaJ]at h;obtain⟨⟨d,ρ1⟩,O,⟨D,ρ2⟩,Z,Q⟩:=h;cases Q;have M:=y R O;have L:vs.length=rs.length:=by grind
  obtain⟨t,B⟩:=fO y (Rel.zb (vs:=vs) (rs:=rs) M L) L Z;exact⟨Rel.zv t (by grind),by grind⟩
 |[],_::_,_,_,_,_,_,_,e,_=>by grind
 |_::_,[],_,_,_,_,_,_,e,_=>by grind
theorem ck:∀{vs:List V}{xs:List OD},vs.length=xs.length->stk vs (xs.map OR.val)=vs.zip xs
 |[],[],_=>rfl
 |_::_,_::_,e=>by simp only[aal,stk,abr];rw[ck (by grind)]
 |[],_::_,e=>by rfl
 |_::_,[],e=>by rfl
theorem Rel.vals{xs:List OD}(R:Rel b F σ H ρ (vs++τ) (xs.map OR.val++θ))(e:vs.length=xs.length):Wd b H (vs.zip xs++(stk τ θ++(flat σ ρ++ff F))):=by have w:=R.wd;rw[aH (by grind),ck e,aab]at w;exact w
theorem Rel.push(R:Rel b F σ H ρ τ θ)(w:Wd b H' ((v,x)::(stk τ θ++(flat σ ρ++ff F)))):Rel b F σ H' ρ (v::τ) (.val x::θ):=⟨R.wf,R.al,R.wff,w⟩
theorem Wd.below{z:V×OD}{L1 L2:List (V×OD)}(w:Wd b H (z::(L1++L2))):Wd b H (z::L2):=Wd.drops (L1:=L1) (w.perm (aav.symm))
theorem fzL_map{xs:List OD}{ds:List PyData}(e:tz xs=some ds):xs=ds.map OD.fz:=by
 induction xs generalizing ds with
 |nil=>cases e;rfl
 |cons x xs Y=>
  cases x with
  |fz d=>
   rw[tz]at e
   grind
  |_=>cases e
theorem oE:∀(ds:List PyData),tz (ds.map OD.fz)=some ds
 |[]=>rfl
 |d::ds=>by simp only[aal,tz,oE ds]
theorem dats_fz:∀(ds:List PyData),OD.dv (ds.map OD.fz)=some ds
 |[]=>rfl
 |d::ds=>by simp only[aal,OD.dv,OD.dat,dats_fz ds]
theorem mq{xs:List OD}(w:Wd b H (vs.zip xs++L))(u:vs.length=xs.length)(C:H p=none):Wd b (upd H p (.tup vs)) ((.ref p,mkTup xs)::L):=by
 unfold mkTup;cases h:tz xs with
 |some D=>have F:=fzL_map h;subst F;refine Wd.below (L1:=vs.zip (D.map OD.fz)) (w.h9 (λS g=>g.all (by simpa using u) λz d=>aaf _ d) C)
 |none=>exact w.newTupC u C
def JV(f:DEnv->OR->Option (OD×DEnv))(t:DA):DE:=λI Q=>t I λU A=>∃Y o,mapR f A U=some (Y,o)/\U.length<=1000000/\Q (.val (mkTup Y)) o
def JW(f:DEnv->OR->Option (OD×DEnv))(t:DA):DE:=λI Q=>t I λU A=>∃Y o,mapR f A U=some (Y,o)/\U.length<=1000000/\Q (.val (.lst Y)) o
structure Hand (f:DEnv->OR->Option (OD×DEnv)):Prop where
 ok:∀{b:Bs}{F:List Fr}{σ:St}{H:Hp}{ρ ρ':DEnv}{τ:List V}{θ:List OR}{v:V}{r:OR}{x:OD},Rel b F σ H ρ (v::τ) (r::θ)->f ρ r=some (x,ρ')->Rel b F σ H ρ' (v::τ) (.val x::θ)
theorem GF:Hand own1:=⟨Rel.own1⟩
theorem DH{v}(y:Hand f):PDa X es dt->PDe X (.Tuple es v pos) (JV f dt)
 |⟨_,O,s1⟩=>⟨_,n9 O,λb F σ H ρ τ θ w Q T R h q=>s1 b F σ H ρ τ θ _ _ T R h λvs P rs ρ1 u M ⟨xs,ρ2,J,s,O⟩=>⟨ow (by rw[u];exact s),λp C=>by
  obtain⟨t,n⟩:=fO y.ok M u J;exact q _ _ _ _ ((t.drops (by rw[aae];exact n)).push (mq (t.vals n) n C)) O⟩⟩
theorem DJ(y:Hand f):PDa X es dt->PDe X (.List es pos) (JW f dt)
 |⟨_,O,s1⟩=>⟨_,CZ O,λb F σ H ρ τ θ w Q T R h q=>s1 b F σ H ρ τ θ _ _ T R h λvs P rs ρ1 u M ⟨xs,ρ2,J,s,O⟩=>⟨ow (by grind),λp C=>by
  obtain⟨t,n⟩:=fO y.ok M u J;exact q _ _ _ _ ((t.drops (by grind)).push ((t.vals n).eg n C)) O⟩⟩
def dM(ρ:DEnv):OR->Option OD
 |.val x=>some x
 |.rf i=>ρ[i]?.join
def listOf:OD->Option (List PyData)
 |.fz (.list ds)=>some ds
 |.lst xs=>tz xs
 |_=>none
def vS:OD->Option (List PyData)
 |.fz (.tuple ds)=>some ds
 |_=>none
def By(ρ:DEnv)(r:OR):Option (List PyData):=(dM ρ r).bind listOf
def itemO:OD->Int->Option OD
 |.fz (.list ds),i=>match atI ds i with|some d=>some (.fz d)|none=>none
 |.fz (.tuple ds),i=>match atI ds i with|some d=>some (.fz d)|none=>none
 |.lst xs,i=>atI xs i
 |.tup xs,i=>atI xs i
 |_,_=>none
def itemS:OD->Int->Option (PyData×OD)
 |.lst xs,i=>match ixN xs.length i with
  |some k=>match xs[k]? with
   |some c=>match c.dat with|some d=>some (d,.lst (xs.set k (.fz d)))|none=>none
   |none=>none
  |none=>none
 |.tup xs,i=>match ixN xs.length i with
  |some k=>match xs[k]? with
   |some c=>match c.dat with|some d=>some (d,.tup (xs.set k (.fz d)))|none=>none
   |none=>none
  |none=>none
 |_,_=>none
def bE(ρ:DEnv)(r:OR)(i:Int):Option (OD×DEnv):=match r with
 |.val x=>match itemO x i with|some y=>some (y,ρ)|none=>none
 |.rf j=>match ρ[j]?.join with
  |some x=>match itemS x i with|some (d,y)=>some (.fz d,ρ.set j (some y))|none=>none
  |none=>none
theorem iS{Y C:Type}{xs:List Y}{ys:List C}{i:Int}{y:C}(u:xs.length=ys.length)(h:atI ys i=some y):∃k x,ixN xs.length i=some k/\ys[k]?=some y/\xs[k]?=some x/\atI xs i=some x:=by unfold atI at h ⊢;rw[<-u]at h;simp only[aaF]at h;obtain⟨k,J,B⟩:=h;have T:=(aah.mp B).1;simp_all
theorem cZ{Y C:Type}{xs:List Y}{ys:List C}{k:Nat}{x:Y}{y:C}(J:xs[k]?=some x)(B:ys[k]?=some y):(x,y)∈xs.zip ys:=by rw[List.mem_iff_getElem?];exact⟨k,by rw[abt];exact⟨J,B⟩⟩
theorem Wd.pick{z:V×OD}{Z:List (V×OD)}(w:Wd b H (Z++L))(m:z∈Z):Wd b H (z::L):=by obtain⟨B,A,rfl⟩:=abu m;refine Wd.below (L1:=B++A) (w.perm ?_);simp
theorem DL{n k:Nat}{i:Int}(h:ixN n i=some k):k<n:=by
 unfold ixN at h
 grind
theorem Wd.rz{k:Nat}{z:OD}(w:Wd b H ((v,x)::L))(e:x.kids[k]?=some z):∃u,Chd b H v x k u z/\Wd b H ((u,z)::L):=by
 obtain⟨q,P,_,_⟩:=w.out;cases P with
 |cons r t=>obtain⟨u,B,m,c,_⟩:=r.kid e;refine⟨u,c,Wd.puts (L1:=[(v,x)]) (L2:=[(u,z)]) w λS A h Q F s I=>?_⟩;obtain⟨o,B,m,M,C,a,_⟩:=(OwL.one h).kid e;have O:=(Chd.det M c).1;subst O;have D:∀c∈B,c∈A:=λc U=>a.mem_iff.mpr (aaf _ U);exact⟨B,OwL.of1 (Ow.sub I (λc z=>z.elim (·.1) λz=>F c (D c z)) C),(aau.mp (a.nodup_iff.mp Q)).1,D⟩
theorem Fz.at{K:Waa}{S:Addr->Prop}{vs:List V}{ds:List PyData}{k:Nat}{v:V}{d:PyData}(h:FzA K S H vs ds)(e:vs[k]?=some v)(L:ds[k]?=some d):Fz K S H v d:=by
 obtain⟨u,O,Z⟩:=h.get L
 grind
theorem Wd.itemF{i:Int}{l:Bool}(w:Wd b H ((v,.fz (if l then .list ds else .tuple ds))::L))(e:atI ds i=some d):∃p vs u,v=.ref p/\(SqL b.K H p vs\/SqT b.K H p vs)/\atI vs i=some u/\Wd b H ((u,.fz d)::L):=by
 obtain⟨Y,X⟩:=Wd.pin w rfl;obtain⟨a,rfl,S,h,J⟩:=X.pinned aai;obtain⟨k,u,_,B,s,n⟩:=iS S e;refine⟨a,Y,u,rfl,?_,n,Wd.below (L1:=[(V.ref a,OD.pin l Y ds)]) (J.pick (cZ s (by rw[aaz,B];rfl)))⟩;cases l with
 |true=>exact .inl h
 |false=>exact .inr h
theorem Wd.itemO{i:Int}(w:Wd b H ((v,x)::L))(e:itemO x i=some y):∃p vs u,v=.ref p/\(SqL b.K H p vs\/SqT b.K H p vs)/\atI vs i=some u/\Wd b H ((u,y)::L):=by
 cases x with
 |fz d=>
  cases d with
  |list D=>
   simp only[L2.itemO]at e;cases h:atI D i with
   |none=>rw[h]at e;cases e
   |some d=>rw[h]at e;cases e;exact Wd.itemF (l:=true) w h
  |tuple D=>
   simp only[L2.itemO]at e;cases h:atI D i with
   |none=>rw[h]at e;cases e
   |some d=>rw[h]at e;cases e;exact Wd.itemF (l:=false) w h
  |_=>simp[L2.itemO]at e
 |lst xs=>
  simp only[L2.itemO]at e;obtain⟨k,_,J,B,_⟩:=iS (xs:=xs) rfl e;obtain⟨u,c,X⟩:=w.rz (k:=k) (z:=y) B;cases c with
  |lst r W g Z=>exact⟨_,_,u,rfl,.inl (SqL.of r),by unfold atI;rw[W,J];exact g,X⟩
 |tup xs=>
  simp only[L2.itemO]at e;obtain⟨k,_,J,B,_⟩:=iS (xs:=xs) rfl e;obtain⟨u,c,X⟩:=w.rz (k:=k) (z:=y) B;cases c with
  |tup r W g Z=>exact⟨_,_,u,rfl,.inr (SqT.of r),by unfold atI;rw[W,J];exact g,X⟩
 |dic _ _=>simp[L2.itemO]at e
 |obj _ _ _=>simp[L2.itemO]at e
 |pin _ _ _=>simp[L2.itemO]at e
 |hole _=>simp[L2.itemO]at e
 |st _=>simp[L2.itemO]at e
theorem Wd.itemS{i:Int}(w:Wd b H ((v,x)::L))(e:itemS x i=some (d,y)):∃p vs u,v=.ref p/\(SqL b.K H p vs\/SqT b.K H p vs)/\atI vs i=some u/\Wd b H ((u,.fz d)::(v,y)::L):=by
 cases x with
 |fz d=>trivial
 |lst Y=>
  simp only[L2.itemS]at e;split at e
  ·rename_i k J;split at e
   ·rename_i c B;split at e
    ·rename_i T s;cases e;obtain⟨u,N,X⟩:=w.wj (ks:=[k]) (y:=c) (d:=d) (by simp[OD.at,OD.kids,B]) s;cases N with
     |cons l q=>
      cases q;cases l with
      |lst r W g Z=>simp only[OD.put,OD.kids,B,OD.ea]at X;exact⟨_,_,u,rfl,.inl (SqL.of r),by unfold atI;grind,X⟩
    ·cases e
   ·cases e
  ·cases e
 |tup Y=>
  simp only[L2.itemS]at e;split at e
  ·rename_i k J;split at e
   ·rename_i c B;split at e
    ·rename_i T s;cases e;obtain⟨u,N,X⟩:=w.wj (ks:=[k]) (y:=c) (d:=d) (by simp[OD.at,OD.kids,B]) s;cases N with
     |cons l q=>
      cases q;cases l with
      |tup r W g Z=>simp only[OD.put,OD.kids,B,OD.ea]at X;exact⟨_,_,u,rfl,.inr (SqT.of r),by unfold atI;grind,X⟩
    ·cases e
   ·cases e
  ·cases e
 |dic _ _=>trivial
 |obj _ _ _=>trivial
 |pin _ _ _=>trivial
 |hole _=>trivial
 |st _=>trivial
section
variable{K:Waa}
def LV(a b:DE):DE:=λI Q=>a I λx A=>b A λy o=>∃i z H,az o y=some (.int i)/\bE o x i=some (z,H)/\Q (.val z) H
theorem GG(g:PlainIx b):PDe X a da->PDe X b db->PDe X (.Subscript a b pos) (LV da db)
 |⟨_,O,s1⟩,⟨_,Z,s2⟩=>⟨_,vc og O Z g,λb F σ H ρ τ θ m Q T R h q=>s1 b F σ H ρ τ θ _ _ T R h λv P x ρ1 M O=>s2 b F σ P ρ1 _ _ _ _ T M O λu N y ρ2 t ⟨i,z,ρ3,J,B,Z⟩=>by
  have U:=t.dt J;cases U;have I:=t.drop;cases x with
  |val x=>
   simp only[bE]at B;cases s:itemO x i with
   |none=>grind
   |some W=>rw[s]at B;cases B;obtain⟨p,c,u,rfl,g,r,w⟩:=Wd.itemO I.wd s;have D:=q u N _ _ (I.drop.push w) Z;rw[T]at g;exact g.elim (λg=>.inl ⟨p,c,i,u,rfl,rfl,g,r,D⟩) λg=>.inr (.inl ⟨p,c,i,u,rfl,rfl,g,r,D⟩)
  |rf j=>
   simp only[bE]at B;cases s:ρ2[j]?.join with
   |none=>grind
   |some x=>
    rw[s]at B;simp only at B;cases n:itemS x i with
    |none=>grind
    |some W=>
     obtain⟨d,A⟩:=W;rw[n]at B;cases B;obtain⟨L,f,w⟩:=I.drop.slot (join_some s);have:v=L:=by have:=I.al.1;grind
     subst this;obtain⟨p,c,u,rfl,g,r,k⟩:=Wd.itemS w n;have C:=Rel.back (τ:=u::τ) (θ:=.val (.fz d)::θ) I.wf I.drop.al I.wff f (k.perm (List.Perm.swap _ _ _));have D:=q u N _ _ C Z;rw[T]at g;exact g.elim (λg=>.inl ⟨p,c,i,u,rfl,rfl,g,r,D⟩) λg=>.inr (.inl ⟨p,c,i,u,rfl,rfl,g,r,D⟩)⟩
variable{k:Nat}
def fe(ρ:DEnv):List OR->Option (List PyData)
 |[]=>some []
 |r::rs=>(az ρ r).bind λd=>(fe ρ rs).map (d::·)
theorem Rel.dtL{b:Bs}{F:List Fr}{σ:St}{H:Hp}{ρ:DEnv}:∀{vs:List V}{rs:List OR}{τ:List V}{θ:List OR}{ds:List PyData},Rel b F σ H ρ (vs++τ) (rs++θ)->vs.length=rs.length->fe ρ rs=some ds->DtAll b.K H vs ds
 |[],[],_,_,_,_,_,e=>by simp only[fe]at e;cases e;exact .nil
 |v::vs,r::rs,τ,θ,ds,R,el,e=>by simp only[fe,aaF,aaJ]at e;obtain⟨d,J,D,B,rfl⟩:=e;exact .cons (Rel.dt R J) (Rel.dtL (Rel.drop R) (by grind) B)
 |[],_::_,_,_,_,_,e,_=>by grind
 |_::_,[],_,_,_,_,e,_=>by grind
def SndCB(K:Waa)(p:List V->Hp->VK->Prop)(r:DRn):Prop:=∀(H:Hp) (vs:List V) (D:List PyData) (Qd:PyData->Prop) (Q:VK),DtAll K H vs D->r D Qd->(∀w d,Sc w d->Qd d->Q w H)->p vs H Q
def IR(r:DRn)(t:DA):DE:=λI Q=>t I λU A=>∃D,fe A U=some D/\r D λd=>Q (.val (.fz d)) A
theorem vT{p:List V->Hp->VK->Prop}{r:DRn}{Z:TA}(N:SndCB K p r)(f:vJ K Z dt):bI K (JB p Z) (IR r dt):=λb F L H I i S z Q T R h q=>f b F L H I i S _ _ T R h λc P U A u M ⟨D,J,O⟩=>
 N P c D _ _ (T▸M.dtL u J) O λw d C W=>q w P _ _ ((M.drops u).sc C) W
theorem dX{g:List V->Hp->VK->Prop}{r:DRn}{d:String} (U:CallR X (.builtin d) g) (D:SndCB X.K g r) (N:Gl X x) (Y:X.mg x=none) (o:bootBuiltins x=some (.builtin d)) (l:x≠"__name__":=by decide) (Z:(x==("__debug__":Str))=false:=by decide)
  (n:starEach (e::es) X.env=(false,eval e X.env)::starEach es X.env:=by rfl) (z:(backTo pos (starEach es X.env)).any (·.1)=false:=by rfl):PDa X (e::es) dt->PDe X (.Call (.Name x p) (e::es) [] pos) (IR r dt)
 |⟨_,h1,s1⟩=>⟨_,dR U N Y o h1 l Z n z,vT D s1⟩
theorem vU{g:List V->Hp->VK->Prop}{r:DRn}{d:String} (U:CallR X (.type d) g) (D:SndCB X.K g r) (N:Gl X x) (Y:X.mg x=none) (o:bootBuiltins x=some (.type d)) (l:x≠"__name__":=by decide) (Z:(x==("__debug__":Str))=false:=by decide)
  (n:starEach (e::es) X.env=(false,eval e X.env)::starEach es X.env:=by rfl) (z:(backTo pos (starEach es X.env)).any (·.1)=false:=by rfl):PDa X (e::es) dt->PDe X (.Call (.Name x p) (e::es) [] pos) (IR r dt)
 |⟨_,h1,s1⟩=>⟨_,gu U N Y o h1 l Z n z,vT D s1⟩
noncomputable def jP:PyData->Option Nat
 |.list ds=>some ds.length
 |.tuple ds=>some ds.length
 |_=>none
def dLen:DRn:=λD Q=>∃d n,D=[d]/\jP d=some n/\Q (.int n)
theorem sc_len:SndCB K (λxs H Q=>∃x n,xs=[x]/\Gb K x H n/\Q (.int n) H) dLen:=by
 rintro H c D w Q o ⟨d,n,rfl,e,A⟩ q;cases o with
 |cons h t=>
  cases t;refine⟨_,n,rfl,?_,q _ _ (.int _) A⟩;cases h with
  |lst s t=>simp only[jP]at e;cases e;exact .inl ⟨_,s,t.length.symm⟩
  |tup s t=>simp only[jP]at e;cases e;exact .inr ⟨_,s,t.length.symm⟩
  |_=>trivial
def dAbs:DRn:=λD Q=>∃i,D=[.int i]/\Q (.int (if i<0 then -i else i))
theorem sc_abs:SndCB K (λxs H Q=>∃i,xs=[.int i]/\Q (.int (if i<0 then -i else i)) H) dAbs:=by rintro H c D w Q o ⟨i,rfl,A⟩ q;cases o with|cons h t=>cases t;cases h;exact⟨i,rfl,q _ _ (.int _) A⟩
def dMax:DRn:=λD Q=>∃i j,D=[.int i,.int j]/\Q (.int (if j>i then j else i))
theorem sc_max:SndCB K (λxs H Q=>∃i j,xs=[.int i,.int j]/\Q (.int (if j>i then j else i)) H) dMax:=by rintro H c D w Q o ⟨i,j,rfl,A⟩ q;cases o with|cons h t=>cases t with|cons C t=>cases t;cases h;cases C;exact⟨i,j,rfl,q _ _ (.int _) A⟩
def dMin:DRn:=λD Q=>∃i j,D=[.int i,.int j]/\Q (.int (if j<i then j else i))
theorem sc_min:SndCB K (λxs H Q=>∃i j,xs=[.int i,.int j]/\Q (.int (if j<i then j else i)) H) dMin:=by rintro H c D w Q o ⟨i,j,rfl,A⟩ q;cases o with|cons h t=>cases t with|cons C t=>cases t;cases h;cases C;exact⟨i,j,rfl,q _ _ (.int _) A⟩
noncomputable def toInt:PyData->Option Int
 |.int i=>some i
 |.bool k=>some (if k then 1 else 0)
 |_=>none
def dInt:DRn:=λD Q=>∃d i,D=[d]/\toInt d=some i/\Q (.int i)
theorem sc_int:SndCB K (λxs H Q=>(∃i,xs=[.int i]/\Q (.int i) H)\/∃k,xs=[.bl k]/\Q (.int (if k then 1 else 0)) H) dInt:=by
 rintro H c D w Q o ⟨d,i,rfl,e,A⟩ q;cases o with
 |cons h t=>
  cases t;cases h with
  |int j=>simp only[toInt]at e;cases e;exact .inl ⟨_,rfl,q _ _ (.int _) A⟩
  |bl k=>simp only[toInt]at e;cases e;exact .inr ⟨_,rfl,q _ _ (.int _) A⟩
  |_=>trivial
noncomputable def allB:List PyData->Option (List Bool)
 |[]=>some []
 |.bool k::ds=>(allB ds).map (k::·)
 |_::_=>none
theorem mr:∀{ds:List PyData}{N:List Bool},allB ds=some N->ds=N.map PyData.bool
 |[],_,e=>by simp only[allB]at e;grind
 |.bool k::ds,_,e=>by simp only[allB,aaJ]at e;obtain⟨N,J,rfl⟩:=e;rw[mr J];rfl
 |.none::_,_,e=>by trivial
 |.int _::_,_,e=>by trivial
 |.str _::_,_,e=>by trivial
 |.list _::_,_,e=>by trivial
 |.tuple _::_,_,e=>by trivial
 |.dict _::_,_,e=>by trivial
theorem DtAll.bls{H:Hp}{vs:List V}{N:List Bool}(h:DtAll K H vs (N.map PyData.bool)):vs=N.map V.bl:=by
 induction N generalizing vs with
 |nil=>cases h;rfl
 |cons n x Y=>cases h with|cons r t=>cases r;rw[aal,Y t]
def dAll:DRn:=λD Q=>∃L N,D=[.list L]/\allB L=some N/\Q (.bool (N.all id))
theorem sc_all:SndCB K (λxs H Q=>∃(p:Addr) (N:List Bool),xs=[.ref p]/\SqL K H p (N.map V.bl)/\Q (.bl (N.all id)) H) dAll:=by
 rintro H c D w Q o ⟨L,N,rfl,e,A⟩ q;have:=mr e;subst this;cases o with
 |cons h t=>
  cases t;cases h with
  |lst s t=>rw[t.bls]at s;exact⟨_,N,rfl,s,q _ _ (.bl _) A⟩
def LW:PyData->String
 |.none=>"NoneType" |.bool _=>"bool" |.int _=>"int" |.str _=>"str" |.list _=>"list" |.tuple _=>"tuple" |.dict _=>"dict"
theorem Dt.ty{H:Hp}{v:V}{d:PyData}(h:Dt K H v d):Ty K H v (LW d):=by
 cases h with
 |non=>exact .non
 |bl b=>exact .bl b
 |int i=>exact .int i
 |str x=>exact .str x
 |lst s _=>exact .lst s
 |tup s _=>exact .tup s
end
end
section
def seqOf(x:OD):Option (List PyData):=match listOf x with
 |some D=>some D
 |none=>vS x
section
variable{ds:List PyData}
theorem Rel.mem(R:Rel b F σ H ρ (v::τ) (r::θ))(e:dM ρ r=some x):(v,x)∈stk (v::τ) (r::θ)++(flat σ ρ++ff F):=by
 cases r with
 |val y=>simp only[dM]at e;cases e;simp[stk]
 |rf i=>simp only[dM]at e;refine aad _ (aaf _ ?_);exact(bA (join_some e) R.al.1).mem_iff.mpr aai
theorem Rel.mem1(R:Rel b F σ H ρ (u::v::τ) (f::r::θ))(e:dM ρ r=some x):(v,x)∈stk (u::v::τ) (f::r::θ)++(flat σ ρ++ff F):=by
 have h:=R.drop.mem e;cases f with
 |val y=>simp only[stk];exact aag _ h
 |rf i=>exact h
theorem Rel.ez(R:Rel b F σ H ρ (u::v::τ) (f::r::θ)):Rel b F σ H ρ (u::τ) (f::θ):=(Rel.zv (vs:=[u]) (rs:=[f]) R rfl).drop
theorem Ows.fzs(h:Ows b S H vs (ds.map OD.fz) A):FzA b.K S H vs ds:=by
 induction ds generalizing vs A with
 |nil=>cases h;exact .nil
 |cons d ds Y=>cases h with|cons r t=>cases r with|fz f=>exact .cons f (Y t)
theorem Wd.exp(w:Wd b H L)(P:OwL b (λa=>a∈A\/b.S0 a) H L A)(Q:A.Nodup)(i:∀a∈A,b.H0 a=none\/b.C a)(h:FzA b.K (λa=>a∈A\/b.S0 a) H vs ds):Wd b H (vs.zip (ds.map OD.fz)++L):=by
 have q:∀{vs:List V}{ds:List PyData},FzA b.K (λa=>a∈A\/b.S0 a) H vs ds->OwL b (λa=>a∈A\/b.S0 a) H (vs.zip (ds.map OD.fz)) []:=by
  intro vs;induction vs with
  |nil=>intro ds h;cases h;exact .nil
  |cons v vs Y=>intro ds h;cases h with|cons r t=>exact Ows.cons (.fz r) (Y t)
 exact⟨⟨A,OwL.il (q h) P,Q,i⟩,w.fr,w.s0,w.nt⟩
theorem Wd.ay(w:Wd b H L)(m:(v,x)∈L)(e:listOf x=some ds):∃a vs,v=.ref a/\vs.length=ds.length/\SqL b.K H a vs/\Wd b H (vs.zip (ds.map OD.fz)++L):=by
 obtain⟨A,P,Q,i⟩:=w.out;obtain⟨B,h⟩:=OwL.mem P m;cases h with
 |@fz _ d f=>
  cases d with
  |list U=>simp only[listOf]at e;cases e;obtain⟨a,vs,rfl,O,Z⟩:=f.q7;exact⟨a,vs,rfl,Z.length,O.now,w.exp P Q i Z⟩
  |_=>trivial
 |@lst a vs xs A' e1 t=>simp only[listOf]at e;have F:=fzL_map e;subst F;have Z:=Ows.fzs t;exact⟨a,vs,rfl,Z.length,SqL.of e1,w.exp P Q i Z⟩
 |_=>trivial
theorem Wd.gp(w:Wd b H L)(m:(v,x)∈L)(e:vS x=some ds):∃a vs,v=.ref a/\vs.length=ds.length/\SqT b.K H a vs/\Wd b H (vs.zip (ds.map OD.fz)++L):=by
 obtain⟨A,P,Q,i⟩:=w.out;obtain⟨B,h⟩:=OwL.mem P m;cases h with
 |@fz _ d f=>
  cases d with
  |tuple U=>simp only[vS]at e;cases e;obtain⟨a,vs,rfl,O,Z⟩:=f.ri;exact⟨a,vs,rfl,Z.length,O.now,w.exp P Q i Z⟩
  |_=>trivial
 |_=>trivial
theorem Wd.rr(w:Wd b H L)(m:(v,x)∈L)(e:seqOf x=some ds):∃a vs,v=.ref a/\vs.length=ds.length/\(SqL b.K H a vs\/SqT b.K H a vs)/\Wd b H (vs.zip (ds.map OD.fz)++L):=by
 unfold seqOf at e;cases h:listOf x with
 |some z=>rw[h]at e;cases e;obtain⟨a,vs,O,Z,M,F⟩:=w.ay m h;exact⟨a,vs,O,Z,.inl M,F⟩
 |none=>rw[h]at e;obtain⟨a,vs,O,Z,M,F⟩:=w.gp m e;exact⟨a,vs,O,Z,.inr M,F⟩
theorem Rel.eg(R:Rel b F σ H ρ τ θ){Z:List (V×OD)}(w:Wd b H (Z++(stk τ θ++(flat σ ρ++ff F))))(u:vs.length=ds.length)(m:∀z∈vs.zip (ds.map OD.fz),z∈Z++(stk τ θ++(flat σ ρ++ff F)))(C:H p=none):
  Rel b F σ (upd H p (.lst vs)) ρ (.ref p::τ) (.val (.lst (ds.map OD.fz))::θ):=by
 obtain⟨A,P,Q,i⟩:=w.out;have X:=Wd.exp w P Q i ((OwL.uh P).all u m);exact R.push (Wd.below (Wd.eg X (by grind) C))
theorem Rel.h9(R:Rel b F σ H ρ τ θ){Z:List (V×OD)}(w:Wd b H (Z++(stk τ θ++(flat σ ρ++ff F))))(u:vs.length=ds.length)(m:∀z∈vs.zip (ds.map OD.fz),z∈Z++(stk τ θ++(flat σ ρ++ff F)))(C:H p=none):
  Rel b F σ (upd H p (.tup vs)) ρ (.ref p::τ) (.val (.fz (.tuple ds))::θ):=R.push (Wd.below (w.h9 (λS g=>g.all u m) C))
end
section
variable{X:Cx}
def zw(t:DA):DE:=λI Q=>t I λU A=>∃r D,U=[r]/\(dM A r).bind seqOf=some D/\Q (.val (.lst (D.map OD.fz))) A
theorem tD(N:Gl X x) (Y:X.mg x=none) (o:bootBuiltins x=some (.type "list")) (j:x≠"__name__":=by decide) (Z:(x==("__debug__":Str))=false:=by decide)
  (n:starEach (e::es) X.env=(false,eval e X.env)::starEach es X.env:=by rfl) (m:(backTo pos (starEach es X.env)).any (·.1)=false:=by rfl):PDa X (e::es) dt->PDe X (.Call (.Name x p) (e::es) [] pos) (zw dt)
 |⟨_,O,s1⟩=>⟨_,gu kF N Y o O j Z n m,λb F L H I i S C Q T R h q=>s1 b F L H I i S _ _ T R h λc P U A u M ⟨r,D,J,B,O⟩=>by
  subst J;obtain⟨z,s,k⟩:=aaF.mp B
  match c,u with
  |[v],_=>
   obtain⟨a,y,rfl,u,g,w⟩:=M.wd.rr (M.mem s) k;rw[T]at g;exact⟨a,y,rfl,g,λl t=>q _ _ _ _ (Rel.ez (M.eg w u (λz d=>aaf _ d) t)) O⟩⟩
def DM(t:DA):DE:=λI Q=>t I λU A=>∃r D,U=[r]/\(dM A r).bind listOf=some D/\Q (.val (.fz (.tuple D))) A
theorem vV(N:Gl X x) (Y:X.mg x=none) (o:bootBuiltins x=some (.type "tuple")) (j:x≠"__name__":=by decide) (Z:(x==("__debug__":Str))=false:=by decide)
  (n:starEach (e::es) X.env=(false,eval e X.env)::starEach es X.env:=by rfl) (m:(backTo pos (starEach es X.env)).any (·.1)=false:=by rfl):PDa X (e::es) dt->PDe X (.Call (.Name x p) (e::es) [] pos) (DM dt)
 |⟨_,O,s1⟩=>⟨_,gu jO N Y o O j Z n m,λb F L H I i S C Q T R h q=>s1 b F L H I i S _ _ T R h λc P U A u M ⟨r,D,J,B,O⟩=>by
  subst J;obtain⟨z,s,k⟩:=aaF.mp B
  match c,u with
  |[v],_=>
   obtain⟨a,y,rfl,u,g,w⟩:=M.wd.ay (M.mem s) k;rw[T]at g;exact⟨a,y,rfl,.inl ⟨g,λl t=>q _ _ _ _ (Rel.ez (M.h9 w u (λz d=>aaf _ d) t)) O⟩⟩⟩
def JX(a b:DE):DE:=λI Q=>a I λx A=>b A λy o=>∃D L,By o x=some D/\By o y=some L/\D.length+L.length<=1000000/\Q (.val (.lst ((D++L).map OD.fz))) o
theorem DN:PDe X a da->PDe X b db->PDe X (.BinOp a .Add b pos) (JX da db)
 |⟨_,O,s1⟩,⟨_,Z,s2⟩=>⟨_,uQ zg O Z,λb F σ H ρ τ θ m Q T R h q=>s1 b F σ H ρ τ θ _ _ T R h λv P x ρ1 M O=>s2 b F σ P ρ1 _ _ _ _ T M O λu N y ρ2 t ⟨ds,es,J,B,d,Z⟩=>by
  obtain⟨A,s,n⟩:=aaF.mp J;obtain⟨Y,L,S⟩:=aaF.mp B;obtain⟨a,k,rfl,o,g,w⟩:=t.wd.ay (t.mem1 s) n;obtain⟨c,i,rfl,C,p,D⟩:=w.ay (aad _ (t.mem L)) S;rw[<-aab]at D;rw[T]at g p;refine⟨a,c,k,i,rfl,rfl,g,p,ow (by lia),λl j=>q _ _ _ _ (Rel.ez (Rel.ez (t.eg D (by grind) (λz d=>?_) j))) Z⟩
  grind⟩
abbrev DO:=DEnv->(Option Int->DEnv->Prop)->Prop
variable{lo hi:Option Expr}{dl dh:DO}
end
end
section
structure DEnds where
 nx:DEnv->Prop
 rt:OD->DEnv->Prop
 bk:DEnv->Prop:=λ_=>False
 ct:DEnv->Prop:=λ_=>False
abbrev DS:=DEnds->DEnv->Prop
def NoRf(W:Nat->Prop)(θ:List OR):Prop:=∀r∈θ,(∃x,r=.val x)\/∃j,W j/\r=.rf j
abbrev Ff:Nat->Prop:=λ_=>False
structure EndsOk (b:Bs)(F:List Fr)(τ:List V)(θ:List OR)(Dd:DEnds)(D:Ends):Prop where
 nx:∀σ H ρ,Rel b F σ H ρ τ θ->Dd.nx ρ->D.nx σ H
 bk:∀σ H ρ,Rel b F σ H ρ τ θ->Dd.bk ρ->D.bk σ H
 ct:∀σ H ρ,Rel b F σ H ρ τ θ->Dd.ct ρ->D.ct σ H
 rt:∀σ H ρ v x,Rel b F σ H ρ (v::τ) (.val x::θ)->Dd.rt x ρ->D.rt v H
def GH(K:Waa)(W:Nat->Prop)(d:TS)(ds:DS):Prop:=∀(b:Bs) (F:List Fr) (L:St) (H:Hp) (I:DEnv) (i:List V) (S:List OR) (q:DEnds) (D:Ends),b.K=K->NoRf W S->Rel b F L H I i S->ds q I->EndsOk b F i S q D->d D L H
inductive PDs (X:Cx)(W:Nat->Prop)(e:Stmt)(de:DS):Prop|mk (te:TS) (h:PS X e te) (s:GH X.K W te de)
inductive PDss (X:Cx)(W:Nat->Prop)(e:List Stmt)(de:DS):Prop|mk (te:TS) (h:PSs X e te) (s:GH X.K W te de)
theorem NoRf.al{o:Option V}(n:NoRf W θ)(Q:¬ W i):∀{τ:List V},Al σ τ θ->Al (σ.set i o) τ θ:=by
 induction θ with
 |nil=>intro τ h;cases τ with
  |nil=>trivial
  |cons _ _=>exact h
 |cons r θ Y=>
  intro τ h;cases τ with
  |nil=>trivial
  |cons v τ=>
   rcases n r aai with ⟨x,rfl⟩|⟨j,J,rfl⟩
   ·exact Y (λr D=>n r (aag _ D)) (τ:=τ) h
   ·refine⟨?_,Y (λr D=>n r (aag _ D)) (τ:=τ) h.2⟩;have A:i≠j:=λe=>Q (by grind);rw[aa0 A];exact h.1
theorem NoRf.al0(n:NoRf Ff θ):∀{τ:List V},Al σ τ θ->Al σ' τ θ:=by
 induction θ with
 |nil=>intro τ h;cases τ with
  |nil=>trivial
  |cons _ _=>exact h
 |cons r θ Y=>
  intro τ h;rcases n r aai with ⟨x,rfl⟩|⟨j,J,rfl⟩
  ·cases τ with
   |nil=>exact h
   |cons v τ=>exact Y (λr D=>n r (aag _ D)) (τ:=τ) h
  ·exact J.elim
theorem NoRf.weak(n:NoRf Ff θ):NoRf W θ:=λr D=>(n r D).imp id λ⟨j,J,_⟩=>J.elim
theorem NoRf.cons(n:NoRf W θ):NoRf W (.val x::θ):=λr D=>(aaa.mp D).elim (λe=>.inl ⟨x,e⟩) (n r)
theorem NoRf.app(d:NoRf W rs)(n:NoRf W θ):NoRf W (rs++θ):=λr D=>(aak.mp D).elim (d r) (n r)
theorem Wd.kq{L1 L2:List (V×OD)}(w:Wd b H (L1++(flat σ ρ++L2)))(W:Wf σ ρ)(i:Nat):Wd b H (L1++(flat σ (ρ.set i none)++L2)):=by
 cases e:ρ[i]?.join with
 |none=>
  have:ρ.set i none=ρ:=by
   cases h:ρ[i]? with
   |none=>exact List.set_eq_of_length_le (by simpa using h)
   |some o=>rw[h]at e;have:o=none:=e;subst this;exact set_self h
  rw[this];exact w
 |some x=>have L:=join_some e;obtain⟨v,f⟩:=W.get L;exact Wd.drop (w.perm ((((bA L f).append_right _).append_left _).trans aav))
theorem Rel.store(R:Rel b F σ H ρ (v::τ) (.val x::θ))(n:NoRf W θ)(r:i<ρ.length)(Q:¬ W i):Rel b F (σ.set i (some v)) H (ρ.set i (some x)) τ θ:=by refine Rel.wk R.wf (n.al Q (Rel.drop R).al) R.wff r ?_;exact Wd.kq (L1:=(v,x)::stk τ θ) (ρ:=ρ) R.wd R.wf i
section
variable{st:Stmt}
def dNext:DS:=λD I=>D.nx I
def JZ(t u:DS):DS:=λD I=>∃M:DEnv->Prop,(∀p,M p->u D p)/\t { D with nx:=M } I
theorem pdss_nil:PDss X W [] dNext:=⟨_,yN,λb F L H I i S q D T n R h E=>E.nx L H I R h⟩
theorem tF:PDs X W st d1->PDss X W sts d2->PDss X W (st::sts) (JZ d1 d2)
 |⟨_,O,s1⟩,⟨_,h2,s2⟩=>⟨_,lY O h2,λb F σ H ρ τ θ q D T n R ⟨M,I,h⟩ E=>s1 b F σ H ρ τ θ _ _ T n R h
  ⟨λQ P ρ1 A O=>s2 b F Q P ρ1 τ θ q D T n A (I ρ1 O) E,E.bk,E.ct,E.rt⟩⟩
def dCont:DS:=λD I=>D.ct I
theorem pds_cont:PDs X W (.Continue pos) dCont:=⟨_,lZ,λb F L H I i S q D T n R h E=>E.ct L H I R h⟩
def GI(a:DE):DS:=λD I=>a I λ_ A=>D.nx A
theorem vW(g:swapsWith e none pos.line X.env=pure false:=by rfl):PDe X e da->PDs X W (.Expr e pos) (GI da)
 |⟨_,h,s⟩=>⟨_,ip h g,λb F L H I i S q D T n R h E=>s b F L H I i S _ _ T R h λv P r A M O=>E.nx L P A M.drop O⟩
def J0(a:DE):DS:=λD I=>a I λr A=>∃x o,mv1 A r=some (x,o)/\D.rt x o
theorem zx:PDe X e da->PDs X W (.Return (some e) pos) (J0 da)
 |⟨_,h,s⟩=>⟨_,Cu h,λb F σ H ρ τ θ q D T n R h E=>s b F σ H ρ τ θ _ _ T R h λv P r ρ1 M ⟨x,ρ2,e,O⟩=>E.rt σ P ρ2 v x (M.mv1 e) O⟩
def J1(c:DT)(t u:DS):DS:=λD I=>c I λk A=>if k=true then t D A else u D A
theorem DP{f Z:List Stmt}:PDt X c dT->PDss X W f d1->PDss X W Z d2->PDs X W (.If c f Z pos) (J1 dT d1 d2)
 |⟨_,h,s⟩,⟨_,O,f⟩,⟨_,h2,Z⟩=>⟨_,F1 h O h2,λb F σ H ρ τ θ q D T n R h E=>s b F σ H ρ τ θ _ _ T R h λk P ρ1 M O=>by
  cases k with
  |true=>rw[if_pos rfl]at O ⊢;exact f b F σ P ρ1 τ θ _ _ T n M O E
  |false=>rw[if_neg aaq]at O ⊢;exact Z b F σ P ρ1 τ θ _ _ T n M O E⟩
def J2(i:Nat)(a:DE):DS:=λD I=>a I λr A=>∃x o,own1 A r=some (x,o)/\i<o.length/\D.nx (o.set i (some x))
theorem zy{i:Nat}{Z:Pos}(Q:¬ W i)(a:X.N.Nodup)(k:X.N[i]?=some x)(C:Loc X.env.scope x)(g:swapsWith e (some (.Name x Z)) pos.line X.env=pure false:=by rfl)(y:X.fn x=true\/X.env.scope.names.lookup x=some .local:=by first|exact .inl rfl|exact .inr rfl|assumption):
  PDe X e da->PDs X W (.Assign [.Name x Z] e pos) (J2 i da)
 |⟨_,h,s⟩=>⟨_,CA a k C h g y,λb F L H I z S q D T n R h E=>s b F L H I z S _ _ T R h λv P r A M ⟨x,o,e,k,O⟩=>E.nx _ P _ ((M.own1 e).store n k Q) O⟩
def dY:List Nat->List OD->DEnv->DEnv
 |i::is,x::xs,ρ=>dY is xs (ρ.set i (some x))
 |_,_,ρ=>ρ
def DQ(is:List Nat)(t:DA):DS:=λD I=>t I λU A=>∃Y o,mapR own1 A U=some (Y,o)/\Y.length=is.length/\(∀i∈is,i<o.length)/\D.nx (dY is Y o)
def kM:List Nat->List V->St->St
 |i::is,v::vs,σ=>kM is vs (σ.set i (some v))
 |_,_,σ=>σ
theorem Rel.storeAll{W:Nat->Prop}{b:Bs}{F:List Fr}{H:Hp}{τ:List V}{θ:List OR}:∀{is:List Nat}{vs:List V}{xs:List OD}{σ:St}{ρ:DEnv},Rel b F σ H ρ (vs++τ) (xs.map OR.val++θ)->NoRf W θ->vs.length=xs.length->xs.length=is.length->(∀i∈is,i<ρ.length)->(∀i∈is,¬ W i)->Rel b F (kM is vs σ) H (dY is xs ρ) τ θ
 |[],[],[],_,_,R,_,_,_,_,_=>R
 |i::is,v::vs,x::xs,σ,ρ,R,n,e1,e2,h,hw=>by have z:NoRf W (xs.map OR.val++θ):=NoRf.app (λr D=>by obtain⟨x,_,rfl⟩:=aaH.mp D;exact .inl ⟨x,rfl⟩) n;show Rel b F (kM is vs (σ.set i (some v))) H (dY is xs (ρ.set i (some x))) τ θ;exact Rel.storeAll (Rel.store (τ:=vs++τ) (θ:=xs.map OR.val++θ) R z (h i aai) (hw i aai)) n (by simpa using e1) (by simpa using e2) (λj u=>by rw[abN];exact h j (aag _ u)) λj u=>hw j (aag _ u)
 |[],_::_,[],_,_,_,_,e,_,_,_=>by simp at e
 |[],_,_::_,_,_,_,_,_,e,_,_=>by simp at e
 |_::_,[],_::_,_,_,_,_,e,_,_,_=>by simp at e
 |_::_,_,[],_,_,_,_,_,e,_,_=>by simp at e
theorem len2{Y:Type}{l:List Y}(h:l.length=2):∃a b,l=[a,b]:=by
 match l,h with
 |[a,b],_=>exact⟨a,b,rfl⟩
theorem J3{Y:Type}{l:List Y}(h:l.length=3):∃a b c,l=[a,b,c]:=by
 match l,h with
 |[a,b,c],_=>exact⟨a,b,c,rfl⟩
theorem zA{i j:Nat}(f:∀k∈[i,j],¬ W k){x y:Str}{C J p:Pos}{l A Y}(U:X.calm=true)(hN:X.N.Nodup)(r:X.N[i]?=some x)(hj:X.N[j]?=some y)(z:i≠j)
  (hx:X.env.scope.names.lookup x=some .local) (m:X.env.scope.names.lookup y=some .local)
  (Q:swappedStores [.Tuple [.Name x C,.Name y J] l p] (.Tuple [a,b] A Y) X.env=pure (some [x,y]))
  (g:swapsWithSole [.Tuple [.Name x C,.Name y J] l p] (.Tuple [a,b] A Y) pos.line X.env=pure false:=by rfl):PDa X [a,b] dt->PDs X W (.Assign [.Tuple [.Name x C,.Name y J] l p] (.Tuple [a,b] A Y) pos) (DQ [i,j] dt)
 |⟨_,h,s⟩=>⟨_,CB U hN r hj z hx m h Q g,λb F L H I τ S q D T n R h E=>s b F L H I τ S _ _ T R h λc P rs Z u M ⟨xs,o,e,d,r,O⟩=>by
  obtain⟨t,B⟩:=fO Rel.own1 M u e;obtain⟨v,w,rfl⟩:=len2 (B.trans d);exact⟨v,w,rfl,E.nx _ P _ (Rel.storeAll (is:=[i,j]) t n B d r f) O⟩⟩
theorem vX{i j k:Nat}(f:∀z∈[i,j,k],¬ W z){x y z:Str}{C J o p:Pos}{l A Y}(U:X.calm=true)(hN:X.N.Nodup)(r:X.N[i]?=some x)(hj:X.N[j]?=some y)(hk:X.N[k]?=some z)(a0:i≠j)(a1:i≠k)(Z:j≠k)
  (hx:X.env.scope.names.lookup x=some .local) (m:X.env.scope.names.lookup y=some .local) (hz:X.env.scope.names.lookup z=some .local)
  (Q:swappedStores [.Tuple [.Name x C,.Name y J,.Name z o] l p] (.Tuple [a,b,c] A Y) X.env=pure (some [x,y,z]))
  (g:swapsWithSole [.Tuple [.Name x C,.Name y J,.Name z o] l p] (.Tuple [a,b,c] A Y) pos.line X.env=pure false:=by rfl):PDa X [a,b,c] dt->PDs X W (.Assign [.Tuple [.Name x C,.Name y J,.Name z o] l p] (.Tuple [a,b,c] A Y) pos) (DQ [i,j,k] dt)
 |⟨_,h,s⟩=>⟨_,y4 U hN r hj hk a0 a1 Z hx m hz h Q g,λb F L H I τ S q D T n R h E=>s b F L H I τ S _ _ T R h λvs P rs a3 el M ⟨xs,a2,e,d,r,O⟩=>by
  obtain⟨t,B⟩:=fO Rel.own1 M el e;obtain⟨v,w,u,rfl⟩:=J3 (B.trans d);exact⟨v,w,u,rfl,E.nx _ P _ (Rel.storeAll (is:=[i,j,k]) t n B d r f) O⟩⟩
abbrev DG:=OD->DEnv->(DEnv->Prop)->Prop
abbrev DGs:=List OD->DEnv->(DEnv->Prop)->Prop
def oF(K:Waa)(W:Nat->Prop)(m:Nat)(g:TG)(w:DG):Prop:=∀(b:Bs) (F:List Fr) (L:St) (H:Hp) (I:DEnv) (i:List V) (S:List OR) (v:V) (x:OD) (Qd:DEnv->Prop) (Q:St->Hp->Prop),b.K=K->NoRf W S->Rel b F L H I (v::i) (.val x::S)->w x I Qd->(∀z l p,Rel b F z l p i S->(∀j,m<=j->z[j]?=L[j]?/\p[j]?=I[j]?)->Qd p->Q z l)->g v L H Q
def GJ(K:Waa)(W:Nat->Prop)(m:Nat)(g:TGs)(w:DGs):Prop:=∀(b:Bs) (F:List Fr) (L:St) (H:Hp) (I:DEnv) (i:List V) (S:List OR) (vs:List V) (Y:List OD) (Qd:DEnv->Prop) (Q:St->Hp->Prop),b.K=K->NoRf W S->vs.length=Y.length->Rel b F L H I (vs++i) (Y.map OR.val++S)->w Y I Qd->(∀z l p,Rel b F z l p i S->(∀j,m<=j->z[j]?=L[j]?/\p[j]?=I[j]?)->Qd p->Q z l)->g vs L H Q
inductive PDg (X:Cx)(W:Nat->Prop)(m:Nat)(e:Expr)(dg:DG):Prop|mk (te:TG) (h:PG X e te) (s:oF X.K W m te dg)
inductive PDgs (X:Cx)(W:Nat->Prop)(m:Nat)(e:List Expr)(dg:DGs):Prop|mk (te:TGs) (h:FI X e te) (s:GJ X.K W m te dg)
def DR(i:Nat):DG:=λx I Q=>i<I.length/\Q (I.set i (some x))
def dgNil:DGs:=λY I Q=>Y=[]/\Q I
def DU(t:DG)(u:DGs):DGs:=λY I Q=>∃x r,Y=x::r/\t x I λp=>u r p Q
noncomputable def unpT:OD->Option (List OD)
 |.fz (.tuple ds)=>some (ds.map OD.fz)
 |.tup xs=>some xs
 |_=>none
def unpL:OD->Option (List OD)
 |.fz (.list ds)=>some (ds.map OD.fz)
 |.lst xs=>some xs
 |_=>none
def GK(n:Nat)(t:DGs):DG:=λx I Q=>∃Y,unpT x=some Y/\Y.length=n/\t Y I Q
def GL(n:Nat)(t:DGs):DG:=λx I Q=>∃Y,unpL x=some Y/\Y.length=n/\t Y I Q
theorem mw{i:Nat}(c:¬ W i)(a:X.N.Nodup)(r:X.N[i]?=some x)(C:Loc X.env.scope x)(M:i<m)(y:X.fn x=true\/X.env.scope.names.lookup x=some .local:=by first|exact .inl rfl|exact .inr rfl|assumption):PDg X W m (.Name x pos) (DR i):=
 ⟨_,yO a r C y,λb F L H I z S v x w Q T n R ⟨r,h⟩ q=>q _ _ _ (R.store n r c) (λj u=>⟨aa0 (by lia),aa0 (by lia)⟩) h⟩
theorem pdgs_nil:PDgs X W m [] dgNil:=⟨_,yP,λb F L H I i S c Y w Q T n u R ⟨e,h⟩ q=>by
 subst e;cases c with
 |nil=>exact⟨rfl,q _ _ _ R (λj o=>⟨rfl,rfl⟩) h⟩
 |cons _ _=>grind⟩
theorem tG(g:(assignEach (e::es) X.env).map (·.2)=assign e X.env::(assignEach es X.env).map (·.2):=by rfl):PDg X W m e dg->PDgs X W m es dgs->PDgs X W m (e::es) (DU dg dgs)
 |⟨_,O,s1⟩,⟨_,Z,s2⟩=>⟨_,uL O Z g,λb F L H I i S c Y w Q T n u R ⟨x,r,e,h⟩ q=>by
  subst e;cases c with
  |nil=>grind
  |cons v c=>
   have z:NoRf W (r.map OR.val++S):=NoRf.app (λr D=>by grind) n;exact⟨v,c,rfl,s1 b F L H I (c++i) (r.map OR.val++S) v x _ _ T z R h λU P A M f O=>s2 b F U P A i S c r _ _ T n (by grind) M O λk N o t l Z=>
    q _ _ _ t (λj C=>⟨(l j C).1.trans (f j C).1,(l j C).2.trans (f j C).2⟩) Z⟩⟩
theorem Wd.unpT{b:Bs}{H:Hp}{L:List (V×OD)}{v:V}{x:OD}{xs:List OD}(w:Wd b H ((v,x)::L))(e:unpT x=some xs):∃a vs,v=.ref a/\SqT b.K H a vs/\vs.length=xs.length/\Wd b H (vs.zip xs++L):=by
 cases x with
 |fz d=>cases d<;>simp only[L2.unpT]at e<;>cases e;obtain⟨a,vs,rfl,u,g,X⟩:=w.gp aai (rfl);exact⟨a,vs,rfl,g,by grind,Wd.drop (X.perm aav)⟩
 |tup S=>
  simp only[L2.unpT]at e;cases e;obtain⟨q,P,Q,i⟩:=w.out;cases P with
  |cons r t=>
   cases r with
   |@tup a vs _ A h1 h2=>exact⟨a,vs,rfl,SqT.of h1,h2.len,⟨⟨_,OwL.il (OwL.j1 h2) t,Q,i⟩,w.fr,w.s0,w.nt⟩⟩
 |_=>trivial
theorem Wd.unpL{b:Bs}{H:Hp}{L:List (V×OD)}{v:V}{x:OD}{xs:List OD}(w:Wd b H ((v,x)::L))(e:unpL x=some xs):∃a vs,v=.ref a/\SqL b.K H a vs/\vs.length=xs.length/\Wd b H (vs.zip xs++L):=by
 have p:∀{D:List PyData},listOf x=some D->xs=D.map OD.fz->∃a vs,v=.ref a/\SqL b.K H a vs/\vs.length=xs.length/\Wd b H (vs.zip xs++L):=λ{D} h1 h2=>by subst h2;obtain⟨a,vs,rfl,u,g,X⟩:=w.ay aai h1;exact⟨a,vs,rfl,g,by grind,Wd.drop (X.perm aav)⟩
 cases x with
 |fz d=>cases d<;>simp only[L2.unpL]at e<;>cases e;exact p rfl rfl
 |lst S=>
  simp only[L2.unpL]at e;cases e;obtain⟨q,P,Q,i⟩:=w.out;have I:=w.n7 P;cases P with
  |@cons _ _ A _ _ B0 r t=>
   cases r with
   |@lst a vs _ B h1 h2=>have f:∀c,(c∈B++B0\/b.S0 c)->(c∈a::B++B0\/b.S0 c):=λc z=>z.imp (λz=>by grind) id;exact⟨a,vs,rfl,SqL.of h1,h2.len,⟨⟨_,Ows.step (Kp.refl _ _) (λc z=>.inl (f c z)) I (λ_ _=>rfl) (OwL.il (OwL.j1 h2) t),(aat.mp Q).2,λc U=>i c (aag _ U)⟩,w.fr,w.s0,w.nt⟩⟩
 |_=>trivial
theorem fP{σ:St}:∀{vs:List V}{xs:List OD},vs.length=xs.length->Al σ vs (xs.map OR.val)
 |[],[],_=>trivial
 |_::vs,_::xs,e=>fP (vs:=vs) (xs:=xs) (by grind)
 |[],_::_,e=>by grind
 |_::_,[],e=>by grind
theorem Rel.spread{b:Bs}{F:List Fr}{σ:St}{H:Hp}{ρ:DEnv}{τ vs:List V}{θ:List OR}{xs:List OD}(R:Rel b F σ H ρ τ θ)(u:vs.length=xs.length)(w:Wd b H (vs.zip xs++(stk τ θ++(flat σ ρ++ff F)))):Rel b F σ H ρ (vs++τ) (xs.map OR.val++θ):=
 ⟨R.wf,(aS (by grind)).mpr ⟨fP u,R.al⟩,R.wff,by rw[aH (by grind),ck u,aab];exact w⟩
theorem zB{k:Nat}{n:Nat}(U:X.calm=true)(l:(assignEach es X.env).length=n:=by rfl)(p:(assignEach es X.env).findIdx? (·.1)=none:=by rfl):PDgs X W m es dgs->PDg X W m (.Tuple es k pos) (GK n dgs)
 |⟨_,h,s⟩=>⟨_,Cw U h l p,λb F L H I i S v x z Q T j R ⟨Y,e,t,h⟩ q=>by
  obtain⟨a,c,rfl,g,u,w⟩:=Wd.unpT R.wd e;rw[T]at g;exact⟨a,c,rfl,g,u.trans t,s b F L H I i S c Y _ _ T j u (R.drop.spread u w) h q⟩⟩
theorem zC{k:Nat}{n:Nat}(U:X.calm=true)(l:(assignEach es X.env).length=n:=by rfl)(p:(assignEach es X.env).findIdx? (·.1)=none:=by rfl):PDgs X W m es dgs->PDg X W m (.Tuple es k pos) (GL n dgs)
 |⟨_,h,s⟩=>⟨_,Dn U h l p,λb F L H I i S v x z Q T j R ⟨Y,e,t,h⟩ q=>by
  obtain⟨a,c,rfl,g,u,w⟩:=Wd.unpL R.wd e;rw[T]at g;exact⟨a,c,rfl,g,u.trans t,s b F L H I i S c Y _ _ T j u (R.drop.spread u w) h q⟩⟩
def J4(a:DE)(g:DG):DS:=λD I=>a I λr A=>∃x o,own1 A r=some (x,o)/\g x o D.nx
theorem zD{f:Expr}(g:swapsWithSole [f] e pos.line X.env=pure false:=by rfl)(Q:swappedStores [f] e X.env=pure none:=by rfl)(u:(assignEach [f] X.env).map (·.2)=[assign f X.env]:=by rfl):PDe X e da->PDg X W m f dg->PDs X W (.Assign [f] e pos) (J4 da dg)
 |⟨_,O,s1⟩,⟨_,h2,s2⟩=>⟨_,uM O h2 g Q u,λb F L H I i S q D T n R h E=>s1 b F L H I i S _ _ T R h λv P r A M ⟨x,o,e,O⟩=>
  s2 b F L P o i S v x _ _ T n (M.own1 e) O λz l p a _ C=>E.nx z l p a C⟩
def DV(c:DT)(t:DS):DS:=λD I=>∃W:Nat->DEnv->Prop,(∃m,W m I)/\∀m I,W m I->c I λk A=>if k=true then ∃N:DEnv->Prop,(∀p,N p->∃y,y<m/\W y p)/\t { D with nx:=N,ct:=N,bk:=D.nx } A else D.nx A
theorem tH(d:PassesOwn (model X.prog X.w) X.A X.env X.xe):PDt X c dT->PDss X W sts d1->PDs X W (.While c sts [] pos) (DV dT d1)
 |⟨_,h1,s1⟩,⟨_,Z,s2⟩=>⟨_,uO d h1 Z,λb F σ H ρ τ θ q D T n R ⟨W,⟨r,e⟩,step⟩ E=>by
  refine⟨λm σ H=>∃ρ,Rel b F σ H ρ τ θ/\W m ρ,⟨r,ρ,R,e⟩,?_⟩;rintro m Q P ⟨ρ1,M,x⟩;refine s1 b F Q P ρ1 τ θ _ _ T M (step m ρ1 x) λk i ρ2 t Z=>?_;cases k with
  |false=>rw[if_neg aaq]at Z ⊢;exact E.nx Q i ρ2 t Z
  |true=>
   rw[if_pos rfl]at Z ⊢;obtain⟨N,a,L⟩:=Z;refine⟨λz l=>∃p,Rel b F z l p τ θ/\N p,λz l f=>?_,s2 b F Q i ρ2 τ θ _ _ T n t L ⟨λz l p g C=>⟨p,g,C⟩,λz l p g C=>E.nx z l p g C,λz l p g C=>⟨p,g,C⟩,E.rt⟩⟩;obtain⟨p,g,v⟩:=f;obtain⟨y,Y,O⟩:=a p v;exact⟨y,Y,p,g,O⟩⟩
abbrev DI:=DEnv->(List PyData->DEnv->Prop)->Prop
def jQ(b:Bs)(J:It)(vs:List V)(rs:List OR)(ds:List PyData):Prop:=∀(F:List Fr) (L:St) (H:Hp) (I:DEnv) (i:List V) (S:List OR),Rel b F L H I (vs++i) (rs++S)->∀k,
 (k<ds.length->J.go k H/\∀x N d,J.yld k H x N->ds[k]?=some d->Rel b F L N I (x::(vs++i)) (.val (.fz d)::(rs++S)))/\(k=ds.length->J.stop k H)
def GM(K:Waa)(Z:TI)(C:DI):Prop:=∀(b:Bs) (F:List Fr) (L:St) (H:Hp) (I:DEnv) (i:List V) (S:List OR) (Qd:List PyData->DEnv->Prop) (Q:It->Hp->Prop),b.K=K->Rel b F L H I i S->C I Qd ->
 (∀J l D p c U,c.length=U.length->NoRf Ff U->Rel b F L l p (c++i) (U++S)->jQ b J c U D->Qd D p->Q J l)->Z L H Q
inductive PDi (X:Cx)(tg e:Expr)(di:DI):Prop|mk (te:TI) (h:PI X tg e te) (s:GM X.K te di)
def dm(lo:Int)(n:Nat):List PyData:=(List.range n).map λ(i:Nat)=>PyData.int (lo+(i:Int))
theorem mx(lo:Int)(n:Nat):(dm lo n).length=n:=by simp[dm]
theorem vY{lo:Int}{n k:Nat}{d:PyData}(h:(dm lo n)[k]?=some d):k<n/\d=.int (lo+k):=by
 unfold dm at h
 grind
theorem vZ(b:Bs)(lo:Int)(n:Nat):jQ b (IL lo n) [] [] (dm lo n):=λF L H I i S R k=>by rw[mx];refine⟨λh=>⟨h,λx N d ⟨J,B⟩ W=>?_⟩,λe=>by subst e;exact aac _⟩;subst J B;rw[(vY W).2];exact Rel.sc R (.int _)
def GN(t:DA):DI:=λI Q=>t I λU A=>∃j,fe A U=some [.int j]/\-(2^62)<=j/\j<2^62/\Q (dm 0 j.toNat) A
theorem oG{f:Expr} (N:Gl X "range") (Y:X.mg "range"=none) (g:starEach [a] X.env=[(false,eval a X.env)]:=by rfl):PDa X [a] dt->PDi X f (.Call (.Name "range" p) [a] [] pos) (GN dt)
 |⟨_,h,s⟩=>⟨_,su N Y h g,λb F L H I i S w Q T R h q=>s b F L H I i S _ _ T R h λc P U A u M ⟨j,e,B,J,O⟩=>by
  have W:=M.dtL u e;cases W with
  |cons r t=>cases t;cases r;exact⟨j,rfl,B,J,q _ P _ A [] [] rfl (λr D=>by grind) (M.drops u) (vZ b 0 _) O⟩⟩
theorem Rel.itemAt{b:Bs}{F:List Fr}{σ:St}{H:Hp}{ρ:DEnv}{τ:List V}{θ:List OR}{v:V}{x:OD}{ds:List PyData}{d:PyData}{k:Nat}(R:Rel b F σ H ρ τ θ)(m:(v,x)∈stk τ θ++(flat σ ρ++ff F))(e:seqOf x=some ds)(W:ds[k]?=some d):
  ∃a vs u,v=.ref a/\(SqL b.K H a vs\/SqT b.K H a vs)/\vs.length=ds.length/\vs[k]?=some u/\Rel b F σ H ρ (u::τ) (.val (.fz d)::θ):=by
 obtain⟨a,vs,rfl,i,g,w⟩:=R.wd.rr m e;have T:k<vs.length:=by rw[i];exact(aah.mp W).1
 refine⟨a,vs,vs[k],rfl,g,i,aam T,R.push (w.pick (cZ (aam T) ?_))⟩;rw[aaz,W];rfl
theorem dZ{v:V}{x:OD}{τ:List V}{θ:List OR}{L:List (V×OD)}:(v,x)∈stk ([v]++τ) ([OR.val x]++θ)++L:=by simp[stk]
theorem tJ(b:Bs)(a:Addr)(ds:List PyData):jQ b (Jp b.K a) [.ref a] [.val (.fz (.list ds))] ds:=λF Z H I i S R k=>by
 obtain⟨f,y,e,n,g,_⟩:=R.wd.ay dZ (rfl);cases e;refine⟨λh=>⟨⟨y,y[k]'(by lia),g,aam _⟩,λx N d ⟨J,B⟩ W=>?_⟩,λe=>⟨y,g,by lia⟩⟩;subst J;obtain⟨M,c,u,A,o,_,U,t⟩:=R.itemAt dZ (rfl) W;cases A;obtain⟨_,O,L,C,p,D⟩:=R.wd.ay dZ (rfl);cases L;have T:k<O.length:=by grind
 have j:=B O p;refine Rel.push R (D.pick (cZ j ?_))
 grind
theorem v3(b:Bs)(a:Addr)(ds:List PyData):jQ b (Jq b.K a) [.ref a] [.val (.fz (.tuple ds))] ds:=λF L H I i S R k=>by
 obtain⟨f,y,e,u,g,w⟩:=R.wd.gp dZ (rfl);cases e;refine⟨λh=>⟨⟨y,y[k]'(by lia),g,aam _⟩,λx N d ⟨J,B⟩ W=>?_⟩,λe=>⟨y,g,by lia⟩⟩;subst J;refine Rel.push R (w.pick (cZ (B y g) ?_))
 grind
def J5(a:DE):DI:=λI Q=>a I λr A=>∃D o,frz1 A r=some (.list D,o)/\Q D o
theorem v5{f:Expr}:PDe X e da->PDi X f e (J5 da)
 |⟨_,h,s⟩=>⟨_,yQ h,λb F σ H ρ τ θ w Q T R h q=>s b F σ H ρ τ θ _ _ T R h λv P r ρ1 M ⟨ds,ρ2,e,O⟩=>by
  have t:=M.frz1 e;obtain⟨a,y,rfl,u,g,_⟩:=t.wd.ay (t.mem rfl) (rfl);rw[T]at g;exact⟨a,rfl,⟨y,g⟩,T▸q _ P ds ρ2 [.ref a] [.val (.fz (.list ds))] rfl (λr D=>.inl ⟨_,aaw.mp D⟩) t (tJ b a ds) O⟩⟩
def J6(a:DE):DI:=λI Q=>a I λr A=>∃D o,frz1 A r=some (.tuple D,o)/\Q D o
theorem zE{f:Expr}:PDe X e da->PDi X f e (J6 da)
 |⟨_,h,s⟩=>⟨_,CH h,λb F σ H ρ τ θ w Q T R h q=>s b F σ H ρ τ θ _ _ T R h λv P r ρ1 M ⟨ds,ρ2,e,O⟩=>by
  have t:=M.frz1 e;obtain⟨a,y,rfl,u,g,_⟩:=t.wd.gp (t.mem rfl) (rfl);rw[T]at g;exact⟨a,rfl,⟨y,g⟩,T▸q _ P ds ρ2 [.ref a] [.val (.fz (.tuple ds))] rfl (λr D=>.inl ⟨_,aaw.mp D⟩) t (v3 b a ds) O⟩⟩
end
end
section
section
variable{K:Waa}
def enumD(ds:List PyData):List PyData:=(List.range ds.length).map λ(i:Nat)=>PyData.tuple [.int (i:Int),ds.getD i .none]
theorem gz(ds:List PyData):(enumD ds).length=ds.length:=by simp[enumD]
theorem tK{k:Nat}(h:(enumD ds)[k]?=some d):∃e,ds[k]?=some e/\d=.tuple [.int k,e]:=by
 unfold enumD at h
 grind
theorem Rel.r4{b:Bs}{d e:PyData}{p:Addr}(R:Rel b F σ H ρ τ θ)(w:Wd b H (Z++(stk τ θ++(flat σ ρ++ff F))))(g:(v,OD.fz d)∈Z)(a:(u,OD.fz e)∈Z)(C:H p=none):
  Rel b F σ (upd H p (.tup [v,u])) ρ (.ref p::τ) (.val (.fz (.tuple [d,e]))::θ):=R.h9 w rfl (λz f=>by
   simp at f
   grind) C
theorem tL(b:Bs)(a:Addr)(ds:List PyData):jQ b (JP b.K a) [.ref a] [.val (.fz (.list ds))] (enumD ds):=λF L H I i S R k=>by
 obtain⟨f,p,e,u,g,w⟩:=R.wd.ay dZ (rfl);cases e;rw[gz];refine⟨λh=>⟨⟨p,p[k]'(by lia),g,aam _⟩,λx N d ⟨T,y,J,c,B,s⟩ W=>?_⟩,λe=>⟨p,g,by lia⟩⟩;subst B s;obtain⟨l,v,rfl⟩:=tK W;refine Rel.r4 (Z:=(V.int k,OD.fz (.int k))::p.zip (ds.map OD.fz)) R (w.sc (.int _)) aai (aag _ (cZ (J p g) ?_)) c
 grind
def GP(t:DA):DI:=λI Q=>t I λU A=>∃D o,frzL A U=some ([.list D],o)/\Q (enumD D) o
theorem v7{x}{W:Pos} (N:Gl X "enumerate") (Y:X.mg "enumerate"=none) (g:starEach [a] X.env=[(false,eval a X.env)]:=by rfl):PDa X [a] dt->PDi X (.Tuple es x W) (.Call (.Name "enumerate" p) [a] [] pos) (GP dt)
 |⟨_,h,s⟩=>⟨_,y9 N Y h g,λb F L H l i S w Q T R h q=>s b F L H l i S _ _ T R h λc P U A u M ⟨D,o,e,O⟩=>by
  obtain⟨t,B⟩:=kL M u e
  match c,B with
  |[v],_=>
   have I:Rel b F L P o (v::i) (.val (.fz (.list D))::S):=t;obtain⟨a,y,rfl,u,g,_⟩:=I.wd.ay (I.mem rfl) (rfl:listOf (.fz (.list D))=some D);rw[T]at g;exact⟨a,y,rfl,g,T▸q _ P _ o [.ref a] [.val (.fz (.list D))] rfl (λr j=>.inl ⟨_,aaw.mp j⟩) I (tL b a D) O⟩⟩
def zipD(ds es:List PyData):List PyData:=List.zipWith (λd e=>PyData.tuple [d,e]) ds es
theorem v8{ds es:List PyData}{k:Nat}(h:(zipD ds es)[k]?=some d):∃x y,ds[k]?=some x/\es[k]?=some y/\d=.tuple [x,y]:=by
 unfold zipD at h
 grind
def GQ:PyData->Option (Bool×List PyData)
 |.list ds=>some (true,ds)
 |.tuple ds=>some (false,ds)
 |_=>none
def oH(l:Bool)(a:Addr)(xs:List V):ZS:=if l then .lst a xs else .tup a xs
theorem eQ{a:Addr}(h:if l then SqL K H a xs else SqT K H a xs):(oH l a xs).ok K H:=by cases l<;>exact h
theorem my(l:Bool)(a:Addr)(xs:List V):(oH l a xs).val=.ref a:=by cases l<;>rfl
theorem cm(l:Bool)(a:Addr)(xs:List V):(oH l a xs).items=xs:=by cases l<;>rfl
theorem v9(h:GQ d=some (l,ds)):d=if l then .list ds else .tuple ds:=by cases d<;>simp only[GQ]at h<;>cases h<;>rfl
theorem wa(b:Bs)(a c:Addr)(l r:Bool)(xs ys:List V)(ds es:List PyData):jQ b (JF b.K (oH l a xs) (oH r c ys)) [.ref a,.ref c] [.val (.pin l xs ds),.val (.pin r ys es)] (zipD ds es):=λF L H I i S R k=>by
 obtain⟨f,e,u,g,w⟩:=R.wd.pinned (v:=.ref a) (l:=l) (xs:=xs) (ds:=ds) (by simp[stk]);cases e;obtain⟨M,e,C,p,D⟩:=w.pinned (v:=.ref c) (l:=r) (xs:=ys) (ds:=es) (by simp[stk]);cases e;have Q:(zipD ds es).length=min ds.length es.length:=by simp[zipD]
 rw[Q];refine⟨λh=>⟨⟨eQ g,eQ p,by rw[cm];omega,by rw[cm];omega⟩,λx N d ⟨T,y,z,J,B,o,s,n⟩ W=>?_⟩,λe=>⟨eQ g,eQ p,by rw[cm,cm];omega⟩⟩;subst s n;rw[cm]at J B;obtain⟨P,m,O,Z,rfl⟩:=v8 W;rw[<-aab]at D;refine Rel.r4 R D (aad _ (cZ J ?_)) (aaf _ (cZ B ?_)) o
 ·rw[aaz,O];rfl
 ·rw[aaz,Z];rfl
def J7(t:DA):DI:=λI Q=>t I λU A=>∃x y l k D L o,frzL A U=some ([x,y],o)/\GQ x=some (l,D)/\GQ y=some (k,L)/\Q (zipD D L) o
theorem zF{x1}{W:Pos} (N:Gl X "zip") (Y:X.mg "zip"=none) (g:starEach [a,b] X.env=[(false,eval a X.env),(false,eval b X.env)]:=by rfl) (d:starEach [b] X.env=[(false,eval b X.env)]:=by rfl):PDa X [a,b] dt->PDi X (.Tuple L x1 W) (.Call (.Name "zip" p) [a,b] [] pos) (J7 dt)
 |⟨_,h,s⟩=>⟨_,C8 N Y h g d,λb F Z H n i S Qd Q T R h q=>s b F Z H n i S _ _ T R h λvs P U A z M ⟨x,y,l,k,ds,L,o,e,ex,m,O⟩=>by
  obtain⟨t,B⟩:=kL M z e;obtain⟨v,u,rfl⟩:=len2 B;have w:=t.wd;have I:=Rel.drops t rfl;obtain⟨xs,C⟩:=w.pin (v9 ex);obtain⟨j,w2⟩:=(C.perm (List.Perm.swap _ _ _)).pin (v9 m);have J:=w2.perm (List.Perm.swap _ _ _);obtain⟨a,rfl,_,g,_⟩:=J.pinned (v:=v) (l:=l) (xs:=xs) (ds:=ds) (by simp);obtain⟨c,rfl,_,f,_⟩:=J.pinned (v:=u) (l:=k) (xs:=j) (ds:=L) (by simp);rw[T]at g f;refine⟨oH l a xs,oH k c j,by rw[my,my],eQ g,eQ f,T▸q _ P _ o [.ref a,.ref c] [.val (.pin l xs ds),.val (.pin k j L)] rfl (λr D=>by grind) ?_ (wa b a c l k xs j ds L) O⟩;exact⟨I.wf,I.al,I.wff,J⟩⟩
end
end
section
noncomputable def cD:DEnv->List Nat->Option (DEnv×DEnv)
 |ρ,[]=>some ([],ρ)
 |ρ,j::js=>match ρ[j]?.join with
  |some (.fz d)=>match cD ρ js with|some z=>some (some (.fz d)::z.1,z.2)|none=>none
  |some x=>match cD (ρ.set j none) js with|some z=>some (some x::z.1,z.2)|none=>none
  |none=>none
noncomputable def ei:DEnv->List Nat->DEnv->DEnv
 |ρ,j::js,some x::os=>ei (ρ.set j (some x)) js os
 |ρ,_::js,none::os=>ei ρ js os
 |ρ,_,_=>ρ
def capV(σ:St)(js:List Nat):St:=js.map λj=>(σ[j]?).join
theorem zG(h:o=some (some v)):o.join=some v:=by rw[h];rfl
theorem qo:∀{js:List Nat}{ρ S ρ2:DEnv}{L1 L2:List (V×OD)},Wd b H (L1++(flat σ ρ++L2))->Wf σ ρ->cD ρ js=some (S,ρ2)->Wd b H (flat (capV σ js) S++(L1++(flat σ ρ2++L2)))/\Wf σ ρ2/\Wf (capV σ js) S
 |[],ρ,S,ρ2,L1,L2,w,wf,e=>by simp only[cD]at e;cases e;exact⟨w,wf,trivial⟩
 |j::js,ρ,S,ρ2,L1,L2,w,wf,e=>by
  cases h:ρ[j]?.join with
  |none=>simp[cD,h]at e
  |some x=>
   have k:=join_some h;obtain⟨v,f⟩:=wf.get k;have p:Wd b H ((v,x)::(L1++(flat σ (ρ.set j none)++L2))):=w.perm ((((bA k f).append_right _).append_left _).trans aav);have Y:∀{y:OD}{A:DEnv}{z:DEnv×DEnv},Wd b H ((v,y)::(L1++(flat σ A++L2)))->Wf σ A->cD A js=some z->(some y::z.1,z.2)=(S,ρ2)->Wd b H (flat (capV σ (j::js)) S++(L1++(flat σ ρ2++L2)))/\Wf σ ρ2/\Wf (capV σ (j::js)) S:=λ{y A z} X wf1 Q B=>by
    cases B;obtain⟨J,I,C⟩:=qo (L1:=(v,y)::L1) X wf1 (show cD A js=some (z.1,z.2) from Q);have o:capV σ (j::js)=some v::capV σ js:=by unfold capV;rw[aal,zG f]
    rw[o];exact⟨J.perm aav,I,C⟩
   have M:∀{z:DEnv×DEnv},cD (ρ.set j none) js=some z->(some x::z.1,z.2)=(S,ρ2)->Wd b H (flat (capV σ (j::js)) S++(L1++(flat σ ρ2++L2)))/\Wf σ ρ2/\Wf (capV σ (j::js)) S:=λ{z} Q B=>Y p wf.off Q B;have i:∀{A:DEnv}{y:OD},(match cD A js with|some z=>some (some y::z.1,z.2)|none=>none)=some (S,ρ2)->∃z,cD A js=some z/\(some y::z.1,z.2)=(S,ρ2):=λ{A y} q=>by
    cases N:cD A js with
    |none=>rw[N]at q;cases q
    |some z=>rw[N]at q;exact⟨z,rfl,aa1 q⟩
   cases x with
   |fz d=>simp only[cD,h]at e;obtain⟨z,Q,B⟩:=i e;have X:=p.dup;have W:j<ρ.length:=(aah.mp k).1;have L:σ.set j (some v)=σ:=set_self f;have a:=cP (v:=v) (x:=.fz d) W wf.len;rw[L,set_self k]at a;exact Y (X.perm (List.Perm.cons _ (aav.symm.trans ((a.symm.append_right _).append_left _)))) wf Q B
   |_=>simp only[cD,h]at e;obtain⟨z,Q,B⟩:=i e;exact M Q B
theorem kN:∀{js:List Nat}{ρ F:DEnv}{L1 L2:List (V×OD)},Wd b H (L1++(flat (capV σ js) F++(flat σ ρ++L2)))->Wf σ ρ->Wf (capV σ js) F->Wd b H (L1++(flat σ (ei ρ js F)++L2))/\Wf σ (ei ρ js F)
 |[],ρ,F,L1,L2,w,wf,wf2=>by
  cases F with
  |nil=>trivial
  |cons _ _=>trivial
 |j::js,ρ,[],L1,L2,w,wf,wf2=>by trivial
 |j::js,ρ,o::F,L1,L2,w,wf,wf2=>by
  have I:capV σ (j::js)=(σ[j]?).join::capV σ js:=rfl;rw[I]at w wf2;cases o with
  |none=>rw[bz]at w;exact kN (js:=js) w wf (by trivial)
  |some x=>
   cases h:(σ[j]?).join with
   |none=>rw[h]at wf2;trivial
   |some v=>
    rw[h]at w wf2;have Q:Wd b H ((v,x)::(L1++(flat (capV σ js) F++(flat σ ρ++L2)))):=w.perm (aav )
    ·have f:=join_some h;have W:j<ρ.length:=by rw[<-wf.len];grind
     have L:=set_self f;have a:=cP (v:=v) (x:=x) W wf.len;rw[L]at a;have C:Wf σ (ρ.set j (some x)):=by have:=wf.put (i:=j) (v:=v) (x:=x);grind
     refine kN (ρ:=ρ.set j (some x)) ?_ C wf2;have X:Wd b H (((v,x)::L1++flat (capV σ js) F)++(flat σ (ρ.set j none)++L2)):=Wd.kq (by grind) wf j;refine X.perm ?_;rw[<-aab L1];refine List.Perm.trans ?_ ((a.symm.append_right _).append_left _);simp only[aaK];exact aav.symm
theorem Wf.drop:∀{n:Nat}{σ:St}{ρ:DEnv},Wf σ ρ->Wf (σ.drop n) (ρ.drop n)
 |0,_,_,h=>h
 |_+1,[],[],_=>trivial
 |_+1,[],_::_,h=>by trivial
 |_+1,_::_,[],h=>by trivial
 |n+1,o::σ,none::ρ,h=>Wf.drop (n:=n) h
 |n+1,some _::σ,some _::ρ,h=>Wf.drop (ρ:=ρ) h
 |_+1,none::_,some _::_,h=>by trivial
theorem gA:∀{n:Nat}{σ:St}{ρ:DEnv},Wf σ ρ->∃L,flat σ ρ=L++flat (σ.drop n) (ρ.drop n)
 |0,σ,ρ,_=>⟨[],rfl⟩
 |_+1,[],[],_=>⟨[],rfl⟩
 |_+1,[],_::_,h=>by trivial
 |_+1,_::_,[],h=>by trivial
 |n+1,o::σ,none::ρ,h=>by obtain⟨L,e⟩:=gA (ρ:=ρ) h;exact⟨L,by rw[bz];exact e⟩
 |n+1,some v::σ,some x::ρ,h=>by obtain⟨L,e⟩:=gA (ρ:=ρ) h;exact⟨(v,x)::L,by simp only[flat,aaK,List.drop_succ_cons];rw[e]⟩
 |_+1,none::_,some _::_,h=>by trivial
theorem wb:flat (List.replicate n none++σ) (List.replicate n none++ρ)=flat σ ρ:=by
 induction n with
 |zero=>rfl
 |succ n Y=>trivial
theorem DW(h:Wf σ ρ):Wf (List.replicate n none++σ) (List.replicate n none++ρ):=by
 induction n with
 |zero=>exact h
 |succ n Y=>trivial
theorem Rel.grow(R:Rel b F σ H ρ (v::(vs++[.ref D])) (.val (.fz d)::(rs++[.val (.lst (out.map OD.fz))])))(u:vs.length=rs.length):
  ∃ys,H D=some (.lst ys)/\ys.length=out.length/\Rel b F σ (upd H D (.lst (ys++[v]))) ρ (vs++[.ref D]) (rs++[.val (.lst ((out++[d]).map OD.fz))]):=by
 have M:=R.drop;have Y:stk (vs++[.ref D]) (rs++[.val (.lst (out.map OD.fz))])=stk vs rs++[(.ref D,.lst (out.map OD.fz))]:=by rw[aH u];rfl
 have w:Wd b H ((v,.fz d)::((stk vs rs++[(.ref D,.lst (out.map OD.fz))])++(flat σ ρ++ff F))):=by
  have:=R.wd;simp only[stk]at this
  grind
 have X:Wd b H ([v].zip [OD.fz d]++((.ref D,.lst (out.map OD.fz))::(stk vs rs++(flat σ ρ++ff F)))):=w.perm (by
  simp)
 obtain⟨a,ys,N,i,t,h⟩:=X.y2 (ks:=[]) rfl rfl;cases N;refine⟨ys,i,by grind,M.wf,?_,M.wff,?_⟩
 ·obtain⟨I,_⟩:=(aS u).mp M.al;exact(aS u).mpr ⟨I,trivial⟩
 ·have J:=h (ys++[v]) ((out++[d]).map OD.fz) λS H A C s O Z Q=>⟨A++C,by rw[aaE];exact Ows.append O Z,Q,λc U=>aak.mp U⟩
  have B:stk (vs++[.ref D]) (rs++[.val (.lst ((out++[d]).map OD.fz))])=stk vs rs++[(.ref D,.lst ((out++[d]).map OD.fz))]:=by rw[aH u];rfl
  rw[B];refine J.perm ?_;rw[aab];exact aav.symm
theorem DX{Y:Type}(A B C T F:List Y):(A++(B++(C++(T++F)))).Perm (B++(A++((T++C)++F))):=by refine(abO A B _).trans (aa7 _ (aa7 _ ?_));rw[<-aab];exact aa6.append_right _
abbrev DC:=DEnv->(List PyData->DEnv->Prop)->Prop
def tM(K:Waa)(tc:TC)(C:DC):Prop:=∀(b:Bs) (F:List Fr) (L:St) (H:Hp) (I:DEnv) (vs:List V) (U:List OR) (D:Addr) (v:List PyData) (Qd:List PyData->DEnv->Prop) (Q:Hp->Prop),b.K=K->vs.length=U.length->v.length<1000000->Rel b F L H I (vs++[.ref D]) (U++[.val (.lst (v.map OD.fz))])->C I Qd ->
 (∀l p o,Rel b F L l p (vs++[.ref D]) (U++[.val (.lst ((v++o).map OD.fz))])->o.length<=1->Qd o p->Q l)->tc D L H Q
inductive PDc (Y:Cx)(ifs:List Expr)(elt:Expr)(dc:DC):Prop|mk (tc:TC) (h:∀D,oq Y D ifs elt tc) (s:tM Y.K tc dc)
section
variable{K:Waa}
def wc(a:DE):DC:=λI Q=>a I λr A=>∃d o,frz1 A r=some (d,o)/\Q [d] o
theorem mz(s:bI K ta da):tM K (qf ta) (wc da):=λb F L H Y c U D X w Q T u f R h q=>s b F L H Y _ _ _ _ T R h λv P r A M ⟨d,o,e,O⟩=>by obtain⟨j,i,t,I⟩:=(M.frz1 e).grow u;exact⟨j,i,aas (by lia) (by decide:1000001<=sizeLine),q _ _ _ I (aac _) O⟩
theorem tN:PDe Y elt da->PDc Y [] elt (wc da)
 |⟨_,h,s⟩=>⟨_,λD=>sO h,mz s⟩
def zH(t:DT)(a:DE):DC:=λI Q=>t I λk A=>if k=true then wc a A Q else Q [] A
theorem we:PDt Y c dT->PDe Y elt da->PDc Y [c] elt (zH dT da)
 |⟨_,O,s1⟩,⟨_,h2,s2⟩=>⟨_,λD=>vk O h2,λb F σ H ρ vs rs D out w Q T u d R h q=>s1 b F σ H ρ _ _ _ _ T R h λk P ρ1 M O=>by
  cases k with
  |true=>rw[if_pos rfl]at O ⊢;exact mz s2 b F σ P ρ1 vs rs D out _ _ T u d M O q
  |false=>grind⟩
def qp(C:DI)(nt:Nat)(fr:List Nat)(g:DG)(t:DC):DE:=λI Q=>C I λD A=>D.length<1000000/\∃S s,cD A fr=some (S,s)/\∃B:Nat->List PyData->DEnv->Prop,B 0 [] (List.replicate nt none++S) /\
 (∀k d v I,D[k]?=some d->B k v I->g (.fz d) I λp=>t p λo f=>B (k+1) (v++o) f)/\∀v I,B D.length v I->Q (.val (.lst (v.map OD.fz))) (ei s fr (I.drop nt))
theorem DY{Y:Type}(x:Y)(S L P T C F:List Y):(x::(S++((L++P)++((T++C)++F)))).Perm (L++((x::(S++T))++(P++(C++F)))):=by
 have e:x::(S++((L++P)++((T++C)++F)))=x::(S++(L++(P++(T++(C++F))))):=by simp
 rw[e];refine List.Perm.trans ?_ aav.symm;refine List.Perm.cons _ ((abO S L _).trans (aa7 _ ?_));show (S++(P++(T++(C++F)))).Perm ((S++T)++(P++(C++F)));rw[aab];exact aa7 _ (abO P T _)
def SndY{Y:Type}(C:Y->OD)(X:Y->Nat)(K:Waa)(tc:TC)(da:Y->DEnv->(Y->DEnv->Prop)->Prop):Prop:=∀(b:Bs) (F:List Fr) (L:St) (H:Hp) (I:DEnv) (vs:List V) (U:List OR) (D:Addr) (v:Y) (Qd:Y->DEnv->Prop) (Q:Hp->Prop),b.K=K->vs.length=U.length->X v<1000000->Rel b F L H I (vs++[.ref D]) (U++[.val (C v)])->da v I Qd ->
 (∀l p o,Rel b F L l p (vs++[.ref D]) (U++[.val (C o)])->X o<=X v+1->Qd o p->Q l)->tc D L H Q
abbrev TZ:=Addr->TB
def GR{Y:Type}(C:Y->OD)(X:Y->Nat)(K:Waa)(nt:Nat)(tc:TZ)(da:Y->DEnv->(Y->DEnv->Prop)->Prop):Prop:=∀(b:Bs) (F:List Fr) (L:St) (H:Hp) (I:DEnv) (vs:List V) (U:List OR) (D:Addr) (v:Y) (Qd:Y->DEnv->Prop) (Q:St->Hp->Prop),b.K=K->vs.length=U.length->NoRf Ff U->X v<1000000->Rel b F L H I (vs++[.ref D]) (U++[.val (C v)])->da v I Qd ->
 (∀z l p o,(∀j,nt<=j->z[j]?=L[j]?)->Rel b F z l p (vs++[.ref D]) (U++[.val (C o)])->X o<=X v+1->Qd o p->Q z l)->tc D L H Q
theorem SndY.z{Y:Type}{C:Y->OD}{X:Y->Nat}{nt:Nat}{tc:TC}{da:Y->DEnv->(Y->DEnv->Prop)->Prop}(h:SndY C X K tc da):GR C X K nt (λD σ H Q=>tc D σ H (Q σ)) da:=
 λb F σ H I c U D v w Q T u _ d R W q=>h b F σ H I c U D v w (Q σ) T u d R W λl p o g s A=>q σ l p o (λ_ _=>rfl) g s A
def tCZ(B:HO)(J:It)(nt:Nat)(fr:List Nat)(g:CC->TG)(tc:CC->TZ)(σ:St)(P:Hp)(Q:VK):Prop:=∀(c:CC) D,P D=none->JD J (g c) (tc c D) (bU nt fr σ) (upd P D B) λ_ l=>Q (.ref D) l
theorem tO{Y:Type}{C:Y->OD}{X:Y->Nat}{a0:Y}{B:HO}{nt:Nat}{fr:List Nat}{g:CC->TG}{tc:CC->TZ}{dg:DG}{da:Y->DEnv->(Y->DEnv->Prop)->Prop}(a4:∀{b:Bs}{H:Hp}{L:List (V×OD)}{D:Addr},Wd b H L->H D=none->Wd b (upd H D B) ((.ref D,C a0)::L))(l0:X a0=0)(Z:∀c,oF K Ff nt (g c) dg)(s3:∀c,GR C X K nt (tc c) da){b:Bs}{F:List Fr}{σ:St}{P:Hp}{ρ1 ρ2 S:DEnv}{τ vs:List V}{θ rs:List OR}{J:It}{ds:List PyData}{Iv:Nat->Y->DEnv->Prop}{Q:VK}(T:b.K=K)(u:vs.length=rs.length)(nr:NoRf Ff rs)
  (M:Rel b F σ P ρ1 (vs++τ) (rs++θ)) (it:jQ b J vs rs ds) (b0:ds.length<1000000) (hc:cD ρ1 fr=some (S,ρ2)) (i0:Iv 0 a0 (List.replicate nt none++S)) (step:∀k d out ρ,ds[k]?=some d->Iv k out ρ->dg (.fz d) ρ λp=>da out p λo a3=>Iv (k+1) o a3)
  (q:∀l D out p,Rel b F σ l (ei ρ2 fr (p.drop nt)) (.ref D::(vs++τ)) (.val (C out)::(rs++θ))->Iv ds.length out p->Q (.ref D) l):tCZ B J nt fr g tc σ P Q:=by
 intro O D hD;have w1:Wd b P (stk vs rs++(flat σ ρ1++(stk τ θ++ff F))):=M.wd.perm (by
  rw[aH u,aab];refine aa7 _ ?_;rw[<-aab,<-aab];exact aa6.append_right _)
 obtain⟨w2,I,a8⟩:=qo w1 M.wf hc;have s:=(aS u).mp M.al;have w3:=a4 w2 hD;have t:Rel b (⟨σ,ρ2,τ,θ⟩::F) (bU nt fr σ) (upd P D B) (List.replicate nt none++S) (vs++[.ref D]) (rs++[.val (C a0)]):=by
  refine⟨DW a8,(aS u).mpr ⟨nr.al0 s.1,trivial⟩,λf y=>?_,?_⟩
  ·rcases aaa.mp y with rfl|y
   ·exact⟨I,s.2⟩
   ·exact M.wff f y
  ·have ec:flat (bU nt fr σ) (List.replicate nt none++S)=flat (capV σ fr) S:=wb;rw[ec,aH u];refine w3.perm ?_;have ef:ff (⟨σ,ρ2,τ,θ⟩::F)=(stk τ θ++flat σ ρ2)++ff F:=rfl;rw[ef];have e0:stk [V.ref D] [OR.val (C a0)]=[(V.ref D,C a0)]:=rfl;rw[e0];refine List.Perm.trans (List.Perm.cons _ (DX (flat (capV σ fr) S) (stk vs rs) (flat σ ρ2) (stk τ θ) (ff F))) ?_;rw[aab (stk vs rs)];exact aav.symm
 refine⟨λi m z l=>m=ds.length-i/\i<=ds.length/\(∀j,nt<=j->z[j]?=(bU nt fr σ)[j]?)/\∃out p,X out<=i/\Rel b (⟨σ,ρ2,τ,θ⟩::F) z l p (vs++[.ref D]) (rs++[.val (C out)])/\Iv i out p,⟨_,rfl,aaB _,λ_ _=>rfl,a0,_,abD l0,t,i0⟩,?_⟩;rintro i m z l ⟨rfl,hi,a2,out,p,ho,R',a⟩;obtain⟨go,a1⟩:=it _ z l p [.ref D] [.val (C out)] R' i;by_cases v:i<ds.length
 ·obtain⟨g1,g2⟩:=go v;refine .inr ⟨g1,λx N hy=>?_⟩;have A:ds[i]?=some ds[i]:=aam v;have nn:NoRf Ff (rs++[.val (C out)]):=NoRf.app nr λr hr=>.inl ⟨_,aaw.mp hr⟩;refine Z O b _ z N p _ _ x _ _ _ T nn (g2 x N _ hy A) (step i _ out p A a) λa7 H3 a6 R3 k3 h3=>?_;exact s3 O b _ a7 H3 a6 vs rs D out _ _ T u nr (by omega) R3 h3 λb1 H4 a5 o k4 R4 lo h4=>⟨_,by omega,rfl,v,λj W=>(k4 j W).trans ((k3 j W).1.trans (a2 j W)),o,a5,by omega,R4,h4⟩
 ·have e:i=ds.length:=by omega
  subst e;refine .inl ⟨a1 rfl,q l D out p ?_ a⟩;have A:z.drop nt=capV σ fr:=by apply abP;intro j;rw[List.getElem?_drop,a2 _ (by omega)];unfold bU capV;rw[aa5 (by simp),abG,abH]
  have h:Wd b l ((.ref D,C out)::(stk vs rs++(flat z p++((stk τ θ++flat σ ρ2)++ff F)))):=R'.wd.perm (by
   rw[aH u];have e0:stk [V.ref D] [OR.val (C out)]=[(V.ref D,C out)]:=rfl;rw[e0,aab];exact aav)
  obtain⟨L0,U⟩:=gA (n:=nt) R'.wf;rw[U,A]at h;have w5:Wd b l (((.ref D,C out)::stk (vs++τ) (rs++θ))++(flat (capV σ fr) (p.drop nt)++(flat σ ρ2++ff F))):=by refine Wd.drops (L1:=L0) (h.perm ?_);rw[aH u];exact DY (.ref D,C out) (stk vs rs) L0 (flat (capV σ fr) (p.drop nt)) (stk τ θ) (flat σ ρ2) (ff F)
  have w:Wf (capV σ fr) (p.drop nt):=A▸R'.wf.drop;obtain⟨w6,a9⟩:=kN w5 I w;exact⟨a9,M.al,M.wff,w6⟩
theorem mB{Y:Type}{C:Y->OD}{X:Y->Nat}{a0:Y}{B:HO}{nt:Nat}{fr:List Nat}{g:CC->TG}{tc:CC->TC}{w:DG}{da:Y->DEnv->(Y->DEnv->Prop)->Prop}(i:∀{b:Bs}{H:Hp}{L:List (V×OD)}{D:Addr},Wd b H L->H D=none->Wd b (upd H D B) ((.ref D,C a0)::L))(A:X a0=0)(Z:∀c,oF K Ff nt (g c) w)(O:∀c,SndY C X K (tc c) da){b:Bs}{F:List Fr}{σ:St}{P:Hp}{ρ1 ρ2 S:DEnv}{τ vs:List V}{θ rs:List OR}{J:It}{ds:List PyData}{Iv:Nat->Y->DEnv->Prop}{Q:VK}(T:b.K=K)(u:vs.length=rs.length)(e:NoRf Ff rs)
  (M:Rel b F σ P ρ1 (vs++τ) (rs++θ)) (it:jQ b J vs rs ds) (N:ds.length<1000000) (U:cD ρ1 fr=some (S,ρ2)) (n:Iv 0 a0 (List.replicate nt none++S)) (step:∀k d out ρ,ds[k]?=some d->Iv k out ρ->w (.fz d) ρ λp=>da out p λo f=>Iv (k+1) o f)
  (q:∀l D out p,Rel b F σ l (ei ρ2 fr (p.drop nt)) (.ref D::(vs++τ)) (.val (C out)::(rs++θ))->Iv ds.length out p->Q (.ref D) l):tCZ B J nt fr g (tZ tc) σ P Q:=
 tO (tc:=tZ tc) i A Z (λc=>(O c).z) T u e M it N U n step q
theorem tP{C:DC}(Z:∀c,oF K Ff nt (g c) dg)(O:∀c,tM K (tc c) C){b:Bs}{F:List Fr}{Iv:Nat->List PyData->DEnv->Prop}(T:b.K=K)(u:vs.length=rs.length)(e:NoRf Ff rs)
  (M:Rel b F σ H1 ρ1 (vs++τ) (rs++θ)) (it:jQ b J vs rs ds) (N:ds.length<1000000) (U:cD ρ1 fr=some (inner,ρ2)) (n:Iv 0 [] (List.replicate nt none++inner)) (step:∀k d out ρ,ds[k]?=some d->Iv k out ρ->dg (.fz d) ρ λp=>C p λo f=>Iv (k+1) (out++o) f)
  (q:∀l D out p,Rel b F σ l (ei ρ2 fr (p.drop nt)) (.ref D::(vs++τ)) (.val (.lst (out.map OD.fz))::(rs++θ))->Iv ds.length out p->Q (.ref D) l):qg (λ_ _ k=>k J H1) nt fr g tc σ H1 Q:=
 mB (da:=λout ρ Q=>C ρ λo p=>Q (out++o) p) (λw h=>Wd.eg w rfl h) rfl Z (λc b F σ H ρ vs rs D out z Q T u i R h q=>O c b F σ H ρ vs rs D out (λo p=>z (out++o) p) Q T u i R h λl p o a s A=>q l p (out++o) a (by grind) A) T u e M it N U n step q
theorem mC(f:GM K wi di)(Z:∀c,oF K Ff nt (g c) dg)(O:∀c,tM K (tc c) dc):bI K (qg wi nt fr g tc) (qp di nt fr dg dc):=by intro b F L H I i z w Q T R h q;refine f b F L H I i z _ _ T R h λJ P W A C k u e M y m=>?_;obtain⟨N,S,o,U,B,n,s,Y⟩:=m;exact tP Z O T u e M y N U n s λl D v p j a=>q _ l _ _ (Rel.drops (Rel.zb j u) u) (Y v p a)
end
end
section
section
variable{K:Waa}
theorem PDg.ex{Y:CC->Cx}(T:∀c,(Y c).K=K)(h:∀c,PDg (Y c) Ff m tg dg):∃g:CC->TG,∀c,PG (Y c) tg (g c)/\oF K Ff m (g c) dg:=
 abQ (r:=λc g=>PG (Y c) tg g/\oF K Ff m g dg) λc=>(by obtain⟨o,O,f⟩:=h c;exact⟨o,O,T c▸f⟩)
theorem PDc.ex{Y:CC->Cx}(T:∀c,(Y c).K=K)(h:∀c,PDc (Y c) ifs elt dc):∃g:CC->TC,∀c,(∀D,oq (Y c) D ifs elt (g c))/\tM K (g c) dc:=
 abQ (r:=λc g=>(∀D,oq (Y c) D ifs elt g)/\tM K g dc) λc=>(by obtain⟨o,O,f⟩:=h c;exact⟨o,O,T c▸f⟩)
theorem zI(U:X.calm=true)(S:CompScope N nt fr X.N scope X.env.scope)(W:∀x,foldedSetIterable iter X.env x=pure x:=by intro _;rfl)(r:PDi X tg iter di)(m:∀c:CC,PDg (cC X N scope c) Ff nt tg dg)(j:∀c:CC,PDc (cC X N scope c) ifs elt dc):
  PDe X (.ListComp elt [⟨tg,iter,ifs,0⟩] scope pos) (qp di nt fr dg dc):=by
 obtain⟨Z,O,f⟩:=r;obtain⟨g,z⟩:=PDg.ex (K:=X.K) (Y:=λc=>cC X N scope c) (λ_=>rfl) m;obtain⟨T,Q⟩:=PDc.ex (Y:=λc=>cC X N scope c) (λ_=>rfl) j;exact⟨_,yY U S O (λc=>(z c).1) (λc D=>(Q c).1 D) W,mC f (λc=>(z c).2) λc=>(Q c).2⟩
end
def ba:List Bool->DEnv->List OR->Option (List OD×DEnv)
 |[],ρ,[]=>some ([],ρ)
 |true::ios,ρ,r::rs=>match mv1 ρ r with
  |some (x,ρ1)=>match ba ios ρ1 rs with|some (xs,ρ2)=>some (x::xs,ρ2)|none=>none
  |none=>none
 |false::ios,ρ,r::rs=>match frz1 ρ r with
  |some (d,ρ1)=>match ba ios ρ1 rs with|some (xs,ρ2)=>some (.fz d::xs,ρ2)|none=>none
  |none=>none
 |_,_,_=>none
noncomputable def eA:List Bool->List OR->List OD->DEnv->DEnv
 |true::ios,.rf j::rs,y::ys,ρ=>eA ios rs ys (ρ.set j (some y))
 |_::ios,_::rs,_::ys,ρ=>eA ios rs ys ρ
 |_,_,_,ρ=>ρ
theorem argsR_ok:∀{ios:List Bool}{vs:List V}{rs:List OR}{ρ p:DEnv}{xs:List OD}{τ:List V}{θ:List OR},Rel b F σ H ρ (vs++τ) (rs++θ)->vs.length=rs.length->ba ios ρ rs=some (xs,p)->Rel b F σ H p (vs++τ) (xs.map OR.val++θ)/\vs.length=xs.length
 |[],[],[],_,_,_,_,_,R,_,e=>by simp only[ba]at e;grind
 |true::ios,v::vs,r::rs,ρ,p,ds,τ,θ,R,e,h=>by
  simp only[ba]at h;split at h
  ·rename_i x ρ1 O;split at h
   ·rename_i xs ρ2 Z;cases h;have M:=Rel.mv1 R O;have L:vs.length=rs.length:=by grind
    obtain⟨t,B⟩:=argsR_ok (Rel.zb M L) L Z;exact⟨Rel.zv t (by grind),by grind⟩
   ·cases h
  ·cases h
 |false::ios,v::vs,r::rs,ρ,p,ds,τ,θ,R,e,h=>by
  simp only[ba]at h;split at h
  ·rename_i x ρ1 O;split at h
   ·rename_i xs ρ2 Z;cases h;have M:=Rel.frz1 R O;have L:vs.length=rs.length:=by grind
    obtain⟨t,B⟩:=argsR_ok (Rel.zb M L) L Z;exact⟨Rel.zv t (by grind),by grind⟩
   ·cases h
  ·cases h
 |_,[],_::_,_,_,_,_,_,_,e,_=>by grind
 |_,_::_,[],_,_,_,_,_,_,e,_=>by grind
 |[],_::_,_::_,_,_,_,_,_,_,_,h=>by trivial
 |true::_,[],[],_,_,_,_,_,_,_,h=>by trivial
 |false::_,[],[],_,_,_,_,_,_,_,h=>by trivial
theorem Rel.give(R:Rel b F σ H ρ (v::τ) (.val y::θ))(ev:σ[j]?=some (some v)):Rel b F σ H (ρ.set j (some y)) τ θ:=
 Rel.back R.wf (Rel.drop R).al R.wff ev (Wd.kq R.wd R.wf j)
theorem bP:∀{ios:List Bool}{vs:List V}{rs:List OR}{ys:List OD}{ρ:DEnv},Al σ vs rs->vs.length=ys.length->Rel b F σ H ρ (vs++τ) (ys.map OR.val++θ)->Rel b F σ H (eA ios rs ys ρ) τ θ
 |ios,[],[],[],ρ,_,_,R=>by cases ios with|nil=>exact R|cons i ios=>cases i<;>exact R
 |[],v::vs,r::rs,y::ys,ρ,al,e,R=>by
  have A:Al σ vs rs:=by cases r with|val _=>exact al|rf _=>exact al.2
  have:=bP (ios:=[]) A (by grind) (Rel.drop R)
  trivial
 |true::ios,v::vs,.rf j::rs,y::ys,ρ,al,e,R=>bP (ys:=ys) al.2 (by grind) (Rel.give R al.1)
 |true::ios,v::vs,.val x::rs,y::ys,ρ,al,e,R=>bP (ys:=ys) al (by grind) (Rel.drop R)
 |false::ios,v::vs,.rf j::rs,y::ys,ρ,al,e,R=>bP (ys:=ys) al.2 (by grind) (Rel.drop R)
 |false::ios,v::vs,.val x::rs,y::ys,ρ,al,e,R=>bP (ys:=ys) al (by grind) (Rel.drop R)
 |_,[],_::_,_,_,al,_,_=>by trivial
 |_,_::_,[],_,_,al,_,_=>by trivial
 |_,[],_,_::_,_,_,e,_=>by grind
 |_,_::_,_,[],_,_,e,_=>by grind
structure FnD (P:Program)(w:World)(K:Waa)(mg:Str->Option Value)(base:Heap)(k:Nat)(f:Addr)(fd:FuncData)(ps:List Str)(sp:DSp):Prop where
 ok:FnOk P w K mg base CX0 k f fd ps (toSp K sp)
 mono:vI sp
section
variable{X:Cx}
def Bz(sp:DSp)(ios:List Bool)(t:DA):DE:=λI Q=>t I λU A=>∃Y o,ba ios A U=some (Y,o)/\sp Y λx j=>Q (.val x) (eA ios U j o)
theorem wg(G:FnD X.prog X.w X.K X.mg X.base k f fd ps sp)(n:vJ X.K ta dt):bI X.K (Bj (toSp X.K sp) [] E0 ta) (Bz sp ios dt):=λb F L H N i S z Q T R h q=>n b F L H N i S _ _ T R h λc P U A u M ⟨Y,o,J,O⟩=>by
  obtain⟨t,B⟩:=argsR_ok M u J;have s:=((aS u).mp M.al).1;have w:=t.vals B;rw[aap,<-T];refine w.call B G.mono (G.mono _ _ _ (λx j C g v l D=>q v l _ _ ?_ C) O);have I:Rel b F L l o (v::(c++i)) (.val x::(j.map OR.val++S)):=by have W:=t.drops (by grind);refine⟨W.wf,(aS (by grind)).mpr ⟨fP g,W.al⟩,W.wff,?_⟩;show Wd b l ((v,x)::(stk (c++i) (j.map OR.val++S)++_));rw[aH (by grind),ck g,aab];omega
  exact bP s g (Rel.zb I (by grind))
theorem zJ{ios:List Bool} (G:FnD X.prog X.w X.K X.mg X.base k f fd ps sp) (D:Room k X.A) (N:Gl X x) (Y:X.mg x=some (.ref f)) (hk:PySem.W.keepIn X.K (.ref f)=true) (S:Binds X.K fd ps []) (Z:(x==("__debug__":Str))=false:=by decide)
  (n:starEach (e::es) X.env=(false,eval e X.env)::starEach es X.env:=by rfl) (z:(backTo pos (starEach es X.env)).any (·.1)=false:=by rfl):PDa X (e::es) dt->PDe X (.Call (.Name x p) (e::es) [] pos) (Bz sp ios dt)
 |⟨_,h1,s1⟩=>⟨_,qb (E:=E0) G.ok D N Y hk S .nil l9 h1 Z n z,wg G s1⟩
end
def GS:PyData->Bool
 |.int _=>true
 |.bool _=>true
 |.str _=>true
 |.none=>true
 |_=>false
theorem Fz.sc{K:Waa}(h:Fz K S H v d)(e:GS d=true):Sc v d:=by cases h<;>first|constructor|cases e
theorem Wd.kept0(w:Wd b H L)(k:Kp (λa=>a∈([]:List Addr)) H H'):Wd b H' L:=by
 obtain⟨A,P,Q,i⟩:=w.out;have I:=w.n7 P;have g:=λa o e=>k.k a o e aar;have J:∀a,a∈A->H' a=H a:=λa j=>by
  cases e:H a with
  |none=>exact absurd e (Ows.ne P a j)
  |some o=>grind
 refine⟨⟨A,Ows.step (k.weak λc U=>absurd U aar) (λc z=>.inl z) I J P,Q,i⟩,w.fr.trans (k.weak λc U=>absurd U aar),w.s0,λa Y e z=>?_⟩;have O:=(w.s0 a z).1;cases B:H a with
 |none=>exact O (w.fr.n a B)
 |some o=>
  grind
def DZ(sp:DSp)(t:DA):DE:=λI Q=>t I λU A=>∃D,fe A U=some D/\sp (D.map OD.fz) λx _=>∃d,x=.fz d/\GS d=true/\Q (.val (.fz d)) A
theorem D0{b:Bs}:∀{vs:List V}{ds:List PyData},FzA b.K S H vs ds->Ows b S H vs (ds.map OD.fz) []:=by
 intro vs;induction vs with
 |nil=>intro ds h;cases h;exact .nil
 |cons v vs Y=>intro ds h;cases h with|cons r t=>exact Ows.cons (.fz r) (Y t)
theorem wm(G:FnD X.prog X.w X.K X.mg X.base k f fd ps sp) (hr:Room k X.A) (N:Gl X x) (Y:X.mg x=some (.ref f)) (hk:PySem.W.keepIn X.K (.ref f)=true) (hb:Binds X.K fd ps []) (Z:(x==("__debug__":Str))=false:=by decide)
  (n:starEach (e::L) X.env=(false,eval e X.env)::starEach L X.env:=by rfl) (s:(backTo pos (starEach L X.env)).any (·.1)=false:=by rfl):PDa X (e::L) m->PDe X (.Call (.Name x p) (e::L) [] pos) (DZ sp m)
 |⟨_,O,s1⟩=>⟨_,qb (E:=E0) G.ok hr N Y hk hb .nil l9 O Z n s,λb F σ H I i S Qd Q T R h q=>s1 b F σ H I i S _ _ T R h λc P U a0 u M ⟨D,J,O⟩=>by
  have m:=M.dtL u J;rw[aap,<-T];have L:(λa=>a∈([]:List Addr)\/False)=λ_=>False:=funext λa=>by simp
  refine⟨λ_=>False,D.map OD.fz,[],λa z=>z.elim,λ_ _ _ z=>z,?_,abd,G.mono _ _ _ (λx j hx v l B kp y nB C=>?_) O⟩
  ·rw[L];exact D0 (b:=⟨b.K,P,λ_=>False,λa=>a∈[]⟩) (FzA.of0 m)
  ·obtain⟨d,hx,g,hq⟩:=hx;subst hx;cases y with
   |cons r t=>
    cases r with
    |fz r=>
     have o:=M.drops u;exact q v l _ _ (Rel.sc ⟨o.wf,o.al,o.wff,o.wd.kept0 kp⟩ (r.sc g)) hq⟩
theorem bK:∀{vs:List V}{n:Nat}{ρ:DEnv},flat (vs.map some++List.replicate n none) ρ=flat (vs.map some) ρ
 |[],0,_=>rfl
 |[],n+1,[]=>rfl
 |[],n+1,o::ρ=>by
  rw[aay,aaI,aa4];have:flat (none::List.replicate n none) (o::ρ)=flat (List.replicate n none) ρ:=by rfl
  rw[this];have:=bK (vs:=[]) (n:=n) (ρ:=ρ)
  trivial
 |v::vs,n,[]=>by rfl
 |v::vs,n,none::ρ=>by simp only[aal,aaK,bz];exact bK
 |v::vs,n,some x::ρ=>by simp only[aal,aaK,flat];rw[bK]
theorem iU:∀{vs:List V}{xs:List OD}{k:Nat},vs.length=xs.length->flat (vs.map some) (xs.map some++List.replicate k none)=vs.zip xs
 |[],[],0,_=>rfl
 |[],[],_+1,_=>rfl
 |v::vs,x::xs,k,e=>by simp only[aal,aaK,flat,abr];rw[iU (by grind)]
 |[],_::_,_,e=>by rfl
 |_::_,[],_,e=>by grind
theorem iV:∀{vs:List V}{xs:List OD}{k:Nat},vs.length=xs.length->Wf (vs.map some++List.replicate k none) (xs.map some++List.replicate k none)
 |[],[],0,_=>trivial
 |[],[],k+1,_=>by
  have:=iV (vs:=[]) (xs:=[]) (k:=k) rfl
  trivial
 |v::vs,x::xs,k,e=>iV (xs:=xs) (by grind)
 |[],_::_,_,e=>by grind
 |_::_,[],_,e=>by grind
def gB(N:Nat)(xs:List OD):DEnv:=xs.map some++List.replicate (N-xs.length) none
noncomputable def bQ:Nat->List Bool->List OD->DEnv->Option (List OD)
 |_,[],[],_=>some []
 |i,true::ios,_::xs,ρ=>match ρ[i]?.join with
  |some y=>match bQ (i+1) ios xs ρ with|some ys=>some (y::ys)|none=>none
  |none=>none
 |i,false::ios,.fz d::xs,ρ=>match bQ (i+1) ios xs ρ with|some ys=>some (.fz d::ys)|none=>none
 |_,_,_,_=>none
def WS(ios:List Bool):Nat->Prop:=λj=>ios[j]?=some true
noncomputable def iW:Nat->List Bool->List V->List V
 |i,true::ios,v::vs=>v::iW (i+1) ios vs
 |i,false::ios,_::vs=>iW (i+1) ios vs
 |_,_,_=>[]
noncomputable def fQ:Nat->List Bool->List OR
 |i,true::ios=>.rf i::fQ (i+1) ios
 |i,false::ios=>fQ (i+1) ios
 |_,[]=>[]
theorem kO:∀{ios:List Bool}{vs:List V}{i:Nat},ios.length=vs.length->(∀k v,vs[k]?=some v->σ[i+k]?=some (some v))->Al σ (iW i ios vs) (fQ i ios)
 |[],[],_,_,_=>trivial
 |true::ios,v::vs,i,e,h=>⟨h 0 v rfl,kO (ios:=ios) (by grind) λk u T=>by have:=h (k+1) u (by grind);grind⟩
 |false::ios,v::vs,i,e,h=>kO (i:=i+1) (by grind) λk u T=>by have:=h (k+1) u (by grind);grind
 |[],_::_,_,e,_=>by grind
 |true::_,[],_,e,_=>by grind
 |false::_,[],_,e,_=>by grind
theorem kP:∀{ios:List Bool}{i:Nat}{W:Nat->Prop},(∀k,ios[k]?=some true->W (i+k))->NoRf W (fQ i ios)
 |[],_,_,_=>λr D=>by trivial
 |true::ios,i,W,h=>λr D=>by
  simp only[fQ]at D;rcases aaa.mp D with rfl|D
  ·exact .inr ⟨i,h 0 rfl,rfl⟩
  ·exact kP (ios:=ios) (λk T=>by have:=h (k+1) (by grind);grind) r D
 |false::ios,i,W,h=>λr D=>kP (i:=i+1) (λk T=>by have:=h (k+1) (by grind);grind) r D
theorem fR:∀{ios:List Bool}{vs:List V}{i:Nat},stk (iW i ios vs) (fQ i ios)=[]
 |[],[],_=>rfl
 |[],_::_,_=>rfl
 |true::ios,[],i=>by rfl
 |false::ios,[],i=>by rfl
 |true::ios,v::vs,i=>fR (i:=i+1)
 |false::ios,v::vs,i=>fR (i:=i+1)
end
section
section
variable{K:Waa}
theorem Wd.addF(w:Wd b H L)(f:Fz b.K (λa=>b.C a\/b.S0 a) b.H0 v d):Wd b H ((v,.fz d)::L):=by
 obtain⟨A,P,Q,i⟩:=w.out;refine⟨⟨A,Ows.cons (.fz (f.step (w.fr.weak λc z=>.inl (.inl z)) λc z=>?_)) P,Q,i⟩,w.fr,w.s0,w.nt⟩
 grind
theorem gC:∀{ios:List Bool}{xs:List OD}{i j:Nat}{ρ:DEnv},j<i->bQ i ios xs (ρ.set j none)=bQ i ios xs ρ
 |[],[],_,_,_,_=>rfl
 |true::ios,_::xs,i,j,ρ,h=>by simp only[bQ];rw[aa0 (by lia),gC (by lia)]
 |false::ios,.fz d::xs,i,j,ρ,h=>by simp only[bQ];rw[gC (by lia)]
 |[],_::_,_,_,_,_=>rfl
 |true::_,[],_,_,_,_=>rfl
 |false::_,[],_,_,_,_=>rfl
 |false::_,.lst _::_,_,_,_,_=>rfl
 |false::_,.tup _::_,_,_,_,_=>rfl
 |false::_,.dic _ _::_,_,_,_,_=>rfl
 |false::_,.obj _ _ _::_,_,_,_,_=>rfl
 |false::_,.pin _ _ _::_,_,_,_,_=>rfl
 |false::_,.hole _::_,_,_,_,_=>rfl
 |false::_,.st _::_,_,_,_,_=>rfl
theorem kQ:∀{ios:List Bool}{vs:List V}{xs ys:List OD}{i:Nat}{ρ:DEnv}{L1:List (V×OD)},vs.length=xs.length->(∀(k:Nat) v d,vs[k]?=some v->xs[k]?=some (.fz d)->Fz b.K (λa=>b.C a\/b.S0 a) b.H0 v d)->bQ i ios xs ρ=some ys ->
  Al σ (iW i ios vs) (fQ i ios)->Wf σ ρ->Wd b H (L1++flat σ ρ)->vs.length=ys.length/\∃R,Wd b H (L1++(vs.zip ys++R))
 |[],[],[],ys,i,ρ,L1,_,_,e,_,_,w=>by simp only[bQ]at e;cases e;exact⟨rfl,_,w⟩
 |true::ios,v::vs,x::xs,ys,i,ρ,L1,el,hf,e,al,wf,w=>by
  simp only[bQ]at e;split at e
  ·rename_i y m;split at e
   ·rename_i N B;cases e;have f:=al.1;have Q:Wd b H ((L1++[(v,y)])++flat σ (ρ.set i none)):=w.perm (by
     rw[aab];exact(bA (join_some m) f).append_left _)
    obtain⟨s,R,X⟩:=kQ (by simpa using el) (λk u d O Z=>hf (k+1) u d (by grind) (by grind)) (by rw[gC (by lia)];omega) al.2 wf.off Q;exact⟨by grind,R,by simp_all⟩
   ·cases e
  ·cases e
 |false::ios,v::vs,.fz d::xs,ys,i,ρ,L1,el,hf,e,al,wf,w=>by
  simp only[bQ]at e;split at e
  ·rename_i N B;cases e;have Q:Wd b H ((L1++[(v,.fz d)])++flat σ ρ):=(w.addF (hf 0 v d rfl rfl)).perm (by
    rw[aab];exact aav.symm)
   obtain⟨s,R,X⟩:=kQ (by grind) (λk u d O Z=>hf (k+1) u d (by grind) (by grind)) B al wf Q;exact⟨by grind,R,by simp_all⟩
  ·cases e
 |[],_::_,_::_,_,_,_,_,_,_,e,_,_,_=>by trivial
 |true::_,[],[],_,_,_,_,_,_,e,_,_,_=>by trivial
 |false::_,[],[],_,_,_,_,_,_,e,_,_,_=>by trivial
 |false::_,_::_,.lst _::_,_,_,_,_,_,_,e,_,_,_=>by trivial
 |false::_,_::_,.tup _::_,_,_,_,_,_,_,e,_,_,_=>by trivial
 |false::_,_::_,.dic _ _::_,_,_,_,_,_,_,e,_,_,_=>by trivial
 |false::_,_::_,.obj _ _ _::_,_,_,_,_,_,_,e,_,_,_=>by trivial
 |false::_,_::_,.pin _ _ _::_,_,_,_,_,_,_,e,_,_,_=>by trivial
 |false::_,_::_,.hole _::_,_,_,_,_,_,_,e,_,_,_=>by trivial
 |false::_,_::_,.st _::_,_,_,_,_,_,_,e,_,_,_=>by trivial
 |_,[],_::_,_,_,_,_,e,_,_,_,_,_=>by grind
 |_,_::_,[],_,_,_,_,e,_,_,_,_,_=>by grind
theorem Ows.fzAt:∀{vs:List V}{xs:List OD}{A:List Addr}{k:Nat}{v:V}{d:PyData},Ows b S H vs xs A->vs[k]?=some v->xs[k]?=some (.fz d)->Fz b.K S H v d
 |_,_,_,0,_,_,.cons r _,e,e'=>by simp at e e';subst e e';cases r with|fz f=>exact f
 |_,_,_,k+1,_,_,.cons _ t,e,e'=>Ows.fzAt (k:=k) t (by simpa using e) (by simpa using e')
 |_,_,_,_,_,_,.nil,e,_=>by simp at e
theorem Fun.okD{J:Stmt}(F:Fun K x qual J f fd)(S:FnScope N ps (aK J))(a2:vI sp)(a4:ios.length=ps.length)(len:∀xs Q,sp xs Q->xs.length=ps.length)
  (a1:∀(L:Value) (A:Around) (M:List Env) (s:Shared) (H:Hp) (E:XK),Room k (A.deeper (envOfC qual (aK J) s.heap.objs.size f L))->∀(xs:List OD) (Q:OD->List OD->Prop),sp xs Q ->
   ∃n,PDss (kC CX0 P w K mg base N qual (aK J) f L A M s H E).xc (WS ios) (bC J) n/\n { nx:=λI=>∃j,bQ 0 ios xs I=some j/\Q (.fz .none) j,rt:=λx I=>∃j,bQ 0 ios xs I=some j/\Q x j } (gB N.length xs)):FnD P w K mg base (k+1) f fd ps sp:=by
 refine⟨F.ok S (λvs H Q E h=>?_) (λL A M s H vs Q E D h=>?_),a2⟩
 ·obtain⟨S,xs,A,_,_,y,_,h⟩:=h;rw[y.len]
  grind
 ·obtain⟨S',xs,m,al,nt,y,nA,h⟩:=h;obtain⟨n,⟨ts,O,s1⟩,W⟩:=a1 L A M s H E D xs _ h;refine⟨ts,O,?_⟩
  let b:Bs:=⟨K,H,S',λa=>a∈m⟩
  have u:=y.len;have a5:=len _ _ h;have w0:Wd b H (vs.zip xs):=⟨⟨m,OwL.j1 y,nA,λa ha=>.inr ha⟩,Kp.refl _ _,λa z=>⟨(al a z).1,(al a z).2⟩,nt⟩
  have sg:∀(k:Nat) v,vs[k]?=some v->(start N vs)[0+k]?=some (some v):=λk v e=>by have T:=(aah.mp e).1;unfold start;rw[aaQ,aa8 (by simpa using T),aaz,e];rfl
  have R:Rel b [] (start N vs) H (gB N.length xs) (iW 0 ios vs) (fQ 0 ios):=by unfold start gB;refine⟨by rw[u];exact iV u,kO (by lia) sg,λf hf=>(by cases hf),?_⟩;rw[fR];show Wd b H ([]++(flat _ _++[]));rw[aaI,aap,bK,iU u];exact w0
  have Y:∀(a0:St) (l:Hp) (p:DEnv) (v:V) (x:OD),Rel b [] a0 l p (v::iW 0 ios vs) (.val x::fQ 0 ios)->(∃j,bQ 0 ios xs p=some j/\Lb K S' m vs H Q x j)->Q v l:=λa0 l p v x g ⟨j,ey,ha⟩=>by
   have w':Wd b l ([(v,x)]++flat a0 p):=by have:=g.wd;simp only[stk]at this;rw[fR]at this;simpa[ff] using this
   obtain⟨a3,Z,X⟩:=kQ u (λk v d O h2=>(Ows.fzAt y O h2).sub λa z=>z) ey g.al g.wf w';have e1:[(v,x)]++(vs.zip j++Z)=(v::vs).zip (x::j)++Z:=rfl;rw[e1]at X;obtain⟨B0,h0,nd,i⟩:=X.out;have U:=X.n7 h0;obtain⟨B,o,rfl,r,t⟩:=OwL.eu h0;refine ha v l B X.fr (Ows.sub U (λc z=>z.imp (aaf _) id) (OwL.wh (by simp[a3]) r)) (aau.mp nd).1 λa q=>i a (aaf _ q)
  refine s1 b [] (start N vs) H _ _ _ _ _ rfl (kP λk T=>?_) R W ⟨λa0 l p g C=>?_,λ_ _ _ _ C=>C.elim,λ_ _ _ _ C=>C.elim,Y⟩
  ·rw[aaQ];exact T
  ·exact Y a0 l p .non _ (g.sc .non) C
end
end
section
section
variable{X:Cx}
section
variable{e st:Expr}
end
end
end
section
end
section
open MeetsSeq
theorem gE{M:Model}{A:Around}{E:Value->Shared->Prop}{s:Shared}{C:Type}(n:Nat)(f:Nat->C->Sem (ForInStep C))(I:Nat->C->Shared->Prop)(Q:C->Shared->Prop)
  (H:∀i b s,i<n->I i b s->wpAny M A (f i b) (λr B=>match r with|.yield b'=>I (i+1) b' B|.done b'=>Q b' B) E s)
  (fin:∀b s,I n b s->Q b s) (b:C) (h:I 0 b s):wpAny M A (forIn [0:n] b f) Q E s:=by
 rw[Std.Legacy.Range.forIn_eq_forIn_range'];refine wpAny_forIn_list f (λl b s=>∃i,l=List.range' i (n-i)/\i<=n/\I i b s) Q ?_ ?_ _ b ⟨0,by simp,aaB _,h⟩
 ·rintro x T b s ⟨i,e,a,W⟩;have v:i<n:=by
   by_cases P:i<n
   ·lia
   ·simp_all
  rw[show n-i=(n-(i+1))+1 by lia,List.range'_succ]at e;obtain⟨rfl,rfl⟩:=List.cons.inj e;refine thn (H x b s v W) λr B D=>?_
  grind
 ·grind
theorem mD(l:Addr)(items:Array Value)(n:Nat)(dd:Option Addr)(Z:Array (Option Value))(x:Value)(e:Value->Bool)(a:∀y,y∈items->EqGives y x (e y))(j:Nat)(W:j<items.size)
  (k:e items[j]=true) (P:∀m (Y:m<items.size),m<j->e items[m]=false):
  Meets (Builtin.«tuple.index» ⟨[.ref l,x],[]⟩)
   (λ_ R s=>s.heap.get? l=some { cls:=.type "tuple",dict:=dd,data:=.seq items n,slots:=Z }/\R (.ok (.ret (.int j s.toks))) { s with toks:=s.toks+1 }):=
 .of_wp λp w A R s h=>by
  obtain⟨C,g,d,f,F⟩:=s;obtain⟨t,h⟩:=h
  wp_walk using acV t,gE _ _ (λi b B=>b.1=none/\B=⟨C,g,d,f,F⟩/\i<=j) _
  ·rintro i b B r ⟨S,rfl,z⟩;have v:i<items.size:=by lia
   rw[show items[i]?=some items[i] from Array.getElem?_eq_getElem v];refine acs (a _ (Array.getElem_mem v) p w _ _ _ _ ?_);by_cases J:i=j
   ·subst J;rw[k]
    wp_walk
    grind
   ·rw[P i v (by lia)]
    wp_walk
    grind
  ·grind
  ·simp
end
section
def BA(n:Int):Value->Bool
 |.int a _=>a==n
 |_=>false
theorem tQ:MtR X "tuple.index" (λx vs H Q=>∃(l:Addr) (ns:List Int) (n:Int) (j:Nat),x=.ref l/\vs=[.int n]/\SqT X.K H l (ns.map V.int)/\ns[j]?=some n/\(∀m,m<j->ns[m]?≠some n)/\Q (.int j) H):=by
 intro M s L H x vs v us Q I rx O h;obtain⟨l,ns,n,j,rfl,rfl,g,W,P,q⟩:=h;cases rx;obtain⟨u,rfl,p⟩:=O.one;obtain⟨t,rfl⟩:=p;obtain⟨D,r,p1,_⟩:=I.tuple g;have S:D.length=ns.length:=by rw[<-r.length,aae]
 have T:∀m (Y:m<D.length),∃a t',D[m]=.int a t'/\ns[m]?=some a:=λm Y=>by
  have C:m<ns.length:=by omega
  obtain⟨u,U,p⟩:=r.get (i:=m) (x:=.int ns[m]) (by rw[aaz,aam C];rfl);obtain⟨t',rfl⟩:=p;refine⟨ns[m],t',?_,aam C⟩;have:=(aah.mp U).2;exact this
 have N:j<D.length:=by have:=(aah.mp W).1;omega
 have k:BA n D.toArray[j]=true:=by obtain⟨a,t',J,B⟩:=T j N;rw[W]at B;cases B;show BA n D[j]=true;rw[J];simp[BA]
 have d:∀m (Y:m<D.toArray.size),m<j->BA n D.toArray[m]=false:=λm Y f=>by obtain⟨a,t',J,B⟩:=T m Y;show BA n D[m]=false;rw[J];have:a≠n:=λz=>P m f (z▸B);simp[BA,this]
 have w:∀y,y∈D.toArray->MeetsSeq.EqGives y (.int n t) (BA n y):=λy hy=>by obtain⟨m,Y,rfl⟩:=List.getElem_of_mem (List.mem_toArray.mp hy);obtain⟨a,t',J,B⟩:=T m Y;rw[J];exact MeetsSeq.EqGives.int a n t' t
 obtain⟨⟨oc,od,dt,Z⟩,c,ec,n0,A⟩:=p1;cases ec;cases A;refine acL F.slot_tuple_index ⟨_,c,rfl⟩ F.entry_tuple_index (F.args_tuple_index_2 _ _) (mD l D.toArray n0 od Z (.int n t) (BA n) w j N k d) ⟨c,?_⟩;exact⟨.int j,H,I.kept (t':=s.toks+1) λb o e=>e,⟨_,rfl⟩,q⟩
end
section
def rn2(i j:Int):Nat:=((j-i+1)/2).toNat
theorem wo{a b:Int}(h:a<=b):Builtin.Range.rangeSize a b 2=(rn2 a b:Int):=by
 unfold Builtin.Range.rangeSize rn2
 grind
def oI(lo:Int)(n:Nat):List PyData:=(List.range n).map λ(i:Nat)=>PyData.int (lo+(i:Int)*2)
theorem mF(lo:Int)(n:Nat):(oI lo n).length=n:=by simp[oI]
theorem tR(b:Bs)(lo:Int)(n:Nat):jQ b (JQ lo 2 n) [] [] (oI lo n):=λF L H I i S R k=>by rw[mF];refine⟨λh=>⟨h,λx N d ⟨J,B⟩ W=>?_⟩,λe=>by subst e;exact aac _⟩;subst J B;unfold oI at W;rw[aaz]at W;obtain⟨j,O,rfl⟩:=aaJ.mp W;obtain⟨Z,M⟩:=aah.mp O;simp at Z M;subst M;exact Rel.sc R (.int _)
def GT(t:DA):DI:=λI Q=>t I λU A=>∃i j,fe A U=some [.int i,.int j,.int 2]/\(0<=i/\i<=j/\j<=1000000)/\Q (oI i (rn2 i j)) A
theorem oJ{m:DA} (N:Gl X "range") (Y:X.mg "range"=none) (g:starEach [a,b,c] X.env=[(false,eval a X.env),(false,eval b X.env),(false,eval c X.env)]) (d:starEach [b,c] X.env=[(false,eval b X.env),(false,eval c X.env)]):PDa X [a,b,c] m->PDi X tg (.Call (.Name "range" p) [a,b,c] [] pos) (GT m)
 |⟨_,h,s⟩=>⟨_,th N Y h g d,λb F σ H ρ τ θ w Q T R h q=>s b F σ H ρ τ θ _ _ T R h λvs P rs ρ1 u M ⟨i,j,e,S,O⟩=>by
  have W:=M.dtL u e;cases W with
  |cons r t=>cases t with|cons f t=>cases t with|cons U t=>cases t;cases r;cases f;cases U;exact⟨i,j,2,rn2 i j,rfl,by omega,wo S.2.1,q _ P _ ρ1 [] [] rfl (λr D=>by grind) (M.drops u) (tR b i _) O⟩⟩
end
section
set_option backward.match.sparseCases true in
theorem mG{prog:Program}{w:World}{A:Around}{E:Value->Shared->Prop}(t:s.heap.IsTuple l vs.toArray)(k:vs.length<=1000)
  (h:∀h',(∀b o,s.heap.get? b=some o->h'.get? b=some o)->Q vs { s with heap:=h' }):wpAny (model prog w) A (collect (.ref l)) Q E s:=by
 obtain⟨o,j,U,n,W⟩:=id t;unfold collect;refine acs (wpAny_runValue (codeAny_builtin entry_proto_collect' ?_));show wpAny _ _ (newList [] >>= λr=>again (.builtin "list.__iadd__" ⟨[r,.ref l],[]⟩)) _ _ s;refine acs (wpAny_newList (acv ⟨Code.quiet_builtin _ (by decide +kernel),codeAny_builtin entry_list_iadd' ?_⟩));generalize hH:s.heap.push (seqObj "list" #[] 0)=g;show wpAny _ _ (Builtin.List.listExtendWith (.ref s.heap.objs.size) (.ref l) (.ref s.heap.objs.size)) _ _ { s with heap:=g };have a:g.get? s.heap.objs.size=some (seqObj "list" #[] 0):=by rw[<-hH];exact acx _ rfl
 have T:g.get? l=some o:=by rw[<-hH];exact acw _ j
 have Z:1000<=sizeLine:=by decide
 unfold Builtin.List.listExtendWith;refine acs (wpAny_typeOf ⟨o,T,U⟩ ?_);have u:(Value.type "tuple" == Value.type "tuple")=true:=by rfl
 rw[if_pos (by simp)];refine acs (listItems_at T W (acs (listItems_at a rfl ?_)));rw[if_neg (by simp)];refine acs (listUpdate_at a rfl ?_ (aaB _) (by grind));refine acv ?_;show wpAny (model prog w) A (load s.heap.objs.size >>= λo=>match o.data with
   |.seq xs _=>pure xs.toList
   |_=>unsupported "internal:collect") Q E _
 refine acs (wpAny_load (get?_update_seq a _) ?_);show wpAny _ _ (pure ((#[]:Array Value)++vs.toArray).toList) Q E _;rw[show ((#[]:Array Value)++vs.toArray).toList=vs by simp];refine acv (h _ λb o e=>?_);have J:b≠s.heap.objs.size:=aao (acu e);rw[Heap.get?_update_ne _ _ _ _ J,<-hH];exact acw _ e
end
section
end
end L2
namespace L2
open PySem PySem.Spec PyProof.Rows PySem.Builtin PySem.Builtin.Str
section
variable{X:Cx}
end
end L2
namespace L2
open PySem PySem.Spec PyProof.Rows
section
section
variable{X:Cx}{a b:Expr}{es:List Expr}{dt:DA}{pos p:Pos}
end
end
section
section
variable{X:Cx}{tg:Expr}{pos p:Pos}
end
end
section
open Sem (wp)
section
variable{X:Cx}{a b:Expr}{es:List Expr}{p pos kp:Pos}
end
end
section
inductive Bo where|add|sub|mul|fdiv|mod|pow
inductive Co where|lt|le|gt|ge|eq|ne|inn|nin
inductive O2 where|ixs|cts|tin|tni|sws|ews|six
inductive Bl where|len|abs|max|min|int|all
inductive Knd where|int|bool|str|list|tuple|seq
inductive Bn where|list|tuple|sorted
inductive Acc where|fld (c f:Str)|ix (k:Int)|key (j:Nat)
inductive Tg where|nm (i:Nat)|tp (ts:List Nat)
mutual
inductive E where
 |nm (i:Nat)|mv (i:Nat)|int (k:Int)|str (x:Str)|bl (b:Bool)|non|gc (g:Nat)
 |bop (o:Bo) (a b:E)|cat (a b:E)|rep (a b:E)
 |cmp (o:Co) (a b:E)|cmp2 (o o':Co) (a b c:E)|isn (neg:Bool) (a:E)
 |and (a b:E)|or (a b:E)|not (a:E)|neg (a:E)|ife (c a b:E)
 |tup (es:Es)|lst (es:Es)|ix (a b:E)
 |call (f:Nat) (es:Es)|callS (f:Nat) (es:Es)|blt (f:Bl) (es:Es)|bnw (f:Bn) (e:E)|isi (k:Knd) (a:E)|idx (a b:E)|dgt (i:Nat) (e:E)|dnew
 |pg (i:Nat) (ps:List Acc)|pf (i:Nat) (ps:List Acc)|pl (i:Nat) (ps:List Acc)|pt (i:Nat) (ps:List Acc)|pin (neg:Bool) (e:E) (i:Nat) (ps:List Acc)|din (neg:Bool) (e:E) (i:Nat) (ps:List Acc)
 |comp (nt:Nat) (fr:List Nat) (it:It') (tg:Tg) (ifs:Eo) (elt:E)
 |meth (c m:Str) (f:Nat) (i:Nat) (es:Es)|make (c:Str) (f:Nat) (es:Es)
inductive Es where|nil|cons (e:E)(es:Es)
inductive Eo where|none|some (e:E)
inductive It' where|seq (e:E)|rg1 (e:E)|rg3 (a b:E)|enm (e:E)|zip (a b:E)
end
mutual
inductive S' where
 |ex (e:E)|set (i:Nat) (e:E)|asg (t:Tg) (e:E)|par (is:List Nat) (es:Es)|aug (i:Nat) (o:Bo) (e:E)|agl (i:Nat) (e:E)
 |ret (e:E)|iff (c:E) (a b:Ss)|whl (c:E) (b:Ss)|fr (t:Tg) (it:It') (b:Ss)|cont
 |app (i:Nat) (e:E)|apd (i:Nat) (ps:List Acc) (e:E)|sti (i:Nat) (k e:E)|sdk (i:Nat) (k e:E)|std (i:Nat) (ps:List Acc) (j:Nat) (e:E)
 |sdc (i nt:Nat) (fr:List Nat) (it:It') (tg:Tg) (ke ve:E)|stf (i:Nat) (c f:Str) (e:E)|agf (i:Nat) (c f:Str) (o:Bo) (e:E)
inductive Ss where|nil|cons (s:S')(ss:Ss)|ali (i:Nat)(ps:List Acc)(j:Nat)(ss:Ss)
end
structure Fn where
 io:List Bool
 n:Nat
 body:Ss
structure Ct where
 io:Nat->List Bool
 call:Nat->List OD->Option (OD×List OD)
 mak:Nat->List OD->Option (OD×List OD)
 gv:Nat->PyData
 wf:Nat
noncomputable def tS:OD->Option PyData|.fz d=>some d|_=>none
def nS:OD->Option (List OD)|.lst xs=>some xs|_=>none
def BB:OD->Option (List Key×List OD)|.dic ks xs=>some (ks,xs)|_=>none
def GU:OD->Option (Str×List Str×List OD)|.obj c ns xs=>some (c,ns,xs)|_=>none
noncomputable def Ld(x:OD):Option (List OD):=match x with|.lst xs=>some xs|.tup xs=>some xs|_=>none
noncomputable def fL:PyData->Option Int|.int i=>some i|_=>none
def IT:PyData->Option Bool|.bool k=>some k|_=>none
def J8:PyData->Option (List PyData)|.list ds=>some ds|_=>none
def tT:PyData->Option (List PyData)|.list ds=>some ds|.tuple ds=>some ds|_=>none
def J9:OR->Option (List OD)|.val x=>nS x|_=>none
noncomputable def gd(c:Prop)[Decidable c]:Option Unit:=if c then some () else none
noncomputable def fg{Y:Type}:List Y->Option Y|[x]=>some x|_=>none
noncomputable def zK{Y:Type}:List Y->Option (Y×Y×Y)|[x,y,z]=>some (x,y,z)|_=>none
noncomputable def kR{Y:Type}:List Y->Option (Y×Y)|[x,y]=>some (x,y)|_=>none
def Le(w:OD×List OD):Option (OD×List OD):=(tS w.1).bind λd=>match d,w.2 with|.none,y::ys=>some (y,ys)|_,_=>none
def Lf:Bo->Int->Int->Option Int
 |.add,i,j=>some (i+j)
 |.sub,i,j=>some (i-j)
 |.mul,i,j=>(gd ((-(2^64)<i/\i<2^64)\/(-(2^64)<j/\j<2^64))).bind λ_=>some (i*j)
 |.fdiv,i,j=>(gd (0<j/\j<1073741824)).bind λ_=>some (i/j)
 |.mod,i,j=>(gd (0<j)).bind λ_=>some (i%j)
 |.pow,i,j=>(gd (0<=j/\j<=1000000/\i.natAbs<2^64)).bind λ_=>some (i^j.toNat)
def yE(o:Bo)(x y:PyData):Option PyData:=(fL x).bind λi=>(fL y).bind λj=>(Lf o i j).bind λk=>some (.int k)
def IU(x y:PyData):Option Bool:=match vM x y with
 |some k=>some k
 |none=>if SeqAt.shaped x&&SeqAt.shaped y then some (PyData.eqv x y) else none
def inA(x y:PyData):Option Bool:=(tT y).bind λD=>(gd (FK x=true)).bind λ_=>memD x D
def oK(o:Co)(x y:PyData):Option Bool:=match o with
 |.lt=>(fL x).bind λi=>(fL y).bind λj=>some (decide (i<j))
 |.le=>(fL x).bind λi=>(fL y).bind λj=>some (decide (i<=j))
 |.gt=>(fL x).bind λi=>(fL y).bind λj=>some (decide (j<i))
 |.ge=>(fL x).bind λi=>(fL y).bind λj=>some (decide (j<=i))
 |.eq=>IU x y
 |.ne=>(IU x y).bind λk=>some (!k)
 |.inn=>inA x y
 |.nin=>(inA x y).bind λk=>some (!k)
noncomputable def kS:PyData->Option Bool
 |.none=>some false|.bool b=>some b|.int i=>some (i !=0)
 |.list ds=>some (!ds.isEmpty)|.tuple ds=>some (!ds.isEmpty)
 |_=>none
noncomputable def BC:Knd->PyData->Bool
 |.int,.int _=>true|.int,.bool _=>true|.bool,.bool _=>true|.str,.str _=>true|.list,.list _=>true|.tuple,.tuple _=>true|.seq,.list _=>true|.seq,.tuple _=>true
 |_,_=>false
def gU:List PyData->Option (List Int)
 |[]=>some []
 |d::ds=>(fL d).bind λi=>(gU ds).bind λr=>some (i::r)
def zL(f:Bl)(ds:List PyData):Option PyData:=match f with
 |.len=>(fg ds).bind λd=>(jP d).bind λn=>some (.int n)
 |.abs=>(fg ds).bind λd=>(fL d).bind λi=>some (.int (if i<0 then -i else i))
 |.max=>(kR ds).bind λz=>(fL z.1).bind λi=>(fL z.2).bind λj=>some (.int (if j>i then j else i))
 |.min=>(kR ds).bind λz=>(fL z.1).bind λi=>(fL z.2).bind λj=>some (.int (if j<i then j else i))
 |.int=>(fg ds).bind λd=>(toInt d).bind λi=>some (.int i)
 |.all=>(fg ds).bind λd=>(J8 d).bind λL=>(allB L).bind λN=>some (.bool (N.all id))
noncomputable def insI(i:Int):List Int->List Int
 |[]=>[i]
 |j::r=>if i<=j then i::j::r else j::insI i r
def sortI:List Int->List Int
 |[]=>[]
 |i::r=>insI i (sortI r)
noncomputable def keyOf:PyData->Option Key
 |.int i=>some (.inl i)
 |.str x=>some (.inr x)
 |_=>none
noncomputable def Ka:OR->Option (List PyData)|.val (.fz (.tuple ds))=>some ds|_=>none
def dgV(ks:List Key)(xs:List OD)(k:Key):Option PyData:=match ks.findIdx? (λq=>decide (q=k)) with
 |some j=>(xs[j]?).bind tS
 |none=>some .none
def accN(ρ:DEnv)(x:OD):Acc->Option Nat
 |.fld c f=>(GU x).bind λq=>(gd (q.1=c)).bind λ_=>q.2.1.findIdx? (λg=>decide (g=f))
 |.ix k=>(Ld x).bind λxs=>ixN xs.length k
 |.key j=>(ρ[j]?.join).bind λy=>(tS y).bind λd=>(BB x).bind λq=>(keyOf d).bind λk=>q.1.findIdx? (λq=>decide (q=k))
def aw(ρ:DEnv)(i:Nat):List Acc->Option (OD×List Nat×OD)
 |[]=>(ρ[i]?.join).bind λx=>some (x,[],x)
 |a::ps=>(aw ρ i ps).bind λp=>(accN ρ p.2.2 a).bind λk=>(p.2.2.kids[k]?).bind λz=>some (p.1,p.2.1++[k],z)
def D1(x:OD):Option (List OD):=match unpT x with|some Y=>some Y|none=>unpL x
def Kb(d:List Nat)(x:OD)(ρ:DEnv):Option DEnv:=(D1 x).bind λY=>(gd (Y.length=d.length/\∀i∈d,i<ρ.length)).bind λ_=>some (dY d Y ρ)
def bj:Tg->OD->DEnv->Option DEnv
 |.nm i,x,ρ=>(gd (i<ρ.length)).bind λ_=>some (ρ.set i (some x))
 |.tp ts,x,ρ=>Kb ts x ρ
def cH(step:PyData->DEnv->Option (List PyData×DEnv)):List PyData->List PyData->DEnv->Option (List PyData×DEnv)
 |[],out,ρ=>some (out,ρ)
 |d::ds,out,ρ=>(step d ρ).bind λw=>cH step ds (out++w.1) w.2
def fq{Y:Type}(step:Y->PyData->DEnv->Option (Y×DEnv)):List PyData->Y->DEnv->Option (Y×DEnv)
 |[],o,ρ=>some (o,ρ)
 |d::ds,o,ρ=>(step o d ρ).bind λw=>fq step ds w.1 w.2
inductive Fl where|nx|bk|ct|rt (x:OD)
noncomputable def bR(step:PyData->DEnv->Option (Fl×DEnv)):List PyData->DEnv->Option (Fl×DEnv)
 |[],ρ=>some (.nx,ρ)
 |d::ds,ρ=>(step d ρ).bind λw=>match w.1 with
  |.nx=>bR step ds w.2
  |.ct=>bR step ds w.2
  |.bk=>some (.nx,w.2)
  |.rt x=>some (.rt x,w.2)
noncomputable def cv(c:DEnv->Option (Bool×DEnv))(b:DEnv->Option (Fl×DEnv)):Nat->DEnv->Option (Fl×DEnv)
 |0,_=>none
 |n+1,ρ=>(c ρ).bind λx=>if x.1=true then (b x.2).bind λw=>match w.1 with
   |.nx=>cv c b n w.2
   |.ct=>cv c b n w.2
   |.bk=>some (.nx,w.2)
   |.rt x=>some (.rt x,w.2)
  else some (.nx,x.2)
def vt(f:DEnv->Option (OR×DEnv)):(DEnv->Option (OR×DEnv))×(DEnv->Option (Bool×DEnv)):=(f,λI=>(f I).bind λx=>(az x.2 x.1).bind λd=>(kS d).bind λk=>some (k,x.2))
section
variable(C:Ct)
mutual
noncomputable def cx:E->(DEnv->Option (OR×DEnv))×(DEnv->Option (Bool×DEnv))
 |.nm i=>vt λρ=>match ρ[i]?.join with
  |some (.fz d)=>some (.val (.fz d),ρ)
  |some _=>some (.rf i,ρ)
  |none=>none
 |.mv i=>vt λρ=>(ρ[i]?.join).bind λx=>some (.val x,ρ.set i none)
 |.int k=>vt λρ=>some (.val (.fz (.int k)),ρ)
 |.str x=>vt λρ=>some (.val (.fz (.str x)),ρ)
 |.bl b=>vt λρ=>some (.val (.fz (.bool b)),ρ)
 |.non=>vt λρ=>some (.val (.fz .none),ρ)
 |.gc g=>vt λρ=>some (.val (.fz (C.gv g)),ρ)
 |.bop o a b=>vt λρ=>((cx a).1 ρ).bind λx=>((cx b).1 x.2).bind λy=>(az y.2 x.1).bind λdx=>(az y.2 y.1).bind λdy=>(yE o dx dy).bind λd=>some (.val (.fz d),y.2)
 |.cat a b=>vt λρ=>((cx a).1 ρ).bind λx=>((cx b).1 x.2).bind λy=>(By y.2 x.1).bind λdx=>(By y.2 y.1).bind λdy=>(gd (dx.length+dy.length<=1000000)).bind λ_=>some (.val (.lst ((dx++dy).map OD.fz)),y.2)
 |.rep a b=>vt λρ=>((cx a).1 ρ).bind λx=>((cx b).1 x.2).bind λy=>(dM y.2 x.1).bind λH=>(nS H).bind λxs=>(az y.2 y.1).bind λd=>(fL d).bind λk=>(tz xs).bind λds=>(gd (-(2^62)<=k/\k<2^62/\ds.length*k.toNat<=1000000)).bind λ_=>some (.val (.lst ((List.replicate k.toNat ds).flatten.map OD.fz)),y.2)
 |.cmp o a b=>vt λρ=>((cx a).1 ρ).bind λx=>((cx b).1 x.2).bind λy=>(az y.2 x.1).bind λdx=>(az y.2 y.1).bind λdy=>(oK o dx dy).bind λk=>some (.val (.fz (.bool k)),y.2)
 |.cmp2 o o' a b c=>vt λρ=>((cx a).1 ρ).bind λx=>((cx b).1 x.2).bind λy=>(az y.2 x.1).bind λdx=>(az y.2 y.1).bind λdy=>(oK o dx dy).bind λk=>if k=true then ((cx c).1 y.2).bind λz=>(az z.2 y.1).bind λu=>(az z.2 z.1).bind λN=>(oK o' u N).bind λr=>some (.val (.fz (.bool r)),z.2) else some (.val (.fz (.bool false)),y.2)
 |.isn neg a=>vt λρ=>((cx a).1 ρ).bind λx=>(az x.2 x.1).bind λd=>some (.val (.fz (.bool (if neg then !isNn d else isNn d))),x.2)
 |.and a b=>(λρ=>((cx a).1 ρ).bind λx=>(az x.2 x.1).bind λd=>(IT d).bind λk=>if k=true then (cx b).1 x.2 else some (.val (.fz (.bool false)),x.2),λρ=>((cx a).2 ρ).bind λx=>if x.1=true then (cx b).2 x.2 else some (false,x.2))
 |.or a b=>(λρ=>((cx a).1 ρ).bind λx=>(az x.2 x.1).bind λd=>(IT d).bind λk=>if k=true then some (.val (.fz (.bool true)),x.2) else (cx b).1 x.2,λρ=>((cx a).2 ρ).bind λx=>if x.1=true then some (true,x.2) else (cx b).2 x.2)
 |.not a=>(λρ=>((cx a).1 ρ).bind λx=>(az x.2 x.1).bind λd=>(IT d).bind λk=>some (.val (.fz (.bool (!k))),x.2),λρ=>((cx a).2 ρ).bind λx=>some (!x.1,x.2))
 |.neg a=>vt λρ=>((cx a).1 ρ).bind λx=>(az x.2 x.1).bind λd=>(fL d).bind λi=>some (.val (.fz (.int (-i))),x.2)
 |.ife c a b=>vt λρ=>((cx c).2 ρ).bind λx=>if x.1=true then (cx a).1 x.2 else (cx b).1 x.2
 |.tup es=>vt λρ=>(evs es ρ).bind λx=>(mapR own1 x.2 x.1).bind λz=>(gd (x.1.length<=1000000)).bind λ_=>some (.val (mkTup z.1),z.2)
 |.lst es=>vt λρ=>(evs es ρ).bind λx=>(mapR own1 x.2 x.1).bind λz=>(gd (x.1.length<=1000000)).bind λ_=>some (.val (.lst z.1),z.2)
 |.ix a b=>vt λρ=>((cx a).1 ρ).bind λx=>((cx b).1 x.2).bind λy=>(az y.2 y.1).bind λd=>(fL d).bind λi=>(bE y.2 x.1 i).bind λz=>some (.val z.1,z.2)
 |.call f es=>vt λρ=>(evs es ρ).bind λx=>(ba (C.io f) x.2 x.1).bind λz=>(C.call f z.1).bind λw=>some (.val w.1,eA (C.io f) x.1 w.2 z.2)
 |.callS f es=>vt λρ=>(evs es ρ).bind λx=>(fe x.2 x.1).bind λds=>(C.call f (ds.map OD.fz)).bind λw=>(tS w.1).bind λd=>(gd (GS d=true)).bind λ_=>some (.val (.fz d),x.2)
 |.blt f es=>vt λρ=>(evs es ρ).bind λx=>(fe x.2 x.1).bind λds=>(zL f ds).bind λd=>some (.val (.fz d),x.2)
 |.bnw f e=>vt λρ=>((cx e).1 ρ).bind λx=>match f with
  |.list=>((dM x.2 x.1).bind seqOf).bind λds=>some (.val (.lst (ds.map OD.fz)),x.2)
  |.tuple=>((dM x.2 x.1).bind listOf).bind λds=>some (.val (.fz (.tuple ds)),x.2)
  |.sorted=>(az x.2 x.1).bind λd=>(tT d).bind λds=>(gU ds).bind λns=>(gd (ns.length<64)).bind λ_=>some (.val (.lst ((sortI ns).map λi=>.fz (.int i))),x.2)
 |.isi k a=>vt λρ=>((cx a).1 ρ).bind λx=>(az x.2 x.1).bind λd=>some (.val (.fz (.bool (BC k d))),x.2)
 |.idx a b=>vt λρ=>((cx a).1 ρ).bind λx=>(Ka x.1).bind λds=>((cx b).1 x.2).bind λy=>(az y.2 y.1).bind λd=>(fL d).bind λn=>(gU ds).bind λns=>(ns.findIdx? λm=>decide (m=n)).bind λj=>some (.val (.fz (.int j)),y.2)
 |.dgt i e=>vt λρ=>(ρ[i]?.join).bind λH=>(BB H).bind λ_=>((cx e).1 ρ).bind λy=>(az y.2 y.1).bind λd=>(keyOf d).bind λk=>(y.2[i]?.join).bind λv=>(BB v).bind λq=>(dgV q.1 q.2 k).bind λw=>some (.val (.fz w),y.2)
 |.dnew=>vt λρ=>some (.val (.dic [] []),ρ)
 |.pg i ps=>vt λρ=>(aw ρ i ps).bind λp=>(tS p.2.2).bind λd=>some (.val (.fz d),ρ)
 |.pf i ps=>vt λρ=>(aw ρ i ps).bind λp=>(p.2.2.dat).bind λd=>some (.val (.fz d),ρ.set i (some (OD.put (.fz d) p.2.1 p.1)))
 |.pl i ps=>vt λρ=>(aw ρ i ps).bind λp=>(p.2.2.dat).bind λd=>(jP d).bind λn=>some (.val (.fz (.int n)),ρ)
 |.pt i ps=>(λ_=>none,λρ=>(aw ρ i ps).bind λp=>(p.2.2.dat).bind λd=>(kS d).bind λk=>some (k,ρ))
 |.pin neg e i ps=>vt λρ=>((cx e).1 ρ).bind λx=>(az x.2 x.1).bind λdx=>(aw x.2 i ps).bind λp=>(p.2.2.dat).bind λd=>(oK (if neg then .nin else .inn) dx d).bind λk=>some (.val (.fz (.bool k)),x.2)
 |.din neg e i ps=>vt λρ=>((cx e).1 ρ).bind λx=>(az x.2 x.1).bind λdx=>(aw x.2 i ps).bind λp=>(keyOf dx).bind λk=>(BB p.2.2).bind λq=>some (.val (.fz (.bool (if neg then !(q.1.any λq=>decide (q=k)) else q.1.any λq=>decide (q=k)))),x.2)
 |.comp nt fr it tg ifs elt=>vt λρ=>(tU it ρ).bind λx=>(gd (x.1.length<1000000)).bind λ_=>(cD x.2 fr).bind λz=>
   (cH (λd Y=>(bj tg (.fz d) Y).bind λρ1=>(Kc ifs ρ1).bind λk=>if k.1=true then ((cx elt).1 k.2).bind λy=>(frz1 y.2 y.1).bind λq=>some ([q.1],q.2) else some ([],k.2)) x.1 [] (List.replicate nt none++z.1)).bind λw=>
    some (.val (.lst (w.1.map OD.fz)),ei z.2 fr (w.2.drop nt))
 |.meth c m f i es=>vt λρ=>(ρ[i]?.join).bind λH=>(GU H).bind λq=>(gd (q.1=c/\m ∉ q.2.1)).bind λ_=>(evs es ρ).bind λx=>(ba (C.io f) x.2 (.rf i::x.1)).bind λz=>(C.call f z.1).bind λw=>some (.val w.1,eA (C.io f) (.rf i::x.1) w.2 z.2)
 |.make c f es=>vt λρ=>(evs es ρ).bind λx=>(ba (C.io f).tail x.2 x.1).bind λz=>(C.mak f (.obj c [] []::z.1)).bind λw=>(Le w).bind λy=>some (.val y.1,eA (C.io f).tail x.1 y.2 z.2)
noncomputable def evs:Es->DEnv->Option (List OR×DEnv)
 |.nil,ρ=>some ([],ρ)
 |.cons e es,ρ=>((cx e).1 ρ).bind λx=>(evs es x.2).bind λy=>some (x.1::y.1,y.2)
noncomputable def Kc:Eo->DEnv->Option (Bool×DEnv)
 |.none,ρ=>some (true,ρ)
 |.some e,ρ=>(cx e).2 ρ
noncomputable def tU:It'->DEnv->Option (List PyData×DEnv)
 |.seq e,ρ=>((cx e).1 ρ).bind λx=>(frz1 x.2 x.1).bind λz=>(tT z.1).bind λds=>some (ds,z.2)
 |.rg1 e,ρ=>((cx e).1 ρ).bind λx=>(az x.2 x.1).bind λd=>(fL d).bind λj=>(gd (-(2^62)<=j/\j<2^62)).bind λ_=>some (dm 0 j.toNat,x.2)
 |.rg3 a b,ρ=>((cx a).1 ρ).bind λx=>((cx b).1 x.2).bind λy=>(az y.2 x.1).bind λd=>(fL d).bind λi=>(az y.2 y.1).bind λd'=>(fL d').bind λj=>(gd (0<=i/\i<=j/\j<=1000000)).bind λ_=>some (oI i (rn2 i j),y.2)
 |.enm e,ρ=>((cx e).1 ρ).bind λx=>(frz1 x.2 x.1).bind λz=>(J8 z.1).bind λds=>some (enumD ds,z.2)
 |.zip a b,ρ=>((cx a).1 ρ).bind λx=>((cx b).1 x.2).bind λy=>(frz1 y.2 x.1).bind λz=>(frz1 z.2 y.1).bind λw=>(tT z.1).bind λds=>(tT w.1).bind λes=>some (zipD ds es,w.2)
end
abbrev ev(e:E)(ρ:DEnv):=(cx C e).1 ρ
abbrev aL(e:E)(ρ:DEnv):=(cx C e).2 ρ
end
end
section
theorem bnd{Y C:Type}{o:Option Y}{f:Y->Option C}{x:C}(h:o.bind f=some x):∃a,o=some a/\f a=some x:=aaF.mp h
theorem bn2{α β γ:Type}{o:Option α}{g1:α->Option β}{f:α->β->Option γ}{r:γ}(h:(o.bind λa=>(g1 a).bind (f a))=some r):∃a b,o=some a/\g1 a=some b/\f a b=some r:=by obtain⟨a,p0,h⟩:=bnd h;obtain⟨b,p1,h⟩:=bnd h;exact⟨a,b,p0,p1,h⟩
theorem bn3{α β γ δ:Type}{o:Option α}{g1:α->Option β}{g2:α->β->Option γ}{f:α->β->γ->Option δ}{r:δ}(h:(o.bind λa=>(g1 a).bind λb=>(g2 a b).bind (f a b))=some r):∃a b c,o=some a/\g1 a=some b/\g2 a b=some c/\f a b c=some r:=by obtain⟨a,p0,h⟩:=bnd h;obtain⟨b,p1,h⟩:=bnd h;obtain⟨c,p2,h⟩:=bnd h;exact⟨a,b,c,p0,p1,p2,h⟩
theorem bn4{α β γ δ ε:Type}{o:Option α}{g1:α->Option β}{g2:α->β->Option γ}{g3:α->β->γ->Option δ}{f:α->β->γ->δ->Option ε}{r:ε}(h:(o.bind λa=>(g1 a).bind λb=>(g2 a b).bind λc=>(g3 a b c).bind (f a b c))=some r):∃a b c d,o=some a/\g1 a=some b/\g2 a b=some c/\g3 a b c=some d/\f a b c d=some r:=by obtain⟨a,p0,h⟩:=bnd h;obtain⟨b,p1,h⟩:=bnd h;obtain⟨c,p2,h⟩:=bnd h;obtain⟨d,p3,h⟩:=bnd h;exact⟨a,b,c,d,p0,p1,p2,p3,h⟩
theorem bn5{α β γ δ ε ζ:Type}{o:Option α}{g1:α->Option β}{g2:α->β->Option γ}{g3:α->β->γ->Option δ}{g4:α->β->γ->δ->Option ε}{f:α->β->γ->δ->ε->Option ζ}{r:ζ}(h:(o.bind λa=>(g1 a).bind λb=>(g2 a b).bind λc=>(g3 a b c).bind λd=>(g4 a b c d).bind (f a b c d))=some r):∃a b c d e,o=some a/\g1 a=some b/\g2 a b=some c/\g3 a b c=some d/\g4 a b c d=some e/\f a b c d e=some r:=by obtain⟨a,p0,h⟩:=bnd h;obtain⟨b,p1,h⟩:=bnd h;obtain⟨c,p2,h⟩:=bnd h;obtain⟨d,p3,h⟩:=bnd h;obtain⟨e,p4,h⟩:=bnd h;exact⟨a,b,c,d,e,p0,p1,p2,p3,p4,h⟩
theorem cM{x:OD}{d:PyData}(h:tS x=some d):x=.fz d:=by cases x<;>cases h;rfl
theorem fE{x:OD}{xs:List OD}(h:nS x=some xs):x=.lst xs:=by cases x<;>cases h;rfl
theorem iX{x:OD}{z:List Key×List OD}(h:BB x=some z):x=.dic z.1 z.2:=by cases x<;>cases h;rfl
theorem kT{x:OD}{z:Str×List Str×List OD}(h:GU x=some z):x=.obj z.1 z.2.1 z.2.2:=by cases x<;>cases h;rfl
theorem D2{x:OD}{xs:List OD}(h:Ld x=some xs):x=.lst xs\/x=.tup xs:=by cases x<;>cases h<;>first|simp|simp
theorem aT{d:PyData}{i:Int}(h:fL d=some i):d=.int i:=by cases d<;>cases h;rfl
theorem oM{d:PyData}{i:Bool}(h:IT d=some i):d=.bool i:=by cases d<;>cases h;rfl
theorem wq{d:PyData}{i:List PyData}(h:J8 d=some i):d=.list i:=by cases d<;>cases h;rfl
theorem iY{d:PyData}{i:List PyData}(h:tT d=some i):d=.list i\/d=.tuple i:=by cases d<;>cases h<;>first|simp|simp
theorem D3{r:OR}{xs:List OD}(h:J9 r=some xs):r=.val (.lst xs):=by
 cases r with
 |val x=>rw[fE h]
 |rf _=>cases h
theorem gd_ok{c:Prop}[Decidable c]{u:Unit}(h:gd c=some u):c:=by
 by_cases U:c
 ·omega
 ·rw[gd,if_neg U]at h;cases h
theorem one1_ok{Y:Type}{l:List Y}{x:Y}(h:fg l=some x):l=[x]:=by
 cases l with
 |nil=>cases h
 |cons y l=>cases l<;>cases h;rfl
theorem thr3_ok{Y:Type}{l:List Y}{x:Y×Y×Y}(h:zK l=some x):l=[x.1,x.2.1,x.2.2]:=by
 cases l with
 |nil=>cases h
 |cons y l=>
  cases l with
  |nil=>cases h
  |cons z l=>
   cases l with
   |nil=>cases h
   |cons w l=>cases l<;>cases h;rfl
theorem two2_ok{Y:Type}{l:List Y}{x:Y×Y}(h:kR l=some x):l=[x.1,x.2]:=by
 cases l with
 |nil=>cases h
 |cons y l=>
  cases l with
  |nil=>cases h
  |cons z l=>cases l<;>cases h;rfl
theorem D4{w z:OD×List OD}(h:Le w=some z):w.1=.fz .none/\w.2=z.1::z.2:=by
 obtain⟨a,b⟩:=w;obtain⟨d,e,h⟩:=bnd h;cases b with
 |nil=>grind
 |cons y j=>cases d<;>cases h;exact⟨cM e,rfl⟩
section
variable(C:Ct)
mutual
noncomputable def kU:E->DEnv->Option PyData
 |.nm i,ρ=>(ρ[i]?.join).bind tS
 |.int k,_=>some (.int k)
 |.str x,_=>some (.str x)
 |.gc g,_=>some (C.gv g)
 |.bop o a b,ρ=>match o with
  |.add=>(kU a ρ).bind λx=>(kU b ρ).bind λy=>yE .add x y
  |.sub=>(kU a ρ).bind λx=>(kU b ρ).bind λy=>yE .sub x y
  |_=>none
 |.ix a b,ρ=>(kU a ρ).bind λx=>(kU b ρ).bind λy=>(tT x).bind λds=>(fL y).bind λi=>atI ds i
 |.tup es,ρ=>(oN es ρ).bind λds=>(gd (ds.length<=1000000)).bind λ_=>some (.tuple ds)
 |.pg i ps,ρ=>(aw ρ i ps).bind λp=>tS p.2.2
 |_,_=>none
noncomputable def oN:Es->DEnv->Option (List PyData)
 |.nil,_=>some []
 |.cons e es,ρ=>(kU e ρ).bind λx=>(oN es ρ).bind λy=>some (x::y)
end
noncomputable def br(f:Str)(z:OD):List Str->List OD->List Str×List OD
 |n::ns,x::xs=>if n=f then (n::ns,z::xs) else ((n::(br f z ns xs).1),(x::(br f z ns xs).2))
 |_,_=>([f],[z])
noncomputable def putKey(k:Key)(d:PyData)(ks:List Key)(xs:List OD):List Key×List OD:=
 if (ks.any λq=>decide (q=k))=true then (ks,List.zipWith (λq x=>if q=k then .fz d else x) ks xs) else (ks++[k],xs++[.fz d])
noncomputable def mH:Bo->Int->PyData->Option Int
 |.add,a,.int k=>some (a+k)
 |.sub,a,.int k=>some (a-k)
 |_,_,_=>none
def wu(i:Nat)(ks:List Nat)(j:Nat)(u:V)(ρ p:DEnv):Prop:=∃x y,ρ[i]?.join=some x/\x.at ks=some (.hole u)/\ρ[j]?.join=some y/\j≠i/\p=(ρ.set j none).set i (some (OD.put y ks x))
def HolOk(g:V->Option (Fl×DEnv))(i:Nat)(ks:List Nat)(j:Nat)(z:Fl×DEnv):Prop:=∀u:V,∃o,g u=some (z.1,o)/\wu i ks j u o z.2
open Classical in
def holRun(g:V->Option (Fl×DEnv))(i:Nat)(ks:List Nat)(j:Nat):Option (Fl×DEnv):=if h:∃z,HolOk g i ks j z then some (Classical.choose h) else none
theorem mI{g:V->Option (Fl×DEnv)}{i j:Nat}{ks:List Nat}{z:Fl×DEnv}(h:holRun g i ks j=some z):HolOk g i ks j z:=by
 unfold holRun at h;by_cases L:∃z,HolOk g i ks j z
 ·grind
 ·grind
theorem tV{g:V->Option (Fl×DEnv)}{i j:Nat}{ks:List Nat}{z:Fl×DEnv}(h:HolOk g i ks j z):holRun g i ks j=some z:=by
 have L:∃z,HolOk g i ks j z:=⟨z,h⟩
 have c:holRun g i ks j=some (Classical.choose L):=dif_pos L;rw[c];have C:=Classical.choose_spec L;generalize Classical.choose L=z' at C;obtain⟨o,I,v,a,y,Q,W,m,k⟩:=h .non;obtain⟨H,A,U,Y,l,q,T,p,N⟩:=C .non
 grind
abbrev AliOk(f:DEnv->Option (Fl×DEnv))(ρ:DEnv)(i:Nat)(p:OD×List Nat×OD)(xs:List OD)(j:Nat)(z:Fl×DEnv):Prop:=HolOk (λu=>f (ρ.set i (some (OD.put (.lst (xs++[.hole u])) p.2.1 p.1)))) i (p.2.1++[xs.length]) j z
def kW(f:DEnv->Option (Fl×DEnv))(ρ:DEnv)(i:Nat)(p:OD×List Nat×OD)(j:Nat):Option (Fl×DEnv):=(nS p.2.2).bind λY=>(gd (Y.length<1000000/\j≠i/\(ρ[j]?.join).isSome)).bind λ_=>holRun (λu=>f (ρ.set i (some (OD.put (.lst (Y++[.hole u])) p.2.1 p.1)))) i (p.2.1++[Y.length]) j
theorem mJ{f:DEnv->Option (Fl×DEnv)}{ρ:DEnv}{i j:Nat}{p:OD×List Nat×OD}{z:Fl×DEnv}(h:kW f ρ i p j=some z):∃xs,p.2.2=.lst xs/\xs.length<1000000/\j≠i/\(∃y,ρ[j]?.join=some y)/\AliOk f ρ i p xs j z:=by obtain⟨xs,_,k,d,h⟩:=bn2 h;have d:=gd_ok d;exact⟨xs,fE k,d.1,d.2.1,aa2.mp d.2.2,mI h⟩
theorem tX{f:DEnv->Option (Fl×DEnv)}{ρ:DEnv}{i j:Nat}{p:OD×List Nat×OD}{xs:List OD}{y:OD}{z:Fl×DEnv}(k:p.2.2=.lst xs)(d:xs.length<1000000)(W:j≠i)(m:ρ[j]?.join=some y)(h:AliOk f ρ i p xs j z):kW f ρ i p j=some z:=by unfold kW;rw[k,show nS (.lst xs)=some xs from rfl,abR];have:gd (xs.length<1000000/\j≠i/\(ρ[j]?.join).isSome)=some ():=if_pos ⟨d,W,by rw[m];rfl⟩;rw[this,abR];exact tV h
def dAct(k ve:E)(o:List Key×List OD)(ρ:DEnv):Option ((List Key×List OD)×DEnv):=(ev C k ρ).bind λx=>(ev C ve x.2).bind λy=>(az y.2 x.1).bind λU=>(keyOf U).bind λD=>(frz1 y.2 y.1).bind λz=>some (putKey D z.1 o.1 o.2,z.2)
def mK(f:Tg)(k ve:E)(o:List Key×List OD)(d:PyData)(ρ:DEnv):Option ((List Key×List OD)×DEnv):=(bj f (.fz d) ρ).bind λA=>dAct C k ve o A
mutual
noncomputable def bF:S'->DEnv->Option (Fl×DEnv)
 |.ex e,ρ=>(ev C e ρ).bind λx=>some (.nx,x.2)
 |.set i e,ρ=>(ev C e ρ).bind λx=>(own1 x.2 x.1).bind λz=>(gd (i<z.2.length)).bind λ_=>some (.nx,z.2.set i (some z.1))
 |.asg t e,ρ=>(ev C e ρ).bind λx=>(own1 x.2 x.1).bind λz=>(bj t z.1 z.2).bind λρ1=>some (.nx,ρ1)
 |.par is es,ρ=>(evs C es ρ).bind λx=>(mapR own1 x.2 x.1).bind λz=>(gd (z.1.length=is.length/\∀i∈is,i<z.2.length)).bind λ_=>some (.nx,dY is z.1 z.2)
 |.aug i o e,ρ=>(ρ[i]?.join).bind λH=>(tS H).bind λy=>(fL y).bind λa=>(ev C e ρ).bind λx=>(az x.2 x.1).bind λd=>(mH o a d).bind λr=>some (.nx,x.2.set i (some (.fz (.int r))))
 |.agl i e,ρ=>(ρ[i]?.join).bind λH=>(nS H).bind λ_=>(ev C e ρ).bind λx=>(J9 x.1).bind λys=>(x.2[i]?.join).bind λv=>(nS v).bind λxs=>(gd (xs.length+ys.length<=1000000)).bind λ_=>some (.nx,x.2.set i (some (.lst (xs++ys))))
 |.ret e,ρ=>(ev C e ρ).bind λx=>(mv1 x.2 x.1).bind λz=>some (.rt z.1,z.2)
 |.iff c a b,ρ=>(aL C c ρ).bind λx=>if x.1=true then aD a x.2 else aD b x.2
 |.whl c b,ρ=>cv (aL C c) (aD b) C.wf ρ
 |.fr t it b,ρ=>(tU C it ρ).bind λx=>bR (λd Y=>(bj t (.fz d) Y).bind λρ1=>aD b ρ1) x.1 x.2
 |.cont,ρ=>some (.ct,ρ)
 |.app i e,ρ=>(ρ[i]?.join).bind λH=>(nS H).bind λ_=>(ev C e ρ).bind λx=>(own1 x.2 x.1).bind λz=>(z.2[i]?.join).bind λv=>(nS v).bind λxs=>(gd (xs.length<1000000)).bind λ_=>some (.nx,z.2.set i (some (.lst (xs++[z.1]))))
 |.apd i ps e,ρ=>(aw ρ i ps).bind λp=>(kU C e ρ).bind λd=>(nS p.2.2).bind λxs=>(gd (xs.length<1000000)).bind λ_=>some (.nx,ρ.set i (some (OD.put (.lst (xs++[.fz d])) p.2.1 p.1)))
 |.sti i k e,ρ=>(ev C e ρ).bind λx=>(own1 x.2 x.1).bind λz=>(z.2[i]?.join).bind λH=>(nS H).bind λ_=>(ev C k z.2).bind λq=>(az q.2 q.1).bind λd=>(fL d).bind λk=>(q.2[i]?.join).bind λv=>(nS v).bind λxs=>(ixN xs.length k).bind λj=>some (.nx,q.2.set i (some (.lst (xs.set j z.1))))
 |.sdk i k e,ρ=>(ev C e ρ).bind λx=>(frz1 x.2 x.1).bind λz=>(z.2[i]?.join).bind λH=>(BB H).bind λ_=>(ev C k z.2).bind λq=>(az q.2 q.1).bind λU=>(keyOf U).bind λD=>(q.2[i]?.join).bind λv=>(BB v).bind λu=>(gd (u.2.length<1000000)).bind λ_=>some (.nx,q.2.set i (some (.dic (putKey D z.1 u.1 u.2).1 (putKey D z.1 u.1 u.2).2)))
 |.std i ps j e,ρ=>(ev C e ρ).bind λx=>(frz1 x.2 x.1).bind λz=>(aw z.2 i ps).bind λp=>(z.2[j]?.join).bind λH=>(tS H).bind λU=>(keyOf U).bind λD=>(BB p.2.2).bind λu=>(gd (u.2.length<1000000)).bind λ_=>some (.nx,z.2.set i (some (OD.put (.dic (putKey D z.1 u.1 u.2).1 (putKey D z.1 u.1 u.2).2) p.2.1 p.1)))
 |.sdc i nt fr it tg ke ve,ρ=>(tU C it ρ).bind λx=>(gd (x.1.length<1000000)).bind λ_=>(cD x.2 fr).bind λz=>(fq (mK C tg ke ve) x.1 ([],[]) (List.replicate nt none++z.1)).bind λw=>(gd (i<(ei z.2 fr (w.2.drop nt)).length)).bind λ_=>some (.nx,(ei z.2 fr (w.2.drop nt)).set i (some (.dic w.1.1 w.1.2)))
 |.stf i c f e,ρ=>(ev C e ρ).bind λx=>(own1 x.2 x.1).bind λz=>(z.2[i]?.join).bind λH=>(GU H).bind λu=>(gd (u.1=c/\u.2.2.length<1000)).bind λ_=>some (.nx,z.2.set i (some (.obj u.1 (br f z.1 u.2.1 u.2.2).1 (br f z.1 u.2.1 u.2.2).2)))
 |.agf i c f o e,ρ=>(aw ρ i [.fld c f]).bind λp=>(tS p.2.2).bind λy=>(fL y).bind λa=>(ev C e ρ).bind λx=>(az x.2 x.1).bind λd=>(mH o a d).bind λr=>(x.2[i]?.join).bind λH=>(GU H).bind λu=>(gd (u.1=c/\u.2.2.length<1000)).bind λ_=>some (.nx,x.2.set i (some (.obj u.1 (br f (.fz (.int r)) u.2.1 u.2.2).1 (br f (.fz (.int r)) u.2.1 u.2.2).2)))
noncomputable def aD:Ss->DEnv->Option (Fl×DEnv)
 |.nil,ρ=>some (.nx,ρ)
 |.cons s ss,ρ=>(bF s ρ).bind λx=>match x.1 with
  |.nx=>aD ss x.2
  |fl=>some (fl,x.2)
 |.ali i ps j ss,ρ=>(aw ρ i ps).bind λp=>kW (aD ss) ρ i p j
end
def wx(fn:Fn)(xs:List OD):Option (OD×List OD):=(aD C fn.body (gB fn.n xs)).bind λx=>match x.1 with
 |.nx=>(bQ 0 fn.io xs x.2).bind λj=>some (.fz .none,j)
 |.rt o=>(bQ 0 fn.io xs x.2).bind λj=>some (o,j)
 |_=>none
end
structure Pg where
 F:Nat->Option Fn
 gv:Nat->PyData
 wf:Nat
def Pg.io(p:Pg)(f:Nat):List Bool:=match p.F f with|some A=>A.io|none=>[]
def Pg.both(p:Pg):Nat->(Nat->List OD->Option (OD×List OD))×(Nat->List OD->Option (OD×List OD))
 |0=>(λ_ _=>none,λ_ _=>none)
 |n+1=>(λf xs=>match p.F f with
  |some fn=>if xs.length=fn.io.length then wx ⟨p.io,(Pg.both p n).1,(Pg.both p n).2,p.gv,p.wf⟩ fn xs else none
  |none=>none,(Pg.both p n).1)
def Pg.call(p:Pg)(n f:Nat)(xs:List OD):Option (OD×List OD):=(p.both n).1 f xs
def Pg.mak(p:Pg)(n f:Nat)(xs:List OD):Option (OD×List OD):=(p.both n).2 f xs
abbrev Pg.ct(p:Pg)(n:Nat):Ct:=⟨p.io,p.call n,p.mak n,p.gv,p.wf⟩
theorem Pg.en(p:Pg)(n f:Nat)(xs:List OD):p.call (n+1) f xs=match p.F f with
  |some fn=>if xs.length=fn.io.length then wx (p.ct n) fn xs else none
  |none=>none:=rfl
theorem Pg.ub(p:Pg)(n f:Nat)(xs:List OD):p.mak (n+1) f xs=p.call n f xs:=rfl
end
section
def aF(C:Ct)(m:E):DE:=λI Q=>∃x,ev C m I=some x/\Q x.1 x.2
def gW(C:Ct)(m:E):DT:=λI Q=>∃x,aL C m I=some x/\Q x.1 x.2
def fh(C:Ct)(m:Es):DA:=λI Q=>∃x,evs C m I=some x/\Q x.1 x.2
def gF(C:Ct)(m:It'):DI:=λI Q=>∃x,tU C m I=some x/\Q x.1 x.2
theorem PDe.imp:PDe X e d->(∀ρ Q,d' ρ Q->d ρ Q)->PDe X e d'
 |⟨te,h,s⟩,f=>⟨te,h,λb F σ H ρ τ θ w Q T R W q=>s b F σ H ρ τ θ w Q T R (f _ _ W) q⟩
theorem PDt.imp:PDt X e d->(∀ρ Q,d' ρ Q->d ρ Q)->PDt X e d'
 |⟨te,h,s⟩,f=>⟨te,h,λb F σ H ρ τ θ w Q T R W q=>s b F σ H ρ τ θ w Q T R (f _ _ W) q⟩
theorem PDw.imp:PDw X e d->(∀ρ Q,d' ρ Q->d ρ Q)->PDw X e d'
 |⟨te,h,s⟩,f=>⟨te,h,λb F σ H ρ τ θ w Q T R W q=>s b F σ H ρ τ θ w Q T R (f _ _ W) q⟩
theorem PDa.imp:PDa X es d->(∀ρ Q,d' ρ Q->d ρ Q)->PDa X es d'
 |⟨te,h,s⟩,f=>⟨te,h,λb F σ H ρ τ θ w Q T R W q=>s b F σ H ρ τ θ w Q T R (f _ _ W) q⟩
theorem PDi.imp:PDi X tg e d->(∀ρ Q,d' ρ Q->d ρ Q)->PDi X tg e d'
 |⟨te,h,s⟩,f=>⟨te,h,λb F σ H ρ τ θ w Q T R W q=>s b F σ H ρ τ θ w Q T R (f _ _ W) q⟩
theorem SndR2.or{K:Waa}(h:SndR2 K r d)(h':SndR2 K r' d'):SndR2 K (λx y H Q=>r x y H Q\/r' x y H Q) (λx y Q=>d x y Q\/d' x y Q):=λH v u e l w Q o U z q=>z.imp (λz=>h H v u e l w Q o U z q) λz=>h' H v u e l w Q o U z q
theorem SndR2.imp{K:Waa}(h:SndR2 K r d)(f:∀x y Q,d' x y Q->d x y Q):SndR2 K r d':=λH v u e l w Q o U z q=>h H v u e l w Q o U (f _ _ _ z) q
def opOf:Bo->Operator
 |.add=>.Add|.sub=>.Sub|.mul=>.Mult|.fdiv=>.FloorDiv|.mod=>.Mod|.pow=>.Pow
def coOf:Co->CmpOp
 |.lt=>.Lt|.le=>.LtE|.gt=>.Gt|.ge=>.GtE|.eq=>.Eq|.ne=>.NotEq|.inn=>.In|.nin=>.NotIn
def LX(o:Bo):DR2:=λx y Q=>∃d,yE o x y=some d/\Q d
def LY(o:Co):DR2:=λx y Q=>∃k,oK o x y=some k/\Q (.bool k)
theorem eR(h:yE o x y=some d):∃i j k,x=.int i/\y=.int j/\Lf o i j=some k/\d=.int k:=by obtain⟨i,j,k,J,B,s,h⟩:=bn3 h;cases h;exact⟨i,j,k,aT J,aT B,s,rfl⟩
theorem GV(o:Bo):∃p,OpR X (binaryOp (opOf o)) p/\SndR2 X.K p (LX o):=by
 cases o with
 |add=>refine⟨_,CL,(vL λi j=>.int _).imp λx y Q m=>?_⟩;obtain⟨d,h,q⟩:=m;obtain⟨i,j,k,rfl,rfl,T,rfl⟩:=eR h;cases T;exact⟨i,j,rfl,rfl,q⟩
 |sub=>refine⟨_,CM,(vL λi j=>.int _).imp λx y Q m=>?_⟩;obtain⟨d,h,q⟩:=m;obtain⟨i,j,k,rfl,rfl,T,rfl⟩:=eR h;cases T;exact⟨i,j,rfl,rfl,q⟩
 |mul=>refine⟨_,CN,(zj λi j=>.int _).imp λx y Q m=>?_⟩;obtain⟨d,h,q⟩:=m;obtain⟨i,j,k,rfl,rfl,T,rfl⟩:=eR h;obtain⟨_,U,T⟩:=bnd T;cases T;have U:=gd_ok U;exact⟨i,j,rfl,rfl,U,q⟩
 |fdiv=>refine⟨_,yS,(zj λi j=>.int _).imp λx y Q m=>?_⟩;obtain⟨d,h,q⟩:=m;obtain⟨i,j,k,rfl,rfl,T,rfl⟩:=eR h;obtain⟨_,U,T⟩:=bnd T;cases T;have U:=gd_ok U;exact⟨i,j,rfl,rfl,U,q⟩
 |mod=>refine⟨_,CO,(zj λi j=>.int _).imp λx y Q m=>?_⟩;obtain⟨d,h,q⟩:=m;obtain⟨i,j,k,rfl,rfl,T,rfl⟩:=eR h;obtain⟨_,U,T⟩:=bnd T;cases T;have U:=gd_ok U;exact⟨i,j,rfl,rfl,U,q⟩
 |pow=>refine⟨_,CP,(zj λi j=>.int _).imp λx y Q m=>?_⟩;obtain⟨d,h,q⟩:=m;obtain⟨i,j,k,rfl,rfl,T,rfl⟩:=eR h;obtain⟨_,U,T⟩:=bnd T;cases T;have U:=gd_ok U;exact⟨i,j,rfl,rfl,U,q⟩
theorem qq(h:IU x y=some k):vM x y=some k\/(SeqAt.shaped x=true/\SeqAt.shaped y=true/\k=PyData.eqv x y):=by
 unfold IU at h
 grind
theorem qr(h:inA x y=some k):∃ds,(y=.list ds\/y=.tuple ds)/\FK x=true/\memD x ds=some k:=by obtain⟨ds,_,J,B,h⟩:=bn2 h;exact⟨ds,iY J,gd_ok B,h⟩
theorem iZ(U:X.A.units+64<cLine)(o:Co):∃p,OpR X (compareOp (coOf o)) p/\SndR2 X.K p (LY o):=by
 have S:∀{x y:PyData}{k:Bool}{g:Int->Int->Bool},((fL x).bind λi=>(fL y).bind λj=>some (g i j))=some k->∃i j,x=.int i/\y=.int j/\k=g i j:=by intro x y k g h;obtain⟨i,j,J,B,h⟩:=bn2 h;cases h;exact⟨i,j,aT J,aT B,rfl⟩
 cases o with
 |lt=>refine⟨_,F7,(zk ).imp λx y Q m=>?_⟩;obtain⟨k,h,q⟩:=m;obtain⟨i,j,rfl,rfl,rfl⟩:=S h;exact⟨i,j,rfl,rfl,q⟩
 |le=>refine⟨_,F8,(zk ).imp λx y Q m=>?_⟩;obtain⟨k,h,q⟩:=m;obtain⟨i,j,rfl,rfl,rfl⟩:=S h;exact⟨i,j,rfl,rfl,q⟩
 |gt=>refine⟨_,F9,(zk ).imp λx y Q m=>?_⟩;obtain⟨k,h,q⟩:=m;obtain⟨i,j,rfl,rfl,rfl⟩:=S h;exact⟨i,j,rfl,rfl,q⟩
 |ge=>refine⟨_,Ga,(zk ).imp λx y Q m=>?_⟩;obtain⟨k,h,q⟩:=m;obtain⟨i,j,rfl,rfl,rfl⟩:=S h;exact⟨i,j,rfl,rfl,q⟩
 |eq=>
  refine⟨_,op_eq.or (C9 U),(sr_eq.or Dv).imp λx y Q m=>?_⟩;obtain⟨k,h,q⟩:=m;rcases qq h with h|⟨O,Z,rfl⟩
  ·exact .inl ⟨k,h,q⟩
  ·exact .inr ⟨O,Z,q⟩
 |ne=>
  refine⟨_,op_ne.or (Da U),(sr_ne.or Dw).imp λx y Q m=>?_⟩;obtain⟨k,h,q⟩:=m;obtain⟨r,e,h⟩:=bnd h;cases h;rcases qq e with h|⟨O,Z,rfl⟩
  ·exact .inl ⟨r,h,q⟩
  ·exact .inr ⟨O,Z,q⟩
 |inn=>refine⟨_,sI,(Bw ).imp λx y Q m=>?_⟩;obtain⟨k,h,q⟩:=m;obtain⟨D,O,Z,M⟩:=qr h;exact⟨D,k,O,Z,M,q⟩
 |nin=>refine⟨_,kD,(Bw ).imp λx y Q m=>?_⟩;obtain⟨k,h,q⟩:=m;obtain⟨r,e,h⟩:=bnd h;cases h;obtain⟨D,O,Z,M⟩:=qr e;exact⟨D,r,O,Z,M,q⟩
theorem GW(O:PDe X a (aF C ma))(Z:PDe X b (aF C mb)):PDe X (.BinOp a (opOf o) b pos) (aF C (.bop o ma mb)):=by obtain⟨p,j,D⟩:=GV o;refine(Gw j D O Z).imp λI Q m=>?_;obtain⟨x,h,q⟩:=m;obtain⟨P,z,e,l,d,J,B,s,n,F,h⟩:=bn5 h;cases h;exact⟨P,J,z,B,e,l,s,n,d,F,q⟩
theorem GX(U:X.A.units+64<cLine)(Y:behindInMarks (coOf o) b=false)(O:PDe X a (aF C ma))(Z:PDe X b (aF C mb)):PDe X (.Compare a [coOf o] [b] pos) (aF C (.cmp o ma mb)):=by obtain⟨p,j,D⟩:=iZ U o;refine(Du j D Y O Z).imp λI Q m=>?_;obtain⟨x,h,q⟩:=m;obtain⟨P,z,e,l,d,J,B,s,n,F,h⟩:=bn5 h;cases h;exact⟨P,J,z,B,e,l,s,n,d,F,q⟩
theorem GY(U:X.A.units+64<cLine)(Y:behindInMarks (coOf o) b=false)(O:PDe X a (aF C ma))(Z:PDe X b (aF C mb)):PDt X (.Compare a [coOf o] [b] pos) (gW C (.cmp o ma mb)):=by obtain⟨p,j,D⟩:=iZ U o;refine(zo j D Y O Z).imp λI Q m=>?_;obtain⟨x,h,q⟩:=m;obtain⟨y,h,v⟩:=bnd h;obtain⟨P,z,e,l,d,J,B,s,n,F,h⟩:=bn5 h;cases h;cases v;exact⟨P,J,z,B,e,l,s,n,d,F,d,rfl,q⟩
theorem D5(U:X.A.units+64<cLine)(Y:lastMarks [coOf o,coOf o'] [b,c]=false)(O:PDe X a (aF C ma))(Z:PDe X b (aF C mb))(M:PDe X c (aF C mc)):PDe X (.Compare a [coOf o,coOf o'] [b,c] pos) (aF C (.cmp2 o o' ma mb mc)):=by
 obtain⟨p,j,D⟩:=iZ U o;obtain⟨t,T,d⟩:=iZ U o';refine(vN j D T d Y O Z M).imp λI Q m=>?_;obtain⟨x,h,q⟩:=m;obtain⟨P,z,e,l,k,J,B,s,n,F,h⟩:=bn5 h;refine⟨P,J,z,B,e,l,s,n,k,F,k,rfl,?_⟩;cases k with
 |false=>grind
 |true=>rw[if_pos rfl]at h ⊢;obtain⟨W,f,N,r,S,L,g,H,h⟩:=bn4 h;cases h;exact⟨W,S,f,N,L,g,r,H,q⟩
end
section
def isStar:Expr->Bool
 |.Starred _ _=>true
 |_=>false
theorem aC(h:isStar e=false):starEach (e::es) env=(false,eval e env)::starEach es env:=by cases e<;>first|rfl|cases h
theorem bG:∀{es:List Expr},es.any isStar=false->(backTo pos (starEach es env)).any (·.1)=false
 |[],_=>rfl
 |e::es,h=>by rw[aaP,abv]at h;rw[aC h.1];show (false||(backTo pos (starEach es env)).any (·.1))=false;rw[bG h.2];rfl
noncomputable def plainT:Expr->Bool
 |.UnaryOp .Not _ _=>false
 |.BoolOp _ _ _=>false
 |.IfExp _ _ _ _=>false
 |.Compare _ _ _ _=>false
 |_=>true
theorem plainT_ok(h:plainT e=true):∀W,isTrue e env W=(do let v <-W;standAt e.pos;holding [v] (truthy v)):=by
 intro W;cases e with
 |UnaryOp F x p=>cases F<;>first|rfl|cases h
 |_=>first|rfl|cases h
section
variable{X:Cx}
theorem BD:ev C (.nm i) ρ=(match ρ[i]?.join with|some (.fz d)=>some (.val (.fz d),ρ)|some _=>some (.rf i,ρ)|none=>none):=rfl
theorem Ke(a:X.N[i]?=some x) (o:Vis X.env.scope x) (W:(x==("__debug__":Str))=false) (u:(x==("__classdict__":Str))=false):PDe X (.Name x pos) (aF C (.nm i)):=by
 refine(Ds a o W u).imp λI Q m=>?_;obtain⟨y,h,q⟩:=m;unfold dVar;rw[BD]at h
 grind
theorem Kf(a:X.N[i]?=some x) (o:Vis X.env.scope x) (W:(x==("__debug__":Str))=false) (u:(x==("__classdict__":Str))=false):PDe X (.Name x pos) (aF C (.mv i)):=by refine⟨_,bB a o W u,λb F L H I t S j Q T R ⟨y,h,q⟩ k=>?_⟩;obtain⟨z,J,h⟩:=bnd h;cases h;obtain⟨v,f,w⟩:=R.slot (join_some J);exact⟨v,f,k v H (.val z) (I.set i none) ⟨R.wf.off,R.al,R.wff,w⟩ q⟩
theorem BE{j pos}:PDe X (.Constant (.int k) j pos) (aF C (.int k)):=pd_int.imp λI Q ⟨y,h,q⟩=>by cases h;exact q
theorem GZ{j pos}:PDe X (.Constant (.str k) j pos) (aF C (.str k)):=pd_str.imp λI Q ⟨y,h,q⟩=>by cases h;exact q
theorem Kg{j pos}:PDe X (.Constant (.bool k) j pos) (aF C (.bl k)):=pd_bl.imp λI Q ⟨y,h,q⟩=>by cases h;exact q
theorem G0{j pos}:PDe X (.Constant .none j pos) (aF C .non):=pd_non.imp λI Q ⟨y,h,q⟩=>by cases h;exact q
theorem Kh(N:Gl X x) (Y:X.mg x=some u) (r:RelV v u) (s:∀S H,Fz X.K S H v (C.gv g)) (W:(x==("__debug__":Str))=false):PDe X (.Name x pos) (aF C (.gc g)):=
 (vK N Y r s W).imp λI Q ⟨y,h,q⟩=>by cases h;exact q
theorem G1{j Z}(O:PDe X a (aF C ma)):PDe X (.Compare a [if neg then .IsNot else .Is] [.Constant .none j Z] pos) (aF C (.isn neg ma)):=by
 have p:∀I Q,aF C (.isn neg ma) I Q->tw neg (aF C ma) I Q:=λI Q ⟨y,h,q⟩=>by obtain⟨P,d,J,B,h⟩:=bn2 h;cases h;exact⟨P,J,d,B,q⟩
 cases neg with
 |false=>exact(Dy O).imp p
 |true=>exact(zm O).imp p
theorem G2{j Z}(O:PDe X a (aF C ma)):PDt X (.Compare a [if neg then .IsNot else .Is] [.Constant .none j Z] pos) (gW C (.isn neg ma)):=by
 have p:∀I Q,gW C (.isn neg ma) I Q->gT (tw neg (aF C ma)) I Q:=λI Q ⟨y,h,q⟩=>by obtain⟨z,h,v⟩:=bnd h;obtain⟨P,d,J,B,h⟩:=bn2 h;cases h;cases v;exact⟨P,J,d,B,_,rfl,q⟩
 cases neg with
 |false=>exact(zp O).imp p
 |true=>exact(vP O).imp p
theorem v_and(O:PDe X a (aF C ma))(Z:PDe X (.BoolOp .And (b::es) pos) (aF C mb)):PDe X (.BoolOp .And (a::b::es) pos) (aF C (.and ma mb)):=by
 refine(DB O Z).imp λI Q m=>?_;obtain⟨y,h,q⟩:=m;obtain⟨P,d,k,J,B,s,h⟩:=bn3 h;rw[oM s]at B;refine⟨P,J,k,B,?_⟩;cases k with
 |false=>grind
 |true=>rw[if_pos rfl]at h ⊢;exact⟨y,h,q⟩
theorem v_or(O:PDe X a (aF C ma))(Z:PDe X (.BoolOp .Or (b::es) pos) (aF C mb)):PDe X (.BoolOp .Or (a::b::es) pos) (aF C (.or ma mb)):=by
 refine(GA O Z).imp λI Q m=>?_;obtain⟨y,h,q⟩:=m;obtain⟨P,d,k,J,B,s,h⟩:=bn3 h;rw[oM s]at B;refine⟨P,J,k,B,?_⟩;cases k with
 |false=>rw[if_neg aaq]at h ⊢;exact⟨y,h,q⟩
 |true=>grind
theorem v_not(O:PDe X a (aF C ma)):PDe X (.UnaryOp .Not a pos) (aF C (.not ma)):=by refine(DD O).imp λI Q m=>?_;obtain⟨y,h,q⟩:=m;obtain⟨P,d,k,J,B,s,h⟩:=bn3 h;cases h;exact⟨P,J,k,by rw[B,oM s],q⟩
theorem G3(O:PDe X a (aF C ma)):PDe X (.UnaryOp .USub a pos) (aF C (.neg ma)):=by refine(Dz O).imp λI Q m=>?_;obtain⟨y,h,q⟩:=m;obtain⟨P,d,k,J,B,s,h⟩:=bn3 h;cases h;exact⟨P,J,d,B,k,aT s,q⟩
theorem G4(O:PDt X a (gW C ma))(Z:PDw X (.BoolOp .And (b::es) pos) (gW C mb)):PDw X (.BoolOp .And (a::b::es) pos) (gW C (.and ma mb)):=by
 refine(zt O Z).imp λI Q m=>?_;obtain⟨y,h,q⟩:=m;obtain⟨P,J,h⟩:=bnd h;refine⟨P,J,?_⟩;split at h
 ·rename_i k;rw[if_pos k];exact⟨y,h,q⟩
 ·grind
theorem Ki(O:PDt X a (gW C ma))(Z:PDw X (.BoolOp .Or (b::es) pos) (gW C mb)):PDw X (.BoolOp .Or (a::b::es) pos) (gW C (.or ma mb)):=by
 refine(DF O Z).imp λI Q m=>?_;obtain⟨y,h,q⟩:=m;obtain⟨P,J,h⟩:=bnd h;refine⟨P,J,?_⟩;split at h
 ·grind
 ·rename_i k;rw[if_neg k];exact⟨y,h,q⟩
theorem G5(O:PDt X a (gW C ma)):PDt X (.UnaryOp .Not a pos) (gW C (.not ma)):=by refine(zu O).imp λI Q m=>?_;obtain⟨y,h,q⟩:=m;obtain⟨P,J,h⟩:=bnd h;cases h;exact⟨P,J,q⟩
theorem G6(u:PDt X c (gW C mc))(O:PDe X a (aF C ma))(Z:PDe X b (aF C mb)):PDe X (.IfExp c a b pos) (aF C (.ife mc ma mb)):=by
 refine(GD u O Z).imp λI Q m=>?_;obtain⟨y,h,q⟩:=m;obtain⟨P,J,h⟩:=bnd h;refine⟨P,J,?_⟩;split at h
 ·rename_i k;rw[if_pos k];exact⟨y,h,q⟩
 ·rename_i k;rw[if_neg k];exact⟨y,h,q⟩
theorem qt(h:Dt X.K H v d)(e:kS d=some k):CS X.K v H k:=by
 cases h with
 |non=>cases e;rfl
 |bl b=>cases e;rfl
 |int i=>cases e;rfl
 |str x=>simp[kS]at e
 |lst s t=>cases e;exact .inl ⟨_,s,by rw[DtAll.emp t]⟩
 |tup s t=>cases e;exact .inr (.inl ⟨_,s,by rw[DtAll.emp t]⟩)
theorem G7(Y:aL C m=(vt (ev C m)).2)(n:plainT e=true):PDe X e (aF C m)->PDt X e (gW C m)
 |⟨te,O,s1⟩=>⟨_,l5 O (plainT_ok n),λb F σ H ρ τ θ w Q T R ⟨y,h,q⟩ k=>by
  have h':((ev C m ρ).bind λx=>(az x.2 x.1).bind λd=>(kS d).bind λk=>some (k,x.2))=some y:=by rw[<-h,Y];rfl
  obtain⟨z,d,t,J,B,s,h'⟩:=bn3 h';cases h';refine s1 b F σ H ρ τ θ (λr p=>r=z.1/\p=z.2) _ T R ⟨z,J,rfl,rfl⟩ λv l r p g f=>?_;obtain⟨O,Z⟩:=f;subst O Z;have W:=g.dt B;rw[T]at W;exact⟨t,qt W s,k _ _ _ g.drop q⟩⟩
theorem fF:PDa X [] (fh C .nil):=pda_nil.imp λI Q ⟨y,h,q⟩=>by cases h;exact q
theorem bL(g:isStar e=false)(O:PDe X e (aF C ma))(Z:PDa X es (fh C mes)):PDa X (e::es) (fh C (.cons ma mes)):=by refine(vR (aC g) O Z).imp λI Q m=>?_;obtain⟨y,h,q⟩:=m;obtain⟨P,z,J,B,h⟩:=bn2 h;cases h;exact⟨P,J,z,B,q⟩
theorem G8{v}(O:PDa X es (fh C mes)):PDe X (.Tuple es v pos) (aF C (.tup mes)):=by refine(DH GF O).imp λI Q m=>?_;obtain⟨y,h,q⟩:=m;obtain⟨P,z,_,J,B,k,h⟩:=bn3 h;cases h;exact⟨P,J,z.1,z.2,B,gd_ok k,q⟩
theorem G9(O:PDa X es (fh C mes)):PDe X (.List es pos) (aF C (.lst mes)):=by refine(DJ GF O).imp λI Q m=>?_;obtain⟨y,h,q⟩:=m;obtain⟨P,z,_,J,B,k,h⟩:=bn3 h;cases h;exact⟨P,J,z.1,z.2,B,gd_ok k,q⟩
def bN:Expr->Bool
 |.Slice _ _ _ _=>true
 |_=>false
theorem kX(h:bN b=false):PlainIx b:=λo i=>by cases b<;>first|rfl|cases h
theorem Kj(g:bN b=false)(O:PDe X a (aF C ma))(Z:PDe X b (aF C mb)):PDe X (.Subscript a b pos) (aF C (.ix ma mb)):=by refine(GG (kX g) O Z).imp λI Q m=>?_;obtain⟨y,h,q⟩:=m;obtain⟨P,W,d,k,z,J,B,s,F,n,h⟩:=bn5 h;cases h;exact⟨P,J,W,B,k,z.1,z.2,by rw[s,aT F],n,q⟩
theorem Ha(O:PDe X a (aF C ma))(Z:PDe X b (aF C mb)):PDe X (.BinOp a .Add b pos) (aF C (.cat ma mb)):=by refine(DN O Z).imp λI Q m=>?_;obtain⟨y,h,q⟩:=m;obtain⟨P,z,e,l,_,J,B,s,n,k,h⟩:=bn5 h;cases h;exact⟨P,J,z,B,e,l,s,n,gd_ok k,q⟩
theorem D6(G:FnD X.prog X.w X.K X.mg X.base k fa fd ps (λxs Q=>∃w,C.call f xs=some w/\Q w.1 w.2)) (D:Room k X.A) (N:Gl X x) (Y:X.mg x=some (.ref fa)) (hk:PySem.W.keepIn X.K (.ref fa)=true) (S:Binds X.K fd ps []) (Z:(x==("__debug__":Str))=false)
  (n:isStar e=false) (H:es.any isStar=false) (O:PDa X (e::es) (fh C mes)):PDe X (.Call (.Name x p) (e::es) [] pos) (aF C (.call f mes)):=by
 refine(zJ (ios:=C.io f) G D N Y hk S Z (aC n) (bG H) O).imp λI Q m=>?_;obtain⟨y,h,q⟩:=m;obtain⟨P,z,w,J,B,s,h⟩:=bn3 h;cases h;exact⟨P,J,z.1,z.2,B,w,s,q⟩
theorem zM(G:FnD X.prog X.w X.K X.mg X.base k fa fd ps (λxs Q=>∃w,C.call f xs=some w/\Q w.1 w.2)) (u:Room k X.A) (N:Gl X x) (Y:X.mg x=some (.ref fa)) (hk:PySem.W.keepIn X.K (.ref fa)=true) (S:Binds X.K fd ps []) (Z:(x==("__debug__":Str))=false)
  (n:isStar e=false) (H:es.any isStar=false) (O:PDa X (e::es) (fh C mes)):PDe X (.Call (.Name x p) (e::es) [] pos) (aF C (.callS f mes)):=by
 refine(wm G u N Y hk S Z (aC n) (bG H) O).imp λI Q m=>?_;obtain⟨y,h,q⟩:=m;obtain⟨P,D,w,d,_,J,B,s,c,F,h⟩:=bn5 h;cases h;exact⟨P,J,D,B,w,s,d,cM c,gd_ok F,q⟩
theorem D7:PDe X (.Dict [] [] pos) (aF C .dnew):=⟨_,vB,λb F L H I i S w Q T R ⟨y,h,q⟩ k=>λp P=>by cases h;exact k _ _ _ _ (R.push (R.wd.w7 P)) q⟩
end
end
section
section
variable{K:Waa}
theorem tY:bootBuiltins "sorted"=some (.builtin "sorted"):=by rfl
theorem gG:∀{ns:List Int}{us:List Value},Vals (ns.map V.int) us->IntsAre us ns
 |[],_,r=>by rw[aay]at r;cases r;exact .nil
 |n::ns,_,r=>by
  rw[aal]at r;cases r with
  |cons r1 p=>obtain⟨t,rfl⟩:=r1;exact .cons n t (gG p)
end
noncomputable def Lh(T:String):PyData->Bool
 |.bool _=>T == "bool" || T == "int"
 |.int _=>T == "int"
 |.str _=>T == "str"
 |.list _=>T == "list"
 |.tuple _=>T == "tuple"
 |_=>false
inductive KindT:String->Prop
 |int:KindT "int" |bool:KindT "bool" |str:KindT "str" |list:KindT "list" |tuple:KindT "tuple"
theorem Dt.kind{K:Waa}(h:Dt K H v d)(k:KindT T):∃n,Ty K H v n/\PySem.W.kitOne K (.type n) (.type T)=some (Lh T d):=by
 cases h with
 |non=>exact⟨_,.non,by cases k<;>first|rfl|exact kit_nb K|exact kit_ns K|exact kit_nl K|exact kit_nt K⟩
 |bl b=>exact⟨_,.bl b,by cases k<;>first|rfl|rfl|rfl|exact kit_bl K|exact kit_bt K⟩
 |int i=>exact⟨_,.int i,by cases k<;>first|rfl|rfl|exact kit_is K|exact kit_il K|exact kit_it K⟩
 |str x=>exact⟨_,.str x,by cases k<;>first|rfl|rfl|exact kit_sb K|exact kit_sl K|exact kit_st K⟩
 |lst s t=>exact⟨_,.lst s,by cases k<;>first|rfl|rfl|exact kit_lb K|exact kit_ls K|exact kit_lt K⟩
 |tup s t=>exact⟨_,.tup s,by cases k<;>first|exact kit_same K _|exact kit_ti K|exact kit_tb K|exact kit_ts K|exact kit_tl K⟩
theorem qw{Y C:Type}{us:List Y}{ds:List C}(u:us.length=ds.length):∀(k:Nat),∀z∈(List.replicate k us).flatten.zip (List.replicate k ds).flatten,z∈us.zip ds
 |0,z,h=>by simp at h
 |k+1,z,h=>by rw[aa4,aa4,abp,abp,List.zip_append u]at h;exact(aak.mp h).elim id (qw u k z)
def LZ(f:Bl):DRn:=λD Q=>∃d,zL f D=some d/\Q d
theorem SndCB.imp{K:Waa}(h:SndCB K r2 r)(f:∀ds Q,r' ds Q->r ds Q):SndCB K r2 r':=λH c ds w Q o z q=>h H c ds w Q o (f _ _ z) q
theorem DtAll.ints'{K:Waa}{ns:List Int}(h:DtAll K H vs (ns.map PyData.int)):vs=ns.map V.int:=by
 induction ns generalizing vs with
 |nil=>cases h;rfl
 |cons n ns Y=>cases h with|cons r t=>cases r;rw[aal,Y t]
section
variable{K:Waa}
theorem j5:∀{ds:List PyData}{ns:List Int},gU ds=some ns->ds=ns.map PyData.int
 |[],_,h=>by cases h;rfl
 |d::ds,ns,h=>by obtain⟨i,r,J,B,h⟩:=bn2 h;cases h;rw[aT J,j5 B,aal]
end
def D8:Bl->Str
 |.len=>"len" |.abs=>"abs" |.max=>"max" |.min=>"min" |.int=>"int" |.all=>"all"
theorem Hb{f:Bl}(U:X.calm=true)(N:Gl X (D8 f))(Y:X.mg (D8 f)=none)(a:isStar e=false)(H:es.any isStar=false)(O:PDa X (e::es) (fh C mes)):PDe X (.Call (.Name (D8 f) p) (e::es) [] pos) (aF C (.blt f mes)):=by
 have F:PDe X (.Call (.Name (D8 f) p) (e::es) [] pos) (IR (LZ f) (fh C mes))->PDe X (.Call (.Name (D8 f) p) (e::es) [] pos) (aF C (.blt f mes)):=λh=>h.imp λI Q ⟨y,h,q⟩=>by obtain⟨P,D,d,J,B,s,h⟩:=bn3 h;cases h;exact⟨P,J,D,B,d,s,q⟩
 refine F ?_;cases f with
 |len=>refine dX l6 (sc_len.imp λD Q m=>?_) N Y vw (by decide) (by rfl) (aC a) (bG H) O;obtain⟨d,h,q⟩:=m;obtain⟨z,n,r,J,h⟩:=bn2 h;cases h;exact⟨z,n,one1_ok r,J,q⟩
 |abs=>refine dX uX (sc_abs.imp λD Q m=>?_) N Y Dc (by decide) (by rfl) (aC a) (bG H) O;obtain⟨d,h,q⟩:=m;obtain⟨z,i,r,J,h⟩:=bn2 h;cases h;exact⟨i,by rw[one1_ok r,aT J],q⟩
 |max=>refine dX (sy U) (sc_max.imp λD Q m=>?_) N Y De (by decide) (by rfl) (aC a) (bG H) O;obtain⟨d,h,q⟩:=m;obtain⟨z,i,j,r,J,B,h⟩:=bn3 h;cases h;exact⟨i,j,by rw[two2_ok r,aT J,aT B],q⟩
 |min=>refine dX (sA U) (sc_min.imp λD Q m=>?_) N Y Dg (by decide) (by rfl) (aC a) (bG H) O;obtain⟨d,h,q⟩:=m;obtain⟨z,i,j,r,J,B,h⟩:=bn3 h;cases h;exact⟨i,j,by rw[two2_ok r,aT J,aT B],q⟩
 |int=>refine vU sC (sc_int.imp λD Q m=>?_) N Y vy (by decide) (by rfl) (aC a) (bG H) O;obtain⟨d,h,q⟩:=m;obtain⟨z,n,r,J,h⟩:=bn2 h;cases h;exact⟨z,n,one1_ok r,J,q⟩
 |all=>refine dX (vp U) (sc_all.imp λD Q m=>?_) N Y Dh (by decide) (by rfl) (aC a) (bG H) O;obtain⟨d,h,q⟩:=m;obtain⟨w,z,n,r,W,J,h⟩:=bn3 h;cases h;exact⟨z,n,by rw[one1_ok r,wq W],J,q⟩
theorem D9(N:Gl X "list") (Y:X.mg "list"=none) (n:isStar e=false) (O:PDe X e (aF C ma)):PDe X (.Call (.Name "list" p) [e] [] pos) (aF C (.bnw .list ma)):=by refine(tD N Y kH (by decide) (by rfl) (aC n) rfl (bL n O fF)).imp λI Q m=>?_;obtain⟨y,h,q⟩:=m;obtain⟨P,D,J,B,h⟩:=bn2 h;cases h;exact⟨([P.1],P.2),by simp only[evs,J];rfl,P.1,D,rfl,B,q⟩
theorem zN(N:Gl X "tuple") (Y:X.mg "tuple"=none) (n:isStar e=false) (O:PDe X e (aF C ma)):PDe X (.Call (.Name "tuple" p) [e] [] pos) (aF C (.bnw .tuple ma)):=by refine(vV N Y iL (by decide) (by rfl) (aC n) rfl (bL n O fF)).imp λI Q m=>?_;obtain⟨y,h,q⟩:=m;obtain⟨P,D,J,B,h⟩:=bn2 h;cases h;exact⟨([P.1],P.2),by simp only[evs,J];rfl,P.1,D,rfl,B,q⟩
theorem insI_perm(i:Int):∀l,(insI i l).Perm (i::l)
 |[]=>.refl _
 |j::r=>by
  unfold insI;split
  ·rfl
  ·exact((insI_perm i r).cons j).trans (List.Perm.swap _ _ _)
theorem mL(i:Int):∀{l:List Int},l.Pairwise (·<=·)->(insI i l).Pairwise (·<=·)
 |[],_=>by simp[insI]
 |j::r,h=>by
  obtain⟨O,Z⟩:=aaT.mp h;unfold insI;split
  ·rename_i z;exact aaT.mpr ⟨λk T=>(aaa.mp T).elim (λe=>e▸z) λT=>abL z (O k T),h⟩
  ·rename_i z;refine aaT.mpr ⟨λk T=>?_,mL i Z⟩;rcases aaa.mp ((insI_perm i r).mem_iff.mp T) with rfl|T
   ·omega
   ·exact O k T
theorem sortI_perm:∀l,(sortI l).Perm l
 |[]=>.refl _
 |i::r=>(insI_perm i _).trans ((sortI_perm r).cons i)
theorem j6:∀l,(sortI l).Pairwise (·<=·)
 |[]=>.nil
 |i::r=>mL i (j6 r)
theorem mM:∀{l W:List Int},l.Perm W->l.Pairwise (·<=·)->W.Pairwise (·<=·)->l=W
 |[],W,p,_,_=>by simp_all
 |a::l,[],p,_,_=>by simp_all
 |a::l,b::W,p,h,h'=>by
  obtain⟨O,Z⟩:=aaT.mp h;obtain⟨M,F⟩:=aaT.mp h';have e:a=b:=by
   have w:=p.mem_iff.mp aai;have j:=p.mem_iff.mpr aai
   grind
  subst e;rw[mM (List.Perm.cons_inv p) Z F]
theorem i3(c:match k with|.int=>T="int" |.bool=>T="bool" |.str=>T="str" |.list=>T="list" |.tuple=>T="tuple" |.seq=>False) (m:PE X b (tC (.ty T))) (N:Gl X "isinstance") (U:X.mg "isinstance"=none) (j:isStar a=false) (S:isStar b=false)
  (O:PDe X a (aF C ma)):PDe X (.Call (.Name "isinstance" p) [a,b] [] pos) (aF C (.isi k ma)):=by
 obtain⟨o,h,s⟩:=O;refine⟨_,dR (vq T) N U fj (aZ h (aZ m cg (aC S)) (aC j)) (by decide) (by decide) (aC j) (bG (by simp[S])),λb F L H I i e w Q t R ⟨y,h,q⟩ D=>?_⟩;obtain⟨P,d,J,B,h⟩:=bn2 h;cases h;refine s b F L H I i e (λr u=>r=P.1/\u=P.2) _ t R ⟨P,J,rfl,rfl⟩ λv l r u g hZ=>?_;obtain⟨O,Z⟩:=hZ;subst O Z;have f:=g.dt B;rw[t]at f;have Y:∀(z:KindT T),Lh T d=BC k d->∃x n b,[v,V.ty T]=[x,V.ty T]/\Ty X.K l x n/\PySem.W.kitOne X.K (.type n) (.type T)=some b/\Q (.bl b) l:=λz M=>by obtain⟨n,ty,A⟩:=f.kind z;rw[M]at A;exact⟨v,n,_,rfl,ty,A,D _ l _ _ (g.drop.sc (.bl _)) q⟩
 cases k with
 |int=>subst c;exact Y .int (by cases d<;>rfl)
 |bool=>subst c;exact Y .bool (by cases d<;>rfl)
 |str=>subst c;exact Y .str (by cases d<;>rfl)
 |list=>subst c;exact Y .list (by cases d<;>rfl)
 |tuple=>subst c;exact Y .tuple (by cases d<;>rfl)
 |seq=>exact c.elim
theorem Dt.kind2{K:Waa}(h:Dt K H v d):∃n,Ty K H v n/\PySem.W.kitAny K (.type n) [.type "list",.type "tuple"]=some (BC .seq d):=by
 cases h with
 |non=>exact⟨_,.non,eP K (kit_nl K) (kit_nt K)⟩
 |bl b=>exact⟨_,.bl b,eP K (kit_bl K) (kit_bt K)⟩
 |int i=>exact⟨_,.int i,eP K (kit_il K) (kit_it K)⟩
 |str x=>exact⟨_,.str x,eP K (kit_sl K) (kit_st K)⟩
 |lst s t=>exact⟨_,.lst s,iK K (.inl (kit_same K _))⟩
 |tup s t=>exact⟨_,.tup s,iK K (.inr ⟨kit_tl K,kit_same K _⟩)⟩
theorem Ea{e} (m:PE X b (tC (.ty "list"))) (x:PE X c (tC (.ty "tuple"))) (N:Gl X "isinstance") (Y:X.mg "isinstance"=none) (j:isStar a=false) (hb:isStar b=false) (U:isStar c=false)
  (O:PDe X a (aF C ma)):PDe X (.Call (.Name "isinstance" p) [a,.Tuple [b,c] e p1] [] pos) (aF C (.isi .seq ma)):=by
 obtain⟨o,h,s⟩:=O;refine⟨_,dR (sU "list" "tuple") N Y fj (aZ h (aZ (n9 (aZ m (aZ x cg (aC U)) (aC hb))) cg (aC rfl)) (aC j)) (by decide) (by rfl) (aC j) (bG rfl),λb F L H I i S w Q T R ⟨y,h,q⟩ D=>?_⟩;obtain⟨P,d,J,B,h⟩:=bn2 h;cases h;refine s b F L H I i S (λr u=>r=P.1/\u=P.2) _ T R ⟨P,J,rfl,rfl⟩ λv l r u g z=>?_;obtain⟨O,Z⟩:=z;subst O Z;refine⟨by decide,λk hp=>?_⟩;have t:Rel b F L (upd l k (.tup [.ty "list",.ty "tuple"])) P.2 (v::i) (P.1::S):=⟨g.wf,g.al,g.wff,g.wd.new hp⟩
 have W:=t.dt B;rw[T]at W;obtain⟨n,A,M⟩:=W.kind2;have f:=D (.bl (BC .seq d)) _ (.val (.fz (.bool (BC .seq d)))) _ (t.drop.sc (.bl _)) q;exact⟨v,_,_,k,rfl,aB,A,M,f⟩
end
section
def i4(t:Tg):DG:=λx I Q=>∃p,bj t x I=some p/\Q p
structure Sto (X:Cx)(W:Nat->Prop)(m:Nat)(i:Nat)(x:Str):Prop where
 hN:X.N[i]?=some x
 loc:Loc X.env.scope x
 fn:X.fn x=true\/X.env.scope.names.lookup x=some .local
 lt:i<m
 nw:¬ W i
theorem PDg.imp:PDg X W m e d->(∀x ρ Q,d' x ρ Q->d x ρ Q)->PDg X W m e d'
 |⟨te,h,s⟩,f=>⟨te,h,λb F σ H ρ τ θ v x w Q T n R N q=>s b F σ H ρ τ θ v x w Q T n R (f _ _ _ N) q⟩
theorem PDgs.imp:PDgs X W m es d->(∀x ρ Q,d' x ρ Q->d x ρ Q)->PDgs X W m es d'
 |⟨te,h,s⟩,f=>⟨te,h,λb F σ H ρ τ θ v x w Q T n u R N q=>s b F σ H ρ τ θ v x w Q T n u R (f _ _ _ N) q⟩
theorem PDg.or:PDg X W m e d->PDg X W m e d'->PDg X W m e (λx ρ Q=>d x ρ Q\/d' x ρ Q)
 |⟨te,h,s⟩,⟨te',h',s'⟩=>⟨λv σ H Q=>te v σ H Q\/te' v σ H Q,λM s σ H v u Q I r z=>z.elim (h M s σ H v u Q I r) (h' M s σ H v u Q I r),λb F σ H ρ τ θ v x w Q T n R N q=>N.imp (λN=>s b F σ H ρ τ θ v x w Q T n R N q) λN=>s' b F σ H ρ τ θ v x w Q T n R N q⟩
theorem Kk(a:X.N.Nodup)(s:Sto X W m i x):PDg X W m (.Name x pos) (i4 (.nm i)):=by refine(mw s.nw a s.hN s.loc s.lt s.fn).imp λy I Q Y=>?_;obtain⟨p,h,q⟩:=Y;obtain⟨_,r,h⟩:=bnd h;cases h;exact⟨gd_ok r,q⟩
inductive Stos (X:Cx)(W:Nat->Prop)(m:Nat):List Nat->List Expr->Prop
 |nil:Stos X W m [] []
 |cons {i is x pos es}:Sto X W m i x->Stos X W m is es->Stos X W m (i::is) (.Name x pos::es)
theorem oO(a:X.N.Nodup):∀{d:List Nat}{es:List Expr},Stos X W m d es->PDgs X W m es (λxs ρ Q=>xs.length=d.length/\(∀i∈d,i<ρ.length)/\Q (dY d xs ρ))
 |[],_,.nil=>pdgs_nil.imp λxs ρ Q ⟨O,Z,q⟩=>by
   cases xs with
   |nil=>exact⟨rfl,q⟩
   |cons _ _=>simp at O
 |i::is,_,.cons s t=>(tG rfl (mw s.nw a s.hN s.loc s.lt s.fn) (oO a t)).imp λxs ρ Q ⟨O,Z,q⟩=>by
   cases xs with
   |nil=>simp at O
   |cons z zs=>exact⟨z,zs,rfl,Z i aai,by simpa using O,λj u=>by rw[abN];exact Z j (aag _ u),q⟩
theorem fS(h:Stos X W m ts es):(assignEach es X.env).length=ts.length/\(assignEach es X.env).findIdx? (·.1)=none:=by
 induction h with
 |nil=>exact⟨rfl,rfl⟩
 |@cons i is x pos es s t ih=>have e:assignEach (.Name x pos::es) X.env=(false,assign (.Name x pos) X.env)::assignEach es X.env:=rfl;rw[e];refine⟨by simp[ih.1],?_⟩;rw[aaR];simp[ih.2]
theorem wy(h:D1 y=some xs):unpT y=some xs\/unpL y=some xs:=by
 unfold D1 at h
 grind
theorem Kl(U:X.calm=true)(a:X.N.Nodup)(h:Stos X W m ts es):PDg X W m (.Tuple es k pos) (i4 (.tp ts)):=by
 refine((zB U (fS h).1 (fS h).2 (oO a h)).or (zC U (fS h).1 (fS h).2 (oO a h))).imp λy I Q f=>?_;obtain⟨p,h,q⟩:=f;obtain⟨Y,_,J,r,h⟩:=bn2 h;cases h;have r:=gd_ok r;rcases wy J with J|J
 ·exact .inl ⟨Y,J,r.1,r.1,r.2,q⟩
 ·exact .inr ⟨Y,J,r.1,r.1,r.2,q⟩
theorem PI.or(h:PI X tg e t)(h':PI X tg e t'):PI X tg e (λσ H R=>t σ H R\/t' σ H R):=λM s σ H R I z=>z.elim (h M s σ H R I) (h' M s σ H R I)
theorem PDi.or:PDi X tg e d->PDi X tg e d'->PDi X tg e (λρ Q=>d ρ Q\/d' ρ Q)
 |⟨te,h,s⟩,⟨te',h',s'⟩=>⟨_,PI.or h h',λb F σ H ρ τ θ w Q T R W q=>W.imp (λW=>s b F σ H ρ τ θ w Q T R W q) λW=>s' b F σ H ρ τ θ w Q T R W q⟩
theorem Eb(J:ev C ma ρ=some xa):evs C (.cons ma .nil) ρ=some ([xa.1],xa.2):=by show ((ev C ma ρ).bind _)=_;rw[J];rfl
theorem Km(J:ev C ma ρ=some xa)(B:ev C mb xa.2=some xb):evs C (.cons ma (.cons mb .nil)) ρ=some ([xa.1,xb.1],xb.2):=by show ((ev C ma ρ).bind _)=_;rw[J];show ((evs C (.cons mb .nil) xa.2).bind _)=_;rw[Eb B];rfl
theorem j7(e:az ρ r=some d):fe ρ [r]=some [d]:=by show ((az ρ r).bind _)=_;rw[e];rfl
theorem wz(e:az ρ r=some d)(L:az ρ r'=some d'):fe ρ [r,r']=some [d,d']:=by show ((az ρ r).bind _)=_;rw[e];rw[j7 L];rfl
theorem BF(e:frz1 ρ r=some z)(h:z.1=d):frzL ρ [r]=some ([d],z.2):=by show ((frz1 ρ r).bind _)=_;rw[e,<-h];rfl
theorem Hc(e:frz1 ρ r=some z)(L:frz1 z.2 r'=some w):frzL ρ [r,r']=some ([z.1,w.1],w.2):=by show ((frz1 ρ r).bind _)=_;rw[e];show ((frzL z.2 [r']).map _)=_;rw[BF L rfl];rfl
theorem BG(h:tT d=some ds):∃l:Bool,GQ d=some (l,ds):=(iY h).elim (λh=>⟨true,h▸rfl⟩) λh=>⟨false,h▸rfl⟩
theorem Hd(O:PDe X e (aF C ma)):PDi X tg e (gF C (.seq ma)):=by
 refine((v5 O).or (zE O)).imp λI Q m=>?_;obtain⟨y,h,q⟩:=m;obtain⟨P,z,D,J,B,s,h⟩:=bn3 h;obtain⟨d,p⟩:=z;cases h;rcases iY s with s|s<;>simp only at s<;>subst s
 ·exact .inl ⟨P,J,_,_,B,q⟩
 ·exact .inr ⟨P,J,_,_,B,q⟩
theorem He(N:Gl X "range") (Y:X.mg "range"=none) (g:isStar a=false) (O:PDe X a (aF C ma)):PDi X tg (.Call (.Name "range" p) [a] [] pos) (gF C (.rg1 ma)):=by refine(oG N Y (aC g) (bL g O fF)).imp λI Q m=>?_;obtain⟨y,h,q⟩:=m;obtain⟨P,d,j,_,J,B,s,W,h⟩:=bn4 h;cases h;have W:=gd_ok W;rw[aT s]at B;exact⟨([P.1],P.2),Eb J,j,j7 B,W.1,W.2,q⟩
theorem Hf{f:Expr}{c:Expr} (N:Gl X "range") (Y:X.mg "range"=none) (g:isStar a=false) (A:isStar b=false) (H:isStar c=false) (O:PDe X a (aF C ma)) (Z:PDe X b (aF C mb)) (M:PDe X c (aF C (.int 2))):PDi X f (.Call (.Name "range" p) [a,b,c] [] pos) (gF C (.rg3 ma mb)):=by
 refine(oJ N Y (by rw[aC g,aC A,aC H];rfl) (by rw[aC A,aC H];rfl) (bL g O (bL A Z (bL H M fF)))).imp λI Q m=>?_;obtain⟨y,h,q⟩:=m;obtain⟨P,z,d,i,k,J,t,B,W,s,h⟩:=bn5 h;obtain⟨j,_,F,u,h⟩:=bn2 h;cases h;rw[aT W]at B;rw[aT F]at s;refine⟨([P.1,z.1,.val (.fz (.int 2))],z.2),?_,i,j,?_,gd_ok u,q⟩
 ·exact aaF.mpr ⟨P,J,aaF.mpr ⟨([z.1,.val (.fz (.int 2))],z.2),aaF.mpr ⟨z,t,rfl⟩,rfl⟩⟩
 ·show ((az z.2 P.1).bind _)=_;rw[B];rw[wz s rfl];rfl
theorem Hg{v} (N:Gl X "enumerate") (Y:X.mg "enumerate"=none) (g:isStar a=false) (O:PDe X a (aF C ma)):PDi X (.Tuple es v tpos) (.Call (.Name "enumerate" p) [a] [] pos) (gF C (.enm ma)):=by refine(v7 N Y (aC g) (bL g O fF)).imp λI Q m=>?_;obtain⟨y,h,q⟩:=m;obtain⟨P,z,D,J,B,s,h⟩:=bn3 h;cases h;exact⟨([P.1],P.2),Eb J,D,z.2,BF B (wq s),q⟩
theorem Hh{v} (N:Gl X "zip") (j:X.mg "zip"=none) (g:isStar a=false) (d:isStar b=false) (O:PDe X a (aF C ma)) (Z:PDe X b (aF C mb)):PDi X (.Tuple es v tpos) (.Call (.Name "zip" p) [a,b] [] pos) (gF C (.zip ma mb)):=by refine(zF N j (by rw[aC g,aC d];rfl) (aC d) (bL g O (bL d Z fF))).imp λI Q m=>?_;obtain⟨y,h,q⟩:=m;obtain⟨P,W,z,w,D,J,t,B,s,n,h⟩:=bn5 h;obtain⟨es,F,h⟩:=bnd h;cases h;obtain⟨o,Y⟩:=BG n;obtain⟨H,l⟩:=BG F;exact⟨_,Km J t,_,_,o,H,D,es,w.2,Hc B s,Y,l,q⟩
def cQ(C:Ct)(f:Tg)(S:Eo)(elt:E)(d:PyData)(ρ:DEnv):Option (List PyData×DEnv):=
 (bj f (.fz d) ρ).bind λA=>(Kc C S A).bind λk=>if k.1=true then (ev C elt k.2).bind λy=>(frz1 y.2 y.1).bind λq=>some ([q.1],q.2) else some ([],k.2)
def Ec(C:Ct)(S:Eo)(elt:E):DC:=λI Q=>∃w,((Kc C S I).bind λk=>if k.1=true then (ev C elt k.2).bind λy=>(frz1 y.2 y.1).bind λq=>some (([q.1]:List PyData),q.2) else some ([],k.2))=some w/\Q w.1 w.2
theorem PDc.imp:PDc Y ifs elt d->(∀ρ Q,d' ρ Q->d ρ Q)->PDc Y ifs elt d'
 |⟨te,h,s⟩,f=>⟨te,h,λb F σ H ρ vs rs D out w Q T u A R W q=>s b F σ H ρ vs rs D out w Q T u A R (f _ _ W) q⟩
theorem c_plain(O:PDe Y elt (aF C me)):PDc Y [] elt (Ec C .none me):=(tN O).imp λI Q ⟨w,h,q⟩=>by have h:((ev C me I).bind λy=>(frz1 y.2 y.1).bind λq=>some (([q.1]:List PyData),q.2))=some w:=h;obtain⟨y,z,J,B,h⟩:=bn2 h;cases h;exact⟨y,J,z.1,z.2,B,q⟩
theorem Ed(P:PDt Y c (gW C mc))(O:PDe Y elt (aF C me)):PDc Y [c] elt (Ec C (.some mc) me):=(we P O).imp λI Q ⟨w,h,q⟩=>by
 obtain⟨k,X,h⟩:=bnd h;refine⟨k,X,?_⟩;by_cases T:k.1=true
 ·rw[if_pos T]at h ⊢;obtain⟨y,z,J,B,h⟩:=bn2 h;cases h;exact⟨y,J,z.1,z.2,B,q⟩
 ·grind
theorem wA(step:PyData->DEnv->Option (List PyData×DEnv))(ds:List PyData)(w:List PyData×DEnv)(k:Nat)(W:ds[k]?=some d)(h:cH step (ds.drop k) out ρ=some w):∃z,step d ρ=some z/\cH step (ds.drop (k+1)) (out++z.1) z.2=some w:=by
 have T:=(aah.mp W).1;have e:ds.drop k=d::ds.drop (k+1):=by rw[abw T,(aah.mp W).2]
 rw[e]at h;exact bnd h
theorem qx(C:Ct){M:Tg}:∀ρ Q,aF C (.comp nt fr mi M mif me) ρ Q->qp (gF C mi) nt fr (i4 M) (Ec C mif me) ρ Q:=λρ Q ⟨y,h,q⟩=>by
 obtain⟨x,_,z,w,J,f,B,s,h⟩:=bn4 h;cases h;refine⟨x,J,gd_ok f,z.1,z.2,B,λk v ρ=>cH (cQ C M mif me) (x.1.drop k) v ρ=some w,s,λk d v ρ W a=>?_,λv ρ a=>?_⟩
 ·obtain⟨u,U,F⟩:=wA _ _ _ k W a;obtain⟨A,n,U⟩:=bnd U;exact⟨A,n,u,U,F⟩
 ·have a:cH (cQ C M mif me) (x.1.drop x.1.length) v ρ=some w:=a;rw[abS]at a;cases a;exact q
theorem Ee{M:Tg}(U:X.calm=true)(S:CompScope N nt fr X.N scope X.env.scope)(g:∀x,foldedSetIterable iter X.env x=pure x)(r:PDi X tg iter (gF C mi))(m:∀c:CC,PDg (cC X N scope c) Ff nt tg (i4 M))(j:∀c:CC,PDc (cC X N scope c) ifs elt (Ec C mif me)):
  PDe X (.ListComp elt [⟨tg,iter,ifs,0⟩] scope pos) (aF C (.comp nt fr mi M mif me)):=(zI U S g r m j).imp (qx C)
theorem Wd.lst0{b:Bs}{H:Hp}{L:List (V×OD)}{v:V}{ds:List PyData}(w:Wd b H L)(m:(v,OD.lst (ds.map OD.fz))∈L):∃a vs,v=.ref a/\vs.length=ds.length/\H a=some (.lst vs)/\Wd b H (vs.zip (ds.map OD.fz)++L):=by
 obtain⟨A,P,Q,i⟩:=w.out;obtain⟨B,h⟩:=OwL.mem P m;cases h with
 |@lst a vs xs A' e1 t=>have Z:=Ows.fzs t;exact⟨a,vs,rfl,Z.length,e1,w.exp P Q i Z⟩
theorem zO{x:OD}{xs:List OD}(h:nS x=some xs):x=.lst xs:=by cases x<;>cases h;rfl
theorem Hi(O:PDe X a (aF C ma))(Z:PDe X c (aF C mb)):PDe X (.BinOp a .Mult c pos) (aF C (.rep ma mb)):=by
 obtain⟨_,O,f⟩:=O;obtain⟨_,Z,s2⟩:=Z;refine⟨_,uQ C4 O Z,λb F L H I i S Qd Q T R ⟨y,h,q⟩ k=>?_⟩;obtain⟨P,g,x0,Y,W,J,B,o,A,x,h⟩:=bn5 h;obtain⟨n,D,_,U,s,d,h⟩:=bn3 h;cases h;have d:=gd_ok d;rw[aT U]at x;rw[zO A,fzL_map s]at o;refine f b F L H I i S (λr p=>r=P.1/\p=P.2) _ T R ⟨P,J,rfl,rfl⟩ λv H1 r p M m=>?_;obtain⟨O,Z⟩:=m;subst O Z;refine s2 b F L H1 _ _ _ (λr p=>r=g.1/\p=g.2) _ T M ⟨g,B,rfl,rfl⟩ λu N r p t m=>?_;obtain⟨O,Z⟩:=m;subst O Z;have hk:=t.dt x;cases hk;obtain⟨l,us,rfl,j,hH,w⟩:=t.wd.lst0 (t.mem1 o);refine⟨l,n,us,rfl,rfl,hH,by lia,by lia,aan (by rw[j];exact d.2.2) (by decide),λpp hp=>k _ _ _ _ (Rel.ez (Rel.ez (t.eg w (by rw[len_rep,len_rep,j]) (λz d=>?_) hp))) q⟩;refine aaf _ (qw (by simpa using j) n.toNat z ?_);have e:(List.replicate n.toNat D).flatten.map OD.fz=(List.replicate n.toNat (D.map OD.fz)).flatten:=by rw[List.map_flatten,List.map_replicate]
 rw[e]at d;exact d
end
section
def Ef(D:DEnds)(ρ:DEnv):Fl->Prop
 |.nx=>D.nx ρ|.bk=>D.bk ρ|.ct=>D.ct ρ|.rt x=>D.rt x ρ
def gH(C:Ct)(s:S'):DS:=λD I=>∃x,bF C s I=some x/\Ef D x.2 x.1
def jR(C:Ct)(s:Ss):DS:=λD I=>∃x,aD C s I=some x/\Ef D x.2 x.1
section
variable{zs:List OD}
theorem Rel.open(R:Rel b F σ H ρ (us++τ) (zs.map OR.val++θ))(u:us.length=zs.length)(e:ρ[i]?.join=some x):∃v,σ[i]?=some (some v)/\Wd b H (us.zip zs++((v,x)::(stk τ θ++(flat σ (ρ.set i none)++ff F)))):=by obtain⟨v,f,w⟩:=R.slot (join_some e);refine⟨v,f,w.perm ?_⟩;rw[aH (by simpa using u),ck u,aab];exact aav.symm
theorem Rel.close(R:Rel b F σ H ρ τ θ)(ev:σ[i]?=some (some v))(w:Wd b H' ((v,x)::(stk τ θ++(flat σ (ρ.set i none)++ff F)))):Rel b F σ H' (ρ.set i (some x)) τ θ:=Rel.back R.wf R.al R.wff ev w
theorem Rel.rest(R:Rel b F σ H ρ (us++τ) (zs.map OR.val++θ))(u:us.length=zs.length):Rel b F σ H ρ τ θ:=R.drops (by grind)
end
section
variable{st:Stmt}
theorem PDs.imp:PDs X W st d->(∀D ρ,d' D ρ->d D ρ)->PDs X W st d'
 |⟨te,h,s⟩,f=>⟨te,h,λb F σ H ρ τ θ q D T n R N E=>s b F σ H ρ τ θ q D T n R (f _ _ N) E⟩
theorem PDss.imp:PDss X W sts d->(∀D ρ,d' D ρ->d D ρ)->PDss X W sts d'
 |⟨te,h,s⟩,f=>⟨te,h,λb F σ H ρ τ θ q D T n R N E=>s b F σ H ρ τ θ q D T n R (f _ _ N) E⟩
theorem Eg:PDss X W [] (jR C .nil):=pdss_nil.imp λD I ⟨y,h,q⟩=>by cases h;exact q
theorem zQ(O:PDs X W st (gH C ms))(Z:PDss X W sts (jR C mss)):PDss X W (st::sts) (jR C (.cons ms mss)):=by
 refine(tF O Z).imp λD I m=>?_;obtain⟨y,h,q⟩:=m;obtain⟨z,J,h⟩:=bnd h;obtain⟨a,A⟩:=z;refine⟨λp=>a=.nx/\p=A,λp ⟨O,Z⟩=>?_,?_⟩
 ·subst O Z;exact⟨y,h,q⟩
 ·cases a
  ·exact⟨_,J,rfl,rfl⟩
  ·cases h;exact⟨_,J,q⟩
  ·cases h;exact⟨_,J,q⟩
  ·cases h;exact⟨_,J,q⟩
theorem Eh:PDs X W (.Continue pos) (gH C .cont):=pds_cont.imp λD I ⟨y,h,q⟩=>by cases h;exact q
def eB:Expr->Bool
 |.ListComp _ _ _ _=>true|.SetComp _ _ _ _=>true|.DictComp _ _ _ _ _=>true
 |_=>false
theorem gJ(h:eB e=false):swapsWith e t l env=pure false:=by cases e<;>first|rfl|cases h
theorem Kn(g:eB e=false)(O:PDe X e (aF C ma)):PDs X W (.Expr e pos) (gH C (.ex ma)):=by refine(vW (gJ g) O).imp λD I m=>?_;obtain⟨y,h,q⟩:=m;obtain⟨z,J,h⟩:=bnd h;cases h;exact⟨z,J,q⟩
theorem Hj(O:PDe X e (aF C ma)):PDs X W (.Return (some e) pos) (gH C (.ret ma)):=by refine(zx O).imp λD I m=>?_;obtain⟨y,h,q⟩:=m;obtain⟨z,w,J,B,h⟩:=bn2 h;cases h;exact⟨z,J,w.1,w.2,B,q⟩
theorem Ko(P:PDt X c (gW C mc))(O:PDss X W s1 (jR C ma'))(Z:PDss X W s2 (jR C mb')):PDs X W (.If c s1 s2 pos) (gH C (.iff mc ma' mb')):=by
 refine(DP P O Z).imp λD I m=>?_;obtain⟨y,h,q⟩:=m;obtain⟨z,J,h⟩:=bnd h;refine⟨z,J,?_⟩;by_cases T:z.1=true
 ·rw[if_pos T]at h ⊢;exact⟨y,h,q⟩
 ·rw[if_neg T]at h ⊢;exact⟨y,h,q⟩
theorem BH(a:X.N.Nodup)(s:Sto X W m i x)(g:swapsWith e (some (.Name x pos')) pos.line X.env=pure false)(O:PDe X e (aF C ma)):PDs X W (.Assign [.Name x pos'] e pos) (gH C (.set i ma)):=by refine(zy s.nw a s.hN s.loc g s.fn O).imp λD I Y=>?_;obtain⟨y,h,q⟩:=Y;obtain⟨z,w,_,J,B,r,h⟩:=bn3 h;cases h;exact⟨z,J,w.1,w.2,B,gd_ok r,q⟩
theorem Hk(g:swapsWithSole [tg] e pos.line X.env=pure false)(Q:swappedStores [tg] e X.env=pure none)(P:isStar tg=false)(O:PDe X e (aF C ma))(Z:PDg X W m tg (i4 t)):PDs X W (.Assign [tg] e pos) (gH C (.asg t ma)):=by refine(zD g Q (by cases tg<;>first|rfl|cases P) O Z).imp λD I Y=>?_;obtain⟨y,h,q⟩:=Y;obtain⟨z,w,A,J,B,s,h⟩:=bn3 h;cases h;exact⟨z,J,w.1,w.2,B,A,s,q⟩
theorem zR(M:PassesOwn (model X.prog X.w) X.A X.env X.xe)(P:PDt X cc (gW C mc))(O:PDss X W sts (jR C mss)):PDs X W (.While cc sts [] pos) (gH C (.whl mc mss)):=by
 refine(tH M P O).imp λD I m=>?_;obtain⟨y,h,q⟩:=m;refine⟨λn I=>cv (aL C mc) (aD C mss) n I=some y,⟨C.wf,h⟩,λn I l=>?_⟩;cases n with
 |zero=>cases l
 |succ n=>
  obtain⟨z,J,l⟩:=bnd l;refine⟨z,J,?_⟩;by_cases T:z.1=true
  ·rw[if_pos T]at l ⊢;obtain⟨w,B,l⟩:=bnd l;obtain⟨a,U⟩:=w;refine⟨λp=>p=U/\(a=.nx\/a=.ct),λp ⟨O,Z⟩=>?_,?_⟩
   ·subst O;refine⟨n,aba n,?_⟩;rcases Z with rfl|rfl<;>exact l
   ·cases a with
    |nx=>exact⟨_,B,rfl,.inl rfl⟩
    |bk=>cases l;exact⟨_,B,q⟩
    |ct=>exact⟨_,B,rfl,.inr rfl⟩
    |rt o=>cases l;exact⟨_,B,q⟩
  ·rw[if_neg T]at l ⊢;cases l;exact q
theorem Hl(hp:PassesOwn (model X.prog X.w) X.A X.env X.xe)(hc:X.calm=true)(hs:∀x,foldedSetIterable iter X.env x=pure x)(r:PDi X tg iter (gF C mi))(hg:PDg X W m tg (i4 t))(hb:PDss X W sts (jR C mss)):PDs X W (.For tg iter sts [] pos) (gH C (.fr t mi mss)):=by
 obtain⟨_,O,f⟩:=r;obtain⟨_,Z,s2⟩:=hg;obtain⟨_,M,s3⟩:=hb;refine⟨_,CI hp hc O Z M hs,λb F σ H I τ S Dd D T n R ⟨y,h,q⟩ E=>?_⟩;obtain⟨x,e1,h⟩:=bnd h;refine f b F σ H I τ S (λds p=>ds=x.1/\p=x.2) _ T R ⟨x,e1,rfl,rfl⟩ λJ H1 ds a1 c U u nr R1 it hZ=>?_;obtain⟨O,Z⟩:=hZ;subst O Z;refine⟨λi j σ H=>j=x.1.length-i/\i<=x.1.length/\∃I,Rel b F σ H I (c++τ) (U++S)/\bR (λd p=>(bj t (.fz d) p).bind λa1=>aD C mss a1) (x.1.drop i) I=some y,⟨_,rfl,aaB _,_,R1,h⟩,?_⟩;rintro i j k N ⟨rfl,r,a3,R2,w2⟩;obtain⟨go,L⟩:=it F k N a3 τ S R2 i;by_cases a2:i<x.1.length
 ·obtain⟨Y,g2⟩:=go a2;have ed:=aam a2;have ee:=abw a2;rw[ee]at w2;obtain⟨w,B,w2⟩:=bnd w2;obtain⟨a4,s,B⟩:=bnd B;obtain⟨a,P⟩:=w;refine .inr ⟨Y,λa0 l=>∃p,Rel b F a0 l p (c++τ) (U++S)/\bR (λd p=>(bj t (.fz d) p).bind λa1=>aD C mss a1) (x.1.drop (i+1)) p=some y,λa0 l ⟨p,g,w'⟩=>⟨_,by omega,rfl,a2,p,g,w'⟩,λz H3 hy=>?_⟩;have R3:=g2 z H3 x.1[i] hy ed;refine s2 b F k H3 a3 (c++τ) (U++S) z _ (λp=>p=a4) _ T (NoRf.app nr.weak n) R3 ⟨a4,s,rfl⟩ λa5 Q p R4 _ h4=>?_;subst h4;refine s3 b F a5 Q _ (c++τ) (U++S) ⟨λp=>a=.nx/\p=P,λo p=>a=.rt o/\p=P,λp=>a=.bk/\p=P,λp=>a=.ct/\p=P⟩ _ T (NoRf.app nr.weak n) R4 ⟨_,B,by cases a<;>exact⟨rfl,rfl⟩⟩ ⟨λa0 l p g ⟨O,Z⟩=>?_,λa0 l p g ⟨O,Z⟩=>?_,λa0 l p g ⟨O,Z⟩=>?_,λa0 l p v o g ⟨O,Z⟩=>?_⟩
  ·subst O Z;exact⟨_,g,w2⟩
  ·subst O Z;cases w2;exact E.nx a0 l _ (g.drops u) q
  ·subst O Z;exact⟨_,g,w2⟩
  ·subst O Z;cases w2;exact E.rt a0 l _ v o (Rel.drops (Rel.zb g u) u) q
 ·have e:i=x.1.length:=by omega
  subst e;rw[abS]at w2;cases w2;exact .inl ⟨L rfl,E.nx k N a3 (R2.drops u) q⟩
end
end
section
section
variable{E:Value->Shared->Prop}
theorem mN{T d:String}(j:s.TypeIs a T)(S:s.TypeIs b T)
  (r:typeLookup (.type T) (dunderI "add")=pure (some (.builtin d))) (c:isSeqSlotId d=true) (L:fillsNumberSlot (.type T) "add"=pure false)
  (U:wpAny (model prog w) A (call (.builtin d) [a,b]) Q E s):wpAny (model prog w) A (inplaceOp .Add a b) Q E s:=by
 unfold inplaceOp;refine acB ?_;have I:fillsInplaceSlot (.type T) "add" (Operator.Add==.Add)=pure false:=by
  unfold fillsInplaceSlot;show (typeLookup (.type T) (dunderI "add") >>= λf=>pure (f.isSome&&!isSeqSlot f))=pure false;rw[r];show (pure (true&&!isSeqSlotId d):Sem Bool)=_
  grind
 have i:=PySem.seqSlot_of r c;refine acs (wpAny_typeOf j (acs (wpAny_of_eq I ?_)));rw[if_neg aaq];refine acs (binaryOp1_none j S L ?_);refine acs (wpAny_of_eq i ?_)
 trivial
end
section
variable{x:Str}
def ipL:TIp:=λx y H Q=>∃l b Y s,x=.ref l/\y=.ref b/\H l=some (.lst Y)/\H b=some (.lst s)/\Y.length+s.length<=sizeLine/\Q (.ref l) (upd H l (.lst (Y++s)))
theorem zT:F2 X .Add ipL:=by
 intro M s L H x y v u Q I J T h;obtain⟨l,b,Y,m,rfl,rfl,w,C,d,q⟩:=h;cases J;cases T;obtain⟨z,D,n,r,t,e⟩:=I.lstM w;obtain⟨U,i,a,p,N,B⟩:=I.lstM C;have k:D.toArray.size+i.toArray.size<=sizeLine:=by grind
 have g:¬ (!D.toArray.isEmpty&&Builtin.List.listTooLong (D.toArray.size+i.toArray.size))=true:=by rw[l8 k,Bool.and_false];simp
 refine mN ⟨_,e,rfl⟩ ⟨_,B,rfl⟩ F.slot_list_iadd.lookup (by rfl) noFill_list_add ?_;refine acL F.slot_list_iadd ⟨_,e,rfl⟩ F.entry_list_iadd (F.args_list_iadd_2 _ _)
  (AutoSeq1.list___iadd___list_list_0 l D.toArray n b i.toArray a g (by grind) (by lia)) ⟨e,B,?_⟩
 refine⟨.ref l,_,I.lset w e (by simp) (r.append p) ?_,rfl,q⟩
 grind
end
theorem Hm(hN:X.N.Nodup)(s:Sto X W m i x)(O:PDe X e (aF C ma)):PDs X W (.AugAssign (.Name x pos') (opOf o) e pos) (gH C (.aug i o ma)):=by
 have p:∀(U:Operator) (g:Int->Int->Int),F2 X U (Jo g)->(∀a d r,mH o a d=some r->∃k,d=.int k/\r=g a k)->PDs X W (.AugAssign (.Name x pos') U e pos) (gH C (.aug i o ma)):=λU g j hg=>by
  obtain⟨_,h,s1⟩:=O;refine⟨_,uN hN s.hN s.loc h j s.fn,λb F L H I τ S Dd D T n R ⟨y,h,q⟩ E=>?_⟩;obtain⟨x0,d0,B,c,f0,u,h⟩:=bn3 h;rw[cM f0,aT u]at c
  ·obtain⟨z,dk,r,J,ek,er,h⟩:=bn3 h;cases h;obtain⟨k,rfl,rfl⟩:=hg _ _ _ er;obtain⟨v,f,w⟩:=R.slot (join_some c);have hv:=w.dt rfl;cases hv;have hi:=(aah.mp (join_some c)).1;refine⟨_,f,s1 b F L H I τ S (λr Q=>r=z.1/\Q=z.2) _ T R ⟨z,J,rfl,rfl⟩ λv P r A M hZ=>?_⟩;obtain⟨O,Z⟩:=hZ;subst O Z;have Y:=M.dt ek;cases Y;have t:i<z.2.length:=by rw[<-M.wf.len,R.wf.len];omega
   exact⟨B,k,rfl,rfl,E.nx _ P _ ((M.drop.sc (.int (g B k))).store n t s.nw) q⟩
 have nil:∀U,(∀a d,mH o a d=none)->PDs X W (.AugAssign (.Name x pos') U e pos) (gH C (.aug i o ma)):=λU l=>by refine⟨_,l4,λb F L H I τ S Dd D T n R ⟨y,h,q⟩ E=>?_⟩;obtain⟨x0,c,h⟩:=bnd h;simp_all
 cases o with
 |add=>exact p _ _ CD λa d r h=>by cases d<;>cases h;simp
 |sub=>exact p _ _ CF λa d r h=>by cases d<;>cases h;simp
 |_=>exact nil _ λa d=>rfl
theorem Wd.unpL0{b:Bs}(w:Wd b H ((v,.lst cs)::L)):∃a vs,v=.ref a/\H a=some (.lst vs)/\vs.length=cs.length/\Wd b H (vs.zip cs++L):=by
 obtain⟨q,P,Q,i⟩:=w.out;have I:=w.n7 P;cases P with
 |@cons _ _ A _ _ B0 r t=>
  cases r with
  |@lst a vs _ B h1 h2=>have f:∀c,(c∈B++B0\/b.S0 c)->(c∈a::B++B0\/b.S0 c):=λc z=>z.imp (λz=>by simp at z ⊢;exact .inr z) id;exact⟨a,vs,rfl,h1,h2.len,⟨⟨_,Ows.step (Kp.refl _ _) (λc z=>.inl (f c z)) I (λ_ _=>rfl) (OwL.il (OwL.j1 h2) t),(aat.mp Q).2,λc U=>i c (aag _ U)⟩,w.fr,w.s0,w.nt⟩⟩
theorem set_same{Y:Type}{l:List Y}{x:Y}(h:l[i]?=some x):l.set i x=l:=bD h
theorem Hn(a:X.N.Nodup)(s:Sto X W m i x)(O:PDe X e (aF C ma)):PDs X W (.AugAssign (.Name x pos') .Add e pos) (gH C (.agl i ma)):=by
 obtain⟨_,h,s1⟩:=O;refine⟨_,uN a s.hN s.loc h zT s.fn,λb F L H I τ θ Dd D T n R ⟨y,h,q⟩ E=>?_⟩;obtain⟨x0,a1,z,j,x1,e0,f0,e1,o,k,h⟩:=bn5 h;obtain⟨Y,_,f1,d,h⟩:=bn2 h;cases h;have d:=gd_ok d;have o:=D3 o;rw[fE f1]at k;obtain⟨v,f⟩:=R.wf.get (join_some e0);refine⟨v,f,s1 b F L H I τ θ (λr p=>r=z.1/\p=z.2) _ T R ⟨z,e1,rfl,rfl⟩ λu H1 r a0 M hZ=>?_⟩;obtain⟨O,Z⟩:=hZ;subst O Z;rw[o]at M;obtain⟨g,us,rfl,hB,B,w2⟩:=Wd.unpL0 M.wd;have t:=Rel.spread (Rel.drop M) B w2;obtain⟨v',P,w⟩:=t.open B k;rw[f]at P;cases P;obtain⟨l,vs,ch,hH,hl,go⟩:=w.y2 (ks:=[]) B rfl;cases ch;refine⟨l,g,vs,us,rfl,rfl,hH,hB,aan (by lia:_<=1000000) (by decide),?_⟩;show D.nx (L.set i (some (.ref l))) _;rw[set_same f];have J:=go (vs++us) (Y++j) λS H A C nt O Z Q=>⟨A++C,Ows.append O Z,Q,λc U=>aak.mp U⟩
 exact E.nx L _ _ (Rel.close (t.rest B) f J) q
end
section
theorem Chn.det(h:Chn b H v x ks u y)(h':Chn b H v x ks u' y'):u=u'/\y=y':=by
 induction ks generalizing v x with
 |nil=>cases h;cases h';exact⟨rfl,rfl⟩
 |cons k ks Y=>
  cases h with
  |cons l q=>
   cases h' with
   |cons P w=>obtain⟨J,B⟩:=Chd.det l P;subst J B;exact Y q w
theorem Chn.snoc(h:Chn b H v x ks u y)(c:Chd b H u y k w z):Chn b H v x (ks++[k]) w z:=by
 induction ks generalizing v x with
 |nil=>cases h;exact .cons c .nil
 |cons k ks Y=>cases h with|cons l q=>exact .cons l (Y q)
theorem Chn.unsnoc(h:Chn b H v x (ks++[k]) w z):∃u y,Chn b H v x ks u y/\Chd b H u y k w z:=by
 induction ks generalizing v x with
 |nil=>cases h with|cons c t=>cases t;exact⟨_,_,.nil,c⟩
 |cons k ks Y=>
  cases h with
  |cons l q=>obtain⟨u,y,O,Z⟩:=Y q;exact⟨u,y,.cons l O,Z⟩
theorem OD.n4:∀{ks:List Nat}{x:OD},x.at ks=some y->y.kids[k]?=some z->x.at (ks++[k])=some z
 |[],x,e,h=>by simp only[OD.at]at e;cases e;simp[OD.at,h]
 |j::ks,x,e,h=>by
  simp only[OD.at,aaK]at e ⊢;cases Q:x.kids[j]? with
  |none=>grind
  |some q=>rw[Q]at e;exact OD.n4 e h
theorem setKid_self(h:x.kids[k]?=some z):OD.ea k z x=x:=by cases x<;>simp only[OD.kids]at h<;>first|rfl|(simp only[OD.ea];rw[bD h])
theorem OD.h8:∀{ks:List Nat}{x:OD},x.at ks=some y->OD.put y ks x=x
 |[],x,e=>by simp only[OD.at]at e;cases e;rfl
 |j::ks,x,e=>by
  simp only[OD.at,OD.put]at e ⊢;cases Q:x.kids[j]? with
  |none=>rfl
  |some q=>rw[Q]at e;simp only;rw[OD.h8 e];exact setKid_self Q
theorem path_at:∀{ps:List Acc}{ρ:DEnv}{i:Nat}{p:OD×List Nat×OD},aw ρ i ps=some p->ρ[i]?.join=some p.1/\p.1.at p.2.1=some p.2.2
 |[],ρ,i,p,h=>by
  obtain⟨x,J,h⟩:=bnd h;cases h
  trivial
 |a::ps,ρ,i,p,h=>by obtain⟨q,k,z,J,B,s,h⟩:=bn3 h;cases h;obtain⟨O,Z⟩:=path_at J;exact⟨O,OD.n4 Z s⟩
theorem Wd.way(w:Wd b H ((v,x)::L))(e:x.at ks=some y):∃u,Chn b H v x ks u y:=by
 obtain⟨q,P,Q,i⟩:=w.out;cases P with
 |cons r t=>obtain⟨u,B,m,N,_⟩:=Ow.path r e;exact⟨u,N⟩
theorem Wd.ua(w:Wd b H ((v,x)::L))(e:x.at ks=some y)(ch:Chn b H v x ks u y)(M:y.kids[k]?=some z):∃q,Chd b H u y k q z:=by obtain⟨q,c⟩:=w.way (OD.n4 e M);obtain⟨o,Y,O,Z⟩:=Chn.unsnoc c;obtain⟨J,B⟩:=Chn.det ch O;subst J B;exact⟨q,Z⟩
def Ext(H l:Hp):Prop:=∀a o,H a=some o->l a=some o
theorem Ext.refl(H:Hp):Ext H H:=λ_ _ h=>h
theorem Ext.trans(h:Ext H H1)(h':Ext H1 H'):Ext H H':=λa o e=>h' a o (h a o e)
theorem Ext.upd(e:H p=none):Ext H (upd H p o):=λa q h=>by
 by_cases z:a=p
 ·grind
 ·rw[upd_ne z];exact h
theorem Chd.ext(E:Ext H H')(h:Chd b H v x k w z):Chd b H' v x k w z:=by
 cases h with
 |lst J B s n=>exact .lst (E _ _ J) B s n
 |tup J B s n=>exact .tup (E _ _ J) B s n
 |dic J B F s n=>exact .dic (E _ _ J) B F s n
 |obj J B F s n=>exact .obj (E _ _ J) B F s n
theorem Chn.ext(E:Ext H H')(h:Chn b H v x ks u y):Chn b H' v x ks u y:=by
 induction ks generalizing v x with
 |nil=>cases h;exact .nil
 |cons k ks Y=>cases h with|cons l q=>exact .cons (l.ext E) (Y q)
def Kq(K:Waa)(o:TE)(i:Nat)(ps:List Acc):Prop:=∀(b:Bs) (F:List Fr) (L:St) (H:Hp) (I:DEnv) (z:List V) (S:List OR) (Q:VK) (p:OD×List Nat×OD),b.K=K->Rel b F L H I z S->aw I i ps=some p->(∀v u,L[i]?=some (some v)->Chn b H v p.1 p.2.1 u p.2.2->Q u H)->o L H Q
inductive PDp (X:Cx)(e:Expr)(i:Nat)(ps:List Acc):Prop|mk (te:TE) (h:PE X e te) (s:Kq X.K te i ps)
inductive PX (X:Cx)(e:Expr)(f:St->Option V):Prop|mk (te:TE) (h:PE X e te) (s:∀σ H (Q:VK) v,f σ=some v->Q v H->te σ H Q)
section
variable{i j:Nat}
theorem Ho:PX X (.Constant (.int k) j pos) (λ_=>some (.int k)):=⟨_,iA,λL H Q v e q=>by cases e;exact q⟩
theorem Kr(a:X.N[i]?=some x) (o:Vis X.env.scope x) (W:(x==("__debug__":Str))=false) (u:(x==("__classdict__":Str))=false):PX X (.Name x pos) (λσ=>σ[i]?.join):=⟨_,bB a o W u,λσ H Q v e q=>⟨v,join_some e,q⟩⟩
theorem Ks(a:X.N[i]?=some x) (o:Vis X.env.scope x) (W:(x==("__debug__":Str))=false) (u:(x==("__classdict__":Str))=false):PDp X (.Name x pos) i []:=
 ⟨_,bB a o W u,λb F L H I z S Q p T R h q=>by
  obtain⟨y,J,h⟩:=bnd h;cases h;obtain⟨v,f⟩:=R.wf.get (join_some J);exact⟨v,f,q v v f .nil⟩⟩
theorem lookup_at:∀{fs:List (Str×V)}{k:Nat}{w:V},(fs.map (·.1)).findIdx? (λg=>decide (g=f))=some k->(fs[k]?).map (·.2)=some w->fs.lookup f=some w
 |[],_,_,e,_=>by simp at e
 | (g,q)::fs,k,w,e,h=>by
  rw[aal,aaR]at e;by_cases N:g=f
  ·subst N;simp at e;subst e;simp at h;subst h;simp[List.lookup]
  ·simp[N]at e;obtain⟨r,J,B⟩:=e;subst B;have s:(fs.map (·.1)).findIdx? (λg=>decide (g=f))=some r:=by rw[List.findIdx?_map];exact J
   have:=lookup_at s (by simpa using h);have S:(f==g)=false:=by simpa using λz=>N z.symm
   simp[List.lookup,S,this]
theorem Hq{k:Nat}(h:accN ρ y (.fld c f)=some k):∃ns xs,y=.obj c ns xs/\ns.findIdx? (λg=>decide (g=f))=some k:=by obtain⟨q,J,h⟩:=bnd h;obtain⟨_,B,M⟩:=bnd h;exact⟨q.2.1,q.2.2,by rw[kT J,gd_ok B],M⟩
theorem Hr{c f:Str}(S:attributeBase e f X.env (eval e X.env)=eval e X.env)(U:Cls X.K (av X.K c))(l:NoAttr X.K (av X.K c) f):PDp X e i ps->PDp X (.Attribute e f pos) i (.fld c f::ps)
 |⟨te,h,s⟩=>⟨_,CU h S,λb F σ H ρ τ θ Q p T R C q=>by
  obtain⟨r,k,z,J,B,n,C⟩:=bn3 C;cases C;refine s b F σ H ρ τ θ _ r T R J λv u g N=>?_;obtain⟨O,Z⟩:=path_at J;obtain⟨L,P,w⟩:=R.slot (join_some O);rw[g]at P;cases P;obtain⟨D,I⟩:=w.ua Z N n;obtain⟨x,Y,m,B⟩:=Hq B;rw[m]at I N;cases I with
  |@obj a dx _ fs _ _ _ _ _ f1 f2 f5 f3 f4=>exact⟨a,_,dx,fs,D,rfl,f1,T▸U,T▸l,lookup_at (by rw[f2];exact B) f3,q v D g (N.snoc (.obj f1 f2 f5 f3 f4))⟩⟩
theorem wB{Y:Type}{xs:List Y}{i:Int}{k:Nat}{y:Y}(l:xs.length=n)(h:ixN n i=some k)(e:xs[k]?=some y):atI xs i=some y:=by subst l;unfold atI;rw[h];exact e
theorem Hs(g:PlainIx B)(y:∀{b:Bs}{F:List Fr}{σ:St}{H:Hp}{ρ:DEnv}{τ:List V}{θ:List OR}{x:OD}{k:Nat},Rel b F σ H ρ τ θ->accN ρ x c=some k->∃n,f σ=some (.int n)/\((∃xs,x=.lst xs/\ixN xs.length n=some k)\/∃xs,x=.tup xs/\ixN xs.length n=some k)):PDp X e i ps->PX X B f->PDp X (.Subscript e B pos) i (c::ps)
 |⟨te,h,s⟩,⟨_,Z,s2⟩=>⟨_,vc og h Z g,λb F σ H ρ τ θ Q p T R C q=>by
  obtain⟨r,k,z,J,B,l,C⟩:=bn3 C;cases C;refine s b F σ H ρ τ θ _ r T R J λv u Y N=>?_;obtain⟨O,Z⟩:=path_at J;obtain⟨L,P,w⟩:=R.slot (join_some O);rw[Y]at P;cases P;obtain⟨D,I⟩:=w.ua Z N l;obtain⟨n,A,S⟩:=y R B;refine s2 σ H _ _ A ?_;obtain⟨d,W,o⟩:=r;simp only at *;rcases S with ⟨xs,rfl,t⟩|⟨xs,rfl,t⟩
  ·cases I with
   |@lst a vs _ _ _ _ f1 f2 f3 f4=>exact .inl ⟨a,vs,n,D,rfl,rfl,SqL.of f1,wB f2 t f3,q v D Y (N.snoc (.lst f1 f2 f3 f4))⟩
  ·cases I with
   |@tup a vs _ _ _ _ f1 f2 f3 f4=>exact .inr (.inl ⟨a,vs,n,D,rfl,rfl,SqT.of f1,wB f2 t f3,q v D Y (N.snoc (.tup f1 f2 f3 f4))⟩)⟩
theorem Kt(g:PlainIx e2)(h:PDp X e i ps)(Z:PX X e2 (λ_=>some (.int k))):PDp X (.Subscript e e2 pos) i (.ix k::ps):=
 Hs g (λ{b F L H I z S x n} R T=>by
  obtain⟨Y,J,T⟩:=bnd T;exact⟨k,rfl,(D2 J).imp (λe=>⟨Y,e,T⟩) λe=>⟨Y,e,T⟩⟩) h Z
theorem Rel.keyS{k:Key}(R:Rel b F σ H ρ τ θ)(e:ρ[j]?.join=some (.fz d))(hk:keyOf d=some k):σ[j]?.join=some (kV k):=by obtain⟨v,f,w⟩:=R.slot (join_some e);have o:=w.dt rfl;rw[f];cases d<;>cases hk<;>cases o<;>rfl
theorem kY{k:Key}:∀{ws:List (Key×V)}{n:Nat}{w:V},(ws.map (·.1)).findIdx? (λq=>decide (q=k))=some n->(ws[n]?).map (·.2)=some w->valV ws k=some w
 |[],_,_,e,_=>by grind
 | (g,q)::ws,n,w,e,h=>by
  rw[aal,aaR]at e;by_cases N:g=k
  ·subst N;simp at e;subst e;simp at h;subst h;exact dU rfl
  ·simp[N]at e;obtain⟨r,J,B⟩:=e;subst B;have s:(ws.map (·.1)).findIdx? (λq=>decide (q=k))=some r:=by grind
   have:=kY s (by trivial);simp only[valV]at this ⊢
   grind
theorem Ht(U:X.A.units+1<cLine)(g:NoSl B):PDp X e i ps->PX X B (λσ=>σ[j]?.join)->PDp X (.Subscript e B pos) i (.key j::ps)
 |⟨te,h,s⟩,⟨_,Z,s2⟩=>⟨_,y8 U h Z g,λb F σ H ρ τ θ Q p T R C q=>by
  obtain⟨r,k,z,J,B,M,C⟩:=bn3 C;cases C;refine s b F σ H ρ τ θ _ r T R J λv u f N=>?_;obtain⟨O,Z⟩:=path_at J;obtain⟨L,P,w⟩:=R.slot (join_some O);rw[f]at P;cases P;obtain⟨D,I⟩:=w.ua Z N M;obtain⟨W,t,o⟩:=r;simp only at *;obtain⟨y,d,m,x,c,Y,l,n,B⟩:=bn4 B;rw[cM Y]at c;refine s2 σ H _ _ (R.keyS c n) ?_;cases I with
  |@dic a ws _ _ _ _ _ f1 f2 f5 f3 f4=>cases l;refine⟨a,D,rfl,?_,q v D f (N.snoc (.dic f1 f2 f5 f3 f4))⟩;have:=DGet.k (k:=x) f1;rw[kY (by grind) f3]at this;omega
  |_=>cases l⟩
end
section
variable{i:Nat}
theorem Rel.partX(R:Rel b F σ H ρ τ θ)(O:ρ[i]?.join=some x)(Z:x.at ks=some z)(ev:σ[i]?=some (some v))(ch:Chn b H v x ks u z)(A:z.dat=some d):Rel b F σ H (ρ.set i (some (OD.put (.fz d) ks x))) (u::τ) (.val (.fz d)::θ):=by obtain⟨L,P,w⟩:=R.slot (join_some O);rw[ev]at P;cases P;obtain⟨o,m,X⟩:=w.wj Z A;obtain⟨J,_⟩:=Chn.det ch m;subst J;exact Rel.back R.wf R.al R.wff ev (X.perm (List.Perm.swap _ _ _))
theorem Rel.partZ(R:Rel b F σ H ρ τ θ)(O:ρ[i]?.join=some x)(Z:x.at ks=some (.fz d))(ev:σ[i]?=some (some v))(ch:Chn b H v x ks u (.fz d)):Rel b F σ H ρ (u::τ) (.val (.fz d)::θ):=by have:=R.partX O Z ev ch rfl;rw[OD.h8 Z,set_self (join_some O)]at this;omega
theorem Rel.part(R:Rel b F σ H ρ τ θ)(e:aw ρ i ps=some p)(ev:σ[i]?=some (some v))(ch:Chn b H v p.1 p.2.1 u p.2.2)(A:p.2.2.dat=some d):Rel b F σ H (ρ.set i (some (OD.put (.fz d) p.2.1 p.1))) (u::τ) (.val (.fz d)::θ):=R.partX (path_at e).1 (path_at e).2 ev ch A
theorem Rel.partF(R:Rel b F σ H ρ τ θ)(e:aw ρ i ps=some p)(ev:σ[i]?=some (some v))(ch:Chn b H v p.1 p.2.1 u p.2.2)(A:p.2.2=.fz d):Rel b F σ H ρ (u::τ) (.val (.fz d)::θ):=by obtain⟨O,Z⟩:=path_at e;have:=R.part e ev ch (by rw[A];rfl);rw[<-A,OD.h8 Z,set_self (join_some O)]at this;rw[A]at this;exact this
theorem Rel.ro(R:Rel b F σ H ρ τ θ)(e:aw ρ i ps=some p)(ev:σ[i]?=some (some v))(ch:Chn b H v p.1 p.2.1 u p.2.2)(A:p.2.2.dat=some d):Dt b.K H u d:=(R.part e ev ch A).dt rfl
end
end
section
theorem Ku:PDp X e i ps->PDe X e (aF C (.pg i ps))
 |⟨te,h,s⟩=>⟨te,h,λb F σ H ρ τ θ w Q T R ⟨y,h,q⟩ k=>by
  obtain⟨r,J,h⟩:=bnd h;refine s b F σ H ρ τ θ _ r T R J λv u f N=>?_;obtain⟨d,A,h⟩:=bnd h;cases h;exact k u H _ _ (R.partF J f N (cM A)) q⟩
theorem Kv:PDp X e i ps->PDe X e (aF C (.pf i ps))
 |⟨te,h,s⟩=>⟨te,h,λb F σ H ρ τ θ w Q T R ⟨y,h,q⟩ k=>by
  obtain⟨r,d,J,B,h⟩:=bn2 h;cases h;exact s b F σ H ρ τ θ _ r T R J λv u f N=>k u H _ _ (R.part J f N B) q⟩
theorem Kw(N:Gl X "len") (Y:X.mg "len"=none) (a:isStar e=false):PDp X e i ps->PDe X (.Call (.Name "len" p) [e] [] pos) (aF C (.pl i ps))
 |⟨te,h,s⟩=>⟨_,dR l6 N Y vw (aZ h cg (aC a)) (by decide) (by rfl) (aC a) (bG rfl),λb F σ H ρ τ θ z Q T R ⟨y,h,q⟩ k=>by
  obtain⟨r,d,n,J,B,l,h⟩:=bn3 h;cases h;refine s b F σ H ρ τ θ _ r T R J λv u f g=>?_;refine sc_len H [u] [d] (λd=>d=.int n) _ (.cons (T▸R.ro J f g B) .nil) ⟨d,n,rfl,l,rfl⟩ λw O c W=>?_;subst W;exact k w H _ _ (R.sc c) q⟩
theorem Kx(n:plainT e=true):PDp X e i ps->PDt X e (gW C (.pt i ps))
 |⟨te,h,s⟩=>⟨_,l5 h (plainT_ok n),λb F σ H ρ τ θ w Q T R ⟨y,h,q⟩ k=>by
  obtain⟨r,d,t,J,B,l,h⟩:=bn3 h;cases h;refine s b F σ H ρ τ θ _ r T R J λv u f N=>?_;exact⟨t,qt (T▸R.ro J f N B) l,k _ _ _ R q⟩⟩
theorem kZ(Y:aL C m=(vt (ev C m)).2)(S:∀ρ x,ev C m ρ=some x->∃k,x.1=.val (.fz (.bool k))):∀ρ Q,gW C m ρ Q->gT (aF C m) ρ Q:=λρ Q ⟨y,h,q⟩=>by
 have v:((ev C m ρ).bind λx=>(az x.2 x.1).bind λd=>(kS d).bind λk=>some (k,x.2))=some y:=by rw[<-h,Y];rfl
 obtain⟨z,J,v⟩:=bnd v;obtain⟨k,M⟩:=S ρ z J;rw[M]at v;cases v;exact⟨z,J,k,by rw[M];rfl,q⟩
theorem SndT.imp{K:Waa}(s:SndT K te d)(f:∀ρ Q,d' ρ Q->d ρ Q):SndT K te d':=λb F L H ρ i S w Q T R W q=>s b F L H ρ i S w Q T R (f _ _ W) q
theorem wC{M:Bool}(U:X.A.units+64<cLine)(Y:behindInMarks (coOf (if M then .nin else .inn)) e=false):PDe X a (aF C ma)->PDp X e i ps->PDe X (.Compare a [coOf (if M then .nin else .inn)] [e] pos) (aF C (.pin M ma i ps))/\PDt X (.Compare a [coOf (if M then .nin else .inn)] [e] pos) (gW C (.pin M ma i ps))
 |⟨ta,O,s1⟩,⟨te,h,s⟩=>by
  obtain⟨r2,j,D⟩:=iZ U (if M then .nin else .inn);have S:bI X.K (CJ r2 ta te) (aF C (.pin M ma i ps)):=by refine λb F L H I τ θ Qd Q T R ⟨y,h,q⟩ k=>?_;obtain⟨z,P,r,d,t,c,J,B,o,n,h⟩:=bn5 h;cases h;refine s1 b F L H I τ θ (λr p=>r=z.1/\p=z.2) _ T R ⟨z,c,rfl,rfl⟩ λv l r' p g m=>?_;obtain⟨O,Z⟩:=m;subst O Z;refine s b F L l _ _ _ _ r T g B λv' u f N=>?_;refine D l v u P d (λd=>d=.bool t) _ (T▸g.dt J) (T▸g.ro B f N o) ⟨t,n,rfl⟩ λw d' sc W=>?_;subst W;exact k w l _ _ (g.drop.sc sc) q
  refine⟨⟨_,pZ j O h Y,S⟩,⟨_,qa j O h Y,(iR S).imp (kZ rfl λI x h=>?_)⟩⟩;obtain⟨z,P,r,d,t,c,J,B,o,n,h⟩:=bn5 h
  grind
theorem k5{k:Key}:∀{ws:List (Key×V)},(valV ws k).isSome=(ws.map (·.1)).any λq=>decide (q=k)
 |[]=>rfl
 | (g,q)::ws=>by
  have Y:=k5 (k:=k) (ws:=ws);by_cases N:g=k
  ·subst N;rw[dU rfl];simp
  ·simp only[valV]at Y ⊢;rw[aaW];simp only[N,decide_false,aal,aaP,abg];exact Y
def Ei(M:Bool)(Z o:TE):TE:=if M then qh Z o else Gp Z o
theorem wD(U:X.A.units+1<cLine)(Y:behindInMarks (coOf (if neg then .nin else .inn)) e=false):PDe X a (aF C ma)->PDp X e i ps->PDe X (.Compare a [coOf (if neg then .nin else .inn)] [e] pos) (aF C (.din neg ma i ps))/\PDt X (.Compare a [coOf (if neg then .nin else .inn)] [e] pos) (gW C (.din neg ma i ps))
 |⟨ta,O,s1⟩,⟨te,h,s⟩=>by
  have hp:PE X (.Compare a [coOf (if neg then .nin else .inn)] [e] pos) (Ei neg ta te):=by
   cases neg with
   |true=>exact kz (j3 U O h) Y
   |false=>exact kz (vA U O h) Y
  have W:PT X (.Compare a [coOf (if neg then .nin else .inn)] [e] pos) (tB (Ei neg ta te)):=by
   cases neg with
   |true=>exact kA (j3 U O h) Y
   |false=>exact kA (vA U O h) Y
  have S:bI X.K (Ei neg ta te) (aF C (.din neg ma i ps)):=by
   refine λb F L H I τ θ Qd Q T R ⟨y,h,q⟩ k=>?_;obtain⟨z,dx,r,D,uu,c,J,B,M,n,h⟩:=bn5 h;have n:=iX n
   ·cases h;have go:∀v l f p,Rel b F L l p (v::τ) (f::θ)->(f=z.1/\p=z.2)->te L l λx N=>∃a o,x=.ref a/\DGet N a v o/\Q (.bl (if neg then !o.isSome else o.isSome)) N:=λv l f p g ⟨O,Z⟩=>by
     subst O Z;refine s b F L l _ _ _ _ r T g B λv' u ev ch=>?_;obtain⟨O,Z⟩:=path_at B;obtain⟨j,t,w⟩:=g.slot (join_some O);rw[ev]at t;cases t;rw[n]at Z ch;obtain⟨d,ws,m,hH,a0,hl,_⟩:=Wd.sx (us:=[]) (zs:=[]) w rfl Z;obtain⟨e5,_⟩:=Chn.det ch m;subst e5;have hv:=g.dt J;have P:v=kV D:=by cases dx<;>cases M<;>cases hv<;>rfl
     subst P;refine⟨d,_,rfl,DGet.k hH,?_⟩;rw[k5,a0];exact k _ l _ _ (g.drop.sc (.bl _)) q
    cases neg with
    |true=>exact s1 b F L H I τ θ (λr p=>r=z.1/\p=z.2) _ T R ⟨z,c,rfl,rfl⟩ go
    |false=>exact s1 b F L H I τ θ (λr p=>r=z.1/\p=z.2) _ T R ⟨z,c,rfl,rfl⟩ go
  refine⟨⟨_,hp,S⟩,⟨_,W,(oC S).imp (kZ rfl λI x h=>?_)⟩⟩;obtain⟨z,dx,r,D,uu,c,J,B,M,n,h⟩:=bn5 h
  grind
def Ky(K:Waa)(o:TE)(f:DEnv->Option PyData):Prop:=∀(b:Bs) (F:List Fr) (L:St) (H:Hp) (I:DEnv) (i:List V) (S:List OR) (Q:VK) (d:PyData),b.K=K->Rel b F L H I i S->f I=some d->(∀v l,Ext H l->Rel b F L l I (v::i) (.val (.fz d)::S)->Q v l)->o L H Q
inductive PDq (X:Cx)(e:Expr)(f:DEnv->Option PyData):Prop|mk (te:TE) (h:PE X e te) (s:Ky X.K te f)
def Hu(K:Waa)(o:TA)(f:DEnv->Option (List PyData)):Prop:=∀(b:Bs) (F:List Fr) (L:St) (H:Hp) (I:DEnv) (i:List V) (S:List OR) (Q:List V->Hp->Prop) (D:List PyData),b.K=K->Rel b F L H I i S->f I=some D->(∀c l,Ext H l->c.length=D.length->Rel b F L l I (c++i) (D.map (λd=>OR.val (.fz d))++S)->Q c l)->o L H Q
inductive PDqs (X:Cx)(es:List Expr)(f:DEnv->Option (List PyData)):Prop|mk (te:TA) (h:PA X es te) (s:Hu X.K te f)
theorem Kz(a:X.N[i]?=some x) (o:Vis X.env.scope x) (W:(x==("__debug__":Str))=false) (u:(x==("__classdict__":Str))=false):PDq X (.Name x pos) (kU C (.nm i)):=
 ⟨_,bB a o W u,λb F L H I z S Q d T R h q=>by
  obtain⟨B,c,h⟩:=bnd h;rw[cM h]at c;obtain⟨v,f⟩:=R.wf.get (join_some c);exact⟨v,f,q v H (.refl H) (R.dupS (join_some c) f)⟩⟩
theorem Hv:PDq X (.Constant (.int k) j pos) (kU C (.int k)):=⟨_,iA,λb F L H I i S Q d T R h q=>by
  cases h;exact q _ H (.refl H) (R.sc (.int k))⟩
theorem KA:PDp X e i ps->PDq X e (kU C (.pg i ps))
 |⟨te,h,s⟩=>⟨te,h,λb F σ H ρ τ θ Q d T R h q=>by
  obtain⟨r,J,h⟩:=bnd h;refine s b F σ H ρ τ θ _ r T R J λv u f N=>?_;exact q u H (.refl H) (R.partF J f N (cM h))⟩
theorem KB(g:PlainIx B):PDq X e (kU C ma)->PDq X B (kU C mb)->PDq X (.Subscript e B pos) (kU C (.ix ma mb))
 |⟨_,h1,s1⟩,⟨_,h2,s2⟩=>⟨_,vc og h1 h2 g,λb F σ H ρ τ θ Q d T R h q=>by
  obtain⟨dx,i,J,B,h⟩:=bn2 h;refine s1 b F σ H ρ τ θ _ dx T R J λv P O M=>s2 b F σ P ρ _ _ _ i T M B λu N A t=>?_;have w:=t.ez.drop;have s:∀(l:Bool) (D:List PyData) (n:Int),dx=(if l then .list D else .tuple D)->i=.int n->atI D n=some d->CJ (K6 X.K) (λ_ _ Q=>Q v N) (λ_ _ Q=>Q u N) σ H Q:=λl D n f m j=>by
   subst f m;have U:=t.dt rfl;cases U;obtain⟨a,c,o,rfl,S,I,k⟩:=Wd.itemF t.drop.wd j;have L:=Rel.push t.drop.drop k;rcases S with z|z
   ·exact .inl ⟨a,c,n,o,rfl,rfl,T▸z,I,q o N (O.trans A) L⟩
   ·exact .inr (.inl ⟨a,c,n,o,rfl,rfl,T▸z,I,q o N (O.trans A) L⟩)
  obtain⟨D,n,r,W,h⟩:=bn2 h;rcases iY r with r|r
  ·exact s true D n r (aT W) h
  ·exact s false D n r (aT W) h⟩
theorem Ej:PDqs X [] (oN C .nil):=⟨_,cg,λb F L H I i S Q d T R h q=>by
 cases h;exact q [] H (.refl H) rfl R⟩
theorem zU(g:isStar e=false):PDq X e (kU C ma)->PDqs X es (oN C mes)->PDqs X (e::es) (oN C (.cons ma mes))
 |⟨_,h1,s1⟩,⟨_,h2,s2⟩=>⟨_,aZ h1 h2 (aC g),λb F σ H ρ τ θ Q d T R h q=>by
  obtain⟨dx,l,J,B,h⟩:=bn2 h;cases h;refine s1 b F σ H ρ τ θ _ dx T R J λv P O M=>s2 b F σ P ρ _ _ _ l T M B λc N A u t=>q (v::c) N (O.trans A) (by simp[u]) ?_;exact Rel.zv t (by simp[u])⟩
theorem Hw{v}:PDqs X es (oN C mes)->PDq X (.Tuple es v pos) (kU C (.tup mes))
 |⟨_,h1,s1⟩=>⟨_,n9 h1,λb F σ H ρ τ θ Q d T R h q=>by
  obtain⟨ds,_,J,f,h⟩:=bn2 h;have f:=gd_ok f
  ·cases h;refine s1 b F σ H ρ τ θ _ ds T R J λc P O u M=>⟨aan (by lia:_<=1000000) (by decide),λp D=>q _ _ (O.trans (.upd D)) ?_⟩
   have B:ds.map (λd=>OR.val (.fz d))=(ds.map OD.fz).map OR.val:=by simp
   rw[B]at M;have w:=M.vals (by grind);have k:=mq w (by grind) D;have s:mkTup (ds.map OD.fz)=.fz (.tuple ds):=by simp only[mkTup,oE]
   rw[s]at k;exact Rel.push (M.drops (by grind)) k⟩
def zV(X:Cx):List V->Hp->VK->Prop:=λY H Q=>∃(p:Addr) (x:List Int),Y=[.ref p]/\(SqL X.K H p (x.map V.int)\/SqT X.K H p (x.map V.int))/\x.length<64/\∀(j:List Int) (a:Addr),j.Perm x->j.Pairwise (·<=·)->H a=none->Q (.ref a) (upd H a (.lst (j.map V.int)))
theorem mO(hc:X.calm=true):CallR X (.builtin "sorted") (zV X):=by
 intro M s L H Y y Q I r h;obtain⟨p,x,rfl,A,t,q⟩:=h;obtain⟨u,rfl,J⟩:=vals1 r;cases J;have Z:64<=sizeLine:=by decide
 refine Calls.call_function_entry kind_sorted plain_sorted entry_sorted (args_sorted1 _) ?_;unfold Builtin.«sorted»;refine acs (m:=checkCount "sorted" 1 1 _) (acv (acs (acy (Q:=λc B=>∃(F:List Int),Inv X M L H B/\IntsAre c F/\F.Perm x) ?_ (λc B g=>?_) λ_ _ z=>z)))
 ·rcases A with A|A
  ·obtain⟨D,f,k,d⟩:=I.list A;refine collect_list k.isList ⟨x,I.kept (t':=s.toks) λb o e=>?_,gG f,.refl _⟩ (by rw[<-f.length];lia);rw[Heap.get?_update_ne _ _ _ _ (aao (acu e))];exact acw _ e
  ·obtain⟨D,f,k,d⟩:=I.tuple A;have S:D.length=x.length:=by have:=f.length;grind
   exact mG (k) (by lia) λC l=>⟨x,I.kept (t':=s.toks) l,gG f,.refl _⟩
 ·obtain⟨F,i,W,w⟩:=g;have al:c.length=x.length:=by rw[IntsAre.length W,w.length_eq]
  refine acs (wpAny_newList ?_ (by grind));have N:(B.heap.push (seqObj "list" c.toArray 0)).get? B.heap.objs.size=some (seqObj "list" c.toArray 0):=acx _ rfl;refine acs (acB (acM slot_list_sort ⟨_,N,rfl⟩ entry_list_sort (list_sort_tree N W (by lia) λout j O P T=>⟨_,rfl,acv ⟨_,rfl,?_⟩⟩) (args_list_sort _)));obtain⟨e,n⟩:=sortedHeap_at (out:=out) N;refine⟨.ref _,_,i.laid (t':=B.toks) (a:=B.heap.objs.size) (o:=.lst (j.map V.int)) (λb u U=>?_) (aac _) ⟨?_,out.toList,e,vals_ints O,n⟩,rfl,q j _ (P.trans w) T (i.hok.fresh (aac _))⟩
  ·have v:=acu U;rw[sortedHeap_old (aao v) (by rw[size_push'];grind),Heap.get?_push_ne _ _ _ (aao v)]
   lia
  ·rw[aae,(P.trans w).length_eq];lia
section
variable{X:Cx}
theorem zW{ns:List Int}(T:b.K=X.K)(R:Rel b F σ H ρ (v::τ) (r::θ))(B:az ρ r=some d)(n:tT d=some (ns.map PyData.int)):∃p,v=.ref p/\(SqL X.K H p (ns.map V.int)\/SqT X.K H p (ns.map V.int)):=by
 have W:=R.dt B;rw[T]at W;rcases iY n with rfl|rfl
 ·cases W with|lst f i=>rw[DtAll.ints' i]at f;exact⟨_,rfl,.inl f⟩
 ·cases W with|tup f i=>rw[DtAll.ints' i]at f;exact⟨_,rfl,.inr f⟩
theorem wG{ns j:List Int}{a:Addr}{P:Prop}(R:Rel b F σ H ρ τ θ)(e:j.Perm ns)(z:j.Pairwise (·<=·))(C:H a=none)(k:Rel b F σ (upd H a (.lst (j.map V.int))) ρ (.ref a::τ) (.val (.lst ((sortI ns).map λi=>.fz (.int i)))::θ)->P):P:=by
 have:=mM (e.trans (sortI_perm _).symm) z (j6 _);subst this;refine k (R.push ?_);have w:=R.wd.adds (ds:=(sortI ns).map PyData.int) λS _=>FzA.ints _;have:=Wd.eg w (by simp) C;rw[aaU]at this
 trivial
theorem wH(U:X.calm=true) (N:Gl X "sorted") (Y:X.mg "sorted"=none) (n:isStar a=false) (O:PDe X a (aF C ma)):PDe X (.Call (.Name "sorted" p) [a] [] pos) (aF C (.bnw .sorted ma)):=by obtain⟨o,h,s⟩:=O;refine⟨_,dR (mO U) N Y tY (aZ h cg (aC n)) (by decide) (by decide) (aC n) rfl,λb F L H I W S w Q T R ⟨y,h,q⟩ k=>?_⟩;obtain⟨P,d,D,x,_,J,B,z,c,t,h⟩:=bn5 h;cases h;refine s b F L H I W S (λr M=>r=P.1/\M=P.2) _ T R ⟨P,J,rfl,rfl⟩ λv l r M g m=>?_;obtain⟨O,Z⟩:=m;subst O Z;have hx:=j5 c;subst hx;obtain⟨A,rfl,f⟩:=zW T g B z;exact⟨A,x,rfl,f,gd_ok t,λj a e i u=>wG g.drop e i u (k _ _ _ _ · q)⟩
end
end
section
theorem Ows.addA(nt:∀c xs,H c=some (.tup xs)->¬ S c)(O:Ows b S H vs xs A)(Z:Ows b S H us zs C)(Q:(A++C).Nodup):∃D,Ows b S H (vs++us) (xs++zs) D/\D.Nodup/\∀c∈D,c∈A\/c∈C:=⟨A++C,Ows.append O Z,Q,λc U=>aak.mp U⟩
theorem Ows.one(h:Ows b S H [v] [z] C):Ow b S H v z C:=by
 cases h with
 |cons r t=>cases t;rw[aap];exact r
theorem Ows.setA(W:j<xs.length)(O:Ows b S H vs xs A)(Z:Ows b S H [v] [z] C)(Q:(A++C).Nodup):∃D,Ows b S H (vs.set j v) (xs.set j z) D/\D.Nodup/\∀c∈D,c∈A\/c∈C:=by
 obtain⟨q,T,B,N,J,rfl,s,n⟩:=O.zip (aam W);refine⟨T++(C++N),n Z.one λ_ h=>h,?_,λc U=>?_⟩
 ·have p:((T++(B++N))++C).Perm (B++(T++(C++N))):=by refine((cj T B N).append_right C).trans ?_;rw[aab];refine aa7 B ?_;rw[aab];exact aa7 T aa6
  exact(aau.mp (p.nodup_iff.mp Q)).2.1
 ·simp only[aak]at U ⊢;rcases U with U|U|U
  ·exact .inl (.inl U)
  ·exact .inr U
  ·exact .inl (.inr (.inr U))
theorem k6:∀{fs:List (Str×V)}{xs:List OD},fs.length=xs.length->(cf f v fs).map (·.1)=(br f z (fs.map (·.1)) xs).1
 |[],[],_=>rfl
 | (g,q)::fs,x::xs,e=>by
  simp only[cf,br,aal];by_cases N:g=f
  ·rw[if_pos N,if_pos N];rfl
  ·rw[if_neg N,if_neg N,aal,k6 (fs:=fs) (by simpa using e)]
 |[],_::_,e=>by simp at e
 |_::_,[],e=>by simp at e
theorem i5:∀{fs:List (Str×V)}{xs:List OD}{A:List Addr},Ows b S H (fs.map (·.2)) xs A->Ow b S H v z C->(A++C).Nodup->∃D,Ows b S H ((cf f v fs).map (·.2)) (br f z (fs.map (·.1)) xs).2 D/\D.Nodup/\∀c∈D,c∈A\/c∈C
 |[],_,_,.nil,h2,nd=>⟨C++[],.cons h2 .nil,by grind,λc U=>.inr (by grind)⟩
 | (g,q)::fs,x::xs,_,.cons (A:=A1) (B:=A2) r t,h2,nd=>by
  simp only[cf,br,aal];by_cases N:g=f
  ·rw[if_pos N,if_pos N];refine⟨C++A2,.cons h2 t,?_,λc U=>?_⟩
   ·grind
   ·grind
  ·rw[if_neg N,if_neg N];rw[aab]at nd;obtain⟨d,a,o⟩:=aau.mp nd;obtain⟨D,i,k,F⟩:=i5 t h2 a;refine⟨A1++D,.cons r i,aau.mpr ⟨d,k,λc U M Q e=>o c U M (aak.mpr (F M Q)) e⟩,λc U=>?_⟩
   grind
theorem k7(e:ws.length=xs.length):(putK ws k v).map (·.1)=(putKey k d (ws.map (·.1)) xs).1:=by
 unfold putK putKey;rw[List.any_map];have L:((λq=>decide (q=k)) ∘ λx:Key×V=>x.1)=λB=>decide (B.1=k):=rfl;rw[L];by_cases T:(ws.any λB=>decide (B.1=k))=true
 ·rw[if_pos T,if_pos T,aaU];refine ace λq _=>?_;simp only[Function.comp];split<;>rfl
 ·rw[if_neg T,if_neg T,aaE];rfl
theorem mP(o:Fz b.K S H v d):∀{ws:List (Key×V)}{xs:List OD}{A:List Addr},Ows b S H (ws.map (·.2)) xs A->∃D,Ows b S H ((ws.map (λB=>if B.1=k then (B.1,v) else B)).map (·.2)) (List.zipWith (λq x=>if q=k then .fz d else x) (ws.map (·.1)) xs) D/\D.Sublist A
 |[],_,_,.nil=>⟨[],.nil,List.Sublist.refl _⟩
 | (g,q)::ws,x::xs,_,.cons (A:=A1) r t=>by
  obtain⟨D,i,F⟩:=mP o t;simp only[aal,List.zipWith_cons_cons];by_cases N:g=k
  ·rw[if_pos N,if_pos N];exact⟨[]++D,.cons (.fz o) i,(aaI D).symm▸F.trans (List.sublist_append_right _ _)⟩
  ·rw[if_neg N,if_neg N];exact⟨A1++D,.cons r i,(List.Sublist.refl A1).append F⟩
theorem i6(O:Ows b S H (ws.map (·.2)) xs A)(Z:Ows b S H [v] [.fz d] C)(Q:(A++C).Nodup):∃D,Ows b S H ((putK ws k v).map (·.2)) (putKey k d (ws.map (·.1)) xs).2 D/\D.Nodup/\∀c∈D,c∈A\/c∈C:=by
 have y:Fz b.K S H v d:=by cases Z with|cons r t=>cases r with|fz f=>exact f
 have W:=(aau.mp Q).1;unfold putK putKey;rw[List.any_map];have L:((λq=>decide (q=k)) ∘ λx:Key×V=>x.1)=λB=>decide (B.1=k):=rfl;rw[L];by_cases T:(ws.any λB=>decide (B.1=k))=true
 ·rw[if_pos T,if_pos T];obtain⟨D,i,F⟩:=mP y O;exact⟨D,i,F.nodup W,λc U=>.inl (F.subset U)⟩
 ·rw[if_neg T,if_neg T,aaE];exact⟨A++[],Ows.append O (.cons (.fz y) .nil),by simpa using W,λc U=>.inl (by simpa using U)⟩
section
variable{i j:Nat}
theorem Ek{o i:Expr}(h:bN i=false):∀v,assign (.Subscript o i pos) env v=(do
   let ov <-holding [v] (eval o env)
   let iv <-holding [v,ov] (eval i env)
   standAt pos
   holding [v,ov,iv] (setItem ov iv v)
   release [v,ov,iv] []):=by
 cases i<;>first|(intro _;rfl)|cases h
theorem wI{env:Env}(h:isStar e=false):((backTo cpos (starEach [e] env)).all (λx=>!x.1)&&(backToKw cpos (keywordEach [] env)).all (λx=>x.1.isSome)
   && decide ([e].length+([]:List Keyword).length+(if ([]:List Keyword).isEmpty then 0 else 1)<30))=true:=by
 cases e<;>first|rfl|cases h
theorem Rel.cell{b:Bs}{τ:List V}{x:OD}(R:Rel b F σ H ρ τ θ)(Y:ρ[i]?.join=some x)(W:x.at ks=some (.lst xs))(ev:σ[i]?=some (some v))(ch:Chn b H v x ks u (.lst xs)):∃l vs,u=.ref l/\H l=some (.lst vs):=by obtain⟨L,P,e⟩:=R.slot (join_some Y);rw[ev]at P;cases P;obtain⟨A,U,C,m,_,_⟩:=Wd.y2 (us:=[]) (zs:=[]) e rfl W;exact⟨A,U,(Chn.det ch C).1,m⟩
theorem Rel.cell0{b:Bs}{F:List Fr}(R:Rel b F σ H ρ τ θ)(Y:ρ[i]?.join=some (.lst xs)):∃v,σ[i]?=some (some v)/\∃l vs,v=.ref l/\H l=some (.lst vs):=by obtain⟨v,f⟩:=R.wf.get (join_some Y);exact⟨v,f,R.cell Y rfl f .nil⟩
theorem Rel.za{b:Bs}{x o:OD}{v L:V}(R:Rel b F σ H ρ (L::τ) (.val o::θ))(Y:ρ[i]?.join=some x)(U:x.at ks=some (.lst xs))(ev:σ[i]?=some (some v))(ch:Chn b H v x ks (.ref l) (.lst xs))(d:xs.length<1000000):
  ∃vs,H l=some (.lst vs)/\vs.length<sizeLine/\Rel b F σ (upd H l (.lst (vs++[L]))) (ρ.set i (some (OD.put (.lst (xs++[o])) ks x))) τ θ:=by
 obtain⟨y,P,w⟩:=Rel.open (us:=[L]) (zs:=[o]) R rfl Y;rw[ev]at P;cases P;obtain⟨W,vs,m,u,t,h⟩:=w.y2 rfl U;obtain⟨N,_⟩:=Chn.det ch m;cases N;exact⟨vs,u,aas (by lia) (by decide:1000001<=sizeLine),Rel.close (Rel.rest (us:=[L]) (zs:=[o]) R rfl) ev (h (vs++[L]) (xs++[o]) λS H A C I O Z Q=>Ows.addA I O Z Q)⟩
theorem Hx(a:X.N[i]?=some x) (hv:Vis X.env.scope x) (S:(x==("__debug__":Str))=false) (u:(x==("__classdict__":Str))=false) (Q:(apos.endLine==cpos.line)=true) (g:isStar e=false):
  PDe X e (aF C ma)->PDs X W (.Expr (.Call (.Attribute (.Name x pos') "append" apos) [e] [] cpos) pos) (gH C (.app i ma))
 |⟨_,h,s⟩=>⟨_,ip (qc abT abU abV eN (bB a hv S u) (aZ h cg (aC g)) rfl (wI g) Q (aC g) (bG rfl)) rfl,λb F σ H ρ τ θ Dd D T n R ⟨y,h,q⟩ E=>by
  obtain⟨x0,l,z,o,x1,c,f0,J,B,k,h⟩:=bn5 h;obtain⟨Y,_,f1,d,h⟩:=bn2 h;cases h;rw[fE f0]at c;rw[fE f1]at k;obtain⟨v,f,A,U,rfl,m⟩:=R.cell0 c;refine⟨.ref A,f,.inl ⟨rfl,U,SqL.of m⟩,?_⟩;refine s b F σ H ρ τ θ (λr p=>r=z.1/\p=z.2) _ T R ⟨z,J,rfl,rfl⟩ λL P r a0 M hZ=>?_;obtain⟨O,Z⟩:=hZ;subst O Z;obtain⟨vs,w,t,I⟩:=Rel.za (M.own1 B) k rfl f .nil (gd_ok d);exact⟨A,vs,L,rfl,rfl,w,t,E.nx σ _ _ I q⟩⟩
theorem Hy(S:attributeBase e "append" X.env (eval e X.env)=eval e X.env) (Q:(apos.endLine==cpos.line)=true) (g:isStar a=false):
  PDp X e i ps->PDq X a (kU C ma)->PDs X W (.Expr (.Call (.Attribute e "append" apos) [a] [] cpos) pos) (gH C (.apd i ps ma))
 |⟨_,h0,s0⟩,⟨_,h,s⟩=>⟨_,ip (qc abT abU abV eN h0 (aZ h cg (aC g)) S (wI g) Q (aC g) (bG rfl)) rfl,λb F σ H ρ τ θ x D T n R ⟨y,h,q⟩ E=>by
  obtain⟨r,d,Z,_,J,B,k,o,h⟩:=bn4 h;cases h;obtain⟨Y,l⟩:=path_at J;refine s0 b F σ H ρ τ θ _ r T R J λv u f N=>?_;rw[fE k]at l N;obtain⟨A,U,rfl,m⟩:=R.cell Y l f N;refine⟨.inl ⟨rfl,U,SqL.of m⟩,s b F σ H ρ τ θ _ d T R B λL P O M=>?_⟩;obtain⟨c,w,t,I⟩:=Rel.za M Y l f (N.ext O) (gd_ok o);exact⟨A,c,L,rfl,rfl,w,t,E.nx σ _ _ I q⟩⟩
theorem Rel.moved{b:Bs}(R:Rel b F σ H ρ τ θ)(e:ρ[j]?.join=some y):∃v,σ[j]?=some (some v)/\Rel b F σ H (ρ.set j none) (v::τ) (.val y::θ):=by
 obtain⟨v,f⟩:=R.wf.get (join_some e);have W:Rel b F σ H ρ (v::τ) (.rf j::θ):=⟨R.wf,⟨f,R.al⟩,R.wff,R.wd⟩
 obtain⟨_,_,w⟩:=R.slot (join_some e);rename_i L P;rw[f]at P;cases P;exact⟨v,f,⟨R.wf.off,R.al,R.wff,w⟩⟩
theorem Hz(a:X.N[i]?=some x) (hv:Vis X.env.scope x) (hd:(x==("__debug__":Str))=false) (u:(x==("__classdict__":Str))=false) (T:bN kx=false) (g:swapsWith e (some (.Subscript (.Name x pos') kx p2)) pos.line X.env=pure false) (hw:swappedStores [.Subscript (.Name x pos') kx p2] e X.env=pure none):
  PDe X e (aF C ma)->PDe X kx (aF C mk')->PDs X W (.Assign [.Subscript (.Name x pos') kx p2] e pos) (gH C (.sti i mk' ma))
 |⟨_,O,s1⟩,⟨_,Z,s2⟩=>⟨_,uM O (Cz (bB a hv hd u) Z set_list (Ek T)) g hw rfl,λb F σ H ρ τ θ Dd D hK n R ⟨y,h,q⟩ E=>by
  obtain⟨z,o,J,B,h⟩:=bn2 h;refine s1 b F σ H ρ τ θ (λr p=>r=z.1/\p=z.2) _ hK R ⟨z,J,rfl,rfl⟩ λL H1 r a1 R1 m=>?_;obtain⟨O,Z⟩:=m;subst O Z;have R2:=R1.own1 B;obtain⟨x0,a2,t,dk,k,e0,f0,s,M,d,h⟩:=bn5 h;obtain⟨x1,Y,U,ex,f1,ej,h⟩:=bn3 h;rw[aT d]at M;rw[fE f1]at ex
  ·obtain⟨v,f⟩:=R2.wf.get (join_some e0);refine⟨v,f,s2 b F σ H1 _ _ _ (λr p=>r=t.1/\p=t.2) _ hK R2 ⟨t,s,rfl,rfl⟩ λv2 H2 r a0 I m=>?_⟩;obtain⟨O,Z⟩:=m;subst O Z
   ·cases h;have T:=I.dt M;cases T;obtain⟨v',P,w⟩:=Rel.open (us:=[L]) (zs:=[o.1]) I.drop rfl ex;rw[f]at P;cases P;obtain⟨l,c,ch,hH,hl,go⟩:=w.y2 (ks:=[]) rfl rfl;cases ch;refine⟨l,c,k,U,rfl,rfl,hH,by grind,?_⟩;exact E.nx σ _ _ (Rel.close (Rel.rest (us:=[L]) (zs:=[o.1]) I.drop rfl) f (go (c.set U L) (Y.set U o.1) λS H A C nt O Z Q=>Ows.setA (DL ej) O Z Q)) q⟩
theorem HA(U:X.A.units+1<cLine) (a:X.N[i]?=some x) (hv:Vis X.env.scope x) (hd:(x==("__debug__":Str))=false) (u:(x==("__classdict__":Str))=false) (g:swapsWith e (some (.Subscript (.Name x pos') kx p2)) pos.line X.env=pure false):
  PDe X e (aF C ma)->PDe X kx (aF C mk')->PDs X W (.Assign [.Subscript (.Name x pos') kx p2] e pos) (gH C (.sdk i mk' ma))
 |⟨_,O,s1⟩,⟨_,Z,s2⟩=>⟨_,qi U (bB a hv hd u) Z O g,λb F σ H ρ τ θ Dd D T n R ⟨y,h,q⟩ E=>by
  obtain⟨z,o,J,B,h⟩:=bn2 h;refine s1 b F σ H ρ τ θ (λr p=>r=z.1/\p=z.2) _ T R ⟨z,J,rfl,rfl⟩ λL H1 r a3 M m=>?_;obtain⟨O,Z⟩:=m;subst O Z;have R2:=M.frz1 B;obtain⟨x0,_,t,kd,kk,c,f0,s,e4,e5,h⟩:=bn5 h;obtain⟨x1,uu,_,ex,f1,d,h⟩:=bn3 h;have d:=gd_ok d;rw[iX f1]at ex
  ·obtain⟨v,f⟩:=R2.wf.get (join_some c);refine⟨v,f,s2 b F σ H1 _ _ _ (λr p=>r=t.1/\p=t.2) _ T R2 ⟨t,s,rfl,rfl⟩ λv2 H2 r a2 I m=>?_⟩;obtain⟨O,Z⟩:=m;subst O Z
   ··cases h
     have hk:=I.dt e4;have a1:v2=kV kk:=by cases kd<;>cases e5<;>cases hk<;>rfl
     subst a1;obtain⟨v',P,w⟩:=Rel.open (us:=[L]) (zs:=[.fz o.1]) I.drop rfl ex;rw[f]at P;cases P;obtain⟨l,ws,ch,hH,a0,hl,go⟩:=w.sx (ks:=[]) rfl rfl;cases ch;obtain⟨ks,Y⟩:=uu;simp only at a0 hl q go d;subst a0;refine⟨l,_,rfl,DPut.k hH (aas (by lia) (by decide:1000001<=sizeLine)),?_⟩;exact E.nx σ _ _ (Rel.close (Rel.rest (us:=[L]) (zs:=[.fz o.1]) I.drop rfl) f (go (putK ws kk L) _ _ (k7 hl) λS H A C nt O Z Q=>i6 O Z Q)) q⟩
theorem HB(U:X.A.units+1<cLine)(g:swapsWith a (some (.Subscript e B p2)) pos.line X.env=pure false):
  PDp X e i ps->PX X B (λσ=>σ[j]?.join)->PDe X a (aF C ma)->PDs X W (.Assign [.Subscript e B p2] a pos) (gH C (.std i ps j ma))
 |⟨_,h0,s0⟩,⟨_,Z,s2⟩,⟨_,O,s1⟩=>⟨_,qi U h0 Z O g,λb F σ H ρ τ θ Dd D T n R ⟨y,h,q⟩ E=>by
  obtain⟨z,o,r,J,B,s,h⟩:=bn3 h;refine s1 b F σ H ρ τ θ (λr p=>r=z.1/\p=z.2) _ T R ⟨z,J,rfl,rfl⟩ λL H1 r' a0 M m=>?_;obtain⟨O,Z⟩:=m;subst O Z;have t:=M.frz1 B;obtain⟨x0,kd,kk,uu,_,e4,f0,e5,ex,d,h⟩:=bn5 h;have d:=gd_ok d;have ex:=iX ex;rw[cM f0]at e4;obtain⟨ks,xs⟩:=uu;simp only at d ex h
  ···cases h
     obtain⟨Y,g2⟩:=path_at s;refine s0 b F σ H1 _ _ _ _ r T t s λv u f N=>s2 σ H1 _ _ (t.keyS e4 e5) ?_;obtain⟨v',P,w⟩:=Rel.open (us:=[L]) (zs:=[.fz o.1]) t rfl Y;rw[f]at P;cases P;rw[ex]at g2 N;obtain⟨l,ws,c,hH,x,hl,go⟩:=w.sx rfl g2;obtain⟨e6,_⟩:=Chn.det N c;subst e6 x;refine⟨l,_,rfl,DPut.k hH (aas (by lia) (by decide:1000001<=sizeLine)),?_⟩;exact E.nx σ _ _ (Rel.close (Rel.rest (us:=[L]) (zs:=[.fz o.1]) t rfl) f (go (putK ws kk L) _ _ (k7 hl) λS H A C I O Z Q=>i6 O Z Q)) q⟩
theorem HC{c f:Str} (a:X.N[i]?=some x) (hv:Vis X.env.scope x) (hd:(x==("__debug__":Str))=false) (u:(x==("__classdict__":Str))=false) (hc:Cls X.K (av X.K c)) (hn:NoAttr X.K (av X.K c) f) (g:swapsWith e (some (.Attribute (.Name x pos') f p2)) pos.line X.env=pure false):
  PDe X e (aF C ma)->PDs X W (.Assign [.Attribute (.Name x pos') f p2] e pos) (gH C (.stf i c f ma))
 |⟨_,O,s1⟩=>⟨_,CV (bB a hv hd u) O g,λb F σ H ρ τ θ Dd D T n R ⟨y,h,q⟩ E=>by
  obtain⟨z,o,J,B,h⟩:=bn2 h;refine s1 b F σ H ρ τ θ (λr p=>r=z.1/\p=z.2) _ T R ⟨z,J,rfl,rfl⟩ λL P r a0 M m=>?_;obtain⟨O,Z⟩:=m;subst O Z;have t:=M.own1 B;obtain⟨x0,uu,_,k,f0,d,h⟩:=bn3 h;have d:=gd_ok d;rw[kT f0]at k;obtain⟨c',ns,xs⟩:=uu;simp only at d k h
  ··cases h
    obtain⟨Y,d⟩:=d;subst Y;obtain⟨v,ev,w⟩:=Rel.open (us:=[L]) (zs:=[o.1]) t rfl k;obtain⟨l,dx,U,ch,hH,s,hl,go⟩:=w.mutO (ks:=[]) rfl rfl;cases ch;subst s;refine⟨.ref l,ev,l,_,dx,U,rfl,hH,T▸hc,T▸hn,by lia,?_⟩;exact E.nx σ _ _ (Rel.close (Rel.rest (us:=[L]) (zs:=[o.1]) t rfl) ev (go (cf f L U) _ _ (k6 hl) λS H A C I O Z Q=>i5 O Z.one Q)) q⟩
theorem HD{c f:Str} (hN:X.N[i]?=some x) (hv:Vis X.env.scope x) (hd:(x==("__debug__":Str))=false) (a3:(x==("__classdict__":Str))=false) (hc:Cls X.K (av X.K c)) (hn:NoAttr X.K (av X.K c) f) (O:PDe X e (aF C ma)):
  PDs X W (.AugAssign (.Attribute (.Name x pos') f p2) (opOf o) e pos) (gH C (.agf i c f o ma)):=by
 have p:∀(op:Operator) (g:Int->Int->Int),yU X op (λx y H Q=>∃i j,x=.int i/\y=.int j/\Q (.int (g i j)) H)->(∀a d r,mH o a d=some r->∃k,d=.int k/\r=g a k)->PDs X W (.AugAssign (.Attribute (.Name x pos') f p2) op e pos) (gH C (.agf i c f o ma)):=λop g ho hg=>by
  obtain⟨_,h,s1⟩:=O;refine⟨_,sG (bB hN hv hd a3) h ho,λb F L H I τ θ Dd D T n R ⟨y,h,q⟩ E=>?_⟩;obtain⟨r,d0,s,z,d,J,f0,f1,e2,e3,h⟩:=bn5 h;obtain⟨nr,x1,uu,_,e4,ex,f5,hz,h⟩:=bn4 h;have hz:=gd_ok hz;rw[kT f5]at ex;obtain⟨c2,a9,a6⟩:=uu;simp only at hz ex h;have e0:=cM f0;rw[aT f1]at e0;cases h
  ·have a7:=hg;obtain⟨k,rfl,rfl⟩:=hg _ _ _ e4;obtain⟨g1,g2⟩:=path_at J;obtain⟨v,ev,w0⟩:=R.slot (join_some g1);obtain⟨u,ch⟩:=w0.way g2;have U:=R.ro J ev ch (by rw[e0];rfl);obtain⟨r0,k0,z0,f1,f2,f3,J⟩:=bn3 J;obtain⟨x0,f4,f1⟩:=bnd f1;cases f1;cases J;simp only[aaI]at ch g2 e0 f2 f3 g1;obtain⟨ns,xs,m,f7⟩:=Hq f2;subst m;cases ch with
   |cons cd cn=>
    cases cn;cases cd with
    |@obj l dx c' fs _ _ _ _ _ q1 q2 q5 q3 q4=>
     ·cases U;refine⟨_,ev,l,_,dx,fs,.int s,rfl,q1,T▸hc,T▸hn,lookup_at (by rw[q2];exact f7) q3,?_⟩;refine s1 b F L H I τ θ (λr a5=>r=z.1/\a5=z.2) _ T R ⟨z,e2,rfl,rfl⟩ λv1 H1 r a8 M hZ=>?_;obtain⟨O,Z⟩:=hZ;subst O Z;have a2:=M.dt e3;cases a2;refine⟨s,k,rfl,rfl,?_⟩
      ··obtain⟨Y,hz⟩:=hz
        subst Y;have t:Rel b F L H1 z.2 (.int (g s k)::τ) (.val (.fz (.int (g s k)))::θ):=M.drop.sc (.int _);obtain⟨v',P,w⟩:=Rel.open (us:=[.int (g s k)]) (zs:=[.fz (.int (g s k))]) t rfl ex;rw[ev]at P;cases P;obtain⟨l2,B,a0,a4,hH,a1,hl,go⟩:=w.mutO (ks:=[]) rfl rfl;cases a4;subst a1;refine⟨B,a0,hH,by lia,?_⟩;exact E.nx L _ _ (Rel.close M.drop ev (go (cf f _ a0) _ _ (k6 hl) λS H A C nt O Z nd=>i5 O Z.one nd)) q
 have nil:∀op,(∀a d,mH o a d=none)->PDs X W (.AugAssign (.Attribute (.Name x pos') f p2) op e pos) (gH C (.agf i c f o ma)):=λop hn=>by refine⟨_,l4,λb F L H I τ θ Dd D T n R ⟨y,h,q⟩ E=>?_⟩;obtain⟨r,d0,s,z,dk,J,f0,f1,e2,ek,h⟩:=bn5 h;rw[hn]at h;cases h
 cases o with
 |add=>exact p _ _ CW λa d r h=>by cases d<;>cases h;exact⟨_,rfl,rfl⟩
 |sub=>exact p _ _ CY λa d r h=>by cases d<;>cases h;exact⟨_,rfl,rfl⟩
 |_=>exact nil _ λa d=>rfl
theorem qy{K:Waa}:∀{xs:List V}{ds:List PyData}{ns:List Int},DtAll K H xs ds->gU ds=some ns->xs=ns.map V.int
 |[],_,ns,.nil,e=>by cases e;rfl
 |_::_,_::_,ns,.cons h t,e=>by obtain⟨i,r,J,B,e⟩:=bn2 e;cases e;rw[aT J]at h;cases h;rw[qy t B];rfl
theorem El(h:Ka r=some ds):r=.val (.fz (.tuple ds)):=by
 unfold Ka at h
 grind
theorem HE{c k:Expr}{I:Pos}(Z:(apos.endLine==cpos.line)=true)(g:isStar e=false):PDe X (.Subscript c k I) (aF C mk')->PDe X e (aF C ma)->PDe X (.Call (.Attribute (.Subscript c k I) "index" apos) [e] [] cpos) (aF C (.idx mk' ma))
 |⟨_,h1,s1⟩,⟨_,h2,s2⟩=>⟨_,qc PySem.F.plainAttrs_tuple PySem.F.slot_tuple_index PySem.F.type_tuple_index tQ h1 (aZ h2 cg (aC g)) rfl (wI g) Z (aC g) (bG rfl),λb F σ H ρ τ θ w Q T R ⟨y,h,q⟩ kk=>by
  obtain⟨x,D,z,d,n,J,B,s,e4,e5,h⟩:=bn5 h;obtain⟨ns,j,S,L,h⟩:=bn2 h;cases h;refine s1 b F σ H ρ τ θ (λr p=>r=x.1/\p=x.2) _ T R ⟨x,J,rfl,rfl⟩ λv P r A M hZ=>?_;obtain⟨Y,l⟩:=hZ;subst Y l;rw[El B]at M;have W:=M.dt (d:=.tuple D) rfl;cases W with
  |@tup a xs _ hq hall=>
   rw[T]at hq;refine⟨.inr (.inl ⟨rfl,_,hq⟩),?_⟩;refine s2 b F σ P _ _ _ (λr p=>r=z.1/\p=z.2) _ T M ⟨z,s,rfl,rfl⟩ λu N r o t hZ=>?_;obtain⟨Y,l⟩:=hZ;subst Y l;rw[aT e5]at e4;have U:=t.dt e4;cases U;have O:=t.drop.dt (d:=.tuple D) rfl;cases O with
   |@tup _ xs2 _ hq2 hall2=>
    rw[T]at hq2;rw[qy hall2 S]at hq2;obtain⟨hj,p1,p2⟩:=acf.mp L;refine⟨a,ns,n,j,rfl,rfl,hq2,?_,λm hm f=>?_,kk _ N _ _ (t.drop.drop.sc (.int j)) q⟩
    ·rw[aam hj,Daa p1]
    ·obtain⟨hl,f⟩:=aah.mp f;exact p2 m hm (Dac f)⟩
theorem zX{X:Cx}{o:TE}(s:bI X.K o (aF C ma)):bI X.K (vC (tVar i) o) (aF C (.dgt i ma)):=λb F σ H I τ θ Qd Q T R ⟨y,h,q⟩ D=>by
 obtain⟨x0,q0,z,d,k,a0,a1,J,B,e3,h⟩:=bn5 h;obtain⟨x1,q1,w,n,e5,S,h⟩:=bn3 h;cases h;rw[iX a1]at a0;rw[iX e5]at n;obtain⟨v,f,e⟩:=R.slot (join_some a0);obtain⟨ad,ws,ch,hH,_⟩:=Wd.sx (us:=[]) (zs:=[]) (ks:=[]) e rfl rfl;cases ch;refine⟨_,f,ad,rfl,.inl ⟨ws,.inl hH⟩,?_⟩;refine s b F σ H I τ θ (λr p=>r=z.1/\p=z.2) _ T R ⟨z,J,rfl,rfl⟩ λu P r a2 M m=>?_;obtain⟨Y,g2⟩:=m;subst Y g2;obtain⟨v2,t,w2⟩:=M.slot (join_some n);rw[f]at t;cases t;obtain⟨a3,O,c,A,x,N,_⟩:=Wd.sx (us:=[]) (zs:=[]) (ks:=[]) w2 rfl rfl;cases c;have U:=M.dt B;have Z:u=kV k:=by cases d<;>cases e3<;>cases U<;>rfl
 subst Z;refine⟨_,DGet.k A,?_⟩;unfold dgV at S;cases hf:q1.1.findIdx? (λq=>decide (q=k)) with
 |none=>
  rw[hf]at S;cases S;have l:valV O k=none:=by have:=k5 (k:=k) (ws:=O);rw[x,acg.mp hf |> λz=>(List.any_eq_false.mpr λa ha=>by rw[z a ha];decide)]at this;exact Option.isSome_eq_false_iff.mp this |> Option.isNone_iff_eq_none.mp
  rw[l];exact D _ P _ _ (M.drop.sc .non) q
 |some j=>
  rw[hf]at S;obtain⟨zz,L,g⟩:=bnd S;rw[cM g]at L;have W:j<O.length:=by rw[N];exact(aah.mp L).1
  have hw:(O[j]?).map (·.2)=some O[j].2:=by rw[aam W];rfl
  rw[kY (by rw[x];exact hf) hw];exact D _ P _ _ (Rel.partZ M.drop (ks:=[j]) n (by show (match q1.2[j]? with|some z=>OD.at [] z|none=>none)=_;rw[L];rfl) f (.cons (.dic A x N hw L) .nil)) q
theorem HF(U:X.A.units+1<cLine) (a:X.N[i]?=some x) (o:Vis X.env.scope x) (W:(x==("__debug__":Str))=false) (u:(x==("__classdict__":Str))=false) (Q:(apos.endLine==cpos.line)=true) (g:isStar e=false):PDe X e (aF C ma)->PDe X (.Call (.Attribute (.Name x pos') "get" apos) [e] [] cpos) (aF C (.dgt i ma))
 |⟨_,h,s⟩=>⟨_,vD U (bB a o W u) h ⟨rfl,wI g,Q,by rw[aC g];rfl⟩,zX s⟩
inductive Dsp:List (Str×Int)->List (Option Expr)->List Expr->Prop
 |nil:Dsp [] [] []
 |cons {x n j k p p' ks es vs}:Dsp ks es vs->Dsp ((x,n)::ks) (some (.Constant (.str x) j p)::es) (.Constant (.int n) k p'::vs)
theorem Dsp.all{es:List (Option Expr)}(h:Dsp ks es vs):es.all (·.isSome)=true/\es.length=vs.length/\es.length=ks.length:=by
 induction h with
 |nil=>exact⟨rfl,rfl,rfl⟩
 |cons _ Y=>exact⟨by simp[Y.1],by simp[Y.2.1],by simp[Y.2.2]⟩
end
end
section
section
variable{X:Cx}{ff:Nat}
theorem uc{E:XK}(S:vI sp)(u:vs.length=rs.length)(M:Rel b F σ H ρ1 (vs++τ) (rs++θ))(J:ba ios ρ1 rs=some (xs,ρ2))(h:sp xs P)
  (q:∀x ys v l,P x ys->Rel b F σ l (eA ios rs ys ρ2) (v::τ) (.val x::θ)->Q v l):toSp b.K sp vs H Q E:=by
 obtain⟨t,B⟩:=argsR_ok M u J;have s:=((aS u).mp M.al).1;have w:=t.vals B;refine w.call B S (S _ _ _ (λx ys C g v l D=>q x ys v l C ?_) h);have I:Rel b F σ l ρ2 (v::(vs++τ)) (.val x::(ys.map OR.val++θ)):=by have W:=t.drops (by grind);refine⟨W.wf,(aS (by grind)).mpr ⟨fP g,W.al⟩,W.wff,?_⟩;show Wd b l ((v,x)::(stk (vs++τ) (ys.map OR.val++θ)++_));rw[aH (by grind),ck g,aab];omega
 exact bP s g (Rel.zb I (by grind))
def spC(g:List OD->Option (OD×List OD)):DSp:=λY Q=>∃w,g Y=some w/\Q w.1 w.2
theorem wJ(g:List OD->Option (OD×List OD)):vI (spC g):=λY P R h ⟨w,e,q⟩=>⟨w,e,h _ _ q⟩
theorem ud{f:Str}:∀{fs:List (Str×V)},f ∉ fs.map (·.1)->fs.lookup f=none
 |[],_=>rfl
 | (g,q)::fs,h=>by
  grind
theorem mQ(G:FnD X.prog X.w X.K X.mg X.base k f fd ps (spC (C.call ff)))(s1:vJ X.K ta (fh C mes)):bI X.K (u6 (av X.K c) m (toSp X.K (spC (C.call ff))) [] E0 (tVar i) ta) (aF C (.meth c m ff i mes)):=λb F L H I τ S Qd Q T R ⟨y,h,q⟩ D=>by
 obtain⟨x0,uu,_,e0,f0,d,h⟩:=bn3 h;obtain⟨Y,d⟩:=gd_ok d;rw[kT f0,Y]at e0
 ··obtain⟨z,J,h⟩:=bnd h
   obtain⟨o,w,B,s,h⟩:=bn2 h;cases h;obtain⟨v,n,w0⟩:=R.slot (join_some e0);obtain⟨l,e,U,N,hH,a,t,go⟩:=Wd.mutO (us:=[]) (zs:=[]) (ks:=[]) w0 rfl rfl;cases N;rw[<-a]at d;refine⟨.ref l,n,l,e,U,rfl,T▸hH,ud d,?_⟩;have W:Rel b F L H I (.ref l::τ) (.rf i::S):=⟨R.wf,⟨n,R.al⟩,R.wff,R.wd⟩
   refine s1 b F L H I _ _ (λr p=>r=z.1/\p=z.2) _ T W ⟨z,J,rfl,rfl⟩ λvs H1 rs A u M hZ=>?_;obtain⟨O,Z⟩:=hZ;subst O Z;rw[aap,<-T];refine uc (P:=λx j=>x=w.1/\j=w.2) G.mono (by simp[u]) (Rel.zv M u) B ⟨w,s,rfl,rfl⟩ λx j v H' hx g=>?_;obtain⟨O,Z⟩:=hx;subst O Z;exact D v H' _ _ g q
theorem KC(y:methodCallForm n args kws=true)(t:(apos.endLine==pos.line)=true):
  methodCall o name apos pos env ov n args kws=(do let (f,first) <-holding [ov] (getMethod ov name (do return (<-importBound o env).getD true));callWith pos f first args kws):=by
 unfold methodCall calleeOf methodCallPos;rw[y,t];rfl
theorem wK(h:es.any isStar=false)(l:decide (es.length<30)=true)(t:(apos.endLine==pos.line)=true):
  eval (.Call (.Attribute (.Name x p1) m apos) es [] pos) env=(do
   let S <-eval (.Name x p1) env
   standAt apos.atName
   let (f,first) <-holding [S] (getMethod S m (do return (<-importBound (.Name x p1) env).getD true))
   callWith pos f first (backTo pos (starEach es env)) (backToKw pos (keywordEach [] env))):=by
 have y:methodCallForm (es.length+([]:List Keyword).length) (backTo pos (starEach es env)) (backToKw pos (keywordEach [] env))=true:=by
  have O:(backTo pos (starEach es env)).all (λz=>!z.1)=true:=by
   have:=bG (pos:=pos) (env:=env) h
   grind
  unfold methodCallForm;rw[O]
  trivial
 show (eval (.Name x p1) env >>= λS=>standAt apos.atName >>= λ_=>methodCall (.Name x p1) m apos pos env S (es.length+([]:List Keyword).length) (backTo pos (starEach es env)) (backToKw pos (keywordEach [] env)))=_;simp only[KC y t]
theorem Em(U:Cls X.K (av X.K c))(Y:Meth X.K (av X.K c) m f)(G:FnD X.prog X.w X.K X.mg X.base k f fd ps (spC (C.call ff)))(D:Room k X.A)(S:Binds X.K fd ps [])
  (a:X.N[i]?=some x) (o:Vis X.env.scope x) (W:(x==("__debug__":Str))=false) (u:(x==("__classdict__":Str))=false) (n:isStar e=false) (H:es.any isStar=false) (l:decide ((e::es).length<30)=true) (t:(apos.endLine==pos.line)=true):
  PDa X (e::es) (fh C mes)->PDe X (.Call (.Attribute (.Name x p1) m apos) (e::es) [] pos) (aF C (.meth c m ff i mes))
 |⟨_,h1,s1⟩=>⟨_,yW (E:=E0) (bB a o W u) U Y G.ok D S .nil l9 h1 (aC n) (bG H) (wK (by rw[aaP,n,H];rfl) l t),mQ G s1⟩
theorem zY(U:Cls X.K (av X.K c))(Y:Meth X.K (av X.K c) m f)(G:FnD X.prog X.w X.K X.mg X.base k f fd ps (spC (C.call ff)))(D:Room k X.A)(S:Binds X.K fd ps [])
  (a:X.N[i]?=some x) (o:Vis X.env.scope x) (W:(x==("__debug__":Str))=false) (u:(x==("__classdict__":Str))=false) (t:(apos.endLine==pos.line)=true):
  PDe X (.Call (.Attribute (.Name x p1) m apos) [] [] pos) (aF C (.meth c m ff i .nil)):=
 ⟨_,u7 (bB a o W u) U Y G.ok D S .nil l9 (wK rfl rfl t),mQ G λb F L H I j n g Q T R ⟨y,h,q⟩ z=>by
  cases h;exact z [] H [] I rfl R q⟩
theorem Wd.newObj{p dx:Addr}(w:Wd b H L)(C:H p=none)(F:H dx=none)(O:dx≠p):Wd b (upd (upd H dx (.own p)) p (.ins (av b.K c) dx [])) ((.ref p,.obj c [] [])::L):=by
 obtain⟨A,P,Q,i⟩:=w.out;have M:=w.al P C;have T:=w.al P F;have I:=w.n7 P;have x:=w.new F (o:=.own p);have N:upd H dx (.own p) p=none:=by rw[upd_ne (λe=>O e.symm)];omega
 have D:=x.new N (o:=.ins (av b.K c) dx []);have f:Kp (λc=>c∈A\/b.S0 c) H (upd (upd H dx (.own p)) p (.ins (av b.K c) dx [])):=⟨λc o e _=>by
   rw[upd_ne (λz=>by grind),upd_ne (λz=>by grind)];exact e,λc e=>by
   by_cases z:c=p
   ·grind
   ·rw[upd_ne z]at e;by_cases u:c=dx
    ·grind
    ·rw[upd_ne u]at e;exact e⟩
 have n:∀c,(c∈p::dx::A\/b.S0 c)->(c∈A\/b.S0 c)\/H c=none:=λc z=>by
  grind
 refine⟨⟨p::dx::A,Ows.cons (A:=[p,dx]) (.obj aB (by rw[upd_ne O];exact aB) rfl rfl .nil) (Ows.step f n I (λa j=>?_) P),aat.mpr ⟨λz=>?_,aat.mpr ⟨λz=>T (.inl z),Q⟩⟩,λa j=>?_⟩,D.fr,D.s0,D.nt⟩
 ·have J:a≠p:=λe=>M (.inl (e▸j));have B:a≠dx:=λe=>T (.inl (e▸j));rw[upd_ne J,upd_ne B]
 ·grind
 ·rcases aaa.mp j with rfl|j
  ·exact .inl (w.vu C)
  ·rcases aaa.mp j with rfl|j
   ·exact .inl (w.vu F)
   ·grind
theorem wL(G:FnD X.prog X.w X.K X.mg X.base k f fd ps (spC (C.mak ff)))(s1:vJ X.K ta (fh C mes)):bI X.K (Bk (av X.K c) (toSp X.K (spC (C.mak ff))) [] E0 ta) (aF C (.make c ff mes)):=λb F L H ρ i S Qd Q T R ⟨y,h,q⟩ kk=>by
 obtain⟨z,o,w,J,B,s,h⟩:=bn3 h;refine s1 b F L H ρ _ _ (λr p=>r=z.1/\p=z.2) _ T R ⟨z,J,rfl,rfl⟩ λvs H1 U a1 u M m=>?_;obtain⟨O,Z⟩:=m;subst O Z;intro a dx hp hx A;obtain⟨t,d⟩:=argsR_ok M u B;have al:=((aS u).mp M.al).1;have e:=Wd.newObj (c:=c) t.wd hp hx A;have I:=Rel.push t e;rw[aap,<-T];have n:=d;have x:=Rel.vals (vs:=.ref a::vs) (xs:=.obj c [] []::o.1) I (by grind);obtain⟨yy,ew,h⟩:=bnd h;obtain⟨a0,P⟩:=D4 ew;obtain⟨Y,N⟩:=yy;simp only at P
 ·cases h;refine x.call (by grind) G.mono ⟨w,s,λg v l D=>?_⟩;rw[a0,P]at D;rw[P]at g;have j:vs.length=N.length:=by grind
  have W:=t.drops (by grind);have R4:Rel b F L l o.2 (v::(.ref a::(vs++i))) (.val (.fz .none)::.val Y::(N.map OR.val++S)):=by refine⟨W.wf,(aS (by grind)).mpr ⟨fP j,W.al⟩,W.wff,?_⟩;show Wd b l ((v,.fz .none)::(.ref a,Y)::(stk (vs++i) (N.map OR.val++S)++_));rw[aH (by grind),ck j,aab];exact D
  have hv:=R4.dt rfl;cases hv;refine⟨rfl,kk _ l _ _ ?_ q⟩;exact bP al j (Rel.zb R4.drop (by grind))
theorem En(M:Mk X.K (av X.K c) f) (G:FnD X.prog X.w X.K X.mg X.base k f fd ps (spC (C.mak ff))) (D:Room (k+1) X.A) (N:Gl X x) (Y:X.mg x=some (.ref (av X.K c))) (S:Binds X.K fd ps []) (Z:(x==("__debug__":Str))=false)
  (n:isStar e=false) (H:es.any isStar=false):PDa X (e::es) (fh C mes)->PDe X (.Call (.Name x p) (e::es) [] pos) (aF C (.make c ff mes))
 |⟨_,h1,s1⟩=>⟨_,yX (E:=E0) M G.ok D N Y S .nil l9 h1 Z (aC n) (bG H),wL G s1⟩
end
end
section
section
variable{X:Cx}{C:Ct}{a b c e:Expr}{es:List Expr}{ma mb mc:E}{pos p p2 apos cpos:Pos}{o:O2}{ta tb:TE}
theorem FzA.strs{K:Waa}{S:Addr->Prop}{H:Hp}:∀xs:List Str,FzA K S H (xs.map V.str) (xs.map PyData.str)
 |[]=>.nil
 |x::r=>.cons (.str x) (FzA.strs r)
end
end
section
section
variable{X:Cx}{C:Ct}{pos p p2 apos cpos:Pos}
inductive Dk (X:Cx)(C:Ct):List Str->List (Option Expr)->List Expr->Es->Prop
 |nil:Dk X C [] [] [] .nil
 |cons {x j p ks e es me mes xs}:PDe X e (aF C me)->Dk X C xs ks es mes->Dk X C (x::xs) (some (.Constant (.str x) j p)::ks) (e::es) (.cons me mes)
theorem Dk.all{xs:List Str}{ks:List (Option Expr)}{es:List Expr}{s:Es}(h:Dk X C xs ks es s):ks.all (·.isSome)=true/\ks.length=es.length/\ks.length=xs.length:=by
 induction h with
 |nil=>exact⟨rfl,rfl,rfl⟩
 |cons _ _ Y=>exact⟨by simp[Y.1],by simp[Y.2.1],by simp[Y.2.2]⟩
end
end
section
def bS(e:PySem.Expr):Option (Str):=if h:e.ctorIdx=23 then some (@PySem.Expr.Name.elim (λ_=>Str) e h λx _=>x) else none
theorem asNm_ok{e:PySem.Expr}{z:Str}(h:bS e=some z):∃p,e=.Name z p:=by
 by_cases U:e.ctorIdx=23
 ·revert h;exact@PySem.Expr.Name.elim (λe=>bS e=some z->∃p,e=.Name z p) e U λx p h=>by cases h;exact⟨p,rfl⟩
 ·rw[bS,dif_neg U]at h;cases h
noncomputable def i7(e:PySem.Expr):Option (Const):=if h:e.ctorIdx=19 then some (@PySem.Expr.Constant.elim (λ_=>Const) e h λc _ _=>c) else none
theorem fT{e:PySem.Expr}{z:Const}(h:i7 e=some z):∃j p,e=.Constant z j p:=by
 by_cases U:e.ctorIdx=19
 ·revert h;exact@PySem.Expr.Constant.elim (λe=>i7 e=some z->∃j p,e=.Constant z j p) e U λc j p h=>by cases h;exact⟨j,p,rfl⟩
 ·rw[i7,dif_neg U]at h;cases h
noncomputable def qz(e:PySem.Expr):Option (Expr×Operator×Expr):=if h:e.ctorIdx=2 then some (@PySem.Expr.BinOp.elim (λ_=>Expr×Operator×Expr) e h λx o y _=>(x,o,y)) else none
theorem wM(h:qz e=some z):∃p,e=.BinOp z.1 z.2.1 z.2.2 p:=by
 by_cases U:e.ctorIdx=2
 ·revert h;exact@PySem.Expr.BinOp.elim (λe=>qz e=some z->∃p,e=.BinOp z.1 z.2.1 z.2.2 p) e U λx o y p h=>by cases h;exact⟨p,rfl⟩
 ·rw[qz,dif_neg U]at h;cases h
def mR(e:PySem.Expr):Option (Expr×List CmpOp×List Expr):=if h:e.ctorIdx=15 then some (@PySem.Expr.Compare.elim (λ_=>Expr×List CmpOp×List Expr) e h λx F j _=>(x,F,j)) else none
theorem asCmp_ok(h:mR e=some z):∃p,e=.Compare z.1 z.2.1 z.2.2 p:=by
 by_cases U:e.ctorIdx=15
 ·revert h;exact@PySem.Expr.Compare.elim (λe=>mR e=some z->∃p,e=.Compare z.1 z.2.1 z.2.2 p) e U λx F j p h=>by cases h;simp
 ·rw[mR,dif_neg U]at h;cases h
def zZ(e:PySem.Expr):Option (BoolOp×List Expr×Pos):=if h:e.ctorIdx=0 then some (@PySem.Expr.BoolOp.elim (λ_=>BoolOp×List Expr×Pos) e h λo Y p=>(o,Y,p)) else none
theorem z5(h:zZ e=some z):e=.BoolOp z.1 z.2.1 z.2.2:=by
 by_cases U:e.ctorIdx=0
 ·revert h;exact@PySem.Expr.BoolOp.elim (λe=>zZ e=some z->e=.BoolOp z.1 z.2.1 z.2.2) e U λo Y p h=>by cases h;rfl
 ·rw[zZ,dif_neg U]at h;cases h
noncomputable def wN(e:PySem.Expr):Option (UnaryOp×Expr):=if h:e.ctorIdx=3 then some (@PySem.Expr.UnaryOp.elim (λ_=>UnaryOp×Expr) e h λo x _=>(o,x)) else none
theorem qA{e:PySem.Expr}{z:UnaryOp×Expr}(h:wN e=some z):∃p,e=.UnaryOp z.1 z.2 p:=by
 by_cases U:e.ctorIdx=3
 ·revert h;exact@PySem.Expr.UnaryOp.elim (λe=>wN e=some z->∃p,e=.UnaryOp z.1 z.2 p) e U λo x p h=>by cases h;simp
 ·rw[wN,dif_neg U]at h;cases h
def z6(e:PySem.Expr):Option (Expr×Expr×Expr):=if h:e.ctorIdx=5 then some (@PySem.Expr.IfExp.elim (λ_=>Expr×Expr×Expr) e h λc a b _=>(c,a,b)) else none
theorem z7(h:z6 e=some z):∃p,e=.IfExp z.1 z.2.1 z.2.2 p:=by
 by_cases U:e.ctorIdx=5
 ·revert h;exact@PySem.Expr.IfExp.elim (λe=>z6 e=some z->∃p,e=.IfExp z.1 z.2.1 z.2.2 p) e U λc a b p h=>by cases h;simp
 ·rw[z6,dif_neg U]at h;cases h
def cR(e:PySem.Expr):Option (List Expr):=if h:e.ctorIdx=25 then some (@PySem.Expr.Tuple.elim (λ_=>List Expr) e h λY _ _=>Y) else none
theorem asTup_ok(h:cR e=some z):∃k p,e=.Tuple z k p:=by
 by_cases U:e.ctorIdx=25
 ·revert h;exact@PySem.Expr.Tuple.elim (λe=>cR e=some z->∃k p,e=.Tuple z k p) e U λY k p h=>by cases h;exact⟨k,p,rfl⟩
 ·rw[cR,dif_neg U]at h;cases h
def qB(e:PySem.Expr):Option (List Expr):=if h:e.ctorIdx=24 then some (@PySem.Expr.List.elim (λ_=>List Expr) e h λY _=>Y) else none
theorem wO(h:qB e=some z):∃p,e=.List z p:=by
 by_cases U:e.ctorIdx=24
 ·revert h;exact@PySem.Expr.List.elim (λe=>qB e=some z->∃p,e=.List z p) e U λY p h=>by cases h;simp
 ·rw[qB,dif_neg U]at h;cases h
def eC(e:PySem.Expr):Option (Expr×Expr):=if h:e.ctorIdx=21 then some (@PySem.Expr.Subscript.elim (λ_=>Expr×Expr) e h λx y _=>(x,y)) else none
theorem asSub_ok(h:eC e=some z):∃p,e=.Subscript z.1 z.2 p:=by
 by_cases U:e.ctorIdx=21
 ·revert h;exact@PySem.Expr.Subscript.elim (λe=>eC e=some z->∃p,e=.Subscript z.1 z.2 p) e U λx y p h=>by cases h;simp
 ·rw[eC,dif_neg U]at h;cases h
noncomputable def fG(e:PySem.Expr):Option (Expr×List Expr×List Keyword×Pos):=if h:e.ctorIdx=16 then some (@PySem.Expr.Call.elim (λ_=>Expr×List Expr×List Keyword×Pos) e h λf Y C p=>(f,Y,C,p)) else none
theorem eS(h:fG e=some z):e=.Call z.1 z.2.1 z.2.2.1 z.2.2.2:=by
 by_cases U:e.ctorIdx=16
 ·revert h;exact@PySem.Expr.Call.elim (λe=>fG e=some z->e=.Call z.1 z.2.1 z.2.2.1 z.2.2.2) e U λf Y C p h=>by cases h;rfl
 ·rw[fG,dif_neg U]at h;cases h
def fU(e:PySem.Expr):Option (Expr×Str×Pos):=if h:e.ctorIdx=20 then some (@PySem.Expr.Attribute.elim (λ_=>Expr×Str×Pos) e h λo f p=>(o,f,p)) else none
theorem asAtt_ok(h:fU e=some z):e=.Attribute z.1 z.2.1 z.2.2:=by
 by_cases U:e.ctorIdx=20
 ·revert h;exact@PySem.Expr.Attribute.elim (λe=>fU e=some z->e=.Attribute z.1 z.2.1 z.2.2) e U λo f p h=>by cases h;rfl
 ·rw[fU,dif_neg U]at h;cases h
noncomputable def qC(e:PySem.Expr):Option (List (Option Expr)×List Expr):=if h:e.ctorIdx=6 then some (@PySem.Expr.Dict.elim (λ_=>List (Option Expr)×List Expr) e h λC c _=>(C,c)) else none
theorem wQ{e:PySem.Expr}{z:List (Option Expr)×List Expr}(h:qC e=some z):∃p,e=.Dict z.1 z.2 p:=by
 by_cases U:e.ctorIdx=6
 ·revert h;exact@PySem.Expr.Dict.elim (λe=>qC e=some z->∃p,e=.Dict z.1 z.2 p) e U λC c p h=>by cases h;exact⟨p,rfl⟩
 ·rw[qC,dif_neg U]at h;cases h
def oP(e:PySem.Expr):Option (Expr×List Comprehension×Scope×Pos):=if h:e.ctorIdx=8 then some (@PySem.Expr.ListComp.elim (λ_=>Expr×List Comprehension×Scope×Pos) e h λx S s p=>(x,S,s,p)) else none
theorem qD(h:oP e=some z):e=.ListComp z.1 z.2.1 z.2.2.1 z.2.2.2:=by
 by_cases U:e.ctorIdx=8
 ·revert h;exact@PySem.Expr.ListComp.elim (λe=>oP e=some z->e=.ListComp z.1 z.2.1 z.2.2.1 z.2.2.2) e U λx S s p h=>by cases h;rfl
 ·rw[oP,dif_neg U]at h;cases h
def KD:Const->Option Int|.int k=>some k|_=>none
def KF:Const->Option Str|.str k=>some k|_=>none
def KG:Const->Option Bool|.bool k=>some k|_=>none
def KH:Const->Bool|.none=>true|_=>false
def j8(e:Expr):Option Int:=(i7 e).bind KD
def BI(e:Expr):Option Str:=(i7 e).bind KF
def HH(e:Expr):Option Bool:=(i7 e).bind KG
def wR(e:Expr):Bool:=(i7 e).any KH
def BJ(e:Expr):Bool:=(qC e).any λz=>z.1.isEmpty&&z.2.isEmpty
def isTup(e:Expr):Bool:=(cR e).isSome
theorem anyT{Y:Type}{o:Option Y}{p:Y->Bool}(h:o.any p=true):∃a,o=some a/\p a=true:=by
 cases o with
 |none=>cases h
 |some a=>exact⟨a,rfl,h⟩
theorem ay2{α β:Type}{o:Option α}{g1:α->Option β}{f:α->β->Bool}(h:(o.any λa=>(g1 a).any (f a))=true):∃a b,o=some a/\g1 a=some b/\f a b=true:=by obtain⟨a,p0,h⟩:=anyT h;obtain⟨b,p1,h⟩:=anyT h;exact⟨a,b,p0,p1,h⟩
theorem ay3{α β γ:Type}{o:Option α}{g1:α->Option β}{g2:α->β->Option γ}{f:α->β->γ->Bool}(h:(o.any λa=>(g1 a).any λb=>(g2 a b).any (f a b))=true):∃a b c,o=some a/\g1 a=some b/\g2 a b=some c/\f a b c=true:=by obtain⟨a,p0,h⟩:=anyT h;obtain⟨b,p1,h⟩:=anyT h;obtain⟨c,p2,h⟩:=anyT h;exact⟨a,b,c,p0,p1,p2,h⟩
theorem ay4{α β γ δ:Type}{o:Option α}{g1:α->Option β}{g2:α->β->Option γ}{g3:α->β->γ->Option δ}{f:α->β->γ->δ->Bool}(h:(o.any λa=>(g1 a).any λb=>(g2 a b).any λc=>(g3 a b c).any (f a b c))=true):∃a b c d,o=some a/\g1 a=some b/\g2 a b=some c/\g3 a b c=some d/\f a b c d=true:=by obtain⟨a,p0,h⟩:=anyT h;obtain⟨b,p1,h⟩:=anyT h;obtain⟨c,p2,h⟩:=anyT h;obtain⟨d,p3,h⟩:=anyT h;exact⟨a,b,c,d,p0,p1,p2,p3,h⟩
theorem ay5{α β γ δ ε:Type}{o:Option α}{g1:α->Option β}{g2:α->β->Option γ}{g3:α->β->γ->Option δ}{g4:α->β->γ->δ->Option ε}{f:α->β->γ->δ->ε->Bool}(h:(o.any λa=>(g1 a).any λb=>(g2 a b).any λc=>(g3 a b c).any λd=>(g4 a b c d).any (f a b c d))=true):∃a b c d e,o=some a/\g1 a=some b/\g2 a b=some c/\g3 a b c=some d/\g4 a b c d=some e/\f a b c d e=true:=by obtain⟨a,p0,h⟩:=anyT h;obtain⟨b,p1,h⟩:=anyT h;obtain⟨c,p2,h⟩:=anyT h;obtain⟨d,p3,h⟩:=anyT h;obtain⟨e,p4,h⟩:=anyT h;exact⟨a,b,c,d,e,p0,p1,p2,p3,p4,h⟩
theorem an2{a b:Bool}(h:(a&&b)=true):a=true/\b=true:=abW.mp h
theorem asInt_ok{k:Int}(h:j8 e=some k):∃j p,e=.Constant (.int k) j p:=by obtain⟨c,O,h⟩:=bnd h;obtain⟨j,p,rfl⟩:=fT O;cases c<;>cases h;simp
theorem asStr_ok(h:BI e=some k):∃j p,e=.Constant (.str k) j p:=by obtain⟨c,O,h⟩:=bnd h;obtain⟨j,p,rfl⟩:=fT O;cases c<;>cases h;simp
theorem asBl_ok(h:HH e=some k):∃j p,e=.Constant (.bool k) j p:=by obtain⟨c,O,h⟩:=bnd h;obtain⟨j,p,rfl⟩:=fT O;cases c<;>cases h;simp
theorem i8(h:wR e=true):∃j p,e=.Constant .none j p:=by obtain⟨c,O,h⟩:=anyT h;obtain⟨j,p,rfl⟩:=fT O;cases c<;>cases h;exact⟨j,p,rfl⟩
theorem wU(h:BJ e=true):∃p,e=.Dict [] [] p:=by
 obtain⟨z,O,h⟩:=anyT h;obtain⟨p,rfl⟩:=wQ O
 grind
theorem fV(h:isTup e=true):∃xs k p,e=.Tuple xs k p:=by obtain⟨z,O⟩:=aa2.mp h;obtain⟨k,p,rfl⟩:=asTup_ok O;exact⟨z,k,p,rfl⟩
theorem an3(h:(a&&b&&c)=true):a=true/\b=true/\c=true:=by grind
theorem yF(h:(a&&b&&c&&d)=true):a=true/\b=true/\c=true/\d=true:=by grind
theorem an5(h:(a&&b&&c&&d&&e)=true):a=true/\b=true/\c=true/\d=true/\e=true:=by grind
theorem bt(h:(!a)=true):a=false:=by grind
noncomputable def mS{Y:Type}:List Y->Option (Y×List Y)|x::xs=>some (x,xs)|_=>none
theorem con1_ok{Y:Type}{l:List Y}{x:Y×List Y}(h:mS l=some x):l=x.1::x.2:=by cases l<;>cases h;rfl
structure Tb where
 fn:Nat->Option Str
 me:Nat->Option (Str×Str)
 mk':Nat->Option Str
 gc:Nat->Option Str
 nog:Str->Bool
 fld:Str->Str->Bool
 kd:Str->List (Str×Str)->Bool:=λ_ _=>false
structure Cy (t:Tb)(C:Ct)(X:Cx):Prop where
 calm:X.calm=true
 units:X.A.units+64<cLine
 guards:X.A.guards=some []
 hfn:∀j nm,t.fn j=some nm->∃k fa fd ps,FnD X.prog X.w X.K X.mg X.base k fa fd ps (spC (C.call j))/\Room k X.A/\X.mg nm=some (.ref fa)/\PySem.W.keepIn X.K (.ref fa)=true/\Binds X.K fd ps []
 hme:∀j c m,t.me j=some (c,m)->Cls X.K (av X.K c)/\∃k fa fd ps,Meth X.K (av X.K c) m fa/\FnD X.prog X.w X.K X.mg X.base k fa fd ps (spC (C.call j))/\Room k X.A/\Binds X.K fd ps []
 hmk:∀j c,t.mk' j=some c->∃k fa fd ps,Mk X.K (av X.K c) fa/\FnD X.prog X.w X.K X.mg X.base k fa fd ps (spC (C.mak j))/\Room (k+1) X.A/\X.mg c=some (.ref (av X.K c))/\Binds X.K fd ps []
 hgc:∀g nm,t.gc g=some nm->∃v u,X.mg nm=some u/\RelV v u/\∀S H,Fz X.K S H v (C.gv g)
 hng:∀x,t.nog x=true->X.mg x=none
 hfl:∀c f,t.fld c f=true->Cls X.K (av X.K c)/\NoAttr X.K (av X.K c) f
 hkd:∀x kvs,t.kd x kvs=true->∃d,X.mg x=some (.ref d)/\KDict X.K X.w d kvs
theorem Cy.comp{t:Tb}{C:Ct}{X:Cx}(c:Cy t C X){N:List Str}{sc:Scope}{q:CC}:Cy t C (cC X N sc q):=⟨c.calm,c.units,c.guards,c.hfn,c.hme,c.hmk,c.hgc,c.hng,c.hfl,c.hkd⟩
def sEq(x y:Str):Bool:=decide (x=y)
theorem bu(h:sEq x y=true):x=y:=Daa h
noncomputable def kindB(sc:Scope)(x:Str)(k:NameKind):Bool:=decide (sc.names.lookup x=some k)
theorem aM(h:kindB sc x k=true):sc.names.lookup x=some k:=Daa h
def Ep(sc:Scope)(x:Str):Bool:=kindB sc x .local||kindB sc x .cell||kindB sc x .free
def z8(sc:Scope)(x:Str):Bool:=kindB sc x .local||kindB sc x .cell
theorem z9(h:Ep sc x=true):Vis sc x:=by
 unfold Ep at h;rw[abc,abc]at h;rcases h with (h|h)|h
 ·exact .inl (aM h)
 ·exact .inr (.inl (aM h))
 ·exact .inr (.inr (aM h))
theorem qH(h:z8 sc x=true):Loc sc x:=by
 unfold z8 at h;rw[abc]at h;rcases h with h|h
 ·exact .inl (aM h)
 ·exact .inr (aM h)
def okN(x:Str):Bool:=!(x==("__debug__":Str))&&!(x==("__classdict__":Str))
def uG(N:List Str)(sc:Scope)(i:Nat)(x:Str):Bool:=decide (N[i]?=some x)&&Ep sc x&&okN x
structure NmX (X:Cx)(i:Nat)(x:Str):Prop where
 n:X.N[i]?=some x
 v:Vis X.env.scope x
 d:(x==("__debug__":Str))=false
 c:(x==("__classdict__":Str))=false
theorem bJ(h:uG X.N X.env.scope i x=true):NmX X i x:=by unfold uG okN at h;simp only[aaC,abx]at h;exact⟨Daa h.1.1,z9 h.1.2,h.2.1,h.2.2⟩
def BK(N:List Str)(sc:Scope)(i:Nat)(e:Expr):Bool:=(bS e).any λx=>uG N sc i x
theorem i9{N:List Str}(h:BK N sc i e=true):∃x p,e=.Name x p/\uG N sc i x=true:=by obtain⟨x,O,h⟩:=anyT h;obtain⟨p,rfl⟩:=asNm_ok O;exact⟨x,p,rfl,h⟩
def FL(sc:Scope)(x:Str):Bool:=kindB sc x .globalImplicit&&!(x==("__debug__":Str))
theorem cN(h:FL X.env.scope x=true):Gl X x/\(x==("__debug__":Str))=false:=by unfold FL at h;rw[aaC]at h;exact⟨aM h.1,by simpa using h.2⟩
def uH(t:Tb)(sc:Scope)(x y:Str):Bool:=sEq x y&&FL sc x&&t.nog x
theorem blB_ok(c:Cy t C X)(h:uH t X.env.scope x y=true):x=y/\Gl X y/\X.mg y=none:=by unfold uH at h;simp only[aaC]at h;obtain⟨⟨O,Z⟩,M⟩:=h;have:=bu O;subst this;exact⟨rfl,(cN Z).1,c.hng _ M⟩
def IV(o:Bo)(F:Operator):Bool:=decide (F=opOf o)
theorem oQ(h:IV o op=true):op=opOf o:=Daa h
def IW(o:Co)(F:CmpOp):Bool:=decide (F=coOf o)
theorem ja(h:IW o op=true):op=coOf o:=Daa h
def isSet:Expr->Bool
 |.Set _ _ _=>true
 |_=>false
theorem eD(F:CmpOp)(h:isSet e=false):behindInMarks F e=false:=by cases e<;>first|rfl|cases h
theorem k8(h:isSet e=false):∀x,foldedSetIterable e env x=pure x:=by cases e<;>first|(intro _;rfl)|cases h
def isCall:Expr->Bool
 |.Call _ _ _ _=>true
 |_=>false
theorem k9(h:isCall e=false):attributeBase e f env (eval e env)=eval e env:=by cases e<;>first|rfl|cases h
def Er:UnaryOp->Bool|.USub=>true|_=>false
theorem qI{o:UnaryOp}(h:Er o=true):o=.USub:=by cases o<;>first|rfl|cases h
def Li(k:Int)(e:Expr):Bool:=((j8 e).any λj=>decide (j=k))||(wN e).any λz=>Er z.1&&(j8 z.2).any λj=>decide (-j=k)
theorem HI{j:Nat}{p I:Pos}:PX X (.UnaryOp .USub (.Constant (.int k) j p) I) (λ_=>some (.int (-k))):=⟨_,Bi uR iA,λL H Q v e q=>by cases e;exact⟨k,rfl,q⟩⟩
theorem wV(h:Li k e=true):PX X e (λ_=>some (.int k))/\bN e=false:=by
 rcases Bool.or_eq_true_iff.mp h with h|h
 ·obtain⟨j,O,h⟩:=anyT h;obtain⟨_,_,rfl⟩:=asInt_ok O;have:=Daa h;subst this;exact⟨Ho,rfl⟩
 ·obtain⟨z,O,h⟩:=anyT h;obtain⟨p,rfl⟩:=qA O;obtain⟨j,Z,M⟩:=anyT (an2 h).2;obtain⟨_,_,B⟩:=asInt_ok Z;have:=Daa M;subst this;rw[qI (an2 h).1,B];exact⟨HI,rfl⟩
def cO(t:Tb)(N:List Str)(sc:Scope)(i:Nat):List Acc->Expr->Bool
 |[]=>λe=>BK N sc i e
 |.fld c f::ps=>λe=>(fU e).any λz=>sEq z.2.1 f&&t.fld c f&&!isCall z.1&&cO t N sc i ps z.1
 |.ix k::ps=>λe=>(eC e).any λz=>Li k z.2&&cO t N sc i ps z.1
 |.key j::ps=>λe=>(eC e).any λz=>BK N sc j z.2&&cO t N sc i ps z.1
theorem wW(h:BK X.N X.env.scope j e=true):PX X e (λσ=>σ[j]?.join)/\bN e=false:=by obtain⟨x,p,rfl,h⟩:=i9 h;obtain⟨O,Z,M,F⟩:=bJ h;exact⟨Kr O Z M F,rfl⟩
theorem KI(h:bN e=false):NoSl e:=by cases e<;>first|exact λ_ _=>rfl|cases h
theorem aX(c:Cy t C X):∀(ps:List Acc) (e:Expr),cO t X.N X.env.scope i ps e=true->PDp X e i ps
 |[],e,h=>by obtain⟨x,p,rfl,h⟩:=i9 h;obtain⟨O,Z,M,F⟩:=bJ h;exact Ks O Z M F
 |.fld cn f::ps,e,h=>by obtain⟨z,O,k⟩:=anyT h;obtain⟨I,A,H,P⟩:=yF k;rw[asAtt_ok O,bu I];exact Hr (k9 (bt H)) (c.hfl _ _ A).1 (c.hfl _ _ A).2 (aX c ps _ P)
 |.ix k::ps,e,h=>by obtain⟨z,O,k⟩:=anyT h;obtain⟨I,A⟩:=an2 k;obtain⟨p,rfl⟩:=asSub_ok O;exact Kt (kX (wV (X:=X) I).2) (aX c ps _ A) (wV I).1
 |.key j::ps,e,h=>by obtain⟨z,O,k⟩:=anyT h;obtain⟨I,A⟩:=an2 k;obtain⟨p,rfl⟩:=asSub_ok O;exact Ht (by have:=c.units;lia) (KI (wW I).2) (aX c ps _ A) (wW I).1
def mT(U:Nat->Bool)(N:List Str)(sc:Scope)(fn:Bool)(m i:Nat)(x:Str):Bool:=decide (N[i]?=some x)&&z8 sc x&&(fn||kindB sc x .local)&&decide (i<m)&&U i
def wX(U:Nat->Bool)(N:List Str)(sc:Scope)(fn:Bool)(m:Nat):List Nat->List Expr->Bool
 |[]=>λes=>es.isEmpty
 |i::is=>λes=>(mS es).any λz=>(bS z.1).any λx=>mT U N sc fn m i x&&wX U N sc fn m is z.2
def wY(U:Nat->Bool)(N:List Str)(sc:Scope)(fn:Bool)(m:Nat):Tg->Expr->Bool
 |.nm i=>λe=>(bS e).any λx=>mT U N sc fn m i x
 |.tp ts=>λe=>(cR e).any λes=>wX U N sc fn m ts es
theorem eT{i:Nat}{x:Str}(y:fn=true->∀x,X.fn x=true)(Q:∀i,ok i=true->¬ W i)(h:mT ok X.N X.env.scope fn m i x=true):Sto X W m i x:=by unfold mT at h;simp only[aaC,abc]at h;obtain⟨⟨⟨⟨O,Z⟩,M⟩,F⟩,J⟩:=h;exact⟨Daa O,qH Z,M.imp (λz=>y z x) aM,Daa F,Q i J⟩
theorem mU(y:fn=true->∀x,X.fn x=true)(Q:∀i,ok i=true->¬ W i):∀(d:List Nat) (es:List Expr),wX ok X.N X.env.scope fn m d es=true->Stos X W m d es
 |[],es,h=>by
  cases es with
  |nil=>exact .nil
  |cons _ _=>cases h
 |i::is,es,h=>by obtain⟨z,x,O,Z,k⟩:=ay2 h;obtain⟨p,B⟩:=asNm_ok Z;rw[con1_ok O,B];exact .cons (eT y Q (an2 k).1) (mU y Q is _ (an2 k).2)
theorem fW{f:Tg}{e:Expr}(U:X.calm=true)(a:X.N.Nodup)(y:fn=true->∀x,X.fn x=true)(Q:∀i,ok i=true->¬ W i)(h:wY ok X.N X.env.scope fn m f e=true):PDg X W m e (i4 f):=by
 cases f with
 |nm i=>obtain⟨x,O,k⟩:=anyT h;obtain⟨p,rfl⟩:=asNm_ok O;exact Kk a (eT y Q k)
 |tp d=>obtain⟨L,O,k⟩:=anyT h;obtain⟨_,_,rfl⟩:=asTup_ok O;exact Kl U a (mU y Q _ _ k)
noncomputable def ue(sc C:Scope):Scope:={ sc with names:=sc.names.map λ(n,k)=>if (k==NameKind.free&&C.kind==.function&&C.names.lookup n==some .cell) then (n,NameKind.cell) else (n,k) }
noncomputable def Et:Expr->List Str
 |.Name x _=>[x]
 |.Tuple [.Name x _,.Tuple es _ _] _ _=>x::es.filterMap fun|.Name x _=>some x|_=>none
 |.Tuple es _ _=>es.filterMap fun|.Name x _=>some x|_=>none
 |_=>[]
def wZ(N:List Str)(nt:Nat)(n:List Str)(sc C:Scope):Nat->List Nat->Bool
 |_,[]=>true
 |i,j::fr=>(match N[nt+i]? with
  |some x=>decide (n[j]?=some x)&&kindB C x .cell&&kindB sc x .free
  |none=>false)&&wZ N nt n sc C (i+1) fr
def qJ(N:List Str)(nt:Nat)(fr:List Nat)(n:List Str)(sc C:Scope):Bool:=
 decide (sc.kind=.function)&&sc.names.all (λx=>!decide (x.2=.cell))&&sc.names.all (λx=>!decide (x.2=.local)||kindB sc x.1 .local)&&decide (N.length=nt+fr.length)&&wZ N nt n sc C 0 fr &&
  sc.names.all (λx=>!decide (x.2=.free)||(kindB C x.1 .cell&&kindB sc x.1 .free))
theorem qK:∀{fr:List Nat}{n:Nat},wZ N nt ON sc osc n fr=true->∀(i j:Nat),fr[i]?=some j->∃x,N[nt+(n+i)]?=some x/\ON[j]?=some x/\osc.names.lookup x=some .cell/\sc.names.lookup x=some .free
 |[],_,_,i,j,e=>by simp at e
 |j0::fr,n,h,0,j,e=>by
  simp at e;subst e;simp only[wZ,aaC]at h;obtain⟨h,_⟩:=h;split at h
  ·rename_i x k;simp only[aaC]at h;exact⟨x,k,Daa h.1.1,aM h.1.2,aM h.2⟩
  ·cases h
 |j0::fr,n,h,i+1,j,e=>by simp only[wZ,aaC]at h;obtain⟨x,O,Z⟩:=qK h.2 i j (by simpa using e);exact⟨x,by rw[show n+(i+1)=n+1+i by omega];exact O,Z⟩
theorem jc(h:qJ N nt fr ON sc osc=true):CompScope N nt fr ON sc osc:=by
 unfold qJ at h;simp only[aaC,abh,abc,abx,decide_eq_false_iff_not,decide_eq_true_eq]at h;obtain⟨⟨⟨⟨⟨O,Z⟩,M⟩,I⟩,J⟩,L⟩:=h;refine⟨O,λx F=>Z x F,λx F e=>?_,I,λi j e=>?_,λx F e=>?_,λx F e=>?_⟩
 ·exact(M x F).elim (λz=>absurd e z) aM
 ·have:=qK J i j e;rwa [aaQ]at this
 ·exact(L x F).elim (λz=>absurd e z) λz=>aM z.1
 ·exact(L x F).elim (λz=>absurd e z) λz=>aM z.2
end
section
abbrev Ck:=List Str->Scope->Expr->Bool
def fX(f:Ck):Ck×Ck:=(f,λN C e=>plainT e&&f N C e)
def L4:Bn->Str
 |.list=>"list" |.tuple=>"tuple" |.sorted=>"sorted"
def L5:Knd->Str
 |.int=>"int" |.bool=>"bool" |.str=>"str" |.list=>"list" |.tuple=>"tuple" |.seq=>"list"
def w8(e:Expr):Option (Str×List Expr):=(fG e).bind λz=>(bS z.1).bind λx=>if z.2.2.1.isEmpty then some (x,z.2.1) else none
theorem ir{z}(h:w8 e=some z):∃p I,e=.Call (.Name z.1 p) z.2 [] I:=by
 obtain⟨c,x,O,Z,h⟩:=bn2 h;obtain⟨f,Y,C,I⟩:=c;cases C with
 |cons _ _=>cases h
 |nil=>cases h;obtain⟨p,rfl⟩:=asNm_ok Z;exact⟨p,I,eS O⟩
def Eu(e:Expr):Option (Expr×CmpOp×Expr):=(mR e).bind λz=>(fg z.2.1).bind λo=>(fg z.2.2).bind λy=>some (z.1,o,y)
theorem lh{z}(h:Eu e=some z):∃p,e=.Compare z.1 [z.2.1] [z.2.2] p:=by
 obtain⟨c,o,y,O,Z,M,h⟩:=bn3 h;cases h;obtain⟨x,F,j⟩:=c;obtain⟨p,rfl⟩:=asCmp_ok O;have J:=one1_ok Z;have B:=one1_ok M
 grind
def cmp2(e:Expr):Option (Expr×(CmpOp×CmpOp)×(Expr×Expr)):=(mR e).bind λz=>(kR z.2.1).bind λo=>(kR z.2.2).bind λy=>some (z.1,o,y)
theorem qL{z}(h:cmp2 e=some z):∃p,e=.Compare z.1 [z.2.1.1,z.2.1.2] [z.2.2.1,z.2.2.2] p:=by
 obtain⟨c,o,y,O,Z,M,h⟩:=bn3 h;cases h;obtain⟨x,F,j⟩:=c;obtain⟨p,rfl⟩:=asCmp_ok O;have J:=two2_ok Z;have B:=two2_ok M
 grind
def HJ(M:Bool):CmpOp->Bool
 |.Is=>!M|.IsNot=>M|_=>false
theorem qM(h:HJ neg o=true):o=if neg then .IsNot else .Is:=by cases o<;>cases neg<;>first|rfl|cases h
def Ew:BoolOp->Bool|.And=>true|_=>false
theorem qN(h:Ew o=true):o=.And:=by cases o<;>first|rfl|cases h
def KJ:BoolOp->Bool|.Or=>true|_=>false
theorem w9(h:KJ o=true):o=.Or:=by cases o<;>first|rfl|cases h
def Ex:UnaryOp->Bool|.Not=>true|_=>false
theorem qO(h:Ex o=true):o=.Not:=by cases o<;>first|rfl|cases h
def Ey:Operator->Bool|.Add=>true|_=>false
theorem qP(h:Ey o=true):o=.Add:=by cases o<;>first|rfl|cases h
def HK:Operator->Bool|.Mult=>true|_=>false
theorem Aa(h:HK o=true):o=.Mult:=by cases o<;>first|rfl|cases h
def HL(e:Expr):Option (Expr×Str×List Expr×Pos×Pos):=(fG e).bind λz=>(fU z.1).bind λa=>(eC a.1).bind λx=>if z.2.2.1.isEmpty then some (a.1,a.2.1,z.2.1,a.2.2,z.2.2.2) else none
theorem Ab{e:Expr}{z}(h:HL e=some z):∃T k p,z.1=.Subscript T k p/\e=.Call (.Attribute z.1 z.2.1 z.2.2.2.1) z.2.2.1 [] z.2.2.2.2:=by
 obtain⟨c,a,x,O,Z,M,h⟩:=bn3 h;obtain⟨f,Y,C,I⟩:=c;obtain⟨o,m,N⟩:=a;cases C with
 |cons _ _=>cases h
 |nil=>cases h;obtain⟨p,s⟩:=asSub_ok M;have B:=asAtt_ok Z;have J:=eS O;simp only at J B s;exact⟨_,_,p,s,by rw[J,B]⟩
def Ez(e:Expr):Option (Str×Str×List Expr×Pos×Pos):=(fG e).bind λz=>(fU z.1).bind λa=>(bS a.1).bind λx=>if z.2.2.1.isEmpty then some (x,a.2.1,z.2.1,a.2.2,z.2.2.2) else none
theorem qQ{z}(h:Ez e=some z):∃p,e=.Call (.Attribute (.Name z.1 p) z.2.1 z.2.2.2.1) z.2.2.1 [] z.2.2.2.2:=by
 obtain⟨c,a,x,O,Z,M,h⟩:=bn3 h;obtain⟨f,Y,C,I⟩:=c;obtain⟨o,m,N⟩:=a;cases C with
 |cons _ _=>cases h
 |nil=>cases h;obtain⟨p,s⟩:=asNm_ok M;have B:=asAtt_ok Z;simp only at B s;subst s;subst B;exact⟨p,eS O⟩
def Ac(e:PySem.Expr):Option (Expr×Expr×List Comprehension×Scope×Pos):=if h:e.ctorIdx=10 then some (@PySem.Expr.DictComp.elim (λ_=>Expr×Expr×List Comprehension×Scope×Pos) e h λk x S s p=>(k,x,S,s,p)) else none
theorem Ad(h:Ac e=some z):e=.DictComp z.1 z.2.1 z.2.2.1 z.2.2.2.1 z.2.2.2.2:=by
 by_cases U:e.ctorIdx=10
 ·revert h;exact@PySem.Expr.DictComp.elim (λe=>Ac e=some z->e=.DictComp z.1 z.2.1 z.2.2.1 z.2.2.2.1 z.2.2.2.2) e U λk x S s p h=>by cases h;rfl
 ·rw[Ac,dif_neg U]at h;cases h
def BL(e:Expr):Option (Expr×Expr×Expr×Expr×List Expr×Scope×Pos):=(Ac e).bind λz=>(fg z.2.2.1).bind λg=>if g.is_async=0 then some (z.1,z.2.1,g.target,g.iter,g.ifs,z.2.2.2.1,z.2.2.2.2) else none
theorem xf{z}(h:BL e=some z):e=.DictComp z.1 z.2.1 [⟨z.2.2.1,z.2.2.2.1,z.2.2.2.2.1,0⟩] z.2.2.2.2.2.1 z.2.2.2.2.2.2:=by
 obtain⟨c,g,O,Z,h⟩:=bn2 h;obtain⟨k,x,S,C,p⟩:=c;obtain⟨f,y,U,Y⟩:=g;simp only at h;by_cases j:Y=0
 ·subst j;rw[if_pos rfl]at h;cases h;have J:=one1_ok Z;simp only at J;rw[Ad O,J]
 ·grind
def BM(e:Expr):Option (Expr×Expr×Expr×List Expr×Scope×Pos):=(oP e).bind λz=>(fg z.2.1).bind λg=>if g.is_async=0 then some (z.1,g.target,g.iter,g.ifs,z.2.2.1,z.2.2.2) else none
theorem mV{z}(h:BM e=some z):e=.ListComp z.1 [⟨z.2.1,z.2.2.1,z.2.2.2.1,0⟩] z.2.2.2.2.1 z.2.2.2.2.2:=by
 obtain⟨c,g,O,Z,h⟩:=bn2 h;obtain⟨x,S,C,p⟩:=c;obtain⟨f,y,U,Y⟩:=g;simp only at h;by_cases j:Y=0
 ·subst j;rw[if_pos rfl]at h;cases h;have J:=one1_ok Z;simp only at J;subst J;exact qD O
 ·grind
end
section
section
variable(t:Tb)
def jd(o:Co)(f g:Ck):Ck:=λN C e=>(Eu e).any λz=>IW o z.2.1&&!isSet z.2.2&&f N C z.1&&g N C z.2.2
def xg(o P:Co)(f g k:Ck):Ck:=λN C e=>(cmp2 e).any λz=>IW o z.2.1.1&&IW P z.2.1.2&&!isSet z.2.2.2&&(f N C z.1&&g N C z.2.2.1&&k N C z.2.2.2)
def BN(M:Bool)(f:Ck):Ck:=λN C e=>(Eu e).any λz=>HJ M z.2.1&&wR z.2.2&&f N C z.1
def xh(b:BoolOp->Bool)(f g:Ck):Ck:=λN C e=>(zZ e).any λz=>b z.1&&((mS z.2.1).any λx=>(mS x.2).any λy=>f N C x.1&&bif y.2.isEmpty then g N C y.1 else g N C (.BoolOp z.1 x.2 z.2.2))
def Ae(b:UnaryOp->Bool)(f:Ck):Ck:=λN C e=>(wN e).any λz=>b z.1&&f N C z.2
def qR(b:Operator->Bool)(f g:Ck):Ck:=λN C e=>(qz e).any λz=>b z.2.1&&f N C z.1&&g N C z.2.2
def je(p:Str->Bool)(f:List Str->Scope->List Expr->Bool):Ck:=λN C e=>(w8 e).any λz=>p z.1&&FL C z.1&&!z.2.isEmpty&&!z.2.any isStar&&f N C z.2
def jf(p:Str)(f:Ck):Ck:=λN C e=>(w8 e).any λz=>(fg z.2).any λx=>uH t C z.1 p&&!isStar x&&f N C x
def oR(p:Str)(f g:Ck):Ck:=λN C e=>(w8 e).any λz=>(kR z.2).any λx=>uH t C z.1 p&&!isStar x.1&&!isStar x.2&&f N C x.1&&g N C x.2
def HM(k:Knd):Ck:=λN C e=>match k with
 |.seq=>(cR e).any λz=>(kR z).any λw=>((bS w.1).any λu=>uH t C u "list")&&(bS w.2).any λv=>uH t C v "tuple"
 |k=>(bS e).any λu=>uH t C u (L5 k)
mutual
noncomputable def aU:E->Ck×Ck
 |.nm i=>fX λN sc e=>BK N sc i e
 |.mv i=>fX λN sc e=>BK N sc i e
 |.int k=>fX λN sc e=>(j8 e).any λj=>decide (j=k)
 |.str k=>fX λN sc e=>(BI e).any λj=>sEq j k
 |.bl k=>fX λN sc e=>(HH e).any λj=>decide (j=k)
 |.non=>fX λN sc e=>wR e
 |.gc g=>fX λN sc e=>(bS e).any λx=>decide (t.gc g=some x)&&FL sc x
 |.bop o a b=>fX (qR (IV o) (aU a).1 (aU b).1)
 |.cat a b=>fX (qR Ey (aU a).1 (aU b).1)
 |.rep a b=>fX (qR HK (aU a).1 (aU b).1)
 |.cmp o a b=>(jd o (aU a).1 (aU b).1,jd o (aU a).1 (aU b).1)
 |.cmp2 o o' a b c=>(xg o o' (aU a).1 (aU b).1 (aU c).1,xg o o' (aU a).1 (aU b).1 (aU c).1)
 |.isn neg a=>(BN neg (aU a).1,BN neg (aU a).1)
 |.and a b=>(xh Ew (aU a).1 (aU b).1,xh Ew (aU a).2 (aU b).2)
 |.or a b=>(xh KJ (aU a).1 (aU b).1,xh KJ (aU a).2 (aU b).2)
 |.not a=>(Ae Ex (aU a).1,Ae Ex (aU a).2)
 |.neg a=>fX (Ae Er (aU a).1)
 |.ife c a b=>fX λN sc e=>(z6 e).any λz=>(aU c).2 N sc z.1&&(aU a).1 N sc z.2.1&&(aU b).1 N sc z.2.2
 |.tup es=>fX λN sc e=>(cR e).any λxs=>fY es N sc xs
 |.lst es=>fX λN sc e=>(qB e).any λxs=>fY es N sc xs
 |.ix a b=>fX λN sc e=>(eC e).any λz=>!bN z.2&&(aU a).1 N sc z.1&&(aU b).1 N sc z.2
 |.call f es=>fX (je (λx=>decide (t.fn f=some x)) (fY es))
 |.callS f es=>fX (je (λx=>decide (t.fn f=some x)) (fY es))
 |.blt f es=>fX (je (λx=>sEq x (D8 f)&&t.nog x) (fY es))
 |.bnw f a=>fX (jf t (L4 f) (aU a).1)
 |.isi k a=>fX (oR t "isinstance" (aU a).1 (HM t k))
 |.idx a b=>fX λN sc e=>(HL e).any λz=>(fg z.2.2.1).any λy=>sEq z.2.1 "index" && (z.2.2.2.1.endLine==z.2.2.2.2.line)&&!isStar y&&(aU a).1 N sc z.1&&(aU b).1 N sc y
 |.dgt i b=>fX λN sc e=>(Ez e).any λz=>(fg z.2.2.1).any λy=>sEq z.2.1 "get" && uG N sc i z.1&&(z.2.2.2.1.endLine==z.2.2.2.2.line)&&!isStar y&&(aU b).1 N sc y
 |.dnew=>fX λN sc e=>BJ e
 |.pg i ps=>fX λN sc e=>cO t N sc i ps e
 |.pf i ps=>fX λN sc e=>cO t N sc i ps e
 |.pl i ps=>fX (jf t "len" λN sc e=>cO t N sc i ps e)
 |.pt i ps=>(λ_ _ _=>false,λN sc e=>plainT e&&cO t N sc i ps e)
 |.pin neg a i ps=>(jd (if neg then .nin else .inn) (aU a).1 λN sc e=>cO t N sc i ps e,jd (if neg then .nin else .inn) (aU a).1 λN sc e=>cO t N sc i ps e)
 |.din neg a i ps=>(jd (if neg then .nin else .inn) (aU a).1 λN sc e=>cO t N sc i ps e,jd (if neg then .nin else .inn) (aU a).1 λN sc e=>cO t N sc i ps e)
 |.comp nt fr it tg ifs elt=>fX λN sc e=>(BM e).any λz=>(λn=>qJ n nt fr N z.2.2.2.2.1 sc&&decide n.Nodup&&!isSet z.2.2.1&&Af it N sc z.2.1 z.2.2.1&&(wY (λ_=>true) n (ue z.2.2.2.2.1 sc) false nt tg z.2.1&&HN ifs n (ue z.2.2.2.2.1 sc) z.2.2.2.1&&(aU elt).1 n (ue z.2.2.2.2.1 sc) z.1)) (Et z.2.1++fr.filterMap λj=>N[j]?)
 |.meth c m f i es=>fX λN sc e=>(Ez e).any λz=>decide (t.me f=some (c,m))&&sEq z.2.1 m&&uG N sc i z.1&&!z.2.2.1.any isStar&&(decide (z.2.2.1.length<30)&&(z.2.2.2.1.endLine==z.2.2.2.2.line)&&fY es N sc z.2.2.1)
 |.make c f es=>fX (je (λx=>decide (t.mk' f=some c)&&sEq x c) (fY es))
noncomputable def fY:Es->List Str->Scope->List Expr->Bool
 |.nil=>λN sc xs=>xs.isEmpty
 |.cons a es=>λN sc xs=>(mS xs).any λz=>!isStar z.1&&(aU a).1 N sc z.1&&fY es N sc z.2
noncomputable def HN:Eo->List Str->Scope->List Expr->Bool
 |.none=>λN sc o=>o.isEmpty
 |.some a=>λN sc o=>(fg o).any λx=>(aU a).2 N sc x
noncomputable def Af:It'->List Str->Scope->Expr->Expr->Bool
 |.seq a=>λN sc g e=>(aU a).1 N sc e
 |.rg1 a=>λN sc g e=>jf t "range" (aU a).1 N sc e
 |.rg3 a b=>λN sc g e=>(w8 e).any λz=>(zK z.2).any λx=>uH t sc z.1 "range" && !isStar x.1&&!isStar x.2.1&&!isStar x.2.2&&(aU a).1 N sc x.1&&(aU b).1 N sc x.2.1&&(j8 x.2.2).any λj=>decide (j=2)
 |.enm a=>λN sc g e=>isTup g&&jf t "enumerate" (aU a).1 N sc e
 |.zip a b=>λN sc g e=>isTup g&&oR t "zip" (aU a).1 (aU b).1 N sc e
end
end
def Ag:Expr->Bool
 |.BoolOp _ _ _=>true
 |_=>false
structure EOk (t:Tb)(C:Ct)(m:E):Prop where
 v:∀X e,Cy t C X->(aU t m).1 X.N X.env.scope e=true->PDe X e (aF C m)
 w:∀X e,Cy t C X->Ag e=true->(aU t m).2 X.N X.env.scope e=true->PDw X e (gW C m)
 t:∀X e,Cy t C X->(aU t m).2 X.N X.env.scope e=true->PDt X e (gW C m)
theorem lj(h:Ag e=true):∃o xs p,e=.BoolOp o xs p:=by cases e<;>first|exact⟨_,_,_,rfl⟩|cases h
theorem aI(U:(aU t m).2=λN sc e=>plainT e&&(aU t m).1 N sc e)(Y:aL C m=(vt (ev C m)).2)(a:∀X e,Cy t C X->(aU t m).1 X.N X.env.scope e=true->PDe X e (aF C m)):EOk t C m:=
 ⟨a,λX e c S h=>by
  rw[U]at h;obtain⟨o,T,p,rfl⟩:=lj S
  trivial,
  λX e c h=>by
  rw[U]at h;exact G7 Y (an2 h).1 (a X e c (an2 h).2)⟩
theorem gK(Q:∀(X:Cx) e,Ag e=true->(aU t m).2 X.N X.env.scope e=false)(o:∀X e,Cy t C X->(aU t m).1 X.N X.env.scope e=true->PDe X e (aF C m))(u:∀X e,Cy t C X->(aU t m).2 X.N X.env.scope e=true->PDt X e (gW C m)):EOk t C m:=
 ⟨o,λX e c S h=>absurd h (by grind),u⟩
theorem uf{f:Ck}(S:Ag e=true)(h:∀o xs p,f N sc (.BoolOp o xs p)=false):f N sc e=false:=by obtain⟨o,xs,p,rfl⟩:=lj S;exact h o xs p
theorem ckBin_ok(h:qR b f g N sc e=true):∃x o y p,e=.BinOp x o y p/\b o=true/\f N sc x=true/\g N sc y=true:=by obtain⟨z,O,h⟩:=anyT h;obtain⟨p,rfl⟩:=wM O;exact⟨_,_,_,p,rfl,an3 h⟩
theorem ckUn_ok(h:Ae b f N sc e=true):∃o x p,e=.UnaryOp o x p/\b o=true/\f N sc x=true:=by obtain⟨z,O,h⟩:=anyT h;obtain⟨p,rfl⟩:=qA O;exact⟨_,_,p,rfl,an2 h⟩
theorem cS(h:jd o f g N sc e=true):∃x y p,e=.Compare x [coOf o] [y] p/\isSet y=false/\f N sc x=true/\g N sc y=true:=by obtain⟨z,O,h⟩:=anyT h;obtain⟨p,rfl⟩:=lh O;obtain⟨O,Z,M,F⟩:=yF h;exact⟨_,_,p,by rw[ja O],bt Z,M,F⟩
theorem eU(h:je p f N sc e=true):∃x z zs q D,e=.Call (.Name x q) (z::zs) [] D/\p x=true/\FL sc x=true/\isStar z=false/\zs.any isStar=false/\f N sc (z::zs)=true:=by
 obtain⟨z,O,h⟩:=anyT h;obtain⟨q,D,rfl⟩:=ir O;obtain⟨O,Z,M,F,J⟩:=an5 h;obtain⟨x,Y⟩:=z;cases Y with
 |nil=>cases M
 |cons y j=>have:=bt F;rw[aaP,abv]at this;exact⟨x,y,j,q,D,rfl,O,Z,this.1,this.2,J⟩
theorem eV(h:jf t p f N sc e=true):∃x z q D,e=.Call (.Name x q) [z] [] D/\uH t sc x p=true/\isStar z=false/\f N sc z=true:=by
 obtain⟨z,w,O,Z,h⟩:=ay2 h;obtain⟨q,D,rfl⟩:=ir O;obtain⟨x,Y⟩:=z;have:=one1_ok Z
 grind
theorem j9(h:oR t p f g N sc e=true):∃x z w q D,e=.Call (.Name x q) [z,w] [] D/\uH t sc x p=true/\isStar z=false/\isStar w=false/\f N sc z=true/\g N sc w=true:=by
 obtain⟨z,w,O,Z,h⟩:=ay2 h;obtain⟨q,D,rfl⟩:=ir O;obtain⟨x,Y⟩:=z;have:=two2_ok Z
 grind
theorem ckBo_ok(h:xh b f g N sc e=true):∃o x y es p,e=.BoolOp o (x::y::es) p/\b o=true/\f N sc x=true/\((es=[]/\g N sc y=true)\/g N sc (.BoolOp o (y::es) p)=true):=by
 obtain⟨z,O,h⟩:=anyT h;have:=z5 O;subst this;obtain⟨Z,h⟩:=an2 h;obtain⟨x,y,M,F,h⟩:=ay2 h;obtain⟨J,h⟩:=an2 h;obtain⟨o,Y,p⟩:=z;obtain⟨x,P⟩:=x;obtain⟨y,es⟩:=y;have T:=con1_ok M;have B:=con1_ok F
 grind
theorem EA(U:X.A.units+64<cLine)(Y:lastMarks [coOf o,coOf o'] [b,c]=false)(O:PDe X a (aF C ma))(Z:PDe X b (aF C mb))(M:PDe X c (aF C mc)):PDt X (.Compare a [coOf o,coOf o'] [b,c] pos) (gW C (.cmp2 o o' ma mb mc)):=by
 obtain⟨p,j,D⟩:=iZ U o;obtain⟨t,T,d⟩:=iZ U o';refine(tx j D T d Y O Z M).imp λI Q y=>?_;obtain⟨x,h,i,m,q⟩:=kZ rfl (λI x h=>by
  obtain⟨P,z,e,l,k,J,B,s,n,F,h⟩:=bn5 h;cases k with
  |false=>grind
  |true=>
   rw[if_pos rfl]at h;obtain⟨W,f,N,r,S,L,g,H,h⟩:=bn4 h
   grind) I Q y
 obtain⟨P,z,e,l,k,J,B,s,n,F,h⟩:=bn5 h;refine⟨P,J,z,B,e,l,s,n,k,F,k,rfl,?_⟩;cases k with
 |false=>grind
 |true=>rw[if_pos rfl]at h ⊢;obtain⟨W,f,N,r,S,L,g,H,h⟩:=bn4 h;cases h;exact⟨W,S,f,N,L,g,r,H,i,m,q⟩
theorem oS(N:Gl X x) (Y:X.mg x=none) (o:bootBuiltins x=some (.type T)) (l:x≠"__name__") (W:(x==("__debug__":Str))=false):PE X (.Name x p) (tC (.ty T)):=yL N Y o rfl l W
theorem EB(c:Cy t C X) (O:uH t X.env.scope x "isinstance"=true) (Z:isStar z=false) (M:HM t k X.N X.env.scope w=true) (j:PDe X z (aF C ma)):PDe X (.Call (.Name x q) [z,w] [] q') (aF C (.isi k ma)):=by
 obtain⟨Y,l,n⟩:=blB_ok c O;subst Y;have d:∀{T:Str},((bS w).any λu=>uH t X.env.scope u T)=true->∃p,w=.Name T p/\Gl X T/\X.mg T=none:=λ{T} h=>by
  obtain⟨u,I,A⟩:=anyT h;obtain⟨p,rfl⟩:=asNm_ok I;obtain⟨r,W,g⟩:=blB_ok c A
  grind
 cases k with
 |int=>obtain⟨p,rfl,W,g⟩:=d M;exact i3 rfl (oS W g vy (by decide) (by rfl)) l n Z rfl j
 |bool=>obtain⟨p,rfl,W,g⟩:=d M;exact i3 rfl (oS W g y6 (by decide) (by rfl)) l n Z rfl j
 |str=>obtain⟨p,rfl,W,g⟩:=d M;exact i3 rfl (oS W g Di (by decide) (by rfl)) l n Z rfl j
 |list=>obtain⟨p,rfl,W,g⟩:=d M;exact i3 rfl (oS W g kH (by decide) (by rfl)) l n Z rfl j
 |tuple=>obtain⟨p,rfl,W,g⟩:=d M;exact i3 rfl (oS W g iL (by decide) (by rfl)) l n Z rfl j
 |seq=>obtain⟨b,D,I,A,M⟩:=ay2 M;obtain⟨y,Q⟩:=an2 M;obtain⟨u,F,S⟩:=anyT y;obtain⟨v,P,m⟩:=anyT Q;obtain⟨f,e,rfl⟩:=asTup_ok I;have:=two2_ok A;subst this;obtain⟨J,a⟩:=D;obtain⟨i,B⟩:=asNm_ok F;obtain⟨U,s⟩:=asNm_ok P;simp only at B s;subst B s;obtain⟨r,W,g⟩:=blB_ok c S;obtain⟨o,H,L⟩:=blB_ok c m;subst r o;exact Ea (oS W g kH (by decide) (by rfl)) (oS H L iL (by decide) (by rfl)) l n Z rfl rfl j
mutual
theorem aY:∀m:E,EOk t C m
 |.nm i=>aI rfl rfl λX e c h=>by obtain⟨x,p,rfl,h⟩:=i9 h;obtain⟨O,Z,M,F⟩:=bJ h;exact Ke O Z M F
 |.mv i=>aI rfl rfl λX e c h=>by obtain⟨x,p,rfl,h⟩:=i9 h;obtain⟨O,Z,M,F⟩:=bJ h;exact Kf O Z M F
 |.int k=>aI rfl rfl λX e c h=>by obtain⟨j,O,h⟩:=anyT h;obtain⟨_,_,rfl⟩:=asInt_ok O;have:=Daa h;subst this;exact BE
 |.str k=>aI rfl rfl λX e c h=>by obtain⟨j,O,h⟩:=anyT h;obtain⟨_,_,rfl⟩:=asStr_ok O;have:=bu h;subst this;exact GZ
 |.bl k=>aI rfl rfl λX e c h=>by obtain⟨j,O,h⟩:=anyT h;obtain⟨_,_,rfl⟩:=asBl_ok O;have:=Daa h;subst this;exact Kg
 |.non=>aI rfl rfl λX e c h=>by obtain⟨_,_,rfl⟩:=i8 h;exact G0
 |.gc g=>aI rfl rfl λX e c h=>by obtain⟨x,O,h⟩:=anyT h;obtain⟨_,rfl⟩:=asNm_ok O;obtain⟨v,u,Y,l,n⟩:=c.hgc _ _ (Daa (an2 h).1);exact Kh (cN (an2 h).2).1 Y l n (cN (an2 h).2).2
 |.bop o a b=>aI rfl rfl λX e c h=>by obtain⟨x,o',y,p,rfl,O,Z,M⟩:=ckBin_ok h;have:=oQ O;subst this;exact GW ((aY a).v X _ c Z) ((aY b).v X _ c M)
 |.cat a b=>aI rfl rfl λX e c h=>by obtain⟨x,o',y,p,rfl,O,Z,M⟩:=ckBin_ok h;have:=qP O;subst this;exact Ha ((aY a).v X _ c Z) ((aY b).v X _ c M)
 |.rep a b=>aI rfl rfl λX e c h=>by obtain⟨x,o',y,p,rfl,O,Z,M⟩:=ckBin_ok h;have:=Aa O;subst this;exact Hi ((aY a).v X _ c Z) ((aY b).v X _ c M)
 |.cmp o a b=>gK (λX e S=>uf (f:=(aU t (.cmp o a b)).2) S λ_ _ _=>rfl) (λX e c h=>by
  obtain⟨x,y,p,rfl,Z,M,F⟩:=cS h;exact GX c.units (eD _ Z) ((aY a).v X _ c M) ((aY b).v X _ c F)) λX e c h=>by
  obtain⟨x,y,p,rfl,Z,M,F⟩:=cS h;exact GY c.units (eD _ Z) ((aY a).v X _ c M) ((aY b).v X _ c F)
 |.cmp2 o o' a b d=>gK (λX e S=>uf (f:=(aU t (.cmp2 o o' a b d)).2) S λ_ _ _=>rfl) (λX e c h=>by
  obtain⟨z,O,h⟩:=anyT h;obtain⟨p,rfl⟩:=qL O;obtain⟨I,A,H,P⟩:=yF h;obtain⟨b1,Q,W⟩:=an3 P;rw[ja I,ja A];exact D5 c.units (eD _ (bt H)) ((aY a).v X _ c b1) ((aY b).v X _ c Q) ((aY d).v X _ c W)) λX e c h=>by
  obtain⟨z,O,h⟩:=anyT h;obtain⟨p,rfl⟩:=qL O;obtain⟨I,A,H,P⟩:=yF h;obtain⟨b1,Q,W⟩:=an3 P;rw[ja I,ja A];exact EA c.units (eD _ (bt H)) ((aY a).v X _ c b1) ((aY b).v X _ c Q) ((aY d).v X _ c W)
 |.isn neg a=>gK (λX e S=>uf (f:=(aU t (.isn neg a)).2) S λ_ _ _=>rfl) (λX e c h=>by
  obtain⟨z,O,h⟩:=anyT h;obtain⟨p,rfl⟩:=lh O;obtain⟨I,A,H⟩:=an3 h;obtain⟨_,_,e2⟩:=i8 A;rw[qM I,e2];exact G1 ((aY a).v X _ c H)) λX e c h=>by
  obtain⟨z,O,h⟩:=anyT h;obtain⟨p,rfl⟩:=lh O;obtain⟨I,A,H⟩:=an3 h;obtain⟨_,_,e2⟩:=i8 A;rw[qM I,e2];exact G2 ((aY a).v X _ c H)
 |.and a b=>by
  have hw:∀X e,Cy t C X->(aU t (.and a b)).2 X.N X.env.scope e=true->PDw X e (gW C (.and a b)):=λX e c h=>by
   obtain⟨o,x,y,L,p,rfl,O,Z,M⟩:=ckBo_ok h;have:=qN O;subst this;refine G4 ((aY a).t X _ c Z) ?_;rcases M with ⟨rfl,M⟩|M
   ·exact vQ ((aY b).t X _ c M)
   ·exact(aY b).w X _ c rfl M
  refine⟨λX e c h=>?_,λX e c _ h=>hw X e c h,λX e c h=>(hw X e c h).pt⟩;obtain⟨o,x,y,L,p,rfl,O,Z,M⟩:=ckBo_ok h;have:=qN O;subst this;refine v_and ((aY a).v X _ c Z) ?_;rcases M with ⟨rfl,M⟩|M
  ·exact vO ((aY b).v X _ c M)
  ·exact(aY b).v X _ c M
 |.or a b=>by
  have hw:∀X e,Cy t C X->(aU t (.or a b)).2 X.N X.env.scope e=true->PDw X e (gW C (.or a b)):=λX e c h=>by
   obtain⟨o,x,y,L,p,rfl,O,Z,M⟩:=ckBo_ok h;have:=w9 O;subst this;refine Ki ((aY a).t X _ c Z) ?_;rcases M with ⟨rfl,M⟩|M
   ·exact zq ((aY b).t X _ c M)
   ·exact(aY b).w X _ c rfl M
  refine⟨λX e c h=>?_,λX e c _ h=>hw X e c h,λX e c h=>(hw X e c h).pt⟩;obtain⟨o,x,y,L,p,rfl,O,Z,M⟩:=ckBo_ok h;have:=w9 O;subst this;refine v_or ((aY a).v X _ c Z) ?_;rcases M with ⟨rfl,M⟩|M
  ·exact vO ((aY b).v X _ c M)
  ·exact(aY b).v X _ c M
 |.not a=>gK (λX e S=>uf (f:=(aU t (.not a)).2) S λ_ _ _=>rfl) (λX e c h=>by
  obtain⟨o,x,p,rfl,O,Z⟩:=ckUn_ok h;have:=qO O;subst this;exact v_not ((aY a).v X _ c Z)) λX e c h=>by
  obtain⟨o,x,p,rfl,O,Z⟩:=ckUn_ok h;have:=qO O;subst this;exact G5 ((aY a).t X _ c Z)
 |.neg a=>aI rfl rfl λX e c h=>by obtain⟨o,x,p,rfl,O,Z⟩:=ckUn_ok h;have:=qI O;subst this;exact G3 ((aY a).v X _ c Z)
 |.ife z a b=>aI rfl rfl λX e c h=>by obtain⟨q,O,h⟩:=anyT h;obtain⟨p,rfl⟩:=z7 O;obtain⟨I,A,H⟩:=an3 h;exact G6 ((aY z).t X _ c I) ((aY a).v X _ c A) ((aY b).v X _ c H)
 |.tup L=>aI rfl rfl λX e c h=>by obtain⟨q,O,h⟩:=anyT h;obtain⟨_,_,rfl⟩:=asTup_ok O;exact G8 (yG L X _ c h)
 |.lst L=>aI rfl rfl λX e c h=>by obtain⟨q,O,h⟩:=anyT h;obtain⟨_,rfl⟩:=wO O;exact G9 (yG L X _ c h)
 |.ix a b=>aI rfl rfl λX e c h=>by obtain⟨q,O,h⟩:=anyT h;obtain⟨_,rfl⟩:=asSub_ok O;obtain⟨I,A,H⟩:=an3 h;exact Kj (bt I) ((aY a).v X _ c A) ((aY b).v X _ c H)
 |.call f L=>aI rfl rfl λX e c h=>by obtain⟨x,z,s,q,D,rfl,O,Z,M,F,J⟩:=eU (p:=λx=>decide (t.fn f=some x)) (f:=fY t L) (N:=X.N) (sc:=X.env.scope) (e:=e) h;obtain⟨k,fa,fd,T,Y,l,n,g4,g5⟩:=c.hfn _ _ (Daa O);exact D6 Y l (cN Z).1 n g4 g5 (cN Z).2 M F (yG L X _ c J)
 |.callS f L=>aI rfl rfl λX e c h=>by obtain⟨x,z,s,q,D,rfl,O,Z,M,F,J⟩:=eU (p:=λx=>decide (t.fn f=some x)) (f:=fY t L) (N:=X.N) (sc:=X.env.scope) (e:=e) h;obtain⟨k,fa,fd,T,Y,l,n,g4,g5⟩:=c.hfn _ _ (Daa O);exact zM Y l (cN Z).1 n g4 g5 (cN Z).2 M F (yG L X _ c J)
 |.blt f L=>aI rfl rfl λX e c h=>by obtain⟨x,z,s,q,D,rfl,O,Z,M,F,J⟩:=eU (p:=λx=>sEq x (D8 f)&&t.nog x) (f:=fY t L) (N:=X.N) (sc:=X.env.scope) (e:=e) h;have:=bu (an2 O).1;subst this;exact Hb c.calm (cN Z).1 (c.hng _ (an2 O).2) M F (yG L X _ c J)
 |.bnw f a=>aI rfl rfl λX e c h=>by
  obtain⟨x,z,q,D,rfl,O,Z,M⟩:=eV h;obtain⟨Y,l,n⟩:=blB_ok c O;subst Y;cases f with
  |list=>exact D9 l n Z ((aY a).v X _ c M)
  |tuple=>exact zN l n Z ((aY a).v X _ c M)
  |sorted=>exact wH c.calm l n Z ((aY a).v X _ c M)
 |.isi k a=>aI rfl rfl λX e c h=>by obtain⟨x,z,w,q,D,rfl,O,Z,M,F,J⟩:=j9 h;exact EB c O Z J ((aY a).v X _ c F)
 |.idx a b=>aI rfl rfl λX e c h=>by obtain⟨z,y,O,Z,r⟩:=ay2 h;obtain⟨o1,o2,p,e1,rfl⟩:=Ab O;obtain⟨I,A,H,P,B⟩:=an5 r;rw[one1_ok Z,bu I];rw[e1]at P ⊢;exact HE A (bt H) ((aY a).v X _ c P) ((aY b).v X _ c B)
 |.dgt i b=>aI rfl rfl λX e c h=>by obtain⟨z,y,O,Z,r⟩:=ay2 h;obtain⟨p,rfl⟩:=qQ O;obtain⟨I,A,H,P,B⟩:=an5 r;obtain⟨n1,n2,n3,U⟩:=bJ A;rw[one1_ok Z,bu I];exact HF (by have:=c.units;lia) n1 n2 n3 U H (bt P) ((aY b).v X _ c B)
 |.dnew=>aI rfl rfl λX e c h=>by obtain⟨_,rfl⟩:=wU h;exact D7
 |.pg i T=>aI rfl rfl λX e c h=>Ku (aX c T _ h)
 |.pf i T=>aI rfl rfl λX e c h=>Kv (aX c T _ h)
 |.pl i T=>aI rfl rfl λX e c h=>by obtain⟨x,z,q,D,rfl,O,Z,M⟩:=eV (t:=t) (p:="len") (f:=λN sc e=>cO t N sc i T e) (N:=X.N) (sc:=X.env.scope) (e:=e) h;obtain⟨Y,l,n⟩:=blB_ok c O;subst Y;exact Kw l n Z (aX c T _ M)
 |.pt i T=>⟨λX e c h=>absurd h aaq,λX e c S h=>by
   obtain⟨o,xs,p,rfl⟩:=lj S
   trivial,λX e c h=>Kx (an2 h).1 (aX c T _ (an2 h).2)⟩
 |.pin neg a i T=>gK (λX e S=>uf (f:=(aU t (.pin neg a i T)).2) S λ_ _ _=>rfl) (λX e c h=>by
  obtain⟨x,y,p,rfl,Z,M,F⟩:=cS (o:=if neg then .nin else .inn) (f:=(aU t a).1) (g:=λN sc e=>cO t N sc i T e) (N:=X.N) (sc:=X.env.scope) (e:=e) h;exact(wC c.units (eD _ Z) ((aY a).v X _ c M) (aX c T _ F)).1) λX e c h=>by
  obtain⟨x,y,p,rfl,Z,M,F⟩:=cS (o:=if neg then .nin else .inn) (f:=(aU t a).1) (g:=λN sc e=>cO t N sc i T e) (N:=X.N) (sc:=X.env.scope) (e:=e) h;exact(wC c.units (eD _ Z) ((aY a).v X _ c M) (aX c T _ F)).2
 |.din neg a i T=>gK (λX e S=>uf (f:=(aU t (.din neg a i T)).2) S λ_ _ _=>rfl) (λX e c h=>by
  obtain⟨x,y,p,rfl,Z,M,F⟩:=cS (o:=if neg then .nin else .inn) (f:=(aU t a).1) (g:=λN sc e=>cO t N sc i T e) (N:=X.N) (sc:=X.env.scope) (e:=e) h;exact(wD (by have:=c.units;lia) (eD _ Z) ((aY a).v X _ c M) (aX c T _ F)).1) λX e c h=>by
  obtain⟨x,y,p,rfl,Z,M,F⟩:=cS (o:=if neg then .nin else .inn) (f:=(aU t a).1) (g:=λN sc e=>cO t N sc i T e) (N:=X.N) (sc:=X.env.scope) (e:=e) h;exact(wD (by have:=c.units;lia) (eD _ Z) ((aY a).v X _ c M) (aX c T _ F)).2
 |.comp nt fr it tg ifs elt=>aI rfl rfl λX e c h=>by obtain⟨z,O,h⟩:=anyT h;have:=mV O;subst this;obtain⟨I,A,H,P,B⟩:=an5 h;obtain⟨b1,Q,W⟩:=an3 B;exact Ee c.calm (jc I) (k8 (bt H)) (IX it X _ _ c P) (λq=>fW (X:=cC X _ z.2.2.2.2.1 q) (fn:=false) c.calm (Daa A) (λz=>by cases z) (λ_ _ z=>z) b1) λq=>Lk ifs (cC X _ z.2.2.2.2.1 q) _ _ c.comp (aY elt) Q W
 |.meth cn m f i L=>aI rfl rfl λX e c h=>by
  obtain⟨z,O,h⟩:=anyT h;obtain⟨p,rfl⟩:=qQ O;obtain⟨I,A,H,P,B⟩:=an5 h;obtain⟨b1,Q,W⟩:=an3 B;obtain⟨x,m',s,ap,q⟩:=z;have:=bu A;simp only at this;subst this;obtain⟨g0,k,fa,fd,T,Y,l,n,g4⟩:=c.hme _ _ _ (Daa I);obtain⟨n1,n2,n3,U⟩:=bJ H;cases s with
  |nil=>
   cases L with
   |nil=>exact zY g0 Y l n g4 n1 n2 n3 U Q
   |cons a L=>cases W
  |cons z s=>have:=bt P;rw[aaP,abv]at this;exact Em g0 Y l n g4 n1 n2 n3 U this.1 this.2 b1 Q (yG L X _ c W)
 |.make cn f L=>aI rfl rfl λX e c h=>by obtain⟨x,z,s,q,D,rfl,O,Z,M,F,J⟩:=eU (p:=λx=>decide (t.mk' f=some cn)&&sEq x cn) (f:=fY t L) (N:=X.N) (sc:=X.env.scope) (e:=e) h;have:=bu (an2 O).2;subst this;obtain⟨k,fa,fd,T,Y,l,n,g4,g5⟩:=c.hmk _ _ (Daa (an2 O).1);exact En Y l n (cN Z).1 g4 g5 (cN Z).2 M F (yG L X _ c J)
theorem yG:∀(m:Es) X xs,Cy t C X->fY t m X.N X.env.scope xs=true->PDa X xs (fh C m)
 |.nil,X,xs,c,h=>by
  cases xs with
  |nil=>exact fF
  |cons _ _=>cases h
 |.cons a es,X,xs,c,h=>by obtain⟨z,O,h⟩:=anyT h;have:=con1_ok O;subst this;obtain⟨I,A,H⟩:=an3 h;exact bL (bt I) ((aY a).v X _ c A) (yG es X _ c H)
theorem Lk:∀(m:Eo) {elt:E} X fs x,Cy t C X->EOk t C elt->HN t m X.N X.env.scope fs=true->(aU t elt).1 X.N X.env.scope x=true->PDc X fs x (Ec C m elt)
 |.none,elt,X,fs,x,c,he,h,h'=>by
  cases fs with
  |nil=>exact c_plain (he.v X _ c h')
  |cons _ _=>cases h
 |.some a,elt,X,fs,x,c,he,h,h'=>by obtain⟨z,O,h⟩:=anyT h;have:=one1_ok O;subst this;exact Ed ((aY a).t X _ c h) (he.v X _ c h')
theorem IX:∀(m:It') X g e,Cy t C X->Af t m X.N X.env.scope g e=true->PDi X g e (gF C m)
 |.seq a,X,g,e,c,h=>Hd ((aY a).v X _ c h)
 |.rg1 a,X,g,e,c,h=>by obtain⟨x,z,q,D,rfl,O,Z,M⟩:=eV h;obtain⟨Y,l,n⟩:=blB_ok c O;subst Y;exact He l n Z ((aY a).v X _ c M)
 |.rg3 a b,X,g,e,c,h=>by obtain⟨z,w,O,Z,h⟩:=ay2 h;obtain⟨q,D,rfl⟩:=ir O;obtain⟨x,T⟩:=z;have:=thr3_ok Z;simp only at this;subst this;obtain⟨h,u⟩:=an2 h;obtain⟨h,H⟩:=an2 h;obtain⟨M,F,J,L,I⟩:=an5 h;obtain⟨j,f,A⟩:=anyT u;obtain⟨_,_,B⟩:=asInt_ok f;have:=Daa A;subst this;obtain⟨Y,l,n⟩:=blB_ok c M;subst Y;exact Hf l n (bt F) (bt J) (bt L) ((aY a).v X _ c I) ((aY b).v X _ c H) (by rw[B];exact BE)
 |.enm a,X,g,e,c,h=>by obtain⟨P,h⟩:=an2 h;obtain⟨T,k,p,rfl⟩:=fV P;obtain⟨x,z,q,D,rfl,O,Z,M⟩:=eV h;obtain⟨Y,l,n⟩:=blB_ok c O;subst Y;exact Hg l n Z ((aY a).v X _ c M)
 |.zip a b,X,g,e,c,h=>by obtain⟨P,h⟩:=an2 h;obtain⟨T,k,p,rfl⟩:=fV P;obtain⟨x,z,w,q,D,rfl,O,Z,M,F,J⟩:=j9 h;obtain⟨Y,l,n⟩:=blB_ok c O;subst Y;exact Hh l n Z M ((aY a).v X _ c F) ((aY b).v X _ c J)
end
end
section
noncomputable def bkS(sc:Scope):ScopeKind:=if sc.kind.isAnnotationScope then .function else sc.kind
set_option backward.match.sparseCases true in
def ug(d:List Expr)(sc:Scope):List Str:=d.filterMap fun
  |.Name id pos=>if sc.names.lookup id==some .local&&pos.line==(d.head?.map (·.pos.line)).getD 0 then some id else none
  |_=>none
set_option backward.match.sparseCases true in
def IY(ts vs:List Expr)(sc:Scope):Option (Option (List Str)):=
 if !(ts.length==2||ts.length==3)||vs.length !=ts.length||bkS sc !=.function then some none
 else if (vs.any fun|.Starred ..=>true|_=>false) then some none
 else if (ug ts sc).length !=ts.length||(ug ts sc).eraseDups.length !=(ug ts sc).length then some none
 else if vs.all (foldedForSure 8) then some none
 else if vs.all (constantsAlone 8) then none
 else some (some (ug ts sc))
set_option backward.match.sparseCases true in
theorem oT(h:IY ts vs env.scope=some r):swappedStores [.Tuple ts k p] (.Tuple vs k2 p2) env=pure r:=by
 unfold IY at h;unfold swappedStores;split at h
 ·rename_i U;cases h;show (if (!(ts.length==2||ts.length==3)||vs.length !=ts.length||env.blockKind !=.function)=true then _ else _)=_;rw[if_pos (show (!(ts.length==2||ts.length==3)||vs.length !=ts.length||env.blockKind !=.function)=true from U)]
 ·rename_i U;show (if (!(ts.length==2||ts.length==3)||vs.length !=ts.length||env.blockKind !=.function)=true then _ else _)=_;rw[if_neg (show ¬ (!(ts.length==2||ts.length==3)||vs.length !=ts.length||env.blockKind !=.function)=true from U)];split at h
  ·rename_i j;cases h;show (if (vs.any fun|.Starred ..=>true|_=>false)=true then _ else _)=_;rw[if_pos j]
  ·rename_i j;show (if (vs.any fun|.Starred ..=>true|_=>false)=true then _ else _)=_;rw[if_neg j];split at h
   ·rename_i H;cases h;show (if ((ug ts env.scope).length !=ts.length||(ug ts env.scope).eraseDups.length !=(ug ts env.scope).length)=true then _ else _)=_;rw[if_pos H]
   ·rename_i H;show (if ((ug ts env.scope).length !=ts.length||(ug ts env.scope).eraseDups.length !=(ug ts env.scope).length)=true then _ else _)=_;rw[if_neg H];split at h
    ·rename_i A;cases h;rw[if_pos A]
    ·rename_i A;rw[if_neg A];split at h
     ·cases h
     ·rename_i B;cases h;rw[if_neg B];rfl
def BO(f e:Expr)(sc:Scope):Bool:=(cR f).any λd=>(cR e).all λc=>decide (IY d c sc=some none)
theorem xi(h:BO tg e env.scope=true):swappedStores [tg] e env=pure none:=by
 obtain⟨d,O,Z⟩:=anyT h;clear h;obtain⟨k,p,rfl⟩:=asTup_ok O;cases n:cR e with
 |some c=>obtain⟨A,i,rfl⟩:=asTup_ok n;rw[n]at Z;exact oT (Daa Z)
 |none=>cases e<;>first|rfl|cases n
def swC(sc:Scope)(t:Str)(pos p:Pos)(s:Scope):Bool:=bkS sc==.function&&sc.names.lookup t==some .local&&pos.line==p.line&&!(s.names.any λ(n,k)=>n==t&&(k==.local||k==.cell))
theorem xj:swapsWith (.ListComp elt gs s p) (some (.Name t pos)) l env=pure (swC env.scope t pos p s):=rfl
inductive PDx (X:Cx)(i:Nat)(st:Stmt)(de:DE):Prop|mk (te:TE) (h:PS X st (nU te (iB i))) (s:bI X.K te de)
section
variable{st:Stmt}
theorem PDx.imp:PDx X i st d->(∀ρ Q,d' ρ Q->d ρ Q)->PDx X i st d'
 |⟨te,h,s⟩,f=>⟨te,h,λb F σ H ρ τ θ w Q T R W q=>s b F σ H ρ τ θ w Q T R (f _ _ W) q⟩
theorem EC{M:Tg}(a:X.N.Nodup)(m:X.N[i]?=some y)(t:X.env.scope.names.lookup y=some .local)(U:X.calm=true)(S:CompScope N nt fr X.N scope X.env.scope)(W:∀x,foldedSetIterable iter X.env x=pure x)(r:PDi X tg iter (gF C mi))(A:∀c:CC,PDg (cC X N scope c) Ff nt tg (i4 M))(j:∀c:CC,PDc (cC X N scope c) ifs elt (Ec C mif me))
  (l:swapsWith (.ListComp elt [⟨tg,iter,ifs,0⟩] scope pos) (some (.Name y py)) spos.line X.env=pure true):PDx X i (.Assign [.Name y py] (.ListComp elt [⟨tg,iter,ifs,0⟩] scope pos) spos) (aF C (.comp nt fr mi M mif me)):=by
 have P:PDx X i (.Assign [.Name y py] (.ListComp elt [⟨tg,iter,ifs,0⟩] scope pos) spos) (qp (gF C mi) nt fr (i4 M) (Ec C mif me)):=by obtain⟨Z,O,f⟩:=r;obtain⟨g,z⟩:=PDg.ex (Y:=λc=>cC X N scope c) (λ_=>rfl) A;obtain⟨T,Q⟩:=PDc.ex (Y:=λc=>cC X N scope c) (λ_=>rfl) j;exact⟨_,yZ a m t U S O (λc=>(z c).1) (λc D=>(Q c).1 D) W l,mC f (λc=>(z c).2) λc=>(Q c).2⟩
 exact P.imp (qx C)
theorem ED(Q:¬ W i):PDx X i st (aF C ma)->PDs X W st (gH C (.set i ma))
 |⟨_,h,s⟩=>⟨_,h,λb F σ H ρ τ θ x D T n R ⟨y,h,q⟩ E=>by
  obtain⟨z,o,_,J,B,a,h⟩:=bn3 h;cases h;refine s b F σ H ρ τ θ (λr p=>r=z.1/\p=z.2) _ T R ⟨z,J,rfl,rfl⟩ λv l r p g m=>?_;obtain⟨O,Z⟩:=m;subst O Z;exact E.nx _ l _ ((g.own1 B).store n (gd_ok a) Q) q⟩
end
theorem Wd.closeAt(w:Wd b H ([u].zip [y]++((v,x)::L)))(e:x.at ks=some (.hole u)):Wd b H ((v,OD.put y ks x)::L):=by
 obtain⟨S,A,B,C,N,m,d,Q,g,s,I,f,h⟩:=Wd.vl w rfl e;cases m with
 |hole O=>subst O;exact h (λ_ _=>rfl) (λc U=>by cases U) (by simpa using Q) (λc U=>.inr U) λp J _=>Ow.sub I J d.one
theorem Wd.hole(w:Wd b H L):Wd b H ((u,.hole u)::L):=by obtain⟨A,P,Q,i⟩:=w.out;exact⟨⟨A,Ows.cons (.hole rfl) P,Q,i⟩,w.fr,w.s0,w.nt⟩
theorem Rel.fill(R:Rel b F σ H ρ (u::τ) (.rf j::θ))(h:wu i ks j u ρ ρ'):Rel b F σ H ρ' τ θ:=by obtain⟨x,y,r,W,g,Z,l⟩:=h;subst l;obtain⟨o,f,M⟩:=R.drop.moved g;have J:=R.al.1;rw[J]at f;cases f;obtain⟨v,f,w⟩:=Rel.open (us:=[u]) (zs:=[y]) M rfl (by rw[aa0 Z];omega);exact Rel.close (Rel.rest (us:=[u]) (zs:=[y]) M rfl) f (w.closeAt W)
theorem EE(S:attributeBase e "append" X.env (eval e X.env)=eval e X.env) (Q:(apos.endLine==cpos.line)=true) (hN:X.N[j]?=some x) (hv:Vis X.env.scope x) (hd:(x==("__debug__":Str))=false) (a1:(x==("__classdict__":Str))=false):
  PDp X e i ps->PDss X (λk=>W k\/k=j) sts (jR C mss)->PDss X W (.Expr (.Call (.Attribute e "append" apos) [.Name x pos'] [] cpos) pos::sts) (jR C (.ali i ps j mss))
 |⟨_,h0,s0⟩,⟨_,Z,s2⟩=>⟨_,lY (ip (qc abT abU abV eN h0 (aZ (bB hN hv hd a1) cg (aC rfl)) S (wI rfl) Q (aC rfl) (bG rfl)) rfl) Z,λb F σ H ρ τ θ Dd D T n R ⟨z,h,q⟩ E=>by
  obtain⟨r,J,h⟩:=bnd h;obtain⟨xs,ex,d,c,⟨o,eo⟩,ha⟩:=mJ h;obtain⟨Y,g2⟩:=path_at J;refine s0 b F σ H ρ τ θ _ r T R J λv u f ch=>?_;rw[ex]at g2 ch;obtain⟨A,a0,rfl,m⟩:=R.cell Y g2 f ch;refine⟨.inl ⟨rfl,a0,SqL.of m⟩,?_⟩;obtain⟨L,I⟩:=R.wf.get (join_some eo);obtain⟨vs,w,t,M⟩:=Rel.za (Rel.push R R.wd.hole) Y g2 f ch d;refine⟨L,I,A,vs,L,rfl,rfl,w,t,?_⟩;obtain⟨s,B,U⟩:=ha L;obtain⟨a,a2⟩:=z;refine s2 b F σ _ _ (L::τ) (.rf j::θ) ⟨λp=>a=.nx/\p=s,λo p=>a=.rt o/\p=s,λp=>a=.bk/\p=s,λp=>a=.ct/\p=s⟩ _ T (λr hr=>?_) ⟨M.wf,⟨I,M.al⟩,M.wff,M.wd⟩ ⟨(a,s),B,by cases a<;>exact⟨rfl,rfl⟩⟩ ⟨λy l p g ⟨O,Z⟩=>?_,λy l p g ⟨O,Z⟩=>?_,λy l p g ⟨O,Z⟩=>?_,λy l p v o g ⟨O,Z⟩=>?_⟩
  ·rcases aaa.mp hr with rfl|hr
   ·simp
   ·exact(n r hr).imp id λ⟨k,P,ek⟩=>⟨k,.inl P,ek⟩
  ·subst O Z;exact E.nx y l _ (g.fill U) q
  ·subst O Z;exact E.bk y l _ (g.fill U) q
  ·subst O Z;exact E.ct y l _ (g.fill U) q
  ·subst O Z;exact E.rt y l _ v o (Rel.fill (Rel.zv (vs:=[v]) (rs:=[.val o]) g rfl) U) q⟩
theorem PDe.ex{K:Waa}{Y:CC->Cx}(T:∀c,(Y c).K=K)(h:∀c,PDe (Y c) e d):∃g:CC->TE,∀c,PE (Y c) e (g c)/\bI K (g c) d:=
 abQ (r:=λc g=>PE (Y c) e g/\bI K g d) λc=>(by obtain⟨o,O,f⟩:=h c;exact⟨o,O,T c▸f⟩)
theorem Dt.sc{K:Waa}(h:Dt K H v d)(e:GS d=true):Sc v d:=by cases h<;>first|constructor|cases e
theorem Rel.growD(R:Rel b F σ H ρ (v::(vs++[.ref D])) (.val (.fz d)::(rs++[.val (.dic ks xs)])))(u:vs.length=rs.length):
  ∃ws,H D=some (.dK ws)/\ws.length=xs.length/\Rel b F σ (upd H D (.dK (putK ws kk v))) ρ (vs++[.ref D]) (rs++[.val (.dic (putKey kk d ks xs).1 (putKey kk d ks xs).2)]):=by
 have M:=R.drop;have J:∀y:OD,stk (vs++[.ref D]) (rs++[.val y])=stk vs rs++[(.ref D,y)]:=λy=>by rw[aH u];rfl
 have w:Wd b H ((v,.fz d)::((stk vs rs++[(.ref D,.dic ks xs)])++(flat σ ρ++ff F))):=by
  have:=R.wd;simp only[stk]at this
  grind
 have X:Wd b H ([v].zip [OD.fz d]++((.ref D,.dic ks xs)::(stk vs rs++(flat σ ρ++ff F)))):=w.perm (by
  simp)
 obtain⟨a,ws,N,i,x,t,h⟩:=X.sx (ks:=[]) rfl rfl;cases N;subst x;refine⟨ws,i,t,M.wf,?_,M.wff,?_⟩
 ·obtain⟨I,_⟩:=(aS u).mp M.al;exact(aS u).mpr ⟨I,trivial⟩
 ·rw[J];refine(h (putK ws kk v) _ _ (k7 (d:=d) t) λS H A C s O Z Q=>i6 O Z Q).perm ?_;rw[aab];exact aav.symm
section
variable{mt:Tg}
theorem xk{Y:Type}(step:Y->PyData->DEnv->Option (Y×DEnv))(ds:List PyData)(w:Y×DEnv)(k:Nat){out:Y}(W:ds[k]?=some d)(h:fq step (ds.drop k) out ρ=some w):∃z,step out d ρ=some z/\fq step (ds.drop (k+1)) z.1 z.2=some w:=by
 have T:=(aah.mp W).1;have e:ds.drop k=d::ds.drop (k+1):=by rw[abw T,(aah.mp W).2]
 rw[e]at h;exact bnd h
theorem Ah{K:Waa}(f:bI K tk (aF C mk'))(Z:bI K tv (aF C mv')):SndY (λz:List Key×List OD=>.dic z.1 z.2) (λz=>z.2.length) K (zd tk tv) (λo ρ Q=>∃w,dAct C mk' mv' o ρ=some w/\Q w.1 w.2):=by
 intro b F L H ρ c rs D v Qd Q T u d R h q;obtain⟨w,h,O⟩:=h;obtain⟨x,y,U,a,W,J,B,s,n,g,h⟩:=bn5 h;cases h;refine f b F L H ρ _ _ (λr p=>r=x.1/\p=x.2) _ T R ⟨x,J,rfl,rfl⟩ λe P r A M m=>?_;obtain⟨rfl,rfl⟩:=m;refine Z b F L P _ _ _ (λr p=>r=y.1/\p=y.2) _ T M ⟨y,B,rfl,rfl⟩ λj N r k t m=>?_;obtain⟨rfl,rfl⟩:=m;have Y:=t.dt2 s;have l:e=kV a:=by cases U<;>cases n<;>cases Y<;>rfl
 subst l;obtain⟨X,i,hl,I⟩:=Rel.growD (Rel.ez (t.frz1 g)) u;have S:v.2.length<1000000:=d;exact⟨_,⟨X,a,i,rfl,aas (by omega) (by decide:1000001<=sizeLine),rfl⟩,q _ _ _ I (by
  show (putKey a W.1 v.1 v.2).2.length<=v.2.length+1;unfold putKey;split
  ·rw[List.length_zipWith];omega
  ·rw[aaj];exact aac _) O⟩
theorem HP{t:List Key×List OD->DEnv->Option ((List Key×List OD)×DEnv)}{f I:CC->TE}(hw:¬ W i)(hp:∀{Z:TI}{g:CC->TG}{tc:CC->TC},PI X tg iter Z->(∀c,PG (cC X N scope c) tg (g c))->(∀c D,vF (cC X N scope c) D [] kx vx (tc c))->PS X (.Assign [.Name y py] (.DictComp kx vx [⟨tg,iter,[],0⟩] scope pos) spos) (nU (vE Z nt fr g tc) (iB i)))(U:∀c:CC,(cC X N scope c).A.units+1<cLine)(r:PDi X tg iter (gF C mi))(hg:∀c:CC,PDg (cC X N scope c) Ff nt tg (i4 mt))(hk:∀c:CC,PE (cC X N scope c) kx (f c))(hv:∀c:CC,PE (cC X N scope c) vx (I c))(j:∀c,SndY (λz:List Key×List OD=>.dic z.1 z.2) (λz=>z.2.length) X.K (zd (f c) (I c)) (λo ρ Q=>∃w,t o ρ=some w/\Q w.1 w.2)):
  PDs X W (.Assign [.Name y py] (.DictComp kx vx [⟨tg,iter,[],0⟩] scope pos) spos) (λD ρ=>∃x,((tU C mi ρ).bind λx=>(gd (x.1.length<1000000)).bind λ_=>(cD x.2 fr).bind λz=>(fq (λo d ρ=>(bj mt (.fz d) ρ).bind λρ1=>t o ρ1) x.1 ([],[]) (List.replicate nt none++z.1)).bind λw=>(gd (i<(ei z.2 fr (w.2.drop nt)).length)).bind λ_=>some (Fl.nx,(ei z.2 fr (w.2.drop nt)).set i (some (OD.dic w.1.1 w.1.2))))=some x/\Ef D x.2 x.1):=by
 obtain⟨Z,O,s1⟩:=r;obtain⟨g,a1⟩:=PDg.ex (Y:=λc=>cC X N scope c) (λ_=>rfl) hg;refine⟨_,hp O (λc=>(a1 c).1) (λc D=>oz (U c) (hk c) (hv c)),λb F L H ρ τ S Dd D T n R ⟨z,h,q⟩ E=>?_⟩;obtain⟨w,_,ca,o,_,e1,hz,B,s,r,h⟩:=bn5 h;cases h;refine s1 b F L H ρ τ S (λds p=>ds=w.1/\p=w.2) _ T R ⟨w,e1,rfl,rfl⟩ λJ P ds ρ1 vs rs el e M it m=>?_;obtain⟨rfl,rfl⟩:=m;refine mB (Q:=λx P=>D.nx (L.set i (some x)) P) (a0:=([],[])) (Iv:=λk v ρ=>fq (λo d ρ=>(bj mt (.fz d) ρ).bind λρ1=>t o ρ1) (w.1.drop k) v ρ=some o) (λw h=>w.w7 h) rfl (λc=>(a1 c).2) j T el e M it (gd_ok hz) B s (λk d v ρ hd a=>by
  obtain⟨u,U,a2⟩:=xk _ _ _ k hd a;obtain⟨ρ1,e4,U⟩:=bnd U;exact⟨ρ1,e4,u,U,a2⟩) λl D' v p R' a=>by
  have a:=a;rw[abS]at a;cases a;exact E.nx _ _ _ (Rel.store (Rel.drops (Rel.zb R' el) el) n (gd_ok r) hw) q
theorem HQ(Q:¬ W i)(a:X.N.Nodup)(m:X.N[i]?=some y)(t:X.env.scope.names.lookup y=some .local)(U:X.calm=true)(S:CompScope N nt fr X.N scope X.env.scope)(g:∀x,foldedSetIterable iter X.env x=pure x)
  (w:swapsWith (.DictComp kx vx [⟨tg,iter,[],0⟩] scope pos) (some (.Name y py)) spos.line X.env=pure true) (n:∀c:CC,(cC X N scope c).A.units+1<cLine) (r:PDi X tg iter (gF C mi)) (j:∀c:CC,PDg (cC X N scope c) Ff nt tg (i4 mt)) (hk:∀c:CC,PDe (cC X N scope c) kx (aF C mk')) (o:∀c:CC,PDe (cC X N scope c) vx (aF C mv')):PDs X W (.Assign [.Name y py] (.DictComp kx vx [⟨tg,iter,[],0⟩] scope pos) spos) (gH C (.sdc i nt fr mi mt mk' mv')):=by
 obtain⟨f,l⟩:=PDe.ex (K:=X.K) (Y:=λc=>cC X N scope c) (λ_=>rfl) hk;obtain⟨I,P⟩:=PDe.ex (K:=X.K) (Y:=λc=>cC X N scope c) (λ_=>rfl) o;exact HP Q (λO Z M=>vG a m t U S O Z M g w) n r j (λc=>(l c).1) (λc=>(P c).1) λc=>Ah (l c).2 (P c).2
end
end
section
section
variable(t:Tb)
mutual
noncomputable def xl:E->Ck
 |.nm i=>λN sc e=>BK N sc i e
 |.int k=>λN sc e=>(j8 e).any λj=>decide (j=k)
 |.ix a b=>λN sc e=>(eC e).any λz=>!bN z.2&&xl a N sc z.1&&xl b N sc z.2
 |.tup es=>λN sc e=>(cR e).any λxs=>xm es N sc xs
 |.pg i ps=>λN sc e=>cO t N sc i ps e
 |_=>λ_ _ _=>false
noncomputable def xm:Es->List Str->Scope->List Expr->Bool
 |.nil=>λN sc xs=>xs.isEmpty
 |.cons a es=>λN sc xs=>(mS xs).any λz=>!isStar z.1&&xl a N sc z.1&&xm es N sc z.2
end
end
mutual
theorem IZ:∀(m:E) X e,Cy t C X->xl t m X.N X.env.scope e=true->PDq X e (kU C m)
 |.nm i,X,e,c,h=>by obtain⟨x,p,rfl,h⟩:=i9 h;obtain⟨O,Z,M,F⟩:=bJ h;exact Kz O Z M F
 |.int k,X,e,c,h=>by obtain⟨j,O,h⟩:=anyT h;obtain⟨_,_,rfl⟩:=asInt_ok O;have:=Daa h;subst this;exact Hv
 |.ix a b,X,e,c,h=>by obtain⟨q,O,h⟩:=anyT h;obtain⟨_,rfl⟩:=asSub_ok O;obtain⟨I,A,H⟩:=an3 h;exact KB (kX (bt I)) (IZ a X _ c A) (IZ b X _ c H)
 |.tup es,X,e,c,h=>by obtain⟨q,O,h⟩:=anyT h;obtain⟨_,_,rfl⟩:=asTup_ok O;exact Hw (HR es X _ c h)
 |.pg i ps,X,e,c,h=>KA (aX c ps _ h)
 |.mv _,X,e,c,h|.str _,X,e,c,h|.bl _,X,e,c,h|.non,X,e,c,h|.gc _,X,e,c,h|.bop _ _ _,X,e,c,h|.cat _ _,X,e,c,h|.rep _ _,X,e,c,h|.cmp _ _ _,X,e,c,h|.cmp2 _ _ _ _ _,X,e,c,h|.isn _ _,X,e,c,h|.and _ _,X,e,c,h|.or _ _,X,e,c,h|.not _,X,e,c,h|.neg _,X,e,c,h|.ife _ _ _,X,e,c,h|.lst _,X,e,c,h|.call _ _,X,e,c,h|.callS _ _,X,e,c,h|.blt _ _,X,e,c,h|.bnw _ _,X,e,c,h|.isi _ _,X,e,c,h|.idx _ _,X,e,c,h|.dgt _ _,X,e,c,h|.dnew,X,e,c,h|.pf _ _,X,e,c,h|.pl _ _,X,e,c,h|.pt _ _,X,e,c,h|.pin _ _ _ _,X,e,c,h|.din _ _ _ _,X,e,c,h|.comp _ _ _ _ _ _,X,e,c,h|.meth _ _ _ _ _,X,e,c,h|.make _ _ _,X,e,c,h=>by trivial
theorem HR:∀(m:Es) X xs,Cy t C X->xm t m X.N X.env.scope xs=true->PDqs X xs (oN C m)
 |.nil,X,xs,c,h=>by
  cases xs with
  |nil=>exact Ej
  |cons _ _=>cases h
 |.cons a es,X,xs,c,h=>by obtain⟨z,O,h⟩:=anyT h;have:=con1_ok O;subst this;obtain⟨I,A,H⟩:=an3 h;exact zU (bt I) (IZ a X _ c A) (HR es X _ c H)
end
def xn(e:PySem.Stmt):Option (Expr):=if h:e.ctorIdx=24 then some (@PySem.Stmt.Expr.elim (λ_=>Expr) e h λx _=>x) else none
theorem qS(h:xn e=some z):∃p,e=.Expr z p:=by
 by_cases U:e.ctorIdx=24
 ·revert h;exact@PySem.Stmt.Expr.elim (λe=>xn e=some z->∃p,e=.Expr z p) e U λx p h=>by cases h;simp
 ·rw[xn,dif_neg U]at h;cases h
def Ai(e:PySem.Stmt):Option (List Expr×Expr):=if h:e.ctorIdx=5 then some (@PySem.Stmt.Assign.elim (λ_=>List Expr×Expr) e h λd x _=>(d,x)) else none
theorem asAs_ok(h:Ai e=some z):∃p,e=.Assign z.1 z.2 p:=by
 by_cases U:e.ctorIdx=5
 ·revert h;exact@PySem.Stmt.Assign.elim (λe=>Ai e=some z->∃p,e=.Assign z.1 z.2 p) e U λd x p h=>by cases h;exact⟨p,rfl⟩
 ·rw[Ai,dif_neg U]at h;cases h
def ui(e:PySem.Stmt):Option (Expr×Operator×Expr):=if h:e.ctorIdx=7 then some (@PySem.Stmt.AugAssign.elim (λ_=>Expr×Operator×Expr) e h λt o x _=>(t,o,x)) else none
theorem asAu_ok(h:ui e=some z):∃p,e=.AugAssign z.1 z.2.1 z.2.2 p:=by
 by_cases U:e.ctorIdx=7
 ·revert h;exact@PySem.Stmt.AugAssign.elim (λe=>ui e=some z->∃p,e=.AugAssign z.1 z.2.1 z.2.2 p) e U λt o x p h=>by cases h;exact⟨p,rfl⟩
 ·rw[ui,dif_neg U]at h;cases h
def Aj(e:PySem.Stmt):Option (Option Expr):=if h:e.ctorIdx=3 then some (@PySem.Stmt.Return.elim (λ_=>Option Expr) e h λo _=>o) else none
theorem Ak(h:Aj e=some z):∃p,e=.Return z p:=by
 by_cases U:e.ctorIdx=3
 ·revert h;exact@PySem.Stmt.Return.elim (λe=>Aj e=some z->∃p,e=.Return z p) e U λo p h=>by cases h;simp
 ·rw[Aj,dif_neg U]at h;cases h
def Am(e:PySem.Stmt):Option (Expr×List Stmt×List Stmt):=if h:e.ctorIdx=12 then some (@PySem.Stmt.If.elim (λ_=>Expr×List Stmt×List Stmt) e h λc a b _=>(c,a,b)) else none
theorem An(h:Am e=some z):∃p,e=.If z.1 z.2.1 z.2.2 p:=by
 by_cases U:e.ctorIdx=12
 ·revert h;exact@PySem.Stmt.If.elim (λe=>Am e=some z->∃p,e=.If z.1 z.2.1 z.2.2 p) e U λc a b p h=>by cases h;simp
 ·rw[Am,dif_neg U]at h;cases h
def Ao(e:PySem.Stmt):Option (Expr×List Stmt×List Stmt):=if h:e.ctorIdx=11 then some (@PySem.Stmt.While.elim (λ_=>Expr×List Stmt×List Stmt) e h λc a b _=>(c,a,b)) else none
theorem Ap(h:Ao e=some z):∃p,e=.While z.1 z.2.1 z.2.2 p:=by
 by_cases U:e.ctorIdx=11
 ·revert h;exact@PySem.Stmt.While.elim (λe=>Ao e=some z->∃p,e=.While z.1 z.2.1 z.2.2 p) e U λc a b p h=>by cases h;simp
 ·rw[Ao,dif_neg U]at h;cases h
def Aq(e:PySem.Stmt):Option (Expr×Expr×List Stmt×List Stmt):=if h:e.ctorIdx=9 then some (@PySem.Stmt.For.elim (λ_=>Expr×Expr×List Stmt×List Stmt) e h λg i a b _=>(g,i,a,b)) else none
theorem Ar(h:Aq e=some z):∃p,e=.For z.1 z.2.1 z.2.2.1 z.2.2.2 p:=by
 by_cases U:e.ctorIdx=9
 ·revert h;exact@PySem.Stmt.For.elim (λe=>Aq e=some z->∃p,e=.For z.1 z.2.1 z.2.2.1 z.2.2.2 p) e U λg i a b p h=>by cases h;exact⟨p,rfl⟩
 ·rw[Aq,dif_neg U]at h;cases h
def HS(s:Stmt):Bool:=decide (s.ctorIdx=27)
theorem As(h:HS s=true):∃p,s=.Continue p:=@Stmt.Continue.elim (λs=>∃p,s=.Continue p) s (Daa h) λp=>⟨p,rfl⟩
def ll(s:Stmt):Option (Expr×Expr):=(Ai s).bind λz=>(fg z.1).bind λt=>some (t,z.2)
theorem asg1_ok{z}(h:ll s=some z):∃p,s=.Assign [z.1] z.2 p:=by
 obtain⟨c,t,O,Z,h⟩:=bn2 h;cases h;obtain⟨d,e⟩:=c;obtain⟨p,rfl⟩:=asAs_ok O;have:=one1_ok Z
 grind
def qT(s:Stmt):Option (Expr×Expr×Pos×Pos):=(xn s).bind λe=>(fG e).bind λz=>(fU z.1).bind λa=>(fg z.2.1).bind λx=>if z.2.2.1.isEmpty&&sEq a.2.1 "append" then some (a.1,x,a.2.2,z.2.2.2) else none
theorem jg{z}(h:qT s=some z):∃p,s=.Expr (.Call (.Attribute z.1 "append" z.2.2.1) [z.2.1] [] z.2.2.2) p:=by
 obtain⟨e,c,a,x,O,Z,M,F,h⟩:=bn4 h;obtain⟨f,Y,C,q⟩:=c;obtain⟨o,m,N⟩:=a;cases U:(C.isEmpty&&sEq m "append") with
 |false=>simp only[U]at h;cases h
 |true=>
  simp only[U]at h;cases h;have l:=asAtt_ok M;have n:=one1_ok F;have S:=bu (an2 U).2;cases C with
  |cons _ _=>cases U
  |nil=>simp only at l n;subst S;subst n;subst l;obtain⟨p,rfl⟩:=qS O;exact⟨p,by rw[eS Z]⟩
def cmpE:E->Bool
 |.comp _ _ _ _ _ _=>true|_=>false
def setB(t:Tb)(U:Nat->Bool)(N:List Str)(sc:Scope)(i:Nat)(m:E)(x:Str)(p:Pos)(e:Expr):Bool:=mT U N sc true N.length i x&&(aU t m).1 N sc e&&match oP e with
 |some z=>!swC sc x p z.2.2.2 z.2.2.1||cmpE m
 |none=>!eB e
def xo(e:PySem.Expr):Option (Str×Pos):=if h:e.ctorIdx=23 then some (@PySem.Expr.Name.elim (λ_=>Str×Pos) e h λx p=>(x,p)) else none
theorem qU(h:xo e=some z):e=.Name z.1 z.2:=by
 by_cases U:e.ctorIdx=23
 ·revert h;exact@PySem.Expr.Name.elim (λe=>xo e=some z->e=.Name z.1 z.2) e U λx p h=>by cases h;rfl
 ·rw[xo,dif_neg U]at h;cases h
section
variable(t:Tb)
mutual
noncomputable def HU(U:Nat->Bool):S'->List Str->Scope->Stmt->Bool
 |.ex m=>λN sc s=>(xn s).any λe=>!eB e&&(aU t m).1 N sc e
 |.set i m=>λN sc s=>(ll s).any λz=>(xo z.1).any λx=>setB t U N sc i m x.1 x.2 z.2
 |.asg g m=>λN sc s=>(ll s).any λz=>isTup z.1&&BO z.1 z.2 sc&&(aU t m).1 N sc z.2&&wY U N sc true N.length g z.1
 |.par is ms=>λN sc s=>(ll s).any λz=>(cR z.1).any λd=>(cR z.2).any λvs=>fY t ms N sc vs&&decide (IY d vs sc=some (some (ug d sc)))&&(match is with
  |[i,j]=>(kR d).any λw=>(kR vs).any λ_=>(bS w.1).any λx=>(bS w.2).any λy=>decide (ug d sc=[x,y])&&decide (i≠j)&&(decide (N[i]?=some x)&&decide (N[j]?=some y))&&(kindB sc x .local&&kindB sc y .local)&&(U i&&U j)
  |[i,j,k]=>(zK d).any λw=>(zK vs).any λ_=>(bS w.1).any λx=>(bS w.2.1).any λy=>(bS w.2.2).any λz=>decide (ug d sc=[x,y,z])&&(decide (i≠j)&&decide (i≠k)&&decide (j≠k))&&(decide (N[i]?=some x)&&decide (N[j]?=some y)&&decide (N[k]?=some z))&&(kindB sc x .local&&kindB sc y .local&&kindB sc z .local)&&(U i&&U j&&U k)
  |_=>false)
 |.aug i o m=>λN sc s=>(ui s).any λz=>(bS z.1).any λx=>IV o z.2.1&&mT U N sc true N.length i x&&(aU t m).1 N sc z.2.2
 |.agl i m=>λN sc s=>(ui s).any λz=>(bS z.1).any λx=>Ey z.2.1&&mT U N sc true N.length i x&&(aU t m).1 N sc z.2.2
 |.ret m=>λN sc s=>(Aj s).any λo=>o.any λe=>(aU t m).1 N sc e
 |.iff c a b=>λN sc s=>(Am s).any λz=>(aU t c).2 N sc z.1&&gX U a N sc z.2.1&&gX U b N sc z.2.2
 |.whl c b=>λN sc s=>(Ao s).any λz=>(aU t c).2 N sc z.1&&gX U b N sc z.2.1&&z.2.2.isEmpty
 |.fr g it b=>λN sc s=>(Aq s).any λz=>!isSet z.2.1&&Af t it N sc z.1 z.2.1&&wY U N sc true N.length g z.1&&gX U b N sc z.2.2.1&&z.2.2.2.isEmpty
 |.cont=>λN sc s=>HS s
 |.app i m=>λN sc s=>(qT s).any λz=>(bS z.1).any λx=>uG N sc i x&&(z.2.2.1.endLine==z.2.2.2.line)&&!isStar z.2.1&&(aU t m).1 N sc z.2.1
 |.apd i ps m=>λN sc s=>(qT s).any λz=>!isCall z.1&&(z.2.2.1.endLine==z.2.2.2.line)&&!isStar z.2.1&&cO t N sc i ps z.1&&xl t m N sc z.2.1
 |.sti i k m=>λN sc s=>(ll s).any λz=>(eC z.1).any λw=>(bS w.1).any λx=>uG N sc i x&&!bN w.2&&!eB z.2&&(aU t m).1 N sc z.2&&(aU t k).1 N sc w.2
 |.sdk i k m=>λN sc s=>(ll s).any λz=>(eC z.1).any λw=>(bS w.1).any λx=>uG N sc i x&&!eB z.2&&(aU t m).1 N sc z.2&&(aU t k).1 N sc w.2
 |.std i ps j m=>λN sc s=>(ll s).any λz=>(eC z.1).any λw=>!eB z.2&&cO t N sc i ps w.1&&BK N sc j w.2&&(aU t m).1 N sc z.2
 |.sdc i nt fr it tg ke ve=>λN sc s=>(ll s).any λz=>(xo z.1).any λx=>(BL z.2).any λw=>(λn=>mT U N sc true N.length i x.1&&qJ n nt fr N w.2.2.2.2.2.1 sc&&!isSet w.2.2.2.1&&Af t it N sc w.2.2.1 w.2.2.2.1&&swC sc x.1 x.2 w.2.2.2.2.2.2 w.2.2.2.2.2.1&&(decide n.Nodup&&w.2.2.2.2.1.isEmpty&&wY (λ_=>true) n (ue w.2.2.2.2.2.1 sc) false nt tg w.2.2.1&&(aU t ke).1 n (ue w.2.2.2.2.2.1 sc) w.1&&(aU t ve).1 n (ue w.2.2.2.2.2.1 sc) w.2.1)) (Et w.2.2.1++fr.filterMap λj=>N[j]?)
 |.stf i c f m=>λN sc s=>(ll s).any λz=>(fU z.1).any λw=>(bS w.1).any λx=>sEq w.2.1 f&&uG N sc i x&&t.fld c f&&!eB z.2&&(aU t m).1 N sc z.2
 |.agf i c f o m=>λN sc s=>(ui s).any λz=>(fU z.1).any λw=>(bS w.1).any λx=>sEq w.2.1 f&&IV o z.2.1&&uG N sc i x&&t.fld c f&&(aU t m).1 N sc z.2.2
noncomputable def gX(U:Nat->Bool):Ss->List Str->Scope->List Stmt->Bool
 |.nil=>λN sc s=>s.isEmpty
 |.cons m ms=>λN sc s=>(mS s).any λz=>HU U m N sc z.1&&gX U ms N sc z.2
 |.ali i ps j ms=>λN sc s=>(mS s).any λy=>(qT y.1).any λz=>(bS z.2.1).any λx=>!isCall z.1&&(z.2.2.1.endLine==z.2.2.2.line)&&cO t N sc i ps z.1&&uG N sc j x&&gX (λk=>U k&&!decide (k=j)) ms N sc y.2
end
end
structure Cs (t:Tb)(C:Ct)(W:Nat->Prop)(ok:Nat->Bool)(X:Cx):Prop where
 c:Cy t C X
 nd:X.N.Nodup
 fn:∀x,X.fn x=true
 pass:PassesOwn (model X.prog X.w) X.A X.env X.xe
 hw:∀i,ok i=true->¬ W i
theorem HV:swappedStores [.Subscript o i p] e env=pure none:=by rfl
theorem qV{J:Stmt}(h:PDs X W J (DQ is (fh C ms))):PDs X W J (gH C (.par is ms)):=h.imp λD I ⟨y,h,q⟩=>by obtain⟨z,o,_,Y,B,d,h⟩:=bn3 h;have d:=gd_ok d;cases h;exact⟨z,Y,o.1,o.2,B,d.1,d.2,q⟩
theorem EF(c:Cs t C W ok X){z}(n:oP e=some z)(s:Sto X W X.N.length i x)(Y:swC X.env.scope x p z.2.2.2 z.2.2.1=true)
  (h:(aU t (.comp nt fr it tg ifs el)).1 X.N X.env.scope e=true):PDx X i (.Assign [.Name x p] e pos) (aF C (.comp nt fr it tg ifs el)):=by
 have j:X.env.scope.names.lookup x=some .local:=by unfold swC at Y;have:=(yF Y).2.1;simpa using this
 obtain⟨w,O,h⟩:=anyT h;have J:=mV O;subst J;cases n;obtain⟨I,A,H,P,B⟩:=an5 h;obtain⟨y,Q,u⟩:=an3 B;exact EC c.nd s.hN j c.c.calm (jc I) (k8 (bt H)) (IX it X _ _ c.c P) (λq=>fW c.c.calm (Daa A) (λz=>by cases z) (λ_ _ z=>z) y) (λq=>Lk ifs (cC X _ w.2.2.2.2.1 q) _ _ c.c.comp (aY el) Q u) (by rw[xj,Y])
theorem Au(c:Cs t C W ok X)(h:setB t ok X.N X.env.scope i m x p e=true):PDs X W (.Assign [.Name x p] e pos) (gH C (.set i m)):=by
 obtain⟨O,Z,M⟩:=an3 h;have s:=eT (λ_=>c.fn) c.hw O;cases n:oP e with
 |none=>rw[n]at M;exact BH c.nd s (gJ (bt M)) ((aY m).v X _ c.c Z)
 |some z=>
  rw[n]at M;cases Y:swC X.env.scope x p z.2.2.2 z.2.2.1 with
  |false=>have J:=qD n;exact BH c.nd s (by rw[J,xj,Y]) ((aY m).v X _ c.c Z)
  |true=>
   have M:(!swC X.env.scope x p z.2.2.2 z.2.2.1||cmpE m)=true:=M;rw[Y]at M;have M:cmpE m=true:=M;cases m with
   |comp I q y f S u=>exact ED s.nw (EF c n s Y Z)
   |_=>cases M
mutual
theorem L6{W:Nat->Prop}{ok:Nat->Bool}:∀(m:S') X s,Cs t C W ok X->HU t ok m X.N X.env.scope s=true->PDs X W s (gH C m)
 |.ex m,X,s,c,h=>by obtain⟨e,O,r⟩:=anyT h;obtain⟨p,rfl⟩:=qS O;exact Kn (bt (an2 r).1) ((aY m).v X _ c.c (an2 r).2)
 |.set i m,X,s,c,h=>by obtain⟨z,x,O,Z,r⟩:=ay2 h;obtain⟨p,rfl⟩:=asg1_ok O;rw[qU Z];exact Au c r
 |.asg g m,X,s,c,h=>by
  obtain⟨z,O,r⟩:=anyT h;obtain⟨p,rfl⟩:=asg1_ok O;obtain⟨I,H,P,B⟩:=yF r;refine Hk ?_ (xi H) ?_ ((aY m).v X _ c.c P) (fW c.c.calm c.nd (λ_=>c.fn) c.hw B)
  ·obtain⟨_,_,_,e⟩:=fV I;rw[e];cases z.2<;>rfl
  obtain⟨_,_,_,e⟩:=fV I;rw[e];rfl
 |.par is ms,X,s,c,h=>by
  obtain⟨z,ts,vs,O,Z,M,r⟩:=ay3 h;obtain⟨p,rfl⟩:=asg1_ok O;obtain⟨z1,z2⟩:=z;obtain⟨k1,p1,J⟩:=asTup_ok Z;obtain⟨k2,p2,e2⟩:=asTup_ok M;simp only at J e2;subst J e2;obtain⟨I,A,r⟩:=an3 r;have Y:=Daa A
  match is,r with
  |[i,j],r=>
   obtain⟨w,u,x,y,b1,Q,b3,b4,r⟩:=ay4 r;have e3:=two2_ok b1;have n:=two2_ok Q;obtain⟨w1,w2⟩:=w;obtain⟨q1,F⟩:=asNm_ok b3;obtain⟨q2,S⟩:=asNm_ok b4;simp only at e3 n F S;subst F S;subst e3 n;obtain⟨l,c2,c3,c4,c5⟩:=an5 r;rw[Daa l]at Y;refine qV (zA (λk T=>?_) c.c.calm c.nd (Daa (an2 c3).1) (Daa (an2 c3).2) (Daa c2) (aM (an2 c4).1) (aM (an2 c4).2) (oT Y) rfl (yG ms X _ c.c I));rcases aaa.mp T with rfl|T
   ·exact c.hw _ (an2 c5).1
   ·rw[aaw.mp T];exact c.hw _ (an2 c5).2
  |[i,j,k],r=>
   obtain⟨w,u,x,y,z,b1,Q,b3,b4,b5,r⟩:=ay5 r;have e3:=thr3_ok b1;have n:=thr3_ok Q;obtain⟨w1,w2,w3⟩:=w;obtain⟨q1,F⟩:=asNm_ok b3;obtain⟨q2,S⟩:=asNm_ok b4;obtain⟨q3,e7⟩:=asNm_ok b5;simp only at e3 n F S e7;subst F S e7;subst e3 n;obtain⟨l,c2,c3,c4,c5⟩:=an5 r;obtain⟨d1,d2,d3⟩:=an3 c2;obtain⟨d4,d5,d6⟩:=an3 c3;obtain⟨d7,d8,d9⟩:=an3 c4;obtain⟨f1,f2,f3⟩:=an3 c5;rw[Daa l]at Y;refine qV (vX (λk T=>?_) c.c.calm c.nd (Daa d4) (Daa d5) (Daa d6) (Daa d1) (Daa d2) (Daa d3) (aM d7) (aM d8) (aM d9) (oT Y) rfl (yG ms X _ c.c I));rcases aaa.mp T with rfl|T
   ·exact c.hw _ f1
   ·rcases aaa.mp T with rfl|T
    ·exact c.hw _ f2
    ·rw[aaw.mp T];exact c.hw _ f3
  |[],r=>exact absurd r aaq
  |[_],r=>exact absurd r aaq
  |_::_::_::_::_,r=>exact absurd r aaq
 |.aug i o m,X,s,c,h=>by obtain⟨z,x,O,Z,r⟩:=ay2 h;obtain⟨p,rfl⟩:=asAu_ok O;obtain⟨q,e⟩:=asNm_ok Z;obtain⟨I,A,H⟩:=an3 r;rw[e,oQ I];exact Hm c.nd (eT (λ_=>c.fn) c.hw A) ((aY m).v X _ c.c H)
 |.agl i m,X,s,c,h=>by obtain⟨z,x,O,Z,r⟩:=ay2 h;obtain⟨p,rfl⟩:=asAu_ok O;obtain⟨q,e⟩:=asNm_ok Z;obtain⟨I,A,H⟩:=an3 r;rw[e,qP I];exact Hn c.nd (eT (λ_=>c.fn) c.hw A) ((aY m).v X _ c.c H)
 |.ret m,X,s,c,h=>by obtain⟨o,e,O,Z,r⟩:=ay2 h;obtain⟨p,rfl⟩:=Ak O;subst Z;exact Hj ((aY m).v X _ c.c r)
 |.iff z a b,X,s,c,h=>by obtain⟨q,O,r⟩:=anyT h;obtain⟨p,rfl⟩:=An O;obtain⟨I,A,H⟩:=an3 r;exact Ko ((aY z).t X _ c.c I) (oU a X _ c A) (oU b X _ c H)
 |.whl z b,X,s,c,h=>by
  obtain⟨q,O,r⟩:=anyT h;obtain⟨p,rfl⟩:=Ap O;obtain⟨I,A,H⟩:=an3 r;obtain⟨q1,q2,q3⟩:=q;cases q3 with
  |nil=>exact zR c.pass ((aY z).t X _ c.c I) (oU b X _ c A)
  |cons _ _=>cases H
 |.fr g it b,X,s,c,h=>by
  obtain⟨q,O,r⟩:=anyT h;obtain⟨p,rfl⟩:=Ar O;obtain⟨I,A,H,P,B⟩:=an5 r;obtain⟨q1,q2,q3,q4⟩:=q;cases q4 with
  |nil=>exact Hl c.pass c.c.calm (k8 (bt I)) (IX it X _ _ c.c A) (fW c.c.calm c.nd (λ_=>c.fn) c.hw H) (oU b X _ c P)
  |cons _ _=>cases B
 |.cont,X,s,c,h=>by obtain⟨p,rfl⟩:=As h;exact Eh
 |.app i m,X,s,c,h=>by obtain⟨z,x,O,Z,r⟩:=ay2 h;obtain⟨p,rfl⟩:=jg O;obtain⟨q,e⟩:=asNm_ok Z;obtain⟨I,A,H,P⟩:=yF r;obtain⟨d,n2,n3,U⟩:=bJ I;rw[e];exact Hx d n2 n3 U A (bt H) ((aY m).v X _ c.c P)
 |.apd i ps m,X,s,c,h=>by obtain⟨z,O,r⟩:=anyT h;obtain⟨p,rfl⟩:=jg O;obtain⟨I,A,H,P,B⟩:=an5 r;exact Hy (k9 (bt I)) A (bt H) (aX c.c ps _ P) (IZ m X _ c.c B)
 |.sti i k m,X,s,c,h=>by obtain⟨z,w,x,O,Z,M,r⟩:=ay3 h;obtain⟨p,rfl⟩:=asg1_ok O;obtain⟨q,e⟩:=asSub_ok Z;obtain⟨D,L⟩:=asNm_ok M;obtain⟨I,A,H,P,B⟩:=an5 r;obtain⟨d,n2,n3,U⟩:=bJ I;rw[e,L];exact Hz d n2 n3 U (bt A) (gJ (bt H)) HV ((aY m).v X _ c.c P) ((aY k).v X _ c.c B)
 |.sdk i k m,X,s,c,h=>by obtain⟨z,w,x,O,Z,M,r⟩:=ay3 h;obtain⟨p,rfl⟩:=asg1_ok O;obtain⟨q,e⟩:=asSub_ok Z;obtain⟨D,L⟩:=asNm_ok M;obtain⟨I,A,H,P⟩:=yF r;obtain⟨d,n2,n3,U⟩:=bJ I;rw[e,L];exact HA (by have:=c.c.units;lia) d n2 n3 U (gJ (bt A)) ((aY m).v X _ c.c H) ((aY k).v X _ c.c P)
 |.std i ps j m,X,s,c,h=>by obtain⟨z,w,O,Z,r⟩:=ay2 h;obtain⟨p,rfl⟩:=asg1_ok O;obtain⟨q,e⟩:=asSub_ok Z;obtain⟨I,A,H,P⟩:=yF r;rw[e];exact HB (by have:=c.c.units;lia) (gJ (bt I)) (aX c.c ps _ A) (wW H).1 ((aY m).v X _ c.c P)
 |.sdc i nt fr it tg ke ve,X,s,c,h=>by
  obtain⟨z,x,w,O,Z,M,r⟩:=ay3 h;obtain⟨p,rfl⟩:=asg1_ok O;obtain⟨k0,k1⟩:=an2 r;obtain⟨I,A,H,P,B⟩:=an5 k0;obtain⟨b1,Q,b3,b4,b5⟩:=an5 k1;have s:=eT (W:=W) (λ_=>c.fn) c.hw I;have hl:X.env.scope.names.lookup x.1=some .local:=by unfold swC at B;have:=(yF B).2.1;simpa using this
  rw[qU Z,xf M,List.isEmpty_iff.mp Q];exact HQ s.nw c.nd s.hN hl c.c.calm (jc A) (k8 (bt H)) (by show pure (swC X.env.scope x.1 x.2 w.2.2.2.2.2.2 w.2.2.2.2.2.1)=_;rw[B]) (λq=>by have:=(c.c.comp (q:=q) (N:=Et w.2.2.1++fr.filterMap λj=>X.N[j]?) (sc:=w.2.2.2.2.2.1)).units;lia) (IX it X _ _ c.c P) (λq=>fW (X:=cC X _ w.2.2.2.2.2.1 q) (fn:=false) c.c.calm (Daa b1) (λz=>by cases z) (λ_ _ z=>z) b3) (λq=>(aY ke).v (cC X _ w.2.2.2.2.2.1 q) _ c.c.comp b4) λq=>(aY ve).v (cC X _ w.2.2.2.2.2.1 q) _ c.c.comp b5
 |.stf i cn f m,X,s,c,h=>by obtain⟨z,w,x,O,Z,M,r⟩:=ay3 h;obtain⟨p,rfl⟩:=asg1_ok O;have e:=asAtt_ok Z;obtain⟨D,L⟩:=asNm_ok M;obtain⟨I,A,H,P,B⟩:=an5 r;obtain⟨d,n2,n3,U⟩:=bJ A;rw[e,L,bu I];exact HC d n2 n3 U (c.c.hfl _ _ H).1 (c.c.hfl _ _ H).2 (gJ (bt P)) ((aY m).v X _ c.c B)
 |.agf i cn f o m,X,s,c,h=>by obtain⟨z,w,x,O,Z,M,r⟩:=ay3 h;obtain⟨p,rfl⟩:=asAu_ok O;have e:=asAtt_ok Z;obtain⟨D,L⟩:=asNm_ok M;obtain⟨I,A,H,P,B⟩:=an5 r;obtain⟨d,n2,n3,U⟩:=bJ H;rw[e,L,bu I,oQ A];exact HD d n2 n3 U (c.c.hfl _ _ P).1 (c.c.hfl _ _ P).2 ((aY m).v X _ c.c B)
theorem oU:∀(m:Ss) X s,Cs t C W ok X->gX t ok m X.N X.env.scope s=true->PDss X W s (jR C m)
 |.nil,X,s,c,h=>by
  cases s with
  |nil=>exact Eg
  |cons _ _=>cases h
 |.cons m ms,X,s,c,h=>by obtain⟨z,O,r⟩:=anyT h;have:=con1_ok O;subst this;exact zQ (L6 m X _ c (an2 r).1) (oU ms X _ c (an2 r).2)
 |.ali i ps j ms,X,s,c,h=>by obtain⟨y,z,x,u,O,Z,r⟩:=ay3 h;have:=con1_ok u;subst this;obtain⟨p,J⟩:=jg O;obtain⟨q,e⟩:=asNm_ok Z;obtain⟨I,A,H,P,B⟩:=an5 r;obtain⟨d,a,o,U⟩:=bJ P;rw[J,e];exact EE (k9 (bt I)) A d a o U (aX c.c ps _ H) (oU ms X _ ⟨c.c,c.nd,c.fn,c.pass,λk T z=>z.elim (c.hw k (an2 T).1) (Dad (bt (an2 T).2))⟩ B)
end
end
section
structure Df where
 name:Str
 qual:Str
 st:Stmt
 ps:List Str
 N:List Str
 fn:Fn
def EG(N ps:List Str)(sc:Scope):Bool:=decide (sc.kind=.function)&&!sc.isCoroutine&&!sc.isGenerator&&decide N.Nodup&&decide (N.take ps.length=ps)&&ps.all (λx=>z8 sc x)&&sc.names.all λy=>!decide (y.2=.free)
theorem Av(h:EG N ps sc=true):FnScope N ps sc:=by unfold EG at h;simp only[aaC,abh,abx,decide_eq_true_eq,decide_eq_false_iff_not]at h;obtain⟨⟨⟨⟨⟨⟨O,Z⟩,M⟩,I⟩,J⟩,L⟩,H⟩:=h;exact⟨O,Z,M,I,J,λx F=>qH (L x F),H⟩
noncomputable def oV(ios:List Bool)(i:Nat):Bool:=!decide (ios[i]?=some true)
def Aw(t:Tb)(d:Df):Bool:=EG d.N d.ps (aK d.st)&&decide (d.fn.io.length=d.ps.length)&&decide (d.fn.n=d.N.length)&&gX t (oV d.fn.io) d.fn.body d.N (aK d.st) (bC d.st)
structure Md (K:Waa)(mg:Str->Option Value)(t:Tb)(p:Pg)(D:Nat->Option Df)(w:World):Prop where
 df:∀j d,D j=some d->p.F j=some d.fn/\Aw t d=true/\∃f fd,Fun K d.name d.qual d.st f fd/\Binds K fd d.ps [] /\
  (∀nm,t.fn j=some nm->mg nm=some (.ref f)/\PySem.W.keepIn K (.ref f)=true)/\(∀c m,t.me j=some (c,m)->Cls K (av K c)/\Meth K (av K c) m f)/\(∀c,t.mk' j=some c->Mk K (av K c) f/\mg c=some (.ref (av K c)))
 all:∀j,((t.fn j).isSome||(t.me j).isSome||(t.mk' j).isSome)=true->(D j).isSome=true
 gc:∀g nm,t.gc g=some nm->∃v u,mg nm=some u/\RelV v u/\∀S H,Fz K S H v (p.gv g)
 ng:∀x,t.nog x=true->mg x=none
 fl:∀c f,t.fld c f=true->Cls K (av K c)/\NoAttr K (av K c) f
 kd:∀x kvs,t.kd x kvs=true->∃d,mg x=some (.ref d)/\KDict K w d kvs
section
variable{K:Waa}
theorem mW(h:∀xs Q,¬ sp xs Q):FnD P w K mg base k f fd ps sp:=by have C:∀c H Q E,¬ toSp K sp c H Q E:=λc H Q E ⟨S,xs,A,_,_,_,_,z⟩=>h _ _ z;exact⟨⟨λc H Q E z=>(C _ _ _ _ z).elim,λA M s H b y c Q E _ _ _ _ z=>(C _ _ _ _ z).elim⟩,λxs P R _ z=>(h _ _ z).elim⟩
theorem mX(h:∀xs,g xs=none):∀xs Q,¬ spC g xs Q:=λxs Q ⟨w,e,_⟩=>by grind
theorem Md.ok(M:Md K mg t p D w):∀(n:Nat),(∀(j:Nat) (d:Df),D j=some d->∀(f:Addr) (U:FuncData),Fun K d.name d.qual d.st f U->FnD P w K mg base (n+1) f U d.ps (spC (p.call n j))) /\
  (∀(j:Nat) (d:Df),D j=some d->∀(f:Addr) (U:FuncData),Fun K d.name d.qual d.st f U->FnD P w K mg base n f U d.ps (spC (p.mak n j)))
 |0=>⟨λj d _ f U _=>mW (mX λ_=>rfl),λj d _ f U _=>mW (mX λ_=>rfl)⟩
 |n+1=>by
  obtain⟨I,a1⟩:=Md.ok M n;refine⟨λj d W f U F=>?_,λj d W f U F=>I j d W f U F⟩;obtain⟨O,Z,_⟩:=M.df j d W;unfold Aw at Z;simp only[aaC,decide_eq_true_eq]at Z;obtain⟨⟨⟨g1,l⟩,g3⟩,g4⟩:=Z;have S:=Av g1;refine F.okD (ios:=d.fn.io) S (wJ _) l (λY Q ⟨z,e,_⟩=>?_) λL A a0 s H E hr Y Q ⟨z,e,q⟩=>?_
  ·rw[Pg.en,O]at e
   grind
  ·have c:Cy t (p.ct n) (kC CX0 P w K mg base d.N d.qual (aK d.st) f L A a0 s H E).xc:=by
    refine⟨rfl,hr.units,hr.gd,λu nm h=>?_,λu c m h=>?_,λu c h=>?_,M.gc,M.ng,M.fl,M.kd⟩
    ·obtain⟨k,T⟩:=aa2.mp (M.all u (by grind));obtain⟨_,_,v,y,a,X,C,_,_⟩:=M.df u k T;exact⟨n+1,v,y,k.ps,I u k T v y a,hr,(C nm h).1,(C nm h).2,X⟩
    ·obtain⟨k,T⟩:=aa2.mp (M.all u (by grind));obtain⟨_,_,v,y,a,X,_,b,_⟩:=M.df u k T;exact⟨(b c m h).1,n+1,v,y,k.ps,(b c m h).2,I u k T v y a,hr,X⟩
    ·obtain⟨k,T⟩:=aa2.mp (M.all u (by grind));obtain⟨_,_,v,y,a,X,_,_,g⟩:=M.df u k T;exact⟨n,v,y,k.ps,(g c h).1,a1 u k T v y a,hr,(g c h).2,X⟩
   have cs:Cs t (p.ct n) (WS d.fn.io) (oV d.fn.io) (kC CX0 P w K mg base d.N d.qual (aK d.st) f L A a0 s H E).xc:=
    ⟨c,S.nd,λ_=>rfl,PassesOwn.never,λi r z=>by
     unfold oV at r;simp only[abx,decide_eq_false_iff_not]at r
     trivial⟩
   refine⟨_,oU d.fn.body _ _ cs g4,?_⟩;rw[Pg.en,O]at e;simp only at e;split at e
   ·unfold wx at e;obtain⟨x,J,e⟩:=bnd e;rw[g3]at J;refine⟨x,J,?_⟩;obtain⟨fl,ρ⟩:=x;cases fl with
    |nx=>obtain⟨ys,B,e⟩:=bnd e;cases e;exact⟨ys,B,q⟩
    |rt o=>obtain⟨ys,B,e⟩:=bnd e;cases e;exact⟨ys,B,q⟩
    |bk=>cases e
    |ct=>cases e
   ·cases e
theorem Md.law(M:Md K mg t p D w){n j:Nat}{d:Df}{f:Addr}{U:FuncData}(W:D j=some d)(F:Fun K d.name d.qual d.st f U)
  (h:∀ns:List Int,ns.length<=63->∃ys,p.call n j [.fz (.list (ns.map PyData.int))]=some (.fz (.bool true),ys)):
  FnOk P w K mg base CX0 (n+1) f U d.ps (λvs H Q _=>∃(a:Addr) (ns:List Int),vs=[.ref a]/\SqL K H a (ns.map V.int)/\ns.length<=63/\∀l,Q (.bl true) l):=by
 refine((M.ok (P:=P) (w:=w) (base:=base) n).1 j d W f U F).ok.imp λvs H Q E N=>?_;obtain⟨a,ns,rfl,g,u,q⟩:=N;obtain⟨ys,m⟩:=h ns u;refine⟨λ_=>False,[.fz (.list (ns.map PyData.int))],[],λa z=>z.elim,λ_ _ _ z=>z,Ows.cons (A:=[]) (B:=[]) (.fz ((Fz.of0 (.lst g (DtAll.ints ns))).sub λc z=>z.elim (λz=>by cases z) id)) .nil,abd,_,m,λv l B _ y _ _=>?_⟩;cases y with
 |cons r _=>
  cases r with
  |fz f=>cases f;exact q l
end
end
section
inductive Kd where|fn|me (c:Str)|ini (c:Str)
def Kd.fn?(d:Df):Kd->Option Str|.fn=>some d.name|_=>none
noncomputable def Kd.me?(d:Df):Kd->Option (Str×Str)|.me c=>some (c,d.name)|_=>none
def Kd.ini?:Kd->Option Str|.ini c=>some c|_=>none
structure Pl where
 ds:List (Df×Kd)
 cs:List (Str×PyData)
 nog:List Str
 fld:List (Str×Str)
 kds:List (Str×List (Str×Str)):=[]
def Pl.tb(P:Pl):Tb where
 fn j:=(P.ds[j]?).bind λz=>z.2.fn? z.1
 me j:=(P.ds[j]?).bind λz=>z.2.me? z.1
 mk' j:=(P.ds[j]?).bind λz=>z.2.ini?
 gc g:=(P.cs[g]?).map (·.1)
 nog x:=P.nog.any λy=>sEq x y
 fld c f:=P.fld.any λy=>sEq c y.1&&sEq f y.2
 kd x kvs:=P.kds.any λy=>sEq x y.1&&decide (y.2=kvs)
noncomputable def Pl.pg(P:Pl):Pg where
 F j:=(P.ds[j]?).map (·.1.fn)
 gv g:=((P.cs[g]?).map (·.2)).getD .none
 wf:=100000
def Pl.D(P:Pl)(j:Nat):Option Df:=(P.ds[j]?).map (·.1)
def HW(K:Waa)(C:Str->Option Value)(d:Df)(f:Addr):Kd->Prop
 |.fn=>C d.name=some (.ref f)/\PySem.W.keepIn K (.ref f)=true
 |.me c=>Cls K (av K c)/\Meth K (av K c) d.name f
 |.ini c=>Mk K (av K c) f/\C c=some (.ref (av K c))
def FactD(K:Waa)(C:Str->Option Value)(z:Df×Kd):Prop:=∃f U,Fun K z.1.name z.1.qual z.1.st f U/\Binds K U z.1.ps []/\HW K C z.1 f z.2
section
variable{K:Waa}{mg:Str->Option Value}{P:Pl}{w:World}
theorem mp{Y C:Type}{o:Option Y}{f:Y->C}{b:C}(h:o.map f=some b):∃a,o=some a/\f a=b:=by simp_all
theorem Pl.md(O:(P.ds.all λz=>Aw P.tb z.1)=true)(Z:∀z∈P.ds,FactD K mg z)(M:∀z∈P.cs,∃v u,mg z.1=some u/\RelV v u/\∀S H,Fz K S H v z.2)(F:∀x∈P.nog,mg x=none)(h5:∀z∈P.fld,Cls K (av K z.1)/\NoAttr K (av K z.1) z.2)(L:∀z∈P.kds,∃d,mg z.1=some (.ref d)/\KDict K w d z.2):Md K mg P.tb P.pg P.D w where
 df j d hj:=by
  obtain⟨z,J,B⟩:=mp hj;subst B;have Y:=aax J;obtain⟨f,U,I,A,T⟩:=Z z Y;refine⟨by show (P.ds[j]?).map _=_;rw[J];rfl,abh.mp O z Y,f,U,I,A,λN l=>?_,λc m l=>?_,λc l=>?_⟩
  ·have l:((P.ds[j]?).bind λz=>z.2.fn? z.1)=some N:=l;rw[J]at l;obtain⟨d,k⟩:=z;cases k<;>cases l;exact T
  ·have l:((P.ds[j]?).bind λz=>z.2.me? z.1)=some (c,m):=l;rw[J]at l;obtain⟨d,k⟩:=z;cases k<;>cases l;exact T
  ·have l:((P.ds[j]?).bind λz=>z.2.ini?)=some c:=l;rw[J]at l;obtain⟨d,k⟩:=z;cases k<;>cases l;exact T
 all j h:=by
  show ((P.ds[j]?).map _).isSome=true;cases e:P.ds[j]? with
  |none=>have h:((((P.ds[j]?).bind λz=>z.2.fn? z.1).isSome||((P.ds[j]?).bind λz=>z.2.me? z.1).isSome)||((P.ds[j]?).bind λz=>z.2.ini?).isSome)=true:=h;rw[e]at h;cases h
  |some z=>rfl
 gc g N h:=by
  obtain⟨z,J,B⟩:=mp h;subst B;obtain⟨v,u,a,Q,W⟩:=M z (aax J);have s:P.pg.gv g=z.2:=by show ((P.cs[g]?).map _).getD _=_;rw[J];rfl
  rw[s];exact⟨v,u,a,Q,W⟩
 ng x h:=by obtain⟨y,X,e⟩:=abX.mp h;rw[bu e];exact F y X
 fl c f h:=by obtain⟨y,X,e⟩:=abX.mp h;rw[bu (an2 e).1,bu (an2 e).2];exact h5 y X
 kd x kvs h:=by obtain⟨y,X,e⟩:=abX.mp h;obtain⟨J,B⟩:=an2 e;rw[bu J,<-Daa B];exact L y X
end
end
end L2
namespace L2
open PySem
theorem bs{Y C:Type}{o:Option Y}{f:Y->Option C}{x:Y}{r:Option C}(h:o=some x)(k:f x=r):o.bind f=r:=by rw[h];exact k
theorem L7[Decidable c](h:c):gd c=some ():=if_pos h
theorem bg{C:Type}[Decidable c]{f:Unit->Option C}{r:Option C}(h:c)(k:f ()=r):(gd c).bind f=r:=bs (L7 h) k
theorem ah{o:Bo}(O:ev C a ρ=some (x,ρ1))(Z:ev C b ρ1=some (y,ρ2))(F:az ρ2 x=some dx)(m:az ρ2 y=some dy)(h:yE o dx dy=some d):ev C (.bop o a b) ρ=some (.val (.fz d),ρ2):=bs O (bs Z (bs F (bs m (bs h rfl))))
theorem aq{o:Co}(O:ev C a ρ=some (x,ρ1))(Z:ev C b ρ1=some (y,ρ2))(F:az ρ2 x=some dx)(m:az ρ2 y=some dy)(h:oK o dx dy=some k):ev C (.cmp o a b) ρ=some (.val (.fz (.bool k)),ρ2):=bs O (bs Z (bs F (bs m (bs h rfl))))
theorem ax(O:ev C a ρ=some (x,ρ1))(Z:ev C b ρ1=some (y,ρ2))(m:az ρ2 y=some (.int n))(h:bE ρ2 x n=some (z,ρ3)):ev C (.ix a b) ρ=some (.val z,ρ3):=bs O (bs Z (bs m (bs rfl (bs h rfl))))
theorem af(O:evs C es ρ=some (rs,ρ1))(Z:ba (C.io f) ρ1 rs=some (xs,ρ2))(M:C.call f xs=some (w,ys))(F:eA (C.io f) rs ys ρ2=ρ3):ev C (.call f es) ρ=some (.val w,ρ3):=bs O (bs Z (bs M (by rw[<-F])))
theorem qW(O:evs C es ρ=some (rs,ρ1))(Z:fe ρ1 rs=some ds)(M:C.call f (ds.map OD.fz)=some (.fz d,ys))(F:GS d=true):ev C (.callS f es) ρ=some (.val (.fz d),ρ1):=bs O (bs Z (bs M (bs rfl (bg F rfl))))
theorem qX(h:ev C (.callS f es) ρ=some (.val (.fz (.bool k)),ρ1)):aL C (.callS f es) ρ=some (k,ρ1):=bs h rfl
theorem fH{ns:List Str}(P:ρ[i]?.join=some (.obj cn ns zs))(Y:m ∉ ns)(O:evs C es ρ=some (rs,ρ1))(Z:ba (C.io f) ρ1 (.rf i::rs)=some (xs,ρ2))(M:C.call f xs=some (w,ys))(F:eA (C.io f) (.rf i::rs) ys ρ2=ρ3):ev C (.meth cn m f i es) ρ=some (.val w,ρ3):=bs P (bs rfl (bg ⟨rfl,Y⟩ (bs O (bs Z (bs M (by rw[<-F]))))))
theorem EH{D:Str}(O:evs C es ρ=some (rs,ρ1))(Z:ba (C.io f).tail ρ1 rs=some (xs,ρ2))(M:C.mak f (.obj D [] []::xs)=some (.fz .none,w::ys))(F:eA (C.io f).tail rs ys ρ2=ρ3):ev C (.make D f es) ρ=some (.val w,ρ3):=bs O (bs Z (bs M (bs rfl (by rw[<-F]))))
theorem bX(O:evs C es ρ=some (rs,ρ1))(t:Nat.ble rs.length 1000000=true)(Z:mapR own1 ρ1 rs=some (zs,ρ2)):ev C (.lst es) ρ=some (.val (.lst zs),ρ2):=bs O (bs Z (bg (Nat.ble_eq.mp t) rfl))
theorem bh(O:evs C es ρ=some (rs,ρ1))(t:Nat.ble rs.length 1000000=true)(Z:mapR own1 ρ1 rs=some (zs,ρ2))(M:mkTup zs=z):ev C (.tup es) ρ=some (.val z,ρ2):=bs O (bs Z (bg (Nat.ble_eq.mp t) (by rw[<-M])))
theorem aj:evs C .nil ρ=some ([],ρ):=rfl
theorem aa(O:ev C e ρ=some (x,ρ1))(Z:evs C es ρ1=some (rs,ρ2)):evs C (.cons e es) ρ=some (x::rs,ρ2):=bs O (bs Z rfl)
theorem cI(h:aL C c ρ=some (true,ρ1))(k:ev C a ρ1=rv):ev C (.ife c a b) ρ=rv:=bs h k
theorem bY(h:aL C c ρ=some (false,ρ1))(k:ev C b ρ1=rv):ev C (.ife c a b) ρ=rv:=bs h k
theorem aJ{g:Bl}(O:evs C es ρ=some (rs,ρ1))(Z:fe ρ1 rs=some ds)(M:zL g ds=some d):ev C (.blt g es) ρ=some (.val (.fz d),ρ1):=bs O (bs Z (bs M rfl))
theorem qY(O:ev C e ρ=some (x,ρ1))(Z:(dM ρ1 x).bind listOf=some ds):ev C (.bnw .tuple e) ρ=some (.val (.fz (.tuple ds)),ρ1):=bs O (bs Z rfl)
theorem xp{ns:List Int}(O:ev C e ρ=some (x,ρ1))(Z:az ρ1 x=some (.list ds))(M:gU ds=some ns)(t:ns.length<64):ev C (.bnw .sorted e) ρ=some (.val (.lst ((sortI ns).map λi=>.fz (.int i))),ρ1):=bs O (bs Z (bs rfl (bs M (bg t rfl))))
theorem qZ{dx dy:List PyData}(O:ev C a ρ=some (x,ρ1))(Z:ev C b ρ1=some (y,ρ2))(F:By ρ2 x=some dx)(m:By ρ2 y=some dy)(t:dx.length+dy.length<=1000000):ev C (.cat a b) ρ=some (.val (.lst ((dx++dy).map OD.fz)),ρ2):=bs O (bs Z (bs F (bs m (bg t rfl))))
theorem ar{o:Co}(h:ev C (.cmp o a b) ρ=some (.val (.fz (.bool k)),ρ1)):aL C (.cmp o a b) ρ=some (k,ρ1):=bs h rfl
theorem bw(h:ev C (.call f es) ρ=some (.val (.fz (.bool k)),ρ1)):aL C (.call f es) ρ=some (k,ρ1):=bs h rfl
theorem oW{D m:Str}(h:ev C (.meth D m f i es) ρ=some (.val (.fz (.bool k)),ρ1)):aL C (.meth D m f i es) ρ=some (k,ρ1):=bs h rfl
theorem dq(h:aL C a ρ=some (true,ρ1))(k:aL C b ρ1=rt):aL C (.and a b) ρ=rt:=bs h k
theorem jh(h:aL C a ρ=some (false,ρ1)):aL C (.and a b) ρ=some (false,ρ1):=bs h rfl
theorem gY(h:aL C a ρ=some (true,ρ1)):aL C (.or a b) ρ=some (true,ρ1):=bs h rfl
theorem bp(h:aL C a ρ=some (false,ρ1))(k:aL C b ρ1=rt):aL C (.or a b) ρ=rt:=bs h k
theorem dA(h:aL C a ρ=some (k,ρ1)):aL C (.not a) ρ=some (!k,ρ1):=bs h rfl
theorem ji(h:ev C a ρ=some (.val (.fz (.bool true)),ρ1))(k:ev C b ρ1=rv):ev C (.and a b) ρ=rv:=bs h (bs rfl (bs rfl k))
theorem lp(h:ev C a ρ=some (.val (.fz (.bool false)),ρ1)):ev C (.and a b) ρ=some (.val (.fz (.bool false)),ρ1):=bs h rfl
theorem BP(h:ev C a ρ=some (.val (.fz (.bool true)),ρ1)):ev C (.or a b) ρ=some (.val (.fz (.bool true)),ρ1):=bs h rfl
theorem mY(h:ev C a ρ=some (.val (.fz (.bool false)),ρ1))(k:ev C b ρ1=rv):ev C (.or a b) ρ=rv:=bs h (bs rfl (bs rfl k))
theorem bV{p:OD×List Nat×OD}(h:aw ρ i ps=some p)(Z:p.2.2=.fz d):ev C (.pg i ps) ρ=some (.val (.fz d),ρ):=bs h (bs (show tS p.2.2=some d by rw[Z];rfl) rfl)
theorem EI(h:aw ρ i ps=some p)(W:p.2.2.dat=some d)(D:ρ.set i (some (OD.put (.fz d) p.2.1 p.1))=ρ1):ev C (.pf i ps) ρ=some (.val (.fz d),ρ1):=bs h (bs W (by rw[<-D]))
theorem HX{m:Nat}(h:aw ρ i ps=some p)(W:p.2.2.dat=some d)(t:jP d=some m):ev C (.pl i ps) ρ=some (.val (.fz (.int m)),ρ):=bs h (bs W (bs t rfl))
theorem ka(h:aw ρ i ps=some p)(W:p.2.2.dat=some d)(u:kS d=some k):aL C (.pt i ps) ρ=some (k,ρ):=bs h (bs W (bs u rfl))
theorem xq{M:Bool}(O:ev C e ρ=some (x,ρ1))(F:az ρ1 x=some dx)(h:aw ρ1 i ps=some p)(W:p.2.2.dat=some d)(U:oK (if M then .nin else .inn) dx d=some k):aL C (.pin M e i ps) ρ=some (k,ρ1):=bs (bs O (bs F (bs h (bs W (bs U rfl))))) rfl
theorem oX(h:aw ρ i ps=some p)(n:kU C e ρ=some d)(F:p.2.2=.lst xs)(t:xs.length<1000000)(D:ρ.set i (some (OD.put (.lst (xs++[.fz d])) p.2.1 p.1))=ρ1):bF C (.apd i ps e) ρ=some (.nx,ρ1):=bs h (bs n (bs (show nS p.2.2=some xs by rw[F];rfl) (bg t (by rw[<-D]))))
theorem xr(n:ev C e ρ=some (x,ρ1))(y:frz1 ρ1 x=some (d,ρ2))(h:aw ρ2 i ps=some p)(W:ρ2[j]?.join=some (.fz kd))(hk:keyOf kd=some kk)(F:p.2.2=.dic ks xs)(t:xs.length<1000000)(P:putKey kk d ks xs=(ks',xs'))(D:ρ2.set i (some (OD.put (.dic ks' xs') p.2.1 p.1))=ρ3):bF C (.std i ps j e) ρ=some (.nx,ρ3):=bs n (bs y (bs h (bs W (bs rfl (bs hk (bs (by rw[F];rfl) (bg t (by rw[<-D];simp only[P]))))))))
theorem cy(n:ev C e ρ=some (x,ρ1))(j:own1 ρ1 x=some (z,ρ2))(P:ρ2[i]?.join=some (.obj cn ns xs))(t:Nat.blt xs.length 1000=true)(M:br fl' z ns xs=(ns',xs'))(D:ρ2.set i (some (.obj cn ns' xs'))=ρ3):bF C (.stf i cn fl' e) ρ=some (.nx,ρ3):=bs n (bs j (bs P (bs rfl (bg ⟨rfl,Nat.blt_eq.mp t⟩ (by rw[<-D];simp only[M])))))
theorem xu{a r:Int}(h:aw ρ i [.fld cn fl']=some p)(A:p.2.2=.fz (.int a))(n:ev C e ρ=some (x,ρ1))(W:az ρ1 x=some d)(j:mH o a d=some r)(P:ρ1[i]?.join=some (.obj cn ns xs))(t:Nat.blt xs.length 1000=true)(M:br fl' (.fz (.int r)) ns xs=(ns',xs'))(D:ρ1.set i (some (.obj cn ns' xs'))=ρ3):bF C (.agf i cn fl' o e) ρ=some (.nx,ρ3):=bs h (bs (show tS p.2.2=some (.int a) by rw[A];rfl) (bs rfl (bs n (bs W (bs j (bs P (bs rfl (bg ⟨rfl,Nat.blt_eq.mp t⟩ (by rw[<-D];simp only[M])))))))))
theorem ab(h:bF C s ρ=some (.nx,ρ1))(k:aD C ss ρ1=r):aD C (.cons s ss) ρ=r:=bs h k
theorem ak(h:bF C s ρ=some (.rt z,ρ1)):aD C (.cons s ss) ρ=some (.rt z,ρ1):=bs h rfl
theorem KL(h:bF C s ρ=some (.ct,ρ1)):aD C (.cons s ss) ρ=some (.ct,ρ1):=bs h rfl
theorem ae(h:ev C e ρ=some (x,ρ1))(j:own1 ρ1 x=some (z,ρ2))(r:Nat.blt i ρ2.length=true)(D:ρ2.set i (some z)=ρ3):bF C (.set i e) ρ=some (.nx,ρ3):=bs h (bs j (bg (Nat.blt_eq.mp r) (by rw[<-D])))
theorem fI{is:List Nat}(h:evs C es ρ=some (rs,ρ1))(j:mapR own1 ρ1 rs=some (zs,ρ2))(t:(zs.length==is.length&&is.all λi=>Nat.blt i ρ2.length)=true)(D:dY is zs ρ2=ρ3):bF C (.par is es) ρ=some (.nx,ρ3):=bs h (bs j (bg (by simp_all) (by grind)))
theorem mZ(h:ev C e ρ=some (x,ρ1)):bF C (.ex e) ρ=some (.nx,ρ1):=bs h rfl
theorem ag(h:ev C e ρ=some (x,ρ1))(j:mv1 ρ1 x=some (z,ρ2)):bF C (.ret e) ρ=some (.rt z,ρ2):=bs h (bs j rfl)
theorem ao(h:aL C c ρ=some (true,ρ1))(k:aD C sa ρ1=r):bF C (.iff c sa sb) ρ=r:=bs h k
theorem s_ifF(h:aL C c ρ=some (false,ρ1))(k:aD C sb ρ1=r):bF C (.iff c sa sb) ρ=r:=bs h k
theorem bH(P:ρ[i]?.join=some (.lst ys))(h:ev C e ρ=some (x,ρ1))(j:own1 ρ1 x=some (z,ρ2))(O:ρ2[i]?.join=some (.lst xs))(t:xs.length<1000000)(D:ρ2.set i (some (.lst (xs++[z])))=ρ3):bF C (.app i e) ρ=some (.nx,ρ3):=bs P (bs rfl (bs h (bs j (bs O (bs rfl (bg t (by rw[<-D])))))))
theorem jk(h:ev C e ρ=some (x,ρ1))(j:own1 ρ1 x=some (z,ρ2))(P:ρ2[i]?.join=some (.lst ys))(hk:ev C ke ρ2=some (y,ρ3))(W:az ρ3 y=some (.int n))(O:ρ3[i]?.join=some (.lst xs))(l:ixN xs.length n=some jj)(D:ρ3.set i (some (.lst (xs.set jj z)))=ρ4):bF C (.sti i ke e) ρ=some (.nx,ρ4):=bs h (bs j (bs P (bs rfl (bs hk (bs W (bs rfl (bs O (bs rfl (bs l (by rw[<-D]))))))))))
theorem eE(h:tU C it ρ=some (ds,ρ1))(k:bR (λd p=>(bj t (.fz d) p).bind λρ1=>aD C ss ρ1) ds ρ1=r):bF C (.fr t it ss) ρ=r:=bs h k
theorem gL(h:ev C e ρ=some (x,ρ1))(W:az ρ1 x=some (.int n))(O:-(2^62)<=n/\n<2^62):tU C (.rg1 e) ρ=some (dm 0 n.toNat,ρ1):=bs h (bs W (bs rfl (bg O rfl)))
theorem cz(h:ev C e ρ=some (x,ρ1))(W:frz1 ρ1 x=some (d,ρ2))(g:tT d=some ds):tU C (.seq e) ρ=some (ds,ρ2):=bs h (bs W (bs g rfl))
theorem xw(h:ev C e ρ=some (x,ρ1))(W:frz1 ρ1 x=some (.list ds,ρ2)):tU C (.enm e) ρ=some (enumD ds,ρ2):=bs h (bs W (bs rfl rfl))
theorem oY(h:ev C a ρ=some (x,ρ1))(h':ev C b ρ1=some (y,ρ2))(W:frz1 ρ2 x=some (dx,ρ3))(T:frz1 ρ3 y=some (dy,ρ4))(g:tT dx=some ds)(p:tT dy=some es'):tU C (.zip a b) ρ=some (zipD ds es',ρ4):=bs h (bs h' (bs W (bs T (bs g (bs p rfl)))))
theorem dB(O:tU C it ρ=some (ds,ρ1))(d:ds.length<1000000)(U:cD ρ1 fr=some zc)(t:cH (cQ C tg ifs elt) ds [] (List.replicate nt none++zc.1)=some (out,ρ'))(D:ei zc.2 fr (ρ'.drop nt)=ρ2):ev C (.comp nt fr it tg ifs elt) ρ=some (.val (.lst (out.map OD.fz)),ρ2):=bs O (bg d (bs U (bs t (by rw[<-D]))))
theorem EJ(P:bj tg (.fz d) ρ=some ρ1)(O:aL C ifs ρ1=some (true,ρ2))(Z:ev C elt ρ2=some (x,ρ3))(M:frz1 ρ3 x=some (dx,ρ4)):cQ C tg (.some ifs) elt d ρ=some ([dx],ρ4):=bs P (bs O (bs Z (bs M rfl)))
theorem EK(P:bj tg (.fz d) ρ=some ρ1)(O:aL C ifs ρ1=some (false,ρ2)):cQ C tg (.some ifs) elt d ρ=some ([],ρ2):=bs P (bs O rfl)
theorem Ax(P:bj tg (.fz d) ρ=some ρ1)(Z:ev C elt ρ1=some (x,ρ3))(M:frz1 ρ3 x=some (dx,ρ4)):cQ C tg .none elt d ρ=some ([dx],ρ4):=bs P (bs rfl (bs Z (bs M rfl)))
theorem uj{step:PyData->DEnv->Option (Fl×DEnv)}(P:List PyData->DEnv->Prop)(h:∀d ds ρ,P (d::ds) ρ->∃a p,step d ρ=some (a,p)/\(a=.nx\/a=.ct)/\P ds p):∀{ds:List PyData}{ρ:DEnv},P ds ρ->∃p,bR step ds ρ=some (.nx,p)/\P [] p:=by
 intro ds;induction ds with
 |nil=>exact λ{ρ} C=>⟨ρ,rfl,C⟩
 |cons d ds Y=>
  intro ρ C;obtain⟨a,A,J,y,N⟩:=h d ds ρ C;obtain⟨o,B,F⟩:=Y N;refine⟨o,bs J ?_,F⟩
  grind
theorem ai{p:Pg}(y:p.F j=some fn)(t:xs.length=fn.io.length)(h:aD (p.ct n) fn.body (gB fn.n xs)=some (.rt r,ρ))(g:bQ 0 fn.io xs ρ=some ys):p.call (n+1) j xs=some (r,ys):=by rw[Pg.en,y];show (if xs.length=fn.io.length then wx (p.ct n) fn xs else none)=_;rw[if_pos t];exact bs h (bs g rfl)
theorem bx{p:Pg}(y:p.F j=some fn)(t:xs.length=fn.io.length)(h:aD (p.ct n) fn.body (gB fn.n xs)=some (.nx,ρ))(g:bQ 0 fn.io xs ρ=some ys):p.call (n+1) j xs=some (.fz .none,ys):=by rw[Pg.en,y];show (if xs.length=fn.io.length then wx (p.ct n) fn xs else none)=_;rw[if_pos t];exact bs h (bs g rfl)
theorem lq(h:k<n):ixN n (k:Int)=some k:=by unfold ixN;rw[if_pos (by omega),if_pos (by omega)];rfl
theorem bZ{Y:Type}{xs:List Y}{k:Nat}{x:Y}(h:xs[k]?=some x):atI xs (k:Int)=some x:=bs (lq (aah.mp h).1) h
theorem q8{Y:Type}{xs:List Y}{i:Int}(P:0<=i)(O:i<xs.length):∃x,x∈xs/\atI xs i=some x:=by
 have e:i=(i.toNat):=by lia
 have t:i.toNat<xs.length:=by lia
 refine⟨xs[i.toNat],List.getElem_mem t,?_⟩;have:=bZ (aam t)
 grind
theorem aR(h:atI ds i=some d):bE ρ (.val (.fz (.list ds))) i=some (.fz d,ρ):=by simp only[bE,itemO,h]
theorem aN(h:atI ds i=some d):bE ρ (.val (.fz (.tuple ds))) i=some (.fz d,ρ):=by simp only[bE,itemO,h]
theorem fJ(h:atI xs i=some x):bE ρ (.val (.lst xs)) i=some (x,ρ):=by simp only[bE,itemO,h]
end L2
namespace Np
open PySem L2
noncomputable def top(i:Nat):Stmt:=PySem.Challenge.pw_nearpool_k50_whole_made_cells_run.main.body.getD i (.Pass ⟨0,0,0,0⟩)
def gZ(j:Nat):Stmt->Stmt
 |.ClassDef _ _ _ body ..=>body.getD j (.Pass ⟨0,0,0,0⟩)
 |s=>s
noncomputable abbrev efd:Es:=.cons (.nm 8) .nil
noncomputable abbrev efc:Es:=.cons (.nm 5) .nil
abbrev efb:S':=.set 3 (.lst .nil)
noncomputable abbrev efa:Es:=.cons (.nm 4) .nil
noncomputable abbrev ee9:Es:=.cons (.nm 2) .nil
abbrev ee8:Es:=.cons (.nm 7) .nil
noncomputable abbrev ee7:Es:=.cons (.nm 6) .nil
abbrev ee6:S':=.set 5 (.lst .nil)
abbrev ee5:S':=.set 4 (.lst .nil)
noncomputable abbrev ee4:Es:=.cons (.nm 0) .nil
noncomputable abbrev ee3:Es:=.cons (.nm 3) .nil
noncomputable abbrev ee2:Es:=.cons (.nm 1) .nil
noncomputable abbrev ee1:Es:=.cons (.int 0) .nil
noncomputable abbrev KM:E:=.ix (.nm 2) (.nm 0)
noncomputable abbrev KN:E:=.ix (.nm 0) (.nm 2)
abbrev eey:E:=.ix (.nm 0) (.nm 1)
noncomputable abbrev eex:E:=.ix (.nm 6) (.int 1)
noncomputable abbrev eew:E:=.ix (.nm 3) (.int 0)
abbrev eev:E:=.ix (.nm 6) (.int 0)
noncomputable abbrev eeu:E:=.ix (.nm 2) (.int 0)
noncomputable abbrev eet:E:=.ix (.nm 0) (.int 1)
abbrev ees:E:=.ix (.nm 0) (.int 2)
noncomputable abbrev eer:E:=.ix (.nm 0) (.int 0)
abbrev eeq:Es:=.cons (.int 499) .nil
abbrev eep:Es:=.cons (.int 4999) .nil
abbrev eeo:Es:=.cons (.bl false) .nil
abbrev een:E:=.din false (.nm 6) 4 []
abbrev Ll:E:=.din false (.nm 7) 3 []
abbrev eel:E:=.cmp .ne (.nm 3) (.nm 7)
abbrev eek:E:=.cmp .eq (.nm 0) (.nm 1)
abbrev eej:E:=.cmp .eq (.nm 7) (.nm 6)
abbrev eei:S':=.asg (.tp [7,8]) (.nm 6)
abbrev eeh:S':=.asg (.tp [3,4]) (.nm 2)
abbrev eeg:Ss:=.cons (.ret (.non)) .nil
noncomputable abbrev eef:Es:=.cons (.str "stop") .nil
abbrev eee:E:=.cmp .eq (.nm 6) (.int 0)
abbrev eed:Ss:=.cons (.ret (.nm 2)) .nil
abbrev eec:Ss:=.cons (.ret (.nm 5)) .nil
abbrev eeb:E:=.cmp .inn (.nm 2) (.nm 1)
abbrev eea:E:=.bop .sub (.nm 0) (.nm 2)
abbrev ed9:E:=.bop .add (.nm 5) (.int 1)
noncomputable abbrev ed8:E:=.bop .sub (.nm 1) (.int 1)
abbrev ed7:E:=.bop .add (.nm 1) (.int 1)
noncomputable abbrev ed6:E:=.bop .sub (.gc 19) (.gc 1)
abbrev ed5:E:=.ix (.nm 6) (.neg (.int 1))
abbrev ed4:S':=.set 6 (.ix (.nm 0) (.nm 5))
abbrev ed3:Ss:=.cons (.ret (.bl true)) .nil
abbrev ed2:E:=.call 0 ee4
abbrev ed1:E:=.call 1 ee2
abbrev ed0:E:=.call 0 ee2
abbrev edz:Ss:=.cons (.ret (.bl false)) .nil
abbrev edy:E:=.bop .mul (.int 100) (.gc 15)
abbrev edx:E:=.blt .abs ee9
abbrev I0:E:=.blt .len efc
abbrev edv:E:=.blt .len ee9
abbrev edu:E:=.blt .len ee2
abbrev edt:E:=.blt .len ee4
abbrev eds:Es:=.cons (.bnw .list (.nm 3)) .nil
abbrev edr:Es:=.cons KN .nil
abbrev edq:E:=.ix (.nm 2) eex
abbrev edp:Es:=.cons (.nm 6) ee8
abbrev edo:E:=.ix (.nm 1) ees
abbrev edn:E:=.ix (.nm 1) eet
abbrev edm:Es:=.cons (.nm 3) efa
abbrev edl:Es:=.cons (.nm 5) ee7
abbrev edk:Es:=.cons (.nm 0) ee2
abbrev edj:Es:=.cons (.nm 2) ee3
noncomputable abbrev Lm:Es:=.cons (.nm 3) (.cons (.nm 12) .nil)
abbrev edh:S':=.set 5 ed9
abbrev edg:E:=.ix eeu (.int 0)
abbrev edf:E:=.ix eew (.int 1)
noncomputable abbrev Ln:E:=.ix (.ix (.nm 0) (.nm 10)) (.int 2)
abbrev Lp:E:=.ix (.ix (.nm 3) (.nm 11)) (.int 1)
abbrev edc:It':=.seq (.call 3 ee4)
abbrev edb:E:=.not (.pt 0 [.fld "Going" "words"])
abbrev eda:E:=.not (.pt 0 [.fld "Going" "waiting"])
abbrev ec9:Es:=.cons (.nm 1) (.cons (.bl true) .nil)
abbrev ec8:S':=.set 3 (.call 44 ee9)
abbrev ec7:Es:=.cons ed7 .nil
abbrev ec6:E:=.bop .mul (.ix (.nm 1) (.nm 0)) (.gc 4)
abbrev ec5:Es:=.cons (.str "tell") ee7
noncomputable abbrev ec4:Es:=.cons (.pg 0 [.fld "Going" "rows"]) .nil
abbrev ec3:E:=.ix (.nm 1) (.bop .add (.nm 0) (.int 1))
abbrev ec2:E:=.ix KM (.neg (.int 1))
noncomputable abbrev Lq:E:=.ix (.pg 0 [.fld "Going" "rows"]) (.nm 1)
abbrev ec0:Es:=.cons (.bop .mod (.nm 0) (.int 100)) .nil
abbrev ecz:E:=.bop .mul (.int 10) eet
abbrev ecy:E:=.ix (.pg 0 [.fld "Going" "reach"]) (.int 0)
abbrev ecx:E:=.bop .mul (.int 100) eet
abbrev ecw:E:=.cmp .eq eer (.str "go")
abbrev ecv:S':=.set 3 (.bnw .sorted (.cat (.nm 3) (.nm 5)))
abbrev ecu:E:=.cmp .eq eer (.str "nil")
abbrev ect:E:=.cmp .eq eer (.str "set")
abbrev ecs:E:=.call 49 edk
abbrev ecr:E:=.cmp .eq (.ix (.nm 7) (.int 0)) (.str "stop")
abbrev KO:E:=.cmp .eq eev (.str "stop")
abbrev ecp:E:=.call 14 edk
abbrev Lr:E:=.call 39 (.cons (.nm 8) (.cons (.nm 12) .nil))
abbrev ecn:E:=.call 42 (.cons (.nm 2) (.cons (.int 4) .nil))
noncomputable abbrev ecm:E:=.call 42 (.cons (.nm 0) (.cons (.int 5) .nil))
abbrev Ls:E:=.callS 34 (.cons (.nm 7) ee9)
abbrev ecj:E:=.cmp .ne eew (.str "great")
abbrev Lu:E:=.callS 34 (.cons (.nm 6) ee9)
abbrev ech:E:=.call 42 (.cons (.nm 2) (.cons (.int 80) .nil))
abbrev ecg:E:=.call 42 (.cons (.nm 2) (.cons (.int 12) .nil))
abbrev ecf:E:=.meth "Going" "finds" 20 0 ee9
abbrev ece:Es:=.cons (.nm 0) (.cons (.bnw .tuple (.nm 1)) .nil)
abbrev Lv:E:=.meth "Going" "is_due" 18 0 ee2
abbrev ecb:E:=.cmp .eq (.nm 5) edt
abbrev eca:E:=.cmp .lt (.blt .len efa) (.nm 1)
abbrev eb9:E:=.cmp .lt (.nm 5) edt
abbrev eb8:E:=.cmp .lt (.nm 6) edt
abbrev eb7:E:=.meth "Going" "may_put" 21 0 ee9
abbrev eb6:Ss:=.cons (.stf 0 "Going" "waiting" (.lst .nil)) .nil
abbrev eb5:E:=.cmp .lt (.nm 7) edt
abbrev Lw:Es:=.cons (.nm 3) edl
abbrev eb3:Es:=.cons (.nm 0) (.cons (.nm 1) ee3)
abbrev eb2:Es:=.cons (.nm 0) (.cons (.nm 1) ee9)
abbrev eb1:E:=.call 2 ec4
abbrev eb0:S':=.set 2 (.rep (.lst ee1) (.gc 15))
abbrev ebz:E:=.pin true (.nm 1) 0 [.ix (-1),.fld "Going" "words"]
abbrev eby:E:=.bop .mul (.gc 23) edv
abbrev ebx:E:=.pin false (.nm 1) 0 [.ix (-1),.fld "Going" "words"]
abbrev ebw:E:=.blt .len ec4
abbrev ebv:S':=.set 2 (.call 41 edk)
abbrev ebu:E:=.cmp .eq edq (.int 0)
abbrev ebt:S':=.set 6 (.call 38 (.cons (.nm 0) efc))
abbrev ebs:S':=.set 2 (.call 12 edk)
abbrev Lx:E:=.ix (.nm 3) ec2
noncomputable abbrev ebq:E:=.ix (.ix (.pg 0 [.fld "Going" "rows"]) (.nm 3)) (.int 2)
noncomputable abbrev ebp:Es:=.cons (.nm 1) (.cons (.pg 0 [.fld "Going" "place"]) .nil)
abbrev ebo:It':=.rg1 (.bop .add edt (.int 1))
abbrev ebn:Es:=.cons (.lst .nil) (.cons (.lst .nil) ee1)
abbrev ebm:E:=.call 26 (.cons KM ee2)
abbrev ebl:E:=.cmp .eq edg (.str "over")
abbrev ebk:E:=.call 25 (.cons (.nm 0) (.cons (.nm 3) ee2))
noncomputable abbrev Ly:E:=.comp 1 [11] (.seq (.nm 15)) (.nm 0) .none (.ix (.nm 1) (.nm 0))
abbrev ebi:E:=.call 0 (.cons Lq .nil)
abbrev ebh:S':=.set 2 (.ix Lq (.int 2))
abbrev ebg:Ss:=.cons (.ex (.meth "Going" "cross" 23 3 efa)) .nil
abbrev ebf:S':=.ex (.call 33 (.cons (.nm 7) edj))
abbrev ebe:S':=.ex (.call 33 (.cons (.nm 6) edj))
abbrev ebd:S':=.asg (.tp [13,14,15]) (.call 48 Lm)
abbrev ebc:S':=.set 8 (.call 32 Lw)
abbrev ebb:S':=.set 4 ebk
abbrev eba:E:=.not (.cmp2 .le .lt (.int 0) (.nm 1) edt)
abbrev ea9:E:=.blt .min (.cons (.int 5) (.cons edt .nil))
abbrev ea8:E:=.cmp .ne edt edu
abbrev ea7:E:=.cmp .nin ebq (.nm 2)
abbrev ea6:S':=.sdc 3 2 [] (.seq (.nm 2)) (.tp [0,1]) (.nm 0) edu
abbrev ea5:S':=.asg (.tp [9,10]) (.call 28 Lw)
abbrev KP:E:=.ife ecb (.str "ended") (.str "going")
abbrev ea3:Ss:=.cons (.ret (.tup (.cons (.nm 3) (.cons (.str "stopped") efa)))) .nil
abbrev LA:E:=.cmp .lt (.bop .add (.bop .add (.nm 3) I0) (.int 1)) (.nm 4)
noncomputable abbrev ea1:S':=.agl 5 (.lst (.cons (.bop .fdiv (.nm 6) (.gc 4)) (.cons (.bop .mod (.nm 6) (.gc 4)) .nil)))
abbrev ea0:E:=.call 27 (.cons (.nm 0) (.cons (.nm 3) (.cons (.ix (.nm 4) (.int 0)) ee9)))
abbrev eaz:Ss:=.cons (.std 0 [.fld "Going" "uses"] 1 (.bop .sub (.pl 0 [.fld "Going" "gaps"]) (.int 1))) .nil
abbrev eay:S':=.set 5 ea0
abbrev eax:S':=.set 11 (.ix (.call 47 (.cons (.nm 3) (.cons (.nm 9) (.cons (.ix (.nm 10) (.int 0)) .nil)))) (.int 0))
noncomputable abbrev eaw:Ss:=.cons (.apd 0 [.ix (-1),.fld "Going" "words"] (.nm 2)) (.cons (.agf 0 "Going" "place" .add (.gc 23)) .nil)
abbrev eav:E:=.call 13 (.cons (.pg 0 [.fld "Going" "rows"]) (.cons (.pg 0 [.fld "Going" "longs"]) ee2))
abbrev eau:E:=.and eb9 eca
abbrev LB:Es:=.cons (.nm 13) (.cons (.nm 14) (.cons Ly .nil))
abbrev eas:Ss:=.cons (.apd 0 [.fld "Going" "waiting"] (.tup ebp)) .nil
abbrev ear:E:=.blt .abs (.cons (.bop .sub Lx (.ix (.nm 4) (.nm 0))) .nil)
abbrev eaq:E:=.cmp .nin (.ix (.ix (.nm 0) (.bop .sub (.nm 6) (.int 1))) (.int 0)) (.tup (.cons (.str "go") eef))
abbrev eap:S':=.set 5 (.ife Lu ed5 ed9)
abbrev eao:Es:=.cons (.ix (.nm 6) (.nm 11)) (.cons (.idx Lp Ln) .nil)
abbrev ean:S':=.iff Lv (.cons (.ex (.meth "Going" "lay" 19 0 ee2)) .nil) .nil
abbrev eam:Ss:=.cons (.agl 5 (.call 29 (.cons (.nm 0) (.cons (.nm 6) (.cons (.pg 4 [.key 6]) (.cons I0 .nil)))))) .nil
abbrev eal:S':=.iff LA (.cons (.app 5 (.gc 13)) .nil) .nil
abbrev eak:S':=.agf 0 "Going" "place" .add eav
abbrev eaj:S':=.set 5 (.call 37 (.cons (.nm 0) (.cons (.ife Ls (.ix (.nm 7) (.neg (.int 2))) (.nm 8)) .nil)))
abbrev eai:E:=.call 49 (.cons (.call 35 Lm) (.cons (.tup (.cons (.nm 13) (.cons (.nm 14) (.cons (.nm 15) .nil)))) .nil))
abbrev eah:S':=.iff KO ea3 .nil
abbrev eag:Ss:=.cons (.ret (.tup (.cons (.nm 3) (.cons KP efa)))) .nil
abbrev eaf:Ss:=.cons (.agl 5 (.call 6 (.cons (.ix (.nm 0) (.nm 6)) (.cons I0 (.cons (.cmp .inn (.nm 6) (.nm 1)) (.cons (.dgt 3 (.nm 6)) .nil)))))) .nil
abbrev eae:S':=.iff ecp (.cons (.agl 5 (.lst (.cons (.gc 11) (.cons (.bop .add (.nm 4) eby) .nil)))) .nil) .nil
abbrev ead:E:=.call 49 (.cons Lr (.cons (.tup LB) .nil))
abbrev eac:Ss:=.cons (.iff eb8 (.cons (.app 3 (.nm 5)) (.cons (.set 5 (.bop .add (.nm 5) (.call 46 (.cons (.nm 0) (.cons (.nm 1) ee7))))) .nil)) .nil) .nil
abbrev eab:Ss:=.cons (.set 5 (.bop .sub (.bop .add (.nm 5) (.int 2)) (.bop .mod (.nm 5) (.int 2)))) (.cons (.app 4 (.nm 5)) (.cons (.set 5 (.bop .add (.nm 5) (.bop .mul (.int 2) (.blt .len efd)))) .nil))
abbrev eaa:S':=.iff Ll (.cons (.app 5 (.call 15 (.cons (.nm 0) (.cons (.nm 7) ee7)))) (.cons (.set 6 (.bop .add (.ix (.nm 5) (.neg (.int 1))) (.bop .mul (.gc 23) (.pg 3 [.key 7])))) .nil)) .nil
def jl:Fn:=⟨[false],1,(.cons (.ret (.and ect (.cmp .gt ees (.gc 3)))) .nil)⟩
def uk:Fn:=⟨[false],1,(.cons (.ret (.or ecw ecu)) .nil)⟩
def m3:Fn:=⟨[false],1,(.cons (.ret (.comp 2 [] (.enm (.nm 0)) (.tp [0,1]) (.some ed0) (.nm 0))) .nil)⟩
def oZ:Fn:=⟨[false],1,(.cons (.ret (.comp 2 [] (.enm (.nm 0)) (.tp [0,1]) (.some ed1) (.nm 0))) .nil)⟩
def Ay:Fn:=⟨[false],1,(.cons (.ret (.and (.cmp .ne eer (.str "go")) (.cmp .ne eer (.str "stop")))) .nil)⟩
def lr:Fn:=⟨[false,false,false,false],4,(.cons (.iff ecw (.cons (.ret (.ife (.nm 2) (.lst (.cons (.gc 6) ee3)) (.lst (.cons (.bop .sub (.bop .add (.gc 18) (.nm 3)) (.nm 1)) .nil)))) .nil) .nil) (.cons (.iff (.nm 2) (.cons (.ret (.lst (.cons (.bop .add (.gc 7) eet) ee3))) .nil) .nil) (.cons (.ret (.lst (.cons (.bop .sub (.bop .add (.bop .add (.gc 19) (.bop .mul (.gc 9) eet)) (.nm 3)) (.nm 1)) .nil))) .nil)))⟩
def m4:Fn:=⟨[false,false,false,false],7,(.cons (.set 4 eer) (.cons (.iff (.cmp .eq (.nm 4) (.str "stop")) (.cons (.ret (.lst (.cons (.gc 20) .nil))) .nil) .nil) (.cons (.iff (.or (.cmp .eq (.nm 4) (.str "go")) (.cmp .eq (.nm 4) (.str "nil"))) (.cons (.ret (.call 5 (.cons (.nm 0) (.cons (.nm 1) edj)))) .nil) .nil) (.cons (.iff ed2 (.cons (.asg (.tp [5,6]) (.nm 3)) (.cons (.ret (.lst (.cons (.bop .add (.bop .add (.gc 2) ecx) (.nm 6)) (.cons (.bop .sub (.bop .add (.gc 16) (.nm 5)) (.nm 1)) .nil)))) .nil)) .nil) (.cons (.iff (.cmp .eq (.nm 4) (.str "set")) (.cons (.ret (.lst (.cons (.bop .add (.bop .add (.gc 17) ecx) ees) .nil))) .nil) .nil) (.cons (.iff (.cmp .eq (.nm 4) (.str "sum")) (.cons (.ret (.lst (.cons (.bop .add (.bop .add (.gc 21) ecz) ees) .nil))) .nil) .nil) (.cons (.iff (.cmp .eq (.nm 4) (.str "less")) (.cons (.ret (.lst (.cons (.bop .add (.bop .add (.gc 5) ecz) ees) .nil))) .nil) .nil) (.cons (.ret (.lst (.cons (.bop .add (.gc 22) eet) .nil))) .nil))))))))⟩
def m5:Fn:=⟨[false,false],4,(.cons (.par [2,3] (.cons (.bop .fdiv (.nm 1) (.int 10)) (.cons (.bop .mod (.nm 1) (.int 10)) .nil))) (.cons (.ret (.ife (.and (.cmp .lt (.nm 2) (.gc 15)) (.cmp .lt (.nm 3) (.gc 15))) (.tup (.cons (.nm 0) edj)) (.non))) .nil))⟩
def pb:Fn:=⟨[false,false],5,(.cons (.set 2 (.bop .sub ed6 (.int 1))) (.cons (.par [3,4] (.cons (.bop .fdiv eea (.gc 9)) (.cons (.bop .mod eea (.gc 9)) .nil))) (.cons (.ret (.ife (.cmp .gt (.nm 4) (.int 0)) (.tup (.cons (.str "nil") (.cons (.nm 3) (.cons (.bop .sub (.bop .sub (.bop .add (.nm 1) (.nm 4)) (.gc 1)) (.int 1)) eeo)))) (.non))) .nil)))⟩
def m6:Fn:=⟨[false,false],2,(.cons (.iff (.cmp .eq (.nm 0) (.gc 20)) (.cons (.ret (.tup eef)) .nil) .nil) (.cons (.iff (.cmp2 .le .lt (.gc 17) (.nm 0) (.bop .add (.gc 17) edy)) (.cons (.ret (.tup (.cons (.str "set") (.cons (.bop .fdiv (.bop .sub (.nm 0) (.gc 17)) (.int 100)) ec0)))) .nil) .nil) (.cons (.iff (.cmp2 .le .lt (.gc 21) (.nm 0) (.gc 5)) (.cons (.ret (.call 7 (.cons (.str "sum") (.cons (.bop .sub (.nm 0) (.gc 21)) .nil)))) .nil) .nil) (.cons (.iff (.cmp2 .le .lt (.gc 5) (.nm 0) (.gc 22)) (.cons (.ret (.call 7 (.cons (.str "less") (.cons (.bop .sub (.nm 0) (.gc 5)) .nil)))) .nil) .nil) (.cons (.iff (.cmp2 .le .lt (.gc 22) (.nm 0) (.bop .add (.gc 22) (.gc 15))) (.cons (.ret (.tup (.cons (.str "tell") (.cons (.bop .sub (.nm 0) (.gc 22)) .nil)))) .nil) .nil) (.cons (.iff (.cmp .le (.blt .abs (.cons (.bop .sub (.nm 0) (.gc 18)) .nil)) (.gc 0)) (.cons (.ret (.tup (.cons (.str "go") (.cons (.bop .sub (.bop .add (.nm 1) (.nm 0)) (.gc 18)) eeo)))) .nil) .nil) (.cons (.iff (.cmp .eq (.nm 0) (.gc 13)) (.cons (.ret (.tup (.cons (.str "pad") .nil))) .nil) .nil) (.cons (.iff (.cmp2 .le .lt ed6 (.nm 0) (.gc 7)) (.cons (.ret (.call 8 edk)) .nil) .nil) eeg))))))))⟩
def pd:Fn:=⟨[false,false,false],3,(.cons (.iff (.cmp2 .le .lt (.gc 2) (.nm 0) (.bop .add (.gc 2) edy)) (.cons (.ret (.tup (.cons (.str "great") (.cons (.bop .fdiv (.bop .sub (.nm 0) (.gc 2)) (.int 100)) (.cons (.bop .sub (.bop .add (.nm 2) (.nm 1)) (.gc 16)) ec0))))) .nil) .nil) (.cons (.iff (.cmp .eq (.nm 0) (.gc 6)) (.cons (.ret (.tup (.cons (.str "go") ec9))) .nil) .nil) (.cons (.iff (.cmp .eq (.nm 0) (.gc 11)) (.cons (.ret (.tup (.cons (.str "over") ee2))) .nil) .nil) (.cons (.iff (.cmp2 .le .lt (.gc 7) (.nm 0) (.bop .add (.gc 7) (.gc 15))) (.cons (.ret (.tup (.cons (.str "nil") (.cons (.bop .sub (.nm 0) (.gc 7)) ec9)))) .nil) .nil) eeg))))⟩
def m7:Fn:=⟨[false,false],5,(.cons (.set 2 ed7) (.cons (.set 3 (.bop .add (.nm 2) (.bop .mul (.int 2) (.bop .sub eey (.gc 14))))) (.cons (.iff (.cmp .gt (.nm 3) edt) eeg .nil) (.cons (.set 4 (.comp 1 [0] (.rg3 (.nm 2) (.nm 3)) (.nm 0) .none (.bop .add ec6 ec3))) (.cons (.ret (.tup (.cons (.tup (.cons (.str "pool") (.cons (.bnw .tuple (.nm 4)) .nil))) ee3))) .nil)))))⟩
noncomputable abbrev ac:Str:="Going"
abbrev am:Str:="go"
noncomputable abbrev bi:Str:="nil"
abbrev bm:Str:="rows"
abbrev bn:Str:="place"
abbrev bv:Str:="stop"
noncomputable abbrev ce:Str:="set"
abbrev ci:Str:="longs"
abbrev cr:Str:="row"
abbrev dL:Str:="nearpool.pooling"
abbrev eH:Str:="self"
abbrev eL:Str:="nearpool.codes"
abbrev eO:Str:="gap"
abbrev ga:Str:="begin"
abbrev hF:Str:="cells"
abbrev hI:Str:="reach"
abbrev hL:Str:="pool"
abbrev hM:Str:="tell"
abbrev hR:Str:="great"
abbrev hS:Str:="stopped"
abbrev hW:Str:="sum"
abbrev hY:Str:="less"
abbrev ii:Str:="_law_script"
abbrev im:Str:="nearpool.rows"
abbrev kt:Str:="words"
abbrev lc:Str:="uses"
noncomputable abbrev lf:Str:="waiting"
abbrev lv:Str:="plan"
abbrev lw:Str:="hop"
abbrev lX:Str:="over"
abbrev na:Str:="nearpool.places"
abbrev nb:Str:="nearpool.laying"
abbrev nl:Str:="nearpool.machine"
abbrev np:Str:="gaps"
abbrev nX:Str:="cell"
abbrev ol:Str:="number"
abbrev oD:Str:="_law_k"
abbrev pc:Str:="_law_tape_here"
abbrev pi:Str:="_law_rows_here"
abbrev pu:Str:="going"
abbrev pA:Str:="pools"
abbrev rc:Str:="held"
abbrev re:Str:="nearpool.growing"
abbrev sn:Str:="nearpool.plainrun"
abbrev sw:Str:="ended"
abbrev sK:Str:="_law_longs"
abbrev ut:Str:="/claim/cut.py"
abbrev wr:Str:="numbers"
abbrev wv:Str:="jump_cells"
abbrev ww:Str:="first_word"
abbrev wP:Str:="pool_cells"
abbrev wS:Str:="laid_cells"
abbrev wT:Str:="told_plainly"
abbrev xz:Str:="past_overs"
abbrev xL:Str:="_law_cell_at"
abbrev zn:Str:="_law_found"
abbrev At:Str:="_law_great"
abbrev AT:Str:="_law_is_great"
abbrev BT:Str:="_law_placed"
abbrev Ch:Str:="_law_plain"
noncomputable def F_seen_at:Fn:=⟨[false,false],5,(.cons (.iff eba eeg .nil) (.cons (.set 2 eey) (.cons (.iff (.cmp2 .lt .le (.gc 14) (.nm 2) (.bop .add (.gc 14) (.gc 8))) (.cons (.ret (.call 11 edk)) .nil) .nil) (.cons (.set 3 (.call 9 (.cons (.nm 2) ee2))) (.cons (.iff (.isn true (.nm 3)) (.cons (.ret (.tup (.cons (.nm 3) ec7))) .nil) .nil) (.cons (.iff (.cmp .eq ed7 edt) eeg .nil) (.cons (.set 4 (.call 10 (.cons (.nm 2) (.cons (.ix (.nm 0) ed7) ee2)))) (.cons (.ret (.ife (.isn false (.nm 4)) (.non) (.tup (.cons (.nm 4) (.cons (.bop .add (.nm 1) (.int 2)) .nil))))) .nil))))))))⟩
def um:Fn:=⟨[false,false,false],3,(.cons (.ret (.ife (.or (.call 0 edr) eeb) (.int 2) (.int 1))) .nil)⟩
def pe:Fn:=⟨[false,false],2,(.cons (.ret (.or (.cmp .eq (.nm 1) (.int 0)) (.call 4 (.cons (.ix (.nm 0) ed8) .nil)))) .nil)⟩
def lu:Fn:=⟨[false,false,false],3,(.cons (.iff ecp (.cons (.aug 2 .add (.gc 12)) .nil) .nil) (.cons (.ret (.bop .sub (.bop .add (.nm 2) (.int 2)) (.bop .mod (.nm 2) (.int 2)))) .nil))⟩
noncomputable def F_placed:Fn:=⟨[false,false,false],8,(.cons ea6 (.cons ee5 (.cons ee6 (.cons (.set 6 (.int 0)) (.cons (.fr (.nm 7) ebo (.cons eaa (.cons (.iff eb5 (.cons (.app 4 (.nm 6)) (.cons (.aug 6 .add (.call 13 (.cons (.nm 0) (.cons (.nm 1) ee8)))) .nil)) .nil) .nil))) (.cons (.ret (.tup (.cons (.nm 4) edl))) .nil))))))⟩
def gM:Fn:=⟨[true,false,false,false],4,(.cons (.stf 0 ac bm (.nm 1)) (.cons (.stf 0 ac ci (.nm 2)) (.cons (.stf 0 ac hI (.nm 3)) (.cons (.stf 0 ac bn (.int 0)) (.cons (.stf 0 ac np (.lst .nil)) (.cons (.stf 0 ac kt (.lst .nil)) (.cons (.stf 0 ac ga (.int 0)) (.cons (.stf 0 ac lc (.dnew)) eb6))))))))⟩
def jn:Fn:=⟨[true,false],5,(.cons (.iff eda edz .nil) (.cons (.iff (.cmp .eq (.nm 1) ebw) ed3 .nil) (.cons (.set 2 (.bop .add (.pg 0 [.fld ac bn]) eav)) (.cons (.asg (.tp [3,4]) (.pg 0 [.ix (0),.fld ac lf])) (.cons (.ret (.cmp .gt (.bop .sub (.call 15 (.cons (.pg 0 [.fld ac bm]) (.cons ed7 ee9))) (.nm 4)) (.ix (.pg 0 [.fld ac hI]) (.int 1)))) .nil)))))⟩
noncomputable def F_Going_lay:Fn:=⟨[true,false],5,(.cons (.set 2 (.lst .nil)) (.cons (.fr (.tp [3,4]) (.seq (.pf 0 [.fld ac lf])) (.cons (.std 0 [.fld ac lc] 3 (.pl 0 [.fld ac np])) (.cons (.iff ea7 (.cons (.app 2 ebq) .nil) .nil) .nil))) (.cons (.apd 0 [.fld ac np] (.nm 1)) (.ali 0 [.fld ac kt] 2 (.cons (.stf 0 ac ga (.call 15 (.cons (.pg 0 [.fld ac bm]) ebp))) (.cons (.stf 0 ac bn (.bop .add (.pg 0 [.fld ac ga]) eby)) eb6))))))⟩
def jS:Fn:=⟨[true,false],2,(.cons (.iff (.or edb ebz) edz .nil) (.cons (.ret (.cmp .le (.bop .sub (.pg 0 [.fld ac bn]) (.pg 0 [.fld ac ga])) ecy)) .nil))⟩
def ik:Fn:=⟨[true,false],2,(.cons (.iff (.or edb (.or (.pt 0 [.fld ac lf]) ebx)) edz .nil) (.cons (.ret (.cmp .le (.bop .sub (.bop .add (.pg 0 [.fld ac bn]) (.gc 23)) (.pg 0 [.fld ac ga])) ecy)) .nil))⟩
def dD:Fn:=⟨[true,false],3,(.cons ebh (.cons (.iff eb7 eaw .nil) (.cons (.iff ecf eaz eas) .nil)))⟩
def jT:Fn:=⟨[true,false],2,(.cons ean (.cons (.iff (.cmp .lt (.nm 1) ebw) (.cons (.iff ebi (.cons (.ex (.meth ac "come" 22 0 ee2)) .nil) .nil) (.cons eak .nil)) .nil) .nil))⟩
def lx:Fn:=⟨[true],2,(.cons (.set 1 (.comp 2 [] (.zip (.pf 0 [.fld ac np]) (.pf 0 [.fld ac kt])) (.tp [0,1]) .none (.tup ece))) (.cons (.ret (.tup (.cons (.mv 1) (.cons (.comp 1 [0] (.seq eb1) (.nm 0) .none (.pg 1 [.key 0,.fld ac lc])) .nil)))) .nil))⟩
def m8:Fn:=⟨[false,false,false],5,(.cons (.set 3 (.make ac 17 eb2)) (.cons (.fr (.nm 4) ebo ebg) (.cons (.ret (.meth ac lv 24 3 .nil)) .nil)))⟩
def ph:Fn:=⟨[false,false],2,(.cons (.ret (.ife ecu (.blt .min (.cons (.nm 1) (.cons (.gc 1) .nil))) (.nm 1))) .nil)⟩
def g6:Fn:=⟨[false,false,false,false],9,(.cons (.asg (.tp [4,5,6]) (.call 16 eb2)) (.cons (.set 7 (.cat (.nm 4) (.lst ee7))) (.cons (.set 8 (.comp 1 [1] edc (.nm 0) (.some (.cmp .nin (.nm 0) (.nm 1))) (.nm 0))) (.cons (.ret (.comp 1 [3,0,7,4] (.seq (.nm 8)) (.nm 0) (.some (.cmp .gt ear ebm)) (.nm 0))) .nil))))⟩
def uo:Fn:=⟨[false,false,false],6,(.cons efb (.cons ebb (.cons eay (.cons (.whl (.nm 5) (.cons ecv (.cons ebb (.cons eay .nil)))) (.cons (.ret (.tup edm)) .nil)))))⟩
def ly:Fn:=⟨[false,false,false,false],7,(.cons (.set 4 (.call 15 eb3)) (.cons ee6 (.cons eae (.cons eal (.cons (.app 5 (.bop .add (.gc 14) edv)) (.cons (.fr (.nm 6) (.seq (.nm 2)) (.cons ea1 .nil)) eec))))))⟩
def pj:Fn:=⟨[false,false,false],12,(.cons eeh (.cons (.asg (.tp [5,6,7]) (.call 16 eb3)) (.cons (.set 8 (.cat (.nm 5) (.lst ee8))) (.cons (.sdc 9 1 [8,0] edc (.nm 0) (.nm 0) (.ix (.nm 1) ec2)) (.cons (.fr (.tp [10,11]) (.zip (.call 2 ee4) (.nm 4)) (.cons (.sdk 9 (.nm 10) (.tup eao)) .nil)) (.cons (.ret (.nm 9)) .nil))))))⟩
def lz:Fn:=⟨[false,false,false],7,(.cons (.set 3 (.call 30 eb2)) (.cons (.sdc 4 2 [] (.seq eeu) (.tp [0,1]) (.nm 0) (.nm 1)) (.cons ee6 (.cons (.fr (.nm 6) ebo (.cons (.iff een eam .nil) (.cons (.iff eb8 eaf .nil) .nil))) eec))))⟩
def EL:Fn:=⟨[false,false,false],5,(.cons (.asg (.tp [3,4]) (.call 28 eb2)) (.cons (.ret (.call 31 (.cons (.nm 0) edm))) .nil))⟩
def bb:Fn:=⟨[false,true,true],4,(.cons (.set 3 eer) (.cons (.iff (.cmp .eq (.nm 3) (.str ce)) (.cons (.sti 1 eet ees) .nil) (.cons (.iff (.cmp .eq (.nm 3) (.str hW)) (.cons (.sti 1 eet (.bop .mod (.bop .add edn edo) (.gc 10))) .nil) (.cons (.iff (.cmp .eq (.nm 3) (.str hY)) (.cons (.sti 1 eet (.bop .mod (.bop .sub edn edo) (.gc 10))) .nil) (.cons (.iff (.cmp .eq (.nm 3) (.str hM)) (.cons (.app 2 edn) .nil) .nil) .nil)) .nil)) .nil)) .nil))⟩
def cJ:Fn:=⟨[false,false],2,(.cons (.ret (.or ecw (.and ecu (.cmp .eq edn (.int 0))))) .nil)⟩
noncomputable def F_told_plainly:Fn:=⟨[false,false],7,(.cons eb0 (.cons efb (.cons ee5 (.cons (.set 5 (.int 0)) (.cons (.whl eau (.cons ed4 (.cons (.app 4 (.nm 5)) (.cons eah (.cons ebe (.cons eap .nil)))))) eag)))))⟩
def uq:Fn:=⟨[false,false,false],4,(.cons (.set 3 (.call 12 (.cons (.nm 0) (.cons ed8 .nil)))) (.cons (.iff (.or (.isn false (.nm 3)) (.or (.cmp .ne (.ix eew (.int 0)) (.str hL)) (.cmp .ge (.nm 2) (.blt .len (.cons edf .nil))))) eeg .nil) (.cons (.ret (.ix edf (.nm 2))) .nil)))⟩
noncomputable def F_past_overs:Fn:=⟨[false,false],3,(.cons ebs (.cons (.whl (.and (.isn true (.nm 2)) ebl) (.cons (.set 1 (.ix eeu (.int 1))) (.cons ebs .nil))) (.cons (.ret (.nm 1)) .nil)))⟩
noncomputable def F_row_at:Fn:=⟨[false,false],6,(.cons ebs (.cons (.iff (.or (.isn false (.nm 2)) (.or (.cmp .eq edg (.str "pad")) (.cmp .eq edg (.str hL)))) eeg .nil) (.cons eeh (.cons (.iff ecj eed .nil) (.cons (.set 5 (.call 36 (.cons (.nm 0) (.cons (.ix (.nm 3) (.int 2)) (.cons (.ix (.nm 3) (.int 3)) .nil))))) (.cons (.ret (.ife (.isn false (.nm 5)) (.non) (.tup (.cons (.tup (.cons (.str ce) (.cons (.ix (.nm 3) (.int 1)) efc))) efa)))) .nil))))))⟩
noncomputable def F_run:Fn:=⟨[false,false],9,(.cons eb0 (.cons efb (.cons ee5 (.cons (.set 5 (.call 37 (.cons (.nm 0) ee1))) (.cons ebt (.cons (.whl (.and (.isn true (.nm 6)) eca) (.cons eei (.cons (.app 4 (.nm 5)) (.cons (.iff ecr ea3 .nil) (.cons ebf (.cons eaj (.cons ebt .nil))))))) (.cons (.iff ecb (.cons (.ret (.tup (.cons (.nm 3) (.cons (.str sw) efa)))) .nil) .nil) (.cons (.ret (.tup (.cons (.nm 3) (.cons (.ife (.isn false (.nm 6)) (.str "bad") (.str pu)) efa)))) .nil))))))))⟩
def gP:Fn:=⟨[false,false],2,(.cons (.ret (.ife (.cmp .lt (.nm 1) edt) eey (.int 0))) .nil)⟩
def xx:Fn:=⟨[false,false],3,(.cons (.set 2 (.call 40 edk)) (.cons (.ret (.lst (.cons (.bop .mul edx (.blt .int (.cons (.cmp .ge edx (.bop .pow (.int 10) (.int 18))) .nil))) (.cons (.bop .mod (.bop .mul (.bop .add (.bop .add (.bop .mod (.nm 2) (.int 2147483647)) (.bop .mul (.int 7121) (.nm 1))) (.int 43)) (.int 48271)) (.int 2147483629)) ee1)))) .nil))⟩
def pk:Fn:=⟨[true,false],4,(.cons (.iff (.cmp .gt eer (.int 0)) (.cons (.set 2 (.bop .mod eer (.nm 1))) (.cons (.sti 0 (.int 0) (.bop .fdiv eer (.nm 1))) eed)) .nil) (.cons (.sti 0 (.int 2) (.bop .add ees (.int 1))) (.cons (.set 3 (.bop .mod (.bop .mul (.bop .add eet (.bop .mul (.int 39373) ees)) (.bop .add (.int 48271) ees)) (.int 2147483647))) (.cons (.sti 0 (.int 1) (.bop .mod (.bop .add (.bop .mul (.nm 3) (.bop .add (.bop .mod (.nm 3) (.int 40009)) (.int 7))) ees) (.int 2147483629))) (.cons (.ret (.bop .mod (.bop .fdiv (.bop .mod (.bop .mul eet (.bop .add (.bop .mod eet (.int 1009)) (.int 3))) (.int 998244353)) (.int 7)) (.nm 1))) .nil)))))⟩
def q9:Fn:=⟨[true],3,(.cons (.set 1 (.call 42 (.cons (.nm 0) (.cons (.int 4) .nil)))) (.cons (.set 2 (.bop .add (.int 100) (.call 42 (.cons (.nm 0) (.cons (.int 99999900) .nil))))) (.cons (.ret (.ix (.lst (.cons (.ix (.lst (.cons (.int 100) (.cons (.int 101) (.cons (.int 12345) (.cons (.int 10000) (.cons (.int 9999) .nil)))))) ecm) (.cons (.bop .add (.int 100) (.call 42 (.cons (.nm 0) (.cons (.int 6) .nil)))) (.cons (.nm 2) (.cons (.int 99999999) .nil))))) (.nm 1))) .nil)))⟩
noncomputable def F_rows:Fn:=⟨[true],11,(.cons (.set 1 (.ife (.cmp .eq (.call 42 (.cons (.nm 0) (.cons (.int 8) .nil))) (.int 0)) (.bop .add (.int 20) (.call 42 (.cons (.nm 0) (.cons (.int 41) .nil)))) (.call 42 (.cons (.nm 0) (.cons (.int 11) .nil))))) (.cons (.set 2 (.ix (.lst (.cons (.int 2) (.cons (.int 5) (.cons (.int 9) .nil)))) (.call 42 (.cons (.nm 0) (.cons (.int 3) .nil))))) (.cons efb (.cons (.fr (.nm 4) (.rg1 (.nm 1)) (.cons (.par [5,6] (.cons (.call 42 (.cons (.nm 0) (.cons (.int 10) .nil))) (.cons ecm .nil))) (.cons (.iff (.cmp .lt (.nm 5) (.nm 2)) (.cons (.app 3 (.tup (.cons (.str ce) (.cons (.nm 6) (.cons (.call 43 ee4) .nil))))) (.cons (.cont) .nil)) .nil) (.cons (.set 5 (.call 42 (.cons (.nm 0) (.cons (.int 9) .nil)))) (.cons (.par [7,8] (.cons ecm (.cons (.call 42 (.cons (.nm 0) ec7)) .nil))) (.cons (.set 9 (.blt .max (.cons (.int 0) (.cons (.blt .min (.cons (.nm 1) (.cons (.bop .sub (.bop .add (.nm 4) (.call 42 (.cons (.nm 0) (.cons (.int 7) .nil)))) (.int 2)) .nil))) .nil)))) (.cons (.set 10 (.lst (.cons (.tup (.cons (.str ce) (.cons (.nm 6) (.cons (.call 42 (.cons (.nm 0) (.cons (.int 100) .nil))) .nil)))) (.cons (.tup (.cons (.str hW) edp)) (.cons (.tup (.cons (.str hY) edp)) (.cons (.tup ec5) (.cons (.tup (.cons (.str am) (.cons (.nm 9) .nil))) .nil))))))) (.cons (.set 10 (.cat (.nm 10) (.lst (.cons (.tup (.cons (.str bi) (.cons (.nm 6) (.cons (.nm 9) .nil)))) (.cons (.tup (.cons (.str bi) (.cons (.nm 6) efd))) (.cons (.tup ec5) (.cons (.ix (.lst (.cons (.tup (.cons (.str am) efd)) (.cons (.tup eef) .nil))) (.call 42 (.cons (.nm 0) (.cons (.int 2) .nil)))) .nil))))))) (.cons (.app 3 (.ix (.nm 10) (.nm 5))) .nil))))))))) (.cons (.ret (.nm 3)) .nil)))))⟩
def fZ:Fn:=⟨[false],1,(.cons (.ret (.and ect (.cmp .gt ees (.int 99)))) .nil)⟩
def EM:Fn:=⟨[false,false,false],3,(.cons (.ret (.ife (.or (.call 45 edr) eeb) (.int 2) (.int 1))) .nil)⟩
def pq:Fn:=⟨[false,false,false],9,(.cons (.par [3,4,5] ebn) (.cons (.fr (.nm 6) ebo (.cons (.fr (.tp [7,8]) (.seq (.nm 2)) (.cons (.iff eej (.cons (.set 5 (.bop .add (.nm 5) (.bop .mul (.int 2) (.blt .int (.cons (.or eee eaq) .nil))))) eab) .nil) .nil)) eac)) (.cons (.ret (.tup (.cons (.nm 3) (.cons (.nm 4) efc)))) .nil)))⟩
noncomputable def F_plain:Fn:=⟨[false,false],8,(.cons (.asg (.tp [2,3,4,5]) (.tup (.cons (.rep (.lst ee1) (.int 5)) ebn))) (.cons (.whl eau (.cons ed4 (.cons (.app 4 (.nm 5)) (.cons edh (.cons eah (.cons (.iff (.cmp .eq eev (.str ce)) (.cons (.sti 2 eex (.ix (.nm 6) (.int 2))) .nil) (.cons (.iff (.cmp .inn eev (.tup (.cons (.str hW) (.cons (.str hY) .nil)))) (.cons (.set 7 (.bop .mul (.ix (.nm 2) (.ix (.nm 6) (.int 2))) (.ix (.lst (.cons (.int 1) (.cons (.neg (.int 1)) .nil))) (.blt .int (.cons (.cmp .eq eev (.str hY)) .nil))))) (.cons (.sti 2 eex (.bop .mod (.bop .add edq (.nm 7)) (.int 100000000))) .nil)) (.cons (.iff (.cmp .eq eev (.str hM)) (.cons (.app 3 edq) .nil) (.cons (.iff (.or (.cmp .eq eev (.str am)) ebu) (.cons (.set 5 ed5) .nil) .nil) .nil)) .nil)) .nil)) .nil)))))) eag))⟩
def EN:Fn:=⟨[false,false],2,(.cons (.iff (.isi .seq (.nm 1)) (.cons (.iff (.or (.cmp .ne (.isi .list (.nm 0)) (.isi .list (.nm 1))) (.cmp .ne (.isi .tuple (.nm 0)) (.isi .tuple (.nm 1)))) edz .nil) (.cons (.iff ea8 edz .nil) (.cons (.ret (.blt .all (.cons (.comp 2 [] (.zip (.nm 0) (.nm 1)) (.tp [0,1]) .none ecs) .nil))) .nil))) .nil) (.cons (.iff (.or (.isn false (.nm 1)) (.isi .str (.nm 1))) (.cons (.ret (.and eek (.cmp .eq (.isi .str (.nm 0)) (.isi .str (.nm 1))))) .nil) .nil) (.cons (.iff (.isi .bool (.nm 1)) (.cons (.ret (.and (.isi .bool (.nm 0)) eek)) .nil) .nil) (.cons (.ret (.and (.isi .int (.nm 0)) (.and (.not (.isi .bool (.nm 0))) eek))) .nil))))⟩
noncomputable def F_law:Fn:=⟨[false],16,(.cons (.fr (.nm 1) (.rg1 (.bop .add (.int 1) ea9)) (.cons ebv (.cons ec8 (.cons (.set 4 (.ix (.lst (.cons (.int 0) (.cons (.bop .add (.int 1) ecg) (.cons ech eep)))) ecn)) (.cons (.set 5 (.tup (.cons (.nm 4) (.cons (.ix (.lst (.cons (.int 6) (.cons (.bop .add (.int 7) ecg) (.cons (.bop .add (.int 6) ech) eep)))) ecn) .nil)))) (.cons (.par [6,7] (.cons (.ix (.lst (.cons (.int 0) (.cons (.bop .add (.int 1) (.call 42 (.cons (.nm 2) (.cons (.int 30) .nil)))) eeq))) (.call 42 (.cons (.nm 2) (.cons (.int 3) .nil)))) eds)) (.cons ebc (.cons ea5 (.cons eax (.cons (.fr (.nm 12) (.seq (.tup (.cons (.call 42 (.cons (.nm 2) (.cons (.int 301) .nil))) (.cons (.ife (.cmp .eq (.call 42 (.cons (.nm 2) (.cons (.int 8) .nil))) (.int 0)) (.int 2000) (.call 42 (.cons (.nm 2) (.cons (.int 40) .nil)))) .nil)))) (.cons ebd (.cons (.iff (.not ead) edz .nil) (.cons (.iff (.or (.not eai) eel) edz .nil) .nil)))) .nil)))))))))) ed3)⟩
def jq:Df:=⟨"is_great","is_great",top 4,[cr],[cr],jl⟩
def kb:Df:=⟨"is_jump","is_jump",top 5,[cr],[cr],uk⟩
def g7:Df:=⟨"greats_of","greats_of",top 6,[bm],[bm],m3⟩
def jr:Df:=⟨"jumps_of","jumps_of",top 7,[bm],[bm],oZ⟩
def rg:Df:=⟨"falls","falls",top 8,[cr],[cr],Ay⟩
def f6:Df:=⟨wv,wv,top 29,[cr,bn,"long","goal"],[cr,bn,"long","goal"],lr⟩
def g8:Df:=⟨"row_cells","row_cells",top 30,[cr,bn,"long","goal"],[cr,bn,"long","goal","word",ga,"at"],m4⟩
def g9:Df:=⟨"pair_seen","pair_seen",top 31,["word","rest"],["word","rest","one","other"],m5⟩
def jt:Df:=⟨"nil_seen","nil_seen",top 32,[nX,bn],[nX,bn,"lowest","one","step"],pb⟩
def hU:Df:=⟨"lone_seen","lone_seen",top 33,[nX,bn],[nX,bn],m6⟩
def ju:Df:=⟨"two_seen","two_seen",top 34,[nX,"second",bn],[nX,"second",bn],pd⟩
def hX:Df:=⟨"pool_seen","pool_seen",top 35,[hF,bn],[hF,bn,ga,"end",wr],m7⟩
def kc:Df:=⟨"seen_at","seen_at",top 36,[hF,bn],[hF,bn,nX,"lone","two"],F_seen_at⟩
def kf:Df:=⟨"size_of","size_of",top 40,[bm,ci,"at"],[bm,ci,"at"],um⟩
def jv:Df:=⟨"has_over","has_over",top 41,[bm,eO],[bm,eO],pe⟩
def f9:Df:=⟨ww,ww,top 42,[bm,eO,bn],[bm,eO,bn],lu⟩
def m9:Df:=⟨"placed","placed",top 43,[bm,ci,pA],[bm,ci,pA,kt,"places","begins",bn,eO],F_placed⟩
def cT:Df:=⟨"__init__","Going.__init__",gZ 0 (top 45),[eH,bm,ci,hI],[eH,bm,ci,hI],gM⟩
def eF:Df:=⟨"is_due","Going.is_due",gZ 1 (top 45),[eH,eO],[eH,eO,"behind","first",bn],jn⟩
def ia:Df:=⟨"lay","Going.lay",gZ 2 (top 45),[eH,eO],[eH,eO,wr,"at",bn],F_Going_lay⟩
def ft:Df:=⟨"finds","Going.finds",gZ 3 (top 45),[eH,ol],[eH,ol],jS⟩
def dN:Df:=⟨"may_put","Going.may_put",gZ 4 (top 45),[eH,ol],[eH,ol],ik⟩
def gb:Df:=⟨"come","Going.come",gZ 5 (top 45),[eH,"at"],[eH,"at",ol],dD⟩
def fu:Df:=⟨"cross","Going.cross",gZ 6 (top 45),[eH,eO],[eH,eO],jT⟩
def gf:Df:=⟨lv,"Going.plan",gZ 7 (top 45),[eH],[eH,pA],lx⟩
def ib:Df:=⟨"pools_for","pools_for",top 46,[bm,ci,hI],[bm,ci,hI,pu,eO],m8⟩
def jw:Df:=⟨"farthest","farthest",top 48,[cr,lw],[cr,lw],ph⟩
def ic:Df:=⟨"too_short","too_short",top 49,[bm,ci,pA,lw],[bm,ci,pA,lw,"places","begins","end","goals","short"],g6⟩
def kg:Df:=⟨"settled","settled",top 50,[bm,hI,lw],[bm,hI,lw,ci,lv,"short"],uo⟩
def gg:Df:=⟨wP,wP,top 52,[bm,eO,wr,bn],[bm,eO,wr,bn,ga,hF,ol],ly⟩
def jx:Df:=⟨"goals_of","goals_of",top 53,[bm,ci,lv],[bm,ci,lv,pA,lc,"places","begins","end","spots","goals","at","use"],pj⟩
def gh:Df:=⟨wS,wS,top 54,[bm,ci,lv],[bm,ci,lv,"goals",kt,hF,eO],lz⟩
def xy:Df:=⟨"made","made",top 55,[bm,hI,lw],[bm,hI,lw,ci,lv],EL⟩
def ie:Df:=⟨"carry_out","carry_out",top 57,[cr,rc,"told"],[cr,rc,"told","word"],bb⟩
def ig:Df:=⟨"jumps_now","jumps_now",top 58,[cr,rc],[cr,rc],cJ⟩
def eG:Df:=⟨wT,wT,top 59,[bm,"most"],[bm,"most",rc,"told","went","at",cr],F_told_plainly⟩
def kh:Df:=⟨"word_at","word_at",top 61,[hF,ga,"at"],[hF,ga,"at","seen"],uq⟩
def gi:Df:=⟨xz,xz,top 62,[hF,bn],[hF,bn,"seen"],F_past_overs⟩
def nh:Df:=⟨"row_at","row_at",top 63,[hF,bn],[hF,bn,"seen",cr,"behind",ol],F_row_at⟩
def BQ:Df:=⟨"run","run",top 64,[hF,"most"],[hF,"most",rc,"told","trace",bn,"found",cr,"behind"],F_run⟩
def ki:Df:=⟨xL,xL,top 66,[ii,oD],[ii,oD],gP⟩
def xA:Df:=⟨"_law_tape","_law_tape",top 67,[ii,oD],[ii,oD,"_law_cell"],xx⟩
def xB:Df:=⟨"_law_take","_law_take",top 68,[pc,"_law_many"],[pc,"_law_many",zn,"_law_once"],pk⟩
def rh:Df:=⟨At,At,top 69,[pc],[pc,"_law_way","_law_any_one"],q9⟩
def xC:Df:=⟨"_law_rows","_law_rows",top 70,[pc],[pc,"_law_many","_law_share","_law_made_rows","_law_number","_law_way","_law_r","_law_s","_law_t","_law_near","_law_some"],F_rows⟩
def gj:Df:=⟨AT,AT,top 71,["_law_row"],["_law_row"],fZ⟩
def xD:Df:=⟨"_law_size","_law_size",top 72,[pi,sK,oD],[pi,sK,oD],EM⟩
def jy:Df:=⟨BT,BT,top 73,[pi,sK,"_law_pools"],[pi,sK,"_law_pools","_law_places","_law_begins","_law_place","_law_gap","_law_at","_law_numbers"],pq⟩
def rj:Df:=⟨Ch,Ch,top 74,[pi,"_law_most"],[pi,"_law_most","_law_registers","_law_told","_law_went","_law_at","_law_row","_law_other"],F_plain⟩
def xE:Df:=⟨"_law_same","_law_same",top 75,[zn,"_law_due"],[zn,"_law_due"],EN⟩
def D_law:Df:=⟨"law","law",top 76,[ii],[ii,oD,pc,pi,"_law_back","_law_reach","_law_hop","_law_kept","_law_cells",sK,"_law_plan","_law_places","_law_most","_law_told","_law_end","_law_went"],F_law⟩
noncomputable def pl:Pl where
 ds:=[(jq,.fn),(kb,.fn),(g7,.fn),(jr,.fn),(rg,.fn),(f6,.fn),(g8,.fn),(g9,.fn),(jt,.fn),(hU,.fn),(ju,.fn),(hX,.fn),(kc,.fn),(kf,.fn),(jv,.fn),(f9,.fn),(m9,.fn),(cT,.ini ac),(eF,.me ac),(ia,.me ac),(ft,.me ac),(dN,.me ac),(gb,.me ac),(fu,.me ac),(gf,.me ac),(ib,.fn),(jw,.fn),(ic,.fn),(kg,.fn),(gg,.fn),(jx,.fn),(gh,.fn),(xy,.fn),(ie,.fn),(ig,.fn),(eG,.fn),(kh,.fn),(gi,.fn),(nh,.fn),(BQ,.fn),(ki,.fn),(xA,.fn),(xB,.fn),(rh,.fn),(xC,.fn),(gj,.fn),(xD,.fn),(jy,.fn),(rj,.fn),(xE,.fn),(D_law,.fn)]
 cs:=[("FARTHEST_GO",.int 499),("FARTHEST_NIL",.int 99),("GREAT",.int 5000),("GREATEST_SMALL",.int 99),("HALF_WORD",.int 10000),("LESS",.int 3000),("LONG_GO",.int 7000),("LONG_NIL",.int 9000),("MOST_WORDS",.int 100),("NILS_OF_ONE",.int 200),("NUMBERS",.int 100000000),("OVER",.int 7001),("OVER_CELLS",.int 2),("PAD",.int 7002),("POOL",.int 7100),("REGISTERS",.int 5),("SAME_PLACE",.int 5000),("SET",.int 1000),("SHORT_GO",.int 6500),("SHORT_NIL",.int 8100),("STOP",.int 0),("SUM",.int 2000),("TELL",.int 4000),("WORD_CELLS",.int 2)]
 nog:=["abs","all","bool","enumerate","int","isinstance","len","list","max","min","range","sorted","str","tuple","zip"]
 fld:=[(ac,ga),(ac,np),(ac,ci),(ac,bn),(ac,hI),(ac,bm),(ac,lc),(ac,lf),(ac,kt)]
abbrev HY:Nat:=50
theorem HZ:(pl.ds.all λz=>Aw pl.tb z.1)=true:=by decide +kernel
noncomputable abbrev It(i:Int):OD:=.fz (.int i)
abbrev Db(i:Int):Option OD:=some (It i)
abbrev Tp(a b c:Int):OD:=.lst [It a,It b,It c]
abbrev Ev(a b c:Int):Option OD:=some (Tp a b c)
structure TpOk (b c:Int)(n:Nat):Prop where
 b0:0<=b
 b1:b<2147483629
 c0:0<=c
 c1:c<=n
theorem cK{i j:Int}(h:(-(2^64)<i/\i<2^64)\/(-(2^64)<j/\j<2^64)):yE .mul (.int i) (.int j)=some (.int (i*j)):=bs rfl (bs rfl (bs (bg h rfl) rfl))
theorem bq{i j:Int}(h:0<j):yE .mod (.int i) (.int j)=some (.int (i%j)):=bs rfl (bs rfl (bs (bg h rfl) rfl))
theorem jz{i j:Int}(h:0<j/\j<1073741824):yE .fdiv (.int i) (.int j)=some (.int (i/j)):=bs rfl (bs rfl (bs (bg h rfl) rfl))
theorem H8{x m:Int}(P:0<m)(h:m<=2^64):-(2^64)<x%m/\x%m<2^64:=by
 have O:=abi x (show m≠0 by lia);have Z:=abj x P
 lia
theorem up{m a k b:Nat}(h:m<=a)(e:Nat.ble (a+k) b=true):m+k<=b:=aan (ach h k) (Nat.le_of_ble_eq_true e)
theorem L8{m k b:Nat}(e:Nat.ble k b=true):m+k<=m+b:=by simp_all
theorem bc{n m:Nat}{a b c many:Int}(h:TpOk b c m)(Y:m<=1000000)(P:0<many)(O:many<1073741824):∃x f C M,pl.pg.call (n+1) 42 [Tp a b c,It many]=some (It x,[Tp f C M,It many])/\0<=x/\x<many/\TpOk C M (m+1):=by
 have S:=h.b0;have I:=h.b1;have U:=h.c0;have A:=h.c1;by_cases j:0<a
 ·refine⟨a%many,a/many,b,c,?_,abi _ (by lia),abj _ P,⟨h.b0,h.b1,h.c0,by lia⟩⟩;refine ai (fn:=pk) (ρ:=[Ev (a/many) b c,Db many,Db (a%many),none]) rfl rfl ?_ rfl;refine ak (ao (ar (aq rfl rfl rfl rfl (show some (decide (0<a))=some true by grind))) ?_);refine ab (ae (ah rfl rfl rfl rfl (bq P)) rfl rfl rfl) ?_;refine ab (jk (ah rfl rfl rfl rfl (jz ⟨P,O⟩)) rfl rfl rfl rfl rfl rfl rfl) rfl
 ·exact⟨_,a,_,c+1,ai (fn:=pk) rfl rfl (ab (s_ifF (ar (aq rfl rfl rfl rfl (show some (decide (0<a))=some false by grind))) rfl) (ab (jk rfl rfl rfl rfl rfl rfl rfl rfl) (ab (ae (ah (ah (ah rfl (ah rfl rfl rfl rfl (cK (.inl (by decide)))) rfl rfl rfl) (ah rfl rfl rfl rfl rfl) rfl rfl (cK (.inr (by lia)))) rfl rfl rfl (bq (by decide))) rfl rfl rfl) (ab (jk (ah (ah (ah rfl (ah (ah rfl rfl rfl rfl (bq (by decide))) rfl rfl rfl rfl) rfl rfl (cK (.inl (H8 (by decide) (by decide))))) rfl rfl rfl rfl) rfl rfl rfl (bq (by decide))) rfl rfl rfl rfl rfl rfl rfl) (ak (ag (ah (ah (ah (ah rfl (ah (ah rfl rfl rfl rfl (bq (by decide))) rfl rfl rfl rfl) rfl rfl (cK (.inl (H8 (by decide) (by decide))))) rfl rfl rfl (bq (by decide))) rfl rfl rfl (jz (by decide))) rfl rfl rfl (bq P)) rfl)))))) rfl,abi _ (by lia),abj _ P,⟨abi _ (by decide),abj _ (by decide),by lia,by lia⟩⟩
theorem EO{n:Nat}{ns:List Int}{k:Nat}:∃x,pl.pg.call (n+1) 40 [.fz (.list (ns.map PyData.int)),It k]=some (It x,[.fz (.list (ns.map PyData.int)),It k]):=by
 by_cases T:(k:Int)<ns.length
 ·have l:k<ns.length:=by lia
  refine⟨ns[k],ai (fn:=gP) rfl rfl (ak (ag (cI (ar (aq rfl rfl rfl rfl (k:=true) ?_)) (ax rfl rfl rfl (aR (bZ (x:=.int ns[k]) ?_)))) rfl)) rfl⟩
  ·show some (decide ((k:Int)<((ns.map PyData.int).length:Nat)))=some true
   grind
  ·simp
 ·refine⟨0,ai (fn:=gP) rfl rfl (ak (ag (bY (ar (aq rfl rfl rfl rfl (k:=false) ?_)) rfl) rfl)) rfl⟩;show some (decide ((k:Int)<((ns.map PyData.int).length:Nat)))=some false
  grind
theorem ER{n:Nat}{ns:List Int}{k:Nat}(hk:k<=8):∃a b,pl.pg.call (n+2) 41 [.fz (.list (ns.map PyData.int)),It k]=some (Tp a b 0,[.fz (.list (ns.map PyData.int)),It k])/\TpOk b 0 0:=by obtain⟨x,F⟩:=EO (n:=n) (ns:=ns) (k:=k);refine⟨_,_,ai (fn:=xx) rfl rfl (ab (ae (af rfl rfl F rfl) rfl rfl rfl) (ak (ag (bX (aa (ah rfl (aJ (aa (aq rfl (ah rfl rfl rfl rfl rfl) rfl rfl rfl) aj) rfl rfl) rfl rfl (cK (.inr ?_))) (aa (ah (ah (ah (ah (ah rfl rfl rfl rfl (bq (by decide))) (ah rfl rfl rfl rfl (cK (.inl (by decide)))) rfl rfl rfl) rfl rfl rfl rfl) rfl rfl rfl (cK (.inr (by decide)))) rfl rfl rfl (bq (by decide))) (aa rfl aj))) rfl rfl) rfl))) rfl,abi _ (by decide),abj _ (by decide),Int.le_refl _,Int.le_refl _⟩;exact(show ∀q:Bool,-(2^64)<(if q=true then (1:Int) else 0)/\(if q=true then (1:Int) else 0)<2^64 by decide) _
theorem eW{ks:List Int}{i:Int}(P:0<=i)(O:i<ks.length):∃k,k∈ks/\atI (ks.map It) i=Db k:=by obtain⟨x,F,e⟩:=q8 (xs:=ks.map It) P (by rw[aae];exact O);obtain⟨k,T,rfl⟩:=aaH.mp F;exact⟨k,T,e⟩
theorem TpOk.up{b c:Int}{m y:Nat}(h:TpOk b c m)(Y:m<=y):TpOk b c y:=⟨h.b0,h.b1,h.c0,by have:=h.c1;lia⟩
theorem Az{n m:Nat}{a b c:Int}(h:TpOk b c m)(Y:m<=900000):∃k f C M,pl.pg.call (n+2) 43 [Tp a b c]=some (It k,[Tp f C M])/\(100<=k/\k<=99999999)/\TpOk C M (m+4):=by
 obtain⟨w,I,y,l,J,e,w1,i⟩:=bc (n:=n) (a:=a) (many:=4) h (up (k:=0) Y rfl) (by decide) (by decide);obtain⟨U,A,Q,q,B,u,d,t2⟩:=bc (n:=n) (a:=I) (many:=99999900) i (up (k:=1) Y rfl) (by decide) (by decide);obtain⟨o,H,W,j,s,p,O,F⟩:=bc (n:=n) (a:=A) (many:=5) t2 (up (k:=2) Y rfl) (by decide) (by decide);obtain⟨X,P,Z,v,t,r,S,D⟩:=bc (n:=n) (a:=H) (many:=6) F (up (k:=3) Y rfl) (by decide) (by decide);obtain⟨g,N,L⟩:=eW (ks:=[100,101,12345,10000,9999]) p O;obtain⟨k,T,ek⟩:=eW (ks:=[g,100+X,100+U,99999999]) e w1;refine⟨k,P,Z,v,ai (fn:=q9) rfl rfl (ab (ae (af rfl rfl J rfl) rfl rfl rfl) (ab (ae (ah rfl (af rfl rfl B rfl) rfl rfl rfl) rfl rfl rfl) (ak (ag (ax (bX (aa (ax rfl (af rfl rfl s rfl) rfl (fJ L)) (aa (ah rfl (af rfl rfl t rfl) rfl rfl rfl) (aa rfl (aa rfl aj)))) rfl rfl) rfl rfl (fJ ek)) rfl)))) rfl,?_,D⟩;have z:100<=g/\g<=99999999:=(show ∀x∈[100,101,12345,10000,9999],(100:Int)<=x/\x<=99999999 by decide) g N;rcases aaa.mp T with rfl|T
 ·exact z
 rcases aaa.mp T with rfl|T
 ·omega
 rcases aaa.mp T with rfl|T
 ·omega
 rw[aaw.mp T];decide
inductive R where|st (r k:Int)|ot (w:Str) (xs:List Int) (h:w≠ce/\PyData.strOk w=true)
def R.num:R->Int|.st _ k=>k|.ot _ _ _=>0
inductive Rkd:Str->List Int->Prop
 |sum (a b:Int) (h:(0<=a/\a<=4)/\0<=b/\b<=4):Rkd hW [a,b]
 |less (a b:Int) (h:(0<=a/\a<=4)/\0<=b/\b<=4):Rkd hY [a,b]
 |tell (a:Int) (h:0<=a/\a<=4):Rkd hM [a]
 |go (a:Int):Rkd am [a]
 |nil (a b:Int) (h:0<=a/\a<=4):Rkd bi [a,b]
 |stop:Rkd bv []
def R.ok:R->Prop|.st r k=>(0<=r/\r<=4)/\0<=k/\k<=99999999|.ot w xs _=>Rkd w xs
abbrev Nb(rs:List R):Prop:=∀r∈rs,r.ok
theorem Nb.snoc(h:Nb rs)(D:r.ok):Nb (rs++[r]):=by grind
abbrev pv(a b:Int):R:=.ot hW [a,b] (by decide +kernel)
abbrev jA(a b:Int):R:=.ot hY [a,b] (by decide +kernel)
abbrev eI(a:Int):R:=.ot hM [a] (by decide +kernel)
abbrev AA(a:Int):R:=.ot am [a] (by decide +kernel)
abbrev lA(a b:Int):R:=.ot bi [a,b] (by decide +kernel)
abbrev H9:R:=.ot bv [] (by decide +kernel)
def R.d:R->PyData|.st r k=>.tuple [.str ce,.int r,.int k]|.ot w xs _=>.tuple (.str w::xs.map PyData.int)
def R.jm:R->Bool|.st _ _=>false|.ot w _ _=>decide (w=am)||decide (w=bi)
def R.tg:R->Int|.st _ _=>0|.ot _ xs _=>xs.getLastD 0
abbrev Jok(N:Int)(r:R):Prop:=r.jm=true->0<=r.tg/\r.tg<=N/\∃ys,r.d=.tuple (ys++[.int r.tg])
abbrev Jb(N:Int)(rs:List R):Prop:=∀r∈rs,Jok N r
theorem Jb.snoc(h:Jb N rs)(D:Jok N r):Jb N (rs++[r]):=λx F=>by
 rcases aak.mp F with F|F
 ·exact h x F
 ·rw[aaw.mp F];exact D
theorem Ia(P:0<=a)(O:a<=N):Jok N (AA a):=λ_=>⟨P,O,[.str am],rfl⟩
theorem BR(P:0<=a)(O:a<=N):Jok N (lA r a):=λ_=>⟨P,O,[.str bi,.int r],rfl⟩
theorem pw(h:r.jm=false):Jok N r:=by grind
abbrev Rs(rs:List R):OD:=.lst (rs.map λr=>.fz r.d)
abbrev EQ(rs:List R):Option OD:=some (Rs rs)
theorem BS{rs:List R}{i:Int}(P:0<=i)(O:i<rs.length):∃r,r∈rs/\atI (rs.map λr=>OD.fz r.d) i=some (.fz r.d):=by
 obtain⟨x,F,e⟩:=q8 (xs:=rs.map λr=>OD.fz r.d) P (by grind)
 grind
theorem AB{r:R}(h:ρ[j]?.join=EQ rs)(O:atI (rs.map λr=>OD.fz r.d) i=some (.fz r.d)):bE ρ (.rf j) i=some (.fz r.d,ρ):=by
 obtain⟨k,J,B⟩:=bnd O;have s:itemS (Rs rs) i=some (r.d,Rs rs):=by simp only[Rs,itemS,J,B,OD.dat];rw[bD B]
 simp only[bE,h,s];rw[set_self (join_some h)]
theorem rk:Rs (rs++[r])=.lst ((rs.map λr=>OD.fz r.d)++[.fz r.d]):=by grind
abbrev Mj:=pl.pg.ct
theorem ur(h:TpOk b c m)(Y:m<=100000)(hl:rs.length<=1000)(m0:0<=many)(m1:many<=100):
  ∃fl p,((bj (.nm 4) (.fz (.int i)) [Ev a b c,Db many,Db share,EQ rs,o4,o5,o6,o7,o8,o9,o10]).bind λρ1=>aD (Mj (n+2)) (match F_rows.body with|.cons _ (.cons _ (.cons _ (.cons (.fr _ _ b) _)))=>b|_=>.nil) ρ1)=some (fl,p)/\(fl=.nx\/fl=.ct)/\∃(r:R) (a' C M:Int) (p4 p5 p6 p7 p8 p9 d0:Option OD),p=[Ev a' C M,Db many,Db share,some (Rs (rs++[r])),p4,p5,p6,p7,p8,p9,d0]/\(r.ok/\Jok many r)/\TpOk C M (m+8):=by
 obtain⟨v,a1,b1,c1,J,d6,d3,t1⟩:=bc (many:=10) h (up (k:=0) Y rfl) (by decide) (by decide);obtain⟨U,a2,Q,c2,e2,u,d5,N⟩:=bc (many:=5) t1 (up Y rfl) (by decide) (by decide);by_cases hw:v<share
 ·obtain⟨g,H,W,j,s,g0,F⟩:=Az N (up (k:=2) Y rfl);refine⟨.ct,_,bs rfl (ab (fI (aa (af rfl rfl J rfl) (aa (af rfl rfl e2 rfl) aj)) rfl rfl rfl) (KL (ao (ar (aq rfl rfl rfl rfl (show some (decide (v<share))=some true by rw[Dac hw]))) (ab (bH rfl (bh (aa rfl (aa rfl (aa (af rfl rfl s rfl) aj))) rfl rfl rfl) rfl rfl (by rw[aae];omega) (by rw[rk];rfl)) rfl)))),.inr rfl,.st U g,H,W,j,Db i,Db v,Db U,o7,o8,o9,o10,rfl,⟨⟨⟨u,by omega⟩,by omega,g0.2⟩,pw rfl⟩,F.up (L8 (k:=6) rfl)⟩
 ·obtain⟨o,H,W,j,s,c9,b9,F⟩:=bc (many:=9) N (up (k:=2) Y rfl) (by decide) (by decide);obtain⟨X,P,b4,c4,e4,a0,S,t4⟩:=bc (many:=5) F (up (k:=3) Y rfl) (by decide) (by decide);obtain⟨t,B,b5,c5,e5,b0,a9,t5⟩:=bc (n:=n+1) (a:=P) (many:=many+1) t4 (up (k:=4) Y rfl) (by omega) (by omega);obtain⟨L,a6,b6,y,e6,d7,d8,t6⟩:=bc (n:=n+1) (a:=B) (many:=7) t5 (up (k:=5) Y rfl) (by decide) (by decide);obtain⟨x,l,b7,c7,e7,d1,d4,t7⟩:=bc (n:=n+1) (a:=a6) (many:=100) t6 (up (k:=6) Y rfl) (by decide) (by decide);obtain⟨x8,T,w,O,e8,d2,q,t8⟩:=bc (n:=n+1) (a:=l) (many:=2) t7 (up (k:=7) Y rfl) (by decide) (by decide);obtain⟨I,Z,e9⟩:=BS (rs:=[AA t,H9]) d2 q;obtain⟨e,f⟩:∃e:Int,e=(if (if i+L-2<many then i+L-2 else many)>0 then (if i+L-2<many then i+L-2 else many) else 0):=⟨_,rfl⟩
  obtain⟨r,D,c0⟩:=BS (rs:=[.st U x,pv U X,jA U X,eI U,AA e,lA U e,lA U t,eI U,I]) c9 b9;have hb:r.ok:=by
   have A:I.ok:=by
    rcases aaa.mp Z with rfl|Z
    ·exact Rkd.go _
    ·rw[aaw.mp Z];exact Rkd.stop
   rcases aaa.mp D with rfl|D
   ·exact⟨⟨u,by omega⟩,d1,by omega⟩
   rcases aaa.mp D with rfl|D;exact Rkd.sum _ _ ⟨⟨u,by omega⟩,a0,by omega⟩;rcases aaa.mp D with rfl|D;exact Rkd.less _ _ ⟨⟨u,by omega⟩,a0,by omega⟩;rcases aaa.mp D with rfl|D;exact Rkd.tell _ ⟨u,by omega⟩;rcases aaa.mp D with rfl|D;exact Rkd.go _;rcases aaa.mp D with rfl|D;exact Rkd.nil _ _ ⟨u,by omega⟩;rcases aaa.mp D with rfl|D;exact Rkd.nil _ _ ⟨u,by omega⟩;rcases aaa.mp D with rfl|D;exact Rkd.tell _ ⟨u,by omega⟩;rw[aaw.mp D];exact A
  have n0:0<=e:=by rw[f];split<;>omega
  have n1:e<=many:=by rw[f];split<;>(try split)<;>omega
  have hj:Jok many r:=by
   have A:Jok many I:=by
    rcases aaa.mp Z with rfl|Z
    ·exact Ia b0 (Int.lt_add_one_iff.mp a9)
    ·rw[aaw.mp Z];exact pw rfl
   rcases aaa.mp D with rfl|D;exact pw rfl;rcases aaa.mp D with rfl|D;exact pw rfl;rcases aaa.mp D with rfl|D;exact pw rfl;rcases aaa.mp D with rfl|D;exact pw rfl;rcases aaa.mp D with rfl|D;exact Ia n0 n1;rcases aaa.mp D with rfl|D;exact BR n0 n1;rcases aaa.mp D with rfl|D;exact BR b0 (Int.lt_add_one_iff.mp a9);rcases aaa.mp D with rfl|D;exact pw rfl;rw[aaw.mp D];exact A
  refine⟨.nx,_,bs rfl (ab (fI (ρ3:=[Ev a2 Q c2,Db many,Db share,EQ rs,Db i,Db v,Db U,o7,o8,o9,o10]) (aa (af (ρ3:=[Ev a1 b1 c1,Db many,Db share,EQ rs,Db i,o5,o6,o7,o8,o9,o10]) rfl rfl J rfl) (aa (af (ρ3:=[Ev a2 Q c2,Db many,Db share,EQ rs,Db i,o5,o6,o7,o8,o9,o10]) rfl rfl e2 rfl) aj)) rfl rfl rfl) (ab (s_ifF (ar (aq rfl rfl rfl rfl (show some (decide (v<share))=some false by rw[Dab hw]))) rfl) ?_)),.inl rfl,r,T,w,O,Db i,Db o,Db U,Db X,Db t,Db e,some (Rs [.st U x,pv U X,jA U X,eI U,AA e,lA U e,lA U t,eI U,I]),rfl,⟨hb,hj⟩,t8⟩;refine ab (ae (ρ3:=[Ev H W j,Db many,Db share,EQ rs,Db i,Db o,Db U,o7,o8,o9,o10]) (af (ρ3:=[Ev H W j,Db many,Db share,EQ rs,Db i,Db v,Db U,o7,o8,o9,o10]) rfl rfl s rfl) rfl rfl rfl) ?_;refine ab (fI (ρ3:=[Ev B b5 c5,Db many,Db share,EQ rs,Db i,Db o,Db U,Db X,Db t,o9,o10]) (aa (af (ρ3:=[Ev P b4 c4,Db many,Db share,EQ rs,Db i,Db o,Db U,o7,o8,o9,o10]) rfl rfl e4 rfl) (aa (af (ρ3:=[Ev B b5 c5,Db many,Db share,EQ rs,Db i,Db o,Db U,o7,o8,o9,o10]) rfl rfl e5 rfl) aj)) rfl rfl rfl) ?_;refine ab (ae (ρ3:=[Ev a6 b6 y,Db many,Db share,EQ rs,Db i,Db o,Db U,Db X,Db t,Db e,o10]) (aJ (aa rfl (aa (aJ (aa rfl (aa (ah (ah rfl (af (ρ3:=[Ev a6 b6 y,Db many,Db share,EQ rs,Db i,Db o,Db U,Db X,Db t,o9,o10]) rfl rfl e6 rfl) rfl rfl rfl) rfl rfl rfl rfl) aj)) rfl rfl) aj)) rfl (show _=some (PyData.int e) by rw[f];rfl)) rfl rfl rfl) ?_;refine ab (ae (ρ3:=[Ev l b7 c7,Db many,Db share,EQ rs,Db i,Db o,Db U,Db X,Db t,Db e,some (Rs [.st U x,pv U X,jA U X,eI U,AA e])]) (bX (zs:=[.fz (R.st U x).d,.fz (pv U X).d,.fz (jA U X).d,.fz (eI U).d,.fz (AA e).d]) (aa (bh (z:=.fz (R.st U x).d) (aa rfl (aa rfl (aa (af (ρ3:=[Ev l b7 c7,Db many,Db share,EQ rs,Db i,Db o,Db U,Db X,Db t,Db e,o10]) rfl rfl e7 rfl) aj))) rfl rfl rfl) (aa rfl (aa rfl (aa rfl (aa rfl aj))))) rfl rfl) rfl rfl rfl) ?_;refine ab (ae (ρ3:=[Ev T w O,Db many,Db share,EQ rs,Db i,Db o,Db U,Db X,Db t,Db e,some (Rs [.st U x,pv U X,jA U X,eI U,AA e,lA U e,lA U t,eI U,I])]) (qZ rfl (bX (aa rfl (aa rfl (aa rfl (aa (ax rfl (af (ρ3:=[Ev T w O,Db many,Db share,EQ rs,Db i,Db o,Db U,Db X,Db t,Db e,some (Rs [.st U x,pv U X,jA U X,eI U,AA e])]) rfl rfl e8 rfl) rfl (fJ e9)) aj)))) rfl rfl) rfl rfl (show 9<=1000000 by decide)) rfl rfl rfl) ?_;exact ab (bH (ρ3:=[Ev T w O,Db many,Db share,some (Rs (rs++[r])),Db i,Db o,Db U,Db X,Db t,Db e,some (Rs [.st U x,pv U X,jA U X,eI U,AA e,lA U e,lA U t,eI U,I])]) (xs:=rs.map λr=>.fz r.d) rfl (ax rfl rfl rfl (AB rfl c0)) rfl rfl (by rw[aae];omega) (by rw[rk];rfl)) rfl
theorem uv:∀d∈dm lo n,∃i,d=.int i:=λd W=>by obtain⟨i,_,rfl⟩:=aaH.mp W;simp
theorem uw(h:TpOk b c (m+3))(Y:m<=90000)(k:0<=many)(w:many<=60):∃(rs:List R) (f C M:Int) (o4 o5 o6 o7 o8 X P:Option OD),bR (λd p=>(bj (.nm 4) (.fz d) p).bind λρ1=>aD (Mj (n+2)) (match F_rows.body with|.cons _ (.cons _ (.cons _ (.cons (.fr _ _ b) _)))=>b|_=>.nil) ρ1) (dm 0 many.toNat) [Ev a b c,Db many,Db sh,some (Rs []),none,none,none,none,none,none,none]=some (.nx,[Ev f C M,Db many,Db sh,EQ rs,o4,o5,o6,o7,o8,X,P])/\rs.length<=60/\(Nb rs/\Jb rs.length rs)/\TpOk C M (m+500):=by
 have I:many.toNat<=60:=by omega
 have S:many<=100:=abL w (by decide);obtain⟨p,B,rs,A,Q,q,o4,o5,o6,o7,o8,X,P,rfl,l,_,O,N⟩:=uj (step:=λd p=>(bj (.nm 4) (.fz d) p).bind λρ1=>aD (Mj (n+2)) (match F_rows.body with|.cons _ (.cons _ (.cons _ (.cons (.fr _ _ b) _)))=>b|_=>.nil) ρ1)
  (λds U=>∃(rs:List R) (a b c:Int) (o4 o5 o6 o7 o8 X P:Option OD),U=[Ev a b c,Db many,Db sh,EQ rs,o4,o5,o6,o7,o8,X,P]/\rs.length+ds.length=many.toNat/\(∀d∈ds,∃i,d=.int i)/\(Nb rs/\Jb many rs)/\TpOk b c (m+3+8*rs.length)) (λd ds U=>by
   rintro⟨rs,a,b,c,o4,o5,o6,o7,o8,X,P,rfl,l,W,O,t⟩;obtain⟨i,rfl⟩:=W _ aai;have D:rs.length<=60:=aan (Nat.le.intro l) I;obtain⟨s,p,e,y,r,f,C,M,J,x,H,j,g,F,v,rfl,o,z⟩:=ur t (aan (Nat.add_le_add (ach Y 3) (aci 8 D)) (by decide)) (aan D (by decide):rs.length<=1000) k S;have u:(rs++[r]).length=rs.length+1:=aaj;exact⟨s,_,e,y,rs++[r],f,C,M,J,x,H,j,g,F,v,rfl,by rw[u,Nat.add_right_comm];exact l,λd T=>W d (aag _ T),⟨O.1.snoc o.1,O.2.snoc o.2⟩,z.up (by rw[u];exact aac _)⟩)
  (ds:=dm 0 many.toNat) ⟨[],a,b,c,none,none,none,none,none,none,none,rfl,by rw[mx,List.length_nil,aaQ],uv,⟨(λr D=>absurd D aar),(λr D=>absurd D aar)⟩,h⟩
 have l:rs.length=many.toNat:=l;exact⟨rs,A,Q,q,o4,o5,o6,o7,o8,X,P,B,l▸I,⟨O.1,(show (rs.length:Int)=many by omega)▸O.2⟩,N.up (aan (acj (aci 8 (l▸I)) (m+3)) (acj (show 3+8*60<=500 by decide) m))⟩
theorem ES(h:TpOk b c m)(Y:m<=90000):∃(rs:List R) (f C M:Int),pl.pg.call (n+3) 44 [Tp a b c]=some (Rs rs,[Tp f C M])/\rs.length<=60/\(Nb rs/\Jb rs.length rs)/\TpOk C M (m+500):=by
 have p:∀(a b c many:Int),TpOk b c (m+2)->0<=many->many<=60->∃(rs:List R) (f C M:Int) (I:DEnv),aD (Mj (n+2)) (match F_rows.body with|.cons _ ss=>ss|_=>.nil) [Ev a b c,Db many,none,none,none,none,none,none,none,none,none]=some (.rt (Rs rs),Ev f C M::I)/\rs.length<=60/\(Nb rs/\Jb rs.length rs)/\TpOk C M (m+500):=by intro a b c many h o w;obtain⟨v,x,y,l,J,r,e,i⟩:=bc (many:=3) h (up Y rfl) (by decide) (by decide);obtain⟨S,_,L⟩:=eW (ks:=[2,5,9]) r e;obtain⟨rs,A,Q,q,o4,z,T,D,g,X,P,B,t,O,N⟩:=uw i Y o w;exact⟨rs,A,Q,q,_,ab (ae (ax rfl (af rfl rfl J rfl) rfl (fJ L)) rfl rfl rfl) (ab (ae rfl rfl rfl rfl) (ab (eE (gL rfl rfl (by omega)) B) (ak (ag rfl rfl)))),t,O,N⟩
 obtain⟨v,x,y,l,J,r,e,i⟩:=bc (many:=8) h (up (k:=0) Y rfl) (by decide) (by decide);by_cases Z:v=0
 ·obtain⟨U,A,Q,q,B,u,d,N⟩:=bc (many:=41) i (up Y rfl) (by decide) (by decide);obtain⟨rs,H,W,j,I,s,t,O,F⟩:=p A Q q (20+U) N (by omega) (by omega);exact⟨rs,H,W,j,ai rfl rfl (ab (ae (cI (ar (aq (af rfl rfl J rfl) rfl rfl rfl (show some (decide (v=0))=some true by rw[Dac Z]))) (ah rfl (af rfl rfl B rfl) rfl rfl rfl)) rfl rfl rfl) s) rfl,t,O,F⟩
 ·obtain⟨U,A,Q,q,B,u,d,N⟩:=bc (many:=11) i (up Y rfl) (by decide) (by decide);obtain⟨rs,H,W,j,I,s,t,O,F⟩:=p A Q q U N (by omega) (by omega);exact⟨rs,H,W,j,ai rfl rfl (ab (ae (bY (ar (aq (af rfl rfl J rfl) rfl rfl rfl (show some (decide (v=0))=some false by rw[Dab Z]))) (af rfl rfl B rfl)) rfl rfl rfl) s) rfl,t,O,F⟩
def R.gr:R->Bool|.st _ k=>decide (99<k)|.ot _ _ _=>false
abbrev Rd(r:R):OD:=.fz r.d
abbrev Fa(r:R):Option OD:=some (Rd r)
abbrev Rl(rs:List R):OD:=.fz (.list (rs.map R.d))
abbrev Go(rs:List R):Option OD:=some (Rl rs)
theorem aO{Y:Type}{x:Y}{xs:List Y}:atI (x::xs) 0=some x:=bZ (k:=0) rfl
theorem AD{n:Nat}(r:R):pl.pg.call (n+1) 0 [Rd r]=some (.fz (.bool r.gr),[Rd r]):=by
 cases r with
 |st r k=>rfl
 |ot w Y h=>exact ai (fn:=jl) rfl rfl (ak (ag (lp (aq (ax rfl rfl rfl (aN aO)) rfl rfl rfl (show some (decide (w=ce))=some false by rw[Dab h.1]))) rfl)) rfl
theorem Ib{n:Nat}(r:R):pl.pg.call (n+1) 45 [Rd r]=some (.fz (.bool r.gr),[Rd r]):=by
 cases r with
 |st r k=>rfl
 |ot w Y h=>exact ai (fn:=fZ) rfl rfl (ak (ag (lp (aq (ax rfl rfl rfl (aN aO)) rfl rfl rfl (show some (decide (w=ce))=some false by grind))) rfl)) rfl
def R.wd:R->Str|.st _ _=>ce |.ot w _ _=>w
def R.tl:R->List PyData|.st r k=>[.int r,.int k]|.ot _ xs _=>xs.map PyData.int
theorem dats_fz:∀ds:List PyData,OD.dv (ds.map OD.fz)=some ds
 |[]=>rfl
 |d::ds=>by rw[aal,OD.dv,dats_fz ds];rfl
theorem dat_fz(ds:List PyData):(OD.lst (ds.map OD.fz)).dat=some (.list ds):=by rw[OD.dat,dats_fz]
theorem frz_rf{ρ p:DEnv}{j:Nat}{x:OD}{d:PyData}(h:ρ[j]?.join=some x)(W:x.dat=some d)(D:ρ.set j (some (.fz d))=p):frz1 ρ (.rf j)=some (d,p):=by simp only[frz1,h,abR,W,Option.map_some,D]
theorem unca_nil{ρ F:DEnv}:ei ρ [] F=ρ:=by cases F with|nil=>rfl|cons o F=>cases o<;>rfl
theorem R.d_is(r:R):r.d=.tuple (.str r.wd::r.tl):=by cases r<;>rfl
abbrev Il(gs:List Int):OD:=.lst (gs.map It)
theorem fv(gs:List Int):(gs.map PyData.int).map OD.fz=gs.map It:=by simp
theorem aA(gs:List Int):(Il gs).dat=some (.list (gs.map PyData.int)):=by rw[Il,<-fv,dat_fz]
theorem xF(rs:List R):(rs.map R.d).map OD.fz=rs.map λr=>OD.fz r.d:=by simp
theorem aW(h:ρ[j]?.join=some (Il gs))(O:atI (gs.map It) i=Db g):bE ρ (.rf j) i=some (It g,ρ):=by
 obtain⟨k,J,B⟩:=bnd O;have s:itemS (Il gs) i=some (.int g,Il gs):=by simp only[Il,itemS,J,B,OD.dat];rw[bD B]
 simp only[bE,h,s];rw[set_self (join_some h)]
structure Cf where
 rows:List R
 longs:List Int
 r0:Int
 r1:Int
structure G where
 pl:Int
 gaps:List Int
 words:List (List Int)
 bg:Int
 us:List (Int×Int)
 wt:List (Int×Int)
noncomputable abbrev Lo(f:Cf):OD:=.fz (.list (f.longs.map PyData.int))
abbrev Ix(f:Cf):Option OD:=some (Lo f)
abbrev Re(f:Cf):OD:=.fz (.tuple [.int f.r0,.int f.r1])
noncomputable abbrev Wq(q:Int×Int):PyData:=.tuple [.int q.1,.int q.2]
abbrev Wl(wt:List (Int×Int)):OD:=.lst ((wt.map Wq).map OD.fz)
abbrev gN:List Str:=[bm,ci,hI,bn,np,kt,ga,lc,lf]
abbrev gD(us:List (Int×Int)):OD:=.dic (us.map λu=>.inl u.1) (us.map λu=>It u.2)
abbrev gO(f:Cf)(pl:Int)(gaps:OD)(words:OD)(bg:Int)(us:OD)(wt:OD):OD:=.obj ac gN [Rl f.rows,Lo f,Re f,It pl,gaps,words,It bg,us,wt]
abbrev GO(f:Cf)(g:G):OD:=gO f g.pl (Il g.gaps) (.lst (g.words.map Il)) g.bg (gD g.us) (Wl g.wt)
section
variable{f:Cf}{p b:Int}{x4 x5 x7 x8:OD}{ρ:DEnv}
theorem eJ:aw (some (gO f p x4 x5 b x7 x8)::ρ) 0 [.fld ac bm]=some ((gO f p x4 x5 b x7 x8),[0],Rl f.rows):=rfl
theorem rl:aw (some (gO f p x4 x5 b x7 x8)::ρ) 0 [.fld ac ci]=some ((gO f p x4 x5 b x7 x8),[1],Lo f):=rfl
theorem lC:aw (some (gO f p x4 x5 b x7 x8)::ρ) 0 [.fld ac hI]=some ((gO f p x4 x5 b x7 x8),[2],Re f):=rfl
theorem dE:aw (some (gO f p x4 x5 b x7 x8)::ρ) 0 [.fld ac bn]=some ((gO f p x4 x5 b x7 x8),[3],It p):=rfl
theorem lD:aw (some (gO f p x4 x5 b x7 x8)::ρ) 0 [.fld ac np]=some ((gO f p x4 x5 b x7 x8),[4],x4):=rfl
theorem dF:aw (some (gO f p x4 x5 b x7 x8)::ρ) 0 [.fld ac kt]=some ((gO f p x4 x5 b x7 x8),[5],x5):=rfl
theorem lE:aw (some (gO f p x4 x5 b x7 x8)::ρ) 0 [.fld ac ga]=some ((gO f p x4 x5 b x7 x8),[6],It b):=rfl
theorem xG:aw (some (gO f p x4 x5 b x7 x8)::ρ) 0 [.fld ac lc]=some ((gO f p x4 x5 b x7 x8),[7],x7):=rfl
theorem cU:aw (some (gO f p x4 x5 b x7 x8)::ρ) 0 [.fld ac lf]=some ((gO f p x4 x5 b x7 x8),[8],x8):=rfl
theorem f_place:br bn (It q) gN [Rl f.rows,Lo f,Re f,It p,x4,x5,It b,x7,x8]=(gN,[Rl f.rows,Lo f,Re f,It q,x4,x5,It b,x7,x8]):=rfl
theorem AE:br ga (It q) gN [Rl f.rows,Lo f,Re f,It p,x4,x5,It b,x7,x8]=(gN,[Rl f.rows,Lo f,Re f,It p,x4,x5,It q,x7,x8]):=rfl
end
theorem ET:pl.pg.call (n+1) 17 [.obj ac [] [],Rl f.rows,Lo f,Re f]=some (.fz .none,[GO f ⟨0,[],[],0,[],[]⟩,Rl f.rows,Lo f,Re f]):=bx rfl rfl (ab (cy rfl rfl rfl rfl rfl rfl) (ab (cy rfl rfl rfl rfl rfl rfl) (ab (cy rfl rfl rfl rfl rfl rfl) (ab (cy rfl rfl rfl rfl rfl rfl) (ab (cy rfl rfl rfl rfl rfl rfl) (ab (cy rfl rfl rfl rfl rfl rfl) (ab (cy rfl rfl rfl rfl rfl rfl) (ab (cy rfl rfl rfl rfl rfl rfl) (ab (cy rfl rfl rfl rfl rfl rfl) rfl))))))))) rfl
def R.fal(r:R):Bool:=!decide (r.wd=am)&&!decide (r.wd=bv)
def pD(rs:List R):Nat->Bool
 |0=>true
 |k+1=>(rs[k]?).elim true R.fal
def fw(rs:List R)(k:Nat)(p:Int):Int:=let q:=if pD rs k=true then p+2 else p;q+2-q%2
def sz(f:Cf)(k:Nat):Int:=if (f.rows[k]?).elim false R.gr=true\/(k:Int)∈f.longs then 2 else 1
theorem AF(r:R):pl.pg.call (n+1) 4 [Rd r]=some (.fz (.bool r.fal),[Rd r]):=by
 unfold R.fal;have O:∀x:Str,ev (Mj n) (.cmp .ne eer (.str x)) [Fa r]=some (.val (.fz (.bool (!decide (r.wd=x)))),[Fa r]):=λx=>aq (ax rfl rfl rfl (by rw[R.d_is];exact aN aO)) rfl rfl rfl rfl;cases S:(!decide (r.wd=am)) with
 |false=>exact ai rfl rfl (ak (ag (lp (by rw[<-S];exact O am)) rfl)) rfl
 |true=>rw[abY];exact ai rfl rfl (ak (ag (ji (by rw[<-S];exact O am) (O bv)) rfl)) rfl
theorem dO{rs:List R}{k:Nat}(h:rs[k]?=some r):atI (rs.map R.d) (k:Int)=some r.d:=bZ (by rw[aaz,h];rfl)
theorem ni:∀{ls:List Int},memD (.int x) (ls.map PyData.int)=some (decide (x∈ls))
 |[]=>by rfl
 |y::ls=>by
  rw[aal,memD,ni (ls:=ls)];show some (decide (y=x)||decide (x∈ls))=_
  grind
theorem inL{ls:List Int}:oK .inn (.int x) (.list (ls.map PyData.int))=some (decide (x∈ls)):=bs (f:=λD=>(gd (FK (PyData.int x)=true)).bind λ_=>memD (.int x) D) rfl (bg rfl ni)
theorem ninL{ls:List Int}:oK .nin (.int x) (.list (ls.map PyData.int))=some (!decide (x∈ls)):=bs (inL ) rfl
theorem pF{k:Nat}(h:f.rows[k]?=some r):pl.pg.call (n+2) 13 [Rl f.rows,Lo f,It k]=some (It (sz f k),[Rl f.rows,Lo f,It k]):=by
 unfold sz;rw[h];have U:=af (C:=Mj (n+1)) (f:=0) (es:=.cons KN .nil) (ρ:=[Go f.rows,Ix f,Db k]) (aa (ax rfl rfl rfl (aR (dO h))) aj) rfl (AD r) rfl;cases N:r.gr with
 |true=>rw[N]at U;rw[if_pos (.inl N)];exact ai rfl rfl (ak (ag (cI (gY (bw U)) rfl) rfl)) rfl
 |false=>
  rw[N]at U;have t:aL (Mj (n+1)) eeb [Go f.rows,Ix f,Db k]=some (decide ((k:Int)∈f.longs),[Go f.rows,Ix f,Db k]):=ar (aq rfl rfl rfl rfl inL);cases S:decide ((k:Int)∈f.longs) with
  |true=>rw[S]at t;rw[if_pos (.inr (Daa S))];exact ai rfl rfl (ak (ag (cI (bp (bw U) t) rfl) rfl)) rfl
  |false=>rw[S]at t;rw[if_neg λz=>z.elim (λz=>absurd (N.symm.trans z) aaq) λz=>Dad S z];exact ai rfl rfl (ak (ag (bY (bp (bw U) t) rfl) rfl)) rfl
theorem xH{k:Nat}(h:k<=rs.length):pl.pg.call (n+2) 14 [Rl rs,It k]=some (.fz (.bool (pD rs k)),[Rl rs,It k]):=by
 cases k with
 |zero=>rfl
 |succ k=>
  have S:=AF (n:=n) rs[k];have J:pD rs (k+1)=(rs[k]).fal:=by show (rs[k]?).elim true R.fal=_;grind
  rw[J];have c:((k+1:Nat):Int)-1=(k:Int):=by lia
  exact ai rfl rfl (ak (ag (mY (aq rfl rfl rfl rfl (show some (decide (((k+1:Nat):Int)=0))=some false by rfl)) (af (aa (ax rfl rfl rfl (aR (by rw[c];exact dO (aam (by lia))))) aj) rfl S rfl)) rfl)) rfl
theorem iu{rs:List R}{k:Nat}(h:k<=rs.length):pl.pg.call (n+3) 15 [Rl rs,It k,It p]=some (It (fw rs k p),[Rl rs,It k,It p]):=by
 unfold fw;have S:=xH (n:=n) h;have U:=af (C:=Mj (n+2)) (f:=14) (es:=.cons (.nm 0) ee2) (ρ:=[Go rs,Db k,Db p]) rfl rfl S rfl;cases o:pD rs k with
 |true=>rw[o]at U;exact ai rfl rfl (ab (ao (bw U) (ab rfl rfl)) (ak (ag (ah rfl (ah rfl rfl rfl rfl (bq (by decide))) rfl rfl rfl) rfl))) rfl
 |false=>rw[o]at U;exact ai rfl rfl (ab (s_ifF (bw U) rfl) (ak (ag (ah rfl (ah rfl rfl rfl rfl (bq (by decide))) rfl rfl rfl) rfl))) rfl
theorem pG(wt:List (Int×Int)):(Wl wt).dat=some (.list (wt.map Wq)):=dat_fz _
theorem tru_l{Y:Type}{f:Y->PyData}{l:List Y}:kS (.list (l.map f))=some (!l.isEmpty):=by show some (!(l.map f).isEmpty)=_;simp
theorem xI{Y:Type}{f:Y->PyData}{l:List Y}:jP (.list (l.map f))=some l.length:=by show some (l.map f).length=_;simp
theorem blen{Y:Type}{f:Y->PyData}{l:List Y}:zL .len [.list (l.map f)]=some (.int l.length):=by show (fg [PyData.list (l.map f)]).bind (λd=>(jP d).bind λn=>some (PyData.int n))=_;exact bs rfl (bs xI rfl)
def due(f:Cf)(g:G)(k:Nat):Bool:=g.wt.head?.elim false λq=>decide ((k:Int)=f.rows.length)||decide (fw f.rows (k+1) (g.pl+sz f k)-q.2>f.r1)
theorem Ic{k:Nat}(hk:k<=f.rows.length):pl.pg.call (n+4) 18 [GO f g,It k]=some (.fz (.bool (due f g k)),[GO f g,It k]):=by
 unfold due;have u:aL (Mj (n+3)) eda [some (GO f g),Db k,none,none,none]=some (!(!g.wt.isEmpty),[some (GO f g),Db k,none,none,none]):=dA (ka cU (pG _) tru_l);cases Q:g.wt with
 |nil=>rw[Q]at u;exact ai rfl rfl (ak (ao u (ak rfl))) rfl
 |cons q s=>
  rw[Q]at u;have S:ev (Mj (n+3)) ebw [some (GO f g),Db k,none,none,none]=some (.val (It f.rows.length),[some (GO f g),Db k,none,none,none]):=aJ (aa (bV eJ rfl) aj) rfl blen;by_cases a:(k:Int)=f.rows.length
  ·show _=some (OD.fz (PyData.bool (decide ((k:Int)=f.rows.length)||decide (fw f.rows (k+1) (g.pl+sz f k)-q.2>f.r1))),_);rw[Dac a,Bool.true_or];exact ai rfl rfl (ab (s_ifF u rfl) (ak (ao (ar (aq rfl S rfl rfl (show some (decide ((k:Int)=f.rows.length))=some true by grind))) (ak rfl)))) rfl
  ·have v:k<f.rows.length:=by lia
   have W:=pF (n:=n+1) (aam v);have o:=iu (n:=n) (p:=g.pl+sz f k) v;show _=some (OD.fz (PyData.bool (decide ((k:Int)=f.rows.length)||decide (fw f.rows (k+1) (g.pl+sz f k)-q.2>f.r1))),_);rw[Dab a,abg];have C:aw [some (GO f g),Db k,Db (g.pl+sz f k),none,none] 0 [.ix 0,.fld ac lf]=some (GO f g,[8,0],.fz (Wq q)):=bs cU (bs (bs rfl (by rw[Q];exact lq (by simp))) (bs (by show (List.map OD.fz (g.wt.map Wq))[0]?=_;grind) rfl));exact ai rfl rfl (ab (s_ifF u rfl) (ab (s_ifF (ar (aq rfl S rfl rfl (show some (decide ((k:Int)=f.rows.length))=some false by grind))) rfl) (ab (ae (ah (bV dE rfl) (af (aa (bV eJ rfl) (aa (bV rl rfl) (aa rfl aj))) rfl W rfl) rfl rfl rfl) rfl rfl rfl) (ab (bs (bV C rfl) (bs rfl (bs rfl rfl))) (ak (ag (aq (ah (af (aa (bV eJ rfl) (aa rfl (aa rfl aj))) rfl o rfl) rfl rfl rfl rfl) (ax (bV lC rfl) rfl rfl rfl) rfl rfl rfl) rfl)))))) rfl
def nu(f:Cf)(A:Int):Int:=((f.rows[A.toNat]?).map R.num).getD 0
def Gt(f:Cf)(A:Int):Prop:=∃(i:Nat) (r k:Int),A=i/\f.rows[i]?=some (.st r k)
theorem Ie{f:Cf}{i:Nat}{r k:Int}(h:f.rows[i]?=some (.st r k)):nu f i=k:=by unfold nu;rw[aaN,h];rfl
def eK(ns:List Int)(x:Int):List Int:=if x∈ns then ns else ns++[x]
theorem cL{ns:List Int}{x:Int}:Il (ns++[x])=.lst (ns.map It++[It x]):=by grind
abbrev wF(wt:List (Int×Int)):OD:=.fz (.list (wt.map Wq))
theorem putK_new{us:List (Int×Int)}{a v:Int}(h:a ∉ us.map (·.1)):putKey (.inl a) (.int v) (us.map λu=>.inl u.1) (us.map λu=>It u.2)=((us++[(a,v)]).map λu=>.inl u.1,(us++[(a,v)]).map λu=>It u.2):=by
 have l:¬ ((us.map λu=>(Sum.inl u.1:Key)).any λq=>decide (q=.inl a))=true:=by
  grind
 unfold putKey
 grind
theorem xJ{C:Ct}{f:Cf}{p b:Int}{X x5 x x8:OD}{ρ:DEnv}{j:Nat}{a:Int}(W:(some (gO f p X x5 b x x8)::ρ)[j]?.join=Db a)(h:Gt f a):ev C (.ix (.ix (.pg 0 [.fld ac bm]) (.nm j)) (.int 2)) (some (gO f p X x5 b x x8)::ρ)=some (.val (It (nu f a)),some (gO f p X x5 b x x8)::ρ):=by obtain⟨i,r,k,rfl,h⟩:=h;rw[Ie h];refine ax (ax (y:=.val (It i)) (n:=i) (bV eJ rfl) ?_ rfl (aR (dO h))) rfl rfl rfl;rw[BD,W]
theorem nj{n:Nat}{f:Cf}{p bg:Int}{gaps:List Int}{x5:OD}{gap:OD}{wtF:OD}(N:gaps.length<1000000):∀(wt:List (Int×Int)) (us:List (Int×Int)) (ns:List Int) (o3 o4:Option OD),(∀q∈wt,Gt f q.1)->(us.map (·.1)++wt.map (·.1)).Nodup->us.length+wt.length<1000->ns.length+wt.length<1000 ->
  ∃o O,bR (λd M=>(bj (.tp [3,4]) (.fz d) M).bind λρ1=>aD (Mj n) (match F_Going_lay.body with|.cons _ (.cons (.fr _ _ b) _)=>b|_=>.nil) ρ1) (wt.map Wq) [some (gO f p (Il gaps) x5 bg (gD us) wtF),some gap,some (Il ns),o3,o4]=some (.nx,[some (gO f p (Il gaps) x5 bg (gD (us++wt.map λq=>(q.1,(gaps.length:Int)))) wtF),some gap,some (Il (wt.foldl (λns q=>eK ns (nu f q.1)) ns)),o,O])
 |[],us,ns,o3,o4,_,_,_,_=>⟨o3,o4,by simp only[aay,aap];rfl⟩
 |q::wt,us,ns,o3,o4,hG,nd,hl,hn=>by
  rw[aaD]at hl hn;have A:=hG q aai;have H:=λY=>(aau.mp nd).2.2 q.1 Y q.1 (by simp) rfl;obtain⟨o,O,e⟩:=nj (n:=n) (f:=f) (p:=p) (bg:=bg) (x5:=x5) (gap:=gap) (wtF:=wtF) N wt (us++[(q.1,(gaps.length:Int))]) (eK ns (nu f q.1)) (Db q.1) (Db q.2) (λz i=>hG z (aag _ i)) (by grind) (by grind) (by unfold eK;grind);refine⟨o,O,bs (x:=(.nx,[some (gO f p (Il gaps) x5 bg (gD (us++[(q.1,(gaps.length:Int))])) wtF),some gap,some (Il (eK ns (nu f q.1))),Db q.1,Db q.2])) (bs (x:=[some (gO f p (Il gaps) x5 bg (gD us) wtF),some gap,some (Il ns),Db q.1,Db q.2]) rfl ?_) ?_⟩
  ·refine ab (xr (ρ3:=[some (gO f p (Il gaps) x5 bg (gD (us++[(q.1,(gaps.length:Int))])) wtF),some gap,some (Il ns),Db q.1,Db q.2]) (HX lD (aA _) xI) rfl xG rfl rfl rfl (by grind) (putK_new H) rfl) ?_;have U:aL (Mj n) ea7 [some (gO f p (Il gaps) x5 bg (gD (us++[(q.1,(gaps.length:Int))])) wtF),some gap,some (Il ns),Db q.1,Db q.2]=some (!decide (nu f q.1∈ns),[some (gO f p (Il gaps) x5 bg (gD (us++[(q.1,(gaps.length:Int))])) wtF),some gap,some (Il ns),Db q.1,Db q.2]):=ar (aq (xJ rfl A) rfl rfl (aA _) ninL);by_cases Y:nu f q.1∈ns
   ·rw[Dac Y]at U;unfold eK;rw[if_pos Y];exact ab (s_ifF U rfl) rfl
   ·rw[Dab Y]at U;unfold eK;rw[if_neg Y];exact ab (ao U (ab (bH (xs:=ns.map It) rfl (xJ rfl A) rfl rfl (by grind) (by grind)) rfl)) rfl
  ·grind
theorem cA{Y C:Type}{f:Y->C}{l:List Y}{x:Y}:(l++[x]).map f=l.map f++[f x]:=by simp
theorem AG{l:List OD}{x:OD}:(OD.lst (l++[x])).at [l.length]=some x:=by
 have e:(OD.lst (l++[x])).kids[l.length]?=some x:=by show (l++[x])[l.length]?=some x;simp
 simp only[OD.at,e]
theorem nk{l:List OD}{x y:OD}:OD.put y [l.length] (.lst (l++[x]))=.lst (l++[y]):=by
 have e:(OD.lst (l++[x])).kids[l.length]?=some x:=by show (l++[x])[l.length]?=some x;simp
 simp only[OD.put,e,OD.ea];simp
def AH(f:Cf)(g:G)(k:Nat):G:=
 ⟨fw f.rows k g.pl+2*(g.wt.foldl (λx q=>eK x (nu f q.1)) []).length,g.gaps++[(k:Int)],g.words++[g.wt.foldl (λx q=>eK x (nu f q.1)) []],fw f.rows k g.pl,g.us++g.wt.map λq=>(q.1,(g.gaps.length:Int)),[]⟩
theorem Ig{n:Nat}{f:Cf}{g:G}{k:Nat}(hk:k<=f.rows.length)(I:∀q∈g.wt,Gt f q.1)(Q:(g.us.map (·.1)++g.wt.map (·.1)).Nodup)(t:g.us.length+g.wt.length<1000)(N:g.gaps.length<1000)(c:g.words.length<1000):
  pl.pg.call (n+4) 19 [GO f g,It k]=some (.fz .none,[GO f (AH f g k),It k]):=by
 unfold AH;obtain⟨L,F,e⟩:=nj (n:=n+3) (f:=f) (p:=g.pl) (bg:=g.bg) (gaps:=g.gaps) (x5:=.lst (g.words.map Il)) (gap:=It k) (wtF:=wF g.wt) (by omega) g.wt g.us [] none none I Q (by omega) (by grind);generalize hns:g.wt.foldl (λx q=>eK x (nu f q.1)) []=x at e ⊢;generalize hus:(g.us++g.wt.map λq=>(q.1,(g.gaps.length:Int)))=us at e ⊢;have o:=iu (n:=n) (rs:=f.rows) (k:=k) (p:=g.pl) hk;generalize fw f.rows k g.pl=v at o ⊢;refine bx (fn:=F_Going_lay) (ρ:=[some (GO f ⟨v+2*x.length,g.gaps++[(k:Int)],g.words++[x],v,us,[]⟩),Db k,none,L,F]) rfl rfl ?_ rfl;refine ab (ae (ρ3:=[some (GO f g),Db k,some (Il []),none,none]) rfl rfl rfl rfl) ?_;refine ab (eE (cz (ds:=g.wt.map Wq) (ρ2:=[some (gO f g.pl (Il g.gaps) (.lst (g.words.map Il)) g.bg (gD g.us) (wF g.wt)),Db k,some (Il []),none,none]) (EI cU (pG _) rfl) rfl rfl) e) ?_;refine ab (oX (ρ1:=[some (gO f g.pl (Il (g.gaps++[(k:Int)])) (.lst (g.words.map Il)) g.bg (gD us) (wF g.wt)),Db k,some (Il x),L,F]) (d:=.int k) lD rfl rfl (by grind) (by rw[cL];rfl)) ?_;refine bs dF (tX (xs:=g.words.map Il) (y:=Il x) rfl (by grind) (by decide) rfl λu=>⟨[some (gO f (v+2*x.length) (Il (g.gaps++[(k:Int)])) (.lst (g.words.map Il++[.hole u])) v (gD us) (.lst [])),Db k,some (Il x),L,F],?_,?_⟩)
 ·refine ab (cy (ρ3:=[some (gO f g.pl (Il (g.gaps++[(k:Int)])) (.lst (g.words.map Il++[.hole u])) v (gD us) (wF g.wt)),Db k,some (Il x),L,F]) (af (ρ3:=[some (gO f g.pl (Il (g.gaps++[(k:Int)])) (.lst (g.words.map Il++[.hole u])) g.bg (gD us) (wF g.wt)),Db k,some (Il x),L,F]) (aa (bV eJ rfl) (aa rfl (aa (bV dE rfl) aj))) rfl o rfl) rfl rfl rfl AE rfl) ?_;refine ab (cy (z:=It (v+2*x.length)) (ρ3:=[some (gO f (v+2*x.length) (Il (g.gaps++[(k:Int)])) (.lst (g.words.map Il++[.hole u])) v (gD us) (wF g.wt)),Db k,some (Il x),L,F]) (ah (bV lE rfl) (ah (dx:=.int 2) (dy:=.int x.length) rfl (aJ rfl (j7 (aA _)) blen) rfl rfl (cK (.inl (by decide)))) rfl rfl rfl) rfl rfl rfl f_place rfl) ?_;rfl
 ·refine⟨_,Il x,rfl,?_,rfl,by decide,?_⟩
  ·exact AG
  ·show _=[some (gO f (v+2*x.length) (Il (g.gaps++[(k:Int)])) (OD.put (Il x) [(g.words.map Il).length] (.lst (g.words.map Il++[.hole u]))) v (gD us) (.lst [])),Db k,none,L,F];rw[nk,<-cA];rfl
theorem xK:ixN (n+1) (-1)=some n:=by
 unfold ixN
 grind
theorem pH:aw (some (gO f p x4 (.lst (l++[y])) b x7 x8)::ρ) 0 [.ix (-1),.fld ac kt]=some (gO f p x4 (.lst (l++[y])) b x7 x8,[5,l.length],y):=
 bs dF (bs (by show ixN (l++[y]).length (-1)=_;rw[aaj];exact xK) (bs (by show (l++[y])[l.length]?=_;simp) rfl))
theorem rm:∀ws:List (List Int),OD.dv (ws.map Il)=some (ws.map λw=>.list (w.map PyData.int))
 |[]=>rfl
 |w::ws=>by rw[aal,OD.dv,aA,rm ws];rfl
theorem jB(ws:List (List Int)):(OD.lst (ws.map Il)).dat=some (.list (ws.map λw=>.list (w.map PyData.int))):=by rw[OD.dat,rm]
theorem xM(h:g.words=[]):pl.pg.call (n+1) 20 [GO f g,It x]=some (.fz (.bool false),[GO f g,It x]):=by have u:aL (Mj n) edb [some (GO f g),Db x]=some (!(!g.words.isEmpty),[some (GO f g),Db x]):=dA (ka dF (jB _) tru_l);rw[h]at u;exact ai rfl rfl (ak (ao (gY u) (ak rfl))) rfl
theorem rn(h:g.words=ws++[w]):pl.pg.call (n+1) 20 [GO f g,It x]=some (.fz (.bool (decide (x∈w/\g.pl-g.bg<=f.r0))),[GO f g,It x]):=by
 have u:aL (Mj n) edb [some (GO f g),Db x]=some (!(!g.words.isEmpty),[some (GO f g),Db x]):=dA (ka dF (jB _) tru_l);have F:(!(!g.words.isEmpty))=false:=by rw[h];cases ws<;>rfl
 rw[F]at u;have C:aL (Mj n) ebz [some (GO f g),Db x]=some (!decide (x∈w),[some (GO f g),Db x]):=by rw[GO,h,cA];exact xq rfl rfl pH (aA w) ninL
 by_cases Y:x∈w
 ·rw[Dac Y]at C;have e:decide (x∈w/\g.pl-g.bg<=f.r0)=decide (g.pl-g.bg<=f.r0):=by rw[decide_eq_decide];exact⟨λz=>z.2,λz=>⟨Y,z⟩⟩
  rw[e];exact ai rfl rfl (ab (s_ifF (bp u C) rfl) (ak (ag (aq (ah (bV dE rfl) (bV lE rfl) rfl rfl rfl) (ax (bV lC rfl) rfl rfl rfl) rfl rfl rfl) rfl))) rfl
 ·rw[Dab Y]at C;rw[Dab (λz=>Y z.1)];exact ai rfl rfl (ak (ao (bp u C) (ak rfl))) rfl
theorem EU(h:g.words=[]):pl.pg.call (n+1) 21 [GO f g,It x]=some (.fz (.bool false),[GO f g,It x]):=by have u:aL (Mj n) edb [some (GO f g),Db x]=some (!(!g.words.isEmpty),[some (GO f g),Db x]):=dA (ka dF (jB _) tru_l);rw[h]at u;exact ai rfl rfl (ak (ao (gY u) (ak rfl))) rfl
theorem BU(h:g.words=ws++[w]):pl.pg.call (n+1) 21 [GO f g,It x]=some (.fz (.bool (decide (g.wt=[]/\x ∉ w/\g.pl+2-g.bg<=f.r0))),[GO f g,It x]):=by
 have u:aL (Mj n) edb [some (GO f g),Db x]=some (!(!g.words.isEmpty),[some (GO f g),Db x]):=dA (ka dF (jB _) tru_l);have F:(!(!g.words.isEmpty))=false:=by rw[h];cases ws<;>rfl
 rw[F]at u;have Q:aL (Mj n) (.pt 0 [.fld ac lf]) [some (GO f g),Db x]=some (!g.wt.isEmpty,[some (GO f g),Db x]):=ka cU (pG _) tru_l;have C:aL (Mj n) ebx [some (GO f g),Db x]=some (decide (x∈w),[some (GO f g),Db x]):=by rw[GO,h,cA];exact xq rfl rfl pH (aA w) inL
 cases T:g.wt with
 |cons q s=>rw[T]at Q;rw[Dab (λz=>List.cons_ne_nil _ _ z.1)];exact ai rfl rfl (ak (ao (bp u (gY Q)) (ak rfl))) rfl
 |nil=>
  rw[T]at Q;by_cases Y:x∈w
  ·rw[Dac Y]at C;rw[Dab (λz=>z.2.1 Y)];exact ai rfl rfl (ak (ao (bp u (bp Q C)) (ak rfl))) rfl
  ·rw[Dab Y]at C;have e:decide (([]:List (Int×Int))=[]/\x ∉ w/\g.pl+2-g.bg<=f.r0)=decide (g.pl+2-g.bg<=f.r0):=by rw[decide_eq_decide];exact⟨λz=>z.2.2,λz=>⟨rfl,Y,z⟩⟩
   rw[e];exact ai rfl rfl (ab (s_ifF (bp u (bp Q C)) rfl) (ak (ag (aq (ah (ah (bV dE rfl) rfl rfl rfl rfl) (bV lE rfl) rfl rfl rfl) (ax (bV lC rfl) rfl rfl rfl) rfl rfl rfl) rfl))) rfl
theorem xN(h:pl.pg.call (n+1) 21 [GO f g,It x]=some (.fz (.bool k),[GO f g,It x])):aL (Mj (n+1)) eb7 [some (GO f g),some o,Db x]=some (k,[some (GO f g),some o,Db x]):=oW (fH rfl (by decide) rfl rfl h rfl)
theorem xO(h:pl.pg.call (n+1) 20 [GO f g,It x]=some (.fz (.bool k),[GO f g,It x])):aL (Mj (n+1)) ecf [some (GO f g),some o,Db x]=some (k,[some (GO f g),some o,Db x]):=oW (fH rfl (by decide) rfl rfl h rfl)
inductive Come (f:Cf)(g:G)(a:Int):G->Prop
 |put {ws:List (List Int)}{w:List Int} (h:g.words=ws++[w]) (hw:g.wt=[]) (hn:nu f a ∉ w) (hr:g.pl+2-g.bg<=f.r0):Come f g a ⟨g.pl+2,g.gaps,ws++[w++[nu f a]],g.bg,g.us++[(a,(g.gaps.length:Int)-1)],g.wt⟩
 |got {ws:List (List Int)}{w:List Int} (h:g.words=ws++[w]) (hn:nu f a∈w) (hr:g.pl-g.bg<=f.r0):Come f g a ⟨g.pl,g.gaps,g.words,g.bg,g.us++[(a,(g.gaps.length:Int)-1)],g.wt⟩
 |wait (h1:∀ws w,g.words=ws++[w]->¬ (g.wt=[]/\nu f a ∉ w/\g.pl+2-g.bg<=f.r0)) (h2:∀ws w,g.words=ws++[w]->¬ (nu f a∈w/\g.pl-g.bg<=f.r0)):Come f g a ⟨g.pl,g.gaps,g.words,g.bg,g.us,g.wt++[(a,g.pl)]⟩
theorem nq(fresh:a ∉ g.us.map (·.1))(t:g.us.length<1000):aD (Mj (n+1)) eaz [some (GO f g),Db a,Db x]=some (.nx,[some (GO f ⟨g.pl,g.gaps,g.words,g.bg,g.us++[(a,(g.gaps.length:Int)-1)],g.wt⟩),Db a,Db x]):=
 ab (xr (ah (HX lD (aA _) xI) rfl rfl rfl rfl) rfl xG rfl rfl rfl (by grind) (putK_new fresh) rfl) rfl
theorem AI:Wl (wt++[q])=.lst ((wt.map Wq).map OD.fz++[.fz (Wq q)]):=by rw[Wl,cA,cA]
theorem kj(t:g.wt.length<1000):aD (Mj (n+1)) eas [some (GO f g),Db a,Db x]=some (.nx,[some (GO f ⟨g.pl,g.gaps,g.words,g.bg,g.us,g.wt++[(a,g.pl)]⟩),Db a,Db x]):=
 ab (oX cU (bs (bs rfl (bs (bs (bs dE rfl) rfl) rfl)) rfl) rfl (by grind) (by show _=[some (gO f g.pl (Il g.gaps) (.lst (g.words.map Il)) g.bg (gD g.us) (Wl (g.wt++[(a,g.pl)]))),Db a,Db x];rw[AI];rfl)) rfl
theorem EV(I:Gt f a)(fresh:a ∉ g.us.map (·.1))(t:g.us.length<1000)(Q:g.wt.length<1000)(s:∀w∈g.words,w.length<1000):∃g',pl.pg.call (n+2) 22 [GO f g,It a]=some (.fz .none,[GO f g',It a])/\Come f g a g':=by
 have W:bF (Mj (n+1)) ebh [some (GO f g),Db a,none]=some (.nx,[some (GO f g),Db a,Db (nu f a)]):=ae (xJ rfl I) rfl rfl rfl;rcases ack g.words with h|⟨X,w,h⟩
 ·exact⟨_,bx rfl rfl (ab W (ab (s_ifF (xN (EU h)) rfl) (ab (s_ifF (xO (xM h)) (kj Q)) rfl))) rfl,.wait (λX w z=>absurd (h.symm.trans z) (by simp)) λX w z=>absurd (h.symm.trans z) (by simp)⟩
 ·rw[List.concat_eq_append]at h;by_cases C:g.wt=[]/\nu f a ∉ w/\g.pl+2-g.bg<=f.r0
  ·have J:=xN (o:=It a) (BU (n:=n) (f:=f) (x:=nu f a) h);rw[Dac C]at J;have S:aD (Mj (n+1)) eaw [some (GO f g),Db a,Db (nu f a)]=some (.nx,[some (GO f ⟨g.pl+2,g.gaps,X++[w++[nu f a]],g.bg,g.us,g.wt⟩),Db a,Db (nu f a)]):=by
    have H:w.length<1000:=s w (by rw[h];exact aad _ aai);rw[GO,h,cA];refine ab (oX (ρ1:=[some (gO f g.pl (Il g.gaps) (.lst (X.map Il++[Il (w++[nu f a])])) g.bg (gD g.us) (Wl g.wt)),Db a,Db (nu f a)]) pH rfl rfl (by rw[aae];lia) ?_) (ab (xu dE rfl rfl rfl rfl rfl rfl f_place ?_) rfl)
    ·show [some (gO f g.pl (Il g.gaps) (OD.put (.lst (w.map It++[It (nu f a)])) [(X.map Il).length] (.lst (X.map Il++[Il w]))) g.bg (gD g.us) (Wl g.wt)),Db a,Db (nu f a)]=_;rw[nk,cL]
    ·rw[GO,cA];rfl
   have B:=xO (o:=It a) (rn (n:=n) (f:=f) (x:=nu f a) (g:=⟨g.pl+2,g.gaps,X++[w++[nu f a]],g.bg,g.us,g.wt⟩) rfl);rw[Dac ⟨aad _ aai,C.2.2⟩]at B;exact⟨_,bx rfl rfl (ab W (ab (ao J S) (ab (ao B (nq fresh t)) rfl))) rfl,.put h C.1 C.2.1 C.2.2⟩
  ·have J:=xN (o:=It a) (BU (n:=n) (f:=f) (x:=nu f a) h);rw[Dab C]at J;have B:=xO (o:=It a) (rn (n:=n) (f:=f) (x:=nu f a) h);by_cases A:nu f a∈w/\g.pl-g.bg<=f.r0
   ·rw[Dac A]at B;exact⟨_,bx (fn:=dD) rfl rfl (ab W (ab (s_ifF J rfl) (ab (ao B (nq fresh t)) rfl))) rfl,.got h A.1 A.2⟩
   ·rw[Dab A]at B;refine⟨_,bx (fn:=dD) rfl rfl (ab W (ab (s_ifF J rfl) (ab (s_ifF B (kj Q)) rfl))) rfl,.wait (λM D z=>?_) λM D z=>?_⟩<;>(obtain⟨rfl,e⟩:=List.append_inj' (h.symm.trans z) rfl;obtain rfl:=(List.cons.inj e).1)
    ·exact C
    ·exact A
def gIx:Int->List R->List Int
 |_,[]=>[]
 |i,r::rs=>if r.gr=true then i::gIx (i+1) rs else gIx (i+1) rs
theorem lF:∀{a b:List R}{i:Int},gIx i (a++b)=gIx i a++gIx (i+a.length) b
 |[],b,i=>by simp[gIx]
 |r::a,b,i=>by
  have e:i+1+(a.length)=i+((r::a).length):=by grind
  rw[aaK,gIx,gIx,lF ,e]
  grind
theorem gIx_mem:∀{rs:List R}{i a:Int},a∈gIx i rs->∃(j:Nat) (r:R),a=i+j/\rs[j]?=some r/\r.gr=true
 |[],i,a,h=>by trivial
 |r::rs,i,a,h=>by
  rw[gIx]at h;by_cases N:r.gr=true
  ·rw[if_pos N]at h;rcases aaa.mp h with rfl|h
   ·exact⟨0,r,by simp,rfl,N⟩
   ·obtain⟨j,q,e,O,Z⟩:=gIx_mem h;exact⟨j+1,q,by grind,O,Z⟩
  ·rw[if_neg N]at h;obtain⟨j,q,e,O,Z⟩:=gIx_mem h;exact⟨j+1,q,by grind,O,Z⟩
theorem cV:∀{rs:List R}{i:Int},(gIx i rs).Nodup
 |[],i=>abd
 |r::rs,i=>by
  rw[gIx];split
  ·refine aat.mpr ⟨λh=>?_,cV⟩;obtain⟨j,q,e,_⟩:=gIx_mem h
   lia
  ·exact cV
theorem gr_st{r:R}(h:r.gr=true):∃x k,r=.st x k:=by
 cases r with
 |st x k=>exact⟨x,k,rfl⟩
 |ot w Y Q=>cases h
theorem EW(h:a∈gIx 0 (f.rows.take k)):Gt f a:=by
 obtain⟨j,r,e,O,Z⟩:=gIx_mem h;obtain⟨x,y,rfl⟩:=gr_st Z;refine⟨j,x,y,by omega,?_⟩;rw[List.getElem?_take]at O;split at O
 ·exact O
 ·cases O
theorem eX:∀{rs:List R}{i:Int},(gIx i rs).length=(rs.filter R.gr).length
 |[],i=>rfl
 |r::rs,i=>by
  rw[gIx];by_cases N:r.gr=true
  ·rw[if_pos N,abZ N,aaD,aaD,eX]
  ·rw[if_neg N,ab0 N,eX]
theorem xP:(eK ns x).length<=ns.length+1:=by
 unfold eK
 grind
theorem take_one{f:Cf}(h:f.rows[k]?=some r):f.rows.take (k+1)=f.rows.take k++[r]:=by rw[List.take_succ,h];rfl
theorem lG{f:Cf}(h:f.rows[k]?=some r):gIx 0 (f.rows.take (k+1))=gIx 0 (f.rows.take k)++if r.gr=true then [(k:Int)] else []:=by have T:=(aah.mp h).1;rw[take_one h,lF,ab1,ab2 (by lia),gIx,gIx,abe]
theorem nv:∀{wt:List (Int×Int)}{ns:List Int},(wt.foldl (λns q=>eK ns (nu f q.1)) ns).length<=ns.length+wt.length
 |[],ns=>by simp
 |q::wt,ns=>by
  have O:=nv (f:=f) (wt:=wt) (ns:=eK ns (nu f q.1));have Z:=xP (ns:=ns) (x:=nu f q.1)
  grind
structure Iv (f:Cf)(g:G)(k m:Nat):Prop where
 ix:g.us.map (·.1)++g.wt.map (·.1)=gIx 0 (f.rows.take k)
 wl:g.words.length=g.gaps.length
 gl:g.gaps.length<=m
 wn:∀w∈g.words,w.length<=g.us.length
 far:g.wt≠[]->g.words≠[]->f.r0<g.pl-g.bg
theorem Iv.start:Iv f ⟨0,[],[],0,[],[]⟩ 0 0:=⟨rfl,rfl,aac _,λw h=>absurd h aar,λh=>absurd rfl h⟩
theorem Iv.lay(I:Iv f g k m):Iv f (AH f g k) k (m+1):=by
 refine⟨?_,?_,?_,λw Q=>?_,λh=>absurd rfl h⟩
 ·show (g.us++_).map (·.1)++[]=_;rw[aap,aaE,aaU,<-I.ix];rfl
 ·show (g.words++[_]).length=(g.gaps++[_]).length;rw[aaj,aaj,I.wl];rfl
 ·show (g.gaps++[_]).length<=m+1;rw[aaj,aaL];exact Nat.succ_le_succ I.gl
 ·show w.length<=(g.us++g.wt.map _).length;rw[aaj,aae];rcases aak.mp Q with h|h
  ·exact aan (I.wn w h) (aaS _ _)
  ·rw[aaw.mp h];have:=nv (f:=f) (wt:=g.wt) (ns:=[])
   grind
theorem Iv.come(I:Iv f g k m)(D:f.rows[k]?=some r)(N:r.gr=true)(h:Come f g k g'):Iv f ⟨g'.pl+2,g'.gaps,g'.words,g'.bg,g'.us,g'.wt⟩ (k+1) m:=by
 have F:∀j:Int,g.wt=[]->(g.us++[((k:Int),j)]).map (·.1)++g.wt.map (·.1)=gIx 0 (f.rows.take (k+1)):=λj Q=>by have c:=I.ix;rw[lG D,if_pos N,<-c,Q,aay,aap,aap,aaE];rfl
 have t:∀j:Int,(g.us++[((k:Int),j)]).length=g.us.length+1:=λj=>by simp
 cases h with
 |@put X w h Q hn=>
  have J:=I.wl;rw[h,aaj]at J;refine⟨F _ Q,?_,I.gl,λv o=>?_,λz=>absurd Q z⟩
  ·grind
  ·rw[t];rcases aak.mp o with z|z
   ·exact Nat.le_succ_of_le (I.wn v (by grind))
   ·rw[aaw.mp z,aaj,aaL];exact Nat.succ_le_succ (I.wn w (by grind))
 |@got X w h hn h0=>
  have Q:g.wt=[]:=by
   by_cases Q:g.wt=[]
   ·omega
   ·have:=I.far Q (by simp[*]);omega
  exact⟨F _ Q,I.wl,I.gl,λv o=>by rw[t];exact Nat.le_succ_of_le (I.wn v o),λz=>absurd Q z⟩
 |wait O Z=>
  refine⟨?_,I.wl,I.gl,I.wn,λ_ Q=>?_⟩
  ·rw[lG D,if_pos N,aaE,<-aab,I.ix];rfl
  ·show f.r0<g.pl+2-g.bg;by_cases T:g.wt=[]
   ·rcases ack g.words with e|⟨X,w,e⟩
    ·grind
    ·grind
   ·have:=I.far T Q;omega
theorem Iv.skip(I:Iv f g k m)(D:f.rows[k]?=some r)(N:r.gr=false)(W:1<=s):Iv f ⟨g.pl+s,g.gaps,g.words,g.bg,g.us,g.wt⟩ (k+1) m:=
 ⟨by rw[lG D,N,if_neg aaq,aap];exact I.ix,I.wl,I.gl,I.wn,λh C=>by have:=I.far h C;grind⟩
theorem Iv.more(I:Iv f g k m)(h:m<=m'):Iv f g k m':=⟨I.ix,I.wl,aan I.gl h,I.wn,I.far⟩
theorem Iv.len(I:Iv f g k m):g.us.length+g.wt.length<=k:=by
 have:=congrArg List.length I.ix;rw[aaj,aae,aae,eX]at this
 grind
theorem Iv.jo(I:Iv f g k m):∀w∈g.words,w.length<=k:=λw Q=>aan (I.wn w Q) (aan (aaS _ _) I.len)
theorem Iv.nodup(I:Iv f g k m):(g.us.map (·.1)++g.wt.map (·.1)).Nodup:=by rw[I.ix];exact cV
theorem Iv.gt(I:Iv f g k m):∀q∈g.wt,Gt f q.1:=λq A=>EW (by rw[<-I.ix];grind)
def laysG(f:Cf)(g:G)(k:Nat):G:=if due f g k=true then AH f g k else g
theorem m_lays(I:Iv f g k k)(hk:k<=f.rows.length)(a:f.rows.length<=200):bF (Mj (n+4)) ean [some (GO f g),Db k]=some (.nx,[some (GO f (laysG f g k)),Db k])/\Iv f (laysG f g k) k (k+1):=by
 have S:=Ic (n:=n) (g:=g) hk;unfold laysG;generalize due f g k=b at S ⊢;have u:aL (Mj (n+4)) Lv [some (GO f g),Db k]=some (b,[some (GO f g),Db k]):=oW (fH rfl (by decide) rfl rfl S rfl);cases b with
 |false=>exact⟨s_ifF u rfl,I.more (abb _)⟩
 |true=>have t:=I.len;have N:=I.gl;have H:=I.wl;have e:=Ig (n:=n) hk I.gt I.nodup (by lia) (by lia) (by lia);exact⟨ao u (ab (mZ (fH rfl (by decide) rfl rfl e rfl)) rfl),I.lay⟩
structure Cross (f:Cf)(g:G)(k:Nat)(g2:G):Prop where
 gr:(f.rows[k]?).elim false R.gr=true->Come f (laysG f g k) k g2
 no:(f.rows[k]?).elim false R.gr=false->g2=laysG f g k
abbrev AJ(g:G)(s:Int):G:=⟨g.pl+s,g.gaps,g.words,g.bg,g.us,g.wt⟩
theorem Ih(D:f.rows[k]?=some r)(N:r.gr=true):sz f k=2:=by unfold sz;rw[D];exact if_pos (.inl N)
theorem EX:1<=sz f k:=by unfold sz;split<;>decide
theorem rp(I:Iv f g k k)(hk:k<=f.rows.length)(c:f.rows.length<=200):(k<f.rows.length->∃l,pl.pg.call (n+5) 23 [GO f g,It k]=some (.fz .none,[GO f (AJ l (sz f k)),It k])/\Cross f g k l/\Iv f (AJ l (sz f k)) (k+1) (k+1))/\(k=f.rows.length->pl.pg.call (n+5) 23 [GO f g,It k]=some (.fz .none,[GO f (laysG f g k),It k])/\Iv f (laysG f g k) k (k+1)):=by
 obtain⟨J,B⟩:=m_lays I hk c;generalize hg1:laysG f g k=g1 at J B ⊢;have S:ev (Mj (n+4)) ebw [some (GO f g1),Db k]=some (.val (It f.rows.length),[some (GO f g1),Db k]):=aJ (aa (bV eJ rfl) aj) rfl blen;by_cases v:k<f.rows.length
 ·have D:=aam v;refine⟨λ_=>?_,λe=>absurd e (by lia)⟩;have W:=pF (n:=n+2) D;have d:(f.rows[k]?).elim false R.gr=(f.rows[k]).gr:=by grind
  have u:=ar (aq (ρ:=[some (GO f g1),Db k]) (a:=.nm 1) (o:=.lt) rfl S rfl rfl (show some (decide ((k:Int)<f.rows.length))=some true by grind));have U:aL (Mj (n+4)) ebi [some (GO f g1),Db k]=some ((f.rows[k]).gr,[some (GO f g1),Db k]):=bw (af (aa (ax (bV eJ rfl) rfl rfl (aR (dO D))) aj) rfl (AD _) rfl);have H:∀l:G,bF (Mj (n+4)) eak [some (GO f l),Db k]=some (.nx,[some (GO f (AJ l (sz f k))),Db k]):=λl=>xu dE rfl (af (aa (bV eJ rfl) (aa (bV rl rfl) (aa rfl aj))) rfl W rfl) rfl rfl rfl rfl f_place rfl;cases N:(f.rows[k]).gr with
  |false=>rw[N]at U;exact⟨_,bx rfl rfl (ab J (ab (ao u (ab (s_ifF U rfl) (ab (H g1) rfl))) rfl)) rfl,⟨λz=>absurd (N.symm.trans (d.symm.trans z)) aaq,λ_=>hg1.symm⟩,B.skip D N EX⟩
  |true=>
   rw[N]at U;obtain⟨x,y,T⟩:=gr_st N;have t:=B.len;obtain⟨l,M,C⟩:=EV ⟨k,x,y,rfl,by rw[D,T]⟩ (λY=>by
    have:=gIx_mem (by rw[<-B.ix];exact aaf _ Y)
    grind) (by lia) (by lia) (λw Q=>by have:=B.jo w Q;lia)
   exact⟨_,bx rfl rfl (ab J (ab (ao u (ab (ao U (ab (mZ (fH rfl (by decide) rfl rfl M rfl)) rfl)) (ab (H l) rfl))) rfl)) rfl,⟨λ_=>by grind,λz=>absurd (N.symm.trans (d.symm.trans z)).symm aaq⟩,by rw[Ih D N];exact B.come D N C⟩
 ·have u:=ar (aq (ρ:=[some (GO f g1),Db k]) (a:=.nm 1) (o:=.lt) rfl S rfl rfl (show some (decide ((k:Int)<f.rows.length))=some false by grind));exact⟨λh=>absurd h v,λ_=>⟨bx rfl rfl (ab J (ab (s_ifF u rfl) rfl)) rfl,B⟩⟩
def enF:Int->List R->List PyData
 |_,[]=>[]
 |i,r::rs=>.tuple [.int i,r.d]::enF (i+1) rs
theorem rq:∀{rs:List R}{i:Int}{j:Nat},(enF i rs)[j]?=(rs[j]?).map λr=>.tuple [.int (i+j),r.d]
 |[],_,_=>by rfl
 |r::rs,i,0=>by simp[enF]
 |r::rs,i,j+1=>by
  rw[enF,aby,aby,rq]
  grind
theorem rA(rs:List R):enumD (rs.map R.d)=enF 0 rs:=by
 refine abP λj=>?_;rw[rq,abe];unfold enumD
 grind
theorem lH:∀{rs:List R}{i:Int}{out:List PyData}{B c:Option OD},∃p,cH (cQ (Mj (n+1)) (.tp [0,1]) (.some ed0) (.nm 0)) (enF i rs) out [B,c]=some (out++(gIx i rs).map PyData.int,p)
 |[],i,out,B,c=>⟨[B,c],by rw[gIx,aay,aap];rfl⟩
 |r::rs,i,out,B,c=>by
  have U:aL (Mj (n+1)) ed0 [Db i,Fa r]=some (r.gr,[Db i,Fa r]):=bw (af rfl rfl (AD r) rfl);rw[gIx];cases N:r.gr with
  |false=>rw[N]at U;obtain⟨p,e⟩:=lH;refine⟨p,bs (EK rfl U) ?_⟩;rw[if_neg aaq,e,aap]
  |true=>rw[N]at U;obtain⟨p,e⟩:=lH;refine⟨p,bs (EJ rfl U rfl rfl) ?_⟩;rw[if_pos rfl,e,aab];rfl
theorem ny(D:rs.length<=1000):pl.pg.call (n+2) 2 [Rl rs]=some (Il (gIx 0 rs),[Rl rs]):=by obtain⟨p,e⟩:=lH;rw[aaI,<-rA]at e;refine ai rfl rfl (ak (ag (dB (xw rfl rfl) (by rw[gz,aae];lia) rfl e unca_nil) (by rw[fv];rfl))) rfl
abbrev Po(q:Int×List Int):PyData:=.tuple [.int q.1,.tuple (q.2.map PyData.int)]
abbrev Pn(ps:List (Int×List Int))(us:List Int):OD:=.tup [.lst ((ps.map Po).map OD.fz),Il us]
theorem jC:∀{gs:List Int}{ws:List (List Int)}{out:List PyData}{B c:Option OD},∃p,cH (cQ C (.tp [0,1]) .none (.tup ece)) (zipD (gs.map PyData.int) (ws.map λw=>.list (w.map PyData.int))) out [B,c]=some (out++(gs.zip ws).map Po,p)
 |[],ws,out,B,c=>⟨[B,c],by simp only[aay,List.zip_nil_left,aap];rfl⟩
 |g::gs,[],out,B,c=>⟨[B,c],by simp only[aay,List.zip_nil_right,aap];rfl⟩
 |g::gs,w::ws,out,B,c=>by obtain⟨p,e⟩:=jC;refine⟨p,bs (Ax rfl (bh (aa rfl (aa (qY rfl rfl) aj)) rfl rfl rfl) rfl) ?_⟩;rw[aab]at e;exact e
theorem find_key:∀{us:List (Int×Int)}{i:Nat}{u:Int×Int},(us.map (·.1)).Nodup->us[i]?=some u->(us.map λu=>(Sum.inl u.1:Key)).findIdx? (λq=>decide (q=.inl u.1))=some i
 |[],_,_,_,h=>by simp at h
 |v::us,0,u,_,h=>by cases h;rw[aal,aaR];simp
 |v::us,i+1,u,nd,h=>by rw[aal]at nd;obtain⟨d,a⟩:=aat.mp nd;have h:us[i]?=some u:=h;have J:v.1≠u.1:=λe=>d (by rw[e];exact aaH.mpr ⟨u,aax h,rfl⟩);rw[aal,aaR,find_key a h];have W:decide ((Sum.inl v.1:Key)=.inl u.1)=false:=Dab λe=>J (ab3 e);rw[W];rfl
theorem comp_uses(Q:(us.map (·.1)).Nodup):∀{vs:List (Int×Int)}{i:Nat}{out:List PyData}{o:Option OD},us.drop i=vs->∃P,cH (cQ C (.nm 0) .none (.pg 1 [.key 0,.fld ac lc])) ((vs.map (·.1)).map PyData.int) out [o,some (gO f p x4 x5 b (gD us) x8)]=some (out++(vs.map (·.2)).map PyData.int,[P,some (gO f p x4 x5 b (gD us) x8)])
 |[],i,out,o,_=>⟨o,by simp only[aay,aap];rfl⟩
 |v::vs,i,out,o,h=>by
  have r:us[i]?=some v:=by have:=congrArg (λl=>l[0]?) h;simp only[List.getElem?_drop,Nat.add_zero]at this;exact this
  have X:us.drop (i+1)=vs:=by have:=congrArg List.tail h;rw[List.tail_drop]at this;exact this
  obtain⟨P,e⟩:=comp_uses Q X;have M:aw [Db v.1,some (gO f p x4 x5 b (gD us) x8)] 1 [.key 0,.fld ac lc]=some (gO f p x4 x5 b (gD us) x8,[7,i],It v.2):=bs rfl (bs (find_key Q r) (bs (by show (us.map λu=>It u.2)[i]?=_;rw[aaz,r];rfl) rfl));refine⟨P,bs (Ax rfl (bV M rfl) rfl) ?_⟩;rw[aab]at e;exact e
theorem EY(D:f.rows.length<=1000)(N:g.gaps.length<1000)(Q:g.words.length=g.gaps.length)(U:g.us.map (·.1)=gIx 0 f.rows):∃y,pl.pg.call (n+3) 24 [GO f g]=some (Pn (g.gaps.zip g.words) (g.us.map (·.2)),[y]):=by
 obtain⟨A,J⟩:=jC;obtain⟨k,B⟩:=comp_uses (by rw[U];exact cV) (vs:=g.us) (i:=0) rfl;rw[aaI]at J B;rw[U]at B;generalize hO:gO f g.pl (.fz (.list (g.gaps.map PyData.int))) (.fz (.list (g.words.map λw=>.list (w.map PyData.int)))) g.bg (gD g.us) (Wl g.wt)=O at B;have S:(g.us.map (·.1)).length=(gIx 0 f.rows).length:=by rw[U]
 refine⟨O,ai rfl rfl (ab (ae (dB (oY (ρ2:=[some O,none]) (EI lD (aA _) rfl) (EI dF (jB _) (by rw[<-hO];rfl)) rfl rfl rfl rfl) ?_ rfl J unca_nil) rfl rfl rfl) (ak (ag (bh (rs:=[.val (.lst (((g.gaps.zip g.words).map Po).map OD.fz)),.val (Il (g.us.map (·.2)))]) (ρ2:=[some O,none]) (aa rfl (aa ?_ aj)) rfl rfl rfl) rfl))) rfl⟩
 ·unfold zipD
  grind
 ·have:=dB (C:=Mj (n+2)) (nt:=1) (fr:=[0]) (it:=.seq eb1) (cz (ds:=(gIx 0 f.rows).map PyData.int) (af (ρ3:=[some O,none]) (aa (bV (d:=.list (f.rows.map R.d)) (p:=(O,[0],Rl f.rows)) (by rw[<-hO];rfl) rfl) aj) rfl (ny (n:=n) D) rfl) (show frz1 _ (.val (Il (gIx 0 f.rows)))=some (.list ((gIx 0 f.rows).map PyData.int),_) by show ((Il (gIx 0 f.rows)).dat).map _=_;rw[aA];rfl) rfl) (by rw[aae];rw[eX];grind) (zc:=([some O],[none,none])) (by rw[<-hO];rfl) B rfl;rw[fv]at this
  trivial
theorem bf:dm lo (n+1)=.int lo::dm (lo+1) n:=by
 unfold dm;rw[List.range_succ_eq_map,aal,aaU];congr 1
 ·simp
 ·refine ace λi _=>?_
  grind
abbrev pE(f:Cf)(g:G)(o:Option OD):DEnv:=[Go f.rows,Ix f,some (Re f),some (GO f g),o]
theorem Iv.lays(I:Iv f g k k):Iv f (laysG f g k) k (k+1):=by
 unfold laysG;split
 ·exact I.lay
 ·exact I.more (abb _)
inductive Path (f:Cf):Nat->G->G->Prop
 |nil {k:Nat}{g:G} (hk:k=f.rows.length) (I:Iv f g k k):Path f k g g
 |cons {k:Nat}{g g2 g':G} (hk:k<f.rows.length) (I:Iv f g k k) (C:Cross f g k g2) (h:Path f (k+1) (AJ g2 (sz f k)) g'):Path f k g g'
theorem AK(h:g.wt≠[]):due f g f.rows.length=true:=by
 unfold due;cases Q:g.wt with
 |nil=>grind
 |cons q s=>simp
theorem nz:(laysG f g f.rows.length).wt=[]:=by
 unfold laysG;by_cases h:g.wt=[]
 ·split
  ·rfl
  ·exact h
 ·rw[if_pos (AK h)];rfl
theorem jD(e:pl.pg.call (n+5) 23 [GO f g,It k]=some (.fz .none,[GO f g',It k])):((bj (.nm 4) (.fz (.int k)) (pE f g o)).bind λρ1=>aD (Mj (n+5)) ebg ρ1)=some (.nx,pE f g' (Db k)):=
 bs rfl (ab (mZ (fH rfl (by decide) rfl rfl e rfl)) rfl)
theorem jE(a:f.rows.length<=200):∀{m k:Nat}{g:G}{o:Option OD},k+m=f.rows.length->Iv f g k k->∃g' P,bR (λd p=>(bj (.nm 4) (.fz d) p).bind λρ1=>aD (Mj (n+5)) ebg ρ1) (dm k (m+1)) (pE f g o)=some (.nx,pE f (laysG f g' f.rows.length) P)/\Iv f (laysG f g' f.rows.length) f.rows.length (f.rows.length+1)/\Path f k g g'
 |0,k,g,o,h,I=>by obtain rfl:k=f.rows.length:=h;obtain⟨e,J⟩:=(rp I (aac _) a).2 rfl;refine⟨g,Db f.rows.length,?_,J,.nil rfl I⟩;rw[bf];exact bs (jD e) rfl
 |m+1,k,g,o,h,I=>by
  have T:k<f.rows.length:=by lia
  obtain⟨l,e,C,J⟩:=(rp I (aaM T) a).1 T;obtain⟨A,P,L,v,W⟩:=jE a (m:=m) (by lia) J;refine⟨A,P,?_,v,.cons T I C W⟩;rw[bf];exact bs (jD e) L
theorem Ii:(Mj (n+5)).mak 17 [.obj ac [] [],Rl f.rows,Lo f,Re f]=some (.fz .none,[GO f ⟨0,[],[],0,[],[]⟩,Rl f.rows,Lo f,Re f]):=by have e:(Mj (n+5)).mak=pl.pg.mak (n+5):=rfl;rw[e,Pg.ub pl.pg (n+4) 17];exact ET
theorem rB(a:f.rows.length<=200):∃g:G,pl.pg.call (n+6) 25 [Rl f.rows,Lo f,Re f]=some (Pn (g.gaps.zip g.words) (g.us.map (·.2)),[Rl f.rows,Lo f,Re f])/\∃u,g=laysG f u f.rows.length/\Iv f g f.rows.length (f.rows.length+1)/\Path f 0 ⟨0,[],[],0,[],[]⟩ u:=by
 obtain⟨u,o,e,I,W⟩:=jE a (m:=f.rows.length) (by lia) Iv.start;have Q:=nz (f:=f) (g:=u);generalize hg:laysG f u f.rows.length=g at e I Q;have U:g.us.map (·.1)=gIx 0 f.rows:=by
  have:=I.ix
  grind
 have L:=I.gl;obtain⟨y,i⟩:=EY (by lia) (by lia) I.wl U;refine⟨g,ai (ρ:=[Go f.rows,Ix f,some (Re f),some y,o]) rfl rfl ?_ rfl,u,hg.symm,I,W⟩;refine ab (ae (EH rfl rfl Ii rfl) rfl rfl rfl) ?_;refine ab (eE (gL (ah (aJ rfl rfl blen) rfl rfl rfl rfl) rfl (by lia)) (by rw[show ((f.rows.length:Int)+1).toNat=f.rows.length+1 by lia];exact e)) ?_;exact ak (ag (fH rfl (by decide +kernel) rfl rfl i rfl) rfl)
structure Mc where
 ps:List Int
 bs:List Int
 pl:Int
def inn(f:Cf)(k:Nat)(s:Mc)(q:Int×List Int):Mc:=if q.1=(k:Int) then ⟨s.ps,s.bs++[fw f.rows k s.pl],fw f.rows k s.pl+2*q.2.length⟩ else s
def inner(f:Cf)(qs:List (Int×List Int))(k:Nat)(s:Mc):Mc:=qs.foldl (inn f k) s
def EZ(f:Cf)(k:Nat)(s:Mc):Mc:=⟨s.ps++[s.pl],s.bs,s.pl+sz f k⟩
def mac(f:Cf)(qs:List (Int×List Int)):Nat->Mc
 |0=>⟨[],[],0⟩
 |k+1=>EZ f k (inner f qs k (mac f qs k))
theorem cB{k:Nat}:∀{qs:List (Int×List Int)}{s:Mc},(∀q∈qs,q.1≠(k:Int))->inner f qs k s=s
 |[],s,_=>rfl
 |q::qs,s,h=>by show inner f qs k (inn f k s q)=s;have e:inn f k s q=s:=if_neg (h q aai);rw[e];exact cB λq A=>h q (aag _ A)
theorem gQ:inner f (a++b) k s=inner f b k (inner f a k s):=List.foldl_append
theorem lI:∀{k:Nat},(∀q∈qs,(k:Int)<=q.1)->mac f (ps++qs) k=mac f ps k
 |0,_=>rfl
 |k+1,h=>by
  have O:∀q∈qs,(k:Int)<=q.1:=λq A=>by have:=h q A;omega
  have Z:∀q∈qs,q.1≠(k:Int):=λq A=>by have:=h q A;omega
  show EZ f k (inner f (ps++qs) k (mac f (ps++qs) k))=EZ f k (inner f ps k (mac f ps k));rw[lI O,gQ,cB Z]
theorem E3:(inn f k s q).ps=s.ps:=by unfold inn;split<;>rfl
theorem bT:∀{qs:List (Int×List Int)}{s:Mc},(inner f qs k s).ps=s.ps
 |[],s=>rfl
 |q::qs,s=>by show (inner f qs k (inn f k s q)).ps=_;rw[bT,E3]
theorem eY:∀{k:Nat},(mac f qs k).ps.length=k
 |0=>rfl
 |k+1=>by show ((inner f qs k (mac f qs k)).ps++[_]).length=_;rw[bT,aaj,eY];rfl
theorem mac_pre:∀{m i:Nat},i<k->(mac f qs (k+m)).ps[i]?=(mac f qs k).ps[i]?
 |0,i,_=>rfl
 |m+1,i,h=>by show ((inner f qs (k+m) (mac f qs (k+m))).ps++[_])[i]?=_;rw[bT,aa8 (by rw[eY];lia)];exact mac_pre h
theorem jF:∀{qs:List (Int×List Int)}{s:Mc},∃t,(inner f qs k s).bs=s.bs++t
 |[],s=>⟨[],(aap _).symm⟩
 |q::qs,s=>by
  obtain⟨t,e⟩:=jF;show ∃t,(inner f qs k (inn f k s q)).bs=_;rw[e];unfold inn;split
  ·simp
  ·simp
theorem xQ:∀{m:Nat},∃t,(mac f qs (k+m)).bs=(mac f qs k).bs++t
 |0=>by simp
 |m+1=>by obtain⟨t,e⟩:=xQ;obtain⟨u,L⟩:=jF;exact⟨t++u,by show (inner f qs (k+m) (mac f qs (k+m))).bs=_;rw[L,e,aab]⟩
abbrev Pz:=List (Int×List Int)
theorem AL{k:Nat}(h:f.rows[k]?=some r):pl.pg.call (n+2) 46 [Rl f.rows,Lo f,It k]=some (It (sz f k),[Rl f.rows,Lo f,It k]):=by
 unfold sz;rw[h];have U:=af (C:=Mj (n+1)) (f:=45) (es:=.cons KN .nil) (ρ:=[Go f.rows,Ix f,Db k]) (aa (ax rfl rfl rfl (aR (dO h))) aj) rfl (Ib r) rfl;cases N:r.gr with
 |true=>rw[N]at U;rw[if_pos (.inl N)];exact ai rfl rfl (ak (ag (cI (gY (bw U)) rfl) rfl)) rfl
 |false=>
  rw[N]at U;have t:aL (Mj (n+1)) eeb [Go f.rows,Ix f,Db k]=some (decide ((k:Int)∈f.longs),[Go f.rows,Ix f,Db k]):=ar (aq rfl rfl rfl rfl inL);cases S:decide ((k:Int)∈f.longs) with
  |true=>rw[S]at t;rw[if_pos (.inr (Daa S))];exact ai rfl rfl (ak (ag (cI (bp (bw U) t) rfl) rfl)) rfl
  |false=>rw[S]at t;rw[if_neg λz=>z.elim (λz=>absurd (N.symm.trans z) aaq) λz=>Dad S z];exact ai rfl rfl (ak (ag (bY (bp (bw U) t) rfl) rfl)) rfl
theorem jG:∀{qs:Pz}{s:Mc},(inner f qs k s).bs.length=s.bs.length+qs.countP λq=>decide (q.1=(k:Int))
 |[],s=>rfl
 |q::qs,s=>by
  show (inner f qs k (inn f k s q)).bs.length=_;rw[jG,abz];unfold inn
  grind
theorem jH:∀{qs:Pz},(∀q∈qs,0<=q.1)->qs.countP (λq=>decide (q.1<((k+1:Nat):Int)))=qs.countP (λq=>decide (q.1<(k:Int)))+qs.countP λq=>decide (q.1=(k:Int))
 |[],_=>rfl
 |q::qs,h=>by
  rw[abz,abz,abz,jH λq A=>h q (aag _ A)]
  grind
theorem fK(h:∀q∈qs,0<=q.1):∀{k:Nat},(mac f qs k).bs.length=qs.countP λq=>decide (q.1<(k:Int))
 |0=>by
  show 0=_
  grind
 |k+1=>by show (inner f qs k (mac f qs k)).bs.length=_;rw[jG,fK h,jH h]
abbrev Pq(qs:Pz):OD:=.fz (.list (qs.map Po))
abbrev Mb(qs:Pz):Option OD:=some (Pq qs)
abbrev qE(f:Cf)(qs:Pz)(s:Mc)(k:Nat)(o7 o8:Option OD):DEnv:=[Go f.rows,Ix f,Mb qs,some (Il s.ps),some (Il s.bs),Db s.pl,Db k,o7,o8]
abbrev KQ:E:=.or eee eaq
theorem AM(r:R):oK .nin (.str r.wd) (.tuple [.str am,.str bv])=some r.fal:=by show some (!(decide (am=r.wd)||(decide (bv=r.wd)||false)))=some (!decide (r.wd=am)&&!decide (r.wd=bv));rw[Bool.or_false,Bool.not_or,decide_eq_decide.mpr (eq_comm ),decide_eq_decide.mpr (eq_comm (a:=Str.ofString "stop"))]
theorem KR(h:k<=f.rows.length):ev (Mj n) KQ (qE f qs s k o7 o8)=some (.val (.fz (.bool (pD f.rows k))),qE f qs s k o7 o8):=by
 cases k with
 |zero=>rfl
 |succ k=>
  have c:((k+1:Nat):Int)-1=(k:Int):=by lia
  have J:pD f.rows (k+1)=(f.rows[k]).fal:=by show (f.rows[k]?).elim true R.fal=_;grind
  rw[J];exact mY (aq rfl rfl rfl rfl (show some (decide (((k+1:Nat):Int)=0))=some false by rfl)) (aq (ax (ax rfl rfl rfl (aR (by rw[c];exact dO (aam (by lia))))) rfl rfl (by rw[R.d_is];exact aN aO)) rfl rfl rfl (AM _))
abbrev inB:Ss:=.cons (.iff eej (.cons (.set 5 (.bop .add (.nm 5) (.bop .mul (.int 2) (.blt .int (.cons KQ .nil))))) eab) .nil) .nil
abbrev Tn(q:Int×List Int):OD:=.fz (.tuple (q.2.map PyData.int))
abbrev qF(f:Cf)(qs:Pz)(s:Mc)(k:Nat)(q:Int×List Int):DEnv:=qE f qs s k (Db q.1) (some (Tn q))
theorem AN(h:k<=f.rows.length)(S:s.bs.length<1000):aD (Mj n) inB (qF f qs s k q)=some (.nx,qF f qs (inn f k s q) k q):=by
 unfold inn;by_cases e:q.1=(k)
 ·rw[if_pos e];have j:=KR (n:=n) (qs:=qs) (s:=s) (o7:=Db q.1) (o8:=some (Tn q)) h;refine ab (ao (ar (aq rfl rfl rfl rfl (show some (decide (q.1=(k)))=some true by rw[Dac e]))) ?_) rfl;have r:∀v,pD f.rows k=v->bF (Mj n) (.set 5 (.bop .add (.nm 5) (.bop .mul (.int 2) (.blt .int (.cons KQ .nil))))) (qF f qs s k q)=some (.nx,qF f qs ⟨s.ps,s.bs,if v=true then s.pl+2 else s.pl⟩ k q):=λv o=>by
   rw[o]at j;cases v with
   |true=>exact ae (ah rfl (ah rfl (aJ (aa j aj) rfl rfl) rfl rfl rfl) rfl rfl rfl) rfl rfl rfl
   |false=>exact ae (ah (d:=.int s.pl) rfl (ah rfl (aJ (aa j aj) rfl rfl) rfl rfl rfl) rfl rfl (by show some (PyData.int (s.pl+0))=_;rw[Int.add_zero])) rfl rfl rfl
  refine ab (r _ rfl) ?_;generalize hq:(if pD f.rows k=true then s.pl+2 else s.pl)=p;have W:fw f.rows k s.pl=p+2-p%2:=by unfold fw;rw[hq]
  rw[W];refine ab (ae (ah rfl (ah rfl rfl rfl rfl (bq (by decide))) rfl rfl rfl) rfl rfl rfl) ?_;refine ab (bH rfl rfl rfl rfl (by rw[aae];exact abI S (by decide)) (by show _=[Go f.rows,Ix f,Mb qs,some (Il s.ps),some (Il (s.bs++[p+2-p%2])),Db (p+2-p%2),Db k,Db q.1,some (Tn q)];rw[cL];rfl)) ?_;exact ab (ae (ah rfl (ah rfl (aJ rfl rfl (by show some (PyData.int ((q.2.map PyData.int).length:Nat))=_;rw[aae])) rfl rfl (cK (.inl (by decide)))) rfl rfl rfl) rfl rfl rfl) rfl
 ·rw[if_neg e];exact ab (s_ifF (ar (aq rfl rfl rfl rfl (show some (decide (q.1=(k)))=some false by rw[Dab e]))) rfl) rfl
abbrev LC(n:Nat)(d:PyData)(ρ':DEnv):Option (Fl×DEnv):=(bj (.tp [7,8]) (.fz d) ρ').bind λρ1=>aD (Mj n) inB ρ1
theorem rC(h:k<=f.rows.length):∀{rs:Pz}{s:Mc}{o7 o8:Option OD},s.bs.length+rs.length<1000->∃o7' O,bR (LC n) (rs.map Po) (qE f qs s k o7 o8)=some (.nx,qE f qs (inner f rs k s) k o7' O)
 |[],s,o7,o8,_=>⟨o7,o8,rfl⟩
 |q::rs,s,o7,o8,hb=>by
  rw[aaD]at hb;have e:LC n (Po q) (qE f qs s k o7 o8)=some (.nx,qF f qs (inn f k s q) k q):=bs rfl (AN h (by lia));have D:(inn f k s q).bs.length+rs.length<1000:=by
   unfold inn
   grind
  obtain⟨o7',O,L⟩:=rC h D;exact⟨o7',O,bs e L⟩
abbrev qG(f:Cf)(qs:Pz)(s:Mc)(o6 o7 o8:Option OD):DEnv:=[Go f.rows,Ix f,Mb qs,some (Il s.ps),some (Il s.bs),Db s.pl,o6,o7,o8]
abbrev ouB:Ss:=.cons (.fr (.tp [7,8]) (.seq (.nm 2)) inB) eac
abbrev LD(n:Nat)(d:PyData)(ρ':DEnv):Option (Fl×DEnv):=(bj (.nm 6) (.fz d) ρ').bind λρ1=>aD (Mj n) ouB ρ1
theorem BV:aL (Mj n) eb8 (qE f qs s k o7 o8)=some (decide ((k:Int)<(f.rows.length:Int)),qE f qs s k o7 o8):=ar (aq rfl (aJ rfl rfl (by show some (PyData.int ((f.rows.map R.d).length:Nat))=_;rw[aae])) rfl rfl rfl)
theorem BW(h:k<=f.rows.length)(S:s.bs.length+qs.length<1000):∃o7' O,bF (Mj n) (.fr (.tp [7,8]) (.seq (.nm 2)) inB) (qE f qs s k o7 o8)=some (.nx,qE f qs (inner f qs k s) k o7' O):=by obtain⟨o7',O,e⟩:=rC h S;exact⟨o7',O,eE (cz rfl rfl rfl) e⟩
theorem AO{k:Nat}(h:k<f.rows.length)(S:s.bs.length+qs.length<1000)(C:s.ps.length<1000):∃o o7' O,LD (n+2) (.int k) (qG f qs s o6 o7 o8)=some (.nx,qG f qs (EZ f k (inner f qs k s)) o o7' O):=by
 obtain⟨o7',O,e⟩:=BW (aaM h) S;have w:(inner f qs k s).ps.length<1000000:=by rw[bT];lia
 generalize inner f qs k s=t at e w;have u:=BV (n:=n+2) (f:=f) (qs:=qs) (s:=t) (k:=k) (o7:=o7') (o8:=O);rw[Dac (by lia)]at u;refine⟨Db k,o7',O,bs rfl (ab e (ab (ao u (ab (bH (ρ3:=qE f qs ⟨t.ps++[t.pl],t.bs,t.pl⟩ k o7' O) rfl rfl rfl rfl (by grind) ?_) (ab (ae (ah rfl (af rfl rfl (AL (aam h)) rfl) rfl rfl rfl) rfl rfl rfl) rfl))) rfl))⟩
 grind
theorem rD{f:Cf}{qs:Pz}(P:∀q∈qs,0<=q.1)(A:qs.length<=300)(z:f.rows.length<=200):∀{m k:Nat}{o6 o7 o8:Option OD},k+m=f.rows.length->∃o o7' O,bR (LD (n+2)) (dm k (m+1)) (qG f qs (mac f qs k) o6 o7 o8)=some (.nx,qG f qs (inner f qs f.rows.length (mac f qs f.rows.length)) o o7' O)
 |0,k,o6,o7,o8,h=>by
  obtain rfl:k=f.rows.length:=h;have S:(mac f qs f.rows.length).bs.length+qs.length<1000:=by
   rw[fK P]
   grind
  obtain⟨o7',O,e⟩:=BW (aac _) S;have u:=BV (n:=n+2) (f:=f) (qs:=qs) (s:=inner f qs f.rows.length (mac f qs f.rows.length)) (k:=f.rows.length) (o7:=o7') (o8:=O);rw[Dab (by lia)]at u;refine⟨Db f.rows.length,o7',O,?_⟩;rw[bf];exact bs (bs rfl (ab e (ab (s_ifF u rfl) rfl))) rfl
 |m+1,k,o6,o7,o8,h=>by
  have S:(mac f qs k).bs.length+qs.length<1000:=by
   rw[fK P]
   grind
  obtain⟨a,b,c,e⟩:=AO (o7:=o7) (o8:=o8) (show k<f.rows.length by lia) S (by rw[eY];lia);obtain⟨w,C,M,L⟩:=rD (n:=n) P A z (m:=m) (k:=k+1) (o6:=a) (o7:=b) (o8:=c) (by lia);refine⟨w,C,M,?_⟩;rw[bf];exact bs e L
abbrev Ij(s:Mc):OD:=.fz (.tuple [.list (s.ps.map PyData.int),.list (s.bs.map PyData.int),.int s.pl])
abbrev Dl(gs:List Int):OD:=.fz (.list (gs.map PyData.int))
abbrev Me(gs:List Int):Option OD:=some (Dl gs)
theorem xR(P:∀q∈qs,0<=q.1)(A:qs.length<=300)(a:f.rows.length<=200):pl.pg.call (n+3) 47 [Rl f.rows,Lo f,Pq qs]=some (Ij (inner f qs f.rows.length (mac f qs f.rows.length)),[Rl f.rows,Lo f,Pq qs]):=by
 obtain⟨T,D,g,e⟩:=rD P A a (aaQ _);generalize inner f qs f.rows.length (mac f qs f.rows.length)=s at e;have t:(((f.rows.length:Nat):Int)+1).toNat=f.rows.length+1:=by lia
 refine ai rfl rfl (ab (fI rfl rfl rfl rfl) (ab (eE (gL (ah (aJ rfl rfl (by show some (PyData.int ((f.rows.map R.d).length:Nat))=_;rw[aae])) rfl rfl rfl rfl) rfl (by lia)) (by trivial)) (ak (ag (bh (zs:=[Dl s.ps,Dl s.bs,It s.pl]) (ρ2:=[Go f.rows,Ix f,Mb qs,Me s.ps,Me s.bs,Db s.pl,T,D,g]) rfl rfl ?_ rfl) rfl)))) rfl;have J:own1 (qG f qs s T D g) (.rf 3)=some (Dl s.ps,[Go f.rows,Ix f,Mb qs,Me s.ps,some (Il s.bs),Db s.pl,T,D,g]):=by show (frz1 _ (.rf 3)).map _=_;rw[frz_rf rfl (aA _) rfl];rfl
 have B:own1 [Go f.rows,Ix f,Mb qs,Me s.ps,some (Il s.bs),Db s.pl,T,D,g] (.rf 4)=some (Dl s.bs,[Go f.rows,Ix f,Mb qs,Me s.ps,Me s.bs,Db s.pl,T,D,g]):=by show (frz1 _ (.rf 4)).map _=_;rw[frz_rf rfl (aA _) rfl];rfl
 have l:mapR own1 [Go f.rows,Ix f,Mb qs,Me s.ps,some (Il s.bs),Db s.pl,T,D,g] [.rf 4,.val (It s.pl)]=some ([Dl s.bs,It s.pl],[Go f.rows,Ix f,Mb qs,Me s.ps,Me s.bs,Db s.pl,T,D,g]):=bs B rfl;exact bs J (by grind)
theorem E4(P:ρ[i]?.join=Db a)(O:ev C e ρ=some (x,ρ1))(Z:az ρ1 x=some d)(M:mH o a d=some r)(F:ρ1.set i (Db r)=ρ2):bF C (.aug i o e) ρ=some (.nx,ρ2):=bs P (bs rfl (bs rfl (bs O (bs Z (bs M (by rw[<-F]))))))
theorem s_asgQ(h:ev C e ρ=some (x,ρ1))(j:own1 ρ1 x=some (z,ρ2))(i:bj t z ρ2=some ρ3):bF C (.asg t e) ρ=some (.nx,ρ3):=bs h (bs j (bs i rfl))
theorem pI(h:tU C it ρ=some (ds,ρ1))(d:ds.length<1000000)(U:cD ρ1 fr=some zc)(W:fq (mK C tg ke ve) ds ([],[]) (List.replicate nt none++zc.1)=some ((ks,vs),ρ2))(r:i<(ei zc.2 fr (ρ2.drop nt)).length)(D:(ei zc.2 fr (ρ2.drop nt)).set i (some (.dic ks vs))=ρ3):bF C (.sdc i nt fr it tg ke ve) ρ=some (.nx,ρ3):=bs h (bg d (bs U (bs W (bg r (by rw[<-D])))))
abbrev Qk(qs:Pz):List Key:=(qs.map λq=>(q.1,(q.2.length:Int))).map λu=>.inl u.1
abbrev Qv(qs:Pz):List OD:=(qs.map λq=>(q.1,(q.2.length:Int))).map λu=>It u.2
abbrev Qd(qs:Pz):OD:=.dic (Qk qs) (Qv qs)
abbrev Mf(qs:Pz):Option OD:=some (Qd qs)
theorem xS:∀{qs ps:Pz}{B c:Option OD},(ps++qs).Pairwise (λx y=>x.1<y.1)->∃o O,fq (mK C (.tp [0,1]) (.nm 0) edu) (qs.map Po) (Qk ps,Qv ps) [B,c]=some ((Qk (ps++qs),Qv (ps++qs)),[o,O])
 |[],ps,B,c,_=>⟨B,c,by rw[aap];rfl⟩
 |q::qs,ps,B,c,h=>by
  have l:q.1 ∉ (ps.map λq=>(q.1,(q.2.length:Int))).map (·.1):=λz=>by
   obtain⟨u,U,e⟩:=aaH.mp z;obtain⟨x,F,rfl⟩:=aaH.mp U;have:=(abk.mp h).2.2 x F q aai;have e:x.1=q.1:=e
   lia
  have e:=putK_new (v:=(q.2.length:Int)) l;obtain⟨o,O,L⟩:=xS (ps:=ps++[q]) (by rw[aab];exact h);rw[aab]at L;refine⟨o,O,bs (x:=((Qk (ps++[q]),Qv (ps++[q])),[Db q.1,some (Tn q)])) ?_ L⟩;refine bs rfl (bs rfl (bs (aJ rfl rfl (by show some (PyData.int ((q.2.map PyData.int).length:Nat))=_;rw[aae])) (bs rfl (bs rfl (bs rfl ?_)))));have Q:(ps++[q]).map (λq=>(q.1,(q.2.length:Int)))=ps.map (λq=>(q.1,(q.2.length:Int)))++[(q.1,(q.2.length:Int))]:=aaE;show some (putKey (.inl q.1) (.int (q.2.length:Int)) (Qk ps) (Qv ps),[Db q.1,some (Tn q)])=some ((List.map _ ((ps++[q]).map _),List.map _ ((ps++[q]).map _)),_);rw[Q,e]
abbrev zP(f:Cf)(qs:Pz)(s:Mc)(o7:Option OD):DEnv:=[Go f.rows,Ix f,Mb qs,Mf qs,some (Il s.ps),some (Il s.bs),Db s.pl,o7]
abbrev zS:Ss:=match F_placed.body with|.cons _ (.cons _ (.cons _ (.cons _ (.cons (.fr _ _ b) _))))=>b|_=>.nil
theorem BX:aL (Mj n) eb5 (zP f qs s (Db k))=some (decide ((k:Int)<(f.rows.length:Int)),zP f qs s (Db k)):=ar (aq rfl (aJ rfl rfl blen) rfl rfl rfl)
theorem BY(h:((Qk qs).any λq=>decide (q=.inl (k:Int)))=b):aL (Mj n) Ll (zP f qs s (Db k))=some (b,zP f qs s (Db k)):=by rw[<-h];rfl
theorem Qk_any:((Qk qs).any λq=>decide (q=.inl (k:Int)))=true ↔ ∃q∈qs,q.1=(k:Int):=by simp
theorem AQ(h:∀x∈a,x.1≠(k:Int))(e:q.1=(k:Int)):(Qk (a++q::b)).findIdx? (λq=>decide (q=.inl (k:Int)))=some a.length:=by
 induction a with
 |nil=>exact(aaR).trans (if_pos (Dac (show (Sum.inl q.1:Key)=.inl (k:Int) by rw[e])))
 |cons x a Y=>have F:¬ (decide ((Sum.inl x.1:Key)=.inl (k:Int)))=true:=λz=>h x aai (by have:=Daa z;injection this);refine(aaR).trans ((if_neg F).trans ?_);exact congrArg (Option.map λi=>i+1) (Y λy m=>h y (aag _ m))
theorem Ik(C:qs.Pairwise λx y=>x.1<y.1)(hk:k<=f.rows.length)(S:s.bs.length<1000)(K:aD (Mj (n+3)) sb (zP f qs (inner f qs k s) (Db k))=r):aD (Mj (n+3)) (.cons eaa sb) (zP f qs s (Db k))=r:=by
 by_cases h:∃q∈qs,q.1=(k:Int)
 ·have W:=BY (n:=n+3) (f:=f) (s:=s) (Qk_any.mpr h);obtain⟨q,A,e⟩:=h;obtain⟨a,b,rfl⟩:=abu A;have j:∀x∈a,x.1≠(k:Int):=λx F=>by grind
  have D:∀x∈b,x.1≠(k:Int):=λx F=>by have:=(aaT.mp (abk.mp C).2.1).1 x F;lia
  have Z:inner f (a++q::b) k s=⟨s.ps,s.bs++[fw f.rows k s.pl],fw f.rows k s.pl+2*q.2.length⟩:=by rw[gQ,cB j];show inner f b k (inn f k s q)=_;rw[cB D];exact if_pos e
  have o:(Qv (a++q::b))[a.length]?=Db q.2.length:=by simp
  have H:∀t:Mc,aw (zP f (a++q::b) t (Db k)) 3 [.key 7]=some (Qd (a++q::b),[a.length],It q.2.length):=λt=>by refine bs rfl (bs ?_ (bs o rfl));exact bs rfl (bs rfl (bs rfl (bs rfl (AQ j e))))
  rw[Z]at K;refine ab (ao W (ab (bH (ρ3:=zP f (a++q::b) ⟨s.ps,s.bs++[fw f.rows k s.pl],s.pl⟩ (Db k)) rfl (af rfl rfl (iu hk) rfl) rfl rfl (by grind) ?_) (ab (ae (ah (ax rfl rfl rfl (aW rfl ?_)) (ah rfl (bV (H _) rfl) rfl rfl (cK (.inl (by decide)))) rfl rfl rfl) rfl rfl rfl) rfl))) K
  ·show _=[Go f.rows,Ix f,some (Pq (a++q::b)),some (Qd (a++q::b)),some (Il s.ps),some (Il (s.bs++[fw f.rows k s.pl])),Db s.pl,Db k];rw[cL];rfl
  ·rw[aaE];have c:ixN (s.bs.map It++[fw f.rows k s.pl].map It).length (-1)=some (s.bs.map It).length:=by
    unfold ixN;rw[if_neg (by decide),aaj,aae,if_pos (by simp;lia)];congr 1;simp
    lia
   exact bs c acl
 ·have W:=BY (n:=n+3) (f:=f) (s:=s) (by rw[Bool.eq_false_iff];exact λz=>h (Qk_any.mp z));rw[cB λq A e=>h ⟨q,A,e⟩]at K;exact ab (s_ifF W rfl) K
theorem xT(C:qs.Pairwise λx y=>x.1<y.1)(P:∀q∈qs,0<=q.1)(A:qs.length<=300)(a:f.rows.length<=200):∀{m k:Nat}{o7:Option OD},k+m=f.rows.length->∃o7',bR (λd p=>(bj (.nm 7) (.fz d) p).bind λρ1=>aD (Mj (n+3)) zS ρ1) (dm k (m+1)) (zP f qs (mac f qs k) o7)=some (.nx,zP f qs (inner f qs f.rows.length (mac f qs f.rows.length)) o7')
 |0,k,o7,h=>by
  obtain rfl:k=f.rows.length:=h;have S:(mac f qs f.rows.length).bs.length<1000:=by
   rw[fK P]
   grind
  have u:=BX (n:=n+3) (f:=f) (qs:=qs) (s:=inner f qs f.rows.length (mac f qs f.rows.length)) (k:=f.rows.length);rw[Dab (by lia)]at u;refine⟨Db f.rows.length,?_⟩;rw[bf];exact bs (bs rfl (Ik C (aac _) S (ab (s_ifF u rfl) rfl))) rfl
 |m+1,k,o7,h=>by
  have T:k<f.rows.length:=by lia
  have S:(mac f qs k).bs.length<1000:=by
   rw[fK P]
   grind
  have u:=BX (n:=n+3) (f:=f) (qs:=qs) (s:=inner f qs k (mac f qs k)) (k:=k);rw[Dac (by lia)]at u;have J:mac f qs (k+1)=EZ f k (inner f qs k (mac f qs k)):=rfl;have t:(inner f qs k (mac f qs k)).ps.length<1000000:=by rw[bT,eY];lia
  obtain⟨Z,L⟩:=xT C P A a (m:=m) (k:=k+1) (o7:=Db k) (by lia);rw[J]at L;refine⟨Z,?_⟩;rw[bf];refine bs (x:=(Fl.nx,zP f qs (EZ f k (inner f qs k (mac f qs k))) (Db k))) (bs (x:=zP f qs (mac f qs k) (Db k)) rfl (Ik C (aaM T) S ?_)) L;generalize inner f qs k (mac f qs k)=s at *;refine ab (ao u (ab (bH (ρ3:=zP f qs ⟨s.ps++[s.pl],s.bs,s.pl⟩ (Db k)) rfl rfl rfl rfl (by rw[aae];exact t) ?_) (ab (E4 (r:=s.pl+sz f k) (ρ2:=zP f qs (EZ f k s) (Db k)) rfl (af (ρ3:=zP f qs ⟨s.ps++[s.pl],s.bs,s.pl⟩ (Db k)) rfl rfl (pF (n:=n+1) (aam T)) rfl) rfl rfl rfl) rfl))) rfl;show _=[Go f.rows,Ix f,Mb qs,Mf qs,some (Il (s.ps++[s.pl])),some (Il s.bs),Db s.pl,Db k];rw[cL];rfl
theorem rE(C:qs.Pairwise λx y=>x.1<y.1)(P:∀q∈qs,0<=q.1)(c:qs.length<=300)(a:f.rows.length<=200):pl.pg.call (n+4) 16 [Rl f.rows,Lo f,Pq qs]=some (Ij (inner f qs f.rows.length (mac f qs f.rows.length)),[Rl f.rows,Lo f,Pq qs]):=by
 obtain⟨D,e⟩:=xT C P c a (aaQ _);generalize inner f qs f.rows.length (mac f qs f.rows.length)=s at e;have t:(((f.rows.length:Nat):Int)+1).toNat=f.rows.length+1:=by lia
 obtain⟨b,I,A⟩:=xS (ps:=[]) C;have W:bF (Mj (n+3)) ea6 [Go f.rows,Ix f,Mb qs,none,none,none,none,none]=some (.nx,[Go f.rows,Ix f,Mb qs,Mf qs,none,none,none,none]):=pI (cz rfl rfl rfl) (by grind) rfl A (by show 3<8;decide) rfl;refine ai rfl rfl (ab W (ab rfl (ab rfl (ab rfl (ab (eE (gL (ah (aJ rfl rfl blen) rfl rfl rfl rfl) rfl (by lia)) (by trivial)) (ak (ag (bh (zs:=[Dl s.ps,Dl s.bs,It s.pl]) (ρ2:=[Go f.rows,Ix f,Mb qs,Mf qs,Me s.ps,Me s.bs,Db s.pl,D]) rfl rfl ?_ rfl) rfl))))))) rfl;have J:own1 (zP f qs s D) (.rf 4)=some (Dl s.ps,[Go f.rows,Ix f,Mb qs,Mf qs,Me s.ps,some (Il s.bs),Db s.pl,D]):=by show (frz1 _ (.rf 4)).map _=_;rw[frz_rf rfl (aA _) rfl];rfl
 have B:own1 [Go f.rows,Ix f,Mb qs,Mf qs,Me s.ps,some (Il s.bs),Db s.pl,D] (.rf 5)=some (Dl s.bs,[Go f.rows,Ix f,Mb qs,Mf qs,Me s.ps,Me s.bs,Db s.pl,D]):=by show (frz1 _ (.rf 5)).map _=_;rw[frz_rf rfl (aA _) rfl];rfl
 have l:mapR own1 [Go f.rows,Ix f,Mb qs,Mf qs,Me s.ps,some (Il s.bs),Db s.pl,D] [.rf 5,.val (It s.pl)]=some ([Dl s.bs,It s.pl],[Go f.rows,Ix f,Mb qs,Mf qs,Me s.ps,Me s.bs,Db s.pl,D]):=bs B rfl;exact bs J (by grind)
theorem eZ:∀{js:List Int}{out:List PyData}{o:Option OD},(∀j∈js,aL C t (Db j::ρ)=some (p j,Db j::ρ))->∃P,cH (cQ C (.nm 0) (.some t) (.nm 0)) (js.map PyData.int) out (o::ρ)=some (out++(js.filter p).map PyData.int,P::ρ)
 |[],out,o,_=>⟨o,by rw[List.filter_nil,aay,aap];rfl⟩
 |j::js,out,o,h=>by
  have u:=h j aai;have W:=λk T=>h k (aag _ T);have i:bj (.nm 0) (.fz (.int j)) (o::ρ)=some (Db j::ρ):=by rfl
  cases M:p j with
  |false=>rw[M]at u;obtain⟨P,e⟩:=eZ W;refine⟨P,bs (EK i u) ?_⟩;rw[e,aap,ab0 (by grind)]
  |true=>rw[M]at u;obtain⟨P,e⟩:=eZ W;refine⟨P,bs (EJ i u rfl rfl) ?_⟩;rw[e,abZ M,aab];rfl
theorem Im(r:R):r.jm=(decide (r.wd=am)||decide (r.wd=bi)):=by cases r<;>rfl
theorem AR(n:ev C e ρ=some (.val (Rd r),ρ))(h:oK o (.str r.wd) (.str x)=some k):ev C (.cmp o (.ix e (.int 0)) (.str x)) ρ=some (.val (.fz (.bool k)),ρ):=aq (ax n rfl rfl (by show bE ρ (.val (.fz r.d)) 0=_;rw[R.d_is];exact aN aO)) rfl rfl rfl h
theorem Io(r:R):pl.pg.call (n+1) 1 [Rd r]=some (.fz (.bool r.jm),[Rd r]):=by
 have O:∀x:Str,ev (Mj n) (.cmp .eq eer (.str x)) [Fa r]=some (.val (.fz (.bool (decide (r.wd=x)))),[Fa r]):=λx=>AR rfl rfl;refine ai (ρ:=[Fa r]) rfl rfl (ak (ag (x:=.val (.fz (.bool r.jm))) ?_ rfl)) rfl;rw[Im];have N:=O am;cases S:decide (r.wd=am) with
 |true=>rw[S]at N;exact BP N
 |false=>rw[S]at N;exact mY N (O bi)
def jIx:Int->List R->List Int
 |_,[]=>[]
 |i,r::rs=>if r.jm=true then i::jIx (i+1) rs else jIx (i+1) rs
theorem jIx_mem:∀{rs:List R}{i a:Int},a∈jIx i rs->∃(j:Nat) (r:R),a=i+j/\rs[j]?=some r/\r.jm=true
 |[],i,a,h=>by trivial
 |r::rs,i,a,h=>by
  rw[jIx]at h;by_cases N:r.jm=true
  ·rw[if_pos N]at h;rcases aaa.mp h with rfl|h
   ·exact⟨0,r,by lia,rfl,N⟩
   ·obtain⟨j,q,e,O,Z⟩:=jIx_mem h;exact⟨j+1,q,by grind,O,Z⟩
  ·rw[if_neg N]at h;obtain⟨j,q,e,O,Z⟩:=jIx_mem h;exact⟨j+1,q,by grind,O,Z⟩
theorem fb:∀{rs:List R}{i:Int},(jIx i rs).length=(rs.filter R.jm).length
 |[],i=>rfl
 |r::rs,i=>by
  rw[jIx];by_cases N:r.jm=true
  ·rw[if_pos N,abZ N,aaD,aaD,fb]
  ·rw[if_neg N,ab0 N,fb]
theorem lJ:∀{rs:List R}{i:Int}{out:List PyData}{B c:Option OD},∃p,cH (cQ (Mj (n+1)) (.tp [0,1]) (.some ed1) (.nm 0)) (enF i rs) out [B,c]=some (out++(jIx i rs).map PyData.int,p)
 |[],i,out,B,c=>⟨[B,c],by rw[jIx,aay,aap];rfl⟩
 |r::rs,i,out,B,c=>by
  have U:aL (Mj (n+1)) ed1 [Db i,Fa r]=some (r.jm,[Db i,Fa r]):=bw (af rfl rfl (Io r) rfl);rw[jIx];cases N:r.jm with
  |false=>rw[N]at U;obtain⟨p,e⟩:=lJ;refine⟨p,bs (EK rfl U) ?_⟩;rw[if_neg aaq,e,aap]
  |true=>rw[N]at U;obtain⟨p,e⟩:=lJ;refine⟨p,bs (EJ rfl U rfl rfl) ?_⟩;rw[if_pos rfl,e,aab];rfl
theorem rG(D:rs.length<=1000):pl.pg.call (n+2) 3 [Rl rs]=some (Il (jIx 0 rs),[Rl rs]):=by obtain⟨p,e⟩:=lJ;rw[aaI,<-rA]at e;refine ai rfl rfl (ak (ag (dB (xw rfl rfl) (by rw[gz,aae];lia) rfl e unca_nil) (by rw[fv];rfl))) rfl
def farN(r:R)(hop:Int):Int:=if r.wd=bi then (if 99<hop then 99 else hop) else hop
theorem Ip:pl.pg.call (n+1) 26 [Rd r,It hop]=some (It (farN r hop),[Rd r,It hop]):=by
 have U:aL (Mj n) ecu [Fa r,Db hop]=some (decide (r.wd=bi),[Fa r,Db hop]):=ar (AR rfl rfl);unfold farN;refine ai (ρ:=[Fa r,Db hop]) rfl rfl (ak (ag (x:=.val (It _)) ?_ rfl)) rfl;by_cases h:r.wd=bi
 ·rw[Dac h]at U;rw[if_pos h];exact cI U rfl
 ·rw[Dab h]at U;rw[if_neg h];exact bY U rfl
abbrev fin(f:Cf)(qs:Pz):Mc:=inner f qs f.rows.length (mac f qs f.rows.length)
theorem gk{f:Cf}{qs:Pz}:(fin f qs).ps.length=f.rows.length:=by rw[bT,eY]
def xU(s:Mc)(r:R)(k:Nat):Int:=(s.ps++[s.pl]).getD r.tg.toNat 0-s.ps.getD k 0
def tq(f:Cf)(s:Mc)(hop a:Int):Bool:=(f.rows[a.toNat]?).elim false λr=>decide (farN r hop<if xU s r a.toNat<0 then -(xU s r a.toNat) else xU s r a.toNat)
def tsF(f:Cf)(qs:Pz)(hop:Int):List Int:=((jIx 0 f.rows).filter λa=>!decide (a∈f.longs)).filter (tq f (fin f qs) hop)
theorem atI_last{Y:Type}{xs:List Y}{x:Y}:atI (xs++[x]) (-1)=some x:=by
 have e:ixN (xs++[x]).length (-1)=some xs.length:=by
  unfold ixN
  grind
 exact bs e acl
theorem atI_get{Y:Type}{g:Int->Y}{gs:List Int}{i:Int}(P:0<=i)(O:i<gs.length):atI (gs.map g) i=some (g (gs.getD i.toNat 0)):=by
 have e:i=(i.toNat:Int):=by omega
 have t:i.toNat<gs.length:=by omega
 rw[e];refine bZ ?_;rw[aaz,aaN,aam t,aaX,aam t];rfl
theorem xV{C:Ct}{r:R}{ρ:DEnv}{e:E}{N:Int}(n:ev C e ρ=some (.val (Rd r),ρ))(H:Jok N r)(u:r.jm=true):ev C (.ix e (.neg (.int 1))) ρ=some (.val (It r.tg),ρ):=by obtain⟨_,_,j,W⟩:=H u;exact ax n rfl rfl (by show bE ρ (.val (.fz r.d)) (-1)=_;rw[W];exact aN atI_last)
abbrev iE(f:Cf)(s:Mc)(hop a:Int):DEnv:=[Db a,Db hop,Go f.rows,some (Il (s.ps++[s.pl])),Me s.ps]
abbrev iT:E:=.cmp .gt ear ebm
theorem t_ts{n k:Nat}{f:Cf}{s:Mc}{hop:Int}{r:R}(H:Jb f.rows.length f.rows)(t:s.ps.length=f.rows.length)(h:f.rows[k]?=some r)(W:r.jm=true):aL (Mj (n+1)) iT (iE f s hop k)=some (tq f s hop k,iE f s hop k):=by
 have D:=H r (aax h);obtain⟨u,Y,_⟩:=D W;have T:k<f.rows.length:=(aah.mp h).1;have X:ev (Mj (n+1)) KM (iE f s hop k)=some (.val (Rd r),iE f s hop k):=ax rfl rfl rfl (aR (dO h));have L:ev (Mj (n+1)) Lx (iE f s hop k)=some (.val (It ((s.ps++[s.pl]).getD r.tg.toNat 0)),iE f s hop k):=ax rfl (xV X D W) rfl (aW rfl (atI_get u (by rw[aaj,t,aaL];omega)));have A:ev (Mj (n+1)) (.ix (.nm 4) (.nm 0)) (iE f s hop k)=some (.val (It (s.ps.getD k 0)),iE f s hop k):=ax rfl rfl rfl (aR (atI_get (i:=(k:Int)) (by omega) (by omega)));have q:tq f s hop k=decide (farN r hop<if xU s r k<0 then -(xU s r k) else xU s r k):=by unfold tq;rw[aaN,h];rfl
 rw[q];exact ar (aq (aJ (aa (ah L A rfl rfl rfl) aj) rfl rfl) (af (aa X (aa rfl aj)) rfl Ip rfl) rfl rfl rfl)
theorem xW{ps:List Int}{p:Int}:(OD.lst ((ps.map PyData.int++[PyData.int p]).map OD.fz))=Il (ps++[p]):=by have e:(ps++[p]).map PyData.int=ps.map PyData.int++[PyData.int p]:=aaE;rw[Il,<-fv,e]
theorem AS{n:Nat}{f:Cf}{qs:Pz}{hop:Int}(M:qs.Pairwise λx y=>x.1<y.1)(P:∀q∈qs,0<=q.1)(A:qs.length<=300)(u:f.rows.length<=200)(H:Jb f.rows.length f.rows):pl.pg.call (n+5) 27 [Rl f.rows,Lo f,Pq qs,It hop]=some (Il (tsF f qs hop),[Rl f.rows,Lo f,Pq qs,It hop]):=by
 have g:pl.pg.call (n+4) 16 [Rl f.rows,Lo f,Pq qs]=some (Ij (fin f qs),[Rl f.rows,Lo f,Pq qs]):=rE (n:=n) M P A u;have d:=gk (f:=f) (qs:=qs);unfold tsF;generalize fin f qs=s at *;obtain⟨c,I⟩:=eZ (C:=Mj (n+4)) (t:=.cmp .nin (.nm 0) (.nm 1)) (p:=λa=>!decide (a∈f.longs)) (ρ:=[Ix f]) (js:=jIx 0 f.rows) (out:=[]) (o:=none) λj _=>ar (aq rfl rfl rfl rfl ninL);have Y:∀j∈(jIx 0 f.rows).filter (λa=>!decide (a∈f.longs)),aL (Mj (n+4)) iT (Db j::[Db hop,Go f.rows,some (Il (s.ps++[s.pl])),Me s.ps])=some (tq f s hop j,Db j::[Db hop,Go f.rows,some (Il (s.ps++[s.pl])),Me s.ps]):=λj L=>by obtain⟨k,r,e,O,Z⟩:=jIx_mem (aaV.mp L).1;rw[abe]at e;subst e;exact t_ts H d O Z
 have S:((jIx 0 f.rows).filter (λa=>!decide (a∈f.longs))).length<=1000:=aan (abl _ _) (by rw[fb];grind);generalize (jIx 0 f.rows).filter (λa=>!decide (a∈f.longs))=js at *;obtain⟨v,W⟩:=eZ (C:=Mj (n+4)) (t:=iT) (p:=tq f s hop) (ρ:=[Db hop,Go f.rows,some (Il (s.ps++[s.pl])),Me s.ps]) (js:=js) (out:=[]) (o:=none) Y;rw[aaI]at I W;have X:(Mj (n+4)).call=pl.pg.call (n+4):=rfl;rw[<-X]at g;have i:=rG (n:=n+2) (rs:=f.rows) (by lia);rw[<-X]at i;have N:(jIx 0 f.rows).length<1000000:=by rw[fb];grind
 refine ai (fn:=g6) (ρ:=[Go f.rows,Ix f,Mb qs,Db hop,Me s.ps,Me s.bs,Db s.pl,some (Il (s.ps++[s.pl])),Me js]) rfl rfl ?_ rfl;refine ab (s_asgQ (ρ3:=[Go f.rows,Ix f,Mb qs,Db hop,Me s.ps,Me s.bs,Db s.pl,none,none]) (af (ρ3:=[Go f.rows,Ix f,Mb qs,Db hop,none,none,none,none,none]) rfl rfl g rfl) rfl rfl) ?_;refine ab (ae (ρ3:=[Go f.rows,Ix f,Mb qs,Db hop,Me s.ps,Me s.bs,Db s.pl,some (Il (s.ps++[s.pl])),none]) (qZ rfl (bX (aa rfl aj) rfl rfl) rfl rfl (by grind)) rfl rfl (by rw[xW];rfl)) ?_;refine ab (ae (ρ3:=[Go f.rows,Ix f,Mb qs,Db hop,Me s.ps,Me s.bs,Db s.pl,some (Il (s.ps++[s.pl])),some (Il js)]) (dB (ρ2:=[Go f.rows,Ix f,Mb qs,Db hop,Me s.ps,Me s.bs,Db s.pl,some (Il (s.ps++[s.pl])),none]) (cz (af (ρ3:=[Go f.rows,Ix f,Mb qs,Db hop,Me s.ps,Me s.bs,Db s.pl,some (Il (s.ps++[s.pl])),none]) rfl rfl i rfl) (by show (Il _).dat.map _=_;rw[aA];rfl) rfl) (by rw[aae];exact N) rfl I rfl) rfl rfl (by rw[fv];rfl)) ?_;exact ak (ag (z:=Il (js.filter (tq f s hop))) (dB (ρ2:=[Go f.rows,Ix f,Mb qs,Db hop,Me s.ps,Me s.bs,Db s.pl,some (Il (s.ps++[s.pl])),Me js]) (cz rfl (frz_rf rfl (aA _) rfl) rfl) (by rw[aae];lia) rfl W rfl) (by rw[fv];rfl))
abbrev Sm(n:Nat)(d:PyData):Prop:=pl.pg.call (n+1) 49 [.fz d,.fz d]=some (.fz (.bool true),[.fz d,.fz d])
theorem AU:Sm n (.int a):=by have h:ev (Mj n) eek [Db a,Db a]=some (.val (.fz (.bool true)),[Db a,Db a]):=aq rfl rfl rfl rfl (show some (decide (a=a))=some true by simp);exact ai rfl rfl (ab (s_ifF rfl rfl) (ab (s_ifF rfl rfl) (ab (s_ifF rfl rfl) (ak (ag (ji rfl (ji rfl h)) rfl))))) rfl
theorem nF:∀m:Nat,allB (List.replicate m (.bool true))=some (List.replicate m true)
 |0=>rfl
 |m+1=>by rw[aa4,allB,nF m];rfl
theorem AV:zL .all [.list (List.replicate m (.bool true))]=some (.bool true):=by show (allB (List.replicate m (.bool true))).bind _=_;rw[nF];simp
theorem xX:fe ρ [.val (.lst (ds.map OD.fz))]=some [.list ds]:=by have:az ρ (.val (.lst (ds.map OD.fz)))=some (.list ds):=dat_fz ds;simp only[fe,this];rfl
theorem rH:∀{ds out:List PyData}{B c:Option OD},(∀d∈ds,Sm n d)->∃o O,cH (cQ (Mj (n+1)) (.tp [0,1]) .none ecs) (zipD ds ds) out [B,c]=some (out++List.replicate ds.length (.bool true),[o,O])
 |[],out,B,c,_=>⟨B,c,by show some (out,_)=some (out++[],_);simp⟩
 |x::xs,out,B,c,h=>by obtain⟨P,A,e⟩:=rH λd W=>h d (aag _ W);refine⟨P,A,bs (Ax rfl (af rfl rfl (h x aai) rfl) rfl) ?_⟩;rw[aab]at e;exact e
theorem rJ(t:ds.length<=100000)(h:∀d∈ds,Sm n d):Sm (n+1) (.list ds)/\Sm (n+1) (.tuple ds):=by
 obtain⟨B,c,e⟩:=rH h;rw[aaI]at e;have f:(zipD ds ds).length<1000000:=by unfold zipD;grind
 have p:∀x:PyData,tT x=some ds->jP x=some ds.length->BC .seq x=true->Sm (n+1) x:=λx O Z M=>by
  have U:=dB (nt:=2) (fr:=[]) (it:=.zip (.nm 0) (.nm 1)) (ρ:=[some (.fz x),some (.fz x)]) (oY rfl rfl rfl rfl O O) f rfl e unca_nil;have S:zL .len [x]=some (.int ds.length):=by show (jP x).bind (λn=>some (PyData.int n))=_;grind
  have l:aL (Mj (n+1)) ea8 [some (.fz x),some (.fz x)]=some (false,[some (.fz x),some (.fz x)]):=ar (aq (aJ rfl rfl S) (aJ rfl rfl S) rfl rfl (show some (!decide ((ds.length:Int)=ds.length))=some false by simp));have r:∀k,aL (Mj (n+1)) (.cmp .ne (.isi k (.nm 0)) (.isi k (.nm 1))) [some (.fz x),some (.fz x)]=some (false,[some (.fz x),some (.fz x)]):=λk=>ar (aq rfl rfl rfl rfl (by cases BC k x<;>rfl));have A:aL (Mj (n+1)) (.isi .seq (.nm 1)) [some (.fz x),some (.fz x)]=some (true,[some (.fz x),some (.fz x)]):=by show some (BC .seq x,_)=_;rw[M]
  exact ai rfl rfl (ak (ao A (ab (s_ifF (bp (r .list) (r .tuple)) rfl) (ab (s_ifF l rfl) (ak (ag (aJ (aa U aj) xX AV) rfl)))))) rfl
 exact⟨p _ rfl rfl rfl,p _ rfl rfl rfl⟩
abbrev dPn(qs:List (Int×List Int))(us:List Int):PyData:=.tuple [.list (qs.map Po),.list (us.map PyData.int)]
theorem xY(h:Come f g k a)(h':Come f g k b):a=b:=by
 cases h with
 |put e Q l D=>
  cases h' with
  |put L _ _ _=>simp_all
  |got L H _=>simp_all
  |wait O _=>grind
 |got e l D=>
  cases h' with
  |put L _ H _=>simp_all
  |got L _ _=>rfl
  |wait _ Z=>grind
 |wait O Z=>
  cases h' with
  |put e Q l D=>grind
  |got e l D=>grind
  |wait _ _=>rfl
theorem ux(h:Cross f g k a)(h':Cross f g k b):a=b:=by
 cases e:(f.rows[k]?).elim false R.gr with
 |true=>exact xY (h.gr e) (h'.gr e)
 |false=>rw[h.no e,h'.no e]
theorem path_det(h:Path f k g a):Path f k g b->a=b:=by
 induction h with
 |nil T _=>intro v;cases v with
  |nil _ _=>rfl
  |cons l _ _ _=>lia
 |cons T _ C _ Y=>intro v;cases v with
  |nil l _=>lia
  |cons _ _ c H=>rw[ux C c]at Y;grind
def FN(gs:List Int)(k:Nat):Prop:=gs.Pairwise (·<·)/\∀x∈gs,0<=x/\x<(k:Int)
theorem lays_inc(h:FN g.gaps k):FN (laysG f g k).gaps (k+1):=by
 unfold laysG;split
 ·refine⟨abk.mpr ⟨h.1,List.pairwise_singleton _ _,λx F y m=>?_⟩,λx F=>?_⟩
  ·rw[aaw.mp m];exact(h.2 x F).2
  ·rcases aak.mp F with F|F
   ·have:=h.2 x F;lia
   ·grind
 ·exact⟨h.1,λx F=>by have:=h.2 x F;lia⟩
theorem jI(h:Cross f g k a):a.gaps=(laysG f g k).gaps:=by
 cases e:(f.rows[k]?).elim false R.gr with
 |true=>cases h.gr e<;>rfl
 |false=>rw[h.no e]
theorem nG(h:Path f k g a):FN g.gaps k->FN a.gaps f.rows.length:=by
 induction h with
 |nil T _=>grind
 |cons T _ C _ Y=>intro i;exact Y (by rw[jI C];exact lays_inc i)
theorem xZ:∀{rs:List R}{i:Int},(∀r∈rs,r.gr=false)->gIx i rs=[]
 |[],_,_=>rfl
 |r::rs,i,h=>by rw[gIx,h r aai,if_neg aaq,xZ λr D=>h r (aag _ D)]
theorem Iv.no(I:Iv f g k m)(h:∀r∈f.rows,r.gr=false):g.us=[]/\g.wt=[]:=by have e:=I.ix;rw[xZ λr D=>h r (acm D)]at e;simp_all
theorem rK(h:g.wt=[]):laysG f g k=g:=by unfold laysG due;rw[h];rfl
theorem path_no(l:∀r∈f.rows,r.gr=false)(h:Path f k g a):g.gaps=[]->a.gaps=[]/\a.wt=[]:=by
 induction h with
 |nil _ I=>intro e;exact⟨e,(I.no l).2⟩
 |cons _ I C _ Y=>intro e;exact Y (by rw[jI C,rK (I.no l).2];exact e)
def PlanOf(f:Cf)(qs:Pz)(us:List Int):Prop:=∃g u,g=laysG f u f.rows.length/\Iv f g f.rows.length (f.rows.length+1)/\Path f 0 ⟨0,[],[],0,[],[]⟩ u/\qs=g.gaps.zip g.words/\us=g.us.map (·.2)
theorem PlanOf.one(h:PlanOf f qs us)(h':PlanOf f qs' us'):qs=qs'/\us=us':=by
 obtain⟨g,u,e,_,P,J,B⟩:=h;obtain⟨A,C,L,_,p,t,D⟩:=h';have:=path_det P p
 grind
theorem lK:∀{gs:List Int}{ws:List (List Int)},gs.Pairwise (·<·)->(gs.zip ws).Pairwise λx y=>x.1<y.1
 |[],_,_=>by simp
 |_::_,[],_=>by simp
 |g::gs,w::ws,h=>by obtain⟨O,Z⟩:=aaT.mp h;exact aaT.mpr ⟨λq A=>O _ (aaO A).1,lK Z⟩
structure Pln (f:Cf)(qs:Pz)(us:List Int):Prop where
 inc:qs.Pairwise λx y=>x.1<y.1
 nn:∀q∈qs,0<=q.1
 len:qs.length<=300
 ul:us.length<=1000
 wl:∀q∈qs,q.2.length<=1000
 no:(∀r∈f.rows,r.gr=false)->qs=[]/\us=[]
theorem PlanOf.pln(a:f.rows.length<=200)(h:PlanOf f qs us):Pln f qs us:=by
 obtain⟨g,u,e,I,P,rfl,rfl⟩:=h;have n:=nG P ⟨List.Pairwise.nil,λx F=>absurd F aar⟩;have C:FN g.gaps (f.rows.length+1):=by rw[e];exact lays_inc n
 have i:=I.len;have D:=I.gl;have H:=I.jo;refine⟨lK C.1,λq A=>(C.2 _ (aaO A).1).1,by grind,by grind,λq A=>by have:=H q.2 (aaO A).2;lia,λl=>?_⟩;obtain⟨J,B⟩:=path_no l P rfl;have L:g.gaps=[]:=by rw[e,rK B];lia
 exact⟨by rw[L];rfl,by rw[(I.no l).1];rfl⟩
theorem PlanOf.ex(a:f.rows.length<=200):∃qs us,PlanOf f qs us:=by obtain⟨g,_,u,N,I,P⟩:=rB (n:=0) a;exact⟨_,_,g,u,N,I,P,rfl,rfl⟩
theorem PlanOf.call(a:f.rows.length<=200)(h:PlanOf f qs us):pl.pg.call (n+6) 25 [Rl f.rows,Lo f,Re f]=some (Pn qs us,[Rl f.rows,Lo f,Re f]):=by obtain⟨g,e,u,N,I,P⟩:=rB a;obtain⟨rfl,rfl⟩:=h.one ⟨g,u,N,I,P,rfl,rfl⟩;exact e
theorem nH:∀{l:List Int},a∈insI i l ↔ a=i\/a∈l
 |[]=>by simp[insI]
 |j::r=>by
  rw[insI];split
  ·simp
  ·rw[aaa,nH,aaa];grind
theorem sortI_mem:∀{l:List Int},a∈sortI l ↔ a∈l
 |[]=>Iff.rfl
 |j::r=>by rw[sortI,nH,sortI_mem,aaa]
theorem nI:∀{l:List Int},(insI i l).length=l.length+1
 |[]=>rfl
 |j::r=>by
  rw[insI];split
  ·rfl
  ·rw[aaD,nI];rfl
theorem kl:∀{l:List Int},(sortI l).length=l.length
 |[]=>rfl
 |j::r=>by rw[sortI,nI,kl];rfl
def free(f:Cf):List Int:=(jIx 0 f.rows).filter λa=>!decide (a∈f.longs)
abbrev nx(f:Cf)(sh:List Int):Cf:=⟨f.rows,sortI (f.longs++sh),f.r0,f.r1⟩
theorem split_len{Y:Type}{p:Y->Bool}:∀{l:List Y},(l.filter p).length+(l.filter λa=>!p a).length=l.length
 |[]=>rfl
 |x::l=>by
  have:=split_len (p:=p) (l:=l)
  grind
theorem lL:(free (nx f (tsF f qs hop))).length+(tsF f qs hop).length<=(free f).length:=by
 have O:tsF f qs hop=(free f).filter (tq f (fin f qs) hop):=rfl;have Z:=split_len (p:=tq f (fin f qs) hop) (l:=free f);have M:(free (nx f (tsF f qs hop))).length<=((free f).filter λa=>!tq f (fin f qs) hop a).length:=by
  unfold free;rw[List.filter_filter,<-acn,<-acn];refine List.countP_mono_left λa j h=>?_;have C:a ∉ sortI (f.longs++tsF f qs hop):=by grind
  rw[sortI_mem,aak]at C;have d:=λz=>C (.inl z);rw[Dab d,Bool.not_false,Bool.and_true];cases e:tq f (fin f qs) hop a with
  |false=>rfl
  |true=>exact absurd (.inr (by rw[O];exact aaV.mpr ⟨aaV.mpr ⟨j,by grind⟩,e⟩)) C
 grind
inductive Rnd (hop:Int):Nat->Cf->Cf->Prop
 |done {f:Cf}{qs:Pz}{us:List Int} (P:PlanOf f qs us) (h:tsF f qs hop=[]):Rnd hop 0 f f
 |more {k:Nat}{f f':Cf}{qs:Pz}{us:List Int} (P:PlanOf f qs us) (h:tsF f qs hop≠[]) (r:Rnd hop k (nx f (tsF f qs hop)) f'):Rnd hop (k+1) f f'
theorem ya:∀{m:Nat}{f:Cf},(free f).length<=m->f.rows.length<=200->∃k v,k<=m/\Rnd hop k f v
 |m,f,hm,hN=>by
  obtain⟨qs,us,P⟩:=PlanOf.ex hN;by_cases h:tsF f qs hop=[]
  ·exact⟨0,f,aaB _,.done P h⟩
  ·have O:=lL (f:=f) (qs:=qs) (hop:=hop);have Z:0<(tsF f qs hop).length:=aco.mpr h;cases m with
   |zero=>lia
   |succ m=>obtain⟨k,v,T,r⟩:=ya (m:=m) (f:=nx f (tsF f qs hop)) (by lia) hN;exact⟨k+1,v,by lia,.more P h r⟩
structure Bd (f:Cf):Prop where
 hN:f.rows.length<=200
 h60:(f.rows.filter R.gr).length<=60
 hJ:Jb f.rows.length f.rows
 bd:f.longs.length+(free f).length<=60
theorem Bd.next(B:Bd f):Bd (nx f (tsF f qs hop)):=by
 refine⟨B.hN,B.h60,B.hJ,?_⟩;have O:=lL (f:=f) (qs:=qs) (hop:=hop);have Z:=B.bd;show (sortI _).length+_<=60;rw[kl,aaj]
 lia
theorem Bd.srt(B:Bd f):(f.longs++tsF f qs hop).length<64:=by have O:=lL (f:=f) (qs:=qs) (hop:=hop);have Z:=B.bd;rw[aaj];omega
theorem Rnd.keeps(h:Rnd hop k f f'):Bd f->Bd f'/\f'.rows=f.rows/\f'.r0=f.r0/\f'.r1=f.r1:=by
 induction h with
 |done _ _=>simp
 |more _ _ _ Y=>intro B;exact Y B.next
theorem Rnd.fin(h:Rnd hop k f f'):∃qs us,PlanOf f' qs us/\tsF f' qs hop=[]:=by
 induction h with
 |done P h=>exact⟨_,_,P,h⟩
 |more _ _ _ Y=>exact Y
theorem E5(h:frz1 ρ r=some (d,ρ1))(k:ba ios ρ1 rs=some (xs,ρ2)):ba (false::ios) ρ (r::rs)=some (.fz d::xs,ρ2):=by simp only[ba,h,k]
theorem jJ:∀{ns:List Int},gU (ns.map PyData.int)=some ns
 |[]=>rfl
 |i::ns=>by show (gU (ns.map PyData.int)).bind _=_;rw[jJ];rfl
theorem rL(ls:List Int):listOf (Il ls)=some (ls.map PyData.int):=by show tz (ls.map It)=_;rw[<-fv];exact oE _
theorem Iq(O:ev C a ρ=some (x,ρ1))(Z:ev C b ρ1=some (y,ρ2))(F:By ρ2 x=some (xs.map PyData.int))(m:By ρ2 y=some (ys.map PyData.int))(t:(xs++ys).length<64):ev C (.bnw .sorted (.cat a b)) ρ=some (.val (Il (sortI (xs++ys))),ρ2):=by have A:=t;rw[aaj]at A;have h:=qZ O Z F m (by grind);rw[<-aaE]at h;exact xp h (dat_fz _) jJ t
theorem pJ(h:c ρ=some (false,ρ1))(l:0<n):cv c b n ρ=some (.nx,ρ1):=by
 cases n with
 |zero=>omega
 |succ n=>exact bs h rfl
theorem yb(h:c ρ=some (true,ρ1))(S:b ρ1=some (.nx,ρ2))(k:cv c b n ρ2=r):cv c b (n+1) ρ=r:=bs h (by rw[if_pos rfl];exact bs S k)
abbrev Ph(qs:Pz)(us:List Int):OD:=.tup [Pq qs,Il us]
abbrev I8(f:Cf)(qs:Pz)(us:List Int):PyData:=.tuple [.list (f.longs.map PyData.int),dPn qs us]
theorem E6(qs:Pz)(us:List Int):(Ph qs us).dat=some (dPn qs us):=by simp only[Ph,OD.dat,OD.dv];rw[<-fv,dats_fz]
theorem AW(h:ρ[j]?.join=some (Pn qs us))(D:ρ.set j (some (Ph qs us))=ρ'):bE ρ (.rf j) 0=some (Pq qs,ρ'):=by
 have e:itemS (Pn qs us) 0=some (.list (qs.map Po),Ph qs us):=by show (match (OD.lst ((qs.map Po).map OD.fz)).dat with|some d=>some (d,OD.tup ([OD.lst ((qs.map Po).map OD.fz),Il us].set 0 (.fz d)))|none=>none)=_;rw[dat_fz];rfl
 simp only[bE,h,e,D]
abbrev sE'(f:Cf)(hop:Int)(x3:OD)(o4 o5:Option OD):DEnv:=[Go f.rows,some (Re f),Db hop,some x3,o4,o5]
abbrev sT(f:Cf)(hop:Int)(qs:Pz)(us:List Int):DEnv:=sE' f hop (Lo f) (some (Ph qs us)) (some (Il (tsF f qs hop)))
abbrev sP:S':=.set 4 ebk
abbrev sQ:S':=.set 5 ea0
theorem BZ(B:Bd f)(P:PlanOf f qs us)(k:aD (Mj (n+6)) ss (sT f hop qs us)=r):aD (Mj (n+6)) (.cons sP (.cons sQ ss)) (sE' f hop (Il f.longs) o4 o5)=r:=by have p:=P.pln B.hN;have e:=P.call (n:=n) B.hN;have A:=AS (n:=n+1) (hop:=hop) p.inc p.nn p.len B.hN B.hJ;have o:(Mj (n+6)).call=pl.pg.call (n+6):=rfl;rw[<-o]at e A;refine ab (ae (af rfl (E5 rfl (E5 (frz_rf rfl (aA _) rfl) (E5 rfl rfl))) e rfl) rfl rfl rfl) ?_;exact ab (ae (af (aa rfl (aa rfl (aa (ax rfl rfl rfl (AW rfl rfl)) (aa rfl aj)))) rfl A rfl) rfl rfl rfl) k
abbrev sB:Ss:=.cons ecv (.cons sP (.cons sQ .nil))
theorem Ir(h:ev C (.nm i) ρ=some (x,ρ))(W:az ρ x=some d)(u:kS d=some k):aL C (.nm i) ρ=some (k,ρ):=bs h (bs W (bs u rfl))
theorem Iu(h:ev C (.nm i) ρ=some (.rf i,ρ))(r:ρ[i]?.join=some (Il ls)):aL C (.nm i) ρ=some (!ls.isEmpty,ρ):=Ir h (by show (ρ[i]?.join).bind OD.dat=_;rw[r];exact aA ls) (by cases ls<;>rfl)
theorem AX(h:Rnd hop k f f'):Bd f->∀{qs us},PlanOf f qs us->∀{fuel:Nat},k<fuel->∃q O,PlanOf f' q O/\tsF f' q hop=[]/\cv (aL (Mj (n+6)) (.nm 5)) (aD (Mj (n+6)) sB) fuel (sT f hop qs us)=some (.nx,sT f' hop q O):=by
 induction h with
 |@done f qs0 us0 P h=>intro B qs us p fuel y;obtain⟨rfl,rfl⟩:=P.one p;have t:=Iu (C:=Mj (n+6)) (ρ:=sT f hop qs0 us0) (i:=5) rfl rfl;rw[h]at t;exact⟨_,_,P,h,pJ t (by omega)⟩
 |@more k f f' qs0 us0 P h r ih=>
  intro B qs us p fuel y;obtain⟨rfl,rfl⟩:=P.one p;have t:=Iu (C:=Mj (n+6)) (ρ:=sT f hop qs0 us0) (i:=5) rfl rfl;have S:(!(tsF f qs0 hop).isEmpty)=true:=by grind
  rw[S]at t;cases fuel with
  |zero=>omega
  |succ m=>
   have o:=B.next (qs:=qs0) (hop:=hop)
   obtain⟨b,z,A⟩:=PlanOf.ex o.hN;obtain⟨g,U,D,M,s⟩:=ih o A (fuel:=m) (by omega);refine⟨g,U,D,M,yb t (ab (ae (ρ3:=sE' (nx f (tsF f qs0 hop)) hop (Il (nx f (tsF f qs0 hop)).longs) (some (Ph qs0 us0)) (some (Il (tsF f qs0 hop)))) (Iq rfl rfl rfl (rL _) B.srt) rfl rfl rfl) (BZ o A rfl)) s⟩
theorem km(h:Rnd hop k f f')(B:Bd f)(t:f.longs=[])(hk:k<100000):∃qs us,PlanOf f' qs us/\tsF f' qs hop=[]/\pl.pg.call (n+7) 28 [Rl f.rows,Re f,It hop]=some (.fz (I8 f' qs us),[Rl f.rows,Re f,It hop]):=by
 obtain⟨u,d,p⟩:=PlanOf.ex B.hN;obtain⟨qs,us,P,g,e⟩:=AX h B p hk;obtain⟨_,X,c,J⟩:=h.keeps B;refine⟨qs,us,P,g,ai (ρ:=sE' f' hop (Lo f') (some (.fz (dPn qs us))) (some (Il (tsF f' qs hop)))) rfl rfl ?_ (by rfl)⟩;refine ab (ae (bX aj rfl rfl) rfl rfl (by rw[t];rfl)) (BZ B p ?_);refine ab (e) ?_;exact ak (ag (bh rfl rfl (by
  have z:own1 (sT f' hop qs us) (.rf 4)=some (.fz (dPn qs us),sE' f' hop (Lo f') (some (.fz (dPn qs us))) (some (Il (tsF f' qs hop)))):=by show (frz1 _ (.rf 4)).map _=_;rw[frz_rf rfl (E6 _ _) rfl];rfl
  show (mapR own1 (sT f' hop qs us) [.rf 4]).map _=_;simp only[mapR,z];rfl) rfl) rfl)
structure Pool (N:Nat)(q:Int×List Int):Prop where
 g0:0<=q.1
 g1:q.1<=N
 l0:1<=q.2.length
 l1:q.2.length<=100
def AY(f:Cf)(a:Int):Int:=((f.rows[a.toNat]?).map R.num).getD 0
def yc(f:Cf)(qs:Pz)(z:Int×Int):Bool:=decide (AY f z.1∈((qs[z.2.toNat]?).map (·.2)).getD [])
structure Qok (f:Cf)(qs:Pz):Prop where
 ok:∀q∈qs,Pool f.rows.length q
 inc:qs.Pairwise λx y=>x.1<y.1
abbrev Zp(z:Int×Int):PyData:=.tuple [.int z.1,.int z.2]
theorem nJ:∀{gs us:List Int},zipD (gs.map PyData.int) (us.map PyData.int)=(gs.zip us).map Zp
 |[],_=>rfl
 |_::_,[]=>rfl
 |a::as,b::bs=>by have:=nJ (gs:=as) (us:=bs);unfold zipD at this ⊢;simp[*]
def Zok(f:Cf)(qs:Pz)(z:Int×Int):Prop:=z.1∈gIx 0 f.rows/\0<=z.2/\z.2<qs.length
theorem Zok.row(h:Zok f qs z):∃(i:Nat) (x y:Int),z.1=i/\i<f.rows.length/\f.rows[i]?=some (.st x y)/\AY f z.1=y:=by
 obtain⟨j,r,e,O,Z⟩:=gIx_mem h.1;obtain⟨x,y,rfl⟩:=gr_st Z;have L:z.1=(j:Int):=by lia
 refine⟨j,x,y,L,(aah.mp O).1,O,?_⟩;unfold AY;rw[L,aaN,O];rfl
abbrev Fp(qs:Pz)(us:List Int):OD:=.fz (.tuple [.list (qs.map Po),.list (us.map PyData.int)])
abbrev Mg(qs:Pz)(us:List Int):Option OD:=some (Fp qs us)
def gI:PyData->Int|.int t=>t|_=>0
def B3:PyData->Int|.tuple (.int b::_)=>b|_=>0
def yd:PyData->Int|.tuple [_,.int i]=>i|_=>0
def cW(r:R)(p:Int)(lg:Bool)(g:PyData):List Int:=match r with
 |.st x n=>if 99<n then [5000+100*x+yd g,5000+B3 g-p] else [1000+100*x+n]
 |.ot w xs _=>if w=am then (if lg=true then [7000,gI g] else [6500+gI g-p])
  else if w=bi then (if lg=true then [9000+xs.getD 0 0,gI g] else [8100+200*xs.getD 0 0+gI g-p])
  else if w=bv then [0] else if w=hM then [4000+xs.getD 0 0]
  else if w=hW then [2000+10*xs.getD 0 0+xs.getD 1 0] else [3000+10*xs.getD 0 0+xs.getD 1 0]
def Gok(r:R)(g:PyData):Prop:=if r.gr=true then ∃b i,g=.tuple [.int b,.int i] else if r.jm=true then ∃t,g=.int t else g=.none
theorem bM{k:Nat}(h:(k:Int)<1000):yE .mul (.int (k:Int)) (.int x)=some (.int ((k:Int)*x)):=cK (.inl ⟨by lia,by lia⟩)
abbrev LF(r:R)(p:Int)(lg:Bool)(g:PyData)(o4 o5 o6:Option OD):DEnv:=[Fa r,Db p,some (.fz (.bool lg)),some (.fz g),o4,o5,o6]
theorem E7(D:r.ok)(W:r.jm=true):pl.pg.call (n+1) 5 [Rd r,It p,.fz (.bool lg),It t]=some (Il (cW r p lg (.int t)),[Rd r,It p,.fz (.bool lg),It t]):=by
 cases r with
 |st x k=>cases W
 |ot w Y h=>
  cases D with
  |sum _ _=>cases W
  |less _ _=>cases W
  |tell _=>cases W
  |stop=>cases W
  |go a=>
   cases lg with
   |true=>rfl
   |false=>rfl
  |nil a b=>
   cases lg with
   |true=>rfl
   |false=>rfl
theorem E9(D:r.ok)(N:Gok r g):pl.pg.call (n+2) 6 [Rd r,It p,.fz (.bool lg),.fz g]=some (Il (cW r p lg g),[Rd r,It p,.fz (.bool lg),.fz g]):=by
 have H:∀{F z T:Option OD},aL (Mj (n+1)) ed2 (LF r p lg g F z T)=some (r.gr,LF r p lg g F z T):=bw (af rfl rfl (AD r) rfl);cases r with
 |st x k=>
  by_cases h:99<k
  ·have e:(R.st x k).gr=true:=Dac h;unfold Gok at N;rw[if_pos e]at N;obtain⟨b,i,rfl⟩:=N;rw[e]at H;have X:cW (R.st x k) p lg (.tuple [.int b,.int i])=[5000+100*x+i,5000+b-p]:=if_pos h;rw[X];exact ai rfl rfl (ab (ae rfl rfl rfl rfl) (ab (s_ifF rfl rfl) (ab (s_ifF rfl rfl) (ak (ao H (ab (s_asgQ rfl rfl rfl) (ak (ag (bX (aa (ah (ah rfl (ah rfl rfl rfl rfl (bM (by decide))) rfl rfl rfl) rfl rfl rfl rfl) (aa (ah (ah rfl rfl rfl rfl rfl) rfl rfl rfl rfl) aj)) rfl rfl) rfl)))))))) rfl
  ·have e:(R.st x k).gr=false:=Dab h;rw[e]at H;have X:cW (R.st x k) p lg g=[1000+100*x+k]:=if_neg h;rw[X];exact ai rfl rfl (ab (ae rfl rfl rfl rfl) (ab (s_ifF rfl rfl) (ab (s_ifF rfl rfl) (ab (s_ifF H rfl) (ak (ao rfl (ak (ag (bX (aa (ah (ah rfl (ah rfl rfl rfl rfl (bM (by decide))) rfl rfl rfl) rfl rfl rfl rfl) aj) rfl rfl) rfl)))))))) rfl
 |ot w Y h=>
  have e:(R.ot w Y h).gr=false:=rfl;rw[e]at H;have U:(R.ot w Y h).jm=true->(Mj (n+1)).call 5 [Rd (R.ot w Y h),It p,.fz (.bool lg),.fz g]=some (Il (cW (R.ot w Y h) p lg g),[Rd (R.ot w Y h),It p,.fz (.bool lg),.fz g]):=λW=>by unfold Gok at N;rw[if_neg (by grind),if_pos W]at N;obtain⟨t,rfl⟩:=N;exact E7 D W
  cases D with
  |sum a b=>rfl
  |less a b=>rfl
  |tell a=>rfl
  |stop=>rfl
  |go a=>exact ai rfl rfl (ab (ae rfl rfl rfl rfl) (ab (s_ifF rfl rfl) (ak (ao (gY rfl) (ak (ag (af rfl rfl (U rfl) rfl) rfl)))))) rfl
  |nil a b=>exact ai rfl rfl (ab (ae rfl rfl rfl rfl) (ab (s_ifF rfl rfl) (ak (ao (bp rfl rfl) (ak (ag (af rfl rfl (U rfl) rfl) rfl)))))) rfl
theorem xtI(P:ρ[i]?.join=some (Il zs))(h:ev C e ρ=some (.val (Il ys),ρ1))(O:ρ1[i]?.join=some (Il xs))(t:xs.length+ys.length<=1000000)(D:ρ1.set i (some (Il (xs++ys)))=ρ2):bF C (.agl i e) ρ=some (.nx,ρ2)/\bF C (.agl i e) ρ=some (.nx,ρ2):=by
 have p:(ρ[i]?.join).bind (λH=>(nS H).bind λ_=>(ev C e ρ).bind λx=>(J9 x.1).bind λys=>(x.2[i]?.join).bind λv=>(nS v).bind λxs=>(gd (xs.length+ys.length<=1000000)).bind λ_=>some (Fl.nx,x.2.set i (some (.lst (xs++ys)))))=some (.nx,ρ2):=
  bs P (bs rfl (bs h (bs rfl (bs O (bs rfl (bg (by grind) (by
   grind)))))))
 trivial
def hal(ws:List Int):List Int:=ws.flatMap λw=>[w/10000,w%10000]
def ovL(rs:List R)(k:Nat)(ws:List Int)(b:Int):List Int:=if pD rs k=true then [7001,b+2*ws.length] else []
def padL(p:Int):List Int:=if p%2=0 then [7002] else []
def poolC(rs:List R)(k:Nat)(ws:List Int)(p:Int):List Int:=ovL rs k ws (fw rs k p)++(padL (p+(ovL rs k ws (fw rs k p)).length)++((7100+(ws.length:Int))::hal ws))
theorem fc:∀{ws:List Int},(hal ws).length=2*ws.length
 |[]=>rfl
 |w::ws=>by show ([w/10000,w%10000]++hal ws).length=_;rw[aaj,fc];grind
theorem iw:(ovL rs k ws b).length=if pD rs k=true then 2 else 0:=by unfold ovL;split<;>rfl
theorem ye:((padL p).length:Int)=1-p%2:=by
 unfold padL
 grind
theorem kn:p+(poolC rs k ws p).length=fw rs k p+2*ws.length:=by
 unfold poolC;rw[aaj,aaj,aaD,fc];have h:=ye (p:=p+(ovL rs k ws (fw rs k p)).length);rw[iw]at h ⊢;unfold fw
 grind
abbrev Tn'(ws:List Int):OD:=.fz (.tuple (ws.map PyData.int))
theorem Fb{ws:List Int}:zL .len [.tuple (ws.map PyData.int)]=some (.int (ws.length:Int)):=by show some (PyData.int ((ws.map PyData.int).length:Nat))=_;simp
abbrev pcE(rs:List R)(k:Nat)(ws:List Int)(p:Int)(o4 o5 o6:Option OD):DEnv:=[Go rs,Db k,some (Tn' ws),Db p,o4,o5,o6]
abbrev L9:Ss:=.cons ea1 .nil
theorem rM:∀{ws xs:List Int}{o6:Option OD},xs.length+2*ws.length<=1000->∃P,bR (λd Y=>(bj (.nm 6) (.fz d) Y).bind λρ1=>aD (Mj n) L9 ρ1) (ws.map PyData.int) (pcE rs k ws0 p o4 (some (Il xs)) o6)=some (.nx,pcE rs k ws0 p o4 (some (Il (xs++hal ws))) P)
 |[],xs,o6,_=>⟨o6,by show some (Fl.nx,_)=some (Fl.nx,pcE rs k ws0 p o4 (some (Il (xs++[]))) o6);simp⟩
 |w::ws,xs,o6,h=>by rw[aaD]at h;obtain⟨P,e⟩:=rM (ws:=ws) (xs:=xs++[w/10000,w%10000]) (by grind);refine⟨P,bs (bs rfl (ab (xtI (ρ1:=pcE rs k ws0 p o4 (some (Il xs)) (Db w)) rfl (bX (aa (ah rfl rfl rfl rfl (jz (by decide))) (aa (ah rfl rfl rfl rfl (bq (by decide))) aj)) rfl rfl) rfl (by grind) rfl).2 rfl)) (e.trans ?_)⟩;rw[aab];rfl
theorem AZ{rs:List R}(hk:k<=rs.length)(Q:ws.length<=100):pl.pg.call (n+4) 29 [Rl rs,It k,Tn' ws,It p]=some (Il (poolC rs k ws p),[Rl rs,It k,Tn' ws,It p]):=by
 have H:=iu (n:=n) (p:=p) hk;have g:=xH (n:=n+1) hk;have o:(Mj (n+3)).call=pl.pg.call (n+3):=rfl;rw[<-o]at H g;unfold poolC;obtain⟨b,Y⟩:∃b,b=fw rs k p:=⟨_,rfl⟩
 rw[<-Y]at H ⊢;obtain⟨xs,F⟩:∃xs,xs=ovL rs k ws b:=⟨_,rfl⟩
 have e:xs.length<=2:=by rw[F,iw];grind
 have O:bF (Mj (n+3)) eae (pcE rs k ws p (Db b) (some (Il [])) none)=some (.nx,pcE rs k ws p (Db b) (some (Il xs)) none):=by
  have N:aL (Mj (n+3)) ecp (pcE rs k ws p (Db b) (some (Il [])) none)=some (pD rs k,pcE rs k ws p (Db b) (some (Il [])) none):=bw (af rfl rfl g rfl);rw[F];unfold ovL;cases j:pD rs k with
  |false=>rw[j]at N;exact s_ifF N rfl
  |true=>rw[j]at N;exact ao N (ab (xtI (ys:=[7001,b+2*ws.length]) rfl (bX (aa rfl (aa (ah rfl (ah rfl (aJ rfl rfl Fb) rfl rfl (bM (by decide))) rfl rfl rfl) aj)) rfl rfl) rfl (by show 0+2<=1000000;decide) rfl).2 rfl)
 have c:bF (Mj (n+3)) eal (pcE rs k ws p (Db b) (some (Il xs)) none)=some (.nx,pcE rs k ws p (Db b) (some (Il (xs++padL (p+xs.length)))) none):=by
  have t:zL .len [.list (xs.map PyData.int)]=some (.int (xs.length:Int)):=by show some (PyData.int ((xs.map PyData.int).length:Nat))=_;rw[aae]
  have D:aL (Mj (n+3)) LA (pcE rs k ws p (Db b) (some (Il xs)) none)=some (decide (p+xs.length+1<b),pcE rs k ws p (Db b) (some (Il xs)) none):=ar (aq (ah (ah rfl (aJ rfl (j7 (aA xs)) t) rfl rfl rfl) rfl rfl rfl rfl) rfl rfl rfl rfl);have W:(p+xs.length+1<b) ↔ (p+xs.length)%2=0:=by
   rw[F,iw,Y];unfold fw;simp only;cases pD rs k with
   |false=>simp only[Bool.false_eq_true,↓reduceIte];push_cast;lia
   |true=>simp only[↓reduceIte];push_cast;lia
  unfold padL;by_cases h:p+xs.length+1<b
  ·rw[Dac h]at D;rw[if_pos (W.mp h)];exact ao D (ab (bH rfl rfl rfl rfl (by rw[aae];lia) (by unfold pcE;rw[cL ];rfl)) rfl)
  ·rw[Dab h]at D;rw[if_neg (λz=>h (W.mpr z)),aap];exact s_ifF D rfl
 have U:(padL (p+xs.length)).length<=1:=by unfold padL;split<;>simp
 rw[<-F];generalize padL (p+xs.length)=ys at *;obtain⟨T,S⟩:=rM (ws:=ws) (xs:=xs++ys++[7100+(ws.length:Int)]) (by rw[aaj,aaj];show _+1+_<=_;lia);have L:xs++ys++[7100+(ws.length:Int)]++hal ws=xs++(ys++((7100+(ws.length:Int))::hal ws)):=by simp
 rw[L]at S;refine ai (ρ:=(pcE rs k ws p (Db b) (some (Il [])) T).set 5 none) rfl rfl ?_ rfl;refine ab (ae (af rfl rfl H rfl) rfl rfl rfl) ?_;refine ab (ae (bX aj rfl rfl) rfl rfl rfl) ?_;refine ab O (ab c (ab (bH (ρ3:=pcE rs k ws p (Db b) (some (Il (xs++ys++[7100+(ws.length:Int)]))) none) rfl (ah rfl (aJ rfl rfl Fb) rfl rfl rfl) rfl rfl (by rw[aae,aaj];lia) (by unfold pcE;rw[cL (ns:=xs++ys)];rfl)) ?_));exact ab (eE (cz rfl rfl rfl) S) (ak (ag rfl rfl))
abbrev dK(L:List (Int×PyData)):List Key:=L.map λz=>.inl z.1
abbrev dV(L:List (Int×PyData)):List OD:=L.map λz=>.fz z.2
abbrev Gd(L:List (Int×PyData)):OD:=.dic (dK L) (dV L)
theorem lN(h:a ∉ L.map (·.1)):putKey (.inl a) d (dK L) (dV L)=(dK (L++[(a,d)]),dV (L++[(a,d)])):=by
 have l:¬ ((dK L).any λq=>decide (q=.inl a))=true:=by
  grind
 unfold putKey
 grind
theorem pK:∀{L:List (Int×PyData)},dgV (dK L) (dV L) (.inl a)=some (((L.find? λz=>decide (z.1=a)).map (·.2)).getD .none)
 |[]=>rfl
 |z::L=>by
  have Y:=pK (a:=a) (L:=L);unfold dgV at Y ⊢;rw[dK,dV,aal,aal,aaR,aaW];by_cases h:z.1=a
  ·have O:decide ((Sum.inl z.1:Key)=.inl a)=true:=Dac (by rw[h]);rw[O,Dac h];rfl
  ·have O:decide ((Sum.inl z.1:Key)=.inl a)=false:=Dab λe=>h (ab3 e);rw[O,Dab h];simp only[Bool.false_eq_true,↓reduceIte];cases y:(dK L).findIdx? (λq=>decide (q=.inl a)) with
   |none=>rw[y]at Y;exact Y
   |some j=>rw[y]at Y;exact Y
theorem B4(Q:(L.map (·.1)).Nodup)(h:(a,d)∈L):dgV (dK L) (dV L) (.inl a)=some d:=by
 rw[pK];congr 1;induction L with
 |nil=>cases h
 |cons z L Y=>
  grind
theorem Fc(h:a ∉ L.map (·.1)):dgV (dK L) (dV L) (.inl a)=some .none:=by
 rw[pK,List.find?_eq_none.mpr λz d=>by
  grind]
 rfl
theorem yf{g:Int->PyData}:∀{js:List Int}{L:List (Int×PyData)}{o:Option OD},(∀j∈js,ev C ve (Db j::ρ)=some (.val (.fz (g j)),Db j::ρ))->(L.map (·.1)++js).Nodup->∃P,fq (mK C (.nm 0) (.nm 0) ve) (js.map PyData.int) (dK L,dV L) (o::ρ)=some ((dK (L++js.map λj=>(j,g j)),dV (L++js.map λj=>(j,g j))),P::ρ)
 |[],L,o,_,_=>⟨o,by show some ((dK L,dV L),_)=some ((dK (L++[]),dV (L++[])),_);simp⟩
 |j::js,L,o,h,nd=>by
  have l:=λz=>(aau.mp nd).2.2 j z j aai rfl;have N:((L++[(j,g j)]).map (·.1)++js).Nodup:=by grind
  obtain⟨P,e⟩:=yf (λk T=>h k (aag _ T)) N;rw[aab]at e;have i:bj (.nm 0) (.fz (.int j)) (o::ρ)=some (Db j::ρ):=by rfl
  refine⟨P,bs (x:=((dK (L++[(j,g j)]),dV (L++[(j,g j)])),Db j::ρ)) (bs i (bs rfl (bs (h j aai) (bs rfl (bs rfl (bs rfl ?_)))))) e⟩;rw[lN l]
abbrev wdL(qs:Pz):List (Int×PyData):=qs.map λq=>(q.1,.tuple (q.2.map PyData.int))
theorem yg:∀{qs ps:Pz}{B c:Option OD},(ps++qs).Pairwise (λx y=>x.1<y.1)->∃o O,fq (mK C (.tp [0,1]) (.nm 0) (.nm 1)) (qs.map Po) (dK (wdL ps),dV (wdL ps)) [B,c]=some ((dK (wdL (ps++qs)),dV (wdL (ps++qs))),[o,O])
 |[],ps,B,c,_=>⟨B,c,by rw[aap];rfl⟩
 |q::qs,ps,B,c,h=>by
  have l:q.1 ∉ (wdL ps).map (·.1):=λz=>by
   obtain⟨u,U,e⟩:=aaH.mp z;obtain⟨x,F,rfl⟩:=aaH.mp U;have:=(abk.mp h).2.2 x F q aai
   lia
  obtain⟨o,O,L⟩:=yg (ps:=ps++[q]) (by rw[aab];exact h);rw[aab]at L;refine⟨o,O,bs (x:=((dK (wdL (ps++[q])),dV (wdL (ps++[q]))),[Db q.1,some (Tn' q.2)])) (bs rfl (bs rfl (bs rfl (bs rfl (bs rfl (bs rfl ?_)))))) L⟩;show some (putKey (.inl q.1) (.tuple (q.2.map PyData.int)) (dK (wdL ps)) (dV (wdL ps)),[Db q.1,some (Tn' q.2)])=_;rw[lN l];simp
theorem jIx_nodup:∀{rs:List R}{i:Int},(jIx i rs).Nodup
 |[],i=>abd
 |r::rs,i=>by
  rw[jIx];split
  ·refine aat.mpr ⟨λh=>?_,jIx_nodup⟩;obtain⟨j,q,e,_⟩:=jIx_mem h
   lia
  ·exact jIx_nodup
theorem rN:∀{a b:List R}{i:Int},jIx i (a++b)=jIx i a++jIx (i+a.length) b
 |[],b,i=>by simp[jIx]
 |r::a,b,i=>by
  have e:i+1+(a.length)=i+((r::a).length):=by grind
  rw[aaK,jIx,jIx,rN ,e]
  grind
theorem row_split(h:rs[k]?=some r):rs=rs.take k++r::rs.drop (k+1):=by obtain⟨T,e⟩:=aah.mp h;rw[<-e,<-abw T,acp]
theorem Iw{r:R}(h:r.jm=true):r.gr=false:=by
 cases r with
 |st _ _=>cases h
 |ot _ _ _=>rfl
def FO(f:Cf)(a:Int):Int:=((f.rows[a.toNat]?).map R.tg).getD 0
def eM(s:Mc)(t:Int):Int:=(s.ps++[s.pl]).getD t.toNat 0
def FP(qs:Pz)(u n:Int):Int:=((((((qs[u.toNat]?).map (·.2)).getD []).findIdx? λm=>decide (m=n)).getD 0:Nat):Int)
def ko(f:Cf)(qs:Pz)(z:Int×Int):PyData:=.tuple [.int ((fin f qs).bs.getD z.2.toNat 0),.int (FP qs z.2 (AY f z.1))]
abbrev Lj(f:Cf)(qs:Pz):List (Int×PyData):=(jIx 0 f.rows).map λa=>(a,PyData.int (eM (fin f qs) (FO f a)))
abbrev Lz(f:Cf)(qs:Pz)(zs:List (Int×Int)):List (Int×PyData):=zs.map λz=>(z.1,ko f qs z)
abbrev Lg(f:Cf)(qs:Pz)(us:List Int):List (Int×PyData):=Lj f qs++Lz f qs ((gIx 0 f.rows).zip us)
def lO(f:Cf)(k:Nat):Nat:=((f.rows.take k).filter R.gr).length
def gdat(f:Cf)(qs:Pz)(us:List Int)(k:Nat)(r:R):PyData:=if r.gr=true then ko f qs (k,us.getD (lO f k) 0) else if r.jm=true then .int (eM (fin f qs) r.tg) else .none
theorem gIx_at(h:f.rows[k]?=some r)(N:r.gr=true):(gIx 0 f.rows)[lO f k]?=some (k:Int):=by
 have T:=aaM (aah.mp h).1;have e:=row_split h;have B:gIx 0 f.rows=gIx 0 (f.rows.take k)++(k:Int)::gIx (k+1) (f.rows.drop (k+1)):=by
  conv=>lhs;rw[e]
  rw[lF,gIx,if_pos N,ab1,ab2 T,abe]
 rw[B];unfold lO;rw[<-eX ,aa5 (aac _),abA];rfl
theorem yh{f:Cf}{k:Nat}(h:f.rows[k]?=some r)(W:r.jm=true):(k:Int)∈jIx 0 f.rows:=by have T:=aaM (aah.mp h).1;rw[row_split h,rN,jIx,if_pos W,ab1,ab2 T,abe];simp
theorem rO(U:us.length=(gIx 0 f.rows).length):(Lg f qs us).map (·.1)=jIx 0 f.rows++gIx 0 f.rows:=by
 rw[Lg,aaE,aaU,aaU];congr 1
 ·exact List.map_id _
 ·exact List.map_fst_zip (by omega)
theorem jg_nodup{rs:List R}:(jIx 0 rs++gIx 0 rs).Nodup:=aau.mpr ⟨jIx_nodup,cV,λa d b S e=>by
 subst e;obtain⟨j,r,J,B,s⟩:=jIx_mem d;obtain⟨i,q,Y,l,n⟩:=gIx_mem S;have:i=j:=by lia
 subst this;rw[B]at l;cases l;rw[Iw s]at n
 grind⟩
theorem Fd{k:Nat}(U:us.length=(gIx 0 f.rows).length)(h:f.rows[k]?=some r):dgV (dK (Lg f qs us)) (dV (Lg f qs us)) (.inl (k:Int))=some (gdat f qs us k r):=by
 have Q:((Lg f qs us).map (·.1)).Nodup:=by rw[rO U];exact jg_nodup
 unfold gdat;by_cases N:r.gr=true
 ·rw[if_pos N];have e:=gIx_at h N;have t:lO f k<us.length:=by rw[U];exact(aah.mp e).1
  refine B4 Q (aad _ (aaH.mpr ⟨((k:Int),us.getD (lO f k) 0),?_,rfl⟩));refine aax (i:=lO f k) ?_;rw[abt];exact⟨e,by rw[aaX,aam t];rfl⟩
 ·rw[if_neg N];by_cases W:r.jm=true
  ·rw[if_pos W];refine B4 Q (aaf _ (aaH.mpr ⟨(k:Int),yh h W,?_⟩));show ((k:Int),PyData.int (eM (fin f qs) (FO f k)))=_;unfold FO;rw[aaN,h];rfl
  ·rw[if_neg W];refine Fc λz=>?_;rw[rO U]at z;rcases aak.mp z with z|z
   ·obtain⟨i,q,J,B,s⟩:=jIx_mem z;have:i=k:=by omega
    subst this;rw[h]at B;cases B;exact W s
   ·obtain⟨i,q,J,B,s⟩:=gIx_mem z;have:i=k:=by omega
    subst this;rw[h]at B;cases B;exact N s
theorem gdat_ok:Gok r (gdat f qs us k r):=by
 unfold Gok gdat;by_cases N:r.gr=true
 ·rw[if_pos N,if_pos N];exact⟨_,_,rfl⟩
 ·simp_all
theorem yi{d:Nat}(P:∀q∈ps,0<=q.1)(O:∀q∈ps,q.1<(d:Int))(Z:∀q∈rs,(d:Int)<q.1):(inner f (ps++((d:Int),w)::rs) d (mac f (ps++((d:Int),w)::rs) d)).bs=(mac f ps d).bs++[fw f.rows d (mac f ps d).pl]/\(mac f ps d).bs.length=ps.length:=by
 refine⟨?_,?_⟩
 ·rw[lI (λq A=>by
   grind),gQ,cB (qs:=ps) λq A e=>by grind]
  show (inner f rs d (inn f d (mac f ps d) ((d:Int),w))).bs=_;rw[cB λq A e=>by grind];unfold inn;simp
 ·rw[fK P,acq]
  grind
theorem begin_is(h:d<=N):∃t,(inner f qs N (mac f qs N)).bs=(inner f qs d (mac f qs d)).bs++t:=by
 by_cases e:d=N
 ·simp[*]
 ·obtain⟨m,rfl⟩:∃m,N=d+1+m:=⟨N-d-1,by lia⟩
  obtain⟨t,J⟩:=xQ;obtain⟨u,B⟩:=jF;exact⟨t++u,by rw[B,J,aab];rfl⟩
def dQ(f:Cf)(k:Nat)(qs:Pz)(cs:List Int):List Int:=qs.foldl (λcs q=>if q.1=(k:Int) then cs++poolC f.rows k q.2 cs.length else cs) cs
def CC(f:Cf)(qs:Pz)(us:List Int):Nat->List Int
 |0=>[]
 |k+1=>dQ f k qs (CC f qs us k)++(f.rows[k]?).elim [] λr=>cW r (dQ f k qs (CC f qs us k)).length (decide ((k:Int)∈f.longs)) (gdat f qs us k r)
theorem pL:∀{qs:Pz}{cs:List Int}{s:Mc},(cs.length:Int)=s.pl->((dQ f k qs cs).length:Int)=(inner f qs k s).pl
 |[],cs,s,h=>h
 |q::qs,cs,s,h=>by
  show ((dQ f k qs (if q.1=(k:Int) then cs++poolC f.rows k q.2 cs.length else cs)).length:Int)=(inner f qs k (inn f k s q)).pl;refine pL ?_;unfold inn;split
  ·have:=kn (rs:=f.rows) (k:=k) (ws:=q.2) (p:=(cs.length))
   grind
  ·exact h
theorem nK(D:r.ok)(t:lg=true->r.jm=true):(cW r p lg g).length=if r.gr=true\/lg=true then 2 else 1:=by
 cases r with
 |st x k=>
  have P:lg=false:=by cases lg with|false=>rfl|true=>cases t rfl
  subst P;by_cases h:99<k
  ·have X:cW (R.st x k) p false g=[5000+100*x+yd g,5000+B3 g-p]:=if_pos h;rw[X,if_pos (.inl (Dac h))];rfl
  ·have X:cW (R.st x k) p false g=[1000+100*x+k]:=if_neg h;rw[X,if_neg (λz=>z.elim (λz=>h (Daa z)) aaq)];rfl
 |ot w Y Q=>
  cases D with
  |go a=>cases lg<;>rfl
  |nil a b=>cases lg<;>rfl
  |sum a b=>cases lg with|false=>rfl|true=>cases t rfl
  |less a b=>cases lg with|false=>rfl|true=>cases t rfl
  |tell a=>cases lg with|false=>rfl|true=>cases t rfl
  |stop=>cases lg with|false=>rfl|true=>cases t rfl
structure Fok (f:Cf):Prop where
 ok:Nb f.rows
 jb:Jb f.rows.length f.rows
 lg:∀a∈f.longs,a∈jIx 0 f.rows
theorem Fok.jm{k:Nat}(F:Fok f)(h:f.rows[k]?=some r):decide ((k:Int)∈f.longs)=true->r.jm=true:=λz=>by
 obtain⟨i,q,J,B,s⟩:=jIx_mem (F.lg _ (Daa z))
 grind
theorem pM(F:Fok f):∀{k:Nat},k<=f.rows.length->((CC f qs us k).length:Int)=(mac f qs k).pl
 |0,_=>rfl
 |k+1,h=>by
  have Y:=pM (us:=us) F (k:=k) (qs:=qs) (by lia);have O:=pL (f:=f) (k:=k) (qs:=qs) Y;obtain⟨r,D⟩:∃r,f.rows[k]?=some r:=⟨_,aam (by lia)⟩
  show ((dQ f k qs (CC f qs us k)++(f.rows[k]?).elim [] λr=>cW r (dQ f k qs (CC f qs us k)).length (decide ((k:Int)∈f.longs)) (gdat f qs us k r)).length:Int)=(inner f qs k (mac f qs k)).pl+sz f k;rw[D,aaj];show (((dQ f k qs (CC f qs us k)).length+(cW r (dQ f k qs (CC f qs us k)).length (decide ((k:Int)∈f.longs)) (gdat f qs us k r)).length:Nat):Int)=_;rw[nK (F.ok r (aax D)) (F.jm D)];unfold sz
  grind
theorem nL{k:Nat}:∀{qs:Pz}{cs:List Int},(∀q∈qs,q.1≠(k:Int))->dQ f k qs cs=cs
 |[],_,_=>rfl
 |q::qs,cs,h=>by show dQ f k qs (if q.1=(k:Int) then _ else cs)=cs;rw[if_neg (h q aai)];exact nL λz d=>h z (aag _ d)
theorem Fe:dQ f k (ps++qs) cs=dQ f k qs (dQ f k ps cs):=List.foldl_append
theorem jK{q:Int×List Int}(h:(ps++q::rs).Pairwise λx y=>x.1<y.1):(∀x∈ps,x.1<q.1)/\∀x∈rs,q.1<x.1:=by obtain⟨_,Z,M⟩:=abk.mp h;exact⟨λx F=>M x F q aai,(aaT.mp Z).1⟩
theorem B5{f:Cf}{k:Nat}(h:(ps++((k:Int),w)::rs).Pairwise λx y=>x.1<y.1):dQ f k (ps++((k:Int),w)::rs) cs=cs++poolC f.rows k w cs.length:=by obtain⟨O,Z⟩:=jK h;rw[Fe,nL (cs:=cs) λq A e=>by grind];show dQ f k rs (if (k:Int)=(k:Int) then _ else cs)=_;rw[if_pos rfl,nL λq A e=>by grind]
theorem Iy{k:Nat}(P:∀q∈ps,0<=q.1)(hk:k<=f.rows.length)(h:(ps++((k:Int),w)::rs).Pairwise λx y=>x.1<y.1):(fin f (ps++((k:Int),w)::rs)).bs.getD ps.length 0=fw f.rows k (mac f (ps++((k:Int),w)::rs) k).pl:=by
 obtain⟨O,Z⟩:=jK h;obtain⟨J,B⟩:=yi P O Z;obtain⟨t,s⟩:=begin_is hk;have n:mac f (ps++((k:Int),w)::rs) k=mac f ps k:=lI λq A=>by
  grind
 rw[s,J,n,aaX,aab,aa5 (by grind),B,abA];rfl
theorem Fg(n:ev C e ρ=some (.val (.fz d),ρ))(P:ρ[i]?.join=some (.dic ks xs))(hk:ev C ke ρ=some (.val (.fz kd),ρ))(l:keyOf kd=some kk)(t:xs.length<1000000)(M:putKey kk d ks xs=(ks',xs'))(D:ρ.set i (some (.dic ks' xs'))=ρ3):bF C (.sdk i ke e) ρ=some (.nx,ρ3):=bs n (bs rfl (bs P (bs rfl (bs hk (bs rfl (bs l (bs P (bs rfl (bg t (by rw[M,<-D]))))))))))
theorem Fh{ns:List Int}(O:ev C a ρ=some (.val (.fz (.tuple (ns.map PyData.int))),ρ1))(Z:ev C b ρ1=some (y,ρ2))(W:az ρ2 y=some (.int n))(u:(ns.findIdx? λm=>decide (m=n))=some j):ev C (.idx a b) ρ=some (.val (.fz (.int j)),ρ2):=bs O (bs rfl (bs Z (bs W (bs rfl (bs jJ (bs u rfl))))))
theorem Iz(A:qs[u.toNat]?=some q)(Y:n∈q.2):∃j:Nat,(q.2.findIdx? λm=>decide (m=n))=some j/\FP qs u n=j:=by
 obtain⟨j,W⟩:∃j,(q.2.findIdx? λm=>decide (m=n))=some j:=aa2.mp (by
  grind)
 refine⟨j,W,?_⟩;unfold FP
 grind
abbrev hE(f:Cf)(qs:Pz)(us:List Int)(s:Mc)(o9 o10 o11:Option OD):DEnv:=[Go f.rows,Ix f,Mg qs us,Mb qs,Me us,Me s.ps,Me s.bs,Db s.pl,some (Il (s.ps++[s.pl])),o9,o10,o11]
abbrev hV:E:=.tup eao
abbrev hB:Ss:=.cons (.sdk 9 (.nm 10) hV) .nil
theorem mem_of(d:Zok f qs z)(Y:yc f qs z=true):∃q,qs[z.2.toNat]?=some q/\AY f z.1∈q.2:=by
 obtain⟨_,P,O⟩:=d;have t:z.2.toNat<qs.length:=by omega
 refine⟨qs[z.2.toNat],aam t,?_⟩;have:=Daa Y;rw[aam t]at this;exact this
theorem KS(S:(fin f qs).bs.length=qs.length)(N:Zok f qs z)(Y:yc f qs z=true):ev (Mj n) hV (hE f qs us (fin f qs) o9 (Db z.1) (Db z.2))=some (.val (.fz (ko f qs z)),hE f qs us (fin f qs) o9 (Db z.1) (Db z.2)):=by
 obtain⟨i,x,y,J,r,D,l⟩:=N.row;obtain⟨q,A,C⟩:=mem_of N Y;obtain⟨j,W,Q⟩:=Iz A C;obtain⟨_,P,O⟩:=N;unfold ko;rw[Q];have B:ev (Mj n) Lp (hE f qs us (fin f qs) o9 (Db z.1) (Db z.2))=some (.val (.fz (.tuple (q.2.map PyData.int))),hE f qs us (fin f qs) o9 (Db z.1) (Db z.2)):=by
  refine ax (ax rfl rfl rfl (aR (d:=Po q) ?_)) rfl rfl (aN (bZ rfl));have e:z.2=(z.2.toNat:Int):=by lia
  rw[e];exact bZ (by grind)
 have X:ev (Mj n) Ln (hE f qs us (fin f qs) o9 (Db z.1) (Db z.2))=some (.val (It (AY f z.1)),hE f qs us (fin f qs) o9 (Db z.1) (Db z.2)):=by rw[l];refine ax (ax rfl rfl rfl (aR (d:=(R.st x y).d) ?_)) rfl rfl (aN (bZ rfl));rw[J];exact dO D
 exact bh (aa (ax rfl rfl rfl (aR (atI_get P (by grind)))) (aa (Fh B X rfl W) aj)) rfl rfl rfl
theorem rP(S:(fin f qs).bs.length=qs.length):∀{zs:List (Int×Int)}{L:List (Int×PyData)}{P H:Option OD},(∀z∈zs,Zok f qs z/\yc f qs z=true)->(L.map (·.1)++zs.map (·.1)).Nodup->L.length+zs.length<=1000->∃v I,bR (λd p=>(bj (.tp [10,11]) (.fz d) p).bind λρ1=>aD (Mj n) hB ρ1) (zs.map Zp) (hE f qs us (fin f qs) (some (Gd L)) P H)=some (.nx,hE f qs us (fin f qs) (some (Gd (L++Lz f qs zs))) v I)
 |[],L,P,H,_,_,_=>⟨P,H,by show some (Fl.nx,_)=some (Fl.nx,hE f qs us (fin f qs) (some (Gd (L++[]))) P H);simp⟩
 |z::zs,L,P,H,h,nd,hl=>by
  rw[aaD]at hl;obtain⟨O,Z⟩:=h z aai;have l:=λA=>(aau.mp nd).2.2 z.1 A z.1 (by simp) rfl;have N:((L++[(z.1,ko f qs z)]).map (·.1)++zs.map (·.1)).Nodup:=by grind
  obtain⟨v,I,e⟩:=rP S (λy m=>h y (aag _ m)) N (by grind);rw[aab]at e;exact⟨v,I,bs (bs rfl (ab (Fg (KS S O Z) rfl rfl rfl (by grind) (lN l) rfl) rfl)) e⟩
structure Uok (f:Cf)(qs:Pz)(us:List Int):Prop where
 ln:us.length=(gIx 0 f.rows).length
 bd:∀u∈us,0<=u/\u<qs.length
 mm:∀z∈(gIx 0 f.rows).zip us,yc f qs z=true
theorem Uok.z{f:Cf}{qs:Pz}{us:List Int}(U:Uok f qs us){z:Int×Int}(d:z∈(gIx 0 f.rows).zip us):Zok f qs z/\yc f qs z=true:=⟨⟨(aaO d).1,U.bd _ (aaO d).2⟩,U.mm z d⟩
theorem A6(F:Fok f)(Q:Qok f qs)(U:Uok f qs us)(S:(fin f qs).bs.length=qs.length)(A:qs.length<=300)(b:f.rows.length<=60):pl.pg.call (n+5) 30 [Rl f.rows,Lo f,Fp qs us]=some (Gd (Lg f qs us),[Rl f.rows,Lo f,Fp qs us]):=by
 have T:pl.pg.call (n+4) 16 [Rl f.rows,Lo f,Pq qs]=some (Ij (fin f qs),[Rl f.rows,Lo f,Pq qs]):=rE Q.inc (λq h=>(Q.ok q h).g0) A (by lia);have s:=rG (n:=n+2) (rs:=f.rows) (by lia);have B:=ny (n:=n+2) (rs:=f.rows) (by lia);have o:(Mj (n+4)).call=pl.pg.call (n+4):=rfl;rw[<-o]at T s B;have t:=gk (f:=f) (qs:=qs);have N:(jIx 0 f.rows).length<=60:=by rw[fb];exact aan (abl _ _) b
 have L:(gIx 0 f.rows).length<=60:=by rw[eX];exact aan (abl _ _) b
 obtain⟨c,P⟩:=yf (C:=Mj (n+4)) (ve:=.ix (.nm 1) ec2) (g:=λa=>.int (eM (fin f qs) (FO f a))) (ρ:=[some (Il ((fin f qs).ps++[(fin f qs).pl])),Go f.rows]) (λa j=>by
  obtain⟨k,r,e,O,Z⟩:=jIx_mem j;rw[abe]at e;subst e;have D:=F.jb r (aax O);obtain⟨u,Y,_⟩:=D Z;have W:FO f (k:Int)=r.tg:=by unfold FO;rw[aaN,O];rfl
  rw[W];exact ax rfl (xV (ax rfl rfl rfl (aR (dO O))) D Z) rfl (aW rfl (atI_get u (by rw[aaj,t,aaL];lia)))) (by rw[aay,aaI];exact jIx_nodup)
 rw[aaI]at P;obtain⟨v,I,w⟩:=rP S (zs:=(gIx 0 f.rows).zip us) (λz d=>U.z d) (by
  have J:(Lj f qs).map (·.1)=jIx 0 f.rows:=by rw[aaU];exact List.map_id _
  rw[J,List.map_fst_zip (by have:=U.ln;lia)];exact jg_nodup) (by rw[aae,List.length_zip];lia)
 rw[<-nJ]at w;refine ai (ρ:=(hE f qs us (fin f qs) none v I)) rfl rfl ?_ rfl;refine ab (s_asgQ (ρ3:=[Go f.rows,Ix f,Mg qs us,Mb qs,Me us,none,none,none,none,none,none,none]) rfl rfl rfl) ?_;refine ab (s_asgQ (ρ3:=[Go f.rows,Ix f,Mg qs us,Mb qs,Me us,Me (fin f qs).ps,Me (fin f qs).bs,Db (fin f qs).pl,none,none,none,none]) (af (ρ3:=[Go f.rows,Ix f,Mg qs us,Mb qs,Me us,none,none,none,none,none,none,none]) rfl rfl T rfl) rfl rfl) ?_;refine ab (ae (ρ3:=hE f qs us (fin f qs) none none none) (qZ rfl (bX (aa rfl aj) rfl rfl) rfl rfl (by rw[aae,t];show _+1<=_;lia)) rfl rfl (by rw[xW];rfl)) ?_;refine ab (pI (ρ3:=hE f qs us (fin f qs) (some (Gd (Lj f qs))) none none) (cz (af (ρ3:=hE f qs us (fin f qs) none none none) rfl rfl s rfl) (by show (Il _).dat.map _=_;rw[aA];rfl) rfl) (by rw[aae];lia) rfl P (by show 9<12;decide) rfl) ?_;refine ab (eE (oY (dx:=.list ((gIx 0 f.rows).map PyData.int)) (dy:=.list (us.map PyData.int)) (af (ρ3:=hE f qs us (fin f qs) (some (Gd (Lj f qs))) none none) rfl rfl B rfl) rfl (by show (Il _).dat.map _=_;rw[aA];rfl) rfl rfl rfl) w) ?_;exact ak (ag rfl rfl)
theorem nM(h:ws.length<=100):(poolC rs k ws p).length<=204:=by
 unfold poolC;have O:(ovL rs k ws (fw rs k p)).length<=2:=by rw[iw];grind
 have Z:∀q,(padL q).length<=1:=λq=>by unfold padL;grind
 have M:=Z (p+(ovL rs k ws (fw rs k p)).length);rw[aaj,aaj,aaD,fc]
 lia
theorem rQ:∀{qs:Pz}{cs:List Int},(∀q∈qs,q.2.length<=100)->(dQ f k qs cs).length<=cs.length+204*qs.length
 |[],cs,_=>aac _
 |q::qs,cs,h=>by
  show (dQ f k qs (if q.1=(k:Int) then cs++poolC f.rows k q.2 cs.length else cs)).length<=_;refine aan (rQ λz d=>h z (aag _ d)) ?_;rw[aaD];split
  ·rw[aaj];have:=nM (rs:=f.rows) (k:=k) (p:=(cs.length:Int)) (h q aai)
   lia
  ·lia
theorem rR:(cW r p lg g).length<=2:=by
 unfold cW;split
 ·split<;>simp
 ·repeat' split
  all_goals simp
theorem B6(h:∀q∈qs,q.2.length<=100):∀{k:Nat},(CC f qs us k).length<=(204*qs.length+2)*k
 |0=>aac _
 |k+1=>by
  have O:=B6 (f:=f) (us:=us) h (k:=k);have Z:=rQ (f:=f) (k:=k) (cs:=CC f qs us k) h;show (dQ f k qs (CC f qs us k)++_).length<=_;rw[aaj,Nat.mul_succ];generalize (204*qs.length+2)*k=z at *;cases f.rows[k]? with
  |none=>grind
  |some r=>have M:=rR (r:=r) (p:=(dQ f k qs (CC f qs us k)).length) (lg:=decide ((k:Int)∈f.longs)) (g:=gdat f qs us k r);grind
theorem pN(h:∀q∈qs,q.2.length<=100)(A:qs.length<=61)(hk:k<=60):(CC f qs us k).length<=750000:=aan (B6 h) (aan (Nat.mul_le_mul (show 204*qs.length+2<=12446 by lia) hk) (by decide))
theorem Fi:((dK (wdL qs)).any λq=>decide (q=.inl (k:Int)))=decide (∃q∈qs,q.1=(k:Int)):=by
 grind
theorem rS:∀{ps:Pz},(∀q∈ps,q.1≠k)->(dK (wdL (ps++(k,w)::rs))).findIdx? (λq=>decide (q=.inl k))=some ps.length
 |[],_=>by show List.findIdx? _ (.inl k::dK (wdL rs))=_;rw[aaR,Dac rfl];rfl
 |p::ps,h=>by show List.findIdx? _ (.inl p.1::dK (wdL (ps++(k,w)::rs)))=_;rw[aaR,Dab λe=>h p aai (ab3 e),rS λq A=>h q (aag _ A)];rfl
abbrev kE(f:Cf)(qs:Pz)(us:List Int)(cs:List Int)(o6:Option OD):DEnv:=[Go f.rows,Ix f,Mg qs us,some (Gd (Lg f qs us)),some (Gd (wdL qs)),some (Il cs),o6]
theorem IA(h:∀q∈ps,q.1≠(k:Int)):ev C (.pg 4 [.key 6]) (kE f (ps++((k:Int),w)::rs) us cs (Db k))=some (.val (Tn' w),kE f (ps++((k:Int),w)::rs) us cs (Db k)):=by
 have O:accN (kE f (ps++((k:Int),w)::rs) us cs (Db k)) (Gd (wdL (ps++((k:Int),w)::rs))) (.key 6)=some ps.length:=bs rfl (bs rfl (bs rfl (bs rfl (rS h))));have Z:(Gd (wdL (ps++((k),w)::rs))).kids[ps.length]?=some (Tn' w):=by show (dV (wdL (ps++((k:Int),w)::rs)))[ps.length]?=_;simp
 exact bV (bs rfl (bs O (bs Z rfl))) rfl
theorem ilen{cs:List Int}:zL .len [.list (cs.map PyData.int)]=some (.int (cs.length:Int)):=by show some (PyData.int ((cs.map PyData.int).length:Nat))=_;simp
theorem yj:ev C I0 (kE f qs us cs o6)=some (.val (It cs.length),kE f qs us cs o6):=aJ rfl (j7 (aA cs)) ilen
abbrev LG:S':=.iff een eam .nil
abbrev LH:S':=.iff eb8 eaf .nil
theorem B7(Q:Qok f qs)(hk:k<=f.rows.length)(U:cs.length<=900000)(A:qs.length<=61):bF (Mj (n+5)) LG (kE f qs us cs (Db k))=some (.nx,kE f qs us (dQ f k qs cs) (Db k)):=by
 have i:aL (Mj (n+5)) een (kE f qs us cs (Db k))=some (decide (∃q∈qs,q.1=(k:Int)),kE f qs us cs (Db k)):=by rw[<-Fi];rfl
 by_cases h:∃q∈qs,q.1=(k:Int)
 ·rw[Dac h]at i;obtain⟨⟨r,w⟩,Y,e⟩:=h;have e:r=(k:Int):=e;subst e;have c:w.length<=100:=(Q.ok _ Y).l1;obtain⟨T,rs,rfl⟩:=abu Y;rw[B5 Q.inc];have l:∀q∈T,q.1≠(k:Int):=λq A e=>by have:=(jK Q.inc).1 q A;grind
  have m:=AZ (n:=n+1) (p:=(cs.length:Int)) hk c;have o:(Mj (n+5)).call=pl.pg.call (n+5):=rfl;rw[<-o]at m;have z:=nM (rs:=f.rows) (k:=k) (p:=(cs.length:Int)) c;refine ao i (ab (xtI rfl (af (aa rfl (aa rfl (aa (IA l) (aa yj aj)))) rfl m rfl) rfl (by lia) rfl).2 rfl)
 ·rw[Dab h]at i;rw[nL λq A e=>h ⟨q,A,e⟩];exact s_ifF i rfl
theorem Fj(h:dgV (dK (Lg f qs us)) (dV (Lg f qs us)) (.inl (k:Int))=some d):ev C (.dgt 3 (.nm 6)) (kE f qs us cs (Db k))=some (.val (.fz d),kE f qs us cs (Db k)):=bs h rfl
theorem IB{n k:Nat}(F:Fok f)(U:Uok f qs us)(D:f.rows[k]?=some r)(Y:cs.length<=900000):bF (Mj (n+5)) LH (kE f qs us cs (Db k))=some (.nx,kE f qs us (cs++cW r cs.length (decide ((k:Int)∈f.longs)) (gdat f qs us k r)) (Db k)):=by have T:k<f.rows.length:=(aah.mp D).1;have i:aL (Mj (n+5)) eb8 (kE f qs us cs (Db k))=some (true,kE f qs us cs (Db k)):=ar (aq rfl (aJ rfl rfl blen) rfl rfl (show some (decide ((k:Int)<(f.rows.length:Int)))=some true by grind));have S:=E9 (n:=n+3) (p:=(cs.length:Int)) (lg:=decide ((k:Int)∈f.longs)) (g:=gdat f qs us k r) (F.ok r (aax D)) gdat_ok;have o:(Mj (n+5)).call=pl.pg.call (n+5):=rfl;rw[<-o]at S;have t:=rR (r:=r) (p:=(cs.length:Int)) (lg:=decide ((k:Int)∈f.longs)) (g:=gdat f qs us k r);exact ao i (ab (xtI rfl (af (aa (ax rfl rfl rfl (aR (dO D))) (aa yj (aa (aq rfl rfl rfl rfl inL) (aa (Fj (Fd U.ln D)) aj)))) rfl S rfl) rfl (by lia) rfl).2 rfl)
abbrev AC(f:Cf)(qs:Pz)(us:List Int):List Int:=dQ f f.rows.length qs (CC f qs us f.rows.length)
theorem yk(F:Fok f)(Q:Qok f qs)(U:Uok f qs us)(A:qs.length<=61)(a:f.rows.length<=60):∀{m k:Nat}{o6:Option OD},k+m=f.rows.length->∃P,bR (λd p=>(bj (.nm 6) (.fz d) p).bind λρ1=>aD (Mj (n+5)) (.cons LG (.cons LH .nil)) ρ1) (dm k (m+1)) (kE f qs us (CC f qs us k) o6)=some (.nx,kE f qs us (AC f qs us) P)
 |0,k,o6,h=>by
  have T:k=f.rows.length:=by lia
  subst T;have Y:=pN (f:=f) (us:=us) (λq A=>(Q.ok q A).l1) A a;have N:aL (Mj (n+5)) eb8 (kE f qs us (AC f qs us) (Db f.rows.length))=some (false,kE f qs us (AC f qs us) (Db f.rows.length)):=ar (aq rfl (aJ rfl rfl blen) rfl rfl (show some (decide ((f.rows.length:Int)<(f.rows.length:Int)))=some false by simp));rw[bf];exact⟨_,bs (bs rfl (ab (B7 Q (aac _) (by lia) A) (ab (s_ifF N rfl) rfl))) rfl⟩
 |m+1,k,o6,h=>by
  obtain⟨r,D⟩:∃r,f.rows[k]?=some r:=⟨_,aam (by lia)⟩
  have Y:=pN (f:=f) (us:=us) (λq A=>(Q.ok q A).l1) A (k:=k) (by lia);have C:=rQ (f:=f) (k:=k) (cs:=CC f qs us k) λq A=>(Q.ok q A).l1;obtain⟨P,e⟩:=yk F Q U A a (m:=m) (k:=k+1) (by lia);have c:CC f qs us (k+1)=dQ f k qs (CC f qs us k)++cW r (dQ f k qs (CC f qs us k)).length (decide ((k:Int)∈f.longs)) (gdat f qs us k r):=by
   show _++(f.rows[k]?).elim [] _=_
   grind
  rw[c]at e;rw[bf];exact⟨P,bs (bs rfl (ab (B7 Q (by lia) (by lia) A) (ab (IB F U D (by lia)) rfl))) e⟩
theorem Fk(F:Fok f)(Q:Qok f qs)(U:Uok f qs us)(S:(fin f qs).bs.length=qs.length)(A:qs.length<=61)(a:f.rows.length<=60):pl.pg.call (n+6) 31 [Rl f.rows,Lo f,Fp qs us]=some (Il (AC f qs us),[Rl f.rows,Lo f,Fp qs us]):=by
 have k:=A6 (n:=n) F Q U S (by lia) a;have o:(Mj (n+5)).call=pl.pg.call (n+5):=rfl;rw[<-o]at k;obtain⟨B,c,P⟩:=yg (ps:=[]) Q.inc;obtain⟨T,e⟩:=yk F Q U A a (aaQ _);refine ai (ρ:=(kE f qs us (AC f qs us) T).set 5 none) rfl rfl ?_ rfl;refine ab (ae (af rfl rfl k rfl) rfl rfl rfl) ?_;refine ab (pI (cz (ax rfl rfl rfl (aN aO)) rfl rfl) (by rw[aae];lia) rfl P (by show 4<7;decide) rfl) ?_;refine ab (ae (bX aj rfl rfl) rfl rfl rfl) ?_;refine ab (eE (gL (ah (aJ rfl rfl blen) rfl rfl rfl rfl) rfl (by lia)) ?_) (ak (ag (ρ:=kE f qs us (AC f qs us) T) rfl rfl));have l:((f.rows.length:Int)+1).toNat=f.rows.length+1:=by lia
 rw[l];exact e
theorem rV(O:ev C a ρ=some (x,ρ1))(Z:ev C b ρ1=some (y,ρ2))(F:az ρ2 x=some dx)(m:az ρ2 y=some dy)(hk:oK o dx dy=some true)(M:ev C c ρ2=some (z,ρ3))(H:az ρ3 y=some dy')(d:az ρ3 z=some dz)(l:oK o' dy' dz=some k):ev C (.cmp2 o o' a b c) ρ=some (.val (.fz (.bool k)),ρ3):=bs O (bs Z (bs F (bs m (bs hk (bs M (bs H (bs d (bs l rfl))))))))
theorem rW(O:ev C a ρ=some (x,ρ1))(Z:ev C b ρ1=some (y,ρ2))(F:az ρ2 x=some dx)(m:az ρ2 y=some dy)(hk:oK o dx dy=some false):ev C (.cmp2 o o' a b c) ρ=some (.val (.fz (.bool false)),ρ2):=bs O (bs Z (bs F (bs m (bs hk rfl))))
theorem iy(h:ev C (.cmp2 o o' a b c) ρ=some (.val (.fz (.bool k)),ρ1)):aL C (.cmp2 o o' a b c) ρ=some (k,ρ1):=bs h rfl
section
variable{C:Ct}{a b c:E}{ρ:DEnv}{lo x hi:Int}
theorem bo(O:ev C a ρ=some (.val (It lo),ρ))(Z:ev C b ρ=some (.val (It x),ρ))(M:ev C c ρ=some (.val (It hi),ρ)):aL C (.cmp2 .le .lt a b c) ρ=some (decide (lo<=x/\x<hi),ρ):=by
 by_cases h:lo<=x
 ·refine iy (rV O Z rfl rfl (show some (decide (lo<=x))=some true by grind) M rfl rfl (show some (decide (x<hi))=_ from ?_))
  grind
 ·rw[Dab (by lia)];exact iy (rW O Z rfl rfl (show some (decide (lo<=x))=some false by grind))
theorem yl(O:ev C a ρ=some (.val (It lo),ρ))(Z:ev C b ρ=some (.val (It x),ρ))(M:ev C c ρ=some (.val (It hi),ρ)):aL C (.cmp2 .lt .le a b c) ρ=some (decide (lo<x/\x<=hi),ρ):=by
 by_cases h:lo<x
 ·refine iy (rV O Z rfl rfl (show some (decide (lo<x))=some true by grind) M rfl rfl (show some (decide (x<=hi))=_ from ?_))
  grind
 ·rw[Dab (by lia)];exact iy (rW O Z rfl rfl (show some (decide (lo<x))=some false by grind))
theorem dP(O:ev C a ρ=some (.val (It x),ρ))(Z:ev C b ρ=some (.val (It lo),ρ)):aL C (.cmp .eq a b) ρ=some (decide (x=lo),ρ):=ar (aq O Z rfl rfl rfl)
theorem fA(O:ev C a ρ=some (.val (It x),ρ))(Z:ev C b ρ=some (.val (It lo),ρ)):aL C (.cmp .lt a b) ρ=some (decide (x<lo),ρ):=ar (aq O Z rfl rfl rfl)
theorem ym(O:ev C a ρ=some (.val (It x),ρ))(Z:ev C b ρ=some (.val (It lo),ρ)):aL C (.cmp .gt a b) ρ=some (decide (lo<x),ρ):=ar (aq O Z rfl rfl rfl)
theorem B8(O:ev C a ρ=some (.val (It x),ρ))(Z:ev C b ρ=some (.val (It lo),ρ)):aL C (.cmp .le a b) ρ=some (decide (x<=lo),ρ):=ar (aq O Z rfl rfl rfl)
theorem IC(O:ev C a ρ=some (.val (It x),ρ))(Z:ev C b ρ=some (.val (It lo),ρ)):aL C (.cmp .ge a b) ρ=some (decide (lo<=x),ρ):=ar (aq O Z rfl rfl rfl)
theorem rT[Decidable P](h:aL C c ρ=some (decide P,ρ))(q:P):aL C c ρ=some (true,ρ):=by grind
theorem rF[Decidable P](h:aL C c ρ=some (decide P,ρ))(q:¬ P):aL C c ρ=some (false,ρ):=by grind
end
noncomputable def pairD(w:Str)(k:Int):PyData:=if k/10<5/\k%10<5 then .tuple [.str w,.int (k/10),.int (k%10)] else .none
theorem yn:pl.pg.call (n+1) 7 [.fz (.str w),It k]=some (.fz (pairD w k),[.fz (.str w),It k]):=by
 refine ai (ρ:=[some (.fz (.str w)),Db k,Db (k/10),Db (k%10)]) rfl rfl ?_ rfl;refine ab (fI (aa (ah rfl rfl rfl rfl (jz (by decide))) (aa (ah rfl rfl rfl rfl (bq (by decide))) aj)) rfl rfl rfl) ?_;unfold pairD;by_cases h:k/10<5
 ·by_cases C:k%10<5
  ·rw[if_pos ⟨h,C⟩];exact ak (ag (cI (dq (rT (fA rfl rfl) h) (rT (fA rfl rfl) C)) rfl) rfl)
  ·rw[if_neg λz=>C z.2];exact ak (ag (bY (dq (rT (fA rfl rfl) h) (rF (fA rfl rfl) C)) rfl) rfl)
 ·rw[if_neg λz=>h z.1];exact ak (ag (bY (jh (rF (fA rfl rfl) h)) rfl) rfl)
def nilD(c p:Int):PyData:=if 0<(c-8000)%200 then .tuple [.str bi,.int ((c-8000)/200),.int (p+(c-8000)%200-99-1),.bool false] else .none
theorem ID:pl.pg.call (n+1) 8 [It c,It p]=some (.fz (nilD c p),[It c,It p]):=by
 refine ai (ρ:=[Db c,Db p,Db 8000,Db ((c-8000)/200),Db ((c-8000)%200)]) rfl rfl ?_ rfl;refine ab (ae rfl rfl rfl rfl) (ab (fI (aa (ah rfl rfl rfl rfl (jz (by decide))) (aa (ah rfl rfl rfl rfl (bq (by decide))) aj)) rfl rfl rfl) ?_);unfold nilD;by_cases h:0<(c-8000)%200
 ·rw[if_pos h];exact ak (ag (cI (rT (ym rfl rfl) h) rfl) rfl)
 ·rw[if_neg h];exact ak (ag (bY (rF (ym rfl rfl) h) rfl) rfl)
def loneD(c p:Int):PyData:=
 if c=0 then .tuple [.str bv] else if 1000<=c/\c<1500 then .tuple [.str ce,.int ((c-1000)/100),.int (c%100)]
 else if 2000<=c/\c<3000 then pairD hW (c-2000) else if 3000<=c/\c<4000 then pairD hY (c-3000)
 else if 4000<=c/\c<4005 then .tuple [.str hM,.int (c-4000)] else if (if c-6500<0 then -(c-6500) else c-6500)<=499 then .tuple [.str am,.int (p+c-6500),.bool false]
 else if c=7002 then .tuple [.str "pad"] else if 8001<=c/\c<9000 then nilD c p else .none
theorem Fm:pl.pg.call (n+2) 9 [It c,It p]=some (.fz (loneD c p),[It c,It p]):=by
 have o:(Mj (n+1)).call=pl.pg.call (n+1):=rfl;refine ai (ρ:=[Db c,Db p]) rfl rfl ?_ rfl;unfold loneD;by_cases h:c=0
 ·rw[if_pos h];exact ak (ao (rT (dP rfl rfl) h) (ak (ag rfl rfl)))
 rw[if_neg h];refine ab (s_ifF (rF (dP rfl rfl) h) rfl) ?_;clear h;by_cases h:1000<=c/\c<1500
 ·rw[if_pos h];exact ak (ao (rT (bo rfl rfl rfl) h) (ak (ag (bh (aa rfl (aa (ah rfl rfl rfl rfl (jz (by decide))) (aa (ah rfl rfl rfl rfl (bq (by decide))) aj))) rfl rfl rfl) rfl)))
 rw[if_neg h];refine ab (s_ifF (rF (bo rfl rfl rfl) h) rfl) ?_;clear h;by_cases h:2000<=c/\c<3000
 ·have e:=yn (n:=n) (w:=hW) (k:=c-2000);rw[<-o]at e;rw[if_pos h];exact ak (ao (rT (bo rfl rfl rfl) h) (ak (ag (af rfl rfl e rfl) rfl)))
 rw[if_neg h];refine ab (s_ifF (rF (bo rfl rfl rfl) h) rfl) ?_;clear h;by_cases h:3000<=c/\c<4000
 ·have e:=yn (n:=n) (w:=hY) (k:=c-3000);rw[<-o]at e;rw[if_pos h];exact ak (ao (rT (bo rfl rfl rfl) h) (ak (ag (af rfl rfl e rfl) rfl)))
 rw[if_neg h];refine ab (s_ifF (rF (bo rfl rfl rfl) h) rfl) ?_;clear h;by_cases h:4000<=c/\c<4005
 ·rw[if_pos h];exact ak (ao (rT (bo rfl rfl rfl) h) (ak (ag rfl rfl)))
 rw[if_neg h];refine ab (s_ifF (rF (bo rfl rfl rfl) h) rfl) ?_;clear h;by_cases h:(if c-6500<0 then -(c-6500) else c-6500)<=499
 ·rw[if_pos h];exact ak (ao (rT (B8 rfl rfl) h) (ak (ag rfl rfl)))
 rw[if_neg h];refine ab (s_ifF (rF (B8 rfl rfl) h) rfl) ?_;clear h;by_cases h:c=7002
 ·rw[if_pos h];exact ak (ao (rT (dP rfl rfl) h) (ak (ag rfl rfl)))
 rw[if_neg h];refine ab (s_ifF (rF (dP rfl rfl) h) rfl) ?_;clear h;by_cases h:8001<=c/\c<9000
 ·have e:=ID (n:=n) (c:=c) (p:=p);rw[<-o]at e;rw[if_pos h];exact ak (ao (rT (bo rfl rfl rfl) h) (ak (ag (af rfl rfl e rfl) rfl)))
 rw[if_neg h];exact ab (s_ifF (rF (bo rfl rfl rfl) h) rfl) (ak (ag rfl rfl))
def twoD(c s p:Int):PyData:=
 if 5000<=c/\c<5500 then .tuple [.str hR,.int ((c-5000)/100),.int (p+s-5000),.int (c%100)] else if c=7000 then .tuple [.str am,.int s,.bool true]
 else if c=7001 then .tuple [.str lX,.int s] else if 9000<=c/\c<9005 then .tuple [.str bi,.int (c-9000),.int s,.bool true] else .none
theorem IE:pl.pg.call (n+1) 10 [It c,It s,It p]=some (.fz (twoD c s p),[It c,It s,It p]):=by
 refine ai (ρ:=[Db c,Db s,Db p]) rfl rfl ?_ rfl;unfold twoD;by_cases h:5000<=c/\c<5500
 ·rw[if_pos h];exact ak (ao (rT (bo rfl rfl rfl) h) (ak (ag (bh (aa rfl (aa (ah rfl rfl rfl rfl (jz (by decide))) (aa rfl (aa (ah rfl rfl rfl rfl (bq (by decide))) aj)))) rfl rfl rfl) rfl)))
 rw[if_neg h];refine ab (s_ifF (rF (bo rfl rfl rfl) h) rfl) ?_;clear h;by_cases h:c=7000
 ·rw[if_pos h];exact ak (ao (rT (dP rfl rfl) h) (ak (ag rfl rfl)))
 rw[if_neg h];refine ab (s_ifF (rF (dP rfl rfl) h) rfl) ?_;clear h;by_cases h:c=7001
 ·rw[if_pos h];exact ak (ao (rT (dP rfl rfl) h) (ak (ag rfl rfl)))
 rw[if_neg h];refine ab (s_ifF (rF (dP rfl rfl) h) rfl) ?_;clear h;by_cases h:9000<=c/\c<9005
 ·rw[if_pos h];exact ak (ao (rT (bo rfl rfl rfl) h) (ak (ag rfl rfl)))
 rw[if_neg h];exact ab (s_ifF (rF (bo rfl rfl rfl) h) rfl) (ak (ag rfl rfl))
theorem pO{Y:Type}{g h:Y->PyData}:∀{as:List Y}{out:List PyData}{o:Option OD},(∀a∈as,ev C elt (some (.fz (g a))::ρ)=some (.val (.fz (h a)),some (.fz (g a))::ρ))->∃P,cH (cQ C (.nm 0) .none elt) (as.map g) out (o::ρ)=some (out++as.map h,P::ρ)
 |[],out,o,_=>⟨o,by rw[aay,aay,aap];rfl⟩
 |a::as,out,o,h2=>by
  have j:bj (.nm 0) (.fz (g a)) (o::ρ)=some (some (.fz (g a))::ρ):=by rfl
  obtain⟨P,e⟩:=pO (λb S=>h2 b (aag _ S));refine⟨P,bs (Ax j (h2 a aai) rfl) ?_⟩;rw[e,aab];rfl
def wds(cs:List Int)(b m:Nat):List Int:=(List.range m).map λj=>cs.getD (b+2*j) 0*10000+cs.getD (b+2*j+1) 0
theorem B9{cs:List Int}{k:Nat}(e:i=(k:Int))(h:k<cs.length):atI (cs.map PyData.int) i=some (.int (cs.getD k 0)):=by subst e;exact bZ (by grind)
theorem Fo(O:ev C a ρ=some (.val (It i),ρ))(Z:ev C b ρ=some (.val (It j),ρ))(h:0<=i/\i<=j/\j<=1000000):tU C (.rg3 a b) ρ=some (oI i (rn2 i j),ρ):=bs O (bs Z (bs rfl (bs rfl (bs rfl (bs rfl (bg h rfl))))))
abbrev Sx(cs:List Int)(p:Nat)(d:PyData)(q:Nat):Prop:=∀n:Nat,pl.pg.call (n+3) 12 [Dl cs,It p]=some (.fz (.tuple [d,.int q]),[Dl cs,It p])
theorem Fq{n:Nat}{cs:List Int}{p m:Nat}(h:cs[p]?=some (7100+(m:Int)))(a:p+1+2*m<=cs.length)(t:cs.length<=900000):pl.pg.call (n+1) 11 [Dl cs,It p]=some (.fz (.tuple [.tuple [.str hL,.tuple ((wds cs (p+1) m).map PyData.int)],.int ((p+1+2*m:Nat):Int)]),[Dl cs,It p]):=by
 have X:rn2 ((p+1:Nat):Int) ((p+1+2*m:Nat):Int)=m:=by unfold rn2;lia
 obtain⟨P,e⟩:=pO (C:=Mj n) (elt:=.bop .add ec6 ec3) (g:=λi:Nat=>.int (((p+1:Nat):Int)+(i:Int)*2)) (ρ:=[Me cs]) (as:=List.range m) λj W=>by have W:=List.mem_range.mp W;exact ah (ah (ax rfl rfl rfl (aR (B9 (k:=p+1+2*j) (by grind) (by lia)))) rfl rfl rfl (cK (.inr (by decide)))) (ax rfl rfl rfl (aR (B9 (k:=p+1+2*j+1) (by grind) (by lia)))) rfl rfl rfl
 rw[aaI]at e;have H:((List.range m).map λj=>PyData.int (cs.getD (p+1+2*j) 0*10000+cs.getD (p+1+2*j+1) 0))=(wds cs (p+1) m).map PyData.int:=by unfold wds;rw[aaU];rfl
 rw[H]at e;generalize wds cs (p+1) m=ws at *;have Y:7100+(m:Int)-7100=m:=by lia
 refine ai (ρ:=[Me cs,Db p,Db (p+1:Nat),Db (p+1+2*m:Nat),some (Il ws)]) rfl rfl ?_ rfl;refine ab (ae rfl rfl rfl rfl) ?_;refine ab (ae (ρ3:=[Me cs,Db p,Db (p+1:Nat),Db (p+1+2*m:Nat),none]) (ah rfl (ah rfl (ah (dx:=.int (7100+(m:Int))) (d:=.int (m:Int)) (ax rfl rfl rfl (aR (bZ (by grind)))) rfl rfl rfl (show some (PyData.int (7100+(m:Int)-7100))=_ by rw[Y])) rfl rfl (bM (k:=2) (by decide))) rfl rfl (show some (PyData.int (((p+1:Nat):Int)+2*(m:Int)))=_ by rfl)) rfl rfl rfl) ?_;refine ab (s_ifF (rF (ym (x:=((p+1+2*m:Nat):Int)) (lo:=cs.length) rfl (aJ rfl rfl blen)) (by lia)) rfl) ?_;refine ab (ae (ρ3:=[Me cs,Db p,Db (p+1:Nat),Db (p+1+2*m:Nat),some (Il ws)]) (dB (ρ2:=[Me cs,Db p,Db (p+1:Nat),Db (p+1+2*m:Nat),none]) (Fo rfl rfl (by lia)) (by rw[mF,X];lia) rfl (by rw[X];exact e) rfl) (z:=Il ws) (by rw[fv];rfl) rfl rfl) ?_;exact ak (ag (bh (aa (bh (aa rfl (aa (qY rfl (ds:=ws.map PyData.int) (rL ws)) aj)) rfl rfl rfl) (aa rfl aj)) rfl rfl rfl) rfl)
section
variable{n:Nat}{cs:List Int}{p:Nat}
theorem Ca(P:p<cs.length):aL C eba [Me cs,Db p,o2,o3,o4]=some (false,[Me cs,Db p,o2,o3,o4]):=dA (rT (bo rfl rfl (aJ rfl rfl blen)) (by lia))
theorem nN:pl.pg.call (n+1) 12 [Dl cs,It cs.length]=some (.fz .none,[Dl cs,It cs.length]):=ai rfl rfl (ak (ao (dA (rF (bo rfl rfl (aJ rfl rfl blen)) (by lia))) (ak (ag rfl rfl)))) rfl
abbrev aE(cs:List Int)(p:Nat)(c:Int)(o3 o4:Option OD):DEnv:=[Me cs,Db p,Db c,o3,o4]
theorem A7{m:Nat}(h:cs[p]?=some (7100+(m:Int)))(k:1<=m)(w:m<=100)(a:p+1+2*m<=cs.length)(t:cs.length<=900000):Sx cs p (.tuple [.str hL,.tuple ((wds cs (p+1) m).map PyData.int)]) (p+1+2*m):=λn=>by have e:=Fq (n:=n+1) h a t;have o:(Mj (n+2)).call=pl.pg.call (n+2):=rfl;rw[<-o]at e;have C:p<cs.length:=(aah.mp h).1;exact ai (ρ:=aE cs p (7100+(m:Int)) none none) rfl rfl (ab (s_ifF (Ca C) rfl) (ab (ae (ax rfl rfl rfl (aR (bZ (by grind)))) rfl rfl rfl) (ak (ao (rT (yl rfl rfl rfl) (by lia)) (ak (ag (af rfl rfl e rfl) rfl)))))) rfl
theorem yo(h:cs[p]?=some c)(U:¬ (7100<c/\c<=7200))(k:aD (Mj (n+2)) (match F_seen_at.body with|.cons _ (.cons _ (.cons _ (.cons _ s)))=>s|_=>.nil) (aE cs p c (some (.fz (loneD c p))) none)=some (.rt z,aE cs p c o3 o4)):pl.pg.call (n+3) 12 [Dl cs,It p]=some (z,[Dl cs,It p]):=by have e:=Fm (n:=n) (c:=c) (p:=p);have o:(Mj (n+2)).call=pl.pg.call (n+2):=rfl;rw[<-o]at e;have C:=(aah.mp h).1;exact ai rfl rfl (ab (s_ifF (Ca C) rfl) (ab (ae (ax rfl rfl rfl (aR (bZ (by rw[aaz,h];rfl)))) rfl rfl rfl) (ab (s_ifF (rF (yl rfl rfl rfl) U) rfl) (ab (ae (af rfl rfl e rfl) rfl rfl rfl) k)))) rfl
theorem dG(h:cs[p]?=some c)(U:¬ (7100<c/\c<=7200))(W:loneD c p=.tuple ds):Sx cs p (.tuple ds) (p+1):=λn=>by refine yo (o3:=some (.fz (.tuple ds))) (o4:=none) h U ?_;rw[W];rfl
theorem lP(h:cs[p]?=some c)(h':cs[p+1]?=some s)(U:¬ (7100<c/\c<=7200))(l:loneD c p=.none)(W:twoD c s p=.tuple ds):Sx cs p (.tuple ds) (p+2):=λn=>by have e:=IE (n:=n+1) (c:=c) (s:=s) (p:=p);have o:(Mj (n+2)).call=pl.pg.call (n+2):=rfl;rw[<-o,W]at e;have C:p+1<cs.length:=(aah.mp h').1;refine yo (o3:=some (.fz .none)) (o4:=some (.fz (.tuple ds))) h U ?_;rw[l];exact ab (s_ifF rfl rfl) (ab (s_ifF (rF (dP rfl (aJ rfl rfl blen)) (by omega)) rfl) (ab (ae (af (aa rfl (aa (ax rfl rfl rfl (aR (show atI (cs.map PyData.int) ((p+1:Nat):Int)=_ from bZ (by rw[aaz,h'];rfl)))) (aa rfl aj))) rfl e rfl) rfl rfl rfl) (ak (ag (bY rfl rfl) rfl))))
end
def rth(r:R)(lg:Bool)(g:PyData):PyData:=match r with
 |.st x k=>if 99<k then .tuple [.str hR,.int x,.int (B3 g),.int (yd g)] else .tuple [.str ce,.int x,.int k]
 |.ot w xs _=>if w=am then .tuple [.str am,.int (gI g),.bool lg] else if w=bi then .tuple [.str bi,.int (xs.getD 0 0),.int (gI g),.bool lg] else .tuple (.str w::xs.map PyData.int)
theorem rX(e:c=10*a+b)(j:0<=a/\a<=4)(S:0<=b/\b<=4):pairD w c=.tuple [.str w,.int a,.int b]:=by subst e;unfold pairD;rw[show (10*a+b)/10=a by omega,show (10*a+b)%10=b by omega,if_pos ⟨by omega,by omega⟩]
theorem Fs{p:Nat}(D:r.ok)(Q:r.gr=true->0<=yd g/\yd g<=99)(W:r.jm=true->lg=false->-(farN r 499)<=gI g-p/\gI g-p<=farN r 499)(C:∀i x,(cW r p lg g)[i]?=some x->cs[p+i]?=some x):Sx cs p (rth r lg g) (p+(cW r p lg g).length):=by
 cases r with
 |st x k=>
  have O:=D.1;have Z:=D.2;by_cases h:99<k
  ·have X:cW (R.st x k) p lg g=[5000+100*x+yd g,5000+B3 g-p]:=if_pos h;have U:rth (R.st x k) lg g=.tuple [.str hR,.int x,.int (B3 g),.int (yd g)]:=if_pos h;have Q:=Q (Dac h);rw[X]at C ⊢;rw[U];refine lP (C 0 _ rfl) (C 1 _ rfl) (by omega) ?_ ?_
   ·unfold loneD;rw[if_neg (by omega),if_neg (by omega),if_neg (by omega),if_neg (by omega),if_neg (by omega),if_neg (by split<;>omega),if_neg (by omega),if_neg (by omega)]
   ·unfold twoD;rw[if_pos (by omega),show (5000+100*x+yd g-5000)/100=x by omega,show (5000+100*x+yd g)%100=yd g by omega,show (p:Int)+(5000+B3 g-p)-5000=B3 g by omega]
  ·have X:cW (R.st x k) p lg g=[1000+100*x+k]:=if_neg h;have U:rth (R.st x k) lg g=.tuple [.str ce,.int x,.int k]:=if_neg h;rw[X]at C ⊢;rw[U];refine dG (C 0 _ rfl) (by omega) ?_;unfold loneD;rw[if_neg (by omega),if_pos (by omega),show (1000+100*x+k-1000)/100=x by omega,show (1000+100*x+k)%100=k by omega]
 |ot w Y L=>
  cases D with
  |sum a b h=>refine dG (C 0 (2000+10*a+b) rfl) (by omega) ?_;unfold loneD;rw[if_neg (by omega),if_neg (by omega),if_pos (by omega),rX (by omega) h.1 h.2];rfl
  |less a b h=>refine dG (C 0 (3000+10*a+b) rfl) (by omega) ?_;unfold loneD;rw[if_neg (by omega),if_neg (by omega),if_neg (by omega),if_pos (by omega),rX (by omega) h.1 h.2];rfl
  |tell a h=>refine dG (C 0 (4000+a) rfl) (by omega) ?_;unfold loneD;rw[if_neg (by omega),if_neg (by omega),if_neg (by omega),if_neg (by omega),if_pos (by omega),show 4000+a-4000=a by omega];rfl
  |stop=>exact dG (C 0 _ rfl) (by decide) rfl
  |go a=>
   cases lg with
   |true=>exact lP (C 0 _ rfl) (C 1 _ rfl) (by decide) rfl rfl
   |false=>have S:-499<=gI g-p/\gI g-p<=499:=W rfl rfl;refine dG (C 0 (6500+gI g-p) rfl) (by omega) ?_;unfold loneD;rw[if_neg (by omega),if_neg (by omega),if_neg (by omega),if_neg (by omega),if_neg (by omega),if_pos (by split<;>omega),show (p:Int)+(6500+gI g-p)-6500=gI g by omega]
  |nil a b h=>
   cases lg with
   |true=>
    refine lP (C 0 (9000+a) rfl) (C 1 _ rfl) (by omega) ?_ ?_
    ·unfold loneD;rw[if_neg (by omega),if_neg (by omega),if_neg (by omega),if_neg (by omega),if_neg (by omega),if_neg (by split<;>omega),if_neg (by omega),if_neg (by omega)]
    ·unfold twoD;rw[if_neg (by omega),if_neg (by omega),if_neg (by omega),if_pos (by omega),show 9000+a-9000=a by omega];rfl
   |false=>have S:-99<=gI g-p/\gI g-p<=99:=W rfl rfl;refine dG (C 0 (8100+200*a+gI g-p) rfl) (by omega) ?_;unfold loneD nilD;rw[if_neg (by omega),if_neg (by omega),if_neg (by omega),if_neg (by omega),if_neg (by omega),if_neg (by split<;>omega),if_neg (by omega),if_pos (by omega),if_pos (by omega),show (8100+200*a+gI g-(p:Int)-8000)/200=a by omega,show (p:Int)+(8100+200*a+gI g-p-8000)%200-99-1=gI g by omega];rfl
theorem kr{X Y cs:List Int}(h:cs=X++Y)(F:Y[i]?=some x):cs[X.length+i]?=some x:=by rw[h,aa5 (aaS _ _),abH];exact F
theorem hal_at:∀{ws:List Int}{j:Nat}{x:Int},ws[j]?=some x->(hal ws)[2*j]?=some (x/10000)/\(hal ws)[2*j+1]?=some (x%10000)
 |[],j,x,h=>by cases h
 |w::ws,0,x,h=>by cases h;trivial
 |w::ws,j+1,x,h=>hal_at (ws:=ws) h
theorem A8(h:cs=X++(c::(hal w++T))):wds cs (X.length+1) w.length=w:=by
 refine abP λj=>?_;unfold wds;rw[aaz];by_cases W:j<w.length
 ·have F:w[j]?=some w[j]:=aam W;obtain⟨J,B⟩:=hal_at F;have Y:=kr (i:=2*j+1) h (by rw[aby,aa8 (by rw[fc];omega)];exact J);have l:=kr (i:=2*j+1+1) h (by rw[aby,aa8 (by rw[fc];omega)];exact B);rw[List.getElem?_range W,F];show some (cs.getD (X.length+1+2*j) 0*10000+cs.getD (X.length+1+2*j+1) 0)=_;rw[aaX,aaX,show X.length+1+2*j=X.length+(2*j+1) by omega,show X.length+(2*j+1)+1=X.length+(2*j+1+1) by omega,Y,l];show some (w[j]/10000*10000+w[j]%10000)=_;congr 1;omega
 ·rw[ab4 (by rw[List.length_range];omega),ab4 (by omega)];rfl
theorem rY{k:Nat}(Q:Qok f (ps++((k:Int),w)::rs))(t:cs.length<=900000)(U:∃T,cs=dQ f k (ps++((k:Int),w)::rs) L++T):∃b:Nat,((b:Int)=fw f.rows k L.length/\b+2*w.length=(dQ f k (ps++((k:Int),w)::rs) L).length)/\1<=b/\Sx cs (b-1) (.tuple [.str hL,.tuple (w.map PyData.int)]) (b+2*w.length)/\(pD f.rows k=true->Sx cs L.length (.tuple [.str lX,.int ((b+2*w.length:Nat):Int)]) (L.length+2)):=by
 have d:((k:Int),w)∈ps++((k:Int),w)::rs:=aad _ aai;have h:1<=w.length:=(Q.ok _ d).l0;have c:w.length<=100:=(Q.ok _ d).l1;rw[B5 Q.inc]at U ⊢;obtain⟨T,U⟩:=U;have S:=kn (rs:=f.rows) (k:=k) (ws:=w) (p:=(L.length:Int));have a:cs.length=L.length+(poolC f.rows k w L.length).length+T.length:=by grind
 have C:(poolC f.rows k w L.length).length=(ovL f.rows k w (fw f.rows k L.length)).length+((padL ((L.length:Int)+(ovL f.rows k w (fw f.rows k L.length)).length)).length+(1+2*w.length)):=by unfold poolC;rw[aaj,aaj,aaD,fc];lia
 have A:cs=L++(ovL f.rows k w (fw f.rows k L.length)++(padL ((L.length:Int)+(ovL f.rows k w (fw f.rows k L.length)).length)++((7100+(w.length:Int))::(hal w++T)))):=by rw[U];unfold poolC;simp
 obtain⟨O,y⟩:∃O,O=ovL f.rows k w (fw f.rows k L.length):=⟨_,rfl⟩
 obtain⟨D,W⟩:∃D,D=padL ((L.length:Int)+O.length):=⟨_,rfl⟩
 rw[<-y]at A C;rw[<-W]at A C;have H:cs=(L++O++D)++((7100+(w.length:Int))::(hal w++T)):=by rw[A,aab (L++O),aab]
 have X:(L++O++D).length=L.length+O.length+D.length:=by rw[aaj,aaj]
 have q:=kr (i:=0) H rfl;have g:=A8 H;rw[X]at q g;have e:=A7 q h c (by lia) t;rw[g]at e;refine⟨L.length+O.length+D.length+1,⟨by push_cast;lia,by rw[aaj];lia⟩,by lia,e,λj=>?_⟩;have o:O=[7001,fw f.rows k L.length+2*w.length]:=by rw[y];unfold ovL;rw[if_pos j]
 have u:cs[L.length]?=some 7001:=kr (i:=0) A (by rw[o];rfl);have Y:cs[L.length+1]?=some (fw f.rows k L.length+2*w.length):=kr A (by rw[o];rfl);have m:fw f.rows k L.length+2*(w.length:Int)=((L.length+O.length+D.length+1+2*w.length:Nat):Int):=by push_cast;lia
 rw[m]at Y;exact lP u Y (by decide) rfl rfl
abbrev sV(d:PyData)(q:Nat):OD:=.fz (.tuple [d,.int q])
section
variable{n:Nat}{cs:List Int}{p:Nat}
theorem Ft{b i q:Nat}{ws:List Int} (S:1<=b) (h:Sx cs (b-1) (.tuple [.str hL,.tuple (ws.map PyData.int)]) q) (r:ws[i]?=some x):pl.pg.call (n+4) 36 [Dl cs,It b,It i]=some (It x,[Dl cs,It b,It i]):=by
 have e:=h n;have o:(Mj (n+3)).call=pl.pg.call (n+3):=rfl;rw[<-o,show ((b-1:Nat):Int)=(b:Int)-1 by lia]at e;have t:=(aah.mp r).1;have N:¬ ((ws.length:Int)<=(i:Int)):=by lia
 refine ai rfl rfl (ab (ae (af rfl rfl e rfl) rfl rfl rfl) (ab (s_ifF (bp rfl (bp rfl (rF (IC rfl (aJ rfl rfl Fb)) N))) rfl) (ak (ag (ax rfl rfl rfl (aN (bZ (by grind)))) rfl)))) rfl
def IF(cs:List Int)(p:Nat):Prop:=p=cs.length\/∃w Y q,w≠(lX:Str)/\Sx cs p (.tuple (.str w::Y)) q
abbrev pB:Ss:=match F_past_overs.body with|.cons _ (.cons (.whl _ b) _)=>b|_=>.nil
abbrev pC:E:=.and (.isn true (.nm 2)) ebl
theorem past_w(h:IF cs p):∃y,pl.pg.call (n+3) 12 [Dl cs,It p]=some (y,[Dl cs,It p])/\own1 [Me cs,Db p,none] (.val y)=some (y,[Me cs,Db p,none])/\aL (Mj (n+3)) pC [Me cs,Db p,some y]=some (false,[Me cs,Db p,some y]):=by
 rcases h with rfl|⟨w,Y,q,Q,h⟩
 ·exact⟨_,nN ,rfl,jh rfl⟩
 ·refine⟨_,h n,rfl,dq rfl (ar (aq (ax (ax rfl rfl rfl (aN rfl)) rfl rfl (aN aO)) rfl rfl rfl (show some (decide (w=(lX)))=some false by grind)))⟩
theorem rZ(h:IF cs p):pl.pg.call (n+4) 37 [Dl cs,It p]=some (It p,[Dl cs,It p]):=by obtain⟨y,e,j,t⟩:=past_w h;have o:(Mj (n+3)).call=pl.pg.call (n+3):=rfl;rw[<-o]at e;exact ai rfl rfl (ab (ae (af rfl rfl e rfl) rfl rfl rfl) (ab (pJ (n:=100000) t (by decide)) (ak (ag rfl rfl)))) rfl
theorem A9{y q:Nat} (h:Sx cs p (.tuple [.str lX,.int y]) q) (m:IF cs y):pl.pg.call (n+4) 37 [Dl cs,It p]=some (It y,[Dl cs,It p]):=by obtain⟨z,e,j,t⟩:=past_w m;have c:=h n;have o:(Mj (n+3)).call=pl.pg.call (n+3):=rfl;rw[<-o]at e c;refine ai rfl rfl (ab (ae (af rfl rfl c rfl) rfl rfl rfl) (ab (yb rfl (ab (ae rfl rfl rfl rfl) (ab (ae (af rfl rfl e rfl) rfl rfl rfl) rfl)) (pJ t (by decide))) (ak (ag rfl rfl)))) rfl
abbrev wE(cs:List Int)(p:Nat)(o2 o3 o4 o5:Option OD):DEnv:=[Me cs,Db p,o2,o3,o4,o5]
theorem Fu:pl.pg.call (n+5) 38 [Dl cs,It cs.length]=some (.fz .none,[Dl cs,It cs.length]):=by have e:=nN (n:=n+3) (cs:=cs);have o:(Mj (n+4)).call=pl.pg.call (n+4):=rfl;rw[<-o]at e;exact ai rfl rfl (ab (ae (af rfl rfl e rfl) rfl rfl rfl) (ak (ao (gY rfl) (ak (ag rfl rfl))))) rfl
theorem r6(h:Sx cs p (.tuple (.str w::xs)) q) (O:w≠("pad":Str)) (Z:w≠(hL:Str)) (k:aD (Mj (n+4)) (match F_row_at.body with|.cons _ (.cons _ (.cons _ s))=>s|_=>.nil) (wE cs p (some (sV (.tuple (.str w::xs)) q)) (some (.fz (.tuple (.str w::xs)))) (Db q) none)=some (.rt z,wE cs p (some (sV (.tuple (.str w::xs)) q)) (some (.fz (.tuple (.str w::xs)))) (Db q) o5)):pl.pg.call (n+5) 38 [Dl cs,It p]=some (z,[Dl cs,It p]):=by have e:=h (n+1);have o:(Mj (n+4)).call=pl.pg.call (n+4):=rfl;rw[<-o]at e;have T:∀{v:Str},w≠v->aL (Mj (n+4)) (.cmp .eq edg (.str v)) (wE cs p (some (sV (.tuple (.str w::xs)) q)) none none none)=some (false,wE cs p (some (sV (.tuple (.str w::xs)) q)) none none none):=λ{v} hv=>ar (aq (ax (ax rfl rfl rfl (aN rfl)) rfl rfl (aN aO)) rfl rfl rfl (show some (decide (w=v))=some false by rw[Dab hv]));exact ai rfl rfl (ab (ae (af rfl rfl e rfl) rfl rfl rfl) (ab (s_ifF (bp rfl (bp (T O) (T Z))) rfl) (ab (s_asgQ rfl rfl rfl) k))) rfl
theorem r9:aL C ecj (wE cs p (some (sV (.tuple (.str w::xs)) q)) (some (.fz (.tuple (.str w::xs)))) (Db q) o5)=some (!decide (w=(hR:Str)),wE cs p (some (sV (.tuple (.str w::xs)) q)) (some (.fz (.tuple (.str w::xs)))) (Db q) o5):=ar (aq (ax rfl rfl rfl (aN aO)) rfl rfl rfl rfl)
theorem Fv(h:Sx cs p (.tuple (.str w::xs)) q) (O:w≠("pad":Str)) (Z:w≠(hL:Str)) (M:w≠(hR:Str)):pl.pg.call (n+5) 38 [Dl cs,It p]=some (sV (.tuple (.str w::xs)) q,[Dl cs,It p]):=by have t:=r9 (cs:=cs) (p:=p) (q:=q) (w:=w) (xs:=xs) (C:=Mj (n+4)) (o5:=none);rw[Dab M]at t;exact r6 h O Z (ak (ao t (ak (ag rfl rfl))))
theorem Fw{b i q D:Nat}{ws:List Int} (h:Sx cs p (.tuple [.str hR,.int y,.int b,.int i]) q) (S:1<=b) (P:Sx cs (b-1) (.tuple [.str hL,.tuple (ws.map PyData.int)]) D) (r:ws[i]?=some x):pl.pg.call (n+5) 38 [Dl cs,It p]=some (sV (.tuple [.str ce,.int y,.int x]) q,[Dl cs,It p]):=by have e:=Ft (n:=n) S P r;have o:(Mj (n+4)).call=pl.pg.call (n+4):=rfl;rw[<-o]at e;have t:=r9 (cs:=cs) (p:=p) (q:=q) (w:=hR) (xs:=[.int y,.int b,.int i]) (C:=Mj (n+4)) (o5:=none);rw[Dac rfl]at t;exact r6 h (by decide) (by decide) (ab (s_ifF t rfl) (ab (ae (af rfl rfl e rfl) rfl rfl rfl) (ak (ag (bY rfl rfl) rfl))))
end
def be:R->List Int->List Int
 |.st x k,h=>h.set x.toNat k
 |.ot w xs _,h=>if w=hW then h.set (xs.getD 0 0).toNat ((h.getD (xs.getD 0 0).toNat 0+h.getD (xs.getD 1 0).toNat 0)%100000000) else if w=hY then h.set (xs.getD 0 0).toNat ((h.getD (xs.getD 0 0).toNat 0-h.getD (xs.getD 1 0).toNat 0)%100000000) else h
def dH:R->List Int->List Int->List Int
 |.st _ _,_,t=>t
 |.ot w xs _,h,t=>if w=hM then t++[h.getD (xs.getD 0 0).toNat 0] else t
def yp:R->List Int->Bool
 |.st _ _,_=>false
 |.ot w xs _,h=>decide (w=am)||(decide (w=bi)&&decide (h.getD (xs.getD 0 0).toNat 0=0))
def Dr(r:R)(d:PyData):Prop:=d=r.d\/(r.jm=true/\∃l g,d=rth r l g)
theorem gm{r:R}{h:List Int}:(be r h).length=h.length:=by
 cases r with
 |st x k=>exact abN
 |ot w Y Q=>
  show (if w=_ then _ else if w=_ then _ else h:List Int).length=_
  grind
theorem iz{r:R}{h t:List Int}:(dH r h t).length<=t.length+1:=by
 cases r with
 |st x k=>exact abb _
 |ot w Y Q=>
  show (if w=_ then _ else t:List Int).length<=_;split
  ·rw[aaj];exact aac _
  ·exact abb _
theorem Cb{m:Nat}{x:Int}(P:0<=x)(O:x<m):ixN m x=some x.toNat:=by
 obtain⟨k,rfl⟩:∃k:Nat,x=k:=⟨x.toNat,by lia⟩
 exact lq (by lia)
theorem jL{h:List Int}{x:Int}(P:0<=x)(O:x<h.length):atI (h.map It) x=Db (h.getD x.toNat 0):=atI_get (g:=It) P O
theorem IG{h:List Int}{x:Int}(P:0<=x)(O:x<h.length):atI (h.map PyData.int) x=some (.int (h.getD x.toNat 0)):=atI_get (g:=PyData.int) P O
abbrev cE(d:PyData)(h t:List Int)(w:Str):DEnv:=[some (.fz d),some (Il h),some (Il t),some (.fz (.str w))]
theorem yq{C:Ct}{k e:E}{d:PyData}{h t:List Int}{w:Str}{x v:Int}(P:0<=x)(O:x<h.length)(n:ev C e (cE d h t w)=some (.val (It v),cE d h t w))(hk:ev C k (cE d h t w)=some (.val (It x),cE d h t w)):bF C (.sti 1 k e) (cE d h t w)=some (.nx,cE d (h.set x.toNat v) t w):=by refine jk (ys:=h.map It) (xs:=h.map It) (jj:=x.toNat) n rfl rfl hk rfl rfl (by rw[aae];exact Cb P O) ?_;show [_,some (OD.lst ((h.map It).set x.toNat (It v))),_,_]=_;rw[<-List.map_set]
theorem sd{n:Nat}{r:R}{d:PyData}{h t:List Int}(D:r.ok)(W:Dr r d)(L:h.length=5)(u:t.length<=5000):pl.pg.call (n+1) 33 [.fz d,Il h,Il t]=some (.fz .none,[.fz d,Il (be r h),Il (dH r h t)]):=by
 cases r with
 |st x k=>
  have W:=W.elim id λz=>by cases z.1
  subst W;have O:=D.1;exact bx (fn:=bb) (ρ:=cE _ (h.set x.toNat k) t ce) rfl rfl (ab (ae (ρ3:=cE _ h t ce) rfl rfl rfl rfl) (ab (ao rfl (ab (yq O.1 (by omega) rfl rfl) rfl)) rfl)) rfl
 |ot w xs Q=>
  cases D with
  |sum a b S=>
   have W:=W.elim id λz=>by cases z.1
   subst W;refine bx (fn:=bb) (ρ:=cE _ (h.set a.toNat ((h.getD a.toNat 0+h.getD b.toNat 0)%100000000)) t hW) rfl rfl (ab (ae (ρ3:=cE _ h t hW) rfl rfl rfl rfl) (ab (s_ifF rfl (ab (ao rfl (ab (yq (x:=a) S.1.1 (by omega) (ah (ah (ax (x:=.rf 1) rfl rfl rfl (aW rfl (jL S.1.1 (by omega)))) (ax (x:=.rf 1) rfl rfl rfl (aW rfl (jL S.2.1 (by omega)))) rfl rfl rfl) rfl rfl rfl (bq (j:=100000000) (by decide))) rfl) rfl)) rfl)) rfl)) rfl
  |less a b S=>
   have W:=W.elim id λz=>by cases z.1
   subst W;refine bx (fn:=bb) (ρ:=cE _ (h.set a.toNat ((h.getD a.toNat 0-h.getD b.toNat 0)%100000000)) t hY) rfl rfl (ab (ae (ρ3:=cE _ h t hY) rfl rfl rfl rfl) (ab (s_ifF rfl (ab (s_ifF rfl (ab (ao rfl (ab (yq (x:=a) S.1.1 (by omega) (ah (ah (ax (x:=.rf 1) rfl rfl rfl (aW rfl (jL S.1.1 (by omega)))) (ax (x:=.rf 1) rfl rfl rfl (aW rfl (jL S.2.1 (by omega)))) rfl rfl rfl) rfl rfl rfl (bq (j:=100000000) (by decide))) rfl) rfl)) rfl)) rfl)) rfl)) rfl
  |tell a S=>
   have W:=W.elim id λz=>by cases z.1
   subst W;refine bx (fn:=bb) (ρ:=cE (R.ot hM [a] Q).d h (t++[h.getD a.toNat 0]) hM) rfl rfl (ab (ae (ρ3:=cE _ h t hM) rfl rfl rfl rfl) (ab (s_ifF rfl (ab (s_ifF rfl (ab (s_ifF rfl (ab (ao rfl (ab (bH (xs:=t.map It) (ρ1:=cE _ h t hM) (ρ2:=cE _ h t hM) rfl (ax (x:=.rf 1) rfl rfl rfl (aW rfl (jL S.1 (by omega)))) rfl rfl (by grind) ?_) rfl)) rfl)) rfl)) rfl)) rfl)) rfl
   grind
  |stop=>
   have W:=W.elim id λz=>by cases z.1
   subst W;rfl
  |go a=>
   have p:∀{xs:List PyData},pl.pg.call (n+1) 33 [.fz (.tuple (.str am::xs)),Il h,Il t]=some (.fz .none,[.fz (.tuple (.str am::xs)),Il h,Il t]):=λ{xs}=>bx (fn:=bb) rfl rfl (ab (ae (ρ3:=cE _ h t am) (ax rfl rfl rfl (aN aO)) rfl rfl rfl) (ab (s_ifF rfl (ab (s_ifF rfl (ab (s_ifF rfl (ab (s_ifF rfl rfl) rfl)) rfl)) rfl)) rfl)) rfl;rcases W with rfl|⟨_,l,g,rfl⟩
   ·rfl
   ·rfl
  |nil a b S=>
   have p:∀{xs:List PyData},pl.pg.call (n+1) 33 [.fz (.tuple (.str bi::xs)),Il h,Il t]=some (.fz .none,[.fz (.tuple (.str bi::xs)),Il h,Il t]):=λ{xs}=>bx (fn:=bb) rfl rfl (ab (ae (ρ3:=cE _ h t bi) (ax rfl rfl rfl (aN aO)) rfl rfl rfl) (ab (s_ifF rfl (ab (s_ifF rfl (ab (s_ifF rfl (ab (s_ifF rfl rfl) rfl)) rfl)) rfl)) rfl)) rfl;rcases W with rfl|⟨_,l,g,rfl⟩
   ·rfl
   ·rfl
theorem IH{n:Nat}{r:R}{d:PyData}{h:List Int}(D:r.ok)(W:Dr r d)(L:h.length=5):pl.pg.call (n+1) 34 ([d,.list (h.map PyData.int)].map OD.fz)=some (.fz (.bool (yp r h)),[.fz d,.fz (.list (h.map PyData.int))]):=by
 have O:∀{w:Str}{Y:List PyData},w≠(am:Str)->w≠(bi:Str)->pl.pg.call (n+1) 34 [.fz (.tuple (.str w::Y)),.fz (.list (h.map PyData.int))]=some (.fz (.bool false),[.fz (.tuple (.str w::Y)),.fz (.list (h.map PyData.int))]):=λ{w Y} h1 h2=>ai (fn:=cJ) (ρ:=[some (.fz (.tuple (.str w::Y))),some (.fz (.list (h.map PyData.int)))]) rfl rfl (ak (ag (mY (aq (dx:=.str w) (dy:=.str am) (ax rfl rfl rfl (aN aO)) rfl rfl rfl (show some (decide (w=(am)))=some false by grind)) (lp (aq (dx:=.str w) (dy:=.str bi) (ax rfl rfl rfl (aN aO)) rfl rfl rfl (show some (decide (w=(bi)))=some false by grind)))) rfl)) rfl;cases r with
 |st x k=>
  have W:=W.elim id λz=>by cases z.1
  subst W;rfl
 |ot w Y Q=>
  cases D with
  |sum a b S=>
   obtain rfl:=W.elim id λz=>by cases z.1
   rfl
  |less a b S=>
   obtain rfl:=W.elim id λz=>by cases z.1
   rfl
  |tell a S=>
   obtain rfl:=W.elim id λz=>by cases z.1
   rfl
  |stop=>
   obtain rfl:=W.elim id λz=>by cases z.1
   rfl
  |go a=>
   have p:∀{Y:List PyData},pl.pg.call (n+1) 34 [.fz (.tuple (.str am::Y)),.fz (.list (h.map PyData.int))]=some (.fz (.bool true),[.fz (.tuple (.str am::Y)),.fz (.list (h.map PyData.int))]):=λ{Y}=>ai (fn:=cJ) rfl rfl (ak (ag (BP (aq (dx:=.str am) (dy:=.str am) (ax rfl rfl rfl (aN aO)) rfl rfl rfl rfl)) rfl)) rfl;rcases W with rfl|⟨_,l,g,rfl⟩
   ·rfl
   ·rfl
  |nil a b S=>
   have p:∀{Y:List PyData},pl.pg.call (n+1) 34 [.fz (.tuple (.str bi::.int a::Y)),.fz (.list (h.map PyData.int))]=some (.fz (.bool (decide (h.getD a.toNat 0=0))),[.fz (.tuple (.str bi::.int a::Y)),.fz (.list (h.map PyData.int))]):=λ{Y}=>ai (fn:=cJ) (ρ:=[some (.fz (.tuple (.str bi::.int a::Y))),some (.fz (.list (h.map PyData.int)))]) rfl rfl (ak (ag (mY (aq (dx:=.str bi) (dy:=.str am) (ax rfl rfl rfl (aN aO)) rfl rfl rfl rfl) (ji (aq (dx:=.str bi) (dy:=.str bi) (ax rfl rfl rfl (aN aO)) rfl rfl rfl rfl) (aq (dx:=.int (h.getD a.toNat 0)) (dy:=.int 0) (ax rfl (ax rfl rfl rfl (aN (bZ (k:=1) rfl))) rfl (aR (IG S.1 (by omega)))) rfl rfl rfl rfl))) rfl)) rfl;rcases W with rfl|⟨_,l,g,rfl⟩
   ·exact p
   ·exact p
theorem Fx(h:c ρ=some (true,ρ1))(S:b ρ1=some (.rt x,ρ2)):cv c b (n+1) ρ=some (.rt x,ρ2):=bs h (by rw[if_pos rfl];exact bs S rfl)
def nxA(r:R)(h:List Int)(a:Nat):Nat:=if yp r h=true then r.tg.toNat else a+1
abbrev lQ(rs:List R)(a:Nat):Str:=if a=rs.length then sw else pu
def pr(rs:List R):Nat->List Int->List Int->List Nat->Nat->List Int×Str×List Nat
 |0,_,t,w,a=>(t,lQ rs a,w)
 |m+1,h,t,w,a=>match rs[a]? with
  |none=>(t,lQ rs a,w)
  |some r=>if r.wd=bv then (t,hS,w++[a]) else pr rs m (be r h) (dH r h t) (w++[a]) (nxA r (be r h) a)
abbrev tI(P:Nat->Nat)(w:List Nat):List Int:=w.map λa=>((P a:Nat):Int)
abbrev RT(P:Nat->Nat)(z:List Int×Str×List Nat):OD:=.fz (.tuple [.list (z.1.map PyData.int),.str z.2.1,.list ((tI P z.2.2).map PyData.int)])
theorem Ba:Il (tI P (w++[a]))=.lst ((tI P w).map It++[It (P a)]):=by
 grind
theorem pP(h:ev C (.nm i) ρ=some (.rf i,ρ))(r:ρ[i]?.join=some (Il xs)):ev C (.blt .len (.cons (.nm i) .nil)) ρ=some (.val (It xs.length),ρ):=aJ (aa h aj) (j7 (by show (ρ[i]?.join).bind OD.dat=_;rw[r];exact aA xs)) ilen
theorem bW(h:ρ[j]?.join=some x)(W:x.dat=some d)(D:ρ.set j (some (.fz d))=ρ'):own1 ρ (.rf j)=some (.fz d,ρ'):=by show (frz1 ρ (.rf j)).map _=_;rw[frz_rf h W D];rfl
theorem uy(O:own1 ρ (.rf i)=some (x,ρ1))(Z:own1 ρ1 (.rf j)=some (z,ρ2)):mapR own1 ρ [.rf i,.val y,.rf j]=some ([x,y,z],ρ2):=by
 have J:mapR own1 ρ1 [.rf j]=some ([z],ρ2):=by show (own1 ρ1 (.rf j)).bind _=_;rw[Z];rfl
 have B:mapR own1 ρ1 [.val y,.rf j]=some ([y,z],ρ2):=by show (mapR own1 ρ1 [.rf j]).map _=_;grind
 show (own1 ρ (.rf i)).bind _=_
 grind
abbrev tE(rs:List R)(M:Nat)(h t:List Int)(w:List Nat)(a:Nat)(o6:Option OD):DEnv:=[Go rs,Db M,some (Il h),some (Il t),some (Il (tI id w)),Db a,o6]
abbrev tW:Ss:=match F_told_plainly.body with|.cons _ (.cons _ (.cons _ (.cons _ s)))=>s|_=>.nil
abbrev tB:Ss:=match tW with|.cons (.whl _ b) _=>b|_=>.nil
abbrev tC:E:=.and eb9 eca
theorem uz{r:R}(l:Nb rs)(H:Jb rs.length rs)(D:rs[a]?=some r)(L:h.length=5)(u:t.length<=5000)(Q:w.length<=5000):(r.wd=bv->∃p,aD (Mj (n+2)) tB (tE rs M h t w a o6)=some (.rt (RT id (t,hS,w++[a])),p))/\(r.wd≠bv->aD (Mj (n+2)) tB (tE rs M h t w a o6)=some (.nx,tE rs M (be r h) (dH r h t) (w++[a]) (nxA r (be r h) a) (Fa r))):=by
 have T:=aax D;have f:bF (Mj (n+2)) ed4 (tE rs M h t w a o6)=some (.nx,tE rs M h t w a (Fa r)):=ae (ax rfl rfl rfl (aR (dO D))) rfl rfl rfl;have Z:bF (Mj (n+2)) (.app 4 (.nm 5)) (tE rs M h t w a (Fa r))=some (.nx,tE rs M h t (w++[a]) a (Fa r)):=by
  refine bH rfl rfl rfl rfl (by grind) ?_
  grind
 have F:aL (Mj (n+2)) KO (tE rs M h t (w++[a]) a (Fa r))=some (decide (r.wd=bv),tE rs M h t (w++[a]) a (Fa r)):=ar (AR rfl rfl);refine⟨λg=>?_,λg=>?_⟩
 ·rw[Dac g]at F;exact⟨_,ab f (ab Z (ak (ao F (ak (ag (bh (aa rfl (aa rfl (aa rfl aj))) rfl (uy (bW rfl (aA t) rfl) (bW rfl (aA _) rfl)) rfl) rfl)))))⟩
 ·rw[Dab g]at F;have C:=sd (n:=n+1) (l r T) (.inl rfl) L u;have J:=IH (n:=n+1) (h:=be r h) (l r T) (.inl rfl) (by rw[gm];lia);have o:(Mj (n+2)).call=pl.pg.call (n+2):=rfl;rw[<-o]at C J;have c:bF (Mj (n+2)) ebe (tE rs M h t (w++[a]) a (Fa r))=some (.nx,tE rs M (be r h) (dH r h t) (w++[a]) a (Fa r)):=mZ (af rfl rfl C rfl);have b:aL (Mj (n+2)) Lu (tE rs M (be r h) (dH r h t) (w++[a]) a (Fa r))=some (yp r (be r h),tE rs M (be r h) (dH r h t) (w++[a]) a (Fa r)):=qX (qW rfl (wz rfl (aA _)) J rfl);have i:bF (Mj (n+2)) eap (tE rs M (be r h) (dH r h t) (w++[a]) a (Fa r))=some (.nx,tE rs M (be r h) (dH r h t) (w++[a]) (nxA r (be r h) a) (Fa r)):=by
   unfold nxA;cases W:yp r (be r h) with
   |true=>
    rw[W]at b;have B:r.jm=true:=by
     cases r with
     |st x k=>cases W
     |ot v Y z=>
      have W:(decide (v=am)||(decide (v=bi)&&_))=true:=W;show (decide (v=am)||decide (v=bi))=true
      grind
    have N:=H r T B;have q:((r.tg.toNat:Nat):Int)=r.tg:=by lia
    rw[if_pos rfl];refine ae (cI b (xV rfl (H r T) B)) rfl rfl ?_;show [_,_,_,_,_,Db r.tg,_]=[_,_,_,_,_,Db ((r.tg.toNat:Nat):Int),_];rw[q]
   |false=>rw[W]at b;rw[if_neg aaq];exact ae (bY b rfl) rfl rfl rfl
  exact ab f (ab Z (ab (s_ifF F rfl) (ab c (ab i rfl))))
theorem pQ(H:Jb rs.length rs)(D:rs[a]?=some r):nxA r h a<=rs.length:=by
 have j:=(aah.mp D).1;unfold nxA;split
 ·rename_i W;have B:r.jm=true:=by
   cases r with
   |st x k=>cases W
   |ot v Y o=>
    have W:(decide (v=am)||(decide (v=bi)&&_))=true:=W;show (decide (v=am)||decide (v=bi))=true
    grind
  grind
 ·lia
theorem uA(l:Nb rs)(H:Jb rs.length rs)(I:M<=2000):∀{m:Nat}{h t:List Int}{w:List Nat}{a fuel:Nat}{o6:Option OD},h.length=5->a<=rs.length->w.length+m=M->t.length<=w.length->m<fuel->∃p,(∃ρ1 x,cv (aL (Mj (n+2)) tC) (aD (Mj (n+2)) tB) fuel (tE rs M h t w a o6)=some x/\(match x.1 with|.nx=>aD (Mj (n+2)) (match tW with|.cons _ s=>s|_=>.nil) x.2|fl=>some (fl,x.2))=some (.rt (RT id (pr rs m h t w a)),p)/\ρ1=x.2):=by
 have i:∀{h t:List Int}{w:List Nat}{a:Nat}{o6:Option OD},aL (Mj (n+2)) eb9 (tE rs M h t w a o6)=some (decide ((a:Int)<(rs.length:Int)),tE rs M h t w a o6):=fA rfl (aJ rfl rfl blen);have N:∀{h t:List Int}{w:List Nat}{a:Nat}{o6:Option OD},aL (Mj (n+2)) eca (tE rs M h t w a o6)=some (decide (((tI id w).length:Int)<(M:Int)),tE rs M h t w a o6):=fA (pP rfl rfl) rfl;have v:∀{h t:List Int}{w:List Nat}{a fuel:Nat}{o6:Option OD},(a=rs.length\/w.length=M)->0<fuel->∃p,(∃ρ1 x,cv (aL (Mj (n+2)) tC) (aD (Mj (n+2)) tB) fuel (tE rs M h t w a o6)=some x/\(match x.1 with|.nx=>aD (Mj (n+2)) (match tW with|.cons _ s=>s|_=>.nil) x.2|fl=>some (fl,x.2))=some (.rt (RT id (t,lQ rs a,w)),p)/\ρ1=x.2):=by
  intro h t w a fuel o6 U y;have T:aL (Mj (n+2)) tC (tE rs M h t w a o6)=some (false,tE rs M h t w a o6):=by
   by_cases j:(a:Int)<(rs.length:Int)
   ·exact dq (rT i j) (rF N (by grind))
   ·exact jh (rF i j)
  have o:ev (Mj (n+2)) KP (tE rs M h t w a o6)=some (.val (.fz (.str (lQ rs a))),tE rs M h t w a o6):=by
   have X:aL (Mj (n+2)) ecb (tE rs M h t w a o6)=some (decide ((a:Int)=(rs.length:Int)),tE rs M h t w a o6):=dP rfl (aJ rfl rfl blen);by_cases j:a=rs.length
   ·rw[show lQ rs a=sw from if_pos j];exact cI (rT X (by lia)) rfl
   ·rw[show lQ rs a=pu from if_neg j];exact bY (rF X (by lia)) rfl
  exact⟨_,_,_,pJ T y,ak (ag (bh (aa rfl (aa o (aa rfl aj))) rfl (uy (bW rfl (aA t) rfl) (bW rfl (aA _) rfl)) rfl) rfl),rfl⟩
 intro m;induction m with
 |zero=>intro h t w a fuel o6 L j Q u y;exact v (.inr (by lia)) y
 |succ m Y=>
  intro h t w a fuel o6 L j Q u y;cases D:rs[a]? with
  |none=>
   have:rs.length<=a:=acr.mp D;have e:pr rs (m+1) h t w a=(t,lQ rs a,w):=by rw[pr,D]
   rw[e];exact v (.inl (by lia)) (by lia)
  |some r=>
   have C:=(aah.mp D).1;have T:aL (Mj (n+2)) tC (tE rs M h t w a o6)=some (true,tE rs M h t w a o6):=dq (rT i (by lia)) (rT N (by rw[aae];lia));obtain⟨z,A⟩:=uz l H D L (t:=t) (by lia) (w:=w) (by lia);obtain⟨fuel,rfl⟩:∃f,fuel=f+1:=⟨fuel-1,by lia⟩
   by_cases g:r.wd=bv
   ·obtain⟨p,k⟩:=z g;have e:pr rs (m+1) h t w a=(t,(hS:Str),w++[a]):=by rw[pr,D];exact if_pos g
    rw[e];exact⟨p,_,_,Fx T k,rfl,rfl⟩
   ·have e:pr rs (m+1) h t w a=pr rs m (be r h) (dH r h t) (w++[a]) (nxA r (be r h) a):=by rw[pr,D];exact if_neg g
    rw[e];have d:=iz (r:=r) (h:=h) (t:=t);obtain⟨p,ρ1,x,J,B,c⟩:=Y (h:=be r h) (t:=dH r h t) (w:=w++[a]) (fuel:=fuel) (by rw[gm];exact L) (pQ H D) (by rw[aaj,aaL];lia) (by rw[aaj,aaL];lia) (by lia);exact⟨p,ρ1,x,yb T (A g) J,B,c⟩
abbrev h5:List Int:=[0,0,0,0,0]
theorem Fy{n M:Nat}(l:Nb rs)(H:Jb rs.length rs)(I:M<=2000):pl.pg.call (n+3) 35 [Rl rs,It M]=some (RT id (pr rs M h5 [] [] 0),[Rl rs,It M]):=by obtain⟨p,A,x,J,B,_⟩:=uA l H I (h:=h5) (t:=[]) (w:=[]) (fuel:=100000) rfl (aaB _) (aaQ _) (aac _) (by omega);refine ai (ρ:=p) rfl rfl ?_ rfl;refine ab (ae rfl rfl rfl rfl) (ab (ae rfl rfl rfl rfl) (ab (ae rfl rfl rfl rfl) (ab (ae rfl rfl rfl rfl) ?_)));exact bs (J) B
structure Mrow (cs:List Int)(P:Nat->Nat)(a:Nat)(r:R)(d:PyData)(q:Nat):Prop where
 dr:Dr r d
 lt:P a<cs.length
 jm:r.jm=true->∃ys l,d=.tuple (ys++[.int (P r.tg.toNat),.bool l])
 at':∀n,pl.pg.call (n+5) 38 [Dl cs,It (P a)]=some (sV d q,[Dl cs,It (P a)])
 nx:r.wd≠am->r.wd≠bv->∀n,pl.pg.call (n+4) 37 [Dl cs,It q]=some (It (P (a+1)),[Dl cs,It q])
structure Mh (cs:List Int)(rs:List R)(P:Nat->Nat):Prop where
 row:∀a r,rs[a]?=some r->∃d q,Mrow cs P a r d q
 fin:P rs.length=cs.length
 nov:∀a,a<=rs.length->∀n,pl.pg.call (n+4) 37 [Dl cs,It (P a)]=some (It (P a),[Dl cs,It (P a)])
 beg:∀n,pl.pg.call (n+4) 37 [Dl cs,It 0]=some (It (P 0),[Dl cs,It 0])
theorem Dr.nm{r:R}{d:PyData}(h:Dr r d):∃xs,d=.tuple (.str r.wd::xs):=by
 rcases h with rfl|⟨W,l,g,rfl⟩
 ·exact⟨_,R.d_is r⟩
 ·cases r with
  |st x k=>cases W
  |ot w xs Q=>
   show ∃j,(if w=_ then _ else if w=_ then _ else _)=PyData.tuple (.str w::j);by_cases O:w=am
   ·rw[if_pos O,O];exact⟨_,rfl⟩
   ·rw[if_neg O];by_cases Z:w=bi
    ·rw[if_pos Z,Z];exact⟨_,rfl⟩
    ·rw[if_neg Z];exact⟨_,rfl⟩
theorem jn_jm{r:R}{h:List Int}(W:yp r h=true):r.jm=true:=by
 cases r with
 |st x k=>cases W
 |ot v Y o=>
  have W:(decide (v=am)||(decide (v=bi)&&_))=true:=W;show (decide (v=am)||decide (v=bi))=true
  grind
theorem II{r:R}{h:List Int}(W:yp r h=false):r.wd≠am:=by
 cases r with
 |st x k=>exact(by decide:(ce:Str)≠am)
 |ot v Y o=>
  have W:(decide (v=am)||(decide (v=bi)&&_))=false:=W;exact λz=>by
   have z:v=am:=z
   grind
theorem uD{Y:Type}{xs:List Y}{x y:Y}:atI (xs++[x,y]) (-2)=some x:=by
 have e:ixN (xs++[x,y]).length (-2)=some xs.length:=by
  unfold ixN
  grind
 exact bs e (by simp)
section
variable{n M:Nat}{cs:List Int}{rs:List R}{P:Nat->Nat}
def KU(cs:List Int)(rs:List R)(P:Nat->Nat)(a:Nat)(fo:OD):Prop:=(a=rs.length/\fo=.fz .none)\/∃r d q,rs[a]?=some r/\Mrow cs P a r d q/\fo=sV d q
theorem Mh.fnd(m:Mh cs rs P){a:Nat}(j:a<=rs.length):∃O,KU cs rs P a O/\∀n,pl.pg.call (n+5) 38 [Dl cs,It (P a)]=some (O,[Dl cs,It (P a)]):=by
 cases D:rs[a]? with
 |none=>
  have:a=rs.length:=by grind
  subst this;exact⟨_,.inl ⟨rfl,rfl⟩,λn=>by rw[m.fin];exact Fu⟩
 |some r=>obtain⟨d,q,k⟩:=m.row a r D;exact⟨_,.inr ⟨r,d,q,D,k,rfl⟩,k.at'⟩
abbrev uE(cs:List Int)(P:Nat->Nat)(M:Nat)(h t:List Int)(w:List Nat)(a:Nat)(fo:OD)(o7 o8:Option OD):DEnv:=[Me cs,Db M,some (Il h),some (Il t),some (Il (tI P w)),Db (P a),some fo,o7,o8]
abbrev uW:Ss:=match F_run.body with|.cons _ (.cons _ (.cons _ (.cons _ (.cons _ s))))=>s|_=>.nil
abbrev uB:Ss:=match uW with|.cons (.whl _ b) _=>b|_=>.nil
abbrev uC:E:=.and (.isn true (.nm 6)) eca
theorem yr{h t:List Int}{w:List Nat}{a:Nat}{r:R}{d:PyData}{q:Nat}{o7 o8:Option OD}(m:Mh cs rs P)(v:Nb rs)(H:Jb rs.length rs)(D:rs[a]?=some r)(k:Mrow cs P a r d q)(L:h.length=5)(u:t.length<=5000)(Q:w.length<=5000):(r.wd=bv->∃p,aD (Mj (n+5)) uB (uE cs P M h t w a (sV d q) o7 o8)=some (.rt (RT P (t,hS,w++[a])),p))/\(r.wd≠bv->∀O,(∀n,pl.pg.call (n+5) 38 [Dl cs,It (P (nxA r (be r h) a))]=some (O,[Dl cs,It (P (nxA r (be r h) a))]))->own1 (uE cs P M (be r h) (dH r h t) (w++[a]) (nxA r (be r h) a) (sV d q) (some (.fz d)) (Db q)) (.val O)=some (O,uE cs P M (be r h) (dH r h t) (w++[a]) (nxA r (be r h) a) (sV d q) (some (.fz d)) (Db q))->aD (Mj (n+5)) uB (uE cs P M h t w a (sV d q) o7 o8)=some (.nx,uE cs P M (be r h) (dH r h t) (w++[a]) (nxA r (be r h) a) O (some (.fz d)) (Db q))):=by
 have T:=aax D;obtain⟨xs,A⟩:=k.dr.nm;have f:bF (Mj (n+5)) eei (uE cs P M h t w a (sV d q) o7 o8)=some (.nx,uE cs P M h t w a (sV d q) (some (.fz d)) (Db q)):=s_asgQ rfl rfl rfl;have Z:bF (Mj (n+5)) (.app 4 (.nm 5)) (uE cs P M h t w a (sV d q) (some (.fz d)) (Db q))=some (.nx,uE cs P M h t (w++[a]) a (sV d q) (some (.fz d)) (Db q)):=by refine bH (xs:=(tI P w).map It) (ρ1:=uE cs P M h t w a (sV d q) (some (.fz d)) (Db q)) (ρ2:=uE cs P M h t w a (sV d q) (some (.fz d)) (Db q)) rfl rfl rfl rfl (by rw[aae,aae];omega) ?_;show _=[_,_,_,_,some (Il (tI P (w++[a]))),_,_,_,_];rw[Ba];rfl
 have F:aL (Mj (n+5)) ecr (uE cs P M h t (w++[a]) a (sV d q) (some (.fz d)) (Db q))=some (decide (r.wd=bv),uE cs P M h t (w++[a]) a (sV d q) (some (.fz d)) (Db q)):=ar (aq (dx:=.str r.wd) (dy:=.str bv) (ax (x:=.val (.fz d)) rfl rfl rfl (by rw[A];exact aN aO)) rfl rfl rfl rfl);refine⟨λg=>?_,λg O y j=>?_⟩
 ·rw[Dac g]at F;exact⟨_,ab f (ab Z (ak (ao F (ak (ag (z:=RT P (t,hS,w++[a])) (bh (zs:=[.fz (.list (t.map PyData.int)),.fz (.str hS),.fz (.list ((tI P (w++[a])).map PyData.int))]) (ρ2:=[Me cs,Db M,some (Il h),some (.fz (.list (t.map PyData.int))),some (.fz (.list ((tI P (w++[a])).map PyData.int))),Db (P a),some (sV d q),some (.fz d),Db q]) (aa (x:=.rf 3) rfl (aa rfl (aa (x:=.rf 4) rfl aj))) rfl (uy (bW rfl (aA t) rfl) (bW rfl (aA _) rfl)) rfl) rfl)))))⟩
 ·rw[Dab g]at F;have C:=sd (n:=n+4) (v r T) k.dr L u;have J:=IH (n:=n+4) (h:=be r h) (v r T) k.dr (by rw[gm];exact L);have S:=y n;have o:(Mj (n+5)).call=pl.pg.call (n+5):=rfl;rw[<-o]at C J S;have c:bF (Mj (n+5)) ebf (uE cs P M h t (w++[a]) a (sV d q) (some (.fz d)) (Db q))=some (.nx,uE cs P M (be r h) (dH r h t) (w++[a]) a (sV d q) (some (.fz d)) (Db q)):=mZ (af (rs:=[.val (.fz d),.rf 2,.rf 3]) (ρ3:=uE cs P M (be r h) (dH r h t) (w++[a]) a (sV d q) (some (.fz d)) (Db q)) rfl rfl C rfl);have b:aL (Mj (n+5)) Ls (uE cs P M (be r h) (dH r h t) (w++[a]) a (sV d q) (some (.fz d)) (Db q))=some (yp r (be r h),uE cs P M (be r h) (dH r h t) (w++[a]) a (sV d q) (some (.fz d)) (Db q)):=qX (qW (rs:=[.val (.fz d),.rf 2]) rfl (wz rfl (aA _)) J rfl);have i:bF (Mj (n+5)) eaj (uE cs P M (be r h) (dH r h t) (w++[a]) a (sV d q) (some (.fz d)) (Db q))=some (.nx,uE cs P M (be r h) (dH r h t) (w++[a]) (nxA r (be r h) a) (sV d q) (some (.fz d)) (Db q)):=by
   unfold nxA;cases W:yp r (be r h) with
   |true=>rw[W]at b;have B:=jn_jm W;have N:=H r T B;obtain⟨s,l,Y⟩:=k.jm B;have e:=m.nov r.tg.toNat (by omega) (n+1);rw[show n+1+4=n+5 from rfl,<-o]at e;rw[if_pos rfl];exact ae (af (ρ1:=uE cs P M (be r h) (dH r h t) (w++[a]) a (sV d q) (some (.fz d)) (Db q)) (rs:=[.val (Dl cs),.val (It (P r.tg.toNat))]) (ρ3:=uE cs P M (be r h) (dH r h t) (w++[a]) a (sV d q) (some (.fz d)) (Db q)) (aa rfl (aa (cI b (ax (x:=.val (.fz d)) rfl rfl rfl (by rw[Y];exact aN uD))) aj)) rfl e rfl) rfl rfl rfl
   |false=>rw[W]at b;have e:=k.nx (II W) g (n+1);rw[show n+1+4=n+5 from rfl,<-o]at e;rw[if_neg aaq];exact ae (af (ρ1:=uE cs P M (be r h) (dH r h t) (w++[a]) a (sV d q) (some (.fz d)) (Db q)) (rs:=[.val (Dl cs),.val (It q)]) (ρ3:=uE cs P M (be r h) (dH r h t) (w++[a]) a (sV d q) (some (.fz d)) (Db q)) (aa rfl (aa (bY b rfl) aj)) rfl e rfl) rfl rfl rfl
  have I:bF (Mj (n+5)) ebt (uE cs P M (be r h) (dH r h t) (w++[a]) (nxA r (be r h) a) (sV d q) (some (.fz d)) (Db q))=some (.nx,uE cs P M (be r h) (dH r h t) (w++[a]) (nxA r (be r h) a) O (some (.fz d)) (Db q)):=ae (af (ρ3:=uE cs P M (be r h) (dH r h t) (w++[a]) (nxA r (be r h) a) (sV d q) (some (.fz d)) (Db q)) rfl rfl S rfl) j rfl rfl;exact ab f (ab Z (ab (s_ifF F rfl) (ab c (ab i (ab I rfl)))))
end
section
variable{n M:Nat}{cs:List Int}{rs:List R}{P:Nat->Nat}
theorem yt(K:Mh cs rs P)(l:Nb rs)(H:Jb rs.length rs)(I:M<=2000):∀{m:Nat}{h t:List Int}{w:List Nat}{a fuel:Nat}{O:OD}{o7 o8:Option OD},KU cs rs P a O->h.length=5->a<=rs.length->w.length+m=M->t.length<=w.length->m<fuel->∃p,(∃x,cv (aL (Mj (n+5)) uC) (aD (Mj (n+5)) uB) fuel (uE cs P M h t w a O o7 o8)=some x/\(match x.1 with|.nx=>aD (Mj (n+5)) (match uW with|.cons _ s=>s|_=>.nil) x.2|fl=>some (fl,x.2))=some (.rt (RT P (pr rs m h t w a)),p)):=by
 have N:∀{h t:List Int}{w:List Nat}{a:Nat}{O:OD}{o7 o8:Option OD},aL (Mj (n+5)) eca (uE cs P M h t w a O o7 o8)=some (decide (((tI P w).length:Int)<(M:Int)),uE cs P M h t w a O o7 o8):=fA (pP rfl rfl) rfl;have v:∀{h t:List Int}{w:List Nat}{a fuel:Nat}{O:OD}{o7 o8:Option OD},KU cs rs P a O->(a=rs.length\/w.length=M)->0<fuel->∃p,(∃x,cv (aL (Mj (n+5)) uC) (aD (Mj (n+5)) uB) fuel (uE cs P M h t w a O o7 o8)=some x/\(match x.1 with|.nx=>aD (Mj (n+5)) (match uW with|.cons _ s=>s|_=>.nil) x.2|fl=>some (fl,x.2))=some (.rt (RT P (t,lQ rs a,w)),p)):=by
  intro h t w a fuel O o7 o8 Z U y;have X:aL (Mj (n+5)) ecb (uE cs P M h t w a O o7 o8)=some (decide ((P a:Int)=(cs.length:Int)),uE cs P M h t w a O o7 o8):=dP rfl (aJ rfl rfl blen);have S:∀{e:E}{z:Str},ev (Mj (n+5)) e (uE cs P M h t w a O o7 o8)=some (.val (.fz (.str z)),uE cs P M h t w a O o7 o8)->bF (Mj (n+5)) (.ret (.tup (.cons (.nm 3) (.cons e efa)))) (uE cs P M h t w a O o7 o8)=some (.rt (RT P (t,z,w)),[Me cs,Db M,some (Il h),some (.fz (.list (t.map PyData.int))),some (.fz (.list ((tI P w).map PyData.int))),Db (P a),some O,o7,o8]):=λ{e z} he=>ag (bh (aa rfl (aa he (aa rfl aj))) rfl (uy (bW rfl (aA t) rfl) (bW rfl (aA _) rfl)) rfl) rfl;rcases Z with ⟨rfl,rfl⟩|⟨r,d,q,D,k,rfl⟩
  ·rw[show lQ rs rs.length=sw from if_pos rfl];exact⟨_,_,pJ (jh rfl) y,ak (ao (rT X (by rw[K.fin])) (ak (S rfl)))⟩
  ·have C:=(aah.mp D).1;have i:=k.lt;rw[show lQ rs a=pu from if_neg (by lia)];exact⟨_,_,pJ (dq rfl (rF N (by rw[aae];lia))) y,ab (s_ifF (rF X (by lia)) rfl) (ak (S (bY rfl rfl)))⟩
 intro m;induction m with
 |zero=>intro h t w a fuel O o7 o8 Z L j Q u y;exact v Z (.inr (by lia)) y
 |succ m Y=>
  intro h t w a fuel O o7 o8 Z L j Q u y;rcases id Z with ⟨A,_⟩|⟨r,d,q,D,k,rfl⟩
  ·have e:pr rs (m+1) h t w a=(t,lQ rs a,w):=by rw[pr,ab4 (by lia)]
   rw[e];exact v Z (.inl A) (by lia)
  ·have T:aL (Mj (n+5)) uC (uE cs P M h t w a (sV d q) o7 o8)=some (true,uE cs P M h t w a (sV d q) o7 o8):=dq rfl (rT N (by rw[aae];lia));obtain⟨k1,o⟩:=yr K l H D k L (t:=t) (by lia) (w:=w) (by lia);obtain⟨fuel,rfl⟩:∃f,fuel=f+1:=⟨fuel-1,by lia⟩
   by_cases g:r.wd=bv
   ·obtain⟨p,k⟩:=k1 g;have e:pr rs (m+1) h t w a=(t,(hS:Str),w++[a]):=by rw[pr,D];exact if_pos g
    rw[e];exact⟨p,_,Fx T k,rfl⟩
   ·have e:pr rs (m+1) h t w a=pr rs m (be r h) (dH r h t) (w++[a]) (nxA r (be r h) a):=by rw[pr,D];exact if_neg g
    rw[e];have a0:=iz (r:=r) (h:=h) (t:=t);have F:=pQ (h:=be r h) H D;obtain⟨b,c,W⟩:=K.fnd F;obtain⟨p,x,J,B⟩:=Y (h:=be r h) (t:=dH r h t) (w:=w++[a]) (fuel:=fuel) c (by rw[gm];exact L) F (by rw[aaj,aaL];lia) (by rw[aaj,aaL];lia) (by lia);exact⟨p,x,yb T (o g b W rfl) J,B⟩
theorem IJ(K:Mh cs rs P)(l:Nb rs)(H:Jb rs.length rs)(I:M<=2000):pl.pg.call (n+6) 39 [Dl cs,It M]=some (RT P (pr rs M h5 [] [] 0),[Dl cs,It M]):=by obtain⟨O,r,W⟩:=K.fnd (aaB _);obtain⟨p,x,J,B⟩:=yt K l H I (h:=h5) (t:=[]) (w:=[]) (fuel:=100000) r rfl (aaB _) (aaQ _) (aac _) (by omega);have e:=K.beg (n+1);have S:=W n;have o:(Mj (n+5)).call=pl.pg.call (n+5):=rfl;rw[show n+1+4=n+5 from rfl,<-o]at e;rw[<-o]at S;refine ai (ρ:=p) rfl rfl ?_ rfl;refine ab (ae rfl rfl rfl rfl) (ab (ae rfl rfl rfl rfl) (ab (ae rfl rfl rfl rfl) (ab (ae (af rfl rfl e rfl) rfl rfl rfl) (ab (ae (af rfl rfl S rfl) rfl rfl rfl) ?_))));exact bs (J) B
end
theorem pR(hk:k<f.rows.length):(fin f qs).ps[k]?=some (inner f qs k (mac f qs k)).pl:=by
 obtain⟨m,Y⟩:∃m,f.rows.length=k+1+m:=⟨f.rows.length-(k+1),by omega⟩
 have J:(fin f qs).ps[k]?=(mac f qs (k+1)).ps[k]?:=by show (inner f qs f.rows.length (mac f qs f.rows.length)).ps[k]?=_;rw[bT,Y];exact mac_pre (aba k)
 rw[J];show ((inner f qs k (mac f qs k)).ps++[(inner f qs k (mac f qs k)).pl])[k]?=_;have t:(inner f qs k (mac f qs k)).ps.length=k:=by rw[bT,eY]
 rw[aa5 (by omega),t,abA];rfl
theorem lR:∀{qs:Pz}{L:List Int},∃T,dQ f k qs L=L++T
 |[],L=>⟨[],(aap _).symm⟩
 |q::qs,L=>by
  show ∃T,dQ f k qs (if q.1=(k:Int) then L++poolC f.rows k q.2 L.length else L)=L++T;split
  ·obtain⟨T,e⟩:=lR;exact⟨_,by rw[e,aab]⟩
  ·exact lR
section
variable{f:Cf}{qs:Pz}{us:List Int}
abbrev Pp(f:Cf)(qs:Pz)(us:List Int)(k:Nat):Nat:=(dQ f k qs (CC f qs us k)).length
theorem lS:∀{m k:Nat},k+m=f.rows.length->(∃T,AC f qs us=dQ f k qs (CC f qs us k)++T)/\(∃T,AC f qs us=CC f qs us k++T)
 |0,k,h=>by have h:k=f.rows.length:=h;subst h;exact⟨⟨[],(aap _).symm⟩,lR⟩
 |m+1,k,h=>by
  obtain⟨_,T,e⟩:=lS (m:=m) (k:=k+1) (by lia);have B:∃T,AC f qs us=dQ f k qs (CC f qs us k)++T:=⟨_,by rw[e];exact aab _ _ _⟩
  obtain⟨t,J⟩:=B;obtain⟨A,s⟩:=lR;exact⟨⟨t,J⟩,_,by rw[J,s,aab]⟩
theorem yu(F:Fok f)(hk:k<=f.rows.length):((Pp f qs us k:Nat):Int)=(inner f qs k (mac f qs k)).pl:=pL (pM F hk)
theorem FA(F:Fok f){t:Int}(P:0<=t)(O:t<=f.rows.length):eM (fin f qs) t=((Pp f qs us t.toNat:Nat):Int):=by
 rw[yu F (by lia)];unfold eM;rw[aaX];by_cases h:t.toNat<f.rows.length
 ·rw[aa8 (by rw[gk];exact h),pR h];rfl
 ·have e:t.toNat=f.rows.length:=by lia
  rw[e,aa5 (by rw[gk];simp),gk,abA];rfl
theorem FB{k:Nat}(F:Fok f)(h:tsF f qs 499=[])(D:f.rows[k]?=some r)(W:r.jm=true)(hk:(k:Int) ∉ f.longs):-(farN r 499)<=eM (fin f qs) r.tg-((Pp f qs us k:Nat):Int)/\eM (fin f qs) r.tg-((Pp f qs us k:Nat):Int)<=farN r 499:=by
 have t:=(aah.mp D).1;have O:=ab5.mp h (k:Int) (aaV.mpr ⟨yh D W,by rw[Dab hk];rfl⟩);have e:tq f (fin f qs) 499 (k:Int)=decide (farN r 499<if xU (fin f qs) r k<0 then -(xU (fin f qs) r k) else xU (fin f qs) r k):=by unfold tq;rw[aaN,D];rfl
 rw[e,decide_eq_true_eq]at O;have B:xU (fin f qs) r k=eM (fin f qs) r.tg-((Pp f qs us k:Nat):Int):=by unfold xU;rw[yu F (aaM t),aaX (l:=(fin f qs).ps),pR t];rfl
 rw[B]at O;split at O<;>omega
theorem nO(F:Fok f)(Q:Qok f qs)(U:Uok f qs us)(t:(AC f qs us).length<=900000)(D:f.rows[k]?=some (.st x y))(N:99<y):∃(b i q:Nat) (w:List Int),gdat f qs us k (.st x y)=.tuple [.int b,.int i]/\1<=b/\i<=99/\w[i]?=some y/\Sx (AC f qs us) (b-1) (.tuple [.str hL,.tuple (w.map PyData.int)]) q:=by
 have z:(R.st x y).gr=true:=Dac N;have o:=gIx_at D z;have T:lO f k<us.length:=by rw[U.ln];grind
 obtain⟨u,a⟩:∃u,us[lO f k]?=some u:=⟨_,aam T⟩
 have d:((k:Int),u)∈(gIx 0 f.rows).zip us:=aax (by rw[abt];exact⟨o,a⟩);have S:=U.bd u (aax a);have Y:=Daa (U.mm _ d);obtain⟨⟨P,w⟩,A⟩:∃q,qs[u.toNat]?=some q:=⟨_,aam (by lia)⟩
 have J:=aax A;have l:AY f (k:Int)=y:=by show ((f.rows[(k:Int).toNat]?).map R.num).getD 0=_;rw[aaN,D];rfl
 have Y:y∈w:=by
  grind
 obtain⟨j,W⟩:∃j:Nat,P=j:=⟨P.toNat,by have:=(Q.ok _ J).g0;grind⟩
 subst W;have n:j<=f.rows.length:=by have:=(Q.ok _ J).g1;grind
 have X:qs=qs.take u.toNat++((j:Int),w)::qs.drop (u.toNat+1):=by obtain⟨v,e⟩:=aah.mp A;rw[<-e,List.getElem_cons_drop v,acp]
 have p:(qs.take u.toNat).length=u.toNat:=by grind
 have C:(mac f qs j).pl=((CC f qs us j).length:Int):=(pM F n).symm;obtain⟨i,r⟩:∃i,w.findIdx? (λm=>decide (m=y))=some i:=by
  cases e:w.findIdx? λm=>decide (m=y) with
  |some i=>exact⟨i,rfl⟩
  |none=>exact absurd (Dac rfl) (by have:=acg.mp e y Y;rw[this];decide)
 obtain⟨h,M,_⟩:=acf.mp r;have L:w[i]?=some y:=by rw[aam h,Daa M]
 have Z:w.length<=100:=(Q.ok _ J).l1;have c:=(lS (f:=f) (qs:=qs) (us:=us) (m:=f.rows.length-j) (k:=j) (by lia)).1;have s:=Iy (λq A=>(Q.ok q (acm A)).g0) n (X▸Q.inc);rw[p,<-X,C]at s;obtain⟨b,⟨I,_⟩,B,O,_⟩:=rY (X▸Q) t (by rw[<-X];exact c);refine⟨b,i,_,w,?_,B,by lia,L,O⟩;have e:gdat f qs us k (.st x y)=ko f qs (k,us.getD (lO f k) 0):=if_pos z;rw[e,aaX,a];show PyData.tuple [.int ((fin f qs).bs.getD u.toNat 0),.int (FP qs u (AY f k))]=_;have H:FP qs u (AY f k)=(i:Int):=by unfold FP;rw[A,l];show (((w.findIdx? λm=>decide (m=y)).getD 0:Nat):Int)=_;rw[r];rfl
 rw[s,H,I]
end
section
variable{f:Cf}{qs:Pz}{us:List Int}
theorem rth_nm(D:r.ok)(N:r.gr=false):∃xs,rth r lg g=.tuple (.str r.wd::xs)/\r.wd≠"pad"/\r.wd≠hL/\r.wd≠hR/\r.wd≠lX:=by
 cases r with
 |st x k=>have h:=Dad N;show ∃j,rth (R.st x k) lg g=.tuple (.str ce::j)/\(ce:Str)≠"pad"/\(ce:Str)≠hL/\(ce:Str)≠hR/\(ce:Str)≠lX;exact⟨[.int x,.int k],if_neg h,by decide,by decide,by decide,by decide⟩
 |ot w xs Q=>show ∃j,rth (R.ot w xs Q) lg g=.tuple (.str w::j)/\w≠"pad"/\w≠hL/\w≠hR/\w≠lX;cases D<;>exact⟨_,rfl,by decide,by decide,by decide,by decide⟩
theorem row_sx(F:Fok f)(Q:Qok f qs)(U:Uok f qs us)(t:(AC f qs us).length<=900000)(u:tsF f qs 499=[])(D:f.rows[k]?=some r):Sx (AC f qs us) (Pp f qs us k) (rth r (decide ((k:Int)∈f.longs)) (gdat f qs us k r)) (CC f qs us (k+1)).length/\Pp f qs us k<(AC f qs us).length:=by
 have P:k<f.rows.length:=(aah.mp D).1;have A:=F.ok r (aax D);obtain⟨T,Y⟩:=(lS (f:=f) (m:=f.rows.length-(k+1)) (k:=k+1) (by lia)).2;have c:CC f qs us (k+1)=dQ f k qs (CC f qs us k)++cW r (dQ f k qs (CC f qs us k)).length (decide ((k:Int)∈f.longs)) (gdat f qs us k r):=by
  show _++(f.rows[k]?).elim [] _=_
  grind
 have L:=nK (p:=(dQ f k qs (CC f qs us k)).length) (g:=gdat f qs us k r) A (F.jm D);rw[c]at Y ⊢;rw[aab]at Y;have a:=congrArg List.length Y;rw[aaj,aaj]at a;rw[aaj];refine⟨Fs A (λN=>?_) (λW H=>?_) λi x C=>kr Y (by grind),?_⟩
 ·cases r with
  |st x y=>
   obtain⟨b,i,q,w,e,_,Z,_⟩:=nO F Q U t D (Daa N);rw[e];show 0<=(i:Int)/\(i:Int)<=99
   lia
  |ot _ _ _=>cases N
 ·have N:¬ r.gr=true:=λz=>by cases r with|st _ _=>cases W|ot _ _ _=>cases z
  have e:gdat f qs us k r=.int (eM (fin f qs) r.tg):=by unfold gdat;grind
  rw[e];exact FB F u D W (Dad H)
 ·grind
theorem nov_P(F:Fok f)(Q:Qok f qs)(U:Uok f qs us)(t:(AC f qs us).length<=900000)(u:tsF f qs 499=[])(hk:k<=f.rows.length):IF (AC f qs us) (Pp f qs us k):=by
 by_cases h:k=f.rows.length
 ·subst h;exact .inl rfl
 ·obtain⟨r,D⟩:∃r,f.rows[k]?=some r:=⟨_,aam (by lia)⟩
  have A:=F.ok r (aax D);have X:=(row_sx F Q U t u D).1;cases N:r.gr with
  |false=>obtain⟨Y,e,_,_,_,I⟩:=rth_nm A N;rw[e]at X;exact .inr ⟨_,_,_,I,X⟩
  |true=>
   cases r with
   |st x y=>have e:rth (R.st x y) (decide ((k:Int)∈f.longs)) (gdat f qs us k (.st x y))=.tuple (.str hR::[.int x,.int (B3 (gdat f qs us k (.st x y))),.int (yd (gdat f qs us k (.st x y)))]):=if_pos (Daa N);rw[e]at X;exact .inr ⟨_,_,_,by decide,X⟩
   |ot _ _ _=>cases N
theorem IK(F:Fok f)(Q:Qok f qs)(U:Uok f qs us)(t:(AC f qs us).length<=900000)(u:tsF f qs 499=[])(hk:k<=f.rows.length)(j:pD f.rows k=true):pl.pg.call (n+4) 37 [Dl (AC f qs us),It (CC f qs us k).length]=some (It (Pp f qs us k),[Dl (AC f qs us),It (CC f qs us k).length]):=by
 have l:=nov_P F Q U t u hk;by_cases h:∃q∈qs,q.1=(k:Int)
 ·obtain⟨⟨r,w⟩,Y,e⟩:=h;have e:r=(k:Int):=e;subst e;obtain⟨T,a,X⟩:=abu Y;obtain⟨b,⟨_,B⟩,_,_,I⟩:=rY (X▸Q) t (by rw[<-X];exact(lS (m:=f.rows.length-k) (by lia)).1);rw[<-X]at B;have J:=I j;rw[B]at J;exact A9 J l
 ·have e:dQ f k qs (CC f qs us k)=CC f qs us k:=nL λq A e=>h ⟨q,A,e⟩;have l:IF (AC f qs us) (dQ f k qs (CC f qs us k)).length:=l;show _=some (It ((dQ f k qs (CC f qs us k)).length:Nat),_);rw[e]at l ⊢;exact rZ l
theorem mh_AC(F:Fok f)(Q:Qok f qs)(U:Uok f qs us)(t:(AC f qs us).length<=900000)(u:tsF f qs 499=[]):Mh (AC f qs us) f.rows (Pp f qs us) where
 fin:=rfl
 nov:=λa j n=>rZ (nov_P F Q U t u j)
 beg:=λn=>IK (k:=0) F Q U t u (aaB _) rfl
 row:=λa r D=>by
  have j:=(aah.mp D).1;have A:=F.ok r (aax D);obtain⟨X,H⟩:=row_sx F Q U t u D;have T:r.wd≠am->r.wd≠bv->∀n,pl.pg.call (n+4) 37 [Dl (AC f qs us),It (CC f qs us (a+1)).length]=some (It (Pp f qs us (a+1)),[Dl (AC f qs us),It (CC f qs us (a+1)).length]):=λO Z n=>IK F Q U t u (by omega) (by
   show (f.rows[a]?).elim true R.fal=true;rw[D];show (!decide (r.wd=am)&&!decide (r.wd=bv))=true
   grind)
  cases N:r.gr with
  |true=>
   cases r with
   |ot _ _ _=>cases N
   |st x y=>
    obtain⟨b,i,q,w,e,S,p,c,C⟩:=nO F Q U t D (Daa N);have B:rth (R.st x y) (decide ((a:Int)∈f.longs)) (gdat f qs us a (.st x y))=.tuple [.str hR,.int x,.int b,.int i]:=by rw[e];exact if_pos (Daa N)
    rw[B]at X;exact⟨_,_,.inl rfl,H,λW=>(by cases W),λn=>Fw X S C c,T⟩
  |false=>
   obtain⟨Y,e,O,Z,M,_⟩:=rth_nm A N;have s:=X;rw[e]at s;refine⟨rth r (decide ((a:Int)∈f.longs)) (gdat f qs us a r),_,?_,H,λW=>?_,λn=>by rw[e];exact Fv s O Z M,T⟩
   ·cases W:r.jm with
    |true=>exact .inr ⟨W,_,_,rfl⟩
    |false=>
     refine .inl ?_;cases r with
     |st x k=>exact if_neg (Dad N)
     |ot w Y c=>have W:=W;obtain⟨J,I⟩:=abv.mp W;show (if w=_ then _ else if w=_ then _ else _)=_;rw[if_neg (Dad J),if_neg (Dad I)];rfl
   ·have L:gdat f qs us a r=.int (eM (fin f qs) r.tg):=by unfold gdat;grind
    have S:=F.jb r (aax D) W;rw[L,FA F S.1 S.2.1];cases r with
    |st x k=>cases W
    |ot w Y c=>
     show ∃o l,(if w=_ then _ else if w=_ then _ else _)=_;have W:(decide (w=am)||decide (w=bi))=true:=W;by_cases z:w=am
     ·rw[if_pos z];exact⟨[.str am],_,rfl⟩
     ·rw[Dab z,abg]at W;rw[if_neg z,if_pos (Daa W)];exact⟨[.str bi,.int _],_,rfl⟩
end
theorem uF(P:∀q∈qs,0<=q.1/\q.1<=f.rows.length):(fin f qs).bs.length=qs.length:=by
 have O:=fK (f:=f) (λq A=>(P q A).1) (k:=f.rows.length);have Z:=jG (f:=f) (k:=f.rows.length) (qs:=qs) (s:=mac f qs f.rows.length);have M:=jH (k:=f.rows.length) (λq A=>(P q A).1);rw[fin,Z,O,<-M,acq]
 grind
theorem Qok.bl(h:Qok f qs):(fin f qs).bs.length=qs.length:=uF λq A=>⟨(h.ok q A).g0,(h.ok q A).g1⟩
theorem dat_Rs:(Rs rs).dat=some (.list (rs.map R.d)):=by rw[Rs,<-xF];exact dat_fz _
theorem pr_lt:∀{m:Nat}{h t:List Int}{w:List Nat}{a:Nat},(∀b∈w,b<rs.length)->∀b∈(pr rs m h t w a).2.2,b<rs.length
 |0,h,t,w,a,hw=>hw
 |m+1,h,t,w,a,hw=>by
  cases D:rs[a]? with
  |none=>
   have e:pr rs (m+1) h t w a=(t,lQ rs a,w):=by rw[pr,D]
   rw[e];exact hw
  |some r=>
   have C:=(aah.mp D).1;have H:∀b∈w++[a],b<rs.length:=λb S=>(aak.mp S).elim (hw b) λz=>by rw[aaw.mp z];exact C
   by_cases g:r.wd=bv
   ·have e:pr rs (m+1) h t w a=(t,(hS:Str),w++[a]):=by rw[pr,D];exact if_pos g
    rw[e];exact H
   ·have e:pr rs (m+1) h t w a=pr rs m (be r h) (dH r h t) (w++[a]) (nxA r (be r h) a):=by rw[pr,D];exact if_neg g
    rw[e];exact pr_lt H
theorem yv:∀{m:Nat}{h t:List Int}{w:List Nat}{a:Nat},(pr rs m h t w a).2.2.length<=w.length+m
 |0,h,t,w,a=>aac _
 |m+1,h,t,w,a=>by
  cases D:rs[a]? with
  |none=>
   have e:pr rs (m+1) h t w a=(t,lQ rs a,w):=by rw[pr,D]
   grind
  |some r=>
   by_cases g:r.wd=bv
   ·have e:pr rs (m+1) h t w a=(t,(hS:Str),w++[a]):=by rw[pr,D];grind
    grind
   ·have e:pr rs (m+1) h t w a=pr rs m (be r h) (dH r h t) (w++[a]) (nxA r (be r h) a):=by rw[pr,D];grind
    rw[e];have:=yv (rs:=rs) (m:=m) (h:=be r h) (t:=dH r h t) (w:=w++[a]) (a:=nxA r (be r h) a)
    grind
theorem nP{f:Cf}:∀{wt:List (Int×Int)}{ns:List Int}{x:Int},x∈ns->x∈wt.foldl (λns q=>eK ns (nu f q.1)) ns
 |[],ns,x,h=>h
 |q::wt,ns,x,h=>nP (wt:=wt) (by unfold eK;grind)
theorem fold_new{f:Cf}:∀{wt:List (Int×Int)}{ns:List Int}{q:Int×Int},q∈wt->nu f q.1∈wt.foldl (λns q=>eK ns (nu f q.1)) ns
 |p::wt,ns,q,h=>by
  rcases aaa.mp h with rfl|h
  ·exact nP (wt:=wt) (by unfold eK;grind)
  ·exact fold_new (wt:=wt) h
structure Uv (f:Cf)(g:G):Prop where
 ne:∀w∈g.words,w≠[]
 us:∀u∈g.us,∃(j:Nat) (w:List Int),u.2=j/\g.words[j]?=some w/\nu f u.1∈w
theorem se{Y:Type}{l:List Y}{x w:Y}{j:Nat}(h:l[j]?=some w):(l++[x])[j]?=some w:=by rw[aa8 (aah.mp h).1];exact h
theorem gn{Y:Type}{l:List Y}{x:Y}:(l++[x])[l.length]?=some x:=by simp
theorem Uv.lays{f:Cf}{g:G}{k:Nat}(Q:g.words.length=g.gaps.length)(V:Uv f g):Uv f (laysG f g k):=by
 unfold laysG;split
 ·rename_i W;have l:g.wt≠[]:=λe=>by unfold due at W;grind
  refine⟨λw Q=>?_,λu U=>?_⟩
  ·rcases aak.mp Q with h|h
   ·exact V.ne w h
   ·rw[aaw.mp h];intro e;cases A:g.wt with
    |nil=>grind
    |cons q r=>exact aar (e▸fold_new (f:=f) (ns:=[]) (A▸aai))
  ·rcases aak.mp U with h|h
   ·obtain⟨j,w,J,B,s⟩:=V.us u h;exact⟨j,w,J,se B,s⟩
   ·obtain⟨q,A,rfl⟩:=aaH.mp h;exact⟨g.words.length,_,by rw[Q],gn,(fold_new A:nu f q.1∈_)⟩
 ·exact V
theorem Uv.come{f:Cf}{g l:G}{a:Int}(Q:g.words.length=g.gaps.length)(V:Uv f g)(C:Come f g a l):Uv f l:=by
 have D:∀{X:List (List Int)}{w:List Int},g.words=X++[w]->(g.gaps.length:Int)-1=X.length:=λ{X w} h=>by rw[<-Q,h,aaj,aaL];omega
 cases C with
 |@put X w h _ _ _=>
  refine⟨λv o=>?_,λu U=>?_⟩
  ·rcases aak.mp o with O|O
   ·exact V.ne v (by rw[h];exact aaf _ O)
   ·rw[aaw.mp O];simp
  ·rcases aak.mp U with O|O
   ·obtain⟨j,v,J,B,s⟩:=V.us u O;rw[h]at B;by_cases W:j<X.length
    ·exact⟨j,v,J,se (by rw[aa8 W]at B;exact B),s⟩
    ·have t:=(aah.mp B).1;rw[aaj,aaL]at t;have i:j=X.length:=by omega
     subst i;rw[gn]at B;cases B;exact⟨X.length,_,J,gn,aaf _ s⟩
   ·rw[aaw.mp O];exact⟨X.length,_,D h,gn,aad _ aai⟩
 |@got X w h hn _=>
  refine⟨V.ne,λu U=>?_⟩;rcases aak.mp U with O|O
  ·exact V.us u O
  ·rw[aaw.mp O];exact⟨X.length,w,D h,by show g.words[_]?=_;rw[h,gn],hn⟩
 |wait _ _=>exact⟨V.ne,V.us⟩
theorem Bb{f:Cf}{k:Nat}{g a:G}(h:Path f k g a):Uv f g->Uv f a:=by
 induction h with
 |nil _ _=>simp
 |@cons k g g2 a hk I C _ ih=>
  intro V;have A:=V.lays (k:=k) I.wl;have v:Uv f g2:=by
   cases e:(f.rows[k]?).elim false R.gr with
   |true=>exact A.come I.lays.wl (C.gr e)
   |false=>rw[C.no e];omega
  exact ih ⟨v.ne,v.us⟩
theorem path_wl{f:Cf}{k:Nat}{g a:G}(h:Path f k g a):a.words.length=a.gaps.length:=by
 induction h with
 |nil _ I=>exact I.wl
 |cons _ _ _ _ Y=>omega
theorem nQ:∀us:List (Int×Int),(us.map (·.1)).zip (us.map (·.2))=us
 |[]=>rfl
 |u::us=>congrArg (u::·) (nQ us)
theorem PlanOf.qu{f:Cf}{qs:Pz}{us:List Int}(c:f.rows.length<=60)(h:PlanOf f qs us):Qok f qs/\Uok f qs us/\qs.length<=61:=by
 obtain⟨g,X,e,I,P,rfl,rfl⟩:=h;have n:=nG P ⟨List.Pairwise.nil,λx F=>absurd F aar⟩;have C:FN g.gaps (f.rows.length+1):=by rw[e];exact lays_inc n
 have v:=path_wl P;have V:Uv f g:=by rw[e];exact(Bb P ⟨λw Q=>absurd Q aar,λu U=>absurd U aar⟩).lays v
 have i:=I.len;have D:=I.gl;have H:=I.jo;have Q:=nz (f:=f) (g:=X);rw[<-e]at Q;have U:g.us.map (·.1)=gIx 0 f.rows:=by have:=I.ix;rw[Q,aay,aap,List.take_length]at this;exact this
 have l:(g.gaps.zip g.words).length=g.words.length:=by rw[List.length_zip,I.wl,Nat.min_self]
 refine⟨⟨λq A=>?_,lK C.1⟩,⟨?_,λu Z=>?_,λz d=>?_⟩,by rw[l,I.wl];omega⟩
 ·have O:=C.2 _ (aaO (a:=q.1) (b:=q.2) A).1;have Y:=(aaO (a:=q.1) (b:=q.2) A).2;exact⟨O.1,by omega,aco.mpr (V.ne _ Y),by have:=H _ Y;omega⟩
 ·rw[<-U,aae,aae]
 ·obtain⟨o,M,rfl⟩:=aaH.mp Z;obtain⟨j,w,J,B,_⟩:=V.us o M;have:=(aah.mp B).1;rw[l];omega
 ·rw[<-U,nQ]at d;obtain⟨j,w,J,B,s⟩:=V.us z d;have W:=(aah.mp B).1;refine Dac ?_;have L:(g.gaps.zip g.words)[j]?=some (g.gaps[j]'(by rw[<-I.wl];exact W),w):=by rw[abt];exact⟨aam _,B⟩
  rw[J,aaN,L];exact s
theorem FC(h:hop<=499):farN r hop<=farN r 499:=by
 unfold farN
 repeat' split
 all_goals omega
theorem FD(L:hop<=499)(h:tsF f qs hop=[]):tsF f qs 499=[]:=by
 refine ab5.mpr λa j z=>ab5.mp h a j ?_;unfold tq at z ⊢;cases e:f.rows[a.toNat]? with
 |none=>rw[e]at z;cases z
 |some r=>rw[e]at z;exact Dac (Int.lt_of_le_of_lt (FC L) (Daa z))
theorem Rnd.lg(h:Rnd hop k f f'):(∀a∈f.longs,a∈jIx 0 f.rows)->∀a∈f'.longs,a∈jIx 0 f'.rows:=by
 induction h with
 |done _ _=>exact id
 |more _ _ _ Y=>
  intro H;refine Y λa j=>?_;rcases aak.mp (sortI_mem.mp j) with h|h
  ·exact H a h
  ·exact(aaV.mp (aaV.mp h).1).1
abbrev Ra(r0 r1:Int):OD:=.fz (.tuple [.int r0,.int r1])
abbrev Mi(r0 r1:Int):Option OD:=some (Ra r0 r1)
theorem FE(z:rs.length<=60)(l:Nb rs)(H:Jb rs.length rs)(L:hop<=499):∃(f:Cf) (qs:Pz) (us:List Int),f.rows=rs/\Fok f/\Qok f qs/\Uok f qs us/\qs.length<=61/\tsF f qs 499=[]/\∀n,pl.pg.call (n+7) 28 [Rl rs,Ra r0 r1,It hop]=some (.fz (I8 f qs us),[Rl rs,Ra r0 r1,It hop]):=by
 have D:(free ⟨rs,[],r0,r1⟩).length<=60:=aan (abl _ _) (by rw[fb];grind);have B:Bd ⟨rs,[],r0,r1⟩:=⟨by grind,aan (abl _ _) z,H,by grind⟩
 obtain⟨k,v,T,r⟩:=ya D (by grind);obtain⟨_,J,_,_⟩:=r.keeps B;have J:v.rows=rs:=J;obtain⟨qs,us,P,u,_⟩:=km (n:=0) r B rfl (by lia);obtain⟨Q,U,A⟩:=P.qu (by grind);refine⟨v,qs,us,J,⟨by rw[J];exact l,by rw[J];exact H,r.lg λa h=>absurd h aar⟩,Q,U,A,FD L u,λn=>?_⟩;obtain⟨q,O,p,_,e⟩:=km r B rfl (by lia);obtain⟨rfl,rfl⟩:=P.one p;exact e
theorem FF(F:Fok f)(Q:Qok f qs)(U:Uok f qs us)(S:(fin f qs).bs.length=qs.length)(A:qs.length<=61)(a:f.rows.length<=60)(h:∀n,pl.pg.call (n+7) 28 [Rl f.rows,Ra r0 r1,It hop]=some (.fz (I8 f qs us),[Rl f.rows,Ra r0 r1,It hop])):pl.pg.call (n+8) 32 [Rl f.rows,Ra r0 r1,It hop]=some (Il (AC f qs us),[Rl f.rows,Ra r0 r1,It hop]):=by have J:=h n;have B:=Fk (n:=n+1) F Q U S A a;have o:(Mj (n+7)).call=pl.pg.call (n+7):=rfl;rw[<-o]at J;rw[show n+1+6=n+7 from rfl,<-o]at B;generalize AC f qs us=cs at *;refine ai rfl rfl (ab (s_asgQ (af rfl rfl J rfl) rfl rfl) (ak (ag (af rfl rfl B rfl) rfl))) rfl
abbrev dJ(rs:List R)(M:Nat)(h t:List Int)(w:List Nat)(a:Int)(o6 o7:Option OD):DEnv:=[Go rs,Db M,some (Il h),some (Il t),some (Il (tI id w)),Db a,o6,o7]
abbrev KW:Ss:=match F_plain.body with|.cons _ s=>s|_=>.nil
abbrev FQ:Ss:=match KW with|.cons (.whl _ b) _=>b|_=>.nil
theorem yw(P:0<=x)(O:x<h.length)(n:ev C e (dJ rs M h t w a o6 o7)=some (.val (It v),dJ rs M h t w a o6 o7))(hk:ev C ke (dJ rs M h t w a o6 o7)=some (.val (It x),dJ rs M h t w a o6 o7)):bF C (.sti 2 ke e) (dJ rs M h t w a o6 o7)=some (.nx,dJ rs M (h.set x.toNat v) t w a o6 o7):=by refine jk n rfl rfl hk rfl rfl (by rw[aae];exact Cb P O) ?_;show [_,_,some (OD.lst ((h.map It).set x.toNat (It v))),_,_,_,_,_]=_;rw[<-List.map_set]
section
variable{n M:Nat}{rs:List R}{h t:List Int}{w:List Nat}{a:Nat}{r:R}{o6 o7:Option OD}
theorem pS(l:Nb rs)(H:Jb rs.length rs)(D:rs[a]?=some r)(L:h.length=5)(u:t.length<=5000)(Q:w.length<=5000):(r.wd=bv->∃p,aD (Mj n) FQ (dJ rs M h t w a o6 o7)=some (.rt (RT id (t,hS,w++[a])),p))/\(¬ r.wd=bv->∃o7',aD (Mj n) FQ (dJ rs M h t w a o6 o7)=some (.nx,dJ rs M (be r h) (dH r h t) (w++[a]) ((nxA r (be r h) a:Nat):Int) (Fa r) o7')):=by
 have T:=aax D;have f:bF (Mj n) ed4 (dJ rs M h t w a o6 o7)=some (.nx,dJ rs M h t w a (Fa r) o7):=ae (ax rfl rfl rfl (aR (dO D))) rfl rfl rfl;have Z:bF (Mj n) (.app 4 (.nm 5)) (dJ rs M h t w a (Fa r) o7)=some (.nx,dJ rs M h t (w++[a]) a (Fa r) o7):=by
  refine bH rfl rfl rfl rfl (by grind) ?_
  grind
 have O:bF (Mj n) edh (dJ rs M h t (w++[a]) a (Fa r) o7)=some (.nx,dJ rs M h t (w++[a]) ((a+1:Nat):Int) (Fa r) o7):=ae (ah rfl rfl rfl rfl rfl) rfl rfl rfl;have F:aL (Mj n) KO (dJ rs M h t (w++[a]) ((a+1:Nat):Int) (Fa r) o7)=some (decide (r.wd=bv),dJ rs M h t (w++[a]) ((a+1:Nat):Int) (Fa r) o7):=ar (AR rfl rfl);refine⟨λg=>?_,λg=>?_⟩
 ·rw[Dac g]at F;exact⟨_,ab f (ab Z (ab O (ak (ao F (ak (ag (bh (aa rfl (aa rfl (aa rfl aj))) rfl (uy (bW rfl (aA t) rfl) (bW rfl (aA _) rfl)) rfl) rfl))))))⟩
 ·rw[Dab g]at F;have A:=l r T;have J:=H r T;clear D;have Y:∀{b:Ss}{o7':Option OD},(aD (Mj n) b (dJ rs M h t (w++[a]) ((a+1:Nat):Int) (Fa r) o7)=some (.nx,dJ rs M (be r h) (dH r h t) (w++[a]) ((nxA r (be r h) a:Nat):Int) (Fa r) o7'))->FQ=.cons ed4 (.cons (.app 4 (.nm 5)) (.cons edh (.cons eah b)))->∃o7',aD (Mj n) FQ (dJ rs M h t w a o6 o7)=some (.nx,dJ rs M (be r h) (dH r h t) (w++[a]) ((nxA r (be r h) a:Nat):Int) (Fa r) o7'):=λe j=>⟨_,by rw[j];exact ab f (ab Z (ab O (ab (s_ifF F rfl) e)))⟩
  cases r with
  |st x k=>exact Y (ab (ao rfl (ab (yw A.1.1 (by have:=A.1.2;omega) rfl rfl) rfl)) rfl) rfl
  |ot v C o=>
   cases A with
   |sum x y S=>refine Y (o7':=Db (h.getD y.toNat 0*1)) (ab (s_ifF rfl (ab (ao rfl (ab (ae (ah (ax rfl rfl rfl (aW rfl (jL S.2.1 (by omega)))) rfl rfl rfl (cK (.inr (by decide)))) rfl rfl rfl) (ab (yw S.1.1 (by omega) (ah (ah (ax rfl rfl rfl (aW rfl (jL S.1.1 (by omega)))) rfl rfl rfl rfl) rfl rfl rfl (bq (by decide))) rfl) rfl))) rfl)) ?_) rfl;rw[Int.mul_one];rfl
   |less x y S=>refine Y (o7':=Db (h.getD y.toNat 0 * -1)) (ab (s_ifF rfl (ab (ao rfl (ab (ae (ah (ax rfl rfl rfl (aW rfl (jL S.2.1 (by omega)))) rfl rfl rfl (cK (.inr (by decide)))) rfl rfl rfl) (ab (yw S.1.1 (by omega) (ah (ah (ax rfl rfl rfl (aW rfl (jL S.1.1 (by omega)))) rfl rfl rfl rfl) rfl rfl rfl (bq (by decide))) rfl) rfl))) rfl)) ?_) rfl;rw[show h.getD x.toNat 0+h.getD y.toNat 0 * -1=h.getD x.toNat 0-h.getD y.toNat 0 by omega];rfl
   |tell x S=>refine Y (o7':=o7) (ab (s_ifF rfl (ab (s_ifF rfl (ab (ao rfl (ab (bH rfl (ax rfl rfl rfl (aW rfl (jL S.1 (by omega)))) rfl rfl (by grind) ?_) rfl)) rfl)) rfl)) rfl) rfl;show _=[_,_,_,some (Il (t++[h.getD x.toNat 0])),_,_,_,_];rw[cL];rfl
   |stop=>trivial
   |go x=>
    have N:=J rfl;refine Y (o7':=o7) (ab (s_ifF rfl (ab (s_ifF rfl (ab (s_ifF rfl (ab (ao (gY rfl) (ab (ae (xV rfl J rfl) rfl rfl rfl) rfl)) rfl)) rfl)) rfl)) ?_) rfl;have q:((x.toNat))=x:=by have:0<=x:=N.1;omega
    show some (Fl.nx,dJ rs M h t _ x _ _)=some (Fl.nx,dJ rs M h t _ ((x.toNat:Nat):Int) _ _);rw[q]
   |nil x y S=>
    have N:=J rfl;have X:aL (Mj n) ebu (dJ rs M h t (w++[a]) ((a+1:Nat):Int) (Fa (.ot bi [x,y] o)) o7)=some (decide (h.getD x.toNat 0=0),dJ rs M h t (w++[a]) ((a+1:Nat):Int) (Fa (.ot bi [x,y] o)) o7):=ar (aq (ax rfl rfl rfl (aW rfl (jL S.1 (by omega)))) rfl rfl rfl rfl);have q:((y.toNat))=y:=by have:0<=y:=N.1;omega
    have i:yp (.ot bi [x,y] o) h=decide (h.getD x.toNat 0=0):=by show (decide ((bi:Str)=am)||(decide ((bi:Str)=bi)&&decide (h.getD x.toNat 0=0)))=_;rw[Dab (by decide +kernel),Dac rfl,abg,abY]
    by_cases d:h.getD x.toNat 0=0
    ·rw[Dac d]at X;refine Y (o7':=o7) (ab (s_ifF rfl (ab (s_ifF rfl (ab (s_ifF rfl (ab (ao (bp rfl X) (ab (ae (xV rfl J rfl) rfl rfl rfl) rfl)) rfl)) rfl)) rfl)) ?_) rfl;have e:nxA (.ot bi [x,y] o) (be (.ot bi [x,y] o) h) a=y.toNat:=if_pos (show yp (.ot bi [x,y] o) h=true by rw[i,Dac d]);rw[e,q];rfl
    ·rw[Dab d]at X;refine Y (o7':=o7) (ab (s_ifF rfl (ab (s_ifF rfl (ab (s_ifF rfl (ab (s_ifF (bp rfl X) rfl) rfl)) rfl)) rfl)) ?_) rfl;have e:nxA (.ot bi [x,y] o) (be (.ot bi [x,y] o) h) a=a+1:=if_neg (show ¬ yp (.ot bi [x,y] o) h=true by rw[i,Dab d];decide);rw[e];rfl
end
theorem pT(l:Nb rs)(H:Jb rs.length rs)(I:M<=2000):∀{m:Nat}{h t:List Int}{w:List Nat}{a fuel:Nat}{o6 o7:Option OD},h.length=5->a<=rs.length->w.length+m=M->t.length<=w.length->m<fuel->∃p,(∃ρ1 x,cv (aL (Mj n) tC) (aD (Mj n) FQ) fuel (dJ rs M h t w a o6 o7)=some x/\(match x.1 with|.nx=>aD (Mj n) (match KW with|.cons _ s=>s|_=>.nil) x.2|fl=>some (fl,x.2))=some (.rt (RT id (pr rs m h t w a)),p)/\ρ1=x.2):=by
 have i:∀{h t:List Int}{w:List Nat}{a:Nat}{o6 o7:Option OD},aL (Mj n) eb9 (dJ rs M h t w a o6 o7)=some (decide ((a:Int)<(rs.length:Int)),dJ rs M h t w a o6 o7):=fA rfl (aJ rfl rfl blen);have N:∀{h t:List Int}{w:List Nat}{a:Nat}{o6 o7:Option OD},aL (Mj n) eca (dJ rs M h t w a o6 o7)=some (decide (((tI id w).length:Int)<(M:Int)),dJ rs M h t w a o6 o7):=fA (pP rfl rfl) rfl;have v:∀{h t:List Int}{w:List Nat}{a fuel:Nat}{o6 o7:Option OD},(a=rs.length\/w.length=M)->0<fuel->∃p,(∃ρ1 x,cv (aL (Mj n) tC) (aD (Mj n) FQ) fuel (dJ rs M h t w a o6 o7)=some x/\(match x.1 with|.nx=>aD (Mj n) (match KW with|.cons _ s=>s|_=>.nil) x.2|fl=>some (fl,x.2))=some (.rt (RT id (t,lQ rs a,w)),p)/\ρ1=x.2):=by
  intro h t w a fuel o6 o7 U y;have T:aL (Mj n) tC (dJ rs M h t w a o6 o7)=some (false,dJ rs M h t w a o6 o7):=by
   by_cases j:(a:Int)<(rs.length:Int)
   ·exact dq (rT i j) (rF N (by grind))
   ·exact jh (rF i j)
  have o:ev (Mj n) KP (dJ rs M h t w a o6 o7)=some (.val (.fz (.str (lQ rs a))),dJ rs M h t w a o6 o7):=by
   have X:aL (Mj n) ecb (dJ rs M h t w a o6 o7)=some (decide ((a:Int)=(rs.length:Int)),dJ rs M h t w a o6 o7):=dP rfl (aJ rfl rfl blen);by_cases j:a=rs.length
   ·rw[show lQ rs a=sw from if_pos j];exact cI (rT X (by lia)) rfl
   ·rw[show lQ rs a=pu from if_neg j];exact bY (rF X (by lia)) rfl
  exact⟨_,_,_,pJ T y,ak (ag (bh (aa rfl (aa o (aa rfl aj))) rfl (uy (bW rfl (aA t) rfl) (bW rfl (aA _) rfl)) rfl) rfl),rfl⟩
 intro m;induction m with
 |zero=>intro h t w a fuel o6 o7 L j Q u y;exact v (.inr (by lia)) y
 |succ m Y=>
  intro h t w a fuel o6 o7 L j Q u y;cases D:rs[a]? with
  |none=>
   have:rs.length<=a:=acr.mp D;have e:pr rs (m+1) h t w a=(t,lQ rs a,w):=by rw[pr,D]
   rw[e];exact v (.inl (by lia)) (by lia)
  |some r=>
   have C:=(aah.mp D).1;have T:aL (Mj n) tC (dJ rs M h t w a o6 o7)=some (true,dJ rs M h t w a o6 o7):=dq (rT i (by lia)) (rT N (by rw[aae];lia));obtain⟨z,A⟩:=pS l H D L (t:=t) (by lia) (w:=w) (by lia);obtain⟨fuel,rfl⟩:∃f,fuel=f+1:=⟨fuel-1,by lia⟩
   by_cases g:r.wd=bv
   ·obtain⟨p,k⟩:=z g;have e:pr rs (m+1) h t w a=(t,(hS:Str),w++[a]):=by rw[pr,D];exact if_pos g
    rw[e];exact⟨p,_,_,Fx T k,rfl,rfl⟩
   ·have e:pr rs (m+1) h t w a=pr rs m (be r h) (dH r h t) (w++[a]) (nxA r (be r h) a):=by rw[pr,D];exact if_neg g
    rw[e];have d:=iz (r:=r) (h:=h) (t:=t);obtain⟨O,F⟩:=A g;obtain⟨p,ρ1,x,J,B,c⟩:=Y (h:=be r h) (t:=dH r h t) (w:=w++[a]) (fuel:=fuel) (by rw[gm];exact L) (pQ H D) (by rw[aaj,aaL];lia) (by rw[aaj,aaL];lia) (by lia);exact⟨p,ρ1,x,yb T F J,B,c⟩
theorem c_plain{n M:Nat}(l:Nb rs)(H:Jb rs.length rs)(I:M<=2000):pl.pg.call (n+1) 48 [Rl rs,It M]=some (RT id (pr rs M h5 [] [] 0),[Rl rs,It M]):=by obtain⟨p,A,x,J,B,_⟩:=pT l H I (h:=h5) (t:=[]) (w:=[]) (fuel:=100000) rfl (aaB _) (aaQ _) (aac _) (by omega);refine ai (ρ:=p) rfl rfl ?_ rfl;refine ab (s_asgQ rfl rfl rfl) ?_;exact bs (J) B
theorem Bc:Sm n (.str w):=by have h:ev (Mj n) eek [some (.fz (.str w)),some (.fz (.str w))]=some (.val (.fz (.bool true)),[some (.fz (.str w)),some (.fz (.str w))]):=aq rfl rfl rfl rfl (show some (decide (w=w))=some true by simp);exact ai rfl rfl (ab (s_ifF rfl rfl) (ak (ao (bp rfl rfl) (ak (ag (ji h rfl) rfl))))) rfl
abbrev dT(P:Nat->Nat)(z:List Int×Str×List Nat):PyData:=.tuple [.list (z.1.map PyData.int),.str z.2.1,.list ((tI P z.2.2).map PyData.int)]
theorem sf{xs:List Int}(h:xs.length<=5000):Sm (n+1) (.list (xs.map PyData.int)):=(rJ (by grind) λd W=>by obtain⟨a,_,rfl⟩:=aaH.mp W;exact AU).1
theorem si(O:z.1.length<=5000)(Z:z.2.2.length<=5000):Sm (n+2) (dT P z):=by
 refine(rJ (by show 3<=100000;decide) λd W=>?_).2;rcases aaa.mp W with rfl|W
 ·exact sf O
 ·rcases aaa.mp W with rfl|W
  ·exact Bc
  ·rw[aaw.mp W];exact sf (by rw[aae];exact Z)
theorem lay_ints:∀ns:List Int,PyData.canLayAll0 (ns.map PyData.int)=true
 |[]=>rfl
 |_::r=>by simp[PyData.canLayAll0,PyData.canLay0,lay_ints r]
theorem nR:∀ns:List Int,PyData.depthAll (ns.map PyData.int)=0
 |[]=>rfl
 |_::r=>by simp[PyData.depthAll,PyData.depth,nR r]
theorem jM:∀rs:List R,PyData.canLayAll0 (rs.map R.d)=true
 |[]=>rfl
 |.st _ _::r=>by
  have:PyData.strOk (Str.ofString "set")=true:=by decide +kernel
  simp[PyData.canLayAll0,PyData.canLay0,R.d,jM r,this]
 |.ot _ _ h::r=>by simp[PyData.canLayAll0,PyData.canLay0,R.d,lay_ints,jM r,h.2]
theorem dep_rows:∀rs:List R,PyData.depthAll (rs.map R.d)<=1
 |[]=>by decide
 |.st _ _::r=>by have:=dep_rows r;simp[PyData.depthAll,PyData.depth,R.d,this]
 |.ot _ _ _::r=>by have:=dep_rows r;simp[PyData.depthAll,PyData.depth,R.d,nR,this]
theorem Be{rs:List R}:oK .ne (.list (rs.map R.d)) (.list (rs.map R.d))=some false:=by
 have W:=dep_rows rs;have t:PyData.canLay0 (.list (rs.map R.d))=true:=by simp[PyData.canLay0,jM]
 have h:SeqAt.shaped (.list (rs.map R.d))=true:=by unfold SeqAt.shaped;rw[t,abY];exact Dac (by simp[PyData.depth];lia)
 show (if (SeqAt.shaped (.list (rs.map R.d))&&SeqAt.shaped (.list (rs.map R.d)))=true then some (PyData.eqv (.list (rs.map R.d)) (.list (rs.map R.d))) else none).bind _=_;rw[h,Bool.and_self,if_pos rfl,eqv_refl _ t];rfl
theorem Bf{t xs:List Int}:(OD.tup [Dl t,.fz (.str e),.lst ((xs.map PyData.int).map OD.fz)]).dat=some (.tuple [.list (t.map PyData.int),.str e,.list (xs.map PyData.int)]):=by rw[OD.dat,OD.dv,OD.dv,OD.dv,dat_fz];rfl
theorem sj:∀{m:Nat}{h t:List Int}{w:List Nat}{a:Nat},(pr rs m h t w a).1.length<=t.length+m
 |0,h,t,w,a=>aac _
 |m+1,h,t,w,a=>by
  cases D:rs[a]? with
  |none=>
   have e:pr rs (m+1) h t w a=(t,lQ rs a,w):=by rw[pr,D]
   rw[e];exact aaS _ _
  |some r=>
   by_cases g:r.wd=bv
   ·have e:pr rs (m+1) h t w a=(t,(hS:Str),w++[a]):=by rw[pr,D];exact if_pos g
    rw[e];exact aaS _ _
   ·have e:pr rs (m+1) h t w a=pr rs m (be r h) (dH r h t) (w++[a]) (nxA r (be r h) a):=by rw[pr,D];exact if_neg g
    have O:=sj (rs:=rs) (m:=m) (h:=be r h) (t:=dH r h t) (w:=w++[a]) (a:=nxA r (be r h) a);have Z:=iz (r:=r) (h:=h) (t:=t);rw[e];omega
abbrev lB:Ss:=match F_law.body with|.cons (.fr _ _ b) _=>b|_=>.nil
abbrev lM:Ss:=match lB with|.cons _ (.cons _ (.cons _ (.cons _ (.cons _ (.cons _ (.cons _ (.cons _ (.cons (.fr _ _ b) _))))))))=>b|_=>.nil
abbrev mE(sc k t:OD)(f:Cf)(qs:Pz)(us:List Int)(o4:Option OD)(x5 x6 x8:OD)(o12 o13 o14 o15:Option OD):DEnv:=[some sc,some k,some t,Go f.rows,o4,some x5,some x6,EQ f.rows,some x8,Ix f,Mg qs us,Me (fin f qs).ps,o12,o13,o14,o15]
theorem ku{M:Nat}(hx:x8=Il cs\/x8=Dl cs)(F:Fok f)(K:Mh cs f.rows (Pp f qs us))(I:M<=2000):∃c Y p,((bj (.nm 12) (.fz (.int M)) (mE sc k t f qs us o4 x5 x6 x8 o12 o13 o14 o15)).bind λρ1=>aD (Mj 8) lM ρ1)=some (.nx,mE sc k t f qs us o4 x5 x6 (Dl cs) (Db M) c Y p):=by
 have J:=c_plain (n:=7) F.ok F.jb I;have B:=IJ (n:=2) K F.ok F.jb I;have s:=Fy (n:=5) F.ok F.jb I;have v:=pr_lt (rs:=f.rows) (m:=M) (h:=h5) (t:=[]) (a:=0) λb S=>absurd S aar;have T:=yv (rs:=f.rows) (m:=M) (h:=h5) (t:=[]) (w:=[]) (a:=0);have W:=sj (rs:=f.rows) (m:=M) (h:=h5) (t:=[]) (w:=[]) (a:=0);rw[List.length_nil]at T W;generalize pr f.rows M h5 [] [] 0=z at *;obtain⟨i,e,w⟩:=z;have v:=v;have T:w.length<=0+M:=T;have W:i.length<=0+M:=W;have U:=si (n:=5) (P:=Pp f qs us) (z:=(i,e,w)) (by omega) (by omega);have Z:=si (n:=5) (P:=id) (z:=(i,e,w)) (by omega) (by omega);have ec:(Mj 8).call=pl.pg.call 8:=rfl;have J:=J;have B:=B;have s:=s;have U:pl.pg.call 8 49 [RT (Pp f qs us) (i,e,w),RT (Pp f qs us) (i,e,w)]=some (.fz (.bool true),[RT (Pp f qs us) (i,e,w),RT (Pp f qs us) (i,e,w)]):=U;have Z:pl.pg.call 8 49 [RT id (i,e,w),RT id (i,e,w)]=some (.fz (.bool true),[RT id (i,e,w),RT id (i,e,w)]):=Z;rw[<-ec]at J B s U Z;obtain⟨o',l⟩:=pO (C:=Mj 8) (elt:=.ix (.nm 1) (.nm 0)) (g:=λa:Nat=>.int ((id a))) (h:=λa=>.int ((Pp f qs us a))) (ρ:=[Me (fin f qs).ps]) (as:=w) (out:=[]) (o:=none) λa j=>by have hl:=v a j;exact ax rfl rfl rfl (aR (bZ (k:=a) (by rw[aaz,pR hl,yu F (aaM hl)];rfl)))
 rw[aaI]at l;have Q:∀P:Nat->Nat,(tI P w).map PyData.int=w.map λa=>PyData.int ((P a:Nat):Int):=λP=>by rw[aaU];rfl
 generalize hP:Pp f qs us=P at *
 let D:OD->DEnv:=λy=>mE sc k t f qs us o4 x5 x6 y (Db M) (Me i) (some (.fz (.str e))) (Me (tI id w))
 have N:ev (Mj 8) Ly (D (Dl cs))=some (.val (.lst (((tI P w).map PyData.int).map OD.fz)),D (Dl cs)):=by rw[Q P];exact dB (ds:=(tI id w).map PyData.int) (cz rfl rfl rfl) (by rw[aae,aae];omega) rfl (by rw[Q id];exact l) rfl
 have b1:bF (Mj 8) ebd (mE sc k t f qs us o4 x5 x6 x8 (Db M) o13 o14 o15)=some (.nx,D x8):=s_asgQ (ρ1:=mE sc k t f qs us o4 x5 x6 x8 (Db M) o13 o14 o15) (ρ2:=mE sc k t f qs us o4 x5 x6 x8 (Db M) o13 o14 o15) (af (ρ3:=mE sc k t f qs us o4 x5 x6 x8 (Db M) o13 o14 o15) rfl rfl J rfl) rfl rfl;have X:ev (Mj 8) Lr (D x8)=some (.val (RT P (i,e,w)),D (Dl cs)):=by
  rcases hx with rfl|rfl
  ·have H:frz1 (D (Il cs)) (.rf 8)=some (.list (cs.map PyData.int),D (Dl cs)):=frz_rf rfl (aA cs) rfl;have O:frz1 (D (Dl cs)) (.val (It M))=some (.int M,D (Dl cs)):=rfl;refine af (rs:=[.rf 8,.val (It M)]) (ρ1:=D (Il cs)) (ρ2:=D (Dl cs)) rfl ?_ B rfl;show ba [false,false] _ [.rf 8,.val (It M)]=_;simp only[ba,H,O]
  ·exact af (rs:=[.val (Dl cs),.val (It M)]) (ρ3:=D (Dl cs)) rfl rfl B rfl
 have A:ev (Mj 8) (.tup LB) (D (Dl cs))=some (.val (.tup [Dl i,.fz (.str e),.lst (((tI P w).map PyData.int).map OD.fz)]),D (Dl cs)):=bh (rs:=[.val (Dl i),.val (.fz (.str e)),.val (.lst (((tI P w).map PyData.int).map OD.fz))]) (zs:=[Dl i,.fz (.str e),.lst (((tI P w).map PyData.int).map OD.fz)]) (aa rfl (aa rfl (aa N aj))) rfl rfl rfl;have L:aL (Mj 8) ead (D x8)=some (true,D (Dl cs)):=by
  have r:frz1 (D (Dl cs)) (.val (RT P (i,e,w)))=some (dT P (i,e,w),D (Dl cs)):=rfl;have u:frz1 (D (Dl cs)) (.val (.tup [Dl i,.fz (.str e),.lst (((tI P w).map PyData.int).map OD.fz)]))=some (dT P (i,e,w),D (Dl cs)):=by show (OD.dat _).map _=_;rw[Bf];rfl
  refine bw (af (rs:=[.val (RT P (i,e,w)),.val (.tup [Dl i,.fz (.str e),.lst (((tI P w).map PyData.int).map OD.fz)])]) (ρ1:=D (Dl cs)) (ρ2:=D (Dl cs)) (aa X (aa A aj)) ?_ U rfl);show ba [false,false] _ [_,_]=_;simp only[ba,r,u]
 have q:aL (Mj 8) eai (D (Dl cs))=some (true,D (Dl cs)):=bw (af (rs:=[.val (RT id (i,e,w)),.val (RT id (i,e,w))]) (ρ1:=D (Dl cs)) (ρ2:=D (Dl cs)) (aa (af (rs:=[.val (Rl f.rows),.val (It M)]) (ρ3:=D (Dl cs)) rfl rfl s rfl) (aa (bh (rs:=[.val (Dl i),.val (.fz (.str e)),.val (Dl (tI id w))]) rfl rfl rfl rfl) aj)) rfl Z rfl);have ek:aL (Mj 8) eel (D (Dl cs))=some (false,D (Dl cs)):=ar (aq (dx:=.list (f.rows.map R.d)) (dy:=.list (f.rows.map R.d)) (x:=.val (Rl f.rows)) (y:=.rf 7) rfl rfl rfl (by show (Rs f.rows).dat=_;exact dat_Rs) Be);exact⟨_,_,_,bs (x:=mE sc k t f qs us o4 x5 x6 x8 (Db M) o13 o14 o15) rfl (ab b1 (ab (s_ifF (dA L) rfl) (ab (s_ifF (bp (dA q) ek) rfl) rfl)))⟩
theorem Bg(O:ev C e ρ=some (x,ρ1))(Z:(dM ρ1 x).bind seqOf=some ds):ev C (.bnw .list e) ρ=some (.val (.lst (ds.map OD.fz)),ρ1):=bs O (bs Z rfl)
theorem yx:∀ds:List PyData,tz (ds.map OD.fz)=some ds
 |[]=>rfl
 |d::ds=>by rw[aal,tz,yx ds]
theorem FG(rs:List R):seqOf (Rs rs)=some (rs.map R.d):=by
 have e:listOf (Rs rs)=some (rs.map R.d):=by show tz (rs.map λr=>OD.fz r.d)=_;rw[<-xF];exact yx _
 unfold seqOf;rw[e]
abbrev sk(m:Int):E:=.call 42 (.cons (.nm 2) (.cons (.int m) .nil))
theorem jN(h:TpOk b c m)(Y:m<=100000)(P:0<many)(O:many<1000):∃z f C M,ev (Mj 8) (sk many) (x::y::Ev a b c::ρ)=some (.val (It z),x::y::Ev f C M::ρ)/\0<=z/\z<many/\TpOk C M (m+1):=by obtain⟨z,f,C,M,e,j,r,t⟩:=bc h (by lia) P (by lia);have o:(Mj 8).call=pl.pg.call 8:=rfl;rw[show 7+1=8 from rfl,<-o]at e;exact⟨z,f,C,M,af rfl rfl e rfl,j,r,t⟩
theorem yz(hl:rs.length<=60)(hn:Nb rs)(hj:Jb rs.length rs)(ht:TpOk b c m)(hm:m<=40000):
  ∃p,aD (Mj 8) (match lB with|.cons _ (.cons _ r)=>r|_=>.nil) [some sc,some k,Ev a b c,EQ rs,o4,o5,o6,o7,o8,o9,o10,o11,o12,o13,o14,o15]=some (.nx,some sc::p)/\p.length=15:=by
 obtain⟨x1,a1,b1,c1,e1,_,_,t1⟩:=jN (many:=12) (ρ:=[EQ rs,o4,o5,o6,o7,o8,o9,o10,o11,o12,o13,o14,o15]) ht (by lia) (by decide) (by decide);obtain⟨x2,a2,b2,c2,e2,_,_,t2⟩:=jN (many:=80) (ρ:=[EQ rs,o4,o5,o6,o7,o8,o9,o10,o11,o12,o13,o14,o15]) t1 (by lia) (by decide) (by decide);obtain⟨x3,H,W,j,e3,y0,y1,t3⟩:=jN (many:=4) (ρ:=[EQ rs,o4,o5,o6,o7,o8,o9,o10,o11,o12,o13,o14,o15]) t2 (by lia) (by decide) (by decide);obtain⟨r0,_,d9⟩:=eW (ks:=[0,1+x1,x2,4999]) y0 y1;obtain⟨x4,a4,b4,c4,e4,_,_,t4⟩:=jN (many:=12) (x:=some sc) (y:=some k) (ρ:=[EQ rs,Db r0,o5,o6,o7,o8,o9,o10,o11,o12,o13,o14,o15]) t3 (by lia) (by decide) (by decide);obtain⟨x5,a5,b5,c5,e5,_,_,t5⟩:=jN (a:=a4) (many:=80) (x:=some sc) (y:=some k) (ρ:=[EQ rs,Db r0,o5,o6,o7,o8,o9,o10,o11,o12,o13,o14,o15]) t4 (by lia) (by decide) (by decide);obtain⟨x6,a6,Z,c6,e6,z0,z1,t6⟩:=jN (a:=a5) (many:=4) (x:=some sc) (y:=some k) (ρ:=[EQ rs,Db r0,o5,o6,o7,o8,o9,o10,o11,o12,o13,o14,o15]) t5 (by lia) (by decide) (by decide);obtain⟨r1,_,d2⟩:=eW (ks:=[6,7+x4,6+x5,4999]) z0 z1;obtain⟨x7,l,b7,c7,e7,w0,w1,t7⟩:=jN (a:=a6) (many:=30) (x:=some sc) (y:=some k) (ρ:=[EQ rs,Db r0,Mi r0 r1,o6,o7,o8,o9,o10,o11,o12,o13,o14,o15]) t6 (by lia) (by decide) (by decide);obtain⟨x8,T,w,O,e8,v0,v1,t8⟩:=jN (a:=l) (many:=3) (x:=some sc) (y:=some k) (ρ:=[EQ rs,Db r0,Mi r0 r1,o6,o7,o8,o9,o10,o11,o12,o13,o14,o15]) t7 (by lia) (by decide) (by decide);obtain⟨h,L,eh⟩:=eW (ks:=[0,1+x7,499]) v0 v1;have L:h<=499:=by grind
 obtain⟨f,qs,us,fr,F,Q,U,A,d3,P⟩:=FE (r0:=r0) (r1:=r1) hl hn hj L;rw[<-fr]at P hl;have g:=FF (n:=0) F Q U Q.bl A hl P;have h1:=pN (f:=f) (us:=us) (λq A=>(Q.ok q A).l1) A (k:=f.rows.length) hl;have h2:=rQ (f:=f) (k:=f.rows.length) (qs:=qs) (cs:=CC f qs us f.rows.length) λq A=>(Q.ok q A).l1;have a0:(AC f qs us).length<=900000:=by show (dQ _ _ _ _).length<=_;lia
 have K:=mh_AC F Q U a0 d3;have v:=xR (n:=5) (f:=f) (qs:=qs) (λq A=>(Q.ok q A).g0) (by lia) (by lia);have P:=P 1;have ec:(Mj 8).call=pl.pg.call 8:=rfl;have P:pl.pg.call 8 28 [Rl f.rows,Ra r0 r1,It h]=some (.fz (I8 f qs us),[Rl f.rows,Ra r0 r1,It h]):=P;have g:pl.pg.call 8 32 [Rl f.rows,Ra r0 r1,It h]=some (Il (AC f qs us),[Rl f.rows,Ra r0 r1,It h]):=g;have v:pl.pg.call 8 47 [Rl f.rows,Lo f,Pq qs]=some (Ij (fin f qs),[Rl f.rows,Lo f,Pq qs]):=v;rw[<-ec]at P g v;subst fr;obtain⟨cs,b0⟩:∃cs,AC f qs us=cs:=⟨_,rfl⟩
 rw[b0]at K g;clear b0 h1 h2 a0;obtain⟨x9,N,b9,c9,e9,u0,u1,t9⟩:=jN (a:=T) (many:=301) (x:=some sc) (y:=some k) (ρ:=[Go f.rows,Db r0,Mi r0 r1,Db h,EQ f.rows,some (Il cs),Ix f,Mg qs us,Me (fin f qs).ps,o12,o13,o14,o15]) t8 (by lia) (by decide) (by decide);obtain⟨c0,d8,e0,f4,d1,q0,q1,d6⟩:=jN (a:=N) (many:=8) (x:=some sc) (y:=some k) (ρ:=[Go f.rows,Db r0,Mi r0 r1,Db h,EQ f.rows,some (Il cs),Ix f,Mg qs us,Me (fin f qs).ps,o12,o13,o14,o15]) t9 (by lia) (by decide) (by decide);obtain⟨e,f7,f3,f2,d5,p0,p1,f0⟩:=jN (a:=d8) (many:=40) (x:=some sc) (y:=some k) (ρ:=[Go f.rows,Db r0,Mi r0 r1,Db h,EQ f.rows,some (Il cs),Ix f,Mg qs us,Me (fin f qs).ps,o12,o13,o14,o15]) d6 (by lia) (by decide) (by decide);have em:∃(M:Nat) (a' b' c':Int),M<=2000/\ev (Mj 8) (.ife (.cmp .eq (sk 8) (.int 0)) (.int 2000) (sk 40)) (some sc::some k::Ev N b9 c9::[Go f.rows,Db r0,Mi r0 r1,Db h,EQ f.rows,some (Il cs),Ix f,Mg qs us,Me (fin f qs).ps,o12,o13,o14,o15])=some (.val (It M),some sc::some k::Ev a' b' c'::[Go f.rows,Db r0,Mi r0 r1,Db h,EQ f.rows,some (Il cs),Ix f,Mg qs us,Me (fin f qs).ps,o12,o13,o14,o15]):=by
  have X:=ar (aq (b:=.int 0) (dx:=.int c0) (dy:=.int 0) (o:=.eq) d1 rfl rfl rfl rfl);by_cases hz:c0=0
  ·rw[Dac hz]at X;exact⟨2000,_,_,_,aac _,cI X rfl⟩
  ·rw[Dab hz]at X;obtain⟨M,rfl⟩:∃M:Nat,e=M:=⟨e.toNat,by lia⟩
   exact⟨M,_,_,_,by lia,bY X d5⟩
 obtain⟨C,D,J,B,S,d0⟩:=em;obtain⟨s,rfl⟩:∃M:Nat,x9=M:=⟨x9.toNat,by lia⟩
 obtain⟨d4,Y,d7,m1⟩:=ku (sc:=sc) (k:=k) (t:=Tp D J B) (o4:=Db r0) (x5:=Ra r0 r1) (x6:=It h) (x8:=Il cs) (o12:=o12) (o13:=o13) (o14:=o14) (o15:=o15) (M:=s) (.inl rfl) F K (by lia);obtain⟨f8,f1,f5,m2⟩:=ku (sc:=sc) (k:=k) (t:=Tp D J B) (o4:=Db r0) (x5:=Ra r0 r1) (x6:=It h) (x8:=Dl cs) (o12:=Db s) (o13:=d4) (o14:=Y) (o15:=d7) (M:=C) (.inr rfl) F K S;have s4:bF (Mj 8) (.set 4 (.ix (.lst (.cons (.int 0) (.cons (.bop .add (.int 1) (sk 12)) (.cons (sk 80) eep)))) (sk 4))) [some sc,some k,Ev a b c,EQ f.rows,o4,o5,o6,o7,o8,o9,o10,o11,o12,o13,o14,o15]=some (.nx,[some sc,some k,Ev H W j,EQ f.rows,Db r0,o5,o6,o7,o8,o9,o10,o11,o12,o13,o14,o15]):=ae (ax (bX (aa rfl (aa (ah rfl e1 rfl rfl rfl) (aa e2 (aa rfl aj)))) rfl rfl) e3 rfl (fJ d9)) rfl rfl rfl;have i:bF (Mj 8) (.set 5 (.tup (.cons (.nm 4) (.cons (.ix (.lst (.cons (.int 6) (.cons (.bop .add (.int 7) (sk 12)) (.cons (.bop .add (.int 6) (sk 80)) eep)))) (sk 4)) .nil)))) [some sc,some k,Ev H W j,EQ f.rows,Db r0,o5,o6,o7,o8,o9,o10,o11,o12,o13,o14,o15]=some (.nx,[some sc,some k,Ev a6 Z c6,EQ f.rows,Db r0,Mi r0 r1,o6,o7,o8,o9,o10,o11,o12,o13,o14,o15]):=ae (bh (zs:=[It r0,It r1]) (aa rfl (aa (ax (bX (aa rfl (aa (ah rfl e4 rfl rfl rfl) (aa (ah rfl e5 rfl rfl rfl) (aa rfl aj)))) rfl rfl) e6 rfl (fJ d2)) aj)) rfl rfl rfl) rfl rfl rfl;have s6:bF (Mj 8) (.par [6,7] (.cons (.ix (.lst (.cons (.int 0) (.cons (.bop .add (.int 1) (sk 30)) eeq))) (sk 3)) eds)) [some sc,some k,Ev a6 Z c6,EQ f.rows,Db r0,Mi r0 r1,o6,o7,o8,o9,o10,o11,o12,o13,o14,o15]=some (.nx,[some sc,some k,Ev T w O,EQ f.rows,Db r0,Mi r0 r1,Db h,EQ f.rows,o8,o9,o10,o11,o12,o13,o14,o15]):=fI (zs:=[It h,Rs f.rows]) (aa (ax (bX (aa rfl (aa (ah rfl e7 rfl rfl rfl) (aa rfl aj))) rfl rfl) e8 rfl (fJ eh)) (aa (Bg (x:=.rf 3) (ds:=f.rows.map R.d) rfl (FG f.rows)) aj)) (by rw[xF];rfl) rfl rfl;have s7:bF (Mj 8) ebc [some sc,some k,Ev T w O,EQ f.rows,Db r0,Mi r0 r1,Db h,EQ f.rows,o8,o9,o10,o11,o12,o13,o14,o15]=some (.nx,[some sc,some k,Ev T w O,Go f.rows,Db r0,Mi r0 r1,Db h,EQ f.rows,some (Il cs),o9,o10,o11,o12,o13,o14,o15]):=by have zr:frz1 [some sc,some k,Ev T w O,EQ f.rows,Db r0,Mi r0 r1,Db h,EQ f.rows,o8,o9,o10,o11,o12,o13,o14,o15] (.rf 3)=some (.list (f.rows.map R.d),[some sc,some k,Ev T w O,Go f.rows,Db r0,Mi r0 r1,Db h,EQ f.rows,o8,o9,o10,o11,o12,o13,o14,o15]):=frz_rf rfl dat_Rs rfl;have u:∀ρ,frz1 ρ (.val (Ra r0 r1))=some (.tuple [.int r0,.int r1],ρ):=λ_=>rfl;have z3:∀ρ,frz1 ρ (.val (It h))=some (.int h,ρ):=λ_=>rfl;refine ae (x:=.val (Il cs)) (z:=Il cs) (ρ1:=[some sc,some k,Ev T w O,Go f.rows,Db r0,Mi r0 r1,Db h,EQ f.rows,o8,o9,o10,o11,o12,o13,o14,o15]) (ρ2:=[some sc,some k,Ev T w O,Go f.rows,Db r0,Mi r0 r1,Db h,EQ f.rows,o8,o9,o10,o11,o12,o13,o14,o15]) (af (rs:=[.rf 3,.val (Ra r0 r1),.val (It h)]) (ρ1:=[some sc,some k,Ev T w O,EQ f.rows,Db r0,Mi r0 r1,Db h,EQ f.rows,o8,o9,o10,o11,o12,o13,o14,o15]) (ρ2:=[some sc,some k,Ev T w O,Go f.rows,Db r0,Mi r0 r1,Db h,EQ f.rows,o8,o9,o10,o11,o12,o13,o14,o15]) rfl ?_ g rfl) rfl rfl rfl;show ba [false,false,false] _ [_,_,_]=_;simp only[ba,zr,u,z3]
 have s8:bF (Mj 8) ea5 [some sc,some k,Ev T w O,Go f.rows,Db r0,Mi r0 r1,Db h,EQ f.rows,some (Il cs),o9,o10,o11,o12,o13,o14,o15]=some (.nx,[some sc,some k,Ev T w O,Go f.rows,Db r0,Mi r0 r1,Db h,EQ f.rows,some (Il cs),Ix f,Mg qs us,o11,o12,o13,o14,o15]):=s_asgQ (ρ2:=[some sc,some k,Ev T w O,Go f.rows,Db r0,Mi r0 r1,Db h,EQ f.rows,some (Il cs),o9,o10,o11,o12,o13,o14,o15]) (af (ρ3:=[some sc,some k,Ev T w O,Go f.rows,Db r0,Mi r0 r1,Db h,EQ f.rows,some (Il cs),o9,o10,o11,o12,o13,o14,o15]) rfl rfl P rfl) rfl rfl;have s9:bF (Mj 8) eax [some sc,some k,Ev T w O,Go f.rows,Db r0,Mi r0 r1,Db h,EQ f.rows,some (Il cs),Ix f,Mg qs us,o11,o12,o13,o14,o15]=some (.nx,[some sc,some k,Ev T w O,Go f.rows,Db r0,Mi r0 r1,Db h,EQ f.rows,some (Il cs),Ix f,Mg qs us,Me (fin f qs).ps,o12,o13,o14,o15]):=ae (ax (af (rs:=[.val (Rl f.rows),.val (Lo f),.val (Pq qs)]) (ρ3:=[some sc,some k,Ev T w O,Go f.rows,Db r0,Mi r0 r1,Db h,EQ f.rows,some (Il cs),Ix f,Mg qs us,o11,o12,o13,o14,o15]) rfl rfl v rfl) rfl rfl (aN rfl)) rfl rfl rfl;have I:∃p,bF (Mj 8) (.fr (.nm 12) (.seq (.tup (.cons (sk 301) (.cons (.ife (.cmp .eq (sk 8) (.int 0)) (.int 2000) (sk 40)) .nil)))) lM) [some sc,some k,Ev T w O,Go f.rows,Db r0,Mi r0 r1,Db h,EQ f.rows,some (Il cs),Ix f,Mg qs us,Me (fin f qs).ps,o12,o13,o14,o15]=some (.nx,some sc::p)/\p.length=15:=⟨_,eE (cz (d:=.tuple [.int s,.int C]) (bh (zs:=[It s,It C]) (z:=.fz (.tuple [.int s,.int C])) (aa e9 (aa d0 aj)) rfl rfl rfl) rfl rfl) (bs m1 (bs m2 rfl)),rfl⟩
 obtain⟨p,I,hr⟩:=I;exact⟨p,ab s4 (ab i (ab s6 (ab s7 (ab s8 (ab s9 (ab I rfl)))))),hr⟩
theorem Ma(h:ρ.length=15):∃c k o3 o4 o5 o6 o7 o8 X P H o12 o13 o14 o15,ρ=[c,k,o3,o4,o5,o6,o7,o8,X,P,H,o12,o13,o14,o15]:=by
 match ρ,h with
 |[c,k,o3,o4,o5,o6,o7,o8,X,P,H,o12,o13,o14,o15],_=>exact⟨c,k,o3,o4,o5,o6,o7,o8,X,P,H,o12,o13,o14,o15,rfl⟩
theorem pure(ns:List Int)(v:ns.length<=63):∃ys,pl.pg.call 9 HY [.fz (.list (ns.map PyData.int))]=some (.fz (.bool true),ys):=by
 obtain⟨C,u⟩:∃C:OD,C=.fz (.list (ns.map PyData.int)):=⟨_,rfl⟩
 have s:∀(i:Nat) (I:DEnv),i<=8->I.length=15->∃p,((bj (.nm 1) (.fz (.int i)) (some C::I)).bind λA=>aD (Mj 8) lB A)=some (.nx,some C::p)/\p.length=15:=by intro i I hi w;obtain⟨o1,k,L,F,z,T,D,g,X,P,H,M,W,j,Q,rfl⟩:=Ma w;obtain⟨a,b,q,t⟩:=ER hi;obtain⟨U,a1,y,l,J,r,x,t1⟩:=ES t (aaB _);have o:(Mj 8).call=pl.pg.call 8:=rfl;rw[show 6+2=8 from rfl,<-o,<-u]at q;rw[show 5+3=8 from rfl,<-o]at J;obtain⟨p,n,a2⟩:=yz r x.1 x.2 t1 (by decide);have f:bF (Mj 8) ebv [some C,Db i,k,L,F,z,T,D,g,X,P,H,M,W,j,Q]=some (.nx,[some C,Db i,Ev a b 0,L,F,z,T,D,g,X,P,H,M,W,j,Q]):=ae (af (ρ2:=[some C,Db i,k,L,F,z,T,D,g,X,P,H,M,W,j,Q]) (by rw[u];rfl) (by rw[u];rfl) q rfl) rfl rfl rfl;have Z:bF (Mj 8) ec8 [some C,Db i,Ev a b 0,L,F,z,T,D,g,X,P,H,M,W,j,Q]=some (.nx,[some C,Db i,Ev a1 y l,EQ U,F,z,T,D,g,X,P,H,M,W,j,Q]):=ae (af rfl rfl J rfl) rfl rfl rfl;exact⟨p,bs rfl (ab f (ab Z n)),a2⟩
 have a0:∀(m i:Nat) (I:DEnv),i+m<=9->I.length=15->∃p,bR (λd p=>(bj (.nm 1) (.fz d) p).bind λA=>aD (Mj 8) lB A) (dm i m) (some C::I)=some (.nx,some C::p):=by
  intro m;induction m with
  |zero=>intro i I _ _;exact⟨I,rfl⟩
  |succ m Y=>intro i I h w;obtain⟨A,J,O⟩:=s i I (by lia) w;obtain⟨ρ2,B⟩:=Y (i+1) A (by lia) O;rw[bf];exact⟨ρ2,bs J B⟩
 obtain⟨N,c⟩:∃N:Int,N=if (ns.length:Int)<5 then (ns.length:Int) else 5:=⟨_,rfl⟩
 have hb:0<=N/\N<=5:=by rw[c];split<;>lia
 obtain⟨p,e⟩:=a0 (1+N).toNat 0 [none,none,none,none,none,none,none,none,none,none,none,none,none,none,none] (by lia) rfl;rw[u]at e;have S:ev (Mj 8) ea9 [some (.fz (.list (ns.map PyData.int))),none,none,none,none,none,none,none,none,none,none,none,none,none,none,none]=some (.val (It N),[some (.fz (.list (ns.map PyData.int))),none,none,none,none,none,none,none,none,none,none,none,none,none,none,none]):=aJ (aa rfl (aa (aJ rfl rfl blen) aj)) rfl (by rw[c];rfl);exact⟨_,ai rfl rfl (ab (eE (gL (ah rfl S rfl rfl rfl) rfl (by lia)) e) (ak (ag rfl rfl))) rfl⟩
set_option maxHeartbeats 0
def lm:Str:="law_nearpool_k50_whole_made_cells_run"
open PySem.W in
def vi(n:Int):Value:=.int n 0
def vr(a:Addr):Value:=.ref a
def vs(x:Str)(t:Nat):Value:=.str x t
def nt(P:Params)(k:Str)(t:Nat)(v:Value):DictEntry:=⟨PyData.keyHash P k,.str k t,v⟩
def fo(d:Df)(m:Str)(t c:Nat):Obj:=⟨.type "function",none,.func (PySem.W.fnOf d.name d.qual (cG d.st) (bC d.st) (aK d.st) .none .none .none (.str m t) none (.ref c) .none),List.toArray []⟩
noncomputable def cq(vs:List Value):Obj:=⟨.type "code",none,.fields (List.toArray vs),List.toArray []⟩
def cu(n q:Str)(t l a r T:Nat):Obj:=cq [vs n t,vs q (t+1),vs ut (t+2),vi l,vi a,vi 0,vi 0,vi 3,vr r,.bool true,vi 181,vr (r+1),.none,vr (r+2),vr (r+3),vr (r+4),vi T,vi l,vs ut (T+1)]
def cw(n q:Str)(t l a r T:Nat):Obj:=cq [vs n t,vs q (t+1),vs ut (t+2),vi l,vi a,vi 0,vi 0,vi 3,vr r,.bool true,vi 181,vr (r+1),.none,.none,.none,vr (r+2),vi T,vi l,vs ut (T+1)]
def KY(c:Nat)(o:Obj)(r:Waa):Waa:=(c,o)::r
def cX(c:Nat)(d:Df)(m:Str)(k t l T:Nat)(r:Waa):Waa:=(c,cu d.name d.qual t l d.ps.length (c-5) T)::(c+1,fo d m k c)::r
def yH(c:Nat)(d:Df)(m:Str)(k t l T:Nat)(r:Waa):Waa:=(c,cw d.name d.qual t l d.ps.length (c-3) T)::(c+1,fo d m k c)::r
noncomputable def KK(P:Params):Waa:=KY 3 ⟨(.type "dict"),none,(.dict (List.toArray [nt P "__name__" 165 (vs lm 644),nt P "__doc__" 166 .none,nt P "__package__" 167 .none,nt P "__loader__" 168 (.builtin "__main__.__loader__#opaque"),nt P "__spec__" 169 .none,nt P "__annotations__" 170 (vr 6),nt P "__builtins__" 171 (vr 4),nt P "__file__" 173 (vs ut 172),nt P "__cached__" 174 .none,nt P "REGISTERS" 190 (.int (5) 189),nt P "NUMBERS" 192 (.int (100000000) 191),nt P "GREATEST_SMALL" 194 (.int (99) 193),nt P "is_great" 201 (vr 21),nt P "is_jump" 208 (vr 28),nt P "greats_of" 214 (vr 33),nt P "jumps_of" 220 (vr 38),nt P "falls" 227 (vr 45),nt P "STOP" 231 (.int (0) 230),nt P "SET" 233 (.int (1000) 232),nt P "SUM" 235 (.int (2000) 234),nt P "LESS" 237 (.int (3000) 236),nt P "TELL" 239 (.int (4000) 238),nt P "GREAT" 241 (.int (5000) 240),nt P "SHORT_GO" 243 (.int (6500) 242),nt P "LONG_GO" 245 (.int (7000) 244),nt P "OVER" 247 (.int (7001) 246),nt P "PAD" 249 (.int (7002) 248),nt P "POOL" 251 (.int (7100) 250),nt P "SHORT_NIL" 253 (.int (8100) 252),nt P "LONG_NIL" 255 (.int (9000) 254),nt P "SAME_PLACE" 257 (.int (5000) 256),nt P "FARTHEST_GO" 259 (.int (499) 258),nt P "FARTHEST_NIL" 261 (.int (99) 260),nt P "NILS_OF_ONE" 263 (.int (200) 262),nt P "MOST_WORDS" 265 (.int (100) 264),nt P "HALF_WORD" 267 (.int (10000) 266),nt P wv 277 (vr 52),nt P "row_cells" 290 (vr 59),nt P "pair_seen" 300 (vr 66),nt P "nil_seen" 311 (vr 73),nt P "lone_seen" 319 (vr 80),nt P "two_seen" 328 (vr 87),nt P "pool_seen" 334 (vr 92),nt P "seen_at" 345 (vr 99),nt P "OVER_CELLS" 349 (.int (2) 348),nt P "WORD_CELLS" 351 (.int (2) 350),nt P "size_of" 360 (vr 106),nt P "has_over" 368 (vr 113),nt P ww 377 (vr 120),nt P "placed" 383 (vr 125),nt P ac 485 (vr 189),nt P "pools_for" 496 (vr 200),nt P "farthest" 506 (vr 207),nt P "too_short" 512 (vr 212),nt P "settled" 524 (vr 219),nt P wP 539 (vr 226),nt P "goals_of" 545 (vr 231),nt P wS 551 (vr 236),nt P "made" 562 (vr 243),nt P "carry_out" 574 (vr 250),nt P "jumps_now" 582 (vr 257),nt P wT 595 (vr 264),nt P "word_at" 607 (vr 271),nt P xz 616 (vr 278),nt P "row_at" 628 (vr 285),nt P "run" 643 (vr 292),nt P xL 653 (vr 299),nt P "_law_tape" 662 (vr 306),nt P "_law_take" 672 (vr 313),nt P At 681 (vr 320),nt P "_law_rows" 698 (vr 327),nt P AT 705 (vr 334),nt P "_law_size" 714 (vr 341),nt P BT 729 (vr 348),nt P Ch 743 (vr 355),nt P "_law_same" 749 (vr 360),nt P "law" 755 (vr 365)]) 77),List.toArray []⟩ (
 cX 20 jq im 187 195 5 199 (
 cX 27 kb im 187 202 7 206 (
 yH 32 g7 im 187 209 9 212 (
 yH 37 jr im 187 215 11 218 (
 cX 44 rg im 187 221 13 225 (
 cX 51 f6 eL 228 268 35 275 (
 cX 58 g8 eL 228 278 41 288 (
 cX 65 g9 eL 228 291 57 298 (
 cX 72 jt eL 228 301 60 309 (
 cX 79 hU eL 228 312 64 317 (
 cX 86 ju eL 228 320 82 326 (
 yH 91 hX eL 228 329 92 332 (
 cX 98 kc eL 228 335 99 343 (
 cX 105 kf na 346 352 115 358 (
 cX 112 jv na 346 361 117 366 (
 cX 119 f9 na 346 369 119 375 (
 yH 124 m9 na 346 378 123 381 (
 cX 138 cT dL 384 398 139 405 (
 cX 145 eF dL 384 408 150 416 (
 cX 152 ia dL 384 419 159 427 (
 cX 159 ft dL 384 430 171 435 (
 cX 166 dN dL 384 438 176 443 (
 cX 173 gb dL 384 446 181 452 (
 cX 180 fu dL 384 455 191 460 (
 yH 185 gf dL 384 463 199 466 (
 KY 188 ⟨(.type "dict"),none,(.dict (List.toArray [nt P "__module__" 393 (vs dL 384),nt P "__firstlineno__" 397 (.int (137) 396),nt P "__init__" 407 (vr 139),nt P "is_due" 418 (vr 146),nt P "lay" 429 (vr 153),nt P "finds" 437 (vr 160),nt P "may_put" 445 (vr 167),nt P "come" 454 (vr 174),nt P "cross" 462 (vr 181),nt P lv 468 (vr 186),nt P "__static_attributes__" 478 (vr 187),nt P "__dict__" 480 (vr 190),nt P "__weakref__" 482 (vr 191),nt P "__doc__" 483 .none]) 4),List.toArray []⟩ (
 KY 189 ⟨(.type "type"),none,(.cls ⟨ac,[(.type "object")],[(vr 189),(.type "object")],188,ac,true,[],[],false,none,false⟩),List.toArray [none,none,(some (vs ac 386)),(some (vs ac 394)),(some (.builtin "object.__new__")),(some (.bool true))]⟩ (
 cX 199 ib dL 384 486 202 494 (
 cX 206 jw re 497 499 208 504 (
 yH 211 ic re 497 507 210 510 (
 cX 218 kg re 497 513 215 522 (
 cX 225 gg nb 525 527 225 537 (
 yH 230 jx nb 525 540 236 543 (
 yH 235 gh nb 525 546 244 549 (
 cX 242 xy nb 525 552 254 560 (
 cX 249 ie sn 563 565 258 572 (
 cX 256 ig sn 563 575 268 580 (
 cX 263 eG sn 563 583 270 593 (
 cX 270 kh nl 596 598 284 605 (
 cX 277 gi nl 596 608 289 614 (
 cX 284 nh nl 596 617 295 626 (
 cX 291 BQ nl 596 629 304 641 (
 cX 298 ki lm 644 646 322 651 (
 cX 305 xA lm 644 654 324 660 (
 cX 312 xB lm 644 663 327 670 (
 cX 319 rh lm 644 673 336 679 (
 cX 326 xC lm 644 682 340 696 (
 cX 333 gj lm 644 699 356 703 (
 cX 340 xD lm 644 706 358 712 (
 cX 347 jy lm 644 715 360 727 (
 cX 354 rj lm 644 730 373 741 (
 yH 359 xE lm 644 744 391 747 (
 yH 364 D_law lm 644 750 403 753 [])))))))))))))))))))))))))))))))))))))))))))))))))))))
noncomputable def qv:Program:=PySem.W.view PySem.Challenge.pw_nearpool_k50_whole_made_cells_run [1,2,3,4,5,6,7,8,10,11,12,13,14,15,16,17,18,19,20,21,22,23,24,25,26,27,28,29,30,31,32,33,34,35,36,38,39,40,41,42,43,45,46,48,49,50,52,53,54,55,57,58,59,61,62,63,64,66,67,68,69,70,71,72,73,74,75,76]
open PySem.W PyProof.Rows in
theorem Bh{p q:Program}{loose:List Str}{Xt:Shared->Bool}{Y:Type}{Yf:Shared->Y}{Ya:World->Y}{N:Nat}{u:Bool}(e:opening p=plainProg p.main.scope.names)(a:Nat.ble 600 N=true)(f:∀s,fenceModules? p s=some s)
  (h:∀(w:World) (F:OsState),(topFrom treeTable p w N ⟨boot_heap w.params,Array.mk [],boot_drawn,boot_toks,F⟩).map (λs=>(openSeen q loose (importedModules p.main.body) Xt u s,Yf s))=some (openGood q loose,Ya w)):LeftO p q loose Xt Yf Ya N u:=λw=>by
 obtain⟨⟨L,S,d,k,F⟩,J,B⟩:=aaJ.mp (boot_open e a f w);obtain⟨rfl,rfl,rfl,rfl⟩:L=boot_heap w.params/\S=Array.mk []/\d=boot_drawn/\k=boot_toks:=by simpa using B
 unfold openEnds;rw[J];exact h w F
def hk:PySem.W.Hook:=PySem.W.kHook KK (3::[20,27,32,37,44,51,58,65,72,79,86,91,98,105,112,119,124,138,145,152,159,166,173,180,185,188,199,206,211,218,225,230,235,242,249,256,263,270,277,284,291,298,305,312,319,326,333,340,347,354,359,364].flatMap λc=>[c,c+1]) (λ_=>by kernel_rfl)
abbrev xt(s:Shared):Bool:=PySem.W.xlAt qv [] s&&PySem.W.recOk (PySem.W.RowW.records (PySem.Challenge.rw_nearpool_k50_whole_made_cells_run).row.toRowW) s
theorem left:PySem.W.LeftO PySem.Challenge.pw_nearpool_k50_whole_made_cells_run qv [] xt (PySem.W.Hook.obs hk) (PySem.W.Hook.val hk) 4300:=Bh (by kernel_rfl) (by rfl) (λs=>by kernel_rfl) (λw F=>by kernel_rfl)
def dd:DefRec:=⟨"law",cG D_law.st,bC D_law.st,aK D_law.st,match D_law.st with|.FunctionDef _ _ _ _ _ _ _ _ _ p=>p|_=>⟨0,0,0,0⟩⟩
theorem said:(PySem.Challenge.rw_nearpool_k50_whole_made_cells_run).wellSaid=true:=by kernel_rfl
def yA(K:Waa):L2.Sp:=λc H Q _=>∃(a:Addr) (x:List Int),c=[.ref a]/\SqL K H a (x.map V.int)/\x.length<=63/\∀l,Q (.bl true) l
def I9:Option (Option Value)->Bool
 |some none=>true
 |_=>false
def FR(f:Nat):Option (Option Value)->Bool
 |some (some (.ref g))=>g==f
 |_=>false
noncomputable def KZ:Option (Option Value)->Bool
 |some (some (.builtin s))=>decide (s="object.__setattr__")
 |_=>false
theorem yB{o:Option (Option Value)}(h:I9 o=true):o=some none:=by
 unfold I9 at h;split at h
 ·rfl
 ·cases h
theorem lT{f:Nat}{o:Option (Option Value)}(h:FR f o=true):o=some (some (.ref f)):=by
 unfold FR at h;split at h
 ·rw[beq_iff_eq.mp h]
 ·cases h
theorem FH{o:Option (Option Value)}(h:KZ o=true):o=some (some (.builtin "object.__setattr__")):=by
 unfold KZ at h;split at h
 ·rw[Daa h]
 ·cases h
open PySem.W in
def K0(K:Frag)(C:Addr):Bool:=plainGet K C Str.empty&&(hasDictIn K C&&(plainOver K C&&KZ (findIn K (.ref C) "__setattr__")))
theorem yC{K:Waa}{C:Addr}(h:K0 K C=true):Cls K C:=by obtain⟨O,h⟩:=an2 h;obtain⟨Z,h⟩:=an2 h;obtain⟨M,h⟩:=an2 h;exact⟨O,Z,M,FH h⟩
open PySem.W in
def LI(K:Frag)(d:Df)(f c:Nat):Kd->Bool
 |.fn=>codeIn K (.ref c) d.qual&&(keepIn K (.ref f)&&FR f (nsIn K mainGlobals d.name))
 |.me x=>codeIn K (.ref c) d.qual&&(keepIn K (.ref f)&&(K0 K (av K x)&&(FR f (findIn K (.ref (av K x)) d.name)&&isFn K (.ref f))))
 |.ini x=>codeIn K (.ref c) d.qual&&(keepIn K (.ref f)&&(makesIn K (av K x)&&(FR f (findIn K (.ref (av K x)) "__init__")&&(isFn K (.ref f)&&(keepIn K (.ref (av K x))&&FR (av K x) (nsIn K mainGlobals x))))))
theorem fk{K:Waa}{h:Heap}{C:Str->Option Value}(X:K.In h)(G:h.Ns mainGlobals C){d:Df}{U:Kd}(m:Str)(t c f:Nat)(l:K.lookup f=some (fo d m t c))(q:LI K d f c U=true)
  (b:∀us:List Value,us.length=d.ps.length->bindArgs (PySem.W.fnOf d.name d.qual (cG d.st) (bC d.st) (aK d.st) .none .none .none (.str m t) none (.ref c) .none) ⟨us,[]⟩=Pure.pure (d.ps.zip us)):FactD K C (d,U):=by
 cases U with
 |fn=>obtain⟨O,q⟩:=an2 q;obtain⟨Z,M⟩:=an2 q;exact⟨f,_,kG l O Z,.all b,abB X G (lT M),Z⟩
 |me x=>obtain⟨O,q⟩:=an2 q;obtain⟨Z,q⟩:=an2 q;obtain⟨M,q⟩:=an2 q;obtain⟨F,J⟩:=an2 q;exact⟨f,_,kG l O Z,.all b,yC M,lT F,J,Z⟩
 |ini x=>obtain⟨O,q⟩:=an2 q;obtain⟨Z,q⟩:=an2 q;obtain⟨M,q⟩:=an2 q;obtain⟨F,q⟩:=an2 q;obtain⟨J,q⟩:=an2 q;obtain⟨L,H⟩:=an2 q;exact⟨f,_,kG l O Z,.all b,⟨M,lT F,J,L⟩,abB X G (lT H)⟩
theorem fm{Y:Type}{P:Y->Prop}{x:Y}{l:List Y}(h:P x)(k:∀y∈l,P y):∀y∈x::l,P y:=List.forall_mem_cons.mpr ⟨h,k⟩
theorem fC{K:Waa}{h:Heap}{C:Str->Option Value}(X:K.In h)(G:h.Ns mainGlobals C){x:Str}{k:Int}(t:Nat)(e:PySem.W.nsIn K mainGlobals x=some (some (.int k t))):∃v u,C x=some u/\RelV v u/\∀S H,Fz K S H v (.int k):=⟨.int k,_,abB X G e,⟨_,rfl⟩,λ_ _=>.int _⟩
theorem K1{Y:Type}{P:List Y->Prop}(h:∀a0,P [a0])(l:List Y)(e:l.length=1):P l:=by
 match l,e with
 |[a0],_=>exact h a0
theorem K2{Y:Type}{P:List Y->Prop}(h:∀a0 I,P [a0,I])(l:List Y)(e:l.length=2):P l:=by
 match l,e with
 |[a0,I],_=>exact h a0 I
theorem K3{Y:Type}{P:List Y->Prop}(h:∀a0 I A,P [a0,I,A])(l:List Y)(e:l.length=3):P l:=by
 match l,e with
 |[a0,I,A],_=>exact h a0 I A
theorem K4{Y:Type}{P:List Y->Prop}(h:∀a0 I A H,P [a0,I,A,H])(l:List Y)(e:l.length=4):P l:=by
 match l,e with
 |[a0,I,A,H],_=>exact h a0 I A H
theorem fx{K:Waa}{h:Heap}{C:Str->Option Value}(X:K.In h)(G:h.Ns mainGlobals C){d:Df}{U:Kd}{ds:List (Df×Kd)}(m:Str)(t c:Nat)(r:∀z∈ds,FactD K C z)(l:K.lookup (c+1)=some (fo d m t c):=by kernel_rfl)(q:LI K d (c+1) c U=true:=by kernel_rfl)
  (b:∀y:List Value,y.length=d.ps.length->bindArgs (PySem.W.fnOf d.name d.qual (cG d.st) (bC d.st) (aK d.st) .none .none .none (.str m t) none (.ref c) .none) ⟨y,[]⟩=Pure.pure (d.ps.zip y):=by first|exact(K1 λ_=>rfl)|exact(K2 λ_ _=>rfl)|exact(K3 λ_ _ _=>rfl)|exact(K4 λ_ _ _ _=>rfl)):∀z∈(d,U)::ds,FactD K C z:=fm (fk X G m t c _ l q b) r
theorem gives{w:World}{C:Str->Option Value}{p:Addr}{h:Heap} (X:(KK w.params).In h) (G:h.Ns mainGlobals C) (L:C "law"=some (.ref p)):
  ∃U:FuncData,(∀(s:Shared) (v:Value),BindsTo s U ⟨[v],[]⟩ [(ii,v)])/\∀base:Heap,(KK w.params).In base->base.Ns mainGlobals C->FnOk (PySem.Challenge.rw_nearpool_k50_whole_made_cells_run).prog w (KK w.params) C base CX0 10 p U [ii] (yA (KK w.params)):=by
 have M:Md (KK w.params) C pl.tb pl.pg pl.D w:=Pl.md HZ (fx X G im 187 20
  (fx X G im 187 27
  (fx X G im 187 32
  (fx X G im 187 37
  (fx X G im 187 44
  (fx X G eL 228 51
  (fx X G eL 228 58
  (fx X G eL 228 65
  (fx X G eL 228 72
  (fx X G eL 228 79
  (fx X G eL 228 86
  (fx X G eL 228 91
  (fx X G eL 228 98
  (fx X G na 346 105
  (fx X G na 346 112
  (fx X G na 346 119
  (fx X G na 346 124
  (fx X G dL 384 138
  (fx X G dL 384 145
  (fx X G dL 384 152
  (fx X G dL 384 159
  (fx X G dL 384 166
  (fx X G dL 384 173
  (fx X G dL 384 180
  (fx X G dL 384 185
  (fx X G dL 384 199
  (fx X G re 497 206
  (fx X G re 497 211
  (fx X G re 497 218
  (fx X G nb 525 225
  (fx X G nb 525 230
  (fx X G nb 525 235
  (fx X G nb 525 242
  (fx X G sn 563 249
  (fx X G sn 563 256
  (fx X G sn 563 263
  (fx X G nl 596 270
  (fx X G nl 596 277
  (fx X G nl 596 284
  (fx X G nl 596 291
  (fx X G lm 644 298
  (fx X G lm 644 305
  (fx X G lm 644 312
  (fx X G lm 644 319
  (fx X G lm 644 326
  (fx X G lm 644 333
  (fx X G lm 644 340
  (fx X G lm 644 347
  (fx X G lm 644 354
  (fx X G lm 644 359
  (fx X G lm 644 364
  (λ_ h=>by cases h)))))))))))))))))))))))))))))))))))))))))))))))))))) (fm (fC X G 258 (by kernel_rfl))
  (fm (fC X G 260 (by kernel_rfl))
  (fm (fC X G 240 (by kernel_rfl))
  (fm (fC X G 193 (by kernel_rfl))
  (fm (fC X G 266 (by kernel_rfl))
  (fm (fC X G 236 (by kernel_rfl))
  (fm (fC X G 244 (by kernel_rfl))
  (fm (fC X G 254 (by kernel_rfl))
  (fm (fC X G 264 (by kernel_rfl))
  (fm (fC X G 262 (by kernel_rfl))
  (fm (fC X G 191 (by kernel_rfl))
  (fm (fC X G 246 (by kernel_rfl))
  (fm (fC X G 348 (by kernel_rfl))
  (fm (fC X G 248 (by kernel_rfl))
  (fm (fC X G 250 (by kernel_rfl))
  (fm (fC X G 189 (by kernel_rfl))
  (fm (fC X G 256 (by kernel_rfl))
  (fm (fC X G 232 (by kernel_rfl))
  (fm (fC X G 242 (by kernel_rfl))
  (fm (fC X G 252 (by kernel_rfl))
  (fm (fC X G 230 (by kernel_rfl))
  (fm (fC X G 234 (by kernel_rfl))
  (fm (fC X G 238 (by kernel_rfl))
  (fm (fC X G 350 (by kernel_rfl))
  (λ_ h=>by cases h)))))))))))))))))))))))))
  (λx t=>PySem.W.mg_none_of X G (yB (abh.mp (by kernel_rfl:(pl.nog.all λx=>I9 (PySem.W.nsIn (KK w.params) mainGlobals x))=true) x t)))
  (λz f=>have q:=an2 (abh.mp (by kernel_rfl:(pl.fld.all λz=>K0 (KK w.params) (av (KK w.params) z.1)&&I9 (PySem.W.findIn (KK w.params) (.ref (av (KK w.params) z.1)) z.2))=true) z f);⟨yC q.1,yB q.2⟩)
  (λ_ h=>by cases h)
 have e:=L.symm.trans (abB X G (by kernel_rfl:PySem.W.nsIn (KK w.params) mainGlobals "law"=some (some (.ref 365))));cases e;have F:Fun (KK w.params) D_law.name D_law.qual D_law.st 365 _:=kG (by kernel_rfl:(KK w.params).lookup 365=some (fo D_law lm 644 364)) (by kernel_rfl) (by kernel_rfl);exact⟨_,λs v=>.of_eq rfl,λbase _ _=>M.law (n:=9) (j:=HY) (d:=D_law) rfl F pure⟩
theorem walk{l:PySem.W.OpenLaw}{q:Program}{loose:List Str}{XP:(Str->Option Value)->Heap->Prop}{YP:World->Heap->Prop}{d:DefRec}{K:Params->Waa}(Q:l.most=some 63)(O:d.params.defaults=[])
  (A:∀(w:World) (h:Heap),YP w h->(K w.params).In h)
  (F:∀(w:World) (C:Str->Option Value) (p:Addr) (h:Heap),(K w.params).In h->h.Ns mainGlobals C->C d.name=some (.ref p) ->
   ∃U:FuncData,(∀(s:Shared) (u:Value),BindsTo s U ⟨[u],[]⟩ [(ii,u)])/\∀base:Heap,(K w.params).In base->base.Ns mainGlobals C->FnOk l.prog w (K w.params) C base CX0 10 p U [ii] (yA (K w.params))):
  PySem.W.WalkO q loose XP YP l.row.toRowW d [] (λf vs=>PySem.call f vs):=
 L2.walk_of (n:=63) (k:=10) (x:=ii) (CX:=λ_=>CX0) (sp:=λw=>yA (K w.params)) Q (by decide) O ⟨rfl,by decide,by decide,rfl⟩ A F (λ_ _ a L t _ g=>⟨a,L,rfl,g,t,λ_=>rfl⟩) λ_ _ _ _ _ z=>z
end Np
open PySem PySem.W PyProof.Rows
set_option maxRecDepth 100000 in
set_option maxHeartbeats 0 in
theorem PySem.Challenge.cw_nearpool_k50_whole_made_cells_run_holds : PySem.Challenge.rw_nearpool_k50_whole_made_cells_run.Holds := by
 w_on
 refine holds_law Np.said λD=>?_;refine holds_open (q:=Np.qv) (loose:=_) (Xt:=Np.xt) (XP:=XL Np.qv []) (Yf:=Hook.obs Np.hk) (Ya:=Hook.val Np.hk) (YP:=Hook.says Np.hk) (N:=4300) (d:=Np.dd) (kwd:=[]) Np.left (Hook.of Np.hk) (Hook.keeps Np.hk) (λs e=>xl_of s (abW.mp e).1) XL.keeps (by kernel_rfl) (by kernel_rfl) (by kernel_rfl) (λs e=>recFacts_of (abW.mp e).2) (by rfl) D (by kernel_rfl) ⟨rfl,rfl,rfl,rfl,rfl,by decide +kernel⟩ ?hw ?hc
 case hw=>w_witness2
 case hc=>exact Np.walk (l:=PySem.Challenge.rw_nearpool_k50_whole_made_cells_run) (K:=Np.KK) (d:=Np.dd) rfl (by kernel_rfl) (λw h Y=>kIn_of Y) (λw C p h M G L=>Np.gives M G L)
