import PyProof.Rows.All
import Wide.All
import OpenK.AllK
import Wide.FinOn
import Lean
import PyProof.EqAt
import PyProof.EqKinds
import PyProof.TupleCall
import PyProof.Draws
import PyProof.ZipIter
import PyProof.SeqI3
import PyProof.CallStr
import PyProof.StrHeap
import PyProof.ReprBulk
import PyProof.Rows.ListRangeD
import PyProof.EnumFor
import PyProof.EnumStmt
import PyProof.EnumMake
import PyProof.AutoListH
import PyProof.RangeFor
import PyProof.Rows.Range3
import KE.KUnpack
import PyProof.ReprRoads
import PyProof.ReprLen
import PyProof.FitsInt
import PyProof.DictCompW
import KE.KDictSum
import PyProof.NeKinds
import PyProof.SumWalk
import PySem.Challenge.RW_nearpool_k29_words_at_even_places
set_option compiler.extract_closed false
set_option genSizeOf false
set_option Elab.async false
set_option linter.all false
set_option maxRecDepth 100000
noncomputable section
def Daa:=@of_decide_eq_true
def Dab:=@decide_eq_false
def Dac:=@decide_eq_true
def Dad:=@of_decide_eq_false
abbrev Waa:=PySem.W.Frag
def aaa:=@List.length_map
def aab:=@List.mem_cons
def aac:=@List.append_assoc
def aad:=@List.length_append
def aae:=@Nat.le_refl
def aaf:=@Bool.false_ne_true
def aag:=@List.mem_append_right
def aah:=@List.mem_append_left
def aai:=@List.mem_append
def aaj:=@List.mem_cons_self
def aak:=@List.getElem?_eq_getElem
def aal:=@List.mem_cons_of_mem
def aam:=@List.append_nil
def aan:=@List.getElem?_eq_some_iff
def aao:=@List.map_cons
def aap:=@List.length_cons
def aaq:=@List.not_mem_nil
def aar:=@Nat.le_trans
def aas:=@List.map_append
def aat:=@Nat.ne_of_lt
def aau:=@List.getElem?_map
def aav:=@List.mem_map
def aaw:=@List.mem_singleton
def aax:=@List.size_toArray
def aay:=@List.length_singleton
def aaz:=@List.perm_middle
def aaA:=@List.map_nil
def aaB:=@List.nil_append
def aaC:=@Nat.lt_of_lt_of_le
def aaD:=@List.nodup_append
def aaE:=@List.nodup_cons
def aaF:=@Bool.and_eq_true
def aaG:=@Nat.zero_le
def aaH:=@Option.some.inj
def aaI:=@List.mem_of_getElem?
def aaJ:=@Int.toNat_natCast
def aaK:=@List.set_cons_succ
def aaL:=@List.map_map
def aaM:=@List.cons_append
def aaN:=@Ne.symm
def aaO:=@List.getElem?_append_right
def aaP:=@Nat.lt_succ_self
def aaQ:=@Option.map_eq_some_iff
def aaR:=@Nat.le_of_lt
def aaS:=@List.replicate_succ
def aaT:=@Option.bind_eq_some_iff
def aaU:=@List.filter_append
def aaV:=@List.find?_cons
def aaW:=@List.length_take
def aaX:=@List.getElem?_append_left
def aaY:=@List.perm_append_comm
def aaZ:=@Nat.zero_add
def aa0:=@List.pairwise_cons
def aa1:=@List.findIdx?_cons
def aa2:=@Nat.sub_self
def aa3:=@List.getElem?_set_self
def aa4:=@List.getElem?_set_ne
def aa5:=@List.any_cons
def aa6:=@List.lookup_cons
def aa7:=@List.nodup_nil
def aa8:=@List.Perm.append_left
def aa9:=@Int.le_trans
def aba:=@Nat.lt_irrefl
def abb:=@List.mem_filter
def abc:=@Nat.ne_of_gt
def abd:=@List.of_mem_zip
def abe:=@PySem.mem_of_lookup
def abf:=@List.length_set
def abg:=@List.getD_eq_getElem?_getD
def abh:=@List.isEmpty_iff
def abi:=@List.any_eq_true
def abj:=@Sum.inl.inj
def abk:=@Option.isSome_iff_exists
def abl:=@List.length_drop
def abm:=@List.flatten_cons
def abn:=@List.length_nil
def abo:=@Nat.min_eq_left
def abp:=@List.zip_cons_cons
def abq:=@List.all_eq_true
def abr:=@Nat.add_le_add_right
def abt:=@List.pairwise_append
def abu:=@List.length_filter_le
def abv:=@Nat.succ_pos
def abw:=@PyProof.Rows.callWith_type1
def abx:=@Bool.eq_iff_iff
def aby:=@Bool.or_false
def abz:=@Nat.lt_succ_of_lt
def abA:=@Nat.le_succ
def abB:=@Nat.le_add_right
def abC:=@Bool.and_eq_true_iff
def abD:=@Bool.or_eq_true
def abE:=@Int.emod_nonneg
def abF:=@Int.emod_lt_of_pos
def abG:=@Bool.true_and
def abH:=@List.filter_cons_of_pos
def abI:=@List.filter_cons_of_neg
def abJ:=@Int.zero_add
def abK:=@List.getElem?_concat_length
def abL:=@Int.lt_of_lt_of_le
def abM:=@Int.not_lt
def abN:=@Int.not_le
def abO:=@Array.length_toList
def abP:=@List.set_comm
def abQ:=@List.length_replicate
def abR:=@Nat.lt_trans
def abS:=@List.getElem?_zip_eq_some
def abT:=@List.append_of_mem
def abU:=@List.drop_eq_getElem_cons
def abV:=@List.any_map
def abW:=@Bool.not_eq_true'
def abX:=@Int.le_refl
def abY:=@List.getElem?_cons_succ
def abZ:=@List.getElem?_eq_none
def ab0:=@List.countP_cons
def ab1:=@List.countP_le_length
def ab2:=@List.length_zip
def ab3:=@List.filter_cons
def ab4:=@List.filter_nil
def ab5:=@PySem.W.mg_of
def ab6:=@List.filterMap_cons
def ab7:=@Bool.false_and
def ab8:=@List.forIn_cons
def ab9:=@Nat.add_sub_cancel_left
def aca:=@Option.isSome_map
def acb:=@PySem.F.slot_dict_get
def acd:=@List.take_of_length_le
def ace:=@List.set_cons_zero
def acf:=@List.map_take
def acg:=@List.perm_append_comm_assoc
def ach:=@List.ext_getElem?
def aci:=@Classical.axiomOfChoice
def acj:=@List.drop_length
def ack:=@List.length_eq_zero_iff
def acl:=@PySem.F.plainAttrs_list
def acm:=@List.any_eq_false
def acn:=@Nat.add_le_add_left
def aco:=@Bool.and_self
def acp:=@List.length_pos_of_mem
def acq:=@List.pairwise_map
def acr:=@Bool.false_eq_true
def acs:=@Nat.lt_add_of_pos_right
def acu:=@PySem.W.cellsFrom_some
def acv:=@List.getElem?_replicate
def acw:=@Array.getElem?_toList
def acx:=@Nat.add_left_cancel
def acy:=@PySem.F.entry_dict_get
def acz:=@PySem.F.args_dict_get_2
def acA:=@List.Perm.append_right
def acB:=@List.zip_eq_zipWith
def acC:=@List.getElem_of_mem
def acD:=@Classical.choose_spec
def acE:=@Bool.or_eq_false_iff
def acF:=@List.map_congr_left
def acG:=@List.zipWith_cons_cons
def acH:=@PySem.F.slot_list_append
def acI:=@PySem.F.type_list_append
def acJ:=@List.findIdx?_eq_some_iff_getElem
def acK:=@Nat.le_of_ble_eq_true
def acL:=@Nat.mul_le_mul_left
def acM:=@List.getElem?_range
def acN:=@List.take_append_drop
def acO:=@List.getElem?_of_mem
def acP:=@List.countP_eq_length_filter
def acQ:=@List.length_pos_iff
def acR:=@List.set_append_right
namespace L2
open PySem PySem.Spec PyProof.Rows
section
abbrev Key:=Sum Int Str
def keyIs:Key->Value->Bool
 |.inl k,v=>Value.isInt k v
 |.inr x,v=>Value.isStrOf x v
def keyH(w:World):Key->Int
 |.inl k=>hashInt k
 |.inr x=>hashStr w x
theorem aQ:∀{k:Key}{v:Value},keyIs k v=true->(∃i t,k=Sum.inl i/\v=Value.int i t)\/(∃x t,k=Sum.inr x/\v=Value.str x t)
 |.inl i,v,h=>by obtain⟨t,e⟩:=Value.isInt_shape h;exact .inl ⟨i,t,rfl,e⟩
 |.inr x,v,h=>by obtain⟨t,e⟩:=Value.isStrOf_shape h;exact .inr ⟨x,t,rfl,e⟩
theorem qq(i:Int)(t:Tok):keyIs (.inl i) (.int i t)=true:=by simp[keyIs,Value.isInt]
theorem qr(x:Str)(t:Tok):keyIs (.inr x) (.str x t)=true:=by simp[keyIs,Value.isStrOf]
theorem AD(a b:Int):decide ((Sum.inl a:Key)=Sum.inl b)=(a==b):=by
 by_cases e:a=b
 ·subst e;simp
 ·have h:¬ (Sum.inl a:Key)=Sum.inl b:=λq=>e (abj q);rw[Dab h];exact(beq_eq_false_iff_ne.mpr e).symm
theorem AE(a b:Str):decide ((Sum.inr a:Key)=Sum.inr b)=decide (a=b):=by
 by_cases e:a=b
 ·subst e;simp
 ·have h:¬ (Sum.inr a:Key)=Sum.inr b:=λq=>e (Sum.inr.inj q);rw[Dab h,Dab e]
theorem AF(a:Int)(b:Str):decide ((Sum.inl a:Key)=Sum.inr b)=false:=Dab (λq=>nomatch q)
theorem AG(a:Str)(b:Int):decide ((Sum.inr a:Key)=Sum.inl b)=false:=Dab (λq=>nomatch q)
def aV(prog:Program)(w:World):PySem.KeyKind prog w Key where
 is:=keyIs
 hash:=keyH w
 inj:=λv a b g d=>by
  rcases aQ g with ⟨i,t,rfl,rfl⟩|⟨x,t,rfl,rfl⟩
  ·rcases aQ d with ⟨j,u,rfl,e⟩|⟨y,u,rfl,e⟩
   ·injection e with e1 _;rw[e1]
   ·exact nomatch e
  ·rcases aQ d with ⟨j,u,rfl,e⟩|⟨y,u,rfl,e⟩
   ·exact nomatch e
   ·injection e with e1 _;rw[e1]
 byValue:=λk v h=>by rcases aQ h with ⟨i,t,rfl,rfl⟩|⟨x,t,rfl,rfl⟩<;>rfl
 pyHash:=λc h=>by
  rcases aQ c with ⟨i,t,rfl,rfl⟩|⟨x,t,rfl,rfl⟩
  ·exact wpAny_pyHash_int h
  ·exact wpAny_pyHash_str h
 eqBool:=λf c h=>by
  rcases aQ f with ⟨i,t,rfl,rfl⟩|⟨x,t,rfl,rfl⟩
  ·rcases aQ c with ⟨j,u,rfl,rfl⟩|⟨y,u,rfl,rfl⟩
   ·rw[AD]at h;exact wpAny_eqBool_int h
   ·rw[AF]at h;exact SeqAt.EqAt.int_str i t y u _ _ _ _ h
  ·rcases aQ c with ⟨j,u,rfl,rfl⟩|⟨y,u,rfl,rfl⟩
   ·rw[AG]at h;exact SeqAt.EqAt.str_int x t j u _ _ _ _ h
   ·rw[AE]at h;exact wpAny_eqBool_str h
 «strs»:=λk x t v h=>by
  rcases aQ h with ⟨i,u,rfl,e⟩|⟨y,u,rfl,e⟩
  ·exact nomatch e
  ·injection e with e1 _;subst e1;cases v<;>rfl
theorem kB(prog:Program)(w:World)(i:Int)(t:Tok):(aV prog w).is (.inl i) (.int i t)=true:=qq i t
theorem mixKind_str(prog:Program)(w:World)(x:Str)(t:Tok):(aV prog w).is (.inr x) (.str x t)=true:=qr x t
end
section
inductive V where
 |non|bl (b:Bool)|int (i:Int)|str (x:Str)|byt (b:Array UInt8)|flt (b:UInt64)|ref (a:Addr)|ty (n:String)
 deriving DecidableEq
def RelV:V->Value->Prop
 |.non,u=>u=Value.none
 |.bl b,u=>u=Value.bool b
 |.int i,u=>∃t,u=Value.int i t
 |.str x,u=>∃t,u=Value.str x t
 |.byt b,u=>∃t,u=Value.bytes b t
 |.flt b,u=>∃t,u=Value.float b t
 |.ref a,u=>u=Value.ref a
 |.ty n,u=>u=Value.type n
abbrev Vals:List V->List Value->Prop:=Paired RelV
theorem Vals.length{xs:List V}{us:List Value}(r:Vals xs us):xs.length=us.length:=Paired.length r
theorem Vals.get:∀{xs:List V}{us:List Value}{i:Nat}{x:V},Vals xs us->xs[i]?=some x->∃u,us[i]?=some u/\RelV x u
 |_,_,_,_,.nil,e=>by simp at e
 |_,_,0,_,.cons r _,e=>by simp at e;subst e;exact⟨_,rfl,r⟩
 |_,_,i+1,x,.cons _ t,e=>by obtain⟨u,b,a⟩:=Vals.get (i:=i) (x:=x) t (by simpa using e);exact⟨u,by simpa using b,a⟩
theorem Vals.set(r:RelV x u):∀{xs:List V}{us:List Value} (i:Nat),Vals xs us->Vals (xs.set i x) (us.set i u)
 |_,_,_,.nil=>.nil
 |_,_,0,.cons _ t=>.cons r t
 |_,_,i+1,.cons q t=>.cons q (Vals.set r i t)
theorem Vals.append:∀{xs ys:List V}{us ws:List Value},Vals xs us->Vals ys ws->Vals (xs++ys) (us++ws)
 |_,_,_,_,.nil,s=>s
 |_,_,_,_,.cons r t,s=>.cons r (Vals.append t s)
theorem Vals.take:∀{xs:List V}{us:List Value} (n:Nat),Vals xs us->Vals (xs.take n) (us.take n)
 |_,_,0,_=>.nil
 |_,_,_+1,.nil=>.nil
 |_,_,n+1,.cons r t=>.cons r (Vals.take n t)
theorem Vals.drop:∀{xs:List V}{us:List Value} (n:Nat),Vals xs us->Vals (xs.drop n) (us.drop n)
 |_,_,0,r=>r
 |_,_,_+1,.nil=>.nil
 |_,_,n+1,.cons _ t=>Vals.drop n t
def RelO:Option V->Option Value->Prop
 |some v,some u=>RelV v u
 |none,none=>True
 |_,_=>False
def KV{a:Type}:List (a×V)->List (a×Value)->Prop:=Paired λ(p:a×V) (q:a×Value)=>p.1=q.1/\RelV p.2 q.2
def kV:Key->V
 |.inl i=>.int i
 |.inr x=>.str x
inductive HO where
 |lst (xs:List V)
 |tup (xs:List V)
 |dK (kvs:List (Key×V))|dT (kvs:List (List Key×V))
 |set (S:Int->Bool) (n:Nat)
 |ins (C dx:Addr) (fs:List (Str×V))
 |own (x:Addr)
 |xd (fs:List (Str×V))
 |met (f x:Addr)
 |rng (lo hi:Int)
 |frz (o:Obj) (u:HO)
 |tbl (ps:Array Value)
 |ext (φ:Heap->Prop)
abbrev Hp:=Addr->Option HO
def upd(H:Hp)(a:Addr)(o:HO):Hp:=λb=>if b=a then some o else H b
theorem aD{H:Hp}:upd H a o a=some o:=by unfold upd;rw[if_pos rfl]
theorem upd_ne{H:Hp}(h:b≠a):upd H a o b=H b:=by unfold upd;rw[if_neg h]
theorem D0{H:Hp}(h:H a=some o)(h':H b=some u)(d:o≠u):a≠b:=by intro e;subst e;rw[h]at h';exact d (aaH h')
theorem ao{H:Hp}(h:H a=some o)(h':H b=none):a≠b:=by intro e;subst e;rw[h]at h';cases h'
section
variable(P:Program)(w:World)
def Ho(h:Heap)(a:Addr)(items:Array Value):Prop:=∃o,h.get? a=some o/\o.cls=.type "tuple"/\∃n,o.data=.seq items n/\o.dict=none
def ObjOk(H:Hp)(h:Heap)(a:Addr):HO->Prop
 |.lst xs=>xs.length<=sizeLine/\∃(b:List Value) (n:Nat),Vals xs b/\h.get? a=some { cls:=.type "list",data:=.seq b.toArray n }
 |.tup xs=>xs.length<=sizeLine/\∃b:List Value,Vals xs b/\Ho h a b.toArray
 |.dK kvs=>kvs.length<=sizeLine/\(a==sysModules)=false/\∃g,KV kvs g/\h.DictOf (aV P w) a g
 |.dT kvs=>kvs.length<=sizeLine/\(a==sysModules)=false/\∃xs:List (List Key×Addr×Value),
   Paired (λ(p:List Key×V) (q:List Key×Addr×Value)=>p.1=q.1/\H q.2.1=some (.tup (p.1.map kV))/\RelV p.2 q.2.2) kvs xs /\
   ∃o d j,h.get? a=some o/\o.ExactDict/\o.data=.dict d j/\d.toList=xs.map (entryOfKey (tupleKind (aV P w)))/\(xs.map (·.1)).Nodup
 |.set S n=>h.SetOf (intKind P w) a S n
 |.ins C dx fs=>H dx=some (.own a)/\fs.length<=1000/\dx≠a/\h.get? a=some (PySem.W.instObj C dx) /\
   ∃c,h.Ns1 dx c/\(∀f,RelO (fs.lookup f) (c f))/\PySem.Within c (fs.map (·.1))
 |.own _=>∃o,h.get? a=some o
 |.xd fs=>∃c,h.Ns1 a c/\∀f,RelO (fs.lookup f) (c f)
 |.rng lo hi=>∃t u v,h.get? a=some { cls:=.type "range",data:=.fields #[.int lo t,.int hi u,.int 1 v] }
 |.frz o u=>h.get? a=some o/\ObjOk H h a u
 |.tbl ps=>h.get? a=some { cls:=.none,data:=.fields ps }
 |.met f x=>h.get? a=some (PySem.W.methodObj (.ref f) (.ref x))
 |.ext φ=>φ h/\(∃o,h.get? a=some o)/\∀i e:Heap,φ i->(∀o,i.get? a=some o->e.get? a=some o)->φ e
def HOk(H:Hp)(h:Heap):Prop:=∀a o,H a=some o->ObjOk P w H h a o
end
section
variable{P:Program}{w:World}{H H':Hp}{h h':Heap}{a:Addr}{o:HO}
theorem ObjOk.lt(x:ObjOk P w H h a o):a<h.objs.size:=by
 cases o with
 |lst d=>obtain⟨_,_,_,_,e⟩:=x;exact Heap.lt_size e
 |tup d=>obtain⟨_,_,_,o,e,_⟩:=x;exact Heap.lt_size e
 |dK b=>obtain⟨_,_,_,_,o,_,_,e,_⟩:=x;exact Heap.lt_size e
 |dT b=>obtain⟨_,_,_,_,o,_,_,e,_⟩:=x;exact Heap.lt_size e
 |set S n=>obtain⟨o,_,_,_,e,_⟩:=x;exact Heap.lt_size e
 |ins C j c=>obtain⟨_,_,_,e,_⟩:=x;exact Heap.lt_size e
 |own y=>obtain⟨_,e⟩:=x;exact Heap.lt_size e
 |xd c=>obtain⟨_,⟨_,_,_,e,_⟩,_⟩:=x;exact Heap.lt_size e
 |rng k m=>obtain⟨_,_,_,e⟩:=x;exact Heap.lt_size e
 |frz i u=>obtain⟨e,_⟩:=x;exact Heap.lt_size e
 |tbl l=>exact Heap.lt_size (show h.get? a=some _ from x)
 |met f y=>exact Heap.lt_size (show h.get? a=some _ from x)
 |ext g=>obtain⟨_,⟨_,e⟩,_⟩:=x;exact Heap.lt_size e
theorem Paired.mapP{d c:Type}{F G:d->c->Prop}:∀{l₁:List d}{l₂:List c},Paired F l₁ l₂->(∀a b,F a b->G a b)->Paired G l₁ l₂
 |_,_,.nil,_=>.nil
 |_,_,.cons r t,f=>.cons (f _ _ r) (Paired.mapP t f)
theorem ObjOk.kv(x:ObjOk P w H h a o)(k:∀b u,(b=a\/H b=some (.own a))->h.get? b=some u->h'.get? b=some u)
  (N:∀b,H b=some (.own a)->H' b=some (.own a)) (O:∀b xs,H b=some (.tup xs)->H' b=some (.tup xs)):ObjOk P w H' h' a o:=by
 induction o with
 |lst xs=>obtain⟨z,l,n,r,e⟩:=x;exact⟨z,l,n,r,k _ _ (.inl rfl) e⟩
 |tup xs=>obtain⟨z,l,r,g,e,c⟩:=x;exact⟨z,l,r,g,k _ _ (.inl rfl) e,c⟩
 |dK A=>obtain⟨z,y,L,r,g,i,j,e,c⟩:=x;exact⟨z,y,L,r,g,i,j,k _ _ (.inl rfl) e,c⟩
 |dT A=>obtain⟨z,y,xs,r,g,i,j,e,c⟩:=x;exact⟨z,y,xs,Paired.mapP r λp q z=>⟨z.1,O _ _ z.2.1,z.2.2⟩,g,i,j,k _ _ (.inl rfl) e,c⟩
 |set S n=>obtain⟨g,i,j,t,e,c⟩:=x;exact⟨g,i,j,t,k _ _ (.inl rfl) e,c⟩
 |ins C X I=>obtain⟨d,z,J,e,m,⟨s,i,j,M,c⟩,r⟩:=x;exact⟨N _ d,z,J,k _ _ (.inl rfl) e,m,⟨s,i,j,k _ _ (.inr d) M,c⟩,r⟩
 |own y=>obtain⟨g,e⟩:=x;exact⟨g,k _ _ (.inl rfl) e⟩
 |xd I=>obtain⟨m,⟨s,i,j,e,c⟩,r⟩:=x;exact⟨m,⟨s,i,j,k _ _ (.inl rfl) e,c⟩,r⟩
 |rng Q T=>obtain⟨t,u,v,e⟩:=x;exact⟨t,u,v,k _ _ (.inl rfl) e⟩
 |frz g u G=>obtain⟨e,q⟩:=x;exact⟨k _ _ (.inl rfl) e,G q⟩
 |tbl B=>have e:h.get? a=some { cls:=.none,data:=.fields B }:=x;show h'.get? a=some { cls:=.none,data:=.fields B };exact k a _ (.inl rfl) e
 |met f y=>have e:h.get? a=some (PySem.W.methodObj (.ref f) (.ref y)):=x;show h'.get? a=some (PySem.W.methodObj (.ref f) (.ref y));exact k a _ (.inl rfl) e
 |ext U=>obtain⟨p,⟨o,e⟩,D⟩:=x;exact⟨D _ _ p λo q=>k _ _ (.inl rfl) q,⟨o,k _ _ (.inl rfl) e⟩,D⟩
theorem HOk.lt(x:HOk P w H h)(e:H a=some o):a<h.objs.size:=(x a o e).lt
theorem HOk.fresh(x:HOk P w H h)(e:h.objs.size<=a):H a=none:=by
 cases q:H a with
 |none=>rfl
 |some u=>exact absurd (aaC (x.lt q) e) (aba _)
theorem HOk.kept(x:HOk P w H h)(k:∀b u,h.get? b=some u->h'.get? b=some u):HOk P w H h':=λa o e=>
 (x a o e).kv (λb u _ q=>k b u q) (λ_ q=>q) λ_ _ q=>q
theorem HOk.laid(x:HOk P w H h)(k:∀b u,h.get? b=some u->h'.get? b=some u)(i:h.objs.size<=a)(d:ObjOk P w (upd H a o) h' a o):HOk P w (upd H a o) h':=λb u e=>by
 have f:=x.fresh i;by_cases g:b=a
 ·subst g;rw[aD]at e;cases e;exact d
 ·rw[upd_ne g]at e;exact(x b u e).kv (λc v _ q=>k c v q) (λc q=>by rw[upd_ne (ao q f)];exact q) λc j q=>by rw[upd_ne (ao q f)];exact q
end
def Rd(H:Hp)(a:Addr)(u:HO):Prop:=H a=some u\/∃o,H a=some (.frz o u)
theorem Rd.ok{P:Program}{w:World}(r:Rd H a u)(x:HOk P w H h):ObjOk P w H h a u:=by
 rcases r with r|⟨o,r⟩
 ·exact x a u r
 ·obtain⟨_,q⟩:=x a _ r;exact q
def D1:Option HO->Prop
 |some (.lst _)=>True
 |some (.dK _)=>True
 |some (.dT _)=>True
 |some (.set _ _)=>True
 |some (.ins _ _ _)=>True
 |some (.ext _)=>True
 |_=>False
section
variable{P:Program}{w:World}{H:Hp}{h h':Heap}{x e:Addr}{o':HO}
theorem HOk.write(t:HOk P w H h)(j:D1 (H x))(p:e=x\/H e=some (.own x))(k:∀b u,b≠e->h.get? b=some u->h'.get? b=some u)(m:∃u,h'.get? e=some u)
  (n:ObjOk P w (upd H x o') h' x o'):HOk P w (upd H x o') h':=λb u q=>by
 have d:∀c y,H c=some (.own y)->c≠x:=λc y r z=>by subst z;rw[r]at j;exact j
 have f:∀c g,H c=some (.tup g)->c≠x:=λc g r z=>by subst z;rw[r]at j;exact j
 by_cases i:b=x
 ·subst i;rw[aD]at q;cases q;exact n
 ·rw[upd_ne i]at q;by_cases a:b=e
  ·have o:H b=some (.own x):=by
    rcases p with z|z
    ·exact absurd (a.trans z) i
    ·rw[a];exact z
   rw[q]at o;cases o;obtain⟨v,s⟩:=m;exact⟨v,by rw[a];exact s⟩
  ·refine(t b u q).kv (λc v l r=>k c v ?_ r) (λc r=>by rw[upd_ne (d c b r)];exact r) λc g r=>by rw[upd_ne (f c g r)];exact r
   rcases l with rfl|l
   ·exact a
   ·rintro rfl;rcases p with z|z
    ·exact d c b l z
    ·rw[l]at z;cases z;exact i rfl
end
structure Un (fs ex:List Addr)(H H':Hp)(h h':Heap):Prop where
 keep:∀b o,h.get? b=some o->H b=none->b ∉ fs->b ∉ ex->h'.get? b=some o
 slot:∀b o,h.get? b=some o->H b=none->b∈fs->b ∉ ex->∃sl,h'.get? b=some { o with slots:=sl }
 free:∀b o,h.get? b=some o->H b=none->b ∉ ex->H' b=none
 there:∀b o,h.get? b=some o->b ∉ ex->∃o',h'.get? b=some o'
 tups:∀b xs,H b=some (.tup xs)->H' b=some (.tup xs)
 frzs:∀b o u,H b=some (.frz o u)->H' b=some (.frz o u)
 tbls:∀b ps,H b=some (.tbl ps)->∃more,H' b=some (.tbl (ps++more))
section
variable{fs fs' ex ex':List Addr}{H H1 H2:Hp}{h h1 h2 h':Heap}{a x e:Addr}{o:HO}
theorem Un.any(u:Un fs ex H H1 h h1){b:Addr}{c:Obj}(q:h.get? b=some c)(n:H b=none)(d:b ∉ ex):∃g,h1.get? b=some { c with slots:=g }:=by
 by_cases f:b∈fs
 ·exact u.slot b c q n f d
 ·exact⟨c.slots,u.keep b c q n f d⟩
theorem Un.kept(k:∀b u,h.get? b=some u->h'.get? b=some u):Un fs ex H H h h':=
 ⟨λb c q _ _ _=>k b c q,λb c q _ _ _=>⟨c.slots,k b c q⟩,λ_ _ _ n _=>n,λb c q _=>⟨c,k b c q⟩,λ_ _ q=>q,λ_ _ _ q=>q,λ_ d q=>⟨#[],by rw[q];simp⟩⟩
theorem Un.refl:Un fs ex H H h h:=Un.kept λ_ _ q=>q
theorem Un.laid(k:∀b u,h.get? b=some u->h'.get? b=some u)(f:h.objs.size<=a)(c:H a=none):Un fs ex H (upd H a o) h h' where
 keep:=λb u q _ _ _=>k b u q
 slot:=λb u q _ _ _=>⟨u.slots,k b u q⟩
 free:=λb u q n _=>by rw[upd_ne (aat (aaC (Heap.lt_size q) f))];exact n
 there:=λb u q _=>⟨u,k b u q⟩
 tups:=λb d q=>by rw[upd_ne (ao q c)];exact q
 frzs:=λb u d q=>by rw[upd_ne (ao q c)];exact q
 tbls:=λb g q=>⟨#[],by rw[upd_ne (ao q c),q];simp⟩
theorem Un.write(d:D1 (H x))(p:e=x\/H e=some (.own x))(k:∀b u,b≠e->h.get? b=some u->h'.get? b=some u)(g:∃u,h'.get? e=some u):Un fs ex H (upd H x o) h h':=by
 have i:∀b,H b=none->b≠x:=λb n z=>by subst z;rw[n]at d;exact d
 have j:∀b,H b=none->b≠e:=λb n z=>by
  subst z;rcases p with r|r
  ·exact i b n r
  ·rw[n]at r;cases r
 have f:∀b u,H b=some u->¬ D1 (some u)->b≠x:=λb u q m z=>by subst z;rw[q]at d;exact m d
 refine⟨λb u q n _ _=>k b u (j b n) q,λb u q n _ _=>⟨u.slots,k b u (j b n) q⟩,λb u q n _=>by rw[upd_ne (i b n)];exact n,λb u q _=>?_,
  λb l q=>by rw[upd_ne (f b _ q λz=>z)];exact q,λb u l q=>by rw[upd_ne (f b _ q λz=>z)];exact q,λb s q=>⟨#[],by rw[upd_ne (f b _ q λz=>z),q];simp⟩⟩
 by_cases c:b=e
 ·subst c;exact g
 ·exact⟨u,k b u c q⟩
end
def trk(h:Heap)(H:Hp):List Addr:=(List.range h.objs.size).filter λa=>(H a).isSome
def jo(h:Heap)(H:Hp):Heap:=PySem.W.hideAll h (trk h H)
theorem qt(h:Heap)(H:Hp):(jo h H).objs.size=h.objs.size:=PySem.W.hideAll_size _ _
theorem hidT_get(e:h.get? b=some o)(n:H b=none):(jo h H).get? b=some o:=
 PySem.W.hideAll_get _ e λa=>by have q:(H b).isSome=true:=(abb.mp a).2;rw[n]at q;simp at q
theorem wU(e:(jo h H).get? b=some o):h.get? b=some o/\H b=none:=by
 have a:h.get? b=some o:=PySem.W.of_hideAll (trk h H) e;refine⟨a,?_⟩;cases q:H b with
 |none=>rfl
 |some x=>have c:b∈trk h H:=abb.mpr ⟨List.mem_range.mpr (Heap.lt_size a),by simp[q]⟩;have z:(jo h H).get? b=none:=PySem.W.hideAll_none (trk h H) c;rw[z]at e;cases e
end
section
structure Mod (K:Waa)(mg:Str->Option Value)(base:Heap):Prop where
 kin:K.In base
 glob:base.Ns mainGlobals mg
 blt:∃mb,base.Ns builtinsNs mb/\∀x:Str,x≠"__name__"->mb x=bootBuiltins x
 nolimit:base.NoLimit
structure Cx where
 prog:Program
 w:World
 K:Waa
 mg:Str->Option Value
 base:Heap
 A:Around
 N:List Str
 s₀:Shared
 H₀:Hp
 env:Env
 outer:List Env
 stack:List Env
 ex:List Addr
 fn:Str->Bool
 calm:Bool
 pn:List (Addr×Obj)
 xe:Value->Shared->Prop
def sf(l:List Env):List Addr:=l.filterMap (·.frame)
abbrev Cx.fs(X:Cx):List Addr:=sf X.outer
def Vis(sc:Scope)(x:Str):Prop:=sc.names.lookup x=some .local\/sc.names.lookup x=some .cell\/sc.names.lookup x=some .free
def Loc(sc:Scope)(x:Str):Prop:=sc.names.lookup x=some .local\/sc.names.lookup x=some .cell
def Look(env:Env)(h:Heap)(m:Str->Option Value)(x:Str)(u:Value):Prop:=
 (env.kindOf x=some .local/\m x=some u)\/((env.kindOf x=some .cell\/env.kindOf x=some .free)/\∃c,env.cells.lookup x=some c/\h.IsCell c (some u))
structure Cx.Ok (X:Cx):Prop where
 mod:Mod X.K X.mg X.base
 kind:X.env.scope.kind=.function
 glob:X.env.globals=mainGlobals
 blt:X.env.builtins=builtinsNs
 above:X.s₀.heap.objs.size<=X.env.locals
 inj:∀x y c,X.env.cells.lookup x=some c->X.env.cells.lookup y=some c->x=y
 has:∀x,(X.env.kindOf x=some .cell\/X.env.kindOf x=some .free)->∃c,X.env.cells.lookup x=some c
 cab:∀x c,X.fn x=true->X.env.cells.lookup x=some c->X.s₀.heap.objs.size<=c
 hd:X.calm=true->X.A.handled=none
 frames:X.A.frames=some X.stack
 stk:X.stack=X.outer\/(X.stack=X.env::X.outer/\X.env.frame=some X.env.locals)
 exf:∀b∈X.ex,b≠X.env.locals/\∀x c,X.env.cells.lookup x=some c->c≠b
 bs:∀b o,X.base.get? b=some o->X.s₀.heap.get? b=some o/\X.H₀ b=none
 bsz:X.base.objs.size<=X.s₀.heap.objs.size
 noex:∀b o,X.base.get? b=some o->b ∉ X.ex
 exfs:∀b∈X.ex,b ∉ X.fs
 funs:X.s₀.heap.FunFrames X.base X.outer
 frf:∀b∈X.fs,X.H₀ b=none
structure Inv (X:Cx)(pins:List (Addr×Obj))(σ:List (Option V))(H:Hp)(s:Shared):Prop where
 ok:X.Ok
 os:s.os=X.s₀.os
 bare:AllBare s.gens
 base:Un X.fs X.ex X.H₀ H X.s₀.heap s.heap
 loc:∃m,s.heap.Ns X.env.locals m/\∀(i:Nat) (x:Str) (v:V),X.N[i]?=some x->σ[i]?=some (some v)->Vis X.env.scope x->∃u,RelV v u/\Look X.env s.heap m x u
 cell:∀x c,X.env.cells.lookup x=some c->∃v,s.heap.IsCell c v
 free:H X.env.locals=none
 freeC:∀x c,X.env.cells.lookup x=some c->H c=none
 pin:∀p∈X.pn++pins,s.heap.get? p.1=some p.2/\H p.1=none/\p.1≠X.env.locals/\p.1 ∉ X.fs/\∀v,p.2.data≠.cell v
 hok:HOk X.prog X.w H s.heap
 len:σ.length=X.N.length
section
variable{X:Cx}{pins:List (Addr×Obj)}{σ:List (Option V)}{H H':Hp}{s:Shared}{h':Heap}
theorem Cx.Ok.nofr(c:X.Ok)(e:X.base.get? b=some o):b ∉ X.fs:=λa=>by have:=(c.funs.mem a).1;rw[e]at this;cases this
theorem Inv.bs(I:Inv X pins σ H s):∀b o,X.base.get? b=some o->s.heap.get? b=some o/\H b=none:=λb o e=>
 ⟨I.base.keep b o (I.ok.bs b o e).1 (I.ok.bs b o e).2 (I.ok.nofr e) (I.ok.noex b o e),I.base.free b o (I.ok.bs b o e).1 (I.ok.bs b o e).2 (I.ok.noex b o e)⟩
theorem Inv.bk(I:Inv X pins σ H s):∀b o,X.base.get? b=some o->s.heap.get? b=some o:=λb o e=>(I.bs b o e).1
theorem Inv.mod(I:Inv X pins σ H s):Mod X.K X.mg X.base:=I.ok.mod
theorem Inv.kIn(I:Inv X pins σ H s):X.K.In s.heap:=I.ok.mod.kin.keeps I.bk
theorem Inv.fr(I:Inv X pins σ H s):∃m,Fr X.base X.env.locals s.heap m:=
 let ⟨m,a,_⟩:=I.loc
 ⟨m,a,I.bk,aar I.ok.bsz I.ok.above⟩
theorem Inv.lt(I:Inv X pins σ H s):X.env.locals<s.heap.objs.size:=let ⟨_,a,_⟩:=I.loc;a.lt
theorem Inv.sz(I:Inv X pins σ H s):X.s₀.heap.objs.size<=s.heap.objs.size:=aar I.ok.above (aaR I.lt)
theorem Inv.nofs(I:Inv X pins σ H s)(h:s.heap.objs.size<=a):a ∉ X.fs:=λb=>by obtain⟨_,o,c,_⟩:=I.ok.funs.mem b;exact absurd (aaC (Heap.lt_size c) (aar I.sz h)) (aba _)
theorem Inv.cne(I:Inv X pins σ H s):∀x c,X.env.cells.lookup x=some c->c≠X.env.locals:=λx c e z=>by obtain⟨v,o,d,f⟩:=I.cell x c e;obtain⟨m,⟨h,i,g,b,a,_⟩,_⟩:=I.loc;rw[z,b]at d;cases d;rw[a]at f;cases f
theorem Inv.funs(I:Inv X pins σ H s):s.heap.FunFrames X.base X.outer:=by
 have c:∀(l:List Env),(∀b∈sf l,b∈X.fs)->X.s₀.heap.FunFrames X.base l->s.heap.FunFrames X.base l:=by
  intro l;induction l with
  |nil=>intro _ _;trivial
  |cons n r i=>intro g k;obtain⟨h,⟨L,o,f,m,p,q⟩,j⟩:=k;have d:L∈X.fs:=g L (by unfold sf;rw[ab6,f];exact aaj);obtain⟨t,e⟩:=I.base.slot L o p (I.ok.frf L d) d λz=>I.ok.exfs L z d;exact⟨h,⟨L,_,f,m,e,q⟩,i (λb a=>g b (by unfold sf;rw[ab6,f];exact aal _ a)) j⟩
 exact c X.outer (λ_ a=>a) I.ok.funs
theorem Inv.stack(I:Inv X pins σ H s):s.heap.FunFrames X.base X.stack:=by
 rcases I.ok.stk with e|⟨e,b⟩
 ·rw[e];exact I.funs
 ·rw[e];obtain⟨m,a,_⟩:=I.loc;refine .cons (by rw[I.ok.kind];decide) b a ?_ I.funs;exact Heap.get?_none_of_le (aar I.ok.bsz I.ok.above)
theorem Inv.n4(I:Inv X pins σ H s):∀b∈sf X.stack,b∈X.env.locals::X.fs:=λb a=>by
 rcases I.ok.stk with e|⟨e,c⟩
 ·rw[e]at a;exact aal _ a
 ·rw[e]at a;unfold sf at a;rw[ab6,c]at a;exact a
theorem Inv.sj(I:Inv X pins σ H s):∀b∈sf X.stack,H b=none:=λb a=>by
 rcases aab.mp (I.n4 b a) with e|a
 ·rw[e];exact I.free
 ·obtain⟨_,o,c,_⟩:=I.ok.funs.mem a;exact I.base.free b o c (I.ok.frf b a) λz=>I.ok.exfs b z a
theorem Inv.step{g':Array GenState}{t':Nat}{d':Drawn}{ch:List Addr}(I:Inv X pins σ H s)
  (g:∀b∈ch,(b∈X.ex\/X.s₀.heap.objs.size<=b)/\b≠X.env.locals/\(∀x c,X.env.cells.lookup x=some c->c≠b)/\∀p∈X.pn++pins,p.1≠b)
  (h:∀b o,b≠X.env.locals->b ∉ X.fs->b ∉ ch->s.heap.get? b=some o->H b=none->h'.get? b=some o)
  (B:∀b o,b≠X.env.locals->b∈X.fs->b ∉ ch->s.heap.get? b=some o->H b=none->∃Y,h'.get? b=some { o with slots:=Y }) (free:∀b o,b ∉ ch->s.heap.get? b=some o->H b=none->H' b=none)
  (D:∀b o,b ∉ ch->s.heap.get? b=some o->∃L,h'.get? b=some L)
  (O:∀b A,H b=some (.tup A)->H' b=some (.tup A)) (J:∀b o u,H b=some (.frz o u)->H' b=some (.frz o u)) (N:∀b T,H b=some (.tbl T)->∃M,H' b=some (.tbl (T++M)))
  (ns:∀m,s.heap.Ns X.env.locals m->h'.Ns X.env.locals m) (U:HOk X.prog X.w H' h') (hg:AllBare g'):
  Inv X pins σ H' { s with heap:=h',gens:=g',drawn:=d',toks:=t' }:=by
 have S:∀b o,X.s₀.heap.get? b=some o->b≠X.env.locals:=λb o e=>aat (aaC (Heap.lt_size e) I.ok.above);have y:∀b o,X.s₀.heap.get? b=some o->b ∉ X.ex->b ∉ ch:=λb o e a C=>by
  rcases (g b C).1 with z|z
  ·exact a z
  ·exact absurd (aaC (Heap.lt_size e) z) (aba _)
 have f:∀x c,X.env.cells.lookup x=some c->∀v,s.heap.IsCell c v->h'.IsCell c v:=λx c e v ⟨o,G,Z⟩=>by
  have j:c ∉ ch:=λz=>(g c z).2.2.1 x c e rfl;by_cases hc:c∈X.fs
  ·obtain⟨Y,q⟩:=B c o (I.cne x c e) hc j G (I.freeC x c e);exact⟨_,q,Z⟩
  ·exact⟨o,h c o (I.cne x c e) hc j G (I.freeC x c e),Z⟩
 refine⟨I.ok,I.os,hg,⟨λb o e n C a=>?_,λb o e n C a=>?_,λb o e n a=>?_,λb o e a=>?_,λb A e=>O b A (I.base.tups b A e),λb o A e=>J b o A (I.base.frzs b o A e),λb T e=>?_⟩,?_,λx c e=>?_,?_,λx c e=>?_,λp hp=>?_,U,I.len⟩
 ·exact h b o (S b o e) C (y b o e a) (I.base.keep b o e n C a) (I.base.free b o e n a)
 ·obtain⟨Y,t⟩:=I.base.slot b o e n C a;obtain⟨a0,Q⟩:=B b _ (S b o e) C (y b o e a) t (I.base.free b o e n a);exact⟨a0,Q⟩
 ·obtain⟨L,t⟩:=I.base.there b o e a;exact free b L (y b o e a) t (I.base.free b o e n a)
 ·obtain⟨L,t⟩:=I.base.there b o e a;exact D b L (y b o e a) t
 ·obtain⟨m1,t⟩:=I.base.tbls b T e;obtain⟨m2,Q⟩:=N b _ t;exact⟨m1++m2,by rw[Q,Array.append_assoc]⟩
 ·obtain⟨m,hn,hl⟩:=I.loc;refine⟨m,ns m hn,λi x v t Q e3=>?_⟩;obtain⟨u,r,l⟩:=hl i x v t Q e3;refine⟨u,r,?_⟩;rcases l with l|⟨k,c,e,z⟩
  ·exact .inl l
  ·exact .inr ⟨k,c,e,f x c e _ z⟩
 ·obtain⟨v,z⟩:=I.cell x c e;exact⟨v,f x c e v z⟩
 ·obtain⟨m,⟨o,_,_,G,_⟩,_⟩:=I.loc;exact free _ o (λz=>(g _ z).2.1 rfl) G I.free
 ·obtain⟨v,o,G,Z⟩:=I.cell x c e;exact free c o (λz=>(g c z).2.2.1 x c e rfl) G (I.freeC x c e)
 ·obtain⟨e,n,ne,nf,d⟩:=I.pin p hp;have j:p.1 ∉ ch:=λz=>(g p.1 z).2.2.2 p hp rfl;exact⟨h p.1 p.2 ne nf j e n,free p.1 p.2 j e n,ne,nf,d⟩
theorem Inv.un{t':Nat}(I:Inv X pins σ H s)(u:Un X.fs [] H H' s.heap h')(f:HOk X.prog X.w H' h'):Inv X pins σ H' { s with heap:=h',toks:=t' }:=by
 obtain⟨m,⟨o,l,v,h,r⟩,_⟩:=id I.loc;obtain⟨t,k⟩:=u.any h I.free (by simp);exact I.step (ch:=[]) (λ_ z=>nomatch z) (λb o _ c _ e n=>u.keep b o e n c (by simp)) (λb o _ c _ e n=>u.slot b o e n c (by simp)) (λb o _ e n=>u.free b o e n (by simp)) (λb o _ e=>u.there b o e (by simp)) u.tups u.frzs u.tbls (λq i=>by
  obtain⟨p,g,d,a,j⟩:=i;rw[h]at a;cases a;exact⟨_,g,d,k,j⟩) f I.bare
theorem Inv.call{t':Nat}{d':Drawn}(I:Inv X pins σ H s)(u:Un (sf X.stack) ch H H' s.heap h')(h:HOk X.prog X.w H' h')(t:AllBare g')
  (f:∀b∈ch,(b∈X.ex\/X.s₀.heap.objs.size<=b)/\b≠X.env.locals/\(∀x c,X.env.cells.lookup x=some c->c≠b)/\∀p∈X.pn++pins,p.1≠b):
  Inv X pins σ H' { s with heap:=h',gens:=g',drawn:=d',toks:=t' }:=by
 obtain⟨m,⟨o,y,D,k,r⟩,_⟩:=id I.loc;obtain⟨C,j⟩:=u.any k I.free λz=>(f _ z).2.1 rfl;exact I.step f (λb o j q a e n=>u.keep b o e n (λz=>(aab.mp (I.n4 b z)).elim j q) a) (λb o _ _ a e n=>u.any e n a) (λb o a e n=>u.free b o e n a) (λb o a e=>u.there b o e a) u.tups u.frzs u.tbls (λB l=>by
  obtain⟨A,i,g,d,v⟩:=l;rw[k]at d;cases d;exact⟨_,i,g,j,v⟩) h t
theorem Inv.turned{t':Nat}(I:Inv X pins σ H s)(k:∀b o,b≠it->s.heap.get? b=some o->h'.get? b=some o)(w:H it=none)(f:it≠X.env.locals)
  (y:it∈X.ex\/X.s₀.heap.objs.size<=it) (i:∀x c,X.env.cells.lookup x=some c->c≠it) (l:∀p∈X.pn++pins,p.1≠it):Inv X pins σ H { s with heap:=h',toks:=t' }:=by
 have d:∀b u,H b=some u->b≠it:=λb u e z=>by rw[z,w]at e;cases e
 refine I.step (ch:=[it]) (λb j=>?_) (λb o _ _ a e _=>k b o (λz=>a (by simp[z])) e) (λb o _ _ a e _=>⟨o.slots,k b o (λz=>a (by simp[z])) e⟩) (λ_ _ _ _ n=>n)
  (λb o a e=>⟨o,k b o (λz=>a (by simp[z])) e⟩) (λ_ _ e=>e) (λ_ _ _ e=>e) (λb B e=>⟨#[],by rw[e];simp⟩) (λm g=>?_) (λb u e=>?_) I.bare
 ·have e:b=it:=by simpa using j
  subst e;exact⟨y,f,i,l⟩
 ·obtain⟨o,h,t,A,r⟩:=g;exact⟨o,h,t,k _ o (aaN f) A,r⟩
 ·refine(I.hok b u e).kv (λc v a q=>k c v ?_ q) (λ_ q=>q) λ_ _ q=>q;rcases a with z|z
  ·rw[z];exact d b u e
  ·exact d c _ z
theorem Inv.tok(I:Inv X pins σ H s)(t:Nat):Inv X pins σ H { s with toks:=t }:=I.un (h':=s.heap) (t':=t) Un.refl I.hok
theorem Inv.kept{t':Nat}(I:Inv X pins σ H s)(k:∀b u,s.heap.get? b=some u->h'.get? b=some u):Inv X pins σ H { s with heap:=h',toks:=t' }:=I.un (Un.kept k) (I.hok.kept k)
theorem Inv.laid{a:Addr}{o:HO}{t':Nat}(I:Inv X pins σ H s)(k:∀b u,s.heap.get? b=some u->h'.get? b=some u)(c:s.heap.objs.size<=a)(d:ObjOk X.prog X.w (upd H a o) h' a o):
  Inv X pins σ (upd H a o) { s with heap:=h',toks:=t' }:=I.un (Un.laid k c (I.hok.fresh c)) (I.hok.laid k c d)
theorem Inv.write{t':Nat}(I:Inv X pins σ H s)(d:D1 (H x))(f:e=x\/H e=some (.own x))(k:∀b u,b≠e->s.heap.get? b=some u->h'.get? b=some u)(a:∃u,h'.get? e=some u)
  (c:ObjOk X.prog X.w (upd H x o) h' x o):Inv X pins σ (upd H x o) { s with heap:=h',toks:=t' }:=I.un (Un.write d f k a) (I.hok.write d f k a c)
theorem Inv.ro(I:Inv X pins σ H s)(h:∀p∈pins',s.heap.get? p.1=some p.2/\H p.1=none/\p.1≠X.env.locals/\p.1 ∉ X.fs/\∀v,p.2.data≠.cell v):Inv X pins' σ H s:=
 ⟨I.ok,I.os,I.bare,I.base,I.loc,I.cell,I.free,I.freeC,λp a=>(aai.mp a).elim (λz=>I.pin p (aah _ z)) (h p),I.hok,I.len⟩
theorem kC{N:List Str}(e:N.Nodup){i j:Nat}(a:N[i]?=some x)(b:N[j]?=some x):i=j:=by obtain⟨g,c⟩:=aan.mp a;obtain⟨f,d⟩:=aan.mp b;exact(List.getElem_inj e).mp (c.trans d.symm)
theorem fJ{M:Model}{A:Around}{E:Value->Shared->Prop}(I:Inv X pins σ H s)(hN:X.N.Nodup)(hi:X.N[i]?=some x)(B:Loc X.env.scope x)(r:RelV v u)
  (h:∀s',Inv X pins (σ.set i (some v)) H s'->(∃a,Heap.SameBut a s.heap s'.heap/\(a=X.env.locals\/X.env.cells.lookup x=some a))->Q () s') (hf:X.fn x=true\/X.env.scope.names.lookup x=some .local:=by first|exact .inl rfl|exact .inr rfl|assumption):wpAny M A (storeName X.env x u) Q E s:=by
 obtain⟨m,hn,hl⟩:=id I.loc;have Y:(X.env.scope.kind==.class||(X.env.scope.kind==.module&&X.env.locals !=X.env.globals))=false:=by rw[I.ok.kind];rfl
 have J:i<σ.length:=by rw[I.len];exact(aan.mp hi).1
 have L:=I.cne;have g:∀{a:Addr}{h':Heap},(∃o,s.heap.get? a=some o/\H a=none)->Heap.SameBut a s.heap h'->HOk X.prog X.w H h':=λ{a h'} ha f b ob e=>by
  obtain⟨_,_,C⟩:=ha;refine(I.hok b ob e).kv (λc w' t q=>(f.2 c ?_).trans q) (λ_ q=>q) λ_ _ q=>q;rintro rfl;rcases t with rfl|t
  ·rw[C]at e;cases e
  ·rw[C]at t;cases t
 rcases B with G|G
 ·refine wpAny_storeName_local G hn (λh' a3 f=>?_) Y;obtain⟨oL,_,_,a2,_⟩:=id hn;refine h _ ⟨I.ok,I.os,I.bare,⟨λb o e n O B=>?_,λb o e n O B=>?_,I.base.free,λb o e B=>?_,I.base.tups,I.base.frzs,I.base.tbls⟩,⟨_,a3,λj y v' l D e3=>?_⟩,λy c e=>?_,I.free,I.freeC,λp hp=>?_,g ⟨oL,a2,I.free⟩ f,by simpa using I.len⟩ ⟨_,f,.inl rfl⟩
  ·exact(f.2 b (aat (aaC (Heap.lt_size e) I.ok.above))).trans (I.base.keep b o e n O B)
  ·obtain⟨sl,l⟩:=I.base.slot b o e n O B;exact⟨sl,(f.2 b (aat (aaC (Heap.lt_size e) I.ok.above))).trans l⟩
  ·obtain⟨o',l⟩:=I.base.there b o e B;exact⟨o',(f.2 b (aat (aaC (Heap.lt_size e) I.ok.above))).trans l⟩
  ·by_cases S:j=i
   ·subst S;rw[hi]at l;cases l;rw[aa3 J]at D;cases D;exact⟨u,r,.inl ⟨G,by simp⟩⟩
   ·rw[aa4 (aaN S)]at D;obtain⟨u',r',q⟩:=hl j y v' l D e3;refine⟨u',r',?_⟩;rcases q with ⟨k,e⟩|⟨k,c,e,z⟩
    ·refine .inl ⟨k,?_⟩;have:y≠x:=λe=>S (kC hN l (e▸hi));simp[this,e]
    ·exact .inr ⟨k,c,e,z.sameBut f (L y c e)⟩
  ·obtain⟨w',z⟩:=I.cell y c e;exact⟨w',z.sameBut f (L y c e)⟩
  ·obtain⟨e,n,ne,nf,d⟩:=I.pin p hp;exact⟨(f.2 p.1 ne).trans e,n,ne,nf,d⟩
 ·have T:X.fn x=true:=by
   rcases hf with z|z
   ·exact z
   ·rw[z]at G;cases G
  obtain⟨c,t⟩:=I.ok.has x (.inl G);obtain⟨w',z⟩:=I.cell x c t;refine wpAny_storeName_cell I.ok.kind G t z (λh' U f=>?_);obtain⟨oc,a0,a1⟩:=id z;refine h { s with heap:=h' } ⟨I.ok,I.os,I.bare,⟨λb o e n O B=>?_,λb o e n O B=>?_,I.base.free,λb o e B=>?_,I.base.tups,I.base.frzs,I.base.tbls⟩,⟨m,hn.sameBut f (aaN (L x c t)),λj y v' l D e3=>?_⟩,λy c' e=>?_,I.free,I.freeC,λp hp=>?_,g ⟨oc,a0,I.freeC x c t⟩ f,by simpa using I.len⟩ ⟨c,f,.inr t⟩
  ·exact(f.2 b (aat (aaC (Heap.lt_size e) (I.ok.cab x c T t)))).trans (I.base.keep b o e n O B)
  ·obtain⟨sl,l⟩:=I.base.slot b o e n O B;exact⟨sl,(f.2 b (aat (aaC (Heap.lt_size e) (I.ok.cab x c T t)))).trans l⟩
  ·obtain⟨o',l⟩:=I.base.there b o e B;exact⟨o',(f.2 b (aat (aaC (Heap.lt_size e) (I.ok.cab x c T t)))).trans l⟩
  ·by_cases S:j=i
   ·subst S;rw[hi]at l;cases l;rw[aa3 J]at D;cases D;exact⟨u,r,.inr ⟨.inl G,c,t,U⟩⟩
   ·rw[aa4 (aaN S)]at D;obtain⟨u',r',q⟩:=hl j y v' l D e3;refine⟨u',r',?_⟩;rcases q with q|⟨k,c',e,z'⟩
    ·exact .inl q
    ·refine .inr ⟨k,c',e,z'.sameBut f ?_⟩;rintro rfl;exact S (kC hN l (I.ok.inj _ _ _ e t▸hi))
  ·by_cases Z:c'=c
   ·subst Z;exact⟨_,U⟩
   ·obtain⟨w2,z2⟩:=I.cell y c' e;exact⟨w2,z2.sameBut f Z⟩
  ·obtain⟨e,n,ne,nf,d⟩:=I.pin p hp;refine⟨(f.2 p.1 ?_).trans e,n,ne,nf,d⟩;intro q;rw[q,a0]at e;have q':oc=p.2:=aaH e;exact d w' (by rw[<-q'];exact a1)
theorem bV{M:Model}{A:Around}{E:Value->Shared->Prop}(I:Inv X pins σ H s)(b:X.N.Nodup)(f:X.N[i]?=some x)(c:Loc X.env.scope x)(r:RelV v u)
  (h:∀a,Inv X pins (σ.set i (some v)) H a->Q () a) (e:X.fn x=true\/X.env.scope.names.lookup x=some .local:=by first|exact .inl rfl|exact .inr rfl|assumption):wpAny M A (storeName X.env x u) Q E s:=
 fJ I b f c r (λa d _=>h a d) e
theorem Inv.zb(I:Inv X pins σ H s)(h:s'.os=s.os)(u:Un (sf X.stack) ch H H' s.heap s'.heap)(a:HOk X.prog X.w H' s'.heap)(g:AllBare s'.gens)
  (d:∀b∈ch,(b∈X.ex\/X.s₀.heap.objs.size<=b)/\b≠X.env.locals/\(∀x c,X.env.cells.lookup x=some c->c≠b)/\∀p∈X.pn++pins,p.1≠b):Inv X pins σ H' s':=by
 obtain⟨h',i,k,j,f⟩:=s';have e:f=s.os:=h;subst e;exact I.call u a g d
end
abbrev XK:=Value->Option Addr->Hp->Prop
abbrev St:=List (Option V)
abbrev VK:=V->Hp->Prop
abbrev TE:=St->Hp->VK->Prop
abbrev TT:=St->Hp->(Bool->Hp->Prop)->Prop
abbrev TA:=St->Hp->(List V->Hp->Prop)->Prop
structure Ends where
 nx:St->Hp->Prop
 rt:VK
 bk:St->Hp->Prop:=λ_ _=>False
 ct:St->Hp->Prop:=λ_ _=>False
abbrev TS:=Ends->St->Hp->Prop
def EP(X:Cx)(a:List (Addr×Obj))(σ:St)(Q:VK)(u:Value)(c:Shared):Prop:=∃v b,Inv X a σ b c/\RelV v u/\Q v b
def TP(X:Cx)(a:List (Addr×Obj))(σ:St)(Q:Bool->Hp->Prop)(b:Bool)(d:Shared):Prop:=∃c,Inv X a σ c d/\Q b c
def AP(X:Cx)(a:List (Addr×Obj))(σ:St)(Q:List V->Hp->Prop)(us:List Value)(d:Shared):Prop:=∃b c,Inv X a σ c d/\Vals b us/\Q b c
def SP(X:Cx)(b:List (Addr×Obj))(D:Ends)(f:Flow)(d:Shared):Prop:=
 match f with
 |.next=>∃a c,Inv X b a c d/\D.nx a c
 |.brk=>∃a c,Inv X b a c d/\D.bk a c
 |.cont=>∃a c,Inv X b a c d/\D.ct a c
 |.ret u=>∃v a c,Inv X b a c d/\RelV v u/\D.rt v c
def PE(X:Cx)(e:Expr)(t:TE):Prop:=
 ∀(a:List (Addr×Obj)) (s:Shared) (b:St) (H:Hp) (Q:VK),Inv X a b H s->t b H Q->wpAny (model X.prog X.w) X.A (eval e X.env) (EP X a b Q) X.xe s
def PT(X:Cx)(e:Expr)(t:TT):Prop:=
 ∀(a:List (Addr×Obj)) (s:Shared) (b:St) (H:Hp) (Q:Bool->Hp->Prop),Inv X a b H s->t b H Q->wpAny (model X.prog X.w) X.A (isTrue e X.env (eval e X.env)) (TP X a b Q) X.xe s
def PW(X:Cx)(e:Expr)(t:TT):Prop:=
 ∀(b:Sem Value) (a:List (Addr×Obj)) (s:Shared) (c:St) (H:Hp) (Q:Bool->Hp->Prop),Inv X a c H s->t c H Q->wpAny (model X.prog X.w) X.A (isTrue e X.env b) (TP X a c Q) X.xe s
theorem PW.pt(h:PW X e t):PT X e t:=h _
def PA(X:Cx)(es:List Expr)(t:TA):Prop:=
 ∀(c:Pos) (a:List (Addr×Obj)) (s:Shared) (b:St) (H:Hp) (Q:List V->Hp->Prop),Inv X a b H s->t b H Q->wpAny (model X.prog X.w) X.A (spliced (backTo c (starEach es X.env))) (AP X a b Q) X.xe s
def PS(X:Cx)(st:Stmt)(t:TS):Prop:=
 ∀(a:List (Addr×Obj)) (s:Shared) (b:St) (H:Hp) (D:Ends),Inv X a b H s->t D b H->wpAny (model X.prog X.w) X.A (exec st X.env) (SP X a D) X.xe s
def PSs(X:Cx)(st:List Stmt)(t:TS):Prop:=
 ∀(a:List (Addr×Obj)) (s:Shared) (b:St) (H:Hp) (D:Ends),Inv X a b H s->t D b H->wpAny (model X.prog X.w) X.A (execs st X.env) (SP X a D) X.xe s
theorem thn{b:Type}{t:Sem b}{Q c:b->Shared->Prop}{A:Around}(h:wpAny M A t Q E s)(d:∀a s,Q a s->c a s):wpAny M A t c E s:=wpAny_mono h d λ_ _ x=>x
end
section
section
variable{X:Cx}
def tVar(i:Nat):TE:=λa H Q=>∃v,a[i]?=some (some v)/\Q v H
def tC(v:V):TE:=λ_ H Q=>Q v H
theorem bN{j:Pos} (w:X.N[i]?=some x) (hv:Vis X.env.scope x) (k:(x==("__debug__":Str))=false:=by decide) (g:(x==("__classdict__":Str))=false:=by decide):PE X (.Name x j) (tVar i):=by
 intro f s p H Q I h;obtain⟨v,e,h⟩:=h;obtain⟨m,t,q⟩:=I.loc;obtain⟨u,r,l⟩:=q i x v w e hv;have d:EP X f p Q u s:=⟨v,H,I,r,h⟩
 rcases l with ⟨b,o⟩|⟨b,c,n,a⟩
 ·exact wpAny_Name (wpAny_loadName_local I.ok.kind b t o d) k
 ·rcases b with b|b
  ·exact wpAny_Name (wpAny_loadName_cell I.ok.kind b n a d) k
  ·exact wpAny_Name (wpAny_loadName_free I.ok.kind b n a d g) k
theorem gK{i j a}:PE X (.Constant (.int i) j a) (tC (.int i)):=λ_ _ _ H _ I h=>wpAny_Constant_int ⟨.int i,H,I.tok _,⟨_,rfl⟩,h⟩
theorem D2{b j a}:PE X (.Constant (.bool b) j a) (tC (.bl b)):=λ_ _ _ H _ I h=>Constant_bool ⟨.bl b,H,I,rfl,h⟩
theorem AH{j a}:PE X (.Constant .none j a) (tC .non):=λ_ _ _ H _ I h=>Constant_none ⟨.non,H,I,rfl,h⟩
theorem AI{x j a}:PE X (.Constant (.str x) j a) (tC (.str x)):=λ_ _ _ H _ I h=>Calls.Constant_str ⟨.str x,H,I.tok _,⟨_,rfl⟩,h⟩
def Gl(X:Cx)(x:Str):Prop:=X.env.kindOf x=some .globalImplicit
theorem nW{E:Value->Shared->Prop}{a:Pos}(I:Inv X pins σ H s)(c:Gl X x)(b:X.mg x=some u)(h:Q u s)
  (d:(x==("__debug__":Str))=false:=by decide):wpAny (model X.prog X.w) X.A (eval (.Name x a) X.env) Q E s:=
 Calls.Name_function_global I.ok.kind c (Calls.loadGlobal_global (by rw[I.ok.glob];exact I.mod.glob.keeps I.bk) b h) d
theorem fK{E:Value->Shared->Prop}{a:List (Addr×Obj)}{s:Shared}{b:Pos}(I:Inv X a σ H s)(g:Gl X x)(d:X.mg x=none)(hv:bootBuiltins x=some u)(h:Q u s)
  (c:x≠"__name__":=by decide) (i:(x==("__debug__":Str))=false:=by decide):wpAny (model X.prog X.w) X.A (eval (.Name x b) X.env) Q E s:=by
 obtain⟨j,f,e⟩:=I.mod.blt;exact Calls.Name_function_global I.ok.kind g (Calls.loadGlobal_builtin (by rw[I.ok.glob];exact I.mod.glob.keeps I.bk) d (by rw[I.ok.blt];exact f.keeps I.bk) ((e x c).trans hv) h) i
theorem wV{a:Pos} (c:Gl X x) (b:X.mg x=some u) (r:RelV v u) (d:(x==("__debug__":Str))=false:=by decide):PE X (.Name x a) (tC v):=
 λ_ _ _ H _ I h=>nW I c b ⟨v,H,I,r,h⟩ d
variable{a b:Expr}{ta tb:TE}{pos:Pos}
def PC(X:Cx)(g:CmpOp)(a b:Expr)(t:TE):Prop:=
 ∀(c:List (Addr×Obj)) (s:Shared) (f:St) (H:Hp) (Q:VK),Inv X c f H s->t f H Q ->
  wpAny (model X.prog X.w) X.A (eval a X.env) (λv d=>wpAny (model X.prog X.w) X.A (eval b X.env) (λu e=>wpAny (model X.prog X.w) X.A (compareOp g v u) (EP X c f Q) X.xe e) X.xe d) X.xe s
theorem nobehind(b:Expr)(h:op≠.In)(d:op≠.NotIn):behindInMarks op b=false:=by
 have c:(op==CmpOp.In)=false:=by cases op<;>first|rfl|exact absurd rfl h
 have e:(op==CmpOp.NotIn)=false:=by cases op<;>first|rfl|exact absurd rfl d
 cases b<;>simp[behindInMarks,c,e]
def Hq(ta:TE):TE:=λd H Q=>ta d H λx c=>Q (.bl (decide (x=.non))) c
def D3(ta:TE):TE:=λd H Q=>ta d H λx c=>Q (.bl (!decide (x=.non))) c
theorem RelV.pa{x:V}{v:Value}(r:RelV x v):(v==Value.none)=decide (x=.non):=by
 cases x with
 |non=>cases r;rfl
 |bl _=>cases r;rfl
 |int _=>obtain⟨t,rfl⟩:=r;rfl
 |str _=>obtain⟨t,rfl⟩:=r;rfl
 |byt _=>obtain⟨t,rfl⟩:=r;rfl
 |flt _=>obtain⟨t,rfl⟩:=r;rfl
 |ref _=>cases r;rfl
 |ty _=>cases r;rfl
theorem si{j d}(k:PE X a ta):PC X .Is a (.Constant .none j d) (Hq ta):=by intro c s g H Q I h;refine thn (k c s g H _ I h) λv n l=>?_;obtain⟨x,i,m,e,f⟩:=l;exact Constant_none (is_none_gen ⟨.bl _,i,m,by rw[e.pa];rfl,f⟩)
theorem nX{j d}(k:PE X a ta):PC X .IsNot a (.Constant .none j d) (D3 ta):=by intro c s g H Q I h;refine thn (k c s g H _ I h) λv n l=>?_;obtain⟨x,i,m,e,f⟩:=l;exact Constant_none (isnot_none_gen ⟨.bl _,i,m,by rw[e.pa];rfl,f⟩)
def tB(t:TE):TT:=λe H Q=>t e H λx d=>∃c,x=.bl c/\Q c d
theorem jq(h:PC X op a b t)(f:behindInMarks op b=false:=by first|exact nobehind _ (by decide) (by decide)|rfl):PE X (.Compare a [op] [b] pos) t:=λc s e H Q I d=>wpAny_Compare1 (h c s e H Q I d) f
theorem jr{f:CmpOp}{t:TE}(h:PC X f a b t)(g:behindInMarks f b=false:=by first|exact nobehind _ (by decide) (by decide)|rfl):PT X (.Compare a [f] [b] pos) (tB t):=by intro e s n H Q I k;refine wpAny_isTrue_Compare1 (thn (h e s n H _ I k) λv r g=>thn g λu w i=>thn i λc y o=>?_) g;obtain⟨x,l,j,p,m⟩:=o;obtain⟨d,rfl,q⟩:=m;cases p;exact wpAny_truthy_bool ⟨l,j,q⟩
variable{tA tB':TT}{rest:List Expr}
def Hr(t u:TT):TT:=λe H Q=>t e H λc d=>if c=true then u e d Q else Q false d
def Ki(t u:TT):TT:=λe H Q=>t e H λc d=>if c=true then Q true d else u e d Q
def Hs(t:TT):TT:=λe H Q=>t e H λc d=>Q (!c) d
theorem wW(g:PT X a tA):PW X (.BoolOp .And [a] pos) tA:=by
 intro j d s f H Q I h;refine isTrue_and (thn (g d s f H Q I h) λc i e=>?_);cases c with
 |true=>exact isTrue_and_nil e
 |false=>exact e
theorem AJ(g:PT X a tA):PW X (.BoolOp .Or [a] pos) tA:=by
 intro j d s f H Q I h;refine isTrue_or (thn (g d s f H Q I h) λc i e=>?_);cases c with
 |false=>exact isTrue_or_nil e
 |true=>exact e
theorem AK(l:PT X a tA)(k:PW X (.BoolOp .And (b::rest) pos) tB'):PW X (.BoolOp .And (a::b::rest) pos) (Hr tA tB'):=by
 intro n d s f H Q I h;refine isTrue_and (thn (l d s f H _ I h) λc j m=>?_);obtain⟨g,i,e⟩:=m;cases c with
 |true=>exact k n d j f g Q i e
 |false=>exact⟨g,i,e⟩
theorem D4(l:PT X a tA)(k:PW X (.BoolOp .Or (b::rest) pos) tB'):PW X (.BoolOp .Or (a::b::rest) pos) (Ki tA tB'):=by
 intro n d s f H Q I h;refine isTrue_or (thn (l d s f H _ I h) λc j m=>?_);obtain⟨g,i,e⟩:=m;cases c with
 |true=>exact⟨g,i,e⟩
 |false=>exact k n d j f g Q i e
theorem AL(g:PT X a tA):PT X (.UnaryOp .Not a pos) (Hs tA):=by intro d s f H Q I h;exact isTrue_not (g d s f H (λc e=>Q (!c) e) I h)
def D5(ta tb:TE):TE:=λd H Q=>ta d H λx e=>∃c,x=.bl c/\if c=true then tb d e Q else Q (.bl false) e
def Ht(ta tb:TE):TE:=λd H Q=>ta d H λx e=>∃c,x=.bl c/\if c=true then Q (.bl true) e else tb d e Q
def D6(ta:TE):TE:=λe H Q=>ta e H λx d=>∃c,x=.bl c/\Q (.bl (!c)) d
theorem AM{f}(h:PE X a t):PE X (.BoolOp f [a] pos) t:=λc s e H Q I d=>BoolOp_one (h c s e H Q I d)
theorem AN(n:PE X a ta)(k:PE X (.BoolOp .And (b::rest) pos) tb):PE X (.BoolOp .And (a::b::rest) pos) (D5 ta tb):=by
 intro d s i H Q I h;refine BoolOp_and (thn (n d s i H _ I h) λv j l=>?_);obtain⟨x,g,f,m,e⟩:=l;obtain⟨c,rfl,e⟩:=e;cases m;refine wpAny_truthy_bool ?_;cases c with
 |true=>exact k d j i g Q f e
 |false=>exact⟨.bl false,g,f,rfl,e⟩
theorem D7(n:PE X a ta)(k:PE X (.BoolOp .Or (b::rest) pos) tb):PE X (.BoolOp .Or (a::b::rest) pos) (Ht ta tb):=by
 intro d s i H Q I h;refine BoolOp_or (thn (n d s i H _ I h) λv j l=>?_);obtain⟨x,g,f,m,e⟩:=l;obtain⟨c,rfl,e⟩:=e;cases m;refine wpAny_truthy_bool ?_;cases c with
 |false=>exact k d j i g Q f e
 |true=>exact⟨.bl true,g,f,rfl,e⟩
theorem AO(j:PE X a ta):PE X (.UnaryOp .Not a pos) (D6 ta):=by intro d s g H Q I h;refine UnaryOp_ (thn (j d s g H _ I h) λv m k=>?_);obtain⟨x,i,l,f,e⟩:=k;obtain⟨c,rfl,e⟩:=e;cases f;exact not_of (wpAny_truthy_bool ⟨.bl (!c),i,l,rfl,e⟩)
def Kj(t:TT)(ta tb:TE):TE:=λd H Q=>t d H λc e=>if c=true then ta d e Q else tb d e Q
theorem kD{c:Expr}(o:PT X c tA)(m:PE X a ta)(l:PE X b tb):PE X (.IfExp c a b pos) (Kj tA ta tb):=by
 intro e s f H Q I h;refine wpAny_IfExp (thn (o e s f H _ I h) λd g n=>?_);obtain⟨j,k,i⟩:=n;cases d with
 |true=>exact m e g f j Q k i
 |false=>exact l e g f j Q k i
end
end
section
def SqL(K:Waa)(H:Hp)(a:Addr)(xs:List V):Prop:=
 Rd H a (.lst xs) \/
  ∃(o:Obj) (b:Array Value) (n:Nat),K.lookup a=some o/\o.cls=.type "list"/\o.dict=none/\o.data=.seq b n/\b.size<=sizeLine/\Vals xs b.toList
def SqT(K:Waa)(H:Hp)(a:Addr)(xs:List V):Prop:=
 Rd H a (.tup xs) \/
  ∃(o:Obj) (b:Array Value) (n:Nat),K.lookup a=some o/\o.cls=.type "tuple"/\o.dict=none/\o.data=.seq b n/\b.size<=sizeLine/\Vals xs b.toList
def Hu:Value->Option V
 |.none=>some .non
 |.bool b=>some (.bl b)
 |.int i _=>some (.int i)
 |.str x _=>some (.str x)
 |.bytes b _=>some (.byt b)
 |.float b _=>some (.flt b)
 |.ref a=>some (.ref a)
 |.type n=>some (.ty n)
 |_=>none
theorem RelV.abs(r:RelV x u):Hu u=some x:=by
 cases x with
 |non=>cases r;rfl
 |bl _=>cases r;rfl
 |int _=>obtain⟨t,rfl⟩:=r;rfl
 |str _=>obtain⟨t,rfl⟩:=r;rfl
 |byt _=>obtain⟨t,rfl⟩:=r;rfl
 |flt _=>obtain⟨t,rfl⟩:=r;rfl
 |ref _=>cases r;rfl
 |ty _=>cases r;rfl
theorem RelV.inj{x y:V}{u:Value}(r:RelV x u)(q:RelV y u):x=y:=aaH (r.abs.symm.trans q.abs)
theorem Vals.inj{xs ys:List V}{us:List Value}(h:Vals xs us)(h':Vals ys us):xs=ys:=by
 induction us generalizing xs ys with
 |nil=>cases h;cases h';rfl
 |cons u us a=>cases h with|cons r t=>cases h' with|cons c b=>rw[r.inj c,a t b]
section
variable{X:Cx}{pins:List (Addr×Obj)}{σ:St}{H:Hp}{s:Shared}{a:Addr}{xs ys:List V}
theorem SqL.of{K:Waa}(h:H a=some (.lst xs)):SqL K H a xs:=.inl (.inl h)
theorem SqT.of{K:Waa}(h:H a=some (.tup xs)):SqT K H a xs:=.inl (.inl h)
theorem Inv.list(I:Inv X pins σ H s)(h:SqL X.K H a xs):∃b:List Value,Vals xs b/\PlainL s.heap a b.toArray/\xs.length<=sizeLine:=by
 rcases h with h|⟨o,b,n,d,f,g,c,i,r⟩
 ·obtain⟨z,b,n,r,e⟩:=h.ok I.hok;exact⟨b,r,⟨_,n,e,rfl,rfl,rfl⟩,z⟩
 ·refine⟨b.toList,r,⟨o,n,I.kIn a o d,f,g,by simpa using c⟩,?_⟩;have e:=r.length;simp only[abO]at e;omega
theorem Inv.tuple(I:Inv X pins σ H s)(h:SqT X.K H a xs):∃b:List Value,Vals xs b/\IsTup s.heap a b.toArray/\xs.length<=sizeLine:=by
 rcases h with h|⟨o,b,n,g,i,_,f,j,r⟩
 ·obtain⟨z,b,r,o,e,c,n,d,_⟩:=h.ok I.hok;exact⟨b,r,⟨o,e,c,n,d⟩,z⟩
 ·refine⟨b.toList,r,⟨o,I.kIn a o g,i,n,by simpa using f⟩,?_⟩;have e:=r.length;simp only[abO]at e;omega
theorem Inv.o3(I:Inv X pins σ H s)(h:SqL X.K H a xs)(h':SqL X.K H a ys):xs=ys:=by
 obtain⟨c,r,⟨o,n,e,_,_,d⟩,_⟩:=I.list h;obtain⟨b,i,⟨j,k,f,_,_,g⟩,_⟩:=I.list h';rw[e]at f;cases f;rw[d]at g;injection g with d1 _;have:c=b:=by simpa using congrArg Array.toList d1
 subst this;exact r.inj i
theorem Inv.tupN(I:Inv X pins σ H s)(h:SqT X.K H a xs):∃o,s.heap.get? a=some o/\o.cls=.type "tuple"/\o.dict=none:=by
 rcases h with h|⟨o,b,n,f,g,i,j,k,r⟩
 ·obtain⟨_,_,_,o,e,c,_,_,d⟩:=h.ok I.hok;exact⟨o,e,c,d⟩
 ·exact⟨o,I.kIn a o f,g,i⟩
theorem Inv.ua(I:Inv X pins σ H s)(h:SqT X.K H a xs)(h':SqT X.K H a ys):xs=ys:=by
 obtain⟨c,r,⟨o,e,_,n,d⟩,_⟩:=I.tuple h;obtain⟨b,i,⟨j,f,_,k,g⟩,_⟩:=I.tuple h';rw[e]at f;cases f;rw[d]at g;injection g with d1 _;have:c=b:=by simpa using congrArg Array.toList d1
 subst this;exact r.inj i
end
abbrev Cx.mn(X:Cx)(E:Value->Shared->Prop):Cx:={ X with xe:=E }
abbrev Cx.nox(X:Cx):Cx:=X.mn λ_ _=>False
theorem Cx.Ok.mn{X:Cx}(a:X.Ok)(E:Value->Shared->Prop):(X.mn E).Ok:=
 ⟨a.mod,a.kind,a.glob,a.blt,a.above,a.inj,a.has,a.cab,a.hd,a.frames,a.stk,a.exf,a.bs,a.bsz,a.noex,a.exfs,a.funs,a.frf⟩
theorem Cx.Ok.en{X:Cx}(a:(X.mn E).Ok):X.Ok:=
 ⟨a.mod,a.kind,a.glob,a.blt,a.above,a.inj,a.has,a.cab,a.hd,a.frames,a.stk,a.exf,a.bs,a.bsz,a.noex,a.exfs,a.funs,a.frf⟩
section
variable{X:Cx}{pins:List (Addr×Obj)}{σ:St}{H:Hp}{s:Shared}{E:Value->Shared->Prop}
theorem Inv.mn(I:Inv X pins σ H s)(E:Value->Shared->Prop):Inv (X.mn E) pins σ H s:=⟨I.ok.mn E,I.os,I.bare,I.base,I.loc,I.cell,I.free,I.freeC,I.pin,I.hok,I.len⟩
theorem Inv.en(I:Inv (X.mn E) pins σ H s):Inv X pins σ H s:=⟨I.ok.en,I.os,I.bare,I.base,I.loc,I.cell,I.free,I.freeC,I.pin,I.hok,I.len⟩
theorem SP.en{D:Ends}(h:SP (X.mn E) pins D f s'):SP X pins D f s':=by
 cases f with
 |next=>obtain⟨a,b,I,q⟩:=h;exact⟨a,b,I.en,q⟩
 |brk=>obtain⟨a,b,I,q⟩:=h;exact⟨a,b,I.en,q⟩
 |cont=>obtain⟨a,b,I,q⟩:=h;exact⟨a,b,I.en,q⟩
 |ret u=>obtain⟨v,a,b,I,r,q⟩:=h;exact⟨v,a,b,I.en,r,q⟩
theorem PSs.nox{a:List Stmt}(h:PSs X.nox a t):PSs X a t:=λpins s σ H D I b=>
 wpAny_mono (h pins s σ H D (I.mn _) b) (λ_ _ q=>q.en) λ_ _ z=>False.elim z
end
section
variable{X:Cx}{st:Stmt}{rest:List Stmt}{t u:TS}{e:Expr}{te:TE}{pos:Pos}
def tNext:TS:=λD a H=>D.nx a H
def Hv(t u:TS):TS:=λD a H=>t { D with nx:=u D } a H
theorem wX:PSs X [] tNext:=λ_ _ a H _ I h=>wpAny_execs_nil ⟨a,H,I,h⟩
theorem kF(j:PS X st t)(d:PSs X rest u):PSs X (st::rest) (Hv t u):=by
 intro a s i H D I h;refine wpAny_execs_cons (thn (j a s i H { D with nx:=u D } I h) λf c q=>?_);cases f with
 |next=>obtain⟨b,k,g,q⟩:=q;exact d a c b k D g q
 |ret v=>exact q
 |brk=>exact q
 |cont=>exact q
def tBreak:TS:=λD a H=>D.bk a H
def tCont:TS:=λD a H=>D.ct a H
theorem sm:PS X (.Break pos) tBreak:=λ_ _ a H _ I h=>wpAny_Break ⟨a,H,I,h⟩
theorem kG:PS X (.Continue pos) tCont:=λ_ _ a H _ I h=>wpAny_Continue ⟨a,H,I,h⟩
theorem Inv.quiet{a:List (Addr×Obj)}{σ:St}(I:Inv X a σ H s):interactive X.env=false:=by simp[interactive,I.ok.kind]
def D8(te:TE):TS:=λD a H=>te a H λ_ b=>D.nx a b
theorem gy(i:PE X e te)(c:swapsWith e none pos.line X.env=pure false:=by rfl):PS X (.Expr e pos) (D8 te):=by intro a s b H D I h;exact wpAny_Expr_any (thn (i a s b H _ I h) λv j ⟨x,f,g,k,d⟩=>⟨b,f,g,d⟩) I.quiet c
def Hw(te:TE):TS:=λD a H=>te a H D.rt
theorem AQ(i:PE X e te):PS X (.Return (some e) pos) (Hw te):=by intro a s b H D I h;exact wpAny_Return_some (thn (i a s b H _ I h) λv j ⟨x,f,g,c,d⟩=>⟨x,b,f,g,c,d⟩)
def Hx(c:TT)(t u:TS):TS:=λD a H=>c a H λb d=>if b=true then t D a d else u D a d
theorem D9{c:Expr}{a b:List Stmt}{l:TT}(p:PT X c l)(q:PSs X a t)(n:PSs X b u):PS X (.If c a b pos) (Hx l t u):=by
 intro f s g H D I h;refine wpAny_If (thn (p f s g H _ I h) λd i o=>?_);obtain⟨k,j,m⟩:=o;cases d with
 |true=>exact q f i g k D j m
 |false=>exact n f i g k D j m
def tNever:TS:=λ_ _ _=>False
theorem so:PS X st tNever:=λ_ _ _ _ _ _ h=>h.elim
end
abbrev TG:=V->St->Hp->(St->Hp->Prop)->Prop
abbrev TGs:=List V->St->Hp->(St->Hp->Prop)->Prop
def PG(X:Cx)(a:Expr)(t:TG):Prop:=
 ∀(b:List (Addr×Obj)) (s:Shared) (d:St) (H:Hp) (v:V) (u:Value) (Q:St->Hp->Prop),Inv X b d H s->RelV v u->t v d H Q ->
  wpAny (model X.prog X.w) X.A (assign a X.env u) (λ_ f=>∃c e,Inv X b c e f/\Q c e) X.xe s
def DU(X:Cx)(ts:List Expr)(t:TGs):Prop:=
 ∀(a:List (Addr×Obj)) (s:Shared) (c:St) (H:Hp) (vs:List V) (e:List Value) (Q:St->Hp->Prop),Inv X a c H s->Vals vs e->t vs c H Q ->
  wpAny (model X.prog X.w) X.A (assignInOrder ((assignEach ts X.env).map (·.2)) e) (λ_ f=>∃b d,Inv X a b d f/\Q b d) X.xe s
abbrev AR:=V->V->V->Hp->(Hp->Prop)->Prop
def PSet(X:Cx)(t:AR):Prop:=
 ∀(a:List (Addr×Obj)) (s:Shared) (c:St) (H:Hp) (o i v:V) (b e u:Value) (Q:Hp->Prop),Inv X a c H s->RelV o b->RelV i e->RelV v u->t o i v H Q ->
  wpAny (model X.prog X.w) X.A (setItem b e u) (λ_ f=>∃d,Inv X a c d f/\Q d) X.xe s
abbrev TIp:=V->V->Hp->VK->Prop
def Ea(X:Cx)(c:Operator)(t:TIp):Prop:=
 ∀(a:List (Addr×Obj)) (s:Shared) (b:St) (H:Hp) (x y:V) (v u:Value) (Q:VK),Inv X a b H s->RelV x v->RelV y u->t x y H Q ->
  wpAny (model X.prog X.w) X.A (inplaceOp c v u) (EP X a b Q) X.xe s
section
variable{X:Cx}{pos:Pos}
def kH(i:Nat):TG:=λv a H Q=>Q (a.set i (some v)) H
theorem jt(e:X.N.Nodup)(f:X.N[i]?=some x)(b:Loc X.env.scope x)(d:X.fn x=true\/X.env.scope.names.lookup x=some .local:=by first|exact .inl rfl|exact .inr rfl|assumption):PG X (.Name x pos) (kH i):=by intro a s j H v u Q I r h;exact wpAny_assign_Name (bV I e f b r (λg c=>⟨_,H,c,h⟩) d)
def gNil:TGs:=λa b H Q=>a=[]/\Q b H
def Eb(t:TG)(u:TGs):TGs:=λb c H Q=>∃v r,b=v::r/\t v c H λa d=>u r a d Q
theorem nY:DU X [] gNil:=by intro a s b H c d Q I r h;obtain⟨e,h⟩:=h;subst e;cases r;exact assignInOrder_nil ⟨b,H,I,h⟩
theorem gL{e:Expr}{es:List Expr}(o:PG X e t)(f:DU X es u)
  (d:(assignEach (e::es) X.env).map (·.2)=assign e X.env::(assignEach es X.env).map (·.2):=by rfl):DU X (e::es) (Eb t u):=by
 intro a s m H q p Q I r h;obtain⟨v,w,i,h⟩:=h;subst i;cases r with
 |cons r j=>rw[d];refine assignInOrder_cons (thn (o a s m H _ _ _ I r h) λ_ c n=>?_);obtain⟨b,k,g,l⟩:=n;exact f a c b k _ _ Q g j l
def Hy(K:Waa)(n:Nat)(t:TGs):TG:=λv c H Q=>∃a b,v=.ref a/\SqT K H a b/\b.length=n/\t b c H Q
theorem sq{k:Nat}(y:X.calm=true)(h:DU X es t)
  (z:(assignEach es X.env).length=n:=by rfl) (d:(assignEach es X.env).findIdx? (·.1)=none:=by rfl):PG X (.Tuple es k pos) (Hy X.K n t):=by
 intro c s g H v u Q I r f;obtain⟨a,j,p,l,w,f⟩:=f;subst p;cases r;obtain⟨A,i,B,C⟩:=I.tuple l;refine assign_Tuple_tuple (I.ok.hd y) B (by simp[z,<-w,i.length]) d λx q=>?_;have m:Inv X c g H { s with heap:=x }:=I.kept λb o e=>q b o (aat (Heap.lt_size e)) e;exact h c _ g H j _ Q m (by simpa using i) f
def Hz(f c:TE)(t:AR):TG:=λv a H Q=>f a H λo d=>c a d λi b=>t o i v b λe=>Q a e
theorem AS{o i:Expr}{g f:TE}{t:AR}(M:PE X o g)(z:PE X i f)(k:PSet X t)
  (L:∀v,assign (.Subscript o i pos) X.env v=(do
   let b <-holding [v] (eval o X.env)
   let c <-holding [v,b] (eval i X.env)
   standAt pos
   holding [v,b,c] (setItem b c v)
   release [v,b,c] []):=by intro _;rfl):PG X (.Subscript o i pos) (Hz g f t):=by
 intro a s e H v u Q I r h;rw[L];refine wpAny_bind (wpAny_holding (thn (M a s e H _ I h) λb j d=>?_));obtain⟨x,q,m,G,A⟩:=d;refine wpAny_bind (wpAny_holding (thn (z a j e q _ m A) λc D d=>?_));obtain⟨y,p,l,w,C⟩:=d;refine wpAny_bind (wpAny_standAt (wpAny_bind (wpAny_holding (thn (k a D e p x y v b c u _ l G w r C) λ_ N d=>?_))));obtain⟨J,B,n⟩:=d;exact wpAny_release ⟨e,J,B,n⟩
def sr(c:TE)(g:TG):TS:=λD a H=>c a H λx b=>g x a b D.nx
theorem my{b e:Expr}{d:TE}{g:TG}(k:PE X e d)(n:PG X b g)(i:swapsWithSole [b] e pos.line X.env=pure false:=by rfl)(l:swappedStores [b] e X.env=pure none:=by rfl)
  (t:(assignEach [b] X.env).map (·.2)=[assign b X.env]:=by rfl):PS X (.Assign [b] e pos) (sr d g):=by
 intro a s c H D I h;refine wpAny_Assign_stores (thn (k a s c H _ I h) λv f p=>?_) i l;obtain⟨x,m,j,r,o⟩:=p;rw[t];exact thn (n a f c m x v _ j r o) λ_ u q=>q
theorem AU{i:Nat}{x:Str}(q:X.N.Nodup)(j:X.N[i]?=some x)(k:Loc X.env.scope x)(f:PE X e te)(b:swapsWith e (some (.Name x pos')) pos.line X.env=pure false:=by rfl)(p:X.fn x=true\/X.env.scope.names.lookup x=some .local:=by first|exact .inl rfl|exact .inr rfl|assumption):
  PS X (.Assign [.Name x pos'] e pos) (sr te (kH i)):=by
 intro a s m H D I h;refine wpAny_Assign_Name (thn (f a s m H _ I h) λv r n=>?_) b;obtain⟨y,g,d,o,l⟩:=n;exact bV d q j k o (λt c=>⟨_,g,c,l⟩) p
def HA(i j:Nat)(c:TA):TS:=λD a H=>c a H λb d=>∃v w,b=[v,w]/\D.nx ((a.set i (some v)).set j (some w)) d
theorem AV{i j:Nat}{x y:Str}{t u d}(hc:X.calm=true)(L:X.N.Nodup)(hi:X.N[i]?=some x)(Z:X.N[j]?=some y)(l:i≠j)
  (G:X.env.scope.names.lookup x=some .local) (C:X.env.scope.names.lookup y=some .local) (ha:PA X [a,b] ta)
  (hw:swappedStores [.Tuple [.Name x px,.Name y py] t pt] (.Tuple [a,b] u d) X.env=pure (some [x,y]))
  (M:swapsWithSole [.Tuple [.Name x px,.Name y py] t pt] (.Tuple [a,b] u d) pos.line X.env=pure false:=by rfl):
  PS X (.Assign [.Tuple [.Name x px,.Name y py] t pt] (.Tuple [a,b] u d) pos) (HA i j ta):=by
 intro c s J H D I h;rw[exec_Assign_arm];refine wpAny_bind (wpAny_standAt ?_);rw[M];refine wpAny_bind (wpAny_pure ?_);rw[if_neg (by decide)];refine wpAny_bind (Tuple_ (thn (ha _ c s J H _ I h) λQ k hZ=>?_));obtain⟨vs,B,S,r1,r⟩:=hZ;obtain⟨v,w,U,r⟩:=r;subst U;obtain⟨g,f,rfl,rv,n⟩:∃g f,Q=[g,f]/\RelV v g/\RelV w f:=by
  cases r1 with
  |cons p q=>
   cases q with
   |cons p' T=>cases T;exact⟨_,_,rfl,p,p'⟩
 refine wpAny_newObj_type ?_ (by show 2<=sizeLine;decide);have O:Inv X c J B { k with heap:=k.heap.push { cls:=.type "tuple",data:=.seq [g,f].toArray } }:=S.kept λb o e=>Heap.get?_push_of_some _ e;rw[hw];refine wpAny_bind (wpAny_pure ?_);show wpAny (model X.prog X.w) X.A (do rule "assign.swapped-stores";let items <-unpackItems (.ref k.heap.objs.size) 2 none;assignInOrder [λv=>bindName X.env y v,λv=>bindName X.env x v] items.reverse;pure Flow.next) _ _ _;refine wpAny_bind (wpAny_rule (wpAny_bind (unpackItems_tuple (items:=#[g,f]) (I.ok.hd hc) (IsTup.new k.heap _) λh' m=>?_)));have I3:=O.kept (t':=k.toks) λb o e=>m b o (aat (Heap.lt_size e)) e;show wpAny _ _ (assignInOrder [λv=>bindName X.env y v,λv=>bindName X.env x v] [f,g] >>= λ_=>pure Flow.next) _ _ _;refine wpAny_bind (assignInOrder_cons (wpAny_bindName (bV I3 L Z (.inl C) n (λs2 Y=>?_) (.inr C))));refine assignInOrder_cons (wpAny_bindName (bV Y L hi (.inl G) rv (λs3 z=>assignInOrder_nil (wpAny_pure ?_)) (.inr G)));rw[abP _ _ (aaN l)]at z;exact⟨_,B,z,r⟩
def HB(i:Nat)(e:TE)(c:TIp):TS:=λD a H=>∃x,a[i]?=some (some x)/\e a H λy d=>c x y d λz b=>D.nx (a.set i (some z)) b
theorem su{i:Nat}{x:Str}{j:Pos}(hN:X.N.Nodup)(q:X.N[i]?=some x)(o:Loc X.env.scope x)(M:PE X e te)(ho:Ea X op ti)(hf:X.fn x=true\/X.env.scope.names.lookup x=some .local:=by first|exact .inl rfl|exact .inr rfl|assumption):
  PS X (.AugAssign (.Name x j) op e pos) (HB i te ti):=by
 intro a s t H D I h;obtain⟨v,O,h⟩:=h;obtain⟨m,hn,Y⟩:=I.loc;have n:Vis X.env.scope x:=by rcases o with k|k;exact .inl k;exact .inr (.inl k)
 obtain⟨u,r,l⟩:=Y i x v q O n;refine wpAny_AugAssign_Name ?_;have B:wpAny (model X.prog X.w) X.A (eval e X.env) (λw g=>wpAny (model X.prog X.w) X.A (inplaceOp op u w) (λr f=>wpAny (model X.prog X.w) X.A (storeName X.env x r) (λ_=>SP X a D .next) X.xe f) X.xe g) X.xe s:=by refine thn (M a s t H _ I h) λw C p=>?_;obtain⟨y,S,L,r1,U⟩:=p;refine thn (ho a C t S v y u w _ L r r1 U) λz s2 p=>?_;obtain⟨zv,Q,J,T,Z⟩:=p;exact bV J hN q o T (λs3 I3=>⟨_,Q,I3,Z⟩) hf
 rcases l with ⟨b,G⟩|⟨b,c,hc,d⟩
 ·exact wpAny_loadName_local I.ok.kind b hn G B
 ·rcases b with b|b
  ·exact wpAny_loadName_cell I.ok.kind b hc d B
  ·rcases o with k|k
   ·have:X.env.scope.names.lookup x=some .free:=b;rw[k]at this;cases this
   ·have:X.env.scope.names.lookup x=some .free:=b;rw[k]at this;cases this
def HC(f:Int->Int->Int):TIp:=λx y H Q=>∃i j,x=.int i/\y=.int j/\Q (.int (f i j)) H
theorem AW:Ea X .Add (HC λi j=>i+j):=by intro a s g H x y v u Q I d c h;obtain⟨i,j,b,e,q⟩:=h;subst b;subst e;obtain⟨t,rfl⟩:=d;obtain⟨f,rfl⟩:=c;exact iadd_int ⟨.int _,H,I.tok _,⟨_,rfl⟩,q⟩
theorem AX:Ea X .Sub (HC λi j=>i-j):=by intro a s g H x y v u Q I d c h;obtain⟨i,j,b,e,q⟩:=h;subst b;subst e;obtain⟨t,rfl⟩:=d;obtain⟨f,rfl⟩:=c;exact isub_int ⟨.int _,H,I.tok _,⟨_,rfl⟩,q⟩
end
section
variable{X:Cx}{pos:Pos}
def AY(c:TT)(h:TS):TS:=λD a H=>∃W:Nat->St->Hp->Prop,(∃m,W m a H)/\∀m a H,W m a H ->
 c a H λb e=>if b=true then ∃N:St->Hp->Prop,(∀d f,N d f->∃g,g<m/\W g d f)/\h { D with nx:=N,ct:=N,bk:=D.nx } a e else D.nx a e
theorem sv{c:Expr}{g:List Stmt}(x:PassesOwn (model X.prog X.w) X.A X.env X.xe)(S:PT X c tc)(J:PSs X g tb):PS X (.While c g [] pos) (AY tc tb):=by
 intro d s O H D I h;obtain⟨W,⟨Z,U⟩,i⟩:=h;refine wpAny_While (codeAny_whileLoop (λn Y=>∃j B,Inv X d j B Y/\W n j B) ?_ Z ⟨O,H,I,U⟩);rintro n G ⟨e,z,L,M⟩;refine wpAny_passesOwn x (thn (S d G e z _ L (i n e z M)) λb T Q=>?_);obtain⟨y,u,m⟩:=Q;cases b with
 |true=>
  obtain⟨N,C,m⟩:=m;rw[if_pos rfl];refine wpAny_passesOwn x (thn (J d T e y _ u m) λf s3 l=>?_);cases f with
  |next=>obtain⟨a,k,r,t⟩:=l;obtain⟨q,o,p⟩:=C a k t;exact⟨q,o,a,k,r,p⟩
  |cont=>obtain⟨a,k,r,t⟩:=l;obtain⟨q,o,p⟩:=C a k t;exact⟨q,o,a,k,r,p⟩
  |brk=>exact l
  |ret v=>exact l
 |false=>rw[if_neg aaf];exact wpAny_execs_nil ⟨e,y,u,m⟩
end
structure It where
 go:Nat->Hp->Prop
 yld:Nat->Hp->V->Hp->Prop
 stop:Nat->Hp->Prop
def FpOk(X:Cx)(a:List (Addr×Obj))(H:Hp)(b:Addr):Prop:=
 H b=none/\b≠X.env.locals/\b ∉ X.fs/\(b∈X.ex\/X.s₀.heap.objs.size<=b)/\(∀x c,X.env.cells.lookup x=some c->c≠b)/\∀p∈X.pn++a,p.1≠b
theorem Inv.rd(I:Inv X pins σ H s)(a:s.heap.objs.size<=b)(d:H' b=none):FpOk X pins H' b:=by
 refine⟨d,abc (aaC I.lt a),I.nofs a,.inr (aar I.sz a),λx c e z=>?_,λp f z=>?_⟩
 ·obtain⟨v,q⟩:=I.cell x c e;exact absurd (aaC q.lt (by rw[z];exact a)) (aba _)
 ·exact absurd (aaC (Heap.lt_size (I.pin p f).1) (by rw[z];exact a)) (aba _)
structure Turn (P:Program)(w:World)(K:Waa)(tg:Expr)(J:It)(fp:List Addr)(it:Addr)(tn:Nat->Heap->Prop):Prop where
 mem:it∈fp
 obj:∀i h,tn i h->∀b∈fp,∃o,h.get? b=some o/\∀v,o.data≠.cell v
 keep:∀i h h',tn i h->(∀b∈fp,∀o,h.get? b=some o->h'.get? b=some o)->tn i h'
 item:∀(X:Cx),X.prog=P->X.w=w->X.K=K->X.calm=true->∀(i:Nat) (pins:List (Addr×Obj)) (s:Shared) (σ:St) (H:Hp) (E:Value->Shared->Prop),Inv X pins σ H s->(∀b∈fp,FpOk X pins H b)->tn i s.heap->J.go i H ->
  wpAny (model P w) X.A (pyNext (.ref it)) (λr s1=>∃u,r=some u /\
   wpAny (model P w) X.A (letOwnedTupleGo tg (.ref it) u) (λ_ s2=>∃x H',Inv X pins σ H' s2/\RelV x u/\J.yld i H x H'/\tn (i+1) s2.heap/\∀b∈fp,H' b=none) E s1) E s
 done:∀(X:Cx),X.prog=P->X.w=w->X.K=K->X.calm=true->∀(i:Nat) (pins:List (Addr×Obj)) (s:Shared) (σ:St) (H:Hp) (E:Value->Shared->Prop),Inv X pins σ H s->(∀b∈fp,FpOk X pins H b)->tn i s.heap->J.stop i H ->
  wpAny (model P w) X.A (pyNext (.ref it)) (λr s1=>r=none/\Inv X pins σ H s1) E s
 self:∀(A:Around) (i:Nat) (s:Shared) (Q:Value->Shared->Prop) (E:Value->Shared->Prop),tn i s.heap->Q (.ref it) s->wpAny (model P w) A (pyIter (.ref it)) Q E s
abbrev TI:=St->Hp->(It->Hp->Prop)->Prop
def Jy(X:Cx)(a:List (Addr×Obj))(σ:St)(i:Expr)(R:It->Hp->Prop)(c:Value)(h:Shared):Prop:=
 ∃(f:Addr) (g:List Addr) (e:Nat->Heap->Prop) (J:It) (d:Hp),c=.ref f/\Inv X a σ d h/\Turn X.prog X.w X.K i J g f e/\e 0 h.heap/\(∀b∈g,FpOk X a d b)/\R J d
def PI(X:Cx)(e b:Expr)(f:TI):Prop:=
 ∀(a:List (Addr×Obj)) (s:Shared) (c:St) (H:Hp) (R:It->Hp->Prop),Inv X a c H s->f c H R ->
  wpAny (model X.prog X.w) X.A (eval b X.env) (λv d=>wpAny (model X.prog X.w) X.A (pyIter v) (Jy X a c e R) X.xe d) X.xe s
theorem sx(c:s.heap.get? it=some o)(d:o.cls=.type n)(e:o.data=.fields vs)
  (b:["enumerate","zip","dict_itemiterator","dict_reverseitemiterator","odict_iterator","itertools.zip_longest","itertools.pairwise"].contains n=false) (a:Q () s):wpAny M A (letOwnedTupleGo tg (.ref it) u) Q E s:=by
 unfold letOwnedTupleGo;cases tg<;>first
  |exact wpAny_pure a
  | (cases u<;>first
    |exact wpAny_pure a
    | (refine wpAny_bind (wpAny_load c ?_)
       rw[d,e];show wpAny M A (if (["enumerate","zip","dict_itemiterator","dict_reverseitemiterator","odict_iterator","itertools.zip_longest","itertools.pairwise"].contains n&&vs[0]?==some (rawInt _))=true then _ else _) Q E s;rw[if_neg (by intro h;rw[b,ab7]at h;cases h)];exact wpAny_pure a))
def HD(K:Waa)(a:Addr):It:=
 ⟨λi H=>∃b x,SqL K H a b/\b[i]?=some x,λi H x c=>c=H/\∀b,SqL K H a b->b[i]?=some x,λi H=>∃b,SqL K H a b/\b.length<=i⟩
def HE(K:Waa)(a:Addr):It:=
 ⟨λi H=>∃b x,SqT K H a b/\b[i]?=some x,λi H x c=>c=H/\∀b,SqT K H a b->b[i]?=some x,λi H=>∃b,SqT K H a b/\b.length<=i⟩
def Ec(lo:Int)(n:Nat):It:=⟨λi _=>i<n,λi H x a=>a=H/\x=.int (lo+i),λi _=>n<=i⟩
theorem qu{K:Waa}(a it:Addr):Turn P w K tg (HD K a) [it] it (λi h=>h.IsListIter it a i) where
 mem:=by simp
 obj:=λi h f b j=>by
  have e:b=it:=by simpa using j
  subst e;obtain⟨o,e,c,d⟩:=f;exact⟨o,e,λv z=>by rw[d]at z;cases z⟩
 keep:=λi h D f k=>f.at λo e=>k it (by simp) o e
 item:=by intro X A r N Q i g s O H E I n f t;subst A r N;obtain⟨S,x,m,B⟩:=t;obtain⟨G,M,p,T⟩:=I.list m;obtain⟨u,hu,ru⟩:=M.get B;obtain⟨J,y,Z,q,C,L⟩:=n it (by simp);refine wpAny_pyNext_list_item f p.isList (by simpa using hu) λD l sb=>?_;have U:Inv X g O H { s with heap:=D }:=I.turned (λb o j e=>(sb.2 b j).trans e) J y q C L;obtain⟨o,e,c,d⟩:=id l;exact⟨u,rfl,sx e c d (by decide) ⟨x,H,U,ru,⟨rfl,λys hy=>by rw[I.o3 hy m];exact B⟩,l,λb j=>(n b j).1⟩⟩
 done:=by
  intro X A r N Q i g s O H E I n f t;subst A r N;obtain⟨S,m,B⟩:=t;obtain⟨G,M,p,T⟩:=I.list m;obtain⟨J,y,Z,q,C,L⟩:=n it (by simp);have hl:=M.length;exact wpAny_pyNext_list_end (I.ok.hd Q) f p.isList (by simp;omega) λD Y=>⟨rfl,I.turned (λb o j e=>Y b o j e) J y q C L⟩
 self:=λ_ _ _ _ _ f h=>wpAny_pyIter_listiter f h
theorem mz{K:Waa}(a it:Addr):Turn P w K tg (HE K a) [it] it (λi h=>h.IsTupleIter it a i) where
 mem:=by simp
 obj:=λi h f b j=>by
  have e:b=it:=by simpa using j
  subst e;obtain⟨o,e,c,d⟩:=f;exact⟨o,e,λv z=>by rw[d]at z;cases z⟩
 keep:=λi h G f k=>f.at λo e=>k it (by simp) o e
 item:=by intro X B t N Q i g s O H E I q f y;subst B t N;obtain⟨S,x,n,C⟩:=y;obtain⟨l,M,p,T⟩:=I.tuple n;obtain⟨u,hu,ru⟩:=M.get C;obtain⟨J,A,Z,r,D,L⟩:=q it (by simp);refine wpAny_pyNext_tuple_item f (show s.heap.IsTuple a l.toArray from p) (by simpa using hu) λG m sb=>?_;have U:Inv X g O H { s with heap:=G }:=I.turned (λb o j e=>(sb.2 b j).trans e) J A r D L;obtain⟨o,e,c,d⟩:=id m;exact⟨u,rfl,sx e c d (by decide) ⟨x,H,U,ru,⟨rfl,λys hy=>by rw[I.ua hy n];exact C⟩,m,λb j=>(q b j).1⟩⟩
 done:=by
  intro X B t N Q i g s O H E I q f y;subst B t N;obtain⟨S,n,C⟩:=y;obtain⟨l,M,p,T⟩:=I.tuple n;obtain⟨J,A,Z,r,D,L⟩:=q it (by simp);have hl:=M.length;exact wpAny_pyNext_tuple_end (I.ok.hd Q) f (show s.heap.IsTuple a l.toArray from p) (by simp;omega) λG Y=>⟨rfl,I.turned (λb o j e=>Y b o j e) J A r D L⟩
 self:=λ_ _ _ _ _ f h=>wpAny_pyIter_tupleiter f h
theorem mB{K:Waa}(it:Addr)(lo:Int)(n:Nat):Turn P w K tg (Ec lo n) [it] it (λi h=>IsRangeIter h it (lo+(i:Nat)*1) ((n:Int)-(i:Nat)) 1) where
 mem:=by simp
 obj:=λi h a b d=>by
  have e:b=it:=by simpa using d
  subst e;exact⟨_,a,λv z=>by
   have N:Data.fields _=Data.cell v:=z;cases N⟩
 keep:=λi h u a k=>k it (by simp) _ a
 item:=by intro X q l B x i c s C H E I g a p;subst q l B;obtain⟨y,m,J,j,r,A⟩:=g it (by simp);have W:=Walks.range (prog:=X.prog) (w:=X.w) (I.ok.hd x) it lo 1 n;refine W.item i s _ _ p a λv u M L f O=>?_;obtain⟨t,rfl⟩:=L;have D:Inv X c C H { s with heap:=u,toks:=M }:=I.turned (λb o d e=>O b o (by simpa using d) e) y m j r A;refine⟨_,rfl,sx f rfl rfl (by decide) ⟨.int (lo+i),H,D,⟨t,?_⟩,⟨rfl,rfl⟩,f,λb d=>(g b d).1⟩⟩;rw[Int.mul_one]
 done:=by
  intro X q l B x i c s C H E I g a p;subst q l B;obtain⟨y,m,J,j,r,A⟩:=g it (by simp);exact wpAny_pyNext_range_end (I.ok.hd x) a (by have:n<=i:=p;omega) λu G=>⟨rfl,I.turned (λb o d e=>G b o d e) y m j r A⟩
 self:=λ_ _ _ _ _ a h=>wpAny_pyIter_rangeiter a h
end
section
section
variable{X:Cx}{tg:Expr}
def Ed(K:Waa)(d:TE):TI:=λe H R=>d e H λx b=>∃a,x=.ref a/\(∃c,SqL K b a c)/\R (HD K a) b
def HF(K:Waa)(d:TE):TI:=λe H R=>d e H λx b=>∃a,x=.ref a/\(∃c,SqT K b a c)/\R (HE K a) b
theorem wY{l:Expr}{g:TE}(t:PE X l g):PI X tg l (Ed X.K g):=by
 intro c s n H R I h;refine thn (t c s n H _ I h) λv d r=>?_;obtain⟨x,k,f,w,m⟩:=r;obtain⟨a,e,⟨y,i⟩,q⟩:=m;subst e;cases w;obtain⟨u,A,p,z⟩:=f.list i;refine wpAny_pyIter_list p.isList ?_;refine⟨d.heap.objs.size,[d.heap.objs.size],_,_,k,rfl,f.kept (t':=d.toks) λb o e=>Heap.get?_push_of_some _ e,qu a _,⟨_,Heap.get?_push_size _ rfl,rfl,rfl⟩,λb j=>?_,q⟩;have e:b=d.heap.objs.size:=by simpa using j
 subst e;exact f.rd (aae _) (f.hok.fresh (aae _))
theorem AZ{l:Expr}{i:TE}(u:PE X l i):PI X tg l (HF X.K i):=by
 intro d s r H R I h;refine thn (u d s r H _ I h) λv c t=>?_;obtain⟨x,m,f,w,n⟩:=t;obtain⟨a,e,⟨y,j⟩,q⟩:=n;subst e;cases w;obtain⟨g,A,p,z⟩:=f.tuple j;refine wpAny_pyIter_tuple (show c.heap.IsTuple a g.toArray from p) ?_;refine⟨c.heap.objs.size,[c.heap.objs.size],_,_,m,rfl,f.kept (t':=c.toks) λb o e=>Heap.get?_push_of_some _ e,mz a _,⟨_,Heap.get?_push_size _ rfl,rfl,rfl⟩,λb k=>?_,q⟩;have e:b=c.heap.objs.size:=by simpa using k
 subst e;exact f.rd (aae _) (f.hok.fresh (aae _))
theorem kI{R:It->Hp->Prop}{lo a:Int}{t u v:Tok}{d:Nat}(I:Inv X pins σ H s)(k:-(2^62)<=lo)(f:lo<2^62)(j:-(2^62)<=a)(i:a<2^62)
  (q:R (Ec lo (a-lo).toNat) H):wpAny (model X.prog X.w) X.A (pyIter (.ref s.heap.objs.size)) (Jy X pins σ tg R) E { s with heap:=s.heap.push { cls:=.type "range",data:=.fields #[.int lo t,.int a u,.int 1 v] },toks:=d }:=by
 refine wpAny_pyIter_range (IsRange.new ..) (small_one k f j i) ?_;have c:Inv X pins σ H { s with heap:=s.heap.push { cls:=.type "range",data:=.fields #[.int lo t,.int a u,.int 1 v] },toks:=d }:=I.kept λb o e=>Heap.get?_push_of_some _ e;refine⟨(s.heap.push { cls:=.type "range",data:=.fields #[.int lo t,.int a u,.int 1 v] }).objs.size,[(s.heap.push { cls:=.type "range",data:=.fields #[.int lo t,.int a u,.int 1 v] }).objs.size],_,_,H,rfl,
  c.kept λb o e=>Heap.get?_push_of_some _ e,mB _ lo (a-lo).toNat,?_,λb g=>?_,q⟩
 ·have h:lo+((0:Nat):Int)*1=lo:=by simp
  have l:(((a-lo).toNat:Nat):Int)-((0:Nat):Int)=Builtin.Range.rangeSize lo a 1:=by rw[rangeSize_one];split<;>omega
  show IsRangeIter _ _ (lo+((0:Nat):Int)*1) ((((a-lo).toNat:Nat):Int)-((0:Nat):Int)) 1;rw[h,l];exact Heap.get?_push_size _ rfl
 ·have e:b=(s.heap.push { cls:=.type "range",data:=.fields #[.int lo t,.int a u,.int 1 v] }).objs.size:=by simpa using g
  subst e;exact c.rd (aae _) (c.hok.fresh (aae _))
def Ee(b:TA):TI:=λc H R=>b c H λa d=>∃j:Int,a=[.int j]/\-(2^62)<=j/\j<2^62/\R (Ec 0 j.toNat) d
def Ef(b:TA):TI:=λc H R=>b c H λa d=>∃i j:Int,a=[.int i,.int j]/\(-(2^62)<=i/\i<2^62/\-(2^62)<=j/\j<2^62)/\R (Ec i (j-i).toNat) d
theorem qw{a:Expr}{f:TA}{p b:Pos} (m:Gl X "range") (i:X.mg "range"=none) (w:PA X [a] f) (g:starEach [a] X.env=[(false,eval a X.env)]:=by rfl):PI X tg (.Call (.Name "range" p) [a] [] b) (Ee f):=by
 intro c s n H R I h;refine Call_ (fK I m i boot_range (abw (thn (w b c s n H _ I h) λy x o=>?_) g rfl));obtain⟨A,z,k,v,d⟩:=o;obtain⟨j,e,d,u,q⟩:=d;subst e;cases v with
 |cons r l=>cases l;obtain⟨t,rfl⟩:=r;exact call_range_1 (kI k (by omega) (by omega) d u (by simpa using q))
theorem qx{a b:Expr}{l:TA}{p d:Pos} (v:Gl X "range") (n:X.mg "range"=none) (C:PA X [a,b] l) (m:starEach [a,b] X.env=[(false,eval a X.env),(false,eval b X.env)]:=by rfl) (c:starEach [b] X.env=[(false,eval b X.env)]:=by rfl):
  PI X tg (.Call (.Name "range" p) [a,b] [] d) (Ef l):=by
 intro f s w H R I h;refine Call_ (fK I v n boot_range (abw (thn (C d f s w H _ I h) λG D x=>?_) (by rw[m,c]) (by rw[c];rfl)));obtain⟨M,J,o,B,k⟩:=x;obtain⟨i,j,e,⟨k,z,u,y⟩,q⟩:=k;subst e;cases B with
 |cons r g=>
  cases g with
  |cons A g=>cases g;obtain⟨t,rfl⟩:=r;obtain⟨L,rfl⟩:=A;exact call_range_2 (kI o k z u y q)
def HG(k:TI)(g:TG)(h:TS):TS:=λD a H=>k a H λJ j=>∃W:Nat->Nat->St->Hp->Prop,(∃m,W 0 m a j)/\∀i m a H,W i m a H ->
 (J.stop i H/\D.nx a H)\/(J.go i H/\∃N:St->Hp->Prop,(∀c b,N c b->∃e,e<m/\W (i+1) e c b)/\∀x b,J.yld i H x b->g x a b λd f=>h { D with nx:=N,ct:=N,bk:=D.nx } d f)
def pinsAt(a:List Addr)(h:Heap):List (Addr×Obj):=a.filterMap λb=>(h.get? b).map λo=>(b,o)
theorem bO(a:b∈fp)(e:h.get? b=some o):(b,o)∈pinsAt fp h:=List.mem_filterMap.mpr ⟨b,a,by rw[e];rfl⟩
theorem qy(d:p∈pinsAt fp h):p.1∈fp/\h.get? p.1=some p.2:=by
 obtain⟨b,c,e⟩:=List.mem_filterMap.mp d;cases q:h.get? b with
 |none=>rw[q]at e;cases e
 |some o=>rw[q]at e;have a:(b,o)=p:=aaH e;subst a;exact⟨c,q⟩
theorem Inv.pinned(I:Inv X pins σ H s)(j:∀b∈fp,FpOk X pins H b)(i:∀b∈fp,∃o,s.heap.get? b=some o/\∀v,o.data≠.cell v):Inv X (pins++pinsAt fp s.heap) σ H s:=
 I.ro λp g=>(aai.mp g).elim (λz=>I.pin p (aag _ z)) λz=>by obtain⟨c,e⟩:=qy z;obtain⟨h,k,f,_⟩:=j p.1 c;obtain⟨o,a,d⟩:=i p.1 c;rw[e]at a;cases a;exact⟨e,h,k,f,d⟩
theorem Inv.eo(I:Inv X (pins++pl) σ H s):Inv X pins σ H s:=I.ro λp a=>I.pin p (aag _ (aah _ a))
theorem A6{z:Expr}{C:List Stmt}{a6:Pos}(Q:PassesOwn (model X.prog X.w) X.A X.env X.xe)(hc:X.calm=true)(hi:PI X tg z wi)(hg:PG X tg g)(k:PSs X C tb)
  (hs:∀x,foldedSetIterable z X.env x=pure x:=by intro _;rfl):PS X (.For tg z C [] a6) (HG wi g tb):=by
 intro c s σ H D I h;refine wpAny_For (thn (hi c s σ H _ I h) λv s1 h1=>thn h1 λa7 s2 h2=>?_) hs;obtain⟨it,S,tn,J,H2,e,I2,T,a3,f2,W,⟨m0,w0⟩,O⟩:=h2;subst e;have l:∀{B:Hp},(∀b∈S,B b=none)->∀b∈S,FpOk X c B b:=λhn b k=>⟨hn b k,(f2 b k).2⟩
 refine codeAny_forLoop_any (λn s'=>∃i t B,Inv X c t B s'/\tn i s'.heap/\(∀b∈S,B b=none)/\W i n t B) ?_ m0 ⟨0,σ,H2,I2,a3,λb k=>(f2 b k).1,w0⟩;rintro n s3 ⟨i,p,H3,I3,a0,a1,w3⟩;rcases O i n p H3 w3 with ⟨Y,qn⟩|⟨go,N,hN,U⟩
 ·refine wpAny_passesOwn Q (thn (T.done X rfl rfl rfl hc i c s3 p H3 X.xe I3 (l a1) a0 Y) λr s4 L=>?_);obtain⟨hr,I4⟩:=L;subst hr;exact wpAny_execs_nil ⟨p,H3,I4,qn⟩
 ·refine wpAny_passesOwn Q (thn (T.item X rfl rfl rfl hc i c s3 p H3 X.xe I3 (l a1) a0 go) λr s4 L=>?_);obtain⟨u,hr,h4⟩:=L;subst hr;refine wpAny_passesOwn Q (thn h4 λ_ s5 L=>?_);obtain⟨x,H5,I5,r5,y5,M,a5⟩:=L;have a2:=I5.pinned (l a5) (T.obj _ _ M);refine wpAny_passesOwn Q (thn (hg _ s5 p H5 x u _ a2 r5 (U x H5 y5)) λ_ s6 L=>?_);obtain⟨a4,H6,I6,q6⟩:=L;refine wpAny_passesOwn Q (thn (k _ s6 a4 H6 _ I6 q6) λf s7 G=>?_);have q:∀{a:St}{y:Hp},Inv X (c++pinsAt S s5.heap) a y s7->N a y->∃m,m<n/\∃i t B,Inv X c t B s7/\tn i s7.heap/\(∀b∈S,B b=none)/\W i m t B:=λ{a y} j Z=>by obtain⟨m',hm,w7⟩:=hN a y Z;refine⟨m',hm,i+1,a,y,j.eo,T.keep _ _ _ M λb k o e=>(j.pin (b,o) (aag _ (aag _ (bO k e)))).1,λb k=>?_,w7⟩;obtain⟨o,e,d⟩:=T.obj _ _ M b k;exact(j.pin (b,o) (aag _ (aag _ (bO k e)))).2.1
  cases f with
  |next=>obtain⟨a,y,j,Z⟩:=G;exact q j Z
  |cont=>obtain⟨a,y,j,Z⟩:=G;exact q j Z
  |brk=>obtain⟨a,y,j,G⟩:=G;exact⟨a,y,j.eo,G⟩
  |ret v=>obtain⟨x7,a,y,j,r7,G⟩:=G;exact⟨x7,a,y,j.eo,r7,G⟩
end
end
section
abbrev R2:=V->V->Hp->VK->Prop
def OpR(X:Cx)(f:Value->Value->Sem Value)(r:R2):Prop:=
 ∀(a:List (Addr×Obj)) (s:Shared) (b:St) (H:Hp) (x y:V) (v u:Value) (Q:VK),Inv X a b H s->RelV x v->RelV y u->r x y H Q ->
  wpAny (model X.prog X.w) X.A (f v u) (EP X a b Q) X.xe s
def HH(X:Cx)(f:Value->Sem Value)(r:V->Hp->VK->Prop):Prop:=
 ∀(a:List (Addr×Obj)) (s:Shared) (b:St) (H:Hp) (x:V) (v:Value) (Q:VK),Inv X a b H s->RelV x v->r x H Q ->
  wpAny (model X.prog X.w) X.A (f v) (EP X a b Q) X.xe s
def cx(X:Cx)(f:Value)(r:List V->Hp->VK->Prop):Prop:=
 ∀(a:List (Addr×Obj)) (s:Shared) (c:St) (H:Hp) (b:List V) (d:List Value) (Q:VK),Inv X a c H s->Vals b d->r b H Q ->
  wpAny (model X.prog X.w) X.A (call f d) (EP X a c Q) X.xe s
def HI(X:Cx)(r:V->Hp->(Bool->Hp->Prop)->Prop):Prop:=
 ∀(a:List (Addr×Obj)) (s:Shared) (b:St) (H:Hp) (x:V) (v:Value) (Q:Bool->Hp->Prop),Inv X a b H s->RelV x v->r x H Q ->
  wpAny (model X.prog X.w) X.A (truthy v) (TP X a b Q) X.xe s
def zG(r:R2)(c d:TE):TE:=λa H Q=>c a H λx e=>d a e λy b=>r x y b Q
def Kk(r:V->Hp->VK->Prop)(a:TE):TE:=λb H Q=>a b H λx c=>r x c Q
def rI(C:Int->Int->Prop)(g:Int->Int->V):R2:=λx y H Q=>∃i j,x=.int i/\y=.int j/\C i j/\Q (g i j) H
def wL(g:Int->Int->V):R2:=λx y H Q=>∃i j,x=.int i/\y=.int j/\Q (g i j) H
def rU(g:Int->V):V->Hp->VK->Prop:=λx H Q=>∃i,x=.int i/\Q (g i) H
section
variable{X:Cx}{a b c:Expr}{ta tb tc:TE}{pos:Pos}
theorem A7(B:PE X a ta)(o:PE X b tb){d:List (Addr×Obj)}{s:Shared}{R:V->V->Hp->Prop}(I:Inv X d σ H s)
  (h:ta σ H λx k=>tb σ k λy e=>R x y e) {f:Value->Value->Sem Value}
  (C:∀v u j x y e,Inv X d σ e j->RelV x v->RelV y u->R x y e->wpAny (model X.prog X.w) X.A (f v u) Q X.xe j):
  wpAny (model X.prog X.w) X.A (eval a X.env) (λv g=>wpAny (model X.prog X.w) X.A (eval b X.env) (λu i=>wpAny (model X.prog X.w) X.A (f v u) Q X.xe i) X.xe g) X.xe s:=by
 refine thn (B d s σ H _ I h) λv m l=>?_;obtain⟨x,k,p,z,r⟩:=l;refine thn (o d m σ k _ p r) λu j l=>?_;obtain⟨y,e,n,q,t⟩:=l;exact C v u j x y e n z q t
theorem sy(n:OpR X (binaryOp op) r)(m:PE X a ta)(f:PE X b tb):PE X (.BinOp a op b pos) (zG r ta tb):=by intro d s j H Q I h;exact wpAny_BinOp (A7 m f I h λv u k x y g e l i q=>n d k j g x y v u Q e l i q)
theorem zH{f:UnaryOp}(n:HH X (unaryOp f) r)(l:PE X a ta):PE X (.UnaryOp f a pos) (Kk r ta):=by intro d s e H Q I h;exact UnaryOp_ (thn (l d s e H _ I h) λv g ⟨x,k,m,i,j⟩=>n d g e k x v Q m i j)
theorem Hb{f:Value->Value->Sem Value}{g:Int->Int->Int}
  (rule:∀(i j:Int) (t u:Tok) (s:Shared) (Q:Value->Shared->Prop) (E:Value->Shared->Prop),C i j->Q (.int (g i j) s.toks) { s with toks:=s.toks+1 }->wpAny (model X.prog X.w) X.A (f (.int i t) (.int j u)) Q E s):
  OpR X f (rI C λi j=>.int (g i j)):=by
 intro d s n H x y v u Q I m k h;obtain⟨i,j,rfl,rfl,l,q⟩:=h;obtain⟨t,rfl⟩:=m;obtain⟨e,rfl⟩:=k;exact rule i j t e s _ _ l ⟨.int (g i j),H,I.tok _,⟨_,rfl⟩,q⟩
theorem Eg{f:Value->Value->Sem Value}{g:Int->Int->Int}
  (rule:∀(i j:Int) (t u:Tok) (s:Shared) (Q:Value->Shared->Prop) (E:Value->Shared->Prop),Q (.int (g i j) s.toks) { s with toks:=s.toks+1 }->wpAny (model X.prog X.w) X.A (f (.int i t) (.int j u)) Q E s):
  OpR X f (wL λi j=>.int (g i j)):=by
 intro d s m H x y v u Q I l k h;obtain⟨i,j,rfl,rfl,q⟩:=h;obtain⟨t,rfl⟩:=l;obtain⟨e,rfl⟩:=k;exact rule i j t e s _ _ ⟨.int (g i j),H,I.tok _,⟨_,rfl⟩,q⟩
theorem wZ{g:Int->Int->Bool}
  (rule:∀(i j:Int) (t u:Tok) (s:Shared) (Q:Value->Shared->Prop) (E:Value->Shared->Prop),Q (.bool (g i j)) s->wpAny (model X.prog X.w) X.A (f (.int i t) (.int j u)) Q E s):
  OpR X f (wL λi j=>.bl (g i j)):=by
 intro d s m H x y v u Q I l k h;obtain⟨i,j,rfl,rfl,q⟩:=h;obtain⟨t,rfl⟩:=l;obtain⟨e,rfl⟩:=k;exact rule i j t e s _ _ ⟨.bl (g i j),H,I,rfl,q⟩
def HJ(i j:Int):Prop:=0<j/\j<1073741824
def HK(i j:Int):Prop:=0<=j/\j<=1000000/\i.natAbs<2^64
def CMul(i j:Int):Prop:=(-(2^64)<i/\i<2^64)\/(-(2^64)<j/\j<2^64)
theorem CMul.ok{i j:Int}(h:CMul i j):IntMulOk i j:=by
 rcases h with ⟨e,d⟩|⟨e,d⟩
 ·exact .of_left (intBits_le_64 e d)
 ·exact .of_right (intBits_le_64 e d)
theorem A8:OpR X (binaryOp .Add) (wL λi j=>.int (i+j)):=Eg λ_ _ _ _ _ _ _ q=>add_int q
theorem A9:OpR X (binaryOp .Sub) (wL λi j=>.int (i-j)):=Eg λ_ _ _ _ _ _ _ q=>sub_int q
theorem Ba:OpR X (binaryOp .Mult) (rI CMul λi j=>.int (i*j)):=Hb λ_ _ _ _ _ _ _ d q=>mul_int q d.ok
theorem w8:OpR X (binaryOp .FloorDiv) (rI HJ λi j=>.int (i/j)):=Hb λi j _ _ _ _ _ d q=>by have f:(0:Int)<j:=d.1;have e:j<1073741824:=d.2;exact floordiv_int (by omega) (by rw[Int.fdiv_eq_ediv_of_nonneg i (by omega)];exact q) (.inl (PyProof.noPylong_small (by omega)))
theorem Bb:OpR X (binaryOp .Mod) (rI (λ_ j=>0<j) λi j=>.int (i%j)):=Hb λi j _ _ _ _ _ d q=>by have e:(0:Int)<j:=d;exact mod_int' (by omega) (by rw[Int.fmod_eq_emod_of_nonneg i (by omega)];exact q)
theorem Bc:OpR X (binaryOp .Pow) (rI HK λi j=>.int (i^j.toNat)):=Hb λ_ _ _ _ _ _ _ d q=>pow_int_small d.1 d.2.1 d.2.2 q
theorem Kl{f:Value->Sem Value}{g:Int->Int}
  (rule:∀(i:Int) (t:Tok) (s:Shared) (Q:Value->Shared->Prop) (E:Value->Shared->Prop),Q (.int (g i) s.toks) { s with toks:=s.toks+1 }->wpAny (model X.prog X.w) X.A (f (.int i t)) Q E s):
  HH X f (rU λi=>.int (g i)):=by
 intro d s j H x v Q I e h;obtain⟨i,rfl,q⟩:=h;obtain⟨t,rfl⟩:=e;exact rule i t s _ _ ⟨.int (g i),H,I.tok _,⟨_,rfl⟩,q⟩
theorem sA:HH X (unaryOp .USub) (rU λi=>.int (-i)):=Kl λ_ _ _ _ _ q=>neg_int q
end
def Bd:V->V->Bool
 |.non,.non=>true|.non,.int _=>true|.int _,.non=>true|.non,.bl _=>true|.bl _,.non=>true|.non,.str _=>true|.str _,.non=>true
 |.int _,.int _=>true|.bl _,.bl _=>true|.str _,.str _=>true|.byt _,.byt _=>true
 |.int _,.str _=>true|.str _,.int _=>true|.bl _,.str _=>true|.str _,.bl _=>true
 |_,_=>false
def rEq:R2:=λx y H Q=>Bd x y=true/\Q (.bl (decide (x=y))) H
def rNe:R2:=λx y H Q=>Bd x y=true/\Q (.bl (!decide (x=y))) H
theorem nZ:decide (V.int i=V.int j)=(i==j):=by rw[abx];simp
theorem sC:decide (V.bl i=V.bl j)=(i==j):=by rw[abx];simp
theorem n5:decide (V.str i=V.str j)=(i==j):=by rw[abx];simp
theorem n6:decide (V.byt i=V.byt j)=(i.toList==j.toList):=by rw[abx];cases i;cases j;simp
section
variable{X:Cx}{a b c:Expr}{ta tb tc:TE}{pos:Pos}
theorem aA(I:Inv X pins σ H s)(q:Q (.bl k) H)(e:k=k'):EP X pins σ Q (.bool k') s:=by subst e;exact⟨.bl k,H,I,rfl,q⟩
theorem op_eq:OpR X (compareOp .Eq) rEq:=by
 intro k s l H x y v u Q I g d h;obtain⟨f,q⟩:=h;cases x with
 |non=>
  cases g;cases y with
  |non=>cases d;exact PySem.EqNone.eq_none_none (aA I q (by simp))
  |bl j=>cases d;exact PySem.EqNone.eq_none_bool (aA I q (by simp))
  |int j=>obtain⟨e,rfl⟩:=d;exact PySem.EqNone.eq_none_int (aA I q (by simp))
  |str j=>obtain⟨e,rfl⟩:=d;exact PySem.EqNone.eq_none_str (aA I q (by simp))
  |_=>exact absurd (show false=true from f) aaf
 |bl i=>
  cases g;cases y with
  |non=>cases d;exact PySem.EqNone.eq_bool_none (aA I q (by simp))
  |bl j=>cases d;exact eq_bool (aA I q sC)
  |str j=>obtain⟨e,rfl⟩:=d;exact PySem.EqMixed.eq_bool_str (aA I q (by simp))
  |_=>exact absurd (show false=true from f) aaf
 |int i=>
  obtain⟨t,rfl⟩:=g;cases y with
  |non=>cases d;exact PySem.EqNone.eq_int_none (aA I q (by simp))
  |int j=>obtain⟨e,rfl⟩:=d;exact eq_int (aA I q nZ)
  |str j=>obtain⟨e,rfl⟩:=d;exact PySem.EqMixed.eq_int_str (aA I q (by simp))
  |_=>exact absurd (show false=true from f) aaf
 |str i=>
  obtain⟨t,rfl⟩:=g;cases y with
  |non=>cases d;exact PySem.EqNone.eq_str_none (aA I q (by simp))
  |bl j=>cases d;exact PySem.EqMixed.eq_str_bool (aA I q (by simp))
  |int j=>obtain⟨e,rfl⟩:=d;exact PySem.EqMixed.eq_str_int (aA I q (by simp))
  |str j=>obtain⟨e,rfl⟩:=d;exact eq_str (aA I q n5)
  |_=>exact absurd (show false=true from f) aaf
 |byt i=>
  obtain⟨t,rfl⟩:=g;cases y with
  |byt j=>obtain⟨e,rfl⟩:=d;exact PySem.W.eq_bytes (aA I q n6)
  |_=>exact absurd (show false=true from f) aaf
 |_=>cases y<;>exact absurd (show false=true from f) aaf
theorem op_ne:OpR X (compareOp .NotEq) rNe:=by
 intro k s l H x y v u Q I g d h;obtain⟨f,q⟩:=h;cases x with
 |non=>
  cases g;cases y with
  |non=>cases d;exact PySem.EqNone.ne_none_none (aA I q (by simp))
  |bl j=>cases d;exact PySem.EqNone.ne_none_bool (aA I q (by simp))
  |int j=>obtain⟨e,rfl⟩:=d;exact PySem.EqNone.ne_none_int (aA I q (by simp))
  |str j=>obtain⟨e,rfl⟩:=d;exact PySem.EqNone.ne_none_str (aA I q (by simp))
  |_=>exact absurd (show false=true from f) aaf
 |bl i=>
  cases g;cases y with
  |non=>cases d;exact PySem.EqNone.ne_bool_none (aA I q (by simp))
  |bl j=>cases d;exact ne_bool (aA I q (congrArg not sC))
  |str j=>obtain⟨e,rfl⟩:=d;exact PySem.EqMixed.ne_bool_str (aA I q (by simp))
  |_=>exact absurd (show false=true from f) aaf
 |int i=>
  obtain⟨t,rfl⟩:=g;cases y with
  |non=>cases d;exact PySem.EqNone.ne_int_none (aA I q (by simp))
  |int j=>obtain⟨e,rfl⟩:=d;exact ne_int (aA I q (congrArg not nZ))
  |str j=>obtain⟨e,rfl⟩:=d;exact PySem.EqMixed.ne_int_str (aA I q (by simp))
  |_=>exact absurd (show false=true from f) aaf
 |str i=>
  obtain⟨t,rfl⟩:=g;cases y with
  |non=>cases d;exact PySem.EqNone.ne_str_none (aA I q (by simp))
  |bl j=>cases d;exact PySem.EqMixed.ne_str_bool (aA I q (by simp))
  |int j=>obtain⟨e,rfl⟩:=d;exact PySem.EqMixed.ne_str_int (aA I q (by simp))
  |str j=>obtain⟨e,rfl⟩:=d;exact ne_str (aA I q (congrArg not n5))
  |_=>exact absurd (show false=true from f) aaf
 |byt i=>
  obtain⟨t,rfl⟩:=g;cases y with
  |byt j=>obtain⟨e,rfl⟩:=d;exact PySem.W.ne_bytes (aA I q (congrArg not n6))
  |_=>exact absurd (show false=true from f) aaf
 |_=>cases y<;>exact absurd (show false=true from f) aaf
theorem Eh:OpR X (compareOp .Lt) (wL λi j=>.bl (decide (i<j))):=wZ λ_ _ _ _ _ _ _ q=>lt_int q
theorem Ei:OpR X (compareOp .LtE) (wL λi j=>.bl (decide (i<=j))):=wZ λ_ _ _ _ _ _ _ q=>le_int q
theorem Ej:OpR X (compareOp .Gt) (wL λi j=>.bl (decide (j<i))):=wZ λ_ _ _ _ _ _ _ q=>gt_int q
theorem Ek:OpR X (compareOp .GtE) (wL λi j=>.bl (decide (j<=i))):=wZ λ_ _ _ _ _ _ _ q=>ge_int q
theorem OpR.or(h:OpR X f r)(h':OpR X f r'):OpR X f (λx y H Q=>r x y H Q\/r' x y H Q):=by
 intro d s g H x y v u Q I i e q;rcases q with q|q
 ·exact h d s g H x y v u Q I i e q
 ·exact h' d s g H x y v u Q I i e q
theorem ju(o:OpR X (compareOp op) r)(n:PE X a ta)(g:PE X b tb)(e:behindInMarks op b=false):PE X (.Compare a [op] [b] pos) (zG r ta tb):=by intro d s k H Q I h;exact wpAny_Compare1 (A7 n g I h λv u l x y i f m j q=>o d l k i x y v u Q f m j q) e
def sF(t:TE):TT:=λd H Q=>t d H λx e=>∃k,x=.bl k/\Q k e
theorem jv{f:CmpOp}{r:R2}(M:OpR X (compareOp f) r)(L:PE X a ta)(m:PE X b tb)(j:behindInMarks f b=false):PT X (.Compare a [f] [b] pos) (sF (zG r ta tb)):=by
 intro d s g H Q I h;refine wpAny_isTrue_Compare1 (thn (L d s g H _ I h) λv i ⟨x,t,n,G,w⟩=>thn (m d i g t _ n w) λu D ⟨y,p,l,q,C⟩=>
  thn (M d D g p x y v u _ l G q C) λc N ⟨z,J,B,A,k,e,o⟩=>?_) j
 subst e;cases A;exact wpAny_truthy_bool ⟨J,B,o⟩
def mC(r j:R2)(ta tb tc:TE):TE:=λd H Q=>ta d H λx g=>tb d g λy f=>r x y f λz e=>∃k,z=.bl k /\
 (if k=true then tc d e λh i=>j y h i Q else Q (.bl false) e)
theorem sH{l g:CmpOp}{r p:R2}(ho:OpR X (compareOp l) r)(j:OpR X (compareOp g) p)(ha:PE X a ta)(D:PE X b tb)(Y:PE X c tc)
  (A:lastMarks [l,g] [b,c]=false:=by with_unfolding_all rfl):PE X (.Compare a [l,g] [b,c] pos) (mC r p ta tb tc):=by
 intro f s i H Q I h;refine Compare_chain (thn (ha f s i H _ I h) λv t ⟨x,M,G,r1,O⟩=>chain_link (thn (D f t i M _ G O) λu Z ⟨y,J,C,n,U⟩=>
  thn (ho f Z i J x y v u _ C r1 n U) λd s3 ⟨z,q,o,S,k,e,m⟩=>?_)) A
 subst e;cases S;refine wpAny_truthy_bool ?_;cases k with
 |false=>exact ite_ff ⟨.bl false,q,o,rfl,m⟩
 |true=>exact ite_tt (chain_last (thn (Y f s3 i q _ o m) λN w ⟨z',H4,L,B,T⟩=>j f w i H4 y z' u N Q L n B T))
theorem sI{l g:CmpOp}{r p:R2}(ho:OpR X (compareOp l) r)(j:OpR X (compareOp g) p)(ha:PE X a ta)(J:PE X b tb)(hc:PE X c tc)
  (B:lastMarks [l,g] [b,c]=false:=by with_unfolding_all rfl):PT X (.Compare a [l,g] [b,c] pos) (sF (mC r p ta tb tc)):=by
 intro f s i H Q I h;refine isTrue_chain (thn (ha f s i H _ I h) λv t ⟨x,S,L,r1,Y⟩=>test_link (thn (J f t i S _ L Y) λu s2 ⟨y,N,D,n,q2⟩=>
  thn (ho f s2 i N x y v u _ D r1 n q2) λd s3 ⟨z,q,o,Z,k,e,m⟩=>?_)) B
 subst e;cases Z;refine wpAny_truthy_bool ?_;cases k with
 |false=>obtain⟨k',A,M⟩:=m;cases A;exact ite_ff ⟨q,o,M⟩
 |true=>refine ite_tt (test_last (thn (hc f s3 i q _ o m) λT w ⟨z',H4,O,C,q4⟩=>thn (j f w i H4 y z' u T _ O n C q4) λd' s5 hZ=>?_));obtain⟨z2,U,G,r5,k2,e2,q5⟩:=hZ;subst e2;cases r5;exact wpAny_truthy_bool ⟨U,G,q5⟩
def Be(K:Waa)(x:V)(H:Hp)(k:Bool):Prop:=
 match x with
 |.non=>k=false
 |.bl b=>k=b
 |.int i=>k=(i !=0)
 |.str y=>y.length<=sizeLine/\k=((y.length:Int) !=0)
 |.byt y=>y.size<=sizeLine/\k=((y.size:Int) !=0)
 |.ref p=>(∃d,SqL K H p d/\k=!d.isEmpty)\/(∃d,SqT K H p d/\k=!d.isEmpty)\/∃e,H p=some (.dK e)/\k=!e.isEmpty
 |_=>False
theorem mD{e:Type}{d:List (e×V)}{vs:List (e×Value)}(r:KV d vs):(!vs.isEmpty)=!d.isEmpty:=by cases r<;>rfl
theorem gM{xs:List V}{d:List Value}(r:Vals xs d):(!d.toArray.isEmpty)=!xs.isEmpty:=by cases r<;>simp
theorem line63:(sizeLine:Nat)<2^63:=by rw[sizeLine_eq];decide
theorem Bf:HI X (λx H Q=>∃k,Be X.K x H k/\Q k H):=by
 intro B s J H x v Q I l h;obtain⟨k,e,q⟩:=h;have L:=line63;have G:sizeLine=16777216:=sizeLine_eq;cases x with
 |non=>cases l;have d:k=false:=e;subst d;exact truthy_none ⟨H,I,q⟩
 |bl b=>cases l;have d:k=b:=e;subst d;exact wpAny_truthy_bool ⟨H,I,q⟩
 |int i=>obtain⟨t,rfl⟩:=l;have d:k=(i !=0):=e;subst d;exact PySem.P.truthy_int ⟨H,I,q⟩
 |str y=>obtain⟨t,rfl⟩:=l;obtain⟨D,d⟩:y.length<=sizeLine/\k=((y.length:Int) !=0):=e;subst d;exact PySem.P.truthy_str (by omega) ⟨H,I.tok _,q⟩
 |byt y=>obtain⟨t,rfl⟩:=l;obtain⟨D,d⟩:y.size<=sizeLine/\k=((y.size:Int) !=0):=e;subst d;exact PySem.W.truthy_bytes (by omega) ⟨H,I.tok _,q⟩
 |ref p=>
  cases l;have d:(∃j,SqL X.K H p j/\k=!j.isEmpty)\/(∃j,SqT X.K H p j/\k=!j.isEmpty)\/∃f,H p=some (.dK f)/\k=!f.isEmpty:=e;rcases d with ⟨j,n,d⟩|⟨j,n,d⟩|⟨f,n,d⟩
  ·subst d;obtain⟨u,r,z,A⟩:=I.list n;have g:=r.length;exact wpAny_truthy_list z.isList (by simp only[aax];omega) ⟨H,I.tok _,by rw[gM r];exact q⟩
  ·subst d;obtain⟨u,r,z,A⟩:=I.tuple n;have g:=r.length;exact truthy_tuple z (by simp only[aax];omega) ⟨H,I.tok _,by rw[gM r];exact q⟩
  ·subst d;obtain⟨A,C,o,r,m⟩:f.length<=sizeLine/\(p==sysModules)=false/\∃o,KV f o/\s.heap.DictOf (aV X.prog X.w) p o:=I.hok p _ n;have g:f.length=o.length:=Paired.length r;exact wpAny_truthy_dict C m (by omega) ⟨H,I.tok _,by rw[mD r];exact q⟩
 |_=>exact(show False from e).elim
theorem sJ(o:PE X a ta)(j:∀d,isTrue a X.env d=(do let v <-d;standAt a.pos;holding [v] (truthy v))):
  PT X a (λσ H Q=>ta σ H λx f=>∃k,Be X.K x f k/\Q k f):=by
 intro e s σ H Q I h;exact isTrue_plain (thn (o e s σ H _ I h) λv g ⟨x,l,i,n,m⟩=>Bf e g σ l x v Q i n m) (j _)
theorem vals1(r:Vals [x] us):∃u,us=[u]/\RelV x u:=by
 cases r with
 |cons e d=>cases d;exact⟨_,rfl,e⟩
theorem vals2(r:Vals [x,y] us):∃u d,us=[u,d]/\RelV x u/\RelV y d:=by
 cases r with
 |cons f g=>
  cases g with
  |cons h e=>cases e;exact⟨_,_,rfl,f,h⟩
theorem sL:cx X (.builtin "abs") (λxs H Q=>∃i,xs=[.int i]/\Q (.int (if i<0 then -i else i)) H):=by
 intro d s f H xs g Q I r h;obtain⟨i,rfl,q⟩:=h;obtain⟨u,rfl,t,rfl⟩:=vals1 r;exact call_abs_int λu e=>⟨.int (if i<0 then -i else i),H,I.tok _,⟨_,rfl⟩,q⟩
theorem qz(f:X.calm=true):cx X (.builtin "max") (λxs H Q=>∃i j,xs=[.int i,.int j]/\Q (.int (if j>i then j else i)) H):=by
 intro e s n H xs g Q I r h;obtain⟨i,j,rfl,q⟩:=h;obtain⟨u,l,rfl,⟨t,rfl⟩,⟨m,rfl⟩⟩:=vals2 r;refine max_two_ints (I.ok.hd f) λo p k=>⟨_,H,I.kept k,?_,q⟩
 by_cases d:j>i
 ·rw[if_pos d,if_pos d];exact⟨_,rfl⟩
 ·rw[if_neg d,if_neg d];exact⟨_,rfl⟩
theorem qA(f:X.calm=true):cx X (.builtin "min") (λxs H Q=>∃i j,xs=[.int i,.int j]/\Q (.int (if j<i then j else i)) H):=by
 intro e s n H xs g Q I r h;obtain⟨i,j,rfl,q⟩:=h;obtain⟨u,l,rfl,⟨t,rfl⟩,⟨m,rfl⟩⟩:=vals2 r;refine min_two_ints (I.ok.hd f) λo p k=>⟨_,H,I.kept k,?_,q⟩
 by_cases d:j<i
 ·rw[if_pos d,if_pos d];exact⟨_,rfl⟩
 ·rw[if_neg d,if_neg d];exact⟨_,rfl⟩
theorem qB:cx X (.type "int") (λxs H Q=>(∃i,xs=[.int i]/\Q (.int i) H)\/∃k,xs=[.bl k]/\Q (.int (if k then 1 else 0)) H):=by
 intro d s f H xs g Q I r h;rcases h with ⟨i,rfl,q⟩|⟨k,rfl,q⟩
 ·obtain⟨u,rfl,t,rfl⟩:=vals1 r;exact call_int_int ⟨.int i,H,I,⟨_,rfl⟩,q⟩
 ·obtain⟨u,rfl,e⟩:=vals1 r;cases e;exact call_int_bool ⟨.int (if k then 1 else 0),H,I.tok _,⟨_,rfl⟩,q⟩
def El(K:Waa)(x:V)(H:Hp)(n:Nat):Prop:=
 match x with
 |.str y=>y.length<=sizeLine/\n=y.length
 |.byt y=>y.size<=sizeLine/\n=y.size
 |.ref p=>(∃d,SqL K H p d/\n=d.length)\/∃d,SqT K H p d/\n=d.length
 |_=>False
theorem kJ:cx X (.builtin "len") (λxs H Q=>∃x n,xs=[x]/\El X.K x H n/\Q (.int n) H):=by
 intro m s A H xs z Q I r h;obtain⟨x,n,rfl,e,q⟩:=h;obtain⟨u,rfl,i⟩:=vals1 r;have B:=line63;have w:sizeLine=16777216:=sizeLine_eq;cases x with
 |str y=>obtain⟨t,rfl⟩:=i;obtain⟨v,f⟩:y.length<=sizeLine/\n=y.length:=e;subst f;exact len_str (by omega) ⟨.int _,H,I.tok _,⟨_,rfl⟩,q⟩
 |byt y=>obtain⟨t,rfl⟩:=i;obtain⟨v,f⟩:y.size<=sizeLine/\n=y.size:=e;subst f;exact PySem.W.len_bytes (by omega) ⟨.int _,H,I.tok _,⟨_,rfl⟩,q⟩
 |ref p=>
  cases i;have f:(∃xs,SqL X.K H p xs/\n=xs.length)\/∃xs,SqT X.K H p xs/\n=xs.length:=e;rcases f with ⟨xs,g,f⟩|⟨xs,g,f⟩
  ·subst f;obtain⟨k,j,l,o⟩:=I.list g;have d:=j.length;exact Calls.call_len_list l.isList (by simp only[aax];omega) ⟨.int xs.length,H,I.tok _,⟨_,by simp only[aax];rw[d]⟩,q⟩
  ·subst f;obtain⟨k,j,l,o⟩:=I.tuple g;have d:=j.length;exact len_tuple l (by simp only[aax];omega) ⟨.int xs.length,H,I.tok _,⟨_,by simp only[aax];rw[d]⟩,q⟩
 |_=>exact(show False from e).elim
end
end
section
theorem RelO.some_of(r:RelO (some v) o):∃u,o=some u/\RelV v u:=by
 cases o with
 |none=>exact(show False from r).elim
 |some u=>exact⟨u,rfl,r⟩
structure Cls (K:Waa)(C:Addr):Prop where
 pg:PySem.W.plainGet K C Str.empty=true
 hd:PySem.W.hasDictIn K C=true
 po:PySem.W.plainOver K C=true
 sa:PySem.W.findIn K (.ref C) "__setattr__"=some (some (.builtin "object.__setattr__"))
def mE(K:Waa)(C:Addr)(f:Str):Prop:=PySem.W.findIn K (.ref C) f=some none
structure Meth (K:Waa)(C:Addr)(m:Str)(f:Addr):Prop where
 at_:PySem.W.findIn K (.ref C) m=some (some (.ref f))
 fn:PySem.W.isFn K (.ref f)=true
 kp:PySem.W.keepIn K (.ref f)=true
end
section
structure Room (k:Nat)(A:Around):Prop where
 hd:A.handled=none
 dp:A.depth+3*k+5<recursionLimit
 un:A.units+16*k+200<cLine
 gd:A.guards=some []
theorem Room.deeper(r:Room (k+1) A)(env:Env):Room k (A.deeper env):=
 ⟨r.hd,by have:=r.dp;show A.depth+1+3*k+5<_;omega,by have:=r.un;show A.units+3+16*k+200<_;omega,r.gd⟩
theorem Room.depth(r:Room k A):A.depth<recursionLimit:=by have:=r.dp;omega
theorem Room.units{A:Around}(r:Room k A):A.units+64<cLine:=by have:=r.un;omega
def tNil:TA:=λ_ H Q=>Q [] H
def Em(e:TE)(b:TA):TA:=λa H Q=>e a H λx f=>b a f λd c=>Q (x::d) c
section
variable{X:Cx}{e:Expr}{es:List Expr}{te:TE}{t:TA}{pos:Pos}
theorem bB:PA X [] tNil:=λ_ _ _ _ H Q I h=>Calls.spliced_nil ⟨[],H,I,.nil,h⟩
theorem aY(r:PE X e te)(j:PA X es t)(d:starEach (e::es) X.env=(false,eval e X.env)::starEach es X.env:=by rfl):PA X (e::es) (Em te t):=by
 intro pos a s b H Q I h;rw[d];show wpAny _ _ (spliced ((false,eval e X.env)::backTo pos (starEach es X.env))) _ _ s;refine Calls.spliced_cons (thn (r a s b H _ I h) λu c o=>?_);obtain⟨x,m,i,q,n⟩:=o;exact thn (j pos a c b m _ i n) λv w ⟨f,k,g,l,p⟩=>⟨x::f,k,g,.cons q l,p⟩
def HL(t:TA):TE:=λc H Q=>t c H λa b=>a.length<=sizeLine/\∀p,b p=none->Q (.ref p) (upd b p (.tup a))
def En(t:TA):TE:=λc H Q=>t c H λa b=>a.length<=sizeLine/\∀p,b p=none->Q (.ref p) (upd b p (.lst a))
theorem jw{l}(h:PA X es t):PE X (.Tuple es l pos) (HL t):=by intro a s k H Q I i;refine wpAny_Tuple_spliced (thn (h pos a s k H _ I i) λj c ⟨g,f,d,r,z,q⟩=>⟨by rw[<-r.length];exact z,?_⟩);have m:f c.heap.objs.size=none:=d.hok.fresh (aae _);refine⟨.ref c.heap.objs.size,upd f c.heap.objs.size (.tup g),d.laid (t':=c.toks) (λb u e=>Heap.get?_push_of_some _ e) (aae _) ?_,rfl,q _ m⟩;exact⟨z,j,r,⟨_,Heap.get?_push_size _ rfl,rfl,_,rfl,rfl⟩⟩
theorem jx(h:PA X es t):PE X (.List es pos) (En t):=by intro a s k H Q I i;refine wpAny_List_spliced (thn (h pos a s k H _ I i) λj c ⟨g,f,d,r,z,q⟩=>⟨by rw[<-r.length];exact z,?_⟩);have l:f c.heap.objs.size=none:=d.hok.fresh (aae _);refine⟨.ref c.heap.objs.size,upd f c.heap.objs.size (.lst g),d.laid (t':=c.toks) (λb u e=>Heap.get?_push_of_some _ e) (aae _) ?_,rfl,q _ l⟩;exact⟨z,j,0,r,Heap.get?_push_size _ rfl⟩
end
abbrev Sp:=List V->Hp->VK->XK->Prop
abbrev CXT:=List Env->Hp->Shared->XK->Value->Shared->Prop
structure Env0 (P:Program)(w:World)(K:Waa)(mg:Str->Option Value)(base:Heap)(A:Around)(outer:List Env)(s:Shared)(H:Hp):Prop where
 frames:A.frames=some outer
 mod:Mod K mg base
 bs:∀b o,base.get? b=some o->s.heap.get? b=some o/\H b=none
 bsz:base.objs.size<=s.heap.objs.size
 funs:s.heap.FunFrames base outer
 frf:∀b∈sf outer,H b=none
 hok:HOk P w H s.heap
 bare:AllBare s.gens
def CE(a:List Env)(P:Program)(w:World)(H:Hp)(s:Shared)(Q:VK)(u:Value)(b:Shared):Prop:=
 ∃v c,b.os=s.os/\AllBare b.gens/\Un (sf a) [] H c s.heap b.heap/\HOk P w c b.heap/\RelV v u/\Q v c
def CR(CX:CXT)(a:List Env)(P:Program)(w:World)(H:Hp)(s:Shared)(Q:VK)(E:XK)(r:Result)(b:Shared):Prop:=
 match r with
 |.ok (.ret u)=>CE a P w H s Q u b
 |.ok _=>False
 |.error e=>CX a H s E e b
structure FnOk (P:Program)(w:World)(K:Waa)(mg:Str->Option Value)(base:Heap)(CX:CXT)(k:Nat)(f:Addr)(fd:FuncData)(ps:List Str)(sp:Sp):Prop where
 len:∀vs H Q E,sp vs H Q E->vs.length=ps.length
 run:∀(A:Around) (outer:List Env) (s:Shared) (H:Hp) (args:Args) (us:List Value) (vs:List V) (Q:VK) (E:XK),Room k A->Env0 P w K mg base A outer s H->BindsTo s fd args (ps.zip us)->Vals vs us->sp vs H Q E ->
  codeAny (model P w) A (.call (.ref f) args) (CR CX outer P w H s Q E) s
theorem FnOk.imp{K:Waa}(F:FnOk P w K mg base CX k f fd ps sp)
  (h:∀vs H Q E,sp' vs H Q E->sp vs H Q E):FnOk P w K mg base CX k f fd ps sp':=
 ⟨λvs H Q E q=>F.len vs H Q E (h _ _ _ _ q),λA a s H b g vs Q E i j e c d=>F.run A a s H b g vs Q E i j e c (h _ _ _ _ d)⟩
section
variable{X:Cx}{pins:List (Addr×Obj)}{σ:St}{H:Hp}{s s':Shared}
theorem Inv.env0(I:Inv X pins σ H s):Env0 X.prog X.w X.K X.mg X.base X.A X.stack s H:=
 ⟨I.ok.frames,I.ok.mod,I.bs,aar I.ok.bsz I.sz,I.stack,I.sj,I.hok,I.bare⟩
theorem Inv.after(I:Inv X pins σ H s)(h:CE X.stack X.prog X.w H s Q u s'):EP X pins σ Q u s':=by obtain⟨v,i,j,a,f,c,r,q⟩:=h;obtain⟨k,g,d,t,e⟩:=s';obtain rfl:e=s.os:=j;exact⟨v,i,I.call f c a (λb z=>absurd z (by simp)),r,q⟩
end
def zI(sp:Sp)(a:List V)(E:XK)(t:TA):TE:=λc H Q=>t c H λb d=>sp (b++a) d Q E
def Binds(K:Waa)(b:FuncData)(ps:List Str)(ds:List Value):Prop:=
 ∀(s:Shared) (a:List Value),K.In s.heap->(a++ds).length=ps.length->BindsTo s b ⟨a,[]⟩ (ps.zip (a++ds))
theorem Binds.all{K:Waa}{a:FuncData}{ps:List Str}(h:∀us:List Value,us.length=ps.length->bindArgs a ⟨us,[]⟩=pure (ps.zip us)):Binds K a ps []:=λs us _ b=>by rw[aam]at b ⊢;exact .of_eq (h us b)
def Passes(CX:CXT)(X:Cx)(E:XK):Prop:=∀(a:List (Addr×Obj)) (c:St) (H:Hp) (s:Shared) (e:Value) (b:Shared),Inv X a c H s->CX X.stack H s E e b->X.xe e b
section
variable{X:Cx}{CX:CXT}{k:Nat}{f C:Addr}{fd:FuncData}{ps:List Str}{sp:Sp}{dvs:List V}{ds:List Value}{E:XK}{x m:Str}{p pos apos:Pos}{e o:Expr}{es:List Expr}{ta:TE}{t:TA}
theorem Bg(F:FnOk X.prog X.w X.K X.mg X.base CX k f fd ps sp)(l:Room k X.A)(g:Binds X.K fd ps ds)(n:Vals dvs ds)(c:Passes CX X E)
  (I:Inv X pins σ H s) (r:Vals vs us) (h:sp (vs++dvs) H Q E):wpAny (model X.prog X.w) X.A (call (.ref f) us) (EP X pins σ Q) X.xe s:=by
 have b:Vals (vs++dvs) (us++ds):=r.append n;have i:(us++ds).length=ps.length:=by rw[<-b.length];exact F.len _ _ _ _ h
 refine wpAny_call (codeAny_mono (F.run X.A X.stack s H ⟨us,[]⟩ (us++ds) (vs++dvs) Q E l I.env0 (g s us I.kIn i) b h) λr d a=>?_);cases r with
 |error e=>exact c pins σ H s e d I a
 |ok j=>
  cases j with
  |ret u=>exact I.after a
  |next=>exact False.elim a
  |brk=>exact False.elim a
  |cont=>exact False.elim a
theorem w9(F:FnOk X.prog X.w X.K X.mg X.base CX k f fd ps sp)(j:Room k X.A)(n:Gl X x)(g:X.mg x=some (.ref f))(hk:PySem.W.keepIn X.K (.ref f)=true)(i:Binds X.K fd ps ds)(z:Vals dvs ds)(u:Passes CX X E)
  (y:PA X (e::es) t) (b:(x==("__debug__":Str))=false:=by decide) (l:starEach (e::es) X.env=(false,eval e X.env)::starEach es X.env:=by rfl) (c:(backTo pos (starEach es X.env)).any (·.1)=false:=by rfl):
  PE X (.Call (.Name x p) (e::es) [] pos) (zI sp dvs E t):=by
 intro a s v H Q I h;refine wpAny_Call_Name_kw (nW I n g ?_ b);refine PySem.W.callWith_K (h₀:=X.base) I.ok.mod.kin hk (thn (y pos a s v H _ I h) λD B ⟨J,G,d,r,q⟩=>⟨d.kIn,?_⟩) l c;exact Bg F j i z u d r q
structure Mk (K:Waa)(C f:Addr):Prop where
 makes:PySem.W.makesIn K C=true
 init:PySem.W.findIn K (.ref C) "__init__"=some (some (.ref f))
 fn:PySem.W.isFn K (.ref f)=true
 kp:PySem.W.keepIn K (.ref C)=true
end
structure FnScope (N P:List Str)(sc:Scope):Prop where
 kind:sc.kind=.function
 co:sc.isCoroutine=false
 gen:sc.isGenerator=false
 nd:N.Nodup
 pre:N.take P.length=P
 par:∀x∈P,sc.names.lookup x=some .local\/sc.names.lookup x=some .cell
 nofree:∀y∈sc.names,y.2≠.free
theorem iU{b:Str->Option NameKind}:∀{a:List (Str×Value)}{m:Str->Option Value},(∀v,(x,v) ∉ a)->bindL b a m x=m x
 |[],_,_=>rfl
 | (n,v)::r,m,h=>by
  unfold bindL;rw[iU λw c=>h w (aal _ c)];split
  ·have:x≠n:=by rintro rfl;exact h v aaj
   simp[this]
  ·rfl
theorem iV{b:Str->Option NameKind}:∀{a:List (Str×Value)}{m:Str->Option Value},(∀v,(x,v) ∉ a)->bindC b a m x=m x
 |[],_,_=>rfl
 | (n,v)::r,m,h=>by
  unfold bindC;rw[iV λw c=>h w (aal _ c)];split
  ·rfl
  ·have:x≠n:=by rintro rfl;exact h v aaj
   simp[this]
theorem iW{a:Str->Option NameKind}:∀{P:List Str}{vs:List Value}{i:Nat}{m:Str->Option Value},P.Nodup->P[i]?=some x->vs[i]?=some v->a x=some .local ->
  bindL a (P.zip vs) m x=some v
 |[],_,_,_,_,h,_,_=>by simp at h
 |_::_,[],_,_,_,_,h,_=>by simp at h
 |p::P,w::vs,0,m,nd,h1,h2,hk=>by simp at h1 h2;subst h1;subst h2;show bindL a ((p,w)::P.zip vs) m p=_;unfold bindL;rw[iU λv hv=>(aaE.mp nd).1 (abd hv).1,if_pos hk];simp
 |p::P,w::vs,i+1,m,nd,h1,h2,hk=>by show bindL a ((p,w)::P.zip vs) m x=_;unfold bindL;exact iW (i:=i) (aaE.mp nd).2 (by simpa using h1) (by simpa using h2) hk
theorem iX{a:Str->Option NameKind}:∀{P:List Str}{vs:List Value}{i:Nat}{m:Str->Option Value},P.Nodup->P[i]?=some x->vs[i]?=some v->a x≠some .local ->
  bindC a (P.zip vs) m x=some v
 |[],_,_,_,_,h,_,_=>by simp at h
 |_::_,[],_,_,_,_,h,_=>by simp at h
 |p::P,w::vs,0,m,nd,h1,h2,hk=>by simp at h1 h2;subst h1;subst h2;show bindC a ((p,w)::P.zip vs) m p=_;unfold bindC;rw[iV λv hv=>(aaE.mp nd).1 (abd hv).1,if_neg hk];simp
 |p::P,w::vs,i+1,m,nd,h1,h2,hk=>by show bindC a ((p,w)::P.zip vs) m x=_;unfold bindC;exact iX (i:=i) (aaE.mp nd).2 (by simpa using h1) (by simpa using h2) hk
def start(N:List Str)(vs:List V):St:=vs.map some++List.replicate (N.length-vs.length) none
def jy(CX:CXT)(P:Program)(w:World)(K:Waa)(mg:Str->Option Value)(base:Heap)(N:List Str)(b:Str)(a:Scope)(f:Addr)(d:Value)(A:Around)(outer:List Env)(s:Shared)(H:Hp)(E:XK):Cx where
 prog:=P
 w:=w
 K:=K
 mg:=mg
 base:=base
 A:=A.deeper (envOfC b a s.heap.objs.size f d)
 N:=N
 s₀:=s
 H₀:=H
 env:=envOfC b a s.heap.objs.size f d
 outer:=outer
 stack:=envOfC b a s.heap.objs.size f d::outer
 ex:=[]
 calm:=true
 fn:=λ_=>true
 pn:=[]
 xe:=λe h=>wpAny (model P w) (A.deeper (envOfC b a s.heap.objs.size f d)) (leaving (envOfC b a s.heap.objs.size f d) e) (λ_ c=>CX outer H s E e c) (λg c=>CX outer H s E g c) h
theorem kK{sc:Scope}(h:sc.names.lookup x=some .cell):∃c,(cellsFrom n sc.names []).lookup x=some c:=by have q:=acu sc.names n [] (.inl h);exact abk.mp q
theorem qC{K:Waa}
  (S:FnScope N ps scope) (J:A.handled=none) (g:Env0 P w K mg base A outer s H) (M:vs.length=ps.length) (r:Vals vs us)
  (x:InCallC s s.heap.objs.size (bindL (envOfC qual scope s.heap.objs.size f cd).kindOf (ps.zip us) λ_=>none) (cellsFrom (s.heap.objs.size+1) scope.names []) (bindC (envOfC qual scope s.heap.objs.size f cd).kindOf (ps.zip us) λ_=>none) s1):
  Inv (jy CX P w K mg base N qual scope f cd A outer s H E) [] (start N vs) H s1:=by
 have D:ps.length<=N.length:=by have:=congrArg List.length S.pre;rw[aaW]at this;omega
 obtain⟨t,O,rfl,B⟩:=x.done;have l:∀b:Addr,b ∉ (jy CX P w K mg base N qual scope f cd A outer s H E).ex:=λb z=>absurd (show b∈([]:List Addr) from z) (by simp);refine⟨⟨g.mod,S.kind,rfl,rfl,aae _,λy z c t d=>?_,λy j=>?_,λy c _ h=>?_,λ_=>J,Around.frames_deeper g.frames,.inr ⟨rfl,rfl⟩,λb z=>absurd z (l b),g.bs,g.bsz,λb _ _=>l b,λb z=>absurd z (l b),g.funs,g.frf⟩,
  rfl,g.bare,Un.kept B,⟨_,x.toInCall.ns,λi y v t d L=>?_⟩,λy c h=>⟨_,x.cell y c h⟩,g.hok.fresh (aae _),λy c h=>?_,λp m=>absurd (show p∈([]:List (Addr×Obj)) from m) (by simp),g.hok.kept B,?_⟩
 ·exact name_of_addr x.apart (abe t) (abe d)
 ·have j:scope.names.lookup y=some .cell\/scope.names.lookup y=some .free:=j;rcases j with j|j
  ·exact kK j
  ·exact absurd rfl (S.nofree _ (abe j))
 ·exact aaR (x.above y c (abe h))
 ·have o:i<vs.length:=by
   unfold start at d;by_cases o:i<vs.length
   ·exact o
   ·rw[aaO (by simpa using o)]at d;rw[acv]at d;split at d<;>cases d
  have G:vs[i]?=some v:=by
   unfold start at d;rw[aaX (by simpa using o),aau]at d;cases e:vs[i]? with
   |none=>rw[e]at d;cases d
   |some a=>rw[e]at d;cases d;rfl
  obtain⟨u,C,I⟩:=r.get G;have m:ps[i]?=some y:=by rw[<-S.pre,List.getElem?_take_of_lt (by omega)];exact t
  have n:ps.Nodup:=by rw[<-S.pre];exact S.nd.sublist (List.take_sublist _ _)
  refine⟨u,I,?_⟩;rcases S.par y (aaI m) with k|k
  ·exact .inl ⟨k,iW n m C k⟩
  ·obtain⟨c,e⟩:=kK k;refine .inr ⟨.inl k,c,e,?_⟩;have q:=x.cell y c e;rw[iX n m C (by show scope.names.lookup y≠_;rw[k];decide)]at q;exact q
 ·exact g.hok.fresh (aaR (x.above y c (abe h)))
 ·unfold start;show _=N.length;rw[aad,aaa,abQ];omega
theorem Ep{K:Waa}{X U p pm c Y oc:Value}{an od:Option Addr}
  {D:Array (Option Value)}{N ps:List Str}{sp:Sp} (lk:K.lookup f=some ⟨oc,od,.func (PySem.W.fnOf name qual params body scope X U p pm an c Y),D⟩) (G:PySem.W.codeIn K c qual=true) (S:FnScope N ps scope)
  (l:∀vs H Q E,sp vs H Q E->vs.length=ps.length)
  (h:∀(A:Around) (a:List Env) (s:Shared) (H:Hp) (vs:List V) (Q:VK) (E:XK),Room k (A.deeper (envOfC qual scope s.heap.objs.size f c))->sp vs H Q E ->
   ∃t,PSs (jy CX P w K mg base N qual scope f c A a s H E) body t/\t { nx:=λ_ g=>Q .non g,rt:=Q } (start N vs) H):
  FnOk P w K mg base CX (k+1) f (PySem.W.fnOf name qual params body scope X U p pm an c Y) ps sp:=by
 refine⟨l,λA a s H Z us vs Q E C z hb r m=>?_⟩;have hl:=l _ _ _ _ m;have KX:K.In s.heap:=z.mod.kin.keeps λb o e=>(z.bs b o e).1;have L:s.heap.NoLimit:=z.mod.nolimit.keeps λb o e=>(z.bs b o e).1;have i:∀y∈ps.zip us,scope.names.lookup y.1=some .local\/(scope.names.lookup y.1=some .cell/\((cellsFrom (s.heap.objs.size+1) scope.names []).lookup y.1).isSome=true):=λ⟨n,v⟩ hy=>by
  rcases S.par n (abd hy).1 with q|q
  ·exact .inl q
  ·exact .inr ⟨q,acu _ _ _ (.inl q)⟩
 refine codeAny_call_function C.depth (KX _ _ lk) rfl S.co S.gen rfl (PySem.W.codeRec_of KX G) (hb _ _ _ _ ?_);refine wpAny_newFunctionEnv_cells S.kind i λa0 he T x=>?_;subst he;refine⟨L.keeps x.toInCall.keep,codeAny_func ?_⟩;obtain⟨t,ht,hq⟩:=h A a s H vs Q E (C.deeper _) m;have I:Inv (jy CX P w K mg base N qual scope f c A a s H E) [] (start N vs) H T:=qC S C.hd z hl r x;refine wpAny_mono (ht [] T (start N vs) H _ I hq) (λfl O j=>?_) λe O j=>j;have B:∀{d:St}{g:Hp}{v:V}{u:Value},Inv (jy CX P w K mg base N qual scope f c A a s H E) [] d g O->RelV v u->Q v g->CE a P w H s Q u O:=
  λ{d g v u} J M q=>⟨v,g,J.os,J.bare,J.base,J.hok,M,q⟩
 cases fl with
 |ret u=>obtain⟨v,d,g,J,M,q⟩:=j;exact B J M q
 |next=>obtain⟨d,g,J,q⟩:=j;exact B (v:=V.non) (u:=Value.none) J rfl q
 |brk=>obtain⟨_,_,_,q⟩:=j;exact False.elim q
 |cont=>obtain⟨_,_,_,q⟩:=j;exact False.elim q
end
section
section
variable{X:Cx}{x:Str}{p pos:Pos}{e:Expr}{es:List Expr}{t:TA}{id T:String}{r:List V->Hp->VK->Prop}
def HM(r:List V->Hp->VK->Prop)(t:TA):TE:=λb H Q=>t b H λa c=>r a c Q
theorem cZ(q:cx X (.builtin id) r) (m:Gl X x) (g:X.mg x=none) (hv:bootBuiltins x=some (.builtin id)) (w:PA X (e::es) t) (u:x≠"__name__":=by decide) (b:(x==("__debug__":Str))=false:=by decide)
  (k:starEach (e::es) X.env=(false,eval e X.env)::starEach es X.env:=by rfl) (c:(backTo pos (starEach es X.env)).any (·.1)=false:=by rfl):PE X (.Call (.Name x p) (e::es) [] pos) (HM r t):=by
 intro a s d H Q I h;refine wpAny_Call_Name_kw (fK I m g hv ?_ u b);exact PyProof.Rows.callWith_builtin1 (thn (w pos a s d H _ I h) λj f ⟨n,l,i,v,o⟩=>q a f d l n j Q i v o) k c
theorem iY(q:cx X (.type T) r) (m:Gl X x) (g:X.mg x=none) (hv:bootBuiltins x=some (.type T)) (w:PA X (e::es) t) (u:x≠"__name__":=by decide) (b:(x==("__debug__":Str))=false:=by decide)
  (k:starEach (e::es) X.env=(false,eval e X.env)::starEach es X.env:=by rfl) (c:(backTo pos (starEach es X.env)).any (·.1)=false:=by rfl):PE X (.Call (.Name x p) (e::es) [] pos) (HM r t):=by
 intro a s d H Q I h;refine wpAny_Call_Name_kw (fK I m g hv ?_ u b);exact abw (thn (w pos a s d H _ I h) λj f ⟨n,l,i,v,o⟩=>q a f d l n j Q i v o) k c
end
end
end L2
namespace HT
open PySem PyProof.Rows
section
variable{prog:Program}{w:World}{A:Around}{E:Value->Shared->Prop}{s:Shared}
def sIx(n d:Nat):Option Int->Nat
 |none=>d
 |some v=>if v<0 then (v+(n:Int)).toNat else min v.toNat n
theorem sIx_nat(n d k:Nat):sIx n d (some (k:Int))=min k n:=by show (if (k:Int)<0 then ((k:Int)+(n:Int)).toNat else min (k:Int).toNat n)=min k n;rw[if_neg (by omega),aaJ]
end
end HT
namespace L2
open PySem PySem.Spec PyProof.Rows
section
abbrev TO:=St->Hp->(Option Int->Hp->Prop)->Prop
def PO(X:Cx)(e:Option Expr)(t:TO):Prop:=
 ∀(a:List (Addr×Obj)) (s:Shared) (b:St) (H:Hp) (Q:Option Int->Hp->Prop),Inv X a b H s->t b H Q ->
  wpAny (model X.prog X.w) X.A (evalPart e X.env) (λu d=>∃o c,Inv X a b c d/\IsPart u o/\Q o c) X.xe s
def tNoPart:TO:=λ_ H Q=>Q none H
def Er(t:TE):TO:=λa H Q=>t a H λx b=>∃i,x=.int i/\Q (some i) b
section
variable{X:Cx}{e:Expr}{te:TE}{lo hi:Option Expr}{tl th:TO}{pos p2:Pos}
theorem xf:PO X none tNoPart:=by intro a s b H Q I h;rw[evalPart_none];exact wpAny_pure ⟨none,H,I,.none,h⟩
theorem xg(h:PE X e te):PO X (some e) (Er te):=by intro a s g H Q I c;rw[evalPart_some];refine thn (h a s g H _ I c) λu l j=>?_;obtain⟨x,d,b,k,f⟩:=j;obtain⟨i,rfl,q⟩:=f;obtain⟨t,rfl⟩:=k;exact⟨some i,d,b,.int i t,q⟩
def Jz(X:Cx)(r:V->Option Int->Option Int->Hp->VK->Prop):Prop:=
 ∀(a:List (Addr×Obj)) (s:Shared) (c:St) (H:Hp) (x:V) (v b f:Value) (lo hi:Option Int) (d:Addr) (Q:VK),Inv X a c H s->RelV x v->s.heap.IsSliceOf d b f .none->IsPart b lo->IsPart f hi->r x lo hi H Q ->
  ∃T g,typeLookup (.type T) "__getitem__"=pure (some (.builtin g))/\s.TypeIs v T/\wpAny (model X.prog X.w) X.A (getItem v (.ref d)) (EP X a c Q) X.xe s
def Km(r:V->Option Int->Option Int->Hp->VK->Prop)(te:TE)(tl th:TO):TE:=λa H Q=>te a H λx c=>tl a c λl b=>th a b λu d=>r x l u d Q
theorem sM{r:V->Option Int->Option Int->Hp->VK->Prop}(p:Jz X r)(t:PE X e te)(L:PO X lo tl)(U:PO X hi th):PE X (.Subscript e (.Slice lo hi none p2) pos) (Km r te tl th):=by intro a s d H Q I h;refine Subscript_ (thn (t a s d H _ I h) λv k i=>?_);obtain⟨x,B,n,S,J⟩:=i;refine wpAny_Slice (thn (L a k d B _ n J) λf O ⟨l,y,m,Y,N⟩=>thn (U a O d y _ m N) λg c i=>?_);obtain⟨u,j,M,C,o⟩:=i;rw[evalPart_none];refine wpAny_pure ?_;have z:Inv X a d j { c with heap:=c.heap.push { cls:=.type "slice",data:=.fields #[f,g,.none] } }:=M.kept (t':=c.toks) λb ob q=>Heap.get?_push_of_some _ q;obtain⟨T,id,D,Z,G⟩:=p a { c with heap:=c.heap.push { cls:=.type "slice",data:=.fields #[f,g,.none] } } d j x v f g l u c.heap.objs.size Q z S (Heap.IsSliceOf.new ..) Y C o;show wpAny (model X.prog X.w) X.A (subscriptTail e (.Slice lo hi none p2) v (.ref c.heap.objs.size)) (EP X a d Q) X.xe { c with heap:=c.heap.push { cls:=.type "slice",data:=.fields #[f,g,.none] } };exact tail_any (ops:=[.ref c.heap.objs.size,v]) Z D G (by with_unfolding_all rfl)
def Bh(xs:List V)(lo hi:Option Int):List V:=(xs.drop (HT.sIx xs.length 0 lo)).take (HT.sIx xs.length xs.length hi-HT.sIx xs.length 0 lo)
theorem kL(xs:List V)(lo hi:Option Int):(Bh xs lo hi).length<=xs.length:=by unfold Bh;rw[aaW,abl];omega
end
end
section
def ixN(n:Nat)(i:Int):Option Nat:=if 0<=i then (if i<n then some i.toNat else none) else if -(n:Int)<=i then some (i+n).toNat else none
def atI{a:Type}(xs:List a)(i:Int):Option a:=(ixN xs.length i).bind λj=>xs[j]?
theorem ixN_seq(h:ixN n i=some j):seqIndex? i n=some j/\j<n/\-(n:Int)<=i/\i<n:=by
 unfold ixN at h;by_cases b:0<=i
 ·rw[if_pos b]at h;by_cases a:i<n
  ·rw[if_pos a]at h;have e:i.toNat=j:=aaH h;exact⟨by rw[seqIndex_of b a,e],by omega,by omega,a⟩
  ·rw[if_neg a]at h;cases h
 ·rw[if_neg b]at h;by_cases a:-(n:Int)<=i
  ·rw[if_pos a]at h;have e:(i+n).toNat=j:=aaH h;exact⟨by rw[seqIndex_neg (by omega) a,e],by omega,a,by omega⟩
  ·rw[if_neg a]at h;cases h
theorem atI_get{a:Type}{xs:List a}{i:Int}{v:a}(h:atI xs i=some v):∃j,seqIndex? i xs.length=some j/\xs[j]?=some v/\j<xs.length/\-(xs.length:Int)<=i/\i<xs.length:=by
 unfold atI at h;cases e:ixN xs.length i with
 |none=>rw[e]at h;cases h
 |some j=>rw[e]at h;obtain⟨d,c,f,b⟩:=ixN_seq e;exact⟨j,d,h,c,f,b⟩
theorem atI_last{a:Type}(xs:List a)(v:a):atI (xs++[v]) (-1)=some v:=by
 have b:(xs++[v]).length=xs.length+1:=by simp
 have e:ixN (xs++[v]).length (-1)=some xs.length:=by unfold ixN;rw[b,if_neg (by decide),if_pos (by omega)];congr 1;omega
 unfold atI;rw[e];show (xs++[v])[xs.length]?=some v;simp
def PlainIx(b:Expr):Prop:=∀o i,subscripted b false o i=operate [o,i] (getItem o i)
def IxR(X:Cx)(r:R2):Prop:=
 ∀(c a:Expr) (b:List (Addr×Obj)) (s:Shared) (d:St) (H:Hp) (x y:V) (v u:Value) (Q:VK),Inv X b d H s->RelV x v->RelV y u->r x y H Q ->
  subscripted a false v u=operate [v,u] (getItem v u)->wpAny (model X.prog X.w) X.A (subscriptTail c a v u) (EP X b d Q) X.xe s
def JA(X:Cx)(id:String)(r:V->List V->Hp->VK->Prop):Prop:=
 ∀(a:List (Addr×Obj)) (s:Shared) (c:St) (H:Hp) (x:V) (b:List V) (v:Value) (d:List Value) (Q:VK),Inv X a c H s->RelV x v->Vals b d->r x b H Q ->
  wpAny (model X.prog X.w) X.A (call (.builtin id) (v::d)) (EP X a c Q) X.xe s
section
variable{X:Cx}{a b:Expr}{ta tb:TE}{pos:Pos}
theorem IxR.or(h:IxR X r)(h':IxR X r'):IxR X (λx y H Q=>r x y H Q\/r' x y H Q):=by
 intro d c e s i H x y v u Q I j f q g;rcases q with q|q
 ·exact h d c e s i H x y v u Q I j f q g
 ·exact h' d c e s i H x y v u Q I j f q g
theorem sN(g:IxR X r)(n:PE X a ta)(f:PE X b tb)(d:PlainIx b):PE X (.Subscript a b pos) (zG r ta tb):=by intro c s k H Q I h;exact Subscript_ (A7 n f I h λv u l x y i e m j q=>g a b c l k i x y v u Q e m j q (d _ _))
def Et(K:Waa):R2:=λx y H Q=>∃p c i v,x=.ref p/\y=.int i/\SqL K H p c/\atI c i=some v/\Q v H
def Eu(K:Waa):R2:=λx y H Q=>∃p c i v,x=.ref p/\y=.int i/\SqT K H p c/\atI c i=some v/\Q v H
def rIxS:R2:=λx y H Q=>∃z i c,x=.str z/\y=.int i/\z.length<=sizeLine/\atI z.cps.toList i=some c/\Q (.str ⟨#[c]⟩) H
theorem ix_list:IxR X (Et X.K):=by
 intro n f c s C H x y v u Q I O L h o;obtain⟨p,U,i,z,rfl,rfl,G,J,q⟩:=h;cases O;obtain⟨t,rfl⟩:=L;obtain⟨l,r,m,Y⟩:=I.list G;obtain⟨j,e,D,Z,M,T⟩:=atI_get J;obtain⟨w,A,k⟩:=r.get D;have N:=r.length;have hn:=line63;have d:EP X c C Q w s:=⟨z,H,I,k,q⟩
 by_cases B:0<=i
 ·have g:i.toNat=j:=by rw[seqIndex_of B T]at e;exact aaH e
  exact item_listR m.isList B (by omega) (by rw[g];simpa using A) d o
 ·have g:(i+(l.toArray.size:Int)).toNat=j:=by rw[seqIndex_neg (by omega) M]at e;rw[aax,<-N];exact aaH e
  exact subscriptTail_builtinR (x:=w) m.isList.typeIs slot_list_getitem.lookup
   (wpAny_getItem_list_neg (Q:=λr S=>r=w/\EP X c C Q r S) m.isList (by omega) (by rw[aax]<;>omega) (by omega) (by rw[g];simpa using A) ⟨rfl,d⟩) o
theorem ix_tup:IxR X (Eu X.K):=by
 intro f d c s k H x y v u Q I G C h m;obtain⟨p,N,i,z,rfl,rfl,A,B,q⟩:=h;cases G;obtain⟨t,rfl⟩:=C;obtain⟨J,r,l,O⟩:=I.tuple A;obtain⟨j,L,o,T,S,Y⟩:=atI_get B;obtain⟨w,n,e⟩:=r.get o;have D:=r.length;have U:=line63;have g:EP X c k Q w s:=⟨z,H,I,e,q⟩
 exact subscriptTail_builtinR (x:=w) l.typeIs slot_tuple_getitem.lookup
  (getItem_tuple (j:=j) (Q:=λr M=>r=w/\EP X c k Q r M) l (by omega) (by omega) (by rw[aax,<-D];exact L) (by simpa using n) ⟨rfl,g⟩) m
theorem Bi:IxR X rIxS:=by
 intro e d g s G H x y v u Q I w o h k;obtain⟨z,i,c,rfl,rfl,C,m,q⟩:=h;obtain⟨t,rfl⟩:=w;obtain⟨D,rfl⟩:=o;obtain⟨j,f,l,J,p,B⟩:=atI_get m;have r:z.cps.toList.length=z.length:=by simp[Str.length]
 rw[r]at f p B;have L:=line63;exact tail_any (typeIs_str s z t) slot_str_getitem.lookup (getItem_str (c:=c) (by
  have n:decide (i < -(2^63:Int))=false:=Dab (by omega);have A:decide (i ≥ 2^63)=false:=Dab (by omega);rw[n,A,aby]) (by rw[f];simpa using l) ⟨.str ⟨#[c]⟩,H,I.tok _,⟨_,rfl⟩,q⟩) k
def JB(K:Waa):R2:=λx y H Q=>Et K x y H Q\/Eu K x y H Q\/rIxS x y H Q
theorem mF:IxR X (JB X.K):=ix_list.or (ix_tup.or Bi)
theorem mG(c:List Value)(n j:Nat)(u:Value):Obj.mapSeq (·.setIfInBounds j u) { cls:=.type "list",data:=.seq c.toArray n }={ cls:=.type "list",data:=.seq (c.set j u).toArray n }:=by simp[Obj.mapSeq]
theorem Inv.lst{d:List (Addr×Obj)}{σ:St}(I:Inv X d σ H s)(h:H p=some (.lst xs)):
  ∃(c:List Value) (n:Nat),Vals xs c/\s.heap.get? p=some { cls:=.type "list",data:=.seq c.toArray n }/\xs.length<=sizeLine:=by
 obtain⟨z,c,n,r,e⟩:=I.hok p _ h;exact⟨c,n,r,e,z⟩
theorem Inv.lstUpd{xs ys:List V}{d c:List Value}{n g:Nat}{f:Obj->Obj}(I:Inv X pins σ H s)(h:H p=some (.lst xs))
  (l:s.heap.get? p=some { cls:=.type "list",data:=.seq d.toArray n }) (i:f { cls:=.type "list",data:=.seq d.toArray n }={ cls:=.type "list",data:=.seq c.toArray g }) (r:Vals ys c) (j:ys.length<=sizeLine) (t:Nat):
  Inv X pins σ (upd H p (.lst ys)) { s with heap:=s.heap.update p f,toks:=t }:=by
 have e:(s.heap.update p f).get? p=some { cls:=.type "list",data:=.seq c.toArray g }:=by rw[Heap.get?_update_self f l (by rw[i]<;>rfl),i]
 refine I.write (by rw[h];trivial) (.inl rfl) (λb u k q=>(Heap.get?_update_other _ _ (aaN k)).trans q) ⟨_,e⟩ ?_;exact⟨j,c,g,r,e⟩
def rSetL:V->V->V->Hp->(Hp->Prop)->Prop:=λo i v H Q=>∃p c k j,o=.ref p/\i=.int k/\H p=some (.lst c)/\ixN c.length k=some j/\Q (upd H p (.lst (c.set j v)))
theorem set_list:PSet X rSetL:=by
 intro d s J H o i v O N u Q I C G L h;obtain⟨p,A,k,j,rfl,rfl,w,D,q⟩:=h;cases C;obtain⟨t,rfl⟩:=G;obtain⟨c,n,r,l,B⟩:=I.lst w;obtain⟨e,M,z,y⟩:=ixN_seq D;have g:=r.length;have S:=line63;have m:Inv X d J (upd H p (.lst (A.set j v))) { s with heap:=s.heap.update p (Obj.mapSeq (·.setIfInBounds j u)) }:=
  I.lstUpd w l (mG c n j u) (r.set L j) (by rw[abf];exact B) s.toks
 by_cases x:0<=k
 ·have f:k.toNat=j:=by rw[seqIndex_of x y]at e;exact aaH e
  exact PySem.W.ki_setAt l x (by omega) (by rw[aax,<-g];exact y) (by rw[f];exact⟨_,m,q⟩)
 ·have f:(k+(c.toArray.size:Int)).toNat=j:=by rw[seqIndex_neg (by omega) z]at e;rw[aax,<-g];exact aaH e
  exact PySem.W.ki_setBack l (by omega) (by rw[aax,<-g];exact z) (by omega) (by rw[f];exact⟨_,m,q⟩)
theorem jz(lo hi:Option Int)(n:Nat):(sliceBounds lo hi none n).1=((HT.sIx n 0 lo:Nat):Int)/\(sliceBounds lo hi none n).2.1=((HT.sIx n n hi:Nat):Int)/\(sliceBounds lo hi none n).2.2=1:=by
 refine⟨?_,?_,rfl⟩
 ·cases lo with
  |none=>simp[sliceBounds,HT.sIx]
  |some i=>
   simp only[sliceBounds,HT.sIx,Option.getD_none,show (1:Int)>0 by decide,if_true];by_cases h:i<0
   ·simp only[h,if_true]<;>omega
   ·simp only[h,if_false]<;>omega
 ·cases hi with
  |none=>simp[sliceBounds,HT.sIx]
  |some i=>
   simp only[sliceBounds,HT.sIx,Option.getD_none,show (1:Int)>0 by decide,if_true];by_cases h:i<0
   ·simp only[h,if_true]<;>omega
   ·simp only[h,if_false]<;>omega
theorem iN(c:List Value)(lo hi:Option Int):slicePick c.toArray lo hi none=((c.drop (HT.sIx c.length 0 lo)).take (HT.sIx c.length c.length hi-HT.sIx c.length 0 lo)).toArray:=by obtain⟨d,e,f⟩:=jz lo hi c.toArray.size;unfold slicePick;rw[d,e,f];simp only[sliceRange_one,pick_run,aax]<;>rfl
def HN(K:Waa):V->Option Int->Option Int->Hp->VK->Prop:=λx d e H Q=>∃a c,x=.ref a/\SqL K H a c/\∀p,H p=none->Q (.ref p) (upd H p (.lst (Bh c d e)))
theorem xh:Jz X (HN X.K):=by intro g s y H x v t u e f z Q I n j p l h;obtain⟨a,c,rfl,m,q⟩:=h;cases n;obtain⟨o,r,i,k⟩:=I.list m;have d:=r.length;refine⟨"list",_,slot_list_getitem.lookup,i.isList.typeIs,?_⟩;refine wpAny_getItem_list_slice i.isList j p l .none (by simp) ?_ (by rw[aax]<;>omega);rw[iN,<-d];refine⟨.ref s.heap.objs.size,_,I.laid (λb w q=>Heap.get?_push_of_some _ q) (aae _) ?_,rfl,q _ (I.hok.fresh (aae _))⟩;exact⟨aar (kL c e f) k,_,0,(r.drop (HT.sIx c.length 0 e)).take (HT.sIx c.length c.length f-HT.sIx c.length 0 e),Heap.get?_push_size _ rfl⟩
def cy:V->Bool
 |.non=>true
 |.bl _=>true
 |.int _=>true
 |.str _=>true
 |_=>false
def eqV:V->V->Bool
 |.non,.non=>true
 |.bl a,.bl b=>a==b
 |.bl a,.int b=>(if a then 1 else 0)==b
 |.int a,.bl b=>a==(if b then 1 else 0)
 |.int a,.int b=>a==b
 |.str a,.str b=>a==b
 |_,_=>false
theorem Bj(e:RelV y u)(c:RelV x v)(g:cy y=true)(f:cy x=true):SeqAt.EqAt A s u v (eqV y x):=by
 cases y with
 |non=>
  cases e;cases x with
  |non=>cases c;exact SeqAt.EqAt.same _
  |bl b=>cases c;exact SeqAt.EqAt.none_bool b
  |int b=>obtain⟨t,rfl⟩:=c;exact SeqAt.EqAt.none_int b t
  |str b=>obtain⟨t,rfl⟩:=c;exact SeqAt.EqAt.none_str b t
  |_=>exact absurd (show false=true from f) aaf
 |bl a=>
  cases e;cases x with
  |non=>cases c;exact SeqAt.EqAt.bool_none a
  |bl b=>cases c;exact SeqAt.EqAt.bool_bool a b
  |int b=>obtain⟨t,rfl⟩:=c;exact SeqAt.EqAt.bool_int a b t
  |str b=>obtain⟨t,rfl⟩:=c;exact SeqAt.EqAt.bool_str a b t
  |_=>exact absurd (show false=true from f) aaf
 |int a=>
  obtain⟨d,rfl⟩:=e;cases x with
  |non=>cases c;exact SeqAt.EqAt.int_none a d
  |bl b=>cases c;exact SeqAt.EqAt.int_bool a d b
  |int b=>obtain⟨t,rfl⟩:=c;exact SeqAt.EqAt.int_int a d b t
  |str b=>obtain⟨t,rfl⟩:=c;exact SeqAt.EqAt.int_str a d b t
  |_=>exact absurd (show false=true from f) aaf
 |str a=>
  obtain⟨d,rfl⟩:=e;cases x with
  |non=>cases c;exact SeqAt.EqAt.str_none a d
  |bl b=>cases c;exact SeqAt.EqAt.str_bool a d b
  |int b=>obtain⟨t,rfl⟩:=c;exact SeqAt.EqAt.str_int a d b t
  |str b=>obtain⟨t,rfl⟩:=c;exact SeqAt.EqAt.str_str a d b t
  |_=>exact absurd (show false=true from f) aaf
 |_=>exact absurd (show false=true from g) aaf
def mH(x:V)(u:Value):Bool:=match u with
 |.none=>eqV .non x
 |.bool b=>eqV (.bl b) x
 |.int i _=>eqV (.int i) x
 |.str z _=>eqV (.str z) x
 |_=>false
theorem sO(r:RelV y u)(f:cy y=true):mH x u=eqV y x:=by
 cases y with
 |non=>cases r;rfl
 |bl b=>cases r;rfl
 |int i=>obtain⟨t,rfl⟩:=r;rfl
 |str z=>obtain⟨t,rfl⟩:=r;rfl
 |_=>exact absurd (show false=true from f) aaf
theorem eJ:∀{xs:List V}{us:List Value},Vals xs us->xs.all cy=true->us.any (mH x)=xs.any λy=>eqV y x
 |_,_,.nil,_=>rfl
 |y::xs,u::us,.cons r t,f=>by rw[List.all_cons,aaF]at f;rw[aa5,aa5,sO r f.1,eJ t f.2]
theorem c9(e:RelV x v)(d:cy x=true):∀{xs:List V}{us:List Value},Vals xs us->xs.all cy=true->∀u∈us,SeqAt.EqAt A s u v (mH x u)
 |_,_,.nil,_=>λu c=>by cases c
 |y::xs,u::us,.cons r t,f=>λg c=>by
  rw[List.all_cons,aaF]at f;rcases aab.mp c with rfl|c
  ·rw[sO r f.1];exact Bj r e f.1 d
  ·exact c9 e d t f.2 g c
def inV(x:V)(xs:List V):Bool:=xs.any λy=>eqV y x
def HP(K:Waa)(neg:Bool):R2:=λx y H Q=>∃p c,y=.ref p/\(SqL K H p c\/SqT K H p c)/\cy x=true/\c.all cy=true/\Q (.bl (if neg then !inV x c else inV x c)) H
theorem qD:OpR X (compareOp .In) (HP X.K false):=by
 intro j s o H x y v u Q I i m h;obtain⟨p,n,rfl,d,k,e,q⟩:=h;cases m;rcases d with d|d
 ·obtain⟨c,r,g,l⟩:=I.list d;refine SeqAt.in_listAt (mH x) g.isList (λw f=>c9 i k r e w (by simpa using f)) ⟨.bl _,H,I,rfl,?_⟩;rw[show c.toArray.any (mH x)=c.any (mH x) by simp,eJ r e];exact q
 ·obtain⟨c,r,g,l⟩:=I.tuple d;refine SeqAt.in_tupleAt (mH x) g (λw f=>c9 i k r e w (by simpa using f)) ⟨.bl _,H,I,rfl,?_⟩;rw[show c.toArray.any (mH x)=c.any (mH x) by simp,eJ r e];exact q
theorem jA:OpR X (compareOp .NotIn) (HP X.K true):=by
 intro j s o H x y v u Q I i m h;obtain⟨p,n,rfl,d,k,e,q⟩:=h;cases m;rcases d with d|d
 ·obtain⟨c,r,g,l⟩:=I.list d;refine SeqAt.notIn_listAt (mH x) g.isList (λw f=>c9 i k r e w (by simpa using f)) ⟨.bl _,H,I,rfl,?_⟩;rw[show c.toArray.any (mH x)=c.any (mH x) by simp,eJ r e];exact q
 ·obtain⟨c,r,g,l⟩:=I.tuple d;refine SeqAt.notIn_tupleAt (mH x) g (λw f=>c9 i k r e w (by simpa using f)) ⟨.bl _,H,I,rfl,?_⟩;rw[show c.toArray.any (mH x)=c.any (mH x) by simp,eJ r e];exact q
theorem jB:cx X (.builtin "len") (λxs H Q=>∃p ys,xs=[.ref p]/\(SqL X.K H p ys\/SqT X.K H p ys)/\Q (.int ys.length) H):=by
 intro i s m H xs l Q I r h;obtain⟨p,ys,rfl,d,q⟩:=h;obtain⟨u,rfl,k⟩:=vals1 r;cases k;have n:=line63;rcases d with d|d
 ·obtain⟨f,e,g,j⟩:=I.list d;have c:=e.length;exact Calls.call_len_list g.isList (by simp only[aax]<;>omega) ⟨.int ys.length,H,I.tok _,⟨s.toks+1,by rw[aax,c]⟩,q⟩
 ·obtain⟨f,e,g,j⟩:=I.tuple d;have c:=e.length;exact len_tuple g (by simp only[aax]<;>omega) ⟨.int ys.length,H,I.tok _,⟨s.toks+1,by rw[aax,c]⟩,q⟩
theorem iO:cx X (.type "tuple") (λxs H Q=>∃p ys,xs=[.ref p]/\((SqL X.K H p ys/\∀l,H l=none->Q (.ref l) (upd H l (.tup ys)))\/(SqT X.K H p ys/\Q (.ref p) H))):=by
 intro c s t H xs z Q I r h;obtain⟨p,ys,rfl,h⟩:=h;obtain⟨u,rfl,y⟩:=vals1 r;cases y;rcases h with ⟨g,q⟩|⟨g,q⟩
 ·obtain⟨d,i,j,k⟩:=I.list g;have n:=i.length;refine call_tuple_list j.isList (λf x=>?_) (by simp only[aax]<;>omega);have m:Inv X c t H { s with heap:=f }:=I.kept x;have v:Inv X c t (upd H f.objs.size (.tup ys)) { s with heap:=f.push { cls:=.type "tuple",data:=.seq d.toArray } }:=
   m.laid (λb o e=>Heap.get?_push_of_some _ e) (aae _) (show ObjOk X.prog X.w _ _ _ (.tup ys) from ⟨k,d,i,⟨_,Heap.get?_push_size _ rfl,rfl,_,rfl,rfl⟩⟩)
  exact⟨.ref f.objs.size,_,v,rfl,q _ (m.hok.fresh (aae _))⟩
 ·obtain⟨d,i,j,k⟩:=I.tuple g;exact call_tuple_same j ⟨.ref p,H,I,rfl,q⟩
def JC(K:Waa)(T:String)(x:V)(H:Hp):Prop:=match x with
 |.str _=>T="str"
 |.int _=>T="int"
 |.ref p=>(T="list"/\∃d,SqL K H p d)\/(T="tuple"/\∃d,SqT K H p d) \/
   (T="dict"/\((∃c,H p=some (.dK c))\/∃c,H p=some (.dT c)))\/(T="set"/\∃S n,H p=some (.set S n))
 |_=>False
theorem Bk{g:List (Addr×Obj)}{σ:St}(I:Inv X g σ H s)(r:RelV x v)(h:JC X.K T x H):
  s.TypeIs v T/\∀a,v=.ref a->∃l,s.heap.get? a=some l/\l.dict=none:=by
 cases x with
 |str z=>obtain⟨t,rfl⟩:=r;cases (show T="str" from h);exact⟨typeIs_str s z t,λ_ e=>nomatch e⟩
 |int i=>obtain⟨t,rfl⟩:=r;cases (show T="int" from h);exact⟨typeIs_int s i t,λ_ e=>nomatch e⟩
 |ref p=>
  cases r;rcases h with ⟨rfl,u,y⟩|⟨rfl,u,d⟩|⟨rfl,d⟩|⟨rfl,S,n,d⟩
  ·obtain⟨B,_,m,_⟩:=I.list y;refine⟨m.isList.typeIs,λa e=>?_⟩;cases e;obtain⟨o,n,e,c,C,_⟩:=m;exact⟨o,e,C⟩
  ·obtain⟨o,q,w,A⟩:=I.tupN d;refine⟨⟨o,q,w⟩,λa e=>?_⟩;cases e;exact⟨o,q,A⟩
  ·have z:∃o,s.heap.get? p=some o/\o.ExactDict:=by
    rcases d with ⟨k,d⟩|⟨k,d⟩
    ·obtain⟨_,_,_,_,o,_,_,e,f,_⟩:=I.hok p _ d;exact⟨o,e,f⟩
    ·obtain⟨_,_,_,_,o,_,_,e,f,_⟩:=I.hok p _ d;exact⟨o,e,f⟩
   obtain⟨o,e,f⟩:=z;refine⟨⟨o,e,f.1⟩,λa j=>?_⟩;cases j;exact⟨o,e,f.2.1⟩
  ·obtain⟨o,_,_,_,e,f,_⟩:=I.hok p _ d;refine⟨⟨o,e,f.1⟩,λa j=>?_⟩;cases j;exact⟨o,e,f.2.1⟩
 |_=>exact False.elim h
def Kn(K:Waa)(T:String)(r:V->List V->Hp->VK->Prop)(g:TE)(t:TA):TE:=λc H Q=>g c H λx d=>JC K T x d/\t c d λf e=>r x f e Q
variable{o e:Expr}{es:List Expr}{to:TE}{t:TA}{name:Str}{apos cpos:Pos}{T id:String}{r:V->List V->Hp->VK->Prop}
theorem n9(C:PlainAttrs T) (j:Slot T name id) (k:typeOf (.builtin id)=pure (.type "method_descriptor")) (w:JA X id r) (Z:PE X o to) (Y:PA X (e::es) t)
  (f:attributeBase o name X.env (eval o X.env)=eval o X.env:=by rfl)
  (i:((backTo cpos (starEach (e::es) X.env)).all (λx=>!x.1)&&(backToKw cpos (keywordEach [] X.env)).all (λx=>x.1.isSome)
   && decide ((e::es).length+([]:List Keyword).length+(if ([]:List Keyword).isEmpty then 0 else 1)<30))=true:=by rfl)
  (g:(apos.endLine==cpos.line)=true:=by rfl) (u:starEach (e::es) X.env=(false,eval e X.env)::starEach es X.env:=by rfl) (d:(backTo cpos (starEach es X.env)).any (·.1)=false:=by rfl):
  PE X (.Call (.Attribute o name apos) (e::es) [] cpos) (Kn X.K T r to t):=by
 intro c s l H Q I h;refine wpAny_Call_method_late f i g rfl (thn (Z c s l H _ I h) λv q M=>?_);obtain⟨x,D,m,p,S,L⟩:=M;obtain⟨U,y⟩:=Bk m p S;refine⟨T,id,C,j,k,U,y,?_⟩;have n:=Y cpos c q l D _ m L;rw[u]at n ⊢;refine Calls.callWith_builtin (by show (false||(backTo cpos (starEach es X.env)).any (·.1))=false;rw[d]<;>rfl) (Calls.evalArgs_plain ?_);exact thn n λA O ⟨J,B,z,G,N⟩=>w c O l B x J v A Q z p G N
end
end
section
def JD(X:Cx)(id:String)(r:V->List V->Hp->VK->Prop):Prop:=
 ∀(a:List (Addr×Obj)) (s:Shared) (c:St) (H:Hp) (x:V) (b:List V) (v:Value) (d:List Value) (Q:VK),Inv X a c H s->RelV x v->Vals b d->r x b H Q ->
  wpAny (model X.prog X.w) X.A (call (.builtin id) (v::d)) (EP X a c Q) X.xe s
theorem Vals.one(h:Vals [x] us):∃u,us=[u]/\RelV x u:=by
 cases h with|cons r t=>cases t;exact⟨_,rfl,r⟩
theorem Vals.two(h:Vals [x,y] us):∃u v,us=[u,v]/\RelV x u/\RelV y v:=by
 cases h with|cons r t=>cases t with|cons q t=>cases t;exact⟨_,_,rfl,r,q⟩
theorem Vals.rep(h:Vals xs us):∀k:Nat,Vals (List.replicate k xs).flatten (List.replicate k us).flatten
 |0=>.nil
 |k+1=>by rw[aaS,aaS,abm,abm];exact Vals.append h (Vals.rep h k)
theorem foldl_rep(a:List Value):∀(k:Nat) (b:List Value),
  List.foldl (λc d=>c++d) b.toArray (List.replicate k a.toArray)=(b++(List.replicate k a).flatten).toArray
 |0,b=>by simp
 |k+1,b=>by
  have e:b.toArray++a.toArray=(b++a).toArray:=by simp
  have f:(b++a)++(List.replicate k a).flatten=b++(List.replicate (k+1) a).flatten:=by rw[aaS,abm,aac]
  rw[<-f,<-foldl_rep a k (b++a),<-e,aaS,List.foldl_cons]
section
variable{X:Cx}{pins:List (Addr×Obj)}{σ:St}{H:Hp}{s:Shared}{l b:Addr}{xs ys zs:List V}
theorem Inv.lset{c a:List Value}{n:Nat}{f:Array Value->Array Value}{t':Nat}(I:Inv X pins σ H s)(g:H l=some (.lst xs))
  (e:s.heap.get? l=some { cls:=.type "list",data:=.seq c.toArray n }) (k:f c.toArray=a.toArray) (d:Vals ys a) (h:ys.length<=sizeLine):
  Inv X pins σ (upd H l (.lst ys)) { s with heap:=s.heap.update l (Obj.mapSeq f),toks:=t' }:=by
 have q:=PySem.IsL.update e f;rw[k]at q;refine I.write (by rw[g];exact trivial) (.inl rfl) (λm u j i=>(Heap.get?_update_other s.heap (Obj.mapSeq f) (aaN j)).trans i) ⟨_,q⟩ ?_;exact⟨h,a,_,d,q⟩
theorem Inv.lnew{t':Nat}(I:Inv X pins σ H s)(hv:Vals ys its)(a:ys.length<=sizeLine):
  Inv X pins σ (upd H s.heap.objs.size (.lst ys)) { s with heap:=s.heap.push { cls:=.type "list",data:=.seq its.toArray },toks:=t' }:=
 I.laid (λ_ _ q=>Heap.get?_push_of_some _ q) (aae _) ⟨a,its,0,hv,Heap.get?_push_size _ rfl⟩
theorem Inv.fresh(I:Inv X pins σ H s):H s.heap.objs.size=none:=I.hok.fresh (aae _)
theorem Inv.u5(I:Inv X pins σ H s)(c:H l=some (.lst xs)):xs.length<=sizeLine/\∃(a:List Value) (n:Nat),Vals xs a/\xs.length=a.length/\s.heap.get? l=some { cls:=.type "list",data:=.seq a.toArray n }:=by obtain⟨z,a,n,r,e⟩:=I.hok l _ c;exact⟨z,a,n,r,r.length,e⟩
theorem kM(h:n<=sizeLine):Builtin.List.listTooLong n=false:=by unfold Builtin.List.listTooLong;exact Dab (by omega)
end
section
variable{X:Cx}
def rAppend:V->List V->Hp->VK->Prop:=λx b H Q=>∃l a y,x=.ref l/\b=[y]/\H l=some (.lst a)/\a.length<sizeLine/\Q .non (upd H l (.lst (a++[y])))
theorem fL:JD X "list.append" rAppend:=by intro c s o H x m v k Q I f g h;obtain⟨l,i,y,rfl,rfl,b,j,q⟩:=h;cases f;obtain⟨u,rfl,d⟩:=g.one;obtain⟨z,a,n,r,p,e⟩:=I.u5 b;refine call_meets F.slot_list_append ⟨_,e,rfl⟩ F.entry_list_append (F.args_list_append_2 _ _) (PySem.list_append l a.toArray n u (by rw[aax];omega)) ⟨e,?_⟩;refine⟨.non,_,I.lset b e (by simp) (r.append (.cons d .nil)) ?_,rfl,q⟩;rw[aad,aay];omega
def rRep:R2:=λx y H Q=>∃l k a,x=.ref l/\y=.int k/\H l=some (.lst a)/\-(2^63)<=k/\k<2^63/\a.length*k.toNat<=sizeLine /\
 ∀p,H p=none->Q (.ref p) (upd H p (.lst (List.replicate k.toNat a).flatten))
theorem len_rep{b:Type}(xs:List b)(k:Nat):(List.replicate k xs).flatten.length=k*xs.length:=by
 induction k with
 |zero=>simp
 |succ k a=>rw[aaS,abm,aad,a,Nat.succ_mul,Nat.add_comm]
theorem Bm:OpR X (binaryOp .Mult) rRep:=by
 intro w s O H x y v u Q I G C h;obtain⟨l,k,N,rfl,rfl,B,L,A,p,q⟩:=h;cases G;obtain⟨t,rfl⟩:=C;obtain⟨z,b,n,r,D,e⟩:=I.u5 B;have d:b.toArray.size*k.toNat<=sizeLine:=by rw[aax,<-D];exact p
 have g:¬ b.toArray.size*k.toNat>(2^63-1)/8:=by
  have:(sizeLine:Nat)<=(2^63-1)/8:=by decide
  omega
 have f:¬ (!Builtin.List.listFitsIndex k)=true:=by rw[fitsIndex_both L A];exact aaf
 have c:¬ Builtin.List.listTooLong (b.toArray.size*k.toNat)=true:=by rw[kM d];exact aaf
 have i:List.foldl (λj o=>j++o) #[] (List.replicate (if b.toArray.isEmpty=true then 0 else k.toNat) b.toArray)=(List.replicate k.toNat b).flatten.toArray:=by
  have J:∀m:Nat,List.foldl (λj o=>j++o) #[] (List.replicate m b.toArray)=(List.replicate m b).flatten.toArray:=λm=>by have:=foldl_rep b m [];rw[aaB]at this;exact this
  rw[J];cases b with
  |nil=>simp
  |cons a S=>rw[if_neg (by simp)]
 refine wpAny_binaryOp_repeat_ref (by decide) ⟨_,e,rfl⟩ (λM=>typeIs_int M k t) noFill_list_mul F.fills_int_mul F.slot_int_rmul repeat_list F.slot_int_index.lookup
  (call_meets F.slot_int_rmul (typeIs_int s k t) F.entry_int_rmul (F.args_int_rmul_2 _ _) (int___rmul___int_list k t l b.toArray n)
   ⟨e,rfl,⟨_,e,rfl⟩,call_meets F.slot_list_mul ⟨_,e,rfl⟩ F.entry_list_mul (F.args_list_mul_2 _ _) (AutoListH.list___mul___list_int_3 l b.toArray n k t f g c) ⟨e,?_⟩⟩)
 rw[i];exact⟨.ref _,_,I.lnew (r.rep k.toNat) (by rw[len_rep,Nat.mul_comm];exact p),rfl,q _ I.fresh⟩
end
section
variable{prog:Program}{w:World}{A:Around}{E:Value->Shared->Prop}{s:Shared}
set_option maxRecDepth 100000 in
end
end
end L2
namespace Att
open PySem PySem.W PySem.Calls PyProof.Rows
theorem gq:∀(ns:List Int) (vs:List Value),WellAll P h vs (ns.map WData.int)->IntsAre vs ns:=by
 intro ns;induction ns with
 |nil=>intro vs w;rw[aaA]at w;cases w;exact .nil
 |cons n ns c=>
  intro vs w;rw[aao]at w;cases w with
  |cons a b=>cases a;exact .cons _ _ (c _ b)
theorem qH{l:OpenLaw}(u:l.most=some n)
  (b:l.row.toRowW.claim.pre args=true) (j:WellAll P h vals args):
  ∃a vs ns,vals=[Value.ref a]/\args=[WData.list (ns.map WData.int)]/\h.get? a=some { cls:=.type "list",data:=.seq vs.toArray }/\IntsAre vs ns/\ns.length<=n:=by
 have i:WShape.hasAll [] args [.list .int]=true:=(pre_splitW b).1;have k:l.pre.holds [] { args:=args }=true:=(pre_splitW b).2;obtain⟨d,r,rfl,v,m⟩:=hasAllW_cons i;obtain rfl:=hasAllW_nil m;obtain⟨x,rfl,t⟩:=hasW_list v;obtain⟨ns,rfl⟩:=items_int t;have e:ns.length<=n:=by
  unfold OpenLaw.pre at k;have f:(WTm.not (.lt (.lit (.int (n:Int))) (.len (.arg 0)))).holds [] { args:=[.list (ns.map .int)] }=true:=by have f:=(holds_andW k).1;rw[u]at f;exact f
  have g:=condW_of f (w_not (w_lt w_lit (w_len_list (w_arg rfl))));rw[aaa]at g;refine Nat.le_of_not_lt λq=>?_;have p:(n:Int)<((ns.length:Nat):Int):=by omega
  first
   | (rw[Dac p]at g;exact absurd g (by decide))
   | (simp at g;omega)
 cases j with
 |cons o s=>
  cases s;cases o with
  |list w c=>exact⟨_,_,ns,rfl,rfl,w,gq ns _ c,e⟩
theorem qI(l:OpenLaw)(args:List WData):l.row.toRowW.claim.post args (.bool true) args=true:=
 postW_of
  (show WShape.has [] (.bool true) .bool=true by first|rfl|decide|simp[WShape.has,WShape.arms,WShape.armsAll])
  (show (WTm.eq .res (.lit (.bool true))).value [] { args:=args,res:=some (.bool true),after:=args }=some (.bool (true==true)) from w_eq_bool (w_res rfl) w_lit) rfl
theorem attach_call{l:OpenLaw}
  (T:l.most=some n) (y:d.params.defaults=[])
  (call:∀(w:World) (c b:Shared) (m t:Str->Option Value) (j:Addr) (o:Obj) (x p g:Value) (a:Addr) (vs:List Value) (ns:List Int),
   Ground q loose [] XP w c m t b.heap->YP w b.heap ->
   b.heap.get? j=some o->o.data=.func (docDef d.name d.params d.body d.scope x p g)->b.heap.CodeRec p d.name->m d.name=some (.ref j) ->
   b.heap.get? a=some { cls:=.type "list",data:=.seq vs.toArray }->IntsAre vs ns->ns.length<=n->b.gens=#[] ->
   codeAny (model l.prog w) callerA (.call (.ref j) ⟨[.ref a],[]⟩) (λr s=>r=.ok (.ret (.bool true))/\OldK b.heap s.heap/\s.os=b.os/\AllBare s.gens) b):
  WalkO q loose XP YP l.row.toRowW d [] (λf vs=>PySem.call f vs):=by
 intro w c b m t G Y j o x p g M L X Z u D z N C B as i A U v O;obtain rfl:M=.none:=Dflts.none D y;obtain rfl:L=.none:=Dflts.noKw D;obtain⟨a,vs,ns,rfl,rfl,k,e,h⟩:=qH T i v;refine enter_call (codeAny_mono (call w c b m t j o x p g a vs ns G Y X (fd_plain Z) u z k e h N) λr s J=>?_);obtain⟨rfl,I,S,Q⟩:=J;exact⟨.inl ⟨.bool true,.bool true,[],rfl,λ_=>rfl,.bool true,qI l _,λ_=>⟨List.Pairwise.nil,λ_ H=>(nomatch H)⟩⟩,I,S,Q⟩
end Att
namespace L2
open PySem PySem.Spec PyProof.Rows
section
theorem vals_ints:∀{vs:List Value}{ns:List Int},IntsAre vs ns->Vals (ns.map V.int) vs
 |_,_,.nil=>.nil
 |_,_,.cons n t h=>.cons ⟨t,rfl⟩ (vals_ints h)
def Bp(H:Hp):Prop:=∀b,H b=none\/∃o a,H b=some (.frz o (.lst a))
theorem sP{P:Program}{w:World}{K:Waa}{CX:CXT}{k:Nat}{X a:Addr}{fd:FuncData}{sp:Sp}{vs:List Value}{ns:List Int}
  (KX:K.In s₁.heap) (C:s₁.heap.Ns mainGlobals mg) (f:s₁.heap.Ns builtinsNs mb) (U:∀x:Str,x≠"__name__"->mb x=bootBuiltins x) (t:s₁.heap.NoLimit) (hg:s₁.gens=#[])
  (M:s₁.heap.get? a=some { cls:=.type "list",data:=.seq vs.toArray }) (hi:IntsAre vs ns) (hl:ns.length<=sizeLine) (hr:Room k callerA)
  (F:∀g:Heap,K.In g->g.Ns mainGlobals mg->FnOk P w K mg g CX k X fd [x] sp) (p:∀(s:Shared) (u:Value),BindsTo s fd ⟨[u],[]⟩ [(x,u)])
  (T:∀H:Hp,Bp H->SqL K H a (ns.map V.int)->sp [.ref a] H (λv _=>v=.bl true) λ_ _ _=>False)
  (N:∀H e i,CX [] H s₁ (λ_ _ _=>False) e i->False):
  codeAny (model P w) callerA (.call (.ref X) ⟨[.ref a],[]⟩) (λr i=>r=.ok (.ret (.bool true))/\OldK s₁.heap i.heap/\i.os=s₁.os/\AllBare i.gens) s₁:=by
 have rv:=vals_ints hi;have A:=hi.length;have l:∀H:Hp,Bp H->SqL K H a (ns.map V.int)->HOk P w H s₁.heap->(∀b,H b≠none->b=a)->(H a≠none->K.lookup a=none) ->
   codeAny (model P w) callerA (.call (.ref X) ⟨[.ref a],[]⟩) (λr i=>r=.ok (.ret (.bool true))/\OldK s₁.heap i.heap/\i.os=s₁.os/\AllBare i.gens) s₁:=by
  intro H hO hS D hA hK;have c:∀{b:Addr}{o:Obj},s₁.heap.get? b=some o->H b=none->(jo s₁.heap H).get? b=some o:=λe n=>hidT_get e n;have S:∀{b:Addr}{o:Obj}{y:Array DictEntry}{J:Nat},s₁.heap.get? b=some o->o.data=.dict y J->H b=none:=λ{b o y J} e d=>by
   cases q:H b with
   |none=>rfl
   |some u=>have O:b=a:=hA b (by rw[q];simp);subst O;rw[M]at e;cases e;have d':Data.seq vs.toArray _=Data.dict y J:=d;cases d'
  have j:∀{b:Addr}{m:Str->Option Value},s₁.heap.Ns b m->(jo s₁.heap H).Ns b m:=λ{b m} ⟨o,y,J,e,d,r⟩=>⟨o,y,J,c e (S e d),d,r⟩
  have I:K.In (jo s₁.heap H):=λb o e=>c (KX b o e) (by
   cases q:H b with
   |none=>rfl
   |some u=>
    have O:b=a:=hA b (by rw[q];simp);subst O;rw[hK (by rw[q];simp)]at e;cases e)
  have hM:Mod K mg (jo s₁.heap H):=⟨I,j C,⟨mb,j f,U⟩,let ⟨mc,h1,h2⟩:=t;⟨mc,j h1,h2⟩⟩
  have e0:Env0 P w K mg (jo s₁.heap H) callerA [] s₁ H:=⟨rfl,hM,λb o e=>wU e,Nat.le_of_eq (qt _ _),trivial,λb f=>absurd (show b∈([]:List Addr) from f) (by simp),D,.of_eq hg⟩
  refine codeAny_mono ((F _ I (j C)).run callerA [] s₁ H ⟨[.ref a],[]⟩ [.ref a] [.ref a] _ _ hr e0 (p s₁ (.ref a)) (.cons rfl .nil) (T H hO hS)) λr i h=>?_;cases r with
  |error e=>exact(N H e i h).elim
  |ok fl=>
   cases fl with
   |next=>exact False.elim h
   |brk=>exact False.elim h
   |cont=>exact False.elim h
   |ret u=>
    obtain⟨v,H',os,G,Z,B,r',q⟩:=h;have q':v=.bl true:=q;subst q';obtain rfl:u=Value.bool true:=r';refine⟨rfl,OldK.of_keep λb o e=>?_,os,G⟩;cases q:H b with
    |none=>exact Z.keep b o e q (by intro z;exact absurd (show b∈([]:List Addr) from z) (by simp)) (by simp)
    |some u=>
     rcases hO b with z|⟨ob,xs,z⟩
     ·rw[q]at z;cases z
     ·have z2:=Z.frzs b ob _ z;obtain⟨Y,_⟩:=D b _ z;obtain⟨e2,_⟩:=B b _ z2;rw[e]at Y;cases Y;exact e2
 cases Q:K.lookup a with
 |some o=>have e:=KX a o Q;rw[M]at e;cases e;refine l (λ_=>none) (λ_=>.inl rfl) (.inr ⟨_,vs.toArray,_,Q,rfl,rfl,rfl,by rw[aax,A];exact hl,by simpa using rv⟩) (λb u z=>by have L:(none:Option HO)=some u:=z;cases L) (λb z=>absurd rfl z) λz=>absurd rfl z
 |none=>
  refine l (λb=>if b=a then some (.frz { cls:=.type "list",data:=.seq vs.toArray } (.lst (ns.map V.int))) else none) (λb=>?_) (.inl (.inr ⟨{ cls:=.type "list",data:=.seq vs.toArray },if_pos rfl⟩)) (λb u z=>?_) (λb z=>?_) λ_=>Q
  ·by_cases f:b=a
   ·exact .inr ⟨_,_,if_pos f⟩
   ·exact .inl (if_neg f)
  ·by_cases f:b=a
   ·have L:=(if_pos f).symm.trans z;cases L;subst f;exact⟨M,by rw[aaa];exact hl,vs,_,rv,M⟩
   ·have L:=(if_neg f).symm.trans z;cases L
  ·by_cases f:b=a
   ·exact f
   ·exact absurd (if_neg f) z
end
section
theorem walk_of{l:PySem.W.OpenLaw}{K:Params->Waa}{CX:World->CXT}{sp:World->Sp}{x:Str}
  (hn:l.most=some n) (C:n<=sizeLine) (B:d.params.defaults=[]) (O:Room k callerA)
  (N:∀(w:World) (h:Heap),YP w h->(K w.params).In h)
  (F:∀(w:World) (m:Str->Option Value) (t:Addr) (h:Heap),(K w.params).In h->h.Ns mainGlobals m->m d.name=some (.ref t) ->
   ∃I:FuncData,(∀(s:Shared) (u:Value),BindsTo s I ⟨[u],[]⟩ [(x,u)]) /\
    ∀c:Heap,(K w.params).In c->c.Ns mainGlobals m->FnOk l.prog w (K w.params) m c (CX w) k t I [x] (sp w))
  (z:∀(w:World) (H:Hp) (a:Addr) (ns:List Int),ns.length<=n->Bp H->SqL (K w.params) H a (ns.map V.int)->sp w [.ref a] H (λv _=>v=.bl true) λ_ _ _=>False)
  (y:∀(w:World) (H:Hp) (s:Shared) (e:Value) (A:Shared),CX w [] H s (λ_ _ _=>False) e A->False):
  PySem.W.WalkO q loose XP YP l.row.toRowW d [] (λf vs=>PySem.call f vs):=by
 refine Att.attach_call hn B λw J p m mb t o pm cd Z a vs ns G Y ho hd U D r j i Q=>?_;have L:=N w _ Y;obtain⟨I,M,S⟩:=F w m t _ L G.T.g D;exact sP L G.T.g G.T.b G.T.builtins G.T.nolimit Q r j (aar i C) O S M (λH hO X=>z w H a ns i hO X) λH e A=>y w H p e A
end
section
def dP(s:Stmt):Arguments:=match s with
 |.FunctionDef _ a _ _ _ _ _ _ _ _=>a
 |_=>{ posonlyargs:=[],args:=[],vararg:=none,kwonlyargs:=[],kw_defaults:=[],kwarg:=none,defaults:=[] }
def bZ(s:Stmt):List Stmt:=match s with
 |.FunctionDef _ _ b _ _ _ _ _ _ _=>b
 |_=>[]
def aN(s:Stmt):Scope:=match s with
 |.FunctionDef _ _ _ _ _ _ sc _ _ _=>sc
 |_=>{ kind:=.function,names:=[],isGenerator:=false,isCoroutine:=false }
abbrev CX0:CXT:=λ_ _ _ _ _ _=>False
abbrev E0:XK:=λ_ _ _=>False
theorem Ew:Passes CX0 X E0:=λ_ _ _ _ _ _ _ h=>h.elim
structure Fun (K:Waa)(x qual:Str)(st:Stmt)(f:Addr)(fd:FuncData):Prop where
 ex:∃(oc:Value) (od:Option Addr) (kV doc pm:Value) (an:Option Addr) (cdv ct:Value) (osl:Array (Option Value)),
  fd=PySem.W.fnOf x qual (dP st) (bZ st) (aN st) .none kV doc pm an cdv ct/\K.lookup f=some ⟨oc,od,.func fd,osl⟩/\PySem.W.codeIn K cdv qual=true
 kp:PySem.W.keepIn K (.ref f)=true
section
variable{P:Program}{w:World}{K:Waa}{mg:Str->Option Value}{base:Heap}
theorem Fun.ok{x b:Str}{e:Stmt}(F:Fun K x b e f fd)(S:FnScope N ps (aN e))(g:∀vs H Q E,sp vs H Q E->vs.length=ps.length)
  (d:∀(c:Value) (A:Around) (a:List Env) (s:Shared) (H:Hp) (vs:List V) (Q:VK) (E:XK),Room k (A.deeper (envOfC b (aN e) s.heap.objs.size f c))->sp vs H Q E ->
   ∃t,PSs (jy CX0 P w K mg base N b (aN e) f c A a s H E).nox (bZ e) t/\t { nx:=λ_ n=>Q .non n,rt:=Q } (start N vs) H):FnOk P w K mg base CX0 (k+1) f fd ps sp:=by
 obtain⟨r,y,u,p,z,B,c,v,m,rfl,o,i⟩:=F.ex;refine Ep o i S g λA a s H vs Q E l j=>?_;obtain⟨t,h,q⟩:=d c A a s H vs Q E l j;exact⟨t,h.nox,q⟩
theorem jC{b:Stmt}{e d g a h:Value}(l:K.lookup f=some ⟨oc,od,.func (PySem.W.fnOf x qual (dP b) (bZ b) (aN b) .none e d g an a h),osl⟩)
  (c:PySem.W.codeIn K a qual=true) (k:PySem.W.keepIn K (.ref f)=true):Fun K x qual b f (PySem.W.fnOf x qual (dP b) (bZ b) (aN b) .none e d g an a h):=⟨⟨oc,od,e,d,g,an,a,h,osl,rfl,l,c⟩,k⟩
end
def Same(H a:Hp):Prop:=∀b o,H b=some o->a b=some o
theorem Same.seq{K:Waa}(e:Same H H')(h:SqL K H a xs):SqL K H' a xs:=by
 rcases h with (h|⟨o,h⟩)|h
 ·exact .inl (.inl (e _ _ h))
 ·exact .inl (.inr ⟨o,e _ _ h⟩)
 ·exact .inr h
end
section
theorem mI:∀(f:List (Str×NameKind)) (g:List (Str×Addr)),(∀x∈f,x.2=.free->∃c,env.cells.lookup x.1=some c) ->
  (∀x c,g.lookup x=some c->env.cells.lookup x=some c) ->
  ∃j:List (Str×Addr),forIn f g (λ(x:Str×NameKind) (r:List (Str×Addr))=>match x with
    | (name,kind)=>(if kind==NameKind.free then do let c <-cellOf env name;pure (ForInStep.yield ((name,c)::r)) else pure (ForInStep.yield r):Sem (ForInStep (List (Str×Addr)))))=pure j /\
   (∀x c,j.lookup x=some c->env.cells.lookup x=some c)/\(∀x∈f,x.2=.free->∃c,j.lookup x.1=some c)/\(∀x c,g.lookup x=some c->∃l,j.lookup x=some l):=by
 intro f;induction f with
 |nil=>intro g _ m;exact⟨g,rfl,m,λ_ h=>(nomatch h),λx c h=>⟨c,h⟩⟩
 |cons p r u=>
  intro g y m;obtain⟨n,k⟩:=p;rw[ab8];have v:∀x∈r,x.2=.free->∃c,env.cells.lookup x.1=some c:=λx i=>y x (aal _ i);by_cases s:k=.free
  ·subst s;obtain⟨c,w⟩:=y (n,.free) aaj rfl;have t:cellOf env n=pure c:=by unfold cellOf;rw[show env.cells.lookup n=some c from w]
   have q:∀x l,((n,c)::g).lookup x=some l->env.cells.lookup x=some l:=λx l h=>by
    rw[aa6]at h;cases i:x==n with
    |true=>rw[i]at h;cases h;rw[eq_of_beq i];exact w
    |false=>rw[i]at h;exact m x l h
   obtain⟨j,e,a,b,d⟩:=u ((n,c)::g) v q;refine⟨j,?_,a,λx i o=>?_,λx l h=>?_⟩
   ·show ((cellOf env n >>= λc=>pure (ForInStep.yield ((n,c)::g))) >>= _)=_;rw[t];exact e
   ·rcases aab.mp i with rfl|i
    ·exact d n c (by simp[aa6])
    ·exact b x i o
   ·cases i:x==n with
    |true=>exact d x c (by rw[aa6,i])
    |false=>exact d x l (by rw[aa6,i];exact h)
  ·have z:(k==NameKind.free)=false:=by simpa using s
   obtain⟨j,e,a,b,d⟩:=u g v m;refine⟨j,?_,a,λx i o=>?_,d⟩
   ·show ((if (k==NameKind.free)=true then _ else _) >>= _)=_;rw[z];exact e
   ·rcases aab.mp i with rfl|i
    ·exact absurd o s
    ·exact b x i o
theorem gN(h:∀x∈scope.names,x.2=.free->∃c,env.cells.lookup x.1=some c):
  ∃d:List (Str×Addr),closureFor scope env=pure d/\(∀x c,d.lookup x=some c->env.cells.lookup x=some c)/\(∀x∈scope.names,x.2=.free->∃c,d.lookup x.1=some c):=by
 obtain⟨d,e,a,b,_⟩:=mI scope.names [] h (λ_ _ h=>nomatch h);refine⟨d,?_,a,b⟩;have q:closureFor scope env=(forIn scope.names ([]:List (Str×Addr)) (λ(x:Str×NameKind) (r:List (Str×Addr))=>match x with
    | (name,kind)=>(if kind==NameKind.free then do let c <-cellOf env name;pure (ForInStep.yield ((name,c)::r)) else pure (ForInStep.yield r):Sem (ForInStep (List (Str×Addr))))) >>= λr=>pure r):=rfl
 rw[q,e];rfl
def aZ(X:Cx)(N:List Str)(a:Scope)(c:List (Str×Addr))(s:Shared)(H:Hp)(d:List Addr)(b:List (Addr×Obj)):Cx where
 prog:=X.prog
 w:=X.w
 K:=X.K
 mg:=X.mg
 base:=X.base
 A:=X.A
 N:=N
 s₀:=s
 H₀:=H
 env:=compEnvC a c s.heap.objs.size X.env
 outer:=X.stack
 stack:=X.stack
 ex:=d
 fn:=λ_=>false
 calm:=X.calm
 pn:=X.pn++b
 xe:=λ_ _=>False
structure CC where
 cl:List (Str×Addr)
 s:Shared
 H:Hp
 fp:List Addr
 pins:List (Addr×Obj)
abbrev dQ(X:Cx)(N:List Str)(scope:Scope)(c:CC):Cx:=aZ X N scope c.cl c.s c.H c.fp c.pins
def bJ(nt:Nat)(fr:List Nat)(σ:St):St:=List.replicate nt none++fr.map λj=>(σ[j]?).join
structure CompScope (N:List Str)(nt:Nat)(fr:List Nat)(ON:List Str)(sc osc:Scope):Prop where
 kind:sc.kind=.function
 nocell:∀x∈sc.names,x.2≠.cell
 names:∀x∈sc.names,x.2=.local->sc.names.lookup x.1=some .local
 len:N.length=nt+fr.length
 out:∀(i:Nat) (j:Nat),fr[i]?=some j->∃x,N[nt+i]?=some x/\ON[j]?=some x/\osc.names.lookup x=some .cell/\sc.names.lookup x=some .free
 cells:∀x∈sc.names,x.2=.free->osc.names.lookup x.1=some .cell
 looks:∀x∈sc.names,x.2=.free->sc.names.lookup x.1=some .free
theorem b9{sc:Scope}{env:Env}:∀(a:List (Str×NameKind)) (x:Str) (k:NameKind),
  (a.map λ(n,k)=>if (k==NameKind.free&&env.scope.kind==.function&&env.kindOf n==some .cell) then (n,NameKind.cell) else (n,k)).lookup x=some k ->
  a.lookup x=some k\/(k=.cell/\a.lookup x=some .free)
 |[],_,_,h=>by simp at h
 | (n,k0)::r,x,k,h=>by
  have e:=b9 (sc:=sc) (env:=env) r x k;rw[aao]at h;have b:List.lookup x ((if (k0==NameKind.free&&env.scope.kind==.function&&env.kindOf n==some .cell)=true then (n,NameKind.cell) else (n,k0))::(r.map λ(n,k)=>if (k==NameKind.free&&env.scope.kind==.function&&env.kindOf n==some .cell) then (n,NameKind.cell) else (n,k)))=some k:=h;by_cases d:(k0==NameKind.free&&env.scope.kind==.function&&env.kindOf n==some .cell)=true
  ·rw[if_pos d,aa6]at b;rw[aa6];cases c:x==n with
   |true=>
    rw[c]at b;cases b;rw[aaF,aaF]at d;have:k0=.free:=by simpa using d.1.1
    subst this;exact .inr ⟨rfl,rfl⟩
   |false=>rw[c]at b;exact e b
  ·rw[if_neg d,aa6]at b;rw[aa6];cases c:x==n with
   |true=>rw[c]at b;exact .inl b
   |false=>rw[c]at b;exact e b
theorem qJ(I:Nat->Shared->Prop)
  (k:∀n s,I n s->wpAny (model prog w) A (pyNext it) (λr d=>match r with
   |none=>R (.ok .next) d
   |some v=>wpAny (model prog w) A (letOwnedTupleGo target it v) (λ_ a=>wpAny (model prog w) A (assign target env v) (λ_ a=>
     wpAny (model prog w) A (forIn ifs true λc r=>if r=true then do let o <-isTrue c env (eval c env);pure (ForInStep.yield o) else pure (ForInStep.yield r)) (λo e=>
      if o=true then wpAny (model prog w) A (eval elt env) (λx g=>
       wpAny (model prog w) A (call (.builtin "list.append") [acc,x]) (λ_ i=>∃m,m<n/\I m i) (λ_ _=>False) g) (λ_ _=>False) e
      else ∃m,m<n/\I m e) (λ_ _=>False) a) (λ_ _=>False) a) (λ_ _=>False) d) (λ_ _=>False) s)
  (n:Nat) (h:I n s):
  codeAny (model prog w) A (.compLoop (.ListComp elt [⟨target,iter,ifs,0⟩] scope pos) 0 it acc env) R s:=by
 refine codeAny_loop rfl I (λn s t=>?_) n h;show wpAny _ A ((compTurn (.ListComp elt [⟨target,iter,ifs,0⟩] scope pos) 0 it acc env).onRaise (λx=>do noteFrame x env;theTreesLotGoes x)) _ _ s;refine wpAny_noted ?_;rw[compTurn_list];refine wpAny_bind (wpAny_standAt (wpAny_bind (wpAny_mono (k n s t) (λr d b=>?_) λ_ _ f=>f.elim)));cases r with
 |none=>exact wpAny_pure b
 |some v=>
  refine wpAny_bind (wpAny_mono b (λ_ a b=>?_) λ_ _ f=>f.elim);refine wpAny_bind (wpAny_mono b (λ_ a l=>wpAny_bind (wpAny_mono l (λo e j=>?_) λ_ _ f=>f.elim)) λ_ _ f=>f.elim);cases o with
  |false=>exact wpAny_pure ⟨rfl,j⟩
  |true=>exact wpAny_bind (wpAny_bind (wpAny_mono j (λx g p=>wpAny_bind (wpAny_mono p (λ_ i q=>wpAny_pure (wpAny_pure ⟨rfl,q⟩)) λ_ _ f=>f.elim)) λ_ _ f=>f.elim))
section
variable{X:Cx}{tg elt iter:Expr}{ifs:List Expr}{scope:Scope}{pos:Pos}{N:List Str}{nt:Nat}{fr:List Nat}
theorem gO(S:CompScope N nt fr X.N scope X.env.scope)(I:Inv X pins σ H s)
  (C:∀b∈fp,FpOk X pins H b) (k:∀b∈fp,b<s.heap.objs.size)
  (a:∀x c,cl.lookup x=some c->X.env.cells.lookup x=some c) (Q:∀x∈scope.names,x.2=.free->∃c,cl.lookup x.1=some c)
  (hk:∀b o,s.heap.get? b=some o->s4.heap.get? b=some o) (hn:∃m,s4.heap.Ns s.heap.objs.size m) (ho:s4.os=s.os) (hg:s4.gens=s.gens):
  Inv (aZ X N scope cl s H fp pins) [] (bJ nt fr σ) H s4:=by
 have hC:H s.heap.objs.size=none:=I.hok.fresh (aae _);have T:∀b o,s.heap.get? b=some o->b≠s.heap.objs.size:=λb o e=>aat (Heap.lt_size e);have kd:(aZ X N scope cl s H fp pins).env.scope.kind=.function:=S.kind;have O:∀x,scope.names.lookup x=some .free->∃c,cl.lookup x=some c:=λx h=>Q (x,.free) (abe h) rfl;refine⟨⟨I.ok.mod,kd,I.ok.glob,I.ok.blt,aae _,λx y c U f=>I.ok.inj x y c (a x c U) (a y c f),λx hx=>?_,λ_ _ h _=>absurd (show false=true from h) aaf,I.ok.hd,I.ok.frames,.inl rfl,λb t=>⟨aat (k b t),λx c e=>(C b t).2.2.2.2.1 x c (a x c e)⟩,
  I.bs,aar I.ok.bsz I.sz,λb o e t=>?_,λb t hs=>?_,I.stack,I.sj⟩,ho,by rw[hg];exact I.bare,Un.kept hk,?_,λx c e=>?_,hC,λx c e=>I.freeC x c (a x c e),λp hp=>?_,I.hok.kept hk,?_⟩
 ·have J:(relabel scope X.env).names.lookup x=some .cell\/(relabel scope X.env).names.lookup x=some .free:=hx;rcases J with h|h
  ·rcases b9 (sc:=scope) scope.names x _ h with q|⟨_,q⟩
   ·exact absurd rfl (S.nocell _ (abe q))
   ·exact O x q
  ·rcases b9 (sc:=scope) scope.names x _ h with q|⟨q,_⟩
   ·exact O x q
   ·cases q
 ·rcases (C b t).2.2.2.1 with z|z
  ·exact I.ok.noex b o e z
  ·exact absurd (aaC (Heap.lt_size e) (aar I.ok.bsz z)) (aba _)
 ·rcases aab.mp (I.n4 b hs) with z|z
  ·exact(C b t).2.1 z
  ·exact(C b t).2.2.1 z
 ·obtain⟨m,hm⟩:=hn;refine⟨m,hm,λi x v U f h3=>?_⟩;obtain⟨m0,a0,Y⟩:=I.loc;have hi:nt<=i:=by refine Nat.le_of_not_lt λk=>?_;unfold bJ at f;rw[aaX (by simpa using k),acv]at f;rw[if_pos k]at f;cases f
  obtain⟨d,rfl⟩:∃d,i=nt+d:=⟨i-nt,by omega⟩
  unfold bJ at f;rw[aaO (by simp),abQ,ab9,aau]at f;cases D:fr[d]? with
  |none=>rw[D]at f;cases f
  |some j=>
   rw[D]at f;have g:(σ[j]?).join=some v:=aaH f;have M:σ[j]?=some (some v):=by
    cases e:σ[j]? with
    |none=>rw[e]at g;cases g
    |some q=>rw[e]at g;exact congrArg some g
   obtain⟨y,e1,e2,e3,e4⟩:=S.out d j D;have w:N[nt+d]?=some x:=U;rw[e1]at w;cases w;obtain⟨u,ru,l⟩:=Y j x v e2 M (.inr (.inl e3));refine⟨u,ru,?_⟩;rcases l with ⟨q,_⟩|⟨_,c,ec,z⟩
   ·have B:X.env.scope.names.lookup x=some .local:=q;rw[e3]at B;cases B
   ·obtain⟨G,A⟩:=O x e4;have:G=c:=by have:=a x G A;rw[ec]at this;exact(aaH this).symm
    subst this;obtain⟨o,r,Z⟩:=z;refine .inr ⟨?_,G,A,⟨o,hk _ _ r,Z⟩⟩;rcases h3 with q|q|q
    ·have B:(relabel scope X.env).names.lookup x=some .local:=q;rcases b9 (sc:=scope) scope.names x _ B with z|⟨z,_⟩
     ·rw[e4]at z;cases z
     ·cases z
    ·exact .inl q
    ·exact .inr q
 ·obtain⟨v,o,r,Z⟩:=I.cell x c (a x c e);exact⟨v,o,hk _ _ r,Z⟩
 ·have L:p∈X.pn++pins:=by
   rcases aai.mp hp with z|z
   ·exact z
   ·exact absurd z (by simp)
  obtain⟨e,n,ne,nf,d⟩:=I.pin p L;refine⟨hk _ _ e,n,T _ _ e,λz=>?_,d⟩;rcases aab.mp (I.n4 p.1 z) with q|q
  ·exact ne q
  ·exact nf q
 ·show (bJ nt fr σ).length=N.length;unfold bJ;rw[aad,abQ,aaa,S.len]
theorem sQ(I:Inv X pins σ H s)(O:∀b∈fp,FpOk X pins H b)
  (p:H D=none) (k:s.heap.objs.size<=D) (m:D<s3.heap.objs.size) (hk:∀b o,s.heap.get? b=some o->s3.heap.get? b=some o) (t:s3.os=s.os)
  (J:Inv (aZ X N scope cl s3 (upd H D (.lst [])) fp pins) pins' σ' H1 s5) (l:Heap.SameBut s3.heap.objs.size s5.heap h'):
  Inv X pins σ H1 { s5 with heap:=h' }:=by
 have r:s.heap.objs.size<=s3.heap.objs.size:=aaR (Nat.lt_of_le_of_lt k m);have f:∀b,b<s.heap.objs.size->b≠D/\b≠s3.heap.objs.size:=λb d=>⟨aat (aaC d k),aat (aaC d r)⟩
 have j:∀b,b≠D->(upd H D (.lst [])) b=H b:=λb d=>upd_ne d;refine I.zb (ch:=fp) (J.os.trans t) ⟨λb o e n d g=>?_,λb o e n d g=>?_,λb o e n g=>?_,λb o e g=>?_,λb w e=>?_,λb o u e=>?_,λb y e=>?_⟩ ?_ J.bare λb d=>?_
 ·obtain⟨i,h⟩:=f b (Heap.lt_size e);exact(l.2 b h).trans (J.base.keep b o (hk b o e) ((j b i).trans n) d g)
 ·obtain⟨i,h⟩:=f b (Heap.lt_size e);obtain⟨G,q⟩:=J.base.slot b o (hk b o e) ((j b i).trans n) d g;exact⟨G,(l.2 b h).trans q⟩
 ·obtain⟨i,h⟩:=f b (Heap.lt_size e);exact J.base.free b o (hk b o e) ((j b i).trans n) g
 ·obtain⟨i,h⟩:=f b (Heap.lt_size e);obtain⟨A,q⟩:=J.base.there b o (hk b o e) g;exact⟨A,(l.2 b h).trans q⟩
 ·exact J.base.tups b w ((j b (ao e p)).trans e)
 ·exact J.base.frzs b o u ((j b (ao e p)).trans e)
 ·exact J.base.tbls b y ((j b (ao e p)).trans e)
 ·intro b u e;refine(J.hok b u e).kv (λc v L q=>(l.2 c ?_).trans q) (λ_ q=>q) λ_ _ q=>q;have a:H1 s3.heap.objs.size=none:=J.free;rintro rfl;rcases L with z|z
  ·rw[z]at a;rw[a]at e;cases e
  ·rw[a]at z;cases z
 ·obtain⟨S,B,Q,x,C,M⟩:=O b d;exact⟨x,B,C,M⟩
abbrev TC:=Addr->St->Hp->(Hp->Prop)->Prop
def oa(d:TE):TC:=λD c H Q=>d c H λy b=>∃a,b D=some (.lst a)/\a.length<sizeLine/\Q (upd b D (.lst (a++[y])))
def Ex(d:TT)(e:TE):TC:=λD c H Q=>d c H λb a=>if b=true then oa e D c a Q else Q a
def kN(l:TI)(nt:Nat)(fr:List Nat)(g:CC->TG)(k:CC->TC):TE:=λh H Q=>l h H λJ f=>∀(c:CC) D,f D=none->∃W:Nat->Nat->St->Hp->Prop,(∃m,W 0 m (bJ nt fr h) (upd f D (.lst []))) /\
 ∀i m a b,W i m a b->(J.stop i b/\Q (.ref D) b)\/(J.go i b/\∀x e,J.yld i b x e->g c x a e λd n=>k c D d n λo=>∃j,j<m/\W (i+1) j d o)
def kO(Y:Cx)(D:Addr)(ifs:List Expr)(elt:Expr)(i:TC):Prop:=
 ∀(a:List (Addr×Obj)) (s:Shared) (g:St) (H:Hp) (Q:Hp->Prop),Inv Y a g H s->i D g H Q ->
  wpAny (model Y.prog Y.w) Y.A (forIn ifs true λc r=>if r=true then do let h <-isTrue c Y.env (eval c Y.env);pure (ForInStep.yield h) else pure (ForInStep.yield r)) (λh b=>
   if h=true then wpAny (model Y.prog Y.w) Y.A (eval elt Y.env) (λx e=>
    wpAny (model Y.prog Y.w) Y.A (call (.builtin "list.append") [.ref D,x]) (λ_ d=>∃f,Inv Y a g f d/\Q f) Y.xe e) Y.xe b
   else ∃f,Inv Y a g f b/\Q f) Y.xe s
theorem og(i:PE Y elt te)(I:Inv Y pins σ H s)(h:oa te D σ H Q):
  wpAny (model Y.prog Y.w) Y.A (eval elt Y.env) (λx a=>
    wpAny (model Y.prog Y.w) Y.A (call (.builtin "list.append") [.ref D,x]) (λ_ b=>∃c,Inv Y pins σ c b/\Q c) Y.xe a) Y.xe s:=by
 refine thn (i pins s σ H _ I h) λu d m=>?_;obtain⟨y,k,g,p,o,l,f,q⟩:=m;refine thn (fL pins d σ k (.ref D) [y] (.ref D) [u] (λv c=>v=.non/\Q c) g rfl (.cons p .nil) ⟨D,o,y,rfl,rfl,l,f,rfl,q⟩) λv r ⟨z,j,e,_,_,n⟩=>⟨j,e,n⟩
theorem qK(b:PE Y elt te):kO Y D [] elt (oa te):=by intro a s c H Q I h;refine wpAny_tests_nil ?_;rw[if_pos rfl];exact og b I h
theorem sR(j:PT Y c tt)(k:PE Y elt te):kO Y D [c] elt (Ex tt te):=by
 intro a s f H Q I h;refine wpAny_tests_one (thn (j a s f H _ I h) λb l i=>?_);obtain⟨g,e,d⟩:=i;cases b with
 |true=>rw[if_pos rfl]at d ⊢;exact og k e d
 |false=>rw[if_neg aaf]at d ⊢;exact⟨g,e,d⟩
theorem iZ{a4:Option (Value->Sem Unit)}{Q0:Value->Shared->Prop}(hc:X.calm=true)(S:CompScope N nt fr X.N scope X.env.scope)(hi:PI X tg iter wi)
  (hg:∀c:CC,PG (dQ X N scope c) tg (g c)) (ha:∀(c:CC) D,kO (dQ X N scope c) D ifs elt (tc c))
  (I:Inv X pins σ H s) (h:kN wi nt fr g tc σ H Q) (c8:∀x∈scope.names,x.2=.free->X.env.kindOf x.1=some .cell)
  (fin:∀(D C:Addr) (s5:Shared) (H1:Hp),FpOk X pins H1 C->s5.heap.get? C≠none->C≠X.env.locals->(∃m,s5.heap.Ns C m)->(∀h',Heap.SameBut C s5.heap h'->Inv X pins σ H1 { s5 with heap:=h' })->Q (.ref D) H1 ->
   compPost (model X.prog X.w) X.A X.xe a4 Q0 (.ref D) C (.ok .next) s5)
  (hs:∀x,foldedSetIterable iter X.env x=pure x:=by intro _;rfl):
  wpAny (model X.prog X.w) X.A (comprehension (.ListComp elt [⟨tg,iter,ifs,0⟩] scope pos) scope X.env (firstIterPos [⟨tg,iter,ifs,0⟩] pos) (newList []) false (eval iter X.env) a4) Q0 X.xe s:=by
 have Z:∀x∈scope.names,x.2=.free->∃c,X.env.cells.lookup x.1=some c:=λx hx hf=>I.ok.has x.1 (.inl (c8 x hx hf));obtain⟨v,c7,h1,h2⟩:=gN Z;refine wpAny_comprehension_free rfl hs c7 S.kind S.names (thn (hi pins s σ H _ I h) λxv s1 hx=>thn hx λd1 a c4=>?_);obtain⟨it,j,tn,J,l,rfl,I2,T,a8,f2,hW⟩:=c4;have a1:∀b∈j,b<a.heap.objs.size:=λb f=>let ⟨o,e,_⟩:=T.obj 0 _ a8 b f;Heap.lt_size e
 refine wpAny_newObj_type (wpAny_newFunctionEnv S.nocell (by intro y hy;simp at hy) (λB q t=>?_) S.kind) (by show 0<=sizeLine;exact aaG _);have hD:l a.heap.objs.size=none:=I2.hok.fresh (aae _);have I3:Inv X pins σ (upd l a.heap.objs.size (.lst [])) { a with heap:=a.heap.push { cls:=.type "list",dict:=none,data:=.seq ([]:List Value).toArray } }:=I2.lnew .nil (aaG _);generalize hs3:({ a with heap:=a.heap.push { cls:=.type "list",dict:=none,data:=.seq ([]:List Value).toArray } }:Shared)=s3 at q t I3 ⊢;obtain⟨W,⟨m0,w0⟩,b0⟩:=hW ⟨v,s3,upd l a.heap.objs.size (.lst []),j,pins⟩ _ hD;have a6:∀b o,a.heap.get? b=some o->s3.heap.get? b=some o:=λb o e=>by rw[<-hs3];exact Heap.get?_push_of_some _ e
 have z3:s3.heap.objs.size=a.heap.objs.size+1:=by rw[<-hs3];exact Heap.size_push ..
 have c5:s3.os=a.os:=by rw[<-hs3]
 have f3:∀b∈j,FpOk X pins (upd l a.heap.objs.size (.lst [])) b:=λb f=>⟨by rw[upd_ne (aat (a1 b f))];exact(f2 b f).1,(f2 b f).2⟩
 have a5:∀b o,s3.heap.get? b=some o->B.get? b=some o:=λb o e=>t.extBut b o (aat (Heap.lt_size e)) (Heap.get?_push_of_some _ e);generalize hs4:({ s3 with heap:=B,toks:=s3.toks+([]:List (Str×Value)).length }:Shared)=s4;have a3:s4.heap=B:=by rw[<-hs4]
 have I4:Inv (aZ X N scope v s3 (upd l a.heap.objs.size (.lst [])) j pins) [] (bJ nt fr σ) (upd l a.heap.objs.size (.lst [])) s4:=
  gO S I3 f3 (λb f=>by rw[z3];exact abz (a1 b f)) h1 h2 (λb o e=>by rw[a3];exact a5 b o e) ⟨_,by rw[a3];exact q⟩ (by rw[<-hs4]) (by rw[<-hs4])
 have b7:tn 0 s4.heap:=T.keep 0 _ _ a8 λb f o e=>by rw[a3];exact a5 b o (a6 b o e)
 have a0:codeAny (model X.prog X.w) X.A (.compLoop (.ListComp elt [⟨tg,iter,ifs,0⟩] scope pos) 0 (.ref it) (.ref a.heap.objs.size) (compEnvC scope v s3.heap.objs.size X.env))
   (compPost (model X.prog X.w) X.A X.xe a4 Q0 (.ref a.heap.objs.size) s3.heap.objs.size) s4:=by
  have G:∀{k:Hp},(∀b∈j,k b=none)->∀b∈j,FpOk (aZ X N scope v s3 (upd l a.heap.objs.size (.lst [])) j pins) [] k b:=λ{k} hn b f=>
   ⟨hn b f,aat (show b<s3.heap.objs.size by rw[z3];exact abz (a1 b f)),λz=>I4.ok.exfs b f z,.inl f,λx c e=>(f2 b f).2.2.2.2.1 x c (h1 x c e),λp hp=>(f2 b f).2.2.2.2.2 p (by
    rcases aai.mp hp with z|z
    ·exact z
    ·exact absurd z (by simp))⟩
  refine qJ (λn s'=>∃i M k,Inv (aZ X N scope v s3 (upd l a.heap.objs.size (.lst [])) j pins) [] M k s'/\tn i s'.heap/\(∀b∈j,k b=none)/\W i n M k) ?_ m0
   ⟨0,_,_,I4,b7,λb f=>(f3 b f).1,w0⟩
  rintro n s5 ⟨i,Y,H5,I5,a7,c0,w5⟩;rcases b0 i n Y H5 w5 with ⟨b6,qn⟩|⟨go,b5⟩
  ·refine thn (T.done (aZ X N scope v s3 (upd l a.heap.objs.size (.lst [])) j pins) rfl rfl rfl hc i [] s5 Y H5 (λ_ _=>False) I5 (G c0) a7 b6) λr s6 hZ=>?_;obtain⟨hr,I6⟩:=hZ;subst hr;obtain⟨m,hm,_⟩:=id I6.loc;refine fin _ _ s6 H5 (I2.rd (by rw[z3];exact abA _) I6.free) ?_ ?_ ⟨m,hm⟩ (λh' c3=>sQ I2 f2 hD (aae _) (by rw[z3];exact aaP _) a6 c5 I6 c3) qn
   ·obtain⟨o,_,_,ho,_⟩:=hm;intro z;have b8:s6.heap.get? s3.heap.objs.size=some o:=ho;rw[z]at b8;cases b8
   ·exact abc (abR I2.lt (by rw[z3];exact aaP _))
  ·refine thn (T.item (aZ X N scope v s3 (upd l a.heap.objs.size (.lst [])) j pins) rfl rfl rfl hc i [] s5 Y H5 (λ_ _=>False) I5 (G c0) a7 go) λr s6 hZ=>?_;obtain⟨u,hr,h6⟩:=hZ;subst hr;refine thn h6 λ_ s7 hZ=>?_;obtain⟨x,H7,I7,r7,y7,a2,c1⟩:=hZ;have d0:=I7.pinned (G c1) (T.obj _ _ a2);refine thn (hg ⟨v,s3,upd l a.heap.objs.size (.lst []),j,pins⟩ _ s7 Y H7 x u _ d0 r7 (b5 x H7 y7)) λ_ s8 hZ=>?_;obtain⟨O,H8,I8,q8⟩:=hZ;refine thn (ha ⟨v,s3,upd l a.heap.objs.size (.lst []),j,pins⟩ _ _ s8 O H8 _ I8 q8) λok s9 h9=>?_;have L:∀{U:Shared},(∃k,Inv (aZ X N scope v s3 (upd l a.heap.objs.size (.lst [])) j pins) ([]++pinsAt j s7.heap) O k U/\∃m',m'<n/\W (i+1) m' O k) ->
     ∃m,m<n/\∃i M k,Inv (aZ X N scope v s3 (upd l a.heap.objs.size (.lst [])) j pins) [] M k U/\tn i U.heap/\(∀b∈j,k b=none)/\W i m M k:=λ{U} ⟨k,I',m',hm,w'⟩=>by
    refine⟨m',hm,i+1,O,k,I'.eo,T.keep _ _ _ a2 λb f o e=>(I'.pin (b,o) (aag _ (aag _ (bO f e)))).1,λb f=>?_,w'⟩;obtain⟨o,e,d⟩:=T.obj _ _ a2 b f;exact(I'.pin (b,o) (aag _ (aag _ (bO f e)))).2.1
   cases ok with
   |true=>rw[if_pos rfl]at h9 ⊢;exact thn h9 λy d2 c2=>thn c2 λ_ d3 c6=>L c6
   |false=>rw[if_neg aaf]at h9 ⊢;exact L h9
 exact codeAny_compStart_list a0 (T.self X.A 0 s4 _ _ b7 a0)
theorem xi(o:X.calm=true)(S:CompScope N nt fr X.N scope X.env.scope)(k:PI X tg iter wi)
  (j:∀c:CC,PG (dQ X N scope c) tg (g c)) (p:∀(c:CC) D,kO (dQ X N scope c) D ifs elt (tc c))
  (e:∀x,foldedSetIterable iter X.env x=pure x:=by intro _;rfl):
  PE X (.ListComp elt [⟨tg,iter,ifs,0⟩] scope pos) (kN wi nt fr g tc):=by
 intro d s u H Q I h;rw[eval_ListComp];refine iZ o S k j p I h (λx l r=>S.cells x l r) (λD C t i _ _ _ a f q=>?_) e;obtain⟨m,a⟩:=a;exact⟨m,a,λn b=>⟨.ref D,i,f n b,rfl,q⟩⟩
theorem xj{k d:Pos}(hN:X.N.Nodup)(Z:X.N[i]?=some y)(J:X.env.scope.names.lookup y=some .local)(hc:X.calm=true)(S:CompScope N nt fr X.N scope X.env.scope)(hi:PI X tg iter wi)
  (Y:∀c:CC,PG (dQ X N scope c) tg (g c)) (ha:∀(c:CC) D,kO (dQ X N scope c) D ifs elt (tc c))
  (M:∀x,foldedSetIterable iter X.env x=pure x:=by intro _;rfl)
  (w:swapsWith (.ListComp elt [⟨tg,iter,ifs,0⟩] scope pos) (some (.Name y k)) d.line X.env=pure true:=by rfl):
  PS X (.Assign [.Name y k] (.ListComp elt [⟨tg,iter,ifs,0⟩] scope pos) d) (sr (kN wi nt fr g tc) (kH i)):=by
 intro j s σ H D I h;rw[exec_Assign_Name_used _ _ _ _ w];refine wpAny_bind (wpAny_standAt (wpAny_bind ?_));show wpAny _ X.A (do let _ <-comprehension (.ListComp elt [⟨tg,iter,ifs,0⟩] scope pos) scope X.env _ (newList []) false (eval iter X.env) (some (assign (.Name y k) X.env))) _ _ s;refine wpAny_bind (wpAny_mono (iZ hc S hi Y ha I h (λx hx hf=>S.cells x hx hf) (λL C G B f hC _ n U q=>?_) M) (λ_ s' Q=>wpAny_pure (wpAny_pure Q)) λ_ _ e=>e);obtain⟨m,n⟩:=n;have O:Inv X j σ B G:=U G.heap ⟨rfl,λ_ _=>rfl⟩;show wpAny _ X.A (assign (.Name y k) X.env (.ref L)) _ _ _;refine wpAny_assign_Name (fJ O hN Z (.inl J) (v:=.ref L) rfl (λs6 I6 p=>?_) (.inr J));obtain⟨a,l,r⟩:=p;have t:C≠a:=by
  rcases r with e|e
  ·rw[e];exact f.2.1
  ·exact λz=>f.2.2.2.2.1 _ _ e z.symm
 exact⟨m,n.sameBut l t,λh' u=>⟨_,B,I6.turned (λb o T e=>(u.2 b T).trans e) f.1 f.2.1 f.2.2.2.1 f.2.2.2.2.1 f.2.2.2.2.2,q⟩⟩
end
end
section
section
variable{prog:Program}{w:World}{A:Around}{E:Value->Shared->Prop}{s:Shared}
theorem eK{items}(a:s.heap.IsTupleIter it t i)
  (h:s.heap.IsTuple t items) (f:items[i]?=some x)
  (g:∀h',h'.IsTupleIter it t (i+1)->Heap.SameBut it s.heap h'->Q x { s with heap:=h' }):
  wpAny (model prog w) A (Builtin.SmallTypes.nextOf (.ref it)) Q E s:=by
 obtain⟨o,c,j,b⟩:=id a;obtain⟨k,d,_,l,e⟩:=h;unfold Builtin.SmallTypes.nextOf;refine wpAny_bind (wpAny_callSpecial?_slot a.typeIs F.slot_tuple_iterator_next
  (wpAny_call_entry F.slot_tuple_iterator_next a.typeIs F.entry_tuple_iterator_next ?_ (F.args_tuple_iterator_next_1 _)))
 show wpAny _ _ (field (.ref it) 0 >>= _) _ _ s;refine wpAny_bind (wpAny_field c b rfl ?_);show wpAny _ _ (if (Value.ref t==Value.none)=true then _ else _) _ _ s;rw[if_neg (show ¬ ((Value.ref t==Value.none)=true) from aaf)];show wpAny _ _ (field (.ref it) 1 >>= _) _ _ s;refine wpAny_bind (wpAny_field c b rfl ?_);show wpAny _ _ (seqItems? (.ref t) >>= _) _ _ s;refine wpAny_bind (wpAny_seqItems d e ?_);simp only[aaJ,f];refine wpAny_bind (wpAny_setField c b (by simp) (wpAny_pure ⟨x,rfl,wpAny_pure (g _ ?_ (Heap.SameBut.update ..))⟩));exact⟨_,Heap.get?_update_self _ c (Obj.isFreed_of_fields (Obj.data_mapFields b _)),(Obj.cls_mapFields ..).trans j,by
  rw[Obj.data_mapFields b];simp[rawInt]⟩
theorem fM{items}{Q:Value->Shared->Prop}(g:A.handled=none)
  (a:s.heap.IsTupleIter it t i) (j:s.heap.IsTuple t items) (h:items[i]?=none)
  (hE:∀h' e,Heap.ExtBut it s.heap h'->(∃o,h'.get? e=some o/\o.cls=.type "StopIteration")->E (.ref e) { s with heap:=h' }):
  wpAny (model prog w) A (Builtin.SmallTypes.nextOf (.ref it)) Q E s:=by
 obtain⟨o,d,m,c⟩:=id a;obtain⟨k,b,_,l,f⟩:=j;unfold Builtin.SmallTypes.nextOf;refine wpAny_bind (wpAny_callSpecial?_slot a.typeIs F.slot_tuple_iterator_next
  (wpAny_call_entry F.slot_tuple_iterator_next a.typeIs F.entry_tuple_iterator_next ?_ (F.args_tuple_iterator_next_1 _)))
 show wpAny _ _ (field (.ref it) 0 >>= _) _ _ s;refine wpAny_bind (wpAny_field d c rfl ?_);show wpAny _ _ (if (Value.ref t==Value.none)=true then _ else _) _ _ s;rw[if_neg (show ¬ ((Value.ref t==Value.none)=true) from aaf)];show wpAny _ _ (field (.ref it) 1 >>= _) _ _ s;refine wpAny_bind (wpAny_field d c rfl ?_);show wpAny _ _ (seqItems? (.ref t) >>= _) _ _ s;refine wpAny_bind (wpAny_seqItems b f ?_);simp only[aaJ,h];refine wpAny_bind (wpAny_rule (wpAny_bind (wpAny_setField d c (by simp) ?_)));show wpAny _ _ (newExc (.type "StopIteration") [] >>= _) _ _ _;refine wpAny_bind ?_;simp only[newExc,newTuple];refine wpAny_bind (wpAny_newObj_type ?_ (by size_fits));refine wpAny_bind (wpAny_of_eq (by first|rfl|(simp only[firstArgMember];rfl)) ?_);refine wpAny_newObj_type ?_ (by size_fits);simp only[raiseNew];refine wpAny_bind (wpAny_handled ?_)
 first|rw[show A.in1.handled=none from g]|rw[g]
 refine wpAny_bind (wpAny_pure (wpAny_throw ?_));exact hE _ _ (((Heap.SameBut.update ..).extBut.push _).push _) ⟨_,Heap.get?_push_size _ rfl,rfl⟩
end
inductive ZS where
 |lst (a:Addr) (xs:List V)
 |tup (a:Addr) (xs:List V)
 |str (z:Str)
def ZS.items:ZS->List V
 |.lst _ xs=>xs
 |.tup _ xs=>xs
 |.str z=>z.cps.toList.map λc=>.str ⟨#[c]⟩
def ZS.val:ZS->V
 |.lst a _=>.ref a
 |.tup a _=>.ref a
 |.str z=>.str z
def ZS.ok(K:Waa)(H:Hp):ZS->Prop
 |.lst a xs=>SqL K H a xs
 |.tup a xs=>SqT K H a xs
 |.str _=>True
structure Sub (prog:Program)(w:World)(A:Around)(i:Addr)(sl:List Addr)(src:Heap->Prop)(st:Nat->Heap->Prop)(vs:List V):Prop where
 sfr:∀h h',src h->(∀b∈sl,∀o,h.get? b=some o->h'.get? b=some o)->src h'
 ifr:∀k h h',st k h->(∀o,h.get? i=some o->h'.get? i=some o)->st k h'
 item:∀(k:Nat) (s:Shared) (x:V) (Q:Value->Shared->Prop) (E:Value->Shared->Prop),vs[k]?=some x->src s.heap->st k s.heap ->
  (∀v h' tk,RelV x v->st (k+1) h'->Heap.SameBut i s.heap h'->Q v { s with heap:=h',toks:=tk })->wpAny (model prog w) A (Builtin.SmallTypes.nextOf (.ref i)) Q E s
 done:∀(k:Nat) (s:Shared) (Q:Value->Shared->Prop) (E:Value->Shared->Prop),vs.length<=k->src s.heap->st k s.heap ->
  (∀h' e,Heap.ExtBut i s.heap h'->(∃o,h'.get? e=some o/\o.cls=.type "StopIteration")->E (.ref e) { s with heap:=h' })->wpAny (model prog w) A (Builtin.SmallTypes.nextOf (.ref i)) Q E s
theorem Sub.list(q:A.handled=none)(i l:Addr)(r:Vals xs its):
  Sub prog w A i [l] (λh=>h.IsList l its.toArray) (λk h=>h.IsListIter i l k) xs where
 sfr:=λh d x k=>x.at λo e=>k l (by simp) o e
 ifr:=λk h d x f=>x.at λo e=>f o e
 item:=λk s x Q E n a c j=>by obtain⟨u,t,p⟩:=r.get n;exact wpAny_nextOf_list_item c a (by simpa using t) λd b m=>j u d s.toks p b m
 done:=λk s Q E v a c g=>by have y:=r.length;exact wpAny_nextOf_list_end q c a (by simp;omega) g
theorem Sub.tuple(t:A.handled=none)(i l:Addr)(r:Vals xs its):
  Sub prog w A i [l] (λh=>h.IsTuple l its.toArray) (λk h=>h.IsTupleIter i l k) xs where
 sfr:=λh g ⟨o,e,c⟩ k=>⟨o,k l (by simp) o e,c⟩
 ifr:=λk h g ⟨o,e,c⟩ f=>⟨o,f o e,c⟩
 item:=λk s x Q E p a d m=>by obtain⟨u,v,q⟩:=r.get p;exact eK d a (by simpa using v) λg b n=>m u g s.toks q b n
 done:=λk s Q E y a d j=>by have z:=r.length;exact fM t d a (by simp;omega) j
theorem Sub.strs(u:A.handled=none)(i:Addr)(z:Str)(t:Tok):
  Sub prog w A i [] (λ_=>True) (λk h=>h.IsStrIter i (strIterType z) z t k) (z.cps.toList.map λc=>V.str ⟨#[c]⟩) where
 sfr:=λh l x k=>trivial
 ifr:=λk h l ⟨o,e,c⟩ f=>⟨o,f o e,c⟩
 item:=λk s x Q E j v a g=>by
  rw[aau]at j;cases e:z.cps.toList[k]? with
  |none=>rw[e]at j;cases j
  |some c=>
   rw[e]at j;have m:V.str ⟨#[c]⟩=x:=aaH j;subst m;have d:z.cps[k]?=some c:=by rw[<-acw];exact e
   unfold strIterType at a g;split at a
   ·rename_i p;rw[if_pos p]at g;exact wpAny_nextOf_ascii_item a d λl b n=>g _ l _ ⟨_,rfl⟩ b n
   ·rename_i p;rw[if_neg p]at g;exact wpAny_nextOf_wide_item a d λl b n=>g _ l _ ⟨_,rfl⟩ b n
 done:=λk s Q E q v a r=>by
  have d:z.cps[k]?=none:=by rw[aaa,abO]at q;exact Array.getElem?_eq_none q
  unfold strIterType at a;split at a
  ·exact wpAny_nextOf_ascii_end u a d r
  ·exact wpAny_nextOf_wide_end u a d r
structure ZApart (z TI TO i1 i2:Addr)(sl1 sl2:List Addr):Prop where
 TIz:TI≠z
 TOz:TO≠z
 i1z:i1≠z
 i2z:i2≠z
 TITO:TI≠TO
 TIi1:TI≠i1
 TIi2:TI≠i2
 TOi1:TO≠i1
 TOi2:TO≠i2
 i12:i1≠i2
 s1:∀b∈sl1,b≠z/\b≠TO/\b≠i1/\b≠i2
 s2:∀b∈sl2,b≠z/\b≠TO/\b≠i1/\b≠i2
section
variable{prog:Program}{w:World}{A:Around}{E:Value->Shared->Prop}{s:Shared}
theorem qL{z O p U X:Addr}{Q:Value->Shared->Prop}(D:ZApart z O p U X sl1 sl2)
  (S1:Sub prog w A U sl1 src1 st1 xs) (S2:Sub prog w A X sl2 src2 st2 ys)
  (hz:IsZip s.heap z O p .none) (b6:IsPair s.heap O (.ref U) (.ref X)) (b5:IsPair s.heap p a b)
  (h1:st1 k s.heap) (h2:st2 k s.heap) (a8:src1 s.heap) (b0:src2 s.heap) (hx:xs[k]?=some x) (hy:ys[k]?=some y)
  (hQ:∀u v h' tk,RelV x u->RelV y v->IsZip h' z O p (rawInt s.heap.objs.size)->IsPair h' p u v->st1 (k+1) h'->st2 (k+1) h'->IsPair h' s.heap.objs.size u v->h'.objs.size=s.heap.objs.size+1 ->
   (∀c o,c≠z->c≠p->c≠U->c≠X->s.heap.get? c=some o->h'.get? c=some o)->Q (.ref s.heap.objs.size) { s with heap:=h',toks:=tk })
  (c5:U<s.heap.objs.size) (c6:X<s.heap.objs.size):
  wpAny (model prog w) A (Builtin.«zip.__next__» ⟨[.ref z],[]⟩) (λc0 s'=>∃v,c0=.done (.ret v)/\Q v s') E s:=by
 show wpAny _ _ (field (.ref z) 2 >>= _) _ _ _;refine wpAny_bind (wpAny_field hz rfl rfl ?_);show wpAny _ _ (field (.ref z) 3 >>= _) _ _ _;refine wpAny_bind (wpAny_field hz rfl rfl ?_);refine wpAny_bind (wpAny_seqItems b6 rfl ?_);show wpAny _ _ (Builtin.SmallTypes.ownedTupleIsFree (.ref z) >>= _) _ _ _;refine wpAny_bind ?_;unfold Builtin.SmallTypes.ownedTupleIsFree;refine wpAny_bind (wpAny_field hz rfl rfl (wpAny_pure ?_));simp only[if_true];refine wpAny_bind (wpAny_rule ?_);refine wpAny_bind (wpAny_field hz rfl rfl ?_);refine wpAny_bind (wpAny_setField_rec hz (by simp) λT t i=>?_);replace t:IsZip T z O p .ellipsis:=t;refine wpAny_bind ?_;simp only[List.zipIdx_cons,List.zipIdx_nil,ab8,List.forIn_nil];refine wpAny_bind (wpAny_bind (wpAny_onRaise ?_));show wpAny _ _ (Builtin.SmallTypes.nextOf (.ref U) >>= _) _ _ _;refine wpAny_bind (S1.item k _ x _ _ hx (S1.sfr _ _ a8 λb hb o e=>i.extBut b o (D.s1 b hb).1 e) (S1.ifr _ _ _ h1 λo e=>i.extBut _ o D.i1z e) λu J b7 ru a2 f=>wpAny_pure ?_);have f:Heap.SameBut U T J:=f;have G:IsPair J p a b:=f.extBut _ _ D.TOi1 (i.extBut _ _ D.TOz b5);refine wpAny_bind (wpAny_seqItems G rfl ?_);refine wpAny_bind (wpAny_updateSeq_pair G λN n g=>?_);replace n:IsPair N p u b:=n;have g:Heap.SameBut p J N:=g;refine wpAny_bind (wpAny_letGo (wpAny_pure ?_));refine wpAny_bind (wpAny_bind (wpAny_onRaise ?_));show wpAny _ _ (Builtin.SmallTypes.nextOf (.ref X) >>= _) _ _ _;refine wpAny_bind (S2.item k _ y _ _ hy (S2.sfr _ _ b0 λb hb o e=>g.extBut b o (D.s2 b hb).2.1 (f.extBut b o (D.s2 b hb).2.2.1 (i.extBut b o (D.s2 b hb).1 e)))
  (S2.ifr _ _ _ h2 λo e=>g.extBut _ o D.TOi2.symm (f.extBut _ o D.i12.symm (i.extBut _ o D.i2z e))) λv M b8 rv a0 h=>wpAny_pure ?_)
 have h:Heap.SameBut X N M:=h;have H:IsPair M p u b:=h.extBut _ _ D.TOi2 n;refine wpAny_bind (wpAny_seqItems H rfl ?_);refine wpAny_bind (wpAny_updateSeq_pair H λd l j=>?_);replace l:IsPair d p u v:=l;have j:Heap.SameBut p M d:=j;refine wpAny_bind (wpAny_letGo (wpAny_pure (wpAny_pure ?_)));refine wpAny_bind (wpAny_seqItems l rfl ?_);refine wpAny_bind (wpAny_newTuple ?_);have a6:d.objs.size=s.heap.objs.size:=by rw[j.1,h.1,g.1,f.1,i.1]
 have L:IsZip d z O p .ellipsis:=j.extBut _ _ D.TOz.symm (h.extBut _ _ D.i2z.symm (g.extBut _ _ D.TOz.symm (f.extBut _ _ D.i1z.symm t)));have a4:∀c o,c≠z->c≠p->c≠U->c≠X->s.heap.get? c=some o->d.get? c=some o:=λc o Z c2 c3 c4 e=>
  j.extBut _ _ c2 (h.extBut _ _ c4 (g.extBut _ _ c2 (f.extBut _ _ c3 (i.extBut _ _ Z e))))
 have a1:st1 (k+1) d:=S1.ifr _ _ _ a2 λo e=>j.extBut _ o D.TOi1.symm (h.extBut _ o D.i12 (g.extBut _ o D.TOi1.symm e));have a3:st2 (k+1) d:=S2.ifr _ _ _ a0 λo e=>j.extBut _ o D.TOi2.symm e;have S:z<d.objs.size:=Heap.lt_size L;show wpAny _ _ (Builtin.SmallTypes.ownedTupleHandOut (.ref z) (.ref d.objs.size) >>= _) _ _ _;refine wpAny_bind ?_;unfold Builtin.SmallTypes.ownedTupleHandOut;have Y:IsZip (d.push { cls:=.type "tuple",data:=.seq #[u,v] }) z O p .ellipsis:=Heap.get?_push_of_some _ L;refine wpAny_bind (wpAny_setField_rec Y (by simp) λa7 B r=>?_);replace B:IsZip a7 z O p (rawInt d.objs.size):=B;refine wpAny_setField_rec B (by simp) λq m C=>?_;replace m:IsZip q z O p (rawInt d.objs.size):=m;have up:∀c o,c≠z->d.get? c=some o->q.get? c=some o:=λc o Z e=>C.extBut _ _ Z (r.extBut _ _ Z (Heap.get?_push_of_some _ e));have I:IsPair q d.objs.size u v:=C.extBut _ _ (abc S) (r.extBut _ _ (abc S) (Heap.get?_push_size _ rfl));have a5:q.objs.size=d.objs.size+1:=by rw[C.1,r.1,Heap.size_push]
 rw[a6]at m I a5;refine wpAny_pure ⟨_,rfl,?_⟩;show Q (.ref d.objs.size) _;rw[a6];exact hQ u v q _ ru rv m (up _ _ D.TOz l) (S1.ifr _ _ _ a1 λo e=>up _ o D.i1z e) (S2.ifr _ _ _ a3 λo e=>up _ o D.i2z e) I a5 λc o Z c2 c3 c4 e=>up c o Z (a4 c o Z c2 c3 c4 e)
theorem sS{z I B H J:Addr}{Q:Fin->Shared->Prop}(D:ZApart z I B H J sl1 sl2)
  (T:Sub prog w A H sl1 src1 st1 xs) (S2:Sub prog w A J sl2 src2 st2 ys)
  (L:IsZip s.heap z I B .none) (a3:IsPair s.heap I (.ref H) (.ref J)) (a0:IsPair s.heap B a b)
  (h1:st1 k s.heap) (h2:st2 k s.heap) (X:src1 s.heap) (Z:src2 s.heap) (N:xs.length<=k\/ys.length<=k)
  (hE:∀h' tk e,(∀c o,c≠z->c≠B->c≠H->c≠J->s.heap.get? c=some o->h'.get? c=some o)->(∃o,h'.get? e=some o/\o.cls=.type "StopIteration")->E (.ref e) { s with heap:=h',toks:=tk }):
  wpAny (model prog w) A (Builtin.«zip.__next__» ⟨[.ref z],[]⟩) Q E s:=by
 show wpAny _ _ (field (.ref z) 2 >>= _) _ _ _;refine wpAny_bind (wpAny_field L rfl rfl ?_);show wpAny _ _ (field (.ref z) 3 >>= _) _ _ _;refine wpAny_bind (wpAny_field L rfl rfl ?_);refine wpAny_bind (wpAny_seqItems a3 rfl ?_);show wpAny _ _ (Builtin.SmallTypes.ownedTupleIsFree (.ref z) >>= _) _ _ _;refine wpAny_bind ?_;unfold Builtin.SmallTypes.ownedTupleIsFree;refine wpAny_bind (wpAny_field L rfl rfl (wpAny_pure ?_));simp only[if_true];refine wpAny_bind (wpAny_rule ?_);refine wpAny_bind (wpAny_field L rfl rfl ?_);refine wpAny_bind (wpAny_setField_rec L (by simp) λm l g=>?_);replace l:IsZip m z I B .ellipsis:=l;refine wpAny_bind ?_;simp only[List.zipIdx_cons,List.zipIdx_nil,ab8,List.forIn_nil];refine wpAny_bind (wpAny_bind (wpAny_onRaise ?_));show wpAny _ _ (Builtin.SmallTypes.nextOf (.ref H) >>= _) _ _ _;have l1:src1 m:=T.sfr _ _ X λb M o e=>g.extBut b o (D.s1 b M).1 e;have t1:st1 k m:=T.ifr _ _ _ h1 λo e=>g.extBut _ o D.i1z e;by_cases hx:xs.length<=k
 ·refine wpAny_bind (T.done k _ _ _ hx l1 t1 λi e d Y=>?_);have d:Heap.ExtBut H m i:=d;obtain⟨oe,n,r⟩:=Y;have t:IsZip i z I B .ellipsis:=d _ _ D.i1z.symm l;have G:e≠z:=λx=>by subst x;rw[t]at n;cases n;simp at r
  refine wpAny_setField_rec t (by simp) λq _ f=>hE q _ e (λc o O _ c3 _ x=>f.extBut _ _ O (d _ _ c3 (g.extBut _ _ O x))) ⟨oe,f.extBut _ _ G n,r⟩
 ·have hy:ys.length<=k:=by rcases N with h|h;exact absurd h hx;exact h
  obtain⟨x,a1⟩:∃x,xs[k]?=some x:=⟨_,aak (Nat.lt_of_not_le hx)⟩
  refine wpAny_bind (T.item k _ x _ _ a1 l1 t1 λu i a4 ru a2 d=>wpAny_pure ?_);have d:Heap.SameBut H m i:=d;have p:IsPair i B a b:=d.extBut _ _ D.TOi1 (g.extBut _ _ D.TOz a0);refine wpAny_bind (wpAny_seqItems p rfl ?_);refine wpAny_bind (wpAny_updateSeq_pair p λq U f=>?_);have f:Heap.SameBut B i q:=f;refine wpAny_bind (wpAny_letGo (wpAny_pure ?_));refine wpAny_bind (wpAny_bind (wpAny_onRaise ?_));show wpAny _ _ (Builtin.SmallTypes.nextOf (.ref J) >>= _) _ _ _;refine wpAny_bind (S2.done k _ _ _ hy (S2.sfr _ _ Z λb M o e=>f.extBut b o (D.s2 b M).2.1 (d.extBut b o (D.s2 b M).2.2.1 (g.extBut b o (D.s2 b M).1 e)))
   (S2.ifr _ _ _ h2 λo e=>f.extBut _ o D.TOi2.symm (d.extBut _ o D.i12.symm (g.extBut _ o D.i2z e))) λC e j Y=>?_)
  have j:Heap.ExtBut J q C:=j;obtain⟨oe,n,r⟩:=Y;have y:IsZip C z I B .ellipsis:=j _ _ D.i2z.symm (f.extBut _ _ D.TOz.symm (d.extBut _ _ D.i1z.symm l));have G:e≠z:=λx=>by subst x;rw[y]at n;cases n;simp at r
  refine wpAny_setField_rec y (by simp) λS _ v=>hE S _ e (λc o O c2 c3 c4 x=>v.extBut _ _ O (j _ _ c4 (f.extBut _ _ c2 (d.extBut _ _ c3 (g.extBut _ _ O x))))) ⟨oe,v.extBut _ _ G n,r⟩
theorem mJ{z g d e f:Addr}(D:ZApart z g d e f sl1 sl2)
  (C:Sub prog w A.in1 e sl1 src1 st1 xs) (O:Sub prog w A.in1 f sl2 src2 st2 ys)
  (q:IsZip s.heap z g d .none) (m:IsPair s.heap g (.ref e) (.ref f)) (l:IsPair s.heap d a b)
  (T:st1 k s.heap) (B:st2 k s.heap) (i:src1 s.heap) (j:src2 s.heap) (M:xs[k]?=some x) (U:ys[k]?=some y)
  (I:∀u v h' p,RelV x u->RelV y v->IsZip h' z g d (rawInt s.heap.objs.size)->IsPair h' d u v->st1 (k+1) h'->st2 (k+1) h'->IsPair h' s.heap.objs.size u v->h'.objs.size=s.heap.objs.size+1 ->
   (∀c o,c≠z->c≠d->c≠e->c≠f->s.heap.get? c=some o->h'.get? c=some o)->Q (some (.ref s.heap.objs.size)) { s with heap:=h',toks:=p })
  (h:e<s.heap.objs.size) (n:f<s.heap.objs.size):
  wpAny (model prog w) A (pyNext (.ref z)) Q E s:=by
 have r:s.TypeIs (.ref z) "zip":=⟨_,q,rfl⟩
 unfold pyNext;exact wpAny_bind (wpAny_attempt (wpAny_callSpecial?_slot r F.slot_zip_next
  (wpAny_call_entry F.slot_zip_next r F.entry_zip_next
   (qL D C O q m l T B i j M U (λu v h' p S J L t G N H Y X=>wpAny_pure (I u v h' p S J L t G N H Y X)) h n) (F.args_zip_next_1 _))))
theorem qM{z n g f h:Addr}(D:ZApart z n g f h sl1 sl2)
  (v:Sub prog w A.in1 f sl1 src1 st1 xs) (C:Sub prog w A.in1 h sl2 src2 st2 ys)
  (p:IsZip s.heap z n g .none) (m:IsPair s.heap n (.ref f) (.ref h)) (l:IsPair s.heap g a b)
  (G:st1 k s.heap) (t:st2 k s.heap) (i:src1 s.heap) (j:src2 s.heap) (d:xs.length<=k\/ys.length<=k)
  (y:∀h' r,(∀c o,c≠z->c≠g->c≠f->c≠h->s.heap.get? c=some o->h'.get? c=some o)->Q none { s with heap:=h',toks:=r }):wpAny (model prog w) A (pyNext (.ref z)) Q E s:=by
 have q:s.TypeIs (.ref z) "zip":=⟨_,p,rfl⟩
 unfold pyNext;refine wpAny_bind (wpAny_attempt (wpAny_callSpecial?_slot q F.slot_zip_next
  (wpAny_call_entry F.slot_zip_next q F.entry_zip_next (sS D v C p m l G t i j d λh' r e u x=>?_) (F.args_zip_next_1 _))))
 obtain⟨o,H,B⟩:=x;refine wpAny_bind (wpAny_isInstance ⟨o,H,B⟩ isSubtype_stop ?_);exact wpAny_pure (y _ _ u)
end
end
section
def HQ(K:Waa)(a b:ZS):It:=
 ⟨λi H=>a.ok K H/\b.ok K H/\i<a.items.length/\i<b.items.length,
  λi H v c=>∃T x y,a.items[i]?=some x/\b.items[i]?=some y/\H T=none/\v=.ref T/\c=upd H T (.tup [x,y]),
  λi H=>a.ok K H/\b.ok K H/\(a.items.length<=i\/b.items.length<=i)⟩
def ZS.vl:ZS->Value->Obj
 |.lst _ _,v=>{ cls:=.type "list_iterator",data:=.fields #[v,.int 0 0] }
 |.tup _ _,v=>{ cls:=.type "tuple_iterator",data:=.fields #[v,.int 0 0] }
 |.str z,v=>{ cls:=.type (strIterType z),data:=.fields #[v,.int 0 0] }
def ZS.st(a:ZS)(v:Value)(i:Addr)(k:Nat)(h:Heap):Prop:=match a,v with
 |.lst l _,_=>h.IsListIter i l k
 |.tup l _,_=>h.IsTupleIter i l k
 |.str z,.str _ t=>h.IsStrIter i (strIterType z) z t k
 |.str _,_=>False
def ZS.sl:ZS->List Addr
 |.lst l _=>[l]
 |.tup l _=>[l]
 |.str _=>[]
theorem ZS.n7{a:ZS}(x:a.st v i k h):∃o,h.get? i=some o/\∀c,o.data≠.cell c:=by
 cases a with
 |lst l b=>obtain⟨o,e,c,d⟩:=(show h.IsListIter i l k from x);exact⟨o,e,λv z=>by rw[d]at z;cases z⟩
 |tup l b=>obtain⟨o,e,c,d⟩:=(show h.IsTupleIter i l k from x);exact⟨o,e,λv z=>by rw[d]at z;cases z⟩
 |str z=>
  cases v with
  |str y t=>obtain⟨o,e,c,d⟩:=(show h.IsStrIter i (strIterType z) z t k from x);exact⟨o,e,λv z=>by rw[d]at z;cases z⟩
  |_=>exact False.elim x
theorem ZS.fx{a:ZS}(x:a.st v i k h)(f:∀o,h.get? i=some o->h'.get? i=some o):a.st v i k h':=by
 cases a with
 |lst l b=>obtain⟨o,e,c⟩:=(show h.IsListIter i l k from x);exact⟨o,f o e,c⟩
 |tup l b=>obtain⟨o,e,c⟩:=(show h.IsTupleIter i l k from x);exact⟨o,f o e,c⟩
 |str z=>
  cases v with
  |str y t=>obtain⟨o,e,c⟩:=(show h.IsStrIter i (strIterType z) z t k from x);exact⟨o,f o e,c⟩
  |_=>exact False.elim x
section
variable{X:Cx}{pins:List (Addr×Obj)}{σ:St}{H:Hp}{s:Shared}
theorem ZS.sub(a:ZS)(I:Inv X pins σ H s)(c:a.ok X.K H)(x:RelV a.val v)(A:Around)(m:A.handled=none)(i:Addr):
  ∃j:Heap->Prop,j s.heap/\Sub X.prog X.w A i a.sl j (a.st v i) a.items/\(∀b∈a.sl,∃o,s.heap.get? b=some o/\(H b≠none\/X.base.get? b=some o)):=by
 cases a with
 |lst l k=>
  have c:SqL X.K H l k:=c;obtain⟨q,r,p,u⟩:=I.list c;refine⟨_,p.isList,Sub.list m i l r,λb f=>?_⟩;have e:b=l:=by simpa[ZS.sl] using f
  subst e;rcases c with (h|⟨o,h⟩)|⟨o,g,n,d,_⟩
  ·obtain⟨_,_,_,_,e⟩:=I.hok _ _ h;exact⟨_,e,.inl (by rw[h];simp)⟩
  ·obtain⟨e,_⟩:=I.hok _ _ h;exact⟨_,e,.inl (by rw[h];simp)⟩
  ·exact⟨o,I.kIn _ _ d,.inr (I.ok.mod.kin _ _ d)⟩
 |tup l k=>
  have c:SqT X.K H l k:=c;obtain⟨q,r,p,u⟩:=I.tuple c;refine⟨_,p,Sub.tuple m i l r,λb f=>?_⟩;have e:b=l:=by simpa[ZS.sl] using f
  subst e;rcases c with (h|⟨o,h⟩)|⟨o,g,n,d,_⟩
  ·obtain⟨_,_,_,o,e,_⟩:=I.hok _ _ h;exact⟨_,e,.inl (by rw[h];simp)⟩
  ·obtain⟨e,_⟩:=I.hok _ _ h;exact⟨_,e,.inl (by rw[h];simp)⟩
  ·exact⟨o,I.kIn _ _ d,.inr (I.ok.mod.kin _ _ d)⟩
 |str z=>obtain⟨t,rfl⟩:=x;exact⟨_,trivial,Sub.strs m i z t,λb f=>by simp[ZS.sl]at f⟩
end
theorem aO{a:ZS}(I:Inv X pins σ H s)(f:FpOk X pins H b)(h:∀c∈a.sl,∃o,s.heap.get? c=some o/\(H c≠none\/X.base.get? c=some o)):∀c∈a.sl,c≠b:=by
 intro c d e;subst e;obtain⟨o,_,q⟩:=h c d;rcases q with q|q
 ·exact q f.1
 ·rcases f.2.2.2.1 with z|z
  ·exact I.ok.noex c o q z
  ·exact absurd (aaC (Heap.lt_size q) (aar I.ok.bsz z)) (aba _)
structure ZRec (z TI TO i1 i2:Addr):Prop where
 TIz:TI≠z
 TOz:TO≠z
 i1z:i1≠z
 i2z:i2≠z
 TITO:TI≠TO
 TIi1:TI≠i1
 TIi2:TI≠i2
 TOi1:TO≠i1
 TOi2:TO≠i2
 i12:i1≠i2
theorem Inv.ft{t':Nat}{g:List Addr}(I:Inv X pins σ H s)(k:∀b o,b ∉ g->s.heap.get? b=some o->h'.get? b=some o)(f:∀b∈g,FpOk X pins H b)
  : Inv X pins σ H { s with heap:=h',toks:=t' }:=by
 have d:∀b u,H b=some u->b ∉ g:=λb u e z=>by rw[(f b z).1]at e;cases e
 refine I.step (λb l=>?_) (λb o _ _ a e _=>k b o a e) (λb o _ _ a e _=>⟨o.slots,k b o a e⟩) (λ_ _ _ _ n=>n)
  (λb o a e=>⟨o,k b o a e⟩) (λ_ _ e=>e) (λ_ _ _ e=>e) (λb A e=>⟨#[],by rw[e];simp⟩) (λm h=>?_) (λb u e=>?_) I.bare
 ·obtain⟨C,p,B,j,t,x⟩:=f b l;exact⟨j,p,t,x⟩
 ·obtain⟨o,i,w,y,r⟩:=h;exact⟨o,i,w,k _ o (λz=>(f _ z).2.1 rfl) y,r⟩
 ·refine(I.hok b u e).kv (λc v a q=>k c v ?_ q) (λ_ q=>q) λ_ _ q=>q;rcases a with z|z
  ·rw[z];exact d b u e
  ·exact d c _ z
theorem sU{P:Program}{w:World}{K:Waa}{es:List Expr}{x1}{a6:Pos}(a b:ZS)(va vb:Value)(ra:RelV a.val va)(rb:RelV b.val vb)(z TI TO i1 i2:Addr)(R:ZRec z TI TO i1 i2):
  Turn P w K (.Tuple es x1 a6) (HQ K a b) [z,TI,TO,i1,i2] z
   (λi h=>IsZip h z TI TO .none/\IsPair h TI (.ref i1) (.ref i2)/\(∃p q,IsPair h TO p q)/\a.st va i1 i h/\b.st vb i2 i h) where
 mem:=by simp
 obj:=λi h ⟨C,G,⟨p,q,L⟩,J,M⟩ c d=>by
  simp only[aab,aaq,or_false]at d;rcases d with rfl|rfl|rfl|rfl|rfl
  ·exact⟨_,C,λv z=>by cases z⟩
  ·exact⟨_,G,λv z=>by cases z⟩
  ·exact⟨_,L,λv z=>by cases z⟩
  ·exact ZS.n7 J
  ·exact ZS.n7 M
 keep:=λi h h' ⟨C,G,⟨p,q,L⟩,J,M⟩ k=>
  ⟨k z (by simp) _ C,k TI (by simp) _ G,⟨p,q,k TO (by simp) _ L⟩,ZS.fx J (λo e=>k i1 (by simp) o e),ZS.fx M (λo e=>k i2 (by simp) o e)⟩
 item:=by
  intro X hP hw hK d i B s σ H E I g ⟨C,G,⟨p,q,L⟩,J,M⟩ hg;subst hP hw hK;obtain⟨Q,O,la,lb⟩:=hg;have hh:X.A.in1.handled=none:=I.ok.hd d;obtain⟨a1,S,S1,l⟩:=a.sub I Q ra X.A.in1 hh i1;obtain⟨a3,N,S2,j⟩:=b.sub I O rb X.A.in1 hh i2;obtain⟨x,hx⟩:∃x,a.items[i]?=some x:=⟨_,aak la⟩
  obtain⟨y,hy⟩:∃y,b.items[i]?=some y:=⟨_,aak lb⟩
  have D:ZApart z TI TO i1 i2 a.sl b.sl:=⟨R.TIz,R.TOz,R.i1z,R.i2z,R.TITO,R.TIi1,R.TIi2,R.TOi1,R.TOi2,R.i12,
   λc d=>⟨aO I (g z (by simp)) l c d,aO I (g TO (by simp)) l c d,aO I (g i1 (by simp)) l c d,aO I (g i2 (by simp)) l c d⟩,
   λc d=>⟨aO I (g z (by simp)) j c d,aO I (g TO (by simp)) j c d,aO I (g i1 (by simp)) j c d,aO I (g i2 (by simp)) j c d⟩⟩
  have fl:∀c∈([z,TI,TO,i1,i2]:List Addr),c<s.heap.objs.size:=λc d=>by
   simp only[aab,aaq,or_false]at d;rcases d with rfl|rfl|rfl|rfl|rfl
   ·exact Heap.lt_size C
   ·exact Heap.lt_size G
   ·exact Heap.lt_size L
   ·obtain⟨o,e,_⟩:=ZS.n7 J;exact Heap.lt_size e
   ·obtain⟨o,e,_⟩:=ZS.n7 M;exact Heap.lt_size e
  refine mJ D S1 S2 C G L J M S N hx hy (λu v h' tk ru rv a8 a4 Y Z hT b0 hk=>?_) (fl i1 (by simp)) (fl i2 (by simp));refine⟨.ref s.heap.objs.size,rfl,?_⟩;refine wpAny_letOwnedTupleGo_zip a8 λt a0 f=>?_;have f:Heap.SameBut z h' t:=f;have k1:∀c o,c ∉ ([z,TI,TO,i1,i2]:List Addr)->s.heap.get? c=some o->t.get? c=some o:=λc o d e=>by simp only[aab,aaq,or_false,not_or]at d;exact f.extBut _ _ d.1 (hk c o d.1 d.2.2.1 d.2.2.2.1 d.2.2.2.2 e)
  have T:H s.heap.objs.size=none:=I.hok.fresh (aae _);have I1:Inv X B σ H { s with heap:=t,toks:=tk }:=I.ft k1 g;have a5:s.heap.objs.size≠z:=abc (fl z (by simp));have U:IsPair t s.heap.objs.size u v:=f.extBut _ _ a5 hT;have I2:Inv X B σ (upd H s.heap.objs.size (.tup [x,y])) { s with heap:=t,toks:=tk }:=by
   refine I.step (g':=s.gens) (d':=s.drawn) (ch:=[z,TI,TO,i1,i2]) (λb hb=>?_) (λb o _ _ d e _=>k1 b o d e) (λb o _ _ d e _=>⟨o.slots,k1 b o d e⟩) (λb o d e n=>?_)
    (λb o d e=>⟨o,k1 b o d e⟩) (λb ys e=>?_) (λb o u e=>?_) (λb ps e=>⟨#[],?_⟩) (λm hm=>?_) (λb o e=>?_) I.bare
   ·obtain⟨f0,f1,f2,f3,f4,f5⟩:=g b hb;exact⟨f3,f1,f4,f5⟩
   ·rw[upd_ne (aat (Heap.lt_size e))];exact n
   ·rw[upd_ne (ao e T)];exact e
   ·rw[upd_ne (ao e T)];exact e
   ·rw[upd_ne (ao e T),e];simp
   ·obtain⟨o,a7,ep,ho,r⟩:=hm;exact⟨o,a7,ep,k1 _ o (λz=>(g _ z).2.1 rfl) ho,r⟩
   ·by_cases hb:b=s.heap.objs.size
    ·subst hb;rw[aD]at e;cases e;exact⟨(by show 2<=sizeLine;decide),[u,v],.cons ru (.cons rv .nil),⟨_,U,rfl,_,rfl,rfl⟩⟩
    ·rw[upd_ne hb]at e;refine(I1.hok b o e).kv (λc v d q=>q) (λc q=>by rw[upd_ne (ao q T)];exact q) λc ys q=>by rw[upd_ne (ao q T)];exact q
  refine⟨.ref s.heap.objs.size,_,I2,rfl,⟨_,x,y,hx,hy,T,rfl,rfl⟩,⟨a0,?_,⟨u,v,f.extBut _ _ R.TOz a4⟩,ZS.fx Y (λo e=>f.extBut _ _ R.i1z e),ZS.fx Z (λo e=>f.extBut _ _ R.i2z e)⟩,λc d=>?_⟩
  ·exact f.extBut _ _ R.TIz (hk _ _ R.TIz R.TITO R.TIi1 R.TIi2 G)
  ·rw[upd_ne (aat (fl c d))];exact(g c d).1
 done:=by
  intro X hP hw hK d i B s σ H E I g ⟨C,G,⟨p,q,L⟩,J,M⟩ hg;subst hP hw hK;obtain⟨Q,O,a2⟩:=hg;have hh:X.A.in1.handled=none:=I.ok.hd d;obtain⟨a1,S,S1,l⟩:=a.sub I Q ra X.A.in1 hh i1;obtain⟨a3,N,S2,j⟩:=b.sub I O rb X.A.in1 hh i2;have D:ZApart z TI TO i1 i2 a.sl b.sl:=⟨R.TIz,R.TOz,R.i1z,R.i2z,R.TITO,R.TIi1,R.TIi2,R.TOi1,R.TOi2,R.i12,
   λc d=>⟨aO I (g z (by simp)) l c d,aO I (g TO (by simp)) l c d,aO I (g i1 (by simp)) l c d,aO I (g i2 (by simp)) l c d⟩,
   λc d=>⟨aO I (g z (by simp)) j c d,aO I (g TO (by simp)) j c d,aO I (g i1 (by simp)) j c d,aO I (g i2 (by simp)) j c d⟩⟩
  refine qM D S1 S2 C G L J M S N a2 λh' tk hk=>⟨rfl,I.ft (λc o d e=>?_) g⟩
  simp only[aab,aaq,or_false,not_or]at d;exact hk c o d.1 d.2.2.1 d.2.2.2.1 d.2.2.2.2 e
 self:=λ_ _ _ _ _ ⟨C,_⟩ h=>wpAny_pyIter_zip C h
theorem gP(m j:Value)(o1 o2:Obj)(c a:Heap->Prop)(n:∀h o,a h->a (h.push o))
  (u:∀(prog:Program) (w:World) (A:Around) (E:Value->Shared->Prop) (s:Shared) (Q:Value->Shared->Prop),c s.heap->Q (.ref s.heap.objs.size) { s with heap:=s.heap.push o1 }->wpAny (model prog w) A (pyIter m) Q E s)
  (t:∀(prog:Program) (w:World) (A:Around) (E:Value->Shared->Prop) (s:Shared) (Q:Value->Shared->Prop),a s.heap->Q (.ref s.heap.objs.size) { s with heap:=s.heap.push o2 }->wpAny (model prog w) A (pyIter j) Q E s):
  Meets (Builtin.«zip.__new__» ⟨[.type "zip",m,j],[]⟩) (λ_ R s=>c s.heap/\a s.heap /\
   R (.ok (.ret (.ref ((((s.heap.push o1).push o2).push { cls:=.type "tuple",data:=.seq #[.ref s.heap.objs.size,.ref (s.heap.push o1).objs.size] }).push { cls:=.type "tuple",data:=.seq #[.none,.none] }).objs.size)))
    { s with heap:=((((s.heap.push o1).push o2).push { cls:=.type "tuple",data:=.seq #[.ref s.heap.objs.size,.ref (s.heap.push o1).objs.size] }).push { cls:=.type "tuple",data:=.seq #[.none,.none] }).push { cls:=.type "zip",data:=.fields #[.none,.bool false,.bool false,.ref ((s.heap.push o1).push o2).objs.size,.ref (((s.heap.push o1).push o2).push { cls:=.type "tuple",data:=.seq #[.ref s.heap.objs.size,.ref (s.heap.push o1).objs.size] }).objs.size] } }):=
 .of_wp λprog w A R s h=>by
  obtain⟨b,g,d,f,e⟩:=s;obtain⟨i,k,h⟩:=h;have p:=sub_zip;have q:∀{A:Around}{E:Value->Shared->Prop}{Q:Value->Shared->Prop},Q (.ref b.objs.size) ⟨b.push o1,g,d,f,e⟩->wpAny (model prog w) A (pyIter m) Q E ⟨b,g,d,f,e⟩:=λl=>u _ _ _ _ ⟨b,g,d,f,e⟩ _ i l;have r:∀{A:Around}{E:Value->Shared->Prop}{Q:Value->Shared->Prop},Q (.ref (b.push o1).objs.size) ⟨(b.push o1).push o2,g,d,f,e⟩->wpAny (model prog w) A (pyIter j) Q E ⟨b.push o1,g,d,f,e⟩:=λl=>t _ _ _ _ ⟨b.push o1,g,d,f,e⟩ _ (n _ _ k) l
  wp_walk using q,r
  exact⟨_,rfl,h⟩
end
section
theorem boot_zip:bootBuiltins "zip"=some (.type "zip"):=by decide +kernel
section
variable{X:Cx}
theorem ZS.iter(a:ZS)(I:Inv X pins σ H s)(f:a.ok X.K H)(e:RelV a.val v):
  ∃b:Heap->Prop,b s.heap/\(∀h o,b h->b (h.push o)) /\
   ∀(prog:Program) (w:World) (A:Around) (E:Value->Shared->Prop) (s:Shared) (Q:Value->Shared->Prop),b s.heap->Q (.ref s.heap.objs.size) { s with heap:=s.heap.push (a.vl v) }->wpAny (model prog w) A (pyIter v) Q E s:=by
 cases a with
 |lst l d=>obtain⟨c,r,p,g⟩:=I.list (show SqL X.K H l d from f);cases e;exact⟨λh=>h.IsList l c.toArray,p.isList,λh o x=>x.push o,λprog w A E s Q h q=>wpAny_pyIter_list h q⟩
 |tup l d=>obtain⟨c,r,p,g⟩:=I.tuple (show SqT X.K H l d from f);cases e;exact⟨λh=>h.IsTuple l c.toArray,p,λh o x=>x.push o,λprog w A E s Q h q=>wpAny_pyIter_tuple h q⟩
 |str z=>obtain⟨t,rfl⟩:=e;exact⟨λ_=>True,trivial,λ_ _ _=>trivial,λprog w A E s Q _ q=>wpAny_pyIter_strU q⟩
theorem ZS.st0(a:ZS)(b:RelV a.val v)(e:h.get? i=some (a.vl v)):a.st v i 0 h:=by
 cases a with
 |lst l c=>cases b;exact⟨_,e,rfl,rfl⟩
 |tup l c=>cases b;exact⟨_,e,rfl,rfl⟩
 |str z=>obtain⟨t,rfl⟩:=b;exact⟨_,e,rfl,rfl⟩
theorem kP(a:ZS)(v:Value):(a.vl v).isFreed=false:=by cases a<;>rfl
def HR(K:Waa)(e:TA):TI:=λf H R=>e f H λd c=>∃a b:ZS,d=[a.val,b.val]/\a.ok K c/\b.ok K c/\R (HQ K a b) c
theorem addNe(h:i≠j):(n+i:Addr)≠n+j:=λe=>h (acx e)
theorem addNe0(h:i≠0):(n+i:Addr)≠n:=λe=>h (acx e)
theorem Bq{es:List Expr}{x1}{j:Pos}{a b:Expr}{p t:Pos} (hg:Gl X "zip") (hm:X.mg "zip"=none) (ha:PA X [a,b] ta) (Z:starEach [a,b] X.env=[(false,eval a X.env),(false,eval b X.env)]:=by rfl) (l:starEach [b] X.env=[(false,eval b X.env)]:=by rfl):
  PI X (.Tuple es x1 j) (.Call (.Name "zip" p) [a,b] [] t) (HR X.K ta):=by
 intro f s U H R I h;refine Call_ (fK I hg hm boot_zip (abw (thn (ha t f s U H _ I h) λus d hZ=>?_) (by rw[Z,l]) (by rw[l];rfl)));obtain⟨vs,S,k,r1,q1⟩:=hZ;obtain⟨i,g,e,C,B,q⟩:=q1;subst e;obtain⟨m,u,rfl,w,y⟩:=r1.two;obtain⟨r,h1,_,p1⟩:=i.iter k C w;obtain⟨v,h2,G,p2⟩:=g.iter k B y;refine callType_new F.called_zip (by decide) (F.typeCall_zip_2 _ _) (F.newCall_zip_2 _ _) (λz=>F.args_object_init_3 z _ _) F.entry_zip_new
  (gP m u (i.vl m) (g.vl u) r v G p1 p2) ⟨h1,h2,?_⟩
 generalize hA:d.heap.push (i.vl m)=A1;generalize hB:A1.push (g.vl u)=A2;generalize hC:A2.push { cls:=.type "tuple",data:=.seq #[.ref d.heap.objs.size,.ref A1.objs.size] }=A3;generalize hD:A3.push { cls:=.type "tuple",data:=.seq #[.none,.none] }=A4;generalize hE:A4.push { cls:=.type "zip",data:=.fields #[.none,.bool false,.bool false,.ref A2.objs.size,.ref A3.objs.size] }=A5;have x:A1.objs.size=d.heap.objs.size+1:=by rw[<-hA];exact Heap.size_push ..
 have D:A2.objs.size=d.heap.objs.size+2:=by rw[<-hB,Heap.size_push,x]
 have A:A3.objs.size=d.heap.objs.size+3:=by rw[<-hC,Heap.size_push,D]
 have Q:A4.objs.size=d.heap.objs.size+4:=by rw[<-hD,Heap.size_push,A]
 have Y:A5.get? A4.objs.size=some { cls:=.type "zip",data:=.fields #[.none,.bool false,.bool false,.ref A2.objs.size,.ref A3.objs.size] }:=by rw[<-hE];exact Heap.get?_push_size _ rfl
 have L:∀c o,A4.get? c=some o->A5.get? c=some o:=λc o e=>by rw[<-hE];exact Heap.get?_push_of_some _ e
 have O:∀c o,A3.get? c=some o->A5.get? c=some o:=λc o e=>L c o (by rw[<-hD];exact Heap.get?_push_of_some _ e);have T:∀c o,A2.get? c=some o->A5.get? c=some o:=λc o e=>O c o (by rw[<-hC];exact Heap.get?_push_of_some _ e);have J:∀c o,A1.get? c=some o->A5.get? c=some o:=λc o e=>T c o (by rw[<-hB];exact Heap.get?_push_of_some _ e);have u1:∀c o,d.heap.get? c=some o->A5.get? c=some o:=λc o e=>J c o (by rw[<-hA];exact Heap.get?_push_of_some _ e);have g4:A5.get? A3.objs.size=some { cls:=.type "tuple",data:=.seq #[.none,.none] }:=L _ _ (by rw[<-hD];exact Heap.get?_push_size _ rfl);have g3:A5.get? A2.objs.size=some { cls:=.type "tuple",data:=.seq #[.ref d.heap.objs.size,.ref A1.objs.size] }:=O _ _ (by rw[<-hC];exact Heap.get?_push_size _ rfl);have g2:A5.get? A1.objs.size=some (g.vl u):=T _ _ (by rw[<-hB];exact Heap.get?_push_size _ (kP _ _));have g1:A5.get? d.heap.objs.size=some (i.vl m):=J _ _ (by rw[<-hA];exact Heap.get?_push_size _ (kP _ _));refine⟨⟨_,Y,rfl⟩,?_⟩;have N:IsZip A5 A4.objs.size A2.objs.size A3.objs.size .none:=Y;refine wpAny_pyIter_zip N ?_;have R:ZRec A4.objs.size A2.objs.size A3.objs.size d.heap.objs.size A1.objs.size:=by rw[x,D,A,Q];refine⟨?_,?_,?_,?_,?_,?_,?_,?_,?_,?_⟩<;>first|exact addNe (by decide)|exact addNe0 (by decide)|exact(addNe0 (by decide)).symm
 have I5:Inv X f U S { d with heap:=A5 }:=k.kept u1;refine⟨A4.objs.size,[A4.objs.size,A2.objs.size,A3.objs.size,d.heap.objs.size,A1.objs.size],_,_,S,rfl,I5,sU i g m u w y _ _ _ _ _ R,
  ⟨N,g3,⟨_,_,g4⟩,i.st0 w g1,g.st0 y g2⟩,λb M=>?_,q⟩
 have n:d.heap.objs.size<=b:=by simp only[aab,aaq,or_false]at M;rcases M with rfl|rfl|rfl|rfl|rfl<;>first|exact aae _|(rw[Q];exact abB _ _)|(rw[A];exact abB _ _)|(rw[D];exact abB _ _)|(rw[x];exact abB _ _)
 exact k.rd n (k.hok.fresh n)
end
section
variable{X:Cx}
theorem xk:∀{us:List Value},Vals (a.map V.bl) us->LSm.BoolsAre us a:=by
 induction a with
 |nil=>intro us r;rw[aaA]at r;cases r;exact .nil
 |cons b a e=>
  intro us r;rw[aao]at r;cases r with
  |cons c d=>cases c;exact .cons b (e d)
end
end
section
mutual
inductive Dt (K:Waa)(H:Hp):V->PyData->Prop
 |non:Dt K H .non .none
 |bl (b:Bool):Dt K H (.bl b) (.bool b)
 |int (i:Int):Dt K H (.int i) (.int i)
 |str (x:Str):Dt K H (.str x) (.str x)
 |lst {a xs ds}:SqL K H a xs->DtAll K H xs ds->Dt K H (.ref a) (.list ds)
 |tup {a xs ds}:SqT K H a xs->DtAll K H xs ds->Dt K H (.ref a) (.tuple ds)
inductive DtAll (K:Waa)(H:Hp):List V->List PyData->Prop
 |nil:DtAll K H [] []
 |cons {x d xs ds}:Dt K H x d->DtAll K H xs ds->DtAll K H (x::xs) (d::ds)
end
theorem DtAll.length{K:Waa}(h:DtAll K H xs ds):xs.length=ds.length:=by
 induction xs generalizing ds with
 |nil=>cases h;rfl
 |cons v b a=>cases h with|cons _ t=>rw[aap,aap,a t]
theorem DtAll.ints{K:Waa}:∀(ns:List Int),DtAll K H (ns.map V.int) (ns.map PyData.int)
 |[]=>.nil
 |n::ns=>.cons (.int n) (DtAll.ints ns)
theorem Same.tupS{K:Waa}{H b:Hp}(e:Same H b)(h:SqT K H a xs):SqT K b a xs:=by
 rcases h with (h|⟨o,h⟩)|h
 ·exact .inl (.inl (e _ _ h))
 ·exact .inl (.inr ⟨o,e _ _ h⟩)
 ·exact .inr h
theorem Dt.ind{K:Waa}{P:V->PyData->Prop}{Q:List V->List PyData->Prop}(g:P .non .none)(l:∀b,P (.bl b) (.bool b))(e:∀i,P (.int i) (.int i))(k:∀x,P (.str x) (.str x))
  (c:∀{a xs ds},SqL K H a xs->Q xs ds->P (.ref a) (.list ds)) (f:∀{a xs ds},SqT K H a xs->Q xs ds->P (.ref a) (.tuple ds)) (nil:Q [] []) (cons:∀{x d xs ds},P x d->Q xs ds->Q (x::xs) (d::ds)):
  (∀{v d},Dt K H v d->P v d)/\∀{vs ds},DtAll K H vs ds->Q vs ds:=
 ⟨λh=>Dt.rec g l e k (λh _ i=>c h i) (λh _ i=>f h i) nil (λ_ _ i j=>cons i j) h,
  λh=>DtAll.rec g l e k (λh _ i=>c h i) (λh _ i=>f h i) nil (λ_ _ i j=>cons i j) h⟩
section
variable{X:Cx}{pins:List (Addr×Obj)}{σ:St}{H:Hp}{s:Shared}
theorem Dt.reads_(I:Inv X pins σ H s):(∀{x:V}{d:PyData},Dt X.K H x d->∀{u:Value},RelV x u->∃c,Reads s.heap u d c)/\∀{xs:List V}{ds:List PyData},DtAll X.K H xs ds->∀{us:List Value},Vals xs us->∃c,ReadsAll s.heap us ds c:=by
 refine Dt.ind (P:=λx d=>∀{u:Value},RelV x u->∃c,Reads s.heap u d c) ?_ ?_ ?_ ?_ ?_ ?_ ?_ ?_
 ·intro u r;cases r;exact⟨_,.none⟩
 ·intro b u r;cases r;exact⟨_,.bool b⟩
 ·intro i u r;obtain⟨t,rfl⟩:=r;exact⟨_,.int i t⟩
 ·intro x u r;obtain⟨t,rfl⟩:=r;exact⟨_,.str x t⟩
 ·intro a xs ds h i u r;cases r;obtain⟨g,k,⟨o,n,e,f,_,l⟩,_⟩:=I.list h;obtain⟨c,q⟩:=i k;exact⟨_,.list e f l (by simpa using q)⟩
 ·intro a xs ds h i u r;cases r;obtain⟨g,k,⟨o,e,f,n,l⟩,_⟩:=I.tuple h;obtain⟨c,q⟩:=i k;exact⟨_,.tuple e f l (by simpa using q)⟩
 ·intro us r;cases r;exact⟨_,.nil⟩
 ·intro x d xs ds i j us r;cases r with
  |cons v m=>obtain⟨c,q⟩:=i v;obtain⟨w,p⟩:=j m;exact⟨_,.cons q p⟩
theorem Dt.reads(I:Inv X pins σ H s)(h:Dt X.K H x d)(r:RelV x u):∃a,Reads s.heap u d a:=(Dt.reads_ I).1 h r
end
mutual
theorem eqv_refl:∀(d:PyData),d.canLay0=true->PyData.eqv d d=true
 |.none,_=>by simp[PyData.eqv]
 |.bool b,_=>by simp[PyData.eqv]
 |.int i,_=>by simp[PyData.eqv]
 |.str x,_=>by simp[PyData.eqv]
 |.list xs,h=>by simp only[PyData.eqv];exact eqvAll_refl xs (by simpa[PyData.canLay0] using h)
 |.tuple xs,h=>by simp only[PyData.eqv];exact eqvAll_refl xs (by simpa[PyData.canLay0] using h)
 |.dict _,h=>by simp[PyData.canLay0]at h
theorem eqvAll_refl:∀(ds:List PyData),PyData.canLayAll0 ds=true->PyData.eqvAll ds ds=true
 |[],_=>by simp[PyData.eqvAll]
 |d::ds,h=>by simp only[PyData.canLayAll0,aaF]at h;simp only[PyData.eqvAll,aaF];exact⟨eqv_refl d h.1,eqvAll_refl ds h.2⟩
end
section
variable{X:Cx}
def Ey(K:Waa):R2:=λx y H Q=>∃a b,Dt K H x a/\Dt K H y b/\SeqAt.shaped a=true/\SeqAt.shaped b=true/\Q (.bl (PyData.eqv a b)) H
def Ez(K:Waa):R2:=λx y H Q=>∃a b,Dt K H x a/\Dt K H y b/\SeqAt.shaped a=true/\SeqAt.shaped b=true/\Q (.bl (!PyData.eqv a b)) H
theorem Br(k:X.A.units+64<cLine):OpR X (compareOp .Eq) (Ey X.K):=by intro a s m H x y v u Q I g e h;obtain⟨p,o,b,c,i,f,q⟩:=h;obtain⟨n,j⟩:=b.reads I g;obtain⟨l,d⟩:=c.reads I e;exact eq_dataH j d i f k ⟨.bl _,H,I,rfl,q⟩
theorem Bt(k:X.A.units+64<cLine):OpR X (compareOp .NotEq) (Ez X.K):=by intro a s m H x y v u Q I g e h;obtain⟨p,o,b,c,i,f,q⟩:=h;obtain⟨n,j⟩:=b.reads I g;obtain⟨l,d⟩:=c.reads I e;exact ne_dataH j d i f k ⟨.bl _,H,I,rfl,q⟩
end
end
section
section
variable{X:Cx}{pos:Pos}
def EA(i j k:Nat)(c:TA):TS:=λD a H=>c a H λb d=>∃v w u,b=[v,w,u]/\D.nx (((a.set i (some v)).set j (some w)).set k (some u)) d
theorem xl{M Q f}(hc:X.calm=true)(T:X.N.Nodup)(hi:X.N[i]?=some x)(hj:X.N[j]?=some y)(hk:X.N[k]?=some z)(t:i≠j)(L:i≠k)(O:j≠k)
  (hx:X.env.scope.names.lookup x=some .local) (Z:X.env.scope.names.lookup y=some .local) (U:X.env.scope.names.lookup z=some .local) (ha:PA X [a,b,c] ta)
  (hw:swappedStores [.Tuple [.Name x px,.Name y py,.Name z pz] M pt] (.Tuple [a,b,c] Q f) X.env=pure (some [x,y,z]))
  (hs:swapsWithSole [.Tuple [.Name x px,.Name y py,.Name z pz] M pt] (.Tuple [a,b,c] Q f) pos.line X.env=pure false:=by rfl):
  PS X (.Assign [.Tuple [.Name x px,.Name y py,.Name z pz] M pt] (.Tuple [a,b,c] Q f) pos) (EA i j k ta):=by
 intro d s r H D I h;rw[exec_Assign_arm];refine wpAny_bind (wpAny_standAt ?_);rw[hs];refine wpAny_bind (wpAny_pure ?_);rw[if_neg (by decide)];refine wpAny_bind (Tuple_ (thn (ha _ d s r H _ I h) λus n ⟨vs,Y,I1,r1,J⟩=>?_));obtain⟨v,w,u,e1,J⟩:=J;subst e1;obtain⟨m,g,l,rfl,rv,G,ru⟩:∃m g l,us=[m,g,l]/\RelV v m/\RelV w g/\RelV u l:=by
  cases r1 with
  |cons p q=>
   cases q with
   |cons p' q'=>
    cases q' with
    |cons S B=>cases B;exact⟨_,_,_,rfl,p,p',S⟩
 refine wpAny_newObj_type ?_ (by show 3<=sizeLine;decide);have I2:Inv X d r Y { n with heap:=n.heap.push { cls:=.type "tuple",data:=.seq [m,g,l].toArray } }:=I1.kept λb o e=>Heap.get?_push_of_some _ e;rw[hw];refine wpAny_bind (wpAny_pure ?_);show wpAny (model X.prog X.w) X.A (do rule "assign.swapped-stores";let items <-unpackItems (.ref n.heap.objs.size) 3 none;assignInOrder [λv=>bindName X.env z v,λv=>bindName X.env y v,λv=>bindName X.env x v] items.reverse;pure Flow.next) _ _ _;refine wpAny_bind (wpAny_rule (wpAny_bind (unpackItems_tuple (items:=#[m,g,l]) (I.ok.hd hc) (IsTup.new n.heap _) λh' C=>?_)));have I3:=I2.kept (t':=n.toks) λb o e=>C b o (aat (Heap.lt_size e)) e;show wpAny _ _ (assignInOrder [λv=>bindName X.env z v,λv=>bindName X.env y v,λv=>bindName X.env x v] [l,g,m] >>= λ_=>pure Flow.next) _ _ _;refine wpAny_bind (assignInOrder_cons (wpAny_bindName (bV I3 T hk (.inl U) ru (λs2 I4=>?_) (.inr U))));refine assignInOrder_cons (wpAny_bindName (bV I4 T hj (.inl Z) G (λs3 I5=>?_) (.inr Z)));refine assignInOrder_cons (wpAny_bindName (bV I5 T hi (.inl hx) rv (λs4 I6=>assignInOrder_nil (wpAny_pure ?_)) (.inr hx)));have e:((r.set k (some u)).set j (some w)).set i (some v)=((r.set i (some v)).set j (some w)).set k (some u):=by rw[abP _ _ (aaN t),abP _ _ (aaN L),abP _ _ (aaN O)]
 rw[e]at I6;exact⟨_,Y,I6,J⟩
end
def Keep(S:List Addr)(H a:Hp):Prop:=∀b o,H b=some o->b ∉ S->a b=some o
theorem Keep.same(a:Keep [] H H'):Same H H':=λb o h=>a b o h (by simp)
end
section
theorem mK:bootBuiltins "len"=some (.builtin "len"):=by decide +kernel
theorem Bu:bootBuiltins "abs"=some (.builtin "abs"):=by decide +kernel
theorem Bv:bootBuiltins "max"=some (.builtin "max"):=by decide +kernel
theorem Bw:bootBuiltins "min"=some (.builtin "min"):=by decide +kernel
theorem By:bootBuiltins "int"=some (.type "int"):=by decide +kernel
theorem sV:bootBuiltins "tuple"=some (.type "tuple"):=by decide +kernel
section
variable{H:Hp}{Q:VK}{K:Waa}{x y v:V}{i j:Int}{p l:Addr}{xs:List V}
theorem mL(h:n<=1000000):n<=sizeLine:=aar h (by decide)
end
end
section
section
variable{κ:Type}[DecidableEq κ]
def valV(a:List (κ×V))(k:κ):Option V:=(a.find? λb=>decide (b.1=k)).map (·.2)
def putK(a:List (κ×V))(k:κ)(v:V):List (κ×V):=
 if (a.any λb=>decide (b.1=k))=true then a.map (λb=>if b.1=k then (b.1,v) else b) else a++[(k,v)]
theorem dm{k:κ}(e:p.1=k):valV (p::r) k=some p.2:=by simp[valV,aaV,e]
theorem gR{k:κ}(e:¬ p.1=k):valV (p::r) k=valV r k:=by simp[valV,aaV,e]
theorem gS(k:κ):∀a:List (κ×V),(a.any λb=>decide (b.1=k))=(valV a k).isSome
 |[]=>rfl
 |p::r=>by
  rw[aa5];by_cases e:p.1=k
  ·simp only[dm e,Dac e,Bool.true_or,Option.isSome_some]
  ·rw[gR e,Dab e,Bool.false_or];exact gS k r
theorem dq(a:List (κ×V))(k:κ)(v:V):(putK a k v).length<=a.length+1:=by
 unfold putK;split
 ·rw[aaa];omega
 ·rw[aad,aap,abn];omega
theorem putK_new{k:κ}(v:V)(h:valV kvs k=none):putK kvs k v=kvs++[(k,v)]:=by unfold putK;rw[gS,h];exact if_neg (by decide)
theorem RelO.ej(r:RelO o u):o.isSome=u.isSome:=by
 cases o with
 |none=>cases u with
  |none=>rfl
  |some _=>exact(show False from r).elim
 |some _=>cases u with
  |none=>exact(show False from r).elim
  |some _=>rfl
theorem RelO.getD(r:RelO o u)(a:RelV d d'):RelV (o.getD d) (u.getD d'):=by
 cases o with
 |none=>cases u with
  |none=>exact a
  |some _=>exact(show False from r).elim
 |some _=>cases u with
  |none=>exact(show False from r).elim
  |some _=>exact r
theorem KV.val(r:KV kvs vs)(k:κ):RelO (valV kvs k) (valueAt vs k):=by
 unfold KV at r;induction r with
 |nil=>exact True.intro
 |@cons p q ps qs h t ih=>
  obtain⟨c,d⟩:=h;by_cases e:p.1=k
  ·have a:q.1=k:=c.symm.trans e;have b:valueAt (q::qs) k=some q.2:=by simp[valueAt,aaV,a]
   rw[dm e,b];exact d
  ·have a:¬ q.1=k:=λz=>e (c.trans z);have b:valueAt (q::qs) k=valueAt qs k:=by simp[valueAt,aaV,a]
   rw[gR e,b];exact ih
theorem KV.any{vs:List (κ×Value)}(r:KV kvs vs)(k:κ):(kvs.any λa=>decide (a.1=k))=vs.any λa=>decide (a.1=k):=by
 unfold KV at r;induction r with
 |nil=>rfl
 |cons h t b=>rw[aa5,aa5,b,h.1]
theorem KV.repl(r:KV kvs vs)(k:κ)(c:RelV y u):
  KV (kvs.map λa=>if a.1=k then (a.1,y) else a) (vs.map λa=>if a.1=k then (a.1,u) else a):=by
 unfold KV at r ⊢;induction r with
 |nil=>exact .nil
 |@cons p q ps qs h t ih=>
  rw[aao,aao];refine .cons ?_ ih;obtain⟨b,d⟩:=h;by_cases e:p.1=k
  ·rw[if_pos e,if_pos (b.symm.trans e)];exact⟨b,c⟩
  ·rw[if_neg e,if_neg (λz=>e (b.trans z))];exact⟨b,d⟩
theorem KV.put(r:KV kvs vs)(k:κ)(a:RelV y u):KV (putK kvs k y) (stored vs k u):=by
 unfold putK stored;rw[r.any k];by_cases e:(vs.any λb=>decide (b.1=k))=true
 ·rw[if_pos e,if_pos e];exact r.repl k a
 ·rw[if_neg e,if_neg e];exact Paired.snoc r ⟨rfl,a⟩
theorem KV.length{vs:List (κ×Value)}(r:KV kvs vs):kvs.length=vs.length:=Paired.length r
end
theorem gT(r:RelV (kV k) u):(aV P w).is k u=true:=by
 cases k with
 |inl i=>obtain⟨t,e⟩:=(show ∃t,u=Value.int i t from r);subst e;exact kB P w i t
 |inr x=>obtain⟨t,e⟩:=(show ∃t,u=Value.str x t from r);subst e;exact mixKind_str P w x t
theorem i4:∀{ks:List Key}{us:List Value},Vals (ks.map kV) us->ItemsAre (aV P w) ks us
 |[],_,r=>by rw[aaA]at r;cases r;exact .nil
 |k::ks,_,r=>by
  rw[aao]at r;cases r with
  |cons h t=>exact .cons (gT h) (i4 t)
abbrev KT(H:Hp):List (List Key×V)->List (List Key×Addr×Value)->Prop:=Paired λp q=>p.1=q.1/\H q.2.1=some (.tup (p.1.map kV))/\RelV p.2 q.2.2
theorem KT.val(r:KT H kvs xs)(k:List Key):RelO (valV kvs k) ((atKey xs k).map (·.2)):=by
 induction r with
 |nil=>exact True.intro
 |@cons p q ps qs h t ih=>
  obtain⟨c,_,d⟩:=h;by_cases e:p.1=k
  ·have a:q.1=k:=c.symm.trans e;have b:atKey (q::qs) k=some q.2:=by simp[atKey,aaV,a]
   rw[dm e,b];exact d
  ·have a:¬ q.1=k:=λz=>e (c.trans z);have b:atKey (q::qs) k=atKey qs k:=by simp[atKey,aaV,a]
   rw[gR e,b];exact ih
theorem KT.repl(r:KT H kvs xs)(k:List Key)(d:RelV y u):
  KT H (kvs.map λb=>if b.1=k then (b.1,y) else b) (xs.map (putAt k u)):=by
 induction r with
 |nil=>exact .nil
 |@cons p q ps qs h t ih=>
  rw[aao,aao];refine .cons ?_ ih;obtain⟨a,c,f⟩:=h;unfold putAt;by_cases e:p.1=k
  ·rw[if_pos e,if_pos (a.symm.trans e)];exact⟨a,c,d⟩
  ·rw[if_neg e,if_neg (λz=>e (a.trans z))];exact⟨a,c,f⟩
theorem KT.put(r:KT H kvs xs)(k:List Key)(d:H b=some (.tup (k.map kV)))(a:RelV y u):
  KT H (putK kvs k y) (storedH xs k b u):=by
 have e:(kvs.any λc=>decide (c.1=k))=(atKey xs k).isSome:=by rw[gS,(r.val k).ej,aca]
 unfold putK storedH;rw[e];by_cases q:(atKey xs k).isSome=true
 ·rw[if_pos q,if_pos q];exact r.repl k a
 ·rw[if_neg q,if_neg q];exact Paired.snoc r ⟨rfl,d,a⟩
theorem KT.keeps(r:KT H kvs xs)(a:∀b ys,H b=some (.tup ys)->H' b=some (.tup ys)):KT H' kvs xs:=
 Paired.mapP r λ_ _ z=>⟨z.1,a _ _ z.2.1,z.2.2⟩
section
variable{P:Program}{w:World}{H:Hp}{h:Heap}{a:Addr}
theorem zJ(b:HOk P w H h)(e:Rd H a u):ObjOk P w H h a u:=e.ok b
theorem gU(b:HOk P w H h)(e:Rd H a (.dK kvs)):kvs.length<=sizeLine/\(a==sysModules)=false/\∃vs,KV kvs vs/\h.DictOf (aV P w) a vs:=
 show ObjOk P w H h a (.dK kvs) from zJ b e
theorem zK(b:HOk P w H h)(e:H a=some (.dK kvs)):kvs.length<=sizeLine/\(a==sysModules)=false/\∃vs,KV kvs vs/\h.DictOf (aV P w) a vs:=gU b (.inl e)
theorem fN(d:HOk P w H h)(e:H a=some (.tup (ks.map kV))):(tupleKind (aV P w)).is h ks a:=by
 obtain⟨_,b,r,o,f,c,n,g⟩:=(show ObjOk P w H h a (.tup (ks.map kV)) from d a _ e)
 exact⟨o,b.toArray,n,f,c,g.1,by simpa using i4 r⟩
theorem gV(d:HOk P w H h)(e:Rd H a (.dT kvs)):kvs.length<=sizeLine/\(a==sysModules)=false /\
  ∃xs,KT H kvs xs/\h.DictOfH (tupleKind (aV P w)) a xs:=by
 obtain⟨z,y,xs,r,o,f,k,n,g,j,i,s⟩:=(show ObjOk P w H h a (.dT kvs) from zJ d e)
 refine⟨z,y,xs,r,o,f,k,n,g,j,i,λx b=>?_,s⟩;have c:∀{l:List (List Key×V)}{m:List (List Key×Addr×Value)},KT H l m->∀x∈m,(tupleKind (aV P w)).is h x.1 x.2.1:=by
  intro l m q;induction q with
  |nil=>intro x b;exact nomatch b
  |@cons p q ps qs hq t ih=>
   intro x b;rcases aab.mp b with e|b
   ·subst e;exact fN d (by rw[<-hq.1];exact hq.2.1)
   ·exact ih x b
 exact c r x b
theorem EB(b:HOk P w H h)(e:H a=some (.dT kvs)):kvs.length<=sizeLine/\(a==sysModules)=false /\
  ∃xs,KT H kvs xs/\h.DictOfH (tupleKind (aV P w)) a xs:=gV b (.inl e)
end
def DGet(H:Hp)(a:Addr)(y:V)(r:Option V):Prop:=
 (∃c k,Rd H a (.dK c)/\y=kV k/\r=valV c k)\/∃c k b,Rd H a (.dT c)/\y=.ref b/\H b=some (.tup (k.map kV))/\r=valV c k
def DPut(H:Hp)(a:Addr)(y v:V)(d:Hp):Prop:=
 (∃c k,H a=some (.dK c)/\y=kV k/\c.length<sizeLine/\d=upd H a (.dK (putK c k v))) \/
 ∃c k b,H a=some (.dT c)/\y=.ref b/\H b=some (.tup (k.map kV))/\c.length<sizeLine/\d=upd H a (.dT (putK c k v))
theorem DGet.k{H:Hp}{a:Addr}{b:List (Key×V)}{k:Key}(e:H a=some (.dK b)):DGet H a (kV k) (valV b k):=.inl ⟨b,k,.inl e,rfl,rfl⟩
theorem DPut.k{H:Hp}{a:Addr}{b:List (Key×V)}{k:Key}{v:V}(e:H a=some (.dK b))(c:b.length<sizeLine):DPut H a (kV k) v (upd H a (.dK (putK b k v))):=.inl ⟨b,k,e,rfl,c,rfl⟩
section
variable{X:Cx}{pins:List (Addr×Obj)}{σ:St}{H:Hp}{s:Shared}{a:Addr}{y v:V}{u r:Value}{o:Option V}{A:Around}{E:Value->Shared->Prop}
theorem Inv.big(I:Inv X pins σ H s):sysModules<s.heap.objs.size:=by have h:mainGlobals<s.heap.objs.size:=(I.mod.glob.keeps I.bk).lt;exact abR (by decide) h
theorem qN(G:A.units+1<cLine)(I:Inv X pins σ H s)(g:DGet H a y (some v))(t:RelV y u)(h:∀f x,Inv X pins σ H x->RelV v f->Q f x):
  wpAny (model X.prog X.w) A (getItem (.ref a) u) Q E s:=by
 rcases g with ⟨n,k,e,i,l⟩|⟨n,k,b,e,i,C,l⟩
 ·subst i;obtain⟨z,D,L,d,m⟩:=gU I.hok e;obtain⟨f,j,c⟩:=RelO.some_of (by rw[l];exact d.val k);exact wpAny_getItem_of (gT t) m.mapOf j (h f _ (I.tok _) c)
 ·subst i;cases (show u=Value.ref b from t);obtain⟨z,D,J,d,m⟩:=gV I.hok e;obtain⟨f,j,c⟩:=RelO.some_of (by rw[l];exact d.val k);obtain⟨p,B,q⟩:=aaQ.mp j;refine wpAny_getItem_heap (tupleKind_room_in1 G) (fN I.hok C) m B ?_;rw[q];exact h f _ (I.tok _) c
theorem HS(t:A.units+1<cLine)(I:Inv X pins σ H s)(g:DGet H a y o)(m:RelV y u)(h:∀n,Inv X pins σ H n->Q (.bool o.isSome) n):
  wpAny (model X.prog X.w) A (compareOp .In u (.ref a)) Q E s:=by
 rcases g with ⟨i,k,e,d,l⟩|⟨i,k,b,e,d,p,l⟩
 ·subst d;obtain⟨z,j,B,c,f⟩:=gU I.hok e;refine wpAny_in_of (gT m) j f.mapOf ?_;rw[<-(c.val k).ej,<-l];exact h _ (I.tok _)
 ·subst d;cases (show u=Value.ref b from m);obtain⟨z,j,x,c,f⟩:=gV I.hok e;refine wpAny_in_heap (tupleKind_room_in1 t) (fN I.hok p) j f ?_;have q:=(c.val k).ej;rw[aca]at q;rw[<-q,<-l];exact h _ (I.tok _)
theorem xm(t:A.units+1<cLine)(I:Inv X pins σ H s)(g:DGet H a y o)(m:RelV y u)(h:∀n,Inv X pins σ H n->Q (.bool (!o.isSome)) n):
  wpAny (model X.prog X.w) A (compareOp .NotIn u (.ref a)) Q E s:=by
 rcases g with ⟨i,k,e,d,l⟩|⟨i,k,b,e,d,p,l⟩
 ·subst d;obtain⟨z,j,B,c,f⟩:=gU I.hok e;refine wpAny_notIn_of (gT m) j f.mapOf ?_;rw[<-(c.val k).ej,<-l];exact h _ (I.tok _)
 ·subst d;cases (show u=Value.ref b from m);obtain⟨z,j,x,c,f⟩:=gV I.hok e;refine wpAny_notIn_heap (tupleKind_room_in1 t) (fN I.hok p) j f ?_;have q:=(c.val k).ej;rw[aca]at q;rw[<-q,<-l];exact h _ (I.tok _)
theorem jD{t':Nat}(I:Inv X pins σ H s)(f:D1 (H a))(d:Heap.SameBut a s.heap h')(g:∃q,h'.get? a=some q)(c:ObjOk X.prog X.w (upd H a ob) h' a ob):
  Inv X pins σ (upd H a ob) { s with heap:=h',toks:=t' }:=
 I.write f (.inl rfl) (λb q e z=>(d.2 b e).trans z) g c
theorem sW(z:kvs.length<=sizeLine)(c:(a==sysModules)=false)(b:KV kvs vs)(dd:h'.DictOf (aV P w) a vs):
  ObjOk P w H' h' a (.dK kvs):=⟨z,c,vs,b,dd⟩
theorem qO(hu:A.units+1<cLine)(I:Inv X pins σ H s)(g:DPut H a y v H')(D:RelV y u)(M:RelV v r)(h:∀G,Inv X pins σ H' G->Q () G):
  wpAny (model X.prog X.w) A (setItem (.ref a) u r) Q E s:=by
 rcases g with ⟨d,k,e,m,l,p⟩|⟨d,k,b,e,m,C,l,p⟩
 ·subst m p;obtain⟨z,B,Y,f,t⟩:=zK I.hok e;have T:Y.length<=sizeLine:=by rw[<-f.length];exact z
  have x:(putK d k v).length<=sizeLine:=by have:=dq d k v;omega
  refine wpAny_setItem_pairs (gT D) t λJ i n=>h _ ?_;have U:∃q,J.get? a=some q:=let ⟨q,_,_,j,_⟩:=i;⟨q,j⟩
  exact jD I (by rw[e];exact True.intro) n U (sW x B (f.put k M) i)
 ·subst m p;cases (show u=Value.ref b from D);obtain⟨z,B,N,f,t⟩:=EB I.hok e;have T:N.length<=sizeLine:=by rw[<-Paired.length f];exact z
  have x:(putK d k v).length<=sizeLine:=by have:=dq d k v;omega
  refine wpAny_setItem_heap (tupleKind_room_in1 hu) (fN I.hok C) t λJ i n=>h _ ?_;obtain⟨q,O,ep,j,S,h3,Z,_,h5⟩:=i;refine jD I (by rw[e];exact True.intro) n ⟨q,j⟩ ⟨x,B,_,(f.put k C M).keeps λc ys L=>?_,q,O,ep,j,S,h3,Z,h5⟩;rw[upd_ne (D0 L e (λz=>nomatch z))];exact L
end
def NoSl(i:Expr):Prop:=∀a b,subscripted i false a b=operate [a,b] (getItem a b)
theorem subD_of{T m:String}
  (l:typeLookup (.type T) "__getitem__"=pure (some (.builtin m))) (k:NoSl slice)
  (h:wpAny (model prog w) A (eval value env) (λo c=>wpAny (model prog w) A (eval slice env) (λi a=>a.TypeIs o T/\wpAny (model prog w) A (getItem o i) Q E a) E c) E s):
  wpAny (model prog w) A (eval (.Subscript value slice pos) env) Q E s:=by
 refine Subscript_ (wpAny_mono h (λo c f=>wpAny_mono f (λi a b=>?_) λ_ _ x=>x) λ_ _ x=>x);obtain⟨j,b⟩:=b;unfold subscriptTail;refine wpAny_bind ?_;rw[getitemInPython_of_ne j.not_modules];refine wpAny_bind (wpAny_specialOf j l ?_);have e:wpAny (model prog w) A (subscripted slice false o i) (λr d=>wpAny (model prog w) A (letTemporaryGo value o r >>= λ_=>pure r) Q E d) E a:=by rw[k o i];exact wpAny_operating (wpAny_mono b (λr d g=>wpAny_bind (wpAny_letTemporaryGo (wpAny_pure g))) λ_ _ x=>x)
 first
  |exact wpAny_pure (wpAny_bind e)
  |exact wpAny_bind (wpAny_pure (wpAny_bind e))
  |exact wpAny_bind e
theorem kQ(I:Inv X pins σ H s)(g:DGet H a y o):s.TypeIs (.ref a) "dict":=by
 rcases g with ⟨d,k,e,_,_⟩|⟨d,k,b,e,_,_,_⟩
 ·obtain⟨_,_,f,_,c⟩:=gU I.hok e;exact c.typeIs
 ·obtain⟨_,_,h,_,c⟩:=gV I.hok e;exact c.typeIs
def EC(e d:TE):TE:=λc H Q=>e c H λx f=>d c f λy b=>∃a v,x=.ref a/\DGet b a y (some v)/\Q v b
def ED(d e:TE):TE:=λc H Q=>d c H λy f=>e c f λx b=>∃a o,x=.ref a/\DGet b a y o/\Q (.bl o.isSome) b
def oh(d e:TE):TE:=λc H Q=>d c H λy f=>e c f λx b=>∃a o,x=.ref a/\DGet b a y o/\Q (.bl (!o.isSome)) b
def EE(f d i:TE):TS:=λD b H=>i b H λv g=>f b g λx e=>d b e λy h=>∃a c,x=.ref a/\DPut h a y v c/\D.nx b c
section
variable{X:Cx}{o i e value:Expr}{pos pos' tpos:Pos}{td ty tv:TE}
theorem xo(C:X.A.units+1<cLine)(D:PE X o td)(p:PE X i ty)(k:NoSl i):PE X (.Subscript o i pos) (EC td ty):=by intro b s f H Q I h;refine subD_of PySem.F.slot_dict_getitem.lookup k (thn (D b s f H _ I h) λu j ⟨x,n,l,B,r⟩=>thn (p b j f n _ l r) λJ M t=>?_);obtain⟨y,m,d,q,a,v,G,g,z⟩:=t;subst G;obtain rfl:u=Value.ref a:=B;exact⟨kQ d g,qN C d g q λL N w c=>⟨v,m,w,c,z⟩⟩
theorem sX(z:X.A.units+1<cLine)(m:PE X i ty)(B:PE X o td):PC X .In i o (ED ty td):=by
 intro b s c H Q I h;refine thn (m b s c H _ I h) λD d ⟨y,l,j,n,q⟩=>thn (B b d c l _ j q) λu G r=>?_;obtain⟨x,k,f,w,a,p,C,g,v⟩:=r;subst C;obtain rfl:u=Value.ref a:=w;exact HS z f g n λJ t=>⟨.bl p.isSome,k,t,rfl,v⟩
theorem i5(z:X.A.units+1<cLine)(m:PE X i ty)(B:PE X o td):PC X .NotIn i o (oh ty td):=by
 intro b s c H Q I h;refine thn (m b s c H _ I h) λD d ⟨y,l,j,n,q⟩=>thn (B b d c l _ j q) λu G r=>?_;obtain⟨x,k,f,w,a,p,C,g,v⟩:=r;subst C;obtain rfl:u=Value.ref a:=w;exact xm z f g n λJ t=>⟨.bl (!p.isSome),k,t,rfl,v⟩
theorem xp(L:X.A.units+1<cLine)(M:PE X o td)(q:PE X i ty)(hv:PE X value tv)(f:swapsWith value (some (.Subscript o i pos')) pos.line X.env=pure false):
  PS X (.Assign [.Subscript o i pos'] value pos) (EE td ty tv):=by
 intro b s c H D I h;refine wpAny_Assign_Subscript (thn (hv b s c H _ I h) λr d ⟨v,p,k,O,w⟩=>thn (M b d c p _ k w) λu J ⟨x,m,j,G,C⟩=>thn (q b J c m _ j C) λT U z=>?_) f;obtain⟨y,Y,B,t,a,N,Q,g,l⟩:=z;subst Q;obtain rfl:u=Value.ref a:=G;exact qO L B g t O λS n=>⟨c,N,n,l⟩
end
theorem kR(h:Heap)(a:sysModules<h.objs.size):ObjOk P w H (h.push { cls:=.type "dict",data:=.dict #[] }) h.objs.size (.dK []):=
 ⟨aaG _,beq_eq_false_iff_ne.mpr (aaN (aat a)),[],.nil,Heap.DictOf.new h⟩
def tDNewK:TE:=λ_ H Q=>∀p,H p=none->Q (.ref p) (upd H p (.dK []))
section
variable{X:Cx}{pos:Pos}
theorem sY:PE X (.Dict [] [] pos) tDNewK:=λa s b H Q I h=>
 wpAny_Dict_empty ⟨.ref s.heap.objs.size,_,I.laid (λ_ _ q=>Heap.get?_push_of_some _ q) (aae _) (kR s.heap I.big),rfl,h _ (I.hok.fresh (aae _))⟩
end
structure M1 (X:Cx)(o:Expr)(m:Str)(apos:Pos)(e:Expr)(cpos:Pos):Prop where
 base:attributeBase o m X.env (eval o X.env)=eval o X.env
 few:((backTo cpos (starEach [e] X.env)).all (λx=>!x.1)&&(backToKw cpos (keywordEach [] X.env)).all (λx=>x.1.isSome)
  && decide (([e]:List Expr).length+([]:List Keyword).length+(if ([]:List Keyword).isEmpty then 0 else 1)<30))=true
 line:(apos.endLine==cpos.line)=true
 trees:backTo cpos (starEach [e] X.env)=[(false,eval e X.env)]
def JE(H:Hp)(a:Addr):Prop:=(∃b,Rd H a (.dK b))\/∃b,Rd H a (.dT b)
theorem Bz(I:Inv X pins σ H s)(d:JE H a):
  s.TypeIs (.ref a) "dict"/\(∀b,Value.ref a=.ref b->∃c,s.heap.get? b=some c/\c.dict=none)/\(a==sysModules)=false:=by
 rcases d with ⟨i,e⟩|⟨i,e⟩
 ·obtain⟨_,j,k,_,f⟩:=gU I.hok e;refine⟨f.typeIs,λb q=>?_,j⟩;cases q;obtain⟨c,_,_,h,g,_⟩:=f;exact⟨c,h,g.2.1⟩
 ·obtain⟨_,j,l,_,f⟩:=gV I.hok e;refine⟨f.typeIs,λb q=>?_,j⟩;cases q;obtain⟨c,_,_,h,g,_⟩:=f;exact⟨c,h,g.2.1⟩
section
variable{X:Cx}{pins:List (Addr×Obj)}{σ:St}{H:Hp}{s:Shared}{a:Addr}{y d:V}{u r:Value}{o:Option V}{A:Around}{E:Value->Shared->Prop}
theorem BA(x:A.units+1<cLine)(I:Inv X pins σ H s)(g:DGet H a y o)(p:RelV y u)(h:∀n q,Inv X pins σ H q->RelV (o.getD .non) n->Q n q):
  wpAny (model X.prog X.w) A (call (.builtin "dict.get") [.ref a,u]) Q E s:=by
 rcases g with ⟨j,k,e,i,l⟩|⟨j,k,b,e,i,v,l⟩
 ·subst i;obtain⟨z,m,B,c,f⟩:=gU I.hok e;refine call_meetsIn acb f.typeIs acy (acz _ _) (meets_dict_get (aV X.prog X.w) a (gT p) m) ⟨_,f.mapOf,h _ _ (I.tok _) ?_⟩;rw[l];exact(c.val k).getD rfl
 ·subst i;cases (show u=Value.ref b from p);obtain⟨z,m,t,c,f⟩:=gV I.hok e;refine call_meetsIn acb f.typeIs acy (acz _ _) (meetsH_dict_get (tupleKind (aV X.prog X.w)) a b m) ⟨tupleKind_room_in1 x,k,t,fN I.hok v,f,h _ _ (I.tok _) ?_⟩;rw[l];exact(c.val k).getD rfl
end
def BB(f e:TE):TE:=λc H Q=>f c H λx d=>∃a,x=.ref a/\JE d a/\e c d λy b=>∃o,DGet b a y o/\Q (o.getD .non) b
section
variable{X:Cx}{o e f:Expr}{apos cpos:Pos}{td ty tx:TE}
theorem sZ(D:X.A.units+1<cLine) (J:PE X o td) (p:PE X e ty) (m:M1 X o "get" apos e cpos):PE X (.Call (.Attribute o "get" apos) [e] [] cpos) (BB td ty):=by
 intro b s j H Q I h;refine wpAny_Call_method m.base m.few m.line PySem.F.plainAttrs_dict acb PySem.F.type_dict_get (thn (J b s j H _ I h) λu k w=>?_);obtain⟨x,r,i,C,a,L,d,v⟩:=w;subst L;obtain rfl:u=Value.ref a:=C;obtain⟨l,G,_⟩:=Bz i d;refine⟨l,G,?_⟩;rw[m.trees];refine Calls.callWith_builtin rfl (Calls.evalArgs_plain (Calls.spliced_cons (thn (p b k j r _ i v) λM S ⟨y,q,n,t,O,g,B⟩=>Calls.spliced_nil ?_)));exact BA D n g t λN T z c=>⟨_,q,z,c,B⟩
end
end
end L2
namespace L2
open PySem PySem.Spec PyProof.Rows
section
def HU(K:Waa)(l:Addr):It:=
 ⟨λi H=>∃a x,SqL K H l a/\a[i]?=some x,
  λi H v b=>∃T x,(∀a,SqL K H l a->a[i]?=some x)/\H T=none/\v=.ref T/\b=upd H T (.tup [.int i,x]),
  λi H=>∃a,SqL K H l a/\a.length<=i⟩
theorem qP{P:Program}{w:World}{K:Waa}{es:List Expr}{x1}{a1:Pos}(l e it:Addr)(G:e≠it):
  Turn P w K (.Tuple es x1 a1) (HU K l) [e,it] e (λi h=>(∃g,IsEnum h e it (i:Int) g)/\h.IsListIter it l i) where
 mem:=by simp
 obj:=λi h ⟨⟨g,y⟩,A⟩ c a=>by
  simp only[aab,aaq,or_false]at a;rcases a with rfl|rfl
  ·exact⟨_,y,λv z=>by cases z⟩
  ·obtain⟨o,e,c,d⟩:=A;exact⟨o,e,λv z=>by rw[d]at z;cases z⟩
 keep:=λi h h' ⟨⟨g,y⟩,A⟩ k=>⟨⟨g,k e (by simp) _ y⟩,A.at λo e=>k it (by simp) o e⟩
 item:=by
  intro X Z Y S a i t s σ H E I B ⟨⟨g,y⟩,A⟩ T;subst Z Y S;obtain⟨xs,x,O,Q⟩:=T;obtain⟨U,rv,p,hz⟩:=I.list O;obtain⟨u,hu,ru⟩:=rv.get Q;have le:e<s.heap.objs.size:=Heap.lt_size y;have li:it<s.heap.objs.size:=by obtain⟨o,e',_⟩:=id A;exact Heap.lt_size e'
  refine wpAny_pyNext_enum_item y A p.isList (x:=u) (by simpa using hu) G λh' a0 L hT a3 hk=>?_;refine⟨.ref s.heap.objs.size,rfl,?_⟩;refine wpAny_letOwnedTupleGo_enum a0 λj M f=>?_;have f:Heap.SameBut e h' j:=f;have J:∀c o,c ∉ ([e,it]:List Addr)->s.heap.get? c=some o->j.get? c=some o:=λc o a q=>by simp only[aab,aaq,or_false,not_or]at a;exact f.extBut _ _ a.1 (hk c o a.1 a.2 q)
  have C:H s.heap.objs.size=none:=I.hok.fresh (aae _);have I1:Inv X t σ H { s with heap:=j,toks:=s.toks+1 }:=I.ft J B;have D:IsPair j s.heap.objs.size (.int i s.toks) u:=f.extBut _ _ (abc le) hT;have I2:Inv X t σ (upd H s.heap.objs.size (.tup [.int i,x])) { s with heap:=j,toks:=s.toks+1 }:=by
   refine I.step (g':=s.gens) (d':=s.drawn) (ch:=[e,it]) (λb N=>?_) (λb o _ _ a e _=>J b o a e) (λb o _ _ a e _=>⟨o.slots,J b o a e⟩) (λb o a e n=>?_)
    (λb o a e=>⟨o,J b o a e⟩) (λb ys e=>?_) (λb o u e=>?_) (λb ps e=>⟨#[],?_⟩) (λm hm=>?_) (λb o e=>?_) I.bare
   ·obtain⟨f0,f1,f2,f3,f4,f5⟩:=B b N;exact⟨f3,f1,f4,f5⟩
   ·rw[upd_ne (aat (Heap.lt_size e))];exact n
   ·rw[upd_ne (ao e C)];exact e
   ·rw[upd_ne (ao e C)];exact e
   ·rw[upd_ne (ao e C),e];simp
   ·obtain⟨o,a2,ep,ho,r⟩:=hm;exact⟨o,a2,ep,J _ o (λz=>(B _ z).2.1 rfl) ho,r⟩
   ·by_cases N:b=s.heap.objs.size
    ·subst N;rw[aD]at e;cases e;exact⟨(by show 2<=sizeLine;decide),[.int i s.toks,u],.cons ⟨_,rfl⟩ (.cons ru .nil),⟨_,D,rfl,_,rfl,rfl⟩⟩
    ·rw[upd_ne N]at e;refine(I1.hok b o e).kv (λc v a q=>q) (λc q=>by rw[upd_ne (ao q C)];exact q) λc ys q=>by rw[upd_ne (ao q C)];exact q
  refine⟨.ref s.heap.objs.size,_,I2,rfl,⟨_,x,λys hy=>by rw[I.o3 hy O];exact Q,C,rfl,rfl⟩,⟨⟨u,by simpa using M⟩,L.at λo q=>f.extBut _ _ (aaN G) q⟩,λc a=>?_⟩;simp only[aab,aaq,or_false]at a;rcases a with rfl|rfl
  ·rw[upd_ne (aat le)];exact(B _ (by simp)).1
  ·rw[upd_ne (aat li)];exact(B _ (by simp)).1
 done:=by
  intro X Z Y S a i t s σ H E I B ⟨⟨g,y⟩,A⟩ T;subst Z Y S;obtain⟨xs,O,Q⟩:=T;obtain⟨U,rv,p,hz⟩:=I.list O;have hl:=rv.length;refine wpAny_pyNext_enum_end (I.ok.hd a) y A p.isList (by simp;omega) λh' eb=>⟨rfl,I.ft (t':=s.toks) (λc o a q=>?_) B⟩
  simp only[aab,aaq,or_false,not_or]at a;exact eb c o a.2 q
 self:=λ_ _ _ _ _ ⟨⟨g,y⟩,_⟩ h=>wpAny_pyIter_enum y h
theorem qQ:bootBuiltins "enumerate"=some (.type "enumerate"):=by decide +kernel
section
variable{X:Cx}
def EF(K:Waa)(d:TA):TI:=λe H R=>d e H λb a=>∃l c,b=[.ref l]/\SqL K a l c/\R (HU K l) a
theorem xq{es:List Expr}{M}{f:Pos}{a:Expr}{p i:Pos} (z:Gl X "enumerate") (v:X.mg "enumerate"=none) (O:PA X [a] ta) (u:starEach [a] X.env=[(false,eval a X.env)]:=by rfl):
  PI X (.Tuple es M f) (.Call (.Name "enumerate" p) [a] [] i) (EF X.K ta):=by
 intro c s t H R I h;refine Call_ (fK I z v qQ (abw (thn (O i c s t H _ I h) λT d C=>?_) u rfl));obtain⟨U,o,j,L,A⟩:=C;obtain⟨l,Q,e,B,q⟩:=A;subst e;cases L with
 |cons r x=>
  cases x;cases r;obtain⟨J,Y,N,S⟩:=j.list B;refine call_enumerate_list N.isList λD n k G y=>?_;refine wpAny_pyIter_enum n ?_;have w:Inv X c t o { d with heap:=D }:=j.kept y;refine⟨d.heap.objs.size+1,[d.heap.objs.size+1,d.heap.objs.size],_,_,o,rfl,w,qP l _ _ (by show (_:Nat)≠_;omega),⟨⟨_,n⟩,k⟩,λb m=>?_,q⟩;have g:d.heap.objs.size<=b:=by
   simp only[aab,aaq,or_false]at m;rcases m with rfl|rfl
   ·show d.heap.objs.size<=d.heap.objs.size+1;omega
   ·exact aae _
  exact j.rd g (j.hok.fresh g)
end
end
section
section
variable{X:Cx}
def rInsert:V->List V->Hp->VK->Prop:=λx b H Q=>∃l a k y,x=.ref l/\b=[.int k,y]/\H l=some (.lst a)/\0<=k/\k<=a.length/\a.length<100000/\Q .non (upd H l (.lst (a.take k.toNat++y::a.drop k.toNat)))
theorem qR:JD X "list.insert" rInsert:=by
 intro d s B H x A v t Q I i m h;obtain⟨l,o,k,y,rfl,rfl,b,w,G,p,q⟩:=h;cases i;obtain⟨D,u,rfl,⟨j,rfl⟩,g⟩:=m.two;obtain⟨z,a,n,r,C,e⟩:=I.u5 b;have c:=r.length;have f:100000<=sizeLine:=by decide
 refine call_meets F.slot_list_insert ⟨_,e,rfl⟩ F.entry_list_insert (F.args_list_insert_3 _ _ _) (AutoListH.list_insert_list_int_val_1 l a.toArray n k j u (by unfold Builtin.List.listFitsIndex;simp;omega) (by rw[aax];omega)) ⟨e,?_⟩;refine⟨.non,_,I.lset b e ?_ ((r.take _).append (.cons g (r.drop _))) ?_,rfl,q⟩
 ·show (a.toArray.extract 0 (if k<0 then (k+(a.toArray.size:Int)).toNat else min k.toNat a.toArray.size)).push u++a.toArray.extract (if k<0 then (k+(a.toArray.size:Int)).toNat else min k.toNat a.toArray.size)=_;rw[if_neg (by omega),aax,abo (by omega)];apply Array.ext';simp[List.extract_eq_drop_take];exact acd (by rw[abl];exact aae _)
 ·rw[aad,aap,aaW,abl];omega
end
end
section
section
variable{X:Cx}{o i e:Expr}{pos:Pos}{ti:TE}{c:Addr}{kvs:List (Str×Str)}
set_option exponentiation.threshold 2000 in
def HV(K:Waa)(n:Nat)(t:TGs):TG:=λv d H Q=>∃a b,v=.ref a/\SqL K H a b/\b.length=n/\t b d H Q
theorem BC{k:Nat}(L:X.calm=true)(h:DU X es t)
  (M:(assignEach es X.env).length=n:=by rfl) (g:(assignEach es X.env).findIdx? (·.1)=none:=by rfl):PG X (.Tuple es k pos) (HV X.K n t):=by
 intro d s l H v u Q I r j;obtain⟨a,q,y,w,G,j⟩:=j;subst y;cases r;obtain⟨f,m,⟨B,z,N,p,_,D⟩,O⟩:=I.list w;have C:s.heap.IsList a f.toArray:=⟨B,N,p,z,D⟩
 rw[assign_Tuple];refine wpAny_bind (wpAny_standAt ?_);unfold unpack;rw[show (assignEach es X.env).length=f.toArray.size by simp[M,<-G,m.length],g];refine wpAny_bind (wpAny_holding (PySem.W.kun_itemsOf (I.ok.hd L) C λJ A=>?_));have x:Inv X d l H { s with heap:=J }:=I.kept λb o e=>A b o (aat (Heap.lt_size e)) e;exact h d _ l H q _ Q x (by simpa using m) j
end
end
section
theorem mM(I:Nat->Shared->Prop)
  (l:∀n s,I n s->wpAny (model prog w) A (pyNext it) (λr e=>match r with
   |none=>R (.ok .next) e
   |some v=>wpAny (model prog w) A (letOwnedTupleGo target it v) (λ_ a=>wpAny (model prog w) A (assign target env v) (λ_ a=>
     wpAny (model prog w) A (forIn ifs true λc r=>if r=true then do let q <-isTrue c env (eval c env);pure (ForInStep.yield q) else pure (ForInStep.yield r)) (λq f=>
      if q=true then wpAny (model prog w) A (eval kx env) (λy i=>wpAny (model prog w) A (eval vx env) (λz j=>
       wpAny (model prog w) A (dictSet D y z) (λ_ g=>∃m,m<n/\I m g) (λ_ _=>False) j) (λ_ _=>False) i) (λ_ _=>False) f
      else ∃m,m<n/\I m f) (λ_ _=>False) a) (λ_ _=>False) a) (λ_ _=>False) e) (λ_ _=>False) s)
  (n:Nat) (h:I n s):
  codeAny (model prog w) A (.compLoop (.DictComp kx vx [⟨target,iter,ifs,0⟩] scope pos) 0 it (.ref D) env) R s:=by
 refine codeAny_loop rfl I (λn s B=>?_) n h;show wpAny _ A ((compTurn (.DictComp kx vx [⟨target,iter,ifs,0⟩] scope pos) 0 it (.ref D) env).onRaise (λx=>do noteFrame x env;theTreesLotGoes x)) _ _ s;refine wpAny_noted ?_;rw[compTurn_dict];refine wpAny_bind (wpAny_standAt (wpAny_bind (wpAny_mono (l n s B) (λr e b=>?_) λ_ _ d=>d.elim)));cases r with
 |none=>exact wpAny_pure b
 |some v=>
  refine wpAny_bind (wpAny_mono b (λ_ a b=>?_) λ_ _ d=>d.elim);refine wpAny_bind (wpAny_mono b (λ_ a o=>wpAny_bind (wpAny_mono o (λq f k=>?_) λ_ _ d=>d.elim)) λ_ _ d=>d.elim);cases q with
  |false=>exact wpAny_pure ⟨rfl,k⟩
  |true=>exact wpAny_bind (wpAny_bind (wpAny_mono k (λy i t=>wpAny_bind (wpAny_holding (wpAny_mono t (λz j u=>wpAny_bind (wpAny_standAt (wpAny_holding (wpAny_mono u (λ_ g p=>wpAny_pure ⟨rfl,p⟩) λ_ _ d=>d.elim)))) λ_ _ d=>d.elim))) λ_ _ d=>d.elim))
section
variable{X:Cx}{tg kx vx iter:Expr}{ifs:List Expr}{scope:Scope}{pos:Pos}{N:List Str}{nt:Nat}{fr:List Nat}
theorem qS(I:Inv X pins σ H s)(O:∀b∈fp,FpOk X pins H b)
  (p:H D=none) (k:s.heap.objs.size<=D) (m:D<s3.heap.objs.size) (hk:∀b o,s.heap.get? b=some o->s3.heap.get? b=some o) (t:s3.os=s.os)
  (J:Inv (aZ X N scope cl s3 (upd H D (.dK [])) fp pins) pins' σ' H1 s5) (l:Heap.SameBut s3.heap.objs.size s5.heap h'):
  Inv X pins σ H1 { s5 with heap:=h' }:=by
 have r:s.heap.objs.size<=s3.heap.objs.size:=aaR (Nat.lt_of_le_of_lt k m);have f:∀b,b<s.heap.objs.size->b≠D/\b≠s3.heap.objs.size:=λb d=>⟨aat (aaC d k),aat (aaC d r)⟩
 have j:∀b,b≠D->(upd H D (.dK [])) b=H b:=λb d=>upd_ne d;refine I.zb (ch:=fp) (J.os.trans t) ⟨λb o e n d g=>?_,λb o e n d g=>?_,λb o e n g=>?_,λb o e g=>?_,λb w e=>?_,λb o u e=>?_,λb y e=>?_⟩ ?_ J.bare λb d=>?_
 ·obtain⟨i,h⟩:=f b (Heap.lt_size e);exact(l.2 b h).trans (J.base.keep b o (hk b o e) ((j b i).trans n) d g)
 ·obtain⟨i,h⟩:=f b (Heap.lt_size e);obtain⟨G,q⟩:=J.base.slot b o (hk b o e) ((j b i).trans n) d g;exact⟨G,(l.2 b h).trans q⟩
 ·obtain⟨i,h⟩:=f b (Heap.lt_size e);exact J.base.free b o (hk b o e) ((j b i).trans n) g
 ·obtain⟨i,h⟩:=f b (Heap.lt_size e);obtain⟨A,q⟩:=J.base.there b o (hk b o e) g;exact⟨A,(l.2 b h).trans q⟩
 ·exact J.base.tups b w ((j b (ao e p)).trans e)
 ·exact J.base.frzs b o u ((j b (ao e p)).trans e)
 ·exact J.base.tbls b y ((j b (ao e p)).trans e)
 ·intro b u e;refine(J.hok b u e).kv (λc v L q=>(l.2 c ?_).trans q) (λ_ q=>q) λ_ _ q=>q;have a:H1 s3.heap.objs.size=none:=J.free;rintro rfl;rcases L with z|z
  ·rw[z]at a;rw[a]at e;cases e
  ·rw[a]at z;cases z
 ·obtain⟨S,B,Q,x,C,M⟩:=O b d;exact⟨x,B,C,M⟩
def zL(H:Hp)(a:Addr)(y v:V)(c:Hp):Prop:=∃b k,H a=some (.dK b)/\y=kV k/\b.length<sizeLine/\c=upd H a (.dK (putK b k v))
def BD(d f:TE):TC:=λD a H Q=>d a H λk e=>f a e λv c=>∃b,zL c D k v b/\Q b
def tf(l:TI)(nt:Nat)(fr:List Nat)(g:CC->TG)(k:CC->TC):TE:=λh H Q=>l h H λJ f=>∀(c:CC) D,f D=none->∃W:Nat->Nat->St->Hp->Prop,(∃m,W 0 m (bJ nt fr h) (upd f D (.dK []))) /\
 ∀i m a b,W i m a b->(J.stop i b/\Q (.ref D) b)\/(J.go i b/\∀x e,J.yld i b x e->g c x a e λd n=>k c D d n λo=>∃j,j<m/\W (i+1) j d o)
def tj(Y:Cx)(D:Addr)(ifs:List Expr)(kx vx:Expr)(l:TC):Prop:=
 ∀(a:List (Addr×Obj)) (s:Shared) (h:St) (H:Hp) (Q:Hp->Prop),Inv Y a h H s->l D h H Q ->
  wpAny (model Y.prog Y.w) Y.A (forIn ifs true λc r=>if r=true then do let i <-isTrue c Y.env (eval c Y.env);pure (ForInStep.yield i) else pure (ForInStep.yield r)) (λi b=>
   if i=true then wpAny (model Y.prog Y.w) Y.A (eval kx Y.env) (λj f=>wpAny (model Y.prog Y.w) Y.A (eval vx Y.env) (λk g=>
    wpAny (model Y.prog Y.w) Y.A (dictSet D j k) (λ_ e=>∃d,Inv Y a h d e/\Q d) Y.xe g) Y.xe f) Y.xe b
   else ∃d,Inv Y a h d b/\Q d) Y.xe s
theorem qT(L:A.units+1<cLine)(I:Inv X pins σ H s)(g:zL H a y v H')(o:RelV y u)(C:RelV v r)(h:∀f,Inv X pins σ H' f->Q () f):
  wpAny (model X.prog X.w) A (dictSet a u r) Q E s:=by
 obtain⟨c,k,e,D,l,m⟩:=g;subst D m;obtain⟨z,G,t,d,p⟩:=zK I.hok e;have J:t.length<=sizeLine:=by rw[<-d.length];exact z
 have x:(putK c k v).length<=sizeLine:=by have:=dq c k v;omega
 refine wpAny_dictSet_pairs (gT o) p λB b i=>h _ ?_;have n:∃q,B.get? a=some q:=let ⟨q,_,_,j,_⟩:=b;⟨q,j⟩
 exact jD I (by rw[e];exact True.intro) i n (sW x G (d.put k C) b)
theorem BE(p:Y.A.units+1<cLine)(hk:PE Y kx tk)(hv:PE Y vx tv)(I:Inv Y pins σ H s)(h:BD tk tv D σ H Q):
  wpAny (model Y.prog Y.w) Y.A (eval kx Y.env) (λj b=>wpAny (model Y.prog Y.w) Y.A (eval vx Y.env) (λm c=>
    wpAny (model Y.prog Y.w) Y.A (dictSet D j m) (λ_ a=>∃d,Inv Y pins σ d a/\Q d) Y.xe c) Y.xe b) Y.xe s:=by
 refine thn (hk pins s σ H _ I h) λu e ⟨y,l,i,o,t⟩=>thn (hv pins e σ l _ i t) λr B ⟨v,z,f,k,x,g,q⟩=>?_;exact qT p f g o k λC n=>⟨x,n,q⟩
theorem mN(b:Y.A.units+1<cLine)(hk:PE Y kx tk)(hv:PE Y vx tv):tj Y D [] kx vx (BD tk tv):=by intro a s c H Q I h;refine wpAny_tests_nil ?_;rw[if_pos rfl];exact BE b hk hv I h
theorem mO{a5:Option (Value->Sem Unit)}{Q0:Value->Shared->Prop}(hc:X.calm=true)(S:CompScope N nt fr X.N scope X.env.scope)(hi:PI X tg iter wi)
  (hg:∀c:CC,PG (dQ X N scope c) tg (g c)) (ha:∀(c:CC) D,tj (dQ X N scope c) D ifs kx vx (tc c))
  (I:Inv X pins σ H s) (h:tf wi nt fr g tc σ H Q) (d1:∀x∈scope.names,x.2=.free->X.env.kindOf x.1=some .cell)
  (fin:∀(D C:Addr) (s5:Shared) (H1:Hp),FpOk X pins H1 C->s5.heap.get? C≠none->C≠X.env.locals->(∃m,s5.heap.Ns C m)->(∀h',Heap.SameBut C s5.heap h'->Inv X pins σ H1 { s5 with heap:=h' })->Q (.ref D) H1 ->
   compPost (model X.prog X.w) X.A X.xe a5 Q0 (.ref D) C (.ok .next) s5)
  (hs:∀x,foldedSetIterable iter X.env x=pure x:=by intro _;rfl):
  wpAny (model X.prog X.w) X.A (comprehension (.DictComp kx vx [⟨tg,iter,ifs,0⟩] scope pos) scope X.env (firstIterPos [⟨tg,iter,ifs,0⟩] pos) newDict false (eval iter X.env) a5) Q0 X.xe s:=by
 have a0:∀x∈scope.names,x.2=.free->∃c,X.env.cells.lookup x.1=some c:=λx hx hf=>I.ok.has x.1 (.inl (d1 x hx hf));obtain⟨B,d0,h1,h2⟩:=gN a0;refine wpAny_comprehension_free rfl hs d0 S.kind S.names (thn (hi pins s σ H _ I h) λxv s1 hx=>thn hx λd4 a c6=>?_);obtain⟨it,j,tn,J,l,rfl,I2,T,b0,f2,hW⟩:=c6;have a2:∀b∈j,b<a.heap.objs.size:=λb f=>let ⟨o,e,_⟩:=T.obj 0 _ b0 b f;Heap.lt_size e
 refine wpAny_newObj_type (wpAny_newFunctionEnv S.nocell (by intro y hy;simp at hy) (λG t v=>?_) S.kind) (by first|trivial|exact aaG _|decide);have hD:l a.heap.objs.size=none:=I2.hok.fresh (aae _);have I3:Inv X pins σ (upd l a.heap.objs.size (.dK [])) { a with heap:=a.heap.push { cls:=.type "dict",data:=.dict #[] } }:=I2.laid (λ_ _ q=>Heap.get?_push_of_some _ q) (aae _) (kR a.heap I2.big);generalize hs3:({ a with heap:=a.heap.push { cls:=.type "dict",data:=.dict #[] } }:Shared)=s3 at t v I3 ⊢;obtain⟨W,⟨m0,w0⟩,b5⟩:=hW ⟨B,s3,upd l a.heap.objs.size (.dK []),j,pins⟩ _ hD;have a7:∀b o,a.heap.get? b=some o->s3.heap.get? b=some o:=λb o e=>by rw[<-hs3];exact Heap.get?_push_of_some _ e
 have z3:s3.heap.objs.size=a.heap.objs.size+1:=by rw[<-hs3];exact Heap.size_push ..
 have c7:s3.os=a.os:=by rw[<-hs3]
 have f3:∀b∈j,FpOk X pins (upd l a.heap.objs.size (.dK [])) b:=λb f=>⟨by rw[upd_ne (aat (a2 b f))];exact(f2 b f).1,(f2 b f).2⟩
 have a6:∀b o,s3.heap.get? b=some o->G.get? b=some o:=λb o e=>v.extBut b o (aat (Heap.lt_size e)) (Heap.get?_push_of_some _ e);generalize hs4:({ s3 with heap:=G,toks:=s3.toks+([]:List (Str×Value)).length }:Shared)=s4;have a4:s4.heap=G:=by rw[<-hs4]
 have I4:Inv (aZ X N scope B s3 (upd l a.heap.objs.size (.dK [])) j pins) [] (bJ nt fr σ) (upd l a.heap.objs.size (.dK [])) s4:=
  gO S I3 f3 (λb f=>by rw[z3];exact abz (a2 b f)) h1 h2 (λb o e=>by rw[a4];exact a6 b o e) ⟨_,by rw[a4];exact t⟩ (by rw[<-hs4]) (by rw[<-hs4])
 have b8:tn 0 s4.heap:=T.keep 0 _ _ b0 λb f o e=>by rw[a4];exact a6 b o (a7 b o e)
 have a1:codeAny (model X.prog X.w) X.A (.compLoop (.DictComp kx vx [⟨tg,iter,ifs,0⟩] scope pos) 0 (.ref it) (.ref a.heap.objs.size) (compEnvC scope B s3.heap.objs.size X.env))
   (compPost (model X.prog X.w) X.A X.xe a5 Q0 (.ref a.heap.objs.size) s3.heap.objs.size) s4:=by
  have L:∀{k:Hp},(∀b∈j,k b=none)->∀b∈j,FpOk (aZ X N scope B s3 (upd l a.heap.objs.size (.dK [])) j pins) [] k b:=λ{k} hn b f=>
   ⟨hn b f,aat (show b<s3.heap.objs.size by rw[z3];exact abz (a2 b f)),λz=>I4.ok.exfs b f z,.inl f,λx c e=>(f2 b f).2.2.2.2.1 x c (h1 x c e),λp hp=>(f2 b f).2.2.2.2.2 p (by
    rcases aai.mp hp with z|z
    ·exact z
    ·exact absurd z (by simp))⟩
  refine mM (λn s'=>∃i O k,Inv (aZ X N scope B s3 (upd l a.heap.objs.size (.dK [])) j pins) [] O k s'/\tn i s'.heap/\(∀b∈j,k b=none)/\W i n O k) ?_ m0
   ⟨0,_,_,I4,b8,λb f=>(f3 b f).1,w0⟩
  rintro n s5 ⟨i,Z,H5,I5,a8,c1,w5⟩;rcases b5 i n Z H5 w5 with ⟨b7,qn⟩|⟨go,b6⟩
  ·refine thn (T.done (aZ X N scope B s3 (upd l a.heap.objs.size (.dK [])) j pins) rfl rfl rfl hc i [] s5 Z H5 (λ_ _=>False) I5 (L c1) a8 b7) λr s6 ⟨hr,I6⟩=>?_;subst hr;obtain⟨m,hm,_⟩:=id I6.loc;refine fin _ _ s6 H5 (I2.rd (by rw[z3];exact abA _) I6.free) ?_ ?_ ⟨m,hm⟩ (λh' c5=>qS I2 f2 hD (aae _) (by rw[z3];exact aaP _) a7 c7 I6 c5) qn
   ·obtain⟨o,_,_,ho,_⟩:=hm;intro z;have c0:s6.heap.get? s3.heap.objs.size=some o:=ho;rw[z]at c0;cases c0
   ·exact abc (abR I2.lt (by rw[z3];exact aaP _))
  ·refine thn (T.item (aZ X N scope B s3 (upd l a.heap.objs.size (.dK [])) j pins) rfl rfl rfl hc i [] s5 Z H5 (λ_ _=>False) I5 (L c1) a8 go) λr s6 ⟨u,hr,h6⟩=>?_;subst hr;refine thn h6 λ_ s7 ⟨x,H7,I7,r7,y7,a3,c2⟩=>?_;have d2:=I7.pinned (L c2) (T.obj _ _ a3);refine thn (hg ⟨B,s3,upd l a.heap.objs.size (.dK []),j,pins⟩ _ s7 Z H7 x u _ d2 r7 (b6 x H7 y7)) λ_ s8 ⟨U,H8,I8,q8⟩=>?_;refine thn (ha ⟨B,s3,upd l a.heap.objs.size (.dK []),j,pins⟩ _ _ s8 U H8 _ I8 q8) λok s9 h9=>?_;have M:∀{Y:Shared},(∃k,Inv (aZ X N scope B s3 (upd l a.heap.objs.size (.dK [])) j pins) ([]++pinsAt j s7.heap) U k Y/\∃m',m'<n/\W (i+1) m' U k) ->
     ∃m,m<n/\∃i O k,Inv (aZ X N scope B s3 (upd l a.heap.objs.size (.dK [])) j pins) [] O k Y/\tn i Y.heap/\(∀b∈j,k b=none)/\W i m O k:=λ{Y} ⟨k,I',m',hm,w'⟩=>by
    refine⟨m',hm,i+1,U,k,I'.eo,T.keep _ _ _ a3 λb f o e=>(I'.pin (b,o) (aag _ (aag _ (bO f e)))).1,λb f=>?_,w'⟩;obtain⟨o,e,d⟩:=T.obj _ _ a3 b f;exact(I'.pin (b,o) (aag _ (aag _ (bO f e)))).2.1
   cases ok with
   |true=>rw[if_pos rfl]at h9 ⊢;exact thn h9 λy d5 c4=>thn c4 λz d6 c8=>thn c8 λ_ d3 c3=>M c3
   |false=>rw[if_neg aaf]at h9 ⊢;exact M h9
 exact codeAny_compStart_dict a1 (T.self X.A 0 s4 _ _ b8 a1)
theorem tm{k d:Pos}(hN:X.N.Nodup)(Z:X.N[i]?=some y)(J:X.env.scope.names.lookup y=some .local)(hc:X.calm=true)(S:CompScope N nt fr X.N scope X.env.scope)(hi:PI X tg iter wi)
  (Y:∀c:CC,PG (dQ X N scope c) tg (g c)) (ha:∀(c:CC) D,tj (dQ X N scope c) D ifs kx vx (tc c))
  (M:∀x,foldedSetIterable iter X.env x=pure x:=by intro _;rfl)
  (w:swapsWith (.DictComp kx vx [⟨tg,iter,ifs,0⟩] scope pos) (some (.Name y k)) d.line X.env=pure true:=by rfl):
  PS X (.Assign [.Name y k] (.DictComp kx vx [⟨tg,iter,ifs,0⟩] scope pos) d) (sr (tf wi nt fr g tc) (kH i)):=by
 intro j s σ H D I h;rw[exec_Assign_Name_used _ _ _ _ w];refine wpAny_bind (wpAny_standAt (wpAny_bind ?_));show wpAny _ X.A (do let _ <-comprehension (.DictComp kx vx [⟨tg,iter,ifs,0⟩] scope pos) scope X.env _ newDict false (eval iter X.env) (some (assign (.Name y k) X.env))) _ _ s;refine wpAny_bind (wpAny_mono (mO hc S hi Y ha I h (λx hx hf=>S.cells x hx hf) (λL C G B f hC _ n U q=>?_) M) (λ_ s' Q=>wpAny_pure (wpAny_pure Q)) λ_ _ e=>e);obtain⟨m,n⟩:=n;have O:Inv X j σ B G:=U G.heap ⟨rfl,λ_ _=>rfl⟩;show wpAny _ X.A (assign (.Name y k) X.env (.ref L)) _ _ _;refine wpAny_assign_Name (fJ O hN Z (.inl J) (v:=.ref L) rfl (λs6 I6 p=>?_) (.inr J));obtain⟨a,l,r⟩:=p;have t:C≠a:=by
  rcases r with e|e
  ·rw[e];exact f.2.1
  ·exact λz=>f.2.2.2.2.1 _ _ e z.symm
 exact⟨m,n.sameBut l t,λh' u=>⟨_,B,I6.turned (λb o T e=>(u.2 b T).trans e) f.1 f.2.1 f.2.2.2.1 f.2.2.2.2.1 f.2.2.2.2.2,q⟩⟩
end
end
end L2
set_option genInjectivity false
namespace L2
open PySem PySem.Spec PyProof.Rows
section
structure Kp (S:Addr->Prop)(H H':Hp):Prop where
 k:∀b o,H b=some o->¬ S b->H' b=some o
 n:∀b,H' b=none->H b=none
section
variable{S T S':Addr->Prop}{H H1 H' H2:Hp}{p:Addr}{o:HO}
theorem Kp.refl(S:Addr->Prop)(H:Hp):Kp S H H:=⟨λ_ _ h _=>h,λ_ h=>h⟩
theorem Kp.trans(a:Kp S H H1)(b:Kp S H1 H2):Kp S H H2:=⟨λc o h n=>b.k c o (a.k c o h n) n,λc h=>a.n c (b.n c h)⟩
theorem Kp.weak(a:Kp S H H')(h:∀b,S b->T b\/H b=none):Kp T H H':=⟨λb o e n=>a.k b o e λz=>(h b z).elim n λq=>(by rw[q]at e;cases e),a.n⟩
theorem Kp.put(a:S p\/H p=none):Kp S H (upd H p o):=by
 refine⟨λb u h n=>?_,λb h=>?_⟩
 ·have c:b≠p:=λe=>by
   subst e;rcases a with a|a
   ·exact n a
   ·rw[a]at h;cases h
  rw[upd_ne c];exact h
 ·by_cases e:b=p
  ·subst e;rw[aD]at h;cases h
  ·rw[upd_ne e]at h;exact h
theorem Kp.keep(a:Kp (λ_=>False) H H'):Keep [] H H':=λb o h _=>a.k b o h (λz=>z)
def Bx(S:Addr->Prop)(F:Hp->Prop)(H:Hp):Prop:=∀H',Kp S H H'->F H'
theorem Bx.now{F:Hp->Prop}(h:Bx S F H):F H:=h H (Kp.refl _ _)
theorem Bx.step{F:Hp->Prop}(h:Bx S F H)(k:Kp S H H')(n:∀b,S' b->S b\/H b=none):Bx S' F H':=λH2 a=>
 h H2 ⟨λb o e c=>a.k b o (k.k b o e c) λz=>(n b z).elim c λq=>(by rw[q]at e;cases e),λb e=>k.n b (a.n b e)⟩
end
mutual
inductive Fz (K:Waa)(S:Addr->Prop)(H:Hp):V->PyData->Prop
 |non:Fz K S H .non .none
 |bl (b:Bool):Fz K S H (.bl b) (.bool b)
 |int (i:Int):Fz K S H (.int i) (.int i)
 |str (x:Str):Fz K S H (.str x) (.str x)
 |lst {a xs ds}:Bx S (λH=>SqL K H a xs) H->FzA K S H xs ds->Fz K S H (.ref a) (.list ds)
 |tup {a xs ds}:Bx S (λH=>SqT K H a xs) H->FzA K S H xs ds->Fz K S H (.ref a) (.tuple ds)
inductive FzA (K:Waa)(S:Addr->Prop)(H:Hp):List V->List PyData->Prop
 |nil:FzA K S H [] []
 |cons {x d xs ds}:Fz K S H x d->FzA K S H xs ds->FzA K S H (x::xs) (d::ds)
end
section
variable{K:Waa}{S T S':Addr->Prop}{H H1 H' H2:Hp}
theorem Fz.ind{P:V->PyData->Prop}{Q:List V->List PyData->Prop}(g:P .non .none)(l:∀b,P (.bl b) (.bool b))(e:∀i,P (.int i) (.int i))(k:∀x,P (.str x) (.str x))
  (c:∀{a xs ds},Bx S (λH=>SqL K H a xs) H->Q xs ds->P (.ref a) (.list ds)) (f:∀{a xs ds},Bx S (λH=>SqT K H a xs) H->Q xs ds->P (.ref a) (.tuple ds)) (nil:Q [] []) (cons:∀{x d xs ds},P x d->Q xs ds->Q (x::xs) (d::ds)):
  (∀{v d},Fz K S H v d->P v d)/\∀{vs ds},FzA K S H vs ds->Q vs ds:=
 ⟨λh=>Fz.rec g l e k (λh _ i=>c h i) (λh _ i=>f h i) nil (λ_ _ i j=>cons i j) h,
  λh=>FzA.rec g l e k (λh _ i=>c h i) (λh _ i=>f h i) nil (λ_ _ i j=>cons i j) h⟩
theorem Fz.mo(k:Kp S H H')(n:∀b,S' b->S b\/H b=none):(∀{v:V}{d:PyData},Fz K S H v d->Fz K S' H' v d)/\∀{vs:List V}{ds:List PyData},FzA K S H vs ds->FzA K S' H' vs ds:=
 Fz.ind .non .bl .int .str (λh t=>.lst (h.step k n) t) (λh t=>.tup (h.step k n) t) .nil (λr t=>.cons r t)
theorem Fz.step(k:Kp S H H')(n:∀b,S' b->S b\/H b=none){v:V}{d:PyData}(h:Fz K S H v d):Fz K S' H' v d:=(Fz.mo k n).1 h
theorem FzA.step(k:Kp S H H')(n:∀b,S' b->S b\/H b=none){vs:List V}{ds:List PyData}(h:FzA K S H vs ds):FzA K S' H' vs ds:=(Fz.mo k n).2 h
theorem Fz.dt_:(∀{v:V}{d:PyData},Fz K S H v d->Dt K H v d)/\∀{vs:List V}{ds:List PyData},FzA K S H vs ds->DtAll K H vs ds:=
 Fz.ind .non .bl .int .str (λh t=>.lst h.now t) (λh t=>.tup h.now t) .nil (λr t=>.cons r t)
theorem Fz.dt(h:Fz K S H v d):Dt K H v d:=Fz.dt_.1 h
theorem Fz.of0(h:Dt K H v d):Fz K (λ_=>False) H v d:=
 Dt.rec .non .bl .int .str (λh _ t=>.lst (λH' k=>k.keep.same.seq h) t) (λh _ t=>.tup (λH' k=>k.keep.same.tupS h) t) .nil (λ_ _ r t=>.cons r t) h
theorem Fz.sub(h:∀b,S' b->S b)(f:Fz K S H v d):Fz K S' H v d:=f.step (Kp.refl _ _) λb z=>.inl (h b z)
theorem FzA.sub(h:∀b,S' b->S b)(f:FzA K S H v d):FzA K S' H v d:=f.step (Kp.refl _ _) λb z=>.inl (h b z)
theorem FzA.length(h:FzA K S H vs ds):vs.length=ds.length:=by
 induction vs generalizing ds with
 |nil=>cases h;rfl
 |cons v vs a=>cases h with|cons _ t=>rw[aap,aap,a t]
theorem FzA.ints:∀(ns:List Int),FzA K S H (ns.map V.int) (ns.map PyData.int)
 |[]=>.nil
 |n::ns=>.cons (.int n) (FzA.ints ns)
theorem Fz.q7(h:Fz K S H v (.list ds)):∃a xs,v=.ref a/\Bx S (λH=>SqL K H a xs) H/\FzA K S H xs ds:=by
 cases h with|lst h t=>exact⟨_,_,rfl,h,t⟩
theorem Fz.ry(h:Fz K S H v (.tuple ds)):∃a xs,v=.ref a/\Bx S (λH=>SqT K H a xs) H/\FzA K S H xs ds:=by
 cases h with|tup h t=>exact⟨_,_,rfl,h,t⟩
theorem BF(h:H a=some (.lst xs))(n:¬ S a):Bx S (λH=>SqL K H a xs) H:=λ_ k=>SqL.of (k.k _ _ h n)
theorem tu(h:H a=some (.tup xs))(n:¬ S a):Bx S (λH=>SqT K H a xs) H:=λ_ k=>SqT.of (k.k _ _ h n)
end
inductive OD where
 |fz (d:PyData)|lst (xs:List OD)|tup (xs:List OD)|dic (ks:List Key) (xs:List OD)|obj (c:Str) (ns:List Str) (xs:List OD)|pin (l:Bool) (xs:List V) (ds:List PyData)|hole (v:V)
mutual
def OD.dat:OD->Option PyData
 |.fz d=>some d
 |.lst xs=>match OD.dv xs with|some ds=>some (.list ds)|none=>none
 |.tup xs=>match OD.dv xs with|some ds=>some (.tuple ds)|none=>none
 |.dic _ _=>none
 |.obj _ _ _=>none
 |.pin l _ ds=>some (if l then .list ds else .tuple ds)
 |.hole _=>none
def OD.dv:List OD->Option (List PyData)
 |[]=>some []
 |x::xs=>match x.dat with
  |some d=>match OD.dv xs with|some ds=>some (d::ds)|none=>none
  |none=>none
end
def aU(K:Waa)(c:Str):Addr:=match PySem.W.nsIn K mainGlobals c with|some (some (.ref C))=>C|_=>0
structure Bs where
 K:Waa
 H0:Hp
 S0:Addr->Prop
 C:Addr->Prop
mutual
inductive Ow (b:Bs)(S:Addr->Prop)(H:Hp):V->OD->List Addr->Prop
 |fz {v d}:Fz b.K S H v d->Ow b S H v (.fz d) []
 |lst {a vs xs A}:H a=some (.lst vs)->Ows b S H vs xs A->Ow b S H (.ref a) (.lst xs) (a::A)
 |tup {a vs xs A}:H a=some (.tup vs)->Ows b S H vs xs A->Ow b S H (.ref a) (.tup xs) A
 |dic {a ws ks vs xs A}:H a=some (.dK ws)->ws.map (·.1)=ks->ws.map (·.2)=vs->Ows b S H vs xs A->Ow b S H (.ref a) (.dic ks xs) (a::A)
 |obj {a dx c fs ns vs xs A}:H a=some (.ins (aU b.K c) dx fs)->H dx=some (.own a)->fs.map (·.1)=ns->fs.map (·.2)=vs->Ows b S H vs xs A->Ow b S H (.ref a) (.obj c ns xs) (a::dx::A)
 |pinL {a xs ds}:Bx S (λH=>SqL b.K H a xs) H->FzA b.K S H xs ds->Ow b S H (.ref a) (.pin true xs ds) []
 |pinT {a xs ds}:Bx S (λH=>SqT b.K H a xs) H->FzA b.K S H xs ds->Ow b S H (.ref a) (.pin false xs ds) []
 |hole {v u}:v=u->Ow b S H v (.hole u) []
inductive Ows (b:Bs)(S:Addr->Prop)(H:Hp):List V->List OD->List Addr->Prop
 |nil:Ows b S H [] [] []
 |cons {v x A vs xs B}:Ow b S H v x A->Ows b S H vs xs B->Ows b S H (v::vs) (x::xs) (A++B)
end
abbrev OwL(b:Bs)(S:Addr->Prop)(H:Hp)(L:List (V×OD))(A:List Addr):Prop:=Ows b S H (L.map (·.1)) (L.map (·.2)) A
def MutO:HO->Prop
 |.lst _=>True|.dK _=>True|.ins _ _ _=>True|.own _=>True
 |_=>False
section
variable{b:Bs}{S T S':Addr->Prop}{H H1 H' H2:Hp}
theorem Ows.len(h:Ows b S H vs xs A):vs.length=xs.length:=by
 induction vs generalizing xs A with
 |nil=>cases h;rfl
 |cons v vs a=>cases h with|cons _ t=>rw[aap,aap,a t]
theorem Ow.ind{P:V->OD->List Addr->Prop}{Q:List V->List OD->List Addr->Prop}(t:∀{v d},Fz b.K S H v d->P v (.fz d) [])(n:∀{a vs xs A},H a=some (.lst vs)->Q vs xs A->P (.ref a) (.lst xs) (a::A))(q:∀{a vs xs A},H a=some (.tup vs)->Q vs xs A->P (.ref a) (.tup xs) A)
  (o:∀{a ws ks vs xs A},H a=some (.dK ws)->ws.map (·.1)=ks->ws.map (·.2)=vs->Q vs xs A->P (.ref a) (.dic ks xs) (a::A)) (p:∀{a dx c r ns vs xs A},H a=some (.ins (aU b.K c) dx r)->H dx=some (.own a)->r.map (·.1)=ns->r.map (·.2)=vs->Q vs xs A->P (.ref a) (.obj c ns xs) (a::dx::A))
  (f:∀{a xs ds},Bx S (λH=>SqL b.K H a xs) H->FzA b.K S H xs ds->P (.ref a) (.pin true xs ds) []) (g:∀{a xs ds},Bx S (λH=>SqT b.K H a xs) H->FzA b.K S H xs ds->P (.ref a) (.pin false xs ds) []) (k:∀{v u},v=u->P v (.hole u) [])
  (nil:Q [] [] []) (cons:∀{v x A vs xs B},P v x A->Q vs xs B->Q (v::vs) (x::xs) (A++B)):(∀{v x A},Ow b S H v x A->P v x A)/\∀{vs xs A},Ows b S H vs xs A->Q vs xs A:=
 ⟨λh=>Ow.rec t (λe _ i=>n e i) (λe _ i=>q e i) (λe m l _ i=>o e m l i) (λe s m l _ i=>p e s m l i) f g k nil (λ_ _ i j=>cons i j) h,
  λh=>Ows.rec t (λe _ i=>n e i) (λe _ i=>q e i) (λe m l _ i=>o e m l i) (λe s m l _ i=>p e s m l i) f g k nil (λ_ _ i j=>cons i j) h⟩
theorem oi{P:Addr->Prop}(h:P a)(t:∀c∈A,P c):∀c∈a::A,P c:=λc d=>(aab.mp d).elim (λe=>e▸h) (t c)
theorem Ow.mu_:(∀{v:V}{x:OD}{A:List Addr},Ow b S H v x A->∀a∈A,∃o,H a=some o/\MutO o)/\∀{vs:List V}{xs:List OD}{A:List Addr},Ows b S H vs xs A->∀a∈A,∃o,H a=some o/\MutO o:=
 Ow.ind (λ_ _ h=>absurd h aaq) (λe i=>oi ⟨_,e,trivial⟩ i) (λ_ i=>i) (λe _ _ i=>oi ⟨_,e,trivial⟩ i) (λe c _ _ i=>oi ⟨_,e,trivial⟩ (oi ⟨_,c,trivial⟩ i)) (λ_ _ _ h=>absurd h aaq) (λ_ _ _ h=>absurd h aaq) (λ_ _ h=>absurd h aaq) (λ_ h=>absurd h aaq) (λi j a h=>(aai.mp h).elim (i a) (j a))
theorem Ow.mu(h:Ow b S H v x A):∀a∈A,∃o,H a=some o/\MutO o:=Ow.mu_.1 h
theorem Ows.mu(h:Ows b S H vs xs A):∀a∈A,∃o,H a=some o/\MutO o:=Ow.mu_.2 h
theorem Ows.ne(h:Ows b S H vs xs A):∀a∈A,H a≠none:=λa c e=>by obtain⟨o,q,_⟩:=h.mu a c;rw[q]at e;cases e
theorem Ows.tl(h:Ows b S H vs xs A):∀a∈A,∀ys,H a≠some (.tup ys):=λa c ys e=>by obtain⟨o,q,m⟩:=h.mu a c;rw[q]at e;cases e;exact m
theorem Ow.mo(c:b2.K=b.K)(k:Kp S H H')(n:∀b,S' b->S b\/H b=none)(l:∀a xs,H a=some (.tup xs)->¬ S a):(∀{v:V}{x:OD}{A:List Addr},Ow b S H v x A->(∀a∈A,H' a=H a)->Ow b2 S' H' v x A)/\∀{vs:List V}{xs:List OD}{A:List Addr},Ows b S H vs xs A->(∀a∈A,H' a=H a)->Ows b2 S' H' vs xs A:=
 Ow.ind (λf _=>.fz (c▸f.step k n)) (λe i s=>.lst ((s _ aaj).trans e) (i λa h=>s a (aal _ h))) (λe i s=>.tup (k.k _ _ e (l _ _ e)) (i s)) (λe g d i s=>.dic ((s _ aaj).trans e) g d (i λa h=>s a (aal _ h)))
  (λe m g d i s=>.obj (c▸(s _ aaj).trans e) ((s _ (aal _ aaj)).trans m) g d (i λa h=>s a (aal _ (aal _ h)))) (λh t _=>.pinL (c▸h.step k n) (c▸t.step k n)) (λh t _=>.pinT (c▸h.step k n) (c▸t.step k n)) (λe _=>.hole e) (λ_=>.nil) (λi j s=>.cons (i λa h=>s a (aah _ h)) (j λa h=>s a (aag _ h)))
theorem Ow.step(k:Kp S H H')(n:∀b,S' b->S b\/H b=none)(c:∀a xs,H a=some (.tup xs)->¬ S a){v:V}{x:OD}{A:List Addr}(s:∀a∈A,H' a=H a)(h:Ow b S H v x A):Ow b S' H' v x A:=(Ow.mo rfl k n c).1 h s
theorem Ows.step(k:Kp S H H')(n:∀b,S' b->S b\/H b=none)(c:∀a xs,H a=some (.tup xs)->¬ S a){vs:List V}{xs:List OD}{A:List Addr}(s:∀a∈A,H' a=H a)(h:Ows b S H vs xs A):Ows b S' H' vs xs A:=(Ow.mo rfl k n c).2 h s
theorem Ow.sub(d:∀a xs,H a=some (.tup xs)->¬ S a)(n:∀c,S' c->S c)(h:Ow b S H v x A):Ow b S' H v x A:=h.step (Kp.refl _ _) (λc z=>.inl (n c z)) d (λ_ _=>rfl)
theorem Ows.sub(d:∀a xs,H a=some (.tup xs)->¬ S a)(n:∀c,S' c->S c)(h:Ows b S H v x A):Ows b S' H v x A:=h.step (Kp.refl _ _) (λc z=>.inl (n c z)) d (λ_ _=>rfl)
theorem Ows.subB(e:b2.K=b.K)(d:∀a xs,H a=some (.tup xs)->¬ S a)(n:∀c,S' c->S c)(h:Ows b S H v x A):Ows b2 S' H v x A:=(Ow.mo e (Kp.refl _ _) (λc z=>.inl (n c z)) d).2 h λ_ _=>rfl
theorem xu(h:(OD.lst xs).dat=some d):∃ds,OD.dv xs=some ds/\d=.list ds:=by
 rw[OD.dat]at h;cases z:OD.dv xs with
 |none=>rw[z]at h;cases h
 |some ds=>rw[z]at h;cases h;exact⟨ds,rfl,rfl⟩
theorem xw(h:(OD.tup xs).dat=some d):∃ds,OD.dv xs=some ds/\d=.tuple ds:=by
 rw[OD.dat]at h;cases z:OD.dv xs with
 |none=>rw[z]at h;cases h
 |some ds=>rw[z]at h;cases h;exact⟨ds,rfl,rfl⟩
theorem qU(h:OD.dv (x::xs)=some es):∃d ds,x.dat=some d/\OD.dv xs=some ds/\es=d::ds:=by
 rw[OD.dv]at h;cases z:x.dat with
 |none=>rw[z]at h;cases h
 |some d=>
  cases a:OD.dv xs with
  |none=>rw[z,a]at h;cases h
  |some ds=>rw[z,a]at h;cases h;exact⟨d,ds,rfl,rfl,rfl⟩
theorem Ow.frz_(k:∀a,S' a->S a)(nt:∀a xs,H a=some (.tup xs)->¬ S a):(∀{v:V}{x:OD}{A:List Addr},Ow b S H v x A->∀d:PyData,(∀a∈A,¬ S' a)->x.dat=some d->Fz b.K S' H v d)/\∀{vs:List V}{xs:List OD}{A:List Addr},Ows b S H vs xs A->∀ds:List PyData,(∀a∈A,¬ S' a)->OD.dv xs=some ds->FzA b.K S' H vs ds:=by
 refine Ow.ind (P:=λv x A=>∀d:PyData,(∀a∈A,¬ S' a)->x.dat=some d->Fz b.K S' H v d) (Q:=λvs xs A=>∀ds:List PyData,(∀a∈A,¬ S' a)->OD.dv xs=some ds->FzA b.K S' H vs ds) ?_ ?_ ?_ (λ_ _ _ _ _ _ q=>?_) (λ_ _ _ _ _ _ _ q=>?_) ?_ ?_ (λ_ _ _ q=>?_) ?_ ?_
 ·intro v d f o _ q;cases q;exact f.sub k
 ·intro a vs xs A e i d g q;obtain⟨ds,z,rfl⟩:=xu q;exact .lst (BF e (g _ aaj)) (i ds (λa h=>g a (aal _ h)) z)
 ·intro a vs xs A e i d g q;obtain⟨ds,z,rfl⟩:=xw q;exact .tup (tu e λy=>nt _ _ e (k _ y)) (i ds g z)
 ·cases q
 ·cases q
 ·intro a xs ds h t d _ q;cases q;exact .lst (h.step (Kp.refl _ _) λc z=>.inl (k c z)) (t.sub k)
 ·intro a xs ds h t d _ q;cases q;exact .tup (h.step (Kp.refl _ _) λc z=>.inl (k c z)) (t.sub k)
 ·cases q
 ·intro ds _ q;cases q;exact .nil
 ·intro v x A vs xs B i j n g q;obtain⟨d,ds,l,m,rfl⟩:=qU q;exact .cons (i d (λa h=>g a (aah _ h)) l) (j ds (λa h=>g a (aag _ h)) m)
theorem Ow.frz(e:∀a,S' a->S a)(nt:∀a xs,H a=some (.tup xs)->¬ S a)(c:∀a∈A,¬ S' a)(h:Ow b S H v x A)(q:x.dat=some d):Fz b.K S' H v d:=(Ow.frz_ e nt).1 h d c q
theorem Ows.append(h:Ows b S H vs xs A)(h':Ows b S H us ys B):Ows b S H (vs++us) (xs++ys) (A++B):=by
 induction vs generalizing xs A with
 |nil=>cases h;exact h'
 |cons v vs a=>cases h with|cons r t=>rw[aac];exact .cons r (a t)
theorem Ows.split(e:vs.length=xs.length)(h:Ows b S H (vs++us) (xs++ys) A):∃c a,A=c++a/\Ows b S H vs xs c/\Ows b S H us ys a:=by
 induction vs generalizing xs A with
 |nil=>
  cases xs with
  |nil=>exact⟨[],A,rfl,.nil,h⟩
  |cons _ _=>cases e
 |cons v vs f=>
  cases xs with
  |nil=>cases e
  |cons x xs=>
   cases h with
   |cons r t=>obtain⟨c,a,rfl,g,d⟩:=f (Nat.succ.inj e) t;exact⟨_,a,(aac ..).symm,.cons r g,d⟩
theorem OwL.et(h:OwL b S H (L1++L2) A):∃a c,A=a++c/\OwL b S H L1 a/\OwL b S H L2 c:=by unfold OwL at h;rw[aas,aas]at h;exact Ows.split (by simp) h
theorem OwL.kn(a:OwL b S H L1 A1)(c:OwL b S H L2 A2):OwL b S H (L1++L2) (A1++A2):=by unfold OwL;rw[aas,aas];exact Ows.append a c
theorem OwL.perm(p:L.Perm L'):∀{A:List Addr},OwL b S H L A->∃e,OwL b S H L' e/\A.Perm e:=by
 induction p with
 |nil=>intro A h;exact⟨A,h,.refl _⟩
 |cons x _ f=>
  intro A h;cases h with
  |cons r t=>obtain⟨B,a,q⟩:=f t;exact⟨_,.cons r a,q.append_left _⟩
 |swap x y l=>
  intro A h;cases h with
  |cons r t=>
   cases t with
   |cons i g=>refine⟨_,.cons i (.cons r g),?_⟩;rw[<-aac,<-aac];exact aaY.append_right _
 |trans _ _ c d=>intro A h;obtain⟨B,j,m⟩:=c h;obtain⟨C,a,k⟩:=d j;exact⟨C,a,m.trans k⟩
theorem OwL.mem:∀{A:List Addr},OwL b S H L A->∀{x:V×OD},x∈L->∃B,Ow b S H x.1 x.2 B:=by
 induction L with
 |nil=>intro A h x a;cases a
 |cons y L c=>
  intro A h x a;cases h with
  |cons r t=>
   rcases aab.mp a with rfl|a
   ·exact⟨_,r⟩
   ·exact c t a
theorem Ows.zip(h:Ows b S H vs xs A)(e:xs[k]?=some x):∃v c B d,vs[k]?=some v/\A=c++(B++d)/\Ow b S H v x B /\
  ∀{S':Addr->Prop}{H':Hp}{u:V}{y:OD}{f:List Addr},Ow b S' H' u y f->(∀{v:V}{x:OD}{C:List Addr},(∀a∈C,a∈c\/a∈d)->Ow b S H v x C->Ow b S' H' v x C)->Ows b S' H' (vs.set k u) (xs.set k y) (c++(f++d)):=by
 induction vs generalizing xs A k with
 |nil=>cases h;cases k<;>cases e
 |cons v vs i=>
  cases h with
  |@cons _ x0 A _ xs B r t=>
   cases k with
   |zero=>
    cases e;refine⟨v,[],A,B,rfl,rfl,r,λ{S' H' u y f} h g=>Ows.cons (B:=B) h ?_⟩;have n:∀{vs:List V}{xs:List OD}{D:List Addr},(∀a∈D,a∈B)->Ows b S H vs xs D->Ows b S' H' vs xs D:=λ{vs xs D} s h=>by
     induction xs generalizing vs D with
     |nil=>cases h;exact .nil
     |cons x xs i=>cases h with|cons r t=>exact .cons (g (λa h=>.inr (s a (aah _ h))) r) (i (λa h=>s a (aag _ h)) t)
    exact n (λa h=>h) t
   |succ k=>obtain⟨l,c,p,d,q,j,o,m⟩:=i t e;subst j;refine⟨l,A++c,p,d,q,(aac ..).symm,o,λh g=>?_⟩;rw[aaK,aaK,aac];exact .cons (g (λa h=>.inl (aah _ h)) r) (m h λs h=>g (λa z=>(s a z).imp (aag _) id) h)
end
end
section
structure Wd (b:Bs)(H:Hp)(L:List (V×OD)):Prop where
 out:∃A,OwL b (λa=>a∈A\/b.S0 a) H L A/\A.Nodup/\∀a∈A,b.H0 a=none\/b.C a
 fr:Kp b.C b.H0 H
 s0:∀a,b.S0 a->b.H0 a≠none/\¬ b.C a
 nt:∀a xs,H a=some (.tup xs)->¬ b.S0 a
section
variable{b:Bs}{H H1 H':Hp}{L L':List (V×OD)}{v u:V}{x y:OD}{d:PyData}{ds:List PyData}{p a:Addr}
theorem Wd.qd(w:Wd b H L)(h:OwL b (λa=>a∈A\/b.S0 a) H L A):∀a xs,H a=some (.tup xs)->¬ (a∈A\/b.S0 a):=λa xs e z=>z.elim (λz=>Ows.tl h a z xs e) (w.nt a xs e)
theorem Wd.al(w:Wd b H L)(h:OwL b (λa=>a∈A\/b.S0 a) H L A)(e:H a=none):¬ (a∈A\/b.S0 a):=λz=>z.elim (λz=>Ows.ne h a z e) λz=>(w.s0 a z).1 (w.fr.n a e)
theorem Wd.dj(w:Wd b H L){A:List Addr}(c:∀a∈A,b.H0 a=none\/b.C a):∀a∈A,¬ b.S0 a:=λa e z=>(c a e).elim (w.s0 a z).1 (w.s0 a z).2
theorem Wd.perm(w:Wd b H L)(q:L.Perm L'):Wd b H L':=by obtain⟨A,h,j,f⟩:=w.out;obtain⟨g,i,e⟩:=OwL.perm q h;refine⟨⟨g,Ows.step (Kp.refl _ _) (λc z=>.inl (z.imp (e.mem_iff.mpr) id)) (w.qd h) (λ_ _=>rfl) i,e.nodup_iff.mp j,λa k=>f a (e.mem_iff.mpr k)⟩,w.fr,w.s0,w.nt⟩
theorem Wd.drop(w:Wd b H ((v,x)::L)):Wd b H L:=by
 obtain⟨A,h,f,e⟩:=w.out;have i:=w.qd h;cases h with
 |@cons _ _ A _ _ B r t=>exact⟨⟨B,Ows.step (Kp.refl _ _) (λc z=>.inl (z.imp (aag _) id)) i (λ_ _=>rfl) t,(aaD.mp f).2.1,λa g=>e a (aag _ g)⟩,w.fr,w.s0,w.nt⟩
theorem Wd.drops(w:Wd b H (L1++L2)):Wd b H L2:=by
 induction L1 with
 |nil=>exact w
 |cons z L1 c=>exact c (Wd.drop w)
theorem Wd.puts(w:Wd b H (L1++L))(h:∀(S:Addr->Prop) (A:List Addr),OwL b S H L1 A->A.Nodup->(∀a∈A,S a)->(∀a,H a=none->¬ S a)->(∀a xs,H a=some (.tup xs)->¬ S a) ->
  ∃f,OwL b (λa=>(S a/\a ∉ A)\/a∈f) H L2 f/\f.Nodup/\∀a∈f,a∈A):Wd b H (L2++L):=by
 obtain⟨M,m,I,g⟩:=w.out;have k:=w.qd m;have C:=λ{a}=>w.al m (a:=a);have ds:=w.dj g;obtain⟨A,B,rfl,r,t⟩:=OwL.et m;obtain⟨G,s,q⟩:=aaD.mp I;obtain⟨f,J,D,l⟩:=h _ A r G (λa z=>.inl (aah _ z)) (λa e=>C e) k;have i:∀c,(c∈f++B\/b.S0 c)->(c∈A++B\/b.S0 c):=λc z=>z.imp (λz=>(aai.mp z).elim (λz=>aah _ (l c z)) (aag _)) id;refine⟨⟨f++B,OwL.kn (Ows.step (Kp.refl _ _) (λc z=>.inl ?_) (λa xs e z=>?_) (λ_ _=>rfl) J) (Ows.step (Kp.refl _ _) (λc z=>.inl (i c z)) k (λ_ _=>rfl) t),aaD.mpr ⟨D,s,λa n c j=>q a (l a n) c j⟩,λa n=>?_⟩,w.fr,w.s0,w.nt⟩
 ·by_cases j:c∈f
  ·exact .inr j
  ·refine .inl ⟨i c z,λo=>?_⟩;rcases z with z|z
   ·rcases aai.mp z with z|z
    ·exact j z
    ·exact q c o c z rfl
   ·exact ds c (aah _ o) z
 ·rcases z with z|z
  ·exact k a xs e z.1
  ·exact k a xs e (.inl (aah _ (l a z)))
 ·rcases aai.mp n with z|z
  ·exact g a (aah _ (l a z))
  ·exact g a (aag _ z)
theorem OwL.one(h:OwL b S H [(v,x)] A):Ow b S H v x A:=by
 cases h with
 |cons r t=>cases t;rw[aam];exact r
theorem OwL.of1(h:Ow b S H v x A):OwL b S H [(v,x)] A:=by have:=Ows.cons h (Ows.nil );rw[aam]at this;exact this
theorem Wd.frz(w:Wd b H ((v,x)::L))(e:x.dat=some d):Wd b H ((v,.fz d)::L):=by
 refine Wd.puts (L1:=[(v,x)]) w λS A h i j g f=>⟨[],OwL.of1 (.fz ?_),aa7,λa z=>by cases z⟩
 exact Ow.frz (λa z=>z.elim (·.1) (λz=>by cases z)) f (λa c z=>z.elim (λz=>z.2 c) (λz=>by cases z)) h.one e
theorem Wd.dt(w:Wd b H ((v,x)::L))(e:x.dat=some d):Dt b.K H v d:=by obtain⟨A,c,g,f⟩:=w.out;obtain⟨B,h⟩:=OwL.mem c (x:=(v,x)) (by simp);exact(Ow.frz (λa z=>z.elim) (w.qd c) (λa _ z=>z) h e).dt
theorem Wd.xc(w:Wd b H L)(m:(v,x)∈L)(e:x.dat=some d):Dt b.K H v d:=by obtain⟨A,c,g,f⟩:=w.out;obtain⟨B,h⟩:=OwL.mem c m;exact(Ow.frz (λa z=>z.elim) (w.qd c) (λa _ z=>z) h e).dt
def FrzIn(b:Bs)(S:Addr->Prop)(H:Hp)(L:List (V×OD)):Prop:=∀u e,(u,OD.fz e)∈L->Fz b.K S H u e
theorem OwL.uh(h:OwL b S H L A):FrzIn b S H L:=λu e m=>by obtain⟨B,q⟩:=OwL.mem h m;cases q with|fz f=>exact f
theorem FrzIn.all(h:FrzIn b S H L):∀{vs:List V}{ds:List PyData},vs.length=ds.length->(∀z∈vs.zip (ds.map OD.fz),z∈L)->FzA b.K S H vs ds
 |[],[],_,_=>.nil
 |v::vs,d::ds,e,m=>.cons (h v d (m _ (by simp))) (FrzIn.all h (by simpa using e) λz c=>m z (by simp[c]))
theorem Wd.add(w:Wd b H L)(h:∀S:Addr->Prop,(∀(x:V×OD),x∈L->∃A,Ow b S H x.1 x.2 A)->(∀a,H a=none->¬ S a)->(∀a xs,H a=some (.tup xs)->¬ S a)->Fz b.K S H v d):Wd b H ((v,.fz d)::L):=by obtain⟨A,c,g,f⟩:=w.out;exact⟨⟨A,Ows.cons (.fz (h _ (λx i=>OwL.mem c i) (λa e=>w.al c e) (w.qd c))) c,g,f⟩,w.fr,w.s0,w.nt⟩
theorem Wd.adds(w:Wd b H L)(h:∀S:Addr->Prop,(∀(x:V×OD),x∈L->∃A,Ow b S H x.1 x.2 A)->FzA b.K S H vs ds):Wd b H (vs.zip (ds.map OD.fz)++L):=by
 obtain⟨A,e,f,c⟩:=w.out;have q:∀{vs:List V}{ds:List PyData},FzA b.K (λa=>a∈A\/b.S0 a) H vs ds->OwL b (λa=>a∈A\/b.S0 a) H (vs.zip (ds.map OD.fz)) []:=by
  intro vs;induction vs with
  |nil=>intro ds h;cases h;exact .nil
  |cons v vs i=>intro ds h;cases h with|cons r t=>exact Ows.cons (.fz r) (i t)
 exact⟨⟨A,OwL.kn (q (h _ λx g=>OwL.mem e g)) e,f,c⟩,w.fr,w.s0,w.nt⟩
theorem Wd.dup(w:Wd b H ((v,.fz d)::L)):Wd b H ((v,.fz d)::(v,.fz d)::L):=w.add λS h _ _=>by obtain⟨A,q⟩:=h (v,.fz d) (by simp);cases q with|fz f=>exact f
inductive Sc:V->PyData->Prop
 |non:Sc .non .none
 |bl (b:Bool):Sc (.bl b) (.bool b)
 |int (i:Int):Sc (.int i) (.int i)
 |str (x:Str):Sc (.str x) (.str x)
theorem Sc.fz{K:Waa}(h:Sc v d):Fz K S H v d:=by cases h<;>constructor
theorem Wd.sc(w:Wd b H L)(h:Sc v d):Wd b H ((v,.fz d)::L):=w.add λS _ _ _=>h.fz
theorem Wd.new(w:Wd b H L)(f:H p=none):Wd b (upd H p o) L:=by
 obtain⟨A,h,j,g⟩:=w.out;have i:=w.al h f;refine⟨⟨A,Ows.step (Kp.put (.inr f)) (λc z=>.inl z) (w.qd h) (λa l=>upd_ne λe=>i (.inl (e▸l))) h,j,g⟩,w.fr.trans (Kp.put (.inr f)),w.s0,λa k e z=>?_⟩;by_cases q:a=p
 ·subst q;exact i (.inr z)
 ·rw[upd_ne q]at e;exact w.nt a k e z
theorem Wd.newC(w:Wd b H L)(c:H p=none):b.H0 p=none:=w.fr.n p c
theorem jE:∀{vs:List V}{xs:List OD},vs.length=xs.length->(vs.zip xs).map (·.1)=vs
 |[],[],_=>rfl
 |_::_,_::_,e=>by rw[abp,aao,jE (by simpa using e)]
 |[],_::_,e=>by simp at e
 |_::_,[],e=>by simp at e
theorem jF:∀{vs:List V}{xs:List OD},vs.length=xs.length->(vs.zip xs).map (·.2)=xs
 |[],[],_=>rfl
 |_::_,_::_,e=>by rw[abp,aao,jF (by simpa using e)]
 |[],_::_,e=>by simp at e
 |_::_,[],e=>by simp at e
theorem OwL.ub(e:vs.length=xs.length)(h:OwL b S H (vs.zip xs) A):Ows b S H vs xs A:=by unfold OwL at h;rw[jE e,jF e]at h;exact h
theorem OwL.h8(h:Ows b S H vs xs A):OwL b S H (vs.zip xs) A:=by unfold OwL;rw[jE h.len,jF h.len];exact h
theorem Wd.kl(w:Wd b H L)(h:∀S,FrzIn b S H L->FzA b.K S H vs ds)(g:H p=none):Wd b (upd H p (.tup vs)) ((.ref p,.fz (.tuple ds))::L):=by obtain⟨A,f,l,j⟩:=w.out;have k:=w.al f g;have n:=h _ (OwL.uh f);have i:=w.new g (o:=.tup vs);refine⟨⟨A,Ows.cons (.fz (.tup (tu aD k) (n.step (Kp.put (.inr g)) λc z=>.inl z))) (Ows.step (Kp.put (.inr g)) (λc z=>.inl z) (w.qd f) (λa m=>upd_ne λe=>k (.inl (e▸m))) f),l,j⟩,i.fr,i.s0,i.nt⟩
theorem Wd.vv(w:Wd b H (vs.zip xs++L))(e:vs.length=xs.length)(g:H p=none):Wd b (upd H p (.tup vs)) ((.ref p,.tup xs)::L):=by obtain⟨A,j,r,h⟩:=w.out;have n:=w.al j g;have l:=w.qd j;have i:=w.new g (o:=.tup vs);have k:∀a∈A,upd H p (.tup vs) a=H a:=λa f=>upd_ne λe=>n (.inl (e▸f));obtain⟨q,s,rfl,t,m⟩:=OwL.et j;refine⟨⟨q++s,Ows.cons (.tup aD (Ows.step (Kp.put (.inr g)) (λc z=>.inl z) l (λa f=>k a (aah _ f)) (OwL.ub e t))) (Ows.step (Kp.put (.inr g)) (λc z=>.inl z) l (λa f=>k a (aag _ f)) m),r,h⟩,i.fr,i.s0,i.nt⟩
theorem Wd.ea(w:Wd b H (vs.zip xs++L))(e:vs.length=xs.length)(g:H p=none):Wd b (upd H p (.lst vs)) ((.ref p,.lst xs)::L):=by
 obtain⟨A,j,t,h⟩:=w.out;have m:=w.al j g;have r:=w.qd j;have i:=w.new g (o:=.lst vs);have q:∀a∈A,upd H p (.lst vs) a=H a:=λa f=>upd_ne λe=>m (.inl (e▸f));obtain⟨k,l,rfl,B,s⟩:=OwL.et j;have n:∀c,(c∈p::(k++l)\/b.S0 c)->(c∈k++l\/b.S0 c)\/H c=none:=λc z=>by
  rcases z with z|z
  ·rcases aab.mp z with rfl|z
   ·exact .inr g
   ·exact .inl (.inl z)
  ·exact .inl (.inr z)
 refine⟨⟨p::(k++l),Ows.cons (.lst aD (Ows.step (Kp.put (.inr g)) n r (λa f=>q a (aah _ f)) (OwL.ub e B))) (Ows.step (Kp.put (.inr g)) n r (λa f=>q a (aag _ f)) s),aaE.mpr ⟨λz=>m (.inl z),t⟩,λa f=>?_⟩,i.fr,i.s0,i.nt⟩;rcases aab.mp f with rfl|f
 ·exact .inl (w.newC g)
 ·exact h a f
theorem Wd.u2(w:Wd b H L)(f:H p=none):Wd b (upd H p (.dK [])) ((.ref p,.dic [] [])::L):=by
 obtain⟨A,h,l,j⟩:=w.out;have k:=w.al h f;have m:=w.qd h;have i:=w.new f (o:=.dK []);have n:∀c,(c∈p::A\/b.S0 c)->(c∈A\/b.S0 c)\/H c=none:=λc z=>by
  rcases z with z|z
  ·rcases aab.mp z with rfl|z
   ·exact .inr f
   ·exact .inl (.inl z)
  ·exact .inl (.inr z)
 refine⟨⟨p::A,Ows.cons (A:=[p]) (.dic aD rfl rfl .nil) (Ows.step (Kp.put (.inr f)) n m (λa g=>upd_ne λe=>k (.inl (e▸g))) h),aaE.mpr ⟨λz=>k (.inl z),l⟩,λa g=>?_⟩,i.fr,i.s0,i.nt⟩;rcases aab.mp g with rfl|g
 ·exact .inl (w.newC f)
 ·exact j a g
end
def OD.kids:OD->List OD
 |.lst xs=>xs|.tup xs=>xs|.dic _ xs=>xs|.obj _ _ xs=>xs
 |_=>[]
def OD.dw(k:Nat)(y:OD):OD->OD
 |.lst xs=>.lst (xs.set k y)|.tup xs=>.tup (xs.set k y)|.dic ks xs=>.dic ks (xs.set k y)|.obj c ns xs=>.obj c ns (xs.set k y)
 |x=>x
def OD.at:List Nat->OD->Option OD
 |[],x=>some x
 |k::ks,x=>match x.kids[k]? with|some z=>OD.at ks z|none=>none
def OD.put(y:OD):List Nat->OD->OD
 |[],_=>y
 |k::ks,x=>match x.kids[k]? with|some z=>OD.dw k (OD.put y ks z) x|none=>x
inductive Chd (b:Bs)(H:Hp):V->OD->Nat->V->OD->Prop
 |lst {a vs xs k w z}:H a=some (.lst vs)->vs.length=xs.length->vs[k]?=some w->xs[k]?=some z->Chd b H (.ref a) (.lst xs) k w z
 |tup {a vs xs k w z}:H a=some (.tup vs)->vs.length=xs.length->vs[k]?=some w->xs[k]?=some z->Chd b H (.ref a) (.tup xs) k w z
 |dic {a ws ks xs k w z}:H a=some (.dK ws)->ws.map (·.1)=ks->ws.length=xs.length->(ws[k]?).map (·.2)=some w->xs[k]?=some z->Chd b H (.ref a) (.dic ks xs) k w z
 |obj {a dx c fs ns xs k w z}:H a=some (.ins (aU b.K c) dx fs)->fs.map (·.1)=ns->fs.length=xs.length->(fs[k]?).map (·.2)=some w->xs[k]?=some z->Chd b H (.ref a) (.obj c ns xs) k w z
inductive Chn (b:Bs)(H:Hp):V->OD->List Nat->V->OD->Prop
 |nil {v x}:Chn b H v x [] v x
 |cons {v x k w z ks u y}:Chd b H v x k w z->Chn b H w z ks u y->Chn b H v x (k::ks) u y
section
variable{b:Bs}{S S':Addr->Prop}{H H1 H':Hp}{L L':List (V×OD)}{v u:V}{x y:OD}{d:PyData}{ds:List PyData}{p a:Addr}
theorem bW{f:Type}(c B e:List f):(c++(B++e)).Perm (B++(c++e)):=by rw[<-aac,<-aac];exact aaY.append_right _
theorem bz{c:Type}:∀{l:List c}{i:Nat}{x:c},l[i]?=some x->l.set i x=l
 |[],_,_,e=>by simp at e
 |_::_,0,_,e=>by simp at e;subst e;rfl
 |y::l,i+1,x,e=>by rw[aaK,bz (by simpa using e)]
theorem Ow.kid(h:Ow b S H v x A)(e:x.kids[k]?=some z):∃w B D,Chd b H v x k w z/\Ow b S H w z B/\A.Perm (B++D) /\
  ∀{S':Addr->Prop}{H':Hp}{r:OD}{j:List Addr},Kp S H H'->(∀c,S' c->S c\/H c=none)->(∀a xs,H a=some (.tup xs)->¬ S a)->(∀a∈D,H' a=H a)->Ow b S' H' w r j->∃C,Ow b S' H' v (OD.dw k r x) C/\C.Perm (j++D):=by
 cases h with
 |fz _=>cases k<;>cases e
 |pinL _ _=>cases k<;>cases e
 |pinT _ _=>cases k<;>cases e
 |hole _=>cases k<;>cases e
 |@lst a vs xs A e1 t=>obtain⟨w,f,B,g,i,rfl,o,m⟩:=t.zip e;refine⟨w,B,a::(f++g),.lst e1 t.len i e,o,((bW f B g).cons a).trans aaz.symm,λ{S' H' r j} k n hs s h=>?_⟩;have:=m h λl h=>Ow.step k n hs (λa q=>s a (aal _ (aai.mpr (l a q)))) h;rw[bz i]at this;exact⟨_,.lst ((s a aaj).trans e1) this,((bW f j g).cons a).trans aaz.symm⟩
 |@tup a vs xs A e1 t=>obtain⟨w,f,B,g,i,rfl,o,m⟩:=t.zip e;refine⟨w,B,f++g,.tup e1 t.len i e,o,bW f B g,λ{S' H' r j} k n hs s h=>?_⟩;have:=m h λl h=>Ow.step k n hs (λa q=>s a (aai.mpr (l a q))) h;rw[bz i]at this;exact⟨_,.tup (k.k _ _ e1 (hs _ _ e1)) this,bW f j g⟩
 |@dic a ws ks vs xs A e1 h5 h6 t=>obtain⟨w,f,B,g,i,rfl,o,m⟩:=t.zip e;refine⟨w,B,a::(f++g),.dic e1 h5 (by rw[<-t.len,<-h6,aaa]) (by rw[<-h6]at i;simpa using i) e,o,((bW f B g).cons a).trans aaz.symm,λ{S' H' r j} k n hs s h=>?_⟩;have:=m h λl h=>Ow.step k n hs (λa q=>s a (aal _ (aai.mpr (l a q)))) h;rw[bz i]at this;exact⟨_,.dic ((s a aaj).trans e1) h5 h6 this,((bW f j g).cons a).trans aaz.symm⟩
 |@obj a dx c fs ns vs xs A e1 e2 h5 h6 t=>
  obtain⟨w,f,B,g,i,rfl,o,m⟩:=t.zip e;have G:∀B:List Addr,(a::dx::(f++(B++g))).Perm (B++(a::dx::(f++g))):=λB=>by refine(((bW f B g).cons dx).cons a).trans ?_;exact((aaz ).symm.cons a).trans aaz.symm
  refine⟨w,B,a::dx::(f++g),.obj e1 h5 (by rw[<-t.len,<-h6,aaa]) (by rw[<-h6]at i;simpa using i) e,o,G B,λ{S' H' r j} k n hs s h=>?_⟩;have:=m h λl h=>Ow.step k n hs (λa q=>s a (aal _ (aal _ (aai.mpr (l a q))))) h;rw[bz i]at this;exact⟨_,.obj ((s a aaj).trans e1) ((s dx (aal _ aaj)).trans e2) h5 h6 this,G j⟩
theorem Ow.path:∀{ks:List Nat}{v:V}{x:OD}{A:List Addr}{y:OD},Ow b S H v x A->x.at ks=some y->∃u B i,Chn b H v x ks u y/\Ow b S H u y B/\A.Perm (B++i) /\
  ∀{S':Addr->Prop}{H':Hp}{l:OD}{f:List Addr},Kp S H H'->(∀c,S' c->S c\/H c=none)->(∀a xs,H a=some (.tup xs)->¬ S a)->(∀a∈i,H' a=H a)->Ow b S' H' u l f->∃g,Ow b S' H' v (OD.put l ks x) g/\g.Perm (f++i)
 |[],v,x,A,y,h,e=>by simp only[OD.at]at e;cases e;exact⟨v,A,[],.nil,h,by simp,λ{S' H' l f} _ _ _ _ h=>⟨f,h,by simp⟩⟩
 |k::ks,v,x,A,y,h,e=>by
  simp only[OD.at]at e;cases j:x.kids[k]? with
  |none=>rw[j]at e;cases e
  |some z=>rw[j]at e;simp only at e;obtain⟨w,B,i,r,Q,U,C⟩:=h.kid j;obtain⟨u,N,O,o,q,T,D⟩:=Ow.path Q e;refine⟨u,N,O++i,.cons r o,q,U.trans (by rw[<-aac];exact T.append_right _),λ{S' H' l f} k' n hs s h=>?_⟩;obtain⟨X,J,t⟩:=D k' n hs (λa m=>s a (aah _ m)) h;obtain⟨G,I,M⟩:=C k' n hs (λa m=>s a (aag _ m)) J;refine⟨G,?_,M.trans (by rw[<-aac];exact t.append_right _)⟩;simp only[OD.put,j];exact I
end
end
section
section
variable{b:Bs}{S S':Addr->Prop}{H H1 H':Hp}{L L':List (V×OD)}{v u:V}{x y:OD}{d:PyData}{ds:List PyData}{p a:Addr}{us:List V}{zs:List OD}{ks:List Nat}
theorem Wd.wj(w:Wd b H (us.zip zs++((v,x)::L)))(el:us.length=zs.length)(e:x.at ks=some y):∃(S:Addr->Prop) (u:V) (B C:List Addr),Chn b H v x ks u y/\Ow b S H u y B/\Ows b S H us zs C/\(B++C).Nodup/\(∀c∈B,S c)/\(∀c,H c=none->¬ S c)/\(∀c xs,H c=some (.tup xs)->¬ S c)/\FrzIn b S H L /\
  ∀{H':Hp}{y':OD}{D:List Addr},(∀c,c ∉ B->H' c=H c)->(∀c∈B,∃o,H' c=some o/\MutO o)->D.Nodup->(∀c∈D,c∈B\/c∈C)->(∀S':Addr->Prop,(∀c,S' c->S c)->(∀c∈B,S' c->c∈D)->Ow b S' H' u y' D)->Wd b H' ((v,OD.put y' ks x)::L):=by
 obtain⟨A0,X,nd,m⟩:=w.out;have O:=w.qd X;have al:=λ{a}=>w.al X (a:=a);obtain⟨C,A1,rfl,hz,h1⟩:=OwL.et X;cases h1 with
 |@cons _ _ A _ _ E r t=>
  obtain⟨u,B,N,ch,hy,pB,go⟩:=Ow.path r e;obtain⟨nC,Y,s⟩:=aaD.mp nd;obtain⟨nA,nE,l⟩:=aaD.mp Y;have T:=pB.nodup_iff.mp nA;obtain⟨nB,Z,G⟩:=aaD.mp T;have f:∀c,c∈A ↔ c∈B\/c∈N:=λc=>by rw[pB.mem_iff,aai]
  refine⟨_,u,B,C,ch,hy,OwL.ub el hz,aaD.mpr ⟨nB,nC,λc h J i e=>s J i c (aah _ ((f c).mpr (.inl h))) e.symm⟩,λc h=>.inl (aag _ (aah _ ((f c).mpr (.inl h)))),λc e=>al e,O,OwL.uh t,λ{H' y' D} hk hm nD sD hO=>?_⟩;have Q:Kp (λc=>c∈C++(A++E)\/b.S0 c) H H':=⟨λc o e n=>by
    rw[hk c λz=>n (.inl (aag _ (aah _ ((f c).mpr (.inl z)))))];exact e,λc e=>by
    by_cases z:c∈B
    ·obtain⟨o,q,_⟩:=hm c z;rw[q]at e;cases e
    ·rw[hk c z]at e;exact e⟩
  have j:∀c,(c∈(D++N)++E\/b.S0 c)->(c∈C++(A++E)\/b.S0 c):=λc z=>z.imp (λz=>by
   rcases aai.mp z with z|z
   ·rcases aai.mp z with z|z
    ·rcases sD c z with z|z
     ·exact aag _ (aah _ ((f c).mpr (.inl z)))
     ·exact aah _ z
    ·exact aag _ (aah _ ((f c).mpr (.inr z)))
   ·exact aag _ (aag _ z)) id
  obtain⟨M,hx,pA⟩:=go Q (λc z=>.inl (j c z)) O (λc h=>hk c λz=>G c z c h rfl) (hO _ j λc h z=>by
   rcases z with z|z
   ·rcases aai.mp z with z|z
    ·rcases aai.mp z with z|z
     ·exact z
     ·exact absurd rfl (G c h c z)
    ·exact absurd rfl (l c ((f c).mpr (.inl h)) c z)
   ·exact absurd z (w.dj m c (aag _ (aah _ ((f c).mpr (.inl h))))))
  have g:∀c,c∈M ↔ c∈D++N:=λc=>pA.mem_iff;have I:∀c xs,H' c=some (.tup xs)->¬ (c∈(D++N)++E\/b.S0 c):=λc xs e z=>by
   by_cases q:c∈B
   ·obtain⟨o,q1,q2⟩:=hm c q;rw[q1]at e;cases e;exact q2
   ·rw[hk c q]at e;exact O c xs e (j c z)
  have a0:∀c∈D,∀J∈N,c≠J:=λc h J i e=>by
   subst e;rcases sD c h with z|z
   ·exact G c z c i rfl
   ·exact s c z c (aah _ ((f c).mpr (.inr i))) rfl
  refine⟨⟨M++E,Ows.cons (Ow.sub I (λc z=>z.imp (λz=>(aai.mp z).elim (λz=>aah _ ((g c).mp z)) (aag _)) id) hx) (Ows.step Q (λc z=>.inl (j c (z.imp (λz=>(aai.mp z).elim (λz=>aah _ ((g c).mp z)) (aag _)) id))) O (λc h=>hk c λz=>l c ((f c).mpr (.inl z)) c h rfl) t),?_,λc h=>?_⟩,?_,w.s0,λc xs e z=>?_⟩
  ·refine aaD.mpr ⟨pA.nodup_iff.mpr (aaD.mpr ⟨nD,Z,a0⟩),nE,λc h J i e=>?_⟩;subst e;rcases aai.mp ((g c).mp h) with z|z
   ·rcases sD c z with z|z
    ·exact l c ((f c).mpr (.inl z)) c i rfl
    ·exact s c z c (aag _ i) rfl
   ·exact l c ((f c).mpr (.inr z)) c i rfl
  ·have:c∈C++(A++E)\/b.S0 c:=j c (.inl ((aai.mp h).elim (λz=>aah _ ((g c).mp z)) (aag _)));have U:c∈C++(A++E):=by
    rcases aai.mp h with z|z
    ·rcases aai.mp ((g c).mp z) with z|z
     ·rcases sD c z with z|z
      ·exact aag _ (aah _ ((f c).mpr (.inl z)))
      ·exact aah _ z
     ·exact aag _ (aah _ ((f c).mpr (.inr z)))
    ·exact aag _ (aag _ z)
   exact m c U
  ·refine⟨λc o e n=>?_,λc e=>w.fr.n c (Q.n c e)⟩;rw[hk c λz=>?_]
   ·exact w.fr.k c o e n
   ·rcases m c (aag _ (aah _ ((f c).mpr (.inl z)))) with q|q
    ·rw[q]at e;cases e
    ·exact n q
  ·exact I c xs e (.inr z)
theorem Wd.ri(w:Wd b H (us.zip zs++((v,x)::L)))(X:us.length=zs.length)(e:x.at ks=some (.lst xs)):∃a vs,Chn b H v x ks (.ref a) (.lst xs)/\H a=some (.lst vs)/\vs.length=xs.length /\
  ∀f i,(∀(S:Addr->Prop) (H:Hp) (A C:List Addr),(∀c xs,H c=some (.tup xs)->¬ S c)->Ows b S H vs xs A->Ows b S H us zs C->(A++C).Nodup->∃D,Ows b S H f i D/\D.Nodup/\∀c∈D,c∈A\/c∈C)->Wd b (upd H a (.lst f)) ((v,OD.put (.lst i) ks x)::L):=by
 obtain⟨S,u,B,C,Q,hy,M,Y,O,al,l,fi,T⟩:=w.wj X e;cases hy with
 |@lst a vs _ A e1 t=>
  refine⟨a,vs,Q,e1,t.len,λf i Z=>?_⟩;obtain⟨k,G⟩:=aaE.mp (show (a::(A++C)).Nodup from Y);have j:∀c,c≠a->upd H a (.lst f) c=H c:=λc n=>upd_ne n;have I:Kp S H (upd H a (.lst f)):=Kp.put (.inl (O a (by simp)));have s:∀S':Addr->Prop,(∀c,S' c->S c)->∃D,Ows b S' (upd H a (.lst f)) f i D/\D.Nodup/\∀c∈D,c∈A\/c∈C:=λS' h=>by
   refine Z S' _ A C (λc xs e z=>?_) (Ows.step I (λc z=>.inl (h c z)) l (λc g=>j c λe=>k (e▸aah _ g)) t) (Ows.step I (λc z=>.inl (h c z)) l (λc g=>j c λe=>k (e▸aag _ g)) M) G;by_cases q:c=a
   ·subst q;rw[aD]at e;cases e
   ·rw[upd_ne q]at e;exact l c xs e (h c z)
  obtain⟨D,U,N,J⟩:=s S λ_ z=>z;have r:∀c xs,upd H a (.lst f) c=some (.tup xs)->¬ S c:=λc xs e z=>by
   by_cases q:c=a
   ·subst q;rw[aD]at e;cases e
   ·rw[upd_ne q]at e;exact l c xs e z
  refine T (λc n=>j c λe=>n (by simp[e])) (λc g=>?_) (aaE.mpr ⟨λz=>k (by rcases J a z with z|z<;>simp[z]),N⟩) (λc g=>?_) λS' h _=>.lst aD (Ows.sub r h U)
  ·rcases aab.mp g with rfl|g
   ·exact⟨_,aD,trivial⟩
   ·obtain⟨o,q,m⟩:=t.mu c g;exact⟨o,by rw[j c λe=>k (e▸aah _ g)];exact q,m⟩
  ·rcases aab.mp g with rfl|g
   ·exact .inl (by simp)
   ·exact(J c g).imp (aal _) id
theorem Wd.sk(w:Wd b H (us.zip zs++((v,x)::L)))(Y:us.length=zs.length)(e:x.at ks=some (.dic kk xs)):∃a ws,Chn b H v x ks (.ref a) (.dic kk xs)/\H a=some (.dK ws)/\ws.map (·.1)=kk/\ws.length=xs.length /\
  ∀f i h,f.map (·.1)=i->(∀(S:Addr->Prop) (H:Hp) (A C:List Addr),(∀c xs,H c=some (.tup xs)->¬ S c)->Ows b S H (ws.map (·.2)) xs A->Ows b S H us zs C->(A++C).Nodup->∃D,Ows b S H (f.map (·.2)) h D/\D.Nodup/\∀c∈D,c∈A\/c∈C)->Wd b (upd H a (.dK f)) ((v,OD.put (.dic i h) ks x)::L):=by
 obtain⟨S,u,B,C,T,hy,O,Z,Q,al,I,fi,U⟩:=w.wj Y e;cases hy with
 |@dic a ws _ vs _ A e1 h5 h6 t=>
  subst h6;refine⟨a,ws,T,e1,h5,by have:=t.len;rwa [aaa]at this,λf i h s hf=>?_⟩;obtain⟨l,G⟩:=aaE.mp (show (a::(A++C)).Nodup from Z);have k:∀c,c≠a->upd H a (.dK f) c=H c:=λc n=>upd_ne n;have J:Kp S H (upd H a (.dK f)):=Kp.put (.inl (Q a (by simp)));have j:∀c xs,upd H a (.dK f) c=some (.tup xs)->¬ S c:=λc xs e z=>by
   by_cases q:c=a
   ·subst q;rw[aD]at e;cases e
   ·rw[upd_ne q]at e;exact I c xs e z
  obtain⟨D,X,N,M⟩:=hf S _ A C j (Ows.step J (λc z=>.inl z) I (λc g=>k c λe=>l (e▸aah _ g)) t) (Ows.step J (λc z=>.inl z) I (λc g=>k c λe=>l (e▸aag _ g)) O) G;refine U (λc n=>k c λe=>n (by simp[e])) (λc g=>?_) (aaE.mpr ⟨λz=>l (by rcases M a z with z|z<;>simp[z]),N⟩) (λc g=>?_) λS' r _=>.dic aD s rfl (Ows.sub j r X)
  ·rcases aab.mp g with rfl|g
   ·exact⟨_,aD,trivial⟩
   ·obtain⟨o,q,m⟩:=t.mu c g;exact⟨o,by rw[k c λe=>l (e▸aah _ g)];exact q,m⟩
  ·rcases aab.mp g with rfl|g
   ·exact .inl (by simp)
   ·exact(M c g).imp (aal _) id
theorem Chd.det(h:Chd b H v x k w z)(h':Chd b H v x k w' z'):w=w'/\z=z':=by
 cases h with
 |lst g m i j=>cases h' with|lst f l e c=>rw[g]at f;cases f;rw[i]at e;cases e;rw[j]at c;cases c;exact⟨rfl,rfl⟩
 |tup g m i j=>cases h' with|tup f l e c=>rw[g]at f;cases f;rw[i]at e;cases e;rw[j]at c;cases c;exact⟨rfl,rfl⟩
 |dic g m o i j=>cases h' with|dic f l n e c=>rw[g]at f;cases f;rw[i]at e;cases e;rw[j]at c;cases c;exact⟨rfl,rfl⟩
 |obj g m o i j=>cases h' with|obj f l n e c=>rw[g]at f;cases f;rw[i]at e;cases e;rw[j]at c;cases c;exact⟨rfl,rfl⟩
theorem Chd.same(h:Chd b H v x k w z)(h':Chd b H v (OD.dw k y x) k w' y'):w=w':=by
 cases h with
 |lst f l g m=>cases h' with|lst e i c j=>rw[f]at e;cases e;rw[g]at c;cases c;rfl
 |tup f l g m=>cases h' with|tup e i c j=>rw[f]at e;cases e;rw[g]at c;cases c;rfl
 |dic f l o g m=>cases h' with|dic e i n c j=>rw[f]at e;cases e;rw[g]at c;cases c;rfl
 |obj f l o g m=>cases h' with|obj e i n c j=>rw[f]at e;cases e;rw[g]at c;cases c;rfl
theorem Chd.kid(h:Chd b H v x k w z):x.kids[k]?=some z:=by
 cases h with
 |lst _ _ _ e=>exact e
 |tup _ _ _ e=>exact e
 |dic _ _ _ _ e=>exact e
 |obj _ _ _ _ e=>exact e
theorem Chd.set(h:Chd b H v x k w z):(OD.dw k y x).kids[k]?=some y:=by
 cases h with
 |lst _ _ _ e=>exact aa3 (aan.mp e).1
 |tup _ _ _ e=>exact aa3 (aan.mp e).1
 |dic _ _ _ _ e=>exact aa3 (aan.mp e).1
 |obj _ _ _ _ e=>exact aa3 (aan.mp e).1
theorem Wd.u3(w:Wd b H ((v,x)::L))(e:x.at ks=some y)(t:y.dat=some d):∃u,Chn b H v x ks u y/\Wd b H ((u,.fz d)::(v,OD.put (.fz d) ks x)::L):=by
 obtain⟨S,u,B,C,l,m,hz,nd,hS,al,X,fi,O⟩:=Wd.wj (us:=[]) (zs:=[]) w rfl e;have N:Wd b H ((v,OD.put (.fz d) ks x)::L):=O (λ_ _=>rfl) (λc i=>m.mu c i) aa7 (λc i=>by cases i) λS' h s=>.fz (Ow.frz h X (λa U z=>by cases s a U z) m t);refine⟨u,l,N.add λj T I Q=>?_⟩;obtain⟨A1,D⟩:=T (v,OD.put (.fz d) ks x) (by simp);have q:∀{ks:List Nat}{v u:V}{x:OD}{A:List Addr},Chn b H v x ks u y->Ow b j H v (OD.put (.fz d) ks x) A->Fz b.K j H u d:=λ{ks}=>by
  induction ks with
  |nil=>intro v u x A c o;cases c;simp only[OD.put]at o;cases o with|fz f=>exact f
  |cons k ks r=>
   intro v u x A c o;cases c with
   |cons g n=>have M:=g.kid;simp only[OD.put,M]at o;obtain⟨u',Z,A',G,J,_⟩:=o.kid g.set;have Y:=g.same G;subst Y;exact r n J
 exact q l D
end
end
section
abbrev DSp:=List OD->(OD->List OD->Prop)->Prop
def JF(K:Waa)(S:Addr->Prop)(A:List Addr)(vs:List V)(H:Hp)(Q:VK)(x:OD)(ys:List OD):Prop:=∀v b B,Kp (λa=>a∈A) H b ->
 Ows ⟨K,H,S,λa=>a∈A⟩ (λa=>a∈B\/S a) b (v::vs) (x::ys) B->B.Nodup->(∀a∈B,H a=none\/a∈A)->Q v b
def toSp(K:Waa)(sp:DSp):Sp:=λc H Q _=>∃(S:Addr->Prop) (b:List OD) (A:List Addr),(∀a,S a->H a≠none/\a ∉ A)/\(∀a b,H a=some (.tup b)->¬ S a) /\
 Ows ⟨K,H,S,λa=>a∈A⟩ (λa=>a∈A\/S a) H c b A/\A.Nodup/\sp b (JF K S A c H Q)
def xx(sp:DSp):Prop:=∀a (P R:OD->List OD->Prop),(∀x b,P x b->R x b)->sp a P->sp a R
section
variable{b:Bs}{H H':Hp}{L:List (V×OD)}{v:V}{x:OD}
theorem Wd.call(w:Wd b H (us.zip xs++L))(Z:us.length=xs.length)(l:xx sp)
  (h:sp xs λx ys=>us.length=ys.length->∀v H',Wd b H' ((v,x)::(us.zip ys++L))->Q v H'):toSp b.K sp us H Q E:=by
 obtain⟨A0,D,nd,f⟩:=w.out;have u:=w.qd D;have r:=λ{a}=>w.al D (a:=a);obtain⟨A,g,rfl,h1,N⟩:=OwL.et D;obtain⟨X,G,s⟩:=aaD.mp nd;have m:=w.dj f;refine⟨λa=>a∈g\/b.S0 a,xs,A,λa z=>⟨λe=>r e (z.imp (aag _) id),λd=>?_⟩,λa xs e z=>u a xs e (z.imp (aag _) id),?_,X,l _ _ _ (λx ys T v H' B q J S C=>?_) h⟩
 ·rcases z with z|z
  ·exact s a d a z rfl
  ·exact m a (aah _ d) z
 ·refine Ows.subB (b2:=⟨b.K,H,λa=>a∈g\/b.S0 a,λa=>a∈A⟩) (b:=b) rfl u (λc z=>?_) (OwL.ub Z h1);rcases z with z|z|z
  ·exact .inl (aah _ z)
  ·exact .inl (aag _ z)
  ·exact .inr z
 have y:us.length=ys.length:=by have:=J.len;simpa using this
 have i:∀a,a ∉ A->H a≠none->H' a=H a:=λa d j=>by
  cases e:H a with
  |none=>exact absurd e j
  |some o=>exact q.k a o e d
 have I:Kp (λa=>a∈A++g\/b.S0 a) H H':=q.weak λc t=>.inl (.inl (aah _ t));have U:∀c,(c∈B++g\/b.S0 c)->(c∈A++g\/b.S0 c)\/H c=none:=λc z=>by
  rcases z with z|z
  ·rcases aai.mp z with z|z
   ·exact(C c z).elim .inr λz=>.inl (.inl (aah _ z))
   ·exact .inl (.inl (aag _ z))
  ·exact .inl (.inr z)
 have p:∀a xs,H' a=some (.tup xs)->¬ (a∈B\/a∈g\/b.S0 a):=λa xs e z=>by
  rcases z with z|z
  ·exact J.tl a z xs e
  ·have d:a ∉ A:=λd=>by
    rcases z with z|z
    ·exact s a d a z rfl
    ·exact m a (aah _ d) z
   have Y:H a≠none:=λe=>r e (z.imp (aag _) id);rw[i a d Y]at e;exact u a xs e (z.imp (aag _) id)
 have O:((v,x)::(us.zip ys++L))=((v::us).zip (x::ys))++L:=rfl;refine T y v H' ?_;rw[O];refine⟨⟨B++g,OwL.kn (OwL.h8 (Ows.subB (b2:=b) (b:=⟨b.K,H,λa=>a∈g\/b.S0 a,λa=>a∈A⟩) rfl p (λc z=>?_) J)) (Ows.step I U u (λa j=>i a (λd=>s a d a j rfl) λe=>r e (.inl (aag _ j))) N),aaD.mpr ⟨S,G,λa j c t e=>?_⟩,λa j=>?_⟩,?_,w.s0,λa xs e z=>p a xs e (.inr (.inr z))⟩
 ·rcases z with z|z
  ·exact(aai.mp z).imp id .inl
  ·exact .inr (.inr z)
 ·subst e;rcases C a j with z|z
  ·exact r z (.inl (aag _ t))
  ·exact s a z a t rfl
 ·rcases aai.mp j with z|z
  ·rcases C a z with z|z
   ·exact .inl (w.newC z)
   ·exact f a (aah _ z)
  ·exact f a (aag _ z)
 ·refine⟨λc o e M=>q.k c o (w.fr.k c o e M) λd=>?_,λc e=>w.fr.n c (q.n c e)⟩;rcases f c (aah _ d) with z|z
  ·rw[z]at e;cases e
  ·exact M z
theorem Wd.pin(w:Wd b H ((v,.fz d)::L))(e:d=if l then .list ds else .tuple ds):∃xs,Wd b H ((v,.pin l xs ds)::L):=by
 obtain⟨j,i,h,c⟩:=w.out;cases i with
 |cons r t=>
  cases r with
  |fz r=>
   cases l with
   |true=>subst e;obtain⟨a,xs,rfl,g,f⟩:=r.q7;exact⟨xs,⟨⟨_,Ows.cons (.pinL g f) t,h,c⟩,w.fr,w.s0,w.nt⟩⟩
   |false=>subst e;obtain⟨a,xs,rfl,g,f⟩:=r.ry;exact⟨xs,⟨⟨_,Ows.cons (.pinT g f) t,h,c⟩,w.fr,w.s0,w.nt⟩⟩
theorem Wd.pinned(w:Wd b H L)(m:(v,OD.pin l xs ds)∈L):∃a,v=.ref a/\xs.length=ds.length/\(if l then SqL b.K H a xs else SqT b.K H a xs)/\Wd b H (xs.zip (ds.map OD.fz)++L):=by
 obtain⟨A,e,i,f⟩:=w.out;obtain⟨B,h⟩:=OwL.mem e m;have q:Wd b H (xs.zip (ds.map OD.fz)++L):=w.adds λS g=>by
  obtain⟨B,h⟩:=g _ m;cases h with
  |pinL _ t=>exact t
  |pinT _ t=>exact t
 cases h with
 |pinL d c=>exact⟨_,rfl,c.length,d.now,q⟩
 |pinT d c=>exact⟨_,rfl,c.length,d.now,q⟩
end
end
section
abbrev DEnv:=List (Option OD)
def flat:St->DEnv->List (V×OD)
 |some v::σ,some x::ρ=>(v,x)::flat σ ρ
 |_::σ,_::ρ=>flat σ ρ
 |_,_=>[]
def Wf:St->DEnv->Prop
 |[],[]=>True
 |_::σ,none::ρ=>Wf σ ρ
 |some _::σ,some _::ρ=>Wf σ ρ
 |_,_=>False
section
variable{σ:St}{ρ:DEnv}{i:Nat}{x y:OD}{v u:V}
theorem bo:flat (o::σ) (none::ρ)=flat σ ρ:=by cases o<;>rfl
theorem Wf.get:∀{σ:St}{ρ:DEnv}{i:Nat},Wf σ ρ->ρ[i]?=some (some x)->∃v,σ[i]?=some (some v)
 |[],[],_,_,e=>by simp at e
 |[],_::_,_,h,_=>by simp[Wf]at h
 |_::_,[],_,_,e=>by simp at e
 |some v::_,some _::_,0,_,_=>⟨v,rfl⟩
 |none::_,some _::_,_,h,_=>by simp[Wf]at h
 |o::_,none::_,0,_,e=>by simp at e
 |o::σ,none::ρ,i+1,h,e=>by obtain⟨v,q⟩:=Wf.get (ρ:=ρ) h (by simpa using e);exact⟨v,by simpa using q⟩
 |some _::σ,some _::ρ,i+1,h,e=>by obtain⟨v,q⟩:=Wf.get (ρ:=ρ) h (by simpa using e);exact⟨v,by simpa using q⟩
theorem Wf.len:∀{σ:St}{ρ:DEnv},Wf σ ρ->σ.length=ρ.length
 |[],[],_=>rfl
 |[],_::_,h=>by simp[Wf]at h
 |_::_,[],h=>by simp[Wf]at h
 |o::σ,none::ρ,h=>by simp[Wf.len (σ:=σ) h]
 |some _::σ,some _::ρ,h=>by simp[Wf.len (ρ:=ρ) h]
 |none::_,some _::_,h=>by simp[Wf]at h
theorem Wf.off:∀{σ:St}{ρ:DEnv}{i:Nat},Wf σ ρ->Wf σ (ρ.set i none)
 |[],[],_,_=>trivial
 |[],_::_,_,h=>by simp[Wf]at h
 |_::_,[],_,h=>by simp[Wf]at h
 |o::σ,none::ρ,0,h=>h
 |some _::σ,some _::ρ,0,h=>h
 |none::_,some _::_,_,h=>by simp[Wf]at h
 |o::σ,none::ρ,i+1,h=>Wf.off (σ:=σ) h
 |some _::σ,some _::ρ,i+1,h=>Wf.off (i:=i) h
theorem Wf.put:∀{σ:St}{ρ:DEnv}{i:Nat},Wf σ ρ->Wf (σ.set i (some v)) (ρ.set i (some x))
 |[],[],_,_=>trivial
 |[],_::_,_,h=>by simp[Wf]at h
 |_::_,[],_,h=>by simp[Wf]at h
 |o::σ,none::ρ,0,h=>h
 |some _::σ,some _::ρ,0,h=>h
 |none::_,some _::_,_,h=>by simp[Wf]at h
 |o::σ,none::ρ,i+1,h=>Wf.put (σ:=σ) h
 |some _::σ,some _::ρ,i+1,h=>Wf.put (i:=i) h
theorem bE:∀{σ:St}{ρ:DEnv}{i:Nat},ρ[i]?=some (some x)->σ[i]?=some (some v)->(flat σ ρ).Perm ((v,x)::flat σ (ρ.set i none))
 |[],_,_,_,e=>by simp at e
 |_::_,[],_,e,_=>by simp at e
 |some u::σ,some y::ρ,0,e,e'=>by simp at e e';subst e e';exact .refl _
 |none::_,_::_,0,_,e=>by simp at e
 |some _::_,none::_,0,e,_=>by simp at e
 |o::σ,none::ρ,i+1,e,e'=>by rw[aaK,bo,bo];exact bE (by simpa using e) (by simpa using e')
 |some u::σ,some y::ρ,i+1,e,e'=>by rw[aaK];exact((bE (σ:=σ) (by simpa using e) (by simpa using e')).cons _).trans (List.Perm.swap _ _ _)
 |none::σ,some y::ρ,i+1,e,e'=>by rw[aaK];exact bE (by simpa using e) (by simpa using e')
theorem cH:∀{σ:St}{ρ:DEnv}{i:Nat},i<ρ.length->σ.length=ρ.length->(flat (σ.set i (some v)) (ρ.set i (some x))).Perm ((v,x)::flat σ (ρ.set i none))
 |_,[],_,h,_=>by simp at h
 |[],_::_,_,_,h=>by simp at h
 |o::σ,y::ρ,0,_,_=>by rw[ace,ace,ace,bo];exact .refl _
 |o::σ,none::ρ,i+1,h,h'=>by rw[aaK,aaK,aaK,bo,bo];exact cH (by simpa using h) (by simpa using h')
 |none::σ,some _::ρ,i+1,h,h'=>by rw[aaK,aaK,aaK];exact cH (σ:=σ) (by simpa using h) (by simpa using h')
 |some u::σ,some y::ρ,i+1,h,h'=>by rw[aaK,aaK,aaK];exact((cH (by simpa using h) (by simpa using h')).cons _).trans (List.Perm.swap _ _ _)
theorem set_self{a:Type}:∀{l:List a}{i:Nat}{x:a},l[i]?=some x->l.set i x=l
 |[],_,_,e=>by simp at e
 |_::_,0,_,e=>by simp at e;subst e;rfl
 |y::l,i+1,x,e=>by rw[aaK,set_self (by simpa using e)]
end
inductive OR where|val (x:OD)|rf (i:Nat)
def stk:List V->List OR->List (V×OD)
 |v::τ,.val x::θ=>(v,x)::stk τ θ
 |_::τ,.rf _::θ=>stk τ θ
 |_,_=>[]
def Al(σ:St):List V->List OR->Prop
 |[],[]=>True
 |_::τ,.val _::θ=>Al σ τ θ
 |v::τ,.rf i::θ=>σ[i]?=some (some v)/\Al σ τ θ
 |_,_=>False
structure Fr where
 σ:St
 ρ:DEnv
 τ:List V
 θ:List OR
def ff(F:List Fr):List (V×OD):=F.flatMap λf=>stk f.τ f.θ++flat f.σ f.ρ
structure Rel (b:Bs)(F:List Fr)(σ:St)(H:Hp)(ρ:DEnv)(τ:List V)(θ:List OR):Prop where
 wf:Wf σ ρ
 al:Al σ τ θ
 wff:∀f∈F,Wf f.σ f.ρ/\Al f.σ f.τ f.θ
 wd:Wd b H (stk τ θ++(flat σ ρ++ff F))
def aq(ρ:DEnv):OR->Option PyData
 |.val x=>x.dat
 |.rf i=>(ρ[i]?.join).bind OD.dat
section
variable{b:Bs}{F:List Fr}{σ:St}{H H':Hp}{ρ ρ':DEnv}{τ vs:List V}{θ rs:List OR}{v u:V}{r:OR}{x y:OD}{d:PyData}{i:Nat}
theorem join_some{a:Type}{o:Option (Option a)}{x:a}(h:o.join=some x):o=some (some x):=by
 cases o with
 |none=>cases h
 |some o=>exact congrArg some h
theorem aH:∀{vs τ:List V}{rs θ:List OR},vs.length=rs.length->stk (vs++τ) (rs++θ)=stk vs rs++stk τ θ
 |[],_,[],_,_=>rfl
 |_::vs,τ,.val _::rs,θ,e=>by simp only[aaM,stk];rw[aH (by simpa using e)]
 |_::vs,τ,.rf _::rs,θ,e=>by simp only[aaM,stk];exact aH (by simpa using e)
 |[],_,_::_,_,e=>by simp at e
 |_::_,_,[],_,e=>by simp at e
theorem a9:∀{vs τ:List V}{rs θ:List OR},vs.length=rs.length->(Al σ (vs++τ) (rs++θ) ↔ Al σ vs rs/\Al σ τ θ)
 |[],_,[],_,_=>by simp[Al]
 |_::vs,τ,.val _::rs,θ,e=>by simp only[aaM,Al];exact a9 (by simpa using e)
 |_::vs,τ,.rf _::rs,θ,e=>by simp only[aaM,Al];rw[a9 (by simpa using e),and_assoc]
 |[],_,_::_,_,e=>by simp at e
 |_::_,_,[],_,e=>by simp at e
theorem Rel.xr(R:Rel b F σ H ρ (vs++v::τ) (rs++r::θ))(e:vs.length=rs.length):Rel b F σ H ρ (v::vs++τ) (r::rs++θ):=by
 obtain⟨g,f⟩:=(a9 e).mp R.al;have a:Al σ [v] [r]/\Al σ τ θ:=(a9 rfl).mp f;refine⟨R.wf,(a9 (vs:=[v]) (rs:=[r]) rfl).mpr ⟨a.1,(a9 e).mpr ⟨g,a.2⟩⟩,R.wff,R.wd.perm ?_⟩;refine acA _ ?_;have c:stk (v::vs++τ) (r::rs++θ)=stk [v] [r]++(stk vs rs++stk τ θ):=by rw[<-aH e,<-aH rfl];rfl
 have h:stk (vs++v::τ) (rs++r::θ)=stk vs rs++(stk [v] [r]++stk τ θ):=by rw[aH e,<-aH (rs:=[r]) rfl];rfl
 rw[c,h,<-aac,<-aac];exact aaY.append_right _
theorem Rel.xn(R:Rel b F σ H ρ (v::vs++τ) (r::rs++θ))(e:vs.length=rs.length):Rel b F σ H ρ (vs++v::τ) (rs++r::θ):=by
 obtain⟨f,c⟩:=(a9 (vs:=[v]) (rs:=[r]) rfl).mp R.al;obtain⟨h,j⟩:=(a9 e).mp c;refine⟨R.wf,(a9 e).mpr ⟨h,(a9 rfl).mpr ⟨f,j⟩⟩,R.wff,R.wd.perm ?_⟩;refine acA _ ?_;have a:stk (v::vs++τ) (r::rs++θ)=stk [v] [r]++(stk vs rs++stk τ θ):=by rw[<-aH e,<-aH rfl];rfl
 have g:stk (vs++v::τ) (rs++r::θ)=stk vs rs++(stk [v] [r]++stk τ θ):=by rw[aH e,<-aH (rs:=[r]) rfl];rfl
 rw[a,g,<-aac,<-aac];exact aaY.append_right _
theorem Rel.drop(R:Rel b F σ H ρ (v::τ) (r::θ)):Rel b F σ H ρ τ θ:=by
 cases r with
 |val x=>exact⟨R.wf,R.al,R.wff,R.wd.drop⟩
 |rf i=>exact⟨R.wf,R.al.2,R.wff,R.wd⟩
theorem Rel.drops(R:Rel b F σ H ρ (vs++τ) (rs++θ))(e:vs.length=rs.length):Rel b F σ H ρ τ θ:=by
 induction vs generalizing rs with
 |nil=>cases rs with
  |nil=>exact R
  |cons _ _=>simp at e
 |cons v vs a=>cases rs with
  |nil=>simp at e
  |cons r rs=>exact a (Rel.drop R) (by simpa using e)
theorem Rel.sc(R:Rel b F σ H ρ τ θ)(h:Sc v d):Rel b F σ H ρ (v::τ) (.val (.fz d)::θ):=⟨R.wf,R.al,R.wff,R.wd.sc h⟩
theorem Rel.slot(R:Rel b F σ H ρ τ θ)(e:ρ[i]?=some (some x)):∃v,σ[i]?=some (some v)/\Wd b H ((v,x)::(stk τ θ++(flat σ (ρ.set i none)++ff F))):=by obtain⟨v,a⟩:=R.wf.get e;refine⟨v,a,R.wd.perm ?_⟩;refine((bE e a).append_right _ |>.append_left _).trans ?_;exact aaz
theorem Rel.uk(c:Wf σ ρ)(e:Al (σ.set i (some v)) τ θ)(a:∀f∈F,Wf f.σ f.ρ/\Al f.σ f.τ f.θ)(g:i<ρ.length)(w:Wd b H ((v,x)::(stk τ θ++(flat σ (ρ.set i none)++ff F)))):Rel b F (σ.set i (some v)) H (ρ.set i (some x)) τ θ:=by refine⟨c.put,e,a,w.perm ?_⟩;refine(aaz.symm).trans ?_;exact((cH g c.len).symm.append_right _).append_left _
theorem Rel.back(c:Wf σ ρ)(g:Al σ τ θ)(a:∀f∈F,Wf f.σ f.ρ/\Al f.σ f.τ f.θ)(ev:σ[i]?=some (some v))(w:Wd b H ((v,x)::(stk τ θ++(flat σ (ρ.set i none)++ff F)))):Rel b F σ H (ρ.set i (some x)) τ θ:=by
 have h:i<ρ.length:=by rw[<-c.len];exact(aan.mp ev).1
 have e:σ.set i (some v)=σ:=set_self ev;have:=Rel.uk c (by rw[e];exact g) a h w;rw[e]at this;exact this
theorem Rel.dt(R:Rel b F σ H ρ (v::τ) (r::θ))(e:aq ρ r=some d):Dt b.K H v d:=by
 cases r with
 |val x=>exact R.wd.xc (by simp[stk]) e
 |rf i=>
  simp only[aq,aaT]at e;obtain⟨x,a,c⟩:=e;obtain⟨u,f,w⟩:=R.drop.slot (join_some a);have:v=u:=by have:=R.al.1;rw[f]at this;cases this;rfl
  subst this;exact w.xc (aaj) c
theorem Rel.dt2(R:Rel b F σ H ρ (u::v::τ) (a::r::θ))(e:aq ρ r=some d):Dt b.K H v d:=(R.drop).dt e
theorem Rel.frzS(R:Rel b F σ H ρ τ θ)(e:ρ[i]?=some (some x))(a:x.dat=some d):Rel b F σ H (ρ.set i (some (.fz d))) τ θ:=by obtain⟨v,c,w⟩:=R.slot e;exact Rel.back R.wf R.al R.wff c (w.frz a)
theorem Rel.dupS(R:Rel b F σ H ρ τ θ)(e:ρ[i]?=some (some (.fz d)))(ev:σ[i]?=some (some v)):Rel b F σ H ρ (v::τ) (.val (.fz d)::θ):=by obtain⟨u,a,w⟩:=R.slot e;rw[ev]at a;cases a;have f:=w.dup;have c:ρ.set i (some (.fz d))=ρ:=set_self e;have:=Rel.back (i:=i) (τ:=v::τ) (θ:=.val (.fz d)::θ) R.wf R.al R.wff ev (f.perm (List.Perm.swap _ _ _));rw[c]at this;exact this
def frz1(ρ:DEnv):OR->Option (PyData×DEnv)
 |.val x=>x.dat.map (·,ρ)
 |.rf i=>(ρ[i]?.join).bind λx=>x.dat.map λd=>(d,ρ.set i (some (.fz d)))
theorem Rel.frz1(R:Rel b F σ H ρ (v::τ) (r::θ))(e:frz1 ρ r=some (d,ρ')):Rel b F σ H ρ' (v::τ) (.val (.fz d)::θ):=by
 cases r with
 |val x=>simp only[L2.frz1,aaQ]at e;obtain⟨g,a,c⟩:=e;cases c;exact⟨R.wf,R.al,R.wff,R.wd.frz a⟩
 |rf i=>simp only[L2.frz1,aaT,aaQ]at e;obtain⟨x,a,g,c,f⟩:=e;cases f;have h:i<ρ.length:=(aan.mp (join_some a)).1;exact(R.drop.frzS (join_some a) c).dupS (by rw[aa3 h]) R.al.1
def frzL(ρ:DEnv):List OR->Option (List PyData×DEnv)
 |[]=>some ([],ρ)
 |r::rs=>(L2.frz1 ρ r).bind λz=>(frzL z.2 rs).map λy=>(z.1::y.1,y.2)
theorem jG:∀{vs:List V}{rs:List OR}{ρ ρ':DEnv}{ds:List PyData}{τ:List V}{θ:List OR},Rel b F σ H ρ (vs++τ) (rs++θ)->vs.length=rs.length->L2.frzL ρ rs=some (ds,ρ')->Rel b F σ H ρ' (vs++τ) (ds.map (λd=>OR.val (.fz d))++θ)/\vs.length=ds.length
 |[],[],_,_,_,_,_,R,_,e=>by simp only[L2.frzL]at e;cases e;exact⟨R,rfl⟩
 |v::vs,r::rs,ρ,ρ',ds,τ,θ,R,e,h=>by
  simp only[L2.frzL,aaT,aaQ]at h;obtain⟨⟨d,ρ1⟩,m,⟨j,ρ2⟩,f,k⟩:=h;cases k;have g:Rel b F σ H ρ1 (v::(vs++τ)) (.val (.fz d)::(rs++θ)):=Rel.frz1 R m;have a:vs.length=rs.length:=by simpa using e
  obtain⟨l,c⟩:=jG (Rel.xn g a) a f;exact⟨Rel.xr l (by rw[c,aaa]),by simp[c]⟩
 |[],_::_,_,_,_,_,_,_,e,_=>by simp at e
 |_::_,[],_,_,_,_,_,_,e,_=>by simp at e
end
end
section
section
variable{X:Cx}
def EG(K:Waa):R2:=λx y H Q=>∃l b a c,x=.ref l/\y=.ref b/\SqL K H l a/\SqL K H b c/\a.length+c.length<=sizeLine/\∀p,H p=none->Q (.ref p) (upd H p (.lst (a++c)))
theorem xy:OpR X (binaryOp .Add) (EG X.K):=by
 intro p s Y H x y v u Q I L B h;obtain⟨l,b,N,S,rfl,rfl,A,w,O,q⟩:=h;cases L;cases B;obtain⟨d,r,⟨⟨c,C,T,J⟩,n,e,m,_,t⟩,_⟩:=I.list A;obtain⟨a,k,⟨⟨M,j,D,i⟩,z,o,f,_,g⟩,_⟩:=I.list w;have U:=r.length;have Z:=k.length;simp only at m t f g;subst m t f g;refine concat_meets ⟨_,e,rfl⟩ ⟨_,o,rfl⟩ noFill_list_add seq_list_add PySem.F.slot_list_add PySem.F.entry_list_add (PySem.F.args_list_add_2 _ _) (list_addW l b d.toArray a.toArray n z C j J i (by rw[aax,aax];omega)) ⟨e,o,?_⟩;have G:d.toArray++a.toArray=(d++a).toArray:=by simp
 rw[G];exact⟨.ref _,_,I.lnew (r.append k) (by rw[aad];omega),rfl,q _ I.fresh⟩
end
abbrev DK:=OR->DEnv->Prop
abbrev DE:=DEnv->DK->Prop
abbrev DT:=DEnv->(Bool->DEnv->Prop)->Prop
abbrev DA:=DEnv->(List OR->DEnv->Prop)->Prop
abbrev DR2:=PyData->PyData->(PyData->Prop)->Prop
abbrev DR1:=PyData->(PyData->Prop)->Prop
abbrev DRn:=List PyData->(PyData->Prop)->Prop
def cb(K:Waa)(i:TE)(h:DE):Prop:=∀(b:Bs) (F:List Fr) (c:St) (H:Hp) (f:DEnv) (e:List V) (d:List OR) (Qd:DK) (Q:VK),b.K=K->Rel b F c H f e d->h f Qd->(∀v g r a,Rel b F c g a (v::e) (r::d)->Qd r a->Q v g)->i c H Q
def SndT(K:Waa)(i:TT)(h:DT):Prop:=∀(b:Bs) (F:List Fr) (c:St) (H:Hp) (f:DEnv) (e:List V) (d:List OR) (Qd:Bool->DEnv->Prop) (Q:Bool->Hp->Prop),b.K=K->Rel b F c H f e d->h f Qd->(∀k g a,Rel b F c g a e d->Qd k a->Q k g)->i c H Q
def BG(K:Waa)(k:TA)(j:DA):Prop:=∀(b:Bs) (F:List Fr) (d:St) (H:Hp) (h:DEnv) (g:List V) (f:List OR) (Qd:List OR->DEnv->Prop) (Q:List V->Hp->Prop),b.K=K->Rel b F d H h g f->j h Qd->(∀c i e a,c.length=e.length->Rel b F d i a (c++g) (e++f)->Qd e a->Q c i)->k d H Q
inductive PDe (X:Cx)(e:Expr)(de:DE):Prop|mk (te:TE) (h:PE X e te) (s:cb X.K te de)
inductive PDt (X:Cx)(e:Expr)(de:DT):Prop|mk (te:TT) (h:PT X e te) (s:SndT X.K te de)
inductive PDw (X:Cx)(e:Expr)(de:DT):Prop|mk (te:TT) (h:PW X e te) (s:SndT X.K te de)
inductive PDa (X:Cx)(es:List Expr)(de:DA):Prop|mk (te:TA) (h:PA X es te) (s:BG X.K te de)
section
variable{X:Cx}{K:Waa}{a b c e:Expr}{es:List Expr}{da db dc:DE}{pos:Pos}{x:Str}{i:Nat}
def dVar(i:Nat):DE:=λf Q=>match f[i]?.join with
 |some (.fz d)=>Q (.val (.fz d)) f
 |some _=>Q (.rf i) f
 |none=>False
theorem xA:cb K (tVar i) (dVar i):=by
 intro b F l H j o m n Q p R h q;unfold dVar at h;cases e:j[i]?.join with
 |none=>rw[e]at h;exact h.elim
 |some x=>
  rw[e]at h;have k:=join_some e;obtain⟨v,g⟩:=R.wf.get k;have f:n (.rf i) j->tVar i l H Q:=λh=>⟨v,g,q v H (.rf i) j ⟨R.wf,show Al l (v::o) (.rf i::m) from ⟨g,R.al⟩,R.wff,R.wd⟩ h⟩
  cases x with
  |fz d=>exact⟨v,g,q v H _ j (R.dupS k g) h⟩
  |_=>exact f h
theorem BH(f:X.N[i]?=some x) (hv:Vis X.env.scope x) (g:(x==("__debug__":Str))=false:=by decide) (d:(x==("__classdict__":Str))=false:=by decide):PDe X (.Name x pos) (dVar i):=⟨_,bN f hv g d,xA⟩
def dC(d:PyData):DE:=λf Q=>Q (.val (.fz d)) f
theorem oj(h:Sc v d):cb K (tC v) (dC d):=λb F l H f k j n Q m R g q=>q v H _ f (R.sc h) g
theorem pd_int{i j pos}:PDe X (.Constant (.int i) j pos) (dC (.int i)):=⟨_,gK,oj (.int i)⟩
theorem pd_bl{k j pos}:PDe X (.Constant (.bool k) j pos) (dC (.bool k)):=⟨_,D2,oj (.bl k)⟩
theorem pd_non{j pos}:PDe X (.Constant .none j pos) (dC .none):=⟨_,AH,oj .non⟩
theorem pd_str{x j pos}:PDe X (.Constant (.str x) j pos) (dC (.str x)):=⟨_,AI,oj (.str x)⟩
theorem Rel.addK{b:Bs}(R:Rel b F σ H ρ τ θ)(h:∀S H,Fz b.K S H v d):Rel b F σ H ρ (v::τ) (.val (.fz d)::θ):=⟨R.wf,R.al,R.wff,R.wd.add λS _ _ _=>h S H⟩
theorem tz(k:Gl X x) (g:X.mg x=some u) (r:RelV v u) (s:∀S H,Fz X.K S H v d) (f:(x==("__debug__":Str))=false:=by decide):PDe X (.Name x pos) (dC d):=
 ⟨_,wV k g r f,λb F n H h m l o Q j R f q=>q v H _ h (R.addK (by rw[j];exact s)) f⟩
def SndR2(K:Waa)(h:R2)(r:DR2):Prop:=∀(H:Hp) (v u:V) (g f:PyData) (Qd:PyData->Prop) (Q:VK),Dt K H v g->Dt K H u f->r g f Qd->(∀w d,Sc w d->Qd d->Q w H)->h v u H Q
def xB(r:DR2)(a b:DE):DE:=λk Q=>a k λx g=>b g λy f=>∃h j,aq f x=some h/\aq f y=some j/\r h j λd=>Q (.val (.fz d)) f
theorem mP(s:SndR2 K r2 r)(L:cb K ta da)(n:cb K tb db):cb K (zG r2 ta tb) (xB r da db):=by intro b F l H I G B S Q f R h q;refine L b F l H I G B _ _ f R h λv z x g o J=>n b F l z g _ _ _ _ f o J λu k y p j m=>?_;obtain⟨M,A,t,N,D⟩:=m;exact s k v u M A _ _ (f▸j.dt2 t) (f▸j.dt N) D λw d C O=>q w k _ _ (j.drop.drop.sc C) O
theorem EH(d:OpR X (binaryOp op) r2)(f:SndR2 X.K r2 r):PDe X a da->PDe X b db->PDe X (.BinOp a op b pos) (xB r da db)
 |⟨_,h1,s1⟩,⟨_,h2,s2⟩=>⟨_,sy d h1 h2,mP f s1 s2⟩
def dI(C:Int->Int->Prop)(g:Int->Int->PyData):DR2:=λx y Q=>∃i j,x=.int i/\y=.int j/\C i j/\Q (g i j)
def JG(g:Int->Int->PyData):DR2:=λx y Q=>∃i j,x=.int i/\y=.int j/\Q (g i j)
theorem xC(h:∀i j,Sc (g i j) (g' i j)):SndR2 K (rI C g) (dI C g'):=by rintro H v u l n m Q d f ⟨i,j,rfl,rfl,c,k⟩ q;cases d;cases f;exact⟨i,j,rfl,rfl,c,q _ _ (h i j) k⟩
theorem tE(h:∀i j,Sc (g i j) (g' i j)):SndR2 K (wL g) (JG g'):=by rintro H v u l n m Q d f ⟨i,j,rfl,rfl,k⟩ q;cases d;cases f;exact⟨i,j,rfl,rfl,q _ _ (h i j) k⟩
theorem BI(d:OpR X (compareOp op) r2)(f:SndR2 X.K r2 r)(g:behindInMarks op b=false):PDe X a da->PDe X b db->PDe X (.Compare a [op] [b] pos) (xB r da db)
 |⟨_,h1,s1⟩,⟨_,h2,s2⟩=>⟨_,ju d h1 h2 g,mP f s1 s2⟩
theorem xD{g:Int->Int->Bool}:SndR2 K (wL λi j=>.bl (g i j)) (JG λi j=>.bool (g i j)):=tE λ_ _=>.bl _
def qV:PyData->PyData->Option Bool
 |.int i,.int j=>some (decide (i=j))
 |.bool i,.bool j=>some (decide (i=j))
 |.str i,.str j=>some (decide (i=j))
 |.none,.none=>some true
 |.none,.int _=>some false|.int _,.none=>some false|.none,.str _=>some false|.str _,.none=>some false
 |.int _,.str _=>some false|.str _,.int _=>some false
 |_,_=>none
theorem om(hv:Dt K H v dx)(d:Dt K H u dy)(e:qV dx dy=some k):Bd v u=true/\decide (v=u)=k:=by cases hv<;>cases d<;>cases e<;>refine⟨rfl,?_⟩<;>simp
def dEqS:DR2:=λx y Q=>∃k,qV x y=some k/\Q (.bool k)
def dNeS:DR2:=λx y Q=>∃k,qV x y=some k/\Q (.bool (!k))
theorem sr_eq:SndR2 K rEq dEqS:=by rintro H v u m l n Q d g ⟨k,e,h⟩ q;obtain⟨j,f⟩:=om d g e;exact⟨j,by rw[f];exact q _ _ (.bl k) h⟩
theorem sr_ne:SndR2 K rNe dNeS:=by rintro H v u m l n Q d g ⟨k,e,h⟩ q;obtain⟨j,f⟩:=om d g e;exact⟨j,by rw[f];exact q _ _ (.bl _) h⟩
def dEqD:DR2:=λx y Q=>SeqAt.shaped x=true/\SeqAt.shaped y=true/\Q (.bool (PyData.eqv x y))
def dNeD:DR2:=λx y Q=>SeqAt.shaped x=true/\SeqAt.shaped y=true/\Q (.bool (!PyData.eqv x y))
theorem BJ:SndR2 K (Ey K) dEqD:=λH v u j g m Q f h ⟨d,l,k⟩ q=>⟨j,g,f,h,d,l,q _ _ (.bl _) k⟩
theorem BK:SndR2 K (Ez K) dNeD:=λH v u j g m Q f h ⟨d,l,k⟩ q=>⟨j,g,f,h,d,l,q _ _ (.bl _) k⟩
def EI:PyData->PyData->Option Bool
 |.int i,.int j=>some (decide (i=j))
 |.str i,.str j=>some (decide (i=j))
 |.none,.none=>some true
 |.int _,.str _=>some false|.str _,.int _=>some false|.none,.int _=>some false|.int _,.none=>some false|.none,.str _=>some false|.str _,.none=>some false
 |_,_=>none
def memD(x:PyData):List PyData->Option Bool
 |[]=>some false
 |y::ys=>(EI y x).bind λk=>(memD x ys).map (k||·)
def DV:PyData->Bool
 |.int _=>true
 |.str _=>true
 |.none=>true
 |_=>false
def Ko(neg:Bool):DR2:=λx y Q=>∃d k,(y=.list d\/y=.tuple d)/\DV x=true/\memD x d=some k/\Q (.bool (if neg then !k else k))
theorem xE{x y:PyData}(hv:Dt K H v x)(d:Dt K H w y)(e:EI y x=some k):cy w=true/\eqV w v=k:=by cases hv<;>cases d<;>cases e<;>exact⟨rfl,rfl⟩
theorem BL{x:PyData}(hv:Dt K H v x)(d:DV x=true):cy v=true:=by cases hv<;>first|rfl|cases d
theorem oo{x:PyData}(hv:Dt K H v x)(g:DV x=true)(h:DtAll K H vs ds)(e:memD x ds=some k):cy v=true/\vs.all cy=true/\inV v vs=k:=by
 induction ds generalizing vs k with
 |nil=>cases h;cases e;exact⟨BL hv g,rfl,rfl⟩
 |cons d ds m=>
  cases h with
  |@cons w _ vs _ r t=>
   obtain⟨u,f,e⟩:=aaT.mp e;obtain⟨s,q,rfl⟩:=aaQ.mp e;obtain⟨o,j,p⟩:=m t q;obtain⟨n,l⟩:=xE hv r f;refine⟨o,?_,?_⟩
   ·show (cy w&&vs.all cy)=true;rw[n,j];rfl
   ·show (eqV w v||inV v vs)=_;rw[l,p]
theorem zM:SndR2 K (HP K neg) (Ko neg):=by
 rintro H v u y r w Q m o ⟨s,k,p,n,j,l⟩ q;rcases p with rfl|rfl
 ·cases o with
  |lst h t=>obtain⟨g,d,f⟩:=oo m n t j;exact⟨_,_,rfl,.inl h,g,d,by rw[f];exact q _ _ (.bl _) l⟩
 ·cases o with
  |tup h t=>obtain⟨g,d,f⟩:=oo m n t j;exact⟨_,_,rfl,.inr h,g,d,by rw[f];exact q _ _ (.bl _) l⟩
def mQ(r n:DR2)(da db dc:DE):DE:=λo Q=>da o λx j=>db j λy f=>∃m h,aq f x=some m/\aq f y=some h/\r m h λz=>∃k,z=.bool k /\
 if k=true then dc f λw g=>∃h l,aq g y=some h/\aq g w=some l/\n h l λd=>Q (.val (.fz d)) g else Q (.val (.fz (.bool false))) f
theorem i6(L:SndR2 K r2 r)(p:SndR2 K r2' r')(ha:cb K ta da)(G:cb K tb db)(hc:cb K tc dc):cb K (mC r2 r2' ta tb tc) (mQ r r' da db dc):=by
 intro b F o H ρ Z T Qd Q g R h q;refine ha b F o H ρ Z T _ _ g R h λv N x s I h1=>G b F o N s _ _ _ _ g I h1 λu m y l j D=>?_;obtain⟨dx,S,M,e2,Y⟩:=D;refine L m v u dx S _ _ (g▸j.dt2 M) (g▸j.dt e2) Y λw d n f=>?_;obtain⟨k,rfl,f⟩:=f;cases n;refine⟨k,rfl,?_⟩;cases k with
 |false=>rw[if_neg aaf]at f ⊢;exact q _ m _ _ (j.drop.drop.sc (.bl _)) f
 |true=>rw[if_pos rfl]at f ⊢;refine hc b F o m l _ _ _ _ g j f λw B z C A U=>?_;obtain⟨t,O,e3,J,h5⟩:=U;exact p B u w t O _ _ (g▸A.dt2 e3) (g▸A.dt J) h5 λw d n f=>q w B _ _ (A.drop.drop.drop.sc n) f
theorem tF(h:OpR X (compareOp op) r2)(j:SndR2 X.K r2 r)(d:OpR X (compareOp op') r2')(f:SndR2 X.K r2' r')(g:lastMarks [op,op'] [b,c]=false:=by with_unfolding_all rfl):
  PDe X a da->PDe X b db->PDe X c dc->PDe X (.Compare a [op,op'] [b,c] pos) (mQ r r' da db dc)
 |⟨_,h1,s1⟩,⟨_,h2,s2⟩,⟨_,h3,s3⟩=>⟨_,sH h d h1 h2 h3 g,i6 j f s1 s2 s3⟩
def isNn:PyData->Bool|.none=>true|_=>false
def qW(neg:Bool)(a:DE):DE:=λg Q=>a g λx f=>∃d,aq f x=some d/\Q (.val (.fz (.bool (if neg then !isNn d else isNn d)))) f
theorem gz(h:Dt K H v d):decide (v=.non)=isNn d:=by cases h<;>simp[isNn]
theorem BM{j f}:PDe X a da->PDe X (.Compare a [.Is] [.Constant .none j f] pos) (qW false da)
 |⟨_,g,s1⟩=>⟨_,jq (si g),λb F σ H ρ τ θ n Q m R h q=>s1 b F σ H ρ τ θ _ _ m R h λv l x ρ1 k ⟨d,e,g⟩=>by
  rw[gz (k.dt e)];exact q _ l _ _ (k.drop.sc (.bl _)) g⟩
theorem xF{j f}:PDe X a da->PDe X (.Compare a [.IsNot] [.Constant .none j f] pos) (qW true da)
 |⟨_,g,s1⟩=>⟨_,jq (nX g),λb F σ H ρ τ θ n Q m R h q=>s1 b F σ H ρ τ θ _ _ m R h λv l x ρ1 k ⟨d,e,g⟩=>by
  rw[gz (k.dt e)];exact q _ l _ _ (k.drop.sc (.bl _)) g⟩
def Kq(r:DR1)(a:DE):DE:=λg Q=>a g λx f=>∃d,aq f x=some d/\r d λz=>Q (.val (.fz z)) f
def HW:DR1:=λx Q=>∃i,x=.int i/\Q (.int (-i))
theorem BN:PDe X a da->PDe X (.UnaryOp .USub a pos) (Kq HW da)
 |⟨_,f,s1⟩=>⟨_,zH sA f,λb F σ H ρ τ θ m Q k R h q=>s1 b F σ H ρ τ θ _ _ k R h λv j x ρ1 g ⟨d,e,i,l,f⟩=>by
  subst l;cases g.dt e;exact⟨i,rfl,q _ j _ _ (g.drop.sc (.int _)) f⟩⟩
def EJ(a b:DE):DE:=λf Q=>a f λx d=>∃k,aq d x=some (.bool k)/\if k=true then b d Q else Q (.val (.fz (.bool false))) d
def HX(a b:DE):DE:=λf Q=>a f λx d=>∃k,aq d x=some (.bool k)/\if k=true then Q (.val (.fz (.bool true))) d else b d Q
def EK(a:DE):DE:=λf Q=>a f λx d=>∃k,aq d x=some (.bool k)/\Q (.val (.fz (.bool (!k)))) d
theorem tG{d}:PDe X a da->PDe X (.BoolOp d [a] pos) da
 |⟨_,h1,s1⟩=>⟨_,AM h1,s1⟩
theorem BO:PDe X a da->PDe X (.BoolOp .And (b::es) pos) db->PDe X (.BoolOp .And (a::b::es) pos) (EJ da db)
 |⟨_,d,s1⟩,⟨_,h2,s2⟩=>⟨_,AN d h2,λb F σ H ρ τ θ l Q j R h q=>s1 b F σ H ρ τ θ _ _ j R h λv g x ρ1 f ⟨k,e,d⟩=>by
  cases f.dt e;refine⟨k,rfl,?_⟩;cases k with
  |false=>rw[if_neg aaf]at d ⊢;exact q _ g _ _ (f.drop.sc (.bl _)) d
  |true=>rw[if_pos rfl]at d ⊢;exact s2 b F σ g ρ1 τ θ _ _ j f.drop d q⟩
theorem EL:PDe X a da->PDe X (.BoolOp .Or (b::es) pos) db->PDe X (.BoolOp .Or (a::b::es) pos) (HX da db)
 |⟨_,d,s1⟩,⟨_,h2,s2⟩=>⟨_,D7 d h2,λb F σ H ρ τ θ l Q j R h q=>s1 b F σ H ρ τ θ _ _ j R h λv g x ρ1 f ⟨k,e,d⟩=>by
  cases f.dt e;refine⟨k,rfl,?_⟩;cases k with
  |true=>rw[if_pos rfl]at d ⊢;exact q _ g _ _ (f.drop.sc (.bl _)) d
  |false=>rw[if_neg aaf]at d ⊢;exact s2 b F σ g ρ1 τ θ _ _ j f.drop d q⟩
theorem BP:PDe X a da->PDe X (.UnaryOp .Not a pos) (EK da)
 |⟨_,d,s1⟩=>⟨_,AO d,λb F σ H ρ τ θ l Q j R h q=>s1 b F σ H ρ τ θ _ _ j R h λv g x ρ1 f ⟨k,e,d⟩=>by
  cases f.dt e;exact⟨k,rfl,q _ g _ _ (f.drop.sc (.bl _)) d⟩⟩
def eM(a:DE):DT:=λf Q=>a f λx d=>∃k,aq d x=some (.bool k)/\Q k d
theorem eN(f:cb K ta da):SndT K (sF ta) (eM da):=λb F l H o m j s Q r R h q=>f b F l H o m j _ _ r R h λv g x n d ⟨k,e,p⟩=>by cases d.dt e;exact⟨k,rfl,q _ g _ d.drop p⟩
theorem mR(f:cb K ta da):SndT K (tB ta) (eM da):=λb F l H o m j s Q r R h q=>f b F l H o m j _ _ r R h λv g x n d ⟨k,e,p⟩=>by cases d.dt e;exact⟨k,rfl,q _ g _ d.drop p⟩
theorem xG(d:OpR X (compareOp op) r2)(f:SndR2 X.K r2 r)(g:behindInMarks op b=false):PDe X a da->PDe X b db->PDt X (.Compare a [op] [b] pos) (eM (xB r da db))
 |⟨_,h1,s1⟩,⟨_,h2,s2⟩=>⟨_,jv d h1 h2 g,eN (mP f s1 s2)⟩
theorem qX(h:OpR X (compareOp op) r2)(j:SndR2 X.K r2 r)(d:OpR X (compareOp op') r2')(f:SndR2 X.K r2' r')(g:lastMarks [op,op'] [b,c]=false:=by with_unfolding_all rfl):
  PDe X a da->PDe X b db->PDe X c dc->PDt X (.Compare a [op,op'] [b,c] pos) (eM (mQ r r' da db dc))
 |⟨_,h1,s1⟩,⟨_,h2,s2⟩,⟨_,h3,s3⟩=>⟨_,sI h d h1 h2 h3 g,eN (i6 j f s1 s2 s3)⟩
theorem xH{j f}:PDe X a da->PDt X (.Compare a [.Is] [.Constant .none j f] pos) (eM (qW false da))
 |⟨_,g,s1⟩=>⟨_,jr (si g),mR (λb F σ H ρ τ θ n Q m R h q=>s1 b F σ H ρ τ θ _ _ m R h λv l x ρ1 k ⟨d,e,g⟩=>by
  rw[gz (k.dt e)];exact q _ l _ _ (k.drop.sc (.bl _)) g)⟩
theorem tH{j f}:PDe X a da->PDt X (.Compare a [.IsNot] [.Constant .none j f] pos) (eM (qW true da))
 |⟨_,g,s1⟩=>⟨_,jr (nX g),mR (λb F σ H ρ τ θ n Q m R h q=>s1 b F σ H ρ τ θ _ _ m R h λv l x ρ1 k ⟨d,e,g⟩=>by
  rw[gz (k.dt e)];exact q _ l _ _ (k.drop.sc (.bl _)) g)⟩
def EM(t u:DT):DT:=λf Q=>t f λc d=>if c=true then u d Q else Q false d
def HY(t u:DT):DT:=λf Q=>t f λc d=>if c=true then Q true d else u d Q
def EN(t:DT):DT:=λf Q=>t f λc d=>Q (!c) d
variable{dt du:DT}
theorem PDw.pt:PDw X e dt->PDt X e dt
 |⟨_,h,s⟩=>⟨_,h.pt,s⟩
theorem tI:PDt X a dt->PDw X (.BoolOp .And [a] pos) dt
 |⟨_,h,s⟩=>⟨_,wW h,s⟩
theorem xI:PDt X a dt->PDw X (.BoolOp .Or [a] pos) dt
 |⟨_,h,s⟩=>⟨_,AJ h,s⟩
theorem xJ:PDt X a dt->PDw X (.BoolOp .And (b::es) pos) du->PDw X (.BoolOp .And (a::b::es) pos) (EM dt du)
 |⟨_,d,s1⟩,⟨_,h2,s2⟩=>⟨_,AK d h2,λb F σ H ρ τ θ l Q j R h q=>s1 b F σ H ρ τ θ _ _ j R h λk g ρ1 f d=>by
  cases k with
  |false=>rw[if_neg aaf]at d ⊢;exact q _ g _ f d
  |true=>rw[if_pos rfl]at d ⊢;exact s2 b F σ g ρ1 τ θ _ _ j f d q⟩
theorem BQ:PDt X a dt->PDw X (.BoolOp .Or (b::es) pos) du->PDw X (.BoolOp .Or (a::b::es) pos) (HY dt du)
 |⟨_,d,s1⟩,⟨_,h2,s2⟩=>⟨_,D4 d h2,λb F σ H ρ τ θ l Q j R h q=>s1 b F σ H ρ τ θ _ _ j R h λk g ρ1 f d=>by
  cases k with
  |true=>rw[if_pos rfl]at d ⊢;exact q _ g _ f d
  |false=>rw[if_neg aaf]at d ⊢;exact s2 b F σ g ρ1 τ θ _ _ j f d q⟩
theorem xK:PDt X a dt->PDt X (.UnaryOp .Not a pos) (EN dt)
 |⟨_,h,s⟩=>⟨_,AL h,λb F σ H ρ τ θ l Q g R h q=>s b F σ H ρ τ θ _ _ g R h λk d ρ1 j f=>q _ d _ j f⟩
def Kr(t:DT)(a b:DE):DE:=λf Q=>t f λc d=>if c=true then a d Q else b d Q
theorem EO:PDt X c dt->PDe X a da->PDe X b db->PDe X (.IfExp c a b pos) (Kr dt da db)
 |⟨_,h,s⟩,⟨_,d,s1⟩,⟨_,h2,s2⟩=>⟨_,kD h d h2,λb F σ H ρ τ θ l Q f R h q=>s b F σ H ρ τ θ _ _ f R h λk g ρ1 j d=>by
  cases k with
  |true=>rw[if_pos rfl]at d ⊢;exact s1 b F σ g ρ1 τ θ _ _ f j d q
  |false=>rw[if_neg aaf]at d ⊢;exact s2 b F σ g ρ1 τ θ _ _ f j d q⟩
theorem DtAll.emp(h:DtAll K H xs ds):xs.isEmpty=ds.isEmpty:=by cases h<;>rfl
end
end
section
section
variable{X:Cx}{K:Waa}{a b c e:Expr}{es:List Expr}{da db dc:DE}{dt:DA}{pos:Pos}{x:Str}
def dNil:DA:=λd Q=>Q [] d
def ER(a:DE)(t:DA):DA:=λh Q=>a h λx d=>t d λg f=>Q (x::g) f
theorem pda_nil:PDa X [] dNil:=⟨_,bB,λb F i H d g f k Q j R h q=>q [] H [] d rfl R h⟩
theorem tJ(m:starEach (e::es) X.env=(false,eval e X.env)::starEach es X.env:=by rfl):PDe X e da->PDa X es dt->PDa X (e::es) (ER da dt)
 |⟨_,i,s1⟩,⟨_,d,s2⟩=>⟨_,aY i d m,λb F j H y u s A Q l R h q=>s1 b F j H y u s _ _ l R h λv p r g n i=>s2 b F j p g _ _ _ _ l n i λt o z f k w d=>
  q (v::t) o (r::z) f (by simp[k]) (Rel.xr w k) d⟩
end
def own1(ρ:DEnv):OR->Option (OD×DEnv)
 |.val x=>some (x,ρ)
 |.rf i=>(frz1 ρ (.rf i)).map λz=>(.fz z.1,z.2)
def mv1(ρ:DEnv):OR->Option (OD×DEnv)
 |.val x=>some (x,ρ)
 |.rf i=>(ρ[i]?.join).map λx=>(x,ρ.set i none)
def mapR(f:DEnv->OR->Option (OD×DEnv))(ρ:DEnv):List OR->Option (List OD×DEnv)
 |[]=>some ([],ρ)
 |r::rs=>(f ρ r).bind λz=>(mapR f z.2 rs).map λy=>(z.1::y.1,y.2)
def qY:List OD->Option (List PyData)
 |[]=>some []
 |.fz d::xs=>match qY xs with|some ds=>some (d::ds)|none=>none
 |_::_=>none
def mkTup(xs:List OD):OD:=match qY xs with
 |some a=>.fz (.tuple a)
 |none=>.tup xs
section
variable{b:Bs}{F:List Fr}{σ:St}{H H':Hp}{ρ ρ':DEnv}{τ vs:List V}{θ rs:List OR}{v u:V}{r:OR}{x y:OD}{d:PyData}{ds:List PyData}{i:Nat}{L:List (V×OD)}{p:Addr}
theorem Rel.own1(R:Rel b F σ H ρ (v::τ) (r::θ))(e:own1 ρ r=some (x,ρ')):Rel b F σ H ρ' (v::τ) (.val x::θ):=by
 cases r with
 |val x=>simp only[L2.own1]at e;cases e;exact R
 |rf i=>simp only[L2.own1,aaQ]at e;obtain⟨⟨d,f⟩,a,c⟩:=e;cases c;exact R.frz1 a
theorem Rel.mv1(R:Rel b F σ H ρ (v::τ) (r::θ))(e:mv1 ρ r=some (x,ρ')):Rel b F σ H ρ' (v::τ) (.val x::θ):=by
 cases r with
 |val x=>simp only[L2.mv1]at e;cases e;exact R
 |rf i=>
  simp only[L2.mv1,aaQ]at e;obtain⟨x,a,c⟩:=e;cases c;obtain⟨u,f,w⟩:=R.drop.slot (join_some a);have:v=u:=by have:=R.al.1;rw[f]at this;cases this;rfl
  subst this;exact⟨R.wf.off,R.drop.al,R.wff,w⟩
theorem eP{f:DEnv->OR->Option (OD×DEnv)}(g:∀{ρ ρ':DEnv}{τ:List V}{θ:List OR}{v:V}{r:OR}{x:OD},Rel b F σ H ρ (v::τ) (r::θ)->f ρ r=some (x,ρ')->Rel b F σ H ρ' (v::τ) (.val x::θ)):
  ∀{vs:List V}{rs:List OR}{ρ ρ':DEnv}{xs:List OD}{τ:List V}{θ:List OR},Rel b F σ H ρ (vs++τ) (rs++θ)->vs.length=rs.length->mapR f ρ rs=some (xs,ρ')->Rel b F σ H ρ' (vs++τ) (xs.map OR.val++θ)/\vs.length=xs.length
 |[],[],_,_,_,_,_,R,_,e=>by simp only[mapR]at e;cases e;exact⟨R,rfl⟩
 |v::vs,r::rs,ρ,ρ',ds,τ,θ,R,e,h=>by
  simp only[mapR,aaT,aaQ]at h;obtain⟨⟨d,ρ1⟩,o,⟨l,ρ2⟩,j,m⟩:=h;cases m;have k:Rel b F σ H ρ1 (v::(vs++τ)) (.val d::(rs++θ)):=g R o;have a:vs.length=rs.length:=by simpa using e
  obtain⟨n,c⟩:=eP g (Rel.xn (vs:=vs) (rs:=rs) k a) a j;exact⟨Rel.xr n (by rw[c,aaa]),by simp[c]⟩
 |[],_::_,_,_,_,_,_,_,e,_=>by simp at e
 |_::_,[],_,_,_,_,_,_,e,_=>by simp at e
theorem dr:∀{vs:List V}{xs:List OD},vs.length=xs.length->stk vs (xs.map OR.val)=vs.zip xs
 |[],[],_=>rfl
 |_::_,_::_,e=>by simp only[aao,stk,abp];rw[dr (by simpa using e)]
 |[],_::_,e=>by simp at e
 |_::_,[],e=>by simp at e
theorem Rel.vals{xs:List OD}(R:Rel b F σ H ρ (vs++τ) (xs.map OR.val++θ))(e:vs.length=xs.length):Wd b H (vs.zip xs++(stk τ θ++(flat σ ρ++ff F))):=by have w:=R.wd;rw[aH (by rw[aaa];exact e),dr e,aac]at w;exact w
theorem Rel.push(R:Rel b F σ H ρ τ θ)(w:Wd b H' ((v,x)::(stk τ θ++(flat σ ρ++ff F)))):Rel b F σ H' ρ (v::τ) (.val x::θ):=⟨R.wf,R.al,R.wff,w⟩
theorem Wd.below{z:V×OD}{L1 L2:List (V×OD)}(w:Wd b H (z::(L1++L2))):Wd b H (z::L2):=Wd.drops (L1:=L1) (w.perm (aaz.symm))
theorem fzL_map{xs:List OD}{ds:List PyData}(e:qY xs=some ds):xs=ds.map OD.fz:=by
 induction xs generalizing ds with
 |nil=>cases e;rfl
 |cons x xs a=>
  cases x with
  |fz d=>
   rw[qY]at e;cases h:qY xs with
   |none=>rw[h]at e;cases e
   |some ds=>rw[h]at e;cases e;rw[a h];rfl
  |_=>cases e
theorem fP:∀(ds:List PyData),qY (ds.map OD.fz)=some ds
 |[]=>rfl
 |d::ds=>by simp only[aao,qY,fP ds]
theorem dats_fz:∀(ds:List PyData),OD.dv (ds.map OD.fz)=some ds
 |[]=>rfl
 |d::ds=>by simp only[aao,OD.dv,OD.dat,dats_fz ds]
theorem kS{xs:List OD}(w:Wd b H (vs.zip xs++L))(a:vs.length=xs.length)(c:H p=none):Wd b (upd H p (.tup vs)) ((.ref p,mkTup xs)::L):=by
 unfold mkTup;cases h:qY xs with
 |some ds=>have e:=fzL_map h;subst e;refine Wd.below (L1:=vs.zip (ds.map OD.fz)) (w.kl (λS g=>g.all (by simpa using a) λz f=>aah _ f) c)
 |none=>exact w.vv a c
end
section
variable{X:Cx}{K:Waa}{a b c e:Expr}{es:List Expr}{da db dc:DE}{dt:DA}{pos:Pos}{x:Str}
def HZ(f:DEnv->OR->Option (OD×DEnv))(t:DA):DE:=λj Q=>t j λi g=>∃h d,mapR f g i=some (h,d)/\i.length<=1000000/\Q (.val (mkTup h)) d
def H9(f:DEnv->OR->Option (OD×DEnv))(t:DA):DE:=λj Q=>t j λi g=>∃h d,mapR f g i=some (h,d)/\i.length<=1000000/\Q (.val (.lst h)) d
structure Hand (f:DEnv->OR->Option (OD×DEnv)):Prop where
 ok:∀{b:Bs}{F:List Fr}{σ:St}{H:Hp}{ρ ρ':DEnv}{τ:List V}{θ:List OR}{v:V}{r:OR}{x:OD},Rel b F σ H ρ (v::τ) (r::θ)->f ρ r=some (x,ρ')->Rel b F σ H ρ' (v::τ) (.val x::θ)
theorem ES:Hand own1:=⟨Rel.own1⟩
variable{f:DEnv->OR->Option (OD×DEnv)}
theorem BR{n}(r:Hand f):PDa X es dt->PDe X (.Tuple es n pos) (HZ f dt)
 |⟨_,g,s1⟩=>⟨_,jw g,λb F σ H ρ τ θ u Q o R h q=>s1 b F σ H ρ τ θ _ _ o R h λvs t rs ρ1 j l ⟨xs,ρ2,m,s,g⟩=>⟨mL (by rw[j];exact s),λp k=>by
  obtain⟨i,d⟩:=eP r.ok l j m;exact q _ _ _ _ ((i.drops (by rw[aaa];exact d)).push (kS (i.vals d) d k)) g⟩⟩
theorem BS(o:Hand f):PDa X es dt->PDe X (.List es pos) (H9 f dt)
 |⟨_,g,s1⟩=>⟨_,jx g,λb F σ H ρ τ θ t Q n R h q=>s1 b F σ H ρ τ θ _ _ n R h λvs s rs ρ1 j l ⟨xs,ρ2,m,r,g⟩=>⟨mL (by rw[j];exact r),λp k=>by
  obtain⟨i,d⟩:=eP o.ok l j m;exact q _ _ _ _ ((i.drops (by rw[aaa];exact d)).push ((i.vals d).ea d k)) g⟩⟩
end
def f9(ρ:DEnv):OR->Option OD
 |.val x=>some x
 |.rf i=>ρ[i]?.join
def listOf:OD->Option (List PyData)
 |.fz (.list ds)=>some ds
 |.lst xs=>qY xs
 |_=>none
def gb:OD->Option (List PyData)
 |.fz (.tuple ds)=>some ds
 |_=>none
def mS(ρ:DEnv)(r:OR):Option (List PyData):=(f9 ρ r).bind listOf
def itemO:OD->Int->Option OD
 |.fz (.list ds),i=>match atI ds i with|some d=>some (.fz d)|none=>none
 |.fz (.tuple ds),i=>match atI ds i with|some d=>some (.fz d)|none=>none
 |.lst xs,i=>atI xs i
 |.tup xs,i=>atI xs i
 |_,_=>none
def itemS:OD->Int->Option (PyData×OD)
 |.lst xs,i=>match ixN xs.length i with
  |some k=>match xs[k]? with
   |some c=>match c.dat with|some d=>some (d,.lst (xs.set k (.fz d)))|none=>none
   |none=>none
  |none=>none
 |.tup xs,i=>match ixN xs.length i with
  |some k=>match xs[k]? with
   |some c=>match c.dat with|some d=>some (d,.tup (xs.set k (.fz d)))|none=>none
   |none=>none
  |none=>none
 |_,_=>none
def bp(ρ:DEnv)(r:OR)(i:Int):Option (OD×DEnv):=match r with
 |.val x=>match itemO x i with|some y=>some (y,ρ)|none=>none
 |.rf j=>match ρ[j]?.join with
  |some x=>match itemS x i with|some (d,y)=>some (.fz d,ρ.set j (some y))|none=>none
  |none=>none
section
variable{b:Bs}{F:List Fr}{σ:St}{H H':Hp}{ρ ρ':DEnv}{τ vs:List V}{θ rs:List OR}{v u:V}{r r':OR}{x y:OD}{d:PyData}{ds:List PyData}{i:Nat}{L:List (V×OD)}{p:Addr}
theorem gW{g c:Type}{xs:List g}{ys:List c}{i:Int}{y:c}(f:xs.length=ys.length)(h:atI ys i=some y):∃k x,ixN xs.length i=some k/\ys[k]?=some y/\xs[k]?=some x/\atI xs i=some x:=by unfold atI at h ⊢;rw[<-f]at h;simp only[aaT]at h;obtain⟨k,a,e⟩:=h;have j:k<ys.length:=(aan.mp e).1;refine⟨k,xs[k]'(by omega),a,e,aak _,?_⟩;rw[a];exact aak _
theorem cO{c a:Type}{xs:List c}{ys:List a}{k:Nat}{x:c}{y:a}(e:xs[k]?=some x)(f:ys[k]?=some y):(x,y)∈xs.zip ys:=by rw[List.mem_iff_getElem?];exact⟨k,by rw[abS];exact⟨e,f⟩⟩
theorem Wd.pick{z:V×OD}{Z:List (V×OD)}(w:Wd b H (Z++L))(m:z∈Z):Wd b H (z::L):=by obtain⟨c,a,rfl⟩:=abT m;refine Wd.below (L1:=c++a) (w.perm ?_);rw[aac,aac];exact aaz
theorem BU{n k:Nat}{i:Int}(h:ixN n i=some k):k<n:=by
 unfold ixN at h;split at h
 ·split at h
  ·cases h;omega
  ·cases h
 ·split at h
  ·cases h;omega
  ·cases h
theorem Wd.r3{k:Nat}{z:OD}(w:Wd b H ((v,x)::L))(e:x.kids[k]?=some z):∃u,Chd b H v x k u z/\Wd b H ((u,z)::L):=by
 obtain⟨G,n,_,_⟩:=w.out;cases n with
 |cons r t=>obtain⟨u,B,q,c,_⟩:=r.kid e;refine⟨u,c,Wd.puts (L1:=[(v,x)]) (L2:=[(u,z)]) w λS A h s m I D=>?_⟩;obtain⟨C,B,q,l,j,f,_⟩:=(OwL.one h).kid e;have g:C=u:=(Chd.det l c).1;subst g;have a:∀c∈B,c∈A:=λc o=>f.mem_iff.mpr (aah _ o);exact⟨B,OwL.of1 (Ow.sub D (λc z=>z.elim (·.1) λz=>m c (a c z)) j),(aaD.mp (f.nodup_iff.mp s)).1,a⟩
theorem Wd.itemF{i:Int}{l:Bool}(w:Wd b H ((v,.fz (if l then .list ds else .tuple ds))::L))(e:atI ds i=some d):∃p vs u,v=.ref p/\(SqL b.K H p vs\/SqT b.K H p vs)/\atI vs i=some u/\Wd b H ((u,.fz d)::L):=by
 obtain⟨c,f⟩:=Wd.pin w rfl;obtain⟨a,rfl,g,h,m⟩:=f.pinned aaj;obtain⟨k,u,_,j,n,o⟩:=gW g e;refine⟨a,c,u,rfl,?_,o,Wd.below (L1:=[(V.ref a,OD.pin l c ds)]) (m.pick (cO n (by rw[aau,j];rfl)))⟩;cases l with
 |true=>exact .inl h
 |false=>exact .inr h
theorem Wd.itemO{i:Int}(w:Wd b H ((v,x)::L))(e:itemO x i=some y):∃p vs u,v=.ref p/\(SqL b.K H p vs\/SqT b.K H p vs)/\atI vs i=some u/\Wd b H ((u,y)::L):=by
 cases x with
 |fz d=>
  cases d with
  |list ds=>
   simp only[L2.itemO]at e;cases h:atI ds i with
   |none=>rw[h]at e;cases e
   |some d=>rw[h]at e;cases e;exact Wd.itemF (l:=true) w h
  |tuple ds=>
   simp only[L2.itemO]at e;cases h:atI ds i with
   |none=>rw[h]at e;cases e
   |some d=>rw[h]at e;cases e;exact Wd.itemF (l:=false) w h
  |_=>simp[L2.itemO]at e
 |lst xs=>
  simp only[L2.itemO]at e;obtain⟨k,_,f,n,_⟩:=gW (xs:=xs) rfl e;obtain⟨u,c,m⟩:=w.r3 (k:=k) (z:=y) n;cases c with
  |lst g j a o=>exact⟨_,_,u,rfl,.inl (SqL.of g),by unfold atI;rw[j,f];exact a,m⟩
 |tup xs=>
  simp only[L2.itemO]at e;obtain⟨k,_,f,n,_⟩:=gW (xs:=xs) rfl e;obtain⟨u,c,m⟩:=w.r3 (k:=k) (z:=y) n;cases c with
  |tup g j a o=>exact⟨_,_,u,rfl,.inr (SqT.of g),by unfold atI;rw[j,f];exact a,m⟩
 |dic _ _=>simp[L2.itemO]at e
 |obj _ _ _=>simp[L2.itemO]at e
 |pin _ _ _=>simp[L2.itemO]at e
 |hole _=>simp[L2.itemO]at e
theorem Wd.itemS{i:Int}(w:Wd b H ((v,x)::L))(e:itemS x i=some (d,y)):∃p vs u,v=.ref p/\(SqL b.K H p vs\/SqT b.K H p vs)/\atI vs i=some u/\Wd b H ((u,.fz d)::(v,y)::L):=by
 cases x with
 |fz d=>simp[L2.itemS]at e
 |lst s=>
  simp only[L2.itemS]at e;split at e
  ·rename_i k j;split at e
   ·rename_i c f;split at e
    ·rename_i z q;cases e;obtain⟨u,o,a⟩:=w.u3 (ks:=[k]) (y:=c) (d:=d) (by simp[OD.at,OD.kids,f]) q;cases o with
     |cons l g=>
      cases g;cases l with
      |lst m n h t=>simp only[OD.put,OD.kids,f,OD.dw]at a;exact⟨_,_,u,rfl,.inl (SqL.of m),by unfold atI;rw[n,j];exact h,a⟩
    ·cases e
   ·cases e
  ·cases e
 |tup s=>
  simp only[L2.itemS]at e;split at e
  ·rename_i k j;split at e
   ·rename_i c f;split at e
    ·rename_i z q;cases e;obtain⟨u,o,a⟩:=w.u3 (ks:=[k]) (y:=c) (d:=d) (by simp[OD.at,OD.kids,f]) q;cases o with
     |cons l g=>
      cases g;cases l with
      |tup m n h t=>simp only[OD.put,OD.kids,f,OD.dw]at a;exact⟨_,_,u,rfl,.inr (SqT.of m),by unfold atI;rw[n,j];exact h,a⟩
    ·cases e
   ·cases e
  ·cases e
 |dic _ _=>simp[L2.itemS]at e
 |obj _ _ _=>simp[L2.itemS]at e
 |pin _ _ _=>simp[L2.itemS]at e
 |hole _=>simp[L2.itemS]at e
end
section
variable{X:Cx}{K:Waa}{a b c e:Expr}{es:List Expr}{da db dc:DE}{dt:DA}{pos:Pos}{x:Str}
def Ks(a b:DE):DE:=λh Q=>a h λx g=>b g λy f=>∃i z d,aq f y=some (.int i)/\bp f x i=some (z,d)/\Q (.val z) d
theorem ET(f:PlainIx b):PDe X a da->PDe X b db->PDe X (.Subscript a b pos) (Ks da db)
 |⟨_,B,s1⟩,⟨_,r,s2⟩=>⟨_,sN mF B r f,λb F σ H ρ τ θ U Q s R h q=>s1 b F σ H ρ τ θ _ _ s R h λv M x ρ1 I B=>s2 b F σ M ρ1 _ _ _ _ s I B λu A y ρ2 D ⟨i,z,ρ3,J,g,r⟩=>by
  have T:=D.dt J;cases T;have l:=D.drop;cases x with
  |val x=>
   simp only[bp]at g;cases k:itemO x i with
   |none=>rw[k]at g;cases g
   |some G=>rw[k]at g;cases g;obtain⟨p,o,u,rfl,f,n,w⟩:=Wd.itemO l.wd k;have m:=q u A _ _ (l.drop.push w) r;rw[s]at f;exact f.elim (λf=>.inl ⟨p,o,i,u,rfl,rfl,f,n,m⟩) λf=>.inr (.inl ⟨p,o,i,u,rfl,rfl,f,n,m⟩)
  |rf j=>
   simp only[bp]at g;cases k:ρ2[j]?.join with
   |none=>rw[k]at g;cases g
   |some x=>
    rw[k]at g;simp only at g;cases t:itemS x i with
    |none=>rw[t]at g;cases g
    |some G=>
     obtain⟨d,S⟩:=G;rw[t]at g;cases g;obtain⟨N,C,w⟩:=l.drop.slot (join_some k);have:v=N:=by have:=l.al.1;rw[C]at this;cases this;rfl
     subst this;obtain⟨p,o,u,rfl,f,n,O⟩:=Wd.itemS w t;have L:Rel b F σ A (ρ2.set j (some S)) (u::τ) (.val (.fz d)::θ):=Rel.back (τ:=u::τ) (θ:=.val (.fz d)::θ) l.wf l.drop.al l.wff C (O.perm (List.Perm.swap _ _ _));have m:=q u A _ _ L r;rw[s]at f;exact f.elim (λf=>.inl ⟨p,o,i,u,rfl,rfl,f,n,m⟩) λf=>.inr (.inl ⟨p,o,i,u,rfl,rfl,f,n,m⟩)⟩
variable{k:Nat}{f:Addr}{fd:FuncData}{ps:List Str}{sp:DSp}{p:Pos}
def gu(ρ:DEnv):List OR->Option (List PyData)
 |[]=>some []
 |r::rs=>(aq ρ r).bind λd=>(gu ρ rs).map (d::·)
theorem Rel.dtL{b:Bs}{F:List Fr}{σ:St}{H:Hp}{ρ:DEnv}:∀{vs:List V}{rs:List OR}{τ:List V}{θ:List OR}{ds:List PyData},Rel b F σ H ρ (vs++τ) (rs++θ)->vs.length=rs.length->gu ρ rs=some ds->DtAll b.K H vs ds
 |[],[],_,_,_,_,_,e=>by simp only[gu]at e;cases e;exact .nil
 |v::vs,r::rs,τ,θ,ds,R,el,e=>by simp only[gu,aaT,aaQ]at e;obtain⟨d,g,h,i,rfl⟩:=e;exact .cons (Rel.dt R g) (Rel.dtL (Rel.drop R) (by simpa using el) i)
 |[],_::_,_,_,_,_,e,_=>by simp at e
 |_::_,[],_,_,_,_,e,_=>by simp at e
def SndCB(K:Waa)(h:List V->Hp->VK->Prop)(r:DRn):Prop:=∀(H:Hp) (vs:List V) (g:List PyData) (Qd:PyData->Prop) (Q:VK),DtAll K H vs g->r g Qd->(∀w d,Sc w d->Qd d->Q w H)->h vs H Q
def Hc(r:DRn)(t:DA):DE:=λi Q=>t i λj g=>∃h,gu g j=some h/\r h λd=>Q (.val (.fz d)) g
theorem tK{i:List V->Hp->VK->Prop}{r:DRn}{m:TA}(s:SndCB K i r)(o:BG K m dt):cb K (HM i m) (Hc r dt):=λb F z H D B u J Q n R h q=>o b F z H D B u _ _ n R h λv j L C l g ⟨A,t,G⟩=>
 s j v A _ _ (n▸g.dtL l t) G λw d y I=>q w j _ _ ((g.drops l).sc y) I
theorem dA{h:List V->Hp->VK->Prop}{r:DRn}{i:String} (o:cx X (.builtin i) h) (m:SndCB X.K h r) (n:Gl X x) (l:X.mg x=none) (hv:bootBuiltins x=some (.builtin i)) (j:x≠"__name__":=by decide) (d:(x==("__debug__":Str))=false:=by decide)
  (q:starEach (e::es) X.env=(false,eval e X.env)::starEach es X.env:=by rfl) (g:(backTo pos (starEach es X.env)).any (·.1)=false:=by rfl):PDa X (e::es) dt->PDe X (.Call (.Name x p) (e::es) [] pos) (Hc r dt)
 |⟨_,h1,s1⟩=>⟨_,cZ o n l hv h1 j d q g,tK m s1⟩
theorem tL{h:List V->Hp->VK->Prop}{r:DRn}{i:String} (o:cx X (.type i) h) (m:SndCB X.K h r) (n:Gl X x) (l:X.mg x=none) (hv:bootBuiltins x=some (.type i)) (j:x≠"__name__":=by decide) (d:(x==("__debug__":Str))=false:=by decide)
  (q:starEach (e::es) X.env=(false,eval e X.env)::starEach es X.env:=by rfl) (g:(backTo pos (starEach es X.env)).any (·.1)=false:=by rfl):PDa X (e::es) dt->PDe X (.Call (.Name x p) (e::es) [] pos) (Hc r dt)
 |⟨_,h1,s1⟩=>⟨_,iY o n l hv h1 j d q g,tK m s1⟩
def jH:PyData->Option Nat
 |.list ds=>some ds.length
 |.tuple ds=>some ds.length
 |_=>none
def dLen:DRn:=λg Q=>∃d n,g=[d]/\jH d=some n/\Q (.int n)
theorem sc_len:SndCB K (λxs H Q=>∃x n,xs=[x]/\El K x H n/\Q (.int n) H) dLen:=by
 rintro H j l m Q g ⟨d,n,rfl,e,i⟩ q;cases g with
 |cons h t=>
  cases t;refine⟨_,n,rfl,?_,q _ _ (.int _) i⟩;cases h with
  |lst s t=>simp only[jH]at e;cases e;exact .inl ⟨_,s,t.length.symm⟩
  |tup s t=>simp only[jH]at e;cases e;exact .inr ⟨_,s,t.length.symm⟩
  |_=>simp[jH]at e
def dAbs:DRn:=λd Q=>∃i,d=[.int i]/\Q (.int (if i<0 then -i else i))
theorem sc_abs:SndCB K (λxs H Q=>∃i,xs=[.int i]/\Q (.int (if i<0 then -i else i)) H) dAbs:=by rintro H j l m Q d ⟨i,rfl,g⟩ q;cases d with|cons h t=>cases t;cases h;exact⟨i,rfl,q _ _ (.int _) g⟩
def dMax:DRn:=λd Q=>∃i j,d=[.int i,.int j]/\Q (.int (if j>i then j else i))
theorem sc_max:SndCB K (λxs H Q=>∃i j,xs=[.int i,.int j]/\Q (.int (if j>i then j else i)) H) dMax:=by rintro H m n o Q d ⟨i,j,rfl,g⟩ q;cases d with|cons h t=>cases t with|cons l t=>cases t;cases h;cases l;exact⟨i,j,rfl,q _ _ (.int _) g⟩
def dMin:DRn:=λd Q=>∃i j,d=[.int i,.int j]/\Q (.int (if j<i then j else i))
theorem sc_min:SndCB K (λxs H Q=>∃i j,xs=[.int i,.int j]/\Q (.int (if j<i then j else i)) H) dMin:=by rintro H m n o Q d ⟨i,j,rfl,g⟩ q;cases d with|cons h t=>cases t with|cons l t=>cases t;cases h;cases l;exact⟨i,j,rfl,q _ _ (.int _) g⟩
def toInt:PyData->Option Int
 |.int i=>some i
 |.bool k=>some (if k then 1 else 0)
 |_=>none
def dInt:DRn:=λg Q=>∃d i,g=[d]/\toInt d=some i/\Q (.int i)
theorem sc_int:SndCB K (λxs H Q=>(∃i,xs=[.int i]/\Q (.int i) H)\/∃k,xs=[.bl k]/\Q (.int (if k then 1 else 0)) H) dInt:=by
 rintro H m n o Q l ⟨d,i,rfl,e,g⟩ q;cases l with
 |cons h t=>
  cases t;cases h with
  |int j=>simp only[toInt]at e;cases e;exact .inl ⟨_,rfl,q _ _ (.int _) g⟩
  |bl k=>simp only[toInt]at e;cases e;exact .inr ⟨_,rfl,q _ _ (.int _) g⟩
  |_=>simp[toInt]at e
def allB:List PyData->Option (List Bool)
 |[]=>some []
 |.bool k::ds=>(allB ds).map (k::·)
 |_::_=>none
theorem kT:∀{ds:List PyData}{d:List Bool},allB ds=some d->ds=d.map PyData.bool
 |[],_,e=>by simp only[allB]at e;cases e;rfl
 |.bool k::ds,_,e=>by simp only[allB,aaQ]at e;obtain⟨d,g,rfl⟩:=e;rw[kT g];rfl
 |.none::_,_,e=>by simp[allB]at e
 |.int _::_,_,e=>by simp[allB]at e
 |.str _::_,_,e=>by simp[allB]at e
 |.list _::_,_,e=>by simp[allB]at e
 |.tuple _::_,_,e=>by simp[allB]at e
 |.dict _::_,_,e=>by simp[allB]at e
theorem gZ(d:List Bool):allB (d.map PyData.bool)=some d:=by
 induction d with
 |nil=>rfl
 |cons b d g=>rw[aao,allB,g];rfl
theorem DtAll.bls{H:Hp}{vs:List V}{d:List Bool}(h:DtAll K H vs (d.map PyData.bool)):vs=d.map V.bl:=by
 induction d generalizing vs with
 |nil=>cases h;rfl
 |cons n i g=>cases h with|cons r t=>cases r;rw[aao,g t]
end
end
section
def seqOf(x:OD):Option (List PyData):=match listOf x with
 |some a=>some a
 |none=>gb x
section
variable{b:Bs}{F:List Fr}{σ:St}{H H':Hp}{ρ ρ':DEnv}{τ vs:List V}{θ rs:List OR}{v u:V}{r r':OR}{x y:OD}{d:PyData}{ds:List PyData}{i:Nat}{L:List (V×OD)}{p:Addr}
theorem Rel.mem(R:Rel b F σ H ρ (v::τ) (r::θ))(e:f9 ρ r=some x):(v,x)∈stk (v::τ) (r::θ)++(flat σ ρ++ff F):=by
 cases r with
 |val y=>simp only[f9]at e;cases e;simp[stk]
 |rf i=>simp only[f9]at e;refine aag _ (aah _ ?_);exact(bE (join_some e) R.al.1).mem_iff.mpr aaj
theorem Rel.mem1(R:Rel b F σ H ρ (u::v::τ) (r'::r::θ))(e:f9 ρ r=some x):(v,x)∈stk (u::v::τ) (r'::r::θ)++(flat σ ρ++ff F):=by
 have h:=R.drop.mem e;cases r' with
 |val y=>simp only[stk];exact aal _ h
 |rf i=>exact h
theorem Rel.fy(R:Rel b F σ H ρ (u::v::τ) (r'::r::θ)):Rel b F σ H ρ (u::τ) (r'::θ):=(Rel.xr (vs:=[u]) (rs:=[r']) R rfl).drop
theorem Ows.fzs(h:Ows b S H vs (ds.map OD.fz) A):FzA b.K S H vs ds:=by
 induction ds generalizing vs A with
 |nil=>cases h;exact .nil
 |cons d ds a=>cases h with|cons r t=>cases r with|fz f=>exact .cons f (a t)
theorem Wd.exp(w:Wd b H L)(e:OwL b (λa=>a∈A\/b.S0 a) H L A)(f:A.Nodup)(c:∀a∈A,b.H0 a=none\/b.C a)(h:FzA b.K (λa=>a∈A\/b.S0 a) H vs ds):Wd b H (vs.zip (ds.map OD.fz)++L):=by
 have q:∀{vs:List V}{ds:List PyData},FzA b.K (λa=>a∈A\/b.S0 a) H vs ds->OwL b (λa=>a∈A\/b.S0 a) H (vs.zip (ds.map OD.fz)) []:=by
  intro vs;induction vs with
  |nil=>intro ds h;cases h;exact .nil
  |cons v vs g=>intro ds h;cases h with|cons r t=>exact Ows.cons (.fz r) (g t)
 exact⟨⟨A,OwL.kn (q h) e,f,c⟩,w.fr,w.s0,w.nt⟩
theorem Wd.ay(w:Wd b H L)(m:(v,x)∈L)(e:listOf x=some ds):∃a vs,v=.ref a/\vs.length=ds.length/\SqL b.K H a vs/\Wd b H (vs.zip (ds.map OD.fz)++L):=by
 obtain⟨A,j,k,g⟩:=w.out;obtain⟨B,h⟩:=OwL.mem j m;cases h with
 |@fz _ d f=>
  cases d with
  |list o=>simp only[listOf]at e;cases e;obtain⟨a,vs,rfl,n,c⟩:=f.q7;exact⟨a,vs,rfl,c.length,n.now,w.exp j k g c⟩
  |_=>simp[listOf]at e
 |@lst a vs xs A' e1 t=>simp only[listOf]at e;have l:=fzL_map e;subst l;have c:=Ows.fzs t;exact⟨a,vs,rfl,c.length,SqL.of e1,w.exp j k g c⟩
 |_=>simp[listOf]at e
theorem Wd.ez(w:Wd b H L)(m:(v,x)∈L)(e:gb x=some ds):∃a vs,v=.ref a/\vs.length=ds.length/\SqT b.K H a vs/\Wd b H (vs.zip (ds.map OD.fz)++L):=by
 obtain⟨A,g,k,c⟩:=w.out;obtain⟨B,h⟩:=OwL.mem g m;cases h with
 |@fz _ d f=>
  cases d with
  |tuple n=>simp only[gb]at e;cases e;obtain⟨a,vs,rfl,l,j⟩:=f.ry;exact⟨a,vs,rfl,j.length,l.now,w.exp g k c j⟩
  |_=>simp[gb]at e
 |_=>simp[gb]at e
theorem Wd.vu(w:Wd b H L)(m:(v,x)∈L)(e:seqOf x=some ds):∃a vs,v=.ref a/\vs.length=ds.length/\(SqL b.K H a vs\/SqT b.K H a vs)/\Wd b H (vs.zip (ds.map OD.fz)++L):=by
 unfold seqOf at e;cases h:listOf x with
 |some z=>rw[h]at e;cases e;obtain⟨a,vs,g,f,j,c⟩:=w.ay m h;exact⟨a,vs,g,f,.inl j,c⟩
 |none=>rw[h]at e;obtain⟨a,vs,g,f,j,c⟩:=w.ez m e;exact⟨a,vs,g,f,.inr j,c⟩
theorem Rel.ea(R:Rel b F σ H ρ τ θ){Z:List (V×OD)}(w:Wd b H (Z++(stk τ θ++(flat σ ρ++ff F))))(e:vs.length=ds.length)(m:∀z∈vs.zip (ds.map OD.fz),z∈Z++(stk τ θ++(flat σ ρ++ff F)))(h:H p=none):
  Rel b F σ (upd H p (.lst vs)) ρ (.ref p::τ) (.val (.lst (ds.map OD.fz))::θ):=by
 obtain⟨A,c,g,a⟩:=w.out;have f:=Wd.exp w c g a ((OwL.uh c).all e m);exact R.push (Wd.below (Wd.ea f (by simpa using e) h))
theorem Rel.kl(R:Rel b F σ H ρ τ θ){Z:List (V×OD)}(w:Wd b H (Z++(stk τ θ++(flat σ ρ++ff F))))(a:vs.length=ds.length)(m:∀z∈vs.zip (ds.map OD.fz),z∈Z++(stk τ θ++(flat σ ρ++ff F)))(c:H p=none):
  Rel b F σ (upd H p (.tup vs)) ρ (.ref p::τ) (.val (.fz (.tuple ds))::θ):=R.push (Wd.below (w.kl (λS e=>e.all a m) c))
end
section
variable{X:Cx}{K:Waa}{a b c e:Expr}{es:List Expr}{da db dc:DE}{dt:DA}{pos p:Pos}{x:Str}
def BV(t:DA):DE:=λg Q=>t g λh d=>∃r f,h=[r]/\(f9 d r).bind listOf=some f/\Q (.val (.fz (.tuple f))) d
theorem tM(A:Gl X x) (n:X.mg x=none) (hv:bootBuiltins x=some (.type "tuple")) (L:x≠"__name__":=by decide) (f:(x==("__debug__":Str))=false:=by decide)
  (u:starEach (e::es) X.env=(false,eval e X.env)::starEach es X.env:=by rfl) (i:(backTo pos (starEach es X.env)).any (·.1)=false:=by rfl):PDa X (e::es) dt->PDe X (.Call (.Name x p) (e::es) [] pos) (BV dt)
 |⟨_,j,s1⟩=>⟨_,iY iO A n hv j L f u i,λb F D H M I B U Q m R h q=>s1 b F D H M I B _ _ m R h λC S Y J g d ⟨r,T,y,N,j⟩=>by
  subst y;obtain⟨z,O,t⟩:=aaT.mp N
  match C,g with
  |[v],_=>
   obtain⟨a,s,rfl,g,k,w⟩:=d.wd.ay (d.mem O) t;rw[m]at k;exact⟨a,s,rfl,.inl ⟨k,λl G=>q _ _ _ _ (Rel.fy (d.kl w g (λz o=>aah _ o) G)) j⟩⟩⟩
def Ia(a b:DE):DE:=λh Q=>a h λx g=>b g λy d=>∃f es,mS d x=some f/\mS d y=some es/\f.length+es.length<=1000000/\Q (.val (.lst ((f++es).map OD.fz))) d
theorem xM{i g:Type}{xs f:List i}{ys d:List g}(h:xs.length=ys.length):(xs++f).zip (ys++d)=xs.zip ys++f.zip d:=List.zip_append h
theorem BW:PDe X a da->PDe X b db->PDe X (.BinOp a .Add b pos) (Ia da db)
 |⟨_,j,s1⟩,⟨_,i,s2⟩=>⟨_,sy xy j i,λb F σ H ρ τ θ S Q k R h q=>s1 b F σ H ρ τ θ _ _ k R h λv C x ρ1 A j=>s2 b F σ C ρ1 _ _ _ _ k A j λu N y ρ2 g ⟨ds,es,B,I,d,i⟩=>by
  obtain⟨O,J,t⟩:=aaT.mp B;obtain⟨T,D,M⟩:=aaT.mp I;obtain⟨a,s,rfl,r,n,w⟩:=g.wd.ay (g.mem1 J) t;obtain⟨c,L,rfl,m,f,o⟩:=w.ay (aag _ (g.mem D)) M;rw[<-aac]at o;rw[k]at n f;refine⟨a,c,s,L,rfl,rfl,n,f,mL (by omega),λl G=>q _ _ _ _ (Rel.fy (Rel.fy (g.ea o (by simp[r,m]) (λz d=>?_) G))) i⟩;rw[aas,xM (by simpa using r)]at d;refine aah _ ?_;rcases aai.mp d with d|d
  ·exact aag _ d
  ·exact aah _ d⟩
abbrev DO:=DEnv->(Option Int->DEnv->Prop)->Prop
def Ib(K:Waa)(m:TO)(l:DO):Prop:=∀(b:Bs) (F:List Fr) (f:St) (H:Hp) (i:DEnv) (h:List V) (g:List OR) (Qd:Option Int->DEnv->Prop) (Q:Option Int->Hp->Prop),b.K=K->Rel b F f H i h g->l i Qd->(∀k j d,Rel b F f j d h g->Qd k d->Q k j)->m f H Q
inductive PDo (X:Cx)(e:Option Expr)(de:DO):Prop|mk (te:TO) (h:PO X e te) (s:Ib X.K te de)
def dNoPart:DO:=λd Q=>Q none d
def EU(a:DE):DO:=λf Q=>a f λx d=>∃i,aq d x=some (.int i)/\Q (some i) d
theorem pdo_none:PDo X none dNoPart:=⟨_,xf,λb F i H d g f k Q j R h q=>q none H d R h⟩
theorem tN:PDe X e da->PDo X (some e) (EU da)
 |⟨_,d,s1⟩=>⟨_,xg d,λb F σ H ρ τ θ k Q j R h q=>s1 b F σ H ρ τ θ _ _ j R h λv g x ρ1 f ⟨i,e,d⟩=>by
  cases f.dt e;exact⟨i,rfl,q _ g _ f.drop d⟩⟩
def cutD{d:Type}(xs:List d)(lo hi:Option Int):List d:=(xs.drop (HT.sIx xs.length 0 lo)).take (HT.sIx xs.length xs.length hi-HT.sIx xs.length 0 lo)
theorem xN{vs:List V}{ds:List OD}(f:vs.length=ds.length)(lo hi:Option Int):∀z∈(cutD vs lo hi).zip (cutD ds lo hi),z∈vs.zip ds:=by intro z d;unfold cutD at d;rw[f,acB,<-List.take_zipWith,<-List.drop_zipWith,<-acB]at d;exact List.mem_of_mem_drop (List.mem_of_mem_take d)
theorem kU{d g:Type}(f:d->g)(xs:List d)(lo hi:Option Int):cutD (xs.map f) lo hi=(cutD xs lo hi).map f:=by unfold cutD;rw[aaa,acf,List.map_drop]
theorem tP{g f:Type}{xs:List g}{ys:List f}(d:xs.length=ys.length)(lo hi:Option Int):(cutD xs lo hi).length=(cutD ys lo hi).length:=by unfold cutD;rw[aaW,abl,aaW,abl,d]
variable{lo hi:Option Expr}{dl dh:DO}{p2:Pos}
def Ic(a:DE)(dl dh:DO):DE:=λi Q=>a i λx f=>dl f λl g=>dh g λu d=>∃h,mS d x=some h/\Q (.val (.lst ((cutD h l u).map OD.fz))) d
theorem BX:PDe X e da->PDo X lo dl->PDo X hi dh->PDe X (.Subscript e (.Slice lo hi none p2) pos) (Ic da dl dh)
 |⟨_,i,s1⟩,⟨_,f,s2⟩,⟨_,g,s3⟩=>⟨_,sM xh i f g,λb F σ H ρ τ θ J Q d R h q=>s1 b F σ H ρ τ θ _ _ d R h λv A x ρ1 s i=>s2 b F σ A ρ1 _ _ _ _ d s i λl y ρ2 C f=>s3 b F σ y ρ2 _ _ _ _ d C f λu L ρ3 j ⟨ds,t,g⟩=>by
  obtain⟨I,D,r⟩:=aaT.mp t;obtain⟨a,o,rfl,n,k,w⟩:=j.wd.ay (j.mem D) r;rw[d]at k;refine⟨a,o,rfl,k,λG B=>q _ _ _ _ (Rel.fy (j.ea w (tP n l u) (λz m=>aah _ ?_) B)) g⟩;rw[<-kU]at m;exact xN (by simpa using n) l u z m⟩
end
end
section
structure DEnds where
 nx:DEnv->Prop
 rt:OD->DEnv->Prop
 bk:DEnv->Prop:=λ_=>False
 ct:DEnv->Prop:=λ_=>False
abbrev DS:=DEnds->DEnv->Prop
def NoRf(W:Nat->Prop)(θ:List OR):Prop:=∀r∈θ,(∃x,r=.val x)\/∃j,W j/\r=.rf j
abbrev Ff:Nat->Prop:=λ_=>False
structure EndsOk (b:Bs)(F:List Fr)(τ:List V)(θ:List OR)(Dd:DEnds)(D:Ends):Prop where
 nx:∀σ H ρ,Rel b F σ H ρ τ θ->Dd.nx ρ->D.nx σ H
 bk:∀σ H ρ,Rel b F σ H ρ τ θ->Dd.bk ρ->D.bk σ H
 ct:∀σ H ρ,Rel b F σ H ρ τ θ->Dd.ct ρ->D.ct σ H
 rt:∀σ H ρ v x,Rel b F σ H ρ (v::τ) (.val x::θ)->Dd.rt x ρ->D.rt v H
def EV(K:Waa)(W:Nat->Prop)(ts:TS)(ds:DS):Prop:=∀(b:Bs) (F:List Fr) (e:St) (H:Hp) (d:DEnv) (f:List V) (a:List OR) (c:DEnds) (D:Ends),b.K=K->NoRf W a->Rel b F e H d f a->ds c d->EndsOk b F f a c D->ts D e H
inductive PDs (X:Cx)(W:Nat->Prop)(e:Stmt)(de:DS):Prop|mk (te:TS) (h:PS X e te) (s:EV X.K W te de)
inductive PDss (X:Cx)(W:Nat->Prop)(e:List Stmt)(de:DS):Prop|mk (te:TS) (h:PSs X e te) (s:EV X.K W te de)
section
variable{b:Bs}{F:List Fr}{σ σ':St}{H H':Hp}{ρ ρ':DEnv}{τ vs:List V}{θ rs:List OR}{v u:V}{r r':OR}{x y:OD}{d:PyData}{ds:List PyData}{i:Nat}{L:List (V×OD)}
variable{W:Nat->Prop}
theorem NoRf.al{o:Option V}(n:NoRf W θ)(f:¬ W i):∀{τ:List V},Al σ τ θ->Al (σ.set i o) τ θ:=by
 induction θ with
 |nil=>intro τ h;cases τ with
  |nil=>trivial
  |cons _ _=>exact h
 |cons r θ c=>
  intro τ h;cases τ with
  |nil=>cases r<;>exact h
  |cons v τ=>
   rcases n r aaj with ⟨x,rfl⟩|⟨j,g,rfl⟩
   ·exact c (λr a=>n r (aal _ a)) (τ:=τ) h
   ·refine⟨?_,c (λr a=>n r (aal _ a)) (τ:=τ) h.2⟩;have k:i≠j:=λe=>f (by rw[e];exact g);rw[aa4 k];exact h.1
theorem NoRf.al0(n:NoRf Ff θ):∀{τ:List V},Al σ τ θ->Al σ' τ θ:=by
 induction θ with
 |nil=>intro τ h;cases τ with
  |nil=>trivial
  |cons _ _=>exact h
 |cons r θ c=>
  intro τ h;rcases n r aaj with ⟨x,rfl⟩|⟨j,a,rfl⟩
  ·cases τ with
   |nil=>exact h
   |cons v τ=>exact c (λr e=>n r (aal _ e)) (τ:=τ) h
  ·exact a.elim
theorem NoRf.weak(n:NoRf Ff θ):NoRf W θ:=λr c=>(n r c).imp id λ⟨j,a,_⟩=>a.elim
theorem NoRf.app(c:NoRf W rs)(n:NoRf W θ):NoRf W (rs++θ):=λr a=>(aai.mp a).elim (c r) (n r)
theorem Wd.mv{L1 L2:List (V×OD)}(w:Wd b H (L1++(flat σ ρ++L2)))(f:Wf σ ρ)(i:Nat):Wd b H (L1++(flat σ (ρ.set i none)++L2)):=by
 cases e:ρ[i]?.join with
 |none=>
  have:ρ.set i none=ρ:=by
   cases h:ρ[i]? with
   |none=>exact List.set_eq_of_length_le (by simpa using h)
   |some o=>rw[h]at e;have:o=none:=e;subst this;exact set_self h
  rw[this];exact w
 |some x=>have a:=join_some e;obtain⟨v,c⟩:=f.get a;exact Wd.drop (w.perm ((((bE a c).append_right _).append_left _).trans aaz))
theorem Rel.store(R:Rel b F σ H ρ (v::τ) (.val x::θ))(n:NoRf W θ)(a:i<ρ.length)(c:¬ W i):Rel b F (σ.set i (some v)) H (ρ.set i (some x)) τ θ:=by refine Rel.uk R.wf (n.al c (Rel.drop R).al) R.wff a ?_;exact Wd.mv (L1:=(v,x)::stk τ θ) (ρ:=ρ) R.wd R.wf i
end
section
variable{X:Cx}{W:Nat->Prop}{K:Waa}{a b c e:Expr}{es:List Expr}{sts:List Stmt}{st:Stmt}{da db dc:DE}{dt:DA}{d1 d2:DS}{dT:DT}{pos p:Pos}{x:Str}
def dNext:DS:=λD d=>D.nx d
def Ie(t u:DS):DS:=λD f=>∃M:DEnv->Prop,(∀d,M d->u D d)/\t { D with nx:=M } f
theorem pdss_nil:PDss X W [] dNext:=⟨_,wX,λb F f H d k g i D j n R h E=>E.nx f H d R h⟩
theorem qZ:PDs X W st d1->PDss X W sts d2->PDss X W (st::sts) (Ie d1 d2)
 |⟨_,f,s1⟩,⟨_,h2,s2⟩=>⟨_,kF f h2,λb F σ H ρ τ θ l D g n R ⟨M,k,h⟩ E=>s1 b F σ H ρ τ θ _ _ g n R h
  ⟨λd j ρ1 i f=>s2 b F d j ρ1 τ θ l D g n i (k ρ1 f) E,E.bk,E.ct,E.rt⟩⟩
def dCont:DS:=λD d=>D.ct d
theorem pds_cont:PDs X W (.Continue pos) dCont:=⟨_,kG,λb F f H d k g i D j n R h E=>E.ct f H d R h⟩
def dBrk:DS:=λD d=>D.bk d
theorem pds_brk:PDs X W (.Break pos) dBrk:=⟨_,sm,λb F f H d k g i D j n R h E=>E.bk f H d R h⟩
def EW(a:DE):DS:=λD f=>a f λ_ d=>D.nx d
theorem tQ(g:swapsWith e none pos.line X.env=pure false:=by rfl):PDe X e da->PDs X W (.Expr e pos) (EW da)
 |⟨_,h,s⟩=>⟨_,gy h g,λb F f H m l k t D q n R h E=>s b F f H m l k _ _ q R h λv j r d i o=>E.nx f j d i.drop o⟩
def Ig(a:DE):DS:=λD g=>a g λr f=>∃x d,mv1 f r=some (x,d)/\D.rt x d
theorem xO:PDe X e da->PDs X W (.Return (some e) pos) (Ig da)
 |⟨_,h,s⟩=>⟨_,AQ h,λb F σ H ρ τ θ j D i n R h E=>s b F σ H ρ τ θ _ _ i R h λv f r ρ1 d ⟨x,ρ2,e,g⟩=>E.rt σ f ρ2 v x (d.mv1 e) g⟩
def Ih(c:DT)(t u:DS):DS:=λD f=>c f λk d=>if k=true then t D d else u D d
theorem BY{f g:List Stmt}:PDt X c dT->PDss X W f d1->PDss X W g d2->PDs X W (.If c f g pos) (Ih dT d1 d2)
 |⟨_,h,s⟩,⟨_,d,f⟩,⟨_,h2,g⟩=>⟨_,D9 h d h2,λb F σ H ρ τ θ m D i n R h E=>s b F σ H ρ τ θ _ _ i R h λk l ρ1 j d=>by
  cases k with
  |true=>rw[if_pos rfl]at d ⊢;exact f b F σ l ρ1 τ θ _ _ i n j d E
  |false=>rw[if_neg aaf]at d ⊢;exact g b F σ l ρ1 τ θ _ _ i n j d E⟩
def Ii(i:Nat)(a:DE):DS:=λD g=>a g λr f=>∃x d,own1 f r=some (x,d)/\i<d.length/\D.nx (d.set i (some x))
theorem xP{i:Nat}{d:Pos}(l:¬ W i)(C:X.N.Nodup)(f:X.N[i]?=some x)(q:Loc X.env.scope x)(g:swapsWith e (some (.Name x d)) pos.line X.env=pure false:=by rfl)(B:X.fn x=true\/X.env.scope.names.lookup x=some .local:=by first|exact .inl rfl|exact .inr rfl|assumption):
  PDe X e da->PDs X W (.Assign [.Name x d] e pos) (Ii i da)
 |⟨_,h,s⟩=>⟨_,AU C f q h g B,λb F t H y w o G D A n R h E=>s b F t H y w o _ _ A R h λv m r u j ⟨x,k,e,f,z⟩=>E.nx _ m _ ((j.own1 e).store n f l) z⟩
def dB:List Nat->List OD->DEnv->DEnv
 |i::is,x::xs,ρ=>dB is xs (ρ.set i (some x))
 |_,_,ρ=>ρ
def BZ(is:List Nat)(t:DA):DS:=λD h=>t h λj g=>∃f d,mapR own1 g j=some (f,d)/\f.length=is.length/\(∀i∈is,i<d.length)/\D.nx (dB is f d)
def jI:List Nat->List V->St->St
 |i::is,v::vs,σ=>jI is vs (σ.set i (some v))
 |_,_,σ=>σ
theorem Rel.storeAll{W:Nat->Prop}{b:Bs}{F:List Fr}{H:Hp}{τ:List V}{θ:List OR}:∀{is:List Nat}{vs:List V}{xs:List OD}{σ:St}{ρ:DEnv},Rel b F σ H ρ (vs++τ) (xs.map OR.val++θ)->NoRf W θ->vs.length=xs.length->xs.length=is.length->(∀i∈is,i<ρ.length)->(∀i∈is,¬ W i)->Rel b F (jI is vs σ) H (dB is xs ρ) τ θ
 |[],[],[],_,_,R,_,_,_,_,_=>R
 |i::is,v::vs,x::xs,σ,ρ,R,n,e1,e2,h,hw=>by have f:NoRf W (xs.map OR.val++θ):=NoRf.app (λr g=>by obtain⟨x,_,rfl⟩:=aav.mp g;exact .inl ⟨x,rfl⟩) n;show Rel b F (jI is vs (σ.set i (some v))) H (dB is xs (ρ.set i (some x))) τ θ;exact Rel.storeAll (Rel.store (τ:=vs++τ) (θ:=xs.map OR.val++θ) R f (h i aaj) (hw i aaj)) n (by simpa using e1) (by simpa using e2) (λj d=>by rw[abf];exact h j (aal _ d)) λj d=>hw j (aal _ d)
 |[],_::_,[],_,_,_,_,e,_,_,_=>by simp at e
 |[],_,_::_,_,_,_,_,_,e,_,_=>by simp at e
 |_::_,[],_::_,_,_,_,_,e,_,_,_=>by simp at e
 |_::_,_,[],_,_,_,_,_,e,_,_=>by simp at e
theorem len2{d:Type}{l:List d}(h:l.length=2):∃a b,l=[a,b]:=by
 match l,h with
 |[a,b],_=>exact⟨a,b,rfl⟩
theorem Ij{d:Type}{l:List d}(h:l.length=3):∃a b c,l=[a,b,c]:=by
 match l,h with
 |[a,b,c],_=>exact⟨a,b,c,rfl⟩
theorem xQ{i j:Nat}(L:∀k∈[i,j],¬ W k){x y:Str}{r l m:Pos}{q t d}(U:X.calm=true)(hN:X.N.Nodup)(o:X.N[i]?=some x)(C:X.N[j]?=some y)(g:i≠j)
  (O:X.env.scope.names.lookup x=some .local) (J:X.env.scope.names.lookup y=some .local)
  (G:swappedStores [.Tuple [.Name x r,.Name y l] q m] (.Tuple [a,b] t d) X.env=pure (some [x,y]))
  (z:swapsWithSole [.Tuple [.Name x r,.Name y l] q m] (.Tuple [a,b] t d) pos.line X.env=pure false:=by rfl):PDa X [a,b] dt->PDs X W (.Assign [.Tuple [.Name x r,.Name y l] q m] (.Tuple [a,b] t d) pos) (BZ [i,j] dt)
 |⟨_,h,s⟩=>⟨_,AV U hN o C g O J h G z,λb F Q H ρ T M Dd D hK n R h E=>s b F Q H ρ T M _ _ hK R h λvs I rs S Z A ⟨xs,B,e,f,o,h1⟩=>by
  obtain⟨Y,u⟩:=eP Rel.own1 A Z e;obtain⟨v,w,rfl⟩:=len2 (u.trans f);exact⟨v,w,rfl,E.nx _ I _ (Rel.storeAll (is:=[i,j]) Y n u f o L) h1⟩⟩
theorem tR{i j k:Nat}(T:∀z∈[i,j,k],¬ W z){x y z:Str}{A l m o:Pos}{t C d}(hc:X.calm=true)(hN:X.N.Nodup)(q:X.N[i]?=some x)(O:X.N[j]?=some y)(hk:X.N[k]?=some z)(g:i≠j)(r:i≠k)(B:j≠k)
  (Y:X.env.scope.names.lookup x=some .local) (hy:X.env.scope.names.lookup y=some .local) (J:X.env.scope.names.lookup z=some .local)
  (Q:swappedStores [.Tuple [.Name x A,.Name y l,.Name z m] t o] (.Tuple [a,b,c] C d) X.env=pure (some [x,y,z]))
  (I:swapsWithSole [.Tuple [.Name x A,.Name y l,.Name z m] t o] (.Tuple [a,b,c] C d) pos.line X.env=pure false:=by rfl):PDa X [a,b,c] dt->PDs X W (.Assign [.Tuple [.Name x A,.Name y l,.Name z m] t o] (.Tuple [a,b,c] C d) pos) (BZ [i,j,k] dt)
 |⟨_,h,s⟩=>⟨_,xl hc hN q O hk g r B Y hy J h Q I,λb F Z H ρ τ U Dd D hK n R h E=>s b F Z H ρ τ U _ _ hK R h λvs S rs a0 el L ⟨xs,M,e,f,q,h1⟩=>by
  obtain⟨R2,G⟩:=eP Rel.own1 L el e;obtain⟨v,w,u,rfl⟩:=Ij (G.trans f);exact⟨v,w,u,rfl,E.nx _ S _ (Rel.storeAll (is:=[i,j,k]) R2 n G f q T) h1⟩⟩
abbrev DG:=OD->DEnv->(DEnv->Prop)->Prop
abbrev DGs:=List OD->DEnv->(DEnv->Prop)->Prop
def rg(K:Waa)(W:Nat->Prop)(m:Nat)(g:TG)(o:DG):Prop:=∀(b:Bs) (F:List Fr) (k:St) (H:Hp) (i:DEnv) (l:List V) (h:List OR) (v:V) (x:OD) (Qd:DEnv->Prop) (Q:St->Hp->Prop),b.K=K->NoRf W h->Rel b F k H i (v::l) (.val x::h)->o x i Qd->(∀f n d,Rel b F f n d l h->(∀j,m<=j->f[j]?=k[j]?/\d[j]?=i[j]?)->Qd d->Q f n)->g v k H Q
def EX(K:Waa)(W:Nat->Prop)(m:Nat)(g:TGs)(q:DGs):Prop:=∀(b:Bs) (F:List Fr) (l:St) (H:Hp) (k:DEnv) (n:List V) (h:List OR) (vs:List V) (i:List OD) (Qd:DEnv->Prop) (Q:St->Hp->Prop),b.K=K->NoRf W h->vs.length=i.length->Rel b F l H k (vs++n) (i.map OR.val++h)->q i k Qd->(∀f o d,Rel b F f o d n h->(∀j,m<=j->f[j]?=l[j]?/\d[j]?=k[j]?)->Qd d->Q f o)->g vs l H Q
inductive PDg (X:Cx)(W:Nat->Prop)(m:Nat)(e:Expr)(dg:DG):Prop|mk (te:TG) (h:PG X e te) (s:rg X.K W m te dg)
inductive PDgs (X:Cx)(W:Nat->Prop)(m:Nat)(e:List Expr)(dg:DGs):Prop|mk (te:TGs) (h:DU X e te) (s:EX X.K W m te dg)
def B3(i:Nat):DG:=λx d Q=>i<d.length/\Q (d.set i (some x))
def dgNil:DGs:=λd f Q=>d=[]/\Q f
def B4(t:DG)(u:DGs):DGs:=λf g Q=>∃x r,f=x::r/\t x g λd=>u r d Q
def unpT:OD->Option (List OD)
 |.fz (.tuple ds)=>some (ds.map OD.fz)
 |.tup xs=>some xs
 |_=>none
def unpL:OD->Option (List OD)
 |.fz (.list ds)=>some (ds.map OD.fz)
 |.lst xs=>some xs
 |_=>none
def EY(n:Nat)(t:DGs):DG:=λx f Q=>∃d,unpT x=some d/\d.length=n/\t d f Q
def EZ(n:Nat)(t:DGs):DG:=λx f Q=>∃d,unpL x=some d/\d.length=n/\t d f Q
variable{m:Nat}{dg:DG}{dgs:DGs}
theorem kW{i:Nat}(f:¬ W i)(o:X.N.Nodup)(d:X.N[i]?=some x)(g:Loc X.env.scope x)(l:i<m)(k:X.fn x=true\/X.env.scope.names.lookup x=some .local:=by first|exact .inl rfl|exact .inr rfl|assumption):PDg X W m (.Name x pos) (B3 i):=
 ⟨_,jt o d g k,λb F t H y w s v x u Q z n R ⟨d,h⟩ q=>q _ _ _ (R.store n d f) (λj r=>⟨aa4 (by omega),aa4 (by omega)⟩) h⟩
theorem pdgs_nil:PDgs X W m [] dgNil:=⟨_,nY,λb F l H s r k d g o Q t n f R ⟨e,h⟩ q=>by
 subst e;cases d with
 |nil=>exact⟨rfl,q _ _ _ R (λj i=>⟨rfl,rfl⟩) h⟩
 |cons _ _=>simp at f⟩
theorem rh(z:(assignEach (e::es) X.env).map (·.2)=assign e X.env::(assignEach es X.env).map (·.2):=by rfl):PDg X W m e dg->PDgs X W m es dgs->PDgs X W m (e::es) (B4 dg dgs)
 |⟨_,o,s1⟩,⟨_,g,s2⟩=>⟨_,gL o g z,λb F J H M s i d N S Q w n t R ⟨x,r,e,h⟩ q=>by
  subst e;cases d with
  |nil=>simp at t
  |cons v d=>
   have I:NoRf W (r.map OR.val++i):=NoRf.app (λr C=>by obtain⟨x,_,rfl⟩:=aav.mp C;exact .inl ⟨x,rfl⟩) n;exact⟨v,d,rfl,s1 b F J H M (d++s) (r.map OR.val++i) v x _ _ w I R h λk G l A y o=>s2 b F k G l s i d r _ _ w n (by simpa using t) A o λD O B L u g=>
    q _ _ _ L (λj f=>⟨(u j f).1.trans (y j f).1,(u j f).2.trans (y j f).2⟩) g⟩⟩
theorem Wd.unpT{b:Bs}{H:Hp}{L:List (V×OD)}{v:V}{x:OD}{xs:List OD}(w:Wd b H ((v,x)::L))(e:unpT x=some xs):∃a vs,v=.ref a/\SqT b.K H a vs/\vs.length=xs.length/\Wd b H (vs.zip xs++L):=by
 cases x with
 |fz d=>cases d<;>simp only[L2.unpT]at e<;>cases e;obtain⟨a,vs,rfl,j,g,h⟩:=w.ez aaj (rfl:gb (.fz (.tuple _))=some _);exact⟨a,vs,rfl,g,by simpa using j,Wd.drop (h.perm aaz)⟩
 |tup n=>
  simp only[L2.unpT]at e;cases e;obtain⟨l,i,k,f⟩:=w.out;cases i with
  |cons r t=>
   cases r with
   |@tup a vs _ A h1 h2=>exact⟨a,vs,rfl,SqT.of h1,h2.len,⟨⟨_,OwL.kn (OwL.h8 h2) t,k,f⟩,w.fr,w.s0,w.nt⟩⟩
 |_=>simp[L2.unpT]at e
theorem Wd.unpL{b:Bs}{H:Hp}{L:List (V×OD)}{v:V}{x:OD}{xs:List OD}(w:Wd b H ((v,x)::L))(e:unpL x=some xs):∃a vs,v=.ref a/\SqL b.K H a vs/\vs.length=xs.length/\Wd b H (vs.zip xs++L):=by
 have f:∀{i:List PyData},listOf x=some i->xs=i.map OD.fz->∃a vs,v=.ref a/\SqL b.K H a vs/\vs.length=xs.length/\Wd b H (vs.zip xs++L):=λ{i} h1 h2=>by subst h2;obtain⟨a,vs,rfl,o,k,l⟩:=w.ay aaj h1;exact⟨a,vs,rfl,k,by simpa using o,Wd.drop (l.perm aaz)⟩
 cases x with
 |fz d=>cases d<;>simp only[L2.unpL]at e<;>cases e;exact f rfl rfl
 |lst y=>
  simp only[L2.unpL]at e;cases e;obtain⟨u,j,q,g⟩:=w.out;have s:=w.qd j;cases j with
  |@cons _ _ A _ _ B0 r t=>
   cases r with
   |@lst a vs _ B h1 h2=>have h:∀c,(c∈B++B0\/b.S0 c)->(c∈a::B++B0\/b.S0 c):=λc z=>z.imp (λz=>by simp at z ⊢;exact .inr z) id;exact⟨a,vs,rfl,SqL.of h1,h2.len,⟨⟨_,Ows.step (Kp.refl _ _) (λc z=>.inl (h c z)) s (λ_ _=>rfl) (OwL.kn (OwL.h8 h2) t),(aaE.mp q).2,λc n=>g c (aal _ n)⟩,w.fr,w.s0,w.nt⟩⟩
 |_=>simp[L2.unpL]at e
theorem jJ{σ:St}:∀{vs:List V}{xs:List OD},vs.length=xs.length->Al σ vs (xs.map OR.val)
 |[],[],_=>trivial
 |_::vs,_::xs,e=>jJ (vs:=vs) (xs:=xs) (by simpa using e)
 |[],_::_,e=>by simp at e
 |_::_,[],e=>by simp at e
theorem Rel.spread{b:Bs}{F:List Fr}{σ:St}{H:Hp}{ρ:DEnv}{τ vs:List V}{θ:List OR}{xs:List OD}(R:Rel b F σ H ρ τ θ)(d:vs.length=xs.length)(w:Wd b H (vs.zip xs++(stk τ θ++(flat σ ρ++ff F)))):Rel b F σ H ρ (vs++τ) (xs.map OR.val++θ):=
 ⟨R.wf,(a9 (by simpa using d)).mpr ⟨jJ d,R.al⟩,R.wff,by rw[aH (by simpa using d),dr d,aac];exact w⟩
theorem xR{k:Nat}{n:Nat}(y:X.calm=true)(z:(assignEach es X.env).length=n:=by rfl)(d:(assignEach es X.env).findIdx? (·.1)=none:=by rfl):PDgs X W m es dgs->PDg X W m (.Tuple es k pos) (EY n dgs)
 |⟨_,h,s⟩=>⟨_,sq y h z d,λb F r H A u o v x C Q j B R ⟨l,e,t,h⟩ q=>by
  obtain⟨a,i,rfl,g,f,w⟩:=Wd.unpT R.wd e;rw[j]at g;exact⟨a,i,rfl,g,f.trans t,s b F r H A u o i l _ _ j B f (R.drop.spread f w) h q⟩⟩
theorem xS{k:Nat}{n:Nat}(y:X.calm=true)(z:(assignEach es X.env).length=n:=by rfl)(d:(assignEach es X.env).findIdx? (·.1)=none:=by rfl):PDgs X W m es dgs->PDg X W m (.Tuple es k pos) (EZ n dgs)
 |⟨_,h,s⟩=>⟨_,BC y h z d,λb F r H A u o v x C Q j B R ⟨l,e,t,h⟩ q=>by
  obtain⟨a,i,rfl,g,f,w⟩:=Wd.unpL R.wd e;rw[j]at g;exact⟨a,i,rfl,g,f.trans t,s b F r H A u o i l _ _ j B f (R.drop.spread f w) h q⟩⟩
def Ik(a:DE)(g:DG):DS:=λD h=>a h λr f=>∃x d,own1 f r=some (x,d)/\g x d D.nx
theorem xT{d:Expr}(s:swapsWithSole [d] e pos.line X.env=pure false:=by rfl)(u:swappedStores [d] e X.env=pure none:=by rfl)(z:(assignEach [d] X.env).map (·.2)=[assign d X.env]:=by rfl):PDe X e da->PDg X W m d dg->PDs X W (.Assign [d] e pos) (Ik da dg)
 |⟨_,j,s1⟩,⟨_,h2,s2⟩=>⟨_,my j h2 s u z,λb F l H G o k I D q n R h E=>s1 b F l H G o k _ _ q R h λv w r B t ⟨x,f,e,j⟩=>
  s2 b F l w f o k v x _ _ q n (t.own1 e) j λg y i A _ C=>E.nx g y i A C⟩
def B5(c:DT)(t:DS):DS:=λD g=>∃W:Nat->DEnv->Prop,(∃m,W m g)/\∀m g,W m g->c g λk f=>if k=true then ∃N:DEnv->Prop,(∀d,N d->∃h,h<m/\W h d)/\t { D with nx:=N,ct:=N,bk:=D.nx } f else D.nx f
theorem rj(u:PassesOwn (model X.prog X.w) X.A X.env X.xe):PDt X c dT->PDss X W sts d1->PDs X W (.While c sts [] pos) (B5 dT d1)
 |⟨_,h1,s1⟩,⟨_,i,s2⟩=>⟨_,sv u h1 i,λb F σ H ρ τ θ O D r n R ⟨W,⟨B,L⟩,step⟩ E=>by
  refine⟨λm σ H=>∃ρ,Rel b F σ H ρ τ θ/\W m ρ,⟨B,ρ,R,L⟩,?_⟩;rintro m h y ⟨ρ1,v,t⟩;refine s1 b F h y ρ1 τ θ _ _ r v (step m ρ1 t) λk o ρ2 q i=>?_;cases k with
  |false=>rw[if_neg aaf]at i ⊢;exact E.nx h o ρ2 q i
  |true=>
   rw[if_pos rfl]at i ⊢;obtain⟨N,M,G⟩:=i;refine⟨λf j=>∃d,Rel b F f j d τ θ/\N d,λf j I=>?_,s2 b F h o ρ2 τ θ _ _ r n q G ⟨λf j d g l=>⟨d,g,l⟩,λf j d g l=>E.nx f j d g l,λf j d g l=>⟨d,g,l⟩,E.rt⟩⟩;obtain⟨d,g,C⟩:=I;obtain⟨J,s,z⟩:=M d C;exact⟨J,s,d,g,z⟩⟩
abbrev DI:=DEnv->(List PyData->DEnv->Prop)->Prop
def kX(b:Bs)(J:It)(vs:List V)(rs:List OR)(ds:List PyData):Prop:=∀(F:List Fr) (i:St) (H:Hp) (h:DEnv) (j:List V) (f:List OR),Rel b F i H h (vs++j) (rs++f)->∀k,
 (k<ds.length->J.go k H/\∀x g d,J.yld k H x g->ds[k]?=some d->Rel b F i g h (x::(vs++j)) (.val (.fz d)::(rs++f)))/\(k=ds.length->J.stop k H)
def E3(K:Waa)(q:TI)(o:DI):Prop:=∀(b:Bs) (F:List Fr) (h:St) (H:Hp) (k:DEnv) (j:List V) (i:List OR) (Qd:List PyData->DEnv->Prop) (Q:It->Hp->Prop),b.K=K->Rel b F h H k j i->o k Qd ->
 (∀J n l d g f,g.length=f.length->NoRf Ff f->Rel b F h n d (g++j) (f++i)->kX b J g f l->Qd l d->Q J n)->q h H Q
inductive PDi (X:Cx)(tg e:Expr)(di:DI):Prop|mk (te:TI) (h:PI X tg e te) (s:E3 X.K te di)
def bP(lo:Int)(n:Nat):List PyData:=(List.range n).map λ(i:Nat)=>PyData.int (lo+(i:Int))
theorem eQ(lo:Int)(n:Nat):(bP lo n).length=n:=by simp[bP]
theorem tS{lo:Int}{n k:Nat}{d:PyData}(h:(bP lo n)[k]?=some d):k<n/\d=.int (lo+k):=by unfold bP at h;rw[aau]at h;obtain⟨j,i,rfl⟩:=aaQ.mp h;obtain⟨f,g⟩:=aan.mp i;simp at f g;subst g;exact⟨f,rfl⟩
theorem kY(b:Bs)(lo:Int)(n:Nat):kX b (Ec lo n) [] [] (bP lo n):=λF q H o r j R k=>by rw[eQ];refine⟨λh=>⟨h,λx l d ⟨f,g⟩ i=>?_⟩,λe=>by subst e;exact aae _⟩;subst f g;rw[(tS i).2];exact Rel.sc R (.int _)
def E4(t:DA):DI:=λf Q=>t f λg d=>∃j,gu d g=some [.int j]/\-(2^62)<=j/\j<2^62/\Q (bP 0 j.toNat) d
theorem mT{k:Expr} (w:Gl X "range") (n:X.mg "range"=none) (l:starEach [a] X.env=[(false,eval a X.env)]:=by rfl):PDa X [a] dt->PDi X k (.Call (.Name "range" p) [a] [] pos) (E4 dt)
 |⟨_,h,s⟩=>⟨_,qw w n h l,λb F z H B A y J Q D R h q=>s b F z H B A y _ _ D R h λI u L d g f ⟨j,e,i,v,C⟩=>by
  have G:=f.dtL g e;cases G with
  |cons r t=>cases t;cases r;exact⟨j,rfl,i,v,q _ u _ d [] [] rfl (λr o=>by cases o) (f.drops g) (kY b 0 _) C⟩⟩
def E5(t:DA):DI:=λf Q=>t f λg d=>∃i j,gu d g=some [.int i,.int j]/\(-(2^62)<=i/\i<2^62/\-(2^62)<=j/\j<2^62)/\Q (bP i (j-i).toNat) d
theorem mU{l:Expr} (y:Gl X "range") (o:X.mg "range"=none) (n:starEach [a,b] X.env=[(false,eval a X.env),(false,eval b X.env)]:=by rfl) (d:starEach [b] X.env=[(false,eval b X.env)]:=by rfl):PDa X [a,b] dt->PDi X l (.Call (.Name "range" p) [a,b] [] pos) (E5 dt)
 |⟨_,h,s⟩=>⟨_,qx y o h n d,λb F A H D B z M Q I R h q=>s b F A H D B z _ _ I R h λL w N f k g ⟨i,j,e,u,G⟩=>by
  have J:=g.dtL k e;cases J with
  |cons r t=>cases t with|cons C t=>cases t;cases r;cases C;exact⟨i,j,rfl,u,q _ w _ f [] [] rfl (λr v=>by cases v) (g.drops k) (kY b i _) G⟩⟩
theorem Rel.itemAt{b:Bs}{F:List Fr}{σ:St}{H:Hp}{ρ:DEnv}{τ:List V}{θ:List OR}{v:V}{x:OD}{ds:List PyData}{d:PyData}{k:Nat}(R:Rel b F σ H ρ τ θ)(m:(v,x)∈stk τ θ++(flat σ ρ++ff F))(e:seqOf x=some ds)(h:ds[k]?=some d):
  ∃a vs u,v=.ref a/\(SqL b.K H a vs\/SqT b.K H a vs)/\vs.length=ds.length/\vs[k]?=some u/\Rel b F σ H ρ (u::τ) (.val (.fz d)::θ):=by
 obtain⟨a,vs,rfl,g,i,w⟩:=R.wd.vu m e;have f:k<vs.length:=by rw[g];exact(aan.mp h).1
 refine⟨a,vs,vs[k],rfl,i,g,aak f,R.push (w.pick (cO (aak f) ?_))⟩;rw[aau,h];rfl
theorem dD{v:V}{x:OD}{τ:List V}{θ:List OR}{L:List (V×OD)}:(v,x)∈stk ([v]++τ) ([OR.val x]++θ)++L:=by simp[stk]
theorem rk(b:Bs)(a:Addr)(ds:List PyData):kX b (HD b.K a) [.ref a] [.val (.fz (.list ds))] ds:=λF G H M I C R k=>by
 obtain⟨B,g,e,L,n,_⟩:=R.wd.ay dD (rfl:listOf (.fz (.list ds))=some ds);cases e;refine⟨λh=>⟨⟨g,g[k]'(by omega),n,aak _⟩,λx A d ⟨r,y⟩ l=>?_⟩,λe=>⟨g,n,by omega⟩⟩;subst r;obtain⟨w,D,u,v,q,_,N,J⟩:=R.itemAt dD (rfl:seqOf (.fz (.list ds))=some ds) l;cases v;obtain⟨_,f,o,j,i,s⟩:=R.wd.ay dD (rfl:listOf (.fz (.list ds))=some ds);cases o;have z:k<f.length:=by rw[j];exact(aan.mp l).1
 have t:=y f i;refine Rel.push R (s.pick (cO t ?_));rw[aau,l];rfl
theorem tT(b:Bs)(a:Addr)(ds:List PyData):kX b (HE b.K a) [.ref a] [.val (.fz (.tuple ds))] ds:=λF r H u s q R k=>by obtain⟨o,f,e,t,g,w⟩:=R.wd.ez dD (rfl:gb (.fz (.tuple ds))=some ds);cases e;refine⟨λh=>⟨⟨f,f[k]'(by omega),g,aak _⟩,λx n d ⟨i,j⟩ l=>?_⟩,λe=>⟨f,g,by omega⟩⟩;subst i;refine Rel.push R (w.pick (cO (j f g) ?_));rw[aau,l];rfl
def Im(a:DE):DI:=λh Q=>a h λr f=>∃g d,frz1 f r=some (.list g,d)/\Q g d
theorem tU{i:Expr}:PDe X e da->PDi X i e (Im da)
 |⟨_,h,s⟩=>⟨_,wY h,λb F σ H ρ τ θ t Q f R h q=>s b F σ H ρ τ θ _ _ f R h λv n r ρ1 k ⟨ds,ρ2,e,o⟩=>by
  have d:=k.frz1 e;obtain⟨a,j,rfl,u,g,_⟩:=d.wd.ay (d.mem rfl) (rfl:listOf (.fz (.list ds))=some ds);rw[f]at g;exact⟨a,rfl,⟨j,g⟩,f▸q _ n ds ρ2 [.ref a] [.val (.fz (.list ds))] rfl (λr l=>.inl ⟨_,aaw.mp l⟩) d (rk b a ds) o⟩⟩
def Io(a:DE):DI:=λh Q=>a h λr f=>∃g d,frz1 f r=some (.tuple g,d)/\Q g d
theorem xU{i:Expr}:PDe X e da->PDi X i e (Io da)
 |⟨_,h,s⟩=>⟨_,AZ h,λb F σ H ρ τ θ t Q f R h q=>s b F σ H ρ τ θ _ _ f R h λv n r ρ1 k ⟨ds,ρ2,e,o⟩=>by
  have d:=k.frz1 e;obtain⟨a,j,rfl,u,g,_⟩:=d.wd.ez (d.mem rfl) (rfl:gb (.fz (.tuple ds))=some ds);rw[f]at g;exact⟨a,rfl,⟨j,g⟩,f▸q _ n ds ρ2 [.ref a] [.val (.fz (.tuple ds))] rfl (λr l=>.inl ⟨_,aaw.mp l⟩) d (tT b a ds) o⟩⟩
end
end
section
section
variable{X:Cx}{K:Waa}{a b c e:Expr}{es:List Expr}{sts:List Stmt}{st:Stmt}{da db dc:DE}{dt:DA}{d1 d2:DS}{dT:DT}{pos p:Pos}{x:Str}
def cS(ds:List PyData):List PyData:=(List.range ds.length).map λ(i:Nat)=>PyData.tuple [.int (i:Int),ds.getD i .none]
theorem cI(ds:List PyData):(cS ds).length=ds.length:=by simp[cS]
theorem rl{k:Nat}(h:(cS ds)[k]?=some d):∃e,ds[k]?=some e/\d=.tuple [.int k,e]:=by unfold cS at h;rw[aau]at h;obtain⟨j,i,rfl⟩:=aaQ.mp h;obtain⟨f,g⟩:=aan.mp i;simp at f g;subst g;exact⟨ds[k],aak f,by rw[abg,aak f];rfl⟩
theorem Rel.rr{b:Bs}{d e:PyData}{p:Addr}(R:Rel b F σ H ρ τ θ)(w:Wd b H (Z++(stk τ θ++(flat σ ρ++ff F))))(i:(v,OD.fz d)∈Z)(g:(u,OD.fz e)∈Z)(h:H p=none):
  Rel b F σ (upd H p (.tup [v,u])) ρ (.ref p::τ) (.val (.fz (.tuple [d,e]))::θ):=R.kl w rfl (λz f=>by
   simp at f;rcases f with rfl|rfl
   ·exact aah _ i
   ·exact aah _ g) h
theorem rm(b:Bs)(a:Addr)(ds:List PyData):kX b (HU b.K a) [.ref a] [.val (.fz (.list ds))] (cS ds):=λF t H z u s R k=>by obtain⟨r,f,e,v,g,w⟩:=R.wd.ay dD (rfl:listOf (.fz (.list ds))=some ds);cases e;rw[cI];refine⟨λh=>⟨⟨f,f[k]'(by omega),g,aak _⟩,λx q d ⟨T,y,j,l,n,o⟩ m=>?_⟩,λe=>⟨f,g,by omega⟩⟩;subst n o;obtain⟨A,i,rfl⟩:=rl m;refine Rel.rr (Z:=(V.int k,OD.fz (.int k))::f.zip (ds.map OD.fz)) R (w.sc (.int _)) aaj (aal _ (cO (j f g) ?_)) l;rw[aau,i];rfl
def E6(t:DA):DI:=λh Q=>t h λi f=>∃g d,frzL f i=some ([.list g],d)/\Q (cS g) d
theorem tV{G}{d:Pos} (A:Gl X "enumerate") (u:X.mg "enumerate"=none) (i:starEach [a] X.env=[(false,eval a X.env)]:=by rfl):PDa X [a] dt->PDi X (.Tuple es G d) (.Call (.Name "enumerate" p) [a] [] pos) (E6 dt)
 |⟨_,h,s⟩=>⟨_,xq A u h i,λb F n H I o m M Q j R h q=>s b F n H I o m _ _ j R h λB l N C t y ⟨g,f,e,J⟩=>by
  obtain⟨D,L⟩:=jG y t e
  match B,L with
  |[v],_=>
   have k:Rel b F n l f (v::o) (.val (.fz (.list g))::m):=D;obtain⟨a,w,rfl,t,i,_⟩:=k.wd.ay (k.mem rfl) (rfl:listOf (.fz (.list g))=some g);rw[j]at i;exact⟨a,w,rfl,i,j▸q _ l _ f [.ref a] [.val (.fz (.list g))] rfl (λr z=>.inl ⟨_,aaw.mp z⟩) k (rm b a g) J⟩⟩
def iP(ds es:List PyData):List PyData:=List.zipWith (λd e=>PyData.tuple [d,e]) ds es
theorem tW{ds es:List PyData}{k:Nat}(h:(iP ds es)[k]?=some d):∃x y,ds[k]?=some x/\es[k]?=some y/\d=.tuple [x,y]:=by
 unfold iP at h;rw[List.getElem?_zipWith]at h;cases f:ds[k]? with
 |none=>rw[f]at h;simp at h
 |some x=>
  cases g:es[k]? with
  |none=>rw[f,g]at h;simp at h
  |some y=>rw[f,g]at h;exact⟨x,y,rfl,rfl,(aaH h).symm⟩
def E7:PyData->Option (Bool×List PyData)
 |.list ds=>some (true,ds)
 |.tuple ds=>some (false,ds)
 |_=>none
def mV(l:Bool)(a:Addr)(xs:List V):ZS:=if l then .lst a xs else .tup a xs
theorem dR{a:Addr}(h:if l then SqL K H a xs else SqT K H a xs):(mV l a xs).ok K H:=by cases l<;>exact h
theorem kZ(l:Bool)(a:Addr)(xs:List V):(mV l a xs).val=.ref a:=by cases l<;>rfl
theorem cj(l:Bool)(a:Addr)(xs:List V):(mV l a xs).items=xs:=by cases l<;>rfl
theorem tX(h:E7 d=some (l,ds)):d=if l then .list ds else .tuple ds:=by cases d<;>simp only[E7]at h<;>cases h<;>rfl
theorem tY(b:Bs)(a c:Addr)(l g:Bool)(xs ys:List V)(ds es:List PyData):kX b (HQ b.K (mV l a xs) (mV g c ys)) [.ref a,.ref c] [.val (.pin l xs ds),.val (.pin g ys es)] (iP ds es):=λF J H N L I R k=>by
 obtain⟨G,e,M,i,w⟩:=R.wd.pinned (v:=.ref a) (l:=l) (xs:=xs) (ds:=ds) (by simp[stk]);cases e;obtain⟨D,e,A,f,m⟩:=w.pinned (v:=.ref c) (l:=g) (xs:=ys) (ds:=es) (by simp[stk]);cases e;have r:(iP ds es).length=min ds.length es.length:=by simp[iP]
 rw[r];refine⟨λh=>⟨⟨dR i,dR f,by rw[cj];omega,by rw[cj];omega⟩,λx C d ⟨T,y,z,j,n,s,u,q⟩ B=>?_⟩,λe=>⟨dR i,dR f,by rw[cj,cj];omega⟩⟩;subst u q;rw[cj]at j n;obtain⟨d1,d2,t,o,rfl⟩:=tW B;rw[<-aac]at m;refine Rel.rr R m (aag _ (cO j ?_)) (aah _ (cO n ?_)) s
 ·rw[aau,t];rfl
 ·rw[aau,o];rfl
def Ip(t:DA):DI:=λh Q=>t h λi f=>∃x y l k g es d,frzL f i=some ([x,y],d)/\E7 x=some (l,g)/\E7 y=some (k,es)/\Q (iP g es) d
theorem xV{T}{f:Pos} (M:Gl X "zip") (I:X.mg "zip"=none) (i:starEach [a,b] X.env=[(false,eval a X.env),(false,eval b X.env)]:=by rfl) (m:starEach [b] X.env=[(false,eval b X.env)]:=by rfl):PDa X [a,b] dt->PDi X (.Tuple es T f) (.Call (.Name "zip" p) [a,b] [] pos) (Ip dt)
 |⟨_,h,s⟩=>⟨_,Bq M I h i m,λb F t H U A o Qd Q B R h q=>s b F t H U A o _ _ B R h λvs n rs O S L ⟨x,y,l,k,ds,es,d,e,ex,ey,Y⟩=>by
  obtain⟨G,Z⟩:=jG L S e;obtain⟨v,u,rfl⟩:=len2 Z;have w:Wd b n ((v,.fz x)::(u,.fz y)::(stk A o++(flat t d++ff F))):=G.wd;have C:Rel b F t n d A o:=Rel.drops G rfl;obtain⟨xs,J⟩:=w.pin (tX ex);obtain⟨j,N⟩:=(J.perm (List.Perm.swap _ _ _)).pin (tX ey);have z:=N.perm (List.Perm.swap _ _ _);obtain⟨a,rfl,_,i,_⟩:=z.pinned (v:=v) (l:=l) (xs:=xs) (ds:=ds) (by simp);obtain⟨c,rfl,_,g,_⟩:=z.pinned (v:=u) (l:=k) (xs:=j) (ds:=es) (by simp);rw[B]at i g;refine⟨mV l a xs,mV k c j,by rw[kZ,kZ],dR i,dR g,B▸q _ n _ d [.ref a,.ref c] [.val (.pin l xs ds),.val (.pin k j es)] rfl (λr D=>by simp at D;rcases D with rfl|rfl<;>exact .inl ⟨_,rfl⟩) ?_ (tY b a c l k xs j ds es) Y⟩;exact⟨C.wf,C.al,C.wff,z⟩⟩
end
end
section
def cJ:DEnv->List Nat->Option (DEnv×DEnv)
 |ρ,[]=>some ([],ρ)
 |ρ,j::js=>match ρ[j]?.join with
  |some (.fz d)=>match cJ ρ js with|some z=>some (some (.fz d)::z.1,z.2)|none=>none
  |some x=>match cJ (ρ.set j none) js with|some z=>some (some x::z.1,z.2)|none=>none
  |none=>none
def eR:DEnv->List Nat->DEnv->DEnv
 |ρ,j::js,some x::os=>eR (ρ.set j (some x)) js os
 |ρ,_::js,none::os=>eR ρ js os
 |ρ,_,_=>ρ
def capV(σ:St)(js:List Nat):St:=js.map λj=>(σ[j]?).join
section
variable{b:Bs}{F:List Fr}{σ σ':St}{H H':Hp}{τ vs:List V}{θ rs:List OR}{v u:V}{x y:OD}{d:PyData}{ds:List PyData}{i:Nat}{L:List (V×OD)}
theorem xW(h:o=some (some v)):o.join=some v:=by rw[h];rfl
theorem oq:∀{js:List Nat}{ρ a ρ2:DEnv}{L1 L2:List (V×OD)},Wd b H (L1++(flat σ ρ++L2))->Wf σ ρ->cJ ρ js=some (a,ρ2)->Wd b H (flat (capV σ js) a++(L1++(flat σ ρ2++L2)))/\Wf σ ρ2/\Wf (capV σ js) a
 |[],ρ,a,ρ2,L1,L2,w,wf,e=>by simp only[cJ]at e;cases e;exact⟨w,wf,trivial⟩
 |j::js,ρ,a,ρ2,L1,L2,w,wf,e=>by
  cases h:ρ[j]?.join with
  |none=>simp[cJ,h]at e
  |some x=>
   have m:=join_some h;obtain⟨v,n⟩:=wf.get m;have A:Wd b H ((v,x)::(L1++(flat σ (ρ.set j none)++L2))):=w.perm ((((bE m n).append_right _).append_left _).trans aaz);have l:∀{y:OD}{c:DEnv}{z:DEnv×DEnv},Wd b H ((v,y)::(L1++(flat σ c++L2)))->Wf σ c->cJ c js=some z->(some y::z.1,z.2)=(a,ρ2)->Wd b H (flat (capV σ (j::js)) a++(L1++(flat σ ρ2++L2)))/\Wf σ ρ2/\Wf (capV σ (j::js)) a:=λ{y c z} o wf1 f g=>by
    cases g;obtain⟨G,r,p⟩:=oq (L1:=(v,y)::L1) o wf1 (show cJ c js=some (z.1,z.2) from f);have I:capV σ (j::js)=some v::capV σ js:=by unfold capV;rw[aao,xW n]
    rw[I];exact⟨G.perm aaz,r,p⟩
   have D:∀{z:DEnv×DEnv},cJ (ρ.set j none) js=some z->(some x::z.1,z.2)=(a,ρ2)->Wd b H (flat (capV σ (j::js)) a++(L1++(flat σ ρ2++L2)))/\Wf σ ρ2/\Wf (capV σ (j::js)) a:=λ{z} f g=>l A wf.off f g;have k:∀{c:DEnv}{y:OD},(match cJ c js with|some z=>some (some y::z.1,z.2)|none=>none)=some (a,ρ2)->∃z,cJ c js=some z/\(some y::z.1,z.2)=(a,ρ2):=λ{c y} q=>by
    cases t:cJ c js with
    |none=>rw[t]at q;cases q
    |some z=>rw[t]at q;exact⟨z,rfl,aaH q⟩
   cases x with
   |fz d=>simp only[cJ,h]at e;obtain⟨z,f,g⟩:=k e;have o:=A.dup;have C:j<ρ.length:=(aan.mp m).1;have B:σ.set j (some v)=σ:=set_self n;have s:=cH (v:=v) (x:=.fz d) C wf.len;rw[B,set_self m]at s;exact l (o.perm (List.Perm.cons _ (aaz.symm.trans ((s.symm.append_right _).append_left _)))) wf f g
   |_=>simp only[cJ,h]at e;obtain⟨z,f,g⟩:=k e;exact D f g
theorem jK:∀{js:List Nat}{ρ a:DEnv}{L1 L2:List (V×OD)},Wd b H (L1++(flat (capV σ js) a++(flat σ ρ++L2)))->Wf σ ρ->Wf (capV σ js) a->Wd b H (L1++(flat σ (eR ρ js a)++L2))/\Wf σ (eR ρ js a)
 |[],ρ,a,L1,L2,w,wf,wf2=>by
  cases a with
  |nil=>exact⟨w,wf⟩
  |cons _ _=>simp[capV,Wf]at wf2
 |j::js,ρ,[],L1,L2,w,wf,wf2=>by simp[capV,Wf]at wf2
 |j::js,ρ,o::a,L1,L2,w,wf,wf2=>by
  have n:capV σ (j::js)=(σ[j]?).join::capV σ js:=rfl;rw[n]at w wf2;cases o with
  |none=>rw[bo]at w;exact jK (js:=js) w wf (by cases h:(σ[j]?).join<;>(rw[h]at wf2;exact wf2))
  |some x=>
   cases h:(σ[j]?).join with
   |none=>rw[h]at wf2;simp[Wf]at wf2
   |some v=>
    rw[h]at w wf2;have m:Wd b H ((v,x)::(L1++(flat (capV σ js) a++(flat σ ρ++L2)))):=w.perm (aaz )
    ·have g:=join_some h;have l:j<ρ.length:=by rw[<-wf.len];exact(aan.mp g).1
     have f:σ.set j (some v)=σ:=set_self g;have e:=cH (v:=v) (x:=x) l wf.len;rw[f]at e;have c:Wf σ (ρ.set j (some x)):=by have:=wf.put (i:=j) (v:=v) (x:=x);rw[f]at this;exact this
     refine jK (ρ:=ρ.set j (some x)) ?_ c wf2;have k:Wd b H (((v,x)::L1++flat (capV σ js) a)++(flat σ (ρ.set j none)++L2)):=Wd.mv (by simpa using m) wf j;refine k.perm ?_;rw[<-aac L1];refine List.Perm.trans ?_ ((e.symm.append_right _).append_left _);simp only[aaM];exact aaz.symm
theorem Wf.drop:∀{n:Nat}{σ:St}{ρ:DEnv},Wf σ ρ->Wf (σ.drop n) (ρ.drop n)
 |0,_,_,h=>h
 |_+1,[],[],_=>trivial
 |_+1,[],_::_,h=>by simp[Wf]at h
 |_+1,_::_,[],h=>by simp[Wf]at h
 |n+1,o::σ,none::ρ,h=>Wf.drop (n:=n) h
 |n+1,some _::σ,some _::ρ,h=>Wf.drop (ρ:=ρ) h
 |_+1,none::_,some _::_,h=>by simp[Wf]at h
theorem fQ:∀{n:Nat}{σ:St}{ρ:DEnv},Wf σ ρ->∃L,flat σ ρ=L++flat (σ.drop n) (ρ.drop n)
 |0,σ,ρ,_=>⟨[],rfl⟩
 |_+1,[],[],_=>⟨[],rfl⟩
 |_+1,[],_::_,h=>by simp[Wf]at h
 |_+1,_::_,[],h=>by simp[Wf]at h
 |n+1,o::σ,none::ρ,h=>by obtain⟨L,e⟩:=fQ (ρ:=ρ) h;exact⟨L,by rw[bo];exact e⟩
 |n+1,some v::σ,some x::ρ,h=>by obtain⟨L,e⟩:=fQ (ρ:=ρ) h;exact⟨(v,x)::L,by simp only[flat,aaM,List.drop_succ_cons];rw[e]⟩
 |_+1,none::_,some _::_,h=>by simp[Wf]at h
theorem tZ:flat (List.replicate n none++σ) (List.replicate n none++ρ)=flat σ ρ:=by
 induction n with
 |zero=>rfl
 |succ n a=>rw[aaS,aaS,aaM,aaM,bo,a]
theorem B6(h:Wf σ ρ):Wf (List.replicate n none++σ) (List.replicate n none++ρ):=by
 induction n with
 |zero=>exact h
 |succ n a=>rw[aaS,aaS];exact a
theorem Rel.grow(R:Rel b F σ H ρ (v::(vs++[.ref D])) (.val (.fz d)::(rs++[.val (.lst (out.map OD.fz))])))(e:vs.length=rs.length):
  ∃ys,H D=some (.lst ys)/\ys.length=out.length/\Rel b F σ (upd H D (.lst (ys++[v]))) ρ (vs++[.ref D]) (rs++[.val (.lst ((out++[d]).map OD.fz))]):=by
 have f:=R.drop;have h:stk (vs++[.ref D]) (rs++[.val (.lst (out.map OD.fz))])=stk vs rs++[(.ref D,.lst (out.map OD.fz))]:=by rw[aH e];rfl
 have w:Wd b H ((v,.fz d)::((stk vs rs++[(.ref D,.lst (out.map OD.fz))])++(flat σ ρ++ff F))):=by have:=R.wd;simp only[stk]at this;rw[h]at this;exact this
 have k:Wd b H ([v].zip [OD.fz d]++((.ref D,.lst (out.map OD.fz))::(stk vs rs++(flat σ ρ++ff F)))):=w.perm (by
  refine List.Perm.cons _ ?_;rw[aac];exact aaz)
 obtain⟨a,ys,l,n,o,m⟩:=k.ri (ks:=[]) rfl rfl;cases l;refine⟨ys,n,by simpa using o,f.wf,?_,f.wff,?_⟩
 ·obtain⟨j,_⟩:=(a9 e).mp f.al;exact(a9 e).mpr ⟨j,trivial⟩
 ·have p:=m (ys++[v]) ((out++[d]).map OD.fz) λS H A C z s g r=>⟨A++C,by rw[aas];exact Ows.append s g,r,λc q=>aai.mp q⟩
  have t:stk (vs++[.ref D]) (rs++[.val (.lst ((out++[d]).map OD.fz))])=stk vs rs++[(.ref D,.lst ((out++[d]).map OD.fz))]:=by rw[aH e];rfl
  rw[t];refine p.perm ?_;rw[aac];exact aaz.symm
end
theorem B7{a:Type}(A B C T F:List a):(A++(B++(C++(T++F)))).Perm (B++(A++((T++C)++F))):=by refine(acg A B _).trans (aa8 _ (aa8 _ ?_));rw[<-aac];exact aaY.append_right _
abbrev DC:=DEnv->(List PyData->DEnv->Prop)->Prop
def rn(K:Waa)(i:TC)(h:DC):Prop:=∀(b:Bs) (F:List Fr) (d:St) (H:Hp) (f:DEnv) (vs:List V) (e:List OR) (D:Addr) (a:List PyData) (Qd:List PyData->DEnv->Prop) (Q:Hp->Prop),b.K=K->vs.length=e.length->a.length<1000000->Rel b F d H f (vs++[.ref D]) (e++[.val (.lst (a.map OD.fz))])->h f Qd ->
 (∀g c o,Rel b F d g c (vs++[.ref D]) (e++[.val (.lst ((a++o).map OD.fz))])->o.length<=1->Qd o c->Q g)->i D d H Q
inductive PDc (Y:Cx)(ifs:List Expr)(elt:Expr)(dc:DC):Prop|mk (tc:TC) (h:∀D,kO Y D ifs elt tc) (s:rn Y.K tc dc)
section
variable{X Y:Cx}{K:Waa}{a b c e elt iter tg:Expr}{es ifs:List Expr}{da db:DE}{dT:DT}{pos p:Pos}{x:Str}
def t9(a:DE):DC:=λh Q=>a h λr g=>∃d f,frz1 g r=some (d,f)/\Q [d] f
theorem k4(s:cb K ta da):rn K (oa ta) (t9 da):=λb F i H o A G D j C Q u n y R h q=>s b F i H o _ _ _ _ u R h λv z r l f ⟨d,g,e,t⟩=>by obtain⟨m,k,B,w⟩:=(f.frz1 e).grow n;exact⟨m,k,aaC (by omega) (by decide:1000001<=sizeLine),q _ _ _ w (aae _) t⟩
theorem rp:PDe Y elt da->PDc Y [] elt (t9 da)
 |⟨_,h,s⟩=>⟨_,λD=>qK h,k4 s⟩
def xX(t:DT)(a:DE):DC:=λf Q=>t f λk d=>if k=true then t9 a d Q else Q [] d
theorem uc:PDt Y c dT->PDe Y elt da->PDc Y [c] elt (xX dT da)
 |⟨_,d,s1⟩,⟨_,h2,s2⟩=>⟨_,λD=>sR d h2,λb F σ H ρ vs rs D out m Q i l j R h q=>s1 b F σ H ρ _ _ _ _ i R h λk g ρ1 f d=>by
  cases k with
  |true=>rw[if_pos rfl]at d ⊢;exact k4 s2 b F σ g ρ1 vs rs D out _ _ i l j f d q
  |false=>rw[if_neg aaf]at d ⊢;exact q g ρ1 [] (by rw[aam];exact f) (aaG _) d⟩
def ou(t:DI)(nt:Nat)(fr:List Nat)(g:DG)(q:DC):DE:=λi Q=>t i λn s=>n.length<1000000/\∃h l,cJ s fr=some (h,l)/\∃m:Nat->List PyData->DEnv->Prop,m 0 [] (List.replicate nt none++h) /\
 (∀k d f i,n[k]?=some d->m k f i->g (.fz d) i λr=>q r λo j=>m (k+1) (f++o) j)/\∀f i,m n.length f i->Q (.val (.lst (f.map OD.fz))) (eR l fr (i.drop nt))
theorem B8{d:Type}(x:d)(S L P T C F:List d):(x::(S++((L++P)++((T++C)++F)))).Perm (L++((x::(S++T))++(P++(C++F)))):=by
 have e:x::(S++((L++P)++((T++C)++F)))=x::(S++(L++(P++(T++(C++F))))):=by simp only[aac]
 rw[e];refine List.Perm.trans ?_ aaz.symm;refine List.Perm.cons _ ((acg S L _).trans (aa8 _ ?_));show (S++(P++(T++(C++F)))).Perm ((S++T)++(P++(C++F)));rw[aac];exact aa8 _ (acg P T _)
def E8{f:Type}(h:f->OD)(j:f->Nat)(K:Waa)(n:TC)(da:f->DEnv->(f->DEnv->Prop)->Prop):Prop:=∀(b:Bs) (F:List Fr) (i:St) (H:Hp) (l:DEnv) (vs:List V) (k:List OR) (D:Addr) (d:f) (Qd:f->DEnv->Prop) (Q:Hp->Prop),b.K=K->vs.length=k.length->j d<1000000->Rel b F i H l (vs++[.ref D]) (k++[.val (h d)])->da d l Qd ->
 (∀m g o,Rel b F i m g (vs++[.ref D]) (k++[.val (h o)])->j o<=j d+1->Qd o g->Q m)->n D i H Q
def tCG(o0:HO)(J:It)(nt:Nat)(fr:List Nat)(g:CC->TG)(n:CC->TC)(σ:St)(k:Hp)(Q:VK):Prop:=∀(c:CC) D,k D=none->∃W:Nat->Nat->St->Hp->Prop,(∃m,W 0 m (bJ nt fr σ) (upd k D o0)) /\
 ∀i m d f,W i m d f->(J.stop i f/\Q (.ref D) f)\/(J.go i f/\∀x j,J.yld i f x j->g c x d j λh o=>n c D h o λq=>∃l,l<m/\W (i+1) l h q)
theorem k5{v:Type}{l:v->OD}{U:v->Nat}{a0:v}{da:v->DEnv->(v->DEnv->Prop)->Prop}(a1:∀{b:Bs}{H:Hp}{L:List (V×OD)}{D:Addr},Wd b H L->H D=none->Wd b (upd H D o0) ((.ref D,l a0)::L))(l0:U a0=0)(s2:∀c,rg K Ff nt (g c) dg)(s3:∀c,E8 l U K (tc c) da){b:Bs}{Iv:Nat->v->DEnv->Prop}(hK:b.K=K)(t:vs.length=rs.length)(nr:NoRf Ff rs)
  (w:Rel b F σ H1 ρ1 (vs++τ) (rs++θ)) (it:kX b J vs rs ds) (a2:ds.length<1000000) (hc:cJ ρ1 fr=some (inner,ρ2)) (i0:Iv 0 a0 (List.replicate nt none++inner)) (step:∀k d out ρ,ds[k]?=some d->Iv k out ρ->dg (.fz d) ρ λh=>da out h λo B=>Iv (k+1) o B)
  (q:∀s D out h,Rel b F σ s (eR ρ2 fr (h.drop nt)) (.ref D::(vs++τ)) (.val (l out)::(rs++θ))->Iv ds.length out h->Q (.ref D) s):tCG o0 J nt fr g tc σ H1 Q:=by
 intro cc D hD;have w1:Wd b H1 (stk vs rs++(flat σ ρ1++(stk τ θ++ff F))):=w.wd.perm (by
  rw[aH t,aac];refine aa8 _ ?_;rw[<-aac,<-aac];exact aaY.append_right _)
 obtain⟨w2,y,O⟩:=oq w1 w.wf hc;have al:=(a9 t).mp w.al;have w3:=a1 w2 hD;have R2:Rel b (⟨σ,ρ2,τ,θ⟩::F) (bJ nt fr σ) (upd H1 D o0) (List.replicate nt none++inner) (vs++[.ref D]) (rs++[.val (l a0)]):=by
  refine⟨B6 O,(a9 t).mpr ⟨nr.al0 al.1,trivial⟩,λf T=>?_,?_⟩
  ·rcases aab.mp T with rfl|T
   ·exact⟨y,al.2⟩
   ·exact w.wff f T
  ·have ec:flat (bJ nt fr σ) (List.replicate nt none++inner)=flat (capV σ fr) inner:=tZ;rw[ec,aH t];refine w3.perm ?_;have ef:ff (⟨σ,ρ2,τ,θ⟩::F)=(stk τ θ++flat σ ρ2)++ff F:=rfl;rw[ef];have e0:stk [V.ref D] [OR.val (l a0)]=[(V.ref D,l a0)]:=rfl;rw[e0];refine List.Perm.trans (List.Perm.cons _ (B7 (flat (capV σ fr) inner) (stk vs rs) (flat σ ρ2) (stk τ θ) (ff F))) ?_;rw[aac (stk vs rs)];exact aaz.symm
 refine⟨λi m n s=>m=ds.length-i/\i<=ds.length/\(∀j,nt<=j->n[j]?=(bJ nt fr σ)[j]?)/\∃out h,U out<=i/\Rel b (⟨σ,ρ2,τ,θ⟩::F) n s h (vs++[.ref D]) (rs++[.val (l out)])/\Iv i out h,⟨_,rfl,aaG _,λ_ _=>rfl,a0,_,Nat.le_of_eq l0,R2,i0⟩,?_⟩;rintro i m n s ⟨rfl,hi,C,out,h,ho,G,iv⟩;obtain⟨go,z⟩:=it _ n s h [.ref D] [.val (l out)] G i;by_cases u:i<ds.length
 ·obtain⟨g1,g2⟩:=go u;refine .inr ⟨g1,λx H2 hy=>?_⟩;have A:ds[i]?=some ds[i]:=aak u;have nn:NoRf Ff (rs++[.val (l out)]):=NoRf.app nr λr hr=>.inl ⟨_,aaw.mp hr⟩;refine s2 cc b _ n H2 h _ _ x _ _ _ hK nn (g2 x H2 _ hy A) (step i _ out h A iv) λZ H3 N R3 k3 h3=>?_;exact s3 cc b _ Z H3 N vs rs D out _ _ hK t (by omega) R3 h3 λH4 I o R4 lo h4=>⟨_,by omega,rfl,u,λj hj=>(k3 j hj).1.trans (C j hj),o,I,by omega,R4,h4⟩
 ·have e:i=ds.length:=by omega
  subst e;refine .inl ⟨z rfl,q s D out h ?_ iv⟩;have A:n.drop nt=capV σ fr:=by apply ach;intro j;rw[List.getElem?_drop,C _ (by omega)];unfold bJ capV;rw[aaO (by simp),abQ,ab9]
  have w4:Wd b s ((.ref D,l out)::(stk vs rs++(flat n h++((stk τ θ++flat σ ρ2)++ff F)))):=G.wd.perm (by
   rw[aH t];have e0:stk [V.ref D] [OR.val (l out)]=[(V.ref D,l out)]:=rfl;rw[e0,aac];exact aaz)
  obtain⟨L0,eL⟩:=fQ G.wf;rw[eL,A]at w4;have w5:Wd b s (((.ref D,l out)::stk (vs++τ) (rs++θ))++(flat (capV σ fr) (h.drop nt)++(flat σ ρ2++ff F))):=by refine Wd.drops (L1:=L0) (w4.perm ?_);rw[aH t];exact B8 (.ref D,l out) (stk vs rs) L0 (flat (capV σ fr) (h.drop nt)) (stk τ θ) (flat σ ρ2) (ff F)
  have M:Wf (capV σ fr) (h.drop nt):=A▸G.wf.drop;obtain⟨w6,S⟩:=jK w5 y M;exact⟨S,w.al,w.wff,w6⟩
theorem rq{l:DC}(A:∀c,rg K Ff nt (g c) dg)(C:∀c,rn K (tc c) l){b:Bs}{F:List Fr}{Iv:Nat->List PyData->DEnv->Prop}(r:b.K=K)(m:vs.length=rs.length)(v:NoRf Ff rs)
  (u:Rel b F σ H1 ρ1 (vs++τ) (rs++θ)) (it:kX b J vs rs ds) (n:ds.length<1000000) (B:cJ ρ1 fr=some (inner,ρ2)) (G:Iv 0 [] (List.replicate nt none++inner)) (step:∀k d out ρ,ds[k]?=some d->Iv k out ρ->dg (.fz d) ρ λf=>l f λo i=>Iv (k+1) (out++o) i)
  (q:∀j D out f,Rel b F σ j (eR ρ2 fr (f.drop nt)) (.ref D::(vs++τ)) (.val (.lst (out.map OD.fz))::(rs++θ))->Iv ds.length out f->Q (.ref D) j):kN (λ_ _ k=>k J H1) nt fr g tc σ H1 Q:=
 k5 (da:=λout ρ Q=>l ρ λo f=>Q (out++o) f) (λw h=>Wd.ea w rfl h) rfl A (λc b F σ H ρ vs rs D out z Q r m s R h q=>C c b F σ H ρ vs rs D out (λo f=>z (out++o) f) Q r m s R h λj f o y I t=>q j f (out++o) y (by rw[aad];omega) t) r m v u it n B G step q
theorem k6(o:E3 K wi di)(G:∀c,rg K Ff nt (g c) dg)(N:∀c,rn K (tc c) dc):cb K (kN wi nt fr g tc) (ou di nt fr dg dc):=by intro b F z H L B w Qd Q n R h q;refine o b F z H L B w _ _ n R h λJ T Z C U S k O s r A=>?_;obtain⟨l,f,t,I,Iv,M,d,m⟩:=A;exact rq G N n k O s r l I M d λv D j i y u=>q _ v _ _ (Rel.drops (Rel.xn y k) k) (m j i u)
end
end
section
section
variable{X:Cx}{K:Waa}{a b c e elt iter tg:Expr}{es ifs:List Expr}{da db dc':DE}{dt:DA}{dT:DT}{pos p:Pos}{x:Str}{N:List Str}{nt:Nat}{fr:List Nat}{scope:Scope}{di:DI}{dg:DG}{dc:DC}
theorem PDg.ex{Y:CC->Cx}(i:∀c,(Y c).K=K)(h:∀c,PDg (Y c) Ff m tg dg):∃g:CC->TG,∀c,PG (Y c) tg (g c)/\rg K Ff m (g c) dg:=
 aci (r:=λc g=>PG (Y c) tg g/\rg K Ff m g dg) λc=>(by obtain⟨j,f,d⟩:=h c;exact⟨j,f,i c▸d⟩)
theorem PDc.ex{Y:CC->Cx}(i:∀c,(Y c).K=K)(h:∀c,PDc (Y c) ifs elt dc):∃g:CC->TC,∀c,(∀D,kO (Y c) D ifs elt (g c))/\rn K (g c) dc:=
 aci (r:=λc g=>(∀D,kO (Y c) D ifs elt g)/\rn K g dc) λc=>(by obtain⟨j,f,d⟩:=h c;exact⟨j,f,i c▸d⟩)
theorem xY(j:X.calm=true)(S:CompScope N nt fr X.N scope X.env.scope)(i:∀x,foldedSetIterable iter X.env x=pure x:=by intro _;rfl)(n:PDi X tg iter di)(m:∀c:CC,PDg (dQ X N scope c) Ff nt tg dg)(l:∀c:CC,PDc (dQ X N scope c) ifs elt dc):
  PDe X (.ListComp elt [⟨tg,iter,ifs,0⟩] scope pos) (ou di nt fr dg dc):=by
 obtain⟨o,k,h⟩:=n;obtain⟨g,d⟩:=PDg.ex (K:=X.K) (Y:=λc=>dQ X N scope c) (λ_=>rfl) m;obtain⟨q,f⟩:=PDc.ex (Y:=λc=>dQ X N scope c) (λ_=>rfl) l;exact⟨_,xi j S k (λc=>(d c).1) (λc D=>(f c).1 D) i,k6 h (λc=>(d c).2) λc=>(f c).2⟩
end
def bF:List Bool->DEnv->List OR->Option (List OD×DEnv)
 |[],ρ,[]=>some ([],ρ)
 |true::ios,ρ,r::rs=>match mv1 ρ r with
  |some (x,ρ1)=>match bF ios ρ1 rs with|some (xs,ρ2)=>some (x::xs,ρ2)|none=>none
  |none=>none
 |false::ios,ρ,r::rs=>match frz1 ρ r with
  |some (d,ρ1)=>match bF ios ρ1 rs with|some (xs,ρ2)=>some (.fz d::xs,ρ2)|none=>none
  |none=>none
 |_,_,_=>none
def g6:List Bool->List OR->List OD->DEnv->DEnv
 |true::ios,.rf j::rs,y::ys,ρ=>g6 ios rs ys (ρ.set j (some y))
 |_::ios,_::rs,_::ys,ρ=>g6 ios rs ys ρ
 |_,_,_,ρ=>ρ
section
variable{b:Bs}{F:List Fr}{σ:St}{H H':Hp}{ρ ρ':DEnv}{τ vs:List V}{θ rs:List OR}{v u:V}{r:OR}{x y:OD}{d:PyData}{i j:Nat}
theorem argsR_ok:∀{ios:List Bool}{vs:List V}{rs:List OR}{ρ ρ':DEnv}{xs:List OD}{τ:List V}{θ:List OR},Rel b F σ H ρ (vs++τ) (rs++θ)->vs.length=rs.length->bF ios ρ rs=some (xs,ρ')->Rel b F σ H ρ' (vs++τ) (xs.map OR.val++θ)/\vs.length=xs.length
 |[],[],[],_,_,_,_,_,R,_,e=>by simp only[bF]at e;cases e;exact⟨R,rfl⟩
 |true::ios,v::vs,r::rs,ρ,ρ',ds,τ,θ,R,e,h=>by
  simp only[bF]at h;split at h
  ·rename_i x ρ1 g;split at h
   ·rename_i xs ρ2 f;cases h;have k:Rel b F σ H ρ1 (v::(vs++τ)) (.val x::(rs++θ)):=Rel.mv1 R g;have a:vs.length=rs.length:=by simpa using e
    obtain⟨l,c⟩:=argsR_ok (Rel.xn k a) a f;exact⟨Rel.xr l (by rw[c,aaa]),by simp[c]⟩
   ·cases h
  ·cases h
 |false::ios,v::vs,r::rs,ρ,ρ',ds,τ,θ,R,e,h=>by
  simp only[bF]at h;split at h
  ·rename_i x ρ1 g;split at h
   ·rename_i xs ρ2 f;cases h;have k:Rel b F σ H ρ1 (v::(vs++τ)) (.val (.fz x)::(rs++θ)):=Rel.frz1 R g;have a:vs.length=rs.length:=by simpa using e
    obtain⟨l,c⟩:=argsR_ok (Rel.xn k a) a f;exact⟨Rel.xr l (by rw[c,aaa]),by simp[c]⟩
   ·cases h
  ·cases h
 |_,[],_::_,_,_,_,_,_,_,e,_=>by simp at e
 |_,_::_,[],_,_,_,_,_,_,e,_=>by simp at e
 |[],_::_,_::_,_,_,_,_,_,_,_,h=>by simp[bF]at h
 |true::_,[],[],_,_,_,_,_,_,_,h=>by simp[bF]at h
 |false::_,[],[],_,_,_,_,_,_,_,h=>by simp[bF]at h
theorem Rel.give(R:Rel b F σ H ρ (v::τ) (.val y::θ))(ev:σ[j]?=some (some v)):Rel b F σ H (ρ.set j (some y)) τ θ:=
 Rel.back R.wf (Rel.drop R).al R.wff ev (Wd.mv R.wd R.wf j)
theorem cK:∀{ios:List Bool}{vs:List V}{rs:List OR}{ys:List OD}{ρ:DEnv},Al σ vs rs->vs.length=ys.length->Rel b F σ H ρ (vs++τ) (ys.map OR.val++θ)->Rel b F σ H (g6 ios rs ys ρ) τ θ
 |ios,[],[],[],ρ,_,_,R=>by cases ios with|nil=>exact R|cons i ios=>cases i<;>exact R
 |[],v::vs,r::rs,y::ys,ρ,al,e,R=>by
  have a:Al σ vs rs:=by cases r with|val _=>exact al|rf _=>exact al.2
  have:=cK (ios:=[]) a (by simpa using e) (Rel.drop R);cases vs<;>cases rs<;>cases ys<;>exact this
 |true::ios,v::vs,.rf j::rs,y::ys,ρ,al,e,R=>cK (ys:=ys) al.2 (by simpa using e) (Rel.give R al.1)
 |true::ios,v::vs,.val x::rs,y::ys,ρ,al,e,R=>cK (ys:=ys) al (by simpa using e) (Rel.drop R)
 |false::ios,v::vs,.rf j::rs,y::ys,ρ,al,e,R=>cK (ys:=ys) al.2 (by simpa using e) (Rel.drop R)
 |false::ios,v::vs,.val x::rs,y::ys,ρ,al,e,R=>cK (ys:=ys) al (by simpa using e) (Rel.drop R)
 |_,[],_::_,_,_,al,_,_=>by simp[Al]at al
 |_,_::_,[],_,_,al,_,_=>by simp[Al]at al
 |_,[],_,_::_,_,_,e,_=>by simp at e
 |_,_::_,_,[],_,_,e,_=>by simp at e
end
structure FnD (P:Program)(w:World)(K:Waa)(mg:Str->Option Value)(base:Heap)(k:Nat)(f:Addr)(fd:FuncData)(ps:List Str)(sp:DSp):Prop where
 ok:FnOk P w K mg base CX0 k f fd ps (toSp K sp)
 mono:xx sp
section
variable{X:Cx}{K:Waa}{a b c e:Expr}{es:List Expr}{da db dc:DE}{dt:DA}{pos p:Pos}{x:Str}{k:Nat}{f:Addr}{fd:FuncData}{ps:List Str}{sp:DSp}
def zN(sp:DSp)(ios:List Bool)(t:DA):DE:=λl Q=>t l λi g=>∃h d,bF ios g i=some (h,d)/\sp h λx j=>Q (.val x) (g6 ios i j d)
theorem ud(G:FnD X.prog X.w X.K X.mg X.base k f fd ps sp)(A:BG X.K ta dt):cb X.K (zI (toSp X.K sp) [] E0 ta) (zN sp ios dt):=λb F s H L l j T Q z R h q=>A b F s H L l j _ _ z R h λr S U J y o ⟨O,g,B,M⟩=>by
  obtain⟨t,m⟩:=argsR_ok o y B;have D:=((a9 y).mp o.al).1;have w:=t.vals m;rw[aam,<-z];refine w.call m G.mono (G.mono _ _ _ (λx u I d v i C=>q v i _ _ ?_ I) M);have N:Rel b F s i g (v::(r++l)) (.val x::(u.map OR.val++j)):=by have n:=t.drops (by simpa using m);refine⟨n.wf,(a9 (by simpa using d)).mpr ⟨jJ d,n.al⟩,n.wff,?_⟩;show Wd b i ((v,x)::(stk (r++l) (u.map OR.val++j)++_));rw[aH (by simpa using d),dr d,aac];exact C
  exact cK D d (Rel.xn N (by simpa using d))
theorem xZ{ios:List Bool} (G:FnD X.prog X.w X.K X.mg X.base k f fd ps sp) (l:Room k X.A) (j:Gl X x) (h:X.mg x=some (.ref f)) (hk:PySem.W.keepIn X.K (.ref f)=true) (i:Binds X.K fd ps []) (d:(x==("__debug__":Str))=false:=by decide)
  (m:starEach (e::es) X.env=(false,eval e X.env)::starEach es X.env:=by rfl) (g:(backTo pos (starEach es X.env)).any (·.1)=false:=by rfl):PDa X (e::es) dt->PDe X (.Call (.Name x p) (e::es) [] pos) (zN sp ios dt)
 |⟨_,h1,s1⟩=>⟨_,w9 (E:=E0) G.ok l j h hk i .nil Ew h1 d m g,ud G s1⟩
end
def JH:PyData->Bool
 |.int _=>true
 |.bool _=>true
 |.str _=>true
 |.none=>true
 |_=>false
section
variable{P:Program}{w:World}{K:Waa}{mg:Str->Option Value}{base:Heap}
theorem bS:∀{vs:List V}{n:Nat}{ρ:DEnv},flat (vs.map some++List.replicate n none) ρ=flat (vs.map some) ρ
 |[],0,_=>rfl
 |[],n+1,[]=>rfl
 |[],n+1,o::ρ=>by
  rw[aaA,aaB,aaS];have:flat (none::List.replicate n none) (o::ρ)=flat (List.replicate n none) ρ:=by cases o<;>rfl
  rw[this];have:=bS (vs:=[]) (n:=n) (ρ:=ρ);simpa[flat] using this
 |v::vs,n,[]=>by simp[flat]
 |v::vs,n,none::ρ=>by simp only[aao,aaM,bo];exact bS
 |v::vs,n,some x::ρ=>by simp only[aao,aaM,flat];rw[bS]
theorem g7:∀{vs:List V}{xs:List OD}{k:Nat},vs.length=xs.length->flat (vs.map some) (xs.map some++List.replicate k none)=vs.zip xs
 |[],[],0,_=>rfl
 |[],[],_+1,_=>rfl
 |v::vs,x::xs,k,e=>by simp only[aao,aaM,flat,abp];rw[g7 (by simpa using e)]
 |[],_::_,_,e=>by simp at e
 |_::_,[],_,e=>by simp at e
theorem g8:∀{vs:List V}{xs:List OD}{k:Nat},vs.length=xs.length->Wf (vs.map some++List.replicate k none) (xs.map some++List.replicate k none)
 |[],[],0,_=>trivial
 |[],[],k+1,_=>by have:=g8 (vs:=[]) (xs:=[]) (k:=k) rfl;exact this
 |v::vs,x::xs,k,e=>g8 (xs:=xs) (by simpa using e)
 |[],_::_,_,e=>by simp at e
 |_::_,[],_,e=>by simp at e
def bQ(N:Nat)(xs:List OD):DEnv:=xs.map some++List.replicate (N-xs.length) none
def bb:Nat->List Bool->List OD->DEnv->Option (List OD)
 |_,[],[],_=>some []
 |i,true::ios,_::xs,ρ=>match ρ[i]?.join with
  |some y=>match bb (i+1) ios xs ρ with|some ys=>some (y::ys)|none=>none
  |none=>none
 |i,false::ios,.fz d::xs,ρ=>match bb (i+1) ios xs ρ with|some ys=>some (.fz d::ys)|none=>none
 |_,_,_,_=>none
def WS(ios:List Bool):Nat->Prop:=λj=>ios[j]?=some true
def eS:Nat->List Bool->List V->List V
 |i,true::ios,v::vs=>v::eS (i+1) ios vs
 |i,false::ios,_::vs=>eS (i+1) ios vs
 |_,_,_=>[]
def cT:Nat->List Bool->List OR
 |i,true::ios=>.rf i::cT (i+1) ios
 |i,false::ios=>cT (i+1) ios
 |_,[]=>[]
theorem jL:∀{ios:List Bool}{vs:List V}{i:Nat},ios.length=vs.length->(∀k v,vs[k]?=some v->σ[i+k]?=some (some v))->Al σ (eS i ios vs) (cT i ios)
 |[],[],_,_,_=>trivial
 |true::ios,v::vs,i,e,h=>⟨h 0 v rfl,jL (ios:=ios) (by simpa using e) λk u a=>by have:=h (k+1) u (by simpa using a);rwa [show i+1+k=i+(k+1) by omega]⟩
 |false::ios,v::vs,i,e,h=>jL (i:=i+1) (by simpa using e) λk u a=>by have:=h (k+1) u (by simpa using a);rwa [show i+1+k=i+(k+1) by omega]
 |[],_::_,_,e,_=>by simp at e
 |true::_,[],_,e,_=>by simp at e
 |false::_,[],_,e,_=>by simp at e
theorem jM:∀{ios:List Bool}{i:Nat}{W:Nat->Prop},(∀k,ios[k]?=some true->W (i+k))->NoRf W (cT i ios)
 |[],_,_,_=>λr a=>by simp[cT]at a
 |true::ios,i,W,h=>λr a=>by
  simp only[cT]at a;rcases aab.mp a with rfl|a
  ·exact .inr ⟨i,h 0 rfl,rfl⟩
  ·exact jM (ios:=ios) (λk b=>by have:=h (k+1) (by simpa using b);rwa [show i+1+k=i+(k+1) by omega]) r a
 |false::ios,i,W,h=>λr a=>jM (i:=i+1) (λk b=>by have:=h (k+1) (by simpa using b);rwa [show i+1+k=i+(k+1) by omega]) r a
theorem eT:∀{ios:List Bool}{vs:List V}{i:Nat},stk (eS i ios vs) (cT i ios)=[]
 |[],[],_=>rfl
 |[],_::_,_=>rfl
 |true::ios,[],i=>by simp[eS,cT,stk]
 |false::ios,[],i=>by have:eS i (false::ios) ([]:List V)=[]:=rfl;rw[this];cases h:cT i (false::ios)<;>rfl
 |true::ios,v::vs,i=>eT (i:=i+1)
 |false::ios,v::vs,i=>eT (i:=i+1)
end
end
section
section
variable{P:Program}{w:World}{K:Waa}{mg:Str->Option Value}{base:Heap}{b:Bs}{σ:St}{H:Hp}
theorem Wd.addF(w:Wd b H L)(f:Fz b.K (λa=>b.C a\/b.S0 a) b.H0 v d):Wd b H ((v,.fz d)::L):=by
 obtain⟨A,g,h,e⟩:=w.out;refine⟨⟨A,Ows.cons (.fz (f.step (w.fr.weak λc z=>.inl (.inl z)) λc z=>?_)) g,h,e⟩,w.fr,w.s0,w.nt⟩;rcases z with z|z
 ·exact(e c z).elim .inr λz=>.inl (.inl z)
 ·exact .inl (.inr z)
theorem fR:∀{ios:List Bool}{xs:List OD}{i j:Nat}{ρ:DEnv},j<i->bb i ios xs (ρ.set j none)=bb i ios xs ρ
 |[],[],_,_,_,_=>rfl
 |true::ios,_::xs,i,j,ρ,h=>by simp only[bb];rw[aa4 (by omega),fR (by omega)]
 |false::ios,.fz d::xs,i,j,ρ,h=>by simp only[bb];rw[fR (by omega)]
 |[],_::_,_,_,_,_=>rfl
 |true::_,[],_,_,_,_=>rfl
 |false::_,[],_,_,_,_=>rfl
 |false::_,.lst _::_,_,_,_,_=>rfl
 |false::_,.tup _::_,_,_,_,_=>rfl
 |false::_,.dic _ _::_,_,_,_,_=>rfl
 |false::_,.obj _ _ _::_,_,_,_,_=>rfl
 |false::_,.pin _ _ _::_,_,_,_,_=>rfl
 |false::_,.hole _::_,_,_,_,_=>rfl
theorem jN:∀{ios:List Bool}{vs:List V}{xs ys:List OD}{i:Nat}{ρ:DEnv}{L1:List (V×OD)},vs.length=xs.length->(∀(k:Nat) v d,vs[k]?=some v->xs[k]?=some (.fz d)->Fz b.K (λa=>b.C a\/b.S0 a) b.H0 v d)->bb i ios xs ρ=some ys ->
  Al σ (eS i ios vs) (cT i ios)->Wf σ ρ->Wd b H (L1++flat σ ρ)->vs.length=ys.length/\∃R,Wd b H (L1++(vs.zip ys++R))
 |[],[],[],ys,i,ρ,L1,_,_,e,_,_,w=>by simp only[bb]at e;cases e;exact⟨rfl,_,w⟩
 |true::ios,v::vs,x::xs,ys,i,ρ,L1,el,hf,e,al,wf,w=>by
  simp only[bb]at e;split at e
  ·rename_i y o;split at e
   ·rename_i h l;cases e;have n:σ[i]?=some (some v):=al.1;have g:Wd b H ((L1++[(v,y)])++flat σ (ρ.set i none)):=w.perm (by
     rw[aac];exact(bE (join_some o) n).append_left _)
    obtain⟨m,R,c⟩:=jN (by simpa using el) (λk u d j f=>hf (k+1) u d (by simpa using j) (by simpa using f)) (by rw[fR (by omega)];exact l) al.2 wf.off g;exact⟨by simp[m],R,by rw[aac]at c;exact c⟩
   ·cases e
  ·cases e
 |false::ios,v::vs,.fz d::xs,ys,i,ρ,L1,el,hf,e,al,wf,w=>by
  simp only[bb]at e;split at e
  ·rename_i h l;cases e;have g:Wd b H ((L1++[(v,.fz d)])++flat σ ρ):=(w.addF (hf 0 v d rfl rfl)).perm (by
    rw[aac];exact aaz.symm)
   obtain⟨m,R,c⟩:=jN (by simpa using el) (λk u d j f=>hf (k+1) u d (by simpa using j) (by simpa using f)) l al wf g;exact⟨by simp[m],R,by rw[aac]at c;exact c⟩
  ·cases e
 |[],_::_,_::_,_,_,_,_,_,_,e,_,_,_=>by simp[bb]at e
 |true::_,[],[],_,_,_,_,_,_,e,_,_,_=>by simp[bb]at e
 |false::_,[],[],_,_,_,_,_,_,e,_,_,_=>by simp[bb]at e
 |false::_,_::_,.lst _::_,_,_,_,_,_,_,e,_,_,_=>by simp[bb]at e
 |false::_,_::_,.tup _::_,_,_,_,_,_,_,e,_,_,_=>by simp[bb]at e
 |false::_,_::_,.dic _ _::_,_,_,_,_,_,_,e,_,_,_=>by simp[bb]at e
 |false::_,_::_,.obj _ _ _::_,_,_,_,_,_,_,e,_,_,_=>by simp[bb]at e
 |false::_,_::_,.pin _ _ _::_,_,_,_,_,_,_,e,_,_,_=>by simp[bb]at e
 |false::_,_::_,.hole _::_,_,_,_,_,_,_,e,_,_,_=>by simp[bb]at e
 |_,[],_::_,_,_,_,_,e,_,_,_,_,_=>by simp at e
 |_,_::_,[],_,_,_,_,e,_,_,_,_,_=>by simp at e
theorem Ows.fzAt:∀{vs:List V}{xs:List OD}{A:List Addr}{k:Nat}{v:V}{d:PyData},Ows b S H vs xs A->vs[k]?=some v->xs[k]?=some (.fz d)->Fz b.K S H v d
 |_,_,_,0,_,_,.cons r _,e,e'=>by simp at e e';subst e e';cases r with|fz f=>exact f
 |_,_,_,k+1,_,_,.cons _ t,e,e'=>Ows.fzAt (k:=k) t (by simpa using e) (by simpa using e')
 |_,_,_,_,_,_,.nil,e,_=>by simp at e
theorem Fun.okD{C:Stmt}(F:Fun K x qual C f fd)(S:FnScope N ps (aN C))(q:xx sp)(a0:ios.length=ps.length)(u:∀xs Q,sp xs Q->xs.length=ps.length)
  (o:∀(n:Value) (A:Around) (g:List Env) (s:Shared) (H:Hp) (E:XK),Room k (A.deeper (envOfC qual (aN C) s.heap.objs.size f n))->∀(xs:List OD) (Q:OD->List OD->Prop),sp xs Q ->
   ∃X,PDss (jy CX0 P w K mg base N qual (aN C) f n A g s H E).nox (WS ios) (bZ C) X/\X { nx:=λρ=>∃m,bb 0 ios xs ρ=some m/\Q (.fz .none) m,rt:=λx ρ=>∃m,bb 0 ios xs ρ=some m/\Q x m } (bQ N.length xs)):FnD P w K mg base (k+1) f fd ps sp:=by
 refine⟨F.ok S (λl H Q E h=>?_) (λn A g s H l Q E hr h=>?_),q⟩
 ·obtain⟨S,xs,A,_,_,G,_,h⟩:=h;rw[G.len];exact u _ _ h
 ·obtain⟨S',xs,A',al,nt,G,nA,h⟩:=h;obtain⟨X,⟨ts,h1,s1⟩,hd⟩:=o n A g s H E hr xs _ h;refine⟨ts,h1,?_⟩
  let b:Bs:=⟨K,H,S',λa=>a∈A'⟩
  have L:=G.len;have a1:=u _ _ h;have w0:Wd b H (l.zip xs):=⟨⟨A',OwL.h8 G,nA,λa ha=>.inr ha⟩,Kp.refl _ _,λa z=>⟨(al a z).1,(al a z).2⟩,nt⟩
  have sg:∀(k:Nat) v,l[k]?=some v->(start N l)[0+k]?=some (some v):=λk v e=>by have M:=(aan.mp e).1;unfold start;rw[aaZ,aaX (by simpa using M),aau,e];rfl
  have R:Rel b [] (start N l) H (bQ N.length xs) (eS 0 ios l) (cT 0 ios):=by unfold start bQ;refine⟨by rw[L];exact g8 L,jL (by omega) sg,λf hf=>(by cases hf),?_⟩;rw[eT];show Wd b H ([]++(flat _ _++[]));rw[aaB,aam,bS,g7 L];exact w0
  have I:∀(j:St) (p:Hp) (i:DEnv) (v:V) (x:OD),Rel b [] j p i (v::eS 0 ios l) (.val x::cT 0 ios)->(∃m,bb 0 ios xs i=some m/\JF K S' A' l H Q x m)->Q v p:=λj p i v x y ⟨m,ey,ha⟩=>by
   have w':Wd b p ([(v,x)]++flat j i):=by have:=y.wd;simp only[stk]at this;rw[eT]at this;simpa[ff] using this
   obtain⟨O,Z,J⟩:=jN L (λk v d h1 h2=>(Ows.fzAt G h1 h2).sub λa z=>z) ey y.al y.wf w';have e1:[(v,x)]++(l.zip m++Z)=(v::l).zip (x::m)++Z:=rfl;rw[e1]at J;obtain⟨B0,h0,nd,U⟩:=J.out;have T:=J.qd h0;obtain⟨B,B2,rfl,r,t⟩:=OwL.et h0;refine ha v p B J.fr (Ows.sub T (λc z=>z.imp (aah _) id) (OwL.ub (by simp[O]) r)) (aaD.mp nd).1 λa Y=>U a (aah _ Y)
  refine s1 b [] (start N l) H _ _ _ _ _ rfl (jM λk M=>?_) R hd ⟨λj p i y D=>?_,λ_ _ _ _ D=>D.elim,λ_ _ _ _ D=>D.elim,I⟩
  ·rw[aaZ];exact M
  ·exact I j p i .non _ (y.sc .non) D
end
end
section
open AutoSeq1 (wpAny_loadPart')
open MeetsSeq
theorem fS{M:Model}{A:Around}{E:Value->Shared->Prop}{s:Shared}{d:Type}(n:Nat)(f:Nat->d->Sem (ForInStep d))(I:Nat->d->Shared->Prop)(Q:d->Shared->Prop)
  (a:∀i b s,i<n->I i b s->wpAny M A (f i b) (λr k=>match r with|.yield g=>I (i+1) g k|.done g=>Q g k) E s)
  (fin:∀b s,I n b s->Q b s) (b:d) (h:I 0 b s):wpAny M A (forIn [0:n] b f) Q E s:=by
 rw[Std.Legacy.Range.forIn_eq_forIn_range'];refine wpAny_forIn_list f (λl b s=>∃i,l=List.range' i (n-i)/\i<=n/\I i b s) Q ?_ ?_ _ b ⟨0,by simp[Std.Legacy.Range.size],aaG _,h⟩
 ·rintro x o b s ⟨i,e,p,j⟩;have c:i<n:=by
   by_cases q:i<n
   ·exact q
   ·rw[show n-i=0 by omega]at e;simp at e
  rw[show n-i=(n-(i+1))+1 by omega,List.range'_succ]at e;obtain⟨rfl,rfl⟩:=List.cons.inj e;refine thn (a x b s c j) λr k m=>?_;cases r with
  |yield g=>exact⟨x+1,rfl,c,m⟩
  |done g=>exact m
 ·rintro b s ⟨i,e,p,j⟩;have:n-i=0:=by have:=congrArg List.length e;simpa using this.symm
  have:i=n:=by omega
  subst this;exact fin b s j
theorem k7(l:Addr)(items:Array Value)(n:Nat)(dd:Option Addr)(B:Array (Option Value))(x:Value)(e:Value->Bool)(t:∀y,y∈items->EqGives y x (e y))(j:Nat)(G:j<items.size)
  (o:e items[j]=true) (f:∀m (D:m<items.size),m<j->e items[m]=false):
  Meets (Builtin.«tuple.index» ⟨[.ref l,x],[]⟩)
   (λ_ R s=>s.heap.get? l=some { cls:=.type "tuple",dict:=dd,data:=.seq items n,slots:=B }/\R (.ok (.ret (.int j s.toks))) { s with toks:=s.toks+1 }):=
 .of_wp λc w A R s h=>by
  obtain⟨r,g,d,C,v⟩:=s;obtain⟨z,h⟩:=h
  wp_walk using wpAny_loadPart' z,fS _ _ (λi b p=>b.1=none/\p=⟨r,g,d,C,v⟩/\i<=j) _
  ·rintro i b p H ⟨q,rfl,k⟩;have a:i<items.size:=by omega
   rw[show items[i]?=some items[i] from Array.getElem?_eq_getElem a];refine wpAny_bind (t _ (Array.getElem_mem a) c w _ _ _ _ ?_);by_cases u:i=j
   ·subst u;rw[o]
    wp_walk
    exact⟨_,rfl,h⟩
   ·rw[f i a (by omega)]
    wp_walk
    exact⟨rfl,rfl,by omega⟩
  ·rintro b p ⟨q,rfl,k⟩;omega
  ·exact⟨rfl,rfl,aaG _⟩
end
section
section
variable{X:Cx}{K:Waa}{o e:Expr}{da db:DE}{pos pos' apos cpos:Pos}
def zO(n:Int):Value->Bool
 |.int a _=>a==n
 |_=>false
theorem rz:JA X "tuple.index" (λx vs H Q=>∃(l:Addr) (ns:List Int) (n:Int) (j:Nat),x=.ref l/\vs=[.int n]/\SqT X.K H l (ns.map V.int)/\ns[j]?=some n/\(∀m,m<j->ns[m]?≠some n)/\Q (.int j) H):=by
 intro N s σ H x vs v us Q I rx rv h;obtain⟨l,ns,n,j,rfl,rfl,Y,L,C,q⟩:=h;cases rx;obtain⟨u,rfl,J⟩:=rv.one;obtain⟨t,rfl⟩:=J;obtain⟨c,r,p1,_⟩:=I.tuple Y;have M:c.length=ns.length:=by rw[<-r.length,aaa]
 have d:∀m (f:m<c.length),∃a t',c[m]=.int a t'/\ns[m]?=some a:=λm f=>by
  have A:m<ns.length:=by omega
  obtain⟨u,hu,J⟩:=r.get (i:=m) (x:=.int ns[m]) (by rw[aau,aak A];rfl);obtain⟨t',rfl⟩:=J;refine⟨ns[m],t',?_,aak A⟩;have:=(aan.mp hu).2;exact this
 have k:j<c.length:=by have:=(aan.mp L).1;omega
 have G:zO n c.toArray[j]=true:=by obtain⟨a,t',p,B⟩:=d j k;rw[L]at B;cases B;show zO n c[j]=true;rw[p];simp[zO]
 have w:∀m (f:m<c.toArray.size),m<j->zO n c.toArray[m]=false:=λm f D=>by obtain⟨a,t',p,B⟩:=d m f;show zO n c[m]=false;rw[p];have:a≠n:=λz=>C m D (z▸B);simp[zO,this]
 have S:∀y,y∈c.toArray->MeetsSeq.EqGives y (.int n t) (zO n y):=λy U=>by obtain⟨m,f,rfl⟩:=acC (List.mem_toArray.mp U);obtain⟨a,t',p,B⟩:=d m f;rw[p];exact MeetsSeq.EqGives.int a n t' t
 obtain⟨⟨oc,Z,dt,sl⟩,g,ec,O,T⟩:=p1;cases ec;cases T;refine call_meets F.slot_tuple_index ⟨_,g,rfl⟩ F.entry_tuple_index (F.args_tuple_index_2 _ _) (k7 l c.toArray O Z sl (.int n t) (zO n) S j k G w) ⟨g,?_⟩;exact⟨.int j,H,I.kept (t':=s.toks+1) λb o e=>e,⟨_,rfl⟩,q⟩
end
end
section
inductive Bo where|add|sub|mul|fdiv|mod|pow
inductive Co where|lt|le|gt|ge|eq|ne|inn|nin|nid
inductive Bl where|len|abs|max|min|int|any
inductive Bn where|tuple|sorted
inductive Acc where|ix (k:Int)|key (j:Nat)
inductive Tg where|nm (i:Nat)|tp (ts:List Nat)
mutual
inductive E where
 |nm (i:Nat)|int (k:Int)|str (x:Str)|bl (b:Bool)|non|gc (g:Nat)
 |bop (o:Bo) (a b:E)|cat (a b:E)|rep (a b:E)
 |cmp (o:Co) (a b:E)|cmp2 (o o':Co) (a b c:E)|isn (neg:Bool) (a:E)
 |and (a b:E)|or (a b:E)|not (a:E)|neg (a:E)|ife (c a b:E)
 |tup (es:Es)|lst (es:Es)|ix (a b:E)|sll (a:E) (lo hi:Eo)
 |call (f:Nat) (es:Es)|blt (f:Bl) (es:Es)|bnw (f:Bn) (e:E)|sdd (i:Nat)|ln (i:Nat)|nen (i:Nat)|frz (a:E)|idx (a b:E)|dgt (i:Nat) (e:E)|dnew
 |pg (i:Nat) (ps:List Acc)|pl (i:Nat) (ps:List Acc)|pin (neg:Bool) (e:E) (i:Nat) (ps:List Acc)|din (neg:Bool) (e:E) (i:Nat) (ps:List Acc)
 |comp (nt:Nat) (fr:List Nat) (it:It') (tg:Tg) (ifs:Eo) (elt:E)
inductive Es where|nil|cons (e:E)(es:Es)
inductive Eo where|none|some (e:E)
inductive It' where|seq (e:E)|rg1 (e:E)|rg2 (a b:E)|enm (e:E)|zip (a b:E)
end
mutual
inductive S' where
 |ex (e:E)|set (i:Nat) (e:E)|asg (t:Tg) (e:E)|par (is:List Nat) (es:Es)|aug (i:Nat) (o:Bo) (e:E)|agl (i:Nat) (e:E)
 |ret (e:E)|iff (c:E) (a b:Ss)|whl (c:E) (b:Ss)|fr (t:Tg) (it:It') (b:Ss)|cont|brk
 |app (i:Nat) (e:E)|ins (i:Nat) (k e:E)|apd (i:Nat) (ps:List Acc) (e:E)|sti (i:Nat) (k e:E)|sdk (i:Nat) (k e:E)
 |sdc (i nt:Nat) (fr:List Nat) (it:It') (tg:Tg) (ke ve:E)
inductive Ss where|nil|cons (s:S')(ss:Ss)|alo (c:E)(i:Nat)(ps qs:List Acc)(j k:Nat)(ss:Ss)
end
structure Fn where
 io:List Bool
 n:Nat
 body:Ss
structure Ct where
 io:Nat->List Bool
 call:Nat->List OD->Option (OD×List OD)
 mak:Nat->List OD->Option (OD×List OD)
 gv:Nat->PyData
 wf:Nat
def wM:OD->Option PyData|.fz d=>some d|_=>none
def kA:OD->Option (List OD)|.lst xs=>some xs|_=>none
def zQ:OD->Option (List Key×List OD)|.dic ks xs=>some (ks,xs)|_=>none
def JI(x:OD):Option (List OD):=match x with|.lst xs=>some xs|.tup xs=>some xs|_=>none
def eB:PyData->Option Int|.int i=>some i|_=>none
def Hd:PyData->Option Bool|.bool k=>some k|_=>none
def He:PyData->Option (List PyData)|.list ds=>some ds|_=>none
def wN:PyData->Option (List PyData)|.list ds=>some ds|.tuple ds=>some ds|_=>none
def Hf:OR->Option (List OD)|.val x=>kA x|_=>none
def gd(c:Prop)[Decidable c]:Option Unit:=if c then some () else none
def dX{a:Type}:List a->Option a|[x]=>some x|_=>none
def B9{a:Type}:List a->Option (a×a×a)|[x,y,z]=>some (x,y,z)|_=>none
def JJ:PyData->Option (List PyData)|.tuple ds=>some ds|_=>none
def gw{a:Type}:List a->Option (a×a)|[x,y]=>some (x,y)|_=>none
def JK:Bo->Int->Int->Option Int
 |.add,i,j=>some (i+j)
 |.sub,i,j=>some (i-j)
 |.mul,i,j=>(gd ((-(2^64)<i/\i<2^64)\/(-(2^64)<j/\j<2^64))).bind λ_=>some (i*j)
 |.fdiv,i,j=>(gd (0<j/\j<1073741824)).bind λ_=>some (i/j)
 |.mod,i,j=>(gd (0<j)).bind λ_=>some (i%j)
 |.pow,i,j=>(gd (0<=j/\j<=1000000/\i.natAbs<2^64)).bind λ_=>some (i^j.toNat)
def wQ(o:Bo)(x y:PyData):Option PyData:=(eB x).bind λi=>(eB y).bind λj=>(JK o i j).bind λk=>some (.int k)
def eqA(x y:PyData):Option Bool:=match qV x y with
 |some k=>some k
 |none=>if SeqAt.shaped x&&SeqAt.shaped y then some (PyData.eqv x y) else none
def inA(x y:PyData):Option Bool:=(wN y).bind λa=>(gd (DV x=true)).bind λ_=>memD x a
def g9(o:Co)(x y:PyData):Option Bool:=match o with
 |.lt=>(eB x).bind λi=>(eB y).bind λj=>some (decide (i<j))
 |.le=>(eB x).bind λi=>(eB y).bind λj=>some (decide (i<=j))
 |.gt=>(eB x).bind λi=>(eB y).bind λj=>some (decide (j<i))
 |.ge=>(eB x).bind λi=>(eB y).bind λj=>some (decide (j<=i))
 |.eq=>eqA x y
 |.ne=>(eqA x y).bind λk=>some (!k)
 |.inn=>inA x y
 |.nin=>(inA x y).bind λk=>some (!k)
 |.nid=>(JJ y).bind λa=>(gd (SeqAt.shaped x=true/\SeqAt.shaped y=true)).bind λ_=>some (!a.any λz=>PyData.eqv z x)
def ue:PyData->Option Bool
 |.none=>some false|.bool b=>some b|.int i=>some (i !=0)
 |.list ds=>some (!ds.isEmpty)|.tuple ds=>some (!ds.isEmpty)
 |_=>none
def hU:List PyData->Option (List Int)
 |[]=>some []
 |d::ds=>(eB d).bind λi=>(hU ds).bind λr=>some (i::r)
def KJ(ns:List Int):Nat:=(firstMet (λi=>ns.getD i 0) ns.length).length
def zR(f:Bl)(ds:List PyData):Option PyData:=match f with
 |.len=>(dX ds).bind λd=>(jH d).bind λn=>some (.int n)
 |.abs=>(dX ds).bind λd=>(eB d).bind λi=>some (.int (if i<0 then -i else i))
 |.max=>(gw ds).bind λz=>(eB z.1).bind λi=>(eB z.2).bind λj=>some (.int (if j>i then j else i))
 |.min=>(gw ds).bind λz=>(eB z.1).bind λi=>(eB z.2).bind λj=>some (.int (if j<i then j else i))
 |.int=>(dX ds).bind λd=>(toInt d).bind λi=>some (.int i)
 |.any=>(dX ds).bind λd=>(He d).bind λb=>(allB b).bind λa=>some (.bool (a.any id))
def insI(i:Int):List Int->List Int
 |[]=>[i]
 |j::r=>if i<=j then i::j::r else j::insI i r
def sortI:List Int->List Int
 |[]=>[]
 |i::r=>insI i (sortI r)
def k8:List Key->Option (List Int)
 |[]=>some []
 |.inl i::ks=>(k8 ks).bind λr=>some (i::r)
 |.inr _::_=>none
def keyOf:PyData->Option Key
 |.int i=>some (.inl i)
 |.str x=>some (.inr x)
 |_=>none
def Iq:OR->Option (List PyData)|.val (.fz (.tuple ds))=>some ds|_=>none
def dgV(ks:List Key)(xs:List OD)(k:Key):Option PyData:=match ks.findIdx? (λq=>decide (q=k)) with
 |some j=>(xs[j]?).bind wM
 |none=>some .none
def accN(ρ:DEnv)(x:OD):Acc->Option Nat
 |.ix k=>(JI x).bind λxs=>ixN xs.length k
 |.key j=>(ρ[j]?.join).bind λy=>(wM y).bind λd=>(zQ x).bind λq=>(keyOf d).bind λk=>q.1.findIdx? (λq=>decide (q=k))
def aL(ρ:DEnv)(i:Nat):List Acc->Option (OD×List Nat×OD)
 |[]=>(ρ[i]?.join).bind λx=>some (x,[],x)
 |a::ps=>(aL ρ i ps).bind λp=>(accN ρ p.2.2 a).bind λk=>(p.2.2.kids[k]?).bind λz=>some (p.1,p.2.1++[k],z)
def unpA(x:OD):Option (List OD):=match unpT x with|some a=>some a|none=>unpL x
def Ir(ts:List Nat)(x:OD)(ρ:DEnv):Option DEnv:=(unpA x).bind λa=>(gd (a.length=ts.length/\∀i∈ts,i<ρ.length)).bind λ_=>some (dB ts a ρ)
def aW:Tg->OD->DEnv->Option DEnv
 |.nm i,x,ρ=>(gd (i<ρ.length)).bind λ_=>some (ρ.set i (some x))
 |.tp ts,x,ρ=>Ir ts x ρ
def bH(step:PyData->DEnv->Option (List PyData×DEnv)):List PyData->List PyData->DEnv->Option (List PyData×DEnv)
 |[],out,ρ=>some (out,ρ)
 |d::ds,out,ρ=>(step d ρ).bind λw=>bH step ds (out++w.1) w.2
def eh(step:List Key×List OD->PyData->DEnv->Option ((List Key×List OD)×DEnv)):List PyData->List Key×List OD->DEnv->Option ((List Key×List OD)×DEnv)
 |[],o,ρ=>some (o,ρ)
 |d::ds,o,ρ=>(step o d ρ).bind λw=>eh step ds w.1 w.2
inductive Fl where|nx|bk|ct|rt (x:OD)
def bh(step:PyData->DEnv->Option (Fl×DEnv)):List PyData->DEnv->Option (Fl×DEnv)
 |[],ρ=>some (.nx,ρ)
 |d::ds,ρ=>(step d ρ).bind λw=>match w.1 with
  |.nx=>bh step ds w.2
  |.ct=>bh step ds w.2
  |.bk=>some (.nx,w.2)
  |.rt x=>some (.rt x,w.2)
def eU(c:DEnv->Option (Bool×DEnv))(b:DEnv->Option (Fl×DEnv)):Nat->DEnv->Option (Fl×DEnv)
 |0,_=>none
 |n+1,ρ=>(c ρ).bind λx=>if x.1=true then (b x.2).bind λw=>match w.1 with
   |.nx=>eU c b n w.2
   |.ct=>eU c b n w.2
   |.bk=>some (.nx,w.2)
   |.rt x=>some (.rt x,w.2)
  else some (.nx,x.2)
def vt(f:DEnv->Option (OR×DEnv)):(DEnv->Option (OR×DEnv))×(DEnv->Option (Bool×DEnv)):=(f,λa=>(f a).bind λx=>(aq x.2 x.1).bind λd=>(ue d).bind λk=>some (k,x.2))
section
variable(C:Ct)
mutual
def cf:E->(DEnv->Option (OR×DEnv))×(DEnv->Option (Bool×DEnv))
 |.nm i=>vt λρ=>match ρ[i]?.join with
  |some (.fz d)=>some (.val (.fz d),ρ)
  |some _=>some (.rf i,ρ)
  |none=>none
 |.int k=>vt λρ=>some (.val (.fz (.int k)),ρ)
 |.str x=>vt λρ=>some (.val (.fz (.str x)),ρ)
 |.bl b=>vt λρ=>some (.val (.fz (.bool b)),ρ)
 |.non=>vt λρ=>some (.val (.fz .none),ρ)
 |.gc g=>vt λρ=>some (.val (.fz (C.gv g)),ρ)
 |.bop o a b=>vt λρ=>((cf a).1 ρ).bind λx=>((cf b).1 x.2).bind λy=>(aq y.2 x.1).bind λdx=>(aq y.2 y.1).bind λdy=>(wQ o dx dy).bind λd=>some (.val (.fz d),y.2)
 |.cat a b=>vt λρ=>((cf a).1 ρ).bind λx=>((cf b).1 x.2).bind λy=>(mS y.2 x.1).bind λdx=>(mS y.2 y.1).bind λdy=>(gd (dx.length+dy.length<=1000000)).bind λ_=>some (.val (.lst ((dx++dy).map OD.fz)),y.2)
 |.rep a b=>vt λρ=>((cf a).1 ρ).bind λx=>((cf b).1 x.2).bind λy=>(Hf x.1).bind λxs=>(aq y.2 y.1).bind λd=>(eB d).bind λk=>(qY xs).bind λds=>(gd (-(2^62)<=k/\k<2^62/\ds.length*k.toNat<=1000000)).bind λ_=>some (.val (.lst ((List.replicate k.toNat ds).flatten.map OD.fz)),y.2)
 |.cmp o a b=>vt λρ=>((cf a).1 ρ).bind λx=>((cf b).1 x.2).bind λy=>(aq y.2 x.1).bind λdx=>(aq y.2 y.1).bind λdy=>(g9 o dx dy).bind λk=>some (.val (.fz (.bool k)),y.2)
 |.cmp2 o o' a b c=>vt λρ=>((cf a).1 ρ).bind λx=>((cf b).1 x.2).bind λy=>(aq y.2 x.1).bind λdx=>(aq y.2 y.1).bind λdy=>(g9 o dx dy).bind λk=>if k=true then ((cf c).1 y.2).bind λz=>(aq z.2 y.1).bind λdy'=>(aq z.2 z.1).bind λdz=>(g9 o' dy' dz).bind λr=>some (.val (.fz (.bool r)),z.2) else some (.val (.fz (.bool false)),y.2)
 |.isn neg a=>vt λρ=>((cf a).1 ρ).bind λx=>(aq x.2 x.1).bind λd=>some (.val (.fz (.bool (if neg then !isNn d else isNn d))),x.2)
 |.and a b=>(λρ=>((cf a).1 ρ).bind λx=>(aq x.2 x.1).bind λd=>(Hd d).bind λk=>if k=true then (cf b).1 x.2 else some (.val (.fz (.bool false)),x.2),λρ=>((cf a).2 ρ).bind λx=>if x.1=true then (cf b).2 x.2 else some (false,x.2))
 |.or a b=>(λρ=>((cf a).1 ρ).bind λx=>(aq x.2 x.1).bind λd=>(Hd d).bind λk=>if k=true then some (.val (.fz (.bool true)),x.2) else (cf b).1 x.2,λρ=>((cf a).2 ρ).bind λx=>if x.1=true then some (true,x.2) else (cf b).2 x.2)
 |.not a=>(λρ=>((cf a).1 ρ).bind λx=>(aq x.2 x.1).bind λd=>(Hd d).bind λk=>some (.val (.fz (.bool (!k))),x.2),λρ=>((cf a).2 ρ).bind λx=>some (!x.1,x.2))
 |.neg a=>vt λρ=>((cf a).1 ρ).bind λx=>(aq x.2 x.1).bind λd=>(eB d).bind λi=>some (.val (.fz (.int (-i))),x.2)
 |.ife c a b=>vt λρ=>((cf c).2 ρ).bind λx=>if x.1=true then (cf a).1 x.2 else (cf b).1 x.2
 |.tup es=>vt λρ=>(evs es ρ).bind λx=>(mapR own1 x.2 x.1).bind λz=>(gd (x.1.length<=1000000)).bind λ_=>some (.val (mkTup z.1),z.2)
 |.lst es=>vt λρ=>(evs es ρ).bind λx=>(mapR own1 x.2 x.1).bind λz=>(gd (x.1.length<=1000000)).bind λ_=>some (.val (.lst z.1),z.2)
 |.ix a b=>vt λρ=>((cf a).1 ρ).bind λx=>((cf b).1 x.2).bind λy=>(aq y.2 y.1).bind λd=>(eB d).bind λi=>(bp y.2 x.1 i).bind λz=>some (.val z.1,z.2)
 |.sll a lo hi=>vt λρ=>((cf a).1 ρ).bind λx=>(Ca lo x.2).bind λl=>(Ca hi l.2).bind λu=>(mS u.2 x.1).bind λds=>some (.val (.lst ((cutD ds l.1 u.1).map OD.fz)),u.2)
 |.call f es=>vt λρ=>(evs es ρ).bind λx=>(bF (C.io f) x.2 x.1).bind λz=>(C.call f z.1).bind λw=>some (.val w.1,g6 (C.io f) x.1 w.2 z.2)
 |.blt f es=>vt λρ=>(evs es ρ).bind λx=>(gu x.2 x.1).bind λds=>(zR f ds).bind λd=>some (.val (.fz d),x.2)
 |.bnw f e=>vt λρ=>((cf e).1 ρ).bind λx=>match f with
  |.tuple=>((f9 x.2 x.1).bind listOf).bind λds=>some (.val (.fz (.tuple ds)),x.2)
  |.sorted=>(aq x.2 x.1).bind λd=>(He d).bind λds=>(hU ds).bind λns=>(gd (ns.length<64)).bind λ_=>some (.val (.lst ((sortI ns).map λi=>.fz (.int i))),x.2)
 |.idx a b=>vt λρ=>((cf a).1 ρ).bind λx=>(Iq x.1).bind λds=>((cf b).1 x.2).bind λy=>(aq y.2 y.1).bind λd=>(eB d).bind λn=>(hU ds).bind λns=>(ns.findIdx? λm=>decide (m=n)).bind λj=>some (.val (.fz (.int j)),y.2)
 |.dgt i e=>vt λρ=>(ρ[i]?.join).bind λs=>(zQ s).bind λ_=>((cf e).1 ρ).bind λy=>(aq y.2 y.1).bind λd=>(keyOf d).bind λk=>(y.2[i]?.join).bind λt=>(zQ t).bind λq=>(dgV q.1 q.2 k).bind λw=>some (.val (.fz w),y.2)
 |.sdd i=>vt λρ=>(ρ[i]?.join).bind λx=>(zQ x).bind λq=>(k8 q.1).bind λns=>(gd (ns.length<64)).bind λ_=>some (.val (.lst ((sortI ns).map λi=>.fz (.int i))),ρ)
 |.ln i=>vt λρ=>(ρ[i]?.join).bind λx=>(kA x).bind λxs=>some (.val (.fz (.int xs.length)),ρ)
 |.nen i=>vt λρ=>(ρ[i]?.join).bind λx=>(kA x).bind λxs=>some (.val (.fz (.bool (!xs.isEmpty))),ρ)
 |.frz a=>vt λρ=>((cf a).1 ρ).bind λx=>(frz1 x.2 x.1).bind λz=>some (.val (.fz z.1),z.2)
 |.dnew=>vt λρ=>some (.val (.dic [] []),ρ)
 |.pg i ps=>vt λρ=>(aL ρ i ps).bind λp=>(wM p.2.2).bind λd=>some (.val (.fz d),ρ)
 |.pl i ps=>vt λρ=>(aL ρ i ps).bind λp=>(p.2.2.dat).bind λd=>(jH d).bind λn=>some (.val (.fz (.int n)),ρ)
 |.pin neg e i ps=>vt λρ=>((cf e).1 ρ).bind λx=>(aq x.2 x.1).bind λdx=>(aL x.2 i ps).bind λp=>(p.2.2.dat).bind λd=>(g9 (if neg then .nin else .inn) dx d).bind λk=>some (.val (.fz (.bool k)),x.2)
 |.din neg e i ps=>vt λρ=>((cf e).1 ρ).bind λx=>(aq x.2 x.1).bind λdx=>(aL x.2 i ps).bind λp=>(keyOf dx).bind λk=>(zQ p.2.2).bind λq=>some (.val (.fz (.bool (if neg then !(q.1.any λq=>decide (q=k)) else q.1.any λq=>decide (q=k)))),x.2)
 |.comp nt fr it tg ifs elt=>vt λρ=>(ow it ρ).bind λx=>(gd (x.1.length<1000000)).bind λ_=>(cJ x.2 fr).bind λz=>
   (bH (λd h=>(aW tg (.fz d) h).bind λρ1=>(Iu ifs ρ1).bind λk=>if k.1=true then ((cf elt).1 k.2).bind λy=>(frz1 y.2 y.1).bind λq=>some ([q.1],q.2) else some ([],k.2)) x.1 [] (List.replicate nt none++z.1)).bind λw=>
    some (.val (.lst (w.1.map OD.fz)),eR z.2 fr (w.2.drop nt))
def evs:Es->DEnv->Option (List OR×DEnv)
 |.nil,ρ=>some ([],ρ)
 |.cons e es,ρ=>((cf e).1 ρ).bind λx=>(evs es x.2).bind λy=>some (x.1::y.1,y.2)
def Ca:Eo->DEnv->Option (Option Int×DEnv)
 |.none,ρ=>some (none,ρ)
 |.some e,ρ=>((cf e).1 ρ).bind λx=>(aq x.2 x.1).bind λd=>(eB d).bind λi=>some (some i,x.2)
def Iu:Eo->DEnv->Option (Bool×DEnv)
 |.none,ρ=>some (true,ρ)
 |.some e,ρ=>(cf e).2 ρ
def ow:It'->DEnv->Option (List PyData×DEnv)
 |.seq e,ρ=>((cf e).1 ρ).bind λx=>(frz1 x.2 x.1).bind λz=>(wN z.1).bind λds=>some (ds,z.2)
 |.rg1 e,ρ=>((cf e).1 ρ).bind λx=>(aq x.2 x.1).bind λd=>(eB d).bind λj=>(gd (-(2^62)<=j/\j<2^62)).bind λ_=>some (bP 0 j.toNat,x.2)
 |.rg2 a b,ρ=>((cf a).1 ρ).bind λx=>((cf b).1 x.2).bind λy=>(aq y.2 x.1).bind λd=>(eB d).bind λi=>(aq y.2 y.1).bind λd'=>(eB d').bind λj=>(gd (-(2^62)<=i/\i<2^62/\-(2^62)<=j/\j<2^62)).bind λ_=>some (bP i (j-i).toNat,y.2)
 |.enm e,ρ=>((cf e).1 ρ).bind λx=>(frz1 x.2 x.1).bind λz=>(He z.1).bind λds=>some (cS ds,z.2)
 |.zip a b,ρ=>((cf a).1 ρ).bind λx=>((cf b).1 x.2).bind λy=>(frz1 y.2 x.1).bind λz=>(frz1 z.2 y.1).bind λw=>(wN z.1).bind λds=>(wN w.1).bind λes=>some (iP ds es,w.2)
end
abbrev ev(e:E)(ρ:DEnv):=(cf C e).1 ρ
abbrev aM(e:E)(ρ:DEnv):=(cf C e).2 ρ
end
example (C:Ct) (ρ:DEnv):ev C (.bop .add (.int 1) (.int 2)) ρ=some (.val (.fz (.int 3)),ρ):=rfl
example (C:Ct) (ρ:DEnv):aM C (.and (.bl true) (.not (.cmp .lt (.int 1) (.int 2)))) ρ=some (false,ρ):=rfl
end
section
theorem bnd{c b:Type}{o:Option c}{f:c->Option b}{x:b}(h:o.bind f=some x):∃a,o=some a/\f a=some x:=aaT.mp h
theorem bn2{α β γ:Type}{o:Option α}{g1:α->Option β}{f:α->β->Option γ}{r:γ}(h:(o.bind λa=>(g1 a).bind (f a))=some r):∃a b,o=some a/\g1 a=some b/\f a b=some r:=by obtain⟨a,p0,h⟩:=bnd h;obtain⟨b,p1,h⟩:=bnd h;exact⟨a,b,p0,p1,h⟩
theorem bn3{α β γ δ:Type}{o:Option α}{g1:α->Option β}{g2:α->β->Option γ}{f:α->β->γ->Option δ}{r:δ}(h:(o.bind λa=>(g1 a).bind λb=>(g2 a b).bind (f a b))=some r):∃a b c,o=some a/\g1 a=some b/\g2 a b=some c/\f a b c=some r:=by obtain⟨a,p0,h⟩:=bnd h;obtain⟨b,p1,h⟩:=bnd h;obtain⟨c,p2,h⟩:=bnd h;exact⟨a,b,c,p0,p1,p2,h⟩
theorem bn4{α β γ δ ε:Type}{o:Option α}{g1:α->Option β}{g2:α->β->Option γ}{g3:α->β->γ->Option δ}{f:α->β->γ->δ->Option ε}{r:ε}(h:(o.bind λa=>(g1 a).bind λb=>(g2 a b).bind λc=>(g3 a b c).bind (f a b c))=some r):∃a b c d,o=some a/\g1 a=some b/\g2 a b=some c/\g3 a b c=some d/\f a b c d=some r:=by obtain⟨a,p0,h⟩:=bnd h;obtain⟨b,p1,h⟩:=bnd h;obtain⟨c,p2,h⟩:=bnd h;obtain⟨d,p3,h⟩:=bnd h;exact⟨a,b,c,d,p0,p1,p2,p3,h⟩
theorem bn5{α β γ δ ε ζ:Type}{o:Option α}{g1:α->Option β}{g2:α->β->Option γ}{g3:α->β->γ->Option δ}{g4:α->β->γ->δ->Option ε}{f:α->β->γ->δ->ε->Option ζ}{r:ζ}(h:(o.bind λa=>(g1 a).bind λb=>(g2 a b).bind λc=>(g3 a b c).bind λd=>(g4 a b c d).bind (f a b c d))=some r):∃a b c d e,o=some a/\g1 a=some b/\g2 a b=some c/\g3 a b c=some d/\g4 a b c d=some e/\f a b c d e=some r:=by obtain⟨a,p0,h⟩:=bnd h;obtain⟨b,p1,h⟩:=bnd h;obtain⟨c,p2,h⟩:=bnd h;obtain⟨d,p3,h⟩:=bnd h;obtain⟨e,p4,h⟩:=bnd h;exact⟨a,b,c,d,e,p0,p1,p2,p3,p4,h⟩
theorem eC{x:OD}{d:PyData}(h:wM x=some d):x=.fz d:=by cases x<;>cases h;rfl
theorem ck{x:OD}{xs:List OD}(h:kA x=some xs):x=.lst xs:=by cases x<;>cases h;rfl
theorem hX{x:OD}{z:List Key×List OD}(h:zQ x=some z):x=.dic z.1 z.2:=by cases x<;>cases h;rfl
theorem Cb{x:OD}{xs:List OD}(h:JI x=some xs):x=.lst xs\/x=.tup xs:=by cases x<;>cases h<;>first|exact .inl rfl|exact .inr rfl
theorem aP{d:PyData}{i:Int}(h:eB d=some i):d=.int i:=by cases d<;>cases h;rfl
theorem mW{d:PyData}{i:Bool}(h:Hd d=some i):d=.bool i:=by cases d<;>cases h;rfl
theorem mX{d:PyData}{i:List PyData}(h:He d=some i):d=.list i:=by cases d<;>cases h;rfl
theorem jO{d:PyData}{i:List PyData}(h:wN d=some i):d=.list i\/d=.tuple i:=by cases d<;>cases h<;>first|exact .inl rfl|exact .inr rfl
theorem uf{r:OR}{xs:List OD}(h:Hf r=some xs):r=.val (.lst xs):=by
 cases r with
 |val x=>rw[ck h]
 |rf _=>cases h
theorem gd_ok{c:Prop}[Decidable c]{u:Unit}(h:gd c=some u):c:=by
 by_cases a:c
 ·exact a
 ·rw[gd,if_neg a]at h;cases h
theorem one1_ok{a:Type}{l:List a}{x:a}(h:dX l=some x):l=[x]:=by
 cases l with
 |nil=>cases h
 |cons y l=>cases l<;>cases h;rfl
theorem thr3_ok{a:Type}{l:List a}{x:a×a×a}(h:B9 l=some x):l=[x.1,x.2.1,x.2.2]:=by
 cases l with
 |nil=>cases h
 |cons y l=>
  cases l with
  |nil=>cases h
  |cons z l=>
   cases l with
   |nil=>cases h
   |cons w l=>cases l<;>cases h;rfl
theorem Cc{d:PyData}{i:List PyData}(h:JJ d=some i):d=.tuple i:=by cases d<;>cases h;rfl
theorem two2_ok{a:Type}{l:List a}{x:a×a}(h:gw l=some x):l=[x.1,x.2]:=by
 cases l with
 |nil=>cases h
 |cons y l=>
  cases l with
  |nil=>cases h
  |cons z l=>cases l<;>cases h;rfl
section
variable(C:Ct)
mutual
def iM:E->DEnv->Option PyData
 |.nm i,ρ=>(ρ[i]?.join).bind wM
 |.int k,_=>some (.int k)
 |.str x,_=>some (.str x)
 |.gc g,_=>some (C.gv g)
 |.bop o a b,ρ=>match o with
  |.add=>(iM a ρ).bind λx=>(iM b ρ).bind λy=>wQ .add x y
  |.sub=>(iM a ρ).bind λx=>(iM b ρ).bind λy=>wQ .sub x y
  |_=>none
 |.ix a b,ρ=>(iM a ρ).bind λx=>(iM b ρ).bind λy=>(wN x).bind λds=>(eB y).bind λi=>atI ds i
 |.tup es,ρ=>(mY es ρ).bind λds=>(gd (ds.length<=1000000)).bind λ_=>some (.tuple ds)
 |.pg i ps,ρ=>(aL ρ i ps).bind λp=>wM p.2.2
 |_,_=>none
def mY:Es->DEnv->Option (List PyData)
 |.nil,_=>some []
 |.cons e es,ρ=>(iM e ρ).bind λx=>(mY es ρ).bind λy=>some (x::y)
end
def ba(k:Key)(d:PyData)(ks:List Key)(xs:List OD):List Key×List OD:=
 if (ks.any λq=>decide (q=k))=true then (ks,List.zipWith (λq x=>if q=k then .fz d else x) ks xs) else (ks++[k],xs++[.fz d])
def x9:Bo->Int->PyData->Option Int
 |.add,a,.int k=>some (a+k)
 |.sub,a,.int k=>some (a-k)
 |_,_,_=>none
def ui(i:Nat)(ks:List Nat)(j:Nat)(u:V)(ρ a:DEnv):Prop:=∃x y,ρ[i]?.join=some x/\x.at ks=some (.hole u)/\ρ[j]?.join=some y/\j≠i/\a=(ρ.set j none).set i (some (OD.put y ks x))
def HolOk(g:V->Option (Fl×DEnv))(i:Nat)(ks:List Nat)(j:Nat)(z:Fl×DEnv):Prop:=∀u:V,∃a,g u=some (z.1,a)/\ui i ks j u a z.2
open Classical in
def holRun(g:V->Option (Fl×DEnv))(i:Nat)(ks:List Nat)(j:Nat):Option (Fl×DEnv):=if h:∃z,HolOk g i ks j z then some (Classical.choose h) else none
theorem holRun_some{g:V->Option (Fl×DEnv)}{i j:Nat}{ks:List Nat}{z:Fl×DEnv}(h:holRun g i ks j=some z):HolOk g i ks j z:=by
 unfold holRun at h;by_cases a:∃z,HolOk g i ks j z
 ·rw[dif_pos a]at h;cases h;exact acD a
 ·rw[dif_neg a]at h;cases h
theorem rA{g:V->Option (Fl×DEnv)}{i j:Nat}{ks:List Nat}{z:Fl×DEnv}(h:HolOk g i ks j z):holRun g i ks j=some z:=by
 have b:∃z,HolOk g i ks j z:=⟨z,h⟩
 have q:holRun g i ks j=some (Classical.choose b):=dif_pos b;rw[q];have d:=acD b;generalize Classical.choose b=z' at d;obtain⟨k,l,B,u,p,A,m,s,n⟩:=h .non;obtain⟨f,a,D,w,c,r,e,C,o⟩:=d .non;rw[l]at a;injection a with a;injection a with a a3;subst a3;rw[p]at c;rw[m]at e;cases c;cases e;obtain⟨v,y⟩:=z;obtain⟨t,x⟩:=z';simp only at *;rw[n,o,a]
def dAct(b ve:E)(o:List Key×List OD)(ρ:DEnv):Option ((List Key×List OD)×DEnv):=(ev C b ρ).bind λx=>(ev C ve x.2).bind λy=>(aq y.2 x.1).bind λa=>(keyOf a).bind λc=>(frz1 y.2 y.1).bind λz=>some (ba c z.1 o.1 o.2,z.2)
def ia(b:Tg)(c ve:E)(o:List Key×List OD)(d:PyData)(ρ:DEnv):Option ((List Key×List OD)×DEnv):=(aW b (.fz d) ρ).bind λa=>dAct C c ve o a
mutual
def bL:S'->DEnv->Option (Fl×DEnv)
 |.ex e,ρ=>(ev C e ρ).bind λx=>some (.nx,x.2)
 |.set i e,ρ=>(ev C e ρ).bind λx=>(own1 x.2 x.1).bind λz=>(gd (i<z.2.length)).bind λ_=>some (.nx,z.2.set i (some z.1))
 |.asg t e,ρ=>(ev C e ρ).bind λx=>(own1 x.2 x.1).bind λz=>(aW t z.1 z.2).bind λρ1=>some (.nx,ρ1)
 |.par is es,ρ=>(evs C es ρ).bind λx=>(mapR own1 x.2 x.1).bind λz=>(gd (z.1.length=is.length/\∀i∈is,i<z.2.length)).bind λ_=>some (.nx,dB is z.1 z.2)
 |.aug i o e,ρ=>(ρ[i]?.join).bind λf=>(wM f).bind λn=>(eB n).bind λa=>(ev C e ρ).bind λx=>(aq x.2 x.1).bind λd=>(x9 o a d).bind λr=>some (.nx,x.2.set i (some (.fz (.int r))))
 |.agl i e,ρ=>(ρ[i]?.join).bind λf=>(kA f).bind λ_=>(ev C e ρ).bind λx=>(Hf x.1).bind λys=>(x.2[i]?.join).bind λg=>(kA g).bind λxs=>(gd (xs.length+ys.length<=1000000)).bind λ_=>some (.nx,x.2.set i (some (.lst (xs++ys))))
 |.ret e,ρ=>(ev C e ρ).bind λx=>(mv1 x.2 x.1).bind λz=>some (.rt z.1,z.2)
 |.iff c a b,ρ=>(aM C c ρ).bind λx=>if x.1=true then av a x.2 else av b x.2
 |.whl c b,ρ=>eU (aM C c) (av b) C.wf ρ
 |.fr t it b,ρ=>(ow C it ρ).bind λx=>bh (λd h=>(aW t (.fz d) h).bind λρ1=>av b ρ1) x.1 x.2
 |.cont,ρ=>some (.ct,ρ)
 |.brk,ρ=>some (.bk,ρ)
 |.app i e,ρ=>(ρ[i]?.join).bind λf=>(kA f).bind λ_=>(ev C e ρ).bind λx=>(own1 x.2 x.1).bind λz=>(z.2[i]?.join).bind λg=>(kA g).bind λxs=>(gd (xs.length<1000000)).bind λ_=>some (.nx,z.2.set i (some (.lst (xs++[z.1]))))
 |.ins i k e,ρ=>(ρ[i]?.join).bind λf=>(kA f).bind λ_=>(ev C k ρ).bind λq=>(ev C e q.2).bind λx=>(aq x.2 q.1).bind λm=>(eB m).bind λk=>(aq x.2 x.1).bind λd=>(gd (JH d=true)).bind λ_=>(x.2[i]?.join).bind λg=>(kA g).bind λxs=>(gd (0<=k/\k<=xs.length/\xs.length<100000)).bind λ_=>some (.nx,x.2.set i (some (.lst (xs.take k.toNat++.fz d::xs.drop k.toNat))))
 |.apd i ps e,ρ=>(aL ρ i ps).bind λp=>(iM C e ρ).bind λd=>(kA p.2.2).bind λxs=>(gd (xs.length<1000000)).bind λ_=>some (.nx,ρ.set i (some (OD.put (.lst (xs++[.fz d])) p.2.1 p.1)))
 |.sti i k e,ρ=>(ev C e ρ).bind λx=>(own1 x.2 x.1).bind λz=>(z.2[i]?.join).bind λf=>(kA f).bind λ_=>(ev C k z.2).bind λq=>(aq q.2 q.1).bind λd=>(eB d).bind λk=>(q.2[i]?.join).bind λg=>(kA g).bind λxs=>(ixN xs.length k).bind λj=>some (.nx,q.2.set i (some (.lst (xs.set j z.1))))
 |.sdk i k e,ρ=>(ev C e ρ).bind λx=>(frz1 x.2 x.1).bind λz=>(z.2[i]?.join).bind λf=>(zQ f).bind λ_=>(ev C k z.2).bind λq=>(aq q.2 q.1).bind λl=>(keyOf l).bind λkk=>(q.2[i]?.join).bind λg=>(zQ g).bind λu=>(gd (u.2.length<1000000)).bind λ_=>some (.nx,q.2.set i (some (.dic (ba kk z.1 u.1 u.2).1 (ba kk z.1 u.1 u.2).2)))
 |.sdc i nt fr it tg ke ve,ρ=>(ow C it ρ).bind λx=>(gd (x.1.length<1000000)).bind λ_=>(cJ x.2 fr).bind λz=>(eh (ia C tg ke ve) x.1 ([],[]) (List.replicate nt none++z.1)).bind λw=>(gd (i<(eR z.2 fr (w.2.drop nt)).length)).bind λ_=>some (.nx,(eR z.2 fr (w.2.drop nt)).set i (some (.dic w.1.1 w.1.2)))
def av:Ss->DEnv->Option (Fl×DEnv)
 |.nil,ρ=>some (.nx,ρ)
 |.cons s ss,ρ=>(bL s ρ).bind λx=>match x.1 with
  |.nx=>av ss x.2
  |fl=>some (fl,x.2)
 |.alo c i ps qs j k ss,ρ=>(aM C c ρ).bind λt=>(gd (j≠i/\k≠i/\j≠k/\j<t.2.length/\k<t.2.length)).bind λ_=>if t.1=true then (aL t.2 i ps).bind λp=>(kA p.2.2).bind λys=>(aL t.2 i qs).bind λr=>(wM r.2.2).bind λd=>holRun (λu=>av ss (((t.2.set i (some (OD.put (.hole u) p.2.1 p.1))).set j (some (.lst ys))).set k (some (.fz d)))) i p.2.1 j
  else av ss ((t.2.set j (some (.lst []))).set k (some (.fz (.int 0))))
end
def ya(fn:Fn)(xs:List OD):Option (OD×List OD):=(av C fn.body (bQ fn.n xs)).bind λx=>match x.1 with
 |.nx=>(bb 0 fn.io xs x.2).bind λa=>some (.fz .none,a)
 |.rt o=>(bb 0 fn.io xs x.2).bind λa=>some (o,a)
 |_=>none
end
structure Pg where
 F:Nat->Option Fn
 gv:Nat->PyData
 wf:Nat
def Pg.io(p:Pg)(f:Nat):List Bool:=match p.F f with|some a=>a.io|none=>[]
def Pg.both(p:Pg):Nat->(Nat->List OD->Option (OD×List OD))×(Nat->List OD->Option (OD×List OD))
 |0=>(λ_ _=>none,λ_ _=>none)
 |n+1=>(λf xs=>match p.F f with
  |some fn=>if xs.length=fn.io.length then ya ⟨p.io,(Pg.both p n).1,(Pg.both p n).2,p.gv,p.wf⟩ fn xs else none
  |none=>none,(Pg.both p n).1)
def Pg.call(p:Pg)(n f:Nat)(xs:List OD):Option (OD×List OD):=(p.both n).1 f xs
def Pg.mak(p:Pg)(n f:Nat)(xs:List OD):Option (OD×List OD):=(p.both n).2 f xs
abbrev Pg.ct(p:Pg)(n:Nat):Ct:=⟨p.io,p.call n,p.mak n,p.gv,p.wf⟩
theorem Pg.eu(p:Pg)(n f:Nat)(xs:List OD):p.call (n+1) f xs=match p.F f with
  |some fn=>if xs.length=fn.io.length then ya (p.ct n) fn xs else none
  |none=>none:=rfl
end
section
def aC(C:Ct)(m:E):DE:=λa Q=>∃x,ev C m a=some x/\Q x.1 x.2
def fT(C:Ct)(m:E):DT:=λa Q=>∃x,aM C m a=some x/\Q x.1 x.2
def iQ(C:Ct)(m:Es):DA:=λa Q=>∃x,evs C m a=some x/\Q x.1 x.2
def uj(C:Ct)(m:Eo):DO:=λa Q=>∃x,Ca C m a=some x/\Q x.1 x.2
def gx(C:Ct)(m:It'):DI:=λa Q=>∃x,ow C m a=some x/\Q x.1 x.2
section
variable{X:Cx}{e:Expr}{es:List Expr}
theorem PDe.imp:PDe X e d->(∀ρ Q,d' ρ Q->d ρ Q)->PDe X e d'
 |⟨te,h,s⟩,f=>⟨te,h,λb F σ H ρ τ θ c Q a R g q=>s b F σ H ρ τ θ c Q a R (f _ _ g) q⟩
theorem PDt.imp:PDt X e d->(∀ρ Q,d' ρ Q->d ρ Q)->PDt X e d'
 |⟨te,h,s⟩,f=>⟨te,h,λb F σ H ρ τ θ c Q a R g q=>s b F σ H ρ τ θ c Q a R (f _ _ g) q⟩
theorem PDw.imp:PDw X e d->(∀ρ Q,d' ρ Q->d ρ Q)->PDw X e d'
 |⟨te,h,s⟩,f=>⟨te,h,λb F σ H ρ τ θ c Q a R g q=>s b F σ H ρ τ θ c Q a R (f _ _ g) q⟩
theorem PDa.imp:PDa X es d->(∀ρ Q,d' ρ Q->d ρ Q)->PDa X es d'
 |⟨te,h,s⟩,f=>⟨te,h,λb F σ H ρ τ θ c Q a R g q=>s b F σ H ρ τ θ c Q a R (f _ _ g) q⟩
theorem PDi.imp:PDi X tg e d->(∀ρ Q,d' ρ Q->d ρ Q)->PDi X tg e d'
 |⟨te,h,s⟩,f=>⟨te,h,λb F σ H ρ τ θ c Q a R g q=>s b F σ H ρ τ θ c Q a R (f _ _ g) q⟩
theorem PDo.imp:PDo X o d->(∀ρ Q,d' ρ Q->d ρ Q)->PDo X o d'
 |⟨te,h,s⟩,f=>⟨te,h,λb F σ H ρ τ θ c Q a R g q=>s b F σ H ρ τ θ c Q a R (f _ _ g) q⟩
theorem SndR2.or{K:Waa}(h:SndR2 K r d)(h':SndR2 K r' d'):SndR2 K (λx y H Q=>r x y H Q\/r' x y H Q) (λx y Q=>d x y Q\/d' x y Q):=λH v u c g f Q a b z q=>z.imp (λz=>h H v u c g f Q a b z q) λz=>h' H v u c g f Q a b z q
theorem SndR2.imp{K:Waa}(h:SndR2 K r d)(f:∀x y Q,d' x y Q->d x y Q):SndR2 K r d':=λH v u c i g Q a b z q=>h H v u c i g Q a b (f _ _ _ z) q
end
def opOf:Bo->Operator
 |.add=>.Add|.sub=>.Sub|.mul=>.Mult|.fdiv=>.FloorDiv|.mod=>.Mod|.pow=>.Pow
def coOf:Co->CmpOp
 |.lt=>.Lt|.le=>.LtE|.gt=>.Gt|.ge=>.GtE|.eq=>.Eq|.ne=>.NotEq|.inn=>.In|.nin=>.NotIn|.nid=>.NotIn
def Kt(o:Bo):DR2:=λx y Q=>∃d,wQ o x y=some d/\Q d
def Ku(o:Co):DR2:=λx y Q=>∃k,g9 o x y=some k/\Q (.bool k)
theorem dS(h:wQ o x y=some d):∃i j k,x=.int i/\y=.int j/\JK o i j=some k/\d=.int k:=by obtain⟨i,j,k,a,b,c,h⟩:=bn3 h;cases h;exact⟨i,j,k,aP a,aP b,c,rfl⟩
section
variable{X:Cx}
theorem E9(o:Bo):∃e,OpR X (binaryOp (opOf o)) e/\SndR2 X.K e (Kt o):=by
 cases o with
 |add=>refine⟨_,A8,(tE λi j=>.int _).imp λx y Q c=>?_⟩;obtain⟨d,h,q⟩:=c;obtain⟨i,j,k,rfl,rfl,a,rfl⟩:=dS h;cases a;exact⟨i,j,rfl,rfl,q⟩
 |sub=>refine⟨_,A9,(tE λi j=>.int _).imp λx y Q c=>?_⟩;obtain⟨d,h,q⟩:=c;obtain⟨i,j,k,rfl,rfl,a,rfl⟩:=dS h;cases a;exact⟨i,j,rfl,rfl,q⟩
 |mul=>refine⟨_,Ba,(xC λi j=>.int _).imp λx y Q c=>?_⟩;obtain⟨d,h,q⟩:=c;obtain⟨i,j,k,rfl,rfl,a,rfl⟩:=dS h;obtain⟨_,b,a⟩:=bnd a;cases a;have b:=gd_ok b;exact⟨i,j,rfl,rfl,b,q⟩
 |fdiv=>refine⟨_,w8,(xC λi j=>.int _).imp λx y Q c=>?_⟩;obtain⟨d,h,q⟩:=c;obtain⟨i,j,k,rfl,rfl,a,rfl⟩:=dS h;obtain⟨_,b,a⟩:=bnd a;cases a;have b:=gd_ok b;exact⟨i,j,rfl,rfl,b,q⟩
 |mod=>refine⟨_,Bb,(xC λi j=>.int _).imp λx y Q c=>?_⟩;obtain⟨d,h,q⟩:=c;obtain⟨i,j,k,rfl,rfl,a,rfl⟩:=dS h;obtain⟨_,b,a⟩:=bnd a;cases a;have b:=gd_ok b;exact⟨i,j,rfl,rfl,b,q⟩
 |pow=>refine⟨_,Bc,(xC λi j=>.int _).imp λx y Q c=>?_⟩;obtain⟨d,h,q⟩:=c;obtain⟨i,j,k,rfl,rfl,a,rfl⟩:=dS h;obtain⟨_,b,a⟩:=bnd a;cases a;have b:=gd_ok b;exact⟨i,j,rfl,rfl,b,q⟩
theorem ox(h:eqA x y=some k):qV x y=some k\/(SeqAt.shaped x=true/\SeqAt.shaped y=true/\k=PyData.eqv x y):=by
 unfold eqA at h;cases e:qV x y with
 |some d=>rw[e]at h;exact .inl h
 |none=>
  rw[e]at h;simp only at h;split at h
  ·rename_i c;cases h;obtain⟨a,b⟩:=abC.mp c;exact .inr ⟨a,b,rfl⟩
  ·cases h
theorem oy(h:inA x y=some k):∃ds,(y=.list ds\/y=.tuple ds)/\DV x=true/\memD x ds=some k:=by obtain⟨ds,_,a,b,h⟩:=bn2 h;exact⟨ds,jO a,gd_ok b,h⟩
def Fb(K:Waa):R2:=λx y H Q=>∃a b,Dt K H x a/\Dt K H y (.tuple b)/\SeqAt.shaped a=true/\SeqAt.shaped (.tuple b)=true/\Q (.bl (!b.any λz=>PyData.eqv z a)) H
def dNid:DR2:=λx y Q=>∃a,y=.tuple a/\SeqAt.shaped x=true/\SeqAt.shaped y=true/\Q (.bool (!a.any λz=>PyData.eqv z x))
theorem sr_nid{K:Waa}:SndR2 K (Fb K) dNid:=λH v u e j i Q b c ⟨d,g,a,h,f⟩ q=>by subst g;exact⟨e,d,b,c,a,h,q _ _ (.bl _) f⟩
theorem Cd(w:X.A.units+64<cLine):OpR X (compareOp .NotIn) (Fb X.K):=by
 intro c s p H x y v u Q I i g h;obtain⟨j,a,d,e,k,b,q⟩:=h;obtain⟨r,l⟩:=d.reads I i;obtain⟨o,f⟩:=e.reads I g;have m:=SeqAt.depth_of_shaped b;have n:PyData.depthAll a+1<=64:=by simpa[PyData.depth,Nat.add_comm] using m
 have t:min (PyData.depthAll a) j.depth<=PyData.depthAll a:=Nat.min_le_left _ _;refine SeqAt.notIn_tuple_reads f l (by simpa[PyData.canLay0] using SeqAt.canLay_of_shaped b) (SeqAt.canLay_of_shaped k) (by omega) ⟨.bl _,H,I,rfl,q⟩
theorem ib(r:X.A.units+64<cLine)(o:Co):∃s,OpR X (compareOp (coOf o)) s/\SndR2 X.K s (Ku o):=by
 have b:∀{x y:PyData}{k:Bool}{g:Int->Int->Bool},((eB x).bind λi=>(eB y).bind λj=>some (g i j))=some k->∃i j,x=.int i/\y=.int j/\k=g i j:=by intro x y k g h;obtain⟨i,j,n,l,h⟩:=bn2 h;cases h;exact⟨i,j,aP n,aP l,rfl⟩
 cases o with
 |lt=>refine⟨_,Eh,(xD (g:=λi j=>decide (i<j))).imp λx y Q a=>?_⟩;obtain⟨k,h,q⟩:=a;obtain⟨i,j,rfl,rfl,rfl⟩:=b h;exact⟨i,j,rfl,rfl,q⟩
 |le=>refine⟨_,Ei,(xD (g:=λi j=>decide (i<=j))).imp λx y Q a=>?_⟩;obtain⟨k,h,q⟩:=a;obtain⟨i,j,rfl,rfl,rfl⟩:=b h;exact⟨i,j,rfl,rfl,q⟩
 |gt=>refine⟨_,Ej,(xD (g:=λi j=>decide (j<i))).imp λx y Q a=>?_⟩;obtain⟨k,h,q⟩:=a;obtain⟨i,j,rfl,rfl,rfl⟩:=b h;exact⟨i,j,rfl,rfl,q⟩
 |ge=>refine⟨_,Ek,(xD (g:=λi j=>decide (j<=i))).imp λx y Q a=>?_⟩;obtain⟨k,h,q⟩:=a;obtain⟨i,j,rfl,rfl,rfl⟩:=b h;exact⟨i,j,rfl,rfl,q⟩
 |eq=>
  refine⟨_,op_eq.or (Br r),(sr_eq.or BJ).imp λx y Q a=>?_⟩;obtain⟨k,h,q⟩:=a;rcases ox h with h|⟨d,c,rfl⟩
  ·exact .inl ⟨k,h,q⟩
  ·exact .inr ⟨d,c,q⟩
 |ne=>
  refine⟨_,op_ne.or (Bt r),(sr_ne.or BK).imp λx y Q a=>?_⟩;obtain⟨k,h,q⟩:=a;obtain⟨m,e,h⟩:=bnd h;cases h;rcases ox e with h|⟨d,c,rfl⟩
  ·exact .inl ⟨m,h,q⟩
  ·exact .inr ⟨d,c,q⟩
 |inn=>refine⟨_,qD,(zM (neg:=false)).imp λx y Q a=>?_⟩;obtain⟨k,h,q⟩:=a;obtain⟨f,d,c,p⟩:=oy h;exact⟨f,k,d,c,p,q⟩
 |nin=>refine⟨_,jA,(zM (neg:=true)).imp λx y Q a=>?_⟩;obtain⟨k,h,q⟩:=a;obtain⟨m,e,h⟩:=bnd h;cases h;obtain⟨f,d,c,p⟩:=oy e;exact⟨f,m,d,c,p,q⟩
 |nid=>refine⟨_,Cd r,sr_nid.imp λx y Q a=>?_⟩;obtain⟨k,h,q⟩:=a;obtain⟨f,_,n,l,h⟩:=bn2 h;cases h;exact⟨f,Cc n,(gd_ok l).1,(gd_ok l).2,q⟩
end
section
variable{X:Cx}{C:Ct}{a b c e:Expr}{es:List Expr}{ma mb mc:E}{mes:Es}{pos:Pos}
theorem Fc(r:PDe X a (aC C ma))(f:PDe X b (aC C mb)):PDe X (.BinOp a (opOf o) b pos) (aC C (.bop o ma mb)):=by obtain⟨w,u,i⟩:=E9 o;refine(EH u i r f).imp λy Q n=>?_;obtain⟨x,h,q⟩:=n;obtain⟨p,l,s,k,d,j,t,v,g,m,h⟩:=bn5 h;cases h;exact⟨p,j,l,t,s,k,v,g,d,m,q⟩
theorem Fd(s:X.A.units+64<cLine)(f:behindInMarks (coOf o) b=false)(t:PDe X a (aC C ma))(g:PDe X b (aC C mb)):PDe X (.Compare a [coOf o] [b] pos) (aC C (.cmp o ma mb)):=by obtain⟨z,w,j⟩:=ib s o;refine(BI w j f t g).imp λB Q p=>?_;obtain⟨x,h,q⟩:=p;obtain⟨r,m,u,l,d,k,v,y,i,n,h⟩:=bn5 h;cases h;exact⟨r,k,m,v,u,l,y,i,d,n,q⟩
theorem Fe(t:X.A.units+64<cLine)(f:behindInMarks (coOf o) b=false)(u:PDe X a (aC C ma))(g:PDe X b (aC C mb)):PDt X (.Compare a [coOf o] [b] pos) (fT C (.cmp o ma mb)):=by obtain⟨D,z,j⟩:=ib t o;refine(xG z j f u g).imp λG Q p=>?_;obtain⟨x,h,q⟩:=p;obtain⟨y,h,r⟩:=bnd h;obtain⟨s,m,v,l,d,k,w,B,i,n,h⟩:=bn5 h;cases h;cases r;exact⟨s,k,m,w,v,l,B,i,d,n,d,rfl,q⟩
theorem Ce(i:X.A.units+64<cLine)(j:lastMarks [coOf o,coOf o'] [b,c]=false)(H:PDe X a (aC C ma))(l:PDe X b (aC C mb))(v:PDe X c (aC C mc)):PDe X (.Compare a [coOf o,coOf o'] [b,c] pos) (aC C (.cmp2 o o' ma mb mc)):=by
 obtain⟨T,M,p⟩:=ib i o;obtain⟨z,d,f⟩:=ib i o';refine(tF M p d f j H l v).imp λU Q w=>?_;obtain⟨x,h,q⟩:=w;obtain⟨D,t,I,s,k,r,L,O,n,u,h⟩:=bn5 h;refine⟨D,r,t,L,I,s,O,n,k,u,k,rfl,?_⟩;cases k with
 |false=>rw[if_neg aaf]at h;cases h;rw[if_neg aaf];exact q
 |true=>rw[if_pos rfl]at h ⊢;obtain⟨J,g,N,m,S,G,B,y,h⟩:=bn4 h;cases h;exact⟨J,S,g,N,G,B,m,y,q⟩
end
end
section
def isStar:Expr->Bool
 |.Starred _ _=>true
 |_=>false
theorem az(h:isStar e=false):starEach (e::es) env=(false,eval e env)::starEach es env:=by cases e<;>first|rfl|cases h
theorem cL:∀{es:List Expr},es.any isStar=false->(backTo pos (starEach es env)).any (·.1)=false
 |[],_=>rfl
 |e::es,h=>by rw[aa5,acE]at h;rw[az h.1];show (false||(backTo pos (starEach es env)).any (·.1))=false;rw[cL h.2];rfl
def plainT:Expr->Bool
 |.UnaryOp .Not _ _=>false
 |.BoolOp _ _ _=>false
 |.IfExp _ _ _ _=>false
 |.Compare _ _ _ _=>false
 |_=>true
theorem plainT_ok(h:plainT e=true):∀a,isTrue e env a=(do let v <-a;standAt e.pos;holding [v] (truthy v)):=by
 intro a;cases e with
 |UnaryOp b x p=>cases b<;>first|rfl|cases h
 |_=>first|rfl|cases h
section
variable{X:Cx}{C:Ct}{a b c e:Expr}{es:List Expr}{ma mb mc:E}{mes:Es}{pos p:Pos}{x:Str}{i:Nat}
theorem uo:ev C (.nm i) ρ=(match ρ[i]?.join with|some (.fz d)=>some (.val (.fz d),ρ)|some _=>some (.rf i,ρ)|none=>none):=rfl
theorem Iw(j:X.N[i]?=some x) (hv:Vis X.env.scope x) (k:(x==("__debug__":Str))=false) (d:(x==("__classdict__":Str))=false):PDe X (.Name x pos) (aC C (.nm i)):=by
 refine(BH j hv k d).imp λf Q g=>?_;obtain⟨y,h,q⟩:=g;unfold dVar;rw[uo]at h;cases e:f[i]?.join with
 |none=>rw[e]at h;cases h
 |some z=>rw[e]at h;cases z<;>(simp only at h;cases h;exact q)
theorem Fg{j pos}:PDe X (.Constant (.int k) j pos) (aC C (.int k)):=pd_int.imp λd Q ⟨y,h,q⟩=>by cases h;exact q
theorem Fh{j pos}:PDe X (.Constant (.str k) j pos) (aC C (.str k)):=pd_str.imp λd Q ⟨y,h,q⟩=>by cases h;exact q
theorem Iy{j pos}:PDe X (.Constant (.bool k) j pos) (aC C (.bl k)):=pd_bl.imp λd Q ⟨y,h,q⟩=>by cases h;exact q
theorem Fi{j pos}:PDe X (.Constant .none j pos) (aC C .non):=pd_non.imp λd Q ⟨y,h,q⟩=>by cases h;exact q
theorem Iz(f:Gl X x) (d:X.mg x=some u) (r:RelV v u) (s:∀S H,Fz X.K S H v (C.gv g)) (j:(x==("__debug__":Str))=false):PDe X (.Name x pos) (aC C (.gc g)):=
 (tz f d r s j).imp λk Q ⟨y,h,q⟩=>by cases h;exact q
theorem Fj{j g}(l:PDe X a (aC C ma)):PDe X (.Compare a [if neg then .IsNot else .Is] [.Constant .none j g] pos) (aC C (.isn neg ma)):=by
 have f:∀k Q,aC C (.isn neg ma) k Q->qW neg (aC C ma) k Q:=λk Q ⟨y,h,q⟩=>by obtain⟨n,d,m,o,h⟩:=bn2 h;cases h;exact⟨n,m,d,o,q⟩
 cases neg with
 |false=>exact(BM l).imp f
 |true=>exact(xF l).imp f
theorem Fk{j g}(l:PDe X a (aC C ma)):PDt X (.Compare a [if neg then .IsNot else .Is] [.Constant .none j g] pos) (fT C (.isn neg ma)):=by
 have f:∀k Q,fT C (.isn neg ma) k Q->eM (qW neg (aC C ma)) k Q:=λk Q ⟨y,h,q⟩=>by obtain⟨z,h,r⟩:=bnd h;obtain⟨n,d,m,o,h⟩:=bn2 h;cases h;cases r;exact⟨n,m,d,o,_,rfl,q⟩
 cases neg with
 |false=>exact(xH l).imp f
 |true=>exact(tH l).imp f
theorem v_and(m:PDe X a (aC C ma))(l:PDe X (.BoolOp .And (b::es) pos) (aC C mb)):PDe X (.BoolOp .And (a::b::es) pos) (aC C (.and ma mb)):=by
 refine(BO m l).imp λr Q n=>?_;obtain⟨y,h,q⟩:=n;obtain⟨j,d,k,g,f,o,h⟩:=bn3 h;rw[mW o]at f;refine⟨j,g,k,f,?_⟩;cases k with
 |false=>rw[if_neg aaf]at h ⊢;cases h;exact q
 |true=>rw[if_pos rfl]at h ⊢;exact⟨y,h,q⟩
theorem v_or(m:PDe X a (aC C ma))(l:PDe X (.BoolOp .Or (b::es) pos) (aC C mb)):PDe X (.BoolOp .Or (a::b::es) pos) (aC C (.or ma mb)):=by
 refine(EL m l).imp λr Q n=>?_;obtain⟨y,h,q⟩:=n;obtain⟨j,d,k,g,f,o,h⟩:=bn3 h;rw[mW o]at f;refine⟨j,g,k,f,?_⟩;cases k with
 |false=>rw[if_neg aaf]at h ⊢;exact⟨y,h,q⟩
 |true=>rw[if_pos rfl]at h ⊢;cases h;exact q
theorem v_not(j:PDe X a (aC C ma)):PDe X (.UnaryOp .Not a pos) (aC C (.not ma)):=by refine(BP j).imp λo Q l=>?_;obtain⟨y,h,q⟩:=l;obtain⟨g,d,k,f,m,n,h⟩:=bn3 h;cases h;exact⟨g,f,k,by rw[m,mW n],q⟩
theorem Fm(j:PDe X a (aC C ma)):PDe X (.UnaryOp .USub a pos) (aC C (.neg ma)):=by refine(BN j).imp λo Q l=>?_;obtain⟨y,h,q⟩:=l;obtain⟨g,d,k,f,m,n,h⟩:=bn3 h;cases h;exact⟨g,f,d,m,k,aP n,q⟩
theorem Fo(j:PDt X a (fT C ma))(g:PDw X (.BoolOp .And (b::es) pos) (fT C mb)):PDw X (.BoolOp .And (a::b::es) pos) (fT C (.and ma mb)):=by
 refine(xJ j g).imp λm Q l=>?_;obtain⟨y,h,q⟩:=l;obtain⟨f,d,h⟩:=bnd h;refine⟨f,d,?_⟩;split at h
 ·rename_i k;rw[if_pos k];exact⟨y,h,q⟩
 ·rename_i k;rw[if_neg k];cases h;exact q
theorem IA(j:PDt X a (fT C ma))(g:PDw X (.BoolOp .Or (b::es) pos) (fT C mb)):PDw X (.BoolOp .Or (a::b::es) pos) (fT C (.or ma mb)):=by
 refine(BQ j g).imp λm Q l=>?_;obtain⟨y,h,q⟩:=l;obtain⟨f,d,h⟩:=bnd h;refine⟨f,d,?_⟩;split at h
 ·rename_i k;rw[if_pos k];cases h;exact q
 ·rename_i k;rw[if_neg k];exact⟨y,h,q⟩
theorem Fq(g:PDt X a (fT C ma)):PDt X (.UnaryOp .Not a pos) (fT C (.not ma)):=by refine(xK g).imp λk Q j=>?_;obtain⟨y,h,q⟩:=j;obtain⟨f,d,h⟩:=bnd h;cases h;exact⟨f,d,q⟩
theorem Fs(f:PDt X c (fT C mc))(l:PDe X a (aC C ma))(j:PDe X b (aC C mb)):PDe X (.IfExp c a b pos) (aC C (.ife mc ma mb)):=by
 refine(EO f l j).imp λn Q m=>?_;obtain⟨y,h,q⟩:=m;obtain⟨g,d,h⟩:=bnd h;refine⟨g,d,?_⟩;split at h
 ·rename_i k;rw[if_pos k];exact⟨y,h,q⟩
 ·rename_i k;rw[if_neg k];exact⟨y,h,q⟩
theorem yb(h:Dt X.K H v d)(e:ue d=some k):Be X.K v H k:=by
 cases h with
 |non=>cases e;rfl
 |bl b=>cases e;rfl
 |int i=>cases e;rfl
 |str x=>simp[ue]at e
 |lst s t=>cases e;exact .inl ⟨_,s,by rw[DtAll.emp t]⟩
 |tup s t=>cases e;exact .inr (.inl ⟨_,s,by rw[DtAll.emp t]⟩)
theorem Ft(o:aM C m=(vt (ev C m)).2)(u:plainT e=true):PDe X e (aC C m)->PDt X e (fT C m)
 |⟨te,g,s1⟩=>⟨_,sJ g (plainT_ok u),λb F σ H ρ τ θ I Q l R ⟨y,h,q⟩ k=>by
  have h':((ev C m ρ).bind λx=>(aq x.2 x.1).bind λd=>(ue d).bind λk=>some (k,x.2))=some y:=by rw[<-h,o];rfl
  obtain⟨z,d,t,w,B,D,h'⟩:=bn3 h';cases h';refine s1 b F σ H ρ τ θ (λr f=>r=z.1/\f=z.2) _ l R ⟨z,w,rfl,rfl⟩ λv G r f j A=>?_;obtain⟨g,s⟩:=A;subst g s;have n:=j.dt B;rw[l]at n;exact⟨t,yb n D,k _ _ _ j.drop q⟩⟩
theorem fU:PDa X [] (iQ C .nil):=pda_nil.imp λd Q ⟨y,h,q⟩=>by cases h;exact q
theorem cz(f:isStar e=false)(l:PDe X e (aC C ma))(k:PDa X es (iQ C mes)):PDa X (e::es) (iQ C (.cons ma mes)):=by refine(tJ (az f) l k).imp λo Q m=>?_;obtain⟨y,h,q⟩:=m;obtain⟨j,g,d,n,h⟩:=bn2 h;cases h;exact⟨j,d,g,n,q⟩
theorem Fu{g}(j:PDa X es (iQ C mes)):PDe X (.Tuple es g pos) (aC C (.tup mes)):=by refine(BR ES j).imp λn Q l=>?_;obtain⟨y,h,q⟩:=l;obtain⟨f,z,_,d,m,k,h⟩:=bn3 h;cases h;exact⟨f,d,z.1,z.2,m,gd_ok k,q⟩
theorem Fv(g:PDa X es (iQ C mes)):PDe X (.List es pos) (aC C (.lst mes)):=by refine(BS ES g).imp λm Q j=>?_;obtain⟨y,h,q⟩:=j;obtain⟨f,z,_,d,l,k,h⟩:=bn3 h;cases h;exact⟨f,d,z.1,z.2,l,gd_ok k,q⟩
def bT:Expr->Bool
 |.Slice _ _ _ _=>true
 |_=>false
theorem jP(h:bT b=false):PlainIx b:=λo i=>by cases b<;>first|rfl|cases h
theorem IB(f:bT b=false)(s:PDe X a (aC C ma))(g:PDe X b (aC C mb)):PDe X (.Subscript a b pos) (aC C (.ix ma mb)):=by refine(ET (jP f) s g).imp λv Q o=>?_;obtain⟨y,h,q⟩:=o;obtain⟨r,m,d,k,z,l,t,u,n,j,h⟩:=bn5 h;cases h;exact⟨r,l,m,t,k,z.1,z.2,by rw[u,aP n],j,q⟩
theorem yc:PDo X none (uj C .none):=pdo_none.imp λd Q ⟨y,h,q⟩=>by cases h;exact q
theorem yd(j:PDe X e (aC C ma)):PDo X (some e) (uj C (.some ma)):=by refine(tN j).imp λo Q l=>?_;obtain⟨y,h,q⟩:=l;obtain⟨g,d,k,f,m,n,h⟩:=bn3 h;cases h;exact⟨g,f,k,by rw[m,aP n],q⟩
theorem Fw{lo d:Option Expr}(r:PDe X e (aC C ma))(f:PDo X lo (uj C ml))(n:PDo X d (uj C mh)):PDe X (.Subscript e (.Slice lo d none p2) pos) (aC C (.sll ma ml mh)):=by refine(BX r f n).imp λv Q m=>?_;obtain⟨y,h,q⟩:=m;obtain⟨o,l,u,k,j,s,t,g,h⟩:=bn4 h;cases h;exact⟨o,j,l,s,u,t,k,g,q⟩
theorem Fx(l:PDe X a (aC C ma))(j:PDe X b (aC C mb)):PDe X (.BinOp a .Add b pos) (aC C (.cat ma mb)):=by refine(BW l j).imp λu Q n=>?_;obtain⟨y,h,q⟩:=n;obtain⟨f,g,m,s,_,d,o,r,t,k,h⟩:=bn5 h;cases h;exact⟨f,d,g,o,m,s,r,t,gd_ok k,q⟩
theorem Fy(g:PDe X a (aC C ma)):PDe X a (aC C (.frz ma)):=by obtain⟨G,h,s⟩:=g;refine⟨G,h,λb F t H A w n I Q B R ⟨y,h,q⟩ k=>?_⟩;obtain⟨f,z,l,D,h⟩:=bn2 h;cases h;refine s b F t H A w n (λr d=>r=f.1/\d=f.2) _ B R ⟨f,l,rfl,rfl⟩ λv m r d o u=>?_;obtain⟨g,j⟩:=u;subst g j;exact k v m _ _ (o.frz1 D) q
theorem Cg(G:FnD X.prog X.w X.K X.mg X.base k fa fd ps (λxs Q=>∃w,C.call f xs=some w/\Q w.1 w.2)) (m:Room k X.A) (r:Gl X x) (j:X.mg x=some (.ref fa)) (hk:PySem.W.keepIn X.K (.ref fa)=true) (l:Binds X.K fd ps []) (d:(x==("__debug__":Str))=false)
  (n:isStar e=false) (g:es.any isStar=false) (u:PDa X (e::es) (iQ C mes)):PDe X (.Call (.Name x p) (e::es) [] pos) (aC C (.call f mes)):=by
 refine(xZ (ios:=C.io f) G m r j hk l d (az n) (cL g) u).imp λD Q s=>?_;obtain⟨y,h,q⟩:=s;obtain⟨t,z,w,o,v,B,h⟩:=bn3 h;cases h;exact⟨t,o,z.1,z.2,v,w,B,q⟩
theorem Ci:PDe X (.Dict [] [] pos) (aC C .dnew):=⟨_,sY,λb F l H j g f n Q m R ⟨y,h,q⟩ k=>λp d=>by cases h;exact k _ _ _ _ (R.push (R.wd.u2 d)) q⟩
end
end
end L2
namespace PySem
open PySem.Spec
section
variable{prog:Program}{w:World}{A:Around}{E:Value->Shared->Prop}{s:Shared}
set_option maxHeartbeats 3200000 in
end
end PySem
namespace L2
open PySem PySem.Spec PyProof.Rows
section
section
variable{X:Cx}{K:Waa}
theorem uq(w:X.calm=true):cx X (.builtin "any") (λxs H Q=>∃(p:Addr) (a:List Bool),xs=[.ref p]/\SqL X.K H p (a.map V.bl)/\Q (.bl (a.any id)) H):=by
 intro k s C H xs z Q I r h;obtain⟨p,a,rfl,n,q⟩:=h;obtain⟨u,rfl,t⟩:=vals1 r;cases t;obtain⟨c,x,f,y⟩:=I.list n;obtain⟨m,F⟩:=I.fr;have d:p<s.heap.objs.size:=by obtain⟨_,_,e,_⟩:=f;exact Heap.lt_size e
 have g:=xk x;refine call_any_walk (wpAny_pyIter_list f.isList ?_);refine⟨s.heap.objs.size,[s.heap.objs.size,p],[s.heap.objs.size],c.toArray.size,_,_,λi=>(a[i]?).getD false,rfl,Walks.list (A:=X.A.in1) (I.ok.hd w) _ p (aat d) c.toArray,
  ⟨⟨_,Heap.get?_push_size _ rfl,rfl,rfl⟩,f.isList.push _⟩,λi v L B G o j=>?_,λD J l=>?_⟩
 ·obtain⟨b,e,rfl⟩:=g.get i v (by simpa using o);simp only[e,Option.getD_some]at j;exact wpAny_truthy_bool j
 ·have e:((List.range c.toArray.size).any λi=>(a[i]?).getD false)=a.any id:=by rw[aax,g.length];exact LSm.range_any a
  rw[e];exact⟨.bl (a.any id),H,I.kept (LSm.kept_iter l),rfl,q⟩
theorem Cj:bootBuiltins "any"=some (.builtin "any"):=by decide +kernel
theorem i7:bootBuiltins "sorted"=some (.builtin "sorted"):=by decide +kernel
def dAny:DRn:=λc Q=>∃a b,c=[.list a]/\allB a=some b/\Q (.bool (b.any id))
theorem sc_any:SndCB K (λxs H Q=>∃(p:Addr) (a:List Bool),xs=[.ref p]/\SqL K H p (a.map V.bl)/\Q (.bl (a.any id)) H) dAny:=by
 rintro H d g i Q b ⟨f,a,rfl,e,c⟩ q;have:=kT e;subst this;cases b with
 |cons h t=>
  cases t;cases h with
  |lst s t=>rw[t.bls]at s;exact⟨_,a,rfl,s,q _ _ (.bl _) c⟩
theorem ints_vals:∀{ns:List Int}{us:List Value},Vals (ns.map V.int) us->IntsAre us ns
 |[],_,r=>by rw[aaA]at r;cases r;exact .nil
 |n::ns,_,r=>by
  rw[aao]at r;cases r with
  |cons r1 a=>obtain⟨t,rfl⟩:=r1;exact .cons n t (ints_vals a)
def ye(K:Waa):List V->Hp->VK->Prop:=λd H Q=>∃(p:Addr) (c:List Int),d=[.ref p]/\SqL K H p (c.map V.int)/\c.length<64/\∀(b:List Int) (a:Addr),b.Perm c->b.Pairwise (·<=·)->H a=none->Q (.ref a) (upd H a (.lst (b.map V.int)))
theorem k9:cx X (.builtin "sorted") (ye X.K):=by
 intro k s D H A C Q I r h;obtain⟨p,l,rfl,m,G,q⟩:=h;obtain⟨u,rfl,w⟩:=vals1 r;cases w;obtain⟨d,j,x,B⟩:=I.list m;have n:=ints_vals j;have i:d.length=l.length:=by have:=j.length;rw[aaa]at this;exact this.symm
 refine sorted_ints x.isList n (by omega) λc f z g v=>?_;obtain⟨e,t⟩:=sortedAll_at s.heap d c;have J:64<=sizeLine:=by decide
 refine⟨.ref _,_,I.laid (t':=s.toks) (a:=s.heap.objs.size+1) (o:=.lst (f.map V.int)) (λb u y=>sortedAll_old y) (abA _) ⟨?_,c.toList,e,vals_ints z,t⟩,rfl,q f _ g v (I.hok.fresh (abA _))⟩;rw[aaa,g.length_eq];omega
end
theorem oz{c b:Type}{us:List c}{ds:List b}(a:us.length=ds.length):∀(k:Nat),∀z∈(List.replicate k us).flatten.zip (List.replicate k ds).flatten,z∈us.zip ds
 |0,z,h=>by simp at h
 |k+1,z,h=>by rw[aaS,aaS,abm,abm,List.zip_append a]at h;exact(aai.mp h).elim id (oz a k z)
def Kv(f:Bl):DRn:=λa Q=>∃d,zR f a=some d/\Q d
theorem SndCB.imp{K:Waa}{a:List V->Hp->VK->Prop}{r b:DRn}(h:SndCB K a r)(f:∀ds Q,b ds Q->r ds Q):SndCB K a b:=λH d ds e Q c z q=>h H d ds e Q c (f _ _ z) q
theorem DtAll.ints'{K:Waa}{H:Hp}{vs:List V}{ns:List Int}(h:DtAll K H vs (ns.map PyData.int)):vs=ns.map V.int:=by
 induction ns generalizing vs with
 |nil=>cases h;rfl
 |cons n ns a=>cases h with|cons r t=>cases r;rw[aao,a t]
section
variable{X:Cx}{K:Waa}
theorem dInts_map:∀{ds:List PyData}{ns:List Int},hU ds=some ns->ds=ns.map PyData.int
 |[],_,h=>by cases h;rfl
 |d::ds,ns,h=>by obtain⟨i,r,a,b,h⟩:=bn2 h;cases h;rw[aP a,dInts_map b,aao]
end
def Cm:Bl->Str
 |.len=>"len" |.abs=>"abs" |.max=>"max" |.min=>"min" |.int=>"int" |.any=>"any"
section
variable{X:Cx}{C:Ct}{a b c e:Expr}{es:List Expr}{ma mb mc:E}{mes:Es}{pos p p1 p2 p3:Pos}{x:Str}{i:Nat}
theorem FA{f:Bl}(A:X.calm=true)(t:Gl X (Cm f))(r:X.mg (Cm f)=none)(s:isStar e=false)(k:es.any isStar=false)(u:PDa X (e::es) (iQ C mes)):PDe X (.Call (.Name (Cm f) p) (e::es) [] pos) (aC C (.blt f mes)):=by
 have B:PDe X (.Call (.Name (Cm f) p) (e::es) [] pos) (Hc (Kv f) (iQ C mes))->PDe X (.Call (.Name (Cm f) p) (e::es) [] pos) (aC C (.blt f mes)):=λh=>h.imp λI Q ⟨y,h,q⟩=>by obtain⟨G,o,d,g,v,H,h⟩:=bn3 h;cases h;exact⟨G,g,o,v,d,H,q⟩
 refine B ?_;cases f with
 |len=>refine dA kJ (sc_len.imp λo Q m=>?_) t r mK (by decide) (by decide) (az s) (cL k) u;obtain⟨d,h,q⟩:=m;obtain⟨z,n,l,g,h⟩:=bn2 h;cases h;exact⟨z,n,one1_ok l,g,q⟩
 |abs=>refine dA sL (sc_abs.imp λo Q m=>?_) t r Bu (by decide) (by decide) (az s) (cL k) u;obtain⟨d,h,q⟩:=m;obtain⟨z,i,l,g,h⟩:=bn2 h;cases h;exact⟨i,by rw[one1_ok l,aP g],q⟩
 |max=>refine dA (qz A) (sc_max.imp λo Q m=>?_) t r Bv (by decide) (by decide) (az s) (cL k) u;obtain⟨d,h,q⟩:=m;obtain⟨z,i,j,l,g,v,h⟩:=bn3 h;cases h;exact⟨i,j,by rw[two2_ok l,aP g,aP v],q⟩
 |min=>refine dA (qA A) (sc_min.imp λo Q m=>?_) t r Bw (by decide) (by decide) (az s) (cL k) u;obtain⟨d,h,q⟩:=m;obtain⟨z,i,j,l,g,v,h⟩:=bn3 h;cases h;exact⟨i,j,by rw[two2_ok l,aP g,aP v],q⟩
 |int=>refine tL qB (sc_int.imp λo Q m=>?_) t r By (by decide) (by decide) (az s) (cL k) u;obtain⟨d,h,q⟩:=m;obtain⟨z,n,l,g,h⟩:=bn2 h;cases h;exact⟨z,n,one1_ok l,g,q⟩
 |any=>refine dA (uq A) (sc_any.imp λo Q m=>?_) t r Cj (by decide) (by decide) (az s) (cL k) u;obtain⟨d,h,q⟩:=m;obtain⟨w,z,n,l,D,g,h⟩:=bn3 h;cases h;exact⟨z,n,by rw[one1_ok l,mX D],g,q⟩
theorem yf(o:Gl X "tuple") (j:X.mg "tuple"=none) (f:isStar e=false) (l:PDe X e (aC C ma)):PDe X (.Call (.Name "tuple" p) [e] [] pos) (aC C (.bnw .tuple ma)):=by refine(tM o j sV (by decide) (by decide) (az f) rfl (cz f l fU)).imp λr Q m=>?_;obtain⟨y,h,q⟩:=m;obtain⟨d,k,g,n,h⟩:=bn2 h;cases h;exact⟨([d.1],d.2),by simp only[evs,g];rfl,d.1,k,rfl,n,q⟩
theorem insI_perm(i:Int):∀l,(insI i l).Perm (i::l)
 |[]=>.refl _
 |j::r=>by
  unfold insI;split
  ·exact .refl _
  ·exact((insI_perm i r).cons j).trans (List.Perm.swap _ _ _)
theorem lh(i:Int):∀{l:List Int},l.Pairwise (·<=·)->(insI i l).Pairwise (·<=·)
 |[],_=>by simp[insI]
 |j::r,h=>by
  obtain⟨g,m⟩:=aa0.mp h;unfold insI;split
  ·rename_i d;exact aa0.mpr ⟨λk f=>(aab.mp f).elim (λe=>e▸d) λf=>aa9 d (g k f),h⟩
  ·rename_i d;refine aa0.mpr ⟨λk f=>?_,lh i m⟩;rcases aab.mp ((insI_perm i r).mem_iff.mp f) with rfl|f
   ·omega
   ·exact g k f
theorem sortI_perm:∀l,(sortI l).Perm l
 |[]=>.refl _
 |i::r=>(insI_perm i _).trans ((sortI_perm r).cons i)
theorem cM:∀l,(sortI l).Pairwise (·<=·)
 |[]=>.nil
 |i::r=>lh i (cM r)
theorem ie:∀{l d:List Int},l.Perm d->l.Pairwise (·<=·)->d.Pairwise (·<=·)->l=d
 |[],d,p,_,_=>by have:=p.length_eq;cases d with|nil=>rfl|cons _ _=>simp at this
 |a::l,[],p,_,_=>by have:=p.length_eq;simp at this
 |a::l,b::d,p,h,h'=>by
  obtain⟨m,k⟩:=aa0.mp h;obtain⟨n,j⟩:=aa0.mp h';have e:a=b:=by
   have g:a∈b::d:=p.mem_iff.mp aaj;have f:b∈a::l:=p.mem_iff.mpr aaj;rcases aab.mp g with e|g
   ·exact e
   ·rcases aab.mp f with e|f
    ·exact e.symm
    ·have:=m b f;have:=n a g;omega
  subst e;rw[ie (List.Perm.cons_inv p) k j]
theorem ur(N:Gl X "sorted") (D:X.mg "sorted"=none) (u:isStar e=false) (n:PDe X e (aC C ma)):PDe X (.Call (.Name "sorted" p) [e] [] pos) (aC C (.bnw .sorted ma)):=by
 obtain⟨te,h,s⟩:=n;refine⟨_,cZ k9 N D i7 (aY h bB (az u)) (by decide) (by decide) (az u) rfl,λb F U H ρ Z O Qd Q z R ⟨y,h,q⟩ k=>?_⟩;obtain⟨m,d,ds,f,_,M,A,L,e3,l,h⟩:=bn5 h;cases h;have l:=gd_ok l;rw[mX L]at A;refine s b F U H ρ Z O (λr g=>r=m.1/\g=m.2) _ z R ⟨m,M,rfl,rfl⟩ λv H' r g j Y=>?_;obtain⟨n,G⟩:=Y;subst n G;have T:=dInts_map e3;subst T;have B:=j.dt A;rw[z]at B;cases B with
 |lst t I=>rw[DtAll.ints' I]at t;refine⟨_,f,rfl,t,l,λo a p1 p2 J=>?_⟩;have:o=sortI f:=ie (p1.trans (sortI_perm f).symm) p2 (cM f);subst this;refine k _ _ _ _ (j.drop.push ?_) q;have w:=j.drop.wd.adds (vs:=(sortI f).map V.int) (ds:=(sortI f).map PyData.int) λS _=>FzA.ints _;have:=Wd.ea w (by simp) J;rw[aaL]at this;exact this
end
end
section
def iR(t:Tg):DG:=λx b Q=>∃a,aW t x b=some a/\Q a
structure Sto (X:Cx)(W:Nat->Prop)(m:Nat)(i:Nat)(x:Str):Prop where
 hN:X.N[i]?=some x
 loc:Loc X.env.scope x
 fn:X.fn x=true\/X.env.scope.names.lookup x=some .local
 lt:i<m
 nw:¬ W i
section
variable{X:Cx}{W:Nat->Prop}{m:Nat}{C:Ct}{a b c e:Expr}{es:List Expr}{ma mb mc:E}{mes:Es}{pos p p1 p2 p3:Pos}{x:Str}{i:Nat}
theorem PDg.imp:PDg X W m e d->(∀x ρ Q,d' x ρ Q->d x ρ Q)->PDg X W m e d'
 |⟨te,h,s⟩,f=>⟨te,h,λb F σ H ρ τ θ v x j Q g n R k q=>s b F σ H ρ τ θ v x j Q g n R (f _ _ _ k) q⟩
theorem PDgs.imp:PDgs X W m es d->(∀x ρ Q,d' x ρ Q->d x ρ Q)->PDgs X W m es d'
 |⟨te,h,s⟩,f=>⟨te,h,λb F σ H ρ τ θ v x k Q j n g R l q=>s b F σ H ρ τ θ v x k Q j n g R (f _ _ _ l) q⟩
theorem PDg.or:PDg X W m e d->PDg X W m e d'->PDg X W m e (λx ρ Q=>d x ρ Q\/d' x ρ Q)
 |⟨te,h,s⟩,⟨te',h',s'⟩=>⟨λv σ H Q=>te v σ H Q\/te' v σ H Q,λf s σ H v u Q I r z=>z.elim (h f s σ H v u Q I r) (h' f s σ H v u Q I r),λb F σ H ρ τ θ v x j Q k n R g q=>g.imp (λg=>s b F σ H ρ τ θ v x j Q k n R g q) λg=>s' b F σ H ρ τ θ v x j Q k n R g q⟩
theorem IC(g:X.N.Nodup)(s:Sto X W m i x):PDg X W m (.Name x pos) (iR (.nm i)):=by refine(kW s.nw g s.hN s.loc s.lt s.fn).imp λy k Q f=>?_;obtain⟨d,h,q⟩:=f;obtain⟨_,j,h⟩:=bnd h;cases h;exact⟨gd_ok j,q⟩
inductive Stos (X:Cx)(W:Nat->Prop)(m:Nat):List Nat->List Expr->Prop
 |nil:Stos X W m [] []
 |cons {i is x pos es}:Sto X W m i x->Stos X W m is es->Stos X W m (i::is) (.Name x pos::es)
theorem mZ(g:X.N.Nodup):∀{ts:List Nat}{es:List Expr},Stos X W m ts es->PDgs X W m es (λxs ρ Q=>xs.length=ts.length/\(∀i∈ts,i<ρ.length)/\Q (dB ts xs ρ))
 |[],_,.nil=>pdgs_nil.imp λxs ρ Q ⟨d,f,q⟩=>by
   cases xs with
   |nil=>exact⟨rfl,q⟩
   |cons _ _=>simp at d
 |i::is,_,.cons s t=>(rh rfl (kW s.nw g s.hN s.loc s.lt s.fn) (mZ g t)).imp λxs ρ Q ⟨d,f,q⟩=>by
   cases xs with
   |nil=>simp at d
   |cons z zs=>exact⟨z,zs,rfl,f i aaj,by simpa using d,λj h=>by rw[abf];exact f j (aal _ h),q⟩
theorem eV(h:Stos X W m ts es):(assignEach es X.env).length=ts.length/\(assignEach es X.env).findIdx? (·.1)=none:=by
 induction h with
 |nil=>exact⟨rfl,rfl⟩
 |@cons i is x pos es s t ih=>have e:assignEach (.Name x pos::es) X.env=(false,assign (.Name x pos) X.env)::assignEach es X.env:=rfl;rw[e];refine⟨by simp[ih.1],?_⟩;rw[aa1];simp[ih.2]
theorem uw(h:unpA y=some xs):unpT y=some xs\/unpL y=some xs:=by
 unfold unpA at h;cases d:unpT y with
 |some f=>rw[d]at h;exact .inl h
 |none=>rw[d]at h;exact .inr h
theorem ID(g:X.calm=true)(l:X.N.Nodup)(h:Stos X W m ts es):PDg X W m (.Tuple es k pos) (iR (.tp ts)):=by
 refine((xR g (eV h).1 (eV h).2 (mZ l h)).or (xS g (eV h).1 (eV h).2 (mZ l h))).imp λy r Q o=>?_;obtain⟨n,h,q⟩:=o;obtain⟨j,_,f,d,h⟩:=bn2 h;cases h;have d:=gd_ok d;rcases uw f with f|f
 ·exact .inl ⟨j,f,d.1,d.1,d.2,q⟩
 ·exact .inr ⟨j,f,d.1,d.1,d.2,q⟩
theorem PI.or(h:PI X tg e t)(h':PI X tg e t'):PI X tg e (λσ H R=>t σ H R\/t' σ H R):=λd s σ H R I z=>z.elim (h d s σ H R I) (h' d s σ H R I)
theorem PDi.or:PDi X tg e d->PDi X tg e d'->PDi X tg e (λρ Q=>d ρ Q\/d' ρ Q)
 |⟨te,h,s⟩,⟨te',h',s'⟩=>⟨_,PI.or h h',λb F σ H ρ τ θ j Q g R f q=>f.imp (λf=>s b F σ H ρ τ θ j Q g R f q) λf=>s' b F σ H ρ τ θ j Q g R f q⟩
theorem Cn(d:ev C ma ρ=some xa):evs C (.cons ma .nil) ρ=some ([xa.1],xa.2):=by show ((ev C ma ρ).bind _)=_;rw[d];rfl
theorem FB(d:ev C ma ρ=some xa)(f:ev C mb xa.2=some xb):evs C (.cons ma (.cons mb .nil)) ρ=some ([xa.1,xb.1],xb.2):=by show ((ev C ma ρ).bind _)=_;rw[d];show ((evs C (.cons mb .nil) xa.2).bind _)=_;rw[Cn f];rfl
theorem eW(e:aq ρ r=some d):gu ρ [r]=some [d]:=by show ((aq ρ r).bind _)=_;rw[e];rfl
theorem FC(e:aq ρ r=some d)(f:aq ρ r'=some d'):gu ρ [r,r']=some [d,d']:=by show ((aq ρ r).bind _)=_;rw[e];show ((gu ρ [r']).map _)=_;rw[eW f];rfl
theorem zT(e:frz1 ρ r=some z)(h:z.1=d):frzL ρ [r]=some ([d],z.2):=by show ((frz1 ρ r).bind _)=_;rw[e,<-h];rfl
theorem FD(e:frz1 ρ r=some z)(d:frz1 z.2 r'=some w):frzL ρ [r,r']=some ([z.1,w.1],w.2):=by show ((frz1 ρ r).bind _)=_;rw[e];show ((frzL z.2 [r']).map _)=_;rw[zT d rfl];rfl
theorem zU(h:wN d=some ds):∃l:Bool,E7 d=some (l,ds):=(jO h).elim (λh=>⟨true,h▸rfl⟩) λh=>⟨false,h▸rfl⟩
theorem FE(k:PDe X e (aC C ma)):PDi X tg e (gx C (.seq ma)):=by
 refine((tU k).or (xU k)).imp λr Q o=>?_;obtain⟨y,h,q⟩:=o;obtain⟨j,z,s,g,l,f,h⟩:=bn3 h;obtain⟨d,n⟩:=z;cases h;rcases jO f with f|f<;>simp only at f<;>subst f
 ·exact .inl ⟨j,g,_,_,l,q⟩
 ·exact .inr ⟨j,g,_,_,l,q⟩
theorem FF(u:Gl X "range") (o:X.mg "range"=none) (g:isStar a=false) (r:PDe X a (aC C ma)):PDi X tg (.Call (.Name "range" p) [a] [] pos) (gx C (.rg1 ma)):=by refine(mT u o (az g) (cz g r fU)).imp λv Q s=>?_;obtain⟨y,h,q⟩:=s;obtain⟨k,d,j,_,n,l,t,f,h⟩:=bn4 h;cases h;have f:=gd_ok f;rw[aP t]at l;exact⟨([k.1],k.2),Cn n,j,eW l,f.1,f.2,q⟩
theorem FG(w:Gl X "range") (s:X.mg "range"=none) (l:isStar a=false) (f:isStar b=false) (D:PDe X a (aC C ma)) (t:PDe X b (aC C mb)):PDi X tg (.Call (.Name "range" p) [a,b] [] pos) (gx C (.rg2 ma mb)):=by refine(mU w s (by rw[az l,az f];rfl) (az f) (cz l D (cz f t fU))).imp λG Q A=>?_;obtain⟨y,h,q⟩:=A;obtain⟨B,n,d,i,H,v,k,o,z,r,h⟩:=bn5 h;obtain⟨j,_,u,g,h⟩:=bn2 h;cases h;rw[aP z]at o;rw[aP u]at r;have g:=gd_ok g;exact⟨([B.1,n.1],n.2),FB v k,i,j,FC o r,g,q⟩
theorem FH{k} (t:Gl X "enumerate") (j:X.mg "enumerate"=none) (d:isStar a=false) (n:PDe X a (aC C ma)):PDi X (.Tuple es k tpos) (.Call (.Name "enumerate" p) [a] [] pos) (gx C (.enm ma)):=by refine(tV t j (az d) (cz d n fU)).imp λu Q o=>?_;obtain⟨y,h,q⟩:=o;obtain⟨f,z,l,g,r,s,h⟩:=bn3 h;cases h;exact⟨([f.1],f.2),Cn g,l,z.2,zT r (mX s),q⟩
theorem FI{D} (r:Gl X "zip") (k:X.mg "zip"=none) (g:isStar a=false) (d:isStar b=false) (G:PDe X a (aC C ma)) (l:PDe X b (aC C mb)):PDi X (.Tuple es D tpos) (.Call (.Name "zip" p) [a,b] [] pos) (gx C (.zip ma mb)):=by refine(xV r k (by rw[az g,az d];rfl) (az d) (cz g G (cz d l fU))).imp λM Q A=>?_;obtain⟨y,h,q⟩:=A;obtain⟨L,J,z,w,u,o,f,H,I,n,h⟩:=bn5 h;obtain⟨es,v,h⟩:=bnd h;cases h;obtain⟨s,j⟩:=zU n;obtain⟨B,t⟩:=zU v;exact⟨_,FB o f,_,_,s,B,u,es,w.2,FD H I,j,t,q⟩
def bK(C:Ct)(h:Tg)(f:Eo)(elt:E)(d:PyData)(ρ:DEnv):Option (List PyData×DEnv):=
 (aW h (.fz d) ρ).bind λg=>(Iu C f g).bind λk=>if k.1=true then (ev C elt k.2).bind λy=>(frz1 y.2 y.1).bind λq=>some ([q.1],q.2) else some ([],k.2)
def Cp(C:Ct)(d:Eo)(elt:E):DC:=λf Q=>∃w,((Iu C d f).bind λk=>if k.1=true then (ev C elt k.2).bind λy=>(frz1 y.2 y.1).bind λq=>some (([q.1]:List PyData),q.2) else some ([],k.2))=some w/\Q w.1 w.2
theorem PDc.imp:PDc Y ifs elt d->(∀ρ Q,d' ρ Q->d ρ Q)->PDc Y ifs elt d'
 |⟨te,h,s⟩,f=>⟨te,h,λb F σ H ρ vs rs D out l Q k g j R n q=>s b F σ H ρ vs rs D out l Q k g j R (f _ _ n) q⟩
theorem yg(g:PDe Y elt (aC C me)):PDc Y [] elt (Cp C .none me):=(rp g).imp λf Q ⟨w,h,q⟩=>by have h:((ev C me f).bind λy=>(frz1 y.2 y.1).bind λq=>some (([q.1]:List PyData),q.2))=some w:=h;obtain⟨y,z,d,j,h⟩:=bn2 h;cases h;exact⟨y,d,z.1,z.2,j,q⟩
theorem Cq(g:PDt Y c (fT C mc))(j:PDe Y elt (aC C me)):PDc Y [c] elt (Cp C (.some mc) me):=(uc g j).imp λo Q ⟨w,h,q⟩=>by
 obtain⟨k,n,h⟩:=bnd h;refine⟨k,n,?_⟩;by_cases d:k.1=true
 ·rw[if_pos d]at h ⊢;obtain⟨y,z,f,l,h⟩:=bn2 h;cases h;exact⟨y,f,z.1,z.2,l,q⟩
 ·rw[if_neg d]at h ⊢;cases h;exact q
theorem ux(step:PyData->DEnv->Option (List PyData×DEnv))(ds:List PyData)(w:List PyData×DEnv)(k:Nat)(f:ds[k]?=some d)(h:bH step (ds.drop k) out ρ=some w):∃z,step d ρ=some z/\bH step (ds.drop (k+1)) (out++z.1) z.2=some w:=by
 have g:=(aan.mp f).1;have e:ds.drop k=d::ds.drop (k+1):=by rw[abU g,(aan.mp f).2]
 rw[e]at h;exact bnd h
theorem oA(C:Ct){j:Tg}:∀ρ Q,aC C (.comp nt fr mi j mif me) ρ Q->ou (gx C mi) nt fr (iR j) (Cp C mif me) ρ Q:=λρ Q ⟨y,h,q⟩=>by
 obtain⟨x,_,z,w,t,r,v,A,h⟩:=bn4 h;cases h;refine⟨x,t,gd_ok r,z.1,z.2,v,λk f ρ=>bH (bK C j mif me) (x.1.drop k) f ρ=some w,A,λk d f ρ B g=>?_,λf ρ g=>?_⟩
 ·obtain⟨u,o,l⟩:=ux _ _ _ k B g;obtain⟨n,s,o⟩:=bnd o;exact⟨n,s,u,o,l⟩
 ·have g:bH (bK C j mif me) (x.1.drop x.1.length) f ρ=some w:=g;rw[acj]at g;cases g;exact q
theorem Cr{d:Tg}(j:X.calm=true)(S:CompScope N nt fr X.N scope X.env.scope)(f:∀x,foldedSetIterable iter X.env x=pure x)(k:PDi X tg iter (gx C mi))(h:∀c:CC,PDg (dQ X N scope c) Ff nt tg (iR d))(g:∀c:CC,PDc (dQ X N scope c) ifs elt (Cp C mif me)):
  PDe X (.ListComp elt [⟨tg,iter,ifs,0⟩] scope pos) (aC C (.comp nt fr mi d mif me)):=(xY j S f k h g).imp (oA C)
theorem FJ(g:PDe X a (aC C ma))(f:PDe X c (aC C mb)):PDe X (.BinOp a .Mult c pos) (aC C (.rep ma mb)):=by
 obtain⟨_,g,Y⟩:=g;obtain⟨_,f,s2⟩:=f;refine⟨_,sy Bm g f,λb F D H ρ O N Qd Q U R ⟨y,h,q⟩ k=>?_⟩;obtain⟨J,o,xs,dn,n,e1,e2,G,M,Z,h⟩:=bn5 h;obtain⟨s,_,e3,j,h⟩:=bn2 h;cases h;have j:=gd_ok j;have G:=uf G;rw[aP Z]at M;refine Y b F D H ρ O N (λr d=>r=J.1/\d=J.2) _ U R ⟨J,e1,rfl,rfl⟩ λv H1 r d R1 I=>?_;obtain⟨g,f⟩:=I;subst g f;refine s2 b F D H1 _ _ _ (λr d=>r=o.1/\d=o.2) _ U R1 ⟨o,e2,rfl,rfl⟩ λu H2 r d S I=>?_;obtain⟨g,f⟩:=I;subst g f;have hk:=S.dt M;cases hk;have t:=S.drop;rw[G]at t;obtain⟨A,h0,nd,B⟩:=t.wd.out;have hx:=fzL_map e3;subst hx;cases h0 with
 |cons r0 t0=>
  cases r0 with
  |@lst l us _ A' hH tt=>
   have T:=Ows.fzs tt;have w:Wd b H2 (us.zip (s.map OD.fz)++((V.ref l,OD.lst (s.map OD.fz))::(stk O N++(flat D o.2++ff F)))):=Wd.exp t.wd (Ows.cons (.lst hH tt) t0) nd B T;have L:=T.length;refine⟨l,n,us,rfl,rfl,hH,by omega,by omega,aar (by rw[L];exact j.2.2) (by decide),λpp hp=>k _ _ _ _ (Rel.fy (t.ea w (by rw[len_rep,len_rep,L]) (λz j=>?_) hp)) q⟩;refine aah _ (oz (by simpa using L) n.toNat z ?_);have e:(List.replicate n.toNat s).flatten.map OD.fz=(List.replicate n.toNat (s.map OD.fz)).flatten:=by rw[List.map_flatten,List.map_replicate]
   rw[e]at j;exact j
end
end
section
def FK(D:DEnds)(ρ:DEnv):Fl->Prop
 |.nx=>D.nx ρ|.bk=>D.bk ρ|.ct=>D.ct ρ|.rt x=>D.rt x ρ
def gA(C:Ct)(s:S'):DS:=λD a=>∃x,bL C s a=some x/\FK D x.2 x.1
def iS(C:Ct)(s:Ss):DS:=λD a=>∃x,av C s a=some x/\FK D x.2 x.1
section
variable{b:Bs}{F:List Fr}{σ:St}{H H':Hp}{ρ:DEnv}{τ us:List V}{θ:List OR}{zs:List OD}{v u:V}{x y:OD}{i:Nat}{ks:List Nat}
theorem Rel.open(R:Rel b F σ H ρ (us++τ) (zs.map OR.val++θ))(a:us.length=zs.length)(e:ρ[i]?.join=some x):∃v,σ[i]?=some (some v)/\Wd b H (us.zip zs++((v,x)::(stk τ θ++(flat σ (ρ.set i none)++ff F)))):=by obtain⟨v,c,w⟩:=R.slot (join_some e);refine⟨v,c,w.perm ?_⟩;rw[aH (by simpa using a),dr a,aac];exact aaz.symm
theorem Rel.close(R:Rel b F σ H ρ τ θ)(ev:σ[i]?=some (some v))(w:Wd b H' ((v,x)::(stk τ θ++(flat σ (ρ.set i none)++ff F)))):Rel b F σ H' (ρ.set i (some x)) τ θ:=Rel.back R.wf R.al R.wff ev w
theorem Rel.rest(R:Rel b F σ H ρ (us++τ) (zs.map OR.val++θ))(a:us.length=zs.length):Rel b F σ H ρ τ θ:=R.drops (by simpa using a)
end
section
variable{X:Cx}{W:Nat->Prop}{m:Nat}{C:Ct}{a b c e:Expr}{es:List Expr}{sts s1 s2:List Stmt}{st:Stmt}{ma mb mc:E}{mes:Es}{ms:S'}{mss ma' mb':Ss}{pos p p1 p2 p3 pos':Pos}{x:Str}{i:Nat}
theorem PDs.imp:PDs X W st d->(∀D ρ,d' D ρ->d D ρ)->PDs X W st d'
 |⟨te,h,s⟩,f=>⟨te,h,λb F σ H ρ τ θ g D j n R k E=>s b F σ H ρ τ θ g D j n R (f _ _ k) E⟩
theorem PDss.imp:PDss X W sts d->(∀D ρ,d' D ρ->d D ρ)->PDss X W sts d'
 |⟨te,h,s⟩,f=>⟨te,h,λb F σ H ρ τ θ g D j n R k E=>s b F σ H ρ τ θ g D j n R (f _ _ k) E⟩
theorem Cu:PDss X W [] (iS C .nil):=pdss_nil.imp λD d ⟨y,h,q⟩=>by cases h;exact q
theorem yh(j:PDs X W st (gA C ms))(g:PDss X W sts (iS C mss)):PDss X W (st::sts) (iS C (.cons ms mss)):=by
 refine(qZ j g).imp λD o n=>?_;obtain⟨y,h,q⟩:=n;obtain⟨z,f,h⟩:=bnd h;obtain⟨l,k⟩:=z;refine⟨λd=>l=.nx/\d=k,λd ⟨j,g⟩=>?_,?_⟩
 ·subst j g;exact⟨y,h,q⟩
 ·cases l
  ·exact⟨_,f,rfl,rfl⟩
  ·cases h;exact⟨_,f,q⟩
  ·cases h;exact⟨_,f,q⟩
  ·cases h;exact⟨_,f,q⟩
theorem Cv:PDs X W (.Continue pos) (gA C .cont):=pds_cont.imp λD d ⟨y,h,q⟩=>by cases h;exact q
theorem FL:PDs X W (.Break pos) (gA C .brk):=pds_brk.imp λD d ⟨y,h,q⟩=>by cases h;exact q
def fV:Expr->Bool
 |.ListComp _ _ _ _=>true|.SetComp _ _ _ _=>true|.DictComp _ _ _ _ _=>true
 |_=>false
theorem jQ(h:fV e=false):swapsWith e t l env=pure false:=by cases e<;>first|rfl|cases h
theorem IE(f:fV e=false)(g:PDe X e (aC C ma)):PDs X W (.Expr e pos) (gA C (.ex ma)):=by refine(tQ (jQ f) g).imp λD k j=>?_;obtain⟨y,h,q⟩:=j;obtain⟨z,d,h⟩:=bnd h;cases h;exact⟨z,d,q⟩
theorem FM(f:PDe X e (aC C ma)):PDs X W (.Return (some e) pos) (gA C (.ret ma)):=by refine(xO f).imp λD k g=>?_;obtain⟨y,h,q⟩:=g;obtain⟨z,w,d,j,h⟩:=bn2 h;cases h;exact⟨z,d,w.1,w.2,j,q⟩
theorem IF(g:PDt X c (fT C mc))(k:PDss X W s1 (iS C ma'))(j:PDss X W s2 (iS C mb')):PDs X W (.If c s1 s2 pos) (gA C (.iff mc ma' mb')):=by
 refine(BY g k j).imp λD n l=>?_;obtain⟨y,h,q⟩:=l;obtain⟨z,f,h⟩:=bnd h;refine⟨z,f,?_⟩;by_cases d:z.1=true
 ·rw[if_pos d]at h ⊢;exact⟨y,h,q⟩
 ·rw[if_neg d]at h ⊢;exact⟨y,h,q⟩
theorem zV(l:X.N.Nodup)(s:Sto X W m i x)(f:swapsWith e (some (.Name x pos')) pos.line X.env=pure false)(g:PDe X e (aC C ma)):PDs X W (.Assign [.Name x pos'] e pos) (gA C (.set i ma)):=by refine(xP s.nw l s.hN s.loc f s.fn g).imp λD o j=>?_;obtain⟨y,h,q⟩:=j;obtain⟨z,w,_,d,k,n,h⟩:=bn3 h;cases h;exact⟨z,d,w.1,w.2,k,gd_ok n,q⟩
theorem FN(j:swapsWithSole [tg] e pos.line X.env=pure false)(k:swappedStores [tg] e X.env=pure none)(g:isStar tg=false)(n:PDe X e (aC C ma))(l:PDg X W m tg (iR t)):PDs X W (.Assign [tg] e pos) (gA C (.asg t ma)):=by refine(xT j k (by cases tg<;>first|rfl|cases g) n l).imp λD u o=>?_;obtain⟨y,h,q⟩:=o;obtain⟨z,w,d,f,r,s,h⟩:=bn3 h;cases h;exact⟨z,f,w.1,w.2,r,d,s,q⟩
theorem yi(u:PassesOwn (model X.prog X.w) X.A X.env X.xe)(B:PDt X cc (fT C mc))(l:PDss X W sts (iS C mss)):PDs X W (.While cc sts [] pos) (gA C (.whl mc mss)):=by
 refine(rj u B l).imp λD k G=>?_;obtain⟨y,h,q⟩:=G;refine⟨λn k=>eU (aM C mc) (av C mss) n k=some y,⟨C.wf,h⟩,λn k d=>?_⟩;cases n with
 |zero=>cases d
 |succ n=>
  obtain⟨z,v,d⟩:=bnd d;refine⟨z,v,?_⟩;by_cases s:z.1=true
  ·rw[if_pos s]at d ⊢;obtain⟨w,g,d⟩:=bnd d;obtain⟨r,j⟩:=w;refine⟨λf=>f=j/\(r=.nx\/r=.ct),λf ⟨l,t⟩=>?_,?_⟩
   ·subst l;refine⟨n,aaP n,?_⟩;rcases t with rfl|rfl<;>exact d
   ·cases r with
    |nx=>exact⟨_,g,rfl,.inl rfl⟩
    |bk=>cases d;exact⟨_,g,q⟩
    |ct=>exact⟨_,g,rfl,.inr rfl⟩
    |rt o=>cases d;exact⟨_,g,q⟩
  ·rw[if_neg s]at d ⊢;cases d;exact q
theorem FO(hp:PassesOwn (model X.prog X.w) X.A X.env X.xe)(hc:X.calm=true)(hs:∀x,foldedSetIterable iter X.env x=pure x)(hi:PDi X tg iter (gx C mi))(hg:PDg X W m tg (iR t))(hb:PDss X W sts (iS C mss)):PDs X W (.For tg iter sts [] pos) (gA C (.fr t mi mss)):=by
 obtain⟨_,j,s1⟩:=hi;obtain⟨_,k,s2⟩:=hg;obtain⟨_,h3,s3⟩:=hb;refine⟨_,A6 hp hc j k h3 hs,λb F σ H Y N M Dd D hK n R ⟨y,h,q⟩ E=>?_⟩;obtain⟨x,e1,h⟩:=bnd h;refine s1 b F σ H Y N M (λds f=>ds=x.1/\f=x.2) _ hK R ⟨x,e1,rfl,rfl⟩ λJ H1 ds s T Z U nr R1 it hZ=>?_;obtain⟨j,k⟩:=hZ;subst j k;refine⟨λi mm σ H=>mm=x.1.length-i/\i<=x.1.length/\∃Y,Rel b F σ H Y (T++N) (Z++M)/\bh (λd f=>(aW t (.fz d) f).bind λs=>av C mss s) (x.1.drop i) Y=some y,⟨_,rfl,aaG _,_,R1,h⟩,?_⟩;rintro i mm I H2 ⟨rfl,hi,L,R2,u⟩;obtain⟨go,Q⟩:=it F I H2 L N M R2 i;by_cases r:i<x.1.length
 ·obtain⟨g1,g2⟩:=go r;have ed:x.1[i]?=some x.1[i]:=aak r;have ee:x.1.drop i=x.1[i]::x.1.drop (i+1):=abU r;rw[ee]at u;obtain⟨w,e2,u⟩:=bnd u;obtain⟨O,e3,e2⟩:=bnd e2;obtain⟨S,l⟩:=w;refine .inr ⟨g1,λg G=>∃f,Rel b F g G f (T++N) (Z++M)/\bh (λd f=>(aW t (.fz d) f).bind λs=>av C mss s) (x.1.drop (i+1)) f=some y,λg G ⟨f,B,w'⟩=>⟨_,by omega,rfl,r,f,B,w'⟩,λz H3 hy=>?_⟩;have R3:=g2 z H3 x.1[i] hy ed;refine s2 b F I H3 L (T++N) (Z++M) z _ (λf=>f=O) _ hK (NoRf.app nr.weak n) R3 ⟨O,e3,rfl⟩ λa0 H4 f R4 _ h4=>?_;subst h4;refine s3 b F a0 H4 _ (T++N) (Z++M) ⟨λf=>S=.nx/\f=l,λo f=>S=.rt o/\f=l,λf=>S=.bk/\f=l,λf=>S=.ct/\f=l⟩ _ hK (NoRf.app nr.weak n) R4 ⟨_,e2,by cases S<;>exact⟨rfl,rfl⟩⟩ ⟨λg G f B ⟨j,k⟩=>?_,λg G f B ⟨j,k⟩=>?_,λg G f B ⟨j,k⟩=>?_,λg G f v o B ⟨j,k⟩=>?_⟩
  ·subst j k;exact⟨_,B,u⟩
  ·subst j k;cases u;exact E.nx g G _ (B.drops U) q
  ·subst j k;exact⟨_,B,u⟩
  ·subst j k;cases u;exact E.rt g G _ v o (Rel.drops (Rel.xn B U) U) q
 ·have e:i=x.1.length:=by omega
  subst e;rw[acj]at u;cases u;exact .inl ⟨Q rfl,E.nx I H2 L (R2.drops U) q⟩
end
end
section
section
variable{prog:Program}{w:World}{A:Around}{E:Value->Shared->Prop}{s:Shared}
theorem lj{T d:String}(h:s.TypeIs a T)(k:s.TypeIs b T)
  (j:typeLookup (.type T) (dunderI "add")=pure (some (.builtin d))) (g:isSeqSlotId d=true) (c:fillsNumberSlot (.type T) "add"=pure false)
  (l:wpAny (model prog w) A (call (.builtin d) [a,b]) Q E s):wpAny (model prog w) A (inplaceOp .Add a b) Q E s:=by
 unfold inplaceOp;refine wpAny_holding ?_;have e:fillsInplaceSlot (.type T) "add" (Operator.Add==.Add)=pure false:=by unfold fillsInplaceSlot;show (typeLookup (.type T) (dunderI "add") >>= λi=>pure (i.isSome&&!isSeqSlot i))=pure false;rw[j];show (pure (true&&!isSeqSlotId d):Sem Bool)=_;rw[g];rfl
 have f:seqSlot? (.type T) (dunderI "add")=pure (some (.builtin d)):=PySem.seqSlot_of j g;refine wpAny_bind (wpAny_typeOf h (wpAny_bind (wpAny_of_eq e ?_)));show wpAny (model prog w) A (if false=true then _ else _) Q E s;rw[if_neg aaf];refine wpAny_bind (binaryOp1_none h k c ?_);refine wpAny_bind (wpAny_of_eq f ?_);exact wpAny_bind (wpAny_rule l)
end
section
variable{X:Cx}{K:Waa}{e:Expr}{da:DE}{pos pos':Pos}{x:Str}{i:Nat}
def ipL:TIp:=λx y H Q=>∃l b a c,x=.ref l/\y=.ref b/\H l=some (.lst a)/\H b=some (.lst c)/\a.length+c.length<=sizeLine/\Q (.ref l) (upd H l (.lst (a++c)))
theorem yj:Ea X .Add ipL:=by
 intro k s G H x y v u Q I B A h;obtain⟨l,b,C,D,rfl,rfl,g,o,m,q⟩:=h;cases B;cases A;obtain⟨z,c,n,r,J,e⟩:=I.u5 g;obtain⟨L,a,p,w,t,j⟩:=I.u5 o;have f:c.toArray.size+a.toArray.size<=sizeLine:=by rw[aax,aax];omega
 have d:¬ (!c.toArray.isEmpty&&Builtin.List.listTooLong (c.toArray.size+a.toArray.size))=true:=by rw[kM f,Bool.and_false];exact aaf
 refine lj ⟨_,e,rfl⟩ ⟨_,j,rfl⟩ F.slot_list_iadd.lookup (by decide +kernel) noFill_list_add ?_;refine call_meets F.slot_list_iadd ⟨_,e,rfl⟩ F.entry_list_iadd (F.args_list_iadd_2 _ _)
  (AutoSeq1.list___iadd___list_list_0 l c.toArray n b a.toArray p d (by rw[aax];omega) (by omega)) ⟨e,j,?_⟩
 refine⟨.ref l,_,I.lset g e (by simp) (r.append w) ?_,rfl,q⟩;rw[aad];exact m
end
section
variable{X:Cx}{W:Nat->Prop}{m:Nat}{C:Ct}{a b c e:Expr}{es:List Expr}{sts s1 s2:List Stmt}{st:Stmt}{ma mb mc:E}{mes:Es}{ms:S'}{mss ma' mb':Ss}{pos p p1 p2 p3 pos' apos cpos:Pos}{x:Str}{i:Nat}
theorem FP(hN:X.N.Nodup)(s:Sto X W m i x)(G:PDe X e (aC C ma)):PDs X W (.AugAssign (.Name x pos') (opOf o) e pos) (gA C (.aug i o ma)):=by
 have j:∀(f:Operator) (g:Int->Int->Int),Ea X f (HC g)->(∀a d r,x9 o a d=some r->∃k,d=.int k/\r=g a k)->PDs X W (.AugAssign (.Name x pos') f e pos) (gA C (.aug i o ma)):=λf g ho hg=>by
  obtain⟨_,h,s1⟩:=G;refine⟨_,su hN s.hN s.loc h ho s.fn,λb F M H B O L Dd D T n R ⟨y,h,q⟩ E=>?_⟩;obtain⟨x0,d0,t,l,S,Q,h⟩:=bn3 h;rw[eC S,aP Q]at l
  ·obtain⟨z,dk,r,J,I,er,h⟩:=bn3 h;cases h;obtain⟨k,rfl,rfl⟩:=hg _ _ _ er;obtain⟨v,Z,w⟩:=R.slot (join_some l);have hv:=w.dt rfl;cases hv;have hi:i<B.length:=(aan.mp (join_some l)).1;refine⟨_,Z,s1 b F M H B O L (λr A=>r=z.1/\A=z.2) _ T R ⟨z,J,rfl,rfl⟩ λv H1 r a0 u hZ=>?_⟩;obtain⟨G,Y⟩:=hZ;subst G Y;have U:=u.dt I;cases U;have hl:i<z.2.length:=by rw[<-u.wf.len,R.wf.len];exact hi
   exact⟨t,k,rfl,rfl,E.nx _ H1 _ ((u.drop.sc (.int (g t k))).store n hl s.nw) q⟩
 have nil:∀f,(∀a d,x9 o a d=none)->PDs X W (.AugAssign (.Name x pos') f e pos) (gA C (.aug i o ma)):=λf hn=>by refine⟨_,so,λb F M H B O L Dd D T n R ⟨y,h,q⟩ E=>?_⟩;obtain⟨x0,d0,t,z,dk,l,S,Q,J,I,h⟩:=bn5 h;rw[hn]at h;cases h
 cases o with
 |add=>exact j _ _ AW λa d r h=>by cases d<;>cases h;exact⟨_,rfl,rfl⟩
 |sub=>exact j _ _ AX λa d r h=>by cases d<;>cases h;exact⟨_,rfl,rfl⟩
 |_=>exact nil _ λa d=>rfl
theorem Wd.unpL0{b:Bs}(w:Wd b H ((v,.lst cs)::L)):∃a vs,v=.ref a/\H a=some (.lst vs)/\vs.length=cs.length/\Wd b H (vs.zip cs++L):=by
 obtain⟨l,g,h,f⟩:=w.out;have j:=w.qd g;cases g with
 |@cons _ _ A _ _ B0 r t=>
  cases r with
  |@lst a vs _ B h1 h2=>have d:∀c,(c∈B++B0\/b.S0 c)->(c∈a::B++B0\/b.S0 c):=λc z=>z.imp (λz=>by simp at z ⊢;exact .inr z) id;exact⟨a,vs,rfl,h1,h2.len,⟨⟨_,Ows.step (Kp.refl _ _) (λc z=>.inl (d c z)) j (λ_ _=>rfl) (OwL.kn (OwL.h8 h2) t),(aaE.mp h).2,λc k=>f c (aal _ k)⟩,w.fr,w.s0,w.nt⟩⟩
theorem set_same{d:Type}{l:List d}{x:d}(h:l[i]?=some x):l.set i x=l:=bz h
theorem FQ(hN:X.N.Nodup)(s:Sto X W m i x)(f:PDe X e (aC C ma)):PDs X W (.AugAssign (.Name x pos') .Add e pos) (gA C (.agl i ma)):=by
 obtain⟨_,h,s1⟩:=f;refine⟨_,su hN s.hN s.loc h yj s.fn,λb F k H ρ Q M Dd D hK n R ⟨y,h,q⟩ E=>?_⟩;obtain⟨x0,a0,z,U,x1,e0,f0,e1,I,L,h⟩:=bn5 h;obtain⟨Y,_,f1,J,h⟩:=bn2 h;cases h;have J:=gd_ok J;have I:=uf I;rw[ck f1]at L;obtain⟨v,j⟩:=R.wf.get (join_some e0);refine⟨v,j,s1 b F k H ρ Q M (λr G=>r=z.1/\G=z.2) _ hK R ⟨z,e1,rfl,rfl⟩ λu H1 r a1 B hZ=>?_⟩;obtain⟨f,o⟩:=hZ;subst f o;rw[I]at B;obtain⟨Z,t,rfl,hB,d,w2⟩:=Wd.unpL0 B.wd;have T:Rel b F k H1 z.2 (t++Q) (U.map OR.val++M):=Rel.spread (Rel.drop B) d w2;obtain⟨v',g,w⟩:=T.open d L;rw[j]at g;cases g;obtain⟨l,O,ch,hH,hl,go⟩:=w.ri (ks:=[]) d rfl;cases ch;refine⟨l,Z,O,t,rfl,rfl,hH,hB,aar (by omega:_<=1000000) (by decide),?_⟩;show D.nx (k.set i (some (.ref l))) _;rw[set_same j];have w3:=go (O++t) (Y++U) λS H A C nt f o nd=>⟨A++C,Ows.append f o,nd,λc hc=>aai.mp hc⟩
 exact E.nx k _ _ (Rel.close (T.rest d) j w3) q
end
end
section
section
variable{b:Bs}{S S':Addr->Prop}{H H1 H':Hp}{L L':List (V×OD)}{v u u' w w':V}{x y z z' y':OD}{d:PyData}{ks:List Nat}{k:Nat}
theorem Chn.det(h:Chn b H v x ks u y)(h':Chn b H v x ks u' y'):u=u'/\y=y':=by
 induction ks generalizing v x with
 |nil=>cases h;cases h';exact⟨rfl,rfl⟩
 |cons k ks i=>
  cases h with
  |cons f a=>
   cases h' with
   |cons g e=>obtain⟨c,j⟩:=Chd.det f g;subst c j;exact i a e
theorem Chn.snoc(h:Chn b H v x ks u y)(c:Chd b H u y k w z):Chn b H v x (ks++[k]) w z:=by
 induction ks generalizing v x with
 |nil=>cases h;exact .cons c .nil
 |cons k ks f=>cases h with|cons e a=>exact .cons e (f a)
theorem Chn.unsnoc(h:Chn b H v x (ks++[k]) w z):∃u y,Chn b H v x ks u y/\Chd b H u y k w z:=by
 induction ks generalizing v x with
 |nil=>cases h with|cons c t=>cases t;exact⟨_,_,.nil,c⟩
 |cons k ks g=>
  cases h with
  |cons e a=>obtain⟨u,y,i,f⟩:=g a;exact⟨u,y,.cons e i,f⟩
theorem OD.nc:∀{ks:List Nat}{x:OD},x.at ks=some y->y.kids[k]?=some z->x.at (ks++[k])=some z
 |[],x,e,h=>by simp only[OD.at]at e;cases e;simp[OD.at,h]
 |j::ks,x,e,h=>by
  simp only[OD.at,aaM]at e ⊢;cases a:x.kids[j]? with
  |none=>rw[a]at e;cases e
  |some q=>rw[a]at e;exact OD.nc e h
theorem setKid_self(h:x.kids[k]?=some z):OD.dw k z x=x:=by cases x<;>simp only[OD.kids]at h<;>first|(simp at h;done)|(simp only[OD.dw];rw[bz h])
theorem OD.j1:∀{ks:List Nat}{x:OD},x.at ks=some y->OD.put y ks x=x
 |[],x,e=>by simp only[OD.at]at e;cases e;rfl
 |j::ks,x,e=>by
  simp only[OD.at,OD.put]at e ⊢;cases a:x.kids[j]? with
  |none=>rfl
  |some q=>rw[a]at e;simp only;rw[OD.j1 e];exact setKid_self a
theorem path_at:∀{ps:List Acc}{ρ:DEnv}{i:Nat}{p:OD×List Nat×OD},aL ρ i ps=some p->ρ[i]?.join=some p.1/\p.1.at p.2.1=some p.2.2
 |[],ρ,i,p,h=>by obtain⟨x,c,h⟩:=bnd h;cases h;exact⟨c,rfl⟩
 |a::ps,ρ,i,p,h=>by obtain⟨q,k,z,c,j,g,h⟩:=bn3 h;cases h;obtain⟨f,e⟩:=path_at c;exact⟨f,OD.nc e g⟩
theorem Wd.way(w:Wd b H ((v,x)::L))(e:x.at ks=some y):∃u,Chn b H v x ks u y:=by
 obtain⟨i,a,h,f⟩:=w.out;cases a with
 |cons r t=>obtain⟨u,B,g,c,_⟩:=Ow.path r e;exact⟨u,c⟩
theorem Wd.z0(w:Wd b H ((v,x)::L))(e:x.at ks=some y)(ch:Chn b H v x ks u y)(i:y.kids[k]?=some z):∃q,Chd b H u y k q z:=by obtain⟨q,c⟩:=w.way (OD.nc e i);obtain⟨u',y',g,f⟩:=Chn.unsnoc c;obtain⟨a,h⟩:=Chn.det ch g;subst a h;exact⟨q,f⟩
def Ext(H H':Hp):Prop:=∀a o,H a=some o->H' a=some o
theorem Ext.refl(H:Hp):Ext H H:=λ_ _ h=>h
theorem Ext.trans(h:Ext H H1)(h':Ext H1 H'):Ext H H':=λa o e=>h' a o (h a o e)
theorem Ext.upd(e:H p=none):Ext H (upd H p o):=λa q h=>by
 by_cases z:a=p
 ·subst z;rw[e]at h;cases h
 ·rw[upd_ne z];exact h
theorem Chd.ext(E:Ext H H')(h:Chd b H v x k w z):Chd b H' v x k w z:=by
 cases h with
 |lst a c e f=>exact .lst (E _ _ a) c e f
 |tup a c e f=>exact .tup (E _ _ a) c e f
 |dic a c g e f=>exact .dic (E _ _ a) c g e f
 |obj a c g e f=>exact .obj (E _ _ a) c g e f
theorem Chn.ext(E:Ext H H')(h:Chn b H v x ks u y):Chn b H' v x ks u y:=by
 induction ks generalizing v x with
 |nil=>cases h;exact .nil
 |cons k ks e=>cases h with|cons c a=>exact .cons (c.ext E) (e a)
end
def IG(K:Waa)(f:TE)(i:Nat)(ps:List Acc):Prop:=∀(b:Bs) (F:List Fr) (a:St) (H:Hp) (c:DEnv) (e:List V) (d:List OR) (Q:VK) (p:OD×List Nat×OD),b.K=K->Rel b F a H c e d->aL c i ps=some p->(∀v u,a[i]?=some (some v)->Chn b H v p.1 p.2.1 u p.2.2->Q u H)->f a H Q
inductive PDp (X:Cx)(e:Expr)(i:Nat)(ps:List Acc):Prop|mk (te:TE) (h:PE X e te) (s:IG X.K te i ps)
inductive PX (X:Cx)(e:Expr)(f:St->Option V):Prop|mk (te:TE) (h:PE X e te) (s:∀σ H (Q:VK) v,f σ=some v->Q v H->te σ H Q)
section
variable{X:Cx}{C:Ct}{a e e2:Expr}{es:List Expr}{ma mb:E}{mes:Es}{pos p p1 p2:Pos}{x:Str}{i j:Nat}{ps:List Acc}{k:Int}
theorem FR:PX X (.Constant (.int k) j pos) (λ_=>some (.int k)):=⟨_,gK,λb H Q v e q=>by cases e;exact q⟩
theorem IH(c:X.N[i]?=some x) (hv:Vis X.env.scope x) (d:(x==("__debug__":Str))=false) (b:(x==("__classdict__":Str))=false):PX X (.Name x pos) (λσ=>σ[i]?.join):=⟨_,bN c hv d b,λσ H Q v e q=>⟨v,join_some e,q⟩⟩
theorem II(g:X.N[i]?=some x) (hv:Vis X.env.scope x) (l:(x==("__debug__":Str))=false) (c:(x==("__classdict__":Str))=false):PDp X (.Name x pos) i []:=
 ⟨_,bN g hv l c,λb F n H r o m Q p s R h q=>by
  obtain⟨y,f,h⟩:=bnd h;cases h;obtain⟨v,d⟩:=R.wf.get (join_some f);exact⟨v,d,q v v d .nil⟩⟩
theorem uy{b:Type}{xs:List b}{i:Int}{k:Nat}{y:b}(c:xs.length=n)(h:ixN n i=some k)(e:xs[k]?=some y):atI xs i=some y:=by subst c;unfold atI;rw[h];exact e
theorem FS(B:PlainIx e2)(M:∀{b:Bs}{F:List Fr}{σ:St}{H:Hp}{ρ:DEnv}{τ:List V}{θ:List OR}{x:OD}{k:Nat},Rel b F σ H ρ τ θ->accN ρ x I=some k->∃n,f σ=some (.int n)/\((∃xs,x=.lst xs/\ixN xs.length n=some k)\/∃xs,x=.tup xs/\ixN xs.length n=some k)):PDp X e i ps->PX X e2 f->PDp X (.Subscript e e2 pos) i (I::ps)
 |⟨te,h,s⟩,⟨_,l,s2⟩=>⟨_,sN mF h l B,λb F σ H ρ τ θ Q p L R c q=>by
  obtain⟨r,k,z,y,e2,N,c⟩:=bn3 c;cases c;refine s b F σ H ρ τ θ _ r L R y λv u m o=>?_;obtain⟨J,l⟩:=path_at y;obtain⟨S,d,w⟩:=R.slot (join_some J);rw[m]at d;cases d;obtain⟨g,A⟩:=w.z0 l o N;obtain⟨n,D,G⟩:=M R e2;refine s2 σ H _ _ D ?_;obtain⟨U,O,T⟩:=r;simp only at *;rcases G with ⟨xs,rfl,t⟩|⟨xs,rfl,t⟩
  ·cases A with
   |@lst a vs _ _ _ _ f1 f2 f3 f4=>exact .inl ⟨a,vs,n,g,rfl,rfl,SqL.of f1,uy f2 t f3,q v g m (o.snoc (.lst f1 f2 f3 f4))⟩
  ·cases A with
   |@tup a vs _ _ _ _ f1 f2 f3 f4=>exact .inr (.inl ⟨a,vs,n,g,rfl,rfl,SqT.of f1,uy f2 t f3,q v g m (o.snoc (.tup f1 f2 f3 f4))⟩)⟩
theorem IJ(g:PlainIx e2)(h:PDp X e i ps)(l:PX X e2 (λ_=>some (.int k))):PDp X (.Subscript e e2 pos) i (.ix k::ps):=
 FS g (λ{b F q H o r m x n} R c=>by
  obtain⟨d,f,c⟩:=bnd c;exact⟨k,rfl,(Cb f).imp (λe=>⟨d,e,c⟩) λe=>⟨d,e,c⟩⟩) h l
theorem Rel.keyS{k:Key}(R:Rel b F σ H ρ τ θ)(e:ρ[j]?.join=some (.fz d))(hk:keyOf d=some k):σ[j]?.join=some (kV k):=by obtain⟨v,f,w⟩:=R.slot (join_some e);have c:=w.dt rfl;rw[f];cases d<;>cases hk<;>cases c<;>rfl
theorem jR{k:Key}:∀{ws:List (Key×V)}{n:Nat}{w:V},(ws.map (·.1)).findIdx? (λq=>decide (q=k))=some n->(ws[n]?).map (·.2)=some w->valV ws k=some w
 |[],_,_,e,_=>by simp at e
 | (g,q)::ws,n,w,e,h=>by
  rw[aao,aa1]at e;by_cases b:g=k
  ·subst b;simp at e;subst e;simp at h;subst h;exact dm rfl
  ·simp[b]at e;obtain⟨d,c,e2⟩:=e;subst e2;have f:(ws.map (·.1)).findIdx? (λq=>decide (q=k))=some d:=by rw[List.findIdx?_map];exact c
   have:=jR f (by simpa using h);simp only[valV]at this ⊢;rw[aaV];simp only[b,decide_false];exact this
theorem FT(L:X.A.units+1<cLine)(D:NoSl e2):PDp X e i ps->PX X e2 (λσ=>σ[j]?.join)->PDp X (.Subscript e e2 pos) i (.key j::ps)
 |⟨te,h,s⟩,⟨_,g,s2⟩=>⟨_,xo L h g D,λb F σ H ρ τ θ Q p N R c q=>by
  obtain⟨r,k,z,n,e2,O,c⟩:=bn3 c;cases c;refine s b F σ H ρ τ θ _ r N R n λv u l o=>?_;obtain⟨M,g⟩:=path_at n;obtain⟨U,f,w⟩:=R.slot (join_some M);rw[l]at f;cases f;obtain⟨m,J⟩:=w.z0 g o O;obtain⟨r1,T,Y⟩:=r;simp only at *;obtain⟨y,d,Z,S,B,G,t,I,e2⟩:=bn4 e2;rw[eC G]at B;refine s2 σ H _ _ (R.keyS B I) ?_;cases J with
  |@dic a ws _ _ _ _ _ f1 f2 f5 f3 f4=>cases t;refine⟨a,m,rfl,?_,q v m l (o.snoc (.dic f1 f2 f5 f3 f4))⟩;have:=DGet.k (k:=S) f1;rw[jR (by rw[f2];exact e2) f3]at this;exact this
  |_=>cases t⟩
end
section
variable{b:Bs}{F:List Fr}{σ:St}{H H':Hp}{ρ:DEnv}{τ us:List V}{θ:List OR}{v u:V}{i:Nat}{ps:List Acc}{p:OD×List Nat×OD}{d:PyData}
theorem Rel.za{x z:OD}{ks:List Nat}(R:Rel b F σ H ρ τ θ)(j:ρ[i]?.join=some x)(h:x.at ks=some z)(ev:σ[i]?=some (some v))(ch:Chn b H v x ks u z)(g:z.dat=some d):Rel b F σ H (ρ.set i (some (OD.put (.fz d) ks x))) (u::τ) (.val (.fz d)::θ):=by obtain⟨l,a,w⟩:=R.slot (join_some j);rw[ev]at a;cases a;obtain⟨k,c,f⟩:=w.u3 h g;obtain⟨e,_⟩:=Chn.det ch c;subst e;exact Rel.back (τ:=u::τ) (θ:=.val (.fz d)::θ) R.wf R.al R.wff ev (f.perm (List.Perm.swap _ _ _))
theorem Rel.partZ{x:OD}{ks:List Nat}(R:Rel b F σ H ρ τ θ)(c:ρ[i]?.join=some x)(a:x.at ks=some (.fz d))(ev:σ[i]?=some (some v))(ch:Chn b H v x ks u (.fz d)):Rel b F σ H ρ (u::τ) (.val (.fz d)::θ):=by have:=R.za c a ev ch (d:=d) rfl;rw[OD.j1 a,set_self (join_some c)]at this;exact this
theorem Rel.part(R:Rel b F σ H ρ τ θ)(e:aL ρ i ps=some p)(ev:σ[i]?=some (some v))(ch:Chn b H v p.1 p.2.1 u p.2.2)(a:p.2.2.dat=some d):Rel b F σ H (ρ.set i (some (OD.put (.fz d) p.2.1 p.1))) (u::τ) (.val (.fz d)::θ):=R.za (path_at e).1 (path_at e).2 ev ch a
theorem Rel.u4(R:Rel b F σ H ρ τ θ)(e:aL ρ i ps=some p)(ev:σ[i]?=some (some v))(ch:Chn b H v p.1 p.2.1 u p.2.2)(a:p.2.2=.fz d):Rel b F σ H ρ (u::τ) (.val (.fz d)::θ):=by obtain⟨f,c⟩:=path_at e;have:=R.part e ev ch (by rw[a];rfl);rw[<-a,OD.j1 c,set_self (join_some f)]at this;rw[a]at this;exact this
theorem Rel.partD(R:Rel b F σ H ρ τ θ)(e:aL ρ i ps=some p)(ev:σ[i]?=some (some v))(ch:Chn b H v p.1 p.2.1 u p.2.2)(a:p.2.2.dat=some d):Dt b.K H u d:=(R.part e ev ch a).dt rfl
end
end
section
section
variable{X:Cx}{C:Ct}{a e e2:Expr}{es:List Expr}{ma mb:E}{mes:Es}{pos p p1 p2:Pos}{x:Str}{i j:Nat}{ps:List Acc}{k:Int}
theorem IK:PDp X e i ps->PDe X e (aC C (.pg i ps))
 |⟨te,h,s⟩=>⟨te,h,λb F σ H ρ τ θ n Q m R ⟨y,h,q⟩ k=>by
  obtain⟨r,c,h⟩:=bnd h;refine s b F σ H ρ τ θ _ r m R c λv u f l=>?_;obtain⟨d,g,h⟩:=bnd h;cases h;exact k u H _ _ (R.u4 c f l (eC g)) q⟩
theorem IL(o:Gl X "len") (l:X.mg "len"=none) (c:isStar e=false):PDp X e i ps->PDe X (.Call (.Name "len" p) [e] [] pos) (aC C (.pl i ps))
 |⟨te,h,s⟩=>⟨_,cZ kJ o l mK (aY h bB (az c)) (by decide) (by decide) (az c) (cL rfl),λb F σ H ρ τ θ G Q g R ⟨y,h,q⟩ k=>by
  obtain⟨r,d,n,f,e2,A,h⟩:=bn3 h;cases h;refine s b F σ H ρ τ θ _ r g R f λv u m t=>?_;refine sc_len H [u] [d] (λd=>d=.int n) _ (.cons (g▸R.partD f m t e2) .nil) ⟨d,n,rfl,A,rfl⟩ λw D z B=>?_;subst B;exact k w H _ _ (R.sc z) q⟩
theorem jS(g:aM C m=(vt (ev C m)).2)(l:∀ρ x,ev C m ρ=some x->∃k,x.1=.val (.fz (.bool k))):∀ρ Q,fT C m ρ Q->eM (aC C m) ρ Q:=λρ Q ⟨y,h,q⟩=>by
 have b:((ev C m ρ).bind λx=>(aq x.2 x.1).bind λd=>(ue d).bind λk=>some (k,x.2))=some y:=by rw[<-h,g];rfl
 obtain⟨z,c,b⟩:=bnd b;obtain⟨k,f⟩:=l ρ z c;rw[f]at b;cases b;exact⟨z,c,k,by rw[f];rfl,q⟩
theorem SndT.imp{K:Waa}(s:SndT K te d)(f:∀ρ Q,d' ρ Q->d ρ Q):SndT K te d':=λb F h H ρ g c m Q l R n q=>s b F h H ρ g c m Q l R (f _ _ n) q
theorem uz{neg:Bool}(hu:X.A.units+64<cLine)(n:behindInMarks (coOf (if neg then .nin else .inn)) e=false):PDe X a (aC C ma)->PDp X e i ps->PDe X (.Compare a [coOf (if neg then .nin else .inn)] [e] pos) (aC C (.pin neg ma i ps))/\PDt X (.Compare a [coOf (if neg then .nin else .inn)] [e] pos) (fT C (.pin neg ma i ps))
 |⟨ta,l,s1⟩,⟨te,h,s⟩=>by
  obtain⟨U,J,T⟩:=ib hu (if neg then .nin else .inn);have S:cb X.K (zG U ta te) (aC C (.pin neg ma i ps)):=by refine λb F D H G τ Y Qd Q g R ⟨y,h,q⟩ k=>?_;obtain⟨z,I,r,d,t,M,B,e2,L,o,h⟩:=bn5 h;cases h;refine s1 b F D H G τ Y (λr c=>r=z.1/\c=z.2) _ g R ⟨z,M,rfl,rfl⟩ λv m r' c f hZ=>?_;obtain⟨l,N⟩:=hZ;subst l N;refine s b F D m _ _ _ _ r g f e2 λv' u O Z=>?_;refine T m v u I d (λd=>d=.bool t) _ (g▸f.dt B) (g▸f.partD e2 O Z L) ⟨t,o,rfl⟩ λw d' sc hd=>?_;subst hd;exact k w m _ _ (f.drop.sc sc) q
  refine⟨⟨_,ju J l h n,S⟩,⟨_,jv J l h n,(eN S).imp (jS rfl λG x h=>?_)⟩⟩;obtain⟨z,I,r,d,t,M,B,e2,L,o,h⟩:=bn5 h;cases h;exact⟨t,rfl⟩
theorem jU{k:Key}:∀{ws:List (Key×V)},(valV ws k).isSome=(ws.map (·.1)).any λq=>decide (q=k)
 |[]=>rfl
 | (g,q)::ws=>by
  have b:=jU (k:=k) (ws:=ws);by_cases c:g=k
  ·subst c;rw[dm rfl];simp
  ·simp only[valV]at b ⊢;rw[aaV];simp only[c,decide_false,aao,aa5,Bool.false_or];exact b
def Cw(neg:Bool)(b c:TE):TE:=if neg then oh b c else ED b c
theorem uA{neg:Bool}(D:X.A.units+1<cLine)(m:behindInMarks (coOf (if neg then .nin else .inn)) e=false):PDe X a (aC C ma)->PDp X e i ps->PDe X (.Compare a [coOf (if neg then .nin else .inn)] [e] pos) (aC C (.din neg ma i ps))/\PDt X (.Compare a [coOf (if neg then .nin else .inn)] [e] pos) (fT C (.din neg ma i ps))
 |⟨ta,d,s1⟩,⟨te,h,s⟩=>by
  have hp:PE X (.Compare a [coOf (if neg then .nin else .inn)] [e] pos) (Cw neg ta te):=by
   cases neg with
   |true=>exact jq (i5 D d h) m
   |false=>exact jq (sX D d h) m
  have M:PT X (.Compare a [coOf (if neg then .nin else .inn)] [e] pos) (tB (Cw neg ta te)):=by
   cases neg with
   |true=>exact jr (i5 D d h) m
   |false=>exact jr (sX D d h) m
  have S:cb X.K (Cw neg ta te) (aC C (.din neg ma i ps)):=by
   refine λb F l H T L J Qd Q U R ⟨y,h,q⟩ k=>?_;obtain⟨z,dx,r,kk,uu,G,e1,e2,Z,t,h⟩:=bn5 h;have t:=hX t
   ·cases h;have go:∀v f N c,Rel b F l f c (v::L) (N::J)->(N=z.1/\c=z.2)->te l f λx H2=>∃a o,x=.ref a/\DGet H2 a v o/\Q (.bl (if neg then !o.isSome else o.isSome)) H2:=λv f N c B ⟨d,n⟩=>by
     subst d n;refine s b F l f _ _ _ _ r U B e2 λv' u ev ch=>?_;obtain⟨d,n⟩:=path_at e2;obtain⟨v2,g,w⟩:=B.slot (join_some d);rw[ev]at g;cases g;rw[t]at n ch;obtain⟨ad,ws,O,hH,I,hl,_⟩:=Wd.sk (us:=[]) (zs:=[]) w rfl n;obtain⟨e5,_⟩:=Chn.det ch O;subst e5;have hv:=B.dt e1;have Y:v=kV kk:=by cases dx<;>cases Z<;>cases hv<;>rfl
     subst Y;refine⟨ad,_,rfl,DGet.k hH,?_⟩;rw[jU,I];exact k _ f _ _ (B.drop.sc (.bl _)) q
    cases neg with
    |true=>exact s1 b F l H T L J (λr c=>r=z.1/\c=z.2) _ U R ⟨z,G,rfl,rfl⟩ go
    |false=>exact s1 b F l H T L J (λr c=>r=z.1/\c=z.2) _ U R ⟨z,G,rfl,rfl⟩ go
  refine⟨⟨_,hp,S⟩,⟨_,M,(mR S).imp (jS rfl λT x h=>?_)⟩⟩;obtain⟨z,dx,r,kk,uu,G,e1,e2,Z,t,h⟩:=bn5 h;cases h;exact⟨_,rfl⟩
end
def IM(K:Waa)(i:TE)(f:DEnv->Option PyData):Prop:=∀(b:Bs) (F:List Fr) (c:St) (H:Hp) (a:DEnv) (h:List V) (g:List OR) (Q:VK) (d:PyData),b.K=K->Rel b F c H a h g->f a=some d->(∀v e,Ext H e->Rel b F c e a (v::h) (.val (.fz d)::g)->Q v e)->i c H Q
inductive PDq (X:Cx)(e:Expr)(f:DEnv->Option PyData):Prop|mk (te:TE) (h:PE X e te) (s:IM X.K te f)
def FU(K:Waa)(k:TA)(f:DEnv->Option (List PyData)):Prop:=∀(b:Bs) (F:List Fr) (e:St) (H:Hp) (c:DEnv) (j:List V) (i:List OR) (Q:List V->Hp->Prop) (g:List PyData),b.K=K->Rel b F e H c j i->f c=some g->(∀a h,Ext H h->a.length=g.length->Rel b F e h c (a++j) (g.map (λd=>OR.val (.fz d))++i)->Q a h)->k e H Q
inductive PDqs (X:Cx)(es:List Expr)(f:DEnv->Option (List PyData)):Prop|mk (te:TA) (h:PA X es te) (s:FU X.K te f)
section
variable{X:Cx}{C:Ct}{a e e2:Expr}{es:List Expr}{ma mb:E}{mes:Es}{pos p p1 p2:Pos}{x:Str}{i j:Nat}{ps:List Acc}{k:Int}
theorem IP(l:X.N[i]?=some x) (hv:Vis X.env.scope x) (m:(x==("__debug__":Str))=false) (c:(x==("__classdict__":Str))=false):PDq X (.Name x pos) (iM C (.nm i)):=
 ⟨_,bN l hv m c,λb F r H t s n Q d u R h q=>by
  obtain⟨o,f,h⟩:=bnd h;rw[eC h]at f;obtain⟨v,g⟩:=R.wf.get (join_some f);exact⟨v,g,q v H (.refl H) (R.dupS (join_some f) g)⟩⟩
theorem FV:PDq X (.Constant (.int k) j pos) (iM C (.int k)):=⟨_,gK,λb F l H f g c Q d m R h q=>by
  cases h;exact q _ H (.refl H) (R.sc (.int k))⟩
theorem IQ:PDp X e i ps->PDq X e (iM C (.pg i ps))
 |⟨te,h,s⟩=>⟨te,h,λb F σ H ρ τ θ Q d l R h q=>by
  obtain⟨r,c,h⟩:=bnd h;refine s b F σ H ρ τ θ _ r l R c λv u f g=>?_;exact q u H (.refl H) (R.u4 c f g (eC h))⟩
theorem IR(M:PlainIx e2):PDq X e (iM C ma)->PDq X e2 (iM C mb)->PDq X (.Subscript e e2 pos) (iM C (.ix ma mb))
 |⟨_,h1,s1⟩,⟨_,h2,s2⟩=>⟨_,sN mF h1 h2 M,λb F σ H ρ τ θ Q d s R h q=>by
  obtain⟨dx,A,O,e2,h⟩:=bn2 h;refine s1 b F σ H ρ τ θ _ dx s R O λv S L N=>s2 b F σ S ρ _ _ _ A s N e2 λu g I r=>?_;have w:=r.fy.drop;have J:∀(l:Bool) (c:List PyData) (n:Int),dx=(if l then .list c else .tuple c)->A=.int n->atI c n=some d->zG (JB X.K) (λ_ _ Q=>Q v g) (λ_ _ Q=>Q u g) σ H Q:=λl c n U hy Z=>by
   subst U hy;have Y:=r.dt rfl;cases Y;obtain⟨y,D,o,rfl,t,f,T⟩:=Wd.itemF r.drop.wd Z;have G:Rel b F σ g ρ (o::τ) (.val (.fz d)::θ):=Rel.push r.drop.drop T;rcases t with z|z
   ·exact .inl ⟨y,D,n,o,rfl,rfl,s▸z,f,q o g (L.trans I) G⟩
   ·exact .inr (.inl ⟨y,D,n,o,rfl,rfl,s▸z,f,q o g (L.trans I) G⟩)
  obtain⟨c,n,m,B,h⟩:=bn2 h;rcases jO m with m|m
  ·exact J true c n m (aP B) h
  ·exact J false c n m (aP B) h⟩
theorem Cz:PDqs X [] (mY C .nil):=⟨_,bB,λb F l H f g c Q d m R h q=>by
 cases h;exact q [] H (.refl H) rfl R⟩
theorem yk(g:isStar e=false):PDq X e (iM C ma)->PDqs X es (mY C mes)->PDqs X (e::es) (mY C (.cons ma mes))
 |⟨_,h1,s1⟩,⟨_,h2,s2⟩=>⟨_,aY h1 h2 (az g),λb F σ H ρ τ θ Q d f R h q=>by
  obtain⟨dx,r,m,e2,h⟩:=bn2 h;cases h;refine s1 b F σ H ρ τ θ _ dx f R m λv o w l=>s2 b F σ o ρ _ _ _ r f l e2 λs n t c u=>q (v::s) n (w.trans t) (by simp[c]) ?_;exact Rel.xr u (by simp[c])⟩
theorem FW{r}:PDqs X es (mY C mes)->PDq X (.Tuple es r pos) (iM C (.tup mes))
 |⟨_,h1,s1⟩=>⟨_,jw h1,λb F σ H ρ τ θ Q d s R h q=>by
  obtain⟨ds,_,n,g,h⟩:=bn2 h;have g:=gd_ok g
  ·cases h;refine s1 b F σ H ρ τ θ _ ds s R n λv u o f c=>⟨aar (by omega:_<=1000000) (by decide),λp l=>q _ _ (o.trans (.upd l)) ?_⟩
   have e2:ds.map (λd=>OR.val (.fz d))=(ds.map OD.fz).map OR.val:=by simp
   rw[e2]at c;have w:=c.vals (by simpa using f);have m:=kS w (by simpa using f) l;have t:mkTup (ds.map OD.fz)=.fz (.tuple ds):=by simp only[mkTup,fP]
   rw[t]at m;exact Rel.push (c.drops (by simpa using f)) m⟩
end
theorem oB:∀{vs:List Value}{ns:List Int},vs.length=ns.length->(∀(j:Nat) (v:Value) (n:Int),vs[j]?=some v->ns[j]?=some n->∃t,v=.int n t)->IntsAre vs ns
 |[],[],_,_=>.nil
 |v::vs,n::ns,e,h=>by obtain⟨t,rfl⟩:=h 0 v n rfl rfl;exact .cons n t (oB (by simpa using e) λj v n a b=>h (j+1) v n a b)
theorem uB:∀{a:List (Key×V)}{vs:List (Key×Value)},KV a vs->vs.map (·.1)=a.map (·.1)
 |_,_,.nil=>rfl
 |_,_,.cons r t=>by rw[aao,aao,uB t,r.1]
section
variable{X:Cx}
theorem m3(hc:X.calm=true):cx X (.builtin "sorted") (λxs H Q=>∃(p:Addr) (d:List (Key×V)) (ns:List Int),xs=[.ref p]/\H p=some (.dK d)/\d.map (·.1)=ns.map Sum.inl/\ns.length<64/\∀(c:List Int) (a:Addr),c.Perm ns->c.Pairwise (·<=·)->H a=none->Q (.ref a) (upd H a (.lst (c.map V.int)))):=by
 intro w s σ H xs us Q I r h;obtain⟨p,d,ns,rfl,Y,J,hl,q⟩:=h;obtain⟨u,rfl,rx⟩:=vals1 r;cases rx;obtain⟨U,lo,S,N,hD⟩:=I.hok p _ Y;obtain⟨ep,z⟩:=hD.dictAt;have ek:=(uB N).trans J;have G:d.length=S.length:=Paired.length N;have Z:d.length=ns.length:=by have:=congrArg List.length J;simpa using this
 refine Calls.call_function_entry kind_sorted plain_sorted entry_sorted (args_sorted1 _) ?_;unfold Builtin.«sorted»;refine wpAny_bind (wpAny_pure (wpAny_bind (PySem.W.kdu_collect (PySem.W.kdl_dict lo) (I.ok.hd hc) z (by rw[<-G];exact U) λD tk f C g=>?_)));have O:f.toList.length=ns.length:=by rw[abO,g.1,<-G,Z]
 have hI:IntsAre f.toList ns:=oB O λj v n hv hn=>by
  obtain⟨k,x,hx,hi⟩:=g.2 j v (by rw[<-acw];exact hv);have e:(S.map (·.1))[j]?=some k:=by rw[aau,hx];rfl
  rw[ek,aau,hn]at e;cases e;rcases aQ (k:=.inl n) hi with ⟨i,t,A,e2⟩|⟨y,t,A,_⟩
  ·cases A;exact⟨t,e2⟩
  ·cases A
 have sl:64<=sizeLine:=by decide
 refine wpAny_bind (wpAny_newList ?_ (by rw[O];omega));have m:(D.push (seqObj "list" f.toList.toArray 0)).get? D.objs.size=some (seqObj "list" f.toList.toArray 0):=Heap.get?_push_size _ rfl;refine wpAny_bind (wpAny_holding (wpAny_call_entry slot_list_sort ⟨_,m,rfl⟩ entry_list_sort (list_sort_tree m hI (by omega) λB c a1 L a3=>⟨_,rfl,wpAny_pure ⟨_,rfl,?_⟩⟩) (args_list_sort _)));obtain⟨e,he⟩:=sortedHeap_at m;have M:Inv X w σ H { s with heap:=D,toks:=tk }:=I.kept C;refine⟨.ref _,_,M.laid (o:=.lst (c.map V.int)) (λb u T=>?_) (aae _) ⟨?_,B.toList,e,vals_ints a1,he⟩,rfl,q c _ L a3 (M.hok.fresh (aae _))⟩
 ·have l:=Heap.lt_size T;rw[sortedHeap_old (aat l) (by rw[size_push'];exact abz l),Heap.get?_push_ne _ _ _ (aat l)];exact T
 ·rw[aaa,L.length_eq];omega
end
theorem ll:∀{ks:List Key}{ns:List Int},k8 ks=some ns->ks=ns.map Sum.inl
 |[],ns,h=>by cases h;rfl
 |.inl i::ks,ns,h=>by obtain⟨r,e,h⟩:=bnd h;cases h;rw[ll e];rfl
 |.inr _::_,_,h=>by cases h
section
variable{X:Cx}{C:Ct}{x:Str}{p p1 pos:Pos}{i:Nat}
theorem FX(A:X.calm=true) (s:Gl X "sorted") (j:X.mg "sorted"=none) (I:X.N[i]?=some x) (hv:Vis X.env.scope x) (J:(x==("__debug__":Str))=false) (e:(x==("__classdict__":Str))=false):PDe X (.Call (.Name "sorted" p) [.Name x p1] [] pos) (aC C (.sdd i)):=by refine⟨_,cZ (m3 A) s j i7 (aY (bN I hv J e) bB (az rfl)) (by decide) (by decide) (az rfl) rfl,λb F O H Y U L T Q Z R ⟨y,h,q⟩ k=>?_⟩;obtain⟨M,z,c,_,g,o,B,u,h⟩:=bn4 h;cases h;rw[hX o]at g;obtain⟨v,m,w⟩:=Rel.open (us:=[]) (zs:=[]) R rfl g;obtain⟨l,G,t,r,d,_,_⟩:=w.sk (ks:=[]) rfl rfl;cases t;refine⟨_,m,l,G,c,rfl,r,by rw[d];exact ll B,gd_ok u,λf a p1 D n=>?_⟩;have:f=sortI c:=ie (p1.trans (sortI_perm c).symm) D (cM c);subst this;refine k _ _ _ _ (R.push ?_) q;have w:=R.wd.adds (ds:=(sortI c).map PyData.int) λS _=>FzA.ints _;have:=Wd.ea w (by simp) n;rw[aaL]at this;exact this
end
section
variable{X:Cx}{C:Ct}{x:Str}{p p1 pos:Pos}{i:Nat}
theorem uC(G:X.A.units+64<cLine):OpR X (compareOp .NotEq) (λx y H Q=>∃p q xs,x=.ref p/\y=.ref q/\SqL X.K H p xs/\SqL X.K H q []/\Q (.bl (!xs.isEmpty)) H):=by
 intro g s D H x y v u Q I o n h;obtain⟨p,q,xs,rfl,rfl,t,l,k⟩:=h;cases o;cases n;obtain⟨a,r,c,_⟩:=I.list t;obtain⟨b,m,f,_⟩:=I.list l;cases m;have d:=r.length;cases xs with
 |nil=>obtain rfl:a=[]:=ack.mp d.symm;exact SeqAt.RcNeAt.lists (e:=λ_=>true) c.isList f.isList rfl (by omega) (λj h=>absurd h (Nat.not_lt_zero _)) X.prog X.w _ _ ⟨.bl false,H,I,rfl,k⟩
 |cons z B=>exact SeqAt.RcNeAt.lists_lengths c.isList f.isList (by rw[aax,<-d];rfl) (by omega) X.prog X.w _ _ ⟨.bl true,H,I,rfl,k⟩
theorem Rel.lsAt(R:Rel b F σ H ρ τ θ)(e:ρ[i]?.join=some (.lst xs)):∃l vs,σ[i]?=some (some (.ref l))/\H l=some (.lst vs)/\vs.length=xs.length:=by obtain⟨v,d,w⟩:=Rel.open (us:=[]) (zs:=[]) R rfl e;obtain⟨l,vs,a,c,f,_⟩:=w.ri (ks:=[]) rfl rfl;cases a;exact⟨l,vs,d,c,f⟩
theorem IS(j:Gl X "len") (d:X.mg "len"=none) (o:X.N[i]?=some x) (hv:Vis X.env.scope x) (r:(x==("__debug__":Str))=false) (a:(x==("__classdict__":Str))=false):PDe X (.Call (.Name "len" p) [.Name x p1] [] pos) (aC C (.ln i)):=by refine⟨_,cZ jB j d mK (aY (bN o hv r a) bB (az rfl)) (by decide) (by decide) (az rfl) rfl,λb F v H A z t w Q B R ⟨y,h,q⟩ k=>?_⟩;obtain⟨u,s,c,f,h⟩:=bn2 h;cases h;rw[ck f]at c;obtain⟨l,m,e,g,n⟩:=R.lsAt c;exact⟨_,e,l,m,rfl,.inl (SqL.of g),by rw[n];exact k _ H _ _ (R.sc (.int _)) q⟩
theorem oC{K:Waa}:cb K (zG (λx y H Q=>∃p q xs,x=.ref p/\y=.ref q/\SqL K H p xs/\SqL K H q []/\Q (.bl (!xs.isEmpty)) H) (tVar i) (En tNil)) (aC C (.nen i)):=λb F n H t r m v Q w R ⟨y,h,q⟩ k=>by
 obtain⟨u,xs,f,j,h⟩:=bn2 h;cases h;rw[ck j]at f;obtain⟨l,d,g,c,o⟩:=R.lsAt f;refine⟨_,g,aaG _,λe a=>⟨l,e,d,rfl,rfl,SqL.of (by rw[upd_ne (ao c a)];exact c),SqL.of aD,?_⟩⟩;have:d.isEmpty=xs.isEmpty:=by rw[abx,abh,abh,<-ack,<-ack,o]
 rw[this];have s:Rel b F n (upd H e (.lst [])) t r m:=⟨R.wf,R.al,R.wff,R.wd.new a⟩
 exact k _ _ _ _ (s.sc (.bl _)) q
theorem FY(b:X.A.units+64<cLine) (c:X.N[i]?=some x) (hv:Vis X.env.scope x) (d:(x==("__debug__":Str))=false) (a:(x==("__classdict__":Str))=false):PDe X (.Compare (.Name x p) [.NotEq] [.List [] p1] pos) (aC C (.nen i)):=⟨_,ju (uC b) (bN c hv d a) (jx bB) (nobehind _ (by decide) (by decide)),oC⟩
theorem FZ(e:X.A.units+64<cLine) (f:X.N[i]?=some x) (hv:Vis X.env.scope x) (g:(x==("__debug__":Str))=false) (a:(x==("__classdict__":Str))=false):PDt X (.Compare (.Name x p) [.NotEq] [.List [] p1] pos) (fT C (.nen i)):=by refine PDt.imp (d:=eM (aC C (.nen i))) ⟨_,jv (uC e) (bN f hv g a) (jx bB) (nobehind _ (by decide) (by decide)),eN oC⟩ λm Q ⟨y,h,q⟩=>?_;obtain⟨z,h,c⟩:=bnd h;have b:=h;obtain⟨l,k,n,j,h⟩:=bn2 h;cases h;cases c;exact⟨_,b,_,rfl,q⟩
end
end
section
section
variable{b:Bs}{S:Addr->Prop}{H:Hp}{vs us:List V}{xs zs:List OD}{A B C:List Addr}{v:V}{z:OD}
theorem Ows.addA(nt:∀c xs,H c=some (.tup xs)->¬ S c)(e:Ows b S H vs xs A)(d:Ows b S H us zs C)(a:(A++C).Nodup):∃D,Ows b S H (vs++us) (xs++zs) D/\D.Nodup/\∀c∈D,c∈A\/c∈C:=⟨A++C,Ows.append e d,a,λc f=>aai.mp f⟩
theorem Ows.one(h:Ows b S H [v] [z] C):Ow b S H v z C:=by
 cases h with
 |cons r t=>cases t;rw[aam];exact r
theorem Ows.setA(f:j<xs.length)(k:Ows b S H vs xs A)(g:Ows b S H [v] [z] C)(i:(A++C).Nodup):∃D,Ows b S H (vs.set j v) (xs.set j z) D/\D.Nodup/\∀c∈D,c∈A\/c∈C:=by
 obtain⟨q,d,B,e,m,rfl,n,l⟩:=k.zip (aak f);refine⟨d++(C++e),l g.one λ_ h=>h,?_,λc a=>?_⟩
 ·have p:((d++(B++e))++C).Perm (B++(d++(C++e))):=by refine((bW d B e).append_right C).trans ?_;rw[aac];refine aa8 B ?_;rw[aac];exact aa8 d aaY
  exact(aaD.mp (p.nodup_iff.mp i)).2.1
 ·simp only[aai]at a ⊢;rcases a with a|a|a
  ·exact .inl (.inl a)
  ·exact .inr a
  ·exact .inl (.inr (.inr a))
theorem oD(e:ws.length=xs.length):(putK ws k v).map (·.1)=(ba k d (ws.map (·.1)) xs).1:=by
 unfold putK ba;rw[abV];have f:((λq=>decide (q=k)) ∘ λx:Key×V=>x.1)=λc=>decide (c.1=k):=rfl;rw[f];by_cases a:(ws.any λc=>decide (c.1=k))=true
 ·rw[if_pos a,if_pos a,aaL];refine acF λq _=>?_;simp only[Function.comp];split<;>rfl
 ·rw[if_neg a,if_neg a,aas];rfl
theorem lp(hv:Fz b.K S H v d):∀{ws:List (Key×V)}{xs:List OD}{A:List Addr},Ows b S H (ws.map (·.2)) xs A->∃D,Ows b S H ((ws.map (λc=>if c.1=k then (c.1,v) else c)).map (·.2)) (List.zipWith (λq x=>if q=k then .fz d else x) (ws.map (·.1)) xs) D/\D.Sublist A
 |[],_,_,.nil=>⟨[],.nil,List.Sublist.refl _⟩
 | (g,q)::ws,x::xs,_,.cons (A:=A1) r t=>by
  obtain⟨D,e,f⟩:=lp hv t;simp only[aao,acG];by_cases a:g=k
  ·rw[if_pos a,if_pos a];exact⟨[]++D,.cons (.fz hv) e,(aaB D).symm▸f.trans (List.sublist_append_right _ _)⟩
  ·rw[if_neg a,if_neg a];exact⟨A1++D,.cons r e,(List.Sublist.refl A1).append f⟩
theorem lq(h:Ows b S H (ws.map (·.2)) xs A)(n:Ows b S H [v] [.fz d] C)(o:(A++C).Nodup):∃D,Ows b S H ((putK ws k v).map (·.2)) (ba k d (ws.map (·.1)) xs).2 D/\D.Nodup/\∀c∈D,c∈A\/c∈C:=by
 have i:Fz b.K S H v d:=by cases n with|cons r t=>cases r with|fz f=>exact f
 have j:=(aaD.mp o).1;unfold putK ba;rw[abV];have m:((λq=>decide (q=k)) ∘ λx:Key×V=>x.1)=λe=>decide (e.1=k):=rfl;rw[m];by_cases a:(ws.any λe=>decide (e.1=k))=true
 ·rw[if_pos a,if_pos a];obtain⟨D,p,l⟩:=lp i h;exact⟨D,p,l.nodup j,λc g=>.inl (l.subset g)⟩
 ·rw[if_neg a,if_neg a,aas];exact⟨A++[],Ows.append h (.cons (.fz i) .nil),by simpa using j,λc g=>.inl (by simpa using g)⟩
end
section
variable{X:Cx}{W:Nat->Prop}{m:Nat}{C:Ct}{a b c e e2 kx:Expr}{es:List Expr}{sts s1 s2:List Stmt}{st:Stmt}{ma mb mc mk':E}{mes:Es}{ms:S'}{mss ma' mb':Ss}{pos p p1 p2 p3 pos' apos cpos:Pos}{x:Str}{i j:Nat}{ps:List Acc}
theorem CA{o i:Expr}(h:bT i=false):∀v,assign (.Subscript o i pos) env v=(do
   let ov <-holding [v] (eval o env)
   let iv <-holding [v,ov] (eval i env)
   standAt pos
   holding [v,ov,iv] (setItem ov iv v)
   release [v,ov,iv] []):=by
 cases i<;>first|(intro _;rfl)|cases h
theorem yl{env:Env}(h:isStar e=false):((backTo cpos (starEach [e] env)).all (λx=>!x.1)&&(backToKw cpos (keywordEach [] env)).all (λx=>x.1.isSome)
   && decide ([e].length+([]:List Keyword).length+(if ([]:List Keyword).isEmpty then 0 else 1)<30))=true:=by
 cases e<;>first|rfl|cases h
theorem Rel.cell{b:Bs}{τ:List V}{x:OD}(R:Rel b F σ H ρ τ θ)(n:ρ[i]?.join=some x)(k:x.at ks=some (.lst xs))(ev:σ[i]?=some (some v))(ch:Chn b H v x ks u (.lst xs)):∃l vs,u=.ref l/\H l=some (.lst vs):=by obtain⟨r,d,q⟩:=R.slot (join_some n);rw[ev]at d;cases d;obtain⟨o,f,h,g,_,_⟩:=Wd.ri (us:=[]) (zs:=[]) q rfl k;exact⟨o,f,(Chn.det ch h).1,g⟩
theorem Rel.x2{b:Bs}{F:List Fr}(R:Rel b F σ H ρ τ θ)(d:ρ[i]?.join=some (.lst xs)):∃v,σ[i]?=some (some v)/\∃l vs,v=.ref l/\H l=some (.lst vs):=by obtain⟨v,f⟩:=R.wf.get (join_some d);exact⟨v,f,R.cell d rfl f .nil⟩
theorem Rel.z4{b:Bs}{x o:OD}{v d:V}(R:Rel b F σ H ρ (d::τ) (.val o::θ))(h:ρ[i]?.join=some x)(q:x.at ks=some (.lst xs))(ev:σ[i]?=some (some v))(ch:Chn b H v x ks (.ref l) (.lst xs))(z:xs.length<1000000):
  ∃vs,H l=some (.lst vs)/\vs.length<sizeLine/\Rel b F σ (upd H l (.lst (vs++[d]))) (ρ.set i (some (OD.put (.lst (xs++[o])) ks x))) τ θ:=by
 obtain⟨D,f,w⟩:=Rel.open (us:=[d]) (zs:=[o]) R rfl h;rw[ev]at f;cases f;obtain⟨B,vs,g,n,G,r⟩:=w.ri rfl q;obtain⟨y,_⟩:=Chn.det ch g;cases y;exact⟨vs,n,aaC (by omega) (by decide:1000001<=sizeLine),Rel.close (Rel.rest (us:=[d]) (zs:=[o]) R rfl) ev (r (vs++[d]) (xs++[o]) λS H A C u t k s=>Ows.addA u t k s)⟩
theorem F2(hN:X.N[i]?=some x) (hv:Vis X.env.scope x) (hd:(x==("__debug__":Str))=false) (l:(x==("__classdict__":Str))=false) (d:(apos.endLine==cpos.line)=true) (g:isStar e=false):
  PDe X e (aC C ma)->PDs X W (.Expr (.Call (.Attribute (.Name x pos') "append" apos) [e] [] cpos) pos) (gA C (.app i ma))
 |⟨_,h,s⟩=>⟨_,gy (n9 acl acH acI fL (bN hN hv hd l) (aY h bB (az g)) rfl (yl g) d (az g) (cL rfl)) rfl,λb F σ H ρ τ θ Dd D hK n R ⟨y,h,q⟩ E=>by
  obtain⟨x0,M,z,o,x1,B,f0,L,e2,A,h⟩:=bn5 h;obtain⟨xs,_,S,I,h⟩:=bn2 h;cases h;rw[ck f0]at B;rw[ck S]at A;obtain⟨v,u,w,f,rfl,k⟩:=R.x2 B;refine⟨.ref w,u,.inl ⟨rfl,f,SqL.of k⟩,?_⟩;refine s b F σ H ρ τ θ (λr t=>r=z.1/\t=z.2) _ hK R ⟨z,L,rfl,rfl⟩ λQ H1 r Z J U=>?_;obtain⟨h1,G⟩:=U;subst h1 G;obtain⟨T,O,Y,R3⟩:=Rel.z4 (J.own1 e2) A rfl u .nil (gd_ok I);exact⟨w,T,Q,rfl,rfl,O,Y,E.nx σ _ _ R3 q⟩⟩
theorem IT(h:isStar e=false)(h':isStar e2=false):((backTo cpos (starEach [e,e2] env)).all (λx=>!x.1)&&(backToKw cpos (keywordEach [] env)).all (λx=>x.1.isSome)
   && decide ([e,e2].length+([]:List Keyword).length+(if ([]:List Keyword).isEmpty then 0 else 1)<30))=true:=by
 rw[az h,az h'];rfl
theorem Ows.x6{b:Bs}(f:Fz b.K S H v d):∀(k:Nat) {vs:List V}{xs:List OD}{A:List Addr},Ows b S H vs xs A->Ows b S H (vs.take k++v::vs.drop k) (xs.take k++.fz d::xs.drop k) A
 |0,_,_,A,h=>.cons (A:=[]) (.fz f) h
 |_+1,_,_,_,.nil=>.cons (.fz f) .nil
 |k+1,_,_,_,.cons r t=>.cons r (Ows.x6 f k t)
theorem F3(hN:X.N[i]?=some x) (hv:Vis X.env.scope x) (hd:(x==("__debug__":Str))=false) (a0:(x==("__classdict__":Str))=false) (g:(apos.endLine==cpos.line)=true) (O:isStar kx=false) (f:isStar e=false):
  PDe X kx (aC C mk')->PDe X e (aC C ma)->PDs X W (.Expr (.Call (.Attribute (.Name x pos') "insert" apos) [kx,e] [] cpos) pos) (gA C (.ins i mk' ma))
 |⟨_,h0,s0⟩,⟨_,h,s⟩=>⟨_,gy (n9 acl PySem.F.slot_list_insert PySem.F.type_list_insert qR (bN hN hv hd a0) (aY h0 (aY h bB (az f)) (az O)) rfl (IT O f) g (az O) (cL (by simp[f]))) rfl,λb F σ H ρ τ θ Dd D hK n R ⟨y,h,q⟩ E=>by
  obtain⟨x0,a1,G,z,dk,e0,f0,e1,e2,e3,h⟩:=bn5 h;obtain⟨k,d,_,x1,xs,e4,e5,U,eb,f1,h⟩:=bn5 h;obtain⟨_,t,h⟩:=bnd h;cases h;have t:=gd_ok t;have U:=gd_ok U;rw[ck f0]at e0;rw[ck f1]at eb;rw[aP e4]at e3;obtain⟨v,Z,l0,M,rfl,Y⟩:=R.x2 e0;refine⟨.ref l0,Z,.inl ⟨rfl,M,SqL.of Y⟩,?_⟩;refine s0 b F σ H ρ τ θ (λr o=>r=G.1/\o=G.2) _ hK R ⟨G,e1,rfl,rfl⟩ λv0 H1 r a2 R1 T=>?_;obtain⟨B,J⟩:=T;subst B J;refine s b F σ H1 G.2 (v0::τ) (G.1::θ) (λr o=>r=z.1/\o=z.2) _ hK R1 ⟨z,e2,rfl,rfl⟩ λu H2 r a3 L T=>?_;obtain⟨B,J⟩:=T;subst B J;cases L.dt2 e3;have sc:Sc u d:=by have hh:=L.dt e5;cases hh<;>first|constructor|cases U
  obtain⟨v',I,w⟩:=Rel.open (us:=[]) (zs:=[]) L.drop.drop rfl eb;rw[Z]at I;cases I;obtain⟨l,Q,ch,hH,hl,go⟩:=w.ri (ks:=[]) rfl rfl;cases ch;have w3:=go (Q.take k.toNat++u::Q.drop k.toNat) (xs.take k.toNat++.fz d::xs.drop k.toNat) λS H A C nt B J nd=>⟨A,Ows.x6 sc.fz _ B,(aaD.mp nd).1,λc hc=>.inl hc⟩
  exact⟨l0,Q,k,u,rfl,rfl,hH,t.1,by rw[hl];exact t.2.1,by rw[hl];exact t.2.2,E.nx σ _ _ (Rel.close L.drop.drop Z w3) q⟩⟩
theorem F4(I:attributeBase e "append" X.env (eval e X.env)=eval e X.env) (f:(apos.endLine==cpos.line)=true) (k:isStar a=false):
  PDp X e i ps->PDq X a (iM C ma)->PDs X W (.Expr (.Call (.Attribute e "append" apos) [a] [] cpos) pos) (gA C (.apd i ps ma))
 |⟨_,h0,s0⟩,⟨_,h,s⟩=>⟨_,gy (n9 acl acH acI fL h0 (aY h bB (az k)) I (yl k) f (az k) (cL rfl)) rfl,λb F σ H ρ τ θ Dd D B n R ⟨y,h,q⟩ E=>by
  obtain⟨r,d,Y,_,A,e2,T,G,h⟩:=bn4 h;cases h;obtain⟨w,o⟩:=path_at A;refine s0 b F σ H ρ τ θ _ r B R A λv u z t=>?_;rw[ck T]at o t;obtain⟨S,g,rfl,l⟩:=R.cell w o z t;refine⟨.inl ⟨rfl,g,SqL.of l⟩,s b F σ H ρ τ θ _ d B R e2 λM Z Q J=>?_⟩;obtain⟨N,L,O,U⟩:=Rel.z4 J w o z (t.ext Q) (gd_ok G);exact⟨S,N,M,rfl,rfl,L,O,E.nx σ _ _ U q⟩⟩
theorem Rel.moved{b:Bs}{F:List Fr}(R:Rel b F σ H ρ τ θ)(e:ρ[j]?.join=some y):∃v,σ[j]?=some (some v)/\Rel b F σ H (ρ.set j none) (v::τ) (.val y::θ):=by
 obtain⟨v,f⟩:=R.wf.get (join_some e);have h:Rel b F σ H ρ (v::τ) (.rf j::θ):=⟨R.wf,⟨f,R.al⟩,R.wff,R.wd⟩
 obtain⟨_,_,w⟩:=R.slot (join_some e);rename_i g d;rw[f]at d;cases d;exact⟨v,f,⟨R.wf.off,R.al,R.wff,w⟩⟩
theorem F5(hN:X.N[i]?=some x) (hv:Vis X.env.scope x) (hd:(x==("__debug__":Str))=false) (I:(x==("__classdict__":Str))=false) (u:bT kx=false) (hs:swapsWith e (some (.Subscript (.Name x pos') kx p2)) pos.line X.env=pure false) (hw:swappedStores [.Subscript (.Name x pos') kx p2] e X.env=pure none):
  PDe X e (aC C ma)->PDe X kx (aC C mk')->PDs X W (.Assign [.Subscript (.Name x pos') kx p2] e pos) (gA C (.sti i mk' ma))
 |⟨_,g,s1⟩,⟨_,d,s2⟩=>⟨_,my g (AS (bN hN hv hd I) d set_list (CA u)) hs hw rfl,λb F σ H ρ τ θ Dd D Y n R ⟨y,h,q⟩ E=>by
  obtain⟨z,o,e1,e2,h⟩:=bn2 h;refine s1 b F σ H ρ τ θ (λr f=>r=z.1/\f=z.2) _ Y R ⟨z,e1,rfl,rfl⟩ λG H1 r a2 R1 L=>?_;obtain⟨g,d⟩:=L;subst g d;have U:=R1.own1 e2;obtain⟨x0,a1,t,dk,k,e0,f0,e3,Q,fk,h⟩:=bn5 h;obtain⟨x1,xs,J,Z,f1,O,h⟩:=bn3 h;rw[aP fk]at Q;rw[ck f1]at Z
  ·obtain⟨v,B⟩:=U.wf.get (join_some e0);refine⟨v,B,s2 b F σ H1 _ _ _ (λr f=>r=t.1/\f=t.2) _ Y U ⟨t,e3,rfl,rfl⟩ λv2 H2 r a0 M L=>?_⟩;obtain⟨g,d⟩:=L;subst g d
   ·cases h;have u:=M.dt Q;cases u;obtain⟨v',s,w⟩:=Rel.open (us:=[G]) (zs:=[o.1]) M.drop rfl Z;rw[B]at s;cases s;obtain⟨l,T,ch,hH,hl,go⟩:=w.ri (ks:=[]) rfl rfl;cases ch;refine⟨l,T,k,J,rfl,rfl,hH,by rw[hl];exact O,?_⟩;exact E.nx σ _ _ (Rel.close (Rel.rest (us:=[G]) (zs:=[o.1]) M.drop rfl) B (go (T.set J G) (xs.set J o.1) λS H A C nt g d nd=>Ows.setA (BU O) g d nd)) q⟩
theorem F6(hu:X.A.units+1<cLine) (hN:X.N[i]?=some x) (hv:Vis X.env.scope x) (hd:(x==("__debug__":Str))=false) (L:(x==("__classdict__":Str))=false) (hs:swapsWith e (some (.Subscript (.Name x pos') kx p2)) pos.line X.env=pure false):
  PDe X e (aC C ma)->PDe X kx (aC C mk')->PDs X W (.Assign [.Subscript (.Name x pos') kx p2] e pos) (gA C (.sdk i mk' ma))
 |⟨_,g,s1⟩,⟨_,d,s2⟩=>⟨_,xp hu (bN hN hv hd L) d g hs,λb F σ H ρ τ θ Dd D Y n R ⟨y,h,q⟩ E=>by
  obtain⟨z,o,e1,e2,h⟩:=bn2 h;refine s1 b F σ H ρ τ θ (λr f=>r=z.1/\f=z.2) _ Y R ⟨z,e1,rfl,rfl⟩ λJ H1 r a1 R1 M=>?_;obtain⟨g,d⟩:=M;subst g d;have U:=R1.frz1 e2;obtain⟨x0,_,t,kd,Z,e0,f0,e3,e4,e5,h⟩:=bn5 h;obtain⟨x1,uu,_,ex,f1,G,h⟩:=bn3 h;have G:=gd_ok G;rw[hX f1]at ex
  ·obtain⟨v,I⟩:=U.wf.get (join_some e0);refine⟨v,I,s2 b F σ H1 _ _ _ (λr f=>r=t.1/\f=t.2) _ Y U ⟨t,e3,rfl,rfl⟩ λv2 H2 r a0 B M=>?_⟩;obtain⟨g,d⟩:=M;subst g d
   ··cases h
     have hk:=B.dt e4;have O:v2=kV Z:=by cases kd<;>cases e5<;>cases hk<;>rfl
     subst O;obtain⟨v',u,w⟩:=Rel.open (us:=[J]) (zs:=[.fz o.1]) B.drop rfl ex;rw[I]at u;cases u;obtain⟨l,ws,ch,hH,s,T,Q⟩:=w.sk (ks:=[]) rfl rfl;cases ch;obtain⟨ks,xs⟩:=uu;simp only at s T q Q G;subst s;refine⟨l,_,rfl,DPut.k hH (aaC (by omega) (by decide:1000001<=sizeLine)),?_⟩;exact E.nx σ _ _ (Rel.close (Rel.rest (us:=[J]) (zs:=[.fz o.1]) B.drop rfl) I (Q (putK ws Z J) _ _ (oD T) λS H A C nt g d nd=>lq g d nd)) q⟩
theorem oE{K:Waa}{H:Hp}:∀{xs:List V}{ds:List PyData}{ns:List Int},DtAll K H xs ds->hU ds=some ns->xs=ns.map V.int
 |[],_,ns,.nil,e=>by cases e;rfl
 |_::_,_::_,ns,.cons h t,e=>by obtain⟨i,r,d,e2,e⟩:=bn2 e;cases e;rw[aP d]at h;cases h;rw[oE t e2];rfl
theorem CB{r:OR}{ds:List PyData}(h:Iq r=some ds):r=.val (.fz (.tuple ds)):=by
 unfold Iq at h;split at h
 ·cases h;rfl
 ·cases h
theorem F7{o1 o2:Expr}{p3:Pos}(f:(apos.endLine==cpos.line)=true)(l:isStar e=false):PDe X (.Subscript o1 o2 p3) (aC C mk')->PDe X e (aC C ma)->PDe X (.Call (.Attribute (.Subscript o1 o2 p3) "index" apos) [e] [] cpos) (aC C (.idx mk' ma))
 |⟨_,h1,s1⟩,⟨_,h2,s2⟩=>⟨_,n9 PySem.F.plainAttrs_tuple PySem.F.slot_tuple_index PySem.F.type_tuple_index rz h1 (aY h2 bB (az l)) rfl (yl l) f (az l) (cL rfl),λb F σ H ρ τ θ Qd Q k R ⟨y,h,q⟩ kk=>by
  obtain⟨x,I,z,d,n,N,e2,e3,G,U,h⟩:=bn5 h;obtain⟨L,j,e6,Z,h⟩:=bn2 h;cases h;refine s1 b F σ H ρ τ θ (λr g=>r=x.1/\g=x.2) _ k R ⟨x,N,rfl,rfl⟩ λv T r Y t B=>?_;obtain⟨o,w⟩:=B;subst o w;rw[CB e2]at t;have hd:=t.dt (d:=.tuple I) rfl;cases hd with
  |@tup a xs _ hq hall=>
   rw[k]at hq;refine⟨.inr (.inl ⟨rfl,_,hq⟩),?_⟩;refine s2 b F σ T _ _ _ (λr g=>r=z.1/\g=z.2) _ k t ⟨z,e3,rfl,rfl⟩ λu O r M D B=>?_;obtain⟨o,w⟩:=B;subst o w;rw[aP U]at G;have hu:=D.dt G;cases hu;have A:=D.drop.dt (d:=.tuple I) rfl;cases A with
   |@tup _ xs2 _ hq2 hall2=>
    rw[k]at hq2;rw[oE hall2 e6]at hq2;obtain⟨S,p1,p2⟩:=acJ.mp Z;refine⟨a,L,n,j,rfl,rfl,hq2,?_,λm J s=>?_,kk _ O _ _ (D.drop.drop.sc (.int j)) q⟩
    ·rw[aak S,Daa p1]
    ·obtain⟨hl,s⟩:=aan.mp s;exact p2 m J (Dac s)⟩
theorem F8(T:X.A.units+1<cLine) (hN:X.N[i]?=some x) (hv:Vis X.env.scope x) (hd:(x==("__debug__":Str))=false) (O:(x==("__classdict__":Str))=false) (l:(apos.endLine==cpos.line)=true) (Y:isStar e=false):PDe X e (aC C ma)->PDe X (.Call (.Attribute (.Name x pos') "get" apos) [e] [] cpos) (aC C (.dgt i ma))
 |⟨_,h,s⟩=>⟨_,sZ T (bN hN hv hd O) h ⟨rfl,yl Y,l,by rw[az Y];rfl⟩,λb F σ H ρ τ θ Qd Q hK R ⟨y,h,q⟩ kk=>by
  obtain⟨x0,q0,z,d,k,a0,a1,e1,e2,e3,h⟩:=bn5 h;obtain⟨x1,q1,w,L,e5,B,h⟩:=bn3 h;cases h;rw[hX a1]at a0;rw[hX e5]at L;obtain⟨v,J,w0⟩:=R.slot (join_some a0);obtain⟨ad,ws,ch,hH,_⟩:=Wd.sk (us:=[]) (zs:=[]) (ks:=[]) w0 rfl rfl;cases ch;refine⟨_,J,ad,rfl,.inl ⟨ws,.inl hH⟩,?_⟩;refine s b F σ H ρ τ θ (λr S=>r=z.1/\S=z.2) _ hK R ⟨z,e1,rfl,rfl⟩ λu H1 r a2 D hZ=>?_;obtain⟨g1,g2⟩:=hZ;subst g1 g2;obtain⟨v2,o,w2⟩:=D.slot (join_some L);rw[J]at o;cases o;obtain⟨a3,f,U,t,g,n,_⟩:=Wd.sk (us:=[]) (zs:=[]) (ks:=[]) w2 rfl rfl;cases U;have T:=D.dt e2;have M:u=kV k:=by cases d<;>cases e3<;>cases T<;>rfl
  subst M;refine⟨_,DGet.k t,?_⟩;unfold dgV at B;cases I:q1.1.findIdx? (λq=>decide (q=k)) with
  |none=>
   rw[I]at B;cases B;have hn:valV f k=none:=by have:=jU (k:=k) (ws:=f);rw[g,List.findIdx?_eq_none_iff.mp I |> λz=>(acm.mpr λa ha=>by rw[z a ha];decide)]at this;exact Option.isSome_eq_false_iff.mp this |> Option.isNone_iff_eq_none.mp
   rw[hn];exact kk _ H1 _ _ (D.drop.sc .non) q
  |some j=>
   rw[I]at B;obtain⟨zz,G,e8⟩:=bnd B;rw[eC e8]at G;have hj:j<f.length:=by rw[n];exact(aan.mp G).1
   have Z:(f[j]?).map (·.2)=some f[j].2:=by rw[aak hj];rfl
   rw[jR (by rw[g];exact I) Z];exact kk _ H1 _ _ (Rel.partZ D.drop (ks:=[j]) L (by show (match q1.2[j]? with|some z=>OD.at [] z|none=>none)=_;rw[G];rfl) J (.cons (.dic t g n Z G) .nil)) q⟩
end
end
section
section
variable{X:Cx}{C:Ct}{a e e2:Expr}{es:List Expr}{ma mb:E}{mes:Es}{pos p p1 p2 apos:Pos}{x:Str}{i j:Nat}{k n:Nat}{f:Addr}{fd:FuncData}{ps:List Str}{sp:DSp}{c m:Str}{ff:Nat}
def spC(g:List OD->Option (OD×List OD)):DSp:=λb Q=>∃w,g b=some w/\Q w.1 w.2
theorem uD(g:List OD->Option (OD×List OD)):xx (spC g):=λb P R h ⟨w,e,q⟩=>⟨w,e,h _ _ q⟩
end
end
section
def cC(e:PySem.Expr):Option (Str):=if h:e.ctorIdx=23 then some (@PySem.Expr.Name.elim (λ_=>Str) e h λx _=>x) else none
theorem asNm_ok{e:PySem.Expr}{z:Str}(h:cC e=some z):∃p,e=.Name z p:=by
 by_cases a:e.ctorIdx=23
 ·revert h;exact@PySem.Expr.Name.elim (λe=>cC e=some z->∃p,e=.Name z p) e a λx p h=>by cases h;exact⟨p,rfl⟩
 ·rw[cC,dif_neg a]at h;cases h
def ig(e:PySem.Expr):Option (Const):=if h:e.ctorIdx=19 then some (@PySem.Expr.Constant.elim (λ_=>Const) e h λc _ _=>c) else none
theorem eX{e:PySem.Expr}{z:Const}(h:ig e=some z):∃j p,e=.Constant z j p:=by
 by_cases a:e.ctorIdx=19
 ·revert h;exact@PySem.Expr.Constant.elim (λe=>ig e=some z->∃j p,e=.Constant z j p) e a λc j p h=>by cases h;exact⟨j,p,rfl⟩
 ·rw[ig,dif_neg a]at h;cases h
def oF(e:PySem.Expr):Option (Expr×Operator×Expr):=if h:e.ctorIdx=2 then some (@PySem.Expr.BinOp.elim (λ_=>Expr×Operator×Expr) e h λx o y _=>(x,o,y)) else none
theorem uE(h:oF e=some z):∃p,e=.BinOp z.1 z.2.1 z.2.2 p:=by
 by_cases a:e.ctorIdx=2
 ·revert h;exact@PySem.Expr.BinOp.elim (λe=>oF e=some z->∃p,e=.BinOp z.1 z.2.1 z.2.2 p) e a λx o y p h=>by cases h;exact⟨p,rfl⟩
 ·rw[oF,dif_neg a]at h;cases h
def lu(e:PySem.Expr):Option (Expr×List CmpOp×List Expr):=if h:e.ctorIdx=15 then some (@PySem.Expr.Compare.elim (λ_=>Expr×List CmpOp×List Expr) e h λx b a _=>(x,b,a)) else none
theorem asCmp_ok(h:lu e=some z):∃p,e=.Compare z.1 z.2.1 z.2.2 p:=by
 by_cases a:e.ctorIdx=15
 ·revert h;exact@PySem.Expr.Compare.elim (λe=>lu e=some z->∃p,e=.Compare z.1 z.2.1 z.2.2 p) e a λx c b p h=>by cases h;exact⟨p,rfl⟩
 ·rw[lu,dif_neg a]at h;cases h
def ym(e:PySem.Expr):Option (BoolOp×List Expr×Pos):=if h:e.ctorIdx=0 then some (@PySem.Expr.BoolOp.elim (λ_=>BoolOp×List Expr×Pos) e h λo a p=>(o,a,p)) else none
theorem yn(h:ym e=some z):e=.BoolOp z.1 z.2.1 z.2.2:=by
 by_cases a:e.ctorIdx=0
 ·revert h;exact@PySem.Expr.BoolOp.elim (λe=>ym e=some z->e=.BoolOp z.1 z.2.1 z.2.2) e a λo b p h=>by cases h;exact rfl
 ·rw[ym,dif_neg a]at h;cases h
def uF(e:PySem.Expr):Option (UnaryOp×Expr):=if h:e.ctorIdx=3 then some (@PySem.Expr.UnaryOp.elim (λ_=>UnaryOp×Expr) e h λo x _=>(o,x)) else none
theorem oG{e:PySem.Expr}{z:UnaryOp×Expr}(h:uF e=some z):∃p,e=.UnaryOp z.1 z.2 p:=by
 by_cases a:e.ctorIdx=3
 ·revert h;exact@PySem.Expr.UnaryOp.elim (λe=>uF e=some z->∃p,e=.UnaryOp z.1 z.2 p) e a λo x p h=>by cases h;exact⟨p,rfl⟩
 ·rw[uF,dif_neg a]at h;cases h
def uG(e:PySem.Expr):Option (Expr×Expr×Expr):=if h:e.ctorIdx=5 then some (@PySem.Expr.IfExp.elim (λ_=>Expr×Expr×Expr) e h λc a b _=>(c,a,b)) else none
theorem oH(h:uG e=some z):∃p,e=.IfExp z.1 z.2.1 z.2.2 p:=by
 by_cases d:e.ctorIdx=5
 ·revert h;exact@PySem.Expr.IfExp.elim (λe=>uG e=some z->∃p,e=.IfExp z.1 z.2.1 z.2.2 p) e d λc a b p h=>by cases h;exact⟨p,rfl⟩
 ·rw[uG,dif_neg d]at h;cases h
def cm(e:PySem.Expr):Option (List Expr):=if h:e.ctorIdx=25 then some (@PySem.Expr.Tuple.elim (λ_=>List Expr) e h λa _ _=>a) else none
theorem asTup_ok(h:cm e=some z):∃k p,e=.Tuple z k p:=by
 by_cases a:e.ctorIdx=25
 ·revert h;exact@PySem.Expr.Tuple.elim (λe=>cm e=some z->∃k p,e=.Tuple z k p) e a λb k p h=>by cases h;exact⟨k,p,rfl⟩
 ·rw[cm,dif_neg a]at h;cases h
def i8(e:PySem.Expr):Option (List Expr):=if h:e.ctorIdx=24 then some (@PySem.Expr.List.elim (λ_=>List Expr) e h λa _=>a) else none
theorem ij(h:i8 e=some z):∃p,e=.List z p:=by
 by_cases a:e.ctorIdx=24
 ·revert h;exact@PySem.Expr.List.elim (λe=>i8 e=some z->∃p,e=.List z p) e a λb p h=>by cases h;exact⟨p,rfl⟩
 ·rw[i8,dif_neg a]at h;cases h
def dE(e:PySem.Expr):Option (Expr×Expr):=if h:e.ctorIdx=21 then some (@PySem.Expr.Subscript.elim (λ_=>Expr×Expr) e h λx y _=>(x,y)) else none
theorem asSub_ok(h:dE e=some z):∃p,e=.Subscript z.1 z.2 p:=by
 by_cases a:e.ctorIdx=21
 ·revert h;exact@PySem.Expr.Subscript.elim (λe=>dE e=some z->∃p,e=.Subscript z.1 z.2 p) e a λx y p h=>by cases h;exact⟨p,rfl⟩
 ·rw[dE,dif_neg a]at h;cases h
def oI(e:PySem.Expr):Option (Option Expr×Option Expr×Option Expr):=if h:e.ctorIdx=26 then some (@PySem.Expr.Slice.elim (λ_=>Option Expr×Option Expr×Option Expr) e h λl a s _=>(l,a,s)) else none
theorem uH(h:oI e=some z):∃p,e=.Slice z.1 z.2.1 z.2.2 p:=by
 by_cases a:e.ctorIdx=26
 ·revert h;exact@PySem.Expr.Slice.elim (λe=>oI e=some z->∃p,e=.Slice z.1 z.2.1 z.2.2 p) e a λl b s p h=>by cases h;exact⟨p,rfl⟩
 ·rw[oI,dif_neg a]at h;cases h
def eE(e:PySem.Expr):Option (Expr×List Expr×List Keyword×Pos):=if h:e.ctorIdx=16 then some (@PySem.Expr.Call.elim (λ_=>Expr×List Expr×List Keyword×Pos) e h λf a b p=>(f,a,b,p)) else none
theorem dU(h:eE e=some z):e=.Call z.1 z.2.1 z.2.2.1 z.2.2.2:=by
 by_cases a:e.ctorIdx=16
 ·revert h;exact@PySem.Expr.Call.elim (λe=>eE e=some z->e=.Call z.1 z.2.1 z.2.2.1 z.2.2.2) e a λf b c p h=>by cases h;exact rfl
 ·rw[eE,dif_neg a]at h;cases h
def i9(e:PySem.Expr):Option (Expr×Str×Pos):=if h:e.ctorIdx=20 then some (@PySem.Expr.Attribute.elim (λ_=>Expr×Str×Pos) e h λo f p=>(o,f,p)) else none
theorem asAtt_ok(h:i9 e=some z):e=.Attribute z.1 z.2.1 z.2.2:=by
 by_cases a:e.ctorIdx=20
 ·revert h;exact@PySem.Expr.Attribute.elim (λe=>i9 e=some z->e=.Attribute z.1 z.2.1 z.2.2) e a λo f p h=>by cases h;exact rfl
 ·rw[i9,dif_neg a]at h;cases h
def oJ(e:PySem.Expr):Option (List (Option Expr)×List Expr):=if h:e.ctorIdx=6 then some (@PySem.Expr.Dict.elim (λ_=>List (Option Expr)×List Expr) e h λb a _=>(b,a)) else none
theorem uI{e:PySem.Expr}{z:List (Option Expr)×List Expr}(h:oJ e=some z):∃p,e=.Dict z.1 z.2 p:=by
 by_cases a:e.ctorIdx=6
 ·revert h;exact@PySem.Expr.Dict.elim (λe=>oJ e=some z->∃p,e=.Dict z.1 z.2 p) e a λc b p h=>by cases h;exact⟨p,rfl⟩
 ·rw[oJ,dif_neg a]at h;cases h
def m4(e:PySem.Expr):Option (Expr×List Comprehension×Scope×Pos):=if h:e.ctorIdx=8 then some (@PySem.Expr.ListComp.elim (λ_=>Expr×List Comprehension×Scope×Pos) e h λx a s p=>(x,a,s,p)) else none
theorem oK(h:m4 e=some z):e=.ListComp z.1 z.2.1 z.2.2.1 z.2.2.2:=by
 by_cases a:e.ctorIdx=8
 ·revert h;exact@PySem.Expr.ListComp.elim (λe=>m4 e=some z->e=.ListComp z.1 z.2.1 z.2.2.1 z.2.2.2) e a λx b s p h=>by cases h;exact rfl
 ·rw[m4,dif_neg a]at h;cases h
def IU:Const->Option Int|.int k=>some k|_=>none
def IV:Const->Option Str|.str k=>some k|_=>none
def IW:Const->Option Bool|.bool k=>some k|_=>none
def IX:Const->Bool|.none=>true|_=>false
def ja(e:Expr):Option Int:=(ig e).bind IU
def zW(e:Expr):Option Str:=(ig e).bind IV
def F9(e:Expr):Option Bool:=(ig e).bind IW
def uJ(e:Expr):Bool:=(ig e).any IX
def zX(e:Expr):Bool:=(oJ e).any λz=>z.1.isEmpty&&z.2.isEmpty
def isTup(e:Expr):Bool:=(cm e).isSome
theorem anyT{b:Type}{o:Option b}{p:b->Bool}(h:o.any p=true):∃a,o=some a/\p a=true:=by
 cases o with
 |none=>cases h
 |some a=>exact⟨a,rfl,h⟩
theorem ay2{α β:Type}{o:Option α}{g1:α->Option β}{f:α->β->Bool}(h:(o.any λa=>(g1 a).any (f a))=true):∃a b,o=some a/\g1 a=some b/\f a b=true:=by obtain⟨a,p0,h⟩:=anyT h;obtain⟨b,p1,h⟩:=anyT h;exact⟨a,b,p0,p1,h⟩
theorem ay3{α β γ:Type}{o:Option α}{g1:α->Option β}{g2:α->β->Option γ}{f:α->β->γ->Bool}(h:(o.any λa=>(g1 a).any λb=>(g2 a b).any (f a b))=true):∃a b c,o=some a/\g1 a=some b/\g2 a b=some c/\f a b c=true:=by obtain⟨a,p0,h⟩:=anyT h;obtain⟨b,p1,h⟩:=anyT h;obtain⟨c,p2,h⟩:=anyT h;exact⟨a,b,c,p0,p1,p2,h⟩
theorem ay4{α β γ δ:Type}{o:Option α}{g1:α->Option β}{g2:α->β->Option γ}{g3:α->β->γ->Option δ}{f:α->β->γ->δ->Bool}(h:(o.any λa=>(g1 a).any λb=>(g2 a b).any λc=>(g3 a b c).any (f a b c))=true):∃a b c d,o=some a/\g1 a=some b/\g2 a b=some c/\g3 a b c=some d/\f a b c d=true:=by obtain⟨a,p0,h⟩:=anyT h;obtain⟨b,p1,h⟩:=anyT h;obtain⟨c,p2,h⟩:=anyT h;obtain⟨d,p3,h⟩:=anyT h;exact⟨a,b,c,d,p0,p1,p2,p3,h⟩
theorem ay5{α β γ δ ε:Type}{o:Option α}{g1:α->Option β}{g2:α->β->Option γ}{g3:α->β->γ->Option δ}{g4:α->β->γ->δ->Option ε}{f:α->β->γ->δ->ε->Bool}(h:(o.any λa=>(g1 a).any λb=>(g2 a b).any λc=>(g3 a b c).any λd=>(g4 a b c d).any (f a b c d))=true):∃a b c d e,o=some a/\g1 a=some b/\g2 a b=some c/\g3 a b c=some d/\g4 a b c d=some e/\f a b c d e=true:=by obtain⟨a,p0,h⟩:=anyT h;obtain⟨b,p1,h⟩:=anyT h;obtain⟨c,p2,h⟩:=anyT h;obtain⟨d,p3,h⟩:=anyT h;obtain⟨e,p4,h⟩:=anyT h;exact⟨a,b,c,d,e,p0,p1,p2,p3,p4,h⟩
theorem an2{a b:Bool}(h:(a&&b)=true):a=true/\b=true:=abC.mp h
section
variable{e:Expr}
theorem asInt_ok{k:Int}(h:ja e=some k):∃j p,e=.Constant (.int k) j p:=by obtain⟨c,a,h⟩:=bnd h;obtain⟨j,p,rfl⟩:=eX a;cases c<;>cases h;exact⟨j,p,rfl⟩
theorem asStr_ok(h:zW e=some k):∃j p,e=.Constant (.str k) j p:=by obtain⟨c,a,h⟩:=bnd h;obtain⟨j,p,rfl⟩:=eX a;cases c<;>cases h;exact⟨j,p,rfl⟩
theorem asBl_ok(h:F9 e=some k):∃j p,e=.Constant (.bool k) j p:=by obtain⟨c,a,h⟩:=bnd h;obtain⟨j,p,rfl⟩:=eX a;cases c<;>cases h;exact⟨j,p,rfl⟩
theorem ik(h:uJ e=true):∃j p,e=.Constant .none j p:=by obtain⟨c,a,h⟩:=anyT h;obtain⟨j,p,rfl⟩:=eX a;cases c<;>cases h;exact⟨j,p,rfl⟩
theorem uK(h:zX e=true):∃p,e=.Dict [] [] p:=by obtain⟨z,c,h⟩:=anyT h;obtain⟨p,rfl⟩:=uI c;obtain⟨a,b⟩:=an2 h;rw[abh]at a b;exact⟨p,by rw[a,b]⟩
theorem eY(h:isTup e=true):∃xs k p,e=.Tuple xs k p:=by obtain⟨z,a⟩:=abk.mp h;obtain⟨k,p,rfl⟩:=asTup_ok a;exact⟨z,k,p,rfl⟩
end
theorem an3(h:(a&&b&&c)=true):a=true/\b=true/\c=true:=⟨(an2 (an2 h).1).1,(an2 (an2 h).1).2,(an2 h).2⟩
theorem an4(h:(a&&b&&c&&d)=true):a=true/\b=true/\c=true/\d=true:=⟨(an3 (an2 h).1).1,(an3 (an2 h).1).2.1,(an3 (an2 h).1).2.2,(an2 h).2⟩
theorem an5(h:(a&&b&&c&&d&&e)=true):a=true/\b=true/\c=true/\d=true/\e=true:=⟨(an4 (an2 h).1).1,(an4 (an2 h).1).2.1,(an4 (an2 h).1).2.2.1,(an4 (an2 h).1).2.2.2,(an2 h).2⟩
theorem bI(h:(!a)=true):a=false:=by cases a<;>first|rfl|cases h
def lx{a:Type}:List a->Option (a×List a)|x::xs=>some (x,xs)|_=>none
theorem con1_ok{a:Type}{l:List a}{x:a×List a}(h:lx l=some x):l=x.1::x.2:=by cases l<;>cases h;rfl
structure Tb where
 fn:Nat->Option Str
 me:Nat->Option (Str×Str)
 mk':Nat->Option Str
 gc:Nat->Option Str
 nog:Str->Bool
 fld:Str->Str->Bool
structure Cy (t:Tb)(C:Ct)(X:Cx):Prop where
 calm:X.calm=true
 units:X.A.units+64<cLine
 guards:X.A.guards=some []
 hfn:∀j nm,t.fn j=some nm->∃k fa fd ps,FnD X.prog X.w X.K X.mg X.base k fa fd ps (spC (C.call j))/\Room k X.A/\X.mg nm=some (.ref fa)/\PySem.W.keepIn X.K (.ref fa)=true/\Binds X.K fd ps []
 hme:∀j c m,t.me j=some (c,m)->Cls X.K (aU X.K c)/\∃k fa fd ps,Meth X.K (aU X.K c) m fa/\FnD X.prog X.w X.K X.mg X.base k fa fd ps (spC (C.call j))/\Room k X.A/\Binds X.K fd ps []
 hmk:∀j c,t.mk' j=some c->∃k fa fd ps,Mk X.K (aU X.K c) fa/\FnD X.prog X.w X.K X.mg X.base k fa fd ps (spC (C.mak j))/\Room (k+1) X.A/\X.mg c=some (.ref (aU X.K c))/\Binds X.K fd ps []
 hgc:∀g nm,t.gc g=some nm->∃v u,X.mg nm=some u/\RelV v u/\∀S H,Fz X.K S H v (C.gv g)
 hng:∀x,t.nog x=true->X.mg x=none
 hfl:∀c f,t.fld c f=true->Cls X.K (aU X.K c)/\mE X.K (aU X.K c) f
theorem Cy.comp(c:Cy t C X):Cy t C (dQ X N sc q):=⟨c.calm,c.units,c.guards,c.hfn,c.hme,c.hmk,c.hgc,c.hng,c.hfl⟩
def sEq(x y:Str):Bool:=decide (x=y)
theorem cD(h:sEq x y=true):x=y:=Daa h
def kindB(sc:Scope)(x:Str)(k:NameKind):Bool:=decide (sc.names.lookup x=some k)
theorem aI(h:kindB sc x k=true):sc.names.lookup x=some k:=Daa h
def CD(sc:Scope)(x:Str):Bool:=kindB sc x .local||kindB sc x .cell||kindB sc x .free
def yo(sc:Scope)(x:Str):Bool:=kindB sc x .local||kindB sc x .cell
theorem yp(h:CD sc x=true):Vis sc x:=by
 unfold CD at h;rw[abD,abD]at h;rcases h with (h|h)|h
 ·exact .inl (aI h)
 ·exact .inr (.inl (aI h))
 ·exact .inr (.inr (aI h))
theorem oM(h:yo sc x=true):Loc sc x:=by
 unfold yo at h;rw[abD]at h;rcases h with h|h
 ·exact .inl (aI h)
 ·exact .inr (aI h)
def okN(x:Str):Bool:=!(x==("__debug__":Str))&&!(x==("__classdict__":Str))
def wR(N:List Str)(sc:Scope)(i:Nat)(x:Str):Bool:=decide (N[i]?=some x)&&CD sc x&&okN x
structure NmX (X:Cx)(i:Nat)(x:Str):Prop where
 n:X.N[i]?=some x
 v:Vis X.env.scope x
 d:(x==("__debug__":Str))=false
 c:(x==("__classdict__":Str))=false
theorem bR(h:wR X.N X.env.scope i x=true):NmX X i x:=by unfold wR okN at h;simp only[aaF,abW]at h;exact⟨Daa h.1.1,yp h.1.2,h.2.1,h.2.2⟩
def uL(N:List Str)(sc:Scope)(i:Nat)(e:Expr):Bool:=(cC e).any λx=>wR N sc i x
theorem eF{N:List Str}(h:uL N sc i e=true):∃x p,e=.Name x p/\wR N sc i x=true:=by obtain⟨x,a,h⟩:=anyT h;obtain⟨p,rfl⟩:=asNm_ok a;exact⟨x,p,rfl,h⟩
def DW(sc:Scope)(x:Str):Bool:=kindB sc x .globalImplicit&&!(x==("__debug__":Str))
theorem fW(h:DW X.env.scope x=true):Gl X x/\(x==("__debug__":Str))=false:=by unfold DW at h;rw[aaF]at h;exact⟨aI h.1,by simpa using h.2⟩
def DX(t:Tb)(sc:Scope)(x y:Str):Bool:=sEq x y&&DW sc x&&t.nog x
theorem dF(c:Cy t C X)(h:DX t X.env.scope x y=true):x=y/\Gl X y/\X.mg y=none:=by unfold DX at h;simp only[aaF]at h;obtain⟨⟨b,a⟩,d⟩:=h;have:=cD b;subst this;exact⟨rfl,(fW a).1,c.hng _ d⟩
def IY(o:Bo)(a:Operator):Bool:=decide (a=opOf o)
theorem uM(h:IY o op=true):op=opOf o:=Daa h
def Ga(o:Co)(a:CmpOp):Bool:=decide (a=coOf o)
theorem fX(h:Ga o op=true):op=coOf o:=Daa h
def isSet:Expr->Bool
 |.Set _ _ _=>true
 |_=>false
theorem dG(a:CmpOp)(h:isSet e=false):behindInMarks a e=false:=by cases e<;>first|rfl|cases h
theorem jV(h:isSet e=false):∀x,foldedSetIterable e env x=pure x:=by cases e<;>first|(intro _;rfl)|cases h
def isCall:Expr->Bool
 |.Call _ _ _ _=>true
 |_=>false
theorem yq(h:isCall e=false):attributeBase e f env (eval e env)=eval e env:=by cases e<;>first|rfl|cases h
def CF:UnaryOp->Bool|.USub=>true|_=>false
theorem oN{o:UnaryOp}(h:CF o=true):o=.USub:=by cases o<;>first|rfl|cases h
def JL(k:Int)(e:Expr):Bool:=((ja e).any λj=>decide (j=k))||(uF e).any λz=>CF z.1&&(ja z.2).any λj=>decide (-j=k)
section
variable{X:Cx}{k:Int}{e:Expr}
theorem Gb{j:Nat}{p a:Pos}:PX X (.UnaryOp .USub (.Constant (.int k) j p) a) (λ_=>some (.int (-k))):=⟨_,zH sA gK,λb H Q v e q=>by cases e;exact⟨k,rfl,q⟩⟩
theorem uN(h:JL k e=true):PX X e (λ_=>some (.int k))/\bT e=false:=by
 rcases Bool.or_eq_true_iff.mp h with h|h
 ·obtain⟨j,a,h⟩:=anyT h;obtain⟨_,_,rfl⟩:=asInt_ok a;have:=Daa h;subst this;exact⟨FR,rfl⟩
 ·obtain⟨z,a,h⟩:=anyT h;obtain⟨p,rfl⟩:=oG a;obtain⟨j,b,c⟩:=anyT (an2 h).2;obtain⟨_,_,d⟩:=asInt_ok b;have:=Daa c;subst this;rw[oN (an2 h).1,d];exact⟨Gb,rfl⟩
end
def cX(t:Tb)(N:List Str)(sc:Scope)(i:Nat):List Acc->Expr->Bool
 |[]=>λe=>uL N sc i e
 |.ix k::ps=>λe=>(dE e).any λz=>JL k z.2&&cX t N sc i ps z.1
 |.key j::ps=>λe=>(dE e).any λz=>uL N sc j z.2&&cX t N sc i ps z.1
section
variable{t:Tb}{C:Ct}{X:Cx}{i j:Nat}{e:Expr}
theorem zY(h:uL X.N X.env.scope j e=true):PX X e (λσ=>σ[j]?.join)/\bT e=false:=by obtain⟨x,p,rfl,h⟩:=eF h;obtain⟨c,b,d,a⟩:=bR h;exact⟨IH c b d a,rfl⟩
theorem IZ(h:bT e=false):NoSl e:=by cases e<;>first|exact λ_ _=>rfl|cases h
theorem bA(c:Cy t C X):∀(ps:List Acc) (e:Expr),cX t X.N X.env.scope i ps e=true->PDp X e i ps
 |[],e,h=>by obtain⟨x,p,rfl,h⟩:=eF h;obtain⟨b,g,l,f⟩:=bR h;exact II b g l f
 |.ix k::ps,e,h=>by obtain⟨z,b,k⟩:=anyT h;obtain⟨a,d⟩:=an2 k;obtain⟨p,rfl⟩:=asSub_ok b;exact IJ (jP (uN (X:=X) a).2) (bA c ps _ d) (uN a).1
 |.key j::ps,e,h=>by obtain⟨z,b,k⟩:=anyT h;obtain⟨a,d⟩:=an2 k;obtain⟨p,rfl⟩:=asSub_ok b;exact FT (by have:=c.units;omega) (IZ (zY a).2) (bA c ps _ d) (zY a).1
end
def iT(a:Nat->Bool)(N:List Str)(sc:Scope)(fn:Bool)(m i:Nat)(x:Str):Bool:=decide (N[i]?=some x)&&yo sc x&&(fn||kindB sc x .local)&&decide (i<m)&&a i
def uO(a:Nat->Bool)(N:List Str)(sc:Scope)(fn:Bool)(m:Nat):List Nat->List Expr->Bool
 |[]=>λes=>es.isEmpty
 |i::is=>λes=>(lx es).any λz=>(cC z.1).any λx=>iT a N sc fn m i x&&uO a N sc fn m is z.2
def uP(a:Nat->Bool)(N:List Str)(sc:Scope)(fn:Bool)(m:Nat):Tg->Expr->Bool
 |.nm i=>λe=>(cC e).any λx=>iT a N sc fn m i x
 |.tp ts=>λe=>(cm e).any λes=>uO a N sc fn m ts es
section
variable{X:Cx}{W:Nat->Prop}{ok:Nat->Bool}{fn:Bool}{m:Nat}
theorem cA{i:Nat}{x:Str}(f:fn=true->∀x,X.fn x=true)(b:∀i,ok i=true->¬ W i)(h:iT ok X.N X.env.scope fn m i x=true):Sto X W m i x:=by unfold iT at h;simp only[aaF,abD]at h;obtain⟨⟨⟨⟨d,c⟩,e⟩,a⟩,g⟩:=h;exact⟨Daa d,oM c,e.imp (λz=>f z x) aI,Daa a,b i g⟩
theorem ly(b:fn=true->∀x,X.fn x=true)(a:∀i,ok i=true->¬ W i):∀(ts:List Nat) (es:List Expr),uO ok X.N X.env.scope fn m ts es=true->Stos X W m ts es
 |[],es,h=>by
  cases es with
  |nil=>exact .nil
  |cons _ _=>cases h
 |i::is,es,h=>by obtain⟨z,x,d,c,k⟩:=ay2 h;obtain⟨p,e⟩:=asNm_ok c;rw[con1_ok d,e];exact .cons (cA b a (an2 k).1) (ly b a is _ (an2 k).2)
theorem eZ{a:Tg}{e:Expr}(g:X.calm=true)(d:X.N.Nodup)(f:fn=true->∀x,X.fn x=true)(c:∀i,ok i=true->¬ W i)(h:uP ok X.N X.env.scope fn m a e=true):PDg X W m e (iR a):=by
 cases a with
 |nm i=>obtain⟨x,b,k⟩:=anyT h;obtain⟨p,rfl⟩:=asNm_ok b;exact IC d (cA f c k)
 |tp l=>obtain⟨j,b,k⟩:=anyT h;obtain⟨_,_,rfl⟩:=asTup_ok b;exact ID g d (ly f c _ _ k)
end
def rC(sc a:Scope):Scope:={ sc with names:=sc.names.map λ(n,k)=>if (k==NameKind.free&&a.kind==.function&&a.names.lookup n==some .cell) then (n,NameKind.cell) else (n,k) }
def CG:Expr->List Str
 |.Name x _=>[x]
 |.Tuple [.Name x _,.Tuple es _ _] _ _=>x::es.filterMap fun|.Name x _=>some x|_=>none
 |.Tuple es _ _=>es.filterMap fun|.Name x _=>some x|_=>none
 |_=>[]
def uQ(N:List Str)(nt:Nat)(b:List Str)(sc a:Scope):Nat->List Nat->Bool
 |_,[]=>true
 |i,j::fr=>(match N[nt+i]? with
  |some x=>decide (b[j]?=some x)&&kindB a x .cell&&kindB sc x .free
  |none=>false)&&uQ N nt b sc a (i+1) fr
def oO(N:List Str)(nt:Nat)(fr:List Nat)(b:List Str)(sc a:Scope):Bool:=
 decide (sc.kind=.function)&&sc.names.all (λx=>!decide (x.2=.cell))&&sc.names.all (λx=>!decide (x.2=.local)||kindB sc x.1 .local)&&decide (N.length=nt+fr.length)&&uQ N nt b sc a 0 fr &&
  sc.names.all (λx=>!decide (x.2=.free)||(kindB a x.1 .cell&&kindB sc x.1 .free))
theorem oP:∀{fr:List Nat}{a:Nat},uQ N nt ON sc osc a fr=true->∀(i j:Nat),fr[i]?=some j->∃x,N[nt+(a+i)]?=some x/\ON[j]?=some x/\osc.names.lookup x=some .cell/\sc.names.lookup x=some .free
 |[],_,_,i,j,e=>by simp at e
 |j0::fr,a,h,0,j,e=>by
  simp at e;subst e;simp only[uQ,aaF]at h;obtain⟨h,_⟩:=h;split at h
  ·rename_i x d;simp only[aaF]at h;exact⟨x,d,Daa h.1.1,aI h.1.2,aI h.2⟩
  ·cases h
 |j0::fr,a,h,i+1,j,e=>by simp only[uQ,aaF]at h;obtain⟨x,c,b⟩:=oP h.2 i j (by simpa using e);exact⟨x,by rw[show a+(i+1)=a+1+i by omega];exact c,b⟩
theorem ip(h:oO N nt fr ON sc osc=true):CompScope N nt fr ON sc osc:=by
 unfold oO at h;simp only[aaF,abq,abD,abW,decide_eq_false_iff_not,decide_eq_true_eq]at h;obtain⟨⟨⟨⟨⟨f,d⟩,g⟩,c⟩,k⟩,b⟩:=h;refine⟨f,λx a=>d x a,λx a e=>?_,c,λi j e=>?_,λx a e=>?_,λx a e=>?_⟩
 ·exact(g x a).elim (λz=>absurd e z) aI
 ·have:=oP k i j e;rwa [aaZ]at this
 ·exact(b x a).elim (λz=>absurd e z) λz=>aI z.1
 ·exact(b x a).elim (λz=>absurd e z) λz=>aI z.2
end
section
abbrev Ck:=List Str->Scope->Expr->Bool
def fY(f:Ck):Ck×Ck:=(f,λN a e=>plainT e&&f N a e)
def Kw:Bn->Str
 |.tuple=>"tuple" |.sorted=>"sorted"
def yr(e:Expr):Option (Str×List Expr):=(eE e).bind λz=>(cC z.1).bind λx=>if z.2.2.1.isEmpty then some (x,z.2.1) else none
theorem jW{z}(h:yr e=some z):∃p a,e=.Call (.Name z.1 p) z.2 [] a:=by
 obtain⟨c,x,g,b,h⟩:=bn2 h;obtain⟨f,i,d,a⟩:=c;cases d with
 |cons _ _=>cases h
 |nil=>cases h;obtain⟨p,rfl⟩:=asNm_ok b;exact⟨p,a,dU g⟩
def yt(e:Expr):Option (Expr×CmpOp×Expr):=(lu e).bind λz=>(dX z.2.1).bind λo=>(dX z.2.2).bind λy=>some (z.1,o,y)
theorem gC{z}(h:yt e=some z):∃p,e=.Compare z.1 [z.2.1] [z.2.2] p:=by obtain⟨c,o,y,f,d,g,h⟩:=bn3 h;cases h;obtain⟨x,j,i⟩:=c;obtain⟨p,rfl⟩:=asCmp_ok f;have a:=one1_ok d;have b:=one1_ok g;simp only at a b;subst a b;exact⟨p,rfl⟩
def cmp2(e:Expr):Option (Expr×(CmpOp×CmpOp)×(Expr×Expr)):=(lu e).bind λz=>(gw z.2.1).bind λo=>(gw z.2.2).bind λy=>some (z.1,o,y)
theorem oQ{z}(h:cmp2 e=some z):∃p,e=.Compare z.1 [z.2.1.1,z.2.1.2] [z.2.2.1,z.2.2.2] p:=by obtain⟨c,o,y,f,d,g,h⟩:=bn3 h;cases h;obtain⟨x,j,i⟩:=c;obtain⟨p,rfl⟩:=asCmp_ok f;have a:=two2_ok d;have b:=two2_ok g;simp only at a b;subst a b;exact⟨p,rfl⟩
def Gc(neg:Bool):CmpOp->Bool
 |.Is=>!neg|.IsNot=>neg|_=>false
theorem oR(h:Gc neg o=true):o=if neg then .IsNot else .Is:=by cases o<;>cases neg<;>first|rfl|cases h
def CH:BoolOp->Bool|.And=>true|_=>false
theorem oS(h:CH o=true):o=.And:=by cases o<;>first|rfl|cases h
def I0:BoolOp->Bool|.Or=>true|_=>false
theorem uR(h:I0 o=true):o=.Or:=by cases o<;>first|rfl|cases h
def CI:UnaryOp->Bool|.Not=>true|_=>false
theorem oT(h:CI o=true):o=.Not:=by cases o<;>first|rfl|cases h
def CJ:Operator->Bool|.Add=>true|_=>false
theorem oU(h:CJ o=true):o=.Add:=by cases o<;>first|rfl|cases h
def Ge:Operator->Bool|.Mult=>true|_=>false
theorem yu(h:Ge o=true):o=.Mult:=by cases o<;>first|rfl|cases h
def zZ(e:Expr):Option (Expr×Option Expr×Option Expr):=(dE e).bind λz=>(oI z.2).bind λs=>if s.2.2.isNone then some (z.1,s.1,s.2.1) else none
theorem uS{z}(h:zZ e=some z):∃p a,e=.Subscript z.1 (.Slice z.2.1 z.2.2 none p) a:=by
 obtain⟨c,s,g,d,h⟩:=bn2 h;obtain⟨x,y⟩:=c;obtain⟨l,i,f⟩:=s;cases f with
 |some _=>cases h
 |none=>cases h;obtain⟨a,rfl⟩:=asSub_ok g;obtain⟨p,b⟩:=uH d;simp only at b;subst b;exact⟨p,a,rfl⟩
def Gf(e:Expr):Option (Expr×Str×List Expr×Pos×Pos):=(eE e).bind λz=>(i9 z.1).bind λa=>(dE a.1).bind λx=>if z.2.2.1.isEmpty then some (a.1,a.2.1,z.2.1,a.2.2,z.2.2.2) else none
theorem yv{e:Expr}{z}(h:Gf e=some z):∃o1 o2 p,z.1=.Subscript o1 o2 p/\e=.Call (.Attribute z.1 z.2.1 z.2.2.2.1) z.2.2.1 [] z.2.2.2.2:=by
 obtain⟨c,a,x,l,i,k,h⟩:=bn3 h;obtain⟨f,n,j,r⟩:=c;obtain⟨o,m,q⟩:=a;cases j with
 |cons _ _=>cases h
 |nil=>cases h;obtain⟨p,g⟩:=asSub_ok k;have d:=asAtt_ok i;have b:=dU l;simp only at b d g;exact⟨_,_,p,g,by rw[b,d]⟩
def CK(e:Expr):Option (Str×Str×List Expr×Pos×Pos):=(eE e).bind λz=>(i9 z.1).bind λa=>(cC a.1).bind λx=>if z.2.2.1.isEmpty then some (x,a.2.1,z.2.1,a.2.2,z.2.2.2) else none
theorem oV{z}(h:CK e=some z):∃p,e=.Call (.Attribute (.Name z.1 p) z.2.1 z.2.2.2.1) z.2.2.1 [] z.2.2.2.2:=by
 obtain⟨c,a,x,j,g,k,h⟩:=bn3 h;obtain⟨f,q,i,n⟩:=c;obtain⟨o,m,l⟩:=a;cases i with
 |cons _ _=>cases h
 |nil=>cases h;obtain⟨p,d⟩:=asNm_ok k;have b:=asAtt_ok g;simp only at b d;subst d;subst b;exact⟨p,dU j⟩
def yw(e:PySem.Expr):Option (Expr×Expr×List Comprehension×Scope×Pos):=if h:e.ctorIdx=10 then some (@PySem.Expr.DictComp.elim (λ_=>Expr×Expr×List Comprehension×Scope×Pos) e h λk x a s p=>(k,x,a,s,p)) else none
theorem yx(h:yw e=some z):e=.DictComp z.1 z.2.1 z.2.2.1 z.2.2.2.1 z.2.2.2.2:=by
 by_cases a:e.ctorIdx=10
 ·revert h;exact@PySem.Expr.DictComp.elim (λe=>yw e=some z->e=.DictComp z.1 z.2.1 z.2.2.1 z.2.2.2.1 z.2.2.2.2) e a λk x b s p h=>by cases h;exact rfl
 ·rw[yw,dif_neg a]at h;cases h
def z5(e:Expr):Option (Expr×Expr×Expr×Expr×List Expr×Scope×Pos):=(yw e).bind λz=>(dX z.2.2.1).bind λg=>if g.is_async=0 then some (z.1,z.2.1,g.target,g.iter,g.ifs,z.2.2.2.1,z.2.2.2.2) else none
theorem uT{z}(h:z5 e=some z):e=.DictComp z.1 z.2.1 [⟨z.2.2.1,z.2.2.2.1,z.2.2.2.2.1,0⟩] z.2.2.2.2.2.1 z.2.2.2.2.2.2:=by
 obtain⟨c,g,i,f,h⟩:=bn2 h;obtain⟨k,x,o,m,p⟩:=c;obtain⟨j,n,l,d⟩:=g;simp only at h;by_cases b:d=0
 ·subst b;rw[if_pos rfl]at h;cases h;have a:=one1_ok f;simp only at a;rw[yx i,a]
 ·rw[if_neg b]at h;cases h
def z6(e:Expr):Option (Expr×Expr×Expr×List Expr×Scope×Pos):=(m4 e).bind λz=>(dX z.2.1).bind λg=>if g.is_async=0 then some (z.1,g.target,g.iter,g.ifs,z.2.2.1,z.2.2.2) else none
theorem lz{z}(h:z6 e=some z):e=.ListComp z.1 [⟨z.2.1,z.2.2.1,z.2.2.2.1,0⟩] z.2.2.2.2.1 z.2.2.2.2.2:=by
 obtain⟨c,g,i,f,h⟩:=bn2 h;obtain⟨x,n,l,p⟩:=c;obtain⟨j,m,k,d⟩:=g;simp only at h;by_cases b:d=0
 ·subst b;rw[if_pos rfl]at h;cases h;have a:=one1_ok f;simp only at a;subst a;exact oK i
 ·rw[if_neg b]at h;cases h
end
section
section
variable(t:Tb)
def iq(o:Co)(f g:Ck):Ck:=λN a e=>(yt e).any λz=>Ga o z.2.1&&!isSet z.2.2&&f N a z.1&&g N a z.2.2
def uU(o b:Co)(f g k:Ck):Ck:=λN a e=>(cmp2 e).any λz=>Ga o z.2.1.1&&Ga b z.2.1.2&&!isSet z.2.2.2&&(f N a z.1&&g N a z.2.2.1&&k N a z.2.2.2)
def z7(neg:Bool)(f:Ck):Ck:=λN a e=>(yt e).any λz=>Gc neg z.2.1&&uJ z.2.2&&f N a z.1
def uV(b:BoolOp->Bool)(f g:Ck):Ck:=λN a e=>(ym e).any λz=>b z.1&&((lx z.2.1).any λx=>(lx x.2).any λy=>f N a x.1&&bif y.2.isEmpty then g N a y.1 else g N a (.BoolOp z.1 x.2 z.2.2))
def yy(b:UnaryOp->Bool)(f:Ck):Ck:=λN a e=>(uF e).any λz=>b z.1&&f N a z.2
def oW(b:Operator->Bool)(f g:Ck):Ck:=λN a e=>(oF e).any λz=>b z.2.1&&f N a z.1&&g N a z.2.2
def m5(p:Str->Bool)(f:List Str->Scope->List Expr->Bool):Ck:=λN a e=>(yr e).any λz=>p z.1&&DW a z.1&&!z.2.isEmpty&&!z.2.any isStar&&f N a z.2
def eG(p:Str)(f:Ck):Ck:=λN a e=>(yr e).any λz=>(dX z.2).any λx=>DX t a z.1 p&&!isStar x&&f N a x
def m6(p:Str)(f g:Ck):Ck:=λN a e=>(yr e).any λz=>(gw z.2).any λx=>DX t a z.1 p&&!isStar x.1&&!isStar x.2&&f N a x.1&&g N a x.2
def uW(i:Nat):Ck:=λN a e=>(yt e).any λz=>Ga .ne z.2.1&&uL N a i z.1&&(i8 z.2.2).any λl=>l.isEmpty
mutual
def aR:E->Ck×Ck
 |.nm i=>fY λN sc e=>uL N sc i e
 |.int k=>fY λN sc e=>(ja e).any λj=>decide (j=k)
 |.str k=>fY λN sc e=>(zW e).any λj=>sEq j k
 |.bl k=>fY λN sc e=>(F9 e).any λj=>decide (j=k)
 |.non=>fY λN sc e=>uJ e
 |.gc g=>fY λN sc e=>(cC e).any λx=>decide (t.gc g=some x)&&DW sc x
 |.bop o a b=>fY (oW (IY o) (aR a).1 (aR b).1)
 |.cat a b=>fY (oW CJ (aR a).1 (aR b).1)
 |.rep a b=>fY (oW Ge (aR a).1 (aR b).1)
 |.cmp o a b=>(iq o (aR a).1 (aR b).1,iq o (aR a).1 (aR b).1)
 |.cmp2 o o' a b c=>(uU o o' (aR a).1 (aR b).1 (aR c).1,uU o o' (aR a).1 (aR b).1 (aR c).1)
 |.isn neg a=>(z7 neg (aR a).1,z7 neg (aR a).1)
 |.and a b=>(uV CH (aR a).1 (aR b).1,uV CH (aR a).2 (aR b).2)
 |.or a b=>(uV I0 (aR a).1 (aR b).1,uV I0 (aR a).2 (aR b).2)
 |.not a=>(yy CI (aR a).1,yy CI (aR a).2)
 |.neg a=>fY (yy CF (aR a).1)
 |.ife c a b=>fY λN sc e=>(uG e).any λz=>(aR c).2 N sc z.1&&(aR a).1 N sc z.2.1&&(aR b).1 N sc z.2.2
 |.tup es=>fY λN sc e=>(cm e).any λxs=>jX es N sc xs
 |.lst es=>fY λN sc e=>(i8 e).any λxs=>jX es N sc xs
 |.ix a b=>fY λN sc e=>(dE e).any λz=>!bT z.2&&(aR a).1 N sc z.1&&(aR b).1 N sc z.2
 |.sll a lo hi=>fY λN sc e=>(zZ e).any λz=>(aR a).1 N sc z.1&&CL lo N sc z.2.1&&CL hi N sc z.2.2
 |.call f es=>fY (m5 (λx=>decide (t.fn f=some x)) (jX es))
 |.blt f es=>fY (m5 (λx=>sEq x (Cm f)&&t.nog x) (jX es))
 |.bnw f a=>fY (eG t (Kw f) (aR a).1)
 |.idx a b=>fY λN sc e=>(Gf e).any λz=>(dX z.2.2.1).any λy=>sEq z.2.1 "index" && (z.2.2.2.1.endLine==z.2.2.2.2.line)&&!isStar y&&(aR a).1 N sc z.1&&(aR b).1 N sc y
 |.dgt i b=>fY λN sc e=>(CK e).any λz=>(dX z.2.2.1).any λy=>sEq z.2.1 "get" && wR N sc i z.1&&(z.2.2.2.1.endLine==z.2.2.2.2.line)&&!isStar y&&(aR b).1 N sc y
 |.sdd i=>fY (eG t "sorted" λN sc e=>uL N sc i e)
 |.ln i=>fY (eG t "len" λN sc e=>uL N sc i e)
 |.nen i=>(uW i,uW i)
 |.frz a=>fY (aR a).1
 |.dnew=>fY λN sc e=>zX e
 |.pg i ps=>fY λN sc e=>cX t N sc i ps e
 |.pl i ps=>fY (eG t "len" λN sc e=>cX t N sc i ps e)
 |.pin neg a i ps=>(iq (if neg then .nin else .inn) (aR a).1 λN sc e=>cX t N sc i ps e,iq (if neg then .nin else .inn) (aR a).1 λN sc e=>cX t N sc i ps e)
 |.din neg a i ps=>(iq (if neg then .nin else .inn) (aR a).1 λN sc e=>cX t N sc i ps e,iq (if neg then .nin else .inn) (aR a).1 λN sc e=>cX t N sc i ps e)
 |.comp nt fr it tg ifs elt=>fY λN sc e=>(z6 e).any λz=>(λd=>oO d nt fr N z.2.2.2.2.1 sc&&decide d.Nodup&&!isSet z.2.2.1&&yz it N sc z.2.1 z.2.2.1&&(uP (λ_=>true) d (rC z.2.2.2.2.1 sc) false nt tg z.2.1&&Gg ifs d (rC z.2.2.2.2.1 sc) z.2.2.2.1&&(aR elt).1 d (rC z.2.2.2.2.1 sc) z.1)) (CG z.2.1++fr.filterMap λj=>N[j]?)
def jX:Es->List Str->Scope->List Expr->Bool
 |.nil=>λN sc xs=>xs.isEmpty
 |.cons a es=>λN sc xs=>(lx xs).any λz=>!isStar z.1&&(aR a).1 N sc z.1&&jX es N sc z.2
def CL:Eo->List Str->Scope->Option Expr->Bool
 |.none=>λN sc o=>o.isNone
 |.some a=>λN sc o=>o.any λx=>(aR a).1 N sc x
def Gg:Eo->List Str->Scope->List Expr->Bool
 |.none=>λN sc o=>o.isEmpty
 |.some a=>λN sc o=>(dX o).any λx=>(aR a).2 N sc x
def yz:It'->List Str->Scope->Expr->Expr->Bool
 |.seq a=>λN sc g e=>(aR a).1 N sc e
 |.rg1 a=>λN sc g e=>eG t "range" (aR a).1 N sc e
 |.rg2 a b=>λN sc g e=>m6 t "range" (aR a).1 (aR b).1 N sc e
 |.enm a=>λN sc g e=>isTup g&&eG t "enumerate" (aR a).1 N sc e
 |.zip a b=>λN sc g e=>isTup g&&m6 t "zip" (aR a).1 (aR b).1 N sc e
end
end
def yA:Expr->Bool
 |.BoolOp _ _ _=>true
 |_=>false
structure EOk (t:Tb)(C:Ct)(m:E):Prop where
 v:∀X e,Cy t C X->(aR t m).1 X.N X.env.scope e=true->PDe X e (aC C m)
 w:∀X e,Cy t C X->yA e=true->(aR t m).2 X.N X.env.scope e=true->PDw X e (fT C m)
 t:∀X e,Cy t C X->(aR t m).2 X.N X.env.scope e=true->PDt X e (fT C m)
section
variable{t:Tb}{C:Ct}{X:Cx}{e:Expr}
theorem oX(h:yA e=true):∃o xs p,e=.BoolOp o xs p:=by cases e<;>first|exact⟨_,_,_,rfl⟩|cases h
theorem aG{m:E}(a:(aR t m).2=λN sc e=>plainT e&&(aR t m).1 N sc e)(b:aM C m=(vt (ev C m)).2)(hv:∀X e,Cy t C X->(aR t m).1 X.N X.env.scope e=true->PDe X e (aC C m)):EOk t C m:=
 ⟨hv,λX e c d h=>by
  rw[a]at h;obtain⟨o,f,p,rfl⟩:=oX d;exact absurd h aaf,
  λX e c h=>by
  rw[a]at h;exact Ft b (an2 h).1 (hv X e c (an2 h).2)⟩
theorem eI{m:E}(a:∀(X:Cx) e,yA e=true->(aR t m).2 X.N X.env.scope e=false)(hv:∀X e,Cy t C X->(aR t m).1 X.N X.env.scope e=true->PDe X e (aC C m))(d:∀X e,Cy t C X->(aR t m).2 X.N X.env.scope e=true->PDt X e (fT C m)):EOk t C m:=
 ⟨hv,λX e c b h=>absurd h (by rw[a X e b];exact aaf),d⟩
theorem m7{f:Ck}{N:List Str}{sc:Scope}(a:yA e=true)(h:∀o xs p,f N sc (.BoolOp o xs p)=false):f N sc e=false:=by obtain⟨o,xs,p,rfl⟩:=oX a;exact h o xs p
theorem ckBin_ok{b:Operator->Bool}{f g:Ck}{N:List Str}{sc:Scope}(h:oW b f g N sc e=true):∃x o y p,e=.BinOp x o y p/\b o=true/\f N sc x=true/\g N sc y=true:=by obtain⟨z,a,h⟩:=anyT h;obtain⟨p,rfl⟩:=uE a;exact⟨_,_,_,p,rfl,an3 h⟩
theorem ckUn_ok{b:UnaryOp->Bool}{f:Ck}{N:List Str}{sc:Scope}(h:yy b f N sc e=true):∃o x p,e=.UnaryOp o x p/\b o=true/\f N sc x=true:=by obtain⟨z,a,h⟩:=anyT h;obtain⟨p,rfl⟩:=oG a;exact⟨_,_,p,rfl,an2 h⟩
theorem cN{o:Co}{f g:Ck}{N:List Str}{sc:Scope}(h:iq o f g N sc e=true):∃x y p,e=.Compare x [coOf o] [y] p/\isSet y=false/\f N sc x=true/\g N sc y=true:=by obtain⟨z,a,h⟩:=anyT h;obtain⟨p,rfl⟩:=gC a;obtain⟨a,c,d,b⟩:=an4 h;exact⟨_,_,p,by rw[fX a],bI c,d,b⟩
theorem lA{X:Cx}{i:Nat}(h:uW i X.N X.env.scope e=true):∃x q p r,e=.Compare (.Name x q) [.NotEq] [.List [] p] r/\wR X.N X.env.scope i x=true:=by obtain⟨z,g,h⟩:=anyT h;obtain⟨p,rfl⟩:=gC g;obtain⟨f,d,k⟩:=an3 h;obtain⟨x,q,m,b⟩:=eF d;obtain⟨l,j,c⟩:=anyT k;obtain⟨r,a⟩:=ij j;exact⟨x,q,r,p,by rw[fX f,m,a,abh.mp c];rfl,b⟩
theorem jc{p:Str->Bool}{f:List Str->Scope->List Expr->Bool}{N:List Str}{sc:Scope}(h:m5 p f N sc e=true):∃x z zs q b,e=.Call (.Name x q) (z::zs) [] b/\p x=true/\DW sc x=true/\isStar z=false/\zs.any isStar=false/\f N sc (z::zs)=true:=by
 obtain⟨z,a,h⟩:=anyT h;obtain⟨q,b,rfl⟩:=jW a;obtain⟨a,g,j,d,k⟩:=an5 h;obtain⟨x,i⟩:=z;cases i with
 |nil=>cases j
 |cons y c=>have:=bI d;rw[aa5,acE]at this;exact⟨x,y,c,q,b,rfl,a,g,this.1,this.2,k⟩
theorem cg{p:Str}{f:Ck}{N:List Str}{sc:Scope}(h:eG t p f N sc e=true):∃x z q c,e=.Call (.Name x q) [z] [] c/\DX t sc x p=true/\isStar z=false/\f N sc z=true:=by obtain⟨z,w,b,a,h⟩:=ay2 h;obtain⟨q,c,rfl⟩:=jW b;obtain⟨x,g⟩:=z;have:=one1_ok a;simp only at this;subst this;obtain⟨b,a,d⟩:=an3 h;exact⟨x,w,q,c,rfl,b,bI a,d⟩
theorem jd{p:Str}{f g:Ck}{N:List Str}{sc:Scope}(h:m6 t p f g N sc e=true):∃x z w q c,e=.Call (.Name x q) [z,w] [] c/\DX t sc x p=true/\isStar z=false/\isStar w=false/\f N sc z=true/\g N sc w=true:=by obtain⟨z,w,b,a,h⟩:=ay2 h;obtain⟨q,c,rfl⟩:=jW b;obtain⟨x,k⟩:=z;have:=two2_ok a;simp only at this;subst this;obtain⟨b,a,i,d,j⟩:=an5 h;exact⟨x,_,_,q,c,rfl,b,bI a,bI i,d,j⟩
theorem ckBo_ok{b:BoolOp->Bool}{f g:Ck}{N:List Str}{sc:Scope}(h:uV b f g N sc e=true):∃o x y es p,e=.BoolOp o (x::y::es) p/\b o=true/\f N sc x=true/\((es=[]/\g N sc y=true)\/g N sc (.BoolOp o (y::es) p)=true):=by
 obtain⟨z,n,h⟩:=anyT h;have:=yn n;subst this;obtain⟨c,h⟩:=an2 h;obtain⟨x,y,m,l,h⟩:=ay2 h;obtain⟨j,h⟩:=an2 h;obtain⟨o,q,p⟩:=z;obtain⟨x,k⟩:=x;obtain⟨y,es⟩:=y;have d:=con1_ok m;have i:=con1_ok l;simp only at d i;subst i;subst d;cases es with
 |nil=>exact⟨o,x,y,[],p,rfl,c,j,.inl ⟨rfl,h⟩⟩
 |cons a es=>exact⟨o,x,y,a::es,p,rfl,c,j,.inr h⟩
theorem CM{a b c:Expr}{n l i:E}{p:Pos}{o d:Co}(L:X.A.units+64<cLine)(Y:lastMarks [coOf o,coOf d] [b,c]=false)(h1:PDe X a (aC C n))(Z:PDe X b (aC C l))(h3:PDe X c (aC C i)):PDt X (.Compare a [coOf o,coOf d] [b,c] p) (fT C (.cmp2 o d n l i)):=by
 obtain⟨r2,ho,hr⟩:=ib L o;obtain⟨a0,j,r⟩:=ib L d;refine(qX ho hr j r Y h1 Z h3).imp λJ Q hq=>?_;obtain⟨x,h,v,g,q⟩:=jS (m:=.cmp2 o d n l i) rfl (λJ x h=>by
  obtain⟨H,z,M,y,k,w,O,T,u,B,h⟩:=bn5 h;cases k with
  |false=>rw[if_neg aaf]at h;cases h;exact⟨_,rfl⟩
  |true=>
   rw[if_pos rfl]at h;obtain⟨N,f,S,s,U,I,G,D,h⟩:=bn4 h;cases h;exact⟨_,rfl⟩) J Q hq
 obtain⟨H,z,M,y,k,w,O,T,u,B,h⟩:=bn5 h;refine⟨H,w,z,O,M,y,T,u,k,B,k,rfl,?_⟩;cases k with
 |false=>rw[if_neg aaf]at h;cases h;rw[if_neg aaf];exact⟨v,g,q⟩
 |true=>rw[if_pos rfl]at h ⊢;obtain⟨N,f,S,s,U,I,G,D,h⟩:=bn4 h;cases h;exact⟨N,U,f,S,I,G,s,D,v,g,q⟩
mutual
theorem aX:∀m:E,EOk t C m
 |.nm i=>aG rfl rfl λX e c h=>by obtain⟨x,p,rfl,h⟩:=eF h;obtain⟨l,s,n,H⟩:=bR h;exact Iw l s n H
 |.int k=>aG rfl rfl λX e c h=>by obtain⟨j,l,h⟩:=anyT h;obtain⟨_,_,rfl⟩:=asInt_ok l;have:=Daa h;subst this;exact Fg
 |.str k=>aG rfl rfl λX e c h=>by obtain⟨j,l,h⟩:=anyT h;obtain⟨_,_,rfl⟩:=asStr_ok l;have:=cD h;subst this;exact Fh
 |.bl k=>aG rfl rfl λX e c h=>by obtain⟨j,l,h⟩:=anyT h;obtain⟨_,_,rfl⟩:=asBl_ok l;have:=Daa h;subst this;exact Iy
 |.non=>aG rfl rfl λX e c h=>by obtain⟨_,_,rfl⟩:=ik h;exact Fi
 |.gc g=>aG rfl rfl λX e c h=>by obtain⟨x,l,h⟩:=anyT h;obtain⟨_,rfl⟩:=asNm_ok l;obtain⟨v,u,O,L,M⟩:=c.hgc _ _ (Daa (an2 h).1);exact Iz (fW (an2 h).2).1 O L M (fW (an2 h).2).2
 |.bop o a b=>aG rfl rfl λX e c h=>by obtain⟨x,o',y,p,rfl,l,s,n⟩:=ckBin_ok h;have:=uM l;subst this;exact Fc ((aX a).v X _ c s) ((aX b).v X _ c n)
 |.cat a b=>aG rfl rfl λX e c h=>by obtain⟨x,o',y,p,rfl,l,s,n⟩:=ckBin_ok h;have:=oU l;subst this;exact Fx ((aX a).v X _ c s) ((aX b).v X _ c n)
 |.rep a b=>aG rfl rfl λX e c h=>by obtain⟨x,o',y,p,rfl,l,s,n⟩:=ckBin_ok h;have:=yu l;subst this;exact FJ ((aX a).v X _ c s) ((aX b).v X _ c n)
 |.cmp o a b=>eI (λX e J=>m7 (f:=(aR t (.cmp o a b)).2) J λ_ _ _=>rfl) (λX e c h=>by
  obtain⟨x,y,p,rfl,s,n,H⟩:=cN h;exact Fd c.units (dG _ s) ((aX a).v X _ c n) ((aX b).v X _ c H)) λX e c h=>by
  obtain⟨x,y,p,rfl,s,n,H⟩:=cN h;exact Fe c.units (dG _ s) ((aX a).v X _ c n) ((aX b).v X _ c H)
 |.cmp2 o o' a b d=>eI (λX e J=>m7 (f:=(aR t (.cmp2 o o' a b d)).2) J λ_ _ _=>rfl) (λX e c h=>by
  obtain⟨z,l,h⟩:=anyT h;obtain⟨p,rfl⟩:=oQ l;obtain⟨D,A,B,Q⟩:=an4 h;obtain⟨b1,b2,b3⟩:=an3 Q;rw[fX D,fX A];exact Ce c.units (dG _ (bI B)) ((aX a).v X _ c b1) ((aX b).v X _ c b2) ((aX d).v X _ c b3)) λX e c h=>by
  obtain⟨z,l,h⟩:=anyT h;obtain⟨p,rfl⟩:=oQ l;obtain⟨D,A,B,Q⟩:=an4 h;obtain⟨b1,b2,b3⟩:=an3 Q;rw[fX D,fX A];exact CM c.units (dG _ (bI B)) ((aX a).v X _ c b1) ((aX b).v X _ c b2) ((aX d).v X _ c b3)
 |.isn neg a=>eI (λX e J=>m7 (f:=(aR t (.isn neg a)).2) J λ_ _ _=>rfl) (λX e c h=>by
  obtain⟨z,l,h⟩:=anyT h;obtain⟨p,rfl⟩:=gC l;obtain⟨D,A,B⟩:=an3 h;obtain⟨_,_,e2⟩:=ik A;rw[oR D,e2];exact Fj ((aX a).v X _ c B)) λX e c h=>by
  obtain⟨z,l,h⟩:=anyT h;obtain⟨p,rfl⟩:=gC l;obtain⟨D,A,B⟩:=an3 h;obtain⟨_,_,e2⟩:=ik A;rw[oR D,e2];exact Fk ((aX a).v X _ c B)
 |.and a b=>by
  have hw:∀X e,Cy t C X->(aR t (.and a b)).2 X.N X.env.scope e=true->PDw X e (fT C (.and a b)):=λX e c h=>by
   obtain⟨o,x,y,I,p,rfl,l,s,n⟩:=ckBo_ok h;have:=oS l;subst this;refine Fo ((aX a).t X _ c s) ?_;rcases n with ⟨rfl,n⟩|n
   ·exact tI ((aX b).t X _ c n)
   ·exact(aX b).w X _ c rfl n
  refine⟨λX e c h=>?_,λX e c _ h=>hw X e c h,λX e c h=>(hw X e c h).pt⟩;obtain⟨o,x,y,I,p,rfl,l,s,n⟩:=ckBo_ok h;have:=oS l;subst this;refine v_and ((aX a).v X _ c s) ?_;rcases n with ⟨rfl,n⟩|n
  ·exact tG ((aX b).v X _ c n)
  ·exact(aX b).v X _ c n
 |.or a b=>by
  have hw:∀X e,Cy t C X->(aR t (.or a b)).2 X.N X.env.scope e=true->PDw X e (fT C (.or a b)):=λX e c h=>by
   obtain⟨o,x,y,I,p,rfl,l,s,n⟩:=ckBo_ok h;have:=uR l;subst this;refine IA ((aX a).t X _ c s) ?_;rcases n with ⟨rfl,n⟩|n
   ·exact xI ((aX b).t X _ c n)
   ·exact(aX b).w X _ c rfl n
  refine⟨λX e c h=>?_,λX e c _ h=>hw X e c h,λX e c h=>(hw X e c h).pt⟩;obtain⟨o,x,y,I,p,rfl,l,s,n⟩:=ckBo_ok h;have:=uR l;subst this;refine v_or ((aX a).v X _ c s) ?_;rcases n with ⟨rfl,n⟩|n
  ·exact tG ((aX b).v X _ c n)
  ·exact(aX b).v X _ c n
 |.not a=>eI (λX e J=>m7 (f:=(aR t (.not a)).2) J λ_ _ _=>rfl) (λX e c h=>by
  obtain⟨o,x,p,rfl,l,s⟩:=ckUn_ok h;have:=oT l;subst this;exact v_not ((aX a).v X _ c s)) λX e c h=>by
  obtain⟨o,x,p,rfl,l,s⟩:=ckUn_ok h;have:=oT l;subst this;exact Fq ((aX a).t X _ c s)
 |.neg a=>aG rfl rfl λX e c h=>by obtain⟨o,x,p,rfl,l,s⟩:=ckUn_ok h;have:=oN l;subst this;exact Fm ((aX a).v X _ c s)
 |.ife z a b=>aG rfl rfl λX e c h=>by obtain⟨q,l,h⟩:=anyT h;obtain⟨p,rfl⟩:=oH l;obtain⟨D,A,B⟩:=an3 h;exact Fs ((aX z).t X _ c D) ((aX a).v X _ c A) ((aX b).v X _ c B)
 |.tup I=>aG rfl rfl λX e c h=>by obtain⟨q,l,h⟩:=anyT h;obtain⟨_,_,rfl⟩:=asTup_ok l;exact Fu (CN I X _ c h)
 |.lst I=>aG rfl rfl λX e c h=>by obtain⟨q,l,h⟩:=anyT h;obtain⟨_,rfl⟩:=ij l;exact Fv (CN I X _ c h)
 |.ix a b=>aG rfl rfl λX e c h=>by obtain⟨q,l,h⟩:=anyT h;obtain⟨_,rfl⟩:=asSub_ok l;obtain⟨D,A,B⟩:=an3 h;exact IB (bI D) ((aX a).v X _ c A) ((aX b).v X _ c B)
 |.sll a lo hi=>aG rfl rfl λX e c h=>by obtain⟨q,l,h⟩:=anyT h;obtain⟨_,_,rfl⟩:=uS l;obtain⟨D,A,B⟩:=an3 h;exact Fw ((aX a).v X _ c D) (JM lo X _ c A) (JM hi X _ c B)
 |.call f I=>aG rfl rfl λX e c h=>by obtain⟨x,z,zs,q,q',rfl,l,s,n,H,h5⟩:=jc (p:=λx=>decide (t.fn f=some x)) (f:=jX t I) (N:=X.N) (sc:=X.env.scope) (e:=e) h;obtain⟨k,fa,fd,G,O,L,M,g4,g5⟩:=c.hfn _ _ (Daa l);exact Cg O L (fW s).1 M g4 g5 (fW s).2 n H (CN I X _ c h5)
 |.blt f I=>aG rfl rfl λX e c h=>by obtain⟨x,z,zs,q,q',rfl,l,s,n,H,h5⟩:=jc (p:=λx=>sEq x (Cm f)&&t.nog x) (f:=jX t I) (N:=X.N) (sc:=X.env.scope) (e:=e) h;have:=cD (an2 l).1;subst this;exact FA c.calm (fW s).1 (c.hng _ (an2 l).2) n H (CN I X _ c h5)
 |.bnw f a=>aG rfl rfl λX e c h=>by
  obtain⟨x,z,q,q',rfl,l,s,n⟩:=cg h;obtain⟨O,L,M⟩:=dF c l;subst O;cases f with
  |tuple=>exact yf L M s ((aX a).v X _ c n)
  |sorted=>exact ur L M s ((aX a).v X _ c n)
 |.idx a b=>aG rfl rfl λX e c h=>by obtain⟨z,y,l,s,Z⟩:=ay2 h;obtain⟨o1,o2,p,e1,rfl⟩:=yv l;obtain⟨D,A,B,Q,a5⟩:=an5 Z;rw[one1_ok s,cD D];rw[e1]at Q ⊢;exact F7 A (bI B) ((aX a).v X _ c Q) ((aX b).v X _ c a5)
 |.dgt i b=>aG rfl rfl λX e c h=>by obtain⟨z,y,l,s,Z⟩:=ay2 h;obtain⟨p,rfl⟩:=oV l;obtain⟨D,A,B,Q,a5⟩:=an5 Z;obtain⟨T,S,U,Y⟩:=bR A;rw[one1_ok s,cD D];exact F8 (by have:=c.units;omega) T S U Y B (bI Q) ((aX b).v X _ c a5)
 |.sdd i=>aG rfl rfl λX e c h=>by obtain⟨x,z,q,q',rfl,l,s,n⟩:=cg (t:=t) (p:="sorted") (f:=λN sc e=>uL N sc i e) (N:=X.N) (sc:=X.env.scope) (e:=e) h;obtain⟨O,L,M⟩:=dF c l;obtain⟨y,p,e0,h0⟩:=eF n;obtain⟨T,S,U,Y⟩:=bR h0;subst O;rw[e0];exact FX c.calm L M T S U Y
 |.ln i=>aG rfl rfl λX e c h=>by obtain⟨x,z,q,q',rfl,l,s,n⟩:=cg (t:=t) (p:="len") (f:=λN sc e=>uL N sc i e) (N:=X.N) (sc:=X.env.scope) (e:=e) h;obtain⟨O,L,M⟩:=dF c l;obtain⟨y,p,e0,h0⟩:=eF n;obtain⟨T,S,U,Y⟩:=bR h0;subst O;rw[e0];exact IS L M T S U Y
 |.nen i=>eI (λX e J=>m7 (f:=(aR t (.nen i)).2) J λ_ _ _=>rfl) (λX e c h=>by
  obtain⟨x,q,p,r,rfl,h0⟩:=lA (X:=X) h;obtain⟨T,S,U,Y⟩:=bR h0;exact FY c.units T S U Y) λX e c h=>by
  obtain⟨x,q,p,r,rfl,h0⟩:=lA (X:=X) h;obtain⟨T,S,U,Y⟩:=bR h0;exact FZ c.units T S U Y
 |.frz a=>aG rfl rfl λX e c h=>Fy ((aX a).v X _ c h)
 |.dnew=>aG rfl rfl λX e c h=>by obtain⟨_,rfl⟩:=uK h;exact Ci
 |.pg i G=>aG rfl rfl λX e c h=>IK (bA c G _ h)
 |.pl i G=>aG rfl rfl λX e c h=>by obtain⟨x,z,q,q',rfl,l,s,n⟩:=cg (t:=t) (p:="len") (f:=λN sc e=>cX t N sc i G e) (N:=X.N) (sc:=X.env.scope) (e:=e) h;obtain⟨O,L,M⟩:=dF c l;subst O;exact IL L M s (bA c G _ n)
 |.pin neg a i G=>eI (λX e J=>m7 (f:=(aR t (.pin neg a i G)).2) J λ_ _ _=>rfl) (λX e c h=>by
  obtain⟨x,y,p,rfl,s,n,H⟩:=cN (o:=if neg then .nin else .inn) (f:=(aR t a).1) (g:=λN sc e=>cX t N sc i G e) (N:=X.N) (sc:=X.env.scope) (e:=e) h;exact(uz c.units (dG _ s) ((aX a).v X _ c n) (bA c G _ H)).1) λX e c h=>by
  obtain⟨x,y,p,rfl,s,n,H⟩:=cN (o:=if neg then .nin else .inn) (f:=(aR t a).1) (g:=λN sc e=>cX t N sc i G e) (N:=X.N) (sc:=X.env.scope) (e:=e) h;exact(uz c.units (dG _ s) ((aX a).v X _ c n) (bA c G _ H)).2
 |.din neg a i G=>eI (λX e J=>m7 (f:=(aR t (.din neg a i G)).2) J λ_ _ _=>rfl) (λX e c h=>by
  obtain⟨x,y,p,rfl,s,n,H⟩:=cN (o:=if neg then .nin else .inn) (f:=(aR t a).1) (g:=λN sc e=>cX t N sc i G e) (N:=X.N) (sc:=X.env.scope) (e:=e) h;exact(uA (by have:=c.units;omega) (dG _ s) ((aX a).v X _ c n) (bA c G _ H)).1) λX e c h=>by
  obtain⟨x,y,p,rfl,s,n,H⟩:=cN (o:=if neg then .nin else .inn) (f:=(aR t a).1) (g:=λN sc e=>cX t N sc i G e) (N:=X.N) (sc:=X.env.scope) (e:=e) h;exact(uA (by have:=c.units;omega) (dG _ s) ((aX a).v X _ c n) (bA c G _ H)).2
 |.comp nt fr it tg ifs elt=>aG rfl rfl λX e c h=>by obtain⟨z,l,h⟩:=anyT h;have:=lz l;subst this;obtain⟨D,A,B,Q,a5⟩:=an5 h;obtain⟨b1,b2,b3⟩:=an3 a5;exact Cr c.calm (ip D) (jV (bI B)) (Hg it X _ _ c Q) (λq=>eZ (X:=dQ X _ z.2.2.2.2.1 q) (fn:=false) c.calm (Daa A) (λz=>by cases z) (λ_ _ z=>z) b1) λq=>JN ifs (dQ X _ z.2.2.2.2.1 q) _ _ c.comp (aX elt) b2 b3
theorem CN:∀(m:Es) X xs,Cy t C X->jX t m X.N X.env.scope xs=true->PDa X xs (iQ C m)
 |.nil,X,xs,c,h=>by
  cases xs with
  |nil=>exact fU
  |cons _ _=>cases h
 |.cons a es,X,xs,c,h=>by obtain⟨z,f,h⟩:=anyT h;have:=con1_ok f;subst this;obtain⟨d,b,g⟩:=an3 h;exact cz (bI d) ((aX a).v X _ c b) (CN es X _ c g)
theorem JM:∀(m:Eo) X o,Cy t C X->CL t m X.N X.env.scope o=true->PDo X o (uj C m)
 |.none,X,o,c,h=>by
  cases o with
  |none=>exact yc
  |some _=>cases h
 |.some a,X,o,c,h=>by obtain⟨z,b,h⟩:=anyT h;subst b;exact yd ((aX a).v X _ c h)
theorem JN:∀(m:Eo) {elt:E} X fs x,Cy t C X->EOk t C elt->Gg t m X.N X.env.scope fs=true->(aR t elt).1 X.N X.env.scope x=true->PDc X fs x (Cp C m elt)
 |.none,elt,X,fs,x,c,he,h,h'=>by
  cases fs with
  |nil=>exact yg (he.v X _ c h')
  |cons _ _=>cases h
 |.some a,elt,X,fs,x,c,he,h,h'=>by obtain⟨z,b,h⟩:=anyT h;have:=one1_ok b;subst this;exact Cq ((aX a).t X _ c h) (he.v X _ c h')
theorem Hg:∀(m:It') X g e,Cy t C X->yz t m X.N X.env.scope g e=true->PDi X g e (gx C m)
 |.seq a,X,g,e,c,h=>FE ((aX a).v X _ c h)
 |.rg1 a,X,g,e,c,h=>by obtain⟨x,z,q,o,rfl,n,f,l⟩:=cg h;obtain⟨d,i,j⟩:=dF c n;subst d;exact FF i j f ((aX a).v X _ c l)
 |.rg2 a b,X,g,e,c,h=>by obtain⟨x,z,w,q,o,rfl,n,f,l,s,u⟩:=jd h;obtain⟨d,i,j⟩:=dF c n;subst d;exact FG i j f l ((aX a).v X _ c s) ((aX b).v X _ c u)
 |.enm a,X,g,e,c,h=>by obtain⟨r,h⟩:=an2 h;obtain⟨y,k,p,rfl⟩:=eY r;obtain⟨x,z,q,o,rfl,n,f,l⟩:=cg h;obtain⟨d,i,j⟩:=dF c n;subst d;exact FH i j f ((aX a).v X _ c l)
 |.zip a b,X,g,e,c,h=>by obtain⟨r,h⟩:=an2 h;obtain⟨y,k,p,rfl⟩:=eY r;obtain⟨x,z,w,q,o,rfl,n,f,l,s,u⟩:=jd h;obtain⟨d,i,j⟩:=dF c n;subst d;exact FI i j f l ((aX a).v X _ c s) ((aX b).v X _ c u)
end
end
end
section
def bkS(sc:Scope):ScopeKind:=if sc.kind.isAnnotationScope then .function else sc.kind
def rD(ts:List Expr)(sc:Scope):List Str:=ts.filterMap fun
  |.Name id pos=>if sc.names.lookup id==some .local&&pos.line==(ts.head?.map (·.pos.line)).getD 0 then some id else none
  |_=>none
def Hh(ts vs:List Expr)(sc:Scope):Option (Option (List Str)):=
 if !(ts.length==2||ts.length==3)||vs.length !=ts.length||bkS sc !=.function then some none
 else if (vs.any fun|.Starred ..=>true|_=>false) then some none
 else if (rD ts sc).length !=ts.length||(rD ts sc).eraseDups.length !=(rD ts sc).length then some none
 else if vs.all (foldedForSure 8) then some none
 else if vs.all (constantsAlone 8) then none
 else some (some (rD ts sc))
theorem m8(h:Hh ts vs env.scope=some r):swappedStores [.Tuple ts k p] (.Tuple vs k2 p2) env=pure r:=by
 unfold Hh at h;unfold swappedStores;split at h
 ·rename_i e;cases h;show (if (!(ts.length==2||ts.length==3)||vs.length !=ts.length||env.blockKind !=.function)=true then _ else _)=_;rw[if_pos (show (!(ts.length==2||ts.length==3)||vs.length !=ts.length||env.blockKind !=.function)=true from e)]
 ·rename_i e;show (if (!(ts.length==2||ts.length==3)||vs.length !=ts.length||env.blockKind !=.function)=true then _ else _)=_;rw[if_neg (show ¬ (!(ts.length==2||ts.length==3)||vs.length !=ts.length||env.blockKind !=.function)=true from e)];split at h
  ·rename_i c;cases h;show (if (vs.any fun|.Starred ..=>true|_=>false)=true then _ else _)=_;rw[if_pos c]
  ·rename_i c;show (if (vs.any fun|.Starred ..=>true|_=>false)=true then _ else _)=_;rw[if_neg c];split at h
   ·rename_i b;cases h;show (if ((rD ts env.scope).length !=ts.length||(rD ts env.scope).eraseDups.length !=(rD ts env.scope).length)=true then _ else _)=_;rw[if_pos b]
   ·rename_i b;show (if ((rD ts env.scope).length !=ts.length||(rD ts env.scope).eraseDups.length !=(rD ts env.scope).length)=true then _ else _)=_;rw[if_neg b];split at h
    ·rename_i a;cases h;show (if vs.all (foldedForSure 8)=true then _ else _)=_;rw[if_pos a]
    ·rename_i a;show (if vs.all (foldedForSure 8)=true then _ else _)=_;rw[if_neg a];split at h
     ·cases h
     ·rename_i d;cases h;show (if vs.all (constantsAlone 8)=true then _ else _)=_;rw[if_neg d];rfl
def z8(a e:Expr)(sc:Scope):Bool:=(cm a).any λc=>(cm e).all λb=>decide (Hh c b sc=some none)
theorem uX(h:z8 tg e env.scope=true):swappedStores [tg] e env=pure none:=by
 obtain⟨i,c,b⟩:=anyT h;clear h;obtain⟨k,p,rfl⟩:=asTup_ok c;cases a:cm e with
 |some d=>obtain⟨f,g,rfl⟩:=asTup_ok a;rw[a]at b;exact m8 (Daa b)
 |none=>cases e<;>first|rfl|cases a
def swC(sc:Scope)(t:Str)(a p:Pos)(s:Scope):Bool:=bkS sc==.function&&sc.names.lookup t==some .local&&a.line==p.line&&!(s.names.any λ(n,k)=>n==t&&(k==.local||k==.cell))
theorem uY:swapsWith (.ListComp elt gs s p) (some (.Name t pos)) l env=pure (swC env.scope t pos p s):=rfl
inductive PDx (X:Cx)(i:Nat)(st:Stmt)(de:DE):Prop|mk (te:TE) (h:PS X st (sr te (kH i))) (s:cb X.K te de)
section
variable{X:Cx}{W:Nat->Prop}{m:Nat}{C:Ct}{e:Expr}{ma:E}{pos p p1 p2 p3 pos' spos py:Pos}{x y:Str}{i:Nat}{st:Stmt}
theorem PDx.imp:PDx X i st d->(∀ρ Q,d' ρ Q->d ρ Q)->PDx X i st d'
 |⟨te,h,s⟩,f=>⟨te,h,λb F σ H ρ τ θ c Q a R g q=>s b F σ H ρ τ θ c Q a R (f _ _ g) q⟩
theorem Gh:PDx X i st (aC C ma)->PDx X i st (aC C (.frz ma))
 |⟨te,h,s⟩=>⟨te,h,λb F σ H ρ τ θ t Q n R ⟨y,h,q⟩ k=>by
  obtain⟨z,w,d,o,h⟩:=bn2 h;cases h;refine s b F σ H ρ τ θ (λr a=>r=z.1/\a=z.2) _ n R ⟨z,d,rfl,rfl⟩ λv f r a g j=>?_;obtain⟨l,c⟩:=j;subst l c;exact k v f _ _ (g.frz1 o) q⟩
theorem CO{d:Tg}(l:X.N.Nodup)(u:X.N[i]?=some y)(q:X.env.scope.names.lookup y=some .local)(r:X.calm=true)(S:CompScope N nt fr X.N scope X.env.scope)(j:∀x,foldedSetIterable iter X.env x=pure x)(n:PDi X tg iter (gx C mi))(k:∀c:CC,PDg (dQ X N scope c) Ff nt tg (iR d))(s:∀c:CC,PDc (dQ X N scope c) ifs elt (Cp C mif me))
  (f:swapsWith (.ListComp elt [⟨tg,iter,ifs,0⟩] scope pos) (some (.Name y py)) spos.line X.env=pure true):PDx X i (.Assign [.Name y py] (.ListComp elt [⟨tg,iter,ifs,0⟩] scope pos) spos) (aC C (.comp nt fr mi d mif me)):=by
 have o:PDx X i (.Assign [.Name y py] (.ListComp elt [⟨tg,iter,ifs,0⟩] scope pos) spos) (ou (gx C mi) nt fr (iR d) (Cp C mif me)):=by obtain⟨w,t,h⟩:=n;obtain⟨g,b⟩:=PDg.ex (Y:=λc=>dQ X N scope c) (λ_=>rfl) k;obtain⟨v,a⟩:=PDc.ex (Y:=λc=>dQ X N scope c) (λ_=>rfl) s;exact⟨_,xj l u q r S t (λc=>(b c).1) (λc D=>(a c).1 D) j f,k6 h (λc=>(b c).2) λc=>(a c).2⟩
 exact o.imp (oA C)
theorem uZ(f:¬ W i):PDx X i st (aC C ma)->PDs X W st (gA C (.set i ma))
 |⟨_,h,s⟩=>⟨_,h,λb F σ H ρ τ θ A D u n R ⟨y,h,q⟩ E=>by
  obtain⟨z,o,_,d,w,j,h⟩:=bn3 h;cases h;refine s b F σ H ρ τ θ (λr a=>r=z.1/\a=z.2) _ u R ⟨z,d,rfl,rfl⟩ λv g r a k l=>?_;obtain⟨t,c⟩:=l;subst t c;exact E.nx _ g _ ((k.own1 w).store n (gd_ok j) f) q⟩
end
theorem Wd.wh(w:Wd b H ([u].zip [y]++((v,x)::L)))(e:x.at ks=some (.hole u)):Wd b H ((v,OD.put y ks x)::L):=by
 obtain⟨S,n,B,C,q,k,f,i,o,p,j,m,h⟩:=Wd.wj w rfl e;cases k with
 |hole g=>subst g;exact h (λ_ _=>rfl) (λc d=>by cases d) (by simpa using i) (λc d=>.inr d) λl a _=>Ow.sub j a f.one
theorem Rel.fill(R:Rel b F σ H ρ (u::τ) (.rf j::θ))(h:ui i ks j u ρ ρ'):Rel b F σ H ρ' τ θ:=by obtain⟨x,y,f,d,l,g,k⟩:=h;subst k;obtain⟨m,a,c⟩:=R.drop.moved l;have e:σ[j]?=some (some u):=R.al.1;rw[e]at a;cases a;obtain⟨v,a,w⟩:=Rel.open (us:=[u]) (zs:=[y]) c rfl (by rw[aa4 g];exact f);exact Rel.close (Rel.rest (us:=[u]) (zs:=[y]) c rfl) a (w.wh d)
theorem Wd.openAt(w:Wd b H ((v,x)::L))(e:x.at ks=some y):∃u,Chn b H v x ks u y/\Wd b H ((u,y)::(v,OD.put (.hole u) ks x)::L):=by
 obtain⟨s,i,n,h⟩:=w.out;have d:=w.qd i;cases i with
 |@cons _ _ A _ _ E r t=>
  obtain⟨u,B,C,j,q,o,l⟩:=Ow.path r e;obtain⟨a,k,p⟩:=l (Kp.refl _ _) (λc z=>.inl z) d (λ_ _=>rfl) (.hole rfl);have g:(A++E).Perm (B++(a++E)):=by rw[<-aac];exact(o.trans (aa8 _ (by simpa using p.symm))).append_right _
  have f:∀c,(c∈B++(a++E)\/b.S0 c)->(c∈A++E\/b.S0 c):=λc z=>z.imp g.mem_iff.mpr id;exact⟨u,j,⟨B++(a++E),Ows.cons (Ow.sub d f q) (Ows.cons (Ow.sub d f k) (Ows.sub d f t)),g.nodup_iff.mp n,λc m=>h c (g.mem_iff.mpr m)⟩,w.fr,w.s0,w.nt⟩
theorem Rel.takeOut(R:Rel b F σ H ρ τ θ)(f:ρ[i]?.join=some x)(e:x.at ks=some y)(ev:σ[i]?=some (some v))(ch:Chn b H v x ks u y):Rel b F σ H (ρ.set i (some (OD.put (.hole u) ks x))) (u::τ) (.val y::θ):=by obtain⟨h,a,w⟩:=Rel.open (us:=[]) (zs:=[]) R rfl f;rw[ev]at a;cases a;obtain⟨g,c,d⟩:=Wd.openAt w e;obtain⟨rfl,_⟩:=ch.det c;exact Rel.back R.wf R.al R.wff ev (d.perm (List.Perm.swap _ _ _))
section
variable{X:Cx}{W:Nat->Prop}{C:Ct}{c a1 a2:Expr}{pos p0 p1 p2 p3 p4 p5 q1 q2:Pos}{x y:Str}{i j k m:Nat}{ps qs:List Acc}{sts:List Stmt}{mc:E}{mss:Ss}
theorem CP{k1 k2 k3 jj}(hc:X.calm=true)(hN:X.N.Nodup)(M:Sto X W m j x)(S:Sto X W m k y)(n1:isStar a1=false)(n2:isStar a2=false):
  PDt X c (fT C mc)->PDp X a1 i ps->PDp X a2 i qs->PDss X (λl=>W l\/l=j) sts (iS C mss)->PDss X W (.Assign [.Tuple [.Name x q1,.Name y q2] k1 p0] (.IfExp c (.Tuple [a1,a2] k2 p1) (.Tuple [.List [] p2,.Constant (.int 0) jj p3] k3 p4) p5) pos::sts) (iS C (.alo mc i ps qs j k mss))
 |⟨_,h0,s0⟩,⟨_,w,s1⟩,⟨_,A,s2⟩,⟨_,h3,s3⟩=>⟨_,kF (my (kD h0 (jw (aY w (aY A bB (az n2)) (az n1))) (jw (aY (jx bB) (aY gK bB)))) (sq hc (gL (jt hN M.hN M.loc M.fn) (gL (jt hN S.hN S.loc S.fn) nY)))) h3,λb F σ H ρ τ θ Dd D L n R ⟨z,h,q⟩ E=>by
  obtain⟨t,_,e0,hg,h⟩:=bn2 h;obtain⟨g1,g2,g3,g4,g5⟩:=gd_ok hg;refine s0 b F σ H ρ τ θ (λk a=>k=t.1/\a=t.2) _ L R ⟨t,e0,rfl,rfl⟩ λb0 U a5 Q hZ=>?_;obtain⟨rfl,rfl⟩:=hZ;have n':NoRf (λl=>W l\/l=j) θ:=λr f=>(n r f).imp id λ⟨k,wk,ek⟩=>⟨k,.inl wk,ek⟩
  by_cases ht:t.1=true
  ·rw[if_pos ht]at h ⊢;obtain⟨p,ys,r,d,e1,e2,e3,e4,h⟩:=bn4 h;obtain⟨f1,f2⟩:=path_at e1;refine s1 b F σ U _ τ θ _ p L Q e1 λv u ev ch=>?_;refine s2 b F σ U _ τ θ _ r L Q e3 λv' T a3 a0=>?_;refine⟨by show 2<=sizeLine;decide,λO hp=>⟨O,[u,T],rfl,?_,rfl,u,[T],rfl,T,[],rfl,rfl,?_⟩⟩
   ·exact SqT.of aD
   ·have Z:=Q.u4 e3 a3 a0 (eC e4);have s:=Z.takeOut f1 f2 ev ch;rw[ck e2]at s;have R4:Rel b F σ (upd U O (.tup [u,T])) _ _ _:=⟨s.wf,s.al,s.wff,s.wd.new hp⟩
    have R5:=Rel.store R4 (λr f=>by rcases aab.mp f with rfl|f;exact .inl ⟨_,rfl⟩;exact n r f) (by rw[abf];exact g4) M.nw;have Y:=Rel.store R5 n (by rw[abf,abf];exact g5) S.nw;obtain⟨g,e5,B⟩:=holRun_some h u;have es:((σ.set j (some u)).set k (some T))[j]?=some (some u):=by rw[aa4 (aaN g3),aa3];rw[Q.wf.len];exact g4
    obtain⟨J,a4⟩:=z;refine s3 b F _ _ _ (u::τ) (.rf j::θ) ⟨λa=>J=.nx/\a=g,λo a=>J=.rt o/\a=g,λa=>J=.bk/\a=g,λa=>J=.ct/\a=g⟩ _ L (λr f=>?_) ⟨Y.wf,⟨es,Y.al⟩,Y.wff,Y.wd⟩ ⟨(J,g),e5,by cases J<;>exact⟨rfl,rfl⟩⟩ ⟨λe G a I ⟨w,A⟩=>?_,λe G a I ⟨w,A⟩=>?_,λe G a I ⟨w,A⟩=>?_,λe G a v o I ⟨w,A⟩=>?_⟩
    ·rcases aab.mp f with rfl|f
     ·exact .inr ⟨j,.inr rfl,rfl⟩
     ·exact n' r f
    ·subst w A;exact E.nx e G _ (I.fill B) q
    ·subst w A;exact E.bk e G _ (I.fill B) q
    ·subst w A;exact E.ct e G _ (I.fill B) q
    ·subst w A;exact E.rt e G _ v o (Rel.fill (Rel.xr (vs:=[v]) (rs:=[.val o]) I rfl) B) q
  ·rw[if_neg ht]at h ⊢;refine⟨aaG _,λl hl=>⟨by show 2<=sizeLine;decide,λO hp=>⟨O,[.ref l,.int 0],rfl,SqT.of aD,rfl,.ref l,[.int 0],rfl,.int 0,[],rfl,rfl,?_⟩⟩⟩;have Z:=Q.sc (.int 0);have s:=Z.push (Z.wd.ea (vs:=[]) (xs:=[]) rfl hl);have R4:Rel b F σ (upd (upd U l (.lst [])) O (.tup [.ref l,.int 0])) _ _ _:=⟨s.wf,s.al,s.wff,s.wd.new hp⟩
   have R5:=Rel.store R4 (λr f=>by rcases aab.mp f with rfl|f;exact .inl ⟨_,rfl⟩;exact n r f) g4 M.nw;exact s3 b F _ _ _ τ θ _ _ L n' (Rel.store R5 n (by rw[abf];exact g5) S.nw) ⟨z,h,q⟩ E⟩
end
theorem PDe.ex{K:Waa}{Y:CC->Cx}(f:∀c,(Y c).K=K)(h:∀c,PDe (Y c) e d):∃g:CC->TE,∀c,PE (Y c) e (g c)/\cb K (g c) d:=
 aci (r:=λc g=>PE (Y c) e g/\cb K g d) λc=>(by obtain⟨i,b,a⟩:=h c;exact⟨i,b,f c▸a⟩)
theorem Rel.growD(R:Rel b F σ H ρ (v::(vs++[.ref D])) (.val (.fz d)::(rs++[.val (.dic ks xs)])))(f:vs.length=rs.length):
  ∃ws,H D=some (.dK ws)/\ws.length=xs.length/\Rel b F σ (upd H D (.dK (putK ws kk v))) ρ (vs++[.ref D]) (rs++[.val (.dic (ba kk d ks xs).1 (ba kk d ks xs).2)]):=by
 have c:=R.drop;have g:∀y:OD,stk (vs++[.ref D]) (rs++[.val y])=stk vs rs++[(.ref D,y)]:=λy=>by rw[aH f];rfl
 have w:Wd b H ((v,.fz d)::((stk vs rs++[(.ref D,.dic ks xs)])++(flat σ ρ++ff F))):=by have:=R.wd;simp only[stk]at this;rw[g]at this;exact this
 have k:Wd b H ([v].zip [OD.fz d]++((.ref D,.dic ks xs)::(stk vs rs++(flat σ ρ++ff F)))):=w.perm (by
  refine List.Perm.cons _ ?_;rw[aac];exact aaz)
 obtain⟨a,ws,l,n,e,h,m⟩:=k.sk (ks:=[]) rfl rfl;cases l;subst e;refine⟨ws,n,h,c.wf,?_,c.wff,?_⟩
 ·obtain⟨j,_⟩:=(a9 f).mp c.al;exact(a9 f).mpr ⟨j,trivial⟩
 ·rw[g];refine(m (putK ws kk v) _ _ (oD (d:=d) h) λS H A C q p i o=>lq p i o).perm ?_;rw[aac];exact aaz.symm
section
variable{X:Cx}{W:Nat->Prop}{C:Ct}{y:Str}{i nt:Nat}{fr:List Nat}{N:List Str}{scope:Scope}{kx vx iter tg:Expr}{pos py spos:Pos}{mi:It'}{mt:Tg}{mk' mv':E}
theorem u6(step:List Key×List OD->PyData->DEnv->Option ((List Key×List OD)×DEnv))(ds:List PyData)(w:(List Key×List OD)×DEnv)(k:Nat)(a:ds[k]?=some d)(h:eh step (ds.drop k) out ρ=some w):∃z,step out d ρ=some z/\eh step (ds.drop (k+1)) z.1 z.2=some w:=by
 have b:=(aan.mp a).1;have e:ds.drop k=d::ds.drop (k+1):=by rw[abU b,(aan.mp a).2]
 rw[e]at h;exact bnd h
theorem yC{K:Waa}{k f:TE}(m:cb K k (aC C mk'))(S:cb K f (aC C mv')):E8 (λz:List Key×List OD=>.dic z.1 z.2) (λz=>z.2.length) K (BD k f) (λo ρ Q=>∃w,dAct C mk' mv' o ρ=some w/\Q w.1 w.2):=by
 intro b F g H ρ vs rs D a Qd Q l T s R h q;obtain⟨w,h,n⟩:=h;obtain⟨x,y,G,kk,A,B,Y,Z,u,L,h⟩:=bn5 h;cases h;refine m b F g H ρ _ _ (λr c=>r=x.1/\c=x.2) _ l R ⟨x,B,rfl,rfl⟩ λJ I r O t d=>?_;obtain⟨rfl,rfl⟩:=d;refine S b F g I _ _ _ (λr c=>r=y.1/\c=y.2) _ l t ⟨y,Y,rfl,rfl⟩ λv2 H2 r v j d=>?_;obtain⟨rfl,rfl⟩:=d;have p:=j.dt2 Z;have e:J=kV kk:=by cases G<;>cases u<;>cases p<;>rfl
 subst e;obtain⟨ws,M,hl,R3⟩:=Rel.growD (kk:=kk) (Rel.fy (j.frz1 L)) T;have U:a.2.length<1000000:=s;exact⟨_,⟨ws,kk,M,rfl,aaC (by omega) (by decide:1000001<=sizeLine),rfl⟩,q _ _ _ R3 (by
  show (ba kk A.1 a.1 a.2).2.length<=a.2.length+1;unfold ba;split
  ·rw[List.length_zipWith];omega
  ·rw[aad];exact aae _) n⟩
theorem Gi(hw:¬ W i)(hN:X.N.Nodup)(hy:X.N[i]?=some y)(hl:X.env.scope.names.lookup y=some .local)(hc:X.calm=true)(S:CompScope N nt fr X.N scope X.env.scope)(U:∀x,foldedSetIterable iter X.env x=pure x)
  (G:swapsWith (.DictComp kx vx [⟨tg,iter,[],0⟩] scope pos) (some (.Name y py)) spos.line X.env=pure true) (p:∀c:CC,(dQ X N scope c).A.units+1<cLine) (v:PDi X tg iter (gx C mi)) (hg:∀c:CC,PDg (dQ X N scope c) Ff nt tg (iR mt)) (hk:∀c:CC,PDe (dQ X N scope c) kx (aC C mk')) (hv:∀c:CC,PDe (dQ X N scope c) vx (aC C mv')):PDs X W (.Assign [.Name y py] (.DictComp kx vx [⟨tg,iter,[],0⟩] scope pos) spos) (gA C (.sdc i nt fr mi mt mk' mv')):=by
 obtain⟨wi,h1,T⟩:=v;obtain⟨g,m⟩:=PDg.ex (Y:=λc=>dQ X N scope c) (λ_=>rfl) hg;obtain⟨tk,j⟩:=PDe.ex (Y:=λc=>dQ X N scope c) (λ_=>rfl) hk;obtain⟨tv,r⟩:=PDe.ex (Y:=λc=>dQ X N scope c) (λ_=>rfl) hv;refine⟨_,tm hN hy hl hc S h1 (λc=>(m c).1) (λc D=>mN (p c) (j c).1 (r c).1) U G,λb F L H s τ θ Dd D O n R ⟨z,h,q⟩ E=>?_⟩;obtain⟨w,_,ca,o,_,e1,Z,e2,e3,v,h⟩:=bn5 h;cases h;refine T b F L H s τ θ (λM e=>M=w.1/\e=w.2) _ O R ⟨w,e1,rfl,rfl⟩ λJ I M l vs rs B nr R1 it hZ=>?_;obtain⟨rfl,rfl⟩:=hZ;refine k5 (Q:=λx I=>D.nx (L.set i (some x)) I) (a0:=([],[])) (Iv:=λk a s=>eh (ia C mt mk' mv') (w.1.drop k) a s=some o) (λw h=>w.u2 h) rfl (λc=>(m c).2) (λc=>yC (j c).2 (r c).2) O B nr R1 it (gd_ok Z) e2 e3 (λk d a s hd f=>by
  obtain⟨u,p,t⟩:=u6 _ _ _ k hd f;obtain⟨l,e4,p⟩:=bnd p;exact⟨l,e4,u,p,t⟩) λH' D' a e R' f=>by
  have f:eh (ia C mt mk' mv') (w.1.drop w.1.length) a e=some o:=f;rw[acj]at f;cases f;exact E.nx _ _ _ (Rel.store (Rel.drops (Rel.xn R' B) B) n (gd_ok v) hw) q
end
end
section
section
variable(t:Tb)
mutual
def u7:E->Ck
 |.nm i=>λN sc e=>uL N sc i e
 |.int k=>λN sc e=>(ja e).any λj=>decide (j=k)
 |.ix a b=>λN sc e=>(dE e).any λz=>!bT z.2&&u7 a N sc z.1&&u7 b N sc z.2
 |.tup es=>λN sc e=>(cm e).any λxs=>u9 es N sc xs
 |.pg i ps=>λN sc e=>cX t N sc i ps e
 |_=>λ_ _ _=>false
def u9:Es->List Str->Scope->List Expr->Bool
 |.nil=>λN sc xs=>xs.isEmpty
 |.cons a es=>λN sc xs=>(lx xs).any λz=>!isStar z.1&&u7 a N sc z.1&&u9 es N sc z.2
end
end
section
variable{t:Tb}{C:Ct}
mutual
theorem Hi:∀(m:E) X e,Cy t C X->u7 t m X.N X.env.scope e=true->PDq X e (iM C m)
 |.nm i,X,e,c,h=>by obtain⟨x,p,rfl,h⟩:=eF h;obtain⟨d,g,o,f⟩:=bR h;exact IP d g o f
 |.int k,X,e,c,h=>by obtain⟨j,d,h⟩:=anyT h;obtain⟨_,_,rfl⟩:=asInt_ok d;have:=Daa h;subst this;exact FV
 |.ix a b,X,e,c,h=>by obtain⟨q,d,h⟩:=anyT h;obtain⟨_,rfl⟩:=asSub_ok d;obtain⟨n,l,r⟩:=an3 h;exact IR (jP (bI n)) (Hi a X _ c l) (Hi b X _ c r)
 |.tup es,X,e,c,h=>by obtain⟨q,d,h⟩:=anyT h;obtain⟨_,_,rfl⟩:=asTup_ok d;exact FW (Gj es X _ c h)
 |.pg i ps,X,e,c,h=>IQ (bA c ps _ h)
 |.str _,X,e,c,h|.bl _,X,e,c,h|.non,X,e,c,h|.gc _,X,e,c,h|.bop _ _ _,X,e,c,h|.cat _ _,X,e,c,h|.rep _ _,X,e,c,h|.cmp _ _ _,X,e,c,h|.cmp2 _ _ _ _ _,X,e,c,h|.isn _ _,X,e,c,h|.and _ _,X,e,c,h|.or _ _,X,e,c,h|.not _,X,e,c,h|.neg _,X,e,c,h|.ife _ _ _,X,e,c,h|.lst _,X,e,c,h|.sll _ _ _,X,e,c,h|.call _ _,X,e,c,h|.blt _ _,X,e,c,h|.bnw _ _,X,e,c,h|.idx _ _,X,e,c,h|.dgt _ _,X,e,c,h|.sdd _,X,e,c,h|.ln _,X,e,c,h|.nen _,X,e,c,h|.frz _,X,e,c,h|.dnew,X,e,c,h|.pl _ _,X,e,c,h|.pin _ _ _ _,X,e,c,h|.din _ _ _ _,X,e,c,h|.comp _ _ _ _ _ _,X,e,c,h=>absurd h aaf
theorem Gj:∀(m:Es) X xs,Cy t C X->u9 t m X.N X.env.scope xs=true->PDqs X xs (mY C m)
 |.nil,X,xs,c,h=>by
  cases xs with
  |nil=>exact Cz
  |cons _ _=>cases h
 |.cons a es,X,xs,c,h=>by obtain⟨z,e,h⟩:=anyT h;have:=con1_ok e;subst this;obtain⟨d,b,f⟩:=an3 h;exact yk (bI d) (Hi a X _ c b) (Gj es X _ c f)
end
end
def rG(e:PySem.Stmt):Option (Expr):=if h:e.ctorIdx=24 then some (@PySem.Stmt.Expr.elim (λ_=>Expr) e h λx _=>x) else none
theorem jY(h:rG e=some z):∃p,e=.Expr z p:=by
 by_cases a:e.ctorIdx=24
 ·revert h;exact@PySem.Stmt.Expr.elim (λe=>rG e=some z->∃p,e=.Expr z p) e a λx p h=>by cases h;exact⟨p,rfl⟩
 ·rw[rG,dif_neg a]at h;cases h
def yD(e:PySem.Stmt):Option (List Expr×Expr):=if h:e.ctorIdx=5 then some (@PySem.Stmt.Assign.elim (λ_=>List Expr×Expr) e h λa x _=>(a,x)) else none
theorem asAs_ok(h:yD e=some z):∃p,e=.Assign z.1 z.2 p:=by
 by_cases a:e.ctorIdx=5
 ·revert h;exact@PySem.Stmt.Assign.elim (λe=>yD e=some z->∃p,e=.Assign z.1 z.2 p) e a λb x p h=>by cases h;exact⟨p,rfl⟩
 ·rw[yD,dif_neg a]at h;cases h
def vc(e:PySem.Stmt):Option (Expr×Operator×Expr):=if h:e.ctorIdx=7 then some (@PySem.Stmt.AugAssign.elim (λ_=>Expr×Operator×Expr) e h λt o x _=>(t,o,x)) else none
theorem oY(h:vc e=some z):∃p,e=.AugAssign z.1 z.2.1 z.2.2 p:=by
 by_cases a:e.ctorIdx=7
 ·revert h;exact@PySem.Stmt.AugAssign.elim (λe=>vc e=some z->∃p,e=.AugAssign z.1 z.2.1 z.2.2 p) e a λt o x p h=>by cases h;exact⟨p,rfl⟩
 ·rw[vc,dif_neg a]at h;cases h
def yF(e:PySem.Stmt):Option (Option Expr):=if h:e.ctorIdx=3 then some (@PySem.Stmt.Return.elim (λ_=>Option Expr) e h λo _=>o) else none
theorem yG(h:yF e=some z):∃p,e=.Return z p:=by
 by_cases a:e.ctorIdx=3
 ·revert h;exact@PySem.Stmt.Return.elim (λe=>yF e=some z->∃p,e=.Return z p) e a λo p h=>by cases h;exact⟨p,rfl⟩
 ·rw[yF,dif_neg a]at h;cases h
def yH(e:PySem.Stmt):Option (Expr×List Stmt×List Stmt):=if h:e.ctorIdx=12 then some (@PySem.Stmt.If.elim (λ_=>Expr×List Stmt×List Stmt) e h λc a b _=>(c,a,b)) else none
theorem yI(h:yH e=some z):∃p,e=.If z.1 z.2.1 z.2.2 p:=by
 by_cases d:e.ctorIdx=12
 ·revert h;exact@PySem.Stmt.If.elim (λe=>yH e=some z->∃p,e=.If z.1 z.2.1 z.2.2 p) e d λc a b p h=>by cases h;exact⟨p,rfl⟩
 ·rw[yH,dif_neg d]at h;cases h
def yJ(e:PySem.Stmt):Option (Expr×List Stmt×List Stmt):=if h:e.ctorIdx=11 then some (@PySem.Stmt.While.elim (λ_=>Expr×List Stmt×List Stmt) e h λc a b _=>(c,a,b)) else none
theorem yK(h:yJ e=some z):∃p,e=.While z.1 z.2.1 z.2.2 p:=by
 by_cases d:e.ctorIdx=11
 ·revert h;exact@PySem.Stmt.While.elim (λe=>yJ e=some z->∃p,e=.While z.1 z.2.1 z.2.2 p) e d λc a b p h=>by cases h;exact⟨p,rfl⟩
 ·rw[yJ,dif_neg d]at h;cases h
def yL(e:PySem.Stmt):Option (Expr×Expr×List Stmt×List Stmt):=if h:e.ctorIdx=9 then some (@PySem.Stmt.For.elim (λ_=>Expr×Expr×List Stmt×List Stmt) e h λg i a b _=>(g,i,a,b)) else none
theorem yM(h:yL e=some z):∃p,e=.For z.1 z.2.1 z.2.2.1 z.2.2.2 p:=by
 by_cases c:e.ctorIdx=9
 ·revert h;exact@PySem.Stmt.For.elim (λe=>yL e=some z->∃p,e=.For z.1 z.2.1 z.2.2.1 z.2.2.2 p) e c λg i a b p h=>by cases h;exact⟨p,rfl⟩
 ·rw[yL,dif_neg c]at h;cases h
def Gk(s:Stmt):Bool:=decide (s.ctorIdx=27)
theorem yN(h:Gk s=true):∃p,s=.Continue p:=@Stmt.Continue.elim (λs=>∃p,s=.Continue p) s (Daa h) λp=>⟨p,rfl⟩
def Gm(s:Stmt):Bool:=decide (s.ctorIdx=26)
theorem yO(h:Gm s=true):∃p,s=.Break p:=@Stmt.Break.elim (λs=>∃p,s=.Break p) s (Daa h) λp=>⟨p,rfl⟩
def lC(s:Stmt):Option (Expr×Expr):=(yD s).bind λz=>(dX z.1).bind λt=>some (t,z.2)
theorem cP{z}(h:lC s=some z):∃p,s=.Assign [z.1] z.2 p:=by obtain⟨c,t,b,a,h⟩:=bn2 h;cases h;obtain⟨d,e⟩:=c;obtain⟨p,rfl⟩:=asAs_ok b;have:=one1_ok a;simp only at this;subst this;exact⟨p,rfl⟩
def Gn(a:Str)(s:Stmt):Option (Str×List Expr×Pos×Pos):=(rG s).bind λe=>(CK e).bind λz=>if sEq z.2.1 a then some (z.1,z.2.2) else none
theorem yP{z}(h:Gn m0 s=some z):∃p a,s=.Expr (.Call (.Attribute (.Name z.1 p) m0 z.2.2.1) z.2.1 [] z.2.2.2) a:=by
 obtain⟨e,c,f,d,h⟩:=bn2 h;cases b:sEq c.2.1 m0 with
 |false=>rw[b]at h;cases h
 |true=>rw[b]at h;cases h;obtain⟨p,rfl⟩:=oV d;obtain⟨a,rfl⟩:=jY f;rw[cD b];exact⟨p,a,rfl⟩
def vd(s:Stmt):Option (Expr×Expr×Pos×Pos):=(rG s).bind λe=>(eE e).bind λz=>(i9 z.1).bind λa=>(dX z.2.1).bind λx=>if z.2.2.1.isEmpty&&sEq a.2.1 "append" then some (a.1,x,a.2.2,z.2.2.2) else none
theorem lF{z}(h:vd s=some z):∃p,s=.Expr (.Call (.Attribute z.1 "append" z.2.2.1) [z.2.1] [] z.2.2.2) p:=by
 obtain⟨e,c,a,x,r,j,n,k,h⟩:=bn4 h;obtain⟨f,t,d,q⟩:=c;obtain⟨o,m,u⟩:=a;cases b:(d.isEmpty&&sEq m "append") with
 |false=>simp only[b]at h;cases h
 |true=>
  simp only[b]at h;cases h;have i:=asAtt_ok n;have g:=one1_ok k;have l:=cD (an2 b).2;cases d with
  |cons _ _=>cases b
  |nil=>simp only at i g;subst l;subst g;subst i;obtain⟨p,rfl⟩:=jY r;exact⟨p,by rw[dU j]⟩
def cmpE:E->Bool
 |.comp _ _ _ _ _ _=>true|.frz a=>(match a with|.comp _ _ _ _ _ _=>true|_=>false)|_=>false
def setB(t:Tb)(a:Nat->Bool)(N:List Str)(sc:Scope)(i:Nat)(m:E)(x:Str)(p:Pos)(e:Expr):Bool:=iT a N sc true N.length i x&&(aR t m).1 N sc e&&match m4 e with
 |some z=>!swC sc x p z.2.2.2 z.2.2.1||cmpE m
 |none=>!fV e
def vf(e:PySem.Expr):Option (Str×Pos):=if h:e.ctorIdx=23 then some (@PySem.Expr.Name.elim (λ_=>Str×Pos) e h λx p=>(x,p)) else none
theorem oZ(h:vf e=some z):e=.Name z.1 z.2:=by
 by_cases a:e.ctorIdx=23
 ·revert h;exact@PySem.Expr.Name.elim (λe=>vf e=some z->e=.Name z.1 z.2) e a λx p h=>by cases h;exact rfl
 ·rw[vf,dif_neg a]at h;cases h
section
variable(t:Tb)
mutual
def Gp(d:Nat->Bool):S'->List Str->Scope->Stmt->Bool
 |.ex m=>λN sc s=>(rG s).any λe=>!fV e&&(aR t m).1 N sc e
 |.set i m=>λN sc s=>(lC s).any λz=>(vf z.1).any λx=>setB t d N sc i m x.1 x.2 z.2
 |.asg g m=>λN sc s=>(lC s).any λz=>isTup z.1&&z8 z.1 z.2 sc&&(aR t m).1 N sc z.2&&uP d N sc true N.length g z.1
 |.par is ms=>λN sc s=>(lC s).any λz=>(cm z.1).any λts=>(cm z.2).any λvs=>jX t ms N sc vs&&decide (Hh ts vs sc=some (some (rD ts sc)))&&(match is with
  |[i,j]=>(gw ts).any λw=>(gw vs).any λ_=>(cC w.1).any λx=>(cC w.2).any λy=>decide (rD ts sc=[x,y])&&decide (i≠j)&&(decide (N[i]?=some x)&&decide (N[j]?=some y))&&(kindB sc x .local&&kindB sc y .local)&&(d i&&d j)
  |[i,j,k]=>(B9 ts).any λw=>(B9 vs).any λ_=>(cC w.1).any λx=>(cC w.2.1).any λy=>(cC w.2.2).any λz=>decide (rD ts sc=[x,y,z])&&(decide (i≠j)&&decide (i≠k)&&decide (j≠k))&&(decide (N[i]?=some x)&&decide (N[j]?=some y)&&decide (N[k]?=some z))&&(kindB sc x .local&&kindB sc y .local&&kindB sc z .local)&&(d i&&d j&&d k)
  |_=>false)
 |.aug i o m=>λN sc s=>(vc s).any λz=>(cC z.1).any λx=>IY o z.2.1&&iT d N sc true N.length i x&&(aR t m).1 N sc z.2.2
 |.agl i m=>λN sc s=>(vc s).any λz=>(cC z.1).any λx=>CJ z.2.1&&iT d N sc true N.length i x&&(aR t m).1 N sc z.2.2
 |.ret m=>λN sc s=>(yF s).any λo=>o.any λe=>(aR t m).1 N sc e
 |.iff c a b=>λN sc s=>(yH s).any λz=>(aR t c).2 N sc z.1&&gf d a N sc z.2.1&&gf d b N sc z.2.2
 |.whl c b=>λN sc s=>(yJ s).any λz=>(aR t c).2 N sc z.1&&gf d b N sc z.2.1&&z.2.2.isEmpty
 |.fr g it b=>λN sc s=>(yL s).any λz=>!isSet z.2.1&&yz t it N sc z.1 z.2.1&&uP d N sc true N.length g z.1&&gf d b N sc z.2.2.1&&z.2.2.2.isEmpty
 |.cont=>λN sc s=>Gk s
 |.brk=>λN sc s=>Gm s
 |.app i m=>λN sc s=>(vd s).any λz=>(cC z.1).any λx=>wR N sc i x&&(z.2.2.1.endLine==z.2.2.2.line)&&!isStar z.2.1&&(aR t m).1 N sc z.2.1
 |.ins i k m=>λN sc s=>(Gn "insert" s).any λz=>(gw z.2.1).any λy=>wR N sc i z.1&&(z.2.2.1.endLine==z.2.2.2.line)&&(!isStar y.1&&!isStar y.2)&&(aR t k).1 N sc y.1&&(aR t m).1 N sc y.2
 |.apd i ps m=>λN sc s=>(vd s).any λz=>!isCall z.1&&(z.2.2.1.endLine==z.2.2.2.line)&&!isStar z.2.1&&cX t N sc i ps z.1&&u7 t m N sc z.2.1
 |.sti i k m=>λN sc s=>(lC s).any λz=>(dE z.1).any λw=>(cC w.1).any λx=>wR N sc i x&&!bT w.2&&!fV z.2&&(aR t m).1 N sc z.2&&(aR t k).1 N sc w.2
 |.sdk i k m=>λN sc s=>(lC s).any λz=>(dE z.1).any λw=>(cC w.1).any λx=>wR N sc i x&&!fV z.2&&(aR t m).1 N sc z.2&&(aR t k).1 N sc w.2
 |.sdc i nt fr it tg ke ve=>λN sc s=>(lC s).any λz=>(vf z.1).any λx=>(z5 z.2).any λw=>(λf=>iT d N sc true N.length i x.1&&oO f nt fr N w.2.2.2.2.2.1 sc&&!isSet w.2.2.2.1&&yz t it N sc w.2.2.1 w.2.2.2.1&&swC sc x.1 x.2 w.2.2.2.2.2.2 w.2.2.2.2.2.1&&(decide f.Nodup&&w.2.2.2.2.1.isEmpty&&uP (λ_=>true) f (rC w.2.2.2.2.2.1 sc) false nt tg w.2.2.1&&(aR t ke).1 f (rC w.2.2.2.2.2.1 sc) w.1&&(aR t ve).1 f (rC w.2.2.2.2.2.1 sc) w.2.1)) (CG w.2.2.1++fr.filterMap λj=>N[j]?)
def gf(a:Nat->Bool):Ss->List Str->Scope->List Stmt->Bool
 |.nil=>λN sc s=>s.isEmpty
 |.cons m ms=>λN sc s=>(lx s).any λz=>Gp a m N sc z.1&&gf a ms N sc z.2
 |.alo m i ps qs j k ms=>λN sc s=>(lx s).any λy=>(lC y.1).any λz=>(cm z.1).any λts=>(gw ts).any λn=>(cC n.1).any λx=>(cC n.2).any λc=>(uG z.2).any λw=>(cm w.2.1).any λe=>(gw e).any λp=>(cm w.2.2).any λb=>(gw b).any λo=>(i8 o.1).any λls=>(ja o.2).any λd=>(iT a N sc true N.length j x&&iT a N sc true N.length k c&&(ls.isEmpty&&decide (d=0))&&(!isStar p.1&&!isStar p.2)&&(aR t m).2 N sc w.1)&&cX t N sc i ps p.1&&cX t N sc i qs p.2&&gf (λl=>a l&&!decide (l=j)) ms N sc y.2
end
end
structure Cs (t:Tb)(C:Ct)(W:Nat->Prop)(ok:Nat->Bool)(X:Cx):Prop where
 c:Cy t C X
 nd:X.N.Nodup
 fn:∀x,X.fn x=true
 pass:PassesOwn (model X.prog X.w) X.A X.env X.xe
 hw:∀i,ok i=true->¬ W i
section
variable{t:Tb}{C:Ct}
theorem Gq:swappedStores [.Subscript o i p] e env=pure none:=by cases e<;>rfl
theorem pb{b:Stmt}(h:PDs X W b (BZ is (iQ C ms))):PDs X W b (gA C (.par is ms)):=h.imp λD e ⟨y,h,q⟩=>by obtain⟨z,o,_,c,d,a,h⟩:=bn3 h;have a:=gd_ok a;cases h;exact⟨z,c,o.1,o.2,d,a.1,a.2,q⟩
theorem vg(c:Cs t C W ok X){z}(g:m4 e=some z)(s:Sto X W X.N.length i x)(a:swC X.env.scope x p z.2.2.2 z.2.2.1=true)
  (h:(aR t (.comp nt fr it tg ifs el)).1 X.N X.env.scope e=true):PDx X i (.Assign [.Name x p] e pos) (aC C (.comp nt fr it tg ifs el)):=by
 have m:X.env.scope.names.lookup x=some .local:=by unfold swC at a;have:=(an4 a).2.1;simpa using this
 obtain⟨w,r,h⟩:=anyT h;have j:=lz r;subst j;cases g;obtain⟨k,b,f,n,d⟩:=an5 h;obtain⟨u,o,l⟩:=an3 d;exact CO c.nd s.hN m c.c.calm (ip k) (jV (bI f)) (Hg it X _ _ c.c n) (λq=>eZ c.c.calm (Daa b) (λz=>by cases z) (λ_ _ z=>z) u) (λq=>JN ifs (dQ X _ w.2.2.2.2.1 q) _ _ c.c.comp (aX el) o l) (by rw[uY,a])
theorem yQ(c:Cs t C W ok X)(h:setB t ok X.N X.env.scope i m x p e=true):PDs X W (.Assign [.Name x p] e pos) (gA C (.set i m)):=by
 obtain⟨q,g,b⟩:=an3 h;have s:=cA (λ_=>c.fn) c.hw q;cases f:m4 e with
 |none=>rw[f]at b;exact zV c.nd s (jQ (bI b)) ((aX m).v X _ c.c g)
 |some z=>
  rw[f]at b;cases d:swC X.env.scope x p z.2.2.2 z.2.2.1 with
  |false=>have k:=oK f;exact zV c.nd s (by rw[k,uY,d]) ((aX m).v X _ c.c g)
  |true=>
   have b:(!swC X.env.scope x p z.2.2.2 z.2.2.1||cmpE m)=true:=b;rw[d]at b;have b:cmpE m=true:=b;cases m with
   |comp u l r n j o=>exact uZ s.nw (vg c f s d g)
   |frz a=>
    cases a with
    |comp u l r n j o=>exact uZ s.nw (Gh (vg c f s d g))
    |_=>cases b
   |_=>cases b
mutual
theorem Kx{W:Nat->Prop}{ok:Nat->Bool}:∀(m:S') X s,Cs t C W ok X->Gp t ok m X.N X.env.scope s=true->PDs X W s (gA C m)
 |.ex m,X,s,c,h=>by obtain⟨e,f,d⟩:=anyT h;obtain⟨p,rfl⟩:=jY f;exact IE (bI (an2 d).1) ((aX m).v X _ c.c (an2 d).2)
 |.set i m,X,s,c,h=>by obtain⟨z,x,f,A,d⟩:=ay2 h;obtain⟨p,rfl⟩:=cP f;rw[oZ A];exact yQ c d
 |.asg g m,X,s,c,h=>by
  obtain⟨z,f,d⟩:=anyT h;obtain⟨p,rfl⟩:=cP f;obtain⟨l,n,B,D⟩:=an4 d;refine FN ?_ (uX n) ?_ ((aX m).v X _ c.c B) (eZ c.c.calm c.nd (λ_=>c.fn) c.hw D)
  ·obtain⟨_,_,_,e⟩:=eY l;rw[e];cases z.2<;>rfl
  obtain⟨_,_,_,e⟩:=eY l;rw[e];rfl
 |.par is ms,X,s,c,h=>by
  obtain⟨z,ts,vs,f,A,Q,d⟩:=ay3 h;obtain⟨p,rfl⟩:=cP f;obtain⟨z1,z2⟩:=z;obtain⟨k1,p1,e1⟩:=asTup_ok A;obtain⟨k2,p2,e2⟩:=asTup_ok Q;simp only at e1 e2;subst e1 e2;obtain⟨l,r,d⟩:=an3 d;have H:=Daa r
  match is,d with
  |[i,j],d=>
   obtain⟨w,u,x,y,S,M,U,T,d⟩:=ay4 d;have e3:=two2_ok S;have e4:=two2_ok M;obtain⟨w1,w2⟩:=w;obtain⟨q1,Y⟩:=asNm_ok U;obtain⟨q2,Z⟩:=asNm_ok T;simp only at e3 e4 Y Z;subst Y Z;subst e3 e4;obtain⟨c1,c2,c3,c4,c5⟩:=an5 d;rw[Daa c1]at H;refine pb (xQ (λk G=>?_) c.c.calm c.nd (Daa (an2 c3).1) (Daa (an2 c3).2) (Daa c2) (aI (an2 c4).1) (aI (an2 c4).2) (m8 H) rfl (CN ms X _ c.c l));rcases aab.mp G with rfl|G
   ·exact c.hw _ (an2 c5).1
   ·rw[aaw.mp G];exact c.hw _ (an2 c5).2
  |[i,j,k],d=>
   obtain⟨w,u,x,y,z,S,M,U,T,b5,d⟩:=ay5 d;have e3:=thr3_ok S;have e4:=thr3_ok M;obtain⟨w1,w2,w3⟩:=w;obtain⟨q1,Y⟩:=asNm_ok U;obtain⟨q2,Z⟩:=asNm_ok T;obtain⟨q3,e7⟩:=asNm_ok b5;simp only at e3 e4 Y Z e7;subst Y Z e7;subst e3 e4;obtain⟨c1,c2,c3,c4,c5⟩:=an5 d;obtain⟨d1,d2,d3⟩:=an3 c2;obtain⟨d4,d5,d6⟩:=an3 c3;obtain⟨d7,d8,d9⟩:=an3 c4;obtain⟨f1,f2,f3⟩:=an3 c5;rw[Daa c1]at H;refine pb (tR (λk G=>?_) c.c.calm c.nd (Daa d4) (Daa d5) (Daa d6) (Daa d1) (Daa d2) (Daa d3) (aI d7) (aI d8) (aI d9) (m8 H) rfl (CN ms X _ c.c l));rcases aab.mp G with rfl|G
   ·exact c.hw _ f1
   ·rcases aab.mp G with rfl|G
    ·exact c.hw _ f2
    ·rw[aaw.mp G];exact c.hw _ f3
  |[],d=>exact absurd d aaf
  |[_],d=>exact absurd d aaf
  |_::_::_::_::_,d=>exact absurd d aaf
 |.aug i o m,X,s,c,h=>by obtain⟨z,x,f,A,d⟩:=ay2 h;obtain⟨p,rfl⟩:=oY f;obtain⟨q,e⟩:=asNm_ok A;obtain⟨l,r,n⟩:=an3 d;rw[e,uM l];exact FP c.nd (cA (λ_=>c.fn) c.hw r) ((aX m).v X _ c.c n)
 |.agl i m,X,s,c,h=>by obtain⟨z,x,f,A,d⟩:=ay2 h;obtain⟨p,rfl⟩:=oY f;obtain⟨q,e⟩:=asNm_ok A;obtain⟨l,r,n⟩:=an3 d;rw[e,oU l];exact FQ c.nd (cA (λ_=>c.fn) c.hw r) ((aX m).v X _ c.c n)
 |.ret m,X,s,c,h=>by obtain⟨o,e,f,A,d⟩:=ay2 h;obtain⟨p,rfl⟩:=yG f;subst A;exact FM ((aX m).v X _ c.c d)
 |.iff z a b,X,s,c,h=>by obtain⟨q,f,d⟩:=anyT h;obtain⟨p,rfl⟩:=yI f;obtain⟨l,r,n⟩:=an3 d;exact IF ((aX z).t X _ c.c l) (m9 a X _ c r) (m9 b X _ c n)
 |.whl z b,X,s,c,h=>by
  obtain⟨q,f,d⟩:=anyT h;obtain⟨p,rfl⟩:=yK f;obtain⟨l,r,n⟩:=an3 d;obtain⟨q1,q2,q3⟩:=q;cases q3 with
  |nil=>exact yi c.pass ((aX z).t X _ c.c l) (m9 b X _ c r)
  |cons _ _=>cases n
 |.fr g it b,X,s,c,h=>by
  obtain⟨q,f,d⟩:=anyT h;obtain⟨p,rfl⟩:=yM f;obtain⟨l,r,n,B,D⟩:=an5 d;obtain⟨q1,q2,q3,q4⟩:=q;cases q4 with
  |nil=>exact FO c.pass c.c.calm (jV (bI l)) (Hg it X _ _ c.c r) (eZ c.c.calm c.nd (λ_=>c.fn) c.hw n) (m9 b X _ c B)
  |cons _ _=>cases D
 |.cont,X,s,c,h=>by obtain⟨p,rfl⟩:=yN h;exact Cv
 |.brk,X,s,c,h=>by obtain⟨p,rfl⟩:=yO h;exact FL
 |.app i m,X,s,c,h=>by obtain⟨z,x,f,A,d⟩:=ay2 h;obtain⟨p,rfl⟩:=lF f;obtain⟨q,e⟩:=asNm_ok A;obtain⟨l,r,n,B⟩:=an4 d;obtain⟨I,L,J,O⟩:=bR l;rw[e];exact F2 I L J O r (bI n) ((aX m).v X _ c.c B)
 |.ins i k m,X,s,c,h=>by obtain⟨z,y,f,A,d⟩:=ay2 h;obtain⟨p,p',rfl⟩:=yP f;obtain⟨l,r,n,B,D⟩:=an5 d;obtain⟨S,M⟩:=an2 n;obtain⟨I,L,J,O⟩:=bR l;rw[two2_ok A];exact F3 I L J O r (bI S) (bI M) ((aX k).v X _ c.c B) ((aX m).v X _ c.c D)
 |.apd i ps m,X,s,c,h=>by obtain⟨z,f,d⟩:=anyT h;obtain⟨p,rfl⟩:=lF f;obtain⟨l,r,n,B,D⟩:=an5 d;exact F4 (yq (bI l)) r (bI n) (bA c.c ps _ B) (Hi m X _ c.c D)
 |.sti i k m,X,s,c,h=>by obtain⟨z,w,x,f,A,Q,d⟩:=ay3 h;obtain⟨p,rfl⟩:=cP f;obtain⟨q,e⟩:=asSub_ok A;obtain⟨q',e'⟩:=asNm_ok Q;obtain⟨l,r,n,B,D⟩:=an5 d;obtain⟨I,L,J,O⟩:=bR l;rw[e,e'];exact F5 I L J O (bI r) (jQ (bI n)) Gq ((aX m).v X _ c.c B) ((aX k).v X _ c.c D)
 |.sdk i k m,X,s,c,h=>by obtain⟨z,w,x,f,A,Q,d⟩:=ay3 h;obtain⟨p,rfl⟩:=cP f;obtain⟨q,e⟩:=asSub_ok A;obtain⟨q',e'⟩:=asNm_ok Q;obtain⟨l,r,n,B⟩:=an4 d;obtain⟨I,L,J,O⟩:=bR l;rw[e,e'];exact F6 (by have:=c.c.units;omega) I L J O (jQ (bI r)) ((aX m).v X _ c.c n) ((aX k).v X _ c.c B)
 |.sdc i nt fr it tg ke ve,X,s,c,h=>by
  obtain⟨z,x,w,f,A,Q,d⟩:=ay3 h;obtain⟨p,rfl⟩:=cP f;obtain⟨k0,k1⟩:=an2 d;obtain⟨l,r,n,B,D⟩:=an5 k0;obtain⟨S,M,U,T,b5⟩:=an5 k1;have s:=cA (W:=W) (λ_=>c.fn) c.hw l;have hl:X.env.scope.names.lookup x.1=some .local:=by unfold swC at D;have:=(an4 D).2.1;simpa using this
  rw[oZ A,uT Q,abh.mp M];exact Gi s.nw c.nd s.hN hl c.c.calm (ip r) (jV (bI n)) (by show pure (swC X.env.scope x.1 x.2 w.2.2.2.2.2.2 w.2.2.2.2.2.1)=_;rw[D]) (λq=>by have:=(c.c.comp (q:=q) (N:=CG w.2.2.1++fr.filterMap λj=>X.N[j]?) (sc:=w.2.2.2.2.2.1)).units;omega) (Hg it X _ _ c.c B) (λq=>eZ (X:=dQ X _ w.2.2.2.2.2.1 q) (fn:=false) c.c.calm (Daa S) (λz=>by cases z) (λ_ _ z=>z) U) (λq=>(aX ke).v (dQ X _ w.2.2.2.2.2.1 q) _ c.c.comp T) λq=>(aX ve).v (dQ X _ w.2.2.2.2.2.1 q) _ c.c.comp b5
theorem m9{W:Nat->Prop}{l:Nat->Bool}:∀(m:Ss) X s,Cs t C W l X->gf t l m X.N X.env.scope s=true->PDss X W s (iS C m)
 |.nil,X,s,c,h=>by
  cases s with
  |nil=>exact Cu
  |cons _ _=>cases h
 |.cons m ms,X,s,c,h=>by obtain⟨z,b,a⟩:=anyT h;have:=con1_ok b;subst this;exact yh (Kx m X _ c (an2 a).1) (m9 ms X _ c (an2 a).2)
 |.alo m i ps qs j k ms,X,s,c,h=>by obtain⟨y,z,ts,n,x,L,b,u,S,M,a⟩:=ay5 h;obtain⟨x',w,pq,p,lr,D,H,h7,q,h9,a⟩:=ay5 a;obtain⟨o,ls,d,O,i2,i3,a⟩:=ay3 a;obtain⟨I,r,A,U⟩:=an4 a;obtain⟨b1,Z,g,f,b5⟩:=an5 I;have:=con1_ok L;subst this;obtain⟨_,G⟩:=cP b;obtain⟨_,_,e2⟩:=asTup_ok u;obtain⟨_,B⟩:=asNm_ok M;obtain⟨_,Q⟩:=asNm_ok D;obtain⟨_,e6⟩:=oH H;obtain⟨_,_,Y⟩:=asTup_ok h7;obtain⟨_,_,T⟩:=asTup_ok h9;obtain⟨_,J⟩:=ij i2;obtain⟨_,_,v⟩:=asInt_ok i3;rw[G,e2,two2_ok S,B,Q,e6,Y,two2_ok q,T,two2_ok O,J,v,abh.mp (an2 g).1,Daa (an2 g).2];exact CP c.c.calm c.nd (cA (λ_=>c.fn) c.hw b1) (cA (λ_=>c.fn) c.hw Z) (bI (an2 f).1) (bI (an2 f).2) ((aX m).t X _ c.c b5) (bA c.c ps _ r) (bA c.c qs _ A) (m9 ms X _ ⟨c.c,c.nd,c.fn,c.pass,λk e z=>z.elim (c.hw k (an2 e).1) (Dad (bI (an2 e).2))⟩ U)
end
end
end
section
structure Df where
 name:Str
 qual:Str
 st:Stmt
 ps:List Str
 N:List Str
 fn:Fn
def CQ(N ps:List Str)(sc:Scope):Bool:=decide (sc.kind=.function)&&!sc.isCoroutine&&!sc.isGenerator&&decide N.Nodup&&decide (N.take ps.length=ps)&&ps.all (λx=>yo sc x)&&sc.names.all λy=>!decide (y.2=.free)
theorem yR(h:CQ N ps sc=true):FnScope N ps sc:=by unfold CQ at h;simp only[aaF,abq,abW,decide_eq_true_eq,decide_eq_false_iff_not]at h;obtain⟨⟨⟨⟨⟨⟨e,c⟩,g⟩,b⟩,i⟩,a⟩,f⟩:=h;exact⟨e,c,g,b,i,λx d=>oM (a x d),f⟩
def nh(ios:List Bool)(i:Nat):Bool:=!decide (ios[i]?=some true)
def yS(t:Tb)(d:Df):Bool:=CQ d.N d.ps (aN d.st)&&decide (d.fn.io.length=d.ps.length)&&decide (d.fn.n=d.N.length)&&gf t (nh d.fn.io) d.fn.body d.N (aN d.st) (bZ d.st)
structure Md (K:Waa)(mg:Str->Option Value)(t:Tb)(p:Pg)(D:Nat->Option Df):Prop where
 df:∀j d,D j=some d->p.F j=some d.fn/\yS t d=true/\∃f fd,Fun K d.name d.qual d.st f fd/\Binds K fd d.ps [] /\
  (∀nm,t.fn j=some nm->mg nm=some (.ref f)/\PySem.W.keepIn K (.ref f)=true)/\(∀c m,t.me j=some (c,m)->Cls K (aU K c)/\Meth K (aU K c) m f)/\(∀c,t.mk' j=some c->Mk K (aU K c) f/\mg c=some (.ref (aU K c)))
 all:∀j,((t.fn j).isSome||(t.me j).isSome||(t.mk' j).isSome)=true->(D j).isSome=true
 gc:∀g nm,t.gc g=some nm->∃v u,mg nm=some u/\RelV v u/\∀S H,Fz K S H v (p.gv g)
 ng:∀x,t.nog x=true->mg x=none
 fl:∀c f,t.fld c f=true->Cls K (aU K c)/\mE K (aU K c) f
section
variable{P:Program}{w:World}{K:Waa}{mg:Str->Option Value}{base:Heap}{t:Tb}{p:Pg}{D:Nat->Option Df}
theorem lH(h:∀xs Q,¬ sp xs Q):FnD P w K mg base k f fd ps sp:=by have d:∀a H Q E,¬ toSp K sp a H Q E:=λa H Q E ⟨S,xs,A,_,_,_,_,z⟩=>h _ _ z;exact⟨⟨λa H Q E z=>(d _ _ _ _ z).elim,λA b s H c e a Q E _ _ _ _ z=>(d _ _ _ _ z).elim⟩,λxs P R _ z=>(h _ _ z).elim⟩
theorem lI(h:∀xs,g xs=none):∀xs Q,¬ spC g xs Q:=λxs Q ⟨w,e,_⟩=>by rw[h]at e;cases e
theorem Md.ok(M:Md K mg t p D):∀(n:Nat),(∀(j:Nat) (d:Df),D j=some d->∀(f:Addr) (r:FuncData),Fun K d.name d.qual d.st f r->FnD P w K mg base (n+1) f r d.ps (spC (p.call n j))) /\
  (∀(j:Nat) (d:Df),D j=some d->∀(f:Addr) (r:FuncData),Fun K d.name d.qual d.st f r->FnD P w K mg base n f r d.ps (spC (p.mak n j)))
 |0=>⟨λj d _ f r _=>lH (lI λ_=>rfl),λj d _ f r _=>lH (lI λ_=>rfl)⟩
 |n+1=>by
  obtain⟨v,O⟩:=Md.ok M n;refine⟨λj d J f r F=>?_,λj d J f r F=>v j d J f r F⟩;obtain⟨h1,I,_⟩:=M.df j d J;unfold yS at I;simp only[aaF,decide_eq_true_eq]at I;obtain⟨⟨⟨g1,Z⟩,g3⟩,g4⟩:=I;have S:=yR g1;refine F.okD S (uD _) Z (λxs Q ⟨z,e,_⟩=>?_) λG A g s H E B xs Q ⟨z,e,q⟩=>?_
  ·rw[Pg.eu,h1]at e;simp only at e;split at e
   ·rename_i hl;rw[hl];exact Z
   ·cases e
  ·have c:Cy t (p.ct n) (jy CX0 P w K mg base d.N d.qual (aN d.st) f G A g s H E).nox:=by
    refine⟨rfl,B.units,B.gd,λk nm h=>?_,λk c m h=>?_,λk c h=>?_,M.gc,M.ng,M.fl⟩
    ·obtain⟨l,b⟩:=abk.mp (M.all k (by rw[h];rfl));obtain⟨_,_,u,a,C,y,q1,_,_⟩:=M.df k l b;exact⟨n+1,u,a,l.ps,v k l b u a C,B,(q1 nm h).1,(q1 nm h).2,y⟩
    ·obtain⟨l,b⟩:=abk.mp (M.all k (by rw[h];simp));obtain⟨_,_,u,a,C,y,_,q2,_⟩:=M.df k l b;exact⟨(q2 c m h).1,n+1,u,a,l.ps,(q2 c m h).2,v k l b u a C,B,y⟩
    ·obtain⟨l,b⟩:=abk.mp (M.all k (by rw[h];simp));obtain⟨_,_,u,a,C,y,_,_,X⟩:=M.df k l b;exact⟨n,u,a,l.ps,(X c h).1,O k l b u a C,B,(X c h).2,y⟩
   have cs:Cs t (p.ct n) (WS d.fn.io) (nh d.fn.io) (jy CX0 P w K mg base d.N d.qual (aN d.st) f G A g s H E).nox:=
    ⟨c,S.nd,λ_=>rfl,PassesOwn.never,λi L z=>by
     unfold nh at L;simp only[abW,decide_eq_false_iff_not]at L;exact L z⟩
   refine⟨_,m9 d.fn.body _ _ cs g4,?_⟩;rw[Pg.eu,h1]at e;simp only at e;split at e
   ·unfold ya at e;obtain⟨x,Y,e⟩:=bnd e;rw[g3]at Y;refine⟨x,Y,?_⟩;obtain⟨fl,ρ⟩:=x;cases fl with
    |nx=>obtain⟨T,U,e⟩:=bnd e;cases e;exact⟨T,U,q⟩
    |rt o=>obtain⟨T,U,e⟩:=bnd e;cases e;exact⟨T,U,q⟩
    |bk=>cases e
    |ct=>cases e
   ·cases e
theorem Md.law(M:Md K mg t p D)(g:D j=some d)(F:Fun K d.name d.qual d.st f fd)
  (h:∀ns:List Int,ns.length<=63->∃ys,p.call n j [.fz (.list (ns.map PyData.int))]=some (.fz (.bool true),ys)):
  FnOk P w K mg base CX0 (n+1) f fd d.ps (λvs H Q _=>∃(a:Addr) (ns:List Int),vs=[.ref a]/\SqL K H a (ns.map V.int)/\ns.length<=63/\∀b,Q (.bl true) b):=by
 refine((M.ok n).1 j d g f fd F).ok.imp λvs H Q E e=>?_;obtain⟨a,ns,rfl,i,k,q⟩:=e;obtain⟨ys,m⟩:=h ns k;refine⟨λ_=>False,[.fz (.list (ns.map PyData.int))],[],λa z=>z.elim,λ_ _ _ z=>z,Ows.cons (.fz ((Fz.of0 (.lst i (DtAll.ints ns))).sub λc z=>z.elim (λz=>by cases z) id)) .nil,aa7,_,m,λv b B _ l _ _=>?_⟩;cases l with
 |cons r _=>
  cases r with
  |fz f=>cases f;exact q b
end
end
section
inductive Kd where|fn|me (c:Str)|ini (c:Str)
def Kd.fn?(d:Df):Kd->Option Str|.fn=>some d.name|_=>none
def Kd.me?(d:Df):Kd->Option (Str×Str)|.me c=>some (c,d.name)|_=>none
def Kd.ini?:Kd->Option Str|.ini c=>some c|_=>none
structure Pl where
 ds:List (Df×Kd)
 cs:List (Str×PyData)
 nog:List Str
 fld:List (Str×Str)
def Pl.tb(P:Pl):Tb where
 fn j:=(P.ds[j]?).bind λz=>z.2.fn? z.1
 me j:=(P.ds[j]?).bind λz=>z.2.me? z.1
 mk' j:=(P.ds[j]?).bind λz=>z.2.ini?
 gc g:=(P.cs[g]?).map (·.1)
 nog x:=P.nog.any λy=>sEq x y
 fld c f:=P.fld.any λy=>sEq c y.1&&sEq f y.2
def Pl.pg(P:Pl):Pg where
 F j:=(P.ds[j]?).map (·.1.fn)
 gv g:=((P.cs[g]?).map (·.2)).getD .none
 wf:=100000
def Pl.D(P:Pl)(j:Nat):Option Df:=(P.ds[j]?).map (·.1)
def Gs(K:Waa)(a:Str->Option Value)(d:Df)(f:Addr):Kd->Prop
 |.fn=>a d.name=some (.ref f)/\PySem.W.keepIn K (.ref f)=true
 |.me c=>Cls K (aU K c)/\Meth K (aU K c) d.name f
 |.ini c=>Mk K (aU K c) f/\a c=some (.ref (aU K c))
def z9(K:Waa)(b:Str->Option Value)(z:Df×Kd):Prop:=∃f a,Fun K z.1.name z.1.qual z.1.st f a/\Binds K a z.1.ps []/\Gs K b z.1 f z.2
section
variable{K:Waa}{mg:Str->Option Value}{P:Pl}
theorem mp{d c:Type}{o:Option d}{f:d->c}{b:c}(h:o.map f=some b):∃a,o=some a/\f a=b:=by
 cases o with
 |none=>cases h
 |some a=>exact⟨a,rfl,aaH h⟩
theorem Pl.md(G:(P.ds.all λz=>yS P.tb z.1)=true)(r:∀z∈P.ds,z9 K mg z)(A:∀z∈P.cs,∃v u,mg z.1=some u/\RelV v u/\∀S H,Fz K S H v z.2)(w:∀x∈P.nog,mg x=none)(L:∀z∈P.fld,Cls K (aU K z.1)/\mE K (aU K z.1) z.2):Md K mg P.tb P.pg P.D where
 df j d hj:=by
  obtain⟨z,b,l⟩:=mp hj;subst l;have o:=aaI b;obtain⟨f,C,s,q,i⟩:=r z o;refine⟨by show (P.ds[j]?).map _=_;rw[b];rfl,abq.mp G z o,f,C,s,q,λp a=>?_,λc m a=>?_,λc a=>?_⟩
  ·have a:((P.ds[j]?).bind λz=>z.2.fn? z.1)=some p:=a;rw[b]at a;obtain⟨d,k⟩:=z;cases k<;>cases a;exact i
  ·have a:((P.ds[j]?).bind λz=>z.2.me? z.1)=some (c,m):=a;rw[b]at a;obtain⟨d,k⟩:=z;cases k<;>cases a;exact i
  ·have a:((P.ds[j]?).bind λz=>z.2.ini?)=some c:=a;rw[b]at a;obtain⟨d,k⟩:=z;cases k<;>cases a;exact i
 all j h:=by
  show ((P.ds[j]?).map _).isSome=true;cases e:P.ds[j]? with
  |none=>have h:((((P.ds[j]?).bind λz=>z.2.fn? z.1).isSome||((P.ds[j]?).bind λz=>z.2.me? z.1).isSome)||((P.ds[j]?).bind λz=>z.2.ini?).isSome)=true:=h;rw[e]at h;cases h
  |some z=>rfl
 gc g p h:=by
  obtain⟨z,b,l⟩:=mp h;subst l;obtain⟨v,u,I,B,t⟩:=A z (aaI b);have J:P.pg.gv g=z.2:=by show ((P.cs[g]?).map _).getD _=_;rw[b];rfl
  rw[J];exact⟨v,u,I,B,t⟩
 ng x h:=by obtain⟨y,n,e⟩:=abi.mp h;rw[cD e];exact w y n
 fl c f h:=by obtain⟨y,n,e⟩:=abi.mp h;rw[cD (an2 e).1,cD (an2 e).2];exact L y n
end
end
end L2
namespace L2
open PySem
theorem bs{a b:Type}{o:Option a}{f:a->Option b}{x:a}{r:Option b}(h:o=some x)(k:f x=r):o.bind f=r:=by rw[h];exact k
theorem Ky[Decidable c](h:c):gd c=some ():=if_pos h
theorem bg{a:Type}[Decidable c]{f:Unit->Option a}{r:Option a}(h:c)(k:f ()=r):(gd c).bind f=r:=bs (Ky h) k
section
variable{C:Ct}{a b c e:E}{es:Es}{ρ ρ1 ρ2 ρ3:DEnv}{x y:OR}{dx dy d:PyData}{k k1:Bool}{i j f:Nat}{n:Int}{rs:List OR}{xs ys zs:List OD}{z w:OD}{ds:List PyData}{s:S'}{ss sa sb:Ss}{fl:Fl}{r:Option (Fl×DEnv)}{rv:Option (OR×DEnv)}{rt:Option (Bool×DEnv)}{ps:List Acc}
theorem ae{o:Bo}(m:ev C a ρ=some (x,ρ1))(l:ev C b ρ1=some (y,ρ2))(g:aq ρ2 x=some dx)(p:aq ρ2 y=some dy)(h:wQ o dx dy=some d):ev C (.bop o a b) ρ=some (.val (.fz d),ρ2):=bs m (bs l (bs g (bs p (bs h rfl))))
theorem e_cmp{o:Co}(m:ev C a ρ=some (x,ρ1))(l:ev C b ρ1=some (y,ρ2))(g:aq ρ2 x=some dx)(p:aq ρ2 y=some dy)(h:g9 o dx dy=some k):ev C (.cmp o a b) ρ=some (.val (.fz (.bool k)),ρ2):=bs m (bs l (bs g (bs p (bs h rfl))))
theorem ax(g:ev C a ρ=some (x,ρ1))(l:ev C b ρ1=some (y,ρ2))(m:aq ρ2 y=some (.int n))(h:bp ρ2 x n=some (z,ρ3)):ev C (.ix a b) ρ=some (.val z,ρ3):=bs g (bs l (bs m (bs rfl (bs h rfl))))
theorem ag(g:evs C es ρ=some (rs,ρ1))(h:bF (C.io f) ρ1 rs=some (xs,ρ2))(l:C.call f xs=some (w,ys))(m:g6 (C.io f) rs ys ρ2=ρ3):ev C (.call f es) ρ=some (.val w,ρ3):=bs g (bs h (bs l (by rw[<-m])))
theorem aJ(g:evs C es ρ=some (rs,ρ1))(l:Nat.ble rs.length 1000000=true)(h:mapR own1 ρ1 rs=some (zs,ρ2)):ev C (.lst es) ρ=some (.val (.lst zs),ρ2):=bs g (bs h (bg (Nat.ble_eq.mp l) rfl))
theorem bc(g:evs C es ρ=some (rs,ρ1))(m:Nat.ble rs.length 1000000=true)(h:mapR own1 ρ1 rs=some (zs,ρ2))(l:mkTup zs=z):ev C (.tup es) ρ=some (.val z,ρ2):=bs g (bs h (bg (Nat.ble_eq.mp m) (by rw[<-l])))
theorem af:evs C .nil ρ=some ([],ρ):=rfl
theorem aa(g:ev C e ρ=some (x,ρ1))(h:evs C es ρ1=some (rs,ρ2)):evs C (.cons e es) ρ=some (x::rs,ρ2):=bs g (bs h rfl)
theorem eA(h:aM C c ρ=some (true,ρ1))(k:ev C a ρ1=rv):ev C (.ife c a b) ρ=rv:=bs h k
theorem gg(h:aM C c ρ=some (false,ρ1))(k:ev C b ρ1=rv):ev C (.ife c a b) ρ=rv:=bs h k
theorem aE{g:Bl}(h:evs C es ρ=some (rs,ρ1))(l:gu ρ1 rs=some ds)(m:zR g ds=some d):ev C (.blt g es) ρ=some (.val (.fz d),ρ1):=bs h (bs l (bs m rfl))
theorem jZ(g:ev C e ρ=some (x,ρ1))(h:(f9 ρ1 x).bind listOf=some ds):ev C (.bnw .tuple e) ρ=some (.val (.fz (.tuple ds)),ρ1):=bs g (bs h rfl)
theorem lJ{ns:List Int}(h:ev C e ρ=some (x,ρ1))(g:aq ρ1 x=some (.list ds))(l:hU ds=some ns)(m:ns.length<64):ev C (.bnw .sorted e) ρ=some (.val (.lst ((sortI ns).map λi=>.fz (.int i))),ρ1):=bs h (bs g (bs rfl (bs l (bg m rfl))))
theorem gh{dx dy:List PyData}(l:ev C a ρ=some (x,ρ1))(h:ev C b ρ1=some (y,ρ2))(g:mS ρ2 x=some dx)(o:mS ρ2 y=some dy)(m:dx.length+dy.length<=1000000):ev C (.cat a b) ρ=some (.val (.lst ((dx++dy).map OD.fz)),ρ2):=bs l (bs h (bs g (bs o (bg m rfl))))
theorem aj{o:Co}(h:ev C (.cmp o a b) ρ=some (.val (.fz (.bool k)),ρ1)):aM C (.cmp o a b) ρ=some (k,ρ1):=bs h rfl
theorem bq(h:ev C (.call f es) ρ=some (.val (.fz (.bool k)),ρ1)):aM C (.call f es) ρ=some (k,ρ1):=bs h rfl
theorem I9(h:ev C (.ix a b) ρ=some (.val (.fz (.bool k)),ρ1)):aM C (.ix a b) ρ=some (k,ρ1):=bs h rfl
theorem Aa{g:Bl}(h:ev C (.blt g es) ρ=some (.val (.fz (.bool k)),ρ1)):aM C (.blt g es) ρ=some (k,ρ1):=bs h rfl
theorem t_andT(h:aM C a ρ=some (true,ρ1))(k:aM C b ρ1=rt):aM C (.and a b) ρ=rt:=bs h k
theorem bC(h:aM C a ρ=some (false,ρ1)):aM C (.and a b) ρ=some (false,ρ1):=bs h rfl
theorem je(h:aM C a ρ=some (true,ρ1)):aM C (.or a b) ρ=some (true,ρ1):=bs h rfl
theorem dH(h:aM C a ρ=some (false,ρ1))(k:aM C b ρ1=rt):aM C (.or a b) ρ=rt:=bs h k
theorem vh(h:aM C a ρ=some (k,ρ1)):aM C (.not a) ρ=some (!k,ρ1):=bs h rfl
theorem CS(h:ev C a ρ=some (.val (.fz (.bool true)),ρ1))(k:ev C b ρ1=rv):ev C (.and a b) ρ=rv:=bs h (bs rfl (bs rfl k))
theorem ni(h:ev C a ρ=some (.val (.fz (.bool false)),ρ1)):ev C (.and a b) ρ=some (.val (.fz (.bool false)),ρ1):=bs h rfl
theorem lK(h:ev C a ρ=some (.val (.fz (.bool true)),ρ1)):ev C (.or a b) ρ=some (.val (.fz (.bool true)),ρ1):=bs h rfl
theorem lL(h:ev C a ρ=some (.val (.fz (.bool false)),ρ1))(k:ev C b ρ1=rv):ev C (.or a b) ρ=rv:=bs h (bs rfl (bs rfl k))
theorem CT{p:OD×List Nat×OD}(h:aL ρ i ps=some p)(g:p.2.2=.fz d):ev C (.pg i ps) ρ=some (.val (.fz d),ρ):=bs h (bs (show wM p.2.2=some d by rw[g];rfl) rfl)
variable{p:OD×List Nat×OD}{cn fl':Str}{ns ns':List Str}{xs':List OD}
theorem Ja{m:Nat}(h:aL ρ i ps=some p)(l:p.2.2.dat=some d)(g:jH d=some m):ev C (.pl i ps) ρ=some (.val (.fz (.int m)),ρ):=bs h (bs l (bs g rfl))
theorem CU{neg:Bool}(l:ev C e ρ=some (x,ρ1))(g:aq ρ1 x=some dx)(h:aL ρ1 i ps=some p)(o:p.2.2.dat=some d)(m:g9 (if neg then .nin else .inn) dx d=some k):aM C (.pin neg e i ps) ρ=some (k,ρ1):=bs (bs l (bs g (bs h (bs o (bs m rfl))))) rfl
theorem CV(h:aL ρ i ps=some p)(o:iM C e ρ=some d)(g:p.2.2=.lst xs)(l:xs.length<1000000)(m:ρ.set i (some (OD.put (.lst (xs++[.fz d])) p.2.1 p.1))=ρ1):bL C (.apd i ps e) ρ=some (.nx,ρ1):=bs h (bs o (bs (show kA p.2.2=some xs by rw[g];rfl) (bg l (by rw[<-m]))))
theorem ab(h:bL C s ρ=some (.nx,ρ1))(k:av C ss ρ1=r):av C (.cons s ss) ρ=r:=bs h k
theorem ar(h:bL C s ρ=some (.rt z,ρ1)):av C (.cons s ss) ρ=some (.rt z,ρ1):=bs h rfl
theorem Jc(h:bL C s ρ=some (.ct,ρ1)):av C (.cons s ss) ρ=some (.ct,ρ1):=bs h rfl
theorem ah(h:ev C e ρ=some (x,ρ1))(g:own1 ρ1 x=some (z,ρ2))(m:Nat.blt i ρ2.length=true)(l:ρ2.set i (some z)=ρ3):bL C (.set i e) ρ=some (.nx,ρ3):=bs h (bs g (bg (Nat.blt_eq.mp m) (by rw[<-l])))
theorem dJ{is:List Nat}(h:evs C es ρ=some (rs,ρ1))(l:mapR own1 ρ1 rs=some (zs,ρ2))(g:(zs.length==is.length&&is.all λi=>Nat.blt i ρ2.length)=true)(m:dB is zs ρ2=ρ3):bL C (.par is es) ρ=some (.nx,ρ3):=bs h (bs l (bg (by rw[aaF,abq]at g;exact⟨eq_of_beq g.1,λi o=>Nat.blt_eq.mp (g.2 i o)⟩) (by rw[<-m])))
theorem ai(h:ev C e ρ=some (x,ρ1))(g:mv1 ρ1 x=some (z,ρ2)):bL C (.ret e) ρ=some (.rt z,ρ2):=bs h (bs g rfl)
theorem au(h:aM C c ρ=some (true,ρ1))(k:av C sa ρ1=r):bL C (.iff c sa sb) ρ=r:=bs h k
theorem s_ifF(h:aM C c ρ=some (false,ρ1))(k:av C sb ρ1=r):bL C (.iff c sa sb) ρ=r:=bs h k
theorem br(g:ρ[i]?.join=some (.lst ys))(h:ev C e ρ=some (x,ρ1))(m:own1 ρ1 x=some (z,ρ2))(l:ρ2[i]?.join=some (.lst xs))(o:xs.length<1000000)(q:ρ2.set i (some (.lst (xs++[z])))=ρ3):bL C (.app i e) ρ=some (.nx,ρ3):=bs g (bs rfl (bs h (bs m (bs l (bs rfl (bg o (by rw[<-q])))))))
theorem nj(h:ev C e ρ=some (x,ρ1))(o:own1 ρ1 x=some (z,ρ2))(g:ρ2[i]?.join=some (.lst ys))(hk:ev C ke ρ2=some (y,ρ3))(t:aq ρ3 y=some (.int n))(m:ρ3[i]?.join=some (.lst xs))(l:ixN xs.length n=some jj)(q:ρ3.set i (some (.lst (xs.set jj z)))=ρ4):bL C (.sti i ke e) ρ=some (.nx,ρ4):=bs h (bs o (bs g (bs rfl (bs hk (bs t (bs rfl (bs m (bs rfl (bs l (by rw[<-q]))))))))))
theorem cp(h:ow C it ρ=some (ds,ρ1))(k:bh (λd g=>(aW t (.fz d) g).bind λρ1=>av C ss ρ1) ds ρ1=r):bL C (.fr t it ss) ρ=r:=bs h k
theorem dM(h:ev C e ρ=some (x,ρ1))(l:aq ρ1 x=some (.int n))(g:-(2^62)<=n/\n<2^62):ow C (.rg1 e) ρ=some (bP 0 n.toNat,ρ1):=bs h (bs l (bs rfl (bg g rfl)))
theorem bt(h:ev C e ρ=some (x,ρ1))(l:frz1 ρ1 x=some (d,ρ2))(g:wN d=some ds):ow C (.seq e) ρ=some (ds,ρ2):=bs h (bs l (bs g rfl))
theorem fZ(h:ev C e ρ=some (x,ρ1))(g:frz1 ρ1 x=some (.list ds,ρ2)):ow C (.enm e) ρ=some (cS ds,ρ2):=bs h (bs g (bs rfl rfl))
theorem vj(h:ev C a ρ=some (x,ρ1))(h':ev C b ρ1=some (y,ρ2))(o:frz1 ρ2 x=some (dx,ρ3))(l:frz1 ρ3 y=some (dy,ρ4))(m:wN dx=some ds)(g:wN dy=some es'):ow C (.zip a b) ρ=some (iP ds es',ρ4):=bs h (bs h' (bs o (bs l (bs m (bs g rfl)))))
theorem bj(l:ow C it ρ=some (ds,ρ1))(h:ds.length<1000000)(g:cJ ρ1 fr=some zc)(m:bH (bK C tg ifs elt) ds [] (List.replicate nt none++zc.1)=some (out,ρ'))(o:eR zc.2 fr (ρ'.drop nt)=ρ2):ev C (.comp nt fr it tg ifs elt) ρ=some (.val (.lst (out.map OD.fz)),ρ2):=bs l (bg h (bs g (bs m (by rw[<-o]))))
theorem lM(h:aW tg (.fz d) ρ=some ρ1)(g:aM C ifs ρ1=some (true,ρ2))(l:ev C elt ρ2=some (x,ρ3))(m:frz1 ρ3 x=some (dx,ρ4)):bK C tg (.some ifs) elt d ρ=some ([dx],ρ4):=bs h (bs g (bs l (bs m rfl)))
theorem lN(h:aW tg (.fz d) ρ=some ρ1)(g:aM C ifs ρ1=some (false,ρ2)):bK C tg (.some ifs) elt d ρ=some ([],ρ2):=bs h (bs g rfl)
theorem vk(g:aW tg (.fz d) ρ=some ρ1)(h:ev C elt ρ1=some (x,ρ3))(l:frz1 ρ3 x=some (dx,ρ4)):bK C tg .none elt d ρ=some ([dx],ρ4):=bs g (bs rfl (bs h (bs l rfl)))
end
theorem rH{step:PyData->DEnv->Option (Fl×DEnv)}(P:List PyData->DEnv->Prop)(h:∀d ds ρ,P (d::ds) ρ->∃b a,step d ρ=some (b,a)/\(b=.nx\/b=.ct)/\P ds a):∀{ds:List PyData}{ρ:DEnv},P ds ρ->∃a,bh step ds ρ=some (.nx,a)/\P [] a:=by
 intro ds;induction ds with
 |nil=>exact λ{ρ} e=>⟨ρ,rfl,e⟩
 |cons d ds k=>
  intro ρ e;obtain⟨b,m,j,l,c⟩:=h d ds ρ e;obtain⟨f,i,g⟩:=k c;refine⟨f,bs j ?_,g⟩;rcases l with rfl|rfl
  ·exact i
  ·exact i
theorem ak{p:Pg}(b:p.F j=some fn)(c:xs.length=fn.io.length)(h:av (p.ct n) fn.body (bQ fn.n xs)=some (.rt r,ρ))(a:bb 0 fn.io xs ρ=some ys):p.call (n+1) j xs=some (r,ys):=by rw[Pg.eu,b];show (if xs.length=fn.io.length then ya (p.ct n) fn xs else none)=_;rw[if_pos c];exact bs h (bs a rfl)
theorem pe(h:k<n):ixN n (k:Int)=some k:=by unfold ixN;rw[if_pos (by omega),if_pos (by omega)];rfl
theorem cU{a:Type}{xs:List a}{k:Nat}{x:a}(h:xs[k]?=some x):atI xs (k:Int)=some x:=bs (pe (aan.mp h).1) h
theorem gF{b:Type}{xs:List b}{i:Int}(c:0<=i)(d:i<xs.length):∃x,x∈xs/\atI xs i=some x:=by
 have e:i=(i.toNat:Int):=by omega
 have a:i.toNat<xs.length:=by omega
 refine⟨xs[i.toNat],List.getElem_mem a,?_⟩;have:=cU (aak a);rw[<-e]at this;exact this
section
variable{ρ:DEnv}{ds:List PyData}{d:PyData}{i:Int}{xs:List OD}{x:OD}
theorem bw(h:atI ds i=some d):bp ρ (.val (.fz (.list ds))) i=some (.fz d,ρ):=by simp only[bp,itemO,h]
theorem aF(h:atI ds i=some d):bp ρ (.val (.fz (.tuple ds))) i=some (.fz d,ρ):=by simp only[bp,itemO,h]
theorem cE(h:atI xs i=some x):bp ρ (.val (.lst xs)) i=some (x,ρ):=by simp only[bp,itemO,h]
end
end L2
namespace Np
open PySem L2
def top(i:Nat):Stmt:=PySem.Challenge.pw_nearpool_k29_words_at_even_places.main.body.getD i (.Pass ⟨0,0,0,0⟩)
abbrev efs:Es:=.cons (.nm 8) .nil
abbrev efr:Es:=.cons (.nm 9) .nil
abbrev efq:S':=.set 3 (.lst .nil)
abbrev efp:Es:=.cons (.nm 5) .nil
abbrev efo:Es:=.cons (.nm 2) .nil
abbrev efn:Es:=.cons (.nm 7) .nil
abbrev efm:Es:=.cons (.nm 6) .nil
abbrev efl:S':=.set 5 (.lst .nil)
abbrev efk:Es:=.cons (.nm 0) .nil
abbrev efj:Es:=.cons (.nm 3) .nil
abbrev efi:Es:=.cons (.nm 1) .nil
abbrev Jd:E:=.ix (.nm 4) (.nm 9)
abbrev Je:Es:=.cons (.int 2) .nil
abbrev eff:E:=.ix (.nm 0) (.nm 1)
abbrev Jf:E:=.ix (.nm 0) (.nm 2)
abbrev efd:E:=.ix (.nm 6) (.int 0)
abbrev efc:E:=.ix (.nm 1) (.int 0)
abbrev efb:E:=.ix (.nm 2) (.int 0)
abbrev efa:E:=.ix (.nm 0) (.int 1)
abbrev ee9:E:=.ix (.nm 0) (.int 2)
abbrev ee8:E:=.ix (.nm 0) (.int 0)
abbrev JO:E:=.ix (.nm 10) (.int 0)
abbrev JP:E:=.cat (.nm 11) (.nm 9)
abbrev JQ:E:=.cat (.nm 9) (.nm 11)
abbrev ee4:Es:=.cons (.bl true) .nil
abbrev ee3:Es:=.cons (.bl false) .nil
abbrev ee2:Es:=.cons (.str "pad") .nil
abbrev ee1:E:=.din false (.nm 6) 4 []
abbrev JR:E:=.din false (.nm 7) 3 []
abbrev eez:Ss:=.cons (.ret (.non)) .nil
abbrev eey:E:=.cmp .eq (.nm 7) (.nm 6)
abbrev eex:Es:=.cons (.str "stop") .nil
abbrev eew:E:=.cmp .eq (.nm 2) (.int 0)
abbrev eev:E:=.cmp .nin (.nm 9) (.nm 1)
abbrev Jg:E:=.cmp .nin (.nm 0) (.nm 1)
abbrev eet:E:=.cmp .eq (.nm 10) (.nm 8)
abbrev ees:E:=.cmp .nin (.nm 8) (.nm 6)
abbrev eer:E:=.cmp .nin (.nm 5) (.nm 3)
abbrev eeq:E:=.cmp .eq (.nm 6) (.int 0)
abbrev eep:Ss:=.cons (.ret (.nm 3)) .nil
abbrev eeo:Ss:=.cons (.ret (.nm 5)) .nil
abbrev een:E:=.cmp .eq (.nm 1) (.int 0)
abbrev eem:E:=.cmp .inn (.nm 2) (.nm 1)
abbrev JS:E:=.bop .mul (.int 2) (.nm 0)
abbrev eek:E:=.bop .add (.nm 6) (.int 2)
abbrev eej:E:=.bop .sub (.ln 3) (.int 1)
abbrev eei:E:=.bop .mod (.nm 5) (.int 2)
abbrev eeh:E:=.bop .add (.nm 1) (.int 1)
abbrev eeg:E:=.bop .mod (.nm 2) (.int 10)
abbrev eef:E:=.bop .mod (.nm 5) (.int 10)
abbrev eee:E:=.bop .mod (.nm 2) (.int 200)
abbrev eed:E:=.cmp .ne (.nm 4) (.lst .nil)
abbrev JT:E:=.cmp .eq (.nm 5) (.lst .nil)
abbrev eeb:E:=.cmp .ne (.nm 5) (.lst .nil)
abbrev eea:E:=.call 0 efk
abbrev ed9:E:=.call 1 efi
abbrev ed8:E:=.call 0 efi
abbrev JU:E:=.call 21 efk
abbrev ed6:Ss:=.cons (.ret (.bl false)) .nil
abbrev ed5:E:=.bop .sub (.nm 2) (.int 7100)
abbrev ed4:S':=.set 3 (.bnw .sorted (.nm 3))
abbrev Jh:E:=.call 21 efi
abbrev ed2:E:=.blt .len efr
abbrev ed1:E:=.blt .abs efo
abbrev Hj:E:=.blt .len efp
abbrev edz:E:=.blt .len efo
abbrev edy:E:=.blt .len efk
abbrev edx:E:=.blt .len efi
abbrev edw:Es:=.cons Jf .nil
abbrev edv:E:=.ix (.ix (.nm 0) (.nm 7)) (.int 2)
abbrev edu:E:=.ix (.ix (.nm 1) (.nm 4)) (.int 2)
abbrev edt:Es:=.cons (.nm 4) efp
abbrev eds:Es:=.cons (.nm 6) efn
abbrev edr:Es:=.cons (.nm 5) efm
abbrev edq:Es:=.cons (.nm 7) efm
abbrev edp:Es:=.cons (.nm 0) efi
abbrev edo:Es:=.cons (.nm 2) efj
abbrev edn:E:=.ix efa (.int 1)
abbrev edm:E:=.ix efa (.int 0)
abbrev edl:E:=.ix (.ix (.nm 0) (.nm 11)) (.int 2)
abbrev JV:E:=.ix (.ix (.nm 0) (.nm 10)) (.int 2)
abbrev JW:E:=.ix (.ix (.nm 3) (.nm 11)) (.int 1)
abbrev edi:Es:=.cons (.nm 3) ee4
abbrev edh:S':=.set 3 (.call 18 efo)
abbrev edg:Es:=.cons (.bop .add (.nm 1) (.int 2)) .nil
abbrev edf:E:=.cat (.nm 0) (.lst (.cons (.non) .nil))
abbrev ede:Es:=.cons (.lst .nil) (.cons (.int 0) .nil)
abbrev edd:Es:=.cons eeh .nil
abbrev edc:Es:=.cons (.str "tell") efm
abbrev edb:E:=.ix (.nm 0) (.bop .sub (.nm 1) (.int 1))
abbrev eda:E:=.ix (.ix (.nm 2) (.nm 0)) (.neg (.int 1))
abbrev Ji:E:=.ix (.nm 7) (.ix (.nm 10) (.neg (.int 1)))
abbrev ec8:Es:=.cons (.call 17 efk) .nil
abbrev ec7:E:=.bop .mul (.int 10) efa
abbrev ec6:S':=.sdk 4 (.nm 7) eej
abbrev ec5:E:=.call 21 (.cons (.ix (.nm 0) (.nm 7)) .nil)
abbrev ec4:Es:=.cons (.str "go") (.cons (.str "nil") .nil)
abbrev ec3:E:=.bop .mul (.int 100) efa
abbrev ec2:E:=.cmp .eq ee8 (.str "go")
abbrev ec1:S':=.set 3 (.bnw .sorted (.cat (.nm 3) (.nm 4)))
abbrev Jj:Es:=.cons (.str "go") eex
abbrev ecz:E:=.call 8 edp
abbrev ecy:E:=.cmp .eq ee8 (.str "set")
abbrev JX:E:=.cat (.nm 9) (.lst ee2)
abbrev ecw:Es:=.cons (.str "over") ee2
abbrev ecv:E:=.cmp .eq efd (.str "pool")
abbrev ecu:E:=.call 16 (.cons (.nm 0) Je)
abbrev ect:E:=.call 16 (.cons (.nm 0) (.cons (.int 3) .nil))
abbrev ecs:E:=.call 16 (.cons (.nm 0) (.cons (.int 5) .nil))
abbrev ecr:E:=.call 16 (.cons (.nm 0) (.cons (.int 4) .nil))
abbrev ecq:E:=.call 16 (.cons (.nm 0) (.cons (.int 80) .nil))
abbrev ecp:E:=.call 16 (.cons (.nm 0) (.cons (.int 12) .nil))
abbrev JY:Es:=.cons (.nm 0) (.cons (.bnw .tuple (.nm 1)) .nil)
abbrev JZ:Es:=.cons (.nm 5) (.cons (.bnw .tuple (.nm 9)) .nil)
abbrev ecl:E:=.cmp .eq (.nm 7) edy
abbrev eck:E:=.cmp .lt (.nm 6) edy
abbrev ecj:E:=.cmp .lt (.nm 7) edy
abbrev eci:Es:=.cons (.nm 0) (.cons (.nm 1) efo)
abbrev ech:Es:=.cons (.nm 0) (.cons (.nm 1) efj)
abbrev ecg:Es:=.cons (.nm 0) (.cons (.nm 1) efn)
abbrev J0:Es:=.cons (.nm 0) edq
abbrev J1:E:=.bop .add ed2 (.int 1)
abbrev Jk:E:=.bop .sub (.int 100) ed2
abbrev ecb:E:=.blt .int (.cons (.cmp .ne (.nm 2) (.lst .nil)) .nil)
abbrev eca:S':=.set 4 (.call 24 edo)
abbrev eb9:S':=.set 2 (.call 15 edp)
abbrev eb8:E:=.cmp .nin edu (.nm 9)
abbrev J2:E:=.cmp .nin edv (.nm 13)
abbrev eb6:E:=.cmp .inn edv (.nm 13)
abbrev eb5:S':=.iff (.isn false (.nm 3)) eez .nil
abbrev eb4:E:=.comp 1 [4] (.seq (.sdd 4)) (.nm 0) .none (.pg 1 [.key 0])
abbrev eb3:It':=.rg1 (.bop .add edy (.int 1))
abbrev eb2:E:=.cmp .le (.bop .sub (.nm 6) (.nm 10)) efb
abbrev eb1:E:=.ix (.nm 1) (.bop .add JS (.int 1))
abbrev eb0:E:=.or eew (.cmp .eq (.nm 2) (.int 7002))
abbrev ebz:S':=.app 7 (.tup JZ)
abbrev eby:E:=.bop .mul (.int 10000) (.ix (.nm 1) JS)
abbrev ebx:E:=.cmp .eq ecr (.int 0)
abbrev ebw:E:=.cmp .eq (.call 16 (.cons (.nm 2) Je)) (.int 0)
abbrev ebv:Es:=.cons (.str "over") (.cons (.str "pad") (.cons (.str "pool") .nil))
abbrev ebu:E:=.cmp .eq (.call 16 (.cons (.nm 0) (.cons (.int 24) .nil))) (.int 0)
abbrev ebt:E:=.not (.cmp2 .le .lt (.int 0) (.nm 1) edy)
abbrev ebs:E:=.call 16 (.cons (.nm 1) (.cons edz .nil))
abbrev ebr:S':=.app 3 (.lst (.cons (.nm 7) (.cons (.lst .nil) (.cons (.nm 10) .nil))))
abbrev ebq:S':=.set 10 (.call 26 J0)
abbrev ebp:E:=.blt .min (.cons (.int 8) (.cons edy .nil))
abbrev ebo:E:=.ife JU (.str "great") ee8
abbrev ebn:S':=.set 6 (.bop .add (.nm 10) (.bop .mul (.int 2) (.pl 3 [.ix (1),.ix (-1)])))
abbrev ebm:S':=.sdc 3 2 [] (.seq (.nm 2)) (.tp [0,1]) (.nm 0) edx
abbrev ebl:E:=.call 27 (.cons (.nm 1) (.cons (.nm 3) (.cons (.nm 2) (.cons (.int 499) .nil))))
abbrev J3:E:=.cmp .le (.bop .sub eek (.nm 10)) efb
abbrev ebj:E:=.bop .add (.nm 6) (.call 22 ecg)
abbrev J4:E:=.comp 2 [] (.enm (.nm 1)) (.tp [0,1]) (.some Jh) (.nm 0)
abbrev ebh:E:=.cmp .inn JO (.tup ec4)
abbrev ebg:Ss:=.cons (.ret (.bop .sub (.bop .add (.nm 2) (.int 2)) (.bop .mod (.nm 2) (.int 2)))) .nil
abbrev ebf:S':=.set 4 ebl
abbrev ebe:E:=.and eet eb8
abbrev ebd:S':=.set 6 ebj
abbrev J5:E:=.cmp .lt (.bop .add (.bop .add (.nm 3) Hj) (.int 1)) (.nm 4)
abbrev ebb:E:=.bop .add eeh (.bop .mul (.int 2) ed5)
abbrev eba:S':=.agl 5 (.lst (.cons (.bop .fdiv (.nm 6) (.gc 2)) (.cons (.bop .mod (.nm 6) (.gc 2)) .nil)))
abbrev J6:E:=.or ees ebx
abbrev ea8:S':=.set 5 (.call 16 (.cons (.nm 0) (.cons (.bop .add edx (.int 1)) .nil)))
abbrev ea7:E:=.cmp .nid (.nm 7) (.tup (.cons (.nm 9) (.cons JX .nil)))
abbrev ea6:S':=.set 2 (.frz J4)
abbrev ea5:E:=.cmp .inn edm (.tup ecw)
abbrev J7:E:=.comp 1 [9] (.rg2 (.int 50000000) (.int 50000100)) (.nm 0) (.some Jg) (.nm 0)
abbrev ea3:E:=.comp 3 [] (.seq (.nm 3)) (.tp [0,1,2]) .none (.tup JY)
abbrev J8:E:=.bop .add eeh (.bop .mul (.int 2) (.blt .len (.cons (.ix (.nm 2) (.int 1)) .nil)))
abbrev ea1:E:=.bop .add ecb ecr
abbrev J9:E:=.comp 1 [0,3] (.seq (.nm 2)) (.nm 0) .none ebs
abbrev eaz:E:=.or (.cmp .gt (.nm 11) (.nm 3)) (.and (.cmp .eq JO (.str "nil")) (.cmp .gt (.nm 11) (.int 99)))
abbrev eay:Es:=.cons (.bl false) (.cons ebw ee4)
abbrev eax:E:=.cmp .nin (.ix (.ix (.nm 0) (.bop .sub (.nm 6) (.int 1))) (.int 0)) (.tup Jj)
abbrev eaw:Es:=.cons (.ix (.nm 6) (.nm 11)) (.cons (.idx JW JV) .nil)
abbrev eav:E:=.and eb6 eb2
abbrev Ka:E:=.or (.cmp .eq (.nm 8) (.lst .nil)) (.cmp .nin (.ix (.nm 8) (.neg (.int 1))) (.tup Jj))
abbrev eat:S':=.set 6 (.frz J9)
abbrev eas:S':=.iff J5 (.cons (.app 5 (.gc 9)) .nil) .nil
abbrev ear:Ss:=.cons (.agl 5 (.call 11 (.cons (.nm 0) (.cons (.nm 6) (.cons (.pg 4 [.key 6]) (.cons Hj .nil)))))) .nil
abbrev eaq:S':=.set 9 (.ix (.lst (.cons JQ (.cons JP .nil))) ecu)
abbrev eap:S':=.ins 9 (.call 16 (.cons (.nm 0) (.cons J1 .nil))) edu
abbrev eao:S':=.iff (.not (.call 31 (.cons (.nm 3) (.cons (.call 13 (.cons (.nm 3) (.cons (.nm 5) (.cons (.nm 4) .nil)))) .nil)))) ed6 .nil
abbrev ean:E:=.or een (.cmp .nin (.ix edb (.int 0)) (.tup Jj))
abbrev eam:Ss:=.cons (.agl 5 (.call 6 (.cons (.ix (.nm 0) (.nm 6)) (.cons Hj (.cons (.cmp .inn (.nm 6) (.nm 1)) (.cons (.dgt 3 (.nm 6)) .nil)))))) .nil
abbrev eal:E:=.blt .any (.cons (.comp 1 [] (.seq (.nm 4)) (.nm 0) .none ea5) .nil)
abbrev eak:E:=.sll J7 .none (.some Jk)
abbrev eaj:S':=.set 9 (.ife J6 (.lst ec8) (.lst .nil))
abbrev eai:E:=.blt .max (.cons (.bop .sub Ji Jd) (.cons (.bop .sub Jd Ji) .nil))
abbrev eah:S':=.iff ecz (.cons (.agl 5 (.lst (.cons (.gc 7) (.cons (.bop .add (.nm 4) (.bop .mul (.gc 18) edz)) .nil)))) .nil) .nil
abbrev eag:S':=.set 11 eak
abbrev eaf:E:=.rep (.lst (.cons (.str "over") .nil)) (.blt .int (.cons Ka .nil))
abbrev eae:E:=.blt .any (.cons (.comp 1 [5,6] (.seq (.nm 10)) (.nm 0) .none (.cmp .ne (.nm 0) J8)) .nil)
abbrev ead:E:=.and (.nen 3) (.and J2 (.and JT J3))
abbrev eac:Ss:=.cons (.iff eck (.cons (.app 3 (.nm 5)) (.cons (.set 5 (.bop .add (.nm 5) (.call 22 (.cons (.nm 0) (.cons (.nm 1) efm))))) .nil)) .nil) .nil
abbrev eab:Ss:=.cons (.set 5 (.bop .sub (.bop .add (.nm 5) (.int 2)) eei)) (.cons (.app 4 (.nm 5)) (.cons (.set 5 (.bop .add (.nm 5) (.bop .mul (.int 2) (.blt .len efs)))) .nil))
abbrev eaa:S':=.iff JR (.cons (.app 5 (.call 9 J0)) (.cons (.set 6 (.bop .add (.ix (.nm 5) (.neg (.int 1))) (.bop .mul (.gc 18) (.pg 3 [.key 7])))) .nil)) .nil
def ir:Fn:=⟨[false],1,(.cons (.ret (.and ecy (.cmp .gt ee9 (.gc 1)))) .nil)⟩
def rJ:Fn:=⟨[false],1,(.cons (.ret (.or ec2 (.cmp .eq ee8 (.str "nil")))) .nil)⟩
def lP:Fn:=⟨[false],1,(.cons (.ret (.comp 2 [] (.enm (.nm 0)) (.tp [0,1]) (.some ed8) (.nm 0))) .nil)⟩
def nk:Fn:=⟨[false],1,(.cons (.ret (.comp 2 [] (.enm (.nm 0)) (.tp [0,1]) (.some ed9) (.nm 0))) .nil)⟩
def yT:Fn:=⟨[false],1,(.cons (.ret (.and (.cmp .ne ee8 (.str "go")) (.cmp .ne ee8 (.str "stop")))) .nil)⟩
def j2:Fn:=⟨[false,false,false,false],4,(.cons (.iff ec2 (.cons (.ret (.ife (.nm 2) (.lst (.cons (.gc 4) efj)) (.lst (.cons (.bop .sub (.bop .add (.gc 13) (.nm 3)) (.nm 1)) .nil)))) .nil) .nil) (.cons (.iff (.nm 2) (.cons (.ret (.lst (.cons (.bop .add (.gc 5) efa) efj))) .nil) .nil) (.cons (.ret (.lst (.cons (.bop .sub (.bop .add (.bop .add (.gc 14) (.bop .mul (.gc 6) efa)) (.nm 3)) (.nm 1)) .nil))) .nil)))⟩
def lQ:Fn:=⟨[false,false,false,false],7,(.cons (.set 4 ee8) (.cons (.iff (.cmp .eq (.nm 4) (.str "stop")) (.cons (.ret (.lst (.cons (.gc 15) .nil))) .nil) .nil) (.cons (.iff (.or (.cmp .eq (.nm 4) (.str "go")) (.cmp .eq (.nm 4) (.str "nil"))) (.cons (.ret (.call 5 (.cons (.nm 0) (.cons (.nm 1) edo)))) .nil) .nil) (.cons (.iff eea (.cons (.asg (.tp [5,6]) (.nm 3)) (.cons (.ret (.lst (.cons (.bop .add (.bop .add (.gc 0) ec3) (.nm 6)) (.cons (.bop .sub (.bop .add (.gc 11) (.nm 5)) (.nm 1)) .nil)))) .nil)) .nil) (.cons (.iff (.cmp .eq (.nm 4) (.str "set")) (.cons (.ret (.lst (.cons (.bop .add (.bop .add (.gc 12) ec3) ee9) .nil))) .nil) .nil) (.cons (.iff (.cmp .eq (.nm 4) (.str "sum")) (.cons (.ret (.lst (.cons (.bop .add (.bop .add (.gc 16) ec7) ee9) .nil))) .nil) .nil) (.cons (.iff (.cmp .eq (.nm 4) (.str "less")) (.cons (.ret (.lst (.cons (.bop .add (.bop .add (.gc 3) ec7) ee9) .nil))) .nil) .nil) (.cons (.ret (.lst (.cons (.bop .add (.gc 17) efa) .nil))) .nil))))))))⟩
def rK:Fn:=⟨[false,false,false],3,(.cons (.ret (.ife (.or (.call 0 edw) eem) (.int 2) (.int 1))) .nil)⟩
def nq:Fn:=⟨[false,false],2,(.cons (.ret (.or een (.call 4 (.cons edb .nil)))) .nil)⟩
def j3:Fn:=⟨[false,false,false],3,(.cons (.iff ecz (.cons (.aug 2 .add (.gc 8)) .nil) .nil) ebg)⟩
abbrev ac:Str:="go"
abbrev am:Str:="pool"
abbrev ap:Str:="over"
abbrev bi:Str:="nil"
abbrev bm:Str:="_law_rows_here"
abbrev bn:Str:="rows"
abbrev bv:Str:="_law_tape_here"
abbrev ce:Str:="set"
abbrev ci:Str:="stop"
abbrev cr:Str:="_law_script"
abbrev dL:Str:="pad"
abbrev em:Str:="row"
abbrev eD:Str:="_law_k"
abbrev eH:Str:="_law_longs_here"
abbrev eO:Str:="nearpool.rows"
abbrev ga:Str:="place"
abbrev gl:Str:="none"
abbrev hF:Str:="longs"
abbrev hL:Str:="gap"
abbrev hR:Str:="_law_pools"
abbrev hY:Str:="_law_place"
abbrev ii:Str:="law"
abbrev im:Str:="nearpool.places"
abbrev jp:Str:="great"
abbrev kt:Str:="less"
abbrev kw:Str:="_law_cells"
abbrev lc:Str:="nearpool.laying"
abbrev lf:Str:="is_great"
abbrev lv:Str:="is_jump"
abbrev lw:Str:="greats_of"
abbrev mA:Str:="jumps_of"
abbrev na:Str:="falls"
abbrev nb:Str:="jump_cells"
abbrev nl:Str:="row_cells"
abbrev np:Str:="size_of"
abbrev ol:Str:="has_over"
abbrev pc:Str:="first_word"
abbrev pi:Str:="placed"
abbrev pr:Str:="pool_cells"
abbrev pu:Str:="goals_of"
abbrev rc:Str:="laid_cells"
abbrev re:Str:="_law_cell_at"
abbrev sn:Str:="_law_tape"
abbrev sw:Str:="_law_take"
abbrev sK:Str:="_law_great"
abbrev ul:Str:="_law_rows"
abbrev ut:Str:="_law_longs"
abbrev wl:Str:="_law_reach"
abbrev wn:Str:="_law_is_great"
abbrev wp:Str:="_law_size"
abbrev wr:Str:="_law_placed"
abbrev wv:Str:="_law_gap"
abbrev ww:Str:="_law_any_plan"
abbrev wE:Str:="_law_late_plan"
abbrev wP:Str:="_law_word_at"
abbrev wS:Str:="_law_too_short"
abbrev wT:Str:="_law_good_longs"
abbrev xz:Str:="_law_seen"
abbrev xL:Str:="_law_things"
abbrev zn:Str:="_law_right"
abbrev At:Str:="/claim/cut.py"
abbrev AT:Str:="_law_numbers"
abbrev BT:Str:="nearpool.codes"
abbrev Ch:Str:="_law_found"
def F_placed:Fn:=⟨[false,false,false],8,(.cons ebm (.cons (.set 4 (.lst .nil)) (.cons efl (.cons (.set 6 (.int 0)) (.cons (.fr (.nm 7) eb3 (.cons eaa (.cons (.iff ecj (.cons (.app 4 (.nm 6)) (.cons (.aug 6 .add (.call 7 ecg)) .nil)) .nil) .nil))) (.cons (.ret (.tup (.cons (.nm 4) edr))) .nil))))))⟩
def j4:Fn:=⟨[false,false,false,false],7,(.cons (.set 4 (.call 9 ech)) (.cons efl (.cons eah (.cons eas (.cons (.app 5 (.bop .add (.gc 10) edz)) (.cons (.fr (.nm 6) (.seq (.nm 2)) (.cons eba .nil)) eeo))))))⟩
def nv:Fn:=⟨[false,false,false],12,(.cons (.asg (.tp [3,4]) (.nm 2)) (.cons (.asg (.tp [5,6,7]) (.call 10 ech)) (.cons (.set 8 (.cat (.nm 5) (.lst efn))) (.cons (.sdc 9 1 [8,0] (.seq (.call 3 efk)) (.nm 0) (.nm 0) (.ix (.nm 1) eda)) (.cons (.fr (.tp [10,11]) (.zip (.call 2 efk) (.nm 4)) (.cons (.sdk 9 (.nm 10) (.tup eaw)) .nil)) (.cons (.ret (.nm 9)) .nil))))))⟩
def j5:Fn:=⟨[false,false,false],7,(.cons (.set 3 (.call 12 eci)) (.cons (.sdc 4 2 [] (.seq efb) (.tp [0,1]) (.nm 0) (.nm 1)) (.cons efl (.cons (.fr (.nm 6) eb3 (.cons (.iff ee1 ear .nil) (.cons (.iff eck eam .nil) .nil))) eeo))))⟩
def f6:Fn:=⟨[false,false],2,(.cons (.ret (.ife (.cmp .lt (.nm 1) edy) eff (.int 0))) .nil)⟩
def vm:Fn:=⟨[false,false],3,(.cons (.set 2 (.call 14 edp)) (.cons (.ret (.lst (.cons (.bop .mul ed1 (.blt .int (.cons (.cmp .ge ed1 (.bop .pow (.int 10) (.int 18))) .nil))) (.cons (.bop .mod (.bop .mul (.bop .add (.bop .add (.bop .mod (.nm 2) (.int 2147483647)) (.bop .mul (.int 7121) (.nm 1))) (.int 43)) (.int 48271)) (.int 2147483629)) (.cons (.int 0) .nil))))) .nil))⟩
def ny:Fn:=⟨[true,false],4,(.cons (.iff (.cmp .gt ee8 (.int 0)) (.cons (.set 2 (.bop .mod ee8 (.nm 1))) (.cons (.sti 0 (.int 0) (.bop .fdiv ee8 (.nm 1))) (.cons (.ret (.nm 2)) .nil))) .nil) (.cons (.sti 0 (.int 2) (.bop .add ee9 (.int 1))) (.cons (.set 3 (.bop .mod (.bop .mul (.bop .add efa (.bop .mul (.int 39373) ee9)) (.bop .add (.int 48271) ee9)) (.int 2147483647))) (.cons (.sti 0 (.int 1) (.bop .mod (.bop .add (.bop .mul (.nm 3) (.bop .add (.bop .mod (.nm 3) (.int 40009)) (.int 7))) ee9) (.int 2147483629))) (.cons (.ret (.bop .mod (.bop .fdiv (.bop .mod (.bop .mul efa (.bop .add (.bop .mod efa (.int 1009)) (.int 3))) (.int 998244353)) (.int 7)) (.nm 1))) .nil)))))⟩
def pf:Fn:=⟨[true],3,(.cons (.set 1 ecr) (.cons (.set 2 (.bop .add (.int 100) (.call 16 (.cons (.nm 0) (.cons (.int 99999900) .nil))))) (.cons (.ret (.ix (.lst (.cons (.ix (.lst (.cons (.int 100) (.cons (.int 101) (.cons (.int 12345) (.cons (.int 10000) (.cons (.int 9999) .nil)))))) ecs) (.cons (.bop .add (.int 100) (.call 16 (.cons (.nm 0) (.cons (.int 6) .nil)))) (.cons (.nm 2) (.cons (.int 99999999) .nil))))) (.nm 1))) .nil)))⟩
def F_rows:Fn:=⟨[true],11,(.cons (.set 1 (.ife (.cmp .eq (.call 16 (.cons (.nm 0) (.cons (.int 8) .nil))) (.int 0)) (.bop .add (.int 20) (.call 16 (.cons (.nm 0) (.cons (.int 41) .nil)))) (.call 16 (.cons (.nm 0) (.cons (.int 11) .nil))))) (.cons (.set 2 (.ix (.lst (.cons (.int 2) (.cons (.int 5) (.cons (.int 9) .nil)))) ect)) (.cons efq (.cons (.fr (.nm 4) (.rg1 (.nm 1)) (.cons (.par [5,6] (.cons (.call 16 (.cons (.nm 0) (.cons (.int 10) .nil))) (.cons ecs .nil))) (.cons (.iff (.cmp .lt (.nm 5) (.nm 2)) (.cons (.app 3 (.tup (.cons (.str ce) (.cons (.nm 6) ec8)))) (.cons (.cont) .nil)) .nil) (.cons (.set 5 (.call 16 (.cons (.nm 0) (.cons (.int 9) .nil)))) (.cons (.par [7,8] (.cons ecs (.cons (.call 16 (.cons (.nm 0) edd)) .nil))) (.cons (.set 9 (.blt .max (.cons (.int 0) (.cons (.blt .min (.cons (.nm 1) (.cons (.bop .sub (.bop .add (.nm 4) (.call 16 (.cons (.nm 0) (.cons (.int 7) .nil)))) (.int 2)) .nil))) .nil)))) (.cons (.set 10 (.lst (.cons (.tup (.cons (.str ce) (.cons (.nm 6) (.cons (.call 16 (.cons (.nm 0) (.cons (.int 100) .nil))) .nil)))) (.cons (.tup (.cons (.str "sum") eds)) (.cons (.tup (.cons (.str kt) eds)) (.cons (.tup edc) (.cons (.tup (.cons (.str ac) efr)) .nil))))))) (.cons (.set 10 (.cat (.nm 10) (.lst (.cons (.tup (.cons (.str bi) (.cons (.nm 6) efr))) (.cons (.tup (.cons (.str bi) (.cons (.nm 6) efs))) (.cons (.tup edc) (.cons (.ix (.lst (.cons (.tup (.cons (.str ac) efs)) (.cons (.tup eex) .nil))) ecu) .nil))))))) (.cons (.app 3 (.ix (.nm 10) (.nm 5))) .nil))))))))) eep))))⟩
def yU:Fn:=⟨[true,false],4,(.cons (.set 2 ect) (.cons (.set 3 (.comp 2 [] (.enm (.nm 1)) (.tp [0,1]) (.some (.cmp .inn efc (.tup ec4))) (.nm 0))) (.cons (.ret (.comp 1 [2,0] (.seq (.nm 3)) (.nm 0) (.some (.ix (.lst eay) (.nm 1))) (.nm 0))) .nil)))⟩
def ph:Fn:=⟨[true],3,(.cons (.set 1 (.bop .sub (.int 4999) (.bop .mul ecu (.call 16 (.cons (.nm 0) (.cons (.int 4990) .nil)))))) (.cons (.set 2 (.ix (.lst (.cons (.int 0) (.cons (.bop .add (.int 1) ecp) (.cons ecq efi)))) ecr)) (.cons (.ret (.tup (.cons (.nm 2) (.cons (.ix (.lst (.cons (.int 6) (.cons (.bop .add (.int 7) ecp) (.cons (.bop .add (.int 6) ecq) efi)))) ecr) .nil)))) .nil)))⟩
def fb:Fn:=⟨[false],1,(.cons (.ret (.and ecy (.cmp .gt ee9 (.int 99)))) .nil)⟩
def CW:Fn:=⟨[false,false,false],3,(.cons (.ret (.ife (.or (.call 21 edw) eem) (.int 2) (.int 1))) .nil)⟩
def nz:Fn:=⟨[false,false,false],9,(.cons (.par [3,4,5] (.cons (.lst .nil) ede)) (.cons (.fr (.nm 6) eb3 (.cons (.fr (.tp [7,8]) (.seq (.nm 2)) (.cons (.iff eey (.cons (.set 5 (.bop .add (.nm 5) (.bop .mul (.int 2) (.blt .int (.cons (.or eeq eax) .nil))))) eab) .nil) .nil)) eac)) (.cons (.ret (.tup (.cons (.nm 3) edt))) .nil)))⟩
def F_any_plan:Fn:=⟨[true,false],12,(.cons ea6 (.cons efq (.cons (.fr (.nm 4) (.rg1 ea1) (.cons ea8 (.cons (.iff eer (.cons (.app 3 (.nm 5)) .nil) .nil) .nil))) (.cons ed4 (.cons eat (.cons (.set 7 (.lst .nil)) (.cons (.fr (.tp [8,5]) (.enm (.nm 3)) (.cons eaj (.cons (.fr (.tp [4,10]) (.zip (.nm 2) (.nm 6)) (.cons (.iff ebe (.cons eap .nil) .nil) .nil)) (.cons (.iff ebu (.cons eag (.cons eaq .nil)) .nil) (.cons ebz .nil))))) (.cons (.ret (.tup edq)) .nil))))))))⟩
def F_late_plan:Fn:=⟨[false,false,false],14,(.cons (.asg (.tp [3,4,5,6]) (.tup (.cons (.lst .nil) (.cons (.dnew) ede)))) (.cons (.fr (.nm 7) eb3 (.cons (.set 8 ecl) (.cons (.iff (.and eeb (.not (.nm 8))) (.cons (.set 9 (.call 26 (.cons (.nm 0) (.cons (.bop .add (.nm 7) (.int 1)) (.cons ebj .nil))))) (.cons (.set 8 (.cmp .gt (.bop .sub (.nm 9) (.ix (.ix (.nm 5) (.int 0)) (.int 1))) (.ix (.nm 2) (.int 1)))) .nil)) .nil) (.cons (.iff (.and eeb (.nm 8)) (.cons ebq (.cons ebr (.cons (.fr (.tp [11,12]) (.seq (.nm 5)) (.cons (.sdk 4 (.nm 11) eej) (.cons (.iff (.pin true edl 3 [.ix (1),.ix (-1)]) (.cons (.apd 3 [.ix (1),.ix (-1)] edl) .nil) .nil) .nil))) (.cons efl (.cons ebn .nil))))) .nil) (.cons (.iff ecl (.cons (.brk) .nil) .nil) (.cons (.iff ec5 (.alo (.nen 3) 3 [.ix (1),.ix (-1)] [.ix (2),.ix (-1)] 13 10 (.cons (.iff eav (.cons ec6 .nil) (.cons (.iff ead (.cons (.app 13 edv) (.cons ec6 (.cons (.set 6 eek) .nil))) (.cons (.app 5 (.tup edq)) .nil)) .nil)) .nil)) .nil) (.cons ebd .nil))))))) (.cons (.ret (.tup (.cons ea3 (.cons eb4 .nil)))) .nil)))⟩
def rL:Fn:=⟨[false,false,false],3,(.cons (.set 2 (.bop .add (.nm 2) (.bop .mul (.int 2) (.blt .int (.cons ean .nil))))) ebg)⟩
def F_too_short:Fn:=⟨[false,false,false,false],12,(.cons (.asg (.tp [4,5,6]) (.call 23 eci)) (.cons (.par [7,8] (.cons (.cat (.nm 4) (.lst efm)) (.cons (.lst .nil) .nil))) (.cons (.fr (.tp [9,10]) (.enm (.nm 0)) (.cons (.iff (.and ebh eev) (.cons (.set 11 eai) (.cons (.iff eaz (.cons (.app 8 (.nm 9)) .nil) .nil) .nil)) .nil) .nil)) (.cons (.ret (.nm 8)) .nil))))⟩
def j6:Fn:=⟨[true,false,false],5,(.cons (.set 3 (.call 19 edp)) (.cons ebf (.cons (.whl eed (.cons ec1 (.cons ebf .nil))) eep)))⟩
def F_seen:Fn:=⟨[false,false],8,(.cons (.iff ebt eez .nil) (.cons (.par [2,3] (.cons eff (.cons (.ix edf eeh) .nil))) (.cons (.par [4,5] (.cons (.bop .mod (.bop .fdiv (.nm 2) (.int 100)) (.int 10)) (.cons (.bop .mod (.nm 2) (.int 100)) .nil))) (.cons (.iff eb0 (.cons (.ret (.tup (.cons (.ife eew (.tup eex) (.tup ee2)) edd))) .nil) .nil) (.cons (.iff (.cmp2 .le .lt (.int 1000) (.nm 2) (.int 1500)) (.cons (.ret (.tup (.cons (.tup (.cons (.str ce) edt)) edd))) .nil) .nil) (.cons (.iff (.and (.cmp2 .le .lt (.int 2000) (.nm 2) (.int 4000)) (.and (.cmp .lt (.bop .mod (.nm 2) (.int 1000)) (.int 45)) (.cmp .lt eef (.int 5)))) (.cons (.ret (.tup (.cons (.tup (.cons (.ix (.lst (.cons (.str "sum") (.cons (.str kt) .nil))) (.bop .sub (.bop .fdiv (.nm 2) (.int 1000)) (.int 2))) (.cons (.bop .fdiv (.nm 5) (.int 10)) (.cons eef .nil)))) edd))) .nil) .nil) (.cons (.iff (.cmp2 .le .lt (.int 4000) (.nm 2) (.int 4005)) (.cons (.ret (.tup (.cons (.tup (.cons (.str "tell") (.cons eeg .nil))) edd))) .nil) .nil) (.cons (.iff (.cmp2 .lt .lt (.int 6000) (.nm 2) (.int 7000)) (.cons (.ret (.tup (.cons (.tup (.cons (.str ac) (.cons (.bop .sub (.bop .add (.nm 1) (.nm 2)) (.int 6500)) ee3))) edd))) .nil) .nil) (.cons (.iff (.and (.cmp2 .lt .lt (.int 8000) (.nm 2) (.int 9000)) (.cmp .gt eee (.int 0))) (.cons (.ret (.tup (.cons (.tup (.cons (.str bi) (.cons (.bop .sub (.bop .fdiv (.nm 2) (.int 200)) (.int 40)) (.cons (.bop .sub (.bop .add (.nm 1) eee) (.int 100)) ee3)))) edd))) .nil) .nil) (.cons (.iff (.and (.cmp2 .lt .le (.int 7100) (.nm 2) (.int 7200)) (.cmp .le ebb edy)) (.cons (.set 6 (.sll (.nm 0) (.some eeh) (.some ebb))) (.cons (.set 7 (.comp 1 [6] (.rg1 ed5) (.nm 0) .none (.bop .add eby eb1))) (.cons (.ret (.tup (.cons (.tup (.cons (.str am) (.cons (.bnw .tuple (.nm 7)) .nil))) (.cons (.bop .add eeh (.blt .len efm)) .nil)))) .nil))) .nil) (.cons eb5 (.cons (.iff (.cmp2 .le .lt (.int 5000) (.nm 2) (.int 5500)) (.cons (.ret (.tup (.cons (.tup (.cons (.str jp) (.cons (.nm 4) (.cons (.bop .sub (.bop .add (.nm 1) (.nm 3)) (.int 5000)) efp)))) edg))) .nil) .nil) (.cons (.iff (.cmp .inn (.nm 2) (.tup (.cons (.int 7000) (.cons (.int 7001) .nil)))) (.cons (.ret (.tup (.cons (.ife (.cmp .eq (.nm 2) (.int 7000)) (.tup (.cons (.str ac) edi)) (.tup (.cons (.str ap) efj))) edg))) .nil) .nil) (.cons (.ret (.ife (.cmp2 .le .lt (.int 9000) (.nm 2) (.int 9005)) (.tup (.cons (.tup (.cons (.str bi) (.cons eeg edi))) edg)) (.non))) .nil))))))))))))))⟩
def F_things:Fn:=⟨[false],4,(.cons (.par [1,2] ede) (.cons (.whl (.cmp .lt (.nm 2) edy) (.cons (.set 3 (.call 29 (.cons (.nm 0) efo))) (.cons eb5 (.cons (.app 1 (.tup (.cons (.nm 2) (.cons (.ix (.nm 3) (.int 0)) .nil)))) (.cons (.set 2 (.ix (.nm 3) (.int 1))) .nil))))) (.cons (.ret (.nm 1)) .nil)))⟩
def F_right:Fn:=⟨[false,false],11,(.cons (.set 2 (.call 30 efi)) (.cons (.iff (.isn false (.nm 2)) ed6 .nil) (.cons (.set 3 (.comp 2 [] (.seq (.nm 2)) (.tp [0,1]) (.some (.cmp .nin efc (.tup ebv))) efc)) (.cons (.iff (.cmp .ne (.nm 3) (.comp 1 [] (.seq (.nm 0)) (.nm 0) .none ebo)) ed6 .nil) (.cons (.set 4 (.lst .nil)) (.cons (.fr (.tp [5,6]) (.seq (.nm 2)) (.cons (.iff ecv (.cons (.set 7 (.comp 1 [] (.seq (.nm 4)) (.nm 0) (.some ea5) edm)) (.cons (.set 8 (.comp 1 [] (.seq (.nm 4)) (.nm 0) (.some (.cmp .nin edm (.tup ecw))) edm)) (.cons (.set 9 eaf) (.cons (.set 10 (.comp 1 [] (.seq (.nm 4)) (.nm 0) (.some (.cmp .eq edm (.str ap))) edn)) (.cons (.iff (.or (.cmp .eq eei (.int 0)) ea7) ed6 .nil) (.cons (.iff eae ed6 .nil) (.cons (.set 4 (.lst (.cons (.tup (.cons (.nm 5) (.cons (.tup (.cons (.str gl) .nil)) .nil))) .nil))) .nil))))))) (.cons (.iff (.cmp .inn efd (.tup ecw)) (.cons (.app 4 (.tup edr)) .nil) (.cons (.iff eal ed6 .nil) (.cons (.set 4 (.lst (.cons (.tup edr) .nil))) .nil))) .nil)) .nil)) (.cons (.ret (.not eal)) .nil)))))))⟩
def F_law:Fn:=⟨[false],6,(.cons (.fr (.nm 1) (.rg1 (.bop .add (.int 1) ebp)) (.cons eb9 (.cons edh (.cons eca (.cons (.iff ebw (.cons (.set 4 (.call 25 (.cons (.nm 3) (.cons (.lst .nil) (.cons (.call 20 efo) .nil))))) .nil) .nil) (.cons (.set 5 (.call 28 (.cons (.nm 2) (.cons (.nm 3) (.cons (.ix (.nm 4) (.int 0)) .nil))))) (.cons eao .nil))))))) (.cons (.ret (.bl true)) .nil))⟩
def iu:Df:=⟨lf,lf,top 2,[em],[em],ir⟩
def jf:Df:=⟨lv,lv,top 3,[em],[em],rJ⟩
def gi:Df:=⟨lw,lw,top 4,[bn],[bn],lP⟩
def iw:Df:=⟨mA,mA,top 5,[bn],[bn],nk⟩
def pj:Df:=⟨na,na,top 6,[em],[em],yT⟩
def fc:Df:=⟨nb,nb,top 24,[em,ga,"long","goal"],[em,ga,"long","goal"],j2⟩
def gj:Df:=⟨nl,nl,top 25,[em,ga,"long","goal"],[em,ga,"long","goal","word","begin","at"],lQ⟩
def jg:Df:=⟨np,np,top 29,[bn,hF,"at"],[bn,hF,"at"],rK⟩
def iy:Df:=⟨ol,ol,top 30,[bn,hL],[bn,hL],nq⟩
def fe:Df:=⟨pc,pc,top 31,[bn,hL,ga],[bn,hL,ga],j3⟩
def lR:Df:=⟨pi,pi,top 32,[bn,hF,"pools"],[bn,hF,"pools","words","places","begins",ga,hL],F_placed⟩
def fg:Df:=⟨pr,pr,top 34,[bn,hL,"numbers",ga],[bn,hL,"numbers",ga,"begin","cells","number"],j4⟩
def iz:Df:=⟨pu,pu,top 35,[bn,hF,"plan"],[bn,hF,"plan","pools","uses","places","begins","end","spots","goals","at","use"],nv⟩
def fh:Df:=⟨rc,rc,top 36,[bn,hF,"plan"],[bn,hF,"plan","goals","words","cells",hL],j5⟩
def jh:Df:=⟨re,re,top 38,[cr,eD],[cr,eD],f6⟩
def vn:Df:=⟨sn,sn,top 39,[cr,eD],[cr,eD,"_law_cell"],vm⟩
def vo:Df:=⟨sw,sw,top 40,[bv,"_law_many"],[bv,"_law_many",Ch,"_law_once"],ny⟩
def pk:Df:=⟨sK,sK,top 41,[bv],[bv,"_law_way","_law_any_one"],pf⟩
def vp:Df:=⟨ul,ul,top 42,[bv],[bv,"_law_many","_law_share","_law_made_rows","_law_number","_law_way","_law_r","_law_s","_law_t","_law_near","_law_some"],F_rows⟩
def pv:Df:=⟨ut,ut,top 43,[bv,bm],[bv,bm,"_law_share","_law_jumps"],yU⟩
def pw:Df:=⟨wl,wl,top 44,[bv],[bv,"_law_any_one","_law_back"],ph⟩
def fj:Df:=⟨wn,wn,top 45,["_law_row"],["_law_row"],fb⟩
def vq:Df:=⟨wp,wp,top 46,[bm,eH,eD],[bm,eH,eD],CW⟩
def iA:Df:=⟨wr,wr,top 47,[bm,eH,hR],[bm,eH,hR,"_law_places","_law_begins",hY,wv,"_law_at",AT],nz⟩
def iB:Df:=⟨ww,ww,top 48,[bv,bm],[bv,bm,"_law_greats","_law_gaps",eD,wv,"_law_uses",hR,"_law_at",AT,"_law_use","_law_more"],F_any_plan⟩
def gk:Df:=⟨wE,wE,top 49,[bm,eH,"_law_reach_here"],[bm,eH,"_law_reach_here",hR,"_law_uses","_law_late",hY,wv,"_law_due","_law_behind","_law_begin",eD,"_law_spot",AT],F_late_plan⟩
def ji:Df:=⟨wP,wP,top 50,[bm,wv,hY],[bm,wv,hY],rL⟩
def gm:Df:=⟨wS,wS,top 51,[bm,eH,hR,"_law_hop"],[bm,eH,hR,"_law_hop","_law_places","_law_begins","_law_end","_law_goals",Ch,eD,"_law_row","_law_far"],F_too_short⟩
def fq:Df:=⟨wT,wT,top 52,[bv,bm,hR],[bv,bm,hR,eH,"_law_late"],j6⟩
def vw:Df:=⟨xz,xz,top 53,[kw,hY],[kw,hY,"_law_one","_law_more","_law_r","_law_rest","_law_halves",AT],F_seen⟩
def lS:Df:=⟨xL,xL,top 54,[kw],[kw,Ch,hY,"_law_one"],F_things⟩
def pC:Df:=⟨zn,zn,top 55,[bm,kw],[bm,kw,"_law_things_here","_law_names","_law_ahead",hY,"_law_thing","_law_some","_law_last","_law_due","_law_jumps"],F_right⟩
def D_law:Df:=⟨ii,ii,top 56,[cr],[cr,eD,bv,bm,"_law_plan",eH],F_law⟩
def pl:Pl where
 ds:=[(iu,.fn),(jf,.fn),(gi,.fn),(iw,.fn),(pj,.fn),(fc,.fn),(gj,.fn),(jg,.fn),(iy,.fn),(fe,.fn),(lR,.fn),(fg,.fn),(iz,.fn),(fh,.fn),(jh,.fn),(vn,.fn),(vo,.fn),(pk,.fn),(vp,.fn),(pv,.fn),(pw,.fn),(fj,.fn),(vq,.fn),(iA,.fn),(iB,.fn),(gk,.fn),(ji,.fn),(gm,.fn),(fq,.fn),(vw,.fn),(lS,.fn),(pC,.fn),(D_law,.fn)]
 cs:=[("GREAT",.int 5000),("GREATEST_SMALL",.int 99),("HALF_WORD",.int 10000),("LESS",.int 3000),("LONG_GO",.int 7000),("LONG_NIL",.int 9000),("NILS_OF_ONE",.int 200),("OVER",.int 7001),("OVER_CELLS",.int 2),("PAD",.int 7002),("POOL",.int 7100),("SAME_PLACE",.int 5000),("SET",.int 1000),("SHORT_GO",.int 6500),("SHORT_NIL",.int 8100),("STOP",.int 0),("SUM",.int 2000),("TELL",.int 4000),("WORD_CELLS",.int 2)]
 nog:=["abs","any","enumerate","int","len","max","min","range","sorted","tuple","zip"]
 fld:=[]
abbrev Gu:Nat:=32
theorem Gv:(pl.ds.all λz=>yS pl.tb z.1)=true:=by decide +kernel
abbrev It(i:Int):OD:=.fz (.int i)
abbrev Db(i:Int):Option OD:=some (It i)
abbrev Tp(a b c:Int):OD:=.lst [It a,It b,It c]
abbrev Ev(a b c:Int):Option OD:=some (Tp a b c)
structure TpOk (b c:Int)(n:Nat):Prop where
 b0:0<=b
 b1:b<2147483629
 c0:0<=c
 c1:c<=n
theorem cv{i j:Int}(h:(-(2^64)<i/\i<2^64)\/(-(2^64)<j/\j<2^64)):wQ .mul (.int i) (.int j)=some (.int (i*j)):=bs rfl (bs rfl (bs (bg h rfl) rfl))
theorem bf{i j:Int}(h:0<j):wQ .mod (.int i) (.int j)=some (.int (i%j)):=bs rfl (bs rfl (bs (bg h rfl) rfl))
theorem iC{i j:Int}(h:0<j/\j<1073741824):wQ .fdiv (.int i) (.int j)=some (.int (i/j)):=bs rfl (bs rfl (bs (bg h rfl) rfl))
theorem Gw{x m:Int}(a:0<m)(h:m<=2^64):-(2^64)<x%m/\x%m<2^64:=by have c:=abE x (show m≠0 by omega);have b:=abF x a;omega
theorem up{m a k b:Nat}(h:m<=a)(e:Nat.ble (a+k) b=true):m+k<=b:=aar (abr h k) (acK e)
theorem Kz{m k b:Nat}(e:Nat.ble k b=true):m+k<=m+b:=acn (acK e) m
theorem aw{n m:Nat}{a b c many:Int}(h:TpOk b c m)(o:m<=1000000)(d:0<many)(l:many<1073741824):∃x i g e,pl.pg.call (n+1) 16 [Tp a b c,It many]=some (It x,[Tp i g e,It many])/\0<=x/\x<many/\TpOk g e (m+1):=by
 have p:=h.b0;have j:=h.b1;have q:=h.c0;have k:=h.c1;by_cases f:0<a
 ·refine⟨a%many,a/many,b,c,?_,abE _ (by omega),abF _ d,⟨h.b0,h.b1,h.c0,by omega⟩⟩;refine ak (fn:=ny) (ρ:=[Ev (a/many) b c,Db many,Db (a%many),none]) rfl rfl ?_ rfl;refine ar (au (aj (e_cmp rfl rfl rfl rfl (show some (decide (0<a))=some true by rw[Dac f]))) ?_);refine ab (ah (ae rfl rfl rfl rfl (bf d)) rfl rfl rfl) ?_;refine ab (nj (ae rfl rfl rfl rfl (iC ⟨d,l⟩)) rfl rfl rfl rfl rfl rfl rfl) rfl
 ·exact⟨_,a,_,c+1,ak (fn:=ny) rfl rfl (ab (s_ifF (aj (e_cmp rfl rfl rfl rfl (show some (decide (0<a))=some false by rw[Dab f]))) rfl) (ab (nj rfl rfl rfl rfl rfl rfl rfl rfl) (ab (ah (ae (ae (ae rfl (ae rfl rfl rfl rfl (cv (.inl (by decide)))) rfl rfl rfl) (ae rfl rfl rfl rfl rfl) rfl rfl (cv (.inr (by omega)))) rfl rfl rfl (bf (by decide))) rfl rfl rfl) (ab (nj (ae (ae (ae rfl (ae (ae rfl rfl rfl rfl (bf (by decide))) rfl rfl rfl rfl) rfl rfl (cv (.inl (Gw (by decide) (by decide))))) rfl rfl rfl rfl) rfl rfl rfl (bf (by decide))) rfl rfl rfl rfl rfl rfl rfl) (ar (ai (ae (ae (ae (ae rfl (ae (ae rfl rfl rfl rfl (bf (by decide))) rfl rfl rfl rfl) rfl rfl (cv (.inl (Gw (by decide) (by decide))))) rfl rfl rfl (bf (by decide))) rfl rfl rfl (iC (by decide))) rfl rfl rfl (bf d)) rfl)))))) rfl,abE _ (by omega),abF _ d,⟨abE _ (by decide),abF _ (by decide),by omega,by omega⟩⟩
theorem CY{n:Nat}{ns:List Int}{k:Nat}:∃x,pl.pg.call (n+1) 14 [.fz (.list (ns.map PyData.int)),It k]=some (It x,[.fz (.list (ns.map PyData.int)),It k]):=by
 by_cases b:(k:Int)<ns.length
 ·have a:k<ns.length:=by omega
  refine⟨ns[k],ak (fn:=f6) rfl rfl (ar (ai (eA (aj (e_cmp rfl rfl rfl rfl (k:=true) ?_)) (ax rfl rfl rfl (bw (cU (x:=.int ns[k]) ?_)))) rfl)) rfl⟩
  ·show some (decide ((k:Int)<((ns.map PyData.int).length:Nat)))=some true;rw[aaa,Dac b]
  ·rw[aau,aak a];rfl
 ·refine⟨0,ak (fn:=f6) rfl rfl (ar (ai (gg (aj (e_cmp rfl rfl rfl rfl (k:=false) ?_)) rfl) rfl)) rfl⟩;show some (decide ((k:Int)<((ns.map PyData.int).length:Nat)))=some false;rw[aaa,Dab b]
theorem CZ{n:Nat}{ns:List Int}{k:Nat}(hk:k<=8):∃a b,pl.pg.call (n+2) 15 [.fz (.list (ns.map PyData.int)),It k]=some (Tp a b 0,[.fz (.list (ns.map PyData.int)),It k])/\TpOk b 0 0:=by obtain⟨x,c⟩:=CY (n:=n) (ns:=ns) (k:=k);refine⟨_,_,ak (fn:=vm) rfl rfl (ab (ah (ag rfl rfl c rfl) rfl rfl rfl) (ar (ai (aJ (aa (ae rfl (aE (aa (e_cmp rfl (ae rfl rfl rfl rfl rfl) rfl rfl rfl) af) rfl rfl) rfl rfl (cv (.inr ?_))) (aa (ae (ae (ae (ae (ae rfl rfl rfl rfl (bf (by decide))) (ae rfl rfl rfl rfl (cv (.inl (by decide)))) rfl rfl rfl) rfl rfl rfl rfl) rfl rfl rfl (cv (.inr (by decide)))) rfl rfl rfl (bf (by decide))) (aa rfl af))) rfl rfl) rfl))) rfl,abE _ (by decide),abF _ (by decide),abX _,abX _⟩;exact(show ∀q:Bool,-(2^64)<(if q=true then (1:Int) else 0)/\(if q=true then (1:Int) else 0)<2^64 by decide) _
theorem fu{ks:List Int}{i:Int}(a:0<=i)(d:i<ks.length):∃k,k∈ks/\atI (ks.map It) i=Db k:=by obtain⟨x,b,e⟩:=gF (xs:=ks.map It) a (by rw[aaa];exact d);obtain⟨k,c,rfl⟩:=aav.mp b;exact⟨k,c,e⟩
theorem TpOk.up{b c:Int}{m a:Nat}(h:TpOk b c m)(d:m<=a):TpOk b c a:=⟨h.b0,h.b1,h.c0,by have:=h.c1;omega⟩
theorem pD{n m:Nat}{a b c:Int}(h:TpOk b c m)(e:m<=900000):∃k G o l,pl.pg.call (n+2) 17 [Tp a b c]=some (It k,[Tp G o l])/\(100<=k/\k<=99999999)/\TpOk o l (m+4):=by
 obtain⟨w,D,b1,c1,A,L,t,q⟩:=aw (n:=n) (a:=a) (many:=4) h (up (k:=0) e rfl) (by decide) (by decide);obtain⟨Q,p,b2,Y,T,N,U,S⟩:=aw (n:=n) (a:=D) (many:=99999900) q (up (k:=1) e rfl) (by decide) (by decide);obtain⟨Z,v,b3,c3,X,f,i,B⟩:=aw (n:=n) (a:=p) (many:=5) S (up (k:=2) e rfl) (by decide) (by decide);obtain⟨C,M,s,O,y,H,r,u⟩:=aw (n:=n) (a:=v) (many:=6) B (up (k:=3) e rfl) (by decide) (by decide);obtain⟨g,I,J⟩:=fu (ks:=[100,101,12345,10000,9999]) f i;obtain⟨k,d,z⟩:=fu (ks:=[g,100+C,100+Q,99999999]) L t;refine⟨k,M,s,O,ak (fn:=pf) rfl rfl (ab (ah (ag rfl rfl A rfl) rfl rfl rfl) (ab (ah (ae rfl (ag rfl rfl T rfl) rfl rfl rfl) rfl rfl rfl) (ar (ai (ax (aJ (aa (ax rfl (ag rfl rfl X rfl) rfl (cE J)) (aa (ae rfl (ag rfl rfl y rfl) rfl rfl rfl) (aa rfl (aa rfl af)))) rfl rfl) rfl rfl (cE z)) rfl)))) rfl,?_,u⟩;have j:100<=g/\g<=99999999:=(show ∀x∈[100,101,12345,10000,9999],(100:Int)<=x/\x<=99999999 by decide) g I;rcases aab.mp d with rfl|d
 ·exact j
 rcases aab.mp d with rfl|d
 ·omega
 rcases aab.mp d with rfl|d
 ·omega
 rw[aaw.mp d];decide
inductive R where|st (r k:Int)|ot (w:Str) (xs:List Int) (h:w≠ce/\PyData.strOk w=true)
def R.num:R->Int|.st _ k=>k|.ot _ _ _=>0
inductive Rkd:Str->List Int->Prop
 |sum (a b:Int) (h:(0<=a/\a<=4)/\0<=b/\b<=4):Rkd "sum" [a,b]
 |less (a b:Int) (h:(0<=a/\a<=4)/\0<=b/\b<=4):Rkd kt [a,b]
 |tell (a:Int) (h:0<=a/\a<=4):Rkd "tell" [a]
 |go (a:Int):Rkd ac [a]
 |nil (a b:Int) (h:0<=a/\a<=4):Rkd bi [a,b]
 |stop:Rkd ci []
def R.ok:R->Prop|.st r k=>(0<=r/\r<=4)/\0<=k/\k<=99999999|.ot w xs _=>Rkd w xs
abbrev Nb(rs:List R):Prop:=∀r∈rs,r.ok
theorem Nb.snoc(h:Nb rs)(b:r.ok):Nb (rs++[r]):=λx a=>by
 rcases aai.mp a with a|a
 ·exact h x a
 ·rw[aaw.mp a];exact b
abbrev nF(a b:Int):R:=.ot "sum" [a,b] (by decide +kernel)
abbrev iD(a b:Int):R:=.ot kt [a,b] (by decide +kernel)
abbrev dN(a:Int):R:=.ot "tell" [a] (by decide +kernel)
abbrev yV(a:Int):R:=.ot ac [a] (by decide +kernel)
abbrev j7(a b:Int):R:=.ot bi [a,b] (by decide +kernel)
abbrev Gx:R:=.ot ci [] (by decide +kernel)
def R.d:R->PyData|.st r k=>.tuple [.str ce,.int r,.int k]|.ot w xs _=>.tuple (.str w::xs.map PyData.int)
def R.jm:R->Bool|.st _ _=>false|.ot w _ _=>decide (w=ac)||decide (w=bi)
def R.tg:R->Int|.st _ _=>0|.ot _ xs _=>xs.getLastD 0
abbrev Jok(N:Int)(r:R):Prop:=r.jm=true->0<=r.tg/\r.tg<=N/\∃ys,r.d=.tuple (ys++[.int r.tg])
abbrev Jb(N:Int)(rs:List R):Prop:=∀r∈rs,Jok N r
theorem Jb.snoc(h:Jb N rs)(b:Jok N r):Jb N (rs++[r]):=λx a=>by
 rcases aai.mp a with a|a
 ·exact h x a
 ·rw[aaw.mp a];exact b
theorem Gy(c:0<=a)(b:a<=N):Jok N (yV a):=λ_=>⟨c,b,[.str ac],rfl⟩
theorem Ab(c:0<=a)(b:a<=N):Jok N (j7 r a):=λ_=>⟨c,b,[.str bi,.int r],rfl⟩
theorem nG(h:r.jm=false):Jok N r:=λz=>by rw[h]at z;cases z
abbrev Rs(rs:List R):OD:=.lst (rs.map λr=>.fz r.d)
abbrev EQ(rs:List R):Option OD:=some (Rs rs)
theorem Ac{rs:List R}{i:Int}(a:0<=i)(c:i<rs.length):∃r,r∈rs/\atI (rs.map λr=>OD.fz r.d) i=some (.fz r.d):=by obtain⟨x,b,e⟩:=gF (xs:=rs.map λr=>OD.fz r.d) a (by rw[aaa];exact c);obtain⟨r,f,rfl⟩:=aav.mp b;exact⟨r,f,e⟩
theorem yW{r:R}(h:ρ[j]?.join=EQ rs)(c:atI (rs.map λr=>OD.fz r.d) i=some (.fz r.d)):bp ρ (.rf j) i=some (.fz r.d,ρ):=by
 obtain⟨k,b,a⟩:=bnd c;have e:itemS (Rs rs) i=some (r.d,Rs rs):=by simp only[Rs,itemS,b,a,OD.dat];rw[bz a]
 simp only[bp,h,e];rw[set_self (join_some h)]
theorem pE:Rs (rs++[r])=.lst ((rs.map λr=>OD.fz r.d)++[.fz r.d]):=by rw[Rs,aas];rfl
abbrev KO:=pl.pg.ct
theorem rM(h:TpOk b c m)(s:m<=100000)(hl:rs.length<=1000)(m0:0<=many)(m1:many<=100):
  ∃Y C,((aW (.nm 4) (.fz (.int i)) [Ev a b c,Db many,Db share,EQ rs,o4,o5,o6,o7,o8,o9,o10]).bind λρ1=>av (KO (n+2)) (match F_rows.body with|.cons _ (.cons _ (.cons _ (.cons (.fr _ _ b) _)))=>b|_=>.nil) ρ1)=some (Y,C)/\(Y=.nx\/Y=.ct)/\∃(r:R) (a' b' c':Int) (p4 p5 p6 p7 p8 p9 N:Option OD),C=[Ev a' b' c',Db many,Db share,some (Rs (rs++[r])),p4,p5,p6,p7,p8,p9,N]/\(r.ok/\Jok many r)/\TpOk b' c' (m+8):=by
 obtain⟨w,a1,b1,c1,e1,d3,c0,t1⟩:=aw (many:=10) h (up (k:=0) s rfl) (by decide) (by decide);obtain⟨e,a2,b2,c2,e2,o,d4,t2⟩:=aw (many:=5) t1 (up s rfl) (by decide) (by decide);by_cases hw:w<share
 ·obtain⟨g,I,G,H,Z,g0,t3⟩:=pD t2 (up (k:=2) s rfl);refine⟨.ct,_,bs rfl (ab (dJ (aa (ag rfl rfl e1 rfl) (aa (ag rfl rfl e2 rfl) af)) rfl rfl rfl) (Jc (au (aj (e_cmp rfl rfl rfl rfl (show some (decide (w<share))=some true by rw[Dac hw]))) (ab (br rfl (bc (aa rfl (aa rfl (aa (ag rfl rfl Z rfl) af))) rfl rfl rfl) rfl rfl (by rw[aaa];omega) (by rw[pE];rfl)) rfl)))),.inr rfl,.st e g,I,G,H,Db i,Db w,Db e,o7,o8,o9,o10,rfl,⟨⟨⟨o,by omega⟩,by omega,g0.2⟩,nG rfl⟩,t3.up (Kz (k:=6) rfl)⟩
 ·obtain⟨q,I,G,H,Z,T,X,t3⟩:=aw (many:=9) t2 (up (k:=2) s rfl) (by decide) (by decide);obtain⟨l,a4,b4,c4,e4,B,d2,t4⟩:=aw (many:=5) t3 (up (k:=3) s rfl) (by decide) (by decide);obtain⟨p,S,b5,c5,e5,A,y,t5⟩:=aw (n:=n+1) (a:=a4) (many:=many+1) t4 (up (k:=4) s rfl) (by omega) (by omega);obtain⟨L,U,b6,c6,e6,d1,d0,t6⟩:=aw (n:=n+1) (a:=S) (many:=7) t5 (up (k:=5) s rfl) (by decide) (by decide);obtain⟨t,a7,b7,c7,e7,Q,d5,t7⟩:=aw (n:=n+1) (a:=U) (many:=100) t6 (up (k:=6) s rfl) (by decide) (by decide);obtain⟨x8,M,J,D,e8,O,b0,t8⟩:=aw (n:=n+1) (a:=a7) (many:=2) t7 (up (k:=7) s rfl) (by decide) (by decide);obtain⟨x,v,e9⟩:=Ac (rs:=[yV p,Gx]) O b0;obtain⟨j,u⟩:∃j:Int,j=(if (if i+L-2<many then i+L-2 else many)>0 then (if i+L-2<many then i+L-2 else many) else 0):=⟨_,rfl⟩
  obtain⟨r,f,a0⟩:=Ac (rs:=[.st e t,nF e l,iD e l,dN e,yV j,j7 e j,j7 e p,dN e,x]) T X;have hb:r.ok:=by
   have n8:x.ok:=by
    rcases aab.mp v with rfl|v
    ·exact Rkd.go _
    ·rw[aaw.mp v];exact Rkd.stop
   rcases aab.mp f with rfl|f
   ·exact⟨⟨o,by omega⟩,Q,by omega⟩
   rcases aab.mp f with rfl|f;exact Rkd.sum _ _ ⟨⟨o,by omega⟩,B,by omega⟩;rcases aab.mp f with rfl|f;exact Rkd.less _ _ ⟨⟨o,by omega⟩,B,by omega⟩;rcases aab.mp f with rfl|f;exact Rkd.tell _ ⟨o,by omega⟩;rcases aab.mp f with rfl|f;exact Rkd.go _;rcases aab.mp f with rfl|f;exact Rkd.nil _ _ ⟨o,by omega⟩;rcases aab.mp f with rfl|f;exact Rkd.nil _ _ ⟨o,by omega⟩;rcases aab.mp f with rfl|f;exact Rkd.tell _ ⟨o,by omega⟩;rw[aaw.mp f];exact n8
  have n0:0<=j:=by rw[u];split<;>omega
  have n1:j<=many:=by rw[u];split<;>(try split)<;>omega
  have hj:Jok many r:=by
   have n8:Jok many x:=by
    rcases aab.mp v with rfl|v
    ·exact Gy A (Int.lt_add_one_iff.mp y)
    ·rw[aaw.mp v];exact nG rfl
   rcases aab.mp f with rfl|f;exact nG rfl;rcases aab.mp f with rfl|f;exact nG rfl;rcases aab.mp f with rfl|f;exact nG rfl;rcases aab.mp f with rfl|f;exact nG rfl;rcases aab.mp f with rfl|f;exact Gy n0 n1;rcases aab.mp f with rfl|f;exact Ab n0 n1;rcases aab.mp f with rfl|f;exact Ab A (Int.lt_add_one_iff.mp y);rcases aab.mp f with rfl|f;exact nG rfl;rw[aaw.mp f];exact n8
  refine⟨.nx,_,bs rfl (ab (dJ (ρ3:=[Ev a2 b2 c2,Db many,Db share,EQ rs,Db i,Db w,Db e,o7,o8,o9,o10]) (aa (ag (ρ3:=[Ev a1 b1 c1,Db many,Db share,EQ rs,Db i,o5,o6,o7,o8,o9,o10]) rfl rfl e1 rfl) (aa (ag (ρ3:=[Ev a2 b2 c2,Db many,Db share,EQ rs,Db i,o5,o6,o7,o8,o9,o10]) rfl rfl e2 rfl) af)) rfl rfl rfl) (ab (s_ifF (aj (e_cmp rfl rfl rfl rfl (show some (decide (w<share))=some false by rw[Dab hw]))) rfl) ?_)),.inl rfl,r,M,J,D,Db i,Db q,Db e,Db l,Db p,Db j,some (Rs [.st e t,nF e l,iD e l,dN e,yV j,j7 e j,j7 e p,dN e,x]),rfl,⟨hb,hj⟩,t8⟩;refine ab (ah (ρ3:=[Ev I G H,Db many,Db share,EQ rs,Db i,Db q,Db e,o7,o8,o9,o10]) (ag (ρ3:=[Ev I G H,Db many,Db share,EQ rs,Db i,Db w,Db e,o7,o8,o9,o10]) rfl rfl Z rfl) rfl rfl rfl) ?_;refine ab (dJ (ρ3:=[Ev S b5 c5,Db many,Db share,EQ rs,Db i,Db q,Db e,Db l,Db p,o9,o10]) (aa (ag (ρ3:=[Ev a4 b4 c4,Db many,Db share,EQ rs,Db i,Db q,Db e,o7,o8,o9,o10]) rfl rfl e4 rfl) (aa (ag (ρ3:=[Ev S b5 c5,Db many,Db share,EQ rs,Db i,Db q,Db e,o7,o8,o9,o10]) rfl rfl e5 rfl) af)) rfl rfl rfl) ?_;refine ab (ah (ρ3:=[Ev U b6 c6,Db many,Db share,EQ rs,Db i,Db q,Db e,Db l,Db p,Db j,o10]) (aE (aa rfl (aa (aE (aa rfl (aa (ae (ae rfl (ag (ρ3:=[Ev U b6 c6,Db many,Db share,EQ rs,Db i,Db q,Db e,Db l,Db p,o9,o10]) rfl rfl e6 rfl) rfl rfl rfl) rfl rfl rfl rfl) af)) rfl rfl) af)) rfl (show _=some (PyData.int j) by rw[u];rfl)) rfl rfl rfl) ?_;refine ab (ah (ρ3:=[Ev a7 b7 c7,Db many,Db share,EQ rs,Db i,Db q,Db e,Db l,Db p,Db j,some (Rs [.st e t,nF e l,iD e l,dN e,yV j])]) (aJ (zs:=[.fz (R.st e t).d,.fz (nF e l).d,.fz (iD e l).d,.fz (dN e).d,.fz (yV j).d]) (aa (bc (z:=.fz (R.st e t).d) (aa rfl (aa rfl (aa (ag (ρ3:=[Ev a7 b7 c7,Db many,Db share,EQ rs,Db i,Db q,Db e,Db l,Db p,Db j,o10]) rfl rfl e7 rfl) af))) rfl rfl rfl) (aa rfl (aa rfl (aa rfl (aa rfl af))))) rfl rfl) rfl rfl rfl) ?_;refine ab (ah (ρ3:=[Ev M J D,Db many,Db share,EQ rs,Db i,Db q,Db e,Db l,Db p,Db j,some (Rs [.st e t,nF e l,iD e l,dN e,yV j,j7 e j,j7 e p,dN e,x])]) (gh rfl (aJ (aa rfl (aa rfl (aa rfl (aa (ax rfl (ag (ρ3:=[Ev M J D,Db many,Db share,EQ rs,Db i,Db q,Db e,Db l,Db p,Db j,some (Rs [.st e t,nF e l,iD e l,dN e,yV j])]) rfl rfl e8 rfl) rfl (cE e9)) af)))) rfl rfl) rfl rfl (show 9<=1000000 by decide)) rfl rfl rfl) ?_;exact ab (br (ρ3:=[Ev M J D,Db many,Db share,some (Rs (rs++[r])),Db i,Db q,Db e,Db l,Db p,Db j,some (Rs [.st e t,nF e l,iD e l,dN e,yV j,j7 e j,j7 e p,dN e,x])]) (xs:=rs.map λr=>.fz r.d) rfl (ax rfl rfl rfl (yW rfl a0)) rfl rfl (by rw[aaa];omega) (by rw[pE];rfl)) rfl
theorem rO:∀d∈bP lo n,∃i,d=.int i:=λd a=>by obtain⟨i,_,rfl⟩:=aav.mp a;exact⟨_,rfl⟩
theorem rQ(h:TpOk b c (m+3))(B:m<=90000)(X:0<=many)(H:many<=60):∃(rs:List R) (q o l:Int) (o4 o5 o6 o7 o8 o9 o10:Option OD),bh (λd f=>(aW (.nm 4) (.fz d) f).bind λρ1=>av (KO (n+2)) (match F_rows.body with|.cons _ (.cons _ (.cons _ (.cons (.fr _ _ b) _)))=>b|_=>.nil) ρ1) (bP 0 many.toNat) [Ev a b c,Db many,Db sh,some (Rs []),none,none,none,none,none,none,none]=some (.nx,[Ev q o l,Db many,Db sh,EQ rs,o4,o5,o6,o7,o8,o9,o10])/\rs.length<=60/\(Nb rs/\Jb rs.length rs)/\TpOk o l (m+500):=by
 have s:many.toNat<=60:=by omega
 have u:many<=100:=aa9 H (by decide);obtain⟨f,Q,rs,C,N,A,o4,o5,o6,o7,o8,o9,o10,rfl,g,_,k,O⟩:=rH (step:=λd f=>(aW (.nm 4) (.fz d) f).bind λρ1=>av (KO (n+2)) (match F_rows.body with|.cons _ (.cons _ (.cons _ (.cons (.fr _ _ b) _)))=>b|_=>.nil) ρ1)
  (λds y=>∃(rs:List R) (a b c:Int) (o4 o5 o6 o7 o8 o9 o10:Option OD),y=[Ev a b c,Db many,Db sh,EQ rs,o4,o5,o6,o7,o8,o9,o10]/\rs.length+ds.length=many.toNat/\(∀d∈ds,∃i,d=.int i)/\(Nb rs/\Jb many rs)/\TpOk b c (m+3+8*rs.length)) (λd ds y=>by
   rintro⟨rs,a,b,c,o4,o5,o6,o7,o8,o9,o10,rfl,g,z,k,t⟩;obtain⟨i,rfl⟩:=z _ aaj;have j:rs.length<=60:=aar (Nat.le.intro g) s;obtain⟨S,f,e,T,r,q,o,l,M,G,J,U,D,L,p,rfl,w,I⟩:=rM t (aar (Nat.add_le_add (abr B 3) (acL 8 j)) (by decide)) (aar j (by decide):rs.length<=1000) X u;have x:(rs++[r]).length=rs.length+1:=aad;exact⟨S,_,e,T,rs++[r],q,o,l,M,G,J,U,D,L,p,rfl,by rw[x,Nat.add_right_comm];exact g,λd v=>z d (aal _ v),⟨k.1.snoc w.1,k.2.snoc w.2⟩,I.up (by rw[x];exact aae _)⟩)
  (ds:=bP 0 many.toNat) ⟨[],a,b,c,none,none,none,none,none,none,none,rfl,by rw[eQ,abn,aaZ],rO,⟨(λr j=>absurd j aaq),(λr j=>absurd j aaq)⟩,h⟩
 have g:rs.length=many.toNat:=g;exact⟨rs,C,N,A,o4,o5,o6,o7,o8,o9,o10,Q,g▸s,⟨k.1,(show (rs.length:Int)=many by omega)▸k.2⟩,O.up (aar (acn (acL 8 (g▸s)) (m+3)) (acn (show 3+8*60<=500 by decide) m))⟩
theorem C0(h:TpOk b c m)(e:m<=90000):∃(rs:List R) (z t j:Int),pl.pg.call (n+3) 18 [Tp a b c]=some (Rs rs,[Tp z t j])/\rs.length<=60/\(Nb rs/\Jb rs.length rs)/\TpOk t j (m+500):=by
 have f:∀(a b c many:Int),TpOk b c (m+2)->0<=many->many<=60->∃(rs:List R) (z t j:Int) (C:DEnv),av (KO (n+2)) (match F_rows.body with|.cons _ ss=>ss|_=>.nil) [Ev a b c,Db many,none,none,none,none,none,none,none,none,none]=some (.rt (Rs rs),Ev z t j::C)/\rs.length<=60/\(Nb rs/\Jb rs.length rs)/\TpOk t j (m+500):=by intro a b c many h Q O;obtain⟨w,N,T,M,v,l,i,u⟩:=aw (many:=3) h (up e rfl) (by decide) (by decide);obtain⟨U,_,L⟩:=fu (ks:=[2,5,9]) l i;obtain⟨rs,g,p,d,o4,o5,Y,X,Z,o9,S,s,o,q,r⟩:=rQ u e Q O;exact⟨rs,g,p,d,_,ab (ah (ax rfl (ag rfl rfl v rfl) rfl (cE L)) rfl rfl rfl) (ab (ah rfl rfl rfl rfl) (ab (cp (dM rfl rfl (by omega)) s) (ar (ai rfl rfl)))),o,q,r⟩
 obtain⟨w,N,T,M,v,l,i,u⟩:=aw (many:=8) h (up (k:=0) e rfl) (by decide) (by decide);by_cases J:w=0
 ·obtain⟨D,g,p,d,s,B,H,r⟩:=aw (many:=41) u (up e rfl) (by decide) (by decide);obtain⟨rs,x,A,G,C,I,o,q,y⟩:=f g p d (20+D) r (by omega) (by omega);exact⟨rs,x,A,G,ak rfl rfl (ab (ah (eA (aj (e_cmp (ag rfl rfl v rfl) rfl rfl rfl (show some (decide (w=0))=some true by rw[Dac J]))) (ae rfl (ag rfl rfl s rfl) rfl rfl rfl)) rfl rfl rfl) I) rfl,o,q,y⟩
 ·obtain⟨D,g,p,d,s,B,H,r⟩:=aw (many:=11) u (up e rfl) (by decide) (by decide);obtain⟨rs,x,A,G,C,I,o,q,y⟩:=f g p d D r (by omega) (by omega);exact⟨rs,x,A,G,ak rfl rfl (ab (ah (gg (aj (e_cmp (ag rfl rfl v rfl) rfl rfl rfl (show some (decide (w=0))=some false by rw[Dab J]))) (ag rfl rfl s rfl)) rfl rfl rfl) I) rfl,o,q,y⟩
def R.gr:R->Bool|.st _ k=>decide (99<k)|.ot _ _ _=>false
abbrev Rd(r:R):OD:=.fz r.d
abbrev Fa(r:R):Option OD:=some (Rd r)
abbrev Rl(rs:List R):OD:=.fz (.list (rs.map R.d))
abbrev Go(rs:List R):Option OD:=some (Rl rs)
theorem atI_zero{a:Type}{x:a}{xs:List a}:atI (x::xs) 0=some x:=cU (k:=0) rfl
theorem C1{n:Nat}(r:R):pl.pg.call (n+1) 0 [Rd r]=some (.fz (.bool r.gr),[Rd r]):=by
 cases r with
 |st r k=>rfl
 |ot w a h=>exact ak (fn:=ir) rfl rfl (ar (ai (ni (e_cmp (ax rfl rfl rfl (aF atI_zero)) rfl rfl rfl (show some (decide (w=ce))=some false by rw[Dab h.1]))) rfl)) rfl
theorem pF{n:Nat}(r:R):pl.pg.call (n+1) 21 [Rd r]=some (.fz (.bool r.gr),[Rd r]):=by
 cases r with
 |st r k=>rfl
 |ot w a h=>exact ak (fn:=fb) rfl rfl (ar (ai (ni (e_cmp (ax rfl rfl rfl (aF atI_zero)) rfl rfl rfl (show some (decide (w=ce))=some false by rw[Dab h.1]))) rfl)) rfl
def R.wd:R->Str|.st _ _=>ce |.ot w _ _=>w
def R.tl:R->List PyData|.st r k=>[.int r,.int k]|.ot _ xs _=>xs.map PyData.int
theorem dats_fz:∀ds:List PyData,OD.dv (ds.map OD.fz)=some ds
 |[]=>rfl
 |d::ds=>by rw[aao,OD.dv,dats_fz ds];rfl
theorem dat_fz(ds:List PyData):(OD.lst (ds.map OD.fz)).dat=some (.list ds):=by rw[OD.dat,dats_fz]
theorem bD{ρ a:DEnv}{j:Nat}{x:OD}{d:PyData}(h:ρ[j]?.join=some x)(c:x.dat=some d)(b:ρ.set j (some (.fz d))=a):frz1 ρ (.rf j)=some (d,a):=by simp only[frz1,h,Option.bind_some,c,Option.map_some,b]
theorem unca_nil{ρ a:DEnv}:eR ρ [] a=ρ:=by cases a with|nil=>rfl|cons o a=>cases o<;>rfl
theorem R.tr(r:R):r.d=.tuple (.str r.wd::r.tl):=by cases r<;>rfl
abbrev Il(gs:List Int):OD:=.lst (gs.map It)
abbrev Ix(gs:List Int):Option OD:=some (Il gs)
theorem cB(gs:List Int):(gs.map PyData.int).map OD.fz=gs.map It:=by rw[aaL];rfl
theorem aK(gs:List Int):(Il gs).dat=some (.list (gs.map PyData.int)):=by rw[Il,<-cB,dat_fz]
theorem Gz(rs:List R):(rs.map R.d).map OD.fz=rs.map λr=>OD.fz r.d:=by rw[aaL];rfl
theorem dO(h:ρ[j]?.join=Ix gs)(c:atI (gs.map It) i=Db g):bp ρ (.rf j) i=some (It g,ρ):=by
 obtain⟨k,b,a⟩:=bnd c;have d:itemS (Il gs) i=some (.int g,Il gs):=by simp only[Il,itemS,b,a,OD.dat];rw[bz a]
 simp only[bp,h,d];rw[set_self (join_some h)]
structure Cf where
 rows:List R
 longs:List Int
 r0:Int
 r1:Int
abbrev Lo(f:Cf):OD:=.fz (.list (f.longs.map PyData.int))
abbrev IN(f:Cf):Option OD:=some (Lo f)
abbrev Re(f:Cf):OD:=.fz (.tuple [.int f.r0,.int f.r1])
def R.r8(r:R):Bool:=!decide (r.wd=ac)&&!decide (r.wd=ci)
def ovN(rs:List R):Nat->Bool
 |0=>true
 |k+1=>(rs[k]?).elim true R.r8
def fw(rs:List R)(k:Nat)(p:Int):Int:=let q:=if ovN rs k=true then p+2 else p;q+2-q%2
def sz(f:Cf)(k:Nat):Int:=if (f.rows[k]?).elim false R.gr=true\/(k:Int)∈f.longs then 2 else 1
theorem yX(r:R):pl.pg.call (n+1) 4 [Rd r]=some (.fz (.bool r.r8),[Rd r]):=by
 unfold R.r8;have a:∀x:Str,ev (KO n) (.cmp .ne ee8 (.str x)) [Fa r]=some (.val (.fz (.bool (!decide (r.wd=x)))),[Fa r]):=λx=>e_cmp (ax rfl rfl rfl (by rw[R.tr];exact aF atI_zero)) rfl rfl rfl rfl;cases b:(!decide (r.wd=ac)) with
 |false=>exact ak rfl rfl (ar (ai (ni (by rw[<-b];exact a ac)) rfl)) rfl
 |true=>rw[abG];exact ak rfl rfl (ar (ai (CS (by rw[<-b];exact a ac) (a ci)) rfl)) rfl
theorem cV{rs:List R}{k:Nat}(h:rs[k]?=some r):atI (rs.map R.d) (k:Int)=some r.d:=cU (by rw[aau,h];rfl)
theorem lT:∀{ls:List Int},memD (.int x) (ls.map PyData.int)=some (decide (x∈ls))
 |[]=>by simp[memD]
 |y::ls=>by rw[aao,memD,lT (ls:=ls)];show some (decide (y=x)||decide (x∈ls))=_;rw[<-Bool.decide_or];congr 1;rw[decide_eq_decide,aab];exact⟨λh=>h.imp Eq.symm id,λh=>h.imp Eq.symm id⟩
theorem GA{ls:List Int}:g9 .inn (.int x) (.list (ls.map PyData.int))=some (decide (x∈ls)):=bs (f:=λa=>(gd (DV (PyData.int x)=true)).bind λ_=>memD (.int x) a) rfl (bg rfl lT)
theorem ninL{ls:List Int}:g9 .nin (.int x) (.list (ls.map PyData.int))=some (!decide (x∈ls)):=bs (GA ) rfl
theorem C2{k:Nat}(h:f.rows[k]?=some r):pl.pg.call (n+2) 7 [Rl f.rows,Lo f,It k]=some (It (sz f k),[Rl f.rows,Lo f,It k]):=by
 unfold sz;rw[h];have a:=ag (C:=KO (n+1)) (f:=0) (es:=.cons Jf .nil) (ρ:=[Go f.rows,IN f,Db k]) (aa (ax rfl rfl rfl (bw (cV h))) af) rfl (C1 r) rfl;cases d:r.gr with
 |true=>rw[d]at a;rw[if_pos (.inl d)];exact ak rfl rfl (ar (ai (eA (je (bq a)) rfl) rfl)) rfl
 |false=>
  rw[d]at a;have c:aM (KO (n+1)) eem [Go f.rows,IN f,Db k]=some (decide ((k:Int)∈f.longs),[Go f.rows,IN f,Db k]):=aj (e_cmp rfl rfl rfl rfl GA);cases b:decide ((k:Int)∈f.longs) with
  |true=>rw[b]at c;rw[if_pos (.inr (Daa b))];exact ak rfl rfl (ar (ai (eA (dH (bq a) c) rfl) rfl)) rfl
  |false=>rw[b]at c;rw[if_neg λz=>z.elim (λz=>absurd (d.symm.trans z) aaf) λz=>Dad b z];exact ak rfl rfl (ar (ai (gg (dH (bq a) c) rfl) rfl)) rfl
theorem vy{k:Nat}(h:k<=rs.length):pl.pg.call (n+2) 8 [Rl rs,It k]=some (.fz (.bool (ovN rs k)),[Rl rs,It k]):=by
 cases k with
 |zero=>exact ak rfl rfl (ar (ai (lK rfl) rfl)) rfl
 |succ k=>
  have b:=yX (n:=n) rs[k];have a:ovN rs (k+1)=(rs[k]).r8:=by show (rs[k]?).elim true R.r8=_;rw[aak h];rfl
  rw[a];have c:((k+1:Nat):Int)-1=(k:Int):=by omega
  exact ak rfl rfl (ar (ai (lL (e_cmp rfl rfl rfl rfl (show some (decide (((k+1:Nat):Int)=0))=some false by rw[Dab (by omega)])) (ag (aa (ax rfl rfl rfl (bw (by rw[c];exact cV (aak (by omega))))) af) rfl b rfl)) rfl)) rfl
theorem pH{rs:List R}{k:Nat}(h:k<=rs.length):pl.pg.call (n+3) 9 [Rl rs,It k,It p]=some (It (fw rs k p),[Rl rs,It k,It p]):=by
 unfold fw;have c:=vy (n:=n) h;have a:=ag (C:=KO (n+2)) (f:=8) (es:=.cons (.nm 0) efi) (ρ:=[Go rs,Db k,Db p]) rfl rfl c rfl;cases b:ovN rs k with
 |true=>rw[b]at a;exact ak rfl rfl (ab (au (bq a) (ab rfl rfl)) (ar (ai (ae rfl (ae rfl rfl rfl rfl (bf (by decide))) rfl rfl rfl) rfl))) rfl
 |false=>rw[b]at a;exact ak rfl rfl (ab (s_ifF (bq a) rfl) (ar (ai (ae rfl (ae rfl rfl rfl rfl (bf (by decide))) rfl rfl rfl) rfl))) rfl
def gIx:Int->List R->List Int
 |_,[]=>[]
 |i,r::rs=>if r.gr=true then i::gIx (i+1) rs else gIx (i+1) rs
theorem pI:∀{a b:List R}{i:Int},gIx i (a++b)=gIx i a++gIx (i+a.length) b
 |[],b,i=>by simp[gIx]
 |r::a,b,i=>by
  have e:i+1+(a.length:Int)=i+((r::a).length:Nat):=by rw[aap];omega
  rw[aaM,gIx,gIx,pI ,e];split<;>rfl
theorem gIx_mem:∀{rs:List R}{i a:Int},a∈gIx i rs->∃(j:Nat) (r:R),a=i+j/\rs[j]?=some r/\r.gr=true
 |[],i,a,h=>absurd h aaq
 |r::rs,i,a,h=>by
  rw[gIx]at h;by_cases d:r.gr=true
  ·rw[if_pos d]at h;rcases aab.mp h with rfl|h
   ·exact⟨0,r,by simp,rfl,d⟩
   ·obtain⟨j,q,e,c,b⟩:=gIx_mem h;exact⟨j+1,q,by rw[e];omega,c,b⟩
  ·rw[if_neg d]at h;obtain⟨j,q,e,c,b⟩:=gIx_mem h;exact⟨j+1,q,by rw[e];omega,c,b⟩
theorem gr_st{r:R}(h:r.gr=true):∃x k,r=.st x k:=by
 cases r with
 |st x k=>exact⟨x,k,rfl⟩
 |ot w b a=>cases h
theorem fv:∀{rs:List R}{i:Int},(gIx i rs).length=(rs.filter R.gr).length
 |[],i=>rfl
 |r::rs,i=>by
  rw[gIx];by_cases a:r.gr=true
  ·rw[if_pos a,abH a,aap,aap,fv]
  ·rw[if_neg a,abI a,fv]
def enF:Int->List R->List PyData
 |_,[]=>[]
 |i,r::rs=>.tuple [.int i,r.d]::enF (i+1) rs
theorem pJ:∀{rs:List R}{i:Int}{j:Nat},(enF i rs)[j]?=(rs[j]?).map λr=>.tuple [.int (i+j),r.d]
 |[],_,_=>by simp[enF]
 |r::rs,i,0=>by simp[enF]
 |r::rs,i,j+1=>by
  rw[enF,abY,abY,pJ];congr 1;funext r;have e:i+1+(j:Int)=i+((j+1:Nat):Int):=by omega
  rw[e]
theorem fA(rs:List R):cS (rs.map R.d)=enF 0 rs:=by
 refine ach λj=>?_;rw[pJ,abJ];unfold cS;rw[aau,aaa];by_cases a:j<rs.length
 ·rw[acM a,aak a];simp[abg,aau,aak a]
 ·rw[abZ (by simpa using a),abZ (by omega)];rfl
theorem j8:∀{rs:List R}{i:Int}{out:List PyData}{o0 o1:Option OD},∃a,bH (bK (KO (n+1)) (.tp [0,1]) (.some ed8) (.nm 0)) (enF i rs) out [o0,o1]=some (out++(gIx i rs).map PyData.int,a)
 |[],i,out,o0,o1=>⟨[o0,o1],by rw[gIx,aaA,aam];rfl⟩
 |r::rs,i,out,o0,o1=>by
  have b:aM (KO (n+1)) ed8 [Db i,Fa r]=some (r.gr,[Db i,Fa r]):=bq (ag rfl rfl (C1 r) rfl);rw[gIx];cases c:r.gr with
  |false=>rw[c]at b;obtain⟨a,e⟩:=j8;refine⟨a,bs (lN rfl b) ?_⟩;rw[if_neg aaf,e,aam]
  |true=>rw[c]at b;obtain⟨a,e⟩:=j8;refine⟨a,bs (lM rfl b rfl rfl) ?_⟩;rw[if_pos rfl,e,aac];rfl
theorem vz(b:rs.length<=1000):pl.pg.call (n+2) 2 [Rl rs]=some (Il (gIx 0 rs),[Rl rs]):=by obtain⟨a,e⟩:=j8;rw[aaB,<-fA]at e;refine ak rfl rfl (ar (ai (bj (fZ rfl rfl) (by rw[cI,aaa];omega) rfl e unca_nil) (by rw[cB];rfl))) rfl
abbrev Po(q:Int×List Int):PyData:=.tuple [.int q.1,.tuple (q.2.map PyData.int)]
theorem find_key:∀{us:List (Int×Int)}{i:Nat}{u:Int×Int},(us.map (·.1)).Nodup->us[i]?=some u->(us.map λu=>(Sum.inl u.1:Key)).findIdx? (λq=>decide (q=.inl u.1))=some i
 |[],_,_,_,h=>by simp at h
 |v::us,0,u,_,h=>by cases h;rw[aao,aa1];simp
 |v::us,i+1,u,nd,h=>by rw[aao]at nd;obtain⟨b,d⟩:=aaE.mp nd;have h:us[i]?=some u:=h;have a:v.1≠u.1:=λe=>b (by rw[e];exact aav.mpr ⟨u,aaI h,rfl⟩);rw[aao,aa1,find_key d h];have c:decide ((Sum.inl v.1:Key)=.inl u.1)=false:=Dab λe=>a (abj e);rw[c];rfl
theorem aT:bP lo (n+1)=.int lo::bP (lo+1) n:=by
 unfold bP;rw[List.range_succ_eq_map,aao,aaL];congr 1
 ·simp
 ·refine acF λi _=>?_;show PyData.int (lo+((i+1:Nat):Int))=_;congr 1;omega
theorem bU:Il (ns++[x])=.lst (ns.map It++[It x]):=by rw[Il,aas];rfl
abbrev Pz:=List (Int×List Int)
structure Mc where
 ps:List Int
 bs:List Int
 pl:Int
def inn(f:Cf)(k:Nat)(s:Mc)(q:Int×List Int):Mc:=if q.1=(k:Int) then ⟨s.ps,s.bs++[fw f.rows k s.pl],fw f.rows k s.pl+2*q.2.length⟩ else s
def inner(f:Cf)(qs:List (Int×List Int))(k:Nat)(s:Mc):Mc:=qs.foldl (inn f k) s
def GB(f:Cf)(k:Nat)(s:Mc):Mc:=⟨s.ps++[s.pl],s.bs,s.pl+sz f k⟩
def cF(f:Cf)(qs:List (Int×List Int)):Nat->Mc
 |0=>⟨[],[],0⟩
 |k+1=>GB f k (inner f qs k (cF f qs k))
theorem fB{k:Nat}:∀{qs:List (Int×List Int)}{s:Mc},(∀q∈qs,q.1≠(k:Int))->inner f qs k s=s
 |[],s,_=>rfl
 |q::qs,s,h=>by show inner f qs k (inn f k s q)=s;have e:inn f k s q=s:=if_neg (h q aaj);rw[e];exact fB λq a=>h q (aal _ a)
theorem rR:inner f (a++b) k s=inner f b k (inner f a k s):=List.foldl_append
theorem C3:(inn f k s q).ps=s.ps:=by unfold inn;split<;>rfl
theorem bX:∀{qs:List (Int×List Int)}{s:Mc},(inner f qs k s).ps=s.ps
 |[],s=>rfl
 |q::qs,s=>by show (inner f qs k (inn f k s q)).ps=_;rw[bX,C3]
theorem dW:∀{k:Nat},(cF f qs k).ps.length=k
 |0=>rfl
 |k+1=>by show ((inner f qs k (cF f qs k)).ps++[_]).length=_;rw[bX,aad,dW];rfl
theorem pK:∀{m i:Nat},i<k->(cF f qs (k+m)).ps[i]?=(cF f qs k).ps[i]?
 |0,i,_=>rfl
 |m+1,i,h=>by show ((inner f qs (k+m) (cF f qs (k+m))).ps++[_])[i]?=_;rw[bX,aaX (by rw[dW];omega)];exact pK h
theorem j9{k:Nat}(h:f.rows[k]?=some r):pl.pg.call (n+2) 22 [Rl f.rows,Lo f,It k]=some (It (sz f k),[Rl f.rows,Lo f,It k]):=by
 unfold sz;rw[h];have a:=ag (C:=KO (n+1)) (f:=21) (es:=.cons Jf .nil) (ρ:=[Go f.rows,IN f,Db k]) (aa (ax rfl rfl rfl (bw (cV h))) af) rfl (pF r) rfl;cases d:r.gr with
 |true=>rw[d]at a;rw[if_pos (.inl d)];exact ak rfl rfl (ar (ai (eA (je (bq a)) rfl) rfl)) rfl
 |false=>
  rw[d]at a;have c:aM (KO (n+1)) eem [Go f.rows,IN f,Db k]=some (decide ((k:Int)∈f.longs),[Go f.rows,IN f,Db k]):=aj (e_cmp rfl rfl rfl rfl GA);cases b:decide ((k:Int)∈f.longs) with
  |true=>rw[b]at c;rw[if_pos (.inr (Daa b))];exact ak rfl rfl (ar (ai (eA (dH (bq a) c) rfl) rfl)) rfl
  |false=>rw[b]at c;rw[if_neg λz=>z.elim (λz=>absurd (d.symm.trans z) aaf) λz=>Dad b z];exact ak rfl rfl (ar (ai (gg (dH (bq a) c) rfl) rfl)) rfl
theorem iE:∀{qs:Pz}{s:Mc},(inner f qs k s).bs.length=s.bs.length+qs.countP λq=>decide (q.1=(k:Int))
 |[],s=>rfl
 |q::qs,s=>by
  show (inner f qs k (inn f k s q)).bs.length=_;rw[iE,ab0];unfold inn;by_cases h:q.1=(k:Int)
  ·rw[if_pos h,Dac h,if_pos rfl];show (s.bs++[_]).length+_=_;rw[aad,aay];omega
  ·rw[if_neg h,Dab h,if_neg aaf];omega
theorem iF:∀{qs:Pz},(∀q∈qs,0<=q.1)->qs.countP (λq=>decide (q.1<((k+1:Nat):Int)))=qs.countP (λq=>decide (q.1<(k:Int)))+qs.countP λq=>decide (q.1=(k:Int))
 |[],_=>rfl
 |q::qs,h=>by rw[ab0,ab0,ab0,iF λq a=>h q (aal _ a)];simp only[decide_eq_true_eq];split<;>split<;>split<;>omega
theorem f7(h:∀q∈qs,0<=q.1):∀{k:Nat},(cF f qs k).bs.length=qs.countP λq=>decide (q.1<(k:Int))
 |0=>by show 0=_;rw[eq_comm,List.countP_eq_zero];intro q a z;have:=h q a;have:=Daa z;omega
 |k+1=>by show (inner f qs k (cF f qs k)).bs.length=_;rw[iE,f7 h,iF h]
abbrev Pq(qs:Pz):OD:=.fz (.list (qs.map Po))
abbrev KL(qs:Pz):Option OD:=some (Pq qs)
abbrev qE(f:Cf)(qs:Pz)(s:Mc)(k:Nat)(o7 o8:Option OD):DEnv:=[Go f.rows,IN f,KL qs,Ix s.ps,Ix s.bs,Db s.pl,Db k,o7,o8]
abbrev Jl:E:=.or eeq eax
theorem pL(r:R):g9 .nin (.str r.wd) (.tuple [.str ac,.str ci])=some r.r8:=by show some (!(decide (ac=r.wd)||(decide (ci=r.wd)||false)))=some (!decide (r.wd=ac)&&!decide (r.wd=ci));rw[aby,Bool.not_or,decide_eq_decide.mpr (eq_comm ),decide_eq_decide.mpr (eq_comm (a:=Str.ofString "stop"))]
theorem Jm(h:k<=f.rows.length):ev (KO n) Jl (qE f qs s k o7 o8)=some (.val (.fz (.bool (ovN f.rows k))),qE f qs s k o7 o8):=by
 cases k with
 |zero=>exact lK rfl
 |succ k=>
  have a:((k+1:Nat):Int)-1=(k:Int):=by omega
  have b:ovN f.rows (k+1)=(f.rows[k]).r8:=by show (f.rows[k]?).elim true R.r8=_;rw[aak h];rfl
  rw[b];exact lL (e_cmp rfl rfl rfl rfl (show some (decide (((k+1:Nat):Int)=0))=some false by rw[Dab (by omega)])) (e_cmp (ax (ax rfl rfl rfl (bw (by rw[a];exact cV (aak (by omega))))) rfl rfl (by rw[R.tr];exact aF atI_zero)) rfl rfl rfl (pL _))
abbrev Hk:Ss:=.cons (.iff eey (.cons (.set 5 (.bop .add (.nm 5) (.bop .mul (.int 2) (.blt .int (.cons Jl .nil))))) eab) .nil) .nil
abbrev Tn(q:Int×List Int):OD:=.fz (.tuple (q.2.map PyData.int))
abbrev qF(f:Cf)(qs:Pz)(s:Mc)(k:Nat)(q:Int×List Int):DEnv:=qE f qs s k (Db q.1) (some (Tn q))
theorem yY(h:k<=f.rows.length)(g:s.bs.length<1000):av (KO n) Hk (qF f qs s k q)=some (.nx,qF f qs (inn f k s q) k q):=by
 unfold inn;by_cases e:q.1=(k:Int)
 ·rw[if_pos e];have b:=Jm (n:=n) (qs:=qs) (s:=s) (o7:=Db q.1) (o8:=some (Tn q)) h;refine ab (au (aj (e_cmp rfl rfl rfl rfl (show some (decide (q.1=(k:Int)))=some true by rw[Dac e]))) ?_) rfl;have i:∀v,ovN f.rows k=v->bL (KO n) (.set 5 (.bop .add (.nm 5) (.bop .mul (.int 2) (.blt .int (.cons Jl .nil))))) (qF f qs s k q)=some (.nx,qF f qs ⟨s.ps,s.bs,if v=true then s.pl+2 else s.pl⟩ k q):=λv c=>by
   rw[c]at b;cases v with
   |true=>exact ah (ae rfl (ae rfl (aE (aa b af) rfl rfl) rfl rfl rfl) rfl rfl rfl) rfl rfl rfl
   |false=>exact ah (ae (d:=.int s.pl) rfl (ae rfl (aE (aa b af) rfl rfl) rfl rfl rfl) rfl rfl (by show some (PyData.int (s.pl+0))=_;rw[Int.add_zero])) rfl rfl rfl
  refine ab (i _ rfl) ?_;generalize hq:(if ovN f.rows k=true then s.pl+2 else s.pl)=p;have a:fw f.rows k s.pl=p+2-p%2:=by unfold fw;rw[hq]
  rw[a];refine ab (ah (ae rfl (ae rfl rfl rfl rfl (bf (by decide))) rfl rfl rfl) rfl rfl rfl) ?_;refine ab (br rfl rfl rfl rfl (by rw[aaa];exact abR g (by decide)) (by show _=[Go f.rows,IN f,KL qs,Ix s.ps,some (Il (s.bs++[p+2-p%2])),Db (p+2-p%2),Db k,Db q.1,some (Tn q)];rw[bU];rfl)) ?_;exact ab (ah (ae rfl (ae rfl (aE rfl rfl (by show some (PyData.int ((q.2.map PyData.int).length:Nat))=_;rw[aaa])) rfl rfl (cv (.inl (by decide)))) rfl rfl rfl) rfl rfl rfl) rfl
 ·rw[if_neg e];exact ab (s_ifF (aj (e_cmp rfl rfl rfl rfl (show some (decide (q.1=(k:Int)))=some false by rw[Dab e]))) rfl) rfl
abbrev Kb(n:Nat)(d:PyData)(ρ':DEnv):Option (Fl×DEnv):=(aW (.tp [7,8]) (.fz d) ρ').bind λρ1=>av (KO n) Hk ρ1
theorem pM(h:k<=f.rows.length):∀{rs:Pz}{s:Mc}{o7 o8:Option OD},s.bs.length+rs.length<1000->∃b a,bh (Kb n) (rs.map Po) (qE f qs s k o7 o8)=some (.nx,qE f qs (inner f rs k s) k b a)
 |[],s,o7,o8,_=>⟨o7,o8,rfl⟩
 |q::rs,s,o7,o8,hb=>by
  rw[aap]at hb;have e:Kb n (Po q) (qE f qs s k o7 o8)=some (.nx,qF f qs (inn f k s q) k q):=bs rfl (yY h (by omega));have c:(inn f k s q).bs.length+rs.length<1000:=by
   unfold inn;split
   ·show (s.bs++[_]).length+_<_;rw[aad,aay];omega
   ·omega
  obtain⟨b,a,d⟩:=pM h c;exact⟨b,a,bs e d⟩
abbrev qG(f:Cf)(qs:Pz)(s:Mc)(o6 o7 o8:Option OD):DEnv:=[Go f.rows,IN f,KL qs,Ix s.ps,Ix s.bs,Db s.pl,o6,o7,o8]
abbrev ouB:Ss:=.cons (.fr (.tp [7,8]) (.seq (.nm 2)) Hk) eac
abbrev Kc(n:Nat)(d:PyData)(ρ':DEnv):Option (Fl×DEnv):=(aW (.nm 6) (.fz d) ρ').bind λρ1=>av (KO n) ouB ρ1
theorem Ad:aM (KO n) eck (qE f qs s k o7 o8)=some (decide ((k:Int)<(f.rows.length:Int)),qE f qs s k o7 o8):=aj (e_cmp rfl (aE rfl rfl (by show some (PyData.int ((f.rows.map R.d).length:Nat))=_;rw[aaa])) rfl rfl rfl)
theorem Ae(h:k<=f.rows.length)(c:s.bs.length+qs.length<1000):∃b a,bL (KO n) (.fr (.tp [7,8]) (.seq (.nm 2)) Hk) (qE f qs s k o7 o8)=some (.nx,qE f qs (inner f qs k s) k b a):=by obtain⟨b,a,e⟩:=pM h c;exact⟨b,a,cp (bt rfl rfl rfl) e⟩
theorem yZ{k:Nat}(h:k<f.rows.length)(i:s.bs.length+qs.length<1000)(j:s.ps.length<1000):∃d a b,Kc (n+2) (.int k) (qG f qs s o6 o7 o8)=some (.nx,qG f qs (GB f k (inner f qs k s)) d a b):=by
 obtain⟨a,b,e⟩:=Ae (aaR h) i;have c:(inner f qs k s).ps.length<1000000:=by rw[bX];omega
 generalize inner f qs k s=t at e c;have g:=Ad (n:=n+2) (f:=f) (qs:=qs) (s:=t) (k:=k) (o7:=a) (o8:=b);rw[Dac (by omega)]at g;refine⟨Db k,a,b,bs rfl (ab e (ab (au g (ab (br (ρ3:=qE f qs ⟨t.ps++[t.pl],t.bs,t.pl⟩ k a b) rfl rfl rfl rfl (by rw[aaa];exact c) ?_) (ab (ah (ae rfl (ag rfl rfl (j9 (aak h)) rfl) rfl rfl rfl) rfl rfl rfl) rfl))) rfl))⟩;show _=[Go f.rows,IN f,KL qs,some (Il (t.ps++[t.pl])),Ix t.bs,Db t.pl,Db k,a,b];rw[bU];rfl
theorem pN{f:Cf}{qs:Pz}(j:∀q∈qs,0<=q.1)(u:qs.length<=300)(y:f.rows.length<=200):∀{m k:Nat}{o6 o7 o8:Option OD},k+m=f.rows.length->∃o g d,bh (Kc (n+2)) (bP k (m+1)) (qG f qs (cF f qs k) o6 o7 o8)=some (.nx,qG f qs (inner f qs f.rows.length (cF f qs f.rows.length)) o g d)
 |0,k,o6,o7,o8,h=>by
  obtain rfl:k=f.rows.length:=h;have i:(cF f qs f.rows.length).bs.length+qs.length<1000:=by rw[f7 j];have:=ab1 (p:=λq:Int×List Int=>decide (q.1<(f.rows.length:Int))) (l:=qs);omega
  obtain⟨g,d,e⟩:=Ae (aae _) i;have r:=Ad (n:=n+2) (f:=f) (qs:=qs) (s:=inner f qs f.rows.length (cF f qs f.rows.length)) (k:=f.rows.length) (o7:=g) (o8:=d);rw[Dab (by omega)]at r;refine⟨Db f.rows.length,g,d,?_⟩;rw[aT];exact bs (bs rfl (ab e (ab (s_ifF r rfl) rfl))) rfl
 |m+1,k,o6,o7,o8,h=>by
  have i:(cF f qs k).bs.length+qs.length<1000:=by rw[f7 j];have:=ab1 (p:=λq:Int×List Int=>decide (q.1<(k:Int))) (l:=qs);omega
  obtain⟨a,b,c,e⟩:=yZ (o7:=o7) (o8:=o8) (show k<f.rows.length by omega) i (by rw[dW];omega);obtain⟨w,x,v,t⟩:=pN (n:=n) j u y (m:=m) (k:=k+1) (o6:=a) (o7:=b) (o8:=c) (by omega);refine⟨w,x,v,?_⟩;rw[aT];exact bs e t
abbrev Hl(s:Mc):OD:=.fz (.tuple [.list (s.ps.map PyData.int),.list (s.bs.map PyData.int),.int s.pl])
abbrev Dl(gs:List Int):OD:=.fz (.list (gs.map PyData.int))
abbrev KM(gs:List Int):Option OD:=some (Dl gs)
theorem c_placed(h:∀q∈qs,0<=q.1)(i:qs.length<=300)(m:f.rows.length<=200):pl.pg.call (n+3) 23 [Rl f.rows,Lo f,Pq qs]=some (Hl (inner f qs f.rows.length (cF f qs f.rows.length)),[Rl f.rows,Lo f,Pq qs]):=by
 obtain⟨b,a,c,e⟩:=pN h i m (aaZ _);generalize inner f qs f.rows.length (cF f qs f.rows.length)=s at e;have j:(((f.rows.length:Nat):Int)+1).toNat=f.rows.length+1:=by omega
 refine ak rfl rfl (ab (dJ rfl rfl rfl rfl) (ab (cp (dM (ae (aE rfl rfl (by show some (PyData.int ((f.rows.map R.d).length:Nat))=_;rw[aaa])) rfl rfl rfl rfl) rfl (by omega)) (by rw[j];exact e)) (ar (ai (bc (zs:=[Dl s.ps,Dl s.bs,It s.pl]) (ρ2:=[Go f.rows,IN f,KL qs,KM s.ps,KM s.bs,Db s.pl,b,a,c]) rfl rfl ?_ rfl) rfl)))) rfl;have g:own1 (qG f qs s b a c) (.rf 3)=some (Dl s.ps,[Go f.rows,IN f,KL qs,KM s.ps,Ix s.bs,Db s.pl,b,a,c]):=by show (frz1 _ (.rf 3)).map _=_;rw[bD rfl (aK _) rfl];rfl
 have k:own1 [Go f.rows,IN f,KL qs,KM s.ps,Ix s.bs,Db s.pl,b,a,c] (.rf 4)=some (Dl s.bs,[Go f.rows,IN f,KL qs,KM s.ps,KM s.bs,Db s.pl,b,a,c]):=by show (frz1 _ (.rf 4)).map _=_;rw[bD rfl (aK _) rfl];rfl
 have l:mapR own1 [Go f.rows,IN f,KL qs,KM s.ps,Ix s.bs,Db s.pl,b,a,c] [.rf 4,.val (It s.pl)]=some ([Dl s.bs,It s.pl],[Go f.rows,IN f,KL qs,KM s.ps,KM s.bs,Db s.pl,b,a,c]):=bs k rfl;exact bs g (by show Option.map _ (mapR own1 _ _)=_;rw[l];rfl)
theorem Af{a:Type}{f:a->PyData}{l:List a}:jH (.list (l.map f))=some l.length:=by show some (l.map f).length=_;rw[aaa]
theorem blen{a:Type}{f:a->PyData}{l:List a}:zR .len [.list (l.map f)]=some (.int l.length):=by show (dX [PyData.list (l.map f)]).bind (λd=>(jH d).bind λn=>some (PyData.int n))=_;exact bs rfl (bs Af rfl)
theorem putK_new(h:a ∉ us.map (·.1)):ba (.inl a) (.int v) (us.map λu=>.inl u.1) (us.map λu=>It u.2)=((us++[(a,v)]).map λu=>.inl u.1,(us++[(a,v)]).map λu=>It u.2):=by
 have c:¬ ((us.map λu=>(Sum.inl u.1:Key)).any λq=>decide (q=.inl a))=true:=by intro b;obtain⟨q,f,e⟩:=abi.mp b;obtain⟨u,d,rfl⟩:=aav.mp f;have:=Daa e;cases this;exact h (aav.mpr ⟨u,d,rfl⟩)
 unfold ba;rw[if_neg c,aas,aas];rfl
theorem C4(b:ρ[i]?.join=Db a)(g:ev C e ρ=some (x,ρ1))(f:aq ρ1 x=some d)(h:x9 o a d=some r)(c:ρ1.set i (Db r)=ρ2):bL C (.aug i o e) ρ=some (.nx,ρ2):=bs b (bs rfl (bs rfl (bs g (bs f (bs h (by rw[<-c]))))))
theorem ka(h:ev C e ρ=some (x,ρ1))(b:own1 ρ1 x=some (z,ρ2))(a:aW t z ρ2=some ρ3):bL C (.asg t e) ρ=some (.nx,ρ3):=bs h (bs b (bs a rfl))
theorem nH(h:ow C it ρ=some (ds,ρ1))(b:ds.length<1000000)(a:cJ ρ1 fr=some zc)(d:eh (ia C tg ke ve) ds ([],[]) (List.replicate nt none++zc.1)=some ((ks,vs),ρ2))(e:i<(eR zc.2 fr (ρ2.drop nt)).length)(c:(eR zc.2 fr (ρ2.drop nt)).set i (some (.dic ks vs))=ρ3):bL C (.sdc i nt fr it tg ke ve) ρ=some (.nx,ρ3):=bs h (bg b (bs a (bs d (bg e (by rw[<-c])))))
abbrev Qk(qs:Pz):List Key:=(qs.map λq=>(q.1,(q.2.length:Int))).map λu=>.inl u.1
abbrev Qv(qs:Pz):List OD:=(qs.map λq=>(q.1,(q.2.length:Int))).map λu=>It u.2
abbrev Qd(qs:Pz):OD:=.dic (Qk qs) (Qv qs)
abbrev KN(qs:Pz):Option OD:=some (Qd qs)
theorem vA:∀{qs ps:Pz}{o0 o1:Option OD},(ps++qs).Pairwise (λx y=>x.1<y.1)->∃a b,eh (ia C (.tp [0,1]) (.nm 0) edx) (qs.map Po) (Qk ps,Qv ps) [o0,o1]=some ((Qk (ps++qs),Qv (ps++qs)),[a,b])
 |[],ps,o0,o1,_=>⟨o0,o1,by rw[aam];rfl⟩
 |q::qs,ps,o0,o1,h=>by
  have d:q.1 ∉ (ps.map λq=>(q.1,(q.2.length:Int))).map (·.1):=λz=>by obtain⟨u,g,e⟩:=aav.mp z;obtain⟨x,f,rfl⟩:=aav.mp g;have:=(abt.mp h).2.2 x f q aaj;have e:x.1=q.1:=e;omega
  have e:=putK_new (v:=(q.2.length:Int)) d;obtain⟨a,b,c⟩:=vA (ps:=ps++[q]) (by rw[aac];exact h);rw[aac]at c;refine⟨a,b,bs (x:=((Qk (ps++[q]),Qv (ps++[q])),[Db q.1,some (Tn q)])) ?_ c⟩;refine bs rfl (bs rfl (bs (aE rfl rfl (by show some (PyData.int ((q.2.map PyData.int).length:Nat))=_;rw[aaa])) (bs rfl (bs rfl (bs rfl ?_)))));have i:(ps++[q]).map (λq=>(q.1,(q.2.length:Int)))=ps.map (λq=>(q.1,(q.2.length:Int)))++[(q.1,(q.2.length:Int))]:=aas;show some (ba (.inl q.1) (.int (q.2.length:Int)) (Qk ps) (Qv ps),[Db q.1,some (Tn q)])=some ((List.map _ ((ps++[q]).map _),List.map _ ((ps++[q]).map _)),_);rw[i,e]
abbrev zP(f:Cf)(qs:Pz)(s:Mc)(o7:Option OD):DEnv:=[Go f.rows,IN f,KL qs,KN qs,Ix s.ps,Ix s.bs,Db s.pl,o7]
abbrev zS:Ss:=match F_placed.body with|.cons _ (.cons _ (.cons _ (.cons _ (.cons (.fr _ _ b) _))))=>b|_=>.nil
theorem Ag:aM (KO n) ecj (zP f qs s (Db k))=some (decide ((k:Int)<(f.rows.length:Int)),zP f qs s (Db k)):=aj (e_cmp rfl (aE rfl rfl blen) rfl rfl rfl)
theorem Ah(h:((Qk qs).any λq=>decide (q=.inl (k:Int)))=b):aM (KO n) JR (zP f qs s (Db k))=some (b,zP f qs s (Db k)):=by rw[<-h];rfl
theorem Qk_any:((Qk qs).any λq=>decide (q=.inl (k:Int)))=true ↔ ∃q∈qs,q.1=(k:Int):=by
 rw[abi];constructor
 ·rintro⟨x,b,e⟩;obtain⟨u,c,rfl⟩:=aav.mp b;obtain⟨q,a,rfl⟩:=aav.mp c;have:=Daa e;injection this with this;exact⟨q,a,this⟩
 ·rintro⟨q,a,e⟩;exact⟨.inl q.1,aav.mpr ⟨_,aav.mpr ⟨q,a,rfl⟩,rfl⟩,Dac (by rw[e])⟩
theorem y4(h:∀x∈a,x.1≠(k:Int))(e:q.1=(k:Int)):(Qk (a++q::b)).findIdx? (λq=>decide (q=.inl (k:Int)))=some a.length:=by
 induction a with
 |nil=>exact(aa1).trans (if_pos (Dac (show (Sum.inl q.1:Key)=.inl (k:Int) by rw[e])))
 |cons x a d=>have c:¬ (decide ((Sum.inl x.1:Key)=.inl (k:Int)))=true:=λz=>h x aaj (by have:=Daa z;injection this);refine(aa1).trans ((if_neg c).trans ?_);exact congrArg (Option.map λi=>i+1) (d λy f=>h y (aal _ f))
theorem GC(l:qs.Pairwise λx y=>x.1<y.1)(hk:k<=f.rows.length)(v:s.bs.length<1000)(K:av (KO (n+3)) sb (zP f qs (inner f qs k s) (Db k))=r):av (KO (n+3)) (.cons eaa sb) (zP f qs s (Db k))=r:=by
 by_cases h:∃q∈qs,q.1=(k:Int)
 ·have j:=Ah (n:=n+3) (f:=f) (s:=s) (Qk_any.mpr h);obtain⟨q,c,e⟩:=h;obtain⟨a,b,rfl⟩:=abT c;have m:∀x∈a,x.1≠(k:Int):=λx g=>by have:=(abt.mp l).2.2 x g q aaj;omega
  have d:∀x∈b,x.1≠(k:Int):=λx g=>by have:=(aa0.mp (abt.mp l).2.1).1 x g;omega
  have o:inner f (a++q::b) k s=⟨s.ps,s.bs++[fw f.rows k s.pl],fw f.rows k s.pl+2*q.2.length⟩:=by rw[rR,fB m];show inner f b k (inn f k s q)=_;rw[fB d];exact if_pos e
  have p:(Qv (a++q::b))[a.length]?=Db q.2.length:=by rw[aau,aau,aaO (aae _),aa2];rfl
  have i:∀t:Mc,aL (zP f (a++q::b) t (Db k)) 3 [.key 7]=some (Qd (a++q::b),[a.length],It q.2.length):=λt=>by refine bs rfl (bs ?_ (bs p rfl));exact bs rfl (bs rfl (bs rfl (bs rfl (y4 m e))))
  rw[o]at K;refine ab (au j (ab (br (ρ3:=zP f (a++q::b) ⟨s.ps,s.bs++[fw f.rows k s.pl],s.pl⟩ (Db k)) rfl (ag rfl rfl (pH hk) rfl) rfl rfl (by rw[aaa];omega) ?_) (ab (ah (ae (ax rfl rfl rfl (dO rfl ?_)) (ae rfl (CT (i _) rfl) rfl rfl (cv (.inl (by decide)))) rfl rfl rfl) rfl rfl rfl) rfl))) K
  ·show _=[Go f.rows,IN f,some (Pq (a++q::b)),some (Qd (a++q::b)),Ix s.ps,some (Il (s.bs++[fw f.rows k s.pl])),Db s.pl,Db k];rw[bU];rfl
  ·rw[aas];have u:ixN (s.bs.map It++[fw f.rows k s.pl].map It).length (-1)=some (s.bs.map It).length:=by unfold ixN;rw[if_neg (by decide),aad,aaa,if_pos (by simp;omega)];congr 1;simp;omega
   exact bs u abK
 ·have j:=Ah (n:=n+3) (f:=f) (s:=s) (by rw[Bool.eq_false_iff];exact λz=>h (Qk_any.mp z));rw[fB λq c e=>h ⟨q,c,e⟩]at K;exact ab (s_ifF j rfl) K
theorem vC(c:qs.Pairwise λx y=>x.1<y.1)(e:∀q∈qs,0<=q.1)(t:qs.length<=300)(z:f.rows.length<=200):∀{m k:Nat}{o7:Option OD},k+m=f.rows.length->∃i,bh (λd g=>(aW (.nm 7) (.fz d) g).bind λρ1=>av (KO (n+3)) zS ρ1) (bP k (m+1)) (zP f qs (cF f qs k) o7)=some (.nx,zP f qs (inner f qs f.rows.length (cF f qs f.rows.length)) i)
 |0,k,o7,h=>by
  obtain rfl:k=f.rows.length:=h;have b:(cF f qs f.rows.length).bs.length<1000:=by rw[f7 e];have:=ab1 (p:=λq:Int×List Int=>decide (q.1<(f.rows.length:Int))) (l:=qs);omega
  have a:=Ag (n:=n+3) (f:=f) (qs:=qs) (s:=inner f qs f.rows.length (cF f qs f.rows.length)) (k:=f.rows.length);rw[Dab (by omega)]at a;refine⟨Db f.rows.length,?_⟩;rw[aT];exact bs (bs rfl (GC c (aae _) b (ab (s_ifF a rfl) rfl))) rfl
 |m+1,k,o7,h=>by
  have o:k<f.rows.length:=by omega
  have b:(cF f qs k).bs.length<1000:=by rw[f7 e];have:=ab1 (p:=λq:Int×List Int=>decide (q.1<(k:Int))) (l:=qs);omega
  have a:=Ag (n:=n+3) (f:=f) (qs:=qs) (s:=inner f qs k (cF f qs k)) (k:=k);rw[Dac (by omega)]at a;have u:cF f qs (k+1)=GB f k (inner f qs k (cF f qs k)):=rfl;have w:(inner f qs k (cF f qs k)).ps.length<1000000:=by rw[bX,dW];omega
  obtain⟨v,j⟩:=vC c e t z (m:=m) (k:=k+1) (o7:=Db k) (by omega);rw[u]at j;refine⟨v,?_⟩;rw[aT];refine bs (x:=(Fl.nx,zP f qs (GB f k (inner f qs k (cF f qs k))) (Db k))) (bs (x:=zP f qs (cF f qs k) (Db k)) rfl (GC c (aaR o) b ?_)) j;generalize inner f qs k (cF f qs k)=s at *;refine ab (au a (ab (br (ρ3:=zP f qs ⟨s.ps++[s.pl],s.bs,s.pl⟩ (Db k)) rfl rfl rfl rfl (by rw[aaa];exact w) ?_) (ab (C4 (r:=s.pl+sz f k) (ρ2:=zP f qs (GB f k s) (Db k)) rfl (ag (ρ3:=zP f qs ⟨s.ps++[s.pl],s.bs,s.pl⟩ (Db k)) rfl rfl (C2 (n:=n+1) (aak o)) rfl) rfl rfl rfl) rfl))) rfl;show _=[Go f.rows,IN f,KL qs,KN qs,some (Il (s.ps++[s.pl])),Ix s.bs,Db s.pl,Db k];rw[bU];rfl
theorem y6(b:qs.Pairwise λx y=>x.1<y.1)(d:∀q∈qs,0<=q.1)(h:qs.length<=300)(l:f.rows.length<=200):pl.pg.call (n+4) 10 [Rl f.rows,Lo f,Pq qs]=some (Hl (inner f qs f.rows.length (cF f qs f.rows.length)),[Rl f.rows,Lo f,Pq qs]):=by
 obtain⟨a,e⟩:=vC b d h l (aaZ _);generalize inner f qs f.rows.length (cF f qs f.rows.length)=s at e;have j:(((f.rows.length:Nat):Int)+1).toNat=f.rows.length+1:=by omega
 obtain⟨o,p,g⟩:=vA (ps:=[]) b;have m:bL (KO (n+3)) ebm [Go f.rows,IN f,KL qs,none,none,none,none,none]=some (.nx,[Go f.rows,IN f,KL qs,KN qs,none,none,none,none]):=nH (bt rfl rfl rfl) (by rw[aaa];omega) rfl g (by show 3<8;decide) rfl;refine ak rfl rfl (ab m (ab rfl (ab rfl (ab rfl (ab (cp (dM (ae (aE rfl rfl blen) rfl rfl rfl rfl) rfl (by omega)) (by rw[j];exact e)) (ar (ai (bc (zs:=[Dl s.ps,Dl s.bs,It s.pl]) (ρ2:=[Go f.rows,IN f,KL qs,KN qs,KM s.ps,KM s.bs,Db s.pl,a]) rfl rfl ?_ rfl) rfl))))))) rfl;have c:own1 (zP f qs s a) (.rf 4)=some (Dl s.ps,[Go f.rows,IN f,KL qs,KN qs,KM s.ps,Ix s.bs,Db s.pl,a]):=by show (frz1 _ (.rf 4)).map _=_;rw[bD rfl (aK _) rfl];rfl
 have i:own1 [Go f.rows,IN f,KL qs,KN qs,KM s.ps,Ix s.bs,Db s.pl,a] (.rf 5)=some (Dl s.bs,[Go f.rows,IN f,KL qs,KN qs,KM s.ps,KM s.bs,Db s.pl,a]):=by show (frz1 _ (.rf 5)).map _=_;rw[bD rfl (aK _) rfl];rfl
 have k:mapR own1 [Go f.rows,IN f,KL qs,KN qs,KM s.ps,Ix s.bs,Db s.pl,a] [.rf 5,.val (It s.pl)]=some ([Dl s.bs,It s.pl],[Go f.rows,IN f,KL qs,KN qs,KM s.ps,KM s.bs,Db s.pl,a]):=bs i rfl;exact bs c (by show Option.map _ (mapR own1 _ _)=_;rw[k];rfl)
theorem vD{i j:Int}:g9 .eq (.int i) (.int j)=some (decide (i=j)):=rfl
structure Pool (N:Nat)(q:Int×List Int):Prop where
 g0:0<=q.1
 g1:q.1<=N
 l0:1<=q.2.length
 l1:q.2.length<=100
theorem vF{C:Ct}{a:E}{lo b:Eo}{ρ ρ1 ρ2 ρ3:DEnv}{x:OR}{l u:Option Int}{ds:List PyData}(e:ev C a ρ=some (x,ρ1))(d:Ca C lo ρ1=some (l,ρ2))(f:Ca C b ρ2=some (u,ρ3))(c:mS ρ3 x=some ds):ev C (.sll a lo b) ρ=some (.val (.lst ((cutD ds l u).map OD.fz)),ρ3):=bs e (bs d (bs f (bs c rfl)))
def vG(f:Cf)(a:Int):Int:=((f.rows[a.toNat]?).map R.num).getD 0
def lW(f:Cf)(qs:Pz)(z:Int×Int):Bool:=decide (vG f z.1∈((qs[z.2.toNat]?).map (·.2)).getD [])
structure Qok (f:Cf)(qs:Pz):Prop where
 ok:∀q∈qs,Pool f.rows.length q
 inc:qs.Pairwise λx y=>x.1<y.1
abbrev Zp(z:Int×Int):PyData:=.tuple [.int z.1,.int z.2]
theorem iG:∀{gs us:List Int},iP (gs.map PyData.int) (us.map PyData.int)=(gs.zip us).map Zp
 |[],_=>rfl
 |_::_,[]=>rfl
 |a::as,b::bs=>by have:=iG (gs:=as) (us:=bs);unfold iP at this ⊢;rw[aao,aao,acG,abp,aao,this]
def Zok(f:Cf)(qs:Pz)(z:Int×Int):Prop:=z.1∈gIx 0 f.rows/\0<=z.2/\z.2<qs.length
theorem Zok.row{f:Cf}{qs:Pz}{z:Int×Int}(h:Zok f qs z):∃(i:Nat) (x y:Int),z.1=i/\i<f.rows.length/\f.rows[i]?=some (.st x y)/\vG f z.1=y:=by
 obtain⟨j,r,e,a,c⟩:=gIx_mem h.1;obtain⟨x,y,rfl⟩:=gr_st c;have b:z.1=(j:Int):=by omega
 refine⟨j,x,y,b,(aan.mp a).1,a,?_⟩;unfold vG;rw[b,aaJ,a];rfl
abbrev Fp(qs:Pz)(us:List Int):OD:=.fz (.tuple [.list (qs.map Po),.list (us.map PyData.int)])
theorem fE:∀ns:List Int,hU (ns.map PyData.int)=some ns
 |[]=>rfl
 |n::ns=>bs rfl (bs (fE ns) rfl)
theorem iH{n:Nat}:∀{rs:List R}{i:Int}{out:List PyData}{o0 o1:Option OD},∃a,bH (bK (KO (n+1)) (.tp [0,1]) (.some Jh) (.nm 0)) (enF i rs) out [o0,o1]=some (out++(gIx i rs).map PyData.int,a)
 |[],i,out,o0,o1=>⟨[o0,o1],by rw[gIx,aaA,aam];rfl⟩
 |r::rs,i,out,o0,o1=>by
  have b:aM (KO (n+1)) Jh [Db i,Fa r]=some (r.gr,[Db i,Fa r]):=bq (ag (ρ3:=[Db i,Fa r]) rfl rfl (pF r) rfl);rw[gIx];cases c:r.gr with
  |false=>rw[c]at b;obtain⟨a,e⟩:=iH (n:=n) (rs:=rs) (i:=i+1) (out:=out++[]) (o0:=Db i) (o1:=Fa r);refine⟨a,bs (x:=([],[Db i,Fa r])) (lN rfl b) ?_⟩;rw[if_neg aaf,e,aam]
  |true=>rw[c]at b;obtain⟨a,e⟩:=iH (n:=n) (rs:=rs) (i:=i+1) (out:=out++[.int i]) (o0:=Db i) (o1:=Fa r);refine⟨a,bs (x:=([.int i],[Db i,Fa r])) (lM rfl b rfl rfl) ?_⟩;rw[if_pos rfl,e,aac];rfl
theorem lay_ints:∀ns:List Int,PyData.canLayAll0 (ns.map PyData.int)=true
 |[]=>rfl
 |_::r=>by simp[PyData.canLayAll0,PyData.canLay0,lay_ints r]
theorem lX:∀ns:List Int,PyData.depthAll (ns.map PyData.int)=0
 |[]=>rfl
 |_::r=>by simp[PyData.depthAll,PyData.depth,lX r]
theorem y8(ns:List Int):g9 .eq (.list (ns.map PyData.int)) (.list [])=some ns.isEmpty:=by
 have h:SeqAt.shaped (.list (ns.map PyData.int))=true:=by simp[SeqAt.shaped,PyData.canLay0,PyData.depth,lay_ints,lX]
 have a:SeqAt.shaped (.list [])=true:=by decide +kernel
 have:PyData.eqv (.list (ns.map PyData.int)) (.list [])=ns.isEmpty:=by cases ns<;>simp[PyData.eqv,PyData.eqvAll]
 show (if (SeqAt.shaped (.list (ns.map PyData.int))&&SeqAt.shaped (.list []))=true then some (PyData.eqv (.list (ns.map PyData.int)) (.list [])) else none)=_;rw[h,a,aco,if_pos rfl,this]
theorem kb{ρ:DEnv}{j:Nat}{ds:List PyData}(h:ρ[j]?.join=some (.lst (ds.map OD.fz))):mS ρ (.rf j)=some ds:=by show (ρ[j]?.join).bind listOf=_;rw[h];exact fP ds
theorem C5{ρ:DEnv}{ds:List PyData}:mS ρ (.val (.lst (ds.map OD.fz)))=some ds:=by show qY (ds.map OD.fz)=_;exact fP ds
theorem vH{C:Ct}{a:E}{ρ ρ1 ρ2:DEnv}{x:OR}{d:PyData}(c:ev C a ρ=some (x,ρ1))(b:frz1 ρ1 x=some (d,ρ2)):ev C (.frz a) ρ=some (.val (.fz d),ρ2):=bs c (bs b rfl)
theorem C6{C:Ct}{i:Nat}{a e:E}{ρ ρ1 ρ2 ρ3:DEnv}{y x:OR}{k:Int}{d:PyData}{xs ys:List OD}(h:ρ[i]?.join=some (.lst ys))(hk:ev C a ρ=some (y,ρ1))(g:ev C e ρ1=some (x,ρ2))(m:aq ρ2 y=some (.int k))(j:aq ρ2 x=some d)(b:JH d=true)(l:ρ2[i]?.join=some (.lst xs))(c:0<=k/\k<=xs.length/\xs.length<100000)(f:ρ2.set i (some (.lst (xs.take k.toNat++.fz d::xs.drop k.toNat)))=ρ3):bL C (.ins i a e) ρ=some (.nx,ρ3):=bs h (bs rfl (bs hk (bs g (bs m (bs rfl (bs j (bg b (bs l (bs rfl (bg c (by rw[<-f])))))))))))
theorem C7{C:Ct}{a b:E}{ρ ρ1 ρ2:DEnv}{x y:OR}{i j:Int}(e:ev C a ρ=some (x,ρ1))(c:ev C b ρ1=some (y,ρ2))(d:aq ρ2 x=some (.int i))(f:aq ρ2 y=some (.int j))(h:-(2^62)<=i/\i<2^62/\-(2^62)<=j/\j<2^62):ow C (.rg2 a b) ρ=some (bP i (j-i).toNat,ρ2):=bs e (bs c (bs d (bs rfl (bs f (bs rfl (bg h rfl))))))
def vI(lo:Int)(n:Nat):List Int:=(List.range n).map λ(i:Nat)=>lo+(i:Int)
theorem C8{lo:Int}{n:Nat}:bP lo n=(vI lo n).map PyData.int:=by unfold bP vI;rw[aaL];rfl
theorem iI{C:Ct}{w:OD}{ns:List Int}(c:∀y:Int,aM C Jg [Db y,some w]=some (!decide (y∈ns),[Db y,some w])):∀{xs:List Int}{out:List PyData}{o:Option OD},∃a,bH (bK C (.nm 0) (.some Jg) (.nm 0)) (xs.map PyData.int) out [o,some w]=some (out++(xs.filter λy=>!decide (y∈ns)).map PyData.int,[a,some w])
 |[],out,o=>⟨o,by show some (out,_)=some (out++[],_);rw[aam]⟩
 |x::xs,out,o=>by
  have t:=c x;cases b:!decide (x∈ns) with
  |true=>rw[b]at t;obtain⟨a,e⟩:=iI c (xs:=xs) (out:=out++[.int x]) (o:=Db x);refine⟨a,bs (x:=([.int x],[Db x,some w])) (lM rfl t rfl rfl) ?_⟩;rw[abH (p:=λy=>!decide (y∈ns)) b,aao];rw[aac]at e;exact e
  |false=>rw[b]at t;obtain⟨a,e⟩:=iI c (xs:=xs) (out:=out++[]) (o:=Db x);refine⟨a,bs (x:=([],[Db x,some w])) (lN rfl t) ?_⟩;rw[abI (p:=λy=>!decide (y∈ns)) (by rw[b];exact aaf)];rw[aam]at e ⊢;exact e
theorem vJ{ds:List PyData}{k:Nat}:cutD ds none (some (k:Int))=ds.take k:=by
 have a:HT.sIx ds.length 0 none=0:=rfl;have b:HT.sIx ds.length ds.length (some (k:Int))=min k ds.length:=by unfold HT.sIx;simp only;rw[if_neg (by omega)];rfl
 unfold cutD;rw[b,a,List.drop_zero,Nat.sub_zero];by_cases h:k<=ds.length
 ·rw[abo h]
 ·rw[Nat.min_eq_right (by omega),acd (aae _),acd (by omega)]
abbrev gE(t:OD)(rs:List R)(g gs:List Int)(o4 o5:Option OD):DEnv:=[some t,Go rs,KM g,Ix gs,o4,o5,none,none,none,none,none,none]
abbrev gB:Ss:=match F_any_plan.body with|.cons _ (.cons _ (.cons (.fr _ _ b) _))=>b|_=>.nil
theorem iJ{n:Nat}{rs:List R}{g:List Int}(N:rs.length<=200):∀{j i m:Nat}{a b c:Int}{gs:List Int}{o4 o5:Option OD},TpOk b c m->m+j<=100000->gs.length+j<=50->gs.Nodup->(∀x∈gs,0<=x/\x<=rs.length) ->
  ∃X T Q f D I,bh (λd B=>(aW (.nm 4) (.fz d) B).bind λρ1=>av (KO (n+1)) gB ρ1) (bP i j) (gE (Tp a b c) rs g gs o4 o5)=some (.nx,gE (Tp X T Q) rs g f D I)/\TpOk T Q (m+j)/\f.length<=gs.length+j/\f.Nodup/\(∀x∈f,0<=x/\x<=rs.length)/\(0<gs.length+j->0<f.length)
 |0,i,m,a,b,c,gs,o4,o5,h,_,_,nd,hb=>⟨a,b,c,gs,o4,o5,rfl,h,by omega,nd,hb,λz=>by omega⟩
 |j+1,i,m,a,b,c,gs,o4,o5,h,hm,hl,nd,hb=>by
  obtain⟨x,k,o,l,O,x0,x1,M⟩:=aw (n:=n) (a:=a) (many:=(rs.length:Int)+1) h (by omega) (by omega) (by omega);have Y:(KO (n+1)).call=pl.pg.call (n+1):=rfl;rw[<-Y]at O;have L:bL (KO (n+1)) ea8 (gE (Tp a b c) rs g gs (Db i) o5)=some (.nx,gE (Tp k o l) rs g gs (Db i) (Db x)):=ah (ρ2:=gE (Tp k o l) rs g gs (Db i) o5) (ag (rs:=[.rf 0,.val (It ((rs.length:Int)+1))]) (ρ1:=gE (Tp a b c) rs g gs (Db i) o5) (ρ3:=gE (Tp k o l) rs g gs (Db i) o5) (aa rfl (aa (ae (dx:=.int rs.length) (aE (rs:=[.val (Rl rs)]) rfl rfl blen) rfl rfl rfl rfl) af)) rfl O rfl) rfl rfl rfl;have t:aM (KO (n+1)) eer (gE (Tp k o l) rs g gs (Db i) (Db x))=some (!decide (x∈gs),gE (Tp k o l) rs g gs (Db i) (Db x)):=aj (e_cmp (dx:=.int x) (dy:=.list (gs.map PyData.int)) rfl rfl rfl (aK _) ninL);by_cases u:x∈gs
  ·rw[Dac u]at t;obtain⟨w,G,v,f,C,A,J,H,S,r,q,p⟩:=iJ (n:=n) N (g:=g) (j:=j) (i:=i+1) (a:=k) (gs:=gs) (o4:=Db i) (o5:=Db x) M (by omega) (by omega) nd hb;refine⟨w,G,v,f,C,A,?_,H.up (by omega),by omega,r,q,λ_=>p (by have:=acp u;omega)⟩;rw[aT];exact bs (x:=(Fl.nx,gE (Tp k o l) rs g gs (Db i) (Db x))) (bs (x:=gE (Tp a b c) rs g gs (Db i) o5) rfl (ab L (ab (s_ifF t rfl) rfl))) J
  ·rw[Dab u]at t;have Z:bL (KO (n+1)) (.app 3 (.nm 5)) (gE (Tp k o l) rs g gs (Db i) (Db x))=some (.nx,gE (Tp k o l) rs g (gs++[x]) (Db i) (Db x)):=br (xs:=gs.map It) (ρ2:=gE (Tp k o l) rs g gs (Db i) (Db x)) rfl rfl rfl rfl (by rw[aaa];omega) (by show _=[_,_,_,some (Il (gs++[x])),_,_,none,none,none,none,none,none];rw[bU];rfl);obtain⟨w,G,v,f,C,A,J,H,S,r,q,p⟩:=iJ (n:=n) N (g:=g) (j:=j) (i:=i+1) (a:=k) (gs:=gs++[x]) (o4:=Db i) (o5:=Db x) M (by omega) (by rw[aad,aay];omega) (aaD.mpr ⟨nd,aaE.mpr ⟨aaq,aa7⟩,λy s z U e=>u (by rw[aaw.mp U]at e;rw[<-e];exact s)⟩) (λy s=>by
    rcases aai.mp s with s|s
    ·exact hb y s
    ·rw[aaw.mp s];omega)
   rw[aad,aay]at S p;refine⟨w,G,v,f,C,A,?_,H.up (by omega),by omega,r,q,λ_=>p (by omega)⟩;rw[aT];exact bs (x:=(Fl.nx,gE (Tp k o l) rs g (gs++[x]) (Db i) (Db x))) (bs (x:=gE (Tp a b c) rs g gs (Db i) o5) rfl (ab L (ab (au t (ab Z rfl)) rfl))) J
abbrev se(qs:Pz):OD:=.lst ((qs.map Po).map OD.fz)
abbrev yE(t:OD)(f:Cf)(g gaps us:List Int)(qs:Pz)(at' gap:Int)(o9:Option OD)(o4 o10 o11:Option OD):DEnv:=[some t,Go f.rows,KM g,KM gaps,o4,Db gap,KM us,some (se qs),Db at',o9,o10,o11]
abbrev yB:Ss:=match F_any_plan.body with|.cons _ (.cons _ (.cons _ (.cons _ (.cons _ (.cons _ (.cons (.fr _ _ b) _))))))=>b|_=>.nil
abbrev nB:Ss:=match yB with|.cons _ (.cons (.fr _ _ b) _)=>b|_=>.nil
abbrev Ai(_:List Int):Prop:=True
theorem vK{ns:List Int}{x:Int}{k:Nat}:(ns.take k++x::ns.drop k).Perm (x::ns):=by
 have:=aaz (a:=x) (l₁:=ns.take k) (l₂:=ns.drop k)
 rwa [acN]at this
theorem iK{n:Nat}{f:Cf}{g gaps us:List Int}{qs:Pz}{at' gap:Int}{o11:Option OD}(hf:Nb f.rows):∀{zs:List (Int×Int)}{m:Nat}{a b c:Int}{ns:List Int}{o4 o10:Option OD},(∀z∈zs,z.1∈gIx 0 f.rows)->TpOk b c m->m+zs.length<=200000->ns.length+zs.length<=1000->Ai ns ->
  ∃Y T O l C u,bh (λd D=>(aW (.tp [4,10]) (.fz d) D).bind λρ1=>av (KO (n+1)) nB ρ1) (zs.map Zp) (yE (Tp a b c) f g gaps us qs at' gap (Ix ns) o4 o10 o11)=some (.nx,yE (Tp Y T O) f g gaps us qs at' gap (Ix l) C u o11)/\TpOk T O (m+zs.length)/\l.length<=ns.length+zs.length/\Ai l/\(∀x∈ns,x∈l)/\∀z∈zs,z.2=at'->vG f z.1∈l
 |[],m,a,b,c,ns,o4,o10,_,h,_,_,hn=>⟨a,b,c,ns,o4,o10,rfl,h,by omega,hn,λx hx=>hx,λz G=>absurd G aaq⟩
 |z::zs,m,a,b,c,ns,o4,o10,G,h,hm,hl,hn=>by
  rw[aap]at hm hl;obtain⟨i,x,y,ei,hi,hr,v⟩:=Zok.row (f:=f) (qs:=[(0,[])]) (z:=(z.1,0)) ⟨G z aaj,by show (0:Int)<=0;omega,by show (0:Int)<((1:Nat):Int);omega⟩;have ei:z.1=(i:Int):=ei;have v:vG f z.1=y:=v;have a4:100<=y/\y<100000000:=by
   have M:=hf _ (aaI hr);have U:R.gr (.st x y)=true:=by
    obtain⟨j,r,e,M,U⟩:=gIx_mem (G z aaj);have:j=i:=by omega
    subst this;rw[hr]at M;cases M;exact U
   have U:=Daa U;have M:(0<=x/\x<=4)/\0<=y/\y<=99999999:=M;omega
  have A:∀{t Z o10},ev (KO (n+1)) edu (yE t f g gaps us qs at' gap Z (Db z.1) o10 o11)=some (.val (It y),yE t f g gaps us qs at' gap Z (Db z.1) o10 o11):=λ{t Z o10}=>ax (ax rfl rfl rfl (bw (by rw[ei];exact cV hr))) rfl rfl (aF (cU (k:=2) rfl));have st:(aW (.tp [4,10]) (.fz (Zp z)) (yE (Tp a b c) f g gaps us qs at' gap (Ix ns) o4 o10 o11))=some (yE (Tp a b c) f g gaps us qs at' gap (Ix ns) (Db z.1) (Db z.2) o11):=rfl;have J:aM (KO (n+1)) eet (yE (Tp a b c) f g gaps us qs at' gap (Ix ns) (Db z.1) (Db z.2) o11)=some (decide (z.2=at'),yE (Tp a b c) f g gaps us qs at' gap (Ix ns) (Db z.1) (Db z.2) o11):=aj (e_cmp rfl rfl rfl rfl vD);have H:aM (KO (n+1)) eb8 (yE (Tp a b c) f g gaps us qs at' gap (Ix ns) (Db z.1) (Db z.2) o11)=some (!decide (y∈ns),yE (Tp a b c) f g gaps us qs at' gap (Ix ns) (Db z.1) (Db z.2) o11):=aj (e_cmp (dx:=.int y) (dy:=.list (ns.map PyData.int)) A rfl rfl (aK _) ninL);have s:aM (KO (n+1)) ebe (yE (Tp a b c) f g gaps us qs at' gap (Ix ns) (Db z.1) (Db z.2) o11)=some (false,yE (Tp a b c) f g gaps us qs at' gap (Ix ns) (Db z.1) (Db z.2) o11)->(z.2=at'->y∈ns)->∃Y T O l C u,bh (λd D=>(aW (.tp [4,10]) (.fz d) D).bind λρ1=>av (KO (n+1)) nB ρ1) ((z::zs).map Zp) (yE (Tp a b c) f g gaps us qs at' gap (Ix ns) o4 o10 o11)=some (.nx,yE (Tp Y T O) f g gaps us qs at' gap (Ix l) C u o11)/\TpOk T O (m+(zs.length+1))/\l.length<=ns.length+(zs.length+1)/\Ai l/\(∀x∈ns,x∈l)/\∀w∈z::zs,w.2=at'->vG f w.1∈l:=λt q=>by
   obtain⟨a2,b2,c2,l,p4,B,e2,H,l2,n2,Q,z2⟩:=iK (n:=n) hf (g:=g) (gaps:=gaps) (us:=us) (qs:=qs) (at':=at') (gap:=gap) (o11:=o11) (zs:=zs) (a:=a) (ns:=ns) (o4:=Db z.1) (o10:=Db z.2) (λw p=>G w (aal _ p)) h (by omega) (by omega) hn;refine⟨a2,b2,c2,l,p4,B,bs (x:=(Fl.nx,yE (Tp a b c) f g gaps us qs at' gap (Ix ns) (Db z.1) (Db z.2) o11)) (bs st (ab (s_ifF t rfl) rfl)) e2,H.up (by omega),by omega,n2,Q,λw p X=>?_⟩;rcases aab.mp p with rfl|p
   ·rw[v];exact Q y (q X)
   ·exact z2 w p X
  by_cases ha:z.2=at'
  ·rw[Dac ha]at J;by_cases q:y∈ns
   ·rw[Dac q]at H;exact s (t_andT J H) λ_=>q
   ·rw[Dab q]at H;clear s;obtain⟨k,I,S,N,e1,k0,k1,tk⟩:=aw (n:=n) (a:=a) (many:=(ns.length:Int)+1) h (by omega) (by omega) (by omega);have ec:(KO (n+1)).call=pl.pg.call (n+1):=rfl;rw[<-ec]at e1;obtain⟨o,rfl⟩:∃o:Nat,k=o:=⟨k.toNat,by omega⟩
    have L:ev (KO (n+1)) J1 (yE (Tp a b c) f g gaps us qs at' gap (Ix ns) (Db z.1) (Db z.2) o11)=some (.val (It ((ns.length:Int)+1)),yE (Tp a b c) f g gaps us qs at' gap (Ix ns) (Db z.1) (Db z.2) o11):=ae (dx:=.int ns.length) (aE (rs:=[.rf 9]) (ds:=[.list (ns.map PyData.int)]) rfl (by show (aq _ (.rf 9)).bind _=_;rw[show aq (yE (Tp a b c) f g gaps us qs at' gap (Ix ns) (Db z.1) (Db z.2) o11) (.rf 9)=some (.list (ns.map PyData.int)) from aK ns];rfl) blen) rfl rfl rfl rfl;have s1:bL (KO (n+1)) eap (yE (Tp a b c) f g gaps us qs at' gap (Ix ns) (Db z.1) (Db z.2) o11)=some (.nx,yE (Tp I S N) f g gaps us qs at' gap (some (Il (ns.take o++y::ns.drop o))) (Db z.1) (Db z.2) o11):=C6 (k:=(o:Int)) (d:=.int y) (ys:=ns.map It) (xs:=ns.map It) (ρ1:=yE (Tp I S N) f g gaps us qs at' gap (Ix ns) (Db z.1) (Db z.2) o11) (ρ2:=yE (Tp I S N) f g gaps us qs at' gap (Ix ns) (Db z.1) (Db z.2) o11) rfl (ag (rs:=[.rf 0,.val (It ((ns.length:Int)+1))]) (ρ1:=yE (Tp a b c) f g gaps us qs at' gap (Ix ns) (Db z.1) (Db z.2) o11) (ρ3:=yE (Tp I S N) f g gaps us qs at' gap (Ix ns) (Db z.1) (Db z.2) o11) (aa rfl (aa L af)) rfl e1 rfl) A rfl rfl rfl rfl (by rw[aaa];omega) (by
     have:(ns.map It).take (o:Int).toNat++It y::(ns.map It).drop (o:Int).toNat=(ns.take o++y::ns.drop o).map It:=by rw[aaJ,aas,aao,acf,List.map_drop]
     rw[this];rfl)
    have pm:=vK (ns:=ns) (x:=y) (k:=o);have a3:Ai (ns.take o++y::ns.drop o):=trivial;have a5:(ns.take o++y::ns.drop o).length=ns.length+1:=by rw[pm.length_eq,aap]
    obtain⟨a2,b2,c2,l,p4,B,e2,a0,l2,n2,Q,z2⟩:=iK (n:=n) hf (g:=g) (gaps:=gaps) (us:=us) (qs:=qs) (at':=at') (gap:=gap) (o11:=o11) (zs:=zs) (a:=I) (ns:=ns.take o++y::ns.drop o) (o4:=Db z.1) (o10:=Db z.2) (λw p=>G w (aal _ p)) tk (by omega) (by omega) a3;refine⟨a2,b2,c2,l,p4,B,bs (x:=(Fl.nx,yE (Tp I S N) f g gaps us qs at' gap (some (Il (ns.take o++y::ns.drop o))) (Db z.1) (Db z.2) o11)) (bs st (ab (au (t_andT J H) (ab s1 rfl)) rfl)) e2,a0.up (by rw[aap];omega),by rw[aap];omega,n2,λw p=>Q w (pm.mem_iff.mpr (aal _ p)),λw p X=>?_⟩;rcases aab.mp p with rfl|p
    ·rw[v];exact Q y (pm.mem_iff.mpr aaj)
    ·exact z2 w p X
  ·rw[Dab ha]at J;exact s (bC J) λe=>absurd e ha
theorem fill{n m:Nat}{f:Cf}{g gaps us:List Int}{qs:Pz}{at' gap:Int}{a b c:Int}{ns:List Int}{o4 o10 o11:Option OD}(h:TpOk b c m)(hm:m<=300000)(hn:Ai ns)(h0:0<ns.length)(hl:ns.length<=100):
  ∃a' b' c' v N,bL (KO (n+1)) (match yB with|.cons _ (.cons _ (.cons s _))=>s|_=>.cont) (yE (Tp a b c) f g gaps us qs at' gap (Ix ns) o4 o10 o11)=some (.nx,yE (Tp a' b' c') f g gaps us qs at' gap (Ix v) o4 o10 N)/\TpOk b' c' (m+2)/\Ai v/\(∀x∈ns,x∈v)/\0<v.length/\v.length<=100:=by
 obtain⟨x,p,r,q,e1,x0,x1,t1⟩:=aw (n:=n) (a:=a) (many:=24) h (by omega) (by decide) (by decide);obtain⟨y,G,M,B,e2,y0,y1,t2⟩:=aw (n:=n) (a:=p) (many:=2) t1 (by omega) (by decide) (by decide);have ec:(KO (n+1)).call=pl.pg.call (n+1):=rfl;rw[<-ec]at e1 e2;have t:aM (KO (n+1)) ebu (yE (Tp a b c) f g gaps us qs at' gap (Ix ns) o4 o10 o11)=some (decide (x=0),yE (Tp p r q) f g gaps us qs at' gap (Ix ns) o4 o10 o11):=aj (e_cmp (ag (ρ3:=yE (Tp p r q) f g gaps us qs at' gap (Ix ns) o4 o10 o11) rfl rfl e1 rfl) rfl rfl rfl vD);by_cases hx:x=0
 ·rw[Dac hx]at t;obtain⟨d,H⟩:∃d,d=((vI 50000000 100).filter λy=>!decide (y∈ns)).take (100-ns.length):=⟨_,rfl⟩
  have a4:d.length<=100-ns.length:=by rw[H,aaW];omega
  obtain⟨o',D⟩:=iI (C:=KO (n+1)) (w:=Il ns) (ns:=ns) (λy=>aj (e_cmp (dx:=.int y) (dy:=.list (ns.map PyData.int)) rfl rfl rfl (aK _) ninL)) (xs:=vI 50000000 100) (out:=[]) (o:=none);rw[aaB,<-C8]at D;generalize hρ:yE (Tp p r q) f g gaps us qs at' gap (Ix ns) o4 o10 o11=ρ at t;have A:ev (KO (n+1)) J7 ρ=some (.val (.lst ((((vI 50000000 100).filter λy=>!decide (y∈ns)).map PyData.int).map OD.fz)),ρ):=bj (ds:=bP 50000000 100) (ρ1:=ρ) (ρ2:=ρ) (zc:=([Ix ns],ρ.set 9 none)) (C7 (i:=50000000) (j:=50000100) rfl rfl rfl rfl (by decide)) (by rw[eQ];decide) (by rw[<-hρ];rfl) D (by rw[<-hρ];rfl);have J:ev (KO (n+1)) Jk ρ=some (.val (It ((100-ns.length:Nat):Int)),ρ):=by have:ev (KO (n+1)) ed2 ρ=some (.val (It ns.length),ρ):=aE (rs:=[.rf 9]) (ρ1:=ρ) (ds:=[.list (ns.map PyData.int)]) (by rw[<-hρ];rfl) (by show (aq _ (.rf 9)).bind _=_;rw[show aq ρ (.rf 9)=some (.list (ns.map PyData.int)) by rw[<-hρ];exact aK ns];rfl) blen;have e:=ae (o:=.sub) (C:=KO (n+1)) (a:=.int 100) (ρ:=ρ) (dx:=.int 100) (dy:=.int ns.length) rfl this rfl rfl rfl;rw[e,show (100:Int)-(ns.length:Int)=((100-ns.length:Nat):Int) by omega]
  have L:ev (KO (n+1)) eak ρ=some (.val (.lst ((d.map PyData.int).map OD.fz)),ρ):=by have hv:Ca (KO (n+1)) (.some Jk) ρ=some (some ((100-ns.length:Nat):Int),ρ):=bs J rfl;have:=vF (lo:=.none) (l:=none) (u:=some ((100-ns.length:Nat):Int)) A rfl hv C5;rw[vJ,<-acf,<-H]at this;exact this
  have Z:bL (KO (n+1)) eag ρ=some (.nx,yE (Tp p r q) f g gaps us qs at' gap (Ix ns) o4 o10 (Ix d)):=ah (ρ2:=ρ) (z:=Il d) L (by rw[cB];rfl) (by rw[<-hρ];rfl) (by rw[<-hρ];rfl);have I:∀{Y:List Int},Il Y=.lst ((Y.map PyData.int).map OD.fz):=λ{Y}=>by rw[cB]
  have r9:mS (yE (Tp p r q) f g gaps us qs at' gap (Ix ns) o4 o10 (Ix d)) (.rf 9)=some (ns.map PyData.int):=kb (by show some (Il ns)=_;rw[I]);have O:mS (yE (Tp p r q) f g gaps us qs at' gap (Ix ns) o4 o10 (Ix d)) (.rf 11)=some (d.map PyData.int):=kb (by show some (Il d)=_;rw[I]);have Q:ev (KO (n+1)) JQ (yE (Tp p r q) f g gaps us qs at' gap (Ix ns) o4 o10 (Ix d))=some (.val (Il (ns++d)),yE (Tp p r q) f g gaps us qs at' gap (Ix ns) o4 o10 (Ix d)):=by have:=gh (C:=KO (n+1)) (a:=.nm 9) (b:=.nm 11) (ρ:=yE (Tp p r q) f g gaps us qs at' gap (Ix ns) o4 o10 (Ix d)) rfl rfl r9 O (by rw[aaa,aaa];omega);rw[<-aas,cB]at this;exact this
  have a0:ev (KO (n+1)) JP (yE (Tp p r q) f g gaps us qs at' gap (Ix ns) o4 o10 (Ix d))=some (.val (Il (d++ns)),yE (Tp p r q) f g gaps us qs at' gap (Ix ns) o4 o10 (Ix d)):=by have:=gh (C:=KO (n+1)) (a:=.nm 11) (b:=.nm 9) (ρ:=yE (Tp p r q) f g gaps us qs at' gap (Ix ns) o4 o10 (Ix d)) rfl rfl O r9 (by rw[aaa,aaa];omega);rw[<-aas,cB]at this;exact this
  obtain⟨w,hw,ew⟩:=gF (xs:=[ns++d,d++ns]) y0 y1;have T:atI [Il (ns++d),Il (d++ns)] y=Ix w:=by
   obtain⟨k,U,X⟩:=bnd ew;refine bs (x:=k) U ?_;have:([ns++d,d++ns].map Il)[k]?=Ix w:=by rw[aau,X];rfl
   exact this
  have hp:w.Perm (ns++d):=by
   simp only[aab,aaq,or_false]at hw;rcases hw with rfl|rfl
   ·exact List.Perm.refl _
   ·exact aaY
  have s9:bL (KO (n+1)) eaq (yE (Tp p r q) f g gaps us qs at' gap (Ix ns) o4 o10 (Ix d))=some (.nx,yE (Tp G M B) f g gaps us qs at' gap (Ix w) o4 o10 (Ix d)):=ah (ρ2:=yE (Tp G M B) f g gaps us qs at' gap (Ix ns) o4 o10 (Ix d)) (z:=Il w) (ax (x:=.val (.lst [Il (ns++d),Il (d++ns)])) (ρ1:=yE (Tp p r q) f g gaps us qs at' gap (Ix ns) o4 o10 (Ix d)) (y:=.val (It y)) (ρ2:=yE (Tp G M B) f g gaps us qs at' gap (Ix ns) o4 o10 (Ix d)) (aJ (aa Q (aa a0 af)) rfl rfl) (ag (ρ3:=yE (Tp G M B) f g gaps us qs at' gap (Ix ns) o4 o10 (Ix d)) rfl rfl e2 rfl) rfl (cE T)) rfl rfl rfl;have a3:w.length=ns.length+d.length:=by rw[hp.length_eq,aad]
  refine⟨G,M,B,w,Ix d,au t (ab Z (ab s9 rfl)),t2,trivial,λz S=>hp.mem_iff.mpr (aah _ S),by omega,by omega⟩
 ·rw[Dab hx]at t;exact⟨p,r,q,ns,o11,s_ifF t rfl,t1.up (by omega),hn,λz S=>S,h0,hl⟩
def enN:Nat->List PyData->List PyData
 |_,[]=>[]
 |i,d::ds=>.tuple [.int i,d]::enN (i+1) ds
theorem pP:∀{ds:List PyData}{i j:Nat},(enN i ds)[j]?=(ds[j]?).map λd=>.tuple [.int ((i+j:Nat):Int),d]
 |[],_,_=>rfl
 |d::ds,i,0=>rfl
 |d::ds,i,j+1=>by rw[enN,abY,abY,pP,show i+1+j=i+(j+1) by omega]
theorem y9(ds:List PyData):cS ds=enN 0 ds:=by
 apply ach;intro j;rw[pP,cS,aau];by_cases a:j<ds.length
 ·rw[acM a,aak a];simp[abg,aak a]
 ·rw[abZ (by simpa using a),abZ (by omega)];rfl
theorem rS{n m:Nat}{f:Cf}{g gaps us:List Int}{qs:Pz}{i:Nat}{gap:Int}{a b c:Int}{o4 o5 o8 o9 o10 o11:Option OD}(hf:Nb f.rows)(hg:g=gIx 0 f.rows)(a5:g.length<=60)(a7:us.length=g.length)(r:0<=gap/\gap<=f.rows.length)(a6:qs.length<=100)(h:TpOk b c m)(hm:m<=100000):
  ∃a' b' c' ns Y M H,((aW (.tp [8,5]) (.fz (.tuple [.int i,.int gap])) [Ev a b c,Go f.rows,KM g,KM gaps,o4,o5,KM us,some (se qs),o8,o9,o10,o11]).bind λρ1=>av (KO (n+2)) yB ρ1)=some (.nx,yE (Tp a' b' c') f g gaps us (qs++[(gap,ns)]) i gap (Ix ns) Y M H)/\TpOk b' c' (m+80)/\Pool f.rows.length (gap,ns)/\∀z∈g.zip us,z.2=(i:Int)->vG f z.1∈ns:=by
 have ec:(KO (n+2)).call=pl.pg.call (n+2):=rfl;have B:∃p o j ns,bL (KO (n+2)) eaj (yE (Tp a b c) f g gaps us qs i gap o9 o4 o10 o11)=some (.nx,yE (Tp p o j) f g gaps us qs i gap (Ix ns) o4 o10 o11)/\TpOk o j (m+5)/\Ai ns/\ns.length<=1/\(ns=[]->(i:Int)∈us):=by
  have v:aM (KO (n+2)) ees (yE (Tp a b c) f g gaps us qs i gap o9 o4 o10 o11)=some (!decide ((i:Int)∈us),yE (Tp a b c) f g gaps us qs i gap o9 o4 o10 o11):=aj (e_cmp (dx:=.int i) (dy:=.list (us.map PyData.int)) rfl rfl rfl rfl ninL);have J:∀{p o j:Int}{T:Nat},TpOk o j T->T<=m+1->aM (KO (n+2)) J6 (yE (Tp a b c) f g gaps us qs i gap o9 o4 o10 o11)=some (true,yE (Tp p o j) f g gaps us qs i gap o9 o4 o10 o11)->∃p o j ns,bL (KO (n+2)) eaj (yE (Tp a b c) f g gaps us qs i gap o9 o4 o10 o11)=some (.nx,yE (Tp p o j) f g gaps us qs i gap (Ix ns) o4 o10 o11)/\TpOk o j (m+5)/\Ai ns/\ns.length<=1/\(ns=[]->(i:Int)∈us):=λ{p o j T} h1 hm' t=>by obtain⟨k,I,O,Q,N,hk,s⟩:=pD (n:=n) (a:=p) h1 (by omega);rw[<-ec]at N;exact⟨I,O,Q,[k],ah (ρ2:=yE (Tp I O Q) f g gaps us qs i gap o9 o4 o10 o11) (z:=Il [k]) (eA t (aJ (aa (ag (ρ3:=yE (Tp I O Q) f g gaps us qs i gap o9 o4 o10 o11) rfl rfl N rfl) af) rfl rfl)) rfl rfl rfl,s.up (by omega),trivial,aae _,λz=>by cases z⟩
  by_cases L:(i:Int)∈us
  ·rw[Dac L]at v;obtain⟨x,p,o,j,S,x0,x1,tk⟩:=aw (n:=n+1) (a:=a) (many:=4) h (by omega) (by decide) (by decide);rw[show n+1+1=n+2 by omega,<-ec]at S;have s:aM (KO (n+2)) ebx (yE (Tp a b c) f g gaps us qs i gap o9 o4 o10 o11)=some (decide (x=0),yE (Tp p o j) f g gaps us qs i gap o9 o4 o10 o11):=aj (e_cmp (ag (ρ3:=yE (Tp p o j) f g gaps us qs i gap o9 o4 o10 o11) rfl rfl S rfl) rfl rfl rfl vD);by_cases hx:x=0
   ·rw[Dac hx]at s;exact J tk (aae _) (dH v s)
   ·rw[Dab hx]at s;exact⟨p,o,j,[],ah (ρ2:=yE (Tp p o j) f g gaps us qs i gap o9 o4 o10 o11) (z:=Il []) (gg (dH v s) rfl) rfl rfl rfl,tk.up (by omega),trivial,aaG _,λ_=>L⟩
  ·rw[Dab L]at v;exact J h (by omega) (je v)
 obtain⟨p,o,j,ns,S,v,n1,l1,i1⟩:=B;obtain⟨I,O,Q,C,u,e,N,s,l2,n2,s2,z2⟩:=iK (n:=n+1) hf (g:=g) (gaps:=gaps) (us:=us) (qs:=qs) (at':=i) (gap:=gap) (o11:=o11) (zs:=g.zip us) (a:=p) (ns:=ns) (o4:=o4) (o10:=o10) (λz D=>by rw[<-hg];exact(abd (show (z.1,z.2)∈_ from D)).1) v (by rw[ab2];omega) (by rw[ab2];omega) n1;have b0:(g.zip us).length<=60:=by rw[ab2];omega
 have a0:0<C.length:=by
  cases ns with
  |cons x xs=>exact acp (s2 x aaj)
  |nil=>
   obtain⟨t,ht⟩:=acO (i1 rfl);have a8:=(aan.mp ht).1;have a4:=aak (l:=g) (i:=t) (by omega);have D:(g[t]'(by omega),(i:Int))∈g.zip us:=by refine aaI (i:=t) ?_;rw[abS];exact⟨a4,ht⟩
   exact acp (z2 _ D rfl)
 obtain⟨A,w,y,d,q,e3,t3,n3,s3,G,l3⟩:=fill (n:=n+1) (f:=f) (g:=g) (gaps:=gaps) (us:=us) (qs:=qs) (at':=i) (gap:=gap) (a:=I) (ns:=C) (o4:=u) (o10:=e) (o11:=o11) s (by omega) n2 a0 (by omega);have L:ow (KO (n+2)) (.zip (.nm 2) (.nm 6)) (yE (Tp p o j) f g gaps us qs i gap (Ix ns) o4 o10 o11)=some ((g.zip us).map Zp,yE (Tp p o j) f g gaps us qs i gap (Ix ns) o4 o10 o11):=by rw[<-iG];exact vj (dx:=.list (g.map PyData.int)) (dy:=.list (us.map PyData.int)) rfl rfl rfl rfl rfl rfl
 have U:∀{X:List Int},Il X=.lst ((X.map PyData.int).map OD.fz):=λ{X}=>by rw[cB]
 have Z:ev (KO (n+2)) (.tup JZ) (yE (Tp A w y) f g gaps us qs i gap (Ix d) u e q)=some (.val (.fz (Po (gap,d))),yE (Tp A w y) f g gaps us qs i gap (Ix d) u e q):=bc (rs:=[.val (It gap),.val (.fz (.tuple (d.map PyData.int)))]) (aa rfl (aa (jZ (x:=.rf 9) (ρ1:=yE (Tp A w y) f g gaps us qs i gap (Ix d) u e q) rfl (kb (by show some (Il d)=_;rw[U]))) af)) rfl rfl rfl;have s7:bL (KO (n+2)) ebz (yE (Tp A w y) f g gaps us qs i gap (Ix d) u e q)=some (.nx,yE (Tp A w y) f g gaps us (qs++[(gap,d)]) i gap (Ix d) u e q):=br (xs:=(qs.map Po).map OD.fz) (z:=.fz (Po (gap,d))) (ρ2:=yE (Tp A w y) f g gaps us qs i gap (Ix d) u e q) rfl Z rfl rfl (by rw[aaa,aaa];omega) (by
  have:se (qs++[(gap,d)])=.lst ((qs.map Po).map OD.fz++[.fz (Po (gap,d))]):=by rw[se,aas,aas];rfl
  show _=[_,_,_,_,_,_,_,some (se (qs++[(gap,d)])),_,_,_,_];rw[this];rfl)
 exact⟨A,w,y,d,u,e,q,bs (x:=yE (Tp a b c) f g gaps us qs i gap o9 o4 o10 o11) rfl (ab S (ab (cp L N) (ab e3 (ab s7 rfl)))),t3.up (by omega),⟨r.1,r.2,G,l3⟩,λz D he=>s3 _ (z2 z D he)⟩
theorem pQ{n:Nat}{f:Cf}{g gaps us:List Int}(Q:Nb f.rows)(O:g=gIx 0 f.rows)(l:g.length<=60)(k:us.length=g.length):∀{gs:List Int}{i m:Nat}{qs:Pz}{a b c:Int}{o4 o5 o8 o9 o10 o11:Option OD},(∀x∈gs,0<=x/\x<=f.rows.length)->qs.length+gs.length<=100->TpOk b c m->m+80*gs.length<=100000 ->
  ∃a' N M ps J I D G p o,bh (λd C=>(aW (.tp [8,5]) (.fz d) C).bind λρ1=>av (KO (n+2)) yB ρ1) (enN i (gs.map PyData.int)) [Ev a b c,Go f.rows,KM g,KM gaps,o4,o5,KM us,some (se qs),o8,o9,o10,o11]=some (.nx,[Ev a' N M,Go f.rows,KM g,KM gaps,J,I,KM us,some (se (qs++ps)),D,G,p,o])/\TpOk N M (m+80*gs.length)/\ps.map (·.1)=gs/\(∀q∈ps,Pool f.rows.length q)/\∀t q,ps[t]?=some q->∀z∈g.zip us,z.2=((i+t:Nat):Int)->vG f z.1∈q.2
 |[],i,m,qs,a,b,c,o4,o5,o8,o9,o10,o11,_,_,h,_=>⟨a,b,c,[],o4,o5,o8,o9,o10,o11,by rw[aam];rfl,h,rfl,λq e=>absurd e aaq,λt q e=>by cases e⟩
 |x::gs,i,m,qs,a,b,c,o4,o5,o8,o9,o10,o11,hx,hl,h,hm=>by
  rw[aap]at hl hm;obtain⟨a1,b1,c1,ns,p4,r,v,Z,U,P,X⟩:=rS (n:=n) (gaps:=gaps) (us:=us) (qs:=qs) (i:=i) (gap:=x) (a:=a) (o4:=o4) (o5:=o5) (o8:=o8) (o9:=o9) (o10:=o10) (o11:=o11) Q O l k (hx x aaj) (by omega) h (by omega);obtain⟨T,b2,S,ps,q4,q5,Y,q9,H,A,e2,t2,B,L,s⟩:=pQ (n:=n) Q O l k (gs:=gs) (i:=i+1) (qs:=qs++[(x,ns)]) (a:=a1) (o4:=p4) (o5:=Db x) (o8:=Db i) (o9:=Ix ns) (o10:=r) (o11:=v) (λy hy=>hx y (aal _ hy)) (by rw[aad,aay];omega) U (by omega);refine⟨T,b2,S,(x,ns)::ps,q4,q5,Y,q9,H,A,?_,t2.up (by rw[aap];omega),by rw[aao,B],λq e=>?_,λt q e=>?_⟩
  ·have j:=e2;rw[aac]at j;exact bs Z j
  ·rcases aab.mp e with rfl|e
   ·exact P
   ·exact L q e
  ·cases t with
   |zero=>cases e;exact λz w u=>X z w u
   |succ t=>exact λz w u=>s t q e z w (by rw[u];congr 1;omega)
theorem pR(ns:List Int):g9 .ne (.list (ns.map PyData.int)) (.list [])=some (!ns.isEmpty):=bs (y8 ns) rfl
theorem pS(t:G.length<=100):∀{xs:List Int}{m:Nat}{a b c:Int}{out:List PyData}{o:Option OD},(xs≠[]->0<G.length)->TpOk b c m->m+xs.length<=100000 ->
  ∃(us:List Int) (v l j:Int) (f:Option OD),bH (bK (KO (n+1)) (.nm 0) .none ebs) (xs.map PyData.int) out [o,Ev a b c,Ix G]=some (out++us.map PyData.int,[f,Ev v l j,Ix G])/\us.length=xs.length/\(∀u∈us,0<=u/\u<G.length)/\TpOk l j (m+xs.length)
 |[],m,a,b,c,out,o,_,h,_=>⟨[],a,b,c,o,by rw[aaA,aam];rfl,rfl,λu D=>absurd D aaq,h⟩
 |x::xs,m,a,b,c,out,o,d,h,hm=>by
  rw[aap]at hm;have d:=d (by simp);obtain⟨u,J,L,I,i,s,w,r⟩:=aw (many:=(G.length:Int)) h (by omega) (by omega) (by omega);have B:(KO (n+1)).call=pl.pg.call (n+1):=rfl;rw[<-B]at i;have z:ev (KO (n+1)) edz [Db x,Ev a b c,Ix G]=some (.val (It G.length),[Db x,Ev a b c,Ix G]):=aE rfl (by show ((Il G).dat).bind _=_;rw[aK];rfl) blen;obtain⟨us,q,C,p,f,k,A,e,H⟩:=pS t (xs:=xs) (λ_=>d) r (by omega);refine⟨u::us,q,C,p,f,bs (vk rfl (ag (aa rfl (aa z af)) rfl i rfl) rfl) ?_,by rw[aap,aap,A],λy g=>?_,H.up (by rw[aap];omega)⟩
  ·rw[aac]at k;exact k
  ·rcases aab.mp g with rfl|g
   ·exact⟨s,w⟩
   ·exact e y g
theorem C9{G:List Int}(d:G.Pairwise (·<=·))(c:G.Nodup):G.Pairwise (·<·):=(d.and c).imp λ{a b} h=>by have:=h.1;have:=h.2;omega
theorem GD(hf:Nb f.rows)(hN:f.rows.length<=60)(h:TpOk b c m)(hm:m<=90000):
  ∃(qs:Pz) (us:List Int) (a' b' c':Int),pl.pg.call (n+3) 24 [Tp a b c,Rl f.rows]=some (Fp qs us,[Tp a' b' c',Rl f.rows])/\TpOk b' c' (m+1000)/\Qok f qs/\us.length=(gIx 0 f.rows).length/\(∀u∈us,0<=u/\u<qs.length)/\qs.length<=4/\∀z∈(gIx 0 f.rows).zip us,lW f qs z=true:=by
 obtain⟨g,D⟩:∃g,g=gIx 0 f.rows:=⟨_,rfl⟩
 have Y:g.length<=60:=by rw[D,fv];exact aar (abu _ _) hN
 have ec:(KO (n+2)).call=pl.pg.call (n+2):=rfl;generalize hρ0:bQ F_any_plan.n [Tp a b c,Rl f.rows]=ρ0;obtain⟨b6,eg⟩:=iH;rw[aaB,<-D,<-fA]at eg;have U:ev (KO (n+2)) J4 ρ0=some (.val (.lst ((g.map PyData.int).map OD.fz)),ρ0):=bj (fZ (ρ1:=ρ0) (by rw[<-hρ0];rfl) rfl) (by rw[cI,aaa];omega) rfl eg unca_nil;have s2:bL (KO (n+2)) ea6 ρ0=some (.nx,[Ev a b c,Go f.rows,KM g,none,none,none,none,none,none,none,none,none]):=ah (vH U (by show (OD.dat _).map _=_;rw[dat_fz];rfl)) rfl (by rw[<-hρ0];rfl) (by rw[<-hρ0];rfl);have s3:bL (KO (n+2)) efq [Ev a b c,Go f.rows,KM g,none,none,none,none,none,none,none,none,none]=some (.nx,gE (Tp a b c) f.rows g [] none none):=rfl;obtain⟨x,a1,b1,c1,e1,x0,x1,t1⟩:=aw (many:=4) h (by omega) (by decide) (by decide);rw[show n+1+1=n+2 by omega,<-ec]at e1;obtain⟨k,hk,o⟩:∃k:Nat,k<=1/\(g≠[]->0<k)/\zR .int [.bool (!g.isEmpty)]=some (.int k):=by
  cases g with
  |nil=>exact⟨0,by omega,λz=>absurd rfl z,rfl⟩
  |cons y ys=>exact⟨1,by omega,λ_=>by omega,rfl⟩
 have a8:=o.1;have o:=o.2;obtain⟨C,rfl⟩:∃C:Nat,x=C:=⟨x.toNat,by omega⟩
 have er:ev (KO (n+2)) ea1 (gE (Tp a b c) f.rows g [] none none)=some (.val (It ((k+C:Nat):Int)),gE (Tp a1 b1 c1) f.rows g [] none none):=by have q1:ev (KO (n+2)) ecb (gE (Tp a b c) f.rows g [] none none)=some (.val (It k),gE (Tp a b c) f.rows g [] none none):=aE (aa (e_cmp rfl rfl rfl rfl (pR g)) af) rfl o;exact ae q1 (ag rfl rfl e1 rfl) rfl rfl rfl
 obtain⟨L,I,N,gs,o4,o5,e2,t2,l2,nd,b5,q⟩:=iJ (rs:=f.rows) (by omega) (j:=k+C) t1 (by omega) (by show 0+_<=_;omega) aa7 (λx X=>absurd X aaq);have l2:gs.length<=0+(k+C):=l2;have q:0<0+(k+C)->0<gs.length:=q;have s4:bL (KO (n+2)) (match F_any_plan.body with|.cons _ (.cons _ (.cons s _))=>s|_=>.cont) (gE (Tp a b c) f.rows g [] none none)=some (.nx,gE (Tp L I N) f.rows g gs o4 o5):=cp (dM er rfl (by omega)) e2;obtain⟨G,T⟩:∃G,G=sortI gs:=⟨_,rfl⟩
 have pG:G.Perm gs:=by rw[T];exact sortI_perm gs
 have sG:G.Pairwise (·<·):=C9 (by rw[T];exact cM gs) (pG.nodup_iff.mpr nd);have lG:G.length=gs.length:=pG.length_eq;have bG:∀x∈G,0<=x/\x<=f.rows.length:=λx X=>b5 x (pG.mem_iff.mp X);have s5:bL (KO (n+2)) ed4 (gE (Tp L I N) f.rows g gs o4 o5)=some (.nx,gE (Tp L I N) f.rows g G o4 o5):=ah (z:=Il G) (lJ rfl (aK gs) (fE gs) (by omega)) (by rw[T];rfl) rfl rfl;have gp:g≠[]->0<G.length:=λa7=>by rw[lG];exact q (by have:=a8 a7;omega)
 obtain⟨us,p,v,B,o',e3,l3,bu,t3⟩:=pS (by omega) gp t2 (by omega);rw[aaB]at e3;have a0:ev (KO (n+2)) J9 (gE (Tp L I N) f.rows g G o4 o5)=some (.val (.lst ((us.map PyData.int).map OD.fz)),gE (Tp p v B) f.rows g G o4 o5):=bj (bt rfl rfl rfl) (by rw[aaa];omega) rfl e3 rfl;have s6:bL (KO (n+2)) eat (gE (Tp L I N) f.rows g G o4 o5)=some (.nx,[Ev p v B,Go f.rows,KM g,Ix G,o4,o5,KM us,none,none,none,none,none]):=ah (vH a0 (by show (OD.dat _).map _=_;rw[dat_fz];rfl)) rfl rfl rfl;have s7:bL (KO (n+2)) (.set 7 (.lst .nil)) [Ev p v B,Go f.rows,KM g,Ix G,o4,o5,KM us,none,none,none,none,none]=some (.nx,[Ev p v B,Go f.rows,KM g,Ix G,o4,o5,KM us,some (se []),none,none,none,none]):=rfl;obtain⟨w,r,A,qs,M,Q,O,H,e,l,e4,t4,S,Z,b0⟩:=pQ hf D Y l3 (gs:=G) (i:=0) (qs:=[]) (a:=p) (o4:=o4) (o5:=o5) (o8:=none) (o9:=none) (o10:=none) (o11:=none) bG (by show 0+_<=_;omega) t3 (by omega);rw[<-y9,aaB]at e4;have s8:bL (KO (n+2)) (.fr (.tp [8,5]) (.enm (.nm 3)) yB) [Ev p v B,Go f.rows,KM g,Ix G,o4,o5,KM us,some (se []),none,none,none,none]=_:=cp (fZ (x:=.rf 3) (ρ2:=[Ev p v B,Go f.rows,KM g,KM G,o4,o5,KM us,some (se []),none,none,none,none]) rfl (bD rfl (aK G) rfl)) e4;have a5:qs.length=G.length:=by rw[<-S,aaa]
 have a6:ev (KO (n+2)) (.tup edq) [Ev w r A,Go f.rows,KM g,KM G,M,Q,KM us,some (se qs),O,H,e,l]=some (.val (Fp qs us),[Ev w r A,Go f.rows,KM g,KM G,M,Q,KM us,KL qs,O,H,e,l]):=bc (rs:=[.rf 7,.val (Dl us)]) (zs:=[Pq qs,Dl us]) (ρ2:=[Ev w r A,Go f.rows,KM g,KM G,M,Q,KM us,KL qs,O,H,e,l]) rfl rfl (bs (x:=(Pq qs,[Ev w r A,Go f.rows,KM g,KM G,M,Q,KM us,KL qs,O,H,e,l])) (by show (frz1 _ (.rf 7)).map _=_;rw[bD (x:=se qs) (d:=.list (qs.map Po)) rfl (dat_fz _) rfl];rfl) rfl) rfl;refine⟨qs,us,w,r,A,ak (fn:=F_any_plan) (ρ:=[Ev w r A,Go f.rows,KM g,KM G,M,Q,KM us,KL qs,O,H,e,l]) rfl rfl (by rw[hρ0];exact ab s2 (ab s3 (ab s4 (ab s5 (ab s6 (ab s7 (ab s8 (ar (ai a6 rfl)))))))))  rfl,t4.up (by omega),⟨Z,?_⟩,by rw[l3,D],λu hu=>by rw[a5];exact bu u hu,by omega,λz hz=>?_⟩
 ·rw[<-S,acq]at sG;exact sG
 ·obtain⟨u0,u1⟩:=bu z.2 (abd (show (z.1,z.2)∈_ from hz)).2;obtain⟨t,ht⟩:∃t:Nat,z.2=t:=⟨z.2.toNat,by omega⟩
  have J:t<qs.length:=by omega
  have:=b0 t qs[t] (aak J) z (by rw[D];exact hz) (by rw[ht,aaZ]);unfold lW;rw[ht,aaJ,aak J];exact Dac this
theorem Aj(r:R):r.jm=(decide (r.wd=ac)||decide (r.wd=bi)):=by cases r<;>rfl
theorem GE(a:ev C e ρ=some (.val (Rd r),ρ))(h:g9 o (.str r.wd) (.str x)=some k):ev C (.cmp o (.ix e (.int 0)) (.str x)) ρ=some (.val (.fz (.bool k)),ρ):=e_cmp (ax a rfl rfl (by show bp ρ (.val (.fz r.d)) 0=_;rw[R.tr];exact aF atI_zero)) rfl rfl rfl h
theorem GF(r:R):pl.pg.call (n+1) 1 [Rd r]=some (.fz (.bool r.jm),[Rd r]):=by
 have b:∀x:Str,ev (KO n) (.cmp .eq ee8 (.str x)) [Fa r]=some (.val (.fz (.bool (decide (r.wd=x)))),[Fa r]):=λx=>GE rfl rfl;refine ak (ρ:=[Fa r]) rfl rfl (ar (ai (x:=.val (.fz (.bool r.jm))) ?_ rfl)) rfl;rw[Aj];have a:=b ac;cases c:decide (r.wd=ac) with
 |true=>rw[c]at a;exact lK a
 |false=>rw[c]at a;exact lL a (b bi)
def jIx:Int->List R->List Int
 |_,[]=>[]
 |i,r::rs=>if r.jm=true then i::jIx (i+1) rs else jIx (i+1) rs
theorem jIx_mem:∀{rs:List R}{i a:Int},a∈jIx i rs->∃(j:Nat) (r:R),a=i+j/\rs[j]?=some r/\r.jm=true
 |[],i,a,h=>absurd h aaq
 |r::rs,i,a,h=>by
  rw[jIx]at h;by_cases d:r.jm=true
  ·rw[if_pos d]at h;rcases aab.mp h with rfl|h
   ·exact⟨0,r,by omega,rfl,d⟩
   ·obtain⟨j,q,e,c,b⟩:=jIx_mem h;exact⟨j+1,q,by rw[e];omega,c,b⟩
  ·rw[if_neg d]at h;obtain⟨j,q,e,c,b⟩:=jIx_mem h;exact⟨j+1,q,by rw[e];omega,c,b⟩
theorem fF:∀{rs:List R}{i:Int},(jIx i rs).length=(rs.filter R.jm).length
 |[],i=>rfl
 |r::rs,i=>by
  rw[jIx];by_cases a:r.jm=true
  ·rw[if_pos a,abH a,aap,aap,fF]
  ·rw[if_neg a,abI a,fF]
theorem kc:∀{rs:List R}{i:Int}{out:List PyData}{o0 o1:Option OD},∃a,bH (bK (KO (n+1)) (.tp [0,1]) (.some ed9) (.nm 0)) (enF i rs) out [o0,o1]=some (out++(jIx i rs).map PyData.int,a)
 |[],i,out,o0,o1=>⟨[o0,o1],by rw[jIx,aaA,aam];rfl⟩
 |r::rs,i,out,o0,o1=>by
  have b:aM (KO (n+1)) ed9 [Db i,Fa r]=some (r.jm,[Db i,Fa r]):=bq (ag rfl rfl (GF r) rfl);rw[jIx];cases c:r.jm with
  |false=>rw[c]at b;obtain⟨a,e⟩:=kc;refine⟨a,bs (lN rfl b) ?_⟩;rw[if_neg aaf,e,aam]
  |true=>rw[c]at b;obtain⟨a,e⟩:=kc;refine⟨a,bs (lM rfl b rfl rfl) ?_⟩;rw[if_pos rfl,e,aac];rfl
theorem zd(b:rs.length<=1000):pl.pg.call (n+2) 3 [Rl rs]=some (Il (jIx 0 rs),[Rl rs]):=by obtain⟨a,e⟩:=kc;rw[aaB,<-fA]at e;refine ak rfl rfl (ar (ai (bj (fZ rfl rfl) (by rw[cI,aaa];omega) rfl e unca_nil) (by rw[cB];rfl))) rfl
def farN(r:R)(hop:Int):Int:=if r.wd=bi then (if 99<hop then 99 else hop) else hop
abbrev fin(f:Cf)(qs:Pz):Mc:=inner f qs f.rows.length (cF f qs f.rows.length)
theorem pT{f:Cf}{qs:Pz}:(fin f qs).ps.length=f.rows.length:=by rw[bX,dW]
def gol(s:Mc)(r:R)(k:Nat):Int:=(s.ps++[s.pl]).getD r.tg.toNat 0-s.ps.getD k 0
def tq(f:Cf)(s:Mc)(hop a:Int):Bool:=(f.rows[a.toNat]?).elim false λr=>decide (farN r hop<if gol s r a.toNat<0 then -(gol s r a.toNat) else gol s r a.toNat)
def gG(f:Cf)(qs:Pz)(hop:Int):List Int:=((jIx 0 f.rows).filter λa=>!decide (a∈f.longs)).filter (tq f (fin f qs) hop)
theorem atI_last{a:Type}{xs:List a}{x:a}:atI (xs++[x]) (-1)=some x:=by
 have e:ixN (xs++[x]).length (-1)=some xs.length:=by unfold ixN;rw[aad,aay];rw[if_neg (by omega),if_pos (by omega)];congr 1;omega
 exact bs e abK
theorem atI_get{b:Type}{g:Int->b}{gs:List Int}{i:Int}(c:0<=i)(d:i<gs.length):atI (gs.map g) i=some (g (gs.getD i.toNat 0)):=by
 have e:i=(i.toNat:Int):=by omega
 have a:i.toNat<gs.length:=by omega
 rw[e];refine cU ?_;rw[aau,aaJ,aak a,abg,aak a];rfl
theorem GG{C:Ct}{r:R}{ρ:DEnv}{e:E}{N:Int}(f:ev C e ρ=some (.val (Rd r),ρ))(b:Jok N r)(a:r.jm=true):ev C (.ix e (.neg (.int 1))) ρ=some (.val (It r.tg),ρ):=by obtain⟨_,_,g,c⟩:=b a;exact ax f rfl rfl (by show bp ρ (.val (.fz r.d)) (-1)=_;rw[c];exact aF atI_last)
theorem vL{ps:List Int}{p:Int}:(OD.lst ((ps.map PyData.int++[PyData.int p]).map OD.fz))=Il (ps++[p]):=by have e:(ps++[p]).map PyData.int=ps.map PyData.int++[PyData.int p]:=aas;rw[Il,<-cB,e]
theorem GH(c:aM C a ρ=some (x,ρ))(d:aM C b ρ=some (y,ρ)):aM C (.or a b) ρ=some (x||y,ρ):=by cases x with|true=>exact je c|false=>exact dH c d
theorem t_andB(c:aM C a ρ=some (x,ρ))(d:aM C b ρ=some (y,ρ)):aM C (.and a b) ρ=some (x&&y,ρ):=by cases x with|true=>exact t_andT c d|false=>exact bC c
theorem Am(r:R):g9 .inn (.str r.wd) (.tuple [.str ac,.str bi])=some r.jm:=by rw[Aj];show some (decide (ac=r.wd)||(decide (bi=r.wd)||false))=_;rw[aby,decide_eq_decide.mpr (eq_comm ),decide_eq_decide.mpr (eq_comm (a:=Str.ofString "nil"))]
theorem Da{r:R}:(decide (hop<m)||(decide (r.wd=bi)&&decide (99<m)))=decide (farN r hop<m):=by
 unfold farN;by_cases h:r.wd=bi
 ·rw[Dac h,if_pos h,abG,<-Bool.decide_or];refine decide_eq_decide.mpr ?_;split<;>omega
 ·rw[Dab h,if_neg h,ab7,aby]
abbrev lU(f:Cf)(qs:Pz)(s:Mc)(hop:Int)(out:List Int)(o9 o10 o11:Option OD):DEnv:=[Go f.rows,IN f,KL qs,Db hop,KM s.ps,KM s.bs,Db s.pl,some (Il (s.ps++[s.pl])),Ix out,o9,o10,o11]
abbrev lV:Ss:=match F_too_short.body with|.cons _ (.cons _ (.cons (.fr _ _ b) _))=>b|_=>.nil
def adds(f:Cf)(s:Mc)(hop:Int)(r:R)(k:Int):Bool:=r.jm&&(!decide (k∈f.longs)&&tq f s hop k)
theorem ze{n k:Nat}(t:Jb f.rows.length f.rows)(v:s.ps.length=f.rows.length)(h:f.rows[k]?=some r)(A:out.length<=1000):∃q,av (KO n) lV (lU f qs s hop out (Db k) (Fa r) o11)=some (.nx,lU f qs s hop (out++if adds f s hop r k=true then [(k:Int)] else []) (Db k) (Fa r) q):=by
 have o:aM (KO n) ebh (lU f qs s hop out (Db k) (Fa r) o11)=some (r.jm,lU f qs s hop out (Db k) (Fa r) o11):=aj (e_cmp (ax rfl rfl rfl (by rw[R.tr];exact aF atI_zero)) rfl rfl rfl (Am r));have x:aM (KO n) eev (lU f qs s hop out (Db k) (Fa r) o11)=some (!decide ((k:Int)∈f.longs),lU f qs s hop out (Db k) (Fa r) o11):=aj (e_cmp rfl rfl rfl rfl ninL);have c:=t_andB o x;unfold adds;cases a:r.jm&&!decide ((k:Int)∈f.longs) with
 |false=>rw[a]at c;rw[<-Bool.and_assoc,a,ab7,if_neg aaf,aam];exact⟨_,ab (s_ifF c rfl) rfl⟩
 |true=>
  rw[a]at c;rw[<-Bool.and_assoc,a,abG];obtain⟨g,_⟩:=abC.mp a;have e:=t r (aaI h);obtain⟨w,y,_⟩:=e g;have z:k<f.rows.length:=(aan.mp h).1;have j:ev (KO n) Ji (lU f qs s hop out (Db k) (Fa r) o11)=some (.val (It ((s.ps++[s.pl]).getD r.tg.toNat 0)),lU f qs s hop out (Db k) (Fa r) o11):=ax rfl (GG rfl e g) rfl (dO rfl (atI_get w (by rw[aad,v,aay];omega)));have l:ev (KO n) Jd (lU f qs s hop out (Db k) (Fa r) o11)=some (.val (It (s.ps.getD k 0)),lU f qs s hop out (Db k) (Fa r) o11):=ax rfl rfl rfl (bw (atI_get (by omega) (by omega)));obtain⟨m,d⟩:∃m:Int,m=if gol s r k<0 then -(gol s r k) else gol s r k:=⟨_,rfl⟩
  have u:ev (KO n) eai (lU f qs s hop out (Db k) (Fa r) o11)=some (.val (It m),lU f qs s hop out (Db k) (Fa r) o11):=by refine aE (aa (ae j l rfl rfl rfl) (aa (ae l j rfl rfl rfl) af)) rfl ?_;show some (PyData.int (if s.ps.getD k 0-(s.ps++[s.pl]).getD r.tg.toNat 0>(s.ps++[s.pl]).getD r.tg.toNat 0-s.ps.getD k 0 then s.ps.getD k 0-(s.ps++[s.pl]).getD r.tg.toNat 0 else (s.ps++[s.pl]).getD r.tg.toNat 0-s.ps.getD k 0))=some (.int m);rw[d];unfold gol;congr 2;split<;>split<;>omega
  have p:tq f s hop k=decide (farN r hop<m):=by unfold tq;rw[aaJ,h,d];rfl
  have b:aM (KO n) eaz (lU f qs s hop out (Db k) (Fa r) (Db m))=some (tq f s hop k,lU f qs s hop out (Db k) (Fa r) (Db m)):=by rw[p,<-Da];exact GH (aj (e_cmp rfl rfl rfl rfl rfl)) (t_andB (aj (GE rfl rfl)) (aj (e_cmp rfl rfl rfl rfl rfl)))
  refine⟨Db m,ab (au c (ab (ah u rfl rfl rfl) ?_)) rfl⟩;cases i:tq f s hop k with
  |false=>rw[i]at b;rw[if_neg aaf,aam];exact ab (s_ifF b rfl) rfl
  |true=>rw[i]at b;rw[if_pos rfl];refine ab (au b (ab (br rfl rfl rfl rfl (by rw[aaa];omega) ?_) rfl)) rfl;unfold lU;rw[<-bU (ns:=out)];rfl
def tsL(f:Cf)(s:Mc)(hop:Int)(i:Int)(rs:List R):List Int:=((jIx i rs).filter λa=>!decide (a∈f.longs)).filter (tq f s hop)
theorem vM:tsL f s hop i (r::rs)=(if adds f s hop r i=true then [i] else [])++tsL f s hop (i+1) rs:=by
 unfold tsL adds;rw[jIx];cases r.jm with
 |false=>rfl
 |true=>
  rw[if_pos rfl,abG,ab3];cases !decide (i∈f.longs) with
  |false=>rfl
  |true=>rw[if_pos rfl,abG,ab3];split<;>rfl
theorem pU(j:Jb f.rows.length f.rows)(l:s.ps.length=f.rows.length):∀{rs:List R}{k:Nat}{out:List Int}{o9 o10 o11:Option OD},f.rows.drop k=rs->out.length+rs.length<=1000->∃c a b,bh (λd g=>(aW (.tp [9,10]) (.fz d) g).bind λρ1=>av (KO n) lV ρ1) (enF k rs) (lU f qs s hop out o9 o10 o11)=some (.nx,lU f qs s hop (out++tsL f s hop k rs) c a b)
 |[],k,out,o9,o10,o11,_,_=>⟨o9,o10,o11,by show some _=some _;rw[tsL,jIx,ab4,ab4,aam]⟩
 |r::rs,k,out,o9,o10,o11,h,hb=>by
  have m:f.rows[k]?=some r:=by rw[<-List.head?_drop,h];rfl
  have p:f.rows.drop (k+1)=rs:=by rw[<-List.tail_drop,h];rfl
  rw[aap]at hb;obtain⟨q,e⟩:=ze (out:=out) j l m (by omega);have i:(out++if adds f s hop r k=true then [(k:Int)] else []).length<=out.length+1:=by rw[aad];split<;>simp
  obtain⟨c,a,b,o⟩:=pU j l (out:=out++if adds f s hop r k=true then [(k:Int)] else []) p (by omega);refine⟨c,a,b,bs (bs rfl e) ?_⟩;rw[vM,<-aac];exact o
theorem vN(g:∀q∈qs,0<=q.1)(m:qs.length<=300)(o:f.rows.length<=200)(h:Jb f.rows.length f.rows):pl.pg.call (n+4) 27 [Rl f.rows,Lo f,Pq qs,It hop]=some (Il (gG f qs hop),[Rl f.rows,Lo f,Pq qs,It hop]):=by have c:pl.pg.call (n+3) 23 [Rl f.rows,Lo f,Pq qs]=some (Hl (fin f qs),[Rl f.rows,Lo f,Pq qs]):=c_placed g m o;have d:=pT (f:=f) (qs:=qs);have j:gG f qs hop=tsL f (fin f qs) hop 0 f.rows:=rfl;rw[j];generalize fin f qs=s at *;have i:(KO (n+3)).call=pl.pg.call (n+3):=rfl;rw[<-i]at c;obtain⟨l,a,b,e⟩:=pU (hop:=hop) h d (rs:=f.rows) (k:=0) rfl (by rw[abn];omega);rw[aaB]at e;refine ak (ρ:=lU f qs s hop [] l a b |>.set 8 none) rfl rfl ?_ rfl;refine ab (ka (ag rfl rfl c rfl) rfl rfl) ?_;refine ab (dJ (ρ3:=lU f qs s hop [] none none none) (aa (gh rfl (aJ (aa rfl af) rfl rfl) rfl rfl (by rw[aaa,d];show _+1<=_;omega)) (aa rfl af)) rfl rfl (by rw[vL];rfl)) ?_;refine ab (cp (fZ rfl rfl) (by rw[fA];exact e)) ?_;exact ar (ai rfl rfl)
theorem lY:∀{l:List Int},a∈insI i l ↔ a=i\/a∈l
 |[]=>by simp[insI]
 |j::r=>by
  rw[insI];split
  ·simp
  ·rw[aab,lY,aab];constructor<;>(intro h;rcases h with h|h|h<;>simp[h])
theorem sortI_mem:∀{l:List Int},a∈sortI l ↔ a∈l
 |[]=>Iff.rfl
 |j::r=>by rw[sortI,lY,sortI_mem,aab]
theorem lZ:∀{l:List Int},(insI i l).length=l.length+1
 |[]=>rfl
 |j::r=>by
  rw[insI];split
  ·rfl
  ·rw[aap,lZ];rfl
theorem jk:∀{l:List Int},(sortI l).length=l.length
 |[]=>rfl
 |j::r=>by rw[sortI,lZ,jk];rfl
def free(f:Cf):List Int:=(jIx 0 f.rows).filter λa=>!decide (a∈f.longs)
abbrev nx(f:Cf)(sh:List Int):Cf:=⟨f.rows,sortI (f.longs++sh),f.r0,f.r1⟩
theorem split_len{b:Type}{p:b->Bool}:∀{l:List b},(l.filter p).length+(l.filter λa=>!p a).length=l.length
 |[]=>rfl
 |x::l=>by
  have:=split_len (p:=p) (l:=l);rw[ab3,ab3];cases p x with
  |true=>rw[if_pos rfl,if_neg (by decide),aap,aap];omega
  |false=>rw[if_neg (by decide),if_pos (by decide),aap,aap];omega
theorem zf:(free (nx f (gG f qs hop))).length+(gG f qs hop).length<=(free f).length:=by
 have c:gG f qs hop=(free f).filter (tq f (fin f qs) hop):=rfl;have j:=split_len (p:=tq f (fin f qs) hop) (l:=free f);have i:(free (nx f (gG f qs hop))).length<=((free f).filter λa=>!tq f (fin f qs) hop a).length:=by
  unfold free;rw[List.filter_filter,<-acP,<-acP];refine List.countP_mono_left λa g h=>?_;have b:a ∉ sortI (f.longs++gG f qs hop):=by simpa using h
  rw[sortI_mem,aai]at b;have d:a ∉ f.longs:=λz=>b (.inl z);rw[Dab d,Bool.not_false,Bool.and_true];cases e:tq f (fin f qs) hop a with
  |false=>rfl
  |true=>exact absurd (.inr (by rw[c];exact abb.mpr ⟨abb.mpr ⟨g,by rw[Dab d];rfl⟩,e⟩)) b
 rw[c]at i ⊢;omega
theorem kf(h:frz1 ρ r=some (d,ρ1))(k:bF ios ρ1 rs=some (xs,ρ2)):bF (false::ios) ρ (r::rs)=some (.fz d::xs,ρ2):=by simp only[bF,h,k]
theorem zg(ls:List Int):listOf (Il ls)=some (ls.map PyData.int):=by show qY (ls.map It)=_;rw[<-cB];exact fP _
theorem GI(g:ev C a ρ=some (x,ρ1))(f:ev C b ρ1=some (y,ρ2))(e:mS ρ2 x=some (xs.map PyData.int))(i:mS ρ2 y=some (ys.map PyData.int))(d:(xs++ys).length<64):ev C (.bnw .sorted (.cat a b)) ρ=some (.val (Il (sortI (xs++ys))),ρ2):=by have c:=d;rw[aad]at c;have h:=gh g f e i (by rw[aaa,aaa];omega);rw[<-aas]at h;exact lJ h (dat_fz _) (fE _) d
theorem GJ(h:c ρ=some (false,ρ1))(a:0<n):eU c b n ρ=some (.nx,ρ1):=by
 cases n with
 |zero=>omega
 |succ n=>exact bs h rfl
theorem GK(h:c ρ=some (true,ρ1))(a:b ρ1=some (.nx,ρ2))(k:eU c b n ρ2=r):eU c b (n+1) ρ=r:=bs h (by rw[if_pos rfl];exact bs a k)
abbrev jT:E:=.cmp .inn efc (.tup ec4)
theorem kg:∀{rs:List R}{i:Int}{out:List PyData}{o0 o1:Option OD},∃a,bH (bK C (.tp [0,1]) (.some jT) (.nm 0)) (enF i rs) out [o0,o1]=some (out++(jIx i rs).map PyData.int,a)
 |[],i,out,o0,o1=>⟨[o0,o1],by rw[jIx,aaA,aam];rfl⟩
 |r::rs,i,out,o0,o1=>by
  have b:aM C jT [Db i,Fa r]=some (r.jm,[Db i,Fa r]):=aj (e_cmp (ax rfl rfl rfl (by rw[R.tr];exact aF atI_zero)) rfl rfl rfl (Am r));rw[jIx];cases c:r.jm with
  |false=>rw[c]at b;obtain⟨a,e⟩:=kg;refine⟨a,bs (lN rfl b) ?_⟩;rw[if_neg aaf,e,aam]
  |true=>rw[c]at b;obtain⟨a,e⟩:=kg;refine⟨a,bs (lM rfl b rfl rfl) ?_⟩;rw[if_pos rfl,e,aac];rfl
abbrev KA:E:=.ix (.lst eay) (.nm 1)
theorem kh(h:0<=sh)(d:sh<3):∀{js:List Int}{m:Nat}{a b c:Int}{out:List PyData}{o:Option OD},TpOk b c m->m+js.length<=100000->∃(ls:List Int) (L D z:Int) (J:Option OD),bH (bK (KO (n+1)) (.nm 0) (.some KA) (.nm 0)) (js.map PyData.int) out [o,Db sh,Ev a b c]=some (out++ls.map PyData.int,[J,Db sh,Ev L D z])/\ls.Sublist js/\TpOk D z (m+js.length)
 |[],m,a,b,c,out,o,t,_=>⟨[],a,b,c,o,by rw[aaA,aam];rfl,.slnil,t⟩
 |k::js,m,a,b,c,out,o,t,hm=>by
  rw[aap]at hm;obtain⟨N,l,A,w,H,M,I,v⟩:=aw (many:=2) t (by omega) (by decide) (by decide);obtain⟨y,B,O⟩:=gF (xs:=[OD.fz (.bool false),.fz (.bool (decide (N=0))),.fz (.bool true)]) h d;obtain⟨q,rfl⟩:∃q:Bool,y=.fz (.bool q):=by simp only[aab,aaq,or_false]at B;rcases B with rfl|rfl|rfl<;>exact⟨_,rfl⟩
  have G:=I9 (C:=KO (n+1)) (ρ:=[Db k,Db sh,Ev a b c]) (ax (aJ (aa rfl (aa (e_cmp (ag (f:=16) (es:=.cons (.nm 2) Je) rfl rfl H rfl) (b:=.int 0) (o:=.eq) rfl rfl rfl rfl) (aa (e:=.bl true) rfl af)) (e:=.bl false)) rfl rfl) (b:=.nm 1) rfl rfl (cE O));cases q with
  |false=>obtain⟨ls,i,r,g,p,u,j,s⟩:=kh h d (js:=js) v (by omega);refine⟨ls,i,r,g,p,bs (x:=([],[Db k,Db sh,Ev l A w])) (lN rfl G) ?_,j.cons _,s.up (by rw[aap];omega)⟩;rw[u,aam]
  |true=>obtain⟨ls,i,r,g,p,u,j,s⟩:=kh (n:=n) h d (js:=js) (a:=l) (out:=out++[.int k]) (o:=Db k) v (by omega);refine⟨k::ls,i,r,g,p,bs (x:=([.int k],[Db k,Db sh,Ev l A w])) (lM rfl G rfl rfl) ?_,j.cons₂ _,s.up (by rw[aap];omega)⟩;rw[u,aac];rfl
theorem zh(u:rs.length<=60)(h:TpOk b c m)(s:m<=90000):∃(ls:List Int) (x q i:Int),pl.pg.call (n+2) 19 [Tp a b c,Rl rs]=some (Il ls,[Tp x q i,Rl rs])/\ls.Sublist (jIx 0 rs)/\TpOk q i (m+100):=by
 have B:(jIx 0 rs).length<=60:=by rw[fF];exact aar (abu _ _) u
 obtain⟨z,w,G,D,v,e,d,t⟩:=aw (n:=n) (a:=a) (many:=3) h (up (k:=0) s rfl) (by decide) (by decide);obtain⟨y,l⟩:=kg (C:=KO (n+1)) (o0:=none) (o1:=none);rw[aaB,<-fA]at l;obtain⟨ls,g,j,f,o,p,r,A⟩:=kh (n:=n) e d (js:=jIx 0 rs) (a:=w) (o:=none) t (by omega);rw[aaB]at p;generalize jIx 0 rs=js at *;refine⟨ls,g,j,f,ak rfl rfl (ab (ah (ag rfl rfl v rfl) rfl rfl rfl) (ab (ah (bj (fZ rfl rfl) (by rw[cI,aaa];omega) rfl l unca_nil) rfl rfl rfl) (ar (ai (bj (ρ2:=[Ev g j f,Go rs,Db z,some (.fz (.list (js.map PyData.int)))]) (bt rfl (bD rfl (dat_fz _) rfl) rfl) (by rw[aaa];omega) rfl p rfl) (by rw[cB];rfl))))) rfl,r,A.up (by omega)⟩
theorem l4(d:rs.length<=60)(h:ls.Sublist (jIx 0 rs)):ls.length+(free ⟨rs,ls,r0,r1⟩).length<=60:=by
 have f:=split_len (p:=λa:Int=>decide (a∈ls)) (l:=jIx 0 rs);have b:(ls.filter λa=>decide (a∈ls)).Sublist ((jIx 0 rs).filter λa=>decide (a∈ls)):=h.filter _;rw[List.filter_eq_self.mpr λa c=>Dac c]at b;have g:=b.length_le;have e:(jIx 0 rs).length<=60:=by rw[fF];exact aar (abu _ _) d
 show ls.length+((jIx 0 rs).filter λa=>!decide (a∈ls)).length<=60;omega
abbrev gY(t:OD)(f:Cf)(qs:Pz)(x3:OD)(o4:Option OD):DEnv:=[some t,Go f.rows,KL qs,some x3,o4]
abbrev gQ:S':=.set 4 ebl
theorem An(d:Qok f qs)(e:qs.length<=300)(g:f.rows.length<=60)(b:Jb f.rows.length f.rows)(k:av (KO (n+4)) ss (gY t f qs (Lo f) (Ix (gG f qs 499)))=r):av (KO (n+4)) (.cons gQ ss) (gY t f qs (Il f.longs) o4)=r:=by have a:=vN (n:=n) (hop:=499) (λq h=>(d.ok q h).g0) e (by omega) b;have c:(KO (n+4)).call=pl.pg.call (n+4):=rfl;rw[<-c]at a;exact ab (ah (ag rfl (show bF [false,false,false,false] _ _=_ from kf rfl (kf (bD rfl (aK _) rfl) (kf rfl (kf rfl rfl)))) a rfl) rfl rfl rfl) k
abbrev gX:Ss:=.cons ec1 (.cons gQ .nil)
theorem Jn(h:ev C (.nm i) ρ=some (.rf i,ρ))(a:ρ[i]?.join=Ix ls):aM C (.cmp .ne (.nm i) (.lst .nil)) ρ=some (!ls.isEmpty,ρ):=aj (e_cmp h (aJ af rfl rfl) (by show (ρ[i]?.join).bind OD.dat=_;rw[a];exact aK ls) rfl (pR ls))
theorem vO:∀{m:Nat}{f:Cf}{fuel:Nat},(free f).length<=m->m<fuel->Qok f qs->qs.length<=300->f.rows.length<=60->Jb f.rows.length f.rows->f.longs.length+(free f).length<=60->(∀a∈f.longs,a∈jIx 0 f.rows)->∃(ls:List Int) (o:Option OD),((∀a∈ls,a∈jIx 0 f.rows)/\gG ⟨f.rows,ls,f.r0,f.r1⟩ qs 499=[])/\eU (aM (KO (n+4)) eed) (av (KO (n+4)) gX) fuel (gY t f qs (Lo f) (Ix (gG f qs 499)))=some (.nx,gY t f qs (.fz (.list (ls.map PyData.int))) o)
 |m,f,fuel,hm,hf,hQ,hq,hN,hJ,hb,hs=>by
  have b:=Jn (C:=KO (n+4)) (ρ:=gY t f qs (Lo f) (Ix (gG f qs 499))) (i:=4) rfl rfl;by_cases h:gG f qs 499=[]
  ·rw[h]at b;exact⟨f.longs,_,⟨hs,h⟩,by rw[h];exact GJ b (by omega)⟩
  ·have c:(!(gG f qs 499).isEmpty)=true:=by cases e:gG f qs 499 with|nil=>exact absurd e h|cons _ _=>rfl
   rw[c]at b;have k:=zf (f:=f) (qs:=qs) (hop:=499);have j:0<(gG f qs 499).length:=acQ.mpr h;cases m with
   |zero=>omega
   |succ m=>
    cases fuel with
    |zero=>omega
    |succ fuel=>
     have l:(nx f (gG f qs 499)).longs.length=f.longs.length+(gG f qs 499).length:=by show (sortI _).length=_;rw[jk,aad]
     obtain⟨ls,o,d,e⟩:=vO (m:=m) (f:=nx f (gG f qs 499)) (fuel:=fuel) (by omega) (by omega) ⟨hQ.ok,hQ.inc⟩ hq hN hJ (by omega) (λa g=>by
      rcases aai.mp (sortI_mem.mp g) with z|z
      ·exact hs a z
      ·exact(abb.mp (abb.mp z).1).1)
     exact⟨ls,o,d,GK b (ab (ah (GI rfl rfl rfl (zg _) (by rw[aad];omega)) rfl rfl rfl) (An (f:=nx f (gG f qs 499)) ⟨hQ.ok,hQ.inc⟩ hq hN hJ rfl)) e⟩
theorem Dc(l:∀ls,Qok ⟨rs,ls,r0,r1⟩ qs)(i:qs.length<=300)(d:rs.length<=60)(q:Jb rs.length rs)(h:TpOk b c m)(u:m<=90000):∃(ls:List Int) (x t k:Int),pl.pg.call (n+5) 28 [Tp a b c,Rl rs,Pq qs]=some (.fz (.list (ls.map PyData.int)),[Tp x t k,Rl rs,Pq qs])/\((∀a∈ls,a∈jIx 0 rs)/\gG ⟨rs,ls,r0,r1⟩ qs 499=[])/\TpOk t k (m+100):=by obtain⟨r,p,s,j,w,g,v⟩:=zh d h u;obtain⟨ls,o,y,e⟩:=vO (fuel:=100000) (by have:=l4 (r0:=r0) (r1:=r1) d g;exact aar (Nat.le_add_left _ _) this) (by decide) (l _) i d q (l4 d g) (λa z=>g.subset z);refine⟨ls,p,s,j,ak (ρ:=gY (Tp p s j) ⟨rs,r,r0,r1⟩ qs (.fz (.list (ls.map PyData.int))) o) rfl rfl ?_ rfl,y,v⟩;refine ab (ah (ag rfl rfl w rfl) rfl rfl rfl) (An (f:=⟨rs,r,r0,r1⟩) (l _) i d q ?_);exact ab (show bL _ (.whl eed gX) _=_ from e) (ar (ai rfl rfl))
def gI:PyData->Int|.int t=>t|_=>0
def Jo:PyData->Int|.tuple (.int b::_)=>b|_=>0
def GL:PyData->Int|.tuple [_,.int i]=>i|_=>0
def cG(r:R)(p:Int)(lg:Bool)(g:PyData):List Int:=match r with
 |.st x n=>if 99<n then [5000+100*x+GL g,5000+Jo g-p] else [1000+100*x+n]
 |.ot w xs _=>if w=ac then (if lg=true then [7000,gI g] else [6500+gI g-p])
  else if w=bi then (if lg=true then [9000+xs.getD 0 0,gI g] else [8100+200*xs.getD 0 0+gI g-p])
  else if w=ci then [0] else if w="tell" then [4000+xs.getD 0 0]
  else if w="sum" then [2000+10*xs.getD 0 0+xs.getD 1 0] else [3000+10*xs.getD 0 0+xs.getD 1 0]
def Gok(r:R)(g:PyData):Prop:=if r.gr=true then ∃b i,g=.tuple [.int b,.int i] else if r.jm=true then ∃t,g=.int t else g=.none
theorem bM{k:Nat}(h:(k:Int)<1000):wQ .mul (.int (k:Int)) (.int x)=some (.int ((k:Int)*x)):=cv (.inl ⟨by omega,by omega⟩)
abbrev Ke(r:R)(p:Int)(lg:Bool)(g:PyData)(o4 o5 o6:Option OD):DEnv:=[Fa r,Db p,some (.fz (.bool lg)),some (.fz g),o4,o5,o6]
theorem De(d:r.ok)(c:r.jm=true):pl.pg.call (n+1) 5 [Rd r,It p,.fz (.bool lg),It t]=some (Il (cG r p lg (.int t)),[Rd r,It p,.fz (.bool lg),It t]):=by
 cases r with
 |st x k=>cases c
 |ot w e h=>
  cases d with
  |sum _ _=>cases c
  |less _ _=>cases c
  |tell _=>cases c
  |stop=>cases c
  |go a=>
   cases lg with
   |true=>exact ak rfl rfl (ar (au rfl (ar (ai (eA rfl (aJ (aa rfl (aa rfl af)) rfl rfl)) rfl)))) rfl
   |false=>exact ak rfl rfl (ar (au rfl (ar (ai (gg rfl (aJ (aa (ae (ae rfl rfl rfl rfl rfl) rfl rfl rfl rfl) af) rfl rfl)) rfl)))) rfl
  |nil a b=>
   cases lg with
   |true=>exact ak rfl rfl (ab (s_ifF rfl rfl) (ar (au rfl (ar (ai (aJ (aa (ae rfl rfl rfl rfl rfl) (aa rfl af)) rfl rfl) rfl))))) rfl
   |false=>exact ak rfl rfl (ab (s_ifF rfl rfl) (ab (s_ifF rfl rfl) (ar (ai (aJ (aa (ae (ae (ae rfl (ae rfl rfl rfl rfl (bM (by decide))) rfl rfl rfl) rfl rfl rfl rfl) rfl rfl rfl rfl) af) rfl rfl) rfl)))) rfl
theorem Dg(l:r.ok)(d:Gok r g):pl.pg.call (n+2) 6 [Rd r,It p,.fz (.bool lg),.fz g]=some (Il (cG r p lg g),[Rd r,It p,.fz (.bool lg),.fz g]):=by
 have c:∀{s u o:Option OD},aM (KO (n+1)) eea (Ke r p lg g s u o)=some (r.gr,Ke r p lg g s u o):=bq (ag rfl rfl (C1 r) rfl);cases r with
 |st x k=>
  by_cases h:99<k
  ·have e:(R.st x k).gr=true:=Dac h;unfold Gok at d;rw[if_pos e]at d;obtain⟨b,i,rfl⟩:=d;rw[e]at c;have j:cG (R.st x k) p lg (.tuple [.int b,.int i])=[5000+100*x+i,5000+b-p]:=if_pos h;rw[j];exact ak rfl rfl (ab (ah rfl rfl rfl rfl) (ab (s_ifF rfl rfl) (ab (s_ifF rfl rfl) (ar (au c (ab (ka rfl rfl rfl) (ar (ai (aJ (aa (ae (ae rfl (ae rfl rfl rfl rfl (bM (by decide))) rfl rfl rfl) rfl rfl rfl rfl) (aa (ae (ae rfl rfl rfl rfl rfl) rfl rfl rfl rfl) af)) rfl rfl) rfl)))))))) rfl
  ·have e:(R.st x k).gr=false:=Dab h;rw[e]at c;have j:cG (R.st x k) p lg g=[1000+100*x+k]:=if_neg h;rw[j];exact ak rfl rfl (ab (ah rfl rfl rfl rfl) (ab (s_ifF rfl rfl) (ab (s_ifF rfl rfl) (ab (s_ifF c rfl) (ar (au rfl (ar (ai (aJ (aa (ae (ae rfl (ae rfl rfl rfl rfl (bM (by decide))) rfl rfl rfl) rfl rfl rfl rfl) af) rfl rfl) rfl)))))))) rfl
 |ot w f h=>
  have e:(R.ot w f h).gr=false:=rfl;rw[e]at c;have q:(R.ot w f h).jm=true->(KO (n+1)).call 5 [Rd (R.ot w f h),It p,.fz (.bool lg),.fz g]=some (Il (cG (R.ot w f h) p lg g),[Rd (R.ot w f h),It p,.fz (.bool lg),.fz g]):=λm=>by unfold Gok at d;rw[if_neg (by rw[e];decide),if_pos m]at d;obtain⟨t,rfl⟩:=d;exact De l m
  cases l with
  |sum a b=>exact ak rfl rfl (ab (ah rfl rfl rfl rfl) (ab (s_ifF rfl rfl) (ab (s_ifF rfl rfl) (ab (s_ifF c rfl) (ab (s_ifF rfl rfl) (ar (au rfl (ar (ai (aJ (aa (ae (ae rfl (ae rfl rfl rfl rfl (bM (by decide))) rfl rfl rfl) rfl rfl rfl rfl) af) rfl rfl) rfl))))))))) rfl
  |less a b=>exact ak rfl rfl (ab (ah rfl rfl rfl rfl) (ab (s_ifF rfl rfl) (ab (s_ifF rfl rfl) (ab (s_ifF c rfl) (ab (s_ifF rfl rfl) (ab (s_ifF rfl rfl) (ar (au rfl (ar (ai (aJ (aa (ae (ae rfl (ae rfl rfl rfl rfl (bM (by decide))) rfl rfl rfl) rfl rfl rfl rfl) af) rfl rfl) rfl)))))))))) rfl
  |tell a=>exact ak rfl rfl (ab (ah rfl rfl rfl rfl) (ab (s_ifF rfl rfl) (ab (s_ifF rfl rfl) (ab (s_ifF c rfl) (ab (s_ifF rfl rfl) (ab (s_ifF rfl rfl) (ab (s_ifF rfl rfl) (ar (ai (aJ (aa (ae rfl rfl rfl rfl rfl) af) rfl rfl) rfl))))))))) rfl
  |stop=>exact ak rfl rfl (ab (ah rfl rfl rfl rfl) (ar (au rfl (ar (ai (aJ (aa rfl af) rfl rfl) rfl))))) rfl
  |go a=>exact ak rfl rfl (ab (ah rfl rfl rfl rfl) (ab (s_ifF rfl rfl) (ar (au (je rfl) (ar (ai (ag rfl rfl (q rfl) rfl) rfl)))))) rfl
  |nil a b=>exact ak rfl rfl (ab (ah rfl rfl rfl rfl) (ab (s_ifF rfl rfl) (ar (au (dH rfl rfl) (ar (ai (ag rfl rfl (q rfl) rfl) rfl)))))) rfl
theorem xtI(b:ρ[i]?.join=Ix zs)(h:ev C e ρ=some (.val (Il ys),ρ1))(f:ρ1[i]?.join=Ix xs)(g:xs.length+ys.length<=1000000)(j:ρ1.set i (some (Il (xs++ys)))=ρ2):bL C (.agl i e) ρ=some (.nx,ρ2)/\bL C (.agl i e) ρ=some (.nx,ρ2):=by
 have a:(ρ[i]?.join).bind (λc=>(kA c).bind λ_=>(ev C e ρ).bind λx=>(Hf x.1).bind λys=>(x.2[i]?.join).bind λd=>(kA d).bind λxs=>(gd (xs.length+ys.length<=1000000)).bind λ_=>some (Fl.nx,x.2.set i (some (.lst (xs++ys)))))=some (.nx,ρ2):=
  bs b (bs rfl (bs h (bs rfl (bs f (bs rfl (bg (by rw[aaa,aaa];exact g) (by
   rw[<-j];show some (Fl.nx,ρ1.set i (some (OD.lst (xs.map It++ys.map It))))=some (Fl.nx,ρ1.set i (some (OD.lst ((xs++ys).map It))));rw[aas])))))))
 exact⟨a,a⟩
def zi(ws:List Int):List Int:=ws.flatMap λw=>[w/10000,w%10000]
def ovL(rs:List R)(k:Nat)(ws:List Int)(b:Int):List Int:=if ovN rs k=true then [7001,b+2*ws.length] else []
def padL(p:Int):List Int:=if p%2=0 then [7002] else []
def poolC(rs:List R)(k:Nat)(ws:List Int)(p:Int):List Int:=ovL rs k ws (fw rs k p)++(padL (p+(ovL rs k ws (fw rs k p)).length)++((7100+(ws.length:Int))::zi ws))
theorem gH:∀{ws:List Int},(zi ws).length=2*ws.length
 |[]=>rfl
 |w::ws=>by show ([w/10000,w%10000]++zi ws).length=_;rw[aad,gH];show 2+2*ws.length=2*(ws.length+1);omega
theorem fG:(ovL rs k ws b).length=if ovN rs k=true then 2 else 0:=by unfold ovL;split<;>rfl
theorem l5:((padL p).length:Int)=1-p%2:=by
 unfold padL;split
 ·show (1:Int)=_;omega
 ·show (0:Int)=_;omega
theorem jl:p+(poolC rs k ws p).length=fw rs k p+2*ws.length:=by unfold poolC;rw[aad,aad,aap,gH];have h:=l5 (p:=p+(ovL rs k ws (fw rs k p)).length);rw[fG]at h ⊢;unfold fw;simp only;split at h<;>rename_i a<;>simp only[a,if_pos,if_neg,acr,↓reduceIte]at *<;>push_cast at *<;>omega
abbrev Tn'(ws:List Int):OD:=.fz (.tuple (ws.map PyData.int))
theorem GM{ws:List Int}:zR .len [.tuple (ws.map PyData.int)]=some (.int (ws.length:Int)):=by show some (PyData.int ((ws.map PyData.int).length:Nat))=_;rw[aaa]
abbrev pcE(rs:List R)(k:Nat)(ws:List Int)(p:Int)(o4 o5 o6:Option OD):DEnv:=[Go rs,Db k,some (Tn' ws),Db p,o4,o5,o6]
abbrev KB:Ss:=.cons eba .nil
theorem pV:∀{ws xs:List Int}{o6:Option OD},xs.length+2*ws.length<=1000->∃a,bh (λd b=>(aW (.nm 6) (.fz d) b).bind λρ1=>av (KO n) KB ρ1) (ws.map PyData.int) (pcE rs k ws0 p o4 (Ix xs) o6)=some (.nx,pcE rs k ws0 p o4 (some (Il (xs++zi ws))) a)
 |[],xs,o6,_=>⟨o6,by show some (Fl.nx,_)=some (Fl.nx,pcE rs k ws0 p o4 (some (Il (xs++[]))) o6);rw[aam]⟩
 |w::ws,xs,o6,h=>by rw[aap]at h;obtain⟨a,e⟩:=pV (ws:=ws) (xs:=xs++[w/10000,w%10000]) (by rw[aad];show xs.length+2+_<=_;omega);refine⟨a,bs (bs rfl (ab (xtI (ρ1:=pcE rs k ws0 p o4 (Ix xs) (Db w)) rfl (aJ (aa (ae rfl rfl rfl rfl (iC (by decide))) (aa (ae rfl rfl rfl rfl (bf (by decide))) af)) rfl rfl) rfl (by show xs.length+2<=_;omega) rfl).2 rfl)) (e.trans ?_)⟩;rw[aac];rfl
theorem zj{rs:List R}(hk:k<=rs.length)(u:ws.length<=100):pl.pg.call (n+4) 11 [Rl rs,It k,Tn' ws,It p]=some (Il (poolC rs k ws p),[Rl rs,It k,Tn' ws,It p]):=by
 have e:=pH (n:=n) (p:=p) hk;have g:=vy (n:=n+1) hk;have r:(KO (n+3)).call=pl.pg.call (n+3):=rfl;rw[<-r]at e g;unfold poolC;obtain⟨b,f⟩:∃b,b=fw rs k p:=⟨_,rfl⟩
 rw[<-f]at e ⊢;obtain⟨xs,c⟩:∃xs,xs=ovL rs k ws b:=⟨_,rfl⟩
 have v:xs.length<=2:=by rw[c,fG];split<;>omega
 have t:bL (KO (n+3)) eah (pcE rs k ws p (Db b) (some (Il [])) none)=some (.nx,pcE rs k ws p (Db b) (Ix xs) none):=by
  have d:aM (KO (n+3)) ecz (pcE rs k ws p (Db b) (some (Il [])) none)=some (ovN rs k,pcE rs k ws p (Db b) (some (Il [])) none):=bq (ag rfl rfl g rfl);rw[c];unfold ovL;cases i:ovN rs k with
  |false=>rw[i]at d;exact s_ifF d rfl
  |true=>rw[i]at d;exact au d (ab (xtI (ys:=[7001,b+2*ws.length]) rfl (aJ (aa rfl (aa (ae rfl (ae rfl (aE rfl rfl GM) rfl rfl (bM (by decide))) rfl rfl rfl) af)) rfl rfl) rfl (by show 0+2<=1000000;decide) rfl).2 rfl)
 have m:bL (KO (n+3)) eas (pcE rs k ws p (Db b) (Ix xs) none)=some (.nx,pcE rs k ws p (Db b) (some (Il (xs++padL (p+xs.length)))) none):=by
  have q:zR .len [.list (xs.map PyData.int)]=some (.int (xs.length:Int)):=by show some (PyData.int ((xs.map PyData.int).length:Nat))=_;rw[aaa]
  have a:aM (KO (n+3)) J5 (pcE rs k ws p (Db b) (Ix xs) none)=some (decide (p+xs.length+1<b),pcE rs k ws p (Db b) (Ix xs) none):=aj (e_cmp (ae (ae rfl (aE rfl (eW (aK xs)) q) rfl rfl rfl) rfl rfl rfl rfl) rfl rfl rfl rfl);have j:(p+xs.length+1<b) ↔ (p+xs.length)%2=0:=by
   rw[c,fG,f];unfold fw;simp only;cases ovN rs k with
   |false=>simp only[acr,↓reduceIte];push_cast;omega
   |true=>simp only[↓reduceIte];push_cast;omega
  unfold padL;by_cases h:p+xs.length+1<b
  ·rw[Dac h]at a;rw[if_pos (j.mp h)];exact au a (ab (br rfl rfl rfl rfl (by rw[aaa];omega) (by unfold pcE;rw[bU ];rfl)) rfl)
  ·rw[Dab h]at a;rw[if_neg (λz=>h (j.mpr z)),aam];exact s_ifF a rfl
 have w:(padL (p+xs.length)).length<=1:=by unfold padL;split<;>simp
 rw[<-c];generalize padL (p+xs.length)=ys at *;obtain⟨o,l⟩:=pV (ws:=ws) (xs:=xs++ys++[7100+(ws.length:Int)]) (by rw[aad,aad];show _+1+_<=_;omega);have s:xs++ys++[7100+(ws.length:Int)]++zi ws=xs++(ys++((7100+(ws.length:Int))::zi ws)):=by simp
 rw[s]at l;refine ak (ρ:=(pcE rs k ws p (Db b) (some (Il [])) o).set 5 none) rfl rfl ?_ rfl;refine ab (ah (ag rfl rfl e rfl) rfl rfl rfl) ?_;refine ab (ah (aJ af rfl rfl) rfl rfl rfl) ?_;refine ab t (ab m (ab (br (ρ3:=pcE rs k ws p (Db b) (some (Il (xs++ys++[7100+(ws.length:Int)]))) none) rfl (ae rfl (aE rfl rfl GM) rfl rfl rfl) rfl rfl (by rw[aaa,aad];omega) (by unfold pcE;rw[bU (ns:=xs++ys)];rfl)) ?_));exact ab (cp (bt rfl rfl rfl) l) (ar (ai rfl rfl))
abbrev dK(L:List (Int×PyData)):List Key:=L.map λz=>.inl z.1
abbrev dV(L:List (Int×PyData)):List OD:=L.map λz=>.fz z.2
abbrev Gd(L:List (Int×PyData)):OD:=.dic (dK L) (dV L)
theorem ki(h:a ∉ L.map (·.1)):ba (.inl a) d (dK L) (dV L)=(dK (L++[(a,d)]),dV (L++[(a,d)])):=by
 have c:¬ ((dK L).any λq=>decide (q=.inl a))=true:=by intro b;obtain⟨q,g,e⟩:=abi.mp b;obtain⟨u,f,rfl⟩:=aav.mp g;have:=abj (Daa e);exact h (aav.mpr ⟨u,f,this⟩)
 unfold ba;rw[if_neg c];show _=((L++[(a,d)]).map (λz=>(Sum.inl z.1:Key)),(L++[(a,d)]).map λz=>OD.fz z.2);rw[aas,aas];rfl
theorem nI:∀{L:List (Int×PyData)},dgV (dK L) (dV L) (.inl a)=some (((L.find? λz=>decide (z.1=a)).map (·.2)).getD .none)
 |[]=>rfl
 |z::L=>by
  have b:=nI (a:=a) (L:=L);unfold dgV at b ⊢;rw[dK,dV,aao,aao,aa1,aaV];by_cases h:z.1=a
  ·have c:decide ((Sum.inl z.1:Key)=.inl a)=true:=Dac (by rw[h]);rw[c,Dac h];rfl
  ·have c:decide ((Sum.inl z.1:Key)=.inl a)=false:=Dab λe=>h (abj e);rw[c,Dab h];simp only[acr,↓reduceIte];cases d:(dK L).findIdx? (λq=>decide (q=.inl a)) with
   |none=>rw[d]at b;exact b
   |some j=>rw[d]at b;exact b
theorem Ao(b:(L.map (·.1)).Nodup)(h:(a,d)∈L):dgV (dK L) (dV L) (.inl a)=some d:=by
 rw[nI];congr 1;induction L with
 |nil=>cases h
 |cons z L f=>
  rw[aao,aaE]at b;rw[aaV];rcases aab.mp h with rfl|h
  ·rw[Dac rfl];rfl
  ·have c:z.1≠a:=λe=>b.1 (by rw[e];exact aav.mpr ⟨_,h,rfl⟩);rw[Dab c];exact f b.2 h
theorem Dh(h:a ∉ L.map (·.1)):dgV (dK L) (dV L) (.inl a)=some .none:=by
 rw[nI,List.find?_eq_none.mpr λz b=>by
  rw[Dab λe:z.1=a=>h (aav.mpr ⟨z,b,e⟩)];decide]
 rfl
theorem vP{g:Int->PyData}:∀{js:List Int}{L:List (Int×PyData)}{o:Option OD},(∀j∈js,ev C ve (Db j::ρ)=some (.val (.fz (g j)),Db j::ρ))->(L.map (·.1)++js).Nodup->∃a,eh (ia C (.nm 0) (.nm 0) ve) (js.map PyData.int) (dK L,dV L) (o::ρ)=some ((dK (L++js.map λj=>(j,g j)),dV (L++js.map λj=>(j,g j))),a::ρ)
 |[],L,o,_,_=>⟨o,by show some ((dK L,dV L),_)=some ((dK (L++[]),dV (L++[])),_);rw[aam]⟩
 |j::js,L,o,h,nd=>by
  have c:j ∉ L.map (·.1):=λz=>(aaD.mp nd).2.2 j z j aaj rfl;have b:((L++[(j,g j)]).map (·.1)++js).Nodup:=by rw[aas,aac];exact nd
  obtain⟨a,e⟩:=vP (λk d=>h k (aal _ d)) b;rw[aac]at e;have f:aW (.nm 0) (.fz (.int j)) (o::ρ)=some (Db j::ρ):=by unfold aW;exact bg (abv _) rfl
  refine⟨a,bs (x:=((dK (L++[(j,g j)]),dV (L++[(j,g j)])),Db j::ρ)) (bs f (bs rfl (bs (h j aaj) (bs rfl (bs rfl (bs rfl ?_)))))) e⟩;show some (ba (.inl j) (g j) (dK L) (dV L),Db j::ρ)=_;rw[ki c]
abbrev wdL(qs:Pz):List (Int×PyData):=qs.map λq=>(q.1,.tuple (q.2.map PyData.int))
theorem vQ:∀{qs ps:Pz}{o0 o1:Option OD},(ps++qs).Pairwise (λx y=>x.1<y.1)->∃a b,eh (ia C (.tp [0,1]) (.nm 0) (.nm 1)) (qs.map Po) (dK (wdL ps),dV (wdL ps)) [o0,o1]=some ((dK (wdL (ps++qs)),dV (wdL (ps++qs))),[a,b])
 |[],ps,o0,o1,_=>⟨o0,o1,by rw[aam];rfl⟩
 |q::qs,ps,o0,o1,h=>by
  have d:q.1 ∉ (wdL ps).map (·.1):=λz=>by obtain⟨u,g,e⟩:=aav.mp z;obtain⟨x,f,rfl⟩:=aav.mp g;have:=(abt.mp h).2.2 x f q aaj;have e:x.1=q.1:=e;omega
  obtain⟨a,b,c⟩:=vQ (ps:=ps++[q]) (by rw[aac];exact h);rw[aac]at c;refine⟨a,b,bs (x:=((dK (wdL (ps++[q])),dV (wdL (ps++[q]))),[Db q.1,some (Tn' q.2)])) (bs rfl (bs rfl (bs rfl (bs rfl (bs rfl (bs rfl ?_)))))) c⟩;show some (ba (.inl q.1) (.tuple (q.2.map PyData.int)) (dK (wdL ps)) (dV (wdL ps)),[Db q.1,some (Tn' q.2)])=_;rw[ki d];have i:wdL (ps++[q])=wdL ps++[(q.1,.tuple (q.2.map PyData.int))]:=aas;rw[i]
theorem gIx_nodup:∀{rs:List R}{i:Int},(gIx i rs).Nodup
 |[],i=>aa7
 |r::rs,i=>by
  rw[gIx];split
  ·refine aaE.mpr ⟨λh=>?_,gIx_nodup⟩;obtain⟨j,q,e,_⟩:=gIx_mem h;omega
  ·exact gIx_nodup
theorem jIx_nodup:∀{rs:List R}{i:Int},(jIx i rs).Nodup
 |[],i=>aa7
 |r::rs,i=>by
  rw[jIx];split
  ·refine aaE.mpr ⟨λh=>?_,jIx_nodup⟩;obtain⟨j,q,e,_⟩:=jIx_mem h;omega
  ·exact jIx_nodup
theorem pW:∀{a b:List R}{i:Int},jIx i (a++b)=jIx i a++jIx (i+a.length) b
 |[],b,i=>by simp[jIx]
 |r::a,b,i=>by
  have e:i+1+(a.length:Int)=i+((r::a).length:Nat):=by rw[aap];omega
  rw[aaM,jIx,jIx,pW ,e];split<;>rfl
theorem row_split(h:rs[k]?=some r):rs=rs.take k++r::rs.drop (k+1):=by obtain⟨a,e⟩:=aan.mp h;rw[<-e,<-abU a,acN]
theorem GN{r:R}(h:r.jm=true):r.gr=false:=by
 cases r with
 |st _ _=>cases h
 |ot _ _ _=>rfl
def DY(f:Cf)(a:Int):Int:=((f.rows[a.toNat]?).map R.tg).getD 0
def gn(s:Mc)(t:Int):Int:=(s.ps++[s.pl]).getD t.toNat 0
def wxN(qs:Pz)(u n:Int):Int:=((((((qs[u.toNat]?).map (·.2)).getD []).findIdx? λm=>decide (m=n)).getD 0:Nat):Int)
def jn(f:Cf)(qs:Pz)(z:Int×Int):PyData:=.tuple [.int ((fin f qs).bs.getD z.2.toNat 0),.int (wxN qs z.2 (vG f z.1))]
abbrev Lj(f:Cf)(qs:Pz):List (Int×PyData):=(jIx 0 f.rows).map λa=>(a,PyData.int (gn (fin f qs) (DY f a)))
abbrev Lz(f:Cf)(qs:Pz)(zs:List (Int×Int)):List (Int×PyData):=zs.map λz=>(z.1,jn f qs z)
abbrev Lg(f:Cf)(qs:Pz)(us:List Int):List (Int×PyData):=Lj f qs++Lz f qs ((gIx 0 f.rows).zip us)
def nJ(f:Cf)(k:Nat):Nat:=((f.rows.take k).filter R.gr).length
def gdat(f:Cf)(qs:Pz)(us:List Int)(k:Nat)(r:R):PyData:=if r.gr=true then jn f qs (k,us.getD (nJ f k) 0) else if r.jm=true then .int (gn (fin f qs) r.tg) else .none
theorem gIx_at(h:f.rows[k]?=some r)(c:r.gr=true):(gIx 0 f.rows)[nJ f k]?=some (k:Int):=by
 have a:k<=f.rows.length:=aaR (aan.mp h).1;have e:=row_split h;have b:gIx 0 f.rows=gIx 0 (f.rows.take k)++(k:Int)::gIx (k+1) (f.rows.drop (k+1)):=by
  conv=>lhs;rw[e]
  rw[pI,gIx,if_pos c,aaW,abo a,abJ]
 rw[b];unfold nJ;rw[<-fv ,aaO (aae _),aa2];rfl
theorem jIx_in{f:Cf}{k:Nat}(h:f.rows[k]?=some r)(a:r.jm=true):(k:Int)∈jIx 0 f.rows:=by have b:k<=f.rows.length:=aaR (aan.mp h).1;rw[row_split h,pW,jIx,if_pos a,aaW,abo b,abJ];exact aag _ aaj
theorem pX(a:us.length=(gIx 0 f.rows).length):(Lg f qs us).map (·.1)=jIx 0 f.rows++gIx 0 f.rows:=by
 rw[Lg,aas,aaL,aaL];congr 1
 ·exact List.map_id _
 ·show (((gIx 0 f.rows).zip us).map λz=>z.1)=_;exact List.map_fst_zip (by omega)
theorem jg_nodup{rs:List R}:(jIx 0 rs++gIx 0 rs).Nodup:=aaD.mpr ⟨jIx_nodup,gIx_nodup,λa g b f e=>by
 subst e;obtain⟨j,r,l,h,k⟩:=jIx_mem g;obtain⟨i,q,m,c,d⟩:=gIx_mem f;have:i=j:=by omega
 subst this;rw[h]at c;cases c;rw[GN k]at d;cases d⟩
theorem Di{k:Nat}(d:us.length=(gIx 0 f.rows).length)(h:f.rows[k]?=some r):dgV (dK (Lg f qs us)) (dV (Lg f qs us)) (.inl (k:Int))=some (gdat f qs us k r):=by
 have j:((Lg f qs us).map (·.1)).Nodup:=by rw[pX d];exact jg_nodup
 unfold gdat;by_cases c:r.gr=true
 ·rw[if_pos c];have e:=gIx_at h c;have m:nJ f k<us.length:=by rw[d];exact(aan.mp e).1
  refine Ao j (aag _ (aav.mpr ⟨((k:Int),us.getD (nJ f k) 0),?_,rfl⟩));refine aaI (i:=nJ f k) ?_;rw[abS];exact⟨e,by rw[abg,aak m];rfl⟩
 ·rw[if_neg c];by_cases b:r.jm=true
  ·rw[if_pos b];refine Ao j (aah _ (aav.mpr ⟨(k:Int),jIx_in h b,?_⟩));show ((k:Int),PyData.int (gn (fin f qs) (DY f k)))=_;unfold DY;rw[aaJ,h];rfl
  ·rw[if_neg b];refine Dh λz=>?_;rw[pX d]at z;rcases aai.mp z with z|z
   ·obtain⟨i,q,l,a,g⟩:=jIx_mem z;have:i=k:=by omega
    subst this;rw[h]at a;cases a;exact b g
   ·obtain⟨i,q,l,a,g⟩:=gIx_mem z;have:i=k:=by omega
    subst this;rw[h]at a;cases a;exact c g
theorem gdat_ok:Gok r (gdat f qs us k r):=by
 unfold Gok gdat;by_cases a:r.gr=true
 ·rw[if_pos a,if_pos a];exact⟨_,_,rfl⟩
 ·rw[if_neg a,if_neg a];by_cases b:r.jm=true
  ·rw[if_pos b,if_pos b];exact⟨_,rfl⟩
  ·rw[if_neg b,if_neg b]
def dY(f:Cf)(k:Nat)(qs:Pz)(cs:List Int):List Int:=qs.foldl (λcs q=>if q.1=(k:Int) then cs++poolC f.rows k q.2 cs.length else cs) cs
def CC(f:Cf)(qs:Pz)(us:List Int):Nat->List Int
 |0=>[]
 |k+1=>dY f k qs (CC f qs us k)++(f.rows[k]?).elim [] λr=>cG r (dY f k qs (CC f qs us k)).length (decide ((k:Int)∈f.longs)) (gdat f qs us k r)
theorem nK:∀{qs:Pz}{cs:List Int}{s:Mc},(cs.length:Int)=s.pl->((dY f k qs cs).length:Int)=(inner f qs k s).pl
 |[],cs,s,h=>h
 |q::qs,cs,s,h=>by
  show ((dY f k qs (if q.1=(k:Int) then cs++poolC f.rows k q.2 cs.length else cs)).length:Int)=(inner f qs k (inn f k s q)).pl;refine nK ?_;unfold inn;split
  ·have:=jl (rs:=f.rows) (k:=k) (ws:=q.2) (p:=(cs.length:Int));rw[aad];show _=fw f.rows k s.pl+2*q.2.length;rw[<-h];omega
  ·exact h
theorem vR(f:r.ok)(c:lg=true->r.jm=true):(cG r p lg g).length=if r.gr=true\/lg=true then 2 else 1:=by
 cases r with
 |st x k=>
  have e:lg=false:=by cases lg with|false=>rfl|true=>cases c rfl
  subst e;by_cases h:99<k
  ·have d:cG (R.st x k) p false g=[5000+100*x+GL g,5000+Jo g-p]:=if_pos h;rw[d,if_pos (.inl (Dac h))];rfl
  ·have d:cG (R.st x k) p false g=[1000+100*x+k]:=if_neg h;rw[d,if_neg (λz=>z.elim (λz=>h (Daa z)) aaf)];rfl
 |ot w j i=>
  cases f with
  |go a=>cases lg<;>rfl
  |nil a b=>cases lg<;>rfl
  |sum a b=>cases lg with|false=>rfl|true=>cases c rfl
  |less a b=>cases lg with|false=>rfl|true=>cases c rfl
  |tell a=>cases lg with|false=>rfl|true=>cases c rfl
  |stop=>cases lg with|false=>rfl|true=>cases c rfl
structure Fok (f:Cf):Prop where
 ok:Nb f.rows
 jb:Jb f.rows.length f.rows
 lg:∀a∈f.longs,a∈jIx 0 f.rows
theorem Fok.jm{k:Nat}(F:Fok f)(h:f.rows[k]?=some r):decide ((k:Int)∈f.longs)=true->r.jm=true:=λz=>by
 obtain⟨i,q,c,a,b⟩:=jIx_mem (F.lg _ (Daa z));have:i=k:=by omega
 subst this;rw[h]at a;cases a;exact b
theorem vU(F:Fok f):∀{k:Nat},k<=f.rows.length->((CC f qs us k).length:Int)=(cF f qs k).pl
 |0,_=>rfl
 |k+1,h=>by
  have c:=vU (us:=us) F (k:=k) (qs:=qs) (by omega);have d:=nK (f:=f) (k:=k) (qs:=qs) c;obtain⟨r,a⟩:∃r,f.rows[k]?=some r:=⟨_,aak (by omega)⟩
  show ((dY f k qs (CC f qs us k)++(f.rows[k]?).elim [] λr=>cG r (dY f k qs (CC f qs us k)).length (decide ((k:Int)∈f.longs)) (gdat f qs us k r)).length:Int)=(inner f qs k (cF f qs k)).pl+sz f k;rw[a,aad];show (((dY f k qs (CC f qs us k)).length+(cG r (dY f k qs (CC f qs us k)).length (decide ((k:Int)∈f.longs)) (gdat f qs us k r)).length:Nat):Int)=_;rw[vR (F.ok r (aaI a)) (F.jm a)];unfold sz;rw[a];show _=_+(if r.gr=true\/(k:Int)∈f.longs then (2:Int) else 1);by_cases b:r.gr=true\/(k:Int)∈f.longs
  ·rw[if_pos b,if_pos (b.imp id λz=>Dac z)];push_cast;omega
  ·rw[if_neg b,if_neg (λz=>b (z.imp id Daa))];push_cast;omega
theorem l6{k:Nat}:∀{qs:Pz}{cs:List Int},(∀q∈qs,q.1≠(k:Int))->dY f k qs cs=cs
 |[],_,_=>rfl
 |q::qs,cs,h=>by show dY f k qs (if q.1=(k:Int) then _ else cs)=cs;rw[if_neg (h q aaj)];exact l6 λz a=>h z (aal _ a)
theorem Dj:dY f k (ps++qs) cs=dY f k qs (dY f k ps cs):=List.foldl_append
theorem l7{q:Int×List Int}(h:(ps++q::rs).Pairwise λx y=>x.1<y.1):(∀x∈ps,x.1<q.1)/\∀x∈rs,q.1<x.1:=by obtain⟨_,a,c⟩:=abt.mp h;exact⟨λx b=>c x b q aaj,(aa0.mp a).1⟩
theorem Ap{f:Cf}{k:Nat}(h:(ps++((k:Int),w)::rs).Pairwise λx y=>x.1<y.1):dY f k (ps++((k:Int),w)::rs) cs=cs++poolC f.rows k w cs.length:=by obtain⟨c,b⟩:=l7 h;rw[Dj,l6 (cs:=cs) λq a e=>by have:=c q a;simp only at this;omega];show dY f k rs (if (k:Int)=(k:Int) then _ else cs)=_;rw[if_pos rfl,l6 λq a e=>by have:=b q a;simp only at this;omega]
theorem nL(h:ev C e ρ=some (.val (.fz d),ρ))(b:ρ[i]?.join=some (.dic ks xs))(hk:ev C ke ρ=some (.val (.fz kd),ρ))(a:keyOf kd=some kk)(c:xs.length<1000000)(f:ba kk d ks xs=(ks',xs'))(g:ρ.set i (some (.dic ks' xs'))=ρ3):bL C (.sdk i ke e) ρ=some (.nx,ρ3):=bs h (bs rfl (bs b (bs rfl (bs hk (bs rfl (bs a (bs b (bs rfl (bg c (by rw[f,<-g]))))))))))
theorem Dk{ns:List Int}(e:ev C a ρ=some (.val (.fz (.tuple (ns.map PyData.int))),ρ1))(d:ev C b ρ1=some (y,ρ2))(f:aq ρ2 y=some (.int n))(c:(ns.findIdx? λm=>decide (m=n))=some j):ev C (.idx a b) ρ=some (.val (.fz (.int j)),ρ2):=bs e (bs rfl (bs d (bs f (bs rfl (bs (fE ns) (bs c rfl))))))
theorem GO(c:qs[u.toNat]?=some q)(b:n∈q.2):∃j:Nat,(q.2.findIdx? λm=>decide (m=n))=some j/\wxN qs u n=j:=by
 obtain⟨j,a⟩:∃j,(q.2.findIdx? λm=>decide (m=n))=some j:=abk.mp (by
  rw[List.findIdx?_isSome];exact abi.mpr ⟨n,b,Dac rfl⟩)
 refine⟨j,a,?_⟩;unfold wxN;rw[c];show (((q.2.findIdx? λm=>decide (m=n)).getD 0:Nat):Int)=j;rw[a];rfl
abbrev hE(f:Cf)(qs:Pz)(us:List Int)(s:Mc)(o9 o10 o11:Option OD):DEnv:=[Go f.rows,IN f,some (Fp qs us),KL qs,KM us,KM s.ps,KM s.bs,Db s.pl,some (Il (s.ps++[s.pl])),o9,o10,o11]
abbrev hV:E:=.tup eaw
abbrev hB:Ss:=.cons (.sdk 9 (.nm 10) hV) .nil
theorem mem_of(c:Zok f qs z)(b:lW f qs z=true):∃q,qs[z.2.toNat]?=some q/\vG f z.1∈q.2:=by
 obtain⟨_,d,e⟩:=c;have a:z.2.toNat<qs.length:=by omega
 refine⟨qs[z.2.toNat],aak a,?_⟩;have:=Daa b;rw[aak a]at this;exact this
theorem Jp(k:(fin f qs).bs.length=qs.length)(a:Zok f qs z)(h:lW f qs z=true):ev (KO n) hV (hE f qs us (fin f qs) o9 (Db z.1) (Db z.2))=some (.val (.fz (jn f qs z)),hE f qs us (fin f qs) o9 (Db z.1) (Db z.2)):=by
 obtain⟨i,x,y,m,v,l,t⟩:=a.row;obtain⟨q,g,b⟩:=mem_of a h;obtain⟨j,o,p⟩:=GO g b;obtain⟨_,r,u⟩:=a;unfold jn;rw[p];have c:ev (KO n) JW (hE f qs us (fin f qs) o9 (Db z.1) (Db z.2))=some (.val (.fz (.tuple (q.2.map PyData.int))),hE f qs us (fin f qs) o9 (Db z.1) (Db z.2)):=by
  refine ax (ax rfl rfl rfl (bw (d:=Po q) ?_)) rfl rfl (aF (cU rfl));have e:z.2=(z.2.toNat:Int):=by omega
  rw[e];exact cU (by rw[aau,g];rfl)
 have s:ev (KO n) JV (hE f qs us (fin f qs) o9 (Db z.1) (Db z.2))=some (.val (It (vG f z.1)),hE f qs us (fin f qs) o9 (Db z.1) (Db z.2)):=by rw[t];refine ax (ax rfl rfl rfl (bw (d:=(R.st x y).d) ?_)) rfl rfl (aF (cU rfl));rw[m];exact cV l
 exact bc (aa (ax rfl rfl rfl (bw (atI_get r (by rw[k];exact u)))) (aa (Dk c s rfl o) af)) rfl rfl rfl
theorem pY(i:(fin f qs).bs.length=qs.length):∀{zs:List (Int×Int)}{L:List (Int×PyData)}{o10 o11:Option OD},(∀z∈zs,Zok f qs z/\lW f qs z=true)->(L.map (·.1)++zs.map (·.1)).Nodup->L.length+zs.length<=1000->∃a b,bh (λd g=>(aW (.tp [10,11]) (.fz d) g).bind λρ1=>av (KO n) hB ρ1) (zs.map Zp) (hE f qs us (fin f qs) (some (Gd L)) o10 o11)=some (.nx,hE f qs us (fin f qs) (some (Gd (L++Lz f qs zs))) a b)
 |[],L,o10,o11,_,_,_=>⟨o10,o11,by show some (Fl.nx,_)=some (Fl.nx,hE f qs us (fin f qs) (some (Gd (L++[]))) o10 o11);rw[aam]⟩
 |z::zs,L,o10,o11,h,nd,hl=>by
  rw[aap]at hl;obtain⟨m,j⟩:=h z aaj;have l:z.1 ∉ L.map (·.1):=λk=>(aaD.mp nd).2.2 z.1 k z.1 (by rw[aao];exact aaj) rfl;have c:((L++[(z.1,jn f qs z)]).map (·.1)++zs.map (·.1)).Nodup:=by rw[aas,aac];exact nd
  obtain⟨a,b,e⟩:=pY i (λy o=>h y (aal _ o)) c (by rw[aad];show L.length+1+_<=_;omega);rw[aac]at e;exact⟨a,b,bs (bs rfl (ab (nL (Jp i m j) rfl rfl rfl (by rw[aaa];omega) (ki l) rfl) rfl)) e⟩
structure Uok (f:Cf)(qs:Pz)(us:List Int):Prop where
 ln:us.length=(gIx 0 f.rows).length
 bd:∀u∈us,0<=u/\u<qs.length
 mm:∀z∈(gIx 0 f.rows).zip us,lW f qs z=true
theorem Uok.z{f:Cf}{qs:Pz}{us:List Int}(U:Uok f qs us){z:Int×Int}(a:z∈(gIx 0 f.rows).zip us):Zok f qs z/\lW f qs z=true:=⟨⟨(abd a).1,U.bd _ (abd a).2⟩,U.mm z a⟩
theorem zk(F:Fok f)(Q:Qok f qs)(U:Uok f qs us)(x:(fin f qs).bs.length=qs.length)(w:qs.length<=300)(u:f.rows.length<=60):pl.pg.call (n+5) 12 [Rl f.rows,Lo f,Fp qs us]=some (Gd (Lg f qs us),[Rl f.rows,Lo f,Fp qs us]):=by
 have b:pl.pg.call (n+4) 10 [Rl f.rows,Lo f,Pq qs]=some (Hl (fin f qs),[Rl f.rows,Lo f,Pq qs]):=y6 Q.inc (λq h=>(Q.ok q h).g0) w (by omega);have t:=zd (n:=n+2) (rs:=f.rows) (by omega);have s:=vz (n:=n+2) (rs:=f.rows) (by omega);have D:(KO (n+4)).call=pl.pg.call (n+4):=rfl;rw[<-D]at b t s;have p:=pT (f:=f) (qs:=qs);have y:(jIx 0 f.rows).length<=60:=by rw[fF];exact aar (abu _ _) u
 have B:(gIx 0 f.rows).length<=60:=by rw[fv];exact aar (abu _ _) u
 obtain⟨L,o⟩:=vP (C:=KO (n+4)) (ve:=.ix (.nm 1) eda) (g:=λa=>.int (gn (fin f qs) (DY f a))) (ρ:=[some (Il ((fin f qs).ps++[(fin f qs).pl])),Go f.rows]) (λa I=>by
  obtain⟨k,r,e,i,j⟩:=jIx_mem I;rw[abJ]at e;subst e;have l:=F.jb r (aaI i);obtain⟨G,J,_⟩:=l j;have H:DY f (k:Int)=r.tg:=by unfold DY;rw[aaJ,i];rfl
  rw[H];exact ax rfl (GG (ax rfl rfl rfl (bw (cV i))) l j) rfl (dO rfl (atI_get G (by rw[aad,p,aay];omega)))) (by rw[aaA,aaB];exact jIx_nodup)
 rw[aaB]at o;obtain⟨c,d,m⟩:=pY x (zs:=(gIx 0 f.rows).zip us) (λz v=>U.z v) (by
  have A:(Lj f qs).map (·.1)=jIx 0 f.rows:=by rw[aaL];exact List.map_id _
  rw[A,List.map_fst_zip (by have:=U.ln;omega)];exact jg_nodup) (by rw[aaa,ab2];omega)
 rw[<-iG]at m;refine ak (ρ:=(hE f qs us (fin f qs) none c d)) rfl rfl ?_ rfl;refine ab (ka (ρ3:=[Go f.rows,IN f,some (Fp qs us),KL qs,KM us,none,none,none,none,none,none,none]) rfl rfl rfl) ?_;refine ab (ka (ρ3:=[Go f.rows,IN f,some (Fp qs us),KL qs,KM us,KM (fin f qs).ps,KM (fin f qs).bs,Db (fin f qs).pl,none,none,none,none]) (ag (ρ3:=[Go f.rows,IN f,some (Fp qs us),KL qs,KM us,none,none,none,none,none,none,none]) rfl rfl b rfl) rfl rfl) ?_;refine ab (ah (ρ3:=hE f qs us (fin f qs) none none none) (gh rfl (aJ (aa rfl af) rfl rfl) rfl rfl (by rw[aaa,p];show _+1<=_;omega)) rfl rfl (by rw[vL];rfl)) ?_;refine ab (nH (ρ3:=hE f qs us (fin f qs) (some (Gd (Lj f qs))) none none) (bt (ag (ρ3:=hE f qs us (fin f qs) none none none) rfl rfl t rfl) (by show (Il _).dat.map _=_;rw[aK];rfl) rfl) (by rw[aaa];omega) rfl o (by show 9<12;decide) rfl) ?_;refine ab (cp (vj (dx:=.list ((gIx 0 f.rows).map PyData.int)) (dy:=.list (us.map PyData.int)) (ag (ρ3:=hE f qs us (fin f qs) (some (Gd (Lj f qs))) none none) rfl rfl s rfl) rfl (by show (Il _).dat.map _=_;rw[aK];rfl) rfl rfl rfl) m) ?_;exact ar (ai rfl rfl)
theorem l8(h:ws.length<=100):(poolC rs k ws p).length<=204:=by
 unfold poolC;have b:(ovL rs k ws (fw rs k p)).length<=2:=by rw[fG];split<;>omega
 have a:∀q,(padL q).length<=1:=λq=>by unfold padL;split<;>simp
 have c:=a (p+(ovL rs k ws (fw rs k p)).length);rw[aad,aad,aap,gH];omega
theorem pZ:∀{qs:Pz}{cs:List Int},(∀q∈qs,q.2.length<=100)->(dY f k qs cs).length<=cs.length+204*qs.length
 |[],cs,_=>aae _
 |q::qs,cs,h=>by
  show (dY f k qs (if q.1=(k:Int) then cs++poolC f.rows k q.2 cs.length else cs)).length<=_;refine aar (pZ λz a=>h z (aal _ a)) ?_;rw[aap];split
  ·rw[aad];have:=l8 (rs:=f.rows) (k:=k) (p:=(cs.length:Int)) (h q aaj);omega
  ·omega
theorem qa:(cG r p lg g).length<=2:=by
 unfold cG;split
 ·split<;>simp
 ·repeat' split
  all_goals simp
theorem Aq(h:∀q∈qs,q.2.length<=100):∀{k:Nat},(CC f qs us k).length<=(204*qs.length+2)*k
 |0=>aae _
 |k+1=>by
  have b:=Aq (f:=f) (us:=us) h (k:=k);have a:=pZ (f:=f) (k:=k) (cs:=CC f qs us k) h;show (dY f k qs (CC f qs us k)++_).length<=_;rw[aad,Nat.mul_succ];generalize (204*qs.length+2)*k=z at *;cases f.rows[k]? with
  |none=>show _+0<=_;omega
  |some r=>have c:=qa (r:=r) (p:=(dY f k qs (CC f qs us k)).length) (lg:=decide ((k:Int)∈f.longs)) (g:=gdat f qs us k r);show _+(cG _ _ _ _).length<=_;omega
theorem nM(h:∀q∈qs,q.2.length<=100)(a:qs.length<=61)(hk:k<=60):(CC f qs us k).length<=750000:=aar (Aq h) (aar (Nat.mul_le_mul (show 204*qs.length+2<=12446 by omega) hk) (by decide))
theorem Dm:((dK (wdL qs)).any λq=>decide (q=.inl (k:Int)))=decide (∃q∈qs,q.1=(k:Int)):=by
 by_cases h:∃q∈qs,q.1=(k:Int)
 ·rw[Dac h];obtain⟨q,a,e⟩:=h;exact abi.mpr ⟨.inl q.1,aav.mpr ⟨_,aav.mpr ⟨q,a,rfl⟩,rfl⟩,Dac (by rw[e])⟩
 ·rw[Dab h];refine acm.mpr λx b=>?_;obtain⟨z,c,rfl⟩:=aav.mp b;obtain⟨q,a,rfl⟩:=aav.mp c;rw[Dab λe=>h ⟨q,a,abj e⟩];decide
theorem qb:∀{ps:Pz},(∀q∈ps,q.1≠k)->(dK (wdL (ps++(k,w)::rs))).findIdx? (λq=>decide (q=.inl k))=some ps.length
 |[],_=>by show List.findIdx? _ (.inl k::dK (wdL rs))=_;rw[aa1,Dac rfl];rfl
 |p::ps,h=>by show List.findIdx? _ (.inl p.1::dK (wdL (ps++(k,w)::rs)))=_;rw[aa1,Dab λe=>h p aaj (abj e),qb λq a=>h q (aal _ a)];rfl
abbrev kE(f:Cf)(qs:Pz)(us:List Int)(cs:List Int)(o6:Option OD):DEnv:=[Go f.rows,IN f,some (Fp qs us),some (Gd (Lg f qs us)),some (Gd (wdL qs)),Ix cs,o6]
theorem GP(h:∀q∈ps,q.1≠(k:Int)):ev C (.pg 4 [.key 6]) (kE f (ps++((k:Int),w)::rs) us cs (Db k))=some (.val (Tn' w),kE f (ps++((k:Int),w)::rs) us cs (Db k)):=by
 have b:accN (kE f (ps++((k:Int),w)::rs) us cs (Db k)) (Gd (wdL (ps++((k:Int),w)::rs))) (.key 6)=some ps.length:=bs rfl (bs rfl (bs rfl (bs rfl (qb h))));have a:(Gd (wdL (ps++((k:Int),w)::rs))).kids[ps.length]?=some (Tn' w):=by show (dV (wdL (ps++((k:Int),w)::rs)))[ps.length]?=_;rw[dV,wdL,aaL,aau,aaO (aae _),aa2];rfl
 exact CT (bs rfl (bs b (bs a rfl))) rfl
theorem ilen{cs:List Int}:zR .len [.list (cs.map PyData.int)]=some (.int (cs.length:Int)):=by show some (PyData.int ((cs.map PyData.int).length:Nat))=_;rw[aaa]
theorem vV:ev C Hj (kE f qs us cs o6)=some (.val (It cs.length),kE f qs us cs o6):=aE rfl (eW (aK cs)) ilen
abbrev Kf:S':=.iff ee1 ear .nil
abbrev Kg:S':=.iff eck eam .nil
theorem Ar(Q:Qok f qs)(hk:k<=f.rows.length)(r:cs.length<=900000)(c:qs.length<=61):bL (KO (n+5)) Kf (kE f qs us cs (Db k))=some (.nx,kE f qs us (dY f k qs cs) (Db k)):=by
 have b:aM (KO (n+5)) ee1 (kE f qs us cs (Db k))=some (decide (∃q∈qs,q.1=(k:Int)),kE f qs us cs (Db k)):=by rw[<-Dm];rfl
 by_cases h:∃q∈qs,q.1=(k:Int)
 ·rw[Dac h]at b;obtain⟨⟨j,w⟩,d,e⟩:=h;have e:j=(k:Int):=e;subst e;have g:w.length<=100:=(Q.ok _ d).l1;obtain⟨o,rs,rfl⟩:=abT d;rw[Ap Q.inc];have i:∀q∈o,q.1≠(k:Int):=λq c e=>by have:=(l7 Q.inc).1 q c;simp only at this;omega
  have a:=zj (n:=n+1) (p:=(cs.length:Int)) hk g;have m:(KO (n+5)).call=pl.pg.call (n+5):=rfl;rw[<-m]at a;have l:=l8 (rs:=f.rows) (k:=k) (p:=(cs.length:Int)) g;refine au b (ab (xtI rfl (ag (aa rfl (aa rfl (aa (GP i) (aa vV af)))) rfl a rfl) rfl (by omega) rfl).2 rfl)
 ·rw[Dab h]at b;rw[l6 λq c e=>h ⟨q,c,e⟩];exact s_ifF b rfl
theorem Dn(h:dgV (dK (Lg f qs us)) (dV (Lg f qs us)) (.inl (k:Int))=some d):ev C (.dgt 3 (.nm 6)) (kE f qs us cs (Db k))=some (.val (.fz d),kE f qs us cs (Db k)):=bs h rfl
theorem GQ{n k:Nat}(F:Fok f)(U:Uok f qs us)(a:f.rows[k]?=some r)(e:cs.length<=900000):bL (KO (n+5)) Kg (kE f qs us cs (Db k))=some (.nx,kE f qs us (cs++cG r cs.length (decide ((k:Int)∈f.longs)) (gdat f qs us k r)) (Db k)):=by have h:k<f.rows.length:=(aan.mp a).1;have c:aM (KO (n+5)) eck (kE f qs us cs (Db k))=some (true,kE f qs us cs (Db k)):=aj (e_cmp rfl (aE rfl rfl blen) rfl rfl (show some (decide ((k:Int)<(f.rows.length:Int)))=some true by rw[Dac (by omega)]));have b:=Dg (n:=n+3) (p:=(cs.length:Int)) (lg:=decide ((k:Int)∈f.longs)) (g:=gdat f qs us k r) (F.ok r (aaI a)) gdat_ok;have d:(KO (n+5)).call=pl.pg.call (n+5):=rfl;rw[<-d]at b;have i:=qa (r:=r) (p:=(cs.length:Int)) (lg:=decide ((k:Int)∈f.longs)) (g:=gdat f qs us k r);exact au c (ab (xtI rfl (ag (aa (ax rfl rfl rfl (bw (cV a))) (aa vV (aa (e_cmp rfl rfl rfl rfl GA) (aa (Dn (Di U.ln a)) af)))) rfl b rfl) rfl (by omega) rfl).2 rfl)
abbrev AC(f:Cf)(qs:Pz)(us:List Int):List Int:=dY f f.rows.length qs (CC f qs us f.rows.length)
theorem vW(F:Fok f)(Q:Qok f qs)(U:Uok f qs us)(a:qs.length<=61)(j:f.rows.length<=60):∀{m k:Nat}{o6:Option OD},k+m=f.rows.length->∃c,bh (λd g=>(aW (.nm 6) (.fz d) g).bind λρ1=>av (KO (n+5)) (.cons Kf (.cons Kg .nil)) ρ1) (bP k (m+1)) (kE f qs us (CC f qs us k) o6)=some (.nx,kE f qs us (AC f qs us) c)
 |0,k,o6,h=>by
  have l:k=f.rows.length:=by omega
  subst l;have o:=nM (f:=f) (us:=us) (λq a=>(Q.ok q a).l1) a j;have p:aM (KO (n+5)) eck (kE f qs us (AC f qs us) (Db f.rows.length))=some (false,kE f qs us (AC f qs us) (Db f.rows.length)):=aj (e_cmp rfl (aE rfl rfl blen) rfl rfl (show some (decide ((f.rows.length:Int)<(f.rows.length:Int)))=some false by rw[Dab (by omega)]));rw[aT];exact⟨_,bs (bs rfl (ab (Ar Q (aae _) (by omega) a) (ab (s_ifF p rfl) rfl))) rfl⟩
 |m+1,k,o6,h=>by
  obtain⟨r,i⟩:∃r,f.rows[k]?=some r:=⟨_,aak (by omega)⟩
  have o:=nM (f:=f) (us:=us) (λq a=>(Q.ok q a).l1) a (k:=k) (by omega);have s:=pZ (f:=f) (k:=k) (cs:=CC f qs us k) λq a=>(Q.ok q a).l1;obtain⟨c,e⟩:=vW F Q U a j (m:=m) (k:=k+1) (by omega);have b:CC f qs us (k+1)=dY f k qs (CC f qs us k)++cG r (dY f k qs (CC f qs us k)).length (decide ((k:Int)∈f.longs)) (gdat f qs us k r):=by show _++(f.rows[k]?).elim [] _=_;rw[i];rfl
  rw[b]at e;rw[aT];exact⟨c,bs (bs rfl (ab (Ar Q (by omega) (by omega) a) (ab (GQ F U i (by omega)) rfl))) e⟩
theorem Do(F:Fok f)(Q:Qok f qs)(U:Uok f qs us)(i:(fin f qs).bs.length=qs.length)(h:qs.length<=61)(c:f.rows.length<=60):pl.pg.call (n+6) 13 [Rl f.rows,Lo f,Fp qs us]=some (Il (AC f qs us),[Rl f.rows,Lo f,Fp qs us]):=by
 have a:=zk (n:=n) F Q U i (by omega) c;have j:(KO (n+5)).call=pl.pg.call (n+5):=rfl;rw[<-j]at a;obtain⟨k,l,g⟩:=vQ (ps:=[]) Q.inc;obtain⟨b,e⟩:=vW F Q U h c (aaZ _);refine ak (ρ:=(kE f qs us (AC f qs us) b).set 5 none) rfl rfl ?_ rfl;refine ab (ah (ag rfl rfl a rfl) rfl rfl rfl) ?_;refine ab (nH (bt (ax rfl rfl rfl (aF atI_zero)) rfl rfl) (by rw[aaa];omega) rfl g (by show 4<7;decide) rfl) ?_;refine ab (ah (aJ af rfl rfl) rfl rfl rfl) ?_;refine ab (cp (dM (ae (aE rfl rfl blen) rfl rfl rfl rfl) rfl (by omega)) ?_) (ar (ai (ρ:=kE f qs us (AC f qs us) b) rfl rfl));have d:((f.rows.length:Int)+1).toNat=f.rows.length+1:=by omega
 rw[d];exact e
theorem vX{k:Nat}(h:k<=rs.length):pl.pg.call (n+1) 26 [Rl rs,It k,It p]=some (It (fw rs k p),[Rl rs,It k,It p]):=by
 have a:ev (KO n) ean [Go rs,Db k,Db p]=some (.val (.fz (.bool (ovN rs k))),[Go rs,Db k,Db p]):=by
  cases k with
  |zero=>exact lK rfl
  |succ k=>
   have d:((k+1:Nat):Int)-1=(k:Int):=by omega
   have c:ovN rs (k+1)=(rs[k]).r8:=by show (rs[k]?).elim true R.r8=_;rw[aak h];rfl
   rw[c];exact lL (e_cmp rfl rfl rfl rfl (show some (decide (((k+1:Nat):Int)=0))=some false by rw[Dab (by omega)])) (e_cmp (ax (ax rfl rfl rfl (bw (by rw[d];exact cV (aak (by omega))))) rfl rfl (by rw[R.tr];exact aF atI_zero)) rfl rfl rfl (pL _))
 unfold fw;generalize ovN rs k=b at a;cases b with
 |true=>exact ak rfl rfl (ab (ah (ae rfl (ae rfl (aE (aa a af) rfl rfl) rfl rfl (cv (.inl (by decide)))) rfl rfl rfl) rfl rfl rfl) (ar (ai (ae rfl (ae rfl rfl rfl rfl (bf (by decide))) rfl rfl rfl) rfl))) rfl
 |false=>exact ak rfl rfl (ab (ah (ae rfl (ae rfl (aE (aa a af) rfl rfl) rfl rfl (cv (.inl (by decide)))) rfl rfl (show some (PyData.int (p+2*0))=_ by rw[Int.mul_zero,Int.add_zero])) rfl rfl rfl) (ar (ai (ae rfl (ae rfl rfl rfl rfl (bf (by decide))) rfl rfl rfl) rfl))) rfl
abbrev Wq(q:Int×Int):PyData:=.tuple [.int q.1,.int q.2]
abbrev Wl(wt:List (Int×Int)):OD:=.lst ((wt.map Wq).map OD.fz)
abbrev gD(us:List (Int×Int)):OD:=.dic (us.map λu=>.inl u.1) (us.map λu=>It u.2)
theorem nN(wt:List (Int×Int)):(Wl wt).dat=some (.list (wt.map Wq)):=dat_fz _
def nu(f:Cf)(a:Int):Int:=((f.rows[a.toNat]?).map R.num).getD 0
def Gt(f:Cf)(a:Int):Prop:=∃(i:Nat) (r k:Int),a=i/\f.rows[i]?=some (.st r k)
theorem fH{a b:Type}{f:a->b}{l:List a}{x:a}:(l++[x]).map f=l.map f++[f x]:=by rw[aas];rfl
abbrev Tr:=Int×List Int×Int
abbrev tO(t:Tr):OD:=.lst [It t.1,Il t.2.1,It t.2.2]
abbrev TO(ts:List Tr):OD:=.lst (ts.map tO)
abbrev vE(f:Cf)(x3 x4 x5:OD)(p:Int)(o7 o8 o9 o10 o11 o12 o13:Option OD):DEnv:=[Go f.rows,IN f,some (Re f),some x3,some x4,some x5,Db p,o7,o8,o9,o10,o11,o12,o13]
theorem As:∀wt:List (Int×Int),PyData.canLayAll0 (wt.map Wq)=true
 |[]=>rfl
 |_::r=>by simp[PyData.canLayAll0,PyData.canLay0,As r]
theorem Au:∀wt:List (Int×Int),PyData.depthAll (wt.map Wq)<=1
 |[]=>by simp[PyData.depthAll]
 |_::r=>by have:=Au r;simp[PyData.depthAll,PyData.depth];omega
theorem GR(wt:List (Int×Int)):g9 .eq (.list (wt.map Wq)) (.list [])=some wt.isEmpty:=by
 have h:SeqAt.shaped (.list (wt.map Wq))=true:=by have:=Au wt;simp[SeqAt.shaped,PyData.canLay0,PyData.depth,As];omega
 have a:SeqAt.shaped (.list [])=true:=by decide +kernel
 have:PyData.eqv (.list (wt.map Wq)) (.list [])=wt.isEmpty:=by cases wt<;>simp[PyData.eqv,PyData.eqvAll]
 show (if (SeqAt.shaped (.list (wt.map Wq))&&SeqAt.shaped (.list []))=true then some (PyData.eqv (.list (wt.map Wq)) (.list [])) else none)=_;rw[h,a,aco,if_pos rfl,this]
theorem zl{ρ:DEnv}{j:Nat}{ds:List PyData}{i:Int}{d:PyData}(h:ρ[j]?.join=some (.lst (ds.map OD.fz)))(c:atI (ds.map OD.fz) i=some (.fz d)):bp ρ (.rf j) i=some (.fz d,ρ):=by
 obtain⟨k,b,a⟩:=bnd c;have e:itemS (.lst (ds.map OD.fz)) i=some (d,.lst (ds.map OD.fz)):=by simp only[itemS,b,a,OD.dat];rw[bz a]
 simp only[bp,h,e];rw[set_self (join_some h)]
section
variable{n k:Nat}{f:Cf}{x3 x4:OD}{wt:List (Int×Int)}{p:Int}{o7 o8 o9 o10 o11 o12 o13:Option OD}
theorem nO:aM (KO n) eeb (vE f x3 x4 (Wl wt) p o7 o8 o9 o10 o11 o12 o13)=some (!wt.isEmpty,vE f x3 x4 (Wl wt) p o7 o8 o9 o10 o11 o12 o13):=aj (e_cmp (dx:=.list (wt.map Wq)) (dy:=.list []) rfl rfl (nN _) rfl (bs (GR wt) rfl))
theorem qc:aM (KO n) JT (vE f x3 x4 (Wl wt) p o7 o8 o9 o10 o11 o12 o13)=some (wt.isEmpty,vE f x3 x4 (Wl wt) p o7 o8 o9 o10 o11 o12 o13):=aj (e_cmp (dx:=.list (wt.map Wq)) (dy:=.list []) rfl rfl (nN _) rfl (GR wt))
theorem vY:ev (KO n) ecl (vE f x3 x4 (Wl wt) p (Db k) o8 o9 o10 o11 o12 o13)=some (.val (.fz (.bool (decide ((k:Int)=f.rows.length)))),vE f x3 x4 (Wl wt) p (Db k) o8 o9 o10 o11 o12 o13):=e_cmp (dx:=.int k) (dy:=.int f.rows.length) rfl (aE rfl rfl blen) rfl rfl rfl
abbrev vB:Ss:=match F_late_plan.body with|.cons _ (.cons (.fr _ _ b) _)=>b|_=>.nil
abbrev KC:S':=match vB with|.cons _ (.cons s _)=>s|_=>.brk
end
theorem ixN_last{n:Nat}:ixN (n+1) (-1)=some n:=by unfold ixN;rw[if_neg (by decide),if_pos (by omega)];congr 1;omega
theorem Av{f:Cf}{i:Nat}{r k:Int}(h:f.rows[i]?=some (.st r k)):nu f i=k:=by unfold nu;rw[aaJ,h];rfl
def dZ(ns:List Int)(x:Int):List Int:=if x∈ns then ns else ns++[x]
theorem zo{wt:List (Int×Int)}{q:Int×Int}:Wl (wt++[q])=.lst ((wt.map Wq).map OD.fz++[.fz (Wq q)]):=by rw[Wl,fH,fH]
section
variable{n k:Nat}{f:Cf}{x4 x5:OD}{p:Int}{ts:List Tr}{t:Tr}{o7 o8 o9 o10 o11 o12 o13:Option OD}
theorem fI:TO (ts++[t])=.lst (ts.map tO++[tO t]):=by rw[TO,fH]
theorem p_l1:aL (vE f (TO (ts++[t])) x4 x5 p o7 o8 o9 o10 o11 o12 o13) 3 [.ix (-1)]=some (TO (ts++[t]),[ts.length],tO t):=by
 rw[fI];have e:ixN (ts.map tO++[tO t]).length (-1)=some ts.length:=by rw[aad,aaa];exact ixN_last
 have b:(OD.lst (ts.map tO++[tO t])).kids[ts.length]?=some (tO t):=by show (ts.map tO++[tO t])[ts.length]?=_;have:=abK (l:=ts.map tO) (a:=tO t);rwa [aaa]at this
 exact bs rfl (bs (show accN _ (.lst (ts.map tO++[tO t])) (.ix (-1))=some ts.length from e) (bs b rfl))
theorem zp:aL (vE f (TO (ts++[t])) x4 x5 p o7 o8 o9 o10 o11 o12 o13) 3 [.ix (1),.ix (-1)]=some (TO (ts++[t]),[ts.length,1],Il t.2.1):=bs p_l1 rfl
theorem Jq:aL (vE f (TO (ts++[t])) x4 x5 p o7 o8 o9 o10 o11 o12 o13) 3 [.ix (2),.ix (-1)]=some (TO (ts++[t]),[ts.length,2],It t.2.2):=bs p_l1 rfl
theorem vZ:OD.put z [ts.length,1] (TO (ts++[t]))=.lst (ts.map tO++[.lst [It t.1,z,It t.2.2]]):=by
 rw[fI];have e:(OD.lst (ts.map tO++[tO t])).kids[ts.length]?=some (tO t):=by show (ts.map tO++[tO t])[ts.length]?=some (tO t);have:=abK (l:=ts.map tO) (a:=tO t);rwa [aaa]at this
 simp only[OD.put,e,OD.dw];have c:(tO t).kids[1]?=Ix t.2.1:=rfl;simp only[c];have b:(ts.map tO).length=ts.length:=aaa _;rw[acR _ _ (by rw[b];exact aae _),b,aa2];rfl
theorem kj(b:ρ[0]?.join=Go f.rows)(c:ρ[j]?.join=Db a)(h:Gt f a):ev C (.ix (.ix (.nm 0) (.nm j)) (.int 2)) ρ=some (.val (It (nu f a)),ρ):=by
 obtain⟨i,r,k,rfl,h⟩:=h;rw[Av h];refine ax (ax (ρ1:=ρ) (y:=.val (It i)) ?_ ?_ rfl (bw (cV h))) rfl rfl rfl
 ·rw[uo,b]
 ·rw[uo,c]
theorem Dp(c:ρ[0]?.join=Go f.rows)(e:ρ[j]?.join=Db a)(h:Gt f a):iM C (.ix (.ix (.nm 0) (.nm j)) (.int 2)) ρ=some (.int (nu f a)):=by obtain⟨i,r,k,rfl,h⟩:=h;rw[Av h];have b:iM C (.nm 0) ρ=some (.list (f.rows.map R.d)):=bs c rfl;have g:iM C (.nm j) ρ=some (.int i):=bs e rfl;exact bs (bs b (bs g (bs rfl (bs rfl (cV h))))) (bs rfl (bs rfl (bs rfl rfl)))
theorem GS(h:ρ[i]?.join=some (.lst xs)):ev C (.ln i) ρ=some (.val (It xs.length),ρ):=bs h (bs rfl rfl)
abbrev layB:Ss:=match vB with|.cons _ (.cons _ (.cons (.iff _ (.cons _ (.cons _ (.cons (.fr _ _ b) _))) _) _))=>b|_=>.nil
theorem v3:∀{wt us:List (Int×Int)}{ns:List Int}{o11 o12:Option OD},(∀q∈wt,Gt f q.1)->(us.map (·.1)++wt.map (·.1)).Nodup->us.length+wt.length<1000->ns.length+wt.length<1000 ->
  ∃a c,bh (λd m=>(aW (.tp [11,12]) (.fz d) m).bind λρ1=>av (KO n) layB ρ1) (wt.map Wq) (vE f (TO (ts++[(g0,ns,b)])) (gD us) x5 p o7 o8 o9 o10 o11 o12 o13)=some (.nx,vE f (TO (ts++[(g0,wt.foldl (λns q=>dZ ns (nu f q.1)) ns,b)])) (gD (us++wt.map λq=>(q.1,(ts.length:Int)))) x5 p o7 o8 o9 o10 a c o13)
 |[],us,ns,o11,o12,_,_,_,_=>⟨o11,o12,by simp only[aaA,aam];rfl⟩
 |q::wt,us,ns,o11,o12,hG,nd,hl,hn=>by
  rw[aap]at hl hn;have o:=hG q aaj;have g:q.1 ∉ us.map (·.1):=λh=>(aaD.mp nd).2.2 q.1 h q.1 (by rw[aao];exact aaj) rfl;obtain⟨a,c,e⟩:=v3 (us:=us++[(q.1,(ts.length:Int))]) (ns:=dZ ns (nu f q.1)) (λz r=>hG z (aal _ r)) (by rw[aas,aac];exact nd) (by rw[aad,aay];omega) (by unfold dZ;split;omega;rw[aad,aay];omega);rw[aac]at e;refine⟨a,c,bs (x:=(.nx,vE f (TO (ts++[(g0,dZ ns (nu f q.1),b)])) (gD (us++[(q.1,(ts.length:Int))])) x5 p o7 o8 o9 o10 (Db q.1) (Db q.2) o13)) (bs (x:=vE f (TO (ts++[(g0,ns,b)])) (gD us) x5 p o7 o8 o9 o10 (Db q.1) (Db q.2) o13) rfl ?_) e⟩;have i:(((ts++[(g0,ns,b)]).map tO).length:Int)-1=(ts.length:Int):=by rw[aaa,aad,aay];omega
  refine ab (nL (ae (GS rfl) rfl rfl rfl (by show some (PyData.int _)=_;rw[i])) rfl rfl rfl (by rw[aaa];omega) (putK_new g) rfl) ?_;have l:=CU (neg:=true) (kj (C:=KO n) (ρ:=vE f (TO (ts++[(g0,ns,b)])) (gD (us++[(q.1,(ts.length:Int))])) x5 p o7 o8 o9 o10 (Db q.1) (Db q.2) o13) (j:=11) rfl rfl o) rfl zp (aK ns) ninL;by_cases h:nu f q.1∈ns
  ·rw[Dac h]at l;unfold dZ;rw[if_pos h];exact ab (s_ifF l rfl) rfl
  ·rw[Dab h]at l;unfold dZ;rw[if_neg h];refine ab (au l (ab (CV (xs:=ns.map It) zp (Dp rfl rfl o) rfl (by rw[aaa];omega) ?_) rfl)) rfl;show [Go f.rows,IN f,some (Re f),some (OD.put (.lst (ns.map It++[It (nu f q.1)])) [ts.length,1] (TO (ts++[(g0,ns,b)]))),some (gD (us++[(q.1,(ts.length:Int))])),some x5,Db p,o7,o8,o9,o10,Db q.1,Db q.2,o13]=_;rw[vZ,vE,fI,<-bU]
end
section
variable{C:Ct}{c:E}{i j k:Nat}{ps qs:List Acc}{ss:Ss}{ρ ρ1:DEnv}{r:Option (Fl×DEnv)}{p q:OD×List Nat×OD}{ys:List OD}{d:PyData}{z:Fl×DEnv}
theorem Dq(h:aM C c ρ=some (false,ρ1))(a:j≠i/\k≠i/\j≠k/\j<ρ1.length/\k<ρ1.length)(hk:av C ss ((ρ1.set j (some (.lst []))).set k (some (.fz (.int 0))))=r):av C (.alo c i ps qs j k ss) ρ=r:=bs h (bg a hk)
theorem Dr(h:aM C c ρ=some (true,ρ1))(g:j≠i/\k≠i/\j≠k/\j<ρ1.length/\k<ρ1.length)(f:aL ρ1 i ps=some p)(e:p.2.2=.lst ys)(a:aL ρ1 i qs=some q)(l:q.2.2=.fz d)(b:HolOk (λu=>av C ss (((ρ1.set i (some (OD.put (.hole u) p.2.1 p.1))).set j (some (.lst ys))).set k (some (.fz d)))) i p.2.1 j z):av C (.alo c i ps qs j k ss) ρ=some z:=bs h (bg g (bs f (bs (show kA p.2.2=some ys by rw[e];rfl) (bs a (bs (show wM q.2.2=some d by rw[l];rfl) (rA b))))))
end
section
variable{n k:Nat}{f:Cf}{xs:List OD}{us wt:List (Int×Int)}{p b:Int}{w:List Int}{o7 o8 o9 o10 o11 o12 o13:Option OD}
abbrev aB:Ss:=match vB with|.cons _ (.cons _ (.cons _ (.cons _ (.cons (.iff _ (.alo _ _ _ _ _ _ s) _) _))))=>s|_=>.nil
abbrev wC(f:Cf)(xs:List OD)(us wt:List (Int×Int))(p:Int)(k:Nat)(o8 o9:Option OD)(b:Int)(o11 o12:Option OD)(w:List Int):DEnv:=vE f (.lst xs) (gD us) (Wl wt) p (Db k) o8 o9 (Db b) o11 o12 (Ix w)
theorem Aw(a:Gt f k):aM (KO n) eb6 (wC f xs us wt p k o8 o9 b o11 o12 w)=some (decide (nu f k∈w),wC f xs us wt p k o8 o9 b o11 o12 w):=aj (e_cmp (kj rfl rfl a) rfl rfl (aK _) GA)
theorem qe(a:Gt f k):aM (KO n) J2 (wC f xs us wt p k o8 o9 b o11 o12 w)=some (!decide (nu f k∈w),wC f xs us wt p k o8 o9 b o11 o12 w):=aj (e_cmp (kj rfl rfl a) rfl rfl (aK _) ninL)
theorem v5:aM (KO n) eb2 (wC f xs us wt p k o8 o9 b o11 o12 w)=some (decide (p-b<=f.r0),wC f xs us wt p k o8 o9 b o11 o12 w):=aj (e_cmp rfl (ax rfl rfl rfl (aF atI_zero)) rfl rfl rfl)
theorem qf:aM (KO n) J3 (wC f xs us wt p k o8 o9 b o11 o12 w)=some (decide (p+2-b<=f.r0),wC f xs us wt p k o8 o9 b o11 o12 w):=aj (e_cmp rfl (ax rfl rfl rfl (aF atI_zero)) rfl rfl rfl)
theorem v7:aM (KO n) (.nen 3) (wC f xs us wt p k o8 o9 b o11 o12 w)=some (!xs.isEmpty,wC f xs us wt p k o8 o9 b o11 o12 w):=rfl
theorem Ax(a:(k:Int) ∉ us.map (·.1))(c:us.length<1000):bL (KO n) ec6 (wC f xs us wt p k o8 o9 b o11 o12 w)=some (.nx,wC f xs (us++[((k:Int),(xs.length:Int)-1)]) wt p k o8 o9 b o11 o12 w):=nL (ae (GS rfl) rfl rfl rfl rfl) rfl rfl rfl (by rw[aaa];omega) (putK_new a) rfl
theorem GT(d:Gt f k)(h:(k:Int) ∉ us.map (·.1))(i:us.length<1000)(g:nu f k∈w)(e:p-b<=f.r0):av (KO n) aB (wC f xs us wt p k o8 o9 b o11 o12 w)=some (.nx,wC f xs (us++[((k:Int),(xs.length:Int)-1)]) wt p k o8 o9 b o11 o12 w):=by have a:=Aw (n:=n) (xs:=xs) (us:=us) (wt:=wt) (p:=p) (o8:=o8) (o9:=o9) (b:=b) (o11:=o11) (o12:=o12) (w:=w) d;have c:=v5 (n:=n) (f:=f) (xs:=xs) (us:=us) (wt:=wt) (p:=p) (k:=k) (o8:=o8) (o9:=o9) (b:=b) (o11:=o11) (o12:=o12) (w:=w);rw[Dac g]at a;rw[Dac e]at c;exact ab (au (t_andT a c) (ab (Ax h i) rfl)) rfl
theorem GU(e:Gt f k)(h:¬ (nu f k∈w/\p-b<=f.r0)):aM (KO n) eav (wC f xs us wt p k o8 o9 b o11 o12 w)=some (false,wC f xs us wt p k o8 o9 b o11 o12 w):=by
 have a:=Aw (n:=n) (xs:=xs) (us:=us) (wt:=wt) (p:=p) (o8:=o8) (o9:=o9) (b:=b) (o11:=o11) (o12:=o12) (w:=w) e;have d:=v5 (n:=n) (f:=f) (xs:=xs) (us:=us) (wt:=wt) (p:=p) (k:=k) (o8:=o8) (o9:=o9) (b:=b) (o11:=o11) (o12:=o12) (w:=w);by_cases c:nu f k∈w
 ·rw[Dac c]at a;rw[Dab λz=>h ⟨c,z⟩]at d;exact t_andT a d
 ·rw[Dab c]at a;exact bC a
theorem GV(a:Gt f k)(l:(k:Int) ∉ us.map (·.1))(m:us.length<1000)(h:w.length<1000)(i:xs≠[])(d:nu f k ∉ w)(j:p+2-b<=f.r0):av (KO n) aB (wC f xs us [] p k o8 o9 b o11 o12 w)=some (.nx,wC f xs (us++[((k:Int),(xs.length:Int)-1)]) [] (p+2) k o8 o9 b o11 o12 (w++[nu f k])):=by have g:=v7 (n:=n) (f:=f) (xs:=xs) (us:=us) (wt:=[]) (p:=p) (k:=k) (o8:=o8) (o9:=o9) (b:=b) (o11:=o11) (o12:=o12) (w:=w);have c:=qe (n:=n) (xs:=xs) (us:=us) (wt:=[]) (p:=p) (o8:=o8) (o9:=o9) (b:=b) (o11:=o11) (o12:=o12) (w:=w) a;have e:=qf (n:=n) (f:=f) (xs:=xs) (us:=us) (wt:=[]) (p:=p) (k:=k) (o8:=o8) (o9:=o9) (b:=b) (o11:=o11) (o12:=o12) (w:=w);have o:=qc (n:=n) (f:=f) (x3:=.lst xs) (x4:=gD us) (wt:=[]) (p:=p) (o7:=Db k) (o8:=o8) (o9:=o9) (o10:=Db b) (o11:=o11) (o12:=o12) (o13:=Ix w);rw[show xs.isEmpty=false by cases xs with|nil=>exact absurd rfl i|cons _ _=>rfl]at g;rw[Dab d]at c;rw[Dac j]at e;refine ab (s_ifF (GU a λz=>d z.1) (ab (au (t_andT g (t_andT c (t_andT o e))) (ab (br (xs:=w.map It) (ρ3:=wC f xs us [] p k o8 o9 b o11 o12 (w++[nu f k])) rfl (kj rfl rfl a) rfl rfl (by rw[aaa];omega) ?_) (ab (Ax l m) (ab rfl rfl)))) rfl)) rfl;show _=vE f (.lst xs) (gD us) (Wl []) p (Db k) o8 o9 (Db b) o11 o12 (some (Il (w++[nu f k])));rw[bU];rfl
theorem v8(j:Gt f k)(s:wt.length<1000)(m:¬ (nu f k∈w/\p-b<=f.r0))(l:¬ (xs≠[]/\nu f k ∉ w/\wt=[]/\p+2-b<=f.r0)):av (KO n) aB (wC f xs us wt p k o8 o9 b o11 o12 w)=some (.nx,wC f xs us (wt++[((k:Int),p)]) p k o8 o9 b o11 o12 w):=by
 have c:=v7 (n:=n) (f:=f) (xs:=xs) (us:=us) (wt:=wt) (p:=p) (k:=k) (o8:=o8) (o9:=o9) (b:=b) (o11:=o11) (o12:=o12) (w:=w);have d:=qe (n:=n) (xs:=xs) (us:=us) (wt:=wt) (p:=p) (o8:=o8) (o9:=o9) (b:=b) (o11:=o11) (o12:=o12) (w:=w) j;have i:=qf (n:=n) (f:=f) (xs:=xs) (us:=us) (wt:=wt) (p:=p) (k:=k) (o8:=o8) (o9:=o9) (b:=b) (o11:=o11) (o12:=o12) (w:=w);have e:=qc (n:=n) (f:=f) (x3:=.lst xs) (x4:=gD us) (wt:=wt) (p:=p) (o7:=Db k) (o8:=o8) (o9:=o9) (o10:=Db b) (o11:=o11) (o12:=o12) (o13:=Ix w);have o:aM (KO n) ead (wC f xs us wt p k o8 o9 b o11 o12 w)=some (false,wC f xs us wt p k o8 o9 b o11 o12 w):=by
  cases a:xs with
  |nil=>rw[a]at c;exact bC c
  |cons q r=>
   rw[<-a];rw[a]at c;rw[<-a]at c;refine t_andT (ρ1:=wC f xs us wt p k o8 o9 b o11 o12 w) (by rw[a]at c ⊢;exact c) ?_;by_cases g:nu f k∈w
   ·rw[Dac g]at d;exact bC d
   ·rw[Dab g]at d;refine t_andT d ?_;cases h:wt with
    |cons _ _=>rw[h]at e;exact bC e
    |nil=>rw[h]at e i;refine t_andT e ?_;rw[Dab λz=>l ⟨by rw[a];exact List.cons_ne_nil _ _,g,h,z⟩]at i;exact i
 refine ab (s_ifF (GU j m) (ab (s_ifF o (ab (br (xs:=(wt.map Wq).map OD.fz) (z:=.fz (Wq ((k:Int),p))) (ρ2:=wC f xs us wt p k o8 o9 b o11 o12 w) (ρ3:=wC f xs us (wt++[((k:Int),p)]) p k o8 o9 b o11 o12 w) rfl rfl rfl rfl (by rw[aaa,aaa];omega) ?_) rfl)) rfl)) rfl;show _=vE f (.lst xs) (gD us) (Wl (wt++[((k:Int),p)])) p (Db k) o8 o9 (Db b) o11 o12 (Ix w);rw[zo];rfl
end
section
variable{ts:List Tr}{a b m z:OD}
theorem Ay:(OD.lst (ts.map tO++[.lst [a,m,b]])).kids[ts.length]?=some (.lst [a,m,b]):=by
 show (ts.map tO++[.lst [a,m,b]])[ts.length]?=_;have:=abK (l:=ts.map tO) (a:=.lst [a,m,b])
 rwa [aaa]at this
theorem Jr:(OD.lst (ts.map tO++[.lst [a,m,b]])).at [ts.length,1]=some m:=by simp only[OD.at,Ay];rfl
theorem GW:OD.put z [ts.length,1] (.lst (ts.map tO++[.lst [a,m,b]]))=.lst (ts.map tO++[.lst [a,z,b]]):=by simp only[OD.put,Ay,OD.dw];have d:(OD.lst [a,m,b]).kids[1]?=some m:=rfl;simp only[d];have c:(ts.map tO).length=ts.length:=aaa _;rw[acR _ _ (by rw[c];exact aae _),c,aa2];rfl
end
section
variable{n k:Nat}{f:Cf}{ts:List Tr}{o8 o9 o10 o11 o12 o13:Option OD}
abbrev aS:Ss:=match vB with|.cons _ (.cons _ (.cons _ (.cons _ (.cons (.iff _ s _) _))))=>s|_=>.nil
abbrev hO(ts:List Tr)(t:Tr)(u:V):List OD:=ts.map tO++[.lst [It t.1,.hole u,It t.2.2]]
theorem nP(h:∀u,av (KO n) aB (wC f (hO ts t u) us wt p k o8 o9 t.2.2 o11 o12 t.2.1)=some (.nx,wC f (hO ts t u) us' wt' p' k o8 o9 t.2.2 o11 o12 w')):av (KO n) aS (vE f (TO (ts++[t])) (gD us) (Wl wt) p (Db k) o8 o9 o10 o11 o12 o13)=some (.nx,vE f (TO (ts++[(t.1,w',t.2.2)])) (gD us') (Wl wt') p' (Db k) o8 o9 (Db t.2.2) o11 o12 none):=by
 refine Dr (ρ1:=vE f (TO (ts++[t])) (gD us) (Wl wt) p (Db k) o8 o9 o10 o11 o12 o13) ?_ ⟨by decide,by decide,by decide,by show 13<14;decide,by show 10<14;decide⟩ zp rfl Jq rfl λu=>⟨wC f (hO ts t u) us' wt' p' k o8 o9 t.2.2 o11 o12 w',?_,.lst (hO ts t u),Il w',rfl,Jr,rfl,by decide,?_⟩
 ·show some (!((ts++[t]).map tO).isEmpty,_)=_;rw[fH];cases ts.map tO<;>rfl
 ·show av (KO n) aB [Go f.rows,IN f,some (Re f),some (OD.put (.hole u) [ts.length,1] (TO (ts++[t]))),some (gD us),some (Wl wt),Db p,Db k,o8,o9,Db t.2.2,o11,o12,Ix t.2.1]=_;rw[vZ];exact h u
 ·show _=[Go f.rows,IN f,some (Re f),some (OD.put (Il w') [ts.length,1] (.lst (hO ts t u))),some (gD us'),some (Wl wt'),Db p',Db k,o8,o9,Db t.2.2,o11,o12,none];rw[GW,vE,fI]
end
abbrev wF(wt:List (Int×Int)):OD:=.fz (.list (wt.map Wq))
def Gr(f:Cf)(a:Int):Prop:=∃(i:Nat) (r:R),a=i/\f.rows[i]?=some r/\r.gr=true
theorem Ds{f:Cf}{k:Nat}{r:R}(d:f.rows[k]?=some r)(c:r.gr=false):¬ Gr f k:=λ⟨i,q,e,a,b⟩=>by
 have:i=k:=by omega
 subst this;rw[d]at a;cases a;rw[c]at b;cases b
structure Sv (f:Cf)(k c:Nat)(ts:List Tr)(us wt:List (Int×Int)):Prop where
 gt:∀q∈wt,Gt f q.1
 nd:(us.map (·.1)++wt.map (·.1)).Nodup
 lt:∀x∈us.map (·.1)++wt.map (·.1),x<k
 len:us.length+wt.length<=k
 tl:ts.length<=c
 uv:∀u∈us,0<=u.2/\u.2<ts.length
 tg:∀t∈ts,0<=t.1/\t.1<=f.rows.length
 tn:∀t∈ts,t.2.1.length<=k/\True
 al:∀i:Nat,i<k->Gr f i->(i:Int)∈us.map (·.1)++wt.map (·.1)
 ug:∀x∈us.map (·.1)++wt.map (·.1),Gr f x
 um:∀u∈us,∃t,ts[u.2.toNat]?=some t/\nu f u.1∈t.2.1
 ic:ts.Pairwise λx y=>x.1<y.1
 tc:∀t∈ts,t.1<c
 tw:∀t∈ts,t.2.1≠[]/\True
theorem addN_mem{ns:List Int}{x y:Int}:y∈dZ ns x ↔ y∈ns\/y=x:=by
 unfold dZ;split
 ·exact⟨.inl,λh=>h.elim id λe=>e▸‹_›⟩
 ·rw[aai,aaw]
theorem l9{f:Cf}:∀{wt:List (Int×Int)}{ns:List Int},(∀x∈ns,x∈wt.foldl (λns q=>dZ ns (nu f q.1)) ns)/\∀q∈wt,nu f q.1∈wt.foldl (λns q=>dZ ns (nu f q.1)) ns
 |[],ns=>⟨λ_ a=>a,λq e=>absurd e aaq⟩
 |q::wt,ns=>by
  obtain⟨b,c⟩:=l9 (f:=f) (wt:=wt) (ns:=dZ ns (nu f q.1));refine⟨λx a=>b x (addN_mem.mpr (.inl a)),λy d=>?_⟩;rcases aab.mp d with rfl|d
  ·exact b _ (addN_mem.mpr (.inr rfl))
  ·exact c y d
theorem qg{f:Cf}:∀{wt:List (Int×Int)}{ns:List Int},(wt.foldl (λns q=>dZ ns (nu f q.1)) ns).length<=ns.length+wt.length
 |[],ns=>aae _
 |q::wt,ns=>by
  have a:=qg (f:=f) (wt:=wt) (ns:=dZ ns (nu f q.1));have b:(dZ ns (nu f q.1)).length<=ns.length+1:=by
   unfold dZ;split
   ·exact abA _
   ·rw[aad,aay];exact aae _
  rw[List.foldl_cons,aap];omega
section
variable{n k:Nat}{f:Cf}{x3 x4:OD}{ts:List Tr}{us wt:List (Int×Int)}{p:Int}{o7 o8 o9 o10 o11 o12 o13:Option OD}
theorem GX(hk:k<=f.rows.length):∃(d8:Bool) (d:Option OD),bL (KO (n+2)) KC (vE f x3 x4 (Wl wt) p (Db k) (some (.fz (.bool (decide ((k:Int)=f.rows.length))))) o9 o10 o11 o12 o13)=some (.nx,vE f x3 x4 (Wl wt) p (Db k) (some (.fz (.bool d8))) d o10 o11 o12 o13)/\(k=f.rows.length->d8=true):=by
 cases wt with
 |nil=>have b:=nO (n:=n+2) (f:=f) (x3:=x3) (x4:=x4) (wt:=[]) (p:=p) (o7:=Db k) (o8:=some (.fz (.bool (decide ((k:Int)=f.rows.length))))) (o9:=o9) (o10:=o10) (o11:=o11) (o12:=o12) (o13:=o13);exact⟨_,o9,s_ifF (bC b) rfl,λe=>Dac (by rw[e])⟩
 |cons q a=>
  have b:=nO (n:=n+2) (f:=f) (x3:=x3) (x4:=x4) (wt:=q::a) (p:=p) (o7:=Db k) (o8:=some (.fz (.bool (decide ((k:Int)=f.rows.length))))) (o9:=o9) (o10:=o10) (o11:=o11) (o12:=o12) (o13:=o13);by_cases g:(k:Int)=f.rows.length
  ·rw[Dac g]at b ⊢;exact⟨true,o9,s_ifF (t_andT b rfl) rfl,λ_=>rfl⟩
  ·rw[Dab g]at b ⊢;have c:k<f.rows.length:=by omega
   have h:((k:Int)+1)=((k+1:Nat):Int):=by omega
   refine⟨decide (fw f.rows (k+1) (p+sz f k)-q.2>f.r1),Db (fw f.rows (k+1) (p+sz f k)),au (t_andT b rfl) (ab (ah (ρ3:=vE f x3 x4 (Wl (q::a)) p (Db k) (some (.fz (.bool false))) (Db (fw f.rows (k+1) (p+sz f k))) o10 o11 o12 o13) (ag (rs:=[.val (Rl f.rows),.val (It ((k:Int)+1)),.val (It (p+sz f k))]) (ρ3:=vE f x3 x4 (Wl (q::a)) p (Db k) (some (.fz (.bool false))) o9 o10 o11 o12 o13) (aa rfl (aa rfl (aa (ae rfl (ag (ρ3:=vE f x3 x4 (Wl (q::a)) p (Db k) (some (.fz (.bool false))) o9 o10 o11 o12 o13) rfl rfl (j9 (n:=n) (aak c)) rfl) rfl rfl rfl) af))) rfl (by rw[h];exact vX (n:=n+1) c) rfl) rfl rfl rfl) (ab (ah (e_cmp (dx:=.int (fw f.rows (k+1) (p+sz f k)-q.2)) (dy:=.int f.r1) (ae (dy:=.int q.2) rfl (ax (ax (z:=.fz (Wq q)) (ρ3:=vE f x3 x4 (Wl (q::a)) p (Db k) (some (.fz (.bool false))) (Db (fw f.rows (k+1) (p+sz f k))) o10 o11 o12 o13) rfl rfl rfl ?_) rfl rfl (aF rfl)) rfl rfl rfl) (ax rfl rfl rfl (aF rfl)) rfl rfl rfl) rfl rfl rfl) rfl)),λe=>absurd e (by omega)⟩;exact zl (ds:=(q::a).map Wq) rfl atI_zero
abbrev KD:S':=match vB with|.cons _ (.cons _ (.cons s _))=>s|_=>.brk
theorem Du{d8:Bool}(hk:k<=f.rows.length)(U:f.rows.length<=200)(I:Sv f k k ts us wt):∃r s o L w a c,bL (KO (n+1)) KD (vE f (TO ts) (gD us) (Wl wt) p (Db k) (some (.fz (.bool d8))) o9 o10 o11 o12 o13)=some (.nx,vE f (TO r) (gD s) (Wl o) L (Db k) (some (.fz (.bool d8))) o9 w a c o13)/\Sv f k (k+1) r s o/\(d8=true->o=[]):=by
 have v:=nO (n:=n+1) (f:=f) (x3:=TO ts) (x4:=gD us) (wt:=wt) (p:=p) (o7:=Db k) (o8:=some (.fz (.bool d8))) (o9:=o9) (o10:=o10) (o11:=o11) (o12:=o12) (o13:=o13);have T:=I.len;have S:=I.tl;have m:Sv f k (k+1) ts us wt:=⟨I.gt,I.nd,I.lt,I.len,by omega,I.uv,I.tg,I.tn,I.al,I.ug,I.um,I.ic,λt h=>by have:=I.tc t h;omega,I.tw⟩
 cases A:wt.isEmpty with
 |true=>rw[A]at v;exact⟨ts,us,wt,p,o10,o11,o12,s_ifF (bC v) rfl,m,λ_=>abh.mp A⟩
 |false=>
  rw[A]at v;cases d8 with
  |false=>exact⟨ts,us,wt,p,o10,o11,o12,s_ifF (t_andT v rfl) rfl,m,λz=>absurd z aaf⟩
  |true=>
   obtain⟨a,c,e⟩:=v3 (n:=n+1) (f:=f) (x5:=wF wt) (p:=p) (ts:=ts) (o7:=Db k) (o8:=some (.fz (.bool true))) (o9:=o9) (o10:=Db (fw f.rows k p)) (o13:=o13) (b:=fw f.rows k p) (g0:=(k:Int)) (wt:=wt) (us:=us) (ns:=[]) (o11:=o11) (o12:=o12) I.gt I.nd (by omega) (by show 0+_<_;omega);have D:=qg (f:=f) (wt:=wt) (ns:=[]);rw[abn]at D;obtain⟨_,l⟩:=l9 (f:=f) (wt:=wt) (ns:=[]);generalize hns:wt.foldl (λns q=>dZ ns (nu f q.1)) []=ns at e D l;have H:bL (KO (n+1)) ebq (vE f (TO ts) (gD us) (Wl wt) p (Db k) (some (.fz (.bool true))) o9 o10 o11 o12 o13)=some (.nx,vE f (TO ts) (gD us) (Wl wt) p (Db k) (some (.fz (.bool true))) o9 (Db (fw f.rows k p)) o11 o12 o13):=ah (ag (ρ3:=vE f (TO ts) (gD us) (Wl wt) p (Db k) (some (.fz (.bool true))) o9 o10 o11 o12 o13) rfl rfl (vX (n:=n) hk) rfl) rfl rfl rfl;have O:bL (KO (n+1)) ebr (vE f (TO ts) (gD us) (Wl wt) p (Db k) (some (.fz (.bool true))) o9 (Db (fw f.rows k p)) o11 o12 o13)=some (.nx,vE f (TO (ts++[((k:Int),[],fw f.rows k p)])) (gD us) (Wl wt) p (Db k) (some (.fz (.bool true))) o9 (Db (fw f.rows k p)) o11 o12 o13):=br (z:=tO ((k:Int),[],fw f.rows k p)) (xs:=ts.map tO) (ρ2:=vE f (TO ts) (gD us) (Wl wt) p (Db k) (some (.fz (.bool true))) o9 (Db (fw f.rows k p)) o11 o12 o13) rfl rfl rfl rfl (by rw[aaa];omega) (by rw[vE,fI];rfl);have M:bL (KO (n+1)) ebn (vE f (TO (ts++[((k:Int),ns,fw f.rows k p)])) (gD (us++wt.map λq=>(q.1,(ts.length:Int)))) (Wl []) p (Db k) (some (.fz (.bool true))) o9 (Db (fw f.rows k p)) a c o13)=some (.nx,vE f (TO (ts++[((k:Int),ns,fw f.rows k p)])) (gD (us++wt.map λq=>(q.1,(ts.length:Int)))) (Wl []) (fw f.rows k p+2*(ns.length:Int)) (Db k) (some (.fz (.bool true))) o9 (Db (fw f.rows k p)) a c o13):=ah (ae rfl (ae (d:=.int (2*(ns.length:Int))) rfl (Ja zp (aK ns) Af) rfl rfl (cv (.inl (by decide)))) rfl rfl rfl) rfl rfl rfl;have i:(us++wt.map λq=>(q.1,(ts.length:Int))).map (·.1)=us.map (·.1)++wt.map (·.1):=by rw[aas,aaL];rfl
   refine⟨ts++[((k:Int),ns,fw f.rows k p)],us++wt.map λq=>(q.1,(ts.length:Int)),[],fw f.rows k p+2*(ns.length:Int),Db (fw f.rows k p),a,c,au (t_andT v rfl) (ab H (ab O (ab (cp (ρ1:=vE f (TO (ts++[((k:Int),[],fw f.rows k p)])) (gD us) (wF wt) p (Db k) (some (.fz (.bool true))) o9 (Db (fw f.rows k p)) o11 o12 o13) (bt rfl (bD rfl (nN _) rfl) rfl) e) (ab (ρ1:=vE f (TO (ts++[((k:Int),ns,fw f.rows k p)])) (gD (us++wt.map λq=>(q.1,(ts.length:Int)))) (Wl []) p (Db k) (some (.fz (.bool true))) o9 (Db (fw f.rows k p)) a c o13) rfl (ab M rfl))))),⟨λq B=>absurd B aaq,?_,?_,?_,?_,?_,?_,?_,?_,?_,?_,?_,?_,?_⟩,λ_=>rfl⟩
   ·rw[i,aaA,aam];exact I.nd
   ·rw[i,aaA,aam];exact I.lt
   ·rw[aad,aaa,abn];omega
   ·rw[aad,aay];omega
   ·intro u j;rw[aad,aay];rcases aai.mp j with j|j
    ·have:=I.uv u j;omega
    ·obtain⟨q,_,rfl⟩:=aav.mp j;show 0<=(ts.length:Int)/\(ts.length:Int)<_;omega
   ·intro t g;rcases aai.mp g with h|h
    ·exact I.tg t h
    ·rw[aaw.mp h];show 0<=(k:Int)/\(k:Int)<=_;omega
   ·intro t g;rcases aai.mp g with h|h
    ·exact I.tn t h
    ·rw[aaw.mp h];exact⟨by show ns.length<=k;omega,trivial⟩
   ·rw[i,aaA,aam];exact I.al
   ·rw[i,aaA,aam];exact I.ug
   ·intro u j;rcases aai.mp j with j|j
    ·obtain⟨t,G,J⟩:=I.um u j;exact⟨t,by rw[aaX (aan.mp G).1];exact G,J⟩
    ·obtain⟨q,B,rfl⟩:=aav.mp j;exact⟨((k:Int),ns,fw f.rows k p),by show (ts++[_])[((ts.length:Nat):Int).toNat]?=_;rw[aaJ,aaO (aae _),aa2];rfl,l q B⟩
   ·exact abt.mpr ⟨I.ic,aa0.mpr ⟨λy C=>absurd C aaq,List.Pairwise.nil⟩,λx N y C=>by rw[aaw.mp C];exact I.tc x N⟩
   ·intro t g;rcases aai.mp g with h|h
    ·have:=I.tc t h;omega
    ·rw[aaw.mp h];show (k:Int)<((k+1:Nat):Int);omega
   ·intro t g;rcases aai.mp g with h|h
    ·exact I.tw t h
    ·rw[aaw.mp h];refine⟨λQ=>?_,trivial⟩;cases wt with
     |nil=>cases A
     |cons q wt=>have:=l q aaj;rw[show ns=[] from Q]at this;exact absurd this aaq
end
section
variable{n k:Nat}{f:Cf}{ts:List Tr}{us wt:List (Int×Int)}{p:Int}{o7 o8 o9 o10 o11 o12 o13:Option OD}
theorem Sv.fresh(I:Sv f k (k+1) ts us wt):(k:Int) ∉ us.map (·.1)/\(k:Int) ∉ wt.map (·.1):=⟨λh=>by have:=I.lt k (aah _ h);omega,λh=>by have:=I.lt k (aag _ h);omega⟩
theorem Sv.up(I:Sv f k (k+1) ts us wt)(b:¬ Gr f k):Sv f (k+1) (k+1) ts us wt:=⟨I.gt,I.nd,λx a=>by have:=I.lt x a;omega,by have:=I.len;omega,I.tl,I.uv,I.tg,λt h=>⟨by have:=(I.tn t h).1;omega,(I.tn t h).2⟩,λi c G=>by
  by_cases e:i=k
  ·subst e;exact absurd G b
  ·exact I.al i (by omega) G,I.ug,I.um,I.ic,I.tc,I.tw⟩
theorem Sv.use{a:List Tr}(I:Sv f k (k+1) ts us wt){v:Int}(H:a.length=ts.length)(hv:0<=v/\v<ts.length)(L:∀t∈a,0<=t.1/\t.1<=f.rows.length)(m:∀t∈a,t.2.1.length<=k+1/\True)(B:Gr f k)(D:∀(j:Nat) (t:Tr),ts[j]?=some t->∃t':Tr,a[j]?=some t'/\∀x∈t.2.1,x∈t'.2.1)(C:∃t:Tr,a[v.toNat]?=some t/\nu f k∈t.2.1)(g:a.map (·.1)=ts.map (·.1))(o:∀t∈a,t.2.1≠[]/\True):Sv f (k+1) (k+1) a (us++[((k:Int),v)]) wt:=by
 obtain⟨r,s⟩:=I.fresh;have O:=I.tl;have Q:=I.len;have b:((us++[((k:Int),v)]).map (·.1)++wt.map (·.1)).Perm ((k:Int)::(us.map (·.1)++wt.map (·.1))):=by rw[aas,aac];exact aaz
 refine⟨I.gt,b.nodup_iff.mpr (aaE.mpr ⟨λh=>(aai.mp h).elim r s,I.nd⟩),λx d=>?_,by rw[aad,aay];omega,by omega,λu c=>?_,L,m,λi N G=>?_,λu c=>?_,λu c=>?_,?_,?_,o⟩
 ·rcases aab.mp (b.mem_iff.mp d) with rfl|d
  ·omega
  ·have:=I.lt x d;omega
 ·rw[H];rcases aai.mp c with c|c
  ·exact I.uv u c
  ·rw[aaw.mp c];exact hv
 ·refine b.mem_iff.mpr ?_;by_cases e:i=k
  ·subst e;exact aaj
  ·exact aal _ (I.al i (by omega) G)
 ·rcases aab.mp (b.mem_iff.mp c) with rfl|d
  ·exact B
  ·exact I.ug u d
 ·rcases aai.mp c with c|c
  ·obtain⟨t,l,z⟩:=I.um u c;obtain⟨t',A,q⟩:=D _ t l;exact⟨t',A,q _ z⟩
  ·rw[aaw.mp c];exact C
 ·have:=I.ic;rw[<-acq (f:=λt:Tr=>t.1) (R:=λx y=>x<y)]at this ⊢;rw[g];exact this
 ·intro t M;have:t.1∈ts.map (·.1):=by rw[<-g];exact aav.mpr ⟨t,M,rfl⟩
  obtain⟨J,w,e⟩:=aav.mp this;rw[<-e];exact I.tc J w
theorem Sv.wait(I:Sv f k (k+1) ts us wt)(g:Gt f k)(j:Gr f k):Sv f (k+1) (k+1) ts us (wt++[((k:Int),p)]):=by
 obtain⟨l,d⟩:=I.fresh;have m:=I.len;have a:(us.map (·.1)++(wt++[((k:Int),p)]).map (·.1)).Perm ((k:Int)::(us.map (·.1)++wt.map (·.1))):=by rw[aas,<-aac];exact aaY
 refine⟨λq c=>?_,a.nodup_iff.mpr (aaE.mpr ⟨λh=>(aai.mp h).elim l d,I.nd⟩),λx b=>?_,by rw[aad,aay];omega,I.tl,I.uv,I.tg,λt h=>⟨by have:=(I.tn t h).1;omega,(I.tn t h).2⟩,λi o G=>a.mem_iff.mpr (by
  by_cases e:i=k
  ·subst e;exact aaj
  ·exact aal _ (I.al i (by omega) G)),λx b=>(by
  rcases aab.mp (a.mem_iff.mp b) with rfl|b
  ·exact j
  ·exact I.ug x b),I.um,I.ic,I.tc,I.tw⟩
 ·rcases aai.mp c with c|c
  ·exact I.gt q c
  ·rw[aaw.mp c];exact g
 ·rcases aab.mp (a.mem_iff.mp b) with rfl|b
  ·omega
  ·have:=I.lt x b;omega
theorem Dv{r:R}(hN:f.rows.length<=200)(H:f.rows[k]?=some r)(O:r.gr=true)(I:Sv f k (k+1) ts us wt):∃q s l U C v,av (KO n) aS (vE f (TO ts) (gD us) (Wl wt) p (Db k) o8 o9 o10 o11 o12 o13)=some (.nx,vE f (TO q) (gD s) (Wl l) U (Db k) o8 o9 C o11 o12 v)/\Sv f (k+1) (k+1) q s l:=by
 have X:k<f.rows.length:=(aan.mp H).1;have i:Gt f k:=by obtain⟨x,y,rfl⟩:=gr_st O;exact⟨k,x,y,rfl,H⟩
 have D:Gr f k:=⟨k,r,rfl,H,O⟩
 have il:=I.len;obtain⟨N,Z⟩:=I.fresh;rcases List.eq_nil_or_concat ts with e|⟨a,t,e⟩
 ·subst e;exact⟨[],us,wt++[((k:Int),p)],p,Db 0,some (Il []),Dq (ρ1:=vE f (TO []) (gD us) (Wl wt) p (Db k) o8 o9 o10 o11 o12 o13) rfl ⟨by decide,by decide,by decide,by show 13<14;decide,by show 10<14;decide⟩ (v8 (xs:=[]) (w:=[]) (b:=0) i (by omega) (λz=>absurd z.1 aaq) λz=>z.1 rfl),I.wait i D⟩
 ·rw[List.concat_eq_append]at e;subst e;have Y:=(I.tn t (aag _ aaj)).1;have J:t.2.1.length<1000:=by omega
  have g:∀u,((hO a t u).length:Int)-1=(a.length:Int):=λu=>by rw[aad,aaa,aay];omega
  have L:∀u,hO a t u≠[]:=λu=>by simp
  have m:∀{d:Tr},(a++[d]).length=(a++[t]).length:=λ{d}=>by rw[aad,aad];rfl
  have Q:0<=(a.length:Int)/\(a.length:Int)<(a++[t]).length:=by rw[aad,aay];omega
  by_cases G:nu f k∈t.2.1/\p-t.2.2<=f.r0
  ·refine⟨a++[(t.1,t.2.1,t.2.2)],us++[((k:Int),(a.length:Int))],wt,p,Db t.2.2,none,nP λu=>?_,I.use m Q I.tg (λd c=>⟨by have:=(I.tn d c).1;omega,trivial⟩) D (λj d h=>⟨d,h,λ_ B=>B⟩) ⟨t,by rw[aaJ,aaO (aae _),aa2];rfl,G.1⟩ rfl I.tw⟩;have:=GT (n:=n) (xs:=hO a t u) (us:=us) (wt:=wt) (p:=p) (o8:=o8) (o9:=o9) (b:=t.2.2) (o11:=o11) (o12:=o12) (w:=t.2.1) i N (by omega) G.1 G.2;rw[g u]at this;exact this
  ·by_cases M:nu f k ∉ t.2.1/\wt=[]/\p+2-t.2.2<=f.r0
   ·obtain⟨S,rfl,T⟩:=M;refine⟨a++[(t.1,t.2.1++[nu f k],t.2.2)],us++[((k:Int),(a.length:Int))],[],p+2,Db t.2.2,none,nP λu=>?_,I.use m Q (λd c=>?_) (λd c=>?_) D (λj d h=>?_) ⟨(t.1,t.2.1++[nu f k],t.2.2),by rw[aaJ,aaO (aae _),aa2];rfl,aag _ aaj⟩ (by rw[aas,aas];rfl) λd c=>?_⟩
    ·have:=GV (n:=n) (xs:=hO a t u) (us:=us) (p:=p) (o8:=o8) (o9:=o9) (b:=t.2.2) (o11:=o11) (o12:=o12) (w:=t.2.1) i N (by omega) J (L u) S T;rw[g u]at this;exact this
    ·rcases aai.mp c with c|c
     ·exact I.tg d (aah _ c)
     ·rw[aaw.mp c];exact I.tg t (aag _ aaj)
    ·rcases aai.mp c with c|c
     ·have:=(I.tn d (aah _ c)).1;exact⟨by omega,trivial⟩
     ·rw[aaw.mp c];exact⟨by show (t.2.1++[nu f k]).length<=_;rw[aad,aay];omega,trivial⟩
    ·rcases Nat.lt_or_ge j a.length with o|o
     ·rw[aaX o]at h;exact⟨d,by rw[aaX o];exact h,λ_ B=>B⟩
     ·rw[aaO o]at h;have A:j-a.length=0:=by have:=(aan.mp h).1;rw[aay]at this;omega
      rw[A]at h;cases h;exact⟨(t.1,t.2.1++[nu f k],t.2.2),by rw[aaO o,A];rfl,λx B=>aah _ B⟩
    ·rcases aai.mp c with c|c
     ·exact I.tw d (aah _ c)
     ·rw[aaw.mp c];exact⟨by simp,trivial⟩
   ·exact⟨a++[(t.1,t.2.1,t.2.2)],us,wt++[((k:Int),p)],p,Db t.2.2,none,nP λu=>v8 (xs:=hO a t u) i (by omega) G λz=>M z.2,I.wait i D⟩
abbrev vT:Ss:=match vB with|.cons _ (.cons _ (.cons _ t))=>t|_=>.nil
abbrev vS(n:Nat):PyData->DEnv->Option (Fl×DEnv):=λd ρ'=>(aW (.nm 7) (.fz d) ρ').bind λρ1=>av (KO n) vB ρ1
theorem v9(v:f.rows.length<=200)(hk:k<=f.rows.length)(I:Sv f k k ts us wt):∃g i a q o j c b d,Sv f k (k+1) g i a/\(k=f.rows.length->a=[])/\∀r,av (KO (n+2)) vT (vE f (TO g) (gD i) (Wl a) q (Db k) o j c b d o13)=r->vS (n+2) (.int k) (vE f (TO ts) (gD us) (Wl wt) p o7 o8 o9 o10 o11 o12 o13)=r:=by obtain⟨d8,j,t,l⟩:=GX (n:=n) (f:=f) (x3:=TO ts) (x4:=gD us) (wt:=wt) (p:=p) (o9:=o9) (o10:=o10) (o11:=o11) (o12:=o12) (o13:=o13) hk;obtain⟨g,i,a,q,c,b,d,u,s,m⟩:=Du (n:=n+1) (f:=f) (p:=p) (d8:=d8) (o9:=j) (o10:=o10) (o11:=o11) (o12:=o12) (o13:=o13) hk v I;refine⟨g,i,a,q,some (.fz (.bool d8)),j,c,b,d,s,λe=>m (l e),λr h=>?_⟩;exact bs (x:=vE f (TO ts) (gD us) (Wl wt) p (Db k) o8 o9 o10 o11 o12 o13) rfl (ab (ah (ρ3:=vE f (TO ts) (gD us) (Wl wt) p (Db k) (some (.fz (.bool (decide ((k:Int)=f.rows.length))))) o9 o10 o11 o12 o13) vY rfl rfl rfl) (ab t (ab u h)))
theorem Dw(x:f.rows.length<=200)(I:Sv f f.rows.length f.rows.length ts us wt):∃b c a i w v y j l o m,vS (n+2) (.int f.rows.length) (vE f (TO ts) (gD us) (Wl wt) p o7 o8 o9 o10 o11 o12 o13)=some (.bk,vE f (TO b) (gD c) (Wl a) i w v y j l o m)/\Sv f f.rows.length (f.rows.length+1) b c a/\a=[]:=by obtain⟨b,c,a,i,r,s,e,d,g,u,q,h⟩:=v9 (n:=n) (f:=f) (p:=p) (o7:=o7) (o8:=o8) (o9:=o9) (o10:=o10) (o11:=o11) (o12:=o12) (o13:=o13) x (aae _) I;have t:aM (KO (n+2)) ecl (vE f (TO b) (gD c) (Wl a) i (Db f.rows.length) r s e d g o13)=some (decide ((f.rows.length:Int)=f.rows.length),_):=aj vY;rw[Dac rfl]at t;exact⟨b,c,a,i,_,_,_,_,_,_,_,h _ (bs (au t rfl) rfl),u,q rfl⟩
theorem Dx(L:f.rows.length<=200)(hk:k<f.rows.length)(I:Sv f k k ts us wt):∃d g c r Q O S z A C B,vS (n+2) (.int k) (vE f (TO ts) (gD us) (Wl wt) p o7 o8 o9 o10 o11 o12 o13)=some (.nx,vE f (TO d) (gD g) (Wl c) r Q O S z A C B)/\Sv f (k+1) (k+1) d g c:=by
 obtain⟨d,g,c,r,i,j,l,a,b,J,_,h⟩:=v9 (n:=n) (f:=f) (p:=p) (o7:=o7) (o8:=o8) (o9:=o9) (o10:=o10) (o11:=o11) (o12:=o12) (o13:=o13) L (aaR hk) I;have u:f.rows[k]?=some f.rows[k]:=aak hk;have H:aM (KO (n+2)) ecl (vE f (TO d) (gD g) (Wl c) r (Db k) i j l a b o13)=some (decide ((k:Int)=f.rows.length),_):=aj vY;rw[Dab (by omega)]at H;have x:aM (KO (n+2)) ec5 (vE f (TO d) (gD g) (Wl c) r (Db k) i j l a b o13)=some ((f.rows[k]).gr,vE f (TO d) (gD g) (Wl c) r (Db k) i j l a b o13):=bq (ag (ρ3:=vE f (TO d) (gD g) (Wl c) r (Db k) i j l a b o13) (aa (ax rfl rfl rfl (bw (cV u))) af) rfl (pF (n:=n+1) (f.rows[k])) rfl);have s:∀{v w y:OD}{q:Int}{o m:Option OD},bL (KO (n+2)) ebd (vE f v w y q (Db k) i j o a b m)=some (.nx,vE f v w y (q+sz f k) (Db k) i j o a b m):=λ{v w y q o m}=>ah (ae rfl (ag (ρ3:=vE f v w y q (Db k) i j o a b m) rfl rfl (j9 (n:=n) u) rfl) rfl rfl rfl) rfl rfl rfl;cases t:(f.rows[k]).gr with
 |false=>rw[t]at x;exact⟨d,g,c,_,_,_,_,_,_,_,_,h _ (ab (s_ifF H rfl) (ab (s_ifF x rfl) (ab s rfl))),J.up (Ds u t)⟩
 |true=>rw[t]at x;obtain⟨N,D,G,T,o,m,e,M⟩:=Dv (n:=n+2) (p:=r) (o8:=i) (o9:=j) (o10:=l) (o11:=a) (o12:=b) (o13:=o13) L u t J;exact⟨N,D,G,_,_,_,_,_,_,_,_,h _ (ab (s_ifF H rfl) (ab (au x e) (ab s rfl))),M⟩
end
theorem v_all{n:Nat}{f:Cf}(A:f.rows.length<=200):∀{m k:Nat}{ts:List Tr}{us wt:List (Int×Int)}{p:Int}{o7 o8 o9 o10 o11 o12 o13:Option OD},k+m=f.rows.length->Sv f k k ts us wt->∃d i a o r l q b c j g,bh (vS (n+2)) (bP k (m+1)) (vE f (TO ts) (gD us) (Wl wt) p o7 o8 o9 o10 o11 o12 o13)=some (.nx,vE f (TO d) (gD i) (Wl a) o r l q b c j g)/\Sv f f.rows.length (f.rows.length+1) d i a/\a=[]
 |0,k,ts,us,wt,p,o7,o8,o9,o10,o11,o12,o13,h,I=>by
  obtain rfl:k=f.rows.length:=by omega
  obtain⟨d,i,a,o,r,l,q,b,c,j,g,e,s⟩:=Dw (n:=n) (p:=p) (o7:=o7) (o8:=o8) (o9:=o9) (o10:=o10) (o11:=o11) (o12:=o12) (o13:=o13) A I;exact⟨d,i,a,o,r,l,q,b,c,j,g,by rw[aT];exact bs e rfl,s⟩
 |m+1,k,ts,us,wt,p,o7,o8,o9,o10,o11,o12,o13,h,I=>by obtain⟨d,i,a,o,r,l,q,b,c,j,g,e,s⟩:=Dx (n:=n) (p:=p) (o7:=o7) (o8:=o8) (o9:=o9) (o10:=o10) (o11:=o11) (o12:=o12) (o13:=o13) A (by omega) I;obtain⟨x,v,z,H,J,D,G,y,t,w,u,B,C⟩:=v_all (n:=n) A (m:=m) (k:=k+1) (p:=o) (o7:=r) (o8:=l) (o9:=q) (o10:=b) (o11:=c) (o12:=j) (o13:=g) (by omega) s;exact⟨x,v,z,H,J,D,G,y,t,w,u,by rw[aT];exact bs e B,C⟩
abbrev tD(t:Tr):PyData:=.list [.int t.1,.list (t.2.1.map PyData.int),.int t.2.2]
theorem qh:∀ts:List Tr,OD.dv (ts.map tO)=some (ts.map tD)
 |[]=>rfl
 |t::ts=>by
  have e:(tO t).dat=some (tD t):=by simp only[tO,OD.dat,OD.dv,dats_Il1]
  rw[aao,OD.dv,e,qh ts];rfl
where dats_Il1 {w:List Int}:OD.dv (w.map It)=some (w.map PyData.int):=by rw[<-cB,dats_fz]
theorem Dy(ts:List Tr):(TO ts).dat=some (.list (ts.map tD)):=by rw[TO,OD.dat,qh]
theorem qi{C:Ct}:∀{ts:List Tr}{out:List PyData}{o0 o1 o2:Option OD},∃a,bH (bK C (.tp [0,1,2]) .none (.tup JY)) (ts.map tD) out [o0,o1,o2]=some (out++(ts.map λt=>Po (t.1,t.2.1)),a)
 |[],out,o0,o1,o2=>⟨[o0,o1,o2],by simp only[aaA,aam];rfl⟩
 |t::ts,out,o0,o1,o2=>by obtain⟨a,e⟩:=qi (C:=C) (ts:=ts) (out:=out++[Po (t.1,t.2.1)]) (o0:=Db t.1) (o1:=some (.fz (.list (t.2.1.map PyData.int)))) (o2:=Db t.2.2);refine⟨a,bs (x:=([Po (t.1,t.2.1)],[Db t.1,some (.fz (.list (t.2.1.map PyData.int))),Db t.2.2])) (vk rfl (bc (z:=.fz (Po (t.1,t.2.1))) (aa rfl (aa (jZ rfl rfl) af)) rfl rfl rfl) rfl) ?_⟩;rw[aac]at e;exact e
theorem mf:∀us:List (Int×Int),k8 (us.map λu=>(Sum.inl u.1:Key))=some (us.map (·.1))
 |[]=>rfl
 |u::us=>bs (mf us) rfl
theorem GY{C:Ct}{ρ:DEnv}{i:Nat}{ks:List Key}{xs:List OD}{ns a:List Int}(h:ρ[i]?.join=some (.dic ks xs))(hk:k8 ks=some ns)(c:ns.length<64)(b:sortI ns=a):ev C (.sdd i) ρ=some (.val (Il a),ρ):=bs h (bs rfl (bs hk (bg c (by rw[b]))))
theorem mj{C:Ct}{us:List (Int×Int)}(f:(us.map (·.1)).Nodup):∀{xs:List Int}{out:List PyData}{o:Option OD},(∀x∈xs,x∈us.map (·.1))->∃(vs:List Int) (b:Option OD),bH (bK C (.nm 0) .none (.pg 1 [.key 0])) (xs.map PyData.int) out [o,some (gD us)]=some (out++vs.map PyData.int,[b,some (gD us)])/\vs.length=xs.length/\∀z∈xs.zip vs,z∈us
 |[],out,o,_=>⟨[],o,by simp only[aaA,aam];rfl,rfl,λz j=>absurd j aaq⟩
 |x::xs,out,o,h=>by
  obtain⟨v,hv,e⟩:=aav.mp (h x aaj);obtain⟨i,d⟩:=acO hv;have e:v.1=x:=e;subst e;obtain⟨vs,b,c,l,g⟩:=mj (C:=C) f (xs:=xs) (out:=out++[.int v.2]) (o:=Db v.1) λy m=>h y (aal _ m);have k:aL [Db v.1,some (gD us)] 1 [.key 0]=some (gD us,[i],It v.2):=bs (x:=(gD us,[],gD us)) rfl (bs (x:=i) (find_key f d) (bs (x:=It v.2) (by show (us.map λu=>It u.2)[i]?=_;rw[aau,d];rfl) rfl));refine⟨v.2::vs,b,bs (x:=([.int v.2],[Db v.1,some (gD us)])) (vk rfl (CT k rfl) rfl) ?_,by rw[aap,aap,l],λw a=>?_⟩
  ·rw[aac]at c;exact c
  ·rw[abp]at a;rcases aab.mp a with rfl|a
   ·exact hv
   ·exact g w a
theorem km:∀{rs:List R}{i:Int},(gIx i rs).Pairwise (·<=·)
 |[],i=>List.Pairwise.nil
 |r::rs,i=>by
  rw[gIx];split
  ·refine aa0.mpr ⟨λa b=>?_,km⟩;obtain⟨j,q,e,_⟩:=gIx_mem b;omega
  ·exact km
theorem Dz{n:Nat}{f:Cf}(hn:Nb f.rows)(hN:f.rows.length<=60):∃(qs:Pz) (vs:List Int),pl.pg.call (n+3) 25 [Rl f.rows,Lo f,Re f]=some (.tup [.lst ((qs.map Po).map OD.fz),Il vs],[Rl f.rows,Lo f,Re f])/\qs.length<=61/\Qok f qs/\Uok f qs vs:=by
 obtain⟨ts,us,wt,p,B,y,A,c,d,l,g,e,I,hw⟩:=v_all (n:=n) (f:=f) (by omega) (m:=f.rows.length) (k:=0) (ts:=[]) (us:=[]) (wt:=[]) (p:=0) (o7:=none) (o8:=none) (o9:=none) (o10:=none) (o11:=none) (o12:=none) (o13:=none) (aaZ _) ⟨λq h=>absurd h aaq,aa7,λx h=>absurd h aaq,aae _,aae _,λu h=>absurd h aaq,λt h=>absurd h aaq,λt h=>absurd h aaq,λi h=>absurd h (Nat.not_lt_zero _),λx h=>absurd h aaq,λu h=>absurd h aaq,List.Pairwise.nil,λt h=>absurd h aaq,λt h=>absurd h aaq⟩;have il:=I.len;have tl:=I.tl;have X:(us.map (·.1)).Nodup:=(aaD.mp I.nd).1;obtain⟨s,H⟩:∃s,s=sortI (us.map (·.1)):=⟨_,rfl⟩
 have N:s.Perm (us.map (·.1)):=by rw[H];exact sortI_perm _
 have ml:s.length=us.length:=by rw[N.length_eq,aaa]
 obtain⟨ρ1,D⟩:=qi (C:=KO (n+2)) (ts:=ts) (out:=[]) (o0:=none) (o1:=none) (o2:=none);obtain⟨vs,o2,J,M,G⟩:=mj (C:=KO (n+2)) (us:=us) X (xs:=s) (out:=[]) (o:=none) λx hx=>N.mem_iff.mp hx;rw[aaB]at D J;obtain⟨qs,w⟩:∃qs:Pz,qs=ts.map λt=>(t.1,t.2.1):=⟨_,rfl⟩
 have hq:(ts.map λt=>Po (t.1,t.2.1))=qs.map Po:=by rw[w,aaL];rfl
 have ql:qs.length=ts.length:=by rw[w,aaa]
 rw[hq]at D;have hl:(((f.rows.length:Nat):Int)+1).toNat=f.rows.length+1:=by omega
 have Y:bL (KO (n+2)) (.asg (.tp [3,4,5,6]) (.tup (.cons (.lst .nil) (.cons .dnew ede)))) (bQ 14 [Rl f.rows,Lo f,Re f])=some (.nx,vE f (TO []) (gD []) (Wl []) 0 none none none none none none none):=rfl;have a1:ev (KO (n+2)) ea3 (vE f (TO ts) (gD us) (Wl wt) p B y A c d l g)=some (.val (.lst ((qs.map Po).map OD.fz)),vE f (.fz (.list (ts.map tD))) (gD us) (Wl wt) p B y A c d l g):=bj (ρ2:=vE f (.fz (.list (ts.map tD))) (gD us) (Wl wt) p B y A c d l g) (bt rfl (bD rfl (Dy _) rfl) rfl) (by rw[aaa];omega) rfl D unca_nil;have Z:ev (KO (n+2)) eb4 (vE f (.fz (.list (ts.map tD))) (gD us) (Wl wt) p B y A c d l g)=some (.val (Il vs),vE f (.fz (.list (ts.map tD))) (gD us) (Wl wt) p B y A c d l g):=by have hd:ev (KO (n+2)) (.sdd 4) (vE f (.fz (.list (ts.map tD))) (gD us) (Wl wt) p B y A c d l g)=some (.val (Il s),vE f (.fz (.list (ts.map tD))) (gD us) (Wl wt) p B y A c d l g):=GY rfl (mf us) (by rw[aaa];omega) H.symm;have:=bj (C:=KO (n+2)) (nt:=1) (fr:=[4]) (it:=.seq (.sdd 4)) (ρ:=vE f (.fz (.list (ts.map tD))) (gD us) (Wl wt) p B y A c d l g) (ρ2:=vE f (.fz (.list (ts.map tD))) (gD us) (Wl wt) p B y A c d l g) (bt (ds:=s.map PyData.int) hd (show frz1 _ (.val (Il s))=some (.list (s.map PyData.int),_) by show ((Il s).dat).map _=_;rw[aK];rfl) rfl) (by rw[aaa];omega) (zc:=([some (gD us)],[Go f.rows,IN f,some (Re f),some (.fz (.list (ts.map tD))),none,some (Wl wt),Db p,B,y,A,c,d,l,g])) rfl J rfl;rw[cB]at this;exact this
 refine⟨qs,vs,ak (fn:=F_late_plan) rfl rfl (ab Y (ab (cp (ρ1:=vE f (TO []) (gD []) (Wl []) 0 none none none none none none none) (dM (n:=(f.rows.length:Int)+1) (ae (dx:=.int f.rows.length) (dy:=.int 1) (aE rfl rfl blen) rfl rfl rfl rfl) rfl (by omega)) (by rw[hl];exact e)) (ar (ai (z:=.tup [.lst ((qs.map Po).map OD.fz),Il vs]) (bc (zs:=[.lst ((qs.map Po).map OD.fz),Il vs]) (aa a1 (aa Z af)) rfl rfl rfl) rfl)))) rfl,by omega,⟨λq L=>?_,?_⟩,?_⟩
 ·rw[w]at L;obtain⟨t,O,rfl⟩:=aav.mp L;have hk:=(I.tn t O).1;exact⟨(I.tg t O).1,(I.tg t O).2,acQ.mpr (I.tw t O).1,by show t.2.1.length<=100;omega⟩
 ·rw[w];exact acq.mpr I.ic
 ·have hg:s=gIx 0 f.rows:=by
   refine List.Perm.eq_of_pairwise (le:=(·<=·)) (λa b _ _ T Q=>Int.le_antisymm T Q) (by rw[H];exact cM _) km ?_;refine(List.perm_ext_iff_of_nodup (N.nodup_iff.mpr X) gIx_nodup).mpr λa=>?_;rw[N.mem_iff];constructor
   ·intro h;obtain⟨i,r,D,J,U⟩:=I.ug a (aah _ h);rw[D];exact aaI (gIx_at J U)
   ·intro h;obtain⟨j,r,D,J,U⟩:=gIx_mem h;rw[abJ]at D;have:=I.al j (aan.mp J).1 ⟨j,r,rfl,J,U⟩;rw[hw,aaA,aam]at this;rw[D];exact this
  rw[hg]at M G;refine⟨M,λv hv=>?_,λz S=>?_⟩
  ·obtain⟨i,hi,e0⟩:=acC hv;have S:((gIx 0 f.rows)[i]'(by omega),vs[i])∈(gIx 0 f.rows).zip vs:=aaI (i:=i) (abS.mpr ⟨aak _,aak hi⟩);have:=I.uv _ (G _ S);rw[<-e0,ql];exact this
  ·obtain⟨t,T,Q⟩:=I.um z (G z S);have h3:qs[z.2.toNat]?=some (t.1,t.2.1):=by rw[w,aau,T];rfl
   unfold lW;rw[h3];exact Dac Q
theorem zq{n m:Nat}{a b c:Int}(h:TpOk b c m)(f:m<=900000):∃r0 r1 Q L J,pl.pg.call (n+2) 20 [Tp a b c]=some (.fz (.tuple [.int r0,.int r1]),[Tp Q L J])/\TpOk L J (m+8):=by obtain⟨d,D,b1,c1,e1,c0,O,M⟩:=aw (n:=n) (a:=a) (many:=2) h (up (k:=0) f rfl) (by decide) (by decide);obtain⟨e,p,y,H,e2,d3,d0,t2⟩:=aw (n:=n) (a:=D) (many:=4990) M (up (k:=1) f rfl) (by decide) (by decide);obtain⟨I,u,T,c3,e3,b0,d1,t3⟩:=aw (n:=n) (a:=p) (many:=12) t2 (up (k:=2) f rfl) (by decide) (by decide);obtain⟨C,s,N,c4,e4,d2,a0,t4⟩:=aw (n:=n) (a:=u) (many:=80) t3 (up (k:=3) f rfl) (by decide) (by decide);obtain⟨x5,o,t,z,e5,l,j,t5⟩:=aw (n:=n) (a:=s) (many:=4) t4 (up (k:=4) f rfl) (by decide) (by decide);obtain⟨w,A,b6,c6,e6,X,S,t6⟩:=aw (n:=n) (a:=o) (many:=12) t5 (up (k:=5) f rfl) (by decide) (by decide);obtain⟨x,G,b7,c7,Z,U,d4,t7⟩:=aw (n:=n) (a:=A) (many:=80) t6 (up (k:=6) f rfl) (by decide) (by decide);obtain⟨x8,B,v,r,e8,i,q,t8⟩:=aw (n:=n) (a:=G) (many:=4) t7 (up (k:=7) f rfl) (by decide) (by decide);obtain⟨g,hg,Y⟩:=fu (ks:=[0,1+I,C,4999-d*e]) l j;obtain⟨k,hk,ek⟩:=fu (ks:=[6,7+w,6+x,4999-d*e]) i q;exact⟨g,k,B,v,r,ak (fn:=ph) rfl rfl (ab (ah (ρ3:=[Ev p y H,Db (4999-d*e),none]) (ae rfl (ae (ag (ρ3:=[Ev D b1 c1,none,none]) rfl rfl e1 rfl) (ag (ρ3:=[Ev p y H,none,none]) rfl rfl e2 rfl) rfl rfl (cv (.inl (by omega)))) rfl rfl rfl) rfl rfl rfl) (ab (ah (ρ3:=[Ev o t z,Db (4999-d*e),Db g]) (ax (aJ (zs:=[It 0,It (1+I),It C,It (4999-d*e)]) (aa rfl (aa (ae rfl (ag (ρ3:=[Ev u T c3,Db (4999-d*e),none]) rfl rfl e3 rfl) rfl rfl rfl) (aa (ag (ρ3:=[Ev s N c4,Db (4999-d*e),none]) rfl rfl e4 rfl) (aa rfl af)))) rfl rfl) (ag (ρ3:=[Ev o t z,Db (4999-d*e),none]) rfl rfl e5 rfl) rfl (cE Y)) rfl rfl rfl) (ar (ai (bc (aa rfl (aa (ax (aJ (zs:=[It 6,It (7+w),It (6+x),It (4999-d*e)]) (aa rfl (aa (ae rfl (ag (ρ3:=[Ev A b6 c6,Db (4999-d*e),Db g]) rfl rfl e6 rfl) rfl rfl rfl) (aa (ae rfl (ag (ρ3:=[Ev G b7 c7,Db (4999-d*e),Db g]) rfl rfl Z rfl) rfl rfl rfl) (aa rfl af)))) rfl rfl) (ag (ρ3:=[Ev B v r,Db (4999-d*e),Db g]) rfl rfl e8 rfl) rfl (cE ek)) af)) rfl rfl rfl) rfl)))) rfl,t8⟩
abbrev sB:Ss:=match F_seen.body with|.cons _ (.cons _ (.cons _ s))=>s|_=>.nil
def mx(cs:List Int)(p:Nat):PyData:=(((cs.map PyData.int)++[PyData.none])[p+1]?).getD .none
abbrev sE(cs:List Int)(p:Nat)(one:Int)(m:PyData)(o6 o7:Option OD):DEnv:=[KM cs,Db p,Db one,some (.fz m),Db (one/100%10),Db (one%100),o6,o7]
theorem gJ(i:ev C a ρ=some (x,ρ1))(g:ev C b ρ1=some (y,ρ2))(f:aq ρ2 x=some dx)(l:aq ρ2 y=some dy)(hk:g9 o dx dy=some true)(j:ev C c ρ2=some (z,ρ3))(e:aq ρ3 y=some dy')(h:aq ρ3 z=some dz)(d:g9 o' dy' dz=some k):ev C (.cmp2 o o' a b c) ρ=some (.val (.fz (.bool k)),ρ3):=bs i (bs g (bs f (bs l (bs hk (bs j (bs e (bs h (bs d rfl))))))))
theorem ko(d:ev C a ρ=some (x,ρ1))(e:ev C b ρ1=some (y,ρ2))(f:aq ρ2 x=some dx)(g:aq ρ2 y=some dy)(hk:g9 o dx dy=some false):ev C (.cmp2 o o' a b c) ρ=some (.val (.fz (.bool false)),ρ2):=bs d (bs e (bs f (bs g (bs hk rfl))))
theorem cQ(h:ev C (.cmp2 o o' a b c) ρ=some (.val (.fz (.bool k)),ρ1)):aM C (.cmp2 o o' a b c) ρ=some (k,ρ1):=bs h rfl
theorem be(h:cs[p]?=some one)(f:cs.length<=900000)(k:av (KO n) sB (sE cs p one (mx cs p) none none)=some (.rt z,sE cs p one (mx cs p) o6 o7)):pl.pg.call (n+1) 29 [Dl cs,It p]=some (z,[Dl cs,It p]):=by
 have g:p<cs.length:=(aan.mp h).1;have c:aM (KO n) ebt (bQ 8 [Dl cs,It p])=some (false,bQ 8 [Dl cs,It p]):=by refine vh (k:=true) (cQ (gJ rfl rfl rfl rfl (show some (decide ((0:Int)<=(p:Int)))=some true by rw[Dac (by omega)]) (aE rfl rfl blen) rfl rfl (show some (decide ((p:Int)<(cs.length:Int)))=some true by rw[Dac (by omega)])))
 have a:ev (KO n) eff (bQ 8 [Dl cs,It p])=some (.val (It one),bQ 8 [Dl cs,It p]):=ax rfl rfl rfl (bw (cU (by rw[aau,h];rfl)));have b:((cs.map PyData.int)++[PyData.none])[p+1]?=some (mx cs p):=by unfold mx;rw[aak (by rw[aad,aaa,aay];omega)];rfl
 have d:ev (KO n) (.ix edf eeh) (bQ 8 [Dl cs,It p])=some (.val (.fz (mx cs p)),bQ 8 [Dl cs,It p]):=by
  refine ax (gh rfl (aJ (aa rfl af) rfl rfl) rfl rfl (by rw[aaa];show _+1<=_;omega)) rfl rfl (cE ?_);have e:((p:Int)+1)=((p+1:Nat):Int):=by omega
  rw[e];exact cU (by rw[aau,b];rfl)
 exact ak rfl rfl (ab (s_ifF c rfl) (ab (dJ (aa a (aa d af)) rfl rfl rfl) (ab (dJ (aa (ae (ae rfl rfl rfl rfl (iC (by decide))) rfl rfl rfl (bf (by decide))) (aa (ae rfl rfl rfl rfl (bf (by decide))) af)) rfl rfl rfl) k))) rfl
abbrev sT(d:PyData)(p:Int):OD:=.fz (.tuple [d,.int p])
theorem rV{p:Nat}(h:cs[p]?=some 0)(a:cs.length<=900000):pl.pg.call (n+1) 29 [Dl cs,It p]=some (sT (.tuple [.str ci]) (p+1),[Dl cs,It p]):=be h a (ar (au (je rfl) (ar (ai rfl rfl))))
theorem wa{p:Nat}(h:cs[p]?=some 7002)(a:cs.length<=900000):pl.pg.call (n+1) 29 [Dl cs,It p]=some (sT (.tuple [.str dL]) (p+1),[Dl cs,It p]):=be h a (ar (au (dH rfl rfl) (ar (ai rfl rfl))))
theorem kq(h:cs[p+1]?=some x):mx cs p=.int x:=by unfold mx;rw[aaX (by rw[aaa];exact(aan.mp h).1),aau,h];rfl
theorem rW{p:Nat}(h:cs[p]?=some 7001)(h':cs[p+1]?=some x)(a:cs.length<=900000):pl.pg.call (n+1) 29 [Dl cs,It p]=some (sT (.tuple [.str ap,.int x]) (p+2),[Dl cs,It p]):=be h a (by
 rw[kq h'];exact ab (s_ifF rfl rfl) (ab (s_ifF rfl rfl) (ab (s_ifF rfl rfl) (ab (s_ifF rfl rfl) (ab (s_ifF rfl rfl) (ab (s_ifF rfl rfl) (ab (s_ifF rfl rfl) (ab (s_ifF rfl rfl) (ab (s_ifF rfl rfl) (ar (au rfl (ar (ai rfl rfl)))))))))))))
theorem wb{p:Nat}(h:cs[p]?=some 7000)(h':cs[p+1]?=some x)(a:cs.length<=900000):pl.pg.call (n+1) 29 [Dl cs,It p]=some (sT (.tuple [.str ac,.int x,.bool true]) (p+2),[Dl cs,It p]):=be h a (by
 rw[kq h'];exact ab (s_ifF rfl rfl) (ab (s_ifF rfl rfl) (ab (s_ifF rfl rfl) (ab (s_ifF rfl rfl) (ab (s_ifF rfl rfl) (ab (s_ifF rfl rfl) (ab (s_ifF rfl rfl) (ab (s_ifF rfl rfl) (ab (s_ifF rfl rfl) (ar (au rfl (ar (ai rfl rfl)))))))))))))
section
variable{C:Ct}{cs:List Int}{p:Nat}{one:Int}{m:PyData}{o6 o7:Option OD}
theorem bY{lo a:Int}:aM C (.cmp2 .le .lt (.int lo) (.nm 2) (.int a)) (sE cs p one m o6 o7)=some (decide (lo<=one/\one<a),sE cs p one m o6 o7):=by
 by_cases h:lo<=one
 ·refine cQ (gJ (dx:=.int lo) (dy:=.int one) (dy':=.int one) (dz:=.int a) rfl rfl rfl rfl (show some (decide (lo<=one))=some true by rw[Dac h]) rfl rfl rfl (show some (decide (one<a))=_ from ?_));rw[decide_eq_decide.mpr (show (one<a) ↔ (lo<=one/\one<a) by omega)]
 ·rw[Dab (by omega)];exact cQ (ko (dx:=.int lo) (dy:=.int one) rfl rfl rfl rfl (show some (decide (lo<=one))=some false by rw[Dab h]))
theorem cR{lo a:Int}:aM C (.cmp2 .lt .lt (.int lo) (.nm 2) (.int a)) (sE cs p one m o6 o7)=some (decide (lo<one/\one<a),sE cs p one m o6 o7):=by
 by_cases h:lo<one
 ·refine cQ (gJ (dx:=.int lo) (dy:=.int one) (dy':=.int one) (dz:=.int a) rfl rfl rfl rfl (show some (decide (lo<one))=some true by rw[Dac h]) rfl rfl rfl (show some (decide (one<a))=_ from ?_));rw[decide_eq_decide.mpr (show (one<a) ↔ (lo<one/\one<a) by omega)]
 ·rw[Dab (by omega)];exact cQ (ko (dx:=.int lo) (dy:=.int one) rfl rfl rfl rfl (show some (decide (lo<one))=some false by rw[Dab h]))
theorem kr(h:one≠0/\one≠7002):aM C eb0 (sE cs p one m o6 o7)=some (false,sE cs p one m o6 o7):=dH (aj (e_cmp (dx:=.int one) (dy:=.int 0) rfl rfl rfl rfl (show some (decide (one=0))=some false by rw[Dab h.1]))) (aj (e_cmp (dx:=.int one) (dy:=.int 7002) rfl rfl rfl rfl (show some (decide (one=7002))=some false by rw[Dab h.2])))
end
theorem rT{C:Ct}{c:E}{ρ:DEnv}{P:Prop}[Decidable P](h:aM C c ρ=some (decide P,ρ))(a:P):aM C c ρ=some (true,ρ):=by rw[h,Dac a]
theorem rF{C:Ct}{c:E}{ρ:DEnv}{P:Prop}[Decidable P](h:aM C c ρ=some (decide P,ρ))(a:¬ P):aM C c ρ=some (false,ρ):=by rw[h,Dab a]
section
variable{lo hi x a b:Int}
theorem Js(c:x<=b)(h:b<=lo):¬ (lo<x/\x<hi):=λz=>absurd (abL z.1 c) (abM.mpr h)
theorem KF(c:x<=b)(h:b<=lo):¬ (lo<x/\x<=hi):=λz=>absurd (abL z.1 c) (abM.mpr h)
theorem DB(c:a<=x)(h:hi<=a):¬ (lo<=x/\x<hi):=λz=>absurd z.2 (abM.mpr (aa9 h c))
theorem Hm(c:a<=x)(h:hi<=a):¬ (lo<x/\x<hi):=λz=>absurd z.2 (abM.mpr (aa9 h c))
theorem KG(c:a<=x)(h:hi<a):¬ (lo<x/\x<=hi):=λz=>absurd z.2 (abN.mpr (abL h c))
theorem y1(d:a<=x)(c:x<=b)(h:lo<=a)(h':b<hi):lo<=x/\x<hi:=⟨aa9 h d,Int.lt_of_le_of_lt c h'⟩
theorem y2(d:a<=x)(c:x<=b)(h:lo<a)(h':b<hi):lo<x/\x<hi:=⟨abL h d,Int.lt_of_le_of_lt c h'⟩
theorem y3(d:a<=x)(c:x<=b)(h:lo<a)(h':b<=hi):lo<x/\x<=hi:=⟨abL h d,aa9 c h'⟩
theorem GZ(d:a<=x)(c:x<=b)(h:0<a)(h':b<7002):x≠0/\x≠7002:=⟨λe=>absurd (e▸d) (abN.mpr h),λe=>absurd (e▸c) (abN.mpr h')⟩
theorem Jt(c:a<=x)(h:7002<a):x≠0/\x≠7002:=⟨λe=>absurd (e▸c) (abN.mpr (Int.lt_trans (by decide) h)),λe=>absurd (e▸c) (abN.mpr h)⟩
end
def Sn(cs:List Int)(p:Nat)(w:Str)(xs:List PyData)(q:Nat):Prop:=p<q/\∀n:Nat,pl.pg.call (n+1) 29 [Dl cs,It p]=some (sT (.tuple (.str w::xs)) q,[Dl cs,It p])
section
variable{C:Ct}{cs:List Int}{p:Nat}{one:Int}{m:PyData}{o6 o7:Option OD}
theorem nQ{lo a:Int}:aM C (.cmp2 .lt .le (.int lo) (.nm 2) (.int a)) (sE cs p one m o6 o7)=some (decide (lo<one/\one<=a),sE cs p one m o6 o7):=by
 by_cases h:lo<one
 ·refine cQ (gJ (dx:=.int lo) (dy:=.int one) (dy':=.int one) (dz:=.int a) rfl rfl rfl rfl (show some (decide (lo<one))=some true by rw[Dac h]) rfl rfl rfl (show some (decide (one<=a))=_ from ?_));rw[decide_eq_decide.mpr (show (one<=a) ↔ (lo<one/\one<=a) by omega)]
 ·rw[Dab (by omega)];exact cQ (ko (dx:=.int lo) (dy:=.int one) rfl rfl rfl rfl (show some (decide (lo<one))=some false by rw[Dab h]))
theorem qj{i:Nat}{v j k:Int}(a:0<j)(hv:ev C (.nm i) (sE cs p one m o6 o7)=some (.val (It v),sE cs p one m o6 o7))(h:v%j<k):aM C (.cmp .lt (.bop .mod (.nm i) (.int j)) (.int k)) (sE cs p one m o6 o7)=some (true,sE cs p one m o6 o7):=aj (e_cmp (dx:=.int (v%j)) (dy:=.int k) (ae hv rfl rfl rfl (bf a)) rfl rfl rfl (show some (decide (v%j<k))=some true by rw[Dac h]))
end
section
variable{n:Nat}{cs:List Int}{p:Nat}{x:Int}
theorem wc(h:cs[p]?=some x)(a:1000<=x)(b:x<=1499)(c:cs.length<=900000):pl.pg.call (n+1) 29 [Dl cs,It p]=some (sT (.tuple [.str ce,.int (x/100%10),.int (x%100)]) (p+1),[Dl cs,It p]):=be (o6:=none) (o7:=none) h c (ab (s_ifF (kr (GZ a b (by decide) (by decide))) rfl) (ar (au (rT bY (y1 a b (by decide) (by decide))) (ar (ai rfl rfl)))))
theorem qk{w:Str} (h:cs[p]?=some x) (a:2000<=x) (b:x<=3999) (c:x%1000<45) (d:x%100%10<5) (f:atI [OD.fz (.str "sum"),.fz (.str kt)] (x/1000-2)=some (.fz (.str w))) (e:cs.length<=900000):pl.pg.call (n+1) 29 [Dl cs,It p]=some (sT (.tuple [.str w,.int (x%100/10),.int (x%100%10)]) (p+1),[Dl cs,It p]):=be (o6:=none) (o7:=none) h e (ab (s_ifF (kr (GZ a b (by decide) (by decide))) rfl) (ab (s_ifF (rF bY (DB a (by decide))) rfl) (ar (au (t_andT (rT bY (y1 a b (by decide) (by decide))) (t_andT (qj (by decide) rfl c) (qj (by decide) rfl d))) (ar (ai (bc (aa (bc (aa (ax (aJ (aa rfl (aa rfl af)) rfl rfl) (ae (ae rfl rfl rfl rfl (iC (j:=1000) (by decide))) rfl rfl rfl rfl) rfl (cE f)) (aa (ae rfl rfl rfl rfl (iC (j:=10) (by decide))) (aa (ae rfl rfl rfl rfl (bf (j:=10) (by decide))) af))) rfl rfl rfl) (aa rfl af)) rfl rfl rfl) rfl))))))
theorem rX(h:cs[p]?=some x)(a:4000<=x)(b:x<=4004)(c:cs.length<=900000):pl.pg.call (n+1) 29 [Dl cs,It p]=some (sT (.tuple [.str "tell",.int (x%10)]) (p+1),[Dl cs,It p]):=be (o6:=none) (o7:=none) h c (ab (s_ifF (kr (GZ a b (by decide) (by decide))) rfl) (ab (s_ifF (rF bY (DB a (by decide))) rfl) (ab (s_ifF (bC (rF bY (DB a (by decide)))) rfl) (ar (au (rT bY (y1 a b (by decide) (by decide))) (ar (ai (bc (aa (bc (aa rfl (aa (ae rfl rfl rfl rfl (bf (j:=10) (by decide))) af)) rfl rfl rfl) (aa rfl af)) rfl rfl rfl) rfl)))))))
theorem G0{C:Ct}{m:PyData}{r:Option (Fl×DEnv)}{a:Int}(b:a<=x)(c:x≠0/\x≠7002)(h:4005<=a)(k:av C (match sB with|.cons _ (.cons _ (.cons _ (.cons _ s)))=>s|_=>.nil) (sE cs p x m none none)=r):av C sB (sE cs p x m none none)=r:=ab (s_ifF (kr c) rfl) (ab (s_ifF (rF bY (DB b (aa9 (by decide) h))) rfl) (ab (s_ifF (bC (rF bY (DB b (aa9 (by decide) h)))) rfl) (ab (s_ifF (rF bY (DB b h)) rfl) k)))
theorem zt(h:cs[p]?=some x)(a:6001<=x)(b:x<=6999)(c:cs.length<=900000):pl.pg.call (n+1) 29 [Dl cs,It p]=some (sT (.tuple [.str ac,.int ((p:Int)+x-6500),.bool false]) (p+1),[Dl cs,It p]):=be (o6:=none) (o7:=none) h c (G0 a (GZ a b (by decide) (by decide)) (by decide) (ar (au (rT cR (y2 a b (by decide) (by decide))) (ar (ai rfl rfl)))))
theorem we(h:cs[p]?=some x)(a:8001<=x)(b:x<=8999)(d:x%200>0)(c:cs.length<=900000):pl.pg.call (n+1) 29 [Dl cs,It p]=some (sT (.tuple [.str bi,.int (x/200-40),.int (p+x%200-100),.bool false]) (p+1),[Dl cs,It p]):=be (o6:=none) (o7:=none) h c (G0 a (Jt a (by decide)) (by decide) (ab (s_ifF (rF cR (Hm a (by decide))) rfl) (ar (au (t_andT (rT cR (y2 a b (by decide) (by decide))) (aj (e_cmp (dx:=.int (x%200)) (dy:=.int 0) (ae rfl rfl rfl rfl (bf (j:=200) (by decide))) rfl rfl rfl (show some (decide (x%200>0))=some true by rw[Dac d])))) (ar (ai (bc (aa (bc (aa rfl (aa (ae (ae rfl rfl rfl rfl (iC (j:=200) (by decide))) rfl rfl rfl rfl) (aa (ae (ae rfl (ae rfl rfl rfl rfl (bf (j:=200) (by decide))) rfl rfl rfl) rfl rfl rfl rfl) (aa rfl af)))) rfl rfl rfl) (aa rfl af)) rfl rfl rfl) rfl))))))
theorem nR{y:Int}(h:cs[p]?=some x)(h':cs[p+1]?=some y)(b:5000<=x)(a:x<=5499)(c:cs.length<=900000):pl.pg.call (n+1) 29 [Dl cs,It p]=some (sT (.tuple [.str jp,.int (x/100%10),.int (p+y-5000),.int (x%100)]) (p+2),[Dl cs,It p]):=by refine be (o6:=none) (o7:=none) h c ?_;rw[kq h'];exact G0 b (GZ b a (by decide) (by decide)) (by decide) (ab (s_ifF (rF cR (Js a (by decide))) rfl) (ab (s_ifF (bC (rF cR (Js a (by decide)))) rfl) (ab (s_ifF (bC (rF nQ (KF a (by decide)))) rfl) (ab (s_ifF rfl rfl) (ar (au (rT bY (y1 b a (by decide) (by decide))) (ar (ai rfl rfl))))))))
theorem rY{y:Int}(h:cs[p]?=some x)(h':cs[p+1]?=some y)(a:9000<=x)(b:x<=9004)(c:cs.length<=900000):pl.pg.call (n+1) 29 [Dl cs,It p]=some (sT (.tuple [.str bi,.int (x%10),.int y,.bool true]) (p+2),[Dl cs,It p]):=by
 refine be (o6:=none) (o7:=none) h c ?_;rw[kq h'];have d:g9 .inn (.int x) (.tuple [.int 7000,.int 7001])=some false:=by show some (decide ((7000:Int)=x)||(decide ((7001:Int)=x)||false))=_;rw[Dab (by omega),Dab (by omega)];rfl
 exact G0 a (Jt a (by decide)) (by decide) (ab (s_ifF (rF cR (Hm a (by decide))) rfl) (ab (s_ifF (bC (rF cR (Hm a (by decide)))) rfl) (ab (s_ifF (bC (rF nQ (KG a (by decide)))) rfl) (ab (s_ifF rfl rfl) (ab (s_ifF (rF bY (DB a (by decide))) rfl) (ab (s_ifF (aj (e_cmp (dx:=.int x) (dy:=.tuple [.int 7000,.int 7001]) rfl rfl rfl rfl d)) rfl) (ar (ai (eA (rT bY (y1 a b (by decide) (by decide))) (bc (aa (bc (aa rfl (aa (ae rfl rfl rfl rfl (bf (j:=10) (by decide))) (aa rfl (aa rfl af)))) rfl rfl rfl) (aa rfl af)) rfl rfl rfl)) rfl))))))))
end
theorem Az{hv:List Int}{i:Int}{k:Nat}(e:i=(k:Int))(h:k<hv.length):atI (hv.map It) i=Db (hv.getD k 0):=by subst e;exact cU (by rw[aau,aak h,abg,aak h];rfl)
abbrev KH:E:=.bop .add eby eb1
theorem qm{hv:List Int}:∀{k j:Nat},2*(j+k)<=hv.length->∃ds:List PyData,ds.length=k/\∀(C:Ct) (out:List PyData) (o:Option OD),∃a,bH (bK C (.nm 0) .none KH) (bP j k) out [o,Ix hv]=some (out++ds,[a,Ix hv])
 |0,j,_=>⟨[],rfl,λC out o=>⟨o,by rw[aam];rfl⟩⟩
 |k+1,j,h=>by obtain⟨ds,b,e⟩:=qm (hv:=hv) (k:=k) (j:=j+1) (by omega);refine⟨.int (10000*hv.getD (2*j) 0+hv.getD (2*j+1) 0)::ds,by rw[aap,b],λC out o=>?_⟩;obtain⟨a,e⟩:=e C (out++[.int (10000*hv.getD (2*j) 0+hv.getD (2*j+1) 0)]) (Db j);rw[aT];refine⟨a,bs (x:=([.int (10000*hv.getD (2*j) 0+hv.getD (2*j+1) 0)],[Db j,Ix hv])) (vk rfl (ae (ae rfl (ax rfl (ae rfl rfl rfl rfl (bM (k:=2) (by decide))) rfl (dO rfl (Az (k:=2*j) (by push_cast;rfl) (by omega)))) rfl rfl (cv (.inl (by decide)))) (ax rfl (ae (ae rfl rfl rfl rfl (bM (k:=2) (by decide))) rfl rfl rfl rfl) rfl (dO rfl (Az (k:=2*j+1) (by push_cast;rfl) (by omega)))) rfl rfl rfl) rfl) ?_⟩;rw[show out++_::ds=(out++[.int (10000*hv.getD (2*j) 0+hv.getD (2*j+1) 0)])++ds by rw[aac];rfl];exact e
theorem AA{C:Ct}{e:E}{ρ:DEnv}{i:Int}(h:ev C e ρ=some (.val (It i),ρ)):Ca C (.some e) ρ=some (some i,ρ):=bs h (bs rfl (bs rfl rfl))
theorem zu{cs:List Int}{a b:Nat}(h:a<=b)(c:b<=cs.length):∃hv:List Int,hv.length=b-a/\cutD (cs.map PyData.int) (some (a:Int)) (some (b:Int))=hv.map PyData.int:=by refine⟨(cs.drop a).take (b-a),by rw[aaW,abl];omega,?_⟩;rw[kU];unfold cutD;rw[HT.sIx_nat,HT.sIx_nat,abo c,abo (by omega)]
theorem rZ{cs:List Int}{p m:Nat}(h:cs[p]?=some (7100+(m:Int)))(w:1<=m)(v:m<=100)(o:p+1+2*m<=cs.length)(q:cs.length<=900000):∃ds:List PyData,ds.length=m/\∀n:Nat,pl.pg.call (n+1) 29 [Dl cs,It p]=some (sT (.tuple [.str am,.tuple ds]) (p+1+2*m),[Dl cs,It p]):=by
 obtain⟨hv,s,r⟩:=zu (cs:=cs) (a:=p+1) (b:=p+1+2*m) (by omega) o;obtain⟨ds,t,e⟩:=qm (hv:=hv) (k:=m) (j:=0) (by omega);refine⟨ds,t,λn=>?_⟩;obtain⟨u,e⟩:=e (KO n) [] none;rw[aaB]at e;have g:∀{o6 o7:Option OD},ev (KO n) ed5 (sE cs p (7100+(m:Int)) (mx cs p) o6 o7)=some (.val (It m),sE cs p (7100+(m:Int)) (mx cs p) o6 o7):=ae (d:=.int m) rfl rfl rfl rfl (show some (PyData.int (7100+(m:Int)-7100))=_ by rw[show 7100+(m:Int)-7100=m by omega]);have f:∀{o6 o7:Option OD},ev (KO n) eeh (sE cs p (7100+(m:Int)) (mx cs p) o6 o7)=some (.val (It (p+1:Nat)),sE cs p (7100+(m:Int)) (mx cs p) o6 o7):=rfl;have i:∀{o6 o7:Option OD},ev (KO n) ebb (sE cs p (7100+(m:Int)) (mx cs p) o6 o7)=some (.val (It (p+1+2*m:Nat)),sE cs p (7100+(m:Int)) (mx cs p) o6 o7):=ae f (ae rfl g rfl rfl (bM (k:=2) (by decide))) rfl rfl (show some (PyData.int (((p+1:Nat):Int)+2*(m:Int)))=_ by push_cast;rfl);refine be (o6:=Ix hv) (o7:=some (.lst (ds.map OD.fz))) h q ?_;have c:7101<=7100+(m:Int):=by omega
 have l:7100+(m:Int)<=7200:=by omega
 refine G0 c (Jt c (by decide)) (by decide) (ab (s_ifF (rF cR (Hm c (by decide))) rfl) (ab (s_ifF (bC (rF cR (Js l (by decide)))) rfl) (ar (au (t_andT (rT nQ (y3 c l (by decide) (by decide))) (aj (e_cmp (dx:=.int (p+1+2*m:Nat)) (dy:=.int cs.length) i (aE rfl rfl blen) rfl rfl (show some (decide (((p+1+2*m:Nat):Int)<=(cs.length:Int)))=some true by rw[Dac (by omega)])))) ?_))));refine ab (ah (ρ3:=sE cs p (7100+(m:Int)) (mx cs p) (Ix hv) none) (vF rfl (AA f) (AA i) rfl) (z:=Il hv) (by rw[r,cB];rfl) rfl rfl) ?_;refine ab (ah (ρ3:=sE cs p (7100+(m:Int)) (mx cs p) (Ix hv) (some (.lst (ds.map OD.fz)))) (bj (ρ2:=sE cs p (7100+(m:Int)) (mx cs p) (Ix hv) none) (dM g rfl (by omega)) (by rw[eQ];omega) rfl (by rw[aaJ];exact e) rfl) rfl rfl rfl) ?_;refine ar (ai (bc (aa (bc (aa rfl (aa (jZ rfl (ds:=ds) (fP _)) af)) rfl rfl rfl) (aa (ae (d:=.int (p+1+2*m:Nat)) f (aE (rs:=[.rf 6]) rfl (eW (aK hv)) ilen) rfl rfl (show some (PyData.int (((p+1:Nat):Int)+(hv.length:Int)))=_ by rw[s];congr 2;omega)) af)) rfl rfl rfl) ?_);exact congrArg some (Prod.ext (show _=sT _ _ by rfl) rfl)
def rnm:R->Str|.st _ k=>if 99<k then jp else ce |.ot w _ _=>w
theorem cW{cs:List Int}{p q:Nat}{w:Str}{xs:List PyData}{y:Int}(h:p<q)(e:y=(q:Int))(k:∀n:Nat,pl.pg.call (n+1) 29 [Dl cs,It p]=some (sT (.tuple (.str w::xs)) y,[Dl cs,It p])):Sn cs p w xs q:=⟨h,by rw[<-e];exact k⟩
theorem zw{c x k:Int}(h:0<=x/\x<=4)(h':0<=k/\k<=99):c<=c+100*x+k/\c+100*x+k<=c+499:=by omega
theorem bsl{c a b:Int}(f:c=2000\/c=3000)(e:0<=a/\a<=4)(d:0<=b/\b<=4):2000<=c+10*a+b/\c+10*a+b<=3999/\(c+10*a+b)%1000<45/\(c+10*a+b)%100%10<5:=by omega
theorem bge{c r m:Int}(h:0<=r/\r<=m):c<=c+r/\c+r<=c+m:=⟨Int.le_add_of_nonneg_right h.1,Int.add_le_add_left h.2 c⟩
theorem wg{cs:List Int}{p:Nat}{r:R}{lg:Bool}{g:PyData}(d:cs.length<=900000)(f:r.ok)(j:r.gr=true->0<=GL g/\GL g<=99)(q:r.jm=true->lg=false->-(farN r 499)<=gI g-p/\gI g-p<=farN r 499)(c:∀i x,(cG r p lg g)[i]?=some x->cs[p+i]?=some x):∃xs,Sn cs p (rnm r) xs (p+(cG r p lg g).length):=by
 cases r with
 |st x k=>
  by_cases h:99<k
  ·have m:cG (R.st x k) p lg g=[5000+100*x+GL g,5000+Jo g-p]:=if_pos h;have l:rnm (R.st x k)=jp:=if_pos h;rw[m]at c ⊢;rw[l];have j:=j (Dac h);have e:=f.1;exact⟨_,cW (acs (abv 1)) rfl λn=>nR (c 0 _ rfl) (c 1 _ rfl) (zw e j).1 (zw e j).2 d⟩
  ·have m:cG (R.st x k) p lg g=[1000+100*x+k]:=if_neg h;have l:rnm (R.st x k)=ce:=if_neg h;rw[m]at c ⊢;rw[l];have e:=f.1;have o:0<=k/\k<=99:=⟨f.2.1,abM.mp h⟩
   exact⟨_,cW (aaP p) rfl λn=>wc (c 0 _ rfl) (zw e o).1 (zw e o).2 d⟩
 |ot w xs t=>
  cases f with
  |sum a b h=>exact⟨_,cW (aaP p) rfl λn=>qk (w:="sum") (c 0 (2000+10*a+b) rfl) (bsl (.inl rfl) h.1 h.2).1 (bsl (.inl rfl) h.1 h.2).2.1 (bsl (.inl rfl) h.1 h.2).2.2.1 (bsl (.inl rfl) h.1 h.2).2.2.2 (by rw[show (2000+10*a+b)/1000-2=0 by omega];rfl) d⟩
  |less a b h=>exact⟨_,cW (aaP p) rfl λn=>qk (w:=kt) (c 0 (3000+10*a+b) rfl) (bsl (.inr rfl) h.1 h.2).1 (bsl (.inr rfl) h.1 h.2).2.1 (bsl (.inr rfl) h.1 h.2).2.2.1 (bsl (.inr rfl) h.1 h.2).2.2.2 (by rw[show (3000+10*a+b)/1000-2=1 by omega];rfl) d⟩
  |tell a h=>exact⟨_,cW (aaP p) rfl λn=>rX (c 0 (4000+a) rfl) (bge h).1 (bge h).2 d⟩
  |stop=>exact⟨_,cW (aaP p) rfl λn=>rV (c 0 _ rfl) d⟩
  |go a=>
   cases lg with
   |true=>exact⟨_,cW (acs (abv 1)) rfl λn=>wb (c 0 _ rfl) (c 1 _ rfl) d⟩
   |false=>have s:-499<=gI g-p/\gI g-p<=499:=q rfl rfl;exact⟨_,cW (aaP p) rfl λn=>zt (c 0 (6500+gI g-p) rfl) (by omega) (by omega) d⟩
  |nil a b h=>
   cases lg with
   |true=>exact⟨_,cW (acs (abv 1)) rfl λn=>rY (c 0 (9000+a) rfl) (c 1 _ rfl) (bge h).1 (bge h).2 d⟩
   |false=>have s:-99<=gI g-p/\gI g-p<=99:=q rfl rfl;exact⟨_,cW (aaP p) rfl λn=>we (c 0 (8100+200*a+gI g-p) rfl) (by omega) (by omega) (by omega) d⟩
abbrev Th:=Nat×Str×List PyData
abbrev tDa(t:Th):PyData:=.tuple [.int t.1,.tuple (.str t.2.1::t.2.2)]
inductive Wk (cs:List Int):Nat->List Th->Nat->Prop
 |nil {p:Nat}:Wk cs p [] p
 |cons {p q e:Nat}{w:Str}{xs:List PyData}{ts:List Th} (h:Sn cs p w xs q) (t:Wk cs q ts e):Wk cs p ((p,w,xs)::ts) e
theorem Wk.app{cs:List Int}{p q e:Nat}{ts us:List Th}(h:Wk cs p ts q)(k:Wk cs q us e):Wk cs p (ts++us) e:=by
 induction h with
 |nil=>exact k
 |cons h _ a=>exact .cons h (a k)
theorem Wk.one{cs:List Int}{p q:Nat}{w:Str}{xs:List PyData}(h:Sn cs p w xs q):Wk cs p [(p,w,xs)] q:=.cons h .nil
theorem Wk.le{cs:List Int}{p e:Nat}{ts:List Th}(h:Wk cs p ts e):p<=e:=by
 induction h with
 |nil=>exact aae _
 |cons h _ a=>exact aar (aaR h.1) a
abbrev AhL(A:List Th):OD:=.lst (A.map λt=>.fz (tDa t))
theorem qo{A:List Th}{t:Th}:AhL (A++[t])=.lst ((A.map λt=>OD.fz (tDa t))++[.fz (tDa t)]):=by rw[AhL,aas];rfl
abbrev thE(cs:List Int)(A:List Th)(p:Nat)(o:Option OD):DEnv:=[KM cs,some (AhL A),Db p,o]
abbrev Ju:E:=.cmp .lt (.nm 2) edy
abbrev Kh:Ss:=match F_things.body with|.cons _ (.cons (.whl _ b) _)=>b|_=>.nil
theorem zx{n:Nat}{cs:List Int}{p e:Nat}{ts:List Th}(h:Wk cs p ts e)(l:e=cs.length):∀{fuel:Nat}{A:List Th}{o:Option OD},ts.length<fuel->A.length+ts.length<=1000->∃c,eU (aM (KO (n+1)) Ju) (av (KO (n+1)) Kh) fuel (thE cs A p o)=some (.nx,thE cs (A++ts) e c):=by
 have f:∀{p:Nat}{A:List Th}{o:Option OD},aM (KO (n+1)) Ju (thE cs A p o)=some (decide (p<cs.length),thE cs A p o):=λ{p A o}=>aj (e_cmp (dx:=.int p) (dy:=.int cs.length) rfl (aE rfl rfl blen) rfl rfl (show some (decide ((p:Int)<(cs.length:Int)))=_ by rw[decide_eq_decide.mpr Int.ofNat_lt]));induction h with
 |@nil p=>intro fuel A o d _;have a:=f (p:=p) (A:=A) (o:=o);rw[Dab (by omega)]at a;rw[aam];exact⟨o,GJ a (by omega)⟩
 |@cons p q e w xs ts h k ih=>
  intro fuel A o d g;have g:A.length+(ts.length+1)<=1000:=g;have d:ts.length+1<fuel:=d;have r:=h.1;have m:=k.le;have a:=f (p:=p) (A:=A) (o:=o);rw[Dac (by omega)]at a;obtain⟨c,i⟩:=ih l (fuel:=fuel-1) (A:=A++[(p,w,xs)]) (o:=some (sT (.tuple (.str w::xs)) q)) (by omega) (by rw[aad,aay];omega);have j:fuel=fuel-1+1:=by omega
  rw[j];have b:=h.2 n;have s:(KO (n+1)).call=pl.pg.call (n+1):=rfl;rw[<-s]at b;refine⟨c,GK a (ab (ah (ρ3:=thE cs A p (some (sT (.tuple (.str w::xs)) q))) (ag (ρ3:=thE cs A p o) rfl rfl b rfl) rfl rfl rfl) (ab (s_ifF (ρ1:=thE cs A p (some (sT (.tuple (.str w::xs)) q))) rfl rfl) (ab (br (ρ1:=thE cs A p (some (sT (.tuple (.str w::xs)) q))) (ρ2:=thE cs A p (some (sT (.tuple (.str w::xs)) q))) (ρ3:=thE cs (A++[(p,w,xs)]) p (some (sT (.tuple (.str w::xs)) q))) (xs:=A.map λt=>.fz (tDa t)) rfl (bc (z:=.fz (tDa (p,w,xs))) (aa rfl (aa (ax rfl rfl rfl (aF rfl)) af)) rfl rfl rfl) rfl rfl (by rw[aaa];omega) (by show _=[_,some (AhL (A++[(p,w,xs)])),_,_];rw[qo];rfl)) (ab (ah (ρ3:=thE cs (A++[(p,w,xs)]) q (some (sT (.tuple (.str w::xs)) q))) (ax rfl rfl rfl (aF rfl)) rfl rfl rfl) rfl)))) ?_⟩;rw[show A++(p,w,xs)::ts=A++[(p,w,xs)]++ts by rw[aac];rfl];exact i
theorem wm{n:Nat}{cs:List Int}{ts:List Th}(h:Wk cs 0 ts cs.length)(b:ts.length<=1000):pl.pg.call (n+2) 30 [Dl cs]=some (AhL ts,[Dl cs]):=by obtain⟨a,e⟩:=zx (n:=n) h rfl (fuel:=100000) (A:=[]) (o:=none) (by omega) (by rw[abn];omega);exact ak (fn:=F_things) rfl rfl (ab (dJ (ρ3:=thE cs [] 0 none) (aa (aJ af rfl rfl) (aa rfl af)) rfl rfl rfl) (ab (show bL _ (.whl Ju Kh) _=_ from e) (ar (ai rfl rfl)))) rfl
def opW(w:Str):Bool:=decide (ap=w)||(decide (dL=w)||false)
theorem iL{k:Type}{g h:k->PyData}{P:k->Bool}:∀{f:List k}{out:List PyData}{o:Option OD},(∀a∈f,aM C t (some (.fz (g a))::ρ)=some (P a,some (.fz (g a))::ρ))->(∀a∈f,P a=true->ev C elt (some (.fz (g a))::ρ)=some (.val (.fz (h a)),some (.fz (g a))::ρ))->∃d,bH (bK C (.nm 0) (.some t) elt) (f.map g) out (o::ρ)=some (out++(f.filter P).map h,d::ρ)
 |[],out,o,_,_=>⟨o,by rw[ab4,aaA,aaA,aam];rfl⟩
 |a::f,out,o,h1,h2=>by
  have j:=h1 a aaj;have l:aW (.nm 0) (.fz (g a)) (o::ρ)=some (some (.fz (g a))::ρ):=by unfold aW;exact bg (abv _) rfl
  cases i:P a with
  |false=>rw[i]at j;obtain⟨d,e⟩:=iL (λb c=>h1 b (aal _ c)) (λb c=>h2 b (aal _ c));refine⟨d,bs (lN l j) ?_⟩;rw[e,aam,abI (by rw[i];decide)]
  |true=>rw[i]at j;obtain⟨d,e⟩:=iL (λb c=>h1 b (aal _ c)) (λb c=>h2 b (aal _ c));refine⟨d,bs (lM l j (h2 a aaj i) rfl) ?_⟩;rw[e,abH i,aac];rfl
theorem ku{f:Type}{g h:f->PyData}:∀{c:List f}{out:List PyData}{o:Option OD},(∀a∈c,ev C elt (some (.fz (g a))::ρ)=some (.val (.fz (h a)),some (.fz (g a))::ρ))->∃d,bH (bK C (.nm 0) .none elt) (c.map g) out (o::ρ)=some (out++c.map h,d::ρ)
 |[],out,o,_=>⟨o,by rw[aaA,aaA,aam];rfl⟩
 |a::c,out,o,h2=>by
  have i:aW (.nm 0) (.fz (g a)) (o::ρ)=some (some (.fz (g a))::ρ):=by unfold aW;exact bg (abv _) rfl
  obtain⟨d,e⟩:=ku (λb j=>h2 b (aal _ j));refine⟨d,bs (vk i (h2 a aaj) rfl) ?_⟩;rw[e,aac];rfl
abbrev wo:E:=.ix efa (.int 0)
abbrev DD:E:=.tup ecw
theorem e_nm1:ev C wo [some (.fz (tDa t))]=some (.val (.fz (.str t.2.1)),[some (.fz (tDa t))]):=ax (ax rfl rfl rfl (aF rfl)) rfl rfl (aF atI_zero)
theorem G1:ev C (.cmp .inn wo DD) [some (.fz (tDa t))]=some (.val (.fz (.bool (opW t.2.1))),[some (.fz (tDa t))]):=e_cmp e_nm1 rfl rfl rfl rfl
theorem G2:ev C (.cmp .nin wo DD) [some (.fz (tDa t))]=some (.val (.fz (.bool (!opW t.2.1))),[some (.fz (tDa t))]):=e_cmp e_nm1 rfl rfl rfl rfl
abbrev rE(rs:List R)(cs:List Int)(ts:List Th)(x3 x4:OD)(o5 o6 o7 o8 o9 o10:Option OD):DEnv:=[Go rs,KM cs,some (.fz (.list (ts.map tDa))),some x3,some x4,o5,o6,o7,o8,o9,o10]
theorem nS(A:List Th):(AhL A).dat=some (.list (A.map tDa)):=by
 have:AhL A=.lst ((A.map tDa).map OD.fz):=by rw[AhL,aaL];rfl
 rw[this];exact dat_fz _
abbrev nT(A:List Th):OD:=.fz (.list (A.map tDa))
section
variable{C:Ct}{rs:List R}{cs:List Int}{ts A:List Th}{x3 x4:OD}{o5 o6 o7 o8 o9 o10:Option OD}
theorem zy(h:x4=AhL A\/x4=nT A):ow C (.seq (.nm 4)) (rE rs cs ts x3 x4 o5 o6 o7 o8 o9 o10)=some (A.map tDa,rE rs cs ts x3 (nT A) o5 o6 o7 o8 o9 o10):=by
 rcases h with rfl|rfl
 ·exact bt rfl (bD rfl (nS A) rfl) rfl
 ·exact bt rfl rfl rfl
theorem wq(d:A.length<=1000)(h:x4=AhL A\/x4=nT A):ev C (.blt .any (.cons (.comp 1 [] (.seq (.nm 4)) (.nm 0) .none (.cmp .inn wo DD)) .nil)) (rE rs cs ts x3 x4 o5 o6 o7 o8 o9 o10)=some (.val (.fz (.bool (A.any λt=>opW t.2.1))),rE rs cs ts x3 (nT A) o5 o6 o7 o8 o9 o10):=by obtain⟨c,e⟩:=ku (elt:=.cmp .inn wo DD) λa _=>G1;rw[aaB]at e;refine aE (aa (bj (zy h) (by rw[aaa];omega) rfl e rfl) af) (eW (dat_fz _)) ?_;have b:=gZ (A.map λt=>opW t.2.1);rw[aaL]at b;refine bs b ?_;rw[abV];rfl
theorem DF(c:A.length<=1000)(h:x4=AhL A\/x4=nT A):ev C (.comp 1 [] (.seq (.nm 4)) (.nm 0) (.some (.cmp .inn wo DD)) wo) (rE rs cs ts x3 x4 o5 o6 o7 o8 o9 o10)=some (.val (.lst (((A.filter λt=>opW t.2.1).map λt=>PyData.str t.2.1).map OD.fz)),rE rs cs ts x3 (nT A) o5 o6 o7 o8 o9 o10):=by obtain⟨b,e⟩:=iL (C:=C) (g:=tDa) (h:=λt=>.str t.2.1) (λa _=>aj G1) λa _ _=>e_nm1;rw[aaB]at e;exact bj (zy h) (by rw[aaa];omega) rfl e rfl
theorem zA(c:A.length<=1000)(h:x4=AhL A\/x4=nT A):ev C (.comp 1 [] (.seq (.nm 4)) (.nm 0) (.some (.cmp .nin wo DD)) wo) (rE rs cs ts x3 x4 o5 o6 o7 o8 o9 o10)=some (.val (.lst (((A.filter λt=>!opW t.2.1).map λt=>PyData.str t.2.1).map OD.fz)),rE rs cs ts x3 (nT A) o5 o6 o7 o8 o9 o10):=by obtain⟨b,e⟩:=iL (C:=C) (g:=tDa) (h:=λt=>.str t.2.1) (λa _=>aj G2) λa _ _=>e_nm1;rw[aaB]at e;exact bj (zy h) (by rw[aaa];omega) rfl e rfl
theorem wu{y:Int} (i:A.length<=1000) (h:x4=AhL A\/x4=nT A) (b:∀t∈A,t.2.1=(ap:Str)->t.2.2=[.int y]):ev C (.comp 1 [] (.seq (.nm 4)) (.nm 0) (.some (.cmp .eq wo (.str ap))) edn) (rE rs cs ts x3 x4 o5 o6 o7 o8 o9 o10)=some (.val (.lst (((A.filter λt=>decide (t.2.1=(ap:Str))).map λ_=>PyData.int y).map OD.fz)),rE rs cs ts x3 (nT A) o5 o6 o7 o8 o9 o10):=by obtain⟨f,e⟩:=iL (t:=.cmp .eq wo (.str ap)) (elt:=.ix efa (.int 1)) (g:=tDa) (λa _=>aj (e_cmp e_nm1 rfl rfl rfl rfl)) λa c d=>ax (ax rfl rfl rfl (aF rfl)) rfl rfl (aF (by rw[b a c (Daa d)];rfl));rw[aaB]at e;exact bj (zy h) (by rw[aaa];omega) rfl e rfl
end
abbrev rB:Ss:=match F_right.body with|.cons _ (.cons _ (.cons _ (.cons _ (.cons _ (.cons (.fr _ _ b) _)))))=>b|_=>.nil
theorem wx(d:ev C a ρ=some (.val (.lst xs),ρ1))(c:ev C b ρ1=some (y,ρ2))(g:aq ρ2 y=some (.int k))(f:qY xs=some ds)(e:-(2^62)<=k/\k<2^62/\ds.length*k.toNat<=1000000):ev C (.rep a b) ρ=some (.val (.lst ((List.replicate k.toNat ds).flatten.map OD.fz)),ρ2):=bs d (bs c (bs rfl (bs g (bs rfl (bs f (bg e rfl))))))
section
variable{C:Ct}{rs:List R}{cs:List Int}{ts A:List Th}{x3 x4:OD}{o7 o8 o9 o10:Option OD}{p:Nat}{w:Str}{xs:List PyData}
abbrev rP(rs:List R)(cs:List Int)(ts:List Th)(x3 x4:OD)(t:Th)(o7 o8 o9 o10:Option OD):DEnv:=rE rs cs ts x3 x4 (Db t.1) (some (.fz (.tuple (.str t.2.1::t.2.2)))) o7 o8 o9 o10
theorem G3:ev C efd (rP rs cs ts x3 x4 (p,w,xs) o7 o8 o9 o10)=some (.val (.fz (.str w)),rP rs cs ts x3 x4 (p,w,xs) o7 o8 o9 o10):=ax rfl rfl rfl (aF atI_zero)
theorem nU:aM C ecv (rP rs cs ts x3 x4 (p,w,xs) o7 o8 o9 o10)=some (decide (w=(am:Str)),rP rs cs ts x3 x4 (p,w,xs) o7 o8 o9 o10):=aj (e_cmp G3 rfl rfl rfl rfl)
theorem AB:aM C (.cmp .inn efd DD) (rP rs cs ts x3 x4 (p,w,xs) o7 o8 o9 o10)=some (opW w,rP rs cs ts x3 x4 (p,w,xs) o7 o8 o9 o10):=aj (e_cmp G3 rfl rfl rfl rfl)
theorem wy(e:A.length<=1000) (d:w≠(am:Str)) (g:opW w=false) (f:(A.any λt=>opW t.2.1)=false):av C rB (rP rs cs ts x3 (AhL A) (p,w,xs) o7 o8 o9 o10)=some (.nx,rP rs cs ts x3 (AhL [(p,w,xs)]) (p,w,xs) o7 o8 o9 o10):=by have b:=nU (C:=C) (rs:=rs) (cs:=cs) (ts:=ts) (x3:=x3) (x4:=AhL A) (p:=p) (w:=w) (xs:=xs) (o7:=o7) (o8:=o8) (o9:=o9) (o10:=o10);have c:=AB (C:=C) (rs:=rs) (cs:=cs) (ts:=ts) (x3:=x3) (x4:=AhL A) (p:=p) (w:=w) (xs:=xs) (o7:=o7) (o8:=o8) (o9:=o9) (o10:=o10);rw[Dab d]at b;rw[g]at c;have a:=wq (C:=C) (rs:=rs) (cs:=cs) (ts:=ts) (A:=A) (x3:=x3) (x4:=AhL A) (o5:=Db p) (o6:=some (.fz (.tuple (.str w::xs)))) (o7:=o7) (o8:=o8) (o9:=o9) (o10:=o10) e (.inl rfl);rw[f]at a;exact ab (s_ifF b (ab (s_ifF c (ab (s_ifF (Aa a) rfl) (ab (ah (ρ3:=rP rs cs ts x3 (AhL [(p,w,xs)]) (p,w,xs) o7 o8 o9 o10) (aJ (zs:=[.fz (tDa (p,w,xs))]) (aa (bc (z:=.fz (tDa (p,w,xs))) (aa rfl (aa rfl af)) rfl rfl rfl) af) rfl rfl) rfl rfl rfl) rfl))) rfl)) rfl
theorem zB(f:A.length<=1000)(c:opW w=true):av C rB (rP rs cs ts x3 (AhL A) (p,w,xs) o7 o8 o9 o10)=some (.nx,rP rs cs ts x3 (AhL (A++[(p,w,xs)])) (p,w,xs) o7 o8 o9 o10):=by
 have d:w≠(am:Str):=λe=>by subst e;exact absurd c (by decide)
 have a:=nU (C:=C) (rs:=rs) (cs:=cs) (ts:=ts) (x3:=x3) (x4:=AhL A) (p:=p) (w:=w) (xs:=xs) (o7:=o7) (o8:=o8) (o9:=o9) (o10:=o10);have b:=AB (C:=C) (rs:=rs) (cs:=cs) (ts:=ts) (x3:=x3) (x4:=AhL A) (p:=p) (w:=w) (xs:=xs) (o7:=o7) (o8:=o8) (o9:=o9) (o10:=o10);rw[Dab d]at a;rw[c]at b;refine ab (s_ifF a (ab (au b (ab (br (ρ1:=rP rs cs ts x3 (AhL A) (p,w,xs) o7 o8 o9 o10) (ρ2:=rP rs cs ts x3 (AhL A) (p,w,xs) o7 o8 o9 o10) (ρ3:=rP rs cs ts x3 (AhL (A++[(p,w,xs)])) (p,w,xs) o7 o8 o9 o10) (xs:=A.map λt=>.fz (tDa t)) rfl (bc (z:=.fz (tDa (p,w,xs))) (aa rfl (aa rfl af)) rfl rfl rfl) rfl rfl (by rw[aaa];omega) ?_) rfl)) rfl)) rfl;show _=[_,_,_,_,some (AhL (A++[(p,w,xs)])),_,_,_,_,_,_];rw[qo];rfl
def bx(a:Bool):List PyData:=if a=true then [.str ap] else []
def cY(a:Bool):List PyData:=if a=true then [.str dL] else []
inductive Lst1:List PyData->Bool->Prop
 |no:Lst1 [] true
 |one (w:Str) (h:PyData.strOk w=true):Lst1 [.str w] (!(decide (ac=w)||(decide (ci=w)||false)))
theorem DH(h:PyData.strOk w=true):g9 .eq (.list [.str w]) (.list [])=some false:=by
 have b:SeqAt.shaped (.list [.str w])=true:=by simp[SeqAt.shaped,PyData.canLay0,PyData.canLayAll0,PyData.depth,PyData.depthAll,h]
 have a:SeqAt.shaped (.list [])=true:=by decide +kernel
 show (if (SeqAt.shaped (.list [.str w])&&SeqAt.shaped (.list []))=true then some (PyData.eqv (.list [.str w]) (.list [])) else none)=_;rw[b,a];simp[PyData.eqv,PyData.eqvAll]
theorem G4(h:Lst1 la ov):ev C eaf (rP rs cs ts x3 x4 (p,w,xs) o7 (some (.lst (la.map OD.fz))) o9 o10)=some (.val (.lst ((bx ov).map OD.fz)),rP rs cs ts x3 x4 (p,w,xs) o7 (some (.lst (la.map OD.fz))) o9 o10):=by
 have a:∀b:Bool,ev C Ka (rP rs cs ts x3 x4 (p,w,xs) o7 (some (.lst (la.map OD.fz))) o9 o10)=some (.val (.fz (.bool b)),rP rs cs ts x3 x4 (p,w,xs) o7 (some (.lst (la.map OD.fz))) o9 o10)->ev C eaf (rP rs cs ts x3 x4 (p,w,xs) o7 (some (.lst (la.map OD.fz))) o9 o10)=some (.val (.lst ((bx b).map OD.fz)),rP rs cs ts x3 x4 (p,w,xs) o7 (some (.lst (la.map OD.fz))) o9 o10):=λb c=>by
  cases b
  ·exact wx (k:=0) (aJ (aa rfl af) rfl rfl) (aE (aa c af) (eW rfl) rfl) rfl rfl (by decide)
  ·exact wx (k:=1) (ds:=[.str ap]) (aJ (aa rfl af) rfl rfl) (aE (aa c af) (eW rfl) rfl) rfl rfl (by decide)
 refine a ov ?_;cases h with
 |no=>exact lK (e_cmp rfl rfl rfl rfl rfl)
 |one w h=>exact lL (e_cmp rfl rfl rfl rfl (DH h)) (e_cmp (ax rfl rfl rfl rfl) rfl rfl rfl rfl)
end
section
variable{C:Ct}{rs:List R}{cs:List Int}{ts A:List Th}{x3 x4:OD}{o7 o8 o9 o10:Option OD}{p:Nat}{ds:List PyData}
theorem DJ:∀a b:Bool,g9 .nid (.list (bx a++cY b)) (.tuple [.list (bx a),.list (bx a++[.str dL])])=some false:=by decide +kernel
theorem G5(a b:Bool):aM C ea7 (rP rs cs ts x3 x4 t (some (.lst ((bx a++cY b).map OD.fz))) o8 (some (.lst ((bx a).map OD.fz))) o10)=some (false,rP rs cs ts x3 x4 t (some (.lst ((bx a++cY b).map OD.fz))) o8 (some (.fz (.list (bx a)))) o10):=by
 have e:ev C JX (rP rs cs ts x3 x4 t (some (.lst ((bx a++cY b).map OD.fz))) o8 (some (.lst ((bx a).map OD.fz))) o10)=some (.val (.lst ((bx a++[PyData.str dL]).map OD.fz)),rP rs cs ts x3 x4 t (some (.lst ((bx a++cY b).map OD.fz))) o8 (some (.lst ((bx a).map OD.fz))) o10):=by cases a<;>exact gh rfl (aJ (aa rfl af) rfl rfl) (kb rfl) rfl (by decide)
 refine aj (e_cmp rfl (bc (zs:=[.fz (.list (bx a)),.lst ((bx a++[PyData.str dL]).map OD.fz)]) (aa rfl (aa e af)) rfl ?_ rfl) (dat_fz _) ?_ (DJ a b))
 ·cases a<;>rfl
 ·cases a<;>rfl
theorem zC{t:Th}{zs:List Th}(d:zs.length<=1000):aM C eae (rP rs cs ts x3 x4 (p,am,[.tuple ds]) o7 o8 o9 (some (.lst ((zs.map λ_=>PyData.int ((p:Int)+1+2*(ds.length:Int))).map OD.fz))))=some (false,rP rs cs ts x3 x4 (p,am,[.tuple ds]) o7 o8 o9 (some (.fz (.list (zs.map λ_=>PyData.int ((p:Int)+1+2*(ds.length:Int))))))):=by
 obtain⟨c,e⟩:=ku (elt:=.cmp .ne (.nm 0) J8) (g:=λ_:Th=>.int ((p:Int)+1+2*(ds.length:Int))) (ρ:=[Db p,some (.fz (.tuple [.str am,.tuple ds]))]) λa _=>e_cmp rfl (ae (ae rfl rfl rfl rfl rfl) (ae rfl (aE (aa (ax rfl rfl rfl (aF rfl)) af) rfl rfl) rfl rfl (bM (by decide))) rfl rfl rfl) rfl rfl (show some (!decide ((p:Int)+1+2*(ds.length:Int)=(p:Int)+1+2*(ds.length:Int)))=some false by rw[Dac rfl];rfl);rw[aaB]at e;refine Aa (aE (aa (bj (bt rfl (bD rfl (dat_fz _) rfl) rfl) (by rw[aaa];omega) rfl e rfl) af) (eW (dat_fz _)) ?_);have b:=gZ (zs.map λ_=>false);rw[aaL]at b;refine bs b ?_;have:(zs.map λ_=>false).any id=false:=by rw[abV];exact acm.mpr λ_ _=>aaf
 rw[this]
theorem r6(a:A.length<=1000) (q:p%2=1) (d:((A.filter λt=>!opW t.2.1).map λt=>PyData.str t.2.1)=la) (m:Lst1 la ov) (i:((A.filter λt=>opW t.2.1).map λt=>PyData.str t.2.1)=bx ov++cY pd) (k:∀t∈A,t.2.1=(ap:Str)->t.2.2=[.int ((p:Int)+1+2*(ds.length:Int))]):∃n o l b,av C rB (rP rs cs ts x3 (AhL A) (p,am,[.tuple ds]) o7 o8 o9 o10)=some (.nx,rP rs cs ts x3 (AhL [(p,gl,[])]) (p,am,[.tuple ds]) n o l b):=by
 have f:=nU (C:=C) (rs:=rs) (cs:=cs) (ts:=ts) (x3:=x3) (x4:=AhL A) (p:=p) (w:=am) (xs:=[.tuple ds]) (o7:=o7) (o8:=o8) (o9:=o9) (o10:=o10);rw[Dac rfl]at f;have e:=DF (C:=C) (rs:=rs) (cs:=cs) (ts:=ts) (A:=A) (x3:=x3) (o5:=Db p) (o6:=some (.fz (.tuple [.str am,.tuple ds]))) (o7:=o7) (o8:=o8) (o9:=o9) (o10:=o10) a (.inl rfl);have h:=zA (C:=C) (rs:=rs) (cs:=cs) (ts:=ts) (A:=A) (x3:=x3) (o5:=Db p) (o6:=some (.fz (.tuple [.str am,.tuple ds]))) (o7:=some (.lst ((bx ov++cY pd).map OD.fz))) (o8:=o8) (o9:=o9) (o10:=o10) a (.inr rfl);have g:=wu (C:=C) (rs:=rs) (cs:=cs) (ts:=ts) (A:=A) (x3:=x3) (o5:=Db p) (o6:=some (.fz (.tuple [.str am,.tuple ds]))) (o7:=some (.lst ((bx ov++cY pd).map OD.fz))) (o8:=some (.lst (la.map OD.fz))) (o9:=some (.lst ((bx ov).map OD.fz))) (o10:=o10) a (.inr rfl) k;rw[i]at e;rw[d]at h;generalize hz:A.filter (λt=>decide (t.2.1=(ap:Str)))=zs at g;have c:zs.length<=1000:=by rw[<-hz];exact aar (abu _ _) a
 refine⟨some (.lst ((bx ov++cY pd).map OD.fz)),some (.lst (la.map OD.fz)),some (.fz (.list (bx ov))),some (.fz (.list (zs.map λ_=>PyData.int ((p:Int)+1+2*(ds.length:Int))))),ab (au f ?_) rfl⟩;refine ab (ah (ρ3:=rP rs cs ts x3 (nT A) (p,am,[.tuple ds]) (some (.lst ((bx ov++cY pd).map OD.fz))) o8 o9 o10) e rfl rfl rfl) ?_;refine ab (ah (ρ3:=rP rs cs ts x3 (nT A) (p,am,[.tuple ds]) (some (.lst ((bx ov++cY pd).map OD.fz))) (some (.lst (la.map OD.fz))) o9 o10) h rfl rfl rfl) ?_;refine ab (ah (ρ3:=rP rs cs ts x3 (nT A) (p,am,[.tuple ds]) (some (.lst ((bx ov++cY pd).map OD.fz))) (some (.lst (la.map OD.fz))) (some (.lst ((bx ov).map OD.fz))) o10) (G4 m) rfl rfl rfl) ?_;refine ab (ah (ρ3:=rP rs cs ts x3 (nT A) (p,am,[.tuple ds]) (some (.lst ((bx ov++cY pd).map OD.fz))) (some (.lst (la.map OD.fz))) (some (.lst ((bx ov).map OD.fz))) (some (.lst ((zs.map λ_=>PyData.int ((p:Int)+1+2*(ds.length:Int))).map OD.fz)))) g rfl rfl rfl) ?_;refine ab (s_ifF (dH (aj (e_cmp (dx:=.int ((p:Int)%2)) (dy:=.int 0) (ae rfl rfl rfl rfl (bf (j:=2) (by decide))) rfl rfl rfl (show some (decide ((p:Int)%2=0))=some false by rw[Dab (by omega)]))) (G5 ov pd)) rfl) ?_;refine ab (s_ifF (zC (t:=(p,am,[.tuple ds])) c) rfl) ?_;exact ab (ah (aJ (zs:=[.fz (tDa (p,gl,[]))]) (aa (bc (z:=.fz (tDa (p,gl,[]))) (aa rfl (aa rfl af)) rfl rfl rfl) af) rfl rfl) rfl rfl rfl) rfl
end
inductive Gos:List Th->List Th->List Th->Prop
 |nil {A:List Th}:Gos A [] A
 |row {A B ts:List Th}{p:Nat}{w:Str}{xs:List PyData} (hA:A.length<=1000) (hw:w≠(am:Str)) (ho:opW w=false) (ha:(A.any λt=>opW t.2.1)=false) (k:Gos [(p,w,xs)] ts B):Gos A ((p,w,xs)::ts) B
 |op {A B ts:List Th}{p:Nat}{w:Str}{xs:List PyData} (hA:A.length<=1000) (ho:opW w=true) (k:Gos (A++[(p,w,xs)]) ts B):Gos A ((p,w,xs)::ts) B
 |pool {A B ts:List Th}{p:Nat}{ds la:List PyData}{ov pd:Bool} (hA:A.length<=1000) (hp:p%2=1) (hla:((A.filter λt=>!opW t.2.1).map λt=>PyData.str t.2.1)=la) (hl:Lst1 la ov) (hs:((A.filter λt=>opW t.2.1).map λt=>PyData.str t.2.1)=bx ov++cY pd) (hy:∀t∈A,t.2.1=(ap:Str)->t.2.2=[.int ((p:Int)+1+2*(ds.length:Int))]) (k:Gos [(p,gl,[])] ts B):Gos A ((p,am,[.tuple ds])::ts) B
theorem Gos.app(h:Gos A ts B)(k:Gos B us D):Gos A (ts++us) D:=by
 induction h with
 |nil=>exact k
 |row a f c g _ b=>exact .row a f c g (b k)
 |op a c _ b=>exact .op a c (b k)
 |pool a l d i e j _ b=>exact .pool a l d i e j (b k)
section
variable{C:Ct}{rs:List R}{cs:List Int}{ts:List Th}{x3:OD}
theorem gos_loop(h:Gos A us B):∀{o5 o6 o7 o8 o9 o10:Option OD},∃c f i b g a,bh (λd j=>(aW (.tp [5,6]) (.fz d) j).bind λρ1=>av C rB ρ1) (us.map tDa) (rE rs cs ts x3 (AhL A) o5 o6 o7 o8 o9 o10)=some (.nx,rE rs cs ts x3 (AhL B) c f i b g a):=by
 induction h with
 |nil=>exact λ{o5 o6 o7 o8 o9 o10}=>⟨o5,o6,o7,o8,o9,o10,rfl⟩
 |@row A B us p w xs hA hw ho ha _ ih=>intro o5 o6 o7 o8 o9 o10;obtain⟨c,f,i,b,g,a,e⟩:=ih;exact⟨c,f,i,b,g,a,bs (bs rfl (wy hA hw ho ha)) e⟩
 |@op A B us p w xs hA ho _ ih=>intro o5 o6 o7 o8 o9 o10;obtain⟨c,f,i,b,g,a,e⟩:=ih;exact⟨c,f,i,b,g,a,bs (bs rfl (zB hA ho)) e⟩
 |@pool A B us p ds la ov pd hA hp hla hl hs hy _ ih=>intro o5 o6 o7 o8 o9 o10;obtain⟨o,m,n,l,k⟩:=r6 hA hp hla hl hs hy;obtain⟨c,f,i,b,g,a,e⟩:=ih;exact⟨c,f,i,b,g,a,bs (bs rfl k) e⟩
end
def mq(w:Str):Bool:=!(decide (ap=w)||(decide (dL=w)||(decide (am=w)||false)))
abbrev G6:E:=.cmp .nin efc (.tup ebv)
theorem nV:∀{ts:List Th}{out:List PyData}{o0 o1:Option OD},∃b,bH (bK C (.tp [0,1]) (.some G6) efc) (ts.map tDa) out [o0,o1]=some (out++(ts.filter λt=>mq t.2.1).map λt=>PyData.str t.2.1,b)
 |[],out,o0,o1=>⟨[o0,o1],by rw[ab4,aaA,aaA,aam];rfl⟩
 | (p,w,xs)::ts,out,o0,o1=>by
  have f:ev C efc [Db p,some (.fz (.tuple (.str w::xs)))]=some (.val (.fz (.str w)),[Db p,some (.fz (.tuple (.str w::xs)))]):=ax rfl rfl rfl (aF atI_zero);have d:aM C G6 [Db p,some (.fz (.tuple (.str w::xs)))]=some (mq w,[Db p,some (.fz (.tuple (.str w::xs)))]):=aj (e_cmp f rfl rfl rfl rfl);cases c:mq w with
  |false=>rw[c]at d;obtain⟨b,e⟩:=nV;refine⟨b,bs (lN rfl d) ?_⟩;rw[e,aam,abI (by rw[c];decide)]
  |true=>rw[c]at d;obtain⟨b,e⟩:=nV;refine⟨b,bs (lM rfl d f rfl) ?_⟩;rw[e,abH (a:=(p,w,xs)) c,aac];rfl
abbrev rN(rs:List R):List PyData:=rs.map λr=>PyData.str (rnm r)
theorem wz(r:R):PyData.strOk (rnm r)=true:=by
 cases r with
 |st x k=>show PyData.strOk (if 99<k then _ else _)=true;split<;>decide +kernel
 |ot w a h=>exact h.2
theorem lay_rN:∀rs:List R,PyData.canLayAll0 (rN rs)=true
 |[]=>rfl
 |r::rs=>by simp[rN,PyData.canLayAll0,PyData.canLay0,wz,lay_rN rs]
theorem wA:∀rs:List R,PyData.depthAll (rN rs)=0
 |[]=>rfl
 |r::rs=>by simp[rN,PyData.depthAll,PyData.depth];exact wA rs
theorem G7(rs:List R):g9 .ne (.list (rN rs)) (.list (rN rs))=some false:=by
 have a:(PyData.list (rN rs)).canLay0=true:=lay_rN rs;have h:SeqAt.shaped (.list (rN rs))=true:=by simp[SeqAt.shaped,PyData.canLay0,PyData.depth,lay_rN,wA]
 show (if (SeqAt.shaped (.list (rN rs))&&SeqAt.shaped (.list (rN rs)))=true then some (PyData.eqv (.list (rN rs)) (.list (rN rs))) else none).bind _=_;rw[h,aco,if_pos rfl,eqv_refl _ a];rfl
theorem DL(h:ev C a ρ=some (x,ρ1))(c:aq ρ1 x=some d)(b:isNn d=false):aM C (.isn false a) ρ=some (false,ρ1):=bs (bs h (bs c rfl)) (by show some (isNn d,ρ1)=_;rw[b])
theorem G8:ev (KO (n+1)) ebo [some (.fz r.d)]=some (.val (.fz (.str (rnm r))),[some (.fz r.d)]):=by
 have a:aM (KO (n+1)) JU [some (.fz r.d)]=some (r.gr,[some (.fz r.d)]):=bq (ag rfl rfl (pF r) rfl);cases r with
 |st x k=>
  by_cases h:99<k
  ·have b:rnm (R.st x k)=jp:=if_pos h;have c:(R.st x k).gr=true:=Dac h;rw[c]at a;rw[b];exact eA a rfl
  ·have b:rnm (R.st x k)=ce:=if_neg h;have c:(R.st x k).gr=false:=Dab h;rw[c]at a;rw[b];exact gg a (ax rfl rfl rfl (aF atI_zero))
 |ot w e h=>exact gg a (ax rfl rfl rfl (aF atI_zero))
theorem zD(A:rs.length<=60)(h:Wk cs 0 ts cs.length)(r:ts.length<=1000)(u:((ts.filter λt=>mq t.2.1).map λt=>PyData.str t.2.1)=rN rs)(g:Gos [] ts B)(hB:B.length<=1000)(p:(B.any λt=>opW t.2.1)=false):pl.pg.call (n+3) 31 [Rl rs,Dl cs]=some (.fz (.bool true),[Rl rs,Dl cs]):=by have c:=wm (n:=n) h r;have s:(KO (n+2)).call=pl.pg.call (n+2):=rfl;rw[<-s]at c;obtain⟨q,m⟩:=nV;rw[aaB,u]at m;obtain⟨z,e⟩:=ku λa _=>G8;rw[aaB]at e;obtain⟨i,j,o,f,k,b,w⟩:=gos_loop g;have l:=wq (C:=KO (n+2)) (rs:=rs) (cs:=cs) (ts:=ts) (x3:=.lst ((rN rs).map OD.fz)) (o5:=i) (o6:=j) (o7:=o) (o8:=f) (o9:=k) (o10:=b) hB (.inl rfl);rw[p]at l;have v:aq ([Go rs,KM cs,some (.fz (.list (ts.map tDa))),some (.lst ((rN rs).map OD.fz)),none,none,none,none,none,none,none]:DEnv) (.rf 3)=some (.list (rN rs)):=dat_fz _;have d:aq ([Go rs,KM cs,some (.fz (.list (ts.map tDa))),some (.lst ((rN rs).map OD.fz)),none,none,none,none,none,none,none]:DEnv) (.val (.lst ((rN rs).map OD.fz)))=some (.list (rN rs)):=dat_fz _;refine ak (fn:=F_right) (ρ:=rE rs cs ts (.lst ((rN rs).map OD.fz)) (nT B) i j o f k b) rfl rfl ?_ rfl;refine ab (ah (ρ3:=[Go rs,KM cs,some (AhL ts),none,none,none,none,none,none,none,none]) (ag (ρ3:=[Go rs,KM cs,none,none,none,none,none,none,none,none,none]) rfl rfl c rfl) rfl rfl rfl) ?_;refine ab (s_ifF (ρ1:=[Go rs,KM cs,some (AhL ts),none,none,none,none,none,none,none,none]) (DL (x:=.rf 2) rfl (show (AhL ts).dat=_ from nS ts) rfl) rfl) ?_;refine ab (ah (ρ3:=[Go rs,KM cs,some (.fz (.list (ts.map tDa))),some (.lst ((rN rs).map OD.fz)),none,none,none,none,none,none,none]) (bj (ρ2:=[Go rs,KM cs,some (.fz (.list (ts.map tDa))),none,none,none,none,none,none,none,none]) (bt (x:=.rf 2) rfl (bD rfl (nS ts) rfl) rfl) (by rw[aaa];omega) rfl m unca_nil) rfl rfl rfl) ?_;refine ab (s_ifF (aj (e_cmp (x:=.rf 3) (y:=.val (.lst ((rN rs).map OD.fz))) (ρ1:=[Go rs,KM cs,some (.fz (.list (ts.map tDa))),some (.lst ((rN rs).map OD.fz)),none,none,none,none,none,none,none]) (ρ2:=[Go rs,KM cs,some (.fz (.list (ts.map tDa))),some (.lst ((rN rs).map OD.fz)),none,none,none,none,none,none,none]) rfl (bj (bt rfl rfl rfl) (by rw[aaa];omega) rfl e rfl) v d (G7 rs))) rfl) ?_;refine ab (ah (ρ3:=rE rs cs ts (.lst ((rN rs).map OD.fz)) (AhL []) none none none none none none) (aJ af rfl rfl) rfl rfl rfl) ?_;refine ab (cp (bt rfl rfl rfl) w) ?_;exact ar (ai (bs l rfl) rfl)
inductive Ak (rs:List R):Nat->List Th->Prop
 |zero:Ak rs 0 []
 |succ {k:Nat}{r:R}{q:Nat}{xs:List PyData} (h:rs[k]?=some r) (o:r.ok):Ak rs (k+1) [(q,rnm r,xs)]
theorem wB(h:r.ok):opW (rnm r)=false/\rnm r≠(am:Str)/\mq (rnm r)=true:=by
 cases r with
 |st x k=>
  by_cases a:99<k
  ·rw[show rnm (R.st x k)=jp from if_pos a];decide +kernel
  ·rw[show rnm (R.st x k)=ce from if_neg a];decide +kernel
 |ot w c b=>show opW w=false/\w≠(am:Str)/\mq w=true;cases h<;>decide +kernel
theorem zE(r:R):(!(decide (ac=rnm r)||(decide (ci=rnm r)||false)))=r.r8:=by
 cases r with
 |st x k=>
  have e:(R.st x k).r8=true:=rfl;rw[e];by_cases a:99<k
  ·rw[show rnm (R.st x k)=jp from if_pos a];decide +kernel
  ·rw[show rnm (R.st x k)=ce from if_neg a];decide +kernel
 |ot w d c=>show (!(decide (ac=w)||(decide (ci=w)||false)))=(!decide (w=ac)&&!decide (w=ci));rw[aby,Bool.not_or,decide_eq_decide.mpr (eq_comm ),decide_eq_decide.mpr (eq_comm (b:=w))]
theorem Ak.lst(h:Ak rs k A):A.length<=1/\(A.filter λt=>opW t.2.1)=[]/\(A.filter λt=>!opW t.2.1)=A/\(A.any λt=>opW t.2.1)=false/\(∀t∈A,t.2.1≠(ap:Str))/\Lst1 (A.map λt=>PyData.str t.2.1) (ovN rs k):=by
 cases h with
 |zero=>exact⟨aaG _,rfl,rfl,rfl,λt a=>absurd a aaq,.no⟩
 |@succ k r q xs h o=>
  have e:=(wB o).1;refine⟨aae _,by simp[e],by simp[e],by simp[e],λt a=>?_,?_⟩
  ·rw[aaw.mp a];intro z;rw[show rnm r=(ap:Str) from z]at e;exact absurd e (by decide +kernel)
  ·have b:ovN rs (k+1)=r.r8:=by show (rs[k]?).elim true R.r8=_;rw[h];rfl
   rw[b,<-zE];exact .one _ (wz r)
theorem mr{X Y cs:List Int}(h:cs=X++Y)(a:Y[i]?=some x):cs[X.length+i]?=some x:=by rw[h,aaO (abB _ _),ab9];exact a
theorem qp(Q:Qok f qs)(hl:cs.length<=900000)(hA:Ak f.rows k A)(G:∃T,cs=dY f k qs L++T):∃(us B:List Th),Wk cs L.length us (dY f k qs L).length/\us.length<=3/\(us.filter λt=>mq t.2.1)=[]/\Gos A us B/\B.length<=1/\(B.any λt=>opW t.2.1)=false:=by
 obtain⟨a1,I,J,a4,M,a6⟩:=hA.lst;by_cases h:∃q∈qs,q.1=(k:Int)
 ·obtain⟨⟨k',w⟩,U,e⟩:=h;have e:k'=(k:Int):=e;subst e;have S:1<=w.length:=(Q.ok _ U).l0;have hw:w.length<=100:=(Q.ok _ U).l1;obtain⟨ps,rs,rfl⟩:=abT U;rw[Ap Q.inc]at G ⊢;obtain⟨T,G⟩:=G;have b0:=jl (rs:=f.rows) (k:=k) (ws:=w) (p:=(L.length:Int));have X:=fG (rs:=f.rows) (k:=k) (ws:=w) (b:=fw f.rows k L.length);have x:=l5 (p:=(L.length:Int)+(ovL f.rows k w (fw f.rows k L.length)).length);have b5:cs.length=L.length+(poolC f.rows k w L.length).length+T.length:=by rw[G,aad,aad]
  have u:(poolC f.rows k w L.length).length=(ovL f.rows k w (fw f.rows k L.length)).length+((padL ((L.length:Int)+(ovL f.rows k w (fw f.rows k L.length)).length)).length+(1+2*w.length)):=by unfold poolC;rw[aad,aad,aap,gH];omega
  have c:cs=L++(ovL f.rows k w (fw f.rows k L.length)++(padL ((L.length:Int)+(ovL f.rows k w (fw f.rows k L.length)).length)++((7100+(w.length:Int))::(zi w++T)))):=by rw[G];unfold poolC;simp only[aac,aaM]
  obtain⟨O,hO⟩:∃O,O=ovL f.rows k w (fw f.rows k L.length):=⟨_,rfl⟩
  obtain⟨D,Z⟩:∃D,D=padL ((L.length:Int)+O.length):=⟨_,rfl⟩
  rw[<-hO]at c X x u;rw[<-Z]at c x u;have v:cs=(L++O)++(D++((7100+(w.length:Int))::(zi w++T))):=by rw[c,aac]
  have a8:cs=(L++O++D)++((7100+(w.length:Int))::(zi w++T)):=by rw[v,aac (L++O)]
  have hP:cs[L.length+O.length+D.length]?=some (7100+(w.length:Int)):=by have:=mr (i:=0) a8 rfl;rw[aad,aad]at this;exact this
  obtain⟨y,a7,hp⟩:=rZ hP S hw (by omega) hl;have H:(L.length+O.length+D.length)%2=1:=by omega
  have r:L.length+(poolC f.rows k w L.length).length=L.length+O.length+D.length+1+2*w.length:=by omega
  have a0:Sn cs (L.length+O.length+D.length) am [.tuple y] (L.length+O.length+D.length+1+2*w.length):=⟨by omega,λn=>by rw[hp n];push_cast;rfl⟩
  rw[aad,r];have Y:fw f.rows k L.length+2*(w.length:Int)=((L.length+O.length+D.length:Nat):Int)+1+2*(y.length:Int):=by rw[a7];push_cast;omega
  obtain⟨j,wO,lO,fO,pO⟩:∃j:List Th,Wk cs L.length j (L.length+O.length)/\j.length<=1/\(j=[]/\ovN f.rows k=false\/j=[(L.length,(ap:Str),[PyData.int (((L.length+O.length+D.length:Nat):Int)+1+2*(y.length:Int))])]/\ovN f.rows k=true)/\True:=by
   cases d:ovN f.rows k with
   |false=>
    have l:O=[]:=by rw[hO];unfold ovL;rw[d];rfl
    exact⟨[],by rw[l];exact .nil,aaG _,.inl ⟨rfl,rfl⟩,trivial⟩
   |true=>
    have l:O=[7001,fw f.rows k L.length+2*w.length]:=by rw[hO];unfold ovL;rw[if_pos d]
    have g0:cs[L.length]?=some 7001:=mr (i:=0) c (by rw[l];rfl);have g1:cs[L.length+1]?=some (fw f.rows k L.length+2*w.length):=mr c (by rw[l];rfl);rw[Y]at g1;exact⟨_,.one (cW (by rw[l];show _<_+2;omega) (by rw[l];push_cast;rfl) λn=>rW g0 g1 hl),aae _,.inr ⟨rfl,rfl⟩,trivial⟩
  obtain⟨m,wD,lD,fD⟩:∃m:List Th,Wk cs (L.length+O.length) m (L.length+O.length+D.length)/\m.length<=1/\(m=[]\/m=[(L.length+O.length,(dL:Str),[])]):=by
   by_cases hz:((L.length:Int)+O.length)%2=0
   ·have C:D=[7002]:=by rw[Z];unfold padL;rw[if_pos hz]
    have g0:cs[L.length+O.length]?=some 7002:=by have:=mr (i:=0) v (by rw[C];rfl);rw[aad]at this;exact this
    exact⟨_,.one (cW (by rw[C];show _<_+1;omega) (by rw[C];push_cast;rfl) λn=>wa g0 hl),aae _,.inr rfl⟩
   ·have C:D=[]:=by rw[Z];unfold padL;rw[if_neg hz]
    exact⟨[],by rw[C];exact .nil,aaG _,.inl rfl⟩
  refine⟨j++(m++[_]),[(L.length+O.length+D.length,gl,[])],wO.app (wD.app (.one a0)),by rw[aad,aad,aay];omega,?_,?_,aae _,by show (opW gl || false)=false;decide +kernel⟩
  ·rcases fO with ⟨rfl,_⟩|⟨rfl,_⟩<;>rcases fD with rfl|rfl<;>rfl
  ·have N:∀(pd:Bool) (o:List Th),o.length<=1000->(o.filter λt=>!opW t.2.1)=A->((o.filter λt=>opW t.2.1).map λt=>PyData.str t.2.1)=bx (ovN f.rows k)++cY pd->(∀t∈o,t.2.1=(ap:Str)->t.2.2=[.int (((L.length+O.length+D.length:Nat):Int)+1+2*(y.length:Int))])->Gos o [(L.length+O.length+D.length,am,[.tuple y])] [(L.length+O.length+D.length,gl,[])]:=λpd o h1 h2 h3 h4=>.pool h1 H rfl (by rw[h2];exact a6) h3 h4 .nil;have d:opW ap=true:=by decide +kernel
   have g:opW dL=true:=by decide +kernel
   rcases fO with ⟨rfl,s⟩|⟨rfl,s⟩<;>rcases fD with rfl|rfl
   ·exact N false A (by omega) J (by rw[I,s];rfl) λt a z=>absurd z (M t a)
   ·refine .op (by omega) g (N true _ (by rw[aad,aay];omega) (by rw[aaU,J];simp[g]) (by rw[aaU,I,s];simp[g,bx,cY]) λt a z=>?_);rcases aai.mp a with a|a
    ·exact absurd z (M t a)
    ·rw[aaw.mp a]at z;exact absurd (show (dL:Str)=ap from z) (by decide +kernel)
   ·refine .op (by omega) d (N false _ (by rw[aad,aay];omega) (by rw[aaU,J];simp[d]) (by rw[aaU,I,s];simp[d,bx,cY]) λt a z=>?_);rcases aai.mp a with a|a
    ·exact absurd z (M t a)
    ·rw[aaw.mp a]
   ·refine .op (by omega) d (.op (by rw[aad,aay];omega) g (N true _ (by rw[aad,aad,aay,aay];omega) (by rw[aaU,aaU,J];simp[d,g]) (by rw[aaU,aaU,I,s];simp[d,g,bx,cY]) λt a z=>?_));rcases aai.mp a with a|a
    ·rcases aai.mp a with a|a
     ·exact absurd z (M t a)
     ·rw[aaw.mp a]
    ·rw[aaw.mp a]at z;exact absurd (show (dL:Str)=ap from z) (by decide +kernel)
 ·rw[l6 λq g e=>h ⟨q,g,e⟩];exact⟨[],A,.nil,aaG _,rfl,.nil,a1,a4⟩
theorem DM(hk:k<f.rows.length):(fin f qs).ps.getD k 0=(inner f qs k (cF f qs k)).pl:=by
 obtain⟨m,b⟩:∃m,f.rows.length=k+1+m:=⟨f.rows.length-(k+1),by omega⟩
 have a:(fin f qs).ps[k]?=(cF f qs (k+1)).ps[k]?:=by show (inner f qs f.rows.length (cF f qs f.rows.length)).ps[k]?=_;rw[bX,b];exact pK (aaP k)
 have c:(cF f qs (k+1)).ps[k]?=some (inner f qs k (cF f qs k)).pl:=by
  show ((inner f qs k (cF f qs k)).ps++[(inner f qs k (cF f qs k)).pl])[k]?=_;have d:(inner f qs k (cF f qs k)).ps.length=k:=by rw[bX,dW]
  rw[aaO (by omega),d,aa2];rfl
 rw[abg,a,c];rfl
theorem DN{k:Nat}(h:gG f qs 499=[])(b:f.rows[k]?=some r)(d:r.jm=true)(hk:(k:Int) ∉ f.longs)(i:p=(inner f qs k (cF f qs k)).pl):-(farN r 499)<=gn (fin f qs) r.tg-p/\gn (fin f qs) r.tg-p<=farN r 499:=by
 have c:=jIx_in b d;have a:=List.filter_eq_nil_iff.mp h (k:Int) (abb.mpr ⟨c,by rw[Dab hk];rfl⟩);have e:tq f (fin f qs) 499 (k:Int)=decide (farN r 499<if gol (fin f qs) r k<0 then -(gol (fin f qs) r k) else gol (fin f qs) r k):=by unfold tq;rw[aaJ,b];rfl
 rw[e,decide_eq_true_eq]at a;have g:gol (fin f qs) r k=gn (fin f qs) r.tg-p:=by rw[i,<-DM (aan.mp b).1];rfl
 rw[g]at a;split at a<;>omega
theorem G9(h:∀q∈qs,q.2.length<=100):0<=wxN qs u n/\wxN qs u n<=99:=by
 unfold wxN;cases e:qs[u.toNat]? with
 |none=>exact⟨abX _,show (0:Int)<=99 by decide⟩
 |some q=>
  have b:=h q (aaI e);show 0<=(((q.2.findIdx? λm=>decide (m=n)).getD 0:Nat):Int)/\(((q.2.findIdx? λm=>decide (m=n)).getD 0:Nat):Int)<=99;cases a:q.2.findIdx? λm=>decide (m=n) with
  |none=>exact⟨abX _,by decide⟩
  |some j=>have:=(acJ.mp a).1;show 0<=(j:Int)/\(j:Int)<=99;omega
theorem ky:∀{qs:Pz}{L:List Int},∃T,dY f k qs L=L++T
 |[],L=>⟨[],(aam _).symm⟩
 |q::qs,L=>by
  show ∃T,dY f k qs (if q.1=(k:Int) then L++poolC f.rows k q.2 L.length else L)=L++T;split
  ·obtain⟨T,e⟩:=ky;exact⟨_,by rw[e,aac]⟩
  ·exact ky
section
variable{f:Cf}{qs:Pz}{us cs:List Int}
theorem row_st(F:Fok f)(Q:Qok f qs)(o:cs.length<=900000)(p:gG f qs 499=[])(a:f.rows[k]?=some r)(h:cs=CC f qs us (k+1)++T):∃xs,Sn cs (dY f k qs (CC f qs us k)).length (rnm r) xs (CC f qs us (k+1)).length:=by
 have l:k<f.rows.length:=(aan.mp a).1;have b:CC f qs us (k+1)=dY f k qs (CC f qs us k)++cG r (dY f k qs (CC f qs us k)).length (decide ((k:Int)∈f.longs)) (gdat f qs us k r):=by show _++(f.rows[k]?).elim [] _=_;rw[a];rfl
 have n:((dY f k qs (CC f qs us k)).length:Int)=(inner f qs k (cF f qs k)).pl:=nK (vU F (aaR l));rw[b]at h ⊢;rw[aac]at h;rw[aad];refine wg o (F.ok r (aaI a)) (λg=>?_) (λc d=>?_) λi x j=>mr h (by rw[aaX (aan.mp j).1];exact j)
 ·have e:gdat f qs us k r=jn f qs (k,us.getD (nJ f k) 0):=if_pos g;rw[e];exact G9 λq m=>(Q.ok q m).l1
 ·have g:¬ r.gr=true:=λz=>by cases r with|st _ _=>cases c|ot _ _ _=>cases z
  have e:gdat f qs us k r=.int (gn (fin f qs) r.tg):=by unfold gdat;rw[if_neg g,if_pos c]
  rw[e];exact DN p a c (Dad d) n
theorem wG(F:Fok f)(Q:Qok f qs)(d:cs.length<=900000)(h:gG f qs 499=[]):∀{k:Nat},k<=f.rows.length->(∃T,cs=CC f qs us k++T)->∃ts A:List Th,Wk cs 0 ts (CC f qs us k).length/\ts.length<=4*k/\((ts.filter λt=>mq t.2.1).map λt=>PyData.str t.2.1)=rN (f.rows.take k)/\Gos [] ts A/\Ak f.rows k A
 |0,_,_=>⟨[],[],.nil,aae _,rfl,.nil,.zero⟩
 |k+1,hk,c=>by
  obtain⟨T,c⟩:=c;obtain⟨r,b⟩:∃r,f.rows[k]?=some r:=⟨_,aak (by omega)⟩
  have a:∃T,cs=dY f k qs (CC f qs us k)++T:=⟨_,by rw[c];exact aac _ _ _⟩
  have e:∃T,cs=CC f qs us k++T:=by obtain⟨G,n⟩:=a;obtain⟨H,C⟩:=ky;exact⟨_,by rw[n,C,aac]⟩
  obtain⟨ts,A,l,D,q,i,p⟩:=wG F Q d h (by omega) e;obtain⟨v,B,u,I,m,w,J,y⟩:=qp Q d p a;obtain⟨j,s⟩:=row_st F Q d h b c;have g:=F.ok r (aaI b);obtain⟨z,o,x⟩:=wB g;refine⟨ts++(v++[(_,rnm r,j)]),_,l.app (u.app (.one s)),by rw[aad,aad,aay];omega,?_,i.app (w.app (.row (by omega) o z y .nil)),.succ b g⟩;rw[aaU,aaU,m,aaB,aas,q,List.take_add_one,b];show _=(f.rows.take k++[r]).map _;rw[aas];simp[x]
theorem Ha(F:Fok f)(Q:Qok f qs)(b:f.rows.length<=60)(a:qs.length<=61)(o:gG f qs 499=[]):pl.pg.call (n+3) 31 [Rl f.rows,Dl (AC f qs us)]=some (.fz (.bool true),[Rl f.rows,Dl (AC f qs us)]):=by
 have v:=nM (f:=f) (us:=us) (λq a=>(Q.ok q a).l1) a b;have p:=pZ (f:=f) (k:=f.rows.length) (cs:=CC f qs us f.rows.length) λq a=>(Q.ok q a).l1;have c:(AC f qs us).length<=900000:=by show (dY _ _ _ _).length<=_;omega
 obtain⟨r,A,e,s,i,d,h⟩:=wG F Q c o (aae _) ky;obtain⟨t,B,j,u,g,l,w,m⟩:=qp Q c h ⟨[],(aam _).symm⟩;refine zD b (e.app j) (by rw[aad];omega) ?_ (d.app l) (by omega) m;rw[aaU,g,aam,i,List.take_length]
end
theorem sd{f:Cf}{qs:Pz}(b:∀q∈qs,0<=q.1/\q.1<=f.rows.length):(fin f qs).bs.length=qs.length:=by have d:=f7 (f:=f) (qs:=qs) (λq a=>(b q a).1) (k:=f.rows.length);have c:=iE (f:=f) (k:=f.rows.length) (qs:=qs) (s:=cF f qs f.rows.length);have e:=iF (k:=f.rows.length) (qs:=qs) (λq a=>(b q a).1);rw[fin,c,d,<-e,List.countP_eq_length];exact λq a=>Dac (by have:=(b q a).2;omega)
theorem Qok.bl{f:Cf}{qs:Pz}(h:Qok f qs):(fin f qs).bs.length=qs.length:=sd λq a=>⟨(h.ok q a).g0,(h.ok q a).g1⟩
abbrev lB:Ss:=match F_law.body with|.cons (.fr _ _ b) _=>b|_=>.nil
abbrev F0(qs:Pz)(us:List Int):OD:=.tup [.lst ((qs.map Po).map OD.fz),Il us]
abbrev F1(qs:Pz)(us:List Int):OD:=.tup [Pq qs,Il us]
theorem Jv{ρ:DEnv}{j:Nat}{xs:List OD}{k:Nat}{c:OD}{d:PyData}(h:ρ[j]?.join=some (.tup xs))(hk:xs[k]?=some c)(e:c.dat=some d):bp ρ (.rf j) (k:Int)=some (.fz d,ρ.set j (some (.tup (xs.set k (.fz d))))):=by have b:=(aan.mp hk).1;have a:ixN xs.length (k:Int)=some k:=pe b;simp only[bp,h,Option.bind_some,itemS,a,hk,e]
theorem DP{qs:Pz}{us:List Int}:(F1 qs us).dat=some (.tuple [.list (qs.map Po),.list (us.map PyData.int)]):=by rw[F1,OD.dat,OD.dv,OD.dv,aK];rfl
abbrev lE(sc k t:OD)(rs:List R)(x4:OD)(o5:Option OD):DEnv:=[some sc,some k,some t,Go rs,some x4,o5]
theorem mw{m:Nat}{sc k x4:OD}{a b c r0 r1:Int}{rs:List R}{qs:Pz}{us:List Int}{o5:Option OD}(I:x4=Fp qs us\/x4=F0 qs us)(s:rs.length<=60)(N:Nb rs)(z:Jb rs.length rs)(t:qs.length<=61)(Q:Qok ⟨rs,[],r0,r1⟩ qs)(U:Uok ⟨rs,[],r0,r1⟩ qs us)(G:TpOk b c m)(A:m<=50000):∃O D J C,av (KO 7) (match lB with|.cons _ (.cons _ (.cons _ (.cons _ r)))=>r|_=>.nil) (lE sc k (Tp a b c) rs x4 o5)=some (.nx,[some sc,some k,O,D,J,C]):=by
 obtain⟨u,e,g,d,l,⟨y,q⟩,T⟩:=Dc (n:=2) (a:=a) (qs:=qs) (r0:=r0) (r1:=r1) (λu=>⟨Q.ok,Q.inc⟩) (aar t (by decide)) s z G (aar A (by decide));obtain⟨f,o⟩:∃f:Cf,f=⟨rs,u,r0,r1⟩:=⟨_,rfl⟩
 have F:Fok f:=by subst o;exact⟨N,z,y⟩
 have v:Qok f qs:=by subst o;exact⟨Q.ok,Q.inc⟩
 have B:Uok f qs us:=by subst o;exact⟨U.ln,U.bd,U.mm⟩
 have M:f.rows=rs:=by rw[o]
 have S:f.longs=u:=by rw[o]
 rw[<-o]at q;rw[<-M]at l s ⊢;rw[<-S]at l;have h:=Do (n:=1) F v B v.bl t s;have i:=Ha (n:=4) (us:=us) F v s t q;have L:(KO 7).call=pl.pg.call 7:=rfl;have l:pl.pg.call 7 28 [Tp a b c,Rl f.rows,Pq qs]=some (Lo f,[Tp e g d,Rl f.rows,Pq qs]):=l;have h:pl.pg.call 7 13 [Rl f.rows,Lo f,Fp qs us]=some (Il (AC f qs us),[Rl f.rows,Lo f,Fp qs us]):=h;have i:pl.pg.call 7 31 [Rl f.rows,Dl (AC f qs us)]=some (.fz (.bool true),[Rl f.rows,Dl (AC f qs us)]):=i;rw[<-L]at l h i;generalize AC f qs us=cs at *;have w:frz1 (lE sc k (Tp e g d) f.rows (Fp qs us) (IN f)) (.val (Il cs))=some (.list (cs.map PyData.int),lE sc k (Tp e g d) f.rows (Fp qs us) (IN f)):=by show ((Il cs).dat).map _=_;rw[aK];rfl
 have p:∀{x4:OD}{r4:OR},ev (KO 7) (.nm 4) (lE sc k (Tp e g d) f.rows x4 (IN f))=some (r4,lE sc k (Tp e g d) f.rows x4 (IN f))->bF [false,false,false] (lE sc k (Tp e g d) f.rows x4 (IN f)) [.val (Rl f.rows),.val (Lo f),r4]=some ([Rl f.rows,Lo f,Fp qs us],lE sc k (Tp e g d) f.rows (Fp qs us) (IN f))->g6 [false,false,false] [.val (Rl f.rows),.val (Lo f),r4] [Rl f.rows,Lo f,Fp qs us] (lE sc k (Tp e g d) f.rows (Fp qs us) (IN f))=lE sc k (Tp e g d) f.rows (Fp qs us) (IN f)->bL (KO 7) eao (lE sc k (Tp e g d) f.rows x4 (IN f))=some (.nx,lE sc k (Tp e g d) f.rows (Fp qs us) (IN f)):=λ{x4 r4} h1 h2 h3=>s_ifF (vh (k:=true) (bq (ag (rs:=[.val (Rl f.rows),.val (Il cs)]) (ρ1:=lE sc k (Tp e g d) f.rows (Fp qs us) (IN f)) (ρ2:=lE sc k (Tp e g d) f.rows (Fp qs us) (IN f)) (ρ3:=lE sc k (Tp e g d) f.rows (Fp qs us) (IN f)) (aa rfl (aa (ag (rs:=[.val (Rl f.rows),.val (Lo f),r4]) (ρ1:=lE sc k (Tp e g d) f.rows x4 (IN f)) (aa rfl (aa rfl (aa h1 af))) h2 h h3) af)) (show bF [false,false] _ _=_ from kf rfl (kf w rfl)) i rfl))) rfl;rcases I with rfl|rfl
 ·exact⟨_,_,_,_,ab (ah (ρ3:=lE sc k (Tp e g d) f.rows (Fp qs us) (IN f)) (ag (rs:=[.rf 2,.val (Rl f.rows),.val (Pq qs)]) (ρ3:=lE sc k (Tp e g d) f.rows (Fp qs us) o5) rfl rfl l rfl) rfl rfl rfl) (ab (p (r4:=.val (Fp qs us)) rfl rfl rfl) rfl)⟩
 ·have H:bp (lE sc k (Tp a b c) f.rows (F0 qs us) o5) (.rf 4) 0=some (Pq qs,lE sc k (Tp a b c) f.rows (F1 qs us) o5):=Jv (ρ:=lE sc k (Tp a b c) f.rows (F0 qs us) o5) (j:=4) (xs:=[.lst ((qs.map Po).map OD.fz),Il us]) (k:=0) rfl rfl (dat_fz _);exact⟨_,_,_,_,ab (ah (ρ3:=lE sc k (Tp e g d) f.rows (F1 qs us) (IN f)) (ag (rs:=[.rf 2,.val (Rl f.rows),.val (Pq qs)]) (ρ1:=lE sc k (Tp a b c) f.rows (F1 qs us) o5) (ρ3:=lE sc k (Tp e g d) f.rows (F1 qs us) o5) (aa rfl (aa rfl (aa (ax (x:=.rf 4) rfl rfl rfl H) af))) rfl l rfl) rfl rfl rfl) (ab (p (r4:=.rf 4) rfl (kf rfl (kf rfl (kf (bD rfl DP rfl) rfl))) rfl) rfl)⟩
theorem DQ{rs:List R}:(Rs rs).dat=some (.list (rs.map R.d)):=by rw[Rs,<-Gz];exact dat_fz _
theorem wH{m:Nat}{sc k:OD}{a b c:Int}{rs:List R}{o4 o5:Option OD}(J:rs.length<=60)(L:Nb rs)(hj:Jb rs.length rs)(ht:TpOk b c m)(q:m<=40000):∃B v w t,av (KO 7) (match lB with|.cons _ (.cons _ r)=>r|_=>.nil) [some sc,some k,Ev a b c,EQ rs,o4,o5]=some (.nx,[some sc,some k,B,v,w,t]):=by
 obtain⟨g,h,i,p,o,H,t1,Q,Y,hu,T,A⟩:=GD (n:=4) (f:=⟨rs,[],0,0⟩) (a:=a) L J ht (aar q (by decide));obtain⟨x,l,M,C,O,x0,x1,t2⟩:=aw (n:=6) (a:=i) (many:=2) t1 (aar (abr q 1000) (by decide)) (by decide) (by decide);have H:pl.pg.call 7 24 [Tp a b c,Rl rs]=some (Fp g h,[Tp i p o,Rl rs]):=H;have O:pl.pg.call 7 16 [Tp i p o,It 2]=some (It x,[Tp l M C,It 2]):=O;have ec:(KO 7).call=pl.pg.call 7:=rfl;rw[<-ec]at H O;have Z:bL (KO 7) eca [some sc,some k,Ev a b c,EQ rs,o4,o5]=some (.nx,lE sc k (Tp i p o) rs (Fp g h) o5):=by have zr:frz1 [some sc,some k,none,EQ rs,o4,o5] (.rf 3)=some (.list (rs.map R.d),[some sc,some k,none,Go rs,o4,o5]):=bD rfl DQ rfl;refine ah (x:=.val (Fp g h)) (z:=Fp g h) (ρ1:=[some sc,some k,Ev i p o,Go rs,o4,o5]) (ρ2:=[some sc,some k,Ev i p o,Go rs,o4,o5]) (ag (rs:=[.rf 2,.rf 3]) (ρ1:=[some sc,some k,Ev a b c,EQ rs,o4,o5]) (ρ2:=[some sc,some k,none,Go rs,o4,o5]) rfl ?_ H rfl) rfl rfl rfl;show bF [true,false] _ [.rf 2,.rf 3]=_;have zm:mv1 [some sc,some k,Ev a b c,EQ rs,o4,o5] (.rf 2)=some (Tp a b c,[some sc,some k,none,EQ rs,o4,o5]):=rfl;simp only[bF,zm,zr]
 have D:aM (KO 7) ebw (lE sc k (Tp i p o) rs (Fp g h) o5)=some (decide (x=0),lE sc k (Tp l M C) rs (Fp g h) o5):=aj (e_cmp (dx:=.int x) (dy:=.int 0) (ag (ρ3:=lE sc k (Tp l M C) rs (Fp g h) o5) rfl rfl O rfl) rfl rfl rfl rfl);by_cases hx:x=0
 ·obtain⟨u,y,s,I,N,S,t3⟩:=zq (n:=5) (a:=l) t2 (aar (abr q 1001) (by decide));obtain⟨j,U,G,X,Q',U'⟩:=Dz (n:=4) (f:=⟨rs,[],u,y⟩) L J;have S:pl.pg.call 7 20 [Tp l M C]=some (.fz (.tuple [.int u,.int y]),[Tp s I N]):=S;have G:pl.pg.call 7 25 [Rl rs,.fz (.list []),.fz (.tuple [.int u,.int y])]=some (F0 j U,[Rl rs,.fz (.list []),.fz (.tuple [.int u,.int y])]):=G;rw[<-ec]at S G;rw[Dac hx]at D;obtain⟨B,v,w,t,e⟩:=mw (sc:=sc) (k:=k) (x4:=F0 j U) (a:=s) (o5:=o5) (.inr rfl) J L hj X Q' U' t3 (aar (abr q 1009) (by decide));exact⟨B,v,w,t,ab Z (ab (au D (ab (ah (ρ3:=lE sc k (Tp s I N) rs (F0 j U) o5) (ag (rs:=[.val (Rl rs),.val (.lst []),.val (.fz (.tuple [.int u,.int y]))]) (ρ3:=lE sc k (Tp s I N) rs (Fp g h) o5) (aa rfl (aa rfl (aa (ag (ρ3:=lE sc k (Tp s I N) rs (Fp g h) o5) rfl rfl S rfl) af))) rfl G rfl) rfl rfl rfl) rfl)) e)⟩
 ·rw[Dab hx]at D;obtain⟨B,v,w,t,e⟩:=mw (sc:=sc) (k:=k) (x4:=Fp g h) (a:=l) (o5:=o5) (.inl rfl) J L hj (aar T (by decide)) Q ⟨Y,hu,A⟩ t2 (aar (abr q 1001) (by decide));exact⟨B,v,w,t,ab Z (ab (s_ifF D rfl) e)⟩
theorem pure(ns:List Int)(X:ns.length<=63):∃ys,pl.pg.call 8 Gu [.fz (.list (ns.map PyData.int))]=some (.fz (.bool true),ys):=by
 obtain⟨sc,g⟩:∃sc:OD,sc=.fz (.list (ns.map PyData.int)):=⟨_,rfl⟩
 have A:∀(i:Nat) (l f c o4 o5:Option OD),i<=8->∃s r o p j,((aW (.nm 1) (.fz (.int i)) [some sc,l,f,c,o4,o5]).bind λρ1=>av (KO 7) lB ρ1)=some (.nx,[some sc,s,r,o,p,j]):=by intro i l f c o4 o5 T;obtain⟨a,b,L,t⟩:=CZ (n:=5) (ns:=ns) T;obtain⟨rs,C,I,G,B,D,w,N⟩:=C0 (n:=4) (a:=a) t (aaG _);have J:(KO 7).call=pl.pg.call 7:=rfl;rw[show 5+2=7 from rfl,<-J,<-g]at L;rw[show 4+3=7 from rfl,<-J]at B;obtain⟨r,o,p,j,S⟩:=wH (sc:=sc) (k:=It i) (a:=C) (o4:=o4) (o5:=o5) D w.1 w.2 N (by decide);have M:bL (KO 7) eb9 [some sc,Db i,f,c,o4,o5]=some (.nx,[some sc,Db i,Ev a b 0,c,o4,o5]):=ah (ρ2:=[some sc,Db i,f,c,o4,o5]) (ag (rs:=[.val sc,.val (It i)]) (ρ1:=[some sc,Db i,f,c,o4,o5]) (ρ2:=[some sc,Db i,f,c,o4,o5]) (ρ3:=[some sc,Db i,f,c,o4,o5]) (by rw[g];rfl) (by rw[g];rfl) L rfl) rfl rfl rfl;have s2:bL (KO 7) edh [some sc,Db i,Ev a b 0,c,o4,o5]=some (.nx,[some sc,Db i,Ev C I G,EQ rs,o4,o5]):=ah (ρ2:=[some sc,Db i,Ev C I G,c,o4,o5]) (z:=Rs rs) (ag (ρ3:=[some sc,Db i,Ev C I G,c,o4,o5]) rfl rfl B rfl) rfl rfl rfl;exact⟨_,_,_,_,_,bs (x:=[some sc,Db i,f,c,o4,o5]) rfl (ab M (ab s2 S))⟩
 have y:∀(m i:Nat) (l f c o4 o5:Option OD),i+m<=9->∃s r o p j,bh (λd H=>(aW (.nm 1) (.fz d) H).bind λρ1=>av (KO 7) lB ρ1) (bP i m) [some sc,l,f,c,o4,o5]=some (.nx,[some sc,s,r,o,p,j]):=by
  intro m;induction m with
  |zero=>intro i l f c o4 o5 _;exact⟨_,_,_,_,_,rfl⟩
  |succ m O=>intro i l f c o4 o5 h;obtain⟨s,r,o,p,j,B⟩:=A i l f c o4 o5 (by omega);obtain⟨U,Z,Q,Y,q5,e2⟩:=O (i+1) s r o p j (by omega);rw[aT];exact⟨U,Z,Q,Y,q5,bs B e2⟩
 obtain⟨q,u⟩:∃q:Int,q=if (ns.length:Int)<8 then (ns.length:Int) else 8:=⟨_,rfl⟩
 have hb:0<=q/\q<=8:=by rw[u];split<;>omega
 obtain⟨s,r,o,p,j,e⟩:=y (1+q).toNat 0 none none none none none (by omega);rw[g]at e;have v:ev (KO 7) ebp [some (.fz (.list (ns.map PyData.int))),none,none,none,none,none]=some (.val (It q),[some (.fz (.list (ns.map PyData.int))),none,none,none,none,none]):=aE (aa rfl (aa (aE rfl rfl blen) af)) rfl (by rw[u];rfl);exact⟨_,ak (fn:=F_law) rfl rfl (ab (cp (dM (n:=1+q) (ae rfl v rfl rfl rfl) rfl (by omega)) e) (ar (ai rfl rfl))) rfl⟩
set_option maxHeartbeats 0
def lm:Str:="law_nearpool_k29_words_at_even_places"
open PySem.W in
def vi(n:Int):Value:=.int n 0
def vr(a:Addr):Value:=.ref a
def vs(x:Str)(t:Nat):Value:=.str x t
def nt(P:Params)(k:Str)(t:Nat)(v:Value):DictEntry:=⟨PyData.keyHash P k,.str k t,v⟩
def fo(d:Df)(m:Str)(t c:Nat):Obj:=⟨.type "function",none,.func (PySem.W.fnOf d.name d.qual (dP d.st) (bZ d.st) (aN d.st) .none .none .none (.str m t) none (.ref c) .none),List.toArray []⟩
def cq(vs:List Value):Obj:=⟨.type "code",none,.fields (List.toArray vs),List.toArray []⟩
def cu(n q:Str)(t l a r T:Nat):Obj:=cq [vs n t,vs q (t+1),vs At (t+2),vi l,vi a,vi 0,vi 0,vi 3,vr r,.bool true,vi 181,vr (r+1),.none,vr (r+2),vr (r+3),vr (r+4),vi T,vi l,vs At (T+1)]
def cw(n q:Str)(t l a r T:Nat):Obj:=cq [vs n t,vs q (t+1),vs At (t+2),vi l,vi a,vi 0,vi 0,vi 3,vr r,.bool true,vi 181,vr (r+1),.none,.none,.none,vr (r+2),vi T,vi l,vs At (T+1)]
def KK(P:Params):Waa:=[(3,⟨(.type "dict"),none,(.dict (List.toArray [nt P "__name__" 165 (vs lm 346),nt P "__doc__" 166 .none,nt P "__package__" 167 .none,nt P "__loader__" 168 (.builtin "__main__.__loader__#opaque"),nt P "__spec__" 169 .none,nt P "__annotations__" 170 (vr 6),nt P "__builtins__" 171 (vr 4),nt P "__file__" 173 (vs At 172),nt P "__cached__" 174 .none,nt P "GREATEST_SMALL" 190 (.int (99) 189),nt P lf 197 (vr 21),nt P lv 204 (vr 28),nt P lw 210 (vr 33),nt P mA 216 (vr 38),nt P na 223 (vr 45),nt P "STOP" 227 (.int (0) 226),nt P "SET" 229 (.int (1000) 228),nt P "SUM" 231 (.int (2000) 230),nt P "LESS" 233 (.int (3000) 232),nt P "TELL" 235 (.int (4000) 234),nt P "GREAT" 237 (.int (5000) 236),nt P "SHORT_GO" 239 (.int (6500) 238),nt P "LONG_GO" 241 (.int (7000) 240),nt P "OVER" 243 (.int (7001) 242),nt P "PAD" 245 (.int (7002) 244),nt P "POOL" 247 (.int (7100) 246),nt P "SHORT_NIL" 249 (.int (8100) 248),nt P "LONG_NIL" 251 (.int (9000) 250),nt P "SAME_PLACE" 253 (.int (5000) 252),nt P "NILS_OF_ONE" 255 (.int (200) 254),nt P "HALF_WORD" 257 (.int (10000) 256),nt P nb 267 (vr 52),nt P nl 280 (vr 59),nt P "OVER_CELLS" 284 (.int (2) 283),nt P "WORD_CELLS" 286 (.int (2) 285),nt P np 295 (vr 66),nt P ol 303 (vr 73),nt P pc 312 (vr 80),nt P pi 318 (vr 85),nt P pr 333 (vr 92),nt P pu 339 (vr 97),nt P rc 345 (vr 102),nt P re 355 (vr 109),nt P sn 364 (vr 116),nt P sw 374 (vr 123),nt P sK 383 (vr 130),nt P ul 400 (vr 137),nt P ut 406 (vr 142),nt P wl 415 (vr 149),nt P wn 422 (vr 156),nt P wp 431 (vr 163),nt P wr 446 (vr 170),nt P ww 452 (vr 175),nt P wE 458 (vr 180),nt P wP 467 (vr 187),nt P wS 485 (vr 194),nt P wT 496 (vr 201),nt P xz 502 (vr 206),nt P xL 512 (vr 213),nt P zn 518 (vr 218),nt P ii 530 (vr 225)]) 61),List.toArray []⟩),
 (20,cu lf lf 191 3 1 15 195),
 (21,fo iu eO 187 20),
 (27,cu lv lv 198 5 1 22 202),
 (28,fo jf eO 187 27),
 (32,cw lw lw 205 7 1 29 208),
 (33,fo gi eO 187 32),
 (37,cw mA mA 211 9 1 34 214),
 (38,fo iw eO 187 37),
 (44,cu na na 217 11 1 39 221),
 (45,fo pj eO 187 44),
 (51,cu nb nb 258 30 4 46 265),
 (52,fo fc BT 224 51),
 (58,cu nl nl 268 36 4 53 278),
 (59,fo gj BT 224 58),
 (65,cu np np 287 55 3 60 293),
 (66,fo jg im 281 65),
 (72,cu ol ol 296 57 2 67 301),
 (73,fo iy im 281 72),
 (79,cu pc pc 304 59 3 74 310),
 (80,fo fe im 281 79),
 (84,cw pi pi 313 63 3 81 316),
 (85,fo lR im 281 84),
 (91,cu pr pr 321 77 4 86 331),
 (92,fo fg lc 319 91),
 (96,cw pu pu 334 88 3 93 337),
 (97,fo iz lc 319 96),
 (101,cw rc rc 340 96 3 98 343),
 (102,fo fh lc 319 101),
 (108,cu re re 348 107 2 103 353),
 (109,fo jh lm 346 108),
 (115,cu sn sn 356 109 2 110 362),
 (116,fo vn lm 346 115),
 (122,cu sw sw 365 112 2 117 372),
 (123,fo vo lm 346 122),
 (129,cu sK sK 375 121 1 124 381),
 (130,fo pk lm 346 129),
 (136,cu ul ul 384 125 1 131 398),
 (137,fo vp lm 346 136),
 (141,cw ut ut 401 141 2 138 404),
 (142,fo pv lm 346 141),
 (148,cu wl wl 407 145 1 143 413),
 (149,fo pw lm 346 148),
 (155,cu wn wn 416 149 1 150 420),
 (156,fo fj lm 346 155),
 (162,cu wp wp 423 151 3 157 429),
 (163,fo vq lm 346 162),
 (169,cu wr wr 432 153 3 164 444),
 (170,fo iA lm 346 169),
 (174,cw ww ww 447 166 2 171 450),
 (175,fo iB lm 346 174),
 (179,cw wE wE 453 186 3 176 456),
 (180,fo gk lm 346 179),
 (186,cu wP wP 459 216 3 181 465),
 (187,fo ji lm 346 186),
 (193,cu wS wS 468 219 4 188 483),
 (194,fo gm lm 346 193),
 (200,cu wT wT 486 228 3 195 494),
 (201,fo fq lm 346 200),
 (205,cw xz xz 497 235 2 202 500),
 (206,fo vw lm 346 205),
 (212,cu xL xL 503 263 1 207 510),
 (213,fo lS lm 346 212),
 (217,cw zn zn 513 272 2 214 516),
 (218,fo pC lm 346 217),
 (224,cu ii ii 519 298 1 219 528),
 (225,fo D_law lm 346 224)]
def qv:Program:=PySem.W.view PySem.Challenge.pw_nearpool_k29_words_at_even_places [1,2,3,4,5,6,8,9,10,11,12,13,14,15,16,17,18,19,20,21,22,23,24,25,27,28,29,30,31,32,34,35,36,38,39,40,41,42,43,44,45,46,47,48,49,50,51,52,53,54,55,56]
open PySem.W PyProof.Rows in
theorem zF{p q:Program}{loose:List Str}{Xt:Shared->Bool}{b:Type}{Yf:Shared->b}{Ya:World->b}{N:Nat}{g0:Bool}(e:opening p=plainProg p.main.scope.names)(l:Nat.ble 600 N=true)(f:∀s,fenceModules? p s=some s)
  (h:∀(w:World) (a:OsState),(topFrom treeTable p w N ⟨boot_heap w.params,Array.mk [],boot_drawn,boot_toks,a⟩).map (λs=>(openSeen q loose (importedModules p.main.body) Xt g0 s,Yf s))=some (openGood q loose,Ya w)):LeftO p q loose Xt Yf Ya N g0:=λw=>by
 obtain⟨⟨g,i,d,k,a⟩,c,j⟩:=aaQ.mp (boot_open e l f w);obtain⟨rfl,rfl,rfl,rfl⟩:g=boot_heap w.params/\i=Array.mk []/\d=boot_drawn/\k=boot_toks:=by simpa using j
 unfold openEnds;rw[c];exact h w a
def hk:PySem.W.Hook:=PySem.W.kHook KK [3,20,21,27,28,32,33,37,38,44,45,51,52,58,59,65,66,72,73,79,80,84,85,91,92,96,97,101,102,108,109,115,116,122,123,129,130,136,137,141,142,148,149,155,156,162,163,169,170,174,175,179,180,186,187,193,194,200,201,205,206,212,213,217,218,224,225] (λ_=>by kernel_rfl)
abbrev xt(s:Shared):Bool:=PySem.W.xlAt qv [] s&&PySem.W.recOk (PySem.W.RowW.records (PySem.Challenge.rw_nearpool_k29_words_at_even_places).row.toRowW) s
theorem left:PySem.W.LeftO PySem.Challenge.pw_nearpool_k29_words_at_even_places qv [] xt (PySem.W.Hook.obs hk) (PySem.W.Hook.val hk) 2562:=zF (by kernel_rfl) (by rfl) (λs=>by kernel_rfl) (λw a=>by kernel_rfl)
def dd:DefRec:=⟨ii,dP D_law.st,bZ D_law.st,aN D_law.st,match D_law.st with|.FunctionDef _ _ _ _ _ _ _ _ _ p=>p|_=>⟨0,0,0,0⟩⟩
theorem said:(PySem.Challenge.rw_nearpool_k29_words_at_even_places).wellSaid=true:=by kernel_rfl
def wI(K:Waa):L2.Sp:=λc H Q _=>∃(a:Addr) (b:List Int),c=[.ref a]/\SqL K H a (b.map V.int)/\b.length<=63/\∀d,Q (.bl true) d
def Hn:Option (Option Value)->Bool
 |some none=>true
 |_=>false
def DZ(f:Nat):Option (Option Value)->Bool
 |some (some (.ref g))=>g==f
 |_=>false
def Jw:Option (Option Value)->Bool
 |some (some (.builtin s))=>decide (s="object.__setattr__")
 |_=>false
theorem wJ{o:Option (Option Value)}(h:Hn o=true):o=some none:=by
 unfold Hn at h;split at h
 ·rfl
 ·cases h
theorem kz{f:Nat}{o:Option (Option Value)}(h:DZ f o=true):o=some (some (.ref f)):=by
 unfold DZ at h;split at h
 ·rw[beq_iff_eq.mp h]
 ·cases h
theorem DR{o:Option (Option Value)}(h:Jw o=true):o=some (some (.builtin "object.__setattr__")):=by
 unfold Jw at h;split at h
 ·rw[Daa h]
 ·cases h
open PySem.W in
def Jx(K:Frag)(C:Addr):Bool:=plainGet K C Str.empty&&(hasDictIn K C&&(plainOver K C&&Jw (findIn K (.ref C) "__setattr__")))
theorem wK{K:Waa}{C:Addr}(h:Jx K C=true):Cls K C:=by obtain⟨b,h⟩:=an2 h;obtain⟨a,h⟩:=an2 h;obtain⟨c,h⟩:=an2 h;exact⟨b,a,c,DR h⟩
open PySem.W in
def KI(K:Frag)(d:Df)(f c:Nat):Kd->Bool
 |.fn=>codeIn K (.ref c) d.qual&&(keepIn K (.ref f)&&DZ f (nsIn K mainGlobals d.name))
 |.me x=>codeIn K (.ref c) d.qual&&(keepIn K (.ref f)&&(Jx K (aU K x)&&(DZ f (findIn K (.ref (aU K x)) d.name)&&isFn K (.ref f))))
 |.ini x=>codeIn K (.ref c) d.qual&&(keepIn K (.ref f)&&(makesIn K (aU K x)&&(DZ f (findIn K (.ref (aU K x)) "__init__")&&(isFn K (.ref f)&&(keepIn K (.ref (aU K x))&&DZ (aU K x) (nsIn K mainGlobals x))))))
theorem fk{K:Waa}{h:Heap}{n:Str->Option Value}(X:K.In h)(G:h.Ns mainGlobals n){d:Df}{i:Kd}(m:Str)(t c f:Nat)(l:K.lookup f=some (fo d m t c))(q:KI K d f c i=true)
  (b:∀us:List Value,us.length=d.ps.length->bindArgs (PySem.W.fnOf d.name d.qual (dP d.st) (bZ d.st) (aN d.st) .none .none .none (.str m t) none (.ref c) .none) ⟨us,[]⟩=Pure.pure (d.ps.zip us)):z9 K n (d,i):=by
 cases i with
 |fn=>obtain⟨g,q⟩:=an2 q;obtain⟨a,e⟩:=an2 q;exact⟨f,_,jC l g a,.all b,ab5 X G (kz e),a⟩
 |me x=>obtain⟨g,q⟩:=an2 q;obtain⟨a,q⟩:=an2 q;obtain⟨e,q⟩:=an2 q;obtain⟨j,k⟩:=an2 q;exact⟨f,_,jC l g a,.all b,wK e,kz j,k,a⟩
 |ini x=>obtain⟨g,q⟩:=an2 q;obtain⟨a,q⟩:=an2 q;obtain⟨e,q⟩:=an2 q;obtain⟨j,q⟩:=an2 q;obtain⟨k,q⟩:=an2 q;obtain⟨o,p⟩:=an2 q;exact⟨f,_,jC l g a,.all b,⟨e,kz j,k,o⟩,ab5 X G (kz p)⟩
theorem fm{a:Type}{P:a->Prop}{x:a}{l:List a}(h:P x)(k:∀y∈l,P y):∀y∈x::l,P y:=List.forall_mem_cons.mpr ⟨h,k⟩
theorem fC{K:Waa}{h:Heap}{a:Str->Option Value}(X:K.In h)(G:h.Ns mainGlobals a){x:Str}{k:Int}(t:Nat)(e:PySem.W.nsIn K mainGlobals x=some (some (.int k t))):∃v u,a x=some u/\RelV v u/\∀S H,Fz K S H v (.int k):=⟨.int k,_,ab5 X G e,⟨_,rfl⟩,λ_ _=>.int _⟩
theorem b1{a:Type}{P:List a->Prop}(h:∀a0,P [a0])(l:List a)(e:l.length=1):P l:=by
 match l,e with
 |[a0],_=>exact h a0
theorem b2{b:Type}{P:List b->Prop}(h:∀a0 a,P [a0,a])(l:List b)(e:l.length=2):P l:=by
 match l,e with
 |[a0,a],_=>exact h a0 a
theorem b3{c:Type}{P:List c->Prop}(h:∀a0 b a,P [a0,b,a])(l:List c)(e:l.length=3):P l:=by
 match l,e with
 |[a0,b,a],_=>exact h a0 b a
theorem b4{d:Type}{P:List d->Prop}(h:∀a0 b a c,P [a0,b,a,c])(l:List d)(e:l.length=4):P l:=by
 match l,e with
 |[a0,b,a,c],_=>exact h a0 b a c
theorem gives{w:World}{b:Str->Option Value}{f:Addr}{h:Heap} (X:(KK w.params).In h) (G:h.Ns mainGlobals b) (c:b ii=some (.ref f)):
  ∃g:FuncData,(∀(s:Shared) (v:Value),BindsTo s g ⟨[v],[]⟩ [(cr,v)])/\∀a:Heap,(KK w.params).In a->a.Ns mainGlobals b->FnOk (PySem.Challenge.rw_nearpool_k29_words_at_even_places).prog w (KK w.params) b a CX0 9 f g [cr] (wI (KK w.params)):=by
 have M:Md (KK w.params) b pl.tb pl.pg pl.D:=Pl.md Gv (fm (fk X G eO 187 20 21 (by kernel_rfl) (by kernel_rfl) (b1 λ_=>rfl))
  (fm (fk X G eO 187 27 28 (by kernel_rfl) (by kernel_rfl) (b1 λ_=>rfl))
  (fm (fk X G eO 187 32 33 (by kernel_rfl) (by kernel_rfl) (b1 λ_=>rfl))
  (fm (fk X G eO 187 37 38 (by kernel_rfl) (by kernel_rfl) (b1 λ_=>rfl))
  (fm (fk X G eO 187 44 45 (by kernel_rfl) (by kernel_rfl) (b1 λ_=>rfl))
  (fm (fk X G BT 224 51 52 (by kernel_rfl) (by kernel_rfl) (b4 λ_ _ _ _=>rfl))
  (fm (fk X G BT 224 58 59 (by kernel_rfl) (by kernel_rfl) (b4 λ_ _ _ _=>rfl))
  (fm (fk X G im 281 65 66 (by kernel_rfl) (by kernel_rfl) (b3 λ_ _ _=>rfl))
  (fm (fk X G im 281 72 73 (by kernel_rfl) (by kernel_rfl) (b2 λ_ _=>rfl))
  (fm (fk X G im 281 79 80 (by kernel_rfl) (by kernel_rfl) (b3 λ_ _ _=>rfl))
  (fm (fk X G im 281 84 85 (by kernel_rfl) (by kernel_rfl) (b3 λ_ _ _=>rfl))
  (fm (fk X G lc 319 91 92 (by kernel_rfl) (by kernel_rfl) (b4 λ_ _ _ _=>rfl))
  (fm (fk X G lc 319 96 97 (by kernel_rfl) (by kernel_rfl) (b3 λ_ _ _=>rfl))
  (fm (fk X G lc 319 101 102 (by kernel_rfl) (by kernel_rfl) (b3 λ_ _ _=>rfl))
  (fm (fk X G lm 346 108 109 (by kernel_rfl) (by kernel_rfl) (b2 λ_ _=>rfl))
  (fm (fk X G lm 346 115 116 (by kernel_rfl) (by kernel_rfl) (b2 λ_ _=>rfl))
  (fm (fk X G lm 346 122 123 (by kernel_rfl) (by kernel_rfl) (b2 λ_ _=>rfl))
  (fm (fk X G lm 346 129 130 (by kernel_rfl) (by kernel_rfl) (b1 λ_=>rfl))
  (fm (fk X G lm 346 136 137 (by kernel_rfl) (by kernel_rfl) (b1 λ_=>rfl))
  (fm (fk X G lm 346 141 142 (by kernel_rfl) (by kernel_rfl) (b2 λ_ _=>rfl))
  (fm (fk X G lm 346 148 149 (by kernel_rfl) (by kernel_rfl) (b1 λ_=>rfl))
  (fm (fk X G lm 346 155 156 (by kernel_rfl) (by kernel_rfl) (b1 λ_=>rfl))
  (fm (fk X G lm 346 162 163 (by kernel_rfl) (by kernel_rfl) (b3 λ_ _ _=>rfl))
  (fm (fk X G lm 346 169 170 (by kernel_rfl) (by kernel_rfl) (b3 λ_ _ _=>rfl))
  (fm (fk X G lm 346 174 175 (by kernel_rfl) (by kernel_rfl) (b2 λ_ _=>rfl))
  (fm (fk X G lm 346 179 180 (by kernel_rfl) (by kernel_rfl) (b3 λ_ _ _=>rfl))
  (fm (fk X G lm 346 186 187 (by kernel_rfl) (by kernel_rfl) (b3 λ_ _ _=>rfl))
  (fm (fk X G lm 346 193 194 (by kernel_rfl) (by kernel_rfl) (b4 λ_ _ _ _=>rfl))
  (fm (fk X G lm 346 200 201 (by kernel_rfl) (by kernel_rfl) (b3 λ_ _ _=>rfl))
  (fm (fk X G lm 346 205 206 (by kernel_rfl) (by kernel_rfl) (b2 λ_ _=>rfl))
  (fm (fk X G lm 346 212 213 (by kernel_rfl) (by kernel_rfl) (b1 λ_=>rfl))
  (fm (fk X G lm 346 217 218 (by kernel_rfl) (by kernel_rfl) (b2 λ_ _=>rfl))
  (fm (fk X G lm 346 224 225 (by kernel_rfl) (by kernel_rfl) (b1 λ_=>rfl))
  (λ_ h=>by cases h)))))))))))))))))))))))))))))))))) (fm (fC X G 236 (by kernel_rfl))
  (fm (fC X G 189 (by kernel_rfl))
  (fm (fC X G 256 (by kernel_rfl))
  (fm (fC X G 232 (by kernel_rfl))
  (fm (fC X G 240 (by kernel_rfl))
  (fm (fC X G 250 (by kernel_rfl))
  (fm (fC X G 254 (by kernel_rfl))
  (fm (fC X G 242 (by kernel_rfl))
  (fm (fC X G 283 (by kernel_rfl))
  (fm (fC X G 244 (by kernel_rfl))
  (fm (fC X G 246 (by kernel_rfl))
  (fm (fC X G 252 (by kernel_rfl))
  (fm (fC X G 228 (by kernel_rfl))
  (fm (fC X G 238 (by kernel_rfl))
  (fm (fC X G 248 (by kernel_rfl))
  (fm (fC X G 226 (by kernel_rfl))
  (fm (fC X G 230 (by kernel_rfl))
  (fm (fC X G 234 (by kernel_rfl))
  (fm (fC X G 285 (by kernel_rfl))
  (λ_ h=>by cases h))))))))))))))))))))
  (λx k=>PySem.W.mg_none_of X G (wJ (abq.mp (by kernel_rfl:(pl.nog.all λx=>Hn (PySem.W.nsIn (KK w.params) mainGlobals x))=true) x k)))
  (λz i=>have q:=an2 (abq.mp (by kernel_rfl:(pl.fld.all λz=>Jx (KK w.params) (aU (KK w.params) z.1)&&Hn (PySem.W.findIn (KK w.params) (.ref (aU (KK w.params) z.1)) z.2))=true) z i);⟨wK q.1,wJ q.2⟩)
 have e:=c.symm.trans (ab5 X G (by kernel_rfl:PySem.W.nsIn (KK w.params) mainGlobals ii=some (some (.ref 225))));cases e;have F:Fun (KK w.params) D_law.name D_law.qual D_law.st 225 _:=jC (by kernel_rfl:(KK w.params).lookup 225=some (fo D_law lm 346 224)) (by kernel_rfl) (by kernel_rfl);exact⟨_,λs v=>.of_eq rfl,λa _ _=>M.law (n:=8) (j:=Gu) (d:=D_law) rfl F pure⟩
theorem walk{l:PySem.W.OpenLaw}{q:Program}{loose:List Str}{XP:(Str->Option Value)->Heap->Prop}{YP:World->Heap->Prop}{d:DefRec}{K:Params->Waa}(r:l.most=some 63)(e:d.params.defaults=[])
  (m:∀(w:World) (h:Heap),YP w h->(K w.params).In h)
  (F:∀(w:World) (c:Str->Option Value) (g:Addr) (h:Heap),(K w.params).In h->h.Ns mainGlobals c->c d.name=some (.ref g) ->
   ∃i:FuncData,(∀(s:Shared) (u:Value),BindsTo s i ⟨[u],[]⟩ [(cr,u)])/\∀b:Heap,(K w.params).In b->b.Ns mainGlobals c->FnOk l.prog w (K w.params) c b CX0 9 g i [cr] (wI (K w.params))):
  PySem.W.WalkO q loose XP YP l.row.toRowW d [] (λf vs=>PySem.call f vs):=
 L2.walk_of (n:=63) (k:=9) (x:=cr) (CX:=λ_=>CX0) (sp:=λw=>wI (K w.params)) r (by decide) e ⟨rfl,by decide,by decide,rfl⟩ m F (λ_ _ a j p _ o=>⟨a,j,rfl,o,p,λ_=>rfl⟩) λ_ _ _ _ _ z=>z
end Np
open PySem PySem.W PyProof.Rows
set_option maxRecDepth 100000 in
set_option maxHeartbeats 0 in
theorem PySem.Challenge.cw_nearpool_k29_words_at_even_places_holds : PySem.Challenge.rw_nearpool_k29_words_at_even_places.Holds := by
 w_on
 refine holds_law Np.said λa=>?_;refine holds_open (q:=Np.qv) (loose:=[]) (Xt:=Np.xt) (XP:=XL Np.qv []) (Yf:=Hook.obs Np.hk) (Ya:=Hook.val Np.hk) (YP:=Hook.says Np.hk) (N:=2562) (d:=Np.dd) (kwd:=[]) Np.left (Hook.of Np.hk) (Hook.keeps Np.hk) (λs e=>xl_of s (abC.mp e).1) XL.keeps (by kernel_rfl) (by kernel_rfl) (by kernel_rfl) (λs e=>recFacts_of (abC.mp e).2) (by rfl) a (by kernel_rfl) ⟨rfl,rfl,rfl,rfl,rfl,by decide +kernel⟩ ?hw ?hc
 case hw=>w_witness2
 case hc=>exact Np.walk (l:=PySem.Challenge.rw_nearpool_k29_words_at_even_places) (K:=Np.KK) (d:=Np.dd) rfl (by kernel_rfl) (λw h Y=>kIn_of Y) (λw g f h c G b=>Np.gives c G b)
