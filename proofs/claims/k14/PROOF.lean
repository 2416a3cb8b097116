import PyProof.Rows.All
import Wide.All
import OpenK.AllK
import Wide.FinOn
import Lean
import PyProof.EqAt
import PyProof.EqKinds
import PyProof.TupleCall
import PyProof.Draws
import PyProof.ZipIter
import PyProof.SeqI3
import PyProof.CallStr
import PyProof.StrHeap
import PyProof.ReprBulk
import PyProof.Rows.ListRangeD
import PyProof.EnumFor
import PyProof.EnumStmt
import PyProof.EnumMake
import PyProof.AutoListH
import PyProof.RangeFor
import PyProof.Rows.Range3
import KE.KUnpack
import PyProof.ReprRoads
import PyProof.ReprLen
import PyProof.FitsInt
import PyProof.DictCompW
import KE.KDictSum
import PyProof.NeKinds
import PyProof.SumWalk
import PySem.Challenge.RW_nearpool_k14_plans_looked_at
set_option compiler.extract_closed false
set_option genSizeOf false
set_option Elab.async false
set_option linter.all false
set_option maxRecDepth 100000
noncomputable section
def Daa:=@of_decide_eq_true
def Dab:=@decide_eq_false
def Dac:=@decide_eq_true
def Dad:=@of_decide_eq_false
abbrev Waa:=PySem.W.Frag
def aaa:=@List.length_map
def aab:=@List.mem_cons
def aac:=@Nat.le_refl
def aad:=@List.mem_append_right
def aae:=@List.mem_append_left
def aaf:=@List.append_assoc
def aag:=@List.mem_cons_self
def aah:=@Bool.false_ne_true
def aai:=@List.mem_cons_of_mem
def aaj:=@List.map_cons
def aak:=@List.not_mem_nil
def aal:=@List.mem_append
def aam:=@Bool.and_eq_true
def aan:=@List.getElem?_eq_getElem
def aao:=@Nat.ne_of_lt
def aap:=@List.length_cons
def aaq:=@Nat.le_trans
def aar:=@List.append_nil
def aas:=@List.perm_middle
def aat:=@List.size_toArray
def aau:=@List.getElem?_eq_some_iff
def aav:=@List.getElem?_map
def aaw:=@List.map_append
def aax:=@Nat.lt_of_lt_of_le
def aay:=@List.mem_map
def aaz:=@List.nil_append
def aaA:=@List.length_append
def aaB:=@List.mem_singleton
def aaC:=@List.nodup_append
def aaD:=@Nat.le_of_ble_eq_true
def aaE:=@Nat.zero_le
def aaF:=@List.set_cons_succ
def aaG:=@Option.some.inj
def aaH:=@List.nodup_cons
def aaI:=@Bool.and_self
def aaJ:=@Option.bind_eq_some_iff
def aaK:=@Bool.true_and
def aaL:=@Option.map_eq_some_iff
def aaM:=@Ne.symm
def aaN:=@List.cons_append
def aaO:=@List.map_map
def aaP:=@List.all_eq_true
def aaQ:=@List.map_nil
def aaR:=@Int.toNat_natCast
def aaS:=@List.pairwise_cons
def aaT:=@List.of_mem_zip
def aaU:=@List.all_cons
def aaV:=@Nat.zero_add
def aaW:=@Nat.lt_irrefl
def aaX:=@Nat.ne_of_gt
def aaY:=@List.length_take
def aaZ:=@List.length_drop
def aa0:=@List.length_singleton
def aa1:=@List.lookup_cons
def aa2:=@List.find?_cons
def aa3:=@List.perm_append_comm
def aa4:=@Nat.le_of_lt
def aa5:=@List.getElem?_set_self
def aa6:=@PySem.mem_of_lookup
def aa7:=@List.any_cons
def aa8:=@List.nodup_nil
def aa9:=@List.zip_cons_cons
def aba:=@List.Perm.append_left
def abb:=@List.filterMap_cons
def abc:=@List.getElem?_set_ne
def abd:=@Array.length_toList
def abe:=@Bool.false_and
def abf:=@Nat.lt_succ_of_lt
def abg:=@List.length_nil
def abh:=@List.any_eq_true
def abi:=@List.mem_filter
def abj:=@PyProof.Rows.callWith_type1
def abk:=@Option.isSome_iff_exists
def abl:=@List.mem_of_getElem?
def abm:=@Nat.le_succ
def abn:=@Nat.lt_succ_self
def abo:=@List.replicate_succ
def abp:=@Bool.not_eq_true'
def abq:=@List.length_reverse
def abr:=@Bool.or_eq_true
def abt:=@List.length_zipWith
def abu:=@Int.emod_nonneg
def abv:=@Int.emod_lt_of_pos
def abw:=@List.length_filter_le
def abx:=@List.mem_range
def aby:=@List.set_comm
def abz:=@Bool.eq_iff_iff
def abA:=@List.getElem?_append_right
def abB:=@List.length_replicate
def abC:=@Nat.lt_trans
def abD:=@Nat.le_add_right
def abE:=@List.take_of_length_le
def abF:=@List.map_take
def abG:=@Bool.and_eq_true_iff
def abH:=@List.findIdx?_cons
def abI:=@List.zipWith_cons_cons
def abJ:=@List.filter_cons_of_pos
def abK:=@List.filter_cons_of_neg
def abL:=@List.getElem?_cons_succ
def abM:=@List.getElem?_eq_none
def abN:=@List.countP_cons
def abO:=@List.countP_le_length
def abP:=@List.all_map
def abQ:=@List.map_id
def abR:=@List.zip_map_left
def abS:=@List.length_pos_of_mem
def abT:=@List.length_zip
def abU:=@PySem.W.mg_of
def abV:=@List.getElem?_append_left
def abW:=@List.length_set
def abX:=@List.forIn_cons
def abY:=@Nat.lt_of_le_of_lt
def abZ:=@Nat.min_eq_left
def ab0:=@List.set_cons_zero
def ab1:=@List.mem_of_mem_drop
def ab2:=@List.mem_of_mem_take
def ab3:=@List.map_drop
def ab4:=@List.getD_eq_getElem?_getD
def ab5:=@List.perm_append_comm_assoc
def ab6:=@List.ext_getElem?
def ab7:=@Classical.axiomOfChoice
def ab8:=@Bool.false_or
def ab9:=@Int.le_refl
def aca:=@List.drop_eq_getElem_cons
def acb:=@List.drop_length
def acd:=@List.map_congr_left
def ace:=@Nat.add_le_add_left
def acf:=@List.pairwise_append
def acg:=@Bool.and_eq_false_iff
def ach:=@Bool.and_true
def aci:=@PySem.W.cellsFrom_some
def acj:=@List.getElem?_replicate
def ack:=@PySem.F.slot_tuple_add
def acl:=@PySem.F.entry_tuple_add
def acm:=@PySem.F.args_tuple_add_2
def acn:=@Nat.add_sub_cancel_left
def aco:=@Array.getElem?_toList
def acp:=@Nat.add_left_cancel
def acq:=@Nat.pow_le_pow_right
def acr:=@List.Perm.append_right
def acs:=@List.getElem?_zip_eq_some
def acu:=@List.zip_eq_zipWith
def acv:=@List.range_succ_eq_map
def acw:=@Bool.or_eq_false_iff
def acx:=@PySem.F.plainAttrs_list
def acy:=@Option.isNone_iff_eq_none
def acz:=@Nat.add_le_add_right
def acA:=@Nat.mul_le_mul_left
def acB:=@List.getElem?_of_mem
def acC:=@List.getElem?_range
namespace L2
open PySem PySem.Spec PyProof.Rows
section
abbrev Key:=Sum Int Str
def keyIs:Key->Value->Bool
 | .inl k,v=>Value.isInt k v
 | .inr x,v=>Value.isStrOf x v
def keyH(w:World):Key->Int
 | .inl k=>hashInt k
 | .inr x=>hashStr w x
theorem aQ:∀{k:Key} {v:Value},keyIs k v=true->(∃i t,k=Sum.inl i/\v=Value.int i t)\/(∃x t,k=Sum.inr x/\v=Value.str x t)
 | .inl i,v,h=>by
  obtain⟨t,e⟩:=Value.isInt_shape (k:=i) (v:=v) h
  exact .inl ⟨i,t,rfl,e⟩
 | .inr x,v,h=>by
  obtain⟨t,e⟩:=Value.isStrOf_shape (x:=x) (v:=v) h
  exact .inr ⟨x,t,rfl,e⟩
theorem nP(i:Int)(t:Tok):keyIs (.inl i) (.int i t)=true:=by simp[keyIs,Value.isInt]
theorem nQ(x:Str)(t:Tok):keyIs (.inr x) (.str x t)=true:=by simp[keyIs,Value.isStrOf]
theorem xh(a b:Int):decide ((Sum.inl a:Key)=Sum.inl b)=(a == b):=by
 by_cases e:a=b
 ·subst e;simp
 ·have h:¬ (Sum.inl a:Key)=Sum.inl b:=fun q=>e (Sum.inl.inj q)
  rw[Dab h]
  exact (beq_eq_false_iff_ne.mpr e).symm
theorem xi(a b:Str):decide ((Sum.inr a:Key)=Sum.inr b)=decide (a=b):=by
 by_cases e:a=b
 ·subst e;simp
 ·have h:¬ (Sum.inr a:Key)=Sum.inr b:=fun q=>e (Sum.inr.inj q)
  rw[Dab h,Dab e]
theorem xj(a:Int)(b:Str):decide ((Sum.inl a:Key)=Sum.inr b)=false:=Dab (fun q=>nomatch q)
theorem xk(a:Str)(b:Int):decide ((Sum.inr a:Key)=Sum.inl b)=false:=Dab (fun q=>nomatch q)
def bq(prog:Program)(w:World):PySem.KeyKind prog w Key where
 is:=keyIs
 hash:=keyH w
 inj:=fun v a b ha hb=>by
  rcases aQ ha with ⟨i,t,rfl,rfl⟩ | ⟨x,t,rfl,rfl⟩
  ·rcases aQ hb with ⟨j,u,rfl,e⟩ | ⟨y,u,rfl,e⟩
   ·injection e with e1 _;rw[e1]
   ·exact nomatch e
  ·rcases aQ hb with ⟨j,u,rfl,e⟩ | ⟨y,u,rfl,e⟩
   ·exact nomatch e
   ·injection e with e1 _;rw[e1]
 byValue:=fun k v h=>by
  rcases aQ h with ⟨i,t,rfl,rfl⟩ | ⟨x,t,rfl,rfl⟩<;>rfl
 pyHash:=fun hv h=>by
  rcases aQ hv with ⟨i,t,rfl,rfl⟩ | ⟨x,t,rfl,rfl⟩
  ·exact wpAny_pyHash_int h
  ·exact wpAny_pyHash_str h
 eqBool:=fun hu hv h=>by
  rcases aQ hu with ⟨i,t,rfl,rfl⟩ | ⟨x,t,rfl,rfl⟩
  ·rcases aQ hv with ⟨j,u,rfl,rfl⟩ | ⟨y,u,rfl,rfl⟩
   ·rw[xh]at h;exact wpAny_eqBool_int h
   ·rw[xj]at h;exact SeqAt.EqAt.int_str i t y u _ _ _ _ h
  ·rcases aQ hv with ⟨j,u,rfl,rfl⟩ | ⟨y,u,rfl,rfl⟩
   ·rw[xk]at h;exact SeqAt.EqAt.str_int x t j u _ _ _ _ h
   ·rw[xi]at h;exact wpAny_eqBool_str h
 «strs»:=fun k x t v h=>by
  rcases aQ h with ⟨i,u,rfl,e⟩ | ⟨y,u,rfl,e⟩
  ·exact nomatch e
  ·injection e with e1 _
   subst e1
   cases v<;>rfl
theorem jH(prog:Program)(w:World)(i:Int)(t:Tok):(bq prog w).is (.inl i) (.int i t)=true:=nP i t
theorem jI(prog:Program)(w:World)(x:Str)(t:Tok):(bq prog w).is (.inr x) (.str x t)=true:=nQ x t
end
section
inductive V where
 | non | bl (b:Bool) | int (i:Int) | str (x:Str) | byt (b:Array UInt8) | flt (b:UInt64) | ref (a:Addr) | ty (n:String)
 deriving DecidableEq
def RelV:V->Value->Prop
 | .non,u=>u=Value.none
 | .bl b,u=>u=Value.bool b
 | .int i,u=>∃t,u=Value.int i t
 | .str x,u=>∃t,u=Value.str x t
 | .byt b,u=>∃t,u=Value.bytes b t
 | .flt b,u=>∃t,u=Value.float b t
 | .ref a,u=>u=Value.ref a
 | .ty n,u=>u=Value.type n
abbrev Vals:List V->List Value->Prop:=Paired RelV
theorem Vals.length{xs:List V}{us:List Value}(r:Vals xs us):xs.length=us.length:=Paired.length r
theorem Vals.get:∀{xs:List V} {us:List Value} {i:Nat} {x:V},Vals xs us->xs[i]?=some x->∃u,us[i]?=some u/\RelV x u
 | _,_,_,_,.nil,e=>by simp at e
 | _,_,0,_,.cons r _,e=>by simp at e;subst e;exact⟨_,rfl,r⟩
 | _,_,i + 1,x,.cons _ t,e=>by
  obtain⟨u,h1,h2⟩:=Vals.get (i:=i) (x:=x) t (by simpa using e)
  exact⟨u,by simpa using h1,h2⟩
theorem Vals.set{x:V}{u:Value}(r:RelV x u):∀{xs:List V} {us:List Value} (i:Nat),Vals xs us->Vals (xs.set i x) (us.set i u)
 | _,_,_,.nil=>.nil
 | _,_,0,.cons _ t=>.cons r t
 | _,_,i + 1,.cons q t=>.cons q (Vals.set r i t)
theorem Vals.append:∀{xs ys:List V} {us ws:List Value},Vals xs us->Vals ys ws->Vals (xs++ys) (us++ws)
 | _,_,_,_,.nil,s=>s
 | _,_,_,_,.cons r t,s=>.cons r (Vals.append t s)
theorem Vals.take:∀{xs:List V} {us:List Value} (n:Nat),Vals xs us->Vals (xs.take n) (us.take n)
 | _,_,0,_=>.nil
 | _,_,_ + 1,.nil=>.nil
 | _,_,n + 1,.cons r t=>.cons r (Vals.take n t)
theorem Vals.drop:∀{xs:List V} {us:List Value} (n:Nat),Vals xs us->Vals (xs.drop n) (us.drop n)
 | _,_,0,r=>r
 | _,_,_ + 1,.nil=>.nil
 | _,_,n + 1,.cons _ t=>Vals.drop n t
def RelO:Option V->Option Value->Prop
 | some v,some u=>RelV v u
 | none,none=>True
 | _,_=>False
def KV{κ:Type}:List (κ × V)->List (κ × Value)->Prop:=Paired fun (p:κ × V) (q:κ × Value)=>p.1=q.1/\RelV p.2 q.2
def kV:Key->V
 | .inl i=>.int i
 | .inr x=>.str x
inductive HO where
 | lst (xs:List V)
 | tup (xs:List V)
 | dK (kvs:List (Key × V)) | dT (kvs:List (List Key × V))
 | set (S:Int->Bool) (n:Nat)
 | ins (C dx:Addr) (fs:List (Str × V))
 | own (x:Addr)
 | xd (fs:List (Str × V))
 | met (f x:Addr)
 | rng (lo hi:Int)
 | frz (o:Obj) (u:HO)
 | tbl (ps:Array Value)
 | ext (φ:Heap->Prop)
abbrev Hp:=Addr->Option HO
def upd(H:Hp)(a:Addr)(o:HO):Hp:=fun b=>if b=a then some o else H b
theorem aE{H:Hp}{a:Addr}{o:HO}:upd H a o a=some o:=by unfold upd;rw[if_pos rfl]
theorem upd_ne{H:Hp}{a b:Addr}{o:HO}(h:b≠a):upd H a o b=H b:=by unfold upd;rw[if_neg h]
theorem ak{H:Hp}{a b:Addr}{o:HO}(h:H a=some o)(h':H b=none):a≠b:=by
 intro e;subst e;rw[h]at h';cases h'
section
variable(P:Program)(w:World)
def ObjOk(H:Hp)(h:Heap)(a:Addr):HO->Prop
 | .lst xs=>xs.length<=sizeLine/\∃(its:List Value) (n:Nat),Vals xs its/\h.get? a=some { cls:=.type "list",data:=.seq its.toArray n }
 | .tup xs=>xs.length<=sizeLine/\∃its:List Value,Vals xs its/\IsTup h a its.toArray
 | .dK kvs=>kvs.length<=sizeLine/\(a == sysModules)=false/\∃vs,KV kvs vs/\h.DictOf (bq P w) a vs
 | .dT kvs=>kvs.length<=sizeLine/\(a == sysModules)=false/\∃xs:List (List Key × Addr × Value),
   Paired (fun (p:List Key × V) (q:List Key × Addr × Value)=>p.1=q.1/\H q.2.1=some (.tup (p.1.map kV))/\RelV p.2 q.2.2) kvs xs /\
   ∃o es ep,h.get? a=some o/\o.ExactDict/\o.data=.dict es ep/\es.toList=xs.map (entryOfKey (tupleKind (bq P w)))/\(xs.map (·.1)).Nodup
 | .set S n=>h.SetOf (intKind P w) a S n
 | .ins C dx fs=>H dx=some (.own a)/\fs.length<=1000/\dx≠a/\h.get? a=some (PySem.W.instObj C dx) /\
   ∃mA,h.Ns1 dx mA/\(∀f,RelO (fs.lookup f) (mA f))/\PySem.Within mA (fs.map (·.1))
 | .own _=>∃o,h.get? a=some o
 | .xd fs=>∃mA,h.Ns1 a mA/\∀f,RelO (fs.lookup f) (mA f)
 | .rng lo hi=>∃t u v,h.get? a=some { cls:=.type "range",data:=.fields #[.int lo t,.int hi u,.int 1 v] }
 | .frz o u=>h.get? a=some o/\ObjOk H h a u
 | .tbl ps=>h.get? a=some { cls:=.none,data:=.fields ps }
 | .met f x=>h.get? a=some (PySem.W.methodObj (.ref f) (.ref x))
 | .ext φ=>φ h/\(∃o,h.get? a=some o)/\∀h1 h2:Heap,φ h1->(∀o,h1.get? a=some o->h2.get? a=some o)->φ h2
def HOk(H:Hp)(h:Heap):Prop:=∀a o,H a=some o->ObjOk P w H h a o
end
section
variable{P:Program}{w:World}{H H':Hp}{h h':Heap}{a:Addr}{o:HO}
theorem ObjOk.lt(x:ObjOk P w H h a o):a < h.objs.size:=by
 cases o with
 | lst xs=>obtain⟨_,_,_,_,e⟩:=x;exact Heap.lt_size e
 | tup xs=>obtain⟨_,_,_,p⟩:=x;exact p.lt
 | dK kvs=>obtain⟨_,_,_,_,o,_,_,e,_⟩:=x;exact Heap.lt_size e
 | dT kvs=>obtain⟨_,_,_,_,o,_,_,e,_⟩:=x;exact Heap.lt_size e
 | set S n=>obtain⟨o,_,_,_,e,_⟩:=x;exact Heap.lt_size e
 | ins C dx fs=>obtain⟨_,_,_,e,_⟩:=x;exact Heap.lt_size e
 | own y=>obtain⟨_,e⟩:=x;exact Heap.lt_size e
 | xd fs=>obtain⟨_,⟨_,_,_,e,_⟩,_⟩:=x;exact Heap.lt_size e
 | rng lo hi=>obtain⟨_,_,_,e⟩:=x;exact Heap.lt_size e
 | frz ob u=>obtain⟨e,_⟩:=x;exact Heap.lt_size e
 | tbl ps=>exact Heap.lt_size (show h.get? a=some _ from x)
 | met f y=>exact Heap.lt_size (show h.get? a=some _ from x)
 | ext φ=>obtain⟨_,⟨_,e⟩,_⟩:=x;exact Heap.lt_size e
theorem Paired.mapP{α β:Type}{F G:α->β->Prop}:∀{l₁:List α} {l₂:List β},Paired F l₁ l₂->(∀a b,F a b->G a b)->Paired G l₁ l₂
 | _,_,.nil,_=>.nil
 | _,_,.cons r t,f=>.cons (f _ _ r) (Paired.mapP t f)
theorem ObjOk.stay(x:ObjOk P w H h a o)(k:∀b u,(b=a\/H b=some (.own a))->h.get? b=some u->h'.get? b=some u)
  (ho:∀b,H b=some (.own a)->H' b=some (.own a)) (ht:∀b xs,H b=some (.tup xs)->H' b=some (.tup xs)):ObjOk P w H' h' a o:=by
 induction o with
 | lst xs=>obtain⟨z,its,n,r,e⟩:=x;exact⟨z,its,n,r,k _ _ (.inl rfl) e⟩
 | tup xs=>obtain⟨z,its,r,ob,e,c⟩:=x;exact⟨z,its,r,ob,k _ _ (.inl rfl) e,c⟩
 | dK kvs=>obtain⟨z,y,vs,r,ob,es,ep,e,c⟩:=x;exact⟨z,y,vs,r,ob,es,ep,k _ _ (.inl rfl) e,c⟩
 | dT kvs =>
  obtain⟨z,y,xs,r,ob,es,ep,e,c⟩:=x
  exact⟨z,y,xs,Paired.mapP r fun p q z=>⟨z.1,ht _ _ z.2.1,z.2.2⟩,ob,es,ep,k _ _ (.inl rfl) e,c⟩
 | set S n=>obtain⟨ob,es,ep,t,e,c⟩:=x;exact⟨ob,es,ep,t,k _ _ (.inl rfl) e,c⟩
 | ins C dx fs =>
  obtain⟨d,z,ne,e,mA,⟨od,es,ep,e2,c⟩,r⟩:=x
  exact⟨ho _ d,z,ne,k _ _ (.inl rfl) e,mA,⟨od,es,ep,k _ _ (.inr d) e2,c⟩,r⟩
 | own y=>obtain⟨ob,e⟩:=x;exact⟨ob,k _ _ (.inl rfl) e⟩
 | xd fs=>obtain⟨mA,⟨od,es,ep,e,c⟩,r⟩:=x;exact⟨mA,⟨od,es,ep,k _ _ (.inl rfl) e,c⟩,r⟩
 | rng lo hi=>obtain⟨t,u,v,e⟩:=x;exact⟨t,u,v,k _ _ (.inl rfl) e⟩
 | frz ob u ih=>obtain⟨e,q⟩:=x;exact⟨k _ _ (.inl rfl) e,ih q⟩
 | tbl ps =>
  have e:h.get? a=some { cls:=.none,data:=.fields ps }:=x
  show h'.get? a=some { cls:=.none,data:=.fields ps }
  exact k a _ (.inl rfl) e
 | met f y =>
  have e:h.get? a=some (PySem.W.methodObj (.ref f) (.ref y)):=x
  show h'.get? a=some (PySem.W.methodObj (.ref f) (.ref y))
  exact k a _ (.inl rfl) e
 | ext φ=>obtain⟨p,⟨o,e⟩,st⟩:=x;exact⟨st _ _ p fun o q=>k _ _ (.inl rfl) q,⟨o,k _ _ (.inl rfl) e⟩,st⟩
theorem HOk.lt(x:HOk P w H h)(e:H a=some o):a < h.objs.size:=(x a o e).lt
theorem HOk.fresh(x:HOk P w H h)(e:h.objs.size<=a):H a=none:=by
 cases q:H a with
 | none=>rfl
 | some u=>exact absurd (aax (x.lt q) e) (aaW _)
theorem HOk.kept(x:HOk P w H h)(k:∀b u,h.get? b=some u->h'.get? b=some u):HOk P w H h':=fun a o e =>
 (x a o e).stay (fun b u _ q=>k b u q) (fun _ q=>q) fun _ _ q=>q
theorem HOk.laid(x:HOk P w H h)(k:∀b u,h.get? b=some u->h'.get? b=some u)(hp:h.objs.size<=a)(new:ObjOk P w (upd H a o) h' a o):HOk P w (upd H a o) h':=fun b u e=>by
 have hn:=x.fresh hp
 by_cases hb:b=a
 ·subst hb;rw[aE]at e;cases e;exact new
 ·rw[upd_ne hb]at e
  exact (x b u e).stay (fun c v _ q=>k c v q) (fun c q=>by rw[upd_ne (ak q hn)];exact q) fun c xs q=>by rw[upd_ne (ak q hn)];exact q
end
def Rd(H:Hp)(a:Addr)(u:HO):Prop:=H a=some u\/∃o,H a=some (.frz o u)
theorem Rd.ok{P:Program}{w:World}{H:Hp}{h:Heap}{a:Addr}{u:HO}(r:Rd H a u)(x:HOk P w H h):ObjOk P w H h a u:=by
 rcases r with r | ⟨o,r⟩
 ·exact x a u r
 ·obtain⟨_,q⟩:=x a _ r
  exact q
def z9:Option HO->Prop
 | some (.lst _)=>True
 | some (.dK _)=>True
 | some (.dT _)=>True
 | some (.set _ _)=>True
 | some (.ins _ _ _)=>True
 | some (.ext _)=>True
 | _=>False
section
variable{P:Program}{w:World}{H:Hp}{h h':Heap}{x e:Addr}{o':HO}
theorem HOk.write(ok:HOk P w H h)(mu:z9 (H x))(he:e=x\/H e=some (.own x))(k:∀b u,b≠e->h.get? b=some u->h'.get? b=some u)(heo:∃u,h'.get? e=some u)
  (new:ObjOk P w (upd H x o') h' x o'):HOk P w (upd H x o') h':=fun b u q=>by
 have nown:∀c y,H c=some (.own y)->c≠x:=fun c y r z=>by subst z;rw[r]at mu;exact mu
 have ntup:∀c xs,H c=some (.tup xs)->c≠x:=fun c xs r z=>by subst z;rw[r]at mu;exact mu
 by_cases hb:b=x
 ·subst hb;rw[aE]at q;cases q;exact new
 ·rw[upd_ne hb]at q
  by_cases hbe:b=e
  ·have q':H b=some (.own x):=by
    rcases he with z | z
    ·exact absurd (hbe.trans z) hb
    ·rw[hbe];exact z
   rw[q]at q';cases q'
   obtain⟨v,hv⟩:=heo
   exact⟨v,by rw[hbe];exact hv⟩
  ·refine (ok b u q).stay (fun c v hc r=>k c v ?_ r) (fun c r=>by rw[upd_ne (nown c b r)];exact r) fun c xs r=>by rw[upd_ne (ntup c xs r)];exact r
   rcases hc with rfl | hc
   ·exact hbe
   ·rintro rfl
    rcases he with z | z
    ·exact nown c b hc z
    ·rw[hc]at z;cases z;exact hb rfl
end
structure Un (fs ex:List Addr)(H H':Hp)(h h':Heap):Prop where
 keep:∀b o,h.get? b=some o->H b=none->b ∉ fs->b ∉ ex->h'.get? b=some o
 slot:∀b o,h.get? b=some o->H b=none->b∈fs->b ∉ ex->∃sl,h'.get? b=some { o with slots:=sl }
 free:∀b o,h.get? b=some o->H b=none->b ∉ ex->H' b=none
 there:∀b o,h.get? b=some o->b ∉ ex->∃o',h'.get? b=some o'
 tups:∀b xs,H b=some (.tup xs)->H' b=some (.tup xs)
 frzs:∀b o u,H b=some (.frz o u)->H' b=some (.frz o u)
 tbls:∀b ps,H b=some (.tbl ps)->∃more,H' b=some (.tbl (ps++more))
section
variable{fs fs' ex ex':List Addr}{H H1 H2:Hp}{h h1 h2 h':Heap}{a x e:Addr}{o:HO}
theorem Un.any(u:Un fs ex H H1 h h1){b:Addr}{ob:Obj}(q:h.get? b=some ob)(n:H b=none)(hx:b ∉ ex):∃sl,h1.get? b=some { ob with slots:=sl }:=by
 by_cases hb:b∈fs
 ·exact u.slot b ob q n hb hx
 ·exact⟨ob.slots,u.keep b ob q n hb hx⟩
theorem Un.kept(k:∀b u,h.get? b=some u->h'.get? b=some u):Un fs ex H H h h' :=
 ⟨fun b ob q _ _ _=>k b ob q,fun b ob q _ _ _=>⟨ob.slots,k b ob q⟩,fun _ _ _ n _=>n,fun b ob q _=>⟨ob,k b ob q⟩,fun _ _ q=>q,fun _ _ _ q=>q,fun _ ps q=>⟨#[],by rw[q];simp⟩⟩
theorem Un.refl:Un fs ex H H h h:=Un.kept fun _ _ q=>q
theorem Un.laid(k:∀b u,h.get? b=some u->h'.get? b=some u)(hp:h.objs.size<=a)(hn:H a=none):Un fs ex H (upd H a o) h h' where
 keep:=fun b u q _ _ _=>k b u q
 slot:=fun b u q _ _ _=>⟨u.slots,k b u q⟩
 free:=fun b u q n _=>by rw[upd_ne (aao (aax (Heap.lt_size q) hp))];exact n
 there:=fun b u q _=>⟨u,k b u q⟩
 tups:=fun b xs q=>by rw[upd_ne (ak q hn)];exact q
 frzs:=fun b u xs q=>by rw[upd_ne (ak q hn)];exact q
 tbls:=fun b ps q=>⟨#[],by rw[upd_ne (ak q hn),q];simp⟩
theorem Un.write(mu:z9 (H x))(he:e=x\/H e=some (.own x))(k:∀b u,b≠e->h.get? b=some u->h'.get? b=some u)(heo:∃u,h'.get? e=some u):Un fs ex H (upd H x o) h h':=by
 have hx:∀b,H b=none->b≠x:=fun b n z=>by subst z;rw[n]at mu;exact mu
 have hb:∀b,H b=none->b≠e:=fun b n z=>by
  subst z
  rcases he with r | r
  ·exact hx b n r
  ·rw[n]at r;cases r
 have hm:∀b u,H b=some u->¬ z9 (some u)->b≠x:=fun b u q nm z=>by subst z;rw[q]at mu;exact nm mu
 refine⟨fun b u q n _ _=>k b u (hb b n) q,fun b u q n _ _=>⟨u.slots,k b u (hb b n) q⟩,fun b u q n _=>by rw[upd_ne (hx b n)];exact n,fun b u q _=>?_,
  fun b xs q=>by rw[upd_ne (hm b _ q fun z=>z)];exact q,fun b u xs q=>by rw[upd_ne (hm b _ q fun z=>z)];exact q,fun b ps q=>⟨#[],by rw[upd_ne (hm b _ q fun z=>z),q];simp⟩⟩
 by_cases hbe:b=e
 ·subst hbe;exact heo
 ·exact⟨u,k b u hbe q⟩
end
def trk(h:Heap)(H:Hp):List Addr:=(List.range h.objs.size).filter fun a=>(H a).isSome
def iX(h:Heap)(H:Hp):Heap:=PySem.W.hideAll h (trk h H)
theorem nR(h:Heap)(H:Hp):(iX h H).objs.size=h.objs.size:=PySem.W.hideAll_size _ _
theorem hidT_get{h:Heap}{H:Hp}{b:Addr}{o:Obj}(e:h.get? b=some o)(n:H b=none):(iX h H).get? b=some o :=
 PySem.W.hideAll_get _ e fun hm=>by
  have q:(H b).isSome=true:=(abi.mp hm).2
  rw[n]at q;simp at q
theorem tH{h:Heap}{H:Hp}{b:Addr}{o:Obj}(e:(iX h H).get? b=some o):h.get? b=some o/\H b=none:=by
 have e':h.get? b=some o:=PySem.W.of_hideAll (trk h H) e
 refine⟨e',?_⟩
 cases q:H b with
 | none=>rfl
 | some x =>
  have hm:b∈trk h H:=abi.mpr ⟨abx.mpr (Heap.lt_size e'),by simp[q]⟩
  have z:(iX h H).get? b=none:=PySem.W.hideAll_none (trk h H) hm
  rw[z]at e;cases e
end
section
structure Mod (K:Waa)(mg:Str->Option Value)(base:Heap):Prop where
 kin:K.In base
 glob:base.Ns mainGlobals mg
 blt:∃mb,base.Ns builtinsNs mb/\∀x:Str,x≠"__name__"->mb x=bootBuiltins x
 nolimit:base.NoLimit
structure Cx where
 prog:Program
 w:World
 K:Waa
 mg:Str->Option Value
 base:Heap
 A:Around
 N:List Str
 s₀:Shared
 H₀:Hp
 env:Env
 outer:List Env
 stack:List Env
 ex:List Addr
 fn:Str->Bool
 calm:Bool
 pn:List (Addr × Obj)
 xe:Value->Shared->Prop
def pH(l:List Env):List Addr:=l.filterMap (·.frame)
abbrev Cx.fs(X:Cx):List Addr:=pH X.outer
def Vis(sc:Scope)(x:Str):Prop:=sc.names.lookup x=some .local\/sc.names.lookup x=some .cell\/sc.names.lookup x=some .free
def Loc(sc:Scope)(x:Str):Prop:=sc.names.lookup x=some .local\/sc.names.lookup x=some .cell
def Look(env:Env)(h:Heap)(m:Str->Option Value)(x:Str)(u:Value):Prop :=
 (env.kindOf x=some .local/\m x=some u)\/((env.kindOf x=some .cell\/env.kindOf x=some .free)/\∃c,env.cells.lookup x=some c/\h.IsCell c (some u))
structure Cx.Ok (X:Cx):Prop where
 mod:Mod X.K X.mg X.base
 kind:X.env.scope.kind=.function
 glob:X.env.globals=mainGlobals
 blt:X.env.builtins=builtinsNs
 above:X.s₀.heap.objs.size<=X.env.locals
 inj:∀x y c,X.env.cells.lookup x=some c->X.env.cells.lookup y=some c->x=y
 has:∀x,(X.env.kindOf x=some .cell\/X.env.kindOf x=some .free)->∃c,X.env.cells.lookup x=some c
 cab:∀x c,X.fn x=true->X.env.cells.lookup x=some c->X.s₀.heap.objs.size<=c
 hd:X.calm=true->X.A.handled=none
 frames:X.A.frames=some X.stack
 stk:X.stack=X.outer\/(X.stack=X.env::X.outer/\X.env.frame=some X.env.locals)
 exf:∀b∈X.ex,b≠X.env.locals/\∀x c,X.env.cells.lookup x=some c->c≠b
 bs:∀b o,X.base.get? b=some o->X.s₀.heap.get? b=some o/\X.H₀ b=none
 bsz:X.base.objs.size<=X.s₀.heap.objs.size
 noex:∀b o,X.base.get? b=some o->b ∉ X.ex
 exfs:∀b∈X.ex,b ∉ X.fs
 funs:X.s₀.heap.FunFrames X.base X.outer
 frf:∀b∈X.fs,X.H₀ b=none
structure Inv (X:Cx)(pins:List (Addr × Obj))(σ:List (Option V))(H:Hp)(s:Shared):Prop where
 ok:X.Ok
 os:s.os=X.s₀.os
 bare:AllBare s.gens
 base:Un X.fs X.ex X.H₀ H X.s₀.heap s.heap
 loc:∃m,s.heap.Ns X.env.locals m/\∀(i:Nat) (x:Str) (v:V),X.N[i]?=some x->σ[i]?=some (some v)->Vis X.env.scope x->∃u,RelV v u/\Look X.env s.heap m x u
 cell:∀x c,X.env.cells.lookup x=some c->∃v,s.heap.IsCell c v
 free:H X.env.locals=none
 freeC:∀x c,X.env.cells.lookup x=some c->H c=none
 pin:∀p∈X.pn++pins,s.heap.get? p.1=some p.2/\H p.1=none/\p.1≠X.env.locals/\p.1 ∉ X.fs/\∀v,p.2.data≠.cell v
 hok:HOk X.prog X.w H s.heap
 len:σ.length=X.N.length
section
variable{X:Cx}{pins:List (Addr × Obj)}{σ:List (Option V)}{H H':Hp}{s:Shared}{h':Heap}
theorem Cx.Ok.nofr(ok:X.Ok){b:Addr}{o:Obj}(e:X.base.get? b=some o):b ∉ X.fs:=fun hb=>by
 have:=(ok.funs.mem hb).1
 rw[e]at this;cases this
theorem Inv.bs(I:Inv X pins σ H s):∀b o,X.base.get? b=some o->s.heap.get? b=some o/\H b=none:=fun b o e =>
 ⟨I.base.keep b o (I.ok.bs b o e).1 (I.ok.bs b o e).2 (I.ok.nofr e) (I.ok.noex b o e),I.base.free b o (I.ok.bs b o e).1 (I.ok.bs b o e).2 (I.ok.noex b o e)⟩
theorem Inv.bk(I:Inv X pins σ H s):∀b o,X.base.get? b=some o->s.heap.get? b=some o:=fun b o e=>(I.bs b o e).1
theorem Inv.mod(I:Inv X pins σ H s):Mod X.K X.mg X.base:=I.ok.mod
theorem Inv.kIn(I:Inv X pins σ H s):X.K.In s.heap:=I.ok.mod.kin.keeps I.bk
theorem Inv.fr(I:Inv X pins σ H s):∃m,Fr X.base X.env.locals s.heap m :=
 let ⟨m,hn,_⟩:=I.loc
 ⟨m,hn,I.bk,aaq I.ok.bsz I.ok.above⟩
theorem Inv.lt(I:Inv X pins σ H s):X.env.locals < s.heap.objs.size:=let ⟨_,hn,_⟩:=I.loc;hn.lt
theorem Inv.sz(I:Inv X pins σ H s):X.s₀.heap.objs.size<=s.heap.objs.size:=aaq I.ok.above (aa4 I.lt)
theorem Inv.nofs(I:Inv X pins σ H s){a:Addr}(h:s.heap.objs.size<=a):a ∉ X.fs:=fun hb=>by
 obtain⟨_,o,ho,_⟩:=I.ok.funs.mem hb
 exact absurd (aax (Heap.lt_size ho) (aaq I.sz h)) (aaW _)
theorem Inv.cne(I:Inv X pins σ H s):∀x c,X.env.cells.lookup x=some c->c≠X.env.locals:=fun x c e z=>by
 obtain⟨v,o,ho,hd⟩:=I.cell x c e
 obtain⟨m,⟨o',es,ep,ho',hd',_⟩,_⟩:=I.loc
 rw[z,ho']at ho;cases ho;rw[hd']at hd;cases hd
theorem Inv.funs(I:Inv X pins σ H s):s.heap.FunFrames X.base X.outer:=by
 have all:∀(l:List Env),(∀b∈pH l,b∈X.fs)->X.s₀.heap.FunFrames X.base l->s.heap.FunFrames X.base l:=by
  intro l
  induction l with
  | nil=>intro _ _;trivial
  | cons env r ih =>
   intro hs hl
   obtain⟨hk,⟨L,o,hf,hn,ho,hd⟩,hr⟩:=hl
   have hL:L∈X.fs:=hs L (by unfold pH;rw[abb,hf];exact aag)
   obtain⟨sl,e⟩:=I.base.slot L o ho (I.ok.frf L hL) hL fun z=>I.ok.exfs L z hL
   exact⟨hk,⟨L,_,hf,hn,e,hd⟩,ih (fun b hb=>hs b (by unfold pH;rw[abb,hf];exact aai _ hb)) hr⟩
 exact all X.outer (fun _ hb=>hb) I.ok.funs
theorem Inv.stack(I:Inv X pins σ H s):s.heap.FunFrames X.base X.stack:=by
 rcases I.ok.stk with e | ⟨e,hf⟩
 ·rw[e];exact I.funs
 ·rw[e]
  obtain⟨m,hn,_⟩:=I.loc
  refine .cons (by rw[I.ok.kind];decide) hf hn ?_ I.funs
  exact Heap.get?_none_of_le (aaq I.ok.bsz I.ok.above)
theorem Inv.stkSub(I:Inv X pins σ H s):∀b∈pH X.stack,b∈X.env.locals::X.fs:=fun b hb=>by
 rcases I.ok.stk with e | ⟨e,hf⟩
 ·rw[e]at hb;exact aai _ hb
 ·rw[e]at hb
  unfold pH at hb
  rw[abb,hf]at hb
  exact hb
theorem Inv.stkFree(I:Inv X pins σ H s):∀b∈pH X.stack,H b=none:=fun b hb=>by
 rcases aab.mp (I.stkSub b hb) with e | hb
 ·rw[e];exact I.free
 ·obtain⟨_,o,ho,_⟩:=I.ok.funs.mem hb
  exact I.base.free b o ho (I.ok.frf b hb) fun z=>I.ok.exfs b z hb
theorem Inv.step{g':Array GenState}{t':Nat}{d':Drawn}{ch:List Addr}(I:Inv X pins σ H s)
  (hch:∀b∈ch,(b∈X.ex\/X.s₀.heap.objs.size<=b)/\b≠X.env.locals/\(∀x c,X.env.cells.lookup x=some c->c≠b)/\∀p∈X.pn++pins,p.1≠b)
  (keep:∀b o,b≠X.env.locals->b ∉ X.fs->b ∉ ch->s.heap.get? b=some o->H b=none->h'.get? b=some o)
  (slot:∀b o,b≠X.env.locals->b∈X.fs->b ∉ ch->s.heap.get? b=some o->H b=none->∃sl,h'.get? b=some { o with slots:=sl }) (free:∀b o,b ∉ ch->s.heap.get? b=some o->H b=none->H' b=none)
  (there:∀b o,b ∉ ch->s.heap.get? b=some o->∃o',h'.get? b=some o')
  (tups:∀b xs,H b=some (.tup xs)->H' b=some (.tup xs)) (frzs:∀b o u,H b=some (.frz o u)->H' b=some (.frz o u)) (tbls:∀b ps,H b=some (.tbl ps)->∃more,H' b=some (.tbl (ps++more)))
  (ns:∀m,s.heap.Ns X.env.locals m->h'.Ns X.env.locals m) (hok:HOk X.prog X.w H' h') (hg:AllBare g') :
  Inv X pins σ H' { s with heap:=h',gens:=g',drawn:=d',toks:=t' }:=by
 have neL:∀b o,X.s₀.heap.get? b=some o->b≠X.env.locals:=fun b o e=>aao (aax (Heap.lt_size e) I.ok.above)
 have neC:∀b o,X.s₀.heap.get? b=some o->b ∉ X.ex->b ∉ ch:=fun b o e hx hb=>by
  rcases (hch b hb).1 with z | z
  ·exact hx z
  ·exact absurd (aax (Heap.lt_size e) z) (aaW _)
 have cellK:∀x c,X.env.cells.lookup x=some c->∀v,s.heap.IsCell c v->h'.IsCell c v:=fun x c e v ⟨o,ho,hd⟩=>by
  have nch:c ∉ ch:=fun z=>(hch c z).2.2.1 x c e rfl
  by_cases hc:c∈X.fs
  ·obtain⟨sl,q⟩:=slot c o (I.cne x c e) hc nch ho (I.freeC x c e)
   exact⟨_,q,hd⟩
  ·exact⟨o,keep c o (I.cne x c e) hc nch ho (I.freeC x c e),hd⟩
 refine⟨I.ok,I.os,hg,⟨fun b o e n hb hx=>?_,fun b o e n hb hx=>?_,fun b o e n hx=>?_,fun b o e hx=>?_,fun b xs e=>tups b xs (I.base.tups b xs e),fun b o xs e=>frzs b o xs (I.base.frzs b o xs e),fun b ps e=>?_⟩,?_,fun x c e=>?_,?_,fun x c e=>?_,fun p hp=>?_,hok,I.len⟩
 ·exact keep b o (neL b o e) hb (neC b o e hx) (I.base.keep b o e n hb hx) (I.base.free b o e n hx)
 ·obtain⟨sl,e1⟩:=I.base.slot b o e n hb hx
  obtain⟨sl',e2⟩:=slot b _ (neL b o e) hb (neC b o e hx) e1 (I.base.free b o e n hx)
  exact⟨sl',e2⟩
 ·obtain⟨o',e1⟩:=I.base.there b o e hx
  exact free b o' (neC b o e hx) e1 (I.base.free b o e n hx)
 ·obtain⟨o',e1⟩:=I.base.there b o e hx
  exact there b o' (neC b o e hx) e1
 ·obtain⟨m1,e1⟩:=I.base.tbls b ps e
  obtain⟨m2,e2⟩:=tbls b _ e1
  exact⟨m1++m2,by rw[e2,Array.append_assoc]⟩
 ·obtain⟨m,hn,hl⟩:=I.loc
  refine⟨m,ns m hn,fun i x v e1 e2 e3=>?_⟩
  obtain⟨u,r,l⟩:=hl i x v e1 e2 e3
  refine⟨u,r,?_⟩
  rcases l with l | ⟨k,c,e,z⟩
  ·exact .inl l
  ·exact .inr ⟨k,c,e,cellK x c e _ z⟩
 ·obtain⟨v,z⟩:=I.cell x c e
  exact⟨v,cellK x c e v z⟩
 ·obtain⟨m,⟨o,_,_,ho,_⟩,_⟩:=I.loc
  exact free _ o (fun z=>(hch _ z).2.1 rfl) ho I.free
 ·obtain⟨v,o,ho,hd⟩:=I.cell x c e
  exact free c o (fun z=>(hch c z).2.2.1 x c e rfl) ho (I.freeC x c e)
 ·obtain⟨e,n,ne,nf,d⟩:=I.pin p hp
  have nch:p.1 ∉ ch:=fun z=>(hch p.1 z).2.2.2 p hp rfl
  exact⟨keep p.1 p.2 ne nf nch e n,free p.1 p.2 nch e n,ne,nf,d⟩
theorem Inv.un{t':Nat}(I:Inv X pins σ H s)(u:Un X.fs [] H H' s.heap h')(hok:HOk X.prog X.w H' h'):Inv X pins σ H' { s with heap:=h',toks:=t' }:=by
 obtain⟨m,⟨o,es,ep,ho,r⟩,_⟩:=id I.loc
 obtain⟨sl,hL⟩:=u.any ho I.free (by simp)
 exact I.step (g':=s.gens) (d':=s.drawn) (ch:=[]) (fun _ z=>nomatch z) (fun b o _ hb _ e n=>u.keep b o e n hb (by simp)) (fun b o _ hb _ e n=>u.slot b o e n hb (by simp)) (fun b o _ e n=>u.free b o e n (by simp)) (fun b o _ e=>u.there b o e (by simp)) u.tups u.frzs u.tbls (fun m' hm=>by
  obtain⟨o',es',ep',ho',r'⟩:=hm
  rw[ho]at ho';cases ho'
  exact⟨_,es',ep',hL,r'⟩) hok I.bare
theorem Inv.call{g':Array GenState}{t':Nat}{d':Drawn}{ch:List Addr}(I:Inv X pins σ H s)(u:Un (pH X.stack) ch H H' s.heap h')(hok:HOk X.prog X.w H' h')(hg:AllBare g')
  (hch:∀b∈ch,(b∈X.ex\/X.s₀.heap.objs.size<=b)/\b≠X.env.locals/\(∀x c,X.env.cells.lookup x=some c->c≠b)/\∀p∈X.pn++pins,p.1≠b) :
  Inv X pins σ H' { s with heap:=h',gens:=g',drawn:=d',toks:=t' }:=by
 obtain⟨m,⟨o,es,ep,ho,r⟩,_⟩:=id I.loc
 obtain⟨sl,hL⟩:=u.any ho I.free fun z=>(hch _ z).2.1 rfl
 exact I.step (ch:=ch) hch (fun b o hL hb hc e n=>u.keep b o e n (fun z=>(aab.mp (I.stkSub b z)).elim hL hb) hc) (fun b o _ _ hc e n=>u.any e n hc) (fun b o hc e n=>u.free b o e n hc) (fun b o hc e=>u.there b o e hc) u.tups u.frzs u.tbls (fun m' hm=>by
  obtain⟨o',es',ep',ho',r'⟩:=hm
  rw[ho]at ho';cases ho'
  exact⟨_,es',ep',hL,r'⟩) hok hg
theorem Inv.turned{t':Nat}{it:Addr}(I:Inv X pins σ H s)(k:∀b o,b≠it->s.heap.get? b=some o->h'.get? b=some o)(hn:H it=none)(hL:it≠X.env.locals)
  (h1:it∈X.ex\/X.s₀.heap.objs.size<=it) (h2:∀x c,X.env.cells.lookup x=some c->c≠it) (h3:∀p∈X.pn++pins,p.1≠it):Inv X pins σ H { s with heap:=h',toks:=t' }:=by
 have nit:∀b u,H b=some u->b≠it:=fun b u e z=>by rw[z,hn]at e;cases e
 refine I.step (g':=s.gens) (d':=s.drawn) (ch:=[it]) (fun b hb=>?_) (fun b o _ _ hc e _=>k b o (fun z=>hc (by simp[z])) e) (fun b o _ _ hc e _=>⟨o.slots,k b o (fun z=>hc (by simp[z])) e⟩) (fun _ _ _ _ n=>n)
  (fun b o hc e=>⟨o,k b o (fun z=>hc (by simp[z])) e⟩) (fun _ _ e=>e) (fun _ _ _ e=>e) (fun b ps e=>⟨#[],by rw[e];simp⟩) (fun m hm=>?_) (fun b u e=>?_) I.bare
 ·have e:b=it:=by simpa using hb
  subst e
  exact⟨h1,hL,h2,h3⟩
 ·obtain⟨o,es,ep,ho,r⟩:=hm
  exact⟨o,es,ep,k _ o (aaM hL) ho,r⟩
 ·refine (I.hok b u e).stay (fun c v hc q=>k c v ?_ q) (fun _ q=>q) fun _ _ q=>q
  rcases hc with z | z
  ·rw[z];exact nit b u e
  ·exact nit c _ z
theorem Inv.tok(I:Inv X pins σ H s)(t:Nat):Inv X pins σ H { s with toks:=t }:=I.un (h':=s.heap) (t':=t) Un.refl I.hok
theorem Inv.kept{t':Nat}(I:Inv X pins σ H s)(k:∀b u,s.heap.get? b=some u->h'.get? b=some u):Inv X pins σ H { s with heap:=h',toks:=t' }:=I.un (Un.kept k) (I.hok.kept k)
theorem Inv.laid{a:Addr}{o:HO}{t':Nat}(I:Inv X pins σ H s)(k:∀b u,s.heap.get? b=some u->h'.get? b=some u)(hp:s.heap.objs.size<=a)(new:ObjOk X.prog X.w (upd H a o) h' a o) :
  Inv X pins σ (upd H a o) { s with heap:=h',toks:=t' }:=I.un (Un.laid k hp (I.hok.fresh hp)) (I.hok.laid k hp new)
theorem Inv.write{x e:Addr}{o:HO}{t':Nat}(I:Inv X pins σ H s)(mu:z9 (H x))(he:e=x\/H e=some (.own x))(k:∀b u,b≠e->s.heap.get? b=some u->h'.get? b=some u)(heo:∃u,h'.get? e=some u)
  (new:ObjOk X.prog X.w (upd H x o) h' x o):Inv X pins σ (upd H x o) { s with heap:=h',toks:=t' }:=I.un (Un.write mu he k heo) (I.hok.write mu he k heo new)
theorem Inv.pins_of{pins':List (Addr × Obj)}(I:Inv X pins σ H s)(h:∀p∈pins',s.heap.get? p.1=some p.2/\H p.1=none/\p.1≠X.env.locals/\p.1 ∉ X.fs/\∀v,p.2.data≠.cell v):Inv X pins' σ H s :=
 ⟨I.ok,I.os,I.bare,I.base,I.loc,I.cell,I.free,I.freeC,fun p hp=>(aal.mp hp).elim (fun z=>I.pin p (aae _ z)) (h p),I.hok,I.len⟩
theorem jJ{N:List Str}(hN:N.Nodup){i j:Nat}{x:Str}(a:N[i]?=some x)(b:N[j]?=some x):i=j:=by
 obtain⟨h1,e1⟩:=aau.mp a
 obtain⟨h2,e2⟩:=aau.mp b
 exact (List.getElem_inj hN).mp (e1.trans e2.symm)
theorem eY{M:Model}{A:Around}{E:Value->Shared->Prop}{i:Nat}{x:Str}{v:V}{u:Value}{Q:Unit->Shared->Prop}(I:Inv X pins σ H s)(hN:X.N.Nodup)(hi:X.N[i]?=some x)(hx:Loc X.env.scope x)(r:RelV v u)
  (h:∀s',Inv X pins (σ.set i (some v)) H s'->(∃a,Heap.SameBut a s.heap s'.heap/\(a=X.env.locals\/X.env.cells.lookup x=some a))->Q () s') (hf:X.fn x=true\/X.env.scope.names.lookup x=some .local:=by first | exact .inl rfl | exact .inr rfl | assumption):wpAny M A (storeName X.env x u) Q E s:=by
 obtain⟨m,hn,hl⟩:=id I.loc
 have hcls:(X.env.scope.kind == .class || (X.env.scope.kind == .module && X.env.locals != X.env.globals))=false:=by rw[I.ok.kind];rfl
 have hiσ:i < σ.length:=by rw[I.len];exact (aau.mp hi).1
 have cne:=I.cne
 have tracked:∀{a:Addr} {h':Heap},(∃o,s.heap.get? a=some o/\H a=none)->Heap.SameBut a s.heap h'->HOk X.prog X.w H h':=fun {a h'} ha hs b ob e=>by
  obtain⟨_,_,hfree⟩:=ha
  refine (I.hok b ob e).stay (fun c w' hc q=>(hs.2 c ?_).trans q) (fun _ q=>q) fun _ _ q=>q
  rintro rfl
  rcases hc with rfl | hc
  ·rw[hfree]at e;cases e
  ·rw[hfree]at hc;cases hc
 rcases hx with hk | hk
 ·refine wpAny_storeName_local hk hn (fun h' hn' hs=>?_) hcls
  obtain⟨oL,_,_,hoL,_⟩:=id hn
  refine h _ ⟨I.ok,I.os,I.bare,⟨fun b o e n hb hx=>?_,fun b o e n hb hx=>?_,I.base.free,fun b o e hx=>?_,I.base.tups,I.base.frzs,I.base.tbls⟩,⟨_,hn',fun j y v' e1 e2 e3=>?_⟩,fun y c e=>?_,I.free,I.freeC,fun p hp=>?_,tracked ⟨oL,hoL,I.free⟩ hs,by simpa using I.len⟩ ⟨_,hs,.inl rfl⟩
  ·exact (hs.2 b (aao (aax (Heap.lt_size e) I.ok.above))).trans (I.base.keep b o e n hb hx)
  ·obtain⟨sl,e1⟩:=I.base.slot b o e n hb hx
   exact⟨sl,(hs.2 b (aao (aax (Heap.lt_size e) I.ok.above))).trans e1⟩
  ·obtain⟨o',e1⟩:=I.base.there b o e hx
   exact⟨o',(hs.2 b (aao (aax (Heap.lt_size e) I.ok.above))).trans e1⟩
  ·by_cases hj:j=i
   ·subst hj
    rw[hi]at e1;cases e1
    rw[aa5 hiσ]at e2
    cases e2
    exact⟨u,r,.inl ⟨hk,by simp⟩⟩
   ·rw[abc (aaM hj)]at e2
    obtain⟨u',r',q⟩:=hl j y v' e1 e2 e3
    refine⟨u',r',?_⟩
    rcases q with ⟨k,e⟩ | ⟨k,c,e,z⟩
    ·refine .inl ⟨k,?_⟩
     have:y≠x:=fun e=>hj (jJ hN e1 (e ▸ hi))
     simp[this,e]
    ·exact .inr ⟨k,c,e,z.sameBut hs (cne y c e)⟩
  ·obtain⟨w',z⟩:=I.cell y c e
   exact⟨w',z.sameBut hs (cne y c e)⟩
  ·obtain⟨e,n,ne,nf,d⟩:=I.pin p hp
   exact⟨(hs.2 p.1 ne).trans e,n,ne,nf,d⟩
 ·have hfn:X.fn x=true:=by
   rcases hf with z | z
   ·exact z
   ·rw[z]at hk;cases hk
  obtain⟨c,hc⟩:=I.ok.has x (.inl hk)
  obtain⟨w',z⟩:=I.cell x c hc
  refine wpAny_storeName_cell I.ok.kind hk hc z (fun h' hc' hs=>?_)
  obtain⟨oc,hoc,hocd⟩:=id z
  refine h { s with heap:=h' } ⟨I.ok,I.os,I.bare,⟨fun b o e n hb hx=>?_,fun b o e n hb hx=>?_,I.base.free,fun b o e hx=>?_,I.base.tups,I.base.frzs,I.base.tbls⟩,⟨m,hn.sameBut hs (aaM (cne x c hc)),fun j y v' e1 e2 e3=>?_⟩,fun y c' e=>?_,I.free,I.freeC,fun p hp=>?_,tracked ⟨oc,hoc,I.freeC x c hc⟩ hs,by simpa using I.len⟩ ⟨c,hs,.inr hc⟩
  ·exact (hs.2 b (aao (aax (Heap.lt_size e) (I.ok.cab x c hfn hc)))).trans (I.base.keep b o e n hb hx)
  ·obtain⟨sl,e1⟩:=I.base.slot b o e n hb hx
   exact⟨sl,(hs.2 b (aao (aax (Heap.lt_size e) (I.ok.cab x c hfn hc)))).trans e1⟩
  ·obtain⟨o',e1⟩:=I.base.there b o e hx
   exact⟨o',(hs.2 b (aao (aax (Heap.lt_size e) (I.ok.cab x c hfn hc)))).trans e1⟩
  ·by_cases hj:j=i
   ·subst hj
    rw[hi]at e1;cases e1
    rw[aa5 hiσ]at e2
    cases e2
    exact⟨u,r,.inr ⟨.inl hk,c,hc,hc'⟩⟩
   ·rw[abc (aaM hj)]at e2
    obtain⟨u',r',q⟩:=hl j y v' e1 e2 e3
    refine⟨u',r',?_⟩
    rcases q with q | ⟨k,c',e,z'⟩
    ·exact .inl q
    ·refine .inr ⟨k,c',e,z'.sameBut hs ?_⟩
     rintro rfl
     exact hj (jJ hN e1 (I.ok.inj _ _ _ e hc ▸ hi))
  ·by_cases hcc:c'=c
   ·subst hcc;exact⟨_,hc'⟩
   ·obtain⟨w2,z2⟩:=I.cell y c' e
    exact⟨w2,z2.sameBut hs hcc⟩
  ·obtain⟨e,n,ne,nf,d⟩:=I.pin p hp
   refine⟨(hs.2 p.1 ?_).trans e,n,ne,nf,d⟩
   intro q
   rw[q,hoc]at e
   have q':oc=p.2:=aaG e
   exact d w' (by rw[<- q'];exact hocd)
theorem bL{M:Model}{A:Around}{E:Value->Shared->Prop}{i:Nat}{x:Str}{v:V}{u:Value}{Q:Unit->Shared->Prop}(I:Inv X pins σ H s)(hN:X.N.Nodup)(hi:X.N[i]?=some x)(hx:Loc X.env.scope x)(r:RelV v u)
  (h:∀s',Inv X pins (σ.set i (some v)) H s'->Q () s') (hf:X.fn x=true\/X.env.scope.names.lookup x=some .local:=by first | exact .inl rfl | exact .inr rfl | assumption):wpAny M A (storeName X.env x u) Q E s :=
 eY I hN hi hx r (fun s' I' _=>h s' I') hf
theorem Inv.call'{s':Shared}{ch:List Addr}(I:Inv X pins σ H s)(ho:s'.os=s.os)(u:Un (pH X.stack) ch H H' s.heap s'.heap)(hok:HOk X.prog X.w H' s'.heap)(hg:AllBare s'.gens)
  (hch:∀b∈ch,(b∈X.ex\/X.s₀.heap.objs.size<=b)/\b≠X.env.locals/\(∀x c,X.env.cells.lookup x=some c->c≠b)/\∀p∈X.pn++pins,p.1≠b):Inv X pins σ H' s':=by
 obtain⟨h',g',d',t',o'⟩:=s'
 have e:o'=s.os:=ho
 subst e
 exact I.call (g':=g') (t':=t') (d':=d') u hok hg hch
end
abbrev XK:=Value->Option Addr->Hp->Prop
abbrev St:=List (Option V)
abbrev VK:=V->Hp->Prop
abbrev TE:=St->Hp->VK->Prop
abbrev TT:=St->Hp->(Bool->Hp->Prop)->Prop
abbrev TA:=St->Hp->(List V->Hp->Prop)->Prop
structure Ends where
 nx:St->Hp->Prop
 rt:VK
 bk:St->Hp->Prop:=fun _ _=>False
 ct:St->Hp->Prop:=fun _ _=>False
abbrev TS:=Ends->St->Hp->Prop
def EP(X:Cx)(pins:List (Addr × Obj))(σ:St)(Q:VK)(u:Value)(s':Shared):Prop:=∃v H',Inv X pins σ H' s'/\RelV v u/\Q v H'
def TP(X:Cx)(pins:List (Addr × Obj))(σ:St)(Q:Bool->Hp->Prop)(b:Bool)(s':Shared):Prop:=∃H',Inv X pins σ H' s'/\Q b H'
def AP(X:Cx)(pins:List (Addr × Obj))(σ:St)(Q:List V->Hp->Prop)(us:List Value)(s':Shared):Prop:=∃vs H',Inv X pins σ H' s'/\Vals vs us/\Q vs H'
def SP(X:Cx)(pins:List (Addr × Obj))(D:Ends)(f:Flow)(s':Shared):Prop :=
 match f with
 | .next=>∃σ' H',Inv X pins σ' H' s'/\D.nx σ' H'
 | .brk=>∃σ' H',Inv X pins σ' H' s'/\D.bk σ' H'
 | .cont=>∃σ' H',Inv X pins σ' H' s'/\D.ct σ' H'
 | .ret u=>∃v σ' H',Inv X pins σ' H' s'/\RelV v u/\D.rt v H'
def PE(X:Cx)(e:Expr)(t:TE):Prop :=
 ∀(pins:List (Addr × Obj)) (s:Shared) (σ:St) (H:Hp) (Q:VK),Inv X pins σ H s->t σ H Q->wpAny (model X.prog X.w) X.A (eval e X.env) (EP X pins σ Q) X.xe s
def PT(X:Cx)(e:Expr)(t:TT):Prop :=
 ∀(pins:List (Addr × Obj)) (s:Shared) (σ:St) (H:Hp) (Q:Bool->Hp->Prop),Inv X pins σ H s->t σ H Q->wpAny (model X.prog X.w) X.A (isTrue e X.env (eval e X.env)) (TP X pins σ Q) X.xe s
def PW(X:Cx)(e:Expr)(t:TT):Prop :=
 ∀(whole:Sem Value) (pins:List (Addr × Obj)) (s:Shared) (σ:St) (H:Hp) (Q:Bool->Hp->Prop),Inv X pins σ H s->t σ H Q->wpAny (model X.prog X.w) X.A (isTrue e X.env whole) (TP X pins σ Q) X.xe s
theorem PW.pt{X:Cx}{e:Expr}{t:TT}(h:PW X e t):PT X e t:=h _
def PA(X:Cx)(es:List Expr)(t:TA):Prop :=
 ∀(pos:Pos) (pins:List (Addr × Obj)) (s:Shared) (σ:St) (H:Hp) (Q:List V->Hp->Prop),Inv X pins σ H s->t σ H Q->wpAny (model X.prog X.w) X.A (spliced (backTo pos (starEach es X.env))) (AP X pins σ Q) X.xe s
def PS(X:Cx)(st:Stmt)(t:TS):Prop :=
 ∀(pins:List (Addr × Obj)) (s:Shared) (σ:St) (H:Hp) (D:Ends),Inv X pins σ H s->t D σ H->wpAny (model X.prog X.w) X.A (exec st X.env) (SP X pins D) X.xe s
def PSs(X:Cx)(st:List Stmt)(t:TS):Prop :=
 ∀(pins:List (Addr × Obj)) (s:Shared) (σ:St) (H:Hp) (D:Ends),Inv X pins σ H s->t D σ H->wpAny (model X.prog X.w) X.A (execs st X.env) (SP X pins D) X.xe s
theorem thn{α:Type}{t:Sem α}{Q Q':α->Shared->Prop}{M:Model}{A:Around}{E:Value->Shared->Prop}{s:Shared}(h:wpAny M A t Q E s)(hQ:∀a s,Q a s->Q' a s):wpAny M A t Q' E s:=wpAny_mono h hQ fun _ _ x=>x
end
section
section
variable{X:Cx}
def tVar(i:Nat):TE:=fun σ H Q=>∃v,σ[i]?=some (some v)/\Q v H
def tC(v:V):TE:=fun _ H Q=>Q v H
theorem eZ {i:Nat} {x:Str} {pos:Pos} (hN:X.N[i]?=some x) (hv:Vis X.env.scope x) (hd:(x == ("__debug__":Str))=false:=by decide) (hcd:(x == ("__classdict__":Str))=false:=by decide):PE X (.Name x pos) (tVar i):=by
 intro pins s σ H Q I h
 obtain⟨v,e,h⟩:=h
 obtain⟨m,hn,hl⟩:=I.loc
 obtain⟨u,r,l⟩:=hl i x v hN e hv
 have fin:EP X pins σ Q u s:=⟨v,H,I,r,h⟩
 rcases l with ⟨hk,hm⟩ | ⟨hk,c,hc,hcell⟩
 ·exact wpAny_Name (wpAny_loadName_local I.ok.kind hk hn hm fin) hd
 ·rcases hk with hk | hk
  ·exact wpAny_Name (wpAny_loadName_cell I.ok.kind hk hc hcell fin) hd
  ·exact wpAny_Name (wpAny_loadName_free I.ok.kind hk hc hcell fin hcd) hd
theorem iY{i j pos}:PE X (.Constant (.int i) j pos) (tC (.int i)):=fun _ _ _ H _ I h=>wpAny_Constant_int ⟨.int i,H,I.tok _,⟨_,rfl⟩,h⟩
theorem Aa{b j pos}:PE X (.Constant (.bool b) j pos) (tC (.bl b)):=fun _ _ _ H _ I h=>Constant_bool ⟨.bl b,H,I,rfl,h⟩
theorem xl{x j pos}:PE X (.Constant (.str x) j pos) (tC (.str x)):=fun _ _ _ H _ I h=>Calls.Constant_str ⟨.str x,H,I.tok _,⟨_,rfl⟩,h⟩
def Gl(X:Cx)(x:Str):Prop:=X.env.kindOf x=some .globalImplicit
theorem l4{E:Value->Shared->Prop}{pins:List (Addr × Obj)}{s:Shared}{σ:St}{H:Hp}{x:Str}{u:Value}{pos:Pos}{Q:Value->Shared->Prop}(I:Inv X pins σ H s)(hg:Gl X x)(hm:X.mg x=some u)(h:Q u s)
  (hd:(x == ("__debug__":Str))=false:=by decide):wpAny (model X.prog X.w) X.A (eval (.Name x pos) X.env) Q E s :=
 Calls.Name_function_global I.ok.kind hg (Calls.loadGlobal_global (by rw[I.ok.glob];exact I.mod.glob.keeps I.bk) hm h) hd
theorem dE{E:Value->Shared->Prop}{pins:List (Addr × Obj)}{s:Shared}{σ:St}{H:Hp}{x:Str}{u:Value}{pos:Pos}{Q:Value->Shared->Prop}(I:Inv X pins σ H s)(hg:Gl X x)(hm:X.mg x=none)(hv:bootBuiltins x=some u)(h:Q u s)
  (hn:x≠"__name__":=by decide) (hd:(x == ("__debug__":Str))=false:=by decide):wpAny (model X.prog X.w) X.A (eval (.Name x pos) X.env) Q E s:=by
 obtain⟨mb,h1,h2⟩:=I.mod.blt
 exact Calls.Name_function_global I.ok.kind hg (Calls.loadGlobal_builtin (by rw[I.ok.glob];exact I.mod.glob.keeps I.bk) hm (by rw[I.ok.blt];exact h1.keeps I.bk) ((h2 x hn).trans hv) h) hd
theorem tI {x:Str} {v:V} {u:Value} {pos:Pos} (hg:Gl X x) (hm:X.mg x=some u) (r:RelV v u) (hd:(x == ("__debug__":Str))=false:=by decide):PE X (.Name x pos) (tC v) :=
 fun _ _ _ H _ I h=>l4 I hg hm ⟨v,H,I,r,h⟩ hd
theorem tJ {x:Str} {v:V} {u:Value} {pos:Pos} (hg:Gl X x) (hm:X.mg x=none) (hv:bootBuiltins x=some u) (r:RelV v u) (hn:x≠"__name__":=by decide) (hd:(x == ("__debug__":Str))=false:=by decide):PE X (.Name x pos) (tC v) :=
 fun _ _ _ H _ I h=>dE I hg hm hv ⟨v,H,I,r,h⟩ hn hd
variable{a b:Expr}{ta tb:TE}{pos:Pos}
def PC(X:Cx)(op:CmpOp)(a b:Expr)(t:TE):Prop :=
 ∀(pins:List (Addr × Obj)) (s:Shared) (σ:St) (H:Hp) (Q:VK),Inv X pins σ H s->t σ H Q ->
  wpAny (model X.prog X.w) X.A (eval a X.env) (fun v s₁=>wpAny (model X.prog X.w) X.A (eval b X.env) (fun u s₂=>wpAny (model X.prog X.w) X.A (compareOp op v u) (EP X pins σ Q) X.xe s₂) X.xe s₁) X.xe s
theorem nobehind(b:Expr){op:CmpOp}(h:op≠.In)(h2:op≠.NotIn):behindInMarks op b=false:=by
 have e1:(op == CmpOp.In)=false:=by cases op<;>first | rfl | exact absurd rfl h
 have e2:(op == CmpOp.NotIn)=false:=by cases op<;>first | rfl | exact absurd rfl h2
 cases b<;>simp[behindInMarks,e1,e2]
def tB(t:TE):TT:=fun σ H Q=>t σ H fun x H1=>∃c,x=.bl c/\Q c H1
theorem pI{op:CmpOp}{t:TE}(h:PC X op a b t)(h1:behindInMarks op b=false:=by first | exact nobehind _ (by decide) (by decide) | rfl):PE X (.Compare a [op] [b] pos) t:=fun pins s σ H Q I hw=>wpAny_Compare1 (h pins s σ H Q I hw) h1
theorem pJ{op:CmpOp}{t:TE}(h:PC X op a b t)(h1:behindInMarks op b=false:=by first | exact nobehind _ (by decide) (by decide) | rfl):PT X (.Compare a [op] [b] pos) (tB t):=by
 intro pins s σ H Q I hw
 refine wpAny_isTrue_Compare1 (thn (h pins s σ H _ I hw) fun v s1 h1=>thn h1 fun u s2 h2=>thn h2 fun c s3 hZ=>?_) h1
 obtain⟨x,H1,I1,r1,q1⟩:=hZ
 obtain⟨d,rfl,q⟩:=q1
 cases r1
 exact wpAny_truthy_bool ⟨H1,I1,q⟩
variable{tA tB':TT}{rest:List Expr}
def C0(t u:TT):TT:=fun σ H Q=>t σ H fun c H1=>if c=true then u σ H1 Q else Q false H1
def Fx(t u:TT):TT:=fun σ H Q=>t σ H fun c H1=>if c=true then Q true H1 else u σ H1 Q
def C1(t:TT):TT:=fun σ H Q=>t σ H fun c H1=>Q (!c) H1
theorem tK(ha:PT X a tA):PW X (.BoolOp .And [a] pos) tA:=by
 intro wh pins s σ H Q I h
 refine isTrue_and (thn (ha pins s σ H Q I h) fun c s1 e=>?_)
 cases c with
 | true=>exact isTrue_and_nil e
 | false=>exact e
theorem xm(ha:PT X a tA):PW X (.BoolOp .Or [a] pos) tA:=by
 intro wh pins s σ H Q I h
 refine isTrue_or (thn (ha pins s σ H Q I h) fun c s1 e=>?_)
 cases c with
 | false=>exact isTrue_or_nil e
 | true=>exact e
theorem xo(ha:PT X a tA)(hb:PW X (.BoolOp .And (b::rest) pos) tB'):PW X (.BoolOp .And (a::b::rest) pos) (C0 tA tB'):=by
 intro wh pins s σ H Q I h
 refine isTrue_and (thn (ha pins s σ H _ I h) fun c s1 hZ=>?_)
 obtain⟨H1,I1,q1⟩:=hZ
 cases c with
 | true=>exact hb wh pins s1 σ H1 Q I1 q1
 | false=>exact⟨H1,I1,q1⟩
theorem Ab(ha:PT X a tA)(hb:PW X (.BoolOp .Or (b::rest) pos) tB'):PW X (.BoolOp .Or (a::b::rest) pos) (Fx tA tB'):=by
 intro wh pins s σ H Q I h
 refine isTrue_or (thn (ha pins s σ H _ I h) fun c s1 hZ=>?_)
 obtain⟨H1,I1,q1⟩:=hZ
 cases c with
 | true=>exact⟨H1,I1,q1⟩
 | false=>exact hb wh pins s1 σ H1 Q I1 q1
theorem xp(ha:PT X a tA):PT X (.UnaryOp .Not a pos) (C1 tA):=by
 intro pins s σ H Q I h
 exact isTrue_not (ha pins s σ H (fun c H1=>Q (!c) H1) I h)
def Ac(ta tb:TE):TE:=fun σ H Q=>ta σ H fun x H1=>∃c,x=.bl c/\if c=true then tb σ H1 Q else Q (.bl false) H1
def C2(ta tb:TE):TE:=fun σ H Q=>ta σ H fun x H1=>∃c,x=.bl c/\if c=true then Q (.bl true) H1 else tb σ H1 Q
def Ad(ta:TE):TE:=fun σ H Q=>ta σ H fun x H1=>∃c,x=.bl c/\Q (.bl (!c)) H1
theorem xq{op}{t:TE}(h:PE X a t):PE X (.BoolOp op [a] pos) t:=fun pins s σ H Q I hw=>BoolOp_one (h pins s σ H Q I hw)
theorem xr(ha:PE X a ta)(hb:PE X (.BoolOp .And (b::rest) pos) tb):PE X (.BoolOp .And (a::b::rest) pos) (Ac ta tb):=by
 intro pins s σ H Q I h
 refine BoolOp_and (thn (ha pins s σ H _ I h) fun v s1 hZ=>?_)
 obtain⟨x,H1,I1,r1,q1⟩:=hZ
 obtain⟨c,rfl,q1⟩:=q1
 cases r1
 refine wpAny_truthy_bool ?_
 cases c with
 | true=>exact hb pins s1 σ H1 Q I1 q1
 | false=>exact⟨.bl false,H1,I1,rfl,q1⟩
theorem Ae(ha:PE X a ta)(hb:PE X (.BoolOp .Or (b::rest) pos) tb):PE X (.BoolOp .Or (a::b::rest) pos) (C2 ta tb):=by
 intro pins s σ H Q I h
 refine BoolOp_or (thn (ha pins s σ H _ I h) fun v s1 hZ=>?_)
 obtain⟨x,H1,I1,r1,q1⟩:=hZ
 obtain⟨c,rfl,q1⟩:=q1
 cases r1
 refine wpAny_truthy_bool ?_
 cases c with
 | false=>exact hb pins s1 σ H1 Q I1 q1
 | true=>exact⟨.bl true,H1,I1,rfl,q1⟩
theorem xu(ha:PE X a ta):PE X (.UnaryOp .Not a pos) (Ad ta):=by
 intro pins s σ H Q I h
 refine UnaryOp_ (thn (ha pins s σ H _ I h) fun v s1 hZ=>?_)
 obtain⟨x,H1,I1,r1,q1⟩:=hZ
 obtain⟨c,rfl,q1⟩:=q1
 cases r1
 exact not_of (wpAny_truthy_bool ⟨.bl (!c),H1,I1,rfl,q1⟩)
def Fy(t:TT)(ta tb:TE):TE:=fun σ H Q=>t σ H fun c H1=>if c=true then ta σ H1 Q else tb σ H1 Q
theorem pK{c:Expr}(hc:PT X c tA)(ha:PE X a ta)(hb:PE X b tb):PE X (.IfExp c a b pos) (Fy tA ta tb):=by
 intro pins s σ H Q I h
 refine wpAny_IfExp (thn (hc pins s σ H _ I h) fun d s1 hZ=>?_)
 obtain⟨H1,I1,q1⟩:=hZ
 cases d with
 | true=>exact ha pins s1 σ H1 Q I1 q1
 | false=>exact hb pins s1 σ H1 Q I1 q1
end
end
section
def SqL(K:Waa)(H:Hp)(a:Addr)(xs:List V):Prop :=
 Rd H a (.lst xs) \/
  ∃(o:Obj) (its:Array Value) (n:Nat),K.lookup a=some o/\o.cls=.type "list"/\o.dict=none/\o.data=.seq its n/\its.size<=sizeLine/\Vals xs its.toList
def SqT(K:Waa)(H:Hp)(a:Addr)(xs:List V):Prop :=
 Rd H a (.tup xs) \/
  ∃(o:Obj) (its:Array Value) (n:Nat),K.lookup a=some o/\o.cls=.type "tuple"/\o.data=.seq its n/\its.size<=sizeLine/\Vals xs its.toList
def C3:Value->Option V
 | .none=>some .non
 | .bool b=>some (.bl b)
 | .int i _=>some (.int i)
 | .str x _=>some (.str x)
 | .bytes b _=>some (.byt b)
 | .float b _=>some (.flt b)
 | .ref a=>some (.ref a)
 | .type n=>some (.ty n)
 | _=>none
theorem RelV.abs{x:V}{u:Value}(r:RelV x u):C3 u=some x:=by
 cases x with
 | non=>cases r;rfl
 | bl _=>cases r;rfl
 | int _=>obtain⟨t,rfl⟩:=r;rfl
 | str _=>obtain⟨t,rfl⟩:=r;rfl
 | byt _=>obtain⟨t,rfl⟩:=r;rfl
 | flt _=>obtain⟨t,rfl⟩:=r;rfl
 | ref _=>cases r;rfl
 | ty _=>cases r;rfl
theorem RelV.inj{x y:V}{u:Value}(r:RelV x u)(q:RelV y u):x=y:=aaG (r.abs.symm.trans q.abs)
theorem Vals.inj{xs ys:List V}{us:List Value}(h:Vals xs us)(h':Vals ys us):xs=ys:=by
 induction us generalizing xs ys with
 | nil=>cases h;cases h';rfl
 | cons u us ih=>cases h with | cons r t=>cases h' with | cons r' t'=>rw[r.inj r',ih t t']
section
variable{X:Cx}{pins:List (Addr × Obj)}{σ:St}{H:Hp}{s:Shared}{a:Addr}{xs ys:List V}
theorem SqL.of{K:Waa}(h:H a=some (.lst xs)):SqL K H a xs:=.inl (.inl h)
theorem SqT.of{K:Waa}(h:H a=some (.tup xs)):SqT K H a xs:=.inl (.inl h)
theorem Inv.list(I:Inv X pins σ H s)(h:SqL X.K H a xs):∃its:List Value,Vals xs its/\PlainL s.heap a its.toArray/\xs.length<=sizeLine:=by
 rcases h with h | ⟨o,its,n,hk,hc,hd,hs,hz,r⟩
 ·obtain⟨z,its,n,r,e⟩:=h.ok I.hok
  exact⟨its,r,⟨_,n,e,rfl,rfl,rfl⟩,z⟩
 ·refine⟨its.toList,r,⟨o,n,I.kIn a o hk,hc,hd,by simpa using hs⟩,?_⟩
  have e:=r.length
  simp only[abd]at e
  omega
theorem Inv.tuple(I:Inv X pins σ H s)(h:SqT X.K H a xs):∃its:List Value,Vals xs its/\IsTup s.heap a its.toArray/\xs.length<=sizeLine:=by
 rcases h with h | ⟨o,its,n,hk,hc,hs,hz,r⟩
 ·obtain⟨z,its,r,p⟩:=h.ok I.hok
  exact⟨its,r,p,z⟩
 ·refine⟨its.toList,r,⟨o,I.kIn a o hk,hc,n,by simpa using hs⟩,?_⟩
  have e:=r.length
  simp only[abd]at e
  omega
theorem Inv.list_inj(I:Inv X pins σ H s)(h:SqL X.K H a xs)(h':SqL X.K H a ys):xs=ys:=by
 obtain⟨its,r,⟨o,n,e,_,_,d⟩,_⟩:=I.list h
 obtain⟨its',r',⟨o',n',e',_,_,d'⟩,_⟩:=I.list h'
 rw[e]at e';cases e'
 rw[d]at d'
 injection d' with d1 _
 have:its=its':=by simpa using congrArg Array.toList d1
 subst this
 exact r.inj r'
theorem Inv.tuple_inj(I:Inv X pins σ H s)(h:SqT X.K H a xs)(h':SqT X.K H a ys):xs=ys:=by
 obtain⟨its,r,⟨o,e,_,n,d⟩,_⟩:=I.tuple h
 obtain⟨its',r',⟨o',e',_,n',d'⟩,_⟩:=I.tuple h'
 rw[e]at e';cases e'
 rw[d]at d'
 injection d' with d1 _
 have:its=its':=by simpa using congrArg Array.toList d1
 subst this
 exact r.inj r'
end
abbrev Cx.wish(X:Cx)(E:Value->Shared->Prop):Cx:={ X with xe:=E }
abbrev Cx.nox(X:Cx):Cx:=X.wish fun _ _=>False
theorem Cx.Ok.wish{X:Cx}(ok:X.Ok)(E:Value->Shared->Prop):(X.wish E).Ok :=
 ⟨ok.mod,ok.kind,ok.glob,ok.blt,ok.above,ok.inj,ok.has,ok.cab,ok.hd,ok.frames,ok.stk,ok.exf,ok.bs,ok.bsz,ok.noex,ok.exfs,ok.funs,ok.frf⟩
theorem Cx.Ok.unwish{X:Cx}{E:Value->Shared->Prop}(ok:(X.wish E).Ok):X.Ok :=
 ⟨ok.mod,ok.kind,ok.glob,ok.blt,ok.above,ok.inj,ok.has,ok.cab,ok.hd,ok.frames,ok.stk,ok.exf,ok.bs,ok.bsz,ok.noex,ok.exfs,ok.funs,ok.frf⟩
section
variable{X:Cx}{pins:List (Addr × Obj)}{σ:St}{H:Hp}{s:Shared}{E:Value->Shared->Prop}
theorem Inv.wish(I:Inv X pins σ H s)(E:Value->Shared->Prop):Inv (X.wish E) pins σ H s:=⟨I.ok.wish E,I.os,I.bare,I.base,I.loc,I.cell,I.free,I.freeC,I.pin,I.hok,I.len⟩
theorem Inv.unwish(I:Inv (X.wish E) pins σ H s):Inv X pins σ H s:=⟨I.ok.unwish,I.os,I.bare,I.base,I.loc,I.cell,I.free,I.freeC,I.pin,I.hok,I.len⟩
theorem SP.unwish{D:Ends}{f:Flow}{s':Shared}(h:SP (X.wish E) pins D f s'):SP X pins D f s':=by
 cases f with
 | next=>obtain⟨σ',H',I,q⟩:=h;exact⟨σ',H',I.unwish,q⟩
 | brk=>obtain⟨σ',H',I,q⟩:=h;exact⟨σ',H',I.unwish,q⟩
 | cont=>obtain⟨σ',H',I,q⟩:=h;exact⟨σ',H',I.unwish,q⟩
 | ret u=>obtain⟨v,σ',H',I,r,q⟩:=h;exact⟨v,σ',H',I.unwish,r,q⟩
theorem PSs.nox{st:List Stmt}{t:TS}(h:PSs X.nox st t):PSs X st t:=fun pins s σ H D I hw =>
 wpAny_mono (h pins s σ H D (I.wish _) hw) (fun _ _ q=>q.unwish) fun _ _ z=>False.elim z
end
section
variable{X:Cx}{st:Stmt}{rest:List Stmt}{t u:TS}{e:Expr}{te:TE}{pos:Pos}
def tNext:TS:=fun D σ H=>D.nx σ H
def C4(t u:TS):TS:=fun D σ H=>t { D with nx:=u D } σ H
theorem tL:PSs X [] tNext:=fun _ _ σ H _ I h=>wpAny_execs_nil ⟨σ,H,I,h⟩
theorem pL(h1:PS X st t)(h2:PSs X rest u):PSs X (st::rest) (C4 t u):=by
 intro pins s σ H D I h
 refine wpAny_execs_cons (thn (h1 pins s σ H { D with nx:=u D } I h) fun f s1 q=>?_)
 cases f with
 | next =>
  obtain⟨σ',H',I',q⟩:=q
  exact h2 pins s1 σ' H' D I' q
 | ret v=>exact q
 | brk=>exact q
 | cont=>exact q
def tCont:TS:=fun D σ H=>D.ct σ H
theorem jK:PS X (.Continue pos) tCont:=fun _ _ σ H _ I h=>wpAny_Continue ⟨σ,H,I,h⟩
theorem Inv.quiet{pins:List (Addr × Obj)}{σ:St}{H:Hp}{s:Shared}(I:Inv X pins σ H s):interactive X.env=false:=by simp[interactive,I.ok.kind]
def Af(te:TE):TS:=fun D σ H=>te σ H fun _ H1=>D.nx σ H1
theorem iZ(he:PE X e te)(hs:swapsWith e none pos.line X.env=pure false:=by rfl):PS X (.Expr e pos) (Af te):=by
 intro pins s σ H D I h
 exact wpAny_Expr_any (thn (he pins s σ H _ I h) fun v s1 ⟨x,H1,I1,r1,q1⟩=>⟨σ,H1,I1,q1⟩) I.quiet hs
def C5(te:TE):TS:=fun D σ H=>te σ H D.rt
theorem xw(he:PE X e te):PS X (.Return (some e) pos) (C5 te):=by
 intro pins s σ H D I h
 exact wpAny_Return_some (thn (he pins s σ H _ I h) fun v s1 ⟨x,H1,I1,r1,q1⟩=>⟨x,σ,H1,I1,r1,q1⟩)
def C6(c:TT)(t u:TS):TS:=fun D σ H=>c σ H fun b H1=>if b=true then t D σ H1 else u D σ H1
theorem Ag{c:Expr}{a b:List Stmt}{tc:TT}(hc:PT X c tc)(ha:PSs X a t)(hb:PSs X b u):PS X (.If c a b pos) (C6 tc t u):=by
 intro pins s σ H D I h
 refine wpAny_If (thn (hc pins s σ H _ I h) fun d s1 hZ=>?_)
 obtain⟨H1,I1,q1⟩:=hZ
 cases d with
 | true=>exact ha pins s1 σ H1 D I1 q1
 | false=>exact hb pins s1 σ H1 D I1 q1
def tNever:TS:=fun _ _ _=>False
theorem pM:PS X st tNever:=fun _ _ _ _ _ _ h=>h.elim
end
abbrev TG:=V->St->Hp->(St->Hp->Prop)->Prop
abbrev TGs:=List V->St->Hp->(St->Hp->Prop)->Prop
def PG(X:Cx)(target:Expr)(t:TG):Prop :=
 ∀(pins:List (Addr × Obj)) (s:Shared) (σ:St) (H:Hp) (v:V) (u:Value) (Q:St->Hp->Prop),Inv X pins σ H s->RelV v u->t v σ H Q ->
  wpAny (model X.prog X.w) X.A (assign target X.env u) (fun _ s'=>∃σ' H',Inv X pins σ' H' s'/\Q σ' H') X.xe s
def zZ(X:Cx)(ts:List Expr)(t:TGs):Prop :=
 ∀(pins:List (Addr × Obj)) (s:Shared) (σ:St) (H:Hp) (vs:List V) (us:List Value) (Q:St->Hp->Prop),Inv X pins σ H s->Vals vs us->t vs σ H Q ->
  wpAny (model X.prog X.w) X.A (assignInOrder ((assignEach ts X.env).map (·.2)) us) (fun _ s'=>∃σ' H',Inv X pins σ' H' s'/\Q σ' H') X.xe s
abbrev xx:=V->V->V->Hp->(Hp->Prop)->Prop
def PSet(X:Cx)(t:xx):Prop :=
 ∀(pins:List (Addr × Obj)) (s:Shared) (σ:St) (H:Hp) (o i v:V) (ov iv u:Value) (Q:Hp->Prop),Inv X pins σ H s->RelV o ov->RelV i iv->RelV v u->t o i v H Q ->
  wpAny (model X.prog X.w) X.A (setItem ov iv u) (fun _ s'=>∃H',Inv X pins σ H' s'/\Q H') X.xe s
abbrev TIp:=V->V->Hp->VK->Prop
def CN(X:Cx)(op:Operator)(t:TIp):Prop :=
 ∀(pins:List (Addr × Obj)) (s:Shared) (σ:St) (H:Hp) (x y:V) (v u:Value) (Q:VK),Inv X pins σ H s->RelV x v->RelV y u->t x y H Q ->
  wpAny (model X.prog X.w) X.A (inplaceOp op v u) (EP X pins σ Q) X.xe s
section
variable{X:Cx}{pos:Pos}
def jL(i:Nat):TG:=fun v σ H Q=>Q (σ.set i (some v)) H
theorem tM{i:Nat}{x:Str}(hN:X.N.Nodup)(hi:X.N[i]?=some x)(hx:Loc X.env.scope x)(hf:X.fn x=true\/X.env.scope.names.lookup x=some .local:=by first | exact .inl rfl | exact .inr rfl | assumption):PG X (.Name x pos) (jL i):=by
 intro pins s σ H v u Q I r h
 exact wpAny_assign_Name (bL I hN hi hx r (fun s' I'=>⟨_,H,I',h⟩) hf)
def gNil:TGs:=fun vs σ H Q=>vs=[]/\Q σ H
def Ah(t:TG)(u:TGs):TGs:=fun vs σ H Q=>∃v r,vs=v::r/\t v σ H fun σ' H'=>u r σ' H' Q
theorem tN:zZ X [] gNil:=by
 intro pins s σ H vs us Q I r h
 obtain⟨e,h⟩:=h
 subst e
 cases r
 exact assignInOrder_nil ⟨σ,H,I,h⟩
theorem pN{e:Expr}{es:List Expr}{t:TG}{u:TGs}(h1:PG X e t)(h2:zZ X es u)
  (hs:(assignEach (e::es) X.env).map (·.2)=assign e X.env::(assignEach es X.env).map (·.2):=by rfl):zZ X (e::es) (Ah t u):=by
 intro pins s σ H vs us Q I r h
 obtain⟨v,vr,e1,h⟩:=h
 subst e1
 cases r with
 | cons r rr =>
  rw[hs]
  refine assignInOrder_cons (thn (h1 pins s σ H _ _ _ I r h) fun _ s1 hZ=>?_)
  obtain⟨σ1,H1,I1,q1⟩:=hZ
  exact h2 pins s1 σ1 H1 _ _ Q I1 rr q1
def C7(K:Waa)(n:Nat)(t:TGs):TG:=fun v σ H Q=>∃a xs,v=.ref a/\SqT K H a xs/\xs.length=n/\t xs σ H Q
theorem xy{es:List Expr}{k:Nat}{t:TGs}{n:Nat}(hc:X.calm=true)(h:zZ X es t)
  (hn:(assignEach es X.env).length=n:=by rfl) (hst:(assignEach es X.env).findIdx? (·.1)=none:=by rfl):PG X (.Tuple es k pos) (C7 X.K n t):=by
 intro pins s σ H v u Q I r hw
 obtain⟨a,xs,e1,hq,hl,hw⟩:=hw
 subst e1
 cases r
 obtain⟨its,rv,ht,hz⟩:=I.tuple hq
 refine assign_Tuple_tuple (I.ok.hd hc) ht (by simp[hn,<- hl,rv.length]) hst fun h' hx=>?_
 have I1:Inv X pins σ H { s with heap:=h' }:=I.kept (t':=s.toks) fun b o e=>hx b o (aao (Heap.lt_size e)) e
 exact h pins _ σ H xs _ Q I1 (by simpa using rv) hw
def C8(to ti:TE)(t:xx):TG:=fun v σ H Q=>to σ H fun o H1=>ti σ H1 fun i H2=>t o i v H2 fun H3=>Q σ H3
theorem xA{o i:Expr}{to ti:TE}{t:xx}(ho:PE X o to)(hi:PE X i ti)(hs:PSet X t)
  (ha:∀v,assign (.Subscript o i pos) X.env v=(do
   let ov <- holding [v] (eval o X.env)
   let iv <- holding [v,ov] (eval i X.env)
   standAt pos
   holding [v,ov,iv] (setItem ov iv v)
   release [v,ov,iv] []):=by intro _;rfl):PG X (.Subscript o i pos) (C8 to ti t):=by
 intro pins s σ H v u Q I r h
 rw[ha]
 refine wpAny_bind (wpAny_holding (thn (ho pins s σ H _ I h) fun ov s1 hZ=>?_))
 obtain⟨x,H1,I1,r1,q1⟩:=hZ
 refine wpAny_bind (wpAny_holding (thn (hi pins s1 σ H1 _ I1 q1) fun iv s2 hZ=>?_))
 obtain⟨y,H2,I2,r2,q2⟩:=hZ
 refine wpAny_bind (wpAny_standAt (wpAny_bind (wpAny_holding (thn (hs pins s2 σ H2 x y v ov iv u _ I2 r1 r2 r q2) fun _ s3 hZ=>?_))))
 obtain⟨H3,I3,q3⟩:=hZ
 exact wpAny_release ⟨σ,H3,I3,q3⟩
def pO(te:TE)(g:TG):TS:=fun D σ H=>te σ H fun x H1=>g x σ H1 D.nx
theorem pP{tg e:Expr}{te:TE}{g:TG}(he:PE X e te)(hg:PG X tg g)(hs:swapsWithSole [tg] e pos.line X.env=pure false:=by rfl)(hw:swappedStores [tg] e X.env=pure none:=by rfl)
  (h1:(assignEach [tg] X.env).map (·.2)=[assign tg X.env]:=by rfl):PS X (.Assign [tg] e pos) (pO te g):=by
 intro pins s σ H D I h
 refine wpAny_Assign_stores (thn (he pins s σ H _ I h) fun v s1 hZ=>?_) hs hw
 obtain⟨x,H1,I1,r1,q1⟩:=hZ
 rw[h1]
 exact thn (hg pins s1 σ H1 x v _ I1 r1 q1) fun _ s2 q=>q
theorem xB{i:Nat}{x:Str}{e:Expr}{te:TE}{pos':Pos}(hN:X.N.Nodup)(hi:X.N[i]?=some x)(hx:Loc X.env.scope x)(he:PE X e te)(hs:swapsWith e (some (.Name x pos')) pos.line X.env=pure false:=by rfl)(hf:X.fn x=true\/X.env.scope.names.lookup x=some .local:=by first | exact .inl rfl | exact .inr rfl | assumption) :
  PS X (.Assign [.Name x pos'] e pos) (pO te (jL i)):=by
 intro pins s σ H D I h
 refine wpAny_Assign_Name (thn (he pins s σ H _ I h) fun v s1 hZ=>?_) hs
 obtain⟨y,H1,I1,r1,q1⟩:=hZ
 exact bL I1 hN hi hx r1 (fun s2 I2=>⟨_,H1,I2,q1⟩) hf
def C9(i j:Nat)(ta:TA):TS:=fun D σ H=>ta σ H fun vs H1=>∃v w,vs=[v,w]/\D.nx ((σ.set i (some v)).set j (some w)) H1
theorem xC{i j:Nat}{x y:Str}{a b:Expr}{ta:TA}{px py pt:Pos}{kt k2 pt2}(hc:X.calm=true)(hN:X.N.Nodup)(hi:X.N[i]?=some x)(hj:X.N[j]?=some y)(hij:i≠j)
  (hx:X.env.scope.names.lookup x=some .local) (hy:X.env.scope.names.lookup y=some .local) (ha:PA X [a,b] ta)
  (hw:swappedStores [.Tuple [.Name x px,.Name y py] kt pt] (.Tuple [a,b] k2 pt2) X.env=pure (some [x,y]))
  (hs:swapsWithSole [.Tuple [.Name x px,.Name y py] kt pt] (.Tuple [a,b] k2 pt2) pos.line X.env=pure false:=by rfl) :
  PS X (.Assign [.Tuple [.Name x px,.Name y py] kt pt] (.Tuple [a,b] k2 pt2) pos) (C9 i j ta):=by
 intro pins s σ H D I h
 rw[exec_Assign_arm]
 refine wpAny_bind (wpAny_standAt ?_)
 rw[hs]
 refine wpAny_bind (wpAny_pure ?_)
 rw[if_neg (by decide)]
 refine wpAny_bind (Tuple_ (thn (ha _ pins s σ H _ I h) fun us s1 hZ=>?_))
 obtain⟨vs,H1,I1,r1,q1⟩:=hZ
 obtain⟨v,w,e1,q1⟩:=q1
 subst e1
 obtain⟨u1,u2,rfl,rv,rw'⟩:∃u1 u2,us=[u1,u2]/\RelV v u1/\RelV w u2:=by
  cases r1 with
  | cons p q =>
   cases q with
   | cons p' q' =>
    cases q'
    exact⟨_,_,rfl,p,p'⟩
 refine wpAny_newObj_type ?_ (by show 2<=sizeLine;decide)
 have I2:Inv X pins σ H1 { s1 with heap:=s1.heap.push { cls:=.type "tuple",data:=.seq [u1,u2].toArray } }:=I1.kept (t':=s1.toks) fun b o e=>Heap.get?_push_of_some _ e
 rw[hw]
 refine wpAny_bind (wpAny_pure ?_)
 show wpAny (model X.prog X.w) X.A (do rule "assign.swapped-stores";let items <- unpackItems (.ref s1.heap.objs.size) 2 none;assignInOrder [fun v=>bindName X.env y v,fun v=>bindName X.env x v] items.reverse;pure Flow.next) _ _ _
 refine wpAny_bind (wpAny_rule (wpAny_bind (unpackItems_tuple (items:=#[u1,u2]) (I.ok.hd hc) (IsTup.new s1.heap _) fun h' hx'=>?_)))
 have I3:=I2.kept (h':=h') (t':=s1.toks) fun b o e=>hx' b o (aao (Heap.lt_size e)) e
 show wpAny _ _ (assignInOrder [fun v=>bindName X.env y v,fun v=>bindName X.env x v] [u2,u1] >>= fun _=>pure Flow.next) _ _ _
 refine wpAny_bind (assignInOrder_cons (wpAny_bindName (bL I3 hN hj (.inl hy) rw' (fun s2 I4=>?_) (.inr hy))))
 refine assignInOrder_cons (wpAny_bindName (bL I4 hN hi (.inl hx) rv (fun s3 I5=>assignInOrder_nil (wpAny_pure ?_)) (.inr hx)))
 rw[aby _ _ (aaM hij)]at I5
 exact⟨_,H1,I5,q1⟩
def Da(i:Nat)(te:TE)(ti:TIp):TS:=fun D σ H=>∃x,σ[i]?=some (some x)/\te σ H fun y H1=>ti x y H1 fun z H2=>D.nx (σ.set i (some z)) H2
theorem xD{i:Nat}{x:Str}{e:Expr}{te:TE}{op:Operator}{ti:TIp}{pos':Pos}(hN:X.N.Nodup)(hi:X.N[i]?=some x)(hx:Loc X.env.scope x)(he:PE X e te)(ho:CN X op ti)(hf:X.fn x=true\/X.env.scope.names.lookup x=some .local:=by first | exact .inl rfl | exact .inr rfl | assumption) :
  PS X (.AugAssign (.Name x pos') op e pos) (Da i te ti):=by
 intro pins s σ H D I h
 obtain⟨v,e1,h⟩:=h
 obtain⟨m,hn,hl⟩:=I.loc
 have vis:Vis X.env.scope x:=by rcases hx with k | k;exact .inl k;exact .inr (.inl k)
 obtain⟨u,r,l⟩:=hl i x v hi e1 vis
 refine wpAny_AugAssign_Name ?_
 have go:wpAny (model X.prog X.w) X.A (eval e X.env) (fun w s₂=>wpAny (model X.prog X.w) X.A (inplaceOp op u w) (fun r s₃=>wpAny (model X.prog X.w) X.A (storeName X.env x r) (fun _=>SP X pins D .next) X.xe s₃) X.xe s₂) X.xe s:=by
  refine thn (he pins s σ H _ I h) fun w s1 hZ=>?_
  obtain⟨y,H1,I1,r1,q1⟩:=hZ
  refine thn (ho pins s1 σ H1 v y u w _ I1 r r1 q1) fun z s2 hZ=>?_
  obtain⟨zv,H2,I2,r2,q2⟩:=hZ
  exact bL I2 hN hi hx r2 (fun s3 I3=>⟨_,H2,I3,q2⟩) hf
 rcases l with ⟨hk,hm⟩ | ⟨hk,c,hc,hcell⟩
 ·exact wpAny_loadName_local I.ok.kind hk hn hm go
 ·rcases hk with hk | hk
  ·exact wpAny_loadName_cell I.ok.kind hk hc hcell go
  ·rcases hx with k | k
   ·have:X.env.scope.names.lookup x=some .free:=hk
    rw[k]at this;cases this
   ·have:X.env.scope.names.lookup x=some .free:=hk
    rw[k]at this;cases this
def Dc(f:Int->Int->Int):TIp:=fun x y H Q=>∃i j,x=.int i/\y=.int j/\Q (.int (f i j)) H
theorem xE:CN X .Add (Dc fun i j=>i + j):=by
 intro pins s σ H x y v u Q I r1 r2 h
 obtain⟨i,j,e1,e2,q⟩:=h
 subst e1;subst e2
 obtain⟨t,rfl⟩:=r1
 obtain⟨t',rfl⟩:=r2
 exact iadd_int ⟨.int _,H,I.tok _,⟨_,rfl⟩,q⟩
theorem xF:CN X .Sub (Dc fun i j=>i - j):=by
 intro pins s σ H x y v u Q I r1 r2 h
 obtain⟨i,j,e1,e2,q⟩:=h
 subst e1;subst e2
 obtain⟨t,rfl⟩:=r1
 obtain⟨t',rfl⟩:=r2
 exact isub_int ⟨.int _,H,I.tok _,⟨_,rfl⟩,q⟩
end
structure It where
 go:Nat->Hp->Prop
 yld:Nat->Hp->V->Hp->Prop
 stop:Nat->Hp->Prop
def FpOk(X:Cx)(pins:List (Addr × Obj))(H:Hp)(b:Addr):Prop :=
 H b=none/\b≠X.env.locals/\b ∉ X.fs/\(b∈X.ex\/X.s₀.heap.objs.size<=b)/\(∀x c,X.env.cells.lookup x=some c->c≠b)/\∀p∈X.pn++pins,p.1≠b
theorem Inv.fpOk{X:Cx}{pins:List (Addr × Obj)}{σ:St}{H H':Hp}{s:Shared}{b:Addr}(I:Inv X pins σ H s)(hb:s.heap.objs.size<=b)(hn:H' b=none):FpOk X pins H' b:=by
 refine⟨hn,aaX (aax I.lt hb),I.nofs hb,.inr (aaq I.sz hb),fun x c e z=>?_,fun p hp z=>?_⟩
 ·obtain⟨v,q⟩:=I.cell x c e
  exact absurd (aax q.lt (by rw[z];exact hb)) (aaW _)
 ·exact absurd (aax (Heap.lt_size (I.pin p hp).1) (by rw[z];exact hb)) (aaW _)
structure Turn (P:Program)(w:World)(K:Waa)(tg:Expr)(J:It)(fp:List Addr)(it:Addr)(tn:Nat->Heap->Prop):Prop where
 mem:it∈fp
 obj:∀i h,tn i h->∀b∈fp,∃o,h.get? b=some o/\∀v,o.data≠.cell v
 keep:∀i h h',tn i h->(∀b∈fp,∀o,h.get? b=some o->h'.get? b=some o)->tn i h'
 item:∀(X:Cx),X.prog=P->X.w=w->X.K=K->X.calm=true->∀(i:Nat) (pins:List (Addr × Obj)) (s:Shared) (σ:St) (H:Hp) (E:Value->Shared->Prop),Inv X pins σ H s->(∀b∈fp,FpOk X pins H b)->tn i s.heap->J.go i H ->
  wpAny (model P w) X.A (pyNext (.ref it)) (fun r s1=>∃u,r=some u /\
   wpAny (model P w) X.A (letOwnedTupleGo tg (.ref it) u) (fun _ s2=>∃x H',Inv X pins σ H' s2/\RelV x u/\J.yld i H x H'/\tn (i + 1) s2.heap/\∀b∈fp,H' b=none) E s1) E s
 done:∀(X:Cx),X.prog=P->X.w=w->X.K=K->X.calm=true->∀(i:Nat) (pins:List (Addr × Obj)) (s:Shared) (σ:St) (H:Hp) (E:Value->Shared->Prop),Inv X pins σ H s->(∀b∈fp,FpOk X pins H b)->tn i s.heap->J.stop i H ->
  wpAny (model P w) X.A (pyNext (.ref it)) (fun r s1=>r=none/\Inv X pins σ H s1) E s
 self:∀(A:Around) (i:Nat) (s:Shared) (Q:Value->Shared->Prop) (E:Value->Shared->Prop),tn i s.heap->Q (.ref it) s->wpAny (model P w) A (pyIter (.ref it)) Q E s
abbrev TI:=St->Hp->(It->Hp->Prop)->Prop
def ED(X:Cx)(pins:List (Addr × Obj))(σ:St)(tg:Expr)(R:It->Hp->Prop)(itv:Value)(s2:Shared):Prop :=
 ∃(it:Addr) (fp:List Addr) (tn:Nat->Heap->Prop) (J:It) (H':Hp),itv=.ref it/\Inv X pins σ H' s2/\Turn X.prog X.w X.K tg J fp it tn/\tn 0 s2.heap/\(∀b∈fp,FpOk X pins H' b)/\R J H'
def PI(X:Cx)(tg iter:Expr)(wi:TI):Prop :=
 ∀(pins:List (Addr × Obj)) (s:Shared) (σ:St) (H:Hp) (R:It->Hp->Prop),Inv X pins σ H s->wi σ H R ->
  wpAny (model X.prog X.w) X.A (eval iter X.env) (fun v s1=>wpAny (model X.prog X.w) X.A (pyIter v) (ED X pins σ tg R) X.xe s1) X.xe s
theorem pQ{M:Model}{A:Around}{E:Value->Shared->Prop}{s:Shared}{tg:Expr}{it:Addr}{u:Value}{o:Obj}{n:String}{vs:Array Value}{Q:Unit->Shared->Prop}(ho:s.heap.get? it=some o)(hc:o.cls=.type n)(hd:o.data=.fields vs)
  (hn:["enumerate","zip","dict_itemiterator","dict_reverseitemiterator","odict_iterator","itertools.zip_longest","itertools.pairwise"].contains n=false) (hQ:Q () s):wpAny M A (letOwnedTupleGo tg (.ref it) u) Q E s:=by
 unfold letOwnedTupleGo
 cases tg<;>first
  | exact wpAny_pure hQ
  | (cases u<;>first
    | exact wpAny_pure hQ
    | (refine wpAny_bind (wpAny_load ho ?_)
       rw[hc,hd]
       show wpAny M A (if (["enumerate","zip","dict_itemiterator","dict_reverseitemiterator","odict_iterator","itertools.zip_longest","itertools.pairwise"].contains n && vs[0]? == some (rawInt _))=true then _ else _) Q E s
       rw[if_neg (by intro h;rw[hn,abe]at h;cases h)]
       exact wpAny_pure hQ))
def De(K:Waa)(a:Addr):It :=
 ⟨fun i H=>∃xs x,SqL K H a xs/\xs[i]?=some x,fun i H x H'=>H'=H/\∀xs,SqL K H a xs->xs[i]?=some x,fun i H=>∃xs,SqL K H a xs/\xs.length<=i⟩
def Dg(K:Waa)(a:Addr):It :=
 ⟨fun i H=>∃xs x,SqT K H a xs/\xs[i]?=some x,fun i H x H'=>H'=H/\∀xs,SqT K H a xs->xs[i]?=some x,fun i H=>∃xs,SqT K H a xs/\xs.length<=i⟩
def Ai(lo:Int)(n:Nat):It:=⟨fun i _=>i < n,fun i H x H'=>H'=H/\x=.int (lo + i),fun i _=>n<=i⟩
theorem nS{P:Program}{w:World}{K:Waa}{tg:Expr}(a it:Addr):Turn P w K tg (De K a) [it] it (fun i h=>h.IsListIter it a i) where
 mem:=by simp
 obj:=fun i h st b hb=>by
  have e:b=it:=by simpa using hb
  subst e
  obtain⟨o,e,c,d⟩:=st
  exact⟨o,e,fun v z=>by rw[d]at z;cases z⟩
 keep:=fun i h h' st k=>st.at fun o e=>k it (by simp) o e
 item:=by
  intro X hP hw hK hc i pins s σ H E I hf st hg
  subst hP hw hK
  obtain⟨xs,x,hq,hx⟩:=hg
  obtain⟨its,rv,p,hz⟩:=I.list hq
  obtain⟨u,hu,ru⟩:=rv.get hx
  obtain⟨f0,f1,f2,f3,f4,f5⟩:=hf it (by simp)
  refine wpAny_pyNext_list_item st p.isList (x:=u) (by simpa using hu) fun h' st' sb=>?_
  have I1:Inv X pins σ H { s with heap:=h' }:=I.turned (t':=s.toks) (fun b o hb e=>(sb.2 b hb).trans e) f0 f1 f3 f4 f5
  obtain⟨o,e,c,d⟩:=id st'
  exact⟨u,rfl,pQ (s:={ s with heap:=h' }) e c d (by decide) ⟨x,H,I1,ru,⟨rfl,fun ys hy=>by rw[I.list_inj hy hq];exact hx⟩,st',fun b hb=>(hf b hb).1⟩⟩
 done:=by
  intro X hP hw hK hc i pins s σ H E I hf st hg
  subst hP hw hK
  obtain⟨xs,hq,hx⟩:=hg
  obtain⟨its,rv,p,hz⟩:=I.list hq
  obtain⟨f0,f1,f2,f3,f4,f5⟩:=hf it (by simp)
  have hl:=rv.length
  exact wpAny_pyNext_list_end (I.ok.hd hc) st p.isList (by simp;omega) fun h' eb=>⟨rfl,I.turned (t':=s.toks) (fun b o hb e=>eb b o hb e) f0 f1 f3 f4 f5⟩
 self:=fun _ _ _ _ _ st h=>wpAny_pyIter_listiter st h
theorem kP{P:Program}{w:World}{K:Waa}{tg:Expr}(a it:Addr):Turn P w K tg (Dg K a) [it] it (fun i h=>h.IsTupleIter it a i) where
 mem:=by simp
 obj:=fun i h st b hb=>by
  have e:b=it:=by simpa using hb
  subst e
  obtain⟨o,e,c,d⟩:=st
  exact⟨o,e,fun v z=>by rw[d]at z;cases z⟩
 keep:=fun i h h' st k=>st.at fun o e=>k it (by simp) o e
 item:=by
  intro X hP hw hK hc i pins s σ H E I hf st hg
  subst hP hw hK
  obtain⟨xs,x,hq,hx⟩:=hg
  obtain⟨its,rv,p,hz⟩:=I.tuple hq
  obtain⟨u,hu,ru⟩:=rv.get hx
  obtain⟨f0,f1,f2,f3,f4,f5⟩:=hf it (by simp)
  refine wpAny_pyNext_tuple_item st (show s.heap.IsTuple a its.toArray from p) (x:=u) (by simpa using hu) fun h' st' sb=>?_
  have I1:Inv X pins σ H { s with heap:=h' }:=I.turned (t':=s.toks) (fun b o hb e=>(sb.2 b hb).trans e) f0 f1 f3 f4 f5
  obtain⟨o,e,c,d⟩:=id st'
  exact⟨u,rfl,pQ (s:={ s with heap:=h' }) e c d (by decide) ⟨x,H,I1,ru,⟨rfl,fun ys hy=>by rw[I.tuple_inj hy hq];exact hx⟩,st',fun b hb=>(hf b hb).1⟩⟩
 done:=by
  intro X hP hw hK hc i pins s σ H E I hf st hg
  subst hP hw hK
  obtain⟨xs,hq,hx⟩:=hg
  obtain⟨its,rv,p,hz⟩:=I.tuple hq
  obtain⟨f0,f1,f2,f3,f4,f5⟩:=hf it (by simp)
  have hl:=rv.length
  exact wpAny_pyNext_tuple_end (I.ok.hd hc) st (show s.heap.IsTuple a its.toArray from p) (by simp;omega) fun h' eb=>⟨rfl,I.turned (t':=s.toks) (fun b o hb e=>eb b o hb e) f0 f1 f3 f4 f5⟩
 self:=fun _ _ _ _ _ st h=>wpAny_pyIter_tupleiter st h
theorem kQ{P:Program}{w:World}{K:Waa}{tg:Expr}(it:Addr)(lo:Int)(n:Nat):Turn P w K tg (Ai lo n) [it] it (fun i h=>IsRangeIter h it (lo + (i:Nat) * 1) ((n:Int) - (i:Nat)) 1) where
 mem:=by simp
 obj:=fun i h st b hb=>by
  have e:b=it:=by simpa using hb
  subst e
  exact⟨_,st,fun v z=>by
   have z':Data.fields _=Data.cell v:=z
   cases z'⟩
 keep:=fun i h h' st k=>k it (by simp) _ st
 item:=by
  intro X hP hw hK hc i pins s σ H E I hf st hg
  subst hP hw hK
  obtain⟨f0,f1,f2,f3,f4,f5⟩:=hf it (by simp)
  have W:=Walks.range (prog:=X.prog) (w:=X.w) (I.ok.hd hc) it lo 1 n
  refine W.item i s _ _ hg st fun v h' tk hv st' kk=>?_
  obtain⟨t,rfl⟩:=hv
  have I1:Inv X pins σ H { s with heap:=h',toks:=tk }:=I.turned (fun b o hb e=>kk b o (by simpa using hb) e) f0 f1 f3 f4 f5
  refine⟨_,rfl,pQ (s:={ s with heap:=h',toks:=tk }) (n:="range_iterator") st' rfl rfl (by decide) ⟨.int (lo + i),H,I1,⟨t,?_⟩,⟨rfl,rfl⟩,st',fun b hb=>(hf b hb).1⟩⟩
  rw[Int.mul_one]
 done:=by
  intro X hP hw hK hc i pins s σ H E I hf st hg
  subst hP hw hK
  obtain⟨f0,f1,f2,f3,f4,f5⟩:=hf it (by simp)
  exact wpAny_pyNext_range_end (I.ok.hd hc) st (by have:n<=i:=hg;omega) fun h' eb=>⟨rfl,I.turned (t':=s.toks) (fun b o hb e=>eb b o hb e) f0 f1 f3 f4 f5⟩
 self:=fun _ _ _ _ _ st h=>wpAny_pyIter_rangeiter st h
end
section
section
variable{X:Cx}{tg:Expr}
def Aj(K:Waa)(tl:TE):TI:=fun σ H R=>tl σ H fun x H1=>∃a,x=.ref a/\(∃xs,SqL K H1 a xs)/\R (De K a) H1
def Dh(K:Waa)(tl:TE):TI:=fun σ H R=>tl σ H fun x H1=>∃a,x=.ref a/\(∃xs,SqT K H1 a xs)/\R (Dg K a) H1
theorem tO{l:Expr}{tl:TE}(hl:PE X l tl):PI X tg l (Aj X.K tl):=by
 intro pins s σ H R I h
 refine thn (hl pins s σ H _ I h) fun v s1 hZ=>?_
 obtain⟨x,H1,I1,r1,q1⟩:=hZ
 obtain⟨a,e,⟨xs,hq⟩,q⟩:=q1
 subst e
 cases r1
 obtain⟨its,rv,p,hz⟩:=I1.list hq
 refine wpAny_pyIter_list p.isList ?_
 refine⟨s1.heap.objs.size,[s1.heap.objs.size],_,_,H1,rfl,I1.kept (t':=s1.toks) fun b o e=>Heap.get?_push_of_some _ e,nS a _,⟨_,Heap.get?_push_size _ rfl,rfl,rfl⟩,fun b hb=>?_,q⟩
 have e:b=s1.heap.objs.size:=by simpa using hb
 subst e
 exact I1.fpOk (aac _) (I1.hok.fresh (aac _))
theorem xG{l:Expr}{tl:TE}(hl:PE X l tl):PI X tg l (Dh X.K tl):=by
 intro pins s σ H R I h
 refine thn (hl pins s σ H _ I h) fun v s1 hZ=>?_
 obtain⟨x,H1,I1,r1,q1⟩:=hZ
 obtain⟨a,e,⟨xs,hq⟩,q⟩:=q1
 subst e
 cases r1
 obtain⟨its,rv,p,hz⟩:=I1.tuple hq
 refine wpAny_pyIter_tuple (show s1.heap.IsTuple a its.toArray from p) ?_
 refine⟨s1.heap.objs.size,[s1.heap.objs.size],_,_,H1,rfl,I1.kept (t':=s1.toks) fun b o e=>Heap.get?_push_of_some _ e,kP a _,⟨_,Heap.get?_push_size _ rfl,rfl,rfl⟩,fun b hb=>?_,q⟩
 have e:b=s1.heap.objs.size:=by simpa using hb
 subst e
 exact I1.fpOk (aac _) (I1.hok.fresh (aac _))
theorem jM{pins:List (Addr × Obj)}{σ:St}{H:Hp}{s:Shared}{R:It->Hp->Prop}{E:Value->Shared->Prop}{lo hi:Int}{t u v:Tok}{tk:Nat}(I:Inv X pins σ H s)(h1:-(2 ^ 62)<=lo)(h2:lo < 2 ^ 62)(h3:-(2 ^ 62)<=hi)(h4:hi < 2 ^ 62)
  (q:R (Ai lo (hi - lo).toNat) H):wpAny (model X.prog X.w) X.A (pyIter (.ref s.heap.objs.size)) (ED X pins σ tg R) E { s with heap:=s.heap.push { cls:=.type "range",data:=.fields #[.int lo t,.int hi u,.int 1 v] },toks:=tk }:=by
 refine wpAny_pyIter_range (IsRange.new ..) (small_one h1 h2 h3 h4) ?_
 have I1:Inv X pins σ H { s with heap:=s.heap.push { cls:=.type "range",data:=.fields #[.int lo t,.int hi u,.int 1 v] },toks:=tk }:=I.kept fun b o e=>Heap.get?_push_of_some _ e
 refine⟨(s.heap.push { cls:=.type "range",data:=.fields #[.int lo t,.int hi u,.int 1 v] }).objs.size,[(s.heap.push { cls:=.type "range",data:=.fields #[.int lo t,.int hi u,.int 1 v] }).objs.size],_,_,H,rfl,
  I1.kept (t':=tk) fun b o e=>Heap.get?_push_of_some _ e,kQ _ lo (hi - lo).toNat,?_,fun b hb=>?_,q⟩
 ·have e1:lo + ((0:Nat):Int) * 1=lo:=by simp
  have e2:(((hi - lo).toNat:Nat):Int) - ((0:Nat):Int)=Builtin.Range.rangeSize lo hi 1:=by rw[rangeSize_one];split<;>omega
  show IsRangeIter _ _ (lo + ((0:Nat):Int) * 1) ((((hi - lo).toNat:Nat):Int) - ((0:Nat):Int)) 1
  rw[e1,e2]
  exact Heap.get?_push_size _ rfl
 ·have e:b=(s.heap.push { cls:=.type "range",data:=.fields #[.int lo t,.int hi u,.int 1 v] }).objs.size:=by simpa using hb
  subst e
  exact I1.fpOk (aac _) (I1.hok.fresh (aac _))
def Ak(ta:TA):TI:=fun σ H R=>ta σ H fun vs H1=>∃j:Int,vs=[.int j]/\-(2 ^ 62)<=j/\j < 2 ^ 62/\R (Ai 0 j.toNat) H1
def Am(ta:TA):TI:=fun σ H R=>ta σ H fun vs H1=>∃i j:Int,vs=[.int i,.int j]/\(-(2 ^ 62)<=i/\i < 2 ^ 62/\-(2 ^ 62)<=j/\j < 2 ^ 62)/\R (Ai i (j - i).toNat) H1
theorem nT {a:Expr} {ta:TA} {p pos:Pos} (hg:Gl X "range") (hm:X.mg "range"=none) (ha:PA X [a] ta) (hs:starEach [a] X.env=[(false,eval a X.env)]:=by rfl):PI X tg (.Call (.Name "range" p) [a] [] pos) (Ak ta):=by
 intro pins s σ H R I h
 refine Call_ (dE I hg hm boot_range (abj (thn (ha pos pins s σ H _ I h) fun us s1 hZ=>?_) hs rfl))
 obtain⟨vs,H1,I1,r1,q1⟩:=hZ
 obtain⟨j,e,q1,q2,q⟩:=q1
 subst e
 cases r1 with
 | cons r rr =>
  cases rr
  obtain⟨t,rfl⟩:=r
  exact call_range_1 (jM I1 (by omega) (by omega) q1 q2 (by simpa using q))
theorem nU {a b:Expr} {ta:TA} {p pos:Pos} (hg:Gl X "range") (hm:X.mg "range"=none) (ha:PA X [a,b] ta) (hs:starEach [a,b] X.env=[(false,eval a X.env),(false,eval b X.env)]:=by rfl) (hs2:starEach [b] X.env=[(false,eval b X.env)]:=by rfl) :
  PI X tg (.Call (.Name "range" p) [a,b] [] pos) (Am ta):=by
 intro pins s σ H R I h
 refine Call_ (dE I hg hm boot_range (abj (thn (ha pos pins s σ H _ I h) fun us s1 hZ=>?_) (by rw[hs,hs2]) (by rw[hs2];rfl)))
 obtain⟨vs,H1,I1,r1,q1⟩:=hZ
 obtain⟨i,j,e,⟨q1,q2,q3,q4⟩,q⟩:=q1
 subst e
 cases r1 with
 | cons r rr =>
  cases rr with
  | cons r' rr =>
   cases rr
   obtain⟨t,rfl⟩:=r
   obtain⟨t',rfl⟩:=r'
   exact call_range_2 (jM I1 q1 q2 q3 q4 q)
def Di(wi:TI)(g:TG)(tb:TS):TS:=fun D σ H=>wi σ H fun J H1=>∃W:Nat->Nat->St->Hp->Prop,(∃m,W 0 m σ H1)/\∀i m σ H,W i m σ H ->
 (J.stop i H/\D.nx σ H)\/(J.go i H/\∃N:St->Hp->Prop,(∀σ' H',N σ' H'->∃m',m' < m/\W (i + 1) m' σ' H')/\∀x H',J.yld i H x H'->g x σ H' fun σ2 H2=>tb { D with nx:=N,ct:=N,bk:=D.nx } σ2 H2)
def pinsAt(fp:List Addr)(h:Heap):List (Addr × Obj):=fp.filterMap fun b=>(h.get? b).map fun o=>(b,o)
theorem bH{fp:List Addr}{h:Heap}{b:Addr}{o:Obj}(hb:b∈fp)(e:h.get? b=some o):(b,o)∈pinsAt fp h:=List.mem_filterMap.mpr ⟨b,hb,by rw[e];rfl⟩
theorem nV{fp:List Addr}{h:Heap}{p:Addr × Obj}(hp:p∈pinsAt fp h):p.1∈fp/\h.get? p.1=some p.2:=by
 obtain⟨b,hb,e⟩:=List.mem_filterMap.mp hp
 cases q:h.get? b with
 | none=>rw[q]at e;cases e
 | some o =>
  rw[q]at e
  have e':(b,o)=p:=aaG e
  subst e'
  exact⟨hb,q⟩
theorem Inv.pinned{pins:List (Addr × Obj)}{σ:St}{H:Hp}{s:Shared}{fp:List Addr}(I:Inv X pins σ H s)(hf:∀b∈fp,FpOk X pins H b)(ho:∀b∈fp,∃o,s.heap.get? b=some o/\∀v,o.data≠.cell v):Inv X (pins++pinsAt fp s.heap) σ H s :=
 I.pins_of fun p hp=>(aal.mp hp).elim (fun z=>I.pin p (aad _ z)) fun z=>by
  obtain⟨hb,e⟩:=nV z
  obtain⟨f0,f1,f2,_⟩:=hf p.1 hb
  obtain⟨o,e',d⟩:=ho p.1 hb
  rw[e]at e';cases e'
  exact⟨e,f0,f1,f2,d⟩
theorem Inv.unpinned{pins pl:List (Addr × Obj)}{σ:St}{H:Hp}{s:Shared}(I:Inv X (pins++pl) σ H s):Inv X pins σ H s:=I.pins_of fun p hp=>I.pin p (aad _ (aae _ hp))
theorem xH{iter:Expr}{body:List Stmt}{wi:TI}{g:TG}{tb:TS}{pos:Pos}(hp:PassesOwn (model X.prog X.w) X.A X.env X.xe)(hc:X.calm=true)(hi:PI X tg iter wi)(hg:PG X tg g)(hb:PSs X body tb)
  (hs:∀x,foldedSetIterable iter X.env x=pure x:=by intro _;rfl):PS X (.For tg iter body [] pos) (Di wi g tb):=by
 intro pins s σ H D I h
 refine wpAny_For (thn (hi pins s σ H _ I h) fun v s1 h1=>thn h1 fun itv s2 h2=>?_) hs
 obtain⟨it,fp,tn,J,H2,e,I2,T,st2,f2,W,⟨m0,w0⟩,turn⟩:=h2
 subst e
 have stat:∀{H':Hp},(∀b∈fp,H' b=none)->∀b∈fp,FpOk X pins H' b:=fun hn b hb=>⟨hn b hb,(f2 b hb).2⟩
 refine codeAny_forLoop_any (fun n s'=>∃i σ' H',Inv X pins σ' H' s'/\tn i s'.heap/\(∀b∈fp,H' b=none)/\W i n σ' H') ?_ m0 ⟨0,σ,H2,I2,st2,fun b hb=>(f2 b hb).1,w0⟩
 rintro n s3 ⟨i,σ3,H3,I3,st3,fr3,w3⟩
 rcases turn i n σ3 H3 w3 with ⟨stop,qn⟩ | ⟨go,N,hN,step⟩
 ·refine wpAny_passesOwn hp (thn (T.done X rfl rfl rfl hc i pins s3 σ3 H3 X.xe I3 (stat fr3) st3 stop) fun r s4 hZ=>?_)
  obtain⟨hr,I4⟩:=hZ
  subst hr
  exact wpAny_execs_nil ⟨σ3,H3,I4,qn⟩
 ·refine wpAny_passesOwn hp (thn (T.item X rfl rfl rfl hc i pins s3 σ3 H3 X.xe I3 (stat fr3) st3 go) fun r s4 hZ=>?_)
  obtain⟨u,hr,h4⟩:=hZ
  subst hr
  refine wpAny_passesOwn hp (thn h4 fun _ s5 hZ=>?_)
  obtain⟨x,H5,I5,r5,y5,st5,fr5⟩:=hZ
  have I5':=I5.pinned (stat fr5) (T.obj _ _ st5)
  refine wpAny_passesOwn hp (thn (hg _ s5 σ3 H5 x u _ I5' r5 (step x H5 y5)) fun _ s6 hZ=>?_)
  obtain⟨σ6,H6,I6,q6⟩:=hZ
  refine wpAny_passesOwn hp (thn (hb _ s6 σ6 H6 _ I6 q6) fun f s7 q7=>?_)
  have again:∀{σ7:St} {H7:Hp},Inv X (pins++pinsAt fp s5.heap) σ7 H7 s7->N σ7 H7->∃m,m < n/\∃i σ' H',Inv X pins σ' H' s7/\tn i s7.heap/\(∀b∈fp,H' b=none)/\W i m σ' H':=fun {σ7 H7} I7 n7=>by
   obtain⟨m',hm,w7⟩:=hN σ7 H7 n7
   refine⟨m',hm,i + 1,σ7,H7,I7.unpinned,T.keep _ _ _ st5 fun b hb o e=>(I7.pin (b,o) (aad _ (aad _ (bH hb e)))).1,fun b hb=>?_,w7⟩
   obtain⟨o,e,d⟩:=T.obj _ _ st5 b hb
   exact (I7.pin (b,o) (aad _ (aad _ (bH hb e)))).2.1
  cases f with
  | next=>obtain⟨σ7,H7,I7,n7⟩:=q7;exact again I7 n7
  | cont=>obtain⟨σ7,H7,I7,n7⟩:=q7;exact again I7 n7
  | brk=>obtain⟨σ7,H7,I7,q7⟩:=q7;exact⟨σ7,H7,I7.unpinned,q7⟩
  | ret v=>obtain⟨x7,σ7,H7,I7,r7,q7⟩:=q7;exact⟨x7,σ7,H7,I7.unpinned,r7,q7⟩
end
end
section
abbrev R2:=V->V->Hp->VK->Prop
def OpR(X:Cx)(f:Value->Value->Sem Value)(r:R2):Prop :=
 ∀(pins:List (Addr × Obj)) (s:Shared) (σ:St) (H:Hp) (x y:V) (v u:Value) (Q:VK),Inv X pins σ H s->RelV x v->RelV y u->r x y H Q ->
  wpAny (model X.prog X.w) X.A (f v u) (EP X pins σ Q) X.xe s
def Dj(X:Cx)(f:Value->Sem Value)(r:V->Hp->VK->Prop):Prop :=
 ∀(pins:List (Addr × Obj)) (s:Shared) (σ:St) (H:Hp) (x:V) (v:Value) (Q:VK),Inv X pins σ H s->RelV x v->r x H Q ->
  wpAny (model X.prog X.w) X.A (f v) (EP X pins σ Q) X.xe s
def bE(X:Cx)(f:Value)(r:List V->Hp->VK->Prop):Prop :=
 ∀(pins:List (Addr × Obj)) (s:Shared) (σ:St) (H:Hp) (xs:List V) (us:List Value) (Q:VK),Inv X pins σ H s->Vals xs us->r xs H Q ->
  wpAny (model X.prog X.w) X.A (call f us) (EP X pins σ Q) X.xe s
def Dk(X:Cx)(r:V->Hp->(Bool->Hp->Prop)->Prop):Prop :=
 ∀(pins:List (Addr × Obj)) (s:Shared) (σ:St) (H:Hp) (x:V) (v:Value) (Q:Bool->Hp->Prop),Inv X pins σ H s->RelV x v->r x H Q ->
  wpAny (model X.prog X.w) X.A (truthy v) (TP X pins σ Q) X.xe s
def An(r:R2)(ta tb:TE):TE:=fun σ H Q=>ta σ H fun x H1=>tb σ H1 fun y H2=>r x y H2 Q
def FA(r:V->Hp->VK->Prop)(ta:TE):TE:=fun σ H Q=>ta σ H fun x H1=>r x H1 Q
def rI(C:Int->Int->Prop)(g:Int->Int->V):R2:=fun x y H Q=>∃i j,x=.int i/\y=.int j/\C i j/\Q (g i j) H
def tF(g:Int->Int->V):R2:=fun x y H Q=>∃i j,x=.int i/\y=.int j/\Q (g i j) H
def rU(g:Int->V):V->Hp->VK->Prop:=fun x H Q=>∃i,x=.int i/\Q (g i) H
section
variable{X:Cx}{a b c:Expr}{ta tb tc:TE}{pos:Pos}
theorem xI(ha:PE X a ta)(hb:PE X b tb){pins:List (Addr × Obj)}{s:Shared}{σ:St}{H:Hp}{R:V->V->Hp->Prop}(I:Inv X pins σ H s)
  (h:ta σ H fun x H1=>tb σ H1 fun y H2=>R x y H2) {Q:Value->Shared->Prop} {f:Value->Value->Sem Value}
  (hf:∀v u s2 x y H2,Inv X pins σ H2 s2->RelV x v->RelV y u->R x y H2->wpAny (model X.prog X.w) X.A (f v u) Q X.xe s2) :
  wpAny (model X.prog X.w) X.A (eval a X.env) (fun v s₁=>wpAny (model X.prog X.w) X.A (eval b X.env) (fun u s₂=>wpAny (model X.prog X.w) X.A (f v u) Q X.xe s₂) X.xe s₁) X.xe s:=by
 refine thn (ha pins s σ H _ I h) fun v s1 hZ=>?_
 obtain⟨x,H1,I1,r1,q1⟩:=hZ
 refine thn (hb pins s1 σ H1 _ I1 q1) fun u s2 hZ=>?_
 obtain⟨y,H2,I2,r2,q2⟩:=hZ
 exact hf v u s2 x y H2 I2 r1 r2 q2
theorem pR{op:Operator}{r:R2}(ho:OpR X (binaryOp op) r)(ha:PE X a ta)(hb:PE X b tb):PE X (.BinOp a op b pos) (An r ta tb):=by
 intro pins s σ H Q I h
 exact wpAny_BinOp (xI ha hb I h fun v u s2 x y H2 I2 rx ry q=>ho pins s2 σ H2 x y v u Q I2 rx ry q)
theorem pS{op:UnaryOp}{r:V->Hp->VK->Prop}(ho:Dj X (unaryOp op) r)(ha:PE X a ta):PE X (.UnaryOp op a pos) (FA r ta):=by
 intro pins s σ H Q I h
 exact UnaryOp_ (thn (ha pins s σ H _ I h) fun v s1 ⟨x,H1,I1,r1,q1⟩=>ho pins s1 σ H1 x v Q I1 r1 q1)
theorem CO{f:Value->Value->Sem Value}{C:Int->Int->Prop}{g:Int->Int->Int}
  (rule:∀(i j:Int) (t u:Tok) (s:Shared) (Q:Value->Shared->Prop) (E:Value->Shared->Prop),C i j->Q (.int (g i j) s.toks) { s with toks:=s.toks + 1 }->wpAny (model X.prog X.w) X.A (f (.int i t) (.int j u)) Q E s) :
  OpR X f (rI C fun i j=>.int (g i j)):=by
 intro pins s σ H x y v u Q I rx ry h
 obtain⟨i,j,rfl,rfl,hc,q⟩:=h
 obtain⟨t,rfl⟩:=rx
 obtain⟨t',rfl⟩:=ry
 exact rule i j t t' s _ _ hc ⟨.int (g i j),H,I.tok _,⟨_,rfl⟩,q⟩
theorem Ao{f:Value->Value->Sem Value}{g:Int->Int->Int}
  (rule:∀(i j:Int) (t u:Tok) (s:Shared) (Q:Value->Shared->Prop) (E:Value->Shared->Prop),Q (.int (g i j) s.toks) { s with toks:=s.toks + 1 }->wpAny (model X.prog X.w) X.A (f (.int i t) (.int j u)) Q E s) :
  OpR X f (tF fun i j=>.int (g i j)):=by
 intro pins s σ H x y v u Q I rx ry h
 obtain⟨i,j,rfl,rfl,q⟩:=h
 obtain⟨t,rfl⟩:=rx
 obtain⟨t',rfl⟩:=ry
 exact rule i j t t' s _ _ ⟨.int (g i j),H,I.tok _,⟨_,rfl⟩,q⟩
theorem tP{f:Value->Value->Sem Value}{g:Int->Int->Bool}
  (rule:∀(i j:Int) (t u:Tok) (s:Shared) (Q:Value->Shared->Prop) (E:Value->Shared->Prop),Q (.bool (g i j)) s->wpAny (model X.prog X.w) X.A (f (.int i t) (.int j u)) Q E s) :
  OpR X f (tF fun i j=>.bl (g i j)):=by
 intro pins s σ H x y v u Q I rx ry h
 obtain⟨i,j,rfl,rfl,q⟩:=h
 obtain⟨t,rfl⟩:=rx
 obtain⟨t',rfl⟩:=ry
 exact rule i j t t' s _ _ ⟨.bl (g i j),H,I,rfl,q⟩
def Dm(i j:Int):Prop:=0 < j/\j < 1073741824
def Dn(i j:Int):Prop:=0<=j/\j<=1000000/\i.natAbs < 2 ^ 64
def CMul(i j:Int):Prop:=(-(2 ^ 64) < i/\i < 2 ^ 64)\/(-(2 ^ 64) < j/\j < 2 ^ 64)
theorem CMul.ok{i j:Int}(h:CMul i j):IntMulOk i j:=by
 rcases h with ⟨h1,h2⟩ | ⟨h1,h2⟩
 ·exact .of_left (intBits_le_64 h1 h2)
 ·exact .of_right (intBits_le_64 h1 h2)
theorem xJ:OpR X (binaryOp .Add) (tF fun i j=>.int (i + j)):=Ao fun _ _ _ _ _ _ _ q=>add_int q
theorem xK:OpR X (binaryOp .Sub) (tF fun i j=>.int (i - j)):=Ao fun _ _ _ _ _ _ _ q=>sub_int q
theorem xM:OpR X (binaryOp .Mult) (rI CMul fun i j=>.int (i * j)):=CO fun _ _ _ _ _ _ _ hc q=>mul_int q hc.ok
theorem tQ:OpR X (binaryOp .FloorDiv) (rI Dm fun i j=>.int (i / j)):=CO fun i j _ _ _ _ _ hc q=>by
 have h1:(0:Int) < j:=hc.1
 have h2:j < 1073741824:=hc.2
 exact floordiv_int (by omega) (by rw[Int.fdiv_eq_ediv_of_nonneg i (by omega)];exact q) (.inl (PyProof.noPylong_small (by omega)))
theorem xN:OpR X (binaryOp .Mod) (rI (fun _ j=>0 < j) fun i j=>.int (i % j)):=CO fun i j _ _ _ _ _ hc q=>by
 have h1:(0:Int) < j:=hc
 exact mod_int' (by omega) (by rw[Int.fmod_eq_emod_of_nonneg i (by omega)];exact q)
theorem xO:OpR X (binaryOp .Pow) (rI Dn fun i j=>.int (i ^ j.toNat)):=CO fun _ _ _ _ _ _ _ hc q=>pow_int_small hc.1 hc.2.1 hc.2.2 q
theorem FB{f:Value->Sem Value}{g:Int->Int}
  (rule:∀(i:Int) (t:Tok) (s:Shared) (Q:Value->Shared->Prop) (E:Value->Shared->Prop),Q (.int (g i) s.toks) { s with toks:=s.toks + 1 }->wpAny (model X.prog X.w) X.A (f (.int i t)) Q E s) :
  Dj X f (rU fun i=>.int (g i)):=by
 intro pins s σ H x v Q I rx h
 obtain⟨i,rfl,q⟩:=h
 obtain⟨t,rfl⟩:=rx
 exact rule i t s _ _ ⟨.int (g i),H,I.tok _,⟨_,rfl⟩,q⟩
theorem kR:Dj X (unaryOp .USub) (rU fun i=>.int (-i)):=FB fun _ _ _ _ _ q=>neg_int q
end
def xP:V->V->Bool
 | .non,.non=>true | .non,.int _=>true | .int _,.non=>true | .non,.bl _=>true | .bl _,.non=>true | .non,.str _=>true | .str _,.non=>true
 | .int _,.int _=>true | .bl _,.bl _=>true | .str _,.str _=>true | .byt _,.byt _=>true
 | .int _,.str _=>true | .str _,.int _=>true | .bl _,.str _=>true | .str _,.bl _=>true
 | _,_=>false
def rEq:R2:=fun x y H Q=>xP x y=true/\Q (.bl (decide (x=y))) H
def rNe:R2:=fun x y H Q=>xP x y=true/\Q (.bl (!decide (x=y))) H
theorem l5{i j:Int}:decide (V.int i=V.int j)=(i == j):=by
 rw[abz]
 simp
theorem pT{i j:Bool}:decide (V.bl i=V.bl j)=(i == j):=by
 rw[abz]
 simp
theorem l6{i j:Str}:decide (V.str i=V.str j)=(i == j):=by
 rw[abz]
 simp
theorem l7{i j:Array UInt8}:decide (V.byt i=V.byt j)=(i.toList == j.toList):=by
 rw[abz]
 cases i
 cases j
 simp
section
variable{X:Cx}{a b c:Expr}{ta tb tc:TE}{pos:Pos}
theorem aA{pins:List (Addr × Obj)}{σ:St}{H:Hp}{s:Shared}{Q:VK}{k k':Bool}(I:Inv X pins σ H s)(q:Q (.bl k) H)(e:k=k'):EP X pins σ Q (.bool k') s:=by
 subst e
 exact⟨.bl k,H,I,rfl,q⟩
theorem op_eq:OpR X (compareOp .Eq) rEq:=by
 intro pins s σ H x y v u Q I rx ry h
 obtain⟨hs,q⟩:=h
 cases x with
 | non =>
  cases rx
  cases y with
  | non=>cases ry;exact PySem.EqNone.eq_none_none (aA I q (by simp))
  | bl j=>cases ry;exact PySem.EqNone.eq_none_bool (aA I q (by simp))
  | int j=>obtain⟨t',rfl⟩:=ry;exact PySem.EqNone.eq_none_int (aA I q (by simp))
  | str j=>obtain⟨t',rfl⟩:=ry;exact PySem.EqNone.eq_none_str (aA I q (by simp))
  | _=>exact absurd (show false=true from hs) aah
 | bl i =>
  cases rx
  cases y with
  | non=>cases ry;exact PySem.EqNone.eq_bool_none (aA I q (by simp))
  | bl j=>cases ry;exact eq_bool (aA I q pT)
  | str j=>obtain⟨t',rfl⟩:=ry;exact PySem.EqMixed.eq_bool_str (aA I q (by simp))
  | _=>exact absurd (show false=true from hs) aah
 | int i =>
  obtain⟨t,rfl⟩:=rx
  cases y with
  | non=>cases ry;exact PySem.EqNone.eq_int_none (aA I q (by simp))
  | int j=>obtain⟨t',rfl⟩:=ry;exact eq_int (aA I q l5)
  | str j=>obtain⟨t',rfl⟩:=ry;exact PySem.EqMixed.eq_int_str (aA I q (by simp))
  | _=>exact absurd (show false=true from hs) aah
 | str i =>
  obtain⟨t,rfl⟩:=rx
  cases y with
  | non=>cases ry;exact PySem.EqNone.eq_str_none (aA I q (by simp))
  | bl j=>cases ry;exact PySem.EqMixed.eq_str_bool (aA I q (by simp))
  | int j=>obtain⟨t',rfl⟩:=ry;exact PySem.EqMixed.eq_str_int (aA I q (by simp))
  | str j=>obtain⟨t',rfl⟩:=ry;exact eq_str (aA I q l6)
  | _=>exact absurd (show false=true from hs) aah
 | byt i =>
  obtain⟨t,rfl⟩:=rx
  cases y with
  | byt j=>obtain⟨t',rfl⟩:=ry;exact PySem.W.eq_bytes (aA I q l7)
  | _=>exact absurd (show false=true from hs) aah
 | _=>cases y<;>exact absurd (show false=true from hs) aah
theorem op_ne:OpR X (compareOp .NotEq) rNe:=by
 intro pins s σ H x y v u Q I rx ry h
 obtain⟨hs,q⟩:=h
 cases x with
 | non =>
  cases rx
  cases y with
  | non=>cases ry;exact PySem.EqNone.ne_none_none (aA I q (by simp))
  | bl j=>cases ry;exact PySem.EqNone.ne_none_bool (aA I q (by simp))
  | int j=>obtain⟨t',rfl⟩:=ry;exact PySem.EqNone.ne_none_int (aA I q (by simp))
  | str j=>obtain⟨t',rfl⟩:=ry;exact PySem.EqNone.ne_none_str (aA I q (by simp))
  | _=>exact absurd (show false=true from hs) aah
 | bl i =>
  cases rx
  cases y with
  | non=>cases ry;exact PySem.EqNone.ne_bool_none (aA I q (by simp))
  | bl j=>cases ry;exact ne_bool (aA I q (congrArg not pT))
  | str j=>obtain⟨t',rfl⟩:=ry;exact PySem.EqMixed.ne_bool_str (aA I q (by simp))
  | _=>exact absurd (show false=true from hs) aah
 | int i =>
  obtain⟨t,rfl⟩:=rx
  cases y with
  | non=>cases ry;exact PySem.EqNone.ne_int_none (aA I q (by simp))
  | int j=>obtain⟨t',rfl⟩:=ry;exact ne_int (aA I q (congrArg not l5))
  | str j=>obtain⟨t',rfl⟩:=ry;exact PySem.EqMixed.ne_int_str (aA I q (by simp))
  | _=>exact absurd (show false=true from hs) aah
 | str i =>
  obtain⟨t,rfl⟩:=rx
  cases y with
  | non=>cases ry;exact PySem.EqNone.ne_str_none (aA I q (by simp))
  | bl j=>cases ry;exact PySem.EqMixed.ne_str_bool (aA I q (by simp))
  | int j=>obtain⟨t',rfl⟩:=ry;exact PySem.EqMixed.ne_str_int (aA I q (by simp))
  | str j=>obtain⟨t',rfl⟩:=ry;exact ne_str (aA I q (congrArg not l6))
  | _=>exact absurd (show false=true from hs) aah
 | byt i =>
  obtain⟨t,rfl⟩:=rx
  cases y with
  | byt j=>obtain⟨t',rfl⟩:=ry;exact PySem.W.ne_bytes (aA I q (congrArg not l7))
  | _=>exact absurd (show false=true from hs) aah
 | _=>cases y<;>exact absurd (show false=true from hs) aah
theorem Ap:OpR X (compareOp .Lt) (tF fun i j=>.bl (decide (i < j))):=tP fun _ _ _ _ _ _ _ q=>lt_int q
theorem Aq:OpR X (compareOp .LtE) (tF fun i j=>.bl (decide (i<=j))):=tP fun _ _ _ _ _ _ _ q=>le_int q
theorem Ar:OpR X (compareOp .Gt) (tF fun i j=>.bl (decide (j < i))):=tP fun _ _ _ _ _ _ _ q=>gt_int q
theorem As:OpR X (compareOp .GtE) (tF fun i j=>.bl (decide (j<=i))):=tP fun _ _ _ _ _ _ _ q=>ge_int q
theorem OpR.or{f:Value->Value->Sem Value}{r r':R2}(h:OpR X f r)(h':OpR X f r'):OpR X f (fun x y H Q=>r x y H Q\/r' x y H Q):=by
 intro pins s σ H x y v u Q I rx ry q
 rcases q with q | q
 ·exact h pins s σ H x y v u Q I rx ry q
 ·exact h' pins s σ H x y v u Q I rx ry q
theorem tR{op:CmpOp}{r:R2}(ho:OpR X (compareOp op) r)(ha:PE X a ta)(hb:PE X b tb)(hm:behindInMarks op b=false):PE X (.Compare a [op] [b] pos) (An r ta tb):=by
 intro pins s σ H Q I h
 exact wpAny_Compare1 (xI ha hb I h fun v u s2 x y H2 I2 rx ry q=>ho pins s2 σ H2 x y v u Q I2 rx ry q) hm
def pU(t:TE):TT:=fun σ H Q=>t σ H fun x H'=>∃k,x=.bl k/\Q k H'
theorem tS{op:CmpOp}{r:R2}(ho:OpR X (compareOp op) r)(ha:PE X a ta)(hb:PE X b tb)(hm:behindInMarks op b=false):PT X (.Compare a [op] [b] pos) (pU (An r ta tb)):=by
 intro pins s σ H Q I h
 refine wpAny_isTrue_Compare1 (thn (ha pins s σ H _ I h) fun v s1 ⟨x,H1,I1,r1,q1⟩=>thn (hb pins s1 σ H1 _ I1 q1) fun u s2 ⟨y,H2,I2,r2,q2⟩ =>
  thn (ho pins s2 σ H2 x y v u _ I2 r1 r2 q2) fun c s3 ⟨z,H3,I3,r3,k,e,q3⟩=>?_) hm
 subst e
 cases r3
 exact wpAny_truthy_bool ⟨H3,I3,q3⟩
def kS(r r':R2)(ta tb tc:TE):TE:=fun σ H Q=>ta σ H fun x H1=>tb σ H1 fun y H2=>r x y H2 fun z H3=>∃k,z=.bl k /\
 (if k=true then tc σ H3 fun w' H4=>r' y w' H4 Q else Q (.bl false) H3)
theorem pV{op op':CmpOp}{r r':R2}(ho:OpR X (compareOp op) r)(ho':OpR X (compareOp op') r')(ha:PE X a ta)(hb:PE X b tb)(hc:PE X c tc)
  (hm:lastMarks [op,op'] [b,c]=false:=by with_unfolding_all rfl):PE X (.Compare a [op,op'] [b,c] pos) (kS r r' ta tb tc):=by
 intro pins s σ H Q I h
 refine Compare_chain (thn (ha pins s σ H _ I h) fun v s1 ⟨x,H1,I1,r1,q1⟩=>chain_link (thn (hb pins s1 σ H1 _ I1 q1) fun u s2 ⟨y,H2,I2,r2,q2⟩ =>
  thn (ho pins s2 σ H2 x y v u _ I2 r1 r2 q2) fun d s3 ⟨z,H3,I3,r3,k,e,q3⟩=>?_)) hm
 subst e
 cases r3
 refine wpAny_truthy_bool ?_
 cases k with
 | false=>exact ite_ff ⟨.bl false,H3,I3,rfl,q3⟩
 | true=>exact ite_tt (chain_last (thn (hc pins s3 σ H3 _ I3 q3) fun w' s4 ⟨z',H4,I4,r4,q4⟩=>ho' pins s4 σ H4 y z' u w' Q I4 r2 r4 q4))
theorem pW{op op':CmpOp}{r r':R2}(ho:OpR X (compareOp op) r)(ho':OpR X (compareOp op') r')(ha:PE X a ta)(hb:PE X b tb)(hc:PE X c tc)
  (hm:lastMarks [op,op'] [b,c]=false:=by with_unfolding_all rfl):PT X (.Compare a [op,op'] [b,c] pos) (pU (kS r r' ta tb tc)):=by
 intro pins s σ H Q I h
 refine isTrue_chain (thn (ha pins s σ H _ I h) fun v s1 ⟨x,H1,I1,r1,q1⟩=>test_link (thn (hb pins s1 σ H1 _ I1 q1) fun u s2 ⟨y,H2,I2,r2,q2⟩ =>
  thn (ho pins s2 σ H2 x y v u _ I2 r1 r2 q2) fun d s3 ⟨z,H3,I3,r3,k,e,q3⟩=>?_)) hm
 subst e
 cases r3
 refine wpAny_truthy_bool ?_
 cases k with
 | false =>
  obtain⟨k',e',q'⟩:=q3
  cases e'
  exact ite_ff ⟨H3,I3,q'⟩
 | true =>
  refine ite_tt (test_last (thn (hc pins s3 σ H3 _ I3 q3) fun w' s4 ⟨z',H4,I4,r4,q4⟩=>thn (ho' pins s4 σ H4 y z' u w' _ I4 r2 r4 q4) fun d' s5 hZ=>?_))
  obtain⟨z2,H5,I5,r5,k2,e2,q5⟩:=hZ
  subst e2
  cases r5
  exact wpAny_truthy_bool ⟨H5,I5,q5⟩
def xQ(K:Waa)(x:V)(H:Hp)(k:Bool):Prop :=
 match x with
 | .non=>k=false
 | .bl b=>k=b
 | .int i=>k=(i != 0)
 | .str y=>y.length<=sizeLine/\k=((y.length:Int) != 0)
 | .byt y=>y.size<=sizeLine/\k=((y.size:Int) != 0)
 | .ref p=>(∃xs,SqL K H p xs/\k=!xs.isEmpty)\/(∃xs,SqT K H p xs/\k=!xs.isEmpty)\/∃kvs,H p=some (.dK kvs)/\k=!kvs.isEmpty
 | _=>False
theorem kT{κ:Type}{kvs:List (κ × V)}{vs:List (κ × Value)}(r:KV kvs vs):(!vs.isEmpty)=!kvs.isEmpty:=by
 cases r<;>rfl
theorem f7{xs:List V}{its:List Value}(r:Vals xs its):(!its.toArray.isEmpty)=!xs.isEmpty:=by
 cases r<;>simp
theorem line63:(sizeLine:Nat) < 2 ^ 63:=by rw[sizeLine_eq];decide
theorem xR:Dk X (fun x H Q=>∃k,xQ X.K x H k/\Q k H):=by
 intro pins s σ H x v Q I rx h
 obtain⟨k,e,q⟩:=h
 have hl:=line63
 have hs:sizeLine=16777216:=sizeLine_eq
 cases x with
 | non =>
  cases rx
  have e':k=false:=e
  subst e'
  exact truthy_none ⟨H,I,q⟩
 | bl b =>
  cases rx
  have e':k=b:=e
  subst e'
  exact wpAny_truthy_bool ⟨H,I,q⟩
 | int i =>
  obtain⟨t,rfl⟩:=rx
  have e':k=(i != 0):=e
  subst e'
  exact PySem.P.truthy_int ⟨H,I,q⟩
 | str y =>
  obtain⟨t,rfl⟩:=rx
  obtain⟨hy,e'⟩:y.length<=sizeLine/\k=((y.length:Int) != 0):=e
  subst e'
  exact PySem.P.truthy_str (by omega) ⟨H,I.tok _,q⟩
 | byt y =>
  obtain⟨t,rfl⟩:=rx
  obtain⟨hy,e'⟩:y.size<=sizeLine/\k=((y.size:Int) != 0):=e
  subst e'
  exact PySem.W.truthy_bytes (by omega) ⟨H,I.tok _,q⟩
 | ref p =>
  cases rx
  have e':(∃xs,SqL X.K H p xs/\k=!xs.isEmpty)\/(∃xs,SqT X.K H p xs/\k=!xs.isEmpty)\/∃kvs,H p=some (.dK kvs)/\k=!kvs.isEmpty:=e
  rcases e' with ⟨xs,hx,e'⟩ | ⟨xs,hx,e'⟩ | ⟨kvs,hx,e'⟩
  ·subst e'
   obtain⟨its,r,pl,hz⟩:=I.list hx
   have hlen:=r.length
   exact wpAny_truthy_list pl.isList (by simp only[aat];omega) ⟨H,I.tok _,by rw[f7 r];exact q⟩
  ·subst e'
   obtain⟨its,r,pl,hz⟩:=I.tuple hx
   have hlen:=r.length
   exact truthy_tuple pl (by simp only[aat];omega) ⟨H,I.tok _,by rw[f7 r];exact q⟩
  ·subst e'
   obtain⟨hz,hS,vs,r,m⟩:kvs.length<=sizeLine/\(p == sysModules)=false/\∃vs,KV kvs vs/\s.heap.DictOf (bq X.prog X.w) p vs:=I.hok p _ hx
   have hlen:kvs.length=vs.length:=Paired.length r
   exact wpAny_truthy_dict hS m (by omega) ⟨H,I.tok _,by rw[kT r];exact q⟩
 | _=>exact (show False from e).elim
theorem pX(ha:PE X a ta)(he:∀whole,isTrue a X.env whole=(do let v <- whole;standAt a.pos;holding [v] (truthy v))) :
  PT X a (fun σ H Q=>ta σ H fun x H'=>∃k,xQ X.K x H' k/\Q k H'):=by
 intro pins s σ H Q I h
 exact isTrue_plain (thn (ha pins s σ H _ I h) fun v s1 ⟨x,H1,I1,r1,q1⟩=>xR pins s1 σ H1 x v Q I1 r1 q1) (he _)
theorem vals1{x:V}{us:List Value}(r:Vals [x] us):∃u,us=[u]/\RelV x u:=by
 cases r with
 | cons r1 r2=>cases r2;exact⟨_,rfl,r1⟩
theorem vals2{x y:V}{us:List Value}(r:Vals [x,y] us):∃u w',us=[u,w']/\RelV x u/\RelV y w':=by
 cases r with
 | cons r1 r2 =>
  cases r2 with
  | cons r3 r4=>cases r4;exact⟨_,_,rfl,r1,r3⟩
theorem pY:bE X (.builtin "abs") (fun xs H Q=>∃i,xs=[.int i]/\Q (.int (if i < 0 then -i else i)) H):=by
 intro pins s σ H xs us Q I r h
 obtain⟨i,rfl,q⟩:=h
 obtain⟨u,rfl,t,rfl⟩:=vals1 r
 exact call_abs_int fun u tk=>⟨.int (if i < 0 then -i else i),H,I.tok _,⟨_,rfl⟩,q⟩
theorem nW(hc:X.calm=true):bE X (.builtin "max") (fun xs H Q=>∃i j,xs=[.int i,.int j]/\Q (.int (if j > i then j else i)) H):=by
 intro pins s σ H xs us Q I r h
 obtain⟨i,j,rfl,q⟩:=h
 obtain⟨u,w',rfl,⟨t,rfl⟩,⟨t',rfl⟩⟩:=vals2 r
 refine max_two_ints (I.ok.hd hc) fun h' tk k=>⟨_,H,I.kept k,?_,q⟩
 by_cases hj:j > i
 ·rw[if_pos hj,if_pos hj];exact⟨_,rfl⟩
 ·rw[if_neg hj,if_neg hj];exact⟨_,rfl⟩
theorem nX(hc:X.calm=true):bE X (.builtin "min") (fun xs H Q=>∃i j,xs=[.int i,.int j]/\Q (.int (if j < i then j else i)) H):=by
 intro pins s σ H xs us Q I r h
 obtain⟨i,j,rfl,q⟩:=h
 obtain⟨u,w',rfl,⟨t,rfl⟩,⟨t',rfl⟩⟩:=vals2 r
 refine min_two_ints (I.ok.hd hc) fun h' tk k=>⟨_,H,I.kept k,?_,q⟩
 by_cases hj:j < i
 ·rw[if_pos hj,if_pos hj];exact⟨_,rfl⟩
 ·rw[if_neg hj,if_neg hj];exact⟨_,rfl⟩
theorem nY:bE X (.type "int") (fun xs H Q=>(∃i,xs=[.int i]/\Q (.int i) H)\/∃k,xs=[.bl k]/\Q (.int (if k then 1 else 0)) H):=by
 intro pins s σ H xs us Q I r h
 rcases h with ⟨i,rfl,q⟩ | ⟨k,rfl,q⟩
 ·obtain⟨u,rfl,t,rfl⟩:=vals1 r
  exact call_int_int ⟨.int i,H,I,⟨_,rfl⟩,q⟩
 ·obtain⟨u,rfl,r1⟩:=vals1 r
  cases r1
  exact call_int_bool ⟨.int (if k then 1 else 0),H,I.tok _,⟨_,rfl⟩,q⟩
def Au(K:Waa)(x:V)(H:Hp)(n:Nat):Prop :=
 match x with
 | .str y=>y.length<=sizeLine/\n=y.length
 | .byt y=>y.size<=sizeLine/\n=y.size
 | .ref p=>(∃xs,SqL K H p xs/\n=xs.length)\/∃xs,SqT K H p xs/\n=xs.length
 | _=>False
theorem pZ:bE X (.builtin "len") (fun xs H Q=>∃x n,xs=[x]/\Au X.K x H n/\Q (.int n) H):=by
 intro pins s σ H xs us Q I r h
 obtain⟨x,n,rfl,e,q⟩:=h
 obtain⟨u,rfl,rx⟩:=vals1 r
 have hl:=line63
 have hs:sizeLine=16777216:=sizeLine_eq
 cases x with
 | str y =>
  obtain⟨t,rfl⟩:=rx
  obtain⟨hy,e'⟩:y.length<=sizeLine/\n=y.length:=e
  subst e'
  exact len_str (by omega) ⟨.int _,H,I.tok _,⟨_,rfl⟩,q⟩
 | byt y =>
  obtain⟨t,rfl⟩:=rx
  obtain⟨hy,e'⟩:y.size<=sizeLine/\n=y.size:=e
  subst e'
  exact PySem.W.len_bytes (by omega) ⟨.int _,H,I.tok _,⟨_,rfl⟩,q⟩
 | ref p =>
  cases rx
  have e':(∃xs,SqL X.K H p xs/\n=xs.length)\/∃xs,SqT X.K H p xs/\n=xs.length:=e
  rcases e' with ⟨xs,hx,e'⟩ | ⟨xs,hx,e'⟩
  ·subst e'
   obtain⟨its,r',pl,hz⟩:=I.list hx
   have hlen:=r'.length
   exact Calls.call_len_list pl.isList (by simp only[aat];omega) ⟨.int xs.length,H,I.tok _,⟨_,by simp only[aat];rw[hlen]⟩,q⟩
  ·subst e'
   obtain⟨its,r',pl,hz⟩:=I.tuple hx
   have hlen:=r'.length
   exact len_tuple pl (by simp only[aat];omega) ⟨.int xs.length,H,I.tok _,⟨_,by simp only[aat];rw[hlen]⟩,q⟩
 | _=>exact (show False from e).elim
end
end
section
theorem RelO.some_of{v:V}{o:Option Value}(r:RelO (some v) o):∃u,o=some u/\RelV v u:=by
 cases o with
 | none=>exact (show False from r).elim
 | some u=>exact⟨u,rfl,r⟩
structure Cls (K:Waa)(C:Addr):Prop where
 pg:PySem.W.plainGet K C Str.empty=true
 hd:PySem.W.hasDictIn K C=true
 po:PySem.W.plainOver K C=true
 sa:PySem.W.findIn K (.ref C) "__setattr__"=some (some (.builtin "object.__setattr__"))
def kU(K:Waa)(C:Addr)(f:Str):Prop:=PySem.W.findIn K (.ref C) f=some none
structure Meth (K:Waa)(C:Addr)(m:Str)(f:Addr):Prop where
 at_:PySem.W.findIn K (.ref C) m=some (some (.ref f))
 fn:PySem.W.isFn K (.ref f)=true
 kp:PySem.W.keepIn K (.ref f)=true
end
section
structure Room (k:Nat)(A:Around):Prop where
 hd:A.handled=none
 dp:A.depth + 3 * k + 5 < recursionLimit
 un:A.units + 16 * k + 200 < cLine
 gd:A.guards=some []
theorem Room.deeper{k:Nat}{A:Around}(r:Room (k + 1) A)(env:Env):Room k (A.deeper env) :=
 ⟨r.hd,by have:=r.dp;show A.depth + 1 + 3 * k + 5 < _;omega,by have:=r.un;show A.units + 3 + 16 * k + 200 < _;omega,r.gd⟩
theorem Room.depth{k:Nat}{A:Around}(r:Room k A):A.depth < recursionLimit:=by have:=r.dp;omega
theorem Room.units{k:Nat}{A:Around}(r:Room k A):A.units + 64 < cLine:=by have:=r.un;omega
def tNil:TA:=fun _ H Q=>Q [] H
def Av(ta:TE)(tr:TA):TA:=fun σ H Q=>ta σ H fun x H1=>tr σ H1 fun xs H2=>Q (x::xs) H2
section
variable{X:Cx}{e:Expr}{es:List Expr}{te:TE}{t:TA}{pos:Pos}
theorem cm:PA X [] tNil:=fun _ _ _ _ H Q I h=>Calls.spliced_nil ⟨[],H,I,.nil,h⟩
theorem bf(ha:PE X e te)(hr:PA X es t)(hs:starEach (e::es) X.env=(false,eval e X.env)::starEach es X.env:=by rfl):PA X (e::es) (Av te t):=by
 intro pos pins s σ H Q I h
 rw[hs]
 show wpAny _ _ (spliced ((false,eval e X.env)::backTo pos (starEach es X.env))) _ _ s
 refine Calls.spliced_cons (thn (ha pins s σ H _ I h) fun u s1 hZ=>?_)
 obtain⟨x,H1,I1,r1,q1⟩:=hZ
 exact thn (hr pos pins s1 σ H1 _ I1 q1) fun us s2 ⟨xs,H2,I2,r2,q2⟩=>⟨x::xs,H2,I2,.cons r1 r2,q2⟩
def Do(t:TA):TE:=fun σ H Q=>t σ H fun xs H1=>xs.length<=sizeLine/\∀p,H1 p=none->Q (.ref p) (upd H1 p (.tup xs))
def Dp(t:TA):TE:=fun σ H Q=>t σ H fun xs H1=>xs.length<=sizeLine/\∀p,H1 p=none->Q (.ref p) (upd H1 p (.lst xs))
theorem p0{x1}(h:PA X es t):PE X (.Tuple es x1 pos) (Do t):=by
 intro pins s σ H Q I hq
 refine wpAny_Tuple_spliced (thn (h pos pins s σ H _ I hq) fun us s1 ⟨xs,H1,I1,r,z,q⟩=>⟨by rw[<- r.length];exact z,?_⟩)
 have hf:H1 s1.heap.objs.size=none:=I1.hok.fresh (aac _)
 refine⟨.ref s1.heap.objs.size,upd H1 s1.heap.objs.size (.tup xs),I1.laid (t':=s1.toks) (fun b u e=>Heap.get?_push_of_some _ e) (aac _) ?_,rfl,q _ hf⟩
 exact⟨z,us,r,⟨_,Heap.get?_push_size _ rfl,rfl,_,rfl⟩⟩
theorem xS(h:PA X es t):PE X (.List es pos) (Dp t):=by
 intro pins s σ H Q I hq
 refine wpAny_List_spliced (thn (h pos pins s σ H _ I hq) fun us s1 ⟨xs,H1,I1,r,z,q⟩=>⟨by rw[<- r.length];exact z,?_⟩)
 have hf:H1 s1.heap.objs.size=none:=I1.hok.fresh (aac _)
 refine⟨.ref s1.heap.objs.size,upd H1 s1.heap.objs.size (.lst xs),I1.laid (t':=s1.toks) (fun b u e=>Heap.get?_push_of_some _ e) (aac _) ?_,rfl,q _ hf⟩
 exact⟨z,us,0,r,Heap.get?_push_size _ rfl⟩
end
abbrev Sp:=List V->Hp->VK->XK->Prop
abbrev CXT:=List Env->Hp->Shared->XK->Value->Shared->Prop
structure Env0 (P:Program)(w:World)(K:Waa)(mg:Str->Option Value)(base:Heap)(A:Around)(outer:List Env)(s:Shared)(H:Hp):Prop where
 frames:A.frames=some outer
 mod:Mod K mg base
 bs:∀b o,base.get? b=some o->s.heap.get? b=some o/\H b=none
 bsz:base.objs.size<=s.heap.objs.size
 funs:s.heap.FunFrames base outer
 frf:∀b∈pH outer,H b=none
 hok:HOk P w H s.heap
 bare:AllBare s.gens
def CE(outer:List Env)(P:Program)(w:World)(H:Hp)(s:Shared)(Q:VK)(u:Value)(s':Shared):Prop :=
 ∃v H',s'.os=s.os/\AllBare s'.gens/\Un (pH outer) [] H H' s.heap s'.heap/\HOk P w H' s'.heap/\RelV v u/\Q v H'
def CR(CX:CXT)(outer:List Env)(P:Program)(w:World)(H:Hp)(s:Shared)(Q:VK)(E:XK)(r:Result)(s':Shared):Prop :=
 match r with
 | .ok (.ret u)=>CE outer P w H s Q u s'
 | .ok _=>False
 | .error e=>CX outer H s E e s'
structure FnOk (P:Program)(w:World)(K:Waa)(mg:Str->Option Value)(base:Heap)(CX:CXT)(k:Nat)(f:Addr)(fd:FuncData)(ps:List Str)(sp:Sp):Prop where
 len:∀vs H Q E,sp vs H Q E->vs.length=ps.length
 run:∀(A:Around) (outer:List Env) (s:Shared) (H:Hp) (args:Args) (us:List Value) (vs:List V) (Q:VK) (E:XK),Room k A->Env0 P w K mg base A outer s H->BindsTo s fd args (ps.zip us)->Vals vs us->sp vs H Q E ->
  codeAny (model P w) A (.call (.ref f) args) (CR CX outer P w H s Q E) s
theorem FnOk.imp{P:Program}{w:World}{K:Waa}{mg:Str->Option Value}{base:Heap}{CX:CXT}{k:Nat}{f:Addr}{fd:FuncData}{ps:List Str}{sp sp':Sp}(F:FnOk P w K mg base CX k f fd ps sp)
  (h:∀vs H Q E,sp' vs H Q E->sp vs H Q E):FnOk P w K mg base CX k f fd ps sp' :=
 ⟨fun vs H Q E q=>F.len vs H Q E (h _ _ _ _ q),fun A outer s H args us vs Q E hr he hb hv hs=>F.run A outer s H args us vs Q E hr he hb hv (h _ _ _ _ hs)⟩
section
variable{X:Cx}{pins:List (Addr × Obj)}{σ:St}{H:Hp}{s s':Shared}
theorem Inv.env0(I:Inv X pins σ H s):Env0 X.prog X.w X.K X.mg X.base X.A X.stack s H :=
 ⟨I.ok.frames,I.ok.mod,I.bs,aaq I.ok.bsz I.sz,I.stack,I.stkFree,I.hok,I.bare⟩
theorem Inv.after{Q:VK}{u:Value}(I:Inv X pins σ H s)(h:CE X.stack X.prog X.w H s Q u s'):EP X pins σ Q u s':=by
 obtain⟨v,H',os,bare,un,hok,r,q⟩:=h
 obtain⟨hh,g,d,t,os'⟩:=s'
 obtain rfl:os'=s.os:=os
 exact⟨v,H',I.call (h':=hh) (g':=g) (d':=d) (t':=t) (ch:=[]) un hok bare (fun b z=>absurd z (by simp)),r,q⟩
end
def we(sp:Sp)(dvs:List V)(E:XK)(t:TA):TE:=fun σ H Q=>t σ H fun vs H1=>sp (vs++dvs) H1 Q E
def Binds(K:Waa)(fd:FuncData)(ps:List Str)(ds:List Value):Prop :=
 ∀(s:Shared) (us:List Value),K.In s.heap->(us++ds).length=ps.length->BindsTo s fd ⟨us,[]⟩ (ps.zip (us++ds))
theorem Binds.all{K:Waa}{fd:FuncData}{ps:List Str}(h:∀us:List Value,us.length=ps.length->bindArgs fd ⟨us,[]⟩=pure (ps.zip us)):Binds K fd ps []:=fun s us _ hl=>by
 rw[aar]at hl ⊢
 exact .of_eq (h us hl)
def Passes(CX:CXT)(X:Cx)(E:XK):Prop:=∀(pins:List (Addr × Obj)) (σ:St) (H:Hp) (s:Shared) (e:Value) (s':Shared),Inv X pins σ H s->CX X.stack H s E e s'->X.xe e s'
section
variable{X:Cx}{CX:CXT}{k:Nat}{f C:Addr}{fd:FuncData}{ps:List Str}{sp:Sp}{dvs:List V}{ds:List Value}{E:XK}{x m:Str}{p pos apos:Pos}{e o:Expr}{es:List Expr}{ta:TE}{t:TA}
theorem xT{pins:List (Addr × Obj)}{σ:St}{H:Hp}{s:Shared}{Q:VK}{us:List Value}{vs:List V}(F:FnOk X.prog X.w X.K X.mg X.base CX k f fd ps sp)(hr:Room k X.A)(hb:Binds X.K fd ps ds)(hd:Vals dvs ds)(hx:Passes CX X E)
  (I:Inv X pins σ H s) (r:Vals vs us) (h:sp (vs++dvs) H Q E):wpAny (model X.prog X.w) X.A (call (.ref f) us) (EP X pins σ Q) X.xe s:=by
 have r2:Vals (vs++dvs) (us++ds):=r.append hd
 have hl:(us++ds).length=ps.length:=by rw[<- r2.length];exact F.len _ _ _ _ h
 refine wpAny_call (codeAny_mono (F.run X.A X.stack s H ⟨us,[]⟩ (us++ds) (vs++dvs) Q E hr I.env0 (hb s us I.kIn hl) r2 h) fun r s' hq=>?_)
 cases r with
 | error e=>exact hx pins σ H s e s' I hq
 | ok fl =>
  cases fl with
  | ret u=>exact I.after hq
  | next=>exact False.elim hq
  | brk=>exact False.elim hq
  | cont=>exact False.elim hq
theorem tT(F:FnOk X.prog X.w X.K X.mg X.base CX k f fd ps sp)(hr:Room k X.A)(hg:Gl X x)(hm:X.mg x=some (.ref f))(hk:PySem.W.keepIn X.K (.ref f)=true)(hb:Binds X.K fd ps ds)(hd:Vals dvs ds)(hx:Passes CX X E)
  (ha:PA X (e::es) t) (hdb:(x == ("__debug__":Str))=false:=by decide) (he:starEach (e::es) X.env=(false,eval e X.env)::starEach es X.env:=by rfl) (hpl:(backTo pos (starEach es X.env)).any (·.1)=false:=by rfl) :
  PE X (.Call (.Name x p) (e::es) [] pos) (we sp dvs E t):=by
 intro pins s σ H Q I h
 refine wpAny_Call_Name_kw (l4 I hg hm ?_ hdb)
 refine PySem.W.callWith_K (h₀:=X.base) I.ok.mod.kin hk (thn (ha pos pins s σ H _ I h) fun us s1 ⟨vs,H1,I1,r,q⟩=>⟨I1.kIn,?_⟩) he hpl
 exact xT F hr hb hd hx I1 r q
structure Mk (K:Waa)(C f:Addr):Prop where
 makes:PySem.W.makesIn K C=true
 init:PySem.W.findIn K (.ref C) "__init__"=some (some (.ref f))
 fn:PySem.W.isFn K (.ref f)=true
 kp:PySem.W.keepIn K (.ref C)=true
end
structure FnScope (N P:List Str)(sc:Scope):Prop where
 kind:sc.kind=.function
 co:sc.isCoroutine=false
 gen:sc.isGenerator=false
 nd:N.Nodup
 pre:N.take P.length=P
 par:∀x∈P,sc.names.lookup x=some .local\/sc.names.lookup x=some .cell
 nofree:∀y∈sc.names,y.2≠.free
theorem ic{kindOf:Str->Option NameKind}{x:Str}:∀{binds:List (Str × Value)} {m:Str->Option Value},(∀v,(x,v) ∉ binds)->bindL kindOf binds m x=m x
 | [],_,_=>rfl
 | (n,v)::r,m,h=>by
  unfold bindL
  rw[ic fun w hw=>h w (aai _ hw)]
  split
  ·have:x≠n:=by rintro rfl;exact h v aag
   simp[this]
  ·rfl
theorem ie{kindOf:Str->Option NameKind}{x:Str}:∀{binds:List (Str × Value)} {m:Str->Option Value},(∀v,(x,v) ∉ binds)->bindC kindOf binds m x=m x
 | [],_,_=>rfl
 | (n,v)::r,m,h=>by
  unfold bindC
  rw[ie fun w hw=>h w (aai _ hw)]
  split
  ·rfl
  ·have:x≠n:=by rintro rfl;exact h v aag
   simp[this]
theorem ig{kindOf:Str->Option NameKind}{x:Str}{v:Value}:∀{P:List Str} {vs:List Value} {i:Nat} {m:Str->Option Value},P.Nodup->P[i]?=some x->vs[i]?=some v->kindOf x=some .local ->
  bindL kindOf (P.zip vs) m x=some v
 | [],_,_,_,_,h,_,_=>by simp at h
 | _::_,[],_,_,_,_,h,_=>by simp at h
 | p::P,w::vs,0,m,nd,h1,h2,hk=>by
  simp at h1 h2;subst h1;subst h2
  show bindL kindOf ((p,w)::P.zip vs) m p=_
  unfold bindL
  rw[ic fun v hv=>(aaH.mp nd).1 (aaT hv).1,if_pos hk]
  simp
 | p::P,w::vs,i + 1,m,nd,h1,h2,hk=>by
  show bindL kindOf ((p,w)::P.zip vs) m x=_
  unfold bindL
  exact ig (i:=i) (aaH.mp nd).2 (by simpa using h1) (by simpa using h2) hk
theorem ij{kindOf:Str->Option NameKind}{x:Str}{v:Value}:∀{P:List Str} {vs:List Value} {i:Nat} {m:Str->Option Value},P.Nodup->P[i]?=some x->vs[i]?=some v->kindOf x≠some .local ->
  bindC kindOf (P.zip vs) m x=some v
 | [],_,_,_,_,h,_,_=>by simp at h
 | _::_,[],_,_,_,_,h,_=>by simp at h
 | p::P,w::vs,0,m,nd,h1,h2,hk=>by
  simp at h1 h2;subst h1;subst h2
  show bindC kindOf ((p,w)::P.zip vs) m p=_
  unfold bindC
  rw[ie fun v hv=>(aaH.mp nd).1 (aaT hv).1,if_neg hk]
  simp
 | p::P,w::vs,i + 1,m,nd,h1,h2,hk=>by
  show bindC kindOf ((p,w)::P.zip vs) m x=_
  unfold bindC
  exact ij (i:=i) (aaH.mp nd).2 (by simpa using h1) (by simpa using h2) hk
def start(N:List Str)(vs:List V):St:=vs.map some++List.replicate (N.length - vs.length) none
def i3(CX:CXT)(P:Program)(w:World)(K:Waa)(mg:Str->Option Value)(base:Heap)(N:List Str)(qual:Str)(scope:Scope)(f:Addr)(cd:Value)(A:Around)(outer:List Env)(s:Shared)(H:Hp)(E:XK):Cx where
 prog:=P
 w:=w
 K:=K
 mg:=mg
 base:=base
 A:=A.deeper (envOfC qual scope s.heap.objs.size f cd)
 N:=N
 s₀:=s
 H₀:=H
 env:=envOfC qual scope s.heap.objs.size f cd
 outer:=outer
 stack:=envOfC qual scope s.heap.objs.size f cd::outer
 ex:=[]
 calm:=true
 fn:=fun _=>true
 pn:=[]
 xe:=fun e s'=>wpAny (model P w) (A.deeper (envOfC qual scope s.heap.objs.size f cd)) (leaving (envOfC qual scope s.heap.objs.size f cd) e) (fun _ s''=>CX outer H s E e s'') (fun e' s''=>CX outer H s E e' s'') s'
theorem jN{sc:Scope}{n:Nat}{x:Str}(h:sc.names.lookup x=some .cell):∃c,(cellsFrom n sc.names []).lookup x=some c:=by
 have q:=aci sc.names n [] (.inl h)
 exact abk.mp q
theorem nZ{CX:CXT}{P:Program}{w:World}{K:Waa}{mg:Str->Option Value}{base:Heap}{N ps:List Str}{qual:Str}{scope:Scope}{f:Addr}{cd:Value}{A:Around}{outer:List Env}{s s1:Shared}{H:Hp}{E:XK}{us:List Value}{vs:List V}
  (S:FnScope N ps scope) (hd:A.handled=none) (e0:Env0 P w K mg base A outer s H) (hl:vs.length=ps.length) (r:Vals vs us)
  (x:InCallC s s.heap.objs.size (bindL (envOfC qual scope s.heap.objs.size f cd).kindOf (ps.zip us) fun _=>none) (cellsFrom (s.heap.objs.size + 1) scope.names []) (bindC (envOfC qual scope s.heap.objs.size f cd).kindOf (ps.zip us) fun _=>none) s1) :
  Inv (i3 CX P w K mg base N qual scope f cd A outer s H E) [] (start N vs) H s1:=by
 have hpl:ps.length<=N.length:=by have:=congrArg List.length S.pre;rw[aaY]at this;omega
 obtain⟨h1,tk,rfl,hk⟩:=x.done
 have noA:∀b:Addr,b ∉ (i3 CX P w K mg base N qual scope f cd A outer s H E).ex:=fun b z=>absurd (show b∈([]:List Addr) from z) (by simp)
 refine⟨⟨e0.mod,S.kind,rfl,rfl,aac _,fun y z c h1 h2=>?_,fun y hy=>?_,fun y c _ h=>?_,fun _=>hd,Around.frames_deeper e0.frames,.inr ⟨rfl,rfl⟩,fun b z=>absurd z (noA b),e0.bs,e0.bsz,fun b _ _=>noA b,fun b z=>absurd z (noA b),e0.funs,e0.frf⟩,
  rfl,e0.bare,Un.kept hk,⟨_,x.toInCall.ns,fun i y v h1 h2 h3=>?_⟩,fun y c h=>⟨_,x.cell y c h⟩,e0.hok.fresh (aac _),fun y c h=>?_,fun p hp=>absurd (show p∈([]:List (Addr × Obj)) from hp) (by simp),e0.hok.kept hk,?_⟩
 ·exact name_of_addr x.apart (aa6 h1) (aa6 h2)
 ·have hy:scope.names.lookup y=some .cell\/scope.names.lookup y=some .free:=hy
  rcases hy with hy | hy
  ·exact jN hy
  ·exact absurd rfl (S.nofree _ (aa6 hy))
 ·exact aa4 (x.above y c (aa6 h))
 ·have hi:i < vs.length:=by
   unfold start at h2
   by_cases hi:i < vs.length
   ·exact hi
   ·rw[abA (by simpa using hi)]at h2
    rw[acj]at h2
    split at h2<;>cases h2
  have ha:vs[i]?=some v:=by
   unfold start at h2
   rw[abV (by simpa using hi),aav]at h2
   cases e:vs[i]? with
   | none=>rw[e]at h2;cases h2
   | some a=>rw[e]at h2;cases h2;rfl
  obtain⟨u,hu,rv⟩:=r.get ha
  have hp:ps[i]?=some y:=by
   rw[<- S.pre,List.getElem?_take_of_lt (by omega)];exact h1
  have ndP:ps.Nodup:=by rw[<- S.pre];exact S.nd.sublist (List.take_sublist _ _)
  refine⟨u,rv,?_⟩
  rcases S.par y (abl hp) with k | k
  ·exact .inl ⟨k,ig ndP hp hu k⟩
  ·obtain⟨c,e⟩:=jN (n:=s.heap.objs.size + 1) k
   refine .inr ⟨.inl k,c,e,?_⟩
   have q:=x.cell y c e
   rw[ij ndP hp hu (by show scope.names.lookup y≠_;rw[k];decide)]at q
   exact q
 ·exact e0.hok.fresh (aa4 (x.above y c (aa6 h)))
 ·unfold start
  show _=N.length
  rw[aaA,aaa,abB]
  omega
theorem Aw{CX:CXT}{P:Program}{w:World}{K:Waa}{mg:Str->Option Value}{base:Heap}{k:Nat}{f:Addr}{name qual:Str}{params:Arguments}{body:List Stmt}{scope:Scope}{dV kV doc pm cdv ct oc:Value}{an od:Option Addr}
  {osl:Array (Option Value)} {N ps:List Str} {sp:Sp} (lk:K.lookup f=some ⟨oc,od,.func (PySem.W.fnOf name qual params body scope dV kV doc pm an cdv ct),osl⟩) (hcd:PySem.W.codeIn K cdv qual=true) (S:FnScope N ps scope)
  (len:∀vs H Q E,sp vs H Q E->vs.length=ps.length)
  (hbody:∀(A:Around) (outer:List Env) (s:Shared) (H:Hp) (vs:List V) (Q:VK) (E:XK),Room k (A.deeper (envOfC qual scope s.heap.objs.size f cdv))->sp vs H Q E ->
   ∃t,PSs (i3 CX P w K mg base N qual scope f cdv A outer s H E) body t/\t { nx:=fun _ H'=>Q .non H',rt:=Q } (start N vs) H) :
  FnOk P w K mg base CX (k + 1) f (PySem.W.fnOf name qual params body scope dV kV doc pm an cdv ct) ps sp:=by
 refine⟨len,fun A outer s H args us vs Q E hr e0 hb r hsp=>?_⟩
 have hl:=len _ _ _ _ hsp
 have KX:K.In s.heap:=e0.mod.kin.keeps fun b o e=>(e0.bs b o e).1
 have lim:s.heap.NoLimit:=e0.mod.nolimit.keeps fun b o e=>(e0.bs b o e).1
 have hkind:∀y∈ps.zip us,scope.names.lookup y.1=some .local\/(scope.names.lookup y.1=some .cell/\((cellsFrom (s.heap.objs.size + 1) scope.names []).lookup y.1).isSome=true):=fun ⟨n,v⟩ hy=>by
  rcases S.par n (aaT hy).1 with q | q
  ·exact .inl q
  ·exact .inr ⟨q,aci _ _ _ (.inl q)⟩
 refine codeAny_call_function hr.depth (KX _ _ lk) rfl S.co S.gen rfl (PySem.W.codeRec_of KX hcd) (hb _ _ _ _ ?_)
 refine wpAny_newFunctionEnv_cells S.kind hkind fun env he s1 x=>?_
 subst he
 refine⟨lim.keeps x.toInCall.keep,codeAny_func ?_⟩
 obtain⟨t,ht,hq⟩:=hbody A outer s H vs Q E (hr.deeper _) hsp
 have I:Inv (i3 CX P w K mg base N qual scope f cdv A outer s H E) [] (start N vs) H s1:=nZ S hr.hd e0 hl r x
 refine wpAny_mono (ht [] s1 (start N vs) H _ I hq) (fun fl s' hs=>?_) fun e s' hs=>hs
 have fin:∀{σ':St} {H':Hp} {v:V} {u:Value},Inv (i3 CX P w K mg base N qual scope f cdv A outer s H E) [] σ' H' s'->RelV v u->Q v H'->CE outer P w H s Q u s' :=
  fun {σ' H' v u} J rv q=>⟨v,H',J.os,J.bare,J.base,J.hok,rv,q⟩
 cases fl with
 | ret u =>
  obtain⟨v,σ',H',J,rv,q⟩:=hs
  exact fin J rv q
 | next =>
  obtain⟨σ',H',J,q⟩:=hs
  exact fin (v:=V.non) (u:=Value.none) J rfl q
 | brk =>
  obtain⟨_,_,_,q⟩:=hs
  exact False.elim q
 | cont =>
  obtain⟨_,_,_,q⟩:=hs
  exact False.elim q
end
section
section
variable{X:Cx}{x:Str}{p pos:Pos}{e:Expr}{es:List Expr}{t:TA}{id T:String}{r:List V->Hp->VK->Prop}
def Dq(r:List V->Hp->VK->Prop)(t:TA):TE:=fun σ H Q=>t σ H fun vs H1=>r vs H1 Q
theorem cM (hc:bE X (.builtin id) r) (hg:Gl X x) (hm:X.mg x=none) (hv:bootBuiltins x=some (.builtin id)) (ha:PA X (e::es) t) (hn:x≠"__name__":=by decide) (hdb:(x == ("__debug__":Str))=false:=by decide)
  (he:starEach (e::es) X.env=(false,eval e X.env)::starEach es X.env:=by rfl) (hpl:(backTo pos (starEach es X.env)).any (·.1)=false:=by rfl):PE X (.Call (.Name x p) (e::es) [] pos) (Dq r t):=by
 intro pins s σ H Q I h
 refine wpAny_Call_Name_kw (dE I hg hm hv ?_ hn hdb)
 exact PyProof.Rows.callWith_builtin1 (thn (ha pos pins s σ H _ I h) fun us s1 ⟨vs,H1,I1,r1,q1⟩=>hc pins s1 σ H1 vs us Q I1 r1 q1) he hpl
theorem cZ (hc:bE X (.type T) r) (hg:Gl X x) (hm:X.mg x=none) (hv:bootBuiltins x=some (.type T)) (ha:PA X (e::es) t) (hn:x≠"__name__":=by decide) (hdb:(x == ("__debug__":Str))=false:=by decide)
  (he:starEach (e::es) X.env=(false,eval e X.env)::starEach es X.env:=by rfl) (hpl:(backTo pos (starEach es X.env)).any (·.1)=false:=by rfl):PE X (.Call (.Name x p) (e::es) [] pos) (Dq r t):=by
 intro pins s σ H Q I h
 refine wpAny_Call_Name_kw (dE I hg hm hv ?_ hn hdb)
 exact abj (thn (ha pos pins s σ H _ I h) fun us s1 ⟨vs,H1,I1,r1,q1⟩=>hc pins s1 σ H1 vs us Q I1 r1 q1) he hpl
end
end
end L2
namespace HT
open PySem PyProof.Rows
section
variable{prog:Program}{w:World}{A:Around}{E:Value->Shared->Prop}{s:Shared}
theorem cat_tup{t b:Addr}{vs ws:List Value}{Q:Value->Shared->Prop}(ht:IsTup s.heap t vs.toArray)(hb:IsTup s.heap b ws.toArray)(hv:vs≠[])
  (h1:ws=[]->Q (.ref t) s) (h2:ws≠[]->Q (.ref s.heap.objs.size) { s with heap:=s.heap.push { cls:=.type "tuple",data:=.seq (vs++ws).toArray } })
  (hsz:vs.length + ws.length<=sizeLine):wpAny (model prog w) A (binaryOp .Add (.ref t) (.ref b)) Q E s:=by
 obtain⟨⟨cls,dd,data,sl⟩,ho,hc,n,hd⟩:=id ht
 obtain⟨⟨cls2,dd2,data2,sl2⟩,ho2,hc2,n2,hd2⟩:=id hb
 simp only at hc hd hc2 hd2
 subst hc hd hc2 hd2
 have e:vs.toArray++ws.toArray=(vs++ws).toArray:=by simp
 by_cases hw:ws=[]
 ·exact concat_meets ⟨_,ho,rfl⟩ ⟨_,ho2,rfl⟩ noFill_tuple_add seq_tuple_add ack acl (acm _ _)
   (tuple_addW1 t b vs.toArray ws.toArray n n2 dd dd2 sl sl2 (by simpa using hv) (by simp[hw])) ⟨ho,ho2,h1 hw⟩
 ·refine concat_meets ⟨_,ho,rfl⟩ ⟨_,ho2,rfl⟩ noFill_tuple_add seq_tuple_add ack acl (acm _ _)
   (tuple_addW2 t b vs.toArray ws.toArray n n2 dd dd2 sl sl2 (by simpa using hv) (by simpa using hw) (by rw[aat,aat];exact hsz)) ⟨ho,ho2,?_⟩
  rw[e]
  exact h2 hw
def sIx(n d:Nat):Option Int->Nat
 | none=>d
 | some v=>if v < 0 then (v + (n:Int)).toNat else min v.toNat n
end
end HT
namespace L2
open PySem PySem.Spec PyProof.Rows
section
abbrev TO:=St->Hp->(Option Int->Hp->Prop)->Prop
def PO(X:Cx)(e:Option Expr)(t:TO):Prop :=
 ∀(pins:List (Addr × Obj)) (s:Shared) (σ:St) (H:Hp) (Q:Option Int->Hp->Prop),Inv X pins σ H s->t σ H Q ->
  wpAny (model X.prog X.w) X.A (evalPart e X.env) (fun u s'=>∃o H',Inv X pins σ H' s'/\IsPart u o/\Q o H') X.xe s
def tNoPart:TO:=fun _ H Q=>Q none H
def Ax(t:TE):TO:=fun σ H Q=>t σ H fun x H1=>∃i,x=.int i/\Q (some i) H1
section
variable{X:Cx}{e:Expr}{te:TE}{lo hi:Option Expr}{tl th:TO}{pos p2:Pos}
theorem tU:PO X none tNoPart:=by
 intro pins s σ H Q I h
 rw[evalPart_none]
 exact wpAny_pure ⟨none,H,I,.none,h⟩
theorem l8(h:PE X e te):PO X (some e) (Ax te):=by
 intro pins s σ H Q I hw
 rw[evalPart_some]
 refine thn (h pins s σ H _ I hw) fun u s1 hZ=>?_
 obtain⟨x,H1,I1,r1,q1⟩:=hZ
 obtain⟨i,rfl,q⟩:=q1
 obtain⟨t,rfl⟩:=r1
 exact⟨some i,H1,I1,.int i t,q⟩
def EE(X:Cx)(r:V->Option Int->Option Int->Hp->VK->Prop):Prop :=
 ∀(pins:List (Addr × Obj)) (s:Shared) (σ:St) (H:Hp) (x:V) (v vl vu:Value) (lo hi:Option Int) (sl:Addr) (Q:VK),Inv X pins σ H s->RelV x v->s.heap.IsSliceOf sl vl vu .none->IsPart vl lo->IsPart vu hi->r x lo hi H Q ->
  ∃T id,typeLookup (.type T) "__getitem__"=pure (some (.builtin id))/\s.TypeIs v T/\wpAny (model X.prog X.w) X.A (getItem v (.ref sl)) (EP X pins σ Q) X.xe s
def FC(r:V->Option Int->Option Int->Hp->VK->Prop)(te:TE)(tl th:TO):TE:=fun σ H Q=>te σ H fun x H1=>tl σ H1 fun l H2=>th σ H2 fun u H3=>r x l u H3 Q
theorem qb{r:V->Option Int->Option Int->Hp->VK->Prop}(hr:EE X r)(he:PE X e te)(hl:PO X lo tl)(hu:PO X hi th):PE X (.Subscript e (.Slice lo hi none p2) pos) (FC r te tl th):=by
 intro pins s σ H Q I h
 refine Subscript_ (thn (he pins s σ H _ I h) fun v s1 hZ=>?_)
 obtain⟨x,H1,I1,r1,q1⟩:=hZ
 refine wpAny_Slice (thn (hl pins s1 σ H1 _ I1 q1) fun vl s2 ⟨l,H2,I2,pl,q2⟩=>thn (hu pins s2 σ H2 _ I2 q2) fun vu s3 hZ=>?_)
 obtain⟨u,H3,I3,pu,q3⟩:=hZ
 rw[evalPart_none]
 refine wpAny_pure ?_
 have I4:Inv X pins σ H3 { s3 with heap:=s3.heap.push { cls:=.type "slice",data:=.fields #[vl,vu,.none] } }:=I3.kept (t':=s3.toks) fun b ob q=>Heap.get?_push_of_some _ q
 obtain⟨T,id,hT,ht,hg⟩:=hr pins { s3 with heap:=s3.heap.push { cls:=.type "slice",data:=.fields #[vl,vu,.none] } } σ H3 x v vl vu l u s3.heap.objs.size Q I4 r1 (Heap.IsSliceOf.new ..) pl pu q3
 show wpAny (model X.prog X.w) X.A (subscriptTail e (.Slice lo hi none p2) v (.ref s3.heap.objs.size)) (EP X pins σ Q) X.xe { s3 with heap:=s3.heap.push { cls:=.type "slice",data:=.fields #[vl,vu,.none] } }
 exact tail_any (ops:=[.ref s3.heap.objs.size,v]) ht hT hg (by with_unfolding_all rfl)
def tV(xs:List V)(lo hi:Option Int):List V:=(xs.drop (HT.sIx xs.length 0 lo)).take (HT.sIx xs.length xs.length hi - HT.sIx xs.length 0 lo)
theorem jO(xs:List V)(lo hi:Option Int):(tV xs lo hi).length<=xs.length:=by
 unfold tV
 rw[aaY,aaZ]
 omega
def Ay(K:Waa):R2:=fun x y H Q=>∃a b xs ys,x=.ref a/\y=.ref b/\SqT K H a xs/\SqT K H b ys/\xs≠[]/\xs.length + ys.length<=sizeLine /\
 (ys=[]->Q (.ref a) H)/\(ys≠[]->∀p,H p=none->Q (.ref p) (upd H p (.tup (xs++ys))))
theorem Vals.nil_iff{xs:List V}{us:List Value}(r:Vals xs us):us=[] ↔ xs=[]:=by
 cases r with
 | nil=>simp
 | cons _ _=>simp
theorem tW:OpR X (binaryOp .Add) (Ay X.K):=by
 intro pins s σ H x y v u Q I rx ry h
 obtain⟨a,b,xs,ys,rfl,rfl,ha,hb,hx,hz,q1,q2⟩:=h
 cases rx
 cases ry
 obtain⟨its,r1,p1,_⟩:=I.tuple ha
 obtain⟨its2,r2,p2,_⟩:=I.tuple hb
 refine HT.cat_tup p1 p2 (fun z=>hx (r1.nil_iff.mp z)) (fun z=>⟨.ref a,H,I,rfl,q1 (r2.nil_iff.mp z)⟩) (fun z=>?_) (by rw[<- r1.length,<- r2.length];exact hz)
 refine⟨.ref s.heap.objs.size,_,I.laid (t':=s.toks) (o:=.tup (xs++ys)) (fun b ob q=>Heap.get?_push_of_some _ q) (aac _) ?_,rfl,q2 (fun w=>z (r2.nil_iff.mpr w)) _ (I.hok.fresh (aac _))⟩
 exact⟨by rw[aaA];exact hz,_,r1.append r2,IsTup.new _ _⟩
end
end
section
def ixN(n:Nat)(i:Int):Option Nat:=if 0<=i then (if i < n then some i.toNat else none) else if -(n:Int)<=i then some (i + n).toNat else none
def atI{α:Type}(xs:List α)(i:Int):Option α:=(ixN xs.length i).bind fun j=>xs[j]?
theorem ixN_seq{n:Nat}{i:Int}{j:Nat}(h:ixN n i=some j):seqIndex? i n=some j/\j < n/\-(n:Int)<=i/\i < n:=by
 unfold ixN at h
 by_cases h0:0<=i
 ·rw[if_pos h0]at h
  by_cases h1:i < n
  ·rw[if_pos h1]at h
   have e:i.toNat=j:=aaG h
   exact⟨by rw[seqIndex_of h0 h1,e],by omega,by omega,h1⟩
  ·rw[if_neg h1]at h;cases h
 ·rw[if_neg h0]at h
  by_cases h1:-(n:Int)<=i
  ·rw[if_pos h1]at h
   have e:(i + n).toNat=j:=aaG h
   exact⟨by rw[seqIndex_neg (by omega) h1,e],by omega,h1,by omega⟩
  ·rw[if_neg h1]at h;cases h
theorem atI_get{α:Type}{xs:List α}{i:Int}{v:α}(h:atI xs i=some v):∃j,seqIndex? i xs.length=some j/\xs[j]?=some v/\j < xs.length/\-(xs.length:Int)<=i/\i < xs.length:=by
 unfold atI at h
 cases e:ixN xs.length i with
 | none=>rw[e]at h;cases h
 | some j =>
  rw[e]at h
  obtain⟨h1,h2,h3,h4⟩:=ixN_seq e
  exact⟨j,h1,h,h2,h3,h4⟩
def PlainIx(b:Expr):Prop:=∀o i,subscripted b false o i=operate [o,i] (getItem o i)
def IxR(X:Cx)(r:R2):Prop :=
 ∀(value slice:Expr) (pins:List (Addr × Obj)) (s:Shared) (σ:St) (H:Hp) (x y:V) (v u:Value) (Q:VK),Inv X pins σ H s->RelV x v->RelV y u->r x y H Q ->
  subscripted slice false v u=operate [v,u] (getItem v u)->wpAny (model X.prog X.w) X.A (subscriptTail value slice v u) (EP X pins σ Q) X.xe s
def FD(X:Cx)(id:String)(r:V->List V->Hp->VK->Prop):Prop :=
 ∀(pins:List (Addr × Obj)) (s:Shared) (σ:St) (H:Hp) (x:V) (xs:List V) (v:Value) (us:List Value) (Q:VK),Inv X pins σ H s->RelV x v->Vals xs us->r x xs H Q ->
  wpAny (model X.prog X.w) X.A (call (.builtin id) (v::us)) (EP X pins σ Q) X.xe s
section
variable{X:Cx}{a b:Expr}{ta tb:TE}{pos:Pos}
theorem IxR.or{r r':R2}(h:IxR X r)(h':IxR X r'):IxR X (fun x y H Q=>r x y H Q\/r' x y H Q):=by
 intro value slice pins s σ H x y v u Q I rx ry q hs
 rcases q with q | q
 ·exact h value slice pins s σ H x y v u Q I rx ry q hs
 ·exact h' value slice pins s σ H x y v u Q I rx ry q hs
theorem wg{r:R2}(hr:IxR X r)(ha:PE X a ta)(hb:PE X b tb)(hs:PlainIx b):PE X (.Subscript a b pos) (An r ta tb):=by
 intro pins s σ H Q I h
 exact Subscript_ (xI ha hb I h fun v u s2 x y H2 I2 rx ry q=>hr a b pins s2 σ H2 x y v u Q I2 rx ry q (hs _ _))
def Az(K:Waa):R2:=fun x y H Q=>∃p xs i v,x=.ref p/\y=.int i/\SqL K H p xs/\atI xs i=some v/\Q v H
def AA(K:Waa):R2:=fun x y H Q=>∃p xs i v,x=.ref p/\y=.int i/\SqT K H p xs/\atI xs i=some v/\Q v H
def rIxS:R2:=fun x y H Q=>∃z i c,x=.str z/\y=.int i/\z.length<=sizeLine/\atI z.cps.toList i=some c/\Q (.str ⟨#[c]⟩) H
theorem ix_list:IxR X (Az X.K):=by
 intro value slice pins s σ H x y v u Q I rx ry h hs
 obtain⟨p,xs,i,z,rfl,rfl,hq,he,q⟩:=h
 cases rx
 obtain⟨t,rfl⟩:=ry
 obtain⟨its,r,pl,hz⟩:=I.list hq
 obtain⟨j,h1,h2,h3,h4,h5⟩:=atI_get he
 obtain⟨w,ew,rw'⟩:=r.get h2
 have hl:=r.length
 have hn:=line63
 have fin:EP X pins σ Q w s:=⟨z,H,I,rw',q⟩
 by_cases h0:0<=i
 ·have hj:i.toNat=j:=by
   rw[seqIndex_of h0 h5]at h1
   exact aaG h1
  exact item_listR pl.isList h0 (by omega) (by rw[hj];simpa using ew) fin hs
 ·have hj:(i + (its.toArray.size:Int)).toNat=j:=by
   rw[seqIndex_neg (by omega) h4]at h1
   rw[aat,<- hl]
   exact aaG h1
  exact subscriptTail_builtinR (x:=w) pl.isList.typeIs slot_list_getitem.lookup
   (wpAny_getItem_list_neg (Q:=fun r s'=>r=w/\EP X pins σ Q r s') pl.isList (by omega) (by rw[aat]<;>omega) (by omega) (by rw[hj];simpa using ew) ⟨rfl,fin⟩) hs
theorem ix_tup:IxR X (AA X.K):=by
 intro value slice pins s σ H x y v u Q I rx ry h hs
 obtain⟨p,xs,i,z,rfl,rfl,hq,he,q⟩:=h
 cases rx
 obtain⟨t,rfl⟩:=ry
 obtain⟨its,r,pl,hz⟩:=I.tuple hq
 obtain⟨j,h1,h2,h3,h4,h5⟩:=atI_get he
 obtain⟨w,ew,rw'⟩:=r.get h2
 have hl:=r.length
 have hn:=line63
 have fin:EP X pins σ Q w s:=⟨z,H,I,rw',q⟩
 exact subscriptTail_builtinR (x:=w) pl.typeIs slot_tuple_getitem.lookup
  (getItem_tuple (j:=j) (Q:=fun r s'=>r=w/\EP X pins σ Q r s') pl (by omega) (by omega) (by rw[aat,<- hl];exact h1) (by simpa using ew) ⟨rfl,fin⟩) hs
theorem xU:IxR X rIxS:=by
 intro value slice pins s σ H x y v u Q I rx ry h hs
 obtain⟨z,i,c,rfl,rfl,hz,he,q⟩:=h
 obtain⟨t,rfl⟩:=rx
 obtain⟨t',rfl⟩:=ry
 obtain⟨j,h1,h2,h3,h4,h5⟩:=atI_get he
 have hl:z.cps.toList.length=z.length:=by simp[Str.length]
 rw[hl]at h1 h4 h5
 have hn:=line63
 exact tail_any (typeIs_str s z t) slot_str_getitem.lookup (getItem_str (c:=c) (by
  have e1:decide (i < -(2 ^ 63:Int))=false:=Dab (by omega)
  have e2:decide (i ≥ 2 ^ 63)=false:=Dab (by omega)
  rw[e1,e2,Bool.or_false]) (by rw[h1];simpa using h2) ⟨.str ⟨#[c]⟩,H,I.tok _,⟨_,rfl⟩,q⟩) hs
def FE(K:Waa):R2:=fun x y H Q=>Az K x y H Q\/AA K x y H Q\/rIxS x y H Q
theorem qc:IxR X (FE X.K):=ix_list.or (ix_tup.or xU)
theorem kW(its:List Value)(n j:Nat)(u:Value):Obj.mapSeq (·.setIfInBounds j u) { cls:=.type "list",data:=.seq its.toArray n }={ cls:=.type "list",data:=.seq (its.set j u).toArray n }:=by
 simp[Obj.mapSeq]
theorem Inv.lst{pins:List (Addr × Obj)}{σ:St}{H:Hp}{s:Shared}{p:Addr}{xs:List V}(I:Inv X pins σ H s)(h:H p=some (.lst xs)) :
  ∃(its:List Value) (n:Nat),Vals xs its/\s.heap.get? p=some { cls:=.type "list",data:=.seq its.toArray n }/\xs.length<=sizeLine:=by
 obtain⟨z,its,n,r,e⟩:=I.hok p _ h
 exact⟨its,n,r,e,z⟩
theorem Inv.lstUpd{pins:List (Addr × Obj)}{σ:St}{H:Hp}{s:Shared}{p:Addr}{xs ys:List V}{its its':List Value}{n n':Nat}{f:Obj->Obj}(I:Inv X pins σ H s)(h:H p=some (.lst xs))
  (ho:s.heap.get? p=some { cls:=.type "list",data:=.seq its.toArray n }) (hf:f { cls:=.type "list",data:=.seq its.toArray n }={ cls:=.type "list",data:=.seq its'.toArray n' }) (r:Vals ys its') (hz:ys.length<=sizeLine) (t:Nat) :
  Inv X pins σ (upd H p (.lst ys)) { s with heap:=s.heap.update p f,toks:=t }:=by
 have e:(s.heap.update p f).get? p=some { cls:=.type "list",data:=.seq its'.toArray n' }:=by
  rw[Heap.get?_update_self f ho (by rw[hf]<;>rfl),hf]
 refine I.write (x:=p) (e:=p) (by rw[h];trivial) (.inl rfl) (fun b u hb q=>(Heap.get?_update_other _ _ (aaM hb)).trans q) ⟨_,e⟩ ?_
 exact⟨hz,its',n',r,e⟩
def rSetL:V->V->V->Hp->(Hp->Prop)->Prop:=fun o i v H Q=>∃p xs k j,o=.ref p/\i=.int k/\H p=some (.lst xs)/\ixN xs.length k=some j/\Q (upd H p (.lst (xs.set j v)))
theorem set_list:PSet X rSetL:=by
 intro pins s σ H o i v ov iv u Q I ro ri rv h
 obtain⟨p,xs,k,j,rfl,rfl,hp,hj,q⟩:=h
 cases ro
 obtain⟨t,rfl⟩:=ri
 obtain⟨its,n,r,ho,hz⟩:=I.lst hp
 obtain⟨h1,h2,h3,h4⟩:=ixN_seq hj
 have hl:=r.length
 have hn:=line63
 have I':Inv X pins σ (upd H p (.lst (xs.set j v))) { s with heap:=s.heap.update p (Obj.mapSeq (·.setIfInBounds j u)) } :=
  I.lstUpd hp ho (kW its n j u) (r.set rv j) (by rw[abW];exact hz) s.toks
 by_cases h0:0<=k
 ·have hk:k.toNat=j:=by
   rw[seqIndex_of h0 h4]at h1
   exact aaG h1
  exact PySem.W.ki_setAt ho h0 (by omega) (by rw[aat,<- hl];exact h4) (by rw[hk];exact⟨_,I',q⟩)
 ·have hk:(k + (its.toArray.size:Int)).toNat=j:=by
   rw[seqIndex_neg (by omega) h3]at h1
   rw[aat,<- hl]
   exact aaG h1
  exact PySem.W.ki_setBack ho (by omega) (by rw[aat,<- hl];exact h3) (by omega) (by rw[hk];exact⟨_,I',q⟩)
theorem i4(lo hi:Option Int)(n:Nat):(sliceBounds lo hi none n).1=((HT.sIx n 0 lo:Nat):Int)/\(sliceBounds lo hi none n).2.1=((HT.sIx n n hi:Nat):Int)/\(sliceBounds lo hi none n).2.2=1:=by
 refine⟨?_,?_,rfl⟩
 ·cases lo with
  | none=>simp[sliceBounds,HT.sIx]
  | some i =>
   simp only[sliceBounds,HT.sIx,Option.getD_none,show (1:Int) > 0 by decide,if_true]
   by_cases h:i < 0
   ·simp only[h,if_true]<;>omega
   ·simp only[h,if_false]<;>omega
 ·cases hi with
  | none=>simp[sliceBounds,HT.sIx]
  | some i =>
   simp only[sliceBounds,HT.sIx,Option.getD_none,show (1:Int) > 0 by decide,if_true]
   by_cases h:i < 0
   ·simp only[h,if_true]<;>omega
   ·simp only[h,if_false]<;>omega
theorem hU(its:List Value)(lo hi:Option Int):slicePick its.toArray lo hi none=((its.drop (HT.sIx its.length 0 lo)).take (HT.sIx its.length its.length hi - HT.sIx its.length 0 lo)).toArray:=by
 obtain⟨h1,h2,h3⟩:=i4 lo hi its.toArray.size
 unfold slicePick
 rw[h1,h2,h3]
 simp only[sliceRange_one,pick_run,aat]<;>rfl
def Dr(K:Waa):V->Option Int->Option Int->Hp->VK->Prop:=fun x lo hi H Q=>∃a xs,x=.ref a/\SqL K H a xs/\∀p,H p=none->Q (.ref p) (upd H p (.lst (tV xs lo hi)))
theorem tX:EE X (Dr X.K):=by
 intro pins s σ H x v vl vu lo hi sl Q I rx hs pl pu h
 obtain⟨a,xs,rfl,hx,q⟩:=h
 cases rx
 obtain⟨its,r,ht,hz⟩:=I.list hx
 have hlen:=r.length
 refine⟨"list",_,slot_list_getitem.lookup,ht.isList.typeIs,?_⟩
 refine wpAny_getItem_list_slice ht.isList hs pl pu .none (by simp) ?_ (by rw[aat]<;>omega)
 rw[hU,<- hlen]
 refine⟨.ref s.heap.objs.size,_,I.laid (t':=s.toks) (o:=.lst (tV xs lo hi)) (fun b ob q=>Heap.get?_push_of_some _ q) (aac _) ?_,rfl,q _ (I.hok.fresh (aac _))⟩
 exact⟨aaq (jO xs lo hi) hz,_,0,(r.drop (HT.sIx xs.length 0 lo)).take (HT.sIx xs.length xs.length hi - HT.sIx xs.length 0 lo),Heap.get?_push_size _ rfl⟩
def cf:V->Bool
 | .non=>true
 | .bl _=>true
 | .int _=>true
 | .str _=>true
 | _=>false
def eqV:V->V->Bool
 | .non,.non=>true
 | .bl a,.bl b=>a == b
 | .bl a,.int b=>(if a then 1 else 0) == b
 | .int a,.bl b=>a == (if b then 1 else 0)
 | .int a,.int b=>a == b
 | .str a,.str b=>a == b
 | _,_=>false
theorem xV{A:Around}{s:Shared}{y x:V}{u v:Value}(ry:RelV y u)(rx:RelV x v)(fy:cf y=true)(fx:cf x=true):SeqAt.EqAt A s u v (eqV y x):=by
 cases y with
 | non =>
  cases ry
  cases x with
  | non=>cases rx;exact SeqAt.EqAt.same _
  | bl b=>cases rx;exact SeqAt.EqAt.none_bool b
  | int b=>obtain⟨t,rfl⟩:=rx;exact SeqAt.EqAt.none_int b t
  | str b=>obtain⟨t,rfl⟩:=rx;exact SeqAt.EqAt.none_str b t
  | _=>exact absurd (show false=true from fx) aah
 | bl a =>
  cases ry
  cases x with
  | non=>cases rx;exact SeqAt.EqAt.bool_none a
  | bl b=>cases rx;exact SeqAt.EqAt.bool_bool a b
  | int b=>obtain⟨t,rfl⟩:=rx;exact SeqAt.EqAt.bool_int a b t
  | str b=>obtain⟨t,rfl⟩:=rx;exact SeqAt.EqAt.bool_str a b t
  | _=>exact absurd (show false=true from fx) aah
 | int a =>
  obtain⟨t',rfl⟩:=ry
  cases x with
  | non=>cases rx;exact SeqAt.EqAt.int_none a t'
  | bl b=>cases rx;exact SeqAt.EqAt.int_bool a t' b
  | int b=>obtain⟨t,rfl⟩:=rx;exact SeqAt.EqAt.int_int a t' b t
  | str b=>obtain⟨t,rfl⟩:=rx;exact SeqAt.EqAt.int_str a t' b t
  | _=>exact absurd (show false=true from fx) aah
 | str a =>
  obtain⟨t',rfl⟩:=ry
  cases x with
  | non=>cases rx;exact SeqAt.EqAt.str_none a t'
  | bl b=>cases rx;exact SeqAt.EqAt.str_bool a t' b
  | int b=>obtain⟨t,rfl⟩:=rx;exact SeqAt.EqAt.str_int a t' b t
  | str b=>obtain⟨t,rfl⟩:=rx;exact SeqAt.EqAt.str_str a t' b t
  | _=>exact absurd (show false=true from fx) aah
 | _=>exact absurd (show false=true from fy) aah
def kX(x:V)(u:Value):Bool:=match u with
 | .none=>eqV .non x
 | .bool b=>eqV (.bl b) x
 | .int i _=>eqV (.int i) x
 | .str z _=>eqV (.str z) x
 | _=>false
theorem qe{x y:V}{u:Value}(r:RelV y u)(f:cf y=true):kX x u=eqV y x:=by
 cases y with
 | non=>cases r;rfl
 | bl b=>cases r;rfl
 | int i=>obtain⟨t,rfl⟩:=r;rfl
 | str z=>obtain⟨t,rfl⟩:=r;rfl
 | _=>exact absurd (show false=true from f) aah
theorem dP{x:V}:∀{xs:List V} {us:List Value},Vals xs us->xs.all cf=true->us.any (kX x)=xs.any fun y=>eqV y x
 | _,_,.nil,_=>rfl
 | y::xs,u::us,.cons r t,f=>by
  rw[aaU,aam]at f
  rw[aa7,aa7,qe r f.1,dP t f.2]
theorem cN{A:Around}{s:Shared}{x:V}{v:Value}(rx:RelV x v)(fx:cf x=true):∀{xs:List V} {us:List Value},Vals xs us->xs.all cf=true->∀u∈us,SeqAt.EqAt A s u v (kX x u)
 | _,_,.nil,_=>fun u hu=>by cases hu
 | y::xs,u::us,.cons r t,f=>fun u' hu=>by
  rw[aaU,aam]at f
  rcases aab.mp hu with rfl | hu
  ·rw[qe r f.1];exact xV r rx f.1 fx
  ·exact cN rx fx t f.2 u' hu
def inV(x:V)(xs:List V):Bool:=xs.any fun y=>eqV y x
def Ds(K:Waa)(neg:Bool):R2:=fun x y H Q=>∃p xs,y=.ref p/\(SqL K H p xs\/SqT K H p xs)/\cf x=true/\xs.all cf=true/\Q (.bl (if neg then !inV x xs else inV x xs)) H
theorem n5:OpR X (compareOp .In) (Ds X.K false):=by
 intro pins s σ H x y v u Q I rx ry h
 obtain⟨p,xs,rfl,hq,fx,fs,q⟩:=h
 cases ry
 rcases hq with hq | hq
 ·obtain⟨its,r,pl,hz⟩:=I.list hq
  refine SeqAt.in_listAt (kX x) pl.isList (fun w hw=>cN rx fx r fs w (by simpa using hw)) ⟨.bl _,H,I,rfl,?_⟩
  rw[show its.toArray.any (kX x)=its.any (kX x) by simp,dP r fs]
  exact q
 ·obtain⟨its,r,pl,hz⟩:=I.tuple hq
  refine SeqAt.in_tupleAt (kX x) pl (fun w hw=>cN rx fx r fs w (by simpa using hw)) ⟨.bl _,H,I,rfl,?_⟩
  rw[show its.toArray.any (kX x)=its.any (kX x) by simp,dP r fs]
  exact q
theorem i5:OpR X (compareOp .NotIn) (Ds X.K true):=by
 intro pins s σ H x y v u Q I rx ry h
 obtain⟨p,xs,rfl,hq,fx,fs,q⟩:=h
 cases ry
 rcases hq with hq | hq
 ·obtain⟨its,r,pl,hz⟩:=I.list hq
  refine SeqAt.notIn_listAt (kX x) pl.isList (fun w hw=>cN rx fx r fs w (by simpa using hw)) ⟨.bl _,H,I,rfl,?_⟩
  rw[show its.toArray.any (kX x)=its.any (kX x) by simp,dP r fs]
  exact q
 ·obtain⟨its,r,pl,hz⟩:=I.tuple hq
  refine SeqAt.notIn_tupleAt (kX x) pl (fun w hw=>cN rx fx r fs w (by simpa using hw)) ⟨.bl _,H,I,rfl,?_⟩
  rw[show its.toArray.any (kX x)=its.any (kX x) by simp,dP r fs]
  exact q
theorem hV:bE X (.type "tuple") (fun xs H Q=>∃p ys,xs=[.ref p]/\((SqL X.K H p ys/\∀l,H l=none->Q (.ref l) (upd H l (.tup ys)))\/(SqT X.K H p ys/\Q (.ref p) H))):=by
 intro pins s σ H xs us Q I r h
 obtain⟨p,ys,rfl,h⟩:=h
 obtain⟨u,rfl,rx⟩:=vals1 r
 cases rx
 rcases h with ⟨hq,q⟩ | ⟨hq,q⟩
 ·obtain⟨its,r',pl,hz⟩:=I.list hq
  have hlen:=r'.length
  refine call_tuple_list pl.isList (fun h' kp=>?_) (by simp only[aat]<;>omega)
  have I1:Inv X pins σ H { s with heap:=h' }:=I.kept (t':=s.toks) kp
  have I2:Inv X pins σ (upd H h'.objs.size (.tup ys)) { s with heap:=h'.push { cls:=.type "tuple",data:=.seq its.toArray } } :=
   I1.laid (t':=s.toks) (fun b o e=>Heap.get?_push_of_some _ e) (aac _) (show ObjOk X.prog X.w _ _ _ (.tup ys) from ⟨hz,its,r',IsTup.new _ _⟩)
  exact⟨.ref h'.objs.size,_,I2,rfl,q _ (I1.hok.fresh (aac _))⟩
 ·obtain⟨its,r',pl,hz⟩:=I.tuple hq
  exact call_tuple_same pl ⟨.ref p,H,I,rfl,q⟩
def EF(K:Waa)(T:String)(x:V)(H:Hp):Prop:=match x with
 | .str _=>T="str"
 | .int _=>T="int"
 | .ref p=>(T="list"/\∃xs,SqL K H p xs)\/(T="tuple"/\∃o,K.lookup p=some o/\o.cls=.type "tuple"/\o.dict=none) \/
   (T="dict"/\((∃kvs,H p=some (.dK kvs))\/∃kvs,H p=some (.dT kvs)))\/(T="set"/\∃S n,H p=some (.set S n))
 | _=>False
theorem xW{pins:List (Addr × Obj)}{σ:St}{H:Hp}{s:Shared}{T:String}{x:V}{v:Value}(I:Inv X pins σ H s)(r:RelV x v)(ty:EF X.K T x H) :
  s.TypeIs v T/\∀a,v=.ref a->∃ob,s.heap.get? a=some ob/\ob.dict=none:=by
 cases x with
 | str z =>
  obtain⟨t,rfl⟩:=r
  cases (show T="str" from ty)
  exact⟨typeIs_str s z t,fun _ e=>nomatch e⟩
 | int i =>
  obtain⟨t,rfl⟩:=r
  cases (show T="int" from ty)
  exact⟨typeIs_int s i t,fun _ e=>nomatch e⟩
 | ref p =>
  cases r
  rcases ty with ⟨rfl,xs,hq⟩ | ⟨rfl,o,hk,hc,hd⟩ | ⟨rfl,hk⟩ | ⟨rfl,S,n,hk⟩
  ·obtain⟨its,_,pl,_⟩:=I.list hq
   refine⟨pl.isList.typeIs,fun a e=>?_⟩
   cases e
   obtain⟨o,n,e,c,hd,_⟩:=pl
   exact⟨o,e,hd⟩
  ·refine⟨⟨o,I.kIn p o hk,hc⟩,fun a e=>?_⟩
   cases e
   exact⟨o,I.kIn _ o hk,hd⟩
  ·have z:∃o,s.heap.get? p=some o/\o.ExactDict:=by
    rcases hk with ⟨kvs,hk⟩ | ⟨kvs,hk⟩
    ·obtain⟨_,_,_,_,o,_,_,e,ex,_⟩:=I.hok p _ hk
     exact⟨o,e,ex⟩
    ·obtain⟨_,_,_,_,o,_,_,e,ex,_⟩:=I.hok p _ hk
     exact⟨o,e,ex⟩
   obtain⟨o,e,ex⟩:=z
   refine⟨⟨o,e,ex.1⟩,fun a e2=>?_⟩
   cases e2
   exact⟨o,e,ex.2.1⟩
  ·obtain⟨o,_,_,_,e,ex,_⟩:=I.hok p _ hk
   refine⟨⟨o,e,ex.1⟩,fun a e2=>?_⟩
   cases e2
   exact⟨o,e,ex.2.1⟩
 | _=>exact False.elim ty
def FF(K:Waa)(T:String)(r:V->List V->Hp->VK->Prop)(to:TE)(t:TA):TE:=fun σ H Q=>to σ H fun x H1=>EF K T x H1/\t σ H1 fun xs H2=>r x xs H2 Q
variable{o e:Expr}{es:List Expr}{to:TE}{t:TA}{name:Str}{apos cpos:Pos}{T id:String}{r:V->List V->Hp->VK->Prop}
theorem wk (pa:PlainAttrs T) (slot:Slot T name id) (hty:typeOf (.builtin id)=pure (.type "method_descriptor")) (hm:FD X id r) (ho:PE X o to) (ha:PA X (e::es) t)
  (hbase:attributeBase o name X.env (eval o X.env)=eval o X.env:=by rfl)
  (hfew:((backTo cpos (starEach (e::es) X.env)).all (fun x=>!x.1) && (backToKw cpos (keywordEach [] X.env)).all (fun x=>x.1.isSome)
   && decide ((e::es).length + ([]:List Keyword).length + (if ([]:List Keyword).isEmpty then 0 else 1) < 30))=true:=by rfl)
  (hline:(apos.endLine == cpos.line)=true:=by rfl) (hs:starEach (e::es) X.env=(false,eval e X.env)::starEach es X.env:=by rfl) (hplain:(backTo cpos (starEach es X.env)).any (·.1)=false:=by rfl) :
  PE X (.Call (.Attribute o name apos) (e::es) [] cpos) (FF X.K T r to t):=by
 intro pins s σ H Q I h
 refine wpAny_Call_method_late hbase hfew hline rfl (thn (ho pins s σ H _ I h) fun v s1 hZ=>?_)
 obtain⟨x,H1,I1,r1,ty,q1⟩:=hZ
 obtain⟨h1,h2⟩:=xW I1 r1 ty
 refine⟨T,id,pa,slot,hty,h1,h2,?_⟩
 have hA:=ha cpos pins s1 σ H1 _ I1 q1
 rw[hs]at hA ⊢
 refine Calls.callWith_builtin (by show (false || (backTo cpos (starEach es X.env)).any (·.1))=false;rw[hplain]<;>rfl) (Calls.evalArgs_plain ?_)
 exact thn hA fun us s2 ⟨vs,H2,I2,r2,q2⟩=>hm pins s2 σ H2 x vs v us Q I2 r1 r2 q2
end
end
section
def EG(X:Cx)(id:String)(r:V->List V->Hp->VK->Prop):Prop :=
 ∀(pins:List (Addr × Obj)) (s:Shared) (σ:St) (H:Hp) (x:V) (xs:List V) (v:Value) (us:List Value) (Q:VK),Inv X pins σ H s->RelV x v->Vals xs us->r x xs H Q ->
  wpAny (model X.prog X.w) X.A (call (.builtin id) (v::us)) (EP X pins σ Q) X.xe s
theorem Vals.one{x:V}{us:List Value}(h:Vals [x] us):∃u,us=[u]/\RelV x u:=by
 cases h with | cons r t=>cases t;exact⟨_,rfl,r⟩
theorem Vals.two{x y:V}{us:List Value}(h:Vals [x,y] us):∃u v,us=[u,v]/\RelV x u/\RelV y v:=by
 cases h with | cons r t=>cases t with | cons q t=>cases t;exact⟨_,_,rfl,r,q⟩
theorem Vals.reverse{xs:List V}{us:List Value}(h:Vals xs us):Vals xs.reverse us.reverse:=by
 induction h with
 | nil=>exact .nil
 | cons r t ih=>rw[List.reverse_cons,List.reverse_cons];exact Vals.append ih (.cons r .nil)
section
variable{X:Cx}{pins:List (Addr × Obj)}{σ:St}{H:Hp}{s:Shared}{l b:Addr}{xs ys zs:List V}
theorem Inv.lset{its its':List Value}{n:Nat}{f:Array Value->Array Value}{t':Nat}(I:Inv X pins σ H s)(hH:H l=some (.lst xs))
  (e:s.heap.get? l=some { cls:=.type "list",data:=.seq its.toArray n }) (hf:f its.toArray=its'.toArray) (hv:Vals ys its') (hz:ys.length<=sizeLine) :
  Inv X pins σ (upd H l (.lst ys)) { s with heap:=s.heap.update l (Obj.mapSeq f),toks:=t' }:=by
 have q:=PySem.IsL.update e f
 rw[hf]at q
 refine I.write (x:=l) (e:=l) (by rw[hH];exact trivial) (.inl rfl) (fun b' u hb hu=>(Heap.get?_update_other s.heap (Obj.mapSeq f) (aaM hb)).trans hu) ⟨_,q⟩ ?_
 exact⟨hz,its',_,hv,q⟩
theorem Inv.lnew{its:List Value}{t':Nat}(I:Inv X pins σ H s)(hv:Vals ys its)(hz:ys.length<=sizeLine) :
  Inv X pins σ (upd H s.heap.objs.size (.lst ys)) { s with heap:=s.heap.push { cls:=.type "list",data:=.seq its.toArray },toks:=t' } :=
 I.laid (fun _ _ q=>Heap.get?_push_of_some _ q) (aac _) ⟨hz,its,0,hv,Heap.get?_push_size _ rfl⟩
theorem Inv.fresh(I:Inv X pins σ H s):H s.heap.objs.size=none:=I.hok.fresh (aac _)
theorem Inv.lstM(I:Inv X pins σ H s)(hH:H l=some (.lst xs)):xs.length<=sizeLine/\∃(its:List Value) (n:Nat),Vals xs its/\xs.length=its.length/\s.heap.get? l=some { cls:=.type "list",data:=.seq its.toArray n }:=by
 obtain⟨z,its,n,r,e⟩:=I.hok l _ hH
 exact⟨z,its,n,r,r.length,e⟩
end
section
variable{X:Cx}
def rAppend:V->List V->Hp->VK->Prop:=fun x vs H Q=>∃l xs y,x=.ref l/\vs=[y]/\H l=some (.lst xs)/\xs.length < sizeLine/\Q .non (upd H l (.lst (xs++[y])))
theorem ik:EG X "list.append" rAppend:=by
 intro pins s σ H x vs v us Q I rx rv h
 obtain⟨l,xs,y,rfl,rfl,hH,hz,q⟩:=h
 cases rx
 obtain⟨u,rfl,ru⟩:=rv.one
 obtain⟨z,its,n,r,hl,e⟩:=I.lstM hH
 refine call_meets F.slot_list_append ⟨_,e,rfl⟩ F.entry_list_append (F.args_list_append_2 _ _) (PySem.list_append l its.toArray n u (by rw[aat];omega)) ⟨e,?_⟩
 refine⟨.non,_,I.lset (its':=its++[u]) hH e (by simp) (r.append (.cons ru .nil)) ?_,rfl,q⟩
 rw[aaA,aa0]
 omega
end
section
variable{prog:Program}{w:World}{A:Around}{E:Value->Shared->Prop}{s:Shared}
set_option maxRecDepth 100000 in
end
end
end L2
namespace Att
open PySem PySem.W PySem.Calls PyProof.Rows
theorem fQ{P:Params}{h:Heap}:∀(ns:List Int) (vs:List Value),WellAll P h vs (ns.map WData.int)->IntsAre vs ns:=by
 intro ns
 induction ns with
 | nil =>
  intro vs w
  rw[aaQ]at w
  cases w
  exact .nil
 | cons n ns ih =>
  intro vs w
  rw[aaj]at w
  cases w with
  | cons a b =>
   cases a
   exact .cons _ _ (ih _ b)
theorem n6{l:OpenLaw}{n:Nat}(hn:l.most=some n){P:Params}{h:Heap}{args:List WData}{vals:List Value}
  (hpre:l.row.toRowW.claim.pre args=true) (hwl:WellAll P h vals args) :
  ∃a vs ns,vals=[Value.ref a]/\args=[WData.list (ns.map WData.int)]/\h.get? a=some { cls:=.type "list",data:=.seq vs.toArray }/\IntsAre vs ns/\ns.length<=n:=by
 have hsh:WShape.hasAll [] args [.list .int]=true:=(pre_splitW hpre).1
 have hc:l.pre.holds [] { args:=args }=true:=(pre_splitW hpre).2
 obtain⟨d,r,rfl,h1,h2⟩:=hasAllW_cons hsh
 obtain rfl:=hasAllW_nil h2
 obtain⟨xs,rfl,h3⟩:=hasW_list h1
 obtain⟨ns,rfl⟩:=items_int h3
 have hlen:ns.length<=n:=by
  unfold OpenLaw.pre at hc
  have h4:(WTm.not (.lt (.lit (.int (n:Int))) (.len (.arg 0)))).holds [] { args:=[.list (ns.map .int)] }=true:=by
   have h4:=(holds_andW hc).1
   rw[hn]at h4
   exact h4
  have h5:=condW_of h4 (w_not (w_lt w_lit (w_len_list (w_arg rfl))))
  rw[aaa]at h5
  refine Nat.le_of_not_lt fun q=>?_
  have q':(n:Int) < ((ns.length:Nat):Int):=by omega
  first
   | (rw[Dac q']at h5;exact absurd h5 (by decide))
   | (simp at h5;omega)
 cases hwl with
 | cons w1 w2 =>
  cases w2
  cases w1 with
  | list ho hall=>exact⟨_,_,ns,rfl,rfl,ho,fQ ns _ hall,hlen⟩
theorem n9(l:OpenLaw)(args:List WData):l.row.toRowW.claim.post args (.bool true) args=true :=
 postW_of (r:=l.row.toRowW) (X:=(true == true))
  (show WShape.has [] (.bool true) .bool=true by first | rfl | decide | simp[WShape.has,WShape.arms,WShape.armsAll])
  (show (WTm.eq .res (.lit (.bool true))).value [] { args:=args,res:=some (.bool true),after:=args }=some (.bool (true == true)) from w_eq_bool (w_res rfl) w_lit) rfl
theorem attach_call{l:OpenLaw}{n:Nat}{q:Program}{loose:List Str}{XP:(Str->Option Value)->Heap->Prop}{YP:World->Heap->Prop}{d:DefRec}
  (hn:l.most=some n) (hdf:d.params.defaults=[])
  (call:∀(w:World) (s₀ s₁:Shared) (mg mb:Str->Option Value) (fa:Addr) (o:Obj) (pm cd doc:Value) (a:Addr) (vs:List Value) (ns:List Int),
   Ground q loose [] XP w s₀ mg mb s₁.heap->YP w s₁.heap ->
   s₁.heap.get? fa=some o->o.data=.func (docDef d.name d.params d.body d.scope pm cd doc)->s₁.heap.CodeRec cd d.name->mg d.name=some (.ref fa) ->
   s₁.heap.get? a=some { cls:=.type "list",data:=.seq vs.toArray }->IntsAre vs ns->ns.length<=n->s₁.gens=#[] ->
   codeAny (model l.prog w) callerA (.call (.ref fa) ⟨[.ref a],[]⟩) (fun r s'=>r=.ok (.ret (.bool true))/\OldK s₁.heap s'.heap/\s'.os=s₁.os/\AllBare s'.gens) s₁) :
  WalkO q loose XP YP l.row.toRowW d [] (fun f vs=>PySem.call f vs):=by
 intro w s₀ s₁ mg mb G Y fa o pm cd doc dV kV ho hd hcd hD hmg hg args vals as hpre hlay hrd hwl hlo
 obtain rfl:dV=.none:=Dflts.none hD hdf
 obtain rfl:kV=.none:=Dflts.noKw hD
 obtain⟨a,vs,ns,rfl,rfl,hobj,hints,hlen⟩:=n6 hn hpre hwl
 refine enter_call (codeAny_mono (call w s₀ s₁ mg mb fa o pm cd doc a vs ns G Y ho (fd_plain hd) hcd hmg hobj hints hlen hg) fun r s' hq=>?_)
 obtain⟨rfl,h2,h3,h4⟩:=hq
 exact⟨.inl ⟨.bool true,.bool true,[],rfl,fun _=>rfl,.bool true,n9 l _,fun _=>⟨List.Pairwise.nil,fun _ hm=>(nomatch hm)⟩⟩,h2,h3,h4⟩
end Att
namespace L2
open PySem PySem.Spec PyProof.Rows
section
theorem vals_ints:∀{vs:List Value} {ns:List Int},IntsAre vs ns->Vals (ns.map V.int) vs
 | _,_,.nil=>.nil
 | _,_,.cons n t h=>.cons ⟨t,rfl⟩ (vals_ints h)
def xX(H:Hp):Prop:=∀b,H b=none\/∃o xs,H b=some (.frz o (.lst xs))
theorem qf{P:Program}{w:World}{K:Waa}{mg mb:Str->Option Value}{CX:CXT}{k:Nat}{fa a:Addr}{fd:FuncData}{x:Str}{sp:Sp}{s₁:Shared}{vs:List Value}{ns:List Int}
  (KX:K.In s₁.heap) (hns:s₁.heap.Ns mainGlobals mg) (hb:s₁.heap.Ns builtinsNs mb) (hbb:∀x:Str,x≠"__name__"->mb x=bootBuiltins x) (hlim:s₁.heap.NoLimit) (hg:s₁.gens=#[])
  (ha:s₁.heap.get? a=some { cls:=.type "list",data:=.seq vs.toArray }) (hi:IntsAre vs ns) (hl:ns.length<=sizeLine) (hr:Room k callerA)
  (F:∀base:Heap,K.In base->base.Ns mainGlobals mg->FnOk P w K mg base CX k fa fd [x] sp) (hbind:∀(s:Shared) (u:Value),BindsTo s fd ⟨[u],[]⟩ [(x,u)])
  (hsp:∀H:Hp,xX H->SqL K H a (ns.map V.int)->sp [.ref a] H (fun v _=>v=.bl true) fun _ _ _=>False)
  (hCX:∀H e s',CX [] H s₁ (fun _ _ _=>False) e s'->False) :
  codeAny (model P w) callerA (.call (.ref fa) ⟨[.ref a],[]⟩) (fun r s'=>r=.ok (.ret (.bool true))/\OldK s₁.heap s'.heap/\s'.os=s₁.os/\AllBare s'.gens) s₁:=by
 have rv:=vals_ints hi
 have lenV:=hi.length
 have core:∀H:Hp,xX H->SqL K H a (ns.map V.int)->HOk P w H s₁.heap->(∀b,H b≠none->b=a)->(H a≠none->K.lookup a=none) ->
   codeAny (model P w) callerA (.call (.ref fa) ⟨[.ref a],[]⟩) (fun r s'=>r=.ok (.ret (.bool true))/\OldK s₁.heap s'.heap/\s'.os=s₁.os/\AllBare s'.gens) s₁:=by
  intro H hO hS hok hA hK
  have base_of:∀{b:Addr} {o:Obj},s₁.heap.get? b=some o->H b=none->(iX s₁.heap H).get? b=some o:=fun e n=>hidT_get e n
  have noA:∀{b:Addr} {o:Obj} {es:Array DictEntry} {ep:Nat},s₁.heap.get? b=some o->o.data=.dict es ep->H b=none:=fun {b o es ep} e d=>by
   cases q:H b with
   | none=>rfl
   | some u =>
    have e':b=a:=hA b (by rw[q];simp)
    subst e'
    rw[ha]at e;cases e
    have d':Data.seq vs.toArray _=Data.dict es ep:=d
    cases d'
  have nsK:∀{b:Addr} {m:Str->Option Value},s₁.heap.Ns b m->(iX s₁.heap H).Ns b m:=fun {b m} ⟨o,es,ep,e,d,r⟩=>⟨o,es,ep,base_of e (noA e d),d,r⟩
  have hKb:K.In (iX s₁.heap H):=fun b o e=>base_of (KX b o e) (by
   cases q:H b with
   | none=>rfl
   | some u =>
    have e':b=a:=hA b (by rw[q];simp)
    subst e'
    rw[hK (by rw[q];simp)]at e;cases e)
  have hM:Mod K mg (iX s₁.heap H):=⟨hKb,nsK hns,⟨mb,nsK hb,hbb⟩,let ⟨mc,h1,h2⟩:=hlim;⟨mc,nsK h1,h2⟩⟩
  have e0:Env0 P w K mg (iX s₁.heap H) callerA [] s₁ H:=⟨rfl,hM,fun b o e=>tH e,Nat.le_of_eq (nR _ _),trivial,fun b hb=>absurd (show b∈([]:List Addr) from hb) (by simp),hok,.of_eq hg⟩
  refine codeAny_mono ((F _ hKb (nsK hns)).run callerA [] s₁ H ⟨[.ref a],[]⟩ [.ref a] [.ref a] _ _ hr e0 (hbind s₁ (.ref a)) (.cons rfl .nil) (hsp H hO hS)) fun r s' h=>?_
  cases r with
  | error e=>exact (hCX H e s' h).elim
  | ok fl =>
   cases fl with
   | next=>exact False.elim h
   | brk=>exact False.elim h
   | cont=>exact False.elim h
   | ret u =>
    obtain⟨v,H',os,bare,un,hok',r',q⟩:=h
    have q':v=.bl true:=q
    subst q'
    obtain rfl:u=Value.bool true:=r'
    refine⟨rfl,OldK.of_keep fun b o e=>?_,os,bare⟩
    cases q:H b with
    | none=>exact un.keep b o e q (by intro z;exact absurd (show b∈([]:List Addr) from z) (by simp)) (by simp)
    | some u =>
     rcases hO b with z | ⟨ob,xs,z⟩
     ·rw[q]at z;cases z
     ·have z2:=un.frzs b ob _ z
      obtain⟨e1,_⟩:=hok b _ z
      obtain⟨e2,_⟩:=hok' b _ z2
      rw[e]at e1;cases e1
      exact e2
 cases hk:K.lookup a with
 | some o =>
  have e:=KX a o hk
  rw[ha]at e
  cases e
  refine core (fun _=>none) (fun _=>.inl rfl) (.inr ⟨_,vs.toArray,_,hk,rfl,rfl,rfl,by rw[aat,lenV];exact hl,by simpa using rv⟩) (fun b u z=>by have z':(none:Option HO)=some u:=z;cases z') (fun b z=>absurd rfl z) fun z=>absurd rfl z
 | none =>
  refine core (fun b=>if b=a then some (.frz { cls:=.type "list",data:=.seq vs.toArray } (.lst (ns.map V.int))) else none) (fun b=>?_) (.inl (.inr ⟨{ cls:=.type "list",data:=.seq vs.toArray },if_pos rfl⟩)) (fun b u z=>?_) (fun b z=>?_) fun _=>hk
  ·by_cases hb:b=a
   ·exact .inr ⟨_,_,if_pos hb⟩
   ·exact .inl (if_neg hb)
  ·by_cases hb:b=a
   ·have z':=(if_pos hb).symm.trans z
    cases z'
    subst hb
    exact⟨ha,by rw[aaa];exact hl,vs,_,rv,ha⟩
   ·have z':=(if_neg hb).symm.trans z
    cases z'
  ·by_cases hb:b=a
   ·exact hb
   ·exact absurd (if_neg hb) z
end
section
theorem walk_of{l:PySem.W.OpenLaw}{n k:Nat}{q:Program}{loose:List Str}{XP:(Str->Option Value)->Heap->Prop}{YP:World->Heap->Prop}{d:DefRec}{K:Params->Waa}{CX:World->CXT}{sp:World->Sp}{x:Str}
  (hn:l.most=some n) (hn2:n<=sizeLine) (hdf:d.params.defaults=[]) (hr:Room k callerA)
  (hY:∀(w:World) (h:Heap),YP w h->(K w.params).In h)
  (F:∀(w:World) (mg:Str->Option Value) (fa:Addr) (h:Heap),(K w.params).In h->h.Ns mainGlobals mg->mg d.name=some (.ref fa) ->
   ∃fd:FuncData,(∀(s:Shared) (u:Value),BindsTo s fd ⟨[u],[]⟩ [(x,u)]) /\
    ∀base:Heap,(K w.params).In base->base.Ns mainGlobals mg->FnOk l.prog w (K w.params) mg base (CX w) k fa fd [x] (sp w))
  (hsp:∀(w:World) (H:Hp) (a:Addr) (ns:List Int),ns.length<=n->xX H->SqL (K w.params) H a (ns.map V.int)->sp w [.ref a] H (fun v _=>v=.bl true) fun _ _ _=>False)
  (hCX:∀(w:World) (H:Hp) (s:Shared) (e:Value) (s':Shared),CX w [] H s (fun _ _ _=>False) e s'->False) :
  PySem.W.WalkO q loose XP YP l.row.toRowW d [] (fun f vs=>PySem.call f vs):=by
 refine Att.attach_call hn hdf fun w s₀ s₁ mg mb fa o pm cd doc a vs ns G Y ho hd hcd hmg hobj hints hlen hg=>?_
 have KX:=hY w _ Y
 obtain⟨fd,hb,hF⟩:=F w mg fa _ KX G.T.g hmg
 exact qf KX G.T.g G.T.b G.T.builtins G.T.nolimit hg hobj hints (aaq hlen hn2) hr hF hb (fun H hO hS=>hsp w H a ns hlen hO hS) fun H e s'=>hCX w H s₁ e s'
end
section
def c9(s:Stmt):Arguments:=match s with
 | .FunctionDef _ a _ _ _ _ _ _ _ _=>a
 | _=>{ posonlyargs:=[],args:=[],vararg:=none,kwonlyargs:=[],kw_defaults:=[],kwarg:=none,defaults:=[] }
def bP(s:Stmt):List Stmt:=match s with
 | .FunctionDef _ _ b _ _ _ _ _ _ _=>b
 | _=>[]
def aJ(s:Stmt):Scope:=match s with
 | .FunctionDef _ _ _ _ _ _ sc _ _ _=>sc
 | _=>{ kind:=.function,names:=[],isGenerator:=false,isCoroutine:=false }
abbrev CX0:CXT:=fun _ _ _ _ _ _=>False
abbrev E0:XK:=fun _ _ _=>False
theorem AB{X:Cx}:Passes CX0 X E0:=fun _ _ _ _ _ _ _ h=>h.elim
structure Fun (K:Waa)(x qual:Str)(st:Stmt)(f:Addr)(fd:FuncData):Prop where
 ex:∃(oc:Value) (od:Option Addr) (kV doc pm:Value) (an:Option Addr) (cdv ct:Value) (osl:Array (Option Value)),
  fd=PySem.W.fnOf x qual (c9 st) (bP st) (aJ st) .none kV doc pm an cdv ct/\K.lookup f=some ⟨oc,od,.func fd,osl⟩/\PySem.W.codeIn K cdv qual=true
 kp:PySem.W.keepIn K (.ref f)=true
section
variable{P:Program}{w:World}{K:Waa}{mg:Str->Option Value}{base:Heap}
theorem Fun.ok{x qual:Str}{st:Stmt}{f:Addr}{fd:FuncData}{N ps:List Str}{k:Nat}{sp:Sp}(F:Fun K x qual st f fd)(S:FnScope N ps (aJ st))(len:∀vs H Q E,sp vs H Q E->vs.length=ps.length)
  (hbody:∀(cdv:Value) (A:Around) (outer:List Env) (s:Shared) (H:Hp) (vs:List V) (Q:VK) (E:XK),Room k (A.deeper (envOfC qual (aJ st) s.heap.objs.size f cdv))->sp vs H Q E ->
   ∃t,PSs (i3 CX0 P w K mg base N qual (aJ st) f cdv A outer s H E).nox (bP st) t/\t { nx:=fun _ H'=>Q .non H',rt:=Q } (start N vs) H):FnOk P w K mg base CX0 (k + 1) f fd ps sp:=by
 obtain⟨oc,od,kV,doc,pm,an,cdv,ct,osl,rfl,lk,hcd⟩:=F.ex
 refine Aw lk hcd S len fun A outer s H vs Q E hr hsp=>?_
 obtain⟨t,h,q⟩:=hbody cdv A outer s H vs Q E hr hsp
 exact⟨t,h.nox,q⟩
theorem i6{x qual:Str}{st:Stmt}{f:Addr}{oc:Value}{od an:Option Addr}{osl:Array (Option Value)}{kV doc pm cdv ct:Value}(l:K.lookup f=some ⟨oc,od,.func (PySem.W.fnOf x qual (c9 st) (bP st) (aJ st) .none kV doc pm an cdv ct),osl⟩)
  (c:PySem.W.codeIn K cdv qual=true) (k:PySem.W.keepIn K (.ref f)=true):Fun K x qual st f (PySem.W.fnOf x qual (c9 st) (bP st) (aJ st) .none kV doc pm an cdv ct):=⟨⟨oc,od,kV,doc,pm,an,cdv,ct,osl,rfl,l,c⟩,k⟩
end
def Same(H H':Hp):Prop:=∀b o,H b=some o->H' b=some o
theorem Same.seq{K:Waa}{H H':Hp}{a:Addr}{xs:List V}(e:Same H H')(h:SqL K H a xs):SqL K H' a xs:=by
 rcases h with (h | ⟨o,h⟩) | h
 ·exact .inl (.inl (e _ _ h))
 ·exact .inl (.inr ⟨o,e _ _ h⟩)
 ·exact .inr h
end
section
theorem kY{env:Env}:∀(names:List (Str × NameKind)) (acc:List (Str × Addr)),(∀x∈names,x.2=.free->∃c,env.cells.lookup x.1=some c) ->
  (∀x c,acc.lookup x=some c->env.cells.lookup x=some c) ->
  ∃cl:List (Str × Addr),forIn names acc (fun (x:Str × NameKind) (r:List (Str × Addr))=>match x with
    | (name,kind)=>(if kind == NameKind.free then do let c <- cellOf env name;pure (ForInStep.yield ((name,c)::r)) else pure (ForInStep.yield r):Sem (ForInStep (List (Str × Addr)))))=pure cl /\
   (∀x c,cl.lookup x=some c->env.cells.lookup x=some c)/\(∀x∈names,x.2=.free->∃c,cl.lookup x.1=some c)/\(∀x c,acc.lookup x=some c->∃c',cl.lookup x=some c'):=by
 intro names
 induction names with
 | nil=>intro acc _ h2;exact⟨acc,rfl,h2,fun _ h=>(nomatch h),fun x c h=>⟨c,h⟩⟩
 | cons p r ih =>
  intro acc h1 h2
  obtain⟨n,k⟩:=p
  rw[abX]
  have hr:∀x∈r,x.2=.free->∃c,env.cells.lookup x.1=some c:=fun x hx=>h1 x (aai _ hx)
  by_cases hk:k=.free
  ·subst hk
   obtain⟨c,hc⟩:=h1 (n,.free) aag rfl
   have hce:cellOf env n=pure c:=by unfold cellOf;rw[show env.cells.lookup n=some c from hc]
   have h2':∀x c',((n,c)::acc).lookup x=some c'->env.cells.lookup x=some c':=fun x c' h=>by
    rw[aa1]at h
    cases hx:x == n with
    | true=>rw[hx]at h;cases h;rw[eq_of_beq hx];exact hc
    | false=>rw[hx]at h;exact h2 x c' h
   obtain⟨cl,e,a,b,d⟩:=ih ((n,c)::acc) hr h2'
   refine⟨cl,?_,a,fun x hx hf=>?_,fun x c' h=>?_⟩
   ·show ((cellOf env n >>= fun c=>pure (ForInStep.yield ((n,c)::acc))) >>= _)=_
    rw[hce]
    exact e
   ·rcases aab.mp hx with rfl | hx
    ·exact d n c (by simp[aa1])
    ·exact b x hx hf
   ·cases hx:x == n with
    | true=>exact d x c (by rw[aa1,hx])
    | false=>exact d x c' (by rw[aa1,hx];exact h)
  ·have hb:(k == NameKind.free)=false:=by simpa using hk
   obtain⟨cl,e,a,b,d⟩:=ih acc hr h2
   refine⟨cl,?_,a,fun x hx hf=>?_,d⟩
   ·show ((if (k == NameKind.free)=true then _ else _) >>= _)=_
    rw[hb]
    exact e
   ·rcases aab.mp hx with rfl | hx
    ·exact absurd hf hk
    ·exact b x hx hf
theorem f9{scope:Scope}{env:Env}(h:∀x∈scope.names,x.2=.free->∃c,env.cells.lookup x.1=some c) :
  ∃cl:List (Str × Addr),closureFor scope env=pure cl/\(∀x c,cl.lookup x=some c->env.cells.lookup x=some c)/\(∀x∈scope.names,x.2=.free->∃c,cl.lookup x.1=some c):=by
 obtain⟨cl,e,a,b,_⟩:=kY (env:=env) scope.names [] h (fun _ _ h=>nomatch h)
 refine⟨cl,?_,a,b⟩
 have q:closureFor scope env=(forIn scope.names ([]:List (Str × Addr)) (fun (x:Str × NameKind) (r:List (Str × Addr))=>match x with
    | (name,kind)=>(if kind == NameKind.free then do let c <- cellOf env name;pure (ForInStep.yield ((name,c)::r)) else pure (ForInStep.yield r):Sem (ForInStep (List (Str × Addr))))) >>= fun r=>pure r):=rfl
 rw[q,e]
 rfl
def aY(X:Cx)(N:List Str)(scope:Scope)(cl:List (Str × Addr))(s:Shared)(H:Hp)(fp:List Addr)(pins:List (Addr × Obj)):Cx where
 prog:=X.prog
 w:=X.w
 K:=X.K
 mg:=X.mg
 base:=X.base
 A:=X.A
 N:=N
 s₀:=s
 H₀:=H
 env:=compEnvC scope cl s.heap.objs.size X.env
 outer:=X.stack
 stack:=X.stack
 ex:=fp
 fn:=fun _=>false
 calm:=X.calm
 pn:=X.pn++pins
 xe:=fun _ _=>False
structure CC where
 cl:List (Str × Addr)
 s:Shared
 H:Hp
 fp:List Addr
 pins:List (Addr × Obj)
abbrev cO(X:Cx)(N:List Str)(scope:Scope)(c:CC):Cx:=aY X N scope c.cl c.s c.H c.fp c.pins
def bz(nt:Nat)(fr:List Nat)(σ:St):St:=List.replicate nt none++fr.map fun j=>(σ[j]?).join
structure CompScope (N:List Str)(nt:Nat)(fr:List Nat)(ON:List Str)(sc osc:Scope):Prop where
 kind:sc.kind=.function
 nocell:∀x∈sc.names,x.2≠.cell
 names:∀x∈sc.names,x.2=.local->sc.names.lookup x.1=some .local
 len:N.length=nt + fr.length
 out:∀(i:Nat) (j:Nat),fr[i]?=some j->∃x,N[nt + i]?=some x/\ON[j]?=some x/\osc.names.lookup x=some .cell/\sc.names.lookup x=some .free
 cells:∀x∈sc.names,x.2=.free->osc.names.lookup x.1=some .cell
 looks:∀x∈sc.names,x.2=.free->sc.names.lookup x.1=some .free
theorem bQ{sc:Scope}{env:Env}:∀(names:List (Str × NameKind)) (x:Str) (k:NameKind),
  (names.map fun (n,k)=>if (k == NameKind.free && env.scope.kind == .function && env.kindOf n == some .cell) then (n,NameKind.cell) else (n,k)).lookup x=some k ->
  names.lookup x=some k\/(k=.cell/\names.lookup x=some .free)
 | [],_,_,h=>by simp at h
 | (n,k0)::r,x,k,h=>by
  have ih:=bQ (sc:=sc) (env:=env) r x k
  rw[aaj]at h
  have h':List.lookup x ((if (k0 == NameKind.free && env.scope.kind == .function && env.kindOf n == some .cell)=true then (n,NameKind.cell) else (n,k0))::(r.map fun (n,k)=>if (k == NameKind.free && env.scope.kind == .function && env.kindOf n == some .cell) then (n,NameKind.cell) else (n,k)))=some k:=h
  by_cases hc:(k0 == NameKind.free && env.scope.kind == .function && env.kindOf n == some .cell)=true
  ·rw[if_pos hc,aa1]at h'
   rw[aa1]
   cases hx:x == n with
   | true =>
    rw[hx]at h'
    cases h'
    rw[aam,aam]at hc
    have:k0=.free:=by simpa using hc.1.1
    subst this
    exact .inr ⟨rfl,rfl⟩
   | false=>rw[hx]at h';exact ih h'
  ·rw[if_neg hc,aa1]at h'
   rw[aa1]
   cases hx:x == n with
   | true=>rw[hx]at h';exact .inl h'
   | false=>rw[hx]at h';exact ih h'
theorem oa{prog:Program}{w:World}{A:Around}{R:Result->Shared->Prop}{s:Shared}{elt target iter:Expr}{ifs:List Expr}{scope:Scope}{pos:Pos}{it acc:Value}{env:Env}(I:Nat->Shared->Prop)
  (turn:∀n s,I n s->wpAny (model prog w) A (pyNext it) (fun r s₁=>match r with
   | none=>R (.ok .next) s₁
   | some v=>wpAny (model prog w) A (letOwnedTupleGo target it v) (fun _ s₂=>wpAny (model prog w) A (assign target env v) (fun _ s₂ =>
     wpAny (model prog w) A (forIn ifs true fun c r=>if r=true then do let ok <- isTrue c env (eval c env);pure (ForInStep.yield ok) else pure (ForInStep.yield r)) (fun ok s₃ =>
      if ok=true then wpAny (model prog w) A (eval elt env) (fun x s₄ =>
       wpAny (model prog w) A (call (.builtin "list.append") [acc,x]) (fun _ s₅=>∃m,m < n/\I m s₅) (fun _ _=>False) s₄) (fun _ _=>False) s₃
      else ∃m,m < n/\I m s₃) (fun _ _=>False) s₂) (fun _ _=>False) s₂) (fun _ _=>False) s₁) (fun _ _=>False) s)
  (n:Nat) (h:I n s) :
  codeAny (model prog w) A (.compLoop (.ListComp elt [⟨target,iter,ifs,0⟩] scope pos) 0 it acc env) R s:=by
 refine codeAny_loop rfl I (fun n s hI=>?_) n h
 show wpAny _ A ((compTurn (.ListComp elt [⟨target,iter,ifs,0⟩] scope pos) 0 it acc env).onRaise (fun x=>do noteFrame x env;theTreesLotGoes x)) _ _ s
 refine wpAny_noted ?_
 rw[compTurn_list]
 refine wpAny_bind (wpAny_standAt (wpAny_bind (wpAny_mono (turn n s hI) (fun r s₁ h₁=>?_) fun _ _ h'=>h'.elim)))
 cases r with
 | none=>exact wpAny_pure h₁
 | some v =>
  refine wpAny_bind (wpAny_mono h₁ (fun _ s₂ h₁=>?_) fun _ _ h'=>h'.elim)
  refine wpAny_bind (wpAny_mono h₁ (fun _ s₂ h₂=>wpAny_bind (wpAny_mono h₂ (fun ok s₃ h₃=>?_) fun _ _ h'=>h'.elim)) fun _ _ h'=>h'.elim)
  cases ok with
  | false=>exact wpAny_pure ⟨rfl,h₃⟩
  | true =>
   exact wpAny_bind (wpAny_bind (wpAny_mono h₃ (fun x s₄ h₄=>wpAny_bind (wpAny_mono h₄ (fun _ s₅ h₅=>wpAny_pure (wpAny_pure ⟨rfl,h₅⟩)) fun _ _ h'=>h'.elim)) fun _ _ h'=>h'.elim))
section
variable{X:Cx}{tg elt iter:Expr}{ifs:List Expr}{scope:Scope}{pos:Pos}{N:List Str}{nt:Nat}{fr:List Nat}
theorem gb{pins:List (Addr × Obj)}{σ:St}{H:Hp}{s s4:Shared}{fp:List Addr}{cl:List (Str × Addr)}(S:CompScope N nt fr X.N scope X.env.scope)(I:Inv X pins σ H s)
  (hf:∀b∈fp,FpOk X pins H b) (hlt:∀b∈fp,b < s.heap.objs.size)
  (hcl:∀x c,cl.lookup x=some c->X.env.cells.lookup x=some c) (hcf:∀x∈scope.names,x.2=.free->∃c,cl.lookup x.1=some c)
  (hk:∀b o,s.heap.get? b=some o->s4.heap.get? b=some o) (hn:∃m,s4.heap.Ns s.heap.objs.size m) (ho:s4.os=s.os) (hg:s4.gens=s.gens) :
  Inv (aY X N scope cl s H fp pins) [] (bz nt fr σ) H s4:=by
 have hC:H s.heap.objs.size=none:=I.hok.fresh (aac _)
 have neC:∀b o,s.heap.get? b=some o->b≠s.heap.objs.size:=fun b o e=>aao (Heap.lt_size e)
 have kd:(aY X N scope cl s H fp pins).env.scope.kind=.function:=S.kind
 have lk:∀x,scope.names.lookup x=some .free->∃c,cl.lookup x=some c:=fun x h=>hcf (x,.free) (aa6 h) rfl
 refine⟨⟨I.ok.mod,kd,I.ok.glob,I.ok.blt,aac _,fun x y c h1 h2=>I.ok.inj x y c (hcl x c h1) (hcl y c h2),fun x hx=>?_,fun _ _ h _=>absurd (show false=true from h) aah,I.ok.hd,I.ok.frames,.inl rfl,fun b hb=>⟨aao (hlt b hb),fun x c e=>(hf b hb).2.2.2.2.1 x c (hcl x c e)⟩,
  I.bs,aaq I.ok.bsz I.sz,fun b o e hb=>?_,fun b hb hs=>?_,I.stack,I.stkFree⟩,ho,by rw[hg];exact I.bare,Un.kept hk,?_,fun x c e=>?_,hC,fun x c e=>I.freeC x c (hcl x c e),fun p hp=>?_,I.hok.kept hk,?_⟩
 ·have hx':(relabel scope X.env).names.lookup x=some .cell\/(relabel scope X.env).names.lookup x=some .free:=hx
  rcases hx' with h | h
  ·rcases bQ (sc:=scope) scope.names x _ h with q | ⟨_,q⟩
   ·exact absurd rfl (S.nocell _ (aa6 q))
   ·exact lk x q
  ·rcases bQ (sc:=scope) scope.names x _ h with q | ⟨q,_⟩
   ·exact lk x q
   ·cases q
 ·rcases (hf b hb).2.2.2.1 with z | z
  ·exact I.ok.noex b o e z
  ·exact absurd (aax (Heap.lt_size e) (aaq I.ok.bsz z)) (aaW _)
 ·rcases aab.mp (I.stkSub b hs) with z | z
  ·exact (hf b hb).2.1 z
  ·exact (hf b hb).2.2.1 z
 ·obtain⟨m,hm⟩:=hn
  refine⟨m,hm,fun i x v h1 h2 h3=>?_⟩
  obtain⟨m0,hn0,hl0⟩:=I.loc
  have hi:nt<=i:=by
   refine Nat.le_of_not_lt fun hlt=>?_
   unfold bz at h2
   rw[abV (by simpa using hlt),acj]at h2
   rw[if_pos hlt]at h2
   cases h2
  obtain⟨d,rfl⟩:∃d,i=nt + d:=⟨i - nt,by omega⟩
  unfold bz at h2
  rw[abA (by simp),abB,acn,aav]at h2
  cases ej:fr[d]? with
  | none=>rw[ej]at h2;cases h2
  | some j =>
   rw[ej]at h2
   have h2':(σ[j]?).join=some v:=aaG h2
   have hσ:σ[j]?=some (some v):=by
    cases e:σ[j]? with
    | none=>rw[e]at h2';cases h2'
    | some q=>rw[e]at h2';exact congrArg some h2'
   obtain⟨y,e1,e2,e3,e4⟩:=S.out d j ej
   have e1':N[nt + d]?=some x:=h1
   rw[e1]at e1';cases e1'
   obtain⟨u,ru,l⟩:=hl0 j x v e2 hσ (.inr (.inl e3))
   refine⟨u,ru,?_⟩
   rcases l with ⟨q,_⟩ | ⟨_,c,ec,z⟩
   ·have q':X.env.scope.names.lookup x=some .local:=q
    rw[e3]at q';cases q'
   ·obtain⟨c',hc'⟩:=lk x e4
    have:c'=c:=by have:=hcl x c' hc';rw[ec]at this;exact (aaG this).symm
    subst this
    obtain⟨o,ho',hd⟩:=z
    refine .inr ⟨?_,c',hc',⟨o,hk _ _ ho',hd⟩⟩
    rcases h3 with q | q | q
    ·have q':(relabel scope X.env).names.lookup x=some .local:=q
     rcases bQ (sc:=scope) scope.names x _ q' with z | ⟨z,_⟩
     ·rw[e4]at z;cases z
     ·cases z
    ·exact .inl q
    ·exact .inr q
 ·obtain⟨v,o,ho',hd⟩:=I.cell x c (hcl x c e)
  exact⟨v,o,hk _ _ ho',hd⟩
 ·have hp':p∈X.pn++pins:=by
   rcases aal.mp hp with z | z
   ·exact z
   ·exact absurd z (by simp)
  obtain⟨e,n,ne,nf,d⟩:=I.pin p hp'
  refine⟨hk _ _ e,n,neC _ _ e,fun z=>?_,d⟩
  rcases aab.mp (I.stkSub p.1 z) with q | q
  ·exact ne q
  ·exact nf q
 ·show (bz nt fr σ).length=N.length
  unfold bz
  rw[aaA,abB,aaa,S.len]
theorem qg{pins pins':List (Addr × Obj)}{σ σ':St}{H H1:Hp}{s s3 s5:Shared}{D:Addr}{h':Heap}{fp:List Addr}{cl:List (Str × Addr)}(I:Inv X pins σ H s)(hf:∀b∈fp,FpOk X pins H b)
  (hD:H D=none) (hDs:s.heap.objs.size<=D) (hDC:D < s3.heap.objs.size) (hk:∀b o,s.heap.get? b=some o->s3.heap.get? b=some o) (hos:s3.os=s.os)
  (J:Inv (aY X N scope cl s3 (upd H D (.lst [])) fp pins) pins' σ' H1 s5) (hs:Heap.SameBut s3.heap.objs.size s5.heap h') :
  Inv X pins σ H1 { s5 with heap:=h' }:=by
 have hsz:s.heap.objs.size<=s3.heap.objs.size:=aa4 (abY hDs hDC)
 have up3:∀b,b < s.heap.objs.size->b≠D/\b≠s3.heap.objs.size:=fun b hb=>⟨aao (aax hb hDs),aao (aax hb hsz)⟩
 have H3:∀b,b≠D->(upd H D (.lst [])) b=H b:=fun b hb=>upd_ne hb
 refine I.call' (ch:=fp) (s':={ s5 with heap:=h' }) (J.os.trans hos) ⟨fun b o e n hb hx=>?_,fun b o e n hb hx=>?_,fun b o e n hx=>?_,fun b o e hx=>?_,fun b xs e=>?_,fun b o u e=>?_,fun b ps e=>?_⟩ ?_ J.bare fun b hb=>?_
 ·obtain⟨n1,n2⟩:=up3 b (Heap.lt_size e)
  exact (hs.2 b n2).trans (J.base.keep b o (hk b o e) ((H3 b n1).trans n) hb hx)
 ·obtain⟨n1,n2⟩:=up3 b (Heap.lt_size e)
  obtain⟨sl,q⟩:=J.base.slot b o (hk b o e) ((H3 b n1).trans n) hb hx
  exact⟨sl,(hs.2 b n2).trans q⟩
 ·obtain⟨n1,n2⟩:=up3 b (Heap.lt_size e)
  exact J.base.free b o (hk b o e) ((H3 b n1).trans n) hx
 ·obtain⟨n1,n2⟩:=up3 b (Heap.lt_size e)
  obtain⟨o',q⟩:=J.base.there b o (hk b o e) hx
  exact⟨o',(hs.2 b n2).trans q⟩
 ·exact J.base.tups b xs ((H3 b (ak e hD)).trans e)
 ·exact J.base.frzs b o u ((H3 b (ak e hD)).trans e)
 ·exact J.base.tbls b ps ((H3 b (ak e hD)).trans e)
 ·intro b u e
  refine (J.hok b u e).stay (fun c v hc q=>(hs.2 c ?_).trans q) (fun _ q=>q) fun _ _ q=>q
  have hfree:H1 s3.heap.objs.size=none:=J.free
  rintro rfl
  rcases hc with z | z
  ·rw[z]at hfree;rw[hfree]at e;cases e
  ·rw[hfree]at z;cases z
 ·obtain⟨f0,f1,f2,f3,f4,f5⟩:=hf b hb
  exact⟨f3,f1,f4,f5⟩
abbrev TC:=Addr->St->Hp->(Hp->Prop)->Prop
def l9(te:TE):TC:=fun D σ H Q=>te σ H fun y H1=>∃ys,H1 D=some (.lst ys)/\ys.length < sizeLine/\Q (upd H1 D (.lst (ys++[y])))
def AC(tt:TT)(te:TE):TC:=fun D σ H Q=>tt σ H fun b H1=>if b=true then l9 te D σ H1 Q else Q H1
def jP(wi:TI)(nt:Nat)(fr:List Nat)(g:CC->TG)(tc:CC->TC):TE:=fun σ H Q=>wi σ H fun J H1=>∀(c:CC) D,H1 D=none->∃W:Nat->Nat->St->Hp->Prop,(∃m,W 0 m (bz nt fr σ) (upd H1 D (.lst []))) /\
 ∀i m σ' H',W i m σ' H'->(J.stop i H'/\Q (.ref D) H')\/(J.go i H'/\∀x H2,J.yld i H' x H2->g c x σ' H2 fun σ3 H3=>tc c D σ3 H3 fun H4=>∃m',m' < m/\W (i + 1) m' σ3 H4)
def jQ(Y:Cx)(D:Addr)(ifs:List Expr)(elt:Expr)(tc:TC):Prop :=
 ∀(pins:List (Addr × Obj)) (s:Shared) (σ:St) (H:Hp) (Q:Hp->Prop),Inv Y pins σ H s->tc D σ H Q ->
  wpAny (model Y.prog Y.w) Y.A (forIn ifs true fun c r=>if r=true then do let ok <- isTrue c Y.env (eval c Y.env);pure (ForInStep.yield ok) else pure (ForInStep.yield r)) (fun ok s₃ =>
   if ok=true then wpAny (model Y.prog Y.w) Y.A (eval elt Y.env) (fun x s₄ =>
    wpAny (model Y.prog Y.w) Y.A (call (.builtin "list.append") [.ref D,x]) (fun _ s₅=>∃H',Inv Y pins σ H' s₅/\Q H') Y.xe s₄) Y.xe s₃
   else ∃H',Inv Y pins σ H' s₃/\Q H') Y.xe s
theorem mf{Y:Cx}{D:Addr}{te:TE}(he:PE Y elt te){pins:List (Addr × Obj)}{s:Shared}{σ:St}{H:Hp}{Q:Hp->Prop}(I:Inv Y pins σ H s)(h:l9 te D σ H Q) :
  wpAny (model Y.prog Y.w) Y.A (eval elt Y.env) (fun x s₄ =>
    wpAny (model Y.prog Y.w) Y.A (call (.builtin "list.append") [.ref D,x]) (fun _ s₅=>∃H',Inv Y pins σ H' s₅/\Q H') Y.xe s₄) Y.xe s:=by
 refine thn (he pins s σ H _ I h) fun u s1 hZ=>?_
 obtain⟨y,H1,I1,r1,ys,hD,hz,q⟩:=hZ
 refine thn (ik pins s1 σ H1 (.ref D) [y] (.ref D) [u] (fun v H'=>v=.non/\Q H') I1 rfl (.cons r1 .nil) ⟨D,ys,y,rfl,rfl,hD,hz,rfl,q⟩) fun v s2 ⟨z,H2,I2,_,_,q2⟩=>⟨H2,I2,q2⟩
theorem oh{Y:Cx}{D:Addr}{te:TE}(he:PE Y elt te):jQ Y D [] elt (l9 te):=by
 intro pins s σ H Q I h
 refine wpAny_tests_nil ?_
 rw[if_pos rfl]
 exact mf he I h
theorem qh{Y:Cx}{D:Addr}{c:Expr}{tt:TT}{te:TE}(hc:PT Y c tt)(he:PE Y elt te):jQ Y D [c] elt (AC tt te):=by
 intro pins s σ H Q I h
 refine wpAny_tests_one (thn (hc pins s σ H _ I h) fun b s1 hZ=>?_)
 obtain⟨H1,I1,q1⟩:=hZ
 cases b with
 | true =>
  rw[if_pos rfl]at q1 ⊢
  exact mf he I1 q1
 | false =>
  rw[if_neg aah]at q1 ⊢
  exact⟨H1,I1,q1⟩
theorem ip{wi:TI}{g:CC->TG}{tc:CC->TC}{use:Option (Value->Sem Unit)}{Q0:Value->Shared->Prop}(hc:X.calm=true)(S:CompScope N nt fr X.N scope X.env.scope)(hi:PI X tg iter wi)
  (hg:∀c:CC,PG (cO X N scope c) tg (g c)) (ha:∀(c:CC) D,jQ (cO X N scope c) D ifs elt (tc c))
  {pins:List (Addr × Obj)} {s:Shared} {σ:St} {H:Hp} {Q:VK} (I:Inv X pins σ H s) (h:jP wi nt fr g tc σ H Q) (hfr:∀x∈scope.names,x.2=.free->X.env.kindOf x.1=some .cell)
  (fin:∀(D C:Addr) (s5:Shared) (H1:Hp),FpOk X pins H1 C->s5.heap.get? C≠none->C≠X.env.locals->(∃m,s5.heap.Ns C m)->(∀h',Heap.SameBut C s5.heap h'->Inv X pins σ H1 { s5 with heap:=h' })->Q (.ref D) H1 ->
   compPost (model X.prog X.w) X.A X.xe use Q0 (.ref D) C (.ok .next) s5)
  (hs:∀x,foldedSetIterable iter X.env x=pure x:=by intro _;rfl) :
  wpAny (model X.prog X.w) X.A (comprehension (.ListComp elt [⟨tg,iter,ifs,0⟩] scope pos) scope X.env (firstIterPos [⟨tg,iter,ifs,0⟩] pos) (newList []) false (eval iter X.env) use) Q0 X.xe s:=by
 have hcells:∀x∈scope.names,x.2=.free->∃c,X.env.cells.lookup x.1=some c:=fun x hx hf=>I.ok.has x.1 (.inl (hfr x hx hf))
 obtain⟨cl,hcl,h1,h2⟩:=f9 hcells
 refine wpAny_comprehension_free (use:=use) rfl hs hcl S.kind S.names (thn (hi pins s σ H _ I h) fun xv s1 hx=>thn hx fun itv s2 hpe=>?_)
 obtain⟨it,fp,tn,J,H2,rfl,I2,T,st2,f2,hW⟩:=hpe
 have hlt:∀b∈fp,b < s2.heap.objs.size:=fun b hb=>let ⟨o,e,_⟩:=T.obj 0 _ st2 b hb;Heap.lt_size e
 refine wpAny_newObj_type (wpAny_newFunctionEnv S.nocell (by intro y hy;simp at hy) (fun h₁ hns₁ hsb₁=>?_) S.kind) (by show 0<=sizeLine;exact aaE _)
 have hD:H2 s2.heap.objs.size=none:=I2.hok.fresh (aac _)
 have I3:Inv X pins σ (upd H2 s2.heap.objs.size (.lst [])) { s2 with heap:=s2.heap.push { cls:=.type "list",dict:=none,data:=.seq ([]:List Value).toArray } }:=I2.lnew (t':=s2.toks) (ys:=[]) .nil (aaE _)
 generalize hs3:({ s2 with heap:=s2.heap.push { cls:=.type "list",dict:=none,data:=.seq ([]:List Value).toArray } }:Shared)=s3 at hns₁ hsb₁ I3 ⊢
 obtain⟨W,⟨m0,w0⟩,turn⟩:=hW ⟨cl,s3,upd H2 s2.heap.objs.size (.lst []),fp,pins⟩ _ hD
 have k23:∀b o,s2.heap.get? b=some o->s3.heap.get? b=some o:=fun b o e=>by rw[<- hs3];exact Heap.get?_push_of_some _ e
 have z3:s3.heap.objs.size=s2.heap.objs.size + 1:=by rw[<- hs3];exact Heap.size_push ..
 have os3:s3.os=s2.os:=by rw[<- hs3]
 have f3:∀b∈fp,FpOk X pins (upd H2 s2.heap.objs.size (.lst [])) b:=fun b hb=>⟨by rw[upd_ne (aao (hlt b hb))];exact (f2 b hb).1,(f2 b hb).2⟩
 have k34:∀b o,s3.heap.get? b=some o->h₁.get? b=some o:=fun b o e=>hsb₁.extBut b o (aao (Heap.lt_size e)) (Heap.get?_push_of_some _ e)
 generalize hs4:({ s3 with heap:=h₁,toks:=s3.toks + ([]:List (Str × Value)).length }:Shared)=s4
 have e4h:s4.heap=h₁:=by rw[<- hs4]
 have I4:Inv (aY X N scope cl s3 (upd H2 s2.heap.objs.size (.lst [])) fp pins) [] (bz nt fr σ) (upd H2 s2.heap.objs.size (.lst [])) s4 :=
  gb S I3 f3 (fun b hb=>by rw[z3];exact abf (hlt b hb)) h1 h2 (fun b o e=>by rw[e4h];exact k34 b o e) ⟨_,by rw[e4h];exact hns₁⟩ (by rw[<- hs4]) (by rw[<- hs4])
 have st4:tn 0 s4.heap:=T.keep 0 _ _ st2 fun b hb o e=>by rw[e4h];exact k34 b o (k23 b o e)
 have loop:codeAny (model X.prog X.w) X.A (.compLoop (.ListComp elt [⟨tg,iter,ifs,0⟩] scope pos) 0 (.ref it) (.ref s2.heap.objs.size) (compEnvC scope cl s3.heap.objs.size X.env))
   (compPost (model X.prog X.w) X.A X.xe use Q0 (.ref s2.heap.objs.size) s3.heap.objs.size) s4:=by
  have stat:∀{H':Hp},(∀b∈fp,H' b=none)->∀b∈fp,FpOk (aY X N scope cl s3 (upd H2 s2.heap.objs.size (.lst [])) fp pins) [] H' b:=fun {H'} hn b hb =>
   ⟨hn b hb,aao (show b < s3.heap.objs.size by rw[z3];exact abf (hlt b hb)),fun z=>I4.ok.exfs b hb z,.inl hb,fun x c e=>(f2 b hb).2.2.2.2.1 x c (h1 x c e),fun p hp=>(f2 b hb).2.2.2.2.2 p (by
    rcases aal.mp hp with z | z
    ·exact z
    ·exact absurd z (by simp))⟩
  refine oa (env:=compEnvC scope cl s3.heap.objs.size X.env) (fun n s'=>∃i σ' H',Inv (aY X N scope cl s3 (upd H2 s2.heap.objs.size (.lst [])) fp pins) [] σ' H' s'/\tn i s'.heap/\(∀b∈fp,H' b=none)/\W i n σ' H') ?_ m0
   ⟨0,_,_,I4,st4,fun b hb=>(f3 b hb).1,w0⟩
  rintro n s5 ⟨i,σ5,H5,I5,st5,fr5,w5⟩
  rcases turn i n σ5 H5 w5 with ⟨stop,qn⟩ | ⟨go,step⟩
  ·refine thn (T.done (aY X N scope cl s3 (upd H2 s2.heap.objs.size (.lst [])) fp pins) rfl rfl rfl hc i [] s5 σ5 H5 (fun _ _=>False) I5 (stat fr5) st5 stop) fun r s6 hZ=>?_
   obtain⟨hr,I6⟩:=hZ
   subst hr
   obtain⟨m,hm,_⟩:=id I6.loc
   refine fin _ _ s6 H5 (I2.fpOk (by rw[z3];exact abm _) I6.free) ?_ ?_ ⟨m,hm⟩ (fun h' hs'=>qg I2 f2 hD (aac _) (by rw[z3];exact abn _) k23 os3 I6 hs') qn
   ·obtain⟨o,_,_,ho,_⟩:=hm
    intro z
    have ho':s6.heap.get? s3.heap.objs.size=some o:=ho
    rw[z]at ho';cases ho'
   ·exact aaX (abC I2.lt (by rw[z3];exact abn _))
  ·refine thn (T.item (aY X N scope cl s3 (upd H2 s2.heap.objs.size (.lst [])) fp pins) rfl rfl rfl hc i [] s5 σ5 H5 (fun _ _=>False) I5 (stat fr5) st5 go) fun r s6 hZ=>?_
   obtain⟨u,hr,h6⟩:=hZ
   subst hr
   refine thn h6 fun _ s7 hZ=>?_
   obtain⟨x,H7,I7,r7,y7,st7,fr7⟩:=hZ
   have I7':=I7.pinned (stat fr7) (T.obj _ _ st7)
   refine thn (hg ⟨cl,s3,upd H2 s2.heap.objs.size (.lst []),fp,pins⟩ _ s7 σ5 H7 x u _ I7' r7 (step x H7 y7)) fun _ s8 hZ=>?_
   obtain⟨σ8,H8,I8,q8⟩:=hZ
   refine thn (ha ⟨cl,s3,upd H2 s2.heap.objs.size (.lst []),fp,pins⟩ _ _ s8 σ8 H8 _ I8 q8) fun ok s9 h9=>?_
   have again:∀{s7':Shared},(∃H',Inv (aY X N scope cl s3 (upd H2 s2.heap.objs.size (.lst [])) fp pins) ([]++pinsAt fp s7.heap) σ8 H' s7'/\∃m',m' < n/\W (i + 1) m' σ8 H') ->
     ∃m,m < n/\∃i σ' H',Inv (aY X N scope cl s3 (upd H2 s2.heap.objs.size (.lst [])) fp pins) [] σ' H' s7'/\tn i s7'.heap/\(∀b∈fp,H' b=none)/\W i m σ' H':=fun {s7'} ⟨H',I',m',hm,w'⟩=>by
    refine⟨m',hm,i + 1,σ8,H',I'.unpinned,T.keep _ _ _ st7 fun b hb o e=>(I'.pin (b,o) (aad _ (aad _ (bH hb e)))).1,fun b hb=>?_,w'⟩
    obtain⟨o,e,d⟩:=T.obj _ _ st7 b hb
    exact (I'.pin (b,o) (aad _ (aad _ (bH hb e)))).2.1
   cases ok with
   | true =>
    rw[if_pos rfl]at h9 ⊢
    exact thn h9 fun y s10 h10=>thn h10 fun _ s11 h11=>again h11
   | false =>
    rw[if_neg aah]at h9 ⊢
    exact again h9
 exact codeAny_compStart_list loop (T.self X.A 0 s4 _ _ st4 loop)
theorem tY{wi:TI}{g:CC->TG}{tc:CC->TC}(hc:X.calm=true)(S:CompScope N nt fr X.N scope X.env.scope)(hi:PI X tg iter wi)
  (hg:∀c:CC,PG (cO X N scope c) tg (g c)) (ha:∀(c:CC) D,jQ (cO X N scope c) D ifs elt (tc c))
  (hs:∀x,foldedSetIterable iter X.env x=pure x:=by intro _;rfl) :
  PE X (.ListComp elt [⟨tg,iter,ifs,0⟩] scope pos) (jP wi nt fr g tc):=by
 intro pins s σ H Q I h
 rw[eval_ListComp]
 refine ip (use:=none) hc S hi hg ha I h (fun x hx hf=>S.cells x hx hf) (fun D C s5 H1 _ _ _ hm hI q=>?_) hs
 obtain⟨m,hm⟩:=hm
 exact⟨m,hm,fun h' hs'=>⟨.ref D,H1,hI h' hs',rfl,q⟩⟩
theorem tZ{i:Nat}{y:Str}{py spos:Pos}{wi:TI}{g:CC->TG}{tc:CC->TC}(hN:X.N.Nodup)(hy:X.N[i]?=some y)(hl:X.env.scope.names.lookup y=some .local)(hc:X.calm=true)(S:CompScope N nt fr X.N scope X.env.scope)(hi:PI X tg iter wi)
  (hg:∀c:CC,PG (cO X N scope c) tg (g c)) (ha:∀(c:CC) D,jQ (cO X N scope c) D ifs elt (tc c))
  (hs:∀x,foldedSetIterable iter X.env x=pure x:=by intro _;rfl)
  (hsw:swapsWith (.ListComp elt [⟨tg,iter,ifs,0⟩] scope pos) (some (.Name y py)) spos.line X.env=pure true:=by rfl) :
  PS X (.Assign [.Name y py] (.ListComp elt [⟨tg,iter,ifs,0⟩] scope pos) spos) (pO (jP wi nt fr g tc) (jL i)):=by
 intro pins s σ H D I h
 rw[exec_Assign_Name_used _ _ _ _ hsw]
 refine wpAny_bind (wpAny_standAt (wpAny_bind ?_))
 show wpAny _ X.A (do let _ <- comprehension (.ListComp elt [⟨tg,iter,ifs,0⟩] scope pos) scope X.env _ (newList []) false (eval iter X.env) (some (assign (.Name y py) X.env))) _ _ s
 refine wpAny_bind (wpAny_mono (ip (use:=some (assign (.Name y py) X.env)) (Q:=fun x H1=>D.nx (σ.set i (some x)) H1) (Q0:=fun _ s'=>SP X pins D .next s') hc S hi hg ha I h (fun x hx hf=>S.cells x hx hf) (fun Dd C s5 H1 fp hC _ hm hI q=>?_) hs) (fun _ s' hq=>wpAny_pure (wpAny_pure hq)) fun _ _ e=>e)
 obtain⟨m,hm⟩:=hm
 have I5:Inv X pins σ H1 s5:=hI s5.heap ⟨rfl,fun _ _=>rfl⟩
 show wpAny _ X.A (assign (.Name y py) X.env (.ref Dd)) _ _ _
 refine wpAny_assign_Name (eY I5 hN hy (.inl hl) (v:=.ref Dd) rfl (fun s6 I6 hsb=>?_) (.inr hl))
 obtain⟨a,hs6,ha6⟩:=hsb
 have hCa:C≠a:=by
  rcases ha6 with e | e
  ·rw[e];exact fp.2.1
  ·exact fun z=>fp.2.2.2.2.1 _ _ e z.symm
 exact⟨m,hm.sameBut hs6 hCa,fun h' hs'=>⟨_,H1,I6.turned (t':=s6.toks) (fun b o hb e=>(hs'.2 b hb).trans e) fp.1 fp.2.1 fp.2.2.2.1 fp.2.2.2.2.1 fp.2.2.2.2.2,q⟩⟩
end
end
section
section
variable{prog:Program}{w:World}{A:Around}{E:Value->Shared->Prop}{s:Shared}
theorem dQ{items}(hit:s.heap.IsTupleIter it t i)
  (ht:s.heap.IsTuple t items) (hx:items[i]?=some x)
  (hQ:∀h',h'.IsTupleIter it t (i + 1)->Heap.SameBut it s.heap h'->Q x { s with heap:=h' }) :
  wpAny (model prog w) A (Builtin.SmallTypes.nextOf (.ref it)) Q E s:=by
 obtain⟨o,ho,hc,hd⟩:=id hit
 obtain⟨ol,hol,_,nl,hdl⟩:=ht
 unfold Builtin.SmallTypes.nextOf
 refine wpAny_bind (wpAny_callSpecial?_slot hit.typeIs F.slot_tuple_iterator_next
  (wpAny_call_entry F.slot_tuple_iterator_next hit.typeIs F.entry_tuple_iterator_next ?_ (F.args_tuple_iterator_next_1 _)))
 show wpAny _ _ (field (.ref it) 0 >>= _) _ _ s
 refine wpAny_bind (wpAny_field ho hd rfl ?_)
 show wpAny _ _ (if (Value.ref t == Value.none)=true then _ else _) _ _ s
 rw[if_neg (show ¬ ((Value.ref t == Value.none)=true) from aah)]
 show wpAny _ _ (field (.ref it) 1 >>= _) _ _ s
 refine wpAny_bind (wpAny_field ho hd rfl ?_)
 show wpAny _ _ (seqItems? (.ref t) >>= _) _ _ s
 refine wpAny_bind (wpAny_seqItems hol hdl ?_)
 simp only[aaR,hx]
 refine wpAny_bind (wpAny_setField ho hd (by simp) (wpAny_pure ⟨x,rfl,wpAny_pure (hQ _ ?_ (Heap.SameBut.update ..))⟩))
 exact⟨_,Heap.get?_update_self _ ho (Obj.isFreed_of_fields (Obj.data_mapFields hd _)),(Obj.cls_mapFields ..).trans hc,by
  rw[Obj.data_mapFields hd];simp[rawInt]⟩
theorem fb{items}{Q:Value->Shared->Prop}(hh:A.handled=none)
  (hit:s.heap.IsTupleIter it t i) (ht:s.heap.IsTuple t items) (hx:items[i]?=none)
  (hE:∀h' e,Heap.ExtBut it s.heap h'->(∃o,h'.get? e=some o/\o.cls=.type "StopIteration")->E (.ref e) { s with heap:=h' }) :
  wpAny (model prog w) A (Builtin.SmallTypes.nextOf (.ref it)) Q E s:=by
 obtain⟨o,ho,hc,hd⟩:=id hit
 obtain⟨ol,hol,_,nl,hdl⟩:=ht
 unfold Builtin.SmallTypes.nextOf
 refine wpAny_bind (wpAny_callSpecial?_slot hit.typeIs F.slot_tuple_iterator_next
  (wpAny_call_entry F.slot_tuple_iterator_next hit.typeIs F.entry_tuple_iterator_next ?_ (F.args_tuple_iterator_next_1 _)))
 show wpAny _ _ (field (.ref it) 0 >>= _) _ _ s
 refine wpAny_bind (wpAny_field ho hd rfl ?_)
 show wpAny _ _ (if (Value.ref t == Value.none)=true then _ else _) _ _ s
 rw[if_neg (show ¬ ((Value.ref t == Value.none)=true) from aah)]
 show wpAny _ _ (field (.ref it) 1 >>= _) _ _ s
 refine wpAny_bind (wpAny_field ho hd rfl ?_)
 show wpAny _ _ (seqItems? (.ref t) >>= _) _ _ s
 refine wpAny_bind (wpAny_seqItems hol hdl ?_)
 simp only[aaR,hx]
 refine wpAny_bind (wpAny_rule (wpAny_bind (wpAny_setField ho hd (by simp) ?_)))
 show wpAny _ _ (newExc (.type "StopIteration") [] >>= _) _ _ _
 refine wpAny_bind ?_
 simp only[newExc,newTuple]
 refine wpAny_bind (wpAny_newObj_type ?_ (by size_fits))
 refine wpAny_bind (wpAny_of_eq (by first | rfl | (simp only[firstArgMember];rfl)) ?_)
 refine wpAny_newObj_type ?_ (by size_fits)
 simp only[raiseNew]
 refine wpAny_bind (wpAny_handled ?_)
 first | rw[show A.in1.handled=none from hh] | rw[hh]
 refine wpAny_bind (wpAny_pure (wpAny_throw ?_))
 exact hE _ _ (((Heap.SameBut.update ..).extBut.push _).push _) ⟨_,Heap.get?_push_size _ rfl,rfl⟩
end
inductive ZS where
 | lst (a:Addr) (xs:List V)
 | tup (a:Addr) (xs:List V)
 | str (z:Str)
def ZS.items:ZS->List V
 | .lst _ xs=>xs
 | .tup _ xs=>xs
 | .str z=>z.cps.toList.map fun c=>.str ⟨#[c]⟩
def ZS.val:ZS->V
 | .lst a _=>.ref a
 | .tup a _=>.ref a
 | .str z=>.str z
def ZS.ok(K:Waa)(H:Hp):ZS->Prop
 | .lst a xs=>SqL K H a xs
 | .tup a xs=>SqT K H a xs
 | .str _=>True
structure Sub (prog:Program)(w:World)(A:Around)(i:Addr)(sl:List Addr)(src:Heap->Prop)(st:Nat->Heap->Prop)(vs:List V):Prop where
 sfr:∀h h',src h->(∀b∈sl,∀o,h.get? b=some o->h'.get? b=some o)->src h'
 ifr:∀k h h',st k h->(∀o,h.get? i=some o->h'.get? i=some o)->st k h'
 item:∀(k:Nat) (s:Shared) (x:V) (Q:Value->Shared->Prop) (E:Value->Shared->Prop),vs[k]?=some x->src s.heap->st k s.heap ->
  (∀v h' tk,RelV x v->st (k + 1) h'->Heap.SameBut i s.heap h'->Q v { s with heap:=h',toks:=tk })->wpAny (model prog w) A (Builtin.SmallTypes.nextOf (.ref i)) Q E s
 done:∀(k:Nat) (s:Shared) (Q:Value->Shared->Prop) (E:Value->Shared->Prop),vs.length<=k->src s.heap->st k s.heap ->
  (∀h' e,Heap.ExtBut i s.heap h'->(∃o,h'.get? e=some o/\o.cls=.type "StopIteration")->E (.ref e) { s with heap:=h' })->wpAny (model prog w) A (Builtin.SmallTypes.nextOf (.ref i)) Q E s
theorem Sub.list(hh:A.handled=none)(i l:Addr)(r:Vals xs its) :
  Sub prog w A i [l] (fun h=>h.IsList l its.toArray) (fun k h=>h.IsListIter i l k) xs where
 sfr:=fun h h' x k=>x.at fun o e=>k l (by simp) o e
 ifr:=fun k h h' x f=>x.at fun o e=>f o e
 item:=fun k s x Q E hx hs st hQ=>by
  obtain⟨u,hu,ru⟩:=r.get hx
  exact wpAny_nextOf_list_item st hs (by simpa using hu) fun h' st' sb=>hQ u h' s.toks ru st' sb
 done:=fun k s Q E hk hs st hE=>by
  have hl:=r.length
  exact wpAny_nextOf_list_end hh st hs (by simp;omega) hE
theorem Sub.tuple(hh:A.handled=none)(i l:Addr)(r:Vals xs its) :
  Sub prog w A i [l] (fun h=>h.IsTuple l its.toArray) (fun k h=>h.IsTupleIter i l k) xs where
 sfr:=fun h h' ⟨o,e,c⟩ k=>⟨o,k l (by simp) o e,c⟩
 ifr:=fun k h h' ⟨o,e,c⟩ f=>⟨o,f o e,c⟩
 item:=fun k s x Q E hx hs st hQ=>by
  obtain⟨u,hu,ru⟩:=r.get hx
  exact dQ st hs (by simpa using hu) fun h' st' sb=>hQ u h' s.toks ru st' sb
 done:=fun k s Q E hk hs st hE=>by
  have hl:=r.length
  exact fb hh st hs (by simp;omega) hE
theorem Sub.strs(hh:A.handled=none)(i:Addr)(z:Str)(t:Tok) :
  Sub prog w A i [] (fun _=>True) (fun k h=>h.IsStrIter i (strIterType z) z t k) (z.cps.toList.map fun c=>V.str ⟨#[c]⟩) where
 sfr:=fun h h' x k=>trivial
 ifr:=fun k h h' ⟨o,e,c⟩ f=>⟨o,f o e,c⟩
 item:=fun k s x Q E hx hs st hQ=>by
  rw[aav]at hx
  cases e:z.cps.toList[k]? with
  | none=>rw[e]at hx;cases hx
  | some c =>
   rw[e]at hx
   have hx':V.str ⟨#[c]⟩=x:=aaG hx
   subst hx'
   have e':z.cps[k]?=some c:=by rw[<- aco];exact e
   unfold strIterType at st hQ
   split at st
   ·rename_i ha
    rw[if_pos ha]at hQ
    exact wpAny_nextOf_ascii_item st e' fun h' st' sb=>hQ _ h' _ ⟨_,rfl⟩ st' sb
   ·rename_i ha
    rw[if_neg ha]at hQ
    exact wpAny_nextOf_wide_item st e' fun h' st' sb=>hQ _ h' _ ⟨_,rfl⟩ st' sb
 done:=fun k s Q E hk hs st hE=>by
  have e':z.cps[k]?=none:=by
   rw[aaa,abd]at hk
   exact Array.getElem?_eq_none hk
  unfold strIterType at st
  split at st
  ·exact wpAny_nextOf_ascii_end hh st e' hE
  ·exact wpAny_nextOf_wide_end hh st e' hE
structure ZApart (z TI TO i1 i2:Addr)(sl1 sl2:List Addr):Prop where
 TIz:TI≠z
 TOz:TO≠z
 i1z:i1≠z
 i2z:i2≠z
 TITO:TI≠TO
 TIi1:TI≠i1
 TIi2:TI≠i2
 TOi1:TO≠i1
 TOi2:TO≠i2
 i12:i1≠i2
 s1:∀b∈sl1,b≠z/\b≠TO/\b≠i1/\b≠i2
 s2:∀b∈sl2,b≠z/\b≠TO/\b≠i1/\b≠i2
section
variable{prog:Program}{w:World}{A:Around}{E:Value->Shared->Prop}{s:Shared}
theorem oi{z TI TO i1 i2:Addr}{Q:Value->Shared->Prop}(D:ZApart z TI TO i1 i2 sl1 sl2)
  (S1:Sub prog w A i1 sl1 src1 st1 xs) (S2:Sub prog w A i2 sl2 src2 st2 ys)
  (hz:IsZip s.heap z TI TO .none) (hTI:IsPair s.heap TI (.ref i1) (.ref i2)) (hTO:IsPair s.heap TO a b)
  (h1:st1 k s.heap) (h2:st2 k s.heap) (hl1:src1 s.heap) (hl2:src2 s.heap) (hx:xs[k]?=some x) (hy:ys[k]?=some y)
  (hQ:∀u v h' tk,RelV x u->RelV y v->IsZip h' z TI TO (rawInt s.heap.objs.size)->IsPair h' TO u v->st1 (k + 1) h'->st2 (k + 1) h'->IsPair h' s.heap.objs.size u v->h'.objs.size=s.heap.objs.size + 1 ->
   (∀c o,c≠z->c≠TO->c≠i1->c≠i2->s.heap.get? c=some o->h'.get? c=some o)->Q (.ref s.heap.objs.size) { s with heap:=h',toks:=tk })
  (hi1:i1 < s.heap.objs.size) (hi2:i2 < s.heap.objs.size) :
  wpAny (model prog w) A (Builtin.«zip.__next__» ⟨[.ref z],[]⟩) (fun fin s'=>∃v,fin=.done (.ret v)/\Q v s') E s:=by
 show wpAny _ _ (field (.ref z) 2 >>= _) _ _ _
 refine wpAny_bind (wpAny_field hz rfl rfl ?_)
 show wpAny _ _ (field (.ref z) 3 >>= _) _ _ _
 refine wpAny_bind (wpAny_field hz rfl rfl ?_)
 refine wpAny_bind (wpAny_seqItems hTI rfl ?_)
 show wpAny _ _ (Builtin.SmallTypes.ownedTupleIsFree (.ref z) >>= _) _ _ _
 refine wpAny_bind ?_
 unfold Builtin.SmallTypes.ownedTupleIsFree
 refine wpAny_bind (wpAny_field hz rfl rfl (wpAny_pure ?_))
 simp only[if_true]
 refine wpAny_bind (wpAny_rule ?_)
 refine wpAny_bind (wpAny_field hz rfl rfl ?_)
 refine wpAny_bind (wpAny_setField_rec hz (by simp) fun h₁ hz₁ hs₁=>?_)
 replace hz₁:IsZip h₁ z TI TO .ellipsis:=hz₁
 refine wpAny_bind ?_
 simp only[List.zipIdx_cons,List.zipIdx_nil,abX,List.forIn_nil]
 refine wpAny_bind (wpAny_bind (wpAny_onRaise ?_))
 show wpAny _ _ (Builtin.SmallTypes.nextOf (.ref i1) >>= _) _ _ _
 refine wpAny_bind (S1.item k _ x _ _ hx (S1.sfr _ _ hl1 fun b hb o e=>hs₁.extBut b o (D.s1 b hb).1 e) (S1.ifr _ _ _ h1 fun o e=>hs₁.extBut _ o D.i1z e) fun u h₂ tk₂ ru h1₂ hs₂=>wpAny_pure ?_)
 have hs₂:Heap.SameBut i1 h₁ h₂:=hs₂
 have hTO₂:IsPair h₂ TO a b:=hs₂.extBut _ _ D.TOi1 (hs₁.extBut _ _ D.TOz hTO)
 refine wpAny_bind (wpAny_seqItems hTO₂ rfl ?_)
 refine wpAny_bind (wpAny_updateSeq_pair hTO₂ fun h₃ hTO₃ hs₃=>?_)
 replace hTO₃:IsPair h₃ TO u b:=hTO₃
 have hs₃:Heap.SameBut TO h₂ h₃:=hs₃
 refine wpAny_bind (wpAny_letGo (wpAny_pure ?_))
 refine wpAny_bind (wpAny_bind (wpAny_onRaise ?_))
 show wpAny _ _ (Builtin.SmallTypes.nextOf (.ref i2) >>= _) _ _ _
 refine wpAny_bind (S2.item k _ y _ _ hy (S2.sfr _ _ hl2 fun b hb o e=>hs₃.extBut b o (D.s2 b hb).2.1 (hs₂.extBut b o (D.s2 b hb).2.2.1 (hs₁.extBut b o (D.s2 b hb).1 e)))
  (S2.ifr _ _ _ h2 fun o e=>hs₃.extBut _ o D.TOi2.symm (hs₂.extBut _ o D.i12.symm (hs₁.extBut _ o D.i2z e))) fun v h₄ tk₄ rv h2₄ hs₄=>wpAny_pure ?_)
 have hs₄:Heap.SameBut i2 h₃ h₄:=hs₄
 have hTO₄:IsPair h₄ TO u b:=hs₄.extBut _ _ D.TOi2 hTO₃
 refine wpAny_bind (wpAny_seqItems hTO₄ rfl ?_)
 refine wpAny_bind (wpAny_updateSeq_pair hTO₄ fun h₅ hTO₅ hs₅=>?_)
 replace hTO₅:IsPair h₅ TO u v:=hTO₅
 have hs₅:Heap.SameBut TO h₄ h₅:=hs₅
 refine wpAny_bind (wpAny_letGo (wpAny_pure (wpAny_pure ?_)))
 refine wpAny_bind (wpAny_seqItems hTO₅ rfl ?_)
 refine wpAny_bind (wpAny_newTuple ?_)
 have hsz:h₅.objs.size=s.heap.objs.size:=by rw[hs₅.1,hs₄.1,hs₃.1,hs₂.1,hs₁.1]
 have hz₅:IsZip h₅ z TI TO .ellipsis:=hs₅.extBut _ _ D.TOz.symm (hs₄.extBut _ _ D.i2z.symm (hs₃.extBut _ _ D.TOz.symm (hs₂.extBut _ _ D.i1z.symm hz₁)))
 have hk₅:∀c o,c≠z->c≠TO->c≠i1->c≠i2->s.heap.get? c=some o->h₅.get? c=some o:=fun c o c1 c2 c3 c4 e =>
  hs₅.extBut _ _ c2 (hs₄.extBut _ _ c4 (hs₃.extBut _ _ c2 (hs₂.extBut _ _ c3 (hs₁.extBut _ _ c1 e))))
 have h1₅:st1 (k + 1) h₅:=S1.ifr _ _ _ h1₂ fun o e=>hs₅.extBut _ o D.TOi1.symm (hs₄.extBut _ o D.i12 (hs₃.extBut _ o D.TOi1.symm e))
 have h2₅:st2 (k + 1) h₅:=S2.ifr _ _ _ h2₄ fun o e=>hs₅.extBut _ o D.TOi2.symm e
 have hzlt:z < h₅.objs.size:=Heap.lt_size hz₅
 show wpAny _ _ (Builtin.SmallTypes.ownedTupleHandOut (.ref z) (.ref h₅.objs.size) >>= _) _ _ _
 refine wpAny_bind ?_
 unfold Builtin.SmallTypes.ownedTupleHandOut
 have hz₆:IsZip (h₅.push { cls:=.type "tuple",data:=.seq #[u,v] }) z TI TO .ellipsis:=Heap.get?_push_of_some _ hz₅
 refine wpAny_bind (wpAny_setField_rec hz₆ (by simp) fun h₇ hz₇ hs₇=>?_)
 replace hz₇:IsZip h₇ z TI TO (rawInt h₅.objs.size):=hz₇
 refine wpAny_setField_rec hz₇ (by simp) fun h₈ hz₈ hs₈=>?_
 replace hz₈:IsZip h₈ z TI TO (rawInt h₅.objs.size):=hz₈
 have up:∀c o,c≠z->h₅.get? c=some o->h₈.get? c=some o:=fun c o c1 e=>hs₈.extBut _ _ c1 (hs₇.extBut _ _ c1 (Heap.get?_push_of_some _ e))
 have hT₈:IsPair h₈ h₅.objs.size u v:=hs₈.extBut _ _ (aaX hzlt) (hs₇.extBut _ _ (aaX hzlt) (Heap.get?_push_size _ rfl))
 have hz8:h₈.objs.size=h₅.objs.size + 1:=by rw[hs₈.1,hs₇.1,Heap.size_push]
 rw[hsz]at hz₈ hT₈ hz8
 refine wpAny_pure ⟨_,rfl,?_⟩
 show Q (.ref h₅.objs.size) _
 rw[hsz]
 exact hQ u v h₈ _ ru rv hz₈ (up _ _ D.TOz hTO₅) (S1.ifr _ _ _ h1₅ fun o e=>up _ o D.i1z e) (S2.ifr _ _ _ h2₅ fun o e=>up _ o D.i2z e) hT₈ hz8 fun c o c1 c2 c3 c4 e=>up c o c1 (hk₅ c o c1 c2 c3 c4 e)
theorem qi{z TI TO i1 i2:Addr}{Q:Fin->Shared->Prop}(D:ZApart z TI TO i1 i2 sl1 sl2)
  (S1:Sub prog w A i1 sl1 src1 st1 xs) (S2:Sub prog w A i2 sl2 src2 st2 ys)
  (hz:IsZip s.heap z TI TO .none) (hTI:IsPair s.heap TI (.ref i1) (.ref i2)) (hTO:IsPair s.heap TO a b)
  (h1:st1 k s.heap) (h2:st2 k s.heap) (hl1:src1 s.heap) (hl2:src2 s.heap) (hend:xs.length<=k\/ys.length<=k)
  (hE:∀h' tk e,(∀c o,c≠z->c≠TO->c≠i1->c≠i2->s.heap.get? c=some o->h'.get? c=some o)->(∃o,h'.get? e=some o/\o.cls=.type "StopIteration")->E (.ref e) { s with heap:=h',toks:=tk }) :
  wpAny (model prog w) A (Builtin.«zip.__next__» ⟨[.ref z],[]⟩) Q E s:=by
 show wpAny _ _ (field (.ref z) 2 >>= _) _ _ _
 refine wpAny_bind (wpAny_field hz rfl rfl ?_)
 show wpAny _ _ (field (.ref z) 3 >>= _) _ _ _
 refine wpAny_bind (wpAny_field hz rfl rfl ?_)
 refine wpAny_bind (wpAny_seqItems hTI rfl ?_)
 show wpAny _ _ (Builtin.SmallTypes.ownedTupleIsFree (.ref z) >>= _) _ _ _
 refine wpAny_bind ?_
 unfold Builtin.SmallTypes.ownedTupleIsFree
 refine wpAny_bind (wpAny_field hz rfl rfl (wpAny_pure ?_))
 simp only[if_true]
 refine wpAny_bind (wpAny_rule ?_)
 refine wpAny_bind (wpAny_field hz rfl rfl ?_)
 refine wpAny_bind (wpAny_setField_rec hz (by simp) fun h₁ hz₁ hs₁=>?_)
 replace hz₁:IsZip h₁ z TI TO .ellipsis:=hz₁
 refine wpAny_bind ?_
 simp only[List.zipIdx_cons,List.zipIdx_nil,abX,List.forIn_nil]
 refine wpAny_bind (wpAny_bind (wpAny_onRaise ?_))
 show wpAny _ _ (Builtin.SmallTypes.nextOf (.ref i1) >>= _) _ _ _
 have l1:src1 h₁:=S1.sfr _ _ hl1 fun b hb o e=>hs₁.extBut b o (D.s1 b hb).1 e
 have t1:st1 k h₁:=S1.ifr _ _ _ h1 fun o e=>hs₁.extBut _ o D.i1z e
 by_cases hx:xs.length<=k
 ·refine wpAny_bind (S1.done k _ _ _ hx l1 t1 fun h₂ e hs₂ he=>?_)
  have hs₂:Heap.ExtBut i1 h₁ h₂:=hs₂
  obtain⟨oe,hoe,hce⟩:=he
  have hz₂:IsZip h₂ z TI TO .ellipsis:=hs₂ _ _ D.i1z.symm hz₁
  have hez:e≠z:=fun x=>by subst x;rw[hz₂]at hoe;cases hoe;simp at hce
  refine wpAny_setField_rec hz₂ (by simp) fun h₃ _ hs₃=>hE h₃ _ e (fun c o c1 _ c3 _ x=>hs₃.extBut _ _ c1 (hs₂ _ _ c3 (hs₁.extBut _ _ c1 x))) ⟨oe,hs₃.extBut _ _ hez hoe,hce⟩
 ·have hy:ys.length<=k:=by rcases hend with h | h;exact absurd h hx;exact h
  obtain⟨x,hx'⟩:∃x,xs[k]?=some x:=⟨_,aan (Nat.lt_of_not_le hx)⟩
  refine wpAny_bind (S1.item k _ x _ _ hx' l1 t1 fun u h₂ tk₂ ru h1₂ hs₂=>wpAny_pure ?_)
  have hs₂:Heap.SameBut i1 h₁ h₂:=hs₂
  have hTO₂:IsPair h₂ TO a b:=hs₂.extBut _ _ D.TOi1 (hs₁.extBut _ _ D.TOz hTO)
  refine wpAny_bind (wpAny_seqItems hTO₂ rfl ?_)
  refine wpAny_bind (wpAny_updateSeq_pair hTO₂ fun h₃ hTO₃ hs₃=>?_)
  have hs₃:Heap.SameBut TO h₂ h₃:=hs₃
  refine wpAny_bind (wpAny_letGo (wpAny_pure ?_))
  refine wpAny_bind (wpAny_bind (wpAny_onRaise ?_))
  show wpAny _ _ (Builtin.SmallTypes.nextOf (.ref i2) >>= _) _ _ _
  refine wpAny_bind (S2.done k _ _ _ hy (S2.sfr _ _ hl2 fun b hb o e=>hs₃.extBut b o (D.s2 b hb).2.1 (hs₂.extBut b o (D.s2 b hb).2.2.1 (hs₁.extBut b o (D.s2 b hb).1 e)))
   (S2.ifr _ _ _ h2 fun o e=>hs₃.extBut _ o D.TOi2.symm (hs₂.extBut _ o D.i12.symm (hs₁.extBut _ o D.i2z e))) fun h₄ e hs₄ he=>?_)
  have hs₄:Heap.ExtBut i2 h₃ h₄:=hs₄
  obtain⟨oe,hoe,hce⟩:=he
  have hz₄:IsZip h₄ z TI TO .ellipsis:=hs₄ _ _ D.i2z.symm (hs₃.extBut _ _ D.TOz.symm (hs₂.extBut _ _ D.i1z.symm hz₁))
  have hez:e≠z:=fun x=>by subst x;rw[hz₄]at hoe;cases hoe;simp at hce
  refine wpAny_setField_rec hz₄ (by simp) fun h₅ _ hs₅=>hE h₅ _ e (fun c o c1 c2 c3 c4 x=>hs₅.extBut _ _ c1 (hs₄ _ _ c4 (hs₃.extBut _ _ c2 (hs₂.extBut _ _ c3 (hs₁.extBut _ _ c1 x))))) ⟨oe,hs₅.extBut _ _ hez hoe,hce⟩
theorem kZ{z TI TO i1 i2:Addr}(D:ZApart z TI TO i1 i2 sl1 sl2)
  (S1:Sub prog w A.in1 i1 sl1 src1 st1 xs) (S2:Sub prog w A.in1 i2 sl2 src2 st2 ys)
  (hz:IsZip s.heap z TI TO .none) (hTI:IsPair s.heap TI (.ref i1) (.ref i2)) (hTO:IsPair s.heap TO a b)
  (h1:st1 k s.heap) (h2:st2 k s.heap) (hl1:src1 s.heap) (hl2:src2 s.heap) (hx:xs[k]?=some x) (hy:ys[k]?=some y)
  (hQ:∀u v h' tk,RelV x u->RelV y v->IsZip h' z TI TO (rawInt s.heap.objs.size)->IsPair h' TO u v->st1 (k + 1) h'->st2 (k + 1) h'->IsPair h' s.heap.objs.size u v->h'.objs.size=s.heap.objs.size + 1 ->
   (∀c o,c≠z->c≠TO->c≠i1->c≠i2->s.heap.get? c=some o->h'.get? c=some o)->Q (some (.ref s.heap.objs.size)) { s with heap:=h',toks:=tk })
  (hi1:i1 < s.heap.objs.size) (hi2:i2 < s.heap.objs.size) :
  wpAny (model prog w) A (pyNext (.ref z)) Q E s:=by
 have hT:s.TypeIs (.ref z) "zip":=⟨_,hz,rfl⟩
 unfold pyNext
 exact wpAny_bind (wpAny_attempt (wpAny_callSpecial?_slot hT F.slot_zip_next
  (wpAny_call_entry F.slot_zip_next hT F.entry_zip_next
   (oi D S1 S2 hz hTI hTO h1 h2 hl1 hl2 hx hy (fun u v h' tk r1 r2 a1 a2 a3 a4 a5 a6 a7=>wpAny_pure (hQ u v h' tk r1 r2 a1 a2 a3 a4 a5 a6 a7)) hi1 hi2) (F.args_zip_next_1 _))))
theorem oj{z TI TO i1 i2:Addr}(D:ZApart z TI TO i1 i2 sl1 sl2)
  (S1:Sub prog w A.in1 i1 sl1 src1 st1 xs) (S2:Sub prog w A.in1 i2 sl2 src2 st2 ys)
  (hz:IsZip s.heap z TI TO .none) (hTI:IsPair s.heap TI (.ref i1) (.ref i2)) (hTO:IsPair s.heap TO a b)
  (h1:st1 k s.heap) (h2:st2 k s.heap) (hl1:src1 s.heap) (hl2:src2 s.heap) (hend:xs.length<=k\/ys.length<=k)
  (hQ:∀h' tk,(∀c o,c≠z->c≠TO->c≠i1->c≠i2->s.heap.get? c=some o->h'.get? c=some o)->Q none { s with heap:=h',toks:=tk }):wpAny (model prog w) A (pyNext (.ref z)) Q E s:=by
 have hT:s.TypeIs (.ref z) "zip":=⟨_,hz,rfl⟩
 unfold pyNext
 refine wpAny_bind (wpAny_attempt (wpAny_callSpecial?_slot hT F.slot_zip_next
  (wpAny_call_entry F.slot_zip_next hT F.entry_zip_next (qi D S1 S2 hz hTI hTO h1 h2 hl1 hl2 hend fun h' tk e hk he=>?_) (F.args_zip_next_1 _))))
 obtain⟨o,ho,hc⟩:=he
 refine wpAny_bind (wpAny_isInstance ⟨o,ho,hc⟩ isSubtype_stop ?_)
 exact wpAny_pure (hQ _ _ hk)
end
end
section
def Du(K:Waa)(a b:ZS):It :=
 ⟨fun i H=>a.ok K H/\b.ok K H/\i < a.items.length/\i < b.items.length,
  fun i H v H'=>∃T x y,a.items[i]?=some x/\b.items[i]?=some y/\H T=none/\v=.ref T/\H'=upd H T (.tup [x,y]),
  fun i H=>a.ok K H/\b.ok K H/\(a.items.length<=i\/b.items.length<=i)⟩
def ZS.rcd:ZS->Value->Obj
 | .lst _ _,v=>{ cls:=.type "list_iterator",data:=.fields #[v,.int 0 0] }
 | .tup _ _,v=>{ cls:=.type "tuple_iterator",data:=.fields #[v,.int 0 0] }
 | .str z,v=>{ cls:=.type (strIterType z),data:=.fields #[v,.int 0 0] }
def ZS.st(a:ZS)(v:Value)(i:Addr)(k:Nat)(h:Heap):Prop:=match a,v with
 | .lst l _,_=>h.IsListIter i l k
 | .tup l _,_=>h.IsTupleIter i l k
 | .str z,.str _ t=>h.IsStrIter i (strIterType z) z t k
 | .str _,_=>False
def ZS.sl:ZS->List Addr
 | .lst l _=>[l]
 | .tup l _=>[l]
 | .str _=>[]
theorem ZS.st_obj{a:ZS}{v:Value}{i:Addr}{k:Nat}{h:Heap}(x:a.st v i k h):∃o,h.get? i=some o/\∀c,o.data≠.cell c:=by
 cases a with
 | lst l xs=>obtain⟨o,e,c,d⟩:=(show h.IsListIter i l k from x);exact⟨o,e,fun v z=>by rw[d]at z;cases z⟩
 | tup l xs=>obtain⟨o,e,c,d⟩:=(show h.IsTupleIter i l k from x);exact⟨o,e,fun v z=>by rw[d]at z;cases z⟩
 | str z =>
  cases v with
  | str y t=>obtain⟨o,e,c,d⟩:=(show h.IsStrIter i (strIterType z) z t k from x);exact⟨o,e,fun v z=>by rw[d]at z;cases z⟩
  | _=>exact False.elim x
theorem ZS.st_keep{a:ZS}{v:Value}{i:Addr}{k:Nat}{h h':Heap}(x:a.st v i k h)(f:∀o,h.get? i=some o->h'.get? i=some o):a.st v i k h':=by
 cases a with
 | lst l xs=>obtain⟨o,e,c⟩:=(show h.IsListIter i l k from x);exact⟨o,f o e,c⟩
 | tup l xs=>obtain⟨o,e,c⟩:=(show h.IsTupleIter i l k from x);exact⟨o,f o e,c⟩
 | str z =>
  cases v with
  | str y t=>obtain⟨o,e,c⟩:=(show h.IsStrIter i (strIterType z) z t k from x);exact⟨o,f o e,c⟩
  | _=>exact False.elim x
section
variable{X:Cx}{pins:List (Addr × Obj)}{σ:St}{H:Hp}{s:Shared}
theorem ZS.sub(a:ZS){v:Value}(I:Inv X pins σ H s)(ok:a.ok X.K H)(rv:RelV a.val v)(A:Around)(hh:A.handled=none)(i:Addr) :
  ∃src:Heap->Prop,src s.heap/\Sub X.prog X.w A i a.sl src (a.st v i) a.items/\(∀b∈a.sl,∃o,s.heap.get? b=some o/\(H b≠none\/X.base.get? b=some o)):=by
 cases a with
 | lst l xs =>
  have ok:SqL X.K H l xs:=ok
  obtain⟨its,r,p,hz⟩:=I.list ok
  refine⟨_,p.isList,Sub.list hh i l r,fun b hb=>?_⟩
  have e:b=l:=by simpa [ZS.sl] using hb
  subst e
  rcases ok with (h | ⟨o,h⟩) | ⟨o,its',n,hk,_⟩
  ·obtain⟨_,_,_,_,e⟩:=I.hok _ _ h
   exact⟨_,e,.inl (by rw[h];simp)⟩
  ·obtain⟨e,_⟩:=I.hok _ _ h
   exact⟨_,e,.inl (by rw[h];simp)⟩
  ·exact⟨o,I.kIn _ _ hk,.inr (I.ok.mod.kin _ _ hk)⟩
 | tup l xs =>
  have ok:SqT X.K H l xs:=ok
  obtain⟨its,r,p,hz⟩:=I.tuple ok
  refine⟨_,p,Sub.tuple hh i l r,fun b hb=>?_⟩
  have e:b=l:=by simpa [ZS.sl] using hb
  subst e
  rcases ok with (h | ⟨o,h⟩) | ⟨o,its',n,hk,_⟩
  ·obtain⟨_,_,_,o,e,_⟩:=I.hok _ _ h
   exact⟨_,e,.inl (by rw[h];simp)⟩
  ·obtain⟨e,_⟩:=I.hok _ _ h
   exact⟨_,e,.inl (by rw[h];simp)⟩
  ·exact⟨o,I.kIn _ _ hk,.inr (I.ok.mod.kin _ _ hk)⟩
 | str z =>
  obtain⟨t,rfl⟩:=rv
  exact⟨_,trivial,Sub.strs hh i z t,fun b hb=>by simp[ZS.sl]at hb⟩
end
theorem aK{X:Cx}{pins:List (Addr × Obj)}{σ:St}{H:Hp}{s:Shared}{a:ZS}{b:Addr}(I:Inv X pins σ H s)(f:FpOk X pins H b)(h:∀c∈a.sl,∃o,s.heap.get? c=some o/\(H c≠none\/X.base.get? c=some o)):∀c∈a.sl,c≠b:=by
 intro c hc e
 subst e
 obtain⟨o,_,q⟩:=h c hc
 rcases q with q | q
 ·exact q f.1
 ·rcases f.2.2.2.1 with z | z
  ·exact I.ok.noex c o q z
  ·exact absurd (aax (Heap.lt_size q) (aaq I.ok.bsz z)) (aaW _)
structure ZRec (z TI TO i1 i2:Addr):Prop where
 TIz:TI≠z
 TOz:TO≠z
 i1z:i1≠z
 i2z:i2≠z
 TITO:TI≠TO
 TIi1:TI≠i1
 TIi2:TI≠i2
 TOi1:TO≠i1
 TOi2:TO≠i2
 i12:i1≠i2
theorem Inv.turnedL{X:Cx}{pins:List (Addr × Obj)}{σ:St}{H:Hp}{s:Shared}{h':Heap}{t':Nat}{fp:List Addr}(I:Inv X pins σ H s)(k:∀b o,b ∉ fp->s.heap.get? b=some o->h'.get? b=some o)(f:∀b∈fp,FpOk X pins H b)
  : Inv X pins σ H { s with heap:=h',toks:=t' }:=by
 have nit:∀b u,H b=some u->b ∉ fp:=fun b u e z=>by rw[(f b z).1]at e;cases e
 refine I.step (g':=s.gens) (d':=s.drawn) (ch:=fp) (fun b hb=>?_) (fun b o _ _ hc e _=>k b o hc e) (fun b o _ _ hc e _=>⟨o.slots,k b o hc e⟩) (fun _ _ _ _ n=>n)
  (fun b o hc e=>⟨o,k b o hc e⟩) (fun _ _ e=>e) (fun _ _ _ e=>e) (fun b ps e=>⟨#[],by rw[e];simp⟩) (fun m hm=>?_) (fun b u e=>?_) I.bare
 ·obtain⟨f0,f1,f2,f3,f4,f5⟩:=f b hb
  exact⟨f3,f1,f4,f5⟩
 ·obtain⟨o,es,ep,ho,r⟩:=hm
  exact⟨o,es,ep,k _ o (fun z=>(f _ z).2.1 rfl) ho,r⟩
 ·refine (I.hok b u e).stay (fun c v hc q=>k c v ?_ q) (fun _ q=>q) fun _ _ q=>q
  rcases hc with z | z
  ·rw[z];exact nit b u e
  ·exact nit c _ z
theorem qj{P:Program}{w:World}{K:Waa}{es:List Expr}{x1}{pos:Pos}(a b:ZS)(va vb:Value)(ra:RelV a.val va)(rb:RelV b.val vb)(z TI TO i1 i2:Addr)(R:ZRec z TI TO i1 i2) :
  Turn P w K (.Tuple es x1 pos) (Du K a b) [z,TI,TO,i1,i2] z
   (fun i h=>IsZip h z TI TO .none/\IsPair h TI (.ref i1) (.ref i2)/\(∃p q,IsPair h TO p q)/\a.st va i1 i h/\b.st vb i2 i h) where
 mem:=by simp
 obj:=fun i h ⟨h1,h2,⟨p,q,h3⟩,h4,h5⟩ c hc=>by
  simp only[aab,aak,or_false]at hc
  rcases hc with rfl | rfl | rfl | rfl | rfl
  ·exact⟨_,h1,fun v z=>by cases z⟩
  ·exact⟨_,h2,fun v z=>by cases z⟩
  ·exact⟨_,h3,fun v z=>by cases z⟩
  ·exact ZS.st_obj h4
  ·exact ZS.st_obj h5
 keep:=fun i h h' ⟨h1,h2,⟨p,q,h3⟩,h4,h5⟩ k =>
  ⟨k z (by simp) _ h1,k TI (by simp) _ h2,⟨p,q,k TO (by simp) _ h3⟩,ZS.st_keep h4 (fun o e=>k i1 (by simp) o e),ZS.st_keep h5 (fun o e=>k i2 (by simp) o e)⟩
 item:=by
  intro X hP hw hK hc i pins s σ H E I hf ⟨h1,h2,⟨p,q,h3⟩,h4,h5⟩ hg
  subst hP hw hK
  obtain⟨oka,okb,la,lb⟩:=hg
  have hh:X.A.in1.handled=none:=I.ok.hd hc
  obtain⟨src1,hs1,S1,ap1⟩:=a.sub I oka ra X.A.in1 hh i1
  obtain⟨src2,hs2,S2,ap2⟩:=b.sub I okb rb X.A.in1 hh i2
  obtain⟨x,hx⟩:∃x,a.items[i]?=some x:=⟨_,aan la⟩
  obtain⟨y,hy⟩:∃y,b.items[i]?=some y:=⟨_,aan lb⟩
  have D:ZApart z TI TO i1 i2 a.sl b.sl:=⟨R.TIz,R.TOz,R.i1z,R.i2z,R.TITO,R.TIi1,R.TIi2,R.TOi1,R.TOi2,R.i12,
   fun c hc=>⟨aK I (hf z (by simp)) ap1 c hc,aK I (hf TO (by simp)) ap1 c hc,aK I (hf i1 (by simp)) ap1 c hc,aK I (hf i2 (by simp)) ap1 c hc⟩,
   fun c hc=>⟨aK I (hf z (by simp)) ap2 c hc,aK I (hf TO (by simp)) ap2 c hc,aK I (hf i1 (by simp)) ap2 c hc,aK I (hf i2 (by simp)) ap2 c hc⟩⟩
  have fl:∀c∈([z,TI,TO,i1,i2]:List Addr),c < s.heap.objs.size:=fun c hc=>by
   simp only[aab,aak,or_false]at hc
   rcases hc with rfl | rfl | rfl | rfl | rfl
   ·exact Heap.lt_size h1
   ·exact Heap.lt_size h2
   ·exact Heap.lt_size h3
   ·obtain⟨o,e,_⟩:=ZS.st_obj h4;exact Heap.lt_size e
   ·obtain⟨o,e,_⟩:=ZS.st_obj h5;exact Heap.lt_size e
  refine kZ D S1 S2 h1 h2 h3 h4 h5 hs1 hs2 hx hy (fun u v h' tk ru rv hz' hTO' st1' st2' hT hsz hk=>?_) (fl i1 (by simp)) (fl i2 (by simp))
  refine⟨.ref s.heap.objs.size,rfl,?_⟩
  refine wpAny_letOwnedTupleGo_zip hz' fun h'' hz'' hs''=>?_
  have hs'':Heap.SameBut z h' h'':=hs''
  have k1:∀c o,c ∉ ([z,TI,TO,i1,i2]:List Addr)->s.heap.get? c=some o->h''.get? c=some o:=fun c o hc e=>by
   simp only[aab,aak,or_false,not_or]at hc
   exact hs''.extBut _ _ hc.1 (hk c o hc.1 hc.2.2.1 hc.2.2.2.1 hc.2.2.2.2 e)
  have hn:H s.heap.objs.size=none:=I.hok.fresh (aac _)
  have I1:Inv X pins σ H { s with heap:=h'',toks:=tk }:=I.turnedL k1 hf
  have nez:s.heap.objs.size≠z:=aaX (fl z (by simp))
  have hT'':IsPair h'' s.heap.objs.size u v:=hs''.extBut _ _ nez hT
  have I2:Inv X pins σ (upd H s.heap.objs.size (.tup [x,y])) { s with heap:=h'',toks:=tk }:=by
   refine I.step (g':=s.gens) (d':=s.drawn) (ch:=[z,TI,TO,i1,i2]) (fun b hb=>?_) (fun b o _ _ hc e _=>k1 b o hc e) (fun b o _ _ hc e _=>⟨o.slots,k1 b o hc e⟩) (fun b o hc e n=>?_)
    (fun b o hc e=>⟨o,k1 b o hc e⟩) (fun b ys e=>?_) (fun b o u e=>?_) (fun b ps e=>⟨#[],?_⟩) (fun m hm=>?_) (fun b o e=>?_) I.bare
   ·obtain⟨f0,f1,f2,f3,f4,f5⟩:=hf b hb
    exact⟨f3,f1,f4,f5⟩
   ·rw[upd_ne (aao (Heap.lt_size e))];exact n
   ·rw[upd_ne (ak e hn)];exact e
   ·rw[upd_ne (ak e hn)];exact e
   ·rw[upd_ne (ak e hn),e];simp
   ·obtain⟨o,es',ep,ho,r⟩:=hm
    exact⟨o,es',ep,k1 _ o (fun z=>(hf _ z).2.1 rfl) ho,r⟩
   ·by_cases hb:b=s.heap.objs.size
    ·subst hb
     rw[aE]at e
     cases e
     exact⟨(by show 2<=sizeLine;decide),[u,v],.cons ru (.cons rv .nil),⟨_,hT'',rfl,_,rfl⟩⟩
    ·rw[upd_ne hb]at e
     refine (I1.hok b o e).stay (fun c v hc q=>q) (fun c q=>by rw[upd_ne (ak q hn)];exact q) fun c ys q=>by rw[upd_ne (ak q hn)];exact q
  refine⟨.ref s.heap.objs.size,_,I2,rfl,⟨_,x,y,hx,hy,hn,rfl,rfl⟩,⟨hz'',?_,⟨u,v,hs''.extBut _ _ R.TOz hTO'⟩,ZS.st_keep st1' (fun o e=>hs''.extBut _ _ R.i1z e),ZS.st_keep st2' (fun o e=>hs''.extBut _ _ R.i2z e)⟩,fun c hc=>?_⟩
  ·exact hs''.extBut _ _ R.TIz (hk _ _ R.TIz R.TITO R.TIi1 R.TIi2 h2)
  ·rw[upd_ne (aao (fl c hc))];exact (hf c hc).1
 done:=by
  intro X hP hw hK hc i pins s σ H E I hf ⟨h1,h2,⟨p,q,h3⟩,h4,h5⟩ hg
  subst hP hw hK
  obtain⟨oka,okb,hend⟩:=hg
  have hh:X.A.in1.handled=none:=I.ok.hd hc
  obtain⟨src1,hs1,S1,ap1⟩:=a.sub I oka ra X.A.in1 hh i1
  obtain⟨src2,hs2,S2,ap2⟩:=b.sub I okb rb X.A.in1 hh i2
  have D:ZApart z TI TO i1 i2 a.sl b.sl:=⟨R.TIz,R.TOz,R.i1z,R.i2z,R.TITO,R.TIi1,R.TIi2,R.TOi1,R.TOi2,R.i12,
   fun c hc=>⟨aK I (hf z (by simp)) ap1 c hc,aK I (hf TO (by simp)) ap1 c hc,aK I (hf i1 (by simp)) ap1 c hc,aK I (hf i2 (by simp)) ap1 c hc⟩,
   fun c hc=>⟨aK I (hf z (by simp)) ap2 c hc,aK I (hf TO (by simp)) ap2 c hc,aK I (hf i1 (by simp)) ap2 c hc,aK I (hf i2 (by simp)) ap2 c hc⟩⟩
  refine oj D S1 S2 h1 h2 h3 h4 h5 hs1 hs2 hend fun h' tk hk=>⟨rfl,I.turnedL (fun c o hc e=>?_) hf⟩
  simp only[aab,aak,or_false,not_or]at hc
  exact hk c o hc.1 hc.2.2.1 hc.2.2.2.1 hc.2.2.2.2 e
 self:=fun _ _ _ _ _ ⟨h1,_⟩ h=>wpAny_pyIter_zip h1 h
theorem gf(v1 v2:Value)(o1 o2:Obj)(src1 src2:Heap->Prop)(fr2:∀h o,src2 h->src2 (h.push o))
  (p1:∀(prog:Program) (w:World) (A:Around) (E:Value->Shared->Prop) (s:Shared) (Q:Value->Shared->Prop),src1 s.heap->Q (.ref s.heap.objs.size) { s with heap:=s.heap.push o1 }->wpAny (model prog w) A (pyIter v1) Q E s)
  (p2:∀(prog:Program) (w:World) (A:Around) (E:Value->Shared->Prop) (s:Shared) (Q:Value->Shared->Prop),src2 s.heap->Q (.ref s.heap.objs.size) { s with heap:=s.heap.push o2 }->wpAny (model prog w) A (pyIter v2) Q E s) :
  Meets (Builtin.«zip.__new__» ⟨[.type "zip",v1,v2],[]⟩) (fun _ R s=>src1 s.heap/\src2 s.heap /\
   R (.ok (.ret (.ref ((((s.heap.push o1).push o2).push { cls:=.type "tuple",data:=.seq #[.ref s.heap.objs.size,.ref (s.heap.push o1).objs.size] }).push { cls:=.type "tuple",data:=.seq #[.none,.none] }).objs.size)))
    { s with heap:=((((s.heap.push o1).push o2).push { cls:=.type "tuple",data:=.seq #[.ref s.heap.objs.size,.ref (s.heap.push o1).objs.size] }).push { cls:=.type "tuple",data:=.seq #[.none,.none] }).push { cls:=.type "zip",data:=.fields #[.none,.bool false,.bool false,.ref ((s.heap.push o1).push o2).objs.size,.ref (((s.heap.push o1).push o2).push { cls:=.type "tuple",data:=.seq #[.ref s.heap.objs.size,.ref (s.heap.push o1).objs.size] }).objs.size] } }) :=
 .of_wp fun prog w A R s h=>by
  obtain⟨hp,g,d,tk,os⟩:=s;obtain⟨hl1,hl2,h⟩:=h
  have hsub:=sub_zip
  have q1:∀{A:Around} {E:Value->Shared->Prop} {Q:Value->Shared->Prop},Q (.ref hp.objs.size) ⟨hp.push o1,g,d,tk,os⟩->wpAny (model prog w) A (pyIter v1) Q E ⟨hp,g,d,tk,os⟩:=fun hQ=>p1 _ _ _ _ ⟨hp,g,d,tk,os⟩ _ hl1 hQ
  have q2:∀{A:Around} {E:Value->Shared->Prop} {Q:Value->Shared->Prop},Q (.ref (hp.push o1).objs.size) ⟨(hp.push o1).push o2,g,d,tk,os⟩->wpAny (model prog w) A (pyIter v2) Q E ⟨hp.push o1,g,d,tk,os⟩:=fun hQ=>p2 _ _ _ _ ⟨hp.push o1,g,d,tk,os⟩ _ (fr2 _ _ hl2) hQ
  wp_walk using q1,q2
  exact⟨_,rfl,h⟩
end
section
theorem boot_zip:bootBuiltins "zip"=some (.type "zip"):=by decide +kernel
section
variable{X:Cx}
theorem ZS.iter(a:ZS){v:Value}{pins:List (Addr × Obj)}{σ:St}{H:Hp}{s:Shared}(I:Inv X pins σ H s)(ok:a.ok X.K H)(rv:RelV a.val v) :
  ∃src:Heap->Prop,src s.heap/\(∀h o,src h->src (h.push o)) /\
   ∀(prog:Program) (w:World) (A:Around) (E:Value->Shared->Prop) (s:Shared) (Q:Value->Shared->Prop),src s.heap->Q (.ref s.heap.objs.size) { s with heap:=s.heap.push (a.rcd v) }->wpAny (model prog w) A (pyIter v) Q E s:=by
 cases a with
 | lst l xs =>
  obtain⟨its,r,p,hz⟩:=I.list (show SqL X.K H l xs from ok)
  cases rv
  exact⟨fun h=>h.IsList l its.toArray,p.isList,fun h o x=>x.push o,fun prog w A E s Q h q=>wpAny_pyIter_list h q⟩
 | tup l xs =>
  obtain⟨its,r,p,hz⟩:=I.tuple (show SqT X.K H l xs from ok)
  cases rv
  exact⟨fun h=>h.IsTuple l its.toArray,p,fun h o x=>x.push o,fun prog w A E s Q h q=>wpAny_pyIter_tuple h q⟩
 | str z =>
  obtain⟨t,rfl⟩:=rv
  exact⟨fun _=>True,trivial,fun _ _ _=>trivial,fun prog w A E s Q _ q=>wpAny_pyIter_strU q⟩
theorem ZS.st0(a:ZS){v:Value}(rv:RelV a.val v){h:Heap}{i:Addr}(e:h.get? i=some (a.rcd v)):a.st v i 0 h:=by
 cases a with
 | lst l xs=>cases rv;exact⟨_,e,rfl,rfl⟩
 | tup l xs=>cases rv;exact⟨_,e,rfl,rfl⟩
 | str z=>obtain⟨t,rfl⟩:=rv;exact⟨_,e,rfl,rfl⟩
theorem jR(a:ZS)(v:Value):(a.rcd v).isFreed=false:=by cases a<;>rfl
def Dv(K:Waa)(ta:TA):TI:=fun σ H R=>ta σ H fun vs H1=>∃a b:ZS,vs=[a.val,b.val]/\a.ok K H1/\b.ok K H1/\R (Du K a b) H1
theorem addNe{n i j:Nat}(h:i≠j):(n + i:Addr)≠n + j:=fun e=>h (acp e)
theorem addNe0{n i:Nat}(h:i≠0):(n + i:Addr)≠n:=fun e=>h (acp (k:=0) e)
theorem xY {es:List Expr} {x1} {tpos:Pos} {a b:Expr} {ta:TA} {p pos:Pos} (hg:Gl X "zip") (hm:X.mg "zip"=none) (ha:PA X [a,b] ta) (hs:starEach [a,b] X.env=[(false,eval a X.env),(false,eval b X.env)]:=by rfl) (hs2:starEach [b] X.env=[(false,eval b X.env)]:=by rfl) :
  PI X (.Tuple es x1 tpos) (.Call (.Name "zip" p) [a,b] [] pos) (Dv X.K ta):=by
 intro pins s σ H R I h
 refine Call_ (dE I hg hm boot_zip (abj (thn (ha pos pins s σ H _ I h) fun us s1 hZ=>?_) (by rw[hs,hs2]) (by rw[hs2];rfl)))
 obtain⟨vs,H1,I1,r1,q1⟩:=hZ
 obtain⟨za,zb,e,oka,okb,q⟩:=q1
 subst e
 obtain⟨ua,ub,rfl,ra,rb⟩:=r1.two
 obtain⟨src1,h1,_,p1⟩:=za.iter I1 oka ra
 obtain⟨src2,h2,fr2,p2⟩:=zb.iter I1 okb rb
 refine callType_new F.called_zip (by decide) (F.typeCall_zip_2 _ _) (F.newCall_zip_2 _ _) (fun obj=>F.args_object_init_3 obj _ _) F.entry_zip_new
  (gf ua ub (za.rcd ua) (zb.rcd ub) src1 src2 fr2 p1 p2) ⟨h1,h2,?_⟩
 generalize hA:s1.heap.push (za.rcd ua)=A1
 generalize hB:A1.push (zb.rcd ub)=A2
 generalize hC:A2.push { cls:=.type "tuple",data:=.seq #[.ref s1.heap.objs.size,.ref A1.objs.size] }=A3
 generalize hD:A3.push { cls:=.type "tuple",data:=.seq #[.none,.none] }=A4
 generalize hE:A4.push { cls:=.type "zip",data:=.fields #[.none,.bool false,.bool false,.ref A2.objs.size,.ref A3.objs.size] }=A5
 have z1:A1.objs.size=s1.heap.objs.size + 1:=by rw[<- hA];exact Heap.size_push ..
 have z2:A2.objs.size=s1.heap.objs.size + 2:=by rw[<- hB,Heap.size_push,z1]
 have z3:A3.objs.size=s1.heap.objs.size + 3:=by rw[<- hC,Heap.size_push,z2]
 have z4:A4.objs.size=s1.heap.objs.size + 4:=by rw[<- hD,Heap.size_push,z3]
 have g5:A5.get? A4.objs.size=some { cls:=.type "zip",data:=.fields #[.none,.bool false,.bool false,.ref A2.objs.size,.ref A3.objs.size] }:=by rw[<- hE];exact Heap.get?_push_size _ rfl
 have u5:∀c o,A4.get? c=some o->A5.get? c=some o:=fun c o e=>by rw[<- hE];exact Heap.get?_push_of_some _ e
 have u4:∀c o,A3.get? c=some o->A5.get? c=some o:=fun c o e=>u5 c o (by rw[<- hD];exact Heap.get?_push_of_some _ e)
 have u3:∀c o,A2.get? c=some o->A5.get? c=some o:=fun c o e=>u4 c o (by rw[<- hC];exact Heap.get?_push_of_some _ e)
 have u2:∀c o,A1.get? c=some o->A5.get? c=some o:=fun c o e=>u3 c o (by rw[<- hB];exact Heap.get?_push_of_some _ e)
 have u1:∀c o,s1.heap.get? c=some o->A5.get? c=some o:=fun c o e=>u2 c o (by rw[<- hA];exact Heap.get?_push_of_some _ e)
 have g4:A5.get? A3.objs.size=some { cls:=.type "tuple",data:=.seq #[.none,.none] }:=u5 _ _ (by rw[<- hD];exact Heap.get?_push_size _ rfl)
 have g3:A5.get? A2.objs.size=some { cls:=.type "tuple",data:=.seq #[.ref s1.heap.objs.size,.ref A1.objs.size] }:=u4 _ _ (by rw[<- hC];exact Heap.get?_push_size _ rfl)
 have g2:A5.get? A1.objs.size=some (zb.rcd ub):=u3 _ _ (by rw[<- hB];exact Heap.get?_push_size _ (jR _ _))
 have g1:A5.get? s1.heap.objs.size=some (za.rcd ua):=u2 _ _ (by rw[<- hA];exact Heap.get?_push_size _ (jR _ _))
 refine⟨⟨_,g5,rfl⟩,?_⟩
 have ez:IsZip A5 A4.objs.size A2.objs.size A3.objs.size .none:=g5
 refine wpAny_pyIter_zip ez ?_
 have R:ZRec A4.objs.size A2.objs.size A3.objs.size s1.heap.objs.size A1.objs.size:=by
  rw[z1,z2,z3,z4]
  refine⟨?_,?_,?_,?_,?_,?_,?_,?_,?_,?_⟩<;>first | exact addNe (by decide) | exact addNe0 (by decide) | exact (addNe0 (by decide)).symm
 have I5:Inv X pins σ H1 { s1 with heap:=A5 }:=I1.kept (t':=s1.toks) u1
 refine⟨A4.objs.size,[A4.objs.size,A2.objs.size,A3.objs.size,s1.heap.objs.size,A1.objs.size],_,_,H1,rfl,I5,qj za zb ua ub ra rb _ _ _ _ _ R,
  ⟨ez,g3,⟨_,_,g4⟩,za.st0 ra g1,zb.st0 rb g2⟩,fun b hb=>?_,q⟩
 have hb':s1.heap.objs.size<=b:=by
  simp only[aab,aak,or_false]at hb
  rcases hb with rfl | rfl | rfl | rfl | rfl<;>first | exact aac _ | (rw[z4];exact abD _ _) | (rw[z3];exact abD _ _) | (rw[z2];exact abD _ _) | (rw[z1];exact abD _ _)
 exact I1.fpOk hb' (I1.hok.fresh hb')
end
section
variable{X:Cx}
theorem t9{bs:List Bool}:∀{us:List Value},Vals (bs.map V.bl) us->LSm.BoolsAre us bs:=by
 induction bs with
 | nil=>intro us r;rw[aaQ]at r;cases r;exact .nil
 | cons b bs ih =>
  intro us r
  rw[aaj]at r
  cases r with
  | cons r1 r2=>cases r1;exact .cons b (ih r2)
theorem qk(hc:X.calm=true):bE X (.builtin "all") (fun xs H Q=>∃(p:Addr) (bs:List Bool),xs=[.ref p]/\SqL X.K H p (bs.map V.bl)/\Q (.bl (bs.all id)) H):=by
 intro pins s σ H xs us Q I r h
 obtain⟨p,bs,rfl,hq,q⟩:=h
 obtain⟨u,rfl,rx⟩:=vals1 r
 cases rx
 obtain⟨its,r',pl,hz⟩:=I.list hq
 obtain⟨m,F⟩:=I.fr
 have hlt:p < s.heap.objs.size:=by obtain⟨_,_,e,_⟩:=pl;exact Heap.lt_size e
 have hb:=t9 r'
 refine call_all_walk (wpAny_pyIter_list pl.isList ?_)
 refine⟨s.heap.objs.size,[s.heap.objs.size,p],[s.heap.objs.size],its.toArray.size,_,_,fun i=>(bs[i]?).getD true,rfl,Walks.list (A:=X.A.in1) (I.ok.hd hc) _ p (aao hlt) its.toArray,
  ⟨⟨_,Heap.get?_push_size _ rfl,rfl,rfl⟩,pl.isList.push _⟩,fun i v s' Q' E' hP hQ=>?_,fun h' tk hk=>?_⟩
 ·obtain⟨b,e,rfl⟩:=hb.get i v (by simpa using hP)
  simp only[e,Option.getD_some]at hQ
  exact wpAny_truthy_bool hQ
 ·have e:((List.range its.toArray.size).all fun i=>(bs[i]?).getD true)=bs.all id:=by
   rw[aat,hb.length];exact LSm.range_all bs
  rw[e]
  exact⟨.bl (bs.all id),H,I.kept (LSm.kept_iter hk),rfl,q⟩
end
end
section
mutual
inductive Dt (K:Waa)(H:Hp):V->PyData->Prop
 | non:Dt K H .non .none
 | bl (b:Bool):Dt K H (.bl b) (.bool b)
 | int (i:Int):Dt K H (.int i) (.int i)
 | str (x:Str):Dt K H (.str x) (.str x)
 | lst {a xs ds}:SqL K H a xs->DtAll K H xs ds->Dt K H (.ref a) (.list ds)
 | tup {a xs ds}:SqT K H a xs->DtAll K H xs ds->Dt K H (.ref a) (.tuple ds)
inductive DtAll (K:Waa)(H:Hp):List V->List PyData->Prop
 | nil:DtAll K H [] []
 | cons {x d xs ds}:Dt K H x d->DtAll K H xs ds->DtAll K H (x::xs) (d::ds)
end
theorem DtAll.length{K:Waa}(h:DtAll K H xs ds):xs.length=ds.length:=by
 induction xs generalizing ds with
 | nil=>cases h;rfl
 | cons v vs ih=>cases h with | cons _ t=>rw[aap,aap,ih t]
theorem DtAll.ints{K:Waa}:∀(ns:List Int),DtAll K H (ns.map V.int) (ns.map PyData.int)
 | []=>.nil
 | n::ns=>.cons (.int n) (DtAll.ints ns)
theorem Same.tupS{K:Waa}{H H':Hp}(e:Same H H')(h:SqT K H a xs):SqT K H' a xs:=by
 rcases h with (h | ⟨o,h⟩) | h
 ·exact .inl (.inl (e _ _ h))
 ·exact .inl (.inr ⟨o,e _ _ h⟩)
 ·exact .inr h
theorem Dt.ind{K:Waa}{P:V->PyData->Prop}{Q:List V->List PyData->Prop}(non:P .non .none)(bl:∀b,P (.bl b) (.bool b))(int:∀i,P (.int i) (.int i))(str:∀x,P (.str x) (.str x))
  (lst:∀{a xs ds},SqL K H a xs->Q xs ds->P (.ref a) (.list ds)) (tup:∀{a xs ds},SqT K H a xs->Q xs ds->P (.ref a) (.tuple ds)) (nil:Q [] []) (cons:∀{x d xs ds},P x d->Q xs ds->Q (x::xs) (d::ds)) :
  (∀{v d},Dt K H v d->P v d)/\∀{vs ds},DtAll K H vs ds->Q vs ds :=
 ⟨fun h=>Dt.rec non bl int str (fun h _ i=>lst h i) (fun h _ i=>tup h i) nil (fun _ _ i j=>cons i j) h,
  fun h=>DtAll.rec non bl int str (fun h _ i=>lst h i) (fun h _ i=>tup h i) nil (fun _ _ i j=>cons i j) h⟩
section
variable{X:Cx}{pins:List (Addr × Obj)}{σ:St}{H:Hp}{s:Shared}
theorem Dt.reads_(I:Inv X pins σ H s):(∀{x:V} {d:PyData},Dt X.K H x d->∀{u:Value},RelV x u->∃as,Reads s.heap u d as)/\∀{xs:List V} {ds:List PyData},DtAll X.K H xs ds->∀{us:List Value},Vals xs us->∃as,ReadsAll s.heap us ds as:=by
 refine Dt.ind (P:=fun x d=>∀{u:Value},RelV x u->∃as,Reads s.heap u d as) ?_ ?_ ?_ ?_ ?_ ?_ ?_ ?_
 ·intro u r;cases r;exact⟨_,.none⟩
 ·intro b u r;cases r;exact⟨_,.bool b⟩
 ·intro i u r;obtain⟨t,rfl⟩:=r;exact⟨_,.int i t⟩
 ·intro x u r;obtain⟨t,rfl⟩:=r;exact⟨_,.str x t⟩
 ·intro a xs ds h i u r
  cases r
  obtain⟨its,rv,⟨o,n,e,hc,_,hd⟩,_⟩:=I.list h
  obtain⟨as,q⟩:=i rv
  exact⟨_,.list e hc hd (by simpa using q)⟩
 ·intro a xs ds h i u r
  cases r
  obtain⟨its,rv,⟨o,e,hc,n,hd⟩,_⟩:=I.tuple h
  obtain⟨as,q⟩:=i rv
  exact⟨_,.tuple e hc hd (by simpa using q)⟩
 ·intro us r;cases r;exact⟨_,.nil⟩
 ·intro x d xs ds i j us r
  cases r with
  | cons r1 r2 =>
   obtain⟨as,q⟩:=i r1
   obtain⟨bs,p⟩:=j r2
   exact⟨_,.cons q p⟩
theorem Dt.reads(I:Inv X pins σ H s)(h:Dt X.K H x d)(r:RelV x u):∃as,Reads s.heap u d as:=(Dt.reads_ I).1 h r
end
section
variable{X:Cx}
def AD(K:Waa):R2:=fun x y H Q=>∃da db,Dt K H x da/\Dt K H y db/\SeqAt.shaped da=true/\SeqAt.shaped db=true/\Q (.bl (PyData.eqv da db)) H
def AE(K:Waa):R2:=fun x y H Q=>∃da db,Dt K H x da/\Dt K H y db/\SeqAt.shaped da=true/\SeqAt.shaped db=true/\Q (.bl (!PyData.eqv da db)) H
theorem xZ(hu:X.A.units + 64 < cLine):OpR X (compareOp .Eq) (AD X.K):=by
 intro pins s σ H x y v u Q I rx ry h
 obtain⟨da,db,ra,rb,sa,sb,q⟩:=h
 obtain⟨as,r1⟩:=ra.reads I rx
 obtain⟨bs,r2⟩:=rb.reads I ry
 exact eq_dataH r1 r2 sa sb hu ⟨.bl _,H,I,rfl,q⟩
theorem x9(hu:X.A.units + 64 < cLine):OpR X (compareOp .NotEq) (AE X.K):=by
 intro pins s σ H x y v u Q I rx ry h
 obtain⟨da,db,ra,rb,sa,sb,q⟩:=h
 obtain⟨as,r1⟩:=ra.reads I rx
 obtain⟨bs,r2⟩:=rb.reads I ry
 exact ne_dataH r1 r2 sa sb hu ⟨.bl _,H,I,rfl,q⟩
theorem kit_same(K:Waa)(T:String):PySem.W.kitOne K (.type T) (.type T)=some true:=by
 unfold PySem.W.kitOne
 rw[if_pos (by simp)]
theorem kit_tl(K:Waa):PySem.W.kitOne K (.type "tuple") (.type "list")=some false:=by kernel_rfl
theorem kit_bi(K:Waa):PySem.W.kitOne K (.type "bool") (.type "int")=some true:=by kernel_rfl
theorem kit_ib(K:Waa):PySem.W.kitOne K (.type "int") (.type "bool")=some false:=by kernel_rfl
theorem kit_il(K:Waa):PySem.W.kitOne K (.type "int") (.type "list")=some false:=by kernel_rfl
theorem kit_it(K:Waa):PySem.W.kitOne K (.type "int") (.type "tuple")=some false:=by kernel_rfl
theorem kit_sl(K:Waa):PySem.W.kitOne K (.type "str") (.type "list")=some false:=by kernel_rfl
theorem kit_st(K:Waa):PySem.W.kitOne K (.type "str") (.type "tuple")=some false:=by kernel_rfl
theorem kit_si(K:Waa):PySem.W.kitOne K (.type "str") (.type "int")=some false:=by kernel_rfl
theorem kit_bl(K:Waa):PySem.W.kitOne K (.type "bool") (.type "list")=some false:=by kernel_rfl
theorem kit_bt(K:Waa):PySem.W.kitOne K (.type "bool") (.type "tuple")=some false:=by kernel_rfl
theorem kit_bs(K:Waa):PySem.W.kitOne K (.type "bool") (.type "str")=some false:=by kernel_rfl
theorem kit_nl(K:Waa):PySem.W.kitOne K (.type "NoneType") (.type "list")=some false:=by kernel_rfl
theorem kit_nt(K:Waa):PySem.W.kitOne K (.type "NoneType") (.type "tuple")=some false:=by kernel_rfl
theorem kit_ni(K:Waa):PySem.W.kitOne K (.type "NoneType") (.type "int")=some false:=by kernel_rfl
theorem kit_li(K:Waa):PySem.W.kitOne K (.type "list") (.type "int")=some false:=by kernel_rfl
theorem kit_ti(K:Waa):PySem.W.kitOne K (.type "tuple") (.type "int")=some false:=by kernel_rfl
inductive Ty (K:Waa)(H:Hp):V->String->Prop
 | non:Ty K H .non "NoneType"
 | bl (b:Bool):Ty K H (.bl b) "bool"
 | int (i:Int):Ty K H (.int i) "int"
 | str (x:Str):Ty K H (.str x) "str"
 | lst {a xs}:SqL K H a xs->Ty K H (.ref a) "list"
 | tup {a xs}:SqT K H a xs->Ty K H (.ref a) "tuple"
theorem Ty.kitx(I:Inv X pins σ H s)(ty:Ty X.K H x n)(rx:RelV x u) :
  ∃Z:Heap->Prop,PySem.W.KitX X.K u (.type n) Z/\Z s.heap/\u≠.builtin "__main__.__loader__#opaque":=by
 cases ty with
 | non=>cases rx;exact⟨_,PySem.W.kitx_none,trivial,fun z=>nomatch z⟩
 | bl b=>cases rx;exact⟨_,PySem.W.kitx_bool,trivial,fun z=>nomatch z⟩
 | int i=>obtain⟨t,rfl⟩:=rx;exact⟨_,PySem.W.kitx_int,trivial,fun z=>nomatch z⟩
 | str x=>obtain⟨t,rfl⟩:=rx;exact⟨_,PySem.W.kitx_str,trivial,fun z=>nomatch z⟩
 | lst h =>
  cases rx
  obtain⟨its,_,⟨o,n,e,hc,_⟩,_⟩:=I.list h
  exact⟨_,PySem.W.kitx_list,⟨o,e,hc⟩,fun z=>nomatch z⟩
 | tup h =>
  cases rx
  obtain⟨its,_,⟨o,e,hc,_⟩,_⟩:=I.tuple h
  exact⟨_,PySem.W.kitx_tuple,⟨o,e,hc⟩,fun z=>nomatch z⟩
theorem ql(T:String):bE X (.builtin "isinstance") (fun xs H Q=>∃x n b,xs=[x,.ty T]/\Ty X.K H x n/\PySem.W.kitOne X.K (.type n) (.type T)=some b/\Q (.bl b) H):=by
 intro pins s σ H xs us Q I r h
 obtain⟨x,n,b,rfl,ty,e,q⟩:=h
 obtain⟨u,v,rfl,rx,ry⟩:=r.two
 cases ry
 obtain⟨Z,kx,z,ne⟩:=ty.kitx I rx
 exact PySem.W.kia_one kx I.kIn z e ne fun tk=>⟨.bl b,H,I.tok _,rfl,q⟩
theorem om(S T:String):bE X (.builtin "isinstance") (fun xs H Q=>∃x n b p,xs=[x,.ref p]/\H p=some (.tup [.ty S,.ty T])/\Ty X.K H x n/\PySem.W.kitAny X.K (.type n) [.type S,.type T]=some b/\Q (.bl b) H):=by
 intro pins s σ H xs us Q I r h
 obtain⟨x,n,b,p,rfl,hp,ty,e,q⟩:=h
 obtain⟨u,v,rfl,rx,ry⟩:=r.two
 cases ry
 obtain⟨Z,kx,z,ne⟩:=ty.kitx I rx
 obtain⟨_,its,rv,⟨⟨c,dd,dt,sl⟩,eo,hc,nn,hd⟩⟩:=I.hok p _ hp
 obtain⟨u1,u2,rfl,r1,r2⟩:=rv.two
 cases r1
 cases r2
 replace hc:c=.type "tuple":=hc
 replace hd:dt=.seq [Value.type S,Value.type T].toArray nn:=hd
 subst hc hd
 exact PySem.W.kia_tup kx I.kIn z eo e ne fun tk=>⟨.bl b,H,I.tok _,rfl,q⟩
theorem gg(K:Waa)(h1:PySem.W.kitOne K (.type n) (.type S)=some true\/(PySem.W.kitOne K (.type n) (.type S)=some false/\PySem.W.kitOne K (.type n) (.type T)=some true)) :
  PySem.W.kitAny K (.type n) [.type S,.type T]=some true:=by
 rcases h1 with h | ⟨h,h'⟩
 ·simp[PySem.W.kitAny,h]
 ·simp[PySem.W.kitAny,h,h']
theorem dm(K:Waa)(h:PySem.W.kitOne K (.type n) (.type S)=some false)(h':PySem.W.kitOne K (.type n) (.type T)=some false) :
  PySem.W.kitAny K (.type n) [.type S,.type T]=some false:=by
 simp[PySem.W.kitAny,h,h']
end
end
section
section
variable{X:Cx}{pos:Pos}
def AF(i j k:Nat)(ta:TA):TS:=fun D σ H=>ta σ H fun vs H1=>∃v w u,vs=[v,w,u]/\D.nx (((σ.set i (some v)).set j (some w)).set k (some u)) H1
theorem uc{kt k2 pt2}(hc:X.calm=true)(hN:X.N.Nodup)(hi:X.N[i]?=some x)(hj:X.N[j]?=some y)(hk:X.N[k]?=some z)(hij:i≠j)(hik:i≠k)(hjk:j≠k)
  (hx:X.env.scope.names.lookup x=some .local) (hy:X.env.scope.names.lookup y=some .local) (hz:X.env.scope.names.lookup z=some .local) (ha:PA X [a,b,c] ta)
  (hw:swappedStores [.Tuple [.Name x px,.Name y py,.Name z pz] kt pt] (.Tuple [a,b,c] k2 pt2) X.env=pure (some [x,y,z]))
  (hs:swapsWithSole [.Tuple [.Name x px,.Name y py,.Name z pz] kt pt] (.Tuple [a,b,c] k2 pt2) pos.line X.env=pure false:=by rfl) :
  PS X (.Assign [.Tuple [.Name x px,.Name y py,.Name z pz] kt pt] (.Tuple [a,b,c] k2 pt2) pos) (AF i j k ta):=by
 intro pins s σ H D I h
 rw[exec_Assign_arm]
 refine wpAny_bind (wpAny_standAt ?_)
 rw[hs]
 refine wpAny_bind (wpAny_pure ?_)
 rw[if_neg (by decide)]
 refine wpAny_bind (Tuple_ (thn (ha _ pins s σ H _ I h) fun us s1 ⟨vs,H1,I1,r1,q1⟩=>?_))
 obtain⟨v,w,u,e1,q1⟩:=q1
 subst e1
 obtain⟨u1,u2,u3,rfl,rv,rw',ru⟩:∃u1 u2 u3,us=[u1,u2,u3]/\RelV v u1/\RelV w u2/\RelV u u3:=by
  cases r1 with
  | cons p q =>
   cases q with
   | cons p' q' =>
    cases q' with
    | cons p'' q'' =>
     cases q''
     exact⟨_,_,_,rfl,p,p',p''⟩
 refine wpAny_newObj_type ?_ (by show 3<=sizeLine;decide)
 have I2:Inv X pins σ H1 { s1 with heap:=s1.heap.push { cls:=.type "tuple",data:=.seq [u1,u2,u3].toArray } }:=I1.kept fun b o e=>Heap.get?_push_of_some _ e
 rw[hw]
 refine wpAny_bind (wpAny_pure ?_)
 show wpAny (model X.prog X.w) X.A (do rule "assign.swapped-stores";let items <- unpackItems (.ref s1.heap.objs.size) 3 none;assignInOrder [fun v=>bindName X.env z v,fun v=>bindName X.env y v,fun v=>bindName X.env x v] items.reverse;pure Flow.next) _ _ _
 refine wpAny_bind (wpAny_rule (wpAny_bind (unpackItems_tuple (items:=#[u1,u2,u3]) (I.ok.hd hc) (IsTup.new s1.heap _) fun h' hx'=>?_)))
 have I3:=I2.kept (t':=s1.toks) fun b o e=>hx' b o (aao (Heap.lt_size e)) e
 show wpAny _ _ (assignInOrder [fun v=>bindName X.env z v,fun v=>bindName X.env y v,fun v=>bindName X.env x v] [u3,u2,u1] >>= fun _=>pure Flow.next) _ _ _
 refine wpAny_bind (assignInOrder_cons (wpAny_bindName (bL I3 hN hk (.inl hz) ru (fun s2 I4=>?_) (.inr hz))))
 refine assignInOrder_cons (wpAny_bindName (bL I4 hN hj (.inl hy) rw' (fun s3 I5=>?_) (.inr hy)))
 refine assignInOrder_cons (wpAny_bindName (bL I5 hN hi (.inl hx) rv (fun s4 I6=>assignInOrder_nil (wpAny_pure ?_)) (.inr hx)))
 have e:((σ.set k (some u)).set j (some w)).set i (some v)=((σ.set i (some v)).set j (some w)).set k (some u):=by
  rw[aby _ _ (aaM hij),aby _ _ (aaM hik),aby _ _ (aaM hjk)]
 rw[e]at I6
 exact⟨_,H1,I6,q1⟩
end
def Keep(S:List Addr)(H H':Hp):Prop:=∀b o,H b=some o->b ∉ S->H' b=some o
theorem Keep.same(a:Keep [] H H'):Same H H':=fun b o h=>a b o h (by simp)
end
section
theorem qm:bootBuiltins "len"=some (.builtin "len"):=by decide +kernel
theorem ya:bootBuiltins "abs"=some (.builtin "abs"):=by decide +kernel
theorem qo:bootBuiltins "max"=some (.builtin "max"):=by decide +kernel
theorem yb:bootBuiltins "min"=some (.builtin "min"):=by decide +kernel
theorem yc:bootBuiltins "all"=some (.builtin "all"):=by decide +kernel
theorem dB:bootBuiltins "isinstance"=some (.builtin "isinstance"):=by decide +kernel
theorem qp:bootBuiltins "int"=some (.type "int"):=by decide +kernel
theorem ud:bootBuiltins "bool"=some (.type "bool"):=by decide +kernel
theorem qq:bootBuiltins "str"=some (.type "str"):=by decide +kernel
theorem mj:bootBuiltins "list"=some (.type "list"):=by decide +kernel
theorem gh:bootBuiltins "tuple"=some (.type "tuple"):=by decide +kernel
section
variable{H:Hp}{Q:VK}{K:Waa}{x y v:V}{i j:Int}{p l:Addr}{xs:List V}
theorem i7(h:n<=1000000):n<=sizeLine:=aaq h (by decide)
end
end
section
section
variable{κ:Type}[DecidableEq κ]
def valV(kvs:List (κ × V))(k:κ):Option V:=(kvs.find? fun kv=>decide (kv.1=k)).map (·.2)
def putK(kvs:List (κ × V))(k:κ)(v:V):List (κ × V) :=
 if (kvs.any fun kv=>decide (kv.1=k))=true then kvs.map (fun kv=>if kv.1=k then (kv.1,v) else kv) else kvs++[(k,v)]
theorem dR{p:κ × V}{r:List (κ × V)}{k:κ}(e:p.1=k):valV (p::r) k=some p.2:=by simp[valV,aa2,e]
theorem jS{p:κ × V}{r:List (κ × V)}{k:κ}(e:¬ p.1=k):valV (p::r) k=valV r k:=by simp[valV,aa2,e]
theorem jT(kvs:List (κ × V))(k:κ)(v:V):(putK kvs k v).length<=kvs.length + 1:=by
 unfold putK
 split
 ·rw[aaa];omega
 ·rw[aaA,aap,abg];omega
theorem RelO.isSome_eq{o:Option V}{u:Option Value}(r:RelO o u):o.isSome=u.isSome:=by
 cases o with
 | none=>cases u with
  | none=>rfl
  | some _=>exact (show False from r).elim
 | some _=>cases u with
  | none=>exact (show False from r).elim
  | some _=>rfl
theorem KV.val{kvs:List (κ × V)}{vs:List (κ × Value)}(r:KV kvs vs)(k:κ):RelO (valV kvs k) (valueAt vs k):=by
 unfold KV at r
 induction r with
 | nil=>exact True.intro
 | @cons p q ps qs h t ih =>
  obtain⟨h1,h2⟩:=h
  by_cases e:p.1=k
  ·have e':q.1=k:=h1.symm.trans e
   have b:valueAt (q::qs) k=some q.2:=by simp[valueAt,aa2,e']
   rw[dR e,b];exact h2
  ·have e':¬ q.1=k:=fun z=>e (h1.trans z)
   have b:valueAt (q::qs) k=valueAt qs k:=by simp[valueAt,aa2,e']
   rw[jS e,b];exact ih
theorem KV.any{kvs:List (κ × V)}{vs:List (κ × Value)}(r:KV kvs vs)(k:κ):(kvs.any fun kv=>decide (kv.1=k))=vs.any fun kv=>decide (kv.1=k):=by
 unfold KV at r
 induction r with
 | nil=>rfl
 | cons h t ih=>rw[aa7,aa7,ih,h.1]
theorem KV.repl{kvs:List (κ × V)}{vs:List (κ × Value)}(r:KV kvs vs)(k:κ){y:V}{u:Value}(ry:RelV y u) :
  KV (kvs.map fun kv=>if kv.1=k then (kv.1,y) else kv) (vs.map fun kv=>if kv.1=k then (kv.1,u) else kv):=by
 unfold KV at r ⊢
 induction r with
 | nil=>exact .nil
 | @cons p q ps qs h t ih =>
  rw[aaj,aaj]
  refine .cons ?_ ih
  obtain⟨h1,h2⟩:=h
  by_cases e:p.1=k
  ·rw[if_pos e,if_pos (h1.symm.trans e)];exact⟨h1,ry⟩
  ·rw[if_neg e,if_neg (fun z=>e (h1.trans z))];exact⟨h1,h2⟩
theorem KV.put{kvs:List (κ × V)}{vs:List (κ × Value)}(r:KV kvs vs)(k:κ){y:V}{u:Value}(ry:RelV y u):KV (putK kvs k y) (stored vs k u):=by
 unfold putK stored
 rw[r.any k]
 by_cases e:(vs.any fun kv=>decide (kv.1=k))=true
 ·rw[if_pos e,if_pos e];exact r.repl k ry
 ·rw[if_neg e,if_neg e];exact Paired.snoc r ⟨rfl,ry⟩
theorem KV.length{kvs:List (κ × V)}{vs:List (κ × Value)}(r:KV kvs vs):kvs.length=vs.length:=Paired.length r
end
theorem jU{P:Program}{w:World}{k:Key}{u:Value}(r:RelV (kV k) u):(bq P w).is k u=true:=by
 cases k with
 | inl i=>obtain⟨t,e⟩:=(show ∃t,u=Value.int i t from r);subst e;exact jH P w i t
 | inr x=>obtain⟨t,e⟩:=(show ∃t,u=Value.str x t from r);subst e;exact jI P w x t
theorem iq{P:Program}{w:World}:∀{ks:List Key} {us:List Value},Vals (ks.map kV) us->ItemsAre (bq P w) ks us
 | [],_,r=>by rw[aaQ]at r;cases r;exact .nil
 | k::ks,_,r=>by
  rw[aaj]at r
  cases r with
  | cons h t=>exact .cons (jU h) (iq t)
abbrev KT(H:Hp):List (List Key × V)->List (List Key × Addr × Value)->Prop:=Paired fun p q=>p.1=q.1/\H q.2.1=some (.tup (p.1.map kV))/\RelV p.2 q.2.2
theorem KT.val{H:Hp}{kvs:List (List Key × V)}{xs:List (List Key × Addr × Value)}(r:KT H kvs xs)(k:List Key):RelO (valV kvs k) ((atKey xs k).map (·.2)):=by
 induction r with
 | nil=>exact True.intro
 | @cons p q ps qs h t ih =>
  obtain⟨h1,_,h2⟩:=h
  by_cases e:p.1=k
  ·have e':q.1=k:=h1.symm.trans e
   have b:atKey (q::qs) k=some q.2:=by simp[atKey,aa2,e']
   rw[dR e,b];exact h2
  ·have e':¬ q.1=k:=fun z=>e (h1.trans z)
   have b:atKey (q::qs) k=atKey qs k:=by simp[atKey,aa2,e']
   rw[jS e,b];exact ih
section
variable{P:Program}{w:World}{H:Hp}{h:Heap}{a:Addr}
theorem wm{u:HO}(ok:HOk P w H h)(e:Rd H a u):ObjOk P w H h a u:=e.ok ok
theorem jV{kvs:List (Key × V)}(ok:HOk P w H h)(e:Rd H a (.dK kvs)):kvs.length<=sizeLine/\(a == sysModules)=false/\∃vs,KV kvs vs/\h.DictOf (bq P w) a vs :=
 show ObjOk P w H h a (.dK kvs) from wm ok e
theorem AG{kvs:List (Key × V)}(ok:HOk P w H h)(e:H a=some (.dK kvs)):kvs.length<=sizeLine/\(a == sysModules)=false/\∃vs,KV kvs vs/\h.DictOf (bq P w) a vs:=jV ok (.inl e)
theorem i8{ks:List Key}(ok:HOk P w H h)(e:H a=some (.tup (ks.map kV))):(tupleKind (bq P w)).is h ks a:=by
 obtain⟨_,its,r,o,h1,h2,n,h3⟩:=(show ObjOk P w H h a (.tup (ks.map kV)) from ok a _ e)
 exact⟨o,its.toArray,n,h1,h2,h3,by simpa using iq r⟩
theorem mq{kvs:List (List Key × V)}(ok:HOk P w H h)(e:Rd H a (.dT kvs)):kvs.length<=sizeLine/\(a == sysModules)=false /\
  ∃xs,KT H kvs xs/\h.DictOfH (tupleKind (bq P w)) a xs:=by
 obtain⟨z,y,xs,r,o,es,ep,h1,h2,h3,h4,h5⟩:=(show ObjOk P w H h a (.dT kvs) from wm ok e)
 refine⟨z,y,xs,r,o,es,ep,h1,h2,h3,h4,fun x hx=>?_,h5⟩
 have all:∀{l:List (List Key × V)} {m:List (List Key × Addr × Value)},KT H l m->∀x∈m,(tupleKind (bq P w)).is h x.1 x.2.1:=by
  intro l m q
  induction q with
  | nil=>intro x hx;exact nomatch hx
  | @cons p q ps qs hq t ih =>
   intro x hx
   rcases aab.mp hx with e | hx
   ·subst e
    exact i8 ok (by rw[<- hq.1];exact hq.2.1)
   ·exact ih x hx
 exact all r x hx
end
def DGet(H:Hp)(a:Addr)(y:V)(r:Option V):Prop :=
 (∃kvs k,Rd H a (.dK kvs)/\y=kV k/\r=valV kvs k)\/∃kvs k b,Rd H a (.dT kvs)/\y=.ref b/\H b=some (.tup (k.map kV))/\r=valV kvs k
theorem DGet.k{H:Hp}{a:Addr}{kvs:List (Key × V)}{k:Key}(e:H a=some (.dK kvs)):DGet H a (kV k) (valV kvs k):=.inl ⟨kvs,k,.inl e,rfl,rfl⟩
section
variable{X:Cx}{pins:List (Addr × Obj)}{σ:St}{H:Hp}{s:Shared}{a:Addr}{y v:V}{u r:Value}{o:Option V}{A:Around}{E:Value->Shared->Prop}
theorem Inv.big(I:Inv X pins σ H s):sysModules < s.heap.objs.size:=by
 have h:mainGlobals < s.heap.objs.size:=(I.mod.glob.keeps I.bk).lt
 exact abC (by decide) h
theorem oo{Q:Value->Shared->Prop}(hu:A.units + 1 < cLine)(I:Inv X pins σ H s)(g:DGet H a y (some v))(ry:RelV y u)(h:∀w' s',Inv X pins σ H s'->RelV v w'->Q w' s') :
  wpAny (model X.prog X.w) A (getItem (.ref a) u) Q E s:=by
 rcases g with ⟨kvs,k,e,ey,l⟩ | ⟨kvs,k,b,e,ey,eb,l⟩
 ·subst ey
  obtain⟨z,hd,vs,rel,dd⟩:=jV I.hok e
  obtain⟨w',hw,rw'⟩:=RelO.some_of (v:=v) (o:=valueAt vs k) (by rw[l];exact rel.val k)
  exact wpAny_getItem_of (jU ry) dd.mapOf hw (h w' _ (I.tok _) rw')
 ·subst ey
  cases (show u=Value.ref b from ry)
  obtain⟨z,hd,xs,rel,dd⟩:=mq I.hok e
  obtain⟨w',hw,rw'⟩:=RelO.some_of (v:=v) (o:=(atKey xs k).map (·.2)) (by rw[l];exact rel.val k)
  obtain⟨p,hp,hp2⟩:=aaL.mp hw
  refine wpAny_getItem_heap (tupleKind_room_in1 hu) (i8 I.hok eb) dd hp ?_
  rw[hp2]
  exact h w' _ (I.tok _) rw'
theorem Dw{Q:Value->Shared->Prop}(hu:A.units + 1 < cLine)(I:Inv X pins σ H s)(g:DGet H a y o)(ry:RelV y u)(h:∀s',Inv X pins σ H s'->Q (.bool o.isSome) s') :
  wpAny (model X.prog X.w) A (compareOp .In u (.ref a)) Q E s:=by
 rcases g with ⟨kvs,k,e,ey,l⟩ | ⟨kvs,k,b,e,ey,eb,l⟩
 ·subst ey
  obtain⟨z,hd,vs,rel,dd⟩:=jV I.hok e
  refine wpAny_in_of (jU ry) hd dd.mapOf ?_
  rw[<- (rel.val k).isSome_eq,<- l]
  exact h _ (I.tok _)
 ·subst ey
  cases (show u=Value.ref b from ry)
  obtain⟨z,hd,xs,rel,dd⟩:=mq I.hok e
  refine wpAny_in_heap (tupleKind_room_in1 hu) (i8 I.hok eb) hd dd ?_
  have q:=(rel.val k).isSome_eq
  rw[Option.isSome_map]at q
  rw[<- q,<- l]
  exact h _ (I.tok _)
theorem ue{Q:Value->Shared->Prop}(hu:A.units + 1 < cLine)(I:Inv X pins σ H s)(g:DGet H a y o)(ry:RelV y u)(h:∀s',Inv X pins σ H s'->Q (.bool (!o.isSome)) s') :
  wpAny (model X.prog X.w) A (compareOp .NotIn u (.ref a)) Q E s:=by
 rcases g with ⟨kvs,k,e,ey,l⟩ | ⟨kvs,k,b,e,ey,eb,l⟩
 ·subst ey
  obtain⟨z,hd,vs,rel,dd⟩:=jV I.hok e
  refine wpAny_notIn_of (jU ry) hd dd.mapOf ?_
  rw[<- (rel.val k).isSome_eq,<- l]
  exact h _ (I.tok _)
 ·subst ey
  cases (show u=Value.ref b from ry)
  obtain⟨z,hd,xs,rel,dd⟩:=mq I.hok e
  refine wpAny_notIn_heap (tupleKind_room_in1 hu) (i8 I.hok eb) hd dd ?_
  have q:=(rel.val k).isSome_eq
  rw[Option.isSome_map]at q
  rw[<- q,<- l]
  exact h _ (I.tok _)
theorem uf{h':Heap}{t':Nat}{ob:HO}(I:Inv X pins σ H s)(mu:z9 (H a))(hs:Heap.SameBut a s.heap h')(he:∃q,h'.get? a=some q)(new:ObjOk X.prog X.w (upd H a ob) h' a ob) :
  Inv X pins σ (upd H a ob) { s with heap:=h',toks:=t' } :=
 I.write (x:=a) (e:=a) mu (.inl rfl) (fun b q hb z=>(hs.2 b hb).trans z) he new
theorem yd{P:Program}{w:World}{H':Hp}{h':Heap}{kvs:List (Key × V)}{vs:List (Key × Value)}(z:kvs.length<=sizeLine)(hd:(a == sysModules)=false)(rel:KV kvs vs)(dd:h'.DictOf (bq P w) a vs) :
  ObjOk P w H' h' a (.dK kvs):=⟨z,hd,vs,rel,dd⟩
end
def NoSl(i:Expr):Prop:=∀ov iv,subscripted i false ov iv=operate [ov,iv] (getItem ov iv)
theorem subD_of{prog:Program}{w:World}{A:Around}{E:Value->Shared->Prop}{s:Shared}{env:Env}{value slice:Expr}{pos:Pos}{T id:String}{Q:Value->Shared->Prop}
  (hl:typeLookup (.type T) "__getitem__"=pure (some (.builtin id))) (hs:NoSl slice)
  (h:wpAny (model prog w) A (eval value env) (fun o s₁=>wpAny (model prog w) A (eval slice env) (fun i s₂=>s₂.TypeIs o T/\wpAny (model prog w) A (getItem o i) Q E s₂) E s₁) E s) :
  wpAny (model prog w) A (eval (.Subscript value slice pos) env) Q E s:=by
 refine Subscript_ (wpAny_mono h (fun o s₁ h₁=>wpAny_mono h₁ (fun i s₂ h₂=>?_) fun _ _ x=>x) fun _ _ x=>x)
 obtain⟨hT,h₂⟩:=h₂
 unfold subscriptTail
 refine wpAny_bind ?_
 rw[getitemInPython_of_ne hT.not_modules]
 refine wpAny_bind (wpAny_specialOf hT hl ?_)
 have fin:wpAny (model prog w) A (subscripted slice false o i) (fun r s₃=>wpAny (model prog w) A (letTemporaryGo value o r >>= fun _=>pure r) Q E s₃) E s₂:=by
  rw[hs o i]
  exact wpAny_operating (wpAny_mono h₂ (fun r s₃ h₃=>wpAny_bind (wpAny_letTemporaryGo (wpAny_pure h₃))) fun _ _ x=>x)
 first
  | exact wpAny_pure (wpAny_bind fin)
  | exact wpAny_bind (wpAny_pure (wpAny_bind fin))
  | exact wpAny_bind fin
theorem jW{X:Cx}{pins:List (Addr × Obj)}{σ:St}{H:Hp}{s:Shared}{a:Addr}{y:V}{o:Option V}(I:Inv X pins σ H s)(g:DGet H a y o):s.TypeIs (.ref a) "dict":=by
 rcases g with ⟨kvs,k,e,_,_⟩ | ⟨kvs,k,b,e,_,_,_⟩
 ·obtain⟨_,_,vs,_,dd⟩:=jV I.hok e
  exact dd.typeIs
 ·obtain⟨_,_,xs,_,dd⟩:=mq I.hok e
  exact dd.typeIs
def AH(td ty:TE):TE:=fun σ H Q=>td σ H fun x H1=>ty σ H1 fun y H2=>∃a v,x=.ref a/\DGet H2 a y (some v)/\Q v H2
def AI(ty td:TE):TE:=fun σ H Q=>ty σ H fun y H1=>td σ H1 fun x H2=>∃a o,x=.ref a/\DGet H2 a y o/\Q (.bl o.isSome) H2
def mr(ty td:TE):TE:=fun σ H Q=>ty σ H fun y H1=>td σ H1 fun x H2=>∃a o,x=.ref a/\DGet H2 a y o/\Q (.bl (!o.isSome)) H2
section
variable{X:Cx}{o i e value:Expr}{pos pos' tpos:Pos}{td ty tv:TE}
theorem ug(hu:X.A.units + 1 < cLine)(ho:PE X o td)(hi:PE X i ty)(hs:NoSl i):PE X (.Subscript o i pos) (AH td ty):=by
 intro pins s σ H Q I h
 refine subD_of PySem.F.slot_dict_getitem.lookup hs (thn (ho pins s σ H _ I h) fun u s1 ⟨x,H1,I1,rx,q1⟩=>thn (hi pins s1 σ H1 _ I1 q1) fun iv s2 hZ=>?_)
 obtain⟨y,H2,I2,ry,a,v,ex,g,q2⟩:=hZ
 subst ex
 obtain rfl:u=Value.ref a:=rx
 exact⟨jW I2 g,oo hu I2 g ry fun w' s3 I3 rw'=>⟨v,H2,I3,rw',q2⟩⟩
theorem qr(hu:X.A.units + 1 < cLine)(hi:PE X i ty)(ho:PE X o td):PC X .In i o (AI ty td):=by
 intro pins s σ H Q I h
 refine thn (hi pins s σ H _ I h) fun iv s1 ⟨y,H1,I1,ry,q1⟩=>thn (ho pins s1 σ H1 _ I1 q1) fun u s2 hZ=>?_
 obtain⟨x,H2,I2,rx,a,ov,ex,g,q2⟩:=hZ
 subst ex
 obtain rfl:u=Value.ref a:=rx
 exact Dw hu I2 g ry fun s3 I3=>⟨.bl ov.isSome,H2,I3,rfl,q2⟩
theorem ir(hu:X.A.units + 1 < cLine)(hi:PE X i ty)(ho:PE X o td):PC X .NotIn i o (mr ty td):=by
 intro pins s σ H Q I h
 refine thn (hi pins s σ H _ I h) fun iv s1 ⟨y,H1,I1,ry,q1⟩=>thn (ho pins s1 σ H1 _ I1 q1) fun u s2 hZ=>?_
 obtain⟨x,H2,I2,rx,a,ov,ex,g,q2⟩:=hZ
 subst ex
 obtain rfl:u=Value.ref a:=rx
 exact ue hu I2 g ry fun s3 I3=>⟨.bl (!ov.isSome),H2,I3,rfl,q2⟩
end
theorem qt{P:Program}{w:World}{H:Hp}(h:Heap)(hb:sysModules < h.objs.size):ObjOk P w H (h.push { cls:=.type "dict",data:=.dict #[] }) h.objs.size (.dK []) :=
 ⟨aaE _,beq_eq_false_iff_ne.mpr (aaM (aao hb)),[],.nil,Heap.DictOf.new h⟩
end
end L2
namespace L2
open PySem PySem.Spec PyProof.Rows
section
def Dx(K:Waa)(l:Addr):It :=
 ⟨fun i H=>∃xs x,SqL K H l xs/\xs[i]?=some x,
  fun i H v H'=>∃T x,(∀xs,SqL K H l xs->xs[i]?=some x)/\H T=none/\v=.ref T/\H'=upd H T (.tup [.int i,x]),
  fun i H=>∃xs,SqL K H l xs/\xs.length<=i⟩
theorem oq{P:Program}{w:World}{K:Waa}{es:List Expr}{x1}{pos:Pos}(l e it:Addr)(hne:e≠it) :
  Turn P w K (.Tuple es x1 pos) (Dx K l) [e,it] e (fun i h=>(∃old,IsEnum h e it (i:Int) old)/\h.IsListIter it l i) where
 mem:=by simp
 obj:=fun i h ⟨⟨old,h1⟩,h2⟩ c hc=>by
  simp only[aab,aak,or_false]at hc
  rcases hc with rfl | rfl
  ·exact⟨_,h1,fun v z=>by cases z⟩
  ·obtain⟨o,e,c,d⟩:=h2;exact⟨o,e,fun v z=>by rw[d]at z;cases z⟩
 keep:=fun i h h' ⟨⟨old,h1⟩,h2⟩ k=>⟨⟨old,k e (by simp) _ h1⟩,h2.at fun o e=>k it (by simp) o e⟩
 item:=by
  intro X hP hw hK hc i pins s σ H E I hf ⟨⟨old,h1⟩,h2⟩ hg
  subst hP hw hK
  obtain⟨xs,x,hq,hx⟩:=hg
  obtain⟨its,rv,p,hz⟩:=I.list hq
  obtain⟨u,hu,ru⟩:=rv.get hx
  have le:e < s.heap.objs.size:=Heap.lt_size h1
  have li:it < s.heap.objs.size:=by obtain⟨o,e',_⟩:=id h2;exact Heap.lt_size e'
  refine wpAny_pyNext_enum_item h1 h2 p.isList (x:=u) (by simpa using hu) hne fun h' he' hit' hT hsz hk=>?_
  refine⟨.ref s.heap.objs.size,rfl,?_⟩
  refine wpAny_letOwnedTupleGo_enum he' fun h'' he'' hs''=>?_
  have hs'':Heap.SameBut e h' h'':=hs''
  have k1:∀c o,c ∉ ([e,it]:List Addr)->s.heap.get? c=some o->h''.get? c=some o:=fun c o hc q=>by
   simp only[aab,aak,or_false,not_or]at hc
   exact hs''.extBut _ _ hc.1 (hk c o hc.1 hc.2 q)
  have hn:H s.heap.objs.size=none:=I.hok.fresh (aac _)
  have I1:Inv X pins σ H { s with heap:=h'',toks:=s.toks + 1 }:=I.turnedL k1 hf
  have hT'':IsPair h'' s.heap.objs.size (.int i s.toks) u:=hs''.extBut _ _ (aaX le) hT
  have I2:Inv X pins σ (upd H s.heap.objs.size (.tup [.int i,x])) { s with heap:=h'',toks:=s.toks + 1 }:=by
   refine I.step (g':=s.gens) (d':=s.drawn) (ch:=[e,it]) (fun b hb=>?_) (fun b o _ _ hc e _=>k1 b o hc e) (fun b o _ _ hc e _=>⟨o.slots,k1 b o hc e⟩) (fun b o hc e n=>?_)
    (fun b o hc e=>⟨o,k1 b o hc e⟩) (fun b ys e=>?_) (fun b o u e=>?_) (fun b ps e=>⟨#[],?_⟩) (fun m hm=>?_) (fun b o e=>?_) I.bare
   ·obtain⟨f0,f1,f2,f3,f4,f5⟩:=hf b hb
    exact⟨f3,f1,f4,f5⟩
   ·rw[upd_ne (aao (Heap.lt_size e))];exact n
   ·rw[upd_ne (ak e hn)];exact e
   ·rw[upd_ne (ak e hn)];exact e
   ·rw[upd_ne (ak e hn),e];simp
   ·obtain⟨o,es',ep,ho,r⟩:=hm
    exact⟨o,es',ep,k1 _ o (fun z=>(hf _ z).2.1 rfl) ho,r⟩
   ·by_cases hb:b=s.heap.objs.size
    ·subst hb
     rw[aE]at e
     cases e
     exact⟨(by show 2<=sizeLine;decide),[.int i s.toks,u],.cons ⟨_,rfl⟩ (.cons ru .nil),⟨_,hT'',rfl,_,rfl⟩⟩
    ·rw[upd_ne hb]at e
     refine (I1.hok b o e).stay (fun c v hc q=>q) (fun c q=>by rw[upd_ne (ak q hn)];exact q) fun c ys q=>by rw[upd_ne (ak q hn)];exact q
  refine⟨.ref s.heap.objs.size,_,I2,rfl,⟨_,x,fun ys hy=>by rw[I.list_inj hy hq];exact hx,hn,rfl,rfl⟩,⟨⟨u,by simpa using he''⟩,hit'.at fun o q=>hs''.extBut _ _ (aaM hne) q⟩,fun c hc=>?_⟩
  simp only[aab,aak,or_false]at hc
  rcases hc with rfl | rfl
  ·rw[upd_ne (aao le)];exact (hf _ (by simp)).1
  ·rw[upd_ne (aao li)];exact (hf _ (by simp)).1
 done:=by
  intro X hP hw hK hc i pins s σ H E I hf ⟨⟨old,h1⟩,h2⟩ hg
  subst hP hw hK
  obtain⟨xs,hq,hx⟩:=hg
  obtain⟨its,rv,p,hz⟩:=I.list hq
  have hl:=rv.length
  refine wpAny_pyNext_enum_end (I.ok.hd hc) h1 h2 p.isList (by simp;omega) fun h' eb=>⟨rfl,I.turnedL (t':=s.toks) (fun c o hc q=>?_) hf⟩
  simp only[aab,aak,or_false,not_or]at hc
  exact eb c o hc.2 q
 self:=fun _ _ _ _ _ ⟨⟨old,h1⟩,_⟩ h=>wpAny_pyIter_enum h1 h
theorem ou:bootBuiltins "enumerate"=some (.type "enumerate"):=by decide +kernel
section
variable{X:Cx}
def AJ(K:Waa)(ta:TA):TI:=fun σ H R=>ta σ H fun vs H1=>∃l xs,vs=[.ref l]/\SqL K H1 l xs/\R (Dx K l) H1
theorem uh {es:List Expr} {x1} {tpos:Pos} {a:Expr} {ta:TA} {p pos:Pos} (hg:Gl X "enumerate") (hm:X.mg "enumerate"=none) (ha:PA X [a] ta) (hs:starEach [a] X.env=[(false,eval a X.env)]:=by rfl) :
  PI X (.Tuple es x1 tpos) (.Call (.Name "enumerate" p) [a] [] pos) (AJ X.K ta):=by
 intro pins s σ H R I h
 refine Call_ (dE I hg hm ou (abj (thn (ha pos pins s σ H _ I h) fun us s1 hZ=>?_) hs rfl))
 obtain⟨vs,H1,I1,r1,q1⟩:=hZ
 obtain⟨l,xs,e,ok,q⟩:=q1
 subst e
 cases r1 with
 | cons r rr =>
  cases rr
  cases r
  obtain⟨its,rv,pl,hz⟩:=I1.list ok
  refine call_enumerate_list pl.isList fun h' he hit hsz kp=>?_
  refine wpAny_pyIter_enum he ?_
  have I5:Inv X pins σ H1 { s1 with heap:=h' }:=I1.kept (t':=s1.toks) kp
  refine⟨s1.heap.objs.size + 1,[s1.heap.objs.size + 1,s1.heap.objs.size],_,_,H1,rfl,I5,oq l _ _ (by show (_:Nat)≠_;omega),⟨⟨_,he⟩,hit⟩,fun b hb=>?_,q⟩
  have hb':s1.heap.objs.size<=b:=by
   simp only[aab,aak,or_false]at hb
   rcases hb with rfl | rfl
   ·show s1.heap.objs.size<=s1.heap.objs.size + 1;omega
   ·exact aac _
  exact I1.fpOk hb' (I1.hok.fresh hb')
end
end
section
section
variable{X:Cx}
def rInsert:V->List V->Hp->VK->Prop:=fun x vs H Q=>∃l xs k y,x=.ref l/\vs=[.int k,y]/\H l=some (.lst xs)/\0<=k/\k<=xs.length/\xs.length < 100000/\Q .non (upd H l (.lst (xs.take k.toNat++y::xs.drop k.toNat)))
theorem ow:EG X "list.insert" rInsert:=by
 intro pins s σ H x vs v us Q I rx rv h
 obtain⟨l,xs,k,y,rfl,rfl,hH,h0,h1,hz,q⟩:=h
 cases rx
 obtain⟨uk,u,rfl,⟨tk,rfl⟩,ru⟩:=rv.two
 obtain⟨z,its,n,r,hl,e⟩:=I.lstM hH
 have hlen:=r.length
 have szL:100000<=sizeLine:=by decide
 refine call_meets F.slot_list_insert ⟨_,e,rfl⟩ F.entry_list_insert (F.args_list_insert_3 _ _ _) (AutoListH.list_insert_list_int_val_1 l its.toArray n k tk u (by unfold Builtin.List.listFitsIndex;simp;omega) (by rw[aat];omega)) ⟨e,?_⟩
 refine⟨.non,_,I.lset hH e ?_ ((r.take _).append (.cons ru (r.drop _))) ?_,rfl,q⟩
 ·show (its.toArray.extract 0 (if k < 0 then (k + (its.toArray.size:Int)).toNat else min k.toNat its.toArray.size)).push u++its.toArray.extract (if k < 0 then (k + (its.toArray.size:Int)).toNat else min k.toNat its.toArray.size)=_
  rw[if_neg (by omega),aat,abZ (by omega)]
  apply Array.ext'
  simp[List.extract_eq_drop_take]
  exact abE (by rw[aaZ];exact aac _)
 ·rw[aaA,aap,aaY,aaZ]
  omega
end
end
section
section
variable{X:Cx}{o i e:Expr}{pos:Pos}{ti:TE}{c:Addr}{kvs:List (Str × Str)}
theorem ye:OpR X (compareOp .Is) (fun x y H Q=>∃a b:Bool,x=.bl a/\y=.bl b/\Q (.bl (a == b)) H):=by
 intro pins s σ H x y v u Q I rx ry h
 obtain⟨a,b,rfl,rfl,q⟩:=h
 cases rx
 cases ry
 exact wpAny_is_plain rfl (aA I q (by cases a<;>cases b<;>rfl))
theorem ox:OpR X (compareOp .IsNot) (fun x y H Q=>∃a b:Bool,x=.bl a/\y=.bl b/\Q (.bl (!(a == b))) H):=by
 intro pins s σ H x y v u Q I rx ry h
 obtain⟨a,b,rfl,rfl,q⟩:=h
 cases rx
 cases ry
 exact wpAny_isNot_plain rfl (aA I q (by cases a<;>cases b<;>rfl))
def FG(d:PyData)(n:Nat):Prop:=d.showable=true/\d.hasDict=false/\d.shown.length<=n
set_option exponentiation.threshold 2000 in
theorem ui{i:Int}(hk:0 < k)(h:i.natAbs < 10 ^ k)(hk2:k<=40):FG (.int i) (k + 1):=by
 refine⟨?_,rfl,?_⟩
 ·have:i.natAbs.log2 < 1920:=by
   rcases Nat.eq_zero_or_pos i.natAbs with z | z
   ·rw[z];decide
   ·rw[Nat.log2_lt (by omega)]
    exact aax h (aaq (acq (by decide) hk2) (aaq (Nat.pow_le_pow_left (by decide:10<=2 ^ 4) 40) (by rw[<- Nat.pow_mul];exact acq (abm 1) (by omega))))
  simpa [PyData.showable] using this
 ·have:=int_text_length_le10 hk h
  show (Str.ofString (toString i)).length<=k + 1
  rw[PySem.ofString_length]
  exact this
def Dy(K:Waa)(n:Nat)(t:TGs):TG:=fun v σ H Q=>∃a xs,v=.ref a/\SqL K H a xs/\xs.length=n/\t xs σ H Q
theorem yf{k:Nat}(hc:X.calm=true)(h:zZ X es t)
  (hn:(assignEach es X.env).length=n:=by rfl) (hst:(assignEach es X.env).findIdx? (·.1)=none:=by rfl):PG X (.Tuple es k pos) (Dy X.K n t):=by
 intro pins s σ H v u Q I r hw
 obtain⟨a,xs,e1,hq,hl,hw⟩:=hw
 subst e1
 cases r
 obtain⟨its,rv,⟨ob,nn,h1,h2,_,h3⟩,hz⟩:=I.list hq
 have il:s.heap.IsList a its.toArray:=⟨ob,h1,h2,nn,h3⟩
 rw[assign_Tuple]
 refine wpAny_bind (wpAny_standAt ?_)
 unfold unpack
 rw[show (assignEach es X.env).length=its.toArray.size by simp[hn,<- hl,rv.length],hst]
 refine wpAny_bind (wpAny_holding (PySem.W.kun_itemsOf (I.ok.hd hc) il fun h' hx=>?_))
 have I1:Inv X pins σ H { s with heap:=h' }:=I.kept fun b o e=>hx b o (aao (Heap.lt_size e)) e
 exact h pins _ σ H xs _ Q I1 (by simpa using rv) hw
end
end
section
theorem k4{prog:Program}{w:World}{A:Around}{R:Result->Shared->Prop}{s:Shared}{kx vx target iter:Expr}{ifs:List Expr}{scope:Scope}{pos:Pos}{it:Value}{D:Addr}{env:Env}(I:Nat->Shared->Prop)
  (turn:∀n s,I n s->wpAny (model prog w) A (pyNext it) (fun r s₁=>match r with
   | none=>R (.ok .next) s₁
   | some v=>wpAny (model prog w) A (letOwnedTupleGo target it v) (fun _ s₂=>wpAny (model prog w) A (assign target env v) (fun _ s₂ =>
     wpAny (model prog w) A (forIn ifs true fun c r=>if r=true then do let ok <- isTrue c env (eval c env);pure (ForInStep.yield ok) else pure (ForInStep.yield r)) (fun ok s₃ =>
      if ok=true then wpAny (model prog w) A (eval kx env) (fun kv s₄=>wpAny (model prog w) A (eval vx env) (fun vv s₅ =>
       wpAny (model prog w) A (dictSet D kv vv) (fun _ s₆=>∃m,m < n/\I m s₆) (fun _ _=>False) s₅) (fun _ _=>False) s₄) (fun _ _=>False) s₃
      else ∃m,m < n/\I m s₃) (fun _ _=>False) s₂) (fun _ _=>False) s₂) (fun _ _=>False) s₁) (fun _ _=>False) s)
  (n:Nat) (h:I n s) :
  codeAny (model prog w) A (.compLoop (.DictComp kx vx [⟨target,iter,ifs,0⟩] scope pos) 0 it (.ref D) env) R s:=by
 refine codeAny_loop rfl I (fun n s hI=>?_) n h
 show wpAny _ A ((compTurn (.DictComp kx vx [⟨target,iter,ifs,0⟩] scope pos) 0 it (.ref D) env).onRaise (fun x=>do noteFrame x env;theTreesLotGoes x)) _ _ s
 refine wpAny_noted ?_
 rw[compTurn_dict]
 refine wpAny_bind (wpAny_standAt (wpAny_bind (wpAny_mono (turn n s hI) (fun r s₁ h₁=>?_) fun _ _ h'=>h'.elim)))
 cases r with
 | none=>exact wpAny_pure h₁
 | some v =>
  refine wpAny_bind (wpAny_mono h₁ (fun _ s₂ h₁=>?_) fun _ _ h'=>h'.elim)
  refine wpAny_bind (wpAny_mono h₁ (fun _ s₂ h₂=>wpAny_bind (wpAny_mono h₂ (fun ok s₃ h₃=>?_) fun _ _ h'=>h'.elim)) fun _ _ h'=>h'.elim)
  cases ok with
  | false=>exact wpAny_pure ⟨rfl,h₃⟩
  | true =>
   exact wpAny_bind (wpAny_bind (wpAny_mono h₃ (fun kv s₄ h₄=>wpAny_bind (wpAny_holding (wpAny_mono h₄ (fun vv s₅ h₅=>wpAny_bind (wpAny_standAt (wpAny_holding (wpAny_mono h₅ (fun _ s₆ h₆=>wpAny_pure ⟨rfl,h₆⟩) fun _ _ h'=>h'.elim)))) fun _ _ h'=>h'.elim))) fun _ _ h'=>h'.elim))
section
variable{X:Cx}{tg kx vx iter:Expr}{ifs:List Expr}{scope:Scope}{pos:Pos}{N:List Str}{nt:Nat}{fr:List Nat}
theorem oy{pins pins':List (Addr × Obj)}{σ σ':St}{H H1:Hp}{s s3 s5:Shared}{D:Addr}{h':Heap}{fp:List Addr}{cl:List (Str × Addr)}(I:Inv X pins σ H s)(hf:∀b∈fp,FpOk X pins H b)
  (hD:H D=none) (hDs:s.heap.objs.size<=D) (hDC:D < s3.heap.objs.size) (hk:∀b o,s.heap.get? b=some o->s3.heap.get? b=some o) (hos:s3.os=s.os)
  (J:Inv (aY X N scope cl s3 (upd H D (.dK [])) fp pins) pins' σ' H1 s5) (hs:Heap.SameBut s3.heap.objs.size s5.heap h') :
  Inv X pins σ H1 { s5 with heap:=h' }:=by
 have hsz:s.heap.objs.size<=s3.heap.objs.size:=aa4 (abY hDs hDC)
 have up3:∀b,b < s.heap.objs.size->b≠D/\b≠s3.heap.objs.size:=fun b hb=>⟨aao (aax hb hDs),aao (aax hb hsz)⟩
 have H3:∀b,b≠D->(upd H D (.dK [])) b=H b:=fun b hb=>upd_ne hb
 refine I.call' (ch:=fp) (s':={ s5 with heap:=h' }) (J.os.trans hos) ⟨fun b o e n hb hx=>?_,fun b o e n hb hx=>?_,fun b o e n hx=>?_,fun b o e hx=>?_,fun b xs e=>?_,fun b o u e=>?_,fun b ps e=>?_⟩ ?_ J.bare fun b hb=>?_
 ·obtain⟨n1,n2⟩:=up3 b (Heap.lt_size e)
  exact (hs.2 b n2).trans (J.base.keep b o (hk b o e) ((H3 b n1).trans n) hb hx)
 ·obtain⟨n1,n2⟩:=up3 b (Heap.lt_size e)
  obtain⟨sl,q⟩:=J.base.slot b o (hk b o e) ((H3 b n1).trans n) hb hx
  exact⟨sl,(hs.2 b n2).trans q⟩
 ·obtain⟨n1,n2⟩:=up3 b (Heap.lt_size e)
  exact J.base.free b o (hk b o e) ((H3 b n1).trans n) hx
 ·obtain⟨n1,n2⟩:=up3 b (Heap.lt_size e)
  obtain⟨o',q⟩:=J.base.there b o (hk b o e) hx
  exact⟨o',(hs.2 b n2).trans q⟩
 ·exact J.base.tups b xs ((H3 b (ak e hD)).trans e)
 ·exact J.base.frzs b o u ((H3 b (ak e hD)).trans e)
 ·exact J.base.tbls b ps ((H3 b (ak e hD)).trans e)
 ·intro b u e
  refine (J.hok b u e).stay (fun c v hc q=>(hs.2 c ?_).trans q) (fun _ q=>q) fun _ _ q=>q
  have hfree:H1 s3.heap.objs.size=none:=J.free
  rintro rfl
  rcases hc with z | z
  ·rw[z]at hfree;rw[hfree]at e;cases e
  ·rw[hfree]at z;cases z
 ·obtain⟨f0,f1,f2,f3,f4,f5⟩:=hf b hb
  exact⟨f3,f1,f4,f5⟩
def wo(H:Hp)(a:Addr)(y v:V)(H':Hp):Prop:=∃kvs k,H a=some (.dK kvs)/\y=kV k/\kvs.length < sizeLine/\H'=upd H a (.dK (putK kvs k v))
def yg(tk tv:TE):TC:=fun D σ H Q=>tk σ H fun k H1=>tv σ H1 fun v H2=>∃H3,wo H2 D k v H3/\Q H3
def qu(wi:TI)(nt:Nat)(fr:List Nat)(g:CC->TG)(tc:CC->TC):TE:=fun σ H Q=>wi σ H fun J H1=>∀(c:CC) D,H1 D=none->∃W:Nat->Nat->St->Hp->Prop,(∃m,W 0 m (bz nt fr σ) (upd H1 D (.dK []))) /\
 ∀i m σ' H',W i m σ' H'->(J.stop i H'/\Q (.ref D) H')\/(J.go i H'/\∀x H2,J.yld i H' x H2->g c x σ' H2 fun σ3 H3=>tc c D σ3 H3 fun H4=>∃m',m' < m/\W (i + 1) m' σ3 H4)
def qw(Y:Cx)(D:Addr)(ifs:List Expr)(kx vx:Expr)(tc:TC):Prop :=
 ∀(pins:List (Addr × Obj)) (s:Shared) (σ:St) (H:Hp) (Q:Hp->Prop),Inv Y pins σ H s->tc D σ H Q ->
  wpAny (model Y.prog Y.w) Y.A (forIn ifs true fun c r=>if r=true then do let ok <- isTrue c Y.env (eval c Y.env);pure (ForInStep.yield ok) else pure (ForInStep.yield r)) (fun ok s₃ =>
   if ok=true then wpAny (model Y.prog Y.w) Y.A (eval kx Y.env) (fun kv s₄=>wpAny (model Y.prog Y.w) Y.A (eval vx Y.env) (fun vv s₅ =>
    wpAny (model Y.prog Y.w) Y.A (dictSet D kv vv) (fun _ s₆=>∃H',Inv Y pins σ H' s₆/\Q H') Y.xe s₅) Y.xe s₄) Y.xe s₃
   else ∃H',Inv Y pins σ H' s₃/\Q H') Y.xe s
theorem oz{X:Cx}{pins:List (Addr × Obj)}{σ:St}{H H':Hp}{s:Shared}{E:Value->Shared->Prop}{A:Around}{a:Addr}{y v:V}{u r:Value}{Q:Unit->Shared->Prop}(hu:A.units + 1 < cLine)(I:Inv X pins σ H s)(g:wo H a y v H')(ry:RelV y u)(rv:RelV v r)(h:∀s',Inv X pins σ H' s'->Q () s') :
  wpAny (model X.prog X.w) A (dictSet a u r) Q E s:=by
 obtain⟨kvs,k,e,ey,l,eH⟩:=g
 subst ey eH
 obtain⟨z,hd,vs,rel,dd⟩:=AG I.hok e
 have hz:vs.length<=sizeLine:=by rw[<- rel.length];exact z
 have hl:(putK kvs k v).length<=sizeLine:=by have:=jT kvs k v;omega
 refine wpAny_dictSet_pairs (hsz:=hz) (jU ry) dd fun h' dd' hs=>h _ ?_
 have he:∃q,h'.get? a=some q:=let ⟨q,_,_,hq,_⟩:=dd';⟨q,hq⟩
 exact uf I (by rw[e];exact True.intro) hs he (yd hl hd (rel.put k rv) dd')
theorem yh{Y:Cx}{D:Addr}{tk tv:TE}(hu:Y.A.units + 1 < cLine)(hk:PE Y kx tk)(hv:PE Y vx tv){pins:List (Addr × Obj)}{s:Shared}{σ:St}{H:Hp}{Q:Hp->Prop}(I:Inv Y pins σ H s)(h:yg tk tv D σ H Q) :
  wpAny (model Y.prog Y.w) Y.A (eval kx Y.env) (fun kv s₄=>wpAny (model Y.prog Y.w) Y.A (eval vx Y.env) (fun vv s₅ =>
    wpAny (model Y.prog Y.w) Y.A (dictSet D kv vv) (fun _ s₆=>∃H',Inv Y pins σ H' s₆/\Q H') Y.xe s₅) Y.xe s₄) Y.xe s:=by
 refine thn (hk pins s σ H _ I h) fun u s1 ⟨y,H1,I1,r1,h1⟩=>thn (hv pins s1 σ H1 _ I1 h1) fun r s2 ⟨v,H2,I2,r2,H3,g,q⟩=>?_
 exact oz hu I2 g r1 r2 fun s3 I3=>⟨H3,I3,q⟩
theorem k5{Y:Cx}{D:Addr}{tk tv:TE}(hu:Y.A.units + 1 < cLine)(hk:PE Y kx tk)(hv:PE Y vx tv):qw Y D [] kx vx (yg tk tv):=by
 intro pins s σ H Q I h
 refine wpAny_tests_nil ?_
 rw[if_pos rfl]
 exact yh hu hk hv I h
theorem k6{wi:TI}{g:CC->TG}{tc:CC->TC}{use:Option (Value->Sem Unit)}{Q0:Value->Shared->Prop}(hc:X.calm=true)(S:CompScope N nt fr X.N scope X.env.scope)(hi:PI X tg iter wi)
  (hg:∀c:CC,PG (cO X N scope c) tg (g c)) (ha:∀(c:CC) D,qw (cO X N scope c) D ifs kx vx (tc c))
  {pins:List (Addr × Obj)} {s:Shared} {σ:St} {H:Hp} {Q:VK} (I:Inv X pins σ H s) (h:qu wi nt fr g tc σ H Q) (hfr:∀x∈scope.names,x.2=.free->X.env.kindOf x.1=some .cell)
  (fin:∀(D C:Addr) (s5:Shared) (H1:Hp),FpOk X pins H1 C->s5.heap.get? C≠none->C≠X.env.locals->(∃m,s5.heap.Ns C m)->(∀h',Heap.SameBut C s5.heap h'->Inv X pins σ H1 { s5 with heap:=h' })->Q (.ref D) H1 ->
   compPost (model X.prog X.w) X.A X.xe use Q0 (.ref D) C (.ok .next) s5)
  (hs:∀x,foldedSetIterable iter X.env x=pure x:=by intro _;rfl) :
  wpAny (model X.prog X.w) X.A (comprehension (.DictComp kx vx [⟨tg,iter,ifs,0⟩] scope pos) scope X.env (firstIterPos [⟨tg,iter,ifs,0⟩] pos) newDict false (eval iter X.env) use) Q0 X.xe s:=by
 have hcells:∀x∈scope.names,x.2=.free->∃c,X.env.cells.lookup x.1=some c:=fun x hx hf=>I.ok.has x.1 (.inl (hfr x hx hf))
 obtain⟨cl,hcl,h1,h2⟩:=f9 hcells
 refine wpAny_comprehension_free (use:=use) rfl hs hcl S.kind S.names (thn (hi pins s σ H _ I h) fun xv s1 hx=>thn hx fun itv s2 hpe=>?_)
 obtain⟨it,fp,tn,J,H2,rfl,I2,T,st2,f2,hW⟩:=hpe
 have hlt:∀b∈fp,b < s2.heap.objs.size:=fun b hb=>let ⟨o,e,_⟩:=T.obj 0 _ st2 b hb;Heap.lt_size e
 refine wpAny_newObj_type (wpAny_newFunctionEnv S.nocell (by intro y hy;simp at hy) (fun h₁ hns₁ hsb₁=>?_) S.kind) (by first | trivial | exact aaE _ | decide)
 have hD:H2 s2.heap.objs.size=none:=I2.hok.fresh (aac _)
 have I3:Inv X pins σ (upd H2 s2.heap.objs.size (.dK [])) { s2 with heap:=s2.heap.push { cls:=.type "dict",data:=.dict #[] } }:=I2.laid (a:=s2.heap.objs.size) (o:=.dK []) (t':=s2.toks) (fun _ _ q=>Heap.get?_push_of_some _ q) (aac _) (qt s2.heap I2.big)
 generalize hs3:({ s2 with heap:=s2.heap.push { cls:=.type "dict",data:=.dict #[] } }:Shared)=s3 at hns₁ hsb₁ I3 ⊢
 obtain⟨W,⟨m0,w0⟩,turn⟩:=hW ⟨cl,s3,upd H2 s2.heap.objs.size (.dK []),fp,pins⟩ _ hD
 have k23:∀b o,s2.heap.get? b=some o->s3.heap.get? b=some o:=fun b o e=>by rw[<- hs3];exact Heap.get?_push_of_some _ e
 have z3:s3.heap.objs.size=s2.heap.objs.size + 1:=by rw[<- hs3];exact Heap.size_push ..
 have os3:s3.os=s2.os:=by rw[<- hs3]
 have f3:∀b∈fp,FpOk X pins (upd H2 s2.heap.objs.size (.dK [])) b:=fun b hb=>⟨by rw[upd_ne (aao (hlt b hb))];exact (f2 b hb).1,(f2 b hb).2⟩
 have k34:∀b o,s3.heap.get? b=some o->h₁.get? b=some o:=fun b o e=>hsb₁.extBut b o (aao (Heap.lt_size e)) (Heap.get?_push_of_some _ e)
 generalize hs4:({ s3 with heap:=h₁,toks:=s3.toks + ([]:List (Str × Value)).length }:Shared)=s4
 have e4h:s4.heap=h₁:=by rw[<- hs4]
 have I4:Inv (aY X N scope cl s3 (upd H2 s2.heap.objs.size (.dK [])) fp pins) [] (bz nt fr σ) (upd H2 s2.heap.objs.size (.dK [])) s4 :=
  gb S I3 f3 (fun b hb=>by rw[z3];exact abf (hlt b hb)) h1 h2 (fun b o e=>by rw[e4h];exact k34 b o e) ⟨_,by rw[e4h];exact hns₁⟩ (by rw[<- hs4]) (by rw[<- hs4])
 have st4:tn 0 s4.heap:=T.keep 0 _ _ st2 fun b hb o e=>by rw[e4h];exact k34 b o (k23 b o e)
 have loop:codeAny (model X.prog X.w) X.A (.compLoop (.DictComp kx vx [⟨tg,iter,ifs,0⟩] scope pos) 0 (.ref it) (.ref s2.heap.objs.size) (compEnvC scope cl s3.heap.objs.size X.env))
   (compPost (model X.prog X.w) X.A X.xe use Q0 (.ref s2.heap.objs.size) s3.heap.objs.size) s4:=by
  have stat:∀{H':Hp},(∀b∈fp,H' b=none)->∀b∈fp,FpOk (aY X N scope cl s3 (upd H2 s2.heap.objs.size (.dK [])) fp pins) [] H' b:=fun {H'} hn b hb =>
   ⟨hn b hb,aao (show b < s3.heap.objs.size by rw[z3];exact abf (hlt b hb)),fun z=>I4.ok.exfs b hb z,.inl hb,fun x c e=>(f2 b hb).2.2.2.2.1 x c (h1 x c e),fun p hp=>(f2 b hb).2.2.2.2.2 p (by
    rcases aal.mp hp with z | z
    ·exact z
    ·exact absurd z (by simp))⟩
  refine k4 (env:=compEnvC scope cl s3.heap.objs.size X.env) (fun n s'=>∃i σ' H',Inv (aY X N scope cl s3 (upd H2 s2.heap.objs.size (.dK [])) fp pins) [] σ' H' s'/\tn i s'.heap/\(∀b∈fp,H' b=none)/\W i n σ' H') ?_ m0
   ⟨0,_,_,I4,st4,fun b hb=>(f3 b hb).1,w0⟩
  rintro n s5 ⟨i,σ5,H5,I5,st5,fr5,w5⟩
  rcases turn i n σ5 H5 w5 with ⟨stop,qn⟩ | ⟨go,step⟩
  ·refine thn (T.done (aY X N scope cl s3 (upd H2 s2.heap.objs.size (.dK [])) fp pins) rfl rfl rfl hc i [] s5 σ5 H5 (fun _ _=>False) I5 (stat fr5) st5 stop) fun r s6 ⟨hr,I6⟩=>?_
   subst hr
   obtain⟨m,hm,_⟩:=id I6.loc
   refine fin _ _ s6 H5 (I2.fpOk (by rw[z3];exact abm _) I6.free) ?_ ?_ ⟨m,hm⟩ (fun h' hs'=>oy I2 f2 hD (aac _) (by rw[z3];exact abn _) k23 os3 I6 hs') qn
   ·obtain⟨o,_,_,ho,_⟩:=hm
    intro z
    have ho':s6.heap.get? s3.heap.objs.size=some o:=ho
    rw[z]at ho';cases ho'
   ·exact aaX (abC I2.lt (by rw[z3];exact abn _))
  ·refine thn (T.item (aY X N scope cl s3 (upd H2 s2.heap.objs.size (.dK [])) fp pins) rfl rfl rfl hc i [] s5 σ5 H5 (fun _ _=>False) I5 (stat fr5) st5 go) fun r s6 ⟨u,hr,h6⟩=>?_
   subst hr
   refine thn h6 fun _ s7 ⟨x,H7,I7,r7,y7,st7,fr7⟩=>?_
   have I7':=I7.pinned (stat fr7) (T.obj _ _ st7)
   refine thn (hg ⟨cl,s3,upd H2 s2.heap.objs.size (.dK []),fp,pins⟩ _ s7 σ5 H7 x u _ I7' r7 (step x H7 y7)) fun _ s8 ⟨σ8,H8,I8,q8⟩=>?_
   refine thn (ha ⟨cl,s3,upd H2 s2.heap.objs.size (.dK []),fp,pins⟩ _ _ s8 σ8 H8 _ I8 q8) fun ok s9 h9=>?_
   have again:∀{s7':Shared},(∃H',Inv (aY X N scope cl s3 (upd H2 s2.heap.objs.size (.dK [])) fp pins) ([]++pinsAt fp s7.heap) σ8 H' s7'/\∃m',m' < n/\W (i + 1) m' σ8 H') ->
     ∃m,m < n/\∃i σ' H',Inv (aY X N scope cl s3 (upd H2 s2.heap.objs.size (.dK [])) fp pins) [] σ' H' s7'/\tn i s7'.heap/\(∀b∈fp,H' b=none)/\W i m σ' H':=fun {s7'} ⟨H',I',m',hm,w'⟩=>by
    refine⟨m',hm,i + 1,σ8,H',I'.unpinned,T.keep _ _ _ st7 fun b hb o e=>(I'.pin (b,o) (aad _ (aad _ (bH hb e)))).1,fun b hb=>?_,w'⟩
    obtain⟨o,e,d⟩:=T.obj _ _ st7 b hb
    exact (I'.pin (b,o) (aad _ (aad _ (bH hb e)))).2.1
   cases ok with
   | true =>
    rw[if_pos rfl]at h9 ⊢
    exact thn h9 fun y s10 h10=>thn h10 fun z s11 h11=>thn h11 fun _ s12 h12=>again h12
   | false =>
    rw[if_neg aah]at h9 ⊢
    exact again h9
 exact codeAny_compStart_dict loop (T.self X.A 0 s4 _ _ st4 loop)
theorem qx{i:Nat}{y:Str}{py spos:Pos}{wi:TI}{g:CC->TG}{tc:CC->TC}(hN:X.N.Nodup)(hy:X.N[i]?=some y)(hl:X.env.scope.names.lookup y=some .local)(hc:X.calm=true)(S:CompScope N nt fr X.N scope X.env.scope)(hi:PI X tg iter wi)
  (hg:∀c:CC,PG (cO X N scope c) tg (g c)) (ha:∀(c:CC) D,qw (cO X N scope c) D ifs kx vx (tc c))
  (hs:∀x,foldedSetIterable iter X.env x=pure x:=by intro _;rfl)
  (hsw:swapsWith (.DictComp kx vx [⟨tg,iter,ifs,0⟩] scope pos) (some (.Name y py)) spos.line X.env=pure true:=by rfl) :
  PS X (.Assign [.Name y py] (.DictComp kx vx [⟨tg,iter,ifs,0⟩] scope pos) spos) (pO (qu wi nt fr g tc) (jL i)):=by
 intro pins s σ H D I h
 rw[exec_Assign_Name_used _ _ _ _ hsw]
 refine wpAny_bind (wpAny_standAt (wpAny_bind ?_))
 show wpAny _ X.A (do let _ <- comprehension (.DictComp kx vx [⟨tg,iter,ifs,0⟩] scope pos) scope X.env _ newDict false (eval iter X.env) (some (assign (.Name y py) X.env))) _ _ s
 refine wpAny_bind (wpAny_mono (k6 (use:=some (assign (.Name y py) X.env)) (Q:=fun x H1=>D.nx (σ.set i (some x)) H1) (Q0:=fun _ s'=>SP X pins D .next s') hc S hi hg ha I h (fun x hx hf=>S.cells x hx hf) (fun Dd C s5 H1 fp hC _ hm hI q=>?_) hs) (fun _ s' hq=>wpAny_pure (wpAny_pure hq)) fun _ _ e=>e)
 obtain⟨m,hm⟩:=hm
 have I5:Inv X pins σ H1 s5:=hI s5.heap ⟨rfl,fun _ _=>rfl⟩
 show wpAny _ X.A (assign (.Name y py) X.env (.ref Dd)) _ _ _
 refine wpAny_assign_Name (eY I5 hN hy (.inl hl) (v:=.ref Dd) rfl (fun s6 I6 hsb=>?_) (.inr hl))
 obtain⟨a,hs6,ha6⟩:=hsb
 have hCa:C≠a:=by
  rcases ha6 with e | e
  ·rw[e];exact fp.2.1
  ·exact fun z=>fp.2.2.2.2.1 _ _ e z.symm
 exact⟨m,hm.sameBut hs6 hCa,fun h' hs'=>⟨_,H1,I6.turned (t':=s6.toks) (fun b o hb e=>(hs'.2 b hb).trans e) fp.1 fp.2.1 fp.2.2.2.1 fp.2.2.2.2.1 fp.2.2.2.2.2,q⟩⟩
end
end
end L2
set_option genInjectivity false
namespace L2
open PySem PySem.Spec PyProof.Rows
section
structure Kp (S:Addr->Prop)(H H':Hp):Prop where
 k:∀b o,H b=some o->¬ S b->H' b=some o
 n:∀b,H' b=none->H b=none
section
variable{S T S':Addr->Prop}{H H1 H' H2:Hp}{p:Addr}{o:HO}
theorem Kp.refl(S:Addr->Prop)(H:Hp):Kp S H H:=⟨fun _ _ h _=>h,fun _ h=>h⟩
theorem Kp.trans(a:Kp S H H1)(b:Kp S H1 H2):Kp S H H2:=⟨fun c o h n=>b.k c o (a.k c o h n) n,fun c h=>a.n c (b.n c h)⟩
theorem Kp.weak(a:Kp S H H')(h:∀b,S b->T b\/H b=none):Kp T H H':=⟨fun b o e n=>a.k b o e fun z=>(h b z).elim n fun q=>(by rw[q]at e;cases e),a.n⟩
theorem Kp.put(hp:S p\/H p=none):Kp S H (upd H p o):=by
 refine⟨fun b u h n=>?_,fun b h=>?_⟩
 ·have ne:b≠p:=fun e=>by
   subst e
   rcases hp with hp | hp
   ·exact n hp
   ·rw[hp]at h;cases h
  rw[upd_ne ne];exact h
 ·by_cases e:b=p
  ·subst e;rw[aE]at h;cases h
  ·rw[upd_ne e]at h;exact h
theorem Kp.keep(a:Kp (fun _=>False) H H'):Keep [] H H':=fun b o h _=>a.k b o h (fun z=>z)
def Bx(S:Addr->Prop)(F:Hp->Prop)(H:Hp):Prop:=∀H',Kp S H H'->F H'
theorem Bx.now{F:Hp->Prop}(h:Bx S F H):F H:=h H (Kp.refl _ _)
theorem Bx.step{F:Hp->Prop}(h:Bx S F H)(k:Kp S H H')(n:∀b,S' b->S b\/H b=none):Bx S' F H':=fun H2 k' =>
 h H2 ⟨fun b o e ns=>k'.k b o (k.k b o e ns) fun z=>(n b z).elim ns fun q=>(by rw[q]at e;cases e),fun b e=>k.n b (k'.n b e)⟩
end
mutual
inductive Fz (K:Waa)(S:Addr->Prop)(H:Hp):V->PyData->Prop
 | non:Fz K S H .non .none
 | bl (b:Bool):Fz K S H (.bl b) (.bool b)
 | int (i:Int):Fz K S H (.int i) (.int i)
 | str (x:Str):Fz K S H (.str x) (.str x)
 | lst {a xs ds}:Bx S (fun H=>SqL K H a xs) H->FzA K S H xs ds->Fz K S H (.ref a) (.list ds)
 | tup {a xs ds}:Bx S (fun H=>SqT K H a xs) H->FzA K S H xs ds->Fz K S H (.ref a) (.tuple ds)
inductive FzA (K:Waa)(S:Addr->Prop)(H:Hp):List V->List PyData->Prop
 | nil:FzA K S H [] []
 | cons {x d xs ds}:Fz K S H x d->FzA K S H xs ds->FzA K S H (x::xs) (d::ds)
end
section
variable{K:Waa}{S T S':Addr->Prop}{H H1 H' H2:Hp}
theorem Fz.ind{P:V->PyData->Prop}{Q:List V->List PyData->Prop}(non:P .non .none)(bl:∀b,P (.bl b) (.bool b))(int:∀i,P (.int i) (.int i))(str:∀x,P (.str x) (.str x))
  (lst:∀{a xs ds},Bx S (fun H=>SqL K H a xs) H->Q xs ds->P (.ref a) (.list ds)) (tup:∀{a xs ds},Bx S (fun H=>SqT K H a xs) H->Q xs ds->P (.ref a) (.tuple ds)) (nil:Q [] []) (cons:∀{x d xs ds},P x d->Q xs ds->Q (x::xs) (d::ds)) :
  (∀{v d},Fz K S H v d->P v d)/\∀{vs ds},FzA K S H vs ds->Q vs ds :=
 ⟨fun h=>Fz.rec non bl int str (fun h _ i=>lst h i) (fun h _ i=>tup h i) nil (fun _ _ i j=>cons i j) h,
  fun h=>FzA.rec non bl int str (fun h _ i=>lst h i) (fun h _ i=>tup h i) nil (fun _ _ i j=>cons i j) h⟩
theorem Fz.step_(k:Kp S H H')(n:∀b,S' b->S b\/H b=none):(∀{v:V} {d:PyData},Fz K S H v d->Fz K S' H' v d)/\∀{vs:List V} {ds:List PyData},FzA K S H vs ds->FzA K S' H' vs ds :=
 Fz.ind .non .bl .int .str (fun h t=>.lst (h.step k n) t) (fun h t=>.tup (h.step k n) t) .nil (fun r t=>.cons r t)
theorem Fz.step(k:Kp S H H')(n:∀b,S' b->S b\/H b=none){v:V}{d:PyData}(h:Fz K S H v d):Fz K S' H' v d:=(Fz.step_ k n).1 h
theorem FzA.step(k:Kp S H H')(n:∀b,S' b->S b\/H b=none){vs:List V}{ds:List PyData}(h:FzA K S H vs ds):FzA K S' H' vs ds:=(Fz.step_ k n).2 h
theorem Fz.dt_:(∀{v:V} {d:PyData},Fz K S H v d->Dt K H v d)/\∀{vs:List V} {ds:List PyData},FzA K S H vs ds->DtAll K H vs ds :=
 Fz.ind .non .bl .int .str (fun h t=>.lst h.now t) (fun h t=>.tup h.now t) .nil (fun r t=>.cons r t)
theorem Fz.dt(h:Fz K S H v d):Dt K H v d:=Fz.dt_.1 h
theorem Fz.of0(h:Dt K H v d):Fz K (fun _=>False) H v d :=
 Dt.rec .non .bl .int .str (fun h _ t=>.lst (fun H' k=>k.keep.same.seq h) t) (fun h _ t=>.tup (fun H' k=>k.keep.same.tupS h) t) .nil (fun _ _ r t=>.cons r t) h
theorem Fz.sub(h:∀b,S' b->S b)(f:Fz K S H v d):Fz K S' H v d:=f.step (Kp.refl _ _) fun b z=>.inl (h b z)
theorem FzA.sub(h:∀b,S' b->S b)(f:FzA K S H v d):FzA K S' H v d:=f.step (Kp.refl _ _) fun b z=>.inl (h b z)
theorem FzA.length(h:FzA K S H vs ds):vs.length=ds.length:=by
 induction vs generalizing ds with
 | nil=>cases h;rfl
 | cons v vs ih=>cases h with | cons _ t=>rw[aap,aap,ih t]
theorem FzA.ints:∀(ns:List Int),FzA K S H (ns.map V.int) (ns.map PyData.int)
 | []=>.nil
 | n::ns=>.cons (.int n) (FzA.ints ns)
theorem Fz.list_inv(h:Fz K S H v (.list ds)):∃a xs,v=.ref a/\Bx S (fun H=>SqL K H a xs) H/\FzA K S H xs ds:=by
 cases h with | lst h t=>exact⟨_,_,rfl,h,t⟩
theorem Fz.tup_inv(h:Fz K S H v (.tuple ds)):∃a xs,v=.ref a/\Bx S (fun H=>SqT K H a xs) H/\FzA K S H xs ds:=by
 cases h with | tup h t=>exact⟨_,_,rfl,h,t⟩
theorem yi(h:H a=some (.lst xs))(n:¬ S a):Bx S (fun H=>SqL K H a xs) H:=fun _ k=>SqL.of (k.k _ _ h n)
theorem qy(h:H a=some (.tup xs))(n:¬ S a):Bx S (fun H=>SqT K H a xs) H:=fun _ k=>SqT.of (k.k _ _ h n)
end
inductive OD where
 | fz (d:PyData) | lst (xs:List OD) | tup (xs:List OD) | dic (ks:List Key) (xs:List OD) | obj (c:Str) (ns:List Str) (xs:List OD) | pin (l:Bool) (xs:List V) (ds:List PyData) | hole (v:V)
mutual
def OD.dat:OD->Option PyData
 | .fz d=>some d
 | .lst xs=>match OD.dats xs with | some ds=>some (.list ds) | none=>none
 | .tup xs=>match OD.dats xs with | some ds=>some (.tuple ds) | none=>none
 | .dic _ _=>none
 | .obj _ _ _=>none
 | .pin l _ ds=>some (if l then .list ds else .tuple ds)
 | .hole _=>none
def OD.dats:List OD->Option (List PyData)
 | []=>some []
 | x::xs=>match x.dat with
  | some d=>match OD.dats xs with | some ds=>some (d::ds) | none=>none
  | none=>none
end
def aR(K:Waa)(c:Str):Addr:=match PySem.W.nsIn K mainGlobals c with | some (some (.ref C))=>C | _=>0
structure Bs where
 K:Waa
 H0:Hp
 S0:Addr->Prop
 C:Addr->Prop
mutual
inductive Ow (b:Bs)(S:Addr->Prop)(H:Hp):V->OD->List Addr->Prop
 | fz {v d}:Fz b.K S H v d->Ow b S H v (.fz d) []
 | lst {a vs xs A}:H a=some (.lst vs)->Ows b S H vs xs A->Ow b S H (.ref a) (.lst xs) (a::A)
 | tup {a vs xs A}:H a=some (.tup vs)->Ows b S H vs xs A->Ow b S H (.ref a) (.tup xs) A
 | dic {a ws ks vs xs A}:H a=some (.dK ws)->ws.map (·.1)=ks->ws.map (·.2)=vs->Ows b S H vs xs A->Ow b S H (.ref a) (.dic ks xs) (a::A)
 | obj {a dx c fs ns vs xs A}:H a=some (.ins (aR b.K c) dx fs)->H dx=some (.own a)->fs.map (·.1)=ns->fs.map (·.2)=vs->Ows b S H vs xs A->Ow b S H (.ref a) (.obj c ns xs) (a::dx::A)
 | pinL {a xs ds}:Bx S (fun H=>SqL b.K H a xs) H->FzA b.K S H xs ds->Ow b S H (.ref a) (.pin true xs ds) []
 | pinT {a xs ds}:Bx S (fun H=>SqT b.K H a xs) H->FzA b.K S H xs ds->Ow b S H (.ref a) (.pin false xs ds) []
 | hole {v u}:v=u->Ow b S H v (.hole u) []
inductive Ows (b:Bs)(S:Addr->Prop)(H:Hp):List V->List OD->List Addr->Prop
 | nil:Ows b S H [] [] []
 | cons {v x A vs xs B}:Ow b S H v x A->Ows b S H vs xs B->Ows b S H (v::vs) (x::xs) (A++B)
end
abbrev OwL(b:Bs)(S:Addr->Prop)(H:Hp)(L:List (V × OD))(A:List Addr):Prop:=Ows b S H (L.map (·.1)) (L.map (·.2)) A
def MutO:HO->Prop
 | .lst _=>True | .dK _=>True | .ins _ _ _=>True | .own _=>True
 | _=>False
section
variable{b:Bs}{S T S':Addr->Prop}{H H1 H' H2:Hp}
theorem Ows.len(h:Ows b S H vs xs A):vs.length=xs.length:=by
 induction vs generalizing xs A with
 | nil=>cases h;rfl
 | cons v vs ih=>cases h with | cons _ t=>rw[aap,aap,ih t]
theorem Ow.ind{P:V->OD->List Addr->Prop}{Q:List V->List OD->List Addr->Prop}(fz:∀{v d},Fz b.K S H v d->P v (.fz d) [])(lst:∀{a vs xs A},H a=some (.lst vs)->Q vs xs A->P (.ref a) (.lst xs) (a::A))(tup:∀{a vs xs A},H a=some (.tup vs)->Q vs xs A->P (.ref a) (.tup xs) A)
  (dic:∀{a ws ks vs xs A},H a=some (.dK ws)->ws.map (·.1)=ks->ws.map (·.2)=vs->Q vs xs A->P (.ref a) (.dic ks xs) (a::A)) (obj:∀{a dx c fs ns vs xs A},H a=some (.ins (aR b.K c) dx fs)->H dx=some (.own a)->fs.map (·.1)=ns->fs.map (·.2)=vs->Q vs xs A->P (.ref a) (.obj c ns xs) (a::dx::A))
  (pinL:∀{a xs ds},Bx S (fun H=>SqL b.K H a xs) H->FzA b.K S H xs ds->P (.ref a) (.pin true xs ds) []) (pinT:∀{a xs ds},Bx S (fun H=>SqT b.K H a xs) H->FzA b.K S H xs ds->P (.ref a) (.pin false xs ds) []) (hole:∀{v u},v=u->P v (.hole u) [])
  (nil:Q [] [] []) (cons:∀{v x A vs xs B},P v x A->Q vs xs B->Q (v::vs) (x::xs) (A++B)):(∀{v x A},Ow b S H v x A->P v x A)/\∀{vs xs A},Ows b S H vs xs A->Q vs xs A :=
 ⟨fun h=>Ow.rec fz (fun e _ i=>lst e i) (fun e _ i=>tup e i) (fun e h1 h2 _ i=>dic e h1 h2 i) (fun e e2 h1 h2 _ i=>obj e e2 h1 h2 i) pinL pinT hole nil (fun _ _ i j=>cons i j) h,
  fun h=>Ows.rec fz (fun e _ i=>lst e i) (fun e _ i=>tup e i) (fun e h1 h2 _ i=>dic e h1 h2 i) (fun e e2 h1 h2 _ i=>obj e e2 h1 h2 i) pinL pinT hole nil (fun _ _ i j=>cons i j) h⟩
theorem mw{P:Addr->Prop}(h:P a)(t:∀c∈A,P c):∀c∈a::A,P c:=fun c hc=>(aab.mp hc).elim (fun e=>e ▸ h) (t c)
theorem Ow.mu_:(∀{v:V} {x:OD} {A:List Addr},Ow b S H v x A->∀a∈A,∃o,H a=some o/\MutO o)/\∀{vs:List V} {xs:List OD} {A:List Addr},Ows b S H vs xs A->∀a∈A,∃o,H a=some o/\MutO o :=
 Ow.ind (fun _ _ h=>absurd h aak) (fun e i=>mw ⟨_,e,trivial⟩ i) (fun _ i=>i) (fun e _ _ i=>mw ⟨_,e,trivial⟩ i) (fun e e2 _ _ i=>mw ⟨_,e,trivial⟩ (mw ⟨_,e2,trivial⟩ i)) (fun _ _ _ h=>absurd h aak) (fun _ _ _ h=>absurd h aak) (fun _ _ h=>absurd h aak) (fun _ h=>absurd h aak) (fun i j a h=>(aal.mp h).elim (i a) (j a))
theorem Ow.mu(h:Ow b S H v x A):∀a∈A,∃o,H a=some o/\MutO o:=Ow.mu_.1 h
theorem Ows.mu(h:Ows b S H vs xs A):∀a∈A,∃o,H a=some o/\MutO o:=Ow.mu_.2 h
theorem Ows.ne(h:Ows b S H vs xs A):∀a∈A,H a≠none:=fun a ha e=>by
 obtain⟨o,q,_⟩:=h.mu a ha
 rw[q]at e;cases e
theorem Ows.tl(h:Ows b S H vs xs A):∀a∈A,∀ys,H a≠some (.tup ys):=fun a ha ys e=>by
 obtain⟨o,q,m⟩:=h.mu a ha
 rw[q]at e;cases e;exact m
theorem Ow.step_(hK:b2.K=b.K)(k:Kp S H H')(n:∀b,S' b->S b\/H b=none)(hs:∀a xs,H a=some (.tup xs)->¬ S a):(∀{v:V} {x:OD} {A:List Addr},Ow b S H v x A->(∀a∈A,H' a=H a)->Ow b2 S' H' v x A)/\∀{vs:List V} {xs:List OD} {A:List Addr},Ows b S H vs xs A->(∀a∈A,H' a=H a)->Ows b2 S' H' vs xs A :=
 Ow.ind (fun f _=>.fz (hK ▸ f.step k n)) (fun e i s=>.lst ((s _ aag).trans e) (i fun a h=>s a (aai _ h))) (fun e i s=>.tup (k.k _ _ e (hs _ _ e)) (i s)) (fun e h1 h2 i s=>.dic ((s _ aag).trans e) h1 h2 (i fun a h=>s a (aai _ h)))
  (fun e e2 h1 h2 i s=>.obj (hK ▸ (s _ aag).trans e) ((s _ (aai _ aag)).trans e2) h1 h2 (i fun a h=>s a (aai _ (aai _ h)))) (fun h t _=>.pinL (hK ▸ h.step k n) (hK ▸ t.step k n)) (fun h t _=>.pinT (hK ▸ h.step k n) (hK ▸ t.step k n)) (fun e _=>.hole e) (fun _=>.nil) (fun i j s=>.cons (i fun a h=>s a (aae _ h)) (j fun a h=>s a (aad _ h)))
theorem Ow.step(k:Kp S H H')(n:∀b,S' b->S b\/H b=none)(hs:∀a xs,H a=some (.tup xs)->¬ S a){v:V}{x:OD}{A:List Addr}(s:∀a∈A,H' a=H a)(h:Ow b S H v x A):Ow b S' H' v x A:=(Ow.step_ rfl k n hs).1 h s
theorem Ows.step(k:Kp S H H')(n:∀b,S' b->S b\/H b=none)(hs:∀a xs,H a=some (.tup xs)->¬ S a){vs:List V}{xs:List OD}{A:List Addr}(s:∀a∈A,H' a=H a)(h:Ows b S H vs xs A):Ows b S' H' vs xs A:=(Ow.step_ rfl k n hs).2 h s
theorem Ow.sub(hs:∀a xs,H a=some (.tup xs)->¬ S a)(n:∀c,S' c->S c)(h:Ow b S H v x A):Ow b S' H v x A:=h.step (Kp.refl _ _) (fun c z=>.inl (n c z)) hs (fun _ _=>rfl)
theorem Ows.sub(hs:∀a xs,H a=some (.tup xs)->¬ S a)(n:∀c,S' c->S c)(h:Ows b S H v x A):Ows b S' H v x A:=h.step (Kp.refl _ _) (fun c z=>.inl (n c z)) hs (fun _ _=>rfl)
theorem Ows.subB(hK:b2.K=b.K)(hs:∀a xs,H a=some (.tup xs)->¬ S a)(n:∀c,S' c->S c)(h:Ows b S H v x A):Ows b2 S' H v x A:=(Ow.step_ hK (Kp.refl _ _) (fun c z=>.inl (n c z)) hs).2 h fun _ _=>rfl
theorem uj(h:(OD.lst xs).dat=some d):∃ds,OD.dats xs=some ds/\d=.list ds:=by
 rw[OD.dat]at h
 cases z:OD.dats xs with
 | none=>rw[z]at h;cases h
 | some ds=>rw[z]at h;cases h;exact⟨ds,rfl,rfl⟩
theorem um(h:(OD.tup xs).dat=some d):∃ds,OD.dats xs=some ds/\d=.tuple ds:=by
 rw[OD.dat]at h
 cases z:OD.dats xs with
 | none=>rw[z]at h;cases h
 | some ds=>rw[z]at h;cases h;exact⟨ds,rfl,rfl⟩
theorem oA(h:OD.dats (x::xs)=some es):∃d ds,x.dat=some d/\OD.dats xs=some ds/\es=d::ds:=by
 rw[OD.dats]at h
 cases z:x.dat with
 | none=>rw[z]at h;cases h
 | some d =>
  cases z2:OD.dats xs with
  | none=>rw[z,z2]at h;cases h
  | some ds=>rw[z,z2]at h;cases h;exact⟨d,ds,rfl,rfl,rfl⟩
theorem Ow.frz_(hS:∀a,S' a->S a)(nt:∀a xs,H a=some (.tup xs)->¬ S a):(∀{v:V} {x:OD} {A:List Addr},Ow b S H v x A->∀d:PyData,(∀a∈A,¬ S' a)->x.dat=some d->Fz b.K S' H v d)/\∀{vs:List V} {xs:List OD} {A:List Addr},Ows b S H vs xs A->∀ds:List PyData,(∀a∈A,¬ S' a)->OD.dats xs=some ds->FzA b.K S' H vs ds:=by
 refine Ow.ind (P:=fun v x A=>∀d:PyData,(∀a∈A,¬ S' a)->x.dat=some d->Fz b.K S' H v d) (Q:=fun vs xs A=>∀ds:List PyData,(∀a∈A,¬ S' a)->OD.dats xs=some ds->FzA b.K S' H vs ds) ?_ ?_ ?_ (fun _ _ _ _ _ _ q=>?_) (fun _ _ _ _ _ _ _ q=>?_) ?_ ?_ (fun _ _ _ q=>?_) ?_ ?_
 ·intro v d f d' _ q;cases q;exact f.sub hS
 ·intro a vs xs A e i d hA q
  obtain⟨ds,z,rfl⟩:=uj q
  exact .lst (yi e (hA _ aag)) (i ds (fun a h=>hA a (aai _ h)) z)
 ·intro a vs xs A e i d hA q
  obtain⟨ds,z,rfl⟩:=um q
  exact .tup (qy e fun y=>nt _ _ e (hS _ y)) (i ds hA z)
 ·cases q
 ·cases q
 ·intro a xs ds h t d _ q;cases q;exact .lst (h.step (Kp.refl _ _) fun c z=>.inl (hS c z)) (t.sub hS)
 ·intro a xs ds h t d _ q;cases q;exact .tup (h.step (Kp.refl _ _) fun c z=>.inl (hS c z)) (t.sub hS)
 ·cases q
 ·intro ds _ q;cases q;exact .nil
 ·intro v x A vs xs B i j es hA q
  obtain⟨d,ds,z1,z2,rfl⟩:=oA q
  exact .cons (i d (fun a h=>hA a (aae _ h)) z1) (j ds (fun a h=>hA a (aad _ h)) z2)
theorem Ow.frz(hS:∀a,S' a->S a)(nt:∀a xs,H a=some (.tup xs)->¬ S a)(hA:∀a∈A,¬ S' a)(h:Ow b S H v x A)(q:x.dat=some d):Fz b.K S' H v d:=(Ow.frz_ hS nt).1 h d hA q
theorem Ows.append(h:Ows b S H vs xs A)(h':Ows b S H us ys B):Ows b S H (vs++us) (xs++ys) (A++B):=by
 induction vs generalizing xs A with
 | nil=>cases h;exact h'
 | cons v vs ih=>cases h with | cons r t=>rw[aaf];exact .cons r (ih t)
theorem Ows.split(e:vs.length=xs.length)(h:Ows b S H (vs++us) (xs++ys) A):∃A1 A2,A=A1++A2/\Ows b S H vs xs A1/\Ows b S H us ys A2:=by
 induction vs generalizing xs A with
 | nil =>
  cases xs with
  | nil=>exact⟨[],A,rfl,.nil,h⟩
  | cons _ _=>cases e
 | cons v vs ih =>
  cases xs with
  | nil=>cases e
  | cons x xs =>
   cases h with
   | cons r t =>
    obtain⟨A1,A2,rfl,h1,h2⟩:=ih (Nat.succ.inj e) t
    exact⟨_,A2,(aaf ..).symm,.cons r h1,h2⟩
theorem OwL.split'(h:OwL b S H (L1++L2) A):∃A1 A2,A=A1++A2/\OwL b S H L1 A1/\OwL b S H L2 A2:=by
 unfold OwL at h
 rw[aaw,aaw]at h
 exact Ows.split (by simp) h
theorem OwL.join'(h1:OwL b S H L1 A1)(h2:OwL b S H L2 A2):OwL b S H (L1++L2) (A1++A2):=by
 unfold OwL
 rw[aaw,aaw]
 exact Ows.append h1 h2
theorem OwL.perm(p:L.Perm L'):∀{A:List Addr},OwL b S H L A->∃A',OwL b S H L' A'/\A.Perm A':=by
 induction p with
 | nil=>intro A h;exact⟨A,h,.refl _⟩
 | cons x _ ih =>
  intro A h
  cases h with
  | cons r t=>obtain⟨B,h2,q⟩:=ih t;exact⟨_,.cons r h2,q.append_left _⟩
 | swap x y l =>
  intro A h
  cases h with
  | cons r t =>
   cases t with
   | cons r' t' =>
    refine⟨_,.cons r' (.cons r t'),?_⟩
    rw[<- aaf,<- aaf]
    exact aa3.append_right _
 | trans _ _ ih1 ih2 =>
  intro A h
  obtain⟨B,h1,p1⟩:=ih1 h
  obtain⟨C,h2,p2⟩:=ih2 h1
  exact⟨C,h2,p1.trans p2⟩
theorem OwL.mem:∀{A:List Addr},OwL b S H L A->∀{x:V × OD},x∈L->∃B,Ow b S H x.1 x.2 B:=by
 induction L with
 | nil=>intro A h x hx;cases hx
 | cons y L ih =>
  intro A h x hx
  cases h with
  | cons r t =>
   rcases aab.mp hx with rfl | hx
   ·exact⟨_,r⟩
   ·exact ih t hx
theorem Ows.zip(h:Ows b S H vs xs A)(e:xs[k]?=some x):∃v A1 B A2,vs[k]?=some v/\A=A1++(B++A2)/\Ow b S H v x B /\
  ∀{S':Addr->Prop} {H':Hp} {u:V} {y:OD} {B':List Addr},Ow b S' H' u y B'->(∀{v:V} {x:OD} {C:List Addr},(∀a∈C,a∈A1\/a∈A2)->Ow b S H v x C->Ow b S' H' v x C)->Ows b S' H' (vs.set k u) (xs.set k y) (A1++(B'++A2)):=by
 induction vs generalizing xs A k with
 | nil=>cases h;cases k<;>cases e
 | cons v vs ih =>
  cases h with
  | @cons _ x0 A _ xs B r t =>
   cases k with
   | zero =>
    cases e
    refine⟨v,[],A,B,rfl,rfl,r,fun {S' H' u y B'} h g=>Ows.cons (B:=B) h ?_⟩
    have go:∀{vs:List V} {xs:List OD} {D:List Addr},(∀a∈D,a∈B)->Ows b S H vs xs D->Ows b S' H' vs xs D:=fun {vs xs D} s h=>by
     induction xs generalizing vs D with
     | nil=>cases h;exact .nil
     | cons x xs ih=>cases h with | cons r t=>exact .cons (g (fun a h=>.inr (s a (aae _ h))) r) (ih (fun a h=>s a (aad _ h)) t)
    exact go (fun a h=>h) t
   | succ k =>
    obtain⟨v',A1,B1,A2,h1,h2,h3,h4⟩:=ih t e
    subst h2
    refine⟨v',A++A1,B1,A2,h1,(aaf ..).symm,h3,fun h g=>?_⟩
    rw[aaF,aaF,aaf]
    exact .cons (g (fun a h=>.inl (aae _ h)) r) (h4 h fun s h=>g (fun a z=>(s a z).imp (aad _) id) h)
end
end
section
structure Wd (b:Bs)(H:Hp)(L:List (V × OD)):Prop where
 out:∃A,OwL b (fun a=>a∈A\/b.S0 a) H L A/\A.Nodup/\∀a∈A,b.H0 a=none\/b.C a
 fr:Kp b.C b.H0 H
 s0:∀a,b.S0 a->b.H0 a≠none/\¬ b.C a
 nt:∀a xs,H a=some (.tup xs)->¬ b.S0 a
section
variable{b:Bs}{H H1 H':Hp}{L L':List (V × OD)}{v u:V}{x y:OD}{d:PyData}{ds:List PyData}{p a:Addr}
theorem Wd.nt'(w:Wd b H L)(h:OwL b (fun a=>a∈A\/b.S0 a) H L A):∀a xs,H a=some (.tup xs)->¬ (a∈A\/b.S0 a):=fun a xs e z=>z.elim (fun z=>Ows.tl h a z xs e) (w.nt a xs e)
theorem Wd.al(w:Wd b H L)(h:OwL b (fun a=>a∈A\/b.S0 a) H L A)(e:H a=none):¬ (a∈A\/b.S0 a):=fun z=>z.elim (fun z=>Ows.ne h a z e) fun z=>(w.s0 a z).1 (w.fr.n a e)
theorem Wd.dj(w:Wd b H L){A:List Addr}(new:∀a∈A,b.H0 a=none\/b.C a):∀a∈A,¬ b.S0 a:=fun a ha z=>(new a ha).elim (w.s0 a z).1 (w.s0 a z).2
theorem Wd.perm(w:Wd b H L)(q:L.Perm L'):Wd b H L':=by
 obtain⟨A,h,nd,new⟩:=w.out
 obtain⟨A',h',pA⟩:=OwL.perm q h
 refine⟨⟨A',Ows.step (Kp.refl _ _) (fun c z=>.inl (z.imp (pA.mem_iff.mpr) id)) (w.nt' h) (fun _ _=>rfl) h',pA.nodup_iff.mp nd,fun a ha=>new a (pA.mem_iff.mpr ha)⟩,w.fr,w.s0,w.nt⟩
theorem Wd.drop(w:Wd b H ((v,x)::L)):Wd b H L:=by
 obtain⟨A,h,nd,new⟩:=w.out
 have nt:=w.nt' h
 cases h with
 | @cons _ _ A _ _ B r t =>
  exact⟨⟨B,Ows.step (Kp.refl _ _) (fun c z=>.inl (z.imp (aad _) id)) nt (fun _ _=>rfl) t,(aaC.mp nd).2.1,fun a ha=>new a (aad _ ha)⟩,w.fr,w.s0,w.nt⟩
theorem Wd.drops(w:Wd b H (L1++L2)):Wd b H L2:=by
 induction L1 with
 | nil=>exact w
 | cons z L1 ih=>exact ih (Wd.drop w)
theorem Wd.puts(w:Wd b H (L1++L))(h:∀(S:Addr->Prop) (A:List Addr),OwL b S H L1 A->A.Nodup->(∀a∈A,S a)->(∀a,H a=none->¬ S a)->(∀a xs,H a=some (.tup xs)->¬ S a) ->
  ∃A',OwL b (fun a=>(S a/\a ∉ A)\/a∈A') H L2 A'/\A'.Nodup/\∀a∈A',a∈A):Wd b H (L2++L):=by
 obtain⟨A0,h0,nd,new⟩:=w.out
 have nt:=w.nt' h0
 have al:=fun {a}=>w.al h0 (a:=a)
 have ds:=w.dj new
 obtain⟨A,B,rfl,r,t⟩:=OwL.split' h0
 obtain⟨nA,nB,dj⟩:=aaC.mp nd
 obtain⟨A',h1,n',s'⟩:=h _ A r nA (fun a z=>.inl (aae _ z)) (fun a e=>al e) nt
 have sub:∀c,(c∈A'++B\/b.S0 c)->(c∈A++B\/b.S0 c):=fun c z=>z.imp (fun z=>(aal.mp z).elim (fun z=>aae _ (s' c z)) (aad _)) id
 refine⟨⟨A'++B,OwL.join' (Ows.step (Kp.refl _ _) (fun c z=>.inl ?_) (fun a xs e z=>?_) (fun _ _=>rfl) h1) (Ows.step (Kp.refl _ _) (fun c z=>.inl (sub c z)) nt (fun _ _=>rfl) t),aaC.mpr ⟨n',nB,fun a ha c hc=>dj a (s' a ha) c hc⟩,fun a ha=>?_⟩,w.fr,w.s0,w.nt⟩
 ·by_cases hc:c∈A'
  ·exact .inr hc
  ·refine .inl ⟨sub c z,fun hA=>?_⟩
   rcases z with z | z
   ·rcases aal.mp z with z | z
    ·exact hc z
    ·exact dj c hA c z rfl
   ·exact ds c (aae _ hA) z
 ·rcases z with z | z
  ·exact nt a xs e z.1
  ·exact nt a xs e (.inl (aae _ (s' a z)))
 ·rcases aal.mp ha with z | z
  ·exact new a (aae _ (s' a z))
  ·exact new a (aad _ z)
theorem OwL.one(h:OwL b S H [(v,x)] A):Ow b S H v x A:=by
 cases h with
 | cons r t=>cases t;rw[aar];exact r
theorem OwL.of1(h:Ow b S H v x A):OwL b S H [(v,x)] A:=by
 have:=Ows.cons h (Ows.nil )
 rw[aar]at this
 exact this
theorem Wd.frz(w:Wd b H ((v,x)::L))(e:x.dat=some d):Wd b H ((v,.fz d)::L):=by
 refine Wd.puts (L1:=[(v,x)]) w fun S A h nd hA al nt=>⟨[],OwL.of1 (.fz ?_),aa8,fun a z=>by cases z⟩
 exact Ow.frz (fun a z=>z.elim (·.1) (fun z=>by cases z)) nt (fun a ha z=>z.elim (fun z=>z.2 ha) (fun z=>by cases z)) h.one e
theorem Wd.dt(w:Wd b H ((v,x)::L))(e:x.dat=some d):Dt b.K H v d:=by
 obtain⟨A,h0,nd,new⟩:=w.out
 obtain⟨B,h⟩:=OwL.mem h0 (x:=(v,x)) (by simp)
 exact (Ow.frz (fun a z=>z.elim) (w.nt' h0) (fun a _ z=>z) h e).dt
theorem Wd.memDt(w:Wd b H L)(m:(v,x)∈L)(e:x.dat=some d):Dt b.K H v d:=by
 obtain⟨A,h0,nd,new⟩:=w.out
 obtain⟨B,h⟩:=OwL.mem h0 m
 exact (Ow.frz (fun a z=>z.elim) (w.nt' h0) (fun a _ z=>z) h e).dt
def FrzIn(b:Bs)(S:Addr->Prop)(H:Hp)(L:List (V × OD)):Prop:=∀u e,(u,OD.fz e)∈L->Fz b.K S H u e
theorem OwL.frzIn(h:OwL b S H L A):FrzIn b S H L:=fun u e m=>by
 obtain⟨B,q⟩:=OwL.mem h m
 cases q with | fz f=>exact f
theorem FrzIn.all(h:FrzIn b S H L):∀{vs:List V} {ds:List PyData},vs.length=ds.length->(∀z∈vs.zip (ds.map OD.fz),z∈L)->FzA b.K S H vs ds
 | [],[],_,_=>.nil
 | v::vs,d::ds,e,m=>.cons (h v d (m _ (by simp))) (FrzIn.all h (by simpa using e) fun z hz=>m z (by simp[hz]))
theorem Wd.add(w:Wd b H L)(h:∀S:Addr->Prop,(∀(x:V × OD),x∈L->∃A,Ow b S H x.1 x.2 A)->(∀a,H a=none->¬ S a)->(∀a xs,H a=some (.tup xs)->¬ S a)->Fz b.K S H v d):Wd b H ((v,.fz d)::L):=by
 obtain⟨A,h0,nd,new⟩:=w.out
 exact⟨⟨A,Ows.cons (.fz (h _ (fun x hx=>OwL.mem h0 hx) (fun a e=>w.al h0 e) (w.nt' h0))) h0,nd,new⟩,w.fr,w.s0,w.nt⟩
theorem Wd.adds(w:Wd b H L)(h:∀S:Addr->Prop,(∀(x:V × OD),x∈L->∃A,Ow b S H x.1 x.2 A)->FzA b.K S H vs ds):Wd b H (vs.zip (ds.map OD.fz)++L):=by
 obtain⟨A,h0,nd,new⟩:=w.out
 have q:∀{vs:List V} {ds:List PyData},FzA b.K (fun a=>a∈A\/b.S0 a) H vs ds->OwL b (fun a=>a∈A\/b.S0 a) H (vs.zip (ds.map OD.fz)) []:=by
  intro vs
  induction vs with
  | nil=>intro ds h;cases h;exact .nil
  | cons v vs ih=>intro ds h;cases h with | cons r t=>exact Ows.cons (.fz r) (ih t)
 exact⟨⟨A,OwL.join' (q (h _ fun x hx=>OwL.mem h0 hx)) h0,nd,new⟩,w.fr,w.s0,w.nt⟩
theorem Wd.dup(w:Wd b H ((v,.fz d)::L)):Wd b H ((v,.fz d)::(v,.fz d)::L):=w.add fun S h _ _=>by
 obtain⟨A,q⟩:=h (v,.fz d) (by simp)
 cases q with | fz f=>exact f
inductive Sc:V->PyData->Prop
 | non:Sc .non .none
 | bl (b:Bool):Sc (.bl b) (.bool b)
 | int (i:Int):Sc (.int i) (.int i)
 | str (x:Str):Sc (.str x) (.str x)
theorem Sc.fz{K:Waa}(h:Sc v d):Fz K S H v d:=by cases h<;>constructor
theorem Wd.sc(w:Wd b H L)(h:Sc v d):Wd b H ((v,.fz d)::L):=w.add fun S _ _ _=>h.fz
theorem Wd.new(w:Wd b H L)(hp:H p=none):Wd b (upd H p o) L:=by
 obtain⟨A,h,nd,new⟩:=w.out
 have np:=w.al h hp
 refine⟨⟨A,Ows.step (Kp.put (.inr hp)) (fun c z=>.inl z) (w.nt' h) (fun a ha=>upd_ne fun e=>np (.inl (e ▸ ha))) h,nd,new⟩,w.fr.trans (Kp.put (.inr hp)),w.s0,fun a xs e z=>?_⟩
 by_cases q:a=p
 ·subst q;exact np (.inr z)
 ·rw[upd_ne q]at e;exact w.nt a xs e z
theorem Wd.newC(w:Wd b H L)(hp:H p=none):b.H0 p=none:=w.fr.n p hp
theorem i9:∀{vs:List V} {xs:List OD},vs.length=xs.length->(vs.zip xs).map (·.1)=vs
 | [],[],_=>rfl
 | _::_,_::_,e=>by rw[aa9,aaj,i9 (by simpa using e)]
 | [],_::_,e=>by simp at e
 | _::_,[],e=>by simp at e
theorem ja:∀{vs:List V} {xs:List OD},vs.length=xs.length->(vs.zip xs).map (·.2)=xs
 | [],[],_=>rfl
 | _::_,_::_,e=>by rw[aa9,aaj,ja (by simpa using e)]
 | [],_::_,e=>by simp at e
 | _::_,[],e=>by simp at e
theorem OwL.zips(e:vs.length=xs.length)(h:OwL b S H (vs.zip xs) A):Ows b S H vs xs A:=by
 unfold OwL at h
 rw[i9 e,ja e]at h
 exact h
theorem OwL.unzips(h:Ows b S H vs xs A):OwL b S H (vs.zip xs) A:=by
 unfold OwL
 rw[i9 h.len,ja h.len]
 exact h
theorem Wd.newTup(w:Wd b H L)(h:∀S,FrzIn b S H L->FzA b.K S H vs ds)(hp:H p=none):Wd b (upd H p (.tup vs)) ((.ref p,.fz (.tuple ds))::L):=by
 obtain⟨A,h0,nd,new⟩:=w.out
 have np:=w.al h0 hp
 have hf:=h _ (OwL.frzIn h0)
 have w':=w.new hp (o:=.tup vs)
 refine⟨⟨A,Ows.cons (.fz (.tup (qy aE np) (hf.step (Kp.put (.inr hp)) fun c z=>.inl z))) (Ows.step (Kp.put (.inr hp)) (fun c z=>.inl z) (w.nt' h0) (fun a ha=>upd_ne fun e=>np (.inl (e ▸ ha))) h0),nd,new⟩,w'.fr,w'.s0,w'.nt⟩
theorem Wd.newTupC(w:Wd b H (vs.zip xs++L))(e:vs.length=xs.length)(hp:H p=none):Wd b (upd H p (.tup vs)) ((.ref p,.tup xs)::L):=by
 obtain⟨A,h0,nd,new⟩:=w.out
 have np:=w.al h0 hp
 have nt:=w.nt' h0
 have w':=w.new hp (o:=.tup vs)
 have up:∀a∈A,upd H p (.tup vs) a=H a:=fun a ha=>upd_ne fun e=>np (.inl (e ▸ ha))
 obtain⟨A1,A2,rfl,h1,h2⟩:=OwL.split' h0
 refine⟨⟨A1++A2,Ows.cons (.tup aE (Ows.step (Kp.put (.inr hp)) (fun c z=>.inl z) nt (fun a ha=>up a (aae _ ha)) (OwL.zips e h1))) (Ows.step (Kp.put (.inr hp)) (fun c z=>.inl z) nt (fun a ha=>up a (aad _ ha)) h2),nd,new⟩,w'.fr,w'.s0,w'.nt⟩
theorem Wd.newLst(w:Wd b H (vs.zip xs++L))(e:vs.length=xs.length)(hp:H p=none):Wd b (upd H p (.lst vs)) ((.ref p,.lst xs)::L):=by
 obtain⟨A,h0,nd,new⟩:=w.out
 have np:=w.al h0 hp
 have nt:=w.nt' h0
 have w':=w.new hp (o:=.lst vs)
 have up:∀a∈A,upd H p (.lst vs) a=H a:=fun a ha=>upd_ne fun e=>np (.inl (e ▸ ha))
 obtain⟨A1,A2,rfl,h1,h2⟩:=OwL.split' h0
 have n:∀c,(c∈p::(A1++A2)\/b.S0 c)->(c∈A1++A2\/b.S0 c)\/H c=none:=fun c z=>by
  rcases z with z | z
  ·rcases aab.mp z with rfl | z
   ·exact .inr hp
   ·exact .inl (.inl z)
  ·exact .inl (.inr z)
 refine⟨⟨p::(A1++A2),Ows.cons (.lst aE (Ows.step (Kp.put (.inr hp)) n nt (fun a ha=>up a (aae _ ha)) (OwL.zips e h1))) (Ows.step (Kp.put (.inr hp)) n nt (fun a ha=>up a (aad _ ha)) h2),aaH.mpr ⟨fun z=>np (.inl z),nd⟩,fun a ha=>?_⟩,w'.fr,w'.s0,w'.nt⟩
 rcases aab.mp ha with rfl | ha
 ·exact .inl (w.newC hp)
 ·exact new a ha
theorem Wd.newDic(w:Wd b H L)(hp:H p=none):Wd b (upd H p (.dK [])) ((.ref p,.dic [] [])::L):=by
 obtain⟨A,h0,nd,new⟩:=w.out
 have np:=w.al h0 hp
 have nt:=w.nt' h0
 have w':=w.new hp (o:=.dK [])
 have n:∀c,(c∈p::A\/b.S0 c)->(c∈A\/b.S0 c)\/H c=none:=fun c z=>by
  rcases z with z | z
  ·rcases aab.mp z with rfl | z
   ·exact .inr hp
   ·exact .inl (.inl z)
  ·exact .inl (.inr z)
 refine⟨⟨p::A,Ows.cons (A:=[p]) (.dic aE rfl rfl .nil) (Ows.step (Kp.put (.inr hp)) n nt (fun a ha=>upd_ne fun e=>np (.inl (e ▸ ha))) h0),aaH.mpr ⟨fun z=>np (.inl z),nd⟩,fun a ha=>?_⟩,w'.fr,w'.s0,w'.nt⟩
 rcases aab.mp ha with rfl | ha
 ·exact .inl (w.newC hp)
 ·exact new a ha
end
def OD.kids:OD->List OD
 | .lst xs=>xs | .tup xs=>xs | .dic _ xs=>xs | .obj _ _ xs=>xs
 | _=>[]
def OD.setKid(k:Nat)(y:OD):OD->OD
 | .lst xs=>.lst (xs.set k y) | .tup xs=>.tup (xs.set k y) | .dic ks xs=>.dic ks (xs.set k y) | .obj c ns xs=>.obj c ns (xs.set k y)
 | x=>x
def OD.at:List Nat->OD->Option OD
 | [],x=>some x
 | k::ks,x=>match x.kids[k]? with | some z=>OD.at ks z | none=>none
def OD.put(y:OD):List Nat->OD->OD
 | [],_=>y
 | k::ks,x=>match x.kids[k]? with | some z=>OD.setKid k (OD.put y ks z) x | none=>x
inductive Chd (b:Bs)(H:Hp):V->OD->Nat->V->OD->Prop
 | lst {a vs xs k w z}:H a=some (.lst vs)->vs.length=xs.length->vs[k]?=some w->xs[k]?=some z->Chd b H (.ref a) (.lst xs) k w z
 | tup {a vs xs k w z}:H a=some (.tup vs)->vs.length=xs.length->vs[k]?=some w->xs[k]?=some z->Chd b H (.ref a) (.tup xs) k w z
 | dic {a ws ks xs k w z}:H a=some (.dK ws)->ws.map (·.1)=ks->ws.length=xs.length->(ws[k]?).map (·.2)=some w->xs[k]?=some z->Chd b H (.ref a) (.dic ks xs) k w z
 | obj {a dx c fs ns xs k w z}:H a=some (.ins (aR b.K c) dx fs)->fs.map (·.1)=ns->fs.length=xs.length->(fs[k]?).map (·.2)=some w->xs[k]?=some z->Chd b H (.ref a) (.obj c ns xs) k w z
inductive Chn (b:Bs)(H:Hp):V->OD->List Nat->V->OD->Prop
 | nil {v x}:Chn b H v x [] v x
 | cons {v x k w z ks u y}:Chd b H v x k w z->Chn b H w z ks u y->Chn b H v x (k::ks) u y
section
variable{b:Bs}{S S':Addr->Prop}{H H1 H':Hp}{L L':List (V × OD)}{v u:V}{x y:OD}{d:PyData}{ds:List PyData}{p a:Addr}
theorem bM{α:Type}(A1 B A2:List α):(A1++(B++A2)).Perm (B++(A1++A2)):=by
 rw[<- aaf,<- aaf]
 exact aa3.append_right _
theorem bA{α:Type}:∀{l:List α} {i:Nat} {x:α},l[i]?=some x->l.set i x=l
 | [],_,_,e=>by simp at e
 | _::_,0,_,e=>by simp at e;subst e;rfl
 | y::l,i + 1,x,e=>by rw[aaF,bA (by simpa using e)]
theorem Ow.kid(h:Ow b S H v x A)(e:x.kids[k]?=some z):∃w B A',Chd b H v x k w z/\Ow b S H w z B/\A.Perm (B++A') /\
  ∀{S':Addr->Prop} {H':Hp} {z':OD} {B':List Addr},Kp S H H'->(∀c,S' c->S c\/H c=none)->(∀a xs,H a=some (.tup xs)->¬ S a)->(∀a∈A',H' a=H a)->Ow b S' H' w z' B'->∃A'',Ow b S' H' v (OD.setKid k z' x) A''/\A''.Perm (B'++A'):=by
 cases h with
 | fz _=>cases k<;>cases e
 | pinL _ _=>cases k<;>cases e
 | pinT _ _=>cases k<;>cases e
 | hole _=>cases k<;>cases e
 | @lst a vs xs A e1 t =>
  obtain⟨w,A1,B,A2,h1,rfl,h3,h4⟩:=t.zip e
  refine⟨w,B,a::(A1++A2),.lst e1 t.len h1 e,h3,((bM A1 B A2).cons a).trans aas.symm,fun {S' H' z' B'} k n hs s h=>?_⟩
  have:=h4 h fun sb h=>Ow.step k n hs (fun a ha=>s a (aai _ (aal.mpr (sb a ha)))) h
  rw[bA h1]at this
  exact⟨_,.lst ((s a aag).trans e1) this,((bM A1 B' A2).cons a).trans aas.symm⟩
 | @tup a vs xs A e1 t =>
  obtain⟨w,A1,B,A2,h1,rfl,h3,h4⟩:=t.zip e
  refine⟨w,B,A1++A2,.tup e1 t.len h1 e,h3,bM A1 B A2,fun {S' H' z' B'} k n hs s h=>?_⟩
  have:=h4 h fun sb h=>Ow.step k n hs (fun a ha=>s a (aal.mpr (sb a ha))) h
  rw[bA h1]at this
  exact⟨_,.tup (k.k _ _ e1 (hs _ _ e1)) this,bM A1 B' A2⟩
 | @dic a ws ks vs xs A e1 h5 h6 t =>
  obtain⟨w,A1,B,A2,h1,rfl,h3,h4⟩:=t.zip e
  refine⟨w,B,a::(A1++A2),.dic e1 h5 (by rw[<- t.len,<- h6,aaa]) (by rw[<- h6]at h1;simpa using h1) e,h3,((bM A1 B A2).cons a).trans aas.symm,fun {S' H' z' B'} k n hs s h=>?_⟩
  have:=h4 h fun sb h=>Ow.step k n hs (fun a ha=>s a (aai _ (aal.mpr (sb a ha)))) h
  rw[bA h1]at this
  exact⟨_,.dic ((s a aag).trans e1) h5 h6 this,((bM A1 B' A2).cons a).trans aas.symm⟩
 | @obj a dx c fs ns vs xs A e1 e2 h5 h6 t =>
  obtain⟨w,A1,B,A2,h1,rfl,h3,h4⟩:=t.zip e
  have pm:∀B:List Addr,(a::dx::(A1++(B++A2))).Perm (B++(a::dx::(A1++A2))):=fun B=>by
   refine (((bM A1 B A2).cons dx).cons a).trans ?_
   exact ((aas ).symm.cons a).trans aas.symm
  refine⟨w,B,a::dx::(A1++A2),.obj e1 h5 (by rw[<- t.len,<- h6,aaa]) (by rw[<- h6]at h1;simpa using h1) e,h3,pm B,fun {S' H' z' B'} k n hs s h=>?_⟩
  have:=h4 h fun sb h=>Ow.step k n hs (fun a ha=>s a (aai _ (aai _ (aal.mpr (sb a ha))))) h
  rw[bA h1]at this
  exact⟨_,.obj ((s a aag).trans e1) ((s dx (aai _ aag)).trans e2) h5 h6 this,pm B'⟩
theorem Ow.path:∀{ks:List Nat} {v:V} {x:OD} {A:List Addr} {y:OD},Ow b S H v x A->x.at ks=some y->∃u B A',Chn b H v x ks u y/\Ow b S H u y B/\A.Perm (B++A') /\
  ∀{S':Addr->Prop} {H':Hp} {y':OD} {B':List Addr},Kp S H H'->(∀c,S' c->S c\/H c=none)->(∀a xs,H a=some (.tup xs)->¬ S a)->(∀a∈A',H' a=H a)->Ow b S' H' u y' B'->∃A'',Ow b S' H' v (OD.put y' ks x) A''/\A''.Perm (B'++A')
 | [],v,x,A,y,h,e=>by
  simp only[OD.at]at e
  cases e
  exact⟨v,A,[],.nil,h,by simp,fun {S' H' y' B'} _ _ _ _ h=>⟨B',h,by simp⟩⟩
 | k::ks,v,x,A,y,h,e=>by
  simp only[OD.at]at e
  cases ez:x.kids[k]? with
  | none=>rw[ez]at e;cases e
  | some z =>
   rw[ez]at e
   simp only at e
   obtain⟨w,B,A',c1,h1,p1,f1⟩:=h.kid ez
   obtain⟨u,B2,A2,c2,h2,p2,f2⟩:=Ow.path h1 e
   refine⟨u,B2,A2++A',.cons c1 c2,h2,p1.trans (by rw[<- aaf];exact p2.append_right _),fun {S' H' y' B'} k' n hs s h=>?_⟩
   obtain⟨A3,h3,p3⟩:=f2 k' n hs (fun a ha=>s a (aae _ ha)) h
   obtain⟨A4,h4,p4⟩:=f1 k' n hs (fun a ha=>s a (aad _ ha)) h3
   refine⟨A4,?_,p4.trans (by rw[<- aaf];exact p3.append_right _)⟩
   simp only[OD.put,ez]
   exact h4
end
end
section
section
variable{b:Bs}{S S':Addr->Prop}{H H1 H':Hp}{L L':List (V × OD)}{v u:V}{x y:OD}{d:PyData}{ds:List PyData}{p a:Addr}{us:List V}{zs:List OD}{ks:List Nat}
theorem Wd.mutC(w:Wd b H (us.zip zs++((v,x)::L)))(el:us.length=zs.length)(e:x.at ks=some y):∃(S:Addr->Prop) (u:V) (B C:List Addr),Chn b H v x ks u y/\Ow b S H u y B/\Ows b S H us zs C/\(B++C).Nodup/\(∀c∈B,S c)/\(∀c,H c=none->¬ S c)/\(∀c xs,H c=some (.tup xs)->¬ S c)/\FrzIn b S H L /\
  ∀{H':Hp} {y':OD} {D:List Addr},(∀c,c ∉ B->H' c=H c)->(∀c∈B,∃o,H' c=some o/\MutO o)->D.Nodup->(∀c∈D,c∈B\/c∈C)->(∀S':Addr->Prop,(∀c,S' c->S c)->(∀c∈B,S' c->c∈D)->Ow b S' H' u y' D)->Wd b H' ((v,OD.put y' ks x)::L):=by
 obtain⟨A0,h0,nd,new⟩:=w.out
 have nt:=w.nt' h0
 have al:=fun {a}=>w.al h0 (a:=a)
 obtain⟨C,A1,rfl,hz,h1⟩:=OwL.split' h0
 cases h1 with
 | @cons _ _ A _ _ E r t =>
  obtain⟨u,B,A',ch,hy,pB,go⟩:=Ow.path r e
  obtain⟨nC,nAE,dCA⟩:=aaC.mp nd
  obtain⟨nA,nE,dAE⟩:=aaC.mp nAE
  have nBA:=pB.nodup_iff.mp nA
  obtain⟨nB,nA',dBA⟩:=aaC.mp nBA
  have inA:∀c,c∈A ↔ c∈B\/c∈A':=fun c=>by rw[pB.mem_iff,aal]
  refine⟨_,u,B,C,ch,hy,OwL.zips el hz,aaC.mpr ⟨nB,nC,fun c hc c' hc' e=>dCA c' hc' c (aae _ ((inA c).mpr (.inl hc))) e.symm⟩,fun c hc=>.inl (aad _ (aae _ ((inA c).mpr (.inl hc)))),fun c e=>al e,nt,OwL.frzIn t,fun {H' y' D} hk hm nD sD hO=>?_⟩
  have kp:Kp (fun c=>c∈C++(A++E)\/b.S0 c) H H':=⟨fun c o e n=>by
    rw[hk c fun z=>n (.inl (aad _ (aae _ ((inA c).mpr (.inl z)))))];exact e,fun c e=>by
    by_cases z:c∈B
    ·obtain⟨o,q,_⟩:=hm c z
     rw[q]at e;cases e
    ·rw[hk c z]at e;exact e⟩
  have sub:∀c,(c∈(D++A')++E\/b.S0 c)->(c∈C++(A++E)\/b.S0 c):=fun c z=>z.imp (fun z=>by
   rcases aal.mp z with z | z
   ·rcases aal.mp z with z | z
    ·rcases sD c z with z | z
     ·exact aad _ (aae _ ((inA c).mpr (.inl z)))
     ·exact aae _ z
    ·exact aad _ (aae _ ((inA c).mpr (.inr z)))
   ·exact aad _ (aad _ z)) id
  obtain⟨A'',hx,pA⟩:=go kp (fun c z=>.inl (sub c z)) nt (fun c hc=>hk c fun z=>dBA c z c hc rfl) (hO _ sub fun c hc z=>by
   rcases z with z | z
   ·rcases aal.mp z with z | z
    ·rcases aal.mp z with z | z
     ·exact z
     ·exact absurd rfl (dBA c hc c z)
    ·exact absurd rfl (dAE c ((inA c).mpr (.inl hc)) c z)
   ·exact absurd z (w.dj new c (aad _ (aae _ ((inA c).mpr (.inl hc))))))
  have inA'':∀c,c∈A'' ↔ c∈D++A':=fun c=>pA.mem_iff
  have ntA:∀c xs,H' c=some (.tup xs)->¬ (c∈(D++A')++E\/b.S0 c):=fun c xs e z=>by
   by_cases q:c∈B
   ·obtain⟨o,q1,q2⟩:=hm c q
    rw[q1]at e;cases e;exact q2
   ·rw[hk c q]at e;exact nt c xs e (sub c z)
  have dDA:∀c∈D,∀c'∈A',c≠c':=fun c hc c' hc' e=>by
   subst e
   rcases sD c hc with z | z
   ·exact dBA c z c hc' rfl
   ·exact dCA c z c (aae _ ((inA c).mpr (.inr hc'))) rfl
  refine⟨⟨A''++E,Ows.cons (Ow.sub ntA (fun c z=>z.imp (fun z=>(aal.mp z).elim (fun z=>aae _ ((inA'' c).mp z)) (aad _)) id) hx) (Ows.step kp (fun c z=>.inl (sub c (z.imp (fun z=>(aal.mp z).elim (fun z=>aae _ ((inA'' c).mp z)) (aad _)) id))) nt (fun c hc=>hk c fun z=>dAE c ((inA c).mpr (.inl z)) c hc rfl) t),?_,fun c hc=>?_⟩,?_,w.s0,fun c xs e z=>?_⟩
  ·refine aaC.mpr ⟨pA.nodup_iff.mpr (aaC.mpr ⟨nD,nA',dDA⟩),nE,fun c hc c' hc' e=>?_⟩
   subst e
   rcases aal.mp ((inA'' c).mp hc) with z | z
   ·rcases sD c z with z | z
    ·exact dAE c ((inA c).mpr (.inl z)) c hc' rfl
    ·exact dCA c z c (aad _ hc') rfl
   ·exact dAE c ((inA c).mpr (.inr z)) c hc' rfl
  ·have:c∈C++(A++E)\/b.S0 c:=sub c (.inl ((aal.mp hc).elim (fun z=>aae _ ((inA'' c).mp z)) (aad _)))
   have hc2:c∈C++(A++E):=by
    rcases aal.mp hc with z | z
    ·rcases aal.mp ((inA'' c).mp z) with z | z
     ·rcases sD c z with z | z
      ·exact aad _ (aae _ ((inA c).mpr (.inl z)))
      ·exact aae _ z
     ·exact aad _ (aae _ ((inA c).mpr (.inr z)))
    ·exact aad _ (aad _ z)
   exact new c hc2
  ·refine⟨fun c o e n=>?_,fun c e=>w.fr.n c (kp.n c e)⟩
   rw[hk c fun z=>?_]
   ·exact w.fr.k c o e n
   ·rcases new c (aad _ (aae _ ((inA c).mpr (.inl z)))) with q | q
    ·rw[q]at e;cases e
    ·exact n q
  ·exact ntA c xs e (.inr z)
theorem Wd.mutL(w:Wd b H (us.zip zs++((v,x)::L)))(el:us.length=zs.length)(e:x.at ks=some (.lst xs)):∃a vs,Chn b H v x ks (.ref a) (.lst xs)/\H a=some (.lst vs)/\vs.length=xs.length /\
  ∀vs' xs',(∀(S:Addr->Prop) (H:Hp) (A C:List Addr),(∀c xs,H c=some (.tup xs)->¬ S c)->Ows b S H vs xs A->Ows b S H us zs C->(A++C).Nodup->∃D,Ows b S H vs' xs' D/\D.Nodup/\∀c∈D,c∈A\/c∈C)->Wd b (upd H a (.lst vs')) ((v,OD.put (.lst xs') ks x)::L):=by
 obtain⟨S,u,B,C,ch,hy,hz,nd,hS,al,nt,fi,go⟩:=w.mutC el e
 cases hy with
 | @lst a vs _ A e1 t =>
  refine⟨a,vs,ch,e1,t.len,fun vs' xs' hf=>?_⟩
  obtain⟨nA,nAC⟩:=aaH.mp (show (a::(A++C)).Nodup from nd)
  have hk:∀c,c≠a->upd H a (.lst vs') c=H c:=fun c n=>upd_ne n
  have kp:Kp S H (upd H a (.lst vs')):=Kp.put (.inl (hS a (by simp)))
  have key:∀S':Addr->Prop,(∀c,S' c->S c)->∃D,Ows b S' (upd H a (.lst vs')) vs' xs' D/\D.Nodup/\∀c∈D,c∈A\/c∈C:=fun S' hS'=>by
   refine hf S' _ A C (fun c xs e z=>?_) (Ows.step kp (fun c z=>.inl (hS' c z)) nt (fun c hc=>hk c fun e=>nA (e ▸ aae _ hc)) t) (Ows.step kp (fun c z=>.inl (hS' c z)) nt (fun c hc=>hk c fun e=>nA (e ▸ aad _ hc)) hz) nAC
   by_cases q:c=a
   ·subst q;rw[aE]at e;cases e
   ·rw[upd_ne q]at e;exact nt c xs e (hS' c z)
  obtain⟨D,hD,nD,sD⟩:=key S fun _ z=>z
  have ntn:∀c xs,upd H a (.lst vs') c=some (.tup xs)->¬ S c:=fun c xs e z=>by
   by_cases q:c=a
   ·subst q;rw[aE]at e;cases e
   ·rw[upd_ne q]at e;exact nt c xs e z
  refine go (fun c n=>hk c fun e=>n (by simp[e])) (fun c hc=>?_) (aaH.mpr ⟨fun z=>nA (by rcases sD a z with z | z<;>simp[z]),nD⟩) (fun c hc=>?_) fun S' hS' _=>.lst aE (Ows.sub ntn hS' hD)
  ·rcases aab.mp hc with rfl | hc
   ·exact⟨_,aE,trivial⟩
   ·obtain⟨o,q,m⟩:=t.mu c hc
    exact⟨o,by rw[hk c fun e=>nA (e ▸ aae _ hc)];exact q,m⟩
  ·rcases aab.mp hc with rfl | hc
   ·exact .inl (by simp)
   ·exact (sD c hc).imp (aai _) id
theorem Wd.mutD(w:Wd b H (us.zip zs++((v,x)::L)))(el:us.length=zs.length)(e:x.at ks=some (.dic kk xs)):∃a ws,Chn b H v x ks (.ref a) (.dic kk xs)/\H a=some (.dK ws)/\ws.map (·.1)=kk/\ws.length=xs.length /\
  ∀ws' kk' xs',ws'.map (·.1)=kk'->(∀(S:Addr->Prop) (H:Hp) (A C:List Addr),(∀c xs,H c=some (.tup xs)->¬ S c)->Ows b S H (ws.map (·.2)) xs A->Ows b S H us zs C->(A++C).Nodup->∃D,Ows b S H (ws'.map (·.2)) xs' D/\D.Nodup/\∀c∈D,c∈A\/c∈C)->Wd b (upd H a (.dK ws')) ((v,OD.put (.dic kk' xs') ks x)::L):=by
 obtain⟨S,u,B,C,ch,hy,hz,nd,hS,al,nt,fi,go⟩:=w.mutC el e
 cases hy with
 | @dic a ws _ vs _ A e1 h5 h6 t =>
  subst h6
  refine⟨a,ws,ch,e1,h5,by have:=t.len;rwa [aaa]at this,fun ws' kk' xs' hkk hf=>?_⟩
  obtain⟨nA,nAC⟩:=aaH.mp (show (a::(A++C)).Nodup from nd)
  have hk:∀c,c≠a->upd H a (.dK ws') c=H c:=fun c n=>upd_ne n
  have kp:Kp S H (upd H a (.dK ws')):=Kp.put (.inl (hS a (by simp)))
  have ntn:∀c xs,upd H a (.dK ws') c=some (.tup xs)->¬ S c:=fun c xs e z=>by
   by_cases q:c=a
   ·subst q;rw[aE]at e;cases e
   ·rw[upd_ne q]at e;exact nt c xs e z
  obtain⟨D,hD,nD,sD⟩:=hf S _ A C ntn (Ows.step kp (fun c z=>.inl z) nt (fun c hc=>hk c fun e=>nA (e ▸ aae _ hc)) t) (Ows.step kp (fun c z=>.inl z) nt (fun c hc=>hk c fun e=>nA (e ▸ aad _ hc)) hz) nAC
  refine go (fun c n=>hk c fun e=>n (by simp[e])) (fun c hc=>?_) (aaH.mpr ⟨fun z=>nA (by rcases sD a z with z | z<;>simp[z]),nD⟩) (fun c hc=>?_) fun S' hS' _=>.dic aE hkk rfl (Ows.sub ntn hS' hD)
  ·rcases aab.mp hc with rfl | hc
   ·exact⟨_,aE,trivial⟩
   ·obtain⟨o,q,m⟩:=t.mu c hc
    exact⟨o,by rw[hk c fun e=>nA (e ▸ aae _ hc)];exact q,m⟩
  ·rcases aab.mp hc with rfl | hc
   ·exact .inl (by simp)
   ·exact (sD c hc).imp (aai _) id
theorem Chd.det(h:Chd b H v x k w z)(h':Chd b H v x k w' z'):w=w'/\z=z':=by
 cases h with
 | lst e1 e2 e3 e4=>cases h' with | lst f1 f2 f3 f4=>rw[e1]at f1;cases f1;rw[e3]at f3;cases f3;rw[e4]at f4;cases f4;exact⟨rfl,rfl⟩
 | tup e1 e2 e3 e4=>cases h' with | tup f1 f2 f3 f4=>rw[e1]at f1;cases f1;rw[e3]at f3;cases f3;rw[e4]at f4;cases f4;exact⟨rfl,rfl⟩
 | dic e1 e2 e5 e3 e4=>cases h' with | dic f1 f2 f5 f3 f4=>rw[e1]at f1;cases f1;rw[e3]at f3;cases f3;rw[e4]at f4;cases f4;exact⟨rfl,rfl⟩
 | obj e1 e2 e5 e3 e4=>cases h' with | obj f1 f2 f5 f3 f4=>rw[e1]at f1;cases f1;rw[e3]at f3;cases f3;rw[e4]at f4;cases f4;exact⟨rfl,rfl⟩
theorem Chd.same(h:Chd b H v x k w z)(h':Chd b H v (OD.setKid k y x) k w' y'):w=w':=by
 cases h with
 | lst e1 e2 e3 e4=>cases h' with | lst f1 f2 f3 f4=>rw[e1]at f1;cases f1;rw[e3]at f3;cases f3;rfl
 | tup e1 e2 e3 e4=>cases h' with | tup f1 f2 f3 f4=>rw[e1]at f1;cases f1;rw[e3]at f3;cases f3;rfl
 | dic e1 e2 e5 e3 e4=>cases h' with | dic f1 f2 f5 f3 f4=>rw[e1]at f1;cases f1;rw[e3]at f3;cases f3;rfl
 | obj e1 e2 e5 e3 e4=>cases h' with | obj f1 f2 f5 f3 f4=>rw[e1]at f1;cases f1;rw[e3]at f3;cases f3;rfl
theorem Chd.kid(h:Chd b H v x k w z):x.kids[k]?=some z:=by
 cases h with
 | lst _ _ _ e=>exact e
 | tup _ _ _ e=>exact e
 | dic _ _ _ _ e=>exact e
 | obj _ _ _ _ e=>exact e
theorem Chd.set(h:Chd b H v x k w z):(OD.setKid k y x).kids[k]?=some y:=by
 cases h with
 | lst _ _ _ e=>exact aa5 (aau.mp e).1
 | tup _ _ _ e=>exact aa5 (aau.mp e).1
 | dic _ _ _ _ e=>exact aa5 (aau.mp e).1
 | obj _ _ _ _ e=>exact aa5 (aau.mp e).1
theorem Wd.frzAt(w:Wd b H ((v,x)::L))(e:x.at ks=some y)(ed:y.dat=some d):∃u,Chn b H v x ks u y/\Wd b H ((u,.fz d)::(v,OD.put (.fz d) ks x)::L):=by
 obtain⟨S,u,B,C,ch,hy,hz,nd,hS,al,nt,fi,go⟩:=Wd.mutC (us:=[]) (zs:=[]) w rfl e
 have w2:Wd b H ((v,OD.put (.fz d) ks x)::L):=go (fun _ _=>rfl) (fun c hc=>hy.mu c hc) aa8 (fun c hc=>by cases hc) fun S' hS' hB=>.fz (Ow.frz hS' nt (fun a ha z=>by cases hB a ha z) hy ed)
 refine⟨u,ch,w2.add fun S1 h1 al1 nt1=>?_⟩
 obtain⟨A1,o1⟩:=h1 (v,OD.put (.fz d) ks x) (by simp)
 have q:∀{ks:List Nat} {v u:V} {x:OD} {A:List Addr},Chn b H v x ks u y->Ow b S1 H v (OD.put (.fz d) ks x) A->Fz b.K S1 H u d:=fun {ks}=>by
  induction ks with
  | nil=>intro v u x A c o;cases c;simp only[OD.put]at o;cases o with | fz f=>exact f
  | cons k ks ih =>
   intro v u x A c o
   cases c with
   | cons c1 c2 =>
    have eo:=c1.kid
    simp only[OD.put,eo]at o
    obtain⟨u',B',A',c',o',_⟩:=o.kid c1.set
    have e6:=c1.same c'
    subst e6
    exact ih c2 o'
 exact q ch o1
end
end
section
abbrev DSp:=List OD->(OD->List OD->Prop)->Prop
def EH(K:Waa)(S:Addr->Prop)(A:List Addr)(vs:List V)(H:Hp)(Q:VK)(x:OD)(ys:List OD):Prop:=∀v H' B,Kp (fun a=>a∈A) H H' ->
 Ows ⟨K,H,S,fun a=>a∈A⟩ (fun a=>a∈B\/S a) H' (v::vs) (x::ys) B->B.Nodup->(∀a∈B,H a=none\/a∈A)->Q v H'
def toSp(K:Waa)(sp:DSp):Sp:=fun vs H Q _=>∃(S:Addr->Prop) (xs:List OD) (A:List Addr),(∀a,S a->H a≠none/\a ∉ A)/\(∀a xs,H a=some (.tup xs)->¬ S a) /\
 Ows ⟨K,H,S,fun a=>a∈A⟩ (fun a=>a∈A\/S a) H vs xs A/\A.Nodup/\sp xs (EH K S A vs H Q)
def uo(sp:DSp):Prop:=∀xs (P R:OD->List OD->Prop),(∀x ys,P x ys->R x ys)->sp xs P->sp xs R
section
variable{b:Bs}{H H':Hp}{L:List (V × OD)}{v:V}{x:OD}
theorem Wd.call(w:Wd b H (us.zip xs++L))(el:us.length=xs.length)(mono:uo sp)
  (h:sp xs fun x ys=>us.length=ys.length->∀v H',Wd b H' ((v,x)::(us.zip ys++L))->Q v H'):toSp b.K sp us H Q E:=by
 obtain⟨A0,h0,nd,new⟩:=w.out
 have nt:=w.nt' h0
 have al:=fun {a}=>w.al h0 (a:=a)
 obtain⟨A,A2,rfl,h1,h2⟩:=OwL.split' h0
 obtain⟨nA,nA2,dj⟩:=aaC.mp nd
 have nS0:=w.dj new
 refine⟨fun a=>a∈A2\/b.S0 a,xs,A,fun a z=>⟨fun e=>al e (z.imp (aad _) id),fun hA=>?_⟩,fun a xs e z=>nt a xs e (z.imp (aad _) id),?_,nA,mono _ _ _ (fun x ys hQ v H' B kp hO nB hB=>?_) h⟩
 ·rcases z with z | z
  ·exact dj a hA a z rfl
  ·exact nS0 a (aae _ hA) z
 ·refine Ows.subB (b2:=⟨b.K,H,fun a=>a∈A2\/b.S0 a,fun a=>a∈A⟩) (b:=b) rfl nt (fun c z=>?_) (OwL.zips el h1)
  rcases z with z | z | z
  ·exact .inl (aae _ z)
  ·exact .inl (aad _ z)
  ·exact .inr z
 have eys:us.length=ys.length:=by have:=hO.len;simpa using this
 have same:∀a,a ∉ A->H a≠none->H' a=H a:=fun a hA ha=>by
  cases e:H a with
  | none=>exact absurd e ha
  | some o=>exact kp.k a o e hA
 have kp':Kp (fun a=>a∈A++A2\/b.S0 a) H H':=kp.weak fun c hc=>.inl (.inl (aae _ hc))
 have n':∀c,(c∈B++A2\/b.S0 c)->(c∈A++A2\/b.S0 c)\/H c=none:=fun c z=>by
  rcases z with z | z
  ·rcases aal.mp z with z | z
   ·exact (hB c z).elim .inr fun z=>.inl (.inl (aae _ z))
   ·exact .inl (.inl (aad _ z))
  ·exact .inl (.inr z)
 have ntB:∀a xs,H' a=some (.tup xs)->¬ (a∈B\/a∈A2\/b.S0 a):=fun a xs e z=>by
  rcases z with z | z
  ·exact hO.tl a z xs e
  ·have hA:a ∉ A:=fun hA=>by
    rcases z with z | z
    ·exact dj a hA a z rfl
    ·exact nS0 a (aae _ hA) z
   have hn:H a≠none:=fun e=>al e (z.imp (aad _) id)
   rw[same a hA hn]at e
   exact nt a xs e (z.imp (aad _) id)
 have e1:((v,x)::(us.zip ys++L))=((v::us).zip (x::ys))++L:=rfl
 refine hQ eys v H' ?_
 rw[e1]
 refine⟨⟨B++A2,OwL.join' (OwL.unzips (Ows.subB (b2:=b) (b:=⟨b.K,H,fun a=>a∈A2\/b.S0 a,fun a=>a∈A⟩) rfl ntB (fun c z=>?_) hO)) (Ows.step kp' n' nt (fun a ha=>same a (fun hA=>dj a hA a ha rfl) fun e=>al e (.inl (aad _ ha))) h2),aaC.mpr ⟨nB,nA2,fun a ha c hc e=>?_⟩,fun a ha=>?_⟩,?_,w.s0,fun a xs e z=>ntB a xs e (.inr (.inr z))⟩
 ·rcases z with z | z
  ·exact (aal.mp z).imp id .inl
  ·exact .inr (.inr z)
 ·subst e
  rcases hB a ha with z | z
  ·exact al z (.inl (aad _ hc))
  ·exact dj a z a hc rfl
 ·rcases aal.mp ha with z | z
  ·rcases hB a z with z | z
   ·exact .inl (w.newC z)
   ·exact new a (aae _ z)
  ·exact new a (aad _ z)
 ·refine⟨fun c o e nc=>kp.k c o (w.fr.k c o e nc) fun hA=>?_,fun c e=>w.fr.n c (kp.n c e)⟩
  rcases new c (aae _ hA) with z | z
  ·rw[z]at e;cases e
  ·exact nc z
theorem Wd.pin(w:Wd b H ((v,.fz d)::L))(e:d=if l then .list ds else .tuple ds):∃xs,Wd b H ((v,.pin l xs ds)::L):=by
 obtain⟨A0,h0,nd,new⟩:=w.out
 cases h0 with
 | cons r t =>
  cases r with
  | fz r =>
   cases l with
   | true =>
    subst e
    obtain⟨a,xs,rfl,h1,h2⟩:=r.list_inv
    exact⟨xs,⟨⟨_,Ows.cons (.pinL h1 h2) t,nd,new⟩,w.fr,w.s0,w.nt⟩⟩
   | false =>
    subst e
    obtain⟨a,xs,rfl,h1,h2⟩:=r.tup_inv
    exact⟨xs,⟨⟨_,Ows.cons (.pinT h1 h2) t,nd,new⟩,w.fr,w.s0,w.nt⟩⟩
theorem Wd.pinned(w:Wd b H L)(m:(v,OD.pin l xs ds)∈L):∃a,v=.ref a/\xs.length=ds.length/\(if l then SqL b.K H a xs else SqT b.K H a xs)/\Wd b H (xs.zip (ds.map OD.fz)++L):=by
 obtain⟨A,h0,nd,new⟩:=w.out
 obtain⟨B,h⟩:=OwL.mem h0 m
 have q:Wd b H (xs.zip (ds.map OD.fz)++L):=w.adds fun S hS=>by
  obtain⟨B,h⟩:=hS _ m
  cases h with
  | pinL _ t=>exact t
  | pinT _ t=>exact t
 cases h with
 | pinL h1 h2=>exact⟨_,rfl,h2.length,h1.now,q⟩
 | pinT h1 h2=>exact⟨_,rfl,h2.length,h1.now,q⟩
end
end
section
abbrev DEnv:=List (Option OD)
def flat:St->DEnv->List (V × OD)
 | some v::σ,some x::ρ=>(v,x)::flat σ ρ
 | _::σ,_::ρ=>flat σ ρ
 | _,_=>[]
def Wf:St->DEnv->Prop
 | [],[]=>True
 | _::σ,none::ρ=>Wf σ ρ
 | some _::σ,some _::ρ=>Wf σ ρ
 | _,_=>False
section
variable{σ:St}{ρ:DEnv}{i:Nat}{x y:OD}{v u:V}
theorem br:flat (o::σ) (none::ρ)=flat σ ρ:=by cases o<;>rfl
theorem Wf.get:∀{σ:St} {ρ:DEnv} {i:Nat},Wf σ ρ->ρ[i]?=some (some x)->∃v,σ[i]?=some (some v)
 | [],[],_,_,e=>by simp at e
 | [],_::_,_,h,_=>by simp[Wf]at h
 | _::_,[],_,_,e=>by simp at e
 | some v::_,some _::_,0,_,_=>⟨v,rfl⟩
 | none::_,some _::_,_,h,_=>by simp[Wf]at h
 | o::_,none::_,0,_,e=>by simp at e
 | o::σ,none::ρ,i + 1,h,e=>by
  obtain⟨v,q⟩:=Wf.get (ρ:=ρ) h (by simpa using e)
  exact⟨v,by simpa using q⟩
 | some _::σ,some _::ρ,i + 1,h,e=>by
  obtain⟨v,q⟩:=Wf.get (ρ:=ρ) h (by simpa using e)
  exact⟨v,by simpa using q⟩
theorem Wf.len:∀{σ:St} {ρ:DEnv},Wf σ ρ->σ.length=ρ.length
 | [],[],_=>rfl
 | [],_::_,h=>by simp[Wf]at h
 | _::_,[],h=>by simp[Wf]at h
 | o::σ,none::ρ,h=>by simp[Wf.len (σ:=σ) h]
 | some _::σ,some _::ρ,h=>by simp[Wf.len (ρ:=ρ) h]
 | none::_,some _::_,h=>by simp[Wf]at h
theorem Wf.off:∀{σ:St} {ρ:DEnv} {i:Nat},Wf σ ρ->Wf σ (ρ.set i none)
 | [],[],_,_=>trivial
 | [],_::_,_,h=>by simp[Wf]at h
 | _::_,[],_,h=>by simp[Wf]at h
 | o::σ,none::ρ,0,h=>h
 | some _::σ,some _::ρ,0,h=>h
 | none::_,some _::_,_,h=>by simp[Wf]at h
 | o::σ,none::ρ,i + 1,h=>Wf.off (σ:=σ) h
 | some _::σ,some _::ρ,i + 1,h=>Wf.off (i:=i) h
theorem Wf.put:∀{σ:St} {ρ:DEnv} {i:Nat},Wf σ ρ->Wf (σ.set i (some v)) (ρ.set i (some x))
 | [],[],_,_=>trivial
 | [],_::_,_,h=>by simp[Wf]at h
 | _::_,[],_,h=>by simp[Wf]at h
 | o::σ,none::ρ,0,h=>h
 | some _::σ,some _::ρ,0,h=>h
 | none::_,some _::_,_,h=>by simp[Wf]at h
 | o::σ,none::ρ,i + 1,h=>Wf.put (σ:=σ) h
 | some _::σ,some _::ρ,i + 1,h=>Wf.put (i:=i) h
theorem bw:∀{σ:St} {ρ:DEnv} {i:Nat},ρ[i]?=some (some x)->σ[i]?=some (some v)->(flat σ ρ).Perm ((v,x)::flat σ (ρ.set i none))
 | [],_,_,_,e=>by simp at e
 | _::_,[],_,e,_=>by simp at e
 | some u::σ,some y::ρ,0,e,e'=>by
  simp at e e'
  subst e e'
  exact .refl _
 | none::_,_::_,0,_,e=>by simp at e
 | some _::_,none::_,0,e,_=>by simp at e
 | o::σ,none::ρ,i + 1,e,e'=>by
  rw[aaF,br,br]
  exact bw (by simpa using e) (by simpa using e')
 | some u::σ,some y::ρ,i + 1,e,e'=>by
  rw[aaF]
  exact ((bw (σ:=σ) (by simpa using e) (by simpa using e')).cons _).trans (List.Perm.swap _ _ _)
 | none::σ,some y::ρ,i + 1,e,e'=>by
  rw[aaF]
  exact bw (by simpa using e) (by simpa using e')
theorem cv:∀{σ:St} {ρ:DEnv} {i:Nat},i < ρ.length->σ.length=ρ.length->(flat (σ.set i (some v)) (ρ.set i (some x))).Perm ((v,x)::flat σ (ρ.set i none))
 | _,[],_,h,_=>by simp at h
 | [],_::_,_,_,h=>by simp at h
 | o::σ,y::ρ,0,_,_=>by
  rw[ab0,ab0,ab0,br]
  exact .refl _
 | o::σ,none::ρ,i + 1,h,h'=>by
  rw[aaF,aaF,aaF,br,br]
  exact cv (by simpa using h) (by simpa using h')
 | none::σ,some _::ρ,i + 1,h,h'=>by
  rw[aaF,aaF,aaF]
  exact cv (σ:=σ) (by simpa using h) (by simpa using h')
 | some u::σ,some y::ρ,i + 1,h,h'=>by
  rw[aaF,aaF,aaF]
  exact ((cv (by simpa using h) (by simpa using h')).cons _).trans (List.Perm.swap _ _ _)
theorem set_self{α:Type}:∀{l:List α} {i:Nat} {x:α},l[i]?=some x->l.set i x=l
 | [],_,_,e=>by simp at e
 | _::_,0,_,e=>by simp at e;subst e;rfl
 | y::l,i + 1,x,e=>by rw[aaF,set_self (by simpa using e)]
end
inductive OR where | val (x:OD) | rf (i:Nat)
def stk:List V->List OR->List (V × OD)
 | v::τ,.val x::θ=>(v,x)::stk τ θ
 | _::τ,.rf _::θ=>stk τ θ
 | _,_=>[]
def Al(σ:St):List V->List OR->Prop
 | [],[]=>True
 | _::τ,.val _::θ=>Al σ τ θ
 | v::τ,.rf i::θ=>σ[i]?=some (some v)/\Al σ τ θ
 | _,_=>False
structure Fr where
 σ:St
 ρ:DEnv
 τ:List V
 θ:List OR
def ff(F:List Fr):List (V × OD):=F.flatMap fun f=>stk f.τ f.θ++flat f.σ f.ρ
structure Rel (b:Bs)(F:List Fr)(σ:St)(H:Hp)(ρ:DEnv)(τ:List V)(θ:List OR):Prop where
 wf:Wf σ ρ
 al:Al σ τ θ
 wff:∀f∈F,Wf f.σ f.ρ/\Al f.σ f.τ f.θ
 wd:Wd b H (stk τ θ++(flat σ ρ++ff F))
def ao(ρ:DEnv):OR->Option PyData
 | .val x=>x.dat
 | .rf i=>(ρ[i]?.join).bind OD.dat
section
variable{b:Bs}{F:List Fr}{σ:St}{H H':Hp}{ρ ρ':DEnv}{τ vs:List V}{θ rs:List OR}{v u:V}{r:OR}{x y:OD}{d:PyData}{i:Nat}
theorem join_some{α:Type}{o:Option (Option α)}{x:α}(h:o.join=some x):o=some (some x):=by
 cases o with
 | none=>cases h
 | some o=>exact congrArg some h
theorem aG:∀{vs τ:List V} {rs θ:List OR},vs.length=rs.length->stk (vs++τ) (rs++θ)=stk vs rs++stk τ θ
 | [],_,[],_,_=>rfl
 | _::vs,τ,.val _::rs,θ,e=>by
  simp only[aaN,stk]
  rw[aG (by simpa using e)]
 | _::vs,τ,.rf _::rs,θ,e=>by
  simp only[aaN,stk]
  exact aG (by simpa using e)
 | [],_,_::_,_,e=>by simp at e
 | _::_,_,[],_,e=>by simp at e
theorem aZ:∀{vs τ:List V} {rs θ:List OR},vs.length=rs.length->(Al σ (vs++τ) (rs++θ) ↔ Al σ vs rs/\Al σ τ θ)
 | [],_,[],_,_=>by simp[Al]
 | _::vs,τ,.val _::rs,θ,e=>by
  simp only[aaN,Al]
  exact aZ (by simpa using e)
 | _::vs,τ,.rf _::rs,θ,e=>by
  simp only[aaN,Al]
  rw[aZ (by simpa using e),and_assoc]
 | [],_,_::_,_,e=>by simp at e
 | _::_,_,[],_,e=>by simp at e
theorem Rel.rot(R:Rel b F σ H ρ (vs++v::τ) (rs++r::θ))(e:vs.length=rs.length):Rel b F σ H ρ (v::vs++τ) (r::rs++θ):=by
 obtain⟨a1,a2⟩:=(aZ e).mp R.al
 have a3:Al σ [v] [r]/\Al σ τ θ:=(aZ rfl).mp a2
 refine⟨R.wf,(aZ (vs:=[v]) (rs:=[r]) rfl).mpr ⟨a3.1,(aZ e).mpr ⟨a1,a3.2⟩⟩,R.wff,R.wd.perm ?_⟩
 refine acr _ ?_
 have e1:stk (v::vs++τ) (r::rs++θ)=stk [v] [r]++(stk vs rs++stk τ θ):=by
  rw[<- aG e,<- aG rfl];rfl
 have e2:stk (vs++v::τ) (rs++r::θ)=stk vs rs++(stk [v] [r]++stk τ θ):=by
  rw[aG e,<- aG (rs:=[r]) rfl];rfl
 rw[e1,e2,<- aaf,<- aaf]
 exact aa3.append_right _
theorem Rel.tor(R:Rel b F σ H ρ (v::vs++τ) (r::rs++θ))(e:vs.length=rs.length):Rel b F σ H ρ (vs++v::τ) (rs++r::θ):=by
 obtain⟨a1,a2⟩:=(aZ (vs:=[v]) (rs:=[r]) rfl).mp R.al
 obtain⟨a3,a4⟩:=(aZ e).mp a2
 refine⟨R.wf,(aZ e).mpr ⟨a3,(aZ rfl).mpr ⟨a1,a4⟩⟩,R.wff,R.wd.perm ?_⟩
 refine acr _ ?_
 have e1:stk (v::vs++τ) (r::rs++θ)=stk [v] [r]++(stk vs rs++stk τ θ):=by
  rw[<- aG e,<- aG rfl];rfl
 have e2:stk (vs++v::τ) (rs++r::θ)=stk vs rs++(stk [v] [r]++stk τ θ):=by
  rw[aG e,<- aG (rs:=[r]) rfl];rfl
 rw[e1,e2,<- aaf,<- aaf]
 exact aa3.append_right _
theorem Rel.drop(R:Rel b F σ H ρ (v::τ) (r::θ)):Rel b F σ H ρ τ θ:=by
 cases r with
 | val x=>exact⟨R.wf,R.al,R.wff,R.wd.drop⟩
 | rf i=>exact⟨R.wf,R.al.2,R.wff,R.wd⟩
theorem Rel.drops(R:Rel b F σ H ρ (vs++τ) (rs++θ))(e:vs.length=rs.length):Rel b F σ H ρ τ θ:=by
 induction vs generalizing rs with
 | nil=>cases rs with
  | nil=>exact R
  | cons _ _=>simp at e
 | cons v vs ih=>cases rs with
  | nil=>simp at e
  | cons r rs=>exact ih (Rel.drop R) (by simpa using e)
theorem Rel.sc(R:Rel b F σ H ρ τ θ)(h:Sc v d):Rel b F σ H ρ (v::τ) (.val (.fz d)::θ):=⟨R.wf,R.al,R.wff,R.wd.sc h⟩
theorem Rel.slot(R:Rel b F σ H ρ τ θ)(e:ρ[i]?=some (some x)):∃v,σ[i]?=some (some v)/\Wd b H ((v,x)::(stk τ θ++(flat σ (ρ.set i none)++ff F))):=by
 obtain⟨v,ev⟩:=R.wf.get e
 refine⟨v,ev,R.wd.perm ?_⟩
 refine ((bw e ev).append_right _ |>.append_left _).trans ?_
 exact aas
theorem Rel.unslot(wf:Wf σ ρ)(al:Al (σ.set i (some v)) τ θ)(wff:∀f∈F,Wf f.σ f.ρ/\Al f.σ f.τ f.θ)(hi:i < ρ.length)(w:Wd b H ((v,x)::(stk τ θ++(flat σ (ρ.set i none)++ff F)))):Rel b F (σ.set i (some v)) H (ρ.set i (some x)) τ θ:=by
 refine⟨wf.put,al,wff,w.perm ?_⟩
 refine (aas.symm).trans ?_
 exact ((cv hi wf.len).symm.append_right _).append_left _
theorem Rel.back(wf:Wf σ ρ)(al:Al σ τ θ)(wff:∀f∈F,Wf f.σ f.ρ/\Al f.σ f.τ f.θ)(ev:σ[i]?=some (some v))(w:Wd b H ((v,x)::(stk τ θ++(flat σ (ρ.set i none)++ff F)))):Rel b F σ H (ρ.set i (some x)) τ θ:=by
 have hi:i < ρ.length:=by rw[<- wf.len];exact (aau.mp ev).1
 have e:σ.set i (some v)=σ:=set_self ev
 have:=Rel.unslot wf (by rw[e];exact al) wff hi w
 rw[e]at this
 exact this
theorem Rel.dt(R:Rel b F σ H ρ (v::τ) (r::θ))(e:ao ρ r=some d):Dt b.K H v d:=by
 cases r with
 | val x=>exact R.wd.memDt (by simp[stk]) e
 | rf i =>
  simp only[ao,aaJ]at e
  obtain⟨x,e1,e2⟩:=e
  obtain⟨u,eu,w⟩:=R.drop.slot (join_some e1)
  have:v=u:=by have:=R.al.1;rw[eu]at this;cases this;rfl
  subst this
  exact w.memDt (aag) e2
theorem Rel.dt2(R:Rel b F σ H ρ (u::v::τ) (r'::r::θ))(e:ao ρ r=some d):Dt b.K H v d:=(R.drop).dt e
theorem Rel.frzS(R:Rel b F σ H ρ τ θ)(e:ρ[i]?=some (some x))(ed:x.dat=some d):Rel b F σ H (ρ.set i (some (.fz d))) τ θ:=by
 obtain⟨v,ev,w⟩:=R.slot e
 exact Rel.back R.wf R.al R.wff ev (w.frz ed)
theorem Rel.dupS(R:Rel b F σ H ρ τ θ)(e:ρ[i]?=some (some (.fz d)))(ev:σ[i]?=some (some v)):Rel b F σ H ρ (v::τ) (.val (.fz d)::θ):=by
 obtain⟨u,eu,w⟩:=R.slot e
 rw[ev]at eu
 cases eu
 have w2:=w.dup
 have e1:ρ.set i (some (.fz d))=ρ:=set_self e
 have:=Rel.back (i:=i) (τ:=v::τ) (θ:=.val (.fz d)::θ) R.wf R.al R.wff ev (w2.perm (List.Perm.swap _ _ _))
 rw[e1]at this
 exact this
def frz1(ρ:DEnv):OR->Option (PyData × DEnv)
 | .val x=>x.dat.map (·,ρ)
 | .rf i=>(ρ[i]?.join).bind fun x=>x.dat.map fun d=>(d,ρ.set i (some (.fz d)))
theorem Rel.frz1(R:Rel b F σ H ρ (v::τ) (r::θ))(e:frz1 ρ r=some (d,ρ')):Rel b F σ H ρ' (v::τ) (.val (.fz d)::θ):=by
 cases r with
 | val x =>
  simp only[L2.frz1,aaL]at e
  obtain⟨d',e1,e2⟩:=e
  cases e2
  exact⟨R.wf,R.al,R.wff,R.wd.frz e1⟩
 | rf i =>
  simp only[L2.frz1,aaJ,aaL]at e
  obtain⟨x,e1,d',e2,e3⟩:=e
  cases e3
  have hi:i < ρ.length:=(aau.mp (join_some e1)).1
  exact (R.drop.frzS (join_some e1) e2).dupS (by rw[aa5 hi]) R.al.1
def frzL(ρ:DEnv):List OR->Option (List PyData × DEnv)
 | []=>some ([],ρ)
 | r::rs=>(L2.frz1 ρ r).bind fun z=>(frzL z.2 rs).map fun y=>(z.1::y.1,y.2)
theorem jb:∀{vs:List V} {rs:List OR} {ρ ρ':DEnv} {ds:List PyData} {τ:List V} {θ:List OR},Rel b F σ H ρ (vs++τ) (rs++θ)->vs.length=rs.length->L2.frzL ρ rs=some (ds,ρ')->Rel b F σ H ρ' (vs++τ) (ds.map (fun d=>OR.val (.fz d))++θ)/\vs.length=ds.length
 | [],[],_,_,_,_,_,R,_,e=>by simp only[L2.frzL]at e;cases e;exact⟨R,rfl⟩
 | v::vs,r::rs,ρ,ρ',ds,τ,θ,R,e,h=>by
  simp only[L2.frzL,aaJ,aaL]at h
  obtain⟨⟨d,ρ1⟩,h1,⟨ds',ρ2⟩,h2,h3⟩:=h
  cases h3
  have R1:Rel b F σ H ρ1 (v::(vs++τ)) (.val (.fz d)::(rs++θ)):=Rel.frz1 R h1
  have e':vs.length=rs.length:=by simpa using e
  obtain⟨R2,e2⟩:=jb (Rel.tor R1 e') e' h2
  exact⟨Rel.rot R2 (by rw[e2,aaa]),by simp[e2]⟩
 | [],_::_,_,_,_,_,_,_,e,_=>by simp at e
 | _::_,[],_,_,_,_,_,_,e,_=>by simp at e
end
end
section
section
variable{X:Cx}
def AK(K:Waa):R2:=fun x y H Q=>∃l b xs zs,x=.ref l/\y=.ref b/\SqL K H l xs/\SqL K H b zs/\xs.length + zs.length<=sizeLine/\∀p,H p=none->Q (.ref p) (upd H p (.lst (xs++zs)))
theorem uq:OpR X (binaryOp .Add) (AK X.K):=by
 intro pins s σ H x y v u Q I rx ry h
 obtain⟨l,b,xs,zs,rfl,rfl,hH,hB,hz,q⟩:=h
 cases rx
 cases ry
 obtain⟨its,r,⟨⟨c,dd,dt,sl⟩,n,e,hc,_,hd⟩,_⟩:=I.list hH
 obtain⟨its2,r2,⟨⟨c2,dd2,dt2,sl2⟩,n2,e2,hc2,_,hd2⟩,_⟩:=I.list hB
 have l1:=r.length
 have l2:=r2.length
 simp only at hc hd hc2 hd2
 subst hc hd hc2 hd2
 refine concat_meets ⟨_,e,rfl⟩ ⟨_,e2,rfl⟩ noFill_list_add seq_list_add PySem.F.slot_list_add PySem.F.entry_list_add (PySem.F.args_list_add_2 _ _) (list_addW l b its.toArray its2.toArray n n2 dd dd2 sl sl2 (by rw[aat,aat];omega)) ⟨e,e2,?_⟩
 have ea:its.toArray++its2.toArray=(its++its2).toArray:=by simp
 rw[ea]
 exact⟨.ref _,_,I.lnew (r.append r2) (by rw[aaA];omega),rfl,q _ I.fresh⟩
end
abbrev DK:=OR->DEnv->Prop
abbrev DE:=DEnv->DK->Prop
abbrev DT:=DEnv->(Bool->DEnv->Prop)->Prop
abbrev DA:=DEnv->(List OR->DEnv->Prop)->Prop
abbrev DR2:=PyData->PyData->(PyData->Prop)->Prop
abbrev DR1:=PyData->(PyData->Prop)->Prop
abbrev DRn:=List PyData->(PyData->Prop)->Prop
def bZ(K:Waa)(te:TE)(de:DE):Prop:=∀(b:Bs) (F:List Fr) (σ:St) (H:Hp) (ρ:DEnv) (τ:List V) (θ:List OR) (Qd:DK) (Q:VK),b.K=K->Rel b F σ H ρ τ θ->de ρ Qd->(∀v H' r ρ',Rel b F σ H' ρ' (v::τ) (r::θ)->Qd r ρ'->Q v H')->te σ H Q
def SndT(K:Waa)(te:TT)(de:DT):Prop:=∀(b:Bs) (F:List Fr) (σ:St) (H:Hp) (ρ:DEnv) (τ:List V) (θ:List OR) (Qd:Bool->DEnv->Prop) (Q:Bool->Hp->Prop),b.K=K->Rel b F σ H ρ τ θ->de ρ Qd->(∀k H' ρ',Rel b F σ H' ρ' τ θ->Qd k ρ'->Q k H')->te σ H Q
def yj(K:Waa)(te:TA)(de:DA):Prop:=∀(b:Bs) (F:List Fr) (σ:St) (H:Hp) (ρ:DEnv) (τ:List V) (θ:List OR) (Qd:List OR->DEnv->Prop) (Q:List V->Hp->Prop),b.K=K->Rel b F σ H ρ τ θ->de ρ Qd->(∀vs H' rs ρ',vs.length=rs.length->Rel b F σ H' ρ' (vs++τ) (rs++θ)->Qd rs ρ'->Q vs H')->te σ H Q
inductive PDe (X:Cx)(e:Expr)(de:DE):Prop | mk (te:TE) (h:PE X e te) (s:bZ X.K te de)
inductive PDt (X:Cx)(e:Expr)(de:DT):Prop | mk (te:TT) (h:PT X e te) (s:SndT X.K te de)
inductive PDw (X:Cx)(e:Expr)(de:DT):Prop | mk (te:TT) (h:PW X e te) (s:SndT X.K te de)
inductive PDa (X:Cx)(es:List Expr)(de:DA):Prop | mk (te:TA) (h:PA X es te) (s:yj X.K te de)
section
variable{X:Cx}{K:Waa}{a b c e:Expr}{es:List Expr}{da db dc:DE}{pos:Pos}{x:Str}{i:Nat}
def dVar(i:Nat):DE:=fun ρ Q=>match ρ[i]?.join with
 | some (.fz d)=>Q (.val (.fz d)) ρ
 | some _=>Q (.rf i) ρ
 | none=>False
theorem ur:bZ K (tVar i) (dVar i):=by
 intro b F σ H ρ τ θ Qd Q hK R h q
 unfold dVar at h
 cases e:ρ[i]?.join with
 | none=>rw[e]at h;exact h.elim
 | some x =>
  rw[e]at h
  have e':=join_some e
  obtain⟨v,ev⟩:=R.wf.get e'
  have base:Qd (.rf i) ρ->tVar i σ H Q:=fun h=>⟨v,ev,q v H (.rf i) ρ ⟨R.wf,show Al σ (v::τ) (.rf i::θ) from ⟨ev,R.al⟩,R.wff,R.wd⟩ h⟩
  cases x with
  | fz d=>exact⟨v,ev,q v H _ ρ (R.dupS e' ev) h⟩
  | _=>exact base h
theorem yk (hN:X.N[i]?=some x) (hv:Vis X.env.scope x) (hd:(x == ("__debug__":Str))=false:=by decide) (hcd:(x == ("__classdict__":Str))=false:=by decide):PDe X (.Name x pos) (dVar i):=⟨_,eZ hN hv hd hcd,ur⟩
def dC(d:PyData):DE:=fun ρ Q=>Q (.val (.fz d)) ρ
theorem qz(h:Sc v d):bZ K (tC v) (dC d):=fun b F σ H ρ τ θ Qd Q hK R hd q=>q v H _ ρ (R.sc h) hd
theorem pd_int{i j pos}:PDe X (.Constant (.int i) j pos) (dC (.int i)):=⟨_,iY,qz (.int i)⟩
theorem pd_bl{k j pos}:PDe X (.Constant (.bool k) j pos) (dC (.bool k)):=⟨_,Aa,qz (.bl k)⟩
theorem pd_str{x j pos}:PDe X (.Constant (.str x) j pos) (dC (.str x)):=⟨_,xl,qz (.str x)⟩
theorem Rel.addK{b:Bs}(R:Rel b F σ H ρ τ θ)(h:∀S H,Fz b.K S H v d):Rel b F σ H ρ (v::τ) (.val (.fz d)::θ):=⟨R.wf,R.al,R.wff,R.wd.add fun S _ _ _=>h S H⟩
theorem qA (hg:Gl X x) (hm:X.mg x=some u) (r:RelV v u) (s:∀S H,Fz X.K S H v d) (hd:(x == ("__debug__":Str))=false:=by decide):PDe X (.Name x pos) (dC d) :=
 ⟨_,tI hg hm r hd,fun b F σ H ρ τ θ Qd Q hK R hd q=>q v H _ ρ (R.addK (by rw[hK];exact s)) hd⟩
def SndR2(K:Waa)(r2:R2)(r:DR2):Prop:=∀(H:Hp) (v u:V) (dx dy:PyData) (Qd:PyData->Prop) (Q:VK),Dt K H v dx->Dt K H u dy->r dx dy Qd->(∀w d,Sc w d->Qd d->Q w H)->r2 v u H Q
def uv(r:DR2)(a b:DE):DE:=fun ρ Q=>a ρ fun x ρ1=>b ρ1 fun y ρ2=>∃dx dy,ao ρ2 x=some dx/\ao ρ2 y=some dy/\r dx dy fun d=>Q (.val (.fz d)) ρ2
theorem k7(hr:SndR2 K r2 r)(ha:bZ K ta da)(hb:bZ K tb db):bZ K (An r2 ta tb) (uv r da db):=by
 intro b F σ H ρ τ θ Qd Q hK R h q
 refine ha b F σ H ρ τ θ _ _ hK R h fun v H1 x ρ1 R1 h1=>hb b F σ H1 ρ1 _ _ _ _ hK R1 h1 fun u H2 y ρ2 R2 h2=>?_
 obtain⟨dx,dy,e1,e2,h3⟩:=h2
 exact hr H2 v u dx dy _ _ (hK ▸ R2.dt2 e1) (hK ▸ R2.dt e2) h3 fun w d sc hd=>q w H2 _ _ (R2.drop.drop.sc sc) hd
theorem AL(ho:OpR X (binaryOp op) r2)(hr:SndR2 X.K r2 r):PDe X a da->PDe X b db->PDe X (.BinOp a op b pos) (uv r da db)
 | ⟨_,h1,s1⟩,⟨_,h2,s2⟩=>⟨_,pR ho h1 h2,k7 hr s1 s2⟩
def dI(C:Int->Int->Prop)(g:Int->Int->PyData):DR2:=fun x y Q=>∃i j,x=.int i/\y=.int j/\C i j/\Q (g i j)
def EI(g:Int->Int->PyData):DR2:=fun x y Q=>∃i j,x=.int i/\y=.int j/\Q (g i j)
theorem uw(h:∀i j,Sc (g i j) (g' i j)):SndR2 K (rI C g) (dI C g'):=by
 rintro H v u dx dy Qd Q hv hu ⟨i,j,rfl,rfl,c,hq⟩ q
 cases hv
 cases hu
 exact⟨i,j,rfl,rfl,c,q _ _ (h i j) hq⟩
theorem qB(h:∀i j,Sc (g i j) (g' i j)):SndR2 K (tF g) (EI g'):=by
 rintro H v u dx dy Qd Q hv hu ⟨i,j,rfl,rfl,hq⟩ q
 cases hv
 cases hu
 exact⟨i,j,rfl,rfl,q _ _ (h i j) hq⟩
theorem qC(ho:OpR X (compareOp op) r2)(hr:SndR2 X.K r2 r)(hm:behindInMarks op b=false):PDe X a da->PDe X b db->PDe X (.Compare a [op] [b] pos) (uv r da db)
 | ⟨_,h1,s1⟩,⟨_,h2,s2⟩=>⟨_,tR ho h1 h2 hm,k7 hr s1 s2⟩
theorem ux{g:Int->Int->Bool}:SndR2 K (tF fun i j=>.bl (g i j)) (EI fun i j=>.bool (g i j)):=qB fun _ _=>.bl _
def k8:PyData->PyData->Option Bool
 | .int i,.int j=>some (decide (i=j))
 | .bool i,.bool j=>some (decide (i=j))
 | .str i,.str j=>some (decide (i=j))
 | .none,.none=>some true
 | .none,.int _=>some false | .int _,.none=>some false | .none,.str _=>some false | .str _,.none=>some false
 | .int _,.str _=>some false | .str _,.int _=>some false
 | _,_=>none
theorem mx(hv:Dt K H v dx)(hu:Dt K H u dy)(e:k8 dx dy=some k):xP v u=true/\decide (v=u)=k:=by
 cases hv<;>cases hu<;>cases e<;>refine⟨rfl,?_⟩<;>simp
def dEqS:DR2:=fun x y Q=>∃k,k8 x y=some k/\Q (.bool k)
def dNeS:DR2:=fun x y Q=>∃k,k8 x y=some k/\Q (.bool (!k))
theorem sr_eq:SndR2 K rEq dEqS:=by
 rintro H v u dx dy Qd Q hv hu ⟨k,e,hq⟩ q
 obtain⟨h1,h2⟩:=mx hv hu e
 exact⟨h1,by rw[h2];exact q _ _ (.bl k) hq⟩
theorem sr_ne:SndR2 K rNe dNeS:=by
 rintro H v u dx dy Qd Q hv hu ⟨k,e,hq⟩ q
 obtain⟨h1,h2⟩:=mx hv hu e
 exact⟨h1,by rw[h2];exact q _ _ (.bl _) hq⟩
def dEqD:DR2:=fun x y Q=>SeqAt.shaped x=true/\SeqAt.shaped y=true/\Q (.bool (PyData.eqv x y))
def dNeD:DR2:=fun x y Q=>SeqAt.shaped x=true/\SeqAt.shaped y=true/\Q (.bool (!PyData.eqv x y))
theorem yl:SndR2 K (AD K) dEqD:=fun H v u dx dy Qd Q hv hu ⟨s1,s2,hq⟩ q=>⟨dx,dy,hv,hu,s1,s2,q _ _ (.bl _) hq⟩
theorem ym:SndR2 K (AE K) dNeD:=fun H v u dx dy Qd Q hv hu ⟨s1,s2,hq⟩ q=>⟨dx,dy,hv,hu,s1,s2,q _ _ (.bl _) hq⟩
def AM:PyData->PyData->Option Bool
 | .int i,.int j=>some (decide (i=j))
 | .str i,.str j=>some (decide (i=j))
 | .none,.none=>some true
 | .int _,.str _=>some false | .str _,.int _=>some false | .none,.int _=>some false | .int _,.none=>some false | .none,.str _=>some false | .str _,.none=>some false
 | _,_=>none
def memD(x:PyData):List PyData->Option Bool
 | []=>some false
 | y::ys=>(AM y x).bind fun k=>(memD x ys).map (k || ·)
def yn:PyData->Bool
 | .int _=>true
 | .str _=>true
 | .none=>true
 | _=>false
def FH(neg:Bool):DR2:=fun x y Q=>∃ds k,(y=.list ds\/y=.tuple ds)/\yn x=true/\memD x ds=some k/\Q (.bool (if neg then !k else k))
theorem uy{x y:PyData}(hv:Dt K H v x)(hw:Dt K H w y)(e:AM y x=some k):cf w=true/\eqV w v=k:=by
 cases hv<;>cases hw<;>cases e<;>exact⟨rfl,rfl⟩
theorem yo{x:PyData}(hv:Dt K H v x)(hx:yn x=true):cf v=true:=by cases hv<;>first | rfl | cases hx
theorem my{x:PyData}(hv:Dt K H v x)(hx:yn x=true)(h:DtAll K H vs ds)(e:memD x ds=some k):cf v=true/\vs.all cf=true/\inV v vs=k:=by
 induction ds generalizing vs k with
 | nil=>cases h;cases e;exact⟨yo hv hx,rfl,rfl⟩
 | cons d ds ih =>
  cases h with
  | @cons w _ vs _ r t =>
   obtain⟨k1,e1,e⟩:=aaJ.mp e
   obtain⟨k2,e2,rfl⟩:=aaL.mp e
   obtain⟨h1,h2,h3⟩:=ih t e2
   obtain⟨a1,a2⟩:=uy hv r e1
   refine⟨h1,?_,?_⟩
   ·show (cf w && vs.all cf)=true
    rw[a1,h2];rfl
   ·show (eqV w v || inV v vs)=_
    rw[a2,h3]
theorem wq:SndR2 K (Ds K neg) (FH neg):=by
 rintro H v u dx dy Qd Q hv hu ⟨ds,k,hy,hx,hm,hq⟩ q
 rcases hy with rfl | rfl
 ·cases hu with
  | lst h t =>
   obtain⟨h1,h2,h3⟩:=my hv hx t hm
   exact⟨_,_,rfl,.inl h,h1,h2,by rw[h3];exact q _ _ (.bl _) hq⟩
 ·cases hu with
  | tup h t =>
   obtain⟨h1,h2,h3⟩:=my hv hx t hm
   exact⟨_,_,rfl,.inr h,h1,h2,by rw[h3];exact q _ _ (.bl _) hq⟩
def k9(r r':DR2)(da db dc:DE):DE:=fun ρ Q=>da ρ fun x ρ1=>db ρ1 fun y ρ2=>∃dx dy,ao ρ2 x=some dx/\ao ρ2 y=some dy/\r dx dy fun z=>∃k,z=.bool k /\
 if k=true then dc ρ2 fun w ρ3=>∃dy dw,ao ρ3 y=some dy/\ao ρ3 w=some dw/\r' dy dw fun d=>Q (.val (.fz d)) ρ3 else Q (.val (.fz (.bool false))) ρ2
theorem iu(hr:SndR2 K r2 r)(hr':SndR2 K r2' r')(ha:bZ K ta da)(hb:bZ K tb db)(hc:bZ K tc dc):bZ K (kS r2 r2' ta tb tc) (k9 r r' da db dc):=by
 intro b F σ H ρ τ θ Qd Q hK R h q
 refine ha b F σ H ρ τ θ _ _ hK R h fun v H1 x ρ1 R1 h1=>hb b F σ H1 ρ1 _ _ _ _ hK R1 h1 fun u H2 y ρ2 R2 h2=>?_
 obtain⟨dx,dy,e1,e2,h3⟩:=h2
 refine hr H2 v u dx dy _ _ (hK ▸ R2.dt2 e1) (hK ▸ R2.dt e2) h3 fun w d sc hd=>?_
 obtain⟨k,rfl,hd⟩:=hd
 cases sc
 refine⟨k,rfl,?_⟩
 cases k with
 | false =>
  rw[if_neg aah]at hd ⊢
  exact q _ H2 _ _ (R2.drop.drop.sc (.bl _)) hd
 | true =>
  rw[if_pos rfl]at hd ⊢
  refine hc b F σ H2 ρ2 _ _ _ _ hK R2 hd fun w H3 z ρ3 R3 h4=>?_
  obtain⟨dy',dw,e3,e4,h5⟩:=h4
  exact hr' H3 u w dy' dw _ _ (hK ▸ R3.dt2 e3) (hK ▸ R3.dt e4) h5 fun w d sc hd=>q w H3 _ _ (R3.drop.drop.drop.sc sc) hd
theorem qD(ho:OpR X (compareOp op) r2)(hr:SndR2 X.K r2 r)(ho':OpR X (compareOp op') r2')(hr':SndR2 X.K r2' r')(hm:lastMarks [op,op'] [b,c]=false:=by with_unfolding_all rfl) :
  PDe X a da->PDe X b db->PDe X c dc->PDe X (.Compare a [op,op'] [b,c] pos) (k9 r r' da db dc)
 | ⟨_,h1,s1⟩,⟨_,h2,s2⟩,⟨_,h3,s3⟩=>⟨_,pV ho ho' h1 h2 h3 hm,iu hr hr' s1 s2 s3⟩
def FI(r:DR1)(a:DE):DE:=fun ρ Q=>a ρ fun x ρ1=>∃d,ao ρ1 x=some d/\r d fun z=>Q (.val (.fz z)) ρ1
def Dz:DR1:=fun x Q=>∃i,x=.int i/\Q (.int (-i))
theorem yp:PDe X a da->PDe X (.UnaryOp .USub a pos) (FI Dz da)
 | ⟨_,h1,s1⟩=>⟨_,pS kR h1,fun b F σ H ρ τ θ Qd Q hK R h q=>s1 b F σ H ρ τ θ _ _ hK R h fun v H1 x ρ1 R1 ⟨d,e,i,e2,h1⟩=>by
  subst e2
  cases R1.dt e
  exact⟨i,rfl,q _ H1 _ _ (R1.drop.sc (.int _)) h1⟩⟩
def AN(a b:DE):DE:=fun ρ Q=>a ρ fun x ρ1=>∃k,ao ρ1 x=some (.bool k)/\if k=true then b ρ1 Q else Q (.val (.fz (.bool false))) ρ1
def DB(a b:DE):DE:=fun ρ Q=>a ρ fun x ρ1=>∃k,ao ρ1 x=some (.bool k)/\if k=true then Q (.val (.fz (.bool true))) ρ1 else b ρ1 Q
def AO(a:DE):DE:=fun ρ Q=>a ρ fun x ρ1=>∃k,ao ρ1 x=some (.bool k)/\Q (.val (.fz (.bool (!k)))) ρ1
theorem qH{op}:PDe X a da->PDe X (.BoolOp op [a] pos) da
 | ⟨_,h1,s1⟩=>⟨_,xq h1,s1⟩
theorem yq:PDe X a da->PDe X (.BoolOp .And (b::es) pos) db->PDe X (.BoolOp .And (a::b::es) pos) (AN da db)
 | ⟨_,h1,s1⟩,⟨_,h2,s2⟩=>⟨_,xr h1 h2,fun b F σ H ρ τ θ Qd Q hK R h q=>s1 b F σ H ρ τ θ _ _ hK R h fun v H1 x ρ1 R1 ⟨k,e,h1⟩=>by
  cases R1.dt e
  refine⟨k,rfl,?_⟩
  cases k with
  | false=>rw[if_neg aah]at h1 ⊢;exact q _ H1 _ _ (R1.drop.sc (.bl _)) h1
  | true=>rw[if_pos rfl]at h1 ⊢;exact s2 b F σ H1 ρ1 τ θ _ _ hK R1.drop h1 q⟩
theorem AQ:PDe X a da->PDe X (.BoolOp .Or (b::es) pos) db->PDe X (.BoolOp .Or (a::b::es) pos) (DB da db)
 | ⟨_,h1,s1⟩,⟨_,h2,s2⟩=>⟨_,Ae h1 h2,fun b F σ H ρ τ θ Qd Q hK R h q=>s1 b F σ H ρ τ θ _ _ hK R h fun v H1 x ρ1 R1 ⟨k,e,h1⟩=>by
  cases R1.dt e
  refine⟨k,rfl,?_⟩
  cases k with
  | true=>rw[if_pos rfl]at h1 ⊢;exact q _ H1 _ _ (R1.drop.sc (.bl _)) h1
  | false=>rw[if_neg aah]at h1 ⊢;exact s2 b F σ H1 ρ1 τ θ _ _ hK R1.drop h1 q⟩
theorem yr:PDe X a da->PDe X (.UnaryOp .Not a pos) (AO da)
 | ⟨_,h1,s1⟩=>⟨_,xu h1,fun b F σ H ρ τ θ Qd Q hK R h q=>s1 b F σ H ρ τ θ _ _ hK R h fun v H1 x ρ1 R1 ⟨k,e,h1⟩=>by
  cases R1.dt e
  exact⟨k,rfl,q _ H1 _ _ (R1.drop.sc (.bl _)) h1⟩⟩
def jX(a:DE):DT:=fun ρ Q=>a ρ fun x ρ1=>∃k,ao ρ1 x=some (.bool k)/\Q k ρ1
theorem jY(s1:bZ K ta da):SndT K (pU ta) (jX da):=fun b F σ H ρ τ θ Qd Q hK R h q=>s1 b F σ H ρ τ θ _ _ hK R h fun v H1 x ρ1 R1 ⟨k,e,h1⟩=>by
 cases R1.dt e
 exact⟨k,rfl,q _ H1 _ R1.drop h1⟩
theorem yt(s1:bZ K ta da):SndT K (tB ta) (jX da):=fun b F σ H ρ τ θ Qd Q hK R h q=>s1 b F σ H ρ τ θ _ _ hK R h fun v H1 x ρ1 R1 ⟨k,e,h1⟩=>by
 cases R1.dt e
 exact⟨k,rfl,q _ H1 _ R1.drop h1⟩
theorem mz(ho:OpR X (compareOp op) r2)(hr:SndR2 X.K r2 r)(hm:behindInMarks op b=false):PDe X a da->PDe X b db->PDt X (.Compare a [op] [b] pos) (jX (uv r da db))
 | ⟨_,h1,s1⟩,⟨_,h2,s2⟩=>⟨_,tS ho h1 h2 hm,jY (k7 hr s1 s2)⟩
theorem oB(ho:OpR X (compareOp op) r2)(hr:SndR2 X.K r2 r)(ho':OpR X (compareOp op') r2')(hr':SndR2 X.K r2' r')(hm:lastMarks [op,op'] [b,c]=false:=by with_unfolding_all rfl) :
  PDe X a da->PDe X b db->PDe X c dc->PDt X (.Compare a [op,op'] [b,c] pos) (jX (k9 r r' da db dc))
 | ⟨_,h1,s1⟩,⟨_,h2,s2⟩,⟨_,h3,s3⟩=>⟨_,pW ho ho' h1 h2 h3 hm,jY (iu hr hr' s1 s2 s3)⟩
def AR(t u:DT):DT:=fun ρ Q=>t ρ fun c ρ1=>if c=true then u ρ1 Q else Q false ρ1
def DD(t u:DT):DT:=fun ρ Q=>t ρ fun c ρ1=>if c=true then Q true ρ1 else u ρ1 Q
def AS(t:DT):DT:=fun ρ Q=>t ρ fun c ρ1=>Q (!c) ρ1
variable{dt du:DT}
theorem PDw.pt:PDw X e dt->PDt X e dt
 | ⟨_,h,s⟩=>⟨_,h.pt,s⟩
theorem qI:PDt X a dt->PDw X (.BoolOp .And [a] pos) dt
 | ⟨_,h,s⟩=>⟨_,tK h,s⟩
theorem uz:PDt X a dt->PDw X (.BoolOp .Or [a] pos) dt
 | ⟨_,h,s⟩=>⟨_,xm h,s⟩
theorem uA:PDt X a dt->PDw X (.BoolOp .And (b::es) pos) du->PDw X (.BoolOp .And (a::b::es) pos) (AR dt du)
 | ⟨_,h1,s1⟩,⟨_,h2,s2⟩=>⟨_,xo h1 h2,fun b F σ H ρ τ θ Qd Q hK R h q=>s1 b F σ H ρ τ θ _ _ hK R h fun k H1 ρ1 R1 h1=>by
  cases k with
  | false=>rw[if_neg aah]at h1 ⊢;exact q _ H1 _ R1 h1
  | true=>rw[if_pos rfl]at h1 ⊢;exact s2 b F σ H1 ρ1 τ θ _ _ hK R1 h1 q⟩
theorem yu:PDt X a dt->PDw X (.BoolOp .Or (b::es) pos) du->PDw X (.BoolOp .Or (a::b::es) pos) (DD dt du)
 | ⟨_,h1,s1⟩,⟨_,h2,s2⟩=>⟨_,Ab h1 h2,fun b F σ H ρ τ θ Qd Q hK R h q=>s1 b F σ H ρ τ θ _ _ hK R h fun k H1 ρ1 R1 h1=>by
  cases k with
  | true=>rw[if_pos rfl]at h1 ⊢;exact q _ H1 _ R1 h1
  | false=>rw[if_neg aah]at h1 ⊢;exact s2 b F σ H1 ρ1 τ θ _ _ hK R1 h1 q⟩
theorem uB:PDt X a dt->PDt X (.UnaryOp .Not a pos) (AS dt)
 | ⟨_,h,s⟩=>⟨_,xp h,fun b F σ H ρ τ θ Qd Q hK R h q=>s b F σ H ρ τ θ _ _ hK R h fun k H1 ρ1 R1 h1=>q _ H1 _ R1 h1⟩
def FJ(t:DT)(a b:DE):DE:=fun ρ Q=>t ρ fun c ρ1=>if c=true then a ρ1 Q else b ρ1 Q
theorem AU:PDt X c dt->PDe X a da->PDe X b db->PDe X (.IfExp c a b pos) (FJ dt da db)
 | ⟨_,h,s⟩,⟨_,h1,s1⟩,⟨_,h2,s2⟩=>⟨_,pK h h1 h2,fun b F σ H ρ τ θ Qd Q hK R h q=>s b F σ H ρ τ θ _ _ hK R h fun k H1 ρ1 R1 h1=>by
  cases k with
  | true=>rw[if_pos rfl]at h1 ⊢;exact s1 b F σ H1 ρ1 τ θ _ _ hK R1 h1 q
  | false=>rw[if_neg aah]at h1 ⊢;exact s2 b F σ H1 ρ1 τ θ _ _ hK R1 h1 q⟩
theorem DtAll.emp(h:DtAll K H xs ds):xs.isEmpty=ds.isEmpty:=by cases h<;>rfl
end
end
section
section
variable{X:Cx}{K:Waa}{a b c e:Expr}{es:List Expr}{da db dc:DE}{dt:DA}{pos:Pos}{x:Str}
def dNil:DA:=fun ρ Q=>Q [] ρ
def AV(a:DE)(t:DA):DA:=fun ρ Q=>a ρ fun x ρ1=>t ρ1 fun xs ρ2=>Q (x::xs) ρ2
theorem pda_nil:PDa X [] dNil:=⟨_,cm,fun b F σ H ρ τ θ Qd Q hK R h q=>q [] H [] ρ rfl R h⟩
theorem qJ(hs:starEach (e::es) X.env=(false,eval e X.env)::starEach es X.env:=by rfl):PDe X e da->PDa X es dt->PDa X (e::es) (AV da dt)
 | ⟨_,h1,s1⟩,⟨_,h2,s2⟩=>⟨_,bf h1 h2 hs,fun b F σ H ρ τ θ Qd Q hK R h q=>s1 b F σ H ρ τ θ _ _ hK R h fun v H1 r ρ1 R1 h1=>s2 b F σ H1 ρ1 _ _ _ _ hK R1 h1 fun vs H2 rs ρ2 el R2 h2 =>
  q (v::vs) H2 (r::rs) ρ2 (by simp[el]) (Rel.rot R2 el) h2⟩
end
def own1(ρ:DEnv):OR->Option (OD × DEnv)
 | .val x=>some (x,ρ)
 | .rf i=>(frz1 ρ (.rf i)).map fun z=>(.fz z.1,z.2)
def mv1(ρ:DEnv):OR->Option (OD × DEnv)
 | .val x=>some (x,ρ)
 | .rf i=>(ρ[i]?.join).map fun x=>(x,ρ.set i none)
def mapR(f:DEnv->OR->Option (OD × DEnv))(ρ:DEnv):List OR->Option (List OD × DEnv)
 | []=>some ([],ρ)
 | r::rs=>(f ρ r).bind fun z=>(mapR f z.2 rs).map fun y=>(z.1::y.1,y.2)
def tG:List OD->Option (List PyData)
 | []=>some []
 | .fz d::xs=>match tG xs with | some ds=>some (d::ds) | none=>none
 | _::_=>none
def mkTup(xs:List OD):OD:=match tG xs with
 | some ds=>.fz (.tuple ds)
 | none=>.tup xs
section
variable{b:Bs}{F:List Fr}{σ:St}{H H':Hp}{ρ ρ':DEnv}{τ vs:List V}{θ rs:List OR}{v u:V}{r:OR}{x y:OD}{d:PyData}{ds:List PyData}{i:Nat}{L:List (V × OD)}{p:Addr}
theorem Rel.own1(R:Rel b F σ H ρ (v::τ) (r::θ))(e:own1 ρ r=some (x,ρ')):Rel b F σ H ρ' (v::τ) (.val x::θ):=by
 cases r with
 | val x=>simp only[L2.own1]at e;cases e;exact R
 | rf i =>
  simp only[L2.own1,aaL]at e
  obtain⟨⟨d,ρ1⟩,e1,e2⟩:=e
  cases e2
  exact R.frz1 e1
theorem Rel.mv1(R:Rel b F σ H ρ (v::τ) (r::θ))(e:mv1 ρ r=some (x,ρ')):Rel b F σ H ρ' (v::τ) (.val x::θ):=by
 cases r with
 | val x=>simp only[L2.mv1]at e;cases e;exact R
 | rf i =>
  simp only[L2.mv1,aaL]at e
  obtain⟨x,e1,e2⟩:=e
  cases e2
  obtain⟨u,eu,w⟩:=R.drop.slot (join_some e1)
  have:v=u:=by have:=R.al.1;rw[eu]at this;cases this;rfl
  subst this
  exact⟨R.wf.off,R.drop.al,R.wff,w⟩
theorem dS{f:DEnv->OR->Option (OD × DEnv)}(hf:∀{ρ ρ':DEnv} {τ:List V} {θ:List OR} {v:V} {r:OR} {x:OD},Rel b F σ H ρ (v::τ) (r::θ)->f ρ r=some (x,ρ')->Rel b F σ H ρ' (v::τ) (.val x::θ)) :
  ∀{vs:List V} {rs:List OR} {ρ ρ':DEnv} {xs:List OD} {τ:List V} {θ:List OR},Rel b F σ H ρ (vs++τ) (rs++θ)->vs.length=rs.length->mapR f ρ rs=some (xs,ρ')->Rel b F σ H ρ' (vs++τ) (xs.map OR.val++θ)/\vs.length=xs.length
 | [],[],_,_,_,_,_,R,_,e=>by simp only[mapR]at e;cases e;exact⟨R,rfl⟩
 | v::vs,r::rs,ρ,ρ',ds,τ,θ,R,e,h=>by
  simp only[mapR,aaJ,aaL]at h
  obtain⟨⟨d,ρ1⟩,h1,⟨ds',ρ2⟩,h2,h3⟩:=h
  cases h3
  have R1:Rel b F σ H ρ1 (v::(vs++τ)) (.val d::(rs++θ)):=hf R h1
  have e':vs.length=rs.length:=by simpa using e
  obtain⟨R2,e2⟩:=dS hf (Rel.tor (vs:=vs) (rs:=rs) R1 e') e' h2
  exact⟨Rel.rot R2 (by rw[e2,aaa]),by simp[e2]⟩
 | [],_::_,_,_,_,_,_,_,e,_=>by simp at e
 | _::_,[],_,_,_,_,_,_,e,_=>by simp at e
theorem cP:∀{vs:List V} {xs:List OD},vs.length=xs.length->stk vs (xs.map OR.val)=vs.zip xs
 | [],[],_=>rfl
 | _::_,_::_,e=>by simp only[aaj,stk,aa9];rw[cP (by simpa using e)]
 | [],_::_,e=>by simp at e
 | _::_,[],e=>by simp at e
theorem Rel.vals{xs:List OD}(R:Rel b F σ H ρ (vs++τ) (xs.map OR.val++θ))(e:vs.length=xs.length):Wd b H (vs.zip xs++(stk τ θ++(flat σ ρ++ff F))):=by
 have w:=R.wd
 rw[aG (by rw[aaa];exact e),cP e,aaf]at w
 exact w
theorem Rel.push(R:Rel b F σ H ρ τ θ)(w:Wd b H' ((v,x)::(stk τ θ++(flat σ ρ++ff F)))):Rel b F σ H' ρ (v::τ) (.val x::θ):=⟨R.wf,R.al,R.wff,w⟩
theorem Wd.below{z:V × OD}{L1 L2:List (V × OD)}(w:Wd b H (z::(L1++L2))):Wd b H (z::L2):=Wd.drops (L1:=L1) (w.perm (aas.symm))
theorem fzL_map{xs:List OD}{ds:List PyData}(e:tG xs=some ds):xs=ds.map OD.fz:=by
 induction xs generalizing ds with
 | nil=>cases e;rfl
 | cons x xs ih =>
  cases x with
  | fz d =>
   rw[tG]at e
   cases h:tG xs with
   | none=>rw[h]at e;cases e
   | some ds=>rw[h]at e;cases e;rw[ih h];rfl
  | _=>cases e
theorem fzL_of:∀(ds:List PyData),tG (ds.map OD.fz)=some ds
 | []=>rfl
 | d::ds=>by simp only[aaj,tG,fzL_of ds]
theorem dats_fz:∀(ds:List PyData),OD.dats (ds.map OD.fz)=some ds
 | []=>rfl
 | d::ds=>by simp only[aaj,OD.dats,OD.dat,dats_fz ds]
theorem qK{xs:List OD}(w:Wd b H (vs.zip xs++L))(el:vs.length=xs.length)(hp:H p=none):Wd b (upd H p (.tup vs)) ((.ref p,mkTup xs)::L):=by
 unfold mkTup
 cases h:tG xs with
 | some ds =>
  have hx:=fzL_map h
  subst hx
  refine Wd.below (L1:=vs.zip (ds.map OD.fz)) (w.newTup (fun S hS=>hS.all (by simpa using el) fun z hz=>aae _ hz) hp)
 | none=>exact w.newTupC el hp
end
section
variable{X:Cx}{K:Waa}{a b c e:Expr}{es:List Expr}{da db dc:DE}{dt:DA}{pos:Pos}{x:Str}
def DF(f:DEnv->OR->Option (OD × DEnv))(t:DA):DE:=fun ρ Q=>t ρ fun rs ρ1=>∃xs ρ2,mapR f ρ1 rs=some (xs,ρ2)/\rs.length<=1000000/\Q (.val (mkTup xs)) ρ2
def DH(f:DEnv->OR->Option (OD × DEnv))(t:DA):DE:=fun ρ Q=>t ρ fun rs ρ1=>∃xs ρ2,mapR f ρ1 rs=some (xs,ρ2)/\rs.length<=1000000/\Q (.val (.lst xs)) ρ2
structure Hand (f:DEnv->OR->Option (OD × DEnv)):Prop where
 ok:∀{b:Bs} {F:List Fr} {σ:St} {H:Hp} {ρ ρ':DEnv} {τ:List V} {θ:List OR} {v:V} {r:OR} {x:OD},Rel b F σ H ρ (v::τ) (r::θ)->f ρ r=some (x,ρ')->Rel b F σ H ρ' (v::τ) (.val x::θ)
theorem AW:Hand own1:=⟨Rel.own1⟩
variable{f:DEnv->OR->Option (OD × DEnv)}
theorem yv{x1}(hf:Hand f):PDa X es dt->PDe X (.Tuple es x1 pos) (DF f dt)
 | ⟨_,h1,s1⟩=>⟨_,p0 h1,fun b F σ H ρ τ θ Qd Q hK R h q=>s1 b F σ H ρ τ θ _ _ hK R h fun vs H1 rs ρ1 el R1 ⟨xs,ρ2,e1,e3,h1⟩=>⟨i7 (by rw[el];exact e3),fun p hp=>by
  obtain⟨R2,e4⟩:=dS hf.ok R1 el e1
  exact q _ _ _ _ ((R2.drops (by rw[aaa];exact e4)).push (qK (R2.vals e4) e4 hp)) h1⟩⟩
theorem yw(hf:Hand f):PDa X es dt->PDe X (.List es pos) (DH f dt)
 | ⟨_,h1,s1⟩=>⟨_,xS h1,fun b F σ H ρ τ θ Qd Q hK R h q=>s1 b F σ H ρ τ θ _ _ hK R h fun vs H1 rs ρ1 el R1 ⟨xs,ρ2,e1,e3,h1⟩=>⟨i7 (by rw[el];exact e3),fun p hp=>by
  obtain⟨R2,e4⟩:=dS hf.ok R1 el e1
  exact q _ _ _ _ ((R2.drops (by rw[aaa];exact e4)).push ((R2.vals e4).newLst e4 hp)) h1⟩⟩
end
def dU(ρ:DEnv):OR->Option OD
 | .val x=>some x
 | .rf i=>ρ[i]?.join
def listOf:OD->Option (List PyData)
 | .fz (.list ds)=>some ds
 | .lst xs=>tG xs
 | _=>none
def tupOf:OD->Option (List PyData)
 | .fz (.tuple ds)=>some ds
 | _=>none
def lg(ρ:DEnv)(r:OR):Option (List PyData):=(dU ρ r).bind listOf
def z5(ρ:DEnv)(r:OR):Option (List PyData):=(dU ρ r).bind tupOf
def itemO:OD->Int->Option OD
 | .fz (.list ds),i=>match atI ds i with | some d=>some (.fz d) | none=>none
 | .fz (.tuple ds),i=>match atI ds i with | some d=>some (.fz d) | none=>none
 | .lst xs,i=>atI xs i
 | .tup xs,i=>atI xs i
 | _,_=>none
def itemS:OD->Int->Option (PyData × OD)
 | .lst xs,i=>match ixN xs.length i with
  | some k=>match xs[k]? with
   | some c=>match c.dat with | some d=>some (d,.lst (xs.set k (.fz d))) | none=>none
   | none=>none
  | none=>none
 | .tup xs,i=>match ixN xs.length i with
  | some k=>match xs[k]? with
   | some c=>match c.dat with | some d=>some (d,.tup (xs.set k (.fz d))) | none=>none
   | none=>none
  | none=>none
 | _,_=>none
def bV(ρ:DEnv)(r:OR)(i:Int):Option (OD × DEnv):=match r with
 | .val x=>match itemO x i with | some y=>some (y,ρ) | none=>none
 | .rf j=>match ρ[j]?.join with
  | some x=>match itemS x i with | some (d,y)=>some (.fz d,ρ.set j (some y)) | none=>none
  | none=>none
section
variable{b:Bs}{F:List Fr}{σ:St}{H H':Hp}{ρ ρ':DEnv}{τ vs:List V}{θ rs:List OR}{v u:V}{r r':OR}{x y:OD}{d:PyData}{ds:List PyData}{i:Nat}{L:List (V × OD)}{p:Addr}
theorem gi{α β:Type}{xs:List α}{ys:List β}{i:Int}{y:β}(el:xs.length=ys.length)(h:atI ys i=some y):∃k x,ixN xs.length i=some k/\ys[k]?=some y/\xs[k]?=some x/\atI xs i=some x:=by
 unfold atI at h ⊢
 rw[<- el]at h
 simp only[aaJ]at h
 obtain⟨k,e1,e2⟩:=h
 have hk:k < ys.length:=(aau.mp e2).1
 refine⟨k,xs[k]'(by omega),e1,e2,aan _,?_⟩
 rw[e1]
 exact aan _
theorem cF{α β:Type}{xs:List α}{ys:List β}{k:Nat}{x:α}{y:β}(e1:xs[k]?=some x)(e2:ys[k]?=some y):(x,y)∈xs.zip ys:=by
 rw[List.mem_iff_getElem?]
 exact⟨k,by rw[acs];exact⟨e1,e2⟩⟩
theorem Wd.pick{z:V × OD}{Z:List (V × OD)}(w:Wd b H (Z++L))(m:z∈Z):Wd b H (z::L):=by
 obtain⟨Z1,Z2,rfl⟩:=List.append_of_mem m
 refine Wd.below (L1:=Z1++Z2) (w.perm ?_)
 rw[aaf,aaf]
 exact aas
theorem yx{n k:Nat}{i:Int}(h:ixN n i=some k):k < n:=by
 unfold ixN at h
 split at h
 ·split at h
  ·cases h;omega
  ·cases h
 ·split at h
  ·cases h;omega
  ·cases h
theorem Wd.takeKid{k:Nat}{z:OD}(w:Wd b H ((v,x)::L))(e:x.kids[k]?=some z):∃u,Chd b H v x k u z/\Wd b H ((u,z)::L):=by
 obtain⟨A0,h0,_,_⟩:=w.out
 cases h0 with
 | cons r t =>
  obtain⟨u,B,A',c,_⟩:=r.kid e
  refine⟨u,c,Wd.puts (L1:=[(v,x)]) (L2:=[(u,z)]) w fun S A h nd hA al nt=>?_⟩
  obtain⟨u',B,A',c',hB,pB,_⟩:=(OwL.one h).kid e
  have eu:u'=u:=(Chd.det c' c).1
  subst eu
  have sb:∀c∈B,c∈A:=fun c hc=>pB.mem_iff.mpr (aae _ hc)
  exact⟨B,OwL.of1 (Ow.sub nt (fun c z=>z.elim (·.1) fun z=>hA c (sb c z)) hB),(aaC.mp (pB.nodup_iff.mp nd)).1,sb⟩
theorem Wd.itemF{i:Int}{l:Bool}(w:Wd b H ((v,.fz (if l then .list ds else .tuple ds))::L))(e:atI ds i=some d):∃p vs u,v=.ref p/\(SqL b.K H p vs\/SqT b.K H p vs)/\atI vs i=some u/\Wd b H ((u,.fz d)::L):=by
 obtain⟨xs,w2⟩:=Wd.pin w rfl
 obtain⟨a,rfl,el,h,w3⟩:=w2.pinned aag
 obtain⟨k,u,_,e2,e3,e4⟩:=gi el e
 refine⟨a,xs,u,rfl,?_,e4,Wd.below (L1:=[(V.ref a,OD.pin l xs ds)]) (w3.pick (cF e3 (by rw[aav,e2];rfl)))⟩
 cases l with
 | true=>exact .inl h
 | false=>exact .inr h
theorem Wd.itemO{i:Int}(w:Wd b H ((v,x)::L))(e:itemO x i=some y):∃p vs u,v=.ref p/\(SqL b.K H p vs\/SqT b.K H p vs)/\atI vs i=some u/\Wd b H ((u,y)::L):=by
 cases x with
 | fz d =>
  cases d with
  | list ds =>
   simp only[L2.itemO]at e
   cases h:atI ds i with
   | none=>rw[h]at e;cases e
   | some d=>rw[h]at e;cases e;exact Wd.itemF (l:=true) w h
  | tuple ds =>
   simp only[L2.itemO]at e
   cases h:atI ds i with
   | none=>rw[h]at e;cases e
   | some d=>rw[h]at e;cases e;exact Wd.itemF (l:=false) w h
  | _=>simp[L2.itemO]at e
 | lst xs =>
  simp only[L2.itemO]at e
  obtain⟨k,_,e1,e2,_⟩:=gi (xs:=xs) rfl e
  obtain⟨u,c,w2⟩:=w.takeKid (k:=k) (z:=y) e2
  cases c with
  | lst f1 f2 f3 f4=>exact⟨_,_,u,rfl,.inl (SqL.of f1),by unfold atI;rw[f2,e1];exact f3,w2⟩
 | tup xs =>
  simp only[L2.itemO]at e
  obtain⟨k,_,e1,e2,_⟩:=gi (xs:=xs) rfl e
  obtain⟨u,c,w2⟩:=w.takeKid (k:=k) (z:=y) e2
  cases c with
  | tup f1 f2 f3 f4=>exact⟨_,_,u,rfl,.inr (SqT.of f1),by unfold atI;rw[f2,e1];exact f3,w2⟩
 | dic _ _=>simp[L2.itemO]at e
 | obj _ _ _=>simp[L2.itemO]at e
 | pin _ _ _=>simp[L2.itemO]at e
 | hole _=>simp[L2.itemO]at e
theorem Wd.itemS{i:Int}(w:Wd b H ((v,x)::L))(e:itemS x i=some (d,y)):∃p vs u,v=.ref p/\(SqL b.K H p vs\/SqT b.K H p vs)/\atI vs i=some u/\Wd b H ((u,.fz d)::(v,y)::L):=by
 cases x with
 | fz d=>simp[L2.itemS]at e
 | lst xs =>
  simp only[L2.itemS]at e
  split at e
  ·rename_i k e1
   split at e
   ·rename_i c e2
    split at e
    ·rename_i d' e3
     cases e
     obtain⟨u,ch,w2⟩:=w.frzAt (ks:=[k]) (y:=c) (d:=d) (by simp[OD.at,OD.kids,e2]) e3
     cases ch with
     | cons c1 c2 =>
      cases c2
      cases c1 with
      | lst f1 f2 f3 f4 =>
       simp only[OD.put,OD.kids,e2,OD.setKid]at w2
       exact⟨_,_,u,rfl,.inl (SqL.of f1),by unfold atI;rw[f2,e1];exact f3,w2⟩
    ·cases e
   ·cases e
  ·cases e
 | tup xs =>
  simp only[L2.itemS]at e
  split at e
  ·rename_i k e1
   split at e
   ·rename_i c e2
    split at e
    ·rename_i d' e3
     cases e
     obtain⟨u,ch,w2⟩:=w.frzAt (ks:=[k]) (y:=c) (d:=d) (by simp[OD.at,OD.kids,e2]) e3
     cases ch with
     | cons c1 c2 =>
      cases c2
      cases c1 with
      | tup f1 f2 f3 f4 =>
       simp only[OD.put,OD.kids,e2,OD.setKid]at w2
       exact⟨_,_,u,rfl,.inr (SqT.of f1),by unfold atI;rw[f2,e1];exact f3,w2⟩
    ·cases e
   ·cases e
  ·cases e
 | dic _ _=>simp[L2.itemS]at e
 | obj _ _ _=>simp[L2.itemS]at e
 | pin _ _ _=>simp[L2.itemS]at e
 | hole _=>simp[L2.itemS]at e
end
section
variable{X:Cx}{K:Waa}{a b c e:Expr}{es:List Expr}{da db dc:DE}{dt:DA}{pos:Pos}{x:Str}
def FK(a b:DE):DE:=fun ρ Q=>a ρ fun x ρ1=>b ρ1 fun y ρ2=>∃i z ρ3,ao ρ2 y=some (.int i)/\bV ρ2 x i=some (z,ρ3)/\Q (.val z) ρ3
theorem AX(hs:PlainIx b):PDe X a da->PDe X b db->PDe X (.Subscript a b pos) (FK da db)
 | ⟨_,h1,s1⟩,⟨_,h2,s2⟩=>⟨_,wg qc h1 h2 hs,fun b F σ H ρ τ θ Qd Q hK R h q=>s1 b F σ H ρ τ θ _ _ hK R h fun v H1 x ρ1 R1 h1=>s2 b F σ H1 ρ1 _ _ _ _ hK R1 h1 fun u H2 y ρ2 R2 ⟨i,z,ρ3,e1,e2,h2⟩=>by
  have hu:=R2.dt e1
  cases hu
  have R3:=R2.drop
  cases x with
  | val x =>
   simp only[bV]at e2
   cases e3:itemO x i with
   | none=>rw[e3]at e2;cases e2
   | some z' =>
    rw[e3]at e2
    cases e2
    obtain⟨p,vs,u,rfl,hs,hi,w⟩:=Wd.itemO R3.wd e3
    have q':=q u H2 _ _ (R3.drop.push w) h2
    rw[hK]at hs
    exact hs.elim (fun hs=>.inl ⟨p,vs,i,u,rfl,rfl,hs,hi,q'⟩) fun hs=>.inr (.inl ⟨p,vs,i,u,rfl,rfl,hs,hi,q'⟩)
  | rf j =>
   simp only[bV]at e2
   cases e3:ρ2[j]?.join with
   | none=>rw[e3]at e2;cases e2
   | some x =>
    rw[e3]at e2
    simp only at e2
    cases e4:itemS x i with
    | none=>rw[e4]at e2;cases e2
    | some z' =>
     obtain⟨d,x'⟩:=z'
     rw[e4]at e2
     cases e2
     obtain⟨v',ev,w⟩:=R3.drop.slot (join_some e3)
     have:v=v':=by have:=R3.al.1;rw[ev]at this;cases this;rfl
     subst this
     obtain⟨p,vs,u,rfl,hs,hi,w2⟩:=Wd.itemS w e4
     have R4:Rel b F σ H2 (ρ2.set j (some x')) (u::τ) (.val (.fz d)::θ):=Rel.back (τ:=u::τ) (θ:=.val (.fz d)::θ) R3.wf R3.drop.al R3.wff ev (w2.perm (List.Perm.swap _ _ _))
     have q':=q u H2 _ _ R4 h2
     rw[hK]at hs
     exact hs.elim (fun hs=>.inl ⟨p,vs,i,u,rfl,rfl,hs,hi,q'⟩) fun hs=>.inr (.inl ⟨p,vs,i,u,rfl,rfl,hs,hi,q'⟩)⟩
variable{k:Nat}{f:Addr}{fd:FuncData}{ps:List Str}{sp:DSp}{p:Pos}
def dF(ρ:DEnv):List OR->Option (List PyData)
 | []=>some []
 | r::rs=>(ao ρ r).bind fun d=>(dF ρ rs).map (d::·)
theorem Rel.dtL{b:Bs}{F:List Fr}{σ:St}{H:Hp}{ρ:DEnv}:∀{vs:List V} {rs:List OR} {τ:List V} {θ:List OR} {ds:List PyData},Rel b F σ H ρ (vs++τ) (rs++θ)->vs.length=rs.length->dF ρ rs=some ds->DtAll b.K H vs ds
 | [],[],_,_,_,_,_,e=>by simp only[dF]at e;cases e;exact .nil
 | v::vs,r::rs,τ,θ,ds,R,el,e=>by
  simp only[dF,aaJ,aaL]at e
  obtain⟨d,e1,ds',e2,rfl⟩:=e
  exact .cons (Rel.dt R e1) (Rel.dtL (Rel.drop R) (by simpa using el) e2)
 | [],_::_,_,_,_,_,e,_=>by simp at e
 | _::_,[],_,_,_,_,e,_=>by simp at e
def SndCB(K:Waa)(r2:List V->Hp->VK->Prop)(r:DRn):Prop:=∀(H:Hp) (vs:List V) (ds:List PyData) (Qd:PyData->Prop) (Q:VK),DtAll K H vs ds->r ds Qd->(∀w d,Sc w d->Qd d->Q w H)->r2 vs H Q
def CP(r:DRn)(t:DA):DE:=fun ρ Q=>t ρ fun rs ρ1=>∃ds,dF ρ1 rs=some ds/\r ds fun d=>Q (.val (.fz d)) ρ1
theorem qL{r2:List V->Hp->VK->Prop}{r:DRn}{ta:TA}(hr:SndCB K r2 r)(s1:yj K ta dt):bZ K (Dq r2 ta) (CP r dt):=fun b F σ H ρ τ θ Qd Q hK R h q=>s1 b F σ H ρ τ θ _ _ hK R h fun vs H1 rs ρ1 el R1 ⟨ds,e1,h1⟩ =>
 hr H1 vs ds _ _ (hK ▸ R1.dtL el e1) h1 fun w d sc hd=>q w H1 _ _ ((R1.drops el).sc sc) hd
theorem cx {r2:List V->Hp->VK->Prop} {r:DRn} {id:String} (hc:bE X (.builtin id) r2) (hr:SndCB X.K r2 r) (hg:Gl X x) (hm:X.mg x=none) (hv:bootBuiltins x=some (.builtin id)) (hn:x≠"__name__":=by decide) (hdb:(x == ("__debug__":Str))=false:=by decide)
  (he:starEach (e::es) X.env=(false,eval e X.env)::starEach es X.env:=by rfl) (hpl:(backTo pos (starEach es X.env)).any (·.1)=false:=by rfl):PDa X (e::es) dt->PDe X (.Call (.Name x p) (e::es) [] pos) (CP r dt)
 | ⟨_,h1,s1⟩=>⟨_,cM hc hg hm hv h1 hn hdb he hpl,qL hr s1⟩
theorem qM {r2:List V->Hp->VK->Prop} {r:DRn} {id:String} (hc:bE X (.type id) r2) (hr:SndCB X.K r2 r) (hg:Gl X x) (hm:X.mg x=none) (hv:bootBuiltins x=some (.type id)) (hn:x≠"__name__":=by decide) (hdb:(x == ("__debug__":Str))=false:=by decide)
  (he:starEach (e::es) X.env=(false,eval e X.env)::starEach es X.env:=by rfl) (hpl:(backTo pos (starEach es X.env)).any (·.1)=false:=by rfl):PDa X (e::es) dt->PDe X (.Call (.Name x p) (e::es) [] pos) (CP r dt)
 | ⟨_,h1,s1⟩=>⟨_,cZ hc hg hm hv h1 hn hdb he hpl,qL hr s1⟩
def lh:PyData->Option Nat
 | .list ds=>some ds.length
 | .tuple ds=>some ds.length
 | _=>none
def dLen:DRn:=fun ds Q=>∃d n,ds=[d]/\lh d=some n/\Q (.int n)
theorem sc_len:SndCB K (fun xs H Q=>∃x n,xs=[x]/\Au K x H n/\Q (.int n) H) dLen:=by
 rintro H vs ds Qd Q hv ⟨d,n,rfl,e,hq⟩ q
 cases hv with
 | cons h t =>
  cases t
  refine⟨_,n,rfl,?_,q _ _ (.int _) hq⟩
  cases h with
  | lst s t=>simp only[lh]at e;cases e;exact .inl ⟨_,s,t.length.symm⟩
  | tup s t=>simp only[lh]at e;cases e;exact .inr ⟨_,s,t.length.symm⟩
  | _=>simp[lh]at e
def dAbs:DRn:=fun ds Q=>∃i,ds=[.int i]/\Q (.int (if i < 0 then -i else i))
theorem sc_abs:SndCB K (fun xs H Q=>∃i,xs=[.int i]/\Q (.int (if i < 0 then -i else i)) H) dAbs:=by
 rintro H vs ds Qd Q hv ⟨i,rfl,hq⟩ q
 cases hv with | cons h t=>cases t;cases h;exact⟨i,rfl,q _ _ (.int _) hq⟩
def dMax:DRn:=fun ds Q=>∃i j,ds=[.int i,.int j]/\Q (.int (if j > i then j else i))
theorem sc_max:SndCB K (fun xs H Q=>∃i j,xs=[.int i,.int j]/\Q (.int (if j > i then j else i)) H) dMax:=by
 rintro H vs ds Qd Q hv ⟨i,j,rfl,hq⟩ q
 cases hv with | cons h t=>cases t with | cons h' t=>cases t;cases h;cases h';exact⟨i,j,rfl,q _ _ (.int _) hq⟩
def dMin:DRn:=fun ds Q=>∃i j,ds=[.int i,.int j]/\Q (.int (if j < i then j else i))
theorem sc_min:SndCB K (fun xs H Q=>∃i j,xs=[.int i,.int j]/\Q (.int (if j < i then j else i)) H) dMin:=by
 rintro H vs ds Qd Q hv ⟨i,j,rfl,hq⟩ q
 cases hv with | cons h t=>cases t with | cons h' t=>cases t;cases h;cases h';exact⟨i,j,rfl,q _ _ (.int _) hq⟩
def toInt:PyData->Option Int
 | .int i=>some i
 | .bool k=>some (if k then 1 else 0)
 | _=>none
def dInt:DRn:=fun ds Q=>∃d i,ds=[d]/\toInt d=some i/\Q (.int i)
theorem sc_int:SndCB K (fun xs H Q=>(∃i,xs=[.int i]/\Q (.int i) H)\/∃k,xs=[.bl k]/\Q (.int (if k then 1 else 0)) H) dInt:=by
 rintro H vs ds Qd Q hv ⟨d,i,rfl,e,hq⟩ q
 cases hv with
 | cons h t =>
  cases t
  cases h with
  | int j=>simp only[toInt]at e;cases e;exact .inl ⟨_,rfl,q _ _ (.int _) hq⟩
  | bl k=>simp only[toInt]at e;cases e;exact .inr ⟨_,rfl,q _ _ (.int _) hq⟩
  | _=>simp[toInt]at e
def allB:List PyData->Option (List Bool)
 | []=>some []
 | .bool k::ds=>(allB ds).map (k::·)
 | _::_=>none
theorem allB_map:∀{ds:List PyData} {bs:List Bool},allB ds=some bs->ds=bs.map PyData.bool
 | [],_,e=>by simp only[allB]at e;cases e;rfl
 | .bool k::ds,_,e=>by
  simp only[allB,aaL]at e
  obtain⟨bs,e1,rfl⟩:=e
  rw[allB_map e1];rfl
 | .none::_,_,e=>by simp[allB]at e
 | .int _::_,_,e=>by simp[allB]at e
 | .str _::_,_,e=>by simp[allB]at e
 | .list _::_,_,e=>by simp[allB]at e
 | .tuple _::_,_,e=>by simp[allB]at e
 | .dict _::_,_,e=>by simp[allB]at e
theorem DtAll.bls{H:Hp}{vs:List V}{bs:List Bool}(h:DtAll K H vs (bs.map PyData.bool)):vs=bs.map V.bl:=by
 induction bs generalizing vs with
 | nil=>cases h;rfl
 | cons n ns ih=>cases h with | cons r t=>cases r;rw[aaj,ih t]
def dAll:DRn:=fun ds Q=>∃es bs,ds=[.list es]/\allB es=some bs/\Q (.bool (bs.all id))
theorem sc_all:SndCB K (fun xs H Q=>∃(p:Addr) (bs:List Bool),xs=[.ref p]/\SqL K H p (bs.map V.bl)/\Q (.bl (bs.all id)) H) dAll:=by
 rintro H vs ds Qd Q hv ⟨es,bs,rfl,e,hq⟩ q
 have:=allB_map e
 subst this
 cases hv with
 | cons h t =>
  cases t
  cases h with
  | lst s t=>rw[t.bls]at s;exact⟨_,bs,rfl,s,q _ _ (.bl _) hq⟩
end
end
section
def seqOf(x:OD):Option (List PyData):=match listOf x with
 | some ds=>some ds
 | none=>tupOf x
section
variable{b:Bs}{F:List Fr}{σ:St}{H H':Hp}{ρ ρ':DEnv}{τ vs:List V}{θ rs:List OR}{v u:V}{r r':OR}{x y:OD}{d:PyData}{ds:List PyData}{i:Nat}{L:List (V × OD)}{p:Addr}
theorem Rel.mem(R:Rel b F σ H ρ (v::τ) (r::θ))(e:dU ρ r=some x):(v,x)∈stk (v::τ) (r::θ)++(flat σ ρ++ff F):=by
 cases r with
 | val y=>simp only[dU]at e;cases e;simp[stk]
 | rf i =>
  simp only[dU]at e
  refine aad _ (aae _ ?_)
  exact (bw (join_some e) R.al.1).mem_iff.mpr aag
theorem Rel.mem1(R:Rel b F σ H ρ (u::v::τ) (r'::r::θ))(e:dU ρ r=some x):(v,x)∈stk (u::v::τ) (r'::r::θ)++(flat σ ρ++ff F):=by
 have h:=R.drop.mem e
 cases r' with
 | val y=>simp only[stk];exact aai _ h
 | rf i=>exact h
theorem Rel.drop2(R:Rel b F σ H ρ (u::v::τ) (r'::r::θ)):Rel b F σ H ρ (u::τ) (r'::θ):=(Rel.rot (vs:=[u]) (rs:=[r']) R rfl).drop
theorem Ows.fzs(h:Ows b S H vs (ds.map OD.fz) A):FzA b.K S H vs ds:=by
 induction ds generalizing vs A with
 | nil=>cases h;exact .nil
 | cons d ds ih=>cases h with | cons r t=>cases r with | fz f=>exact .cons f (ih t)
theorem Wd.exp(w:Wd b H L)(h0:OwL b (fun a=>a∈A\/b.S0 a) H L A)(nd:A.Nodup)(new:∀a∈A,b.H0 a=none\/b.C a)(h:FzA b.K (fun a=>a∈A\/b.S0 a) H vs ds):Wd b H (vs.zip (ds.map OD.fz)++L):=by
 have q:∀{vs:List V} {ds:List PyData},FzA b.K (fun a=>a∈A\/b.S0 a) H vs ds->OwL b (fun a=>a∈A\/b.S0 a) H (vs.zip (ds.map OD.fz)) []:=by
  intro vs
  induction vs with
  | nil=>intro ds h;cases h;exact .nil
  | cons v vs ih=>intro ds h;cases h with | cons r t=>exact Ows.cons (.fz r) (ih t)
 exact⟨⟨A,OwL.join' (q h) h0,nd,new⟩,w.fr,w.s0,w.nt⟩
theorem Wd.lsItems(w:Wd b H L)(m:(v,x)∈L)(e:listOf x=some ds):∃a vs,v=.ref a/\vs.length=ds.length/\SqL b.K H a vs/\Wd b H (vs.zip (ds.map OD.fz)++L):=by
 obtain⟨A,h0,nd,new⟩:=w.out
 obtain⟨B,h⟩:=OwL.mem h0 m
 cases h with
 | @fz _ d f =>
  cases d with
  | list es =>
   simp only[listOf]at e
   cases e
   obtain⟨a,vs,rfl,h1,h2⟩:=f.list_inv
   exact⟨a,vs,rfl,h2.length,h1.now,w.exp h0 nd new h2⟩
  | _=>simp[listOf]at e
 | @lst a vs xs A' e1 t =>
  simp only[listOf]at e
  have hx:=fzL_map e
  subst hx
  have h2:=Ows.fzs t
  exact⟨a,vs,rfl,h2.length,SqL.of e1,w.exp h0 nd new h2⟩
 | _=>simp[listOf]at e
theorem Wd.tpItems(w:Wd b H L)(m:(v,x)∈L)(e:tupOf x=some ds):∃a vs,v=.ref a/\vs.length=ds.length/\SqT b.K H a vs/\Wd b H (vs.zip (ds.map OD.fz)++L):=by
 obtain⟨A,h0,nd,new⟩:=w.out
 obtain⟨B,h⟩:=OwL.mem h0 m
 cases h with
 | @fz _ d f =>
  cases d with
  | tuple es =>
   simp only[tupOf]at e
   cases e
   obtain⟨a,vs,rfl,h1,h2⟩:=f.tup_inv
   exact⟨a,vs,rfl,h2.length,h1.now,w.exp h0 nd new h2⟩
  | _=>simp[tupOf]at e
 | _=>simp[tupOf]at e
theorem Wd.sqItems(w:Wd b H L)(m:(v,x)∈L)(e:seqOf x=some ds):∃a vs,v=.ref a/\vs.length=ds.length/\(SqL b.K H a vs\/SqT b.K H a vs)/\Wd b H (vs.zip (ds.map OD.fz)++L):=by
 unfold seqOf at e
 cases h:listOf x with
 | some z=>rw[h]at e;cases e;obtain⟨a,vs,h1,h2,h3,h4⟩:=w.lsItems m h;exact⟨a,vs,h1,h2,.inl h3,h4⟩
 | none=>rw[h]at e;obtain⟨a,vs,h1,h2,h3,h4⟩:=w.tpItems m e;exact⟨a,vs,h1,h2,.inr h3,h4⟩
theorem Rel.newLst(R:Rel b F σ H ρ τ θ){Z:List (V × OD)}(w:Wd b H (Z++(stk τ θ++(flat σ ρ++ff F))))(el:vs.length=ds.length)(m:∀z∈vs.zip (ds.map OD.fz),z∈Z++(stk τ θ++(flat σ ρ++ff F)))(hp:H p=none) :
  Rel b F σ (upd H p (.lst vs)) ρ (.ref p::τ) (.val (.lst (ds.map OD.fz))::θ):=by
 obtain⟨A,h0,nd,new⟩:=w.out
 have w2:=Wd.exp w h0 nd new ((OwL.frzIn h0).all el m)
 exact R.push (Wd.below (Wd.newLst w2 (by simpa using el) hp))
theorem Rel.newTup(R:Rel b F σ H ρ τ θ){Z:List (V × OD)}(w:Wd b H (Z++(stk τ θ++(flat σ ρ++ff F))))(el:vs.length=ds.length)(m:∀z∈vs.zip (ds.map OD.fz),z∈Z++(stk τ θ++(flat σ ρ++ff F)))(hp:H p=none) :
  Rel b F σ (upd H p (.tup vs)) ρ (.ref p::τ) (.val (.fz (.tuple ds))::θ):=R.push (Wd.below (w.newTup (fun S hS=>hS.all el m) hp))
end
section
variable{X:Cx}{K:Waa}{a b c e:Expr}{es:List Expr}{da db dc:DE}{dt:DA}{pos p:Pos}{x:Str}
def yy(t:DA):DE:=fun ρ Q=>t ρ fun rs ρ1=>∃r ds,rs=[r]/\(dU ρ1 r).bind listOf=some ds/\Q (.val (.fz (.tuple ds))) ρ1
theorem qN (hg:Gl X x) (hm:X.mg x=none) (hv:bootBuiltins x=some (.type "tuple")) (hn:x≠"__name__":=by decide) (hdb:(x == ("__debug__":Str))=false:=by decide)
  (he:starEach (e::es) X.env=(false,eval e X.env)::starEach es X.env:=by rfl) (hpl:(backTo pos (starEach es X.env)).any (·.1)=false:=by rfl):PDa X (e::es) dt->PDe X (.Call (.Name x p) (e::es) [] pos) (yy dt)
 | ⟨_,h1,s1⟩=>⟨_,cZ hV hg hm hv h1 hn hdb he hpl,fun b F σ H ρ τ θ Qd Q hK R h q=>s1 b F σ H ρ τ θ _ _ hK R h fun vs H1 rs ρ1 el R1 ⟨r,ds,e1,e2,h1⟩=>by
  subst e1
  obtain⟨z,e3,e4⟩:=aaJ.mp e2
  match vs,el with
  | [v],_ =>
   obtain⟨a,us,rfl,el,hs,w⟩:=R1.wd.lsItems (R1.mem e3) e4
   rw[hK]at hs
   exact⟨a,us,rfl,.inl ⟨hs,fun l hl=>q _ _ _ _ (Rel.drop2 (R1.newTup w el (fun z hz=>aae _ hz) hl)) h1⟩⟩⟩
def DJ(a b:DE):DE:=fun ρ Q=>a ρ fun x ρ1=>b ρ1 fun y ρ2=>∃ds es,lg ρ2 x=some ds/\lg ρ2 y=some es/\ds.length + es.length<=1000000/\Q (.val (.lst ((ds++es).map OD.fz))) ρ2
theorem mC{α β:Type}{xs xs':List α}{ys ys':List β}(h:xs.length=ys.length):(xs++xs').zip (ys++ys')=xs.zip ys++xs'.zip ys':=List.zip_append h
theorem yz:PDe X a da->PDe X b db->PDe X (.BinOp a .Add b pos) (DJ da db)
 | ⟨_,h1,s1⟩,⟨_,h2,s2⟩=>⟨_,pR uq h1 h2,fun b F σ H ρ τ θ Qd Q hK R h q=>s1 b F σ H ρ τ θ _ _ hK R h fun v H1 x ρ1 R1 h1=>s2 b F σ H1 ρ1 _ _ _ _ hK R1 h1 fun u H2 y ρ2 R2 ⟨ds,es,e1,e2,hz,h2⟩=>by
  obtain⟨x',e3,e4⟩:=aaJ.mp e1
  obtain⟨y',e5,e6⟩:=aaJ.mp e2
  obtain⟨a,us,rfl,el,hs,w⟩:=R2.wd.lsItems (R2.mem1 e3) e4
  obtain⟨c,ws,rfl,el',hs',w'⟩:=w.lsItems (aad _ (R2.mem e5)) e6
  rw[<- aaf]at w'
  rw[hK]at hs hs'
  refine⟨a,c,us,ws,rfl,rfl,hs,hs',i7 (by omega),fun l hl=>q _ _ _ _ (Rel.drop2 (Rel.drop2 (R2.newLst w' (by simp[el,el']) (fun z hz=>?_) hl))) h2⟩
  rw[aaw,mC (by simpa using el)]at hz
  refine aae _ ?_
  rcases aal.mp hz with hz | hz
  ·exact aad _ hz
  ·exact aae _ hz⟩
abbrev DO:=DEnv->(Option Int->DEnv->Prop)->Prop
def DL(K:Waa)(te:TO)(de:DO):Prop:=∀(b:Bs) (F:List Fr) (σ:St) (H:Hp) (ρ:DEnv) (τ:List V) (θ:List OR) (Qd:Option Int->DEnv->Prop) (Q:Option Int->Hp->Prop),b.K=K->Rel b F σ H ρ τ θ->de ρ Qd->(∀k H' ρ',Rel b F σ H' ρ' τ θ->Qd k ρ'->Q k H')->te σ H Q
inductive PDo (X:Cx)(e:Option Expr)(de:DO):Prop | mk (te:TO) (h:PO X e te) (s:DL X.K te de)
def dNoPart:DO:=fun ρ Q=>Q none ρ
def AY(a:DE):DO:=fun ρ Q=>a ρ fun x ρ1=>∃i,ao ρ1 x=some (.int i)/\Q (some i) ρ1
theorem pdo_none:PDo X none dNoPart:=⟨_,tU,fun b F σ H ρ τ θ Qd Q hK R h q=>q none H ρ R h⟩
theorem qO:PDe X e da->PDo X (some e) (AY da)
 | ⟨_,h1,s1⟩=>⟨_,l8 h1,fun b F σ H ρ τ θ Qd Q hK R h q=>s1 b F σ H ρ τ θ _ _ hK R h fun v H1 x ρ1 R1 ⟨i,e,h1⟩=>by
  cases R1.dt e
  exact⟨i,rfl,q _ H1 _ R1.drop h1⟩⟩
def cutD{α:Type}(xs:List α)(lo hi:Option Int):List α:=(xs.drop (HT.sIx xs.length 0 lo)).take (HT.sIx xs.length xs.length hi - HT.sIx xs.length 0 lo)
theorem uC{vs:List V}{ds:List OD}(el:vs.length=ds.length)(lo hi:Option Int):∀z∈(cutD vs lo hi).zip (cutD ds lo hi),z∈vs.zip ds:=by
 intro z hz
 unfold cutD at hz
 rw[el,acu,<- List.take_zipWith,<- List.drop_zipWith,<- acu]at hz
 exact ab1 (ab2 hz)
theorem qP{α β:Type}(f:α->β)(xs:List α)(lo hi:Option Int):cutD (xs.map f) lo hi=(cutD xs lo hi).map f:=by
 unfold cutD
 rw[aaa,abF,ab3]
theorem qQ{α β:Type}{xs:List α}{ys:List β}(el:xs.length=ys.length)(lo hi:Option Int):(cutD xs lo hi).length=(cutD ys lo hi).length:=by
 unfold cutD
 rw[aaY,aaZ,aaY,aaZ,el]
variable{lo hi:Option Expr}{dl dh:DO}{p2:Pos}
def DM(a:DE)(dl dh:DO):DE:=fun ρ Q=>a ρ fun x ρ1=>dl ρ1 fun l ρ2=>dh ρ2 fun u ρ3=>∃ds,lg ρ3 x=some ds/\Q (.val (.lst ((cutD ds l u).map OD.fz))) ρ3
theorem yA:PDe X e da->PDo X lo dl->PDo X hi dh->PDe X (.Subscript e (.Slice lo hi none p2) pos) (DM da dl dh)
 | ⟨_,h1,s1⟩,⟨_,h2,s2⟩,⟨_,h3,s3⟩=>⟨_,qb tX h1 h2 h3,fun b F σ H ρ τ θ Qd Q hK R h q=>s1 b F σ H ρ τ θ _ _ hK R h fun v H1 x ρ1 R1 h1=>s2 b F σ H1 ρ1 _ _ _ _ hK R1 h1 fun l H2 ρ2 R2 h2=>s3 b F σ H2 ρ2 _ _ _ _ hK R2 h2 fun u H3 ρ3 R3 ⟨ds,e1,h3⟩=>by
  obtain⟨x',e3,e4⟩:=aaJ.mp e1
  obtain⟨a,us,rfl,el,hs,w⟩:=R3.wd.lsItems (R3.mem e3) e4
  rw[hK]at hs
  refine⟨a,us,rfl,hs,fun l' hl=>q _ _ _ _ (Rel.drop2 (R3.newLst w (qQ el l u) (fun z hz=>aae _ ?_) hl)) h3⟩
  rw[<- qP]at hz
  exact uC (by simpa using el) l u z hz⟩
end
end
section
structure DEnds where
 nx:DEnv->Prop
 rt:OD->DEnv->Prop
 bk:DEnv->Prop:=fun _=>False
 ct:DEnv->Prop:=fun _=>False
abbrev DS:=DEnds->DEnv->Prop
def NoRf(W:Nat->Prop)(θ:List OR):Prop:=∀r∈θ,(∃x,r=.val x)\/∃j,W j/\r=.rf j
abbrev Ff:Nat->Prop:=fun _=>False
structure EndsOk (b:Bs)(F:List Fr)(τ:List V)(θ:List OR)(Dd:DEnds)(D:Ends):Prop where
 nx:∀σ H ρ,Rel b F σ H ρ τ θ->Dd.nx ρ->D.nx σ H
 bk:∀σ H ρ,Rel b F σ H ρ τ θ->Dd.bk ρ->D.bk σ H
 ct:∀σ H ρ,Rel b F σ H ρ τ θ->Dd.ct ρ->D.ct σ H
 rt:∀σ H ρ v x,Rel b F σ H ρ (v::τ) (.val x::θ)->Dd.rt x ρ->D.rt v H
def AZ(K:Waa)(W:Nat->Prop)(ts:TS)(ds:DS):Prop:=∀(b:Bs) (F:List Fr) (σ:St) (H:Hp) (ρ:DEnv) (τ:List V) (θ:List OR) (Dd:DEnds) (D:Ends),b.K=K->NoRf W θ->Rel b F σ H ρ τ θ->ds Dd ρ->EndsOk b F τ θ Dd D->ts D σ H
inductive PDs (X:Cx)(W:Nat->Prop)(e:Stmt)(de:DS):Prop | mk (te:TS) (h:PS X e te) (s:AZ X.K W te de)
inductive PDss (X:Cx)(W:Nat->Prop)(e:List Stmt)(de:DS):Prop | mk (te:TS) (h:PSs X e te) (s:AZ X.K W te de)
section
variable{b:Bs}{F:List Fr}{σ σ':St}{H H':Hp}{ρ ρ':DEnv}{τ vs:List V}{θ rs:List OR}{v u:V}{r r':OR}{x y:OD}{d:PyData}{ds:List PyData}{i:Nat}{L:List (V × OD)}
variable{W:Nat->Prop}
theorem NoRf.al{o:Option V}(n:NoRf W θ)(hw:¬ W i):∀{τ:List V},Al σ τ θ->Al (σ.set i o) τ θ:=by
 induction θ with
 | nil=>intro τ h;cases τ with
  | nil=>trivial
  | cons _ _=>exact h
 | cons r θ ih =>
  intro τ h
  cases τ with
  | nil=>cases r<;>exact h
  | cons v τ =>
   rcases n r aag with ⟨x,rfl⟩ | ⟨j,wj,rfl⟩
   ·exact ih (fun r hr=>n r (aai _ hr)) (τ:=τ) h
   ·refine⟨?_,ih (fun r hr=>n r (aai _ hr)) (τ:=τ) h.2⟩
    have ne:i≠j:=fun e=>hw (by rw[e];exact wj)
    rw[abc ne]
    exact h.1
theorem NoRf.al0(n:NoRf Ff θ):∀{τ:List V},Al σ τ θ->Al σ' τ θ:=by
 induction θ with
 | nil=>intro τ h;cases τ with
  | nil=>trivial
  | cons _ _=>exact h
 | cons r θ ih =>
  intro τ h
  rcases n r aag with ⟨x,rfl⟩ | ⟨j,wj,rfl⟩
  ·cases τ with
   | nil=>exact h
   | cons v τ=>exact ih (fun r hr=>n r (aai _ hr)) (τ:=τ) h
  ·exact wj.elim
theorem NoRf.weak(n:NoRf Ff θ):NoRf W θ:=fun r hr=>(n r hr).imp id fun ⟨j,wj,_⟩=>wj.elim
theorem NoRf.app(n1:NoRf W rs)(n:NoRf W θ):NoRf W (rs++θ):=fun r hr=>(aal.mp hr).elim (n1 r) (n r)
theorem Wd.offSlot{L1 L2:List (V × OD)}(w:Wd b H (L1++(flat σ ρ++L2)))(wf:Wf σ ρ)(i:Nat):Wd b H (L1++(flat σ (ρ.set i none)++L2)):=by
 cases e:ρ[i]?.join with
 | none =>
  have:ρ.set i none=ρ:=by
   cases h:ρ[i]? with
   | none=>exact List.set_eq_of_length_le (by simpa using h)
   | some o=>rw[h]at e;have:o=none:=e;subst this;exact set_self h
  rw[this];exact w
 | some x =>
  have e':=join_some e
  obtain⟨v,ev⟩:=wf.get e'
  exact Wd.drop (w.perm ((((bw e' ev).append_right _).append_left _).trans aas))
theorem Rel.store(R:Rel b F σ H ρ (v::τ) (.val x::θ))(n:NoRf W θ)(hi:i < ρ.length)(hw:¬ W i):Rel b F (σ.set i (some v)) H (ρ.set i (some x)) τ θ:=by
 refine Rel.unslot R.wf (n.al hw (Rel.drop R).al) R.wff hi ?_
 exact Wd.offSlot (L1:=(v,x)::stk τ θ) (ρ:=ρ) R.wd R.wf i
end
section
variable{X:Cx}{W:Nat->Prop}{K:Waa}{a b c e:Expr}{es:List Expr}{sts:List Stmt}{st:Stmt}{da db dc:DE}{dt:DA}{d1 d2:DS}{dT:DT}{pos p:Pos}{x:Str}
def dNext:DS:=fun D ρ=>D.nx ρ
def DN(t u:DS):DS:=fun D ρ=>∃M:DEnv->Prop,(∀ρ',M ρ'->u D ρ')/\t { D with nx:=M } ρ
theorem pdss_nil:PDss X W [] dNext:=⟨_,tL,fun b F σ H ρ τ θ Dd D hK n R h E=>E.nx σ H ρ R h⟩
theorem oC:PDs X W st d1->PDss X W sts d2->PDss X W (st::sts) (DN d1 d2)
 | ⟨_,h1,s1⟩,⟨_,h2,s2⟩=>⟨_,pL h1 h2,fun b F σ H ρ τ θ Dd D hK n R ⟨M,hM,h⟩ E=>s1 b F σ H ρ τ θ _ _ hK n R h
  ⟨fun σ1 H1 ρ1 R1 h1=>s2 b F σ1 H1 ρ1 τ θ Dd D hK n R1 (hM ρ1 h1) E,E.bk,E.ct,E.rt⟩⟩
def dCont:DS:=fun D ρ=>D.ct ρ
theorem pds_cont:PDs X W (.Continue pos) dCont:=⟨_,jK,fun b F σ H ρ τ θ Dd D hK n R h E=>E.ct σ H ρ R h⟩
def A6(a:DE):DS:=fun D ρ=>a ρ fun _ ρ1=>D.nx ρ1
theorem qR(hs:swapsWith e none pos.line X.env=pure false:=by rfl):PDe X e da->PDs X W (.Expr e pos) (A6 da)
 | ⟨_,h,s⟩=>⟨_,iZ h hs,fun b F σ H ρ τ θ Dd D hK n R h E=>s b F σ H ρ τ θ _ _ hK R h fun v H1 r ρ1 R1 h1=>E.nx σ H1 ρ1 R1.drop h1⟩
def DP(a:DE):DS:=fun D ρ=>a ρ fun r ρ1=>∃x ρ2,mv1 ρ1 r=some (x,ρ2)/\D.rt x ρ2
theorem uD:PDe X e da->PDs X W (.Return (some e) pos) (DP da)
 | ⟨_,h,s⟩=>⟨_,xw h,fun b F σ H ρ τ θ Dd D hK n R h E=>s b F σ H ρ τ θ _ _ hK R h fun v H1 r ρ1 R1 ⟨x,ρ2,e,h1⟩=>E.rt σ H1 ρ2 v x (R1.mv1 e) h1⟩
def DQ(c:DT)(t u:DS):DS:=fun D ρ=>c ρ fun k ρ1=>if k=true then t D ρ1 else u D ρ1
theorem yC{s1 s2:List Stmt}:PDt X c dT->PDss X W s1 d1->PDss X W s2 d2->PDs X W (.If c s1 s2 pos) (DQ dT d1 d2)
 | ⟨_,h,s⟩,⟨_,h1,s1⟩,⟨_,h2,s2⟩=>⟨_,Ag h h1 h2,fun b F σ H ρ τ θ Dd D hK n R h E=>s b F σ H ρ τ θ _ _ hK R h fun k H1 ρ1 R1 h1=>by
  cases k with
  | true=>rw[if_pos rfl]at h1 ⊢;exact s1 b F σ H1 ρ1 τ θ _ _ hK n R1 h1 E
  | false=>rw[if_neg aah]at h1 ⊢;exact s2 b F σ H1 ρ1 τ θ _ _ hK n R1 h1 E⟩
def DR(i:Nat)(a:DE):DS:=fun D ρ=>a ρ fun r ρ1=>∃x ρ2,own1 ρ1 r=some (x,ρ2)/\i < ρ2.length/\D.nx (ρ2.set i (some x))
theorem uE{i:Nat}{pos':Pos}(hw:¬ W i)(hN:X.N.Nodup)(hi:X.N[i]?=some x)(hx:Loc X.env.scope x)(hs:swapsWith e (some (.Name x pos')) pos.line X.env=pure false:=by rfl)(hf:X.fn x=true\/X.env.scope.names.lookup x=some .local:=by first | exact .inl rfl | exact .inr rfl | assumption) :
  PDe X e da->PDs X W (.Assign [.Name x pos'] e pos) (DR i da)
 | ⟨_,h,s⟩=>⟨_,xB hN hi hx h hs hf,fun b F σ H ρ τ θ Dd D hK n R h E=>s b F σ H ρ τ θ _ _ hK R h fun v H1 r ρ1 R1 ⟨x,ρ2,e,hi,h1⟩=>E.nx _ H1 _ ((R1.own1 e).store n hi hw) h1⟩
def cQ:List Nat->List OD->DEnv->DEnv
 | i::is,x::xs,ρ=>cQ is xs (ρ.set i (some x))
 | _,_,ρ=>ρ
def yD(is:List Nat)(t:DA):DS:=fun D ρ=>t ρ fun rs ρ1=>∃xs ρ2,mapR own1 ρ1 rs=some (xs,ρ2)/\xs.length=is.length/\(∀i∈is,i < ρ2.length)/\D.nx (cQ is xs ρ2)
def jc:List Nat->List V->St->St
 | i::is,v::vs,σ=>jc is vs (σ.set i (some v))
 | _,_,σ=>σ
theorem Rel.storeAll{W:Nat->Prop}{b:Bs}{F:List Fr}{H:Hp}{τ:List V}{θ:List OR}:∀{is:List Nat} {vs:List V} {xs:List OD} {σ:St} {ρ:DEnv},Rel b F σ H ρ (vs++τ) (xs.map OR.val++θ)->NoRf W θ->vs.length=xs.length->xs.length=is.length->(∀i∈is,i < ρ.length)->(∀i∈is,¬ W i)->Rel b F (jc is vs σ) H (cQ is xs ρ) τ θ
 | [],[],[],_,_,R,_,_,_,_,_=>R
 | i::is,v::vs,x::xs,σ,ρ,R,n,e1,e2,h,hw=>by
  have nn:NoRf W (xs.map OR.val++θ):=NoRf.app (fun r hr=>by obtain⟨x,_,rfl⟩:=aay.mp hr;exact .inl ⟨x,rfl⟩) n
  show Rel b F (jc is vs (σ.set i (some v))) H (cQ is xs (ρ.set i (some x))) τ θ
  exact Rel.storeAll (Rel.store (τ:=vs++τ) (θ:=xs.map OR.val++θ) R nn (h i aag) (hw i aag)) n (by simpa using e1) (by simpa using e2) (fun j hj=>by rw[abW];exact h j (aai _ hj)) fun j hj=>hw j (aai _ hj)
 | [],_::_,[],_,_,_,_,e,_,_,_=>by simp at e
 | [],_,_::_,_,_,_,_,_,e,_,_=>by simp at e
 | _::_,[],_::_,_,_,_,_,e,_,_,_=>by simp at e
 | _::_,_,[],_,_,_,_,_,e,_,_=>by simp at e
theorem len2{α:Type}{l:List α}(h:l.length=2):∃a b,l=[a,b]:=by
 match l,h with
 | [a,b],_=>exact⟨a,b,rfl⟩
theorem DU{α:Type}{l:List α}(h:l.length=3):∃a b c,l=[a,b,c]:=by
 match l,h with
 | [a,b,c],_=>exact⟨a,b,c,rfl⟩
theorem uF{i j:Nat}(hW:∀k∈[i,j],¬ W k){x y:Str}{px py pt:Pos}{kt k2 pt2}(hc:X.calm=true)(hN:X.N.Nodup)(hi:X.N[i]?=some x)(hj:X.N[j]?=some y)(hij:i≠j)
  (hx:X.env.scope.names.lookup x=some .local) (hy:X.env.scope.names.lookup y=some .local)
  (hw:swappedStores [.Tuple [.Name x px,.Name y py] kt pt] (.Tuple [a,b] k2 pt2) X.env=pure (some [x,y]))
  (hs:swapsWithSole [.Tuple [.Name x px,.Name y py] kt pt] (.Tuple [a,b] k2 pt2) pos.line X.env=pure false:=by rfl):PDa X [a,b] dt->PDs X W (.Assign [.Tuple [.Name x px,.Name y py] kt pt] (.Tuple [a,b] k2 pt2) pos) (yD [i,j] dt)
 | ⟨_,h,s⟩=>⟨_,xC hc hN hi hj hij hx hy h hw hs,fun b F σ H ρ τ θ Dd D hK n R h E=>s b F σ H ρ τ θ _ _ hK R h fun vs H1 rs ρ1 el R1 ⟨xs,ρ2,e,el2,hi,h1⟩=>by
  obtain⟨R2,e2⟩:=dS Rel.own1 R1 el e
  obtain⟨v,w,rfl⟩:=len2 (e2.trans el2)
  exact⟨v,w,rfl,E.nx _ H1 _ (Rel.storeAll (is:=[i,j]) R2 n e2 el2 hi hW) h1⟩⟩
theorem qS{i j k:Nat}(hW:∀z∈[i,j,k],¬ W z){x y z:Str}{px py pz pt:Pos}{kt k2 pt2}(hc:X.calm=true)(hN:X.N.Nodup)(hi:X.N[i]?=some x)(hj:X.N[j]?=some y)(hk:X.N[k]?=some z)(hij:i≠j)(hik:i≠k)(hjk:j≠k)
  (hx:X.env.scope.names.lookup x=some .local) (hy:X.env.scope.names.lookup y=some .local) (hz:X.env.scope.names.lookup z=some .local)
  (hw:swappedStores [.Tuple [.Name x px,.Name y py,.Name z pz] kt pt] (.Tuple [a,b,c] k2 pt2) X.env=pure (some [x,y,z]))
  (hs:swapsWithSole [.Tuple [.Name x px,.Name y py,.Name z pz] kt pt] (.Tuple [a,b,c] k2 pt2) pos.line X.env=pure false:=by rfl):PDa X [a,b,c] dt->PDs X W (.Assign [.Tuple [.Name x px,.Name y py,.Name z pz] kt pt] (.Tuple [a,b,c] k2 pt2) pos) (yD [i,j,k] dt)
 | ⟨_,h,s⟩=>⟨_,uc hc hN hi hj hk hij hik hjk hx hy hz h hw hs,fun b F σ H ρ τ θ Dd D hK n R h E=>s b F σ H ρ τ θ _ _ hK R h fun vs H1 rs ρ1 el R1 ⟨xs,ρ2,e,el2,hi,h1⟩=>by
  obtain⟨R2,e2⟩:=dS Rel.own1 R1 el e
  obtain⟨v,w,u,rfl⟩:=DU (e2.trans el2)
  exact⟨v,w,u,rfl,E.nx _ H1 _ (Rel.storeAll (is:=[i,j,k]) R2 n e2 el2 hi hW) h1⟩⟩
abbrev DG:=OD->DEnv->(DEnv->Prop)->Prop
abbrev DGs:=List OD->DEnv->(DEnv->Prop)->Prop
def oD(K:Waa)(W:Nat->Prop)(m:Nat)(g:TG)(dg:DG):Prop:=∀(b:Bs) (F:List Fr) (σ:St) (H:Hp) (ρ:DEnv) (τ:List V) (θ:List OR) (v:V) (x:OD) (Qd:DEnv->Prop) (Q:St->Hp->Prop),b.K=K->NoRf W θ->Rel b F σ H ρ (v::τ) (.val x::θ)->dg x ρ Qd->(∀σ' H' ρ',Rel b F σ' H' ρ' τ θ->(∀j,m<=j->σ'[j]?=σ[j]?/\ρ'[j]?=ρ[j]?)->Qd ρ'->Q σ' H')->g v σ H Q
def A7(K:Waa)(W:Nat->Prop)(m:Nat)(g:TGs)(dg:DGs):Prop:=∀(b:Bs) (F:List Fr) (σ:St) (H:Hp) (ρ:DEnv) (τ:List V) (θ:List OR) (vs:List V) (xs:List OD) (Qd:DEnv->Prop) (Q:St->Hp->Prop),b.K=K->NoRf W θ->vs.length=xs.length->Rel b F σ H ρ (vs++τ) (xs.map OR.val++θ)->dg xs ρ Qd->(∀σ' H' ρ',Rel b F σ' H' ρ' τ θ->(∀j,m<=j->σ'[j]?=σ[j]?/\ρ'[j]?=ρ[j]?)->Qd ρ'->Q σ' H')->g vs σ H Q
inductive PDg (X:Cx)(W:Nat->Prop)(m:Nat)(e:Expr)(dg:DG):Prop | mk (te:TG) (h:PG X e te) (s:oD X.K W m te dg)
inductive PDgs (X:Cx)(W:Nat->Prop)(m:Nat)(e:List Expr)(dg:DGs):Prop | mk (te:TGs) (h:zZ X e te) (s:A7 X.K W m te dg)
def yF(i:Nat):DG:=fun x ρ Q=>i < ρ.length/\Q (ρ.set i (some x))
def dgNil:DGs:=fun xs ρ Q=>xs=[]/\Q ρ
def lj(t:DG)(u:DGs):DGs:=fun xs ρ Q=>∃x r,xs=x::r/\t x ρ fun ρ'=>u r ρ' Q
def unpT:OD->Option (List OD)
 | .fz (.tuple ds)=>some (ds.map OD.fz)
 | .tup xs=>some xs
 | _=>none
def unpL:OD->Option (List OD)
 | .fz (.list ds)=>some (ds.map OD.fz)
 | .lst xs=>some xs
 | _=>none
def A8(n:Nat)(t:DGs):DG:=fun x ρ Q=>∃xs,unpT x=some xs/\xs.length=n/\t xs ρ Q
def A9(n:Nat)(t:DGs):DG:=fun x ρ Q=>∃xs,unpL x=some xs/\xs.length=n/\t xs ρ Q
variable{m:Nat}{dg:DG}{dgs:DGs}
theorem jZ{i:Nat}(hw:¬ W i)(hN:X.N.Nodup)(hi:X.N[i]?=some x)(hx:Loc X.env.scope x)(him:i < m)(hf:X.fn x=true\/X.env.scope.names.lookup x=some .local:=by first | exact .inl rfl | exact .inr rfl | assumption):PDg X W m (.Name x pos) (yF i) :=
 ⟨_,tM hN hi hx hf,fun b F σ H ρ τ θ v x Qd Q hK n R ⟨hi,h⟩ q=>q _ _ _ (R.store n hi hw) (fun j hj=>⟨abc (by omega),abc (by omega)⟩) h⟩
theorem pdgs_nil:PDgs X W m [] dgNil:=⟨_,tN,fun b F σ H ρ τ θ vs xs Qd Q hK n el R ⟨e,h⟩ q=>by
 subst e
 cases vs with
 | nil=>exact⟨rfl,q _ _ _ R (fun j hj=>⟨rfl,rfl⟩) h⟩
 | cons _ _=>simp at el⟩
theorem fc(hs:(assignEach (e::es) X.env).map (·.2)=assign e X.env::(assignEach es X.env).map (·.2):=by rfl):PDg X W m e dg->PDgs X W m es dgs->PDgs X W m (e::es) (lj dg dgs)
 | ⟨_,h1,s1⟩,⟨_,h2,s2⟩=>⟨_,pN h1 h2 hs,fun b F σ H ρ τ θ vs xs Qd Q hK n el R ⟨x,r,e,h⟩ q=>by
  subst e
  cases vs with
  | nil=>simp at el
  | cons v vs =>
   have nn:NoRf W (r.map OR.val++θ):=NoRf.app (fun r hr=>by obtain⟨x,_,rfl⟩:=aay.mp hr;exact .inl ⟨x,rfl⟩) n
   exact⟨v,vs,rfl,s1 b F σ H ρ (vs++τ) (r.map OR.val++θ) v x _ _ hK nn R h fun σ1 H1 ρ1 R1 k1 h1=>s2 b F σ1 H1 ρ1 τ θ vs r _ _ hK n (by simpa using el) R1 h1 fun σ2 H2 ρ2 R2 k2 h2 =>
    q _ _ _ R2 (fun j hj=>⟨(k2 j hj).1.trans (k1 j hj).1,(k2 j hj).2.trans (k1 j hj).2⟩) h2⟩⟩
theorem Wd.unpT{b:Bs}{H:Hp}{L:List (V × OD)}{v:V}{x:OD}{xs:List OD}(w:Wd b H ((v,x)::L))(e:unpT x=some xs):∃a vs,v=.ref a/\SqT b.K H a vs/\vs.length=xs.length/\Wd b H (vs.zip xs++L):=by
 cases x with
 | fz d =>
  cases d<;>simp only[L2.unpT]at e<;>cases e
  obtain⟨a,vs,rfl,el,hs,w2⟩:=w.tpItems aag (rfl:tupOf (.fz (.tuple _))=some _)
  exact⟨a,vs,rfl,hs,by simpa using el,Wd.drop (w2.perm aas)⟩
 | tup cs =>
  simp only[L2.unpT]at e
  cases e
  obtain⟨A0,h0,nd,new⟩:=w.out
  cases h0 with
  | cons r t =>
   cases r with
   | @tup a vs _ A h1 h2=>exact⟨a,vs,rfl,SqT.of h1,h2.len,⟨⟨_,OwL.join' (OwL.unzips h2) t,nd,new⟩,w.fr,w.s0,w.nt⟩⟩
 | _=>simp[L2.unpT]at e
theorem Wd.unpL{b:Bs}{H:Hp}{L:List (V × OD)}{v:V}{x:OD}{xs:List OD}(w:Wd b H ((v,x)::L))(e:unpL x=some xs):∃a vs,v=.ref a/\SqL b.K H a vs/\vs.length=xs.length/\Wd b H (vs.zip xs++L):=by
 have key:∀{ds:List PyData},listOf x=some ds->xs=ds.map OD.fz->∃a vs,v=.ref a/\SqL b.K H a vs/\vs.length=xs.length/\Wd b H (vs.zip xs++L):=fun {ds} h1 h2=>by
  subst h2
  obtain⟨a,vs,rfl,el,hs,w2⟩:=w.lsItems aag h1
  exact⟨a,vs,rfl,hs,by simpa using el,Wd.drop (w2.perm aas)⟩
 cases x with
 | fz d=>cases d<;>simp only[L2.unpL]at e<;>cases e;exact key rfl rfl
 | lst cs =>
  simp only[L2.unpL]at e
  cases e
  obtain⟨A0,h0,nd,new⟩:=w.out
  have nt:=w.nt' h0
  cases h0 with
  | @cons _ _ A _ _ B0 r t =>
   cases r with
   | @lst a vs _ B h1 h2 =>
    have sub:∀c,(c∈B++B0\/b.S0 c)->(c∈a::B++B0\/b.S0 c):=fun c z=>z.imp (fun z=>by simp at z ⊢;exact .inr z) id
    exact⟨a,vs,rfl,SqL.of h1,h2.len,⟨⟨_,Ows.step (Kp.refl _ _) (fun c z=>.inl (sub c z)) nt (fun _ _=>rfl) (OwL.join' (OwL.unzips h2) t),(aaH.mp nd).2,fun c hc=>new c (aai _ hc)⟩,w.fr,w.s0,w.nt⟩⟩
 | _=>simp[L2.unpL]at e
theorem jd{σ:St}:∀{vs:List V} {xs:List OD},vs.length=xs.length->Al σ vs (xs.map OR.val)
 | [],[],_=>trivial
 | _::vs,_::xs,e=>jd (vs:=vs) (xs:=xs) (by simpa using e)
 | [],_::_,e=>by simp at e
 | _::_,[],e=>by simp at e
theorem Rel.spread{b:Bs}{F:List Fr}{σ:St}{H:Hp}{ρ:DEnv}{τ vs:List V}{θ:List OR}{xs:List OD}(R:Rel b F σ H ρ τ θ)(el:vs.length=xs.length)(w:Wd b H (vs.zip xs++(stk τ θ++(flat σ ρ++ff F)))):Rel b F σ H ρ (vs++τ) (xs.map OR.val++θ) :=
 ⟨R.wf,(aZ (by simpa using el)).mpr ⟨jd el,R.al⟩,R.wff,by rw[aG (by simpa using el),cP el,aaf];exact w⟩
theorem mD{k:Nat}{n:Nat}(hc:X.calm=true)(hn:(assignEach es X.env).length=n:=by rfl)(hst:(assignEach es X.env).findIdx? (·.1)=none:=by rfl):PDgs X W m es dgs->PDg X W m (.Tuple es k pos) (A8 n dgs)
 | ⟨_,h,s⟩=>⟨_,xy hc h hn hst,fun b F σ H ρ τ θ v x Qd Q hK nr R ⟨xs,e,hl,h⟩ q=>by
  obtain⟨a,vs,rfl,hs,el,w⟩:=Wd.unpT R.wd e
  rw[hK]at hs
  exact⟨a,vs,rfl,hs,el.trans hl,s b F σ H ρ τ θ vs xs _ _ hK nr el (R.drop.spread el w) h q⟩⟩
theorem mE{k:Nat}{n:Nat}(hc:X.calm=true)(hn:(assignEach es X.env).length=n:=by rfl)(hst:(assignEach es X.env).findIdx? (·.1)=none:=by rfl):PDgs X W m es dgs->PDg X W m (.Tuple es k pos) (A9 n dgs)
 | ⟨_,h,s⟩=>⟨_,yf hc h hn hst,fun b F σ H ρ τ θ v x Qd Q hK nr R ⟨xs,e,hl,h⟩ q=>by
  obtain⟨a,vs,rfl,hs,el,w⟩:=Wd.unpL R.wd e
  rw[hK]at hs
  exact⟨a,vs,rfl,hs,el.trans hl,s b F σ H ρ τ θ vs xs _ _ hK nr el (R.drop.spread el w) h q⟩⟩
def DV(a:DE)(g:DG):DS:=fun D ρ=>a ρ fun r ρ1=>∃x ρ2,own1 ρ1 r=some (x,ρ2)/\g x ρ2 D.nx
theorem uG{tg:Expr}(hs:swapsWithSole [tg] e pos.line X.env=pure false:=by rfl)(hw:swappedStores [tg] e X.env=pure none:=by rfl)(h0:(assignEach [tg] X.env).map (·.2)=[assign tg X.env]:=by rfl):PDe X e da->PDg X W m tg dg->PDs X W (.Assign [tg] e pos) (DV da dg)
 | ⟨_,h1,s1⟩,⟨_,h2,s2⟩=>⟨_,pP h1 h2 hs hw h0,fun b F σ H ρ τ θ Dd D hK n R h E=>s1 b F σ H ρ τ θ _ _ hK R h fun v H1 r ρ1 R1 ⟨x,ρ2,e,h1⟩ =>
  s2 b F σ H1 ρ2 τ θ v x _ _ hK n (R1.own1 e) h1 fun σ' H' ρ' R' _ h'=>E.nx σ' H' ρ' R' h'⟩
abbrev DI:=DEnv->(List PyData->DEnv->Prop)->Prop
def j2(b:Bs)(J:It)(vs:List V)(rs:List OR)(ds:List PyData):Prop:=∀(F:List Fr) (σ:St) (H:Hp) (ρ:DEnv) (τ:List V) (θ:List OR),Rel b F σ H ρ (vs++τ) (rs++θ)->∀k,
 (k < ds.length->J.go k H/\∀x H2 d,J.yld k H x H2->ds[k]?=some d->Rel b F σ H2 ρ (x::(vs++τ)) (.val (.fz d)::(rs++θ)))/\(k=ds.length->J.stop k H)
def Ba(K:Waa)(wi:TI)(di:DI):Prop:=∀(b:Bs) (F:List Fr) (σ:St) (H:Hp) (ρ:DEnv) (τ:List V) (θ:List OR) (Qd:List PyData->DEnv->Prop) (Q:It->Hp->Prop),b.K=K->Rel b F σ H ρ τ θ->di ρ Qd ->
 (∀J H' ds ρ' vs rs,vs.length=rs.length->NoRf Ff rs->Rel b F σ H' ρ' (vs++τ) (rs++θ)->j2 b J vs rs ds->Qd ds ρ'->Q J H')->wi σ H Q
inductive PDi (X:Cx)(tg e:Expr)(di:DI):Prop | mk (te:TI) (h:PI X tg e te) (s:Ba X.K te di)
def bW(lo:Int)(n:Nat):List PyData:=(List.range n).map fun (i:Nat)=>PyData.int (lo + (i:Int))
theorem dW(lo:Int)(n:Nat):(bW lo n).length=n:=by simp[bW]
theorem qT{lo:Int}{n k:Nat}{d:PyData}(h:(bW lo n)[k]?=some d):k < n/\d=.int (lo + k):=by
 unfold bW at h
 rw[aav]at h
 obtain⟨j,h1,rfl⟩:=aaL.mp h
 obtain⟨h2,h3⟩:=aau.mp h1
 simp at h2 h3
 subst h3
 exact⟨h2,rfl⟩
theorem j3(b:Bs)(lo:Int)(n:Nat):j2 b (Ai lo n) [] [] (bW lo n):=fun F σ H ρ τ θ R k=>by
 rw[dW]
 refine⟨fun h=>⟨h,fun x H2 d ⟨e1,e2⟩ hd=>?_⟩,fun e=>by subst e;exact aac _⟩
 subst e1 e2
 rw[(qT hd).2]
 exact Rel.sc R (.int _)
def Bb(t:DA):DI:=fun ρ Q=>t ρ fun rs ρ1=>∃j,dF ρ1 rs=some [.int j]/\-(2 ^ 62)<=j/\j < 2 ^ 62/\Q (bW 0 j.toNat) ρ1
theorem ll {tg:Expr} (hg:Gl X "range") (hm:X.mg "range"=none) (hs:starEach [a] X.env=[(false,eval a X.env)]:=by rfl):PDa X [a] dt->PDi X tg (.Call (.Name "range" p) [a] [] pos) (Bb dt)
 | ⟨_,h,s⟩=>⟨_,nT hg hm h hs,fun b F σ H ρ τ θ Qd Q hK R h q=>s b F σ H ρ τ θ _ _ hK R h fun vs H1 rs ρ1 el R1 ⟨j,e,j0,j1,h1⟩=>by
  have hd:=R1.dtL el e
  cases hd with
  | cons r t=>cases t;cases r;exact⟨j,rfl,j0,j1,q _ H1 _ ρ1 [] [] rfl (fun r hr=>by cases hr) (R1.drops el) (j3 b 0 _) h1⟩⟩
def Bc(t:DA):DI:=fun ρ Q=>t ρ fun rs ρ1=>∃i j,dF ρ1 rs=some [.int i,.int j]/\(-(2 ^ 62)<=i/\i < 2 ^ 62/\-(2 ^ 62)<=j/\j < 2 ^ 62)/\Q (bW i (j - i).toNat) ρ1
theorem lq {tg:Expr} (hg:Gl X "range") (hm:X.mg "range"=none) (hs:starEach [a,b] X.env=[(false,eval a X.env),(false,eval b X.env)]:=by rfl) (hs2:starEach [b] X.env=[(false,eval b X.env)]:=by rfl):PDa X [a,b] dt->PDi X tg (.Call (.Name "range" p) [a,b] [] pos) (Bc dt)
 | ⟨_,h,s⟩=>⟨_,nU hg hm h hs hs2,fun b F σ H ρ τ θ Qd Q hK R h q=>s b F σ H ρ τ θ _ _ hK R h fun vs H1 rs ρ1 el R1 ⟨i,j,e,hb,h1⟩=>by
  have hd:=R1.dtL el e
  cases hd with
  | cons r t=>cases t with | cons r' t=>cases t;cases r;cases r';exact⟨i,j,rfl,hb,q _ H1 _ ρ1 [] [] rfl (fun r hr=>by cases hr) (R1.drops el) (j3 b i _) h1⟩⟩
theorem Rel.itemAt{b:Bs}{F:List Fr}{σ:St}{H:Hp}{ρ:DEnv}{τ:List V}{θ:List OR}{v:V}{x:OD}{ds:List PyData}{d:PyData}{k:Nat}(R:Rel b F σ H ρ τ θ)(m:(v,x)∈stk τ θ++(flat σ ρ++ff F))(e:seqOf x=some ds)(hd:ds[k]?=some d) :
  ∃a vs u,v=.ref a/\(SqL b.K H a vs\/SqT b.K H a vs)/\vs.length=ds.length/\vs[k]?=some u/\Rel b F σ H ρ (u::τ) (.val (.fz d)::θ):=by
 obtain⟨a,vs,rfl,el,hs,w⟩:=R.wd.sqItems m e
 have hk:k < vs.length:=by rw[el];exact (aau.mp hd).1
 refine⟨a,vs,vs[k],rfl,hs,el,aan hk,R.push (w.pick (cF (aan hk) ?_))⟩
 rw[aav,hd];rfl
theorem cR{v:V}{x:OD}{τ:List V}{θ:List OR}{L:List (V × OD)}:(v,x)∈stk ([v]++τ) ([OR.val x]++θ)++L:=by simp[stk]
theorem oF(b:Bs)(a:Addr)(ds:List PyData):j2 b (De b.K a) [.ref a] [.val (.fz (.list ds))] ds:=fun F σ H ρ τ θ R k=>by
 obtain⟨a',us,e,el,hs,_⟩:=R.wd.lsItems cR (rfl:listOf (.fz (.list ds))=some ds)
 cases e
 refine⟨fun h=>⟨⟨us,us[k]'(by omega),hs,aan _⟩,fun x H2 d ⟨e1,e2⟩ hd=>?_⟩,fun e=>⟨us,hs,by omega⟩⟩
 subst e1
 obtain⟨a'',vs,u,ea,hs2,_,hu,R2⟩:=R.itemAt cR (rfl:seqOf (.fz (.list ds))=some ds) hd
 cases ea
 obtain⟨_,us',e',el',hs',w'⟩:=R.wd.lsItems cR (rfl:listOf (.fz (.list ds))=some ds)
 cases e'
 have hk:k < us'.length:=by rw[el'];exact (aau.mp hd).1
 have hx:=e2 us' hs'
 refine Rel.push R (w'.pick (cF hx ?_))
 rw[aav,hd];rfl
theorem qU(b:Bs)(a:Addr)(ds:List PyData):j2 b (Dg b.K a) [.ref a] [.val (.fz (.tuple ds))] ds:=fun F σ H ρ τ θ R k=>by
 obtain⟨a',us,e,el,hs,w⟩:=R.wd.tpItems cR (rfl:tupOf (.fz (.tuple ds))=some ds)
 cases e
 refine⟨fun h=>⟨⟨us,us[k]'(by omega),hs,aan _⟩,fun x H2 d ⟨e1,e2⟩ hd=>?_⟩,fun e=>⟨us,hs,by omega⟩⟩
 subst e1
 refine Rel.push R (w.pick (cF (e2 us hs) ?_))
 rw[aav,hd];rfl
def DW(a:DE):DI:=fun ρ Q=>a ρ fun r ρ1=>∃ds ρ2,frz1 ρ1 r=some (.list ds,ρ2)/\Q ds ρ2
theorem qV{tg:Expr}:PDe X e da->PDi X tg e (DW da)
 | ⟨_,h,s⟩=>⟨_,tO h,fun b F σ H ρ τ θ Qd Q hK R h q=>s b F σ H ρ τ θ _ _ hK R h fun v H1 r ρ1 R1 ⟨ds,ρ2,e,h1⟩=>by
  have R2:=R1.frz1 e
  obtain⟨a,us,rfl,el,hs,_⟩:=R2.wd.lsItems (R2.mem rfl) (rfl:listOf (.fz (.list ds))=some ds)
  rw[hK]at hs
  exact⟨a,rfl,⟨us,hs⟩,hK ▸ q _ H1 ds ρ2 [.ref a] [.val (.fz (.list ds))] rfl (fun r hr=>.inl ⟨_,aaB.mp hr⟩) R2 (oF b a ds) h1⟩⟩
def DX(a:DE):DI:=fun ρ Q=>a ρ fun r ρ1=>∃ds ρ2,frz1 ρ1 r=some (.tuple ds,ρ2)/\Q ds ρ2
theorem uH{tg:Expr}:PDe X e da->PDi X tg e (DX da)
 | ⟨_,h,s⟩=>⟨_,xG h,fun b F σ H ρ τ θ Qd Q hK R h q=>s b F σ H ρ τ θ _ _ hK R h fun v H1 r ρ1 R1 ⟨ds,ρ2,e,h1⟩=>by
  have R2:=R1.frz1 e
  obtain⟨a,us,rfl,el,hs,_⟩:=R2.wd.tpItems (R2.mem rfl) (rfl:tupOf (.fz (.tuple ds))=some ds)
  rw[hK]at hs
  exact⟨a,rfl,⟨us,hs⟩,hK ▸ q _ H1 ds ρ2 [.ref a] [.val (.fz (.tuple ds))] rfl (fun r hr=>.inl ⟨_,aaB.mp hr⟩) R2 (qU b a ds) h1⟩⟩
end
end
section
section
variable{X:Cx}{K:Waa}{a b c e:Expr}{es:List Expr}{sts:List Stmt}{st:Stmt}{da db dc:DE}{dt:DA}{d1 d2:DS}{dT:DT}{pos p:Pos}{x:Str}
def bB(ds:List PyData):List PyData:=(List.range ds.length).map fun (i:Nat)=>PyData.tuple [.int (i:Int),ds.getD i .none]
theorem bI(ds:List PyData):(bB ds).length=ds.length:=by simp[bB]
theorem iw{k:Nat}(h:(bB ds)[k]?=some d):∃e,ds[k]?=some e/\d=.tuple [.int k,e]:=by
 unfold bB at h
 rw[aav]at h
 obtain⟨j,h1,rfl⟩:=aaL.mp h
 obtain⟨h2,h3⟩:=aau.mp h1
 simp at h2 h3
 subst h3
 exact⟨ds[k],aan h2,by rw[ab4,aan h2];rfl⟩
theorem Rel.newTup2{b:Bs}{d e:PyData}{p:Addr}(R:Rel b F σ H ρ τ θ)(w:Wd b H (Z++(stk τ θ++(flat σ ρ++ff F))))(m1:(v,OD.fz d)∈Z)(m2:(u,OD.fz e)∈Z)(hp:H p=none) :
  Rel b F σ (upd H p (.tup [v,u])) ρ (.ref p::τ) (.val (.fz (.tuple [d,e]))::θ):=R.newTup w rfl (fun z hz=>by
   simp at hz
   rcases hz with rfl | rfl
   ·exact aae _ m1
   ·exact aae _ m2) hp
theorem oG(b:Bs)(a:Addr)(ds:List PyData):j2 b (Dx b.K a) [.ref a] [.val (.fz (.list ds))] (bB ds):=fun F σ H ρ τ θ R k=>by
 obtain⟨a',us,e,el,hs,w⟩:=R.wd.lsItems cR (rfl:listOf (.fz (.list ds))=some ds)
 cases e
 rw[bI]
 refine⟨fun h=>⟨⟨us,us[k]'(by omega),hs,aan _⟩,fun x H2 d ⟨T,y,e1,hT,e2,e3⟩ hd=>?_⟩,fun e=>⟨us,hs,by omega⟩⟩
 subst e2 e3
 obtain⟨d',hd',rfl⟩:=iw hd
 refine Rel.newTup2 (Z:=(V.int k,OD.fz (.int k))::us.zip (ds.map OD.fz)) R (w.sc (.int _)) aag (aai _ (cF (e1 us hs) ?_)) hT
 rw[aav,hd'];rfl
def Bd(t:DA):DI:=fun ρ Q=>t ρ fun rs ρ1=>∃ds ρ2,frzL ρ1 rs=some ([.list ds],ρ2)/\Q (bB ds) ρ2
theorem qW {x1} {tpos:Pos} (hg:Gl X "enumerate") (hm:X.mg "enumerate"=none) (hs:starEach [a] X.env=[(false,eval a X.env)]:=by rfl):PDa X [a] dt->PDi X (.Tuple es x1 tpos) (.Call (.Name "enumerate" p) [a] [] pos) (Bd dt)
 | ⟨_,h,s⟩=>⟨_,uh hg hm h hs,fun b F σ H ρ τ θ Qd Q hK R h q=>s b F σ H ρ τ θ _ _ hK R h fun vs H1 rs ρ1 el R1 ⟨ds,ρ2,e,h1⟩=>by
  obtain⟨R2,e2⟩:=jb R1 el e
  match vs,e2 with
  | [v],_ =>
   have R3:Rel b F σ H1 ρ2 (v::τ) (.val (.fz (.list ds))::θ):=R2
   obtain⟨a,us,rfl,el,hs,_⟩:=R3.wd.lsItems (R3.mem rfl) (rfl:listOf (.fz (.list ds))=some ds)
   rw[hK]at hs
   exact⟨a,us,rfl,hs,hK ▸ q _ H1 _ ρ2 [.ref a] [.val (.fz (.list ds))] rfl (fun r hr=>.inl ⟨_,aaB.mp hr⟩) R3 (oG b a ds) h1⟩⟩
def b9(ds es:List PyData):List PyData:=List.zipWith (fun d e=>PyData.tuple [d,e]) ds es
theorem qX{ds es:List PyData}{k:Nat}(h:(b9 ds es)[k]?=some d):∃x y,ds[k]?=some x/\es[k]?=some y/\d=.tuple [x,y]:=by
 unfold b9 at h
 rw[List.getElem?_zipWith]at h
 cases h1:ds[k]? with
 | none=>rw[h1]at h;simp at h
 | some x =>
  cases h2:es[k]? with
  | none=>rw[h1,h2]at h;simp at h
  | some y=>rw[h1,h2]at h;exact⟨x,y,rfl,rfl,(aaG h).symm⟩
def Be:PyData->Option (Bool × List PyData)
 | .list ds=>some (true,ds)
 | .tuple ds=>some (false,ds)
 | _=>none
def lr(l:Bool)(a:Addr)(xs:List V):ZS:=if l then .lst a xs else .tup a xs
theorem dn{a:Addr}(h:if l then SqL K H a xs else SqT K H a xs):(lr l a xs).ok K H:=by cases l<;>exact h
theorem j4(l:Bool)(a:Addr)(xs:List V):(lr l a xs).val=.ref a:=by cases l<;>rfl
theorem bX(l:Bool)(a:Addr)(xs:List V):(lr l a xs).items=xs:=by cases l<;>rfl
theorem qY(h:Be d=some (l,ds)):d=if l then .list ds else .tuple ds:=by
 cases d<;>simp only[Be]at h<;>cases h<;>rfl
theorem qZ(b:Bs)(a c:Addr)(l k':Bool)(xs ys:List V)(ds es:List PyData):j2 b (Du b.K (lr l a xs) (lr k' c ys)) [.ref a,.ref c] [.val (.pin l xs ds),.val (.pin k' ys es)] (b9 ds es):=fun F σ H ρ τ θ R k=>by
 obtain⟨a',e,el,hs,w⟩:=R.wd.pinned (v:=.ref a) (l:=l) (xs:=xs) (ds:=ds) (by simp[stk])
 cases e
 obtain⟨c',e,el',hs',w'⟩:=w.pinned (v:=.ref c) (l:=k') (xs:=ys) (ds:=es) (by simp[stk])
 cases e
 have ez:(b9 ds es).length=min ds.length es.length:=by simp[b9]
 rw[ez]
 refine⟨fun h=>⟨⟨dn hs,dn hs',by rw[bX];omega,by rw[bX];omega⟩,fun x H2 d ⟨T,y,z,e1,e2,hT,e3,e4⟩ hd=>?_⟩,fun e=>⟨dn hs,dn hs',by rw[bX,bX];omega⟩⟩
 subst e3 e4
 rw[bX]at e1 e2
 obtain⟨d1,d2,h1,h2,rfl⟩:=qX hd
 rw[<- aaf]at w'
 refine Rel.newTup2 R w' (aad _ (cF e1 ?_)) (aae _ (cF e2 ?_)) hT
 ·rw[aav,h1];rfl
 ·rw[aav,h2];rfl
def DY(t:DA):DI:=fun ρ Q=>t ρ fun rs ρ1=>∃x y l k ds es ρ2,frzL ρ1 rs=some ([x,y],ρ2)/\Be x=some (l,ds)/\Be y=some (k,es)/\Q (b9 ds es) ρ2
theorem uI {x1} {tpos:Pos} (hg:Gl X "zip") (hm:X.mg "zip"=none) (hs:starEach [a,b] X.env=[(false,eval a X.env),(false,eval b X.env)]:=by rfl) (hs2:starEach [b] X.env=[(false,eval b X.env)]:=by rfl):PDa X [a,b] dt->PDi X (.Tuple es x1 tpos) (.Call (.Name "zip" p) [a,b] [] pos) (DY dt)
 | ⟨_,h,s⟩=>⟨_,xY hg hm h hs hs2,fun b F σ H ρ τ θ Qd Q hK R h q=>s b F σ H ρ τ θ _ _ hK R h fun vs H1 rs ρ1 el R1 ⟨x,y,l,k,ds,es,ρ2,e,ex,ey,h1⟩=>by
  obtain⟨R2,e2⟩:=jb R1 el e
  obtain⟨v,u,rfl⟩:=len2 e2
  have w:Wd b H1 ((v,.fz x)::(u,.fz y)::(stk τ θ++(flat σ ρ2++ff F))):=R2.wd
  have R3:Rel b F σ H1 ρ2 τ θ:=Rel.drops R2 rfl
  obtain⟨xs,w1⟩:=w.pin (qY ex)
  obtain⟨ys,w2⟩:=(w1.perm (List.Perm.swap _ _ _)).pin (qY ey)
  have w3:=w2.perm (List.Perm.swap _ _ _)
  obtain⟨a,rfl,_,hs,_⟩:=w3.pinned (v:=v) (l:=l) (xs:=xs) (ds:=ds) (by simp)
  obtain⟨c,rfl,_,hs',_⟩:=w3.pinned (v:=u) (l:=k) (xs:=ys) (ds:=es) (by simp)
  rw[hK]at hs hs'
  refine⟨lr l a xs,lr k c ys,by rw[j4,j4],dn hs,dn hs',hK ▸ q _ H1 _ ρ2 [.ref a,.ref c] [.val (.pin l xs ds),.val (.pin k ys es)] rfl (fun r hr=>by simp at hr;rcases hr with rfl | rfl<;>exact .inl ⟨_,rfl⟩) ?_ (qZ b a c l k xs ys ds es) h1⟩
  exact⟨R3.wf,R3.al,R3.wff,w3⟩⟩
end
end
section
def cy:DEnv->List Nat->Option (DEnv × DEnv)
 | ρ,[]=>some ([],ρ)
 | ρ,j::js=>match ρ[j]?.join with
  | some (.fz d)=>match cy ρ js with | some z=>some (some (.fz d)::z.1,z.2) | none=>none
  | some x=>match cy (ρ.set j none) js with | some z=>some (some x::z.1,z.2) | none=>none
  | none=>none
def dX:DEnv->List Nat->DEnv->DEnv
 | ρ,j::js,some x::os=>dX (ρ.set j (some x)) js os
 | ρ,_::js,none::os=>dX ρ js os
 | ρ,_,_=>ρ
def capV(σ:St)(js:List Nat):St:=js.map fun j=>(σ[j]?).join
section
variable{b:Bs}{F:List Fr}{σ σ':St}{H H':Hp}{τ vs:List V}{θ rs:List OR}{v u:V}{x y:OD}{d:PyData}{ds:List PyData}{i:Nat}{L:List (V × OD)}
theorem uJ{o:Option (Option V)}(h:o=some (some v)):o.join=some v:=by rw[h];rfl
theorem mF:∀{js:List Nat} {ρ inner ρ2:DEnv} {L1 L2:List (V × OD)},Wd b H (L1++(flat σ ρ++L2))->Wf σ ρ->cy ρ js=some (inner,ρ2)->Wd b H (flat (capV σ js) inner++(L1++(flat σ ρ2++L2)))/\Wf σ ρ2/\Wf (capV σ js) inner
 | [],ρ,inner,ρ2,L1,L2,w,wf,e=>by simp only[cy]at e;cases e;exact⟨w,wf,trivial⟩
 | j::js,ρ,inner,ρ2,L1,L2,w,wf,e=>by
  cases h:ρ[j]?.join with
  | none=>simp[cy,h]at e
  | some x =>
   have ex:=join_some h
   obtain⟨v,ev⟩:=wf.get ex
   have w1:Wd b H ((v,x)::(L1++(flat σ (ρ.set j none)++L2))):=w.perm ((((bw ex ev).append_right _).append_left _).trans aas)
   have fin:∀{y:OD} {ρ1:DEnv} {z:DEnv × DEnv},Wd b H ((v,y)::(L1++(flat σ ρ1++L2)))->Wf σ ρ1->cy ρ1 js=some z->(some y::z.1,z.2)=(inner,ρ2)->Wd b H (flat (capV σ (j::js)) inner++(L1++(flat σ ρ2++L2)))/\Wf σ ρ2/\Wf (capV σ (j::js)) inner:=fun {y ρ1 z} w2 wf1 ez e2=>by
    cases e2
    obtain⟨w3,wf2,wf3⟩:=mF (L1:=(v,y)::L1) (L2:=L2) (js:=js) w2 wf1 (show cy ρ1 js=some (z.1,z.2) from ez)
    have ec:capV σ (j::js)=some v::capV σ js:=by unfold capV;rw[aaj,uJ ev]
    rw[ec]
    exact⟨w3.perm aas,wf2,wf3⟩
   have mv:∀{z:DEnv × DEnv},cy (ρ.set j none) js=some z->(some x::z.1,z.2)=(inner,ρ2)->Wd b H (flat (capV σ (j::js)) inner++(L1++(flat σ ρ2++L2)))/\Wf σ ρ2/\Wf (capV σ (j::js)) inner:=fun {z} ez e2=>fin w1 wf.off ez e2
   have inv:∀{ρ1:DEnv} {y:OD},(match cy ρ1 js with | some z=>some (some y::z.1,z.2) | none=>none)=some (inner,ρ2)->∃z,cy ρ1 js=some z/\(some y::z.1,z.2)=(inner,ρ2):=fun {ρ1 y} q=>by
    cases hz:cy ρ1 js with
    | none=>rw[hz]at q;cases q
    | some z=>rw[hz]at q;exact⟨z,rfl,aaG q⟩
   cases x with
   | fz d =>
    simp only[cy,h]at e
    obtain⟨z,ez,e2⟩:=inv e
    have w2:=w1.dup
    have hj:j < ρ.length:=(aau.mp ex).1
    have es:σ.set j (some v)=σ:=set_self ev
    have pp:=cv (v:=v) (x:=.fz d) hj wf.len
    rw[es,set_self ex]at pp
    exact fin (w2.perm (List.Perm.cons _ (aas.symm.trans ((pp.symm.append_right _).append_left _)))) wf ez e2
   | _ =>
    simp only[cy,h]at e
    obtain⟨z,ez,e2⟩:=inv e
    exact mv ez e2
theorem je:∀{js:List Nat} {ρ os:DEnv} {L1 L2:List (V × OD)},Wd b H (L1++(flat (capV σ js) os++(flat σ ρ++L2)))->Wf σ ρ->Wf (capV σ js) os->Wd b H (L1++(flat σ (dX ρ js os)++L2))/\Wf σ (dX ρ js os)
 | [],ρ,os,L1,L2,w,wf,wf2=>by
  cases os with
  | nil=>exact⟨w,wf⟩
  | cons _ _=>simp[capV,Wf]at wf2
 | j::js,ρ,[],L1,L2,w,wf,wf2=>by simp[capV,Wf]at wf2
 | j::js,ρ,o::os,L1,L2,w,wf,wf2=>by
  have ec:capV σ (j::js)=(σ[j]?).join::capV σ js:=rfl
  rw[ec]at w wf2
  cases o with
  | none =>
   rw[br]at w
   exact je (js:=js) w wf (by cases h:(σ[j]?).join<;>(rw[h]at wf2;exact wf2))
  | some x =>
   cases h:(σ[j]?).join with
   | none=>rw[h]at wf2;simp[Wf]at wf2
   | some v =>
    rw[h]at w wf2
    have w1:Wd b H ((v,x)::(L1++(flat (capV σ js) os++(flat σ ρ++L2)))):=w.perm (aas (l₁:=L1) (l₂:=flat (capV σ js) os++(flat σ ρ++L2)))
    ·have ev:=join_some h
     have hj:j < ρ.length:=by rw[<- wf.len];exact (aau.mp ev).1
     have es:σ.set j (some v)=σ:=set_self ev
     have pp:=cv (v:=v) (x:=x) hj wf.len
     rw[es]at pp
     have wf3:Wf σ (ρ.set j (some x)):=by have:=wf.put (i:=j) (v:=v) (x:=x);rw[es]at this;exact this
     refine je (js:=js) (ρ:=ρ.set j (some x)) ?_ wf3 wf2
     have w2:Wd b H (((v,x)::L1++flat (capV σ js) os)++(flat σ (ρ.set j none)++L2)):=Wd.offSlot (by simpa using w1) wf j
     refine w2.perm ?_
     rw[<- aaf L1]
     refine List.Perm.trans ?_ ((pp.symm.append_right _).append_left _)
     simp only[aaN]
     exact aas.symm
theorem Wf.drop:∀{n:Nat} {σ:St} {ρ:DEnv},Wf σ ρ->Wf (σ.drop n) (ρ.drop n)
 | 0,_,_,h=>h
 | _ + 1,[],[],_=>trivial
 | _ + 1,[],_::_,h=>by simp[Wf]at h
 | _ + 1,_::_,[],h=>by simp[Wf]at h
 | n + 1,o::σ,none::ρ,h=>Wf.drop (n:=n) (σ:=σ) (ρ:=ρ) h
 | n + 1,some _::σ,some _::ρ,h=>Wf.drop (n:=n) (σ:=σ) (ρ:=ρ) h
 | _ + 1,none::_,some _::_,h=>by simp[Wf]at h
theorem fe:∀{n:Nat} {σ:St} {ρ:DEnv},Wf σ ρ->∃L,flat σ ρ=L++flat (σ.drop n) (ρ.drop n)
 | 0,σ,ρ,_=>⟨[],rfl⟩
 | _ + 1,[],[],_=>⟨[],rfl⟩
 | _ + 1,[],_::_,h=>by simp[Wf]at h
 | _ + 1,_::_,[],h=>by simp[Wf]at h
 | n + 1,o::σ,none::ρ,h=>by
  obtain⟨L,e⟩:=fe (n:=n) (σ:=σ) (ρ:=ρ) h
  exact⟨L,by rw[br];exact e⟩
 | n + 1,some v::σ,some x::ρ,h=>by
  obtain⟨L,e⟩:=fe (n:=n) (σ:=σ) (ρ:=ρ) h
  exact⟨(v,x)::L,by simp only[flat,aaN,List.drop_succ_cons];rw[e]⟩
 | _ + 1,none::_,some _::_,h=>by simp[Wf]at h
theorem rg{n:Nat}{σ:St}{ρ:DEnv}:flat (List.replicate n none++σ) (List.replicate n none++ρ)=flat σ ρ:=by
 induction n with
 | zero=>rfl
 | succ n ih=>rw[abo,abo,aaN,aaN,br,ih]
theorem yG{n:Nat}{σ:St}{ρ:DEnv}(h:Wf σ ρ):Wf (List.replicate n none++σ) (List.replicate n none++ρ):=by
 induction n with
 | zero=>exact h
 | succ n ih=>rw[abo,abo];exact ih
theorem Rel.grow{ρ:DEnv}{D:Addr}{out:List PyData}(R:Rel b F σ H ρ (v::(vs++[.ref D])) (.val (.fz d)::(rs++[.val (.lst (out.map OD.fz))])))(el:vs.length=rs.length) :
  ∃ys,H D=some (.lst ys)/\ys.length=out.length/\Rel b F σ (upd H D (.lst (ys++[v]))) ρ (vs++[.ref D]) (rs++[.val (.lst ((out++[d]).map OD.fz))]):=by
 have R1:=R.drop
 have e1:stk (vs++[.ref D]) (rs++[.val (.lst (out.map OD.fz))])=stk vs rs++[(.ref D,.lst (out.map OD.fz))]:=by rw[aG el];rfl
 have w:Wd b H ((v,.fz d)::((stk vs rs++[(.ref D,.lst (out.map OD.fz))])++(flat σ ρ++ff F))):=by
  have:=R.wd
  simp only[stk]at this
  rw[e1]at this
  exact this
 have w2:Wd b H ([v].zip [OD.fz d]++((.ref D,.lst (out.map OD.fz))::(stk vs rs++(flat σ ρ++ff F)))):=w.perm (by
  refine List.Perm.cons _ ?_
  rw[aaf]
  exact aas)
 obtain⟨a,ys,ch,hD,hl,go⟩:=w2.mutL (ks:=[]) (xs:=out.map OD.fz) rfl rfl
 cases ch
 refine⟨ys,hD,by simpa using hl,R1.wf,?_,R1.wff,?_⟩
 ·obtain⟨a1,_⟩:=(aZ el).mp R1.al
  exact (aZ el).mpr ⟨a1,trivial⟩
 ·have w3:=go (ys++[v]) ((out++[d]).map OD.fz) fun S H A C nt h1 h2 nd=>⟨A++C,by rw[aaw];exact Ows.append h1 h2,nd,fun c hc=>aal.mp hc⟩
  have e2:stk (vs++[.ref D]) (rs++[.val (.lst ((out++[d]).map OD.fz))])=stk vs rs++[(.ref D,.lst ((out++[d]).map OD.fz))]:=by rw[aG el];rfl
  rw[e2]
  refine w3.perm ?_
  rw[aaf]
  exact aas.symm
end
theorem yH{α:Type}(A B C T F:List α):(A++(B++(C++(T++F)))).Perm (B++(A++((T++C)++F))):=by
 refine (ab5 A B _).trans (aba _ (aba _ ?_))
 rw[<- aaf]
 exact aa3.append_right _
abbrev DC:=DEnv->(List PyData->DEnv->Prop)->Prop
def oH(K:Waa)(tc:TC)(dc:DC):Prop:=∀(b:Bs) (F:List Fr) (σ:St) (H:Hp) (ρ:DEnv) (vs:List V) (rs:List OR) (D:Addr) (out:List PyData) (Qd:List PyData->DEnv->Prop) (Q:Hp->Prop),b.K=K->vs.length=rs.length->out.length < 1000000->Rel b F σ H ρ (vs++[.ref D]) (rs++[.val (.lst (out.map OD.fz))])->dc ρ Qd ->
 (∀H' ρ' o,Rel b F σ H' ρ' (vs++[.ref D]) (rs++[.val (.lst ((out++o).map OD.fz))])->o.length<=1->Qd o ρ'->Q H')->tc D σ H Q
inductive PDc (Y:Cx)(ifs:List Expr)(elt:Expr)(dc:DC):Prop | mk (tc:TC) (h:∀D,jQ Y D ifs elt tc) (s:oH Y.K tc dc)
section
variable{X Y:Cx}{K:Waa}{a b c e elt iter tg:Expr}{es ifs:List Expr}{da db:DE}{dT:DT}{pos p:Pos}{x:Str}
def rh(a:DE):DC:=fun ρ Q=>a ρ fun r ρ1=>∃d ρ2,frz1 ρ1 r=some (d,ρ2)/\Q [d] ρ2
theorem j5{ta:TE}(s:bZ K ta da):oH K (l9 ta) (rh da):=fun b F σ H ρ vs rs D out Qd Q hK el hz R h q=>s b F σ H ρ _ _ _ _ hK R h fun v H1 r ρ1 R1 ⟨d,ρ2,e,h1⟩=>by
 obtain⟨ys,hD,hl,R3⟩:=(R1.frz1 e).grow el
 exact⟨ys,hD,aax (by omega) (by decide:1000001<=sizeLine),q _ _ _ R3 (aac _) h1⟩
theorem oI:PDe Y elt da->PDc Y [] elt (rh da)
 | ⟨_,h,s⟩=>⟨_,fun D=>oh h,j5 s⟩
def uK(t:DT)(a:DE):DC:=fun ρ Q=>t ρ fun k ρ1=>if k=true then rh a ρ1 Q else Q [] ρ1
theorem rj:PDt Y c dT->PDe Y elt da->PDc Y [c] elt (uK dT da)
 | ⟨_,h1,s1⟩,⟨_,h2,s2⟩=>⟨_,fun D=>qh h1 h2,fun b F σ H ρ vs rs D out Qd Q hK el hz R h q=>s1 b F σ H ρ _ _ _ _ hK R h fun k H1 ρ1 R1 h1=>by
  cases k with
  | true=>rw[if_pos rfl]at h1 ⊢;exact j5 s2 b F σ H1 ρ1 vs rs D out _ _ hK el hz R1 h1 q
  | false=>rw[if_neg aah]at h1 ⊢;exact q H1 ρ1 [] (by rw[aar];exact R1) (aaE _) h1⟩
def mG(di:DI)(nt:Nat)(fr:List Nat)(g:DG)(act:DC):DE:=fun ρ Q=>di ρ fun ds ρ1=>ds.length < 1000000/\∃inner ρ2,cy ρ1 fr=some (inner,ρ2)/\∃Iv:Nat->List PyData->DEnv->Prop,Iv 0 [] (List.replicate nt none++inner) /\
 (∀k d out ρ,ds[k]?=some d->Iv k out ρ->g (.fz d) ρ fun ρ'=>act ρ' fun o ρ''=>Iv (k + 1) (out++o) ρ'')/\∀out ρ,Iv ds.length out ρ->Q (.val (.lst (out.map OD.fz))) (dX ρ2 fr (ρ.drop nt))
theorem yI{α:Type}(x:α)(S L P T C F:List α):(x::(S++((L++P)++((T++C)++F)))).Perm (L++((x::(S++T))++(P++(C++F)))):=by
 have e:x::(S++((L++P)++((T++C)++F)))=x::(S++(L++(P++(T++(C++F))))):=by simp only[aaf]
 rw[e]
 refine List.Perm.trans ?_ aas.symm
 refine List.Perm.cons _ ((ab5 S L _).trans (aba _ ?_))
 show (S++(P++(T++(C++F)))).Perm ((S++T)++(P++(C++F)))
 rw[aaf]
 exact aba _ (ab5 P T _)
def Bf{α:Type}(acc:α->OD)(ln:α->Nat)(K:Waa)(tc:TC)(da:α->DEnv->(α->DEnv->Prop)->Prop):Prop:=∀(b:Bs) (F:List Fr) (σ:St) (H:Hp) (ρ:DEnv) (vs:List V) (rs:List OR) (D:Addr) (out:α) (Qd:α->DEnv->Prop) (Q:Hp->Prop),b.K=K->vs.length=rs.length->ln out < 1000000->Rel b F σ H ρ (vs++[.ref D]) (rs++[.val (acc out)])->da out ρ Qd ->
 (∀H' ρ' o,Rel b F σ H' ρ' (vs++[.ref D]) (rs++[.val (acc o)])->ln o<=ln out + 1->Qd o ρ'->Q H')->tc D σ H Q
def tCG(o0:HO)(J:It)(nt:Nat)(fr:List Nat)(g:CC->TG)(tc:CC->TC)(σ:St)(H1:Hp)(Q:VK):Prop:=∀(c:CC) D,H1 D=none->∃W:Nat->Nat->St->Hp->Prop,(∃m,W 0 m (bz nt fr σ) (upd H1 D o0)) /\
 ∀i m σ' H',W i m σ' H'->(J.stop i H'/\Q (.ref D) H')\/(J.go i H'/\∀x H2,J.yld i H' x H2->g c x σ' H2 fun σ3 H3=>tc c D σ3 H3 fun H4=>∃m',m' < m/\W (i + 1) m' σ3 H4)
theorem j6{α:Type}{acc:α->OD}{ln:α->Nat}{a0:α}{o0:HO}{nt:Nat}{fr:List Nat}{g:CC->TG}{tc:CC->TC}{dg:DG}{da:α->DEnv->(α->DEnv->Prop)->Prop}(new:∀{b:Bs} {H:Hp} {L:List (V × OD)} {D:Addr},Wd b H L->H D=none->Wd b (upd H D o0) ((.ref D,acc a0)::L))(l0:ln a0=0)(s2:∀c,oD K Ff nt (g c) dg)(s3:∀c,Bf acc ln K (tc c) da){b:Bs}{F:List Fr}{σ:St}{H1:Hp}{ρ1 ρ2 inner:DEnv}{τ vs:List V}{θ rs:List OR}{J:It}{ds:List PyData}{Iv:Nat->α->DEnv->Prop}{Q:VK}(hK:b.K=K)(el:vs.length=rs.length)(nr:NoRf Ff rs)
  (R1:Rel b F σ H1 ρ1 (vs++τ) (rs++θ)) (it:j2 b J vs rs ds) (hds:ds.length < 1000000) (hc:cy ρ1 fr=some (inner,ρ2)) (i0:Iv 0 a0 (List.replicate nt none++inner)) (step:∀k d out ρ,ds[k]?=some d->Iv k out ρ->dg (.fz d) ρ fun ρ'=>da out ρ' fun o ρ''=>Iv (k + 1) o ρ'')
  (q:∀H' D out ρ',Rel b F σ H' (dX ρ2 fr (ρ'.drop nt)) (.ref D::(vs++τ)) (.val (acc out)::(rs++θ))->Iv ds.length out ρ'->Q (.ref D) H'):tCG o0 J nt fr g tc σ H1 Q:=by
 intro cc D hD
 have w1:Wd b H1 (stk vs rs++(flat σ ρ1++(stk τ θ++ff F))):=R1.wd.perm (by
  rw[aG el,aaf]
  refine aba _ ?_
  rw[<- aaf,<- aaf]
  exact aa3.append_right _)
 obtain⟨w2,wf2,wf3⟩:=mF w1 R1.wf hc
 have al:=(aZ el).mp R1.al
 have w3:=new w2 hD
 have R2:Rel b (⟨σ,ρ2,τ,θ⟩::F) (bz nt fr σ) (upd H1 D o0) (List.replicate nt none++inner) (vs++[.ref D]) (rs++[.val (acc a0)]):=by
  refine⟨yG wf3,(aZ el).mpr ⟨nr.al0 al.1,trivial⟩,fun f hf=>?_,?_⟩
  ·rcases aab.mp hf with rfl | hf
   ·exact⟨wf2,al.2⟩
   ·exact R1.wff f hf
  ·have ec:flat (bz nt fr σ) (List.replicate nt none++inner)=flat (capV σ fr) inner:=rg
   rw[ec,aG el]
   refine w3.perm ?_
   have ef:ff (⟨σ,ρ2,τ,θ⟩::F)=(stk τ θ++flat σ ρ2)++ff F:=rfl
   rw[ef]
   have e0:stk [V.ref D] [OR.val (acc a0)]=[(V.ref D,acc a0)]:=rfl
   rw[e0]
   refine List.Perm.trans (List.Perm.cons _ (yH (flat (capV σ fr) inner) (stk vs rs) (flat σ ρ2) (stk τ θ) (ff F))) ?_
   rw[aaf (stk vs rs)]
   exact aas.symm
 refine⟨fun i m σ' H'=>m=ds.length - i/\i<=ds.length/\(∀j,nt<=j->σ'[j]?=(bz nt fr σ)[j]?)/\∃out ρ',ln out<=i/\Rel b (⟨σ,ρ2,τ,θ⟩::F) σ' H' ρ' (vs++[.ref D]) (rs++[.val (acc out)])/\Iv i out ρ',⟨_,rfl,aaE _,fun _ _=>rfl,a0,_,Nat.le_of_eq l0,R2,i0⟩,?_⟩
 rintro i m σ' H' ⟨rfl,hi,hσ,out,ρ',ho,R',iv⟩
 obtain⟨go,stop⟩:=it _ σ' H' ρ' [.ref D] [.val (acc out)] R' i
 by_cases hlt:i < ds.length
 ·obtain⟨g1,g2⟩:=go hlt
  refine .inr ⟨g1,fun x H2 hy=>?_⟩
  have ed:ds[i]?=some ds[i]:=aan hlt
  have nn:NoRf Ff (rs++[.val (acc out)]):=NoRf.app nr fun r hr=>.inl ⟨_,aaB.mp hr⟩
  refine s2 cc b _ σ' H2 ρ' _ _ x _ _ _ hK nn (g2 x H2 _ hy ed) (step i _ out ρ' ed iv) fun σ3 H3 ρ3 R3 k3 h3=>?_
  exact s3 cc b _ σ3 H3 ρ3 vs rs D out _ _ hK el (by omega) R3 h3 fun H4 ρ4 o R4 lo h4=>⟨_,by omega,rfl,hlt,fun j hj=>(k3 j hj).1.trans (hσ j hj),o,ρ4,by omega,R4,h4⟩
 ·have e:i=ds.length:=by omega
  subst e
  refine .inl ⟨stop rfl,q H' D out ρ' ?_ iv⟩
  have ed:σ'.drop nt=capV σ fr:=by
   apply ab6
   intro j
   rw[List.getElem?_drop,hσ _ (by omega)]
   unfold bz capV
   rw[abA (by simp),abB,acn]
  have w4:Wd b H' ((.ref D,acc out)::(stk vs rs++(flat σ' ρ'++((stk τ θ++flat σ ρ2)++ff F)))):=R'.wd.perm (by
   rw[aG el]
   have e0:stk [V.ref D] [OR.val (acc out)]=[(V.ref D,acc out)]:=rfl
   rw[e0,aaf]
   exact aas)
  obtain⟨L0,eL⟩:=fe (n:=nt) R'.wf
  rw[eL,ed]at w4
  have w5:Wd b H' (((.ref D,acc out)::stk (vs++τ) (rs++θ))++(flat (capV σ fr) (ρ'.drop nt)++(flat σ ρ2++ff F))):=by
   refine Wd.drops (L1:=L0) (w4.perm ?_)
   rw[aG el]
   exact yI (.ref D,acc out) (stk vs rs) L0 (flat (capV σ fr) (ρ'.drop nt)) (stk τ θ) (flat σ ρ2) (ff F)
  have wfd:Wf (capV σ fr) (ρ'.drop nt):=ed ▸ R'.wf.drop
  obtain⟨w6,wf6⟩:=je w5 wf2 wfd
  exact⟨wf6,R1.al,R1.wff,w6⟩
theorem oJ{nt:Nat}{fr:List Nat}{g:CC->TG}{tc:CC->TC}{dg:DG}{dc:DC}(s2:∀c,oD K Ff nt (g c) dg)(s3:∀c,oH K (tc c) dc){b:Bs}{F:List Fr}{σ:St}{H1:Hp}{ρ1 ρ2 inner:DEnv}{τ vs:List V}{θ rs:List OR}{J:It}{ds:List PyData}{Iv:Nat->List PyData->DEnv->Prop}{Q:VK}(hK:b.K=K)(el:vs.length=rs.length)(nr:NoRf Ff rs)
  (R1:Rel b F σ H1 ρ1 (vs++τ) (rs++θ)) (it:j2 b J vs rs ds) (hds:ds.length < 1000000) (hc:cy ρ1 fr=some (inner,ρ2)) (i0:Iv 0 [] (List.replicate nt none++inner)) (step:∀k d out ρ,ds[k]?=some d->Iv k out ρ->dg (.fz d) ρ fun ρ'=>dc ρ' fun o ρ''=>Iv (k + 1) (out++o) ρ'')
  (q:∀H' D out ρ',Rel b F σ H' (dX ρ2 fr (ρ'.drop nt)) (.ref D::(vs++τ)) (.val (.lst (out.map OD.fz))::(rs++θ))->Iv ds.length out ρ'->Q (.ref D) H'):jP (fun _ _ k=>k J H1) nt fr g tc σ H1 Q :=
 j6 (acc:=fun out=>.lst (out.map OD.fz)) (ln:=List.length) (a0:=[]) (da:=fun out ρ Q=>dc ρ fun o ρ'=>Q (out++o) ρ') (fun w h=>Wd.newLst (vs:=[]) (xs:=[]) w rfl h) rfl s2 (fun c b F σ H ρ vs rs D out Qd Q hK el hz R h q=>s3 c b F σ H ρ vs rs D out (fun o ρ'=>Qd (out++o) ρ') Q hK el hz R h fun H' ρ' o R' lo hq=>q H' ρ' (out++o) R' (by rw[aaA];omega) hq) hK el nr R1 it hds hc i0 step q
theorem j7{wi:TI}{di:DI}{nt:Nat}{fr:List Nat}{g:CC->TG}{tc:CC->TC}{dg:DG}{dc:DC}(s1:Ba K wi di)(s2:∀c,oD K Ff nt (g c) dg)(s3:∀c,oH K (tc c) dc):bZ K (jP wi nt fr g tc) (mG di nt fr dg dc):=by
 intro b F σ H ρ τ θ Qd Q hK R h q
 refine s1 b F σ H ρ τ θ _ _ hK R h fun J H1 ds ρ1 vs rs el nr R1 it hZ=>?_
 obtain⟨hds,inner,ρ2,hc,Iv,i0,step,fin⟩:=hZ
 exact oJ s2 s3 hK el nr R1 it hds hc i0 step fun H' D out ρ' R' iv=>q _ H' _ _ (Rel.drops (vs:=vs) (rs:=rs) (τ:=.ref D::τ) (θ:=.val (.lst (out.map OD.fz))::θ) (Rel.tor R' el) el) (fin out ρ' iv)
end
end
section
section
variable{X:Cx}{K:Waa}{a b c e elt iter tg:Expr}{es ifs:List Expr}{da db dc':DE}{dt:DA}{dT:DT}{pos p:Pos}{x:Str}{N:List Str}{nt:Nat}{fr:List Nat}{scope:Scope}{di:DI}{dg:DG}{dc:DC}
theorem PDg.ex{Y:CC->Cx}{m:Nat}{tg:Expr}(hK:∀c,(Y c).K=K)(h:∀c,PDg (Y c) Ff m tg dg):∃g:CC->TG,∀c,PG (Y c) tg (g c)/\oD K Ff m (g c) dg :=
 ab7 (r:=fun c g=>PG (Y c) tg g/\oD K Ff m g dg) fun c=>(by obtain⟨te,h1,s1⟩:=h c;exact⟨te,h1,hK c ▸ s1⟩)
theorem PDc.ex{Y:CC->Cx}(hK:∀c,(Y c).K=K)(h:∀c,PDc (Y c) ifs elt dc):∃g:CC->TC,∀c,(∀D,jQ (Y c) D ifs elt (g c))/\oH K (g c) dc :=
 ab7 (r:=fun c g=>(∀D,jQ (Y c) D ifs elt g)/\oH K g dc) fun c=>(by obtain⟨te,h1,s1⟩:=h c;exact⟨te,h1,hK c ▸ s1⟩)
theorem uL(hc:X.calm=true)(S:CompScope N nt fr X.N scope X.env.scope)(hs:∀x,foldedSetIterable iter X.env x=pure x:=by intro _;rfl)(hi:PDi X tg iter di)(hg:∀c:CC,PDg (cO X N scope c) Ff nt tg dg)(ha:∀c:CC,PDc (cO X N scope c) ifs elt dc) :
  PDe X (.ListComp elt [⟨tg,iter,ifs,0⟩] scope pos) (mG di nt fr dg dc):=by
 obtain⟨wi,h1,s1⟩:=hi
 obtain⟨g,hg'⟩:=PDg.ex (K:=X.K) (Y:=fun c=>cO X N scope c) (fun _=>rfl) hg
 obtain⟨tc,hc'⟩:=PDc.ex (K:=X.K) (Y:=fun c=>cO X N scope c) (fun _=>rfl) ha
 exact⟨_,tY hc S h1 (fun c=>(hg' c).1) (fun c D=>(hc' c).1 D) hs,j7 s1 (fun c=>(hg' c).2) fun c=>(hc' c).2⟩
end
def bO:List Bool->DEnv->List OR->Option (List OD × DEnv)
 | [],ρ,[]=>some ([],ρ)
 | true::ios,ρ,r::rs=>match mv1 ρ r with
  | some (x,ρ1)=>match bO ios ρ1 rs with | some (xs,ρ2)=>some (x::xs,ρ2) | none=>none
  | none=>none
 | false::ios,ρ,r::rs=>match frz1 ρ r with
  | some (d,ρ1)=>match bO ios ρ1 rs with | some (xs,ρ2)=>some (.fz d::xs,ρ2) | none=>none
  | none=>none
 | _,_,_=>none
def iy:List Bool->List OR->List OD->DEnv->DEnv
 | true::ios,.rf j::rs,y::ys,ρ=>iy ios rs ys (ρ.set j (some y))
 | _::ios,_::rs,_::ys,ρ=>iy ios rs ys ρ
 | _,_,_,ρ=>ρ
section
variable{b:Bs}{F:List Fr}{σ:St}{H H':Hp}{ρ ρ':DEnv}{τ vs:List V}{θ rs:List OR}{v u:V}{r:OR}{x y:OD}{d:PyData}{i j:Nat}
theorem argsR_ok:∀{ios:List Bool} {vs:List V} {rs:List OR} {ρ ρ':DEnv} {xs:List OD} {τ:List V} {θ:List OR},Rel b F σ H ρ (vs++τ) (rs++θ)->vs.length=rs.length->bO ios ρ rs=some (xs,ρ')->Rel b F σ H ρ' (vs++τ) (xs.map OR.val++θ)/\vs.length=xs.length
 | [],[],[],_,_,_,_,_,R,_,e=>by simp only[bO]at e;cases e;exact⟨R,rfl⟩
 | true::ios,v::vs,r::rs,ρ,ρ',ds,τ,θ,R,e,h=>by
  simp only[bO]at h
  split at h
  ·rename_i x ρ1 h1
   split at h
   ·rename_i xs ρ2 h2
    cases h
    have R1:Rel b F σ H ρ1 (v::(vs++τ)) (.val x::(rs++θ)):=Rel.mv1 R h1
    have e':vs.length=rs.length:=by simpa using e
    obtain⟨R2,e2⟩:=argsR_ok (Rel.tor (vs:=vs) (rs:=rs) R1 e') e' h2
    exact⟨Rel.rot R2 (by rw[e2,aaa]),by simp[e2]⟩
   ·cases h
  ·cases h
 | false::ios,v::vs,r::rs,ρ,ρ',ds,τ,θ,R,e,h=>by
  simp only[bO]at h
  split at h
  ·rename_i x ρ1 h1
   split at h
   ·rename_i xs ρ2 h2
    cases h
    have R1:Rel b F σ H ρ1 (v::(vs++τ)) (.val (.fz x)::(rs++θ)):=Rel.frz1 R h1
    have e':vs.length=rs.length:=by simpa using e
    obtain⟨R2,e2⟩:=argsR_ok (Rel.tor (vs:=vs) (rs:=rs) R1 e') e' h2
    exact⟨Rel.rot R2 (by rw[e2,aaa]),by simp[e2]⟩
   ·cases h
  ·cases h
 | _,[],_::_,_,_,_,_,_,_,e,_=>by simp at e
 | _,_::_,[],_,_,_,_,_,_,e,_=>by simp at e
 | [],_::_,_::_,_,_,_,_,_,_,_,h=>by simp[bO]at h
 | true::_,[],[],_,_,_,_,_,_,_,h=>by simp[bO]at h
 | false::_,[],[],_,_,_,_,_,_,_,h=>by simp[bO]at h
theorem Rel.give(R:Rel b F σ H ρ (v::τ) (.val y::θ))(ev:σ[j]?=some (some v)):Rel b F σ H (ρ.set j (some y)) τ θ :=
 Rel.back R.wf (Rel.drop R).al R.wff ev (Wd.offSlot (L1:=(v,y)::stk τ θ) R.wd R.wf j)
theorem cz:∀{ios:List Bool} {vs:List V} {rs:List OR} {ys:List OD} {ρ:DEnv},Al σ vs rs->vs.length=ys.length->Rel b F σ H ρ (vs++τ) (ys.map OR.val++θ)->Rel b F σ H (iy ios rs ys ρ) τ θ
 | ios,[],[],[],ρ,_,_,R=>by cases ios with | nil=>exact R | cons i ios=>cases i<;>exact R
 | [],v::vs,r::rs,y::ys,ρ,al,e,R=>by
  have al':Al σ vs rs:=by cases r with | val _=>exact al | rf _=>exact al.2
  have:=cz (ios:=[]) (vs:=vs) (rs:=rs) (ys:=ys) al' (by simpa using e) (Rel.drop R)
  cases vs<;>cases rs<;>cases ys<;>exact this
 | true::ios,v::vs,.rf j::rs,y::ys,ρ,al,e,R=>cz (ios:=ios) (vs:=vs) (rs:=rs) (ys:=ys) al.2 (by simpa using e) (Rel.give (τ:=vs++τ) (θ:=ys.map OR.val++θ) R al.1)
 | true::ios,v::vs,.val x::rs,y::ys,ρ,al,e,R=>cz (ios:=ios) (vs:=vs) (rs:=rs) (ys:=ys) al (by simpa using e) (Rel.drop R)
 | false::ios,v::vs,.rf j::rs,y::ys,ρ,al,e,R=>cz (ios:=ios) (vs:=vs) (rs:=rs) (ys:=ys) al.2 (by simpa using e) (Rel.drop R)
 | false::ios,v::vs,.val x::rs,y::ys,ρ,al,e,R=>cz (ios:=ios) (vs:=vs) (rs:=rs) (ys:=ys) al (by simpa using e) (Rel.drop R)
 | _,[],_::_,_,_,al,_,_=>by simp[Al]at al
 | _,_::_,[],_,_,al,_,_=>by simp[Al]at al
 | _,[],_,_::_,_,_,e,_=>by simp at e
 | _,_::_,_,[],_,_,e,_=>by simp at e
end
structure FnD (P:Program)(w:World)(K:Waa)(mg:Str->Option Value)(base:Heap)(k:Nat)(f:Addr)(fd:FuncData)(ps:List Str)(sp:DSp):Prop where
 ok:FnOk P w K mg base CX0 k f fd ps (toSp K sp)
 mono:uo sp
section
variable{X:Cx}{K:Waa}{a b c e:Expr}{es:List Expr}{da db dc:DE}{dt:DA}{pos p:Pos}{x:Str}{k:Nat}{f:Addr}{fd:FuncData}{ps:List Str}{sp:DSp}
def wt(sp:DSp)(ios:List Bool)(t:DA):DE:=fun ρ Q=>t ρ fun rs ρ1=>∃xs ρ2,bO ios ρ1 rs=some (xs,ρ2)/\sp xs fun x ys=>Q (.val x) (iy ios rs ys ρ2)
theorem rk{ios:List Bool}{ta:TA}(G:FnD X.prog X.w X.K X.mg X.base k f fd ps sp)(s1:yj X.K ta dt):bZ X.K (we (toSp X.K sp) [] E0 ta) (wt sp ios dt):=fun b F σ H ρ τ θ Qd Q hK R h q=>s1 b F σ H ρ τ θ _ _ hK R h fun vs H1 rs ρ1 el R1 ⟨xs,ρ2,e1,h1⟩=>by
  obtain⟨R2,e2⟩:=argsR_ok R1 el e1
  have al:=((aZ el).mp R1.al).1
  have w:=R2.vals e2
  rw[aar,<- hK]
  refine w.call e2 G.mono (G.mono _ _ _ (fun x ys hx eys v H' w'=>q v H' _ _ ?_ hx) h1)
  have R3:Rel b F σ H' ρ2 (v::(vs++τ)) (.val x::(ys.map OR.val++θ)):=by
   have R0:=R2.drops (by simpa using e2)
   refine⟨R0.wf,(aZ (σ:=σ) (vs:=vs) (rs:=ys.map OR.val) (by simpa using eys)).mpr ⟨jd eys,R0.al⟩,R0.wff,?_⟩
   show Wd b H' ((v,x)::(stk (vs++τ) (ys.map OR.val++θ)++_))
   rw[aG (by simpa using eys),cP eys,aaf]
   exact w'
  exact cz (τ:=v::τ) (θ:=.val x::θ) al eys (Rel.tor (vs:=vs) (rs:=ys.map OR.val) R3 (by simpa using eys))
theorem uM {ios:List Bool} (G:FnD X.prog X.w X.K X.mg X.base k f fd ps sp) (hr:Room k X.A) (hg:Gl X x) (hm:X.mg x=some (.ref f)) (hk:PySem.W.keepIn X.K (.ref f)=true) (hb:Binds X.K fd ps []) (hdb:(x == ("__debug__":Str))=false:=by decide)
  (he:starEach (e::es) X.env=(false,eval e X.env)::starEach es X.env:=by rfl) (hpl:(backTo pos (starEach es X.env)).any (·.1)=false:=by rfl):PDa X (e::es) dt->PDe X (.Call (.Name x p) (e::es) [] pos) (wt sp ios dt)
 | ⟨_,h1,s1⟩=>⟨_,tT (E:=E0) G.ok hr hg hm hk hb .nil AB h1 hdb he hpl,rk G s1⟩
end
def CQ:PyData->Bool
 | .int _=>true
 | .bool _=>true
 | .str _=>true
 | .none=>true
 | _=>false
section
variable{P:Program}{w:World}{K:Waa}{mg:Str->Option Value}{base:Heap}
theorem bK:∀{vs:List V} {n:Nat} {ρ:DEnv},flat (vs.map some++List.replicate n none) ρ=flat (vs.map some) ρ
 | [],0,_=>rfl
 | [],n + 1,[]=>rfl
 | [],n + 1,o::ρ=>by
  rw[aaQ,aaz,abo]
  have:flat (none::List.replicate n none) (o::ρ)=flat (List.replicate n none) ρ:=by cases o<;>rfl
  rw[this]
  have:=bK (vs:=[]) (n:=n) (ρ:=ρ)
  simpa [flat] using this
 | v::vs,n,[]=>by simp[flat]
 | v::vs,n,none::ρ=>by
  simp only[aaj,aaN,br]
  exact bK
 | v::vs,n,some x::ρ=>by
  simp only[aaj,aaN,flat]
  rw[bK]
theorem gj:∀{vs:List V} {xs:List OD} {k:Nat},vs.length=xs.length->flat (vs.map some) (xs.map some++List.replicate k none)=vs.zip xs
 | [],[],0,_=>rfl
 | [],[],_ + 1,_=>rfl
 | v::vs,x::xs,k,e=>by
  simp only[aaj,aaN,flat,aa9]
  rw[gj (by simpa using e)]
 | [],_::_,_,e=>by simp at e
 | _::_,[],_,e=>by simp at e
theorem gk:∀{vs:List V} {xs:List OD} {k:Nat},vs.length=xs.length->Wf (vs.map some++List.replicate k none) (xs.map some++List.replicate k none)
 | [],[],0,_=>trivial
 | [],[],k + 1,_=>by
  have:=gk (vs:=[]) (xs:=[]) (k:=k) rfl
  exact this
 | v::vs,x::xs,k,e=>gk (vs:=vs) (xs:=xs) (k:=k) (by simpa using e)
 | [],_::_,_,e=>by simp at e
 | _::_,[],_,e=>by simp at e
def dG(N:Nat)(xs:List OD):DEnv:=xs.map some++List.replicate (N - xs.length) none
def aU:Nat->List Bool->List OD->DEnv->Option (List OD)
 | _,[],[],_=>some []
 | i,true::ios,_::xs,ρ=>match ρ[i]?.join with
  | some y=>match aU (i + 1) ios xs ρ with | some ys=>some (y::ys) | none=>none
  | none=>none
 | i,false::ios,.fz d::xs,ρ=>match aU (i + 1) ios xs ρ with | some ys=>some (.fz d::ys) | none=>none
 | _,_,_,_=>none
def WS(ios:List Bool):Nat->Prop:=fun j=>ios[j]?=some true
def dY:Nat->List Bool->List V->List V
 | i,true::ios,v::vs=>v::dY (i + 1) ios vs
 | i,false::ios,_::vs=>dY (i + 1) ios vs
 | _,_,_=>[]
def cK:Nat->List Bool->List OR
 | i,true::ios=>.rf i::cK (i + 1) ios
 | i,false::ios=>cK (i + 1) ios
 | _,[]=>[]
theorem jf{σ:St}:∀{ios:List Bool} {vs:List V} {i:Nat},ios.length=vs.length->(∀k v,vs[k]?=some v->σ[i + k]?=some (some v))->Al σ (dY i ios vs) (cK i ios)
 | [],[],_,_,_=>trivial
 | true::ios,v::vs,i,e,h=>⟨h 0 v rfl,jf (ios:=ios) (vs:=vs) (i:=i + 1) (by simpa using e) fun k u hk=>by have:=h (k + 1) u (by simpa using hk);rwa [show i + 1 + k=i + (k + 1) by omega]⟩
 | false::ios,v::vs,i,e,h=>jf (ios:=ios) (vs:=vs) (i:=i + 1) (by simpa using e) fun k u hk=>by have:=h (k + 1) u (by simpa using hk);rwa [show i + 1 + k=i + (k + 1) by omega]
 | [],_::_,_,e,_=>by simp at e
 | true::_,[],_,e,_=>by simp at e
 | false::_,[],_,e,_=>by simp at e
theorem jg:∀{ios:List Bool} {i:Nat} {W:Nat->Prop},(∀k,ios[k]?=some true->W (i + k))->NoRf W (cK i ios)
 | [],_,_,_=>fun r hr=>by simp[cK]at hr
 | true::ios,i,W,h=>fun r hr=>by
  simp only[cK]at hr
  rcases aab.mp hr with rfl | hr
  ·exact .inr ⟨i,h 0 rfl,rfl⟩
  ·exact jg (ios:=ios) (i:=i + 1) (W:=W) (fun k hk=>by have:=h (k + 1) (by simpa using hk);rwa [show i + 1 + k=i + (k + 1) by omega]) r hr
 | false::ios,i,W,h=>fun r hr=>jg (ios:=ios) (i:=i + 1) (W:=W) (fun k hk=>by have:=h (k + 1) (by simpa using hk);rwa [show i + 1 + k=i + (k + 1) by omega]) r hr
theorem dZ:∀{ios:List Bool} {vs:List V} {i:Nat},stk (dY i ios vs) (cK i ios)=[]
 | [],[],_=>rfl
 | [],_::_,_=>rfl
 | true::ios,[],i=>by simp[dY,cK,stk]
 | false::ios,[],i=>by
  have:dY i (false::ios) ([]:List V)=[]:=rfl
  rw[this]
  cases h:cK i (false::ios)<;>rfl
 | true::ios,v::vs,i=>dZ (ios:=ios) (vs:=vs) (i:=i + 1)
 | false::ios,v::vs,i=>dZ (ios:=ios) (vs:=vs) (i:=i + 1)
end
end
section
section
variable{P:Program}{w:World}{K:Waa}{mg:Str->Option Value}{base:Heap}{b:Bs}{σ:St}{H:Hp}
theorem Wd.addF(w:Wd b H L)(f:Fz b.K (fun a=>b.C a\/b.S0 a) b.H0 v d):Wd b H ((v,.fz d)::L):=by
 obtain⟨A,h0,nd,new⟩:=w.out
 refine⟨⟨A,Ows.cons (.fz (f.step (w.fr.weak fun c z=>.inl (.inl z)) fun c z=>?_)) h0,nd,new⟩,w.fr,w.s0,w.nt⟩
 rcases z with z | z
 ·exact (new c z).elim .inr fun z=>.inl (.inl z)
 ·exact .inl (.inr z)
theorem fg:∀{ios:List Bool} {xs:List OD} {i j:Nat} {ρ:DEnv},j < i->aU i ios xs (ρ.set j none)=aU i ios xs ρ
 | [],[],_,_,_,_=>rfl
 | true::ios,_::xs,i,j,ρ,h=>by
  simp only[aU]
  rw[abc (by omega),fg (by omega)]
 | false::ios,.fz d::xs,i,j,ρ,h=>by
  simp only[aU]
  rw[fg (by omega)]
 | [],_::_,_,_,_,_=>rfl
 | true::_,[],_,_,_,_=>rfl
 | false::_,[],_,_,_,_=>rfl
 | false::_,.lst _::_,_,_,_,_=>rfl
 | false::_,.tup _::_,_,_,_,_=>rfl
 | false::_,.dic _ _::_,_,_,_,_=>rfl
 | false::_,.obj _ _ _::_,_,_,_,_=>rfl
 | false::_,.pin _ _ _::_,_,_,_,_=>rfl
 | false::_,.hole _::_,_,_,_,_=>rfl
theorem jh:∀{ios:List Bool} {vs:List V} {xs ys:List OD} {i:Nat} {ρ:DEnv} {L1:List (V × OD)},vs.length=xs.length->(∀(k:Nat) v d,vs[k]?=some v->xs[k]?=some (.fz d)->Fz b.K (fun a=>b.C a\/b.S0 a) b.H0 v d)->aU i ios xs ρ=some ys ->
  Al σ (dY i ios vs) (cK i ios)->Wf σ ρ->Wd b H (L1++flat σ ρ)->vs.length=ys.length/\∃R,Wd b H (L1++(vs.zip ys++R))
 | [],[],[],ys,i,ρ,L1,_,_,e,_,_,w=>by simp only[aU]at e;cases e;exact⟨rfl,_,w⟩
 | true::ios,v::vs,x::xs,ys,i,ρ,L1,el,hf,e,al,wf,w=>by
  simp only[aU]at e
  split at e
  ·rename_i y ey
   split at e
   ·rename_i ys' e2
    cases e
    have ev:σ[i]?=some (some v):=al.1
    have w1:Wd b H ((L1++[(v,y)])++flat σ (ρ.set i none)):=w.perm (by
     rw[aaf]
     exact (bw (join_some ey) ev).append_left _)
    obtain⟨e3,R,w2⟩:=jh (by simpa using el) (fun k u d h1 h2=>hf (k + 1) u d (by simpa using h1) (by simpa using h2)) (by rw[fg (by omega)];exact e2) al.2 wf.off w1
    exact⟨by simp[e3],R,by rw[aaf]at w2;exact w2⟩
   ·cases e
  ·cases e
 | false::ios,v::vs,.fz d::xs,ys,i,ρ,L1,el,hf,e,al,wf,w=>by
  simp only[aU]at e
  split at e
  ·rename_i ys' e2
   cases e
   have w1:Wd b H ((L1++[(v,.fz d)])++flat σ ρ):=(w.addF (hf 0 v d rfl rfl)).perm (by
    rw[aaf]
    exact aas.symm)
   obtain⟨e3,R,w2⟩:=jh (by simpa using el) (fun k u d h1 h2=>hf (k + 1) u d (by simpa using h1) (by simpa using h2)) e2 al wf w1
   exact⟨by simp[e3],R,by rw[aaf]at w2;exact w2⟩
  ·cases e
 | [],_::_,_::_,_,_,_,_,_,_,e,_,_,_=>by simp[aU]at e
 | true::_,[],[],_,_,_,_,_,_,e,_,_,_=>by simp[aU]at e
 | false::_,[],[],_,_,_,_,_,_,e,_,_,_=>by simp[aU]at e
 | false::_,_::_,.lst _::_,_,_,_,_,_,_,e,_,_,_=>by simp[aU]at e
 | false::_,_::_,.tup _::_,_,_,_,_,_,_,e,_,_,_=>by simp[aU]at e
 | false::_,_::_,.dic _ _::_,_,_,_,_,_,_,e,_,_,_=>by simp[aU]at e
 | false::_,_::_,.obj _ _ _::_,_,_,_,_,_,_,e,_,_,_=>by simp[aU]at e
 | false::_,_::_,.pin _ _ _::_,_,_,_,_,_,_,e,_,_,_=>by simp[aU]at e
 | false::_,_::_,.hole _::_,_,_,_,_,_,_,e,_,_,_=>by simp[aU]at e
 | _,[],_::_,_,_,_,_,e,_,_,_,_,_=>by simp at e
 | _,_::_,[],_,_,_,_,e,_,_,_,_,_=>by simp at e
theorem Ows.fzAt:∀{vs:List V} {xs:List OD} {A:List Addr} {k:Nat} {v:V} {d:PyData},Ows b S H vs xs A->vs[k]?=some v->xs[k]?=some (.fz d)->Fz b.K S H v d
 | _,_,_,0,_,_,.cons r _,e,e'=>by simp at e e';subst e e';cases r with | fz f=>exact f
 | _,_,_,k + 1,_,_,.cons _ t,e,e'=>Ows.fzAt (k:=k) t (by simpa using e) (by simpa using e')
 | _,_,_,_,_,_,.nil,e,_=>by simp at e
theorem Fun.okD{st:Stmt}(F:Fun K x qual st f fd)(S:FnScope N ps (aJ st))(mono:uo sp)(hio:ios.length=ps.length)(len:∀xs Q,sp xs Q->xs.length=ps.length)
  (hbody:∀(cdv:Value) (A:Around) (outer:List Env) (s:Shared) (H:Hp) (E:XK),Room k (A.deeper (envOfC qual (aJ st) s.heap.objs.size f cdv))->∀(xs:List OD) (Q:OD->List OD->Prop),sp xs Q ->
   ∃db,PDss (i3 CX0 P w K mg base N qual (aJ st) f cdv A outer s H E).nox (WS ios) (bP st) db/\db { nx:=fun ρ=>∃ys,aU 0 ios xs ρ=some ys/\Q (.fz .none) ys,rt:=fun x ρ=>∃ys,aU 0 ios xs ρ=some ys/\Q x ys } (dG N.length xs)):FnD P w K mg base (k + 1) f fd ps sp:=by
 refine⟨F.ok S (fun vs H Q E h=>?_) (fun cdv A outer s H vs Q E hr h=>?_),mono⟩
 ·obtain⟨S,xs,A,_,_,hO,_,h⟩:=h
  rw[hO.len]
  exact len _ _ h
 ·obtain⟨S',xs,A',al,nt,hO,nA,h⟩:=h
  obtain⟨db,⟨ts,h1,s1⟩,hd⟩:=hbody cdv A outer s H E hr xs _ h
  refine⟨ts,h1,?_⟩
  let b:Bs:=⟨K,H,S',fun a=>a∈A'⟩
  have el:=hO.len
  have exl:=len _ _ h
  have w0:Wd b H (vs.zip xs):=⟨⟨A',OwL.unzips hO,nA,fun a ha=>.inr ha⟩,Kp.refl _ _,fun a z=>⟨(al a z).1,(al a z).2⟩,nt⟩
  have sg:∀(k:Nat) v,vs[k]?=some v->(start N vs)[0 + k]?=some (some v):=fun k v e=>by
   have hk:=(aau.mp e).1
   unfold start
   rw[aaV,abV (by simpa using hk),aav,e];rfl
  have R:Rel b [] (start N vs) H (dG N.length xs) (dY 0 ios vs) (cK 0 ios):=by
   unfold start dG
   refine⟨by rw[el];exact gk el,jf (by omega) sg,fun f hf=>(by cases hf),?_⟩
   rw[dZ]
   show Wd b H ([]++(flat _ _++[]))
   rw[aaz,aar,bK,gj el]
   exact w0
  have fin:∀(σ':St) (H':Hp) (ρ':DEnv) (v:V) (x:OD),Rel b [] σ' H' ρ' (v::dY 0 ios vs) (.val x::cK 0 ios)->(∃ys,aU 0 ios xs ρ'=some ys/\EH K S' A' vs H Q x ys)->Q v H':=fun σ' H' ρ' v x R' ⟨ys,ey,ha⟩=>by
   have w':Wd b H' ([(v,x)]++flat σ' ρ'):=by
    have:=R'.wd
    simp only[stk]at this
    rw[dZ]at this
    simpa [ff] using this
   obtain⟨eys,Z,w2⟩:=jh el (fun k v d h1 h2=>(Ows.fzAt hO h1 h2).sub fun a z=>z) ey R'.al R'.wf w'
   have e1:[(v,x)]++(vs.zip ys++Z)=(v::vs).zip (x::ys)++Z:=rfl
   rw[e1]at w2
   obtain⟨B0,h0,nd,new⟩:=w2.out
   have nt':=w2.nt' h0
   obtain⟨B,B2,rfl,r,t⟩:=OwL.split' h0
   refine ha v H' B w2.fr (Ows.sub nt' (fun c z=>z.imp (aae _) id) (OwL.zips (by simp[eys]) r)) (aaC.mp nd).1 fun a haB=>new a (aae _ haB)
  refine s1 b [] (start N vs) H _ _ _ _ _ rfl (jg fun k hk=>?_) R hd ⟨fun σ' H' ρ' R' h'=>?_,fun _ _ _ _ h'=>h'.elim,fun _ _ _ _ h'=>h'.elim,fin⟩
  ·rw[aaV];exact hk
  ·exact fin σ' H' ρ' .non _ (R'.sc .non) h'
end
end
section
def dH:PyData->Str
 | .str x=>x
 | d=>d.shown
def yJ:PyData->Bool
 | .str _=>true
 | _=>false
def shB(d:PyData):Bool:=yJ d || (d.showable && !d.hasDict && decide (d.shown.length<=10000000) && decide (d.depth<=40))
section
variable{X:Cx}
theorem oK{prog:Program}{w:World}{A:Around}{E:Value->Shared->Prop}{s:Shared}{a:Addr}{d:PyData}{as:List Addr}{Q:Value->Shared->Prop}(r:Reads s.heap (.ref a) d as)(hs:d.showable=true)(hd:d.hasDict=false)(hg:A.guards=some [])(hu:A.units + 64 < cLine)(hp:d.depth<=40)(hz:d.shown.length<=sizeLine)
  (hQ:∀h' u tk,(∀b o,s.heap.get? b=some o->h'.get? b=some o)->Q (.str d.shown u) { s with heap:=h',toks:=tk }):wpAny (model prog w) A (call (.type "str") [.ref a]) Q E s:=by
 refine callType_new F.called_str (by decide) (F.typeCall_str_1 _) (F.newCall_str_1 _) (fun obj=>F.args_object_init_2 obj _) F.entry_str_new
  (S:=fun A R s1=>A.guards=some []/\A.units + 60 < cLine/\(∀b o,s.heap.get? b=some o->s1.heap.get? b=some o)/\∀h' u tk,(∀b o,s1.heap.get? b=some o->h'.get? b=some o)->R (.ok (.ret (.str d.shown u))) { s1 with heap:=h',toks:=tk })
  (meets_str_new fun prog w A R s1 h=>?_) ⟨hg,by show A.units + 1 + 60 < cLine;omega,fun _ _ e=>e,fun h' u tk hk=>⟨typeIs_str _ _ _,hQ h' u tk hk⟩⟩
 obtain⟨g1,g2,g3,g4⟩:=h
 obtain⟨T,idr,S⟩:=showsBy_of_reads (prog:=prog) (w:=w) r hs (PyData.noDict_hsm hd) hz
 exact wpAny_strOf_slot rfl (by show A.units + 1 + 1 < cLine;omega) (S.typeIs s1 g3) S.slotStr S.slotRepr (S.call A.in1.in1 _ s1 _ g1 (by show A.units + 1 + 1 + d.depth < cLine;omega) g3 fun h' u tk hk=>⟨_,_,rfl,g4 h' u tk hk⟩)
def Bg(K:Waa):List V->Hp->VK->Prop:=fun xs H Q=>∃v d,xs=[v]/\Dt K H v d/\shB d=true/\Q (.str (dH d)) H
theorem oM(hg:X.A.guards=some [])(hu:X.A.units + 64 < cLine):bE X (.type "str") (Bg X.K):=by
 intro pins s σ H xs us Q I r h
 obtain⟨v,d,rfl,hd,hb,q⟩:=h
 obtain⟨u,rfl,ru⟩:=vals1 r
 have ref:∀a,u=.ref a->yJ d=false->Dt X.K H v d->dH d=d.shown->wpAny (model X.prog X.w) X.A (call (.type "str") [u]) (EP X pins σ Q) X.xe s:=fun a ea hst hd ed=>by
  subst ea
  rw[shB,hst,ab8,aam,aam,aam,abp,decide_eq_true_eq,decide_eq_true_eq]at hb
  obtain⟨as,rd⟩:=hd.reads I ru
  refine oK rd hb.1.1.1 hb.1.1.2 hg hu hb.2 (aaq hb.1.2 (by decide)) fun h' u tk hk=>?_
  exact⟨.str d.shown,H,I.kept (t':=tk) hk,⟨u,rfl⟩,by rw[<- ed];exact q⟩
 cases hd with
 | non=>cases ru;exact P.str_of_none ⟨.str _,H,I.tok _,⟨_,rfl⟩,q⟩
 | bl b=>cases ru;exact P.str_of_bool ⟨.str _,H,I.tok _,⟨_,rfl⟩,q⟩
 | int i =>
  obtain⟨t,rfl⟩:=ru
  rw[shB,show yJ (.int i)=false from rfl,ab8,aam,aam,aam]at hb
  exact P.str_of_int (by simpa [PyData.showable] using hb.1.1.1) ⟨.str _,H,I.tok _,⟨_,rfl⟩,q⟩
 | str x=>obtain⟨t,rfl⟩:=ru;exact P.str_of_str ⟨.str _,H,I,⟨_,rfl⟩,q⟩
 | lst s t=>cases ru;exact ref _ rfl rfl (.lst s t) rfl
 | tup s t=>cases ru;exact ref _ rfl rfl (.tup s t) rfl
def mxI:Int->List Int->Int
 | a,[]=>a
 | a,b::r=>mxI (if b > a then b else a) r
theorem mH:∀(r:List Int) (a:Int),mxI a r=a\/mxI a r∈r
 | [],a=>.inl rfl
 | b::r,a=>by
  rcases mH r (if b > a then b else a) with h | h
  ·show mxI (if b > a then b else a) r=a\/_
   rw[h]
   by_cases hb:b > a
   ·rw[if_pos hb];right;show mxI (if b > a then b else a) r∈_;rw[h,if_pos hb];exact aag
   ·rw[if_neg hb];exact .inl rfl
  ·exact .inr (aai _ h)
theorem mxI_ge:∀(r:List Int) (a:Int),a<=mxI a r/\∀b∈r,b<=mxI a r
 | [],a=>⟨ab9 _,fun b h=>by cases h⟩
 | c::r,a=>by
  obtain⟨h1,h2⟩:=mxI_ge r (if c > a then c else a)
  show a<=mxI (if c > a then c else a) r/\_
  have h3:a<=(if c > a then c else a)/\c<=(if c > a then c else a):=by split<;>omega
  refine⟨by omega,fun b hb=>?_⟩
  rcases aab.mp hb with rfl | hb
  ·show b<=mxI (if b > a then b else a) r;omega
  ·exact h2 b hb
theorem oN(hc:X.calm=true):bE X (.builtin "max") (fun xs H Q=>∃(p:Addr) (n:Int) (ns:List Int),xs=[.ref p]/\SqL X.K H p ((n::ns).map V.int)/\Q (.int (mxI n ns)) H):=by
 intro pins s σ H xs us Q I r h
 obtain⟨p,n,ns,rfl,hq,q⟩:=h
 obtain⟨u,rfl,rx⟩:=vals1 r
 cases rx
 obtain⟨its,r',pl,hz⟩:=I.list hq
 have hi:IntsAre its (n::ns):=by
  clear hq hz pl q
  generalize n::ns=l at r'
  induction l generalizing its with
  | nil=>cases r';exact .nil
  | cons a l ih=>rw[aaj]at r';cases r' with | cons a1 a2=>obtain⟨t,rfl⟩:=a1;exact .cons a t (ih _ a2)
 obtain⟨ys,e⟩:=hi.allInts.items
 have hns:n::ns=ys.toList.map (·.1):=by rw[<- hi.numsOf,<- nums_intItems,<- e]
 have hsz:0 < ys.size:=by
  have h3:(n::ns).length=ys.size:=by rw[hns,aaa,abd]
  rw[<- h3];exact Nat.succ_pos _
 have pl':=pl.isList
 rw[e]at pl'
 refine max_intList (I.ok.hd hc) pl' hsz fun v h' tk hv hk=>?_
 obtain⟨t,rfl⟩:=intItems_at hv
 obtain⟨h1,h2⟩:=argBest_gt (numAt ys) (ys.size - 1)
 refine⟨.int (mxI n ns),H,I.kept (t':=tk) hk,⟨t,?_⟩,q⟩
 congr 1
 obtain⟨g1,g2⟩:=mxI_ge ns n
 have g3:mxI n ns∈n::ns:=(mH ns n).elim (fun z=>by rw[z];exact aag) (aai _)
 have k1:numAt ys (argBest (fun a b=>decide (numAt ys a > numAt ys b)) (ys.size - 1))∈n::ns:=by
  rw[numAt_eq,hns];exact getD_mem (by rw[aaa,abd];omega)
 have k2:mxI n ns<=numAt ys (argBest (fun a b=>decide (numAt ys a > numAt ys b)) (ys.size - 1)):=by
  rw[hns]at g3
  obtain⟨j,hj,ej⟩:=mem_getD g3
  rw[aaa,abd]at hj
  rw[<- ej,<- numAt_eq];exact h2 j (by omega)
 have k3:numAt ys (argBest (fun a b=>decide (numAt ys a > numAt ys b)) (ys.size - 1))<=mxI n ns:=by
  rcases aab.mp k1 with z | z
  ·rw[z];exact g1
  ·exact g2 _ z
 exact Int.le_antisymm k3 k2
theorem gm{α:Type}:∀l:List α,(List.range l.length).filterMap (l[·]?)=l
 | []=>rfl
 | x::l=>by
  rw[aap,acv,abb]
  show x::List.filterMap _ _=_
  rw[List.filterMap_map]
  exact congrArg (x::·) (gm l)
theorem cS{α β:Type}{f g:α->Option β}:∀{l:List α},(∀x∈l,f x=g x)->l.filterMap f=l.filterMap g
 | [],_=>rfl
 | x::l,h=>by rw[abb,abb,h x aag,cS fun y hy=>h y (aai _ hy)]
theorem hX(its:List Value):slicePick its.toArray none none (some (-1))=its.reverse.toArray:=by
 unfold slicePick sliceRange sliceBounds
 simp only[Option.getD_some,aat]
 congr 1
 have e:(if (-1:Int) > 0 then (if (if (-1:Int) > 0 then (0:Int) else (its.length:Int) - 1) < (if (-1:Int) > 0 then (its.length:Int) else -1) then ((if (-1:Int) > 0 then (its.length:Int) else -1) - (if (-1:Int) > 0 then (0:Int) else (its.length:Int) - 1) + -1 - 1) / -1 else 0) else if (if (-1:Int) > 0 then (0:Int) else (its.length:Int) - 1) > (if (-1:Int) > 0 then (its.length:Int) else -1) then ((if (-1:Int) > 0 then (0:Int) else (its.length:Int) - 1) - (if (-1:Int) > 0 then (its.length:Int) else -1) - -1 - 1) / - -1 else 0).toNat=its.length:=by
  simp only[show ¬ ((-1:Int) > 0) by decide,if_false,show -(-1:Int)=1 from rfl,Int.ediv_one]
  split<;>omega
 rw[e,List.filterMap_map,<- gm its.reverse,abq]
 refine cS fun k hk=>?_
 have hk:=abx.mp hk
 rw[if_neg (by decide)]
 show its.toArray[((its.length:Int) - 1 + -1 * (k:Int)).toNat]?=its.reverse[k]?
 rw[List.getElem?_reverse hk,List.getElem?_toArray]
 congr 1
 omega
section
variable{e st:Expr}{te:TE}{p2 pos:Pos}
def FL(K:Waa)(te:TE):TE:=fun σ H Q=>te σ H fun x H1=>∃a xs,x=.ref a/\SqL K H1 a xs/\∀p,H1 p=none->Q (.ref p) (upd H1 p (.lst xs.reverse))
theorem yK(he:PE X e te)(hs:PO X (some st) fun σ H Q=>Q (some (-1)) H):PE X (.Subscript e (.Slice none none (some st) p2) pos) (FL X.K te):=by
 intro pins s σ H Q I h
 refine Subscript_ (thn (he pins s σ H _ I h) fun v s1 hZ=>?_)
 obtain⟨x,H1,I1,r1,a,xs,rfl,hx,q⟩:=hZ
 cases r1
 refine wpAny_Slice ?_
 rw[evalPart_none]
 refine wpAny_pure (wpAny_pure ?_)
 refine thn (hs pins s1 σ H1 (fun o H2=>o=some (-1)/\H2=H1) I1 ⟨rfl,rfl⟩) fun vs s3 hZ=>?_
 obtain⟨o,H2,I3,ps,rfl,rfl⟩:=hZ
 have I4:Inv X pins σ H2 { s3 with heap:=s3.heap.push { cls:=.type "slice",data:=.fields #[.none,.none,vs] } }:=I3.kept (t':=s3.toks) fun b ob q=>Heap.get?_push_of_some _ q
 obtain⟨its,r,ht,hz⟩:=I4.list hx
 have hlen:=r.length
 refine tail_any (ops:=[.ref a,.ref s3.heap.objs.size]) ht.isList.typeIs slot_list_getitem.lookup ?_ (by with_unfolding_all rfl)
 refine wpAny_getItem_list_slice ht.isList (Heap.IsSliceOf.new ..) .none .none ps (by simp) ?_ (by rw[aat]<;>omega)
 rw[hX]
 refine⟨.ref _,_,I4.laid (t':=s3.toks) (o:=.lst xs.reverse) (fun b ob q=>Heap.get?_push_of_some _ q) (aac _) ?_,rfl,q _ (I4.hok.fresh (aac _))⟩
 exact⟨by rw[abq];exact hz,_,0,r.reverse,Heap.get?_push_size _ rfl⟩
end
end
end
section
open AutoSeq1 (wpAny_loadPart')
section
variable{X:Cx}{a:Expr}{es:List Expr}{p pos:Pos}
theorem yL{ρ:DEnv}{j:Nat}{x:OD}(h:ρ[j]?.join=some x):ρ.set j (some x)=ρ:=bA (join_some h)
def Bh(a b:DE):DE:=fun ρ Q=>a ρ fun x ρ1=>b ρ1 fun y ρ2=>∃ds es,z5 ρ2 x=some ds/\z5 ρ2 y=some es/\ds≠[]/\ds.length + es.length<=1000000/\Q (.val (.fz (.tuple (ds++es)))) ρ2
theorem uN{b:Expr}{da db:DE}:PDe X a da->PDe X b db->PDe X (.BinOp a .Add b pos) (Bh da db)
 | ⟨_,h1,s1⟩,⟨_,h2,s2⟩=>⟨_,pR tW h1 h2,fun b F σ H ρ τ θ Qd Q hK R h q=>s1 b F σ H ρ τ θ _ _ hK R h fun v H1 x ρ1 R1 h1=>s2 b F σ H1 ρ1 _ _ _ _ hK R1 h1 fun u H2 y ρ2 R2 ⟨ds,es,e1,e2,hne,hz,h2⟩=>by
  obtain⟨x',e3,e4⟩:=aaJ.mp e1
  obtain⟨y',e5,e6⟩:=aaJ.mp e2
  have ex:x'=.fz (.tuple ds):=by
   cases x' with
   | fz d=>cases d<;>cases e4;rfl
   | _=>cases e4
  have ef:L2.frz1 ρ2 x=some (.tuple ds,ρ2):=by
   subst ex
   cases x with
   | val z=>cases e3;rfl
   | rf j =>
    have e3:ρ2[j]?.join=some (.fz (.tuple ds)):=e3
    show (ρ2[j]?.join).bind _=_
    rw[e3]
    show some (PyData.tuple ds,ρ2.set j (some (.fz (.tuple ds))))=_
    rw[yL e3]
  have R3:=R2.drop.frz1 ef
  obtain⟨a,us,rfl,el,hs,w⟩:=R2.wd.tpItems (R2.mem1 e3) e4
  obtain⟨c,ws,rfl,el',hs',w'⟩:=w.tpItems (aad _ (R2.mem e5)) e6
  rw[<- aaf]at w'
  rw[hK]at hs hs'
  refine⟨a,c,us,ws,rfl,rfl,hs,hs',fun z=>hne (by subst z;cases ds with | nil=>rfl | cons _ _=>simp at el),i7 (by omega),fun z=>?_,fun _ l hl=>q _ _ _ _ (Rel.drop2 (Rel.drop2 (R2.newTup w' (by simp[el,el']) (fun z hz=>?_) hl))) h2⟩
  ·have:es=[]:=by subst z;cases es with | nil=>rfl | cons _ _=>simp at el'
   subst this
   rw[aar]at h2
   exact q _ H2 _ _ R3 h2
  ·rw[aaw,mC (by simpa using el)]at hz
   refine aae _ ?_
   rcases aal.mp hz with hz | hz
   ·exact aad _ hz
   ·exact aae _ hz⟩
end
end
section
inductive Bo where | add | sub | mul | fdiv | mod | pow
inductive Co where | lt | le | gt | ge | eq | ne | inn | nin
inductive Bl where | len | abs | max | min | int | all | mxl
inductive Knd where | int | bool | str | list | tuple | seq
inductive Bn where | tuple | sorted
inductive Acc where | ix (k:Int) | key (j:Nat)
inductive Tg where | nm (i:Nat) | tp (ts:List Nat) | tn (i:Nat)(ts:List Nat)
mutual
inductive E where
 | nm (i:Nat) | int (k:Int) | str (x:Str) | bl (b:Bool) | gc (g:Nat)
 | bop (o:Bo) (a b:E) | cat (a b:E) | catU (a b:E)
 | cmp (o:Co) (a b:E) | cmp2 (o o':Co) (a b c:E) | isb (neg k:Bool) (a:E)
 | and (a b:E) | or (a b:E) | not (a:E) | neg (a:E) | ife (c a b:E)
 | tup (es:Es) | lst (es:Es) | ix (a b:E) | sll (a:E) (lo hi:Eo)
 | call (f:Nat) (es:Es) | blt (f:Bl) (es:Es) | bnw (f:Bn) (e:E) | isi (k:Knd) (a:E) | lset (a:E) | sht (a:E) | rvs (a:E) | frz (a:E)
 | pg (i:Nat) (ps:List Acc) | din (neg:Bool) (e:E) (i:Nat) (ps:List Acc)
 | comp (nt:Nat) (fr:List Nat) (it:It') (tg:Tg) (ifs:Eo) (elt:E)
inductive Es where | nil | cons (e:E)(es:Es)
inductive Eo where | none | some (e:E)
inductive It' where | seq (e:E) | rg1 (e:E) | rg2 (a b:E) | enm (e:E) | zip (a b:E)
end
mutual
inductive S' where
 | ex (e:E) | set (i:Nat) (e:E) | asg (t:Tg) (e:E) | par (is:List Nat) (es:Es) | aug (i:Nat) (o:Bo) (e:E)
 | ret (e:E) | iff (c:E) (a b:Ss) | fr (t:Tg) (it:It') (b:Ss) | cont
 | app (i:Nat) (e:E) | ins (i:Nat) (k e:E) | sti (i:Nat) (k e:E)
 | sdc (i nt:Nat) (fr:List Nat) (it:It') (tg:Tg) (ke ve:E)
inductive Ss where | nil | cons (s:S')(ss:Ss)
end
structure Fn where
 io:List Bool
 n:Nat
 body:Ss
structure Ct where
 io:Nat->List Bool
 call:Nat->List OD->Option (OD × List OD)
 mak:Nat->List OD->Option (OD × List OD)
 gv:Nat->PyData
 wf:Nat
def Bi:OD->Option PyData | .fz d=>some d | _=>none
def yM:OD->Option (List OD) | .lst xs=>some xs | _=>none
def DZ:OD->Option (List Key × List OD) | .dic ks xs=>some (ks,xs) | _=>none
def EJ(x:OD):Option (List OD):=match x with | .lst xs=>some xs | .tup xs=>some xs | _=>none
def inP:PyData->Option Int | .int i=>some i | _=>none
def Bj:PyData->Option Bool | .bool k=>some k | _=>none
def pC:PyData->Option (List PyData) | .list ds=>some ds | _=>none
def rl:PyData->Option (List PyData) | .list ds=>some ds | .tuple ds=>some ds | _=>none
def gd(c:Prop)[Decidable c]:Option Unit:=if c then some () else none
def dJ{α:Type}:List α->Option α | [x]=>some x | _=>none
def yN{α:Type}:List α->Option (α × α × α) | [x,y,z]=>some (x,y,z) | _=>none
def CS:PyData->Option (List PyData) | .tuple ds=>some ds | _=>none
def eh{α:Type}:List α->Option (α × α) | [x,y]=>some (x,y) | _=>none
def EK:Bo->Int->Int->Option Int
 | .add,i,j=>some (i + j)
 | .sub,i,j=>some (i - j)
 | .mul,i,j=>(gd ((-(2 ^ 64) < i/\i < 2 ^ 64)\/(-(2 ^ 64) < j/\j < 2 ^ 64))).bind fun _=>some (i * j)
 | .fdiv,i,j=>(gd (0 < j/\j < 1073741824)).bind fun _=>some (i / j)
 | .mod,i,j=>(gd (0 < j)).bind fun _=>some (i % j)
 | .pow,i,j=>(gd (0<=j/\j<=1000000/\i.natAbs < 2 ^ 64)).bind fun _=>some (i ^ j.toNat)
def yO(o:Bo)(x y:PyData):Option PyData:=(inP x).bind fun i=>(inP y).bind fun j=>(EK o i j).bind fun k=>some (.int k)
def eqA(x y:PyData):Option Bool:=match k8 x y with
 | some k=>some k
 | none=>if SeqAt.shaped x && SeqAt.shaped y then some (PyData.eqv x y) else none
def inA(x y:PyData):Option Bool:=(rl y).bind fun ds=>(gd (yn x=true)).bind fun _=>memD x ds
def iz(o:Co)(x y:PyData):Option Bool:=match o with
 | .lt=>(inP x).bind fun i=>(inP y).bind fun j=>some (decide (i < j))
 | .le=>(inP x).bind fun i=>(inP y).bind fun j=>some (decide (i<=j))
 | .gt=>(inP x).bind fun i=>(inP y).bind fun j=>some (decide (j < i))
 | .ge=>(inP x).bind fun i=>(inP y).bind fun j=>some (decide (j<=i))
 | .eq=>eqA x y
 | .ne=>(eqA x y).bind fun k=>some (!k)
 | .inn=>inA x y
 | .nin=>(inA x y).bind fun k=>some (!k)
def rm:PyData->Option Bool
 | .none=>some false | .bool b=>some b | .int i=>some (i != 0)
 | .list ds=>some (!ds.isEmpty) | .tuple ds=>some (!ds.isEmpty)
 | _=>none
def iA:Knd->PyData->Bool
 | .int,.int _=>true | .int,.bool _=>true | .bool,.bool _=>true | .str,.str _=>true | .list,.list _=>true | .tuple,.tuple _=>true | .seq,.list _=>true | .seq,.tuple _=>true
 | _,_=>false
def cT:List PyData->Option (List Int)
 | []=>some []
 | d::ds=>(inP d).bind fun i=>(cT ds).bind fun r=>some (i::r)
def unl(ns:List Int):Nat:=(firstMet (fun i=>ns.getD i 0) ns.length).length
def pD(f:Bl)(ds:List PyData):Option PyData:=match f with
 | .len=>(dJ ds).bind fun d=>(lh d).bind fun n=>some (.int n)
 | .abs=>(dJ ds).bind fun d=>(inP d).bind fun i=>some (.int (if i < 0 then -i else i))
 | .max=>(eh ds).bind fun z=>(inP z.1).bind fun i=>(inP z.2).bind fun j=>some (.int (if j > i then j else i))
 | .min=>(eh ds).bind fun z=>(inP z.1).bind fun i=>(inP z.2).bind fun j=>some (.int (if j < i then j else i))
 | .int=>(dJ ds).bind fun d=>(toInt d).bind fun i=>some (.int i)
 | .all=>(dJ ds).bind fun d=>(pC d).bind fun es=>(allB es).bind fun bs=>some (.bool (bs.all id))
 | .mxl=>(dJ ds).bind fun d=>(pC d).bind fun es=>(cT es).bind fun ns=>ns.head?.bind fun n=>some (.int (mxI n ns.tail))
def insI(i:Int):List Int->List Int
 | []=>[i]
 | j::r=>if i<=j then i::j::r else j::insI i r
def sortI:List Int->List Int
 | []=>[]
 | i::r=>insI i (sortI r)
def keyOf:PyData->Option Key
 | .int i=>some (.inl i)
 | .str x=>some (.inr x)
 | _=>none
def accN(ρ:DEnv)(x:OD):Acc->Option Nat
 | .ix k=>(EJ x).bind fun xs=>ixN xs.length k
 | .key j=>(ρ[j]?.join).bind fun y=>(Bi y).bind fun d=>(DZ x).bind fun q=>(keyOf d).bind fun k=>q.1.findIdx? (fun q=>decide (q=k))
def cG(ρ:DEnv)(i:Nat):List Acc->Option (OD × List Nat × OD)
 | []=>(ρ[i]?.join).bind fun x=>some (x,[],x)
 | a::ps=>(cG ρ i ps).bind fun p=>(accN ρ p.2.2 a).bind fun k=>(p.2.2.kids[k]?).bind fun z=>some (p.1,p.2.1++[k],z)
def unpA(x:OD):Option (List OD):=match unpT x with | some xs=>some xs | none=>unpL x
def Bk(ts:List Nat)(x:OD)(ρ:DEnv):Option DEnv:=(unpA x).bind fun xs=>(gd (xs.length=ts.length/\∀i∈ts,i < ρ.length)).bind fun _=>some (cQ ts xs ρ)
def bj:Tg->OD->DEnv->Option DEnv
 | .nm i,x,ρ=>(gd (i < ρ.length)).bind fun _=>some (ρ.set i (some x))
 | .tp ts,x,ρ=>Bk ts x ρ
 | .tn i ts,x,ρ=>(unpA x).bind fun xs=>(eh xs).bind fun z=>(gd (i < ρ.length)).bind fun _=>Bk ts z.2 (ρ.set i (some z.1))
def aW(step:PyData->DEnv->Option (List PyData × DEnv)):List PyData->List PyData->DEnv->Option (List PyData × DEnv)
 | [],out,ρ=>some (out,ρ)
 | d::ds,out,ρ=>(step d ρ).bind fun w=>aW step ds (out++w.1) w.2
def fJ(step:List Key × List OD->PyData->DEnv->Option ((List Key × List OD) × DEnv)):List PyData->List Key × List OD->DEnv->Option ((List Key × List OD) × DEnv)
 | [],o,ρ=>some (o,ρ)
 | d::ds,o,ρ=>(step o d ρ).bind fun w=>fJ step ds w.1 w.2
inductive Fl where | nx | bk | ct | rt (x:OD)
def bx(step:PyData->DEnv->Option (Fl × DEnv)):List PyData->DEnv->Option (Fl × DEnv)
 | [],ρ=>some (.nx,ρ)
 | d::ds,ρ=>(step d ρ).bind fun w=>match w.1 with
  | .nx=>bx step ds w.2
  | .ct=>bx step ds w.2
  | .bk=>some (.nx,w.2)
  | .rt x=>some (.rt x,w.2)
def vt(f:DEnv->Option (OR × DEnv)):(DEnv->Option (OR × DEnv)) × (DEnv->Option (Bool × DEnv)):=(f,fun ρ=>(f ρ).bind fun x=>(ao x.2 x.1).bind fun d=>(rm d).bind fun k=>some (k,x.2))
section
variable(C:Ct)
mutual
def bR:E->(DEnv->Option (OR × DEnv)) × (DEnv->Option (Bool × DEnv))
 | .nm i=>vt fun ρ=>match ρ[i]?.join with
  | some (.fz d)=>some (.val (.fz d),ρ)
  | some _=>some (.rf i,ρ)
  | none=>none
 | .int k=>vt fun ρ=>some (.val (.fz (.int k)),ρ)
 | .str x=>vt fun ρ=>some (.val (.fz (.str x)),ρ)
 | .bl b=>vt fun ρ=>some (.val (.fz (.bool b)),ρ)
 | .gc g=>vt fun ρ=>some (.val (.fz (C.gv g)),ρ)
 | .bop o a b=>vt fun ρ=>((bR a).1 ρ).bind fun x=>((bR b).1 x.2).bind fun y=>(ao y.2 x.1).bind fun dx=>(ao y.2 y.1).bind fun dy=>(yO o dx dy).bind fun d=>some (.val (.fz d),y.2)
 | .cat a b=>vt fun ρ=>((bR a).1 ρ).bind fun x=>((bR b).1 x.2).bind fun y=>(lg y.2 x.1).bind fun dx=>(lg y.2 y.1).bind fun dy=>(gd (dx.length + dy.length<=1000000)).bind fun _=>some (.val (.lst ((dx++dy).map OD.fz)),y.2)
 | .catU a b=>vt fun ρ=>((bR a).1 ρ).bind fun x=>((bR b).1 x.2).bind fun y=>(z5 y.2 x.1).bind fun dx=>(z5 y.2 y.1).bind fun dy=>(gd (dx≠[]/\dx.length + dy.length<=1000000)).bind fun _=>some (.val (.fz (.tuple (dx++dy))),y.2)
 | .cmp o a b=>vt fun ρ=>((bR a).1 ρ).bind fun x=>((bR b).1 x.2).bind fun y=>(ao y.2 x.1).bind fun dx=>(ao y.2 y.1).bind fun dy=>(iz o dx dy).bind fun k=>some (.val (.fz (.bool k)),y.2)
 | .cmp2 o o' a b c=>vt fun ρ=>((bR a).1 ρ).bind fun x=>((bR b).1 x.2).bind fun y=>(ao y.2 x.1).bind fun dx=>(ao y.2 y.1).bind fun dy=>(iz o dx dy).bind fun k=>if k=true then ((bR c).1 y.2).bind fun z=>(ao z.2 y.1).bind fun dy'=>(ao z.2 z.1).bind fun dz=>(iz o' dy' dz).bind fun k'=>some (.val (.fz (.bool k')),z.2) else some (.val (.fz (.bool false)),y.2)
 | .isb neg k a=>vt fun ρ=>((bR a).1 ρ).bind fun x=>(ao x.2 x.1).bind fun d=>(Bj d).bind fun b=>some (.val (.fz (.bool (if neg then !(b == k) else b == k))),x.2)
 | .and a b=>(fun ρ=>((bR a).1 ρ).bind fun x=>(ao x.2 x.1).bind fun d=>(Bj d).bind fun k=>if k=true then (bR b).1 x.2 else some (.val (.fz (.bool false)),x.2),fun ρ=>((bR a).2 ρ).bind fun x=>if x.1=true then (bR b).2 x.2 else some (false,x.2))
 | .or a b=>(fun ρ=>((bR a).1 ρ).bind fun x=>(ao x.2 x.1).bind fun d=>(Bj d).bind fun k=>if k=true then some (.val (.fz (.bool true)),x.2) else (bR b).1 x.2,fun ρ=>((bR a).2 ρ).bind fun x=>if x.1=true then some (true,x.2) else (bR b).2 x.2)
 | .not a=>(fun ρ=>((bR a).1 ρ).bind fun x=>(ao x.2 x.1).bind fun d=>(Bj d).bind fun k=>some (.val (.fz (.bool (!k))),x.2),fun ρ=>((bR a).2 ρ).bind fun x=>some (!x.1,x.2))
 | .neg a=>vt fun ρ=>((bR a).1 ρ).bind fun x=>(ao x.2 x.1).bind fun d=>(inP d).bind fun i=>some (.val (.fz (.int (-i))),x.2)
 | .ife c a b=>vt fun ρ=>((bR c).2 ρ).bind fun x=>if x.1=true then (bR a).1 x.2 else (bR b).1 x.2
 | .tup es=>vt fun ρ=>(evs es ρ).bind fun x=>(mapR own1 x.2 x.1).bind fun z=>(gd (x.1.length<=1000000)).bind fun _=>some (.val (mkTup z.1),z.2)
 | .lst es=>vt fun ρ=>(evs es ρ).bind fun x=>(mapR own1 x.2 x.1).bind fun z=>(gd (x.1.length<=1000000)).bind fun _=>some (.val (.lst z.1),z.2)
 | .ix a b=>vt fun ρ=>((bR a).1 ρ).bind fun x=>((bR b).1 x.2).bind fun y=>(ao y.2 y.1).bind fun d=>(inP d).bind fun i=>(bV y.2 x.1 i).bind fun z=>some (.val z.1,z.2)
 | .sll a lo hi=>vt fun ρ=>((bR a).1 ρ).bind fun x=>(wu lo x.2).bind fun l=>(wu hi l.2).bind fun u=>(lg u.2 x.1).bind fun ds=>some (.val (.lst ((cutD ds l.1 u.1).map OD.fz)),u.2)
 | .call f es=>vt fun ρ=>(evs es ρ).bind fun x=>(bO (C.io f) x.2 x.1).bind fun z=>(C.call f z.1).bind fun w=>some (.val w.1,iy (C.io f) x.1 w.2 z.2)
 | .blt f es=>vt fun ρ=>(evs es ρ).bind fun x=>(dF x.2 x.1).bind fun ds=>(pD f ds).bind fun d=>some (.val (.fz d),x.2)
 | .bnw f e=>vt fun ρ=>((bR e).1 ρ).bind fun x=>match f with
  | .tuple=>((dU x.2 x.1).bind listOf).bind fun ds=>some (.val (.fz (.tuple ds)),x.2)
  | .sorted=>(ao x.2 x.1).bind fun d=>(pC d).bind fun ds=>(cT ds).bind fun ns=>(gd (ns.length < 64)).bind fun _=>some (.val (.lst ((sortI ns).map fun i=>.fz (.int i))),x.2)
 | .isi k a=>vt fun ρ=>((bR a).1 ρ).bind fun x=>(ao x.2 x.1).bind fun d=>some (.val (.fz (.bool (iA k d))),x.2)
 | .lset a=>vt fun ρ=>((bR a).1 ρ).bind fun x=>(ao x.2 x.1).bind fun d=>(rl d).bind fun es=>(cT es).bind fun ns=>(gd (ns.length < 1000)).bind fun _=>some (.val (.fz (.int (unl ns))),x.2)
 | .sht a=>vt fun ρ=>((bR a).1 ρ).bind fun x=>(ao x.2 x.1).bind fun d=>(gd (shB d=true)).bind fun _=>some (.val (.fz (.str (dH d))),x.2)
 | .rvs a=>vt fun ρ=>((bR a).1 ρ).bind fun x=>(lg x.2 x.1).bind fun ds=>some (.val (.lst (ds.reverse.map OD.fz)),x.2)
 | .frz a=>vt fun ρ=>((bR a).1 ρ).bind fun x=>(frz1 x.2 x.1).bind fun z=>some (.val (.fz z.1),z.2)
 | .pg i ps=>vt fun ρ=>(cG ρ i ps).bind fun p=>(Bi p.2.2).bind fun d=>some (.val (.fz d),ρ)
 | .din neg e i ps=>vt fun ρ=>((bR e).1 ρ).bind fun x=>(ao x.2 x.1).bind fun dx=>(cG x.2 i ps).bind fun p=>(keyOf dx).bind fun k=>(DZ p.2.2).bind fun q=>some (.val (.fz (.bool (if neg then !(q.1.any fun q=>decide (q=k)) else q.1.any fun q=>decide (q=k)))),x.2)
 | .comp nt fr it tg ifs elt=>vt fun ρ=>(ia it ρ).bind fun x=>(gd (x.1.length < 1000000)).bind fun _=>(cy x.2 fr).bind fun z =>
   (aW (fun d ρ'=>(bj tg (.fz d) ρ').bind fun ρ1=>(D0 ifs ρ1).bind fun k=>if k.1=true then ((bR elt).1 k.2).bind fun y=>(frz1 y.2 y.1).bind fun q=>some ([q.1],q.2) else some ([],k.2)) x.1 [] (List.replicate nt none++z.1)).bind fun w =>
    some (.val (.lst (w.1.map OD.fz)),dX z.2 fr (w.2.drop nt))
def evs:Es->DEnv->Option (List OR × DEnv)
 | .nil,ρ=>some ([],ρ)
 | .cons e es,ρ=>((bR e).1 ρ).bind fun x=>(evs es x.2).bind fun y=>some (x.1::y.1,y.2)
def wu:Eo->DEnv->Option (Option Int × DEnv)
 | .none,ρ=>some (none,ρ)
 | .some e,ρ=>((bR e).1 ρ).bind fun x=>(ao x.2 x.1).bind fun d=>(inP d).bind fun i=>some (some i,x.2)
def D0:Eo->DEnv->Option (Bool × DEnv)
 | .none,ρ=>some (true,ρ)
 | .some e,ρ=>(bR e).2 ρ
def ia:It'->DEnv->Option (List PyData × DEnv)
 | .seq e,ρ=>((bR e).1 ρ).bind fun x=>(frz1 x.2 x.1).bind fun z=>(rl z.1).bind fun ds=>some (ds,z.2)
 | .rg1 e,ρ=>((bR e).1 ρ).bind fun x=>(ao x.2 x.1).bind fun d=>(inP d).bind fun j=>(gd (-(2 ^ 62)<=j/\j < 2 ^ 62)).bind fun _=>some (bW 0 j.toNat,x.2)
 | .rg2 a b,ρ=>((bR a).1 ρ).bind fun x=>((bR b).1 x.2).bind fun y=>(ao y.2 x.1).bind fun d=>(inP d).bind fun i=>(ao y.2 y.1).bind fun d'=>(inP d').bind fun j=>(gd (-(2 ^ 62)<=i/\i < 2 ^ 62/\-(2 ^ 62)<=j/\j < 2 ^ 62)).bind fun _=>some (bW i (j - i).toNat,y.2)
 | .enm e,ρ=>((bR e).1 ρ).bind fun x=>(frz1 x.2 x.1).bind fun z=>(pC z.1).bind fun ds=>some (bB ds,z.2)
 | .zip a b,ρ=>((bR a).1 ρ).bind fun x=>((bR b).1 x.2).bind fun y=>(frz1 y.2 x.1).bind fun z=>(frz1 z.2 y.1).bind fun w=>(rl z.1).bind fun ds=>(rl w.1).bind fun es=>some (b9 ds es,w.2)
end
abbrev ev(e:E)(ρ:DEnv):=(bR C e).1 ρ
abbrev ba(e:E)(ρ:DEnv):=(bR C e).2 ρ
end
example (C:Ct) (ρ:DEnv):ev C (.bop .add (.int 1) (.int 2)) ρ=some (.val (.fz (.int 3)),ρ):=rfl
example (C:Ct) (ρ:DEnv):ba C (.and (.bl true) (.not (.cmp .lt (.int 1) (.int 2)))) ρ=some (false,ρ):=rfl
end
section
theorem bnd{α β:Type}{o:Option α}{f:α->Option β}{x:β}(h:o.bind f=some x):∃a,o=some a/\f a=some x:=aaJ.mp h
theorem lx{x:OD}{d:PyData}(h:Bi x=some d):x=.fz d:=by cases x<;>cases h;rfl
theorem gn{x:OD}{xs:List OD}(h:yM x=some xs):x=.lst xs:=by cases x<;>cases h;rfl
theorem yP{x:OD}{z:List Key × List OD}(h:DZ x=some z):x=.dic z.1 z.2:=by cases x<;>cases h;rfl
theorem yQ{x:OD}{xs:List OD}(h:EJ x=some xs):x=.lst xs\/x=.tup xs:=by cases x<;>cases h<;>first | exact .inl rfl | exact .inr rfl
theorem aV{d:PyData}{i:Int}(h:inP d=some i):d=.int i:=by cases d<;>cases h;rfl
theorem gq{d:PyData}{i:Bool}(h:Bj d=some i):d=.bool i:=by cases d<;>cases h;rfl
theorem ji{d:PyData}{i:List PyData}(h:pC d=some i):d=.list i:=by cases d<;>cases h;rfl
theorem jk{d:PyData}{i:List PyData}(h:rl d=some i):d=.list i\/d=.tuple i:=by cases d<;>cases h<;>first | exact .inl rfl | exact .inr rfl
theorem gd_ok{c:Prop}[Decidable c]{u:Unit}(h:gd c=some u):c:=by
 by_cases hc:c
 ·exact hc
 ·rw[gd,if_neg hc]at h;cases h
theorem one1_ok{α:Type}{l:List α}{x:α}(h:dJ l=some x):l=[x]:=by
 cases l with
 | nil=>cases h
 | cons y l=>cases l<;>cases h;rfl
theorem thr3_ok{α:Type}{l:List α}{x:α × α × α}(h:yN l=some x):l=[x.1,x.2.1,x.2.2]:=by
 cases l with
 | nil=>cases h
 | cons y l =>
  cases l with
  | nil=>cases h
  | cons z l =>
   cases l with
   | nil=>cases h
   | cons w l=>cases l<;>cases h;rfl
theorem rn{d:PyData}{i:List PyData}(h:CS d=some i):d=.tuple i:=by cases d<;>cases h;rfl
theorem two2_ok{α:Type}{l:List α}{x:α × α}(h:eh l=some x):l=[x.1,x.2]:=by
 cases l with
 | nil=>cases h
 | cons y l =>
  cases l with
  | nil=>cases h
  | cons z l=>cases l<;>cases h;rfl
section
variable(C:Ct)
def bN(k:Key)(d:PyData)(ks:List Key)(xs:List OD):List Key × List OD :=
 if (ks.any fun q=>decide (q=k))=true then (ks,List.zipWith (fun q x=>if q=k then .fz d else x) ks xs) else (ks++[k],xs++[.fz d])
def uO:Bo->Int->PyData->Option Int
 | .add,a,.int k=>some (a + k)
 | .sub,a,.int k=>some (a - k)
 | _,_,_=>none
open Classical in
def dAct(ke ve:E)(o:List Key × List OD)(ρ:DEnv):Option ((List Key × List OD) × DEnv):=(ev C ke ρ).bind fun x=>(ev C ve x.2).bind fun y=>(ao y.2 x.1).bind fun kd=>(keyOf kd).bind fun kk=>(ao y.2 y.1).bind fun dv=>(gd (CQ dv=true)).bind fun _=>some (bN kk dv o.1 o.2,y.2)
def j8(tg:Tg)(ke ve:E)(o:List Key × List OD)(d:PyData)(ρ:DEnv):Option ((List Key × List OD) × DEnv):=(bj tg (.fz d) ρ).bind fun ρ1=>dAct C ke ve o ρ1
mutual
def bD:S'->DEnv->Option (Fl × DEnv)
 | .ex e,ρ=>(ev C e ρ).bind fun x=>some (.nx,x.2)
 | .set i e,ρ=>(ev C e ρ).bind fun x=>(own1 x.2 x.1).bind fun z=>(gd (i < z.2.length)).bind fun _=>some (.nx,z.2.set i (some z.1))
 | .asg t e,ρ=>(ev C e ρ).bind fun x=>(own1 x.2 x.1).bind fun z=>(bj t z.1 z.2).bind fun ρ1=>some (.nx,ρ1)
 | .par is es,ρ=>(evs C es ρ).bind fun x=>(mapR own1 x.2 x.1).bind fun z=>(gd (z.1.length=is.length/\∀i∈is,i < z.2.length)).bind fun _=>some (.nx,cQ is z.1 z.2)
 | .aug i o e,ρ=>(ρ[i]?.join).bind fun x0=>(Bi x0).bind fun d0=>(inP d0).bind fun a=>(ev C e ρ).bind fun x=>(ao x.2 x.1).bind fun d=>(uO o a d).bind fun r=>some (.nx,x.2.set i (some (.fz (.int r))))
 | .ret e,ρ=>(ev C e ρ).bind fun x=>(mv1 x.2 x.1).bind fun z=>some (.rt z.1,z.2)
 | .iff c a b,ρ=>(ba C c ρ).bind fun x=>if x.1=true then aN a x.2 else aN b x.2
 | .fr t it b,ρ=>(ia C it ρ).bind fun x=>bx (fun d ρ'=>(bj t (.fz d) ρ').bind fun ρ1=>aN b ρ1) x.1 x.2
 | .cont,ρ=>some (.ct,ρ)
 | .app i e,ρ=>(ρ[i]?.join).bind fun x0=>(yM x0).bind fun _=>(ev C e ρ).bind fun x=>(own1 x.2 x.1).bind fun z=>(z.2[i]?.join).bind fun x1=>(yM x1).bind fun xs=>(gd (xs.length < 1000000)).bind fun _=>some (.nx,z.2.set i (some (.lst (xs++[z.1]))))
 | .ins i k e,ρ=>(ρ[i]?.join).bind fun x0=>(yM x0).bind fun _=>(ev C k ρ).bind fun q=>(ev C e q.2).bind fun x=>(ao x.2 q.1).bind fun dk=>(inP dk).bind fun k=>(ao x.2 x.1).bind fun d=>(gd (CQ d=true)).bind fun _=>(x.2[i]?.join).bind fun x1=>(yM x1).bind fun xs=>(gd (0<=k/\k<=xs.length/\xs.length < 100000)).bind fun _=>some (.nx,x.2.set i (some (.lst (xs.take k.toNat++.fz d::xs.drop k.toNat))))
 | .sti i k e,ρ=>(ev C e ρ).bind fun x=>(own1 x.2 x.1).bind fun z=>(z.2[i]?.join).bind fun x0=>(yM x0).bind fun _=>(ev C k z.2).bind fun q=>(ao q.2 q.1).bind fun d=>(inP d).bind fun k=>(q.2[i]?.join).bind fun x1=>(yM x1).bind fun xs=>(ixN xs.length k).bind fun j=>some (.nx,q.2.set i (some (.lst (xs.set j z.1))))
 | .sdc i nt fr it tg ke ve,ρ=>(ia C it ρ).bind fun x=>(gd (x.1.length < 1000000)).bind fun _=>(cy x.2 fr).bind fun z=>(fJ (j8 C tg ke ve) x.1 ([],[]) (List.replicate nt none++z.1)).bind fun w=>(gd (i < (dX z.2 fr (w.2.drop nt)).length)).bind fun _=>some (.nx,(dX z.2 fr (w.2.drop nt)).set i (some (.dic w.1.1 w.1.2)))
def aN:Ss->DEnv->Option (Fl × DEnv)
 | .nil,ρ=>some (.nx,ρ)
 | .cons s ss,ρ=>(bD s ρ).bind fun x=>match x.1 with
  | .nx=>aN ss x.2
  | fl=>some (fl,x.2)
end
def uP(fn:Fn)(xs:List OD):Option (OD × List OD):=(aN C fn.body (dG fn.n xs)).bind fun x=>match x.1 with
 | .nx=>(aU 0 fn.io xs x.2).bind fun ys=>some (.fz .none,ys)
 | .rt o=>(aU 0 fn.io xs x.2).bind fun ys=>some (o,ys)
 | _=>none
end
structure Pg where
 F:Nat->Option Fn
 gv:Nat->PyData
 wf:Nat
def Pg.io(p:Pg)(f:Nat):List Bool:=match p.F f with | some fn=>fn.io | none=>[]
def Pg.both(p:Pg):Nat->(Nat->List OD->Option (OD × List OD)) × (Nat->List OD->Option (OD × List OD))
 | 0=>(fun _ _=>none,fun _ _=>none)
 | n + 1=>(fun f xs=>match p.F f with
  | some fn=>if xs.length=fn.io.length then uP ⟨p.io,(Pg.both p n).1,(Pg.both p n).2,p.gv,p.wf⟩ fn xs else none
  | none=>none,(Pg.both p n).1)
def Pg.call(p:Pg)(n f:Nat)(xs:List OD):Option (OD × List OD):=(p.both n).1 f xs
def Pg.mak(p:Pg)(n f:Nat)(xs:List OD):Option (OD × List OD):=(p.both n).2 f xs
abbrev Pg.ct(p:Pg)(n:Nat):Ct:=⟨p.io,p.call n,p.mak n,p.gv,p.wf⟩
theorem Pg.call_succ(p:Pg)(n f:Nat)(xs:List OD):p.call (n + 1) f xs=match p.F f with
  | some fn=>if xs.length=fn.io.length then uP (p.ct n) fn xs else none
  | none=>none:=rfl
end
section
def aF(C:Ct)(m:E):DE:=fun ρ Q=>∃x,ev C m ρ=some x/\Q x.1 x.2
def hJ(C:Ct)(m:E):DT:=fun ρ Q=>∃x,ba C m ρ=some x/\Q x.1 x.2
def ib(C:Ct)(m:Es):DA:=fun ρ Q=>∃x,evs C m ρ=some x/\Q x.1 x.2
def rp(C:Ct)(m:Eo):DO:=fun ρ Q=>∃x,wu C m ρ=some x/\Q x.1 x.2
def fR(C:Ct)(m:It'):DI:=fun ρ Q=>∃x,ia C m ρ=some x/\Q x.1 x.2
section
variable{X:Cx}{e:Expr}{es:List Expr}
theorem PDe.imp:PDe X e d->(∀ρ Q,d' ρ Q->d ρ Q)->PDe X e d'
 | ⟨te,h,s⟩,f=>⟨te,h,fun b F σ H ρ τ θ Qd Q hK R hd q=>s b F σ H ρ τ θ Qd Q hK R (f _ _ hd) q⟩
theorem PDt.imp:PDt X e d->(∀ρ Q,d' ρ Q->d ρ Q)->PDt X e d'
 | ⟨te,h,s⟩,f=>⟨te,h,fun b F σ H ρ τ θ Qd Q hK R hd q=>s b F σ H ρ τ θ Qd Q hK R (f _ _ hd) q⟩
theorem PDw.imp:PDw X e d->(∀ρ Q,d' ρ Q->d ρ Q)->PDw X e d'
 | ⟨te,h,s⟩,f=>⟨te,h,fun b F σ H ρ τ θ Qd Q hK R hd q=>s b F σ H ρ τ θ Qd Q hK R (f _ _ hd) q⟩
theorem PDa.imp:PDa X es d->(∀ρ Q,d' ρ Q->d ρ Q)->PDa X es d'
 | ⟨te,h,s⟩,f=>⟨te,h,fun b F σ H ρ τ θ Qd Q hK R hd q=>s b F σ H ρ τ θ Qd Q hK R (f _ _ hd) q⟩
theorem PDi.imp:PDi X tg e d->(∀ρ Q,d' ρ Q->d ρ Q)->PDi X tg e d'
 | ⟨te,h,s⟩,f=>⟨te,h,fun b F σ H ρ τ θ Qd Q hK R hd q=>s b F σ H ρ τ θ Qd Q hK R (f _ _ hd) q⟩
theorem PDo.imp:PDo X o d->(∀ρ Q,d' ρ Q->d ρ Q)->PDo X o d'
 | ⟨te,h,s⟩,f=>⟨te,h,fun b F σ H ρ τ θ Qd Q hK R hd q=>s b F σ H ρ τ θ Qd Q hK R (f _ _ hd) q⟩
theorem SndR2.or{K:Waa}(h:SndR2 K r d)(h':SndR2 K r' d'):SndR2 K (fun x y H Q=>r x y H Q\/r' x y H Q) (fun x y Q=>d x y Q\/d' x y Q):=fun H v u dx dy Qd Q hv hu z q=>z.imp (fun z=>h H v u dx dy Qd Q hv hu z q) fun z=>h' H v u dx dy Qd Q hv hu z q
theorem SndR2.imp{K:Waa}(h:SndR2 K r d)(f:∀x y Q,d' x y Q->d x y Q):SndR2 K r d':=fun H v u dx dy Qd Q hv hu z q=>h H v u dx dy Qd Q hv hu (f _ _ _ z) q
end
def opOf:Bo->Operator
 | .add=>.Add | .sub=>.Sub | .mul=>.Mult | .fdiv=>.FloorDiv | .mod=>.Mod | .pow=>.Pow
def coOf:Co->CmpOp
 | .lt=>.Lt | .le=>.LtE | .gt=>.Gt | .ge=>.GtE | .eq=>.Eq | .ne=>.NotEq | .inn=>.In | .nin=>.NotIn
def FM(o:Bo):DR2:=fun x y Q=>∃d,yO o x y=some d/\Q d
def FN(o:Co):DR2:=fun x y Q=>∃k,iz o x y=some k/\Q (.bool k)
theorem dq(h:yO o x y=some d):∃i j k,x=.int i/\y=.int j/\EK o i j=some k/\d=.int k:=by
 obtain⟨i,e1,h⟩:=bnd h
 obtain⟨j,e2,h⟩:=bnd h
 obtain⟨k,e3,h⟩:=bnd h
 cases h
 exact⟨i,j,k,aV e1,aV e2,e3,rfl⟩
section
variable{X:Cx}
theorem Bm(o:Bo):∃r2,OpR X (binaryOp (opOf o)) r2/\SndR2 X.K r2 (FM o):=by
 cases o with
 | add =>
  refine⟨_,xJ,(qB fun i j=>.int _).imp fun x y Q hZ=>?_⟩
  obtain⟨d,h,q⟩:=hZ
  obtain⟨i,j,k,rfl,rfl,hk,rfl⟩:=dq h
  cases hk;exact⟨i,j,rfl,rfl,q⟩
 | sub =>
  refine⟨_,xK,(qB fun i j=>.int _).imp fun x y Q hZ=>?_⟩
  obtain⟨d,h,q⟩:=hZ
  obtain⟨i,j,k,rfl,rfl,hk,rfl⟩:=dq h
  cases hk;exact⟨i,j,rfl,rfl,q⟩
 | mul =>
  refine⟨_,xM,(uw fun i j=>.int _).imp fun x y Q hZ=>?_⟩
  obtain⟨d,h,q⟩:=hZ
  obtain⟨i,j,k,rfl,rfl,hk,rfl⟩:=dq h
  obtain⟨_,hc,hk⟩:=bnd hk
  cases hk
  have hc:=gd_ok hc
  exact⟨i,j,rfl,rfl,hc,q⟩
 | fdiv =>
  refine⟨_,tQ,(uw fun i j=>.int _).imp fun x y Q hZ=>?_⟩
  obtain⟨d,h,q⟩:=hZ
  obtain⟨i,j,k,rfl,rfl,hk,rfl⟩:=dq h
  obtain⟨_,hc,hk⟩:=bnd hk
  cases hk
  have hc:=gd_ok hc
  exact⟨i,j,rfl,rfl,hc,q⟩
 | mod =>
  refine⟨_,xN,(uw fun i j=>.int _).imp fun x y Q hZ=>?_⟩
  obtain⟨d,h,q⟩:=hZ
  obtain⟨i,j,k,rfl,rfl,hk,rfl⟩:=dq h
  obtain⟨_,hc,hk⟩:=bnd hk
  cases hk
  have hc:=gd_ok hc
  exact⟨i,j,rfl,rfl,hc,q⟩
 | pow =>
  refine⟨_,xO,(uw fun i j=>.int _).imp fun x y Q hZ=>?_⟩
  obtain⟨d,h,q⟩:=hZ
  obtain⟨i,j,k,rfl,rfl,hk,rfl⟩:=dq h
  obtain⟨_,hc,hk⟩:=bnd hk
  cases hk
  have hc:=gd_ok hc
  exact⟨i,j,rfl,rfl,hc,q⟩
theorem mI(h:eqA x y=some k):k8 x y=some k\/(SeqAt.shaped x=true/\SeqAt.shaped y=true/\k=PyData.eqv x y):=by
 unfold eqA at h
 cases e:k8 x y with
 | some k'=>rw[e]at h;exact .inl h
 | none =>
  rw[e]at h
  simp only at h
  split at h
  ·rename_i hs
   cases h
   obtain⟨a,b⟩:=abG.mp hs
   exact .inr ⟨a,b,rfl⟩
  ·cases h
theorem mJ(h:inA x y=some k):∃ds,(y=.list ds\/y=.tuple ds)/\yn x=true/\memD x ds=some k:=by
 obtain⟨ds,e1,h⟩:=bnd h
 obtain⟨_,e2,h⟩:=bnd h
 exact⟨ds,jk e1,gd_ok e2,h⟩
theorem iB(hu:X.A.units + 64 < cLine)(o:Co):∃r2,OpR X (compareOp (coOf o)) r2/\SndR2 X.K r2 (FN o):=by
 have iis:∀{x y:PyData} {k:Bool} {g:Int->Int->Bool},((inP x).bind fun i=>(inP y).bind fun j=>some (g i j))=some k->∃i j,x=.int i/\y=.int j/\k=g i j:=by
  intro x y k g h
  obtain⟨i,e1,h⟩:=bnd h
  obtain⟨j,e2,h⟩:=bnd h
  cases h
  exact⟨i,j,aV e1,aV e2,rfl⟩
 cases o with
 | lt =>
  refine⟨_,Ap,(ux ).imp fun x y Q hZ=>?_⟩
  obtain⟨k,h,q⟩:=hZ
  obtain⟨i,j,rfl,rfl,rfl⟩:=iis h
  exact⟨i,j,rfl,rfl,q⟩
 | le =>
  refine⟨_,Aq,(ux ).imp fun x y Q hZ=>?_⟩
  obtain⟨k,h,q⟩:=hZ
  obtain⟨i,j,rfl,rfl,rfl⟩:=iis h
  exact⟨i,j,rfl,rfl,q⟩
 | gt =>
  refine⟨_,Ar,(ux ).imp fun x y Q hZ=>?_⟩
  obtain⟨k,h,q⟩:=hZ
  obtain⟨i,j,rfl,rfl,rfl⟩:=iis h
  exact⟨i,j,rfl,rfl,q⟩
 | ge =>
  refine⟨_,As,(ux ).imp fun x y Q hZ=>?_⟩
  obtain⟨k,h,q⟩:=hZ
  obtain⟨i,j,rfl,rfl,rfl⟩:=iis h
  exact⟨i,j,rfl,rfl,q⟩
 | eq =>
  refine⟨_,op_eq.or (xZ hu),(sr_eq.or yl).imp fun x y Q hZ=>?_⟩
  obtain⟨k,h,q⟩:=hZ
  rcases mI h with h | ⟨h1,h2,rfl⟩
  ·exact .inl ⟨k,h,q⟩
  ·exact .inr ⟨h1,h2,q⟩
 | ne =>
  refine⟨_,op_ne.or (x9 hu),(sr_ne.or ym).imp fun x y Q hZ=>?_⟩
  obtain⟨k,h,q⟩:=hZ
  obtain⟨k',e,h⟩:=bnd h
  cases h
  rcases mI e with h | ⟨h1,h2,rfl⟩
  ·exact .inl ⟨k',h,q⟩
  ·exact .inr ⟨h1,h2,q⟩
 | inn =>
  refine⟨_,n5,(wq ).imp fun x y Q hZ=>?_⟩
  obtain⟨k,h,q⟩:=hZ
  obtain⟨ds,h1,h2,h3⟩:=mJ h
  exact⟨ds,k,h1,h2,h3,q⟩
 | nin =>
  refine⟨_,i5,(wq ).imp fun x y Q hZ=>?_⟩
  obtain⟨k,h,q⟩:=hZ
  obtain⟨k',e,h⟩:=bnd h
  cases h
  obtain⟨ds,h1,h2,h3⟩:=mJ e
  exact⟨ds,k',h1,h2,h3,q⟩
end
section
variable{X:Cx}{C:Ct}{a b c e:Expr}{es:List Expr}{ma mb mc:E}{mes:Es}{pos:Pos}
theorem Bp(h1:PDe X a (aF C ma))(h2:PDe X b (aF C mb)):PDe X (.BinOp a (opOf o) b pos) (aF C (.bop o ma mb)):=by
 obtain⟨r2,ho,hr⟩:=Bm o
 refine (AL ho hr h1 h2).imp fun ρ Q hZ=>?_
 obtain⟨x,h,q⟩:=hZ
 obtain⟨xa,e1,h⟩:=bnd h
 obtain⟨xb,e2,h⟩:=bnd h
 obtain⟨dx,e3,h⟩:=bnd h
 obtain⟨dy,e4,h⟩:=bnd h
 obtain⟨d,e5,h⟩:=bnd h
 cases h
 exact⟨xa,e1,xb,e2,dx,dy,e3,e4,d,e5,q⟩
theorem Bq(hu:X.A.units + 64 < cLine)(hm:behindInMarks (coOf o) b=false)(h1:PDe X a (aF C ma))(h2:PDe X b (aF C mb)):PDe X (.Compare a [coOf o] [b] pos) (aF C (.cmp o ma mb)):=by
 obtain⟨r2,ho,hr⟩:=iB hu o
 refine (qC ho hr hm h1 h2).imp fun ρ Q hZ=>?_
 obtain⟨x,h,q⟩:=hZ
 obtain⟨xa,e1,h⟩:=bnd h
 obtain⟨xb,e2,h⟩:=bnd h
 obtain⟨dx,e3,h⟩:=bnd h
 obtain⟨dy,e4,h⟩:=bnd h
 obtain⟨d,e5,h⟩:=bnd h
 cases h
 exact⟨xa,e1,xb,e2,dx,dy,e3,e4,d,e5,q⟩
theorem Br(hu:X.A.units + 64 < cLine)(hm:behindInMarks (coOf o) b=false)(h1:PDe X a (aF C ma))(h2:PDe X b (aF C mb)):PDt X (.Compare a [coOf o] [b] pos) (hJ C (.cmp o ma mb)):=by
 obtain⟨r2,ho,hr⟩:=iB hu o
 refine (mz ho hr hm h1 h2).imp fun ρ Q hZ=>?_
 obtain⟨x,h,q⟩:=hZ
 obtain⟨y,h,h'⟩:=bnd h
 obtain⟨xa,e1,h⟩:=bnd h
 obtain⟨xb,e2,h⟩:=bnd h
 obtain⟨dx,e3,h⟩:=bnd h
 obtain⟨dy,e4,h⟩:=bnd h
 obtain⟨d,e5,h⟩:=bnd h
 cases h
 cases h'
 exact⟨xa,e1,xb,e2,dx,dy,e3,e4,d,e5,d,rfl,q⟩
theorem yR(hu:X.A.units + 64 < cLine)(hm:lastMarks [coOf o,coOf o'] [b,c]=false)(h1:PDe X a (aF C ma))(h2:PDe X b (aF C mb))(h3:PDe X c (aF C mc)):PDe X (.Compare a [coOf o,coOf o'] [b,c] pos) (aF C (.cmp2 o o' ma mb mc)):=by
 obtain⟨r2,ho,hr⟩:=iB hu o
 obtain⟨r2',ho',hr'⟩:=iB hu o'
 refine (qD ho hr ho' hr' hm h1 h2 h3).imp fun ρ Q hZ=>?_
 obtain⟨x,h,q⟩:=hZ
 obtain⟨xa,e1,h⟩:=bnd h
 obtain⟨xb,e2,h⟩:=bnd h
 obtain⟨dx,e3,h⟩:=bnd h
 obtain⟨dy,e4,h⟩:=bnd h
 obtain⟨k,e5,h⟩:=bnd h
 refine⟨xa,e1,xb,e2,dx,dy,e3,e4,k,e5,k,rfl,?_⟩
 cases k with
 | false=>rw[if_neg aah]at h;cases h;rw[if_neg aah];exact q
 | true =>
  rw[if_pos rfl]at h ⊢
  obtain⟨xc,e6,h⟩:=bnd h
  obtain⟨dy',e7,h⟩:=bnd h
  obtain⟨dz,e8,h⟩:=bnd h
  obtain⟨k',e9,h⟩:=bnd h
  cases h
  exact⟨xc,e6,dy',dz,e7,e8,k',e9,q⟩
end
end
section
def isStar:Expr->Bool
 | .Starred _ _=>true
 | _=>false
theorem aB{e:Expr}{es:List Expr}{env:Env}(h:isStar e=false):starEach (e::es) env=(false,eval e env)::starEach es env:=by
 cases e<;>first | rfl | cases h
theorem cA{pos:Pos}{env:Env}:∀{es:List Expr},es.any isStar=false->(backTo pos (starEach es env)).any (·.1)=false
 | [],_=>rfl
 | e::es,h=>by
  rw[aa7,acw]at h
  rw[aB h.1]
  show (false || (backTo pos (starEach es env)).any (·.1))=false
  rw[cA h.2];rfl
def plainT:Expr->Bool
 | .UnaryOp .Not _ _=>false
 | .BoolOp _ _ _=>false
 | .IfExp _ _ _ _=>false
 | .Compare _ _ _ _=>false
 | _=>true
theorem plainT_ok{e:Expr}{env:Env}(h:plainT e=true):∀whole,isTrue e env whole=(do let v <- whole;standAt e.pos;holding [v] (truthy v)):=by
 intro whole
 cases e with
 | UnaryOp op x p=>cases op<;>first | rfl | cases h
 | _=>first | rfl | cases h
section
variable{X:Cx}{C:Ct}{a b c e:Expr}{es:List Expr}{ma mb mc:E}{mes:Es}{pos p:Pos}{x:Str}{i:Nat}
theorem Bt{ρ:DEnv}:ev C (.nm i) ρ=(match ρ[i]?.join with | some (.fz d)=>some (.val (.fz d),ρ) | some _=>some (.rf i,ρ) | none=>none):=rfl
theorem D1 (hN:X.N[i]?=some x) (hv:Vis X.env.scope x) (hd:(x == ("__debug__":Str))=false) (hcd:(x == ("__classdict__":Str))=false):PDe X (.Name x pos) (aF C (.nm i)):=by
 refine (yk hN hv hd hcd).imp fun ρ Q hZ=>?_
 obtain⟨y,h,q⟩:=hZ
 unfold dVar
 rw[Bt]at h
 cases e:ρ[i]?.join with
 | none=>rw[e]at h;cases h
 | some z=>rw[e]at h;cases z<;>(simp only at h;cases h;exact q)
theorem Bu{k:Int}{j pos}:PDe X (.Constant (.int k) j pos) (aF C (.int k)):=pd_int.imp fun ρ Q ⟨y,h,q⟩=>by cases h;exact q
theorem Bv{k:Str}{j pos}:PDe X (.Constant (.str k) j pos) (aF C (.str k)):=pd_str.imp fun ρ Q ⟨y,h,q⟩=>by cases h;exact q
theorem D2{k:Bool}{j pos}:PDe X (.Constant (.bool k) j pos) (aF C (.bl k)):=pd_bl.imp fun ρ Q ⟨y,h,q⟩=>by cases h;exact q
theorem D3 {g:Nat} {v:V} {u:Value} (hg:Gl X x) (hm:X.mg x=some u) (r:RelV v u) (s:∀S H,Fz X.K S H v (C.gv g)) (hd:(x == ("__debug__":Str))=false):PDe X (.Name x pos) (aF C (.gc g)) :=
 (qA hg hm r s hd).imp fun ρ Q ⟨y,h,q⟩=>by cases h;exact q
theorem rq{neg:Bool}{K:Waa}:SndR2 K (fun x y H Q=>∃a b:Bool,x=.bl a/\y=.bl b/\Q (.bl (if neg then !(a == b) else a == b)) H) (fun dx dy Q=>∃a b,dx=.bool a/\dy=.bool b/\Q (.bool (if neg then !(a == b) else a == b))):=by
 intro H v u dx dy Qd Q h1 h2 hd q
 obtain⟨a,b,rfl,rfl,hd⟩:=hd
 cases h1
 cases h2
 exact⟨a,b,rfl,rfl,q _ _ (.bl _) hd⟩
theorem rz{neg:Bool}:OpR X (compareOp (if neg then .IsNot else .Is)) (fun x y H Q=>∃a b:Bool,x=.bl a/\y=.bl b/\Q (.bl (if neg then !(a == b) else a == b)) H):=by
 cases neg
 ·exact ye
 ·exact ox
theorem Bw{neg k:Bool}{j pos'}(h1:PDe X a (aF C ma)):PDe X (.Compare a [if neg then .IsNot else .Is] [.Constant (.bool k) j pos'] pos) (aF C (.isb neg k ma)):=by
 refine (qC rz rq (nobehind _ (by cases neg<;>decide) (by cases neg<;>decide)) h1 (pd_bl (k:=k))).imp fun ρ Q ⟨y,h,q⟩=>?_
 obtain⟨xa,e1,h⟩:=bnd h
 obtain⟨d,e2,h⟩:=bnd h
 obtain⟨b,e3,h⟩:=bnd h
 cases h
 exact⟨xa,e1,_,_,e2,rfl,b,k,gq e3,rfl,q⟩
theorem By{neg k:Bool}{j pos'}(h1:PDe X a (aF C ma)):PDt X (.Compare a [if neg then .IsNot else .Is] [.Constant (.bool k) j pos'] pos) (hJ C (.isb neg k ma)):=by
 refine (mz rz rq (nobehind _ (by cases neg<;>decide) (by cases neg<;>decide)) h1 (pd_bl (k:=k))).imp fun ρ Q ⟨y,h,q⟩=>?_
 obtain⟨z,h,h'⟩:=bnd h
 obtain⟨xa,e1,h⟩:=bnd h
 obtain⟨d,e2,h⟩:=bnd h
 obtain⟨b,e3,h⟩:=bnd h
 cases h
 cases h'
 exact⟨xa,e1,_,_,e2,rfl,b,k,gq e3,rfl,_,rfl,q⟩
theorem v_and{es:List Expr}(h1:PDe X a (aF C ma))(h2:PDe X (.BoolOp .And (b::es) pos) (aF C mb)):PDe X (.BoolOp .And (a::b::es) pos) (aF C (.and ma mb)):=by
 refine (yq h1 h2).imp fun ρ Q hZ=>?_
 obtain⟨y,h,q⟩:=hZ
 obtain⟨xa,e1,h⟩:=bnd h
 obtain⟨d,e2,h⟩:=bnd h
 obtain⟨k,e3,h⟩:=bnd h
 rw[gq e3]at e2
 refine⟨xa,e1,k,e2,?_⟩
 cases k with
 | false=>rw[if_neg aah]at h ⊢;cases h;exact q
 | true=>rw[if_pos rfl]at h ⊢;exact⟨y,h,q⟩
theorem v_or{es:List Expr}(h1:PDe X a (aF C ma))(h2:PDe X (.BoolOp .Or (b::es) pos) (aF C mb)):PDe X (.BoolOp .Or (a::b::es) pos) (aF C (.or ma mb)):=by
 refine (AQ h1 h2).imp fun ρ Q hZ=>?_
 obtain⟨y,h,q⟩:=hZ
 obtain⟨xa,e1,h⟩:=bnd h
 obtain⟨d,e2,h⟩:=bnd h
 obtain⟨k,e3,h⟩:=bnd h
 rw[gq e3]at e2
 refine⟨xa,e1,k,e2,?_⟩
 cases k with
 | false=>rw[if_neg aah]at h ⊢;exact⟨y,h,q⟩
 | true=>rw[if_pos rfl]at h ⊢;cases h;exact q
theorem v_not(h1:PDe X a (aF C ma)):PDe X (.UnaryOp .Not a pos) (aF C (.not ma)):=by
 refine (yr h1).imp fun ρ Q hZ=>?_
 obtain⟨y,h,q⟩:=hZ
 obtain⟨xa,e1,h⟩:=bnd h
 obtain⟨d,e2,h⟩:=bnd h
 obtain⟨k,e3,h⟩:=bnd h
 cases h
 exact⟨xa,e1,k,by rw[e2,gq e3],q⟩
theorem Bz(h1:PDe X a (aF C ma)):PDe X (.UnaryOp .USub a pos) (aF C (.neg ma)):=by
 refine (yp h1).imp fun ρ Q hZ=>?_
 obtain⟨y,h,q⟩:=hZ
 obtain⟨xa,e1,h⟩:=bnd h
 obtain⟨d,e2,h⟩:=bnd h
 obtain⟨k,e3,h⟩:=bnd h
 cases h
 exact⟨xa,e1,d,e2,k,aV e3,q⟩
theorem BA{es:List Expr}(h1:PDt X a (hJ C ma))(h2:PDw X (.BoolOp .And (b::es) pos) (hJ C mb)):PDw X (.BoolOp .And (a::b::es) pos) (hJ C (.and ma mb)):=by
 refine (uA h1 h2).imp fun ρ Q hZ=>?_
 obtain⟨y,h,q⟩:=hZ
 obtain⟨xa,e1,h⟩:=bnd h
 refine⟨xa,e1,?_⟩
 split at h
 ·rename_i k;rw[if_pos k];exact⟨y,h,q⟩
 ·rename_i k;rw[if_neg k];cases h;exact q
theorem D4{es:List Expr}(h1:PDt X a (hJ C ma))(h2:PDw X (.BoolOp .Or (b::es) pos) (hJ C mb)):PDw X (.BoolOp .Or (a::b::es) pos) (hJ C (.or ma mb)):=by
 refine (yu h1 h2).imp fun ρ Q hZ=>?_
 obtain⟨y,h,q⟩:=hZ
 obtain⟨xa,e1,h⟩:=bnd h
 refine⟨xa,e1,?_⟩
 split at h
 ·rename_i k;rw[if_pos k];cases h;exact q
 ·rename_i k;rw[if_neg k];exact⟨y,h,q⟩
theorem BB(h1:PDt X a (hJ C ma)):PDt X (.UnaryOp .Not a pos) (hJ C (.not ma)):=by
 refine (uB h1).imp fun ρ Q hZ=>?_
 obtain⟨y,h,q⟩:=hZ
 obtain⟨xa,e1,h⟩:=bnd h
 cases h
 exact⟨xa,e1,q⟩
theorem BC(h0:PDt X c (hJ C mc))(h1:PDe X a (aF C ma))(h2:PDe X b (aF C mb)):PDe X (.IfExp c a b pos) (aF C (.ife mc ma mb)):=by
 refine (AU h0 h1 h2).imp fun ρ Q hZ=>?_
 obtain⟨y,h,q⟩:=hZ
 obtain⟨xa,e1,h⟩:=bnd h
 refine⟨xa,e1,?_⟩
 split at h
 ·rename_i k;rw[if_pos k];exact⟨y,h,q⟩
 ·rename_i k;rw[if_neg k];exact⟨y,h,q⟩
theorem uQ{d:PyData}{k:Bool}{H:Hp}{v:V}(h:Dt X.K H v d)(e:rm d=some k):xQ X.K v H k:=by
 cases h with
 | non=>cases e;rfl
 | bl b=>cases e;rfl
 | int i=>cases e;rfl
 | str x=>simp[rm]at e
 | lst s t=>cases e;exact .inl ⟨_,s,by rw[DtAll.emp t]⟩
 | tup s t=>cases e;exact .inr (.inl ⟨_,s,by rw[DtAll.emp t]⟩)
theorem BD{m:E}(hm:ba C m=(vt (ev C m)).2)(he:plainT e=true):PDe X e (aF C m)->PDt X e (hJ C m)
 | ⟨te,h1,s1⟩=>⟨_,pX h1 (plainT_ok he),fun b F σ H ρ τ θ Qd Q hK R ⟨y,h,q⟩ k=>by
  have h':((ev C m ρ).bind fun x=>(ao x.2 x.1).bind fun d=>(rm d).bind fun k=>some (k,x.2))=some y:=by rw[<- h,hm];rfl
  obtain⟨z,e1,h'⟩:=bnd h'
  obtain⟨d,e2,h'⟩:=bnd h'
  obtain⟨t,e3,h'⟩:=bnd h'
  cases h'
  refine s1 b F σ H ρ τ θ (fun r ρ'=>r=z.1/\ρ'=z.2) _ hK R ⟨z,e1,rfl,rfl⟩ fun v H' r ρ' R' hZ=>?_
  obtain⟨h1,h2⟩:=hZ
  subst h1 h2
  have hd:=R'.dt e2
  rw[hK]at hd
  exact⟨t,uQ hd e3,k _ _ _ R'.drop q⟩⟩
theorem fh:PDa X [] (ib C .nil):=pda_nil.imp fun ρ Q ⟨y,h,q⟩=>by cases h;exact q
theorem cg(hs:isStar e=false)(h1:PDe X e (aF C ma))(h2:PDa X es (ib C mes)):PDa X (e::es) (ib C (.cons ma mes)):=by
 refine (qJ (aB hs) h1 h2).imp fun ρ Q hZ=>?_
 obtain⟨y,h,q⟩:=hZ
 obtain⟨xa,e1,h⟩:=bnd h
 obtain⟨xb,e2,h⟩:=bnd h
 cases h
 exact⟨xa,e1,xb,e2,q⟩
theorem BE{x1}(h1:PDa X es (ib C mes)):PDe X (.Tuple es x1 pos) (aF C (.tup mes)):=by
 refine (yv AW h1).imp fun ρ Q hZ=>?_
 obtain⟨y,h,q⟩:=hZ
 obtain⟨xa,e1,h⟩:=bnd h
 obtain⟨z,e2,h⟩:=bnd h
 obtain⟨_,k,h⟩:=bnd h
 cases h
 exact⟨xa,e1,z.1,z.2,e2,gd_ok k,q⟩
theorem BF(h1:PDa X es (ib C mes)):PDe X (.List es pos) (aF C (.lst mes)):=by
 refine (yw AW h1).imp fun ρ Q hZ=>?_
 obtain⟨y,h,q⟩:=hZ
 obtain⟨xa,e1,h⟩:=bnd h
 obtain⟨z,e2,h⟩:=bnd h
 obtain⟨_,k,h⟩:=bnd h
 cases h
 exact⟨xa,e1,z.1,z.2,e2,gd_ok k,q⟩
def bS:Expr->Bool
 | .Slice _ _ _ _=>true
 | _=>false
theorem mK{b:Expr}(h:bS b=false):PlainIx b:=fun o i=>by cases b<;>first | rfl | cases h
theorem D5(hs:bS b=false)(h1:PDe X a (aF C ma))(h2:PDe X b (aF C mb)):PDe X (.Subscript a b pos) (aF C (.ix ma mb)):=by
 refine (AX (mK hs) h1 h2).imp fun ρ Q hZ=>?_
 obtain⟨y,h,q⟩:=hZ
 obtain⟨xa,e1,h⟩:=bnd h
 obtain⟨xb,e2,h⟩:=bnd h
 obtain⟨d,e3,h⟩:=bnd h
 obtain⟨k,e5,h⟩:=bnd h
 obtain⟨z,e4,h⟩:=bnd h
 cases h
 exact⟨xa,e1,xb,e2,k,z.1,z.2,by rw[e3,aV e5],e4,q⟩
theorem uR:PDo X none (rp C .none):=pdo_none.imp fun ρ Q ⟨y,h,q⟩=>by cases h;exact q
theorem uS(h1:PDe X e (aF C ma)):PDo X (some e) (rp C (.some ma)):=by
 refine (qO h1).imp fun ρ Q hZ=>?_
 obtain⟨y,h,q⟩:=hZ
 obtain⟨xa,e1,h⟩:=bnd h
 obtain⟨d,e2,h⟩:=bnd h
 obtain⟨k,e3,h⟩:=bnd h
 cases h
 exact⟨xa,e1,k,by rw[e2,aV e3],q⟩
theorem BG{lo hi:Option Expr}{ml mh:Eo}{p2:Pos}(h1:PDe X e (aF C ma))(h2:PDo X lo (rp C ml))(h3:PDo X hi (rp C mh)):PDe X (.Subscript e (.Slice lo hi none p2) pos) (aF C (.sll ma ml mh)):=by
 refine (yA h1 h2 h3).imp fun ρ Q hZ=>?_
 obtain⟨y,h,q⟩:=hZ
 obtain⟨xa,e1,h⟩:=bnd h
 obtain⟨l,e2,h⟩:=bnd h
 obtain⟨u,e3,h⟩:=bnd h
 obtain⟨ds,e4,h⟩:=bnd h
 cases h
 exact⟨xa,e1,l,e2,u,e3,ds,e4,q⟩
theorem BH(h1:PDe X a (aF C ma))(h2:PDe X b (aF C mb)):PDe X (.BinOp a .Add b pos) (aF C (.cat ma mb)):=by
 refine (yz h1 h2).imp fun ρ Q hZ=>?_
 obtain⟨y,h,q⟩:=hZ
 obtain⟨xa,e1,h⟩:=bnd h
 obtain⟨xb,e2,h⟩:=bnd h
 obtain⟨dx,e3,h⟩:=bnd h
 obtain⟨dy,e4,h⟩:=bnd h
 obtain⟨_,k,h⟩:=bnd h
 cases h
 exact⟨xa,e1,xb,e2,dx,dy,e3,e4,gd_ok k,q⟩
theorem yS(h1:PDe X a (aF C ma))(h2:PDe X b (aF C mb)):PDe X (.BinOp a .Add b pos) (aF C (.catU ma mb)):=by
 refine (uN h1 h2).imp fun ρ Q hZ=>?_
 obtain⟨y,h,q⟩:=hZ
 obtain⟨xa,e1,h⟩:=bnd h
 obtain⟨xb,e2,h⟩:=bnd h
 obtain⟨dx,e3,h⟩:=bnd h
 obtain⟨dy,e4,h⟩:=bnd h
 obtain⟨_,k,h⟩:=bnd h
 cases h
 have k:=gd_ok k
 exact⟨xa,e1,xb,e2,dx,dy,e3,e4,k.1,k.2,q⟩
theorem BI(h1:PDe X a (aF C ma)):PDe X a (aF C (.frz ma)):=by
 obtain⟨te,h,s⟩:=h1
 refine⟨te,h,fun b F σ H ρ τ θ Qd Q hK R ⟨y,h,q⟩ k=>?_⟩
 obtain⟨xa,e1,h⟩:=bnd h
 obtain⟨z,e2,h⟩:=bnd h
 cases h
 refine s b F σ H ρ τ θ (fun r ρ'=>r=xa.1/\ρ'=xa.2) _ hK R ⟨xa,e1,rfl,rfl⟩ fun v H' r ρ' R' hZ=>?_
 obtain⟨h1,h2⟩:=hZ
 subst h1 h2
 exact k v H' _ _ (R'.frz1 e2) q
theorem yT {f:Nat} {k:Nat} {fa:Addr} {fd:FuncData} {ps:List Str} (G:FnD X.prog X.w X.K X.mg X.base k fa fd ps (fun xs Q=>∃w,C.call f xs=some w/\Q w.1 w.2)) (hr:Room k X.A) (hg:Gl X x) (hm:X.mg x=some (.ref fa)) (hk:PySem.W.keepIn X.K (.ref fa)=true) (hb:Binds X.K fd ps []) (hdb:(x == ("__debug__":Str))=false)
  (he:isStar e=false) (hes:es.any isStar=false) (h1:PDa X (e::es) (ib C mes)):PDe X (.Call (.Name x p) (e::es) [] pos) (aF C (.call f mes)):=by
 refine (uM (ios:=C.io f) G hr hg hm hk hb hdb (aB he) (cA hes) h1).imp fun ρ Q hZ=>?_
 obtain⟨y,h,q⟩:=hZ
 obtain⟨xa,e1,h⟩:=bnd h
 obtain⟨z,e2,h⟩:=bnd h
 obtain⟨w,e3,h⟩:=bnd h
 cases h
 exact⟨xa,e1,z.1,z.2,e2,w,e3,q⟩
end
end
end L2
namespace PySem
open PySem.Spec
section
variable{prog:Program}{w:World}{A:Around}{E:Value->Shared->Prop}{s:Shared}
abbrev stN(led:Bool):Obj:={ cls:=.type "set",dict:=none,data:=.set #[] 0 (.fresh 0 0 led) }
set_option maxHeartbeats 3200000 in
theorem jl{l:Addr}{items:Array Value}{ns:List Int}{Q:Value->Shared->Prop}(hh:A.handled=none)(hl:s.heap.IsTuple l items)(hi:PyProof.Rows.IntsAre items.toList ns)(hb:items.size + 1 < scanBound)
  (h:∀(h':Heap) (tk:Nat),h'.SetOf (intKind prog w) s.heap.objs.size (fun k'=>(PyProof.Rows.firstMet (fun i=>ns.getD i 0) items.size).any (· == k')) (PyProof.Rows.firstMet (fun i=>ns.getD i 0) items.size).length->(∀b o,b < s.heap.objs.size->s.heap.get? b=some o->h'.get? b=some o)->Q (.ref s.heap.objs.size) { s with heap:=h',toks:=tk }) :
  wpAny (model prog w) A (call (.type "set") [.ref l]) Q E s:=by
 obtain⟨c,tl,hmro⟩:=F.called_set.mro;have hmade:=F.called_set.made;have hsub:=F.called_set.sub
 refine wpAny_call (codeAny_of_tree ?_);show wpAny _ _ (callAny (.type "set") _) _ _ _
 refine wpAny_pure ⟨Code.quiet_builtin _ (by decide +kernel),codeAny_builtin F.entry_type_call ?_⟩;rw[Around.under_plain (weight_type_call_type "set" [.ref l] []) rfl]
 have h1:=F.called_set.notType;have h2:=F.called_set.canCreate;have hct:=F.typeCall_set_1 (.ref l)
 repeat (any_goals (first | assumption | wp_step))
 refine codeAny_mono (code_set_new_1 (.ref l) (E:=E) (Q₁:=fun obj s₁=>∃led:Bool,obj=.ref s.heap.objs.size/\s₁={ s with heap:=s.heap.push (stN led) }) fun led=>⟨led,rfl,rfl⟩) fun r s₁ hr=>?_
 cases r with
 | error e=>exact hr
 | ok fl =>
  cases fl with
  | ret obj =>
   obtain⟨led,rfl,rfl⟩:=hr
   have hS:(s.heap.push (stN led)).get? s.heap.objs.size=some (stN led):=Heap.get?_push_size _ rfl
   have hT:Shared.TypeIs { s with heap:=s.heap.push (stN led) } (.ref s.heap.objs.size) "set":=⟨_,hS,rfl⟩
   have hli:=F.called_set.init.lookup;have hbi:=F.called_set.init.bind (.ref s.heap.objs.size)
   repeat (any_goals (first | assumption | wp_step))
   refine codeAny_mono (codeAny_call_builtin (R:=wants (fun r s₂=>r=.none/\∃h' tk,s₂={ s with heap:=h',toks:=tk }/\h'.SetOf (intKind prog w) s.heap.objs.size (fun k'=>(PyProof.Rows.firstMet (fun i=>ns.getD i 0) items.size).any (· == k')) (PyProof.Rows.firstMet (fun i=>ns.getD i 0) items.size).length/\(∀b o,b < s.heap.objs.size->s.heap.get? b=some o->h'.get? b=some o)) E) F.called_set.init.plain F.entry_set_init (check_set_init_1 hT ?_)) fun r₂ s₂ hr₂=>?_
   ·have hl1:(s.heap.push (stN led)).IsTuple l items:=hl.push _
    obtain⟨ol,hol,hcl,hdl⟩:=id hl
    obtain⟨nl,hdl⟩:=hdl
    obtain⟨ocls,odict,odata,oslots⟩:=ol
    simp only at hcl hdl;subst hcl;subst hdl
    have hol':(s.heap.push (stN led)).get? l=some { cls:=.type "tuple",dict:=odict,data:=.seq items nl,slots:=oslots }:=Heap.get?_push_of_some _ hol
    have hsls:=F.sub_tuple_set;have hslf:=F.sub_tuple_frozenset
    have hne:(Value.type "tuple" == Value.type "dict")=false:=by decide
    unfold Builtin.«set.__init__» noKeywords Builtin.Frozenset.updateFrom;generalize hPI:pyIter=PI
    wp_walk
    subst hPI
    refine wpAny_pyIter_tuple hl1 ?_
    refine wpAny_bind (wpAny_runValue ?_)
    have hlS:l < s.heap.objs.size:=Heap.lt_size hol
    have hneI:l≠(s.heap.push (stN led)).objs.size:=by rw[Heap.size_push];exact aao (abf hlS)
    have hSf:s.heap.objs.size ∉ [(s.heap.push (stN led)).objs.size,l]:=by
     rw[Heap.size_push];simp only[aab,aaB,aak,or_false,not_or];exact⟨aao (abn _),aaX hlS⟩
    refine PyProof.Rows.codeAny_set_update_loopS ((Walks.tuple (by simp[hh]:A.in1.in1.in1.handled=none) _ l hneI items).toS) s.heap.objs.size hSf (fun i=>ns.getD i 0) (fun i v hv=>PyProof.Rows.IntsAre.int_at hi i v (by rw[aco];exact hv)) hb (items.size - 0) 0 _ (by omega) (aaE _) ⟨⟨_,Heap.get?_push_size _ rfl,rfl,rfl⟩,(hl1.push _)⟩ ?hS0 ?hR
    case hS0=>exact PyProof.Rows.SetOf_congr ((PyProof.Rows.setObjOf_fresh (knd:=intKind prog w) led).setOf (Heap.get?_push_of_some _ hS) (by unfold scanBound;omega)) (fun _=>rfl) rfl
    case hR =>
     intro s' hm hS';obtain⟨h',g',d',tk',os'⟩:=s'
     have eg:g'=s.gens:=hm.gens;have ed:d'=s.drawn:=hm.drawn;have eo:os'=s.os:=hm.os
     subst eg;subst ed;subst eo
     show wpAny _ _ _ _ _ _;refine wpAny_pure ?_;show wpAny _ _ (ret Value.none) _ _ _
     refine wpAny_pure ⟨rfl,h',tk',rfl,hS',fun b o hb e=>hm.heap b o ?_ (Heap.get?_push_of_some _ (Heap.get?_push_of_some _ e))⟩
     simp only[aab,aaB,aak,or_false,not_or];exact⟨aao hb,by rw[Heap.size_push];exact aao (abf hb)⟩
   ·cases r₂ with
    | error e=>exact hr₂
    | ok fl₂ =>
     cases fl₂ with
     | ret r =>
      obtain⟨rfl,h',tk,rfl,hS',hk'⟩:=hr₂
      repeat (any_goals (first | assumption | wp_step))
      exact h _ _ hS' hk'
     | _=>exact hr₂.elim
  | _=>exact hr.elim
end
end PySem
namespace L2
open PySem PySem.Spec PyProof.Rows
section
section
variable{X:Cx}{K:Waa}
theorem oO:bootBuiltins "sorted"=some (.builtin "sorted"):=by decide +kernel
theorem ints_vals:∀{ns:List Int} {us:List Value},Vals (ns.map V.int) us->IntsAre us ns
 | [],_,r=>by rw[aaQ]at r;cases r;exact .nil
 | n::ns,_,r=>by
  rw[aaj]at r
  cases r with
  | cons r1 r2=>obtain⟨t,rfl⟩:=r1;exact .cons n t (ints_vals r2)
def uT(K:Waa):List V->Hp->VK->Prop:=fun xs H Q=>∃(p:Addr) (ns:List Int),xs=[.ref p]/\SqL K H p (ns.map V.int)/\ns.length < 64/\∀(ns':List Int) (a:Addr),ns'.Perm ns->ns'.Pairwise (·<=·)->H a=none->Q (.ref a) (upd H a (.lst (ns'.map V.int)))
theorem j9:bE X (.builtin "sorted") (uT X.K):=by
 intro pins s σ H xs us Q I r h
 obtain⟨p,ns,rfl,hq,hl,q⟩:=h
 obtain⟨u,rfl,rx⟩:=vals1 r
 cases rx
 obtain⟨its,r',pl,hz⟩:=I.list hq
 have hb:=ints_vals r'
 have hlen:its.length=ns.length:=by have:=r'.length;rw[aaa]at this;exact this.symm
 refine sorted_ints pl.isList hb (by omega) fun out ns' h1 h2 h3=>?_
 obtain⟨e,he⟩:=sortedAll_at s.heap its out
 have sl:64<=sizeLine:=by decide
 refine⟨.ref _,_,I.laid (t':=s.toks) (a:=s.heap.objs.size + 1) (o:=.lst (ns'.map V.int)) (fun b u hu=>sortedAll_old hu) (abm _) ⟨?_,out.toList,e,vals_ints h1,he⟩,rfl,q ns' _ h2 h3 (I.hok.fresh (abm _))⟩
 rw[aaa,h2.length_eq]
 omega
theorem oP(hc:X.calm=true):bE X (.type "set") (fun xs H Q=>∃(p:Addr) (ns:List Int),xs=[.ref p]/\(SqL X.K H p (ns.map V.int)\/SqT X.K H p (ns.map V.int))/\ns.length < 1000/\∀a S,H a=none->Q (.ref a) (upd H a (.set S (unl ns)))):=by
 intro pins s σ H xs us Q I r h
 obtain⟨p,ns,rfl,hq,hl,q⟩:=h
 obtain⟨u,rfl,rx⟩:=vals1 r
 cases rx
 have fin:∀{its:List Value},Vals (ns.map V.int) its->∀(h':Heap) (tk:Nat),h'.SetOf (intKind X.prog X.w) s.heap.objs.size (fun k'=>(firstMet (fun i=>ns.getD i 0) its.toArray.size).any (· == k')) (firstMet (fun i=>ns.getD i 0) its.toArray.size).length->(∀b o,b < s.heap.objs.size->s.heap.get? b=some o->h'.get? b=some o)->EP X pins σ Q (.ref s.heap.objs.size) { s with heap:=h',toks:=tk }:=fun {its} r' h' tk hS hk=>by
  have hlen:its.toArray.size=ns.length:=by have:=r'.length;rw[aaa]at this;exact this.symm
  rw[hlen]at hS
  exact⟨.ref _,_,I.laid (o:=.set _ (unl ns)) (fun b u hu=>hk b u (Heap.lt_size hu) hu) (aac _) hS,rfl,q _ _ (I.hok.fresh (aac _))⟩
 have hsz:∀{its:List Value},Vals (ns.map V.int) its->its.toArray.size + 1 < scanBound:=fun {its} r'=>by have:=r'.length;rw[aaa]at this;rw[aat,<- this];unfold scanBound;omega
 rcases hq with hq | hq
 ·obtain⟨its,r',pl,hz⟩:=I.list hq
  exact call_set_list (ns:=ns) (I.ok.hd hc) pl.isList (ints_vals r') (hsz r') (fin r')
 ·obtain⟨its,r',pl,hz⟩:=I.tuple hq
  have pt:s.heap.IsTuple p its.toArray:=pl
  exact jl (ns:=ns) (I.ok.hd hc) pt (ints_vals r') (hsz r') (fin r')
theorem oQ:bE X (.builtin "len") (fun xs H Q=>∃p S n,xs=[.ref p]/\H p=some (.set S n)/\Q (.int n) H):=by
 intro pins s σ H xs us Q I r h
 obtain⟨p,S,n,rfl,hp,q⟩:=h
 obtain⟨u,rfl,rx⟩:=vals1 r
 cases rx
 obtain⟨o,es,ep,t,h1,h2,h3,h4,h5,h6,h7,rfl⟩:=I.hok p _ hp
 exact call_len_set h1 h2 h3 h7 (by unfold scanBound at h6;omega) ⟨.int _,H,I.tok _,⟨_,rfl⟩,q⟩
theorem yU:bootBuiltins "set"=some (.type "set"):=by decide +kernel
end
def EL(T:String):PyData->Bool
 | .bool _=>T == "bool" || T == "int"
 | .int _=>T == "int"
 | .str _=>T == "str"
 | .list _=>T == "list"
 | .tuple _=>T == "tuple"
 | _=>false
inductive KindT:String->Prop
 | int:KindT "int" | bool:KindT "bool" | str:KindT "str" | list:KindT "list" | tuple:KindT "tuple"
theorem Dt.kind{K:Waa}{H:Hp}{v:V}{d:PyData}{T:String}(h:Dt K H v d)(k:KindT T):∃n,Ty K H v n/\PySem.W.kitOne K (.type n) (.type T)=some (EL T d):=by
 cases h with
 | non=>exact⟨_,.non,by cases k<;>first | exact kit_ni K | exact kit_nb K | exact kit_ns K | exact kit_nl K | exact kit_nt K⟩
 | bl b=>exact⟨_,.bl b,by cases k<;>first | exact kit_bi K | exact kit_same K _ | exact kit_bs K | exact kit_bl K | exact kit_bt K⟩
 | int i=>exact⟨_,.int i,by cases k<;>first | exact kit_same K _ | exact kit_ib K | exact kit_is K | exact kit_il K | exact kit_it K⟩
 | str x=>exact⟨_,.str x,by cases k<;>first | exact kit_same K _ | exact kit_si K | exact kit_sb K | exact kit_sl K | exact kit_st K⟩
 | lst s t=>exact⟨_,.lst s,by cases k<;>first | exact kit_same K _ | exact kit_li K | exact kit_lb K | exact kit_ls K | exact kit_lt K⟩
 | tup s t=>exact⟨_,.tup s,by cases k<;>first | exact kit_same K _ | exact kit_ti K | exact kit_tb K | exact kit_ts K | exact kit_tl K⟩
def FO(f:Bl):DRn:=fun ds Q=>∃d,pD f ds=some d/\Q d
theorem SndCB.imp{K:Waa}{r2:List V->Hp->VK->Prop}{r r':DRn}(h:SndCB K r2 r)(f:∀ds Q,r' ds Q->r ds Q):SndCB K r2 r':=fun H vs ds Qd Q hv z q=>h H vs ds Qd Q hv (f _ _ z) q
theorem DtAll.ints'{K:Waa}{H:Hp}{vs:List V}{ns:List Int}(h:DtAll K H vs (ns.map PyData.int)):vs=ns.map V.int:=by
 induction ns generalizing vs with
 | nil=>cases h;rfl
 | cons n ns ih=>cases h with | cons r t=>cases r;rw[aaj,ih t]
section
variable{X:Cx}{K:Waa}
theorem dInts_map:∀{ds:List PyData} {ns:List Int},cT ds=some ns->ds=ns.map PyData.int
 | [],_,h=>by cases h;rfl
 | d::ds,ns,h=>by
  obtain⟨i,e1,h⟩:=bnd h
  obtain⟨r,e2,h⟩:=bnd h
  cases h
  rw[aV e1,dInts_map e2,aaj]
theorem sc_maxL:SndCB K (fun xs H Q=>∃(p:Addr) (n:Int) (ns:List Int),xs=[.ref p]/\SqL K H p ((n::ns).map V.int)/\Q (.int (mxI n ns)) H) (fun ds Q=>∃n ns,ds=[.list ((n::ns).map PyData.int)]/\Q (.int (mxI n ns))):=by
 rintro H vs ds Qd Q hv ⟨n,ns,rfl,hq⟩ q
 cases hv with
 | cons h t =>
  cases t
  cases h with
  | lst s t=>rw[DtAll.ints' t]at s;exact⟨_,n,ns,rfl,s,q _ _ (.int _) hq⟩
end
def yV:Bl->Str
 | .mxl=>"max" | .len=>"len" | .abs=>"abs" | .max=>"max" | .min=>"min" | .int=>"int" | .all=>"all"
section
variable{X:Cx}{C:Ct}{a b c e:Expr}{es:List Expr}{ma mb mc:E}{mes:Es}{pos p p1 p2 p3:Pos}{x:Str}{i:Nat}
theorem BJ{f:Bl}(hc:X.calm=true)(hg:Gl X (yV f))(hm:X.mg (yV f)=none)(he:isStar e=false)(hes:es.any isStar=false)(h1:PDa X (e::es) (ib C mes)):PDe X (.Call (.Name (yV f) p) (e::es) [] pos) (aF C (.blt f mes)):=by
 have fin:PDe X (.Call (.Name (yV f) p) (e::es) [] pos) (CP (FO f) (ib C mes))->PDe X (.Call (.Name (yV f) p) (e::es) [] pos) (aF C (.blt f mes)):=fun h=>h.imp fun ρ Q ⟨y,h,q⟩=>by
  obtain⟨xa,e1,h⟩:=bnd h
  obtain⟨ds,e2,h⟩:=bnd h
  obtain⟨d,e3,h⟩:=bnd h
  cases h
  exact⟨xa,e1,ds,e2,d,e3,q⟩
 refine fin ?_
 cases f with
 | mxl =>
  refine cx (oN hc) (sc_maxL.imp fun ds Q hZ=>?_) hg hm qo (by decide) (by decide) (aB he) (cA hes) h1
  obtain⟨d,h,q⟩:=hZ
  obtain⟨z,f1,h⟩:=bnd h
  obtain⟨es,f2,h⟩:=bnd h
  obtain⟨ns,e1,h⟩:=bnd h
  obtain⟨n,e2,h⟩:=bnd h
  cases h
  cases ns with
  | nil=>cases e2
  | cons a r=>cases e2;exact⟨n,r,by rw[one1_ok f1,ji f2,dInts_map e1],q⟩
 | len =>
  refine cx pZ (sc_len.imp fun ds Q hZ=>?_) hg hm qm (by decide) (by decide) (aB he) (cA hes) h1
  obtain⟨d,h,q⟩:=hZ
  obtain⟨z,f1,h⟩:=bnd h
  obtain⟨n,e1,h⟩:=bnd h
  cases h
  exact⟨z,n,one1_ok f1,e1,q⟩
 | abs =>
  refine cx pY (sc_abs.imp fun ds Q hZ=>?_) hg hm ya (by decide) (by decide) (aB he) (cA hes) h1
  obtain⟨d,h,q⟩:=hZ
  obtain⟨z,f1,h⟩:=bnd h
  obtain⟨i,e1,h⟩:=bnd h
  cases h
  exact⟨i,by rw[one1_ok f1,aV e1],q⟩
 | max =>
  refine cx (nW hc) (sc_max.imp fun ds Q hZ=>?_) hg hm qo (by decide) (by decide) (aB he) (cA hes) h1
  obtain⟨d,h,q⟩:=hZ
  obtain⟨z,f1,h⟩:=bnd h
  obtain⟨i,e1,h⟩:=bnd h
  obtain⟨j,e2,h⟩:=bnd h
  cases h
  exact⟨i,j,by rw[two2_ok f1,aV e1,aV e2],q⟩
 | min =>
  refine cx (nX hc) (sc_min.imp fun ds Q hZ=>?_) hg hm yb (by decide) (by decide) (aB he) (cA hes) h1
  obtain⟨d,h,q⟩:=hZ
  obtain⟨z,f1,h⟩:=bnd h
  obtain⟨i,e1,h⟩:=bnd h
  obtain⟨j,e2,h⟩:=bnd h
  cases h
  exact⟨i,j,by rw[two2_ok f1,aV e1,aV e2],q⟩
 | int =>
  refine qM nY (sc_int.imp fun ds Q hZ=>?_) hg hm qp (by decide) (by decide) (aB he) (cA hes) h1
  obtain⟨d,h,q⟩:=hZ
  obtain⟨z,f1,h⟩:=bnd h
  obtain⟨n,e1,h⟩:=bnd h
  cases h
  exact⟨z,n,one1_ok f1,e1,q⟩
 | all =>
  refine cx (qk hc) (sc_all.imp fun ds Q hZ=>?_) hg hm yc (by decide) (by decide) (aB he) (cA hes) h1
  obtain⟨d,h,q⟩:=hZ
  obtain⟨w,f1,h⟩:=bnd h
  obtain⟨z,f2,h⟩:=bnd h
  obtain⟨n,e1,h⟩:=bnd h
  cases h
  exact⟨z,n,by rw[one1_ok f1,ji f2],e1,q⟩
theorem uU (hg:Gl X "tuple") (hm:X.mg "tuple"=none) (he:isStar e=false) (h1:PDe X e (aF C ma)):PDe X (.Call (.Name "tuple" p) [e] [] pos) (aF C (.bnw .tuple ma)):=by
 refine (qN hg hm gh (by decide) (by decide) (aB he) rfl (cg he h1 fh)).imp fun ρ Q hZ=>?_
 obtain⟨y,h,q⟩:=hZ
 obtain⟨xa,e1,h⟩:=bnd h
 obtain⟨ds,e2,h⟩:=bnd h
 cases h
 exact⟨([xa.1],xa.2),by simp only[evs,e1];rfl,xa.1,ds,rfl,e2,q⟩
theorem insI_perm(i:Int):∀l,(insI i l).Perm (i::l)
 | []=>.refl _
 | j::r=>by
  unfold insI
  split
  ·exact .refl _
  ·exact ((insI_perm i r).cons j).trans (List.Perm.swap _ _ _)
theorem ka(i:Int):∀{l:List Int},l.Pairwise (·<=·)->(insI i l).Pairwise (·<=·)
 | [],_=>by simp[insI]
 | j::r,h=>by
  obtain⟨h1,h2⟩:=aaS.mp h
  unfold insI
  split
  ·rename_i hij
   exact aaS.mpr ⟨fun k hk=>(aab.mp hk).elim (fun e=>e ▸ hij) fun hk=>Int.le_trans hij (h1 k hk),h⟩
  ·rename_i hij
   refine aaS.mpr ⟨fun k hk=>?_,ka i h2⟩
   rcases aab.mp ((insI_perm i r).mem_iff.mp hk) with rfl | hk
   ·omega
   ·exact h1 k hk
theorem sortI_perm:∀l,(sortI l).Perm l
 | []=>.refl _
 | i::r=>(insI_perm i _).trans ((sortI_perm r).cons i)
theorem fj:∀l,(sortI l).Pairwise (·<=·)
 | []=>.nil
 | i::r=>ka i (fj r)
theorem kb:∀{l l':List Int},l.Perm l'->l.Pairwise (·<=·)->l'.Pairwise (·<=·)->l=l'
 | [],l',p,_,_=>by have:=p.length_eq;cases l' with | nil=>rfl | cons _ _=>simp at this
 | a::l,[],p,_,_=>by have:=p.length_eq;simp at this
 | a::l,b::l',p,h,h'=>by
  obtain⟨h1,h2⟩:=aaS.mp h
  obtain⟨h3,h4⟩:=aaS.mp h'
  have e:a=b:=by
   have m1:a∈b::l':=p.mem_iff.mp aag
   have m2:b∈a::l:=p.mem_iff.mpr aag
   rcases aab.mp m1 with e | m1
   ·exact e
   ·rcases aab.mp m2 with e | m2
    ·exact e.symm
    ·have:=h1 b m2;have:=h3 a m1;omega
  subst e
  rw[kb (List.Perm.cons_inv p) h2 h4]
theorem rA (hg:Gl X "sorted") (hm:X.mg "sorted"=none) (he:isStar e=false) (h1:PDe X e (aF C ma)):PDe X (.Call (.Name "sorted" p) [e] [] pos) (aF C (.bnw .sorted ma)):=by
 obtain⟨te,h,s⟩:=h1
 refine⟨_,cM j9 hg hm oO (bf h cm (aB he)) (by decide) (by decide) (aB he) rfl,fun b F σ H ρ τ θ Qd Q hK R ⟨y,h,q⟩ k=>?_⟩
 obtain⟨xa,e1,h⟩:=bnd h
 obtain⟨d,e2,h⟩:=bnd h
 obtain⟨ds,e4,h⟩:=bnd h
 obtain⟨ns,e3,h⟩:=bnd h
 obtain⟨_,hl,h⟩:=bnd h
 cases h
 have hl:=gd_ok hl
 rw[ji e4]at e2
 refine s b F σ H ρ τ θ (fun r ρ'=>r=xa.1/\ρ'=xa.2) _ hK R ⟨xa,e1,rfl,rfl⟩ fun v H' r ρ' R' hZ=>?_
 obtain⟨h1,h2⟩:=hZ
 subst h1 h2
 have hx:=dInts_map e3
 subst hx
 have hd:=R'.dt e2
 rw[hK]at hd
 cases hd with
 | lst s1 t1 =>
  rw[DtAll.ints' t1]at s1
  refine⟨_,ns,rfl,s1,hl,fun ns' a p1 p2 hp=>?_⟩
  have:ns'=sortI ns:=kb (p1.trans (sortI_perm ns).symm) p2 (fj ns)
  subst this
  refine k _ _ _ _ (R'.drop.push ?_) q
  have w:=R'.drop.wd.adds (vs:=(sortI ns).map V.int) (ds:=(sortI ns).map PyData.int) fun S _=>FzA.ints _
  have:=Wd.newLst w (by simp) hp
  rw[aaO]at this
  exact this
theorem gu {k:Knd} {T:String} (hT:match k with | .int=>T="int" | .bool=>T="bool" | .str=>T="str" | .list=>T="list" | .tuple=>T="tuple" | .seq=>False) (hy:PE X b (tC (.ty T))) (hg:Gl X "isinstance") (hm:X.mg "isinstance"=none) (ha:isStar a=false) (hb:isStar b=false)
  (h1:PDe X a (aF C ma)):PDe X (.Call (.Name "isinstance" p) [a,b] [] pos) (aF C (.isi k ma)):=by
 obtain⟨te,h,s⟩:=h1
 refine⟨_,cM (ql T) hg hm dB (bf h (bf hy cm (aB hb)) (aB ha)) (by decide) (by decide) (aB ha) (cA (by simp[hb])),fun b F σ H ρ τ θ Qd Q hK R ⟨y,h,q⟩ kk=>?_⟩
 obtain⟨xa,e1,h⟩:=bnd h
 obtain⟨d,e2,h⟩:=bnd h
 cases h
 refine s b F σ H ρ τ θ (fun r ρ'=>r=xa.1/\ρ'=xa.2) _ hK R ⟨xa,e1,rfl,rfl⟩ fun v H' r ρ' R' hZ=>?_
 obtain⟨h1,h2⟩:=hZ
 subst h1 h2
 have hd:=R'.dt e2
 rw[hK]at hd
 have fin:∀(kt:KindT T),EL T d=iA k d->∃x n b,[v,V.ty T]=[x,V.ty T]/\Ty X.K H' x n/\PySem.W.kitOne X.K (.type n) (.type T)=some b/\Q (.bl b) H':=fun kt ek=>by
  obtain⟨n,ty,kq⟩:=hd.kind kt
  rw[ek]at kq
  exact⟨v,n,_,rfl,ty,kq,kk _ H' _ _ (R'.drop.sc (.bl _)) q⟩
 cases k with
 | int=>subst hT;exact fin .int (by cases d<;>rfl)
 | bool=>subst hT;exact fin .bool (by cases d<;>rfl)
 | str=>subst hT;exact fin .str (by cases d<;>rfl)
 | list=>subst hT;exact fin .list (by cases d<;>rfl)
 | tuple=>subst hT;exact fin .tuple (by cases d<;>rfl)
 | seq=>exact hT.elim
theorem Dt.kind2{K:Waa}{H:Hp}{v:V}{d:PyData}(h:Dt K H v d):∃n,Ty K H v n/\PySem.W.kitAny K (.type n) [.type "list",.type "tuple"]=some (iA .seq d):=by
 cases h with
 | non=>exact⟨_,.non,dm K (kit_nl K) (kit_nt K)⟩
 | bl b=>exact⟨_,.bl b,dm K (kit_bl K) (kit_bt K)⟩
 | int i=>exact⟨_,.int i,dm K (kit_il K) (kit_it K)⟩
 | str x=>exact⟨_,.str x,dm K (kit_sl K) (kit_st K)⟩
 | lst s t=>exact⟨_,.lst s,gg K (.inl (kit_same K _))⟩
 | tup s t=>exact⟨_,.tup s,gg K (.inr ⟨kit_tl K,kit_same K _⟩)⟩
theorem yW {x1} (hy:PE X b (tC (.ty "list"))) (hz:PE X c (tC (.ty "tuple"))) (hg:Gl X "isinstance") (hm:X.mg "isinstance"=none) (ha:isStar a=false) (hb:isStar b=false) (hc:isStar c=false)
  (h1:PDe X a (aF C ma)):PDe X (.Call (.Name "isinstance" p) [a,.Tuple [b,c] x1 p1] [] pos) (aF C (.isi .seq ma)):=by
 obtain⟨te,h,s⟩:=h1
 refine⟨_,cM (om "list" "tuple") hg hm dB (bf h (bf (p0 (bf hy (bf hz cm (aB hc)) (aB hb))) cm (aB rfl)) (aB ha)) (by decide) (by decide) (aB ha) (cA rfl),fun b F σ H ρ τ θ Qd Q hK R ⟨y,h,q⟩ kk=>?_⟩
 obtain⟨xa,e1,h⟩:=bnd h
 obtain⟨d,e2,h⟩:=bnd h
 cases h
 refine s b F σ H ρ τ θ (fun r ρ'=>r=xa.1/\ρ'=xa.2) _ hK R ⟨xa,e1,rfl,rfl⟩ fun v H' r ρ' R' hZ=>?_
 obtain⟨h1,h2⟩:=hZ
 subst h1 h2
 refine⟨by show 2<=sizeLine;decide,fun pp hp=>?_⟩
 have R2:Rel b F σ (upd H' pp (.tup [.ty "list",.ty "tuple"])) xa.2 (v::τ) (xa.1::θ):=⟨R'.wf,R'.al,R'.wff,R'.wd.new hp⟩
 have hd:=R2.dt e2
 rw[hK]at hd
 obtain⟨n,ty1,ek⟩:=hd.kind2
 have kk':=kk (.bl (iA .seq d)) _ (.val (.fz (.bool (iA .seq d)))) _ (R2.drop.sc (.bl _)) q
 exact⟨v,_,_,pp,rfl,aE,ty1,ek,kk'⟩
theorem yX (hc:X.calm=true) (hg:Gl X "len") (hm:X.mg "len"=none) (hg':Gl X "set") (hm':X.mg "set"=none) (ha:isStar a=false) (h1:PDe X a (aF C ma)):PDe X (.Call (.Name "len" p) [.Call (.Name "set" p1) [a] [] p2] [] pos) (aF C (.lset ma)):=by
 obtain⟨te,h,s⟩:=h1
 refine⟨_,cM oQ hg hm qm (bf (cZ (oP hc) hg' hm' yU (bf h cm (aB ha)) (by decide) (by decide) (aB ha) rfl) cm (aB rfl)) (by decide) (by decide) (aB rfl) rfl,fun b F σ H ρ τ θ Qd Q hK R ⟨y,h,q⟩ kk=>?_⟩
 obtain⟨xa,e1,h⟩:=bnd h
 obtain⟨d,e2,h⟩:=bnd h
 obtain⟨ds,e4,h⟩:=bnd h
 obtain⟨ns,e3,h⟩:=bnd h
 obtain⟨_,hl,h⟩:=bnd h
 cases h
 have hl:=gd_ok hl
 refine s b F σ H ρ τ θ (fun r ρ'=>r=xa.1/\ρ'=xa.2) _ hK R ⟨xa,e1,rfl,rfl⟩ fun v H' r ρ' R' hZ=>?_
 obtain⟨h1,h2⟩:=hZ
 subst h1 h2
 have hx:=dInts_map e3
 subst hx
 have fin:∀{q:Addr},v=.ref q->(SqL X.K H' q (ns.map V.int)\/SqT X.K H' q (ns.map V.int))->∃(p:Addr) (ms:List Int),[v]=[.ref p]/\(SqL X.K H' p (ms.map V.int)\/SqT X.K H' p (ms.map V.int))/\ms.length < 1000/\∀a S,H' a=none->∃p S' n,[V.ref a]=[.ref p]/\upd H' a (.set S (unl ms)) p=some (.set S' n)/\Q (.int n) (upd H' a (.set S (unl ms))):=fun {qa} e0 hq'=>⟨qa,ns,by rw[e0],hq',hl,fun pp S hp=>by
  have R2:Rel b F σ (upd H' pp (.set S (unl ns))) xa.2 τ θ:=⟨R'.drop.wf,R'.drop.al,R'.drop.wff,R'.drop.wd.new hp⟩
  exact⟨pp,S,_,rfl,aE,kk _ _ _ _ (R2.sc (.int _)) q⟩⟩
 have hd:=R'.dt e2
 rw[hK]at hd
 rcases jk e4 with e4 | e4
 ·rw[e4]at hd
  cases hd with | lst s1 t1=>rw[DtAll.ints' t1]at s1;exact fin rfl (.inl s1)
 ·rw[e4]at hd
  cases hd with | tup s1 t1=>rw[DtAll.ints' t1]at s1;exact fin rfl (.inr s1)
end
end
section
def en(t:Tg):DG:=fun x ρ Q=>∃ρ',bj t x ρ=some ρ'/\Q ρ'
structure Sto (X:Cx)(W:Nat->Prop)(m:Nat)(i:Nat)(x:Str):Prop where
 hN:X.N[i]?=some x
 loc:Loc X.env.scope x
 fn:X.fn x=true\/X.env.scope.names.lookup x=some .local
 lt:i < m
 nw:¬ W i
section
variable{X:Cx}{W:Nat->Prop}{m:Nat}{C:Ct}{a b c e:Expr}{es:List Expr}{ma mb mc:E}{mes:Es}{pos p p1 p2 p3:Pos}{x:Str}{i:Nat}
theorem PDg.imp:PDg X W m e d->(∀x ρ Q,d' x ρ Q->d x ρ Q)->PDg X W m e d'
 | ⟨te,h,s⟩,f=>⟨te,h,fun b F σ H ρ τ θ v x Qd Q hK n R hd q=>s b F σ H ρ τ θ v x Qd Q hK n R (f _ _ _ hd) q⟩
theorem PDgs.imp:PDgs X W m es d->(∀x ρ Q,d' x ρ Q->d x ρ Q)->PDgs X W m es d'
 | ⟨te,h,s⟩,f=>⟨te,h,fun b F σ H ρ τ θ v x Qd Q hK n el R hd q=>s b F σ H ρ τ θ v x Qd Q hK n el R (f _ _ _ hd) q⟩
theorem PDg.or:PDg X W m e d->PDg X W m e d'->PDg X W m e (fun x ρ Q=>d x ρ Q\/d' x ρ Q)
 | ⟨te,h,s⟩,⟨te',h',s'⟩=>⟨fun v σ H Q=>te v σ H Q\/te' v σ H Q,fun pins s σ H v u Q I r z=>z.elim (h pins s σ H v u Q I r) (h' pins s σ H v u Q I r),fun b F σ H ρ τ θ v x Qd Q hK n R hd q=>hd.imp (fun hd=>s b F σ H ρ τ θ v x Qd Q hK n R hd q) fun hd=>s' b F σ H ρ τ θ v x Qd Q hK n R hd q⟩
theorem BK(hN:X.N.Nodup)(s:Sto X W m i x):PDg X W m (.Name x pos) (en (.nm i)):=by
 refine (jZ s.nw hN s.hN s.loc s.lt s.fn).imp fun y ρ Q hZ=>?_
 obtain⟨ρ',h,q⟩:=hZ
 obtain⟨_,hi,h⟩:=bnd h
 cases h
 exact⟨gd_ok hi,q⟩
inductive Stos (X:Cx)(W:Nat->Prop)(m:Nat):List Nat->List Expr->Prop
 | nil:Stos X W m [] []
 | cons {i is x pos es}:Sto X W m i x->Stos X W m is es->Stos X W m (i::is) (.Name x pos::es)
theorem ly(hN:X.N.Nodup):∀{ts:List Nat} {es:List Expr},Stos X W m ts es->PDgs X W m es (fun xs ρ Q=>xs.length=ts.length/\(∀i∈ts,i < ρ.length)/\Q (cQ ts xs ρ))
 | [],_,.nil=>pdgs_nil.imp fun xs ρ Q ⟨h1,h2,q⟩=>by
   cases xs with
   | nil=>exact⟨rfl,q⟩
   | cons _ _=>simp at h1
 | i::is,_,.cons s t=>(fc rfl (jZ s.nw hN s.hN s.loc s.lt s.fn) (ly hN t)).imp fun xs ρ Q ⟨h1,h2,q⟩=>by
   cases xs with
   | nil=>simp at h1
   | cons z zs=>exact⟨z,zs,rfl,h2 i aag,by simpa using h1,fun j hj=>by rw[abW];exact h2 j (aai _ hj),q⟩
theorem eD(h:Stos X W m ts es):(assignEach es X.env).length=ts.length/\(assignEach es X.env).findIdx? (·.1)=none:=by
 induction h with
 | nil=>exact⟨rfl,rfl⟩
 | @cons i is x pos es s t ih =>
  have e:assignEach (.Name x pos::es) X.env=(false,assign (.Name x pos) X.env)::assignEach es X.env:=rfl
  rw[e]
  refine⟨by simp[ih.1],?_⟩
  rw[abH]
  simp[ih.2]
theorem kc(h:unpA y=some xs):unpT y=some xs\/unpL y=some xs:=by
 unfold unpA at h
 cases e1:unpT y with
 | some ys=>rw[e1]at h;exact .inl h
 | none=>rw[e1]at h;exact .inr h
theorem BL(hc:X.calm=true)(hN:X.N.Nodup)(h:Stos X W m ts es):PDg X W m (.Tuple es k pos) (en (.tp ts)):=by
 refine ((mD hc (eD h).1 (eD h).2 (ly hN h)).or (mE hc (eD h).1 (eD h).2 (ly hN h))).imp fun y ρ Q hZ=>?_
 obtain⟨ρ',h,q⟩:=hZ
 obtain⟨xs,e1,h⟩:=bnd h
 obtain⟨_,hi,h⟩:=bnd h
 cases h
 have hi:=gd_ok hi
 rcases kc e1 with e1 | e1
 ·exact .inl ⟨xs,e1,hi.1,hi.1,hi.2,q⟩
 ·exact .inr ⟨xs,e1,hi.1,hi.1,hi.2,q⟩
theorem D6(hc:X.calm=true)(hN:X.N.Nodup)(s:Sto X W m i x)(h:Stos X W m ts es):PDg X W m (.Tuple [.Name x p,.Tuple es k p2] k2 pos) (en (.tn i ts)):=by
 have hs:=fc (e:=.Name x p) (es:=[.Tuple es k p2]) rfl (BK hN s) (fc rfl (BL hc hN h) pdgs_nil)
 refine ((mD hc rfl rfl hs).or (mE hc rfl rfl hs)).imp fun y ρ Q hZ=>?_
 obtain⟨ρ',h,q⟩:=hZ
 obtain⟨xs,e1,h⟩:=bnd h
 obtain⟨z,e2,h⟩:=bnd h
 obtain⟨_,hi,h⟩:=bnd h
 rw[two2_ok e2]at e1
 have hd:lj (en (.nm i)) (lj (en (.tp ts)) dgNil) [z.1,z.2] ρ Q:=⟨z.1,[z.2],rfl,ρ.set i (some z.1),by show (gd _).bind _=_;rw[hi];rfl,z.2,[],rfl,ρ',h,rfl,q⟩
 rcases kc e1 with e1 | e1
 ·exact .inl ⟨_,e1,rfl,hd⟩
 ·exact .inr ⟨_,e1,rfl,hd⟩
theorem PI.or(h:PI X tg e t)(h':PI X tg e t'):PI X tg e (fun σ H R=>t σ H R\/t' σ H R):=fun pins s σ H R I z=>z.elim (h pins s σ H R I) (h' pins s σ H R I)
theorem PDi.or:PDi X tg e d->PDi X tg e d'->PDi X tg e (fun ρ Q=>d ρ Q\/d' ρ Q)
 | ⟨te,h,s⟩,⟨te',h',s'⟩=>⟨_,PI.or h h',fun b F σ H ρ τ θ Qd Q hK R hd q=>hd.imp (fun hd=>s b F σ H ρ τ θ Qd Q hK R hd q) fun hd=>s' b F σ H ρ τ θ Qd Q hK R hd q⟩
theorem yY(e1:ev C ma ρ=some xa):evs C (.cons ma .nil) ρ=some ([xa.1],xa.2):=by
 show ((ev C ma ρ).bind _)=_
 rw[e1];rfl
theorem BM(e1:ev C ma ρ=some xa)(e2:ev C mb xa.2=some xb):evs C (.cons ma (.cons mb .nil)) ρ=some ([xa.1,xb.1],xb.2):=by
 show ((ev C ma ρ).bind _)=_
 rw[e1]
 show ((evs C (.cons mb .nil) xa.2).bind _)=_
 rw[yY e2];rfl
theorem wx(e:ao ρ r=some d):dF ρ [r]=some [d]:=by
 show ((ao ρ r).bind _)=_
 rw[e];rfl
theorem BN(e:ao ρ r=some d)(e':ao ρ r'=some d'):dF ρ [r,r']=some [d,d']:=by
 show ((ao ρ r).bind _)=_
 rw[e]
 show ((dF ρ [r']).map _)=_
 rw[wx e'];rfl
theorem wy(e:frz1 ρ r=some z)(h:z.1=d):frzL ρ [r]=some ([d],z.2):=by
 show ((frz1 ρ r).bind _)=_
 rw[e,<- h];rfl
theorem BO(e:frz1 ρ r=some z)(e':frz1 z.2 r'=some w):frzL ρ [r,r']=some ([z.1,w.1],w.2):=by
 show ((frz1 ρ r).bind _)=_
 rw[e]
 show ((frzL z.2 [r']).map _)=_
 rw[wy e' rfl];rfl
theorem wz(h:rl d=some ds):∃l:Bool,Be d=some (l,ds):=(jk h).elim (fun h=>⟨true,h ▸ rfl⟩) fun h=>⟨false,h ▸ rfl⟩
theorem BP(h1:PDe X e (aF C ma)):PDi X tg e (fR C (.seq ma)):=by
 refine ((qV h1).or (uH h1)).imp fun ρ Q hZ=>?_
 obtain⟨y,h,q⟩:=hZ
 obtain⟨xa,e1,h⟩:=bnd h
 obtain⟨z,e2,h⟩:=bnd h
 obtain⟨ds,e3,h⟩:=bnd h
 obtain⟨d,ρ'⟩:=z
 cases h
 rcases jk e3 with e3 | e3<;>simp only at e3<;>subst e3
 ·exact .inl ⟨xa,e1,_,_,e2,q⟩
 ·exact .inr ⟨xa,e1,_,_,e2,q⟩
theorem BQ (hg:Gl X "range") (hm:X.mg "range"=none) (hs:isStar a=false) (h1:PDe X a (aF C ma)):PDi X tg (.Call (.Name "range" p) [a] [] pos) (fR C (.rg1 ma)):=by
 refine (ll hg hm (aB hs) (cg hs h1 fh)).imp fun ρ Q hZ=>?_
 obtain⟨y,h,q⟩:=hZ
 obtain⟨xa,e1,h⟩:=bnd h
 obtain⟨d,e2,h⟩:=bnd h
 obtain⟨j,e3,h⟩:=bnd h
 obtain⟨_,hj,h⟩:=bnd h
 cases h
 have hj:=gd_ok hj
 rw[aV e3]at e2
 exact⟨([xa.1],xa.2),yY e1,j,wx e2,hj.1,hj.2,q⟩
theorem BR (hg:Gl X "range") (hm:X.mg "range"=none) (hs:isStar a=false) (hs2:isStar b=false) (h1:PDe X a (aF C ma)) (h2:PDe X b (aF C mb)):PDi X tg (.Call (.Name "range" p) [a,b] [] pos) (fR C (.rg2 ma mb)):=by
 refine (lq hg hm (by rw[aB hs,aB hs2];rfl) (aB hs2) (cg hs h1 (cg hs2 h2 fh))).imp fun ρ Q hZ=>?_
 obtain⟨y,h,q⟩:=hZ
 obtain⟨xa,e1,h⟩:=bnd h
 obtain⟨xb,e1',h⟩:=bnd h
 obtain⟨d,e2,h⟩:=bnd h
 obtain⟨i,f2,h⟩:=bnd h
 obtain⟨d',e3,h⟩:=bnd h
 obtain⟨j,f3,h⟩:=bnd h
 obtain⟨_,hj,h⟩:=bnd h
 cases h
 rw[aV f2]at e2
 rw[aV f3]at e3
 have hj:=gd_ok hj
 exact⟨([xa.1,xb.1],xb.2),BM e1 e1',i,j,BN e2 e3,hj,q⟩
theorem BS {x1} (hg:Gl X "enumerate") (hm:X.mg "enumerate"=none) (hs:isStar a=false) (h1:PDe X a (aF C ma)):PDi X (.Tuple es x1 tpos) (.Call (.Name "enumerate" p) [a] [] pos) (fR C (.enm ma)):=by
 refine (qW hg hm (aB hs) (cg hs h1 fh)).imp fun ρ Q hZ=>?_
 obtain⟨y,h,q⟩:=hZ
 obtain⟨xa,e1,h⟩:=bnd h
 obtain⟨z,e2,h⟩:=bnd h
 obtain⟨ds,e3,h⟩:=bnd h
 cases h
 exact⟨([xa.1],xa.2),yY e1,ds,z.2,wy e2 (ji e3),q⟩
theorem BU (hu:X.A.units + 64 < cLine) (hgd:X.A.guards=some []) (hg:Gl X "str") (hm:X.mg "str"=none) (ha:isStar a=false) (h1:PDe X a (aF C ma)):PDe X (.Call (.Name "str" p) [a] [] pos) (aF C (.sht ma)):=by
 obtain⟨te,h,s⟩:=h1
 refine⟨_,cZ (oM hgd hu) hg hm qq (bf h cm (aB ha)) (by decide) (by decide) (aB ha) rfl,fun b F σ H ρ τ θ Qd Q hK R ⟨y,h,q⟩ kk=>?_⟩
 obtain⟨xa,e1,h⟩:=bnd h
 obtain⟨d,e2,h⟩:=bnd h
 obtain⟨_,hl,h⟩:=bnd h
 cases h
 refine s b F σ H ρ τ θ (fun r ρ'=>r=xa.1/\ρ'=xa.2) _ hK R ⟨xa,e1,rfl,rfl⟩ fun v H' r ρ' R' hZ=>?_
 obtain⟨h1,h2⟩:=hZ
 subst h1 h2
 have hd:=R'.dt e2
 rw[hK]at hd
 exact⟨v,d,rfl,hd,gd_ok hl,kk _ H' _ _ (R'.drop.sc (.str _)) q⟩
theorem BV{j:Nat}(h1:PDe X a (aF C ma)):PDe X (.Subscript a (.Slice none none (some (.UnaryOp .USub (.Constant (.int 1) j p1) p2)) p3) pos) (aF C (.rvs ma)):=by
 obtain⟨te,h,s⟩:=h1
 have hp:PO X (some (.UnaryOp .USub (.Constant (.int 1) j p1) p2)) (fun σ H Q=>Q (some (-1)) H):=fun pins s σ H Q I h=>l8 (pS kR iY) pins s σ H Q I ⟨1,rfl,-1,rfl,h⟩
 refine⟨_,yK h hp,fun b F σ H ρ τ θ Qd Q hK R ⟨y,h,q⟩ kk=>?_⟩
 obtain⟨xa,e1,h⟩:=bnd h
 obtain⟨ds,e2,h⟩:=bnd h
 cases h
 refine s b F σ H ρ τ θ (fun r ρ'=>r=xa.1/\ρ'=xa.2) _ hK R ⟨xa,e1,rfl,rfl⟩ fun v H' r ρ' R' hZ=>?_
 obtain⟨h1,h2⟩:=hZ
 subst h1 h2
 obtain⟨x,ex,e2⟩:=bnd e2
 obtain⟨a',us,rfl,el,hs,w⟩:=R'.wd.lsItems (R'.mem ex) e2
 rw[hK]at hs
 refine⟨a',us,rfl,hs,fun pp hp=>kk _ _ _ _ (Rel.drop2 (Rel.newLst R' w (vs:=us.reverse) (ds:=ds.reverse) (by rw[abq,abq];exact el) (fun z hz=>aae _ ?_) hp)) q⟩
 have e3:us.reverse.zip (ds.reverse.map OD.fz)=(us.zip (ds.map OD.fz)).reverse:=by rw[List.map_reverse];exact (List.reverse_zipWith (by rw[aaa];exact el)).symm
 rw[e3]at hz
 exact List.mem_reverse.mp hz
theorem BW {x1} (hg:Gl X "zip") (hm:X.mg "zip"=none) (hs:isStar a=false) (hs2:isStar b=false) (h1:PDe X a (aF C ma)) (h2:PDe X b (aF C mb)):PDi X (.Tuple es x1 tpos) (.Call (.Name "zip" p) [a,b] [] pos) (fR C (.zip ma mb)):=by
 refine (uI hg hm (by rw[aB hs,aB hs2];rfl) (aB hs2) (cg hs h1 (cg hs2 h2 fh))).imp fun ρ Q hZ=>?_
 obtain⟨y,h,q⟩:=hZ
 obtain⟨xa,e1,h⟩:=bnd h
 obtain⟨xb,e1',h⟩:=bnd h
 obtain⟨z,e2,h⟩:=bnd h
 obtain⟨w,e3,h⟩:=bnd h
 obtain⟨ds,e4,h⟩:=bnd h
 obtain⟨es,e5,h⟩:=bnd h
 cases h
 obtain⟨l1,g1⟩:=wz e4
 obtain⟨l2,g2⟩:=wz e5
 exact⟨_,BM e1 e1',_,_,l1,l2,ds,es,w.2,BO e2 e3,g1,g2,q⟩
def aX(C:Ct)(tg:Tg)(ifs:Eo)(elt:E)(d:PyData)(ρ:DEnv):Option (List PyData × DEnv) :=
 (bj tg (.fz d) ρ).bind fun ρ1=>(D0 C ifs ρ1).bind fun k=>if k.1=true then (ev C elt k.2).bind fun y=>(frz1 y.2 y.1).bind fun q=>some ([q.1],q.2) else some ([],k.2)
def yZ(C:Ct)(ifs:Eo)(elt:E):DC:=fun ρ Q=>∃w,((D0 C ifs ρ).bind fun k=>if k.1=true then (ev C elt k.2).bind fun y=>(frz1 y.2 y.1).bind fun q=>some (([q.1]:List PyData),q.2) else some ([],k.2))=some w/\Q w.1 w.2
theorem PDc.imp:PDc Y ifs elt d->(∀ρ Q,d' ρ Q->d ρ Q)->PDc Y ifs elt d'
 | ⟨te,h,s⟩,f=>⟨te,h,fun b F σ H ρ vs rs D out Qd Q hK el hz R hd q=>s b F σ H ρ vs rs D out Qd Q hK el hz R (f _ _ hd) q⟩
theorem uV(h1:PDe Y elt (aF C me)):PDc Y [] elt (yZ C .none me):=(oI h1).imp fun ρ Q ⟨w,h,q⟩=>by
 have h:((ev C me ρ).bind fun y=>(frz1 y.2 y.1).bind fun q=>some (([q.1]:List PyData),q.2))=some w:=h
 obtain⟨y,e1,h⟩:=bnd h
 obtain⟨z,e2,h⟩:=bnd h
 cases h
 exact⟨y,e1,z.1,z.2,e2,q⟩
theorem y2(h0:PDt Y c (hJ C mc))(h1:PDe Y elt (aF C me)):PDc Y [c] elt (yZ C (.some mc) me):=(rj h0 h1).imp fun ρ Q ⟨w,h,q⟩=>by
 obtain⟨k,e0,h⟩:=bnd h
 refine⟨k,e0,?_⟩
 by_cases hk:k.1=true
 ·rw[if_pos hk]at h ⊢
  obtain⟨y,e1,h⟩:=bnd h
  obtain⟨z,e2,h⟩:=bnd h
  cases h
  exact⟨y,e1,z.1,z.2,e2,q⟩
 ·rw[if_neg hk]at h ⊢
  cases h
  exact q
theorem rC(step:PyData->DEnv->Option (List PyData × DEnv))(ds:List PyData)(w:List PyData × DEnv)(k:Nat)(hd:ds[k]?=some d)(h:aW step (ds.drop k) out ρ=some w):∃z,step d ρ=some z/\aW step (ds.drop (k + 1)) (out++z.1) z.2=some w:=by
 have hk:=(aau.mp hd).1
 have e:ds.drop k=d::ds.drop (k + 1):=by
  rw[aca hk,(aau.mp hd).2]
 rw[e]at h
 exact bnd h
theorem mL(C:Ct){mt:Tg}:∀ρ Q,aF C (.comp nt fr mi mt mif me) ρ Q->mG (fR C mi) nt fr (en mt) (yZ C mif me) ρ Q:=fun ρ Q ⟨y,h,q⟩=>by
 obtain⟨x,e1,h⟩:=bnd h
 obtain⟨_,hz,h⟩:=bnd h
 obtain⟨z,e2,h⟩:=bnd h
 obtain⟨w,e3,h⟩:=bnd h
 cases h
 refine⟨x,e1,gd_ok hz,z.1,z.2,e2,fun k out ρ=>aW (aX C mt mif me) (x.1.drop k) out ρ=some w,e3,fun k d out ρ hd iv=>?_,fun out ρ iv=>?_⟩
 ·obtain⟨u,hu,iv'⟩:=rC _ _ _ k hd iv
  obtain⟨ρ1,e4,hu⟩:=bnd hu
  exact⟨ρ1,e4,u,hu,iv'⟩
 ·have iv:aW (aX C mt mif me) (x.1.drop x.1.length) out ρ=some w:=iv
  rw[acb]at iv
  cases iv
  exact q
theorem y3{mt:Tg}(hc:X.calm=true)(S:CompScope N nt fr X.N scope X.env.scope)(hs:∀x,foldedSetIterable iter X.env x=pure x)(hi:PDi X tg iter (fR C mi))(hg:∀c:CC,PDg (cO X N scope c) Ff nt tg (en mt))(ha:∀c:CC,PDc (cO X N scope c) ifs elt (yZ C mif me)) :
  PDe X (.ListComp elt [⟨tg,iter,ifs,0⟩] scope pos) (aF C (.comp nt fr mi mt mif me)):=(uL hc S hs hi hg ha).imp (mL C)
end
end
section
def BX(D:DEnds)(ρ:DEnv):Fl->Prop
 | .nx=>D.nx ρ | .bk=>D.bk ρ | .ct=>D.ct ρ | .rt x=>D.rt x ρ
def jm(C:Ct)(s:S'):DS:=fun D ρ=>∃x,bD C s ρ=some x/\BX D x.2 x.1
def lz(C:Ct)(s:Ss):DS:=fun D ρ=>∃x,aN C s ρ=some x/\BX D x.2 x.1
section
variable{b:Bs}{F:List Fr}{σ:St}{H H':Hp}{ρ:DEnv}{τ us:List V}{θ:List OR}{zs:List OD}{v u:V}{x y:OD}{i:Nat}{ks:List Nat}
theorem Rel.open(R:Rel b F σ H ρ (us++τ) (zs.map OR.val++θ))(el:us.length=zs.length)(e:ρ[i]?.join=some x):∃v,σ[i]?=some (some v)/\Wd b H (us.zip zs++((v,x)::(stk τ θ++(flat σ (ρ.set i none)++ff F)))):=by
 obtain⟨v,ev,w⟩:=R.slot (join_some e)
 refine⟨v,ev,w.perm ?_⟩
 rw[aG (by simpa using el),cP el,aaf]
 exact aas.symm
theorem Rel.close(R:Rel b F σ H ρ τ θ)(ev:σ[i]?=some (some v))(w:Wd b H' ((v,x)::(stk τ θ++(flat σ (ρ.set i none)++ff F)))):Rel b F σ H' (ρ.set i (some x)) τ θ:=Rel.back R.wf R.al R.wff ev w
theorem Rel.rest(R:Rel b F σ H ρ (us++τ) (zs.map OR.val++θ))(el:us.length=zs.length):Rel b F σ H ρ τ θ:=R.drops (by simpa using el)
end
section
variable{X:Cx}{W:Nat->Prop}{m:Nat}{C:Ct}{a b c e:Expr}{es:List Expr}{sts s1 s2:List Stmt}{st:Stmt}{ma mb mc:E}{mes:Es}{ms:S'}{mss ma' mb':Ss}{pos p p1 p2 p3 pos':Pos}{x:Str}{i:Nat}
theorem PDs.imp:PDs X W st d->(∀D ρ,d' D ρ->d D ρ)->PDs X W st d'
 | ⟨te,h,s⟩,f=>⟨te,h,fun b F σ H ρ τ θ Dd D hK n R hd E=>s b F σ H ρ τ θ Dd D hK n R (f _ _ hd) E⟩
theorem PDss.imp:PDss X W sts d->(∀D ρ,d' D ρ->d D ρ)->PDss X W sts d'
 | ⟨te,h,s⟩,f=>⟨te,h,fun b F σ H ρ τ θ Dd D hK n R hd E=>s b F σ H ρ τ θ Dd D hK n R (f _ _ hd) E⟩
theorem y4:PDss X W [] (lz C .nil):=pdss_nil.imp fun D ρ ⟨y,h,q⟩=>by cases h;exact q
theorem uW(h1:PDs X W st (jm C ms))(h2:PDss X W sts (lz C mss)):PDss X W (st::sts) (lz C (.cons ms mss)):=by
 refine (oC h1 h2).imp fun D ρ hZ=>?_
 obtain⟨y,h,q⟩:=hZ
 obtain⟨z,e1,h⟩:=bnd h
 obtain⟨fl,ρ1⟩:=z
 refine⟨fun ρ'=>fl=.nx/\ρ'=ρ1,fun ρ' ⟨h1,h2⟩=>?_,?_⟩
 ·subst h1 h2;exact⟨y,h,q⟩
 ·cases fl
  ·exact⟨_,e1,rfl,rfl⟩
  ·cases h;exact⟨_,e1,q⟩
  ·cases h;exact⟨_,e1,q⟩
  ·cases h;exact⟨_,e1,q⟩
theorem y6:PDs X W (.Continue pos) (jm C .cont):=pds_cont.imp fun D ρ ⟨y,h,q⟩=>by cases h;exact q
def gw:Expr->Bool
 | .ListComp _ _ _ _=>true | .SetComp _ _ _ _=>true | .DictComp _ _ _ _ _=>true
 | _=>false
theorem lA(h:gw e=false):swapsWith e t l env=pure false:=by cases e<;>first | rfl | cases h
theorem D7(hs:gw e=false)(h1:PDe X e (aF C ma)):PDs X W (.Expr e pos) (jm C (.ex ma)):=by
 refine (qR (lA hs) h1).imp fun D ρ hZ=>?_
 obtain⟨y,h,q⟩:=hZ
 obtain⟨z,e1,h⟩:=bnd h
 cases h
 exact⟨z,e1,q⟩
theorem BY(h1:PDe X e (aF C ma)):PDs X W (.Return (some e) pos) (jm C (.ret ma)):=by
 refine (uD h1).imp fun D ρ hZ=>?_
 obtain⟨y,h,q⟩:=hZ
 obtain⟨z,e1,h⟩:=bnd h
 obtain⟨w,e2,h⟩:=bnd h
 cases h
 exact⟨z,e1,w.1,w.2,e2,q⟩
theorem D8(h0:PDt X c (hJ C mc))(h1:PDss X W s1 (lz C ma'))(h2:PDss X W s2 (lz C mb')):PDs X W (.If c s1 s2 pos) (jm C (.iff mc ma' mb')):=by
 refine (yC h0 h1 h2).imp fun D ρ hZ=>?_
 obtain⟨y,h,q⟩:=hZ
 obtain⟨z,e1,h⟩:=bnd h
 refine⟨z,e1,?_⟩
 by_cases hk:z.1=true
 ·rw[if_pos hk]at h ⊢;exact⟨y,h,q⟩
 ·rw[if_neg hk]at h ⊢;exact⟨y,h,q⟩
theorem wA(hN:X.N.Nodup)(s:Sto X W m i x)(hs:swapsWith e (some (.Name x pos')) pos.line X.env=pure false)(h1:PDe X e (aF C ma)):PDs X W (.Assign [.Name x pos'] e pos) (jm C (.set i ma)):=by
 refine (uE s.nw hN s.hN s.loc hs s.fn h1).imp fun D ρ hZ=>?_
 obtain⟨y,h,q⟩:=hZ
 obtain⟨z,e1,h⟩:=bnd h
 obtain⟨w,e2,h⟩:=bnd h
 obtain⟨_,hi,h⟩:=bnd h
 cases h
 exact⟨z,e1,w.1,w.2,e2,gd_ok hi,q⟩
theorem BZ(hs:swapsWithSole [tg] e pos.line X.env=pure false)(hw:swappedStores [tg] e X.env=pure none)(h0:isStar tg=false)(h1:PDe X e (aF C ma))(h2:PDg X W m tg (en t)):PDs X W (.Assign [tg] e pos) (jm C (.asg t ma)):=by
 refine (uG hs hw (by cases tg<;>first | rfl | cases h0) h1 h2).imp fun D ρ hZ=>?_
 obtain⟨y,h,q⟩:=hZ
 obtain⟨z,e1,h⟩:=bnd h
 obtain⟨w,e2,h⟩:=bnd h
 obtain⟨ρ1,e3,h⟩:=bnd h
 cases h
 exact⟨z,e1,w.1,w.2,e2,ρ1,e3,q⟩
theorem B3(hp:PassesOwn (model X.prog X.w) X.A X.env X.xe)(hc:X.calm=true)(hs:∀x,foldedSetIterable iter X.env x=pure x)(hi:PDi X tg iter (fR C mi))(hg:PDg X W m tg (en t))(hb:PDss X W sts (lz C mss)):PDs X W (.For tg iter sts [] pos) (jm C (.fr t mi mss)):=by
 obtain⟨_,h1,s1⟩:=hi
 obtain⟨_,h2,s2⟩:=hg
 obtain⟨_,h3,s3⟩:=hb
 refine⟨_,xH hp hc h1 h2 h3 hs,fun b F σ H ρ τ θ Dd D hK n R ⟨y,h,q⟩ E=>?_⟩
 obtain⟨x,e1,h⟩:=bnd h
 refine s1 b F σ H ρ τ θ (fun ds ρ'=>ds=x.1/\ρ'=x.2) _ hK R ⟨x,e1,rfl,rfl⟩ fun J H1 ds ρ1 vs rs el nr R1 it hZ=>?_
 obtain⟨h1,h2⟩:=hZ
 subst h1 h2
 refine⟨fun i mm σ H=>mm=x.1.length - i/\i<=x.1.length/\∃ρ,Rel b F σ H ρ (vs++τ) (rs++θ)/\bx (fun d ρ'=>(bj t (.fz d) ρ').bind fun ρ1=>aN C mss ρ1) (x.1.drop i) ρ=some y,⟨_,rfl,aaE _,_,R1,h⟩,?_⟩
 rintro i mm σ2 H2 ⟨rfl,hi,ρ2,R2,w2⟩
 obtain⟨go,stop⟩:=it F σ2 H2 ρ2 τ θ R2 i
 by_cases hlt:i < x.1.length
 ·obtain⟨g1,g2⟩:=go hlt
  have ed:x.1[i]?=some x.1[i]:=aan hlt
  have ee:x.1.drop i=x.1[i]::x.1.drop (i + 1):=aca hlt
  rw[ee]at w2
  obtain⟨w,e2,w2⟩:=bnd w2
  obtain⟨ρ3,e3,e2⟩:=bnd e2
  obtain⟨fl,ρ4⟩:=w
  refine .inr ⟨g1,fun σ' H'=>∃ρ',Rel b F σ' H' ρ' (vs++τ) (rs++θ)/\bx (fun d ρ'=>(bj t (.fz d) ρ').bind fun ρ1=>aN C mss ρ1) (x.1.drop (i + 1)) ρ'=some y,fun σ' H' ⟨ρ',R',w'⟩=>⟨_,by omega,rfl,hlt,ρ',R',w'⟩,fun z H3 hy=>?_⟩
  have R3:=g2 z H3 x.1[i] hy ed
  refine s2 b F σ2 H3 ρ2 (vs++τ) (rs++θ) z _ (fun ρ'=>ρ'=ρ3) _ hK (NoRf.app nr.weak n) R3 ⟨ρ3,e3,rfl⟩ fun σ4 H4 ρ' R4 _ h4=>?_
  subst h4
  refine s3 b F σ4 H4 _ (vs++τ) (rs++θ) ⟨fun ρ'=>fl=.nx/\ρ'=ρ4,fun o ρ'=>fl=.rt o/\ρ'=ρ4,fun ρ'=>fl=.bk/\ρ'=ρ4,fun ρ'=>fl=.ct/\ρ'=ρ4⟩ _ hK (NoRf.app nr.weak n) R4 ⟨_,e2,by cases fl<;>exact⟨rfl,rfl⟩⟩ ⟨fun σ' H' ρ' R' ⟨h1,h2⟩=>?_,fun σ' H' ρ' R' ⟨h1,h2⟩=>?_,fun σ' H' ρ' R' ⟨h1,h2⟩=>?_,fun σ' H' ρ' v o R' ⟨h1,h2⟩=>?_⟩
  ·subst h1 h2;exact⟨_,R',w2⟩
  ·subst h1 h2;cases w2;exact E.nx σ' H' _ (R'.drops el) q
  ·subst h1 h2;exact⟨_,R',w2⟩
  ·subst h1 h2
   cases w2
   exact E.rt σ' H' _ v o (Rel.drops (Rel.tor R' el) el) q
 ·have e:i=x.1.length:=by omega
  subst e
  rw[acb]at w2
  cases w2
  exact .inl ⟨stop rfl,E.nx σ2 H2 ρ2 (R2.drops el) q⟩
end
end
section
section
variable{X:Cx}{W:Nat->Prop}{m:Nat}{C:Ct}{a b c e:Expr}{es:List Expr}{sts s1 s2:List Stmt}{st:Stmt}{ma mb mc:E}{mes:Es}{ms:S'}{mss ma' mb':Ss}{pos p p1 p2 p3 pos' apos cpos:Pos}{x:Str}{i:Nat}
theorem B4(hN:X.N.Nodup)(s:Sto X W m i x)(h1:PDe X e (aF C ma)):PDs X W (.AugAssign (.Name x pos') (opOf o) e pos) (jm C (.aug i o ma)):=by
 have key:∀(op:Operator) (g:Int->Int->Int),CN X op (Dc g)->(∀a d r,uO o a d=some r->∃k,d=.int k/\r=g a k)->PDs X W (.AugAssign (.Name x pos') op e pos) (jm C (.aug i o ma)):=fun op g ho hg=>by
  obtain⟨_,h,s1⟩:=h1
  refine⟨_,xD hN s.hN s.loc h ho s.fn,fun b F σ H ρ τ θ Dd D hK n R ⟨y,h,q⟩ E=>?_⟩
  obtain⟨x0,e0,h⟩:=bnd h
  obtain⟨d0,f0,h⟩:=bnd h
  obtain⟨n0,g0,h⟩:=bnd h
  rw[lx f0,aV g0]at e0
  ·obtain⟨z,e1,h⟩:=bnd h
   obtain⟨dk,ek,h⟩:=bnd h
   obtain⟨r,er,h⟩:=bnd h
   cases h
   obtain⟨k,rfl,rfl⟩:=hg _ _ _ er
   obtain⟨v,ev,w⟩:=R.slot (join_some e0)
   have hv:=w.dt rfl
   cases hv
   have hi:i < ρ.length:=(aau.mp (join_some e0)).1
   refine⟨_,ev,s1 b F σ H ρ τ θ (fun r ρ'=>r=z.1/\ρ'=z.2) _ hK R ⟨z,e1,rfl,rfl⟩ fun v H1 r ρ1 R1 hZ=>?_⟩
   obtain⟨h1,h2⟩:=hZ
   subst h1 h2
   have hm:=R1.dt ek
   cases hm
   have hl:i < z.2.length:=by rw[<- R1.wf.len,R.wf.len];exact hi
   exact⟨n0,k,rfl,rfl,E.nx _ H1 _ ((R1.drop.sc (.int (g n0 k))).store n hl s.nw) q⟩
 have nil:∀op,(∀a d,uO o a d=none)->PDs X W (.AugAssign (.Name x pos') op e pos) (jm C (.aug i o ma)):=fun op hn=>by
  refine⟨_,pM,fun b F σ H ρ τ θ Dd D hK n R ⟨y,h,q⟩ E=>?_⟩
  obtain⟨x0,e0,h⟩:=bnd h
  obtain⟨d0,f0,h⟩:=bnd h
  obtain⟨n0,g0,h⟩:=bnd h
  obtain⟨z,e1,h⟩:=bnd h
  obtain⟨dk,ek,h⟩:=bnd h
  rw[hn]at h
  cases h
 cases o with
 | add=>exact key _ _ xE fun a d r h=>by cases d<;>cases h;exact⟨_,rfl,rfl⟩
 | sub=>exact key _ _ xF fun a d r h=>by cases d<;>cases h;exact⟨_,rfl,rfl⟩
 | _=>exact nil _ fun a d=>rfl
end
end
section
section
variable{b:Bs}{S S':Addr->Prop}{H H1 H':Hp}{L L':List (V × OD)}{v u u' w w':V}{x y z z' y':OD}{d:PyData}{ks:List Nat}{k:Nat}
theorem Chn.det(h:Chn b H v x ks u y)(h':Chn b H v x ks u' y'):u=u'/\y=y':=by
 induction ks generalizing v x with
 | nil=>cases h;cases h';exact⟨rfl,rfl⟩
 | cons k ks ih =>
  cases h with
  | cons c1 c2 =>
   cases h' with
   | cons d1 d2 =>
    obtain⟨e1,e2⟩:=Chd.det c1 d1
    subst e1 e2
    exact ih c2 d2
theorem Chn.snoc(h:Chn b H v x ks u y)(c:Chd b H u y k w z):Chn b H v x (ks++[k]) w z:=by
 induction ks generalizing v x with
 | nil=>cases h;exact .cons c .nil
 | cons k ks ih=>cases h with | cons c1 c2=>exact .cons c1 (ih c2)
theorem Chn.unsnoc(h:Chn b H v x (ks++[k]) w z):∃u y,Chn b H v x ks u y/\Chd b H u y k w z:=by
 induction ks generalizing v x with
 | nil=>cases h with | cons c t=>cases t;exact⟨_,_,.nil,c⟩
 | cons k ks ih =>
  cases h with
  | cons c1 c2 =>
   obtain⟨u,y,h1,h2⟩:=ih c2
   exact⟨u,y,.cons c1 h1,h2⟩
theorem OD.at_snoc:∀{ks:List Nat} {x:OD},x.at ks=some y->y.kids[k]?=some z->x.at (ks++[k])=some z
 | [],x,e,h=>by simp only[OD.at]at e;cases e;simp[OD.at,h]
 | j::ks,x,e,h=>by
  simp only[OD.at,aaN]at e ⊢
  cases ez:x.kids[j]? with
  | none=>rw[ez]at e;cases e
  | some q=>rw[ez]at e;exact OD.at_snoc e h
theorem setKid_self(h:x.kids[k]?=some z):OD.setKid k z x=x:=by
 cases x<;>simp only[OD.kids]at h<;>first | (simp at h;done) | (simp only[OD.setKid];rw[bA h])
theorem OD.put_self:∀{ks:List Nat} {x:OD},x.at ks=some y->OD.put y ks x=x
 | [],x,e=>by simp only[OD.at]at e;cases e;rfl
 | j::ks,x,e=>by
  simp only[OD.at,OD.put]at e ⊢
  cases ez:x.kids[j]? with
  | none=>rfl
  | some q =>
   rw[ez]at e
   simp only
   rw[OD.put_self e]
   exact setKid_self ez
theorem path_at:∀{ps:List Acc} {ρ:DEnv} {i:Nat} {p:OD × List Nat × OD},cG ρ i ps=some p->ρ[i]?.join=some p.1/\p.1.at p.2.1=some p.2.2
 | [],ρ,i,p,h=>by
  obtain⟨x,e1,h⟩:=bnd h
  cases h
  exact⟨e1,rfl⟩
 | a::ps,ρ,i,p,h=>by
  obtain⟨q,e1,h⟩:=bnd h
  obtain⟨k,e2,h⟩:=bnd h
  obtain⟨z,e3,h⟩:=bnd h
  cases h
  obtain⟨h1,h2⟩:=path_at e1
  exact⟨h1,OD.at_snoc h2 e3⟩
theorem Wd.way(w:Wd b H ((v,x)::L))(e:x.at ks=some y):∃u,Chn b H v x ks u y:=by
 obtain⟨A0,h0,nd,new⟩:=w.out
 cases h0 with
 | cons r t =>
  obtain⟨u,B,A',ch,_⟩:=Ow.path r e
  exact⟨u,ch⟩
theorem Wd.kidAt(w:Wd b H ((v,x)::L))(e:x.at ks=some y)(ch:Chn b H v x ks u y)(ek:y.kids[k]?=some z):∃q,Chd b H u y k q z:=by
 obtain⟨q,c⟩:=w.way (OD.at_snoc e ek)
 obtain⟨u',y',h1,h2⟩:=Chn.unsnoc c
 obtain⟨e1,e2⟩:=Chn.det ch h1
 subst e1 e2
 exact⟨q,h2⟩
end
def D9(K:Waa)(te:TE)(i:Nat)(ps:List Acc):Prop:=∀(b:Bs) (F:List Fr) (σ:St) (H:Hp) (ρ:DEnv) (τ:List V) (θ:List OR) (Q:VK) (p:OD × List Nat × OD),b.K=K->Rel b F σ H ρ τ θ->cG ρ i ps=some p->(∀v u,σ[i]?=some (some v)->Chn b H v p.1 p.2.1 u p.2.2->Q u H)->te σ H Q
inductive PDp (X:Cx)(e:Expr)(i:Nat)(ps:List Acc):Prop | mk (te:TE) (h:PE X e te) (s:D9 X.K te i ps)
inductive PX (X:Cx)(e:Expr)(f:St->Option V):Prop | mk (te:TE) (h:PE X e te) (s:∀σ H (Q:VK) v,f σ=some v->Q v H->te σ H Q)
section
variable{X:Cx}{C:Ct}{a e e2:Expr}{es:List Expr}{ma mb:E}{mes:Es}{pos p p1 p2:Pos}{x:Str}{i j:Nat}{ps:List Acc}{k:Int}
theorem B5:PX X (.Constant (.int k) j pos) (fun _=>some (.int k)):=⟨_,iY,fun σ H Q v e q=>by cases e;exact q⟩
theorem Ea (hN:X.N[i]?=some x) (hv:Vis X.env.scope x) (hd:(x == ("__debug__":Str))=false) (hcd:(x == ("__classdict__":Str))=false):PX X (.Name x pos) (fun σ=>σ[i]?.join):=⟨_,eZ hN hv hd hcd,fun σ H Q v e q=>⟨v,join_some e,q⟩⟩
theorem Eb (hN:X.N[i]?=some x) (hv:Vis X.env.scope x) (hd:(x == ("__debug__":Str))=false) (hcd:(x == ("__classdict__":Str))=false):PDp X (.Name x pos) i [] :=
 ⟨_,eZ hN hv hd hcd,fun b F σ H ρ τ θ Q p hK R h q=>by
  obtain⟨y,e1,h⟩:=bnd h
  cases h
  obtain⟨v,ev⟩:=R.wf.get (join_some e1)
  exact⟨v,ev,q v v ev .nil⟩⟩
theorem rD{α:Type}{xs:List α}{i:Int}{k:Nat}{y:α}(hn:xs.length=n)(h:ixN n i=some k)(e:xs[k]?=some y):atI xs i=some y:=by
 subst hn
 unfold atI
 rw[h]
 exact e
theorem B6(hs:PlainIx e2)(hf:∀{b:Bs} {F:List Fr} {σ:St} {H:Hp} {ρ:DEnv} {τ:List V} {θ:List OR} {x:OD} {k:Nat},Rel b F σ H ρ τ θ->accN ρ x ac=some k->∃n,f σ=some (.int n)/\((∃xs,x=.lst xs/\ixN xs.length n=some k)\/∃xs,x=.tup xs/\ixN xs.length n=some k)):PDp X e i ps->PX X e2 f->PDp X (.Subscript e e2 pos) i (ac::ps)
 | ⟨te,h,s⟩,⟨_,h2,s2⟩=>⟨_,wg qc h h2 hs,fun b F σ H ρ τ θ Q p hK R hp q=>by
  obtain⟨r,e1,hp⟩:=bnd hp
  obtain⟨k,e2,hp⟩:=bnd hp
  obtain⟨z,e3,hp⟩:=bnd hp
  cases hp
  refine s b F σ H ρ τ θ _ r hK R e1 fun v u ev ch=>?_
  obtain⟨h1,h2⟩:=path_at e1
  obtain⟨v',ev',w⟩:=R.slot (join_some h1)
  rw[ev]at ev'
  cases ev'
  obtain⟨q',cd⟩:=w.kidAt h2 ch e3
  obtain⟨n,fn,cs⟩:=hf R e2
  refine s2 σ H _ _ fn ?_
  obtain⟨r1,r2,r3⟩:=r
  simp only at *
  rcases cs with ⟨xs,rfl,hx⟩ | ⟨xs,rfl,hx⟩
  ·cases cd with
   | @lst a vs _ _ _ _ f1 f2 f3 f4=>exact .inl ⟨a,vs,n,q',rfl,rfl,SqL.of f1,rD f2 hx f3,q v q' ev (ch.snoc (.lst f1 f2 f3 f4))⟩
  ·cases cd with
   | @tup a vs _ _ _ _ f1 f2 f3 f4=>exact .inr (.inl ⟨a,vs,n,q',rfl,rfl,SqT.of f1,rD f2 hx f3,q v q' ev (ch.snoc (.tup f1 f2 f3 f4))⟩)⟩
theorem Ec(hs:PlainIx e2)(h:PDp X e i ps)(h2:PX X e2 (fun _=>some (.int k))):PDp X (.Subscript e e2 pos) i (.ix k::ps) :=
 B6 hs (fun {b F σ H ρ τ θ x n} R hk=>by
  obtain⟨xs,e1,hk⟩:=bnd hk
  exact⟨k,rfl,(yQ e1).imp (fun e=>⟨xs,e,hk⟩) fun e=>⟨xs,e,hk⟩⟩) h h2
theorem Rel.keyS{k:Key}(R:Rel b F σ H ρ τ θ)(e:ρ[j]?.join=some (.fz d))(hk:keyOf d=some k):σ[j]?.join=some (kV k):=by
 obtain⟨v,ev,w⟩:=R.slot (join_some e)
 have hv:=w.dt rfl
 rw[ev]
 cases d<;>cases hk<;>cases hv<;>rfl
theorem mM{k:Key}:∀{ws:List (Key × V)} {n:Nat} {w:V},(ws.map (·.1)).findIdx? (fun q=>decide (q=k))=some n->(ws[n]?).map (·.2)=some w->valV ws k=some w
 | [],_,_,e,_=>by simp at e
 | (g,q)::ws,n,w,e,h=>by
  rw[aaj,abH]at e
  by_cases hg:g=k
  ·subst hg
   simp at e
   subst e
   simp at h
   subst h
   exact dR rfl
  ·simp[hg]at e
   obtain⟨k',e1,e2⟩:=e
   subst e2
   have e3:(ws.map (·.1)).findIdx? (fun q=>decide (q=k))=some k':=by rw[List.findIdx?_map];exact e1
   have:=mM e3 (by simpa using h)
   simp only[valV]at this ⊢
   rw[aa2]
   simp only[hg,decide_false]
   exact this
theorem B7(hu:X.A.units + 1 < cLine)(hs:NoSl e2):PDp X e i ps->PX X e2 (fun σ=>σ[j]?.join)->PDp X (.Subscript e e2 pos) i (.key j::ps)
 | ⟨te,h,s⟩,⟨_,h2,s2⟩=>⟨_,ug hu h h2 hs,fun b F σ H ρ τ θ Q p hK R hp q=>by
  obtain⟨r,e1,hp⟩:=bnd hp
  obtain⟨k,e2,hp⟩:=bnd hp
  obtain⟨z,e3,hp⟩:=bnd hp
  cases hp
  refine s b F σ H ρ τ θ _ r hK R e1 fun v u ev ch=>?_
  obtain⟨h1,h2⟩:=path_at e1
  obtain⟨v',ev',w⟩:=R.slot (join_some h1)
  rw[ev]at ev'
  cases ev'
  obtain⟨q',cd⟩:=w.kidAt h2 ch e3
  obtain⟨r1,r2,r3⟩:=r
  simp only at *
  obtain⟨y,e0,e2⟩:=bnd e2
  obtain⟨d,g1,e2⟩:=bnd e2
  obtain⟨uu,g2,e2⟩:=bnd e2
  obtain⟨kk,e4,e2⟩:=bnd e2
  rw[lx g1]at e0
  refine s2 σ H _ _ (R.keyS e0 e4) ?_
  cases cd with
  | @dic a ws _ _ _ _ _ f1 f2 f5 f3 f4 =>
   cases g2
   refine⟨a,q',rfl,?_,q v q' ev (ch.snoc (.dic f1 f2 f5 f3 f4))⟩
   have:=DGet.k (k:=kk) f1
   rw[mM (by rw[f2];exact e2) f3]at this
   exact this
  | _=>cases g2⟩
end
section
variable{b:Bs}{F:List Fr}{σ:St}{H H':Hp}{ρ:DEnv}{τ us:List V}{θ:List OR}{v u:V}{i:Nat}{ps:List Acc}{p:OD × List Nat × OD}{d:PyData}
theorem Rel.part(R:Rel b F σ H ρ τ θ)(e:cG ρ i ps=some p)(ev:σ[i]?=some (some v))(ch:Chn b H v p.1 p.2.1 u p.2.2)(ed:p.2.2.dat=some d):Rel b F σ H (ρ.set i (some (OD.put (.fz d) p.2.1 p.1))) (u::τ) (.val (.fz d)::θ):=by
 obtain⟨h1,h2⟩:=path_at e
 obtain⟨v',ev',w⟩:=R.slot (join_some h1)
 rw[ev]at ev'
 cases ev'
 obtain⟨u',ch',w2⟩:=w.frzAt h2 ed
 obtain⟨e1,_⟩:=Chn.det ch ch'
 subst e1
 exact Rel.back R.wf R.al R.wff ev (w2.perm (List.Perm.swap _ _ _))
theorem Rel.partF(R:Rel b F σ H ρ τ θ)(e:cG ρ i ps=some p)(ev:σ[i]?=some (some v))(ch:Chn b H v p.1 p.2.1 u p.2.2)(ed:p.2.2=.fz d):Rel b F σ H ρ (u::τ) (.val (.fz d)::θ):=by
 obtain⟨h1,h2⟩:=path_at e
 have:=R.part e ev ch (by rw[ed];rfl)
 rw[<- ed,OD.put_self h2,set_self (join_some h1)]at this
 rw[ed]at this
 exact this
end
end
section
section
variable{X:Cx}{C:Ct}{a e e2:Expr}{es:List Expr}{ma mb:E}{mes:Es}{pos p p1 p2:Pos}{x:Str}{i j:Nat}{ps:List Acc}{k:Int}
theorem Ed:PDp X e i ps->PDe X e (aF C (.pg i ps))
 | ⟨te,h,s⟩=>⟨te,h,fun b F σ H ρ τ θ Qd Q hK R ⟨y,h,q⟩ k=>by
  obtain⟨r,e1,h⟩:=bnd h
  refine s b F σ H ρ τ θ _ r hK R e1 fun v u ev ch=>?_
  obtain⟨d,ed,h⟩:=bnd h
  cases h
  exact k u H _ _ (R.partF e1 ev ch (lx ed)) q⟩
theorem mN(hm:ba C m=(vt (ev C m)).2)(hb:∀ρ x,ev C m ρ=some x->∃k,x.1=.val (.fz (.bool k))):∀ρ Q,hJ C m ρ Q->jX (aF C m) ρ Q:=fun ρ Q ⟨y,h,q⟩=>by
 have h':((ev C m ρ).bind fun x=>(ao x.2 x.1).bind fun d=>(rm d).bind fun k=>some (k,x.2))=some y:=by rw[<- h,hm];rfl
 obtain⟨z,e1,h'⟩:=bnd h'
 obtain⟨k,ek⟩:=hb ρ z e1
 rw[ek]at h'
 cases h'
 exact⟨z,e1,k,by rw[ek];rfl,q⟩
theorem SndT.imp{K:Waa}(s:SndT K te d)(f:∀ρ Q,d' ρ Q->d ρ Q):SndT K te d':=fun b F σ H ρ τ θ Qd Q hK R hd q=>s b F σ H ρ τ θ Qd Q hK R (f _ _ hd) q
theorem mO{k:Key}:∀{ws:List (Key × V)},(valV ws k).isSome=(ws.map (·.1)).any fun q=>decide (q=k)
 | []=>rfl
 | (g,q)::ws=>by
  have ih:=mO (k:=k) (ws:=ws)
  by_cases hg:g=k
  ·subst hg;rw[dR rfl];simp
  ·simp only[valV]at ih ⊢
   rw[aa2]
   simp only[hg,decide_false,aaj,aa7,ab8]
   exact ih
def y8(neg:Bool)(ta te:TE):TE:=if neg then mr ta te else AI ta te
theorem rF{neg:Bool}(hu:X.A.units + 1 < cLine)(hm:behindInMarks (coOf (if neg then .nin else .inn)) e=false):PDe X a (aF C ma)->PDp X e i ps->PDe X (.Compare a [coOf (if neg then .nin else .inn)] [e] pos) (aF C (.din neg ma i ps))/\PDt X (.Compare a [coOf (if neg then .nin else .inn)] [e] pos) (hJ C (.din neg ma i ps))
 | ⟨ta,h1,s1⟩,⟨te,h,s⟩=>by
  have hp:PE X (.Compare a [coOf (if neg then .nin else .inn)] [e] pos) (y8 neg ta te):=by
   cases neg with
   | true=>exact pI (ir hu h1 h) hm
   | false=>exact pI (qr hu h1 h) hm
  have hpt:PT X (.Compare a [coOf (if neg then .nin else .inn)] [e] pos) (tB (y8 neg ta te)):=by
   cases neg with
   | true=>exact pJ (ir hu h1 h) hm
   | false=>exact pJ (qr hu h1 h) hm
  have S:bZ X.K (y8 neg ta te) (aF C (.din neg ma i ps)):=by
   refine fun b F σ H ρ τ θ Qd Q hK R ⟨y,h,q⟩ k=>?_
   obtain⟨z,e0,h⟩:=bnd h
   obtain⟨dx,e1,h⟩:=bnd h
   obtain⟨r,e2,h⟩:=bnd h
   obtain⟨kk,ek,h⟩:=bnd h
   obtain⟨uu,ed,h⟩:=bnd h
   have ed:=yP ed
   ·cases h
    have go:∀v H' r' ρ',Rel b F σ H' ρ' (v::τ) (r'::θ)->(r'=z.1/\ρ'=z.2)->te σ H' fun x H2=>∃a o,x=.ref a/\DGet H2 a v o/\Q (.bl (if neg then !o.isSome else o.isSome)) H2:=fun v H' r' ρ' R' ⟨h1,h2⟩=>by
     subst h1 h2
     refine s b F σ H' _ _ _ _ r hK R' e2 fun v' u ev ch=>?_
     obtain⟨h1,h2⟩:=path_at e2
     obtain⟨v2,ev2,w⟩:=R'.slot (join_some h1)
     rw[ev]at ev2
     cases ev2
     rw[ed]at h2 ch
     obtain⟨ad,ws,ch',hH,hks,hl,_⟩:=Wd.mutD (us:=[]) (zs:=[]) w rfl h2
     obtain⟨e5,_⟩:=Chn.det ch ch'
     subst e5
     have hv:=R'.dt e1
     have hv':v=kV kk:=by cases dx<;>cases ek<;>cases hv<;>rfl
     subst hv'
     refine⟨ad,_,rfl,DGet.k hH,?_⟩
     rw[mO,hks]
     exact k _ H' _ _ (R'.drop.sc (.bl _)) q
    cases neg with
    | true=>exact s1 b F σ H ρ τ θ (fun r ρ'=>r=z.1/\ρ'=z.2) _ hK R ⟨z,e0,rfl,rfl⟩ go
    | false=>exact s1 b F σ H ρ τ θ (fun r ρ'=>r=z.1/\ρ'=z.2) _ hK R ⟨z,e0,rfl,rfl⟩ go
  refine⟨⟨_,hp,S⟩,⟨_,hpt,(yt S).imp (mN rfl fun ρ x h=>?_)⟩⟩
  obtain⟨z,e0,h⟩:=bnd h
  obtain⟨dx,e1,h⟩:=bnd h
  obtain⟨r,e2,h⟩:=bnd h
  obtain⟨kk,ek,h⟩:=bnd h
  obtain⟨uu,ed,h⟩:=bnd h
  cases h
  exact⟨_,rfl⟩
end
end
section
section
variable{b:Bs}{S:Addr->Prop}{H:Hp}{vs us:List V}{xs zs:List OD}{A B C:List Addr}{v:V}{z:OD}
theorem Ows.addA(nt:∀c xs,H c=some (.tup xs)->¬ S c)(h1:Ows b S H vs xs A)(h2:Ows b S H us zs C)(nd:(A++C).Nodup):∃D,Ows b S H (vs++us) (xs++zs) D/\D.Nodup/\∀c∈D,c∈A\/c∈C:=⟨A++C,Ows.append h1 h2,nd,fun c hc=>aal.mp hc⟩
theorem Ows.one(h:Ows b S H [v] [z] C):Ow b S H v z C:=by
 cases h with
 | cons r t=>cases t;rw[aar];exact r
theorem Ows.setA(hj:j < xs.length)(h1:Ows b S H vs xs A)(h2:Ows b S H [v] [z] C)(nd:(A++C).Nodup):∃D,Ows b S H (vs.set j v) (xs.set j z) D/\D.Nodup/\∀c∈D,c∈A\/c∈C:=by
 obtain⟨q,A1,B,A2,e1,rfl,e3,e4⟩:=h1.zip (aan hj)
 refine⟨A1++(C++A2),e4 h2.one fun _ h=>h,?_,fun c hc=>?_⟩
 ·have p:((A1++(B++A2))++C).Perm (B++(A1++(C++A2))):=by
   refine ((bM A1 B A2).append_right C).trans ?_
   rw[aaf]
   refine aba B ?_
   rw[aaf]
   exact aba A1 aa3
  exact (aaC.mp (p.nodup_iff.mp nd)).2.1
 ·simp only[aal]at hc ⊢
  rcases hc with hc | hc | hc
  ·exact .inl (.inl hc)
  ·exact .inr hc
  ·exact .inl (.inr (.inr hc))
theorem uX(e:ws.length=xs.length):(putK ws k v).map (·.1)=(bN k d (ws.map (·.1)) xs).1:=by
 unfold putK bN
 rw[List.any_map]
 have hh:((fun q=>decide (q=k)) ∘ fun x:Key × V=>x.1)=fun kv=>decide (kv.1=k):=rfl
 rw[hh]
 by_cases hk:(ws.any fun kv=>decide (kv.1=k))=true
 ·rw[if_pos hk,if_pos hk,aaO]
  refine acd fun q _=>?_
  simp only[Function.comp]
  split<;>rfl
 ·rw[if_neg hk,if_neg hk,aaw];rfl
theorem kf(hv:Fz b.K S H v d):∀{ws:List (Key × V)} {xs:List OD} {A:List Addr},Ows b S H (ws.map (·.2)) xs A->∃D,Ows b S H ((ws.map (fun kv=>if kv.1=k then (kv.1,v) else kv)).map (·.2)) (List.zipWith (fun q x=>if q=k then .fz d else x) (ws.map (·.1)) xs) D/\D.Sublist A
 | [],_,_,.nil=>⟨[],.nil,List.Sublist.refl _⟩
 | (g,q)::ws,x::xs,_,.cons (A:=A1) r t=>by
  obtain⟨D,hD,sD⟩:=kf hv t
  simp only[aaj,abI]
  by_cases hg:g=k
  ·rw[if_pos hg,if_pos hg]
   exact⟨[]++D,.cons (.fz hv) hD,(aaz D).symm ▸ sD.trans (List.sublist_append_right _ _)⟩
  ·rw[if_neg hg,if_neg hg]
   exact⟨A1++D,.cons r hD,(List.Sublist.refl A1).append sD⟩
theorem rG(h1:Ows b S H (ws.map (·.2)) xs A)(h2:Ows b S H [v] [.fz d] C)(nd:(A++C).Nodup):∃D,Ows b S H ((putK ws k v).map (·.2)) (bN k d (ws.map (·.1)) xs).2 D/\D.Nodup/\∀c∈D,c∈A\/c∈C:=by
 have hf:Fz b.K S H v d:=by cases h2 with | cons r t=>cases r with | fz f=>exact f
 have nA:=(aaC.mp nd).1
 unfold putK bN
 rw[List.any_map]
 have hh:((fun q=>decide (q=k)) ∘ fun x:Key × V=>x.1)=fun kv=>decide (kv.1=k):=rfl
 rw[hh]
 by_cases hk:(ws.any fun kv=>decide (kv.1=k))=true
 ·rw[if_pos hk,if_pos hk]
  obtain⟨D,hD,sD⟩:=kf hf h1
  exact⟨D,hD,sD.nodup nA,fun c hc=>.inl (sD.subset hc)⟩
 ·rw[if_neg hk,if_neg hk,aaw]
  exact⟨A++[],Ows.append h1 (.cons (.fz hf) .nil),by simpa using nA,fun c hc=>.inl (by simpa using hc)⟩
end
section
variable{X:Cx}{W:Nat->Prop}{m:Nat}{C:Ct}{a b c e e2 kx:Expr}{es:List Expr}{sts s1 s2:List Stmt}{st:Stmt}{ma mb mc mk':E}{mes:Es}{ms:S'}{mss ma' mb':Ss}{pos p p1 p2 p3 pos' apos cpos:Pos}{x:Str}{i j:Nat}{ps:List Acc}
theorem y9{o i:Expr}(h:bS i=false):∀v,assign (.Subscript o i pos) env v=(do
   let ov <- holding [v] (eval o env)
   let iv <- holding [v,ov] (eval i env)
   standAt pos
   holding [v,ov,iv] (setItem ov iv v)
   release [v,ov,iv] []):=by
 cases i<;>first | (intro _;rfl) | cases h
theorem Ee{env:Env}(h:isStar e=false):((backTo cpos (starEach [e] env)).all (fun x=>!x.1) && (backToKw cpos (keywordEach [] env)).all (fun x=>x.1.isSome)
   && decide ([e].length + ([]:List Keyword).length + (if ([]:List Keyword).isEmpty then 0 else 1) < 30))=true:=by
 cases e<;>first | rfl | cases h
theorem Rel.cell{b:Bs}{τ:List V}{x:OD}(R:Rel b F σ H ρ τ θ)(g1:ρ[i]?.join=some x)(g2:x.at ks=some (.lst xs))(ev:σ[i]?=some (some v))(ch:Chn b H v x ks u (.lst xs)):∃l vs,u=.ref l/\H l=some (.lst vs):=by
 obtain⟨v',ev',w0⟩:=R.slot (join_some g1)
 rw[ev]at ev'
 cases ev'
 obtain⟨l0,vs0,ch0,hH0,_,_⟩:=Wd.mutL (us:=[]) (zs:=[]) w0 rfl g2
 exact⟨l0,vs0,(Chn.det ch ch0).1,hH0⟩
theorem Rel.cell0{b:Bs}{F:List Fr}(R:Rel b F σ H ρ τ θ)(g1:ρ[i]?.join=some (.lst xs)):∃v,σ[i]?=some (some v)/\∃l vs,v=.ref l/\H l=some (.lst vs):=by
 obtain⟨v,ev⟩:=R.wf.get (join_some g1)
 exact⟨v,ev,R.cell g1 rfl ev .nil⟩
theorem Rel.addAt{b:Bs}{x o:OD}{v v1:V}(R:Rel b F σ H ρ (v1::τ) (.val o::θ))(g1:ρ[i]?.join=some x)(g2:x.at ks=some (.lst xs))(ev:σ[i]?=some (some v))(ch:Chn b H v x ks (.ref l) (.lst xs))(hz:xs.length < 1000000) :
  ∃vs,H l=some (.lst vs)/\vs.length < sizeLine/\Rel b F σ (upd H l (.lst (vs++[v1]))) (ρ.set i (some (OD.put (.lst (xs++[o])) ks x))) τ θ:=by
 obtain⟨v',ev',w⟩:=Rel.open (us:=[v1]) (zs:=[o]) R rfl g1
 rw[ev]at ev'
 cases ev'
 obtain⟨l',vs,ch',hH,hl,go⟩:=w.mutL rfl g2
 obtain⟨e6,_⟩:=Chn.det ch ch'
 cases e6
 exact⟨vs,hH,aax (by omega) (by decide:1000001<=sizeLine),Rel.close (Rel.rest (us:=[v1]) (zs:=[o]) R rfl) ev (go (vs++[v1]) (xs++[o]) fun S H A C nt h1 h2 nd=>Ows.addA nt h1 h2 nd)⟩
theorem B8 (hN:X.N[i]?=some x) (hv:Vis X.env.scope x) (hd:(x == ("__debug__":Str))=false) (hcd:(x == ("__classdict__":Str))=false) (hline:(apos.endLine == cpos.line)=true) (hs:isStar e=false) :
  PDe X e (aF C ma)->PDs X W (.Expr (.Call (.Attribute (.Name x pos') "append" apos) [e] [] cpos) pos) (jm C (.app i ma))
 | ⟨_,h,s⟩=>⟨_,iZ (wk acx PySem.F.slot_list_append PySem.F.type_list_append ik (eZ hN hv hd hcd) (bf h cm (aB hs)) rfl (Ee hs) hline (aB hs) (cA rfl)) rfl,fun b F σ H ρ τ θ Dd D hK n R ⟨y,h,q⟩ E=>by
  obtain⟨x0,e0,h⟩:=bnd h
  obtain⟨xs0,f0,h⟩:=bnd h
  obtain⟨z,e1,h⟩:=bnd h
  obtain⟨o,e2,h⟩:=bnd h
  obtain⟨x1,ex,h⟩:=bnd h
  obtain⟨xs,f1,h⟩:=bnd h
  obtain⟨_,hz,h⟩:=bnd h
  cases h
  rw[gn f0]at e0
  rw[gn f1]at ex
  obtain⟨v,ev,l0,vs0,rfl,hH0⟩:=R.cell0 e0
  refine⟨.ref l0,ev,.inl ⟨rfl,vs0,SqL.of hH0⟩,?_⟩
  refine s b F σ H ρ τ θ (fun r ρ'=>r=z.1/\ρ'=z.2) _ hK R ⟨z,e1,rfl,rfl⟩ fun v1 H1 r ρ1 R1 hZ=>?_
  obtain⟨h1,h2⟩:=hZ
  subst h1 h2
  obtain⟨vs,hH,hl,R3⟩:=Rel.addAt (R1.own1 e2) ex rfl ev .nil (gd_ok hz)
  exact⟨l0,vs,v1,rfl,rfl,hH,hl,E.nx σ _ _ R3 q⟩⟩
theorem Ef{env:Env}(h:isStar e=false)(h':isStar e2=false):((backTo cpos (starEach [e,e2] env)).all (fun x=>!x.1) && (backToKw cpos (keywordEach [] env)).all (fun x=>x.1.isSome)
   && decide ([e,e2].length + ([]:List Keyword).length + (if ([]:List Keyword).isEmpty then 0 else 1) < 30))=true:=by
 rw[aB h,aB h'];rfl
theorem Ows.insAt{b:Bs}{S:Addr->Prop}{H:Hp}{v:V}{d:PyData}(hf:Fz b.K S H v d):∀(k:Nat) {vs:List V} {xs:List OD} {A:List Addr},Ows b S H vs xs A->Ows b S H (vs.take k++v::vs.drop k) (xs.take k++.fz d::xs.drop k) A
 | 0,_,_,A,h=>.cons (A:=[]) (.fz hf) h
 | _ + 1,_,_,_,.nil=>.cons (A:=[]) (.fz hf) .nil
 | k + 1,_,_,_,.cons r t=>.cons r (Ows.insAt hf k t)
theorem B9 (hN:X.N[i]?=some x) (hv:Vis X.env.scope x) (hd:(x == ("__debug__":Str))=false) (hcd:(x == ("__classdict__":Str))=false) (hline:(apos.endLine == cpos.line)=true) (hs:isStar kx=false) (hs2:isStar e=false) :
  PDe X kx (aF C mk')->PDe X e (aF C ma)->PDs X W (.Expr (.Call (.Attribute (.Name x pos') "insert" apos) [kx,e] [] cpos) pos) (jm C (.ins i mk' ma))
 | ⟨_,h0,s0⟩,⟨_,h,s⟩=>⟨_,iZ (wk acx PySem.F.slot_list_insert PySem.F.type_list_insert ow (eZ hN hv hd hcd) (bf h0 (bf h cm (aB hs2)) (aB hs)) rfl (Ef hs hs2) hline (aB hs) (cA (by simp[hs2]))) rfl,fun b F σ H ρ τ θ Dd D hK n R ⟨y,h,q⟩ E=>by
  obtain⟨x0,e0,h⟩:=bnd h
  obtain⟨xs0,f0,h⟩:=bnd h
  obtain⟨z0,e1,h⟩:=bnd h
  obtain⟨z,e2,h⟩:=bnd h
  obtain⟨dk,e3,h⟩:=bnd h
  obtain⟨k,e4,h⟩:=bnd h
  obtain⟨d,e5,h⟩:=bnd h
  obtain⟨_,e6,h⟩:=bnd h
  obtain⟨x1,eb,h⟩:=bnd h
  obtain⟨xs,f1,h⟩:=bnd h
  obtain⟨_,hz,h⟩:=bnd h
  cases h
  have hz:=gd_ok hz
  have e6:=gd_ok e6
  rw[gn f0]at e0
  rw[gn f1]at eb
  rw[aV e4]at e3
  obtain⟨v,ev,l0,vs0,rfl,hH0⟩:=R.cell0 e0
  refine⟨.ref l0,ev,.inl ⟨rfl,vs0,SqL.of hH0⟩,?_⟩
  refine s0 b F σ H ρ τ θ (fun r ρ'=>r=z0.1/\ρ'=z0.2) _ hK R ⟨z0,e1,rfl,rfl⟩ fun v0 H1 r ρ1 R1 hZ=>?_
  obtain⟨h1,h2⟩:=hZ
  subst h1 h2
  refine s b F σ H1 z0.2 (v0::τ) (z0.1::θ) (fun r ρ'=>r=z.1/\ρ'=z.2) _ hK R1 ⟨z,e2,rfl,rfl⟩ fun u H2 r ρ2 R2 hZ=>?_
  obtain⟨h1,h2⟩:=hZ
  subst h1 h2
  cases R2.dt2 e3
  have sc:Sc u d:=by have hh:=R2.dt e5;cases hh<;>first | constructor | cases e6
  obtain⟨v',ev',w⟩:=Rel.open (us:=[]) (zs:=[]) R2.drop.drop rfl eb
  rw[ev]at ev'
  cases ev'
  obtain⟨l,vs,ch,hH,hl,go⟩:=w.mutL (ks:=[]) rfl rfl
  cases ch
  have w3:=go (vs.take k.toNat++u::vs.drop k.toNat) (xs.take k.toNat++.fz d::xs.drop k.toNat) fun S H A C nt h1 h2 nd=>⟨A,Ows.insAt sc.fz _ h1,(aaC.mp nd).1,fun c hc=>.inl hc⟩
  exact⟨l0,vs,k,u,rfl,rfl,hH,hz.1,by rw[hl];exact hz.2.1,by rw[hl];exact hz.2.2,E.nx σ _ _ (Rel.close R2.drop.drop ev w3) q⟩⟩
theorem Ca (hN:X.N[i]?=some x) (hv:Vis X.env.scope x) (hd:(x == ("__debug__":Str))=false) (hcd:(x == ("__classdict__":Str))=false) (hk:bS kx=false) (hs:swapsWith e (some (.Subscript (.Name x pos') kx p2)) pos.line X.env=pure false) (hw:swappedStores [.Subscript (.Name x pos') kx p2] e X.env=pure none) :
  PDe X e (aF C ma)->PDe X kx (aF C mk')->PDs X W (.Assign [.Subscript (.Name x pos') kx p2] e pos) (jm C (.sti i mk' ma))
 | ⟨_,h1,s1⟩,⟨_,h2,s2⟩=>⟨_,pP h1 (xA (eZ hN hv hd hcd) h2 set_list (y9 hk)) hs hw rfl,fun b F σ H ρ τ θ Dd D hK n R ⟨y,h,q⟩ E=>by
  obtain⟨z,e1,h⟩:=bnd h
  obtain⟨o,e2,h⟩:=bnd h
  refine s1 b F σ H ρ τ θ (fun r ρ'=>r=z.1/\ρ'=z.2) _ hK R ⟨z,e1,rfl,rfl⟩ fun v1 H1 r ρ1 R1 hZ=>?_
  obtain⟨h1,h2⟩:=hZ
  subst h1 h2
  have R2:=R1.own1 e2
  obtain⟨x0,e0,h⟩:=bnd h
  obtain⟨xs0,f0,h⟩:=bnd h
  obtain⟨t,e3,h⟩:=bnd h
  obtain⟨dk,ek,h⟩:=bnd h
  obtain⟨k,fk,h⟩:=bnd h
  obtain⟨x1,ex,h⟩:=bnd h
  obtain⟨xs,f1,h⟩:=bnd h
  obtain⟨jj,ej,h⟩:=bnd h
  rw[aV fk]at ek
  rw[gn f1]at ex
  ·obtain⟨v,ev⟩:=R2.wf.get (join_some e0)
   refine⟨v,ev,s2 b F σ H1 _ _ _ (fun r ρ'=>r=t.1/\ρ'=t.2) _ hK R2 ⟨t,e3,rfl,rfl⟩ fun v2 H2 r ρ2 R3 hZ=>?_⟩
   obtain⟨h1,h2⟩:=hZ
   subst h1 h2
   ·cases h
    have hk:=R3.dt ek
    cases hk
    obtain⟨v',ev',w⟩:=Rel.open (us:=[v1]) (zs:=[o.1]) R3.drop rfl ex
    rw[ev]at ev'
    cases ev'
    obtain⟨l,vs,ch,hH,hl,go⟩:=w.mutL (ks:=[]) rfl rfl
    cases ch
    refine⟨l,vs,k,jj,rfl,rfl,hH,by rw[hl];exact ej,?_⟩
    exact E.nx σ _ _ (Rel.close (Rel.rest (us:=[v1]) (zs:=[o.1]) R3.drop rfl) ev (go (vs.set jj v1) (xs.set jj o.1) fun S H A C nt h1 h2 nd=>Ows.setA (yx ej) h1 h2 nd)) q⟩
end
end
section
section
variable{X:Cx}{C:Ct}{a e e2:Expr}{es:List Expr}{ma mb:E}{mes:Es}{pos p p1 p2 apos:Pos}{x:Str}{i j:Nat}{k n:Nat}{f:Addr}{fd:FuncData}{ps:List Str}{sp:DSp}{c m:Str}{ff:Nat}
def spC(g:List OD->Option (OD × List OD)):DSp:=fun xs Q=>∃w,g xs=some w/\Q w.1 w.2
theorem rH(g:List OD->Option (OD × List OD)):uo (spC g):=fun xs P R h ⟨w,e,q⟩=>⟨w,e,h _ _ q⟩
end
end
section
def cb(e:PySem.Expr):Option (Str):=if h:e.ctorIdx=23 then some (@PySem.Expr.Name.elim (fun _=>Str) e h fun x _=>x) else none
theorem asNm_ok{e:PySem.Expr}{z:Str}(h:cb e=some z):∃p,e=.Name z p:=by
 by_cases hc:e.ctorIdx=23
 ·revert h
  exact @PySem.Expr.Name.elim (fun e=>cb e=some z->∃p,e=.Name z p) e hc fun x p h=>by cases h;exact⟨p,rfl⟩
 ·rw[cb,dif_neg hc]at h;cases h
def iC(e:PySem.Expr):Option (Const):=if h:e.ctorIdx=19 then some (@PySem.Expr.Constant.elim (fun _=>Const) e h fun c _ _=>c) else none
theorem gx{e:PySem.Expr}{z:Const}(h:iC e=some z):∃j p,e=.Constant z j p:=by
 by_cases hc:e.ctorIdx=19
 ·revert h
  exact @PySem.Expr.Constant.elim (fun e=>iC e=some z->∃j p,e=.Constant z j p) e hc fun c j p h=>by cases h;exact⟨j,p,rfl⟩
 ·rw[iC,dif_neg hc]at h;cases h
def mP(e:PySem.Expr):Option (Expr × Operator × Expr):=if h:e.ctorIdx=2 then some (@PySem.Expr.BinOp.elim (fun _=>Expr × Operator × Expr) e h fun x o y _=>(x,o,y)) else none
theorem rJ(h:mP e=some z):∃p,e=.BinOp z.1 z.2.1 z.2.2 p:=by
 by_cases hc:e.ctorIdx=2
 ·revert h
  exact @PySem.Expr.BinOp.elim (fun e=>mP e=some z->∃p,e=.BinOp z.1 z.2.1 z.2.2 p) e hc fun x o y p h=>by cases h;exact⟨p,rfl⟩
 ·rw[mP,dif_neg hc]at h;cases h
def kg(e:PySem.Expr):Option (Expr × List CmpOp × List Expr):=if h:e.ctorIdx=15 then some (@PySem.Expr.Compare.elim (fun _=>Expr × List CmpOp × List Expr) e h fun x os ys _=>(x,os,ys)) else none
theorem asCmp_ok(h:kg e=some z):∃p,e=.Compare z.1 z.2.1 z.2.2 p:=by
 by_cases hc:e.ctorIdx=15
 ·revert h
  exact @PySem.Expr.Compare.elim (fun e=>kg e=some z->∃p,e=.Compare z.1 z.2.1 z.2.2 p) e hc fun x os ys p h=>by cases h;exact⟨p,rfl⟩
 ·rw[kg,dif_neg hc]at h;cases h
def uY(e:PySem.Expr):Option (BoolOp × List Expr × Pos):=if h:e.ctorIdx=0 then some (@PySem.Expr.BoolOp.elim (fun _=>BoolOp × List Expr × Pos) e h fun o xs p=>(o,xs,p)) else none
theorem uZ(h:uY e=some z):e=.BoolOp z.1 z.2.1 z.2.2:=by
 by_cases hc:e.ctorIdx=0
 ·revert h
  exact @PySem.Expr.BoolOp.elim (fun e=>uY e=some z->e=.BoolOp z.1 z.2.1 z.2.2) e hc fun o xs p h=>by cases h;exact rfl
 ·rw[uY,dif_neg hc]at h;cases h
def oR(e:PySem.Expr):Option (UnaryOp × Expr):=if h:e.ctorIdx=3 then some (@PySem.Expr.UnaryOp.elim (fun _=>UnaryOp × Expr) e h fun o x _=>(o,x)) else none
theorem jn{e:PySem.Expr}{z:UnaryOp × Expr}(h:oR e=some z):∃p,e=.UnaryOp z.1 z.2 p:=by
 by_cases hc:e.ctorIdx=3
 ·revert h
  exact @PySem.Expr.UnaryOp.elim (fun e=>oR e=some z->∃p,e=.UnaryOp z.1 z.2 p) e hc fun o x p h=>by cases h;exact⟨p,rfl⟩
 ·rw[oR,dif_neg hc]at h;cases h
def u6(e:PySem.Expr):Option (Expr × Expr × Expr):=if h:e.ctorIdx=5 then some (@PySem.Expr.IfExp.elim (fun _=>Expr × Expr × Expr) e h fun c a b _=>(c,a,b)) else none
theorem u7(h:u6 e=some z):∃p,e=.IfExp z.1 z.2.1 z.2.2 p:=by
 by_cases hc:e.ctorIdx=5
 ·revert h
  exact @PySem.Expr.IfExp.elim (fun e=>u6 e=some z->∃p,e=.IfExp z.1 z.2.1 z.2.2 p) e hc fun c a b p h=>by cases h;exact⟨p,rfl⟩
 ·rw[u6,dif_neg hc]at h;cases h
def cj(e:PySem.Expr):Option (List Expr):=if h:e.ctorIdx=25 then some (@PySem.Expr.Tuple.elim (fun _=>List Expr) e h fun xs _ _=>xs) else none
theorem asTup_ok(h:cj e=some z):∃k p,e=.Tuple z k p:=by
 by_cases hc:e.ctorIdx=25
 ·revert h
  exact @PySem.Expr.Tuple.elim (fun e=>cj e=some z->∃k p,e=.Tuple z k p) e hc fun xs k p h=>by cases h;exact⟨k,p,rfl⟩
 ·rw[cj,dif_neg hc]at h;cases h
def mQ(e:PySem.Expr):Option (List Expr):=if h:e.ctorIdx=24 then some (@PySem.Expr.List.elim (fun _=>List Expr) e h fun xs _=>xs) else none
theorem rK(h:mQ e=some z):∃p,e=.List z p:=by
 by_cases hc:e.ctorIdx=24
 ·revert h
  exact @PySem.Expr.List.elim (fun e=>mQ e=some z->∃p,e=.List z p) e hc fun xs p h=>by cases h;exact⟨p,rfl⟩
 ·rw[mQ,dif_neg hc]at h;cases h
def eE(e:PySem.Expr):Option (Expr × Expr):=if h:e.ctorIdx=21 then some (@PySem.Expr.Subscript.elim (fun _=>Expr × Expr) e h fun x y _=>(x,y)) else none
theorem cB(h:eE e=some z):∃p,e=.Subscript z.1 z.2 p:=by
 by_cases hc:e.ctorIdx=21
 ·revert h
  exact @PySem.Expr.Subscript.elim (fun e=>eE e=some z->∃p,e=.Subscript z.1 z.2 p) e hc fun x y p h=>by cases h;exact⟨p,rfl⟩
 ·rw[eE,dif_neg hc]at h;cases h
def kh(e:PySem.Expr):Option (Option Expr × Option Expr × Option Expr):=if h:e.ctorIdx=26 then some (@PySem.Expr.Slice.elim (fun _=>Option Expr × Option Expr × Option Expr) e h fun l hi s _=>(l,hi,s)) else none
theorem ki(h:kh e=some z):∃p,e=.Slice z.1 z.2.1 z.2.2 p:=by
 by_cases hc:e.ctorIdx=26
 ·revert h
  exact @PySem.Expr.Slice.elim (fun e=>kh e=some z->∃p,e=.Slice z.1 z.2.1 z.2.2 p) e hc fun l hi s p h=>by cases h;exact⟨p,rfl⟩
 ·rw[kh,dif_neg hc]at h;cases h
def ft(e:PySem.Expr):Option (Expr × List Expr × List Keyword × Pos):=if h:e.ctorIdx=16 then some (@PySem.Expr.Call.elim (fun _=>Expr × List Expr × List Keyword × Pos) e h fun f xs ks p=>(f,xs,ks,p)) else none
theorem fu(h:ft e=some z):e=.Call z.1 z.2.1 z.2.2.1 z.2.2.2:=by
 by_cases hc:e.ctorIdx=16
 ·revert h
  exact @PySem.Expr.Call.elim (fun e=>ft e=some z->e=.Call z.1 z.2.1 z.2.2.1 z.2.2.2) e hc fun f xs ks p h=>by cases h;exact rfl
 ·rw[ft,dif_neg hc]at h;cases h
def kj(e:PySem.Expr):Option (Expr × Str × Pos):=if h:e.ctorIdx=20 then some (@PySem.Expr.Attribute.elim (fun _=>Expr × Str × Pos) e h fun o f p=>(o,f,p)) else none
theorem asAtt_ok(h:kj e=some z):e=.Attribute z.1 z.2.1 z.2.2:=by
 by_cases hc:e.ctorIdx=20
 ·revert h
  exact @PySem.Expr.Attribute.elim (fun e=>kj e=some z->e=.Attribute z.1 z.2.1 z.2.2) e hc fun o f p h=>by cases h;exact rfl
 ·rw[kj,dif_neg hc]at h;cases h
def lC(e:PySem.Expr):Option (Expr × List Comprehension × Scope × Pos):=if h:e.ctorIdx=8 then some (@PySem.Expr.ListComp.elim (fun _=>Expr × List Comprehension × Scope × Pos) e h fun x gs s p=>(x,gs,s,p)) else none
theorem mR(h:lC e=some z):e=.ListComp z.1 z.2.1 z.2.2.1 z.2.2.2:=by
 by_cases hc:e.ctorIdx=8
 ·revert h
  exact @PySem.Expr.ListComp.elim (fun e=>lC e=some z->e=.ListComp z.1 z.2.1 z.2.2.1 z.2.2.2) e hc fun x gs s p h=>by cases h;exact rfl
 ·rw[lC,dif_neg hc]at h;cases h
def Eg:Const->Option Int | .int k=>some k | _=>none
def Eh:Const->Option Str | .str k=>some k | _=>none
def Ei:Const->Option Bool | .bool k=>some k | _=>none
def kl(e:Expr):Option Int:=(iC e).bind Eg
def wB(e:Expr):Option Str:=(iC e).bind Eh
def zd(e:Expr):Option Bool:=(iC e).bind Ei
def isTup(e:Expr):Bool:=(cj e).isSome
theorem anyT{α:Type}{o:Option α}{p:α->Bool}(h:o.any p=true):∃a,o=some a/\p a=true:=by
 cases o with
 | none=>cases h
 | some a=>exact⟨a,rfl,h⟩
theorem an2{a b:Bool}(h:(a && b)=true):a=true/\b=true:=abG.mp h
section
variable{e:Expr}
theorem asInt_ok{k:Int}(h:kl e=some k):∃j p,e=.Constant (.int k) j p:=by
 obtain⟨c,h1,h⟩:=bnd h
 obtain⟨j,p,rfl⟩:=gx h1
 cases c<;>cases h
 exact⟨j,p,rfl⟩
theorem asStr_ok(h:wB e=some k):∃j p,e=.Constant (.str k) j p:=by
 obtain⟨c,h1,h⟩:=bnd h
 obtain⟨j,p,rfl⟩:=gx h1
 cases c<;>cases h
 exact⟨j,p,rfl⟩
theorem asBl_ok(h:zd e=some k):∃j p,e=.Constant (.bool k) j p:=by
 obtain⟨c,h1,h⟩:=bnd h
 obtain⟨j,p,rfl⟩:=gx h1
 cases c<;>cases h
 exact⟨j,p,rfl⟩
theorem eF(h:isTup e=true):∃xs k p,e=.Tuple xs k p:=by
 obtain⟨z,h1⟩:=abk.mp h
 obtain⟨k,p,rfl⟩:=asTup_ok h1
 exact⟨z,k,p,rfl⟩
end
theorem an3(h:(a && b && c)=true):a=true/\b=true/\c=true:=⟨(an2 (an2 h).1).1,(an2 (an2 h).1).2,(an2 h).2⟩
theorem an4(h:(a && b && c && d)=true):a=true/\b=true/\c=true/\d=true:=⟨(an3 (an2 h).1).1,(an3 (an2 h).1).2.1,(an3 (an2 h).1).2.2,(an2 h).2⟩
theorem an5(h:(a && b && c && d && e)=true):a=true/\b=true/\c=true/\d=true/\e=true:=⟨(an4 (an2 h).1).1,(an4 (an2 h).1).2.1,(an4 (an2 h).1).2.2.1,(an4 (an2 h).1).2.2.2,(an2 h).2⟩
theorem cC(h:(!a)=true):a=false:=by cases a<;>first | rfl | cases h
def oS{α:Type}:List α->Option (α × List α) | x::xs=>some (x,xs) | _=>none
theorem con1_ok{α:Type}{l:List α}{x:α × List α}(h:oS l=some x):l=x.1::x.2:=by cases l<;>cases h;rfl
structure Tb where
 fn:Nat->Option Str
 me:Nat->Option (Str × Str)
 mk':Nat->Option Str
 gc:Nat->Option Str
 nog:Str->Bool
 fld:Str->Str->Bool
structure Cy (t:Tb)(C:Ct)(X:Cx):Prop where
 calm:X.calm=true
 units:X.A.units + 64 < cLine
 guards:X.A.guards=some []
 hfn:∀j nm,t.fn j=some nm->∃k fa fd ps,FnD X.prog X.w X.K X.mg X.base k fa fd ps (spC (C.call j))/\Room k X.A/\X.mg nm=some (.ref fa)/\PySem.W.keepIn X.K (.ref fa)=true/\Binds X.K fd ps []
 hme:∀j c m,t.me j=some (c,m)->Cls X.K (aR X.K c)/\∃k fa fd ps,Meth X.K (aR X.K c) m fa/\FnD X.prog X.w X.K X.mg X.base k fa fd ps (spC (C.call j))/\Room k X.A/\Binds X.K fd ps []
 hmk:∀j c,t.mk' j=some c->∃k fa fd ps,Mk X.K (aR X.K c) fa/\FnD X.prog X.w X.K X.mg X.base k fa fd ps (spC (C.mak j))/\Room (k + 1) X.A/\X.mg c=some (.ref (aR X.K c))/\Binds X.K fd ps []
 hgc:∀g nm,t.gc g=some nm->∃v u,X.mg nm=some u/\RelV v u/\∀S H,Fz X.K S H v (C.gv g)
 hng:∀x,t.nog x=true->X.mg x=none
 hfl:∀c f,t.fld c f=true->Cls X.K (aR X.K c)/\kU X.K (aR X.K c) f
theorem Cy.comp{t:Tb}{C:Ct}{X:Cx}(c:Cy t C X){N:List Str}{sc:Scope}{q:CC}:Cy t C (cO X N sc q):=⟨c.calm,c.units,c.guards,c.hfn,c.hme,c.hmk,c.hgc,c.hng,c.hfl⟩
def sEq(x y:Str):Bool:=decide (x=y)
theorem cU(h:sEq x y=true):x=y:=Daa h
def kindB(sc:Scope)(x:Str)(k:NameKind):Bool:=decide (sc.names.lookup x=some k)
theorem aH(h:kindB sc x k=true):sc.names.lookup x=some k:=Daa h
def ze(sc:Scope)(x:Str):Bool:=kindB sc x .local || kindB sc x .cell || kindB sc x .free
def u9(sc:Scope)(x:Str):Bool:=kindB sc x .local || kindB sc x .cell
theorem vc(h:ze sc x=true):Vis sc x:=by
 unfold ze at h
 rw[abr,abr]at h
 rcases h with (h | h) | h
 ·exact .inl (aH h)
 ·exact .inr (.inl (aH h))
 ·exact .inr (.inr (aH h))
theorem mS(h:u9 sc x=true):Loc sc x:=by
 unfold u9 at h
 rw[abr]at h
 rcases h with h | h
 ·exact .inl (aH h)
 ·exact .inr (aH h)
def okN(x:Str):Bool:=!(x == ("__debug__":Str)) && !(x == ("__classdict__":Str))
def zf(N:List Str)(sc:Scope)(i:Nat)(x:Str):Bool:=decide (N[i]?=some x) && ze sc x && okN x
structure NmX (X:Cx)(i:Nat)(x:Str):Prop where
 n:X.N[i]?=some x
 v:Vis X.env.scope x
 d:(x == ("__debug__":Str))=false
 c:(x == ("__classdict__":Str))=false
theorem fv(h:zf X.N X.env.scope i x=true):NmX X i x:=by
 unfold zf okN at h
 simp only[aam,abp]at h
 exact⟨Daa h.1.1,vc h.1.2,h.2.1,h.2.2⟩
def Cb(N:List Str)(sc:Scope)(i:Nat)(e:Expr):Bool:=(cb e).any fun x=>zf N sc i x
theorem lD{N:List Str}(h:Cb N sc i e=true):∃x p,e=.Name x p/\zf N sc i x=true:=by
 obtain⟨x,h1,h⟩:=anyT h
 obtain⟨p,rfl⟩:=asNm_ok h1
 exact⟨x,p,rfl,h⟩
def z6(sc:Scope)(x:Str):Bool:=kindB sc x .globalImplicit && !(x == ("__debug__":Str))
theorem fA(h:z6 X.env.scope x=true):Gl X x/\(x == ("__debug__":Str))=false:=by
 unfold z6 at h
 rw[aam]at h
 exact⟨aH h.1,by simpa using h.2⟩
def rM(t:Tb)(sc:Scope)(x y:Str):Bool:=sEq x y && z6 sc x && t.nog x
theorem blB_ok(c:Cy t C X)(h:rM t X.env.scope x y=true):x=y/\Gl X y/\X.mg y=none:=by
 unfold rM at h
 simp only[aam]at h
 obtain⟨⟨h1,h2⟩,h3⟩:=h
 have:=cU h1
 subst this
 exact⟨rfl,(fA h2).1,c.hng _ h3⟩
def Ej(o:Bo)(op:Operator):Bool:=decide (op=opOf o)
theorem rN(h:Ej o op=true):op=opOf o:=Daa h
def CT(o:Co)(op:CmpOp):Bool:=decide (op=coOf o)
theorem gy(h:CT o op=true):op=coOf o:=Daa h
def isSet:Expr->Bool
 | .Set _ _ _=>true
 | _=>false
theorem fB(op:CmpOp)(h:isSet e=false):behindInMarks op e=false:=by cases e<;>first | rfl | cases h
theorem jo(h:isSet e=false):∀x,foldedSetIterable e env x=pure x:=by cases e<;>first | (intro _;rfl) | cases h
def rO:UnaryOp->Bool | .USub=>true | _=>false
theorem jq{o:UnaryOp}(h:rO o=true):o=.USub:=by cases o<;>first | rfl | cases h
def EM(k:Int)(e:Expr):Bool:=((kl e).any fun j=>decide (j=k)) || (oR e).any fun z=>rO z.1 && (kl z.2).any fun j=>decide (-j=k)
section
variable{X:Cx}{k:Int}{e:Expr}
theorem Cc{j:Nat}{p p':Pos}:PX X (.UnaryOp .USub (.Constant (.int k) j p) p') (fun _=>some (.int (-k))):=⟨_,pS kR iY,fun σ H Q v e q=>by cases e;exact⟨k,rfl,q⟩⟩
theorem rP(h:EM k e=true):PX X e (fun _=>some (.int k))/\bS e=false:=by
 rcases Bool.or_eq_true_iff.mp h with h | h
 ·obtain⟨j,h1,h⟩:=anyT h
  obtain⟨_,_,rfl⟩:=asInt_ok h1
  have:=Daa h
  subst this
  exact⟨B5,rfl⟩
 ·obtain⟨z,h1,h⟩:=anyT h
  obtain⟨p,rfl⟩:=jn h1
  obtain⟨j,h2,h3⟩:=anyT (an2 h).2
  obtain⟨_,_,e2⟩:=asInt_ok h2
  have:=Daa h3
  subst this
  rw[jq (an2 h).1,e2]
  exact⟨Cc,rfl⟩
end
def km(t:Tb)(N:List Str)(sc:Scope)(i:Nat):List Acc->Expr->Bool
 | []=>fun e=>Cb N sc i e
 | .ix k::ps=>fun e=>(eE e).any fun z=>EM k z.2 && km t N sc i ps z.1
 | .key j::ps=>fun e=>(eE e).any fun z=>Cb N sc j z.2 && km t N sc i ps z.1
section
variable{t:Tb}{C:Ct}{X:Cx}{i j:Nat}{e:Expr}
theorem wC(h:Cb X.N X.env.scope j e=true):PX X e (fun σ=>σ[j]?.join)/\bS e=false:=by
 obtain⟨x,p,rfl,h⟩:=lD h
 obtain⟨h1,h2,h3,h4⟩:=fv h
 exact⟨Ea h1 h2 h3 h4,rfl⟩
theorem Ek(h:bS e=false):NoSl e:=by
 cases e<;>first | exact fun _ _=>rfl | cases h
theorem eG(c:Cy t C X):∀(ps:List Acc) (e:Expr),km t X.N X.env.scope i ps e=true->PDp X e i ps
 | [],e,h=>by
  obtain⟨x,p,rfl,h⟩:=lD h
  obtain⟨h1,h2,h3,h4⟩:=fv h
  exact Eb h1 h2 h3 h4
 | .ix k::ps,e,h=>by
  obtain⟨z,h1,k⟩:=anyT h
  obtain⟨a1,a2⟩:=an2 k
  obtain⟨p,rfl⟩:=cB h1
  exact Ec (mK (rP (X:=X) a1).2) (eG c ps _ a2) (rP a1).1
 | .key j::ps,e,h=>by
  obtain⟨z,h1,k⟩:=anyT h
  obtain⟨a1,a2⟩:=an2 k
  obtain⟨p,rfl⟩:=cB h1
  exact B7 (by have:=c.units;omega) (Ek (wC a1).2) (eG c ps _ a2) (wC a1).1
end
def ko(ok:Nat->Bool)(N:List Str)(sc:Scope)(fn:Bool)(m i:Nat)(x:Str):Bool:=decide (N[i]?=some x) && u9 sc x && (fn || kindB sc x .local) && decide (i < m) && ok i
def mT(ok:Nat->Bool)(N:List Str)(sc:Scope)(fn:Bool)(m:Nat):List Nat->List Expr->Bool
 | []=>fun es=>es.isEmpty
 | i::is=>fun es=>(oS es).any fun z=>(cb z.1).any fun x=>ko ok N sc fn m i x && mT ok N sc fn m is z.2
def rQ(ok:Nat->Bool)(N:List Str)(sc:Scope)(fn:Bool)(m:Nat):Tg->Expr->Bool
 | .nm i=>fun e=>(cb e).any fun x=>ko ok N sc fn m i x
 | .tp ts=>fun e=>(cj e).any fun es=>mT ok N sc fn m ts es
 | .tn i ts=>fun e=>(cj e).any fun es=>(eh es).any fun w=>(cb w.1).any fun x=>(cj w.2).any fun es=>ko ok N sc fn m i x && mT ok N sc fn m ts es
section
variable{X:Cx}{W:Nat->Prop}{ok:Nat->Bool}{fn:Bool}{m:Nat}
theorem dr{i:Nat}{x:Str}(hf:fn=true->∀x,X.fn x=true)(hw:∀i,ok i=true->¬ W i)(h:ko ok X.N X.env.scope fn m i x=true):Sto X W m i x:=by
 unfold ko at h
 simp only[aam,abr]at h
 obtain⟨⟨⟨⟨h1,h2⟩,h3⟩,h4⟩,h5⟩:=h
 exact⟨Daa h1,mS h2,h3.imp (fun z=>hf z x) aH,Daa h4,hw i h5⟩
theorem gz(hf:fn=true->∀x,X.fn x=true)(hw:∀i,ok i=true->¬ W i):∀(ts:List Nat) (es:List Expr),mT ok X.N X.env.scope fn m ts es=true->Stos X W m ts es
 | [],es,h=>by
  cases es with
  | nil=>exact .nil
  | cons _ _=>cases h
 | i::is,es,h=>by
  obtain⟨z,h1,k⟩:=anyT h
  obtain⟨x,h2,k⟩:=anyT k
  obtain⟨p,e2⟩:=asNm_ok h2
  rw[con1_ok h1,e2]
  exact .cons (dr hf hw (an2 k).1) (gz hf hw is _ (an2 k).2)
theorem eI{tg:Tg}{e:Expr}(hc:X.calm=true)(hN:X.N.Nodup)(hf:fn=true->∀x,X.fn x=true)(hw:∀i,ok i=true->¬ W i)(h:rQ ok X.N X.env.scope fn m tg e=true):PDg X W m e (en tg):=by
 cases tg with
 | nm i =>
  obtain⟨x,h1,k⟩:=anyT h
  obtain⟨p,rfl⟩:=asNm_ok h1
  exact BK hN (dr hf hw k)
 | tp ts =>
  obtain⟨es,h1,k⟩:=anyT h
  obtain⟨_,_,rfl⟩:=asTup_ok h1
  exact BL hc hN (gz hf hw _ _ k)
 | tn i ts =>
  obtain⟨es,h1,k⟩:=anyT h
  obtain⟨w,h2,k⟩:=anyT k
  obtain⟨x,h3,k⟩:=anyT k
  obtain⟨es',h4,k⟩:=anyT k
  obtain⟨_,_,rfl⟩:=asTup_ok h1
  obtain⟨_,e3⟩:=asNm_ok h3
  obtain⟨_,_,e4⟩:=asTup_ok h4
  rw[two2_ok h2,e3,e4]
  exact D6 hc hN (dr hf hw (an2 k).1) (gz hf hw _ _ (an2 k).2)
end
def oT(sc osc:Scope):Scope:={ sc with names:=sc.names.map fun (n,k)=>if (k == NameKind.free && osc.kind == .function && osc.names.lookup n == some .cell) then (n,NameKind.cell) else (n,k) }
def zg:Expr->List Str
 | .Name x _=>[x]
 | .Tuple [.Name x _,.Tuple es _ _] _ _=>x::es.filterMap fun | .Name x _=>some x | _=>none
 | .Tuple es _ _=>es.filterMap fun | .Name x _=>some x | _=>none
 | _=>[]
def rR(N:List Str)(nt:Nat)(ON:List Str)(sc osc:Scope):Nat->List Nat->Bool
 | _,[]=>true
 | i,j::fr=>(match N[nt + i]? with
  | some x=>decide (ON[j]?=some x) && kindB osc x .cell && kindB sc x .free
  | none=>false) && rR N nt ON sc osc (i + 1) fr
def mU(N:List Str)(nt:Nat)(fr:List Nat)(ON:List Str)(sc osc:Scope):Bool :=
 decide (sc.kind=.function) && sc.names.all (fun x=>!decide (x.2=.cell)) && sc.names.all (fun x=>!decide (x.2=.local) || kindB sc x.1 .local) && decide (N.length=nt + fr.length) && rR N nt ON sc osc 0 fr &&
  sc.names.all (fun x=>!decide (x.2=.free) || (kindB osc x.1 .cell && kindB sc x.1 .free))
theorem mV:∀{fr:List Nat} {i0:Nat},rR N nt ON sc osc i0 fr=true->∀(i j:Nat),fr[i]?=some j->∃x,N[nt + (i0 + i)]?=some x/\ON[j]?=some x/\osc.names.lookup x=some .cell/\sc.names.lookup x=some .free
 | [],_,_,i,j,e=>by simp at e
 | j0::fr,i0,h,0,j,e=>by
  simp at e
  subst e
  simp only[rR,aam]at h
  obtain⟨h,_⟩:=h
  split at h
  ·rename_i x ex
   simp only[aam]at h
   exact⟨x,ex,Daa h.1.1,aH h.1.2,aH h.2⟩
  ·cases h
 | j0::fr,i0,h,i + 1,j,e=>by
  simp only[rR,aam]at h
  obtain⟨x,h1,h2⟩:=mV h.2 i j (by simpa using e)
  exact⟨x,by rw[show i0 + (i + 1)=i0 + 1 + i by omega];exact h1,h2⟩
theorem gA(h:mU N nt fr ON sc osc=true):CompScope N nt fr ON sc osc:=by
 unfold mU at h
 simp only[aam,aaP,abr,abp,decide_eq_false_iff_not,decide_eq_true_eq]at h
 obtain⟨⟨⟨⟨⟨h1,h2⟩,h3⟩,h4⟩,h5⟩,h6⟩:=h
 refine⟨h1,fun x hx=>h2 x hx,fun x hx e=>?_,h4,fun i j e=>?_,fun x hx e=>?_,fun x hx e=>?_⟩
 ·exact (h3 x hx).elim (fun z=>absurd e z) aH
 ·have:=mV h5 i j e;rwa [aaV]at this
 ·exact (h6 x hx).elim (fun z=>absurd e z) fun z=>aH z.1
 ·exact (h6 x hx).elim (fun z=>absurd e z) fun z=>aH z.2
end
section
abbrev Ck:=List Str->Scope->Expr->Bool
def fT(f:Ck):Ck × Ck:=(f,fun N sc e=>plainT e && f N sc e)
def FP:Bn->Str
 | .tuple=>"tuple" | .sorted=>"sorted"
def FQ:Knd->Str
 | .int=>"int" | .bool=>"bool" | .str=>"str" | .list=>"list" | .tuple=>"tuple" | .seq=>"list"
def vd(e:Expr):Option (Str × List Expr):=(ft e).bind fun z=>(cb z.1).bind fun x=>if z.2.2.1.isEmpty then some (x,z.2.1) else none
theorem jr{z}(h:vd e=some z):∃p p',e=.Call (.Name z.1 p) z.2 [] p':=by
 obtain⟨c,h1,h⟩:=bnd h
 obtain⟨x,h2,h⟩:=bnd h
 obtain⟨f,xs,ks,p'⟩:=c
 cases ks with
 | cons _ _=>cases h
 | nil =>
  cases h
  obtain⟨p,rfl⟩:=asNm_ok h2
  exact⟨p,p',fu h1⟩
def zh(e:Expr):Option (Expr × CmpOp × Expr):=(kg e).bind fun z=>(dJ z.2.1).bind fun o=>(dJ z.2.2).bind fun y=>some (z.1,o,y)
theorem jt{z}(h:zh e=some z):∃p,e=.Compare z.1 [z.2.1] [z.2.2] p:=by
 obtain⟨c,h1,h⟩:=bnd h
 obtain⟨o,h2,h⟩:=bnd h
 obtain⟨y,h3,h⟩:=bnd h
 cases h
 obtain⟨x,os,ys⟩:=c
 obtain⟨p,rfl⟩:=asCmp_ok h1
 have e1:=one1_ok h2
 have e2:=one1_ok h3
 simp only at e1 e2
 subst e1 e2
 exact⟨p,rfl⟩
def cmp2(e:Expr):Option (Expr × (CmpOp × CmpOp) × (Expr × Expr)):=(kg e).bind fun z=>(eh z.2.1).bind fun o=>(eh z.2.2).bind fun y=>some (z.1,o,y)
theorem mW{z}(h:cmp2 e=some z):∃p,e=.Compare z.1 [z.2.1.1,z.2.1.2] [z.2.2.1,z.2.2.2] p:=by
 obtain⟨c,h1,h⟩:=bnd h
 obtain⟨o,h2,h⟩:=bnd h
 obtain⟨y,h3,h⟩:=bnd h
 cases h
 obtain⟨x,os,ys⟩:=c
 obtain⟨p,rfl⟩:=asCmp_ok h1
 have e1:=two2_ok h2
 have e2:=two2_ok h3
 simp only at e1 e2
 subst e1 e2
 exact⟨p,rfl⟩
def Cd(neg:Bool):CmpOp->Bool
 | .Is=>!neg | .IsNot=>neg | _=>false
theorem mX(h:Cd neg o=true):o=if neg then .IsNot else .Is:=by cases o<;>cases neg<;>first | rfl | cases h
def zi:BoolOp->Bool | .And=>true | _=>false
theorem mY(h:zi o=true):o=.And:=by cases o<;>first | rfl | cases h
def El:BoolOp->Bool | .Or=>true | _=>false
theorem rS(h:El o=true):o=.Or:=by cases o<;>first | rfl | cases h
def zj:UnaryOp->Bool | .Not=>true | _=>false
theorem mZ(h:zj o=true):o=.Not:=by cases o<;>first | rfl | cases h
def zk:Operator->Bool | .Add=>true | _=>false
theorem m3(h:zk o=true):o=.Add:=by cases o<;>first | rfl | cases h
def wD(e:Expr):Option (Expr × Option Expr × Option Expr):=(eE e).bind fun z=>(kh z.2).bind fun s=>if s.2.2.isNone then some (z.1,s.1,s.2.1) else none
theorem rT{z}(h:wD e=some z):∃p p',e=.Subscript z.1 (.Slice z.2.1 z.2.2 none p) p':=by
 obtain⟨c,h1,h⟩:=bnd h
 obtain⟨s,h2,h⟩:=bnd h
 obtain⟨x,y⟩:=c
 obtain⟨l,hh,st⟩:=s
 cases st with
 | some _=>cases h
 | none =>
  cases h
  obtain⟨p',rfl⟩:=cB h1
  obtain⟨p,e2⟩:=ki h2
  simp only at e2
  subst e2
  exact⟨p,p',rfl⟩
def wF(e:Expr):Option Expr:=(eE e).bind fun z=>(kh z.2).bind fun s=>s.2.2.bind fun st=>(oR st).bind fun u=>(kl u.2).bind fun k=>if (s.1.isNone && s.2.1.isNone && rO u.1 && decide (k=1))=true then some z.1 else none
theorem rV{e x:Expr}(h:wF e=some x):∃j p1 p2 p3 p4,e=.Subscript x (.Slice none none (some (.UnaryOp .USub (.Constant (.int 1) j p1) p2)) p3) p4:=by
 obtain⟨z,h1,h⟩:=bnd h
 obtain⟨s,h2,h⟩:=bnd h
 obtain⟨st,h3,h⟩:=bnd h
 obtain⟨u,h4,h⟩:=bnd h
 obtain⟨k,h5,h⟩:=bnd h
 obtain⟨x',y⟩:=z
 obtain⟨l,hh,st'⟩:=s
 obtain⟨o,v⟩:=u
 by_cases hc:(l.isNone && hh.isNone && rO o && decide (k=1))=true
 ·rw[if_pos hc]at h
  cases h
  obtain⟨p4,rfl⟩:=cB h1
  obtain⟨p3,e2⟩:=ki h2
  obtain⟨p2,rfl⟩:=jn h4
  obtain⟨j,p1,e5⟩:=asInt_ok h5
  simp only at e2 h3 e5
  subst h3 e2 e5
  rw[aam,aam,aam,decide_eq_true_eq,acy,acy]at hc
  obtain⟨⟨⟨rfl,rfl⟩,ho⟩,rfl⟩:=hc
  rw[show o=.USub from jq ho]
  exact⟨j,p1,p2,p3,p4,rfl⟩
 ·rw[if_neg hc]at h;cases h
def Ce(e:Expr):Option (Str × Str × List Expr × Pos × Pos):=(ft e).bind fun z=>(kj z.1).bind fun a=>(cb a.1).bind fun x=>if z.2.2.1.isEmpty then some (x,a.2.1,z.2.1,a.2.2,z.2.2.2) else none
theorem vf{z}(h:Ce e=some z):∃p,e=.Call (.Attribute (.Name z.1 p) z.2.1 z.2.2.2.1) z.2.2.1 [] z.2.2.2.2:=by
 obtain⟨c,h1,h⟩:=bnd h
 obtain⟨a,h2,h⟩:=bnd h
 obtain⟨x,h3,h⟩:=bnd h
 obtain⟨f,xs,ks,p'⟩:=c
 obtain⟨o,m,ap⟩:=a
 cases ks with
 | cons _ _=>cases h
 | nil =>
  cases h
  obtain⟨p,e3⟩:=asNm_ok h3
  have e2:=asAtt_ok h2
  simp only at e2 e3
  subst e3
  subst e2
  exact⟨p,fu h1⟩
def vg(e:PySem.Expr):Option (Expr × Expr × List Comprehension × Scope × Pos):=if h:e.ctorIdx=10 then some (@PySem.Expr.DictComp.elim (fun _=>Expr × Expr × List Comprehension × Scope × Pos) e h fun k x gs s p=>(k,x,gs,s,p)) else none
theorem vh(h:vg e=some z):e=.DictComp z.1 z.2.1 z.2.2.1 z.2.2.2.1 z.2.2.2.2:=by
 by_cases hc:e.ctorIdx=10
 ·revert h
  exact @PySem.Expr.DictComp.elim (fun e=>vg e=some z->e=.DictComp z.1 z.2.1 z.2.2.1 z.2.2.2.1 z.2.2.2.2) e hc fun k x gs s p h=>by cases h;exact rfl
 ·rw[vg,dif_neg hc]at h;cases h
def wG(e:Expr):Option (Expr × Expr × Expr × Expr × List Expr × Scope × Pos):=(vg e).bind fun z=>(dJ z.2.2.1).bind fun g=>if g.is_async=0 then some (z.1,z.2.1,g.target,g.iter,g.ifs,z.2.2.2.1,z.2.2.2.2) else none
theorem rW{z}(h:wG e=some z):e=.DictComp z.1 z.2.1 [⟨z.2.2.1,z.2.2.2.1,z.2.2.2.2.1,0⟩] z.2.2.2.2.2.1 z.2.2.2.2.2.2:=by
 obtain⟨c,h1,h⟩:=bnd h
 obtain⟨g,h2,h⟩:=bnd h
 obtain⟨k,x,gs,sc,p⟩:=c
 obtain⟨tg,it,fs,ay⟩:=g
 simp only at h
 by_cases ha:ay=0
 ·subst ha
  rw[if_pos rfl]at h
  cases h
  have e1:=one1_ok h2
  simp only at e1
  rw[vh h1,e1]
 ·rw[if_neg ha]at h;cases h
def wH(e:Expr):Option (Expr × Expr × Expr × List Expr × Scope × Pos):=(lC e).bind fun z=>(dJ z.2.1).bind fun g=>if g.is_async=0 then some (z.1,g.target,g.iter,g.ifs,z.2.2.1,z.2.2.2) else none
theorem kr{z}(h:wH e=some z):e=.ListComp z.1 [⟨z.2.1,z.2.2.1,z.2.2.2.1,0⟩] z.2.2.2.2.1 z.2.2.2.2.2:=by
 obtain⟨c,h1,h⟩:=bnd h
 obtain⟨g,h2,h⟩:=bnd h
 obtain⟨x,gs,sc,p⟩:=c
 obtain⟨tg,it,fs,ay⟩:=g
 simp only at h
 by_cases ha:ay=0
 ·subst ha
  rw[if_pos rfl]at h
  cases h
  have e1:=one1_ok h2
  simp only at e1
  subst e1
  exact mR h1
 ·rw[if_neg ha]at h;cases h
end
section
section
variable(t:Tb)
def ku(o:Co)(f g:Ck):Ck:=fun N sc e=>(zh e).any fun z=>CT o z.2.1 && !isSet z.2.2 && f N sc z.1 && g N sc z.2.2
def rX(o o':Co)(f g k:Ck):Ck:=fun N sc e=>(cmp2 e).any fun z=>CT o z.2.1.1 && CT o' z.2.1.2 && !isSet z.2.2.2 && (f N sc z.1 && g N sc z.2.2.1 && k N sc z.2.2.2)
def rY(b:BoolOp->Bool)(f g:Ck):Ck:=fun N sc e=>(uY e).any fun z=>b z.1 && ((oS z.2.1).any fun x=>(oS x.2).any fun y=>f N sc x.1 && bif y.2.isEmpty then g N sc y.1 else g N sc (.BoolOp z.1 x.2 z.2.2))
def vj(b:UnaryOp->Bool)(f:Ck):Ck:=fun N sc e=>(oR e).any fun z=>b z.1 && f N sc z.2
def m4(b:Operator->Bool)(f g:Ck):Ck:=fun N sc e=>(mP e).any fun z=>b z.2.1 && f N sc z.1 && g N sc z.2.2
def lF(p:Str->Bool)(f:List Str->Scope->List Expr->Bool):Ck:=fun N sc e=>(vd e).any fun z=>p z.1 && z6 sc z.1 && !z.2.isEmpty && !z.2.any isStar && f N sc z.2
def dM(p:Str)(f:Ck):Ck:=fun N sc e=>(vd e).any fun z=>(dJ z.2).any fun x=>rM t sc z.1 p && !isStar x && f N sc x
def ju(p:Str)(f g:Ck):Ck:=fun N sc e=>(vd e).any fun z=>(eh z.2).any fun x=>rM t sc z.1 p && !isStar x.1 && !isStar x.2 && f N sc x.1 && g N sc x.2
def Cg(k:Knd):Ck:=fun N sc e=>match k with
 | .seq=>(cj e).any fun z=>(eh z).any fun w=>((cb w.1).any fun u=>rM t sc u "list") && (cb w.2).any fun v=>rM t sc v "tuple"
 | k=>(cb e).any fun u=>rM t sc u (FQ k)
def wI(neg k:Bool)(f:Ck):Ck:=fun N sc e=>(zh e).any fun z=>Cd neg z.2.1 && f N sc z.1 && (zd z.2.2).any fun j=>decide (j=k)
mutual
def aT:E->Ck × Ck
 | .nm i=>fT fun N sc e=>Cb N sc i e
 | .int k=>fT fun N sc e=>(kl e).any fun j=>decide (j=k)
 | .str k=>fT fun N sc e=>(wB e).any fun j=>sEq j k
 | .bl k=>fT fun N sc e=>(zd e).any fun j=>decide (j=k)
 | .gc g=>fT fun N sc e=>(cb e).any fun x=>decide (t.gc g=some x) && z6 sc x
 | .bop o a b=>fT (m4 (Ej o) (aT a).1 (aT b).1)
 | .cat a b=>fT (m4 zk (aT a).1 (aT b).1)
 | .catU a b=>fT (m4 zk (aT a).1 (aT b).1)
 | .cmp o a b=>(ku o (aT a).1 (aT b).1,ku o (aT a).1 (aT b).1)
 | .cmp2 o o' a b c=>(rX o o' (aT a).1 (aT b).1 (aT c).1,rX o o' (aT a).1 (aT b).1 (aT c).1)
 | .isb neg k a=>(wI neg k (aT a).1,wI neg k (aT a).1)
 | .and a b=>(rY zi (aT a).1 (aT b).1,rY zi (aT a).2 (aT b).2)
 | .or a b=>(rY El (aT a).1 (aT b).1,rY El (aT a).2 (aT b).2)
 | .not a=>(vj zj (aT a).1,vj zj (aT a).2)
 | .neg a=>fT (vj rO (aT a).1)
 | .ife c a b=>fT fun N sc e=>(u6 e).any fun z=>(aT c).2 N sc z.1 && (aT a).1 N sc z.2.1 && (aT b).1 N sc z.2.2
 | .tup es=>fT fun N sc e=>(cj e).any fun xs=>jv es N sc xs
 | .lst es=>fT fun N sc e=>(mQ e).any fun xs=>jv es N sc xs
 | .ix a b=>fT fun N sc e=>(eE e).any fun z=>!bS z.2 && (aT a).1 N sc z.1 && (aT b).1 N sc z.2
 | .sll a lo hi=>fT fun N sc e=>(wD e).any fun z=>(aT a).1 N sc z.1 && zl lo N sc z.2.1 && zl hi N sc z.2.2
 | .call f es=>fT (lF (fun x=>decide (t.fn f=some x)) (jv es))
 | .blt f es=>fT (lF (fun x=>sEq x (yV f) && t.nog x) (jv es))
 | .bnw f a=>fT (dM t (FP f) (aT a).1)
 | .isi k a=>fT (ju t "isinstance" (aT a).1 (Cg t k))
 | .lset a=>fT (dM t "len" (dM t "set" (aT a).1))
 | .sht a=>fT (dM t "str" (aT a).1)
 | .rvs a=>fT fun N sc e=>(wF e).any fun z=>(aT a).1 N sc z
 | .frz a=>fT (aT a).1
 | .pg i ps=>fT fun N sc e=>km t N sc i ps e
 | .din neg a i ps=>(ku (if neg then .nin else .inn) (aT a).1 fun N sc e=>km t N sc i ps e,ku (if neg then .nin else .inn) (aT a).1 fun N sc e=>km t N sc i ps e)
 | .comp nt fr it tg ifs elt=>fT fun N sc e=>(wH e).any fun z=>(fun N'=>mU N' nt fr N z.2.2.2.2.1 sc && decide N'.Nodup && !isSet z.2.2.1 && vk it N sc z.2.1 z.2.2.1 && (rQ (fun _=>true) N' (oT z.2.2.2.2.1 sc) false nt tg z.2.1 && Ci ifs N' (oT z.2.2.2.2.1 sc) z.2.2.2.1 && (aT elt).1 N' (oT z.2.2.2.2.1 sc) z.1)) (zg z.2.1++fr.filterMap fun j=>N[j]?)
def jv:Es->List Str->Scope->List Expr->Bool
 | .nil=>fun N sc xs=>xs.isEmpty
 | .cons a es=>fun N sc xs=>(oS xs).any fun z=>!isStar z.1 && (aT a).1 N sc z.1 && jv es N sc z.2
def zl:Eo->List Str->Scope->Option Expr->Bool
 | .none=>fun N sc o=>o.isNone
 | .some a=>fun N sc o=>o.any fun x=>(aT a).1 N sc x
def Ci:Eo->List Str->Scope->List Expr->Bool
 | .none=>fun N sc o=>o.isEmpty
 | .some a=>fun N sc o=>(dJ o).any fun x=>(aT a).2 N sc x
def vk:It'->List Str->Scope->Expr->Expr->Bool
 | .seq a=>fun N sc g e=>(aT a).1 N sc e
 | .rg1 a=>fun N sc g e=>dM t "range" (aT a).1 N sc e
 | .rg2 a b=>fun N sc g e=>ju t "range" (aT a).1 (aT b).1 N sc e
 | .enm a=>fun N sc g e=>isTup g && dM t "enumerate" (aT a).1 N sc e
 | .zip a b=>fun N sc g e=>isTup g && ju t "zip" (aT a).1 (aT b).1 N sc e
end
end
def vm:Expr->Bool
 | .BoolOp _ _ _=>true
 | _=>false
structure EOk (t:Tb)(C:Ct)(m:E):Prop where
 v:∀X e,Cy t C X->(aT t m).1 X.N X.env.scope e=true->PDe X e (aF C m)
 w:∀X e,Cy t C X->vm e=true->(aT t m).2 X.N X.env.scope e=true->PDw X e (hJ C m)
 t:∀X e,Cy t C X->(aT t m).2 X.N X.env.scope e=true->PDt X e (hJ C m)
section
variable{t:Tb}{C:Ct}{X:Cx}{e:Expr}
theorem m5(h:vm e=true):∃o xs p,e=.BoolOp o xs p:=by cases e<;>first | exact⟨_,_,_,rfl⟩ | cases h
theorem aL{m:E}(hc:(aT t m).2=fun N sc e=>plainT e && (aT t m).1 N sc e)(hm:ba C m=(vt (ev C m)).2)(hv:∀X e,Cy t C X->(aT t m).1 X.N X.env.scope e=true->PDe X e (aF C m)):EOk t C m :=
 ⟨hv,fun X e c hb h=>by
  rw[hc]at h
  obtain⟨o,xs,p,rfl⟩:=m5 hb
  exact absurd h aah,
  fun X e c h=>by
  rw[hc]at h
  exact BD hm (an2 h).1 (hv X e c (an2 h).2)⟩
theorem gC{m:E}(hw:∀(X:Cx) e,vm e=true->(aT t m).2 X.N X.env.scope e=false)(hv:∀X e,Cy t C X->(aT t m).1 X.N X.env.scope e=true->PDe X e (aF C m))(ht:∀X e,Cy t C X->(aT t m).2 X.N X.env.scope e=true->PDt X e (hJ C m)):EOk t C m :=
 ⟨hv,fun X e c hb h=>absurd h (by rw[hw X e hb];exact aah),ht⟩
theorem rZ{f:Ck}{N:List Str}{sc:Scope}(hb:vm e=true)(h:∀o xs p,f N sc (.BoolOp o xs p)=false):f N sc e=false:=by
 obtain⟨o,xs,p,rfl⟩:=m5 hb
 exact h o xs p
theorem ckBin_ok{b:Operator->Bool}{f g:Ck}{N:List Str}{sc:Scope}(h:m4 b f g N sc e=true):∃x o y p,e=.BinOp x o y p/\b o=true/\f N sc x=true/\g N sc y=true:=by
 obtain⟨z,h1,h⟩:=anyT h
 obtain⟨p,rfl⟩:=rJ h1
 exact⟨_,_,_,p,rfl,an3 h⟩
theorem ckUn_ok{b:UnaryOp->Bool}{f:Ck}{N:List Str}{sc:Scope}(h:vj b f N sc e=true):∃o x p,e=.UnaryOp o x p/\b o=true/\f N sc x=true:=by
 obtain⟨z,h1,h⟩:=anyT h
 obtain⟨p,rfl⟩:=jn h1
 exact⟨_,_,p,rfl,an2 h⟩
theorem eJ{o:Co}{f g:Ck}{N:List Str}{sc:Scope}(h:ku o f g N sc e=true):∃x y p,e=.Compare x [coOf o] [y] p/\isSet y=false/\f N sc x=true/\g N sc y=true:=by
 obtain⟨z,h1,h⟩:=anyT h
 obtain⟨p,rfl⟩:=jt h1
 obtain⟨h1,h2,h3,h4⟩:=an4 h
 exact⟨_,_,p,by rw[gy h1],cC h2,h3,h4⟩
theorem iD{p:Str->Bool}{f:List Str->Scope->List Expr->Bool}{N:List Str}{sc:Scope}(h:lF p f N sc e=true):∃x z zs q q',e=.Call (.Name x q) (z::zs) [] q'/\p x=true/\z6 sc x=true/\isStar z=false/\zs.any isStar=false/\f N sc (z::zs)=true:=by
 obtain⟨z,h1,h⟩:=anyT h
 obtain⟨q,q',rfl⟩:=jr h1
 obtain⟨h1,h2,h3,h4,h5⟩:=an5 h
 obtain⟨x,xs⟩:=z
 cases xs with
 | nil=>cases h3
 | cons y ys =>
  have:=cC h4
  rw[aa7,acw]at this
  exact⟨x,y,ys,q,q',rfl,h1,h2,this.1,this.2,h5⟩
theorem bT{p:Str}{f:Ck}{N:List Str}{sc:Scope}(h:dM t p f N sc e=true):∃x z q q',e=.Call (.Name x q) [z] [] q'/\rM t sc x p=true/\isStar z=false/\f N sc z=true:=by
 obtain⟨z,h1,h⟩:=anyT h
 obtain⟨w,h2,h⟩:=anyT h
 obtain⟨q,q',rfl⟩:=jr h1
 obtain⟨x,xs⟩:=z
 have:=one1_ok h2
 simp only at this
 subst this
 obtain⟨h1,h2,h3⟩:=an3 h
 exact⟨x,w,q,q',rfl,h1,cC h2,h3⟩
theorem fD{p:Str}{f g:Ck}{N:List Str}{sc:Scope}(h:ju t p f g N sc e=true):∃x z w q q',e=.Call (.Name x q) [z,w] [] q'/\rM t sc x p=true/\isStar z=false/\isStar w=false/\f N sc z=true/\g N sc w=true:=by
 obtain⟨z,h1,h⟩:=anyT h
 obtain⟨w,h2,h⟩:=anyT h
 obtain⟨q,q',rfl⟩:=jr h1
 obtain⟨x,xs⟩:=z
 have:=two2_ok h2
 simp only at this
 subst this
 obtain⟨h1,h2,h3,h4,h5⟩:=an5 h
 exact⟨x,_,_,q,q',rfl,h1,cC h2,cC h3,h4,h5⟩
theorem ckBo_ok{b:BoolOp->Bool}{f g:Ck}{N:List Str}{sc:Scope}(h:rY b f g N sc e=true):∃o x y es p,e=.BoolOp o (x::y::es) p/\b o=true/\f N sc x=true/\((es=[]/\g N sc y=true)\/g N sc (.BoolOp o (y::es) p)=true):=by
 obtain⟨z,h1,h⟩:=anyT h
 have:=uZ h1
 subst this
 obtain⟨h2,h⟩:=an2 h
 obtain⟨x,h3,h⟩:=anyT h
 obtain⟨y,h4,h⟩:=anyT h
 obtain⟨h5,h⟩:=an2 h
 obtain⟨o,xs,p⟩:=z
 obtain⟨x,xs'⟩:=x
 obtain⟨y,es⟩:=y
 have e1:=con1_ok h3
 have e2:=con1_ok h4
 simp only at e1 e2
 subst e2
 subst e1
 cases es with
 | nil=>exact⟨o,x,y,[],p,rfl,h2,h5,.inl ⟨rfl,h⟩⟩
 | cons a es=>exact⟨o,x,y,a::es,p,rfl,h2,h5,.inr h⟩
theorem zo{a b c:Expr}{ma mb mc:E}{pos:Pos}{o o':Co}(hu:X.A.units + 64 < cLine)(hm:lastMarks [coOf o,coOf o'] [b,c]=false)(h1:PDe X a (aF C ma))(h2:PDe X b (aF C mb))(h3:PDe X c (aF C mc)):PDt X (.Compare a [coOf o,coOf o'] [b,c] pos) (hJ C (.cmp2 o o' ma mb mc)):=by
 obtain⟨r2,ho,hr⟩:=iB hu o
 obtain⟨r2',ho',hr'⟩:=iB hu o'
 refine (oB ho hr ho' hr' hm h1 h2 h3).imp fun ρ Q hq=>?_
 obtain⟨x,h,k0,hk0,q⟩:=mN (m:=.cmp2 o o' ma mb mc) rfl (fun ρ x h=>by
  obtain⟨xa,e1,h⟩:=bnd h
  obtain⟨xb,e2,h⟩:=bnd h
  obtain⟨dx,e3,h⟩:=bnd h
  obtain⟨dy,e4,h⟩:=bnd h
  obtain⟨k,e5,h⟩:=bnd h
  cases k with
  | false=>rw[if_neg aah]at h;cases h;exact⟨_,rfl⟩
  | true =>
   rw[if_pos rfl]at h
   obtain⟨xc,e6,h⟩:=bnd h
   obtain⟨dy',e7,h⟩:=bnd h
   obtain⟨dz,e8,h⟩:=bnd h
   obtain⟨k',e9,h⟩:=bnd h
   cases h
   exact⟨_,rfl⟩) ρ Q hq
 obtain⟨xa,e1,h⟩:=bnd h
 obtain⟨xb,e2,h⟩:=bnd h
 obtain⟨dx,e3,h⟩:=bnd h
 obtain⟨dy,e4,h⟩:=bnd h
 obtain⟨k,e5,h⟩:=bnd h
 refine⟨xa,e1,xb,e2,dx,dy,e3,e4,k,e5,k,rfl,?_⟩
 cases k with
 | false=>rw[if_neg aah]at h;cases h;rw[if_neg aah];exact⟨k0,hk0,q⟩
 | true =>
  rw[if_pos rfl]at h ⊢
  obtain⟨xc,e6,h⟩:=bnd h
  obtain⟨dy',e7,h⟩:=bnd h
  obtain⟨dz,e8,h⟩:=bnd h
  obtain⟨k',e9,h⟩:=bnd h
  cases h
  exact⟨xc,e6,dy',dz,e7,e8,k',e9,k0,hk0,q⟩
theorem lH {x:Str} {T:String} {p:Pos} (hg:Gl X x) (hm:X.mg x=none) (hv:bootBuiltins x=some (.type T)) (hn:x≠"__name__") (hd:(x == ("__debug__":Str))=false):PE X (.Name x p) (tC (.ty T)):=tJ hg hm hv rfl hn hd
theorem zp {z w:Expr} {x:Str} {q q':Pos} {k:Knd} {ma:E} (c:Cy t C X) (h1:rM t X.env.scope x "isinstance"=true) (h2:isStar z=false) (h3:Cg t k X.N X.env.scope w=true) (ha:PDe X z (aF C ma)):PDe X (.Call (.Name x q) [z,w] [] q') (aF C (.isi k ma)):=by
 obtain⟨g1,g2,g3⟩:=blB_ok c h1
 subst g1
 have nmd:∀{T:Str},((cb w).any fun u=>rM t X.env.scope u T)=true->∃p,w=.Name T p/\Gl X T/\X.mg T=none:=fun {T} h=>by
  obtain⟨u,a1,a2⟩:=anyT h
  obtain⟨p,rfl⟩:=asNm_ok a1
  obtain⟨f1,f2,f3⟩:=blB_ok c a2
  subst f1
  exact⟨p,rfl,f2,f3⟩
 cases k with
 | int=>obtain⟨p,rfl,f2,f3⟩:=nmd h3;exact gu (T:="int") rfl (lH f2 f3 qp (by decide) (by decide)) g2 g3 h2 rfl ha
 | bool=>obtain⟨p,rfl,f2,f3⟩:=nmd h3;exact gu (T:="bool") rfl (lH f2 f3 ud (by decide) (by decide)) g2 g3 h2 rfl ha
 | str=>obtain⟨p,rfl,f2,f3⟩:=nmd h3;exact gu (T:="str") rfl (lH f2 f3 qq (by decide) (by decide)) g2 g3 h2 rfl ha
 | list=>obtain⟨p,rfl,f2,f3⟩:=nmd h3;exact gu (T:="list") rfl (lH f2 f3 mj (by decide) (by decide)) g2 g3 h2 rfl ha
 | tuple=>obtain⟨p,rfl,f2,f3⟩:=nmd h3;exact gu (T:="tuple") rfl (lH f2 f3 gh (by decide) (by decide)) g2 g3 h2 rfl ha
 | seq =>
  obtain⟨zs,a1,h3⟩:=anyT h3
  obtain⟨w',a2,h3⟩:=anyT h3
  obtain⟨b1,b2⟩:=an2 h3
  obtain⟨u,c1,c2⟩:=anyT b1
  obtain⟨v,d1,d2⟩:=anyT b2
  obtain⟨k1,p1,rfl⟩:=asTup_ok a1
  have:=two2_ok a2
  subst this
  obtain⟨w1,w2⟩:=w'
  obtain⟨p2,e2⟩:=asNm_ok c1
  obtain⟨p3,e3⟩:=asNm_ok d1
  simp only at e2 e3
  subst e2 e3
  obtain⟨f1,f2,f3⟩:=blB_ok c c2
  obtain⟨l1,l2,l3⟩:=blB_ok c d2
  subst f1 l1
  exact yW (lH f2 f3 mj (by decide) (by decide)) (lH l2 l3 gh (by decide) (by decide)) g2 g3 h2 rfl rfl ha
mutual
theorem bh:∀m:E,EOk t C m
 | .nm i=>aL rfl rfl fun X e c h=>by
  obtain⟨x,p,rfl,h⟩:=lD h
  obtain⟨h1,h2,h3,h4⟩:=fv h
  exact D1 h1 h2 h3 h4
 | .int k=>aL rfl rfl fun X e c h=>by
  obtain⟨j,h1,h⟩:=anyT h
  obtain⟨_,_,rfl⟩:=asInt_ok h1
  have:=Daa h
  subst this
  exact Bu
 | .str k=>aL rfl rfl fun X e c h=>by
  obtain⟨j,h1,h⟩:=anyT h
  obtain⟨_,_,rfl⟩:=asStr_ok h1
  have:=cU h
  subst this
  exact Bv
 | .bl k=>aL rfl rfl fun X e c h=>by
  obtain⟨j,h1,h⟩:=anyT h
  obtain⟨_,_,rfl⟩:=asBl_ok h1
  have:=Daa h
  subst this
  exact D2
 | .gc g=>aL rfl rfl fun X e c h=>by
  obtain⟨x,h1,h⟩:=anyT h
  obtain⟨_,rfl⟩:=asNm_ok h1
  obtain⟨v,u,g1,g2,g3⟩:=c.hgc _ _ (Daa (an2 h).1)
  exact D3 (fA (an2 h).2).1 g1 g2 g3 (fA (an2 h).2).2
 | .bop o a b=>aL rfl rfl fun X e c h=>by
  obtain⟨x,o',y,p,rfl,h1,h2,h3⟩:=ckBin_ok h
  have:=rN h1
  subst this
  exact Bp ((bh a).v X _ c h2) ((bh b).v X _ c h3)
 | .cat a b=>aL rfl rfl fun X e c h=>by
  obtain⟨x,o',y,p,rfl,h1,h2,h3⟩:=ckBin_ok h
  have:=m3 h1
  subst this
  exact BH ((bh a).v X _ c h2) ((bh b).v X _ c h3)
 | .catU a b=>aL rfl rfl fun X e c h=>by
  obtain⟨x,o',y,p,rfl,h1,h2,h3⟩:=ckBin_ok h
  have:=m3 h1
  subst this
  exact yS ((bh a).v X _ c h2) ((bh b).v X _ c h3)
 | .cmp o a b=>gC (fun X e hb=>rZ (f:=(aT t (.cmp o a b)).2) hb fun _ _ _=>rfl) (fun X e c h=>by
  obtain⟨x,y,p,rfl,h2,h3,h4⟩:=eJ h
  exact Bq c.units (fB _ h2) ((bh a).v X _ c h3) ((bh b).v X _ c h4)) fun X e c h=>by
  obtain⟨x,y,p,rfl,h2,h3,h4⟩:=eJ h
  exact Br c.units (fB _ h2) ((bh a).v X _ c h3) ((bh b).v X _ c h4)
 | .cmp2 o o' a b d=>gC (fun X e hb=>rZ (f:=(aT t (.cmp2 o o' a b d)).2) hb fun _ _ _=>rfl) (fun X e c h=>by
  obtain⟨z,h1,h⟩:=anyT h
  obtain⟨p,rfl⟩:=mW h1
  obtain⟨a1,a2,a3,a4⟩:=an4 h
  obtain⟨b1,b2,b3⟩:=an3 a4
  rw[gy a1,gy a2]
  exact yR c.units (fB _ (cC a3)) ((bh a).v X _ c b1) ((bh b).v X _ c b2) ((bh d).v X _ c b3)) fun X e c h=>by
  obtain⟨z,h1,h⟩:=anyT h
  obtain⟨p,rfl⟩:=mW h1
  obtain⟨a1,a2,a3,a4⟩:=an4 h
  obtain⟨b1,b2,b3⟩:=an3 a4
  rw[gy a1,gy a2]
  exact zo c.units (fB _ (cC a3)) ((bh a).v X _ c b1) ((bh b).v X _ c b2) ((bh d).v X _ c b3)
 | .isb neg k a=>gC (fun X e hb=>rZ (f:=(aT t (.isb neg k a)).2) hb fun _ _ _=>rfl) (fun X e c h=>by
  obtain⟨z,h1,h⟩:=anyT h
  obtain⟨p,rfl⟩:=jt h1
  obtain⟨a1,a2,a3⟩:=an3 h
  obtain⟨l,b1,b2⟩:=anyT a3
  obtain⟨_,_,e1⟩:=asBl_ok b1
  rw[mX a1,e1,Daa b2]
  exact Bw ((bh a).v X _ c a2)) fun X e c h=>by
  obtain⟨z,h1,h⟩:=anyT h
  obtain⟨p,rfl⟩:=jt h1
  obtain⟨a1,a2,a3⟩:=an3 h
  obtain⟨l,b1,b2⟩:=anyT a3
  obtain⟨_,_,e1⟩:=asBl_ok b1
  rw[mX a1,e1,Daa b2]
  exact By ((bh a).v X _ c a2)
 | .and a b=>by
  have hw:∀X e,Cy t C X->(aT t (.and a b)).2 X.N X.env.scope e=true->PDw X e (hJ C (.and a b)):=fun X e c h=>by
   obtain⟨o,x,y,es,p,rfl,h1,h2,h3⟩:=ckBo_ok h
   have:=mY h1
   subst this
   refine BA ((bh a).t X _ c h2) ?_
   rcases h3 with ⟨rfl,h3⟩ | h3
   ·exact qI ((bh b).t X _ c h3)
   ·exact (bh b).w X _ c rfl h3
  refine⟨fun X e c h=>?_,fun X e c _ h=>hw X e c h,fun X e c h=>(hw X e c h).pt⟩
  obtain⟨o,x,y,es,p,rfl,h1,h2,h3⟩:=ckBo_ok h
  have:=mY h1
  subst this
  refine v_and ((bh a).v X _ c h2) ?_
  rcases h3 with ⟨rfl,h3⟩ | h3
  ·exact qH ((bh b).v X _ c h3)
  ·exact (bh b).v X _ c h3
 | .or a b=>by
  have hw:∀X e,Cy t C X->(aT t (.or a b)).2 X.N X.env.scope e=true->PDw X e (hJ C (.or a b)):=fun X e c h=>by
   obtain⟨o,x,y,es,p,rfl,h1,h2,h3⟩:=ckBo_ok h
   have:=rS h1
   subst this
   refine D4 ((bh a).t X _ c h2) ?_
   rcases h3 with ⟨rfl,h3⟩ | h3
   ·exact uz ((bh b).t X _ c h3)
   ·exact (bh b).w X _ c rfl h3
  refine⟨fun X e c h=>?_,fun X e c _ h=>hw X e c h,fun X e c h=>(hw X e c h).pt⟩
  obtain⟨o,x,y,es,p,rfl,h1,h2,h3⟩:=ckBo_ok h
  have:=rS h1
  subst this
  refine v_or ((bh a).v X _ c h2) ?_
  rcases h3 with ⟨rfl,h3⟩ | h3
  ·exact qH ((bh b).v X _ c h3)
  ·exact (bh b).v X _ c h3
 | .not a=>gC (fun X e hb=>rZ (f:=(aT t (.not a)).2) hb fun _ _ _=>rfl) (fun X e c h=>by
  obtain⟨o,x,p,rfl,h1,h2⟩:=ckUn_ok h
  have:=mZ h1
  subst this
  exact v_not ((bh a).v X _ c h2)) fun X e c h=>by
  obtain⟨o,x,p,rfl,h1,h2⟩:=ckUn_ok h
  have:=mZ h1
  subst this
  exact BB ((bh a).t X _ c h2)
 | .neg a=>aL rfl rfl fun X e c h=>by
  obtain⟨o,x,p,rfl,h1,h2⟩:=ckUn_ok h
  have:=jq h1
  subst this
  exact Bz ((bh a).v X _ c h2)
 | .ife z a b=>aL rfl rfl fun X e c h=>by
  obtain⟨q,h1,h⟩:=anyT h
  obtain⟨p,rfl⟩:=u7 h1
  obtain⟨a1,a2,a3⟩:=an3 h
  exact BC ((bh z).t X _ c a1) ((bh a).v X _ c a2) ((bh b).v X _ c a3)
 | .tup es=>aL rfl rfl fun X e c h=>by
  obtain⟨q,h1,h⟩:=anyT h
  obtain⟨_,_,rfl⟩:=asTup_ok h1
  exact BE (zq es X _ c h)
 | .lst es=>aL rfl rfl fun X e c h=>by
  obtain⟨q,h1,h⟩:=anyT h
  obtain⟨_,rfl⟩:=rK h1
  exact BF (zq es X _ c h)
 | .ix a b=>aL rfl rfl fun X e c h=>by
  obtain⟨q,h1,h⟩:=anyT h
  obtain⟨_,rfl⟩:=cB h1
  obtain⟨a1,a2,a3⟩:=an3 h
  exact D5 (cC a1) ((bh a).v X _ c a2) ((bh b).v X _ c a3)
 | .sll a lo hi=>aL rfl rfl fun X e c h=>by
  obtain⟨q,h1,h⟩:=anyT h
  obtain⟨_,_,rfl⟩:=rT h1
  obtain⟨a1,a2,a3⟩:=an3 h
  exact BG ((bh a).v X _ c a1) (EN lo X _ c a2) (EN hi X _ c a3)
 | .call f es=>aL rfl rfl fun X e c h=>by
  obtain⟨x,z,zs,q,q',rfl,h1,h2,h3,h4,h5⟩:=iD (p:=fun x=>decide (t.fn f=some x)) (f:=jv t es) (N:=X.N) (sc:=X.env.scope) (e:=e) h
  obtain⟨k,fa,fd,ps,g1,g2,g3,g4,g5⟩:=c.hfn _ _ (Daa h1)
  exact yT g1 g2 (fA h2).1 g3 g4 g5 (fA h2).2 h3 h4 (zq es X _ c h5)
 | .blt f es=>aL rfl rfl fun X e c h=>by
  obtain⟨x,z,zs,q,q',rfl,h1,h2,h3,h4,h5⟩:=iD (p:=fun x=>sEq x (yV f) && t.nog x) (f:=jv t es) (N:=X.N) (sc:=X.env.scope) (e:=e) h
  have:=cU (an2 h1).1
  subst this
  exact BJ c.calm (fA h2).1 (c.hng _ (an2 h1).2) h3 h4 (zq es X _ c h5)
 | .bnw f a=>aL rfl rfl fun X e c h=>by
  obtain⟨x,z,q,q',rfl,h1,h2,h3⟩:=bT h
  obtain⟨g1,g2,g3⟩:=blB_ok c h1
  subst g1
  cases f with
  | tuple=>exact uU g2 g3 h2 ((bh a).v X _ c h3)
  | sorted=>exact rA g2 g3 h2 ((bh a).v X _ c h3)
 | .isi k a=>aL rfl rfl fun X e c h=>by
  obtain⟨x,z,w,q,q',rfl,h1,h2,h3,h4,h5⟩:=fD h
  exact zp c h1 h2 h5 ((bh a).v X _ c h4)
 | .lset a=>aL rfl rfl fun X e c h=>by
  obtain⟨x,z,q,q',rfl,h1,h2,h3⟩:=bT h
  obtain⟨y,w,r,r',rfl,h4,h5,h6⟩:=bT h3
  obtain⟨g1,g2,g3⟩:=blB_ok c h1
  obtain⟨k1,k2,k3⟩:=blB_ok c h4
  subst g1 k1
  exact yX c.calm g2 g3 k2 k3 h5 ((bh a).v X _ c h6)
 | .sht a=>aL rfl rfl fun X e c h=>by
  obtain⟨x,z,q,q',rfl,h1,h2,h3⟩:=bT h
  obtain⟨g1,g2,g3⟩:=blB_ok c h1
  subst g1
  exact BU c.units c.guards g2 g3 h2 ((bh a).v X _ c h3)
 | .rvs a=>aL rfl rfl fun X e c h=>by
  obtain⟨z,h1,h⟩:=anyT h
  obtain⟨j,p1,p2,p3,p4,rfl⟩:=rV h1
  exact BV ((bh a).v X _ c h)
 | .frz a=>aL rfl rfl fun X e c h=>BI ((bh a).v X _ c h)
 | .pg i ps=>aL rfl rfl fun X e c h=>Ed (eG c ps _ h)
 | .din neg a i ps=>gC (fun X e hb=>rZ (f:=(aT t (.din neg a i ps)).2) hb fun _ _ _=>rfl) (fun X e c h=>by
  obtain⟨x,y,p,rfl,h2,h3,h4⟩:=eJ (o:=if neg then .nin else .inn) (f:=(aT t a).1) (g:=fun N sc e=>km t N sc i ps e) (N:=X.N) (sc:=X.env.scope) (e:=e) h
  exact (rF (by have:=c.units;omega) (fB _ h2) ((bh a).v X _ c h3) (eG c ps _ h4)).1) fun X e c h=>by
  obtain⟨x,y,p,rfl,h2,h3,h4⟩:=eJ (o:=if neg then .nin else .inn) (f:=(aT t a).1) (g:=fun N sc e=>km t N sc i ps e) (N:=X.N) (sc:=X.env.scope) (e:=e) h
  exact (rF (by have:=c.units;omega) (fB _ h2) ((bh a).v X _ c h3) (eG c ps _ h4)).2
 | .comp nt fr it tg ifs elt=>aL rfl rfl fun X e c h=>by
  obtain⟨z,h1,h⟩:=anyT h
  have:=kr h1
  subst this
  obtain⟨a1,a2,a3,a4,a5⟩:=an5 h
  obtain⟨b1,b2,b3⟩:=an3 a5
  exact y3 c.calm (gA a1) (jo (cC a3)) (CU it X _ _ c a4) (fun q=>eI (X:=cO X _ z.2.2.2.2.1 q) (fn:=false) c.calm (Daa a2) (fun z=>by cases z) (fun _ _ z=>z) b1) fun q=>EO ifs (cO X _ z.2.2.2.2.1 q) _ _ c.comp (bh elt) b2 b3
theorem zq:∀(m:Es) X xs,Cy t C X->jv t m X.N X.env.scope xs=true->PDa X xs (ib C m)
 | .nil,X,xs,c,h=>by
  cases xs with
  | nil=>exact fh
  | cons _ _=>cases h
 | .cons a es,X,xs,c,h=>by
  obtain⟨z,h1,h⟩:=anyT h
  have:=con1_ok h1
  subst this
  obtain⟨a1,a2,a3⟩:=an3 h
  exact cg (cC a1) ((bh a).v X _ c a2) (zq es X _ c a3)
theorem EN:∀(m:Eo) X o,Cy t C X->zl t m X.N X.env.scope o=true->PDo X o (rp C m)
 | .none,X,o,c,h=>by
  cases o with
  | none=>exact uR
  | some _=>cases h
 | .some a,X,o,c,h=>by
  obtain⟨z,h1,h⟩:=anyT h
  subst h1
  exact uS ((bh a).v X _ c h)
theorem EO:∀(m:Eo) {elt:E} X fs x,Cy t C X->EOk t C elt->Ci t m X.N X.env.scope fs=true->(aT t elt).1 X.N X.env.scope x=true->PDc X fs x (yZ C m elt)
 | .none,elt,X,fs,x,c,he,h,h'=>by
  cases fs with
  | nil=>exact uV (he.v X _ c h')
  | cons _ _=>cases h
 | .some a,elt,X,fs,x,c,he,h,h'=>by
  obtain⟨z,h1,h⟩:=anyT h
  have:=one1_ok h1
  subst this
  exact y2 ((bh a).t X _ c h) (he.v X _ c h')
theorem CU:∀(m:It') X g e,Cy t C X->vk t m X.N X.env.scope g e=true->PDi X g e (fR C m)
 | .seq a,X,g,e,c,h=>BP ((bh a).v X _ c h)
 | .rg1 a,X,g,e,c,h=>by
  obtain⟨x,z,q,q',rfl,h1,h2,h3⟩:=bT h
  obtain⟨g1,g2,g3⟩:=blB_ok c h1
  subst g1
  exact BQ g2 g3 h2 ((bh a).v X _ c h3)
 | .rg2 a b,X,g,e,c,h=>by
  obtain⟨x,z,w,q,q',rfl,h1,h2,h3,h4,h5⟩:=fD h
  obtain⟨g1,g2,g3⟩:=blB_ok c h1
  subst g1
  exact BR g2 g3 h2 h3 ((bh a).v X _ c h4) ((bh b).v X _ c h5)
 | .enm a,X,g,e,c,h=>by
  obtain⟨h0,h⟩:=an2 h
  obtain⟨xs,k,p,rfl⟩:=eF h0
  obtain⟨x,z,q,q',rfl,h1,h2,h3⟩:=bT h
  obtain⟨g1,g2,g3⟩:=blB_ok c h1
  subst g1
  exact BS g2 g3 h2 ((bh a).v X _ c h3)
 | .zip a b,X,g,e,c,h=>by
  obtain⟨h0,h⟩:=an2 h
  obtain⟨xs,k,p,rfl⟩:=eF h0
  obtain⟨x,z,w,q,q',rfl,h1,h2,h3,h4,h5⟩:=fD h
  obtain⟨g1,g2,g3⟩:=blB_ok c h1
  subst g1
  exact BW g2 g3 h2 h3 ((bh a).v X _ c h4) ((bh b).v X _ c h5)
end
end
end
section
def bkS(sc:Scope):ScopeKind:=if sc.kind.isAnnotationScope then .function else sc.kind
def oU(ts:List Expr)(sc:Scope):List Str:=ts.filterMap fun
  | .Name id pos=>if sc.names.lookup id == some .local && pos.line == (ts.head?.map (·.pos.line)).getD 0 then some id else none
  | _=>none
def CV(ts vs:List Expr)(sc:Scope):Option (Option (List Str)) :=
 if !(ts.length == 2 || ts.length == 3) || vs.length != ts.length || bkS sc != .function then some none
 else if (vs.any fun | .Starred ..=>true | _=>false) then some none
 else if (oU ts sc).length != ts.length || (oU ts sc).eraseDups.length != (oU ts sc).length then some none
 else if vs.all (foldedForSure 8) then some none
 else if vs.all (constantsAlone 8) then none
 else some (some (oU ts sc))
theorem lI(h:CV ts vs env.scope=some r):swappedStores [.Tuple ts k p] (.Tuple vs k2 p2) env=pure r:=by
 unfold CV at h
 unfold swappedStores
 split at h
 ·rename_i hc
  cases h
  show (if (!(ts.length == 2 || ts.length == 3) || vs.length != ts.length || env.blockKind != .function)=true then _ else _)=_
  rw[if_pos (show (!(ts.length == 2 || ts.length == 3) || vs.length != ts.length || env.blockKind != .function)=true from hc)]
 ·rename_i hc
  show (if (!(ts.length == 2 || ts.length == 3) || vs.length != ts.length || env.blockKind != .function)=true then _ else _)=_
  rw[if_neg (show ¬ (!(ts.length == 2 || ts.length == 3) || vs.length != ts.length || env.blockKind != .function)=true from hc)]
  split at h
  ·rename_i hc2
   cases h
   show (if (vs.any fun | .Starred ..=>true | _=>false)=true then _ else _)=_
   rw[if_pos hc2]
  ·rename_i hc2
   show (if (vs.any fun | .Starred ..=>true | _=>false)=true then _ else _)=_
   rw[if_neg hc2]
   split at h
   ·rename_i hc3
    cases h
    show (if ((oU ts env.scope).length != ts.length || (oU ts env.scope).eraseDups.length != (oU ts env.scope).length)=true then _ else _)=_
    rw[if_pos hc3]
   ·rename_i hc3
    show (if ((oU ts env.scope).length != ts.length || (oU ts env.scope).eraseDups.length != (oU ts env.scope).length)=true then _ else _)=_
    rw[if_neg hc3]
    split at h
    ·rename_i hc4
     cases h
     show (if vs.all (foldedForSure 8)=true then _ else _)=_
     rw[if_pos hc4]
    ·rename_i hc4
     show (if vs.all (foldedForSure 8)=true then _ else _)=_
     rw[if_neg hc4]
     split at h
     ·cases h
     ·rename_i hc5
      cases h
      show (if vs.all (constantsAlone 8)=true then _ else _)=_
      rw[if_neg hc5]
      rfl
def wJ(tg e:Expr)(sc:Scope):Bool:=(cj tg).any fun ts=>(cj e).all fun vs=>decide (CV ts vs sc=some none)
theorem r6(h:wJ tg e env.scope=true):swappedStores [tg] e env=pure none:=by
 obtain⟨ts,h1,h2⟩:=anyT h
 clear h
 obtain⟨k,p,rfl⟩:=asTup_ok h1
 cases he:cj e with
 | some vs =>
  obtain⟨k2,p2,rfl⟩:=asTup_ok he
  rw[he]at h2
  exact lI (Daa h2)
 | none=>cases e<;>first | rfl | cases he
def swC(sc:Scope)(t:Str)(pos p:Pos)(s:Scope):Bool:=bkS sc == .function && sc.names.lookup t == some .local && pos.line == p.line && !(s.names.any fun (n,k)=>n == t && (k == .local || k == .cell))
theorem sd:swapsWith (.ListComp elt gs s p) (some (.Name t pos)) l env=pure (swC env.scope t pos p s):=rfl
inductive PDx (X:Cx)(i:Nat)(st:Stmt)(de:DE):Prop | mk (te:TE) (h:PS X st (pO te (jL i))) (s:bZ X.K te de)
section
variable{X:Cx}{W:Nat->Prop}{m:Nat}{C:Ct}{e:Expr}{ma:E}{pos p p1 p2 p3 pos' spos py:Pos}{x y:Str}{i:Nat}{st:Stmt}
theorem PDx.imp:PDx X i st d->(∀ρ Q,d' ρ Q->d ρ Q)->PDx X i st d'
 | ⟨te,h,s⟩,f=>⟨te,h,fun b F σ H ρ τ θ Qd Q hK R hd q=>s b F σ H ρ τ θ Qd Q hK R (f _ _ hd) q⟩
theorem Cj:PDx X i st (aF C ma)->PDx X i st (aF C (.frz ma))
 | ⟨te,h,s⟩=>⟨te,h,fun b F σ H ρ τ θ Qd Q hK R ⟨y,h,q⟩ k=>by
  obtain⟨z,e1,h⟩:=bnd h
  obtain⟨w,e2,h⟩:=bnd h
  cases h
  refine s b F σ H ρ τ θ (fun r ρ'=>r=z.1/\ρ'=z.2) _ hK R ⟨z,e1,rfl,rfl⟩ fun v H' r ρ' R' hZ=>?_
  obtain⟨h1,h2⟩:=hZ
  subst h1 h2
  exact k v H' _ _ (R'.frz1 e2) q⟩
theorem zt{mt:Tg}(hN:X.N.Nodup)(hy:X.N[i]?=some y)(hl:X.env.scope.names.lookup y=some .local)(hc:X.calm=true)(S:CompScope N nt fr X.N scope X.env.scope)(hs:∀x,foldedSetIterable iter X.env x=pure x)(hi:PDi X tg iter (fR C mi))(hg:∀c:CC,PDg (cO X N scope c) Ff nt tg (en mt))(ha:∀c:CC,PDc (cO X N scope c) ifs elt (yZ C mif me))
  (hsw:swapsWith (.ListComp elt [⟨tg,iter,ifs,0⟩] scope pos) (some (.Name y py)) spos.line X.env=pure true):PDx X i (.Assign [.Name y py] (.ListComp elt [⟨tg,iter,ifs,0⟩] scope pos) spos) (aF C (.comp nt fr mi mt mif me)):=by
 have h0:PDx X i (.Assign [.Name y py] (.ListComp elt [⟨tg,iter,ifs,0⟩] scope pos) spos) (mG (fR C mi) nt fr (en mt) (yZ C mif me)):=by
  obtain⟨wi,h1,s1⟩:=hi
  obtain⟨g,hg'⟩:=PDg.ex (Y:=fun c=>cO X N scope c) (fun _=>rfl) hg
  obtain⟨tc,hc'⟩:=PDc.ex (Y:=fun c=>cO X N scope c) (fun _=>rfl) ha
  exact⟨_,tZ hN hy hl hc S h1 (fun c=>(hg' c).1) (fun c D=>(hc' c).1 D) hs hsw,j7 s1 (fun c=>(hg' c).2) fun c=>(hc' c).2⟩
 exact h0.imp (mL C)
theorem se(hw:¬ W i):PDx X i st (aF C ma)->PDs X W st (jm C (.set i ma))
 | ⟨_,h,s⟩=>⟨_,h,fun b F σ H ρ τ θ Dd D hK n R ⟨y,h,q⟩ E=>by
  obtain⟨z,e1,h⟩:=bnd h
  obtain⟨o,e2,h⟩:=bnd h
  obtain⟨_,hi,h⟩:=bnd h
  cases h
  refine s b F σ H ρ τ θ (fun r ρ'=>r=z.1/\ρ'=z.2) _ hK R ⟨z,e1,rfl,rfl⟩ fun v H' r ρ' R' hZ=>?_
  obtain⟨h1,h2⟩:=hZ
  subst h1 h2
  exact E.nx _ H' _ ((R'.own1 e2).store n (gd_ok hi) hw) q⟩
end
theorem PDe.ex{K:Waa}{Y:CC->Cx}{e:Expr}{d:DE}(hK:∀c,(Y c).K=K)(h:∀c,PDe (Y c) e d):∃g:CC->TE,∀c,PE (Y c) e (g c)/\bZ K (g c) d :=
 ab7 (r:=fun c g=>PE (Y c) e g/\bZ K g d) fun c=>(by obtain⟨te,h1,s1⟩:=h c;exact⟨te,h1,hK c ▸ s1⟩)
theorem Dt.sc{K:Waa}{H:Hp}{v:V}{d:PyData}(h:Dt K H v d)(e:CQ d=true):Sc v d:=by
 cases h<;>first | constructor | cases e
theorem Rel.growD{b:Bs}{F:List Fr}{σ:St}{H:Hp}{ρ:DEnv}{vs:List V}{rs:List OR}{v:V}{d:PyData}{D:Addr}{kk:Key}{ks:List Key}{xs:List OD}(R:Rel b F σ H ρ (v::(vs++[.ref D])) (.val (.fz d)::(rs++[.val (.dic ks xs)])))(el:vs.length=rs.length) :
  ∃ws,H D=some (.dK ws)/\ws.length=xs.length/\Rel b F σ (upd H D (.dK (putK ws kk v))) ρ (vs++[.ref D]) (rs++[.val (.dic (bN kk d ks xs).1 (bN kk d ks xs).2)]):=by
 have R1:=R.drop
 have e1:∀y:OD,stk (vs++[.ref D]) (rs++[.val y])=stk vs rs++[(.ref D,y)]:=fun y=>by rw[aG el];rfl
 have w:Wd b H ((v,.fz d)::((stk vs rs++[(.ref D,.dic ks xs)])++(flat σ ρ++ff F))):=by
  have:=R.wd
  simp only[stk]at this
  rw[e1]at this
  exact this
 have w2:Wd b H ([v].zip [OD.fz d]++((.ref D,.dic ks xs)::(stk vs rs++(flat σ ρ++ff F)))):=w.perm (by
  refine List.Perm.cons _ ?_
  rw[aaf]
  exact aas)
 obtain⟨a,ws,ch,hD,hks,hl,go⟩:=w2.mutD (ks:=[]) rfl rfl
 cases ch
 subst hks
 refine⟨ws,hD,hl,R1.wf,?_,R1.wff,?_⟩
 ·obtain⟨a1,_⟩:=(aZ el).mp R1.al
  exact (aZ el).mpr ⟨a1,trivial⟩
 ·rw[e1]
  refine (go (putK ws kk v) _ _ (uX (d:=d) hl) fun S H A C nt h1 h2 nd=>rG h1 h2 nd).perm ?_
  rw[aaf]
  exact aas.symm
section
variable{X:Cx}{W:Nat->Prop}{C:Ct}{y:Str}{i nt:Nat}{fr:List Nat}{N:List Str}{scope:Scope}{kx vx iter tg:Expr}{pos py spos:Pos}{mi:It'}{mt:Tg}{mk' mv':E}
theorem sf(step:List Key × List OD->PyData->DEnv->Option ((List Key × List OD) × DEnv))(ds:List PyData)(w:(List Key × List OD) × DEnv)(k:Nat){d:PyData}{out:List Key × List OD}{ρ:DEnv}(hd:ds[k]?=some d)(h:fJ step (ds.drop k) out ρ=some w):∃z,step out d ρ=some z/\fJ step (ds.drop (k + 1)) z.1 z.2=some w:=by
 have hk:=(aau.mp hd).1
 have e:ds.drop k=d::ds.drop (k + 1):=by
  rw[aca hk,(aau.mp hd).2]
 rw[e]at h
 exact bnd h
theorem vn{K:Waa}{tk tv:TE}(s1:bZ K tk (aF C mk'))(s2:bZ K tv (aF C mv')):Bf (fun z:List Key × List OD=>.dic z.1 z.2) (fun z=>z.2.length) K (yg tk tv) (fun o ρ Q=>∃w,dAct C mk' mv' o ρ=some w/\Q w.1 w.2):=by
 intro b F σ H ρ vs rs D out Qd Q hK el hz R h q
 obtain⟨w,h,qd⟩:=h
 obtain⟨x,e1,h⟩:=bnd h
 obtain⟨y,e2,h⟩:=bnd h
 obtain⟨kd,e3,h⟩:=bnd h
 obtain⟨kk,e4,h⟩:=bnd h
 obtain⟨dv,e5,h⟩:=bnd h
 obtain⟨_,hsc,h⟩:=bnd h
 cases h
 refine s1 b F σ H ρ _ _ (fun r ρ'=>r=x.1/\ρ'=x.2) _ hK R ⟨x,e1,rfl,rfl⟩ fun v1 H1 r ρ1 R1 hZ=>?_
 obtain⟨rfl,rfl⟩:=hZ
 refine s2 b F σ H1 _ _ _ (fun r ρ'=>r=y.1/\ρ'=y.2) _ hK R1 ⟨y,e2,rfl,rfl⟩ fun v2 H2 r ρ2 R2 hZ=>?_
 obtain⟨rfl,rfl⟩:=hZ
 have hk:=R2.dt2 e3
 have hk':v1=kV kk:=by cases kd<;>cases e4<;>cases hk<;>rfl
 subst hk'
 obtain⟨ws,hD,hl,R3⟩:=Rel.growD (kk:=kk) (R2.drop.drop.sc ((R2.dt e5).sc (gd_ok hsc))) el
 have hz':out.2.length < 1000000:=hz
 exact⟨_,⟨ws,kk,hD,rfl,aax (by omega) (by decide:1000001<=sizeLine),rfl⟩,q _ _ _ R3 (by
  show (bN kk dv out.1 out.2).2.length<=out.2.length + 1
  unfold bN
  split
  ·rw[abt];omega
  ·rw[aaA];exact aac _) qd⟩
theorem Cm(hw:¬ W i)(hN:X.N.Nodup)(hy:X.N[i]?=some y)(hl:X.env.scope.names.lookup y=some .local)(hc:X.calm=true)(S:CompScope N nt fr X.N scope X.env.scope)(hs:∀x,foldedSetIterable iter X.env x=pure x)
  (hsw:swapsWith (.DictComp kx vx [⟨tg,iter,[],0⟩] scope pos) (some (.Name y py)) spos.line X.env=pure true) (hu:∀c:CC,(cO X N scope c).A.units + 1 < cLine) (hi:PDi X tg iter (fR C mi)) (hg:∀c:CC,PDg (cO X N scope c) Ff nt tg (en mt)) (hk:∀c:CC,PDe (cO X N scope c) kx (aF C mk')) (hv:∀c:CC,PDe (cO X N scope c) vx (aF C mv')):PDs X W (.Assign [.Name y py] (.DictComp kx vx [⟨tg,iter,[],0⟩] scope pos) spos) (jm C (.sdc i nt fr mi mt mk' mv')):=by
 obtain⟨wi,h1,s1⟩:=hi
 obtain⟨g,hg'⟩:=PDg.ex (K:=X.K) (Y:=fun c=>cO X N scope c) (fun _=>rfl) hg
 obtain⟨tk,hk'⟩:=PDe.ex (K:=X.K) (Y:=fun c=>cO X N scope c) (fun _=>rfl) hk
 obtain⟨tv,hv'⟩:=PDe.ex (K:=X.K) (Y:=fun c=>cO X N scope c) (fun _=>rfl) hv
 refine⟨_,qx hN hy hl hc S h1 (fun c=>(hg' c).1) (fun c D=>k5 (hu c) (hk' c).1 (hv' c).1) hs hsw,fun b F σ H ρ τ θ Dd D hK n R ⟨z,h,q⟩ E=>?_⟩
 obtain⟨w,e1,h⟩:=bnd h
 obtain⟨_,hz,h⟩:=bnd h
 obtain⟨ca,e2,h⟩:=bnd h
 obtain⟨o,e3,h⟩:=bnd h
 obtain⟨_,hi,h⟩:=bnd h
 cases h
 refine s1 b F σ H ρ τ θ (fun ds ρ'=>ds=w.1/\ρ'=w.2) _ hK R ⟨w,e1,rfl,rfl⟩ fun J H1 ds ρ1 vs rs el nr R1 it hZ=>?_
 obtain⟨rfl,rfl⟩:=hZ
 refine j6 (Q:=fun x H1=>D.nx (σ.set i (some x)) H1) (acc:=fun z:List Key × List OD=>.dic z.1 z.2) (ln:=fun z=>z.2.length) (a0:=([],[])) (o0:=.dK []) (dg:=en mt) (Iv:=fun k out ρ=>fJ (j8 C mt mk' mv') (w.1.drop k) out ρ=some o) (fun w h=>w.newDic h) rfl (fun c=>(hg' c).2) (fun c=>vn (hk' c).2 (hv' c).2) hK el nr R1 it (gd_ok hz) e2 e3 (fun k d out ρ hd iv=>by
  obtain⟨u,hu,iv'⟩:=sf _ _ _ k hd iv
  obtain⟨ρ1,e4,hu⟩:=bnd hu
  exact⟨ρ1,e4,u,hu,iv'⟩) fun H' D' out ρ' R' iv=>by
  have iv:fJ (j8 C mt mk' mv') (w.1.drop w.1.length) out ρ'=some o:=iv
  rw[acb]at iv
  cases iv
  exact E.nx _ _ _ (Rel.store (Rel.drops (vs:=vs) (rs:=rs) (τ:=.ref D'::τ) (θ:=.val (.dic out.1 out.2)::θ) (Rel.tor R' el) el) n (gd_ok hi) hw) q
end
end
section
section
variable(t:Tb)
end
section
variable{t:Tb}{C:Ct}
end
def oV(e:PySem.Stmt):Option (Expr):=if h:e.ctorIdx=24 then some (@PySem.Stmt.Expr.elim (fun _=>Expr) e h fun x _=>x) else none
theorem jw{e:PySem.Stmt}{z:Expr}(h:oV e=some z):∃p,e=.Expr z p:=by
 by_cases hc:e.ctorIdx=24
 ·revert h
  exact @PySem.Stmt.Expr.elim (fun e=>oV e=some z->∃p,e=.Expr z p) e hc fun x p h=>by cases h;exact⟨p,rfl⟩
 ·rw[oV,dif_neg hc]at h;cases h
def vo(e:PySem.Stmt):Option (List Expr × Expr):=if h:e.ctorIdx=5 then some (@PySem.Stmt.Assign.elim (fun _=>List Expr × Expr) e h fun ts x _=>(ts,x)) else none
theorem asAs_ok{e:PySem.Stmt}{z:List Expr × Expr}(h:vo e=some z):∃p,e=.Assign z.1 z.2 p:=by
 by_cases hc:e.ctorIdx=5
 ·revert h
  exact @PySem.Stmt.Assign.elim (fun e=>vo e=some z->∃p,e=.Assign z.1 z.2 p) e hc fun ts x p h=>by cases h;exact⟨p,rfl⟩
 ·rw[vo,dif_neg hc]at h;cases h
def vp(e:PySem.Stmt):Option (Expr × Operator × Expr):=if h:e.ctorIdx=7 then some (@PySem.Stmt.AugAssign.elim (fun _=>Expr × Operator × Expr) e h fun t o x _=>(t,o,x)) else none
theorem vq{e:PySem.Stmt}{z:Expr × Operator × Expr}(h:vp e=some z):∃p,e=.AugAssign z.1 z.2.1 z.2.2 p:=by
 by_cases hc:e.ctorIdx=7
 ·revert h
  exact @PySem.Stmt.AugAssign.elim (fun e=>vp e=some z->∃p,e=.AugAssign z.1 z.2.1 z.2.2 p) e hc fun t o x p h=>by cases h;exact⟨p,rfl⟩
 ·rw[vp,dif_neg hc]at h;cases h
def vw(e:PySem.Stmt):Option (Option Expr):=if h:e.ctorIdx=3 then some (@PySem.Stmt.Return.elim (fun _=>Option Expr) e h fun o _=>o) else none
theorem vy{e:PySem.Stmt}{z:Option Expr}(h:vw e=some z):∃p,e=.Return z p:=by
 by_cases hc:e.ctorIdx=3
 ·revert h
  exact @PySem.Stmt.Return.elim (fun e=>vw e=some z->∃p,e=.Return z p) e hc fun o p h=>by cases h;exact⟨p,rfl⟩
 ·rw[vw,dif_neg hc]at h;cases h
def vz(e:PySem.Stmt):Option (Expr × List Stmt × List Stmt):=if h:e.ctorIdx=12 then some (@PySem.Stmt.If.elim (fun _=>Expr × List Stmt × List Stmt) e h fun c a b _=>(c,a,b)) else none
theorem vA{e:PySem.Stmt}{z:Expr × List Stmt × List Stmt}(h:vz e=some z):∃p,e=.If z.1 z.2.1 z.2.2 p:=by
 by_cases hc:e.ctorIdx=12
 ·revert h
  exact @PySem.Stmt.If.elim (fun e=>vz e=some z->∃p,e=.If z.1 z.2.1 z.2.2 p) e hc fun c a b p h=>by cases h;exact⟨p,rfl⟩
 ·rw[vz,dif_neg hc]at h;cases h
def vB(e:PySem.Stmt):Option (Expr × Expr × List Stmt × List Stmt):=if h:e.ctorIdx=9 then some (@PySem.Stmt.For.elim (fun _=>Expr × Expr × List Stmt × List Stmt) e h fun g i a b _=>(g,i,a,b)) else none
theorem vC{e:PySem.Stmt}{z:Expr × Expr × List Stmt × List Stmt}(h:vB e=some z):∃p,e=.For z.1 z.2.1 z.2.2.1 z.2.2.2 p:=by
 by_cases hc:e.ctorIdx=9
 ·revert h
  exact @PySem.Stmt.For.elim (fun e=>vB e=some z->∃p,e=.For z.1 z.2.1 z.2.2.1 z.2.2.2 p) e hc fun g i a b p h=>by cases h;exact⟨p,rfl⟩
 ·rw[vB,dif_neg hc]at h;cases h
def Cn(s:Stmt):Bool:=decide (s.ctorIdx=27)
theorem vD{s:Stmt}(h:Cn s=true):∃p,s=.Continue p:=@Stmt.Continue.elim (fun s=>∃p,s=.Continue p) s (Daa h) fun p=>⟨p,rfl⟩
def oW(s:Stmt):Option (Expr × Expr):=(vo s).bind fun z=>(dJ z.1).bind fun t=>some (t,z.2)
theorem eK{s:Stmt}{z}(h:oW s=some z):∃p,s=.Assign [z.1] z.2 p:=by
 obtain⟨c,h1,h⟩:=bnd h
 obtain⟨t,h2,h⟩:=bnd h
 cases h
 obtain⟨ts,e⟩:=c
 obtain⟨p,rfl⟩:=asAs_ok h1
 have:=one1_ok h2
 simp only at this
 subst this
 exact⟨p,rfl⟩
def Cp(m0:Str)(s:Stmt):Option (Str × List Expr × Pos × Pos):=(oV s).bind fun e=>(Ce e).bind fun z=>if sEq z.2.1 m0 then some (z.1,z.2.2) else none
theorem vE{m0:Str}{s:Stmt}{z}(h:Cp m0 s=some z):∃p p',s=.Expr (.Call (.Attribute (.Name z.1 p) m0 z.2.2.1) z.2.1 [] z.2.2.2) p':=by
 obtain⟨e,h1,h⟩:=bnd h
 obtain⟨c,h2,h⟩:=bnd h
 cases hc:sEq c.2.1 m0 with
 | false=>rw[hc]at h;cases h
 | true =>
  rw[hc]at h
  cases h
  obtain⟨p,rfl⟩:=vf h2
  obtain⟨p',rfl⟩:=jw h1
  rw[cU hc]
  exact⟨p,p',rfl⟩
def wK(s:Stmt):Option (Expr × Expr × Pos × Pos):=(oV s).bind fun e=>(ft e).bind fun z=>(kj z.1).bind fun a=>(dJ z.2.1).bind fun x=>if z.2.2.1.isEmpty && sEq a.2.1 "append" then some (a.1,x,a.2.2,z.2.2.2) else none
theorem si{s:Stmt}{z}(h:wK s=some z):∃p,s=.Expr (.Call (.Attribute z.1 "append" z.2.2.1) [z.2.1] [] z.2.2.2) p:=by
 obtain⟨e,h1,h⟩:=bnd h
 obtain⟨c,h2,h⟩:=bnd h
 obtain⟨a,h3,h⟩:=bnd h
 obtain⟨x,h4,h⟩:=bnd h
 obtain⟨f,xs,ks,q⟩:=c
 obtain⟨o,m,ap⟩:=a
 cases hc:(ks.isEmpty && sEq m "append") with
 | false=>simp only[hc]at h;cases h
 | true =>
  simp only[hc]at h
  cases h
  have e3:=asAtt_ok h3
  have e4:=one1_ok h4
  have e5:=cU (an2 hc).2
  cases ks with
  | cons _ _=>cases hc
  | nil =>
   simp only at e3 e4
   subst e5
   subst e4
   subst e3
   obtain⟨p,rfl⟩:=jw h1
   exact⟨p,by rw[fu h2]⟩
def cmpE:E->Bool
 | .comp _ _ _ _ _ _=>true | .frz a=>(match a with | .comp _ _ _ _ _ _=>true | _=>false) | _=>false
def setB(t:Tb)(ok:Nat->Bool)(N:List Str)(sc:Scope)(i:Nat)(m:E)(x:Str)(p:Pos)(e:Expr):Bool:=ko ok N sc true N.length i x && (aT t m).1 N sc e && match lC e with
 | some z=>!swC sc x p z.2.2.2 z.2.2.1 || cmpE m
 | none=>!gw e
def sj(e:PySem.Expr):Option (Str × Pos):=if h:e.ctorIdx=23 then some (@PySem.Expr.Name.elim (fun _=>Str × Pos) e h fun x p=>(x,p)) else none
theorem m6{e:PySem.Expr}{z:Str × Pos}(h:sj e=some z):e=.Name z.1 z.2:=by
 by_cases hc:e.ctorIdx=23
 ·revert h
  exact @PySem.Expr.Name.elim (fun e=>sj e=some z->e=.Name z.1 z.2) e hc fun x p h=>by cases h;exact rfl
 ·rw[sj,dif_neg hc]at h;cases h
section
variable(t:Tb)
mutual
def Cq(ok:Nat->Bool):S'->List Str->Scope->Stmt->Bool
 | .ex m=>fun N sc s=>(oV s).any fun e=>!gw e && (aT t m).1 N sc e
 | .set i m=>fun N sc s=>(oW s).any fun z=>(sj z.1).any fun x=>setB t ok N sc i m x.1 x.2 z.2
 | .asg g m=>fun N sc s=>(oW s).any fun z=>isTup z.1 && wJ z.1 z.2 sc && (aT t m).1 N sc z.2 && rQ ok N sc true N.length g z.1
 | .par is ms=>fun N sc s=>(oW s).any fun z=>(cj z.1).any fun ts=>(cj z.2).any fun vs=>jv t ms N sc vs && decide (CV ts vs sc=some (some (oU ts sc))) && (match is with
  | [i,j]=>(eh ts).any fun w=>(eh vs).any fun _=>(cb w.1).any fun x=>(cb w.2).any fun y=>decide (oU ts sc=[x,y]) && decide (i≠j) && (decide (N[i]?=some x) && decide (N[j]?=some y)) && (kindB sc x .local && kindB sc y .local) && (ok i && ok j)
  | [i,j,k]=>(yN ts).any fun w=>(yN vs).any fun _=>(cb w.1).any fun x=>(cb w.2.1).any fun y=>(cb w.2.2).any fun z=>decide (oU ts sc=[x,y,z]) && (decide (i≠j) && decide (i≠k) && decide (j≠k)) && (decide (N[i]?=some x) && decide (N[j]?=some y) && decide (N[k]?=some z)) && (kindB sc x .local && kindB sc y .local && kindB sc z .local) && (ok i && ok j && ok k)
  | _=>false)
 | .aug i o m=>fun N sc s=>(vp s).any fun z=>(cb z.1).any fun x=>Ej o z.2.1 && ko ok N sc true N.length i x && (aT t m).1 N sc z.2.2
 | .ret m=>fun N sc s=>(vw s).any fun o=>o.any fun e=>(aT t m).1 N sc e
 | .iff c a b=>fun N sc s=>(vz s).any fun z=>(aT t c).2 N sc z.1 && iE ok a N sc z.2.1 && iE ok b N sc z.2.2
 | .fr g it b=>fun N sc s=>(vB s).any fun z=>!isSet z.2.1 && vk t it N sc z.1 z.2.1 && rQ ok N sc true N.length g z.1 && iE ok b N sc z.2.2.1 && z.2.2.2.isEmpty
 | .cont=>fun N sc s=>Cn s
 | .app i m=>fun N sc s=>(wK s).any fun z=>(cb z.1).any fun x=>zf N sc i x && (z.2.2.1.endLine == z.2.2.2.line) && !isStar z.2.1 && (aT t m).1 N sc z.2.1
 | .ins i k m=>fun N sc s=>(Cp "insert" s).any fun z=>(eh z.2.1).any fun y=>zf N sc i z.1 && (z.2.2.1.endLine == z.2.2.2.line) && (!isStar y.1 && !isStar y.2) && (aT t k).1 N sc y.1 && (aT t m).1 N sc y.2
 | .sti i k m=>fun N sc s=>(oW s).any fun z=>(eE z.1).any fun w=>(cb w.1).any fun x=>zf N sc i x && !bS w.2 && !gw z.2 && (aT t m).1 N sc z.2 && (aT t k).1 N sc w.2
 | .sdc i nt fr it tg ke ve=>fun N sc s=>(oW s).any fun z=>(sj z.1).any fun x=>(wG z.2).any fun w=>(fun N'=>ko ok N sc true N.length i x.1 && mU N' nt fr N w.2.2.2.2.2.1 sc && !isSet w.2.2.2.1 && vk t it N sc w.2.2.1 w.2.2.2.1 && swC sc x.1 x.2 w.2.2.2.2.2.2 w.2.2.2.2.2.1 && (decide N'.Nodup && w.2.2.2.2.1.isEmpty && rQ (fun _=>true) N' (oT w.2.2.2.2.2.1 sc) false nt tg w.2.2.1 && (aT t ke).1 N' (oT w.2.2.2.2.2.1 sc) w.1 && (aT t ve).1 N' (oT w.2.2.2.2.2.1 sc) w.2.1)) (zg w.2.2.1++fr.filterMap fun j=>N[j]?)
def iE(ok:Nat->Bool):Ss->List Str->Scope->List Stmt->Bool
 | .nil=>fun N sc s=>s.isEmpty
 | .cons m ms=>fun N sc s=>(oS s).any fun z=>Cq ok m N sc z.1 && iE ok ms N sc z.2
end
end
structure Cs (t:Tb)(C:Ct)(W:Nat->Prop)(ok:Nat->Bool)(X:Cx):Prop where
 c:Cy t C X
 nd:X.N.Nodup
 fn:∀x,X.fn x=true
 pass:PassesOwn (model X.prog X.w) X.A X.env X.xe
 hw:∀i,ok i=true->¬ W i
section
variable{t:Tb}{C:Ct}
theorem Cr{e o i:Expr}{p:Pos}{env:Env}:swappedStores [.Subscript o i p] e env=pure none:=by cases e<;>rfl
theorem m7{X:Cx}{is:List Nat}{ms:Es}{st:Stmt}{W:Nat->Prop}(h:PDs X W st (yD is (ib C ms))):PDs X W st (jm C (.par is ms)):=h.imp fun D ρ ⟨y,h,q⟩=>by
 obtain⟨z,e1,h⟩:=bnd h
 obtain⟨o,e2,h⟩:=bnd h
 obtain⟨_,hz,h⟩:=bnd h
 have hz:=gd_ok hz
 cases h
 exact⟨z,e1,o.1,o.2,e2,hz.1,hz.2,q⟩
theorem sk{X:Cx}{W:Nat->Prop}{ok:Nat->Bool}(c:Cs t C W ok X){i:Nat}{x:Str}{p pos:Pos}{e:Expr}{z}(he:lC e=some z)(s:Sto X W X.N.length i x)(hsw:swC X.env.scope x p z.2.2.2 z.2.2.1=true){nt:Nat}{fr:List Nat}{it:It'}{tg:Tg}{ifs:Eo}{el:E}
  (h:(aT t (.comp nt fr it tg ifs el)).1 X.N X.env.scope e=true):PDx X i (.Assign [.Name x p] e pos) (aF C (.comp nt fr it tg ifs el)):=by
 have hl:X.env.scope.names.lookup x=some .local:=by
  unfold swC at hsw
  have:=(an4 hsw).2.1
  simpa using this
 obtain⟨w,h1,h⟩:=anyT h
 have e1:=kr h1
 subst e1
 cases he
 obtain⟨a1,a2,a3,a4,a5⟩:=an5 h
 obtain⟨b1,b2,b3⟩:=an3 a5
 exact zt c.nd s.hN hl c.c.calm (gA a1) (jo (cC a3)) (CU it X _ _ c.c a4) (fun q=>eI (X:=cO X _ w.2.2.2.2.1 q) (fn:=false) c.c.calm (Daa a2) (fun z=>by cases z) (fun _ _ z=>z) b1) (fun q=>EO ifs (cO X _ w.2.2.2.2.1 q) _ _ c.c.comp (bh el) b2 b3) (by rw[sd,hsw])
theorem vF{X:Cx}{W:Nat->Prop}{ok:Nat->Bool}(c:Cs t C W ok X){i:Nat}{m:E}{x:Str}{p pos:Pos}{e:Expr}(h:setB t ok X.N X.env.scope i m x p e=true):PDs X W (.Assign [.Name x p] e pos) (jm C (.set i m)):=by
 obtain⟨h1,h2,h3⟩:=an3 h
 have s:=dr (W:=W) (fun _=>c.fn) c.hw h1
 cases he:lC e with
 | none =>
  rw[he]at h3
  exact wA c.nd s (lA (cC h3)) ((bh m).v X _ c.c h2)
 | some z =>
  rw[he]at h3
  cases hsw:swC X.env.scope x p z.2.2.2 z.2.2.1 with
  | false =>
   have e1:=mR he
   exact wA c.nd s (by rw[e1,sd,hsw]) ((bh m).v X _ c.c h2)
  | true =>
   have h3:(!swC X.env.scope x p z.2.2.2 z.2.2.1 || cmpE m)=true:=h3
   rw[hsw]at h3
   have h3:cmpE m=true:=h3
   cases m with
   | comp nt fr it tg ifs el=>exact se s.nw (sk c he s hsw h2)
   | frz a =>
    cases a with
    | comp nt fr it tg ifs el=>exact se s.nw (Cj (sk c he s hsw h2))
    | _=>cases h3
   | _=>cases h3
mutual
theorem FR{W:Nat->Prop}{ok:Nat->Bool}:∀(m:S') X s,Cs t C W ok X->Cq t ok m X.N X.env.scope s=true->PDs X W s (jm C m)
 | .ex m,X,s,c,h=>by
  obtain⟨e,h1,k'⟩:=anyT h
  obtain⟨p,rfl⟩:=jw h1
  exact D7 (cC (an2 k').1) ((bh m).v X _ c.c (an2 k').2)
 | .set i m,X,s,c,h=>by
  obtain⟨z,h1,k'⟩:=anyT h
  obtain⟨x,h2,k'⟩:=anyT k'
  obtain⟨p,rfl⟩:=eK h1
  rw[m6 h2]
  exact vF c k'
 | .asg g m,X,s,c,h=>by
  obtain⟨z,h1,k'⟩:=anyT h
  obtain⟨p,rfl⟩:=eK h1
  obtain⟨a1,a3,a4,a5⟩:=an4 k'
  refine BZ ?_ (r6 a3) ?_ ((bh m).v X _ c.c a4) (eI c.c.calm c.nd (fun _=>c.fn) c.hw a5)
  ·obtain⟨_,_,_,e⟩:=eF a1
   rw[e]
   cases z.2<;>rfl
  obtain⟨_,_,_,e⟩:=eF a1
  rw[e];rfl
 | .par is ms,X,s,c,h=>by
  obtain⟨z,h1,k'⟩:=anyT h
  obtain⟨ts,h2,k'⟩:=anyT k'
  obtain⟨vs,h3,k'⟩:=anyT k'
  obtain⟨p,rfl⟩:=eK h1
  obtain⟨z1,z2⟩:=z
  obtain⟨k1,p1,e1⟩:=asTup_ok h2
  obtain⟨k2,p2,e2⟩:=asTup_ok h3
  simp only at e1 e2
  subst e1 e2
  obtain⟨a1,a2,k'⟩:=an3 k'
  have hsw:=Daa a2
  match is,k' with
  | [i,j],k' =>
   obtain⟨w,b1,k'⟩:=anyT k'
   obtain⟨u,b2,k'⟩:=anyT k'
   obtain⟨x,b3,k'⟩:=anyT k'
   obtain⟨y,b4,k'⟩:=anyT k'
   have e3:=two2_ok b1
   have e4:=two2_ok b2
   obtain⟨w1,w2⟩:=w
   obtain⟨q1,e5⟩:=asNm_ok b3
   obtain⟨q2,e6⟩:=asNm_ok b4
   simp only at e3 e4 e5 e6
   subst e5 e6
   subst e3 e4
   obtain⟨c1,c2,c3,c4,c5⟩:=an5 k'
   rw[Daa c1]at hsw
   refine m7 (uF (fun k hk=>?_) c.c.calm c.nd (Daa (an2 c3).1) (Daa (an2 c3).2) (Daa c2) (aH (an2 c4).1) (aH (an2 c4).2) (lI hsw) rfl (zq ms X _ c.c a1))
   rcases aab.mp hk with rfl | hk
   ·exact c.hw _ (an2 c5).1
   ·rw[aaB.mp hk];exact c.hw _ (an2 c5).2
  | [i,j,k],k' =>
   obtain⟨w,b1,k'⟩:=anyT k'
   obtain⟨u,b2,k'⟩:=anyT k'
   obtain⟨x,b3,k'⟩:=anyT k'
   obtain⟨y,b4,k'⟩:=anyT k'
   obtain⟨z,b5,k'⟩:=anyT k'
   have e3:=thr3_ok b1
   have e4:=thr3_ok b2
   obtain⟨w1,w2,w3⟩:=w
   obtain⟨q1,e5⟩:=asNm_ok b3
   obtain⟨q2,e6⟩:=asNm_ok b4
   obtain⟨q3,e7⟩:=asNm_ok b5
   simp only at e3 e4 e5 e6 e7
   subst e5 e6 e7
   subst e3 e4
   obtain⟨c1,c2,c3,c4,c5⟩:=an5 k'
   obtain⟨d1,d2,d3⟩:=an3 c2
   obtain⟨d4,d5,d6⟩:=an3 c3
   obtain⟨d7,d8,d9⟩:=an3 c4
   obtain⟨f1,f2,f3⟩:=an3 c5
   rw[Daa c1]at hsw
   refine m7 (qS (fun k hk=>?_) c.c.calm c.nd (Daa d4) (Daa d5) (Daa d6) (Daa d1) (Daa d2) (Daa d3) (aH d7) (aH d8) (aH d9) (lI hsw) rfl (zq ms X _ c.c a1))
   rcases aab.mp hk with rfl | hk
   ·exact c.hw _ f1
   ·rcases aab.mp hk with rfl | hk
    ·exact c.hw _ f2
    ·rw[aaB.mp hk];exact c.hw _ f3
  | [],k'=>exact absurd k' aah
  | [_],k'=>exact absurd k' aah
  | _::_::_::_::_,k'=>exact absurd k' aah
 | .aug i o m,X,s,c,h=>by
  obtain⟨z,h1,k'⟩:=anyT h
  obtain⟨x,h2,k'⟩:=anyT k'
  obtain⟨p,rfl⟩:=vq h1
  obtain⟨q,e⟩:=asNm_ok h2
  obtain⟨a1,a2,a3⟩:=an3 k'
  rw[e,rN a1]
  exact B4 c.nd (dr (fun _=>c.fn) c.hw a2) ((bh m).v X _ c.c a3)
 | .ret m,X,s,c,h=>by
  obtain⟨o,h1,k'⟩:=anyT h
  obtain⟨e,h2,k'⟩:=anyT k'
  obtain⟨p,rfl⟩:=vy h1
  subst h2
  exact BY ((bh m).v X _ c.c k')
 | .iff z a b,X,s,c,h=>by
  obtain⟨q,h1,k'⟩:=anyT h
  obtain⟨p,rfl⟩:=vA h1
  obtain⟨a1,a2,a3⟩:=an3 k'
  exact D8 ((bh z).t X _ c.c a1) (sm a X _ c a2) (sm b X _ c a3)
 | .fr g it b,X,s,c,h=>by
  obtain⟨q,h1,k'⟩:=anyT h
  obtain⟨p,rfl⟩:=vC h1
  obtain⟨a1,a2,a3,a4,a5⟩:=an5 k'
  obtain⟨q1,q2,q3,q4⟩:=q
  cases q4 with
  | nil=>exact B3 c.pass c.c.calm (jo (cC a1)) (CU it X _ _ c.c a2) (eI c.c.calm c.nd (fun _=>c.fn) c.hw a3) (sm b X _ c a4)
  | cons _ _=>cases a5
 | .cont,X,s,c,h=>by
  obtain⟨p,rfl⟩:=vD h
  exact y6
 | .app i m,X,s,c,h=>by
  obtain⟨z,h1,k'⟩:=anyT h
  obtain⟨x,h2,k'⟩:=anyT k'
  obtain⟨p,rfl⟩:=si h1
  obtain⟨q,e⟩:=asNm_ok h2
  obtain⟨a1,a2,a3,a4⟩:=an4 k'
  obtain⟨n1,n2,n3,n4⟩:=fv a1
  rw[e]
  exact B8 n1 n2 n3 n4 a2 (cC a3) ((bh m).v X _ c.c a4)
 | .ins i k m,X,s,c,h=>by
  obtain⟨z,h1,k'⟩:=anyT h
  obtain⟨y,h2,k'⟩:=anyT k'
  obtain⟨p,p',rfl⟩:=vE h1
  obtain⟨a1,a2,a3,a4,a5⟩:=an5 k'
  obtain⟨b1,b2⟩:=an2 a3
  obtain⟨n1,n2,n3,n4⟩:=fv a1
  rw[two2_ok h2]
  exact B9 n1 n2 n3 n4 a2 (cC b1) (cC b2) ((bh k).v X _ c.c a4) ((bh m).v X _ c.c a5)
 | .sti i k m,X,s,c,h=>by
  obtain⟨z,h1,k'⟩:=anyT h
  obtain⟨w,h2,k'⟩:=anyT k'
  obtain⟨x,h3,k'⟩:=anyT k'
  obtain⟨p,rfl⟩:=eK h1
  obtain⟨q,e⟩:=cB h2
  obtain⟨q',e'⟩:=asNm_ok h3
  obtain⟨a1,a2,a3,a4,a5⟩:=an5 k'
  obtain⟨n1,n2,n3,n4⟩:=fv a1
  rw[e,e']
  exact Ca n1 n2 n3 n4 (cC a2) (lA (cC a3)) Cr ((bh m).v X _ c.c a4) ((bh k).v X _ c.c a5)
 | .sdc i nt fr it tg ke ve,X,s,c,h=>by
  obtain⟨z,h1,k'⟩:=anyT h
  obtain⟨x,h2,k'⟩:=anyT k'
  obtain⟨w,h3,k'⟩:=anyT k'
  obtain⟨p,rfl⟩:=eK h1
  obtain⟨k0,k1⟩:=an2 k'
  obtain⟨a1,a2,a3,a4,a5⟩:=an5 k0
  obtain⟨b1,b2,b3,b4,b5⟩:=an5 k1
  have s:=dr (W:=W) (fun _=>c.fn) c.hw a1
  have hl:X.env.scope.names.lookup x.1=some .local:=by
   unfold swC at a5
   have:=(an4 a5).2.1
   simpa using this
  rw[m6 h2,rW h3,List.isEmpty_iff.mp b2]
  exact Cm s.nw c.nd s.hN hl c.c.calm (gA a2) (jo (cC a3)) (by show pure (swC X.env.scope x.1 x.2 w.2.2.2.2.2.2 w.2.2.2.2.2.1)=_;rw[a5]) (fun q=>by have:=(c.c.comp (q:=q) (N:=zg w.2.2.1++fr.filterMap fun j=>X.N[j]?) (sc:=w.2.2.2.2.2.1)).units;omega) (CU it X _ _ c.c a4) (fun q=>eI (X:=cO X _ w.2.2.2.2.2.1 q) (fn:=false) c.c.calm (Daa b1) (fun z=>by cases z) (fun _ _ z=>z) b3) (fun q=>(bh ke).v (cO X _ w.2.2.2.2.2.1 q) _ c.c.comp b4) fun q=>(bh ve).v (cO X _ w.2.2.2.2.2.1 q) _ c.c.comp b5
theorem sm{W:Nat->Prop}{ok:Nat->Bool}:∀(m:Ss) X s,Cs t C W ok X->iE t ok m X.N X.env.scope s=true->PDss X W s (lz C m)
 | .nil,X,s,c,h=>by
  cases s with
  | nil=>exact y4
  | cons _ _=>cases h
 | .cons m ms,X,s,c,h=>by
  obtain⟨z,h1,k'⟩:=anyT h
  have:=con1_ok h1
  subst this
  exact uW (FR m X _ c (an2 k').1) (sm ms X _ c (an2 k').2)
end
end
end
section
structure Df where
 name:Str
 qual:Str
 st:Stmt
 ps:List Str
 N:List Str
 fn:Fn
def zu(N ps:List Str)(sc:Scope):Bool:=decide (sc.kind=.function) && !sc.isCoroutine && !sc.isGenerator && decide N.Nodup && decide (N.take ps.length=ps) && ps.all (fun x=>u9 sc x) && sc.names.all fun y=>!decide (y.2=.free)
theorem vG(h:zu N ps sc=true):FnScope N ps sc:=by
 unfold zu at h
 simp only[aam,aaP,abp,decide_eq_true_eq,decide_eq_false_iff_not]at h
 obtain⟨⟨⟨⟨⟨⟨h1,h2⟩,h3⟩,h4⟩,h5⟩,h6⟩,h7⟩:=h
 exact⟨h1,h2,h3,h4,h5,fun x hx=>mS (h6 x hx),h7⟩
def lJ(ios:List Bool)(i:Nat):Bool:=!decide (ios[i]?=some true)
def vH(t:Tb)(d:Df):Bool:=zu d.N d.ps (aJ d.st) && decide (d.fn.io.length=d.ps.length) && decide (d.fn.n=d.N.length) && iE t (lJ d.fn.io) d.fn.body d.N (aJ d.st) (bP d.st)
structure Md (K:Waa)(mg:Str->Option Value)(t:Tb)(p:Pg)(D:Nat->Option Df):Prop where
 df:∀j d,D j=some d->p.F j=some d.fn/\vH t d=true/\∃f fd,Fun K d.name d.qual d.st f fd/\Binds K fd d.ps [] /\
  (∀nm,t.fn j=some nm->mg nm=some (.ref f)/\PySem.W.keepIn K (.ref f)=true)/\(∀c m,t.me j=some (c,m)->Cls K (aR K c)/\Meth K (aR K c) m f)/\(∀c,t.mk' j=some c->Mk K (aR K c) f/\mg c=some (.ref (aR K c)))
 all:∀j,((t.fn j).isSome || (t.me j).isSome || (t.mk' j).isSome)=true->(D j).isSome=true
 gc:∀g nm,t.gc g=some nm->∃v u,mg nm=some u/\RelV v u/\∀S H,Fz K S H v (p.gv g)
 ng:∀x,t.nog x=true->mg x=none
 fl:∀c f,t.fld c f=true->Cls K (aR K c)/\kU K (aR K c) f
section
variable{P:Program}{w:World}{K:Waa}{mg:Str->Option Value}{base:Heap}{t:Tb}{p:Pg}{D:Nat->Option Df}
theorem ky(h:∀xs Q,¬ sp xs Q):FnD P w K mg base k f fd ps sp:=by
 have h':∀vs H Q E,¬ toSp K sp vs H Q E:=fun vs H Q E ⟨S,xs,A,_,_,_,_,z⟩=>h _ _ z
 exact⟨⟨fun vs H Q E z=>(h' _ _ _ _ z).elim,fun A outer s H args us vs Q E _ _ _ _ z=>(h' _ _ _ _ z).elim⟩,fun xs P R _ z=>(h _ _ z).elim⟩
theorem kz(h:∀xs,g xs=none):∀xs Q,¬ spC g xs Q:=fun xs Q ⟨w,e,_⟩=>by rw[h]at e;cases e
theorem Md.ok(M:Md K mg t p D):∀(n:Nat),(∀(j:Nat) (d:Df),D j=some d->∀(f:Addr) (fd:FuncData),Fun K d.name d.qual d.st f fd->FnD P w K mg base (n + 1) f fd d.ps (spC (p.call n j))) /\
  (∀(j:Nat) (d:Df),D j=some d->∀(f:Addr) (fd:FuncData),Fun K d.name d.qual d.st f fd->FnD P w K mg base n f fd d.ps (spC (p.mak n j)))
 | 0=>⟨fun j d _ f fd _=>ky (kz fun _=>rfl),fun j d _ f fd _=>ky (kz fun _=>rfl)⟩
 | n + 1=>by
  obtain⟨ih1,ih2⟩:=Md.ok M n
  refine⟨fun j d hj f fd F=>?_,fun j d hj f fd F=>ih1 j d hj f fd F⟩
  obtain⟨h1,h2,_⟩:=M.df j d hj
  unfold vH at h2
  simp only[aam,decide_eq_true_eq]at h2
  obtain⟨⟨⟨g1,g2⟩,g3⟩,g4⟩:=h2
  have S:=vG g1
  refine F.okD (ios:=d.fn.io) S (rH _) g2 (fun xs Q ⟨z,e,_⟩=>?_) fun cdv A outer s H E hr xs Q ⟨z,e,q⟩=>?_
  ·rw[Pg.call_succ,h1]at e
   simp only at e
   split at e
   ·rename_i hl;rw[hl];exact g2
   ·cases e
  ·have c:Cy t (p.ct n) (i3 CX0 P w K mg base d.N d.qual (aJ d.st) f cdv A outer s H E).nox:=by
    refine⟨rfl,hr.units,hr.gd,fun j' nm h=>?_,fun j' c m h=>?_,fun j' c h=>?_,M.gc,M.ng,M.fl⟩
    ·obtain⟨d',hd'⟩:=abk.mp (M.all j' (by rw[h];rfl))
     obtain⟨_,_,f',fd',F',B',q1,_,_⟩:=M.df j' d' hd'
     exact⟨n + 1,f',fd',d'.ps,ih1 j' d' hd' f' fd' F',hr,(q1 nm h).1,(q1 nm h).2,B'⟩
    ·obtain⟨d',hd'⟩:=abk.mp (M.all j' (by rw[h];simp))
     obtain⟨_,_,f',fd',F',B',_,q2,_⟩:=M.df j' d' hd'
     exact⟨(q2 c m h).1,n + 1,f',fd',d'.ps,(q2 c m h).2,ih1 j' d' hd' f' fd' F',hr,B'⟩
    ·obtain⟨d',hd'⟩:=abk.mp (M.all j' (by rw[h];simp))
     obtain⟨_,_,f',fd',F',B',_,_,q3⟩:=M.df j' d' hd'
     exact⟨n,f',fd',d'.ps,(q3 c h).1,ih2 j' d' hd' f' fd' F',hr,(q3 c h).2,B'⟩
   have cs:Cs t (p.ct n) (WS d.fn.io) (lJ d.fn.io) (i3 CX0 P w K mg base d.N d.qual (aJ d.st) f cdv A outer s H E).nox :=
    ⟨c,S.nd,fun _=>rfl,PassesOwn.never,fun i hi z=>by
     unfold lJ at hi
     simp only[abp,decide_eq_false_iff_not]at hi
     exact hi z⟩
   refine⟨_,sm d.fn.body _ _ cs g4,?_⟩
   rw[Pg.call_succ,h1]at e
   simp only at e
   split at e
   ·unfold uP at e
    obtain⟨x,e1,e⟩:=bnd e
    rw[g3]at e1
    refine⟨x,e1,?_⟩
    obtain⟨fl,ρ⟩:=x
    cases fl with
    | nx =>
     obtain⟨ys,e2,e⟩:=bnd e
     cases e
     exact⟨ys,e2,q⟩
    | rt o =>
     obtain⟨ys,e2,e⟩:=bnd e
     cases e
     exact⟨ys,e2,q⟩
    | bk=>cases e
    | ct=>cases e
   ·cases e
theorem Md.law(M:Md K mg t p D)(hj:D j=some d)(F:Fun K d.name d.qual d.st f fd)
  (h:∀ns:List Int,ns.length<=63->∃ys,p.call n j [.fz (.list (ns.map PyData.int))]=some (.fz (.bool true),ys)) :
  FnOk P w K mg base CX0 (n + 1) f fd d.ps (fun vs H Q _=>∃(a:Addr) (ns:List Int),vs=[.ref a]/\SqL K H a (ns.map V.int)/\ns.length<=63/\∀H',Q (.bl true) H'):=by
 refine ((M.ok n).1 j d hj f fd F).ok.imp fun vs H Q E hq=>?_
 obtain⟨a,ns,rfl,hS,hl,q⟩:=hq
 obtain⟨ys,hy⟩:=h ns hl
 refine⟨fun _=>False,[.fz (.list (ns.map PyData.int))],[],fun a z=>z.elim,fun _ _ _ z=>z,Ows.cons (.fz ((Fz.of0 (.lst hS (DtAll.ints ns))).sub fun c z=>z.elim (fun z=>by cases z) id)) .nil,aa8,_,hy,fun v H' B _ hO _ _=>?_⟩
 cases hO with
 | cons r _ =>
  cases r with
  | fz f=>cases f;exact q H'
end
end
section
inductive Kd where | fn | me (c:Str) | ini (c:Str)
def Kd.fn?(d:Df):Kd->Option Str | .fn=>some d.name | _=>none
def Kd.me?(d:Df):Kd->Option (Str × Str) | .me c=>some (c,d.name) | _=>none
def Kd.ini?:Kd->Option Str | .ini c=>some c | _=>none
structure Pl where
 ds:List (Df × Kd)
 cs:List (Str × PyData)
 nog:List Str
 fld:List (Str × Str)
def Pl.tb(P:Pl):Tb where
 fn j:=(P.ds[j]?).bind fun z=>z.2.fn? z.1
 me j:=(P.ds[j]?).bind fun z=>z.2.me? z.1
 mk' j:=(P.ds[j]?).bind fun z=>z.2.ini?
 gc g:=(P.cs[g]?).map (·.1)
 nog x:=P.nog.any fun y=>sEq x y
 fld c f:=P.fld.any fun y=>sEq c y.1 && sEq f y.2
def Pl.pg(P:Pl):Pg where
 F j:=(P.ds[j]?).map (·.1.fn)
 gv g:=((P.cs[g]?).map (·.2)).getD .none
 wf:=100000
def Pl.D(P:Pl)(j:Nat):Option Df:=(P.ds[j]?).map (·.1)
def Cu(K:Waa)(mg:Str->Option Value)(d:Df)(f:Addr):Kd->Prop
 | .fn=>mg d.name=some (.ref f)/\PySem.W.keepIn K (.ref f)=true
 | .me c=>Cls K (aR K c)/\Meth K (aR K c) d.name f
 | .ini c=>Mk K (aR K c) f/\mg c=some (.ref (aR K c))
def wL(K:Waa)(mg:Str->Option Value)(z:Df × Kd):Prop:=∃f fd,Fun K z.1.name z.1.qual z.1.st f fd/\Binds K fd z.1.ps []/\Cu K mg z.1 f z.2
section
variable{K:Waa}{mg:Str->Option Value}{P:Pl}
theorem mp{α β:Type}{o:Option α}{f:α->β}{b:β}(h:o.map f=some b):∃a,o=some a/\f a=b:=by
 cases o with
 | none=>cases h
 | some a=>exact⟨a,rfl,aaG h⟩
theorem Pl.md(h1:(P.ds.all fun z=>vH P.tb z.1)=true)(h2:∀z∈P.ds,wL K mg z)(h3:∀z∈P.cs,∃v u,mg z.1=some u/\RelV v u/\∀S H,Fz K S H v z.2)(h4:∀x∈P.nog,mg x=none)(h5:∀z∈P.fld,Cls K (aR K z.1)/\kU K (aR K z.1) z.2):Md K mg P.tb P.pg P.D where
 df j d hj:=by
  obtain⟨z,e1,e2⟩:=mp hj
  subst e2
  have hm:=abl e1
  obtain⟨f,fd,a1,a2,a3⟩:=h2 z hm
  refine⟨by show (P.ds[j]?).map _=_;rw[e1];rfl,aaP.mp h1 z hm,f,fd,a1,a2,fun nm hn=>?_,fun c m hn=>?_,fun c hn=>?_⟩
  ·have hn:((P.ds[j]?).bind fun z=>z.2.fn? z.1)=some nm:=hn
   rw[e1]at hn
   obtain⟨d,k⟩:=z
   cases k<;>cases hn
   exact a3
  ·have hn:((P.ds[j]?).bind fun z=>z.2.me? z.1)=some (c,m):=hn
   rw[e1]at hn
   obtain⟨d,k⟩:=z
   cases k<;>cases hn
   exact a3
  ·have hn:((P.ds[j]?).bind fun z=>z.2.ini?)=some c:=hn
   rw[e1]at hn
   obtain⟨d,k⟩:=z
   cases k<;>cases hn
   exact a3
 all j h:=by
  show ((P.ds[j]?).map _).isSome=true
  cases e:P.ds[j]? with
  | none =>
   have h:((((P.ds[j]?).bind fun z=>z.2.fn? z.1).isSome || ((P.ds[j]?).bind fun z=>z.2.me? z.1).isSome) || ((P.ds[j]?).bind fun z=>z.2.ini?).isSome)=true:=h
   rw[e]at h
   cases h
  | some z=>rfl
 gc g nm h:=by
  obtain⟨z,e1,e2⟩:=mp h
  subst e2
  obtain⟨v,u,b1,b2,b3⟩:=h3 z (abl e1)
  have e3:P.pg.gv g=z.2:=by show ((P.cs[g]?).map _).getD _=_;rw[e1];rfl
  rw[e3]
  exact⟨v,u,b1,b2,b3⟩
 ng x h:=by
  obtain⟨y,hy,e⟩:=abh.mp h
  rw[cU e]
  exact h4 y hy
 fl c f h:=by
  obtain⟨y,hy,e⟩:=abh.mp h
  rw[cU (an2 e).1,cU (an2 e).2]
  exact h5 y hy
end
end
end L2
namespace L2
open PySem
theorem bs{α β:Type}{o:Option α}{f:α->Option β}{x:α}{r:Option β}(h:o=some x)(k:f x=r):o.bind f=r:=by rw[h];exact k
theorem FS{c:Prop}[Decidable c](h:c):gd c=some ():=if_pos h
theorem bg{β:Type}{c:Prop}[Decidable c]{f:Unit->Option β}{r:Option β}(h:c)(k:f ()=r):(gd c).bind f=r:=bs (FS h) k
section
variable{C:Ct}{a b c e:E}{es:Es}{ρ ρ1 ρ2 ρ3:DEnv}{x y:OR}{dx dy d:PyData}{k k1:Bool}{i j f:Nat}{n:Int}{rs:List OR}{xs ys zs:List OD}{z w:OD}{ds:List PyData}{s:S'}{ss sa sb:Ss}{fl:Fl}{r:Option (Fl × DEnv)}{rv:Option (OR × DEnv)}{rt:Option (Bool × DEnv)}{ps:List Acc}
theorem ai{o:Bo}(h1:ev C a ρ=some (x,ρ1))(h2:ev C b ρ1=some (y,ρ2))(hx:ao ρ2 x=some dx)(hy:ao ρ2 y=some dy)(h:yO o dx dy=some d):ev C (.bop o a b) ρ=some (.val (.fz d),ρ2):=bs h1 (bs h2 (bs hx (bs hy (bs h rfl))))
theorem ar{o:Co}(h1:ev C a ρ=some (x,ρ1))(h2:ev C b ρ1=some (y,ρ2))(hx:ao ρ2 x=some dx)(hy:ao ρ2 y=some dy)(h:iz o dx dy=some k):ev C (.cmp o a b) ρ=some (.val (.fz (.bool k)),ρ2):=bs h1 (bs h2 (bs hx (bs hy (bs h rfl))))
theorem aO(h1:ev C a ρ=some (x,ρ1))(h2:ev C b ρ1=some (y,ρ2))(hy:ao ρ2 y=some (.int n))(h:bV ρ2 x n=some (z,ρ3)):ev C (.ix a b) ρ=some (.val z,ρ3):=bs h1 (bs h2 (bs hy (bs rfl (bs h rfl))))
theorem ae(h1:evs C es ρ=some (rs,ρ1))(h2:bO (C.io f) ρ1 rs=some (xs,ρ2))(h3:C.call f xs=some (w,ys))(h4:iy (C.io f) rs ys ρ2=ρ3):ev C (.call f es) ρ=some (.val w,ρ3):=bs h1 (bs h2 (bs h3 (by rw[<- h4])))
theorem e_lst(h1:evs C es ρ=some (rs,ρ1))(hl:Nat.ble rs.length 1000000=true)(h2:mapR own1 ρ1 rs=some (zs,ρ2)):ev C (.lst es) ρ=some (.val (.lst zs),ρ2):=bs h1 (bs h2 (bg (Nat.ble_eq.mp hl) rfl))
theorem bY(h1:evs C es ρ=some (rs,ρ1))(hl:Nat.ble rs.length 1000000=true)(h2:mapR own1 ρ1 rs=some (zs,ρ2))(h3:mkTup zs=z):ev C (.tup es) ρ=some (.val z,ρ2):=bs h1 (bs h2 (bg (Nat.ble_eq.mp hl) (by rw[<- h3])))
theorem ag:evs C .nil ρ=some ([],ρ):=rfl
theorem aa(h1:ev C e ρ=some (x,ρ1))(h2:evs C es ρ1=some (rs,ρ2)):evs C (.cons e es) ρ=some (x::rs,ρ2):=bs h1 (bs h2 rfl)
theorem gD(h:ba C c ρ=some (true,ρ1))(k:ev C a ρ1=rv):ev C (.ife c a b) ρ=rv:=bs h k
theorem kA(h:ba C c ρ=some (false,ρ1))(k:ev C b ρ1=rv):ev C (.ife c a b) ρ=rv:=bs h k
theorem au{g:Bl}(h1:evs C es ρ=some (rs,ρ1))(h2:dF ρ1 rs=some ds)(h3:pD g ds=some d):ev C (.blt g es) ρ=some (.val (.fz d),ρ1):=bs h1 (bs h2 (bs h3 rfl))
theorem m8(h1:ev C e ρ=some (x,ρ1))(h2:(dU ρ1 x).bind listOf=some ds):ev C (.bnw .tuple e) ρ=some (.val (.fz (.tuple ds)),ρ1):=bs h1 (bs h2 rfl)
theorem so{ns:List Int}(h1:ev C e ρ=some (x,ρ1))(h2:ao ρ1 x=some (.list ds))(h3:cT ds=some ns)(hl:ns.length < 64):ev C (.bnw .sorted e) ρ=some (.val (.lst ((sortI ns).map fun i=>.fz (.int i))),ρ1):=bs h1 (bs h2 (bs rfl (bs h3 (bg hl rfl))))
theorem iF{dx dy:List PyData}(h1:ev C a ρ=some (x,ρ1))(h2:ev C b ρ1=some (y,ρ2))(hx:lg ρ2 x=some dx)(hy:lg ρ2 y=some dy)(hl:dx.length + dy.length<=1000000):ev C (.cat a b) ρ=some (.val (.lst ((dx++dy).map OD.fz)),ρ2):=bs h1 (bs h2 (bs hx (bs hy (bg hl rfl))))
theorem aw{o:Co}(h:ev C (.cmp o a b) ρ=some (.val (.fz (.bool k)),ρ1)):ba C (.cmp o a b) ρ=some (k,ρ1):=bs h rfl
theorem bb(h:ev C (.call f es) ρ=some (.val (.fz (.bool k)),ρ1)):ba C (.call f es) ρ=some (k,ρ1):=bs h rfl
theorem Em(h:ev C (.ix a b) ρ=some (.val (.fz (.bool k)),ρ1)):ba C (.ix a b) ρ=some (k,ρ1):=bs h rfl
theorem gF{g:Bl}(h:ev C (.blt g es) ρ=some (.val (.fz (.bool k)),ρ1)):ba C (.blt g es) ρ=some (k,ρ1):=bs h rfl
theorem sq(h:ba C a ρ=some (true,ρ1))(k:ba C b ρ1=rt):ba C (.and a b) ρ=rt:=bs h k
theorem zw(h:ba C a ρ=some (false,ρ1)):ba C (.and a b) ρ=some (false,ρ1):=bs h rfl
theorem a9(h:ba C a ρ=some (true,ρ1)):ba C (.or a b) ρ=some (true,ρ1):=bs h rfl
theorem aI(h:ba C a ρ=some (false,ρ1))(k:ba C b ρ1=rt):ba C (.or a b) ρ=rt:=bs h k
theorem av(h:ba C a ρ=some (k,ρ1)):ba C (.not a) ρ=some (!k,ρ1):=bs h rfl
theorem dN(h:ev C a ρ=some (.val (.fz (.bool true)),ρ1))(k:ev C b ρ1=rv):ev C (.and a b) ρ=rv:=bs h (bs rfl (bs rfl k))
theorem bo(h:ev C a ρ=some (.val (.fz (.bool false)),ρ1)):ev C (.and a b) ρ=some (.val (.fz (.bool false)),ρ1):=bs h rfl
theorem wM(h:ev C a ρ=some (.val (.fz (.bool true)),ρ1)):ev C (.or a b) ρ=some (.val (.fz (.bool true)),ρ1):=bs h rfl
theorem wN(h:ev C a ρ=some (.val (.fz (.bool false)),ρ1))(k:ev C b ρ1=rv):ev C (.or a b) ρ=rv:=bs h (bs rfl (bs rfl k))
theorem En{p:OD × List Nat × OD}(h:cG ρ i ps=some p)(h2:p.2.2=.fz d):ev C (.pg i ps) ρ=some (.val (.fz d),ρ):=bs h (bs (show Bi p.2.2=some d by rw[h2];rfl) rfl)
variable{p:OD × List Nat × OD}{cn fl':Str}{ns ns':List Str}{xs':List OD}
theorem ab(h:bD C s ρ=some (.nx,ρ1))(k:aN C ss ρ1=r):aN C (.cons s ss) ρ=r:=bs h k
theorem aj(h:bD C s ρ=some (.rt z,ρ1)):aN C (.cons s ss) ρ=some (.rt z,ρ1):=bs h rfl
theorem Ep(h:bD C s ρ=some (.ct,ρ1)):aN C (.cons s ss) ρ=some (.ct,ρ1):=bs h rfl
theorem s_setQ(h:ev C e ρ=some (x,ρ1))(ho:own1 ρ1 x=some (z,ρ2))(hi:Nat.blt i ρ2.length=true)(hr:ρ2.set i (some z)=ρ3):bD C (.set i e) ρ=some (.nx,ρ3):=bs h (bs ho (bg (Nat.blt_eq.mp hi) (by rw[<- hr])))
theorem gG{is:List Nat}(h:evs C es ρ=some (rs,ρ1))(ho:mapR own1 ρ1 rs=some (zs,ρ2))(hl:(zs.length == is.length && is.all fun i=>Nat.blt i ρ2.length)=true)(hr:cQ is zs ρ2=ρ3):bD C (.par is es) ρ=some (.nx,ρ3):=bs h (bs ho (bg (by rw[aam,aaP]at hl;exact⟨eq_of_beq hl.1,fun i hi=>Nat.blt_eq.mp (hl.2 i hi)⟩) (by rw[<- hr])))
theorem ah(h:ev C e ρ=some (x,ρ1))(ho:mv1 ρ1 x=some (z,ρ2)):bD C (.ret e) ρ=some (.rt z,ρ2):=bs h (bs ho rfl)
theorem aC(h:ba C c ρ=some (true,ρ1))(k:aN C sa ρ1=r):bD C (.iff c sa sb) ρ=r:=bs h k
theorem aq(h:ba C c ρ=some (false,ρ1))(k:aN C sb ρ1=r):bD C (.iff c sa sb) ρ=r:=bs h k
theorem cH(h0:ρ[i]?.join=some (.lst ys))(h:ev C e ρ=some (x,ρ1))(ho:own1 ρ1 x=some (z,ρ2))(h1:ρ2[i]?.join=some (.lst xs))(hl:xs.length < 1000000)(hr:ρ2.set i (some (.lst (xs++[z])))=ρ3):bD C (.app i e) ρ=some (.nx,ρ3):=bs h0 (bs rfl (bs h (bs ho (bs h1 (bs rfl (bg hl (by rw[<- hr])))))))
theorem lK{ke:E}{jj:Nat}(h:ev C e ρ=some (x,ρ1))(ho:own1 ρ1 x=some (z,ρ2))(h0:ρ2[i]?.join=some (.lst ys))(hk:ev C ke ρ2=some (y,ρ3))(hd:ao ρ3 y=some (.int n))(h1:ρ3[i]?.join=some (.lst xs))(hn:ixN xs.length n=some jj){ρ4:DEnv}(hr:ρ3.set i (some (.lst (xs.set jj z)))=ρ4):bD C (.sti i ke e) ρ=some (.nx,ρ4):=bs h (bs ho (bs h0 (bs rfl (bs hk (bs hd (bs rfl (bs h1 (bs rfl (bs hn (by rw[<- hr]))))))))))
theorem s_frQ{t:Tg}{it:It'}(h:ia C it ρ=some (ds,ρ1))(k:bx (fun d ρ'=>(bj t (.fz d) ρ').bind fun ρ1=>aN C ss ρ1) ds ρ1=r):bD C (.fr t it ss) ρ=r:=bs h k
theorem gH(h:ev C e ρ=some (x,ρ1))(hd:ao ρ1 x=some (.int n))(h1:-(2 ^ 62)<=n/\n < 2 ^ 62):ia C (.rg1 e) ρ=some (bW 0 n.toNat,ρ1):=bs h (bs hd (bs rfl (bg h1 rfl)))
theorem bc(h:ev C e ρ=some (x,ρ1))(hd:frz1 ρ1 x=some (d,ρ2))(hs:rl d=some ds):ia C (.seq e) ρ=some (ds,ρ2):=bs h (bs hd (bs hs rfl))
theorem fE(h:ev C e ρ=some (x,ρ1))(hd:frz1 ρ1 x=some (.list ds,ρ2)):ia C (.enm e) ρ=some (bB ds,ρ2):=bs h (bs hd (bs rfl rfl))
theorem i_zipQ{es':List PyData}(h:ev C a ρ=some (x,ρ1))(h':ev C b ρ1=some (y,ρ2))(hd:frz1 ρ2 x=some (dx,ρ3)){ρ4:DEnv}(hd':frz1 ρ3 y=some (dy,ρ4))(hs:rl dx=some ds)(hs':rl dy=some es'):ia C (.zip a b) ρ=some (b9 ds es',ρ4):=bs h (bs h' (bs hd (bs hd' (bs hs (bs hs' rfl)))))
theorem aP{nt:Nat}{fr:List Nat}{it:It'}{tg:Tg}{ifs:Eo}{elt:E}{zc:DEnv × DEnv}{out:List PyData}{ρ':DEnv}(h1:ia C it ρ=some (ds,ρ1))(hz:ds.length < 1000000)(hc:cy ρ1 fr=some zc)(hl:aW (aX C tg ifs elt) ds [] (List.replicate nt none++zc.1)=some (out,ρ'))(hr:dX zc.2 fr (ρ'.drop nt)=ρ2):ev C (.comp nt fr it tg ifs elt) ρ=some (.val (.lst (out.map OD.fz)),ρ2):=bs h1 (bg hz (bs hc (bs (x:=(out,ρ')) hl (by rw[<- hr]))))
theorem lL{tg:Tg}{ifs elt:E}(h0:bj tg (.fz d) ρ=some ρ1)(h1:ba C ifs ρ1=some (true,ρ2))(h2:ev C elt ρ2=some (x,ρ3)){ρ4:DEnv}(h3:frz1 ρ3 x=some (dx,ρ4)):aX C tg (.some ifs) elt d ρ=some ([dx],ρ4):=bs h0 (bs h1 (bs h2 (bs h3 rfl)))
theorem lM{tg:Tg}{ifs elt:E}(h0:bj tg (.fz d) ρ=some ρ1)(h1:ba C ifs ρ1=some (false,ρ2)):aX C tg (.some ifs) elt d ρ=some ([],ρ2):=bs h0 (bs h1 rfl)
theorem fF{tg:Tg}{elt:E}(h0:bj tg (.fz d) ρ=some ρ1)(h2:ev C elt ρ1=some (x,ρ3)){ρ4:DEnv}(h3:frz1 ρ3 x=some (dx,ρ4)):aX C tg .none elt d ρ=some ([dx],ρ4):=bs h0 (bs rfl (bs h2 (bs h3 rfl)))
end
theorem oX{step:PyData->DEnv->Option (Fl × DEnv)}(P:List PyData->DEnv->Prop)(h:∀d ds ρ,P (d::ds) ρ->∃fl ρ',step d ρ=some (fl,ρ')/\(fl=.nx\/fl=.ct)/\P ds ρ'):∀{ds:List PyData} {ρ:DEnv},P ds ρ->∃ρ',bx step ds ρ=some (.nx,ρ')/\P [] ρ':=by
 intro ds
 induction ds with
 | nil=>exact fun {ρ} hp=>⟨ρ,rfl,hp⟩
 | cons d ds ih =>
  intro ρ hp
  obtain⟨fl,ρ1,e1,hf,hp1⟩:=h d ds ρ hp
  obtain⟨ρ2,e2,hp2⟩:=ih hp1
  refine⟨ρ2,bs e1 ?_,hp2⟩
  rcases hf with rfl | rfl
  ·exact e2
  ·exact e2
theorem iG{step:PyData->DEnv->Option (List PyData × DEnv)}(P:List PyData->List PyData->DEnv->Prop)(h:∀d ds out ρ,P (d::ds) out ρ->∃o ρ',step d ρ=some (o,ρ')/\P ds (out++o) ρ'):∀{ds out:List PyData} {ρ:DEnv},P ds out ρ->∃out' ρ',aW step ds out ρ=some (out',ρ')/\P [] out' ρ':=by
 intro ds
 induction ds with
 | nil=>exact fun {out ρ} hp=>⟨out,ρ,rfl,hp⟩
 | cons d ds ih =>
  intro out ρ hp
  obtain⟨o,ρ1,e1,hp1⟩:=h d ds out ρ hp
  obtain⟨out',ρ2,e2,hp2⟩:=ih hp1
  exact⟨out',ρ2,bs e1 e2,hp2⟩
theorem af{p:Pg}{n j:Nat}{fn:Fn}{xs:List OD}{ρ:DEnv}{r:OD}{ys:List OD}(hf:p.F j=some fn)(hl:xs.length=fn.io.length)(h:aN (p.ct n) fn.body (dG fn.n xs)=some (.rt r,ρ))(ho:aU 0 fn.io xs ρ=some ys):p.call (n + 1) j xs=some (r,ys):=by
 rw[Pg.call_succ,hf]
 show (if xs.length=fn.io.length then uP (p.ct n) fn xs else none)=_
 rw[if_pos hl]
 exact bs h (bs ho rfl)
theorem vI{n k:Nat}(h:k < n):ixN n (k:Int)=some k:=by
 unfold ixN
 rw[if_pos (by omega),if_pos (by omega)];rfl
theorem bF{α:Type}{xs:List α}{k:Nat}{x:α}(h:xs[k]?=some x):atI xs (k:Int)=some x:=bs (vI (aau.mp h).1) h
theorem fU{α:Type}{xs:List α}{i:Int}(h0:0<=i)(h1:i < xs.length):∃x,x∈xs/\atI xs i=some x:=by
 have e:i=(i.toNat:Int):=by omega
 have hl:i.toNat < xs.length:=by omega
 refine⟨xs[i.toNat],List.getElem_mem hl,?_⟩
 have:=bF (aan hl)
 rw[<- e]at this
 exact this
section
variable{ρ:DEnv}{ds:List PyData}{d:PyData}{i:Int}{xs:List OD}{x:OD}
theorem bC(h:atI ds i=some d):bV ρ (.val (.fz (.list ds))) i=some (.fz d,ρ):=by simp only[bV,itemO,h]
theorem aM(h:atI ds i=some d):bV ρ (.val (.fz (.tuple ds))) i=some (.fz d,ρ):=by simp only[bV,itemO,h]
theorem cV(h:atI xs i=some x):bV ρ (.val (.lst xs)) i=some (x,ρ):=by simp only[bV,itemO,h]
end
end L2
namespace Np
open PySem L2
def top(i:Nat):Stmt:=PySem.Challenge.pw_nearpool_k14_plans_looked_at.main.body.getD i (.Pass ⟨0,0,0,0⟩)
abbrev efu:Es:=.cons (.nm 8) .nil
abbrev eft:Es:=.cons (.nm 9) .nil
abbrev efs:S':=.set 3 (.lst .nil)
abbrev efr:Es:=.cons (.nm 2) .nil
abbrev efq:Es:=.cons (.nm 5) .nil
abbrev efp:E:=.isi .list (.nm 0)
abbrev efo:Es:=.cons (.nm 3) .nil
abbrev efn:Es:=.cons (.nm 7) .nil
abbrev efm:Es:=.cons (.nm 6) .nil
abbrev efl:Es:=.cons (.nm 0) .nil
abbrev efk:Es:=.cons (.nm 1) .nil
abbrev Cv:E:=.ix (.nm 2) (.nm 0)
abbrev Er:Es:=.cons (.int 2) .nil
abbrev efh:Es:=.cons (.int 0) .nil
abbrev Et:E:=.ix (.nm 0) (.nm 2)
abbrev eff:E:=.ix (.nm 5) (.int 1)
abbrev efe:E:=.ix (.nm 5) (.int 0)
abbrev efd:E:=.ix (.nm 2) (.int 0)
abbrev efc:E:=.ix (.nm 3) (.int 1)
abbrev efb:E:=.ix (.nm 0) (.int 1)
abbrev efa:E:=.ix (.nm 1) (.int 0)
abbrev ee9:E:=.ix (.nm 0) (.int 2)
abbrev ee8:E:=.ix (.nm 0) (.int 0)
abbrev ER:E:=.cat (.nm 11) (.nm 9)
abbrev ES:E:=.cat (.nm 9) (.nm 11)
abbrev ee5:S':=.set 4 (.neg (.int 1))
abbrev ET:E:=.din false (.nm 7) 3 []
abbrev ee3:S':=.asg (.tp [8,9]) (.nm 5)
abbrev ee2:E:=.cmp .eq (.nm 7) (.nm 6)
abbrev ee1:Es:=.cons (.str "stop") .nil
abbrev ee0:S':=.asg (.tp [4,5]) (.nm 3)
abbrev eez:S':=.asg (.tp [3,4]) (.nm 0)
abbrev eey:S':=.asg (.tp [2,3]) (.nm 0)
abbrev CW:E:=.cmp .nin (.nm 0) (.nm 1)
abbrev eew:E:=.cmp .eq (.nm 10) (.nm 8)
abbrev eev:E:=.cmp .nin (.nm 8) (.nm 6)
abbrev eeu:E:=.cmp .nin (.nm 5) (.nm 3)
abbrev eet:E:=.cmp .eq (.nm 6) (.int 0)
abbrev ees:E:=.not (.isi .list (.nm 5))
abbrev eer:E:=.not efp
abbrev eeq:E:=.cmp .inn (.nm 2) (.nm 1)
abbrev eep:E:=.not (.isi .bool (.nm 15))
abbrev EU:E:=.bop .sub (.nm 6) (.int 1)
abbrev een:Es:=.cons (.int 99999999) .nil
abbrev eem:E:=.not (.isi .tuple (.nm 3))
abbrev eel:It':=.seq (.ix (.nm 3) (.int 0))
abbrev eek:E:=.lset eff
abbrev eej:Ss:=.cons (.ret (.bl true)) .nil
abbrev EV:E:=.call 2 efl
abbrev eeh:E:=.call 9 efl
abbrev eeg:E:=.call 1 efk
abbrev EW:E:=.call 21 efr
abbrev EX:E:=.call 22 efl
abbrev eed:S':=.set 4 efe
abbrev eec:S':=.set 3 (.bnw .sorted (.nm 3))
abbrev vJ:E:=.call 22 efk
abbrev eea:Ss:=.cons (.ret (.bl false)) .nil
abbrev ed9:E:=.blt .len eft
abbrev EY:E:=.blt .len efr
abbrev ed7:E:=.blt .abs efr
abbrev EZ:E:=.blt .len efq
abbrev ed5:E:=.blt .len efo
abbrev ed4:E:=.blt .len efl
abbrev ed3:E:=.blt .len efk
abbrev ed2:Es:=.cons Et .nil
abbrev ed1:Es:=.cons (.nm 2) efo
abbrev ed0:E:=.isi .tuple eff
abbrev edz:E:=.ix (.ix (.nm 1) (.nm 4)) (.int 2)
abbrev edy:Es:=.cons (.nm 6) efn
abbrev edx:Es:=.cons (.nm 4) efq
abbrev edw:Es:=.cons (.nm 7) efm
abbrev edv:Es:=.cons (.nm 0) efk
abbrev edu:E:=.sll (.nm 8) (.some (.int 1)) .none
abbrev edt:E:=.sll (.nm 9) (.some (.int 1)) .none
abbrev E1:It':=.zip (.nm 6) (.ix (.nm 2) (.int 1))
abbrev edr:It':=.zip (.nm 6) efc
abbrev edq:It':=.zip (.nm 7) efc
abbrev edp:E:=.not (.call 8 efo)
abbrev edo:E:=.sll (.nm 0) (.some (.int 1)) .none
abbrev edn:E:=.not (.call 8 efl)
abbrev edm:E:=.cmp2 .le .le (.nm 1) (.nm 0) (.nm 2)
abbrev edl:S':=.set 3 (.call 19 efr)
abbrev edk:E:=.bop .sub (.nm 0) (.ix (.nm 3) (.nm 1))
abbrev edj:Es:=.cons (.bop .add (.nm 1) (.int 1)) .nil
abbrev edi:Es:=.cons (.str "tell") efm
abbrev edh:E:=.cat (.nm 9) (.lst efh)
abbrev edg:E:=.not ed0
abbrev edf:E:=.bop .sub (.int 0) (.ix (.nm 2) (.int 1))
abbrev ede:Es:=.cons (.call 18 efl) .nil
abbrev Eu:Es:=.cons ed4 .nil
abbrev edc:It':=.zip EV (.nm 4)
abbrev edb:E:=.cmp .le (.bop .sub (.nm 2) (.nm 1)) (.nm 4)
abbrev eda:E:=.cmp .le (.bop .sub (.nm 1) (.nm 2)) (.nm 3)
abbrev ec9:E:=.call 0 (.cons (.nm 0) (.cons (.gc 2) .nil))
abbrev ec8:E:=.cmp .eq ee8 (.str "set")
abbrev E2:E:=.call 20 ed1
abbrev ec6:E:=.blt .len (.cons eff .nil)
abbrev ec5:E:=.call 10 edv
abbrev ec4:E:=.call 17 (.cons (.nm 0) Er)
abbrev ec3:E:=.call 17 (.cons (.nm 0) (.cons (.int 3) .nil))
abbrev ec2:E:=.call 17 (.cons (.nm 0) (.cons (.int 5) .nil))
abbrev ec1:E:=.call 17 (.cons (.nm 0) (.cons (.int 4) .nil))
abbrev ec0:E:=.call 17 (.cons (.nm 0) (.cons (.int 80) .nil))
abbrev ecz:E:=.call 17 (.cons (.nm 0) (.cons (.int 12) .nil))
abbrev E3:Es:=.cons (.nm 5) (.cons (.bnw .tuple (.nm 9)) .nil)
abbrev ecx:E:=.ix (.ix efd (.nm 1)) (.int 1)
abbrev E4:E:=.cmp .lt (.nm 6) ed4
abbrev ecv:E:=.cmp .lt (.nm 7) ed4
abbrev Ew:E:=.bop .sub (.nm 1) ed4
abbrev ect:Es:=.cons (.nm 3) edx
abbrev ecs:It':=.zip (.nm 0) edo
abbrev E5:Es:=.cons (.nm 3) (.cons (.nm 4) (.cons (.nm 13) .nil))
abbrev E6:E:=.bop .add ed9 (.int 1)
abbrev Ex:E:=.bop .sub (.int 100) ed9
abbrev eco:E:=.blt .int (.cons (.cmp .ne (.nm 2) (.lst .nil)) .nil)
abbrev ecn:It':=.seq (.tup (.cons (.int 100) (.cons (.int 101) .nil)))
abbrev ecl:S':=.set 2 (.call 16 edv)
abbrev eck:E:=.cmp .nin edz (.nm 9)
abbrev ecj:E:=.cmp .lt ee8 efa
abbrev eci:E:=.cmp .eq (.lset (.nm 3)) ed5
abbrev ech:It':=.rg1 (.bop .add ed4 (.int 1))
abbrev ecg:Es:=.cons (.nm 0) (.cons ed3 .nil)
abbrev E7:E:=.comp 1 [] (.seq (.nm 3)) (.nm 0) .none efp
abbrev ece:E:=.call 30 ect
abbrev ecd:S':=.app 7 (.tup E3)
abbrev ecc:E:=.sht (.lst E5)
abbrev ecb:E:=.blt .mxl (.cons (.cat (.nm 7) (.lst efh)) .nil)
abbrev eca:E:=.cmp .eq ec1 (.int 0)
abbrev eb9:E:=.cmp .eq (.call 17 (.cons (.nm 0) (.cons (.int 24) .nil))) (.int 0)
abbrev E8:Es:=.cons (.nm 3) (.cons (.nm 4) (.cons (.nm 12) (.cons (.nm 13) .nil)))
abbrev E9:E:=.comp 1 [] (.seq (.nm 7)) (.nm 0) .none (.bop .sub (.int 0) (.nm 0))
abbrev eb6:E:=.call 0 ecg
abbrev eb5:E:=.call 17 (.cons (.nm 1) (.cons EY .nil))
abbrev Fb:E:=.comp 1 [] (.seq (.nm 3)) (.nm 0) .none eeh
abbrev eb3:E:=.not (.cmp2 .le .le (.int 1) ed5 (.gc 1))
abbrev eb2:E:=.blt .min (.cons (.int 8) Eu)
abbrev eb1:E:=.call 28 (.cons (.nm 0) (.cons (.int 100) een))
abbrev eb0:E:=.not (.call 0 (.cons (.nm 2) edj))
abbrev Fc:Es:=.cons (.nm 0) (.cons (.call 29 (.cons (.nm 1) efr)) .nil)
abbrev eby:S':=.set 14 ecc
abbrev ebx:E:=.not (.call 11 (.cons (.nm 4) Eu))
abbrev ebw:E:=.sll (.nm 2) .none (.some Ew)
abbrev ebv:S':=.sdc 3 2 [] (.seq (.nm 2)) (.tp [0,1]) (.nm 0) ed3
abbrev ebu:S':=.asg (.tp [6,7]) ece
abbrev ebt:S':=.asg (.tp [5,6,7]) (.call 7 (.cons (.nm 0) (.cons (.nm 1) efo)))
abbrev ebs:E:=.cmp .nin (.ix (.ix (.nm 0) (.nm 8)) (.int 2)) (.ix (.ix (.nm 3) (.nm 9)) (.int 1))
abbrev ebr:E:=.cmp .ne ecc (.nm 14)
abbrev Fd:E:=.comp 2 [] (.enm (.nm 1)) (.tp [0,1]) (.some vJ) (.nm 0)
abbrev ebp:E:=.cmp .inn efa (.tup (.cons (.str "go") (.cons (.str "nil") .nil)))
abbrev ebo:E:=.cmp .ne eek ec6
abbrev ebn:E:=.not (.cmp2 .le .le (.int 1) ec6 (.int 100))
abbrev Fe:E:=.comp 1 [1] (.seq (.nm 0)) (.nm 0) .none ec5
abbrev ebl:S':=.set 15 (.call 14 E8)
abbrev ebk:E:=.cmp .ne (.blt .len (.cons efc .nil)) (.blt .len efm)
abbrev ebj:E:=.and eew eck
abbrev ebi:S':=.set 6 (.comp 1 [] (.seq (.nm 0)) (.nm 0) (.some EX) (.nm 0))
abbrev ebh:E:=.not (.call 12 (.cons (.nm 2) (.cons (.ix (.nm 5) (.nm 8)) (.cons (.ix (.nm 6) (.nm 9)) .nil))))
abbrev Fg:Es:=.cons (.nm 6) (.cons (.blt .max (.cons (.int 6) (.cons (.bop .sub (.nm 7) (.int 1)) .nil))) .nil)
abbrev Fh:Es:=.cons (.blt .max (.cons (.int 0) (.cons EU .nil))) efn
abbrev ebe:E:=.cmp .ne EZ (.blt .len (.cons EV .nil))
abbrev ebd:E:=.cmp .ne (.nm 15) (.call 27 E8)
abbrev Fi:E:=.or eev eca
abbrev ebb:S':=.set 5 (.call 17 (.cons (.nm 0) (.cons (.bop .add ed3 (.int 1)) .nil)))
abbrev eba:S':=.set 2 (.frz Fd)
abbrev Fj:E:=.comp 1 [9] (.rg2 (.int 50000000) (.int 50000100)) (.nm 0) (.some CW) (.nm 0)
abbrev ea8:E:=.not (.blt .all (.cons Fb .nil))
abbrev ea7:E:=.or eb0 eem
abbrev ea6:S':=.set 6 (.comp 2 [3] (.enm (.nm 0)) (.tp [0,1]) (.some vJ) Cv)
abbrev ea5:S':=.set 7 (.comp 2 [4] (.enm (.nm 0)) (.tp [0,1]) (.some vJ) Cv)
abbrev ea4:S':=.set 2 (.comp 1 [0] (.rg2 (.int 70000000) (.int 70000101)) (.nm 0) (.some CW) (.nm 0))
abbrev Fk:Es:=.cons (.nm 0) (.cons (.int 0) (.cons (.bop .sub (.blt .len (.cons efa .nil)) (.int 1)) .nil))
abbrev Fm:E:=.comp 1 [4] (.seq (.nm 5)) (.nm 0) .none eb6
abbrev ea1:E:=.call 14 (.cons (.nm 3) (.cons (.nm 4) (.cons (.tup edy) efq)))
abbrev ea0:E:=.bop .add eco ec1
abbrev Fo:E:=.comp 1 [0,3] (.seq (.nm 2)) (.nm 0) .none eb5
abbrev eay:S':=.set 7 (.comp 2 [4] E1 (.tp [0,1]) .none (.bop .sub (.nm 0) (.ix (.nm 2) (.nm 1))))
abbrev eax:E:=.not (.blt .all (.cons Fe .nil))
abbrev eaw:E:=.cmp .nin (.ix (.ix (.nm 0) EU) (.int 0)) (.tup (.cons (.str "go") ee1))
abbrev eav:S':=.par [4,5] (.cons E2 (.cons (.call 25 ed1) .nil))
abbrev eau:E:=.comp 2 [11] (.seq (.nm 8)) (.tp [0,1]) .none (.tup Fc)
abbrev eat:E:=.blt .mxl (.cons (.cat E9 (.lst (.cons (.int 6) .nil))) .nil)
abbrev Fq:E:=.comp 1 [] (.seq eff) (.nm 0) .none eb1
abbrev ear:E:=.isb true true ea1
abbrev eaq:S':=.set 6 (.frz Fo)
abbrev eap:S':=.set 9 (.ix (.lst (.cons ES (.cons ER .nil))) ec4)
abbrev eao:S':=.ins 9 (.call 17 (.cons (.nm 0) (.cons E6 .nil))) edz
abbrev ean:E:=.ix (.lst (.cons (.bl false) (.cons (.cmp .eq (.call 17 (.cons (.nm 2) Er)) (.int 0)) (.cons (.bl true) .nil)))) (.nm 1)
abbrev eam:E:=.not (.blt .all (.cons Fm .nil))
abbrev eal:E:=.not (.blt .all (.cons Fq .nil))
abbrev eak:E:=.sll Fj .none (.some Ex)
abbrev eaj:S':=.set 9 (.ife Fi (.lst ede) (.lst .nil))
abbrev Fs:E:=.comp 1 [3] (.seq efc) (.nm 0) .none (.call 28 Fk)
abbrev eah:E:=.or eem (.or (.cmp .ne ed5 (.int 2)) (.not (.blt .all (.cons E7 .nil))))
abbrev eag:S':=.set 11 eak
abbrev eaf:Ss:=.cons (.iff E4 (.cons (.app 3 (.nm 5)) (.cons (.set 5 (.bop .add (.nm 5) (.call 23 (.cons (.nm 0) (.cons (.nm 1) efm))))) .nil)) .nil) .nil
abbrev eae:Ss:=.cons (.set 5 (.bop .sub (.bop .add (.nm 5) (.int 2)) (.bop .mod (.nm 5) (.int 2)))) (.cons (.app 4 (.nm 5)) (.cons (.set 5 (.bop .add (.nm 5) (.bop .mul (.int 2) (.blt .len efu)))) .nil))
abbrev ead:E:=.not (.blt .all (.cons Fs .nil))
abbrev eac:S':=.iff ET (.cons (.app 5 (.call 6 (.cons (.nm 0) edw))) (.cons (.set 6 (.bop .add (.ix (.nm 5) (.neg (.int 1))) (.bop .mul (.gc 4) (.pg 3 [.key 7])))) .nil)) .nil
abbrev eab:E:=.or (.not (.isi .tuple (.nm 5))) (.or (.cmp .ne EZ (.int 2)) (.not (.call 28 (.cons efe (.cons (.bop .add (.nm 4) (.int 1)) Eu)))))
abbrev eaa:It':=.seq (.tup (.cons EW (.cons (.tup edy) (.cons (.tup Fh) (.cons (.tup Fg) .nil)))))
def az:Fn:=⟨[false,false],2,(.cons (.iff (.or (.isi .bool (.nm 0)) (.not (.isi .int (.nm 0)))) eea .nil) (.cons (.ret (.cmp2 .le .lt (.int 0) (.nm 0) (.nm 1))) .nil))⟩
def gI:Fn:=⟨[false],1,(.cons (.ret (.and ec8 (.cmp .gt ee9 (.gc 0)))) .nil)⟩
def kB:Fn:=⟨[false],1,(.cons (.ret (.comp 2 [] (.enm (.nm 0)) (.tp [0,1]) (.some eeg) (.nm 0))) .nil)⟩
def vK:Fn:=⟨[false],1,(.cons (.ret (.and (.cmp .ne ee8 (.str "go")) (.cmp .ne ee8 (.str "stop")))) .nil)⟩
def oY:Fn:=⟨[false,false,false],3,(.cons (.ret (.ife (.or (.call 1 ed2) eeq) (.int 2) (.int 1))) .nil)⟩
def lN:Fn:=⟨[false,false],2,(.cons (.ret (.or (.cmp .eq (.nm 1) (.int 0)) (.call 3 (.cons (.ix (.nm 0) (.bop .sub (.nm 1) (.int 1))) .nil)))) .nil)⟩
def jx:Fn:=⟨[false,false,false],3,(.cons (.iff (.call 5 edv) (.cons (.aug 2 .add (.gc 3)) .nil) .nil) (.cons (.ret (.bop .sub (.bop .add (.nm 2) (.int 2)) (.bop .mod (.nm 2) (.int 2)))) .nil))⟩
def F_placed:Fn:=⟨[false,false,false],8,(.cons ebv (.cons (.set 4 (.lst .nil)) (.cons (.set 5 (.lst .nil)) (.cons (.set 6 (.int 0)) (.cons (.fr (.nm 7) ech (.cons eac (.cons (.iff ecv (.cons (.app 4 (.nm 6)) (.cons (.aug 6 .add (.call 4 (.cons (.nm 0) (.cons (.nm 1) efn)))) .nil)) .nil) .nil))) (.cons (.ret (.tup (.cons (.nm 4) (.cons (.nm 5) efm)))) .nil))))))⟩
def oZ:Fn:=⟨[false],1,(.cons (.ret (.and (.isi .tuple (.nm 0)) (.cmp .eq ed4 (.int 2)))) .nil)⟩
def kC:Fn:=⟨[false],1,(.cons (.ret (.and ec9 (.cmp .gt (.nm 0) (.gc 0)))) .nil)⟩
def F_is_pool:Fn:=⟨[false,false],4,(.cons (.iff edn eea .nil) (.cons eey (.cons (.iff ea7 eea .nil) (.cons (.iff (.or eb3 ea8) eea .nil) (.cons (.ret eci) .nil)))))⟩
def F_is_pools:Fn:=⟨[false,false],2,(.cons (.iff (.or eer eax) eea .nil) (.cons (.ret (.blt .all (.cons (.comp 2 [] ecs (.tp [0,1]) .none ecj) .nil))) .nil))⟩
def pb:Fn:=⟨[false,false,false],5,(.cons eez (.cons (.ret (.and eda edb)) .nil))⟩
def F_all_served:Fn:=⟨[false,false,false,false,false],10,(.cons ebt (.cons (.fr (.tp [8,9]) edc (.cons (.iff (.or ebs ebh) eea .nil) .nil)) eej))⟩
def F_is_plan:Fn:=⟨[false,false,false,false],6,(.cons (.iff edp eea .nil) (.cons ee0 (.cons (.iff (.or ebx ees) eea .nil) (.cons (.iff (.or ebe eam) eea .nil) (.cons (.ret (.call 13 (.cons (.nm 0) (.cons (.nm 1) (.cons (.nm 2) edx))))) .nil)))))⟩
def fG:Fn:=⟨[false,false],2,(.cons (.ret (.ife (.cmp .lt (.nm 1) ed4) (.ix (.nm 0) (.nm 1)) (.int 0))) .nil)⟩
def sr:Fn:=⟨[false,false],3,(.cons (.set 2 (.call 15 edv)) (.cons (.ret (.lst (.cons (.bop .mul ed7 (.blt .int (.cons (.cmp .ge ed7 (.bop .pow (.int 10) (.int 18))) .nil))) (.cons (.bop .mod (.bop .mul (.bop .add (.bop .add (.bop .mod (.nm 2) (.int 2147483647)) (.bop .mul (.int 7121) (.nm 1))) (.int 43)) (.int 48271)) (.int 2147483629)) efh)))) .nil))⟩
def lO:Fn:=⟨[true,false],4,(.cons (.iff (.cmp .gt ee8 (.int 0)) (.cons (.set 2 (.bop .mod ee8 (.nm 1))) (.cons (.sti 0 (.int 0) (.bop .fdiv ee8 (.nm 1))) (.cons (.ret (.nm 2)) .nil))) .nil) (.cons (.sti 0 (.int 2) (.bop .add ee9 (.int 1))) (.cons (.set 3 (.bop .mod (.bop .mul (.bop .add efb (.bop .mul (.int 39373) ee9)) (.bop .add (.int 48271) ee9)) (.int 2147483647))) (.cons (.sti 0 (.int 1) (.bop .mod (.bop .add (.bop .mul (.nm 3) (.bop .add (.bop .mod (.nm 3) (.int 40009)) (.int 7))) ee9) (.int 2147483629))) (.cons (.ret (.bop .mod (.bop .fdiv (.bop .mod (.bop .mul efb (.bop .add (.bop .mod efb (.int 1009)) (.int 3))) (.int 998244353)) (.int 7)) (.nm 1))) .nil)))))⟩
def m9:Fn:=⟨[true],3,(.cons (.set 1 ec1) (.cons (.set 2 (.bop .add (.int 100) (.call 17 (.cons (.nm 0) (.cons (.int 99999900) .nil))))) (.cons (.ret (.ix (.lst (.cons (.ix (.lst (.cons (.int 100) (.cons (.int 101) (.cons (.int 12345) (.cons (.int 10000) (.cons (.int 9999) .nil)))))) ec2) (.cons (.bop .add (.int 100) (.call 17 (.cons (.nm 0) (.cons (.int 6) .nil)))) (.cons (.nm 2) een)))) (.nm 1))) .nil)))⟩
def F_rows:Fn:=⟨[true],11,(.cons (.set 1 (.ife (.cmp .eq (.call 17 (.cons (.nm 0) (.cons (.int 8) .nil))) (.int 0)) (.bop .add (.int 20) (.call 17 (.cons (.nm 0) (.cons (.int 41) .nil)))) (.call 17 (.cons (.nm 0) (.cons (.int 11) .nil))))) (.cons (.set 2 (.ix (.lst (.cons (.int 2) (.cons (.int 5) (.cons (.int 9) .nil)))) ec3)) (.cons efs (.cons (.fr (.nm 4) (.rg1 (.nm 1)) (.cons (.par [5,6] (.cons (.call 17 (.cons (.nm 0) (.cons (.int 10) .nil))) (.cons ec2 .nil))) (.cons (.iff (.cmp .lt (.nm 5) (.nm 2)) (.cons (.app 3 (.tup (.cons (.str "set") (.cons (.nm 6) ede)))) (.cons (.cont) .nil)) .nil) (.cons (.set 5 (.call 17 (.cons (.nm 0) (.cons (.int 9) .nil)))) (.cons (.par [7,8] (.cons ec2 (.cons (.call 17 (.cons (.nm 0) edj)) .nil))) (.cons (.set 9 (.blt .max (.cons (.int 0) (.cons (.blt .min (.cons (.nm 1) (.cons (.bop .sub (.bop .add (.nm 4) (.call 17 (.cons (.nm 0) (.cons (.int 7) .nil)))) (.int 2)) .nil))) .nil)))) (.cons (.set 10 (.lst (.cons (.tup (.cons (.str "set") (.cons (.nm 6) (.cons (.call 17 (.cons (.nm 0) (.cons (.int 100) .nil))) .nil)))) (.cons (.tup (.cons (.str "sum") edy)) (.cons (.tup (.cons (.str "less") edy)) (.cons (.tup edi) (.cons (.tup (.cons (.str "go") eft)) .nil))))))) (.cons (.set 10 (.cat (.nm 10) (.lst (.cons (.tup (.cons (.str "nil") (.cons (.nm 6) eft))) (.cons (.tup (.cons (.str "nil") (.cons (.nm 6) efu))) (.cons (.tup edi) (.cons (.ix (.lst (.cons (.tup (.cons (.str "go") efu)) (.cons (.tup ee1) .nil))) ec4) .nil))))))) (.cons (.app 3 (.ix (.nm 10) (.nm 5))) .nil))))))))) (.cons (.ret (.nm 3)) .nil)))))⟩
def nh:Fn:=⟨[true,false],4,(.cons (.set 2 ec3) (.cons (.set 3 (.comp 2 [] (.enm (.nm 1)) (.tp [0,1]) (.some ebp) (.nm 0))) (.cons (.ret (.comp 1 [2,0] (.seq (.nm 3)) (.nm 0) (.some ean) (.nm 0))) .nil)))⟩
def ni:Fn:=⟨[true],3,(.cons (.set 1 (.bop .sub (.int 4999) (.bop .mul ec4 (.call 17 (.cons (.nm 0) (.cons (.int 4990) .nil)))))) (.cons (.set 2 (.ix (.lst (.cons (.int 0) (.cons (.bop .add (.int 1) ecz) (.cons ec0 efk)))) ec1)) (.cons (.ret (.tup (.cons (.nm 2) (.cons (.ix (.lst (.cons (.int 6) (.cons (.bop .add (.int 7) ecz) (.cons (.bop .add (.int 6) ec0) efk)))) ec1) .nil)))) .nil)))⟩
def eM:Fn:=⟨[false],1,(.cons (.ret (.and ec8 (.cmp .gt ee9 (.int 99)))) .nil)⟩
def zx:Fn:=⟨[false,false,false],3,(.cons (.ret (.ife (.or (.call 22 ed2) eeq) (.int 2) (.int 1))) .nil)⟩
def lP:Fn:=⟨[false,false,false],9,(.cons (.par [3,4,5] (.cons (.lst .nil) (.cons (.lst .nil) efh))) (.cons (.fr (.nm 6) ech (.cons (.fr (.tp [7,8]) (.seq (.nm 2)) (.cons (.iff ee2 (.cons (.set 5 (.bop .add (.nm 5) (.bop .mul (.int 2) (.blt .int (.cons (.or eet eaw) .nil))))) eae) .nil) .nil)) eaf)) (.cons (.ret (.tup ect)) .nil)))⟩
def F_any_plan:Fn:=⟨[true,false],12,(.cons eba (.cons efs (.cons (.fr (.nm 4) (.rg1 ea0) (.cons ebb (.cons (.iff eeu (.cons (.app 3 (.nm 5)) .nil) .nil) .nil))) (.cons eec (.cons eaq (.cons (.set 7 (.lst .nil)) (.cons (.fr (.tp [8,5]) (.enm (.nm 3)) (.cons eaj (.cons (.fr (.tp [4,10]) (.zip (.nm 2) (.nm 6)) (.cons (.iff ebj (.cons eao .nil) .nil) .nil)) (.cons (.iff eb9 (.cons eag (.cons eap .nil)) .nil) (.cons ecd .nil))))) (.cons (.ret (.tup edw)) .nil))))))))⟩
def fK:Fn:=⟨[false,false,false,false],8,(.cons (.asg (.tp [4,5,6]) (.call 24 (.cons (.nm 0) (.cons (.nm 1) (.cons (.ix (.nm 3) (.int 0)) .nil))))) (.cons ea5 (.cons (.ret (.blt .all (.cons (.comp 2 [2,5] edq (.tp [0,1]) .none (.cmp2 .le .le edf edk efd)) .nil))) .nil)))⟩
def F_l_is_plan:Fn:=⟨[false,false,false,false],7,(.cons (.iff eah eea .nil) (.cons ee5 (.cons (.fr (.nm 5) eel (.cons (.iff eab eea .nil) (.cons eed (.cons (.iff (.or edg ebn) eea .nil) (.cons (.iff eal eea .nil) (.cons (.iff ebo eea .nil) .nil)))))) (.cons ebi (.cons (.iff (.or ebk ead) eea .nil) (.cons (.iff (.not (.blt .all (.cons (.comp 2 [3] edr (.tp [0,1]) .none (.cmp .inn ee9 ecx)) .nil))) eea .nil) (.cons (.ret (.call 26 (.cons (.nm 0) (.cons (.nm 1) ed1)))) .nil)))))))⟩
def pd:Fn:=⟨[false,false,false],3,(.cons (.ret (.and (.isi .int (.nm 0)) (.and (.not (.isi .bool (.nm 0))) edm))) .nil)⟩
def kD:Fn:=⟨[false,false],3,(.cons ea4 (.cons (.ret (.catU (.nm 0) (.bnw .tuple ebw))) .nil))⟩
def iH:Fn:=⟨[false,false,false],8,(.cons (.asg (.tp [3,4,5]) (.call 24 (.cons (.nm 0) (.cons (.nm 1) (.cons efd .nil))))) (.cons ea6 (.cons eay (.cons (.ret (.tup (.cons ecb (.cons eat .nil)))) .nil))))⟩
def F_law:Fn:=⟨[false],16,(.cons (.fr (.nm 1) (.rg1 (.bop .add (.int 1) eb2)) (.cons ecl (.cons edl (.cons eav (.cons ebu (.cons ee3 (.cons (.set 10 (.lst (.cons (.nm 5) (.cons (.frz (.tup (.cons (.rvs (.nm 8)) eft))) (.cons (.frz (.tup (.cons (.nm 8) (.cons edh .nil)))) (.cons (.frz (.tup (.cons (.nm 8) (.cons edt .nil)))) (.cons (.frz (.tup (.cons edu eft))) (.cons (.frz (.tup (.cons (.lst .nil) eft))) .nil)))))))) (.cons (.fr (.nm 11) ecn (.cons (.app 10 (.frz (.tup (.cons eau eft)))) .nil)) (.cons (.fr (.nm 12) eaa (.cons (.fr (.nm 13) (.seq (.nm 10)) (.cons eby (.cons ebl (.cons (.iff (.or eep ebd) eea .nil) (.cons (.iff ebr eea .nil) .nil))))) .nil)) (.cons (.iff ear eea .nil) .nil)))))))))) eej)⟩
def ck:Df:=⟨"is_number_below","is_number_below",top 3,["thing","limit"],["thing","limit"],az⟩
def gJ:Df:=⟨"is_great","is_great",top 4,["row"],["row"],gI⟩
def fL:Df:=⟨"greats_of","greats_of",top 5,["rows"],["rows"],kB⟩
def nj:Df:=⟨"falls","falls",top 6,["row"],["row"],vK⟩
def iI:Df:=⟨"size_of","size_of",top 11,["rows","longs","at"],["rows","longs","at"],oY⟩
def gK:Df:=⟨"has_over","has_over",top 12,["rows","gap"],["rows","gap"],lN⟩
def eN:Df:=⟨"first_word","first_word",top 13,["rows","gap","place"],["rows","gap","place"],jx⟩
def kE:Df:=⟨"placed","placed",top 14,["rows","longs","pools"],["rows","longs","pools","words","places","begins","place","gap"],F_placed⟩
def iJ:Df:=⟨"is_pair","is_pair",top 15,["thing"],["thing"],oZ⟩
def fM:Df:=⟨"is_pooled","is_pooled",top 16,["thing"],["thing"],kC⟩
def iK:Df:=⟨"is_pool","is_pool",top 17,["thing","many"],["thing","many","gap","numbers"],F_is_pool⟩
def gL:Df:=⟨"is_pools","is_pools",top 18,["thing","many"],["thing","many"],F_is_pools⟩
def iL:Df:=⟨"reaches","reaches",top 19,["reach","place","begin"],["reach","place","begin","back","ahead"],pb⟩
def eO:Df:=⟨"all_served","all_served",top 20,["rows","longs","reach","pools","uses"],["rows","longs","reach","pools","uses","places","begins","end","at","use"],F_all_served⟩
def iM:Df:=⟨"is_plan","is_plan",top 21,["rows","longs","reach","thing"],["rows","longs","reach","thing","pools","uses"],F_is_plan⟩
def iN:Df:=⟨"_law_cell_at","_law_cell_at",top 23,["_law_script","_law_k"],["_law_script","_law_k"],fG⟩
def su:Df:=⟨"_law_tape","_law_tape",top 24,["_law_script","_law_k"],["_law_script","_law_k","_law_cell"],sr⟩
def sv:Df:=⟨"_law_take","_law_take",top 25,["_law_tape_here","_law_many"],["_law_tape_here","_law_many","_law_found","_law_once"],lO⟩
def nk:Df:=⟨"_law_great","_law_great",top 26,["_law_tape_here"],["_law_tape_here","_law_way","_law_any_one"],m9⟩
def sx:Df:=⟨"_law_rows","_law_rows",top 27,["_law_tape_here"],["_law_tape_here","_law_many","_law_share","_law_made_rows","_law_number","_law_way","_law_r","_law_s","_law_t","_law_near","_law_some"],F_rows⟩
def nq:Df:=⟨"_law_longs","_law_longs",top 28,["_law_tape_here","_law_rows_here"],["_law_tape_here","_law_rows_here","_law_share","_law_jumps"],nh⟩
def nu:Df:=⟨"_law_reach","_law_reach",top 29,["_law_tape_here"],["_law_tape_here","_law_any_one","_law_back"],ni⟩
def eP:Df:=⟨"_law_is_great","_law_is_great",top 30,["_law_row"],["_law_row"],eM⟩
def sy:Df:=⟨"_law_size","_law_size",top 31,["_law_rows_here","_law_longs_here","_law_k"],["_law_rows_here","_law_longs_here","_law_k"],zx⟩
def gM:Df:=⟨"_law_placed","_law_placed",top 32,["_law_rows_here","_law_longs_here","_law_pools"],["_law_rows_here","_law_longs_here","_law_pools","_law_places","_law_begins","_law_place","_law_gap","_law_at","_law_numbers"],lP⟩
def gN:Df:=⟨"_law_any_plan","_law_any_plan",top 33,["_law_tape_here","_law_rows_here"],["_law_tape_here","_law_rows_here","_law_greats","_law_gaps","_law_k","_law_gap","_law_uses","_law_pools","_law_at","_law_numbers","_law_use","_law_more"],F_any_plan⟩
def fN:Df:=⟨"_law_reaches","_law_reaches",top 34,["_law_rows_here","_law_longs_here","_law_reach_here","_law_plan"],["_law_rows_here","_law_longs_here","_law_reach_here","_law_plan","_law_places","_law_begins","_law_end","_law_spots"],fK⟩
def fO:Df:=⟨"_law_is_plan","_law_is_plan",top 35,["_law_rows_here","_law_longs_here","_law_reach_here","_law_thing"],["_law_rows_here","_law_longs_here","_law_reach_here","_law_thing","_law_last","_law_pool","_law_greats"],F_l_is_plan⟩
def iO:Df:=⟨"_law_between","_law_between",top 36,["_law_thing","_law_low","_law_high"],["_law_thing","_law_low","_law_high"],pd⟩
def kF:Df:=⟨"_law_filled","_law_filled",top 37,["_law_numbers","_law_many"],["_law_numbers","_law_many","_law_more"],kD⟩
def iP:Df:=⟨"_law_just_so","_law_just_so",top 38,["_law_rows_here","_law_longs_here","_law_plan"],["_law_rows_here","_law_longs_here","_law_plan","_law_places","_law_begins","_law_end","_law_spots","_law_fars"],iH⟩
def D_law:Df:=⟨"law","law",top 39,["_law_script"],["_law_script","_law_k","_law_tape_here","_law_rows_here","_law_longs_here","_law_plan","_law_back","_law_ahead","_law_pools","_law_uses","_law_some","_law_many","_law_reach_here","_law_thing","_law_kept","_law_found"],F_law⟩
def pl:Pl where
 ds:=[(ck,.fn),(gJ,.fn),(fL,.fn),(nj,.fn),(iI,.fn),(gK,.fn),(eN,.fn),(kE,.fn),(iJ,.fn),(fM,.fn),(iK,.fn),(gL,.fn),(iL,.fn),(eO,.fn),(iM,.fn),(iN,.fn),(su,.fn),(sv,.fn),(nk,.fn),(sx,.fn),(nq,.fn),(nu,.fn),(eP,.fn),(sy,.fn),(gM,.fn),(gN,.fn),(fN,.fn),(fO,.fn),(iO,.fn),(kF,.fn),(iP,.fn),(D_law,.fn)]
 cs:=[("GREATEST_SMALL",.int 99),("MOST_WORDS",.int 100),("NUMBERS",.int 100000000),("OVER_CELLS",.int 2),("WORD_CELLS",.int 2)]
 nog:=["abs","all","bool","enumerate","int","isinstance","len","list","max","min","range","set","sorted","str","tuple","zip"]
 fld:=[]
abbrev Cw:Nat:=31
theorem Cz:(pl.ds.all fun z=>vH pl.tb z.1)=true:=by decide +kernel
abbrev It(i:Int):OD:=.fz (.int i)
abbrev Tp(a b c:Int):OD:=.lst [It a,It b,It c]
structure TpOk (b c:Int)(n:Nat):Prop where
 b0:0<=b
 b1:b < 2147483629
 c0:0<=c
 c1:c<=n
theorem dD{i j:Int}(h:(-(2 ^ 64) < i/\i < 2 ^ 64)\/(-(2 ^ 64) < j/\j < 2 ^ 64)):yO .mul (.int i) (.int j)=some (.int (i * j)):=bs rfl (bs rfl (bs (bg h rfl) rfl))
theorem cL{i j:Int}(h:0 < j):yO .mod (.int i) (.int j)=some (.int (i % j)):=bs rfl (bs rfl (bs (bg h rfl) rfl))
theorem wO{i j:Int}(h:0 < j/\j < 1073741824):yO .fdiv (.int i) (.int j)=some (.int (i / j)):=bs rfl (bs rfl (bs (bg h rfl) rfl))
theorem CA{x m:Int}(h0:0 < m)(h:m<=2 ^ 64):-(2 ^ 64) < x % m/\x % m < 2 ^ 64:=by
 have h1:=abu x (show m≠0 by omega)
 have h2:=abv x h0
 omega
theorem up{m a k b:Nat}(h:m<=a)(e:Nat.ble (a + k) b=true):m + k<=b:=aaq (acz h k) (aaD e)
theorem FT{m k b:Nat}(e:Nat.ble k b=true):m + k<=m + b:=ace (aaD e) m
theorem ax{n m:Nat}{a b c many:Int}(h:TpOk b c m)(hm:m<=1000000)(h0:0 < many)(h1:many < 1073741824):∃x a' b' c',pl.pg.call (n + 1) 17 [Tp a b c,It many]=some (It x,[Tp a' b' c',It many])/\0<=x/\x < many/\TpOk b' c' (m + 1):=by
 have hb:=h.b0
 have hb1:=h.b1
 have hc:=h.c0
 have hc1:=h.c1
 by_cases ha:0 < a
 ·refine⟨a % many,a / many,b,c,?_,abu _ (by omega),abv _ h0,⟨h.b0,h.b1,h.c0,by omega⟩⟩
  refine af (fn:=lO) (ρ:=[some (Tp (a / many) b c),some (It many),some (It (a % many)),none]) rfl rfl ?_ rfl
  refine aj (aC (aw (ar rfl rfl rfl rfl (show some (decide (0 < a))=some true by rw[Dac ha]))) ?_)
  refine ab (s_setQ (ai rfl rfl rfl rfl (cL h0)) rfl rfl rfl) ?_
  refine ab (lK (ai rfl rfl rfl rfl (wO ⟨h0,h1⟩)) rfl rfl rfl rfl rfl rfl rfl) rfl
 ·exact⟨_,a,_,c + 1,af (fn:=lO) rfl rfl (ab (aq (aw (ar rfl rfl rfl rfl (show some (decide (0 < a))=some false by rw[Dab ha]))) rfl) (ab (lK rfl rfl rfl rfl rfl rfl rfl rfl) (ab (s_setQ (ai (ai (ai rfl (ai rfl rfl rfl rfl (dD (.inl (by decide)))) rfl rfl rfl) (ai rfl rfl rfl rfl rfl) rfl rfl (dD (.inr (by omega)))) rfl rfl rfl (cL (by decide))) rfl rfl rfl) (ab (lK (ai (ai (ai rfl (ai (ai rfl rfl rfl rfl (cL (by decide))) rfl rfl rfl rfl) rfl rfl (dD (.inl (CA (by decide) (by decide))))) rfl rfl rfl rfl) rfl rfl rfl (cL (by decide))) rfl rfl rfl rfl rfl rfl rfl) (aj (ah (ai (ai (ai (ai rfl (ai (ai rfl rfl rfl rfl (cL (by decide))) rfl rfl rfl rfl) rfl rfl (dD (.inl (CA (by decide) (by decide))))) rfl rfl rfl (cL (by decide))) rfl rfl rfl (wO (by decide))) rfl rfl rfl (cL h0)) rfl)))))) rfl,abu _ (by omega),abv _ h0,⟨abu _ (by decide),abv _ (by decide),by omega,by omega⟩⟩
theorem zy{n:Nat}{ns:List Int}{k:Nat}:∃x,pl.pg.call (n + 1) 15 [.fz (.list (ns.map PyData.int)),It k]=some (It x,[.fz (.list (ns.map PyData.int)),It k]):=by
 by_cases hk:(k:Int) < ns.length
 ·have hk':k < ns.length:=by omega
  refine⟨ns[k],af (fn:=fG) rfl rfl (aj (ah (gD (aw (ar rfl rfl rfl rfl (k:=true) ?_)) (aO rfl rfl rfl (bC (bF (x:=.int ns[k]) ?_)))) rfl)) rfl⟩
  ·show some (decide ((k:Int) < ((ns.map PyData.int).length:Nat)))=some true
   rw[aaa,Dac hk]
  ·rw[aav,aan hk'];rfl
 ·refine⟨0,af (fn:=fG) rfl rfl (aj (ah (kA (aw (ar rfl rfl rfl rfl (k:=false) ?_)) rfl) rfl)) rfl⟩
  show some (decide ((k:Int) < ((ns.map PyData.int).length:Nat)))=some false
  rw[aaa,Dab hk]
theorem zz{n:Nat}{ns:List Int}{k:Nat}(hk:k<=8):∃a b,pl.pg.call (n + 2) 16 [.fz (.list (ns.map PyData.int)),It k]=some (Tp a b 0,[.fz (.list (ns.map PyData.int)),It k])/\TpOk b 0 0:=by
 obtain⟨x,hx⟩:=zy (n:=n) (ns:=ns) (k:=k)
 refine⟨_,_,af (fn:=sr) rfl rfl (ab (s_setQ (ae rfl rfl hx rfl) rfl rfl rfl) (aj (ah (e_lst (aa (ai rfl (au (aa (ar rfl (ai rfl rfl rfl rfl rfl) rfl rfl rfl) ag) rfl rfl) rfl rfl (dD (.inr ?_))) (aa (ai (ai (ai (ai (ai rfl rfl rfl rfl (cL (by decide))) (ai rfl rfl rfl rfl (dD (.inl (by decide)))) rfl rfl rfl) rfl rfl rfl rfl) rfl rfl rfl (dD (.inr (by decide)))) rfl rfl rfl (cL (by decide))) (aa rfl ag))) rfl rfl) rfl))) rfl,abu _ (by decide),abv _ (by decide),ab9 _,ab9 _⟩
 exact (show ∀q:Bool,-(2 ^ 64) < (if q=true then (1:Int) else 0)/\(if q=true then (1:Int) else 0) < 2 ^ 64 by decide) _
theorem eQ{ks:List Int}{i:Int}(h0:0<=i)(h1:i < ks.length):∃k,k∈ks/\atI (ks.map It) i=some (It k):=by
 obtain⟨x,hx,e⟩:=fU (xs:=ks.map It) h0 (by rw[aaa];exact h1)
 obtain⟨k,hk,rfl⟩:=aay.mp hx
 exact⟨k,hk,e⟩
theorem TpOk.up{b c:Int}{m m':Nat}(h:TpOk b c m)(hm:m<=m'):TpOk b c m':=⟨h.b0,h.b1,h.c0,by have:=h.c1;omega⟩
theorem nv{n m:Nat}{a b c:Int}(h:TpOk b c m)(hm:m<=900000):∃k a' b' c',pl.pg.call (n + 2) 18 [Tp a b c]=some (It k,[Tp a' b' c'])/\(100<=k/\k<=99999999)/\TpOk b' c' (m + 4):=by
 obtain⟨w,a1,b1,c1,e1,w0,w1,t1⟩:=ax (n:=n) (a:=a) (many:=4) h (up (k:=0) hm rfl) (by decide) (by decide)
 obtain⟨x2,a2,b2,c2,e2,x20,x21,t2⟩:=ax (n:=n) (a:=a1) (many:=99999900) t1 (up (k:=1) hm rfl) (by decide) (by decide)
 obtain⟨x3,a3,b3,c3,e3,x30,x31,t3⟩:=ax (n:=n) (a:=a2) (many:=5) t2 (up (k:=2) hm rfl) (by decide) (by decide)
 obtain⟨x4,a4,b4,c4,e4,x40,x41,t4⟩:=ax (n:=n) (a:=a3) (many:=6) t3 (up (k:=3) hm rfl) (by decide) (by decide)
 obtain⟨g,hg,eg⟩:=eQ (ks:=[100,101,12345,10000,9999]) x30 x31
 obtain⟨k,hk,ek⟩:=eQ (ks:=[g,100 + x4,100 + x2,99999999]) w0 w1
 refine⟨k,a4,b4,c4,af (fn:=m9) rfl rfl (ab (s_setQ (ae rfl rfl e1 rfl) rfl rfl rfl) (ab (s_setQ (ai rfl (ae rfl rfl e2 rfl) rfl rfl rfl) rfl rfl rfl) (aj (ah (aO (e_lst (aa (aO rfl (ae rfl rfl e3 rfl) rfl (cV eg)) (aa (ai rfl (ae rfl rfl e4 rfl) rfl rfl rfl) (aa rfl (aa rfl ag)))) rfl rfl) rfl rfl (cV ek)) rfl)))) rfl,?_,t4⟩
 have hg':100<=g/\g<=99999999:=(show ∀x∈[100,101,12345,10000,9999],(100:Int)<=x/\x<=99999999 by decide) g hg
 rcases aab.mp hk with rfl | hk
 ·exact hg'
 rcases aab.mp hk with rfl | hk
 ·omega
 rcases aab.mp hk with rfl | hk
 ·omega
 rw[aaB.mp hk]
 decide
theorem vL{n m:Nat}{a b c:Int}(h:TpOk b c m)(hm:m<=900000):∃r0 r1 a' b' c',pl.pg.call (n + 2) 21 [Tp a b c]=some (.fz (.tuple [.int r0,.int r1]),[Tp a' b' c'])/\TpOk b' c' (m + 8)/\6<=r1/\r1<=4999/\0<=r0/\r0<=4999:=by
 obtain⟨x1,a1,b1,c1,e1,x10,x11,t1⟩:=ax (n:=n) (a:=a) (many:=2) h (up (k:=0) hm rfl) (by decide) (by decide)
 obtain⟨x2,a2,b2,c2,e2,x20,x21,t2⟩:=ax (n:=n) (a:=a1) (many:=4990) t1 (up (k:=1) hm rfl) (by decide) (by decide)
 obtain⟨x3,a3,b3,c3,e3,x30,x31,t3⟩:=ax (n:=n) (a:=a2) (many:=12) t2 (up (k:=2) hm rfl) (by decide) (by decide)
 obtain⟨x4,a4,b4,c4,e4,x40,x41,t4⟩:=ax (n:=n) (a:=a3) (many:=80) t3 (up (k:=3) hm rfl) (by decide) (by decide)
 obtain⟨x5,a5,b5,c5,e5,x50,x51,t5⟩:=ax (n:=n) (a:=a4) (many:=4) t4 (up (k:=4) hm rfl) (by decide) (by decide)
 obtain⟨x6,a6,b6,c6,e6,x60,x61,t6⟩:=ax (n:=n) (a:=a5) (many:=12) t5 (up (k:=5) hm rfl) (by decide) (by decide)
 obtain⟨x7,a7,b7,c7,e7,x70,x71,t7⟩:=ax (n:=n) (a:=a6) (many:=80) t6 (up (k:=6) hm rfl) (by decide) (by decide)
 obtain⟨x8,a8,b8,c8,e8,x80,x81,t8⟩:=ax (n:=n) (a:=a7) (many:=4) t7 (up (k:=7) hm rfl) (by decide) (by decide)
 obtain⟨g,hg,eg⟩:=eQ (ks:=[0,1 + x3,x4,4999 - x1 * x2]) x50 x51
 obtain⟨k,hk,ek⟩:=eQ (ks:=[6,7 + x6,6 + x7,4999 - x1 * x2]) x80 x81
 have hx:x1=0\/x1=1:=by omega
 have hm0:0<=x1 * x2/\x1 * x2 < 4990:=by
  rcases hx with rfl | rfl
  ·rw[Int.zero_mul];omega
  ·rw[Int.one_mul];omega
 have h6:6<=k/\k<=4999:=by
  rcases aab.mp hk with rfl | hk
  ·omega
  rcases aab.mp hk with rfl | hk
  ·omega
  rcases aab.mp hk with rfl | hk
  ·omega
  rw[aaB.mp hk];omega
 have h0:0<=g/\g<=4999:=by
  rcases aab.mp hg with rfl | hg
  ·omega
  rcases aab.mp hg with rfl | hg
  ·omega
  rcases aab.mp hg with rfl | hg
  ·omega
  rw[aaB.mp hg];omega
 exact⟨g,k,a8,b8,c8,af (fn:=ni) rfl rfl (ab (s_setQ (ρ3:=[some (Tp a2 b2 c2),some (It (4999 - x1 * x2)),none]) (ai rfl (ai (ae (ρ3:=[some (Tp a1 b1 c1),none,none]) rfl rfl e1 rfl) (ae (ρ3:=[some (Tp a2 b2 c2),none,none]) rfl rfl e2 rfl) rfl rfl (dD (.inl (by omega)))) rfl rfl rfl) rfl rfl rfl) (ab (s_setQ (ρ3:=[some (Tp a5 b5 c5),some (It (4999 - x1 * x2)),some (It g)]) (aO (e_lst (zs:=[It 0,It (1 + x3),It x4,It (4999 - x1 * x2)]) (aa rfl (aa (ai rfl (ae (ρ3:=[some (Tp a3 b3 c3),some (It (4999 - x1 * x2)),none]) rfl rfl e3 rfl) rfl rfl rfl) (aa (ae (ρ3:=[some (Tp a4 b4 c4),some (It (4999 - x1 * x2)),none]) rfl rfl e4 rfl) (aa rfl ag)))) rfl rfl) (ae (ρ3:=[some (Tp a5 b5 c5),some (It (4999 - x1 * x2)),none]) rfl rfl e5 rfl) rfl (cV eg)) rfl rfl rfl) (aj (ah (bY (aa rfl (aa (aO (e_lst (zs:=[It 6,It (7 + x6),It (6 + x7),It (4999 - x1 * x2)]) (aa rfl (aa (ai rfl (ae (ρ3:=[some (Tp a6 b6 c6),some (It (4999 - x1 * x2)),some (It g)]) rfl rfl e6 rfl) rfl rfl rfl) (aa (ai rfl (ae (ρ3:=[some (Tp a7 b7 c7),some (It (4999 - x1 * x2)),some (It g)]) rfl rfl e7 rfl) rfl rfl rfl) (aa rfl ag)))) rfl rfl) (ae (ρ3:=[some (Tp a8 b8 c8),some (It (4999 - x1 * x2)),some (It g)]) rfl rfl e8 rfl) rfl (cV ek)) ag)) rfl rfl rfl) rfl)))) rfl,t8,h6.1,h6.2,h0.1,h0.2⟩
inductive R where | st (r k:Int) | ot (w:Str) (xs:List Int) (h:w≠"set"/\PyData.strOk w=true)
def R.num:R->Int | .st _ k=>k | .ot _ _ _=>0
def R.ok:R->Prop | .st r k=>(0<=r/\r<=200)/\0<=k/\k<=99999999 | .ot w xs _=>(∀x∈xs,0<=x/\x<=200)/\w.cps.toList.all (fun c=>decide (c < 4294967296))=true/\w.cps.size<=24/\xs.length<=3
abbrev Nb(rs:List R):Prop:=∀r∈rs,r.ok
theorem Nb.snoc(h:Nb rs)(hr:r.ok):Nb (rs++[r]):=fun x hx=>by
 rcases aal.mp hx with hx | hx
 ·exact h x hx
 ·rw[aaB.mp hx];exact hr
abbrev lQ(a b:Int):R:=.ot "sum" [a,b] (by decide +kernel)
abbrev gO(a b:Int):R:=.ot "less" [a,b] (by decide +kernel)
abbrev cW(a:Int):R:=.ot "tell" [a] (by decide +kernel)
abbrev oGo(a:Int):R:=.ot "go" [a] (by decide +kernel)
abbrev kG(a b:Int):R:=.ot "nil" [a,b] (by decide +kernel)
abbrev CB:R:=.ot "stop" [] (by decide +kernel)
def R.d:R->PyData | .st r k=>.tuple [.str "set",.int r,.int k] | .ot w xs _=>.tuple (.str w::xs.map PyData.int)
abbrev Rs(rs:List R):OD:=.lst (rs.map fun r=>.fz r.d)
theorem wQ{rs:List R}{i:Int}(h0:0<=i)(h1:i < rs.length):∃r,r∈rs/\atI (rs.map fun r=>OD.fz r.d) i=some (.fz r.d):=by
 obtain⟨x,hx,e⟩:=fU (xs:=rs.map fun r=>OD.fz r.d) h0 (by rw[aaa];exact h1)
 obtain⟨r,hr,rfl⟩:=aay.mp hx
 exact⟨r,hr,e⟩
theorem vM{r:R}(h:ρ[j]?.join=some (Rs rs))(h1:atI (rs.map fun r=>OD.fz r.d) i=some (.fz r.d)):bV ρ (.rf j) i=some (.fz r.d,ρ):=by
 obtain⟨k,e1,e2⟩:=bnd h1
 have e3:itemS (Rs rs) i=some (r.d,Rs rs):=by
  simp only[Rs,itemS,e1,e2,OD.dat]
  rw[bA e2]
 simp only[bV,h,e3]
 rw[set_self (join_some h)]
theorem ny:Rs (rs++[r])=.lst ((rs.map fun r=>OD.fz r.d)++[.fz r.d]):=by rw[Rs,aaw];rfl
theorem pe(h:TpOk b c m)(hm:m<=100000)(hl:rs.length<=1000)(m0:0<=many)(m1:many<=100) :
  ∃fl ρ',((bj (.nm 4) (.fz (.int i)) [some (Tp a b c),some (It many),some (It share),some (Rs rs),o4,o5,o6,o7,o8,o9,o10]).bind fun ρ1=>aN (pl.pg.ct (n + 2)) (match F_rows.body with | .cons _ (.cons _ (.cons _ (.cons (.fr _ _ b) _)))=>b | _=>.nil) ρ1)=some (fl,ρ')/\(fl=.nx\/fl=.ct)/\∃(r:R) (a' b' c':Int) (p4 p5 p6 p7 p8 p9 p10:Option OD),ρ'=[some (Tp a' b' c'),some (It many),some (It share),some (Rs (rs++[r])),p4,p5,p6,p7,p8,p9,p10]/\r.ok/\TpOk b' c' (m + 8):=by
 obtain⟨x1,a1,b1,c1,e1,x10,x11,t1⟩:=ax (many:=10) h (up (k:=0) hm rfl) (by decide) (by decide)
 obtain⟨x2,a2,b2,c2,e2,x20,x21,t2⟩:=ax (many:=5) t1 (up hm rfl) (by decide) (by decide)
 by_cases hw:x1 < share
 ·obtain⟨g,a3,b3,c3,e3,g0,t3⟩:=nv t2 (up (k:=2) hm rfl)
  refine⟨.ct,_,bs rfl (ab (gG (aa (ae rfl rfl e1 rfl) (aa (ae rfl rfl e2 rfl) ag)) rfl rfl rfl) (Ep (aC (aw (ar rfl rfl rfl rfl (show some (decide (x1 < share))=some true by rw[Dac hw]))) (ab (cH rfl (bY (aa rfl (aa rfl (aa (ae rfl rfl e3 rfl) ag))) rfl rfl rfl) rfl rfl (by rw[aaa];omega) (by rw[ny];rfl)) rfl)))),.inr rfl,.st x2 g,a3,b3,c3,some (It i),some (It x1),some (It x2),o7,o8,o9,o10,rfl,⟨by omega,by omega,by omega⟩,t3.up (FT (k:=6) rfl)⟩
 ·obtain⟨x3,a3,b3,c3,e3,x30,x31,t3⟩:=ax (many:=9) t2 (up (k:=2) hm rfl) (by decide) (by decide)
  obtain⟨x4,a4,b4,c4,e4,x40,x41,t4⟩:=ax (many:=5) t3 (up (k:=3) hm rfl) (by decide) (by decide)
  obtain⟨x5,a5,b5,c5,e5,x50,x51,t5⟩:=ax (n:=n + 1) (a:=a4) (many:=many + 1) t4 (up (k:=4) hm rfl) (by omega) (by omega)
  obtain⟨x6,a6,b6,c6,e6,x60,x61,t6⟩:=ax (n:=n + 1) (a:=a5) (many:=7) t5 (up (k:=5) hm rfl) (by decide) (by decide)
  obtain⟨x7,a7,b7,c7,e7,x70,x71,t7⟩:=ax (n:=n + 1) (a:=a6) (many:=100) t6 (up (k:=6) hm rfl) (by decide) (by decide)
  obtain⟨x8,a8,b8,c8,e8,x80,x81,t8⟩:=ax (n:=n + 1) (a:=a7) (many:=2) t7 (up (k:=7) hm rfl) (by decide) (by decide)
  obtain⟨r8,h8,e9⟩:=wQ (rs:=[oGo x5,CB]) x80 x81
  obtain⟨nr,enr⟩:∃nr:Int,nr=(if (if i + x6 - 2 < many then i + x6 - 2 else many) > 0 then (if i + x6 - 2 < many then i + x6 - 2 else many) else 0):=⟨_,rfl⟩
  obtain⟨r,hr,e10⟩:=wQ (rs:=[.st x2 x7,lQ x2 x4,gO x2 x4,cW x2,oGo nr,kG x2 nr,kG x2 x5,cW x2,r8]) x30 x31
  have hnr:0<=nr/\nr<=200:=by rw[enr];split<;>split<;>omega
  have i1:∀{y:Int},0<=y/\y<=200->∀x∈[y],0<=x/\x<=200:=fun {y} hy x hx=>by rw[aaB.mp hx];exact hy
  have i2:∀{y z:Int},0<=y/\y<=200->0<=z/\z<=200->∀x∈[y,z],0<=x/\x<=200:=fun {y z} hy hz x hx=>by
   rcases aab.mp hx with rfl | hx
   ·exact hy
   ·rw[aaB.mp hx];exact hz
  have hb:r.ok:=by
   have n8:r8.ok:=by
    rcases aab.mp h8 with rfl | h8
    ·exact⟨i1 (by omega),by decide +kernel,by decide +kernel,aaD rfl⟩
    ·rw[aaB.mp h8];exact⟨fun x hx=>absurd hx aak,by decide +kernel,by decide +kernel,aaD rfl⟩
   rcases aab.mp hr with rfl | hr
   ·exact⟨by omega,by omega,by omega⟩
   rcases aab.mp hr with rfl | hr
   ·exact⟨i2 (by omega) (by omega),by decide +kernel,by decide +kernel,aaD rfl⟩
   rcases aab.mp hr with rfl | hr
   ·exact⟨i2 (by omega) (by omega),by decide +kernel,by decide +kernel,aaD rfl⟩
   rcases aab.mp hr with rfl | hr
   ·exact⟨i1 (by omega),by decide +kernel,by decide +kernel,aaD rfl⟩
   rcases aab.mp hr with rfl | hr
   ·exact⟨i1 hnr,by decide +kernel,by decide +kernel,aaD rfl⟩
   rcases aab.mp hr with rfl | hr
   ·exact⟨i2 (by omega) hnr,by decide +kernel,by decide +kernel,aaD rfl⟩
   rcases aab.mp hr with rfl | hr
   ·exact⟨i2 (by omega) (by omega),by decide +kernel,by decide +kernel,aaD rfl⟩
   rcases aab.mp hr with rfl | hr
   ·exact⟨i1 (by omega),by decide +kernel,by decide +kernel,aaD rfl⟩
   rw[aaB.mp hr];exact n8
  refine⟨.nx,_,bs rfl (ab (gG (ρ3:=[some (Tp a2 b2 c2),some (It many),some (It share),some (Rs rs),some (It i),some (It x1),some (It x2),o7,o8,o9,o10]) (aa (ae (ρ3:=[some (Tp a1 b1 c1),some (It many),some (It share),some (Rs rs),some (It i),o5,o6,o7,o8,o9,o10]) rfl rfl e1 rfl) (aa (ae (ρ3:=[some (Tp a2 b2 c2),some (It many),some (It share),some (Rs rs),some (It i),o5,o6,o7,o8,o9,o10]) rfl rfl e2 rfl) ag)) rfl rfl rfl) (ab (aq (aw (ar rfl rfl rfl rfl (show some (decide (x1 < share))=some false by rw[Dab hw]))) rfl) ?_)),.inl rfl,r,a8,b8,c8,some (It i),some (It x3),some (It x2),some (It x4),some (It x5),some (It nr),some (Rs [.st x2 x7,lQ x2 x4,gO x2 x4,cW x2,oGo nr,kG x2 nr,kG x2 x5,cW x2,r8]),rfl,hb,t8⟩
  refine ab (s_setQ (ρ3:=[some (Tp a3 b3 c3),some (It many),some (It share),some (Rs rs),some (It i),some (It x3),some (It x2),o7,o8,o9,o10]) (ae (ρ3:=[some (Tp a3 b3 c3),some (It many),some (It share),some (Rs rs),some (It i),some (It x1),some (It x2),o7,o8,o9,o10]) rfl rfl e3 rfl) rfl rfl rfl) ?_
  refine ab (gG (ρ3:=[some (Tp a5 b5 c5),some (It many),some (It share),some (Rs rs),some (It i),some (It x3),some (It x2),some (It x4),some (It x5),o9,o10]) (aa (ae (ρ3:=[some (Tp a4 b4 c4),some (It many),some (It share),some (Rs rs),some (It i),some (It x3),some (It x2),o7,o8,o9,o10]) rfl rfl e4 rfl) (aa (ae (ρ3:=[some (Tp a5 b5 c5),some (It many),some (It share),some (Rs rs),some (It i),some (It x3),some (It x2),o7,o8,o9,o10]) rfl rfl e5 rfl) ag)) rfl rfl rfl) ?_
  refine ab (s_setQ (ρ3:=[some (Tp a6 b6 c6),some (It many),some (It share),some (Rs rs),some (It i),some (It x3),some (It x2),some (It x4),some (It x5),some (It nr),o10]) (au (aa rfl (aa (au (aa rfl (aa (ai (ai rfl (ae (ρ3:=[some (Tp a6 b6 c6),some (It many),some (It share),some (Rs rs),some (It i),some (It x3),some (It x2),some (It x4),some (It x5),o9,o10]) rfl rfl e6 rfl) rfl rfl rfl) rfl rfl rfl rfl) ag)) rfl rfl) ag)) rfl (show _=some (PyData.int nr) by rw[enr];rfl)) rfl rfl rfl) ?_
  refine ab (s_setQ (ρ3:=[some (Tp a7 b7 c7),some (It many),some (It share),some (Rs rs),some (It i),some (It x3),some (It x2),some (It x4),some (It x5),some (It nr),some (Rs [.st x2 x7,lQ x2 x4,gO x2 x4,cW x2,oGo nr])]) (e_lst (zs:=[.fz (R.st x2 x7).d,.fz (lQ x2 x4).d,.fz (gO x2 x4).d,.fz (cW x2).d,.fz (oGo nr).d]) (aa (bY (z:=.fz (R.st x2 x7).d) (aa rfl (aa rfl (aa (ae (ρ3:=[some (Tp a7 b7 c7),some (It many),some (It share),some (Rs rs),some (It i),some (It x3),some (It x2),some (It x4),some (It x5),some (It nr),o10]) rfl rfl e7 rfl) ag))) rfl rfl rfl) (aa rfl (aa rfl (aa rfl (aa rfl ag))))) rfl rfl) rfl rfl rfl) ?_
  refine ab (s_setQ (ρ3:=[some (Tp a8 b8 c8),some (It many),some (It share),some (Rs rs),some (It i),some (It x3),some (It x2),some (It x4),some (It x5),some (It nr),some (Rs [.st x2 x7,lQ x2 x4,gO x2 x4,cW x2,oGo nr,kG x2 nr,kG x2 x5,cW x2,r8])]) (iF rfl (e_lst (aa rfl (aa rfl (aa rfl (aa (aO rfl (ae (ρ3:=[some (Tp a8 b8 c8),some (It many),some (It share),some (Rs rs),some (It i),some (It x3),some (It x2),some (It x4),some (It x5),some (It nr),some (Rs [.st x2 x7,lQ x2 x4,gO x2 x4,cW x2,oGo nr])]) rfl rfl e8 rfl) rfl (cV e9)) ag)))) rfl rfl) rfl rfl (show 9<=1000000 by decide)) rfl rfl rfl) ?_
  exact ab (cH (ρ3:=[some (Tp a8 b8 c8),some (It many),some (It share),some (Rs (rs++[r])),some (It i),some (It x3),some (It x2),some (It x4),some (It x5),some (It nr),some (Rs [.st x2 x7,lQ x2 x4,gO x2 x4,cW x2,oGo nr,kG x2 nr,kG x2 x5,cW x2,r8])]) (xs:=rs.map fun r=>.fz r.d) rfl (aO rfl rfl rfl (vM rfl e10)) rfl rfl (by rw[aaa];omega) (by rw[ny];rfl)) rfl
theorem pf:∀d∈bW lo n,∃i,d=.int i:=fun d hd=>by
 obtain⟨i,_,rfl⟩:=aay.mp hd
 exact⟨_,rfl⟩
theorem ph(h:TpOk b c (m + 3))(hm:m<=90000)(m0:0<=many)(m1:many<=60):∃(rs:List R) (a' b' c':Int) (o4 o5 o6 o7 o8 o9 o10:Option OD),bx (fun d ρ'=>(bj (.nm 4) (.fz d) ρ').bind fun ρ1=>aN (pl.pg.ct (n + 2)) (match F_rows.body with | .cons _ (.cons _ (.cons _ (.cons (.fr _ _ b) _)))=>b | _=>.nil) ρ1) (bW 0 many.toNat) [some (Tp a b c),some (It many),some (It sh),some (Rs []),none,none,none,none,none,none,none]=some (.nx,[some (Tp a' b' c'),some (It many),some (It sh),some (Rs rs),o4,o5,o6,o7,o8,o9,o10])/\rs.length<=60/\Nb rs/\TpOk b' c' (m + 500):=by
 have hM:many.toNat<=60:=by omega
 have hM2:many<=100:=Int.le_trans m1 (by decide)
 obtain⟨ρ',e2,rs,a2,b2,c2,o4,o5,o6,o7,o8,o9,o10,rfl,hl,_,nb,t2⟩:=oX (step:=fun d ρ'=>(bj (.nm 4) (.fz d) ρ').bind fun ρ1=>aN (pl.pg.ct (n + 2)) (match F_rows.body with | .cons _ (.cons _ (.cons _ (.cons (.fr _ _ b) _)))=>b | _=>.nil) ρ1)
  (fun ds ρ=>∃(rs:List R) (a b c:Int) (o4 o5 o6 o7 o8 o9 o10:Option OD),ρ=[some (Tp a b c),some (It many),some (It sh),some (Rs rs),o4,o5,o6,o7,o8,o9,o10]/\rs.length + ds.length=many.toNat/\(∀d∈ds,∃i,d=.int i)/\Nb rs/\TpOk b c (m + 3 + 8 * rs.length)) (fun d ds ρ=>by
   rintro⟨rs,a,b,c,o4,o5,o6,o7,o8,o9,o10,rfl,hl,hd,nb,t⟩
   obtain⟨i,rfl⟩:=hd _ aag
   have hr:rs.length<=60:=aaq (Nat.le.intro hl) hM
   obtain⟨fl,ρ',e,hf,r,a',b',c',p4,p5,p6,p7,p8,p9,p10,rfl,rb,t'⟩:=pe t (aaq (Nat.add_le_add (acz hm 3) (acA 8 hr)) (by decide)) (aaq hr (by decide):rs.length<=1000) m0 hM2
   have el:(rs++[r]).length=rs.length + 1:=aaA
   exact⟨fl,_,e,hf,rs++[r],a',b',c',p4,p5,p6,p7,p8,p9,p10,rfl,by rw[el,Nat.add_right_comm];exact hl,fun d hd'=>hd d (aai _ hd'),nb.snoc rb,t'.up (by rw[el];exact aac _)⟩)
  (ds:=bW 0 many.toNat) ⟨[],a,b,c,none,none,none,none,none,none,none,rfl,by rw[dW,abg,aaV],pf,(fun r hr=>absurd hr aak),h⟩
 have hl:rs.length=many.toNat:=hl
 exact⟨rs,a2,b2,c2,o4,o5,o6,o7,o8,o9,o10,e2,hl ▸ hM,nb,t2.up (aaq (ace (acA 8 (hl ▸ hM)) (m + 3)) (ace (show 3 + 8 * 60<=500 by decide) m))⟩
theorem zA(h:TpOk b c m)(hm:m<=90000):∃(rs:List R) (a' b' c':Int),pl.pg.call (n + 3) 19 [Tp a b c]=some (Rs rs,[Tp a' b' c'])/\rs.length<=60/\Nb rs/\TpOk b' c' (m + 500):=by
 have key:∀(a b c many:Int),TpOk b c (m + 2)->0<=many->many<=60->∃(rs:List R) (a' b' c':Int) (ρ:DEnv),aN (pl.pg.ct (n + 2)) (match F_rows.body with | .cons _ ss=>ss | _=>.nil) [some (Tp a b c),some (It many),none,none,none,none,none,none,none,none,none]=some (.rt (Rs rs),some (Tp a' b' c')::ρ)/\rs.length<=60/\Nb rs/\TpOk b' c' (m + 500):=by
  intro a b c many h m0 m1
  obtain⟨x1,a1,b1,c1,e1,x10,x11,t1⟩:=ax (many:=3) h (up hm rfl) (by decide) (by decide)
  obtain⟨sh,_,es⟩:=eQ (ks:=[2,5,9]) x10 x11
  obtain⟨rs,a2,b2,c2,o4,o5,o6,o7,o8,o9,o10,e2,hl,nb,t2⟩:=ph t1 hm m0 m1
  exact⟨rs,a2,b2,c2,_,ab (s_setQ (aO rfl (ae rfl rfl e1 rfl) rfl (cV es)) rfl rfl rfl) (ab (s_setQ rfl rfl rfl rfl) (ab (s_frQ (gH rfl rfl (by omega)) e2) (aj (ah rfl rfl)))),hl,nb,t2⟩
 obtain⟨x1,a1,b1,c1,e1,x10,x11,t1⟩:=ax (many:=8) h (up (k:=0) hm rfl) (by decide) (by decide)
 by_cases h8:x1=0
 ·obtain⟨x2,a2,b2,c2,e2,x20,x21,t2⟩:=ax (many:=41) t1 (up hm rfl) (by decide) (by decide)
  obtain⟨rs,a3,b3,c3,ρ,e3,hl,nb,t3⟩:=key a2 b2 c2 (20 + x2) t2 (by omega) (by omega)
  exact⟨rs,a3,b3,c3,af rfl rfl (ab (s_setQ (gD (aw (ar (ae rfl rfl e1 rfl) rfl rfl rfl (show some (decide (x1=0))=some true by rw[Dac h8]))) (ai rfl (ae rfl rfl e2 rfl) rfl rfl rfl)) rfl rfl rfl) e3) rfl,hl,nb,t3⟩
 ·obtain⟨x2,a2,b2,c2,e2,x20,x21,t2⟩:=ax (many:=11) t1 (up hm rfl) (by decide) (by decide)
  obtain⟨rs,a3,b3,c3,ρ,e3,hl,nb,t3⟩:=key a2 b2 c2 x2 t2 (by omega) (by omega)
  exact⟨rs,a3,b3,c3,af rfl rfl (ab (s_setQ (kA (aw (ar (ae rfl rfl e1 rfl) rfl rfl rfl (show some (decide (x1=0))=some false by rw[Dab h8]))) (ae rfl rfl e2 rfl)) rfl rfl rfl) e3) rfl,hl,nb,t3⟩
def R.gr:R->Bool | .st _ k=>decide (99 < k) | .ot _ _ _=>false
abbrev Rd(r:R):OD:=.fz r.d
abbrev Rl(rs:List R):OD:=.fz (.list (rs.map R.d))
theorem aS{α:Type}{x:α}{xs:List α}:atI (x::xs) 0=some x:=bF (k:=0) rfl
theorem CD{n:Nat}(r:R):pl.pg.call (n + 1) 1 [Rd r]=some (.fz (.bool r.gr),[Rd r]):=by
 cases r with
 | st r k=>rfl
 | ot w xs h=>exact af (fn:=gI) rfl rfl (aj (ah (bo (ar (aO rfl rfl rfl (aM aS)) rfl rfl rfl (show some (decide (w="set"))=some false by rw[Dab h.1]))) rfl)) rfl
theorem nz{n:Nat}(r:R):pl.pg.call (n + 1) 22 [Rd r]=some (.fz (.bool r.gr),[Rd r]):=by
 cases r with
 | st r k=>rfl
 | ot w xs h=>exact af (fn:=eM) rfl rfl (aj (ah (bo (ar (aO rfl rfl rfl (aM aS)) rfl rfl rfl (show some (decide (w="set"))=some false by rw[Dab h.1]))) rfl)) rfl
def R.wd:R->Str | .st _ _=>"set" | .ot w _ _=>w
def R.tl:R->List PyData | .st r k=>[.int r,.int k] | .ot _ xs _=>xs.map PyData.int
theorem dats_fz:∀ds:List PyData,OD.dats (ds.map OD.fz)=some ds
 | []=>rfl
 | d::ds=>by rw[aaj,OD.dats,dats_fz ds];rfl
theorem cp(ds:List PyData):(OD.lst (ds.map OD.fz)).dat=some (.list ds):=by rw[OD.dat,dats_fz]
theorem frz_rf{ρ ρ':DEnv}{j:Nat}{x:OD}{d:PyData}(h:ρ[j]?.join=some x)(hd:x.dat=some d)(hr:ρ.set j (some (.fz d))=ρ'):frz1 ρ (.rf j)=some (d,ρ'):=by
 simp only[frz1,h,Option.bind_some,hd,Option.map_some,hr]
theorem unca_nil{ρ os:DEnv}:dX ρ [] os=ρ:=by cases os with | nil=>rfl | cons o os=>cases o<;>rfl
theorem R.d_is(r:R):r.d=.tuple (.str r.wd::r.tl):=by cases r<;>rfl
theorem FU{w x y:Str}:∃k,iz .inn (.str w) (.tuple [.str x,.str y])=some k:=⟨_,rfl⟩
abbrev Sb(ls:List Int):Prop:=∀l∈ls,0<=l/\l<=200
theorem Sb.snoc{ls:List Int}{k:Int}(h:Sb ls)(hk:0<=k/\k<=200):Sb (ls++[k]):=fun l hl=>by
 rcases aal.mp hl with z | z
 ·exact h l z
 ·rw[aaB.mp z];exact hk
theorem sA{rs:List R}(hr:rs.length<=200):∀d∈bB (rs.map R.d),∃(i:Int) (r:R),d=.tuple [.int i,r.d]/\0<=i/\i<=200:=fun d hd=>by
 obtain⟨k,hk⟩:=acB hd
 obtain⟨e,he,rfl⟩:=iw hk
 rw[aav]at he
 cases hr':rs[k]? with
 | none=>rw[hr']at he;cases he
 | some r=>rw[hr']at he;cases he;have:=(aau.mp hr').1;exact⟨k,r,rfl,by omega,by omega⟩
theorem lR{C:Ct}{rs:List R}(hr:rs.length<=200):∃(ls:List Int) (ρ:DEnv),aW (aX C (.tp [0,1]) (.some ebp) (.nm 0)) (bB (rs.map R.d)) [] [none,none]=some (ls.map PyData.int,ρ)/\ls.length<=rs.length/\Sb ls:=by
 obtain⟨out,ρ,e,_,⟨ls,rfl,hl,hb⟩,_⟩:=iG (step:=aX C (.tp [0,1]) (.some ebp) (.nm 0))
  (fun ds out ρ=>(∀d∈ds,∃(i:Int) (r:R),d=.tuple [.int i,r.d]/\0<=i/\i<=200)/\(∃ls:List Int,out=ls.map PyData.int/\ls.length + ds.length<=rs.length/\Sb ls)/\∃o0 o1,ρ=[o0,o1]) (fun d ds out ρ=>by
   rintro⟨hd,⟨ls,rfl,hl,hb⟩,o0,o1,rfl⟩
   obtain⟨i,r,rfl,hi⟩:=hd _ aag
   rw[aap]at hl
   obtain⟨k,hk⟩:=FU (w:=r.wd) (x:="go") (y:="nil")
   have ht:ba C ebp [some (It i),some (Rd r)]=some (k,[some (It i),some (Rd r)]):=aw (ar (aO rfl rfl rfl (by rw[R.d_is];exact aM aS)) rfl rfl rfl hk)
   cases k with
   | false=>exact⟨[],_,lM rfl ht,fun d h=>hd d (aai _ h),⟨ls,by rw[aar],by omega,hb⟩,_,_,rfl⟩
   | true=>exact⟨[.int i],_,lL rfl ht rfl rfl,fun d h=>hd d (aai _ h),⟨ls++[i],by rw[aaw];rfl,by rw[aaA,aa0];omega,hb.snoc hi⟩,_,_,rfl⟩)
  (ds:=bB (rs.map R.d)) (out:=[]) (ρ:=[none,none]) ⟨sA hr,⟨[],rfl,by rw[bI,aaa,abg,aaV];exact aac _,fun l hl=>absurd hl aak⟩,_,_,rfl⟩
 exact⟨ls,ρ,e,by rw[abg]at hl;omega,hb⟩
theorem lS{n m:Nat}{a b c sh:Int}(s0:0<=sh)(s1:sh < 3)(h:TpOk b c m){js:List Int}(hj:Sb js)(hm:m + js.length<=100000):∃(ls:List Int) (a' b' c':Int) (o:Option OD),aW (aX (pl.pg.ct (n + 1)) (.nm 0) (.some ean) (.nm 0)) (js.map PyData.int) [] [none,some (It sh),some (Tp a b c)]=some (ls.map PyData.int,[o,some (It sh),some (Tp a' b' c')])/\TpOk b' c' (m + js.length)/\Sb ls/\ls.length<=js.length:=by
 obtain⟨out,ρ,e,⟨ks,hk⟩,⟨ls,rfl,hb,hll⟩,o,a',b',c',rfl,t⟩:=iG (step:=aX (pl.pg.ct (n + 1)) (.nm 0) (.some ean) (.nm 0))
  (fun ds out ρ=>(∃ks:List Int,ds=ks.map PyData.int/\ks.length<=js.length/\Sb ks)/\(∃ls:List Int,out=ls.map PyData.int/\Sb ls/\ls.length + ds.length<=js.length)/\∃o a b c,ρ=[o,some (It sh),some (Tp a b c)]/\TpOk b c (m + (js.length - ds.length))) (fun d ds out ρ=>by
   rintro⟨⟨ks,hk,hl,hks⟩,⟨ls,rfl,hb,hll⟩,o,a,b,c,rfl,t⟩
   cases ks with
   | nil=>cases hk
   | cons k ks =>
    cases hk
    rw[aap,aaa]at t
    rw[aap]at hl
    rw[aap]at hll
    have hkk:=hks k aag
    have hks':Sb ks:=fun l hl=>hks l (aai _ hl)
    obtain⟨x1,a1,b1,c1,e1,x10,x11,t1⟩:=ax (n:=n) (a:=a) (many:=2) t (by omega) (by decide) (by decide)
    obtain⟨y,hy,ey⟩:=fU (xs:=[OD.fz (.bool false),.fz (.bool (decide (x1=0))),.fz (.bool true)]) s0 s1
    obtain⟨q,rfl⟩:∃q:Bool,y=.fz (.bool q):=by
     simp only[aab,aak,or_false]at hy
     rcases hy with rfl | rfl | rfl<;>exact⟨_,rfl⟩
    have ht:=Em (C:=pl.pg.ct (n + 1)) (ρ:=[some (It k),some (It sh),some (Tp a b c)]) (aO (e_lst (aa rfl (aa (ar (ae (f:=17) (es:=.cons (.nm 2) Er) (ρ3:=[some (It k),some (It sh),some (Tp a1 b1 c1)]) rfl rfl e1 rfl) (b:=.int 0) (o:=.eq) rfl rfl rfl rfl) (aa (e:=.bl true) rfl ag)) (e:=.bl false)) rfl rfl) (b:=.nm 1) rfl rfl (cV ey))
    have t2:TpOk b1 c1 (m + (js.length - (ks.map PyData.int).length)):=t1.up (by rw[aaa];omega)
    cases q with
    | false=>exact⟨[],_,lM rfl ht,⟨ks,rfl,by omega,hks'⟩,⟨ls,by rw[aar],hb,by omega⟩,_,_,_,_,rfl,t2⟩
    | true=>exact⟨[.int k],_,lL rfl ht rfl rfl,⟨ks,rfl,by omega,hks'⟩,⟨ls++[k],by rw[aaw];rfl,hb.snoc hkk,by rw[aaA,aa0];omega⟩,_,_,_,_,rfl,t2⟩)
  (ds:=js.map PyData.int) (out:=[]) (ρ:=[none,some (It sh),some (Tp a b c)]) ⟨⟨js,rfl,aac _,hj⟩,⟨[],rfl,fun l hl=>absurd hl aak,by rw[abg,aaa,aaV];exact aac _⟩,_,a,b,c,rfl,h.up (by omega)⟩
 exact⟨ls,a',b',c',o,e,t.up (by omega),hb,by rw[abg]at hll;omega⟩
theorem vN{n m:Nat}{a b c:Int}{rs:List R}(hr:rs.length<=200)(h:TpOk b c m)(hm:m<=90000):∃(ls:List Int) (a' b' c':Int),pl.pg.call (n + 2) 20 [Tp a b c,Rl rs]=some (.lst (ls.map It),[Tp a' b' c',Rl rs])/\TpOk b' c' (m + 300)/\Sb ls/\ls.length<=200:=by
 obtain⟨x1,a1,b1,c1,e1,x10,x11,t1⟩:=ax (n:=n) (a:=a) (many:=3) h (up (k:=0) hm rfl) (by decide) (by decide)
 obtain⟨js,ρ1,e2,hj,hjb⟩:=lR (C:=pl.pg.ct (n + 1)) (rs:=rs) hr
 obtain⟨ls,a2,b2,c2,o,e3,t2,hlb,hll⟩:=lS (n:=n) (a:=a1) x10 x11 t1 (js:=js) hjb (by omega)
 have el:(ls.map PyData.int).map OD.fz=ls.map It:=by rw[aaO];rfl
 refine⟨ls,a2,b2,c2,af (fn:=nh) rfl rfl (ab (s_setQ (ρ3:=[some (Tp a1 b1 c1),some (Rl rs),some (It x1),none]) (ae (ρ3:=[some (Tp a1 b1 c1),some (Rl rs),none,none]) rfl rfl e1 rfl) rfl rfl rfl) (ab (s_setQ (ρ3:=[some (Tp a1 b1 c1),some (Rl rs),some (It x1),some (.lst ((js.map PyData.int).map OD.fz))]) (aP (ρ2:=[some (Tp a1 b1 c1),some (Rl rs),some (It x1),none]) (fE rfl rfl) (by rw[bI,aaa];omega) rfl e2 unca_nil) rfl rfl rfl) (aj (ah (z:=.lst (ls.map It)) (aP (ρ2:=[some (Tp a2 b2 c2),some (Rl rs),some (It x1),some (.fz (.list (js.map PyData.int)))]) (bc (ds:=js.map PyData.int) rfl (frz_rf rfl (cp _) rfl) rfl) (by rw[aaa];omega) rfl e3 rfl) (by rw[el];rfl))))) rfl,t2.up (by omega),hlb,by omega⟩
abbrev Il(gs:List Int):OD:=.lst (gs.map It)
theorem cD(gs:List Int):(gs.map PyData.int).map OD.fz=gs.map It:=by rw[aaO];rfl
theorem be(gs:List Int):(Il gs).dat=some (.list (gs.map PyData.int)):=by rw[Il,<- cD,cp]
theorem wR(rs:List R):(rs.map R.d).map OD.fz=rs.map fun r=>OD.fz r.d:=by rw[aaO];rfl
theorem sC{ρ:DEnv}{j:Nat}{gs:List Int}{i g:Int}(h:ρ[j]?.join=some (Il gs))(h1:atI (gs.map It) i=some (It g)):bV ρ (.rf j) i=some (It g,ρ):=by
 obtain⟨k,e1,e2⟩:=bnd h1
 have e3:itemS (Il gs) i=some (.int g,Il gs):=by
  simp only[Il,itemS,e1,e2,OD.dat]
  rw[bA e2]
 simp only[bV,h,e3]
 rw[set_self (join_some h)]
structure Cf where
 rows:List R
 longs:List Int
 r0:Int
 r1:Int
abbrev Lo(f:Cf):OD:=.fz (.list (f.longs.map PyData.int))
def R.fal(r:R):Bool:=!decide (r.wd="go") && !decide (r.wd="stop")
def wU(rs:List R):Nat->Bool
 | 0=>true
 | k + 1=>(rs[k]?).elim true R.fal
def fw(rs:List R)(k:Nat)(p:Int):Int:=let q:=if wU rs k=true then p + 2 else p;q + 2 - q % 2
def sz(f:Cf)(k:Nat):Int:=if (f.rows[k]?).elim false R.gr=true\/(k:Int)∈f.longs then 2 else 1
theorem vO(r:R):pl.pg.call (n + 1) 3 [Rd r]=some (.fz (.bool r.fal),[Rd r]):=by
 unfold R.fal
 have h1:∀x:Str,ev (pl.pg.ct n) (.cmp .ne ee8 (.str x)) [some (Rd r)]=some (.val (.fz (.bool (!decide (r.wd=x)))),[some (Rd r)]):=fun x=>ar (aO rfl rfl rfl (by rw[R.d_is];exact aM aS)) rfl rfl rfl rfl
 cases hb:(!decide (r.wd="go")) with
 | false=>exact af rfl rfl (aj (ah (bo (by rw[<- hb];exact h1 "go")) rfl)) rfl
 | true=>rw[aaK];exact af rfl rfl (aj (ah (dN (by rw[<- hb];exact h1 "go") (h1 "stop")) rfl)) rfl
theorem iQ{rs:List R}{k:Nat}(h:rs[k]?=some r):atI (rs.map R.d) (k:Int)=some r.d:=bF (by rw[aav,h];rfl)
theorem eR:∀{ls:List Int},memD (.int x) (ls.map PyData.int)=some (decide (x∈ls))
 | []=>by simp[memD]
 | y::ls=>by
  rw[aaj,memD,eR (ls:=ls)]
  show some (decide (y=x) || decide (x∈ls))=_
  rw[<- Bool.decide_or]
  congr 1
  rw[decide_eq_decide,aab]
  exact⟨fun h=>h.imp Eq.symm id,fun h=>h.imp Eq.symm id⟩
theorem Ey{ls:List Int}:iz .inn (.int x) (.list (ls.map PyData.int))=some (decide (x∈ls)):=bs (f:=fun ds=>(gd (yn (PyData.int x)=true)).bind fun _=>memD (.int x) ds) rfl (bg rfl eR)
theorem vP{ls:List Int}:iz .nin (.int x) (.list (ls.map PyData.int))=some (!decide (x∈ls)):=bs (Ey ) rfl
theorem zB{k:Nat}(h:f.rows[k]?=some r):pl.pg.call (n + 2) 4 [Rl f.rows,Lo f,It k]=some (It (sz f k),[Rl f.rows,Lo f,It k]):=by
 unfold sz;rw[h]
 have hc:=ae (C:=pl.pg.ct (n + 1)) (f:=1) (es:=.cons Et .nil) (ρ:=[some (Rl f.rows),some (Lo f),some (It k)]) (aa (aO rfl rfl rfl (bC (iQ h))) ag) rfl (CD r) rfl
 cases hg:r.gr with
 | true =>
  rw[hg]at hc
  rw[if_pos (.inl hg)]
  exact af rfl rfl (aj (ah (gD (a9 (bb hc)) rfl) rfl)) rfl
 | false =>
  rw[hg]at hc
  have hl:ba (pl.pg.ct (n + 1)) eeq [some (Rl f.rows),some (Lo f),some (It k)]=some (decide ((k:Int)∈f.longs),[some (Rl f.rows),some (Lo f),some (It k)]):=aw (ar rfl rfl rfl rfl Ey)
  cases hb:decide ((k:Int)∈f.longs) with
  | true =>
   rw[hb]at hl
   rw[if_pos (.inr (Daa hb))]
   exact af rfl rfl (aj (ah (gD (aI (bb hc) hl) rfl) rfl)) rfl
  | false =>
   rw[hb]at hl
   rw[if_neg fun z=>z.elim (fun z=>absurd (hg.symm.trans z) aah) fun z=>Dad hb z]
   exact af rfl rfl (aj (ah (kA (aI (bb hc) hl) rfl) rfl)) rfl
theorem zC{k:Nat}(h:k<=rs.length):pl.pg.call (n + 2) 5 [Rl rs,It k]=some (.fz (.bool (wU rs k)),[Rl rs,It k]):=by
 cases k with
 | zero=>exact af rfl rfl (aj (ah (wM rfl) rfl)) rfl
 | succ k =>
  have hb:=vO (n:=n) rs[k]
  have e1:wU rs (k + 1)=(rs[k]).fal:=by show (rs[k]?).elim true R.fal=_;rw[aan h];rfl
  rw[e1]
  have e0:((k + 1:Nat):Int) - 1=(k:Int):=by omega
  exact af rfl rfl (aj (ah (wN (ar rfl rfl rfl rfl (show some (decide (((k + 1:Nat):Int)=0))=some false by rw[Dab (by omega)])) (ae (aa (aO rfl rfl rfl (bC (by rw[e0];exact iQ (aan (by omega))))) ag) rfl hb rfl)) rfl)) rfl
theorem vQ{rs:List R}{k:Nat}(h:k<=rs.length):pl.pg.call (n + 3) 6 [Rl rs,It k,It p]=some (It (fw rs k p),[Rl rs,It k,It p]):=by
 unfold fw
 have hb:=zC (n:=n) h
 have hc:=ae (C:=pl.pg.ct (n + 2)) (f:=5) (es:=.cons (.nm 0) efk) (ρ:=[some (Rl rs),some (It k),some (It p)]) rfl rfl hb rfl
 cases hv:wU rs k with
 | true=>rw[hv]at hc;exact af rfl rfl (ab (aC (bb hc) (ab rfl rfl)) (aj (ah (ai rfl (ai rfl rfl rfl rfl (cL (by decide))) rfl rfl rfl) rfl))) rfl
 | false=>rw[hv]at hc;exact af rfl rfl (ab (aq (bb hc) rfl) (aj (ah (ai rfl (ai rfl rfl rfl rfl (cL (by decide))) rfl rfl rfl) rfl))) rfl
def gIx:Int->List R->List Int
 | _,[]=>[]
 | i,r::rs=>if r.gr=true then i::gIx (i + 1) rs else gIx (i + 1) rs
theorem fV:∀{rs:List R} {i a:Int},a∈gIx i rs->∃(j:Nat) (r:R),a=i + j/\rs[j]?=some r/\r.gr=true
 | [],i,a,h=>absurd h aak
 | r::rs,i,a,h=>by
  rw[gIx]at h
  by_cases hg:r.gr=true
  ·rw[if_pos hg]at h
   rcases aab.mp h with rfl | h
   ·exact⟨0,r,by simp,rfl,hg⟩
   ·obtain⟨j,q,e,h1,h2⟩:=fV h
    exact⟨j + 1,q,by rw[e];omega,h1,h2⟩
  ·rw[if_neg hg]at h
   obtain⟨j,q,e,h1,h2⟩:=fV h
   exact⟨j + 1,q,by rw[e];omega,h1,h2⟩
theorem gr_st{r:R}(h:r.gr=true):∃x k,r=.st x k:=by
 cases r with
 | st x k=>exact⟨x,k,rfl⟩
 | ot w xs hw=>cases h
theorem gIx_len:∀{rs:List R} {i:Int},(gIx i rs).length=(rs.filter R.gr).length
 | [],i=>rfl
 | r::rs,i=>by
  rw[gIx]
  by_cases hg:r.gr=true
  ·rw[if_pos hg,abJ hg,aap,aap,gIx_len]
  ·rw[if_neg hg,abK hg,gIx_len]
def enF:Int->List R->List PyData
 | _,[]=>[]
 | i,r::rs=>.tuple [.int i,r.d]::enF (i + 1) rs
theorem nF:∀{rs:List R} {i:Int} {j:Nat},(enF i rs)[j]?=(rs[j]?).map fun r=>.tuple [.int (i + j),r.d]
 | [],_,_=>by simp[enF]
 | r::rs,i,0=>by simp[enF]
 | r::rs,i,j + 1=>by
  rw[enF,abL,abL,nF]
  congr 1
  funext r
  have e:i + 1 + (j:Int)=i + ((j + 1:Nat):Int):=by omega
  rw[e]
theorem fW(rs:List R):bB (rs.map R.d)=enF 0 rs:=by
 refine ab6 fun j=>?_
 rw[nF,Int.zero_add]
 unfold bB
 rw[aav,aaa]
 by_cases hj:j < rs.length
 ·rw[acC hj,aan hj]
  simp[ab4,aav,aan hj]
 ·rw[abM (by simpa using hj),abM (by omega)];rfl
theorem jy:∀{rs:List R} {i:Int} {out:List PyData} {o0 o1:Option OD},∃ρ',aW (aX (pl.pg.ct (n + 1)) (.tp [0,1]) (.some eeg) (.nm 0)) (enF i rs) out [o0,o1]=some (out++(gIx i rs).map PyData.int,ρ')
 | [],i,out,o0,o1=>⟨[o0,o1],by rw[gIx,aaQ,aar];rfl⟩
 | r::rs,i,out,o0,o1=>by
  have hc:ba (pl.pg.ct (n + 1)) eeg [some (It i),some (Rd r)]=some (r.gr,[some (It i),some (Rd r)]):=bb (ae rfl rfl (CD r) rfl)
  rw[gIx]
  cases hg:r.gr with
  | false =>
   rw[hg]at hc
   obtain⟨ρ',e⟩:=jy
   refine⟨ρ',bs (lM rfl hc) ?_⟩
   rw[if_neg aah,e,aar]
  | true =>
   rw[hg]at hc
   obtain⟨ρ',e⟩:=jy
   refine⟨ρ',bs (lL rfl hc rfl rfl) ?_⟩
   rw[if_pos rfl,e,aaf];rfl
theorem kH(hr:rs.length<=1000):pl.pg.call (n + 2) 2 [Rl rs]=some (Il (gIx 0 rs),[Rl rs]):=by
 obtain⟨ρ',e⟩:=jy
 rw[aaz,<- fW]at e
 refine af rfl rfl (aj (ah (aP (fE rfl rfl) (by rw[bI,aaa];omega) rfl e unca_nil) (by rw[cD];rfl))) rfl
abbrev Po(q:Int × List Int):PyData:=.tuple [.int q.1,.tuple (q.2.map PyData.int)]
theorem bJ:bW lo (n + 1)=.int lo::bW (lo + 1) n:=by
 unfold bW
 rw[acv,aaj,aaO]
 congr 1
 ·simp
 ·refine acd fun i _=>?_
  show PyData.int (lo + ((i + 1:Nat):Int))=_
  congr 1
  omega
theorem eS:Il (ns++[x])=.lst (ns.map It++[It x]):=by rw[Il,aaw];rfl
abbrev Pz:=List (Int × List Int)
structure Mc where
 ps:List Int
 bs:List Int
 pl:Int
def inn(f:Cf)(k:Nat)(s:Mc)(q:Int × List Int):Mc:=if q.1=(k:Int) then ⟨s.ps,s.bs++[fw f.rows k s.pl],fw f.rows k s.pl + 2 * q.2.length⟩ else s
def inner(f:Cf)(qs:List (Int × List Int))(k:Nat)(s:Mc):Mc:=qs.foldl (inn f k) s
def CF(f:Cf)(k:Nat)(s:Mc):Mc:=⟨s.ps++[s.pl],s.bs,s.pl + sz f k⟩
def eX(f:Cf)(qs:List (Int × List Int)):Nat->Mc
 | 0=>⟨[],[],0⟩
 | k + 1=>CF f k (inner f qs k (eX f qs k))
theorem eT{k:Nat}:∀{qs:List (Int × List Int)} {s:Mc},(∀q∈qs,q.1≠(k:Int))->inner f qs k s=s
 | [],s,_=>rfl
 | q::qs,s,h=>by
  show inner f qs k (inn f k s q)=s
  have e:inn f k s q=s:=if_neg (h q aag)
  rw[e]
  exact eT fun q hq=>h q (aai _ hq)
theorem pj:inner f (a++b) k s=inner f b k (inner f a k s):=List.foldl_append
theorem zD:(inn f k s q).ps=s.ps:=by unfold inn;split<;>rfl
theorem cX:∀{qs:List (Int × List Int)} {s:Mc},(inner f qs k s).ps=s.ps
 | [],s=>rfl
 | q::qs,s=>by
  show (inner f qs k (inn f k s q)).ps=_
  rw[cX,zD]
theorem fX:∀{k:Nat},(eX f qs k).ps.length=k
 | 0=>rfl
 | k + 1=>by
  show ((inner f qs k (eX f qs k)).ps++[_]).length=_
  rw[cX,aaA,fX];rfl
theorem vR{k:Nat}(h:f.rows[k]?=some r):pl.pg.call (n + 2) 23 [Rl f.rows,Lo f,It k]=some (It (sz f k),[Rl f.rows,Lo f,It k]):=by
 unfold sz;rw[h]
 have hc:=ae (C:=pl.pg.ct (n + 1)) (f:=22) (es:=.cons Et .nil) (ρ:=[some (Rl f.rows),some (Lo f),some (It k)]) (aa (aO rfl rfl rfl (bC (iQ h))) ag) rfl (nz r) rfl
 cases hg:r.gr with
 | true =>
  rw[hg]at hc
  rw[if_pos (.inl hg)]
  exact af rfl rfl (aj (ah (gD (a9 (bb hc)) rfl) rfl)) rfl
 | false =>
  rw[hg]at hc
  have hl:ba (pl.pg.ct (n + 1)) eeq [some (Rl f.rows),some (Lo f),some (It k)]=some (decide ((k:Int)∈f.longs),[some (Rl f.rows),some (Lo f),some (It k)]):=aw (ar rfl rfl rfl rfl Ey)
  cases hb:decide ((k:Int)∈f.longs) with
  | true =>
   rw[hb]at hl
   rw[if_pos (.inr (Daa hb))]
   exact af rfl rfl (aj (ah (gD (aI (bb hc) hl) rfl) rfl)) rfl
  | false =>
   rw[hb]at hl
   rw[if_neg fun z=>z.elim (fun z=>absurd (hg.symm.trans z) aah) fun z=>Dad hb z]
   exact af rfl rfl (aj (ah (kA (aI (bb hc) hl) rfl) rfl)) rfl
theorem gP:∀{qs:Pz} {s:Mc},(inner f qs k s).bs.length=s.bs.length + qs.countP fun q=>decide (q.1=(k:Int))
 | [],s=>rfl
 | q::qs,s=>by
  show (inner f qs k (inn f k s q)).bs.length=_
  rw[gP,abN]
  unfold inn
  by_cases h:q.1=(k:Int)
  ·rw[if_pos h,Dac h,if_pos rfl]
   show (s.bs++[_]).length + _=_
   rw[aaA,aa0];omega
  ·rw[if_neg h,Dab h,if_neg aah];omega
theorem gQ:∀{qs:Pz},(∀q∈qs,0<=q.1)->qs.countP (fun q=>decide (q.1 < ((k + 1:Nat):Int)))=qs.countP (fun q=>decide (q.1 < (k:Int))) + qs.countP fun q=>decide (q.1=(k:Int))
 | [],_=>rfl
 | q::qs,h=>by
  rw[abN,abN,abN,gQ fun q hq=>h q (aai _ hq)]
  simp only[decide_eq_true_eq]
  split<;>split<;>split<;>omega
theorem fH(h:∀q∈qs,0<=q.1):∀{k:Nat},(eX f qs k).bs.length=qs.countP fun q=>decide (q.1 < (k:Int))
 | 0=>by
  show 0=_
  rw[eq_comm,List.countP_eq_zero]
  intro q hq z
  have:=h q hq
  have:=Daa z
  omega
 | k + 1=>by
  show (inner f qs k (eX f qs k)).bs.length=_
  rw[gP,fH h,gQ h]
abbrev Pq(qs:Pz):OD:=.fz (.list (qs.map Po))
abbrev qE(f:Cf)(qs:Pz)(s:Mc)(k:Nat)(o7 o8:Option OD):DEnv:=[some (Rl f.rows),some (Lo f),some (Pq qs),some (Il s.ps),some (Il s.bs),some (It s.pl),some (It k),o7,o8]
abbrev Ez:E:=.or eet eaw
theorem vS(r:R):iz .nin (.str r.wd) (.tuple [.str "go",.str "stop"])=some r.fal:=by
 show some (!(decide ("go"=r.wd) || (decide ("stop"=r.wd) || false)))=some (!decide (r.wd="go") && !decide (r.wd="stop"))
 rw[Bool.or_false,Bool.not_or,decide_eq_decide.mpr (eq_comm (a:=Str.ofString "go")),decide_eq_decide.mpr (eq_comm (a:=Str.ofString "stop"))]
theorem EA{n:Nat}{f:Cf}{qs:Pz}{s:Mc}{k:Nat}{o7 o8:Option OD}(h:k<=f.rows.length):ev (pl.pg.ct n) Ez (qE f qs s k o7 o8)=some (.val (.fz (.bool (wU f.rows k))),qE f qs s k o7 o8):=by
 cases k with
 | zero=>exact wM rfl
 | succ k =>
  have e0:((k + 1:Nat):Int) - 1=(k:Int):=by omega
  have e1:wU f.rows (k + 1)=(f.rows[k]).fal:=by show (f.rows[k]?).elim true R.fal=_;rw[aan h];rfl
  rw[e1]
  exact wN (ar rfl rfl rfl rfl (show some (decide (((k + 1:Nat):Int)=0))=some false by rw[Dab (by omega)])) (ar (dx:=.str (f.rows[k]).wd) (dy:=.tuple [.str "go",.str "stop"]) (aO (aO rfl rfl rfl (bC (d:=(f.rows[k]).d) (by rw[e0];exact iQ (aan (by omega))))) rfl rfl (by rw[R.d_is];exact aM aS)) rfl rfl rfl (vS _))
abbrev CY:Ss:=.cons (.iff ee2 (.cons (.set 5 (.bop .add (.nm 5) (.bop .mul (.int 2) (.blt .int (.cons Ez .nil))))) eae) .nil) .nil
abbrev Tn(q:Int × List Int):OD:=.fz (.tuple (q.2.map PyData.int))
abbrev qF(f:Cf)(qs:Pz)(s:Mc)(k:Nat)(q:Int × List Int):DEnv:=qE f qs s k (some (It q.1)) (some (Tn q))
theorem vT(h:k<=f.rows.length)(hb:s.bs.length < 1000):aN (pl.pg.ct n) CY (qF f qs s k q)=some (.nx,qF f qs (inn f k s q) k q):=by
 unfold inn
 by_cases e:q.1=(k:Int)
 ·rw[if_pos e]
  have ho:=EA (n:=n) (qs:=qs) (s:=s) (o7:=some (It q.1)) (o8:=some (Tn q)) h
  refine ab (aC (aw (ar rfl rfl rfl rfl (show some (decide (q.1=(k:Int)))=some true by rw[Dac e]))) ?_) rfl
  have hi:∀v,wU f.rows k=v->bD (pl.pg.ct n) (.set 5 (.bop .add (.nm 5) (.bop .mul (.int 2) (.blt .int (.cons Ez .nil))))) (qF f qs s k q)=some (.nx,qF f qs ⟨s.ps,s.bs,if v=true then s.pl + 2 else s.pl⟩ k q):=fun v hv=>by
   rw[hv]at ho
   cases v with
   | true=>exact s_setQ (ai rfl (ai rfl (au (aa ho ag) rfl rfl) rfl rfl rfl) rfl rfl rfl) rfl rfl rfl
   | false=>exact s_setQ (ai (d:=.int s.pl) rfl (ai rfl (au (aa ho ag) rfl rfl) rfl rfl rfl) rfl rfl (by show some (PyData.int (s.pl + 0))=_;rw[Int.add_zero])) rfl rfl rfl
  refine ab (hi _ rfl) ?_
  generalize hq:(if wU f.rows k=true then s.pl + 2 else s.pl)=p
  have hfw:fw f.rows k s.pl=p + 2 - p % 2:=by unfold fw;rw[hq]
  rw[hfw]
  refine ab (s_setQ (ai rfl (ai rfl rfl rfl rfl (cL (by decide))) rfl rfl rfl) rfl rfl rfl) ?_
  refine ab (cH rfl rfl rfl rfl (by rw[aaa];exact abC hb (by decide)) (by show _=[some (Rl f.rows),some (Lo f),some (Pq qs),some (Il s.ps),some (Il (s.bs++[p + 2 - p % 2])),some (It (p + 2 - p % 2)),some (It k),some (It q.1),some (Tn q)];rw[eS];rfl)) ?_
  exact ab (s_setQ (ai rfl (ai rfl (au rfl rfl (by show some (PyData.int ((q.2.map PyData.int).length:Nat))=_;rw[aaa])) rfl rfl (dD (.inl (by decide)))) rfl rfl rfl) rfl rfl rfl) rfl
 ·rw[if_neg e]
  exact ab (aq (aw (ar rfl rfl rfl rfl (show some (decide (q.1=(k:Int)))=some false by rw[Dab e]))) rfl) rfl
abbrev Ft(n:Nat)(d:PyData)(ρ':DEnv):Option (Fl × DEnv):=(bj (.tp [7,8]) (.fz d) ρ').bind fun ρ1=>aN (pl.pg.ct n) CY ρ1
theorem nG(h:k<=f.rows.length):∀{rs:Pz} {s:Mc} {o7 o8:Option OD},s.bs.length + rs.length < 1000->∃o7' o8',bx (Ft n) (rs.map Po) (qE f qs s k o7 o8)=some (.nx,qE f qs (inner f rs k s) k o7' o8')
 | [],s,o7,o8,_=>⟨o7,o8,rfl⟩
 | q::rs,s,o7,o8,hb=>by
  rw[aap]at hb
  have e:Ft n (Po q) (qE f qs s k o7 o8)=some (.nx,qF f qs (inn f k s q) k q):=bs rfl (vT h (by omega))
  have hb':(inn f k s q).bs.length + rs.length < 1000:=by
   unfold inn
   split
   ·show (s.bs++[_]).length + _ < _
    rw[aaA,aa0];omega
   ·omega
  obtain⟨o7',o8',e'⟩:=nG h hb'
  exact⟨o7',o8',bs e e'⟩
abbrev qG(f:Cf)(qs:Pz)(s:Mc)(o6 o7 o8:Option OD):DEnv:=[some (Rl f.rows),some (Lo f),some (Pq qs),some (Il s.ps),some (Il s.bs),some (It s.pl),o6,o7,o8]
abbrev ouB:Ss:=.cons (.fr (.tp [7,8]) (.seq (.nm 2)) CY) eaf
abbrev Fu(n:Nat)(d:PyData)(ρ':DEnv):Option (Fl × DEnv):=(bj (.nm 6) (.fz d) ρ').bind fun ρ1=>aN (pl.pg.ct n) ouB ρ1
theorem wV:ba (pl.pg.ct n) E4 (qE f qs s k o7 o8)=some (decide ((k:Int) < (f.rows.length:Int)),qE f qs s k o7 o8):=aw (ar rfl (au rfl rfl (by show some (PyData.int ((f.rows.map R.d).length:Nat))=_;rw[aaa])) rfl rfl rfl)
theorem wW(h:k<=f.rows.length)(hb:s.bs.length + qs.length < 1000):∃o7' o8',bD (pl.pg.ct n) (.fr (.tp [7,8]) (.seq (.nm 2)) CY) (qE f qs s k o7 o8)=some (.nx,qE f qs (inner f qs k s) k o7' o8'):=by
 obtain⟨o7',o8',e⟩:=nG h hb
 exact⟨o7',o8',s_frQ (bc rfl rfl rfl) e⟩
theorem vU{k:Nat}(h:k < f.rows.length)(hb:s.bs.length + qs.length < 1000)(hp:s.ps.length < 1000):∃o6' o7' o8',Fu (n + 2) (.int k) (qG f qs s o6 o7 o8)=some (.nx,qG f qs (CF f k (inner f qs k s)) o6' o7' o8'):=by
 obtain⟨o7',o8',e⟩:=wW (aa4 h) hb
 have hp':(inner f qs k s).ps.length < 1000000:=by rw[cX];omega
 generalize inner f qs k s=t at e hp'
 have ht:=wV (n:=n + 2) (f:=f) (qs:=qs) (s:=t) (k:=k) (o7:=o7') (o8:=o8')
 rw[Dac (by omega)]at ht
 refine⟨some (It k),o7',o8',bs rfl (ab e (ab (aC ht (ab (cH (ρ3:=qE f qs ⟨t.ps++[t.pl],t.bs,t.pl⟩ k o7' o8') rfl rfl rfl rfl (by rw[aaa];exact hp') ?_) (ab (s_setQ (ai rfl (ae rfl rfl (vR (aan h)) rfl) rfl rfl rfl) rfl rfl rfl) rfl))) rfl))⟩
 show _=[some (Rl f.rows),some (Lo f),some (Pq qs),some (Il (t.ps++[t.pl])),some (Il t.bs),some (It t.pl),some (It k),o7',o8']
 rw[eS];rfl
theorem nH{f:Cf}{qs:Pz}(h0:∀q∈qs,0<=q.1)(hq:qs.length<=300)(hN:f.rows.length<=200):∀{m k:Nat} {o6 o7 o8:Option OD},k + m=f.rows.length->∃o6' o7' o8',bx (Fu (n + 2)) (bW k (m + 1)) (qG f qs (eX f qs k) o6 o7 o8)=some (.nx,qG f qs (inner f qs f.rows.length (eX f qs f.rows.length)) o6' o7' o8')
 | 0,k,o6,o7,o8,h=>by
  obtain rfl:k=f.rows.length:=h
  have hb:(eX f qs f.rows.length).bs.length + qs.length < 1000:=by
   rw[fH h0]
   have:=abO (p:=fun q:Int × List Int=>decide (q.1 < (f.rows.length:Int))) (l:=qs)
   omega
  obtain⟨o7',o8',e⟩:=wW (aac _) hb
  have ht:=wV (n:=n + 2) (f:=f) (qs:=qs) (s:=inner f qs f.rows.length (eX f qs f.rows.length)) (k:=f.rows.length) (o7:=o7') (o8:=o8')
  rw[Dab (by omega)]at ht
  refine⟨some (It f.rows.length),o7',o8',?_⟩
  rw[bJ]
  exact bs (bs rfl (ab e (ab (aq ht rfl) rfl))) rfl
 | m + 1,k,o6,o7,o8,h=>by
  have hb:(eX f qs k).bs.length + qs.length < 1000:=by
   rw[fH h0]
   have:=abO (p:=fun q:Int × List Int=>decide (q.1 < (k:Int))) (l:=qs)
   omega
  obtain⟨a,b,c,e⟩:=vU (o7:=o7) (o8:=o8) (show k < f.rows.length by omega) hb (by rw[fX];omega)
  obtain⟨a',b',c',e'⟩:=nH (n:=n) h0 hq hN (m:=m) (k:=k + 1) (o6:=a) (o7:=b) (o8:=c) (by omega)
  refine⟨a',b',c',?_⟩
  rw[bJ]
  exact bs e e'
abbrev Fv(s:Mc):OD:=.fz (.tuple [.list (s.ps.map PyData.int),.list (s.bs.map PyData.int),.int s.pl])
abbrev Dl(gs:List Int):OD:=.fz (.list (gs.map PyData.int))
theorem kI(h0:∀q∈qs,0<=q.1)(hq:qs.length<=300)(hN:f.rows.length<=200):pl.pg.call (n + 3) 24 [Rl f.rows,Lo f,Pq qs]=some (Fv (inner f qs f.rows.length (eX f qs f.rows.length)),[Rl f.rows,Lo f,Pq qs]):=by
 obtain⟨o6,o7,o8,e⟩:=nH h0 hq hN (aaV _)
 generalize inner f qs f.rows.length (eX f qs f.rows.length)=s at e
 have hl:(((f.rows.length:Nat):Int) + 1).toNat=f.rows.length + 1:=by omega
 refine af rfl rfl (ab (gG rfl rfl rfl rfl) (ab (s_frQ (gH (ai (au rfl rfl (by show some (PyData.int ((f.rows.map R.d).length:Nat))=_;rw[aaa])) rfl rfl rfl rfl) rfl (by omega)) (by rw[hl];exact e)) (aj (ah (bY (zs:=[Dl s.ps,Dl s.bs,It s.pl]) (ρ2:=[some (Rl f.rows),some (Lo f),some (Pq qs),some (Dl s.ps),some (Dl s.bs),some (It s.pl),o6,o7,o8]) rfl rfl ?_ rfl) rfl)))) rfl
 have e1:own1 (qG f qs s o6 o7 o8) (.rf 3)=some (Dl s.ps,[some (Rl f.rows),some (Lo f),some (Pq qs),some (Dl s.ps),some (Il s.bs),some (It s.pl),o6,o7,o8]):=by
  show (frz1 _ (.rf 3)).map _=_
  rw[frz_rf rfl (be _) rfl];rfl
 have e2:own1 [some (Rl f.rows),some (Lo f),some (Pq qs),some (Dl s.ps),some (Il s.bs),some (It s.pl),o6,o7,o8] (.rf 4)=some (Dl s.bs,[some (Rl f.rows),some (Lo f),some (Pq qs),some (Dl s.ps),some (Dl s.bs),some (It s.pl),o6,o7,o8]):=by
  show (frz1 _ (.rf 4)).map _=_
  rw[frz_rf rfl (be _) rfl];rfl
 have e3:mapR own1 [some (Rl f.rows),some (Lo f),some (Pq qs),some (Dl s.ps),some (Il s.bs),some (It s.pl),o6,o7,o8] [.rf 4,.val (It s.pl)]=some ([Dl s.bs,It s.pl],[some (Rl f.rows),some (Lo f),some (Pq qs),some (Dl s.ps),some (Dl s.bs),some (It s.pl),o6,o7,o8]):=bs e2 rfl
 exact bs e1 (by show Option.map _ (mapR own1 _ _)=_;rw[e3];rfl)
theorem CG{α:Type}{f:α->PyData}{l:List α}:lh (.list (l.map f))=some l.length:=by
 show some (l.map f).length=_
 rw[aaa]
theorem blen{α:Type}{f:α->PyData}{l:List α}:pD .len [.list (l.map f)]=some (.int l.length):=by
 show (dJ [PyData.list (l.map f)]).bind (fun d=>(lh d).bind fun n=>some (PyData.int n))=_
 exact bs rfl (bs CG rfl)
theorem sF(h:a ∉ us.map (·.1)):bN (.inl a) (.int v) (us.map fun u=>.inl u.1) (us.map fun u=>It u.2)=((us++[(a,v)]).map fun u=>.inl u.1,(us++[(a,v)]).map fun u=>It u.2):=by
 have hn:¬ ((us.map fun u=>(Sum.inl u.1:Key)).any fun q=>decide (q=.inl a))=true:=by
  intro hh
  obtain⟨q,hq,e⟩:=abh.mp hh
  obtain⟨u,hu,rfl⟩:=aay.mp hq
  have:=Daa e
  cases this
  exact h (aay.mpr ⟨u,hu,rfl⟩)
 unfold bN
 rw[if_neg hn,aaw,aaw];rfl
theorem zE(h0:ρ[i]?.join=some (It a))(h1:ev C e ρ=some (x,ρ1))(h2:ao ρ1 x=some d)(h3:uO o a d=some r)(h4:ρ1.set i (some (It r))=ρ2):bD C (.aug i o e) ρ=some (.nx,ρ2):=bs h0 (bs rfl (bs rfl (bs h1 (bs h2 (bs h3 (by rw[<- h4]))))))
theorem s_asgQ(h:ev C e ρ=some (x,ρ1))(ho:own1 ρ1 x=some (z,ρ2))(ha:bj t z ρ2=some ρ3):bD C (.asg t e) ρ=some (.nx,ρ3):=bs h (bs ho (bs ha rfl))
theorem zF(h:ia C it ρ=some (ds,ρ1))(hz:ds.length < 1000000)(hc:cy ρ1 fr=some zc)(hd:fJ (j8 C tg ke ve) ds ([],[]) (List.replicate nt none++zc.1)=some ((ks,vs),ρ2))(hi:i < (dX zc.2 fr (ρ2.drop nt)).length)(hr:(dX zc.2 fr (ρ2.drop nt)).set i (some (.dic ks vs))=ρ3):bD C (.sdc i nt fr it tg ke ve) ρ=some (.nx,ρ3):=bs h (bg hz (bs hc (bs hd (bg hi (by rw[<- hr])))))
abbrev Qk(qs:Pz):List Key:=(qs.map fun q=>(q.1,(q.2.length:Int))).map fun u=>.inl u.1
abbrev Qv(qs:Pz):List OD:=(qs.map fun q=>(q.1,(q.2.length:Int))).map fun u=>It u.2
abbrev Qd(qs:Pz):OD:=.dic (Qk qs) (Qv qs)
theorem sH:∀{qs ps:Pz} {o0 o1:Option OD},(ps++qs).Pairwise (fun x y=>x.1 < y.1)->∃o0' o1',fJ (j8 C (.tp [0,1]) (.nm 0) ed3) (qs.map Po) (Qk ps,Qv ps) [o0,o1]=some ((Qk (ps++qs),Qv (ps++qs)),[o0',o1'])
 | [],ps,o0,o1,_=>⟨o0,o1,by rw[aar];rfl⟩
 | q::qs,ps,o0,o1,h=>by
  have hn:q.1 ∉ (ps.map fun q=>(q.1,(q.2.length:Int))).map (·.1):=fun z=>by
   obtain⟨u,hu,e⟩:=aay.mp z
   obtain⟨x,hx,rfl⟩:=aay.mp hu
   have:=(acf.mp h).2.2 x hx q aag
   have e:x.1=q.1:=e
   omega
  have e:=sF (v:=(q.2.length:Int)) hn
  obtain⟨o0',o1',e'⟩:=sH (ps:=ps++[q]) (by rw[aaf];exact h)
  rw[aaf]at e'
  refine⟨o0',o1',bs (x:=((Qk (ps++[q]),Qv (ps++[q])),[some (It q.1),some (Tn q)])) ?_ e'⟩
  refine bs rfl (bs rfl (bs (au rfl rfl (by show some (PyData.int ((q.2.map PyData.int).length:Nat))=_;rw[aaa])) (bs rfl (bs rfl (bs rfl (bg rfl ?_))))))
  have em:(ps++[q]).map (fun q=>(q.1,(q.2.length:Int)))=ps.map (fun q=>(q.1,(q.2.length:Int)))++[(q.1,(q.2.length:Int))]:=aaw
  show some (bN (.inl q.1) (.int (q.2.length:Int)) (Qk ps) (Qv ps),[some (It q.1),some (Tn q)])=some ((List.map _ ((ps++[q]).map _),List.map _ ((ps++[q]).map _)),_)
  rw[em,e]
abbrev zP(f:Cf)(qs:Pz)(s:Mc)(o7:Option OD):DEnv:=[some (Rl f.rows),some (Lo f),some (Pq qs),some (Qd qs),some (Il s.ps),some (Il s.bs),some (It s.pl),o7]
abbrev zS:Ss:=match F_placed.body with | .cons _ (.cons _ (.cons _ (.cons _ (.cons (.fr _ _ b) _))))=>b | _=>.nil
theorem wX:ba (pl.pg.ct n) ecv (zP f qs s (some (It k)))=some (decide ((k:Int) < (f.rows.length:Int)),zP f qs s (some (It k))):=aw (ar rfl (au rfl rfl blen) rfl rfl rfl)
theorem wY(h:((Qk qs).any fun q=>decide (q=.inl (k:Int)))=b):ba (pl.pg.ct n) ET (zP f qs s (some (It k)))=some (b,zP f qs s (some (It k))):=by
 rw[<- h];rfl
theorem Qk_any:((Qk qs).any fun q=>decide (q=.inl (k:Int)))=true ↔ ∃q∈qs,q.1=(k:Int):=by
 rw[abh]
 constructor
 ·rintro⟨x,hx,e⟩
  obtain⟨u,hu,rfl⟩:=aay.mp hx
  obtain⟨q,hq,rfl⟩:=aay.mp hu
  have:=Daa e
  injection this with this
  exact⟨q,hq,this⟩
 ·rintro⟨q,hq,e⟩
  exact⟨.inl q.1,aay.mpr ⟨_,aay.mpr ⟨q,hq,rfl⟩,rfl⟩,Dac (by rw[e])⟩
theorem vV(h:∀x∈a,x.1≠(k:Int))(e:q.1=(k:Int)):(Qk (a++q::b)).findIdx? (fun q=>decide (q=.inl (k:Int)))=some a.length:=by
 induction a with
 | nil=>exact (abH).trans (if_pos (Dac (show (Sum.inl q.1:Key)=.inl (k:Int) by rw[e])))
 | cons x a ih =>
  have hx:¬ (decide ((Sum.inl x.1:Key)=.inl (k:Int)))=true:=fun z=>h x aag (by have:=Daa z;injection this)
  refine (abH).trans ((if_neg hx).trans ?_)
  exact congrArg (Option.map fun i=>i + 1) (ih fun y hy=>h y (aai _ hy))
theorem CH(hp:qs.Pairwise fun x y=>x.1 < y.1)(hk:k<=f.rows.length)(hb:s.bs.length < 1000)(K:aN (pl.pg.ct (n + 3)) sb (zP f qs (inner f qs k s) (some (It k)))=r):aN (pl.pg.ct (n + 3)) (.cons eac sb) (zP f qs s (some (It k)))=r:=by
 by_cases h:∃q∈qs,q.1=(k:Int)
 ·have hd:=wY (n:=n + 3) (f:=f) (s:=s) (Qk_any.mpr h)
  obtain⟨q,hq,e⟩:=h
  obtain⟨a,b,rfl⟩:=List.append_of_mem hq
  have ha:∀x∈a,x.1≠(k:Int):=fun x hx=>by have:=(acf.mp hp).2.2 x hx q aag;omega
  have hb':∀x∈b,x.1≠(k:Int):=fun x hx=>by have:=(aaS.mp (acf.mp hp).2.1).1 x hx;omega
  have hi:inner f (a++q::b) k s=⟨s.ps,s.bs++[fw f.rows k s.pl],fw f.rows k s.pl + 2 * q.2.length⟩:=by
   rw[pj,eT ha]
   show inner f b k (inn f k s q)=_
   rw[eT hb']
   exact if_pos e
  have hv:(Qv (a++q::b))[a.length]?=some (It q.2.length):=by
   rw[aav,aav,abA (aac _),Nat.sub_self];rfl
  have hpa:∀t:Mc,cG (zP f (a++q::b) t (some (It k))) 3 [.key 7]=some (Qd (a++q::b),[a.length],It q.2.length):=fun t=>by
   refine bs rfl (bs ?_ (bs hv rfl))
   exact bs rfl (bs rfl (bs rfl (bs rfl (vV ha e))))
  rw[hi]at K
  refine ab (aC hd (ab (cH (ρ3:=zP f (a++q::b) ⟨s.ps,s.bs++[fw f.rows k s.pl],s.pl⟩ (some (It k))) rfl (ae rfl rfl (vQ hk) rfl) rfl rfl (by rw[aaa];omega) ?_) (ab (s_setQ (ai (aO rfl rfl rfl (sC rfl ?_)) (ai rfl (En (hpa _) rfl) rfl rfl (dD (.inl (by decide)))) rfl rfl rfl) rfl rfl rfl) rfl))) K
  ·show _=[some (Rl f.rows),some (Lo f),some (Pq (a++q::b)),some (Qd (a++q::b)),some (Il s.ps),some (Il (s.bs++[fw f.rows k s.pl])),some (It s.pl),some (It k)]
   rw[eS];rfl
  ·rw[aaw]
   have e0:ixN (s.bs.map It++[fw f.rows k s.pl].map It).length (-1)=some (s.bs.map It).length:=by
    unfold ixN
    rw[if_neg (by decide),aaA,aaa,if_pos (by simp;omega)]
    congr 1
    simp
    omega
   exact bs e0 List.getElem?_concat_length
 ·have hd:=wY (n:=n + 3) (f:=f) (s:=s) (by rw[Bool.eq_false_iff];exact fun z=>h (Qk_any.mp z))
  rw[eT fun q hq e=>h ⟨q,hq,e⟩]at K
  exact ab (aq hd rfl) K
theorem sI(hp:qs.Pairwise fun x y=>x.1 < y.1)(h0:∀q∈qs,0<=q.1)(hq:qs.length<=300)(hN:f.rows.length<=200):∀{m k:Nat} {o7:Option OD},k + m=f.rows.length->∃o7',bx (fun d ρ'=>(bj (.nm 7) (.fz d) ρ').bind fun ρ1=>aN (pl.pg.ct (n + 3)) zS ρ1) (bW k (m + 1)) (zP f qs (eX f qs k) o7)=some (.nx,zP f qs (inner f qs f.rows.length (eX f qs f.rows.length)) o7')
 | 0,k,o7,h=>by
  obtain rfl:k=f.rows.length:=h
  have hb:(eX f qs f.rows.length).bs.length < 1000:=by
   rw[fH h0]
   have:=abO (p:=fun q:Int × List Int=>decide (q.1 < (f.rows.length:Int))) (l:=qs)
   omega
  have ht:=wX (n:=n + 3) (f:=f) (qs:=qs) (s:=inner f qs f.rows.length (eX f qs f.rows.length)) (k:=f.rows.length)
  rw[Dab (by omega)]at ht
  refine⟨some (It f.rows.length),?_⟩
  rw[bJ]
  exact bs (bs rfl (CH hp (aac _) hb (ab (aq ht rfl) rfl))) rfl
 | m + 1,k,o7,h=>by
  have hk:k < f.rows.length:=by omega
  have hb:(eX f qs k).bs.length < 1000:=by
   rw[fH h0]
   have:=abO (p:=fun q:Int × List Int=>decide (q.1 < (k:Int))) (l:=qs)
   omega
  have ht:=wX (n:=n + 3) (f:=f) (qs:=qs) (s:=inner f qs k (eX f qs k)) (k:=k)
  rw[Dac (by omega)]at ht
  have e1:eX f qs (k + 1)=CF f k (inner f qs k (eX f qs k)):=rfl
  have hl:(inner f qs k (eX f qs k)).ps.length < 1000000:=by rw[cX,fX];omega
  obtain⟨o',e'⟩:=sI hp h0 hq hN (m:=m) (k:=k + 1) (o7:=some (It k)) (by omega)
  rw[e1]at e'
  refine⟨o',?_⟩
  rw[bJ]
  refine bs (x:=(Fl.nx,zP f qs (CF f k (inner f qs k (eX f qs k))) (some (It k)))) (bs (x:=zP f qs (eX f qs k) (some (It k))) rfl (CH hp (aa4 hk) hb ?_)) e'
  generalize inner f qs k (eX f qs k)=s at *
  refine ab (aC ht (ab (cH (ρ3:=zP f qs ⟨s.ps++[s.pl],s.bs,s.pl⟩ (some (It k))) rfl rfl rfl rfl (by rw[aaa];exact hl) ?_) (ab (zE (r:=s.pl + sz f k) (ρ2:=zP f qs (CF f k s) (some (It k))) rfl (ae (ρ3:=zP f qs ⟨s.ps++[s.pl],s.bs,s.pl⟩ (some (It k))) rfl rfl (zB (n:=n + 1) (aan hk)) rfl) rfl rfl rfl) rfl))) rfl
  show _=[some (Rl f.rows),some (Lo f),some (Pq qs),some (Qd qs),some (Il (s.ps++[s.pl])),some (Il s.bs),some (It s.pl),some (It k)]
  rw[eS];rfl
theorem vW(hp:qs.Pairwise fun x y=>x.1 < y.1)(h0:∀q∈qs,0<=q.1)(hq:qs.length<=300)(hN:f.rows.length<=200):pl.pg.call (n + 4) 7 [Rl f.rows,Lo f,Pq qs]=some (Fv (inner f qs f.rows.length (eX f qs f.rows.length)),[Rl f.rows,Lo f,Pq qs]):=by
 obtain⟨o7,e⟩:=sI hp h0 hq hN (aaV _)
 generalize inner f qs f.rows.length (eX f qs f.rows.length)=s at e
 have hl:(((f.rows.length:Nat):Int) + 1).toNat=f.rows.length + 1:=by omega
 obtain⟨a0,a1,ed⟩:=sH (ps:=[]) hp
 have hd:bD (pl.pg.ct (n + 3)) ebv [some (Rl f.rows),some (Lo f),some (Pq qs),none,none,none,none,none]=some (.nx,[some (Rl f.rows),some (Lo f),some (Pq qs),some (Qd qs),none,none,none,none]):=zF (bc rfl rfl rfl) (by rw[aaa];omega) rfl ed (by show 3 < 8;decide) rfl
 refine af rfl rfl (ab hd (ab rfl (ab rfl (ab rfl (ab (s_frQ (gH (ai (au rfl rfl blen) rfl rfl rfl rfl) rfl (by omega)) (by rw[hl];exact e)) (aj (ah (bY (zs:=[Dl s.ps,Dl s.bs,It s.pl]) (ρ2:=[some (Rl f.rows),some (Lo f),some (Pq qs),some (Qd qs),some (Dl s.ps),some (Dl s.bs),some (It s.pl),o7]) rfl rfl ?_ rfl) rfl))))))) rfl
 have e1:own1 (zP f qs s o7) (.rf 4)=some (Dl s.ps,[some (Rl f.rows),some (Lo f),some (Pq qs),some (Qd qs),some (Dl s.ps),some (Il s.bs),some (It s.pl),o7]):=by
  show (frz1 _ (.rf 4)).map _=_
  rw[frz_rf rfl (be _) rfl];rfl
 have e2:own1 [some (Rl f.rows),some (Lo f),some (Pq qs),some (Qd qs),some (Dl s.ps),some (Il s.bs),some (It s.pl),o7] (.rf 5)=some (Dl s.bs,[some (Rl f.rows),some (Lo f),some (Pq qs),some (Qd qs),some (Dl s.ps),some (Dl s.bs),some (It s.pl),o7]):=by
  show (frz1 _ (.rf 5)).map _=_
  rw[frz_rf rfl (be _) rfl];rfl
 have e3:mapR own1 [some (Rl f.rows),some (Lo f),some (Pq qs),some (Qd qs),some (Dl s.ps),some (Il s.bs),some (It s.pl),o7] [.rf 5,.val (It s.pl)]=some ([Dl s.bs,It s.pl],[some (Rl f.rows),some (Lo f),some (Pq qs),some (Qd qs),some (Dl s.ps),some (Dl s.bs),some (It s.pl),o7]):=bs e2 rfl
 exact bs e1 (by show Option.map _ (mapR own1 _ _)=_;rw[e3];rfl)
def At(M:Nat)(d:PyData):Prop:=d=.none\/(∃b,d=.bool b)\/(∃i,d=.int i/\i.natAbs<=M)\/∃x,d=.str x/\(∀c∈x.cps.toList,c < 16 ^ 8)/\x.cps.size<=24
def T(M:Nat):Nat->PyData->Prop
 | 0,d=>At M d
 | n + 1,d=>At M d\/∃ds,(d=.list ds\/d=.tuple ds)/\∀x∈ds,T M n x
theorem At.mono{M M':Nat}{d:PyData}(h:At M d)(l:M<=M'):At M' d:=by
 rcases h with h | h | ⟨i,h,h'⟩ | h
 ·exact .inl h
 ·exact .inr (.inl h)
 ·exact .inr (.inr (.inl ⟨i,h,by omega⟩))
 ·exact .inr (.inr (.inr h))
theorem T.at{M n:Nat}{d:PyData}(h:At M d):T M n d:=by cases n with | zero=>exact h | succ n=>exact .inl h
theorem T.mono{M M':Nat}(l:M<=M'):∀{n n':Nat} {d:PyData},T M n d->n<=n'->T M' n' d
 | 0,_,_,h,_=>T.at (At.mono h l)
 | n + 1,0,_,_,h=>absurd h (by omega)
 | n + 1,n' + 1,d,h,hn=>by
  rcases h with h | ⟨ds,e,h⟩
  ·exact .inl (h.mono l)
  ·exact .inr ⟨ds,e,fun x hx=>T.mono l (h x hx) (by omega)⟩
theorem sJ(i:Int):PyData.bulk (.int i)=0:=by simp[PyData.bulk]
theorem bU:∀{a:List PyData},a.length<=PyData.bulkAll a
 | []=>aaE _
 | x::a=>by have:=bU (a:=a);simp only[aap,PyData.bulkAll];omega
theorem CI{ds:List PyData}(h:∀x∈ds,x.showable=true/\x.hasDict=false/\x.leavesShort 24=true):PyData.showableAll ds=true/\PyData.hasDictAll ds=false/\PyData.leavesShortAll 24 ds=true:=by
 induction ds with
 | nil=>exact⟨rfl,rfl,rfl⟩
 | cons x ds ih =>
  obtain⟨a,b,c⟩:=h x aag
  obtain⟨a',b',c'⟩:=ih fun y hy=>h y (aai _ hy)
  simp only[PyData.showableAll,PyData.hasDictAll,PyData.leavesShortAll,a,b,c,a',b',c']
  exact⟨rfl,rfl,rfl⟩
theorem nI{n:Nat}:∀{ds:List PyData},(∀x∈ds,x.depth<=n)->PyData.depthAll ds<=n
 | [],_=>aaE _
 | x::ds,h=>by
  have h1:=h x aag
  have h2:=nI fun y hy=>h y (aai x hy)
  simp only[PyData.depthAll];omega
theorem T.shows{M:Nat}(hM:M < 10 ^ 20):∀{n:Nat} {d:PyData},T M n d->(d.showable=true/\d.hasDict=false/\d.leavesShort 24=true)/\d.depth<=n:=by
 have at':∀{d:PyData},At M d->(d.showable=true/\d.hasDict=false/\d.leavesShort 24=true)/\d.depth<=0:=fun {d} h=>by
  rcases h with rfl | ⟨b,rfl⟩ | ⟨i,rfl,hi⟩ | ⟨x,rfl,hx,_⟩
  ·exact⟨⟨rfl,rfl,rfl⟩,aac _⟩
  ·exact⟨⟨rfl,rfl,rfl⟩,aac _⟩
  ·obtain⟨f1,f2,f3⟩:=ui (i:=i) (k:=20) (by decide) (abY hi hM) (by decide)
   exact⟨⟨f1,f2,by simp only[PyData.leavesShort];exact Dac (aaq f3 (by decide))⟩,aac _⟩
  ·exact⟨⟨rfl,rfl,by simp only[PyData.leavesShort,aaP];exact fun c hc=>Dac (hx c hc)⟩,aac _⟩
 intro n
 induction n with
 | zero=>exact fun {d} h=>at' h
 | succ n ih =>
  intro d h
  rcases h with h | ⟨ds,e,h⟩
  ·obtain⟨a,b⟩:=at' h;exact⟨a,by omega⟩
  ·obtain⟨a,b,c⟩:=CI fun x hx=>(ih (h x hx)).1
   have hd:=nI fun x hx=>(ih (h x hx)).2
   rcases e with rfl | rfl
   ·exact⟨⟨by simpa only[PyData.showable] using a,by simpa only[PyData.hasDict] using b,by simpa only[PyData.leavesShort] using c⟩,by simp only[PyData.depth];omega⟩
   ·exact⟨⟨by simpa only[PyData.showable] using a,by simpa only[PyData.hasDict] using b,by simpa only[PyData.leavesShort] using c⟩,by simp only[PyData.depth];omega⟩
theorem T.shB{M n:Nat}{d:PyData}(hM:M < 10 ^ 20)(h:T M n d)(hn:n<=40)(hb:d.bulk<=300000):shB d=true:=by
 obtain⟨⟨a,b,c⟩,e⟩:=h.shows hM
 have l:=PyData.shown_le_bulk 24 (by decide) d c
 unfold L2.shB
 rw[a,b,Dac (show d.shown.length<=10000000 by omega),Dac (show d.depth<=40 by omega),Bool.not_false,aaI,aaI,aaI,Bool.or_true]
def inI(m:Nat)(x:PyData):Bool:=match x with | .int i=>decide (0<=i) && decide (i < m) | _=>false
theorem fY{C:Ct}{o o':Co}{a b c:E}{ρ ρ1 ρ2 ρ3:DEnv}{x y z:OR}{dx dy dz:PyData}{k:Bool}(h1:ev C a ρ=some (x,ρ1))(h2:ev C b ρ1=some (y,ρ2))(hx:ao ρ2 x=some dx)(hy:ao ρ2 y=some dy)(h:iz o dx dy=some true)(h3:ev C c ρ2=some (z,ρ3))(hy':ao ρ3 y=some dy)(hz:ao ρ3 z=some dz)(h':iz o' dy dz=some k):ev C (.cmp2 o o' a b c) ρ=some (.val (.fz (.bool k)),ρ3):=bs h1 (bs h2 (bs hx (bs hy (bs h (bs h3 (bs hy' (bs hz (bs h' rfl))))))))
theorem fZ{C:Ct}{o o':Co}{a b c:E}{ρ ρ1 ρ2:DEnv}{x y:OR}{dx dy:PyData}(h1:ev C a ρ=some (x,ρ1))(h2:ev C b ρ1=some (y,ρ2))(hx:ao ρ2 x=some dx)(hy:ao ρ2 y=some dy)(h:iz o dx dy=some false):ev C (.cmp2 o o' a b c) ρ=some (.val (.fz (.bool false)),ρ2):=bs h1 (bs h2 (bs hx (bs hy (bs h rfl))))
theorem zG{C:Ct}{ρ:DEnv}{e:E}{i:Int}{m:Nat}{j:Nat}(hj:ev C (.nm j) ρ=some (.val (It i),ρ))(he:ev C e ρ=some (.val (It m),ρ)):ev C (.cmp2 .le .lt (.int 0) (.nm j) e) ρ=some (.val (.fz (.bool (inI m (.int i)))),ρ):=by
 by_cases h0:0<=i
 ·exact fY (dx:=.int 0) (dy:=.int i) (dz:=.int m) rfl hj rfl rfl (show some (decide ((0:Int)<=i))=some true by rw[Dac h0]) he rfl rfl (show some (decide (i < (m:Int)))=_ by show _=some (decide (0<=i) && decide (i < (m:Int)));rw[Dac h0,aaK])
 ·have:=fZ (C:=C) (o:=.le) (o':=.lt) (a:=.int 0) (b:=.nm j) (c:=e) (ρ:=ρ) (dx:=.int 0) (dy:=.int i) rfl hj rfl rfl (show some (decide ((0:Int)<=i))=some false by rw[Dab h0])
  rw[this];show _=some (OR.val (.fz (.bool (decide (0<=i) && decide (i < (m:Int))))),ρ);rw[Dab h0,abe]
theorem jz{n:Nat}{x:PyData}{m:Nat}:pl.pg.call (n + 1) 0 [.fz x,It m]=some (.fz (.bool (inI m x)),[.fz x,It m]):=by
 cases x with
 | int i=>exact af (fn:=az) (ρ:=[some (It i),some (It m)]) rfl rfl (ab (aq rfl rfl) (aj (ah (zG rfl rfl) rfl))) rfl
 | none=>exact af (fn:=az) (ρ:=[some (.fz .none),some (It m)]) rfl rfl (aj (aC rfl rfl)) rfl
 | bool b=>exact af (fn:=az) (ρ:=[some (.fz (.bool b)),some (It m)]) rfl rfl (aj (aC rfl rfl)) rfl
 | str y=>exact af (fn:=az) (ρ:=[some (.fz (.str y)),some (It m)]) rfl rfl (aj (aC rfl rfl)) rfl
 | list ds=>exact af (fn:=az) (ρ:=[some (.fz (.list ds)),some (It m)]) rfl rfl (aj (aC rfl rfl)) rfl
 | tuple ds=>exact af (fn:=az) (ρ:=[some (.fz (.tuple ds)),some (It m)]) rfl rfl (aj (aC rfl rfl)) rfl
 | dict kv=>exact af (fn:=az) (ρ:=[some (.fz (.dict kv)),some (It m)]) rfl rfl (aj (aC rfl rfl)) rfl
theorem allB_map{α:Type}{g:α->Bool}:∀{l:List α},allB (l.map fun x=>.bool (g x))=some (l.map g)
 | []=>rfl
 | x::l=>by rw[aaj,allB,allB_map];rfl
theorem all_map{α:Type}{g:α->Bool}{l:List α}:pD .all [.list (l.map fun x=>.bool (g x))]=some (.bool (l.all g)):=by
 show (allB (l.map fun x=>.bool (g x))).bind _=_
 rw[allB_map]
 show some (PyData.bool ((l.map g).all id))=_
 rw[abP];rfl
theorem bp{ρ:DEnv}{ds:List PyData}:dF ρ [.val (.lst (ds.map OD.fz))]=some [.list ds]:=by
 show ((OD.lst (ds.map OD.fz)).dat).bind _=_
 rw[cp];rfl
def cE:PyData->Bool
 | .tuple ds=>decide (ds.length=2)
 | _=>false
theorem pairB_is(h:cE x=true):∃a b,x=.tuple [a,b]:=by
 cases x with
 | tuple ds =>
  have h:=Daa h
  match ds,h with
  | [a,b],_=>exact⟨a,b,rfl⟩
 | _=>cases h
theorem kJ:iz .eq (.int i) (.int j)=some (decide (i=j)):=rfl
theorem kK:iz .ne (.int i) (.int j)=some (!decide (i=j)):=rfl
theorem sL:pl.pg.call (n + 1) 8 [.fz x]=some (.fz (.bool (cE x)),[.fz x]):=by
 cases x with
 | tuple ds=>exact af rfl rfl (aj (ah (dN rfl (ar rfl rfl rfl rfl (by rw[kJ];show some (decide ((ds.length:Int)=2))=some (decide (ds.length=2));congr 2;exact propext ⟨fun z=>by omega,fun z=>by omega⟩))) rfl)) rfl
 | none=>exact af rfl rfl (aj (ah (bo rfl) rfl)) rfl
 | bool b=>exact af rfl rfl (aj (ah (bo rfl) rfl)) rfl
 | int b=>exact af rfl rfl (aj (ah (bo rfl) rfl)) rfl
 | str b=>exact af rfl rfl (aj (ah (bo rfl) rfl)) rfl
 | list b=>exact af rfl rfl (aj (ah (bo rfl) rfl)) rfl
 | dict b=>exact af rfl rfl (aj (ah (bo rfl) rfl)) rfl
def numB:PyData->Bool
 | .int i=>decide (100<=i) && decide (i < 100000000)
 | _=>false
theorem sM:pl.pg.call (n + 2) 9 [.fz x]=some (.fz (.bool (numB x)),[.fz x]):=by
 have e0:ev (pl.pg.ct (n + 1)) ec9 [some (.fz x)]=some (.val (.fz (.bool (inI 100000000 x))),[some (.fz x)]):=ae rfl rfl (jz ) rfl
 cases hb:inI 100000000 x with
 | false =>
  rw[hb]at e0
  have:numB x=false:=by
   cases x with
   | int i =>
    simp only[inI,acg,decide_eq_false_iff_not]at hb
    simp only[numB,acg,decide_eq_false_iff_not]
    omega
   | _=>rfl
  rw[this]
  exact af rfl rfl (aj (ah (bo e0) rfl)) rfl
 | true =>
  rw[hb]at e0
  cases x with
  | int i =>
   simp only[inI,aam,decide_eq_true_eq]at hb
   refine af rfl rfl (aj (ah (dN e0 (ar rfl rfl rfl rfl ?_)) rfl)) rfl
   show some (decide (99 < i))=some (decide (100<=i) && decide (i < 100000000))
   rw[Dac (show i < 100000000 by omega),ach]
   exact congrArg some (decide_eq_decide.mpr ⟨fun z=>by omega,fun z=>by omega⟩)
  | _=>cases hb
theorem fP:∀{ds:List PyData} {out:List PyData} {o:Option OD},∃o',aW (aX (pl.pg.ct (n + 2)) (.nm 0) .none eeh) ds out [o]=some (out++ds.map fun x=>.bool (numB x),[o'])
 | [],out,o=>⟨o,by show some (out,_)=some (out++[],_);rw[aar]⟩
 | x::ds,out,o=>by
  obtain⟨o',e⟩:=fP
  refine⟨o',bs (fF rfl (ae rfl rfl (sM ) rfl) rfl) ?_⟩
  rw[aaf]at e
  exact e
theorem eU:∀{ds:List PyData},ds.all numB=true->∃ns:List Int,ds=ns.map PyData.int/\cT ds=some ns/\∀x∈ns,100<=x/\x < 100000000
 | [],_=>⟨[],rfl,rfl,fun x h=>absurd h aak⟩
 | d::ds,h=>by
  rw[aaU,aam]at h
  obtain⟨ns,e1,e2,h2⟩:=eU h.2
  cases d with
  | int i =>
   have h1:=h.1
   simp only[numB,aam,decide_eq_true_eq]at h1
   refine⟨i::ns,by rw[aaj,<- e1],by show (inP (.int i)).bind _=_;exact bs rfl (bs e2 rfl),fun x hx=>?_⟩
   rcases aab.mp hx with rfl | hx
   ·exact h1
   ·exact h2 x hx
  | _=>exact absurd h.1 aah
def numsA(ds:List PyData):Option (List Int):=if (decide (1<=ds.length) && decide (ds.length<=100) && ds.all numB)=true then (cT ds).bind fun ns=>if unl ns=ns.length then some ns else none else none
def bt(N:Nat)(x:PyData):Option (Int × List Int):=(CS x).bind fun ds=>(eh ds).bind fun z=>(inP z.1).bind fun g=>(CS z.2).bind fun es=>if inI (N + 1) (.int g)=true then (numsA es).bind fun ns=>some (g,ns) else none
abbrev oE(x:PyData)(N:Nat)(o2 o3:Option OD):DEnv:=[some (.fz x),some (It N),o2,o3]
theorem nJ(h1:ev C a ρ=some (x,ρ1))(h2:ao ρ1 x=some d)(h3:rl d=some es)(h4:cT es=some ns)(h5:ns.length < 1000):ev C (.lset a) ρ=some (.val (.fz (.int (unl ns))),ρ1):=bs h1 (bs h2 (bs h3 (bs h4 (bg h5 rfl))))
theorem nK{k:Nat}(ha:ev C a ρ=some (.val (It k),ρ))(hh:ev C h ρ=some (.val (It hi),ρ))(e:hi=100):ev C (.cmp2 .le .le (.int 1) a h) ρ=some (.val (.fz (.bool (decide (1<=k) && decide (k<=100)))),ρ):=by
 subst e
 by_cases h0:1<=k
 ·exact fY rfl ha rfl rfl (show some (decide ((1:Int)<=k))=some true by rw[Dac (by omega)]) hh rfl rfl (show some (decide ((k:Int)<=100))=_ by rw[Dac h0,aaK];congr 2;exact propext ⟨fun z=>by omega,fun z=>by omega⟩)
 ·have:=fZ (o:=.le) (o':=.le) (a:=.int 1) (c:=h) rfl ha rfl rfl (show some (decide ((1:Int)<=k))=some false by rw[Dab (by omega)])
  rw[this,Dab h0,abe]
theorem tuple_len:pD .len [.tuple ds]=some (.int ds.length):=rfl
theorem gR:pD .len [.list ds]=some (.int ds.length):=rfl
theorem zH{x:PyData}{N:Nat}(hb:x.bulk<=300000):pl.pg.call (n + 3) 10 [.fz x,It N]=some (.fz (.bool (bt N x).isSome),[.fz x,It N]):=by
 have t0:ba (pl.pg.ct (n + 2)) edn (oE x N none none)=some (!cE x,oE x N none none):=av (bb (ae rfl rfl (sL ) rfl))
 cases hp:cE x with
 | false =>
  rw[hp]at t0
  have:bt N x=none:=by
   cases x with
   | tuple ds =>
    match ds,hp with
    | [],_=>rfl
    | [_],_=>rfl
    | [_,_],h=>exact absurd h (by simp[cE])
    | _::_::_::_,_=>rfl
   | _=>rfl
  rw[this]
  exact af rfl rfl (aj (aC t0 rfl)) rfl
 | true =>
  rw[hp]at t0
  obtain⟨a,b,rfl⟩:=pairB_is hp
  have s1:bD (pl.pg.ct (n + 2)) eey (oE (.tuple [a,b]) N none none)=some (.nx,oE (.tuple [a,b]) N (some (.fz a)) (some (.fz b))):=rfl
  have t1:ba (pl.pg.ct (n + 2)) eb0 (oE (.tuple [a,b]) N (some (.fz a)) (some (.fz b)))=some (!inI (N + 1) a,oE (.tuple [a,b]) N (some (.fz a)) (some (.fz b))):=av (bb (ae rfl rfl (jz ) rfl))
  have t2:ba (pl.pg.ct (n + 2)) eem (oE (.tuple [a,b]) N (some (.fz a)) (some (.fz b)))=some (!iA .tuple b,oE (.tuple [a,b]) N (some (.fz a)) (some (.fz b))):=rfl
  have bad1:∀{y:Bool},ba (pl.pg.ct (n + 2)) ea7 (oE (.tuple [a,b]) N (some (.fz a)) (some (.fz b)))=some (true,oE (.tuple [a,b]) N (some (.fz a)) (some (.fz b)))->bt N (.tuple [a,b])=none->pl.pg.call (n + 3) 10 [.fz (.tuple [a,b]),It N]=some (.fz (.bool (bt N (.tuple [a,b])).isSome),[.fz (.tuple [a,b]),It N]):=fun {y} t h=>by
   rw[h]
   exact af rfl rfl (ab (aq t0 rfl) (ab s1 (aj (aC t rfl)))) rfl
  cases ha:inI (N + 1) a with
  | false =>
   rw[ha]at t1
   refine bad1 (y:=true) (a9 t1) ?_
   cases a with
   | int g =>
    cases b with
    | tuple ds=>show (if inI (N + 1) (.int g)=true then _ else _)=none;rw[ha];rfl
    | _=>rfl
   | _=>rfl
  | true =>
   rw[ha]at t1
   obtain⟨g,rfl⟩:∃g,a=.int g:=by cases a with | int g=>exact⟨g,rfl⟩ | _=>cases ha
   cases hb2:iA .tuple b with
   | false =>
    rw[hb2]at t2
    refine bad1 (y:=true) (aI t1 t2) ?_
    cases b with
    | tuple ds=>cases hb2
    | _=>rfl
   | true =>
    rw[hb2]at t2
    obtain⟨ds,rfl⟩:∃ds,b=.tuple ds:=by cases b with | tuple ds=>exact⟨ds,rfl⟩ | _=>cases hb2
    have hpa:bt N (.tuple [.int g,.tuple ds])=(numsA ds).bind fun ns=>some (g,ns):=by show (if inI (N + 1) (.int g)=true then _ else _)=_;rw[ha];rfl
    rw[hpa]
    clear bad1
    generalize hρ:oE (.tuple [.int g,.tuple ds]) N (some (.fz (.int g))) (some (.fz (.tuple ds)))=ρ at s1 t1 t2
    have hlen:ds.length<=300000:=by
     have:=bU (a:=ds)
     simp only[PyData.bulk,PyData.bulkAll]at hb;omega
    have l3:ev (pl.pg.ct (n + 2)) ed5 ρ=some (.val (It ds.length),ρ):=au (aa (by rw[<- hρ];rfl) ag) rfl tuple_len
    have t3:ba (pl.pg.ct (n + 2)) eb3 ρ=some (!(decide (1<=ds.length) && decide (ds.length<=100)),ρ):=av (bs (nK l3 rfl rfl) rfl)
    obtain⟨o',ec⟩:=fP
    rw[aaz]at ec
    have hcomp:ev (pl.pg.ct (n + 2)) Fb ρ=some (.val (.lst ((ds.map fun x=>.bool (numB x)).map OD.fz)),ρ):=aP (bc (ρ1:=ρ) (by rw[<- hρ];rfl) rfl rfl) (by omega) rfl ec unca_nil
    have t4:ba (pl.pg.ct (n + 2)) ea8 ρ=some (!ds.all numB,ρ):=av (gF (au (aa hcomp ag) bp all_map))
    have fin:∀{z:OD} {ρ':DEnv},aN (pl.pg.ct (n + 2)) (match F_is_pool.body with | .cons _ (.cons _ (.cons _ r))=>r | _=>.nil) ρ=some (.rt z,ρ)->pl.pg.call (n + 3) 10 [.fz (.tuple [.int g,.tuple ds]),It N]=some (z,[.fz (.tuple [.int g,.tuple ds]),It N]):=fun hz=>af rfl rfl (ab (aq t0 rfl) (ab s1 (ab (aq (aI t1 t2) rfl) hz))) (by rw[<- hρ];rfl)
    cases hl:decide (1<=ds.length) && decide (ds.length<=100) with
    | false =>
     rw[hl]at t3
     rw[show numsA ds=none by unfold numsA;rw[hl];rfl]
     exact fin (ρ':=ρ) (aj (aC (a9 t3) rfl))
    | true =>
     rw[hl]at t3
     cases hal:ds.all numB with
     | false =>
      rw[hal]at t4
      rw[show numsA ds=none by unfold numsA;rw[hl,hal];rfl]
      exact fin (ρ':=ρ) (aj (aC (aI t3 t4) rfl))
     | true =>
      rw[hal]at t4
      obtain⟨ns,e1,e2,h2⟩:=eU hal
      rw[aam,decide_eq_true_eq,decide_eq_true_eq]at hl
      have hnl:ns.length=ds.length:=by rw[e1,aaa]
      have e5:ev (pl.pg.ct (n + 2)) (.lset (.nm 3)) ρ=some (.val (It (unl ns)),ρ):=nJ (by rw[<- hρ];rfl) rfl rfl e2 (by omega)
      have e6:ev (pl.pg.ct (n + 2)) eci ρ=some (.val (.fz (.bool (decide (unl ns=ns.length)))),ρ):=ar e5 l3 rfl rfl (by rw[kJ,hnl];congr 2;exact propext ⟨fun z=>by omega,fun z=>by omega⟩)
      have hnA:((numsA ds).bind fun ns=>some (g,ns)).isSome=decide (unl ns=ns.length):=by
       unfold numsA
       rw[Dac hl.1,Dac hl.2,hal,aaI,aaI,if_pos rfl,e2]
       show ((if unl ns=ns.length then some ns else none).bind _).isSome=_
       by_cases hu:unl ns=ns.length
       ·rw[if_pos hu,Dac hu];rfl
       ·rw[if_neg hu,Dab hu];rfl
      rw[hnA]
      exact fin (ρ':=ρ) (ab (aq (aI t3 t4) rfl) (aj (ah e6 rfl)))
def aD(N:Nat):List PyData->Option Pz
 | []=>some []
 | x::xs=>(bt N x).bind fun q=>(aD N xs).bind fun r=>some (q::r)
def riseB(qs:Pz):Bool:=(qs.zip (qs.drop 1)).all fun p=>decide (p.1.1 < p.2.1)
def cI(N:Nat):PyData->Bool
 | .list ps=>(aD N ps).elim false riseB
 | _=>false
structure Pool (N:Nat)(q:Int × List Int):Prop where
 g0:0<=q.1
 g1:q.1<=N
 nb:∀x∈q.2,100<=x/\x < 100000000
 l0:1<=q.2.length
 l1:q.2.length<=100
 un:unl q.2=q.2.length
theorem lT(h:numsA ds=some ns):ds=ns.map PyData.int/\(∀x∈ns,100<=x/\x < 100000000)/\1<=ns.length/\ns.length<=100/\unl ns=ns.length:=by
 unfold numsA at h
 by_cases hc:(decide (1<=ds.length) && decide (ds.length<=100) && ds.all numB)=true
 ·rw[if_pos hc]at h
  rw[aam,aam,decide_eq_true_eq,decide_eq_true_eq]at hc
  obtain⟨ms,e1,e2,h2⟩:=eU hc.2
  rw[e2]at h
  have h:(if unl ms=ms.length then some ms else none)=some ns:=h
  by_cases hu:unl ms=ms.length
  ·rw[if_pos hu]at h
   cases h
   have:ns.length=ds.length:=by rw[e1,aaa]
   exact⟨e1,h2,by omega,by omega,hu⟩
  ·rw[if_neg hu]at h;cases h
 ·rw[if_neg hc]at h;cases h
theorem poolA_some(h:bt N x=some q):x=Po q/\Pool N q:=by
 obtain⟨ds,h1,h⟩:=bnd h
 obtain⟨z,h2,h⟩:=bnd h
 obtain⟨g,h3,h⟩:=bnd h
 obtain⟨es,h4,h⟩:=bnd h
 cases hi:inI (N + 1) (.int g) with
 | false=>rw[hi]at h;cases h
 | true =>
  rw[hi,if_pos rfl]at h
  obtain⟨ns,h5,h⟩:=bnd h
  cases h
  obtain⟨e1,n1,n2,n3,n4⟩:=lT h5
  simp only[inI,aam,decide_eq_true_eq]at hi
  refine⟨?_,by omega,by show g<=N;omega,n1,n2,n3,n4⟩
  rw[rn h1,two2_ok h2,aV h3,rn h4,e1]
theorem gS:∀{ps:List PyData},(aD N ps).isSome=ps.all fun x=>(bt N x).isSome
 | []=>rfl
 | x::ps=>by
  rw[aD,aaU,<- gS]
  cases bt N x with
  | none=>rfl
  | some q=>cases aD N ps<;>rfl
theorem poolsA_some:∀{ps:List PyData} {qs:Pz},aD N ps=some qs->ps=qs.map Po/\∀q∈qs,Pool N q
 | [],qs,h=>by cases h;exact⟨rfl,fun q hq=>absurd hq aak⟩
 | x::ps,qs,h=>by
  obtain⟨q,h1,h⟩:=bnd h
  obtain⟨r,h2,h⟩:=bnd h
  cases h
  obtain⟨rfl,hq⟩:=poolA_some h1
  obtain⟨rfl,hr⟩:=poolsA_some h2
  refine⟨rfl,fun z hz=>?_⟩
  rcases aab.mp hz with rfl | hz
  ·exact hq
  ·exact hr z hz
theorem iR{n N:Nat}:∀{ds:List PyData} {out:List PyData} {o:Option OD},PyData.bulkAll ds<=300000->∃o',aW (aX (pl.pg.ct (n + 3)) (.nm 0) .none ec5) ds out [o,some (It N)]=some (out++ds.map fun x=>.bool (bt N x).isSome,[o',some (It N)])
 | [],out,o,_=>⟨o,by show some (out,_)=some (out++[],_);rw[aar]⟩
 | x::ds,out,o,h=>by
  simp only[PyData.bulkAll]at h
  obtain⟨o',e⟩:=iR (ds:=ds) (by omega)
  refine⟨o',bs (fF rfl (ae rfl rfl (zH (by omega)) rfl) rfl) ?_⟩
  rw[aaf]at e
  exact e
abbrev zQ(p:(Int × List Int) × (Int × List Int)):PyData:=.tuple [Po p.1,Po p.2]
theorem iS:∀{ps:List ((Int × List Int) × (Int × List Int))} {out:List PyData} {o0 o1:Option OD},∃o0' o1',aW (aX C (.tp [0,1]) .none ecj) (ps.map zQ) out [o0,o1]=some (out++ps.map fun p=>.bool (decide (p.1.1 < p.2.1)),[o0',o1'])
 | [],out,o0,o1=>⟨o0,o1,by show some (out,_)=some (out++[],_);rw[aar]⟩
 | p::ps,out,o0,o1=>by
  obtain⟨o0',o1',e⟩:=iS
  refine⟨o0',o1',bs (fF rfl (ar (aO rfl rfl rfl (aM aS)) (aO rfl rfl rfl (aM aS)) rfl rfl rfl) rfl) ?_⟩
  rw[aaf]at e
  exact e
theorem sN:∀{as bs:Pz},b9 (as.map Po) (bs.map Po)=(as.zip bs).map zQ
 | [],_=>rfl
 | _::_,[]=>rfl
 | a::as,b::bs=>by
  have:=sN (as:=as) (bs:=bs)
  unfold b9 at this ⊢
  rw[aaj,aaj,abI,aa9,aaj,this]
theorem gT:cutD ds (some 1) none=ds.drop 1:=by
 have e1:HT.sIx ds.length ds.length none=ds.length:=rfl
 have e0:HT.sIx ds.length 0 (some 1)=min 1 ds.length:=by unfold HT.sIx;simp only;rw[if_neg (by omega)];rfl
 unfold cutD
 rw[e0,e1]
 cases ds with
 | nil=>rfl
 | cons d ds =>
  rw[aap,abZ (by omega),abE]
  rw[aaZ,aap];exact aac _
theorem gU(h1:ev C a ρ=some (x,ρ1))(h2:wu C lo ρ1=some (l,ρ2))(h3:wu C hi ρ2=some (u,ρ3))(h4:lg ρ3 x=some ds):ev C (.sll a lo hi) ρ=some (.val (.lst ((cutD ds l u).map OD.fz)),ρ3):=bs h1 (bs h2 (bs h3 (bs h4 rfl)))
theorem vX{n N:Nat}(hb:d.bulk<=300000):pl.pg.call (n + 4) 11 [.fz d,It N]=some (.fz (.bool (cI N d)),[.fz d,It N]):=by
 have no:iA .list d=false->cI N d=false->pl.pg.call (n + 4) 11 [.fz d,It N]=some (.fz (.bool (cI N d)),[.fz d,It N]):=fun h h'=>by
  have t:ba (pl.pg.ct (n + 3)) eer [some (.fz d),some (It N)]=some (true,[some (.fz d),some (It N)]):=by
   have:ba (pl.pg.ct (n + 3)) efp [some (.fz d),some (It N)]=some (iA .list d,[some (.fz d),some (It N)]):=rfl
   rw[h]at this
   exact av this
  rw[h']
  exact af rfl rfl (aj (aC (a9 t) rfl)) rfl
 cases d with
 | list ps =>
  clear no
  have hlen:ps.length<=300000:=by have:=bU (a:=ps);simp only[PyData.bulk]at hb;omega
  obtain⟨o,e2⟩:=iR (by simpa only[PyData.bulk] using hb)
  rw[aaz]at e2
  generalize hρ:([some (.fz (.list ps)),some (It N)]:DEnv)=ρ
  have hc:ev (pl.pg.ct (n + 3)) Fe ρ=some (.val (.lst ((ps.map fun x=>.bool (bt N x).isSome).map OD.fz)),ρ):=aP (bc (ρ1:=ρ) (by rw[<- hρ];rfl) rfl rfl) (by omega) (by rw[<- hρ];rfl) e2 (by rw[<- hρ];rfl)
  have t1:ba (pl.pg.ct (n + 3)) eer ρ=some (false,ρ):=by rw[<- hρ];rfl
  have t2:ba (pl.pg.ct (n + 3)) eax ρ=some (!(aD N ps).isSome,ρ):=av (gF (au (aa hc ag) bp (by rw[all_map,gS])))
  have out:aU 0 F_is_pools.io [.fz (.list ps),It N] ρ=some [.fz (.list ps),It N]:=by rw[<- hρ];rfl
  show _=some (OD.fz (.bool ((aD N ps).elim false riseB)),_)
  cases hq:aD N ps with
  | none =>
   rw[hq]at t2
   exact af rfl rfl (by show aN _ _ [some (.fz (.list ps)),some (It N)]=_;rw[hρ];exact aj (aC (aI t1 t2) rfl)) out
  | some qs =>
   rw[hq]at t2
   obtain⟨rfl,_⟩:=poolsA_some hq
   obtain⟨o0,o1,e3⟩:=iS
   rw[aaz,<- sN]at e3
   have hsl:ev (pl.pg.ct (n + 3)) edo ρ=some (.val (.lst (((qs.drop 1).map Po).map OD.fz)),ρ):=by
    have:=gU (C:=pl.pg.ct (n + 3)) (a:=.nm 0) (lo:=.some (.int 1)) (hi:=.none) (ρ:=ρ) (ρ3:=ρ) (x:=.val (.fz (.list (qs.map Po)))) (l:=some 1) (u:=none) (ds:=qs.map Po) (by rw[<- hρ];rfl) rfl rfl rfl
    rw[gT,<- ab3]at this
    exact this
   have hzi:ia (pl.pg.ct (n + 3)) ecs ρ=some (b9 (qs.map Po) ((qs.drop 1).map Po),ρ):=i_zipQ (dx:=.list (qs.map Po)) (dy:=.list ((qs.drop 1).map Po)) (x:=.val (.fz (.list (qs.map Po)))) (ρ1:=ρ) (ρ3:=ρ) (by rw[<- hρ];rfl) hsl rfl (by show ((OD.lst (((qs.drop 1).map Po).map OD.fz)).dat).map _=_;rw[cp];rfl) rfl rfl
   have hc2:=aP (C:=pl.pg.ct (n + 3)) (nt:=2) (fr:=[]) (ρ:=ρ) (ρ1:=ρ) (ρ2:=ρ) (zc:=([],ρ)) hzi (by unfold b9;rw[abt];omega) rfl e3 unca_nil
   exact af (fn:=F_is_pools) (ρ:=ρ) rfl rfl (by show aN _ _ [some (.fz (.list (qs.map Po))),some (It N)]=_;rw[hρ];exact ab (aq (aI t1 t2) rfl) (aj (ah (au (aa hc2 ag) bp all_map) rfl))) out
 | _=>exact no rfl rfl
def zI(lo hi:Int):PyData->Bool
 | .int i=>decide (lo<=i) && decide (i<=hi)
 | _=>false
theorem sO:pl.pg.call (n + 1) 28 [.fz x,It lo,It hi]=some (.fz (.bool (zI lo hi x)),[.fz x,It lo,It hi]):=by
 cases x with
 | int i =>
  have e:ev (pl.pg.ct n) edm [some (It i),some (It lo),some (It hi)]=some (.val (.fz (.bool (decide (lo<=i) && decide (i<=hi)))),[some (It i),some (It lo),some (It hi)]):=by
   by_cases h0:lo<=i
   ·exact fY rfl rfl rfl rfl (show some (decide (lo<=i))=some true by rw[Dac h0]) rfl rfl rfl (show some (decide (i<=hi))=_ by rw[Dac h0,aaK])
   ·have:=fZ (C:=pl.pg.ct n) (o:=.le) (o':=.le) (a:=.nm 1) (b:=.nm 0) (c:=.nm 2) (ρ:=[some (It i),some (It lo),some (It hi)]) rfl rfl rfl rfl (show some (decide (lo<=i))=some false by rw[Dab h0])
    rw[this,Dab h0,abe]
  exact af rfl rfl (aj (ah (dN rfl (dN rfl e)) rfl)) rfl
 | none=>exact af rfl rfl (aj (ah (bo rfl) rfl)) rfl
 | bool b=>exact af rfl rfl (aj (ah (dN rfl (bo rfl)) rfl)) rfl
 | str b=>exact af rfl rfl (aj (ah (bo rfl) rfl)) rfl
 | list b=>exact af rfl rfl (aj (ah (bo rfl) rfl)) rfl
 | tuple b=>exact af rfl rfl (aj (ah (bo rfl) rfl)) rfl
 | dict b=>exact af rfl rfl (aj (ah (bo rfl) rfl)) rfl
theorem vY:zI 100 99999999 x=numB x:=by
 cases x with
 | int i =>
  show (decide ((100:Int)<=i) && decide (i<=99999999))=(decide (100<=i) && decide (i < 100000000))
  congr 1
  exact decide_eq_decide.mpr ⟨fun z=>by omega,fun z=>by omega⟩
 | _=>rfl
theorem btw_comp:∀{ds:List PyData} {out:List PyData} {o:Option OD},∃o',aW (aX (pl.pg.ct (n + 1)) (.nm 0) .none eb1) ds out [o]=some (out++ds.map fun x=>.bool (numB x),[o'])
 | [],out,o=>⟨o,by show some (out,_)=some (out++[],_);rw[aar]⟩
 | x::ds,out,o=>by
  obtain⟨o',e⟩:=btw_comp
  have hb:pl.pg.call (n + 1) 28 [.fz x,It 100,It 99999999]=some (.fz (.bool (numB x)),[.fz x,It 100,It 99999999]):=by rw[<- vY];exact sO
  refine⟨o',bs (fF rfl (ae rfl rfl hb rfl) rfl) ?_⟩
  rw[aaf]at e
  exact e
def rL(N:Nat):Int->List PyData->Bool
 | _,[]=>true
 | l,x::xs=>match bt N x with
  | none=>false
  | some q=>decide (l < q.1) && rL N q.1 xs
abbrev lE(f:Cf)(r0 r1:Int)(d:PyData)(o4 o5 o6:Option OD):DEnv:=[some (Rl f.rows),some (Lo f),some (.fz (.tuple [.int r0,.int r1])),some (.fz d),o4,o5,o6]
abbrev Fw:Ss:=match F_l_is_plan.body with | .cons _ (.cons _ (.cons (.fr _ _ b) _))=>b | _=>.nil
theorem lU(h:cE x=false):bt N x=none:=by
 cases x with
 | tuple ds =>
  match ds,h with
  | [],_=>rfl
  | [_],_=>rfl
  | [_,_],h=>exact absurd h (by simp[cE])
  | _::_::_::_,_=>rfl
 | _=>rfl
theorem zJ(hl:-1<=l)(hb:x.bulk<=300000) :
  ∃ρ',((bj (.nm 5) (.fz x) (lE f r0 r1 d (some (It l)) o5 o6)).bind fun ρ1=>aN (pl.pg.ct (n + 1)) Fw ρ1)=(match bt f.rows.length x with
   | none=>some (.rt (.fz (.bool false)),ρ')
   | some q=>if l < q.1 then some (.nx,lE f r0 r1 d (some (It q.1)) (some (.fz x)) o6) else some (.rt (.fz (.bool false)),ρ')):=by
 generalize hρ:lE f r0 r1 d (some (It l)) (some (.fz x)) o6=ρ
 have hx:ev (pl.pg.ct (n + 1)) (.nm 5) ρ=some (.val (.fz x),ρ):=by rw[<- hρ];rfl
 have st:(bj (.nm 5) (.fz x) (lE f r0 r1 d (some (It l)) o5 o6))=some ρ:=by rw[<- hρ];rfl
 cases hp:cE x with
 | false =>
  rw[lU hp]
  refine⟨ρ,bs st (aj (aC ?_ rfl))⟩
  cases x with
  | tuple ds =>
   have hd:ds.length≠2:=Dad hp
   exact aI (av (k:=true) (by rw[<- hρ];rfl)) (a9 (aw (ar (au (aa hx ag) rfl tuple_len) rfl rfl rfl (by rw[kK,Dab (by omega)];rfl))))
  | none=>exact a9 (av (k:=false) (by rw[<- hρ];rfl))
  | bool b=>exact a9 (av (k:=false) (by rw[<- hρ];rfl))
  | int b=>exact a9 (av (k:=false) (by rw[<- hρ];rfl))
  | str b=>exact a9 (av (k:=false) (by rw[<- hρ];rfl))
  | list b=>exact a9 (av (k:=false) (by rw[<- hρ];rfl))
  | dict b=>exact a9 (av (k:=false) (by rw[<- hρ];rfl))
 | true =>
  obtain⟨a,b,rfl⟩:=pairB_is hp
  have i0:ev (pl.pg.ct (n + 1)) efe ρ=some (.val (.fz a),ρ):=aO hx rfl rfl (aM aS)
  have tA:ba (pl.pg.ct (n + 1)) eab ρ=some (!zI (l + 1) f.rows.length a,ρ):=by
   refine aI (av (k:=true) (by rw[<- hρ];rfl)) (aI (aw (ar (au (aa hx ag) rfl rfl) rfl rfl rfl rfl)) (av (bb (ae (aa i0 (aa (by rw[<- hρ];rfl) (aa (au (ρ1:=ρ) (by rw[<- hρ];rfl) rfl blen) ag))) rfl (sO ) rfl))))
  cases hbt:zI (l + 1) f.rows.length a with
  | false =>
   rw[hbt]at tA
   refine⟨ρ,bs st ?_⟩
   have key:∀q,bt f.rows.length (.tuple [a,b])=some q->¬ l < q.1:=fun q hq hlt=>by
    obtain⟨e,P⟩:=poolA_some hq
    injection e with e
    injection e with e1 e2
    have g1:=P.g1
    rw[e1]at hbt
    simp only[zI,acg,decide_eq_false_iff_not]at hbt
    omega
   cases hq:bt f.rows.length (.tuple [a,b]) with
   | none=>exact aj (aC tA rfl)
   | some q =>
    show _=if l < q.1 then _ else _
    rw[if_neg (key q hq)]
    exact aj (aC tA rfl)
  | true =>
   rw[hbt]at tA
   obtain⟨g,rfl⟩:∃g,a=.int g:=by cases a with | int g=>exact⟨g,rfl⟩ | _=>cases hbt
   simp only[zI,aam,decide_eq_true_eq]at hbt
   generalize hρ2:lE f r0 r1 d (some (It g)) (some (.fz (.tuple [.int g,b]))) o6=ρ2
   have s4:bD (pl.pg.ct (n + 1)) eed ρ=some (.nx,ρ2):=s_setQ i0 rfl (by rw[<- hρ];rfl) (by rw[<- hρ,<- hρ2];rfl)
   have hx2:ev (pl.pg.ct (n + 1)) (.nm 5) ρ2=some (.val (.fz (.tuple [.int g,b])),ρ2):=by rw[<- hρ2];rfl
   have i1:ev (pl.pg.ct (n + 1)) eff ρ2=some (.val (.fz b),ρ2):=aO hx2 rfl rfl (aM (bF rfl))
   have hin:inI (f.rows.length + 1) (.int g)=true:=by simp only[inI,aam,decide_eq_true_eq];omega
   have hpa:∀{ds:List PyData},b=.tuple ds->bt f.rows.length (.tuple [.int g,b])=(numsA ds).bind fun ns=>some (g,ns):=fun {ds} e=>by
    subst e
    show (if inI (f.rows.length + 1) (.int g)=true then _ else _)=_
    rw[hin];rfl
   cases hbt2:iA .tuple b with
   | false =>
    have hn:bt f.rows.length (.tuple [.int g,b])=none:=by
     cases b with
     | tuple ds=>cases hbt2
     | _=>rfl
    rw[hn]
    have tB:ba (pl.pg.ct (n + 1)) edg ρ2=some (true,ρ2):=av (k:=false) (by
     have:ev (pl.pg.ct (n + 1)) ed0 ρ2=some (.val (.fz (.bool (iA .tuple b))),ρ2):=bs i1 rfl
     rw[hbt2]at this
     exact bs this rfl)
    exact⟨ρ2,bs st (ab (aq tA rfl) (ab s4 (aj (aC (a9 tB) rfl))))⟩
   | true =>
    obtain⟨ds,rfl⟩:∃ds,b=.tuple ds:=by cases b with | tuple ds=>exact⟨ds,rfl⟩ | _=>cases hbt2
    rw[hpa rfl]
    clear hpa
    have hlen:ds.length<=300000:=by
     have:=bU (a:=ds)
     simp only[PyData.bulk,PyData.bulkAll]at hb;omega
    have tB:ba (pl.pg.ct (n + 1)) edg ρ2=some (false,ρ2):=av (k:=true) (bs (bs i1 rfl) rfl)
    have l1:ev (pl.pg.ct (n + 1)) ec6 ρ2=some (.val (It ds.length),ρ2):=au (rs:=[.val (.fz (.tuple ds))]) (ρ1:=ρ2) (ds:=[.tuple ds]) (aa i1 ag) rfl tuple_len
    have tB2:ba (pl.pg.ct (n + 1)) ebn ρ2=some (!(decide (1<=ds.length) && decide (ds.length<=100)),ρ2):=av (bs (nK (hi:=100) l1 rfl rfl) rfl)
    obtain⟨o',ec⟩:=btw_comp (n:=n) (ds:=ds) (out:=[]) (o:=none)
    rw[aaz]at ec
    have hcomp:ev (pl.pg.ct (n + 1)) Fq ρ2=some (.val (.lst ((ds.map fun x=>.bool (numB x)).map OD.fz)),ρ2):=aP (ρ1:=ρ2) (zc:=([],ρ2)) (bc i1 rfl rfl) (by omega) rfl ec unca_nil
    have tC:ba (pl.pg.ct (n + 1)) eal ρ2=some (!ds.all numB,ρ2):=av (gF (au (aa hcomp ag) bp all_map))
    cases hl':decide (1<=ds.length) && decide (ds.length<=100) with
    | false =>
     rw[hl']at tB2
     rw[show numsA ds=none by unfold numsA;rw[hl'];rfl]
     exact⟨ρ2,bs st (ab (aq tA rfl) (ab s4 (aj (aC (aI tB tB2) rfl))))⟩
    | true =>
     rw[hl']at tB2
     cases hal:ds.all numB with
     | false =>
      rw[hal]at tC
      rw[show numsA ds=none by unfold numsA;rw[hl',hal];rfl]
      exact⟨ρ2,bs st (ab (aq tA rfl) (ab s4 (ab (aq (aI tB tB2) rfl) (aj (aC tC rfl)))))⟩
     | true =>
      rw[hal]at tC
      obtain⟨ns,e1,e2,h2⟩:=eU hal
      rw[aam,decide_eq_true_eq,decide_eq_true_eq]at hl'
      have hnl:ns.length=ds.length:=by rw[e1,aaa]
      have e5:ev (pl.pg.ct (n + 1)) eek ρ2=some (.val (It (unl ns)),ρ2):=nJ i1 rfl rfl e2 (by omega)
      have tD:ba (pl.pg.ct (n + 1)) ebo ρ2=some (!decide (unl ns=ns.length),ρ2):=aw (ar (dx:=.int (unl ns)) (dy:=.int ds.length) e5 l1 rfl rfl (by rw[kK,hnl];exact congrArg (fun b=>some (!b)) (decide_eq_decide.mpr ⟨fun z=>by omega,fun z=>by omega⟩)))
      have hnA:numsA ds=if unl ns=ns.length then some ns else none:=by
       unfold numsA
       rw[Dac hl'.1,Dac hl'.2,hal,aaI,aaI,if_pos rfl,e2];rfl
      rw[hnA]
      by_cases hu:unl ns=ns.length
      ·rw[Dac hu]at tD
       rw[if_pos hu]
       refine⟨ρ2,?_⟩
       show _=if l < g then _ else _
       rw[if_pos (by omega)]
       exact bs st (ab (aq tA rfl) (ab s4 (ab (aq (aI tB tB2) rfl) (ab (aq tC rfl) (ab (aq tD rfl) (by rw[<- hρ2];rfl))))))
      ·rw[Dab hu]at tD
       rw[if_neg hu]
       exact⟨ρ2,bs st (ab (aq tA rfl) (ab s4 (ab (aq (aI tB tB2) rfl) (ab (aq tC rfl) (aj (aC tD rfl))))))⟩
theorem cJ{α:Type}{h g:α->PyData}(P:DEnv->Prop):∀{xs:List α} {out:List PyData} {ρ:DEnv},(∀x∈xs,∀ρ,P ρ->∃ρ',aX C tg .none elt (h x) ρ=some ([g x],ρ')/\P ρ')->P ρ->∃ρ',aW (aX C tg .none elt) (xs.map h) out ρ=some (out++xs.map g,ρ')/\P ρ'
 | [],out,ρ,_,hp=>⟨ρ,by show some (out,ρ)=some (out++[],ρ);rw[aar],hp⟩
 | x::xs,out,ρ,hs,hp=>by
  obtain⟨ρ1,e1,hp1⟩:=hs x aag ρ hp
  obtain⟨ρ2,e2,hp2⟩:=cJ P (fun y hy=>hs y (aai _ hy)) hp1
  refine⟨ρ2,bs e1 ?_,hp2⟩
  rw[aaf]at e2
  exact e2
abbrev fin(f:Cf)(qs:Pz):Mc:=inner f qs f.rows.length (eX f qs f.rows.length)
theorem lV:(fin f qs).ps.length=f.rows.length:=by rw[fin,cX];exact fX
def spo(ps:List Int)(a:Int):Int:=(ps[a.toNat]?).getD 0
def sP(f:Cf)(a:Int):Int:=((f.rows[a.toNat]?).map R.num).getD 0
def dA(f:Cf)(qs:Pz)(z:Int × Int):Bool:=decide (sP f z.1∈((qs[z.2.toNat]?).map (·.2)).getD [])
def fI(f:Cf)(qs:Pz)(r0 r1:Int)(z:Int × Int):Bool:=decide (spo (fin f qs).ps z.1 - spo (fin f qs).bs z.2<=r0) && decide (spo (fin f qs).bs z.2 - spo (fin f qs).ps z.1<=r1)
def wZ:PyData->Int | .int i=>i | _=>0
structure Qok (f:Cf)(qs:Pz):Prop where
 ok:∀q∈qs,Pool f.rows.length q
 inc:qs.Pairwise fun x y=>x.1 < y.1
theorem jA:∀{qs:Pz},riseB qs=true->qs.Pairwise fun x y=>x.1 < y.1
 | [],_=>.nil
 | [q],_=>List.pairwise_singleton _ _
 | a::b::qs,h=>by
  have h':(decide (a.1 < b.1) && riseB (b::qs))=true:=h
  rw[aam,decide_eq_true_eq]at h'
  have ih:=jA h'.2
  refine aaS.mpr ⟨fun x hx=>?_,ih⟩
  rcases aab.mp hx with rfl | hx
  ·exact h'.1
  ·have:=(aaS.mp ih).1 x hx
   omega
theorem sQ:∀{qs:Pz} {l:Int},qs.Pairwise (fun x y=>x.1 < y.1)->(∀q∈qs,l<=q.1/\q.1<=N)->(qs.length:Int) + l<=N + 1\/qs=[]
 | [],_,_,_=>.inr rfl
 | q::qs,l,h,hb=>by
  obtain⟨h1,h2⟩:=aaS.mp h
  have hq:=hb q aag
  rcases sQ (l:=q.1 + 1) h2 (fun x hx=>⟨by have:=h1 x hx;omega,(hb x (aai _ hx)).2⟩) with z | rfl
  ·left;rw[aap];omega
  ·left;show ((1:Nat):Int) + l<=_;omega
theorem Qok.len(h:Qok f qs)(hN:f.rows.length<=200):qs.length<=300:=by
 rcases sQ h.inc (fun q hq=>⟨(h.ok q hq).g0,(h.ok q hq).g1⟩) with z | z
 ·omega
 ·rw[z];exact aaE _
theorem pk(h0:∀q∈qs,0<=q.1/\q.1<=f.rows.length):(fin f qs).bs.length=qs.length:=by
 have h1:=fH (f:=f) (fun q hq=>(h0 q hq).1) (k:=f.rows.length)
 have h2:=gP (f:=f) (k:=f.rows.length) (qs:=qs) (s:=eX f qs f.rows.length)
 have h3:=gQ (k:=f.rows.length) (fun q hq=>(h0 q hq).1)
 rw[fin,h2,h1,<- h3,List.countP_eq_length]
 exact fun q hq=>Dac (by have:=(h0 q hq).2;omega)
theorem Qok.bl(h:Qok f qs):(fin f qs).bs.length=qs.length:=pk fun q hq=>⟨(h.ok q hq).g0,(h.ok q hq).g1⟩
theorem jB{ps:List Int}{a:Int}(h0:0<=a)(h1:a < ps.length):atI (ps.map PyData.int) a=some (.int (spo ps a)):=by
 obtain⟨k,rfl⟩:∃k:Nat,a=k:=⟨a.toNat,by omega⟩
 have hk:k < ps.length:=by omega
 exact bF (by rw[aav];unfold spo;rw[aaR,aan hk];rfl)
theorem CJ{ls:List Int}:iz .nin (.int x) (.tuple (ls.map PyData.int))=some (!decide (x∈ls)):=bs (show inA (.int x) (.tuple (ls.map PyData.int))=some (decide (x∈ls)) from bs rfl (bg rfl eR)) rfl
theorem FV{ls:List Int}:iz .inn (.int x) (.tuple (ls.map PyData.int))=some (decide (x∈ls)):=bs (f:=fun ds=>(gd (yn (PyData.int x)=true)).bind fun _=>memD (.int x) ds) rfl (bg rfl eR)
abbrev Ra(r0 r1:Int):OD:=.fz (.tuple [.int r0,.int r1])
abbrev Zp(z:Int × Int):PyData:=.tuple [.int z.1,.int z.2]
theorem cY:∀{gs us:List Int},b9 (gs.map PyData.int) (us.map PyData.int)=(gs.zip us).map Zp
 | [],_=>rfl
 | _::_,[]=>rfl
 | a::as,b::bs=>by
  have:=cY (gs:=as) (us:=bs)
  unfold b9 at this ⊢
  rw[aaj,aaj,abI,aa9,aaj,this]
abbrev sE(f:Cf)(qs:Pz)(us:List Int)(r0 r1:Int)(o8 o9:Option OD):DEnv:=[some (Rl f.rows),some (Lo f),some (Ra r0 r1),some (Pq qs),some (Dl us),some (Dl (fin f qs).ps),some (Dl (fin f qs).bs),some (It (fin f qs).pl),o8,o9]
abbrev sB:Ss:=match F_all_served.body with | .cons _ (.cons (.fr _ _ b) _)=>b | _=>.nil
def Zok(f:Cf)(qs:Pz)(z:Int × Int):Prop:=z.1∈gIx 0 f.rows/\0<=z.2/\z.2 < qs.length
theorem pq:pl.pg.call (n + 1) 12 [Ra r0 r1,It p,It b]=some (.fz (.bool (decide (p - b<=r0) && decide (b - p<=r1))),[Ra r0 r1,It p,It b]):=by
 have s1:bD (pl.pg.ct n) eez [some (Ra r0 r1),some (It p),some (It b),none,none]=some (.nx,[some (Ra r0 r1),some (It p),some (It b),some (It r0),some (It r1)]):=rfl
 have e1:ev (pl.pg.ct n) eda [some (Ra r0 r1),some (It p),some (It b),some (It r0),some (It r1)]=some (.val (.fz (.bool (decide (p - b<=r0)))),[some (Ra r0 r1),some (It p),some (It b),some (It r0),some (It r1)]):=rfl
 have e2:ev (pl.pg.ct n) edb [some (Ra r0 r1),some (It p),some (It b),some (It r0),some (It r1)]=some (.val (.fz (.bool (decide (b - p<=r1)))),[some (Ra r0 r1),some (It p),some (It b),some (It r0),some (It r1)]):=rfl
 refine af rfl rfl (ab s1 (aj (ah (x:=.val (.fz (.bool (decide (p - b<=r0) && decide (b - p<=r1))))) (ρ1:=[some (Ra r0 r1),some (It p),some (It b),some (It r0),some (It r1)]) ?_ rfl))) rfl
 cases h:decide (p - b<=r0) with
 | true=>rw[h]at e1;rw[aaK];exact dN e1 e2
 | false=>rw[h]at e1;rw[abe];exact bo e1
theorem Zok.row(h:Zok f qs z):∃(i:Nat) (x y:Int),z.1=i/\i < f.rows.length/\f.rows[i]?=some (.st x y)/\sP f z.1=y:=by
 obtain⟨j,r,e,h1,h2⟩:=fV h.1
 obtain⟨x,y,rfl⟩:=gr_st h2
 have e':z.1=(j:Int):=by omega
 refine⟨j,x,y,e',(aau.mp h1).1,h1,?_⟩
 unfold sP
 rw[e',aaR,h1];rfl
theorem Zok.pool(h:Zok f qs z):∃q,qs[z.2.toNat]?=some q/\atI (qs.map Po) z.2=some (Po q):=by
 obtain⟨k,hk⟩:∃k:Nat,z.2=k:=⟨z.2.toNat,by have:=h.2.1;omega⟩
 have hl:k < qs.length:=by have:=h.2.2;omega
 refine⟨qs[k],by rw[hk,aaR];exact aan hl,?_⟩
 rw[hk]
 exact bF (by rw[aav,aan hl];rfl)
theorem lW(h:Zok f qs z)(hb:(fin f qs).bs.length=qs.length):aN (pl.pg.ct (n + 1)) sB (sE f qs us r0 r1 (some (It z.1)) (some (It z.2)))=some (if (dA f qs z && fI f qs r0 r1 z)=true then .nx else .rt (.fz (.bool false)),sE f qs us r0 r1 (some (It z.1)) (some (It z.2))):=by
 obtain⟨i,x,y,ei,hi,hr,hn⟩:=h.row
 obtain⟨q,hq,hqa⟩:=h.pool
 have hm:dA f qs z=decide (y∈q.2):=by unfold dA;rw[hn,hq];rfl
 obtain⟨ρE,hE⟩:∃ρE,ρE=sE f qs us r0 r1 (some (It z.1)) (some (It z.2)):=⟨_,rfl⟩
 rw[<- hE]
 have t1:ba (pl.pg.ct (n + 1)) ebs ρE=some (!dA f qs z,ρE):=by
  rw[hE,hm]
  exact aw (ar (aO (aO rfl rfl rfl (bC (by rw[ei];exact iQ hr))) rfl rfl (aM (bF rfl))) (aO (aO rfl rfl rfl (bC hqa)) rfl rfl (aM (bF rfl))) rfl rfl CJ)
 have t2:ba (pl.pg.ct (n + 1)) ebh ρE=some (!fI f qs r0 r1 z,ρE):=by
  rw[hE]
  exact av (bb (ae (aa rfl (aa (aO rfl rfl rfl (bC (jB (by omega) (by rw[lV];omega)))) (aa (aO rfl rfl rfl (bC (jB h.2.1 (by rw[hb];exact h.2.2)))) ag))) rfl (pq ) rfl))
 cases hm':dA f qs z with
 | false =>
  rw[hm']at t1
  exact aj (aC (a9 t1) rfl)
 | true =>
  rw[hm']at t1
  rw[aaK]
  cases hf:fI f qs r0 r1 z with
  | false=>rw[hf]at t2;exact aj (aC (aI t1 t2) rfl)
  | true=>rw[hf]at t2;exact ab (aq (aI t1 t2) rfl) rfl
theorem gV(hb:(fin f qs).bs.length=qs.length):∀{zs:List (Int × Int)} {o8 o9:Option OD},(∀z∈zs,Zok f qs z)->∃o8' o9',bx (fun d ρ'=>(bj (.tp [8,9]) (.fz d) ρ').bind fun ρ1=>aN (pl.pg.ct (n + 1)) sB ρ1) (zs.map Zp) (sE f qs us r0 r1 o8 o9)=some (if (zs.all fun z=>dA f qs z && fI f qs r0 r1 z)=true then .nx else .rt (.fz (.bool false)),sE f qs us r0 r1 o8' o9')
 | [],o8,o9,_=>⟨o8,o9,rfl⟩
 | z::zs,o8,o9,h=>by
  have s:=lW (n:=n) (us:=us) (r0:=r0) (r1:=r1) (h z aag) hb
  rw[aaU]
  cases hc:dA f qs z && fI f qs r0 r1 z with
  | false =>
   rw[hc]at s
   exact⟨_,_,bs (bs rfl s) rfl⟩
  | true =>
   rw[hc]at s
   obtain⟨a,b,e⟩:=gV hb fun x hx=>h x (aai _ hx)
   rw[aaK]
   exact⟨a,b,bs (bs rfl s) e⟩
def servB(f:Cf)(qs:Pz)(us:List Int)(r0 r1:Int):Bool:=((gIx 0 f.rows).zip us).all fun z=>dA f qs z && fI f qs r0 r1 z
theorem FW(h:∀u∈us,0<=u/\u < qs.length):∀z∈(gIx 0 f.rows).zip us,Zok f qs z:=fun z hz=>by
 obtain⟨h1,h2⟩:=aaT (show (z.1,z.2)∈_ from hz)
 exact⟨h1,h z.2 h2⟩
theorem sR{us:List Int}(h:Qok f qs)(hu:∀u∈us,0<=u/\u < qs.length)(hN:f.rows.length<=200):pl.pg.call (n + 5) 13 [Rl f.rows,Lo f,Ra r0 r1,Pq qs,Dl us]=some (.fz (.bool (servB f qs us r0 r1)),[Rl f.rows,Lo f,Ra r0 r1,Pq qs,Dl us]):=by
 have e7:=vW (n:=n) h.inc (fun q hq=>(h.ok q hq).g0) (h.len hN) hN
 obtain⟨a,b,e⟩:=gV h.bl (FW hu)
 have e2:=kH (n:=n + 2) (rs:=f.rows) (by omega)
 have eC:(pl.pg.ct (n + 4)).call=pl.pg.call (n + 4):=rfl
 rw[<- eC]at e7 e2
 have s1:bD (pl.pg.ct (n + 4)) ebt [some (Rl f.rows),some (Lo f),some (Ra r0 r1),some (Pq qs),some (Dl us),none,none,none,none,none]=some (.nx,sE f qs us r0 r1 none none):=s_asgQ (ae rfl rfl e7 rfl) rfl rfl
 have hi:ia (pl.pg.ct (n + 4)) edc (sE f qs us r0 r1 none none)=some (((gIx 0 f.rows).zip us).map Zp,sE f qs us r0 r1 none none):=by
  rw[<- cY]
  exact i_zipQ (ae rfl rfl e2 rfl) rfl (by simp only[frz1,be];rfl) rfl rfl rfl
 unfold servB
 cases hc:((gIx 0 f.rows).zip us).all fun z=>dA f qs z && fI f qs r0 r1 z with
 | true =>
  rw[hc]at e
  exact af rfl rfl (ab s1 (ab (s_frQ hi e) (aj rfl))) rfl
 | false =>
  rw[hc]at e
  exact af rfl rfl (ab s1 (aj (s_frQ hi e))) rfl
theorem zK{l:List Int}{i:Nat}(h:l[i]?=some p):atI (l.map PyData.int) (i:Int)=some (.int p):=bF (by rw[aav,h];rfl)
theorem zL{i:Nat}(h:ps[i]?=some p):spo ps i=p:=by unfold spo;rw[aaR,h];rfl
theorem f6:∀{rs:List R} {i:Nat} {out:List PyData} {o0 o1:Option OD},i + rs.length<=ps.length->∃o0' o1',aW (aX (pl.pg.ct (n + 1)) (.tp [0,1]) (.some vJ) Cv) (enF i rs) out [o0,o1,some (Dl ps)]=some (out++((gIx i rs).map (spo ps)).map PyData.int,[o0',o1',some (Dl ps)])
 | [],i,out,o0,o1,_=>⟨o0,o1,by rw[gIx,aaQ,aaQ,aar];rfl⟩
 | r::rs,i,out,o0,o1,hl=>by
  rw[aap]at hl
  have hc:ba (pl.pg.ct (n + 1)) vJ [some (It i),some (Rd r),some (Dl ps)]=some (r.gr,[some (It i),some (Rd r),some (Dl ps)]):=bb (ae rfl rfl (nz r) rfl)
  rw[gIx]
  cases hg:r.gr with
  | false =>
   rw[hg]at hc
   obtain⟨a,b,e⟩:=f6 (ps:=ps) (rs:=rs) (i:=i + 1) (by omega)
   refine⟨a,b,bs (lM rfl hc) ?_⟩
   rw[if_neg aah]
   refine e.trans ?_
   rw[aar];rfl
  | true =>
   rw[hg]at hc
   have hp:=aan (l:=ps) (i:=i) (by omega)
   obtain⟨a,b,e⟩:=f6 (ps:=ps) (rs:=rs) (i:=i + 1) (by omega)
   refine⟨a,b,bs (x:=([.int (spo ps i)],[some (It i),some (Rd r),some (Dl ps)])) (lL rfl hc (aO rfl rfl rfl (bC (by rw[zL hp];exact zK hp))) rfl) ?_⟩
   rw[if_pos rfl]
   refine e.trans ?_
   rw[aaf];rfl
theorem gW:∀{rs:List R} {out:List PyData} {o:Option OD},∃o',aW (aX (pl.pg.ct (n + 1)) (.nm 0) (.some EX) (.nm 0)) (rs.map R.d) out [o]=some (out++(rs.filter R.gr).map R.d,[o'])
 | [],out,o=>⟨o,by rw[List.filter_nil,aaQ,aar];rfl⟩
 | r::rs,out,o=>by
  have ht:=bb (ae (C:=pl.pg.ct (n + 1)) (f:=22) (es:=.cons (.nm 0) .nil) (ρ:=[some (Rd r)]) rfl rfl (nz r) rfl)
  cases hg:r.gr with
  | true =>
   rw[hg]at ht
   obtain⟨o',e⟩:=gW
   refine⟨o',bs (lL (ρ4:=[some (Rd r)]) rfl ht rfl rfl) ?_⟩
   rw[e,abJ hg,aaf];rfl
  | false =>
   rw[hg]at ht
   obtain⟨o',e⟩:=gW
   refine⟨o',bs (lM (ρ2:=[some (Rd r)]) rfl ht) ?_⟩
   show aW _ _ (out++[]) _=_
   rw[aar,e,abK (by rw[hg];exact aah)]
def planB(f:Cf)(r0 r1:Int)(d:PyData):Bool:=((CS d).bind eh).elim false fun z=>((pC z.1).bind (aD f.rows.length)).elim false fun qs=>(pC z.2).elim false fun us=>riseB qs && (decide (us.length=(gIx 0 f.rows).length) && us.all (inI qs.length)) && servB f qs (us.map wZ) r0 r1
theorem iT(h:cE d=false):planB f r0 r1 d=false:=by
 cases d with
 | tuple ds =>
  match ds,h with
  | [],_=>rfl
  | [_],_=>rfl
  | [_,_],h=>exact absurd h (by simp[cE])
  | _::_::_::_,_=>rfl
 | _=>rfl
theorem dO(h:cI f.rows.length a=false):planB f r0 r1 (.tuple [a,b])=false:=by
 show ((pC a).bind (aD f.rows.length)).elim false _=false
 cases a with
 | list ps =>
  show (aD f.rows.length ps).elim false _=false
  have h:(aD f.rows.length ps).elim false riseB=false:=h
  cases hq:aD f.rows.length ps with
  | none=>rfl
  | some qs =>
   rw[hq]at h
   have h:riseB qs=false:=h
   show (pC b).elim false _=false
   cases pC b with
   | none=>rfl
   | some us=>show (riseB qs && _ && _)=false;rw[h];rfl
 | _=>rfl
theorem iU(h:iA .list b=false):planB f r0 r1 (.tuple [a,b])=false:=by
 show ((pC a).bind (aD f.rows.length)).elim false _=false
 cases (pC a).bind (aD f.rows.length) with
 | none=>rfl
 | some qs =>
  cases b with
  | list us=>cases h
  | _=>rfl
theorem jC(h:aD f.rows.length ps=some qs)(hr:riseB qs=true):planB f r0 r1 (.tuple [.list ps,.list us])=((decide (us.length=(gIx 0 f.rows).length) && us.all (inI qs.length)) && servB f qs (us.map wZ) r0 r1):=by
 show (aD f.rows.length ps).elim false _=_
 rw[h]
 show (riseB qs && _ && _)=_
 rw[hr,aaK]
theorem gX(h:cI N a=true):∃ps qs,a=.list ps/\aD N ps=some qs/\riseB qs=true:=by
 cases a with
 | list ps =>
  have h:(aD N ps).elim false riseB=true:=h
  cases hq:aD N ps with
  | none=>rw[hq]at h;cases h
  | some qs=>rw[hq]at h;exact⟨ps,qs,rfl,hq,h⟩
 | _=>cases h
theorem in_ints:∀{us:List PyData},us.all (inI m)=true->us=(us.map wZ).map PyData.int/\∀u∈us.map wZ,0<=u/\u < m
 | [],_=>⟨rfl,fun u h=>absurd h aak⟩
 | x::us,h=>by
  rw[aaU,aam]at h
  obtain⟨e,hu⟩:=in_ints h.2
  cases x with
  | int i =>
   have h1:=h.1
   simp only[inI,aam,decide_eq_true_eq]at h1
   refine⟨by rw[aaj,aaj,<- e];rfl,fun u hx=>?_⟩
   rcases aab.mp hx with rfl | hx
   ·exact h1
   ·exact hu u hx
  | _=>exact absurd h.1 aah
abbrev pE(f:Cf)(d:PyData)(r0 r1:Int)(o4 o5:Option OD):DEnv:=[some (Rl f.rows),some (Lo f),some (Ra r0 r1),some (.fz d),o4,o5]
theorem lX(hm:ps.length=m):∃o',aW (aX (pl.pg.ct (n + 1)) (.nm 0) .none eb6) us out [o,some (.fz (.list ps))]=some (out++us.map fun x=>.bool (inI m x),[o',some (.fz (.list ps))]):=by
 obtain⟨ρ',e,o',rfl⟩:=cJ (C:=pl.pg.ct (n + 1)) (tg:=.nm 0) (elt:=.call 0 ecg) (h:=id) (fun ρ=>∃o,ρ=[o,some (.fz (.list ps))]) (fun x _ ρ hρ=>by
  obtain⟨o,rfl⟩:=hρ
  exact⟨[some (.fz x),some (.fz (.list ps))],fF rfl (ae (aa rfl (aa (au rfl rfl (by rw[gR,hm])) ag)) rfl (jz ) rfl) rfl,_,rfl⟩) ⟨o,rfl⟩
 rw[abQ]at e
 exact⟨o',e⟩
theorem sS(hb:d.bulk<=300000)(hN:f.rows.length<=200):pl.pg.call (n + 6) 14 [Rl f.rows,Lo f,Ra r0 r1,.fz d]=some (.fz (.bool (planB f r0 r1 d)),[Rl f.rows,Lo f,Ra r0 r1,.fz d]):=by
 have eC:(pl.pg.ct (n + 5)).call=pl.pg.call (n + 5):=rfl
 have t8:ba (pl.pg.ct (n + 5)) edp (pE f d r0 r1 none none)=some (!cE d,pE f d r0 r1 none none):=av (bb (ae rfl rfl (sL ) rfl))
 cases hp:cE d with
 | false =>
  rw[hp]at t8
  rw[iT hp]
  exact af rfl rfl (aj (aC t8 rfl)) rfl
 | true =>
  rw[hp]at t8
  obtain⟨a,b,rfl⟩:=pairB_is hp
  simp only[PyData.bulk,PyData.bulkAll]at hb
  have s1:bD (pl.pg.ct (n + 5)) ee0 (pE f (.tuple [a,b]) r0 r1 none none)=some (.nx,pE f (.tuple [a,b]) r0 r1 (some (.fz a)) (some (.fz b))):=rfl
  generalize hρ:pE f (.tuple [a,b]) r0 r1 (some (.fz a)) (some (.fz b))=ρ at s1
  have e11:=vX (n:=n + 1) (N:=f.rows.length) (d:=a) (by omega)
  rw[show n + 1 + 4=n + 5 by omega,<- eC]at e11
  have t11:ba (pl.pg.ct (n + 5)) ebx ρ=some (!cI f.rows.length a,ρ):=av (bb (ae (aa (by rw[<- hρ];rfl) (aa (au (ρ1:=ρ) (by rw[<- hρ];rfl) rfl blen) ag)) rfl e11 rfl))
  have tl:ba (pl.pg.ct (n + 5)) ees ρ=some (!iA .list b,ρ):=by rw[<- hρ];rfl
  have out:aU 0 F_is_plan.io [Rl f.rows,Lo f,Ra r0 r1,.fz (.tuple [a,b])] ρ=some [Rl f.rows,Lo f,Ra r0 r1,.fz (.tuple [a,b])]:=by rw[<- hρ];rfl
  cases ha:cI f.rows.length a with
  | false =>
   rw[ha]at t11
   rw[dO ha]
   exact af rfl rfl (ab (aq t8 rfl) (ab s1 (aj (aC (a9 t11) rfl)))) out
  | true =>
   rw[ha]at t11
   cases hbl:iA .list b with
   | false =>
    rw[hbl]at tl
    rw[iU hbl]
    exact af rfl rfl (ab (aq t8 rfl) (ab s1 (aj (aC (aI t11 tl) rfl)))) out
   | true =>
    rw[hbl]at tl
    obtain⟨ps,qs,rfl,hq,hr⟩:=gX ha
    obtain⟨us,rfl⟩:∃us,b=.list us:=by cases b with | list us=>exact⟨us,rfl⟩ | _=>cases hbl
    rw[jC hq hr]
    obtain⟨rfl,hok⟩:=poolsA_some hq
    have Q:Qok f qs:=⟨hok,jA hr⟩
    have hul:us.length<=300000:=by have:=bU (a:=us);simp only[PyData.bulk]at hb;omega
    have e2:=kH (n:=n + 3) (rs:=f.rows) (by omega)
    rw[show n + 3 + 2=n + 5 by omega,<- eC]at e2
    have tn:ba (pl.pg.ct (n + 5)) ebe ρ=some (!decide (us.length=(gIx 0 f.rows).length),ρ):=by
     refine aw (ar (au (by rw[<- hρ];rfl) rfl gR) (au (ds:=[.list ((gIx 0 f.rows).map PyData.int)]) (aa (ae (ρ1:=ρ) (ρ2:=ρ) (ρ3:=ρ) (by rw[<- hρ];rfl) rfl e2 rfl) ag) ?_ blen) rfl rfl ?_)
     ·simp only[dF,ao,Option.bind_some,be];rfl
     ·rw[kK];exact congrArg (fun b=>some (!b)) (decide_eq_decide.mpr ⟨fun z=>by omega,fun z=>by omega⟩)
    obtain⟨o',ec⟩:=lX (n:=n + 4) (m:=qs.length) (ps:=qs.map Po) (by rw[aaa]) (us:=us) (out:=[]) (o:=none)
    rw[aaz]at ec
    have hc:ev (pl.pg.ct (n + 5)) Fm ρ=some (.val (.lst ((us.map fun x=>.bool (inI qs.length x)).map OD.fz)),ρ):=aP (ρ1:=ρ) (ρ2:=ρ) (zc:=([some (Pq qs)],ρ)) (bc (x:=.val (.fz (.list us))) (ρ1:=ρ) (by rw[<- hρ];rfl) rfl rfl) (by omega) (by rw[<- hρ];rfl) ec (by rw[<- hρ];rfl)
    have ta:ba (pl.pg.ct (n + 5)) eam ρ=some (!us.all (inI qs.length),ρ):=av (gF (au (aa hc ag) bp all_map))
    cases hl:decide (us.length=(gIx 0 f.rows).length) with
    | false =>
     rw[hl]at tn
     exact af (fn:=F_is_plan) (ρ:=ρ) rfl rfl (ab (aq t8 rfl) (ab s1 (ab (aq (aI t11 tl) rfl) (aj (aC (a9 tn) rfl))))) out
    | true =>
     rw[hl]at tn
     cases hal:us.all (inI qs.length) with
     | false =>
      rw[hal]at ta
      exact af (fn:=F_is_plan) (ρ:=ρ) rfl rfl (ab (aq t8 rfl) (ab s1 (ab (aq (aI t11 tl) rfl) (aj (aC (aI tn ta) rfl))))) out
     | true =>
      rw[hal]at ta
      obtain⟨eu,hu⟩:=in_ints hal
      have e13:=sR (n:=n) (r0:=r0) (r1:=r1) Q hu hN
      rw[<- eC]at e13
      rw[aaI,aaK]
      generalize us.map wZ=vs at eu e13
      subst eu
      exact af (fn:=F_is_plan) (ρ:=ρ) rfl rfl (ab (aq t8 rfl) (ab s1 (ab (aq (aI t11 tl) rfl) (ab (aq (aI tn ta) rfl) (aj (ah (ae (rs:=[.val (Rl f.rows),.val (Lo f),.val (Ra r0 r1),.val (Pq qs),.val (Dl vs)]) (ρ1:=ρ) (ρ2:=ρ) (ρ3:=ρ) (by rw[<- hρ];rfl) rfl e13 rfl) rfl)))))) out
abbrev Fp(qs:Pz)(us:List Int):OD:=.fz (.tuple [.list (qs.map Po),.list (us.map PyData.int)])
abbrev rE(f:Cf)(qs:Pz)(us:List Int)(r0 r1:Int)(o7:Option OD):DEnv:=[some (Rl f.rows),some (Lo f),some (Ra r0 r1),some (Fp qs us),some (Dl (fin f qs).ps),some (Dl (fin f qs).bs),some (It (fin f qs).pl),o7]
theorem jD{α:Type}{g h:α->Bool}:∀{l:List α},(l.all fun x=>g x && h x)=(l.all g && l.all h)
 | []=>rfl
 | x::l=>by
  rw[aaU,aaU,aaU,jD]
  cases g x<;>cases h x<;>cases l.all g<;>cases l.all h<;>rfl
theorem lY{us:List Int}(h:Qok f qs)(hu:∀u∈us,0<=u/\u < qs.length)(hul:us.length<=300000)(hN:f.rows.length<=200):pl.pg.call (n + 4) 26 [Rl f.rows,Lo f,Ra r0 r1,Fp qs us]=some (.fz (.bool (((gIx 0 f.rows).zip us).all (fI f qs r0 r1))),[Rl f.rows,Lo f,Ra r0 r1,Fp qs us]):=by
 have e33:=kI (n:=n) (fun q hq=>(h.ok q hq).g0) (h.len hN) hN
 have eC:(pl.pg.ct (n + 3)).call=pl.pg.call (n + 3):=rfl
 rw[<- eC]at e33
 obtain⟨a,b,ec⟩:=f6 (ps:=(fin f qs).ps) (rs:=f.rows) (i:=0) (by rw[lV];omega)
 have ee:enF ((0:Nat):Int) f.rows=bB (f.rows.map R.d):=(fW f.rows).symm
 rw[aaz,ee]at ec
 obtain⟨sp,hsp⟩:∃sp,sp=(gIx 0 f.rows).map (spo (fin f qs).ps):=⟨_,rfl⟩
 have ec':aW (aX (pl.pg.ct (n + 3)) (.tp [0,1]) (.some vJ) Cv) (bB (f.rows.map R.d)) [] [none,none,some (Dl (fin f qs).ps)]=some (sp.map PyData.int,[a,b,some (Dl (fin f qs).ps)]):=by rw[hsp];exact ec
 have s7:bD (pl.pg.ct (n + 3)) ea5 (rE f qs us r0 r1 none)=some (.nx,rE f qs us r0 r1 (some (Il sp))):=s_setQ (aP (fE rfl rfl) (by rw[bI,aaa];omega) rfl ec' rfl) (by rw[cD];rfl) rfl rfl
 have hz:∀w∈sp.zip us,0<=w.2/\w.2 < (fin f qs).bs.length:=fun w hw=>by
  obtain⟨_,h2⟩:=aaT (show (w.1,w.2)∈_ from hw)
  rw[h.bl];exact hu w.2 h2
 obtain⟨ρ',e,o0,o1,rfl⟩:=cJ (C:=pl.pg.ct (n + 3)) (tg:=.tp [0,1]) (elt:=.cmp2 .le .le edf edk efd) (h:=Zp) (fun ρ=>∃o p,ρ=[o,p,some (Ra r0 r1),some (Dl (fin f qs).bs)]) (fun w hw ρ hρ=>by
  obtain⟨o,p,rfl⟩:=hρ
  obtain⟨z1,z2⟩:=hz w hw
  have ei:ev (pl.pg.ct (n + 3)) edk [some (It w.1),some (It w.2),some (Ra r0 r1),some (Dl (fin f qs).bs)]=some (.val (It (w.1 - spo (fin f qs).bs w.2)),[some (It w.1),some (It w.2),some (Ra r0 r1),some (Dl (fin f qs).bs)]):=ai rfl (aO rfl rfl rfl (bC (jB z1 z2))) rfl rfl rfl
  have el:ev (pl.pg.ct (n + 3)) edf [some (It w.1),some (It w.2),some (Ra r0 r1),some (Dl (fin f qs).bs)]=some (.val (It (0 - r1)),[some (It w.1),some (It w.2),some (Ra r0 r1),some (Dl (fin f qs).bs)]):=ai rfl (aO rfl rfl rfl (aM (bF (k:=1) rfl))) rfl rfl rfl
  have er:ev (pl.pg.ct (n + 3)) efd [some (It w.1),some (It w.2),some (Ra r0 r1),some (Dl (fin f qs).bs)]=some (.val (It r0),[some (It w.1),some (It w.2),some (Ra r0 r1),some (Dl (fin f qs).bs)]):=aO rfl rfl rfl (aM aS)
  refine⟨[some (It w.1),some (It w.2),some (Ra r0 r1),some (Dl (fin f qs).bs)],fF (ρ1:=[some (It w.1),some (It w.2),some (Ra r0 r1),some (Dl (fin f qs).bs)]) rfl (x:=.val (.fz (.bool (decide (w.1 - spo (fin f qs).bs w.2<=r0) && decide (spo (fin f qs).bs w.2 - w.1<=r1))))) ?_ rfl,_,_,rfl⟩
  by_cases hc:0 - r1<=w.1 - spo (fin f qs).bs w.2
  ·exact fY (dx:=.int (0 - r1)) (dy:=.int (w.1 - spo (fin f qs).bs w.2)) (dz:=.int r0) el ei rfl rfl (show some (decide (0 - r1<=w.1 - spo (fin f qs).bs w.2))=some true by rw[Dac hc]) er rfl rfl (show some (decide (w.1 - spo (fin f qs).bs w.2<=r0))=_ by rw[Dac (show spo (fin f qs).bs w.2 - w.1<=r1 by omega),ach])
  ·have:=fZ (C:=pl.pg.ct (n + 3)) (o:=.le) (o':=.le) (c:=.ix (.nm 2) (.int 0)) (dx:=.int (0 - r1)) (dy:=.int (w.1 - spo (fin f qs).bs w.2)) el ei rfl rfl (show some (decide (0 - r1<=w.1 - spo (fin f qs).bs w.2))=some false by rw[Dab hc])
   rw[this,Dab (show ¬ spo (fin f qs).bs w.2 - w.1<=r1 by omega),Bool.and_false]) ⟨none,none,rfl⟩
 rw[aaz,<- cY]at e
 have hzi:ia (pl.pg.ct (n + 3)) edq (rE f qs us r0 r1 (some (Il sp)))=some (b9 (sp.map PyData.int) (us.map PyData.int),rE f qs us r0 r1 (some (Dl sp))):=i_zipQ (x:=.rf 7) (y:=.val (Dl us)) (dx:=.list (sp.map PyData.int)) (dy:=.list (us.map PyData.int)) (ρ1:=rE f qs us r0 r1 (some (Il sp))) (ρ2:=rE f qs us r0 r1 (some (Il sp))) (ρ3:=rE f qs us r0 r1 (some (Dl sp))) rfl (aO rfl rfl rfl (aM (bF (k:=1) rfl))) (frz_rf rfl (be _) rfl) rfl rfl rfl
 have hc:=aP (C:=pl.pg.ct (n + 3)) (nt:=2) (fr:=[2,5]) (ρ:=rE f qs us r0 r1 (some (Il sp))) (ρ1:=rE f qs us r0 r1 (some (Dl sp))) (ρ2:=rE f qs us r0 r1 (some (Dl sp))) (zc:=([some (Ra r0 r1),some (Dl (fin f qs).bs)],rE f qs us r0 r1 (some (Dl sp)))) hzi (by unfold b9;rw[abt,aaa,aaa];omega) rfl e rfl
 have hall:(sp.zip us).all (fun w=>decide (w.1 - spo (fin f qs).bs w.2<=r0) && decide (spo (fin f qs).bs w.2 - w.1<=r1))=((gIx 0 f.rows).zip us).all (fI f qs r0 r1):=by
  rw[hsp,abR,abP];rfl
 rw[<- hall]
 exact af (fn:=fK) (ρ:=rE f qs us r0 r1 (some (Dl sp))) rfl rfl (ab (s_asgQ (ρ3:=rE f qs us r0 r1 none) (ae (ρ3:=[some (Rl f.rows),some (Lo f),some (Ra r0 r1),some (Fp qs us),none,none,none,none]) (aa rfl (aa rfl (aa (aO rfl rfl rfl (aM aS)) ag))) rfl e33 rfl) rfl rfl) (ab s7 (aj (ah (au (aa hc ag) bp all_map) rfl)))) rfl
theorem w8:∀{ps:List PyData} {l:Int},rL N l ps=(aD N ps).elim false fun qs=>(qs.head?.elim true fun q=>decide (l < q.1)) && riseB qs
 | [],_=>rfl
 | x::ps,l=>by
  rw[rL,aD]
  cases hx:bt N x with
  | none=>rfl
  | some q =>
   show (decide (l < q.1) && rL N q.1 ps)=((aD N ps).bind fun r=>some (q::r)).elim false _
   rw[w8]
   cases hq:aD N ps with
   | none=>show (_ && false)=false;rw[Bool.and_false]
   | some qs =>
    show (decide (l < q.1) && _)=(decide (l < q.1) && riseB (q::qs))
    congr 1
    cases qs with
    | nil=>rfl
    | cons a qs=>rfl
theorem sT:rL N (-1) ps=cI N (.list ps):=by
 rw[w8]
 show _=(aD N ps).elim false riseB
 cases hq:aD N ps with
 | none=>rfl
 | some qs =>
  show (_ && riseB qs)=riseB qs
  cases qs with
  | nil=>rfl
  | cons q qs =>
   have:=((poolsA_some hq).2 q aag).g0
   show (decide (-1 < q.1) && _)=_
   rw[Dac (by omega),aaK]
theorem sU:∀{xs:List PyData} {l:Int} {o5:Option OD},-1<=l->PyData.bulkAll xs<=300000->∃ρ',bx (fun z ρ'=>(bj (.nm 5) (.fz z) ρ').bind fun ρ1=>aN (pl.pg.ct (n + 1)) Fw ρ1) xs (lE f r0 r1 d (some (It l)) o5 o6)=some (if rL f.rows.length l xs=true then .nx else .rt (.fz (.bool false)),ρ')/\(rL f.rows.length l xs=true->∃o4' o5',ρ'=lE f r0 r1 d o4' o5' o6)
 | [],l,o5,_,_=>⟨_,rfl,fun _=>⟨_,_,rfl⟩⟩
 | x::xs,l,o5,hl,hb=>by
  simp only[PyData.bulkAll]at hb
  obtain⟨ρ1,e⟩:=zJ (x:=x) hl (by omega)
  rw[rL]
  cases hq:bt f.rows.length x with
  | none=>rw[hq]at e;exact⟨ρ1,bs e rfl,fun z=>by cases z⟩
  | some q =>
   rw[hq]at e
   have e:_=if l < q.1 then some (Fl.nx,lE f r0 r1 d (some (It q.1)) (some (.fz x)) o6) else some (Fl.rt (.fz (.bool false)),ρ1):=e
   by_cases hlt:l < q.1
   ·rw[if_pos hlt]at e
    have g0:=(poolA_some hq).2.g0
    obtain⟨ρ2,e2,h2⟩:=sU (xs:=xs) (l:=q.1) (by omega) (by omega)
    show ∃ρ',_=some (if (decide (l < q.1) && rL f.rows.length q.1 xs)=true then _ else _,ρ')/\((decide (l < q.1) && rL f.rows.length q.1 xs)=true->_)
    rw[Dac hlt,aaK]
    exact⟨ρ2,bs e e2,h2⟩
   ·rw[if_neg hlt]at e
    show ∃ρ',_=some (if (decide (l < q.1) && rL f.rows.length q.1 xs)=true then _ else _,ρ')/\((decide (l < q.1) && rL f.rows.length q.1 xs)=true->_)
    rw[Dab hlt,abe]
    exact⟨ρ1,bs e rfl,fun z=>by cases z⟩
theorem w9:∀{rs:List R} {k:Nat},f.rows.drop k=rs->(rs.filter R.gr).map R.num=(gIx (k:Int) rs).map (sP f)
 | [],k,_=>rfl
 | r::rs,k,h=>by
  have hr:f.rows[k]?=some r:=by
   have:=congrArg List.head? h
   rwa [List.head?_drop,List.head?_cons]at this
  have hd:f.rows.drop (k + 1)=rs:=by
   have:=congrArg List.tail h
   rwa [List.tail_drop,List.tail_cons]at this
  have ih:=w9 hd
  rw[gIx,show ((k:Int) + 1)=((k + 1:Nat):Int) by omega]
  by_cases hg:r.gr=true
  ·rw[if_pos hg,abJ hg,aaj,aaj,ih]
   congr 1
   unfold sP
   rw[aaR,hr];rfl
  ·rw[if_neg hg,abK hg,ih]
theorem sV:∃o',aW (aX C (.nm 0) .none efp) us out [o]=some (out++us.map fun x=>.bool (iA .list x),[o']):=by
 obtain⟨ρ',e,o',rfl⟩:=cJ (C:=C) (tg:=.nm 0) (elt:=.isi .list (.nm 0)) (h:=id) (fun ρ=>∃o,ρ=[o]) (fun x _ ρ hρ=>by
  obtain⟨o,rfl⟩:=hρ
  exact⟨[some (.fz x)],fF rfl rfl rfl,_,rfl⟩) ⟨o,rfl⟩
 rw[abQ]at e
 exact⟨o',e⟩
theorem zM{m:Nat}:zI 0 ((m:Int) - 1) x=inI m x:=by
 cases x with
 | int i =>
  show (decide ((0:Int)<=i) && decide (i<=(m:Int) - 1))=(decide (0<=i) && decide (i < (m:Int)))
  congr 1
  exact decide_eq_decide.mpr ⟨fun z=>by omega,fun z=>by omega⟩
 | _=>rfl
abbrev zR(p:R × Int):PyData:=.tuple [p.1.d,.int p.2]
theorem xf:∀{gs:List R} {us:List Int},b9 (gs.map R.d) (us.map PyData.int)=(gs.zip us).map zR
 | [],_=>rfl
 | _::_,[]=>rfl
 | a::as,b::bs=>by
  have:=xf (gs:=as) (us:=bs)
  unfold b9 at this ⊢
  rw[aaj,aaj,abI,aa9,aaj,this]
theorem dat_Rs:(Rs rs).dat=some (.list (rs.map R.d)):=by rw[Rs,<- wR];exact cp _
theorem vZ(hb:d.bulk<=300000)(hN:f.rows.length<=200):pl.pg.call (n + 5) 27 [Rl f.rows,Lo f,Ra r0 r1,.fz d]=some (.fz (.bool (planB f r0 r1 d)),[Rl f.rows,Lo f,Ra r0 r1,.fz d]):=by
 have eC:(pl.pg.ct (n + 4)).call=pl.pg.call (n + 4):=rfl
 generalize hρ:lE f r0 r1 d none none none=ρ
 have st:dG F_l_is_plan.n [Rl f.rows,Lo f,Ra r0 r1,.fz d]=ρ:=by rw[<- hρ];rfl
 have h3:ev (pl.pg.ct (n + 4)) (.nm 3) ρ=some (.val (.fz d),ρ):=by rw[<- hρ];rfl
 have fin0:∀{ρ':DEnv} {z:OD},aN (pl.pg.ct (n + 4)) F_l_is_plan.body ρ=some (.rt z,ρ')->pl.pg.call (n + 5) 27 [Rl f.rows,Lo f,Ra r0 r1,.fz d]=some (z,[Rl f.rows,Lo f,Ra r0 r1,.fz d]):=fun {ρ' z} h=>af (fn:=F_l_is_plan) rfl rfl (by rw[st];exact h) rfl
 cases hp:cE d with
 | false =>
  rw[iT hp]
  refine fin0 (ρ':=ρ) (aj (aC ?_ rfl))
  cases d with
  | tuple ds =>
   have hd:ds.length≠2:=Dad hp
   exact aI (av (k:=true) (by rw[<- hρ];rfl)) (a9 (aw (ar (au (aa h3 ag) rfl tuple_len) rfl rfl rfl (by rw[kK,Dab (by omega)];rfl))))
  | none=>exact a9 (av (k:=false) (by rw[<- hρ];rfl))
  | bool b=>exact a9 (av (k:=false) (by rw[<- hρ];rfl))
  | int b=>exact a9 (av (k:=false) (by rw[<- hρ];rfl))
  | str b=>exact a9 (av (k:=false) (by rw[<- hρ];rfl))
  | list b=>exact a9 (av (k:=false) (by rw[<- hρ];rfl))
  | dict b=>exact a9 (av (k:=false) (by rw[<- hρ];rfl))
 | true =>
  obtain⟨a,b,rfl⟩:=pairB_is hp
  simp only[PyData.bulk,PyData.bulkAll]at hb
  obtain⟨o',ec⟩:=sV
  rw[aaz]at ec
  have hc:ev (pl.pg.ct (n + 4)) E7 ρ=some (.val (.lst (([a,b].map fun x=>.bool (iA .list x)).map OD.fz)),ρ):=aP (bc h3 rfl rfl) (show 2 < 1000000 by decide) rfl ec unca_nil
  have t1:ba (pl.pg.ct (n + 4)) eah ρ=some (!(iA .list a && (iA .list b && true)),ρ):=aI (av (k:=true) (by rw[<- hρ];rfl)) (aI (aw (ar (dy:=.int 2) (au (rs:=[.val (.fz (.tuple [a,b]))]) (ρ1:=ρ) (ds:=[.tuple [a,b]]) (aa h3 ag) rfl rfl) rfl rfl rfl rfl)) (av (gF (au (aa hc ag) bp all_map))))
  cases ha:iA .list a with
  | false =>
   rw[ha]at t1
   rw[dO (a:=a) (by cases a with | list ps=>cases ha | _=>rfl)]
   exact fin0 (ρ':=ρ) (aj (aC t1 rfl))
  | true =>
   cases hbl:iA .list b with
   | false =>
    rw[ha,hbl]at t1
    rw[iU hbl]
    exact fin0 (ρ':=ρ) (aj (aC t1 rfl))
   | true =>
    rw[ha,hbl]at t1
    obtain⟨ps,rfl⟩:∃ps,a=.list ps:=by cases a with | list ps=>exact⟨ps,rfl⟩ | _=>cases ha
    obtain⟨us,rfl⟩:∃us,b=.list us:=by cases b with | list us=>exact⟨us,rfl⟩ | _=>cases hbl
    simp only[PyData.bulk]at hb
    have hul:us.length<=300000:=by have:=bU (a:=us);omega
    obtain⟨ρ2,ew,hw⟩:=sU (n:=n + 3) (f:=f) (r0:=r0) (r1:=r1) (d:=.tuple [.list ps,.list us]) (o6:=none) (xs:=ps) (l:=-1) (o5:=none) (by omega) (by omega)
    rw[sT]at ew hw
    have s4:bD (pl.pg.ct (n + 4)) ee5 ρ=some (.nx,lE f r0 r1 (.tuple [.list ps,.list us]) (some (It (-1))) none none):=by rw[<- hρ];rfl
    have hi:ia (pl.pg.ct (n + 4)) eel (lE f r0 r1 (.tuple [.list ps,.list us]) (some (It (-1))) none none)=some (ps,lE f r0 r1 (.tuple [.list ps,.list us]) (some (It (-1))) none none):=bc (d:=.list ps) (x:=.val (.fz (.list ps))) (ρ1:=lE f r0 r1 (.tuple [.list ps,.list us]) (some (It (-1))) none none) (aO rfl rfl rfl (aM aS)) rfl rfl
    cases hpl:cI f.rows.length (.list ps) with
    | false =>
     rw[hpl]at ew
     rw[dO hpl]
     exact fin0 (ρ':=ρ2) (ab (aq t1 rfl) (ab s4 (aj (s_frQ hi ew))))
    | true =>
     rw[hpl]at ew
     obtain⟨o4,o5,rfl⟩:=hw hpl
     obtain⟨ps',qs,e0,hq,hr⟩:=gX hpl
     cases e0
     rw[jC hq hr]
     obtain⟨rfl,hok⟩:=poolsA_some hq
     have Q:Qok f qs:=⟨hok,jA hr⟩
     obtain⟨og,eg⟩:=gW (n:=n + 3) (rs:=f.rows) (out:=[]) (o:=none)
     rw[aaz]at eg
     obtain⟨gs,hgs⟩:∃gs,gs=f.rows.filter R.gr:=⟨_,rfl⟩
     rw[<- hgs]at eg
     have hgl:(gIx 0 f.rows).length=gs.length:=by rw[hgs];exact gIx_len
     have hfl:gs.length<=f.rows.length:=by rw[hgs];exact abw _ _
     have s6:bD (pl.pg.ct (n + 4)) ebi (lE f r0 r1 (.tuple [.list (qs.map Po),.list us]) o4 o5 none)=some (.nx,lE f r0 r1 (.tuple [.list (qs.map Po),.list us]) o4 o5 (some (Rs gs))):=s_setQ (z:=Rs gs) (aP (ρ2:=lE f r0 r1 (.tuple [.list (qs.map Po),.list us]) o4 o5 none) (bc rfl rfl rfl) (by rw[aaa];omega) rfl eg unca_nil) (by rw[wR];rfl) rfl rfl
     have i1:∀{o6:Option OD},ev (pl.pg.ct (n + 4)) efc (lE f r0 r1 (.tuple [.list (qs.map Po),.list us]) o4 o5 o6)=some (.val (.fz (.list us)),lE f r0 r1 (.tuple [.list (qs.map Po),.list us]) o4 o5 o6):=fun {o6}=>aO rfl rfl rfl (aM (bF (k:=1) rfl))
     generalize hρ3:lE f r0 r1 (.tuple [.list (qs.map Po),.list us]) o4 o5 (some (Rs gs))=ρ3 at s6
     have i1':ev (pl.pg.ct (n + 4)) efc ρ3=some (.val (.fz (.list us)),ρ3):=by rw[<- hρ3];exact i1
     have t5:ba (pl.pg.ct (n + 4)) ebk ρ3=some (!decide (us.length=(gIx 0 f.rows).length),ρ3):=by
      refine aw (ar (dx:=.int us.length) (dy:=.int gs.length) (au (rs:=[.val (.fz (.list us))]) (ρ1:=ρ3) (ds:=[.list us]) (aa i1' ag) rfl gR) (au (rs:=[.rf 6]) (ρ1:=ρ3) (ds:=[.list (gs.map R.d)]) (by rw[<- hρ3];rfl) ?_ blen) rfl rfl ?_)
      ·have:ao ρ3 (.rf 6)=some (.list (gs.map R.d)):=by rw[<- hρ3];exact bs rfl dat_Rs
       simp only[dF,this];rfl
      ·rw[kK,hgl];exact congrArg (fun b=>some (!b)) (decide_eq_decide.mpr ⟨fun z=>by omega,fun z=>by omega⟩)
     obtain⟨ρ',eb,o',rfl⟩:=cJ (C:=pl.pg.ct (n + 4)) (tg:=.nm 0) (elt:=.call 28 Fk) (h:=id) (g:=fun x=>.bool (inI qs.length x)) (fun ρ=>∃o,ρ=[o,some (.fz (.tuple [.list (qs.map Po),.list us]))]) (xs:=us) (out:=[]) (ρ:=[none,some (.fz (.tuple [.list (qs.map Po),.list us]))]) (fun x _ ρ hρ=>by
      obtain⟨o,rfl⟩:=hρ
      have e28:pl.pg.call (n + 4) 28 [.fz x,It 0,It ((qs.length:Int) - 1)]=some (.fz (.bool (inI qs.length x)),[.fz x,It 0,It ((qs.length:Int) - 1)]):=by rw[<- zM];exact sO
      exact⟨[some (.fz x),some (.fz (.tuple [.list (qs.map Po),.list us]))],fF (ρ1:=[some (.fz x),some (.fz (.tuple [.list (qs.map Po),.list us]))]) rfl (ae (rs:=[.val (.fz x),.val (It 0),.val (It ((qs.length:Int) - 1))]) (ρ1:=[some (.fz x),some (.fz (.tuple [.list (qs.map Po),.list us]))]) (ρ3:=[some (.fz x),some (.fz (.tuple [.list (qs.map Po),.list us]))]) (aa rfl (aa rfl (aa (ai (dx:=.int qs.length) (dy:=.int 1) (au (rs:=[.val (Pq qs)]) (aa (aO rfl rfl rfl (aM aS)) ag) rfl blen) rfl rfl rfl rfl) ag))) rfl e28 rfl) rfl,_,rfl⟩) ⟨none,rfl⟩
     rw[aaz,abQ]at eb
     have hcb:ev (pl.pg.ct (n + 4)) Fs ρ3=some (.val (.lst ((us.map fun x=>.bool (inI qs.length x)).map OD.fz)),ρ3):=aP (ρ1:=ρ3) (ρ2:=ρ3) (zc:=([some (.fz (.tuple [.list (qs.map Po),.list us]))],ρ3)) (bc i1' rfl rfl) (by omega) (by rw[<- hρ3];rfl) eb (by rw[<- hρ3];rfl)
     have t6:ba (pl.pg.ct (n + 4)) ead ρ3=some (!us.all (inI qs.length),ρ3):=av (gF (au (aa hcb ag) bp all_map))
     cases hl:decide (us.length=(gIx 0 f.rows).length) with
     | false =>
      rw[hl]at t5
      exact fin0 (ρ':=ρ3) (ab (aq t1 rfl) (ab s4 (ab (s_frQ hi ew) (ab s6 (aj (aC (a9 t5) rfl))))))
     | true =>
      rw[hl]at t5
      cases hal:us.all (inI qs.length) with
      | false =>
       rw[hal]at t6
       exact fin0 (ρ':=ρ3) (ab (aq t1 rfl) (ab s4 (ab (s_frQ hi ew) (ab s6 (aj (aC (aI t5 t6) rfl))))))
      | true =>
       rw[hal]at t6
       obtain⟨eu,hu⟩:=in_ints hal
       rw[aaI,aaK]
       have e26:=lY (n:=n) (r0:=r0) (r1:=r1) Q hu (by rw[aaa];exact hul) hN
       rw[<- eC]at e26
       have hvl:(us.map wZ).length<=300000:=by rw[aaa];exact hul
       generalize us.map wZ=vs at eu e26 hu hvl
       subst eu
       obtain⟨ρ',em,o0,o1,rfl⟩:=cJ (C:=pl.pg.ct (n + 4)) (tg:=.tp [0,1]) (elt:=.cmp .inn ee9 ecx) (h:=zR) (g:=fun p=>.bool (decide (p.1.num∈((qs[p.2.toNat]?).map (·.2)).getD []))) (fun ρ=>∃o p,ρ=[o,p,some (.fz (.tuple [.list (qs.map Po),.list (vs.map PyData.int)]))]) (xs:=gs.zip vs) (out:=[]) (ρ:=[none,none,some (.fz (.tuple [.list (qs.map Po),.list (vs.map PyData.int)]))]) (fun p hp ρ hρ=>by
        obtain⟨o,p',rfl⟩:=hρ
        obtain⟨g1,g2⟩:=aaT (show (p.1,p.2)∈_ from hp)
        obtain⟨r,u⟩:=p
        obtain⟨u0,u1⟩:=hu u g2
        rw[hgs]at g1
        have hgr:=(abi.mp g1).2
        obtain⟨x,y,rfl⟩:=gr_st hgr
        obtain⟨k,rfl⟩:∃k:Nat,u=k:=⟨u.toNat,by omega⟩
        have hk:k < qs.length:=by omega
        have hqa:atI (qs.map Po) (k:Int)=some (Po qs[k]):=bF (by rw[aav,aan hk];rfl)
        have hm:decide ((R.st x y).num∈((qs[(k:Int).toNat]?).map (·.2)).getD [])=decide (y∈(qs[k]).2):=by rw[aaR,aan hk];rfl
        refine⟨[some (Rd (.st x y)),some (It k),some (.fz (.tuple [.list (qs.map Po),.list (vs.map PyData.int)]))],fF (ρ1:=[some (Rd (.st x y)),some (It k),some (.fz (.tuple [.list (qs.map Po),.list (vs.map PyData.int)]))]) rfl (x:=.val (.fz (.bool (decide ((R.st x y).num∈((qs[(k:Int).toNat]?).map (·.2)).getD []))))) ?_ rfl,_,_,rfl⟩
        rw[hm]
        exact ar (dx:=.int y) (dy:=.tuple ((qs[k]).2.map PyData.int)) (aO rfl rfl rfl (aM (bF (k:=2) rfl))) (aO (aO (aO rfl rfl rfl (aM aS)) rfl rfl (bC hqa)) rfl rfl (aM (bF (k:=1) rfl))) rfl rfl FV) ⟨none,none,rfl⟩
       rw[aaz,<- xf]at em
       have hzi:ia (pl.pg.ct (n + 4)) edr ρ3=some (b9 (gs.map R.d) (vs.map PyData.int),ρ3.set 6 (some (Rl gs))):=i_zipQ (x:=.rf 6) (y:=.val (Dl vs)) (dx:=.list (gs.map R.d)) (dy:=.list (vs.map PyData.int)) (ρ1:=ρ3) (ρ2:=ρ3) (ρ3:=ρ3.set 6 (some (Rl gs))) (by rw[<- hρ3];rfl) i1' (frz_rf (x:=Rs gs) (by rw[<- hρ3];rfl) dat_Rs rfl) rfl rfl rfl
       have hcm:=aP (C:=pl.pg.ct (n + 4)) (nt:=2) (fr:=[3]) (ρ:=ρ3) (ρ1:=ρ3.set 6 (some (Rl gs))) (ρ2:=ρ3.set 6 (some (Rl gs))) (zc:=([some (.fz (.tuple [.list (qs.map Po),.list (vs.map PyData.int)]))],ρ3.set 6 (some (Rl gs)))) hzi (by unfold b9;rw[abt,aaa,aaa];omega) (by rw[<- hρ3];rfl) em (by rw[<- hρ3];rfl)
       have t7:=av (gF (au (C:=pl.pg.ct (n + 4)) (ρ:=ρ3) (aa hcm ag) bp all_map))
       have hmem:(gs.zip vs).all (fun p=>decide (p.1.num∈((qs[p.2.toNat]?).map (·.2)).getD []))=((gIx 0 f.rows).zip vs).all (dA f qs):=by
        have ha:=w9 (f:=f) (rs:=f.rows) (k:=0) rfl
        rw[<- hgs]at ha
        have h1:(gs.zip vs).all (fun p=>decide (p.1.num∈((qs[p.2.toNat]?).map (·.2)).getD []))=((gs.map R.num).zip vs).all fun p=>decide (p.1∈((qs[p.2.toNat]?).map (·.2)).getD []):=by rw[abR,abP];rfl
        have h2:((gIx 0 f.rows).zip vs).all (dA f qs)=(((gIx 0 f.rows).map (sP f)).zip vs).all fun p=>decide (p.1∈((qs[p.2.toNat]?).map (·.2)).getD []):=by rw[abR,abP];rfl
        rw[h1,h2,ha];rfl
       rw[hmem]at t7
       have hsv:servB f qs vs r0 r1=(((gIx 0 f.rows).zip vs).all (dA f qs) && ((gIx 0 f.rows).zip vs).all (fI f qs r0 r1)):=by unfold servB;exact jD
       rw[hsv]
       cases hm':((gIx 0 f.rows).zip vs).all (dA f qs) with
       | false =>
        rw[hm']at t7
        exact fin0 (ρ':=ρ3.set 6 (some (Rl gs))) (ab (aq t1 rfl) (ab s4 (ab (s_frQ hi ew) (ab s6 (ab (aq (aI t5 t6) rfl) (aj (aC t7 rfl)))))))
       | true =>
        rw[hm']at t7
        rw[aaK]
        exact fin0 (ρ':=ρ3.set 6 (some (Rl gs))) (ab (aq t1 rfl) (ab s4 (ab (s_frQ hi ew) (ab s6 (ab (aq (aI t5 t6) rfl) (ab (aq t7 rfl) (aj (ah (ae (rs:=[.val (Rl f.rows),.val (Lo f),.val (Ra r0 r1),.val (Fp qs vs)]) (ρ1:=ρ3.set 6 (some (Rl gs))) (ρ2:=ρ3.set 6 (some (Rl gs))) (ρ3:=ρ3.set 6 (some (Rl gs))) (by rw[<- hρ3];rfl) rfl e26 rfl) rfl))))))))
theorem sW:∀{w l:List Int},w.Nodup->(∀x∈w,x∈l)->w.length<=l.length
 | [],l,_,_=>aaE _
 | x::w,l,h,hs=>by
  obtain⟨h1,h2⟩:=aaH.mp h
  have hx:=hs x aag
  have:=sW (l:=l.erase x) h2 fun y hy=>(List.mem_erase_of_ne fun e=>h1 (by rw[<- e];exact hy)).mpr (hs y (aai _ hy))
  have h3:=abS hx
  rw[List.length_erase_of_mem hx]at this
  rw[aap];omega
theorem zN{w ns:List Int}(h:w.Nodup)(hs:∀x∈w,x∈ns):w.length<=unl ns:=by
 refine sW h fun x hx=>?_
 have e:=PyProof.Rows.firstMet_any (fun i=>ns.getD i 0) ns.length x
 obtain⟨i,hi,e1⟩:=List.mem_iff_getElem.mp (hs x hx)
 have e2:((List.range ns.length).map fun i=>ns.getD i 0).any (· == x)=true:=abh.mpr ⟨x,aay.mpr ⟨i,abx.mpr hi,by simp[List.getD,hi,e1]⟩,by simp⟩
 rw[e2]at e
 obtain⟨y,hy,ey⟩:=abh.mp e
 rw[<- eq_of_beq ey];exact hy
theorem zO(h:ns.Nodup):unl ns=ns.length:=Nat.le_antisymm (PyProof.Rows.firstMet_length_le _ _) (zN h fun _ hx=>hx)
theorem eV:∀ns:List Int,cT (ns.map PyData.int)=some ns
 | []=>rfl
 | n::ns=>bs rfl (bs (eV ns) rfl)
theorem gY:∀{rs:List R} {i:Int} {out:List PyData} {o0 o1:Option OD},∃ρ',aW (aX (pl.pg.ct (n + 1)) (.tp [0,1]) (.some vJ) (.nm 0)) (enF i rs) out [o0,o1]=some (out++(gIx i rs).map PyData.int,ρ')
 | [],i,out,o0,o1=>⟨[o0,o1],by rw[gIx,aaQ,aar];rfl⟩
 | r::rs,i,out,o0,o1=>by
  have hc:ba (pl.pg.ct (n + 1)) vJ [some (It i),some (Rd r)]=some (r.gr,[some (It i),some (Rd r)]):=bb (ae rfl rfl (nz r) rfl)
  rw[gIx]
  cases hg:r.gr with
  | false =>
   rw[hg]at hc
   obtain⟨ρ',e⟩:=gY
   refine⟨ρ',bs (lM rfl hc) ?_⟩
   rw[if_neg aah,e,aar]
  | true =>
   rw[hg]at hc
   obtain⟨ρ',e⟩:=gY
   refine⟨ρ',bs (lL rfl hc rfl rfl) ?_⟩
   rw[if_pos rfl,e,aaf];rfl
theorem lay_ints:∀ns:List Int,PyData.canLayAll0 (ns.map PyData.int)=true
 | []=>rfl
 | _::r=>by simp[PyData.canLayAll0,PyData.canLay0,lay_ints r]
theorem kL:∀ns:List Int,PyData.depthAll (ns.map PyData.int)=0
 | []=>rfl
 | _::r=>by simp[PyData.depthAll,PyData.depth,kL r]
theorem v3(ns:List Int):iz .eq (.list (ns.map PyData.int)) (.list [])=some ns.isEmpty:=by
 have h:SeqAt.shaped (.list (ns.map PyData.int))=true:=by simp[SeqAt.shaped,PyData.canLay0,PyData.depth,lay_ints,kL]
 have h2:SeqAt.shaped (.list [])=true:=by decide +kernel
 have:PyData.eqv (.list (ns.map PyData.int)) (.list [])=ns.isEmpty:=by cases ns<;>simp[PyData.eqv,PyData.eqvAll]
 show (if (SeqAt.shaped (.list (ns.map PyData.int)) && SeqAt.shaped (.list []))=true then some (PyData.eqv (.list (ns.map PyData.int)) (.list [])) else none)=_
 rw[h,h2,aaI,if_pos rfl,this]
theorem gZ(h:ρ[j]?.join=some (.lst (ds.map OD.fz))):lg ρ (.rf j)=some ds:=by show (ρ[j]?.join).bind listOf=_;rw[h];exact fzL_of ds
theorem lZ:lg ρ (.val (.lst (ds.map OD.fz)))=some ds:=by show tG (ds.map OD.fz)=_;exact fzL_of ds
theorem jF(h1:ev C a ρ=some (x,ρ1))(h2:frz1 ρ1 x=some (d,ρ2)):ev C (.frz a) ρ=some (.val (.fz d),ρ2):=bs h1 (bs h2 rfl)
theorem zT(h0:ρ[i]?.join=some (.lst ys))(hk:ev C ke ρ=some (y,ρ1))(he:ev C e ρ1=some (x,ρ2))(hy:ao ρ2 y=some (.int k))(hx:ao ρ2 x=some d)(hs:CQ d=true)(h1:ρ2[i]?.join=some (.lst xs))(hz:0<=k/\k<=xs.length/\xs.length < 100000)(hr:ρ2.set i (some (.lst (xs.take k.toNat++.fz d::xs.drop k.toNat)))=ρ3):bD C (.ins i ke e) ρ=some (.nx,ρ3):=bs h0 (bs rfl (bs hk (bs he (bs hy (bs rfl (bs hx (bg hs (bs h1 (bs rfl (bg hz (by rw[<- hr])))))))))))
theorem sX(h1:ev C a ρ=some (x,ρ1))(h2:ev C b ρ1=some (y,ρ2))(hx:ao ρ2 x=some (.int i))(hy:ao ρ2 y=some (.int j))(h:-(2 ^ 62)<=i/\i < 2 ^ 62/\-(2 ^ 62)<=j/\j < 2 ^ 62):ia C (.rg2 a b) ρ=some (bW i (j - i).toNat,ρ2):=bs h1 (bs h2 (bs hx (bs rfl (bs hy (bs rfl (bg h rfl))))))
def fS(lo:Int)(n:Nat):List Int:=(List.range n).map fun (i:Nat)=>lo + (i:Int)
theorem sY:bW lo n=(fS lo n).map PyData.int:=by unfold bW fS;rw[aaO];rfl
theorem kM(h:x∈fS lo n):lo<=x/\x < lo + n:=by
 obtain⟨i,hi,rfl⟩:=aay.mp h
 have:=abx.mp hi
 omega
theorem v5:(fS lo n).Nodup:=by
 unfold fS List.Nodup
 rw[List.pairwise_map]
 exact (List.nodup_range ).imp fun {a b} h z=>h (by omega)
theorem eW{ns:List Int}(hw:∀y:Int,ba C CW [some (It y),some w]=some (!decide (y∈ns),[some (It y),some w])):∀{xs:List Int} {out:List PyData} {o:Option OD},∃o',aW (aX C (.nm 0) (.some CW) (.nm 0)) (xs.map PyData.int) out [o,some w]=some (out++(xs.filter fun y=>!decide (y∈ns)).map PyData.int,[o',some w])
 | [],out,o=>⟨o,by show some (out,_)=some (out++[],_);rw[aar]⟩
 | x::xs,out,o=>by
  have t:=hw x
  cases hb:!decide (x∈ns) with
  | true =>
   rw[hb]at t
   obtain⟨o',e⟩:=eW hw
   refine⟨o',bs (lL rfl t rfl rfl) ?_⟩
   rw[abJ (p:=fun y=>!decide (y∈ns)) hb,aaj]
   rw[aaf]at e
   exact e
  | false =>
   rw[hb]at t
   obtain⟨o',e⟩:=eW hw (out:=out++[])
   refine⟨o',bs (lM rfl t) ?_⟩
   rw[abK (by rw[hb];exact aah)]
   rw[aar]at e ⊢
   exact e
theorem kN{k:Nat}:cutD ds none (some (k:Int))=ds.take k:=by
 have e1:HT.sIx ds.length 0 none=0:=rfl
 have e0:HT.sIx ds.length ds.length (some (k:Int))=min k ds.length:=by unfold HT.sIx;simp only;rw[if_neg (by omega)];rfl
 unfold cutD
 rw[e0,e1,List.drop_zero,Nat.sub_zero]
 by_cases h:k<=ds.length
 ·rw[abZ h]
 ·rw[Nat.min_eq_right (by omega),abE (aac _),abE (by omega)]
abbrev gE(t:OD)(rs:List R)(g gs:List Int)(o4 o5:Option OD):DEnv:=[some t,some (Rl rs),some (Dl g),some (Il gs),o4,o5,none,none,none,none,none,none]
abbrev gB:Ss:=match F_any_plan.body with | .cons _ (.cons _ (.cons (.fr _ _ b) _))=>b | _=>.nil
theorem g6(hr:rs.length<=200):∀{j i m:Nat} {a b c:Int} {gs:List Int} {o4 o5:Option OD},TpOk b c m->m + j<=100000->gs.length + j<=50->gs.Nodup->(∀x∈gs,0<=x/\x<=rs.length) ->
  ∃a' b' c' gs' o4' o5',bx (fun d ρ'=>(bj (.nm 4) (.fz d) ρ').bind fun ρ1=>aN (pl.pg.ct (n + 1)) gB ρ1) (bW i j) (gE (Tp a b c) rs g gs o4 o5)=some (.nx,gE (Tp a' b' c') rs g gs' o4' o5')/\TpOk b' c' (m + j)/\gs'.length<=gs.length + j/\gs'.Nodup/\(∀x∈gs',0<=x/\x<=rs.length)/\(0 < gs.length + j->0 < gs'.length)
 | 0,i,m,a,b,c,gs,o4,o5,h,_,_,nd,hb=>⟨a,b,c,gs,o4,o5,rfl,h,by omega,nd,hb,fun z=>by omega⟩
 | j + 1,i,m,a,b,c,gs,o4,o5,h,hm,hl,nd,hb=>by
  obtain⟨x,a1,b1,c1,e1,x0,x1,t1⟩:=ax (many:=(rs.length:Int) + 1) h (by omega) (by omega) (by omega)
  have ec:(pl.pg.ct (n + 1)).call=pl.pg.call (n + 1):=rfl
  rw[<- ec]at e1
  have s1:bD (pl.pg.ct (n + 1)) ebb (gE (Tp a b c) rs g gs (some (It i)) o5)=some (.nx,gE (Tp a1 b1 c1) rs g gs (some (It i)) (some (It x))):=s_setQ (ae (aa rfl (aa (ai (au rfl rfl blen) rfl rfl rfl rfl) ag)) rfl e1 rfl) rfl rfl rfl
  have t:ba (pl.pg.ct (n + 1)) eeu (gE (Tp a1 b1 c1) rs g gs (some (It i)) (some (It x)))=some (!decide (x∈gs),gE (Tp a1 b1 c1) rs g gs (some (It i)) (some (It x))):=aw (ar rfl rfl rfl (be _) vP)
  by_cases hx:x∈gs
  ·rw[Dac hx]at t
   obtain⟨a2,b2,c2,gs',p4,p5,e2,t2,l2,nd2,hb2,hp2⟩:=g6 hr (j:=j) t1 (by omega) (by omega) nd hb
   refine⟨a2,b2,c2,gs',p4,p5,?_,t2.up (by omega),by omega,nd2,hb2,fun _=>hp2 (by have:=abS hx;omega)⟩
   rw[bJ]
   exact bs (bs rfl (ab s1 (ab (aq t rfl) rfl))) e2
  ·rw[Dab hx]at t
   have s2:bD (pl.pg.ct (n + 1)) (.app 3 (.nm 5)) (gE (Tp a1 b1 c1) rs g gs (some (It i)) (some (It x)))=some (.nx,gE (Tp a1 b1 c1) rs g (gs++[x]) (some (It i)) (some (It x))):=cH rfl rfl rfl rfl (by rw[aaa];omega) (by show _=[_,_,_,some (Il (gs++[x])),_,_,none,none,none,none,none,none];rw[eS];rfl)
   obtain⟨a2,b2,c2,gs',p4,p5,e2,t2,l2,nd2,hb2,hp2⟩:=g6 hr (j:=j) (gs:=gs++[x]) t1 (by omega) (by rw[aaA,aa0];omega) (aaC.mpr ⟨nd,aaH.mpr ⟨aak,aa8⟩,fun y hy z hz e=>hx (by rw[aaB.mp hz]at e;rw[<- e];exact hy)⟩) (fun y hy=>by
    rcases aal.mp hy with hy | hy
    ·exact hb y hy
    ·rw[aaB.mp hy];omega)
   rw[aaA,aa0]at l2 hp2
   refine⟨a2,b2,c2,gs',p4,p5,?_,t2.up (by omega),by omega,nd2,hb2,fun _=>hp2 (by omega)⟩
   rw[bJ]
   exact bs (bs rfl (ab s1 (ab (aC t (ab s2 rfl)) rfl))) e2
abbrev pF(qs:Pz):OD:=.lst ((qs.map Po).map OD.fz)
abbrev yE(t:OD)(f:Cf)(g gaps us:List Int)(qs:Pz)(at' gap:Int)(o9:Option OD)(o4 o10 o11:Option OD):DEnv:=[some t,some (Rl f.rows),some (Dl g),some (Dl gaps),o4,some (It gap),some (Dl us),some (pF qs),some (It at'),o9,o10,o11]
abbrev yB:Ss:=match F_any_plan.body with | .cons _ (.cons _ (.cons _ (.cons _ (.cons _ (.cons _ (.cons (.fr _ _ b) _))))))=>b | _=>.nil
abbrev nB:Ss:=match yB with | .cons _ (.cons (.fr _ _ b) _)=>b | _=>.nil
def xg(ns:List Int):Prop:=ns.Nodup/\∀x∈ns,100<=x/\x < 100000000
theorem sZ:(ns.take k++x::ns.drop k).Perm (x::ns):=by
 have:=aas (a:=x) (l₁:=ns.take k) (l₂:=ns.drop k)
 rwa [List.take_append_drop]at this
theorem g7(hf:Nb f.rows):∀{zs:List (Int × Int)} {m:Nat} {a b c:Int} {ns:List Int} {o4 o10:Option OD},(∀z∈zs,z.1∈gIx 0 f.rows)->TpOk b c m->m + zs.length<=200000->ns.length + zs.length<=1000->xg ns ->
  ∃a' b' c' ns' o4' o10',bx (fun d ρ'=>(bj (.tp [4,10]) (.fz d) ρ').bind fun ρ1=>aN (pl.pg.ct (n + 1)) nB ρ1) (zs.map Zp) (yE (Tp a b c) f g gaps us qs at' gap (some (Il ns)) o4 o10 o11)=some (.nx,yE (Tp a' b' c') f g gaps us qs at' gap (some (Il ns')) o4' o10' o11)/\TpOk b' c' (m + zs.length)/\ns'.length<=ns.length + zs.length/\xg ns'/\(∀x∈ns,x∈ns')/\∀z∈zs,z.2=at'->sP f z.1∈ns'
 | [],m,a,b,c,ns,o4,o10,_,h,_,_,hn=>⟨a,b,c,ns,o4,o10,rfl,h,by omega,hn,fun x hx=>hx,fun z hz=>absurd hz aak⟩
 | z::zs,m,a,b,c,ns,o4,o10,hz,h,hm,hl,hn=>by
  rw[aap]at hm hl
  obtain⟨i,x,y,ei,hi,hr,hnu⟩:=Zok.row (qs:=[(0,[])]) (z:=(z.1,0)) ⟨hz z aag,by show (0:Int)<=0;omega,by show (0:Int) < ((1:Nat):Int);omega⟩
  have ei:z.1=(i:Int):=ei
  have hnu:sP f z.1=y:=hnu
  have hyb:100<=y/\y < 100000000:=by
   have h1:=hf _ (abl hr)
   have h2:R.gr (.st x y)=true:=by
    obtain⟨j,r,e,h1,h2⟩:=fV (hz z aag)
    have:j=i:=by omega
    subst this
    rw[hr]at h1;cases h1;exact h2
   have h2:=Daa h2
   have h1:(0<=x/\x<=200)/\0<=y/\y<=99999999:=h1
   omega
  have hrow:∀{t o9 o10},ev (pl.pg.ct (n + 1)) edz (yE t f g gaps us qs at' gap o9 (some (It z.1)) o10 o11)=some (.val (It y),yE t f g gaps us qs at' gap o9 (some (It z.1)) o10 o11):=fun {t o9 o10}=>aO (aO rfl rfl rfl (bC (by rw[ei];exact iQ hr))) rfl rfl (aM (bF rfl))
  have st:(bj (.tp [4,10]) (.fz (Zp z)) (yE (Tp a b c) f g gaps us qs at' gap (some (Il ns)) o4 o10 o11))=some (yE (Tp a b c) f g gaps us qs at' gap (some (Il ns)) (some (It z.1)) (some (It z.2)) o11):=rfl
  have t1:ba (pl.pg.ct (n + 1)) eew (yE (Tp a b c) f g gaps us qs at' gap (some (Il ns)) (some (It z.1)) (some (It z.2)) o11)=some (decide (z.2=at'),yE (Tp a b c) f g gaps us qs at' gap (some (Il ns)) (some (It z.1)) (some (It z.2)) o11):=aw (ar rfl rfl rfl rfl kJ)
  have t2:ba (pl.pg.ct (n + 1)) eck (yE (Tp a b c) f g gaps us qs at' gap (some (Il ns)) (some (It z.1)) (some (It z.2)) o11)=some (!decide (y∈ns),yE (Tp a b c) f g gaps us qs at' gap (some (Il ns)) (some (It z.1)) (some (It z.2)) o11):=aw (ar hrow rfl rfl (be _) vP)
  have skip:ba (pl.pg.ct (n + 1)) ebj (yE (Tp a b c) f g gaps us qs at' gap (some (Il ns)) (some (It z.1)) (some (It z.2)) o11)=some (false,yE (Tp a b c) f g gaps us qs at' gap (some (Il ns)) (some (It z.1)) (some (It z.2)) o11)->(z.2=at'->y∈ns)->∃a' b' c' ns' o4' o10',bx (fun d ρ'=>(bj (.tp [4,10]) (.fz d) ρ').bind fun ρ1=>aN (pl.pg.ct (n + 1)) nB ρ1) ((z::zs).map Zp) (yE (Tp a b c) f g gaps us qs at' gap (some (Il ns)) o4 o10 o11)=some (.nx,yE (Tp a' b' c') f g gaps us qs at' gap (some (Il ns')) o4' o10' o11)/\TpOk b' c' (m + (zs.length + 1))/\ns'.length<=ns.length + (zs.length + 1)/\xg ns'/\(∀x∈ns,x∈ns')/\∀w∈z::zs,w.2=at'->sP f w.1∈ns':=fun t hin=>by
   obtain⟨a2,b2,c2,ns',p4,p10,e2,t2,l2,n2,s2,z2⟩:=g7 hf (fun w hw=>hz w (aai _ hw)) h (by omega) (by omega) hn
   refine⟨a2,b2,c2,ns',p4,p10,bs (bs st (ab (aq t rfl) rfl)) e2,t2.up (by omega),by omega,n2,s2,fun w hw he=>?_⟩
   rcases aab.mp hw with rfl | hw
   ·rw[hnu];exact s2 y (hin he)
   ·exact z2 w hw he
  by_cases ha:z.2=at'
  ·rw[Dac ha]at t1
   by_cases hin:y∈ns
   ·rw[Dac hin]at t2
    exact skip (sq t1 t2) fun _=>hin
   ·rw[Dab hin]at t2
    clear skip
    obtain⟨k,a1,b1,c1,e1,k0,k1,tk⟩:=ax (many:=(ns.length:Int) + 1) h (by omega) (by omega) (by omega)
    have ec:(pl.pg.ct (n + 1)).call=pl.pg.call (n + 1):=rfl
    rw[<- ec]at e1
    obtain⟨kn,rfl⟩:∃kn:Nat,k=kn:=⟨k.toNat,by omega⟩
    have hlen:ev (pl.pg.ct (n + 1)) E6 (yE (Tp a b c) f g gaps us qs at' gap (some (Il ns)) (some (It z.1)) (some (It z.2)) o11)=some (.val (It ((ns.length:Int) + 1)),yE (Tp a b c) f g gaps us qs at' gap (some (Il ns)) (some (It z.1)) (some (It z.2)) o11):=ai (au rfl (by show (ao _ (.rf 9)).bind _=_;rw[show ao (yE (Tp a b c) f g gaps us qs at' gap (some (Il ns)) (some (It z.1)) (some (It z.2)) o11) (.rf 9)=some (.list (ns.map PyData.int)) from be ns];rfl) blen) rfl rfl rfl rfl
    have s1:bD (pl.pg.ct (n + 1)) eao (yE (Tp a b c) f g gaps us qs at' gap (some (Il ns)) (some (It z.1)) (some (It z.2)) o11)=some (.nx,yE (Tp a1 b1 c1) f g gaps us qs at' gap (some (Il (ns.take kn++y::ns.drop kn))) (some (It z.1)) (some (It z.2)) o11):=zT rfl (ae (aa rfl (aa hlen ag)) rfl e1 rfl) hrow rfl rfl rfl rfl (by rw[aaa];omega) (by
     have:(ns.map It).take (kn:Int).toNat++It y::(ns.map It).drop (kn:Int).toNat=(ns.take kn++y::ns.drop kn).map It:=by rw[aaR,aaw,aaj,abF,ab3]
     rw[this];rfl)
    have pm:=sZ (ns:=ns) (x:=y) (k:=kn)
    have hn':xg (ns.take kn++y::ns.drop kn):=⟨pm.nodup_iff.mpr (aaH.mpr ⟨hin,hn.1⟩),fun w hw=>by
     rcases aab.mp (pm.mem_iff.mp hw) with rfl | hw
     ·exact hyb
     ·exact hn.2 w hw⟩
    have hle:(ns.take kn++y::ns.drop kn).length=ns.length + 1:=by rw[pm.length_eq,aap]
    obtain⟨a2,b2,c2,ns',p4,p10,e2,t2',l2,n2,s2,z2⟩:=g7 hf (fun w hw=>hz w (aai _ hw)) tk (by omega) (by omega) hn'
    refine⟨a2,b2,c2,ns',p4,p10,bs (bs st (ab (aC (sq t1 t2) (ab s1 rfl)) rfl)) e2,t2'.up (by rw[aap];omega),by rw[aap];omega,n2,fun w hw=>s2 w (pm.mem_iff.mpr (aai _ hw)),fun w hw he=>?_⟩
    rcases aab.mp hw with rfl | hw
    ·rw[hnu];exact s2 y (pm.mem_iff.mpr aag)
    ·exact z2 w hw he
  ·rw[Dab ha]at t1
   exact skip (zw t1) fun e=>absurd e ha
theorem fill(h:TpOk b c m)(hm:m<=300000)(hn:xg ns)(h0:0 < ns.length)(hl:ns.length<=100) :
  ∃a' b' c' ns' o11',bD (pl.pg.ct (n + 1)) (match yB with | .cons _ (.cons _ (.cons s _))=>s | _=>.cont) (yE (Tp a b c) f g gaps us qs at' gap (some (Il ns)) o4 o10 o11)=some (.nx,yE (Tp a' b' c') f g gaps us qs at' gap (some (Il ns')) o4 o10 o11')/\TpOk b' c' (m + 2)/\xg ns'/\(∀x∈ns,x∈ns')/\0 < ns'.length/\ns'.length<=100:=by
 obtain⟨x,a1,b1,c1,e1,x0,x1,t1⟩:=ax (many:=24) h (by omega) (by decide) (by decide)
 obtain⟨y,a2,b2,c2,e2,y0,y1,t2⟩:=ax (many:=2) t1 (by omega) (by decide) (by decide)
 have ec:(pl.pg.ct (n + 1)).call=pl.pg.call (n + 1):=rfl
 rw[<- ec]at e1 e2
 have t:ba (pl.pg.ct (n + 1)) eb9 (yE (Tp a b c) f g gaps us qs at' gap (some (Il ns)) o4 o10 o11)=some (decide (x=0),yE (Tp a1 b1 c1) f g gaps us qs at' gap (some (Il ns)) o4 o10 o11):=aw (ar (ae rfl rfl e1 rfl) rfl rfl rfl kJ)
 by_cases hx:x=0
 ·rw[Dac hx]at t
  obtain⟨mo,hmo⟩:∃mo,mo=((fS 50000000 100).filter fun y=>!decide (y∈ns)).take (100 - ns.length):=⟨_,rfl⟩
  have hmm:∀z∈mo,z∈fS 50000000 100/\z ∉ ns:=fun z hz=>by
   rw[hmo]at hz
   obtain⟨q1,q2⟩:=abi.mp (ab2 hz)
   exact⟨q1,by simpa using q2⟩
  have hmn:mo.Nodup:=by
   rw[hmo]
   exact List.Sublist.nodup (List.take_sublist _ _) (List.Sublist.nodup List.filter_sublist v5)
  have hml:mo.length<=100 - ns.length:=by rw[hmo,aaY];omega
  obtain⟨o',ecm⟩:=eW (C:=pl.pg.ct (n + 1)) (w:=Il ns) (fun y=>aw (ar rfl rfl rfl (be _) vP)) (xs:=fS 50000000 100) (o:=none)
  rw[aaz,<- sY]at ecm
  generalize hρ:yE (Tp a1 b1 c1) f g gaps us qs at' gap (some (Il ns)) o4 o10 o11=ρ at t
  have hcomp:ev (pl.pg.ct (n + 1)) Fj ρ=some (.val (.lst ((((fS 50000000 100).filter fun y=>!decide (y∈ns)).map PyData.int).map OD.fz)),ρ):=aP (zc:=([some (Il ns)],ρ.set 9 none)) (sX rfl rfl rfl rfl (by decide)) (by rw[dW];decide) (by rw[<- hρ];rfl) ecm (by rw[<- hρ];rfl)
  have hlen:ev (pl.pg.ct (n + 1)) Ex ρ=some (.val (It ((100 - ns.length:Nat):Int)),ρ):=by
   have:ev (pl.pg.ct (n + 1)) ed9 ρ=some (.val (It ns.length),ρ):=au (ρ1:=ρ) (ds:=[.list (ns.map PyData.int)]) (by rw[<- hρ];rfl) (by show (ao _ (.rf 9)).bind _=_;rw[show ao ρ (.rf 9)=some (.list (ns.map PyData.int)) by rw[<- hρ];exact be ns];rfl) blen
   have e:=ai (o:=.sub) (C:=pl.pg.ct (n + 1)) (a:=.int 100) (ρ:=ρ) (dx:=.int 100) (dy:=.int ns.length) rfl this rfl rfl rfl
   rw[e,show (100:Int) - (ns.length:Int)=((100 - ns.length:Nat):Int) by omega]
  have hcut:ev (pl.pg.ct (n + 1)) eak ρ=some (.val (.lst ((mo.map PyData.int).map OD.fz)),ρ):=by
   have hv:wu (pl.pg.ct (n + 1)) (.some Ex) ρ=some (some ((100 - ns.length:Nat):Int),ρ):=bs hlen rfl
   have:=gU (lo:=.none) (l:=none) (u:=some ((100 - ns.length:Nat):Int)) hcomp rfl hv lZ
   rw[kN,<- abF,<- hmo]at this
   exact this
  have s11:bD (pl.pg.ct (n + 1)) eag ρ=some (.nx,yE (Tp a1 b1 c1) f g gaps us qs at' gap (some (Il ns)) o4 o10 (some (Il mo))):=s_setQ (ρ2:=ρ) (z:=Il mo) hcut (by rw[cD];rfl) (by rw[<- hρ];rfl) (by rw[<- hρ];rfl)
  have fzI:∀{ls:List Int},Il ls=.lst ((ls.map PyData.int).map OD.fz):=fun {ls}=>by rw[cD]
  have r9:lg (yE (Tp a1 b1 c1) f g gaps us qs at' gap (some (Il ns)) o4 o10 (some (Il mo))) (.rf 9)=some (ns.map PyData.int):=gZ (by show some (Il ns)=_;rw[fzI])
  have r11:lg (yE (Tp a1 b1 c1) f g gaps us qs at' gap (some (Il ns)) o4 o10 (some (Il mo))) (.rf 11)=some (mo.map PyData.int):=gZ (by show some (Il mo)=_;rw[fzI])
  have c1':ev (pl.pg.ct (n + 1)) ES (yE (Tp a1 b1 c1) f g gaps us qs at' gap (some (Il ns)) o4 o10 (some (Il mo)))=some (.val (Il (ns++mo)),yE (Tp a1 b1 c1) f g gaps us qs at' gap (some (Il ns)) o4 o10 (some (Il mo))):=by
   have:=iF (C:=pl.pg.ct (n + 1)) (a:=.nm 9) (b:=.nm 11) (ρ:=yE (Tp a1 b1 c1) f g gaps us qs at' gap (some (Il ns)) o4 o10 (some (Il mo))) rfl rfl r9 r11 (by rw[aaa,aaa];omega)
   rw[<- aaw,cD]at this
   exact this
  have c2':ev (pl.pg.ct (n + 1)) ER (yE (Tp a1 b1 c1) f g gaps us qs at' gap (some (Il ns)) o4 o10 (some (Il mo)))=some (.val (Il (mo++ns)),yE (Tp a1 b1 c1) f g gaps us qs at' gap (some (Il ns)) o4 o10 (some (Il mo))):=by
   have:=iF (C:=pl.pg.ct (n + 1)) (a:=.nm 11) (b:=.nm 9) (ρ:=yE (Tp a1 b1 c1) f g gaps us qs at' gap (some (Il ns)) o4 o10 (some (Il mo))) rfl rfl r11 r9 (by rw[aaa,aaa];omega)
   rw[<- aaw,cD]at this
   exact this
  obtain⟨w,hw,ew⟩:=fU (xs:=[ns++mo,mo++ns]) y0 y1
  have ew':atI [Il (ns++mo),Il (mo++ns)] y=some (Il w):=by
   obtain⟨k,hk1,hk2⟩:=bnd ew
   refine bs (x:=k) hk1 ?_
   have:([ns++mo,mo++ns].map Il)[k]?=some (Il w):=by rw[aav,hk2];rfl
   exact this
  have hp:w.Perm (ns++mo):=by
   simp only[aab,aak,or_false]at hw
   rcases hw with rfl | rfl
   ·exact List.Perm.refl _
   ·exact aa3
  have s9:bD (pl.pg.ct (n + 1)) eap (yE (Tp a1 b1 c1) f g gaps us qs at' gap (some (Il ns)) o4 o10 (some (Il mo)))=some (.nx,yE (Tp a2 b2 c2) f g gaps us qs at' gap (some (Il w)) o4 o10 (some (Il mo))):=s_setQ (ρ2:=yE (Tp a2 b2 c2) f g gaps us qs at' gap (some (Il ns)) o4 o10 (some (Il mo))) (z:=Il w) (aO (x:=.val (.lst [Il (ns++mo),Il (mo++ns)])) (ρ1:=yE (Tp a1 b1 c1) f g gaps us qs at' gap (some (Il ns)) o4 o10 (some (Il mo))) (y:=.val (It y)) (ρ2:=yE (Tp a2 b2 c2) f g gaps us qs at' gap (some (Il ns)) o4 o10 (some (Il mo))) (e_lst (aa c1' (aa c2' ag)) rfl rfl) (ae (ρ3:=yE (Tp a2 b2 c2) f g gaps us qs at' gap (some (Il ns)) o4 o10 (some (Il mo))) rfl rfl e2 rfl) rfl (cV ew')) rfl rfl rfl
  have hwl:w.length=ns.length + mo.length:=by rw[hp.length_eq,aaA]
  refine⟨a2,b2,c2,w,some (Il mo),aC t (ab s11 (ab s9 rfl)),t2,⟨?_,fun z hz=>?_⟩,fun z hz=>hp.mem_iff.mpr (aae _ hz),by omega,by omega⟩
  ·exact hp.nodup_iff.mpr (aaC.mpr ⟨hn.1,hmn,fun z hz u hu e=>(hmm u hu).2 (e ▸ hz)⟩)
  ·rcases aal.mp (hp.mem_iff.mp hz) with hz | hz
   ·exact hn.2 z hz
   ·have:=kM (hmm z hz).1;omega
 ·rw[Dab hx]at t
  exact⟨a1,b1,c1,ns,o11,aq t rfl,t1.up (by omega),hn,fun z hz=>hz,h0,hl⟩
def enN:Nat->List PyData->List PyData
 | _,[]=>[]
 | i,d::ds=>.tuple [.int i,d]::enN (i + 1) ds
theorem nL:∀{ds:List PyData} {i j:Nat},(enN i ds)[j]?=(ds[j]?).map fun d=>.tuple [.int ((i + j:Nat):Int),d]
 | [],_,_=>rfl
 | d::ds,i,0=>rfl
 | d::ds,i,j + 1=>by
  rw[enN,abL,abL,nL,show i + 1 + j=i + (j + 1) by omega]
theorem v7(ds:List PyData):bB ds=enN 0 ds:=by
 apply ab6
 intro j
 rw[nL,bB,aav]
 by_cases hj:j < ds.length
 ·rw[acC hj,aan hj]
  simp[ab4,aan hj]
 ·rw[abM (by simpa using hj),abM (by omega)];rfl
theorem pv(hf:Nb f.rows)(hg:g=gIx 0 f.rows)(hgl:g.length<=60)(hul:us.length=g.length)(hgap:0<=gap/\gap<=f.rows.length)(hql:qs.length<=100)(h:TpOk b c m)(hm:m<=100000) :
  ∃a' b' c' ns o4' o10' o11',((bj (.tp [8,5]) (.fz (.tuple [.int i,.int gap])) [some (Tp a b c),some (Rl f.rows),some (Dl g),some (Dl gaps),o4,o5,some (Dl us),some (pF qs),o8,o9,o10,o11]).bind fun ρ1=>aN (pl.pg.ct (n + 2)) yB ρ1)=some (.nx,yE (Tp a' b' c') f g gaps us (qs++[(gap,ns)]) i gap (some (Il ns)) o4' o10' o11')/\TpOk b' c' (m + 80)/\Pool f.rows.length (gap,ns)/\∀z∈g.zip us,z.2=(i:Int)->sP f z.1∈ns:=by
 have ec:(pl.pg.ct (n + 2)).call=pl.pg.call (n + 2):=rfl
 have first:∃a1 b1 c1 ns,bD (pl.pg.ct (n + 2)) eaj (yE (Tp a b c) f g gaps us qs i gap o9 o4 o10 o11)=some (.nx,yE (Tp a1 b1 c1) f g gaps us qs i gap (some (Il ns)) o4 o10 o11)/\TpOk b1 c1 (m + 5)/\xg ns/\ns.length<=1/\(ns=[]->(i:Int)∈us):=by
  have t1:ba (pl.pg.ct (n + 2)) eev (yE (Tp a b c) f g gaps us qs i gap o9 o4 o10 o11)=some (!decide ((i:Int)∈us),yE (Tp a b c) f g gaps us qs i gap o9 o4 o10 o11):=aw (ar rfl rfl rfl rfl vP)
  have one:∀{a1 b1 c1:Int} {m':Nat},TpOk b1 c1 m'->m'<=m + 1->ba (pl.pg.ct (n + 2)) Fi (yE (Tp a b c) f g gaps us qs i gap o9 o4 o10 o11)=some (true,yE (Tp a1 b1 c1) f g gaps us qs i gap o9 o4 o10 o11)->∃a1 b1 c1 ns,bD (pl.pg.ct (n + 2)) eaj (yE (Tp a b c) f g gaps us qs i gap o9 o4 o10 o11)=some (.nx,yE (Tp a1 b1 c1) f g gaps us qs i gap (some (Il ns)) o4 o10 o11)/\TpOk b1 c1 (m + 5)/\xg ns/\ns.length<=1/\(ns=[]->(i:Int)∈us):=fun {a1 b1 c1 m'} h1 hm' t=>by
   obtain⟨k,a2,b2,c2,e2,hk,t2⟩:=nv h1 (by omega)
   rw[<- ec]at e2
   exact⟨a2,b2,c2,[k],s_setQ (gD t (e_lst (aa (ae rfl rfl e2 rfl) ag) rfl rfl)) rfl rfl rfl,t2.up (by omega),⟨aaH.mpr ⟨aak,aa8⟩,fun x hx=>by rw[aaB.mp hx];omega⟩,aac _,fun z=>by cases z⟩
  by_cases hi:(i:Int)∈us
  ·rw[Dac hi]at t1
   obtain⟨x,a1,b1,c1,e1,x0,x1,tk⟩:=ax (many:=4) h (by omega) (by decide) (by decide)
   rw[show n + 1 + 1=n + 2 by omega,<- ec]at e1
   have t2:ba (pl.pg.ct (n + 2)) eca (yE (Tp a b c) f g gaps us qs i gap o9 o4 o10 o11)=some (decide (x=0),yE (Tp a1 b1 c1) f g gaps us qs i gap o9 o4 o10 o11):=aw (ar (ae rfl rfl e1 rfl) rfl rfl rfl kJ)
   by_cases hx:x=0
   ·rw[Dac hx]at t2
    exact one tk (aac _) (aI t1 t2)
   ·rw[Dab hx]at t2
    exact⟨a1,b1,c1,[],s_setQ (kA (aI t1 t2) rfl) rfl rfl rfl,tk.up (by omega),⟨aa8,fun x hx=>absurd hx aak⟩,aaE _,fun _=>hi⟩
  ·rw[Dab hi]at t1
   exact one h (by omega) (a9 t1)
 obtain⟨a1,b1,c1,ns,e1,t1,n1,l1,i1⟩:=first
 obtain⟨a2,b2,c2,ns2,p4,p10,e2,t2,l2,n2,s2,z2⟩:=g7 hf (zs:=g.zip us) (fun z hz=>by rw[<- hg];exact (aaT (show (z.1,z.2)∈_ from hz)).1) t1 (by rw[abT];omega) (by rw[abT];omega) n1
 have hzl:(g.zip us).length<=60:=by rw[abT];omega
 have pos:0 < ns2.length:=by
  cases ns with
  | cons x xs=>exact abS (s2 x aag)
  | nil =>
   obtain⟨t,ht⟩:=acB (i1 rfl)
   have htl:=(aau.mp ht).1
   have hgt:=aan (l:=g) (i:=t) (by omega)
   have hz:(g[t]'(by omega),(i:Int))∈g.zip us:=by
    refine abl (i:=t) ?_
    rw[acs]
    exact⟨hgt,ht⟩
   exact abS (z2 _ hz rfl)
 obtain⟨a3,b3,c3,ns3,p11,e3,t3,n3,s3,pos3,l3⟩:=fill t2 (by omega) n2 pos (by omega)
 have hi:ia (pl.pg.ct (n + 2)) (.zip (.nm 2) (.nm 6)) (yE (Tp a1 b1 c1) f g gaps us qs i gap (some (Il ns)) o4 o10 o11)=some ((g.zip us).map Zp,yE (Tp a1 b1 c1) f g gaps us qs i gap (some (Il ns)) o4 o10 o11):=by
  rw[<- cY]
  exact i_zipQ rfl rfl rfl rfl rfl rfl
 have fzI:∀{ls:List Int},Il ls=.lst ((ls.map PyData.int).map OD.fz):=fun {ls}=>by rw[cD]
 have htu:ev (pl.pg.ct (n + 2)) (.tup E3) (yE (Tp a3 b3 c3) f g gaps us qs i gap (some (Il ns3)) p4 p10 p11)=some (.val (.fz (Po (gap,ns3))),yE (Tp a3 b3 c3) f g gaps us qs i gap (some (Il ns3)) p4 p10 p11):=bY (aa rfl (aa (m8 rfl (gZ (by show some (Il ns3)=_;rw[fzI]))) ag)) rfl rfl rfl
 have s7:bD (pl.pg.ct (n + 2)) ecd (yE (Tp a3 b3 c3) f g gaps us qs i gap (some (Il ns3)) p4 p10 p11)=some (.nx,yE (Tp a3 b3 c3) f g gaps us (qs++[(gap,ns3)]) i gap (some (Il ns3)) p4 p10 p11):=cH rfl htu rfl rfl (by rw[aaa,aaa];omega) (by
  have:pF (qs++[(gap,ns3)])=.lst ((qs.map Po).map OD.fz++[.fz (Po (gap,ns3))]):=by rw[pF,aaw,aaw];rfl
  show _=[_,_,_,_,_,_,_,some (pF (qs++[(gap,ns3)])),_,_,_,_]
  rw[this];rfl)
 exact⟨a3,b3,c3,ns3,p4,p10,p11,bs rfl (ab e1 (ab (s_frQ hi e2) (ab e3 (ab s7 rfl)))),t3.up (by omega),⟨hgap.1,hgap.2,n3.2,pos3,l3,zO n3.1⟩,fun z hz he=>s3 _ (z2 z hz he)⟩
theorem nM(hf:Nb f.rows)(hg:g=gIx 0 f.rows)(hgl:g.length<=60)(hul:us.length=g.length):∀{gs:List Int} {i m:Nat} {qs:Pz} {a b c:Int} {o4 o5 o8 o9 o10 o11:Option OD},(∀x∈gs,0<=x/\x<=f.rows.length)->qs.length + gs.length<=100->TpOk b c m->m + 80 * gs.length<=100000 ->
  ∃a' b' c' ps o4' o5' o8' o9' o10' o11',bx (fun d ρ'=>(bj (.tp [8,5]) (.fz d) ρ').bind fun ρ1=>aN (pl.pg.ct (n + 2)) yB ρ1) (enN i (gs.map PyData.int)) [some (Tp a b c),some (Rl f.rows),some (Dl g),some (Dl gaps),o4,o5,some (Dl us),some (pF qs),o8,o9,o10,o11]=some (.nx,[some (Tp a' b' c'),some (Rl f.rows),some (Dl g),some (Dl gaps),o4',o5',some (Dl us),some (pF (qs++ps)),o8',o9',o10',o11'])/\TpOk b' c' (m + 80 * gs.length)/\ps.map (·.1)=gs/\(∀q∈ps,Pool f.rows.length q)/\∀t q,ps[t]?=some q->∀z∈g.zip us,z.2=((i + t:Nat):Int)->sP f z.1∈q.2
 | [],i,m,qs,a,b,c,o4,o5,o8,o9,o10,o11,_,_,h,_=>⟨a,b,c,[],o4,o5,o8,o9,o10,o11,by rw[aar];rfl,h,rfl,fun q hq=>absurd hq aak,fun t q hq=>by cases hq⟩
 | x::gs,i,m,qs,a,b,c,o4,o5,o8,o9,o10,o11,hx,hl,h,hm=>by
  rw[aap]at hl hm
  obtain⟨a1,b1,c1,ns,p4,p10,p11,e1,t1,P,hz⟩:=pv (qs:=qs) hf hg hgl hul (hx x aag) (by omega) h (by omega)
  obtain⟨a2,b2,c2,ps,q4,q5,q8,q9,q10,q11,e2,t2,hm2,hp2,hz2⟩:=nM hf hg hgl hul (qs:=qs++[(x,ns)]) (fun y hy=>hx y (aai _ hy)) (by rw[aaA,aa0];omega) t1 (by omega)
  refine⟨a2,b2,c2,(x,ns)::ps,q4,q5,q8,q9,q10,q11,?_,t2.up (by rw[aap];omega),by rw[aaj,hm2],fun q hq=>?_,fun t q hq=>?_⟩
  ·have e2':=e2
   rw[aaf]at e2'
   exact bs e1 e2'
  ·rcases aab.mp hq with rfl | hq
   ·exact P
   ·exact hp2 q hq
  ·cases t with
   | zero=>cases hq;exact fun z hw he=>hz z hw he
   | succ t=>exact fun z hw he=>hz2 t q hq z hw (by rw[he];congr 1;omega)
theorem v8(ns:List Int):iz .ne (.list (ns.map PyData.int)) (.list [])=some (!ns.isEmpty):=bs (v3 ns) rfl
theorem nN(hG:G.length<=100):∀{xs:List Int} {m:Nat} {a b c:Int} {out:List PyData} {o:Option OD},(xs≠[]->0 < G.length)->TpOk b c m->m + xs.length<=100000 ->
  ∃(us:List Int) (a' b' c':Int) (o':Option OD),aW (aX (pl.pg.ct (n + 1)) (.nm 0) .none eb5) (xs.map PyData.int) out [o,some (Tp a b c),some (Il G)]=some (out++us.map PyData.int,[o',some (Tp a' b' c'),some (Il G)])/\us.length=xs.length/\(∀u∈us,0<=u/\u < G.length)/\TpOk b' c' (m + xs.length)
 | [],m,a,b,c,out,o,_,h,_=>⟨[],a,b,c,o,by rw[aaQ,aar];rfl,rfl,fun u hu=>absurd hu aak,h⟩
 | x::xs,m,a,b,c,out,o,hp,h,hm=>by
  rw[aap]at hm
  have hp:=hp (by simp)
  obtain⟨u,a1,b1,c1,e1,u0,u1,t1⟩:=ax (many:=(G.length:Int)) h (by omega) (by omega) (by omega)
  have ec:(pl.pg.ct (n + 1)).call=pl.pg.call (n + 1):=rfl
  rw[<- ec]at e1
  have hl:ev (pl.pg.ct (n + 1)) EY [some (It x),some (Tp a b c),some (Il G)]=some (.val (It G.length),[some (It x),some (Tp a b c),some (Il G)]):=au rfl (by show ((Il G).dat).bind _=_;rw[be];rfl) blen
  obtain⟨us,a2,b2,c2,o',e2,l2,b2',t2⟩:=nN hG (xs:=xs) (fun _=>hp) t1 (by omega)
  refine⟨u::us,a2,b2,c2,o',bs (fF rfl (ae (aa rfl (aa hl ag)) rfl e1 rfl) rfl) ?_,by rw[aap,aap,l2],fun y hy=>?_,t2.up (by rw[aap];omega)⟩
  ·rw[aaf]at e2
   exact e2
  ·rcases aab.mp hy with rfl | hy
   ·exact⟨u0,u1⟩
   ·exact b2' y hy
theorem zU{G:List Int}(h1:G.Pairwise (·<=·))(h2:G.Nodup):G.Pairwise (· < ·):=(h1.and h2).imp fun {a b} h=>by
 have:=h.1;have:=h.2;omega
theorem CK(hf:Nb f.rows)(hN:f.rows.length<=60)(h:TpOk b c m)(hm:m<=90000) :
  ∃(qs:Pz) (us:List Int) (a' b' c':Int),pl.pg.call (n + 3) 25 [Tp a b c,Rl f.rows]=some (Fp qs us,[Tp a' b' c',Rl f.rows])/\TpOk b' c' (m + 1000)/\Qok f qs/\us.length=(gIx 0 f.rows).length/\(∀u∈us,0<=u/\u < qs.length)/\qs.length<=4/\∀z∈(gIx 0 f.rows).zip us,dA f qs z=true:=by
 obtain⟨g,hg⟩:∃g,g=gIx 0 f.rows:=⟨_,rfl⟩
 have hgl:g.length<=60:=by rw[hg,gIx_len];exact aaq (abw _ _) hN
 have ec:(pl.pg.ct (n + 2)).call=pl.pg.call (n + 2):=rfl
 generalize hρ0:dG F_any_plan.n [Tp a b c,Rl f.rows]=ρ0
 obtain⟨ρg,eg⟩:=gY
 rw[aaz,<- hg,<- fW]at eg
 have hc2:ev (pl.pg.ct (n + 2)) Fd ρ0=some (.val (.lst ((g.map PyData.int).map OD.fz)),ρ0):=aP (fE (ρ1:=ρ0) (by rw[<- hρ0];rfl) rfl) (by rw[bI,aaa];omega) rfl eg unca_nil
 have s2:bD (pl.pg.ct (n + 2)) eba ρ0=some (.nx,[some (Tp a b c),some (Rl f.rows),some (Dl g),none,none,none,none,none,none,none,none,none]):=s_setQ (jF hc2 (by show (OD.dat _).map _=_;rw[cp];rfl)) rfl (by rw[<- hρ0];rfl) (by rw[<- hρ0];rfl)
 have s3:bD (pl.pg.ct (n + 2)) efs [some (Tp a b c),some (Rl f.rows),some (Dl g),none,none,none,none,none,none,none,none,none]=some (.nx,gE (Tp a b c) f.rows g [] none none):=rfl
 obtain⟨x,a1,b1,c1,e1,x0,x1,t1⟩:=ax (many:=4) h (by omega) (by decide) (by decide)
 rw[show n + 1 + 1=n + 2 by omega,<- ec]at e1
 obtain⟨k,hk,hkd⟩:∃k:Nat,k<=1/\(g≠[]->0 < k)/\pD .int [.bool (!g.isEmpty)]=some (.int k):=by
  cases g with
  | nil=>exact⟨0,by omega,fun z=>absurd rfl z,rfl⟩
  | cons y ys=>exact⟨1,by omega,fun _=>by omega,rfl⟩
 have hk0:=hkd.1
 have hkd:=hkd.2
 obtain⟨xn,rfl⟩:∃xn:Nat,x=xn:=⟨x.toNat,by omega⟩
 have er:ev (pl.pg.ct (n + 2)) ea0 (gE (Tp a b c) f.rows g [] none none)=some (.val (It ((k + xn:Nat):Int)),gE (Tp a1 b1 c1) f.rows g [] none none):=by
  have q1:ev (pl.pg.ct (n + 2)) eco (gE (Tp a b c) f.rows g [] none none)=some (.val (It k),gE (Tp a b c) f.rows g [] none none):=au (aa (ar rfl rfl rfl rfl (v8 g)) ag) rfl hkd
  exact ai q1 (ae rfl rfl e1 rfl) rfl rfl rfl
 obtain⟨a2,b2,c2,gs,o4,o5,e2,t2,l2,nd,hb2,hp2⟩:=g6 (rs:=f.rows) (by omega) (j:=k + xn) t1 (by omega) (by show 0 + _<=_;omega) aa8 (fun x hx=>absurd hx aak)
 have l2:gs.length<=0 + (k + xn):=l2
 have hp2:0 < 0 + (k + xn)->0 < gs.length:=hp2
 have s4:bD (pl.pg.ct (n + 2)) (match F_any_plan.body with | .cons _ (.cons _ (.cons s _))=>s | _=>.cont) (gE (Tp a b c) f.rows g [] none none)=some (.nx,gE (Tp a2 b2 c2) f.rows g gs o4 o5):=s_frQ (gH er rfl (by omega)) e2
 obtain⟨G,hG⟩:∃G,G=sortI gs:=⟨_,rfl⟩
 have pG:G.Perm gs:=by rw[hG];exact sortI_perm gs
 have sG:G.Pairwise (· < ·):=zU (by rw[hG];exact fj gs) (pG.nodup_iff.mpr nd)
 have lG:G.length=gs.length:=pG.length_eq
 have bG:∀x∈G,0<=x/\x<=f.rows.length:=fun x hx=>hb2 x (pG.mem_iff.mp hx)
 have s5:bD (pl.pg.ct (n + 2)) eec (gE (Tp a2 b2 c2) f.rows g gs o4 o5)=some (.nx,gE (Tp a2 b2 c2) f.rows g G o4 o5):=s_setQ (z:=Il G) (so rfl (be gs) (eV gs) (by omega)) (by rw[hG];rfl) rfl rfl
 have gp:g≠[]->0 < G.length:=fun hne=>by rw[lG];exact hp2 (by have:=hk0 hne;omega)
 obtain⟨us,a3,b3,c3,o',e3,l3,bu,t3⟩:=nN (by omega) gp t2 (by omega)
 rw[aaz]at e3
 have hc6:ev (pl.pg.ct (n + 2)) Fo (gE (Tp a2 b2 c2) f.rows g G o4 o5)=some (.val (.lst ((us.map PyData.int).map OD.fz)),gE (Tp a3 b3 c3) f.rows g G o4 o5):=aP (bc rfl rfl rfl) (by rw[aaa];omega) rfl e3 rfl
 have s6:bD (pl.pg.ct (n + 2)) eaq (gE (Tp a2 b2 c2) f.rows g G o4 o5)=some (.nx,[some (Tp a3 b3 c3),some (Rl f.rows),some (Dl g),some (Il G),o4,o5,some (Dl us),none,none,none,none,none]):=s_setQ (jF hc6 (by show (OD.dat _).map _=_;rw[cp];rfl)) rfl rfl rfl
 have s7:bD (pl.pg.ct (n + 2)) (.set 7 (.lst .nil)) [some (Tp a3 b3 c3),some (Rl f.rows),some (Dl g),some (Il G),o4,o5,some (Dl us),none,none,none,none,none]=some (.nx,[some (Tp a3 b3 c3),some (Rl f.rows),some (Dl g),some (Il G),o4,o5,some (Dl us),some (pF []),none,none,none,none]):=rfl
 obtain⟨a4,b4,c4,qs,p4,p5,p8,p9,p10,p11,e4,t4,hq1,hq2,hq3⟩:=nM hf hg hgl l3 (gs:=G) (i:=0) (qs:=[]) (a:=a3) (o4:=o4) (o5:=o5) (o8:=none) (o9:=none) (o10:=none) (o11:=none) bG (by show 0 + _<=_;omega) t3 (by omega)
 rw[<- v7,aaz]at e4
 have s8:bD (pl.pg.ct (n + 2)) (.fr (.tp [8,5]) (.enm (.nm 3)) yB) [some (Tp a3 b3 c3),some (Rl f.rows),some (Dl g),some (Il G),o4,o5,some (Dl us),some (pF []),none,none,none,none]=_:=s_frQ (fE (x:=.rf 3) (ρ2:=[some (Tp a3 b3 c3),some (Rl f.rows),some (Dl g),some (Dl G),o4,o5,some (Dl us),some (pF []),none,none,none,none]) rfl (frz_rf rfl (be G) rfl)) e4
 have hql:qs.length=G.length:=by rw[<- hq1,aaa]
 have er9:ev (pl.pg.ct (n + 2)) (.tup edw) [some (Tp a4 b4 c4),some (Rl f.rows),some (Dl g),some (Dl G),p4,p5,some (Dl us),some (pF qs),p8,p9,p10,p11]=some (.val (Fp qs us),[some (Tp a4 b4 c4),some (Rl f.rows),some (Dl g),some (Dl G),p4,p5,some (Dl us),some (Pq qs),p8,p9,p10,p11]):=bY (rs:=[.rf 7,.val (Dl us)]) (zs:=[Pq qs,Dl us]) (ρ2:=[some (Tp a4 b4 c4),some (Rl f.rows),some (Dl g),some (Dl G),p4,p5,some (Dl us),some (Pq qs),p8,p9,p10,p11]) rfl rfl (bs (x:=(Pq qs,[some (Tp a4 b4 c4),some (Rl f.rows),some (Dl g),some (Dl G),p4,p5,some (Dl us),some (Pq qs),p8,p9,p10,p11])) (by show (frz1 _ (.rf 7)).map _=_;rw[frz_rf (x:=pF qs) (d:=.list (qs.map Po)) rfl (cp _) rfl];rfl) rfl) rfl
 refine⟨qs,us,a4,b4,c4,af (fn:=F_any_plan) (ρ:=[some (Tp a4 b4 c4),some (Rl f.rows),some (Dl g),some (Dl G),p4,p5,some (Dl us),some (Pq qs),p8,p9,p10,p11]) rfl rfl (by rw[hρ0];exact ab s2 (ab s3 (ab s4 (ab s5 (ab s6 (ab s7 (ab s8 (aj (ah er9 rfl)))))))))  rfl,t4.up (by omega),⟨hq2,?_⟩,by rw[l3,hg],fun u hu=>by rw[hql];exact bu u hu,by omega,fun z hz=>?_⟩
 ·rw[<- hq1,List.pairwise_map]at sG;exact sG
 ·obtain⟨u0,u1⟩:=bu z.2 (aaT (show (z.1,z.2)∈_ from hz)).2
  obtain⟨t,ht⟩:∃t:Nat,z.2=t:=⟨z.2.toNat,by omega⟩
  have htl:t < qs.length:=by omega
  have:=hq3 t qs[t] (aan htl) z (by rw[hg];exact hz) (by rw[ht,aaV])
  unfold dA
  rw[ht,aaR,aan htl]
  exact Dac this
def z7(K:Nat)(ns:List Int):List Int:=ns++((fS 70000000 101).filter fun y=>!decide (y∈ns)).take (K - ns.length)
theorem v9(h:ns.length<=K):(z7 K ns).length<=K:=by unfold z7;rw[aaA,aaY];omega
theorem wa(h:x∈z7 K ns):x∈ns\/(70000000<=x/\x < 70000101):=by
 rcases aal.mp h with h | h
 ·exact .inl h
 ·have:=kM (abi.mp (ab2 h)).1
  right;omega
abbrev Tn'(ns:List Int):OD:=.fz (.tuple (ns.map PyData.int))
theorem zV(h1:ev C a ρ=some (x,ρ1))(h2:ev C b ρ1=some (y,ρ2))(hx:z5 ρ2 x=some dx)(hy:z5 ρ2 y=some dy)(hl:dx≠[]/\dx.length + dy.length<=1000000):ev C (.catU a b) ρ=some (.val (.fz (.tuple (dx++dy))),ρ2):=bs h1 (bs h2 (bs hx (bs hy (bg hl rfl))))
theorem evoQ(h:ev C e ρ=some (.val (It i),ρ1)):wu C (.some e) ρ=some (some i,ρ1):=bs h rfl
theorem tj{ns:List Int}(h0:0 < ns.length)(hl:ns.length<=K)(hK:K<=101):pl.pg.call (n + 1) 29 [Tn' ns,It K]=some (Tn' (z7 K ns),[Tn' ns,It K]):=by
 obtain⟨o',ecm⟩:=eW (w:=Tn' ns) (fun y=>aw (ar rfl rfl rfl rfl CJ))
 rw[aaz,<- sY]at ecm
 obtain⟨mo,hmo⟩:∃mo,mo=(fS 70000000 101).filter fun y=>!decide (y∈ns):=⟨_,rfl⟩
 rw[<- hmo]at ecm
 have hml:mo.length<=101:=by rw[hmo];exact aaq (abw _ _) (by unfold fS;rw[aaa,List.length_range];exact aac _)
 have hfil:z7 K ns=ns++mo.take (K - ns.length):=by rw[hmo];rfl
 have s2:bD (pl.pg.ct n) ea4 [some (Tn' ns),some (It K),none]=some (.nx,[some (Tn' ns),some (It K),some (Il mo)]):=s_setQ (aP (sX rfl rfl rfl rfl (by decide)) (by rw[dW];decide) rfl ecm rfl) (by rw[cD];rfl) rfl rfl
 have fzI:∀{ls:List Int},Il ls=.lst ((ls.map PyData.int).map OD.fz):=fun {ls}=>by rw[cD]
 have hlen:ev (pl.pg.ct n) Ew [some (Tn' ns),some (It K),some (Il mo)]=some (.val (It ((K - ns.length:Nat):Int)),[some (Tn' ns),some (It K),some (Il mo)]):=by
  have q:ev (pl.pg.ct n) ed4 [some (Tn' ns),some (It K),some (Il mo)]=some (.val (It ns.length),[some (Tn' ns),some (It K),some (Il mo)]):=au rfl rfl (by rw[tuple_len,aaa])
  have e:=ai (o:=.sub) (a:=.nm 1) (ρ:=[some (Tn' ns),some (It K),some (Il mo)]) rfl q rfl rfl rfl
  rw[e,show (K:Int) - (ns.length:Int)=((K - ns.length:Nat):Int) by omega]
 have hcut:ev (pl.pg.ct n) ebw [some (Tn' ns),some (It K),some (Il mo)]=some (.val (.lst (((mo.take (K - ns.length)).map PyData.int).map OD.fz)),[some (Tn' ns),some (It K),some (Il mo)]):=by
  have hv:wu (pl.pg.ct n) (.some Ew) [some (Tn' ns),some (It K),some (Il mo)]=some (some ((K - ns.length:Nat):Int),[some (Tn' ns),some (It K),some (Il mo)]):=evoQ hlen
  have:=gU (a:=.nm 2) (lo:=.none) (ρ:=[some (Tn' ns),some (It K),some (Il mo)]) (u:=some ((K - ns.length:Nat):Int)) rfl rfl hv (gZ (ds:=mo.map PyData.int) (by show some (Il mo)=_;rw[fzI]))
  rw[kN,<- abF]at this
  exact this
 have hcat:=zV (C:=pl.pg.ct n) (a:=.nm 0) (x:=.val (Tn' ns)) (ρ:=[some (Tn' ns),some (It K),some (Il mo)]) (dx:=ns.map PyData.int) rfl (m8 hcut lZ) rfl rfl ⟨fun e=>by have:=congrArg List.length e;rw[aaa]at this;simp at this;rw[this]at h0;exact absurd h0 (aaW _),by rw[aaa,aaa,aaY];omega⟩
 rw[<- aaw,<- hfil]at hcat
 exact af (fn:=kD) (ρ:=[some (Tn' ns),some (It K),some (Il mo)]) rfl rfl (ab s2 (aj (ah hcat rfl))) rfl
theorem mx_of{ns:List Int}:∃B,pD .mxl [.list (ns.map PyData.int++[.int k])]=some (.int B)/\k<=B/\∀x∈ns,x<=B:=by
 have e:pD .mxl [.list (ns.map PyData.int++[.int k])]=(ns++[k]).head?.bind fun n=>some (.int (mxI n (ns++[k]).tail)):=by
  have:ns.map PyData.int++[.int k]=(ns++[k]).map PyData.int:=by rw[aaw];rfl
  rw[this]
  show (cT ((ns++[k]).map PyData.int)).bind _=_
  rw[eV];rfl
 rw[e]
 cases ns with
 | nil=>exact⟨k,rfl,by omega,fun x hx=>absurd hx aak⟩
 | cons y ys =>
  obtain⟨g1,g2⟩:=mxI_ge (ys++[k]) y
  refine⟨mxI y (ys++[k]),rfl,g2 k (aad _ aag),fun x hx=>?_⟩
  rcases aab.mp hx with rfl | hx
  ·exact g1
  ·exact g2 x (aae _ hx)
abbrev jE(f:Cf)(qs:Pz)(us:List Int)(o6 o7:Option OD):DEnv:=[some (Rl f.rows),some (Lo f),some (Fp qs us),some (Dl (fin f qs).ps),some (Dl (fin f qs).bs),some (It (fin f qs).pl),o6,o7]
theorem zW{us:List Int}(h:Qok f qs)(hu:∀u∈us,0<=u/\u < qs.length)(hul:us.length<=300000)(hN:f.rows.length<=200):∃B A,pl.pg.call (n + 4) 30 [Rl f.rows,Lo f,Fp qs us]=some (Ra B A,[Rl f.rows,Lo f,Fp qs us])/\((gIx 0 f.rows).zip us).all (fI f qs B A)=true:=by
 have e33:=kI (n:=n) (fun q hq=>(h.ok q hq).g0) (h.len hN) hN
 have eC:(pl.pg.ct (n + 3)).call=pl.pg.call (n + 3):=rfl
 rw[<- eC]at e33
 obtain⟨a,b,ec⟩:=f6 (ps:=(fin f qs).ps) (rs:=f.rows) (i:=0) (by rw[lV];omega)
 have ee:enF ((0:Nat):Int) f.rows=bB (f.rows.map R.d):=(fW f.rows).symm
 rw[aaz,ee]at ec
 obtain⟨sp,hsp⟩:∃sp,sp=(gIx 0 f.rows).map (spo (fin f qs).ps):=⟨_,rfl⟩
 have ec':aW (aX (pl.pg.ct (n + 3)) (.tp [0,1]) (.some vJ) Cv) (bB (f.rows.map R.d)) [] [none,none,some (Dl (fin f qs).ps)]=some (sp.map PyData.int,[a,b,some (Dl (fin f qs).ps)]):=by rw[hsp];exact ec
 have s6:bD (pl.pg.ct (n + 3)) ea6 (jE f qs us none none)=some (.nx,jE f qs us (some (Il sp)) none):=s_setQ (aP (fE rfl rfl) (by rw[bI,aaa];omega) rfl ec' rfl) (by rw[cD];rfl) rfl rfl
 have hz:∀w∈sp.zip us,0<=w.2/\w.2 < (fin f qs).bs.length:=fun w hw=>by
  obtain⟨_,h2⟩:=aaT (show (w.1,w.2)∈_ from hw)
  rw[h.bl];exact hu w.2 h2
 obtain⟨ρ',e,o0,o1,rfl⟩:=cJ (C:=pl.pg.ct (n + 3)) (tg:=.tp [0,1]) (elt:=.bop .sub (.nm 0) (.ix (.nm 2) (.nm 1))) (h:=Zp) (fun ρ=>∃o p,ρ=[o,p,some (Dl (fin f qs).bs)]) (fun w hw ρ hρ=>by
  obtain⟨o,p,rfl⟩:=hρ
  obtain⟨z1,z2⟩:=hz w hw
  exact⟨[some (It w.1),some (It w.2),some (Dl (fin f qs).bs)],fF rfl (ai rfl (aO rfl rfl rfl (bC (jB z1 z2))) rfl rfl rfl) rfl,_,_,rfl⟩) ⟨none,none,rfl⟩
 rw[aaz,<- cY]at e
 obtain⟨fs,hfs⟩:∃fs,fs=(sp.zip us).map fun w=>w.1 - spo (fin f qs).bs w.2:=⟨_,rfl⟩
 have hfm:((sp.zip us).map fun w=>PyData.int (w.1 - spo (fin f qs).bs w.2))=fs.map PyData.int:=by rw[hfs,aaO];rfl
 rw[hfm]at e
 have hfl:fs.length<=200:=by
  have h1:(gIx 0 f.rows).length<=f.rows.length:=by rw[gIx_len];exact abw _ _
  rw[hfs,aaa,abT,hsp,aaa];omega
 have hzi:ia (pl.pg.ct (n + 3)) E1 (jE f qs us (some (Il sp)) none)=some (b9 (sp.map PyData.int) (us.map PyData.int),jE f qs us (some (Dl sp)) none):=i_zipQ rfl (aO rfl rfl rfl (aM (bF rfl))) (frz_rf rfl (be _) rfl) rfl rfl rfl
 have s7:bD (pl.pg.ct (n + 3)) eay (jE f qs us (some (Il sp)) none)=some (.nx,jE f qs us (some (Dl sp)) (some (Il fs))):=s_setQ (aP hzi (by unfold b9;rw[abt,aaa,aaa];omega) rfl e rfl) (by rw[cD];rfl) rfl rfl
 obtain⟨B,eB,b0,hB⟩:=mx_of
 obtain⟨A,eA,a0,hA⟩:=mx_of
 have fzI:∀{ls:List Int},Il ls=.lst ((ls.map PyData.int).map OD.fz):=fun {ls}=>by rw[cD]
 have q1:ev (pl.pg.ct (n + 3)) ecb (jE f qs us (some (Dl sp)) (some (Il fs)))=some (.val (It B),jE f qs us (some (Dl sp)) (some (Il fs))):=au (aa (iF (dx:=fs.map PyData.int) (dy:=[.int 0]) rfl rfl (gZ (by show some (Il fs)=_;rw[fzI])) rfl (by rw[aaa];show _ + 1<=_;omega)) ag) bp eB
 obtain⟨ρ'',e',o'',rfl⟩:=cJ (C:=pl.pg.ct (n + 3)) (tg:=.nm 0) (elt:=.bop .sub (.int 0) (.nm 0)) (h:=PyData.int) (g:=fun x=>.int (0 - x)) (fun ρ=>∃o,ρ=[o]) (xs:=fs) (out:=[]) (ρ:=[none]) (fun x hx ρ hρ=>by
  obtain⟨o,rfl⟩:=hρ
  exact⟨[some (It x)],fF (ρ1:=[some (It x)]) rfl (x:=.val (It (0 - x))) rfl rfl,_,rfl⟩) ⟨none,rfl⟩
 have hfm2:(fs.map fun x=>PyData.int (0 - x))=(fs.map fun x=>0 - x).map PyData.int:=by rw[aaO];rfl
 rw[aaz,hfm2]at e'
 have hc7:ev (pl.pg.ct (n + 3)) E9 (jE f qs us (some (Dl sp)) (some (Il fs)))=some (.val (.lst (((fs.map fun x=>0 - x).map PyData.int).map OD.fz)),jE f qs us (some (Dl sp)) (some (Dl fs))):=aP (ρ1:=jE f qs us (some (Dl sp)) (some (Dl fs))) (zc:=([],jE f qs us (some (Dl sp)) (some (Dl fs)))) (bc (x:=.rf 7) (d:=.list (fs.map PyData.int)) rfl (frz_rf rfl (be fs) rfl) rfl) (by rw[aaa];omega) rfl e' unca_nil
 have q2:ev (pl.pg.ct (n + 3)) eat (jE f qs us (some (Dl sp)) (some (Il fs)))=some (.val (It A),jE f qs us (some (Dl sp)) (some (Dl fs))):=au (aa (iF (y:=.val (.lst [It 6])) (dy:=[.int 6]) hc7 rfl lZ rfl (by rw[aaa,aaa];show _ + 1<=_;omega)) ag) bp eA
 refine⟨B,A,af (fn:=iH) (ρ:=jE f qs us (some (Dl sp)) (some (Dl fs))) rfl rfl (ab (s_asgQ (ρ3:=jE f qs us none none) (ae (ρ3:=[some (Rl f.rows),some (Lo f),some (Fp qs us),none,none,none,none,none]) (aa rfl (aa rfl (aa (aO rfl rfl rfl (aM aS)) ag))) rfl e33 rfl) rfl rfl) (ab s6 (ab s7 (aj (ah (bY (rs:=[.val (It B),.val (It A)]) (aa q1 (aa q2 ag)) rfl rfl rfl) rfl))))) rfl,?_⟩
 rw[aaP]
 intro z hz'
 have hmem:(spo (fin f qs).ps z.1 - spo (fin f qs).bs z.2)∈fs:=by
  rw[hfs,hsp,abR,aaO]
  exact aay.mpr ⟨z,hz',rfl⟩
 have g1:=hB _ hmem
 have g2:=hA _ (aay.mpr ⟨_,hmem,rfl⟩)
 unfold fI
 rw[Dac g1,Dac (by omega),aaI]
theorem ne_bool(b:Bool):iz .ne (.bool b) (.bool b)=some false:=by cases b<;>rfl
theorem ne_str(x:Str):iz .ne (.str x) (.str x)=some false:=by
 have:eqA (.str x) (.str x)=some true:=by simp[eqA,k8]
 show (eqA (.str x) (.str x)).bind (fun k=>some (!k))=some false
 rw[this];rfl
theorem zX(h1:ev C a ρ=some (x,ρ1))(h2:ao ρ1 x=some d)(h3:shB d=true):ev C (.sht a) ρ=some (.val (.fz (.str (dH d))),ρ1):=bs h1 (bs h2 (bg h3 rfl))
def TB(n B:Nat)(d:PyData):Prop:=T 99999999 n d/\d.bulk<=B
theorem TB.mono(h:TB n B d)(hn:n<=n')(hB:B<=B'):TB n' B' d:=⟨T.mono (aac _) h.1 hn,aaq h.2 hB⟩
theorem kO:∀{ds:List PyData},(∀x∈ds,x.bulk<=k)->PyData.bulkAll ds<=ds.length * (k + 1)
 | [],_=>aaE _
 | x::ds,h=>by
  have h1:=h x aag
  have h2:=kO fun y hy=>h y (aai x hy)
  rw[PyData.bulkAll,aap,Nat.succ_mul];omega
theorem TB.seq(e:d=.list ds\/d=.tuple ds)(h:∀x∈ds,TB n B x)(hl:ds.length<=L):TB (n + 1) (L * (B + 1)) d:=by
 have hb:=aaq (kO fun x hx=>(h x hx).2) (Nat.mul_le_mul_right (B + 1) hl)
 refine⟨.inr ⟨ds,e,fun x hx=>(h x hx).1⟩,?_⟩
 rcases e with rfl | rfl
 ·rw[PyData.bulk];exact hb
 ·rw[PyData.bulk];exact hb
theorem TB.int(h0:0<=i)(h:i<=99999999):TB 0 0 (.int i):=⟨.inr (.inr (.inl ⟨i,rfl,by omega⟩)),by rw[sJ];exact aac _⟩
theorem TB.ints{ns:List Int}(h:∀x∈ns,0<=x/\x<=99999999):∀d∈ns.map PyData.int,TB 0 0 d:=fun d hd=>by
 obtain⟨x,hx,rfl⟩:=aay.mp hd
 exact TB.int (h x hx).1 (h x hx).2
theorem TB.str(h:w.cps.toList.all (fun c=>decide (c < 4294967296))=true)(hs:w.cps.size<=24):TB 0 24 (.str w):=⟨.inr (.inr (.inr ⟨w,rfl,fun c hc=>Daa (aaP.mp h c hc),hs⟩)),by rw[PyData.bulk];exact hs⟩
theorem TB.row{r:R}(h:r.ok):TB 1 100 r.d:=by
 cases r with
 | st x y =>
  obtain⟨⟨x0,x1⟩,y0,y1⟩:=h
  refine TB.seq (B:=24) (L:=4) (.inr rfl) (fun d hd=>?_) (aaD rfl)
  simp only[aab,aak,or_false]at hd
  rcases hd with rfl | rfl | rfl
  ·exact TB.str (by decide +kernel) (by decide +kernel)
  ·exact (TB.int x0 (by omega)).mono (aac _) (by decide)
  ·exact (TB.int y0 y1).mono (aac _) (by decide)
 | ot w xs hw =>
  obtain⟨h1,h2,h3,h4⟩:=h
  refine TB.seq (B:=24) (L:=4) (.inr rfl) (fun d hd=>?_) (by rw[aap,aaa];omega)
  rcases aab.mp hd with rfl | hd
  ·exact TB.str h2 h3
  ·exact (TB.ints (fun x hx=>by have:=h1 x hx;omega) d hd).mono (aac _) (by decide)
theorem TB.pool(g0:0<=g/\g<=60)(h:∀x∈ns,0<=x/\x<=99999999)(hl:ns.length<=101):TB 2 204 (Po (g,ns)):=by
 have h1:TB 1 (101 * 1) (.tuple (ns.map PyData.int)):=TB.seq (.inr rfl) (TB.ints h) (by rw[aaa];exact hl)
 refine TB.seq (B:=101) (L:=2) (.inr rfl) (fun d hd=>?_) (aaD rfl)
 simp only[aab,aak,or_false]at hd
 rcases hd with rfl | rfl
 ·exact (TB.int g0.1 (by omega)).mono (by decide) (by decide)
 ·exact h1
theorem TB.thing(hp:∀d∈ps,TB 2 204 d)(hpl:ps.length<=4)(hv:∀d∈vs,TB 0 0 d)(hvl:vs.length<=61):TB 4 1642 (.tuple [.list ps,.list vs]):=by
 have h1:TB 3 (4 * 205) (.list ps):=TB.seq (.inl rfl) hp hpl
 have h2:TB 1 (61 * 1) (.list vs):=TB.seq (.inl rfl) hv hvl
 refine TB.seq (B:=820) (L:=2) (.inr rfl) (fun d hd=>?_) (aaD rfl)
 simp only[aab,aak,or_false]at hd
 rcases hd with rfl | rfl
 ·exact h1
 ·exact h2.mono (by decide) (by decide)
abbrev Al(f:Cf)(d:PyData):PyData:=.list [.list (f.rows.map R.d),.list (f.longs.map PyData.int),d]
theorem TB.all(hf:Nb f.rows)(hN:f.rows.length<=60)(hs:Sb f.longs)(hl:f.longs.length<=200)(hd:TB 4 1642 d):shB (Al f d)=true:=by
 have h1:TB 2 (60 * 101) (.list (f.rows.map R.d)):=TB.seq (.inl rfl) (fun x hx=>by obtain⟨r,hr,rfl⟩:=aay.mp hx;exact TB.row (hf r hr)) (by rw[aaa];exact hN)
 have h2:TB 1 (200 * 1) (.list (f.longs.map PyData.int)):=TB.seq (.inl rfl) (TB.ints fun x hx=>by have:=hs x hx;omega) (by rw[aaa];exact hl)
 have h3:TB 5 (3 * 6061) (Al f d):=TB.seq (.inl rfl) (fun x hx=>by
  simp only[aab,aak,or_false]at hx
  rcases hx with rfl | rfl | rfl
  ·exact h1.mono (by decide) (by decide)
  ·exact h2.mono (by decide) (by decide)
  ·exact hd.mono (by decide) (by decide)) (aaD rfl)
 exact T.shB (by decide) h3.1 (by decide) (aaq h3.2 (by decide))
theorem tm(h:Pool N q):bt N (Po q)=some q:=by
 have h1:inI (N + 1) (.int q.1)=true:=by
  have:=h.g0;have:=h.g1
  simp only[inI,aam,decide_eq_true_eq];omega
 have h2:(q.2.map PyData.int).all numB=true:=aaP.mpr fun d hd=>by
  obtain⟨x,hx,rfl⟩:=aay.mp hd
  have:=h.nb x hx
  simp only[numB,aam,decide_eq_true_eq];exact this
 have h3:numsA (q.2.map PyData.int)=some q.2:=by
  unfold numsA
  rw[aaa,Dac h.l0,Dac h.l1,h2,aaI,aaI,if_pos rfl,eV]
  show (if unl q.2=q.2.length then some q.2 else none)=_
  rw[if_pos h.un]
 show (if inI (N + 1) (.int q.1)=true then (numsA (q.2.map PyData.int)).bind fun ns=>some (q.1,ns) else none)=_
 rw[if_pos h1,h3];rfl
theorem iV:∀{qs:Pz},(∀q∈qs,Pool N q)->aD N (qs.map Po)=some qs
 | [],_=>rfl
 | q::qs,h=>bs (tm (h q aag)) (bs (iV fun r hr=>h r (aai _ hr)) rfl)
theorem nO:∀{qs:Pz},qs.Pairwise (fun x y=>x.1 < y.1)->riseB qs=true
 | [],_=>rfl
 | [q],_=>rfl
 | a::b::qs,h=>by
  obtain⟨h1,h2⟩:=aaS.mp h
  show (decide (a.1 < b.1) && riseB (b::qs))=true
  rw[Dac (h1 b aag),nO h2,aaI]
theorem tq{us:List Int}(h:Qok f qs)(hl:us.length=(gIx 0 f.rows).length)(hu:∀u∈us,0<=u/\u < qs.length)(hm:∀z∈(gIx 0 f.rows).zip us,dA f qs z=true)(hr:((gIx 0 f.rows).zip us).all (fI f qs r0 r1)=true):planB f r0 r1 (.tuple [.list (qs.map Po),.list (us.map PyData.int)])=true:=by
 have h1:(us.map PyData.int).all (inI qs.length)=true:=aaP.mpr fun d hd=>by
  obtain⟨x,hx,rfl⟩:=aay.mp hd
  have:=hu x hx
  simp only[inI,aam,decide_eq_true_eq];exact this
 have h2:(us.map PyData.int).map wZ=us:=by rw[aaO];exact (acd fun x _=>rfl).trans (abQ us)
 rw[jC (iV h.ok) (nO h.inc),h2,aaa,Dac hl,h1,aaI,aaK]
 unfold servB
 rw[jD,hr,ach]
 exact aaP.mpr hm
abbrev wE(sc k t:OD)(f:Cf)(d0:PyData)(B A:Int)(ps us:PyData)(o10 o11 o12 o13 o14 o15:Option OD):DEnv:=[some sc,some k,some t,some (Rl f.rows),some (Lo f),some (.fz d0),some (It B),some (It A),some (.fz ps),some (.fz us),o10,o11,o12,o13,o14,o15]
abbrev lB:Ss:=match F_law.body with | .cons (.fr _ _ b) _=>b | _=>.nil
abbrev rB:Ss:=match lB with | .cons _ (.cons _ (.cons _ (.cons _ (.cons _ (.cons _ (.cons _ (.cons (.fr _ _ b) _)))))))=>b | _=>.nil
abbrev tB:Ss:=match rB with | .cons (.fr _ _ b) _=>b | _=>.nil
theorem pw(hf:Nb f.rows)(hN:f.rows.length<=60)(hs:Sb f.longs)(hl:f.longs.length<=200)(hd:TB 4 1642 d) :
  ∃o14' o15',aN (pl.pg.ct 8) tB (wE sc k t f d0 B A ps us o10 o11 (some (Ra r0 r1)) (some (.fz d)) o14 o15)=some (.nx,wE sc k t f d0 B A ps us o10 o11 (some (Ra r0 r1)) (some (.fz d)) o14' o15'):=by
 have hb:d.bulk<=300000:=aaq hd.2 (by decide)
 have e14:=sS (n:=2) (f:=f) (r0:=r0) (r1:=r1) hb (by omega)
 have e27:=vZ (n:=3) (f:=f) (r0:=r0) (r1:=r1) hb (by omega)
 have ec:(pl.pg.ct 8).call=pl.pg.call 8:=rfl
 rw[show 2 + 6=8 from rfl,<- ec]at e14
 rw[show 3 + 5=8 from rfl,<- ec]at e27
 have sb:=TB.all hf hN hs hl hd
 have esh:∀{o14 o15},ev (pl.pg.ct 8) ecc (wE sc k t f d0 B A ps us o10 o11 (some (Ra r0 r1)) (some (.fz d)) o14 o15)=some (.val (.fz (.str (dH (Al f d)))),wE sc k t f d0 B A ps us o10 o11 (some (Ra r0 r1)) (some (.fz d)) o14 o15):=fun {o14 o15}=>by
  have q1:ev (pl.pg.ct 8) (.lst E5) (wE sc k t f d0 B A ps us o10 o11 (some (Ra r0 r1)) (some (.fz d)) o14 o15)=some (.val (.lst [Rl f.rows,Lo f,.fz d]),wE sc k t f d0 B A ps us o10 o11 (some (Ra r0 r1)) (some (.fz d)) o14 o15):=e_lst rfl rfl rfl
  have q2:(OD.lst [Rl f.rows,Lo f,.fz d]).dat=some (Al f d):=cp [PyData.list (f.rows.map R.d),PyData.list (f.longs.map PyData.int),d]
  exact zX q1 q2 sb
 obtain⟨p,hp⟩:∃p,p=planB f r0 r1 d:=⟨_,rfl⟩
 rw[<- hp]at e14 e27
 have s1:bD (pl.pg.ct 8) eby (wE sc k t f d0 B A ps us o10 o11 (some (Ra r0 r1)) (some (.fz d)) o14 o15)=some (.nx,wE sc k t f d0 B A ps us o10 o11 (some (Ra r0 r1)) (some (.fz d)) (some (.fz (.str (dH (Al f d))))) o15):=s_setQ esh rfl rfl rfl
 have s2:bD (pl.pg.ct 8) ebl (wE sc k t f d0 B A ps us o10 o11 (some (Ra r0 r1)) (some (.fz d)) (some (.fz (.str (dH (Al f d))))) o15)=some (.nx,wE sc k t f d0 B A ps us o10 o11 (some (Ra r0 r1)) (some (.fz d)) (some (.fz (.str (dH (Al f d))))) (some (.fz (.bool p)))):=s_setQ (ae rfl rfl e14 rfl) rfl rfl rfl
 refine⟨some (.fz (.str (dH (Al f d)))),some (.fz (.bool p)),?_⟩
 have esh':=esh (o14:=some (.fz (.str (dH (Al f d))))) (o15:=some (.fz (.bool p)))
 generalize hρ:wE sc k t f d0 B A ps us o10 o11 (some (Ra r0 r1)) (some (.fz d)) (some (.fz (.str (dH (Al f d))))) (some (.fz (.bool p)))=ρ at s2 esh'
 have c0':ba (pl.pg.ct 8) eep ρ=some (false,ρ):=by rw[<- hρ];rfl
 have c1':ba (pl.pg.ct 8) ebd ρ=some (false,ρ):=aw (ar (by rw[<- hρ];rfl) (ae (ρ1:=ρ) (ρ2:=ρ) (ρ3:=ρ) (by rw[<- hρ];rfl) (by rw[<- hρ];rfl) e27 rfl) rfl rfl (ne_bool _))
 have c2':ba (pl.pg.ct 8) ebr ρ=some (false,ρ):=aw (ar (x:=.val (.fz (.str (dH (Al f d))))) (ρ1:=ρ) (dx:=.str (dH (Al f d))) (dy:=.str (dH (Al f d))) esh' (y:=.val (.fz (.str (dH (Al f d))))) (by rw[<- hρ];rfl) rfl rfl (ne_str _))
 exact ab s1 (ab s2 (ab (aq (aI c0' c1') rfl) (ab (aq c2' rfl) (show aN _ .nil ρ=_ by rw[<- hρ];rfl))))
theorem g8(hf:Nb f.rows)(hN:f.rows.length<=60)(hs:Sb f.longs)(hl:f.longs.length<=200):∀{ds:List PyData} {o13 o14 o15:Option OD},(∀d∈ds,TB 4 1642 d) ->
  ∃o13' o14' o15',bx (fun d ρ'=>(bj (.nm 13) (.fz d) ρ').bind fun ρ1=>aN (pl.pg.ct 8) tB ρ1) ds (wE sc k t f d0 B A ps us o10 o11 (some (Ra r0 r1)) o13 o14 o15)=some (.nx,wE sc k t f d0 B A ps us o10 o11 (some (Ra r0 r1)) o13' o14' o15')
 | [],o13,o14,o15,_=>⟨_,_,_,rfl⟩
 | d::ds,o13,o14,o15,h=>by
  obtain⟨p14,p15,e⟩:=pw hf hN hs hl (h d aag)
  obtain⟨q13,q14,q15,e2⟩:=g8 hf hN hs hl fun x hx=>h x (aai _ hx)
  exact⟨q13,q14,q15,bs (bs rfl e) e2⟩
theorem g9(hf:Nb f.rows)(hN:f.rows.length<=60)(hs:Sb f.longs)(hl:f.longs.length<=200)(hds:∀d∈ds,TB 4 1642 d):∀{rs:List (Int × Int)} {x10:OD} {o12 o13 o14 o15:Option OD},x10=.lst (ds.map OD.fz)\/x10=.fz (.list ds) ->
  ∃o10' o12' o13' o14' o15',bx (fun d ρ'=>(bj (.nm 12) (.fz d) ρ').bind fun ρ1=>aN (pl.pg.ct 8) rB ρ1) (rs.map Zp) (wE sc k t f d0 B A ps us (some x10) o11 o12 o13 o14 o15)=some (.nx,wE sc k t f d0 B A ps us o10' o11 o12' o13' o14' o15')
 | [],x10,o12,o13,o14,o15,_=>⟨_,_,_,_,_,rfl⟩
 | r::rs,x10,o12,o13,o14,o15,h=>by
  obtain⟨p13,p14,p15,e⟩:=g8 hf hN hs hl hds
  obtain⟨q10,q12,q13,q14,q15,e2⟩:=g9 hf hN hs hl hds (.inr rfl)
  have hi:ia (pl.pg.ct 8) (.seq (.nm 10)) (wE sc k t f d0 B A ps us (some x10) o11 (some (Ra r.1 r.2)) o13 o14 o15)=some (ds,wE sc k t f d0 B A ps us (some (.fz (.list ds))) o11 (some (Ra r.1 r.2)) o13 o14 o15):=by
   rcases h with rfl | rfl
   ·exact bc rfl (frz_rf rfl (cp ds) rfl) rfl
   ·exact bc rfl rfl rfl
  exact⟨q10,q12,q13,q14,q15,bs (bs rfl (ab (s_frQ hi e) rfl)) e2⟩
theorem e_rvsQ(h1:ev C a ρ=some (x,ρ1))(h2:lg ρ1 x=some ds):ev C (.rvs a) ρ=some (.val (.lst (ds.reverse.map OD.fz)),ρ1):=bs h1 (bs h2 rfl)
theorem wb(h1:ev C a ρ=some (.val (.lst (ds.map OD.fz)),ρ1))(h2:ev C b ρ1=some (.val (.fz u),ρ1)):ev C (.frz (.tup (.cons a (.cons b .nil)))) ρ=some (.val (.fz (.tuple [.list ds,u])),ρ1):=by
 refine jF (x:=.val (.tup [.lst (ds.map OD.fz),.fz u])) (bY (aa h1 (aa h2 ag)) rfl rfl rfl) ?_
 show (OD.dat _).map _=_
 simp only[OD.dat,OD.dats,dats_fz];rfl
theorem CL(h1:ev C a ρ=some (.val (.fz u),ρ1))(h2:ev C b ρ1=some (.val (.lst (ds.map OD.fz)),ρ1)):ev C (.frz (.tup (.cons a (.cons b .nil)))) ρ=some (.val (.fz (.tuple [u,.list ds])),ρ1):=by
 refine jF (x:=.val (.tup [.fz u,.lst (ds.map OD.fz)])) (bY (aa h1 (aa h2 ag)) rfl rfl rfl) ?_
 show (OD.dat _).map _=_
 simp only[OD.dat,OD.dats,dats_fz];rfl
def fq(K:Nat)(q:Int × List Int):Int × List Int:=(q.1,z7 K q.2)
abbrev t6(ps us:List PyData):List PyData:=[.tuple [.list ps,.list us],.tuple [.list ps.reverse,.list us],.tuple [.list ps,.list (us++[.int 0])],.tuple [.list ps,.list (us.drop 1)],.tuple [.list (ps.drop 1),.list us],.tuple [.list [],.list us]]
abbrev tf(K:Nat)(qs:Pz)(us:List PyData):PyData:=.tuple [.list ((qs.map (fq K)).map Po),.list us]
theorem CM(hu:us.length<=60):bD C (match lB with | .cons _ (.cons _ (.cons _ (.cons _ (.cons _ (.cons s _)))))=>s | _=>.cont) (wE sc k t f (.tuple [.list ps,.list us]) B A (.list ps) (.list us) o10 o11 o12 o13 o14 o15)=some (.nx,wE sc k t f (.tuple [.list ps,.list us]) B A (.list ps) (.list us) (some (.lst ((t6 ps us).map OD.fz))) o11 o12 o13 o14 o15):=by
 generalize hρ:wE sc k t f (.tuple [.list ps,.list us]) B A (.list ps) (.list us) o10 o11 o12 o13 o14 o15=ρ
 have h5:ev C (.nm 5) ρ=some (.val (.fz (.tuple [.list ps,.list us])),ρ):=by rw[<- hρ];rfl
 have h8:ev C (.nm 8) ρ=some (.val (.fz (.list ps)),ρ):=by rw[<- hρ];rfl
 have h9:ev C (.nm 9) ρ=some (.val (.fz (.list us)),ρ):=by rw[<- hρ];rfl
 have c1:ev C (.rvs (.nm 8)) ρ=some (.val (.lst (ps.reverse.map OD.fz)),ρ):=e_rvsQ h8 rfl
 have c2:ev C edh ρ=some (.val (.lst ((us++[PyData.int 0]).map OD.fz)),ρ):=iF h9 rfl rfl rfl (by show _ + 1<=_;omega)
 have c3:ev C edt ρ=some (.val (.lst ((us.drop 1).map OD.fz)),ρ):=by
  have:=gU (lo:=.some (.int 1)) (hi:=.none) h9 rfl rfl rfl
  rw[gT]at this;exact this
 have c4:ev C edu ρ=some (.val (.lst ((ps.drop 1).map OD.fz)),ρ):=by
  have:=gU (lo:=.some (.int 1)) (hi:=.none) h8 rfl rfl rfl
  rw[gT]at this;exact this
 have c5:ev C (.lst .nil) ρ=some (.val (.lst (([]:List PyData).map OD.fz)),ρ):=rfl
 exact s_setQ (e_lst (aa h5 (aa (wb c1 h9) (aa (CL h8 c2) (aa (CL h8 c3) (aa (wb c4 h9) (aa (wb c5 h9) ag)))))) rfl rfl) rfl (by rw[<- hρ];rfl) (by rw[<- hρ];rfl)
abbrev mB:Ss:=match lB with | .cons _ (.cons _ (.cons _ (.cons _ (.cons _ (.cons _ (.cons (.fr _ _ b) _))))))=>b | _=>.nil
theorem tu{n K:Nat}(hq:∀q∈qs,0 < q.2.length/\q.2.length<=100)(hql:qs.length<=1000)(hK:100<=K/\K<=101)(ht:ths.length<=100):((bj (.nm 11) (.fz (.int K)) (wE sc k t f d0 B A (.list (qs.map Po)) (.list us) (some (.lst (ths.map OD.fz))) o11 o12 o13 o14 o15)).bind fun ρ1=>aN (pl.pg.ct (n + 1)) mB ρ1)=some (.nx,wE sc k t f d0 B A (.list (qs.map Po)) (.list us) (some (.lst ((ths++[tf K qs us]).map OD.fz))) (some (It K)) o12 o13 o14 o15):=by
 have st:bj (.nm 11) (.fz (.int K)) (wE sc k t f d0 B A (.list (qs.map Po)) (.list us) (some (.lst (ths.map OD.fz))) o11 o12 o13 o14 o15)=some (wE sc k t f d0 B A (.list (qs.map Po)) (.list us) (some (.lst (ths.map OD.fz))) (some (It K)) o12 o13 o14 o15):=rfl
 obtain⟨ρ',e,o0,o1,rfl⟩:=cJ (tg:=.tp [0,1]) (elt:=.tup Fc) (h:=Po) (fun ρ=>∃o p,ρ=[o,p,some (It K)]) (fun q hq' ρ hρ=>by
  obtain⟨o,p,rfl⟩:=hρ
  obtain⟨q0,q1⟩:=hq q hq'
  have e29:=tj (n:=n) q0 (by omega) hK.2
  have ec:(pl.pg.ct (n + 1)).call=pl.pg.call (n + 1):=rfl
  rw[<- ec]at e29
  exact⟨[some (It q.1),some (Tn' q.2),some (It K)],fF rfl (x:=.val (.fz (Po (fq K q)))) (bY (aa rfl (aa (ae rfl rfl e29 rfl) ag)) rfl rfl rfl) rfl,_,_,rfl⟩) ⟨none,none,rfl⟩
 have hm:(qs.map fun q=>Po (fq K q))=(qs.map (fq K)).map Po:=by rw[aaO];rfl
 rw[aaz,hm]at e
 generalize hρ:wE sc k t f d0 B A (.list (qs.map Po)) (.list us) (some (.lst (ths.map OD.fz))) (some (It K)) o12 o13 o14 o15=ρ at st
 have hc:ev (pl.pg.ct (n + 1)) eau ρ=some (.val (.lst (((qs.map (fq K)).map Po).map OD.fz)),ρ):=aP (bc (ρ1:=ρ) (by rw[<- hρ];rfl) rfl rfl) (by rw[aaa];omega) (by rw[<- hρ];rfl) e (by rw[<- hρ];rfl)
 have h9:ev (pl.pg.ct (n + 1)) (.nm 9) ρ=some (.val (.fz (.list us)),ρ):=by rw[<- hρ];rfl
 refine bs st (ab (cH (by rw[<- hρ];rfl) (wb hc h9) rfl (by rw[<- hρ];rfl) (by rw[aaa];omega) ?_) rfl)
 rw[<- hρ,aaw];rfl
theorem iW{us:List Int}(h:Qok f qs)(hN:f.rows.length<=60)(hq4:qs.length<=4)(hul:us.length<=60)(hu:∀u∈us,0<=u/\u < qs.length):∀d∈t6 (qs.map Po) (us.map PyData.int)++[tf 100 qs (us.map PyData.int),tf 101 qs (us.map PyData.int)],TB 4 1642 d:=by
 have hp:∀d∈qs.map Po,TB 2 204 d:=fun d hd=>by
  obtain⟨q,hq,rfl⟩:=aay.mp hd
  have P:=h.ok q hq
  have:=P.g1;have:=P.l1
  exact TB.pool ⟨P.g0,by omega⟩ (fun x hx=>by have:=P.nb x hx;omega) (by omega)
 have hf:∀K,100<=K/\K<=101->∀d∈(qs.map (fq K)).map Po,TB 2 204 d:=fun K hK d hd=>by
  obtain⟨q',hq',rfl⟩:=aay.mp hd
  obtain⟨q,hq,rfl⟩:=aay.mp hq'
  have P:=h.ok q hq
  have:=P.g1;have:=P.l1
  have hl:=v9 (K:=K) (ns:=q.2) (by omega)
  refine TB.pool ⟨P.g0,by omega⟩ (fun x hx=>?_) (by omega)
  rcases wa hx with z | z
  ·have:=P.nb x z;omega
  ·omega
 have hv:∀d∈us.map PyData.int,TB 0 0 d:=TB.ints fun x hx=>by have:=hu x hx;omega
 have lp:(qs.map Po).length<=4:=by rw[aaa];exact hq4
 have lu:(us.map PyData.int).length<=61:=by rw[aaa];omega
 intro d hd
 simp only[t6,aal,aab,aak,or_false]at hd
 rcases hd with (rfl | rfl | rfl | rfl | rfl | rfl) | rfl | rfl
 ·exact TB.thing hp lp hv lu
 ·exact TB.thing (fun d hd=>hp d (List.mem_reverse.mp hd)) (by rw[abq];exact lp) hv lu
 ·refine TB.thing hp lp (fun d hd=>?_) (by rw[aaA,aaa];show _ + 1<=_;omega)
  rcases aal.mp hd with hd | hd
  ·exact hv d hd
  ·rw[aaB.mp hd];exact TB.int (by decide) (by decide)
 ·exact TB.thing hp lp (fun d hd=>hv d (ab1 hd)) (by rw[aaZ];omega)
 ·exact TB.thing (fun d hd=>hp d (ab1 hd)) (by rw[aaZ];omega) hv lu
 ·exact TB.thing (fun d hd=>absurd hd aak) (aaE _) hv lu
 ·exact TB.thing (hf 100 (by decide)) (by rw[aaa,aaa];exact hq4) hv lu
 ·exact TB.thing (hf 101 (by decide)) (by rw[aaa,aaa];exact hq4) hv lu
theorem tw(hl:rs.length<=60)(hn:Nb rs)(ht:TpOk b c m)(hm:m<=50000) :
  ∃ρ',aN (pl.pg.ct 8) (match lB with | .cons _ (.cons _ r)=>r | _=>.nil) [some sc,some k,some (Tp a b c),some (Rs rs),o4,o5,o6,o7,o8,o9,o10,o11,o12,o13,o14,o15]=some (.nx,ρ')/\∃p1 p2 p3 p4 p5 p6 p7 p8 p9 p10 p11 p12 p13 p14 p15,ρ'=[some sc,p1,p2,p3,p4,p5,p6,p7,p8,p9,p10,p11,p12,p13,p14,p15]:=by
 obtain⟨ls,a1,b1,c1,e1,t1,hsb,hll⟩:=vN (a:=a) (aaq hl (by decide)) ht (by omega)
 obtain⟨f,hf⟩:∃f:Cf,f=⟨rs,ls,0,0⟩:=⟨_,rfl⟩
 have fr:f.rows=rs:=by rw[hf]
 have fl:f.longs=ls:=by rw[hf]
 rw[<- fr]at e1 hl hn ⊢
 rw[<- fl]at e1 hsb hll
 obtain⟨qs,us,a2,b2,c2,e2,t2,Q,hul,hu,hq4,hmem⟩:=CK hn hl t1 (by omega)
 have hgl:(gIx 0 f.rows).length<=60:=by rw[gIx_len];exact aaq (abw _ _) hl
 have hul60:us.length<=60:=by omega
 obtain⟨B,A,e3,hfar⟩:=zW Q hu (by omega) (by omega)
 obtain⟨r0,r1,a3,b3,c3,e4,t3,_⟩:=vL t2 (by omega)
 have ec:(pl.pg.ct 8).call=pl.pg.call 8:=rfl
 rw[show 6 + 2=8 from rfl,<- ec]at e1 e4
 rw[show 5 + 3=8 from rfl,<- ec]at e2
 rw[show 4 + 4=8 from rfl,<- ec]at e3
 have zr:frz1 [some sc,some k,none,some (Rs f.rows),o4,o5,o6,o7,o8,o9,o10,o11,o12,o13,o14,o15] (.rf 3)=some (.list (f.rows.map R.d),[some sc,some k,none,some (Rl f.rows),o4,o5,o6,o7,o8,o9,o10,o11,o12,o13,o14,o15]):=frz_rf rfl dat_Rs rfl
 have l1:ev (pl.pg.ct 8) E2 [some sc,some k,some (Tp a b c),some (Rs f.rows),o4,o5,o6,o7,o8,o9,o10,o11,o12,o13,o14,o15]=some (.val (Il f.longs),[some sc,some k,some (Tp a1 b1 c1),some (Rl f.rows),o4,o5,o6,o7,o8,o9,o10,o11,o12,o13,o14,o15]):=by
  refine ae (ρ2:=[some sc,some k,none,some (Rl f.rows),o4,o5,o6,o7,o8,o9,o10,o11,o12,o13,o14,o15]) rfl ?_ e1 rfl
  show bO [true,false] _ [.rf 2,.rf 3]=_
  have zm:mv1 [some sc,some k,some (Tp a b c),some (Rs f.rows),o4,o5,o6,o7,o8,o9,o10,o11,o12,o13,o14,o15] (.rf 2)=some (Tp a b c,[some sc,some k,none,some (Rs f.rows),o4,o5,o6,o7,o8,o9,o10,o11,o12,o13,o14,o15]):=rfl
  simp only[bO,zm,zr]
 have s1:bD (pl.pg.ct 8) eav [some sc,some k,some (Tp a b c),some (Rs f.rows),o4,o5,o6,o7,o8,o9,o10,o11,o12,o13,o14,o15]=some (.nx,[some sc,some k,some (Tp a2 b2 c2),some (Rl f.rows),some (Il f.longs),some (Fp qs us),o6,o7,o8,o9,o10,o11,o12,o13,o14,o15]):=gG (aa l1 (aa (ae rfl rfl e2 rfl) ag)) rfl rfl rfl
 have z4:frz1 [some sc,some k,some (Tp a2 b2 c2),some (Rl f.rows),some (Il f.longs),some (Fp qs us),o6,o7,o8,o9,o10,o11,o12,o13,o14,o15] (.rf 4)=some (.list (f.longs.map PyData.int),[some sc,some k,some (Tp a2 b2 c2),some (Rl f.rows),some (Lo f),some (Fp qs us),o6,o7,o8,o9,o10,o11,o12,o13,o14,o15]):=frz_rf rfl (be _) rfl
 have l2:ev (pl.pg.ct 8) ece [some sc,some k,some (Tp a2 b2 c2),some (Rl f.rows),some (Il f.longs),some (Fp qs us),o6,o7,o8,o9,o10,o11,o12,o13,o14,o15]=some (.val (Ra B A),[some sc,some k,some (Tp a2 b2 c2),some (Rl f.rows),some (Lo f),some (Fp qs us),o6,o7,o8,o9,o10,o11,o12,o13,o14,o15]):=by
  refine ae (aa rfl (aa rfl (aa rfl ag))) ?_ e3 rfl
  show bO [false,false,false] _ [.val (Rl f.rows),.rf 4,.val (Fp qs us)]=_
  simp only[frz1]at z4
  simp only[bO,frz1,OD.dat,Option.map_some]
  rw[z4]
 have s2:bD (pl.pg.ct 8) ebu [some sc,some k,some (Tp a2 b2 c2),some (Rl f.rows),some (Il f.longs),some (Fp qs us),o6,o7,o8,o9,o10,o11,o12,o13,o14,o15]=some (.nx,[some sc,some k,some (Tp a2 b2 c2),some (Rl f.rows),some (Lo f),some (Fp qs us),some (It B),some (It A),o8,o9,o10,o11,o12,o13,o14,o15]):=s_asgQ l2 rfl rfl
 have s3:bD (pl.pg.ct 8) ee3 [some sc,some k,some (Tp a2 b2 c2),some (Rl f.rows),some (Lo f),some (Fp qs us),some (It B),some (It A),o8,o9,o10,o11,o12,o13,o14,o15]=some (.nx,(wE sc k (Tp a2 b2 c2) f (.tuple [.list (qs.map Po),.list (us.map PyData.int)]) B A (.list (qs.map Po)) (.list (us.map PyData.int)) o10 o11 o12 o13 o14 o15)):=rfl
 have s4:=CM (C:=pl.pg.ct 8) (sc:=sc) (k:=k) (t:=Tp a2 b2 c2) (f:=f) (B:=B) (A:=A) (ps:=qs.map Po) (us:=us.map PyData.int) (o10:=o10) (o11:=o11) (o12:=o12) (o13:=o13) (o14:=o14) (o15:=o15) (by rw[aaa];exact hul60)
 have hq:∀q∈qs,0 < q.2.length/\q.2.length<=100:=fun q hq=>⟨(Q.ok q hq).l0,(Q.ok q hq).l1⟩
 have f1:=tu (n:=7) (K:=100) (sc:=sc) (k:=k) (t:=Tp a2 b2 c2) (f:=f) (d0:=(.tuple [.list (qs.map Po),.list (us.map PyData.int)])) (B:=B) (A:=A) (qs:=qs) (us:=us.map PyData.int) (ths:=(t6 (qs.map Po) (us.map PyData.int))) (o11:=o11) (o12:=o12) (o13:=o13) (o14:=o14) (o15:=o15) hq (by omega) (by decide) (aaD rfl)
 have f2:=tu (n:=7) (K:=101) (sc:=sc) (k:=k) (t:=Tp a2 b2 c2) (f:=f) (d0:=(.tuple [.list (qs.map Po),.list (us.map PyData.int)])) (B:=B) (A:=A) (qs:=qs) (us:=us.map PyData.int) (ths:=((t6 (qs.map Po) (us.map PyData.int))++[tf 100 qs (us.map PyData.int)])) (o11:=some (It (100:Nat))) (o12:=o12) (o13:=o13) (o14:=o14) (o15:=o15) hq (by omega) (by decide) (aaD rfl)
 have s5:bD (pl.pg.ct 8) (.fr (.nm 11) ecn mB) (wE sc k (Tp a2 b2 c2) f (.tuple [.list (qs.map Po),.list (us.map PyData.int)]) B A (.list (qs.map Po)) (.list (us.map PyData.int)) (some (.lst ((t6 (qs.map Po) (us.map PyData.int)).map OD.fz))) o11 o12 o13 o14 o15)=some (.nx,(wE sc k (Tp a2 b2 c2) f (.tuple [.list (qs.map Po),.list (us.map PyData.int)]) B A (.list (qs.map Po)) (.list (us.map PyData.int)) (some (.lst ((((t6 (qs.map Po) (us.map PyData.int))++[tf 100 qs (us.map PyData.int)])++[tf 101 qs (us.map PyData.int)]).map OD.fz))) (some (It (101:Nat))) o12 o13 o14 o15)):=s_frQ (ds:=[.int (100:Nat),.int (101:Nat)]) (bc (x:=.val (.fz (.tuple [.int 100,.int 101]))) rfl rfl rfl) (bs f1 (bs f2 rfl))
 obtain⟨x1,hx1⟩:∃x,pD .max [.int 0,.int (B - 1)]=some (.int x):=⟨_,rfl⟩
 obtain⟨x2,hx2⟩:∃x,pD .max [.int 6,.int (A - 1)]=some (.int x):=⟨_,rfl⟩
 have hths:=iW Q hl hq4 hul60 hu
 rw[show ((t6 (qs.map Po) (us.map PyData.int))++[tf 100 qs (us.map PyData.int),tf 101 qs (us.map PyData.int)])=(((t6 (qs.map Po) (us.map PyData.int))++[tf 100 qs (us.map PyData.int)])++[tf 101 qs (us.map PyData.int)]) from rfl]at hths
 generalize hth:(((t6 (qs.map Po) (us.map PyData.int))++[tf 100 qs (us.map PyData.int)])++[tf 101 qs (us.map PyData.int)])=ths at s5 hths
 obtain⟨q10,q12,q13,q14,q15,e5⟩:=g9 (sc:=sc) (k:=k) (t:=Tp a3 b3 c3) (f:=f) (d0:=(.tuple [.list (qs.map Po),.list (us.map PyData.int)])) (B:=B) (A:=A) (ps:=.list (qs.map Po)) (us:=.list (us.map PyData.int)) (o11:=some (It (101:Nat))) (ds:=ths) hn hl hsb hll hths (rs:=[(r0,r1),(B,A),(x1,A),(B,x2)]) (x10:=.lst (ths.map OD.fz)) (o12:=o12) (o13:=o13) (o14:=o14) (o15:=o15) (.inl rfl)
 have hi:ia (pl.pg.ct 8) eaa (wE sc k (Tp a2 b2 c2) f (.tuple [.list (qs.map Po),.list (us.map PyData.int)]) B A (.list (qs.map Po)) (.list (us.map PyData.int)) (some (.lst (ths.map OD.fz))) (some (It (101:Nat))) o12 o13 o14 o15)=some ([(r0,r1),(B,A),(x1,A),(B,x2)].map Zp,(wE sc k (Tp a3 b3 c3) f (.tuple [.list (qs.map Po),.list (us.map PyData.int)]) B A (.list (qs.map Po)) (.list (us.map PyData.int)) (some (.lst (ths.map OD.fz))) (some (It (101:Nat))) o12 o13 o14 o15)):=by
  generalize hρ:(wE sc k (Tp a3 b3 c3) f (.tuple [.list (qs.map Po),.list (us.map PyData.int)]) B A (.list (qs.map Po)) (.list (us.map PyData.int)) (some (.lst (ths.map OD.fz))) (some (It (101:Nat))) o12 o13 o14 o15)=ρ
  have w1:ev (pl.pg.ct 8) EW (wE sc k (Tp a2 b2 c2) f (.tuple [.list (qs.map Po),.list (us.map PyData.int)]) B A (.list (qs.map Po)) (.list (us.map PyData.int)) (some (.lst (ths.map OD.fz))) (some (It (101:Nat))) o12 o13 o14 o15)=some (.val (Ra r0 r1),ρ):=ae (ρ3:=ρ) rfl rfl e4 (by rw[<- hρ];rfl)
  have h6:ev (pl.pg.ct 8) (.nm 6) ρ=some (.val (It B),ρ):=by rw[<- hρ];rfl
  have h7:ev (pl.pg.ct 8) (.nm 7) ρ=some (.val (It A),ρ):=by rw[<- hρ];rfl
  have w2:ev (pl.pg.ct 8) (.tup edy) ρ=some (.val (Ra B A),ρ):=bY (aa h6 (aa h7 ag)) rfl rfl rfl
  have w3:ev (pl.pg.ct 8) (.tup Fh) ρ=some (.val (Ra x1 A),ρ):=bY (rs:=[.val (It x1),.val (It A)]) (aa (au (rs:=[.val (It 0),.val (It (B - 1))]) (ds:=[.int 0,.int (B - 1)]) (aa rfl (aa (ai (dx:=.int B) (dy:=.int 1) h6 rfl rfl rfl rfl) ag)) rfl hx1) (aa h7 ag)) rfl rfl rfl
  have w4:ev (pl.pg.ct 8) (.tup Fg) ρ=some (.val (Ra B x2),ρ):=bY (rs:=[.val (It B),.val (It x2)]) (aa h6 (aa (au (rs:=[.val (It 6),.val (It (A - 1))]) (ds:=[.int 6,.int (A - 1)]) (aa rfl (aa (ai (dx:=.int A) (dy:=.int 1) h7 rfl rfl rfl rfl) ag)) rfl hx2) ag)) rfl rfl rfl
  exact bc (ds:=[(r0,r1),(B,A),(x1,A),(B,x2)].map Zp) (x:=.val (.fz (.tuple ([(r0,r1),(B,A),(x1,A),(B,x2)].map Zp)))) (d:=.tuple ([(r0,r1),(B,A),(x1,A),(B,x2)].map Zp)) (ρ1:=ρ) (bY (rs:=[.val (Ra r0 r1),.val (Ra B A),.val (Ra x1 A),.val (Ra B x2)]) (aa w1 (aa w2 (aa w3 (aa w4 ag)))) rfl rfl rfl) rfl rfl
 have hd0:TB 4 1642 (.tuple [.list (qs.map Po),.list (us.map PyData.int)]):=iW Q hl hq4 hul60 hu _ aag
 have e14:=sS (n:=2) (f:=f) (r0:=B) (r1:=A) (aaq hd0.2 (by decide)) (by omega)
 rw[tq Q hul hu hmem hfar,show 2 + 6=8 from rfl,<- ec]at e14
 generalize hρ:wE sc k (Tp a3 b3 c3) f (.tuple [.list (qs.map Po),.list (us.map PyData.int)]) B A (.list (qs.map Po)) (.list (us.map PyData.int)) q10 (some (It (101:Nat))) q12 q13 q14 q15=ρ at e5
 have c0:ba (pl.pg.ct 8) ear ρ=some (false,ρ):=by
  have w:ev (pl.pg.ct 8) ea1 ρ=some (.val (.fz (.bool true)),ρ):=ae (rs:=[.val (Rl f.rows),.val (Lo f),.val (Ra B A),.val (Fp qs us)]) (ρ1:=ρ) (ρ2:=ρ) (ρ3:=ρ) (by rw[<- hρ];rfl) (by rw[<- hρ];rfl) e14 rfl
  have w':ev (pl.pg.ct 8) ear ρ=some (.val (.fz (.bool false)),ρ):=bs w rfl
  exact bs w' rfl
 have s6:bD (pl.pg.ct 8) (.fr (.nm 12) eaa rB) (wE sc k (Tp a2 b2 c2) f (.tuple [.list (qs.map Po),.list (us.map PyData.int)]) B A (.list (qs.map Po)) (.list (us.map PyData.int)) (some (.lst (ths.map OD.fz))) (some (It (101:Nat))) o12 o13 o14 o15)=some (.nx,ρ):=s_frQ hi e5
 have s7:aN (pl.pg.ct 8) (match lB with | .cons _ (.cons _ (.cons _ (.cons _ (.cons _ (.cons _ (.cons _ (.cons _ r)))))))=>r | _=>.nil) ρ=some (.nx,ρ):=ab (aq c0 rfl) rfl
 refine⟨ρ,ab s1 (ab s2 (ab s3 (ab s4 (ab s5 (ab s6 s7))))),?_⟩
 rw[<- hρ]
 exact⟨_,_,_,_,_,_,_,_,_,_,_,_,_,_,_,rfl⟩
theorem pure(ns:List Int)(hns:ns.length<=63):∃ys,pl.pg.call 9 Cw [.fz (.list (ns.map PyData.int))]=some (.fz (.bool true),ys):=by
 obtain⟨sc,hsc⟩:∃sc:OD,sc=.fz (.list (ns.map PyData.int)):=⟨_,rfl⟩
 have step:∀(i:Nat) (o1 o2 o3 o4 o5 o6 o7 o8 o9 o10 o11 o12 o13 o14 o15:Option OD),i<=8->∃ρ',((bj (.nm 1) (.fz (.int i)) [some sc,o1,o2,o3,o4,o5,o6,o7,o8,o9,o10,o11,o12,o13,o14,o15]).bind fun ρ1=>aN (pl.pg.ct 8) lB ρ1)=some (.nx,ρ')/\∃p1 p2 p3 p4 p5 p6 p7 p8 p9 p10 p11 p12 p13 p14 p15,ρ'=[some sc,p1,p2,p3,p4,p5,p6,p7,p8,p9,p10,p11,p12,p13,p14,p15]:=by
  intro i o1 o2 o3 o4 o5 o6 o7 o8 o9 o10 o11 o12 o13 o14 o15 hi
  obtain⟨a,b,et,t⟩:=zz hi
  obtain⟨rs,a1,b1,c1,e1,hl1,hn1,t1⟩:=zA t (aaE _)
  have ec:(pl.pg.ct 8).call=pl.pg.call 8:=rfl
  rw[show 6 + 2=8 from rfl,<- ec,<- hsc]at et
  rw[show 5 + 3=8 from rfl,<- ec]at e1
  obtain⟨ρ',e4,p1,p2,p3,p4,p5,p6,p7,p8,p9,p10,p11,p12,p13,p14,p15,rfl⟩:=tw hl1 hn1 t1 (by decide)
  have s1:bD (pl.pg.ct 8) ecl [some sc,some (It i),o2,o3,o4,o5,o6,o7,o8,o9,o10,o11,o12,o13,o14,o15]=some (.nx,[some sc,some (It i),some (Tp a b 0),o3,o4,o5,o6,o7,o8,o9,o10,o11,o12,o13,o14,o15]):=s_setQ (ae (ρ2:=[some sc,some (It i),o2,o3,o4,o5,o6,o7,o8,o9,o10,o11,o12,o13,o14,o15]) (by rw[hsc];rfl) (by rw[hsc];rfl) et rfl) rfl rfl rfl
  have s2:bD (pl.pg.ct 8) edl [some sc,some (It i),some (Tp a b 0),o3,o4,o5,o6,o7,o8,o9,o10,o11,o12,o13,o14,o15]=some (.nx,[some sc,some (It i),some (Tp a1 b1 c1),some (Rs rs),o4,o5,o6,o7,o8,o9,o10,o11,o12,o13,o14,o15]):=s_setQ (ae rfl rfl e1 rfl) rfl rfl rfl
  exact⟨_,bs rfl (ab s1 (ab s2 e4)),_,_,_,_,_,_,_,_,_,_,_,_,_,_,_,rfl⟩
 have walk:∀(m i:Nat) (o1 o2 o3 o4 o5 o6 o7 o8 o9 o10 o11 o12 o13 o14 o15:Option OD),i + m<=9->∃ρ',bx (fun d ρ'=>(bj (.nm 1) (.fz d) ρ').bind fun ρ1=>aN (pl.pg.ct 8) lB ρ1) (bW i m) [some sc,o1,o2,o3,o4,o5,o6,o7,o8,o9,o10,o11,o12,o13,o14,o15]=some (.nx,ρ')/\ρ'[0]?.join=some sc:=by
  intro m
  induction m with
  | zero=>intro i o1 o2 o3 o4 o5 o6 o7 o8 o9 o10 o11 o12 o13 o14 o15 _;exact⟨_,rfl,rfl⟩
  | succ m ih =>
   intro i o1 o2 o3 o4 o5 o6 o7 o8 o9 o10 o11 o12 o13 o14 o15 h
   obtain⟨ρ1,e1,p1,p2,p3,p4,p5,p6,p7,p8,p9,p10,p11,p12,p13,p14,p15,rfl⟩:=step i o1 o2 o3 o4 o5 o6 o7 o8 o9 o10 o11 o12 o13 o14 o15 (by omega)
   obtain⟨ρ2,e2,h2⟩:=ih (i + 1) p1 p2 p3 p4 p5 p6 p7 p8 p9 p10 p11 p12 p13 p14 p15 (by omega)
   refine⟨ρ2,?_,h2⟩
   rw[bJ]
   exact bs e1 e2
 obtain⟨mn,hmn⟩:∃mn:Int,mn=if (ns.length:Int) < 8 then (ns.length:Int) else 8:=⟨_,rfl⟩
 have hb:0<=mn/\mn<=8:=by rw[hmn];split<;>omega
 obtain⟨ρ',e,_⟩:=walk (1 + mn).toNat 0 none none none none none none none none none none none none none none none (by omega)
 rw[hsc]at e
 have hlen:ev (pl.pg.ct 8) eb2 [some (.fz (.list (ns.map PyData.int))),none,none,none,none,none,none,none,none,none,none,none,none,none,none,none]=some (.val (It mn),[some (.fz (.list (ns.map PyData.int))),none,none,none,none,none,none,none,none,none,none,none,none,none,none,none]):=au (aa rfl (aa (au rfl rfl blen) ag)) rfl (by rw[hmn];rfl)
 exact⟨_,af rfl rfl (ab (s_frQ (gH (ai rfl hlen rfl rfl rfl) rfl (by omega)) e) (aj rfl)) rfl⟩
set_option maxHeartbeats 0
def lm:Str:="law_nearpool_k14_plans_looked_at"
open PySem.W in
def vi(n:Int):Value:=.int n 0
def vr(a:Addr):Value:=.ref a
def vs(x:Str)(t:Nat):Value:=.str x t
def nt(P:Params)(k:Str)(t:Nat)(v:Value):DictEntry:=⟨PyData.keyHash P k,.str k t,v⟩
def fo(d:Df)(m:Str)(t c:Nat):Obj:=⟨.type "function",none,.func (PySem.W.fnOf d.name d.qual (c9 d.st) (bP d.st) (aJ d.st) .none .none .none (.str m t) none (.ref c) .none),List.toArray []⟩
def cq(vs:List Value):Obj:=⟨.type "code",none,.fields (List.toArray vs),List.toArray []⟩
def cu(n q:Str)(t l a r T:Nat):Obj:=cq [vs n t,vs q (t+1),vs "/claim/cut.py" (t+2),vi l,vi a,vi 0,vi 0,vi 3,vr r,.bool true,vi 181,vr (r+1),.none,vr (r+2),vr (r+3),vr (r+4),vi T,vi l,vs "/claim/cut.py" (T+1)]
def cw(n q:Str)(t l a r T:Nat):Obj:=cq [vs n t,vs q (t+1),vs "/claim/cut.py" (t+2),vi l,vi a,vi 0,vi 0,vi 3,vr r,.bool true,vi 181,vr (r+1),.none,.none,.none,vr (r+2),vi T,vi l,vs "/claim/cut.py" (T+1)]
def KK(P:Params):Waa:=[(3,⟨(.type "dict"),none,(.dict (List.toArray [nt P "__name__" 165 (vs lm 320),nt P "__doc__" 166 .none,nt P "__package__" 167 .none,nt P "__loader__" 168 (.builtin "__main__.__loader__#opaque"),nt P "__spec__" 169 .none,nt P "__annotations__" 170 (vr 6),nt P "__builtins__" 171 (vr 4),nt P "__file__" 173 (vs "/claim/cut.py" 172),nt P "__cached__" 174 .none,nt P "NUMBERS" 190 (.int (100000000) 189),nt P "GREATEST_SMALL" 192 (.int (99) 191),nt P "is_number_below" 200 (vr 21),nt P "is_great" 207 (vr 28),nt P "greats_of" 213 (vr 33),nt P "falls" 220 (vr 40),nt P "MOST_WORDS" 222 (.int (100) 221),nt P "OVER_CELLS" 226 (.int (2) 225),nt P "WORD_CELLS" 228 (.int (2) 227),nt P "size_of" 237 (vr 47),nt P "has_over" 245 (vr 54),nt P "first_word" 254 (vr 61),nt P "placed" 260 (vr 66),nt P "is_pair" 267 (vr 73),nt P "is_pooled" 274 (vr 80),nt P "is_pool" 280 (vr 85),nt P "is_pools" 286 (vr 90),nt P "reaches" 297 (vr 97),nt P "all_served" 313 (vr 104),nt P "is_plan" 319 (vr 109),nt P "_law_cell_at" 329 (vr 116),nt P "_law_tape" 338 (vr 123),nt P "_law_take" 348 (vr 130),nt P "_law_great" 357 (vr 137),nt P "_law_rows" 374 (vr 144),nt P "_law_longs" 380 (vr 149),nt P "_law_reach" 389 (vr 156),nt P "_law_is_great" 396 (vr 163),nt P "_law_size" 405 (vr 170),nt P "_law_placed" 420 (vr 177),nt P "_law_any_plan" 426 (vr 182),nt P "_law_reaches" 432 (vr 187),nt P "_law_is_plan" 438 (vr 192),nt P "_law_between" 447 (vr 199),nt P "_law_filled" 453 (vr 204),nt P "_law_just_so" 459 (vr 209),nt P "law" 465 (vr 214)]) 46),List.toArray []⟩),
 (20,cu "is_number_below" "is_number_below" 193 4 2 15 198),
 (21,fo ck "nearpool.rows" 187 20),
 (27,cu "is_great" "is_great" 201 8 1 22 205),
 (28,fo gJ "nearpool.rows" 187 27),
 (32,cw "greats_of" "greats_of" 208 10 1 29 211),
 (33,fo fL "nearpool.rows" 187 32),
 (39,cu "falls" "falls" 214 12 1 34 218),
 (40,fo nj "nearpool.rows" 187 39),
 (46,cu "size_of" "size_of" 229 18 3 41 235),
 (47,fo iI "nearpool.places" 223 46),
 (53,cu "has_over" "has_over" 238 20 2 48 243),
 (54,fo gK "nearpool.places" 223 53),
 (60,cu "first_word" "first_word" 246 22 3 55 252),
 (61,fo eN "nearpool.places" 223 60),
 (65,cw "placed" "placed" 255 26 3 62 258),
 (66,fo kE "nearpool.places" 223 65),
 (72,cu "is_pair" "is_pair" 261 39 1 67 265),
 (73,fo iJ "nearpool.places" 223 72),
 (79,cu "is_pooled" "is_pooled" 268 41 1 74 272),
 (80,fo fM "nearpool.places" 223 79),
 (84,cw "is_pool" "is_pool" 275 43 2 81 278),
 (85,fo iK "nearpool.places" 223 84),
 (89,cw "is_pools" "is_pools" 281 52 2 86 284),
 (90,fo gL "nearpool.places" 223 89),
 (96,cu "reaches" "reaches" 287 56 3 91 295),
 (97,fo iL "nearpool.places" 223 96),
 (103,cu "all_served" "all_served" 298 59 5 98 311),
 (104,fo eO "nearpool.places" 223 103),
 (108,cw "is_plan" "is_plan" 314 65 4 105 317),
 (109,fo iM "nearpool.places" 223 108),
 (115,cu "_law_cell_at" "_law_cell_at" 322 75 2 110 327),
 (116,fo iN lm 320 115),
 (122,cu "_law_tape" "_law_tape" 330 77 2 117 336),
 (123,fo su lm 320 122),
 (129,cu "_law_take" "_law_take" 339 80 2 124 346),
 (130,fo sv lm 320 129),
 (136,cu "_law_great" "_law_great" 349 89 1 131 355),
 (137,fo nk lm 320 136),
 (143,cu "_law_rows" "_law_rows" 358 93 1 138 372),
 (144,fo sx lm 320 143),
 (148,cw "_law_longs" "_law_longs" 375 109 2 145 378),
 (149,fo nq lm 320 148),
 (155,cu "_law_reach" "_law_reach" 381 113 1 150 387),
 (156,fo nu lm 320 155),
 (162,cu "_law_is_great" "_law_is_great" 390 117 1 157 394),
 (163,fo eP lm 320 162),
 (169,cu "_law_size" "_law_size" 397 119 3 164 403),
 (170,fo sy lm 320 169),
 (176,cu "_law_placed" "_law_placed" 406 121 3 171 418),
 (177,fo gM lm 320 176),
 (181,cw "_law_any_plan" "_law_any_plan" 421 134 2 178 424),
 (182,fo gN lm 320 181),
 (186,cw "_law_reaches" "_law_reaches" 427 154 4 183 430),
 (187,fo fN lm 320 186),
 (191,cw "_law_is_plan" "_law_is_plan" 433 158 4 188 436),
 (192,fo fO lm 320 191),
 (198,cu "_law_between" "_law_between" 439 178 3 193 445),
 (199,fo iO lm 320 198),
 (203,cw "_law_filled" "_law_filled" 448 180 2 200 451),
 (204,fo kF lm 320 203),
 (208,cw "_law_just_so" "_law_just_so" 454 183 3 205 457),
 (209,fo iP lm 320 208),
 (213,cw "law" "law" 460 188 1 210 463),
 (214,fo D_law lm 320 213)]
def qv:Program:=PySem.W.view PySem.Challenge.pw_nearpool_k14_plans_looked_at [1,2,3,4,5,6,7,9,10,11,12,13,14,15,16,17,18,19,20,21,23,24,25,26,27,28,29,30,31,32,33,34,35,36,37,38,39]
open PySem.W PyProof.Rows in
theorem wc{p q:Program}{loose:List Str}{Xt:Shared->Bool}{α:Type}{Yf:Shared->α}{Ya:World->α}{N:Nat}{g0:Bool}(e:opening p=plainProg p.main.scope.names)(hN:Nat.ble 600 N=true)(f:∀s,fenceModules? p s=some s)
  (h:∀(w:World) (os:OsState),(topFrom treeTable p w N ⟨boot_heap w.params,Array.mk [],boot_drawn,boot_toks,os⟩).map (fun s=>(openSeen q loose (importedModules p.main.body) Xt g0 s,Yf s))=some (openGood q loose,Ya w)):LeftO p q loose Xt Yf Ya N g0:=fun w=>by
 obtain⟨⟨hh,gs,d,k,os⟩,e1,e2⟩:=aaL.mp (boot_open e hN f w)
 obtain⟨rfl,rfl,rfl,rfl⟩:hh=boot_heap w.params/\gs=Array.mk []/\d=boot_drawn/\k=boot_toks:=by simpa using e2
 unfold openEnds
 rw[e1]
 exact h w os
def hk:PySem.W.Hook:=PySem.W.kHook KK [3,20,21,27,28,32,33,39,40,46,47,53,54,60,61,65,66,72,73,79,80,84,85,89,90,96,97,103,104,108,109,115,116,122,123,129,130,136,137,143,144,148,149,155,156,162,163,169,170,176,177,181,182,186,187,191,192,198,199,203,204,208,209,213,214] (fun _=>by kernel_rfl)
abbrev xt(s:Shared):Bool:=PySem.W.xlAt qv [] s && PySem.W.recOk (PySem.W.RowW.records (PySem.Challenge.rw_nearpool_k14_plans_looked_at).row.toRowW) s
theorem left:PySem.W.LeftO PySem.Challenge.pw_nearpool_k14_plans_looked_at qv [] xt (PySem.W.Hook.obs hk) (PySem.W.Hook.val hk) 2156:=wc (by kernel_rfl) (by rfl) (fun s=>by kernel_rfl) (fun w os=>by kernel_rfl)
def dd:DefRec:=⟨"law",c9 D_law.st,bP D_law.st,aJ D_law.st,match D_law.st with | .FunctionDef _ _ _ _ _ _ _ _ _ p=>p | _=>⟨0,0,0,0⟩⟩
theorem said:(PySem.Challenge.rw_nearpool_k14_plans_looked_at).wellSaid=true:=by kernel_rfl
def tx(K:Waa):L2.Sp:=fun vs H Q _=>∃(a:Addr) (ns:List Int),vs=[.ref a]/\SqL K H a (ns.map V.int)/\ns.length<=63/\∀H',Q (.bl true) H'
def CZ:Option (Option Value)->Bool
 | some none=>true
 | _=>false
def z8(f:Nat):Option (Option Value)->Bool
 | some (some (.ref g))=>g == f
 | _=>false
def EB:Option (Option Value)->Bool
 | some (some (.builtin s))=>decide (s="object.__setattr__")
 | _=>false
theorem tz{o:Option (Option Value)}(h:CZ o=true):o=some none:=by
 unfold CZ at h;split at h
 ·rfl
 ·cases h
theorem jG{f:Nat}{o:Option (Option Value)}(h:z8 f o=true):o=some (some (.ref f)):=by
 unfold z8 at h;split at h
 ·rw[beq_iff_eq.mp h]
 ·cases h
theorem zY{o:Option (Option Value)}(h:EB o=true):o=some (some (.builtin "object.__setattr__")):=by
 unfold EB at h;split at h
 ·rw[Daa h]
 ·cases h
open PySem.W in
def EC(K:Frag)(C:Addr):Bool:=plainGet K C Str.empty && (hasDictIn K C && (plainOver K C && EB (findIn K (.ref C) "__setattr__")))
theorem tE{K:Waa}{C:Addr}(h:EC K C=true):Cls K C:=by
 obtain⟨h1,h⟩:=an2 h;obtain⟨h2,h⟩:=an2 h;obtain⟨h3,h⟩:=an2 h
 exact⟨h1,h2,h3,zY h⟩
open PySem.W in
def FX(K:Frag)(d:Df)(f c:Nat):Kd->Bool
 | .fn=>codeIn K (.ref c) d.qual && (keepIn K (.ref f) && z8 f (nsIn K mainGlobals d.name))
 | .me x=>codeIn K (.ref c) d.qual && (keepIn K (.ref f) && (EC K (aR K x) && (z8 f (findIn K (.ref (aR K x)) d.name) && isFn K (.ref f))))
 | .ini x=>codeIn K (.ref c) d.qual && (keepIn K (.ref f) && (makesIn K (aR K x) && (z8 f (findIn K (.ref (aR K x)) "__init__") && (isFn K (.ref f) && (keepIn K (.ref (aR K x)) && z8 (aR K x) (nsIn K mainGlobals x))))))
theorem fk{K:Waa}{h:Heap}{mg:Str->Option Value}(X:K.In h)(G:h.Ns mainGlobals mg){d:Df}{kd:Kd}(m:Str)(t c f:Nat)(l:K.lookup f=some (fo d m t c))(q:FX K d f c kd=true)
  (b:∀us:List Value,us.length=d.ps.length->bindArgs (PySem.W.fnOf d.name d.qual (c9 d.st) (bP d.st) (aJ d.st) .none .none .none (.str m t) none (.ref c) .none) ⟨us,[]⟩=Pure.pure (d.ps.zip us)):wL K mg (d,kd):=by
 cases kd with
 | fn =>
  obtain⟨h1,q⟩:=an2 q;obtain⟨h2,h3⟩:=an2 q
  exact⟨f,_,i6 l h1 h2,.all b,abU X G (jG h3),h2⟩
 | me x =>
  obtain⟨h1,q⟩:=an2 q;obtain⟨h2,q⟩:=an2 q;obtain⟨h3,q⟩:=an2 q;obtain⟨h4,h5⟩:=an2 q
  exact⟨f,_,i6 l h1 h2,.all b,tE h3,jG h4,h5,h2⟩
 | ini x =>
  obtain⟨h1,q⟩:=an2 q;obtain⟨h2,q⟩:=an2 q;obtain⟨h3,q⟩:=an2 q;obtain⟨h4,q⟩:=an2 q;obtain⟨h5,q⟩:=an2 q;obtain⟨h6,h7⟩:=an2 q
  exact⟨f,_,i6 l h1 h2,.all b,⟨h3,jG h4,h5,h6⟩,abU X G (jG h7)⟩
theorem fm{α:Type}{P:α->Prop}{x:α}{l:List α}(h:P x)(k:∀y∈l,P y):∀y∈x::l,P y:=List.forall_mem_cons.mpr ⟨h,k⟩
theorem fC{K:Waa}{h:Heap}{mg:Str->Option Value}(X:K.In h)(G:h.Ns mainGlobals mg){x:Str}{k:Int}(t:Nat)(e:PySem.W.nsIn K mainGlobals x=some (some (.int k t))):∃v u,mg x=some u/\RelV v u/\∀S H,Fz K S H v (.int k):=⟨.int k,_,abU X G e,⟨_,rfl⟩,fun _ _=>.int _⟩
theorem b1{α:Type}{P:List α->Prop}(h:∀a0,P [a0])(l:List α)(e:l.length=1):P l:=by
 match l,e with
 | [a0],_=>exact h a0
theorem b2{α:Type}{P:List α->Prop}(h:∀a0 a1,P [a0,a1])(l:List α)(e:l.length=2):P l:=by
 match l,e with
 | [a0,a1],_=>exact h a0 a1
theorem b3{α:Type}{P:List α->Prop}(h:∀a0 a1 a2,P [a0,a1,a2])(l:List α)(e:l.length=3):P l:=by
 match l,e with
 | [a0,a1,a2],_=>exact h a0 a1 a2
theorem b4{α:Type}{P:List α->Prop}(h:∀a0 a1 a2 a3,P [a0,a1,a2,a3])(l:List α)(e:l.length=4):P l:=by
 match l,e with
 | [a0,a1,a2,a3],_=>exact h a0 a1 a2 a3
theorem b5{α:Type}{P:List α->Prop}(h:∀a0 a1 a2 a3 a4,P [a0,a1,a2,a3,a4])(l:List α)(e:l.length=5):P l:=by
 match l,e with
 | [a0,a1,a2,a3,a4],_=>exact h a0 a1 a2 a3 a4
theorem gives {w:World} {mg:Str->Option Value} {fa:Addr} {h:Heap} (X:(KK w.params).In h) (G:h.Ns mainGlobals mg) (hmg:mg "law"=some (.ref fa)) :
  ∃fd:FuncData,(∀(s:Shared) (v:Value),BindsTo s fd ⟨[v],[]⟩ [("_law_script",v)])/\∀base:Heap,(KK w.params).In base->base.Ns mainGlobals mg->FnOk (PySem.Challenge.rw_nearpool_k14_plans_looked_at).prog w (KK w.params) mg base CX0 10 fa fd ["_law_script"] (tx (KK w.params)):=by
 have M:Md (KK w.params) mg pl.tb pl.pg pl.D:=Pl.md Cz (fm (fk X G "nearpool.rows" 187 20 21 (by kernel_rfl) (by kernel_rfl) (b2 fun _ _=>rfl))
  (fm (fk X G "nearpool.rows" 187 27 28 (by kernel_rfl) (by kernel_rfl) (b1 fun _=>rfl))
  (fm (fk X G "nearpool.rows" 187 32 33 (by kernel_rfl) (by kernel_rfl) (b1 fun _=>rfl))
  (fm (fk X G "nearpool.rows" 187 39 40 (by kernel_rfl) (by kernel_rfl) (b1 fun _=>rfl))
  (fm (fk X G "nearpool.places" 223 46 47 (by kernel_rfl) (by kernel_rfl) (b3 fun _ _ _=>rfl))
  (fm (fk X G "nearpool.places" 223 53 54 (by kernel_rfl) (by kernel_rfl) (b2 fun _ _=>rfl))
  (fm (fk X G "nearpool.places" 223 60 61 (by kernel_rfl) (by kernel_rfl) (b3 fun _ _ _=>rfl))
  (fm (fk X G "nearpool.places" 223 65 66 (by kernel_rfl) (by kernel_rfl) (b3 fun _ _ _=>rfl))
  (fm (fk X G "nearpool.places" 223 72 73 (by kernel_rfl) (by kernel_rfl) (b1 fun _=>rfl))
  (fm (fk X G "nearpool.places" 223 79 80 (by kernel_rfl) (by kernel_rfl) (b1 fun _=>rfl))
  (fm (fk X G "nearpool.places" 223 84 85 (by kernel_rfl) (by kernel_rfl) (b2 fun _ _=>rfl))
  (fm (fk X G "nearpool.places" 223 89 90 (by kernel_rfl) (by kernel_rfl) (b2 fun _ _=>rfl))
  (fm (fk X G "nearpool.places" 223 96 97 (by kernel_rfl) (by kernel_rfl) (b3 fun _ _ _=>rfl))
  (fm (fk X G "nearpool.places" 223 103 104 (by kernel_rfl) (by kernel_rfl) (b5 fun _ _ _ _ _=>rfl))
  (fm (fk X G "nearpool.places" 223 108 109 (by kernel_rfl) (by kernel_rfl) (b4 fun _ _ _ _=>rfl))
  (fm (fk X G lm 320 115 116 (by kernel_rfl) (by kernel_rfl) (b2 fun _ _=>rfl))
  (fm (fk X G lm 320 122 123 (by kernel_rfl) (by kernel_rfl) (b2 fun _ _=>rfl))
  (fm (fk X G lm 320 129 130 (by kernel_rfl) (by kernel_rfl) (b2 fun _ _=>rfl))
  (fm (fk X G lm 320 136 137 (by kernel_rfl) (by kernel_rfl) (b1 fun _=>rfl))
  (fm (fk X G lm 320 143 144 (by kernel_rfl) (by kernel_rfl) (b1 fun _=>rfl))
  (fm (fk X G lm 320 148 149 (by kernel_rfl) (by kernel_rfl) (b2 fun _ _=>rfl))
  (fm (fk X G lm 320 155 156 (by kernel_rfl) (by kernel_rfl) (b1 fun _=>rfl))
  (fm (fk X G lm 320 162 163 (by kernel_rfl) (by kernel_rfl) (b1 fun _=>rfl))
  (fm (fk X G lm 320 169 170 (by kernel_rfl) (by kernel_rfl) (b3 fun _ _ _=>rfl))
  (fm (fk X G lm 320 176 177 (by kernel_rfl) (by kernel_rfl) (b3 fun _ _ _=>rfl))
  (fm (fk X G lm 320 181 182 (by kernel_rfl) (by kernel_rfl) (b2 fun _ _=>rfl))
  (fm (fk X G lm 320 186 187 (by kernel_rfl) (by kernel_rfl) (b4 fun _ _ _ _=>rfl))
  (fm (fk X G lm 320 191 192 (by kernel_rfl) (by kernel_rfl) (b4 fun _ _ _ _=>rfl))
  (fm (fk X G lm 320 198 199 (by kernel_rfl) (by kernel_rfl) (b3 fun _ _ _=>rfl))
  (fm (fk X G lm 320 203 204 (by kernel_rfl) (by kernel_rfl) (b2 fun _ _=>rfl))
  (fm (fk X G lm 320 208 209 (by kernel_rfl) (by kernel_rfl) (b3 fun _ _ _=>rfl))
  (fm (fk X G lm 320 213 214 (by kernel_rfl) (by kernel_rfl) (b1 fun _=>rfl))
  (fun _ h=>by cases h))))))))))))))))))))))))))))))))) (fm (fC X G 191 (by kernel_rfl))
  (fm (fC X G 221 (by kernel_rfl))
  (fm (fC X G 189 (by kernel_rfl))
  (fm (fC X G 225 (by kernel_rfl))
  (fm (fC X G 227 (by kernel_rfl))
  (fun _ h=>by cases h))))))
  (fun x hx=>PySem.W.mg_none_of X G (tz (aaP.mp (by kernel_rfl:(pl.nog.all fun x=>CZ (PySem.W.nsIn (KK w.params) mainGlobals x))=true) x hx)))
  (fun z hz=>have q:=an2 (aaP.mp (by kernel_rfl:(pl.fld.all fun z=>EC (KK w.params) (aR (KK w.params) z.1) && CZ (PySem.W.findIn (KK w.params) (.ref (aR (KK w.params) z.1)) z.2))=true) z hz);⟨tE q.1,tz q.2⟩)
 have e:=hmg.symm.trans (abU X G (by kernel_rfl:PySem.W.nsIn (KK w.params) mainGlobals "law"=some (some (.ref 214))))
 cases e
 have F:Fun (KK w.params) D_law.name D_law.qual D_law.st 214 _:=i6 (by kernel_rfl:(KK w.params).lookup 214=some (fo D_law lm 320 213)) (by kernel_rfl) (by kernel_rfl)
 exact⟨_,fun s v=>.of_eq rfl,fun base _ _=>M.law (n:=9) (j:=Cw) (d:=D_law) rfl F pure⟩
theorem walk{l:PySem.W.OpenLaw}{q:Program}{loose:List Str}{XP:(Str->Option Value)->Heap->Prop}{YP:World->Heap->Prop}{d:DefRec}{K:Params->Waa}(hn:l.most=some 63)(hdf:d.params.defaults=[])
  (hY:∀(w:World) (h:Heap),YP w h->(K w.params).In h)
  (F:∀(w:World) (mg:Str->Option Value) (fa:Addr) (h:Heap),(K w.params).In h->h.Ns mainGlobals mg->mg d.name=some (.ref fa) ->
   ∃fd:FuncData,(∀(s:Shared) (u:Value),BindsTo s fd ⟨[u],[]⟩ [("_law_script",u)])/\∀base:Heap,(K w.params).In base->base.Ns mainGlobals mg->FnOk l.prog w (K w.params) mg base CX0 10 fa fd ["_law_script"] (tx (K w.params))) :
  PySem.W.WalkO q loose XP YP l.row.toRowW d [] (fun f vs=>PySem.call f vs) :=
 L2.walk_of (n:=63) (k:=10) (x:="_law_script") (CX:=fun _=>CX0) (sp:=fun w=>tx (K w.params)) hn (by decide) hdf ⟨rfl,by decide,by decide,rfl⟩ hY F (fun _ _ a ns hl _ hS=>⟨a,ns,rfl,hS,hl,fun _=>rfl⟩) fun _ _ _ _ _ z=>z
end Np
open PySem PySem.W PyProof.Rows
set_option maxRecDepth 100000 in
set_option maxHeartbeats 0 in
theorem PySem.Challenge.cw_nearpool_k14_plans_looked_at_holds : PySem.Challenge.rw_nearpool_k14_plans_looked_at.Holds := by
 w_on
 refine holds_law Np.said fun said=>?_
 refine holds_open (q:=Np.qv) (loose:=[]) (Xt:=Np.xt) (XP:=XL Np.qv []) (Yf:=Hook.obs Np.hk) (Ya:=Hook.val Np.hk) (YP:=Hook.says Np.hk) (N:=2156) (d:=Np.dd) (kwd:=[]) Np.left (Hook.of Np.hk) (Hook.keeps Np.hk) (fun s e=>xl_of s (abG.mp e).1) XL.keeps (by kernel_rfl) (by kernel_rfl) (by kernel_rfl) (fun s e=>recFacts_of (abG.mp e).2) (by rfl) said (by kernel_rfl) ⟨rfl,rfl,rfl,rfl,rfl,by decide +kernel⟩ ?hw ?hc
 case hw=>w_witness2
 case hc=>exact Np.walk (l:=PySem.Challenge.rw_nearpool_k14_plans_looked_at) (K:=Np.KK) (d:=Np.dd) rfl (by kernel_rfl) (fun w h Y=>kIn_of Y) (fun w mg fa h KX G hmg=>Np.gives KX G hmg)
