import PyProof.Rows.All
import Wide.All
import OpenK.AllK
import Wide.FinOn
import Lean
import PyProof.EqAt
import PyProof.EqKinds
import PyProof.TupleCall
import PyProof.Draws
import PyProof.ZipIter
import PyProof.SeqI3
import PyProof.CallStr
import PyProof.StrHeap
import PyProof.ReprBulk
import PyProof.Rows.ListRangeD
import PyProof.EnumFor
import PyProof.EnumStmt
import PyProof.EnumMake
import PyProof.AutoListH
import PyProof.RangeFor
import PyProof.Rows.Range3
import KE.KUnpack
import PyProof.ReprRoads
import PyProof.ReprLen
import PyProof.FitsInt
import PyProof.DictCompW
import KE.KDictSum
import PyProof.NeKinds
import PyProof.SumWalk
import PySem.Challenge.RW_nearpool_k28_rows_laid_into_cells
set_option compiler.extract_closed false
set_option genSizeOf false
set_option Elab.async false
set_option linter.all false
set_option maxRecDepth 100000
noncomputable section
def Daa:=@of_decide_eq_true
def Dab:=@decide_eq_false
def Dac:=@decide_eq_true
abbrev Waa:=PySem.W.Frag
def aaa:=@List.mem_cons
def aab:=@List.length_map
def aac:=@List.append_assoc
def aad:=@List.mem_append_right
def aae:=@Bool.false_ne_true
def aaf:=@List.mem_append_left
def aag:=@List.mem_cons_self
def aah:=@Nat.le_refl
def aai:=@List.length_append
def aaj:=@List.mem_cons_of_mem
def aak:=@List.getElem?_eq_getElem
def aal:=@List.map_cons
def aam:=@List.length_cons
def aan:=@List.mem_append
def aao:=@List.getElem?_eq_some_iff
def aap:=@List.append_nil
def aaq:=@List.not_mem_nil
def aar:=@List.size_toArray
def aas:=@Nat.ne_of_lt
def aat:=@Nat.le_trans
def aau:=@List.mem_map
def aav:=@List.map_append
def aaw:=@List.perm_middle
def aax:=@List.getElem?_map
def aay:=@Nat.lt_of_lt_of_le
def aaz:=@List.nodup_append
def aaA:=@List.nodup_cons
def aaB:=@Bool.and_eq_true
def aaC:=@Option.some.inj
def aaD:=@List.nil_append
def aaE:=@List.set_cons_succ
def aaF:=@List.mem_singleton
def aaG:=@List.cons_append
def aaH:=@Nat.zero_le
def aaI:=@List.mem_of_getElem?
def aaJ:=@List.replicate_succ
def aaK:=@List.map_nil
def aaL:=@Option.map_eq_some_iff
def aaM:=@Option.bind_eq_some_iff
def aaN:=@Ne.symm
def aaO:=@List.length_singleton
def aaP:=@List.find?_cons
def aaQ:=@List.nodup_nil
def aaR:=@List.map_map
def aaS:=@Nat.le_of_lt
def aaT:=@Int.toNat_natCast
def aaU:=@Nat.zero_add
def aaV:=@List.any_eq_true
def aaW:=@List.getElem?_set_self
def aaX:=@List.getElem?_set_ne
def aaY:=@List.length_take
def aaZ:=@List.any_cons
def aa0:=@List.lookup_cons
def aa1:=@List.perm_append_comm
def aa2:=@Nat.lt_irrefl
def aa3:=@List.mem_filter
def aa4:=@Nat.ne_of_gt
def aa5:=@List.of_mem_zip
def aa6:=@Option.isSome_iff_exists
def aa7:=@PySem.mem_of_lookup
def aa8:=@List.getElem?_append_right
def aa9:=@List.filter_cons
def aba:=@List.getD_eq_getElem?_getD
def abb:=@List.Perm.append_left
def abc:=@List.pairwise_cons
def abd:=@List.findIdx?_cons
def abe:=@List.flatten_cons
def abf:=@List.all_eq_true
def abg:=@Bool.true_and
def abh:=@List.length_filter_le
def abi:=@Sum.inl.inj
def abj:=@PyProof.Rows.callWith_type1
def abk:=@List.length_drop
def abl:=@Nat.le_succ
def abm:=@Nat.lt_succ_self
def abn:=@Option.map_some
def abo:=@List.zip_cons_cons
def abp:=@Bool.and_eq_true_iff
def abq:=@List.drop_eq_getElem_cons
def abr:=@Bool.or_eq_true
def abt:=@Int.emod_nonneg
def abu:=@Int.emod_lt_of_pos
def abv:=@List.pairwise_append
def abw:=@List.set_comm
def abx:=@Bool.eq_iff_iff
def aby:=@List.length_replicate
def abz:=@Bool.or_false
def abA:=@List.length_set
def abB:=@Nat.lt_succ_of_lt
def abC:=@Nat.lt_trans
def abD:=@Nat.le_add_right
def abE:=@List.length_nil
def abF:=@Nat.min_eq_left
def abG:=@List.getElem?_zip_eq_some
def abH:=@PySem.F.plainAttrs_list
def abI:=@Bool.not_eq_true'
def abJ:=@Int.le_refl
def abK:=@List.getElem?_cons_succ
def abL:=@Int.zero_add
def abM:=@List.getElem?_eq_none
def abN:=@List.countP_cons
def abO:=@List.countP_le_length
def abP:=@Nat.sub_self
def abQ:=@List.length_pos_of_mem
def abR:=@List.length_zip
def abS:=@PySem.W.mg_of
def abT:=@Sum.inr.inj
def abU:=@List.mem_range
def abV:=@List.filterMap_cons
def abW:=@Array.length_toList
def abX:=@Bool.false_and
def abY:=@List.getElem?_append_left
def abZ:=@List.forIn_cons
def ab0:=@Option.isSome_map
def ab1:=@PySem.F.slot_dict_get
def ab2:=@List.take_of_length_le
def ab3:=@List.pairwise_map
def ab4:=@List.set_cons_zero
def ab5:=@List.append_of_mem
def ab6:=@List.map_take
def ab7:=@List.perm_append_comm_assoc
def ab8:=@List.ext_getElem?
def ab9:=@Classical.axiomOfChoice
def aca:=@List.drop_length
def acb:=@List.isEmpty_iff
def acd:=@Nat.add_le_add_left
def ace:=@List.filter_cons_of_pos
def acf:=@List.filter_cons_of_neg
def acg:=@Bool.false_eq_true
def ach:=@List.getElem?_eq_none_iff
def aci:=@PySem.W.cellsFrom_some
def acj:=@List.getElem?_replicate
def ack:=@Array.getElem?_toList
def acl:=@Nat.add_sub_cancel_left
def acm:=@Nat.add_left_cancel
def acn:=@PySem.F.entry_dict_get
def aco:=@PySem.F.args_dict_get_2
def acp:=@List.Perm.append_right
def acq:=@List.zip_eq_zipWith
def acr:=@List.mem_of_mem_take
def acs:=@Bool.or_eq_false_iff
def acu:=@List.map_congr_left
def acv:=@List.zipWith_cons_cons
def acw:=@List.length_zipWith
def acx:=@Nat.add_le_add_right
def acy:=@Nat.le_of_ble_eq_true
def acz:=@Nat.mul_le_mul_left
def acA:=@List.getElem?_range
def acB:=@List.getElem?_concat_length
def acC:=@List.take_append_drop
def acD:=@List.countP_eq_length_filter
def acE:=@List.countP_eq_length
namespace L2
open PySem PySem.Spec PyProof.Rows
section
abbrev Key:=Sum Int Str
def keyIs:Key->Value->Bool
 | .inl k,v=>Value.isInt k v
 | .inr x,v=>Value.isStrOf x v
def keyH(w:World):Key->Int
 | .inl k=>hashInt k
 | .inr x=>hashStr w x
theorem aQ:∀{k:Key} {v:Value},keyIs k v=true->(∃i t,k=Sum.inl i/\v=Value.int i t)\/(∃x t,k=Sum.inr x/\v=Value.str x t)
 | .inl i,v,h=>by obtain⟨t,e⟩:=Value.isInt_shape h;exact .inl ⟨i,t,rfl,e⟩
 | .inr x,v,h=>by obtain⟨t,e⟩:=Value.isStrOf_shape h;exact .inr ⟨x,t,rfl,e⟩
theorem pd(i:Int)(t:Tok):keyIs (.inl i) (.int i t)=true:=by simp[keyIs,Value.isInt]
theorem pe(x:Str)(t:Tok):keyIs (.inr x) (.str x t)=true:=by simp[keyIs,Value.isStrOf]
theorem yW(a b:Int):decide ((Sum.inl a:Key)=Sum.inl b)=(a == b):=by
 by_cases e:a=b
 ·subst e;simp
 ·have h:¬ (Sum.inl a:Key)=Sum.inl b:=λq=>e (abi q);rw[Dab h];exact (beq_eq_false_iff_ne.mpr e).symm
theorem yX(a b:Str):decide ((Sum.inr a:Key)=Sum.inr b)=decide (a=b):=by
 by_cases e:a=b
 ·subst e;simp
 ·have h:¬ (Sum.inr a:Key)=Sum.inr b:=λq=>e (abT q);rw[Dab h,Dab e]
theorem yY(a:Int)(b:Str):decide ((Sum.inl a:Key)=Sum.inr b)=false:=Dab (λq=>nomatch q)
theorem yZ(a:Str)(b:Int):decide ((Sum.inr a:Key)=Sum.inl b)=false:=Dab (λq=>nomatch q)
def aA(prog:Program)(w:World):PySem.KeyKind prog w Key where
 is:=keyIs
 hash:=keyH w
 inj:=λv a b f d=>by
  rcases aQ f with ⟨i,t,rfl,rfl⟩ | ⟨x,t,rfl,rfl⟩
  ·rcases aQ d with ⟨j,u,rfl,e⟩ | ⟨y,u,rfl,e⟩
   ·injection e with e1 _;rw[e1]
   ·exact nomatch e
  ·rcases aQ d with ⟨j,u,rfl,e⟩ | ⟨y,u,rfl,e⟩
   ·exact nomatch e
   ·injection e with e1 _;rw[e1]
 byValue:=λk v h=>by rcases aQ h with ⟨i,t,rfl,rfl⟩ | ⟨x,t,rfl,rfl⟩<;>rfl
 pyHash:=λc h=>by
  rcases aQ c with ⟨i,t,rfl,rfl⟩ | ⟨x,t,rfl,rfl⟩
  ·exact wpAny_pyHash_int h
  ·exact wpAny_pyHash_str h
 eqBool:=λg c h=>by
  rcases aQ g with ⟨i,t,rfl,rfl⟩ | ⟨x,t,rfl,rfl⟩
  ·rcases aQ c with ⟨j,u,rfl,rfl⟩ | ⟨y,u,rfl,rfl⟩
   ·rw[yW]at h;exact wpAny_eqBool_int h
   ·rw[yY]at h;exact SeqAt.EqAt.int_str i t y u _ _ _ _ h
  ·rcases aQ c with ⟨j,u,rfl,rfl⟩ | ⟨y,u,rfl,rfl⟩
   ·rw[yZ]at h;exact SeqAt.EqAt.str_int x t j u _ _ _ _ h
   ·rw[yX]at h;exact wpAny_eqBool_str h
 «strs»:=λk x t v h=>by
  rcases aQ h with ⟨i,u,rfl,e⟩ | ⟨y,u,rfl,e⟩
  ·exact nomatch e
  ·injection e with e1 _;subst e1;cases v<;>rfl
theorem kh(prog:Program)(w:World)(i:Int)(t:Tok):(aA prog w).is (.inl i) (.int i t)=true:=pd i t
theorem mixKind_str(prog:Program)(w:World)(x:Str)(t:Tok):(aA prog w).is (.inr x) (.str x t)=true:=pe x t
end
section
inductive V where
 | non | bl (b:Bool) | int (i:Int) | str (x:Str) | byt (b:Array UInt8) | flt (b:UInt64) | ref (a:Addr) | ty (n:String)
 deriving DecidableEq
def RelV:V->Value->Prop
 | .non,u=>u=Value.none
 | .bl b,u=>u=Value.bool b
 | .int i,u=>∃t,u=Value.int i t
 | .str x,u=>∃t,u=Value.str x t
 | .byt b,u=>∃t,u=Value.bytes b t
 | .flt b,u=>∃t,u=Value.float b t
 | .ref a,u=>u=Value.ref a
 | .ty n,u=>u=Value.type n
abbrev Vals:List V->List Value->Prop:=Paired RelV
theorem Vals.length{xs:List V}{us:List Value}(r:Vals xs us):xs.length=us.length:=Paired.length r
theorem Vals.get:∀{xs:List V} {us:List Value} {i:Nat} {x:V},Vals xs us->xs[i]?=some x->∃u,us[i]?=some u/\RelV x u
 | _,_,_,_,.nil,e=>by simp at e
 | _,_,0,_,.cons r _,e=>by simp at e;subst e;exact⟨_,rfl,r⟩
 | _,_,i + 1,x,.cons _ t,e=>by obtain⟨u,a,b⟩:=Vals.get (i:=i) (x:=x) t (by simpa using e);exact⟨u,by simpa using a,b⟩
theorem Vals.set(r:RelV x u):∀{xs:List V} {us:List Value} (i:Nat),Vals xs us->Vals (xs.set i x) (us.set i u)
 | _,_,_,.nil=>.nil
 | _,_,0,.cons _ t=>.cons r t
 | _,_,i + 1,.cons q t=>.cons q (Vals.set r i t)
theorem Vals.append:∀{xs ys:List V} {us ws:List Value},Vals xs us->Vals ys ws->Vals (xs++ys) (us++ws)
 | _,_,_,_,.nil,s=>s
 | _,_,_,_,.cons r t,s=>.cons r (Vals.append t s)
theorem Vals.take:∀{xs:List V} {us:List Value} (n:Nat),Vals xs us->Vals (xs.take n) (us.take n)
 | _,_,0,_=>.nil
 | _,_,_ + 1,.nil=>.nil
 | _,_,n + 1,.cons r t=>.cons r (Vals.take n t)
theorem Vals.drop:∀{xs:List V} {us:List Value} (n:Nat),Vals xs us->Vals (xs.drop n) (us.drop n)
 | _,_,0,r=>r
 | _,_,_ + 1,.nil=>.nil
 | _,_,n + 1,.cons _ t=>Vals.drop n t
theorem Vals.none_of:∀{xs:List V} {us:List Value} {i:Nat},Vals xs us->xs[i]?=none->us[i]?=none:=λ{xs us i} r e=>by have a:=r.length;have b:xs.length<=i:=ach.mp e;exact ach.mpr (by omega)
def RelO:Option V->Option Value->Prop
 | some v,some u=>RelV v u
 | none,none=>True
 | _,_=>False
def KV{a:Type}:List (a × V)->List (a × Value)->Prop:=Paired λ(p:a × V) (q:a × Value)=>p.1=q.1/\RelV p.2 q.2
def kV:Key->V
 | .inl i=>.int i
 | .inr x=>.str x
inductive HO where
 | lst (xs:List V)
 | tup (xs:List V)
 | dK (kvs:List (Key × V)) | dT (kvs:List (List Key × V))
 | set (S:Int->Bool) (n:Nat)
 | ins (C dx:Addr) (fs:List (Str × V))
 | own (x:Addr)
 | xd (fs:List (Str × V))
 | met (f x:Addr)
 | rng (lo hi:Int)
 | frz (o:Obj) (u:HO)
 | tbl (ps:Array Value)
 | ext (φ:Heap->Prop)
abbrev Hp:=Addr->Option HO
def upd(H:Hp)(a:Addr)(o:HO):Hp:=λb=>if b=a then some o else H b
theorem aB{H:Hp}:upd H a o a=some o:=by unfold upd;rw[if_pos rfl]
theorem upd_ne{H:Hp}(h:b≠a):upd H a o b=H b:=by unfold upd;rw[if_neg h]
theorem u6:upd (upd H a o) a u=upd H a u:=by funext b;unfold upd;split<;>rfl
theorem BX{H:Hp}(h:H a=some o)(h':H b=some u)(d:o≠u):a≠b:=by intro e;subst e;rw[h]at h';exact d (aaC h')
theorem ak{H:Hp}(h:H a=some o)(h':H b=none):a≠b:=by intro e;subst e;rw[h]at h';cases h'
section
variable(P:Program)(w:World)
def Fk(h:Heap)(a:Addr)(items:Array Value):Prop:=∃o,h.get? a=some o/\o.cls=.type "tuple"/\∃n,o.data=.seq items n/\o.dict=none
def ObjOk(H:Hp)(h:Heap)(a:Addr):HO->Prop
 | .lst xs=>xs.length<=sizeLine/\∃(b:List Value) (n:Nat),Vals xs b/\h.get? a=some { cls:=.type "list",data:=.seq b.toArray n }
 | .tup xs=>xs.length<=sizeLine/\∃b:List Value,Vals xs b/\Fk h a b.toArray
 | .dK kvs=>kvs.length<=sizeLine/\(a == sysModules)=false/\∃i,KV kvs i/\h.DictOf (aA P w) a i
 | .dT kvs=>kvs.length<=sizeLine/\(a == sysModules)=false/\∃xs:List (List Key × Addr × Value),
   Paired (λ(p:List Key × V) (q:List Key × Addr × Value)=>p.1=q.1/\H q.2.1=some (.tup (p.1.map kV))/\RelV p.2 q.2.2) kvs xs /\
   ∃o d j,h.get? a=some o/\o.ExactDict/\o.data=.dict d j/\d.toList=xs.map (entryOfKey (tupleKind (aA P w)))/\(xs.map (·.1)).Nodup
 | .set S n=>h.SetOf (intKind P w) a S n
 | .ins C dx fs=>H dx=some (.own a)/\fs.length<=1000/\dx≠a/\h.get? a=some (PySem.W.instObj C dx) /\
   ∃c,h.Ns1 dx c/\(∀f,RelO (fs.lookup f) (c f))/\PySem.Within c (fs.map (·.1))
 | .own _=>∃o,h.get? a=some o
 | .xd fs=>∃c,h.Ns1 a c/\∀f,RelO (fs.lookup f) (c f)
 | .rng lo hi=>∃t u v,h.get? a=some { cls:=.type "range",data:=.fields #[.int lo t,.int hi u,.int 1 v] }
 | .frz o u=>h.get? a=some o/\ObjOk H h a u
 | .tbl ps=>h.get? a=some { cls:=.none,data:=.fields ps }
 | .met f x=>h.get? a=some (PySem.W.methodObj (.ref f) (.ref x))
 | .ext φ=>φ h/\(∃o,h.get? a=some o)/\∀e g:Heap,φ e->(∀o,e.get? a=some o->g.get? a=some o)->φ g
def HOk(H:Hp)(h:Heap):Prop:=∀a o,H a=some o->ObjOk P w H h a o
end
section
variable{P:Program}{w:World}{H H':Hp}{h h':Heap}{a:Addr}{o:HO}
theorem ObjOk.lt(x:ObjOk P w H h a o):a < h.objs.size:=by
 cases o with
 | lst c=>obtain⟨_,_,_,_,e⟩:=x;exact Heap.lt_size e
 | tup c=>obtain⟨_,_,_,o,e,_⟩:=x;exact Heap.lt_size e
 | dK b=>obtain⟨_,_,_,_,o,_,_,e,_⟩:=x;exact Heap.lt_size e
 | dT b=>obtain⟨_,_,_,_,o,_,_,e,_⟩:=x;exact Heap.lt_size e
 | set S n=>obtain⟨o,_,_,_,e,_⟩:=x;exact Heap.lt_size e
 | ins C m d=>obtain⟨_,_,_,e,_⟩:=x;exact Heap.lt_size e
 | own y=>obtain⟨_,e⟩:=x;exact Heap.lt_size e
 | xd d=>obtain⟨_,⟨_,_,_,e,_⟩,_⟩:=x;exact Heap.lt_size e
 | rng g i=>obtain⟨_,_,_,e⟩:=x;exact Heap.lt_size e
 | frz k u=>obtain⟨e,_⟩:=x;exact Heap.lt_size e
 | tbl l=>exact Heap.lt_size (show h.get? a=some _ from x)
 | met f y=>exact Heap.lt_size (show h.get? a=some _ from x)
 | ext j=>obtain⟨_,⟨_,e⟩,_⟩:=x;exact Heap.lt_size e
theorem Paired.mapP{c d:Type}{F G:c->d->Prop}:∀{l₁:List c} {l₂:List d},Paired F l₁ l₂->(∀a b,F a b->G a b)->Paired G l₁ l₂
 | _,_,.nil,_=>.nil
 | _,_,.cons r t,f=>.cons (f _ _ r) (Paired.mapP t f)
theorem ObjOk.stay(x:ObjOk P w H h a o)(k:∀b u,(b=a\/H b=some (.own a))->h.get? b=some u->h'.get? b=some u)
  (L:∀b,H b=some (.own a)->H' b=some (.own a)) (M:∀b xs,H b=some (.tup xs)->H' b=some (.tup xs)):ObjOk P w H' h' a o:=by
 induction o with
 | lst xs=>obtain⟨z,l,n,r,e⟩:=x;exact⟨z,l,n,r,k _ _ (.inl rfl) e⟩
 | tup xs=>obtain⟨z,l,r,g,e,c⟩:=x;exact⟨z,l,r,g,k _ _ (.inl rfl) e,c⟩
 | dK A=>obtain⟨z,y,J,r,g,j,i,e,c⟩:=x;exact⟨z,y,J,r,g,j,i,k _ _ (.inl rfl) e,c⟩
 | dT A =>obtain⟨z,y,xs,r,g,j,i,e,c⟩:=x;exact⟨z,y,xs,Paired.mapP r λp q z=>⟨z.1,M _ _ z.2.1,z.2.2⟩,g,j,i,k _ _ (.inl rfl) e,c⟩
 | set S n=>obtain⟨g,j,i,t,e,c⟩:=x;exact⟨g,j,i,t,k _ _ (.inl rfl) e,c⟩
 | ins C U G =>obtain⟨d,z,F,e,s,⟨m,j,i,I,c⟩,r⟩:=x;exact⟨L _ d,z,F,k _ _ (.inl rfl) e,s,⟨m,j,i,k _ _ (.inr d) I,c⟩,r⟩
 | own y=>obtain⟨g,e⟩:=x;exact⟨g,k _ _ (.inl rfl) e⟩
 | xd G=>obtain⟨s,⟨m,j,i,e,c⟩,r⟩:=x;exact⟨s,⟨m,j,i,k _ _ (.inl rfl) e,c⟩,r⟩
 | rng O Q=>obtain⟨t,u,v,e⟩:=x;exact⟨t,u,v,k _ _ (.inl rfl) e⟩
 | frz g u N=>obtain⟨e,q⟩:=x;exact⟨k _ _ (.inl rfl) e,N q⟩
 | tbl B =>have e:h.get? a=some { cls:=.none,data:=.fields B }:=x;show h'.get? a=some { cls:=.none,data:=.fields B };exact k a _ (.inl rfl) e
 | met f y =>have e:h.get? a=some (PySem.W.methodObj (.ref f) (.ref y)):=x;show h'.get? a=some (PySem.W.methodObj (.ref f) (.ref y));exact k a _ (.inl rfl) e
 | ext T=>obtain⟨p,⟨o,e⟩,D⟩:=x;exact⟨D _ _ p λo q=>k _ _ (.inl rfl) q,⟨o,k _ _ (.inl rfl) e⟩,D⟩
theorem HOk.lt(x:HOk P w H h)(e:H a=some o):a < h.objs.size:=(x a o e).lt
theorem HOk.fresh(x:HOk P w H h)(e:h.objs.size<=a):H a=none:=by
 cases q:H a with
 | none=>rfl
 | some u=>exact absurd (aay (x.lt q) e) (aa2 _)
theorem HOk.kept(x:HOk P w H h)(k:∀b u,h.get? b=some u->h'.get? b=some u):HOk P w H h':=λa o e =>
 (x a o e).stay (λb u _ q=>k b u q) (λ_ q=>q) λ_ _ q=>q
theorem HOk.laid(x:HOk P w H h)(k:∀b u,h.get? b=some u->h'.get? b=some u)(i:h.objs.size<=a)(d:ObjOk P w (upd H a o) h' a o):HOk P w (upd H a o) h':=λb u e=>by
 have g:=x.fresh i;by_cases f:b=a
 ·subst f;rw[aB]at e;cases e;exact d
 ·rw[upd_ne f]at e;exact (x b u e).stay (λc v _ q=>k c v q) (λc q=>by rw[upd_ne (ak q g)];exact q) λc j q=>by rw[upd_ne (ak q g)];exact q
end
def Rd(H:Hp)(a:Addr)(u:HO):Prop:=H a=some u\/∃o,H a=some (.frz o u)
theorem Rd.of(h:H a=some u):Rd H a u:=.inl h
theorem Rd.ok{P:Program}{w:World}(r:Rd H a u)(x:HOk P w H h):ObjOk P w H h a u:=by
 rcases r with r | ⟨o,r⟩
 ·exact x a u r
 ·obtain⟨_,q⟩:=x a _ r;exact q
def BY:Option HO->Prop
 | some (.lst _)=>True
 | some (.dK _)=>True
 | some (.dT _)=>True
 | some (.set _ _)=>True
 | some (.ins _ _ _)=>True
 | some (.ext _)=>True
 | _=>False
section
variable{P:Program}{w:World}{H:Hp}{h h':Heap}{x e:Addr}{o':HO}
theorem HOk.write(t:HOk P w H h)(i:BY (H x))(p:e=x\/H e=some (.own x))(k:∀b u,b≠e->h.get? b=some u->h'.get? b=some u)(n:∃u,h'.get? e=some u)
  (m:ObjOk P w (upd H x o') h' x o'):HOk P w (upd H x o') h':=λb u q=>by
 have d:∀c y,H c=some (.own y)->c≠x:=λc y r z=>by subst z;rw[r]at i;exact i
 have f:∀c j,H c=some (.tup j)->c≠x:=λc j r z=>by subst z;rw[r]at i;exact i
 by_cases g:b=x
 ·subst g;rw[aB]at q;cases q;exact m
 ·rw[upd_ne g]at q;by_cases a:b=e
  ·have o:H b=some (.own x):=by
    rcases p with z | z
    ·exact absurd (a.trans z) g
    ·rw[a];exact z
   rw[q]at o;cases o;obtain⟨v,s⟩:=n;exact⟨v,by rw[a];exact s⟩
  ·refine (t b u q).stay (λc v l r=>k c v ?_ r) (λc r=>by rw[upd_ne (d c b r)];exact r) λc j r=>by rw[upd_ne (f c j r)];exact r
   rcases l with rfl | l
   ·exact a
   ·rintro rfl;rcases p with z | z
    ·exact d c b l z
    ·rw[l]at z;cases z;exact g rfl
end
structure Un (fs ex:List Addr)(H H':Hp)(h h':Heap):Prop where
 keep:∀b o,h.get? b=some o->H b=none->b ∉ fs->b ∉ ex->h'.get? b=some o
 slot:∀b o,h.get? b=some o->H b=none->b∈fs->b ∉ ex->∃sl,h'.get? b=some { o with slots:=sl }
 free:∀b o,h.get? b=some o->H b=none->b ∉ ex->H' b=none
 there:∀b o,h.get? b=some o->b ∉ ex->∃o',h'.get? b=some o'
 tups:∀b xs,H b=some (.tup xs)->H' b=some (.tup xs)
 frzs:∀b o u,H b=some (.frz o u)->H' b=some (.frz o u)
 tbls:∀b ps,H b=some (.tbl ps)->∃more,H' b=some (.tbl (ps++more))
section
variable{fs fs' ex ex':List Addr}{H H1 H2:Hp}{h h1 h2 h':Heap}{a x e:Addr}{o:HO}
theorem Un.any(u:Un fs ex H H1 h h1){b:Addr}{c:Obj}(q:h.get? b=some c)(n:H b=none)(f:b ∉ ex):∃g,h1.get? b=some { c with slots:=g }:=by
 by_cases d:b∈fs
 ·exact u.slot b c q n d f
 ·exact⟨c.slots,u.keep b c q n d f⟩
theorem Un.trans(a:Un fs ex H H1 h h1)(b:Un fs ex H1 H2 h1 h2):Un fs ex H H2 h h2 where
 keep:=λc f q n j d=>b.keep c f (a.keep c f q n j d) (a.free c f q n d) j d
 slot:=λc f q n j d=>by obtain⟨t,g⟩:=a.slot c f q n j d;obtain⟨k,l⟩:=b.slot c _ g (a.free c f q n d) j d;exact⟨k,l⟩
 free:=λc f q n d=>by obtain⟨m,g⟩:=a.there c f q d;exact b.free c m g (a.free c f q n d) d
 there:=λc f q d=>by obtain⟨m,g⟩:=a.there c f q d;exact b.there c m g d
 tups:=λc i q=>b.tups c i (a.tups c i q)
 frzs:=λc f i q=>b.frzs c f i (a.frzs c f i q)
 tbls:=λc p q=>by obtain⟨s,g⟩:=a.tbls c p q;obtain⟨r,l⟩:=b.tbls c _ g;exact⟨s++r,by rw[l,Array.append_assoc]⟩
theorem Un.kept(k:∀b u,h.get? b=some u->h'.get? b=some u):Un fs ex H H h h' :=
 ⟨λb c q _ _ _=>k b c q,λb c q _ _ _=>⟨c.slots,k b c q⟩,λ_ _ _ n _=>n,λb c q _=>⟨c,k b c q⟩,λ_ _ q=>q,λ_ _ _ q=>q,λ_ d q=>⟨#[],by rw[q];simp⟩⟩
theorem Un.refl:Un fs ex H H h h:=Un.kept λ_ _ q=>q
theorem Un.laid(k:∀b u,h.get? b=some u->h'.get? b=some u)(d:h.objs.size<=a)(c:H a=none):Un fs ex H (upd H a o) h h' where
 keep:=λb u q _ _ _=>k b u q
 slot:=λb u q _ _ _=>⟨u.slots,k b u q⟩
 free:=λb u q n _=>by rw[upd_ne (aas (aay (Heap.lt_size q) d))];exact n
 there:=λb u q _=>⟨u,k b u q⟩
 tups:=λb f q=>by rw[upd_ne (ak q c)];exact q
 frzs:=λb u f q=>by rw[upd_ne (ak q c)];exact q
 tbls:=λb g q=>⟨#[],by rw[upd_ne (ak q c),q];simp⟩
theorem Un.write(d:BY (H x))(p:e=x\/H e=some (.own x))(k:∀b u,b≠e->h.get? b=some u->h'.get? b=some u)(g:∃u,h'.get? e=some u):Un fs ex H (upd H x o) h h':=by
 have j:∀b,H b=none->b≠x:=λb n z=>by subst z;rw[n]at d;exact d
 have i:∀b,H b=none->b≠e:=λb n z=>by
  subst z;rcases p with r | r
  ·exact j b n r
  ·rw[n]at r;cases r
 have f:∀b u,H b=some u->¬ BY (some u)->b≠x:=λb u q l z=>by subst z;rw[q]at d;exact l d
 refine⟨λb u q n _ _=>k b u (i b n) q,λb u q n _ _=>⟨u.slots,k b u (i b n) q⟩,λb u q n _=>by rw[upd_ne (j b n)];exact n,λb u q _=>?_,
  λb m q=>by rw[upd_ne (f b _ q λz=>z)];exact q,λb u m q=>by rw[upd_ne (f b _ q λz=>z)];exact q,λb s q=>⟨#[],by rw[upd_ne (f b _ q λz=>z),q];simp⟩⟩
 by_cases c:b=e
 ·subst c;exact g
 ·exact⟨u,k b u c q⟩
theorem Un.mono(u:Un fs ex H H1 h h1)(i:∀b∈fs,b∈fs')(f:∀b∈ex,b∈ex'):Un fs' ex' H H1 h h1 :=
 ⟨λb d q n g c=>u.keep b d q n (λz=>g (i b z)) λz=>c (f b z),λ_ _ q n _ c=>u.any q n λz=>c (f _ z),λb d q n c=>u.free b d q n λz=>c (f b z),λb d q c=>u.there b d q λz=>c (f b z),u.tups,u.frzs,u.tbls⟩
end
def trk(h:Heap)(H:Hp):List Addr:=(List.range h.objs.size).filter λa=>(H a).isSome
def jg(h:Heap)(H:Hp):Heap:=PySem.W.hideAll h (trk h H)
theorem pf(h:Heap)(H:Hp):(jg h H).objs.size=h.objs.size:=PySem.W.hideAll_size _ _
theorem hidT_get(e:h.get? b=some o)(n:H b=none):(jg h H).get? b=some o :=
 PySem.W.hideAll_get _ e λa=>by have q:(H b).isSome=true:=(aa3.mp a).2;rw[n]at q;simp at q
theorem u7(e:(jg h H).get? b=some o):h.get? b=some o/\H b=none:=by
 have a:h.get? b=some o:=PySem.W.of_hideAll (trk h H) e;refine⟨a,?_⟩;cases q:H b with
 | none=>rfl
 | some x =>have c:b∈trk h H:=aa3.mpr ⟨abU.mpr (Heap.lt_size a),by simp[q]⟩;have z:(jg h H).get? b=none:=PySem.W.hideAll_none (trk h H) c;rw[z]at e;cases e
def u9(g h:Heap)(L:Addr):List (Addr × Obj):=(List.range h.objs.size).filterMap λa=>if a=L\/(g.get? a).isSome=true then none else (h.get? a).map λo=>(a,o)
def rest(g h:Heap)(L d:Addr):List (Addr × Obj):=(u9 g h L).filter λp=>decide (p.1≠d)
end
section
structure Mod (K:Waa)(mg:Str->Option Value)(base:Heap):Prop where
 kin:K.In base
 glob:base.Ns mainGlobals mg
 blt:∃mb,base.Ns builtinsNs mb/\∀x:Str,x≠"__name__"->mb x=bootBuiltins x
 nolimit:base.NoLimit
structure Cx where
 prog:Program
 w:World
 K:Waa
 mg:Str->Option Value
 base:Heap
 A:Around
 N:List Str
 s₀:Shared
 H₀:Hp
 env:Env
 outer:List Env
 stack:List Env
 ex:List Addr
 fn:Str->Bool
 calm:Bool
 pn:List (Addr × Obj)
 xe:Value->Shared->Prop
def qN(l:List Env):List Addr:=l.filterMap (·.frame)
abbrev Cx.fs(X:Cx):List Addr:=qN X.outer
def Vis(sc:Scope)(x:Str):Prop:=sc.names.lookup x=some .local\/sc.names.lookup x=some .cell\/sc.names.lookup x=some .free
def Loc(sc:Scope)(x:Str):Prop:=sc.names.lookup x=some .local\/sc.names.lookup x=some .cell
def Look(env:Env)(h:Heap)(m:Str->Option Value)(x:Str)(u:Value):Prop :=
 (env.kindOf x=some .local/\m x=some u)\/((env.kindOf x=some .cell\/env.kindOf x=some .free)/\∃c,env.cells.lookup x=some c/\h.IsCell c (some u))
structure Cx.Ok (X:Cx):Prop where
 mod:Mod X.K X.mg X.base
 kind:X.env.scope.kind=.function
 glob:X.env.globals=mainGlobals
 blt:X.env.builtins=builtinsNs
 above:X.s₀.heap.objs.size<=X.env.locals
 inj:∀x y c,X.env.cells.lookup x=some c->X.env.cells.lookup y=some c->x=y
 has:∀x,(X.env.kindOf x=some .cell\/X.env.kindOf x=some .free)->∃c,X.env.cells.lookup x=some c
 cab:∀x c,X.fn x=true->X.env.cells.lookup x=some c->X.s₀.heap.objs.size<=c
 hd:X.calm=true->X.A.handled=none
 frames:X.A.frames=some X.stack
 stk:X.stack=X.outer\/(X.stack=X.env::X.outer/\X.env.frame=some X.env.locals)
 exf:∀b∈X.ex,b≠X.env.locals/\∀x c,X.env.cells.lookup x=some c->c≠b
 bs:∀b o,X.base.get? b=some o->X.s₀.heap.get? b=some o/\X.H₀ b=none
 bsz:X.base.objs.size<=X.s₀.heap.objs.size
 noex:∀b o,X.base.get? b=some o->b ∉ X.ex
 exfs:∀b∈X.ex,b ∉ X.fs
 funs:X.s₀.heap.FunFrames X.base X.outer
 frf:∀b∈X.fs,X.H₀ b=none
structure Inv (X:Cx)(pins:List (Addr × Obj))(σ:List (Option V))(H:Hp)(s:Shared):Prop where
 ok:X.Ok
 os:s.os=X.s₀.os
 bare:AllBare s.gens
 base:Un X.fs X.ex X.H₀ H X.s₀.heap s.heap
 loc:∃m,s.heap.Ns X.env.locals m/\∀(i:Nat) (x:Str) (v:V),X.N[i]?=some x->σ[i]?=some (some v)->Vis X.env.scope x->∃u,RelV v u/\Look X.env s.heap m x u
 cell:∀x c,X.env.cells.lookup x=some c->∃v,s.heap.IsCell c v
 free:H X.env.locals=none
 freeC:∀x c,X.env.cells.lookup x=some c->H c=none
 pin:∀p∈X.pn++pins,s.heap.get? p.1=some p.2/\H p.1=none/\p.1≠X.env.locals/\p.1 ∉ X.fs/\∀v,p.2.data≠.cell v
 hok:HOk X.prog X.w H s.heap
 len:σ.length=X.N.length
section
variable{X:Cx}{pins:List (Addr × Obj)}{σ:List (Option V)}{H H':Hp}{s:Shared}{h':Heap}
theorem Cx.Ok.nofr(c:X.Ok)(e:X.base.get? b=some o):b ∉ X.fs:=λa=>by have:=(c.funs.mem a).1;rw[e]at this;cases this
theorem Inv.bs(I:Inv X pins σ H s):∀b o,X.base.get? b=some o->s.heap.get? b=some o/\H b=none:=λb o e =>
 ⟨I.base.keep b o (I.ok.bs b o e).1 (I.ok.bs b o e).2 (I.ok.nofr e) (I.ok.noex b o e),I.base.free b o (I.ok.bs b o e).1 (I.ok.bs b o e).2 (I.ok.noex b o e)⟩
theorem Inv.bk(I:Inv X pins σ H s):∀b o,X.base.get? b=some o->s.heap.get? b=some o:=λb o e=>(I.bs b o e).1
theorem Inv.mod(I:Inv X pins σ H s):Mod X.K X.mg X.base:=I.ok.mod
theorem Inv.kIn(I:Inv X pins σ H s):X.K.In s.heap:=I.ok.mod.kin.keeps I.bk
theorem Inv.nolimit(I:Inv X pins σ H s):s.heap.NoLimit:=I.ok.mod.nolimit.keeps I.bk
theorem Inv.fr(I:Inv X pins σ H s):∃m,Fr X.base X.env.locals s.heap m :=
 let ⟨m,a,_⟩:=I.loc
 ⟨m,a,I.bk,aat I.ok.bsz I.ok.above⟩
theorem Inv.lt(I:Inv X pins σ H s):X.env.locals < s.heap.objs.size:=let ⟨_,a,_⟩:=I.loc;a.lt
theorem Inv.sz(I:Inv X pins σ H s):X.s₀.heap.objs.size<=s.heap.objs.size:=aat I.ok.above (aaS I.lt)
theorem Inv.nofs(I:Inv X pins σ H s)(h:s.heap.objs.size<=a):a ∉ X.fs:=λb=>by obtain⟨_,o,c,_⟩:=I.ok.funs.mem b;exact absurd (aay (Heap.lt_size c) (aat I.sz h)) (aa2 _)
theorem Inv.cne(I:Inv X pins σ H s):∀x c,X.env.cells.lookup x=some c->c≠X.env.locals:=λx c e z=>by obtain⟨v,o,d,f⟩:=I.cell x c e;obtain⟨m,⟨i,h,g,b,a,_⟩,_⟩:=I.loc;rw[z,b]at d;cases d;rw[a]at f;cases f
theorem Inv.funs(I:Inv X pins σ H s):s.heap.FunFrames X.base X.outer:=by
 have f:∀(l:List Env),(∀b∈qN l,b∈X.fs)->X.s₀.heap.FunFrames X.base l->s.heap.FunFrames X.base l:=by
  intro l;induction l with
  | nil=>intro _ _;trivial
  | cons q r p =>intro g h;obtain⟨m,⟨L,o,a,j,n,i⟩,k⟩:=h;have c:L∈X.fs:=g L (by unfold qN;rw[abV,a];exact aag);obtain⟨t,e⟩:=I.base.slot L o n (I.ok.frf L c) c λz=>I.ok.exfs L z c;exact⟨m,⟨L,_,a,j,e,i⟩,p (λb d=>g b (by unfold qN;rw[abV,a];exact aaj _ d)) k⟩
 exact f X.outer (λ_ d=>d) I.ok.funs
theorem Inv.stack(I:Inv X pins σ H s):s.heap.FunFrames X.base X.stack:=by
 rcases I.ok.stk with e | ⟨e,a⟩
 ·rw[e];exact I.funs
 ·rw[e];obtain⟨m,b,_⟩:=I.loc;refine .cons (by rw[I.ok.kind];decide) a b ?_ I.funs;exact Heap.get?_none_of_le (aat I.ok.bsz I.ok.above)
theorem Inv.stkSub(I:Inv X pins σ H s):∀b∈qN X.stack,b∈X.env.locals::X.fs:=λb a=>by
 rcases I.ok.stk with e | ⟨e,c⟩
 ·rw[e]at a;exact aaj _ a
 ·rw[e]at a;unfold qN at a;rw[abV,c]at a;exact a
theorem Inv.stkFree(I:Inv X pins σ H s):∀b∈qN X.stack,H b=none:=λb a=>by
 rcases aaa.mp (I.stkSub b a) with e | a
 ·rw[e];exact I.free
 ·obtain⟨_,o,c,_⟩:=I.ok.funs.mem a;exact I.base.free b o c (I.ok.frf b a) λz=>I.ok.exfs b z a
theorem Inv.step{g':Array GenState}{t':Nat}{d':Drawn}{ch:List Addr}(I:Inv X pins σ H s)
  (h:∀b∈ch,(b∈X.ex\/X.s₀.heap.objs.size<=b)/\b≠X.env.locals/\(∀x c,X.env.cells.lookup x=some c->c≠b)/\∀p∈X.pn++pins,p.1≠b)
  (g:∀b o,b≠X.env.locals->b ∉ X.fs->b ∉ ch->s.heap.get? b=some o->H b=none->h'.get? b=some o)
  (A:∀b o,b≠X.env.locals->b∈X.fs->b ∉ ch->s.heap.get? b=some o->H b=none->∃W,h'.get? b=some { o with slots:=W }) (free:∀b o,b ∉ ch->s.heap.get? b=some o->H b=none->H' b=none)
  (D:∀b o,b ∉ ch->s.heap.get? b=some o->∃L,h'.get? b=some L)
  (O:∀b B,H b=some (.tup B)->H' b=some (.tup B)) (M:∀b o u,H b=some (.frz o u)->H' b=some (.frz o u)) (P:∀b Q,H b=some (.tbl Q)->∃N,H' b=some (.tbl (Q++N)))
  (ns:∀m,s.heap.Ns X.env.locals m->h'.Ns X.env.locals m) (T:HOk X.prog X.w H' h') (hg:AllBare g') :
  Inv X pins σ H' { s with heap:=h',gens:=g',drawn:=d',toks:=t' }:=by
 have G:∀b o,X.s₀.heap.get? b=some o->b≠X.env.locals:=λb o e=>aas (aay (Heap.lt_size e) I.ok.above);have t:∀b o,X.s₀.heap.get? b=some o->b ∉ X.ex->b ∉ ch:=λb o e a C=>by
  rcases (h b C).1 with z | z
  ·exact a z
  ·exact absurd (aay (Heap.lt_size e) z) (aa2 _)
 have j:∀x c,X.env.cells.lookup x=some c->∀v,s.heap.IsCell c v->h'.IsCell c v:=λx c e v ⟨o,F,S⟩=>by
  have f:c ∉ ch:=λz=>(h c z).2.2.1 x c e rfl;by_cases hc:c∈X.fs
  ·obtain⟨W,q⟩:=A c o (I.cne x c e) hc f F (I.freeC x c e);exact⟨_,q,S⟩
  ·exact⟨o,g c o (I.cne x c e) hc f F (I.freeC x c e),S⟩
 refine⟨I.ok,I.os,hg,⟨λb o e n C a=>?_,λb o e n C a=>?_,λb o e n a=>?_,λb o e a=>?_,λb B e=>O b B (I.base.tups b B e),λb o B e=>M b o B (I.base.frzs b o B e),λb Q e=>?_⟩,?_,λx c e=>?_,?_,λx c e=>?_,λp hp=>?_,T,I.len⟩
 ·exact g b o (G b o e) C (t b o e a) (I.base.keep b o e n C a) (I.base.free b o e n a)
 ·obtain⟨W,y⟩:=I.base.slot b o e n C a;obtain⟨U,J⟩:=A b _ (G b o e) C (t b o e a) y (I.base.free b o e n a);exact⟨U,J⟩
 ·obtain⟨L,y⟩:=I.base.there b o e a;exact free b L (t b o e a) y (I.base.free b o e n a)
 ·obtain⟨L,y⟩:=I.base.there b o e a;exact D b L (t b o e a) y
 ·obtain⟨m1,y⟩:=I.base.tbls b Q e;obtain⟨m2,J⟩:=P b _ y;exact⟨m1++m2,by rw[J,Array.append_assoc]⟩
 ·obtain⟨m,hn,hl⟩:=I.loc;refine⟨m,ns m hn,λi x v y J e3=>?_⟩;obtain⟨u,r,l⟩:=hl i x v y J e3;refine⟨u,r,?_⟩;rcases l with l | ⟨k,c,e,z⟩
  ·exact .inl l
  ·exact .inr ⟨k,c,e,j x c e _ z⟩
 ·obtain⟨v,z⟩:=I.cell x c e;exact⟨v,j x c e v z⟩
 ·obtain⟨m,⟨o,_,_,F,_⟩,_⟩:=I.loc;exact free _ o (λz=>(h _ z).2.1 rfl) F I.free
 ·obtain⟨v,o,F,S⟩:=I.cell x c e;exact free c o (λz=>(h c z).2.2.1 x c e rfl) F (I.freeC x c e)
 ·obtain⟨e,n,Y,Z,d⟩:=I.pin p hp;have f:p.1 ∉ ch:=λz=>(h p.1 z).2.2.2 p hp rfl;exact⟨g p.1 p.2 Y Z f e n,free p.1 p.2 f e n,Y,Z,d⟩
theorem Inv.un{t':Nat}(I:Inv X pins σ H s)(u:Un X.fs [] H H' s.heap h')(g:HOk X.prog X.w H' h'):Inv X pins σ H' { s with heap:=h',toks:=t' }:=by
 obtain⟨m,⟨o,q,p,h,r⟩,_⟩:=id I.loc;obtain⟨v,j⟩:=u.any h I.free (by simp);exact I.step (ch:=[]) (λ_ z=>nomatch z) (λb o _ d _ e n=>u.keep b o e n d (by simp)) (λb o _ d _ e n=>u.slot b o e n d (by simp)) (λb o _ e n=>u.free b o e n (by simp)) (λb o _ e=>u.there b o e (by simp)) u.tups u.frzs u.tbls (λl i=>by
  obtain⟨t,f,c,a,k⟩:=i;rw[h]at a;cases a;exact⟨_,f,c,j,k⟩) g I.bare
theorem Inv.call{t':Nat}{d':Drawn}(I:Inv X pins σ H s)(u:Un (qN X.stack) ch H H' s.heap h')(j:HOk X.prog X.w H' h')(t:AllBare g')
  (f:∀b∈ch,(b∈X.ex\/X.s₀.heap.objs.size<=b)/\b≠X.env.locals/\(∀x c,X.env.cells.lookup x=some c->c≠b)/\∀p∈X.pn++pins,p.1≠b) :
  Inv X pins σ H' { s with heap:=h',gens:=g',drawn:=d',toks:=t' }:=by
 obtain⟨m,⟨o,B,A,k,r⟩,_⟩:=id I.loc;obtain⟨D,h⟩:=u.any k I.free λz=>(f _ z).2.1 rfl;exact I.step f (λb o h q a e n=>u.keep b o e n (λz=>(aaa.mp (I.stkSub b z)).elim h q) a) (λb o _ _ a e n=>u.any e n a) (λb o a e n=>u.free b o e n a) (λb o a e=>u.there b o e a) u.tups u.frzs u.tbls (λy l=>by
  obtain⟨C,i,g,d,v⟩:=l;rw[k]at d;cases d;exact⟨_,i,g,h,v⟩) j t
theorem Inv.turned{t':Nat}(I:Inv X pins σ H s)(k:∀b o,b≠it->s.heap.get? b=some o->h'.get? b=some o)(h:H it=none)(f:it≠X.env.locals)
  (t:it∈X.ex\/X.s₀.heap.objs.size<=it) (w:∀x c,X.env.cells.lookup x=some c->c≠it) (y:∀p∈X.pn++pins,p.1≠it):Inv X pins σ H { s with heap:=h',toks:=t' }:=by
 have d:∀b u,H b=some u->b≠it:=λb u e z=>by rw[z,h]at e;cases e
 refine I.step (ch:=[it]) (λb i=>?_) (λb o _ _ a e _=>k b o (λz=>a (by simp[z])) e) (λb o _ _ a e _=>⟨o.slots,k b o (λz=>a (by simp[z])) e⟩) (λ_ _ _ _ n=>n)
  (λb o a e=>⟨o,k b o (λz=>a (by simp[z])) e⟩) (λ_ _ e=>e) (λ_ _ _ e=>e) (λb B e=>⟨#[],by rw[e];simp⟩) (λm g=>?_) (λb u e=>?_) I.bare
 ·have e:b=it:=by simpa using i
  subst e;exact⟨t,f,w,y⟩
 ·obtain⟨o,l,j,A,r⟩:=g;exact⟨o,l,j,k _ o (aaN f) A,r⟩
 ·refine (I.hok b u e).stay (λc v a q=>k c v ?_ q) (λ_ q=>q) λ_ _ q=>q;rcases a with z | z
  ·rw[z];exact d b u e
  ·exact d c _ z
theorem Inv.tok(I:Inv X pins σ H s)(t:Nat):Inv X pins σ H { s with toks:=t }:=I.un (h':=s.heap) (t':=t) Un.refl I.hok
theorem Inv.kept{t':Nat}(I:Inv X pins σ H s)(k:∀b u,s.heap.get? b=some u->h'.get? b=some u):Inv X pins σ H { s with heap:=h',toks:=t' }:=I.un (Un.kept k) (I.hok.kept k)
theorem Inv.laid{a:Addr}{o:HO}{t':Nat}(I:Inv X pins σ H s)(k:∀b u,s.heap.get? b=some u->h'.get? b=some u)(c:s.heap.objs.size<=a)(d:ObjOk X.prog X.w (upd H a o) h' a o) :
  Inv X pins σ (upd H a o) { s with heap:=h',toks:=t' }:=I.un (Un.laid k c (I.hok.fresh c)) (I.hok.laid k c d)
theorem Inv.write{t':Nat}(I:Inv X pins σ H s)(d:BY (H x))(f:e=x\/H e=some (.own x))(k:∀b u,b≠e->s.heap.get? b=some u->h'.get? b=some u)(a:∃u,h'.get? e=some u)
  (c:ObjOk X.prog X.w (upd H x o) h' x o):Inv X pins σ (upd H x o) { s with heap:=h',toks:=t' }:=I.un (Un.write d f k a) (I.hok.write d f k a c)
theorem Inv.weak(I:Inv X pins σ H s)(c:σ'.length=σ.length)(w:∀(i:Nat) v,σ'[i]?=some (some v)->σ[i]?=some (some v)):Inv X pins σ' H s :=
 ⟨I.ok,I.os,I.bare,I.base,let ⟨m,e,a⟩:=I.loc;⟨m,e,λi x v f b d=>a i x v f (w i v b) d⟩,I.cell,I.free,I.freeC,I.pin,I.hok,c.trans I.len⟩
theorem Inv.pins_of(I:Inv X pins σ H s)(h:∀p∈pins',s.heap.get? p.1=some p.2/\H p.1=none/\p.1≠X.env.locals/\p.1 ∉ X.fs/\∀v,p.2.data≠.cell v):Inv X pins' σ H s :=
 ⟨I.ok,I.os,I.bare,I.base,I.loc,I.cell,I.free,I.freeC,λp a=>(aan.mp a).elim (λz=>I.pin p (aaf _ z)) (h p),I.hok,I.len⟩
theorem ki{N:List Str}(c:N.Nodup){i j:Nat}(a:N[i]?=some x)(b:N[j]?=some x):i=j:=by obtain⟨f,e⟩:=aao.mp a;obtain⟨g,d⟩:=aao.mp b;exact (List.getElem_inj c).mp (e.trans d.symm)
theorem fJ{M:Model}{A:Around}{E:Value->Shared->Prop}(I:Inv X pins σ H s)(hN:X.N.Nodup)(W:X.N[i]?=some x)(B:Loc X.env.scope x)(r:RelV v u)
  (h:∀s',Inv X pins (σ.set i (some v)) H s'->(∃a,Heap.SameBut a s.heap s'.heap/\(a=X.env.locals\/X.env.cells.lookup x=some a))->Q () s') (hf:X.fn x=true\/X.env.scope.names.lookup x=some .local:=by first | exact .inl rfl | exact .inr rfl | assumption):wpAny M A (storeName X.env x u) Q E s:=by
 obtain⟨m,hn,hl⟩:=id I.loc;have Y:(X.env.scope.kind == .class || (X.env.scope.kind == .module && X.env.locals != X.env.globals))=false:=by rw[I.ok.kind];rfl
 have F:i < σ.length:=by rw[I.len];exact (aao.mp W).1
 have J:=I.cne;have g:∀{a:Addr} {h':Heap},(∃o,s.heap.get? a=some o/\H a=none)->Heap.SameBut a s.heap h'->HOk X.prog X.w H h':=λ{a h'} ha f b ob e=>by
  obtain⟨_,_,C⟩:=ha;refine (I.hok b ob e).stay (λc w' t q=>(f.2 c ?_).trans q) (λ_ q=>q) λ_ _ q=>q;rintro rfl;rcases t with rfl | t
  ·rw[C]at e;cases e
  ·rw[C]at t;cases t
 rcases B with G | G
 ·refine wpAny_storeName_local G hn (λh' a0 f=>?_) Y;obtain⟨oL,_,_,a1,_⟩:=id hn;refine h _ ⟨I.ok,I.os,I.bare,⟨λb o e n L B=>?_,λb o e n L B=>?_,I.base.free,λb o e B=>?_,I.base.tups,I.base.frzs,I.base.tbls⟩,⟨_,a0,λj y v' l D e3=>?_⟩,λy c e=>?_,I.free,I.freeC,λp hp=>?_,g ⟨oL,a1,I.free⟩ f,by simpa using I.len⟩ ⟨_,f,.inl rfl⟩
  ·exact (f.2 b (aas (aay (Heap.lt_size e) I.ok.above))).trans (I.base.keep b o e n L B)
  ·obtain⟨sl,l⟩:=I.base.slot b o e n L B;exact⟨sl,(f.2 b (aas (aay (Heap.lt_size e) I.ok.above))).trans l⟩
  ·obtain⟨o',l⟩:=I.base.there b o e B;exact⟨o',(f.2 b (aas (aay (Heap.lt_size e) I.ok.above))).trans l⟩
  ·by_cases O:j=i
   ·subst O;rw[W]at l;cases l;rw[aaW F]at D;cases D;exact⟨u,r,.inl ⟨G,by simp⟩⟩
   ·rw[aaX (aaN O)]at D;obtain⟨u',r',q⟩:=hl j y v' l D e3;refine⟨u',r',?_⟩;rcases q with ⟨k,e⟩ | ⟨k,c,e,z⟩
    ·refine .inl ⟨k,?_⟩;have:y≠x:=λe=>O (ki hN l (e ▸ W));simp[this,e]
    ·exact .inr ⟨k,c,e,z.sameBut f (J y c e)⟩
  ·obtain⟨w',z⟩:=I.cell y c e;exact⟨w',z.sameBut f (J y c e)⟩
  ·obtain⟨e,n,ne,nf,d⟩:=I.pin p hp;exact⟨(f.2 p.1 ne).trans e,n,ne,nf,d⟩
 ·have P:X.fn x=true:=by
   rcases hf with z | z
   ·exact z
   ·rw[z]at G;cases G
  obtain⟨c,t⟩:=I.ok.has x (.inl G);obtain⟨w',z⟩:=I.cell x c t;refine wpAny_storeName_cell I.ok.kind G t z (λh' S f=>?_);obtain⟨oc,T,Z⟩:=id z;refine h { s with heap:=h' } ⟨I.ok,I.os,I.bare,⟨λb o e n L B=>?_,λb o e n L B=>?_,I.base.free,λb o e B=>?_,I.base.tups,I.base.frzs,I.base.tbls⟩,⟨m,hn.sameBut f (aaN (J x c t)),λj y v' l D e3=>?_⟩,λy c' e=>?_,I.free,I.freeC,λp hp=>?_,g ⟨oc,T,I.freeC x c t⟩ f,by simpa using I.len⟩ ⟨c,f,.inr t⟩
  ·exact (f.2 b (aas (aay (Heap.lt_size e) (I.ok.cab x c P t)))).trans (I.base.keep b o e n L B)
  ·obtain⟨sl,l⟩:=I.base.slot b o e n L B;exact⟨sl,(f.2 b (aas (aay (Heap.lt_size e) (I.ok.cab x c P t)))).trans l⟩
  ·obtain⟨o',l⟩:=I.base.there b o e B;exact⟨o',(f.2 b (aas (aay (Heap.lt_size e) (I.ok.cab x c P t)))).trans l⟩
  ·by_cases O:j=i
   ·subst O;rw[W]at l;cases l;rw[aaW F]at D;cases D;exact⟨u,r,.inr ⟨.inl G,c,t,S⟩⟩
   ·rw[aaX (aaN O)]at D;obtain⟨u',r',q⟩:=hl j y v' l D e3;refine⟨u',r',?_⟩;rcases q with q | ⟨k,c',e,z'⟩
    ·exact .inl q
    ·refine .inr ⟨k,c',e,z'.sameBut f ?_⟩;rintro rfl;exact O (ki hN l (I.ok.inj _ _ _ e t ▸ W))
  ·by_cases U:c'=c
   ·subst U;exact⟨_,S⟩
   ·obtain⟨w2,z2⟩:=I.cell y c' e;exact⟨w2,z2.sameBut f U⟩
  ·obtain⟨e,n,ne,nf,d⟩:=I.pin p hp;refine⟨(f.2 p.1 ?_).trans e,n,ne,nf,d⟩;intro q;rw[q,T]at e;have q':oc=p.2:=aaC e;exact d w' (by rw[<- q'];exact Z)
theorem bJ{M:Model}{A:Around}{E:Value->Shared->Prop}(I:Inv X pins σ H s)(c:X.N.Nodup)(d:X.N[i]?=some x)(e:Loc X.env.scope x)(r:RelV v u)
  (h:∀a,Inv X pins (σ.set i (some v)) H a->Q () a) (b:X.fn x=true\/X.env.scope.names.lookup x=some .local:=by first | exact .inl rfl | exact .inr rfl | assumption):wpAny M A (storeName X.env x u) Q E s :=
 fJ I c d e r (λa f _=>h a f) b
theorem Inv.call'(I:Inv X pins σ H s)(g:s'.os=s.os)(u:Un (qN X.stack) ch H H' s.heap s'.heap)(a:HOk X.prog X.w H' s'.heap)(h:AllBare s'.gens)
  (d:∀b∈ch,(b∈X.ex\/X.s₀.heap.objs.size<=b)/\b≠X.env.locals/\(∀x c,X.env.cells.lookup x=some c->c≠b)/\∀p∈X.pn++pins,p.1≠b):Inv X pins σ H' s':=by
 obtain⟨h',i,j,k,f⟩:=s';have e:f=s.os:=g;subst e;exact I.call u a h d
end
abbrev XK:=Value->Option Addr->Hp->Prop
abbrev St:=List (Option V)
abbrev VK:=V->Hp->Prop
abbrev TE:=St->Hp->VK->Prop
abbrev TT:=St->Hp->(Bool->Hp->Prop)->Prop
abbrev TA:=St->Hp->(List V->Hp->Prop)->Prop
structure Ends where
 nx:St->Hp->Prop
 rt:VK
 bk:St->Hp->Prop:=λ_ _=>False
 ct:St->Hp->Prop:=λ_ _=>False
abbrev TS:=Ends->St->Hp->Prop
def EP(X:Cx)(a:List (Addr × Obj))(σ:St)(Q:VK)(u:Value)(c:Shared):Prop:=∃v b,Inv X a σ b c/\RelV v u/\Q v b
def TP(X:Cx)(a:List (Addr × Obj))(σ:St)(Q:Bool->Hp->Prop)(b:Bool)(d:Shared):Prop:=∃c,Inv X a σ c d/\Q b c
def AP(X:Cx)(a:List (Addr × Obj))(σ:St)(Q:List V->Hp->Prop)(us:List Value)(d:Shared):Prop:=∃b c,Inv X a σ c d/\Vals b us/\Q b c
def SP(X:Cx)(b:List (Addr × Obj))(D:Ends)(f:Flow)(d:Shared):Prop :=
 match f with
 | .next=>∃a c,Inv X b a c d/\D.nx a c
 | .brk=>∃a c,Inv X b a c d/\D.bk a c
 | .cont=>∃a c,Inv X b a c d/\D.ct a c
 | .ret u=>∃v a c,Inv X b a c d/\RelV v u/\D.rt v c
def PE(X:Cx)(e:Expr)(t:TE):Prop :=
 ∀(a:List (Addr × Obj)) (s:Shared) (b:St) (H:Hp) (Q:VK),Inv X a b H s->t b H Q->wpAny (model X.prog X.w) X.A (eval e X.env) (EP X a b Q) X.xe s
def PT(X:Cx)(e:Expr)(t:TT):Prop :=
 ∀(a:List (Addr × Obj)) (s:Shared) (b:St) (H:Hp) (Q:Bool->Hp->Prop),Inv X a b H s->t b H Q->wpAny (model X.prog X.w) X.A (isTrue e X.env (eval e X.env)) (TP X a b Q) X.xe s
def PW(X:Cx)(e:Expr)(t:TT):Prop :=
 ∀(b:Sem Value) (a:List (Addr × Obj)) (s:Shared) (c:St) (H:Hp) (Q:Bool->Hp->Prop),Inv X a c H s->t c H Q->wpAny (model X.prog X.w) X.A (isTrue e X.env b) (TP X a c Q) X.xe s
theorem PW.pt(h:PW X e t):PT X e t:=h _
def PA(X:Cx)(es:List Expr)(t:TA):Prop :=
 ∀(b:Pos) (a:List (Addr × Obj)) (s:Shared) (c:St) (H:Hp) (Q:List V->Hp->Prop),Inv X a c H s->t c H Q->wpAny (model X.prog X.w) X.A (spliced (backTo b (starEach es X.env))) (AP X a c Q) X.xe s
def PS(X:Cx)(st:Stmt)(t:TS):Prop :=
 ∀(a:List (Addr × Obj)) (s:Shared) (b:St) (H:Hp) (D:Ends),Inv X a b H s->t D b H->wpAny (model X.prog X.w) X.A (exec st X.env) (SP X a D) X.xe s
def PSs(X:Cx)(st:List Stmt)(t:TS):Prop :=
 ∀(a:List (Addr × Obj)) (s:Shared) (b:St) (H:Hp) (D:Ends),Inv X a b H s->t D b H->wpAny (model X.prog X.w) X.A (execs st X.env) (SP X a D) X.xe s
theorem thn{b:Type}{t:Sem b}{Q c:b->Shared->Prop}{A:Around}(h:wpAny M A t Q E s)(d:∀a s,Q a s->c a s):wpAny M A t c E s:=wpAny_mono h d λ_ _ x=>x
end
section
section
variable{X:Cx}
def tVar(i:Nat):TE:=λa H Q=>∃v,a[i]?=some (some v)/\Q v H
def tC(v:V):TE:=λ_ H Q=>Q v H
theorem bN {pos:Pos} (t:X.N[i]?=some x) (n:Vis X.env.scope x) (g:(x == ("__debug__":Str))=false:=by decide) (j:(x == ("__classdict__":Str))=false:=by decide):PE X (.Name x pos) (tVar i):=by
 intro f s w H Q I h;obtain⟨v,e,h⟩:=h;obtain⟨m,q,o⟩:=I.loc;obtain⟨u,r,l⟩:=o i x v t e n;have d:EP X f w Q u s:=⟨v,H,I,r,h⟩
 rcases l with ⟨b,p⟩ | ⟨b,c,k,a⟩
 ·exact wpAny_Name (wpAny_loadName_local I.ok.kind b q p d) g
 ·rcases b with b | b
  ·exact wpAny_Name (wpAny_loadName_cell I.ok.kind b k a d) g
  ·exact wpAny_Name (wpAny_loadName_free I.ok.kind b k a d j) g
theorem fK{i j pos}:PE X (.Constant (.int i) j pos) (tC (.int i)):=λ_ _ _ H _ I h=>wpAny_Constant_int ⟨.int i,H,I.tok _,⟨_,rfl⟩,h⟩
theorem BZ{b j pos}:PE X (.Constant (.bool b) j pos) (tC (.bl b)):=λ_ _ _ H _ I h=>Constant_bool ⟨.bl b,H,I,rfl,h⟩
theorem y3{j pos}:PE X (.Constant .none j pos) (tC .non):=λ_ _ _ H _ I h=>Constant_none ⟨.non,H,I,rfl,h⟩
theorem qO{x j pos}:PE X (.Constant (.str x) j pos) (tC (.str x)):=λ_ _ _ H _ I h=>Calls.Constant_str ⟨.str x,H,I.tok _,⟨_,rfl⟩,h⟩
def Gl(X:Cx)(x:Str):Prop:=X.env.kindOf x=some .globalImplicit
theorem m6{E:Value->Shared->Prop}{pos:Pos}(I:Inv X pins σ H s)(b:Gl X x)(a:X.mg x=some u)(h:Q u s)
  (c:(x == ("__debug__":Str))=false:=by decide):wpAny (model X.prog X.w) X.A (eval (.Name x pos) X.env) Q E s :=
 Calls.Name_function_global I.ok.kind b (Calls.loadGlobal_global (by rw[I.ok.glob];exact I.mod.glob.keeps I.bk) a h) c
theorem eh{E:Value->Shared->Prop}{a:List (Addr × Obj)}{s:Shared}{pos:Pos}(I:Inv X a σ H s)(d:Gl X x)(c:X.mg x=none)(b:bootBuiltins x=some u)(h:Q u s)
  (g:x≠"__name__":=by decide) (e:(x == ("__debug__":Str))=false:=by decide):wpAny (model X.prog X.w) X.A (eval (.Name x pos) X.env) Q E s:=by
 obtain⟨j,f,i⟩:=I.mod.blt;exact Calls.Name_function_global I.ok.kind d (Calls.loadGlobal_builtin (by rw[I.ok.glob];exact I.mod.glob.keeps I.bk) c (by rw[I.ok.blt];exact f.keeps I.bk) ((i x g).trans b) h) e
theorem vc {pos:Pos} (c:Gl X x) (a:X.mg x=some u) (r:RelV v u) (b:(x == ("__debug__":Str))=false:=by decide):PE X (.Name x pos) (tC v) :=
 λ_ _ _ H _ I h=>m6 I c a ⟨v,H,I,r,h⟩ b
theorem vd {pos:Pos} (d:Gl X x) (b:X.mg x=none) (a:bootBuiltins x=some u) (r:RelV v u) (e:x≠"__name__":=by decide) (c:(x == ("__debug__":Str))=false:=by decide):PE X (.Name x pos) (tC v) :=
 λ_ _ _ H _ I h=>eh I d b a ⟨v,H,I,r,h⟩ e c
def E4(d c:TE)(k:Int->Int->Hp->Prop):St->Hp->Prop:=λa H=>d a H λx e=>c a e λy b=>∃i j,x=.int i/\y=.int j/\k i j b
def IK(c b:TE):TE:=λd H Q=>E4 c b (λi j a=>Q (.int (i + j)) a) d H
def IL(c b:TE):TE:=λd H Q=>E4 c b (λi j a=>Q (.int (i - j)) a) d H
def IM(c b:TE):TE:=λd H Q=>E4 c b (λi j a=>(-(2 ^ 64) < i/\i < 2 ^ 64)/\Q (.int (i * j)) a) d H
variable{a b:Expr}{ta tb:TE}{pos:Pos}
def PC(X:Cx)(g:CmpOp)(a b:Expr)(t:TE):Prop :=
 ∀(c:List (Addr × Obj)) (s:Shared) (f:St) (H:Hp) (Q:VK),Inv X c f H s->t f H Q ->
  wpAny (model X.prog X.w) X.A (eval a X.env) (λv e=>wpAny (model X.prog X.w) X.A (eval b X.env) (λu d=>wpAny (model X.prog X.w) X.A (compareOp g v u) (EP X c f Q) X.xe d) X.xe e) X.xe s
theorem nobehind(b:Expr)(h:op≠.In)(e:op≠.NotIn):behindInMarks op b=false:=by
 have d:(op == CmpOp.In)=false:=by cases op<;>first | rfl | exact absurd rfl h
 have c:(op == CmpOp.NotIn)=false:=by cases op<;>first | rfl | exact absurd rfl e
 cases b<;>simp[behindInMarks,d,c]
def ph(p:Int->Int->Bool)(ta tb:TE):TE:=λd H Q=>E4 ta tb (λi j c=>Q (.bl (p i j)) c) d H
abbrev JR:TE->TE->TE:=ph λi j=>decide (i < j)
abbrev JS:TE->TE->TE:=ph λi j=>decide (i<=j)
abbrev JT:TE->TE->TE:=ph λi j=>decide (j < i)
abbrev JU:TE->TE->TE:=ph λi j=>decide (j<=i)
abbrev IP:TE->TE->TE:=ph λi j=>decide (i=j)
abbrev IQ:TE->TE->TE:=ph λi j=>!decide (i=j)
def Fm(ta:TE):TE:=λd H Q=>ta d H λx c=>Q (.bl (decide (x=.non))) c
def B3(ta:TE):TE:=λd H Q=>ta d H λx c=>Q (.bl (!decide (x=.non))) c
theorem RelV.none_iff{x:V}{v:Value}(r:RelV x v):(v == Value.none)=decide (x=.non):=by
 cases x with
 | non=>cases r;rfl
 | bl _=>cases r;rfl
 | int _=>obtain⟨t,rfl⟩:=r;rfl
 | str _=>obtain⟨t,rfl⟩:=r;rfl
 | byt _=>obtain⟨t,rfl⟩:=r;rfl
 | flt _=>obtain⟨t,rfl⟩:=r;rfl
 | ref _=>cases r;rfl
 | ty _=>cases r;rfl
theorem qP{j pos'}(f:PE X a ta):PC X .Is a (.Constant .none j pos') (Fm ta):=by intro c s l H Q I h;refine thn (f c s l H _ I h) λv m g=>?_;obtain⟨x,k,i,e,d⟩:=g;exact Constant_none (is_none_gen ⟨.bl _,k,i,by rw[e.none_iff];rfl,d⟩)
theorem m7{j pos'}(f:PE X a ta):PC X .IsNot a (.Constant .none j pos') (B3 ta):=by intro c s l H Q I h;refine thn (f c s l H _ I h) λv m g=>?_;obtain⟨x,k,i,e,d⟩:=g;exact Constant_none (isnot_none_gen ⟨.bl _,k,i,by rw[e.none_iff];rfl,d⟩)
def tB(t:TE):TT:=λe H Q=>t e H λx d=>∃c,x=.bl c/\Q c d
theorem jh(h:PC X op a b t)(e:behindInMarks op b=false:=by first | exact nobehind _ (by decide) (by decide) | rfl):PE X (.Compare a [op] [b] pos) t:=λc s f H Q I d=>wpAny_Compare1 (h c s f H Q I d) e
theorem ji{f:CmpOp}{t:TE}(h:PC X f a b t)(g:behindInMarks f b=false:=by first | exact nobehind _ (by decide) (by decide) | rfl):PT X (.Compare a [f] [b] pos) (tB t):=by intro e s o H Q I l;refine wpAny_isTrue_Compare1 (thn (h e s o H _ I l) λv r g=>thn g λu y n=>thn n λc w i=>?_) g;obtain⟨x,j,m,k,p⟩:=i;obtain⟨d,rfl,q⟩:=p;cases k;exact wpAny_truthy_bool ⟨j,m,q⟩
variable{tA tB':TT}{rest:List Expr}
def Fo(t u:TT):TT:=λe H Q=>t e H λc d=>if c=true then u e d Q else Q false d
def IR(t u:TT):TT:=λe H Q=>t e H λc d=>if c=true then Q true d else u e d Q
def Fq(t:TT):TT:=λe H Q=>t e H λc d=>Q (!c) d
theorem vf(f:PT X a tA):PW X (.BoolOp .And [a] pos) tA:=by
 intro i d s g H Q I h;refine isTrue_and (thn (f d s g H Q I h) λc j e=>?_);cases c with
 | true=>exact isTrue_and_nil e
 | false=>exact e
theorem y4(f:PT X a tA):PW X (.BoolOp .Or [a] pos) tA:=by
 intro i d s g H Q I h;refine isTrue_or (thn (f d s g H Q I h) λc j e=>?_);cases c with
 | false=>exact isTrue_or_nil e
 | true=>exact e
theorem y6(l:PT X a tA)(j:PW X (.BoolOp .And (b::rest) pos) tB'):PW X (.BoolOp .And (a::b::rest) pos) (Fo tA tB'):=by
 intro m d s i H Q I h;refine isTrue_and (thn (l d s i H _ I h) λc k n=>?_);obtain⟨f,g,e⟩:=n;cases c with
 | true=>exact j m d k i f Q g e
 | false=>exact⟨f,g,e⟩
theorem B4(l:PT X a tA)(j:PW X (.BoolOp .Or (b::rest) pos) tB'):PW X (.BoolOp .Or (a::b::rest) pos) (IR tA tB'):=by
 intro m d s i H Q I h;refine isTrue_or (thn (l d s i H _ I h) λc k n=>?_);obtain⟨f,g,e⟩:=n;cases c with
 | true=>exact⟨f,g,e⟩
 | false=>exact j m d k i f Q g e
theorem y8(e:PT X a tA):PT X (.UnaryOp .Not a pos) (Fq tA):=by intro d s g H Q I h;exact isTrue_not (e d s g H (λc f=>Q (!c) f) I h)
def B5(ta tb:TE):TE:=λe H Q=>ta e H λx d=>∃c,x=.bl c/\if c=true then tb e d Q else Q (.bl false) d
def Fs(ta tb:TE):TE:=λe H Q=>ta e H λx d=>∃c,x=.bl c/\if c=true then Q (.bl true) d else tb e d Q
def B6(ta:TE):TE:=λe H Q=>ta e H λx d=>∃c,x=.bl c/\Q (.bl (!c)) d
theorem y9{d}(h:PE X a t):PE X (.BoolOp d [a] pos) t:=λc s f H Q I e=>BoolOp_one (h c s f H Q I e)
theorem zd(n:PE X a ta)(l:PE X (.BoolOp .And (b::rest) pos) tb):PE X (.BoolOp .And (a::b::rest) pos) (B5 ta tb):=by
 intro d s i H Q I h;refine BoolOp_and (thn (n d s i H _ I h) λv k j=>?_);obtain⟨x,f,g,m,e⟩:=j;obtain⟨c,rfl,e⟩:=e;cases m;refine wpAny_truthy_bool ?_;cases c with
 | true=>exact l d k i f Q g e
 | false=>exact⟨.bl false,f,g,rfl,e⟩
theorem B7(n:PE X a ta)(l:PE X (.BoolOp .Or (b::rest) pos) tb):PE X (.BoolOp .Or (a::b::rest) pos) (Fs ta tb):=by
 intro d s i H Q I h;refine BoolOp_or (thn (n d s i H _ I h) λv k j=>?_);obtain⟨x,f,g,m,e⟩:=j;obtain⟨c,rfl,e⟩:=e;cases m;refine wpAny_truthy_bool ?_;cases c with
 | false=>exact l d k i f Q g e
 | true=>exact⟨.bl true,f,g,rfl,e⟩
theorem ze(g:PE X a ta):PE X (.UnaryOp .Not a pos) (B6 ta):=by intro d s l H Q I h;refine UnaryOp_ (thn (g d s l H _ I h) λv m i=>?_);obtain⟨x,k,j,f,e⟩:=i;obtain⟨c,rfl,e⟩:=e;cases f;exact not_of (wpAny_truthy_bool ⟨.bl (!c),k,j,rfl,e⟩)
def IS(t:TT)(ta tb:TE):TE:=λd H Q=>t d H λc e=>if c=true then ta d e Q else tb d e Q
theorem qQ{c:Expr}(o:PT X c tA)(m:PE X a ta)(l:PE X b tb):PE X (.IfExp c a b pos) (IS tA ta tb):=by
 intro e s f H Q I h;refine wpAny_IfExp (thn (o e s f H _ I h) λd i n=>?_);obtain⟨j,k,g⟩:=n;cases d with
 | true=>exact m e i f j Q k g
 | false=>exact l e i f j Q k g
end
end
section
def SqL(K:Waa)(H:Hp)(a:Addr)(xs:List V):Prop :=
 Rd H a (.lst xs) \/
  ∃(o:Obj) (b:Array Value) (n:Nat),K.lookup a=some o/\o.cls=.type "list"/\o.dict=none/\o.data=.seq b n/\b.size<=sizeLine/\Vals xs b.toList
def SqT(K:Waa)(H:Hp)(a:Addr)(xs:List V):Prop :=
 Rd H a (.tup xs) \/
  ∃(o:Obj) (b:Array Value) (n:Nat),K.lookup a=some o/\o.cls=.type "tuple"/\o.dict=none/\o.data=.seq b n/\b.size<=sizeLine/\Vals xs b.toList
def Ft:Value->Option V
 | .none=>some .non
 | .bool b=>some (.bl b)
 | .int i _=>some (.int i)
 | .str x _=>some (.str x)
 | .bytes b _=>some (.byt b)
 | .float b _=>some (.flt b)
 | .ref a=>some (.ref a)
 | .type n=>some (.ty n)
 | _=>none
theorem RelV.abs(r:RelV x u):Ft u=some x:=by
 cases x with
 | non=>cases r;rfl
 | bl _=>cases r;rfl
 | int _=>obtain⟨t,rfl⟩:=r;rfl
 | str _=>obtain⟨t,rfl⟩:=r;rfl
 | byt _=>obtain⟨t,rfl⟩:=r;rfl
 | flt _=>obtain⟨t,rfl⟩:=r;rfl
 | ref _=>cases r;rfl
 | ty _=>cases r;rfl
theorem RelV.inj{x y:V}{u:Value}(r:RelV x u)(q:RelV y u):x=y:=aaC (r.abs.symm.trans q.abs)
theorem Vals.inj{xs ys:List V}{us:List Value}(h:Vals xs us)(h':Vals ys us):xs=ys:=by
 induction us generalizing xs ys with
 | nil=>cases h;cases h';rfl
 | cons u us c=>cases h with | cons r t=>cases h' with | cons b a=>rw[r.inj b,c t a]
section
variable{X:Cx}{pins:List (Addr × Obj)}{σ:St}{H:Hp}{s:Shared}{a:Addr}{xs ys:List V}
theorem SqL.of{K:Waa}(h:H a=some (.lst xs)):SqL K H a xs:=.inl (.inl h)
theorem SqT.of{K:Waa}(h:H a=some (.tup xs)):SqT K H a xs:=.inl (.inl h)
theorem Inv.list(I:Inv X pins σ H s)(h:SqL X.K H a xs):∃b:List Value,Vals xs b/\PlainL s.heap a b.toArray/\xs.length<=sizeLine:=by
 rcases h with h | ⟨o,b,n,g,d,f,c,i,r⟩
 ·obtain⟨z,b,n,r,e⟩:=h.ok I.hok;exact⟨b,r,⟨_,n,e,rfl,rfl,rfl⟩,z⟩
 ·refine⟨b.toList,r,⟨o,n,I.kIn a o g,d,f,by simpa using c⟩,?_⟩;have e:=r.length;simp only[abW]at e;omega
theorem Inv.tuple(I:Inv X pins σ H s)(h:SqT X.K H a xs):∃b:List Value,Vals xs b/\IsTup s.heap a b.toArray/\xs.length<=sizeLine:=by
 rcases h with h | ⟨o,b,n,i,g,_,f,j,r⟩
 ·obtain⟨z,b,r,o,e,c,n,d,_⟩:=h.ok I.hok;exact⟨b,r,⟨o,e,c,n,d⟩,z⟩
 ·refine⟨b.toList,r,⟨o,I.kIn a o i,g,n,by simpa using f⟩,?_⟩;have e:=r.length;simp only[abW]at e;omega
theorem Inv.list_inj(I:Inv X pins σ H s)(h:SqL X.K H a xs)(h':SqL X.K H a ys):xs=ys:=by
 obtain⟨c,r,⟨o,n,e,_,_,d⟩,_⟩:=I.list h;obtain⟨b,i,⟨j,k,f,_,_,g⟩,_⟩:=I.list h';rw[e]at f;cases f;rw[d]at g;injection g with d1 _;have:c=b:=by simpa using congrArg Array.toList d1
 subst this;exact r.inj i
theorem Inv.tupN(I:Inv X pins σ H s)(h:SqT X.K H a xs):∃o,s.heap.get? a=some o/\o.cls=.type "tuple"/\o.dict=none:=by
 rcases h with h | ⟨o,b,n,i,f,g,j,k,r⟩
 ·obtain⟨_,_,_,o,e,c,_,_,d⟩:=h.ok I.hok;exact⟨o,e,c,d⟩
 ·exact⟨o,I.kIn a o i,f,g⟩
theorem Inv.tuple_inj(I:Inv X pins σ H s)(h:SqT X.K H a xs)(h':SqT X.K H a ys):xs=ys:=by
 obtain⟨c,r,⟨o,e,_,n,d⟩,_⟩:=I.tuple h;obtain⟨b,i,⟨j,f,_,k,g⟩,_⟩:=I.tuple h';rw[e]at f;cases f;rw[d]at g;injection g with d1 _;have:c=b:=by simpa using congrArg Array.toList d1
 subst this;exact r.inj i
end
abbrev Cx.wish(X:Cx)(E:Value->Shared->Prop):Cx:={ X with xe:=E }
abbrev Cx.nox(X:Cx):Cx:=X.wish λ_ _=>False
theorem Cx.Ok.wish{X:Cx}(a:X.Ok)(E:Value->Shared->Prop):(X.wish E).Ok :=
 ⟨a.mod,a.kind,a.glob,a.blt,a.above,a.inj,a.has,a.cab,a.hd,a.frames,a.stk,a.exf,a.bs,a.bsz,a.noex,a.exfs,a.funs,a.frf⟩
theorem Cx.Ok.unwish{X:Cx}(a:(X.wish E).Ok):X.Ok :=
 ⟨a.mod,a.kind,a.glob,a.blt,a.above,a.inj,a.has,a.cab,a.hd,a.frames,a.stk,a.exf,a.bs,a.bsz,a.noex,a.exfs,a.funs,a.frf⟩
section
variable{X:Cx}{pins:List (Addr × Obj)}{σ:St}{H:Hp}{s:Shared}{E:Value->Shared->Prop}
theorem Inv.wish(I:Inv X pins σ H s)(E:Value->Shared->Prop):Inv (X.wish E) pins σ H s:=⟨I.ok.wish E,I.os,I.bare,I.base,I.loc,I.cell,I.free,I.freeC,I.pin,I.hok,I.len⟩
theorem Inv.unwish(I:Inv (X.wish E) pins σ H s):Inv X pins σ H s:=⟨I.ok.unwish,I.os,I.bare,I.base,I.loc,I.cell,I.free,I.freeC,I.pin,I.hok,I.len⟩
theorem SP.unwish{D:Ends}(h:SP (X.wish E) pins D f s'):SP X pins D f s':=by
 cases f with
 | next=>obtain⟨a,b,I,q⟩:=h;exact⟨a,b,I.unwish,q⟩
 | brk=>obtain⟨a,b,I,q⟩:=h;exact⟨a,b,I.unwish,q⟩
 | cont=>obtain⟨a,b,I,q⟩:=h;exact⟨a,b,I.unwish,q⟩
 | ret u=>obtain⟨v,a,b,I,r,q⟩:=h;exact⟨v,a,b,I.unwish,r,q⟩
theorem PE.nox(h:PE X.nox e t):PE X e t:=λpins s σ H Q I a =>
 wpAny_mono (h pins s σ H Q (I.wish _) a) (λ_ _ ⟨v,c,b,r,q⟩=>⟨v,c,b.unwish,r,q⟩) λ_ _ z=>False.elim z
theorem PT.nox(h:PT X.nox e t):PT X e t:=λpins s σ H Q I a =>
 wpAny_mono (h pins s σ H Q (I.wish _) a) (λ_ _ ⟨c,b,q⟩=>⟨c,b.unwish,q⟩) λ_ _ z=>False.elim z
theorem PSs.nox{a:List Stmt}(h:PSs X.nox a t):PSs X a t:=λpins s σ H D I b =>
 wpAny_mono (h pins s σ H D (I.wish _) b) (λ_ _ q=>q.unwish) λ_ _ z=>False.elim z
end
section
variable{X:Cx}{st:Stmt}{rest:List Stmt}{t u:TS}{e:Expr}{te:TE}{pos:Pos}
def tNext:TS:=λD a H=>D.nx a H
def Fu(t u:TS):TS:=λD a H=>t { D with nx:=u D } a H
theorem vg:PSs X [] tNext:=λ_ _ a H _ I h=>wpAny_execs_nil ⟨a,H,I,h⟩
theorem qR(c:PS X st t)(d:PSs X rest u):PSs X (st::rest) (Fu t u):=by
 intro a s j H D I h;refine wpAny_execs_cons (thn (c a s j H { D with nx:=u D } I h) λf g q=>?_);cases f with
 | next =>obtain⟨b,k,i,q⟩:=q;exact d a g b k D i q
 | ret v=>exact q
 | brk=>exact q
 | cont=>exact q
def Fv:TS:=λD a H=>D.bk a H
def tCont:TS:=λD a H=>D.ct a H
theorem kj:PS X (.Continue pos) tCont:=λ_ _ a H _ I h=>wpAny_Continue ⟨a,H,I,h⟩
theorem Inv.quiet{a:List (Addr × Obj)}{σ:St}(I:Inv X a σ H s):interactive X.env=false:=by simp[interactive,I.ok.kind]
def B8(te:TE):TS:=λD a H=>te a H λ_ b=>D.nx a b
theorem gw(f:PE X e te)(d:swapsWith e none pos.line X.env=pure false:=by rfl):PS X (.Expr e pos) (B8 te):=by intro a s b H D I h;exact wpAny_Expr_any (thn (f a s b H _ I h) λv j ⟨x,i,g,k,c⟩=>⟨b,i,g,c⟩) I.quiet d
def Fw(te:TE):TS:=λD a H=>te a H D.rt
theorem zf(f:PE X e te):PS X (.Return (some e) pos) (Fw te):=by intro a s b H D I h;exact wpAny_Return_some (thn (f a s b H _ I h) λv j ⟨x,i,g,d,c⟩=>⟨x,b,i,g,d,c⟩)
def Ho:TS:=λD _ H=>D.rt .non H
def Fx(c:TT)(t u:TS):TS:=λD a H=>c a H λb d=>if b=true then t D a d else u D a d
theorem B9{c:Expr}{a b:List Stmt}{l:TT}(q:PT X c l)(p:PSs X a t)(o:PSs X b u):PS X (.If c a b pos) (Fx l t u):=by
 intro f s g H D I h;refine wpAny_If (thn (q f s g H _ I h) λd j n=>?_);obtain⟨i,k,m⟩:=n;cases d with
 | true=>exact p f j g i D k m
 | false=>exact o f j g i D k m
def tNever:TS:=λ_ _ _=>False
theorem qS:PS X st tNever:=λ_ _ _ _ _ _ h=>h.elim
end
abbrev TG:=V->St->Hp->(St->Hp->Prop)->Prop
abbrev TGs:=List V->St->Hp->(St->Hp->Prop)->Prop
def PG(X:Cx)(a:Expr)(t:TG):Prop :=
 ∀(b:List (Addr × Obj)) (s:Shared) (d:St) (H:Hp) (v:V) (u:Value) (Q:St->Hp->Prop),Inv X b d H s->RelV v u->t v d H Q ->
  wpAny (model X.prog X.w) X.A (assign a X.env u) (λ_ f=>∃c e,Inv X b c e f/\Q c e) X.xe s
def BQ(X:Cx)(g:List Expr)(t:TGs):Prop :=
 ∀(a:List (Addr × Obj)) (s:Shared) (d:St) (H:Hp) (vs:List V) (c:List Value) (Q:St->Hp->Prop),Inv X a d H s->Vals vs c->t vs d H Q ->
  wpAny (model X.prog X.w) X.A (assignInOrder ((assignEach g X.env).map (·.2)) c) (λ_ f=>∃b e,Inv X a b e f/\Q b e) X.xe s
abbrev vh:=V->V->V->Hp->(Hp->Prop)->Prop
def PSet(X:Cx)(t:vh):Prop :=
 ∀(a:List (Addr × Obj)) (s:Shared) (d:St) (H:Hp) (o i v:V) (b c u:Value) (Q:Hp->Prop),Inv X a d H s->RelV o b->RelV i c->RelV v u->t o i v H Q ->
  wpAny (model X.prog X.w) X.A (setItem b c u) (λ_ f=>∃e,Inv X a d e f/\Q e) X.xe s
abbrev TIp:=V->V->Hp->VK->Prop
def Ca(X:Cx)(c:Operator)(t:TIp):Prop :=
 ∀(a:List (Addr × Obj)) (s:Shared) (b:St) (H:Hp) (x y:V) (v u:Value) (Q:VK),Inv X a b H s->RelV x v->RelV y u->t x y H Q ->
  wpAny (model X.prog X.w) X.A (inplaceOp c v u) (EP X a b Q) X.xe s
section
variable{X:Cx}{pos:Pos}
def kl(i:Nat):TG:=λv a H Q=>Q (a.set i (some v)) H
theorem vj(c:X.N.Nodup)(d:X.N[i]?=some x)(e:Loc X.env.scope x)(b:X.fn x=true\/X.env.scope.names.lookup x=some .local:=by first | exact .inl rfl | exact .inr rfl | assumption):PG X (.Name x pos) (kl i):=by intro a s j H v u Q I r h;exact wpAny_assign_Name (bJ I c d e r (λg f=>⟨_,H,f,h⟩) b)
def gNil:TGs:=λa b H Q=>a=[]/\Q b H
def Cb(t:TG)(u:TGs):TGs:=λb c H Q=>∃v r,b=v::r/\t v c H λa d=>u r a d Q
theorem vk:BQ X [] gNil:=by intro a s b H c d Q I r h;obtain⟨e,h⟩:=h;subst e;cases r;exact assignInOrder_nil ⟨b,H,I,h⟩
theorem qT{e:Expr}{es:List Expr}(g:PG X e t)(j:BQ X es u)
  (m:(assignEach (e::es) X.env).map (·.2)=assign e X.env::(assignEach es X.env).map (·.2):=by rfl):BQ X (e::es) (Cb t u):=by
 intro a s k H q w Q I r h;obtain⟨v,p,o,h⟩:=h;subst o;cases r with
 | cons r n =>rw[m];refine assignInOrder_cons (thn (g a s k H _ _ _ I r h) λ_ f c=>?_);obtain⟨b,d,i,l⟩:=c;exact j a f b d _ _ Q i n l
def Fy(K:Waa)(n:Nat)(t:TGs):TG:=λv c H Q=>∃a b,v=.ref a/\SqT K H a b/\b.length=n/\t b c H Q
theorem zg{k:Nat}(A:X.calm=true)(h:BQ X es t)
  (p:(assignEach es X.env).length=n:=by rfl) (d:(assignEach es X.env).findIdx? (·.1)=none:=by rfl):PG X (.Tuple es k pos) (Fy X.K n t):=by
 intro c s g H v u Q I r f;obtain⟨a,x,B,m,j,f⟩:=f;subst B;cases r;obtain⟨l,i,z,C⟩:=I.tuple m;refine assign_Tuple_tuple (I.ok.hd A) z (by simp[p,<- j,i.length]) d λq y=>?_;have w:Inv X c g H { s with heap:=q }:=I.kept λb o e=>y b o (aas (Heap.lt_size e)) e;exact h c _ g H x _ Q w (by simpa using i) f
def FA(e c:TE)(t:vh):TG:=λv a H Q=>e a H λo f=>c a f λi b=>t o i v b λd=>Q a d
theorem qU{o i:Expr}{f g:TE}{t:vh}(C:PE X o f)(q:PE X i g)(F:PSet X t)
  (z:∀v,assign (.Subscript o i pos) X.env v=(do
   let b <- holding [v] (eval o X.env)
   let d <- holding [v,b] (eval i X.env)
   standAt pos
   holding [v,b,d] (setItem b d v)
   release [v,b,d] []):=by intro _;rfl):PG X (.Subscript o i pos) (FA f g t):=by
 intro a s e H v u Q I r h;rw[z];refine wpAny_bind (wpAny_holding (thn (C a s e H _ I h) λb m c=>?_));obtain⟨x,l,A,p,D⟩:=c;refine wpAny_bind (wpAny_holding (thn (q a m e l _ A D) λd n c=>?_));obtain⟨y,j,B,k,G⟩:=c;refine wpAny_bind (wpAny_standAt (wpAny_bind (wpAny_holding (thn (F a n e j x y v b d u _ B p k r G) λ_ M c=>?_))));obtain⟨J,w,L⟩:=c;exact wpAny_release ⟨e,J,w,L⟩
def qV(c:TE)(g:TG):TS:=λD a H=>c a H λx b=>g x a b D.nx
theorem qW{b e:Expr}{c:TE}{g:TG}(t:PE X e c)(m:PG X b g)(r:swapsWithSole [b] e pos.line X.env=pure false:=by rfl)(l:swappedStores [b] e X.env=pure none:=by rfl)
  (n:(assignEach [b] X.env).map (·.2)=[assign b X.env]:=by rfl):PS X (.Assign [b] e pos) (qV c g):=by
 intro a s d H D I h;refine wpAny_Assign_stores (thn (t a s d H _ I h) λv i f=>?_) r l;obtain⟨x,j,o,k,p⟩:=f;rw[n];exact thn (m a i d j x v _ o k p) λ_ u q=>q
theorem zh{i:Nat}{x:Str}(k:X.N.Nodup)(g:X.N[i]?=some x)(m:Loc X.env.scope x)(q:PE X e te)(p:swapsWith e (some (.Name x pos')) pos.line X.env=pure false:=by rfl)(b:X.fn x=true\/X.env.scope.names.lookup x=some .local:=by first | exact .inl rfl | exact .inr rfl | assumption) :
  PS X (.Assign [.Name x pos'] e pos) (qV te (kl i)):=by
 intro a s n H D I h;refine wpAny_Assign_Name (thn (q a s n H _ I h) λv r c=>?_) p;obtain⟨y,d,j,f,o⟩:=c;exact bJ j k g m f (λt l=>⟨_,d,l,o⟩) b
def FB(i j:Nat)(c:TA):TS:=λD a H=>c a H λb d=>∃v w,b=[v,w]/\D.nx ((a.set i (some v)).set j (some w)) d
theorem zi{i j:Nat}{x y:Str}{n t d}(hc:X.calm=true)(B:X.N.Nodup)(P:X.N[i]?=some x)(T:X.N[j]?=some y)(l:i≠j)
  (F:X.env.scope.names.lookup x=some .local) (C:X.env.scope.names.lookup y=some .local) (S:PA X [a,b] ta)
  (U:swappedStores [.Tuple [.Name x px,.Name y py] n pt] (.Tuple [a,b] t d) X.env=pure (some [x,y]))
  (hs:swapsWithSole [.Tuple [.Name x px,.Name y py] n pt] (.Tuple [a,b] t d) pos.line X.env=pure false:=by rfl) :
  PS X (.Assign [.Tuple [.Name x px,.Name y py] n pt] (.Tuple [a,b] t d) pos) (FB i j ta):=by
 intro c s J H D I h;rw[exec_Assign_arm];refine wpAny_bind (wpAny_standAt ?_);rw[hs];refine wpAny_bind (wpAny_pure ?_);rw[if_neg (by decide)];refine wpAny_bind (Tuple_ (thn (S _ c s J H _ I h) λY k L=>?_));obtain⟨vs,z,W,O,r⟩:=L;obtain⟨v,w,e1,r⟩:=r;subst e1;obtain⟨g,f,rfl,rv,m⟩:∃g f,Y=[g,f]/\RelV v g/\RelV w f:=by
  cases O with
  | cons p q =>
   cases q with
   | cons p' q' =>cases q';exact⟨_,_,rfl,p,p'⟩
 refine wpAny_newObj_type ?_ (by show 2<=sizeLine;decide);have Z:Inv X c J z { k with heap:=k.heap.push { cls:=.type "tuple",data:=.seq [g,f].toArray } }:=W.kept λb o e=>Heap.get?_push_of_some _ e;rw[U];refine wpAny_bind (wpAny_pure ?_);show wpAny (model X.prog X.w) X.A (do rule "assign.swapped-stores";let items <- unpackItems (.ref k.heap.objs.size) 2 none;assignInOrder [λv=>bindName X.env y v,λv=>bindName X.env x v] items.reverse;pure Flow.next) _ _ _;refine wpAny_bind (wpAny_rule (wpAny_bind (unpackItems_tuple (items:=#[g,f]) (I.ok.hd hc) (IsTup.new k.heap _) λh' u=>?_)));have Q:=Z.kept (t':=k.toks) λb o e=>u b o (aas (Heap.lt_size e)) e;show wpAny _ _ (assignInOrder [λv=>bindName X.env y v,λv=>bindName X.env x v] [f,g] >>= λ_=>pure Flow.next) _ _ _;refine wpAny_bind (assignInOrder_cons (wpAny_bindName (bJ Q B T (.inl C) m (λs2 M=>?_) (.inr C))));refine assignInOrder_cons (wpAny_bindName (bJ M B P (.inl F) rv (λs3 G=>assignInOrder_nil (wpAny_pure ?_)) (.inr F)));rw[abw _ _ (aaN l)]at G;exact⟨_,z,G,r⟩
def FC(i:Nat)(e:TE)(c:TIp):TS:=λD a H=>∃x,a[i]?=some (some x)/\e a H λy d=>c x y d λz b=>D.nx (a.set i (some z)) b
theorem qX{i:Nat}{x:Str}{pos':Pos}(T:X.N.Nodup)(p:X.N[i]?=some x)(o:Loc X.env.scope x)(he:PE X e te)(W:Ca X op ti)(C:X.fn x=true\/X.env.scope.names.lookup x=some .local:=by first | exact .inl rfl | exact .inr rfl | assumption) :
  PS X (.AugAssign (.Name x pos') op e pos) (FC i te ti):=by
 intro a s t H D I h;obtain⟨v,e1,h⟩:=h;obtain⟨m,O,G⟩:=I.loc;have j:Vis X.env.scope x:=by rcases o with k | k;exact .inl k;exact .inr (.inl k)
 obtain⟨u,r,l⟩:=G i x v p e1 j;refine wpAny_AugAssign_Name ?_;have q:wpAny (model X.prog X.w) X.A (eval e X.env) (λw g=>wpAny (model X.prog X.w) X.A (inplaceOp op u w) (λr f=>wpAny (model X.prog X.w) X.A (storeName X.env x r) (λ_=>SP X a D .next) X.xe f) X.xe g) X.xe s:=by refine thn (he a s t H _ I h) λw M n=>?_;obtain⟨y,L,S,P,Y⟩:=n;refine thn (W a M t L v y u w _ S r P Y) λz s2 n=>?_;obtain⟨zv,B,U,F,Z⟩:=n;exact bJ U T p o F (λs3 Q=>⟨_,B,Q,Z⟩) C
 rcases l with ⟨b,J⟩ | ⟨b,c,hc,d⟩
 ·exact wpAny_loadName_local I.ok.kind b O J q
 ·rcases b with b | b
  ·exact wpAny_loadName_cell I.ok.kind b hc d q
  ·rcases o with k | k
   ·have:X.env.scope.names.lookup x=some .free:=b;rw[k]at this;cases this
   ·have:X.env.scope.names.lookup x=some .free:=b;rw[k]at this;cases this
def Hq(g k l:TE)(a:V->V->Hp->VK->Prop)(d:TIp)(b:vh):TS:=λD c H=>g c H λo j=>k c j λi e=>a o i e λx m=>l c m λy h=>d x y h λz n=>b o i z n λf=>D.nx c f
def IT(X:Cx)(t:V->V->Hp->VK->Prop):Prop :=
 ∀(a:List (Addr × Obj)) (s:Shared) (d:St) (H:Hp) (o i:V) (b c:Value) (Q:VK),Inv X a d H s->RelV o b->RelV i c->t o i H Q ->
  wpAny (model X.prog X.w) X.A (getItem b c) (EP X a d Q) X.xe s
def FD(f:Int->Int->Int):TIp:=λx y H Q=>∃i j,x=.int i/\y=.int j/\Q (.int (f i j)) H
theorem zj:Ca X .Add (FD λi j=>i + j):=by intro a s g H x y v u Q I d b h;obtain⟨i,j,e,c,q⟩:=h;subst e;subst c;obtain⟨t,rfl⟩:=d;obtain⟨f,rfl⟩:=b;exact iadd_int ⟨.int _,H,I.tok _,⟨_,rfl⟩,q⟩
theorem zk:Ca X .Sub (FD λi j=>i - j):=by intro a s g H x y v u Q I d b h;obtain⟨i,j,e,c,q⟩:=h;subst e;subst c;obtain⟨t,rfl⟩:=d;obtain⟨f,rfl⟩:=b;exact isub_int ⟨.int _,H,I.tok _,⟨_,rfl⟩,q⟩
end
section
variable{X:Cx}{pos:Pos}
def zl(c:TT)(h:TS):TS:=λD a H=>∃W:Nat->St->Hp->Prop,(∃m,W m a H)/\∀m a H,W m a H ->
 c a H λb f=>if b=true then ∃N:St->Hp->Prop,(∀d g,N d g->∃e,e < m/\W e d g)/\h { D with nx:=N,ct:=N,bk:=D.nx } a f else D.nx a f
theorem qY{c:Expr}{g:List Stmt}(C:PassesOwn (model X.prog X.w) X.A X.env X.xe)(U:PT X c tc)(J:PSs X g tb):PS X (.While c g [] pos) (zl tc tb):=by
 intro a s S H D I h;obtain⟨W,⟨T,O⟩,k⟩:=h;refine wpAny_While (codeAny_whileLoop (λn P=>∃i y,Inv X a i y P/\W n i y) ?_ T ⟨S,H,I,O⟩);rintro n G ⟨e,x,M,Q⟩;refine wpAny_passesOwn C (thn (U a G e x _ M (k n e x Q)) λb L F=>?_);obtain⟨u,B,l⟩:=F;cases b with
 | true =>
  obtain⟨N,z,l⟩:=l;rw[if_pos rfl];refine wpAny_passesOwn C (thn (J a L e u _ B l) λf Y m=>?_);cases f with
  | next =>obtain⟨d,j,r,t⟩:=m;obtain⟨o,q,p⟩:=z d j t;exact⟨o,q,d,j,r,p⟩
  | cont =>obtain⟨d,j,r,t⟩:=m;obtain⟨o,q,p⟩:=z d j t;exact⟨o,q,d,j,r,p⟩
  | brk=>exact m
  | ret v=>exact m
 | false =>rw[if_neg aae];exact wpAny_execs_nil ⟨e,u,B,l⟩
end
structure It where
 go:Nat->Hp->Prop
 yld:Nat->Hp->V->Hp->Prop
 stop:Nat->Hp->Prop
def FpOk(X:Cx)(a:List (Addr × Obj))(H:Hp)(b:Addr):Prop :=
 H b=none/\b≠X.env.locals/\b ∉ X.fs/\(b∈X.ex\/X.s₀.heap.objs.size<=b)/\(∀x c,X.env.cells.lookup x=some c->c≠b)/\∀p∈X.pn++a,p.1≠b
theorem Inv.fpOk(I:Inv X pins σ H s)(a:s.heap.objs.size<=b)(f:H' b=none):FpOk X pins H' b:=by
 refine⟨f,aa4 (aay I.lt a),I.nofs a,.inr (aat I.sz a),λx c e z=>?_,λp d z=>?_⟩
 ·obtain⟨v,q⟩:=I.cell x c e;exact absurd (aay q.lt (by rw[z];exact a)) (aa2 _)
 ·exact absurd (aay (Heap.lt_size (I.pin p d).1) (by rw[z];exact a)) (aa2 _)
structure Turn (P:Program)(w:World)(K:Waa)(tg:Expr)(J:It)(fp:List Addr)(it:Addr)(tn:Nat->Heap->Prop):Prop where
 mem:it∈fp
 obj:∀i h,tn i h->∀b∈fp,∃o,h.get? b=some o/\∀v,o.data≠.cell v
 keep:∀i h h',tn i h->(∀b∈fp,∀o,h.get? b=some o->h'.get? b=some o)->tn i h'
 item:∀(X:Cx),X.prog=P->X.w=w->X.K=K->X.calm=true->∀(i:Nat) (pins:List (Addr × Obj)) (s:Shared) (σ:St) (H:Hp) (E:Value->Shared->Prop),Inv X pins σ H s->(∀b∈fp,FpOk X pins H b)->tn i s.heap->J.go i H ->
  wpAny (model P w) X.A (pyNext (.ref it)) (λr s1=>∃u,r=some u /\
   wpAny (model P w) X.A (letOwnedTupleGo tg (.ref it) u) (λ_ s2=>∃x H',Inv X pins σ H' s2/\RelV x u/\J.yld i H x H'/\tn (i + 1) s2.heap/\∀b∈fp,H' b=none) E s1) E s
 done:∀(X:Cx),X.prog=P->X.w=w->X.K=K->X.calm=true->∀(i:Nat) (pins:List (Addr × Obj)) (s:Shared) (σ:St) (H:Hp) (E:Value->Shared->Prop),Inv X pins σ H s->(∀b∈fp,FpOk X pins H b)->tn i s.heap->J.stop i H ->
  wpAny (model P w) X.A (pyNext (.ref it)) (λr s1=>r=none/\Inv X pins σ H s1) E s
 self:∀(A:Around) (i:Nat) (s:Shared) (Q:Value->Shared->Prop) (E:Value->Shared->Prop),tn i s.heap->Q (.ref it) s->wpAny (model P w) A (pyIter (.ref it)) Q E s
abbrev TI:=St->Hp->(It->Hp->Prop)->Prop
def Hr(X:Cx)(a:List (Addr × Obj))(σ:St)(i:Expr)(R:It->Hp->Prop)(c:Value)(g:Shared):Prop :=
 ∃(h:Addr) (f:List Addr) (e:Nat->Heap->Prop) (J:It) (d:Hp),c=.ref h/\Inv X a σ d g/\Turn X.prog X.w X.K i J f h e/\e 0 g.heap/\(∀b∈f,FpOk X a d b)/\R J d
def PI(X:Cx)(e b:Expr)(d:TI):Prop :=
 ∀(a:List (Addr × Obj)) (s:Shared) (c:St) (H:Hp) (R:It->Hp->Prop),Inv X a c H s->d c H R ->
  wpAny (model X.prog X.w) X.A (eval b X.env) (λv f=>wpAny (model X.prog X.w) X.A (pyIter v) (Hr X a c e R) X.xe f) X.xe s
theorem qZ(b:s.heap.get? it=some o)(c:o.cls=.type n)(d:o.data=.fields vs)
  (e:["enumerate","zip","dict_itemiterator","dict_reverseitemiterator","odict_iterator","itertools.zip_longest","itertools.pairwise"].contains n=false) (a:Q () s):wpAny M A (letOwnedTupleGo tg (.ref it) u) Q E s:=by
 unfold letOwnedTupleGo;cases tg<;>first
  | exact wpAny_pure a
  | (cases u<;>first
    | exact wpAny_pure a
    | (refine wpAny_bind (wpAny_load b ?_)
       rw[c,d];show wpAny M A (if (["enumerate","zip","dict_itemiterator","dict_reverseitemiterator","odict_iterator","itertools.zip_longest","itertools.pairwise"].contains n && vs[0]? == some (rawInt _))=true then _ else _) Q E s;rw[if_neg (by intro h;rw[e,abX]at h;cases h)];exact wpAny_pure a))
def FE(K:Waa)(a:Addr):It :=
 ⟨λi H=>∃b x,SqL K H a b/\b[i]?=some x,λi H x c=>c=H/\∀b,SqL K H a b->b[i]?=some x,λi H=>∃b,SqL K H a b/\b.length<=i⟩
def FF(K:Waa)(a:Addr):It :=
 ⟨λi H=>∃b x,SqT K H a b/\b[i]?=some x,λi H x c=>c=H/\∀b,SqT K H a b->b[i]?=some x,λi H=>∃b,SqT K H a b/\b.length<=i⟩
def Cc(lo:Int)(n:Nat):It:=⟨λi _=>i < n,λi H x a=>a=H/\x=.int (lo + i),λi _=>n<=i⟩
theorem pj{K:Waa}(a it:Addr):Turn P w K tg (FE K a) [it] it (λi h=>h.IsListIter it a i) where
 mem:=by simp
 obj:=λi h f b j=>by
  have e:b=it:=by simpa using j
  subst e;obtain⟨o,e,c,d⟩:=f;exact⟨o,e,λv z=>by rw[d]at z;cases z⟩
 keep:=λi h y f k=>f.at λo e=>k it (by simp) o e
 item:=by intro X A B J O i g s N H E I m f C;subst A B J;obtain⟨Y,x,n,F⟩:=C;obtain⟨q,M,p,S⟩:=I.list n;obtain⟨u,hu,ru⟩:=M.get F;obtain⟨r,D,Q,G,t,L⟩:=m it (by simp);refine wpAny_pyNext_list_item f p.isList (by simpa using hu) λy l Z=>?_;have U:Inv X g N H { s with heap:=y }:=I.turned (λb o j e=>(Z.2 b j).trans e) r D G t L;obtain⟨o,e,c,d⟩:=id l;exact⟨u,rfl,qZ e c d (by decide) ⟨x,H,U,ru,⟨rfl,λys W=>by rw[I.list_inj W n];exact F⟩,l,λb j=>(m b j).1⟩⟩
 done:=by
  intro X A B J O i g s N H E I m f C;subst A B J;obtain⟨Y,n,F⟩:=C;obtain⟨q,M,p,S⟩:=I.list n;obtain⟨r,D,Q,G,t,L⟩:=m it (by simp);have hl:=M.length;exact wpAny_pyNext_list_end (I.ok.hd O) f p.isList (by simp;omega) λy T=>⟨rfl,I.turned (λb o j e=>T b o j e) r D G t L⟩
 self:=λ_ _ _ _ _ f h=>wpAny_pyIter_listiter f h
theorem lK{K:Waa}(a it:Addr):Turn P w K tg (FF K a) [it] it (λi h=>h.IsTupleIter it a i) where
 mem:=by simp
 obj:=λi h f b l=>by
  have e:b=it:=by simpa using l
  subst e;obtain⟨o,e,c,d⟩:=f;exact⟨o,e,λv z=>by rw[d]at z;cases z⟩
 keep:=λi h y f k=>f.at λo e=>k it (by simp) o e
 item:=by intro X A B J O i g s N H E I n f C;subst A B J;obtain⟨Y,x,q,F⟩:=C;obtain⟨j,M,p,S⟩:=I.tuple q;obtain⟨u,hu,ru⟩:=M.get F;obtain⟨r,D,Q,G,t,L⟩:=n it (by simp);refine wpAny_pyNext_tuple_item f (show s.heap.IsTuple a j.toArray from p) (by simpa using hu) λy m Z=>?_;have U:Inv X g N H { s with heap:=y }:=I.turned (λb o l e=>(Z.2 b l).trans e) r D G t L;obtain⟨o,e,c,d⟩:=id m;exact⟨u,rfl,qZ e c d (by decide) ⟨x,H,U,ru,⟨rfl,λys W=>by rw[I.tuple_inj W q];exact F⟩,m,λb l=>(n b l).1⟩⟩
 done:=by
  intro X A B J O i g s N H E I n f C;subst A B J;obtain⟨Y,q,F⟩:=C;obtain⟨j,M,p,S⟩:=I.tuple q;obtain⟨r,D,Q,G,t,L⟩:=n it (by simp);have hl:=M.length;exact wpAny_pyNext_tuple_end (I.ok.hd O) f (show s.heap.IsTuple a j.toArray from p) (by simp;omega) λy T=>⟨rfl,I.turned (λb o l e=>T b o l e) r D G t L⟩
 self:=λ_ _ _ _ _ f h=>wpAny_pyIter_tupleiter f h
theorem lL{K:Waa}(it:Addr)(lo:Int)(n:Nat):Turn P w K tg (Cc lo n) [it] it (λi h=>IsRangeIter h it (lo + (i:Nat) * 1) ((n:Int) - (i:Nat)) 1) where
 mem:=by simp
 obj:=λi h a b d=>by
  have e:b=it:=by simpa using d
  subst e;exact⟨_,a,λv z=>by
   have N:Data.fields _=Data.cell v:=z;cases N⟩
 keep:=λi h m a k=>k it (by simp) _ a
 item:=by intro X p q y B i c s C H E I g a r;subst p q y;obtain⟨j,u,F,x,l,A⟩:=g it (by simp);have W:=Walks.range (prog:=X.prog) (w:=X.w) (I.ok.hd B) it lo 1 n;refine W.item i s _ _ r a λv m M D f G=>?_;obtain⟨t,rfl⟩:=D;have L:Inv X c C H { s with heap:=m,toks:=M }:=I.turned (λb o d e=>G b o (by simpa using d) e) j u x l A;refine⟨_,rfl,qZ f rfl rfl (by decide) ⟨.int (lo + i),H,L,⟨t,?_⟩,⟨rfl,rfl⟩,f,λb d=>(g b d).1⟩⟩;rw[Int.mul_one]
 done:=by
  intro X p q y B i c s C H E I g a r;subst p q y;obtain⟨j,u,F,x,l,A⟩:=g it (by simp);exact wpAny_pyNext_range_end (I.ok.hd B) a (by have:n<=i:=r;omega) λm J=>⟨rfl,I.turned (λb o d e=>J b o d e) j u x l A⟩
 self:=λ_ _ _ _ _ a h=>wpAny_pyIter_rangeiter a h
end
section
section
variable{X:Cx}{tg:Expr}
def Cd(K:Waa)(c:TE):TI:=λe H R=>c e H λx b=>∃a,x=.ref a/\(∃d,SqL K b a d)/\R (FE K a) b
def FG(K:Waa)(c:TE):TI:=λe H R=>c e H λx b=>∃a,x=.ref a/\(∃d,SqT K b a d)/\R (FF K a) b
theorem vm{l:Expr}{g:TE}(i:PE X l g):PI X tg l (Cd X.K g):=by
 intro c s u H R I h;refine thn (i c s u H _ I h) λv d k=>?_;obtain⟨x,m,f,t,w⟩:=k;obtain⟨a,e,⟨z,n⟩,q⟩:=w;subst e;cases t;obtain⟨j,A,p,y⟩:=f.list n;refine wpAny_pyIter_list p.isList ?_;refine⟨d.heap.objs.size,[d.heap.objs.size],_,_,m,rfl,f.kept (t':=d.toks) λb o e=>Heap.get?_push_of_some _ e,pj a _,⟨_,Heap.get?_push_size _ rfl,rfl,rfl⟩,λb r=>?_,q⟩;have e:b=d.heap.objs.size:=by simpa using r
 subst e;exact f.fpOk (aah _) (f.hok.fresh (aah _))
theorem zo{l:Expr}{i:TE}(j:PE X l i):PI X tg l (FG X.K i):=by
 intro c s u H R I h;refine thn (j c s u H _ I h) λv d k=>?_;obtain⟨x,m,f,t,w⟩:=k;obtain⟨a,e,⟨z,n⟩,q⟩:=w;subst e;cases t;obtain⟨g,A,p,y⟩:=f.tuple n;refine wpAny_pyIter_tuple (show d.heap.IsTuple a g.toArray from p) ?_;refine⟨d.heap.objs.size,[d.heap.objs.size],_,_,m,rfl,f.kept (t':=d.toks) λb o e=>Heap.get?_push_of_some _ e,lK a _,⟨_,Heap.get?_push_size _ rfl,rfl,rfl⟩,λb r=>?_,q⟩;have e:b=d.heap.objs.size:=by simpa using r
 subst e;exact f.fpOk (aah _) (f.hok.fresh (aah _))
theorem km{R:It->Hp->Prop}{lo a:Int}{t u v:Tok}{d:Nat}(I:Inv X pins σ H s)(h:-(2 ^ 62)<=lo)(j:lo < 2 ^ 62)(k:-(2 ^ 62)<=a)(i:a < 2 ^ 62)
  (q:R (Cc lo (a - lo).toNat) H):wpAny (model X.prog X.w) X.A (pyIter (.ref s.heap.objs.size)) (Hr X pins σ tg R) E { s with heap:=s.heap.push { cls:=.type "range",data:=.fields #[.int lo t,.int a u,.int 1 v] },toks:=d }:=by
 refine wpAny_pyIter_range (IsRange.new ..) (small_one h j k i) ?_;have c:Inv X pins σ H { s with heap:=s.heap.push { cls:=.type "range",data:=.fields #[.int lo t,.int a u,.int 1 v] },toks:=d }:=I.kept λb o e=>Heap.get?_push_of_some _ e;refine⟨(s.heap.push { cls:=.type "range",data:=.fields #[.int lo t,.int a u,.int 1 v] }).objs.size,[(s.heap.push { cls:=.type "range",data:=.fields #[.int lo t,.int a u,.int 1 v] }).objs.size],_,_,H,rfl,
  c.kept λb o e=>Heap.get?_push_of_some _ e,lL _ lo (a - lo).toNat,?_,λb f=>?_,q⟩
 ·have l:lo + ((0:Nat):Int) * 1=lo:=by simp
  have g:(((a - lo).toNat:Nat):Int) - ((0:Nat):Int)=Builtin.Range.rangeSize lo a 1:=by rw[rangeSize_one];split<;>omega
  show IsRangeIter _ _ (lo + ((0:Nat):Int) * 1) ((((a - lo).toNat:Nat):Int) - ((0:Nat):Int)) 1;rw[l,g];exact Heap.get?_push_size _ rfl
 ·have e:b=(s.heap.push { cls:=.type "range",data:=.fields #[.int lo t,.int a u,.int 1 v] }).objs.size:=by simpa using f
  subst e;exact c.fpOk (aah _) (c.hok.fresh (aah _))
def Ce(b:TA):TI:=λd H R=>b d H λa c=>∃j:Int,a=[.int j]/\-(2 ^ 62)<=j/\j < 2 ^ 62/\R (Cc 0 j.toNat) c
def Cg(b:TA):TI:=λd H R=>b d H λa c=>∃i j:Int,a=[.int i,.int j]/\(-(2 ^ 62)<=i/\i < 2 ^ 62/\-(2 ^ 62)<=j/\j < 2 ^ 62)/\R (Cc i (j - i).toNat) c
theorem pk {a:Expr} {d:TA} {p pos:Pos} (l:Gl X "range") (f:X.mg "range"=none) (k:PA X [a] d) (o:starEach [a] X.env=[(false,eval a X.env)]:=by rfl):PI X tg (.Call (.Name "range" p) [a] [] pos) (Ce d):=by
 intro b s n H R I h;refine Call_ (eh I l f boot_range (abj (thn (k pos b s n H _ I h) λz x g=>?_) o rfl));obtain⟨y,w,m,i,c⟩:=g;obtain⟨j,e,c,u,q⟩:=c;subst e;cases i with
 | cons r v =>cases v;obtain⟨t,rfl⟩:=r;exact call_range_1 (km m (by omega) (by omega) c u (by simpa using q))
theorem pq {a b:Expr} {k:TA} {p pos:Pos} (v:Gl X "range") (m:X.mg "range"=none) (u:PA X [a,b] k) (y:starEach [a,b] X.env=[(false,eval a X.env),(false,eval b X.env)]:=by rfl) (d:starEach [b] X.env=[(false,eval b X.env)]:=by rfl) :
  PI X tg (.Call (.Name "range" p) [a,b] [] pos) (Cg k):=by
 intro c s x H R I h;refine Call_ (eh I v m boot_range (abj (thn (u pos c s x H _ I h) λJ F n=>?_) (by rw[y,d]) (by rw[d];rfl)));obtain⟨G,D,w,o,f⟩:=n;obtain⟨i,j,e,⟨f,z,B,l⟩,q⟩:=f;subst e;cases o with
 | cons r g =>
  cases g with
  | cons A g =>cases g;obtain⟨t,rfl⟩:=r;obtain⟨C,rfl⟩:=A;exact call_range_2 (km w f z B l q)
def FH(f:TI)(g:TG)(h:TS):TS:=λD a H=>f a H λJ k=>∃W:Nat->Nat->St->Hp->Prop,(∃m,W 0 m a k)/\∀i m a H,W i m a H ->
 (J.stop i H/\D.nx a H)\/(J.go i H/\∃N:St->Hp->Prop,(∀b c,N b c->∃e,e < m/\W (i + 1) e b c)/\∀x c,J.yld i H x c->g x a c λd j=>h { D with nx:=N,ct:=N,bk:=D.nx } d j)
def pinsAt(a:List Addr)(h:Heap):List (Addr × Obj):=a.filterMap λb=>(h.get? b).map λo=>(b,o)
theorem bD(a:b∈fp)(e:h.get? b=some o):(b,o)∈pinsAt fp h:=List.mem_filterMap.mpr ⟨b,a,by rw[e];rfl⟩
theorem pv(d:p∈pinsAt fp h):p.1∈fp/\h.get? p.1=some p.2:=by
 obtain⟨b,a,e⟩:=List.mem_filterMap.mp d;cases q:h.get? b with
 | none=>rw[q]at e;cases e
 | some o =>rw[q]at e;have c:(b,o)=p:=aaC e;subst c;exact⟨a,q⟩
theorem Inv.pinned(I:Inv X pins σ H s)(f:∀b∈fp,FpOk X pins H b)(j:∀b∈fp,∃o,s.heap.get? b=some o/\∀v,o.data≠.cell v):Inv X (pins++pinsAt fp s.heap) σ H s :=
 I.pins_of λp g=>(aan.mp g).elim (λz=>I.pin p (aad _ z)) λz=>by obtain⟨a,e⟩:=pv z;obtain⟨k,i,h,_⟩:=f p.1 a;obtain⟨o,c,d⟩:=j p.1 a;rw[e]at c;cases c;exact⟨e,k,i,h,d⟩
theorem Inv.unpinned(I:Inv X (pins++pl) σ H s):Inv X pins σ H s:=I.pins_of λp a=>I.pin p (aad _ (aaf _ a))
theorem zp{p:Expr}{C:List Stmt}{pos:Pos}(Y:PassesOwn (model X.prog X.w) X.A X.env X.xe)(hc:X.calm=true)(hi:PI X tg p wi)(hg:PG X tg g)(j:PSs X C tb)
  (hs:∀x,foldedSetIterable p X.env x=pure x:=by intro _;rfl):PS X (.For tg p C [] pos) (FH wi g tb):=by
 intro c s σ H D I h;refine wpAny_For (thn (hi c s σ H _ I h) λv s1 h1=>thn h1 λa4 s2 h2=>?_) hs;obtain⟨it,M,tn,J,H2,e,I2,T,a0,f2,W,⟨m0,w0⟩,Q⟩:=h2;subst e;have y:∀{B:Hp},(∀b∈M,B b=none)->∀b∈M,FpOk X c B b:=λhn b j=>⟨hn b j,(f2 b j).2⟩
 refine codeAny_forLoop_any (λn s'=>∃i t B,Inv X c t B s'/\tn i s'.heap/\(∀b∈M,B b=none)/\W i n t B) ?_ m0 ⟨0,σ,H2,I2,a0,λb j=>(f2 b j).1,w0⟩;rintro n s3 ⟨i,k,H3,I3,S,U,w3⟩;rcases Q i n k H3 w3 with ⟨Z,qn⟩ | ⟨go,N,hN,O⟩
 ·refine wpAny_passesOwn Y (thn (T.done X rfl rfl rfl hc i c s3 k H3 X.xe I3 (y U) S Z) λr s4 L=>?_);obtain⟨hr,I4⟩:=L;subst hr;exact wpAny_execs_nil ⟨k,H3,I4,qn⟩
 ·refine wpAny_passesOwn Y (thn (T.item X rfl rfl rfl hc i c s3 k H3 X.xe I3 (y U) S go) λr s4 L=>?_);obtain⟨u,hr,h4⟩:=L;subst hr;refine wpAny_passesOwn Y (thn h4 λ_ s5 L=>?_);obtain⟨x,H5,I5,r5,y5,G,a2⟩:=L;have a3:=I5.pinned (y a2) (T.obj _ _ G);refine wpAny_passesOwn Y (thn (hg _ s5 k H5 x u _ a3 r5 (O x H5 y5)) λ_ s6 L=>?_);obtain⟨a1,H6,I6,q6⟩:=L;refine wpAny_passesOwn Y (thn (j _ s6 a1 H6 _ I6 q6) λf s7 F=>?_);have l:∀{a:St} {q:Hp},Inv X (c++pinsAt M s5.heap) a q s7->N a q->∃m,m < n/\∃i t B,Inv X c t B s7/\tn i s7.heap/\(∀b∈M,B b=none)/\W i m t B:=λ{a q} z P=>by obtain⟨m',hm,w7⟩:=hN a q P;refine⟨m',hm,i + 1,a,q,z.unpinned,T.keep _ _ _ G λb j o e=>(z.pin (b,o) (aad _ (aad _ (bD j e)))).1,λb j=>?_,w7⟩;obtain⟨o,e,d⟩:=T.obj _ _ G b j;exact (z.pin (b,o) (aad _ (aad _ (bD j e)))).2.1
  cases f with
  | next=>obtain⟨a,q,z,P⟩:=F;exact l z P
  | cont=>obtain⟨a,q,z,P⟩:=F;exact l z P
  | brk=>obtain⟨a,q,z,F⟩:=F;exact⟨a,q,z.unpinned,F⟩
  | ret v=>obtain⟨x7,a,q,z,r7,F⟩:=F;exact⟨x7,a,q,z.unpinned,r7,F⟩
end
end
section
abbrev R2:=V->V->Hp->VK->Prop
def OpR(X:Cx)(f:Value->Value->Sem Value)(r:R2):Prop :=
 ∀(a:List (Addr × Obj)) (s:Shared) (b:St) (H:Hp) (x y:V) (v u:Value) (Q:VK),Inv X a b H s->RelV x v->RelV y u->r x y H Q ->
  wpAny (model X.prog X.w) X.A (f v u) (EP X a b Q) X.xe s
def FI(X:Cx)(f:Value->Sem Value)(r:V->Hp->VK->Prop):Prop :=
 ∀(a:List (Addr × Obj)) (s:Shared) (b:St) (H:Hp) (x:V) (v:Value) (Q:VK),Inv X a b H s->RelV x v->r x H Q ->
  wpAny (model X.prog X.w) X.A (f v) (EP X a b Q) X.xe s
def CallR(X:Cx)(f:Value)(r:List V->Hp->VK->Prop):Prop :=
 ∀(a:List (Addr × Obj)) (s:Shared) (d:St) (H:Hp) (c:List V) (b:List Value) (Q:VK),Inv X a d H s->Vals c b->r c H Q ->
  wpAny (model X.prog X.w) X.A (call f b) (EP X a d Q) X.xe s
def FJ(X:Cx)(r:V->Hp->(Bool->Hp->Prop)->Prop):Prop :=
 ∀(a:List (Addr × Obj)) (s:Shared) (b:St) (H:Hp) (x:V) (v:Value) (Q:Bool->Hp->Prop),Inv X a b H s->RelV x v->r x H Q ->
  wpAny (model X.prog X.w) X.A (truthy v) (TP X a b Q) X.xe s
def Ci(r:R2)(d c:TE):TE:=λa H Q=>d a H λx e=>c a e λy b=>r x y b Q
def IU(r:V->Hp->VK->Prop)(a:TE):TE:=λc H Q=>a c H λx b=>r x b Q
def rI(C:Int->Int->Prop)(g:Int->Int->V):R2:=λx y H Q=>∃i j,x=.int i/\y=.int j/\C i j/\Q (g i j) H
def uW(g:Int->Int->V):R2:=λx y H Q=>∃i j,x=.int i/\y=.int j/\Q (g i j) H
def rU(g:Int->V):V->Hp->VK->Prop:=λx H Q=>∃i,x=.int i/\Q (g i) H
section
variable{X:Cx}{a b c:Expr}{ta tb tc:TE}{pos:Pos}
theorem zq(r:PE X a ta)(p:PE X b tb){d:List (Addr × Obj)}{s:Shared}{R:V->V->Hp->Prop}(I:Inv X d σ H s)
  (h:ta σ H λx l=>tb σ l λy e=>R x y e) {f:Value->Value->Sem Value}
  (m:∀v u j x y e,Inv X d σ e j->RelV x v->RelV y u->R x y e->wpAny (model X.prog X.w) X.A (f v u) Q X.xe j) :
  wpAny (model X.prog X.w) X.A (eval a X.env) (λv g=>wpAny (model X.prog X.w) X.A (eval b X.env) (λu i=>wpAny (model X.prog X.w) X.A (f v u) Q X.xe i) X.xe g) X.xe s:=by
 refine thn (r d s σ H _ I h) λv o k=>?_;obtain⟨x,l,t,q,B⟩:=k;refine thn (p d o σ l _ t B) λu j k=>?_;obtain⟨y,e,z,n,C⟩:=k;exact m v u j x y e z q n C
theorem rg(l:OpR X (binaryOp op) r)(j:PE X a ta)(g:PE X b tb):PE X (.BinOp a op b pos) (Ci r ta tb):=by intro d s m H Q I h;exact wpAny_BinOp (zq j g I h λv u i x y e k n f q=>l d i m e x y v u Q k n f q)
theorem yc{e:UnaryOp}(m:FI X (unaryOp e) r)(k:PE X a ta):PE X (.UnaryOp e a pos) (IU r ta):=by intro d s f H Q I h;exact UnaryOp_ (thn (k d s f H _ I h) λv j ⟨x,n,l,i,g⟩=>m d j f n x v Q l i g)
theorem E5{f:Value->Value->Sem Value}{g:Int->Int->Int}
  (rule:∀(i j:Int) (t u:Tok) (s:Shared) (Q:Value->Shared->Prop) (E:Value->Shared->Prop),C i j->Q (.int (g i j) s.toks) { s with toks:=s.toks + 1 }->wpAny (model X.prog X.w) X.A (f (.int i t) (.int j u)) Q E s) :
  OpR X f (rI C λi j=>.int (g i j)):=by
 intro d s n H x y v u Q I m e h;obtain⟨i,j,rfl,rfl,l,q⟩:=h;obtain⟨t,rfl⟩:=m;obtain⟨k,rfl⟩:=e;exact rule i j t k s _ _ l ⟨.int (g i j),H,I.tok _,⟨_,rfl⟩,q⟩
theorem Cj{f:Value->Value->Sem Value}{g:Int->Int->Int}
  (rule:∀(i j:Int) (t u:Tok) (s:Shared) (Q:Value->Shared->Prop) (E:Value->Shared->Prop),Q (.int (g i j) s.toks) { s with toks:=s.toks + 1 }->wpAny (model X.prog X.w) X.A (f (.int i t) (.int j u)) Q E s) :
  OpR X f (uW λi j=>.int (g i j)):=by
 intro d s m H x y v u Q I l e h;obtain⟨i,j,rfl,rfl,q⟩:=h;obtain⟨t,rfl⟩:=l;obtain⟨k,rfl⟩:=e;exact rule i j t k s _ _ ⟨.int (g i j),H,I.tok _,⟨_,rfl⟩,q⟩
theorem vn{g:Int->Int->Bool}
  (rule:∀(i j:Int) (t u:Tok) (s:Shared) (Q:Value->Shared->Prop) (E:Value->Shared->Prop),Q (.bool (g i j)) s->wpAny (model X.prog X.w) X.A (f (.int i t) (.int j u)) Q E s) :
  OpR X f (uW λi j=>.bl (g i j)):=by
 intro d s m H x y v u Q I l e h;obtain⟨i,j,rfl,rfl,q⟩:=h;obtain⟨t,rfl⟩:=l;obtain⟨k,rfl⟩:=e;exact rule i j t k s _ _ ⟨.bl (g i j),H,I,rfl,q⟩
def Cm(i j:Int):Prop:=0 < j/\j < 1073741824
def Hs(i j:Int):Prop:=j≠0/\j.natAbs < 1073741824
def Cn(i j:Int):Prop:=0<=j/\j<=1000000/\i.natAbs < 2 ^ 64
def CMul(i j:Int):Prop:=(-(2 ^ 64) < i/\i < 2 ^ 64)\/(-(2 ^ 64) < j/\j < 2 ^ 64)
theorem CMul.ok{i j:Int}(h:CMul i j):IntMulOk i j:=by
 rcases h with ⟨d,e⟩ | ⟨d,e⟩
 ·exact .of_left (intBits_le_64 d e)
 ·exact .of_right (intBits_le_64 d e)
theorem zt:OpR X (binaryOp .Add) (uW λi j=>.int (i + j)):=Cj λ_ _ _ _ _ _ _ q=>add_int q
theorem zu:OpR X (binaryOp .Sub) (uW λi j=>.int (i - j)):=Cj λ_ _ _ _ _ _ _ q=>sub_int q
theorem zw:OpR X (binaryOp .Mult) (rI CMul λi j=>.int (i * j)):=E5 λ_ _ _ _ _ _ _ d q=>mul_int q d.ok
theorem vo:OpR X (binaryOp .FloorDiv) (rI Cm λi j=>.int (i / j)):=E5 λi j _ _ _ _ _ d q=>by have e:(0:Int) < j:=d.1;have f:j < 1073741824:=d.2;exact floordiv_int (by omega) (by rw[Int.fdiv_eq_ediv_of_nonneg i (by omega)];exact q) (.inl (PyProof.noPylong_small (by omega)))
theorem zx:OpR X (binaryOp .Mod) (rI (λ_ j=>0 < j) λi j=>.int (i % j)):=E5 λi j _ _ _ _ _ d q=>by have e:(0:Int) < j:=d;exact mod_int' (by omega) (by rw[Int.fmod_eq_emod_of_nonneg i (by omega)];exact q)
theorem zy:OpR X (binaryOp .Pow) (rI Cn λi j=>.int (i ^ j.toNat)):=E5 λ_ _ _ _ _ _ _ d q=>pow_int_small d.1 d.2.1 d.2.2 q
theorem IV{f:Value->Sem Value}{g:Int->Int}
  (rule:∀(i:Int) (t:Tok) (s:Shared) (Q:Value->Shared->Prop) (E:Value->Shared->Prop),Q (.int (g i) s.toks) { s with toks:=s.toks + 1 }->wpAny (model X.prog X.w) X.A (f (.int i t)) Q E s) :
  FI X f (rU λi=>.int (g i)):=by
 intro d s j H x v Q I e h;obtain⟨i,rfl,q⟩:=h;obtain⟨t,rfl⟩:=e;exact rule i t s _ _ ⟨.int (g i),H,I.tok _,⟨_,rfl⟩,q⟩
theorem rh:FI X (unaryOp .USub) (rU λi=>.int (-i)):=IV λ_ _ _ _ _ q=>neg_int q
end
def zA:V->V->Bool
 | .non,.non=>true | .non,.int _=>true | .int _,.non=>true | .non,.bl _=>true | .bl _,.non=>true | .non,.str _=>true | .str _,.non=>true
 | .int _,.int _=>true | .bl _,.bl _=>true | .str _,.str _=>true | .byt _,.byt _=>true
 | .int _,.str _=>true | .str _,.int _=>true | .bl _,.str _=>true | .str _,.bl _=>true
 | _,_=>false
def rEq:R2:=λx y H Q=>zA x y=true/\Q (.bl (decide (x=y))) H
def rNe:R2:=λx y H Q=>zA x y=true/\Q (.bl (!decide (x=y))) H
theorem m8:decide (V.int i=V.int j)=(i == j):=by rw[abx];simp
theorem rj:decide (V.bl i=V.bl j)=(i == j):=by rw[abx];simp
theorem m9:decide (V.str i=V.str j)=(i == j):=by rw[abx];simp
theorem nh:decide (V.byt i=V.byt j)=(i.toList == j.toList):=by rw[abx];cases i;cases j;simp
section
variable{X:Cx}{a b c:Expr}{ta tb tc:TE}{pos:Pos}
theorem az(I:Inv X pins σ H s)(q:Q (.bl k) H)(e:k=k'):EP X pins σ Q (.bool k') s:=by subst e;exact⟨.bl k,H,I,rfl,q⟩
theorem op_eq:OpR X (compareOp .Eq) rEq:=by
 intro k s l H x y v u Q I g d h;obtain⟨f,q⟩:=h;cases x with
 | non =>
  cases g;cases y with
  | non=>cases d;exact PySem.EqNone.eq_none_none (az I q (by simp))
  | bl j=>cases d;exact PySem.EqNone.eq_none_bool (az I q (by simp))
  | int j=>obtain⟨e,rfl⟩:=d;exact PySem.EqNone.eq_none_int (az I q (by simp))
  | str j=>obtain⟨e,rfl⟩:=d;exact PySem.EqNone.eq_none_str (az I q (by simp))
  | _=>exact absurd (show false=true from f) aae
 | bl i =>
  cases g;cases y with
  | non=>cases d;exact PySem.EqNone.eq_bool_none (az I q (by simp))
  | bl j=>cases d;exact eq_bool (az I q rj)
  | str j=>obtain⟨e,rfl⟩:=d;exact PySem.EqMixed.eq_bool_str (az I q (by simp))
  | _=>exact absurd (show false=true from f) aae
 | int i =>
  obtain⟨t,rfl⟩:=g;cases y with
  | non=>cases d;exact PySem.EqNone.eq_int_none (az I q (by simp))
  | int j=>obtain⟨e,rfl⟩:=d;exact eq_int (az I q m8)
  | str j=>obtain⟨e,rfl⟩:=d;exact PySem.EqMixed.eq_int_str (az I q (by simp))
  | _=>exact absurd (show false=true from f) aae
 | str i =>
  obtain⟨t,rfl⟩:=g;cases y with
  | non=>cases d;exact PySem.EqNone.eq_str_none (az I q (by simp))
  | bl j=>cases d;exact PySem.EqMixed.eq_str_bool (az I q (by simp))
  | int j=>obtain⟨e,rfl⟩:=d;exact PySem.EqMixed.eq_str_int (az I q (by simp))
  | str j=>obtain⟨e,rfl⟩:=d;exact eq_str (az I q m9)
  | _=>exact absurd (show false=true from f) aae
 | byt i =>
  obtain⟨t,rfl⟩:=g;cases y with
  | byt j=>obtain⟨e,rfl⟩:=d;exact PySem.W.eq_bytes (az I q nh)
  | _=>exact absurd (show false=true from f) aae
 | _=>cases y<;>exact absurd (show false=true from f) aae
theorem op_ne:OpR X (compareOp .NotEq) rNe:=by
 intro k s l H x y v u Q I g d h;obtain⟨f,q⟩:=h;cases x with
 | non =>
  cases g;cases y with
  | non=>cases d;exact PySem.EqNone.ne_none_none (az I q (by simp))
  | bl j=>cases d;exact PySem.EqNone.ne_none_bool (az I q (by simp))
  | int j=>obtain⟨e,rfl⟩:=d;exact PySem.EqNone.ne_none_int (az I q (by simp))
  | str j=>obtain⟨e,rfl⟩:=d;exact PySem.EqNone.ne_none_str (az I q (by simp))
  | _=>exact absurd (show false=true from f) aae
 | bl i =>
  cases g;cases y with
  | non=>cases d;exact PySem.EqNone.ne_bool_none (az I q (by simp))
  | bl j=>cases d;exact ne_bool (az I q (congrArg not rj))
  | str j=>obtain⟨e,rfl⟩:=d;exact PySem.EqMixed.ne_bool_str (az I q (by simp))
  | _=>exact absurd (show false=true from f) aae
 | int i =>
  obtain⟨t,rfl⟩:=g;cases y with
  | non=>cases d;exact PySem.EqNone.ne_int_none (az I q (by simp))
  | int j=>obtain⟨e,rfl⟩:=d;exact ne_int (az I q (congrArg not m8))
  | str j=>obtain⟨e,rfl⟩:=d;exact PySem.EqMixed.ne_int_str (az I q (by simp))
  | _=>exact absurd (show false=true from f) aae
 | str i =>
  obtain⟨t,rfl⟩:=g;cases y with
  | non=>cases d;exact PySem.EqNone.ne_str_none (az I q (by simp))
  | bl j=>cases d;exact PySem.EqMixed.ne_str_bool (az I q (by simp))
  | int j=>obtain⟨e,rfl⟩:=d;exact PySem.EqMixed.ne_str_int (az I q (by simp))
  | str j=>obtain⟨e,rfl⟩:=d;exact ne_str (az I q (congrArg not m9))
  | _=>exact absurd (show false=true from f) aae
 | byt i =>
  obtain⟨t,rfl⟩:=g;cases y with
  | byt j=>obtain⟨e,rfl⟩:=d;exact PySem.W.ne_bytes (az I q (congrArg not nh))
  | _=>exact absurd (show false=true from f) aae
 | _=>cases y<;>exact absurd (show false=true from f) aae
theorem Cp:OpR X (compareOp .Lt) (uW λi j=>.bl (decide (i < j))):=vn λ_ _ _ _ _ _ _ q=>lt_int q
theorem Cq:OpR X (compareOp .LtE) (uW λi j=>.bl (decide (i<=j))):=vn λ_ _ _ _ _ _ _ q=>le_int q
theorem Cr:OpR X (compareOp .Gt) (uW λi j=>.bl (decide (j < i))):=vn λ_ _ _ _ _ _ _ q=>gt_int q
theorem Cu:OpR X (compareOp .GtE) (uW λi j=>.bl (decide (j<=i))):=vn λ_ _ _ _ _ _ _ q=>ge_int q
def isObj:HO->Bool
 | .lst _=>true
 | .ins _ _ _=>true
 | _=>false
theorem OpR.or(h:OpR X f r)(h':OpR X f r'):OpR X f (λx y H Q=>r x y H Q\/r' x y H Q):=by
 intro d s g H x y v u Q I i e q;rcases q with q | q
 ·exact h d s g H x y v u Q I i e q
 ·exact h' d s g H x y v u Q I i e q
theorem vp(m:OpR X (compareOp op) r)(k:PE X a ta)(i:PE X b tb)(g:behindInMarks op b=false):PE X (.Compare a [op] [b] pos) (Ci r ta tb):=by intro d s n H Q I h;exact wpAny_Compare1 (zq k i I h λv u j x y e l o f q=>m d j n e x y v u Q l o f q) g
def yd(t:TE):TT:=λd H Q=>t d H λx e=>∃k,x=.bl k/\Q k e
theorem vq{f:CmpOp}{r:R2}(D:OpR X (compareOp f) r)(w:PE X a ta)(o:PE X b tb)(l:behindInMarks f b=false):PT X (.Compare a [f] [b] pos) (yd (Ci r ta tb)):=by
 intro d s g H Q I h;refine wpAny_isTrue_Compare1 (thn (w d s g H _ I h) λv n ⟨x,m,A,q,F⟩=>thn (o d n g m _ A F) λu p ⟨y,i,B,j,G⟩ =>
  thn (D d p g i x y v u _ B q j G) λc M ⟨z,J,t,C,k,e,L⟩=>?_) l
 subst e;cases C;exact wpAny_truthy_bool ⟨J,t,L⟩
def FK(r i:R2)(ta tb tc:TE):TE:=λd H Q=>ta d H λx j=>tb d j λy f=>r x y f λz e=>∃k,z=.bl k /\
 (if k=true then tc d e λh g=>i y h g Q else Q (.bl false) e)
def zB(K:Waa)(x:V)(H:Hp)(k:Bool):Prop :=
 match x with
 | .non=>k=false
 | .bl b=>k=b
 | .int i=>k=(i != 0)
 | .str y=>y.length<=sizeLine/\k=((y.length:Int) != 0)
 | .byt y=>y.size<=sizeLine/\k=((y.size:Int) != 0)
 | .ref p=>(∃d,SqL K H p d/\k=!d.isEmpty)\/(∃d,SqT K H p d/\k=!d.isEmpty)\/∃e,H p=some (.dK e)/\k=!e.isEmpty
 | _=>False
theorem lM{e:Type}{d:List (e × V)}{vs:List (e × Value)}(r:KV d vs):(!vs.isEmpty)=!d.isEmpty:=by cases r<;>rfl
theorem gF{xs:List V}{d:List Value}(r:Vals xs d):(!d.toArray.isEmpty)=!xs.isEmpty:=by cases r<;>simp
theorem line63:(sizeLine:Nat) < 2 ^ 63:=by rw[sizeLine_eq];decide
theorem zC:FJ X (λx H Q=>∃k,zB X.K x H k/\Q k H):=by
 intro A s G H x v Q I l h;obtain⟨k,e,q⟩:=h;have F:=line63;have J:sizeLine=16777216:=sizeLine_eq;cases x with
 | non =>cases l;have d:k=false:=e;subst d;exact truthy_none ⟨H,I,q⟩
 | bl b =>cases l;have d:k=b:=e;subst d;exact wpAny_truthy_bool ⟨H,I,q⟩
 | int i =>obtain⟨t,rfl⟩:=l;have d:k=(i != 0):=e;subst d;exact PySem.P.truthy_int ⟨H,I,q⟩
 | str y =>obtain⟨t,rfl⟩:=l;obtain⟨D,d⟩:y.length<=sizeLine/\k=((y.length:Int) != 0):=e;subst d;exact PySem.P.truthy_str (by omega) ⟨H,I.tok _,q⟩
 | byt y =>obtain⟨t,rfl⟩:=l;obtain⟨D,d⟩:y.size<=sizeLine/\k=((y.size:Int) != 0):=e;subst d;exact PySem.W.truthy_bytes (by omega) ⟨H,I.tok _,q⟩
 | ref p =>
  cases l;have d:(∃j,SqL X.K H p j/\k=!j.isEmpty)\/(∃j,SqT X.K H p j/\k=!j.isEmpty)\/∃f,H p=some (.dK f)/\k=!f.isEmpty:=e;rcases d with ⟨j,n,d⟩ | ⟨j,n,d⟩ | ⟨f,n,d⟩
  ·subst d;obtain⟨z,r,u,B⟩:=I.list n;have g:=r.length;exact wpAny_truthy_list u.isList (by simp only[aar];omega) ⟨H,I.tok _,by rw[gF r];exact q⟩
  ·subst d;obtain⟨z,r,u,B⟩:=I.tuple n;have g:=r.length;exact truthy_tuple u (by simp only[aar];omega) ⟨H,I.tok _,by rw[gF r];exact q⟩
  ·subst d;obtain⟨B,C,o,r,m⟩:f.length<=sizeLine/\(p == sysModules)=false/\∃o,KV f o/\s.heap.DictOf (aA X.prog X.w) p o:=I.hok p _ n;have g:f.length=o.length:=Paired.length r;exact wpAny_truthy_dict C m (by omega) ⟨H,I.tok _,by rw[lM r];exact q⟩
 | _=>exact (show False from e).elim
theorem rl(l:PE X a ta)(o:∀d,isTrue a X.env d=(do let v <- d;standAt a.pos;holding [v] (truthy v))) :
  PT X a (λσ H Q=>ta σ H λx f=>∃k,zB X.K x f k/\Q k f):=by
 intro e s σ H Q I h;exact isTrue_plain (thn (l e s σ H _ I h) λv i ⟨x,g,m,j,n⟩=>zC e i σ g x v Q m j n) (o _)
def Cv(b:Expr):Prop:=∀o i,subscripted b false o i=operate [o,i] (getItem o i)
theorem vals1(r:Vals [x] us):∃u,us=[u]/\RelV x u:=by
 cases r with
 | cons e d=>cases d;exact⟨_,rfl,e⟩
theorem vals2(r:Vals [x,y] us):∃u d,us=[u,d]/\RelV x u/\RelV y d:=by
 cases r with
 | cons f e =>
  cases e with
  | cons h g=>cases g;exact⟨_,_,rfl,f,h⟩
theorem rm:CallR X (.builtin "abs") (λxs H Q=>∃i,xs=[.int i]/\Q (.int (if i < 0 then -i else i)) H):=by
 intro d s g H xs e Q I r h;obtain⟨i,rfl,q⟩:=h;obtain⟨u,rfl,t,rfl⟩:=vals1 r;exact call_abs_int λu f=>⟨.int (if i < 0 then -i else i),H,I.tok _,⟨_,rfl⟩,q⟩
theorem pw(f:X.calm=true):CallR X (.builtin "max") (λxs H Q=>∃i j,xs=[.int i,.int j]/\Q (.int (if j > i then j else i)) H):=by
 intro e s p H xs n Q I r h;obtain⟨i,j,rfl,q⟩:=h;obtain⟨u,l,rfl,⟨t,rfl⟩,⟨g,rfl⟩⟩:=vals2 r;refine max_two_ints (I.ok.hd f) λm o k=>⟨_,H,I.kept k,?_,q⟩
 by_cases d:j > i
 ·rw[if_pos d,if_pos d];exact⟨_,rfl⟩
 ·rw[if_neg d,if_neg d];exact⟨_,rfl⟩
theorem pC(f:X.calm=true):CallR X (.builtin "min") (λxs H Q=>∃i j,xs=[.int i,.int j]/\Q (.int (if j < i then j else i)) H):=by
 intro e s p H xs n Q I r h;obtain⟨i,j,rfl,q⟩:=h;obtain⟨u,l,rfl,⟨t,rfl⟩,⟨g,rfl⟩⟩:=vals2 r;refine min_two_ints (I.ok.hd f) λm o k=>⟨_,H,I.kept k,?_,q⟩
 by_cases d:j < i
 ·rw[if_pos d,if_pos d];exact⟨_,rfl⟩
 ·rw[if_neg d,if_neg d];exact⟨_,rfl⟩
theorem pD:CallR X (.type "int") (λxs H Q=>(∃i,xs=[.int i]/\Q (.int i) H)\/∃k,xs=[.bl k]/\Q (.int (if k then 1 else 0)) H):=by
 intro d s g H xs f Q I r h;rcases h with ⟨i,rfl,q⟩ | ⟨k,rfl,q⟩
 ·obtain⟨u,rfl,t,rfl⟩:=vals1 r;exact call_int_int ⟨.int i,H,I,⟨_,rfl⟩,q⟩
 ·obtain⟨u,rfl,e⟩:=vals1 r;cases e;exact call_int_bool ⟨.int (if k then 1 else 0),H,I.tok _,⟨_,rfl⟩,q⟩
def Cw(K:Waa)(x:V)(H:Hp)(n:Nat):Prop :=
 match x with
 | .str y=>y.length<=sizeLine/\n=y.length
 | .byt y=>y.size<=sizeLine/\n=y.size
 | .ref p=>(∃d,SqL K H p d/\n=d.length)\/∃d,SqT K H p d/\n=d.length
 | _=>False
theorem rn:CallR X (.builtin "len") (λxs H Q=>∃x n,xs=[x]/\Cw X.K x H n/\Q (.int n) H):=by
 intro m s A H xs z Q I r h;obtain⟨x,n,rfl,e,q⟩:=h;obtain⟨u,rfl,l⟩:=vals1 r;have w:=line63;have B:sizeLine=16777216:=sizeLine_eq;cases x with
 | str y =>obtain⟨t,rfl⟩:=l;obtain⟨v,f⟩:y.length<=sizeLine/\n=y.length:=e;subst f;exact len_str (by omega) ⟨.int _,H,I.tok _,⟨_,rfl⟩,q⟩
 | byt y =>obtain⟨t,rfl⟩:=l;obtain⟨v,f⟩:y.size<=sizeLine/\n=y.size:=e;subst f;exact PySem.W.len_bytes (by omega) ⟨.int _,H,I.tok _,⟨_,rfl⟩,q⟩
 | ref p =>
  cases l;have f:(∃xs,SqL X.K H p xs/\n=xs.length)\/∃xs,SqT X.K H p xs/\n=xs.length:=e;rcases f with ⟨xs,j,f⟩ | ⟨xs,j,f⟩
  ·subst f;obtain⟨i,k,g,o⟩:=I.list j;have d:=k.length;exact Calls.call_len_list g.isList (by simp only[aar];omega) ⟨.int xs.length,H,I.tok _,⟨_,by simp only[aar];rw[d]⟩,q⟩
  ·subst f;obtain⟨i,k,g,o⟩:=I.tuple j;have d:=k.length;exact len_tuple g (by simp only[aar];omega) ⟨.int xs.length,H,I.tok _,⟨_,by simp only[aar];rw[d]⟩,q⟩
 | _=>exact (show False from e).elim
end
end
section
structure ObjM (h:Heap)(x dx C:Addr)(mA:Str->Option Value):Prop where
 obj:h.get? x=some (PySem.W.instObj C dx)
 ns:h.Ns1 dx mA
 ne:dx≠x
def zD(f:Str)(v:V):List (Str × V)->List (Str × V)
 | []=>[(f,v)]
 | (g,x)::r=>if g=f then (g,v)::r else (g,x)::zD f v r
theorem RelO.some_of(r:RelO (some v) o):∃u,o=some u/\RelV v u:=by
 cases o with
 | none=>exact (show False from r).elim
 | some u=>exact⟨u,rfl,r⟩
theorem RelO.none_of(r:RelO none o):o=none:=by
 cases o with
 | none=>rfl
 | some u=>exact (show False from r).elim
structure Cls (K:Waa)(C:Addr):Prop where
 pg:PySem.W.plainGet K C Str.empty=true
 hd:PySem.W.hasDictIn K C=true
 po:PySem.W.plainOver K C=true
 sa:PySem.W.findIn K (.ref C) "__setattr__"=some (some (.builtin "object.__setattr__"))
theorem Cls.get{K:Waa}{C:Addr}(c:Cls K C)(f:Str):PySem.W.plainGet K C f=true:=c.pg
def fL(K:Waa)(C:Addr)(f:Str):Prop:=PySem.W.findIn K (.ref C) f=some none
structure Con (K:Waa)(C:Addr)(f:Str)(v:V)(u:Value):Prop where
 at_:PySem.W.findIn K (.ref C) f=some (some u)
 rel:RelV v u
 get:PySem.W.specialIn K u "__get__"=some none
 cp:PySem.W.copiedNames.contains f=false
structure Meth (K:Waa)(C:Addr)(m:Str)(f:Addr):Prop where
 at_:PySem.W.findIn K (.ref C) m=some (some (.ref f))
 fn:PySem.W.isFn K (.ref f)=true
 kp:PySem.W.keepIn K (.ref f)=true
def IW(K:Waa)(d:TE)(f:Str):TE:=λg H Q=>d g H λx b=>∃a C e c v,x=.ref a/\b a=some (.ins C e c)/\Cls K C/\fL K C f/\c.lookup f=some v/\Q v b
def IX(K:Waa)(d:TE)(f:Str):TE:=λg H Q=>d g H λx b=>∃a C e c v u,x=.ref a/\b a=some (.ins C e c)/\Cls K C/\Con K C f v u/\c.lookup f=none/\Q v b
def IY(K:Waa)(i h:TE)(f:Str):TS:=λD c H=>h c H λy g=>i c g λx d=>∃a C e b,x=.ref a/\d a=some (.ins C e b)/\Cls K C/\fL K C f/\b.length < 1000 /\
 D.nx c (upd d a (.ins C e (zD f y b)))
def IZ(X:Cx)(c:Operator)(d:V->V->Hp->VK->Prop):Prop :=
 ∀(a:List (Addr × Obj)) (s:Shared) (b:St) (H:Hp) (x y:V) (u v:Value) (Q:VK),Inv X a b H s->RelV x u->RelV y v->d x y H Q->wpAny (model X.prog X.w) X.A (inplaceOp c u v) (EP X a b Q) X.xe s
def E6(K:Waa)(l j:TE)(m:V->V->Hp->VK->Prop)(f:Str):TS:=λD d H=>l d H λx g=>∃a C k e v,x=.ref a/\g a=some (.ins C k e)/\Cls K C/\fL K C f/\e.lookup f=some v /\
 j d g λy i=>m v y i λz h=>∃c b,h a=some (.ins C c b)/\b.length < 1000/\D.nx d (upd h a (.ins C c (zD f z b)))
section
variable{X:Cx}{o e value:Expr}{f:Str}{pos pos' tpos:Pos}{ta tv:TE}
def I0:V->V->Hp->VK->Prop:=λx y H Q=>∃i j,x=.int i/\y=.int j/\Q (.int (i + j)) H
def I9:V->V->Hp->VK->Prop:=λx y H Q=>∃i j,x=.int i/\y=.int j/\Q (.int (i - j)) H
end
section
variable{X:Cx}{pins:List (Addr × Obj)}{σ:St}{H:Hp}{s:Shared}{A:Around}{E:Value->Shared->Prop}{Q:Value->Shared->Prop}{c:Value}{b:Bool}
inductive TyOf (K:Waa)(H:Hp):V->Value->Prop where
 | non:TyOf K H .non (.type "NoneType")
 | bl (x:Bool):TyOf K H (.bl x) (.type "bool")
 | int (i:Int):TyOf K H (.int i) (.type "int")
 | str (x:Str):TyOf K H (.str x) (.type "str")
 | flt (x:UInt64):TyOf K H (.flt x) (.type "float")
 | lst {a:Addr} {xs:List V} (e:H a=some (.lst xs)):TyOf K H (.ref a) (.type "list")
 | frz {a:Addr} {o:Obj} {xs:List V} (e:H a=some (.frz o (.lst xs))):TyOf K H (.ref a) (.type "list")
 | tup {a:Addr} {xs:List V} (e:H a=some (.tup xs)):TyOf K H (.ref a) (.type "tuple")
 | dK {a:Addr} {kvs:List (Key × V)} (e:H a=some (.dK kvs)):TyOf K H (.ref a) (.type "dict")
 | dT {a:Addr} {kvs:List (List Key × V)} (e:H a=some (.dT kvs)):TyOf K H (.ref a) (.type "dict")
 | ins {a C dx:Addr} {fs:List (Str × V)} (e:H a=some (.ins C dx fs)) (cl:Cls K C) (ha:PySem.W.findIn K (.ref C) "__class__"=some (some (.builtin "object.__class__")))
   (hn:PySem.W.specialIn K (.builtin "object.__class__") "__get__"=some (some (.builtin "getset_descriptor.__get__"))) (htk:PySem.W.takesIn K (.builtin "object.__class__")=some true)
   (hm:PySem.W.mroIn K C (.type "object")=some true):TyOf K H (.ref a) (.ref C)
end
end
section
structure Room (k:Nat)(A:Around):Prop where
 hd:A.handled=none
 dp:A.depth + 3 * k + 5 < recursionLimit
 un:A.units + 16 * k + 200 < cLine
 gd:A.guards=some []
theorem Room.mono(r:Room k A)(h:j<=k):Room j A:=⟨r.hd,by have:=r.dp;omega,by have:=r.un;omega,r.gd⟩
theorem Room.deeper(r:Room (k + 1) A)(env:Env):Room k (A.deeper env) :=
 ⟨r.hd,by have:=r.dp;show A.depth + 1 + 3 * k + 5 < _;omega,by have:=r.un;show A.units + 3 + 16 * k + 200 < _;omega,r.gd⟩
theorem Room.in1(r:Room (k + 1) A):Room k A.in1 :=
 ⟨r.hd,by have:=r.dp;show A.depth + 3 * k + 5 < _;omega,by have:=r.un;show A.units + 1 + 16 * k + 200 < _;omega,r.gd⟩
theorem lN{A:Around}:(A.under (.builtin "type.__call__" ⟨.ref C::us,kw⟩)).depth=A.depth + 1:=by
 first | rfl | simp[Around.under,Code.weight,Code.isCreation,Code.isGuard,Code.isCaller,Code.frames,Code.isFrame,guardIds]
theorem lO{A:Around}:(A.under (.builtin "type.__call__" ⟨.ref C::us,kw⟩)).units=A.units + 1:=by
 first | rfl | simp[Around.under,Code.cUnits,Code.frames,Code.isFrame]
theorem Room.make(r:Room (k + 1) A)(C:Addr)(us:List Value)(a:List (Str × Value)):Room k (A.under (.builtin "type.__call__" ⟨.ref C::us,a⟩)) :=
 ⟨r.hd,by have:=r.dp;rw[lN];omega,by have:=r.un;rw[lO];omega,by first | exact r.gd | simp[Around.under,Code.isGuard,guardIds,r.gd]⟩
theorem Room.depth(r:Room k A):A.depth < recursionLimit:=by have:=r.dp;omega
theorem Room.units{A:Around}(r:Room k A):A.units + 64 < cLine:=by have:=r.un;omega
def tNil:TA:=λ_ H Q=>Q [] H
def Cz(c:TE)(f:TA):TA:=λa H Q=>c a H λx e=>f a e λd b=>Q (x::d) b
section
variable{X:Cx}{e:Expr}{es:List Expr}{te:TE}{t:TA}{pos:Pos}
theorem cz:PA X [] tNil:=λ_ _ _ _ H Q I h=>Calls.spliced_nil ⟨[],H,I,.nil,h⟩
theorem be(k:PE X e te)(l:PA X es t)(q:starEach (e::es) X.env=(false,eval e X.env)::starEach es X.env:=by rfl):PA X (e::es) (Cz te t):=by
 intro pos a s b H Q I h;rw[q];show wpAny _ _ (spliced ((false,eval e X.env)::backTo pos (starEach es X.env))) _ _ s;refine Calls.spliced_cons (thn (k a s b H _ I h) λu i f=>?_);obtain⟨x,g,m,j,p⟩:=f;exact thn (l pos a i b g _ m p) λw v ⟨o,c,n,d,r⟩=>⟨x::o,c,n,.cons j d,r⟩
def FL(t:TA):TE:=λc H Q=>t c H λa b=>a.length<=sizeLine/\∀p,b p=none->Q (.ref p) (upd b p (.tup a))
def FM(t:TA):TE:=λc H Q=>t c H λa b=>a.length<=sizeLine/\∀p,b p=none->Q (.ref p) (upd b p (.lst a))
theorem rp{j}(h:PA X es t):PE X (.Tuple es j pos) (FL t):=by intro a s m H Q I i;refine wpAny_Tuple_spliced (thn (h pos a s m H _ I i) λk c ⟨l,d,f,r,z,q⟩=>⟨by rw[<- r.length];exact z,?_⟩);have g:d c.heap.objs.size=none:=f.hok.fresh (aah _);refine⟨.ref c.heap.objs.size,upd d c.heap.objs.size (.tup l),f.laid (t':=c.toks) (λb u e=>Heap.get?_push_of_some _ e) (aah _) ?_,rfl,q _ g⟩;exact⟨z,k,r,⟨_,Heap.get?_push_size _ rfl,rfl,_,rfl,rfl⟩⟩
theorem zE(h:PA X es t):PE X (.List es pos) (FM t):=by intro a s l H Q I i;refine wpAny_List_spliced (thn (h pos a s l H _ I i) λj c ⟨k,d,f,r,z,q⟩=>⟨by rw[<- r.length];exact z,?_⟩);have g:d c.heap.objs.size=none:=f.hok.fresh (aah _);refine⟨.ref c.heap.objs.size,upd d c.heap.objs.size (.lst k),f.laid (t':=c.toks) (λb u e=>Heap.get?_push_of_some _ e) (aah _) ?_,rfl,q _ g⟩;exact⟨z,j,0,r,Heap.get?_push_size _ rfl⟩
end
abbrev Sp:=List V->Hp->VK->XK->Prop
abbrev CXT:=List Env->Hp->Shared->XK->Value->Shared->Prop
structure Env0 (P:Program)(w:World)(K:Waa)(mg:Str->Option Value)(base:Heap)(A:Around)(outer:List Env)(s:Shared)(H:Hp):Prop where
 frames:A.frames=some outer
 mod:Mod K mg base
 bs:∀b o,base.get? b=some o->s.heap.get? b=some o/\H b=none
 bsz:base.objs.size<=s.heap.objs.size
 funs:s.heap.FunFrames base outer
 frf:∀b∈qN outer,H b=none
 hok:HOk P w H s.heap
 bare:AllBare s.gens
def CE(a:List Env)(P:Program)(w:World)(H:Hp)(s:Shared)(Q:VK)(u:Value)(b:Shared):Prop :=
 ∃v c,b.os=s.os/\AllBare b.gens/\Un (qN a) [] H c s.heap b.heap/\HOk P w c b.heap/\RelV v u/\Q v c
def CR(CX:CXT)(a:List Env)(P:Program)(w:World)(H:Hp)(s:Shared)(Q:VK)(E:XK)(r:Result)(b:Shared):Prop :=
 match r with
 | .ok (.ret u)=>CE a P w H s Q u b
 | .ok _=>False
 | .error e=>CX a H s E e b
structure FnOk (P:Program)(w:World)(K:Waa)(mg:Str->Option Value)(base:Heap)(CX:CXT)(k:Nat)(f:Addr)(fd:FuncData)(ps:List Str)(sp:Sp):Prop where
 len:∀vs H Q E,sp vs H Q E->vs.length=ps.length
 run:∀(A:Around) (outer:List Env) (s:Shared) (H:Hp) (args:Args) (us:List Value) (vs:List V) (Q:VK) (E:XK),Room k A->Env0 P w K mg base A outer s H->BindsTo s fd args (ps.zip us)->Vals vs us->sp vs H Q E ->
  codeAny (model P w) A (.call (.ref f) args) (CR CX outer P w H s Q E) s
theorem FnOk.mono{K:Waa}(F:FnOk P w K mg base CX j f fd ps sp)(h:j<=k) :
  FnOk P w K mg base CX k f fd ps sp:=⟨F.len,λA a s H b d c Q E e=>F.run A a s H b d c Q E (e.mono h)⟩
theorem FnOk.imp{K:Waa}(F:FnOk P w K mg base CX k f fd ps sp)
  (h:∀vs H Q E,sp' vs H Q E->sp vs H Q E):FnOk P w K mg base CX k f fd ps sp' :=
 ⟨λvs H Q E q=>F.len vs H Q E (h _ _ _ _ q),λA a s H b e vs Q E j i c g d=>F.run A a s H b e vs Q E j i c g (h _ _ _ _ d)⟩
theorem Env0.make{K:Waa}(e:Env0 P w K mg base A outer s H)(C:Addr)(us:List Value)(a:List (Str × Value)) :
  Env0 P w K mg base (A.under (.builtin "type.__call__" ⟨.ref C::us,a⟩)) outer s H:=⟨by first | exact e.frames | (simpa [Around.under,Code.envs,Code.isFrame,pushEnvs] using e.frames),e.mod,e.bs,e.bsz,e.funs,e.frf,e.hok,e.bare⟩
theorem Env0.in1{K:Waa}(e:Env0 P w K mg base A outer s H) :
  Env0 P w K mg base A.in1 outer s H:=⟨e.frames,e.mod,e.bs,e.bsz,e.funs,e.frf,e.hok,e.bare⟩
section
variable{X:Cx}{pins:List (Addr × Obj)}{σ:St}{H:Hp}{s s':Shared}
theorem Inv.env0(I:Inv X pins σ H s):Env0 X.prog X.w X.K X.mg X.base X.A X.stack s H :=
 ⟨I.ok.frames,I.ok.mod,I.bs,aat I.ok.bsz I.sz,I.stack,I.stkFree,I.hok,I.bare⟩
theorem Inv.after(I:Inv X pins σ H s)(h:CE X.stack X.prog X.w H s Q u s'):EP X pins σ Q u s':=by obtain⟨v,j,i,a,f,e,r,q⟩:=h;obtain⟨k,g,d,t,c⟩:=s';obtain rfl:c=s.os:=i;exact⟨v,j,I.call f e a (λb z=>absurd z (by simp)),r,q⟩
end
def ye(sp:Sp)(a:List V)(E:XK)(t:TA):TE:=λd H Q=>t d H λb c=>sp (b++a) c Q E
def Ht(C:Addr)(m:Str)(sp:Sp)(b:List V)(E:XK)(h:TE)(t:TA):TE:=λe H Q=>h e H λx d=>∃a i c,x=.ref a/\d a=some (.ins C i c)/\c.lookup m=none /\
 t e d λg f=>sp (x::(g++b)) f Q E
def Hu(C:Addr)(sp:Sp)(b:List V)(E:XK)(t:TA):TE:=λf H Q=>t f H λe c=>∀x a,c x=none->c a=none->a≠x ->
 sp (.ref x::(e++b)) (upd (upd c a (.own x)) x (.ins C a [])) (λv d=>v=.non/\Q (.ref x) d) E
def Binds(K:Waa)(b:FuncData)(ps:List Str)(ds:List Value):Prop :=
 ∀(s:Shared) (a:List Value),K.In s.heap->(a++ds).length=ps.length->BindsTo s b ⟨a,[]⟩ (ps.zip (a++ds))
theorem Binds.all{K:Waa}{a:FuncData}{ps:List Str}(h:∀us:List Value,us.length=ps.length->bindArgs a ⟨us,[]⟩=pure (ps.zip us)):Binds K a ps []:=λs us _ b=>by rw[aap]at b ⊢;exact .of_eq (h us b)
def Passes(CX:CXT)(X:Cx)(E:XK):Prop:=∀(a:List (Addr × Obj)) (c:St) (H:Hp) (s:Shared) (e:Value) (b:Shared),Inv X a c H s->CX X.stack H s E e b->X.xe e b
section
variable{X:Cx}{CX:CXT}{k:Nat}{f C:Addr}{fd:FuncData}{ps:List Str}{sp:Sp}{dvs:List V}{ds:List Value}{E:XK}{x m:Str}{p pos apos:Pos}{e o:Expr}{es:List Expr}{ta:TE}{t:TA}
theorem zF(F:FnOk X.prog X.w X.K X.mg X.base CX k f fd ps sp)(l:Room k X.A)(c:Binds X.K fd ps ds)(n:Vals dvs ds)(i:Passes CX X E)
  (I:Inv X pins σ H s) (r:Vals vs us) (h:sp (vs++dvs) H Q E):wpAny (model X.prog X.w) X.A (call (.ref f) us) (EP X pins σ Q) X.xe s:=by
 have b:Vals (vs++dvs) (us++ds):=r.append n;have g:(us++ds).length=ps.length:=by rw[<- b.length];exact F.len _ _ _ _ h
 refine wpAny_call (codeAny_mono (F.run X.A X.stack s H ⟨us,[]⟩ (us++ds) (vs++dvs) Q E l I.env0 (c s us I.kIn g) b h) λr d a=>?_);cases r with
 | error e=>exact i pins σ H s e d I a
 | ok j =>
  cases j with
  | ret u=>exact I.after a
  | next=>exact False.elim a
  | brk=>exact False.elim a
  | cont=>exact False.elim a
theorem ni(F:FnOk X.prog X.w X.K X.mg X.base CX k f fd ps sp)(n:Room k X.A)(u:Gl X x)(g:X.mg x=some (.ref f))(hk:PySem.W.keepIn X.K (.ref f)=true)(j:Binds X.K fd ps ds)(i:Vals dvs ds)(v:Passes CX X E)
  (l:PA X (e::es) t) (c:(x == ("__debug__":Str))=false:=by decide) (z:starEach (e::es) X.env=(false,eval e X.env)::starEach es X.env:=by rfl) (b:(backTo pos (starEach es X.env)).any (·.1)=false:=by rfl) :
  PE X (.Call (.Name x p) (e::es) [] pos) (ye sp dvs E t):=by
 intro a s y H Q I h;refine wpAny_Call_Name_kw (m6 I u g ?_ c);refine PySem.W.callWith_K (h₀:=X.base) I.ok.mod.kin hk (thn (l pos a s y H _ I h) λJ B ⟨G,D,d,r,q⟩=>⟨d.kIn,?_⟩) z b;exact zF F n j i v d r q
structure Mk (K:Waa)(C f:Addr):Prop where
 makes:PySem.W.makesIn K C=true
 init:PySem.W.findIn K (.ref C) "__init__"=some (some (.ref f))
 fn:PySem.W.isFn K (.ref f)=true
 kp:PySem.W.keepIn K (.ref C)=true
end
def PK(X:Cx)(c:List Keyword)(t:TA):Prop :=
 ∀(b:Pos) (a:List (Addr × Obj)) (s:Shared) (d:St) (H:Hp) (Q:List V->Hp->Prop),Inv X a d H s->t d H Q->wpAny (model X.prog X.w) X.A (evalAll ((backToKw b (keywordEach c X.env)).map (·.2))) (AP X a d Q) X.xe s
section
variable{X:Cx}{CX:CXT}{k:Nat}{f C:Addr}{fd:FuncData}{ps ks:List Str}{sp:Sp}{E:XK}{x m:Str}{p pos apos kpos:Pos}{e o:Expr}{es:List Expr}{kws:List Keyword}{te ta:TE}{t tk:TA}{nm:Option Str}
structure KBinds (K:Waa)(fd:FuncData)(ps ks:List Str)(g:List Value->List Value->List Value)(gV:List V->List V->List V):Prop where
 to:∀(s:Shared) (us ws:List Value),K.In s.heap->(g us ws).length=ps.length->BindsTo s fd ⟨us,ks.zip ws⟩ (ps.zip (g us ws))
 rel:∀{vs:List V} {us:List Value} {zs:List V} {ws:List Value},Vals vs us->Vals zs ws->Vals (gV vs zs) (g us ws)
def FN(sp:Sp)(h:List V->List V->List V)(E:XK)(t tk:TA):TE:=λa H Q=>t a H λc g=>tk a g λd b=>sp (h c d) b Q E
variable{g:List Value->List Value->List Value}{gV:List V->List V->List V}
end
structure FnScope (N P:List Str)(sc:Scope):Prop where
 kind:sc.kind=.function
 co:sc.isCoroutine=false
 gen:sc.isGenerator=false
 nd:N.Nodup
 pre:N.take P.length=P
 par:∀x∈P,sc.names.lookup x=some .local\/sc.names.lookup x=some .cell
 nofree:∀y∈sc.names,y.2≠.free
theorem iT{b:Str->Option NameKind}:∀{a:List (Str × Value)} {m:Str->Option Value},(∀v,(x,v) ∉ a)->bindL b a m x=m x
 | [],_,_=>rfl
 | (n,v)::r,m,h=>by
  unfold bindL;rw[iT λw c=>h w (aaj _ c)];split
  ·have:x≠n:=by rintro rfl;exact h v aag
   simp[this]
  ·rfl
theorem iU{b:Str->Option NameKind}:∀{a:List (Str × Value)} {m:Str->Option Value},(∀v,(x,v) ∉ a)->bindC b a m x=m x
 | [],_,_=>rfl
 | (n,v)::r,m,h=>by
  unfold bindC;rw[iU λw c=>h w (aaj _ c)];split
  ·rfl
  ·have:x≠n:=by rintro rfl;exact h v aag
   simp[this]
theorem iV{a:Str->Option NameKind}:∀{P:List Str} {vs:List Value} {i:Nat} {m:Str->Option Value},P.Nodup->P[i]?=some x->vs[i]?=some v->a x=some .local ->
  bindL a (P.zip vs) m x=some v
 | [],_,_,_,_,h,_,_=>by simp at h
 | _::_,[],_,_,_,_,h,_=>by simp at h
 | p::P,w::vs,0,m,nd,h1,h2,hk=>by simp at h1 h2;subst h1;subst h2;show bindL a ((p,w)::P.zip vs) m p=_;unfold bindL;rw[iT λv b=>(aaA.mp nd).1 (aa5 b).1,if_pos hk];simp
 | p::P,w::vs,i + 1,m,nd,h1,h2,hk=>by show bindL a ((p,w)::P.zip vs) m x=_;unfold bindL;exact iV (i:=i) (aaA.mp nd).2 (by simpa using h1) (by simpa using h2) hk
theorem iW{a:Str->Option NameKind}:∀{P:List Str} {vs:List Value} {i:Nat} {m:Str->Option Value},P.Nodup->P[i]?=some x->vs[i]?=some v->a x≠some .local ->
  bindC a (P.zip vs) m x=some v
 | [],_,_,_,_,h,_,_=>by simp at h
 | _::_,[],_,_,_,_,h,_=>by simp at h
 | p::P,w::vs,0,m,nd,h1,h2,hk=>by simp at h1 h2;subst h1;subst h2;show bindC a ((p,w)::P.zip vs) m p=_;unfold bindC;rw[iU λv b=>(aaA.mp nd).1 (aa5 b).1,if_neg hk];simp
 | p::P,w::vs,i + 1,m,nd,h1,h2,hk=>by show bindC a ((p,w)::P.zip vs) m x=_;unfold bindC;exact iW (i:=i) (aaA.mp nd).2 (by simpa using h1) (by simpa using h2) hk
def start(N:List Str)(vs:List V):St:=vs.map some++List.replicate (N.length - vs.length) none
def jk(CX:CXT)(P:Program)(w:World)(K:Waa)(mg:Str->Option Value)(base:Heap)(N:List Str)(b:Str)(a:Scope)(f:Addr)(d:Value)(A:Around)(outer:List Env)(s:Shared)(H:Hp)(E:XK):Cx where
 prog:=P
 w:=w
 K:=K
 mg:=mg
 base:=base
 A:=A.deeper (envOfC b a s.heap.objs.size f d)
 N:=N
 s₀:=s
 H₀:=H
 env:=envOfC b a s.heap.objs.size f d
 outer:=outer
 stack:=envOfC b a s.heap.objs.size f d::outer
 ex:=[]
 calm:=true
 fn:=λ_=>true
 pn:=[]
 xe:=λe g=>wpAny (model P w) (A.deeper (envOfC b a s.heap.objs.size f d)) (leaving (envOfC b a s.heap.objs.size f d) e) (λ_ c=>CX outer H s E e c) (λh c=>CX outer H s E h c) g
theorem ko{sc:Scope}(h:sc.names.lookup x=some .cell):∃c,(cellsFrom n sc.names []).lookup x=some c:=by have q:=aci sc.names n [] (.inl h);exact aa6.mp q
theorem pE{K:Waa}
  (S:FnScope N ps scope) (D:A.handled=none) (g:Env0 P w K mg base A outer s H) (J:vs.length=ps.length) (r:Vals vs us)
  (x:InCallC s s.heap.objs.size (bindL (envOfC qual scope s.heap.objs.size f cd).kindOf (ps.zip us) λ_=>none) (cellsFrom (s.heap.objs.size + 1) scope.names []) (bindC (envOfC qual scope s.heap.objs.size f cd).kindOf (ps.zip us) λ_=>none) s1) :
  Inv (jk CX P w K mg base N qual scope f cd A outer s H E) [] (start N vs) H s1:=by
 have G:ps.length<=N.length:=by have:=congrArg List.length S.pre;rw[aaY]at this;omega
 obtain⟨t,L,rfl,B⟩:=x.done;have j:∀b:Addr,b ∉ (jk CX P w K mg base N qual scope f cd A outer s H E).ex:=λb z=>absurd (show b∈([]:List Addr) from z) (by simp);refine⟨⟨g.mod,S.kind,rfl,rfl,aah _,λy z c t d=>?_,λy l=>?_,λy c _ h=>?_,λ_=>D,Around.frames_deeper g.frames,.inr ⟨rfl,rfl⟩,λb z=>absurd z (j b),g.bs,g.bsz,λb _ _=>j b,λb z=>absurd z (j b),g.funs,g.frf⟩,
  rfl,g.bare,Un.kept B,⟨_,x.toInCall.ns,λi y v t d M=>?_⟩,λy c h=>⟨_,x.cell y c h⟩,g.hok.fresh (aah _),λy c h=>?_,λp n=>absurd (show p∈([]:List (Addr × Obj)) from n) (by simp),g.hok.kept B,?_⟩
 ·exact name_of_addr x.apart (aa7 t) (aa7 d)
 ·have l:scope.names.lookup y=some .cell\/scope.names.lookup y=some .free:=l;rcases l with l | l
  ·exact ko l
  ·exact absurd rfl (S.nofree _ (aa7 l))
 ·exact aaS (x.above y c (aa7 h))
 ·have o:i < vs.length:=by
   unfold start at d;by_cases o:i < vs.length
   ·exact o
   ·rw[aa8 (by simpa using o)]at d;rw[acj]at d;split at d<;>cases d
  have F:vs[i]?=some v:=by
   unfold start at d;rw[abY (by simpa using o),aax]at d;cases e:vs[i]? with
   | none=>rw[e]at d;cases d
   | some a=>rw[e]at d;cases d;rfl
  obtain⟨u,C,I⟩:=r.get F;have n:ps[i]?=some y:=by rw[<- S.pre,List.getElem?_take_of_lt (by omega)];exact t
  have m:ps.Nodup:=by rw[<- S.pre];exact S.nd.sublist (List.take_sublist _ _)
  refine⟨u,I,?_⟩;rcases S.par y (aaI n) with k | k
  ·exact .inl ⟨k,iV m n C k⟩
  ·obtain⟨c,e⟩:=ko k;refine .inr ⟨.inl k,c,e,?_⟩;have q:=x.cell y c e;rw[iW m n C (by show scope.names.lookup y≠_;rw[k];decide)]at q;exact q
 ·exact g.hok.fresh (aaS (x.above y c (aa7 h)))
 ·unfold start;show _=N.length;rw[aai,aab,aby];omega
theorem CA{K:Waa}{Z T l X c Y oc:Value}{O od:Option Addr}
  {G:Array (Option Value)} {N ps:List Str} {sp:Sp} (lk:K.lookup f=some ⟨oc,od,.func (PySem.W.fnOf name qual params body scope Z T l X O c Y),G⟩) (C:PySem.W.codeIn K c qual=true) (S:FnScope N ps scope)
  (m:∀vs H Q E,sp vs H Q E->vs.length=ps.length)
  (h:∀(A:Around) (a:List Env) (s:Shared) (H:Hp) (vs:List V) (Q:VK) (E:XK),Room k (A.deeper (envOfC qual scope s.heap.objs.size f c))->sp vs H Q E ->
   ∃t,PSs (jk CX P w K mg base N qual scope f c A a s H E) body t/\t { nx:=λ_ g=>Q .non g,rt:=Q } (start N vs) H) :
  FnOk P w K mg base CX (k + 1) f (PySem.W.fnOf name qual params body scope Z T l X O c Y) ps sp:=by
 refine⟨m,λA a s H a0 us vs Q E F B hb r z=>?_⟩;have hl:=m _ _ _ _ z;have KX:K.In s.heap:=B.mod.kin.keeps λb o e=>(B.bs b o e).1;have D:s.heap.NoLimit:=B.mod.nolimit.keeps λb o e=>(B.bs b o e).1;have i:∀y∈ps.zip us,scope.names.lookup y.1=some .local\/(scope.names.lookup y.1=some .cell/\((cellsFrom (s.heap.objs.size + 1) scope.names []).lookup y.1).isSome=true):=λ⟨n,v⟩ hy=>by
  rcases S.par n (aa5 hy).1 with q | q
  ·exact .inl q
  ·exact .inr ⟨q,aci _ _ _ (.inl q)⟩
 refine codeAny_call_function F.depth (KX _ _ lk) rfl S.co S.gen rfl (PySem.W.codeRec_of KX C) (hb _ _ _ _ ?_);refine wpAny_newFunctionEnv_cells S.kind i λa1 he U x=>?_;subst he;refine⟨D.keeps x.toInCall.keep,codeAny_func ?_⟩;obtain⟨t,ht,hq⟩:=h A a s H vs Q E (F.deeper _) z;have I:Inv (jk CX P w K mg base N qual scope f c A a s H E) [] (start N vs) H U:=pE S F.hd B hl r x;refine wpAny_mono (ht [] U (start N vs) H _ I hq) (λfl L j=>?_) λe L j=>j;have p:∀{d:St} {g:Hp} {v:V} {u:Value},Inv (jk CX P w K mg base N qual scope f c A a s H E) [] d g L->RelV v u->Q v g->CE a P w H s Q u L :=
  λ{d g v u} J M q=>⟨v,g,J.os,J.bare,J.base,J.hok,M,q⟩
 cases fl with
 | ret u =>obtain⟨v,d,g,J,M,q⟩:=j;exact p J M q
 | next =>obtain⟨d,g,J,q⟩:=j;exact p (v:=V.non) (u:=Value.none) J rfl q
 | brk =>obtain⟨_,_,_,q⟩:=j;exact False.elim q
 | cont =>obtain⟨_,_,_,q⟩:=j;exact False.elim q
end
section
section
variable{X:Cx}{x:Str}{p pos:Pos}{e:Expr}{es:List Expr}{t:TA}{id T:String}{r:List V->Hp->VK->Prop}
def FO(r:List V->Hp->VK->Prop)(t:TA):TE:=λc H Q=>t c H λa b=>r a b Q
theorem eK (y:CallR X (.builtin id) r) (n:Gl X x) (g:X.mg x=none) (f:bootBuiltins x=some (.builtin id)) (m:PA X (e::es) t) (k:x≠"__name__":=by decide) (c:(x == ("__debug__":Str))=false:=by decide)
  (w:starEach (e::es) X.env=(false,eval e X.env)::starEach es X.env:=by rfl) (b:(backTo pos (starEach es X.env)).any (·.1)=false:=by rfl):PE X (.Call (.Name x p) (e::es) [] pos) (FO r t):=by
 intro a s d H Q I h;refine wpAny_Call_Name_kw (eh I n g f ?_ k c);exact PyProof.Rows.callWith_builtin1 (thn (m pos a s d H _ I h) λu i ⟨q,j,o,l,v⟩=>y a i d j q u Q o l v) w b
theorem fM (y:CallR X (.type T) r) (n:Gl X x) (g:X.mg x=none) (f:bootBuiltins x=some (.type T)) (m:PA X (e::es) t) (k:x≠"__name__":=by decide) (c:(x == ("__debug__":Str))=false:=by decide)
  (w:starEach (e::es) X.env=(false,eval e X.env)::starEach es X.env:=by rfl) (b:(backTo pos (starEach es X.env)).any (·.1)=false:=by rfl):PE X (.Call (.Name x p) (e::es) [] pos) (FO r t):=by
 intro a s d H Q I h;refine wpAny_Call_Name_kw (eh I n g f ?_ k c);exact abj (thn (m pos a s d H _ I h) λu i ⟨q,j,o,l,v⟩=>y a i d j q u Q o l v) w b
end
end
end L2
namespace HT
open PySem PyProof.Rows
def lexLt:List Int->List Int->Bool
 | [],[]=>false
 | [],_::_=>true
 | _::_,[]=>false
 | x::xs,y::ys=>if x=y then lexLt xs ys else decide (x < y)
section
variable{prog:Program}{w:World}{A:Around}{E:Value->Shared->Prop}{s:Shared}
def sIx(n d:Nat):Option Int->Nat
 | none=>d
 | some v=>if v < 0 then (v + (n:Int)).toNat else min v.toNat n
end
end HT
namespace L2
open PySem PySem.Spec PyProof.Rows
section
abbrev TO:=St->Hp->(Option Int->Hp->Prop)->Prop
def PO(X:Cx)(e:Option Expr)(t:TO):Prop :=
 ∀(a:List (Addr × Obj)) (s:Shared) (b:St) (H:Hp) (Q:Option Int->Hp->Prop),Inv X a b H s->t b H Q ->
  wpAny (model X.prog X.w) X.A (evalPart e X.env) (λu d=>∃o c,Inv X a b c d/\IsPart u o/\Q o c) X.xe s
def tNoPart:TO:=λ_ H Q=>Q none H
def CB(t:TE):TO:=λb H Q=>t b H λx a=>∃i,x=.int i/\Q (some i) a
section
variable{X:Cx}{e:Expr}{te:TE}{lo hi:Option Expr}{tl th:TO}{pos p2:Pos}
theorem vw:PO X none tNoPart:=by intro a s b H Q I h;rw[evalPart_none];exact wpAny_pure ⟨none,H,I,.none,h⟩
theorem vy(h:PE X e te):PO X (some e) (CB te):=by intro a s j H Q I f;rw[evalPart_some];refine thn (h a s j H _ I f) λu l b=>?_;obtain⟨x,c,g,d,k⟩:=b;obtain⟨i,rfl,q⟩:=k;obtain⟨t,rfl⟩:=d;exact⟨some i,c,g,.int i t,q⟩
def SlR(X:Cx)(r:V->Option Int->Option Int->Hp->VK->Prop):Prop :=
 ∀(a:List (Addr × Obj)) (s:Shared) (d:St) (H:Hp) (x:V) (v f b:Value) (lo hi:Option Int) (c:Addr) (Q:VK),Inv X a d H s->RelV x v->s.heap.IsSliceOf c f b .none->IsPart f lo->IsPart b hi->r x lo hi H Q ->
  ∃T g,typeLookup (.type T) "__getitem__"=pure (some (.builtin g))/\s.TypeIs v T/\wpAny (model X.prog X.w) X.A (getItem v (.ref c)) (EP X a d Q) X.xe s
theorem SlR.or(h:SlR X r)(h':SlR X r'):SlR X (λx lo hi H Q=>r x lo hi H Q\/r' x lo hi H Q):=by
 intro a s d H x v c i lo hi j Q I k f b g q;rcases q with q | q
 ·exact h a s d H x v c i lo hi j Q I k f b g q
 ·exact h' a s d H x v c i lo hi j Q I k f b g q
def Ja(r:V->Option Int->Option Int->Hp->VK->Prop)(te:TE)(tl th:TO):TE:=λa H Q=>te a H λx d=>tl a d λl b=>th a b λu c=>r x l u c Q
theorem rq{r:V->Option Int->Option Int->Hp->VK->Prop}(D:SlR X r)(P:PE X e te)(n:PO X lo tl)(U:PO X hi th):PE X (.Subscript e (.Slice lo hi none p2) pos) (Ja r te tl th):=by intro a s d H Q I h;refine Subscript_ (thn (P a s d H _ I h) λv p i=>?_);obtain⟨x,t,G,B,N⟩:=i;refine wpAny_Slice (thn (n a p d t _ G N) λf z ⟨l,k,L,m,O⟩=>thn (U a z d k _ L O) λg c i=>?_);obtain⟨u,j,C,S,o⟩:=i;rw[evalPart_none];refine wpAny_pure ?_;have y:Inv X a d j { c with heap:=c.heap.push { cls:=.type "slice",data:=.fields #[f,g,.none] } }:=C.kept (t':=c.toks) λb Y q=>Heap.get?_push_of_some _ q;obtain⟨T,W,J,M,F⟩:=D a { c with heap:=c.heap.push { cls:=.type "slice",data:=.fields #[f,g,.none] } } d j x v f g l u c.heap.objs.size Q y B (Heap.IsSliceOf.new ..) m S o;show wpAny (model X.prog X.w) X.A (subscriptTail e (.Slice lo hi none p2) v (.ref c.heap.objs.size)) (EP X a d Q) X.xe { c with heap:=c.heap.push { cls:=.type "slice",data:=.fields #[f,g,.none] } };exact tail_any (ops:=[.ref c.heap.objs.size,v]) M J F (by with_unfolding_all rfl)
def vz(xs:List V)(lo hi:Option Int):List V:=(xs.drop (HT.sIx xs.length 0 lo)).take (HT.sIx xs.length xs.length hi - HT.sIx xs.length 0 lo)
theorem kr(xs:List V)(lo hi:Option Int):(vz xs lo hi).length<=xs.length:=by unfold vz;rw[aaY,abk];omega
def Jc(K:Waa):V->Option Int->Option Int->Hp->VK->Prop:=λx lo hi H Q=>∃a b,x=.ref a/\SqT K H a b /\
 ¬ (HT.sIx b.length 0 lo=0/\HT.sIx b.length b.length hi=b.length)/\∀p,H p=none->Q (.ref p) (upd H p (.tup (vz b lo hi)))
def Jd(K:Waa):R2:=λx y H Q=>∃a b d c,x=.ref a/\y=.ref b/\SqT K H a (d.map V.int)/\SqT K H b (c.map V.int)/\Q (.bl (HT.lexLt d c)) H
def Hv(K:Waa):R2:=λx y H Q=>∃a b d c,x=.ref a/\y=.ref b/\SqT K H a d/\SqT K H b c/\d≠[]/\d.length + c.length<=sizeLine /\
 (c=[]->Q (.ref a) H)/\(c≠[]->∀p,H p=none->Q (.ref p) (upd H p (.tup (d++c))))
end
end
section
def ixN(n:Nat)(i:Int):Option Nat:=if 0<=i then (if i < n then some i.toNat else none) else if -(n:Int)<=i then some (i + n).toNat else none
def atI{a:Type}(xs:List a)(i:Int):Option a:=(ixN xs.length i).bind λj=>xs[j]?
theorem ixN_seq(h:ixN n i=some j):seqIndex? i n=some j/\j < n/\-(n:Int)<=i/\i < n:=by
 unfold ixN at h;by_cases b:0<=i
 ·rw[if_pos b]at h;by_cases a:i < n
  ·rw[if_pos a]at h;have e:i.toNat=j:=aaC h;exact⟨by rw[seqIndex_of b a,e],by omega,by omega,a⟩
  ·rw[if_neg a]at h;cases h
 ·rw[if_neg b]at h;by_cases a:-(n:Int)<=i
  ·rw[if_pos a]at h;have e:(i + n).toNat=j:=aaC h;exact⟨by rw[seqIndex_neg (by omega) a,e],by omega,a,by omega⟩
  ·rw[if_neg a]at h;cases h
theorem atI_get{a:Type}{xs:List a}{i:Int}{v:a}(h:atI xs i=some v):∃j,seqIndex? i xs.length=some j/\xs[j]?=some v/\j < xs.length/\-(xs.length:Int)<=i/\i < xs.length:=by
 unfold atI at h;cases e:ixN xs.length i with
 | none=>rw[e]at h;cases h
 | some j =>rw[e]at h;obtain⟨c,f,b,d⟩:=ixN_seq e;exact⟨j,c,h,f,b,d⟩
theorem atI_last{a:Type}(xs:List a)(v:a):atI (xs++[v]) (-1)=some v:=by
 have b:(xs++[v]).length=xs.length + 1:=by simp
 have e:ixN (xs++[v]).length (-1)=some xs.length:=by unfold ixN;rw[b,if_neg (by decide),if_pos (by omega)];congr 1;omega
 unfold atI;rw[e];show (xs++[v])[xs.length]?=some v;simp
def PlainIx(b:Expr):Prop:=∀o i,subscripted b false o i=operate [o,i] (getItem o i)
def IxR(X:Cx)(r:R2):Prop :=
 ∀(c a:Expr) (b:List (Addr × Obj)) (s:Shared) (d:St) (H:Hp) (x y:V) (v u:Value) (Q:VK),Inv X b d H s->RelV x v->RelV y u->r x y H Q ->
  subscripted a false v u=operate [v,u] (getItem v u)->wpAny (model X.prog X.w) X.A (subscriptTail c a v u) (EP X b d Q) X.xe s
def MtR(X:Cx)(id:String)(r:V->List V->Hp->VK->Prop):Prop :=
 ∀(a:List (Addr × Obj)) (s:Shared) (d:St) (H:Hp) (x:V) (c:List V) (v:Value) (b:List Value) (Q:VK),Inv X a d H s->RelV x v->Vals c b->r x c H Q ->
  wpAny (model X.prog X.w) X.A (call (.builtin id) (v::b)) (EP X a d Q) X.xe s
section
variable{X:Cx}{a b:Expr}{ta tb:TE}{pos:Pos}
theorem IxR.or(h:IxR X r)(h':IxR X r'):IxR X (λx y H Q=>r x y H Q\/r' x y H Q):=by
 intro c d e s i H x y v u Q I j f q g;rcases q with q | q
 ·exact h c d e s i H x y v u Q I j f q g
 ·exact h' c d e s i H x y v u Q I j f q g
theorem MtR.or{d:String}(h:MtR X d r)(h':MtR X d r'):MtR X d (λx xs H Q=>r x xs H Q\/r' x xs H Q):=by
 intro c s g H x xs v e Q I i f q;rcases q with q | q
 ·exact h c s g H x xs v e Q I i f q
 ·exact h' c s g H x xs v e Q I i f q
theorem yf(j:IxR X r)(i:PE X a ta)(f:PE X b tb)(m:PlainIx b):PE X (.Subscript a b pos) (Ci r ta tb):=by intro c s l H Q I h;exact Subscript_ (zq i f I h λv u g x y d k n e q=>j a b c g l d x y v u Q k n e q (m _ _))
def CD(K:Waa):R2:=λx y H Q=>∃p c i v,x=.ref p/\y=.int i/\SqL K H p c/\atI c i=some v/\Q v H
def CF(K:Waa):R2:=λx y H Q=>∃p c i v,x=.ref p/\y=.int i/\SqT K H p c/\atI c i=some v/\Q v H
def rIxS:R2:=λx y H Q=>∃z i c,x=.str z/\y=.int i/\z.length<=sizeLine/\atI z.cps.toList i=some c/\Q (.str ⟨#[c]⟩) H
theorem ix_list:IxR X (CD X.K):=by
 intro m n c s A H x y v u Q I P D h B;obtain⟨p,U,i,z,rfl,rfl,G,O,q⟩:=h;cases P;obtain⟨t,rfl⟩:=D;obtain⟨k,r,g,T⟩:=I.list G;obtain⟨j,e,L,W,J,M⟩:=atI_get O;obtain⟨w,C,f⟩:=r.get L;have F:=r.length;have S:=line63;have d:EP X c A Q w s:=⟨z,H,I,f,q⟩
 by_cases o:0<=i
 ·have l:i.toNat=j:=by rw[seqIndex_of o M]at e;exact aaC e
  exact item_listR g.isList o (by omega) (by rw[l];simpa using C) d B
 ·have l:(i + (k.toArray.size:Int)).toNat=j:=by rw[seqIndex_neg (by omega) J]at e;rw[aar,<- F];exact aaC e
  exact subscriptTail_builtinR (x:=w) g.isList.typeIs slot_list_getitem.lookup
   (wpAny_getItem_list_neg (Q:=λr N=>r=w/\EP X c A Q r N) g.isList (by omega) (by rw[aar]<;>omega) (by omega) (by rw[l];simpa using C) ⟨rfl,d⟩) B
theorem ix_tup:IxR X (CF X.K):=by
 intro e g c s l H x y v u Q I L m h F;obtain⟨p,S,i,z,rfl,rfl,A,G,q⟩:=h;cases L;obtain⟨t,rfl⟩:=m;obtain⟨o,r,k,N⟩:=I.tuple A;obtain⟨j,B,C,T,O,P⟩:=atI_get G;obtain⟨w,J,d⟩:=r.get C;have n:=r.length;have M:=line63;have f:EP X c l Q w s:=⟨z,H,I,d,q⟩
 exact subscriptTail_builtinR (x:=w) k.typeIs slot_tuple_getitem.lookup
  (getItem_tuple (j:=j) (Q:=λr D=>r=w/\EP X c l Q r D) k (by omega) (by omega) (by rw[aar,<- n];exact B) (by simpa using J) ⟨rfl,f⟩) F
theorem zG:IxR X rIxS:=by
 intro d e f s J H x y v u Q I B k h r;obtain⟨z,i,c,rfl,rfl,F,w,q⟩:=h;obtain⟨t,rfl⟩:=B;obtain⟨C,rfl⟩:=k;obtain⟨j,g,o,G,n,p⟩:=atI_get w;have l:z.cps.toList.length=z.length:=by simp[Str.length]
 rw[l]at g n p;have D:=line63;exact tail_any (typeIs_str s z t) slot_str_getitem.lookup (getItem_str (c:=c) (by
  have A:decide (i < -(2 ^ 63:Int))=false:=Dab (by omega);have m:decide (i ≥ 2 ^ 63)=false:=Dab (by omega);rw[A,m,abz]) (by rw[g];simpa using o) ⟨.str ⟨#[c]⟩,H,I.tok _,⟨_,rfl⟩,q⟩) r
def Je(K:Waa):R2:=λx y H Q=>CD K x y H Q\/CF K x y H Q\/rIxS x y H Q
theorem rz:IxR X (Je X.K):=ix_list.or (ix_tup.or zG)
theorem lP(c:List Value)(n j:Nat)(u:Value):Obj.mapSeq (·.setIfInBounds j u) { cls:=.type "list",data:=.seq c.toArray n }={ cls:=.type "list",data:=.seq (c.set j u).toArray n }:=by simp[Obj.mapSeq]
theorem Inv.lst{d:List (Addr × Obj)}{σ:St}(I:Inv X d σ H s)(h:H p=some (.lst xs)) :
  ∃(c:List Value) (n:Nat),Vals xs c/\s.heap.get? p=some { cls:=.type "list",data:=.seq c.toArray n }/\xs.length<=sizeLine:=by
 obtain⟨z,c,n,r,e⟩:=I.hok p _ h;exact⟨c,n,r,e,z⟩
theorem Inv.lstUpd{xs ys:List V}{d c:List Value}{n g:Nat}{f:Obj->Obj}(I:Inv X pins σ H s)(h:H p=some (.lst xs))
  (l:s.heap.get? p=some { cls:=.type "list",data:=.seq d.toArray n }) (i:f { cls:=.type "list",data:=.seq d.toArray n }={ cls:=.type "list",data:=.seq c.toArray g }) (r:Vals ys c) (j:ys.length<=sizeLine) (t:Nat) :
  Inv X pins σ (upd H p (.lst ys)) { s with heap:=s.heap.update p f,toks:=t }:=by
 have e:(s.heap.update p f).get? p=some { cls:=.type "list",data:=.seq c.toArray g }:=by rw[Heap.get?_update_self f l (by rw[i]<;>rfl),i]
 refine I.write (by rw[h];trivial) (.inl rfl) (λb u k q=>(Heap.get?_update_other _ _ (aaN k)).trans q) ⟨_,e⟩ ?_;exact⟨j,c,g,r,e⟩
def rSetL:V->V->V->Hp->(Hp->Prop)->Prop:=λo i v H Q=>∃p c k j,o=.ref p/\i=.int k/\H p=some (.lst c)/\ixN c.length k=some j/\Q (upd H p (.lst (c.set j v)))
theorem set_list:PSet X rSetL:=by
 intro c s G H o i v O M u Q I A C J h;obtain⟨p,F,k,j,rfl,rfl,y,D,q⟩:=h;cases A;obtain⟨t,rfl⟩:=C;obtain⟨d,n,r,l,B⟩:=I.lst y;obtain⟨e,N,x,w⟩:=ixN_seq D;have f:=r.length;have L:=line63;have z:Inv X c G (upd H p (.lst (F.set j v))) { s with heap:=s.heap.update p (Obj.mapSeq (·.setIfInBounds j u)) } :=
  I.lstUpd y l (lP d n j u) (r.set J j) (by rw[abA];exact B) s.toks
 by_cases m:0<=k
 ·have g:k.toNat=j:=by rw[seqIndex_of m w]at e;exact aaC e
  exact PySem.W.ki_setAt l m (by omega) (by rw[aar,<- f];exact w) (by rw[g];exact⟨_,z,q⟩)
 ·have g:(k + (d.toArray.size:Int)).toNat=j:=by rw[seqIndex_neg (by omega) x]at e;rw[aar,<- f];exact aaC e
  exact PySem.W.ki_setBack l (by omega) (by rw[aar,<- f];exact x) (by omega) (by rw[g];exact⟨_,z,q⟩)
theorem jl(lo hi:Option Int)(n:Nat):(sliceBounds lo hi none n).1=((HT.sIx n 0 lo:Nat):Int)/\(sliceBounds lo hi none n).2.1=((HT.sIx n n hi:Nat):Int)/\(sliceBounds lo hi none n).2.2=1:=by
 refine⟨?_,?_,rfl⟩
 ·cases lo with
  | none=>simp[sliceBounds,HT.sIx]
  | some i =>
   simp only[sliceBounds,HT.sIx,Option.getD_none,show (1:Int) > 0 by decide,if_true];by_cases h:i < 0
   ·simp only[h,if_true]<;>omega
   ·simp only[h,if_false]<;>omega
 ·cases hi with
  | none=>simp[sliceBounds,HT.sIx]
  | some i =>
   simp only[sliceBounds,HT.sIx,Option.getD_none,show (1:Int) > 0 by decide,if_true];by_cases h:i < 0
   ·simp only[h,if_true]<;>omega
   ·simp only[h,if_false]<;>omega
theorem iQ(c:List Value)(lo hi:Option Int):slicePick c.toArray lo hi none=((c.drop (HT.sIx c.length 0 lo)).take (HT.sIx c.length c.length hi - HT.sIx c.length 0 lo)).toArray:=by obtain⟨f,d,e⟩:=jl lo hi c.toArray.size;unfold slicePick;rw[f,d,e];simp only[sliceRange_one,pick_run,aar]<;>rfl
def FP(K:Waa):V->Option Int->Option Int->Hp->VK->Prop:=λx d e H Q=>∃a c,x=.ref a/\SqL K H a c/\∀p,H p=none->Q (.ref p) (upd H p (.lst (vz c d e)))
theorem vA:SlR X (FP X.K):=by intro f s u H x v t w e g z Q I p n j o h;obtain⟨a,d,rfl,m,q⟩:=h;cases p;obtain⟨k,r,i,l⟩:=I.list m;have c:=r.length;refine⟨"list",_,slot_list_getitem.lookup,i.isList.typeIs,?_⟩;refine wpAny_getItem_list_slice i.isList n j o .none (by simp) ?_ (by rw[aar]<;>omega);rw[iQ,<- c];refine⟨.ref s.heap.objs.size,_,I.laid (λb y q=>Heap.get?_push_of_some _ q) (aah _) ?_,rfl,q _ (I.hok.fresh (aah _))⟩;exact⟨aat (kr d e g) l,_,0,(r.drop (HT.sIx d.length 0 e)).take (HT.sIx d.length d.length g - HT.sIx d.length 0 e),Heap.get?_push_size _ rfl⟩
def cj:V->Bool
 | .non=>true
 | .bl _=>true
 | .int _=>true
 | .str _=>true
 | _=>false
def eqV:V->V->Bool
 | .non,.non=>true
 | .bl a,.bl b=>a == b
 | .bl a,.int b=>(if a then 1 else 0) == b
 | .int a,.bl b=>a == (if b then 1 else 0)
 | .int a,.int b=>a == b
 | .str a,.str b=>a == b
 | _,_=>false
theorem zH(e:RelV y u)(c:RelV x v)(g:cj y=true)(f:cj x=true):SeqAt.EqAt A s u v (eqV y x):=by
 cases y with
 | non =>
  cases e;cases x with
  | non=>cases c;exact SeqAt.EqAt.same _
  | bl b=>cases c;exact SeqAt.EqAt.none_bool b
  | int b=>obtain⟨t,rfl⟩:=c;exact SeqAt.EqAt.none_int b t
  | str b=>obtain⟨t,rfl⟩:=c;exact SeqAt.EqAt.none_str b t
  | _=>exact absurd (show false=true from f) aae
 | bl a =>
  cases e;cases x with
  | non=>cases c;exact SeqAt.EqAt.bool_none a
  | bl b=>cases c;exact SeqAt.EqAt.bool_bool a b
  | int b=>obtain⟨t,rfl⟩:=c;exact SeqAt.EqAt.bool_int a b t
  | str b=>obtain⟨t,rfl⟩:=c;exact SeqAt.EqAt.bool_str a b t
  | _=>exact absurd (show false=true from f) aae
 | int a =>
  obtain⟨d,rfl⟩:=e;cases x with
  | non=>cases c;exact SeqAt.EqAt.int_none a d
  | bl b=>cases c;exact SeqAt.EqAt.int_bool a d b
  | int b=>obtain⟨t,rfl⟩:=c;exact SeqAt.EqAt.int_int a d b t
  | str b=>obtain⟨t,rfl⟩:=c;exact SeqAt.EqAt.int_str a d b t
  | _=>exact absurd (show false=true from f) aae
 | str a =>
  obtain⟨d,rfl⟩:=e;cases x with
  | non=>cases c;exact SeqAt.EqAt.str_none a d
  | bl b=>cases c;exact SeqAt.EqAt.str_bool a d b
  | int b=>obtain⟨t,rfl⟩:=c;exact SeqAt.EqAt.str_int a d b t
  | str b=>obtain⟨t,rfl⟩:=c;exact SeqAt.EqAt.str_str a d b t
  | _=>exact absurd (show false=true from f) aae
 | _=>exact absurd (show false=true from g) aae
def lQ(x:V)(u:Value):Bool:=match u with
 | .none=>eqV .non x
 | .bool b=>eqV (.bl b) x
 | .int i _=>eqV (.int i) x
 | .str z _=>eqV (.str z) x
 | _=>false
theorem rA(r:RelV y u)(f:cj y=true):lQ x u=eqV y x:=by
 cases y with
 | non=>cases r;rfl
 | bl b=>cases r;rfl
 | int i=>obtain⟨t,rfl⟩:=r;rfl
 | str z=>obtain⟨t,rfl⟩:=r;rfl
 | _=>exact absurd (show false=true from f) aae
theorem eM:∀{xs:List V} {us:List Value},Vals xs us->xs.all cj=true->us.any (lQ x)=xs.any λy=>eqV y x
 | _,_,.nil,_=>rfl
 | y::xs,u::us,.cons r t,f=>by rw[List.all_cons,aaB]at f;rw[aaZ,aaZ,rA r f.1,eM t f.2]
theorem cU(e:RelV x v)(d:cj x=true):∀{xs:List V} {us:List Value},Vals xs us->xs.all cj=true->∀u∈us,SeqAt.EqAt A s u v (lQ x u)
 | _,_,.nil,_=>λu c=>by cases c
 | y::xs,u::us,.cons r t,f=>λg c=>by
  rw[List.all_cons,aaB]at f;rcases aaa.mp c with rfl | c
  ·rw[rA r f.1];exact zH r e f.1 d
  ·exact cU e d t f.2 g c
def inV(x:V)(xs:List V):Bool:=xs.any λy=>eqV y x
def FQ(K:Waa)(d:Bool):R2:=λx y H Q=>∃p c,y=.ref p/\(SqL K H p c\/SqT K H p c)/\cj x=true/\c.all cj=true/\Q (.bl (if d then !inV x c else inV x c)) H
theorem pF:OpR X (compareOp .In) (FQ X.K false):=by
 intro i s o H x y v u Q I k l h;obtain⟨p,n,rfl,d,j,e,q⟩:=h;cases l;rcases d with d | d
 ·obtain⟨c,r,f,m⟩:=I.list d;refine SeqAt.in_listAt (lQ x) f.isList (λw g=>cU k j r e w (by simpa using g)) ⟨.bl _,H,I,rfl,?_⟩;rw[show c.toArray.any (lQ x)=c.any (lQ x) by simp,eM r e];exact q
 ·obtain⟨c,r,f,m⟩:=I.tuple d;refine SeqAt.in_tupleAt (lQ x) f (λw g=>cU k j r e w (by simpa using g)) ⟨.bl _,H,I,rfl,?_⟩;rw[show c.toArray.any (lQ x)=c.any (lQ x) by simp,eM r e];exact q
theorem jn:OpR X (compareOp .NotIn) (FQ X.K true):=by
 intro i s o H x y v u Q I k l h;obtain⟨p,n,rfl,d,j,e,q⟩:=h;cases l;rcases d with d | d
 ·obtain⟨c,r,f,m⟩:=I.list d;refine SeqAt.notIn_listAt (lQ x) f.isList (λw g=>cU k j r e w (by simpa using g)) ⟨.bl _,H,I,rfl,?_⟩;rw[show c.toArray.any (lQ x)=c.any (lQ x) by simp,eM r e];exact q
 ·obtain⟨c,r,f,m⟩:=I.tuple d;refine SeqAt.notIn_tupleAt (lQ x) f (λw g=>cU k j r e w (by simpa using g)) ⟨.bl _,H,I,rfl,?_⟩;rw[show c.toArray.any (lQ x)=c.any (lQ x) by simp,eM r e];exact q
theorem CallR.or(h:CallR X f r)(h':CallR X f r'):CallR X f (λxs H Q=>r xs H Q\/r' xs H Q):=by
 intro c s g H xs d Q I e q;rcases q with q | q
 ·exact h c s g H xs d Q I e q
 ·exact h' c s g H xs d Q I e q
theorem jo:CallR X (.type "list") (λxs H Q=>∃p ys,xs=[.ref p]/\(SqL X.K H p ys\/SqT X.K H p ys)/\∀l,H l=none->Q (.ref l) (upd H l (.lst ys))):=by
 intro i s C H xs F Q I r h;obtain⟨p,ys,rfl,j,q⟩:=h;obtain⟨u,rfl,D⟩:=vals1 r;cases D;have v:∀(c:List Value),Vals ys c->ys.length<=sizeLine->∀(d:Heap) (f:Nat),(∀b B,s.heap.get? b=some B->d.get? b=some B) ->
   d.get? s.heap.objs.size=some { cls:=.type "list",dict:=none,data:=.seq c.toArray f,slots:=#[] }->EP X i C Q (.ref s.heap.objs.size) { s with heap:=d }:=λc g k d f t e =>
  ⟨.ref s.heap.objs.size,_,I.laid t (aah _) (show ObjOk X.prog X.w _ d _ (.lst ys) from ⟨k,c,f,g,e⟩),rfl,q _ (I.hok.fresh (aah _))⟩
 rcases j with j | j
 ·obtain⟨c,g,x,k⟩:=I.list j;have m:=g.length;obtain⟨o,z,A,n,y⟩:=x.isList;exact call_list_seq p (.inl rfl) z A y (λd f t e=>v c g k d f t e) (by simp only[aar]<;>omega)
 ·obtain⟨c,g,x,k⟩:=I.tuple j;have m:=g.length;obtain⟨o,z,A,n,y⟩:=x;exact call_list_seq p (.inr rfl) z A y (λd f t e=>v c g k d f t e) (by simp only[aar]<;>omega)
theorem iR:CallR X (.type "tuple") (λxs H Q=>∃p ys,xs=[.ref p]/\((SqL X.K H p ys/\∀l,H l=none->Q (.ref l) (upd H l (.tup ys)))\/(SqT X.K H p ys/\Q (.ref p) H))):=by
 intro c s t H xs z Q I r h;obtain⟨p,ys,rfl,h⟩:=h;obtain⟨u,rfl,y⟩:=vals1 r;cases y;rcases h with ⟨i,q⟩ | ⟨i,q⟩
 ·obtain⟨d,j,g,k⟩:=I.list i;have m:=j.length;refine call_tuple_list g.isList (λf v=>?_) (by simp only[aar]<;>omega);have n:Inv X c t H { s with heap:=f }:=I.kept (t':=s.toks) v;have x:Inv X c t (upd H f.objs.size (.tup ys)) { s with heap:=f.push { cls:=.type "tuple",data:=.seq d.toArray } } :=
   n.laid (t':=s.toks) (λb o e=>Heap.get?_push_of_some _ e) (aah _) (show ObjOk X.prog X.w _ _ _ (.tup ys) from ⟨k,d,j,⟨_,Heap.get?_push_size _ rfl,rfl,_,rfl,rfl⟩⟩)
  exact⟨.ref f.objs.size,_,x,rfl,q _ (n.hok.fresh (aah _))⟩
 ·obtain⟨d,j,g,k⟩:=I.tuple i;exact call_tuple_same g ⟨.ref p,H,I,rfl,q⟩
def FR(K:Waa)(T:String)(x:V)(H:Hp):Prop:=match x with
 | .str _=>T="str"
 | .int _=>T="int"
 | .ref p=>(T="list"/\∃d,SqL K H p d)\/(T="tuple"/\∃d,SqT K H p d) \/
   (T="dict"/\((∃c,H p=some (.dK c))\/∃c,H p=some (.dT c)))\/(T="set"/\∃S n,H p=some (.set S n))
 | _=>False
theorem zI{g:List (Addr × Obj)}{σ:St}{H:Hp}{s:Shared}{T:String}{x:V}{v:Value}(I:Inv X g σ H s)(r:RelV x v)(h:FR X.K T x H) :
  s.TypeIs v T/\∀a,v=.ref a->∃q,s.heap.get? a=some q/\q.dict=none:=by
 cases x with
 | str z =>obtain⟨t,rfl⟩:=r;cases (show T="str" from h);exact⟨typeIs_str s z t,λ_ e=>nomatch e⟩
 | int i =>obtain⟨t,rfl⟩:=r;cases (show T="int" from h);exact⟨typeIs_int s i t,λ_ e=>nomatch e⟩
 | ref p =>
  cases r;rcases h with ⟨rfl,B,y⟩ | ⟨rfl,B,d⟩ | ⟨rfl,d⟩ | ⟨rfl,S,n,d⟩
  ·obtain⟨u,_,l,_⟩:=I.list y;refine⟨l.isList.typeIs,λa e=>?_⟩;cases e;obtain⟨o,n,e,c,w,_⟩:=l;exact⟨o,e,w⟩
  ·obtain⟨o,m,A,C⟩:=I.tupN d;refine⟨⟨o,m,A⟩,λa e=>?_⟩;cases e;exact⟨o,m,C⟩
  ·have z:∃o,s.heap.get? p=some o/\o.ExactDict:=by
    rcases d with ⟨k,d⟩ | ⟨k,d⟩
    ·obtain⟨_,_,_,_,o,_,_,e,f,_⟩:=I.hok p _ d;exact⟨o,e,f⟩
    ·obtain⟨_,_,_,_,o,_,_,e,f,_⟩:=I.hok p _ d;exact⟨o,e,f⟩
   obtain⟨o,e,f⟩:=z;refine⟨⟨o,e,f.1⟩,λa j=>?_⟩;cases j;exact⟨o,e,f.2.1⟩
  ·obtain⟨o,_,_,_,e,f,_⟩:=I.hok p _ d;refine⟨⟨o,e,f.1⟩,λa j=>?_⟩;cases j;exact⟨o,e,f.2.1⟩
 | _=>exact False.elim h
def Jf(K:Waa)(T:String)(r:V->List V->Hp->VK->Prop)(d:TE):TE:=λe H Q=>d e H λx c=>FR K T x c/\r x [] c Q
def Jg(K:Waa)(T:String)(r:V->List V->Hp->VK->Prop)(g:TE)(t:TA):TE:=λd H Q=>g d H λx c=>FR K T x c/\t d c λf e=>r x f e Q
variable{o e:Expr}{es:List Expr}{to:TE}{t:TA}{name:Str}{apos cpos:Pos}{T id:String}{r:V->List V->Hp->VK->Prop}
theorem ku (F:PlainAttrs T) (j:Slot T name id) (k:typeOf (.builtin id)=pure (.type "method_descriptor")) (w:MtR X id r) (O:PE X o to) (D:PA X (e::es) t)
  (f:attributeBase o name X.env (eval o X.env)=eval o X.env:=by rfl)
  (i:((backTo cpos (starEach (e::es) X.env)).all (λx=>!x.1) && (backToKw cpos (keywordEach [] X.env)).all (λx=>x.1.isSome)
   && decide ((e::es).length + ([]:List Keyword).length + (if ([]:List Keyword).isEmpty then 0 else 1) < 30))=true:=by rfl)
  (g:(apos.endLine == cpos.line)=true:=by rfl) (S:starEach (e::es) X.env=(false,eval e X.env)::starEach es X.env:=by rfl) (d:(backTo cpos (starEach es X.env)).any (·.1)=false:=by rfl) :
  PE X (.Call (.Attribute o name apos) (e::es) [] cpos) (Jg X.K T r to t):=by
 intro c s l H Q I h;refine wpAny_Call_method_late f i g rfl (thn (O c s l H _ I h) λv A y=>?_);obtain⟨x,z,n,m,B,P⟩:=y;obtain⟨G,J⟩:=zI n m B;refine⟨T,id,F,j,k,G,J,?_⟩;have p:=D cpos c A l z _ n P;rw[S]at p ⊢;refine Calls.callWith_builtin (by show (false || (backTo cpos (starEach es X.env)).any (·.1))=false;rw[d]<;>rfl) (Calls.evalArgs_plain ?_);exact thn p λN C ⟨L,q,M,u,U⟩=>w c C l q x L v N Q M m u U
end
end
section
def E7(X:Cx)(id:String)(r:V->List V->Hp->VK->Prop):Prop :=
 ∀(a:List (Addr × Obj)) (s:Shared) (d:St) (H:Hp) (x:V) (c:List V) (v:Value) (b:List Value) (Q:VK),Inv X a d H s->RelV x v->Vals c b->r x c H Q ->
  wpAny (model X.prog X.w) X.A (call (.builtin id) (v::b)) (EP X a d Q) X.xe s
theorem Vals.one(h:Vals [x] us):∃u,us=[u]/\RelV x u:=by
 cases h with | cons r t=>cases t;exact⟨_,rfl,r⟩
theorem Vals.two(h:Vals [x,y] us):∃u v,us=[u,v]/\RelV x u/\RelV y v:=by
 cases h with | cons r t=>cases t with | cons q t=>cases t;exact⟨_,_,rfl,r,q⟩
theorem Vals.zero:∀{us:List Value},Vals [] us->us=[]
 | _,.nil=>rfl
theorem Vals.dropLast(h:Vals xs us):Vals xs.dropLast us.dropLast:=by
 induction h with
 | nil=>exact .nil
 | cons r t a =>
  cases t with
  | nil=>exact .nil
  | cons q b=>exact .cons r a
theorem Vals.eraseIdx:∀{xs:List V} {us:List Value} (i:Nat),Vals xs us->Vals (xs.eraseIdx i) (us.eraseIdx i)
 | _,_,_,.nil=>.nil
 | _,_,0,.cons _ t=>t
 | _,_,i + 1,.cons r t=>.cons r (Vals.eraseIdx i t)
theorem Vals.reverse(h:Vals xs us):Vals xs.reverse us.reverse:=by
 induction h with
 | nil=>exact .nil
 | cons r t a=>rw[List.reverse_cons,List.reverse_cons];exact Vals.append a (.cons r .nil)
theorem Vals.rep(h:Vals xs us):∀k:Nat,Vals (List.replicate k xs).flatten (List.replicate k us).flatten
 | 0=>.nil
 | k + 1=>by rw[aaJ,aaJ,abe,abe];exact Vals.append h (Vals.rep h k)
theorem len_erase{a:Type}:∀(l:List a) (i:Nat),(l.eraseIdx i).length<=l.length
 | [],_=>aah _
 | _::_,0=>abl _
 | _::r,i + 1=>Nat.succ_le_succ (len_erase r i)
theorem foldl_rep(a:List Value):∀(k:Nat) (acc:List Value),
  List.foldl (λc d=>c++d) acc.toArray (List.replicate k a.toArray)=(acc++(List.replicate k a).flatten).toArray
 | 0,acc=>by simp
 | k + 1,acc=>by
  have e:acc.toArray++a.toArray=(acc++a).toArray:=by simp
  have b:(acc++a)++(List.replicate k a).flatten=acc++(List.replicate (k + 1) a).flatten:=by rw[aaJ,abe,aac]
  rw[<- b,<- foldl_rep a k (acc++a),<- e,aaJ,List.foldl_cons]
section
variable{X:Cx}{pins:List (Addr × Obj)}{σ:St}{H:Hp}{s:Shared}{l b:Addr}{xs ys zs:List V}
theorem Inv.lset{c a:List Value}{n:Nat}{f:Array Value->Array Value}{t':Nat}(I:Inv X pins σ H s)(i:H l=some (.lst xs))
  (e:s.heap.get? l=some { cls:=.type "list",data:=.seq c.toArray n }) (h:f c.toArray=a.toArray) (g:Vals ys a) (j:ys.length<=sizeLine) :
  Inv X pins σ (upd H l (.lst ys)) { s with heap:=s.heap.update l (Obj.mapSeq f),toks:=t' }:=by
 have q:=PySem.IsL.update e f;rw[h]at q;refine I.write (by rw[i];exact trivial) (.inl rfl) (λm u d k=>(Heap.get?_update_other s.heap (Obj.mapSeq f) (aaN d)).trans k) ⟨_,q⟩ ?_;exact⟨j,a,_,g,q⟩
theorem Inv.lnew{t':Nat}(I:Inv X pins σ H s)(a:Vals ys its)(c:ys.length<=sizeLine) :
  Inv X pins σ (upd H s.heap.objs.size (.lst ys)) { s with heap:=s.heap.push { cls:=.type "list",data:=.seq its.toArray },toks:=t' } :=
 I.laid (λ_ _ q=>Heap.get?_push_of_some _ q) (aah _) ⟨c,its,0,a,Heap.get?_push_size _ rfl⟩
theorem Inv.fresh(I:Inv X pins σ H s):H s.heap.objs.size=none:=I.hok.fresh (aah _)
theorem Inv.lstM(I:Inv X pins σ H s)(c:H l=some (.lst xs)):xs.length<=sizeLine/\∃(a:List Value) (n:Nat),Vals xs a/\xs.length=a.length/\s.heap.get? l=some { cls:=.type "list",data:=.seq a.toArray n }:=by obtain⟨z,a,n,r,e⟩:=I.hok l _ c;exact⟨z,a,n,r,r.length,e⟩
theorem gG(h:n<=sizeLine):Builtin.List.listTooLong n=false:=by unfold Builtin.List.listTooLong;exact Dab (by omega)
end
section
variable{X:Cx}
def rAppend:V->List V->Hp->VK->Prop:=λx b H Q=>∃l a y,x=.ref l/\b=[y]/\H l=some (.lst a)/\a.length < sizeLine/\Q .non (upd H l (.lst (a++[y])))
theorem iX:E7 X "list.append" rAppend:=by intro b s p H x k v m Q I g d h;obtain⟨l,o,y,rfl,rfl,c,j,q⟩:=h;cases g;obtain⟨u,rfl,f⟩:=d.one;obtain⟨z,a,n,r,i,e⟩:=I.lstM c;refine call_meets F.slot_list_append ⟨_,e,rfl⟩ F.entry_list_append (F.args_list_append_2 _ _) (PySem.list_append l a.toArray n u (by rw[aar];omega)) ⟨e,?_⟩;refine⟨.non,_,I.lset c e (by simp) (r.append (.cons f .nil)) ?_,rfl,q⟩;rw[aai,aaO];omega
def rExtend:V->List V->Hp->VK->Prop:=λx d H Q=>∃l b a c,x=.ref l/\d=[.ref b]/\H l=some (.lst a)/\H b=some (.lst c)/\a.length + c.length<=sizeLine/\Q .non (upd H l (.lst (a++c)))
theorem pH:E7 X "list.extend" rExtend:=by
 intro g s M H x C v D Q I y t h;obtain⟨l,b,G,L,rfl,rfl,i,m,B,q⟩:=h;cases y;obtain⟨u,rfl,w⟩:=t.one;cases w;obtain⟨z,c,n,r,A,e⟩:=I.lstM i;obtain⟨J,a,o,j,p,k⟩:=I.lstM m;have f:c.toArray.size + a.toArray.size<=sizeLine:=by rw[aar,aar];omega
 have d:¬ (!c.toArray.isEmpty && Builtin.List.listTooLong (c.toArray.size + a.toArray.size))=true:=by rw[gG f,Bool.and_false];exact aae
 refine call_meets F.slot_list_extend ⟨_,e,rfl⟩ F.entry_list_extend (F.args_list_extend_2 _ _)
  (AutoSeq1.list_extend_list_list_0 l c.toArray n b a.toArray o d (by rw[aar];omega) (by omega)) ⟨e,k,?_⟩
 refine⟨.non,_,I.lset i e (by simp) (r.append j) ?_,rfl,q⟩;rw[aai];omega
def Jh:V->List V->Hp->VK->Prop:=λx b H Q=>∃l a y,x=.ref l/\b=[]/\H l=some (.lst a)/\a[a.length - 1]?=some y/\Q y (upd H l (.lst a.dropLast))
def rPopAt:V->List V->Hp->VK->Prop:=λx b H Q=>∃l a i k y,x=.ref l/\b=[.int i]/\H l=some (.lst a)/\-(2 ^ 63)<=i/\i < 2 ^ 63/\seqIndex? i a.length=some k/\a[k]?=some y/\Q y (upd H l (.lst (a.eraseIdx k)))
theorem rB:E7 X "list.pop" rPopAt:=by
 intro c s L H x G v J Q I D B h;obtain⟨l,A,i,k,y,rfl,rfl,d,j,o,m,p,q⟩:=h;cases D;obtain⟨u,rfl,C⟩:=B.one;obtain⟨t,rfl⟩:=C;obtain⟨z,a,n,r,f,e⟩:=I.lstM d;obtain⟨w,g,b⟩:=r.get p;refine call_meets F.slot_list_pop ⟨_,e,rfl⟩ F.entry_list_pop (F.args_list_pop_2 _ _)
  (MeetsSeq.list_pop_at l a.toArray n i t k w (fitsIndex_both j o) (by rw[aar,<- f];exact m) (by rw[<- ack];exact g) (by rw[aar];omega)) ⟨e,?_⟩
 refine⟨y,_,I.lset d e ?_ (r.eraseIdx k) ?_,b,q⟩
 ·show a.toArray.eraseIdxIfInBounds k=(a.eraseIdx k).toArray;rw[List.eraseIdxIfInBounds_toArray]
 ·have:=len_erase A k;omega
def CG:V->List V->Hp->VK->Prop:=λx b H Q=>∃l a,x=.ref l/\b=[]/\H l=some (.lst a)/\Q .non (upd H l (.lst a.reverse))
def FS:V->List V->Hp->VK->Prop:=λx a H Q=>∃l b,x=.ref l/\a=[]/\H l=some (.lst b)/\Q .non (upd H l (.lst []))
def Ji:R2:=λx y H Q=>∃l b a c,x=.ref l/\y=.ref b/\H l=some (.lst a)/\H b=some (.lst c)/\a.length + c.length<=sizeLine/\∀p,H p=none->Q (.ref p) (upd H p (.lst (a++c)))
def rRep:R2:=λx y H Q=>∃l k a,x=.ref l/\y=.int k/\H l=some (.lst a)/\-(2 ^ 63)<=k/\k < 2 ^ 63/\a.length * k.toNat<=sizeLine /\
 ∀p,H p=none->Q (.ref p) (upd H p (.lst (List.replicate k.toNat a).flatten))
theorem len_rep{b:Type}(xs:List b)(k:Nat):(List.replicate k xs).flatten.length=k * xs.length:=by
 induction k with
 | zero=>simp
 | succ k a=>rw[aaJ,abe,aai,a,Nat.succ_mul,Nat.add_comm]
theorem zJ:OpR X (binaryOp .Mult) rRep:=by
 intro p s O H x y v u Q I M A h;obtain⟨l,k,N,rfl,rfl,B,G,J,w,q⟩:=h;cases M;obtain⟨t,rfl⟩:=A;obtain⟨z,b,n,r,C,e⟩:=I.lstM B;have f:b.toArray.size * k.toNat<=sizeLine:=by rw[aar,<- C];exact w
 have d:¬ b.toArray.size * k.toNat > (2 ^ 63 - 1) / 8:=by
  have:(sizeLine:Nat)<=(2 ^ 63 - 1) / 8:=by decide
  omega
 have g:¬ (!Builtin.List.listFitsIndex k)=true:=by rw[fitsIndex_both G J];exact aae
 have c:¬ Builtin.List.listTooLong (b.toArray.size * k.toNat)=true:=by rw[gG f];exact aae
 have i:List.foldl (λo j=>o++j) #[] (List.replicate (if b.toArray.isEmpty=true then 0 else k.toNat) b.toArray)=(List.replicate k.toNat b).flatten.toArray:=by
  have D:∀m:Nat,List.foldl (λo j=>o++j) #[] (List.replicate m b.toArray)=(List.replicate m b).flatten.toArray:=λm=>by have:=foldl_rep b m [];rw[aaD]at this;exact this
  rw[D];cases b with
  | nil=>simp
  | cons a P=>rw[if_neg (by simp)]
 refine wpAny_binaryOp_repeat_ref (by decide) ⟨_,e,rfl⟩ (λL=>typeIs_int L k t) noFill_list_mul F.fills_int_mul F.slot_int_rmul repeat_list F.slot_int_index.lookup
  (call_meets F.slot_int_rmul (typeIs_int s k t) F.entry_int_rmul (F.args_int_rmul_2 _ _) (int___rmul___int_list k t l b.toArray n)
   ⟨e,rfl,⟨_,e,rfl⟩,call_meets F.slot_list_mul ⟨_,e,rfl⟩ F.entry_list_mul (F.args_list_mul_2 _ _) (AutoListH.list___mul___list_int_3 l b.toArray n k t g d c) ⟨e,?_⟩⟩)
 rw[i];exact⟨.ref _,_,I.lnew (r.rep k.toNat) (by rw[len_rep,Nat.mul_comm];exact w),rfl,q _ I.fresh⟩
end
section
variable{prog:Program}{w:World}{A:Around}{E:Value->Shared->Prop}{s:Shared}
set_option maxRecDepth 100000 in
end
end
end L2
namespace Att
open PySem PySem.W PySem.Calls PyProof.Rows
theorem gn:∀(ns:List Int) (vs:List Value),WellAll P h vs (ns.map WData.int)->IntsAre vs ns:=by
 intro ns;induction ns with
 | nil =>intro vs w;rw[aaK]at w;cases w;exact .nil
 | cons n ns c =>
  intro vs w;rw[aal]at w;cases w with
  | cons a b =>cases a;exact .cons _ _ (c _ b)
theorem pI{l:OpenLaw}(o:l.most=some n)
  (b:l.row.toRowW.claim.pre args=true) (i:WellAll P h vals args) :
  ∃a vs ns,vals=[Value.ref a]/\args=[WData.list (ns.map WData.int)]/\h.get? a=some { cls:=.type "list",data:=.seq vs.toArray }/\IntsAre vs ns/\ns.length<=n:=by
 have j:WShape.hasAll [] args [.list .int]=true:=(pre_splitW b).1;have k:l.pre.holds [] { args:=args }=true:=(pre_splitW b).2;obtain⟨d,r,rfl,p,s⟩:=hasAllW_cons j;obtain rfl:=hasAllW_nil s;obtain⟨x,rfl,t⟩:=hasW_list p;obtain⟨ns,rfl⟩:=items_int t;have c:ns.length<=n:=by
  unfold OpenLaw.pre at k;have f:(WTm.not (.lt (.lit (.int (n:Int))) (.len (.arg 0)))).holds [] { args:=[.list (ns.map .int)] }=true:=by have f:=(holds_andW k).1;rw[o]at f;exact f
  have g:=condW_of f (w_not (w_lt w_lit (w_len_list (w_arg rfl))));rw[aab]at g;refine Nat.le_of_not_lt λq=>?_;have u:(n:Int) < ((ns.length:Nat):Int):=by omega
  first
   | (rw[Dac u]at g;exact absurd g (by decide))
   | (simp at g;omega)
 cases i with
 | cons v m =>
  cases m;cases v with
  | list w e=>exact⟨_,_,ns,rfl,rfl,w,gn ns _ e,c⟩
theorem pJ(l:OpenLaw)(args:List WData):l.row.toRowW.claim.post args (.bool true) args=true :=
 postW_of
  (show WShape.has [] (.bool true) .bool=true by first | rfl | decide | simp[WShape.has,WShape.arms,WShape.armsAll])
  (show (WTm.eq .res (.lit (.bool true))).value [] { args:=args,res:=some (.bool true),after:=args }=some (.bool (true == true)) from w_eq_bool (w_res rfl) w_lit) rfl
theorem attach_call{l:OpenLaw}
  (M:l.most=some n) (t:d.params.defaults=[])
  (call:∀(w:World) (c b:Shared) (m z:Str->Option Value) (k:Addr) (o:Obj) (x s g:Value) (a:Addr) (vs:List Value) (ns:List Int),
   Ground q loose [] XP w c m z b.heap->YP w b.heap ->
   b.heap.get? k=some o->o.data=.func (docDef d.name d.params d.body d.scope x s g)->b.heap.CodeRec s d.name->m d.name=some (.ref k) ->
   b.heap.get? a=some { cls:=.type "list",data:=.seq vs.toArray }->IntsAre vs ns->ns.length<=n->b.gens=#[] ->
   codeAny (model l.prog w) callerA (.call (.ref k) ⟨[.ref a],[]⟩) (λr p=>r=.ok (.ret (.bool true))/\OldK b.heap p.heap/\p.os=b.os/\AllBare p.gens) b) :
  WalkO q loose XP YP l.row.toRowW d [] (λf vs=>PySem.call f vs):=by
 intro w c b m z G Y k o x s g T H S I u B y N D C W j A F v U;obtain rfl:T=.none:=Dflts.none B t;obtain rfl:H=.none:=Dflts.noKw B;obtain⟨a,vs,ns,rfl,rfl,h,e,i⟩:=pI M j v;refine enter_call (codeAny_mono (call w c b m z k o x s g a vs ns G Y S (fd_plain I) u y h e i N) λr p L=>?_);obtain⟨rfl,P,Q,O⟩:=L;exact⟨.inl ⟨.bool true,.bool true,[],rfl,λ_=>rfl,.bool true,pJ l _,λ_=>⟨List.Pairwise.nil,λ_ J=>(nomatch J)⟩⟩,P,Q,O⟩
section
variable{prog:Program}{w:World}{A:Around}{E:Value->Shared->Prop}{s:Shared}{K:Frag}
def FT(h:Heap):Heap:={ h with objs:=#[] }
def ledger(h:Heap)(L d:Addr):List (Addr × Obj):=(List.range h.objs.size).filterMap λa=>if a=L\/a=d then none else (h.get? a).map λo=>(a,o)
end
end Att
namespace L2
open PySem PySem.Spec PyProof.Rows
section
theorem vals_ints:∀{vs:List Value} {ns:List Int},IntsAre vs ns->Vals (ns.map V.int) vs
 | _,_,.nil=>.nil
 | _,_,.cons n t h=>.cons ⟨t,rfl⟩ (vals_ints h)
def zK(H:Hp):Prop:=∀b,H b=none\/∃o a,H b=some (.frz o (.lst a))
theorem rC{P:Program}{w:World}{K:Waa}{CX:CXT}{k:Nat}{W a:Addr}{fd:FuncData}{sp:Sp}{vs:List Value}{ns:List Int}
  (Y:K.In s₁.heap) (I:s₁.heap.Ns mainGlobals mg) (f:s₁.heap.Ns builtinsNs mb) (T:∀x:Str,x≠"__name__"->mb x=bootBuiltins x) (y:s₁.heap.NoLimit) (hg:s₁.gens=#[])
  (M:s₁.heap.get? a=some { cls:=.type "list",data:=.seq vs.toArray }) (hi:IntsAre vs ns) (hl:ns.length<=sizeLine) (hr:Room k callerA)
  (F:∀g:Heap,K.In g->g.Ns mainGlobals mg->FnOk P w K mg g CX k W fd [x] sp) (p:∀(s:Shared) (u:Value),BindsTo s fd ⟨[u],[]⟩ [(x,u)])
  (U:∀H:Hp,zK H->SqL K H a (ns.map V.int)->sp [.ref a] H (λv _=>v=.bl true) λ_ _ _=>False)
  (O:∀H e i,CX [] H s₁ (λ_ _ _=>False) e i->False) :
  codeAny (model P w) callerA (.call (.ref W) ⟨[.ref a],[]⟩) (λr i=>r=.ok (.ret (.bool true))/\OldK s₁.heap i.heap/\i.os=s₁.os/\AllBare i.gens) s₁:=by
 have Z:=vals_ints hi;have G:=hi.length;have l:∀H:Hp,zK H->SqL K H a (ns.map V.int)->HOk P w H s₁.heap->(∀b,H b≠none->b=a)->(H a≠none->K.lookup a=none) ->
   codeAny (model P w) callerA (.call (.ref W) ⟨[.ref a],[]⟩) (λr i=>r=.ok (.ret (.bool true))/\OldK s₁.heap i.heap/\i.os=s₁.os/\AllBare i.gens) s₁:=by
  intro H hO hS B X hK;have c:∀{b:Addr} {o:Obj},s₁.heap.get? b=some o->H b=none->(jg s₁.heap H).get? b=some o:=λe n=>hidT_get e n;have S:∀{b:Addr} {o:Obj} {C:Array DictEntry} {A:Nat},s₁.heap.get? b=some o->o.data=.dict C A->H b=none:=λ{b o C A} e d=>by
   cases q:H b with
   | none=>rfl
   | some u =>have N:b=a:=X b (by rw[q];simp);subst N;rw[M]at e;cases e;have d':Data.seq vs.toArray _=Data.dict C A:=d;cases d'
  have j:∀{b:Addr} {m:Str->Option Value},s₁.heap.Ns b m->(jg s₁.heap H).Ns b m:=λ{b m} ⟨o,C,A,e,d,r⟩=>⟨o,C,A,c e (S e d),d,r⟩
  have L:K.In (jg s₁.heap H):=λb o e=>c (Y b o e) (by
   cases q:H b with
   | none=>rfl
   | some u =>
    have N:b=a:=X b (by rw[q];simp);subst N;rw[hK (by rw[q];simp)]at e;cases e)
  have hM:Mod K mg (jg s₁.heap H):=⟨L,j I,⟨mb,j f,T⟩,let ⟨mc,h1,h2⟩:=y;⟨mc,j h1,h2⟩⟩
  have e0:Env0 P w K mg (jg s₁.heap H) callerA [] s₁ H:=⟨rfl,hM,λb o e=>u7 e,Nat.le_of_eq (pf _ _),trivial,λb f=>absurd (show b∈([]:List Addr) from f) (by simp),B,.of_eq hg⟩
  refine codeAny_mono ((F _ L (j I)).run callerA [] s₁ H ⟨[.ref a],[]⟩ [.ref a] [.ref a] _ _ hr e0 (p s₁ (.ref a)) (.cons rfl .nil) (U H hO hS)) λr i h=>?_;cases r with
  | error e=>exact (O H e i h).elim
  | ok fl =>
   cases fl with
   | next=>exact False.elim h
   | brk=>exact False.elim h
   | cont=>exact False.elim h
   | ret u =>
    obtain⟨v,H',os,t,un,J,r',q⟩:=h;have q':v=.bl true:=q;subst q';obtain rfl:u=Value.bool true:=r';refine⟨rfl,OldK.of_keep λb o e=>?_,os,t⟩;cases q:H b with
    | none=>exact un.keep b o e q (by intro z;exact absurd (show b∈([]:List Addr) from z) (by simp)) (by simp)
    | some u =>
     rcases hO b with z | ⟨ob,xs,z⟩
     ·rw[q]at z;cases z
     ·have z2:=un.frzs b ob _ z;obtain⟨e1,_⟩:=B b _ z;obtain⟨e2,_⟩:=J b _ z2;rw[e]at e1;cases e1;exact e2
 cases Q:K.lookup a with
 | some o =>have e:=Y a o Q;rw[M]at e;cases e;refine l (λ_=>none) (λ_=>.inl rfl) (.inr ⟨_,vs.toArray,_,Q,rfl,rfl,rfl,by rw[aar,G];exact hl,by simpa using Z⟩) (λb u z=>by have D:(none:Option HO)=some u:=z;cases D) (λb z=>absurd rfl z) λz=>absurd rfl z
 | none =>
  refine l (λb=>if b=a then some (.frz { cls:=.type "list",data:=.seq vs.toArray } (.lst (ns.map V.int))) else none) (λb=>?_) (.inl (.inr ⟨{ cls:=.type "list",data:=.seq vs.toArray },if_pos rfl⟩)) (λb u z=>?_) (λb z=>?_) λ_=>Q
  ·by_cases f:b=a
   ·exact .inr ⟨_,_,if_pos f⟩
   ·exact .inl (if_neg f)
  ·by_cases f:b=a
   ·have D:=(if_pos f).symm.trans z;cases D;subst f;exact⟨M,by rw[aab];exact hl,vs,_,Z,M⟩
   ·have D:=(if_neg f).symm.trans z;cases D
  ·by_cases f:b=a
   ·exact f
   ·exact absurd (if_neg f) z
end
section
abbrev JV{K:Waa}{h:Heap}(_:K.In h):Waa:=K
theorem walk_of{l:PySem.W.OpenLaw}{K:Params->Waa}{CX:World->CXT}{sp:World->Sp}{x:Str}
  (O:l.most=some n) (D:n<=sizeLine) (y:d.params.defaults=[]) (S:Room k callerA)
  (Z:∀(w:World) (h:Heap),YP w h->(K w.params).In h)
  (F:∀(w:World) (m:Str->Option Value) (t:Addr) (h:Heap),(K w.params).In h->h.Ns mainGlobals m->m d.name=some (.ref t) ->
   ∃A:FuncData,(∀(s:Shared) (u:Value),BindsTo s A ⟨[u],[]⟩ [(x,u)]) /\
    ∀c:Heap,(K w.params).In c->c.Ns mainGlobals m->FnOk l.prog w (K w.params) m c (CX w) k t A [x] (sp w))
  (I:∀(w:World) (H:Hp) (a:Addr) (ns:List Int),ns.length<=n->zK H->SqL (K w.params) H a (ns.map V.int)->sp w [.ref a] H (λv _=>v=.bl true) λ_ _ _=>False)
  (B:∀(w:World) (H:Hp) (s:Shared) (e:Value) (z:Shared),CX w [] H s (λ_ _ _=>False) e z->False) :
  PySem.W.WalkO q loose XP YP l.row.toRowW d [] (λf vs=>PySem.call f vs):=by
 refine Att.attach_call O y λw J r m mb t o pm cd a0 a vs ns G Y ho hd Q C p j i U=>?_;have L:=Z w _ Y;obtain⟨A,P,M⟩:=F w m t _ L G.T.g C;exact rC L G.T.g G.T.b G.T.builtins G.T.nolimit U p j (aat i D) S M P (λH N X=>I w H a ns i N X) λH e z=>B w H r e z
end
section
def inClass(s:Stmt)(j:Nat):Stmt:=match s with
 | .ClassDef _ _ _ body _ _ _ _ _ _ _=>body.getD j (.Pass ⟨0,0,0,0⟩)
 | _=>.Pass ⟨0,0,0,0⟩
def cH(s:Stmt):Arguments:=match s with
 | .FunctionDef _ a _ _ _ _ _ _ _ _=>a
 | _=>{ posonlyargs:=[],args:=[],vararg:=none,kwonlyargs:=[],kw_defaults:=[],kwarg:=none,defaults:=[] }
def bF(s:Stmt):List Stmt:=match s with
 | .FunctionDef _ _ b _ _ _ _ _ _ _=>b
 | _=>[]
def aI(s:Stmt):Scope:=match s with
 | .FunctionDef _ _ _ _ _ _ sc _ _ _=>sc
 | _=>{ kind:=.function,names:=[],isGenerator:=false,isCoroutine:=false }
abbrev CX0:CXT:=λ_ _ _ _ _ _=>False
abbrev E0:XK:=λ_ _ _=>False
theorem yg:Passes CX0 X E0:=λ_ _ _ _ _ _ _ h=>h.elim
structure Fun (K:Waa)(x qual:Str)(st:Stmt)(f:Addr)(fd:FuncData):Prop where
 ex:∃(oc:Value) (od:Option Addr) (kV doc pm:Value) (an:Option Addr) (cdv ct:Value) (osl:Array (Option Value)),
  fd=PySem.W.fnOf x qual (cH st) (bF st) (aI st) .none kV doc pm an cdv ct/\K.lookup f=some ⟨oc,od,.func fd,osl⟩/\PySem.W.codeIn K cdv qual=true
 kp:PySem.W.keepIn K (.ref f)=true
section
variable{P:Program}{w:World}{K:Waa}{mg:Str->Option Value}{base:Heap}
theorem Fun.ok{x b:Str}{e:Stmt}(F:Fun K x b e f fd)(S:FnScope N ps (aI e))(i:∀vs H Q E,sp vs H Q E->vs.length=ps.length)
  (d:∀(c:Value) (A:Around) (a:List Env) (s:Shared) (H:Hp) (vs:List V) (Q:VK) (E:XK),Room k (A.deeper (envOfC b (aI e) s.heap.objs.size f c))->sp vs H Q E ->
   ∃t,PSs (jk CX0 P w K mg base N b (aI e) f c A a s H E).nox (bF e) t/\t { nx:=λ_ l=>Q .non l,rt:=Q } (start N vs) H):FnOk P w K mg base CX0 (k + 1) f fd ps sp:=by
 obtain⟨B,r,v,p,y,u,c,z,n,rfl,o,g⟩:=F.ex;refine CA o g S i λA a s H vs Q E m j=>?_;obtain⟨t,h,q⟩:=d c A a s H vs Q E m j;exact⟨t,h.nox,q⟩
theorem Fun.binds{c:Stmt}(F:Fun K x qual c f fd)
  (h:∀(g b e:Value) (d:Option Addr) (a i:Value) (us:List Value),us.length=ps.length->bindArgs (PySem.W.fnOf x qual (cH c) (bF c) (aI c) .none g b e d a i) ⟨us,[]⟩=pure (ps.zip us)):Binds K fd ps []:=by
 obtain⟨n,m,g,b,e,d,a,i,k,rfl,l,j⟩:=F.ex;exact .all (h g b e d a i)
theorem jq{b:Stmt}{g d e a h:Value}(l:K.lookup f=some ⟨oc,od,.func (PySem.W.fnOf x qual (cH b) (bF b) (aI b) .none g d e an a h),osl⟩)
  (c:PySem.W.codeIn K a qual=true) (k:PySem.W.keepIn K (.ref f)=true):Fun K x qual b f (PySem.W.fnOf x qual (cH b) (bF b) (aI b) .none g d e an a h):=⟨⟨oc,od,g,d,e,an,a,h,osl,rfl,l,c⟩,k⟩
end
def Same(H a:Hp):Prop:=∀b o,H b=some o->a b=some o
theorem Same.refl(H:Hp):Same H H:=λ_ _ h=>h
theorem Same.trans(a:Same H H1)(b:Same H1 H2):Same H H2:=λc o h=>b c o (a c o h)
theorem Same.free{H a:Hp}(e:Same H a)(h:a l=Option.none):H l=Option.none:=by
 cases q:H l with
 | none=>rfl
 | some o =>rw[e l o q]at h;cases h
theorem Same.seq{K:Waa}(e:Same H H')(h:SqL K H a xs):SqL K H' a xs:=by
 rcases h with (h | ⟨o,h⟩) | h
 ·exact .inl (.inl (e _ _ h))
 ·exact .inl (.inr ⟨o,e _ _ h⟩)
 ·exact .inr h
end
section
theorem lR:∀(f:List (Str × NameKind)) (acc:List (Str × Addr)),(∀x∈f,x.2=.free->∃c,env.cells.lookup x.1=some c) ->
  (∀x c,acc.lookup x=some c->env.cells.lookup x=some c) ->
  ∃j:List (Str × Addr),forIn f acc (λ(x:Str × NameKind) (r:List (Str × Addr))=>match x with
    | (name,kind)=>(if kind == NameKind.free then do let c <- cellOf env name;pure (ForInStep.yield ((name,c)::r)) else pure (ForInStep.yield r):Sem (ForInStep (List (Str × Addr)))))=pure j /\
   (∀x c,j.lookup x=some c->env.cells.lookup x=some c)/\(∀x∈f,x.2=.free->∃c,j.lookup x.1=some c)/\(∀x c,acc.lookup x=some c->∃i,j.lookup x=some i):=by
 intro f;induction f with
 | nil=>intro acc _ m;exact⟨acc,rfl,m,λ_ h=>(nomatch h),λx c h=>⟨c,h⟩⟩
 | cons p r v =>
  intro acc u m;obtain⟨n,k⟩:=p;rw[abZ];have t:∀x∈r,x.2=.free->∃c,env.cells.lookup x.1=some c:=λx g=>u x (aaj _ g);by_cases o:k=.free
  ·subst o;obtain⟨c,w⟩:=u (n,.free) aag rfl;have s:cellOf env n=pure c:=by unfold cellOf;rw[show env.cells.lookup n=some c from w]
   have q:∀x i,((n,c)::acc).lookup x=some i->env.cells.lookup x=some i:=λx i h=>by
    rw[aa0]at h;cases g:x == n with
    | true=>rw[g]at h;cases h;rw[eq_of_beq g];exact w
    | false=>rw[g]at h;exact m x i h
   obtain⟨j,e,a,b,d⟩:=v ((n,c)::acc) t q;refine⟨j,?_,a,λx g l=>?_,λx i h=>?_⟩
   ·show ((cellOf env n >>= λc=>pure (ForInStep.yield ((n,c)::acc))) >>= _)=_;rw[s];exact e
   ·rcases aaa.mp g with rfl | g
    ·exact d n c (by simp[aa0])
    ·exact b x g l
   ·cases g:x == n with
    | true=>exact d x c (by rw[aa0,g])
    | false=>exact d x i (by rw[aa0,g];exact h)
  ·have y:(k == NameKind.free)=false:=by simpa using o
   obtain⟨j,e,a,b,d⟩:=v acc t m;refine⟨j,?_,a,λx g l=>?_,d⟩
   ·show ((if (k == NameKind.free)=true then _ else _) >>= _)=_;rw[y];exact e
   ·rcases aaa.mp g with rfl | g
    ·exact absurd l o
    ·exact b x g l
theorem gH(h:∀x∈scope.names,x.2=.free->∃c,env.cells.lookup x.1=some c) :
  ∃d:List (Str × Addr),closureFor scope env=pure d/\(∀x c,d.lookup x=some c->env.cells.lookup x=some c)/\(∀x∈scope.names,x.2=.free->∃c,d.lookup x.1=some c):=by
 obtain⟨d,e,a,b,_⟩:=lR scope.names [] h (λ_ _ h=>nomatch h);refine⟨d,?_,a,b⟩;have q:closureFor scope env=(forIn scope.names ([]:List (Str × Addr)) (λ(x:Str × NameKind) (r:List (Str × Addr))=>match x with
    | (name,kind)=>(if kind == NameKind.free then do let c <- cellOf env name;pure (ForInStep.yield ((name,c)::r)) else pure (ForInStep.yield r):Sem (ForInStep (List (Str × Addr))))) >>= λr=>pure r):=rfl
 rw[q,e];rfl
def aX(X:Cx)(N:List Str)(a:Scope)(d:List (Str × Addr))(s:Shared)(H:Hp)(c:List Addr)(b:List (Addr × Obj)):Cx where
 prog:=X.prog
 w:=X.w
 K:=X.K
 mg:=X.mg
 base:=X.base
 A:=X.A
 N:=N
 s₀:=s
 H₀:=H
 env:=compEnvC a d s.heap.objs.size X.env
 outer:=X.stack
 stack:=X.stack
 ex:=c
 fn:=λ_=>false
 calm:=X.calm
 pn:=X.pn++b
 xe:=λ_ _=>False
structure CC where
 cl:List (Str × Addr)
 s:Shared
 H:Hp
 fp:List Addr
 pins:List (Addr × Obj)
abbrev dG(X:Cx)(N:List Str)(scope:Scope)(c:CC):Cx:=aX X N scope c.cl c.s c.H c.fp c.pins
def bw(nt:Nat)(fr:List Nat)(σ:St):St:=List.replicate nt none++fr.map λj=>(σ[j]?).join
structure CompScope (N:List Str)(nt:Nat)(fr:List Nat)(ON:List Str)(sc osc:Scope):Prop where
 kind:sc.kind=.function
 nocell:∀x∈sc.names,x.2≠.cell
 names:∀x∈sc.names,x.2=.local->sc.names.lookup x.1=some .local
 len:N.length=nt + fr.length
 out:∀(i:Nat) (j:Nat),fr[i]?=some j->∃x,N[nt + i]?=some x/\ON[j]?=some x/\osc.names.lookup x=some .cell/\sc.names.lookup x=some .free
 cells:∀x∈sc.names,x.2=.free->osc.names.lookup x.1=some .cell
 looks:∀x∈sc.names,x.2=.free->sc.names.lookup x.1=some .free
theorem bS{sc:Scope}{env:Env}:∀(a:List (Str × NameKind)) (x:Str) (k:NameKind),
  (a.map λ(n,k)=>if (k == NameKind.free && env.scope.kind == .function && env.kindOf n == some .cell) then (n,NameKind.cell) else (n,k)).lookup x=some k ->
  a.lookup x=some k\/(k=.cell/\a.lookup x=some .free)
 | [],_,_,h=>by simp at h
 | (n,k0)::r,x,k,h=>by
  have e:=bS (sc:=sc) (env:=env) r x k;rw[aal]at h;have b:List.lookup x ((if (k0 == NameKind.free && env.scope.kind == .function && env.kindOf n == some .cell)=true then (n,NameKind.cell) else (n,k0))::(r.map λ(n,k)=>if (k == NameKind.free && env.scope.kind == .function && env.kindOf n == some .cell) then (n,NameKind.cell) else (n,k)))=some k:=h;by_cases d:(k0 == NameKind.free && env.scope.kind == .function && env.kindOf n == some .cell)=true
  ·rw[if_pos d,aa0]at b;rw[aa0];cases c:x == n with
   | true =>
    rw[c]at b;cases b;rw[aaB,aaB]at d;have:k0=.free:=by simpa using d.1.1
    subst this;exact .inr ⟨rfl,rfl⟩
   | false=>rw[c]at b;exact e b
  ·rw[if_neg d,aa0]at b;rw[aa0];cases c:x == n with
   | true=>rw[c]at b;exact .inl b
   | false=>rw[c]at b;exact e b
theorem pK(I:Nat->Shared->Prop)
  (q:∀n s,I n s->wpAny (model prog w) A (pyNext it) (λr d=>match r with
   | none=>R (.ok .next) d
   | some v=>wpAny (model prog w) A (letOwnedTupleGo target it v) (λ_ a=>wpAny (model prog w) A (assign target env v) (λ_ a =>
     wpAny (model prog w) A (forIn ifs true λc r=>if r=true then do let p <- isTrue c env (eval c env);pure (ForInStep.yield p) else pure (ForInStep.yield r)) (λp e =>
      if p=true then wpAny (model prog w) A (eval elt env) (λx i =>
       wpAny (model prog w) A (call (.builtin "list.append") [acc,x]) (λ_ g=>∃m,m < n/\I m g) (λ_ _=>False) i) (λ_ _=>False) e
      else ∃m,m < n/\I m e) (λ_ _=>False) a) (λ_ _=>False) a) (λ_ _=>False) d) (λ_ _=>False) s)
  (n:Nat) (h:I n s) :
  codeAny (model prog w) A (.compLoop (.ListComp elt [⟨target,iter,ifs,0⟩] scope pos) 0 it acc env) R s:=by
 refine codeAny_loop rfl I (λn s t=>?_) n h;show wpAny _ A ((compTurn (.ListComp elt [⟨target,iter,ifs,0⟩] scope pos) 0 it acc env).onRaise (λx=>do noteFrame x env;theTreesLotGoes x)) _ _ s;refine wpAny_noted ?_;rw[compTurn_list];refine wpAny_bind (wpAny_standAt (wpAny_bind (wpAny_mono (q n s t) (λr d b=>?_) λ_ _ f=>f.elim)));cases r with
 | none=>exact wpAny_pure b
 | some v =>
  refine wpAny_bind (wpAny_mono b (λ_ a b=>?_) λ_ _ f=>f.elim);refine wpAny_bind (wpAny_mono b (λ_ a o=>wpAny_bind (wpAny_mono o (λp e j=>?_) λ_ _ f=>f.elim)) λ_ _ f=>f.elim);cases p with
  | false=>exact wpAny_pure ⟨rfl,j⟩
  | true =>exact wpAny_bind (wpAny_bind (wpAny_mono j (λx i k=>wpAny_bind (wpAny_mono k (λ_ g l=>wpAny_pure (wpAny_pure ⟨rfl,l⟩)) λ_ _ f=>f.elim)) λ_ _ f=>f.elim))
section
variable{X:Cx}{tg elt iter:Expr}{ifs:List Expr}{scope:Scope}{pos:Pos}{N:List Str}{nt:Nat}{fr:List Nat}
theorem gK(S:CompScope N nt fr X.N scope X.env.scope)(I:Inv X pins σ H s)
  (B:∀b∈fp,FpOk X pins H b) (k:∀b∈fp,b < s.heap.objs.size)
  (a:∀x c,cl.lookup x=some c->X.env.cells.lookup x=some c) (L:∀x∈scope.names,x.2=.free->∃c,cl.lookup x.1=some c)
  (hk:∀b o,s.heap.get? b=some o->s4.heap.get? b=some o) (hn:∃m,s4.heap.Ns s.heap.objs.size m) (ho:s4.os=s.os) (hg:s4.gens=s.gens) :
  Inv (aX X N scope cl s H fp pins) [] (bw nt fr σ) H s4:=by
 have hC:H s.heap.objs.size=none:=I.hok.fresh (aah _);have D:∀b o,s.heap.get? b=some o->b≠s.heap.objs.size:=λb o e=>aas (Heap.lt_size e);have Z:(aX X N scope cl s H fp pins).env.scope.kind=.function:=S.kind;have P:∀x,scope.names.lookup x=some .free->∃c,cl.lookup x=some c:=λx h=>L (x,.free) (aa7 h) rfl;refine⟨⟨I.ok.mod,Z,I.ok.glob,I.ok.blt,aah _,λx y c M f=>I.ok.inj x y c (a x c M) (a y c f),λx hx=>?_,λ_ _ h _=>absurd (show false=true from h) aae,I.ok.hd,I.ok.frames,.inl rfl,λb t=>⟨aas (k b t),λx c e=>(B b t).2.2.2.2.1 x c (a x c e)⟩,
  I.bs,aat I.ok.bsz I.sz,λb o e t=>?_,λb t hs=>?_,I.stack,I.stkFree⟩,ho,by rw[hg];exact I.bare,Un.kept hk,?_,λx c e=>?_,hC,λx c e=>I.freeC x c (a x c e),λp hp=>?_,I.hok.kept hk,?_⟩
 ·have U:(relabel scope X.env).names.lookup x=some .cell\/(relabel scope X.env).names.lookup x=some .free:=hx;rcases U with h | h
  ·rcases bS (sc:=scope) scope.names x _ h with q | ⟨_,q⟩
   ·exact absurd rfl (S.nocell _ (aa7 q))
   ·exact P x q
  ·rcases bS (sc:=scope) scope.names x _ h with q | ⟨q,_⟩
   ·exact P x q
   ·cases q
 ·rcases (B b t).2.2.2.1 with z | z
  ·exact I.ok.noex b o e z
  ·exact absurd (aay (Heap.lt_size e) (aat I.ok.bsz z)) (aa2 _)
 ·rcases aaa.mp (I.stkSub b hs) with z | z
  ·exact (B b t).2.1 z
  ·exact (B b t).2.2.1 z
 ·obtain⟨m,hm⟩:=hn;refine⟨m,hm,λi x v M f h3=>?_⟩;obtain⟨m0,a0,G⟩:=I.loc;have hi:nt<=i:=by refine Nat.le_of_not_lt λk=>?_;unfold bw at f;rw[abY (by simpa using k),acj]at f;rw[if_pos k]at f;cases f
  obtain⟨d,rfl⟩:∃d,i=nt + d:=⟨i - nt,by omega⟩
  unfold bw at f;rw[aa8 (by simp),aby,acl,aax]at f;cases J:fr[d]? with
  | none=>rw[J]at f;cases f
  | some j =>
   rw[J]at f;have g:(σ[j]?).join=some v:=aaC f;have T:σ[j]?=some (some v):=by
    cases e:σ[j]? with
    | none=>rw[e]at g;cases g
    | some q=>rw[e]at g;exact congrArg some g
   obtain⟨y,e1,e2,Y,W⟩:=S.out d j J;have A:N[nt + d]?=some x:=M;rw[e1]at A;cases A;obtain⟨u,ru,l⟩:=G j x v e2 T (.inr (.inl Y));refine⟨u,ru,?_⟩;rcases l with ⟨q,_⟩ | ⟨_,c,ec,z⟩
   ·have C:X.env.scope.names.lookup x=some .local:=q;rw[Y]at C;cases C
   ·obtain⟨Q,w⟩:=P x W;have:Q=c:=by have:=a x Q w;rw[ec]at this;exact (aaC this).symm
    subst this;obtain⟨o,r,F⟩:=z;refine .inr ⟨?_,Q,w,⟨o,hk _ _ r,F⟩⟩;rcases h3 with q | q | q
    ·have C:(relabel scope X.env).names.lookup x=some .local:=q;rcases bS (sc:=scope) scope.names x _ C with z | ⟨z,_⟩
     ·rw[W]at z;cases z
     ·cases z
    ·exact .inl q
    ·exact .inr q
 ·obtain⟨v,o,r,F⟩:=I.cell x c (a x c e);exact⟨v,o,hk _ _ r,F⟩
 ·have O:p∈X.pn++pins:=by
   rcases aan.mp hp with z | z
   ·exact z
   ·exact absurd z (by simp)
  obtain⟨e,n,ne,nf,d⟩:=I.pin p O;refine⟨hk _ _ e,n,D _ _ e,λz=>?_,d⟩;rcases aaa.mp (I.stkSub p.1 z) with q | q
  ·exact ne q
  ·exact nf q
 ·show (bw nt fr σ).length=N.length;unfold bw;rw[aai,aby,aab,S.len]
theorem rD(I:Inv X pins σ H s)(w:∀b∈fp,FpOk X pins H b)
  (r:H D=none) (k:s.heap.objs.size<=D) (p:D < s3.heap.objs.size) (hk:∀b o,s.heap.get? b=some o->s3.heap.get? b=some o) (m:s3.os=s.os)
  (J:Inv (aX X N scope cl s3 (upd H D (.lst [])) fp pins) pins' σ' H1 s5) (l:Heap.SameBut s3.heap.objs.size s5.heap h') :
  Inv X pins σ H1 { s5 with heap:=h' }:=by
 have t:s.heap.objs.size<=s3.heap.objs.size:=aaS (Nat.lt_of_le_of_lt k p);have f:∀b,b < s.heap.objs.size->b≠D/\b≠s3.heap.objs.size:=λb d=>⟨aas (aay d k),aas (aay d t)⟩
 have j:∀b,b≠D->(upd H D (.lst [])) b=H b:=λb d=>upd_ne d;refine I.call' (ch:=fp) (J.os.trans m) ⟨λb o e n d g=>?_,λb o e n d g=>?_,λb o e n g=>?_,λb o e g=>?_,λb C e=>?_,λb o u e=>?_,λb x e=>?_⟩ ?_ J.bare λb d=>?_
 ·obtain⟨h,i⟩:=f b (Heap.lt_size e);exact (l.2 b i).trans (J.base.keep b o (hk b o e) ((j b h).trans n) d g)
 ·obtain⟨h,i⟩:=f b (Heap.lt_size e);obtain⟨M,q⟩:=J.base.slot b o (hk b o e) ((j b h).trans n) d g;exact⟨M,(l.2 b i).trans q⟩
 ·obtain⟨h,i⟩:=f b (Heap.lt_size e);exact J.base.free b o (hk b o e) ((j b h).trans n) g
 ·obtain⟨h,i⟩:=f b (Heap.lt_size e);obtain⟨A,q⟩:=J.base.there b o (hk b o e) g;exact⟨A,(l.2 b i).trans q⟩
 ·exact J.base.tups b C ((j b (ak e r)).trans e)
 ·exact J.base.frzs b o u ((j b (ak e r)).trans e)
 ·exact J.base.tbls b x ((j b (ak e r)).trans e)
 ·intro b u e;refine (J.hok b u e).stay (λc v L q=>(l.2 c ?_).trans q) (λ_ q=>q) λ_ _ q=>q;have a:H1 s3.heap.objs.size=none:=J.free;rintro rfl;rcases L with z | z
  ·rw[z]at a;rw[a]at e;cases e
  ·rw[a]at z;cases z
 ·obtain⟨P,B,O,F,y,G⟩:=w b d;exact⟨F,B,y,G⟩
abbrev TC:=Addr->St->Hp->(Hp->Prop)->Prop
def nj(c:TE):TC:=λD d H Q=>c d H λy b=>∃a,b D=some (.lst a)/\a.length < sizeLine/\Q (upd b D (.lst (a++[y])))
def CH(d:TT)(e:TE):TC:=λD c H Q=>d c H λb a=>if b=true then nj e D c a Q else Q a
def ky(l:TI)(nt:Nat)(fr:List Nat)(g:CC->TG)(n:CC->TC):TE:=λj H Q=>l j H λJ h=>∀(c:CC) D,h D=none->∃W:Nat->Nat->St->Hp->Prop,(∃m,W 0 m (bw nt fr j) (upd h D (.lst []))) /\
 ∀i m a d,W i m a d->(J.stop i d/\Q (.ref D) d)\/(J.go i d/\∀x e,J.yld i d x e->g c x a e λb o=>n c D b o λk=>∃f,f < m/\W (i + 1) f b k)
def kz(Y:Cx)(D:Addr)(ifs:List Expr)(elt:Expr)(i:TC):Prop :=
 ∀(a:List (Addr × Obj)) (s:Shared) (g:St) (H:Hp) (Q:Hp->Prop),Inv Y a g H s->i D g H Q ->
  wpAny (model Y.prog Y.w) Y.A (forIn ifs true λc r=>if r=true then do let h <- isTrue c Y.env (eval c Y.env);pure (ForInStep.yield h) else pure (ForInStep.yield r)) (λh b =>
   if h=true then wpAny (model Y.prog Y.w) Y.A (eval elt Y.env) (λx d =>
    wpAny (model Y.prog Y.w) Y.A (call (.builtin "list.append") [.ref D,x]) (λ_ e=>∃f,Inv Y a g f e/\Q f) Y.xe d) Y.xe b
   else ∃f,Inv Y a g f b/\Q f) Y.xe s
theorem nk(p:PE Y elt te)(I:Inv Y pins σ H s)(h:nj te D σ H Q) :
  wpAny (model Y.prog Y.w) Y.A (eval elt Y.env) (λx b =>
    wpAny (model Y.prog Y.w) Y.A (call (.builtin "list.append") [.ref D,x]) (λ_ a=>∃c,Inv Y pins σ c a/\Q c) Y.xe b) Y.xe s:=by
 refine thn (p pins s σ H _ I h) λu f e=>?_;obtain⟨y,g,k,j,m,n,i,q⟩:=e;refine thn (iX pins f σ g (.ref D) [y] (.ref D) [u] (λv c=>v=.non/\Q c) k rfl (.cons j .nil) ⟨D,m,y,rfl,rfl,n,i,rfl,q⟩) λv r ⟨z,d,l,_,_,o⟩=>⟨d,l,o⟩
theorem pL(b:PE Y elt te):kz Y D [] elt (nj te):=by intro a s c H Q I h;refine wpAny_tests_nil ?_;rw[if_pos rfl];exact nk b I h
theorem rE(i:PT Y c tt)(f:PE Y elt te):kz Y D [c] elt (CH tt te):=by
 intro a s k H Q I h;refine wpAny_tests_one (thn (i a s k H _ I h) λb l g=>?_);obtain⟨j,e,d⟩:=g;cases b with
 | true =>rw[if_pos rfl]at d ⊢;exact nk f e d
 | false =>rw[if_neg aae]at d ⊢;exact⟨j,e,d⟩
theorem iY{a2:Option (Value->Sem Unit)}{Q0:Value->Shared->Prop}(hc:X.calm=true)(S:CompScope N nt fr X.N scope X.env.scope)(hi:PI X tg iter wi)
  (hg:∀c:CC,PG (dG X N scope c) tg (g c)) (ha:∀(c:CC) D,kz (dG X N scope c) D ifs elt (tc c))
  (I:Inv X pins σ H s) (h:ky wi nt fr g tc σ H Q) (c1:∀x∈scope.names,x.2=.free->X.env.kindOf x.1=some .cell)
  (fin:∀(D C:Addr) (Z:Shared) (H1:Hp),FpOk X pins H1 C->Z.heap.get? C≠none->C≠X.env.locals->(∃m,Z.heap.Ns C m)->(∀h',Heap.SameBut C Z.heap h'->Inv X pins σ H1 { Z with heap:=h' })->Q (.ref D) H1 ->
   compPost (model X.prog X.w) X.A X.xe a2 Q0 (.ref D) C (.ok .next) Z)
  (hs:∀x,foldedSetIterable iter X.env x=pure x:=by intro _;rfl) :
  wpAny (model X.prog X.w) X.A (comprehension (.ListComp elt [⟨tg,iter,ifs,0⟩] scope pos) scope X.env (firstIterPos [⟨tg,iter,ifs,0⟩] pos) (newList []) false (eval iter X.env) a2) Q0 X.xe s:=by
 have O:∀x∈scope.names,x.2=.free->∃c,X.env.cells.lookup x.1=some c:=λx hx hf=>I.ok.has x.1 (.inl (c1 x hx hf));obtain⟨v,d0,h1,h2⟩:=gH O;refine wpAny_comprehension_free rfl hs d0 S.kind S.names (thn (hi pins s σ H _ I h) λxv s1 hx=>thn hx λd2 a c7=>?_);obtain⟨it,j,tn,J,t,rfl,I2,T,a6,f2,hW⟩:=c7;have a0:∀b∈j,b < a.heap.objs.size:=λb f=>let ⟨o,e,_⟩:=T.obj 0 _ a6 b f;Heap.lt_size e
 refine wpAny_newObj_type (wpAny_newFunctionEnv S.nocell (by intro y hy;simp at hy) (λB q l=>?_) S.kind) (by show 0<=sizeLine;exact aaH _);have hD:t a.heap.objs.size=none:=I2.hok.fresh (aah _);have I3:Inv X pins σ (upd t a.heap.objs.size (.lst [])) { a with heap:=a.heap.push { cls:=.type "list",dict:=none,data:=.seq ([]:List Value).toArray } }:=I2.lnew .nil (aaH _);generalize hs3:({ a with heap:=a.heap.push { cls:=.type "list",dict:=none,data:=.seq ([]:List Value).toArray } }:Shared)=s3 at q l I3 ⊢;obtain⟨W,⟨m0,w0⟩,a8⟩:=hW ⟨v,s3,upd t a.heap.objs.size (.lst []),j,pins⟩ _ hD;have b6:∀b o,a.heap.get? b=some o->s3.heap.get? b=some o:=λb o e=>by rw[<- hs3];exact Heap.get?_push_of_some _ e
 have z3:s3.heap.objs.size=a.heap.objs.size + 1:=by rw[<- hs3];exact Heap.size_push ..
 have c3:s3.os=a.os:=by rw[<- hs3]
 have f3:∀b∈j,FpOk X pins (upd t a.heap.objs.size (.lst [])) b:=λb f=>⟨by rw[upd_ne (aas (a0 b f))];exact (f2 b f).1,(f2 b f).2⟩
 have a4:∀b o,s3.heap.get? b=some o->B.get? b=some o:=λb o e=>l.extBut b o (aas (Heap.lt_size e)) (Heap.get?_push_of_some _ e);generalize hs4:({ s3 with heap:=B,toks:=s3.toks + ([]:List (Str × Value)).length }:Shared)=s4;have a3:s4.heap=B:=by rw[<- hs4]
 have I4:Inv (aX X N scope v s3 (upd t a.heap.objs.size (.lst [])) j pins) [] (bw nt fr σ) (upd t a.heap.objs.size (.lst [])) s4 :=
  gK S I3 f3 (λb f=>by rw[z3];exact abB (a0 b f)) h1 h2 (λb o e=>by rw[a3];exact a4 b o e) ⟨_,by rw[a3];exact q⟩ (by rw[<- hs4]) (by rw[<- hs4])
 have b0:tn 0 s4.heap:=T.keep 0 _ _ a6 λb f o e=>by rw[a3];exact a4 b o (b6 b o e)
 have Y:codeAny (model X.prog X.w) X.A (.compLoop (.ListComp elt [⟨tg,iter,ifs,0⟩] scope pos) 0 (.ref it) (.ref a.heap.objs.size) (compEnvC scope v s3.heap.objs.size X.env))
   (compPost (model X.prog X.w) X.A X.xe a2 Q0 (.ref a.heap.objs.size) s3.heap.objs.size) s4:=by
  have L:∀{k:Hp},(∀b∈j,k b=none)->∀b∈j,FpOk (aX X N scope v s3 (upd t a.heap.objs.size (.lst [])) j pins) [] k b:=λ{k} hn b f =>
   ⟨hn b f,aas (show b < s3.heap.objs.size by rw[z3];exact abB (a0 b f)),λz=>I4.ok.exfs b f z,.inl f,λx c e=>(f2 b f).2.2.2.2.1 x c (h1 x c e),λp hp=>(f2 b f).2.2.2.2.2 p (by
    rcases aan.mp hp with z | z
    ·exact z
    ·exact absurd z (by simp))⟩
  refine pK (λn s'=>∃i G k,Inv (aX X N scope v s3 (upd t a.heap.objs.size (.lst [])) j pins) [] G k s'/\tn i s'.heap/\(∀b∈j,k b=none)/\W i n G k) ?_ m0
   ⟨0,_,_,I4,b0,λb f=>(f3 b f).1,w0⟩
  rintro n Z ⟨i,P,H5,I5,b8,b7,w5⟩;rcases a8 i n P H5 w5 with ⟨c0,qn⟩ | ⟨go,a7⟩
  ·refine thn (T.done (aX X N scope v s3 (upd t a.heap.objs.size (.lst [])) j pins) rfl rfl rfl hc i [] Z P H5 (λ_ _=>False) I5 (L b7) b8 c0) λr s6 hZ=>?_;obtain⟨hr,I6⟩:=hZ;subst hr;obtain⟨m,hm,_⟩:=id I6.loc;refine fin _ _ s6 H5 (I2.fpOk (by rw[z3];exact abl _) I6.free) ?_ ?_ ⟨m,hm⟩ (λh' c8=>rD I2 f2 hD (aah _) (by rw[z3];exact abm _) b6 c3 I6 c8) qn
   ·obtain⟨o,_,_,ho,_⟩:=hm;intro z;have a5:s6.heap.get? s3.heap.objs.size=some o:=ho;rw[z]at a5;cases a5
   ·exact aa4 (abC I2.lt (by rw[z3];exact abm _))
  ·refine thn (T.item (aX X N scope v s3 (upd t a.heap.objs.size (.lst [])) j pins) rfl rfl rfl hc i [] Z P H5 (λ_ _=>False) I5 (L b7) b8 go) λr s6 hZ=>?_;obtain⟨u,hr,h6⟩:=hZ;subst hr;refine thn h6 λ_ s7 hZ=>?_;obtain⟨x,H7,I7,r7,y7,a1,c4⟩:=hZ;have c6:=I7.pinned (L c4) (T.obj _ _ a1);refine thn (hg ⟨v,s3,upd t a.heap.objs.size (.lst []),j,pins⟩ _ s7 P H7 x u _ c6 r7 (a7 x H7 y7)) λ_ s8 hZ=>?_;obtain⟨M,H8,I8,q8⟩:=hZ;refine thn (ha ⟨v,s3,upd t a.heap.objs.size (.lst []),j,pins⟩ _ _ s8 M H8 _ I8 q8) λok s9 h9=>?_;have F:∀{U:Shared},(∃k,Inv (aX X N scope v s3 (upd t a.heap.objs.size (.lst [])) j pins) ([]++pinsAt j s7.heap) M k U/\∃m',m' < n/\W (i + 1) m' M k) ->
     ∃m,m < n/\∃i G k,Inv (aX X N scope v s3 (upd t a.heap.objs.size (.lst [])) j pins) [] G k U/\tn i U.heap/\(∀b∈j,k b=none)/\W i m G k:=λ{U} ⟨k,I',m',hm,w'⟩=>by
    refine⟨m',hm,i + 1,M,k,I'.unpinned,T.keep _ _ _ a1 λb f o e=>(I'.pin (b,o) (aad _ (aad _ (bD f e)))).1,λb f=>?_,w'⟩;obtain⟨o,e,d⟩:=T.obj _ _ a1 b f;exact (I'.pin (b,o) (aad _ (aad _ (bD f e)))).2.1
   cases ok with
   | true =>rw[if_pos rfl]at h9 ⊢;exact thn h9 λy d1 c2=>thn c2 λ_ d3 c5=>F c5
   | false =>rw[if_neg aae]at h9 ⊢;exact F h9
 exact codeAny_compStart_list Y (T.self X.A 0 s4 _ _ b0 Y)
theorem vB(r:X.calm=true)(S:CompScope N nt fr X.N scope X.env.scope)(j:PI X tg iter wi)
  (n:∀c:CC,PG (dG X N scope c) tg (g c)) (k:∀(c:CC) D,kz (dG X N scope c) D ifs elt (tc c))
  (p:∀x,foldedSetIterable iter X.env x=pure x:=by intro _;rfl) :
  PE X (.ListComp elt [⟨tg,iter,ifs,0⟩] scope pos) (ky wi nt fr g tc):=by
 intro d s t H Q I h;rw[eval_ListComp];refine iY r S j n k I h (λx o e=>S.cells x o e) (λD C u f _ _ _ a l q=>?_) p;obtain⟨m,a⟩:=a;exact⟨m,a,λi b=>⟨.ref D,f,l i b,rfl,q⟩⟩
theorem vC{k d:Pos}(Y:X.N.Nodup)(Z:X.N[i]?=some y)(B:X.env.scope.names.lookup y=some .local)(hc:X.calm=true)(S:CompScope N nt fr X.N scope X.env.scope)(P:PI X tg iter wi)
  (U:∀c:CC,PG (dG X N scope c) tg (g c)) (Q:∀(c:CC) D,kz (dG X N scope c) D ifs elt (tc c))
  (hs:∀x,foldedSetIterable iter X.env x=pure x:=by intro _;rfl)
  (w:swapsWith (.ListComp elt [⟨tg,iter,ifs,0⟩] scope pos) (some (.Name y k)) d.line X.env=pure true:=by rfl) :
  PS X (.Assign [.Name y k] (.ListComp elt [⟨tg,iter,ifs,0⟩] scope pos) d) (qV (ky wi nt fr g tc) (kl i)):=by
 intro j s σ H D I h;rw[exec_Assign_Name_used _ _ _ _ w];refine wpAny_bind (wpAny_standAt (wpAny_bind ?_));show wpAny _ X.A (do let _ <- comprehension (.ListComp elt [⟨tg,iter,ifs,0⟩] scope pos) scope X.env _ (newList []) false (eval iter X.env) (some (assign (.Name y k) X.env))) _ _ s;refine wpAny_bind (wpAny_mono (iY hc S P U Q I h (λx hx L=>S.cells x hx L) (λF C J G f hC _ n T q=>?_) hs) (λ_ s' M=>wpAny_pure (wpAny_pure M)) λ_ _ e=>e);obtain⟨m,n⟩:=n;have I5:Inv X j σ G J:=T J.heap ⟨rfl,λ_ _=>rfl⟩;show wpAny _ X.A (assign (.Name y k) X.env (.ref F)) _ _ _;refine wpAny_assign_Name (fJ I5 Y Z (.inl B) (v:=.ref F) rfl (λs6 W l=>?_) (.inr B));obtain⟨a,p,t⟩:=l;have r:C≠a:=by
  rcases t with e | e
  ·rw[e];exact f.2.1
  ·exact λz=>f.2.2.2.2.1 _ _ e z.symm
 exact⟨m,n.sameBut p r,λh' u=>⟨_,G,W.turned (λb o O e=>(u.2 b O).trans e) f.1 f.2.1 f.2.2.2.1 f.2.2.2.2.1 f.2.2.2.2.2,q⟩⟩
end
end
section
section
variable{prog:Program}{w:World}{A:Around}{E:Value->Shared->Prop}{s:Shared}
theorem eN{items}(a:s.heap.IsTupleIter it t i)
  (h:s.heap.IsTuple t items) (f:items[i]?=some x)
  (g:∀h',h'.IsTupleIter it t (i + 1)->Heap.SameBut it s.heap h'->Q x { s with heap:=h' }) :
  wpAny (model prog w) A (Builtin.SmallTypes.nextOf (.ref it)) Q E s:=by
 obtain⟨o,c,j,b⟩:=id a;obtain⟨l,d,_,k,e⟩:=h;unfold Builtin.SmallTypes.nextOf;refine wpAny_bind (wpAny_callSpecial?_slot a.typeIs F.slot_tuple_iterator_next
  (wpAny_call_entry F.slot_tuple_iterator_next a.typeIs F.entry_tuple_iterator_next ?_ (F.args_tuple_iterator_next_1 _)))
 show wpAny _ _ (field (.ref it) 0 >>= _) _ _ s;refine wpAny_bind (wpAny_field c b rfl ?_);show wpAny _ _ (if (Value.ref t == Value.none)=true then _ else _) _ _ s;rw[if_neg (show ¬ ((Value.ref t == Value.none)=true) from aae)];show wpAny _ _ (field (.ref it) 1 >>= _) _ _ s;refine wpAny_bind (wpAny_field c b rfl ?_);show wpAny _ _ (seqItems? (.ref t) >>= _) _ _ s;refine wpAny_bind (wpAny_seqItems d e ?_);simp only[aaT,f];refine wpAny_bind (wpAny_setField c b (by simp) (wpAny_pure ⟨x,rfl,wpAny_pure (g _ ?_ (Heap.SameBut.update ..))⟩));exact⟨_,Heap.get?_update_self _ c (Obj.isFreed_of_fields (Obj.data_mapFields b _)),(Obj.cls_mapFields ..).trans j,by
  rw[Obj.data_mapFields b];simp[rawInt]⟩
theorem fN{items}{Q:Value->Shared->Prop}(g:A.handled=none)
  (a:s.heap.IsTupleIter it t i) (j:s.heap.IsTuple t items) (h:items[i]?=none)
  (hE:∀h' e,Heap.ExtBut it s.heap h'->(∃o,h'.get? e=some o/\o.cls=.type "StopIteration")->E (.ref e) { s with heap:=h' }) :
  wpAny (model prog w) A (Builtin.SmallTypes.nextOf (.ref it)) Q E s:=by
 obtain⟨o,c,m,d⟩:=id a;obtain⟨l,b,_,k,f⟩:=j;unfold Builtin.SmallTypes.nextOf;refine wpAny_bind (wpAny_callSpecial?_slot a.typeIs F.slot_tuple_iterator_next
  (wpAny_call_entry F.slot_tuple_iterator_next a.typeIs F.entry_tuple_iterator_next ?_ (F.args_tuple_iterator_next_1 _)))
 show wpAny _ _ (field (.ref it) 0 >>= _) _ _ s;refine wpAny_bind (wpAny_field c d rfl ?_);show wpAny _ _ (if (Value.ref t == Value.none)=true then _ else _) _ _ s;rw[if_neg (show ¬ ((Value.ref t == Value.none)=true) from aae)];show wpAny _ _ (field (.ref it) 1 >>= _) _ _ s;refine wpAny_bind (wpAny_field c d rfl ?_);show wpAny _ _ (seqItems? (.ref t) >>= _) _ _ s;refine wpAny_bind (wpAny_seqItems b f ?_);simp only[aaT,h];refine wpAny_bind (wpAny_rule (wpAny_bind (wpAny_setField c d (by simp) ?_)));show wpAny _ _ (newExc (.type "StopIteration") [] >>= _) _ _ _;refine wpAny_bind ?_;simp only[newExc,newTuple];refine wpAny_bind (wpAny_newObj_type ?_ (by size_fits));refine wpAny_bind (wpAny_of_eq (by first | rfl | (simp only[firstArgMember];rfl)) ?_);refine wpAny_newObj_type ?_ (by size_fits);simp only[raiseNew];refine wpAny_bind (wpAny_handled ?_)
 first | rw[show A.in1.handled=none from g] | rw[g]
 refine wpAny_bind (wpAny_pure (wpAny_throw ?_));exact hE _ _ (((Heap.SameBut.update ..).extBut.push _).push _) ⟨_,Heap.get?_push_size _ rfl,rfl⟩
end
inductive ZS where
 | lst (a:Addr) (xs:List V)
 | tup (a:Addr) (xs:List V)
 | str (z:Str)
def ZS.items:ZS->List V
 | .lst _ xs=>xs
 | .tup _ xs=>xs
 | .str z=>z.cps.toList.map λc=>.str ⟨#[c]⟩
def ZS.val:ZS->V
 | .lst a _=>.ref a
 | .tup a _=>.ref a
 | .str z=>.str z
def ZS.ok(K:Waa)(H:Hp):ZS->Prop
 | .lst a xs=>SqL K H a xs
 | .tup a xs=>SqT K H a xs
 | .str _=>True
structure Sub (prog:Program)(w:World)(A:Around)(i:Addr)(sl:List Addr)(src:Heap->Prop)(st:Nat->Heap->Prop)(vs:List V):Prop where
 sfr:∀h h',src h->(∀b∈sl,∀o,h.get? b=some o->h'.get? b=some o)->src h'
 ifr:∀k h h',st k h->(∀o,h.get? i=some o->h'.get? i=some o)->st k h'
 item:∀(k:Nat) (s:Shared) (x:V) (Q:Value->Shared->Prop) (E:Value->Shared->Prop),vs[k]?=some x->src s.heap->st k s.heap ->
  (∀v h' tk,RelV x v->st (k + 1) h'->Heap.SameBut i s.heap h'->Q v { s with heap:=h',toks:=tk })->wpAny (model prog w) A (Builtin.SmallTypes.nextOf (.ref i)) Q E s
 done:∀(k:Nat) (s:Shared) (Q:Value->Shared->Prop) (E:Value->Shared->Prop),vs.length<=k->src s.heap->st k s.heap ->
  (∀h' e,Heap.ExtBut i s.heap h'->(∃o,h'.get? e=some o/\o.cls=.type "StopIteration")->E (.ref e) { s with heap:=h' })->wpAny (model prog w) A (Builtin.SmallTypes.nextOf (.ref i)) Q E s
theorem Sub.list(n:A.handled=none)(i l:Addr)(r:Vals xs its) :
  Sub prog w A i [l] (λh=>h.IsList l its.toArray) (λk h=>h.IsListIter i l k) xs where
 sfr:=λh a x k=>x.at λo e=>k l (by simp) o e
 ifr:=λk h a x f=>x.at λo e=>f o e
 item:=λk s x Q E j c d m=>by obtain⟨u,t,q⟩:=r.get j;exact wpAny_nextOf_list_item d c (by simpa using t) λa b p=>m u a s.toks q b p
 done:=λk s Q E y c d g=>by have v:=r.length;exact wpAny_nextOf_list_end n d c (by simp;omega) g
theorem Sub.tuple(p:A.handled=none)(i l:Addr)(r:Vals xs its) :
  Sub prog w A i [l] (λh=>h.IsTuple l its.toArray) (λk h=>h.IsTupleIter i l k) xs where
 sfr:=λh a ⟨o,e,c⟩ k=>⟨o,k l (by simp) o e,c⟩
 ifr:=λk h a ⟨o,e,c⟩ f=>⟨o,f o e,c⟩
 item:=λk s x Q E m d g n=>by obtain⟨u,v,t⟩:=r.get m;exact eN g d (by simpa using v) λa b q=>n u a s.toks t b q
 done:=λk s Q E z d g j=>by have y:=r.length;exact fN p g d (by simp;omega) j
theorem Sub.strs(u:A.handled=none)(i:Addr)(z:Str)(t:Tok) :
  Sub prog w A i [] (λ_=>True) (λk h=>h.IsStrIter i (strIterType z) z t k) (z.cps.toList.map λc=>V.str ⟨#[c]⟩) where
 sfr:=λh d x k=>trivial
 ifr:=λk h d ⟨o,e,c⟩ f=>⟨o,f o e,c⟩
 item:=λk s x Q E g v a j=>by
  rw[aax]at g;cases e:z.cps.toList[k]? with
  | none=>rw[e]at g;cases g
  | some c =>
   rw[e]at g;have p:V.str ⟨#[c]⟩=x:=aaC g;subst p;have l:z.cps[k]?=some c:=by rw[<- ack];exact e
   unfold strIterType at a j;split at a
   ·rename_i m;rw[if_pos m]at j;exact wpAny_nextOf_ascii_item a l λd b n=>j _ d _ ⟨_,rfl⟩ b n
   ·rename_i m;rw[if_neg m]at j;exact wpAny_nextOf_wide_item a l λd b n=>j _ d _ ⟨_,rfl⟩ b n
 done:=λk s Q E r v a q=>by
  have l:z.cps[k]?=none:=by rw[aab,abW]at r;exact Array.getElem?_eq_none r
  unfold strIterType at a;split at a
  ·exact wpAny_nextOf_ascii_end u a l q
  ·exact wpAny_nextOf_wide_end u a l q
structure ZApart (z TI TO i1 i2:Addr)(sl1 sl2:List Addr):Prop where
 TIz:TI≠z
 TOz:TO≠z
 i1z:i1≠z
 i2z:i2≠z
 TITO:TI≠TO
 TIi1:TI≠i1
 TIi2:TI≠i2
 TOi1:TO≠i1
 TOi2:TO≠i2
 i12:i1≠i2
 s1:∀b∈sl1,b≠z/\b≠TO/\b≠i1/\b≠i2
 s2:∀b∈sl2,b≠z/\b≠TO/\b≠i1/\b≠i2
section
variable{prog:Program}{w:World}{A:Around}{E:Value->Shared->Prop}{s:Shared}
theorem pM{z N p P S:Addr}{Q:Value->Shared->Prop}(D:ZApart z N p P S sl1 sl2)
  (S1:Sub prog w A P sl1 src1 st1 xs) (S2:Sub prog w A S sl2 src2 st2 ys)
  (hz:IsZip s.heap z N p .none) (a5:IsPair s.heap N (.ref P) (.ref S)) (b7:IsPair s.heap p a b)
  (h1:st1 k s.heap) (h2:st2 k s.heap) (a7:src1 s.heap) (b0:src2 s.heap) (hx:xs[k]?=some x) (hy:ys[k]?=some y)
  (hQ:∀u v h' tk,RelV x u->RelV y v->IsZip h' z N p (rawInt s.heap.objs.size)->IsPair h' p u v->st1 (k + 1) h'->st2 (k + 1) h'->IsPair h' s.heap.objs.size u v->h'.objs.size=s.heap.objs.size + 1 ->
   (∀c o,c≠z->c≠p->c≠P->c≠S->s.heap.get? c=some o->h'.get? c=some o)->Q (.ref s.heap.objs.size) { s with heap:=h',toks:=tk })
  (c0:P < s.heap.objs.size) (b8:S < s.heap.objs.size) :
  wpAny (model prog w) A (Builtin.«zip.__next__» ⟨[.ref z],[]⟩) (λa8 s'=>∃v,a8=.done (.ret v)/\Q v s') E s:=by
 show wpAny _ _ (field (.ref z) 2 >>= _) _ _ _;refine wpAny_bind (wpAny_field hz rfl rfl ?_);show wpAny _ _ (field (.ref z) 3 >>= _) _ _ _;refine wpAny_bind (wpAny_field hz rfl rfl ?_);refine wpAny_bind (wpAny_seqItems a5 rfl ?_);show wpAny _ _ (Builtin.SmallTypes.ownedTupleIsFree (.ref z) >>= _) _ _ _;refine wpAny_bind ?_;unfold Builtin.SmallTypes.ownedTupleIsFree;refine wpAny_bind (wpAny_field hz rfl rfl (wpAny_pure ?_));simp only[if_true];refine wpAny_bind (wpAny_rule ?_);refine wpAny_bind (wpAny_field hz rfl rfl ?_);refine wpAny_bind (wpAny_setField_rec hz (by simp) λO t i=>?_);replace t:IsZip O z N p .ellipsis:=t;refine wpAny_bind ?_;simp only[List.zipIdx_cons,List.zipIdx_nil,abZ,List.forIn_nil];refine wpAny_bind (wpAny_bind (wpAny_onRaise ?_));show wpAny _ _ (Builtin.SmallTypes.nextOf (.ref P) >>= _) _ _ _;refine wpAny_bind (S1.item k _ x _ _ hx (S1.sfr _ _ a7 λb hb o e=>i.extBut b o (D.s1 b hb).1 e) (S1.ifr _ _ _ h1 λo e=>i.extBut _ o D.i1z e) λu L b6 ru U g=>wpAny_pure ?_);have g:Heap.SameBut P O L:=g;have F:IsPair L p a b:=g.extBut _ _ D.TOi1 (i.extBut _ _ D.TOz b7);refine wpAny_bind (wpAny_seqItems F rfl ?_);refine wpAny_bind (wpAny_updateSeq_pair F λJ n f=>?_);replace n:IsPair J p u b:=n;have f:Heap.SameBut p L J:=f;refine wpAny_bind (wpAny_letGo (wpAny_pure ?_));refine wpAny_bind (wpAny_bind (wpAny_onRaise ?_));show wpAny _ _ (Builtin.SmallTypes.nextOf (.ref S) >>= _) _ _ _;refine wpAny_bind (S2.item k _ y _ _ hy (S2.sfr _ _ b0 λb hb o e=>f.extBut b o (D.s2 b hb).2.1 (g.extBut b o (D.s2 b hb).2.2.1 (i.extBut b o (D.s2 b hb).1 e)))
  (S2.ifr _ _ _ h2 λo e=>f.extBut _ o D.TOi2.symm (g.extBut _ o D.i12.symm (i.extBut _ o D.i2z e))) λv I a6 rv a0 h=>wpAny_pure ?_)
 have h:Heap.SameBut S J I:=h;have G:IsPair I p u b:=h.extBut _ _ D.TOi2 n;refine wpAny_bind (wpAny_seqItems G rfl ?_);refine wpAny_bind (wpAny_updateSeq_pair G λd l j=>?_);replace l:IsPair d p u v:=l;have j:Heap.SameBut p I d:=j;refine wpAny_bind (wpAny_letGo (wpAny_pure (wpAny_pure ?_)));refine wpAny_bind (wpAny_seqItems l rfl ?_);refine wpAny_bind (wpAny_newTuple ?_);have a2:d.objs.size=s.heap.objs.size:=by rw[j.1,h.1,f.1,g.1,i.1]
 have M:IsZip d z N p .ellipsis:=j.extBut _ _ D.TOz.symm (h.extBut _ _ D.i2z.symm (f.extBut _ _ D.TOz.symm (g.extBut _ _ D.i1z.symm t)));have X:∀c o,c≠z->c≠p->c≠P->c≠S->s.heap.get? c=some o->d.get? c=some o:=λc o Y c2 c3 c4 e =>
  j.extBut _ _ c2 (h.extBut _ _ c4 (f.extBut _ _ c2 (g.extBut _ _ c3 (i.extBut _ _ Y e))))
 have a1:st1 (k + 1) d:=S1.ifr _ _ _ U λo e=>j.extBut _ o D.TOi1.symm (h.extBut _ o D.i12 (f.extBut _ o D.TOi1.symm e));have Z:st2 (k + 1) d:=S2.ifr _ _ _ a0 λo e=>j.extBut _ o D.TOi2.symm e;have T:z < d.objs.size:=Heap.lt_size M;show wpAny _ _ (Builtin.SmallTypes.ownedTupleHandOut (.ref z) (.ref d.objs.size) >>= _) _ _ _;refine wpAny_bind ?_;unfold Builtin.SmallTypes.ownedTupleHandOut;have W:IsZip (d.push { cls:=.type "tuple",data:=.seq #[u,v] }) z N p .ellipsis:=Heap.get?_push_of_some _ M;refine wpAny_bind (wpAny_setField_rec W (by simp) λa4 C r=>?_);replace C:IsZip a4 z N p (rawInt d.objs.size):=C;refine wpAny_setField_rec C (by simp) λq m B=>?_;replace m:IsZip q z N p (rawInt d.objs.size):=m;have up:∀c o,c≠z->d.get? c=some o->q.get? c=some o:=λc o Y e=>B.extBut _ _ Y (r.extBut _ _ Y (Heap.get?_push_of_some _ e));have H:IsPair q d.objs.size u v:=B.extBut _ _ (aa4 T) (r.extBut _ _ (aa4 T) (Heap.get?_push_size _ rfl));have a3:q.objs.size=d.objs.size + 1:=by rw[B.1,r.1,Heap.size_push]
 rw[a2]at m H a3;refine wpAny_pure ⟨_,rfl,?_⟩;show Q (.ref d.objs.size) _;rw[a2];exact hQ u v q _ ru rv m (up _ _ D.TOz l) (S1.ifr _ _ _ a1 λo e=>up _ o D.i1z e) (S2.ifr _ _ _ Z λo e=>up _ o D.i2z e) H a3 λc o Y c2 c3 c4 e=>up c o Y (X c o Y c2 c3 c4 e)
theorem rF{z I B G H:Addr}{Q:Fin->Shared->Prop}(D:ZApart z I B G H sl1 sl2)
  (P:Sub prog w A G sl1 src1 st1 xs) (Y:Sub prog w A H sl2 src2 st2 ys)
  (J:IsZip s.heap z I B .none) (T:IsPair s.heap I (.ref G) (.ref H)) (a2:IsPair s.heap B a b)
  (h1:st1 k s.heap) (h2:st2 k s.heap) (U:src1 s.heap) (a0:src2 s.heap) (L:xs.length<=k\/ys.length<=k)
  (hE:∀h' tk e,(∀c o,c≠z->c≠B->c≠G->c≠H->s.heap.get? c=some o->h'.get? c=some o)->(∃o,h'.get? e=some o/\o.cls=.type "StopIteration")->E (.ref e) { s with heap:=h',toks:=tk }) :
  wpAny (model prog w) A (Builtin.«zip.__next__» ⟨[.ref z],[]⟩) Q E s:=by
 show wpAny _ _ (field (.ref z) 2 >>= _) _ _ _;refine wpAny_bind (wpAny_field J rfl rfl ?_);show wpAny _ _ (field (.ref z) 3 >>= _) _ _ _;refine wpAny_bind (wpAny_field J rfl rfl ?_);refine wpAny_bind (wpAny_seqItems T rfl ?_);show wpAny _ _ (Builtin.SmallTypes.ownedTupleIsFree (.ref z) >>= _) _ _ _;refine wpAny_bind ?_;unfold Builtin.SmallTypes.ownedTupleIsFree;refine wpAny_bind (wpAny_field J rfl rfl (wpAny_pure ?_));simp only[if_true];refine wpAny_bind (wpAny_rule ?_);refine wpAny_bind (wpAny_field J rfl rfl ?_);refine wpAny_bind (wpAny_setField_rec J (by simp) λm j g=>?_);replace j:IsZip m z I B .ellipsis:=j;refine wpAny_bind ?_;simp only[List.zipIdx_cons,List.zipIdx_nil,abZ,List.forIn_nil];refine wpAny_bind (wpAny_bind (wpAny_onRaise ?_));show wpAny _ _ (Builtin.SmallTypes.nextOf (.ref G) >>= _) _ _ _;have l1:src1 m:=P.sfr _ _ U λb M o e=>g.extBut b o (D.s1 b M).1 e;have t1:st1 k m:=P.ifr _ _ _ h1 λo e=>g.extBut _ o D.i1z e;by_cases Z:xs.length<=k
 ·refine wpAny_bind (P.done k _ _ _ Z l1 t1 λi e d he=>?_);have d:Heap.ExtBut G m i:=d;obtain⟨oe,n,y⟩:=he;have t:IsZip i z I B .ellipsis:=d _ _ D.i1z.symm j;have F:e≠z:=λx=>by subst x;rw[t]at n;cases n;simp at y
  refine wpAny_setField_rec t (by simp) λp _ f=>hE p _ e (λc o O _ W _ x=>f.extBut _ _ O (d _ _ W (g.extBut _ _ O x))) ⟨oe,f.extBut _ _ F n,y⟩
 ·have hy:ys.length<=k:=by rcases L with h | h;exact absurd h Z;exact h
  obtain⟨x,a3⟩:∃x,xs[k]?=some x:=⟨_,aak (Nat.lt_of_not_le Z)⟩
  refine wpAny_bind (P.item k _ x _ _ a3 l1 t1 λu i a1 ru X d=>wpAny_pure ?_);have d:Heap.SameBut G m i:=d;have q:IsPair i B a b:=d.extBut _ _ D.TOi1 (g.extBut _ _ D.TOz a2);refine wpAny_bind (wpAny_seqItems q rfl ?_);refine wpAny_bind (wpAny_updateSeq_pair q λp S f=>?_);have f:Heap.SameBut B i p:=f;refine wpAny_bind (wpAny_letGo (wpAny_pure ?_));refine wpAny_bind (wpAny_bind (wpAny_onRaise ?_));show wpAny _ _ (Builtin.SmallTypes.nextOf (.ref H) >>= _) _ _ _;refine wpAny_bind (Y.done k _ _ _ hy (Y.sfr _ _ a0 λb M o e=>f.extBut b o (D.s2 b M).2.1 (d.extBut b o (D.s2 b M).2.2.1 (g.extBut b o (D.s2 b M).1 e)))
   (Y.ifr _ _ _ h2 λo e=>f.extBut _ o D.TOi2.symm (d.extBut _ o D.i12.symm (g.extBut _ o D.i2z e))) λC e l he=>?_)
  have l:Heap.ExtBut H p C:=l;obtain⟨oe,n,y⟩:=he;have r:IsZip C z I B .ellipsis:=l _ _ D.i2z.symm (f.extBut _ _ D.TOz.symm (d.extBut _ _ D.i1z.symm j));have F:e≠z:=λx=>by subst x;rw[r]at n;cases n;simp at y
  refine wpAny_setField_rec r (by simp) λN _ v=>hE N _ e (λc o O c2 W c4 x=>v.extBut _ _ O (l _ _ c4 (f.extBut _ _ c2 (d.extBut _ _ W (g.extBut _ _ O x))))) ⟨oe,v.extBut _ _ F n,y⟩
theorem lS{z g d e f:Addr}(D:ZApart z g d e f sl1 sl2)
  (I:Sub prog w A.in1 e sl1 src1 st1 xs) (M:Sub prog w A.in1 f sl2 src2 st2 ys)
  (q:IsZip s.heap z g d .none) (h:IsPair s.heap g (.ref e) (.ref f)) (p:IsPair s.heap d a b)
  (J:st1 k s.heap) (L:st2 k s.heap) (j:src1 s.heap) (n:src2 s.heap) (S:xs[k]?=some x) (P:ys[k]?=some y)
  (T:∀u v h' m,RelV x u->RelV y v->IsZip h' z g d (rawInt s.heap.objs.size)->IsPair h' d u v->st1 (k + 1) h'->st2 (k + 1) h'->IsPair h' s.heap.objs.size u v->h'.objs.size=s.heap.objs.size + 1 ->
   (∀c o,c≠z->c≠d->c≠e->c≠f->s.heap.get? c=some o->h'.get? c=some o)->Q (some (.ref s.heap.objs.size)) { s with heap:=h',toks:=m })
  (l:e < s.heap.objs.size) (i:f < s.heap.objs.size) :
  wpAny (model prog w) A (pyNext (.ref z)) Q E s:=by
 have r:s.TypeIs (.ref z) "zip":=⟨_,q,rfl⟩
 unfold pyNext;exact wpAny_bind (wpAny_attempt (wpAny_callSpecial?_slot r F.slot_zip_next
  (wpAny_call_entry F.slot_zip_next r F.entry_zip_next
   (pM D I M q h p J L j n S P (λu v h' m H B N U G C W t O=>wpAny_pure (T u v h' m H B N U G C W t O)) l i) (F.args_zip_next_1 _))))
theorem pN{z l f g h:Addr}(D:ZApart z l f g h sl1 sl2)
  (t:Sub prog w A.in1 g sl1 src1 st1 xs) (y:Sub prog w A.in1 h sl2 src2 st2 ys)
  (p:IsZip s.heap z l f .none) (i:IsPair s.heap l (.ref g) (.ref h)) (n:IsPair s.heap f a b)
  (u:st1 k s.heap) (x:st2 k s.heap) (j:src1 s.heap) (m:src2 s.heap) (d:xs.length<=k\/ys.length<=k)
  (B:∀h' r,(∀c o,c≠z->c≠f->c≠g->c≠h->s.heap.get? c=some o->h'.get? c=some o)->Q none { s with heap:=h',toks:=r }):wpAny (model prog w) A (pyNext (.ref z)) Q E s:=by
 have q:s.TypeIs (.ref z) "zip":=⟨_,p,rfl⟩
 unfold pyNext;refine wpAny_bind (wpAny_attempt (wpAny_callSpecial?_slot q F.slot_zip_next
  (wpAny_call_entry F.slot_zip_next q F.entry_zip_next (rF D t y p i n u x j m d λh' r e v G=>?_) (F.args_zip_next_1 _))))
 obtain⟨o,C,H⟩:=G;refine wpAny_bind (wpAny_isInstance ⟨o,C,H⟩ isSubtype_stop ?_);exact wpAny_pure (B _ _ v)
end
end
section
def FU(K:Waa)(a b:ZS):It :=
 ⟨λi H=>a.ok K H/\b.ok K H/\i < a.items.length/\i < b.items.length,
  λi H v c=>∃T x y,a.items[i]?=some x/\b.items[i]?=some y/\H T=none/\v=.ref T/\c=upd H T (.tup [x,y]),
  λi H=>a.ok K H/\b.ok K H/\(a.items.length<=i\/b.items.length<=i)⟩
def ZS.rcd:ZS->Value->Obj
 | .lst _ _,v=>{ cls:=.type "list_iterator",data:=.fields #[v,.int 0 0] }
 | .tup _ _,v=>{ cls:=.type "tuple_iterator",data:=.fields #[v,.int 0 0] }
 | .str z,v=>{ cls:=.type (strIterType z),data:=.fields #[v,.int 0 0] }
def ZS.st(a:ZS)(v:Value)(i:Addr)(k:Nat)(h:Heap):Prop:=match a,v with
 | .lst l _,_=>h.IsListIter i l k
 | .tup l _,_=>h.IsTupleIter i l k
 | .str z,.str _ t=>h.IsStrIter i (strIterType z) z t k
 | .str _,_=>False
def ZS.sl:ZS->List Addr
 | .lst l _=>[l]
 | .tup l _=>[l]
 | .str _=>[]
theorem ZS.st_obj{a:ZS}(x:a.st v i k h):∃o,h.get? i=some o/\∀c,o.data≠.cell c:=by
 cases a with
 | lst l b=>obtain⟨o,e,c,d⟩:=(show h.IsListIter i l k from x);exact⟨o,e,λv z=>by rw[d]at z;cases z⟩
 | tup l b=>obtain⟨o,e,c,d⟩:=(show h.IsTupleIter i l k from x);exact⟨o,e,λv z=>by rw[d]at z;cases z⟩
 | str z =>
  cases v with
  | str y t=>obtain⟨o,e,c,d⟩:=(show h.IsStrIter i (strIterType z) z t k from x);exact⟨o,e,λv z=>by rw[d]at z;cases z⟩
  | _=>exact False.elim x
theorem ZS.st_keep{a:ZS}(x:a.st v i k h)(f:∀o,h.get? i=some o->h'.get? i=some o):a.st v i k h':=by
 cases a with
 | lst l b=>obtain⟨o,e,c⟩:=(show h.IsListIter i l k from x);exact⟨o,f o e,c⟩
 | tup l b=>obtain⟨o,e,c⟩:=(show h.IsTupleIter i l k from x);exact⟨o,f o e,c⟩
 | str z =>
  cases v with
  | str y t=>obtain⟨o,e,c⟩:=(show h.IsStrIter i (strIterType z) z t k from x);exact⟨o,f o e,c⟩
  | _=>exact False.elim x
section
variable{X:Cx}{pins:List (Addr × Obj)}{σ:St}{H:Hp}{s:Shared}
theorem ZS.sub(a:ZS)(I:Inv X pins σ H s)(c:a.ok X.K H)(x:RelV a.val v)(A:Around)(q:A.handled=none)(i:Addr) :
  ∃j:Heap->Prop,j s.heap/\Sub X.prog X.w A i a.sl j (a.st v i) a.items/\(∀b∈a.sl,∃o,s.heap.get? b=some o/\(H b≠none\/X.base.get? b=some o)):=by
 cases a with
 | lst l m =>
  have c:SqL X.K H l m:=c;obtain⟨k,r,p,u⟩:=I.list c;refine⟨_,p.isList,Sub.list q i l r,λb d=>?_⟩;have e:b=l:=by simpa [ZS.sl] using d
  subst e;rcases c with (h | ⟨o,h⟩) | ⟨o,g,n,f,_⟩
  ·obtain⟨_,_,_,_,e⟩:=I.hok _ _ h;exact⟨_,e,.inl (by rw[h];simp)⟩
  ·obtain⟨e,_⟩:=I.hok _ _ h;exact⟨_,e,.inl (by rw[h];simp)⟩
  ·exact⟨o,I.kIn _ _ f,.inr (I.ok.mod.kin _ _ f)⟩
 | tup l m =>
  have c:SqT X.K H l m:=c;obtain⟨k,r,p,u⟩:=I.tuple c;refine⟨_,p,Sub.tuple q i l r,λb d=>?_⟩;have e:b=l:=by simpa [ZS.sl] using d
  subst e;rcases c with (h | ⟨o,h⟩) | ⟨o,g,n,f,_⟩
  ·obtain⟨_,_,_,o,e,_⟩:=I.hok _ _ h;exact⟨_,e,.inl (by rw[h];simp)⟩
  ·obtain⟨e,_⟩:=I.hok _ _ h;exact⟨_,e,.inl (by rw[h];simp)⟩
  ·exact⟨o,I.kIn _ _ f,.inr (I.ok.mod.kin _ _ f)⟩
 | str z =>obtain⟨t,rfl⟩:=x;exact⟨_,trivial,Sub.strs q i z t,λb d=>by simp[ZS.sl]at d⟩
end
theorem aM{a:ZS}(I:Inv X pins σ H s)(f:FpOk X pins H b)(h:∀c∈a.sl,∃o,s.heap.get? c=some o/\(H c≠none\/X.base.get? c=some o)):∀c∈a.sl,c≠b:=by
 intro c d e;subst e;obtain⟨o,_,q⟩:=h c d;rcases q with q | q
 ·exact q f.1
 ·rcases f.2.2.2.1 with z | z
  ·exact I.ok.noex c o q z
  ·exact absurd (aay (Heap.lt_size q) (aat I.ok.bsz z)) (aa2 _)
structure ZRec (z TI TO i1 i2:Addr):Prop where
 TIz:TI≠z
 TOz:TO≠z
 i1z:i1≠z
 i2z:i2≠z
 TITO:TI≠TO
 TIi1:TI≠i1
 TIi2:TI≠i2
 TOi1:TO≠i1
 TOi2:TO≠i2
 i12:i1≠i2
theorem Inv.turnedL{t':Nat}{g:List Addr}(I:Inv X pins σ H s)(k:∀b o,b ∉ g->s.heap.get? b=some o->h'.get? b=some o)(f:∀b∈g,FpOk X pins H b)
  : Inv X pins σ H { s with heap:=h',toks:=t' }:=by
 have d:∀b u,H b=some u->b ∉ g:=λb u e z=>by rw[(f b z).1]at e;cases e
 refine I.step (λb j=>?_) (λb o _ _ a e _=>k b o a e) (λb o _ _ a e _=>⟨o.slots,k b o a e⟩) (λ_ _ _ _ n=>n)
  (λb o a e=>⟨o,k b o a e⟩) (λ_ _ e=>e) (λ_ _ _ e=>e) (λb B e=>⟨#[],by rw[e];simp⟩) (λm h=>?_) (λb u e=>?_) I.bare
 ·obtain⟨C,t,A,w,i,y⟩:=f b j;exact⟨w,t,i,y⟩
 ·obtain⟨o,p,l,x,r⟩:=h;exact⟨o,p,l,k _ o (λz=>(f _ z).2.1 rfl) x,r⟩
 ·refine (I.hok b u e).stay (λc v a q=>k c v ?_ q) (λ_ q=>q) λ_ _ q=>q;rcases a with z | z
  ·rw[z];exact d b u e
  ·exact d c _ z
theorem rG{P:Program}{w:World}{K:Waa}{es:List Expr}{x1}{pos:Pos}(a b:ZS)(va vb:Value)(ra:RelV a.val va)(rb:RelV b.val vb)(z TI TO i1 i2:Addr)(R:ZRec z TI TO i1 i2) :
  Turn P w K (.Tuple es x1 pos) (FU K a b) [z,TI,TO,i1,i2] z
   (λi h=>IsZip h z TI TO .none/\IsPair h TI (.ref i1) (.ref i2)/\(∃p q,IsPair h TO p q)/\a.st va i1 i h/\b.st vb i2 i h) where
 mem:=by simp
 obj:=λi h ⟨C,F,⟨p,q,L⟩,G,J⟩ c d=>by
  simp only[aaa,aaq,or_false]at d;rcases d with rfl | rfl | rfl | rfl | rfl
  ·exact⟨_,C,λv z=>by cases z⟩
  ·exact⟨_,F,λv z=>by cases z⟩
  ·exact⟨_,L,λv z=>by cases z⟩
  ·exact ZS.st_obj G
  ·exact ZS.st_obj J
 keep:=λi h h' ⟨C,F,⟨p,q,L⟩,G,J⟩ k =>
  ⟨k z (by simp) _ C,k TI (by simp) _ F,⟨p,q,k TO (by simp) _ L⟩,ZS.st_keep G (λo e=>k i1 (by simp) o e),ZS.st_keep J (λo e=>k i2 (by simp) o e)⟩
 item:=by
  intro X hP hw hK d i t s σ H E I g ⟨C,F,⟨p,q,L⟩,G,J⟩ hg;subst hP hw hK;obtain⟨N,Q,la,lb⟩:=hg;have W:X.A.in1.handled=none:=I.ok.hd d;obtain⟨Y,O,S1,j⟩:=a.sub I N ra X.A.in1 W i1;obtain⟨Z,M,S2,l⟩:=b.sub I Q rb X.A.in1 W i2;obtain⟨x,hx⟩:∃x,a.items[i]?=some x:=⟨_,aak la⟩
  obtain⟨y,hy⟩:∃y,b.items[i]?=some y:=⟨_,aak lb⟩
  have D:ZApart z TI TO i1 i2 a.sl b.sl:=⟨R.TIz,R.TOz,R.i1z,R.i2z,R.TITO,R.TIi1,R.TIi2,R.TOi1,R.TOi2,R.i12,
   λc d=>⟨aM I (g z (by simp)) j c d,aM I (g TO (by simp)) j c d,aM I (g i1 (by simp)) j c d,aM I (g i2 (by simp)) j c d⟩,
   λc d=>⟨aM I (g z (by simp)) l c d,aM I (g TO (by simp)) l c d,aM I (g i1 (by simp)) l c d,aM I (g i2 (by simp)) l c d⟩⟩
  have fl:∀c∈([z,TI,TO,i1,i2]:List Addr),c < s.heap.objs.size:=λc d=>by
   simp only[aaa,aaq,or_false]at d;rcases d with rfl | rfl | rfl | rfl | rfl
   ·exact Heap.lt_size C
   ·exact Heap.lt_size F
   ·exact Heap.lt_size L
   ·obtain⟨o,e,_⟩:=ZS.st_obj G;exact Heap.lt_size e
   ·obtain⟨o,e,_⟩:=ZS.st_obj J;exact Heap.lt_size e
  refine lS D S1 S2 C F L G J O M hx hy (λu v h' tk ru rv a4 a0 T a1 hT a7 hk=>?_) (fl i1 (by simp)) (fl i2 (by simp));refine⟨.ref s.heap.objs.size,rfl,?_⟩;refine wpAny_letOwnedTupleGo_zip a4 λB a2 f=>?_;have f:Heap.SameBut z h' B:=f;have k1:∀c o,c ∉ ([z,TI,TO,i1,i2]:List Addr)->s.heap.get? c=some o->B.get? c=some o:=λc o d e=>by simp only[aaa,aaq,or_false,not_or]at d;exact f.extBut _ _ d.1 (hk c o d.1 d.2.2.1 d.2.2.2.1 d.2.2.2.2 e)
  have S:H s.heap.objs.size=none:=I.hok.fresh (aah _);have I1:Inv X t σ H { s with heap:=B,toks:=tk }:=I.turnedL k1 g;have a5:s.heap.objs.size≠z:=aa4 (fl z (by simp));have a3:IsPair B s.heap.objs.size u v:=f.extBut _ _ a5 hT;have I2:Inv X t σ (upd H s.heap.objs.size (.tup [x,y])) { s with heap:=B,toks:=tk }:=by
   refine I.step (g':=s.gens) (d':=s.drawn) (ch:=[z,TI,TO,i1,i2]) (λb hb=>?_) (λb o _ _ d e _=>k1 b o d e) (λb o _ _ d e _=>⟨o.slots,k1 b o d e⟩) (λb o d e n=>?_)
    (λb o d e=>⟨o,k1 b o d e⟩) (λb ys e=>?_) (λb o u e=>?_) (λb ps e=>⟨#[],?_⟩) (λm hm=>?_) (λb o e=>?_) I.bare
   ·obtain⟨f0,f1,f2,f3,f4,f5⟩:=g b hb;exact⟨f3,f1,f4,f5⟩
   ·rw[upd_ne (aas (Heap.lt_size e))];exact n
   ·rw[upd_ne (ak e S)];exact e
   ·rw[upd_ne (ak e S)];exact e
   ·rw[upd_ne (ak e S),e];simp
   ·obtain⟨o,a6,ep,ho,r⟩:=hm;exact⟨o,a6,ep,k1 _ o (λz=>(g _ z).2.1 rfl) ho,r⟩
   ·by_cases hb:b=s.heap.objs.size
    ·subst hb;rw[aB]at e;cases e;exact⟨(by show 2<=sizeLine;decide),[u,v],.cons ru (.cons rv .nil),⟨_,a3,rfl,_,rfl,rfl⟩⟩
    ·rw[upd_ne hb]at e;refine (I1.hok b o e).stay (λc v d q=>q) (λc q=>by rw[upd_ne (ak q S)];exact q) λc ys q=>by rw[upd_ne (ak q S)];exact q
  refine⟨.ref s.heap.objs.size,_,I2,rfl,⟨_,x,y,hx,hy,S,rfl,rfl⟩,⟨a2,?_,⟨u,v,f.extBut _ _ R.TOz a0⟩,ZS.st_keep T (λo e=>f.extBut _ _ R.i1z e),ZS.st_keep a1 (λo e=>f.extBut _ _ R.i2z e)⟩,λc d=>?_⟩
  ·exact f.extBut _ _ R.TIz (hk _ _ R.TIz R.TITO R.TIi1 R.TIi2 F)
  ·rw[upd_ne (aas (fl c d))];exact (g c d).1
 done:=by
  intro X hP hw hK d i t s σ H E I g ⟨C,F,⟨p,q,L⟩,G,J⟩ hg;subst hP hw hK;obtain⟨N,Q,U⟩:=hg;have W:X.A.in1.handled=none:=I.ok.hd d;obtain⟨Y,O,S1,j⟩:=a.sub I N ra X.A.in1 W i1;obtain⟨Z,M,S2,l⟩:=b.sub I Q rb X.A.in1 W i2;have D:ZApart z TI TO i1 i2 a.sl b.sl:=⟨R.TIz,R.TOz,R.i1z,R.i2z,R.TITO,R.TIi1,R.TIi2,R.TOi1,R.TOi2,R.i12,
   λc d=>⟨aM I (g z (by simp)) j c d,aM I (g TO (by simp)) j c d,aM I (g i1 (by simp)) j c d,aM I (g i2 (by simp)) j c d⟩,
   λc d=>⟨aM I (g z (by simp)) l c d,aM I (g TO (by simp)) l c d,aM I (g i1 (by simp)) l c d,aM I (g i2 (by simp)) l c d⟩⟩
  refine pN D S1 S2 C F L G J O M U λh' tk hk=>⟨rfl,I.turnedL (λc o d e=>?_) g⟩
  simp only[aaa,aaq,or_false,not_or]at d;exact hk c o d.1 d.2.2.1 d.2.2.2.1 d.2.2.2.2 e
 self:=λ_ _ _ _ _ ⟨C,_⟩ h=>wpAny_pyIter_zip C h
theorem gL(k l:Value)(o1 i:Obj)(c a:Heap->Prop)(m:∀h o,a h->a (h.push o))
  (r:∀(prog:Program) (w:World) (A:Around) (E:Value->Shared->Prop) (s:Shared) (Q:Value->Shared->Prop),c s.heap->Q (.ref s.heap.objs.size) { s with heap:=s.heap.push o1 }->wpAny (model prog w) A (pyIter k) Q E s)
  (t:∀(prog:Program) (w:World) (A:Around) (E:Value->Shared->Prop) (s:Shared) (Q:Value->Shared->Prop),a s.heap->Q (.ref s.heap.objs.size) { s with heap:=s.heap.push i }->wpAny (model prog w) A (pyIter l) Q E s) :
  Meets (Builtin.«zip.__new__» ⟨[.type "zip",k,l],[]⟩) (λ_ R s=>c s.heap/\a s.heap /\
   R (.ok (.ret (.ref ((((s.heap.push o1).push i).push { cls:=.type "tuple",data:=.seq #[.ref s.heap.objs.size,.ref (s.heap.push o1).objs.size] }).push { cls:=.type "tuple",data:=.seq #[.none,.none] }).objs.size)))
    { s with heap:=((((s.heap.push o1).push i).push { cls:=.type "tuple",data:=.seq #[.ref s.heap.objs.size,.ref (s.heap.push o1).objs.size] }).push { cls:=.type "tuple",data:=.seq #[.none,.none] }).push { cls:=.type "zip",data:=.fields #[.none,.bool false,.bool false,.ref ((s.heap.push o1).push i).objs.size,.ref (((s.heap.push o1).push i).push { cls:=.type "tuple",data:=.seq #[.ref s.heap.objs.size,.ref (s.heap.push o1).objs.size] }).objs.size] } }) :=
 .of_wp λprog w A R s h=>by
  obtain⟨b,g,d,f,e⟩:=s;obtain⟨j,p,h⟩:=h;have q:=sub_zip;have u:∀{A:Around} {E:Value->Shared->Prop} {Q:Value->Shared->Prop},Q (.ref b.objs.size) ⟨b.push o1,g,d,f,e⟩->wpAny (model prog w) A (pyIter k) Q E ⟨b,g,d,f,e⟩:=λn=>r _ _ _ _ ⟨b,g,d,f,e⟩ _ j n;have v:∀{A:Around} {E:Value->Shared->Prop} {Q:Value->Shared->Prop},Q (.ref (b.push o1).objs.size) ⟨(b.push o1).push i,g,d,f,e⟩->wpAny (model prog w) A (pyIter l) Q E ⟨b.push o1,g,d,f,e⟩:=λn=>t _ _ _ _ ⟨b.push o1,g,d,f,e⟩ _ (m _ _ p) n
  wp_walk using u,v
  exact⟨_,rfl,h⟩
end
section
theorem boot_zip:bootBuiltins "zip"=some (.type "zip"):=by decide +kernel
section
variable{X:Cx}
theorem ZS.iter(a:ZS)(I:Inv X pins σ H s)(f:a.ok X.K H)(e:RelV a.val v) :
  ∃b:Heap->Prop,b s.heap/\(∀h o,b h->b (h.push o)) /\
   ∀(prog:Program) (w:World) (A:Around) (E:Value->Shared->Prop) (s:Shared) (Q:Value->Shared->Prop),b s.heap->Q (.ref s.heap.objs.size) { s with heap:=s.heap.push (a.rcd v) }->wpAny (model prog w) A (pyIter v) Q E s:=by
 cases a with
 | lst l d =>obtain⟨c,r,p,g⟩:=I.list (show SqL X.K H l d from f);cases e;exact⟨λh=>h.IsList l c.toArray,p.isList,λh o x=>x.push o,λprog w A E s Q h q=>wpAny_pyIter_list h q⟩
 | tup l d =>obtain⟨c,r,p,g⟩:=I.tuple (show SqT X.K H l d from f);cases e;exact⟨λh=>h.IsTuple l c.toArray,p,λh o x=>x.push o,λprog w A E s Q h q=>wpAny_pyIter_tuple h q⟩
 | str z =>obtain⟨t,rfl⟩:=e;exact⟨λ_=>True,trivial,λ_ _ _=>trivial,λprog w A E s Q _ q=>wpAny_pyIter_strU q⟩
theorem ZS.st0(a:ZS)(b:RelV a.val v)(e:h.get? i=some (a.rcd v)):a.st v i 0 h:=by
 cases a with
 | lst l c=>cases b;exact⟨_,e,rfl,rfl⟩
 | tup l c=>cases b;exact⟨_,e,rfl,rfl⟩
 | str z=>obtain⟨t,rfl⟩:=b;exact⟨_,e,rfl,rfl⟩
theorem kA(a:ZS)(v:Value):(a.rcd v).isFreed=false:=by cases a<;>rfl
def FV(K:Waa)(e:TA):TI:=λf H R=>e f H λd c=>∃a b:ZS,d=[a.val,b.val]/\a.ok K c/\b.ok K c/\R (FU K a b) c
theorem addNe(h:i≠j):(n + i:Addr)≠n + j:=λe=>h (acm e)
theorem addNe0(h:i≠0):(n + i:Addr)≠n:=λe=>h (acm e)
theorem zL {es:List Expr} {x1} {n:Pos} {a b:Expr} {p pos:Pos} (hg:Gl X "zip") (U:X.mg "zip"=none) (ha:PA X [a,b] ta) (hs:starEach [a,b] X.env=[(false,eval a X.env),(false,eval b X.env)]:=by rfl) (m:starEach [b] X.env=[(false,eval b X.env)]:=by rfl) :
  PI X (.Tuple es x1 n) (.Call (.Name "zip" p) [a,b] [] pos) (FV X.K ta):=by
 intro f s P H R I h;refine Call_ (eh I hg U boot_zip (abj (thn (ha pos f s P H _ I h) λus d W=>?_) (by rw[hs,m]) (by rw[m];rfl)));obtain⟨vs,G,l,r1,q1⟩:=W;obtain⟨g,i,e,x,y,q⟩:=q1;subst e;obtain⟨t,u,rfl,C,B⟩:=r1.two;obtain⟨r,h1,_,Z⟩:=g.iter l x C;obtain⟨j,h2,z,p2⟩:=i.iter l y B;refine callType_new F.called_zip (by decide) (F.typeCall_zip_2 _ _) (F.newCall_zip_2 _ _) (λw=>F.args_object_init_3 w _ _) F.entry_zip_new
  (gL t u (g.rcd t) (i.rcd u) r j z Z p2) ⟨h1,h2,?_⟩
 generalize hA:d.heap.push (g.rcd t)=A1;generalize hB:A1.push (i.rcd u)=A2;generalize hC:A2.push { cls:=.type "tuple",data:=.seq #[.ref d.heap.objs.size,.ref A1.objs.size] }=A3;generalize hD:A3.push { cls:=.type "tuple",data:=.seq #[.none,.none] }=A4;generalize hE:A4.push { cls:=.type "zip",data:=.fields #[.none,.bool false,.bool false,.ref A2.objs.size,.ref A3.objs.size] }=A5;have D:A1.objs.size=d.heap.objs.size + 1:=by rw[<- hA];exact Heap.size_push ..
 have A:A2.objs.size=d.heap.objs.size + 2:=by rw[<- hB,Heap.size_push,D]
 have v:A3.objs.size=d.heap.objs.size + 3:=by rw[<- hC,Heap.size_push,A]
 have N:A4.objs.size=d.heap.objs.size + 4:=by rw[<- hD,Heap.size_push,v]
 have S:A5.get? A4.objs.size=some { cls:=.type "zip",data:=.fields #[.none,.bool false,.bool false,.ref A2.objs.size,.ref A3.objs.size] }:=by rw[<- hE];exact Heap.get?_push_size _ rfl
 have L:∀c o,A4.get? c=some o->A5.get? c=some o:=λc o e=>by rw[<- hE];exact Heap.get?_push_of_some _ e
 have T:∀c o,A3.get? c=some o->A5.get? c=some o:=λc o e=>L c o (by rw[<- hD];exact Heap.get?_push_of_some _ e);have J:∀c o,A2.get? c=some o->A5.get? c=some o:=λc o e=>T c o (by rw[<- hC];exact Heap.get?_push_of_some _ e);have O:∀c o,A1.get? c=some o->A5.get? c=some o:=λc o e=>J c o (by rw[<- hB];exact Heap.get?_push_of_some _ e);have u1:∀c o,d.heap.get? c=some o->A5.get? c=some o:=λc o e=>O c o (by rw[<- hA];exact Heap.get?_push_of_some _ e);have g4:A5.get? A3.objs.size=some { cls:=.type "tuple",data:=.seq #[.none,.none] }:=L _ _ (by rw[<- hD];exact Heap.get?_push_size _ rfl);have g3:A5.get? A2.objs.size=some { cls:=.type "tuple",data:=.seq #[.ref d.heap.objs.size,.ref A1.objs.size] }:=T _ _ (by rw[<- hC];exact Heap.get?_push_size _ rfl);have Y:A5.get? A1.objs.size=some (i.rcd u):=J _ _ (by rw[<- hB];exact Heap.get?_push_size _ (kA _ _));have g1:A5.get? d.heap.objs.size=some (g.rcd t):=O _ _ (by rw[<- hA];exact Heap.get?_push_size _ (kA _ _));refine⟨⟨_,S,rfl⟩,?_⟩;have Q:IsZip A5 A4.objs.size A2.objs.size A3.objs.size .none:=S;refine wpAny_pyIter_zip Q ?_;have R:ZRec A4.objs.size A2.objs.size A3.objs.size d.heap.objs.size A1.objs.size:=by rw[D,A,v,N];refine⟨?_,?_,?_,?_,?_,?_,?_,?_,?_,?_⟩<;>first | exact addNe (by decide) | exact addNe0 (by decide) | exact (addNe0 (by decide)).symm
 have I5:Inv X f P G { d with heap:=A5 }:=l.kept u1;refine⟨A4.objs.size,[A4.objs.size,A2.objs.size,A3.objs.size,d.heap.objs.size,A1.objs.size],_,_,G,rfl,I5,rG g i t u C B _ _ _ _ _ R,
  ⟨Q,g3,⟨_,_,g4⟩,g.st0 C g1,i.st0 B Y⟩,λb M=>?_,q⟩
 have k:d.heap.objs.size<=b:=by simp only[aaa,aaq,or_false]at M;rcases M with rfl | rfl | rfl | rfl | rfl<;>first | exact aah _ | (rw[N];exact abD _ _) | (rw[v];exact abD _ _) | (rw[A];exact abD _ _) | (rw[D];exact abD _ _)
 exact l.fpOk k (l.hok.fresh k)
end
section
variable{X:Cx}
theorem vD:∀{us:List Value},Vals (a.map V.bl) us->LSm.BoolsAre us a:=by
 induction a with
 | nil=>intro us r;rw[aaK]at r;cases r;exact .nil
 | cons b a e =>
  intro us r;rw[aal]at r;cases r with
  | cons d c=>cases d;exact .cons b (e c)
theorem rH(w:X.calm=true):CallR X (.builtin "all") (λxs H Q=>∃(p:Addr) (a:List Bool),xs=[.ref p]/\SqL X.K H p (a.map V.bl)/\Q (.bl (a.all id)) H):=by
 intro g s J H xs D Q I r h;obtain⟨p,a,rfl,l,q⟩:=h;obtain⟨u,rfl,x⟩:=vals1 r;cases x;obtain⟨c,t,d,z⟩:=I.list l;obtain⟨m,F⟩:=I.fr;have f:p < s.heap.objs.size:=by obtain⟨_,_,e,_⟩:=d;exact Heap.lt_size e
 have j:=vD t;refine call_all_walk (wpAny_pyIter_list d.isList ?_);refine⟨s.heap.objs.size,[s.heap.objs.size,p],[s.heap.objs.size],c.toArray.size,_,_,λi=>(a[i]?).getD true,rfl,Walks.list (A:=X.A.in1) (I.ok.hd w) _ p (aas f) c.toArray,
  ⟨⟨_,Heap.get?_push_size _ rfl,rfl,rfl⟩,d.isList.push _⟩,λi v C L y n k=>?_,λB G o=>?_⟩
 ·obtain⟨b,e,rfl⟩:=j.get i v (by simpa using n);simp only[e,Option.getD_some]at k;exact wpAny_truthy_bool k
 ·have e:((List.range c.toArray.size).all λi=>(a[i]?).getD true)=a.all id:=by rw[aar,j.length];exact LSm.range_all a
  rw[e];exact⟨.bl (a.all id),H,I.kept (LSm.kept_iter o),rfl,q⟩
def JW(K:Waa)(H:Hp)(x:V)(n:String):Prop:=TyOf K H x (.type n)
end
end
section
mutual
inductive Dt (K:Waa)(H:Hp):V->PyData->Prop
 | non:Dt K H .non .none
 | bl (b:Bool):Dt K H (.bl b) (.bool b)
 | int (i:Int):Dt K H (.int i) (.int i)
 | str (x:Str):Dt K H (.str x) (.str x)
 | lst {a xs ds}:SqL K H a xs->DtAll K H xs ds->Dt K H (.ref a) (.list ds)
 | tup {a xs ds}:SqT K H a xs->DtAll K H xs ds->Dt K H (.ref a) (.tuple ds)
inductive DtAll (K:Waa)(H:Hp):List V->List PyData->Prop
 | nil:DtAll K H [] []
 | cons {x d xs ds}:Dt K H x d->DtAll K H xs ds->DtAll K H (x::xs) (d::ds)
end
theorem DtAll.length{K:Waa}(h:DtAll K H xs ds):xs.length=ds.length:=by
 induction xs generalizing ds with
 | nil=>cases h;rfl
 | cons v b a=>cases h with | cons _ t=>rw[aam,aam,a t]
theorem DtAll.get{K:Waa}{i:Nat}(h:DtAll K H xs ds)(e:ds[i]?=some d):∃x,xs[i]?=some x/\Dt K H x d:=by
 induction xs generalizing ds i with
 | nil=>cases h;cases i<;>cases e
 | cons v b a =>
  cases h with
  | cons r t =>
   cases i with
   | zero=>cases e;exact⟨_,rfl,r⟩
   | succ i=>exact a t e
theorem DtAll.append{K:Waa}(h:DtAll K H xs ds)(h':DtAll K H ys es):DtAll K H (xs++ys) (ds++es):=by
 induction xs generalizing ds with
 | nil=>cases h;exact h'
 | cons v b a=>cases h with | cons r t=>exact .cons r (a t)
theorem DtAll.ints{K:Waa}:∀(ns:List Int),DtAll K H (ns.map V.int) (ns.map PyData.int)
 | []=>.nil
 | n::ns=>.cons (.int n) (DtAll.ints ns)
theorem Same.tupS{K:Waa}{H b:Hp}(e:Same H b)(h:SqT K H a xs):SqT K b a xs:=by
 rcases h with (h | ⟨o,h⟩) | h
 ·exact .inl (.inl (e _ _ h))
 ·exact .inl (.inr ⟨o,e _ _ h⟩)
 ·exact .inr h
theorem Dt.ind{K:Waa}{P:V->PyData->Prop}{Q:List V->List PyData->Prop}(e:P .non .none)(l:∀b,P (.bl b) (.bool b))(k:∀i,P (.int i) (.int i))(f:∀x,P (.str x) (.str x))
  (c:∀{a xs ds},SqL K H a xs->Q xs ds->P (.ref a) (.list ds)) (g:∀{a xs ds},SqT K H a xs->Q xs ds->P (.ref a) (.tuple ds)) (nil:Q [] []) (cons:∀{x d xs ds},P x d->Q xs ds->Q (x::xs) (d::ds)) :
  (∀{v d},Dt K H v d->P v d)/\∀{vs ds},DtAll K H vs ds->Q vs ds :=
 ⟨λh=>Dt.rec e l k f (λh _ i=>c h i) (λh _ i=>g h i) nil (λ_ _ i j=>cons i j) h,
  λh=>DtAll.rec e l k f (λh _ i=>c h i) (λh _ i=>g h i) nil (λ_ _ i j=>cons i j) h⟩
theorem Dt.mono_{K:Waa}{H a:Hp}(s:Same H a):(∀{x:V} {d:PyData},Dt K H x d->Dt K a x d)/\∀{xs:List V} {ds:List PyData},DtAll K H xs ds->DtAll K a xs ds :=
 Dt.ind .non .bl .int .str (λh t=>.lst (s.seq h) t) (λh t=>.tup (s.tupS h) t) .nil (λr t=>.cons r t)
theorem Dt.mono{K:Waa}(s:Same H H')(h:Dt K H x d):Dt K H' x d:=(Dt.mono_ s).1 h
theorem DtAll.mono{K:Waa}(s:Same H H')(h:DtAll K H xs ds):DtAll K H' xs ds:=(Dt.mono_ s).2 h
section
variable{X:Cx}{pins:List (Addr × Obj)}{σ:St}{H:Hp}{s:Shared}
theorem Dt.reads_(I:Inv X pins σ H s):(∀{x:V} {d:PyData},Dt X.K H x d->∀{u:Value},RelV x u->∃as,Reads s.heap u d as)/\∀{xs:List V} {ds:List PyData},DtAll X.K H xs ds->∀{us:List Value},Vals xs us->∃as,ReadsAll s.heap us ds as:=by
 refine Dt.ind (P:=λx d=>∀{u:Value},RelV x u->∃as,Reads s.heap u d as) ?_ ?_ ?_ ?_ ?_ ?_ ?_ ?_
 ·intro u r;cases r;exact⟨_,.none⟩
 ·intro b u r;cases r;exact⟨_,.bool b⟩
 ·intro i u r;obtain⟨t,rfl⟩:=r;exact⟨_,.int i t⟩
 ·intro x u r;obtain⟨t,rfl⟩:=r;exact⟨_,.str x t⟩
 ·intro a xs ds h i u r;cases r;obtain⟨c,g,⟨o,n,e,k,_,f⟩,_⟩:=I.list h;obtain⟨as,q⟩:=i g;exact⟨_,.list e k f (by simpa using q)⟩
 ·intro a xs ds h i u r;cases r;obtain⟨c,g,⟨o,e,k,n,f⟩,_⟩:=I.tuple h;obtain⟨as,q⟩:=i g;exact⟨_,.tuple e k f (by simpa using q)⟩
 ·intro us r;cases r;exact⟨_,.nil⟩
 ·intro x d xs ds i j us r;cases r with
  | cons m l =>obtain⟨as,q⟩:=i m;obtain⟨v,p⟩:=j l;exact⟨_,.cons q p⟩
theorem Dt.reads(I:Inv X pins σ H s)(h:Dt X.K H x d)(r:RelV x u):∃as,Reads s.heap u d as:=(Dt.reads_ I).1 h r
theorem DtAll.reads(I:Inv X pins σ H s)(h:DtAll X.K H xs ds)(r:Vals xs us):∃as,ReadsAll s.heap us ds as:=(Dt.reads_ I).2 h r
end
mutual
theorem eqv_refl:∀(d:PyData),d.canLay0=true->PyData.eqv d d=true
 | .none,_=>by simp[PyData.eqv]
 | .bool b,_=>by simp[PyData.eqv]
 | .int i,_=>by simp[PyData.eqv]
 | .str x,_=>by simp[PyData.eqv]
 | .list xs,h=>by simp only[PyData.eqv];exact eqvAll_refl xs (by simpa [PyData.canLay0] using h)
 | .tuple xs,h=>by simp only[PyData.eqv];exact eqvAll_refl xs (by simpa [PyData.canLay0] using h)
 | .dict _,h=>by simp[PyData.canLay0]at h
theorem eqvAll_refl:∀(ds:List PyData),PyData.canLayAll0 ds=true->PyData.eqvAll ds ds=true
 | [],_=>by simp[PyData.eqvAll]
 | d::ds,h=>by simp only[PyData.canLayAll0,aaB]at h;simp only[PyData.eqvAll,aaB];exact⟨eqv_refl d h.1,eqvAll_refl ds h.2⟩
end
section
variable{X:Cx}
def CI(K:Waa):R2:=λx y H Q=>∃a b,Dt K H x a/\Dt K H y b/\SeqAt.shaped a=true/\SeqAt.shaped b=true/\Q (.bl (PyData.eqv a b)) H
def CJ(K:Waa):R2:=λx y H Q=>∃a b,Dt K H x a/\Dt K H y b/\SeqAt.shaped a=true/\SeqAt.shaped b=true/\Q (.bl (!PyData.eqv a b)) H
theorem zM(j:X.A.units + 64 < cLine):OpR X (compareOp .Eq) (CI X.K):=by intro a s p H x y v u Q I k b h;obtain⟨m,l,i,f,e,g,q⟩:=h;obtain⟨n,d⟩:=i.reads I k;obtain⟨o,c⟩:=f.reads I b;exact eq_dataH d c e g j ⟨.bl _,H,I,rfl,q⟩
theorem zN(j:X.A.units + 64 < cLine):OpR X (compareOp .NotEq) (CJ X.K):=by intro a s p H x y v u Q I k b h;obtain⟨m,l,i,f,e,g,q⟩:=h;obtain⟨n,d⟩:=i.reads I k;obtain⟨o,c⟩:=f.reads I b;exact ne_dataH d c e g j ⟨.bl _,H,I,rfl,q⟩
theorem kit_same(K:Waa)(T:String):PySem.W.kitOne K (.type T) (.type T)=some true:=by unfold PySem.W.kitOne;rw[if_pos (by simp)]
theorem kit_lt(K:Waa):PySem.W.kitOne K (.type "list") (.type "tuple")=some false:=by kernel_rfl
theorem kit_tl(K:Waa):PySem.W.kitOne K (.type "tuple") (.type "list")=some false:=by kernel_rfl
theorem kit_bi(K:Waa):PySem.W.kitOne K (.type "bool") (.type "int")=some true:=by kernel_rfl
theorem kit_ib(K:Waa):PySem.W.kitOne K (.type "int") (.type "bool")=some false:=by kernel_rfl
theorem kit_il(K:Waa):PySem.W.kitOne K (.type "int") (.type "list")=some false:=by kernel_rfl
theorem kit_it(K:Waa):PySem.W.kitOne K (.type "int") (.type "tuple")=some false:=by kernel_rfl
theorem kit_is(K:Waa):PySem.W.kitOne K (.type "int") (.type "str")=some false:=by kernel_rfl
theorem kit_sl(K:Waa):PySem.W.kitOne K (.type "str") (.type "list")=some false:=by kernel_rfl
theorem kit_st(K:Waa):PySem.W.kitOne K (.type "str") (.type "tuple")=some false:=by kernel_rfl
theorem kit_si(K:Waa):PySem.W.kitOne K (.type "str") (.type "int")=some false:=by kernel_rfl
theorem kit_sb(K:Waa):PySem.W.kitOne K (.type "str") (.type "bool")=some false:=by kernel_rfl
theorem kit_bl(K:Waa):PySem.W.kitOne K (.type "bool") (.type "list")=some false:=by kernel_rfl
theorem kit_bt(K:Waa):PySem.W.kitOne K (.type "bool") (.type "tuple")=some false:=by kernel_rfl
theorem kit_bs(K:Waa):PySem.W.kitOne K (.type "bool") (.type "str")=some false:=by kernel_rfl
theorem kit_nl(K:Waa):PySem.W.kitOne K (.type "NoneType") (.type "list")=some false:=by kernel_rfl
theorem kit_nt(K:Waa):PySem.W.kitOne K (.type "NoneType") (.type "tuple")=some false:=by kernel_rfl
theorem kit_ns(K:Waa):PySem.W.kitOne K (.type "NoneType") (.type "str")=some false:=by kernel_rfl
theorem kit_ni(K:Waa):PySem.W.kitOne K (.type "NoneType") (.type "int")=some false:=by kernel_rfl
theorem kit_nb(K:Waa):PySem.W.kitOne K (.type "NoneType") (.type "bool")=some false:=by kernel_rfl
theorem kit_li(K:Waa):PySem.W.kitOne K (.type "list") (.type "int")=some false:=by kernel_rfl
theorem kit_ti(K:Waa):PySem.W.kitOne K (.type "tuple") (.type "int")=some false:=by kernel_rfl
theorem kit_ls(K:Waa):PySem.W.kitOne K (.type "list") (.type "str")=some false:=by kernel_rfl
theorem kit_ts(K:Waa):PySem.W.kitOne K (.type "tuple") (.type "str")=some false:=by kernel_rfl
theorem kit_lb(K:Waa):PySem.W.kitOne K (.type "list") (.type "bool")=some false:=by kernel_rfl
theorem kit_tb(K:Waa):PySem.W.kitOne K (.type "tuple") (.type "bool")=some false:=by kernel_rfl
inductive Ty (K:Waa)(H:Hp):V->String->Prop
 | non:Ty K H .non "NoneType"
 | bl (b:Bool):Ty K H (.bl b) "bool"
 | int (i:Int):Ty K H (.int i) "int"
 | str (x:Str):Ty K H (.str x) "str"
 | lst {a xs}:SqL K H a xs->Ty K H (.ref a) "list"
 | tup {a xs}:SqT K H a xs->Ty K H (.ref a) "tuple"
theorem Ty.kitx(I:Inv X pins σ H s)(f:Ty X.K H x n)(a:RelV x u) :
  ∃Z:Heap->Prop,PySem.W.KitX X.K u (.type n) Z/\Z s.heap/\u≠.builtin "__main__.__loader__#opaque":=by
 cases f with
 | non=>cases a;exact⟨_,PySem.W.kitx_none,trivial,λz=>nomatch z⟩
 | bl b=>cases a;exact⟨_,PySem.W.kitx_bool,trivial,λz=>nomatch z⟩
 | int i=>obtain⟨t,rfl⟩:=a;exact⟨_,PySem.W.kitx_int,trivial,λz=>nomatch z⟩
 | str x=>obtain⟨t,rfl⟩:=a;exact⟨_,PySem.W.kitx_str,trivial,λz=>nomatch z⟩
 | lst h =>cases a;obtain⟨c,_,⟨o,n,e,d,_⟩,_⟩:=I.list h;exact⟨_,PySem.W.kitx_list,⟨o,e,d⟩,λz=>nomatch z⟩
 | tup h =>cases a;obtain⟨c,_,⟨o,e,d,_⟩,_⟩:=I.tuple h;exact⟨_,PySem.W.kitx_tuple,⟨o,e,d⟩,λz=>nomatch z⟩
theorem rJ(T:String):CallR X (.builtin "isinstance") (λxs H Q=>∃x n b,xs=[x,.ty T]/\Ty X.K H x n/\PySem.W.kitOne X.K (.type n) (.type T)=some b/\Q (.bl b) H):=by
 intro a s l H xs j Q I r h;obtain⟨x,n,b,rfl,f,e,q⟩:=h;obtain⟨u,v,rfl,i,c⟩:=r.two;cases c;obtain⟨Z,g,z,d⟩:=f.kitx I i;exact PySem.W.kia_one g I.kIn z e d λk=>⟨.bl b,H,I.tok _,rfl,q⟩
theorem pO(S T:String):CallR X (.builtin "isinstance") (λxs H Q=>∃x n b p,xs=[x,.ref p]/\H p=some (.tup [.ty S,.ty T])/\Ty X.K H x n/\PySem.W.kitAny X.K (.type n) [.type S,.type T]=some b/\Q (.bl b) H):=by
 intro f s L H xs F Q I r h;obtain⟨x,n,b,p,rfl,w,l,e,q⟩:=h;obtain⟨u,v,rfl,C,g⟩:=r.two;cases g;obtain⟨Z,y,z,j⟩:=l.kitx I C;obtain⟨_,k,A,⟨⟨c,D,o,N⟩,B,d,t,a⟩⟩:=I.hok p _ w;obtain⟨M,G,rfl,m,i⟩:=A.two;cases m;cases i;replace d:c=.type "tuple":=d;replace a:o=.seq [Value.type S,Value.type T].toArray t:=a.1;subst d a;exact PySem.W.kia_tup y I.kIn z B e j λJ=>⟨.bl b,H,I.tok _,rfl,q⟩
theorem gM(K:Waa)(b:PySem.W.kitOne K (.type n) (.type S)=some true\/(PySem.W.kitOne K (.type n) (.type S)=some false/\PySem.W.kitOne K (.type n) (.type T)=some true)) :
  PySem.W.kitAny K (.type n) [.type S,.type T]=some true:=by
 rcases b with h | ⟨h,a⟩
 ·simp[PySem.W.kitAny,h]
 ·simp[PySem.W.kitAny,h,a]
theorem dH(K:Waa)(h:PySem.W.kitOne K (.type n) (.type S)=some false)(h':PySem.W.kitOne K (.type n) (.type T)=some false) :
  PySem.W.kitAny K (.type n) [.type S,.type T]=some false:=by
 simp[PySem.W.kitAny,h,h']
end
end
section
section
variable{X:Cx}{pos:Pos}
def CK(i j k:Nat)(c:TA):TS:=λD a H=>c a H λb d=>∃v w u,b=[v,w,u]/\D.nx (((a.set i (some v)).set j (some w)).set k (some u)) d
theorem vE{G P f}(hc:X.calm=true)(J:X.N.Nodup)(hi:X.N[i]?=some x)(hj:X.N[j]?=some y)(hk:X.N[k]?=some z)(t:i≠j)(O:i≠k)(C:j≠k)
  (Y:X.env.scope.names.lookup x=some .local) (W:X.env.scope.names.lookup y=some .local) (T:X.env.scope.names.lookup z=some .local) (ha:PA X [a,b,c] ta)
  (hw:swappedStores [.Tuple [.Name x px,.Name y py,.Name z pz] G pt] (.Tuple [a,b,c] P f) X.env=pure (some [x,y,z]))
  (hs:swapsWithSole [.Tuple [.Name x px,.Name y py,.Name z pz] G pt] (.Tuple [a,b,c] P f) pos.line X.env=pure false:=by rfl) :
  PS X (.Assign [.Tuple [.Name x px,.Name y py,.Name z pz] G pt] (.Tuple [a,b,c] P f) pos) (CK i j k ta):=by
 intro d s r H D I h;rw[exec_Assign_arm];refine wpAny_bind (wpAny_standAt ?_);rw[hs];refine wpAny_bind (wpAny_pure ?_);rw[if_neg (by decide)];refine wpAny_bind (Tuple_ (thn (ha _ d s r H _ I h) λus n ⟨vs,S,I1,r1,M⟩=>?_));obtain⟨v,w,u,e1,M⟩:=M;subst e1;obtain⟨m,l,g,rfl,rv,B,ru⟩:∃m l g,us=[m,l,g]/\RelV v m/\RelV w l/\RelV u g:=by
  cases r1 with
  | cons p q =>
   cases q with
   | cons p' q' =>
    cases q' with
    | cons F L =>cases L;exact⟨_,_,_,rfl,p,p',F⟩
 refine wpAny_newObj_type ?_ (by show 3<=sizeLine;decide);have I2:Inv X d r S { n with heap:=n.heap.push { cls:=.type "tuple",data:=.seq [m,l,g].toArray } }:=I1.kept λb o e=>Heap.get?_push_of_some _ e;rw[hw];refine wpAny_bind (wpAny_pure ?_);show wpAny (model X.prog X.w) X.A (do rule "assign.swapped-stores";let items <- unpackItems (.ref n.heap.objs.size) 3 none;assignInOrder [λv=>bindName X.env z v,λv=>bindName X.env y v,λv=>bindName X.env x v] items.reverse;pure Flow.next) _ _ _;refine wpAny_bind (wpAny_rule (wpAny_bind (unpackItems_tuple (items:=#[m,l,g]) (I.ok.hd hc) (IsTup.new n.heap _) λh' Q=>?_)));have I3:=I2.kept (t':=n.toks) λb o e=>Q b o (aas (Heap.lt_size e)) e;show wpAny _ _ (assignInOrder [λv=>bindName X.env z v,λv=>bindName X.env y v,λv=>bindName X.env x v] [g,l,m] >>= λ_=>pure Flow.next) _ _ _;refine wpAny_bind (assignInOrder_cons (wpAny_bindName (bJ I3 J hk (.inl T) ru (λs2 Z=>?_) (.inr T))));refine assignInOrder_cons (wpAny_bindName (bJ Z J hj (.inl W) B (λs3 I5=>?_) (.inr W)));refine assignInOrder_cons (wpAny_bindName (bJ I5 J hi (.inl Y) rv (λs4 U=>assignInOrder_nil (wpAny_pure ?_)) (.inr Y)));have e:((r.set k (some u)).set j (some w)).set i (some v)=((r.set i (some v)).set j (some w)).set k (some u):=by rw[abw _ _ (aaN t),abw _ _ (aaN O),abw _ _ (aaN C)]
 rw[e]at U;exact⟨_,S,U,M⟩
end
def Keep(S:List Addr)(H a:Hp):Prop:=∀b o,H b=some o->b ∉ S->a b=some o
theorem Keep.refl(S:List Addr)(H:Hp):Keep S H H:=λ_ _ h _=>h
theorem Keep.trans(a:Keep S H H1)(b:Keep S H1 H2):Keep S H H2:=λc o h n=>b c o (a c o h n) n
theorem Keep.new(a:Keep S H H1)(n:H1 p=none):Keep S H (upd H1 p o):=λc u h m=>by have q:=a c u h m;rw[upd_ne (ak q n)];exact q
theorem Keep.put(a:Keep S H H1)(n:p∈S\/H p=none):Keep S H (upd H1 p o):=λc u h m=>by
 have b:c≠p:=λe=>by
  subst e;rcases n with n | n
  ·exact m n
  ·rw[n]at h;cases h
 rw[upd_ne b];exact a c u h m
theorem Keep.at(a:Keep S H H')(h:H b=some o)(n:b ∉ S):H' b=some o:=a b o h n
theorem Keep.same(a:Keep [] H H'):Same H H':=λb o h=>a b o h (by simp)
theorem Keep.sub(a:Keep S H H')(h:∀b∈S,b∈T):Keep T H H':=λb o e n=>a b o e λz=>n (h b z)
theorem Keep.free(e:Keep S H H')(h:H' l=none)(n:l ∉ S):H l=none:=by
 cases q:H l with
 | none=>rfl
 | some o=>rw[e l o q n]at h;cases h
end
section
theorem zO:bootBuiltins "len"=some (.builtin "len"):=by decide +kernel
theorem zQ:bootBuiltins "abs"=some (.builtin "abs"):=by decide +kernel
theorem zR:bootBuiltins "max"=some (.builtin "max"):=by decide +kernel
theorem zT:bootBuiltins "min"=some (.builtin "min"):=by decide +kernel
theorem zU:bootBuiltins "all"=some (.builtin "all"):=by decide +kernel
theorem dR:bootBuiltins "isinstance"=some (.builtin "isinstance"):=by decide +kernel
theorem rK:bootBuiltins "int"=some (.type "int"):=by decide +kernel
theorem vF:bootBuiltins "bool"=some (.type "bool"):=by decide +kernel
theorem zV:bootBuiltins "str"=some (.type "str"):=by decide +kernel
theorem jr:bootBuiltins "list"=some (.type "list"):=by decide +kernel
theorem gN:bootBuiltins "tuple"=some (.type "tuple"):=by decide +kernel
def E8:Scope:={ kind:=.function,names:=[],isGenerator:=false,isCoroutine:=false }
def aC:Nat->Expr->List Scope
 | 0,_=>[]
 | n + 1,e=>match e with
  | .ListComp elt gs sc _=>sc::(match gs with | g::_=>aC n g.iter | []=>[])++aC n elt
  | .DictComp k v gs sc _=>sc::(match gs with | g::_=>aC n g.iter | []=>[])++aC n k++aC n v
  | .SetComp elt gs sc _=>sc::(match gs with | g::_=>aC n g.iter | []=>[])++aC n elt
  | .Call f as _ _=>aC n f++as.flatMap (aC n)
  | .BoolOp _ as _=>as.flatMap (aC n)
  | .BinOp a _ b _=>aC n a++aC n b
  | .UnaryOp _ a _=>aC n a
  | .Compare a _ bs _=>aC n a++bs.flatMap (aC n)
  | .IfExp a b c _=>aC n a++aC n b++aC n c
  | .Attribute a _ _=>aC n a
  | .Subscript a b _=>aC n a++aC n b
  | .List as _=>as.flatMap (aC n)
  | .Tuple as _ _=>as.flatMap (aC n)
  | _=>[]
def gO:Nat->Stmt->List Scope
 | 0,_=>[]
 | n + 1,s=>match s with
  | .FunctionDef _ _ b _ _ _ _ _ _ _=>b.flatMap (gO n)
  | .Return (some e) _=>aC n e
  | .Expr e _=>aC n e
  | .Assign _ e _=>aC n e
  | .If c a b _=>aC n c++a.flatMap (gO n)++b.flatMap (gO n)
  | .While c a _ _=>aC n c++a.flatMap (gO n)
  | .For _ i a _ _=>aC n i++a.flatMap (gO n)
  | _=>[]
structure CompOk (N:List Str)(nt:Nat)(fr:List Nat)(ON:List Str)(sc osc:Scope):Prop where
 sc:CompScope N nt fr ON sc osc
 nd:N.Nodup
def Hw(N:List Str)(nt:Nat)(fr:List Nat)(b:List Str)(sc a:Scope):Bool:=(List.range fr.length).all λi=>match N[nt + i]?,(fr[i]?).bind (b[·]?) with
 | some x,some y=>x == y && a.names.lookup x == some .cell && sc.names.lookup x == some .free
 | _,_=>false
section
variable{H:Hp}{Q:VK}{K:Waa}{x y v:V}{i j:Int}{p l:Addr}{xs:List V}
theorem lT(h:n<=1000000):n<=sizeLine:=aat h (by decide)
end
end
section
section
variable{X:Cx}
def Hx(c:TA):TE:=λd H Q=>c d H λb a=>∃j:Int,b=[.int j]/\0<=j/\j<=100000/\∀l,a l=none->Q (.ref l) (upd a l (.lst ((rangeInts 0 1 j.toNat).map V.int)))
end
end
section
section
variable{κ:Type}[DecidableEq κ]
def valV(a:List (κ × V))(k:κ):Option V:=(a.find? λb=>decide (b.1=k)).map (·.2)
def putK(a:List (κ × V))(k:κ)(v:V):List (κ × V) :=
 if (a.any λb=>decide (b.1=k))=true then a.map (λb=>if b.1=k then (b.1,v) else b) else a++[(k,v)]
def kB(a:List (κ × V))(k:κ):List (κ × V):=a.filter λb=>decide (b.1≠k)
theorem aU{k:κ}(e:p.1=k):valV (p::r) k=some p.2:=by simp[valV,aaP,e]
theorem bj{k:κ}(e:¬ p.1=k):valV (p::r) k=valV r k:=by simp[valV,aaP,e]
theorem cV(k:κ):∀a:List (κ × V),(a.any λb=>decide (b.1=k))=(valV a k).isSome
 | []=>rfl
 | p::r=>by
  rw[aaZ];by_cases e:p.1=k
  ·simp only[aU e,Dac e,Bool.true_or,Option.isSome_some]
  ·rw[bj e,Dab e,Bool.false_or];exact cV k r
theorem kC(k j:κ)(y:V):∀a:List (κ × V),valV (a.map λb=>if b.1=k then (b.1,y) else b) j=(valV a j).map λx=>if j=k then y else x
 | []=>rfl
 | p::r=>by
  have c:=kC k j y r;rw[aal];by_cases h:p.1=k
  ·rw[if_pos h];by_cases e:p.1=j
   ·rw[aU (p:=(p.1,y)) e,aU e,abn,if_pos (e.symm.trans h)]
   ·rw[bj (p:=(p.1,y)) e,bj e,c]
  ·rw[if_neg h];by_cases e:p.1=j
   ·rw[aU e,aU e,abn,if_neg (λz=>h (e.trans z))]
   ·rw[bj e,bj e,c]
theorem valV_snoc(k j:κ)(y:V):∀a:List (κ × V),valV a k=none->valV (a++[(k,y)]) j=if j=k then some y else valV a j
 | [],_=>by
  by_cases e:k=j
  ·rw[if_pos e.symm];exact aU (p:=(k,y)) e
  ·rw[if_neg (λz=>e z.symm)];exact bj (p:=(k,y)) e
 | p::r,hn=>by
  rw[aaG];have b:¬ p.1=k:=λz=>by rw[aU z]at hn;cases hn
  rw[bj b]at hn;have c:=valV_snoc k j y r hn;by_cases e:p.1=j
  ·rw[aU e,aU e,if_neg (λz=>b (e.trans z))]
  ·rw[bj e,bj e,c]
theorem kD(b:List (κ × V))(k j:κ)(y:V):valV (putK b k y) j=if j=k then some y else valV b j:=by
 unfold putK;by_cases a:(b.any λd=>decide (d.1=k))=true
 ·rw[if_pos a,kC];rw[cV]at a;by_cases e:j=k
  ·obtain⟨x,c⟩:=aa6.mp a;rw[if_pos e,e,c,abn,if_pos rfl]
  ·rw[if_neg e];cases valV b j with
   | none=>rfl
   | some x=>rw[abn,if_neg e]
 ·rw[if_neg a];refine valV_snoc k j y b ?_;rw[cV]at a;cases q:valV b k with
  | none=>rfl
  | some x=>rw[q]at a;exact (a rfl).elim
theorem ck(a:List (κ × V))(k:κ)(v:V):(putK a k v).length<=a.length + 1:=by
 unfold putK;split
 ·rw[aab];omega
 ·rw[aai,aam,abE];omega
theorem putK_new{k:κ}(v:V)(h:valV kvs k=none):putK kvs k v=kvs++[(k,v)]:=by unfold putK;rw[cV,h];exact if_neg (by decide)
theorem RelO.isSome_eq(r:RelO o u):o.isSome=u.isSome:=by
 cases o with
 | none=>cases u with
  | none=>rfl
  | some _=>exact (show False from r).elim
 | some _=>cases u with
  | none=>exact (show False from r).elim
  | some _=>rfl
theorem RelO.getD(r:RelO o u)(a:RelV d d'):RelV (o.getD d) (u.getD d'):=by
 cases o with
 | none=>cases u with
  | none=>exact a
  | some _=>exact (show False from r).elim
 | some _=>cases u with
  | none=>exact (show False from r).elim
  | some _=>exact r
theorem KV.val(r:KV kvs vs)(k:κ):RelO (valV kvs k) (valueAt vs k):=by
 unfold KV at r;induction r with
 | nil=>exact True.intro
 | @cons p q ps qs h t ih =>
  obtain⟨c,d⟩:=h;by_cases e:p.1=k
  ·have a:q.1=k:=c.symm.trans e;have b:valueAt (q::qs) k=some q.2:=by simp[valueAt,aaP,a]
   rw[aU e,b];exact d
  ·have a:¬ q.1=k:=λz=>e (c.trans z);have b:valueAt (q::qs) k=valueAt qs k:=by simp[valueAt,aaP,a]
   rw[bj e,b];exact ih
theorem KV.any{vs:List (κ × Value)}(r:KV kvs vs)(k:κ):(kvs.any λa=>decide (a.1=k))=vs.any λa=>decide (a.1=k):=by
 unfold KV at r;induction r with
 | nil=>rfl
 | cons h t b=>rw[aaZ,aaZ,b,h.1]
theorem KV.repl(r:KV kvs vs)(k:κ)(c:RelV y u) :
  KV (kvs.map λa=>if a.1=k then (a.1,y) else a) (vs.map λa=>if a.1=k then (a.1,u) else a):=by
 unfold KV at r ⊢;induction r with
 | nil=>exact .nil
 | @cons p q ps qs h t ih =>
  rw[aal,aal];refine .cons ?_ ih;obtain⟨b,d⟩:=h;by_cases e:p.1=k
  ·rw[if_pos e,if_pos (b.symm.trans e)];exact⟨b,c⟩
  ·rw[if_neg e,if_neg (λz=>e (b.trans z))];exact⟨b,d⟩
theorem KV.put(r:KV kvs vs)(k:κ)(a:RelV y u):KV (putK kvs k y) (stored vs k u):=by
 unfold putK stored;rw[r.any k];by_cases e:(vs.any λb=>decide (b.1=k))=true
 ·rw[if_pos e,if_pos e];exact r.repl k a
 ·rw[if_neg e,if_neg e];exact Paired.snoc r ⟨rfl,a⟩
theorem KV.drop(r:KV kvs vs)(k:κ):KV (kB kvs k) (without vs k):=by
 unfold KV at r ⊢;unfold kB without;induction r with
 | nil=>exact .nil
 | @cons p q ps qs h t ih =>
  obtain⟨c,f⟩:=h;rw[aa9,aa9];by_cases e:p.1=k
  ·have a:¬ decide (p.1≠k)=true:=by simp[e]
   have b:¬ decide (q.1≠k)=true:=by simp[c.symm.trans e]
   rw[if_neg a,if_neg b];exact ih
  ·have d:¬ q.1=k:=λz=>e (c.trans z);have a:decide (p.1≠k)=true:=by simp[e]
   have b:decide (q.1≠k)=true:=by simp[d]
   rw[if_pos a,if_pos b];exact .cons ⟨c,f⟩ ih
theorem KV.keys{vs:List (κ × Value)}(r:KV kvs vs):kvs.map (·.1)=vs.map (·.1):=by
 unfold KV at r;induction r with
 | nil=>rfl
 | cons h t a=>rw[aal,aal,a,h.1]
theorem KV.length{vs:List (κ × Value)}(r:KV kvs vs):kvs.length=vs.length:=Paired.length r
end
theorem gg(r:RelV (kV k) u):(aA P w).is k u=true:=by
 cases k with
 | inl i=>obtain⟨t,e⟩:=(show ∃t,u=Value.int i t from r);subst e;exact kh P w i t
 | inr x=>obtain⟨t,e⟩:=(show ∃t,u=Value.str x t from r);subst e;exact mixKind_str P w x t
theorem iZ:∀{ks:List Key} {us:List Value},Vals (ks.map kV) us->ItemsAre (aA P w) ks us
 | [],_,r=>by rw[aaK]at r;cases r;exact .nil
 | k::ks,_,r=>by
  rw[aal]at r;cases r with
  | cons h t=>exact .cons (gg h) (iZ t)
abbrev KT(H:Hp):List (List Key × V)->List (List Key × Addr × Value)->Prop:=Paired λp q=>p.1=q.1/\H q.2.1=some (.tup (p.1.map kV))/\RelV p.2 q.2.2
theorem KT.val(r:KT H kvs xs)(k:List Key):RelO (valV kvs k) ((atKey xs k).map (·.2)):=by
 induction r with
 | nil=>exact True.intro
 | @cons p q ps qs h t ih =>
  obtain⟨c,_,d⟩:=h;by_cases e:p.1=k
  ·have a:q.1=k:=c.symm.trans e;have b:atKey (q::qs) k=some q.2:=by simp[atKey,aaP,a]
   rw[aU e,b];exact d
  ·have a:¬ q.1=k:=λz=>e (c.trans z);have b:atKey (q::qs) k=atKey qs k:=by simp[atKey,aaP,a]
   rw[bj e,b];exact ih
theorem KT.repl(r:KT H kvs xs)(k:List Key)(d:RelV y u) :
  KT H (kvs.map λb=>if b.1=k then (b.1,y) else b) (xs.map (putAt k u)):=by
 induction r with
 | nil=>exact .nil
 | @cons p q ps qs h t ih =>
  rw[aal,aal];refine .cons ?_ ih;obtain⟨a,c,f⟩:=h;unfold putAt;by_cases e:p.1=k
  ·rw[if_pos e,if_pos (a.symm.trans e)];exact⟨a,c,d⟩
  ·rw[if_neg e,if_neg (λz=>e (a.trans z))];exact⟨a,c,f⟩
theorem KT.put(r:KT H kvs xs)(k:List Key)(c:H b=some (.tup (k.map kV)))(a:RelV y u) :
  KT H (putK kvs k y) (storedH xs k b u):=by
 have e:(kvs.any λd=>decide (d.1=k))=(atKey xs k).isSome:=by rw[cV,(r.val k).isSome_eq,ab0]
 unfold putK storedH;rw[e];by_cases q:(atKey xs k).isSome=true
 ·rw[if_pos q,if_pos q];exact r.repl k a
 ·rw[if_neg q,if_neg q];exact Paired.snoc r ⟨rfl,c,a⟩
theorem KT.keeps(r:KT H kvs xs)(a:∀b ys,H b=some (.tup ys)->H' b=some (.tup ys)):KT H' kvs xs :=
 Paired.mapP r λ_ _ z=>⟨z.1,a _ _ z.2.1,z.2.2⟩
section
variable{P:Program}{w:World}{H:Hp}{h:Heap}{a:Addr}
theorem yh(b:HOk P w H h)(e:Rd H a u):ObjOk P w H h a u:=e.ok b
theorem gP(b:HOk P w H h)(e:Rd H a (.dK kvs)):kvs.length<=sizeLine/\(a == sysModules)=false/\∃vs,KV kvs vs/\h.DictOf (aA P w) a vs :=
 show ObjOk P w H h a (.dK kvs) from yh b e
theorem rL(b:HOk P w H h)(e:H a=some (.dK kvs)):kvs.length<=sizeLine/\(a == sysModules)=false/\∃vs,KV kvs vs/\h.DictOf (aA P w) a vs:=gP b (.inl e)
theorem fO{ks:List Key}(d:HOk P w H h)(e:H a=some (.tup (ks.map kV))):(tupleKind (aA P w)).is h ks a:=by
 obtain⟨_,b,r,o,f,g,n,c⟩:=(show ObjOk P w H h a (.tup (ks.map kV)) from d a _ e)
 exact⟨o,b.toArray,n,f,g,c.1,by simpa using iZ r⟩
theorem gR(d:HOk P w H h)(e:Rd H a (.dT kvs)):kvs.length<=sizeLine/\(a == sysModules)=false /\
  ∃xs,KT H kvs xs/\h.DictOfH (tupleKind (aA P w)) a xs:=by
 obtain⟨z,y,xs,r,o,g,f,i,k,s,j,n⟩:=(show ObjOk P w H h a (.dT kvs) from yh d e)
 refine⟨z,y,xs,r,o,g,f,i,k,s,j,λx b=>?_,n⟩;have c:∀{l:List (List Key × V)} {m:List (List Key × Addr × Value)},KT H l m->∀x∈m,(tupleKind (aA P w)).is h x.1 x.2.1:=by
  intro l m q;induction q with
  | nil=>intro x b;exact nomatch b
  | @cons p q ps qs hq t ih =>
   intro x b;rcases aaa.mp b with e | b
   ·subst e;exact fO d (by rw[<- hq.1];exact hq.2.1)
   ·exact ih x b
 exact c r x b
theorem CL(b:HOk P w H h)(e:H a=some (.dT kvs)):kvs.length<=sizeLine/\(a == sysModules)=false /\
  ∃xs,KT H kvs xs/\h.DictOfH (tupleKind (aA P w)) a xs:=gR b (.inl e)
end
def DGet(H:Hp)(a:Addr)(y:V)(r:Option V):Prop :=
 (∃c k,Rd H a (.dK c)/\y=kV k/\r=valV c k)\/∃c k b,Rd H a (.dT c)/\y=.ref b/\H b=some (.tup (k.map kV))/\r=valV c k
def DPut(H:Hp)(a:Addr)(y v:V)(d:Hp):Prop :=
 (∃c k,H a=some (.dK c)/\y=kV k/\c.length < sizeLine/\d=upd H a (.dK (putK c k v))) \/
 ∃c k b,H a=some (.dT c)/\y=.ref b/\H b=some (.tup (k.map kV))/\c.length < sizeLine/\d=upd H a (.dT (putK c k v))
theorem DGet.k{H:Hp}{a:Addr}{b:List (Key × V)}{k:Key}(e:H a=some (.dK b)):DGet H a (kV k) (valV b k):=.inl ⟨b,k,.inl e,rfl,rfl⟩
theorem DGet.t{H:Hp}{a b:Addr}{c:List (List Key × V)}{k:List Key}(e:H a=some (.dT c))(d:H b=some (.tup (k.map kV))):DGet H a (.ref b) (valV c k):=.inr ⟨c,k,b,.inl e,rfl,d,rfl⟩
theorem DPut.k{H:Hp}{a:Addr}{b:List (Key × V)}{k:Key}{v:V}(e:H a=some (.dK b))(c:b.length < sizeLine):DPut H a (kV k) v (upd H a (.dK (putK b k v))):=.inl ⟨b,k,e,rfl,c,rfl⟩
theorem DPut.t{H:Hp}{a b:Addr}{c:List (List Key × V)}{k:List Key}{v:V}(e:H a=some (.dT c))(f:H b=some (.tup (k.map kV)))(d:c.length < sizeLine) :
  DPut H a (.ref b) v (upd H a (.dT (putK c k v))):=.inr ⟨c,k,b,e,rfl,f,d,rfl⟩
section
variable{X:Cx}{pins:List (Addr × Obj)}{σ:St}{H:Hp}{s:Shared}{a:Addr}{y v:V}{u r:Value}{o:Option V}{A:Around}{E:Value->Shared->Prop}
theorem Inv.big(I:Inv X pins σ H s):sysModules < s.heap.objs.size:=by have h:mainGlobals < s.heap.objs.size:=(I.mod.glob.keeps I.bk).lt;exact abC (by decide) h
theorem pP(F:A.units + 1 < cLine)(I:Inv X pins σ H s)(g:DGet H a y (some v))(t:RelV y u)(h:∀f x,Inv X pins σ H x->RelV v f->Q f x) :
  wpAny (model X.prog X.w) A (getItem (.ref a) u) Q E s:=by
 rcases g with ⟨q,k,e,n,l⟩ | ⟨q,k,b,e,n,C,l⟩
 ·subst n;obtain⟨z,B,G,d,i⟩:=gP I.hok e;obtain⟨f,m,c⟩:=RelO.some_of (by rw[l];exact d.val k);exact wpAny_getItem_of (gg t) i.mapOf m (h f _ (I.tok _) c)
 ·subst n;cases (show u=Value.ref b from t);obtain⟨z,B,J,d,i⟩:=gR I.hok e;obtain⟨f,m,c⟩:=RelO.some_of (by rw[l];exact d.val k);obtain⟨p,D,j⟩:=aaL.mp m;refine wpAny_getItem_heap (tupleKind_room_in1 F) (fO I.hok C) i D ?_;rw[j];exact h f _ (I.tok _) c
theorem FW(t:A.units + 1 < cLine)(I:Inv X pins σ H s)(g:DGet H a y o)(m:RelV y u)(h:∀n,Inv X pins σ H n->Q (.bool o.isSome) n) :
  wpAny (model X.prog X.w) A (compareOp .In u (.ref a)) Q E s:=by
 rcases g with ⟨j,k,e,i,l⟩ | ⟨j,k,b,e,i,p,l⟩
 ·subst i;obtain⟨z,d,x,c,f⟩:=gP I.hok e;refine wpAny_in_of (gg m) d f.mapOf ?_;rw[<- (c.val k).isSome_eq,<- l];exact h _ (I.tok _)
 ·subst i;cases (show u=Value.ref b from m);obtain⟨z,d,B,c,f⟩:=gR I.hok e;refine wpAny_in_heap (tupleKind_room_in1 t) (fO I.hok p) d f ?_;have q:=(c.val k).isSome_eq;rw[ab0]at q;rw[<- q,<- l];exact h _ (I.tok _)
theorem vG(t:A.units + 1 < cLine)(I:Inv X pins σ H s)(g:DGet H a y o)(m:RelV y u)(h:∀n,Inv X pins σ H n->Q (.bool (!o.isSome)) n) :
  wpAny (model X.prog X.w) A (compareOp .NotIn u (.ref a)) Q E s:=by
 rcases g with ⟨j,k,e,i,l⟩ | ⟨j,k,b,e,i,p,l⟩
 ·subst i;obtain⟨z,d,x,c,f⟩:=gP I.hok e;refine wpAny_notIn_of (gg m) d f.mapOf ?_;rw[<- (c.val k).isSome_eq,<- l];exact h _ (I.tok _)
 ·subst i;cases (show u=Value.ref b from m);obtain⟨z,d,B,c,f⟩:=gR I.hok e;refine wpAny_notIn_heap (tupleKind_room_in1 t) (fO I.hok p) d f ?_;have q:=(c.val k).isSome_eq;rw[ab0]at q;rw[<- q,<- l];exact h _ (I.tok _)
theorem gx{t':Nat}(I:Inv X pins σ H s)(f:BY (H a))(e:Heap.SameBut a s.heap h')(g:∃q,h'.get? a=some q)(c:ObjOk X.prog X.w (upd H a ob) h' a ob) :
  Inv X pins σ (upd H a ob) { s with heap:=h',toks:=t' } :=
 I.write f (.inl rfl) (λb q d z=>(e.2 b d).trans z) g c
theorem lW(z:kvs.length<=sizeLine)(c:(a == sysModules)=false)(b:KV kvs vs)(dd:h'.DictOf (aA P w) a vs) :
  ObjOk P w H' h' a (.dK kvs):=⟨z,c,vs,b,dd⟩
theorem pQ(hu:A.units + 1 < cLine)(I:Inv X pins σ H s)(g:DPut H a y v H')(C:RelV y u)(L:RelV v r)(h:∀G,Inv X pins σ H' G->Q () G) :
  wpAny (model X.prog X.w) A (setItem (.ref a) u r) Q E s:=by
 rcases g with ⟨f,k,e,x,l,n⟩ | ⟨f,k,b,e,x,F,l,n⟩
 ·subst x n;obtain⟨z,p,U,d,t⟩:=rL I.hok e;have M:U.length<=sizeLine:=by rw[<- d.length];exact z
  have m:(putK f k v).length<=sizeLine:=by have:=ck f k v;omega
  refine wpAny_setItem_pairs (gg C) t λD i B=>h _ ?_;have Z:∃q,D.get? a=some q:=let ⟨q,_,_,j,_⟩:=i;⟨q,j⟩
  exact gx I (by rw[e];exact True.intro) B Z (lW m p (d.put k L) i)
 ·subst x n;cases (show u=Value.ref b from C);obtain⟨z,p,W,d,t⟩:=CL I.hok e;have M:W.length<=sizeLine:=by rw[<- Paired.length d];exact z
  have m:(putK f k v).length<=sizeLine:=by have:=ck f k v;omega
  refine wpAny_setItem_heap (tupleKind_room_in1 hu) (fO I.hok F) t λD i B=>h _ ?_;obtain⟨q,O,N,j,T,Y,P,_,S⟩:=i;refine gx I (by rw[e];exact True.intro) B ⟨q,j⟩ ⟨m,p,_,(d.put k F L).keeps λc ys J=>?_,q,O,N,j,T,Y,P,S⟩;rw[upd_ne (BX J e (λz=>nomatch z))];exact J
end
def NoSl(i:Expr):Prop:=∀b a,subscripted i false b a=operate [b,a] (getItem b a)
theorem subD_of{T m:String}
  (l:typeLookup (.type T) "__getitem__"=pure (some (.builtin m))) (k:NoSl slice)
  (h:wpAny (model prog w) A (eval value env) (λo c=>wpAny (model prog w) A (eval slice env) (λi a=>a.TypeIs o T/\wpAny (model prog w) A (getItem o i) Q E a) E c) E s) :
  wpAny (model prog w) A (eval (.Subscript value slice pos) env) Q E s:=by
 refine Subscript_ (wpAny_mono h (λo c g=>wpAny_mono g (λi a b=>?_) λ_ _ x=>x) λ_ _ x=>x);obtain⟨j,b⟩:=b;unfold subscriptTail;refine wpAny_bind ?_;rw[getitemInPython_of_ne j.not_modules];refine wpAny_bind (wpAny_specialOf j l ?_);have e:wpAny (model prog w) A (subscripted slice false o i) (λr d=>wpAny (model prog w) A (letTemporaryGo value o r >>= λ_=>pure r) Q E d) E a:=by rw[k o i];exact wpAny_operating (wpAny_mono b (λr d f=>wpAny_bind (wpAny_letTemporaryGo (wpAny_pure f))) λ_ _ x=>x)
 first
  | exact wpAny_pure (wpAny_bind e)
  | exact wpAny_bind (wpAny_pure (wpAny_bind e))
  | exact wpAny_bind e
theorem kF(I:Inv X pins σ H s)(g:DGet H a y o):s.TypeIs (.ref a) "dict":=by
 rcases g with ⟨d,k,e,_,_⟩ | ⟨d,k,b,e,_,_,_⟩
 ·obtain⟨_,_,f,_,c⟩:=gP I.hok e;exact c.typeIs
 ·obtain⟨_,_,h,_,c⟩:=gR I.hok e;exact c.typeIs
def CM(f d:TE):TE:=λc H Q=>f c H λx e=>d c e λy b=>∃a v,x=.ref a/\DGet b a y (some v)/\Q v b
def CN(d f:TE):TE:=λc H Q=>d c H λy e=>f c e λx b=>∃a o,x=.ref a/\DGet b a y o/\Q (.bl o.isSome) b
def nq(d f:TE):TE:=λc H Q=>d c H λy e=>f c e λx b=>∃a o,x=.ref a/\DGet b a y o/\Q (.bl (!o.isSome)) b
def CO(i f g:TE):TS:=λD b H=>g b H λv e=>i b e λx d=>f b d λy h=>∃a c,x=.ref a/\DPut h a y v c/\D.nx b c
def Hy(l f g:TE)(h:V->V->Hp->VK->Prop):TS:=λD b H=>l b H λx e=>f b e λy c=>∃a v,x=.ref a/\DGet c a y (some v) /\
 g b c λi j=>h v i j λz k=>∃d,DPut k a y z d/\D.nx b d
def Hz(g e:TE):TS:=λD c H=>g c H λx f=>e c f λy d=>∃a b k,x=.ref a/\d a=some (.dK b)/\y=kV k/\(valV b k).isSome=true/\D.nx c (upd d a (.dK (kB b k)))
section
variable{X:Cx}{o i e value:Expr}{pos pos' tpos:Pos}{td ty tv:TE}
theorem nu(D:X.A.units + 1 < cLine)(t:PE X o td)(p:PE X i ty)(z:NoSl i):PE X (.Subscript o i pos) (CM td ty):=by intro b s f H Q I h;refine subD_of PySem.F.slot_dict_getitem.lookup z (thn (t b s f H _ I h) λu m ⟨x,n,r,G,w⟩=>thn (p b m f n _ r w) λN M l=>?_);obtain⟨y,j,d,k,a,v,C,g,B⟩:=l;subst C;obtain rfl:u=Value.ref a:=G;exact⟨kF d g,pP D d g k λJ L q c=>⟨v,j,q,c,B⟩⟩
theorem rM(B:X.A.units + 1 < cLine)(m:PE X i ty)(t:PE X o td):PC X .In i o (CN ty td):=by
 intro b s c H Q I h;refine thn (m b s c H _ I h) λG k ⟨y,l,p,f,v⟩=>thn (t b k c l _ p v) λu F j=>?_;obtain⟨x,d,r,C,a,q,z,g,w⟩:=j;subst z;obtain rfl:u=Value.ref a:=C;exact FW B r g f λD n=>⟨.bl q.isSome,d,n,rfl,w⟩
theorem i4(B:X.A.units + 1 < cLine)(m:PE X i ty)(t:PE X o td):PC X .NotIn i o (nq ty td):=by
 intro b s c H Q I h;refine thn (m b s c H _ I h) λG k ⟨y,l,p,f,v⟩=>thn (t b k c l _ p v) λu F j=>?_;obtain⟨x,d,r,C,a,q,z,g,w⟩:=j;subst z;obtain rfl:u=Value.ref a:=C;exact vG B r g f λD n=>⟨.bl (!q.isSome),d,n,rfl,w⟩
theorem vH(N:X.A.units + 1 < cLine)(C:PE X o td)(t:PE X i ty)(f:PE X value tv)(G:swapsWith value (some (.Subscript o i pos')) pos.line X.env=pure false) :
  PS X (.Assign [.Subscript o i pos'] value pos) (CO td ty tv):=by
 intro b s c H D I h;refine wpAny_Assign_Subscript (thn (f b s c H _ I h) λr m ⟨v,l,z,L,F⟩=>thn (C b m c l _ z F) λu q ⟨x,d,B,O,J⟩=>thn (t b q c d _ B J) λT Q k=>?_) G;obtain⟨y,U,w,j,a,n,M,g,P⟩:=k;subst M;obtain rfl:u=Value.ref a:=O;exact pQ N w g j L λS p=>⟨c,n,p,P⟩
end
theorem kG(h:Heap)(a:sysModules < h.objs.size):ObjOk P w H (h.push { cls:=.type "dict",data:=.dict #[] }) h.objs.size (.dK []) :=
 ⟨aaH _,beq_eq_false_iff_ne.mpr (aaN (aas a)),[],.nil,Heap.DictOf.new h⟩
def FX:TE:=λ_ H Q=>∀p,H p=none->Q (.ref p) (upd H p (.dK []))
def FY:TE:=λ_ H Q=>∀p,H p=none->Q (.ref p) (upd H p (.dT []))
def jt:List (TE × TE)->St->Hp->(List (V × V)->Hp->Prop)->Prop
 | [],_,H,Q=>Q [] H
 | (tk,tv)::r,σ,H,Q=>tk σ H λx c=>tv σ c λy a=>jt r σ a λps b=>Q ((x,y)::ps) b
abbrev VV:List (V × V)->List (Value × Value)->Prop:=Paired λp q=>RelV p.1 q.1/\RelV p.2 q.2
def CP(X:Cx)(pos:Pos)(c:List (Option Expr))(a:List Expr)(d:List (TE × TE)):Prop :=
 ∀(b:List (Addr × Obj)) (s:Shared) (e:St) (H:Hp) (Q:List (V × V)->Hp->Prop),Inv X b e H s->jt d e H Q ->
  wpAny (model X.prog X.w) X.A (evalPairs (pairTrees c a X.env pos)) (λi h=>∃f g,Inv X b e g h/\VV f i/\Q f g) X.xe s
theorem vI:CP X pos [] [] []:=λa s b H Q I h=>pairTrees_nil_walk ⟨[],H,I,.nil,h⟩
theorem rN(hk:PE X k tk)(e:PE X v tv)(n:CP X pos ks vs trs) :
  CP X pos (some k::ks) (v::vs) ((tk,tv)::trs):=λa s b H Q I h =>
 pairTrees_cons_walk (thn (hk a s b H _ I h) λu g ⟨x,i,o,w,q⟩=>thn (e a g b i _ o q) λA l ⟨y,d,p,f,r⟩ =>
  thn (n a l b d _ p r) λC B ⟨j,t,m,c,z⟩=>⟨(x,y)::j,t,m,.cons ⟨w,f⟩ c,z⟩)
def eA(c a:List (Key × V)):List (Key × V):=a.foldl (λb d=>putK b d.1 d.2) c
theorem KV.merge:∀{a:List (Key × V)} {rs:List (Key × Value)} {b:List (Key × V)} {vs:List (Key × Value)},KV a rs->KV b vs->KV (eA b a) (merged vs rs):=by
 intro a rs b vs r;unfold KV at r;induction r generalizing b vs with
 | nil=>intro q;exact q
 | @cons p q ps qs h t ih =>
  intro c;have e:KV (putK b p.1 p.2) (stored vs q.1 q.2):=by have:=c.put p.1 h.2;rw[<- h.1];exact this
  exact ih e
theorem dS:∀(b a:List (Key × V)),(eA a b).length<=a.length + b.length
 | [],a=>by show a.length<=a.length + 0;omega
 | p::r,a=>by have d:=dS r (putK a p.1 p.2);have c:=ck a p.1 p.2;show (eA (putK a p.1 p.2) r).length<=_;rw[aam];omega
theorem gS:∀{d:List (Key × V)} {ws:List (Value × Value)},VV (d.map λe=>(kV e.1,e.2)) ws->∃rs,Carries (aA P w) ws rs/\KV d rs
 | [],_,r=>by rw[aaK]at r;cases r;exact⟨[],True.intro,.nil⟩
 | p::d,_,r=>by
  rw[aal]at r;cases r with
  | @cons a b as bs h t =>obtain⟨rs,c,q⟩:=gS t;obtain⟨g,f⟩:=b;exact⟨(p.1,f)::rs,⟨gg h.1,rfl,c⟩,.cons ⟨rfl,h.2⟩ q⟩
def CQ(b:List (TE × TE)):TE:=λf H Q=>∀p,H p=none->jt b f (upd H p (.dK [])) λe c=>c p=some (.dK [])/\∃a:List (Key × V),e=a.map (λd=>(kV d.1,d.2))/\a.length<=15/\Q (.ref p) (upd c p (.dK (eA [] a)))
theorem vJ(h:CP X pos keys values trs)(d:keys.all (·.isSome)=true)(k:keys.length=values.length)(u:keys≠[])
  (i:keys.length<=15):PE X (.Dict keys values pos) (CQ trs):=by
 intro a s F H Q I q;have p:=I.hok.fresh (aah s.heap.objs.size);have C:=I.laid (t':=s.toks) (λ_ _ q=>Heap.get?_push_of_some _ q) (aah _) (kG s.heap I.big);refine wpAny_Dict_walk (knd:=aA X.prog X.w) d k u i (thn (h a _ F _ _ C (q _ p)) λP O m=>?_);obtain⟨N,M,j,g,e,f,x,S,J⟩:=m;subst x;obtain⟨l,c,A⟩:=gS g;obtain⟨z,o,D,n,y⟩:=rL j.hok e;cases n;refine⟨l,c,y,λv b G=>⟨.ref s.heap.objs.size,_,?_,rfl,J⟩⟩;have t:(eA [] f).length<=sizeLine:=by have B:=dS f [];rw[abE]at B;rw[sizeLine_eq];omega
 have L:∃q,v.get? s.heap.objs.size=some q:=let ⟨q,_,_,r,_⟩:=b;⟨q,r⟩
 exact gx j (by rw[e];exact True.intro) G L (lW t o (A.merge .nil) b)
structure M1 (X:Cx)(o:Expr)(m:Str)(apos:Pos)(e:Expr)(cpos:Pos):Prop where
 base:attributeBase o m X.env (eval o X.env)=eval o X.env
 few:((backTo cpos (starEach [e] X.env)).all (λx=>!x.1) && (backToKw cpos (keywordEach [] X.env)).all (λx=>x.1.isSome)
  && decide (([e]:List Expr).length + ([]:List Keyword).length + (if ([]:List Keyword).isEmpty then 0 else 1) < 30))=true
 line:(apos.endLine == cpos.line)=true
 trees:backTo cpos (starEach [e] X.env)=[(false,eval e X.env)]
structure M2 (X:Cx)(o:Expr)(m:Str)(apos:Pos)(e f:Expr)(cpos:Pos):Prop where
 base:attributeBase o m X.env (eval o X.env)=eval o X.env
 few:((backTo cpos (starEach [e,f] X.env)).all (λx=>!x.1) && (backToKw cpos (keywordEach [] X.env)).all (λx=>x.1.isSome)
  && decide (([e,f]:List Expr).length + ([]:List Keyword).length + (if ([]:List Keyword).isEmpty then 0 else 1) < 30))=true
 line:(apos.endLine == cpos.line)=true
 trees:backTo cpos (starEach [e,f] X.env)=[(false,eval e X.env),(false,eval f X.env)]
def CS(H:Hp)(a:Addr):Prop:=(∃b,Rd H a (.dK b))\/∃b,Rd H a (.dT b)
theorem zW(I:Inv X pins σ H s)(d:CS H a) :
  s.TypeIs (.ref a) "dict"/\(∀b,Value.ref a=.ref b->∃c,s.heap.get? b=some c/\c.dict=none)/\(a == sysModules)=false:=by
 rcases d with ⟨g,e⟩ | ⟨g,e⟩
 ·obtain⟨_,h,k,_,f⟩:=gP I.hok e;refine⟨f.typeIs,λb q=>?_,h⟩;cases q;obtain⟨c,_,_,i,j,_⟩:=f;exact⟨c,i,j.2.1⟩
 ·obtain⟨_,h,l,_,f⟩:=gR I.hok e;refine⟨f.typeIs,λb q=>?_,h⟩;cases q;obtain⟨c,_,_,i,j,_⟩:=f;exact⟨c,i,j.2.1⟩
section
variable{X:Cx}{pins:List (Addr × Obj)}{σ:St}{H:Hp}{s:Shared}{a:Addr}{y d:V}{u r:Value}{o:Option V}{A:Around}{E:Value->Shared->Prop}
theorem zX(x:A.units + 1 < cLine)(I:Inv X pins σ H s)(g:DGet H a y o)(n:RelV y u)(h:∀p q,Inv X pins σ H q->RelV (o.getD .non) p->Q p q) :
  wpAny (model X.prog X.w) A (call (.builtin "dict.get") [.ref a,u]) Q E s:=by
 rcases g with ⟨m,k,e,j,l⟩ | ⟨m,k,b,e,j,t,l⟩
 ·subst j;obtain⟨z,i,B,c,f⟩:=gP I.hok e;refine call_meetsIn ab1 f.typeIs acn (aco _ _) (meets_dict_get (aA X.prog X.w) a (gg n) i) ⟨_,f.mapOf,h _ _ (I.tok _) ?_⟩;rw[l];exact (c.val k).getD rfl
 ·subst j;cases (show u=Value.ref b from n);obtain⟨z,i,v,c,f⟩:=gR I.hok e;refine call_meetsIn ab1 f.typeIs acn (aco _ _) (meetsH_dict_get (tupleKind (aA X.prog X.w)) a b i) ⟨tupleKind_room_in1 x,k,v,fO I.hok t,f,h _ _ (I.tok _) ?_⟩;rw[l];exact (c.val k).getD rfl
end
def zY(f e:TE):TE:=λd H Q=>f d H λx c=>∃a,x=.ref a/\CS c a/\e d c λy b=>∃o,DGet b a y o/\Q (o.getD .non) b
def FZ(h f g:TE):TE:=λb H Q=>h b H λx d=>∃a,x=.ref a/\CS d a/\f b d λy e=>g b e λz c=>∃o,DGet c a y o/\Q (o.getD z) c
def F1(g f:TE):TE:=λe H Q=>g e H λx d=>∃a,x=.ref a/\CS d a/\f e d λy c=>∃b k v,c a=some (.dK b)/\y=kV k/\valV b k=some v/\Q v (upd c a (.dK (kB b k)))
def F2(i g h:TE):TE:=λd H Q=>i d H λx e=>∃a,x=.ref a/\CS e a/\g d e λy f=>h d f λz c=>∃b k,c a=some (.dK b)/\y=kV k /\
 (∀v,valV b k=some v->Q v (upd c a (.dK (kB b k))))/\(valV b k=none->Q z c)
section
variable{X:Cx}{o e f:Expr}{apos cpos:Pos}{td ty tx:TE}
theorem rO (J:X.A.units + 1 < cLine) (z:PE X o td) (D:PE X e ty) (m:M1 X o "get" apos e cpos):PE X (.Call (.Attribute o "get" apos) [e] [] cpos) (zY td ty):=by
 intro b s j H Q I h;refine wpAny_Call_method m.base m.few m.line PySem.F.plainAttrs_dict ab1 PySem.F.type_dict_get (thn (z b s j H _ I h) λu q p=>?_);obtain⟨x,r,i,L,a,G,d,B⟩:=p;subst G;obtain rfl:u=Value.ref a:=L;obtain⟨n,v,_⟩:=zW i d;refine⟨n,v,?_⟩;rw[m.trees];refine Calls.callWith_builtin rfl (Calls.evalArgs_plain (Calls.spliced_cons (thn (D b q j r _ i B) λP O ⟨y,k,w,l,S,g,C⟩=>Calls.spliced_nil ?_)));exact zX J w g l λM N t c=>⟨_,k,t,c,C⟩
end
end
end L2
namespace L2
open PySem PySem.Spec PyProof.Rows
section
def E9(K:Waa)(l:Addr):It :=
 ⟨λi H=>∃a x,SqL K H l a/\a[i]?=some x,
  λi H v b=>∃T x,(∀a,SqL K H l a->a[i]?=some x)/\H T=none/\v=.ref T/\b=upd H T (.tup [.int i,x]),
  λi H=>∃a,SqL K H l a/\a.length<=i⟩
theorem pR{P:Program}{w:World}{K:Waa}{es:List Expr}{x1}{pos:Pos}(l e it:Addr)(J:e≠it) :
  Turn P w K (.Tuple es x1 pos) (E9 K l) [e,it] e (λi h=>(∃g,IsEnum h e it (i:Int) g)/\h.IsListIter it l i) where
 mem:=by simp
 obj:=λi h ⟨⟨g,y⟩,A⟩ c a=>by
  simp only[aaa,aaq,or_false]at a;rcases a with rfl | rfl
  ·exact⟨_,y,λv z=>by cases z⟩
  ·obtain⟨o,e,c,d⟩:=A;exact⟨o,e,λv z=>by rw[d]at z;cases z⟩
 keep:=λi h O ⟨⟨g,y⟩,A⟩ k=>⟨⟨g,k e (by simp) _ y⟩,A.at λo e=>k it (by simp) o e⟩
 item:=by
  intro X W hw hK a i j s Z H E I B ⟨⟨g,y⟩,A⟩ T;subst W hw hK;obtain⟨xs,x,N,Y⟩:=T;obtain⟨S,U,p,hz⟩:=I.list N;obtain⟨u,hu,ru⟩:=U.get Y;have le:e < s.heap.objs.size:=Heap.lt_size y;have li:it < s.heap.objs.size:=by obtain⟨o,e',_⟩:=id A;exact Heap.lt_size e'
  refine wpAny_pyNext_enum_item y A p.isList (x:=u) (by simpa using hu) J λO Q D hT a1 hk=>?_;refine⟨.ref s.heap.objs.size,rfl,?_⟩;refine wpAny_letOwnedTupleGo_enum Q λt F f=>?_;have f:Heap.SameBut e O t:=f;have G:∀c o,c ∉ ([e,it]:List Addr)->s.heap.get? c=some o->t.get? c=some o:=λc o a q=>by simp only[aaa,aaq,or_false,not_or]at a;exact f.extBut _ _ a.1 (hk c o a.1 a.2 q)
  have C:H s.heap.objs.size=none:=I.hok.fresh (aah _);have I1:Inv X j Z H { s with heap:=t,toks:=s.toks + 1 }:=I.turnedL G B;have L:IsPair t s.heap.objs.size (.int i s.toks) u:=f.extBut _ _ (aa4 le) hT;have I2:Inv X j Z (upd H s.heap.objs.size (.tup [.int i,x])) { s with heap:=t,toks:=s.toks + 1 }:=by
   refine I.step (g':=s.gens) (d':=s.drawn) (ch:=[e,it]) (λb M=>?_) (λb o _ _ a e _=>G b o a e) (λb o _ _ a e _=>⟨o.slots,G b o a e⟩) (λb o a e n=>?_)
    (λb o a e=>⟨o,G b o a e⟩) (λb ys e=>?_) (λb o u e=>?_) (λb ps e=>⟨#[],?_⟩) (λm hm=>?_) (λb o e=>?_) I.bare
   ·obtain⟨f0,f1,f2,f3,f4,f5⟩:=B b M;exact⟨f3,f1,f4,f5⟩
   ·rw[upd_ne (aas (Heap.lt_size e))];exact n
   ·rw[upd_ne (ak e C)];exact e
   ·rw[upd_ne (ak e C)];exact e
   ·rw[upd_ne (ak e C),e];simp
   ·obtain⟨o,a0,ep,ho,r⟩:=hm;exact⟨o,a0,ep,G _ o (λz=>(B _ z).2.1 rfl) ho,r⟩
   ·by_cases M:b=s.heap.objs.size
    ·subst M;rw[aB]at e;cases e;exact⟨(by show 2<=sizeLine;decide),[.int i s.toks,u],.cons ⟨_,rfl⟩ (.cons ru .nil),⟨_,L,rfl,_,rfl,rfl⟩⟩
    ·rw[upd_ne M]at e;refine (I1.hok b o e).stay (λc v a q=>q) (λc q=>by rw[upd_ne (ak q C)];exact q) λc ys q=>by rw[upd_ne (ak q C)];exact q
  refine⟨.ref s.heap.objs.size,_,I2,rfl,⟨_,x,λys hy=>by rw[I.list_inj hy N];exact Y,C,rfl,rfl⟩,⟨⟨u,by simpa using F⟩,D.at λo q=>f.extBut _ _ (aaN J) q⟩,λc a=>?_⟩;simp only[aaa,aaq,or_false]at a;rcases a with rfl | rfl
  ·rw[upd_ne (aas le)];exact (B _ (by simp)).1
  ·rw[upd_ne (aas li)];exact (B _ (by simp)).1
 done:=by
  intro X W hw hK a i j s Z H E I B ⟨⟨g,y⟩,A⟩ T;subst W hw hK;obtain⟨xs,N,Y⟩:=T;obtain⟨S,U,p,hz⟩:=I.list N;have hl:=U.length;refine wpAny_pyNext_enum_end (I.ok.hd a) y A p.isList (by simp;omega) λO eb=>⟨rfl,I.turnedL (t':=s.toks) (λc o a q=>?_) B⟩
  simp only[aaa,aaq,or_false,not_or]at a;exact eb c o a.2 q
 self:=λ_ _ _ _ _ ⟨⟨g,y⟩,_⟩ h=>wpAny_pyIter_enum y h
theorem pS:bootBuiltins "enumerate"=some (.type "enumerate"):=by decide +kernel
section
variable{X:Cx}
def CT(K:Waa)(c:TA):TI:=λe H R=>c e H λb a=>∃l d,b=[.ref l]/\SqL K a l d/\R (E9 K l) a
theorem vK {es:List Expr} {A} {g:Pos} {a:Expr} {p pos:Pos} (B:Gl X "enumerate") (w:X.mg "enumerate"=none) (z:PA X [a] ta) (G:starEach [a] X.env=[(false,eval a X.env)]:=by rfl) :
  PI X (.Tuple es A g) (.Call (.Name "enumerate" p) [a] [] pos) (CT X.K ta):=by
 intro c s n H R I h;refine Call_ (eh I B w pS (abj (thn (z pos c s n H _ I h) λP d v=>?_) G rfl));obtain⟨O,k,i,y,F⟩:=v;obtain⟨l,Q,e,L,q⟩:=F;subst e;cases y with
 | cons r J =>
  cases J;cases r;obtain⟨u,S,t,N⟩:=i.list L;refine call_enumerate_list t.isList λx o j M C=>?_;refine wpAny_pyIter_enum o ?_;have D:Inv X c n k { d with heap:=x }:=i.kept C;refine⟨d.heap.objs.size + 1,[d.heap.objs.size + 1,d.heap.objs.size],_,_,k,rfl,D,pR l _ _ (by show (_:Nat)≠_;omega),⟨⟨_,o⟩,j⟩,λb m=>?_,q⟩;have f:d.heap.objs.size<=b:=by
   simp only[aaa,aaq,or_false]at m;rcases m with rfl | rfl
   ·show d.heap.objs.size<=d.heap.objs.size + 1;omega
   ·exact aah _
  exact i.fpOk f (i.hok.fresh f)
end
end
section
section
variable{X:Cx}
def rInsert:V->List V->Hp->VK->Prop:=λx b H Q=>∃l a k y,x=.ref l/\b=[.int k,y]/\H l=some (.lst a)/\0<=k/\k<=a.length/\a.length < 100000/\Q .non (upd H l (.lst (a.take k.toNat++y::a.drop k.toNat)))
theorem pT:E7 X "list.insert" rInsert:=by
 intro b s G H x B v C Q I m i h;obtain⟨l,D,k,y,rfl,rfl,c,w,A,t,q⟩:=h;cases m;obtain⟨o,u,rfl,⟨g,rfl⟩,j⟩:=i.two;obtain⟨z,a,n,r,p,e⟩:=I.lstM c;have d:=r.length;have f:100000<=sizeLine:=by decide
 refine call_meets F.slot_list_insert ⟨_,e,rfl⟩ F.entry_list_insert (F.args_list_insert_3 _ _ _) (AutoListH.list_insert_list_int_val_1 l a.toArray n k g u (by unfold Builtin.List.listFitsIndex;simp;omega) (by rw[aar];omega)) ⟨e,?_⟩;refine⟨.non,_,I.lset c e ?_ ((r.take _).append (.cons j (r.drop _))) ?_,rfl,q⟩
 ·show (a.toArray.extract 0 (if k < 0 then (k + (a.toArray.size:Int)).toNat else min k.toNat a.toArray.size)).push u++a.toArray.extract (if k < 0 then (k + (a.toArray.size:Int)).toNat else min k.toNat a.toArray.size)=_;rw[if_neg (by omega),aar,abF (by omega)];apply Array.ext';simp[List.extract_eq_drop_take];exact ab2 (by rw[abk];exact aah _)
 ·rw[aai,aam,aaY,abk];omega
end
end
section
def Jj(lo c:Int)(n:Nat):It:=⟨λi _=>i < n,λi H x a=>a=H/\x=.int (lo + i * c),λi _=>n<=i⟩
section
variable{X:Cx}{tg:Expr}
def HA(b:TA):TI:=λe H R=>b e H λa d=>∃(i j c:Int) (n:Nat),a=[.int i,.int j,.int c]/\(-1000000<=i/\i<=1000000/\-1000000<=j/\j<=1000000/\0 < c/\c<=1000)/\Builtin.Range.rangeSize i j c=(n:Int)/\R (Jj i c n) d
end
end
section
def yi(w:World)(e:DictEntry)(a:Str × Str):Prop:=e.hash=hashStr w a.1/\(∃t,e.key=.str a.1 t)/\∃t,e.val=.str a.2 t
def KDict(K:Waa)(w:World)(c:Addr)(a:List (Str × Str)):Prop :=
 ∃o b d,K.lookup c=some o/\o.ExactDict/\o.data=.dict b d/\Paired (yi w) b.toList a/\(a.map (·.1)).Nodup/\(c == sysModules)=false
def keysOf(a:List (Str × Str)):List (Key × V):=a.map λb=>(.inr b.1,.str b.2)
theorem pU{c:List (Str × Str)}(h:(c.map (·.1)).Nodup):(c.map λd=>(.inr d.1:Key)).Nodup:=by unfold List.Nodup at *;rw[ab3]at *;exact h.imp λ{a b} q z=>q (abT z)
theorem KDict.dict{K:Waa}(D:KDict K w c kvs)(X:K.In h):∃vs,KV (keysOf kvs) vs/\h.DictOf (aA P w) c vs:=by
 obtain⟨o,y,x,q,B,u,G,v,_⟩:=D;have d:∀{l:List DictEntry} {m:List (Str × Str)},Paired (yi w) l m->∃vs:List (Key × Value),KV (keysOf m) vs/\Pairs (aA P w) l vs/\vs.map (·.1)=m.map (λb=>(.inr b.1:Key))/\∀e∈l,∃k,(aA P w).is k e.key=true/\e.hash=(aA P w).hash k:=by
  intro l m r;induction r with
  | nil=>exact⟨[],.nil,.nil,rfl,λe a=>by cases a⟩
  | @cons e b l m h t ih =>
   obtain⟨vs,g,i,j,f⟩:=ih;obtain⟨z,⟨s,A⟩,⟨n,C⟩⟩:=h;have p:(aA P w).is (.inr b.1) e.key=true:=by rw[A];exact mixKind_str P w b.1 s
   refine⟨(.inr b.1,.str b.2 n)::vs,.cons ⟨rfl,⟨n,rfl⟩⟩ g,.cons p C i,by rw[aal,aal,j],λF a=>?_⟩;rcases aaa.mp a with rfl | a
   ·exact⟨_,p,z⟩
   ·exact f F a
 obtain⟨vs,g,i,j,f⟩:=d G;refine⟨vs,g,o,y,x,X _ _ q,B,u,λe a=>f e (by simpa using a),i,?_⟩;rw[j];exact pU v
section
variable{X:Cx}{o i e:Expr}{pos:Pos}{ti:TE}{c:Addr}{kvs:List (Str × Str)}
def HB(kvs:List (Str × Str))(ti:TE):TE:=λb H Q=>ti b H λy a=>∃k v,y=.str k/\kvs.lookup k=some v/\Q (.str v) a
def Jk(kvs:List (Str × Str))(ti:TE):TE:=λb H Q=>ti b H λy a=>∃k,y=.str k/\Q (.bl (kvs.lookup k).isSome) a
def HC(kvs:List (Str × Str))(ti:TE):TE:=λb H Q=>ti b H λy a=>∃k,y=.str k/\Q (.bl (!(kvs.lookup k).isSome)) a
def Fit(d:PyData)(n:Nat):Prop:=d.showable=true/\d.hasDict=false/\d.shown.length<=n
def HD(K:Waa):List V->Hp->VK->Prop:=λb H Q=>∃a d n,b=[.ref a]/\Dt K H (.ref a) d/\Fit d n/\n<=sizeLine/\d.depth<=40/\Q (.str d.shown) H
set_option exponentiation.threshold 2000 in
theorem Fit.le(h:Fit d n)(a:n<=m):Fit d m:=⟨h.1,h.2.1,aat h.2.2 a⟩
def F3(K:Waa)(n:Nat)(t:TGs):TG:=λv d H Q=>∃a b,v=.ref a/\SqL K H a b/\b.length=n/\t b d H Q
theorem zZ{k:Nat}(J:X.calm=true)(h:BQ X es t)
  (w:(assignEach es X.env).length=n:=by rfl) (g:(assignEach es X.env).findIdx? (·.1)=none:=by rfl):PG X (.Tuple es k pos) (F3 X.K n t):=by
 intro d s l H v u Q I r j;obtain⟨a,B,M,q,p,j⟩:=j;subst M;cases r;obtain⟨f,m,⟨L,F,y,A,_,C⟩,N⟩:=I.list q;have G:s.heap.IsList a f.toArray:=⟨L,y,A,F,C⟩
 rw[assign_Tuple];refine wpAny_bind (wpAny_standAt ?_);unfold unpack;rw[show (assignEach es X.env).length=f.toArray.size by simp[w,<- p,m.length],g];refine wpAny_bind (wpAny_holding (PySem.W.kun_itemsOf (I.ok.hd J) G λx D=>?_));have z:Inv X d l H { s with heap:=x }:=I.kept λb o e=>D b o (aas (Heap.lt_size e)) e;exact h d _ l H B _ Q z (by simpa using m) j
end
end
section
theorem lX(I:Nat->Shared->Prop)
  (u:∀n s,I n s->wpAny (model prog w) A (pyNext it) (λr e=>match r with
   | none=>R (.ok .next) e
   | some v=>wpAny (model prog w) A (letOwnedTupleGo target it v) (λ_ a=>wpAny (model prog w) A (assign target env v) (λ_ a =>
     wpAny (model prog w) A (forIn ifs true λc r=>if r=true then do let t <- isTrue c env (eval c env);pure (ForInStep.yield t) else pure (ForInStep.yield r)) (λt f =>
      if t=true then wpAny (model prog w) A (eval kx env) (λy j=>wpAny (model prog w) A (eval vx env) (λz g =>
       wpAny (model prog w) A (dictSet D y z) (λ_ k=>∃m,m < n/\I m k) (λ_ _=>False) g) (λ_ _=>False) j) (λ_ _=>False) f
      else ∃m,m < n/\I m f) (λ_ _=>False) a) (λ_ _=>False) a) (λ_ _=>False) e) (λ_ _=>False) s)
  (n:Nat) (h:I n s) :
  codeAny (model prog w) A (.compLoop (.DictComp kx vx [⟨target,iter,ifs,0⟩] scope pos) 0 it (.ref D) env) R s:=by
 refine codeAny_loop rfl I (λn s B=>?_) n h;show wpAny _ A ((compTurn (.DictComp kx vx [⟨target,iter,ifs,0⟩] scope pos) 0 it (.ref D) env).onRaise (λx=>do noteFrame x env;theTreesLotGoes x)) _ _ s;refine wpAny_noted ?_;rw[compTurn_dict];refine wpAny_bind (wpAny_standAt (wpAny_bind (wpAny_mono (u n s B) (λr e b=>?_) λ_ _ d=>d.elim)));cases r with
 | none=>exact wpAny_pure b
 | some v =>
  refine wpAny_bind (wpAny_mono b (λ_ a b=>?_) λ_ _ d=>d.elim);refine wpAny_bind (wpAny_mono b (λ_ a q=>wpAny_bind (wpAny_mono q (λt f i=>?_) λ_ _ d=>d.elim)) λ_ _ d=>d.elim);cases t with
  | false=>exact wpAny_pure ⟨rfl,i⟩
  | true =>exact wpAny_bind (wpAny_bind (wpAny_mono i (λy j l=>wpAny_bind (wpAny_holding (wpAny_mono l (λz g o=>wpAny_bind (wpAny_standAt (wpAny_holding (wpAny_mono o (λ_ k p=>wpAny_pure ⟨rfl,p⟩) λ_ _ d=>d.elim)))) λ_ _ d=>d.elim))) λ_ _ d=>d.elim))
section
variable{X:Cx}{tg kx vx iter:Expr}{ifs:List Expr}{scope:Scope}{pos:Pos}{N:List Str}{nt:Nat}{fr:List Nat}
theorem pV(I:Inv X pins σ H s)(w:∀b∈fp,FpOk X pins H b)
  (r:H D=none) (k:s.heap.objs.size<=D) (p:D < s3.heap.objs.size) (hk:∀b o,s.heap.get? b=some o->s3.heap.get? b=some o) (m:s3.os=s.os)
  (J:Inv (aX X N scope cl s3 (upd H D (.dK [])) fp pins) pins' σ' H1 s5) (l:Heap.SameBut s3.heap.objs.size s5.heap h') :
  Inv X pins σ H1 { s5 with heap:=h' }:=by
 have t:s.heap.objs.size<=s3.heap.objs.size:=aaS (Nat.lt_of_le_of_lt k p);have f:∀b,b < s.heap.objs.size->b≠D/\b≠s3.heap.objs.size:=λb d=>⟨aas (aay d k),aas (aay d t)⟩
 have j:∀b,b≠D->(upd H D (.dK [])) b=H b:=λb d=>upd_ne d;refine I.call' (ch:=fp) (J.os.trans m) ⟨λb o e n d g=>?_,λb o e n d g=>?_,λb o e n g=>?_,λb o e g=>?_,λb C e=>?_,λb o u e=>?_,λb x e=>?_⟩ ?_ J.bare λb d=>?_
 ·obtain⟨h,i⟩:=f b (Heap.lt_size e);exact (l.2 b i).trans (J.base.keep b o (hk b o e) ((j b h).trans n) d g)
 ·obtain⟨h,i⟩:=f b (Heap.lt_size e);obtain⟨M,q⟩:=J.base.slot b o (hk b o e) ((j b h).trans n) d g;exact⟨M,(l.2 b i).trans q⟩
 ·obtain⟨h,i⟩:=f b (Heap.lt_size e);exact J.base.free b o (hk b o e) ((j b h).trans n) g
 ·obtain⟨h,i⟩:=f b (Heap.lt_size e);obtain⟨A,q⟩:=J.base.there b o (hk b o e) g;exact⟨A,(l.2 b i).trans q⟩
 ·exact J.base.tups b C ((j b (ak e r)).trans e)
 ·exact J.base.frzs b o u ((j b (ak e r)).trans e)
 ·exact J.base.tbls b x ((j b (ak e r)).trans e)
 ·intro b u e;refine (J.hok b u e).stay (λc v L q=>(l.2 c ?_).trans q) (λ_ q=>q) λ_ _ q=>q;have a:H1 s3.heap.objs.size=none:=J.free;rintro rfl;rcases L with z | z
  ·rw[z]at a;rw[a]at e;cases e
  ·rw[a]at z;cases z
 ·obtain⟨P,B,O,F,y,G⟩:=w b d;exact⟨F,B,y,G⟩
def yj(H:Hp)(a:Addr)(y v:V)(c:Hp):Prop:=∃b k,H a=some (.dK b)/\y=kV k/\b.length < sizeLine/\c=upd H a (.dK (putK b k v))
def vL(e d:TE):TC:=λD b H Q=>e b H λk f=>d b f λv c=>∃a,yj c D k v a/\Q a
def F4(f:TT)(e d:TE):TC:=λD c H Q=>f c H λb a=>if b=true then vL e d D c a Q else Q a
def rP(l:TI)(nt:Nat)(fr:List Nat)(g:CC->TG)(n:CC->TC):TE:=λj H Q=>l j H λJ h=>∀(c:CC) D,h D=none->∃W:Nat->Nat->St->Hp->Prop,(∃m,W 0 m (bw nt fr j) (upd h D (.dK []))) /\
 ∀i m a d,W i m a d->(J.stop i d/\Q (.ref D) d)\/(J.go i d/\∀x e,J.yld i d x e->g c x a e λb o=>n c D b o λk=>∃f,f < m/\W (i + 1) f b k)
def rQ(Y:Cx)(D:Addr)(ifs:List Expr)(kx vx:Expr)(j:TC):Prop :=
 ∀(a:List (Addr × Obj)) (s:Shared) (h:St) (H:Hp) (Q:Hp->Prop),Inv Y a h H s->j D h H Q ->
  wpAny (model Y.prog Y.w) Y.A (forIn ifs true λc r=>if r=true then do let i <- isTrue c Y.env (eval c Y.env);pure (ForInStep.yield i) else pure (ForInStep.yield r)) (λi b =>
   if i=true then wpAny (model Y.prog Y.w) Y.A (eval kx Y.env) (λk e=>wpAny (model Y.prog Y.w) Y.A (eval vx Y.env) (λl d =>
    wpAny (model Y.prog Y.w) Y.A (dictSet D k l) (λ_ f=>∃g,Inv Y a h g f/\Q g) Y.xe d) Y.xe e) Y.xe b
   else ∃g,Inv Y a h g b/\Q g) Y.xe s
theorem pW(J:A.units + 1 < cLine)(I:Inv X pins σ H s)(g:yj H a y v H')(i:RelV y u)(D:RelV v r)(h:∀f,Inv X pins σ H' f->Q () f) :
  wpAny (model X.prog X.w) A (dictSet a u r) Q E s:=by
 obtain⟨d,k,e,B,l,m⟩:=g;subst B m;obtain⟨z,n,x,c,t⟩:=rL I.hok e;have G:x.length<=sizeLine:=by rw[<- c.length];exact z
 have j:(putK d k v).length<=sizeLine:=by have:=ck d k v;omega
 refine wpAny_dictSet_pairs (gg i) t λp b C=>h _ ?_;have F:∃q,p.get? a=some q:=let ⟨q,_,_,o,_⟩:=b;⟨q,o⟩
 exact gx I (by rw[e];exact True.intro) C F (lW j n (c.put k D) b)
theorem z5(z:Y.A.units + 1 < cLine)(hk:PE Y kx tk)(e:PE Y vx tv)(I:Inv Y pins σ H s)(h:vL tk tv D σ H Q) :
  wpAny (model Y.prog Y.w) Y.A (eval kx Y.env) (λp b=>wpAny (model Y.prog Y.w) Y.A (eval vx Y.env) (λx a =>
    wpAny (model Y.prog Y.w) Y.A (dictSet D p x) (λ_ c=>∃d,Inv Y pins σ d c/\Q d) Y.xe a) Y.xe b) Y.xe s:=by
 refine thn (hk pins s σ H _ I h) λu i ⟨y,j,n,k,m⟩=>thn (e pins i σ j _ n m) λr F ⟨v,B,o,f,t,g,q⟩=>?_;exact pW z o g k f λC l=>⟨t,l,q⟩
theorem lY(c:Y.A.units + 1 < cLine)(hk:PE Y kx tk)(b:PE Y vx tv):rQ Y D [] kx vx (vL tk tv):=by intro a s d H Q I h;refine wpAny_tests_nil ?_;rw[if_pos rfl];exact z5 c hk b I h
theorem lZ{a2:Option (Value->Sem Unit)}{Q0:Value->Shared->Prop}(hc:X.calm=true)(S:CompScope N nt fr X.N scope X.env.scope)(hi:PI X tg iter wi)
  (hg:∀c:CC,PG (dG X N scope c) tg (g c)) (ha:∀(c:CC) D,rQ (dG X N scope c) D ifs kx vx (tc c))
  (I:Inv X pins σ H s) (h:rP wi nt fr g tc σ H Q) (c1:∀x∈scope.names,x.2=.free->X.env.kindOf x.1=some .cell)
  (fin:∀(D C:Addr) (s5:Shared) (H1:Hp),FpOk X pins H1 C->s5.heap.get? C≠none->C≠X.env.locals->(∃m,s5.heap.Ns C m)->(∀h',Heap.SameBut C s5.heap h'->Inv X pins σ H1 { s5 with heap:=h' })->Q (.ref D) H1 ->
   compPost (model X.prog X.w) X.A X.xe a2 Q0 (.ref D) C (.ok .next) s5)
  (hs:∀x,foldedSetIterable iter X.env x=pure x:=by intro _;rfl) :
  wpAny (model X.prog X.w) X.A (comprehension (.DictComp kx vx [⟨tg,iter,ifs,0⟩] scope pos) scope X.env (firstIterPos [⟨tg,iter,ifs,0⟩] pos) newDict false (eval iter X.env) a2) Q0 X.xe s:=by
 have P:∀x∈scope.names,x.2=.free->∃c,X.env.cells.lookup x.1=some c:=λx hx hf=>I.ok.has x.1 (.inl (c1 x hx hf));obtain⟨B,d1,h1,h2⟩:=gH P;refine wpAny_comprehension_free rfl hs d1 S.kind S.names (thn (hi pins s σ H _ I h) λxv s1 hx=>thn hx λd4 a c8=>?_);obtain⟨it,j,tn,J,v,rfl,I2,T,a6,f2,hW⟩:=c8;have a0:∀b∈j,b < a.heap.objs.size:=λb f=>let ⟨o,e,_⟩:=T.obj 0 _ a6 b f;Heap.lt_size e
 refine wpAny_newObj_type (wpAny_newFunctionEnv S.nocell (by intro y hy;simp at hy) (λF t l=>?_) S.kind) (by first | trivial | exact aaH _ | decide);have hD:v a.heap.objs.size=none:=I2.hok.fresh (aah _);have I3:Inv X pins σ (upd v a.heap.objs.size (.dK [])) { a with heap:=a.heap.push { cls:=.type "dict",data:=.dict #[] } }:=I2.laid (λ_ _ q=>Heap.get?_push_of_some _ q) (aah _) (kG a.heap I2.big);generalize hs3:({ a with heap:=a.heap.push { cls:=.type "dict",data:=.dict #[] } }:Shared)=s3 at t l I3 ⊢;obtain⟨W,⟨m0,w0⟩,a8⟩:=hW ⟨B,s3,upd v a.heap.objs.size (.dK []),j,pins⟩ _ hD;have b6:∀b o,a.heap.get? b=some o->s3.heap.get? b=some o:=λb o e=>by rw[<- hs3];exact Heap.get?_push_of_some _ e
 have z3:s3.heap.objs.size=a.heap.objs.size + 1:=by rw[<- hs3];exact Heap.size_push ..
 have c3:s3.os=a.os:=by rw[<- hs3]
 have f3:∀b∈j,FpOk X pins (upd v a.heap.objs.size (.dK [])) b:=λb f=>⟨by rw[upd_ne (aas (a0 b f))];exact (f2 b f).1,(f2 b f).2⟩
 have a4:∀b o,s3.heap.get? b=some o->F.get? b=some o:=λb o e=>l.extBut b o (aas (Heap.lt_size e)) (Heap.get?_push_of_some _ e);generalize hs4:({ s3 with heap:=F,toks:=s3.toks + ([]:List (Str × Value)).length }:Shared)=s4;have a3:s4.heap=F:=by rw[<- hs4]
 have I4:Inv (aX X N scope B s3 (upd v a.heap.objs.size (.dK [])) j pins) [] (bw nt fr σ) (upd v a.heap.objs.size (.dK [])) s4 :=
  gK S I3 f3 (λb f=>by rw[z3];exact abB (a0 b f)) h1 h2 (λb o e=>by rw[a3];exact a4 b o e) ⟨_,by rw[a3];exact t⟩ (by rw[<- hs4]) (by rw[<- hs4])
 have b0:tn 0 s4.heap:=T.keep 0 _ _ a6 λb f o e=>by rw[a3];exact a4 b o (b6 b o e)
 have Z:codeAny (model X.prog X.w) X.A (.compLoop (.DictComp kx vx [⟨tg,iter,ifs,0⟩] scope pos) 0 (.ref it) (.ref a.heap.objs.size) (compEnvC scope B s3.heap.objs.size X.env))
   (compPost (model X.prog X.w) X.A X.xe a2 Q0 (.ref a.heap.objs.size) s3.heap.objs.size) s4:=by
  have M:∀{k:Hp},(∀b∈j,k b=none)->∀b∈j,FpOk (aX X N scope B s3 (upd v a.heap.objs.size (.dK [])) j pins) [] k b:=λ{k} hn b f =>
   ⟨hn b f,aas (show b < s3.heap.objs.size by rw[z3];exact abB (a0 b f)),λz=>I4.ok.exfs b f z,.inl f,λx c e=>(f2 b f).2.2.2.2.1 x c (h1 x c e),λp hp=>(f2 b f).2.2.2.2.2 p (by
    rcases aan.mp hp with z | z
    ·exact z
    ·exact absurd z (by simp))⟩
  refine lX (λn s'=>∃i L k,Inv (aX X N scope B s3 (upd v a.heap.objs.size (.dK [])) j pins) [] L k s'/\tn i s'.heap/\(∀b∈j,k b=none)/\W i n L k) ?_ m0
   ⟨0,_,_,I4,b0,λb f=>(f3 b f).1,w0⟩
  rintro n s5 ⟨i,U,H5,I5,b8,b7,w5⟩;rcases a8 i n U H5 w5 with ⟨c0,qn⟩ | ⟨go,a7⟩
  ·refine thn (T.done (aX X N scope B s3 (upd v a.heap.objs.size (.dK [])) j pins) rfl rfl rfl hc i [] s5 U H5 (λ_ _=>False) I5 (M b7) b8 c0) λr s6 ⟨hr,I6⟩=>?_;subst hr;obtain⟨m,hm,_⟩:=id I6.loc;refine fin _ _ s6 H5 (I2.fpOk (by rw[z3];exact abl _) I6.free) ?_ ?_ ⟨m,hm⟩ (λh' d0=>pV I2 f2 hD (aah _) (by rw[z3];exact abm _) b6 c3 I6 d0) qn
   ·obtain⟨o,_,_,ho,_⟩:=hm;intro z;have a5:s6.heap.get? s3.heap.objs.size=some o:=ho;rw[z]at a5;cases a5
   ·exact aa4 (abC I2.lt (by rw[z3];exact abm _))
  ·refine thn (T.item (aX X N scope B s3 (upd v a.heap.objs.size (.dK [])) j pins) rfl rfl rfl hc i [] s5 U H5 (λ_ _=>False) I5 (M b7) b8 go) λr s6 ⟨u,hr,h6⟩=>?_;subst hr;refine thn h6 λ_ s7 ⟨x,H7,I7,r7,y7,a1,c4⟩=>?_;have c6:=I7.pinned (M c4) (T.obj _ _ a1);refine thn (hg ⟨B,s3,upd v a.heap.objs.size (.dK []),j,pins⟩ _ s7 U H7 x u _ c6 r7 (a7 x H7 y7)) λ_ s8 ⟨O,H8,I8,q8⟩=>?_;refine thn (ha ⟨B,s3,upd v a.heap.objs.size (.dK []),j,pins⟩ _ _ s8 O H8 _ I8 q8) λok s9 h9=>?_;have G:∀{Y:Shared},(∃k,Inv (aX X N scope B s3 (upd v a.heap.objs.size (.dK [])) j pins) ([]++pinsAt j s7.heap) O k Y/\∃m',m' < n/\W (i + 1) m' O k) ->
     ∃m,m < n/\∃i L k,Inv (aX X N scope B s3 (upd v a.heap.objs.size (.dK [])) j pins) [] L k Y/\tn i Y.heap/\(∀b∈j,k b=none)/\W i m L k:=λ{Y} ⟨k,I',m',hm,w'⟩=>by
    refine⟨m',hm,i + 1,O,k,I'.unpinned,T.keep _ _ _ a1 λb f o e=>(I'.pin (b,o) (aad _ (aad _ (bD f e)))).1,λb f=>?_,w'⟩;obtain⟨o,e,d⟩:=T.obj _ _ a1 b f;exact (I'.pin (b,o) (aad _ (aad _ (bD f e)))).2.1
   cases ok with
   | true =>rw[if_pos rfl]at h9 ⊢;exact thn h9 λy d3 c2=>thn c2 λz d5 c5=>thn c5 λ_ d2 c7=>G c7
   | false =>rw[if_neg aae]at h9 ⊢;exact G h9
 exact codeAny_compStart_dict Z (T.self X.A 0 s4 _ _ b0 Z)
theorem rR{k d:Pos}(Y:X.N.Nodup)(Z:X.N[i]?=some y)(B:X.env.scope.names.lookup y=some .local)(hc:X.calm=true)(S:CompScope N nt fr X.N scope X.env.scope)(P:PI X tg iter wi)
  (U:∀c:CC,PG (dG X N scope c) tg (g c)) (Q:∀(c:CC) D,rQ (dG X N scope c) D ifs kx vx (tc c))
  (hs:∀x,foldedSetIterable iter X.env x=pure x:=by intro _;rfl)
  (w:swapsWith (.DictComp kx vx [⟨tg,iter,ifs,0⟩] scope pos) (some (.Name y k)) d.line X.env=pure true:=by rfl) :
  PS X (.Assign [.Name y k] (.DictComp kx vx [⟨tg,iter,ifs,0⟩] scope pos) d) (qV (rP wi nt fr g tc) (kl i)):=by
 intro j s σ H D I h;rw[exec_Assign_Name_used _ _ _ _ w];refine wpAny_bind (wpAny_standAt (wpAny_bind ?_));show wpAny _ X.A (do let _ <- comprehension (.DictComp kx vx [⟨tg,iter,ifs,0⟩] scope pos) scope X.env _ newDict false (eval iter X.env) (some (assign (.Name y k) X.env))) _ _ s;refine wpAny_bind (wpAny_mono (lZ hc S P U Q I h (λx hx L=>S.cells x hx L) (λF C J G f hC _ n T q=>?_) hs) (λ_ s' M=>wpAny_pure (wpAny_pure M)) λ_ _ e=>e);obtain⟨m,n⟩:=n;have I5:Inv X j σ G J:=T J.heap ⟨rfl,λ_ _=>rfl⟩;show wpAny _ X.A (assign (.Name y k) X.env (.ref F)) _ _ _;refine wpAny_assign_Name (fJ I5 Y Z (.inl B) (v:=.ref F) rfl (λs6 W l=>?_) (.inr B));obtain⟨a,p,t⟩:=l;have r:C≠a:=by
  rcases t with e | e
  ·rw[e];exact f.2.1
  ·exact λz=>f.2.2.2.2.1 _ _ e z.symm
 exact⟨m,n.sameBut p r,λh' u=>⟨_,G,W.turned (λb o O e=>(u.2 b O).trans e) f.1 f.2.1 f.2.2.2.1 f.2.2.2.2.1 f.2.2.2.2.2,q⟩⟩
end
end
end L2
set_option genInjectivity false
namespace L2
open PySem PySem.Spec PyProof.Rows
section
structure Kp (S:Addr->Prop)(H H':Hp):Prop where
 k:∀b o,H b=some o->¬ S b->H' b=some o
 n:∀b,H' b=none->H b=none
section
variable{S T S':Addr->Prop}{H H1 H' H2:Hp}{p:Addr}{o:HO}
theorem Kp.refl(S:Addr->Prop)(H:Hp):Kp S H H:=⟨λ_ _ h _=>h,λ_ h=>h⟩
theorem Kp.trans(a:Kp S H H1)(b:Kp S H1 H2):Kp S H H2:=⟨λc o h n=>b.k c o (a.k c o h n) n,λc h=>a.n c (b.n c h)⟩
theorem Kp.weak(a:Kp S H H')(h:∀b,S b->T b\/H b=none):Kp T H H':=⟨λb o e n=>a.k b o e λz=>(h b z).elim n λq=>(by rw[q]at e;cases e),a.n⟩
theorem Kp.put(a:S p\/H p=none):Kp S H (upd H p o):=by
 refine⟨λb u h n=>?_,λb h=>?_⟩
 ·have c:b≠p:=λe=>by
   subst e;rcases a with a | a
   ·exact n a
   ·rw[a]at h;cases h
  rw[upd_ne c];exact h
 ·by_cases e:b=p
  ·subst e;rw[aB]at h;cases h
  ·rw[upd_ne e]at h;exact h
theorem Kp.ne(a:Kp S H H')(h:H b≠none):H' b≠none:=λe=>h (a.n b e)
theorem Kp.keep(a:Kp (λ_=>False) H H'):Keep [] H H':=λb o h _=>a.k b o h (λz=>z)
def Bx(S:Addr->Prop)(F:Hp->Prop)(H:Hp):Prop:=∀H',Kp S H H'->F H'
theorem Bx.now{F:Hp->Prop}(h:Bx S F H):F H:=h H (Kp.refl _ _)
theorem Bx.step{F:Hp->Prop}(h:Bx S F H)(k:Kp S H H')(n:∀b,S' b->S b\/H b=none):Bx S' F H':=λH2 a =>
 h H2 ⟨λb o e c=>a.k b o (k.k b o e c) λz=>(n b z).elim c λq=>(by rw[q]at e;cases e),λb e=>k.n b (a.n b e)⟩
end
mutual
inductive Fz (K:Waa)(S:Addr->Prop)(H:Hp):V->PyData->Prop
 | non:Fz K S H .non .none
 | bl (b:Bool):Fz K S H (.bl b) (.bool b)
 | int (i:Int):Fz K S H (.int i) (.int i)
 | str (x:Str):Fz K S H (.str x) (.str x)
 | lst {a xs ds}:Bx S (λH=>SqL K H a xs) H->FzA K S H xs ds->Fz K S H (.ref a) (.list ds)
 | tup {a xs ds}:Bx S (λH=>SqT K H a xs) H->FzA K S H xs ds->Fz K S H (.ref a) (.tuple ds)
inductive FzA (K:Waa)(S:Addr->Prop)(H:Hp):List V->List PyData->Prop
 | nil:FzA K S H [] []
 | cons {x d xs ds}:Fz K S H x d->FzA K S H xs ds->FzA K S H (x::xs) (d::ds)
end
section
variable{K:Waa}{S T S':Addr->Prop}{H H1 H' H2:Hp}
theorem Fz.ind{P:V->PyData->Prop}{Q:List V->List PyData->Prop}(e:P .non .none)(l:∀b,P (.bl b) (.bool b))(k:∀i,P (.int i) (.int i))(f:∀x,P (.str x) (.str x))
  (c:∀{a xs ds},Bx S (λH=>SqL K H a xs) H->Q xs ds->P (.ref a) (.list ds)) (g:∀{a xs ds},Bx S (λH=>SqT K H a xs) H->Q xs ds->P (.ref a) (.tuple ds)) (nil:Q [] []) (cons:∀{x d xs ds},P x d->Q xs ds->Q (x::xs) (d::ds)) :
  (∀{v d},Fz K S H v d->P v d)/\∀{vs ds},FzA K S H vs ds->Q vs ds :=
 ⟨λh=>Fz.rec e l k f (λh _ i=>c h i) (λh _ i=>g h i) nil (λ_ _ i j=>cons i j) h,
  λh=>FzA.rec e l k f (λh _ i=>c h i) (λh _ i=>g h i) nil (λ_ _ i j=>cons i j) h⟩
theorem Fz.step_(k:Kp S H H')(n:∀b,S' b->S b\/H b=none):(∀{v:V} {d:PyData},Fz K S H v d->Fz K S' H' v d)/\∀{vs:List V} {ds:List PyData},FzA K S H vs ds->FzA K S' H' vs ds :=
 Fz.ind .non .bl .int .str (λh t=>.lst (h.step k n) t) (λh t=>.tup (h.step k n) t) .nil (λr t=>.cons r t)
theorem Fz.step(k:Kp S H H')(n:∀b,S' b->S b\/H b=none){v:V}{d:PyData}(h:Fz K S H v d):Fz K S' H' v d:=(Fz.step_ k n).1 h
theorem FzA.step(k:Kp S H H')(n:∀b,S' b->S b\/H b=none){vs:List V}{ds:List PyData}(h:FzA K S H vs ds):FzA K S' H' vs ds:=(Fz.step_ k n).2 h
theorem Fz.dt_:(∀{v:V} {d:PyData},Fz K S H v d->Dt K H v d)/\∀{vs:List V} {ds:List PyData},FzA K S H vs ds->DtAll K H vs ds :=
 Fz.ind .non .bl .int .str (λh t=>.lst h.now t) (λh t=>.tup h.now t) .nil (λr t=>.cons r t)
theorem Fz.dt(h:Fz K S H v d):Dt K H v d:=Fz.dt_.1 h
theorem FzA.dt(h:FzA K S H vs ds):DtAll K H vs ds:=Fz.dt_.2 h
theorem Fz.of0(h:Dt K H v d):Fz K (λ_=>False) H v d :=
 Dt.rec .non .bl .int .str (λh _ t=>.lst (λH' k=>k.keep.same.seq h) t) (λh _ t=>.tup (λH' k=>k.keep.same.tupS h) t) .nil (λ_ _ r t=>.cons r t) h
theorem FzA.of0:∀{vs:List V} {ds:List PyData},DtAll K H vs ds->FzA K (λ_=>False) H vs ds:=by
 intro vs;induction vs with
 | nil=>intro ds h;cases h;exact .nil
 | cons v vs a=>intro ds h;cases h with | cons r t=>exact .cons (Fz.of0 r) (a t)
theorem Fz.sub(h:∀b,S' b->S b)(f:Fz K S H v d):Fz K S' H v d:=f.step (Kp.refl _ _) λb z=>.inl (h b z)
theorem FzA.sub(h:∀b,S' b->S b)(f:FzA K S H v d):FzA K S' H v d:=f.step (Kp.refl _ _) λb z=>.inl (h b z)
theorem FzA.length(h:FzA K S H vs ds):vs.length=ds.length:=by
 induction vs generalizing ds with
 | nil=>cases h;rfl
 | cons v vs a=>cases h with | cons _ t=>rw[aam,aam,a t]
theorem FzA.get{i:Nat}(h:FzA K S H vs ds)(e:ds[i]?=some d):∃v,vs[i]?=some v/\Fz K S H v d:=by
 induction vs generalizing ds i with
 | nil=>cases h;cases i<;>cases e
 | cons v vs a =>
  cases h with
  | cons r t =>
   cases i with
   | zero=>cases e;exact⟨_,rfl,r⟩
   | succ i=>exact a t e
theorem FzA.append(h:FzA K S H vs ds)(h':FzA K S H ws es):FzA K S H (vs++ws) (ds++es):=by
 induction vs generalizing ds with
 | nil=>cases h;exact h'
 | cons v vs a=>cases h with | cons r t=>exact .cons r (a t)
theorem FzA.take:∀(n:Nat) {vs:List V} {ds:List PyData},FzA K S H vs ds->FzA K S H (vs.take n) (ds.take n)
 | 0,_,_,_=>.nil
 | _ + 1,_,_,.nil=>.nil
 | n + 1,_,_,.cons r t=>.cons r (FzA.take n t)
theorem FzA.drop:∀(n:Nat) {vs:List V} {ds:List PyData},FzA K S H vs ds->FzA K S H (vs.drop n) (ds.drop n)
 | 0,_,_,h=>h
 | _ + 1,_,_,.nil=>.nil
 | n + 1,_,_,.cons _ t=>FzA.drop n t
theorem FzA.set(h:Fz K S H u d):∀(n:Nat) {vs:List V} {ds:List PyData},FzA K S H vs ds->FzA K S H (vs.set n u) (ds.set n d)
 | _,_,_,.nil=>.nil
 | 0,_,_,.cons _ t=>.cons h t
 | n + 1,_,_,.cons r t=>.cons r (FzA.set h n t)
theorem FzA.ints:∀(ns:List Int),FzA K S H (ns.map V.int) (ns.map PyData.int)
 | []=>.nil
 | n::ns=>.cons (.int n) (FzA.ints ns)
theorem Fz.list_inv(h:Fz K S H v (.list ds)):∃a xs,v=.ref a/\Bx S (λH=>SqL K H a xs) H/\FzA K S H xs ds:=by
 cases h with | lst h t=>exact⟨_,_,rfl,h,t⟩
theorem Fz.tup_inv(h:Fz K S H v (.tuple ds)):∃a xs,v=.ref a/\Bx S (λH=>SqT K H a xs) H/\FzA K S H xs ds:=by
 cases h with | tup h t=>exact⟨_,_,rfl,h,t⟩
theorem z6(h:H a=some (.lst xs))(n:¬ S a):Bx S (λH=>SqL K H a xs) H:=λ_ k=>SqL.of (k.k _ _ h n)
theorem rS(h:H a=some (.tup xs))(n:¬ S a):Bx S (λH=>SqT K H a xs) H:=λ_ k=>SqT.of (k.k _ _ h n)
end
inductive OD where
 | fz (d:PyData) | lst (xs:List OD) | tup (xs:List OD) | dic (ks:List Key) (xs:List OD) | obj (c:Str) (ns:List Str) (xs:List OD) | pin (l:Bool) (xs:List V) (ds:List PyData) | hole (v:V)
mutual
def OD.dat:OD->Option PyData
 | .fz d=>some d
 | .lst xs=>match OD.dats xs with | some ds=>some (.list ds) | none=>none
 | .tup xs=>match OD.dats xs with | some ds=>some (.tuple ds) | none=>none
 | .dic _ _=>none
 | .obj _ _ _=>none
 | .pin l _ ds=>some (if l then .list ds else .tuple ds)
 | .hole _=>none
def OD.dats:List OD->Option (List PyData)
 | []=>some []
 | x::xs=>match x.dat with
  | some d=>match OD.dats xs with | some ds=>some (d::ds) | none=>none
  | none=>none
end
def aR(K:Waa)(c:Str):Addr:=match PySem.W.nsIn K mainGlobals c with | some (some (.ref C))=>C | _=>0
structure Bs where
 K:Waa
 H0:Hp
 S0:Addr->Prop
 C:Addr->Prop
mutual
inductive Ow (b:Bs)(S:Addr->Prop)(H:Hp):V->OD->List Addr->Prop
 | fz {v d}:Fz b.K S H v d->Ow b S H v (.fz d) []
 | lst {a vs xs A}:H a=some (.lst vs)->Ows b S H vs xs A->Ow b S H (.ref a) (.lst xs) (a::A)
 | tup {a vs xs A}:H a=some (.tup vs)->Ows b S H vs xs A->Ow b S H (.ref a) (.tup xs) A
 | dic {a ws ks vs xs A}:H a=some (.dK ws)->ws.map (·.1)=ks->ws.map (·.2)=vs->Ows b S H vs xs A->Ow b S H (.ref a) (.dic ks xs) (a::A)
 | obj {a dx c fs ns vs xs A}:H a=some (.ins (aR b.K c) dx fs)->H dx=some (.own a)->fs.map (·.1)=ns->fs.map (·.2)=vs->Ows b S H vs xs A->Ow b S H (.ref a) (.obj c ns xs) (a::dx::A)
 | pinL {a xs ds}:Bx S (λH=>SqL b.K H a xs) H->FzA b.K S H xs ds->Ow b S H (.ref a) (.pin true xs ds) []
 | pinT {a xs ds}:Bx S (λH=>SqT b.K H a xs) H->FzA b.K S H xs ds->Ow b S H (.ref a) (.pin false xs ds) []
 | hole {v u}:v=u->Ow b S H v (.hole u) []
inductive Ows (b:Bs)(S:Addr->Prop)(H:Hp):List V->List OD->List Addr->Prop
 | nil:Ows b S H [] [] []
 | cons {v x A vs xs B}:Ow b S H v x A->Ows b S H vs xs B->Ows b S H (v::vs) (x::xs) (A++B)
end
abbrev OwL(b:Bs)(S:Addr->Prop)(H:Hp)(L:List (V × OD))(A:List Addr):Prop:=Ows b S H (L.map (·.1)) (L.map (·.2)) A
def MutO:HO->Prop
 | .lst _=>True | .dK _=>True | .ins _ _ _=>True | .own _=>True
 | _=>False
section
variable{b:Bs}{S T S':Addr->Prop}{H H1 H' H2:Hp}
theorem Ows.len(h:Ows b S H vs xs A):vs.length=xs.length:=by
 induction vs generalizing xs A with
 | nil=>cases h;rfl
 | cons v vs a=>cases h with | cons _ t=>rw[aam,aam,a t]
theorem Ow.ind{P:V->OD->List Addr->Prop}{Q:List V->List OD->List Addr->Prop}(t:∀{v d},Fz b.K S H v d->P v (.fz d) [])(n:∀{a vs xs A},H a=some (.lst vs)->Q vs xs A->P (.ref a) (.lst xs) (a::A))(o:∀{a vs xs A},H a=some (.tup vs)->Q vs xs A->P (.ref a) (.tup xs) A)
  (q:∀{a ws ks vs xs A},H a=some (.dK ws)->ws.map (·.1)=ks->ws.map (·.2)=vs->Q vs xs A->P (.ref a) (.dic ks xs) (a::A)) (p:∀{a dx c r ns vs xs A},H a=some (.ins (aR b.K c) dx r)->H dx=some (.own a)->r.map (·.1)=ns->r.map (·.2)=vs->Q vs xs A->P (.ref a) (.obj c ns xs) (a::dx::A))
  (g:∀{a xs ds},Bx S (λH=>SqL b.K H a xs) H->FzA b.K S H xs ds->P (.ref a) (.pin true xs ds) []) (f:∀{a xs ds},Bx S (λH=>SqT b.K H a xs) H->FzA b.K S H xs ds->P (.ref a) (.pin false xs ds) []) (k:∀{v u},v=u->P v (.hole u) [])
  (nil:Q [] [] []) (cons:∀{v x A vs xs B},P v x A->Q vs xs B->Q (v::vs) (x::xs) (A++B)):(∀{v x A},Ow b S H v x A->P v x A)/\∀{vs xs A},Ows b S H vs xs A->Q vs xs A :=
 ⟨λh=>Ow.rec t (λe _ i=>n e i) (λe _ i=>o e i) (λe l m _ i=>q e l m i) (λe s l m _ i=>p e s l m i) g f k nil (λ_ _ i j=>cons i j) h,
  λh=>Ows.rec t (λe _ i=>n e i) (λe _ i=>o e i) (λe l m _ i=>q e l m i) (λe s l m _ i=>p e s l m i) g f k nil (λ_ _ i j=>cons i j) h⟩
theorem nv{P:Addr->Prop}(h:P a)(t:∀c∈A,P c):∀c∈a::A,P c:=λc d=>(aaa.mp d).elim (λe=>e ▸ h) (t c)
theorem Ow.mu_:(∀{v:V} {x:OD} {A:List Addr},Ow b S H v x A->∀a∈A,∃o,H a=some o/\MutO o)/\∀{vs:List V} {xs:List OD} {A:List Addr},Ows b S H vs xs A->∀a∈A,∃o,H a=some o/\MutO o :=
 Ow.ind (λ_ _ h=>absurd h aaq) (λe i=>nv ⟨_,e,trivial⟩ i) (λ_ i=>i) (λe _ _ i=>nv ⟨_,e,trivial⟩ i) (λe c _ _ i=>nv ⟨_,e,trivial⟩ (nv ⟨_,c,trivial⟩ i)) (λ_ _ _ h=>absurd h aaq) (λ_ _ _ h=>absurd h aaq) (λ_ _ h=>absurd h aaq) (λ_ h=>absurd h aaq) (λi j a h=>(aan.mp h).elim (i a) (j a))
theorem Ow.mu(h:Ow b S H v x A):∀a∈A,∃o,H a=some o/\MutO o:=Ow.mu_.1 h
theorem Ows.mu(h:Ows b S H vs xs A):∀a∈A,∃o,H a=some o/\MutO o:=Ow.mu_.2 h
theorem Ows.ne(h:Ows b S H vs xs A):∀a∈A,H a≠none:=λa c e=>by obtain⟨o,q,_⟩:=h.mu a c;rw[q]at e;cases e
theorem Ow.ne(h:Ow b S H v x A):∀a∈A,H a≠none:=λa c e=>by obtain⟨o,q,_⟩:=h.mu a c;rw[q]at e;cases e
theorem Ows.tl(h:Ows b S H vs xs A):∀a∈A,∀ys,H a≠some (.tup ys):=λa c ys e=>by obtain⟨o,q,m⟩:=h.mu a c;rw[q]at e;cases e;exact m
theorem Ow.tl(h:Ow b S H v x A):∀a∈A,∀ys,H a≠some (.tup ys):=λa c ys e=>by obtain⟨o,q,m⟩:=h.mu a c;rw[q]at e;cases e;exact m
theorem Ow.step_(c:b2.K=b.K)(k:Kp S H H')(n:∀b,S' b->S b\/H b=none)(m:∀a xs,H a=some (.tup xs)->¬ S a):(∀{v:V} {x:OD} {A:List Addr},Ow b S H v x A->(∀a∈A,H' a=H a)->Ow b2 S' H' v x A)/\∀{vs:List V} {xs:List OD} {A:List Addr},Ows b S H vs xs A->(∀a∈A,H' a=H a)->Ows b2 S' H' vs xs A :=
 Ow.ind (λf _=>.fz (c ▸ f.step k n)) (λe i s=>.lst ((s _ aag).trans e) (i λa h=>s a (aaj _ h))) (λe i s=>.tup (k.k _ _ e (m _ _ e)) (i s)) (λe d g i s=>.dic ((s _ aag).trans e) d g (i λa h=>s a (aaj _ h)))
  (λe l d g i s=>.obj (c ▸ (s _ aag).trans e) ((s _ (aaj _ aag)).trans l) d g (i λa h=>s a (aaj _ (aaj _ h)))) (λh t _=>.pinL (c ▸ h.step k n) (c ▸ t.step k n)) (λh t _=>.pinT (c ▸ h.step k n) (c ▸ t.step k n)) (λe _=>.hole e) (λ_=>.nil) (λi j s=>.cons (i λa h=>s a (aaf _ h)) (j λa h=>s a (aad _ h)))
theorem Ow.step(k:Kp S H H')(n:∀b,S' b->S b\/H b=none)(c:∀a xs,H a=some (.tup xs)->¬ S a){v:V}{x:OD}{A:List Addr}(s:∀a∈A,H' a=H a)(h:Ow b S H v x A):Ow b S' H' v x A:=(Ow.step_ rfl k n c).1 h s
theorem Ows.step(k:Kp S H H')(n:∀b,S' b->S b\/H b=none)(c:∀a xs,H a=some (.tup xs)->¬ S a){vs:List V}{xs:List OD}{A:List Addr}(s:∀a∈A,H' a=H a)(h:Ows b S H vs xs A):Ows b S' H' vs xs A:=(Ow.step_ rfl k n c).2 h s
theorem Ow.sub(d:∀a xs,H a=some (.tup xs)->¬ S a)(n:∀c,S' c->S c)(h:Ow b S H v x A):Ow b S' H v x A:=h.step (Kp.refl _ _) (λc z=>.inl (n c z)) d (λ_ _=>rfl)
theorem Ows.sub(d:∀a xs,H a=some (.tup xs)->¬ S a)(n:∀c,S' c->S c)(h:Ows b S H v x A):Ows b S' H v x A:=h.step (Kp.refl _ _) (λc z=>.inl (n c z)) d (λ_ _=>rfl)
theorem Ows.subB(e:b2.K=b.K)(d:∀a xs,H a=some (.tup xs)->¬ S a)(n:∀c,S' c->S c)(h:Ows b S H v x A):Ows b2 S' H v x A:=(Ow.step_ e (Kp.refl _ _) (λc z=>.inl (n c z)) d).2 h λ_ _=>rfl
theorem vM(h:(OD.lst xs).dat=some d):∃ds,OD.dats xs=some ds/\d=.list ds:=by
 rw[OD.dat]at h;cases z:OD.dats xs with
 | none=>rw[z]at h;cases h
 | some ds=>rw[z]at h;cases h;exact⟨ds,rfl,rfl⟩
theorem vN(h:(OD.tup xs).dat=some d):∃ds,OD.dats xs=some ds/\d=.tuple ds:=by
 rw[OD.dat]at h;cases z:OD.dats xs with
 | none=>rw[z]at h;cases h
 | some ds=>rw[z]at h;cases h;exact⟨ds,rfl,rfl⟩
theorem pX(h:OD.dats (x::xs)=some es):∃d ds,x.dat=some d/\OD.dats xs=some ds/\es=d::ds:=by
 rw[OD.dats]at h;cases z:x.dat with
 | none=>rw[z]at h;cases h
 | some d =>
  cases a:OD.dats xs with
  | none=>rw[z,a]at h;cases h
  | some ds=>rw[z,a]at h;cases h;exact⟨d,ds,rfl,rfl,rfl⟩
theorem Ow.frz_(k:∀a,S' a->S a)(nt:∀a xs,H a=some (.tup xs)->¬ S a):(∀{v:V} {x:OD} {A:List Addr},Ow b S H v x A->∀d:PyData,(∀a∈A,¬ S' a)->x.dat=some d->Fz b.K S' H v d)/\∀{vs:List V} {xs:List OD} {A:List Addr},Ows b S H vs xs A->∀ds:List PyData,(∀a∈A,¬ S' a)->OD.dats xs=some ds->FzA b.K S' H vs ds:=by
 refine Ow.ind (P:=λv x A=>∀d:PyData,(∀a∈A,¬ S' a)->x.dat=some d->Fz b.K S' H v d) (Q:=λvs xs A=>∀ds:List PyData,(∀a∈A,¬ S' a)->OD.dats xs=some ds->FzA b.K S' H vs ds) ?_ ?_ ?_ (λ_ _ _ _ _ _ q=>?_) (λ_ _ _ _ _ _ _ q=>?_) ?_ ?_ (λ_ _ _ q=>?_) ?_ ?_
 ·intro v d f n _ q;cases q;exact f.sub k
 ·intro a vs xs A e i d g q;obtain⟨ds,z,rfl⟩:=vM q;exact .lst (z6 e (g _ aag)) (i ds (λa h=>g a (aaj _ h)) z)
 ·intro a vs xs A e i d g q;obtain⟨ds,z,rfl⟩:=vN q;exact .tup (rS e λy=>nt _ _ e (k _ y)) (i ds g z)
 ·cases q
 ·cases q
 ·intro a xs ds h t d _ q;cases q;exact .lst (h.step (Kp.refl _ _) λc z=>.inl (k c z)) (t.sub k)
 ·intro a xs ds h t d _ q;cases q;exact .tup (h.step (Kp.refl _ _) λc z=>.inl (k c z)) (t.sub k)
 ·cases q
 ·intro ds _ q;cases q;exact .nil
 ·intro v x A vs xs B i j o g q;obtain⟨d,ds,m,l,rfl⟩:=pX q;exact .cons (i d (λa h=>g a (aaf _ h)) m) (j ds (λa h=>g a (aad _ h)) l)
theorem Ow.frz(e:∀a,S' a->S a)(nt:∀a xs,H a=some (.tup xs)->¬ S a)(c:∀a∈A,¬ S' a)(h:Ow b S H v x A)(q:x.dat=some d):Fz b.K S' H v d:=(Ow.frz_ e nt).1 h d c q
theorem Ows.frz(d:∀a,S' a->S a)(nt:∀a xs,H a=some (.tup xs)->¬ S a)(c:∀a∈A,¬ S' a)(h:Ows b S H vs xs A)(q:OD.dats xs=some ds):FzA b.K S' H vs ds:=(Ow.frz_ d nt).2 h ds c q
theorem Ows.append(h:Ows b S H vs xs A)(h':Ows b S H us ys B):Ows b S H (vs++us) (xs++ys) (A++B):=by
 induction vs generalizing xs A with
 | nil=>cases h;exact h'
 | cons v vs a=>cases h with | cons r t=>rw[aac];exact .cons r (a t)
theorem Ows.split(e:vs.length=xs.length)(h:Ows b S H (vs++us) (xs++ys) A):∃c a,A=c++a/\Ows b S H vs xs c/\Ows b S H us ys a:=by
 induction vs generalizing xs A with
 | nil =>
  cases xs with
  | nil=>exact⟨[],A,rfl,.nil,h⟩
  | cons _ _=>cases e
 | cons v vs d =>
  cases xs with
  | nil=>cases e
  | cons x xs =>
   cases h with
   | cons r t =>obtain⟨c,a,rfl,f,g⟩:=d (Nat.succ.inj e) t;exact⟨_,a,(aac ..).symm,.cons r f,g⟩
theorem OwL.split'(h:OwL b S H (L1++L2) A):∃a c,A=a++c/\OwL b S H L1 a/\OwL b S H L2 c:=by unfold OwL at h;rw[aav,aav]at h;exact Ows.split (by simp) h
theorem OwL.join'(c:OwL b S H L1 A1)(a:OwL b S H L2 A2):OwL b S H (L1++L2) (A1++A2):=by unfold OwL;rw[aav,aav];exact Ows.append c a
theorem OwL.perm(p:L.Perm L'):∀{A:List Addr},OwL b S H L A->∃e,OwL b S H L' e/\A.Perm e:=by
 induction p with
 | nil=>intro A h;exact⟨A,h,.refl _⟩
 | cons x _ k =>
  intro A h;cases h with
  | cons r t=>obtain⟨B,d,q⟩:=k t;exact⟨_,.cons r d,q.append_left _⟩
 | swap x y l =>
  intro A h;cases h with
  | cons r t =>
   cases t with
   | cons m f =>refine⟨_,.cons m (.cons r f),?_⟩;rw[<- aac,<- aac];exact aa1.append_right _
 | trans _ _ a c =>intro A h;obtain⟨B,j,g⟩:=a h;obtain⟨C,d,i⟩:=c j;exact⟨C,d,g.trans i⟩
theorem OwL.mem:∀{A:List Addr},OwL b S H L A->∀{x:V × OD},x∈L->∃B,Ow b S H x.1 x.2 B:=by
 induction L with
 | nil=>intro A h x a;cases a
 | cons y L c =>
  intro A h x a;cases h with
  | cons r t =>
   rcases aaa.mp a with rfl | a
   ·exact⟨_,r⟩
   ·exact c t a
theorem Ows.zip(h:Ows b S H vs xs A)(e:xs[k]?=some x):∃v d B c,vs[k]?=some v/\A=d++(B++c)/\Ow b S H v x B /\
  ∀{S':Addr->Prop} {H':Hp} {u:V} {y:OD} {f:List Addr},Ow b S' H' u y f->(∀{v:V} {x:OD} {C:List Addr},(∀a∈C,a∈d\/a∈c)->Ow b S H v x C->Ow b S' H' v x C)->Ows b S' H' (vs.set k u) (xs.set k y) (d++(f++c)):=by
 induction vs generalizing xs A k with
 | nil=>cases h;cases k<;>cases e
 | cons v vs i =>
  cases h with
  | @cons _ x0 A _ xs B r t =>
   cases k with
   | zero =>
    cases e;refine⟨v,[],A,B,rfl,rfl,r,λ{S' H' u y f} h g=>Ows.cons (B:=B) h ?_⟩;have l:∀{vs:List V} {xs:List OD} {D:List Addr},(∀a∈D,a∈B)->Ows b S H vs xs D->Ows b S' H' vs xs D:=λ{vs xs D} s h=>by
     induction xs generalizing vs D with
     | nil=>cases h;exact .nil
     | cons x xs i=>cases h with | cons r t=>exact .cons (g (λa h=>.inr (s a (aaf _ h))) r) (i (λa h=>s a (aad _ h)) t)
    exact l (λa h=>h) t
   | succ k =>obtain⟨j,d,m,c,n,p,q,o⟩:=i t e;subst p;refine⟨j,A++d,m,c,n,(aac ..).symm,q,λh g=>?_⟩;rw[aaE,aaE,aac];exact .cons (g (λa h=>.inl (aaf _ h)) r) (o h λs h=>g (λa z=>(s a z).imp (aad _) id) h)
end
end
section
structure Wd (b:Bs)(H:Hp)(L:List (V × OD)):Prop where
 out:∃A,OwL b (λa=>a∈A\/b.S0 a) H L A/\A.Nodup/\∀a∈A,b.H0 a=none\/b.C a
 fr:Kp b.C b.H0 H
 s0:∀a,b.S0 a->b.H0 a≠none/\¬ b.C a
 nt:∀a xs,H a=some (.tup xs)->¬ b.S0 a
section
variable{b:Bs}{H H1 H':Hp}{L L':List (V × OD)}{v u:V}{x y:OD}{d:PyData}{ds:List PyData}{p a:Addr}
theorem Wd.nt'(w:Wd b H L)(h:OwL b (λa=>a∈A\/b.S0 a) H L A):∀a xs,H a=some (.tup xs)->¬ (a∈A\/b.S0 a):=λa xs e z=>z.elim (λz=>Ows.tl h a z xs e) (w.nt a xs e)
theorem Wd.al(w:Wd b H L)(h:OwL b (λa=>a∈A\/b.S0 a) H L A)(e:H a=none):¬ (a∈A\/b.S0 a):=λz=>z.elim (λz=>Ows.ne h a z e) λz=>(w.s0 a z).1 (w.fr.n a e)
theorem Wd.dj(w:Wd b H L){A:List Addr}(c:∀a∈A,b.H0 a=none\/b.C a):∀a∈A,¬ b.S0 a:=λa e z=>(c a e).elim (w.s0 a z).1 (w.s0 a z).2
theorem Wd.perm(w:Wd b H L)(q:L.Perm L'):Wd b H L':=by obtain⟨A,h,k,e⟩:=w.out;obtain⟨j,g,f⟩:=OwL.perm q h;refine⟨⟨j,Ows.step (Kp.refl _ _) (λc z=>.inl (z.imp (f.mem_iff.mpr) id)) (w.nt' h) (λ_ _=>rfl) g,f.nodup_iff.mp k,λa i=>e a (f.mem_iff.mpr i)⟩,w.fr,w.s0,w.nt⟩
theorem Wd.drop(w:Wd b H ((v,x)::L)):Wd b H L:=by
 obtain⟨A,h,g,e⟩:=w.out;have i:=w.nt' h;cases h with
 | @cons _ _ A _ _ B r t =>exact⟨⟨B,Ows.step (Kp.refl _ _) (λc z=>.inl (z.imp (aad _) id)) i (λ_ _=>rfl) t,(aaz.mp g).2.1,λa f=>e a (aad _ f)⟩,w.fr,w.s0,w.nt⟩
theorem Wd.drops(w:Wd b H (L1++L2)):Wd b H L2:=by
 induction L1 with
 | nil=>exact w
 | cons z L1 c=>exact c (Wd.drop w)
theorem Wd.puts(w:Wd b H (L1++L))(h:∀(S:Addr->Prop) (A:List Addr),OwL b S H L1 A->A.Nodup->(∀a∈A,S a)->(∀a,H a=none->¬ S a)->(∀a xs,H a=some (.tup xs)->¬ S a) ->
  ∃f,OwL b (λa=>(S a/\a ∉ A)\/a∈f) H L2 f/\f.Nodup/\∀a∈f,a∈A):Wd b H (L2++L):=by
 obtain⟨J,m,D,g⟩:=w.out;have j:=w.nt' m;have G:=λ{a}=>w.al m (a:=a);have ds:=w.dj g;obtain⟨A,B,rfl,r,t⟩:=OwL.split' m;obtain⟨I,s,o⟩:=aaz.mp D;obtain⟨f,C,F,k⟩:=h _ A r I (λa z=>.inl (aaf _ z)) (λa e=>G e) j;have i:∀c,(c∈f++B\/b.S0 c)->(c∈A++B\/b.S0 c):=λc z=>z.imp (λz=>(aan.mp z).elim (λz=>aaf _ (k c z)) (aad _)) id;refine⟨⟨f++B,OwL.join' (Ows.step (Kp.refl _ _) (λc z=>.inl ?_) (λa xs e z=>?_) (λ_ _=>rfl) C) (Ows.step (Kp.refl _ _) (λc z=>.inl (i c z)) j (λ_ _=>rfl) t),aaz.mpr ⟨F,s,λa n c l=>o a (k a n) c l⟩,λa n=>?_⟩,w.fr,w.s0,w.nt⟩
 ·by_cases l:c∈f
  ·exact .inr l
  ·refine .inl ⟨i c z,λq=>?_⟩;rcases z with z | z
   ·rcases aan.mp z with z | z
    ·exact l z
    ·exact o c q c z rfl
   ·exact ds c (aaf _ q) z
 ·rcases z with z | z
  ·exact j a xs e z.1
  ·exact j a xs e (.inl (aaf _ (k a z)))
 ·rcases aan.mp n with z | z
  ·exact g a (aaf _ (k a z))
  ·exact g a (aad _ z)
theorem OwL.one(h:OwL b S H [(v,x)] A):Ow b S H v x A:=by
 cases h with
 | cons r t=>cases t;rw[aap];exact r
theorem OwL.of1(h:Ow b S H v x A):OwL b S H [(v,x)] A:=by have:=Ows.cons h (Ows.nil );rw[aap]at this;exact this
theorem Wd.frz(w:Wd b H ((v,x)::L))(e:x.dat=some d):Wd b H ((v,.fz d)::L):=by
 refine Wd.puts (L1:=[(v,x)]) w λS A h i g j f=>⟨[],OwL.of1 (.fz ?_),aaQ,λa z=>by cases z⟩
 exact Ow.frz (λa z=>z.elim (·.1) (λz=>by cases z)) f (λa c z=>z.elim (λz=>z.2 c) (λz=>by cases z)) h.one e
theorem Wd.dt(w:Wd b H ((v,x)::L))(e:x.dat=some d):Dt b.K H v d:=by obtain⟨A,c,g,f⟩:=w.out;obtain⟨B,h⟩:=OwL.mem c (x:=(v,x)) (by simp);exact (Ow.frz (λa z=>z.elim) (w.nt' c) (λa _ z=>z) h e).dt
theorem Wd.memDt(w:Wd b H L)(m:(v,x)∈L)(e:x.dat=some d):Dt b.K H v d:=by obtain⟨A,c,g,f⟩:=w.out;obtain⟨B,h⟩:=OwL.mem c m;exact (Ow.frz (λa z=>z.elim) (w.nt' c) (λa _ z=>z) h e).dt
def FrzIn(b:Bs)(S:Addr->Prop)(H:Hp)(L:List (V × OD)):Prop:=∀u e,(u,OD.fz e)∈L->Fz b.K S H u e
theorem OwL.frzIn(h:OwL b S H L A):FrzIn b S H L:=λu e m=>by obtain⟨B,q⟩:=OwL.mem h m;cases q with | fz f=>exact f
theorem FrzIn.all(h:FrzIn b S H L):∀{vs:List V} {ds:List PyData},vs.length=ds.length->(∀z∈vs.zip (ds.map OD.fz),z∈L)->FzA b.K S H vs ds
 | [],[],_,_=>.nil
 | v::vs,d::ds,e,m=>.cons (h v d (m _ (by simp))) (FrzIn.all h (by simpa using e) λz c=>m z (by simp[c]))
theorem Wd.add(w:Wd b H L)(h:∀S:Addr->Prop,(∀(x:V × OD),x∈L->∃A,Ow b S H x.1 x.2 A)->(∀a,H a=none->¬ S a)->(∀a xs,H a=some (.tup xs)->¬ S a)->Fz b.K S H v d):Wd b H ((v,.fz d)::L):=by obtain⟨A,c,i,f⟩:=w.out;exact⟨⟨A,Ows.cons (.fz (h _ (λx g=>OwL.mem c g) (λa e=>w.al c e) (w.nt' c))) c,i,f⟩,w.fr,w.s0,w.nt⟩
theorem Wd.adds(w:Wd b H L)(h:∀S:Addr->Prop,(∀(x:V × OD),x∈L->∃A,Ow b S H x.1 x.2 A)->FzA b.K S H vs ds):Wd b H (vs.zip (ds.map OD.fz)++L):=by
 obtain⟨A,e,i,c⟩:=w.out;have q:∀{vs:List V} {ds:List PyData},FzA b.K (λa=>a∈A\/b.S0 a) H vs ds->OwL b (λa=>a∈A\/b.S0 a) H (vs.zip (ds.map OD.fz)) []:=by
  intro vs;induction vs with
  | nil=>intro ds h;cases h;exact .nil
  | cons v vs g=>intro ds h;cases h with | cons r t=>exact Ows.cons (.fz r) (g t)
 exact⟨⟨A,OwL.join' (q (h _ λx f=>OwL.mem e f)) e,i,c⟩,w.fr,w.s0,w.nt⟩
theorem Wd.dup(w:Wd b H ((v,.fz d)::L)):Wd b H ((v,.fz d)::(v,.fz d)::L):=w.add λS h _ _=>by obtain⟨A,q⟩:=h (v,.fz d) (by simp);cases q with | fz f=>exact f
inductive Sc:V->PyData->Prop
 | non:Sc .non .none
 | bl (b:Bool):Sc (.bl b) (.bool b)
 | int (i:Int):Sc (.int i) (.int i)
 | str (x:Str):Sc (.str x) (.str x)
theorem Sc.fz{K:Waa}(h:Sc v d):Fz K S H v d:=by cases h<;>constructor
theorem Wd.sc(w:Wd b H L)(h:Sc v d):Wd b H ((v,.fz d)::L):=w.add λS _ _ _=>h.fz
theorem Wd.new(w:Wd b H L)(f:H p=none):Wd b (upd H p o) L:=by
 obtain⟨A,h,l,g⟩:=w.out;have i:=w.al h f;refine⟨⟨A,Ows.step (Kp.put (.inr f)) (λc z=>.inl z) (w.nt' h) (λa k=>upd_ne λe=>i (.inl (e ▸ k))) h,l,g⟩,w.fr.trans (Kp.put (.inr f)),w.s0,λa j e z=>?_⟩;by_cases q:a=p
 ·subst q;exact i (.inr z)
 ·rw[upd_ne q]at e;exact w.nt a j e z
theorem Wd.newC(w:Wd b H L)(c:H p=none):b.H0 p=none:=w.fr.n p c
theorem ju:∀{vs:List V} {xs:List OD},vs.length=xs.length->(vs.zip xs).map (·.1)=vs
 | [],[],_=>rfl
 | _::_,_::_,e=>by rw[abo,aal,ju (by simpa using e)]
 | [],_::_,e=>by simp at e
 | _::_,[],e=>by simp at e
theorem jv:∀{vs:List V} {xs:List OD},vs.length=xs.length->(vs.zip xs).map (·.2)=xs
 | [],[],_=>rfl
 | _::_,_::_,e=>by rw[abo,aal,jv (by simpa using e)]
 | [],_::_,e=>by simp at e
 | _::_,[],e=>by simp at e
theorem OwL.zips(e:vs.length=xs.length)(h:OwL b S H (vs.zip xs) A):Ows b S H vs xs A:=by unfold OwL at h;rw[ju e,jv e]at h;exact h
theorem OwL.unzips(h:Ows b S H vs xs A):OwL b S H (vs.zip xs) A:=by unfold OwL;rw[ju h.len,jv h.len];exact h
theorem Wd.newTup(w:Wd b H L)(h:∀S,FrzIn b S H L->FzA b.K S H vs ds)(f:H p=none):Wd b (upd H p (.tup vs)) ((.ref p,.fz (.tuple ds))::L):=by obtain⟨A,g,n,j⟩:=w.out;have k:=w.al g f;have l:=h _ (OwL.frzIn g);have i:=w.new f (o:=.tup vs);refine⟨⟨A,Ows.cons (.fz (.tup (rS aB k) (l.step (Kp.put (.inr f)) λc z=>.inl z))) (Ows.step (Kp.put (.inr f)) (λc z=>.inl z) (w.nt' g) (λa m=>upd_ne λe=>k (.inl (e ▸ m))) g),n,j⟩,i.fr,i.s0,i.nt⟩
theorem Wd.newTupC(w:Wd b H (vs.zip xs++L))(e:vs.length=xs.length)(g:H p=none):Wd b (upd H p (.tup vs)) ((.ref p,.tup xs)::L):=by obtain⟨A,i,q,j⟩:=w.out;have t:=w.al i g;have k:=w.nt' i;have h:=w.new g (o:=.tup vs);have l:∀a∈A,upd H p (.tup vs) a=H a:=λa f=>upd_ne λe=>t (.inl (e ▸ f));obtain⟨r,m,rfl,n,s⟩:=OwL.split' i;refine⟨⟨r++m,Ows.cons (.tup aB (Ows.step (Kp.put (.inr g)) (λc z=>.inl z) k (λa f=>l a (aaf _ f)) (OwL.zips e n))) (Ows.step (Kp.put (.inr g)) (λc z=>.inl z) k (λa f=>l a (aad _ f)) s),q,j⟩,h.fr,h.s0,h.nt⟩
theorem Wd.newLst(w:Wd b H (vs.zip xs++L))(e:vs.length=xs.length)(g:H p=none):Wd b (upd H p (.lst vs)) ((.ref p,.lst xs)::L):=by
 obtain⟨A,j,t,l⟩:=w.out;have r:=w.al j g;have m:=w.nt' j;have h:=w.new g (o:=.lst vs);have q:∀a∈A,upd H p (.lst vs) a=H a:=λa f=>upd_ne λe=>r (.inl (e ▸ f));obtain⟨k,i,rfl,s,B⟩:=OwL.split' j;have n:∀c,(c∈p::(k++i)\/b.S0 c)->(c∈k++i\/b.S0 c)\/H c=none:=λc z=>by
  rcases z with z | z
  ·rcases aaa.mp z with rfl | z
   ·exact .inr g
   ·exact .inl (.inl z)
  ·exact .inl (.inr z)
 refine⟨⟨p::(k++i),Ows.cons (.lst aB (Ows.step (Kp.put (.inr g)) n m (λa f=>q a (aaf _ f)) (OwL.zips e s))) (Ows.step (Kp.put (.inr g)) n m (λa f=>q a (aad _ f)) B),aaA.mpr ⟨λz=>r (.inl z),t⟩,λa f=>?_⟩,h.fr,h.s0,h.nt⟩;rcases aaa.mp f with rfl | f
 ·exact .inl (w.newC g)
 ·exact l a f
theorem Wd.newDic(w:Wd b H L)(f:H p=none):Wd b (upd H p (.dK [])) ((.ref p,.dic [] [])::L):=by
 obtain⟨A,j,m,i⟩:=w.out;have k:=w.al j f;have l:=w.nt' j;have h:=w.new f (o:=.dK []);have n:∀c,(c∈p::A\/b.S0 c)->(c∈A\/b.S0 c)\/H c=none:=λc z=>by
  rcases z with z | z
  ·rcases aaa.mp z with rfl | z
   ·exact .inr f
   ·exact .inl (.inl z)
  ·exact .inl (.inr z)
 refine⟨⟨p::A,Ows.cons (A:=[p]) (.dic aB rfl rfl .nil) (Ows.step (Kp.put (.inr f)) n l (λa g=>upd_ne λe=>k (.inl (e ▸ g))) j),aaA.mpr ⟨λz=>k (.inl z),m⟩,λa g=>?_⟩,h.fr,h.s0,h.nt⟩;rcases aaa.mp g with rfl | g
 ·exact .inl (w.newC f)
 ·exact i a g
end
def OD.kids:OD->List OD
 | .lst xs=>xs | .tup xs=>xs | .dic _ xs=>xs | .obj _ _ xs=>xs
 | _=>[]
def OD.setKid(k:Nat)(y:OD):OD->OD
 | .lst xs=>.lst (xs.set k y) | .tup xs=>.tup (xs.set k y) | .dic ks xs=>.dic ks (xs.set k y) | .obj c ns xs=>.obj c ns (xs.set k y)
 | x=>x
def OD.at:List Nat->OD->Option OD
 | [],x=>some x
 | k::ks,x=>match x.kids[k]? with | some z=>OD.at ks z | none=>none
def OD.put(y:OD):List Nat->OD->OD
 | [],_=>y
 | k::ks,x=>match x.kids[k]? with | some z=>OD.setKid k (OD.put y ks z) x | none=>x
inductive Chd (b:Bs)(H:Hp):V->OD->Nat->V->OD->Prop
 | lst {a vs xs k w z}:H a=some (.lst vs)->vs.length=xs.length->vs[k]?=some w->xs[k]?=some z->Chd b H (.ref a) (.lst xs) k w z
 | tup {a vs xs k w z}:H a=some (.tup vs)->vs.length=xs.length->vs[k]?=some w->xs[k]?=some z->Chd b H (.ref a) (.tup xs) k w z
 | dic {a ws ks xs k w z}:H a=some (.dK ws)->ws.map (·.1)=ks->ws.length=xs.length->(ws[k]?).map (·.2)=some w->xs[k]?=some z->Chd b H (.ref a) (.dic ks xs) k w z
 | obj {a dx c fs ns xs k w z}:H a=some (.ins (aR b.K c) dx fs)->fs.map (·.1)=ns->fs.length=xs.length->(fs[k]?).map (·.2)=some w->xs[k]?=some z->Chd b H (.ref a) (.obj c ns xs) k w z
inductive Chn (b:Bs)(H:Hp):V->OD->List Nat->V->OD->Prop
 | nil {v x}:Chn b H v x [] v x
 | cons {v x k w z ks u y}:Chd b H v x k w z->Chn b H w z ks u y->Chn b H v x (k::ks) u y
section
variable{b:Bs}{S S':Addr->Prop}{H H1 H':Hp}{L L':List (V × OD)}{v u:V}{x y:OD}{d:PyData}{ds:List PyData}{p a:Addr}
theorem bK{f:Type}(c B e:List f):(c++(B++e)).Perm (B++(c++e)):=by rw[<- aac,<- aac];exact aa1.append_right _
theorem bx{c:Type}:∀{l:List c} {i:Nat} {x:c},l[i]?=some x->l.set i x=l
 | [],_,_,e=>by simp at e
 | _::_,0,_,e=>by simp at e;subst e;rfl
 | y::l,i + 1,x,e=>by rw[aaE,bx (by simpa using e)]
theorem Ow.kid(h:Ow b S H v x A)(e:x.kids[k]?=some z):∃w B D,Chd b H v x k w z/\Ow b S H w z B/\A.Perm (B++D) /\
  ∀{S':Addr->Prop} {H':Hp} {r:OD} {j:List Addr},Kp S H H'->(∀c,S' c->S c\/H c=none)->(∀a xs,H a=some (.tup xs)->¬ S a)->(∀a∈D,H' a=H a)->Ow b S' H' w r j->∃C,Ow b S' H' v (OD.setKid k r x) C/\C.Perm (j++D):=by
 cases h with
 | fz _=>cases k<;>cases e
 | pinL _ _=>cases k<;>cases e
 | pinT _ _=>cases k<;>cases e
 | hole _=>cases k<;>cases e
 | @lst a vs xs A e1 t =>obtain⟨w,g,B,f,i,rfl,o,m⟩:=t.zip e;refine⟨w,B,a::(g++f),.lst e1 t.len i e,o,((bK g B f).cons a).trans aaw.symm,λ{S' H' r j} k n hs s h=>?_⟩;have:=m h λq h=>Ow.step k n hs (λa l=>s a (aaj _ (aan.mpr (q a l)))) h;rw[bx i]at this;exact⟨_,.lst ((s a aag).trans e1) this,((bK g j f).cons a).trans aaw.symm⟩
 | @tup a vs xs A e1 t =>obtain⟨w,g,B,f,i,rfl,o,m⟩:=t.zip e;refine⟨w,B,g++f,.tup e1 t.len i e,o,bK g B f,λ{S' H' r j} k n hs s h=>?_⟩;have:=m h λq h=>Ow.step k n hs (λa l=>s a (aan.mpr (q a l))) h;rw[bx i]at this;exact⟨_,.tup (k.k _ _ e1 (hs _ _ e1)) this,bK g j f⟩
 | @dic a ws ks vs xs A e1 h5 h6 t =>obtain⟨w,g,B,f,i,rfl,o,m⟩:=t.zip e;refine⟨w,B,a::(g++f),.dic e1 h5 (by rw[<- t.len,<- h6,aab]) (by rw[<- h6]at i;simpa using i) e,o,((bK g B f).cons a).trans aaw.symm,λ{S' H' r j} k n hs s h=>?_⟩;have:=m h λq h=>Ow.step k n hs (λa l=>s a (aaj _ (aan.mpr (q a l)))) h;rw[bx i]at this;exact⟨_,.dic ((s a aag).trans e1) h5 h6 this,((bK g j f).cons a).trans aaw.symm⟩
 | @obj a dx c fs ns vs xs A e1 e2 h5 h6 t =>
  obtain⟨w,g,B,f,i,rfl,o,m⟩:=t.zip e;have F:∀B:List Addr,(a::dx::(g++(B++f))).Perm (B++(a::dx::(g++f))):=λB=>by refine (((bK g B f).cons dx).cons a).trans ?_;exact ((aaw ).symm.cons a).trans aaw.symm
  refine⟨w,B,a::dx::(g++f),.obj e1 h5 (by rw[<- t.len,<- h6,aab]) (by rw[<- h6]at i;simpa using i) e,o,F B,λ{S' H' r j} k n hs s h=>?_⟩;have:=m h λq h=>Ow.step k n hs (λa l=>s a (aaj _ (aaj _ (aan.mpr (q a l))))) h;rw[bx i]at this;exact⟨_,.obj ((s a aag).trans e1) ((s dx (aaj _ aag)).trans e2) h5 h6 this,F j⟩
theorem Ow.path:∀{ks:List Nat} {v:V} {x:OD} {A:List Addr} {y:OD},Ow b S H v x A->x.at ks=some y->∃u B f,Chn b H v x ks u y/\Ow b S H u y B/\A.Perm (B++f) /\
  ∀{S':Addr->Prop} {H':Hp} {l:OD} {g:List Addr},Kp S H H'->(∀c,S' c->S c\/H c=none)->(∀a xs,H a=some (.tup xs)->¬ S a)->(∀a∈f,H' a=H a)->Ow b S' H' u l g->∃i,Ow b S' H' v (OD.put l ks x) i/\i.Perm (g++f)
 | [],v,x,A,y,h,e=>by simp only[OD.at]at e;cases e;exact⟨v,A,[],.nil,h,by simp,λ{S' H' l g} _ _ _ _ h=>⟨g,h,by simp⟩⟩
 | k::ks,v,x,A,y,h,e=>by
  simp only[OD.at]at e;cases j:x.kids[k]? with
  | none=>rw[j]at e;cases e
  | some z =>rw[j]at e;simp only at e;obtain⟨w,B,f,F,G,t,N⟩:=h.kid j;obtain⟨u,Q,r,D,J,C,q⟩:=Ow.path G e;refine⟨u,Q,r++f,.cons F D,J,t.trans (by rw[<- aac];exact C.append_right _),λ{S' H' l g} k' n hs s h=>?_⟩;obtain⟨T,O,o⟩:=q k' n hs (λa m=>s a (aaf _ m)) h;obtain⟨P,I,M⟩:=N k' n hs (λa m=>s a (aad _ m)) O;refine⟨P,?_,M.trans (by rw[<- aac];exact o.append_right _)⟩;simp only[OD.put,j];exact I
end
end
section
section
variable{b:Bs}{S S':Addr->Prop}{H H1 H':Hp}{L L':List (V × OD)}{v u:V}{x y:OD}{d:PyData}{ds:List PyData}{p a:Addr}{us:List V}{zs:List OD}{ks:List Nat}
theorem Wd.mutC(w:Wd b H (us.zip zs++((v,x)::L)))(el:us.length=zs.length)(e:x.at ks=some y):∃(S:Addr->Prop) (u:V) (B C:List Addr),Chn b H v x ks u y/\Ow b S H u y B/\Ows b S H us zs C/\(B++C).Nodup/\(∀c∈B,S c)/\(∀c,H c=none->¬ S c)/\(∀c xs,H c=some (.tup xs)->¬ S c)/\FrzIn b S H L /\
  ∀{H':Hp} {Y:OD} {D:List Addr},(∀c,c ∉ B->H' c=H c)->(∀c∈B,∃o,H' c=some o/\MutO o)->D.Nodup->(∀c∈D,c∈B\/c∈C)->(∀S':Addr->Prop,(∀c,S' c->S c)->(∀c∈B,S' c->c∈D)->Ow b S' H' u Y D)->Wd b H' ((v,OD.put Y ks x)::L):=by
 obtain⟨A0,Q,nd,F⟩:=w.out;have N:=w.nt' Q;have al:=λ{a}=>w.al Q (a:=a);obtain⟨C,A1,rfl,hz,h1⟩:=OwL.split' Q;cases h1 with
 | @cons _ _ A _ _ E r t =>
  obtain⟨u,B,G,ch,hy,pB,go⟩:=Ow.path r e;obtain⟨nC,X,m⟩:=aaz.mp nd;obtain⟨nA,nE,l⟩:=aaz.mp X;have T:=pB.nodup_iff.mp nA;obtain⟨nB,O,s⟩:=aaz.mp T;have f:∀c,c∈A ↔ c∈B\/c∈G:=λc=>by rw[pB.mem_iff,aan]
  refine⟨_,u,B,C,ch,hy,OwL.zips el hz,aaz.mpr ⟨nB,nC,λc h I i e=>m I i c (aaf _ ((f c).mpr (.inl h))) e.symm⟩,λc h=>.inl (aad _ (aaf _ ((f c).mpr (.inl h)))),λc e=>al e,N,OwL.frzIn t,λ{H' Y D} hk hm nD sD hO=>?_⟩;have U:Kp (λc=>c∈C++(A++E)\/b.S0 c) H H':=⟨λc o e n=>by
    rw[hk c λz=>n (.inl (aad _ (aaf _ ((f c).mpr (.inl z)))))];exact e,λc e=>by
    by_cases z:c∈B
    ·obtain⟨o,q,_⟩:=hm c z;rw[q]at e;cases e
    ·rw[hk c z]at e;exact e⟩
  have j:∀c,(c∈(D++G)++E\/b.S0 c)->(c∈C++(A++E)\/b.S0 c):=λc z=>z.imp (λz=>by
   rcases aan.mp z with z | z
   ·rcases aan.mp z with z | z
    ·rcases sD c z with z | z
     ·exact aad _ (aaf _ ((f c).mpr (.inl z)))
     ·exact aaf _ z
    ·exact aad _ (aaf _ ((f c).mpr (.inr z)))
   ·exact aad _ (aad _ z)) id
  obtain⟨M,hx,Z⟩:=go U (λc z=>.inl (j c z)) N (λc h=>hk c λz=>s c z c h rfl) (hO _ j λc h z=>by
   rcases z with z | z
   ·rcases aan.mp z with z | z
    ·rcases aan.mp z with z | z
     ·exact z
     ·exact absurd rfl (s c h c z)
    ·exact absurd rfl (l c ((f c).mpr (.inl h)) c z)
   ·exact absurd z (w.dj F c (aad _ (aaf _ ((f c).mpr (.inl h))))))
  have g:∀c,c∈M ↔ c∈D++G:=λc=>Z.mem_iff;have J:∀c xs,H' c=some (.tup xs)->¬ (c∈(D++G)++E\/b.S0 c):=λc xs e z=>by
   by_cases q:c∈B
   ·obtain⟨o,q1,q2⟩:=hm c q;rw[q1]at e;cases e;exact q2
   ·rw[hk c q]at e;exact N c xs e (j c z)
  have W:∀c∈D,∀I∈G,c≠I:=λc h I i e=>by
   subst e;rcases sD c h with z | z
   ·exact s c z c i rfl
   ·exact m c z c (aaf _ ((f c).mpr (.inr i))) rfl
  refine⟨⟨M++E,Ows.cons (Ow.sub J (λc z=>z.imp (λz=>(aan.mp z).elim (λz=>aaf _ ((g c).mp z)) (aad _)) id) hx) (Ows.step U (λc z=>.inl (j c (z.imp (λz=>(aan.mp z).elim (λz=>aaf _ ((g c).mp z)) (aad _)) id))) N (λc h=>hk c λz=>l c ((f c).mpr (.inl z)) c h rfl) t),?_,λc h=>?_⟩,?_,w.s0,λc xs e z=>?_⟩
  ·refine aaz.mpr ⟨Z.nodup_iff.mpr (aaz.mpr ⟨nD,O,W⟩),nE,λc h I i e=>?_⟩;subst e;rcases aan.mp ((g c).mp h) with z | z
   ·rcases sD c z with z | z
    ·exact l c ((f c).mpr (.inl z)) c i rfl
    ·exact m c z c (aad _ i) rfl
   ·exact l c ((f c).mpr (.inr z)) c i rfl
  ·have:c∈C++(A++E)\/b.S0 c:=j c (.inl ((aan.mp h).elim (λz=>aaf _ ((g c).mp z)) (aad _)));have P:c∈C++(A++E):=by
    rcases aan.mp h with z | z
    ·rcases aan.mp ((g c).mp z) with z | z
     ·rcases sD c z with z | z
      ·exact aad _ (aaf _ ((f c).mpr (.inl z)))
      ·exact aaf _ z
     ·exact aad _ (aaf _ ((f c).mpr (.inr z)))
    ·exact aad _ (aad _ z)
   exact F c P
  ·refine⟨λc o e n=>?_,λc e=>w.fr.n c (U.n c e)⟩;rw[hk c λz=>?_]
   ·exact w.fr.k c o e n
   ·rcases F c (aad _ (aaf _ ((f c).mpr (.inl z)))) with q | q
    ·rw[q]at e;cases e
    ·exact n q
  ·exact J c xs e (.inr z)
theorem Wd.mutL(w:Wd b H (us.zip zs++((v,x)::L)))(W:us.length=zs.length)(e:x.at ks=some (.lst xs)):∃a vs,Chn b H v x ks (.ref a) (.lst xs)/\H a=some (.lst vs)/\vs.length=xs.length /\
  ∀f i,(∀(S:Addr->Prop) (H:Hp) (A C:List Addr),(∀c xs,H c=some (.tup xs)->¬ S c)->Ows b S H vs xs A->Ows b S H us zs C->(A++C).Nodup->∃D,Ows b S H f i D/\D.Nodup/\∀c∈D,c∈A\/c∈C)->Wd b (upd H a (.lst f)) ((v,OD.put (.lst i) ks x)::L):=by
 obtain⟨S,u,B,C,X,T,M,Q,P,Y,j,Z,O⟩:=w.mutC W e;cases T with
 | @lst a vs _ A e1 t =>
  refine⟨a,vs,X,e1,t.len,λf i J=>?_⟩;obtain⟨l,r⟩:=aaA.mp (show (a::(A++C)).Nodup from Q);have k:∀c,c≠a->upd H a (.lst f) c=H c:=λc n=>upd_ne n;have I:Kp S H (upd H a (.lst f)):=Kp.put (.inl (P a (by simp)));have F:∀S':Addr->Prop,(∀c,S' c->S c)->∃D,Ows b S' (upd H a (.lst f)) f i D/\D.Nodup/\∀c∈D,c∈A\/c∈C:=λS' h=>by
   refine J S' _ A C (λc xs e z=>?_) (Ows.step I (λc z=>.inl (h c z)) j (λc g=>k c λe=>l (e ▸ aaf _ g)) t) (Ows.step I (λc z=>.inl (h c z)) j (λc g=>k c λe=>l (e ▸ aad _ g)) M) r;by_cases q:c=a
   ·subst q;rw[aB]at e;cases e
   ·rw[upd_ne q]at e;exact j c xs e (h c z)
  obtain⟨D,U,N,G⟩:=F S λ_ z=>z;have s:∀c xs,upd H a (.lst f) c=some (.tup xs)->¬ S c:=λc xs e z=>by
   by_cases q:c=a
   ·subst q;rw[aB]at e;cases e
   ·rw[upd_ne q]at e;exact j c xs e z
  refine O (λc n=>k c λe=>n (by simp[e])) (λc g=>?_) (aaA.mpr ⟨λz=>l (by rcases G a z with z | z<;>simp[z]),N⟩) (λc g=>?_) λS' h _=>.lst aB (Ows.sub s h U)
  ·rcases aaa.mp g with rfl | g
   ·exact⟨_,aB,trivial⟩
   ·obtain⟨o,q,m⟩:=t.mu c g;exact⟨o,by rw[k c λe=>l (e ▸ aaf _ g)];exact q,m⟩
  ·rcases aaa.mp g with rfl | g
   ·exact .inl (by simp)
   ·exact (G c g).imp (aaj _) id
theorem Wd.mutD(w:Wd b H (us.zip zs++((v,x)::L)))(X:us.length=zs.length)(e:x.at ks=some (.dic kk xs)):∃a ws,Chn b H v x ks (.ref a) (.dic kk xs)/\H a=some (.dK ws)/\ws.map (·.1)=kk/\ws.length=xs.length /\
  ∀f h i,f.map (·.1)=h->(∀(S:Addr->Prop) (H:Hp) (A C:List Addr),(∀c xs,H c=some (.tup xs)->¬ S c)->Ows b S H (ws.map (·.2)) xs A->Ows b S H us zs C->(A++C).Nodup->∃D,Ows b S H (f.map (·.2)) i D/\D.Nodup/\∀c∈D,c∈A\/c∈C)->Wd b (upd H a (.dK f)) ((v,OD.put (.dic h i) ks x)::L):=by
 obtain⟨S,u,B,C,Y,U,N,T,Q,Z,r,fi,P⟩:=w.mutC X e;cases U with
 | @dic a ws _ vs _ A e1 h5 h6 t =>
  subst h6;refine⟨a,ws,Y,e1,h5,by have:=t.len;rwa [aab]at this,λf h i G M=>?_⟩;obtain⟨l,s⟩:=aaA.mp (show (a::(A++C)).Nodup from T);have k:∀c,c≠a->upd H a (.dK f) c=H c:=λc n=>upd_ne n;have J:Kp S H (upd H a (.dK f)):=Kp.put (.inl (Q a (by simp)));have j:∀c xs,upd H a (.dK f) c=some (.tup xs)->¬ S c:=λc xs e z=>by
   by_cases q:c=a
   ·subst q;rw[aB]at e;cases e
   ·rw[upd_ne q]at e;exact r c xs e z
  obtain⟨D,W,O,I⟩:=M S _ A C j (Ows.step J (λc z=>.inl z) r (λc g=>k c λe=>l (e ▸ aaf _ g)) t) (Ows.step J (λc z=>.inl z) r (λc g=>k c λe=>l (e ▸ aad _ g)) N) s;refine P (λc n=>k c λe=>n (by simp[e])) (λc g=>?_) (aaA.mpr ⟨λz=>l (by rcases I a z with z | z<;>simp[z]),O⟩) (λc g=>?_) λS' F _=>.dic aB G rfl (Ows.sub j F W)
  ·rcases aaa.mp g with rfl | g
   ·exact⟨_,aB,trivial⟩
   ·obtain⟨o,q,m⟩:=t.mu c g;exact⟨o,by rw[k c λe=>l (e ▸ aaf _ g)];exact q,m⟩
  ·rcases aaa.mp g with rfl | g
   ·exact .inl (by simp)
   ·exact (I c g).imp (aaj _) id
theorem Chd.det(h:Chd b H v x k w z)(h':Chd b H v x k w' z'):w=w'/\z=z':=by
 cases h with
 | lst j m i g=>cases h' with | lst c l e f=>rw[j]at c;cases c;rw[i]at e;cases e;rw[g]at f;cases f;exact⟨rfl,rfl⟩
 | tup j m i g=>cases h' with | tup c l e f=>rw[j]at c;cases c;rw[i]at e;cases e;rw[g]at f;cases f;exact⟨rfl,rfl⟩
 | dic j m n i g=>cases h' with | dic c l o e f=>rw[j]at c;cases c;rw[i]at e;cases e;rw[g]at f;cases f;exact⟨rfl,rfl⟩
 | obj j m n i g=>cases h' with | obj c l o e f=>rw[j]at c;cases c;rw[i]at e;cases e;rw[g]at f;cases f;exact⟨rfl,rfl⟩
theorem Chd.same(h:Chd b H v x k w z)(h':Chd b H v (OD.setKid k y x) k w' y'):w=w':=by
 cases h with
 | lst g j f l=>cases h' with | lst c i e m=>rw[g]at c;cases c;rw[f]at e;cases e;rfl
 | tup g j f l=>cases h' with | tup c i e m=>rw[g]at c;cases c;rw[f]at e;cases e;rfl
 | dic g j n f l=>cases h' with | dic c i o e m=>rw[g]at c;cases c;rw[f]at e;cases e;rfl
 | obj g j n f l=>cases h' with | obj c i o e m=>rw[g]at c;cases c;rw[f]at e;cases e;rfl
theorem Chd.kid(h:Chd b H v x k w z):x.kids[k]?=some z:=by
 cases h with
 | lst _ _ _ e=>exact e
 | tup _ _ _ e=>exact e
 | dic _ _ _ _ e=>exact e
 | obj _ _ _ _ e=>exact e
theorem Chd.set(h:Chd b H v x k w z):(OD.setKid k y x).kids[k]?=some y:=by
 cases h with
 | lst _ _ _ e=>exact aaW (aao.mp e).1
 | tup _ _ _ e=>exact aaW (aao.mp e).1
 | dic _ _ _ _ e=>exact aaW (aao.mp e).1
 | obj _ _ _ _ e=>exact aaW (aao.mp e).1
theorem Wd.frzAt(w:Wd b H ((v,x)::L))(e:x.at ks=some y)(s:y.dat=some d):∃u,Chn b H v x ks u y/\Wd b H ((u,.fz d)::(v,OD.put (.fz d) ks x)::L):=by
 obtain⟨S,u,B,C,m,l,W,nd,Z,al,r,fi,F⟩:=Wd.mutC (us:=[]) (zs:=[]) w rfl e;have n:Wd b H ((v,OD.put (.fz d) ks x)::L):=F (λ_ _=>rfl) (λc i=>l.mu c i) aaQ (λc i=>by cases i) λS' h Q=>.fz (Ow.frz h r (λa D z=>by cases Q a D z) l s);refine⟨u,m,n.add λj I M P=>?_⟩;obtain⟨A1,O⟩:=I (v,OD.put (.fz d) ks x) (by simp);have q:∀{ks:List Nat} {v u:V} {x:OD} {A:List Addr},Chn b H v x ks u y->Ow b j H v (OD.put (.fz d) ks x) A->Fz b.K j H u d:=λ{ks}=>by
  induction ks with
  | nil=>intro v u x A c o;cases c;simp only[OD.put]at o;cases o with | fz f=>exact f
  | cons k ks T =>
   intro v u x A c o;cases c with
   | cons g t =>have U:=g.kid;simp only[OD.put,U]at o;obtain⟨X,B',Y,N,G,_⟩:=o.kid g.set;have J:=g.same N;subst J;exact T t G
 exact q m O
end
end
section
abbrev DSp:=List OD->(OD->List OD->Prop)->Prop
def HE(K:Waa)(S:Addr->Prop)(A:List Addr)(vs:List V)(H:Hp)(Q:VK)(x:OD)(ys:List OD):Prop:=∀v b B,Kp (λa=>a∈A) H b ->
 Ows ⟨K,H,S,λa=>a∈A⟩ (λa=>a∈B\/S a) b (v::vs) (x::ys) B->B.Nodup->(∀a∈B,H a=none\/a∈A)->Q v b
def toSp(K:Waa)(sp:DSp):Sp:=λc H Q _=>∃(S:Addr->Prop) (b:List OD) (A:List Addr),(∀a,S a->H a≠none/\a ∉ A)/\(∀a b,H a=some (.tup b)->¬ S a) /\
 Ows ⟨K,H,S,λa=>a∈A⟩ (λa=>a∈A\/S a) H c b A/\A.Nodup/\sp b (HE K S A c H Q)
def vO(sp:DSp):Prop:=∀b (P R:OD->List OD->Prop),(∀x a,P x a->R x a)->sp b P->sp b R
section
variable{b:Bs}{H H':Hp}{L:List (V × OD)}{v:V}{x:OD}
theorem Wd.call(w:Wd b H (us.zip xs++L))(X:us.length=xs.length)(m:vO sp)
  (h:sp xs λx ys=>us.length=ys.length->∀v H',Wd b H' ((v,x)::(us.zip ys++L))->Q v H'):toSp b.K sp us H Q E:=by
 obtain⟨Z,C,P,f⟩:=w.out;have q:=w.nt' C;have t:=λ{a}=>w.al C (a:=a);obtain⟨A,g,rfl,O,S⟩:=OwL.split' C;obtain⟨W,F,r⟩:=aaz.mp P;have l:=w.dj f;refine⟨λa=>a∈g\/b.S0 a,xs,A,λa z=>⟨λe=>t e (z.imp (aad _) id),λd=>?_⟩,λa xs e z=>q a xs e (z.imp (aad _) id),?_,W,m _ _ _ (λx ys U v H' B s y M D=>?_) h⟩
 ·rcases z with z | z
  ·exact r a d a z rfl
  ·exact l a (aaf _ d) z
 ·refine Ows.subB (b2:=⟨b.K,H,λa=>a∈g\/b.S0 a,λa=>a∈A⟩) (b:=b) rfl q (λc z=>?_) (OwL.zips X O);rcases z with z | z | z
  ·exact .inl (aaf _ z)
  ·exact .inl (aad _ z)
  ·exact .inr z
 have G:us.length=ys.length:=by have:=y.len;simpa using this
 have j:∀a,a ∉ A->H a≠none->H' a=H a:=λa d i=>by
  cases e:H a with
  | none=>exact absurd e i
  | some o=>exact s.k a o e d
 have I:Kp (λa=>a∈A++g\/b.S0 a) H H':=s.weak λc u=>.inl (.inl (aaf _ u));have T:∀c,(c∈B++g\/b.S0 c)->(c∈A++g\/b.S0 c)\/H c=none:=λc z=>by
  rcases z with z | z
  ·rcases aan.mp z with z | z
   ·exact (D c z).elim .inr λz=>.inl (.inl (aaf _ z))
   ·exact .inl (.inl (aad _ z))
  ·exact .inl (.inr z)
 have p:∀a xs,H' a=some (.tup xs)->¬ (a∈B\/a∈g\/b.S0 a):=λa xs e z=>by
  rcases z with z | z
  ·exact y.tl a z xs e
  ·have d:a ∉ A:=λd=>by
    rcases z with z | z
    ·exact r a d a z rfl
    ·exact l a (aaf _ d) z
   have N:H a≠none:=λe=>t e (z.imp (aad _) id);rw[j a d N]at e;exact q a xs e (z.imp (aad _) id)
 have Y:((v,x)::(us.zip ys++L))=((v::us).zip (x::ys))++L:=rfl;refine U G v H' ?_;rw[Y];refine⟨⟨B++g,OwL.join' (OwL.unzips (Ows.subB (b2:=b) (b:=⟨b.K,H,λa=>a∈g\/b.S0 a,λa=>a∈A⟩) rfl p (λc z=>?_) y)) (Ows.step I T q (λa i=>j a (λd=>r a d a i rfl) λe=>t e (.inl (aad _ i))) S),aaz.mpr ⟨M,F,λa i c u e=>?_⟩,λa i=>?_⟩,?_,w.s0,λa xs e z=>p a xs e (.inr (.inr z))⟩
 ·rcases z with z | z
  ·exact (aan.mp z).imp id .inl
  ·exact .inr (.inr z)
 ·subst e;rcases D a i with z | z
  ·exact t z (.inl (aad _ u))
  ·exact r a z a u rfl
 ·rcases aan.mp i with z | z
  ·rcases D a z with z | z
   ·exact .inl (w.newC z)
   ·exact f a (aaf _ z)
  ·exact f a (aad _ z)
 ·refine⟨λc o e J=>s.k c o (w.fr.k c o e J) λd=>?_,λc e=>w.fr.n c (s.n c e)⟩;rcases f c (aaf _ d) with z | z
  ·rw[z]at e;cases e
  ·exact J z
theorem Wd.pin(w:Wd b H ((v,.fz d)::L))(e:d=if l then .list ds else .tuple ds):∃xs,Wd b H ((v,.pin l xs ds)::L):=by
 obtain⟨j,i,h,c⟩:=w.out;cases i with
 | cons r t =>
  cases r with
  | fz r =>
   cases l with
   | true =>subst e;obtain⟨a,xs,rfl,f,g⟩:=r.list_inv;exact⟨xs,⟨⟨_,Ows.cons (.pinL f g) t,h,c⟩,w.fr,w.s0,w.nt⟩⟩
   | false =>subst e;obtain⟨a,xs,rfl,f,g⟩:=r.tup_inv;exact⟨xs,⟨⟨_,Ows.cons (.pinT f g) t,h,c⟩,w.fr,w.s0,w.nt⟩⟩
theorem Wd.pinned(w:Wd b H L)(m:(v,OD.pin l xs ds)∈L):∃a,v=.ref a/\xs.length=ds.length/\(if l then SqL b.K H a xs else SqT b.K H a xs)/\Wd b H (xs.zip (ds.map OD.fz)++L):=by
 obtain⟨A,g,i,e⟩:=w.out;obtain⟨B,h⟩:=OwL.mem g m;have q:Wd b H (xs.zip (ds.map OD.fz)++L):=w.adds λS f=>by
  obtain⟨B,h⟩:=f _ m;cases h with
  | pinL _ t=>exact t
  | pinT _ t=>exact t
 cases h with
 | pinL c d=>exact⟨_,rfl,d.length,c.now,q⟩
 | pinT c d=>exact⟨_,rfl,d.length,c.now,q⟩
end
end
section
abbrev DEnv:=List (Option OD)
def flat:St->DEnv->List (V × OD)
 | some v::σ,some x::ρ=>(v,x)::flat σ ρ
 | _::σ,_::ρ=>flat σ ρ
 | _,_=>[]
def Wf:St->DEnv->Prop
 | [],[]=>True
 | _::σ,none::ρ=>Wf σ ρ
 | some _::σ,some _::ρ=>Wf σ ρ
 | _,_=>False
section
variable{σ:St}{ρ:DEnv}{i:Nat}{x y:OD}{v u:V}
theorem bp:flat (o::σ) (none::ρ)=flat σ ρ:=by cases o<;>rfl
theorem Wf.get:∀{σ:St} {ρ:DEnv} {i:Nat},Wf σ ρ->ρ[i]?=some (some x)->∃v,σ[i]?=some (some v)
 | [],[],_,_,e=>by simp at e
 | [],_::_,_,h,_=>by simp[Wf]at h
 | _::_,[],_,_,e=>by simp at e
 | some v::_,some _::_,0,_,_=>⟨v,rfl⟩
 | none::_,some _::_,_,h,_=>by simp[Wf]at h
 | o::_,none::_,0,_,e=>by simp at e
 | o::σ,none::ρ,i + 1,h,e=>by obtain⟨v,q⟩:=Wf.get (ρ:=ρ) h (by simpa using e);exact⟨v,by simpa using q⟩
 | some _::σ,some _::ρ,i + 1,h,e=>by obtain⟨v,q⟩:=Wf.get (ρ:=ρ) h (by simpa using e);exact⟨v,by simpa using q⟩
theorem Wf.len:∀{σ:St} {ρ:DEnv},Wf σ ρ->σ.length=ρ.length
 | [],[],_=>rfl
 | [],_::_,h=>by simp[Wf]at h
 | _::_,[],h=>by simp[Wf]at h
 | o::σ,none::ρ,h=>by simp[Wf.len (σ:=σ) h]
 | some _::σ,some _::ρ,h=>by simp[Wf.len (ρ:=ρ) h]
 | none::_,some _::_,h=>by simp[Wf]at h
theorem Wf.off:∀{σ:St} {ρ:DEnv} {i:Nat},Wf σ ρ->Wf σ (ρ.set i none)
 | [],[],_,_=>trivial
 | [],_::_,_,h=>by simp[Wf]at h
 | _::_,[],_,h=>by simp[Wf]at h
 | o::σ,none::ρ,0,h=>h
 | some _::σ,some _::ρ,0,h=>h
 | none::_,some _::_,_,h=>by simp[Wf]at h
 | o::σ,none::ρ,i + 1,h=>Wf.off (σ:=σ) h
 | some _::σ,some _::ρ,i + 1,h=>Wf.off (i:=i) h
theorem Wf.put:∀{σ:St} {ρ:DEnv} {i:Nat},Wf σ ρ->Wf (σ.set i (some v)) (ρ.set i (some x))
 | [],[],_,_=>trivial
 | [],_::_,_,h=>by simp[Wf]at h
 | _::_,[],_,h=>by simp[Wf]at h
 | o::σ,none::ρ,0,h=>h
 | some _::σ,some _::ρ,0,h=>h
 | none::_,some _::_,_,h=>by simp[Wf]at h
 | o::σ,none::ρ,i + 1,h=>Wf.put (σ:=σ) h
 | some _::σ,some _::ρ,i + 1,h=>Wf.put (i:=i) h
theorem bt:∀{σ:St} {ρ:DEnv} {i:Nat},ρ[i]?=some (some x)->σ[i]?=some (some v)->(flat σ ρ).Perm ((v,x)::flat σ (ρ.set i none))
 | [],_,_,_,e=>by simp at e
 | _::_,[],_,e,_=>by simp at e
 | some u::σ,some y::ρ,0,e,e'=>by simp at e e';subst e e';exact .refl _
 | none::_,_::_,0,_,e=>by simp at e
 | some _::_,none::_,0,e,_=>by simp at e
 | o::σ,none::ρ,i + 1,e,e'=>by rw[aaE,bp,bp];exact bt (by simpa using e) (by simpa using e')
 | some u::σ,some y::ρ,i + 1,e,e'=>by rw[aaE];exact ((bt (σ:=σ) (by simpa using e) (by simpa using e')).cons _).trans (List.Perm.swap _ _ _)
 | none::σ,some y::ρ,i + 1,e,e'=>by rw[aaE];exact bt (by simpa using e) (by simpa using e')
theorem cB:∀{σ:St} {ρ:DEnv} {i:Nat},i < ρ.length->σ.length=ρ.length->(flat (σ.set i (some v)) (ρ.set i (some x))).Perm ((v,x)::flat σ (ρ.set i none))
 | _,[],_,h,_=>by simp at h
 | [],_::_,_,_,h=>by simp at h
 | o::σ,y::ρ,0,_,_=>by rw[ab4,ab4,ab4,bp];exact .refl _
 | o::σ,none::ρ,i + 1,h,h'=>by rw[aaE,aaE,aaE,bp,bp];exact cB (by simpa using h) (by simpa using h')
 | none::σ,some _::ρ,i + 1,h,h'=>by rw[aaE,aaE,aaE];exact cB (σ:=σ) (by simpa using h) (by simpa using h')
 | some u::σ,some y::ρ,i + 1,h,h'=>by rw[aaE,aaE,aaE];exact ((cB (by simpa using h) (by simpa using h')).cons _).trans (List.Perm.swap _ _ _)
theorem set_self{a:Type}:∀{l:List a} {i:Nat} {x:a},l[i]?=some x->l.set i x=l
 | [],_,_,e=>by simp at e
 | _::_,0,_,e=>by simp at e;subst e;rfl
 | y::l,i + 1,x,e=>by rw[aaE,set_self (by simpa using e)]
end
inductive OR where | val (x:OD) | rf (i:Nat)
def stk:List V->List OR->List (V × OD)
 | v::τ,.val x::θ=>(v,x)::stk τ θ
 | _::τ,.rf _::θ=>stk τ θ
 | _,_=>[]
def Al(σ:St):List V->List OR->Prop
 | [],[]=>True
 | _::τ,.val _::θ=>Al σ τ θ
 | v::τ,.rf i::θ=>σ[i]?=some (some v)/\Al σ τ θ
 | _,_=>False
structure Fr where
 σ:St
 ρ:DEnv
 τ:List V
 θ:List OR
def ff(F:List Fr):List (V × OD):=F.flatMap λf=>stk f.τ f.θ++flat f.σ f.ρ
structure Rel (b:Bs)(F:List Fr)(σ:St)(H:Hp)(ρ:DEnv)(τ:List V)(θ:List OR):Prop where
 wf:Wf σ ρ
 al:Al σ τ θ
 wff:∀f∈F,Wf f.σ f.ρ/\Al f.σ f.τ f.θ
 wd:Wd b H (stk τ θ++(flat σ ρ++ff F))
def au(ρ:DEnv):OR->Option PyData
 | .val x=>x.dat
 | .rf i=>(ρ[i]?.join).bind OD.dat
section
variable{b:Bs}{F:List Fr}{σ:St}{H H':Hp}{ρ ρ':DEnv}{τ vs:List V}{θ rs:List OR}{v u:V}{r:OR}{x y:OD}{d:PyData}{i:Nat}
theorem join_some{a:Type}{o:Option (Option a)}{x:a}(h:o.join=some x):o=some (some x):=by
 cases o with
 | none=>cases h
 | some o=>exact congrArg some h
theorem Al.len:∀{τ:List V} {θ:List OR},Al σ τ θ->τ.length=θ.length
 | [],[],_=>rfl
 | [],_::_,h=>by simp[Al]at h
 | _::_,[],h=>by simp[Al]at h
 | _::τ,.val _::θ,h=>by simp[Al.len (τ:=τ) h]
 | _::τ,.rf _::θ,h=>by simp[Al.len h.2]
theorem aH:∀{vs τ:List V} {rs θ:List OR},vs.length=rs.length->stk (vs++τ) (rs++θ)=stk vs rs++stk τ θ
 | [],_,[],_,_=>rfl
 | _::vs,τ,.val _::rs,θ,e=>by simp only[aaG,stk];rw[aH (by simpa using e)]
 | _::vs,τ,.rf _::rs,θ,e=>by simp only[aaG,stk];exact aH (by simpa using e)
 | [],_,_::_,_,e=>by simp at e
 | _::_,_,[],_,e=>by simp at e
theorem aY:∀{vs τ:List V} {rs θ:List OR},vs.length=rs.length->(Al σ (vs++τ) (rs++θ) ↔ Al σ vs rs/\Al σ τ θ)
 | [],_,[],_,_=>by simp[Al]
 | _::vs,τ,.val _::rs,θ,e=>by simp only[aaG,Al];exact aY (by simpa using e)
 | _::vs,τ,.rf _::rs,θ,e=>by simp only[aaG,Al];rw[aY (by simpa using e),and_assoc]
 | [],_,_::_,_,e=>by simp at e
 | _::_,_,[],_,e=>by simp at e
theorem Rel.rot(R:Rel b F σ H ρ (vs++v::τ) (rs++r::θ))(e:vs.length=rs.length):Rel b F σ H ρ (v::vs++τ) (r::rs++θ):=by
 obtain⟨c,g⟩:=(aY e).mp R.al;have a:Al σ [v] [r]/\Al σ τ θ:=(aY rfl).mp g;refine⟨R.wf,(aY (vs:=[v]) (rs:=[r]) rfl).mpr ⟨a.1,(aY e).mpr ⟨c,a.2⟩⟩,R.wff,R.wd.perm ?_⟩;refine acp _ ?_;have h:stk (v::vs++τ) (r::rs++θ)=stk [v] [r]++(stk vs rs++stk τ θ):=by rw[<- aH e,<- aH rfl];rfl
 have f:stk (vs++v::τ) (rs++r::θ)=stk vs rs++(stk [v] [r]++stk τ θ):=by rw[aH e,<- aH (rs:=[r]) rfl];rfl
 rw[h,f,<- aac,<- aac];exact aa1.append_right _
theorem Rel.tor(R:Rel b F σ H ρ (v::vs++τ) (r::rs++θ))(e:vs.length=rs.length):Rel b F σ H ρ (vs++v::τ) (rs++r::θ):=by
 obtain⟨a,h⟩:=(aY (vs:=[v]) (rs:=[r]) rfl).mp R.al;obtain⟨g,f⟩:=(aY e).mp h;refine⟨R.wf,(aY e).mpr ⟨g,(aY rfl).mpr ⟨a,f⟩⟩,R.wff,R.wd.perm ?_⟩;refine acp _ ?_;have j:stk (v::vs++τ) (r::rs++θ)=stk [v] [r]++(stk vs rs++stk τ θ):=by rw[<- aH e,<- aH rfl];rfl
 have c:stk (vs++v::τ) (rs++r::θ)=stk vs rs++(stk [v] [r]++stk τ θ):=by rw[aH e,<- aH (rs:=[r]) rfl];rfl
 rw[j,c,<- aac,<- aac];exact aa1.append_right _
theorem Rel.drop(R:Rel b F σ H ρ (v::τ) (r::θ)):Rel b F σ H ρ τ θ:=by
 cases r with
 | val x=>exact⟨R.wf,R.al,R.wff,R.wd.drop⟩
 | rf i=>exact⟨R.wf,R.al.2,R.wff,R.wd⟩
theorem Rel.drops(R:Rel b F σ H ρ (vs++τ) (rs++θ))(e:vs.length=rs.length):Rel b F σ H ρ τ θ:=by
 induction vs generalizing rs with
 | nil=>cases rs with
  | nil=>exact R
  | cons _ _=>simp at e
 | cons v vs a=>cases rs with
  | nil=>simp at e
  | cons r rs=>exact a (Rel.drop R) (by simpa using e)
theorem Rel.sc(R:Rel b F σ H ρ τ θ)(h:Sc v d):Rel b F σ H ρ (v::τ) (.val (.fz d)::θ):=⟨R.wf,R.al,R.wff,R.wd.sc h⟩
theorem Rel.slot(R:Rel b F σ H ρ τ θ)(e:ρ[i]?=some (some x)):∃v,σ[i]?=some (some v)/\Wd b H ((v,x)::(stk τ θ++(flat σ (ρ.set i none)++ff F))):=by obtain⟨v,a⟩:=R.wf.get e;refine⟨v,a,R.wd.perm ?_⟩;refine ((bt e a).append_right _ |>.append_left _).trans ?_;exact aaw
theorem Rel.unslot(c:Wf σ ρ)(g:Al (σ.set i (some v)) τ θ)(a:∀f∈F,Wf f.σ f.ρ/\Al f.σ f.τ f.θ)(e:i < ρ.length)(w:Wd b H ((v,x)::(stk τ θ++(flat σ (ρ.set i none)++ff F)))):Rel b F (σ.set i (some v)) H (ρ.set i (some x)) τ θ:=by refine⟨c.put,g,a,w.perm ?_⟩;refine (aaw.symm).trans ?_;exact ((cB e c.len).symm.append_right _).append_left _
theorem Rel.back(c:Wf σ ρ)(h:Al σ τ θ)(a:∀f∈F,Wf f.σ f.ρ/\Al f.σ f.τ f.θ)(ev:σ[i]?=some (some v))(w:Wd b H ((v,x)::(stk τ θ++(flat σ (ρ.set i none)++ff F)))):Rel b F σ H (ρ.set i (some x)) τ θ:=by
 have g:i < ρ.length:=by rw[<- c.len];exact (aao.mp ev).1
 have e:σ.set i (some v)=σ:=set_self ev;have:=Rel.unslot c (by rw[e];exact h) a g w;rw[e]at this;exact this
theorem Rel.dt(R:Rel b F σ H ρ (v::τ) (r::θ))(e:au ρ r=some d):Dt b.K H v d:=by
 cases r with
 | val x=>exact R.wd.memDt (by simp[stk]) e
 | rf i =>
  simp only[au,aaM]at e;obtain⟨x,f,a⟩:=e;obtain⟨u,c,w⟩:=R.drop.slot (join_some f);have:v=u:=by have:=R.al.1;rw[c]at this;cases this;rfl
  subst this;exact w.memDt (aag) a
theorem Rel.dt2(R:Rel b F σ H ρ (u::v::τ) (a::r::θ))(e:au ρ r=some d):Dt b.K H v d:=(R.drop).dt e
theorem Rel.frzS(R:Rel b F σ H ρ τ θ)(e:ρ[i]?=some (some x))(a:x.dat=some d):Rel b F σ H (ρ.set i (some (.fz d))) τ θ:=by obtain⟨v,c,w⟩:=R.slot e;exact Rel.back R.wf R.al R.wff c (w.frz a)
theorem Rel.dupS(R:Rel b F σ H ρ τ θ)(e:ρ[i]?=some (some (.fz d)))(ev:σ[i]?=some (some v)):Rel b F σ H ρ (v::τ) (.val (.fz d)::θ):=by obtain⟨u,a,w⟩:=R.slot e;rw[ev]at a;cases a;have c:=w.dup;have f:ρ.set i (some (.fz d))=ρ:=set_self e;have:=Rel.back (i:=i) (τ:=v::τ) (θ:=.val (.fz d)::θ) R.wf R.al R.wff ev (c.perm (List.Perm.swap _ _ _));rw[f]at this;exact this
def frz1(ρ:DEnv):OR->Option (PyData × DEnv)
 | .val x=>x.dat.map (·,ρ)
 | .rf i=>(ρ[i]?.join).bind λx=>x.dat.map λd=>(d,ρ.set i (some (.fz d)))
theorem Rel.frz1(R:Rel b F σ H ρ (v::τ) (r::θ))(e:frz1 ρ r=some (d,ρ')):Rel b F σ H ρ' (v::τ) (.val (.fz d)::θ):=by
 cases r with
 | val x =>simp only[L2.frz1,aaL]at e;obtain⟨f,a,c⟩:=e;cases c;exact⟨R.wf,R.al,R.wff,R.wd.frz a⟩
 | rf i =>simp only[L2.frz1,aaM,aaL]at e;obtain⟨x,a,f,c,h⟩:=e;cases h;have g:i < ρ.length:=(aao.mp (join_some a)).1;exact (R.drop.frzS (join_some a) c).dupS (by rw[aaW g]) R.al.1
def frzL(ρ:DEnv):List OR->Option (List PyData × DEnv)
 | []=>some ([],ρ)
 | r::rs=>(L2.frz1 ρ r).bind λz=>(frzL z.2 rs).map λy=>(z.1::y.1,y.2)
theorem jw:∀{vs:List V} {rs:List OR} {ρ ρ':DEnv} {ds:List PyData} {τ:List V} {θ:List OR},Rel b F σ H ρ (vs++τ) (rs++θ)->vs.length=rs.length->L2.frzL ρ rs=some (ds,ρ')->Rel b F σ H ρ' (vs++τ) (ds.map (λd=>OR.val (.fz d))++θ)/\vs.length=ds.length
 | [],[],_,_,_,_,_,R,_,e=>by simp only[L2.frzL]at e;cases e;exact⟨R,rfl⟩
 | v::vs,r::rs,ρ,ρ',ds,τ,θ,R,e,h=>by
  simp only[L2.frzL,aaM,aaL]at h;obtain⟨⟨d,ρ1⟩,g,⟨k,ρ2⟩,j,m⟩:=h;cases m;have l:Rel b F σ H ρ1 (v::(vs++τ)) (.val (.fz d)::(rs++θ)):=Rel.frz1 R g;have c:vs.length=rs.length:=by simpa using e
  obtain⟨f,a⟩:=jw (Rel.tor l c) c j;exact⟨Rel.rot f (by rw[a,aab]),by simp[a]⟩
 | [],_::_,_,_,_,_,_,_,e,_=>by simp at e
 | _::_,[],_,_,_,_,_,_,e,_=>by simp at e
end
end
section
section
variable{X:Cx}
def CU(K:Waa):R2:=λx y H Q=>∃l b a c,x=.ref l/\y=.ref b/\SqL K H l a/\SqL K H b c/\a.length + c.length<=sizeLine/\∀p,H p=none->Q (.ref p) (upd H p (.lst (a++c)))
theorem vP:OpR X (binaryOp .Add) (CU X.K):=by
 intro k s W H x y v u Q I L w h;obtain⟨l,b,P,T,rfl,rfl,z,D,M,q⟩:=h;cases L;cases w;obtain⟨d,r,⟨⟨c,A,S,J⟩,n,e,t,_,o⟩,_⟩:=I.list z;obtain⟨a,m,⟨⟨N,i,C,j⟩,G,p,f,_,g⟩,_⟩:=I.list D;have U:=r.length;have O:=m.length;simp only at t o f g;subst t o f g;refine concat_meets ⟨_,e,rfl⟩ ⟨_,p,rfl⟩ noFill_list_add seq_list_add PySem.F.slot_list_add PySem.F.entry_list_add (PySem.F.args_list_add_2 _ _) (list_addW l b d.toArray a.toArray n G A i J j (by rw[aar,aar];omega)) ⟨e,p,?_⟩;have B:d.toArray++a.toArray=(d++a).toArray:=by simp
 rw[B];exact⟨.ref _,_,I.lnew (r.append m) (by rw[aai];omega),rfl,q _ I.fresh⟩
end
abbrev DK:=OR->DEnv->Prop
abbrev DE:=DEnv->DK->Prop
abbrev DT:=DEnv->(Bool->DEnv->Prop)->Prop
abbrev DA:=DEnv->(List OR->DEnv->Prop)->Prop
abbrev DR2:=PyData->PyData->(PyData->Prop)->Prop
abbrev DR1:=PyData->(PyData->Prop)->Prop
abbrev DRn:=List PyData->(PyData->Prop)->Prop
def cS(K:Waa)(i:TE)(h:DE):Prop:=∀(b:Bs) (F:List Fr) (c:St) (H:Hp) (f:DEnv) (d:List V) (e:List OR) (Qd:DK) (Q:VK),b.K=K->Rel b F c H f d e->h f Qd->(∀v g r a,Rel b F c g a (v::d) (r::e)->Qd r a->Q v g)->i c H Q
def SndT(K:Waa)(i:TT)(h:DT):Prop:=∀(b:Bs) (F:List Fr) (c:St) (H:Hp) (f:DEnv) (d:List V) (e:List OR) (Qd:Bool->DEnv->Prop) (Q:Bool->Hp->Prop),b.K=K->Rel b F c H f d e->h f Qd->(∀k g a,Rel b F c g a d e->Qd k a->Q k g)->i c H Q
def z7(K:Waa)(k:TA)(j:DA):Prop:=∀(b:Bs) (F:List Fr) (e:St) (H:Hp) (h:DEnv) (f:List V) (g:List OR) (Qd:List OR->DEnv->Prop) (Q:List V->Hp->Prop),b.K=K->Rel b F e H h f g->j h Qd->(∀c i d a,c.length=d.length->Rel b F e i a (c++f) (d++g)->Qd d a->Q c i)->k e H Q
inductive PDe (X:Cx)(e:Expr)(de:DE):Prop | mk (te:TE) (h:PE X e te) (s:cS X.K te de)
inductive PDt (X:Cx)(e:Expr)(de:DT):Prop | mk (te:TT) (h:PT X e te) (s:SndT X.K te de)
inductive PDw (X:Cx)(e:Expr)(de:DT):Prop | mk (te:TT) (h:PW X e te) (s:SndT X.K te de)
inductive PDa (X:Cx)(es:List Expr)(de:DA):Prop | mk (te:TA) (h:PA X es te) (s:z7 X.K te de)
section
variable{X:Cx}{K:Waa}{a b c e:Expr}{es:List Expr}{da db dc:DE}{pos:Pos}{x:Str}{i:Nat}
def dVar(i:Nat):DE:=λf Q=>match f[i]?.join with
 | some (.fz d)=>Q (.val (.fz d)) f
 | some _=>Q (.rf i) f
 | none=>False
theorem vQ:cS K (tVar i) (dVar i):=by
 intro b F k H g m o n Q p R h q;unfold dVar at h;cases e:g[i]?.join with
 | none=>rw[e]at h;exact h.elim
 | some x =>
  rw[e]at h;have l:=join_some e;obtain⟨v,j⟩:=R.wf.get l;have f:n (.rf i) g->tVar i k H Q:=λh=>⟨v,j,q v H (.rf i) g ⟨R.wf,show Al k (v::m) (.rf i::o) from ⟨j,R.al⟩,R.wff,R.wd⟩ h⟩
  cases x with
  | fz d=>exact⟨v,j,q v H _ g (R.dupS l j) h⟩
  | _=>exact f h
theorem z8 (g:X.N[i]?=some x) (f:Vis X.env.scope x) (h:(x == ("__debug__":Str))=false:=by decide) (d:(x == ("__classdict__":Str))=false:=by decide):PDe X (.Name x pos) (dVar i):=⟨_,bN g f h d,vQ⟩
def dC(d:PyData):DE:=λf Q=>Q (.val (.fz d)) f
theorem ny(h:Sc v d):cS K (tC v) (dC d):=λb F n H g k m j Q l R f q=>q v H _ g (R.sc h) f
theorem pd_int{i j pos}:PDe X (.Constant (.int i) j pos) (dC (.int i)):=⟨_,fK,ny (.int i)⟩
theorem pd_bl{k j pos}:PDe X (.Constant (.bool k) j pos) (dC (.bool k)):=⟨_,BZ,ny (.bl k)⟩
theorem pd_non{j pos}:PDe X (.Constant .none j pos) (dC .none):=⟨_,y3,ny .non⟩
theorem pd_str{x j pos}:PDe X (.Constant (.str x) j pos) (dC (.str x)):=⟨_,qO,ny (.str x)⟩
theorem Rel.addK{b:Bs}(R:Rel b F σ H ρ τ θ)(h:∀S H,Fz b.K S H v d):Rel b F σ H ρ (v::τ) (.val (.fz d)::θ):=⟨R.wf,R.al,R.wff,R.wd.add λS _ _ _=>h S H⟩
theorem rT (h:Gl X x) (g:X.mg x=some u) (r:RelV v u) (s:∀S H,Fz X.K S H v d) (f:(x == ("__debug__":Str))=false:=by decide):PDe X (.Name x pos) (dC d) :=
 ⟨_,vc h g r f,λb F o H k m n l Q j R f q=>q v H _ k (R.addK (by rw[j];exact s)) f⟩
def SndR2(K:Waa)(h:R2)(r:DR2):Prop:=∀(H:Hp) (v u:V) (f g:PyData) (Qd:PyData->Prop) (Q:VK),Dt K H v f->Dt K H u g->r f g Qd->(∀w d,Sc w d->Qd d->Q w H)->h v u H Q
def iS(r:DR2)(a b:DE):DE:=λk Q=>a k λx g=>b g λy f=>∃j h,au f x=some j/\au f y=some h/\r j h λd=>Q (.val (.fz d)) f
theorem l5(A:SndR2 K r2 r)(t:cS K ta da)(o:cS K tb db):cS K (Ci r2 ta tb) (iS r da db):=by intro b F l H D z N P Q f R h q;refine t b F l H D z N _ _ f R h λv n x j I B=>o b F l n j _ _ _ _ f I B λu k y M g G=>?_;obtain⟨C,L,O,p,J⟩:=G;exact A k v u C L _ _ (f ▸ g.dt2 O) (f ▸ g.dt p) J λw d s m=>q w k _ _ (g.drop.drop.sc s) m
theorem CV(f:OpR X (binaryOp op) r2)(d:SndR2 X.K r2 r):PDe X a da->PDe X b db->PDe X (.BinOp a op b pos) (iS r da db)
 | ⟨_,h1,s1⟩,⟨_,h2,s2⟩=>⟨_,rg f h1 h2,l5 d s1 s2⟩
def dI(C:Int->Int->Prop)(g:Int->Int->PyData):DR2:=λx y Q=>∃i j,x=.int i/\y=.int j/\C i j/\Q (g i j)
def yk(g:Int->Int->PyData):DR2:=λx y Q=>∃i j,x=.int i/\y=.int j/\Q (g i j)
theorem vR(h:∀i j,Sc (g i j) (g' i j)):SndR2 K (rI C g) (dI C g'):=by rintro H v u n l m Q d k ⟨i,j,rfl,rfl,c,f⟩ q;cases d;cases k;exact⟨i,j,rfl,rfl,c,q _ _ (h i j) f⟩
theorem rV(h:∀i j,Sc (g i j) (g' i j)):SndR2 K (uW g) (yk g'):=by rintro H v u n l m Q d k ⟨i,j,rfl,rfl,f⟩ q;cases d;cases k;exact⟨i,j,rfl,rfl,q _ _ (h i j) f⟩
abbrev Jl:DE->DE->DE:=iS (yk λi j=>.int (i + j))
abbrev Jm:DE->DE->DE:=iS (yk λi j=>.int (i - j))
abbrev Jn:DE->DE->DE:=iS (dI CMul λi j=>.int (i * j))
abbrev HF:DE->DE->DE:=iS (dI Cm λi j=>.int (i / j))
abbrev Jo:DE->DE->DE:=iS (dI (λ_ j=>0 < j) λi j=>.int (i % j))
abbrev Jp:DE->DE->DE:=iS (dI Cn λi j=>.int (i ^ j.toNat))
theorem z9(g:OpR X (compareOp op) r2)(d:SndR2 X.K r2 r)(f:behindInMarks op b=false):PDe X a da->PDe X b db->PDe X (.Compare a [op] [b] pos) (iS r da db)
 | ⟨_,h1,s1⟩,⟨_,h2,s2⟩=>⟨_,vp g h1 h2 f,l5 d s1 s2⟩
abbrev JX:DR2:=yk λi j=>.bool (decide (i < j))
abbrev JY:DR2:=yk λi j=>.bool (decide (i<=j))
abbrev JZ:DR2:=yk λi j=>.bool (decide (j < i))
abbrev J0:DR2:=yk λi j=>.bool (decide (j<=i))
theorem vS{g:Int->Int->Bool}:SndR2 K (uW λi j=>.bl (g i j)) (yk λi j=>.bool (g i j)):=rV λ_ _=>.bl _
def pY:PyData->PyData->Option Bool
 | .int i,.int j=>some (decide (i=j))
 | .bool i,.bool j=>some (decide (i=j))
 | .str i,.str j=>some (decide (i=j))
 | .none,.none=>some true
 | .none,.int _=>some false | .int _,.none=>some false | .none,.str _=>some false | .str _,.none=>some false
 | .int _,.str _=>some false | .str _,.int _=>some false
 | _,_=>none
theorem nz(d:Dt K H v dx)(f:Dt K H u dy)(e:pY dx dy=some k):zA v u=true/\decide (v=u)=k:=by cases d<;>cases f<;>cases e<;>refine⟨rfl,?_⟩<;>simp
def dEqS:DR2:=λx y Q=>∃k,pY x y=some k/\Q (.bool k)
def dNeS:DR2:=λx y Q=>∃k,pY x y=some k/\Q (.bool (!k))
theorem sr_eq:SndR2 K rEq dEqS:=by rintro H v u n l m Q d h ⟨k,e,g⟩ q;obtain⟨f,j⟩:=nz d h e;exact⟨f,by rw[j];exact q _ _ (.bl k) g⟩
theorem sr_ne:SndR2 K rNe dNeS:=by rintro H v u n l m Q d h ⟨k,e,g⟩ q;obtain⟨f,j⟩:=nz d h e;exact⟨f,by rw[j];exact q _ _ (.bl _) g⟩
def dEqD:DR2:=λx y Q=>SeqAt.shaped x=true/\SeqAt.shaped y=true/\Q (.bool (PyData.eqv x y))
def dNeD:DR2:=λx y Q=>SeqAt.shaped x=true/\SeqAt.shaped y=true/\Q (.bool (!PyData.eqv x y))
theorem Aa:SndR2 K (CI K) dEqD:=λH v u k g m Q d l ⟨h,f,j⟩ q=>⟨k,g,d,l,h,f,q _ _ (.bl _) j⟩
theorem Ab:SndR2 K (CJ K) dNeD:=λH v u k g m Q d l ⟨h,f,j⟩ q=>⟨k,g,d,l,h,f,q _ _ (.bl _) j⟩
def CW:PyData->PyData->Option Bool
 | .int i,.int j=>some (decide (i=j))
 | .str i,.str j=>some (decide (i=j))
 | .none,.none=>some true
 | .int _,.str _=>some false | .str _,.int _=>some false | .none,.int _=>some false | .int _,.none=>some false | .none,.str _=>some false | .str _,.none=>some false
 | _,_=>none
def memD(x:PyData):List PyData->Option Bool
 | []=>some false
 | y::ys=>(CW y x).bind λk=>(memD x ys).map (k || ·)
def BR:PyData->Bool
 | .int _=>true
 | .str _=>true
 | .none=>true
 | _=>false
def Jq(f:Bool):DR2:=λx y Q=>∃d k,(y=.list d\/y=.tuple d)/\BR x=true/\memD x d=some k/\Q (.bool (if f then !k else k))
theorem vT{x y:PyData}(d:Dt K H v x)(f:Dt K H w y)(e:CW y x=some k):cj w=true/\eqV w v=k:=by cases d<;>cases f<;>cases e<;>exact⟨rfl,rfl⟩
theorem Ac{x:PyData}(d:Dt K H v x)(f:BR x=true):cj v=true:=by cases d<;>first | rfl | cases f
theorem nF{x:PyData}(f:Dt K H v x)(n:BR x=true)(h:DtAll K H vs ds)(e:memD x ds=some k):cj v=true/\vs.all cj=true/\inV v vs=k:=by
 induction ds generalizing vs k with
 | nil=>cases h;cases e;exact⟨Ac f n,rfl,rfl⟩
 | cons d ds q =>
  cases h with
  | @cons w _ vs _ r t =>
   obtain⟨u,p,e⟩:=aaM.mp e;obtain⟨y,j,rfl⟩:=aaL.mp e;obtain⟨o,s,m⟩:=q t j;obtain⟨g,l⟩:=vT f r p;refine⟨o,?_,?_⟩
   ·show (cj w && vs.all cj)=true;rw[g,s];rfl
   ·show (eqV w v || inV v vs)=_;rw[l,m]
theorem yl:SndR2 K (FQ K neg) (Jq neg):=by
 rintro H v u r s w Q j o ⟨y,k,p,n,l,m⟩ q;rcases p with rfl | rfl
 ·cases o with
  | lst h t =>obtain⟨d,f,g⟩:=nF j n t l;exact⟨_,_,rfl,.inl h,d,f,by rw[g];exact q _ _ (.bl _) m⟩
 ·cases o with
  | tup h t =>obtain⟨d,f,g⟩:=nF j n t l;exact⟨_,_,rfl,.inr h,d,f,by rw[g];exact q _ _ (.bl _) m⟩
def F5(r o:DR2)(da db dc:DE):DE:=λn Q=>da n λx j=>db j λy f=>∃l h,au f x=some l/\au f y=some h/\r l h λz=>∃k,z=.bool k /\
 if k=true then dc f λw g=>∃h m,au g y=some h/\au g w=some m/\o h m λd=>Q (.val (.fz d)) g else Q (.val (.fz (.bool false))) f
def isNn:PyData->Bool | .none=>true | _=>false
def pZ(g:Bool)(a:DE):DE:=λh Q=>a h λx f=>∃d,au f x=some d/\Q (.val (.fz (.bool (if g then !isNn d else isNn d)))) f
theorem gy(h:Dt K H v d):decide (v=.non)=isNn d:=by cases h<;>simp[isNn]
theorem Ad{j pos'}:PDe X a da->PDe X (.Compare a [.Is] [.Constant .none j pos'] pos) (pZ false da)
 | ⟨_,f,s1⟩=>⟨_,jh (qP f),λb F σ H ρ τ θ m Q l R h q=>s1 b F σ H ρ τ θ _ _ l R h λv k x ρ1 g ⟨d,e,f⟩=>by
  rw[gy (g.dt e)];exact q _ k _ _ (g.drop.sc (.bl _)) f⟩
theorem vU{j pos'}:PDe X a da->PDe X (.Compare a [.IsNot] [.Constant .none j pos'] pos) (pZ true da)
 | ⟨_,f,s1⟩=>⟨_,jh (m7 f),λb F σ H ρ τ θ m Q l R h q=>s1 b F σ H ρ τ θ _ _ l R h λv k x ρ1 g ⟨d,e,f⟩=>by
  rw[gy (g.dt e)];exact q _ k _ _ (g.drop.sc (.bl _)) f⟩
def HG(K:Waa)(r1:V->Hp->VK->Prop)(r:DR1):Prop:=∀(H:Hp) (v:V) (f:PyData) (Qd:PyData->Prop) (Q:VK),Dt K H v f->r f Qd->(∀w d,Sc w d->Qd d->Q w H)->r1 v H Q
def Jr(r:DR1)(a:DE):DE:=λg Q=>a g λx f=>∃d,au f x=some d/\r d λz=>Q (.val (.fz z)) f
def F6:DR1:=λx Q=>∃i,x=.int i/\Q (.int (-i))
theorem Ae:PDe X a da->PDe X (.UnaryOp .USub a pos) (Jr F6 da)
 | ⟨_,f,s1⟩=>⟨_,yc rh f,λb F σ H ρ τ θ m Q l R h q=>s1 b F σ H ρ τ θ _ _ l R h λv j x ρ1 g ⟨d,e,i,k,f⟩=>by
  subst k;cases g.dt e;exact⟨i,rfl,q _ j _ _ (g.drop.sc (.int _)) f⟩⟩
def CY(a b:DE):DE:=λf Q=>a f λx d=>∃k,au d x=some (.bool k)/\if k=true then b d Q else Q (.val (.fz (.bool false))) d
def F7(a b:DE):DE:=λf Q=>a f λx d=>∃k,au d x=some (.bool k)/\if k=true then Q (.val (.fz (.bool true))) d else b d Q
def CZ(a:DE):DE:=λf Q=>a f λx d=>∃k,au d x=some (.bool k)/\Q (.val (.fz (.bool (!k)))) d
theorem rW{d}:PDe X a da->PDe X (.BoolOp d [a] pos) da
 | ⟨_,h1,s1⟩=>⟨_,y9 h1,s1⟩
theorem Af:PDe X a da->PDe X (.BoolOp .And (b::es) pos) db->PDe X (.BoolOp .And (a::b::es) pos) (CY da db)
 | ⟨_,d,s1⟩,⟨_,h2,s2⟩=>⟨_,zd d h2,λb F σ H ρ τ θ l Q j R h q=>s1 b F σ H ρ τ θ _ _ j R h λv g x ρ1 f ⟨k,e,d⟩=>by
  cases f.dt e;refine⟨k,rfl,?_⟩;cases k with
  | false=>rw[if_neg aae]at d ⊢;exact q _ g _ _ (f.drop.sc (.bl _)) d
  | true=>rw[if_pos rfl]at d ⊢;exact s2 b F σ g ρ1 τ θ _ _ j f.drop d q⟩
theorem C0:PDe X a da->PDe X (.BoolOp .Or (b::es) pos) db->PDe X (.BoolOp .Or (a::b::es) pos) (F7 da db)
 | ⟨_,d,s1⟩,⟨_,h2,s2⟩=>⟨_,B7 d h2,λb F σ H ρ τ θ l Q j R h q=>s1 b F σ H ρ τ θ _ _ j R h λv g x ρ1 f ⟨k,e,d⟩=>by
  cases f.dt e;refine⟨k,rfl,?_⟩;cases k with
  | true=>rw[if_pos rfl]at d ⊢;exact q _ g _ _ (f.drop.sc (.bl _)) d
  | false=>rw[if_neg aae]at d ⊢;exact s2 b F σ g ρ1 τ θ _ _ j f.drop d q⟩
theorem Ag:PDe X a da->PDe X (.UnaryOp .Not a pos) (CZ da)
 | ⟨_,d,s1⟩=>⟨_,ze d,λb F σ H ρ τ θ l Q j R h q=>s1 b F σ H ρ τ θ _ _ j R h λv g x ρ1 f ⟨k,e,d⟩=>by
  cases f.dt e;exact⟨k,rfl,q _ g _ _ (f.drop.sc (.bl _)) d⟩⟩
def gT(a:DE):DT:=λf Q=>a f λx d=>∃k,au d x=some (.bool k)/\Q k d
theorem rX(j:cS K ta da):SndT K (yd ta) (gT da):=λb F p H n l r s Q o R h q=>j b F p H n l r _ _ o R h λv g x f d ⟨k,e,m⟩=>by cases d.dt e;exact⟨k,rfl,q _ g _ d.drop m⟩
theorem l6(j:cS K ta da):SndT K (tB ta) (gT da):=λb F p H n l r s Q o R h q=>j b F p H n l r _ _ o R h λv g x f d ⟨k,e,m⟩=>by cases d.dt e;exact⟨k,rfl,q _ g _ d.drop m⟩
theorem vV(g:OpR X (compareOp op) r2)(d:SndR2 X.K r2 r)(f:behindInMarks op b=false):PDe X a da->PDe X b db->PDt X (.Compare a [op] [b] pos) (gT (iS r da db))
 | ⟨_,h1,s1⟩,⟨_,h2,s2⟩=>⟨_,vq g h1 h2 f,rX (l5 d s1 s2)⟩
theorem vW{j pos'}:PDe X a da->PDt X (.Compare a [.Is] [.Constant .none j pos'] pos) (gT (pZ false da))
 | ⟨_,f,s1⟩=>⟨_,ji (qP f),l6 (λb F σ H ρ τ θ m Q l R h q=>s1 b F σ H ρ τ θ _ _ l R h λv k x ρ1 g ⟨d,e,f⟩=>by
  rw[gy (g.dt e)];exact q _ k _ _ (g.drop.sc (.bl _)) f)⟩
theorem rY{j pos'}:PDe X a da->PDt X (.Compare a [.IsNot] [.Constant .none j pos'] pos) (gT (pZ true da))
 | ⟨_,f,s1⟩=>⟨_,ji (m7 f),l6 (λb F σ H ρ τ θ m Q l R h q=>s1 b F σ H ρ τ θ _ _ l R h λv k x ρ1 g ⟨d,e,f⟩=>by
  rw[gy (g.dt e)];exact q _ k _ _ (g.drop.sc (.bl _)) f)⟩
def C1(t u:DT):DT:=λf Q=>t f λc d=>if c=true then u d Q else Q false d
def F8(t u:DT):DT:=λf Q=>t f λc d=>if c=true then Q true d else u d Q
def C2(t:DT):DT:=λf Q=>t f λc d=>Q (!c) d
variable{dt du:DT}
theorem PDw.pt:PDw X e dt->PDt X e dt
 | ⟨_,h,s⟩=>⟨_,h.pt,s⟩
theorem rZ:PDt X a dt->PDw X (.BoolOp .And [a] pos) dt
 | ⟨_,h,s⟩=>⟨_,vf h,s⟩
theorem vX:PDt X a dt->PDw X (.BoolOp .Or [a] pos) dt
 | ⟨_,h,s⟩=>⟨_,y4 h,s⟩
theorem vY:PDt X a dt->PDw X (.BoolOp .And (b::es) pos) du->PDw X (.BoolOp .And (a::b::es) pos) (C1 dt du)
 | ⟨_,d,s1⟩,⟨_,h2,s2⟩=>⟨_,y6 d h2,λb F σ H ρ τ θ l Q j R h q=>s1 b F σ H ρ τ θ _ _ j R h λk f ρ1 g d=>by
  cases k with
  | false=>rw[if_neg aae]at d ⊢;exact q _ f _ g d
  | true=>rw[if_pos rfl]at d ⊢;exact s2 b F σ f ρ1 τ θ _ _ j g d q⟩
theorem Ah:PDt X a dt->PDw X (.BoolOp .Or (b::es) pos) du->PDw X (.BoolOp .Or (a::b::es) pos) (F8 dt du)
 | ⟨_,d,s1⟩,⟨_,h2,s2⟩=>⟨_,B4 d h2,λb F σ H ρ τ θ l Q j R h q=>s1 b F σ H ρ τ θ _ _ j R h λk f ρ1 g d=>by
  cases k with
  | true=>rw[if_pos rfl]at d ⊢;exact q _ f _ g d
  | false=>rw[if_neg aae]at d ⊢;exact s2 b F σ f ρ1 τ θ _ _ j g d q⟩
theorem vZ:PDt X a dt->PDt X (.UnaryOp .Not a pos) (C2 dt)
 | ⟨_,h,s⟩=>⟨_,y8 h,λb F σ H ρ τ θ l Q g R h q=>s b F σ H ρ τ θ _ _ g R h λk f ρ1 d j=>q _ f _ d j⟩
def Js(t:DT)(a b:DE):DE:=λf Q=>t f λc d=>if c=true then a d Q else b d Q
theorem C3:PDt X c dt->PDe X a da->PDe X b db->PDe X (.IfExp c a b pos) (Js dt da db)
 | ⟨_,h,s⟩,⟨_,d,s1⟩,⟨_,h2,s2⟩=>⟨_,qQ h d h2,λb F σ H ρ τ θ l Q f R h q=>s b F σ H ρ τ θ _ _ f R h λk j ρ1 g d=>by
  cases k with
  | true=>rw[if_pos rfl]at d ⊢;exact s1 b F σ j ρ1 τ θ _ _ f g d q
  | false=>rw[if_neg aae]at d ⊢;exact s2 b F σ j ρ1 τ θ _ _ f g d q⟩
def F9:PyData->Option Bool
 | .list ds=>some (!ds.isEmpty)
 | .tuple ds=>some (!ds.isEmpty)
 | .bool k=>some k
 | _=>none
def Jt(a:DE):DT:=λg Q=>a g λx f=>∃d k,au f x=some d/\F9 d=some k/\Q k f
theorem DtAll.emp(h:DtAll K H xs ds):xs.isEmpty=ds.isEmpty:=by cases h<;>rfl
end
end
section
section
variable{X:Cx}{K:Waa}{a b c e:Expr}{es:List Expr}{da db dc:DE}{dt:DA}{pos:Pos}{x:Str}
def dNil:DA:=λd Q=>Q [] d
def C4(a:DE)(t:DA):DA:=λh Q=>a h λx d=>t d λg f=>Q (x::g) f
theorem pda_nil:PDa X [] dNil:=⟨_,cz,λb F k H d g j f Q i R h q=>q [] H [] d rfl R h⟩
theorem r6(y:starEach (e::es) X.env=(false,eval e X.env)::starEach es X.env:=by rfl):PDe X e da->PDa X es dt->PDa X (e::es) (C4 da dt)
 | ⟨_,f,s1⟩,⟨_,g,s2⟩=>⟨_,be f g y,λb F k H t s z A Q j R h q=>s1 b F k H t s z _ _ j R h λv p r d u f=>s2 b F k p d _ _ _ _ j u f λw m o i l n g =>
  q (v::w) m (r::o) i (by simp[l]) (Rel.rot n l) g⟩
end
def own1(ρ:DEnv):OR->Option (OD × DEnv)
 | .val x=>some (x,ρ)
 | .rf i=>(frz1 ρ (.rf i)).map λz=>(.fz z.1,z.2)
def mv1(ρ:DEnv):OR->Option (OD × DEnv)
 | .val x=>some (x,ρ)
 | .rf i=>(ρ[i]?.join).map λx=>(x,ρ.set i none)
def mapR(f:DEnv->OR->Option (OD × DEnv))(ρ:DEnv):List OR->Option (List OD × DEnv)
 | []=>some ([],ρ)
 | r::rs=>(f ρ r).bind λz=>(mapR f z.2 rs).map λy=>(z.1::y.1,y.2)
def p0:List OD->Option (List PyData)
 | []=>some []
 | .fz d::xs=>match p0 xs with | some ds=>some (d::ds) | none=>none
 | _::_=>none
def mkTup(xs:List OD):OD:=match p0 xs with
 | some a=>.fz (.tuple a)
 | none=>.tup xs
section
variable{b:Bs}{F:List Fr}{σ:St}{H H':Hp}{ρ ρ':DEnv}{τ vs:List V}{θ rs:List OR}{v u:V}{r:OR}{x y:OD}{d:PyData}{ds:List PyData}{i:Nat}{L:List (V × OD)}{p:Addr}
theorem Rel.own1(R:Rel b F σ H ρ (v::τ) (r::θ))(e:own1 ρ r=some (x,ρ')):Rel b F σ H ρ' (v::τ) (.val x::θ):=by
 cases r with
 | val x=>simp only[L2.own1]at e;cases e;exact R
 | rf i =>simp only[L2.own1,aaL]at e;obtain⟨⟨d,a⟩,f,c⟩:=e;cases c;exact R.frz1 f
theorem Rel.mv1(R:Rel b F σ H ρ (v::τ) (r::θ))(e:mv1 ρ r=some (x,ρ')):Rel b F σ H ρ' (v::τ) (.val x::θ):=by
 cases r with
 | val x=>simp only[L2.mv1]at e;cases e;exact R
 | rf i =>
  simp only[L2.mv1,aaL]at e;obtain⟨x,f,a⟩:=e;cases a;obtain⟨u,c,w⟩:=R.drop.slot (join_some f);have:v=u:=by have:=R.al.1;rw[c]at this;cases this;rfl
  subst this;exact⟨R.wf.off,R.drop.al,R.wff,w⟩
theorem eO{f:DEnv->OR->Option (OD × DEnv)}(a:∀{ρ ρ':DEnv} {τ:List V} {θ:List OR} {v:V} {r:OR} {x:OD},Rel b F σ H ρ (v::τ) (r::θ)->f ρ r=some (x,ρ')->Rel b F σ H ρ' (v::τ) (.val x::θ)) :
  ∀{vs:List V} {rs:List OR} {ρ ρ':DEnv} {xs:List OD} {τ:List V} {θ:List OR},Rel b F σ H ρ (vs++τ) (rs++θ)->vs.length=rs.length->mapR f ρ rs=some (xs,ρ')->Rel b F σ H ρ' (vs++τ) (xs.map OR.val++θ)/\vs.length=xs.length
 | [],[],_,_,_,_,_,R,_,e=>by simp only[mapR]at e;cases e;exact⟨R,rfl⟩
 | v::vs,r::rs,ρ,ρ',ds,τ,θ,R,e,h=>by
  simp only[mapR,aaM,aaL]at h;obtain⟨⟨d,ρ1⟩,k,⟨m,ρ2⟩,l,o⟩:=h;cases o;have n:Rel b F σ H ρ1 (v::(vs++τ)) (.val d::(rs++θ)):=a R k;have g:vs.length=rs.length:=by simpa using e
  obtain⟨j,c⟩:=eO a (Rel.tor (vs:=vs) (rs:=rs) n g) g l;exact⟨Rel.rot j (by rw[c,aab]),by simp[c]⟩
 | [],_::_,_,_,_,_,_,_,e,_=>by simp at e
 | _::_,[],_,_,_,_,_,_,e,_=>by simp at e
theorem cW:∀{vs:List V} {xs:List OD},vs.length=xs.length->stk vs (xs.map OR.val)=vs.zip xs
 | [],[],_=>rfl
 | _::_,_::_,e=>by simp only[aal,stk,abo];rw[cW (by simpa using e)]
 | [],_::_,e=>by simp at e
 | _::_,[],e=>by simp at e
theorem Rel.vals{xs:List OD}(R:Rel b F σ H ρ (vs++τ) (xs.map OR.val++θ))(e:vs.length=xs.length):Wd b H (vs.zip xs++(stk τ θ++(flat σ ρ++ff F))):=by have w:=R.wd;rw[aH (by rw[aab];exact e),cW e,aac]at w;exact w
theorem Rel.push(R:Rel b F σ H ρ τ θ)(w:Wd b H' ((v,x)::(stk τ θ++(flat σ ρ++ff F)))):Rel b F σ H' ρ (v::τ) (.val x::θ):=⟨R.wf,R.al,R.wff,w⟩
theorem Wd.below{z:V × OD}{L1 L2:List (V × OD)}(w:Wd b H (z::(L1++L2))):Wd b H (z::L2):=Wd.drops (L1:=L1) (w.perm (aaw.symm))
theorem fzL_map{xs:List OD}{ds:List PyData}(e:p0 xs=some ds):xs=ds.map OD.fz:=by
 induction xs generalizing ds with
 | nil=>cases e;rfl
 | cons x xs a =>
  cases x with
  | fz d =>
   rw[p0]at e;cases h:p0 xs with
   | none=>rw[h]at e;cases e
   | some ds=>rw[h]at e;cases e;rw[a h];rfl
  | _=>cases e
theorem jx:∀(ds:List PyData),p0 (ds.map OD.fz)=some ds
 | []=>rfl
 | d::ds=>by simp only[aal,p0,jx ds]
theorem dats_fz:∀(ds:List PyData),OD.dats (ds.map OD.fz)=some ds
 | []=>rfl
 | d::ds=>by simp only[aal,OD.dats,OD.dat,dats_fz ds]
theorem sd{xs:List OD}(w:Wd b H (vs.zip xs++L))(c:vs.length=xs.length)(a:H p=none):Wd b (upd H p (.tup vs)) ((.ref p,mkTup xs)::L):=by
 unfold mkTup;cases h:p0 xs with
 | some ds =>have e:=fzL_map h;subst e;refine Wd.below (L1:=vs.zip (ds.map OD.fz)) (w.newTup (λS f=>f.all (by simpa using c) λz g=>aaf _ g) a)
 | none=>exact w.newTupC c a
end
section
variable{X:Cx}{K:Waa}{a b c e:Expr}{es:List Expr}{da db dc:DE}{dt:DA}{pos:Pos}{x:Str}
def Ga(f:DEnv->OR->Option (OD × DEnv))(t:DA):DE:=λj Q=>t j λi g=>∃h d,mapR f g i=some (h,d)/\i.length<=1000000/\Q (.val (mkTup h)) d
def Gb(f:DEnv->OR->Option (OD × DEnv))(t:DA):DE:=λj Q=>t j λi g=>∃h d,mapR f g i=some (h,d)/\i.length<=1000000/\Q (.val (.lst h)) d
structure Hand (f:DEnv->OR->Option (OD × DEnv)):Prop where
 ok:∀{b:Bs} {F:List Fr} {σ:St} {H:Hp} {ρ ρ':DEnv} {τ:List V} {θ:List OR} {v:V} {r:OR} {x:OD},Rel b F σ H ρ (v::τ) (r::θ)->f ρ r=some (x,ρ')->Rel b F σ H ρ' (v::τ) (.val x::θ)
theorem C5:Hand own1:=⟨Rel.own1⟩
variable{f:DEnv->OR->Option (OD × DEnv)}
theorem Ai{l}(k:Hand f):PDa X es dt->PDe X (.Tuple es l pos) (Ga f dt)
 | ⟨_,g,s1⟩=>⟨_,rp g,λb F σ H ρ τ θ u Q o R h q=>s1 b F σ H ρ τ θ _ _ o R h λvs t rs ρ1 j n ⟨xs,ρ2,s,m,g⟩=>⟨lT (by rw[j];exact m),λp r=>by
  obtain⟨i,d⟩:=eO k.ok n j s;exact q _ _ _ _ ((i.drops (by rw[aab];exact d)).push (sd (i.vals d) d r)) g⟩⟩
theorem Aj(k:Hand f):PDa X es dt->PDe X (.List es pos) (Gb f dt)
 | ⟨_,g,s1⟩=>⟨_,zE g,λb F σ H ρ τ θ t Q n R h q=>s1 b F σ H ρ τ θ _ _ n R h λvs s rs ρ1 j m ⟨xs,ρ2,r,l,g⟩=>⟨lT (by rw[j];exact l),λp o=>by
  obtain⟨i,d⟩:=eO k.ok m j r;exact q _ _ _ _ ((i.drops (by rw[aab];exact d)).push ((i.vals d).newLst d o)) g⟩⟩
end
def cN(ρ:DEnv):OR->Option OD
 | .val x=>some x
 | .rf i=>ρ[i]?.join
def listOf:OD->Option (List PyData)
 | .fz (.list ds)=>some ds
 | .lst xs=>p0 xs
 | _=>none
def tupOf:OD->Option (List PyData)
 | .fz (.tuple ds)=>some ds
 | _=>none
def l7(ρ:DEnv)(r:OR):Option (List PyData):=(cN ρ r).bind listOf
def C6(ρ:DEnv)(r:OR):Option (List PyData):=(cN ρ r).bind tupOf
def itemO:OD->Int->Option OD
 | .fz (.list ds),i=>match atI ds i with | some d=>some (.fz d) | none=>none
 | .fz (.tuple ds),i=>match atI ds i with | some d=>some (.fz d) | none=>none
 | .lst xs,i=>atI xs i
 | .tup xs,i=>atI xs i
 | _,_=>none
def itemS:OD->Int->Option (PyData × OD)
 | .lst xs,i=>match ixN xs.length i with
  | some k=>match xs[k]? with
   | some c=>match c.dat with | some d=>some (d,.lst (xs.set k (.fz d))) | none=>none
   | none=>none
  | none=>none
 | .tup xs,i=>match ixN xs.length i with
  | some k=>match xs[k]? with
   | some c=>match c.dat with | some d=>some (d,.tup (xs.set k (.fz d))) | none=>none
   | none=>none
  | none=>none
 | _,_=>none
def bo(ρ:DEnv)(r:OR)(i:Int):Option (OD × DEnv):=match r with
 | .val x=>match itemO x i with | some y=>some (y,ρ) | none=>none
 | .rf j=>match ρ[j]?.join with
  | some x=>match itemS x i with | some (d,y)=>some (.fz d,ρ.set j (some y)) | none=>none
  | none=>none
section
variable{b:Bs}{F:List Fr}{σ:St}{H H':Hp}{ρ ρ':DEnv}{τ vs:List V}{θ rs:List OR}{v u:V}{r r':OR}{x y:OD}{d:PyData}{ds:List PyData}{i:Nat}{L:List (V × OD)}{p:Addr}
theorem gU{g c:Type}{xs:List g}{ys:List c}{i:Int}{y:c}(f:xs.length=ys.length)(h:atI ys i=some y):∃k x,ixN xs.length i=some k/\ys[k]?=some y/\xs[k]?=some x/\atI xs i=some x:=by unfold atI at h ⊢;rw[<- f]at h;simp only[aaM]at h;obtain⟨k,e,a⟩:=h;have j:k < ys.length:=(aao.mp a).1;refine⟨k,xs[k]'(by omega),e,a,aak _,?_⟩;rw[e];exact aak _
theorem cI{a c:Type}{xs:List a}{ys:List c}{k:Nat}{x:a}{y:c}(f:xs[k]?=some x)(e:ys[k]?=some y):(x,y)∈xs.zip ys:=by rw[List.mem_iff_getElem?];exact⟨k,by rw[abG];exact⟨f,e⟩⟩
theorem Wd.pick{z:V × OD}{Z:List (V × OD)}(w:Wd b H (Z++L))(m:z∈Z):Wd b H (z::L):=by obtain⟨a,c,rfl⟩:=ab5 m;refine Wd.below (L1:=a++c) (w.perm ?_);rw[aac,aac];exact aaw
theorem se{n k:Nat}{i:Int}(h:ixN n i=some k):k < n:=by
 unfold ixN at h;split at h
 ·split at h
  ·cases h;omega
  ·cases h
 ·split at h
  ·cases h;omega
  ·cases h
theorem Wd.takeKid{k:Nat}{z:OD}(w:Wd b H ((v,x)::L))(e:x.kids[k]?=some z):∃u,Chd b H v x k u z/\Wd b H ((u,z)::L):=by
 obtain⟨G,j,_,_⟩:=w.out;cases j with
 | cons r t =>obtain⟨u,B,n,c,_⟩:=r.kid e;refine⟨u,c,Wd.puts (L1:=[(v,x)]) (L2:=[(u,z)]) w λS A h o C I g=>?_⟩;obtain⟨l,B,n,q,s,f,_⟩:=(OwL.one h).kid e;have m:l=u:=(Chd.det q c).1;subst m;have a:∀c∈B,c∈A:=λc D=>f.mem_iff.mpr (aaf _ D);exact⟨B,OwL.of1 (Ow.sub g (λc z=>z.elim (·.1) λz=>C c (a c z)) s),(aaz.mp (f.nodup_iff.mp o)).1,a⟩
theorem Fz.at{K:Waa}{S:Addr->Prop}{vs:List V}{ds:List PyData}{k:Nat}{v:V}{d:PyData}(h:FzA K S H vs ds)(e:vs[k]?=some v)(c:ds[k]?=some d):Fz K S H v d:=by obtain⟨u,a,f⟩:=h.get c;rw[e]at a;cases a;exact f
theorem Wd.itemF{i:Int}{l:Bool}(w:Wd b H ((v,.fz (if l then .list ds else .tuple ds))::L))(e:atI ds i=some d):∃p vs u,v=.ref p/\(SqL b.K H p vs\/SqT b.K H p vs)/\atI vs i=some u/\Wd b H ((u,.fz d)::L):=by
 obtain⟨c,n⟩:=Wd.pin w rfl;obtain⟨a,rfl,m,h,j⟩:=n.pinned aag;obtain⟨k,u,_,f,o,g⟩:=gU m e;refine⟨a,c,u,rfl,?_,g,Wd.below (L1:=[(V.ref a,OD.pin l c ds)]) (j.pick (cI o (by rw[aax,f];rfl)))⟩;cases l with
 | true=>exact .inl h
 | false=>exact .inr h
theorem Wd.itemO{i:Int}(w:Wd b H ((v,x)::L))(e:itemO x i=some y):∃p vs u,v=.ref p/\(SqL b.K H p vs\/SqT b.K H p vs)/\atI vs i=some u/\Wd b H ((u,y)::L):=by
 cases x with
 | fz d =>
  cases d with
  | list ds =>
   simp only[L2.itemO]at e;cases h:atI ds i with
   | none=>rw[h]at e;cases e
   | some d=>rw[h]at e;cases e;exact Wd.itemF (l:=true) w h
  | tuple ds =>
   simp only[L2.itemO]at e;cases h:atI ds i with
   | none=>rw[h]at e;cases e
   | some d=>rw[h]at e;cases e;exact Wd.itemF (l:=false) w h
  | _=>simp[L2.itemO]at e
 | lst xs =>
  simp only[L2.itemO]at e;obtain⟨k,_,n,g,_⟩:=gU (xs:=xs) rfl e;obtain⟨u,c,f⟩:=w.takeKid (k:=k) (z:=y) g;cases c with
  | lst j a m o=>exact⟨_,_,u,rfl,.inl (SqL.of j),by unfold atI;rw[a,n];exact m,f⟩
 | tup xs =>
  simp only[L2.itemO]at e;obtain⟨k,_,n,g,_⟩:=gU (xs:=xs) rfl e;obtain⟨u,c,f⟩:=w.takeKid (k:=k) (z:=y) g;cases c with
  | tup j a m o=>exact⟨_,_,u,rfl,.inr (SqT.of j),by unfold atI;rw[a,n];exact m,f⟩
 | dic _ _=>simp[L2.itemO]at e
 | obj _ _ _=>simp[L2.itemO]at e
 | pin _ _ _=>simp[L2.itemO]at e
 | hole _=>simp[L2.itemO]at e
theorem Wd.itemS{i:Int}(w:Wd b H ((v,x)::L))(e:itemS x i=some (d,y)):∃p vs u,v=.ref p/\(SqL b.K H p vs\/SqT b.K H p vs)/\atI vs i=some u/\Wd b H ((u,.fz d)::(v,y)::L):=by
 cases x with
 | fz d=>simp[L2.itemS]at e
 | lst z =>
  simp only[L2.itemS]at e;split at e
  ·rename_i k q;split at e
   ·rename_i c f;split at e
    ·rename_i s j;cases e;obtain⟨u,o,a⟩:=w.frzAt (ks:=[k]) (y:=c) (d:=d) (by simp[OD.at,OD.kids,f]) j;cases o with
     | cons l h =>
      cases h;cases l with
      | lst m g n t =>simp only[OD.put,OD.kids,f,OD.setKid]at a;exact⟨_,_,u,rfl,.inl (SqL.of m),by unfold atI;rw[g,q];exact n,a⟩
    ·cases e
   ·cases e
  ·cases e
 | tup z =>
  simp only[L2.itemS]at e;split at e
  ·rename_i k q;split at e
   ·rename_i c f;split at e
    ·rename_i s j;cases e;obtain⟨u,o,a⟩:=w.frzAt (ks:=[k]) (y:=c) (d:=d) (by simp[OD.at,OD.kids,f]) j;cases o with
     | cons l h =>
      cases h;cases l with
      | tup m g n t =>simp only[OD.put,OD.kids,f,OD.setKid]at a;exact⟨_,_,u,rfl,.inr (SqT.of m),by unfold atI;rw[g,q];exact n,a⟩
    ·cases e
   ·cases e
  ·cases e
 | dic _ _=>simp[L2.itemS]at e
 | obj _ _ _=>simp[L2.itemS]at e
 | pin _ _ _=>simp[L2.itemS]at e
 | hole _=>simp[L2.itemS]at e
end
section
variable{X:Cx}{K:Waa}{a b c e:Expr}{es:List Expr}{da db dc:DE}{dt:DA}{pos:Pos}{x:Str}
def Ju(a b:DE):DE:=λh Q=>a h λx g=>b g λy f=>∃i z d,au f y=some (.int i)/\bo f x i=some (z,d)/\Q (.val z) d
theorem C7(f:PlainIx b):PDe X a da->PDe X b db->PDe X (.Subscript a b pos) (Ju da db)
 | ⟨_,B,s1⟩,⟨_,r,s2⟩=>⟨_,yf rz B r f,λb F σ H ρ τ θ T Q s R h q=>s1 b F σ H ρ τ θ _ _ s R h λv J x ρ1 M B=>s2 b F σ J ρ1 _ _ _ _ s M B λu t y ρ2 C ⟨i,z,ρ3,P,g,r⟩=>by
  have S:=C.dt P;cases S;have k:=C.drop;cases x with
  | val x =>
   simp only[bo]at g;cases l:itemO x i with
   | none=>rw[l]at g;cases g
   | some D =>rw[l]at g;cases g;obtain⟨p,n,u,rfl,f,m,w⟩:=Wd.itemO k.wd l;have o:=q u t _ _ (k.drop.push w) r;rw[s]at f;exact f.elim (λf=>.inl ⟨p,n,i,u,rfl,rfl,f,m,o⟩) λf=>.inr (.inl ⟨p,n,i,u,rfl,rfl,f,m,o⟩)
  | rf j =>
   simp only[bo]at g;cases l:ρ2[j]?.join with
   | none=>rw[l]at g;cases g
   | some x =>
    rw[l]at g;simp only at g;cases A:itemS x i with
    | none=>rw[A]at g;cases g
    | some D =>
     obtain⟨d,O⟩:=D;rw[A]at g;cases g;obtain⟨L,G,w⟩:=k.drop.slot (join_some l);have:v=L:=by have:=k.al.1;rw[G]at this;cases this;rfl
     subst this;obtain⟨p,n,u,rfl,f,m,I⟩:=Wd.itemS w A;have N:Rel b F σ t (ρ2.set j (some O)) (u::τ) (.val (.fz d)::θ):=Rel.back (τ:=u::τ) (θ:=.val (.fz d)::θ) k.wf k.drop.al k.wff G (I.perm (List.Perm.swap _ _ _));have o:=q u t _ _ N r;rw[s]at f;exact f.elim (λf=>.inl ⟨p,n,i,u,rfl,rfl,f,m,o⟩) λf=>.inr (.inl ⟨p,n,i,u,rfl,rfl,f,m,o⟩)⟩
variable{k:Nat}{f:Addr}{fd:FuncData}{ps:List Str}{sp:DSp}{p:Pos}
def J1:PyData->Bool
 | .none=>true | .bool _=>true | .int _=>true | .str _=>true
 | _=>false
def cX(ρ:DEnv):List OR->Option (List PyData)
 | []=>some []
 | r::rs=>(au ρ r).bind λd=>(cX ρ rs).map (d::·)
theorem Rel.dtL{b:Bs}{F:List Fr}{σ:St}{H:Hp}{ρ:DEnv}:∀{vs:List V} {rs:List OR} {τ:List V} {θ:List OR} {ds:List PyData},Rel b F σ H ρ (vs++τ) (rs++θ)->vs.length=rs.length->cX ρ rs=some ds->DtAll b.K H vs ds
 | [],[],_,_,_,_,_,e=>by simp only[cX]at e;cases e;exact .nil
 | v::vs,r::rs,τ,θ,ds,R,el,e=>by simp only[cX,aaM,aaL]at e;obtain⟨d,i,g,h,rfl⟩:=e;exact .cons (Rel.dt R i) (Rel.dtL (Rel.drop R) (by simpa using el) h)
 | [],_::_,_,_,_,_,e,_=>by simp at e
 | _::_,[],_,_,_,_,e,_=>by simp at e
def SndCB(K:Waa)(h:List V->Hp->VK->Prop)(r:DRn):Prop:=∀(H:Hp) (vs:List V) (g:List PyData) (Qd:PyData->Prop) (Q:VK),DtAll K H vs g->r g Qd->(∀w d,Sc w d->Qd d->Q w H)->h vs H Q
def Fb(r:DRn)(t:DA):DE:=λj Q=>t j λi g=>∃h,cX g i=some h/\r h λd=>Q (.val (.fz d)) g
theorem sf{g:List V->Hp->VK->Prop}{r:DRn}{l:TA}(y:SndCB K g r)(t:z7 K l dt):cS K (FO g l) (Fb r dt):=λb F C H A v D L Q m R h q=>t b F C H A v D _ _ m R h λB i J o n j ⟨G,I,z⟩ =>
 y i B G _ _ (m ▸ j.dtL n I) z λw d u s=>q w i _ _ ((j.drops n).sc u) s
theorem cY {h:List V->Hp->VK->Prop} {r:DRn} {i:String} (o:CallR X (.builtin i) h) (m:SndCB X.K h r) (q:Gl X x) (n:X.mg x=none) (j:bootBuiltins x=some (.builtin i)) (s:x≠"__name__":=by decide) (d:(x == ("__debug__":Str))=false:=by decide)
  (l:starEach (e::es) X.env=(false,eval e X.env)::starEach es X.env:=by rfl) (g:(backTo pos (starEach es X.env)).any (·.1)=false:=by rfl):PDa X (e::es) dt->PDe X (.Call (.Name x p) (e::es) [] pos) (Fb r dt)
 | ⟨_,h1,s1⟩=>⟨_,eK o q n j h1 s d l g,sf m s1⟩
theorem si {h:List V->Hp->VK->Prop} {r:DRn} {i:String} (o:CallR X (.type i) h) (m:SndCB X.K h r) (q:Gl X x) (n:X.mg x=none) (j:bootBuiltins x=some (.type i)) (s:x≠"__name__":=by decide) (d:(x == ("__debug__":Str))=false:=by decide)
  (l:starEach (e::es) X.env=(false,eval e X.env)::starEach es X.env:=by rfl) (g:(backTo pos (starEach es X.env)).any (·.1)=false:=by rfl):PDa X (e::es) dt->PDe X (.Call (.Name x p) (e::es) [] pos) (Fb r dt)
 | ⟨_,h1,s1⟩=>⟨_,fM o q n j h1 s d l g,sf m s1⟩
def jy:PyData->Option Nat
 | .list ds=>some ds.length
 | .tuple ds=>some ds.length
 | _=>none
def dLen:DRn:=λg Q=>∃d n,g=[d]/\jy d=some n/\Q (.int n)
theorem sc_len:SndCB K (λxs H Q=>∃x n,xs=[x]/\Cw K x H n/\Q (.int n) H) dLen:=by
 rintro H j m l Q g ⟨d,n,rfl,e,i⟩ q;cases g with
 | cons h t =>
  cases t;refine⟨_,n,rfl,?_,q _ _ (.int _) i⟩;cases h with
  | lst s t=>simp only[jy]at e;cases e;exact .inl ⟨_,s,t.length.symm⟩
  | tup s t=>simp only[jy]at e;cases e;exact .inr ⟨_,s,t.length.symm⟩
  | _=>simp[jy]at e
def dAbs:DRn:=λd Q=>∃i,d=[.int i]/\Q (.int (if i < 0 then -i else i))
theorem sc_abs:SndCB K (λxs H Q=>∃i,xs=[.int i]/\Q (.int (if i < 0 then -i else i)) H) dAbs:=by rintro H j m l Q d ⟨i,rfl,g⟩ q;cases d with | cons h t=>cases t;cases h;exact⟨i,rfl,q _ _ (.int _) g⟩
def dMax:DRn:=λd Q=>∃i j,d=[.int i,.int j]/\Q (.int (if j > i then j else i))
theorem sc_max:SndCB K (λxs H Q=>∃i j,xs=[.int i,.int j]/\Q (.int (if j > i then j else i)) H) dMax:=by rintro H m o n Q g ⟨i,j,rfl,l⟩ q;cases g with | cons h t=>cases t with | cons d t=>cases t;cases h;cases d;exact⟨i,j,rfl,q _ _ (.int _) l⟩
def dMin:DRn:=λd Q=>∃i j,d=[.int i,.int j]/\Q (.int (if j < i then j else i))
theorem sc_min:SndCB K (λxs H Q=>∃i j,xs=[.int i,.int j]/\Q (.int (if j < i then j else i)) H) dMin:=by rintro H m o n Q g ⟨i,j,rfl,l⟩ q;cases g with | cons h t=>cases t with | cons d t=>cases t;cases h;cases d;exact⟨i,j,rfl,q _ _ (.int _) l⟩
def toInt:PyData->Option Int
 | .int i=>some i
 | .bool k=>some (if k then 1 else 0)
 | _=>none
def dInt:DRn:=λg Q=>∃d i,g=[d]/\toInt d=some i/\Q (.int i)
theorem sc_int:SndCB K (λxs H Q=>(∃i,xs=[.int i]/\Q (.int i) H)\/∃k,xs=[.bl k]/\Q (.int (if k then 1 else 0)) H) dInt:=by
 rintro H m o n Q l ⟨d,i,rfl,e,g⟩ q;cases l with
 | cons h t =>
  cases t;cases h with
  | int j=>simp only[toInt]at e;cases e;exact .inl ⟨_,rfl,q _ _ (.int _) g⟩
  | bl k=>simp only[toInt]at e;cases e;exact .inr ⟨_,rfl,q _ _ (.int _) g⟩
  | _=>simp[toInt]at e
def allB:List PyData->Option (List Bool)
 | []=>some []
 | .bool k::ds=>(allB ds).map (k::·)
 | _::_=>none
theorem kH:∀{ds:List PyData} {d:List Bool},allB ds=some d->ds=d.map PyData.bool
 | [],_,e=>by simp only[allB]at e;cases e;rfl
 | .bool k::ds,_,e=>by simp only[allB,aaL]at e;obtain⟨d,g,rfl⟩:=e;rw[kH g];rfl
 | .none::_,_,e=>by simp[allB]at e
 | .int _::_,_,e=>by simp[allB]at e
 | .str _::_,_,e=>by simp[allB]at e
 | .list _::_,_,e=>by simp[allB]at e
 | .tuple _::_,_,e=>by simp[allB]at e
 | .dict _::_,_,e=>by simp[allB]at e
theorem DtAll.bls{H:Hp}{vs:List V}{d:List Bool}(h:DtAll K H vs (d.map PyData.bool)):vs=d.map V.bl:=by
 induction d generalizing vs with
 | nil=>cases h;rfl
 | cons n i g=>cases h with | cons r t=>cases r;rw[aal,g t]
def dAll:DRn:=λg Q=>∃es d,g=[.list es]/\allB es=some d/\Q (.bool (d.all id))
theorem sc_all:SndCB K (λxs H Q=>∃(p:Addr) (d:List Bool),xs=[.ref p]/\SqL K H p (d.map V.bl)/\Q (.bl (d.all id)) H) dAll:=by
 rintro H j m l Q g ⟨es,d,rfl,e,i⟩ q;have:=kH e;subst this;cases g with
 | cons h t =>
  cases t;cases h with
  | lst s t=>rw[t.bls]at s;exact⟨_,d,rfl,s,q _ _ (.bl _) i⟩
def Jv:PyData->String
 | .none=>"NoneType" | .bool _=>"bool" | .int _=>"int" | .str _=>"str" | .list _=>"list" | .tuple _=>"tuple" | .dict _=>"dict"
theorem Dt.ty{H:Hp}{v:V}{d:PyData}(h:Dt K H v d):Ty K H v (Jv d):=by
 cases h with
 | non=>exact .non
 | bl b=>exact .bl b
 | int i=>exact .int i
 | str x=>exact .str x
 | lst s _=>exact .lst s
 | tup s _=>exact .tup s
def Jw(n T:String):Option Bool:=if n=T then some true else match n,T with
 | "bool","int"=>some true
 | _,_=>if n∈["NoneType","bool","int","str","list","tuple"]/\T∈["bool","int","str","list","tuple"] then some false else none
end
end
section
def seqOf(x:OD):Option (List PyData):=match listOf x with
 | some a=>some a
 | none=>tupOf x
section
variable{b:Bs}{F:List Fr}{σ:St}{H H':Hp}{ρ ρ':DEnv}{τ vs:List V}{θ rs:List OR}{v u:V}{r r':OR}{x y:OD}{d:PyData}{ds:List PyData}{i:Nat}{L:List (V × OD)}{p:Addr}
theorem Rel.mem(R:Rel b F σ H ρ (v::τ) (r::θ))(e:cN ρ r=some x):(v,x)∈stk (v::τ) (r::θ)++(flat σ ρ++ff F):=by
 cases r with
 | val y=>simp only[cN]at e;cases e;simp[stk]
 | rf i =>simp only[cN]at e;refine aad _ (aaf _ ?_);exact (bt (join_some e) R.al.1).mem_iff.mpr aag
theorem Rel.mem1(R:Rel b F σ H ρ (u::v::τ) (r'::r::θ))(e:cN ρ r=some x):(v,x)∈stk (u::v::τ) (r'::r::θ)++(flat σ ρ++ff F):=by
 have h:=R.drop.mem e;cases r' with
 | val y=>simp only[stk];exact aaj _ h
 | rf i=>exact h
theorem Rel.drop2(R:Rel b F σ H ρ (u::v::τ) (r'::r::θ)):Rel b F σ H ρ (u::τ) (r'::θ):=(Rel.rot (vs:=[u]) (rs:=[r']) R rfl).drop
theorem Ows.fzs(h:Ows b S H vs (ds.map OD.fz) A):FzA b.K S H vs ds:=by
 induction ds generalizing vs A with
 | nil=>cases h;exact .nil
 | cons d ds a=>cases h with | cons r t=>cases r with | fz f=>exact .cons f (a t)
theorem Wd.exp(w:Wd b H L)(e:OwL b (λa=>a∈A\/b.S0 a) H L A)(g:A.Nodup)(c:∀a∈A,b.H0 a=none\/b.C a)(h:FzA b.K (λa=>a∈A\/b.S0 a) H vs ds):Wd b H (vs.zip (ds.map OD.fz)++L):=by
 have q:∀{vs:List V} {ds:List PyData},FzA b.K (λa=>a∈A\/b.S0 a) H vs ds->OwL b (λa=>a∈A\/b.S0 a) H (vs.zip (ds.map OD.fz)) []:=by
  intro vs;induction vs with
  | nil=>intro ds h;cases h;exact .nil
  | cons v vs f=>intro ds h;cases h with | cons r t=>exact Ows.cons (.fz r) (f t)
 exact⟨⟨A,OwL.join' (q h) e,g,c⟩,w.fr,w.s0,w.nt⟩
theorem Wd.lsItems(w:Wd b H L)(m:(v,x)∈L)(e:listOf x=some ds):∃a vs,v=.ref a/\vs.length=ds.length/\SqL b.K H a vs/\Wd b H (vs.zip (ds.map OD.fz)++L):=by
 obtain⟨A,j,k,c⟩:=w.out;obtain⟨B,h⟩:=OwL.mem j m;cases h with
 | @fz _ d f =>
  cases d with
  | list o =>simp only[listOf]at e;cases e;obtain⟨a,vs,rfl,n,g⟩:=f.list_inv;exact⟨a,vs,rfl,g.length,n.now,w.exp j k c g⟩
  | _=>simp[listOf]at e
 | @lst a vs xs A' e1 t =>simp only[listOf]at e;have l:=fzL_map e;subst l;have g:=Ows.fzs t;exact⟨a,vs,rfl,g.length,SqL.of e1,w.exp j k c g⟩
 | _=>simp[listOf]at e
theorem Wd.tpItems(w:Wd b H L)(m:(v,x)∈L)(e:tupOf x=some ds):∃a vs,v=.ref a/\vs.length=ds.length/\SqT b.K H a vs/\Wd b H (vs.zip (ds.map OD.fz)++L):=by
 obtain⟨A,g,l,c⟩:=w.out;obtain⟨B,h⟩:=OwL.mem g m;cases h with
 | @fz _ d f =>
  cases d with
  | tuple n =>simp only[tupOf]at e;cases e;obtain⟨a,vs,rfl,k,j⟩:=f.tup_inv;exact⟨a,vs,rfl,j.length,k.now,w.exp g l c j⟩
  | _=>simp[tupOf]at e
 | _=>simp[tupOf]at e
theorem Wd.sqItems(w:Wd b H L)(m:(v,x)∈L)(e:seqOf x=some ds):∃a vs,v=.ref a/\vs.length=ds.length/\(SqL b.K H a vs\/SqT b.K H a vs)/\Wd b H (vs.zip (ds.map OD.fz)++L):=by
 unfold seqOf at e;cases h:listOf x with
 | some z=>rw[h]at e;cases e;obtain⟨a,vs,f,j,c,g⟩:=w.lsItems m h;exact⟨a,vs,f,j,.inl c,g⟩
 | none=>rw[h]at e;obtain⟨a,vs,f,j,c,g⟩:=w.tpItems m e;exact⟨a,vs,f,j,.inr c,g⟩
theorem Rel.newLst(R:Rel b F σ H ρ τ θ){Z:List (V × OD)}(w:Wd b H (Z++(stk τ θ++(flat σ ρ++ff F))))(c:vs.length=ds.length)(m:∀z∈vs.zip (ds.map OD.fz),z∈Z++(stk τ θ++(flat σ ρ++ff F)))(f:H p=none) :
  Rel b F σ (upd H p (.lst vs)) ρ (.ref p::τ) (.val (.lst (ds.map OD.fz))::θ):=by
 obtain⟨A,e,h,a⟩:=w.out;have g:=Wd.exp w e h a ((OwL.frzIn e).all c m);exact R.push (Wd.below (Wd.newLst g (by simpa using c) f))
theorem Rel.newTup(R:Rel b F σ H ρ τ θ){Z:List (V × OD)}(w:Wd b H (Z++(stk τ θ++(flat σ ρ++ff F))))(c:vs.length=ds.length)(m:∀z∈vs.zip (ds.map OD.fz),z∈Z++(stk τ θ++(flat σ ρ++ff F)))(a:H p=none) :
  Rel b F σ (upd H p (.tup vs)) ρ (.ref p::τ) (.val (.fz (.tuple ds))::θ):=R.push (Wd.below (w.newTup (λS e=>e.all c m) a))
end
section
variable{X:Cx}{K:Waa}{a b c e:Expr}{es:List Expr}{da db dc:DE}{dt:DA}{pos p:Pos}{x:Str}
def v3(t:DA):DE:=λh Q=>t h λg d=>∃r f,g=[r]/\(cN d r).bind seqOf=some f/\Q (.val (.lst (f.map OD.fz))) d
theorem qa (D:Gl X x) (u:X.mg x=none) (n:bootBuiltins x=some (.type "list")) (y:x≠"__name__":=by decide) (j:(x == ("__debug__":Str))=false:=by decide)
  (N:starEach (e::es) X.env=(false,eval e X.env)::starEach es X.env:=by rfl) (g:(backTo pos (starEach es X.env)).any (·.1)=false:=by rfl):PDa X (e::es) dt->PDe X (.Call (.Name x p) (e::es) [] pos) (v3 dt)
 | ⟨_,d,s1⟩=>⟨_,fM jo D u n d y j N g,λb F M H I C O U Q k R h q=>s1 b F M H I C O _ _ k R h λJ T S o i f ⟨r,W,P,B,d⟩=>by
  subst P;obtain⟨z,G,s⟩:=aaM.mp B
  match J,i with
  | [v],_ =>
   obtain⟨a,L,rfl,i,m,w⟩:=f.wd.sqItems (f.mem G) s;rw[k]at m;exact⟨a,L,rfl,m,λl t=>q _ _ _ _ (Rel.drop2 (f.newLst w i (λz A=>aaf _ A) t)) d⟩⟩
def Ak(t:DA):DE:=λh Q=>t h λg d=>∃r f,g=[r]/\(cN d r).bind listOf=some f/\Q (.val (.fz (.tuple f))) d
theorem sj (D:Gl X x) (u:X.mg x=none) (n:bootBuiltins x=some (.type "tuple")) (y:x≠"__name__":=by decide) (j:(x == ("__debug__":Str))=false:=by decide)
  (N:starEach (e::es) X.env=(false,eval e X.env)::starEach es X.env:=by rfl) (g:(backTo pos (starEach es X.env)).any (·.1)=false:=by rfl):PDa X (e::es) dt->PDe X (.Call (.Name x p) (e::es) [] pos) (Ak dt)
 | ⟨_,d,s1⟩=>⟨_,fM iR D u n d y j N g,λb F M H I C O U Q k R h q=>s1 b F M H I C O _ _ k R h λJ T S o i f ⟨r,W,P,B,d⟩=>by
  subst P;obtain⟨z,G,s⟩:=aaM.mp B
  match J,i with
  | [v],_ =>
   obtain⟨a,L,rfl,i,m,w⟩:=f.wd.lsItems (f.mem G) s;rw[k]at m;exact⟨a,L,rfl,.inl ⟨m,λl t=>q _ _ _ _ (Rel.drop2 (f.newTup w i (λz A=>aaf _ A) t)) d⟩⟩⟩
def Gc(a b:DE):DE:=λh Q=>a h λx f=>b f λy d=>∃g es,l7 d x=some g/\l7 d y=some es/\g.length + es.length<=1000000/\Q (.val (.lst ((g++es).map OD.fz))) d
theorem v5{g i:Type}{xs f:List g}{ys d:List i}(h:xs.length=ys.length):(xs++f).zip (ys++d)=xs.zip ys++f.zip d:=List.zip_append h
theorem Am:PDe X a da->PDe X b db->PDe X (.BinOp a .Add b pos) (Gc da db)
 | ⟨_,i,s1⟩,⟨_,j,s2⟩=>⟨_,rg vP i j,λb F σ H ρ τ θ S Q m R h q=>s1 b F σ H ρ τ θ _ _ m R h λv A x ρ1 I i=>s2 b F σ A ρ1 _ _ _ _ m I i λu N y ρ2 g ⟨ds,es,M,C,d,j⟩=>by
  obtain⟨O,D,s⟩:=aaM.mp M;obtain⟨P,B,G⟩:=aaM.mp C;obtain⟨a,L,rfl,r,o,w⟩:=g.wd.lsItems (g.mem1 D) s;obtain⟨c,J,rfl,k,f,n⟩:=w.lsItems (aad _ (g.mem B)) G;rw[<- aac]at n;rw[m]at o f;refine⟨a,c,L,J,rfl,rfl,o,f,lT (by omega),λl t=>q _ _ _ _ (Rel.drop2 (Rel.drop2 (g.newLst n (by simp[r,k]) (λz d=>?_) t))) j⟩;rw[aav,v5 (by simpa using r)]at d;refine aaf _ ?_;rcases aan.mp d with d | d
  ·exact aad _ d
  ·exact aaf _ d⟩
def HH(a b:DE):DE:=λh Q=>a h λx g=>b g λy d=>∃f es,C6 d x=some f/\C6 d y=some es/\f≠[]/\es≠[]/\f.length + es.length<=1000000/\Q (.val (.fz (.tuple (f++es)))) d
abbrev DO:=DEnv->(Option Int->DEnv->Prop)->Prop
def Ge(K:Waa)(m:TO)(l:DO):Prop:=∀(b:Bs) (F:List Fr) (f:St) (H:Hp) (i:DEnv) (g:List V) (h:List OR) (Qd:Option Int->DEnv->Prop) (Q:Option Int->Hp->Prop),b.K=K->Rel b F f H i g h->l i Qd->(∀k j d,Rel b F f j d g h->Qd k d->Q k j)->m f H Q
inductive PDo (X:Cx)(e:Option Expr)(de:DO):Prop | mk (te:TO) (h:PO X e te) (s:Ge X.K te de)
def dNoPart:DO:=λd Q=>Q none d
def C8(a:DE):DO:=λf Q=>a f λx d=>∃i,au d x=some (.int i)/\Q (some i) d
theorem pdo_none:PDo X none dNoPart:=⟨_,vw,λb F k H d g j f Q i R h q=>q none H d R h⟩
theorem sk:PDe X e da->PDo X (some e) (C8 da)
 | ⟨_,d,s1⟩=>⟨_,vy d,λb F σ H ρ τ θ k Q j R h q=>s1 b F σ H ρ τ θ _ _ j R h λv g x ρ1 f ⟨i,e,d⟩=>by
  cases f.dt e;exact⟨i,rfl,q _ g _ f.drop d⟩⟩
def cutD{d:Type}(xs:List d)(lo hi:Option Int):List d:=(xs.drop (HT.sIx xs.length 0 lo)).take (HT.sIx xs.length xs.length hi - HT.sIx xs.length 0 lo)
theorem v7{vs:List V}{ds:List OD}(f:vs.length=ds.length)(lo hi:Option Int):∀z∈(cutD vs lo hi).zip (cutD ds lo hi),z∈vs.zip ds:=by intro z d;unfold cutD at d;rw[f,acq,<- List.take_zipWith,<- List.drop_zipWith,<- acq]at d;exact List.mem_of_mem_drop (acr d)
theorem sm{d g:Type}(f:d->g)(xs:List d)(lo hi:Option Int):cutD (xs.map f) lo hi=(cutD xs lo hi).map f:=by unfold cutD;rw[aab,ab6,List.map_drop]
theorem so{f g:Type}{xs:List f}{ys:List g}(d:xs.length=ys.length)(lo hi:Option Int):(cutD xs lo hi).length=(cutD ys lo hi).length:=by unfold cutD;rw[aaY,abk,aaY,abk,d]
variable{lo hi:Option Expr}{dl dh:DO}{p2:Pos}
def Gf(a:DE)(dl dh:DO):DE:=λi Q=>a i λx f=>dl f λl g=>dh g λu d=>∃h,l7 d x=some h/\Q (.val (.lst ((cutD h l u).map OD.fz))) d
theorem An:PDe X e da->PDo X lo dl->PDo X hi dh->PDe X (.Subscript e (.Slice lo hi none p2) pos) (Gf da dl dh)
 | ⟨_,g,s1⟩,⟨_,i,s2⟩,⟨_,j,s3⟩=>⟨_,rq vA g i j,λb F σ H ρ τ θ J Q d R h q=>s1 b F σ H ρ τ θ _ _ d R h λv y x ρ1 B g=>s2 b F σ y ρ1 _ _ _ _ d B g λl o ρ2 r i=>s3 b F σ o ρ2 _ _ _ _ d r i λu L ρ3 f ⟨ds,D,j⟩=>by
  obtain⟨I,A,s⟩:=aaM.mp D;obtain⟨a,C,rfl,n,m,w⟩:=f.wd.lsItems (f.mem A) s;rw[d]at m;refine⟨a,C,rfl,m,λG t=>q _ _ _ _ (Rel.drop2 (f.newLst w (so n l u) (λz k=>aaf _ ?_) t)) j⟩;rw[<- sm]at k;exact v7 (by simpa using n) l u z k⟩
def Jx(a:DE)(dl dh:DO):DE:=λi Q=>a i λx g=>dl g λl h=>dh h λu f=>∃d,C6 f x=some d/\¬ (HT.sIx d.length 0 l=0/\HT.sIx d.length d.length u=d.length)/\Q (.val (.fz (.tuple (cutD d l u)))) f
end
end
section
structure DEnds where
 nx:DEnv->Prop
 rt:OD->DEnv->Prop
 bk:DEnv->Prop:=λ_=>False
 ct:DEnv->Prop:=λ_=>False
abbrev DS:=DEnds->DEnv->Prop
def NoRf(W:Nat->Prop)(θ:List OR):Prop:=∀r∈θ,(∃x,r=.val x)\/∃j,W j/\r=.rf j
abbrev Ff:Nat->Prop:=λ_=>False
structure EndsOk (b:Bs)(F:List Fr)(τ:List V)(θ:List OR)(Dd:DEnds)(D:Ends):Prop where
 nx:∀σ H ρ,Rel b F σ H ρ τ θ->Dd.nx ρ->D.nx σ H
 bk:∀σ H ρ,Rel b F σ H ρ τ θ->Dd.bk ρ->D.bk σ H
 ct:∀σ H ρ,Rel b F σ H ρ τ θ->Dd.ct ρ->D.ct σ H
 rt:∀σ H ρ v x,Rel b F σ H ρ (v::τ) (.val x::θ)->Dd.rt x ρ->D.rt v H
def C9(K:Waa)(W:Nat->Prop)(g:TS)(ds:DS):Prop:=∀(b:Bs) (F:List Fr) (f:St) (H:Hp) (e:DEnv) (c:List V) (a:List OR) (d:DEnds) (D:Ends),b.K=K->NoRf W a->Rel b F f H e c a->ds d e->EndsOk b F c a d D->g D f H
inductive PDs (X:Cx)(W:Nat->Prop)(e:Stmt)(de:DS):Prop | mk (te:TS) (h:PS X e te) (s:C9 X.K W te de)
inductive PDss (X:Cx)(W:Nat->Prop)(e:List Stmt)(de:DS):Prop | mk (te:TS) (h:PSs X e te) (s:C9 X.K W te de)
section
variable{b:Bs}{F:List Fr}{σ σ':St}{H H':Hp}{ρ ρ':DEnv}{τ vs:List V}{θ rs:List OR}{v u:V}{r r':OR}{x y:OD}{d:PyData}{ds:List PyData}{i:Nat}{L:List (V × OD)}
variable{W:Nat->Prop}
theorem NoRf.al{o:Option V}(n:NoRf W θ)(k:¬ W i):∀{τ:List V},Al σ τ θ->Al (σ.set i o) τ θ:=by
 induction θ with
 | nil=>intro τ h;cases τ with
  | nil=>trivial
  | cons _ _=>exact h
 | cons r θ c =>
  intro τ h;cases τ with
  | nil=>cases r<;>exact h
  | cons v τ =>
   rcases n r aag with ⟨x,rfl⟩ | ⟨j,f,rfl⟩
   ·exact c (λr a=>n r (aaj _ a)) (τ:=τ) h
   ·refine⟨?_,c (λr a=>n r (aaj _ a)) (τ:=τ) h.2⟩;have g:i≠j:=λe=>k (by rw[e];exact f);rw[aaX g];exact h.1
theorem NoRf.al0(n:NoRf Ff θ):∀{τ:List V},Al σ τ θ->Al σ' τ θ:=by
 induction θ with
 | nil=>intro τ h;cases τ with
  | nil=>trivial
  | cons _ _=>exact h
 | cons r θ e =>
  intro τ h;rcases n r aag with ⟨x,rfl⟩ | ⟨j,a,rfl⟩
  ·cases τ with
   | nil=>exact h
   | cons v τ=>exact e (λr c=>n r (aaj _ c)) (τ:=τ) h
  ·exact a.elim
theorem NoRf.weak(n:NoRf Ff θ):NoRf W θ:=λr c=>(n r c).imp id λ⟨j,a,_⟩=>a.elim
theorem NoRf.cons(n:NoRf W θ):NoRf W (.val x::θ):=λr a=>(aaa.mp a).elim (λe=>.inl ⟨x,e⟩) (n r)
theorem NoRf.app(c:NoRf W rs)(n:NoRf W θ):NoRf W (rs++θ):=λr a=>(aan.mp a).elim (c r) (n r)
theorem Wd.offSlot{L1 L2:List (V × OD)}(w:Wd b H (L1++(flat σ ρ++L2)))(f:Wf σ ρ)(i:Nat):Wd b H (L1++(flat σ (ρ.set i none)++L2)):=by
 cases e:ρ[i]?.join with
 | none =>
  have:ρ.set i none=ρ:=by
   cases h:ρ[i]? with
   | none=>exact List.set_eq_of_length_le (by simpa using h)
   | some o=>rw[h]at e;have:o=none:=e;subst this;exact set_self h
  rw[this];exact w
 | some x =>have a:=join_some e;obtain⟨v,c⟩:=f.get a;exact Wd.drop (w.perm ((((bt a c).append_right _).append_left _).trans aaw))
theorem Rel.store(R:Rel b F σ H ρ (v::τ) (.val x::θ))(n:NoRf W θ)(c:i < ρ.length)(a:¬ W i):Rel b F (σ.set i (some v)) H (ρ.set i (some x)) τ θ:=by refine Rel.unslot R.wf (n.al a (Rel.drop R).al) R.wff c ?_;exact Wd.offSlot (L1:=(v,x)::stk τ θ) (ρ:=ρ) R.wd R.wf i
end
section
variable{X:Cx}{W:Nat->Prop}{K:Waa}{a b c e:Expr}{es:List Expr}{sts:List Stmt}{st:Stmt}{da db dc:DE}{dt:DA}{d1 d2:DS}{dT:DT}{pos p:Pos}{x:Str}
def dNext:DS:=λD d=>D.nx d
def Gg(t u:DS):DS:=λD f=>∃M:DEnv->Prop,(∀d,M d->u D d)/\t { D with nx:=M } f
theorem pdss_nil:PDss X W [] dNext:=⟨_,vg,λb F f H d g k j D i n R h E=>E.nx f H d R h⟩
theorem qb:PDs X W st d1->PDss X W sts d2->PDss X W (st::sts) (Gg d1 d2)
 | ⟨_,d,s1⟩,⟨_,h2,s2⟩=>⟨_,qR d h2,λb F σ H ρ τ θ i D g n R ⟨M,j,h⟩ E=>s1 b F σ H ρ τ θ _ _ g n R h
  ⟨λf k ρ1 l d=>s2 b F f k ρ1 τ θ i D g n l (j ρ1 d) E,E.bk,E.ct,E.rt⟩⟩
def dCont:DS:=λD d=>D.ct d
theorem pds_cont:PDs X W (.Continue pos) dCont:=⟨_,kj,λb F f H d g k j D i n R h E=>E.ct f H d R h⟩
def Jy:DS:=λD d=>D.bk d
def Da(a:DE):DS:=λD f=>a f λ_ d=>D.nx d
theorem sq(o:swapsWith e none pos.line X.env=pure false:=by rfl):PDe X e da->PDs X W (.Expr e pos) (Da da)
 | ⟨_,h,s⟩=>⟨_,gw h o,λb F f H k i q t D m n R h E=>s b F f H k i q _ _ m R h λv g r d l j=>E.nx f g d l.drop j⟩
def Gh(a:DE):DS:=λD g=>a g λr f=>∃x d,mv1 f r=some (x,d)/\D.rt x d
theorem v8:PDe X e da->PDs X W (.Return (some e) pos) (Gh da)
 | ⟨_,h,s⟩=>⟨_,zf h,λb F σ H ρ τ θ j D i n R h E=>s b F σ H ρ τ θ _ _ i R h λv d r ρ1 g ⟨x,ρ2,e,f⟩=>E.rt σ d ρ2 v x (g.mv1 e) f⟩
def HI:DS:=λD d=>D.rt (.fz .none) d
def Gi(c:DT)(t u:DS):DS:=λD f=>c f λk d=>if k=true then t D d else u D d
theorem Ao{f g:List Stmt}:PDt X c dT->PDss X W f d1->PDss X W g d2->PDs X W (.If c f g pos) (Gi dT d1 d2)
 | ⟨_,h,s⟩,⟨_,d,f⟩,⟨_,h2,g⟩=>⟨_,B9 h d h2,λb F σ H ρ τ θ m D i n R h E=>s b F σ H ρ τ θ _ _ i R h λk j ρ1 l d=>by
  cases k with
  | true=>rw[if_pos rfl]at d ⊢;exact f b F σ j ρ1 τ θ _ _ i n l d E
  | false=>rw[if_neg aae]at d ⊢;exact g b F σ j ρ1 τ θ _ _ i n l d E⟩
def Gj(i:Nat)(a:DE):DS:=λD g=>a g λr f=>∃x d,own1 f r=some (x,d)/\i < d.length/\D.nx (d.set i (some x))
theorem v9{i:Nat}{pos':Pos}(k:¬ W i)(t:X.N.Nodup)(d:X.N[i]?=some x)(u:Loc X.env.scope x)(z:swapsWith e (some (.Name x pos')) pos.line X.env=pure false:=by rfl)(f:X.fn x=true\/X.env.scope.names.lookup x=some .local:=by first | exact .inl rfl | exact .inr rfl | assumption) :
  PDe X e da->PDs X W (.Assign [.Name x pos'] e pos) (Gj i da)
 | ⟨_,h,s⟩=>⟨_,zh t d u h z f,λb F y H o l B C D w n R h E=>s b F y H o l B _ _ w R h λv j r g q ⟨x,A,e,d,m⟩=>E.nx _ j _ ((q.own1 e).store n d k) m⟩
def cZ:List Nat->List OD->DEnv->DEnv
 | i::is,x::xs,ρ=>cZ is xs (ρ.set i (some x))
 | _,_,ρ=>ρ
def Ap(is:List Nat)(t:DA):DS:=λD j=>t j λh f=>∃g d,mapR own1 f h=some (g,d)/\g.length=is.length/\(∀i∈is,i < d.length)/\D.nx (cZ is g d)
def jz:List Nat->List V->St->St
 | i::is,v::vs,σ=>jz is vs (σ.set i (some v))
 | _,_,σ=>σ
theorem Rel.storeAll{W:Nat->Prop}{b:Bs}{F:List Fr}{H:Hp}{τ:List V}{θ:List OR}:∀{is:List Nat} {vs:List V} {xs:List OD} {σ:St} {ρ:DEnv},Rel b F σ H ρ (vs++τ) (xs.map OR.val++θ)->NoRf W θ->vs.length=xs.length->xs.length=is.length->(∀i∈is,i < ρ.length)->(∀i∈is,¬ W i)->Rel b F (jz is vs σ) H (cZ is xs ρ) τ θ
 | [],[],[],_,_,R,_,_,_,_,_=>R
 | i::is,v::vs,x::xs,σ,ρ,R,n,e1,e2,h,hw=>by have f:NoRf W (xs.map OR.val++θ):=NoRf.app (λr g=>by obtain⟨x,_,rfl⟩:=aau.mp g;exact .inl ⟨x,rfl⟩) n;show Rel b F (jz is vs (σ.set i (some v))) H (cZ is xs (ρ.set i (some x))) τ θ;exact Rel.storeAll (Rel.store (τ:=vs++τ) (θ:=xs.map OR.val++θ) R f (h i aag) (hw i aag)) n (by simpa using e1) (by simpa using e2) (λj d=>by rw[abA];exact h j (aaj _ d)) λj d=>hw j (aaj _ d)
 | [],_::_,[],_,_,_,_,e,_,_,_=>by simp at e
 | [],_,_::_,_,_,_,_,_,e,_,_=>by simp at e
 | _::_,[],_::_,_,_,_,_,e,_,_,_=>by simp at e
 | _::_,_,[],_,_,_,_,_,e,_,_=>by simp at e
theorem len2{d:Type}{l:List d}(h:l.length=2):∃a b,l=[a,b]:=by
 match l,h with
 | [a,b],_=>exact⟨a,b,rfl⟩
theorem Gk{d:Type}{l:List d}(h:l.length=3):∃a b c,l=[a,b,c]:=by
 match l,h with
 | [a,b,c],_=>exact⟨a,b,c,rfl⟩
theorem wa{i j:Nat}(hW:∀k∈[i,j],¬ W k){x y:Str}{q o r:Pos}{m t d}(hc:X.calm=true)(O:X.N.Nodup)(l:X.N[i]?=some x)(C:X.N[j]?=some y)(g:i≠j)
  (Q:X.env.scope.names.lookup x=some .local) (P:X.env.scope.names.lookup y=some .local)
  (I:swappedStores [.Tuple [.Name x q,.Name y o] m r] (.Tuple [a,b] t d) X.env=pure (some [x,y]))
  (U:swapsWithSole [.Tuple [.Name x q,.Name y o] m r] (.Tuple [a,b] t d) pos.line X.env=pure false:=by rfl):PDa X [a,b] dt->PDs X W (.Assign [.Tuple [.Name x q,.Name y o] m r] (.Tuple [a,b] t d) pos) (Ap [i,j] dt)
 | ⟨_,h,s⟩=>⟨_,zi hc O l C g Q P h I U,λb F T H L G θ Dd D S n R h E=>s b F T H L G θ _ _ S R h λvs B rs A Z M ⟨xs,Y,e,f,l,J⟩=>by
  obtain⟨z,u⟩:=eO Rel.own1 M Z e;obtain⟨v,w,rfl⟩:=len2 (u.trans f);exact⟨v,w,rfl,E.nx _ B _ (Rel.storeAll (is:=[i,j]) z n u f l hW) J⟩⟩
theorem sr{i j k:Nat}(hW:∀z∈[i,j,k],¬ W z){x y z:Str}{t q r B:Pos}{o C d}(hc:X.calm=true)(Y:X.N.Nodup)(m:X.N[i]?=some x)(O:X.N[j]?=some y)(hk:X.N[k]?=some z)(g:i≠j)(A:i≠k)(l:j≠k)
  (hx:X.env.scope.names.lookup x=some .local) (Z:X.env.scope.names.lookup y=some .local) (M:X.env.scope.names.lookup z=some .local)
  (Q:swappedStores [.Tuple [.Name x t,.Name y q,.Name z r] o B] (.Tuple [a,b,c] C d) X.env=pure (some [x,y,z]))
  (hs:swapsWithSole [.Tuple [.Name x t,.Name y q,.Name z r] o B] (.Tuple [a,b,c] C d) pos.line X.env=pure false:=by rfl):PDa X [a,b,c] dt->PDs X W (.Assign [.Tuple [.Name x t,.Name y q,.Name z r] o B] (.Tuple [a,b,c] C d) pos) (Ap [i,j,k] dt)
 | ⟨_,h,s⟩=>⟨_,vE hc Y m O hk g A l hx Z M h Q hs,λb F σ H T P θ Dd D hK n R h E=>s b F σ H T P θ _ _ hK R h λvs L rs J el U ⟨xs,a0,e,f,m,S⟩=>by
  obtain⟨I,G⟩:=eO Rel.own1 U el e;obtain⟨v,w,u,rfl⟩:=Gk (G.trans f);exact⟨v,w,u,rfl,E.nx _ L _ (Rel.storeAll (is:=[i,j,k]) I n G f m hW) S⟩⟩
abbrev DG:=OD->DEnv->(DEnv->Prop)->Prop
abbrev DGs:=List OD->DEnv->(DEnv->Prop)->Prop
def qc(K:Waa)(W:Nat->Prop)(m:Nat)(g:TG)(o:DG):Prop:=∀(b:Bs) (F:List Fr) (k:St) (H:Hp) (i:DEnv) (l:List V) (h:List OR) (v:V) (x:OD) (Qd:DEnv->Prop) (Q:St->Hp->Prop),b.K=K->NoRf W h->Rel b F k H i (v::l) (.val x::h)->o x i Qd->(∀f n d,Rel b F f n d l h->(∀j,m<=j->f[j]?=k[j]?/\d[j]?=i[j]?)->Qd d->Q f n)->g v k H Q
def Dc(K:Waa)(W:Nat->Prop)(m:Nat)(g:TGs)(q:DGs):Prop:=∀(b:Bs) (F:List Fr) (l:St) (H:Hp) (k:DEnv) (n:List V) (i:List OR) (vs:List V) (h:List OD) (Qd:DEnv->Prop) (Q:St->Hp->Prop),b.K=K->NoRf W i->vs.length=h.length->Rel b F l H k (vs++n) (h.map OR.val++i)->q h k Qd->(∀f o d,Rel b F f o d n i->(∀j,m<=j->f[j]?=l[j]?/\d[j]?=k[j]?)->Qd d->Q f o)->g vs l H Q
inductive PDg (X:Cx)(W:Nat->Prop)(m:Nat)(e:Expr)(dg:DG):Prop | mk (te:TG) (h:PG X e te) (s:qc X.K W m te dg)
inductive PDgs (X:Cx)(W:Nat->Prop)(m:Nat)(e:List Expr)(dg:DGs):Prop | mk (te:TGs) (h:BQ X e te) (s:Dc X.K W m te dg)
def Aq(i:Nat):DG:=λx d Q=>i < d.length/\Q (d.set i (some x))
def dgNil:DGs:=λd f Q=>d=[]/\Q f
def jA(t:DG)(u:DGs):DGs:=λf g Q=>∃x r,f=x::r/\t x g λd=>u r d Q
def unpT:OD->Option (List OD)
 | .fz (.tuple ds)=>some (ds.map OD.fz)
 | .tup xs=>some xs
 | _=>none
def unpL:OD->Option (List OD)
 | .fz (.list ds)=>some (ds.map OD.fz)
 | .lst xs=>some xs
 | _=>none
def De(n:Nat)(t:DGs):DG:=λx f Q=>∃d,unpT x=some d/\d.length=n/\t d f Q
def Dg(n:Nat)(t:DGs):DG:=λx f Q=>∃d,unpL x=some d/\d.length=n/\t d f Q
variable{m:Nat}{dg:DG}{dgs:DGs}
theorem kI{i:Nat}(g:¬ W i)(k:X.N.Nodup)(d:X.N[i]?=some x)(o:Loc X.env.scope x)(l:i < m)(f:X.fn x=true\/X.env.scope.names.lookup x=some .local:=by first | exact .inl rfl | exact .inr rfl | assumption):PDg X W m (.Name x pos) (Aq i) :=
 ⟨_,vj k d o f,λb F w H t s z v x y Q u n R ⟨d,h⟩ q=>q _ _ _ (R.store n d g) (λj r=>⟨aaX (by omega),aaX (by omega)⟩) h⟩
theorem pdgs_nil:PDgs X W m [] dgNil:=⟨_,vk,λb F r H k i t d l s Q o n f R ⟨e,h⟩ q=>by
 subst e;cases d with
 | nil=>exact⟨rfl,q _ _ _ R (λj g=>⟨rfl,rfl⟩) h⟩
 | cons _ _=>simp at f⟩
theorem cC(J:(assignEach (e::es) X.env).map (·.2)=assign e X.env::(assignEach es X.env).map (·.2):=by rfl):PDg X W m e dg->PDgs X W m es dgs->PDgs X W m (e::es) (jA dg dgs)
 | ⟨_,i,s1⟩,⟨_,k,s2⟩=>⟨_,qT i k J,λb F I H D s o d O P Q t n u R ⟨x,r,e,h⟩ q=>by
  subst e;cases d with
  | nil=>simp at u
  | cons v d =>
   have L:NoRf W (r.map OR.val++o):=NoRf.app (λr B=>by obtain⟨x,_,rfl⟩:=aau.mp B;exact .inl ⟨x,rfl⟩) n;exact⟨v,d,rfl,s1 b F I H D (d++s) (r.map OR.val++o) v x _ _ t L R h λl A g G w i=>s2 b F l A g s o d r _ _ t n (by simpa using u) G i λC N M z y k =>
    q _ _ _ z (λj f=>⟨(y j f).1.trans (w j f).1,(y j f).2.trans (w j f).2⟩) k⟩⟩
theorem Wd.unpT{b:Bs}{H:Hp}{L:List (V × OD)}{v:V}{x:OD}{xs:List OD}(w:Wd b H ((v,x)::L))(e:unpT x=some xs):∃a vs,v=.ref a/\SqT b.K H a vs/\vs.length=xs.length/\Wd b H (vs.zip xs++L):=by
 cases x with
 | fz d =>cases d<;>simp only[L2.unpT]at e<;>cases e;obtain⟨a,vs,rfl,k,j,g⟩:=w.tpItems aag (rfl:tupOf (.fz (.tuple _))=some _);exact⟨a,vs,rfl,j,by simpa using k,Wd.drop (g.perm aaw)⟩
 | tup n =>
  simp only[L2.unpT]at e;cases e;obtain⟨l,h,i,f⟩:=w.out;cases h with
  | cons r t =>
   cases r with
   | @tup a vs _ A h1 h2=>exact⟨a,vs,rfl,SqT.of h1,h2.len,⟨⟨_,OwL.join' (OwL.unzips h2) t,i,f⟩,w.fr,w.s0,w.nt⟩⟩
 | _=>simp[L2.unpT]at e
theorem Wd.unpL{b:Bs}{H:Hp}{L:List (V × OD)}{v:V}{x:OD}{xs:List OD}(w:Wd b H ((v,x)::L))(e:unpL x=some xs):∃a vs,v=.ref a/\SqL b.K H a vs/\vs.length=xs.length/\Wd b H (vs.zip xs++L):=by
 have g:∀{i:List PyData},listOf x=some i->xs=i.map OD.fz->∃a vs,v=.ref a/\SqL b.K H a vs/\vs.length=xs.length/\Wd b H (vs.zip xs++L):=λ{i} h1 h2=>by subst h2;obtain⟨a,vs,rfl,q,o,k⟩:=w.lsItems aag h1;exact⟨a,vs,rfl,o,by simpa using q,Wd.drop (k.perm aaw)⟩
 cases x with
 | fz d=>cases d<;>simp only[L2.unpL]at e<;>cases e;exact g rfl rfl
 | lst y =>
  simp only[L2.unpL]at e;cases e;obtain⟨u,j,n,h⟩:=w.out;have l:=w.nt' j;cases j with
  | @cons _ _ A _ _ B0 r t =>
   cases r with
   | @lst a vs _ B h1 h2 =>have f:∀c,(c∈B++B0\/b.S0 c)->(c∈a::B++B0\/b.S0 c):=λc z=>z.imp (λz=>by simp at z ⊢;exact .inr z) id;exact⟨a,vs,rfl,SqL.of h1,h2.len,⟨⟨_,Ows.step (Kp.refl _ _) (λc z=>.inl (f c z)) l (λ_ _=>rfl) (OwL.join' (OwL.unzips h2) t),(aaA.mp n).2,λc s=>h c (aaj _ s)⟩,w.fr,w.s0,w.nt⟩⟩
 | _=>simp[L2.unpL]at e
theorem jB{σ:St}:∀{vs:List V} {xs:List OD},vs.length=xs.length->Al σ vs (xs.map OR.val)
 | [],[],_=>trivial
 | _::vs,_::xs,e=>jB (vs:=vs) (xs:=xs) (by simpa using e)
 | [],_::_,e=>by simp at e
 | _::_,[],e=>by simp at e
theorem Rel.spread{b:Bs}{F:List Fr}{σ:St}{H:Hp}{ρ:DEnv}{τ vs:List V}{θ:List OR}{xs:List OD}(R:Rel b F σ H ρ τ θ)(d:vs.length=xs.length)(w:Wd b H (vs.zip xs++(stk τ θ++(flat σ ρ++ff F)))):Rel b F σ H ρ (vs++τ) (xs.map OR.val++θ) :=
 ⟨R.wf,(aY (by simpa using d)).mpr ⟨jB d,R.al⟩,R.wff,by rw[aH (by simpa using d),cW d,aac];exact w⟩
theorem jC{k:Nat}{n:Nat}(A:X.calm=true)(o:(assignEach es X.env).length=n:=by rfl)(d:(assignEach es X.env).findIdx? (·.1)=none:=by rfl):PDgs X W m es dgs->PDg X W m (.Tuple es k pos) (De n dgs)
 | ⟨_,h,s⟩=>⟨_,zg A h o d,λb F y H t r B v x C Q i z R ⟨u,e,l,h⟩ q=>by
  obtain⟨a,g,rfl,j,f,w⟩:=Wd.unpT R.wd e;rw[i]at j;exact⟨a,g,rfl,j,f.trans l,s b F y H t r B g u _ _ i z f (R.drop.spread f w) h q⟩⟩
theorem jD{k:Nat}{n:Nat}(A:X.calm=true)(o:(assignEach es X.env).length=n:=by rfl)(d:(assignEach es X.env).findIdx? (·.1)=none:=by rfl):PDgs X W m es dgs->PDg X W m (.Tuple es k pos) (Dg n dgs)
 | ⟨_,h,s⟩=>⟨_,zZ A h o d,λb F y H t r B v x C Q i z R ⟨u,e,l,h⟩ q=>by
  obtain⟨a,g,rfl,j,f,w⟩:=Wd.unpL R.wd e;rw[i]at j;exact⟨a,g,rfl,j,f.trans l,s b F y H t r B g u _ _ i z f (R.drop.spread f w) h q⟩⟩
def Gm(a:DE)(g:DG):DS:=λD h=>a h λr f=>∃x d,own1 f r=some (x,d)/\g x d D.nx
theorem wb{d:Expr}(C:swapsWithSole [d] e pos.line X.env=pure false:=by rfl)(z:swappedStores [d] e X.env=pure none:=by rfl)(w:(assignEach [d] X.env).map (·.2)=[assign d X.env]:=by rfl):PDe X e da->PDg X W m d dg->PDs X W (.Assign [d] e pos) (Gm da dg)
 | ⟨_,g,s1⟩,⟨_,h2,s2⟩=>⟨_,qW g h2 C z w,λb F o H A k q I D l n R h E=>s1 b F o H A k q _ _ l R h λv u r s B ⟨x,j,e,g⟩ =>
  s2 b F o u j k q v x _ _ l n (B.own1 e) g λf G i t _ y=>E.nx f G i t y⟩
def Ar(c:DT)(t:DS):DS:=λD g=>∃W:Nat->DEnv->Prop,(∃m,W m g)/\∀m g,W m g->c g λk f=>if k=true then ∃N:DEnv->Prop,(∀d,N d->∃h,h < m/\W h d)/\t { D with nx:=N,ct:=N,bk:=D.nx } f else D.nx f
theorem qe(L:PassesOwn (model X.prog X.w) X.A X.env X.xe):PDt X c dT->PDss X W sts d1->PDs X W (.While c sts [] pos) (Ar dT d1)
 | ⟨_,h1,s1⟩,⟨_,i,s2⟩=>⟨_,qY L h1 i,λb F σ H ρ τ θ O D r n R ⟨W,⟨M,z⟩,step⟩ E=>by
  refine⟨λm σ H=>∃ρ,Rel b F σ H ρ τ θ/\W m ρ,⟨M,ρ,R,z⟩,?_⟩;rintro m h y ⟨ρ1,C,J⟩;refine s1 b F h y ρ1 τ θ _ _ r C (step m ρ1 J) λk o ρ2 q i=>?_;cases k with
  | false=>rw[if_neg aae]at i ⊢;exact E.nx h o ρ2 q i
  | true =>
   rw[if_pos rfl]at i ⊢;obtain⟨N,G,I⟩:=i;refine⟨λf j=>∃d,Rel b F f j d τ θ/\N d,λf j u=>?_,s2 b F h o ρ2 τ θ _ _ r n q I ⟨λf j d g l=>⟨d,g,l⟩,λf j d g l=>E.nx f j d g l,λf j d g l=>⟨d,g,l⟩,E.rt⟩⟩;obtain⟨d,g,B⟩:=u;obtain⟨s,v,t⟩:=G d B;exact⟨s,v,d,g,t⟩⟩
abbrev DI:=DEnv->(List PyData->DEnv->Prop)->Prop
def kJ(b:Bs)(J:It)(vs:List V)(rs:List OR)(ds:List PyData):Prop:=∀(F:List Fr) (j:St) (H:Hp) (i:DEnv) (g:List V) (h:List OR),Rel b F j H i (vs++g) (rs++h)->∀k,
 (k < ds.length->J.go k H/\∀x f d,J.yld k H x f->ds[k]?=some d->Rel b F j f i (x::(vs++g)) (.val (.fz d)::(rs++h)))/\(k=ds.length->J.stop k H)
def Dh(K:Waa)(o:TI)(q:DI):Prop:=∀(b:Bs) (F:List Fr) (h:St) (H:Hp) (l:DEnv) (i:List V) (j:List OR) (Qd:List PyData->DEnv->Prop) (Q:It->Hp->Prop),b.K=K->Rel b F h H l i j->q l Qd ->
 (∀J n k d g f,g.length=f.length->NoRf Ff f->Rel b F h n d (g++i) (f++j)->kJ b J g f k->Qd k d->Q J n)->o h H Q
inductive PDi (X:Cx)(tg e:Expr)(di:DI):Prop | mk (te:TI) (h:PI X tg e te) (s:Dh X.K te di)
def Jz(n:DI)(g:DG)(t:DS):DS:=λD f=>n f λl i=>∃h:Nat->DEnv->Prop,h 0 i/\(∀k d f,l[k]?=some d->h k f->g (.fz d) f λj=>t { D with nx:=h (k + 1),ct:=h (k + 1),bk:=D.nx } j)/\∀f,h l.length f->D.nx f
def bL(lo:Int)(n:Nat):List PyData:=(List.range n).map λ(i:Nat)=>PyData.int (lo + (i:Int))
theorem gZ(lo:Int)(n:Nat):(bL lo n).length=n:=by simp[bL]
theorem su{lo:Int}{n k:Nat}{d:PyData}(h:(bL lo n)[k]?=some d):k < n/\d=.int (lo + k):=by unfold bL at h;rw[aax]at h;obtain⟨j,i,rfl⟩:=aaL.mp h;obtain⟨g,f⟩:=aao.mp i;simp at g f;subst f;exact⟨g,rfl⟩
theorem kK(b:Bs)(lo:Int)(n:Nat):kJ b (Cc lo n) [] [] (bL lo n):=λF q H r l o R k=>by rw[gZ];refine⟨λh=>⟨h,λx j d ⟨i,f⟩ g=>?_⟩,λe=>by subst e;exact aah _⟩;subst i f;rw[(su g).2];exact Rel.sc R (.int _)
def Di(t:DA):DI:=λg Q=>t g λf d=>∃j,cX d f=some [.int j]/\-(2 ^ 62)<=j/\j < 2 ^ 62/\Q (bL 0 j.toNat) d
theorem l8 {w:Expr} (v:Gl X "range") (k:X.mg "range"=none) (D:starEach [a] X.env=[(false,eval a X.env)]:=by rfl):PDa X [a] dt->PDi X w (.Call (.Name "range" p) [a] [] pos) (Di dt)
 | ⟨_,h,s⟩=>⟨_,pk v k h D,λb F C H z o G L Q A R h q=>s b F C H z o G _ _ A R h λJ n I d g f ⟨j,e,B,i,y⟩=>by
  have l:=f.dtL g e;cases l with
  | cons r t=>cases t;cases r;exact⟨j,rfl,B,i,q _ n _ d [] [] rfl (λr u=>by cases u) (f.drops g) (kK b 0 _) y⟩⟩
def Dj(t:DA):DI:=λg Q=>t g λf d=>∃i j,cX d f=some [.int i,.int j]/\(-(2 ^ 62)<=i/\i < 2 ^ 62/\-(2 ^ 62)<=j/\j < 2 ^ 62)/\Q (bL i (j - i).toNat) d
theorem l9 {z:Expr} (y:Gl X "range") (l:X.mg "range"=none) (G:starEach [a,b] X.env=[(false,eval a X.env),(false,eval b X.env)]:=by rfl) (f:starEach [b] X.env=[(false,eval b X.env)]:=by rfl):PDa X [a,b] dt->PDi X z (.Call (.Name "range" p) [a,b] [] pos) (Dj dt)
 | ⟨_,h,s⟩=>⟨_,pq y l h G f,λb F D H B v J N Q C R h q=>s b F D H B v J _ _ C R h λM o L d k g ⟨i,j,e,u,A⟩=>by
  have n:=g.dtL k e;cases n with
  | cons r t=>cases t with | cons I t=>cases t;cases r;cases I;exact⟨i,j,rfl,u,q _ o _ d [] [] rfl (λr w=>by cases w) (g.drops k) (kK b i _) A⟩⟩
theorem Rel.itemAt{b:Bs}{F:List Fr}{σ:St}{H:Hp}{ρ:DEnv}{τ:List V}{θ:List OR}{v:V}{x:OD}{ds:List PyData}{d:PyData}{k:Nat}(R:Rel b F σ H ρ τ θ)(m:(v,x)∈stk τ θ++(flat σ ρ++ff F))(e:seqOf x=some ds)(f:ds[k]?=some d) :
  ∃a vs u,v=.ref a/\(SqL b.K H a vs\/SqT b.K H a vs)/\vs.length=ds.length/\vs[k]?=some u/\Rel b F σ H ρ (u::τ) (.val (.fz d)::θ):=by
 obtain⟨a,vs,rfl,h,i,w⟩:=R.wd.sqItems m e;have g:k < vs.length:=by rw[h];exact (aao.mp f).1
 refine⟨a,vs,vs[k],rfl,i,h,aak g,R.push (w.pick (cI (aak g) ?_))⟩;rw[aax,f];rfl
theorem c9{v:V}{x:OD}{τ:List V}{θ:List OR}{L:List (V × OD)}:(v,x)∈stk ([v]++τ) ([OR.val x]++θ)++L:=by simp[stk]
theorem qf(b:Bs)(a:Addr)(ds:List PyData):kJ b (FE b.K a) [.ref a] [.val (.fz (.list ds))] ds:=λF J H C B M R k=>by
 obtain⟨G,j,e,L,n,_⟩:=R.wd.lsItems c9 (rfl:listOf (.fz (.list ds))=some ds);cases e;refine⟨λh=>⟨⟨j,j[k]'(by omega),n,aak _⟩,λx z d ⟨y,r⟩ g=>?_⟩,λe=>⟨j,n,by omega⟩⟩;subst y;obtain⟨q,I,u,s,t,_,N,A⟩:=R.itemAt c9 (rfl:seqOf (.fz (.list ds))=some ds) g;cases s;obtain⟨_,f,w,i,l,o⟩:=R.wd.lsItems c9 (rfl:listOf (.fz (.list ds))=some ds);cases w;have D:k < f.length:=by rw[i];exact (aao.mp g).1
 have v:=r f l;refine Rel.push R (o.pick (cI v ?_));rw[aax,g];rfl
theorem sv(b:Bs)(a:Addr)(ds:List PyData):kJ b (FF b.K a) [.ref a] [.val (.fz (.tuple ds))] ds:=λF s H q o u R k=>by obtain⟨r,f,e,t,g,w⟩:=R.wd.tpItems c9 (rfl:tupOf (.fz (.tuple ds))=some ds);cases e;refine⟨λh=>⟨⟨f,f[k]'(by omega),g,aak _⟩,λx n d ⟨l,j⟩ i=>?_⟩,λe=>⟨f,g,by omega⟩⟩;subst l;refine Rel.push R (w.pick (cI (j f g) ?_));rw[aax,i];rfl
def Gn(a:DE):DI:=λh Q=>a h λr f=>∃g d,frz1 f r=some (.list g,d)/\Q g d
theorem sx{k:Expr}:PDe X e da->PDi X k e (Gn da)
 | ⟨_,h,s⟩=>⟨_,vm h,λb F σ H ρ τ θ u Q f R h q=>s b F σ H ρ τ θ _ _ f R h λv i r ρ1 n ⟨ds,ρ2,e,l⟩=>by
  have d:=n.frz1 e;obtain⟨a,o,rfl,t,g,_⟩:=d.wd.lsItems (d.mem rfl) (rfl:listOf (.fz (.list ds))=some ds);rw[f]at g;exact⟨a,rfl,⟨o,g⟩,f ▸ q _ i ds ρ2 [.ref a] [.val (.fz (.list ds))] rfl (λr j=>.inl ⟨_,aaF.mp j⟩) d (qf b a ds) l⟩⟩
def Gp(a:DE):DI:=λh Q=>a h λr f=>∃g d,frz1 f r=some (.tuple g,d)/\Q g d
theorem wc{k:Expr}:PDe X e da->PDi X k e (Gp da)
 | ⟨_,h,s⟩=>⟨_,zo h,λb F σ H ρ τ θ u Q f R h q=>s b F σ H ρ τ θ _ _ f R h λv i r ρ1 n ⟨ds,ρ2,e,l⟩=>by
  have d:=n.frz1 e;obtain⟨a,o,rfl,t,g,_⟩:=d.wd.tpItems (d.mem rfl) (rfl:tupOf (.fz (.tuple ds))=some ds);rw[f]at g;exact⟨a,rfl,⟨o,g⟩,f ▸ q _ i ds ρ2 [.ref a] [.val (.fz (.tuple ds))] rfl (λr j=>.inl ⟨_,aaF.mp j⟩) d (sv b a ds) l⟩⟩
end
end
section
section
variable{X:Cx}{K:Waa}{a b c e:Expr}{es:List Expr}{sts:List Stmt}{st:Stmt}{da db dc:DE}{dt:DA}{d1 d2:DS}{dT:DT}{pos p:Pos}{x:Str}
def cD(ds:List PyData):List PyData:=(List.range ds.length).map λ(i:Nat)=>PyData.tuple [.int (i:Int),ds.getD i .none]
theorem cE(ds:List PyData):(cD ds).length=ds.length:=by simp[cD]
theorem qg{k:Nat}(h:(cD ds)[k]?=some d):∃e,ds[k]?=some e/\d=.tuple [.int k,e]:=by unfold cD at h;rw[aax]at h;obtain⟨j,i,rfl⟩:=aaL.mp h;obtain⟨f,g⟩:=aao.mp i;simp at f g;subst g;exact⟨ds[k],aak f,by rw[aba,aak f];rfl⟩
theorem Rel.newTup2{b:Bs}{d e:PyData}{p:Addr}(R:Rel b F σ H ρ τ θ)(w:Wd b H (Z++(stk τ θ++(flat σ ρ++ff F))))(i:(v,OD.fz d)∈Z)(h:(u,OD.fz e)∈Z)(g:H p=none) :
  Rel b F σ (upd H p (.tup [v,u])) ρ (.ref p::τ) (.val (.fz (.tuple [d,e]))::θ):=R.newTup w rfl (λz f=>by
   simp at f;rcases f with rfl | rfl
   ·exact aaf _ i
   ·exact aaf _ h) g
theorem qh(b:Bs)(a:Addr)(ds:List PyData):kJ b (E9 b.K a) [.ref a] [.val (.fz (.list ds))] (cD ds):=λF v H t s A R k=>by obtain⟨u,f,e,z,g,w⟩:=R.wd.lsItems c9 (rfl:listOf (.fz (.list ds))=some ds);cases e;rw[cE];refine⟨λh=>⟨⟨f,f[k]'(by omega),g,aak _⟩,λx q d ⟨T,y,o,n,l,m⟩ j=>?_⟩,λe=>⟨f,g,by omega⟩⟩;subst l m;obtain⟨r,i,rfl⟩:=qg j;refine Rel.newTup2 (Z:=(V.int k,OD.fz (.int k))::f.zip (ds.map OD.fz)) R (w.sc (.int _)) aag (aaj _ (cI (o f g) ?_)) n;rw[aax,i];rfl
def Dk(t:DA):DI:=λi Q=>t i λh f=>∃g d,frzL f h=some ([.list g],d)/\Q (cD g) d
theorem sy {A} {d:Pos} (C:Gl X "enumerate") (y:X.mg "enumerate"=none) (i:starEach [a] X.env=[(false,eval a X.env)]:=by rfl):PDa X [a] dt->PDi X (.Tuple es A d) (.Call (.Name "enumerate" p) [a] [] pos) (Dk dt)
 | ⟨_,h,s⟩=>⟨_,vK C y h i,λb F n H G m t N Q k R h q=>s b F n H G m t _ _ k R h λJ l M w o I ⟨g,f,e,D⟩=>by
  obtain⟨u,z⟩:=jw I o e
  match J,z with
  | [v],_ =>
   have j:Rel b F n l f (v::m) (.val (.fz (.list g))::t):=u;obtain⟨a,L,rfl,o,i,_⟩:=j.wd.lsItems (j.mem rfl) (rfl:listOf (.fz (.list g))=some g);rw[k]at i;exact⟨a,L,rfl,i,k ▸ q _ l _ f [.ref a] [.val (.fz (.list g))] rfl (λr B=>.inl ⟨_,aaF.mp B⟩) j (qh b a g) D⟩⟩
def fP(ds es:List PyData):List PyData:=List.zipWith (λd e=>PyData.tuple [d,e]) ds es
theorem sA{ds es:List PyData}{k:Nat}(h:(fP ds es)[k]?=some d):∃x y,ds[k]?=some x/\es[k]?=some y/\d=.tuple [x,y]:=by
 unfold fP at h;rw[List.getElem?_zipWith]at h;cases f:ds[k]? with
 | none=>rw[f]at h;simp at h
 | some x =>
  cases g:es[k]? with
  | none=>rw[f,g]at h;simp at h
  | some y=>rw[f,g]at h;exact⟨x,y,rfl,rfl,(aaC h).symm⟩
def Dm:PyData->Option (Bool × List PyData)
 | .list ds=>some (true,ds)
 | .tuple ds=>some (false,ds)
 | _=>none
def mf(l:Bool)(a:Addr)(xs:List V):ZS:=if l then .lst a xs else .tup a xs
theorem dJ{a:Addr}(h:if l then SqL K H a xs else SqT K H a xs):(mf l a xs).ok K H:=by cases l<;>exact h
theorem kL(l:Bool)(a:Addr)(xs:List V):(mf l a xs).val=.ref a:=by cases l<;>rfl
theorem bV(l:Bool)(a:Addr)(xs:List V):(mf l a xs).items=xs:=by cases l<;>rfl
theorem sC(h:Dm d=some (l,ds)):d=if l then .list ds else .tuple ds:=by cases d<;>simp only[Dm]at h<;>cases h<;>rfl
theorem sE(b:Bs)(a c:Addr)(l g:Bool)(xs ys:List V)(ds es:List PyData):kJ b (FU b.K (mf l a xs) (mf g c ys)) [.ref a,.ref c] [.val (.pin l xs ds),.val (.pin g ys es)] (fP ds es):=λF L H G D N R k=>by
 obtain⟨I,e,M,m,w⟩:=R.wd.pinned (v:=.ref a) (l:=l) (xs:=xs) (ds:=ds) (by simp[stk]);cases e;obtain⟨J,e,u,f,i⟩:=w.pinned (v:=.ref c) (l:=g) (xs:=ys) (ds:=es) (by simp[stk]);cases e;have B:(fP ds es).length=min ds.length es.length:=by simp[fP]
 rw[B];refine⟨λh=>⟨⟨dJ m,dJ f,by rw[bV];omega,by rw[bV];omega⟩,λx C d ⟨T,y,z,n,j,A,r,o⟩ q=>?_⟩,λe=>⟨dJ m,dJ f,by rw[bV,bV];omega⟩⟩;subst r o;rw[bV]at n j;obtain⟨d1,d2,s,t,rfl⟩:=sA q;rw[<- aac]at i;refine Rel.newTup2 R i (aad _ (cI n ?_)) (aaf _ (cI j ?_)) A
 ·rw[aax,s];rfl
 ·rw[aax,t];rfl
def Gq(t:DA):DI:=λi Q=>t i λh f=>∃x y l k g es d,frzL f h=some ([x,y],d)/\Dm x=some (l,g)/\Dm y=some (k,es)/\Q (fP g es) d
theorem we {N} {f:Pos} (O:Gl X "zip") (L:X.mg "zip"=none) (j:starEach [a,b] X.env=[(false,eval a X.env),(false,eval b X.env)]:=by rfl) (z:starEach [b] X.env=[(false,eval b X.env)]:=by rfl):PDa X [a,b] dt->PDi X (.Tuple es N f) (.Call (.Name "zip" p) [a,b] [] pos) (Gq dt)
 | ⟨_,h,s⟩=>⟨_,zL O L h j z,λb F B H S t C Qd Q A R h q=>s b F B H S t C _ _ A R h λvs n rs I Y T ⟨x,y,l,k,ds,es,d,e,Z,W,P⟩=>by
  obtain⟨D,M⟩:=jw T Y e;obtain⟨v,u,rfl⟩:=len2 M;have w:Wd b n ((v,.fz x)::(u,.fz y)::(stk t C++(flat B d++ff F))):=D.wd;have o:Rel b F B n d t C:=Rel.drops D rfl;obtain⟨xs,U⟩:=w.pin (sC Z);obtain⟨i,J⟩:=(U.perm (List.Perm.swap _ _ _)).pin (sC W);have m:=J.perm (List.Perm.swap _ _ _);obtain⟨a,rfl,_,j,_⟩:=m.pinned (v:=v) (l:=l) (xs:=xs) (ds:=ds) (by simp);obtain⟨c,rfl,_,g,_⟩:=m.pinned (v:=u) (l:=k) (xs:=i) (ds:=es) (by simp);rw[A]at j g;refine⟨mf l a xs,mf k c i,by rw[kL,kL],dJ j,dJ g,A ▸ q _ n _ d [.ref a,.ref c] [.val (.pin l xs ds),.val (.pin k i es)] rfl (λr G=>by simp at G;rcases G with rfl | rfl<;>exact .inl ⟨_,rfl⟩) ?_ (sE b a c l k xs i ds es) P⟩;exact⟨o.wf,o.al,o.wff,m⟩⟩
end
end
section
def cF:DEnv->List Nat->Option (DEnv × DEnv)
 | ρ,[]=>some ([],ρ)
 | ρ,j::js=>match ρ[j]?.join with
  | some (.fz d)=>match cF ρ js with | some z=>some (some (.fz d)::z.1,z.2) | none=>none
  | some x=>match cF (ρ.set j none) js with | some z=>some (some x::z.1,z.2) | none=>none
  | none=>none
def eP:DEnv->List Nat->DEnv->DEnv
 | ρ,j::js,some x::os=>eP (ρ.set j (some x)) js os
 | ρ,_::js,none::os=>eP ρ js os
 | ρ,_,_=>ρ
def capV(σ:St)(js:List Nat):St:=js.map λj=>(σ[j]?).join
section
variable{b:Bs}{F:List Fr}{σ σ':St}{H H':Hp}{τ vs:List V}{θ rs:List OR}{v u:V}{x y:OD}{d:PyData}{ds:List PyData}{i:Nat}{L:List (V × OD)}
theorem wg(h:o=some (some v)):o.join=some v:=by rw[h];rfl
theorem nG:∀{js:List Nat} {ρ a ρ2:DEnv} {L1 L2:List (V × OD)},Wd b H (L1++(flat σ ρ++L2))->Wf σ ρ->cF ρ js=some (a,ρ2)->Wd b H (flat (capV σ js) a++(L1++(flat σ ρ2++L2)))/\Wf σ ρ2/\Wf (capV σ js) a
 | [],ρ,a,ρ2,L1,L2,w,wf,e=>by simp only[cF]at e;cases e;exact⟨w,wf,trivial⟩
 | j::js,ρ,a,ρ2,L1,L2,w,wf,e=>by
  cases h:ρ[j]?.join with
  | none=>simp[cF,h]at e
  | some x =>
   have m:=join_some h;obtain⟨v,r⟩:=wf.get m;have t:Wd b H ((v,x)::(L1++(flat σ (ρ.set j none)++L2))):=w.perm ((((bt m r).append_right _).append_left _).trans aaw);have l:∀{y:OD} {c:DEnv} {z:DEnv × DEnv},Wd b H ((v,y)::(L1++(flat σ c++L2)))->Wf σ c->cF c js=some z->(some y::z.1,z.2)=(a,ρ2)->Wd b H (flat (capV σ (j::js)) a++(L1++(flat σ ρ2++L2)))/\Wf σ ρ2/\Wf (capV σ (j::js)) a:=λ{y c z} n wf1 g f=>by
    cases f;obtain⟨B,p,o⟩:=nG (L1:=(v,y)::L1) n wf1 (show cF c js=some (z.1,z.2) from g);have I:capV σ (j::js)=some v::capV σ js:=by unfold capV;rw[aal,wg r]
    rw[I];exact⟨B.perm aaw,p,o⟩
   have G:∀{z:DEnv × DEnv},cF (ρ.set j none) js=some z->(some x::z.1,z.2)=(a,ρ2)->Wd b H (flat (capV σ (j::js)) a++(L1++(flat σ ρ2++L2)))/\Wf σ ρ2/\Wf (capV σ (j::js)) a:=λ{z} g f=>l t wf.off g f;have k:∀{c:DEnv} {y:OD},(match cF c js with | some z=>some (some y::z.1,z.2) | none=>none)=some (a,ρ2)->∃z,cF c js=some z/\(some y::z.1,z.2)=(a,ρ2):=λ{c y} q=>by
    cases s:cF c js with
    | none=>rw[s]at q;cases q
    | some z=>rw[s]at q;exact⟨z,rfl,aaC q⟩
   cases x with
   | fz d =>simp only[cF,h]at e;obtain⟨z,g,f⟩:=k e;have n:=t.dup;have D:j < ρ.length:=(aao.mp m).1;have C:σ.set j (some v)=σ:=set_self r;have A:=cB (v:=v) (x:=.fz d) D wf.len;rw[C,set_self m]at A;exact l (n.perm (List.Perm.cons _ (aaw.symm.trans ((A.symm.append_right _).append_left _)))) wf g f
   | _ =>simp only[cF,h]at e;obtain⟨z,g,f⟩:=k e;exact G g f
theorem jE:∀{js:List Nat} {ρ a:DEnv} {L1 L2:List (V × OD)},Wd b H (L1++(flat (capV σ js) a++(flat σ ρ++L2)))->Wf σ ρ->Wf (capV σ js) a->Wd b H (L1++(flat σ (eP ρ js a)++L2))/\Wf σ (eP ρ js a)
 | [],ρ,a,L1,L2,w,wf,wf2=>by
  cases a with
  | nil=>exact⟨w,wf⟩
  | cons _ _=>simp[capV,Wf]at wf2
 | j::js,ρ,[],L1,L2,w,wf,wf2=>by simp[capV,Wf]at wf2
 | j::js,ρ,o::a,L1,L2,w,wf,wf2=>by
  have n:capV σ (j::js)=(σ[j]?).join::capV σ js:=rfl;rw[n]at w wf2;cases o with
  | none =>rw[bp]at w;exact jE (js:=js) w wf (by cases h:(σ[j]?).join<;>(rw[h]at wf2;exact wf2))
  | some x =>
   cases h:(σ[j]?).join with
   | none=>rw[h]at wf2;simp[Wf]at wf2
   | some v =>
    rw[h]at w wf2;have l:Wd b H ((v,x)::(L1++(flat (capV σ js) a++(flat σ ρ++L2)))):=w.perm (aaw )
    ·have f:=join_some h;have k:j < ρ.length:=by rw[<- wf.len];exact (aao.mp f).1
     have e:σ.set j (some v)=σ:=set_self f;have g:=cB (v:=v) (x:=x) k wf.len;rw[e]at g;have c:Wf σ (ρ.set j (some x)):=by have:=wf.put (i:=j) (v:=v) (x:=x);rw[e]at this;exact this
     refine jE (ρ:=ρ.set j (some x)) ?_ c wf2;have m:Wd b H (((v,x)::L1++flat (capV σ js) a)++(flat σ (ρ.set j none)++L2)):=Wd.offSlot (by simpa using l) wf j;refine m.perm ?_;rw[<- aac L1];refine List.Perm.trans ?_ ((g.symm.append_right _).append_left _);simp only[aaG];exact aaw.symm
theorem Wf.drop:∀{n:Nat} {σ:St} {ρ:DEnv},Wf σ ρ->Wf (σ.drop n) (ρ.drop n)
 | 0,_,_,h=>h
 | _ + 1,[],[],_=>trivial
 | _ + 1,[],_::_,h=>by simp[Wf]at h
 | _ + 1,_::_,[],h=>by simp[Wf]at h
 | n + 1,o::σ,none::ρ,h=>Wf.drop (n:=n) h
 | n + 1,some _::σ,some _::ρ,h=>Wf.drop (ρ:=ρ) h
 | _ + 1,none::_,some _::_,h=>by simp[Wf]at h
theorem fQ:∀{n:Nat} {σ:St} {ρ:DEnv},Wf σ ρ->∃L,flat σ ρ=L++flat (σ.drop n) (ρ.drop n)
 | 0,σ,ρ,_=>⟨[],rfl⟩
 | _ + 1,[],[],_=>⟨[],rfl⟩
 | _ + 1,[],_::_,h=>by simp[Wf]at h
 | _ + 1,_::_,[],h=>by simp[Wf]at h
 | n + 1,o::σ,none::ρ,h=>by obtain⟨L,e⟩:=fQ (ρ:=ρ) h;exact⟨L,by rw[bp];exact e⟩
 | n + 1,some v::σ,some x::ρ,h=>by obtain⟨L,e⟩:=fQ (ρ:=ρ) h;exact⟨(v,x)::L,by simp only[flat,aaG,List.drop_succ_cons];rw[e]⟩
 | _ + 1,none::_,some _::_,h=>by simp[Wf]at h
theorem sF:flat (List.replicate n none++σ) (List.replicate n none++ρ)=flat σ ρ:=by
 induction n with
 | zero=>rfl
 | succ n a=>rw[aaJ,aaJ,aaG,aaG,bp,a]
theorem As(h:Wf σ ρ):Wf (List.replicate n none++σ) (List.replicate n none++ρ):=by
 induction n with
 | zero=>exact h
 | succ n a=>rw[aaJ,aaJ];exact a
theorem Rel.grow(R:Rel b F σ H ρ (v::(vs++[.ref D])) (.val (.fz d)::(rs++[.val (.lst (out.map OD.fz))])))(e:vs.length=rs.length) :
  ∃ys,H D=some (.lst ys)/\ys.length=out.length/\Rel b F σ (upd H D (.lst (ys++[v]))) ρ (vs++[.ref D]) (rs++[.val (.lst ((out++[d]).map OD.fz))]):=by
 have f:=R.drop;have t:stk (vs++[.ref D]) (rs++[.val (.lst (out.map OD.fz))])=stk vs rs++[(.ref D,.lst (out.map OD.fz))]:=by rw[aH e];rfl
 have w:Wd b H ((v,.fz d)::((stk vs rs++[(.ref D,.lst (out.map OD.fz))])++(flat σ ρ++ff F))):=by have:=R.wd;simp only[stk]at this;rw[t]at this;exact this
 have j:Wd b H ([v].zip [OD.fz d]++((.ref D,.lst (out.map OD.fz))::(stk vs rs++(flat σ ρ++ff F)))):=w.perm (by
  refine List.Perm.cons _ ?_;rw[aac];exact aaw)
 obtain⟨a,ys,r,q,g,l⟩:=j.mutL (ks:=[]) rfl rfl;cases r;refine⟨ys,q,by simpa using g,f.wf,?_,f.wff,?_⟩
 ·obtain⟨p,_⟩:=(aY e).mp f.al;exact (aY e).mpr ⟨p,trivial⟩
 ·have h:=l (ys++[v]) ((out++[d]).map OD.fz) λS H A C z m o n=>⟨A++C,by rw[aav];exact Ows.append m o,n,λc s=>aan.mp s⟩
  have k:stk (vs++[.ref D]) (rs++[.val (.lst ((out++[d]).map OD.fz))])=stk vs rs++[(.ref D,.lst ((out++[d]).map OD.fz))]:=by rw[aH e];rfl
  rw[k];refine h.perm ?_;rw[aac];exact aaw.symm
end
theorem Au{a:Type}(A B C T F:List a):(A++(B++(C++(T++F)))).Perm (B++(A++((T++C)++F))):=by refine (ab7 A B _).trans (abb _ (abb _ ?_));rw[<- aac];exact aa1.append_right _
abbrev DC:=DEnv->(List PyData->DEnv->Prop)->Prop
def qi(K:Waa)(h:TC)(i:DC):Prop:=∀(b:Bs) (F:List Fr) (e:St) (H:Hp) (f:DEnv) (vs:List V) (d:List OR) (D:Addr) (a:List PyData) (Qd:List PyData->DEnv->Prop) (Q:Hp->Prop),b.K=K->vs.length=d.length->a.length < 1000000->Rel b F e H f (vs++[.ref D]) (d++[.val (.lst (a.map OD.fz))])->i f Qd ->
 (∀g c o,Rel b F e g c (vs++[.ref D]) (d++[.val (.lst ((a++o).map OD.fz))])->o.length<=1->Qd o c->Q g)->h D e H Q
inductive PDc (Y:Cx)(ifs:List Expr)(elt:Expr)(dc:DC):Prop | mk (tc:TC) (h:∀D,kz Y D ifs elt tc) (s:qi Y.K tc dc)
section
variable{X Y:Cx}{K:Waa}{a b c e elt iter tg:Expr}{es ifs:List Expr}{da db:DE}{dT:DT}{pos p:Pos}{x:Str}
def sH(a:DE):DC:=λh Q=>a h λr g=>∃d f,frz1 g r=some (d,f)/\Q [d] f
theorem kM(s:cS K ta da):qi K (nj ta) (sH da):=λb F o H k C z D g G Q m w B R h q=>s b F o H k _ _ _ _ m R h λv A r f l ⟨d,u,e,j⟩=>by obtain⟨n,t,y,i⟩:=(l.frz1 e).grow w;exact⟨n,t,aay (by omega) (by decide:1000001<=sizeLine),q _ _ _ i (aah _) j⟩
theorem qj:PDe Y elt da->PDc Y [] elt (sH da)
 | ⟨_,h,s⟩=>⟨_,λD=>pL h,kM s⟩
def wk(t:DT)(a:DE):DC:=λf Q=>t f λk d=>if k=true then sH a d Q else Q [] d
theorem sI:PDt Y c dT->PDe Y elt da->PDc Y [c] elt (wk dT da)
 | ⟨_,d,s1⟩,⟨_,h2,s2⟩=>⟨_,λD=>rE d h2,λb F σ H ρ vs rs D out m Q i l j R h q=>s1 b F σ H ρ _ _ _ _ i R h λk f ρ1 g d=>by
  cases k with
  | true=>rw[if_pos rfl]at d ⊢;exact kM s2 b F σ f ρ1 vs rs D out _ _ i l j g d q
  | false=>rw[if_neg aae]at d ⊢;exact q f ρ1 [] (by rw[aap];exact g) (aaH _) d⟩
def nH(t:DI)(nt:Nat)(fr:List Nat)(g:DG)(s:DC):DE:=λi Q=>t i λr n=>r.length < 1000000/\∃h j,cF n fr=some (h,j)/\∃m:Nat->List PyData->DEnv->Prop,m 0 [] (List.replicate nt none++h) /\
 (∀k d f i,r[k]?=some d->m k f i->g (.fz d) i λq=>s q λo l=>m (k + 1) (f++o) l)/\∀f i,m r.length f i->Q (.val (.lst (f.map OD.fz))) (eP j fr (i.drop nt))
theorem Av{d:Type}(x:d)(S L P T C F:List d):(x::(S++((L++P)++((T++C)++F)))).Perm (L++((x::(S++T))++(P++(C++F)))):=by
 have e:x::(S++((L++P)++((T++C)++F)))=x::(S++(L++(P++(T++(C++F))))):=by simp only[aac]
 rw[e];refine List.Perm.trans ?_ aaw.symm;refine List.Perm.cons _ ((ab7 S L _).trans (abb _ ?_));show (S++(P++(T++(C++F)))).Perm ((S++T)++(P++(C++F)));rw[aac];exact abb _ (ab7 P T _)
def Dn{f:Type}(acc:f->OD)(i:f->Nat)(K:Waa)(m:TC)(da:f->DEnv->(f->DEnv->Prop)->Prop):Prop:=∀(b:Bs) (F:List Fr) (j:St) (H:Hp) (l:DEnv) (vs:List V) (h:List OR) (D:Addr) (d:f) (Qd:f->DEnv->Prop) (Q:Hp->Prop),b.K=K->vs.length=h.length->i d < 1000000->Rel b F j H l (vs++[.ref D]) (h++[.val (acc d)])->da d l Qd ->
 (∀k g o,Rel b F j k g (vs++[.ref D]) (h++[.val (acc o)])->i o<=i d + 1->Qd o g->Q k)->m D j H Q
def tCG(o0:HO)(J:It)(nt:Nat)(fr:List Nat)(g:CC->TG)(n:CC->TC)(σ:St)(H1:Hp)(Q:VK):Prop:=∀(c:CC) D,H1 D=none->∃W:Nat->Nat->St->Hp->Prop,(∃m,W 0 m (bw nt fr σ) (upd H1 D o0)) /\
 ∀i m d h,W i m d h->(J.stop i h/\Q (.ref D) h)\/(J.go i h/\∀x j,J.yld i h x j->g c x d j λf o=>n c D f o λl=>∃k,k < m/\W (i + 1) k f l)
theorem kN{u:Type}{acc:u->OD}{M:u->Nat}{a0:u}{da:u->DEnv->(u->DEnv->Prop)->Prop}(I:∀{b:Bs} {H:Hp} {L:List (V × OD)} {D:Addr},Wd b H L->H D=none->Wd b (upd H D o0) ((.ref D,acc a0)::L))(l0:M a0=0)(s2:∀c,qc K Ff nt (g c) dg)(s3:∀c,Dn acc M K (tc c) da){b:Bs}{Iv:Nat->u->DEnv->Prop}(hK:b.K=K)(s:vs.length=rs.length)(nr:NoRf Ff rs)
  (v:Rel b F σ H1 ρ1 (vs++τ) (rs++θ)) (it:kJ b J vs rs ds) (a1:ds.length < 1000000) (hc:cF ρ1 fr=some (inner,ρ2)) (i0:Iv 0 a0 (List.replicate nt none++inner)) (step:∀k d out ρ,ds[k]?=some d->Iv k out ρ->dg (.fz d) ρ λh=>da out h λo B=>Iv (k + 1) o B)
  (q:∀n D out h,Rel b F σ n (eP ρ2 fr (h.drop nt)) (.ref D::(vs++τ)) (.val (acc out)::(rs++θ))->Iv ds.length out h->Q (.ref D) n):tCG o0 J nt fr g tc σ H1 Q:=by
 intro cc D hD;have w1:Wd b H1 (stk vs rs++(flat σ ρ1++(stk τ θ++ff F))):=v.wd.perm (by
  rw[aH s,aac];refine abb _ ?_;rw[<- aac,<- aac];exact aa1.append_right _)
 obtain⟨w2,A,U⟩:=nG w1 v.wf hc;have al:=(aY s).mp v.al;have w3:=I w2 hD;have R2:Rel b (⟨σ,ρ2,τ,θ⟩::F) (bw nt fr σ) (upd H1 D o0) (List.replicate nt none++inner) (vs++[.ref D]) (rs++[.val (acc a0)]):=by
  refine⟨As U,(aY s).mpr ⟨nr.al0 al.1,trivial⟩,λf S=>?_,?_⟩
  ·rcases aaa.mp S with rfl | S
   ·exact⟨A,al.2⟩
   ·exact v.wff f S
  ·have ec:flat (bw nt fr σ) (List.replicate nt none++inner)=flat (capV σ fr) inner:=sF;rw[ec,aH s];refine w3.perm ?_;have ef:ff (⟨σ,ρ2,τ,θ⟩::F)=(stk τ θ++flat σ ρ2)++ff F:=rfl;rw[ef];have W:stk [V.ref D] [OR.val (acc a0)]=[(V.ref D,acc a0)]:=rfl;rw[W];refine List.Perm.trans (List.Perm.cons _ (Au (flat (capV σ fr) inner) (stk vs rs) (flat σ ρ2) (stk τ θ) (ff F))) ?_;rw[aac (stk vs rs)];exact aaw.symm
 refine⟨λi m l n=>m=ds.length - i/\i<=ds.length/\(∀j,nt<=j->l[j]?=(bw nt fr σ)[j]?)/\∃out h,M out<=i/\Rel b (⟨σ,ρ2,τ,θ⟩::F) l n h (vs++[.ref D]) (rs++[.val (acc out)])/\Iv i out h,⟨_,rfl,aaH _,λ_ _=>rfl,a0,_,Nat.le_of_eq l0,R2,i0⟩,?_⟩;rintro i m l n ⟨rfl,hi,z,out,h,ho,C,Z⟩;obtain⟨go,y⟩:=it _ l n h [.ref D] [.val (acc out)] C i;by_cases t:i < ds.length
 ·obtain⟨g1,g2⟩:=go t;refine .inr ⟨g1,λx H2 hy=>?_⟩;have w:ds[i]?=some ds[i]:=aak t;have nn:NoRf Ff (rs++[.val (acc out)]):=NoRf.app nr λr hr=>.inl ⟨_,aaF.mp hr⟩;refine s2 cc b _ l H2 h _ _ x _ _ _ hK nn (g2 x H2 _ hy w) (step i _ out h w Z) λG H3 T R3 k3 h3=>?_;exact s3 cc b _ G H3 T vs rs D out _ _ hK s (by omega) R3 h3 λH4 N o R4 lo h4=>⟨_,by omega,rfl,t,λj hj=>(k3 j hj).1.trans (z j hj),o,N,by omega,R4,h4⟩
 ·have e:i=ds.length:=by omega
  subst e;refine .inl ⟨y rfl,q n D out h ?_ Z⟩;have w:l.drop nt=capV σ fr:=by apply ab8;intro j;rw[List.getElem?_drop,z _ (by omega)];unfold bw capV;rw[aa8 (by simp),aby,acl]
  have w4:Wd b n ((.ref D,acc out)::(stk vs rs++(flat l h++((stk τ θ++flat σ ρ2)++ff F)))):=C.wd.perm (by
   rw[aH s];have W:stk [V.ref D] [OR.val (acc out)]=[(V.ref D,acc out)]:=rfl;rw[W,aac];exact aaw)
  obtain⟨L0,eL⟩:=fQ C.wf;rw[eL,w]at w4;have w5:Wd b n (((.ref D,acc out)::stk (vs++τ) (rs++θ))++(flat (capV σ fr) (h.drop nt)++(flat σ ρ2++ff F))):=by refine Wd.drops (L1:=L0) (w4.perm ?_);rw[aH s];exact Av (.ref D,acc out) (stk vs rs) L0 (flat (capV σ fr) (h.drop nt)) (stk τ θ) (flat σ ρ2) (ff F)
  have O:Wf (capV σ fr) (h.drop nt):=w ▸ C.wf.drop;obtain⟨w6,P⟩:=jE w5 A O;exact⟨P,v.al,v.wff,w6⟩
theorem qk{l:DC}(y:∀c,qc K Ff nt (g c) dg)(t:∀c,qi K (tc c) l){b:Bs}{F:List Fr}{Iv:Nat->List PyData->DEnv->Prop}(m:b.K=K)(r:vs.length=rs.length)(A:NoRf Ff rs)
  (z:Rel b F σ H1 ρ1 (vs++τ) (rs++θ)) (it:kJ b J vs rs ds) (n:ds.length < 1000000) (G:cF ρ1 fr=some (inner,ρ2)) (B:Iv 0 [] (List.replicate nt none++inner)) (step:∀k d out ρ,ds[k]?=some d->Iv k out ρ->dg (.fz d) ρ λf=>l f λo i=>Iv (k + 1) (out++o) i)
  (q:∀j D out f,Rel b F σ j (eP ρ2 fr (f.drop nt)) (.ref D::(vs++τ)) (.val (.lst (out.map OD.fz))::(rs++θ))->Iv ds.length out f->Q (.ref D) j):ky (λ_ _ k=>k J H1) nt fr g tc σ H1 Q :=
 kN (da:=λout ρ Q=>l ρ λo f=>Q (out++o) f) (λw h=>Wd.newLst w rfl h) rfl y (λc b F σ H ρ vs rs D out C Q m r v R h q=>t c b F σ H ρ vs rs D out (λo f=>C (out++o) f) Q m r v R h λj f o s I u=>q j f (out++o) s (by rw[aai];omega) u) m r A z it n G B step q
theorem kO(u:Dh K wi di)(v:∀c,qc K Ff nt (g c) dg)(t:∀c,qi K (tc c) dc):cS K (ky wi nt fr g tc) (nH di nt fr dg dc):=by intro b F C H z w N W Q n R h q;refine u b F C H z w N _ _ n R h λJ S Z o T P l G A B s=>?_;obtain⟨j,i,I,M,U,L,d,m⟩:=s;exact qk v t n l G A B j M L d λO D f k r y=>q _ O _ _ (Rel.drops (Rel.tor r l) l) (m f k y)
end
end
section
section
variable{X:Cx}{K:Waa}{a b c e elt iter tg:Expr}{es ifs:List Expr}{da db dc':DE}{dt:DA}{dT:DT}{pos p:Pos}{x:Str}{N:List Str}{nt:Nat}{fr:List Nat}{scope:Scope}{di:DI}{dg:DG}{dc:DC}
theorem PDg.ex{Y:CC->Cx}(f:∀c,(Y c).K=K)(h:∀c,PDg (Y c) Ff m tg dg):∃g:CC->TG,∀c,PG (Y c) tg (g c)/\qc K Ff m (g c) dg :=
 ab9 (r:=λc g=>PG (Y c) tg g/\qc K Ff m g dg) λc=>(by obtain⟨j,d,i⟩:=h c;exact⟨j,d,f c ▸ i⟩)
theorem PDc.ex{Y:CC->Cx}(f:∀c,(Y c).K=K)(h:∀c,PDc (Y c) ifs elt dc):∃g:CC->TC,∀c,(∀D,kz (Y c) D ifs elt (g c))/\qi K (g c) dc :=
 ab9 (r:=λc g=>(∀D,kz (Y c) D ifs elt g)/\qi K g dc) λc=>(by obtain⟨j,d,i⟩:=h c;exact⟨j,d,f c ▸ i⟩)
theorem wm(l:X.calm=true)(S:CompScope N nt fr X.N scope X.env.scope)(h:∀x,foldedSetIterable iter X.env x=pure x:=by intro _;rfl)(i:PDi X tg iter di)(m:∀c:CC,PDg (dG X N scope c) Ff nt tg dg)(k:∀c:CC,PDc (dG X N scope c) ifs elt dc) :
  PDe X (.ListComp elt [⟨tg,iter,ifs,0⟩] scope pos) (nH di nt fr dg dc):=by
 obtain⟨o,j,n⟩:=i;obtain⟨g,f⟩:=PDg.ex (K:=X.K) (Y:=λc=>dG X N scope c) (λ_=>rfl) m;obtain⟨q,d⟩:=PDc.ex (Y:=λc=>dG X N scope c) (λ_=>rfl) k;exact⟨_,vB l S j (λc=>(f c).1) (λc D=>(d c).1 D) h,kO n (λc=>(f c).2) λc=>(d c).2⟩
end
def bB:List Bool->DEnv->List OR->Option (List OD × DEnv)
 | [],ρ,[]=>some ([],ρ)
 | true::ios,ρ,r::rs=>match mv1 ρ r with
  | some (x,ρ1)=>match bB ios ρ1 rs with | some (xs,ρ2)=>some (x::xs,ρ2) | none=>none
  | none=>none
 | false::ios,ρ,r::rs=>match frz1 ρ r with
  | some (d,ρ1)=>match bB ios ρ1 rs with | some (xs,ρ2)=>some (.fz d::xs,ρ2) | none=>none
  | none=>none
 | _,_,_=>none
def i5:List Bool->List OR->List OD->DEnv->DEnv
 | true::ios,.rf j::rs,y::ys,ρ=>i5 ios rs ys (ρ.set j (some y))
 | _::ios,_::rs,_::ys,ρ=>i5 ios rs ys ρ
 | _,_,_,ρ=>ρ
section
variable{b:Bs}{F:List Fr}{σ:St}{H H':Hp}{ρ ρ':DEnv}{τ vs:List V}{θ rs:List OR}{v u:V}{r:OR}{x y:OD}{d:PyData}{i j:Nat}
theorem argsR_ok:∀{ios:List Bool} {vs:List V} {rs:List OR} {ρ ρ':DEnv} {xs:List OD} {τ:List V} {θ:List OR},Rel b F σ H ρ (vs++τ) (rs++θ)->vs.length=rs.length->bB ios ρ rs=some (xs,ρ')->Rel b F σ H ρ' (vs++τ) (xs.map OR.val++θ)/\vs.length=xs.length
 | [],[],[],_,_,_,_,_,R,_,e=>by simp only[bB]at e;cases e;exact⟨R,rfl⟩
 | true::ios,v::vs,r::rs,ρ,ρ',ds,τ,θ,R,e,h=>by
  simp only[bB]at h;split at h
  ·rename_i x ρ1 k;split at h
   ·rename_i xs ρ2 l;cases h;have f:Rel b F σ H ρ1 (v::(vs++τ)) (.val x::(rs++θ)):=Rel.mv1 R k;have a:vs.length=rs.length:=by simpa using e
    obtain⟨g,c⟩:=argsR_ok (Rel.tor f a) a l;exact⟨Rel.rot g (by rw[c,aab]),by simp[c]⟩
   ·cases h
  ·cases h
 | false::ios,v::vs,r::rs,ρ,ρ',ds,τ,θ,R,e,h=>by
  simp only[bB]at h;split at h
  ·rename_i x ρ1 k;split at h
   ·rename_i xs ρ2 l;cases h;have f:Rel b F σ H ρ1 (v::(vs++τ)) (.val (.fz x)::(rs++θ)):=Rel.frz1 R k;have a:vs.length=rs.length:=by simpa using e
    obtain⟨g,c⟩:=argsR_ok (Rel.tor f a) a l;exact⟨Rel.rot g (by rw[c,aab]),by simp[c]⟩
   ·cases h
  ·cases h
 | _,[],_::_,_,_,_,_,_,_,e,_=>by simp at e
 | _,_::_,[],_,_,_,_,_,_,e,_=>by simp at e
 | [],_::_,_::_,_,_,_,_,_,_,_,h=>by simp[bB]at h
 | true::_,[],[],_,_,_,_,_,_,_,h=>by simp[bB]at h
 | false::_,[],[],_,_,_,_,_,_,_,h=>by simp[bB]at h
theorem Rel.give(R:Rel b F σ H ρ (v::τ) (.val y::θ))(ev:σ[j]?=some (some v)):Rel b F σ H (ρ.set j (some y)) τ θ :=
 Rel.back R.wf (Rel.drop R).al R.wff ev (Wd.offSlot R.wd R.wf j)
theorem cG:∀{ios:List Bool} {vs:List V} {rs:List OR} {ys:List OD} {ρ:DEnv},Al σ vs rs->vs.length=ys.length->Rel b F σ H ρ (vs++τ) (ys.map OR.val++θ)->Rel b F σ H (i5 ios rs ys ρ) τ θ
 | ios,[],[],[],ρ,_,_,R=>by cases ios with | nil=>exact R | cons i ios=>cases i<;>exact R
 | [],v::vs,r::rs,y::ys,ρ,al,e,R=>by
  have a:Al σ vs rs:=by cases r with | val _=>exact al | rf _=>exact al.2
  have:=cG (ios:=[]) a (by simpa using e) (Rel.drop R);cases vs<;>cases rs<;>cases ys<;>exact this
 | true::ios,v::vs,.rf j::rs,y::ys,ρ,al,e,R=>cG (ys:=ys) al.2 (by simpa using e) (Rel.give R al.1)
 | true::ios,v::vs,.val x::rs,y::ys,ρ,al,e,R=>cG (ys:=ys) al (by simpa using e) (Rel.drop R)
 | false::ios,v::vs,.rf j::rs,y::ys,ρ,al,e,R=>cG (ys:=ys) al.2 (by simpa using e) (Rel.drop R)
 | false::ios,v::vs,.val x::rs,y::ys,ρ,al,e,R=>cG (ys:=ys) al (by simpa using e) (Rel.drop R)
 | _,[],_::_,_,_,al,_,_=>by simp[Al]at al
 | _,_::_,[],_,_,al,_,_=>by simp[Al]at al
 | _,[],_,_::_,_,_,e,_=>by simp at e
 | _,_::_,_,[],_,_,e,_=>by simp at e
end
structure FnD (P:Program)(w:World)(K:Waa)(mg:Str->Option Value)(base:Heap)(k:Nat)(f:Addr)(fd:FuncData)(ps:List Str)(sp:DSp):Prop where
 ok:FnOk P w K mg base CX0 k f fd ps (toSp K sp)
 mono:vO sp
section
variable{X:Cx}{K:Waa}{a b c e:Expr}{es:List Expr}{da db dc:DE}{dt:DA}{pos p:Pos}{x:Str}{k:Nat}{f:Addr}{fd:FuncData}{ps:List Str}{sp:DSp}
def ym(sp:DSp)(ios:List Bool)(t:DA):DE:=λl Q=>t l λi g=>∃h d,bB ios g i=some (h,d)/\sp h λx j=>Q (.val x) (i5 ios i j d)
theorem sJ(G:FnD X.prog X.w X.K X.mg X.base k f fd ps sp)(C:z7 X.K ta dt):cS X.K (ye (toSp X.K sp) [] E0 ta) (ym sp ios dt):=λb F y H J j m T Q t R h q=>C b F y H J j m _ _ t R h λs P O A z r ⟨S,l,N,I⟩=>by
  obtain⟨o,i⟩:=argsR_ok r z N;have M:=((aY z).mp r.al).1;have w:=o.vals i;rw[aap,<- t];refine w.call i G.mono (G.mono _ _ _ (λx u L d v n B=>q v n _ _ ?_ L) I);have D:Rel b F y n l (v::(s++j)) (.val x::(u.map OR.val++m)):=by have g:=o.drops (by simpa using i);refine⟨g.wf,(aY (by simpa using d)).mpr ⟨jB d,g.al⟩,g.wff,?_⟩;show Wd b n ((v,x)::(stk (s++j) (u.map OR.val++m)++_));rw[aH (by simpa using d),cW d,aac];exact B
  exact cG M d (Rel.tor D (by simpa using d))
theorem wo {ios:List Bool} (G:FnD X.prog X.w X.K X.mg X.base k f fd ps sp) (j:Room k X.A) (m:Gl X x) (l:X.mg x=some (.ref f)) (hk:PySem.W.keepIn X.K (.ref f)=true) (h:Binds X.K fd ps []) (d:(x == ("__debug__":Str))=false:=by decide)
  (i:starEach (e::es) X.env=(false,eval e X.env)::starEach es X.env:=by rfl) (g:(backTo pos (starEach es X.env)).any (·.1)=false:=by rfl):PDa X (e::es) dt->PDe X (.Call (.Name x p) (e::es) [] pos) (ym sp ios dt)
 | ⟨_,h1,s1⟩=>⟨_,ni (E:=E0) G.ok j m l hk h .nil yg h1 d i g,sJ G s1⟩
end
def Aw:PyData->Bool
 | .int _=>true
 | .bool _=>true
 | .str _=>true
 | .none=>true
 | _=>false
theorem Fz.sc{K:Waa}(h:Fz K S H v d)(e:Aw d=true):Sc v d:=by cases h<;>first | constructor | cases e
theorem Wd.kept0(w:Wd b H L)(k:Kp (λa=>a∈([]:List Addr)) H H'):Wd b H' L:=by
 obtain⟨A,d,q,h⟩:=w.out;have l:=w.nt' d;have j:∀a o,H a=some o->H' a=some o:=λa o e=>k.k a o e aaq;have g:∀a,a∈A->H' a=H a:=λa m=>by
  cases e:H a with
  | none=>exact absurd e (Ows.ne d a m)
  | some o=>exact j a o e
 refine⟨⟨A,Ows.step (k.weak λc i=>absurd i aaq) (λc z=>.inl z) l g d,q,h⟩,w.fr.trans (k.weak λc i=>absurd i aaq),w.s0,λa r e z=>?_⟩;have p:=(w.s0 a z).1;cases f:H a with
 | none=>exact p (w.fr.n a f)
 | some o =>have:=j a o f;rw[e]at this;cases this;exact w.nt a r f z
section
variable{X:Cx}{K:Waa}{a b c e:Expr}{es:List Expr}{da db dc:DE}{dt:DA}{pos p:Pos}{x:Str}{k:Nat}{f:Addr}{fd:FuncData}{ps:List Str}{sp:DSp}
def Ax(sp:DSp)(t:DA):DE:=λj Q=>t j λi g=>∃h,cX g i=some h/\sp (h.map OD.fz) λx _=>∃d,x=.fz d/\Aw d=true/\Q (.val (.fz d)) g
theorem Ay{b:Bs}:∀{vs:List V} {ds:List PyData},FzA b.K S H vs ds->Ows b S H vs (ds.map OD.fz) []:=by
 intro vs;induction vs with
 | nil=>intro ds h;cases h;exact .nil
 | cons v vs d=>intro ds h;cases h with | cons r t=>exact Ows.cons (.fz r) (d t)
theorem sL (G:FnD X.prog X.w X.K X.mg X.base k f fd ps sp) (M:Room k X.A) (N:Gl X x) (C:X.mg x=some (.ref f)) (hk:PySem.W.keepIn X.K (.ref f)=true) (J:Binds X.K fd ps []) (m:(x == ("__debug__":Str))=false:=by decide)
  (U:starEach (e::es) X.env=(false,eval e X.env)::starEach es X.env:=by rfl) (l:(backTo pos (starEach es X.env)).any (·.1)=false:=by rfl):PDa X (e::es) dt->PDe X (.Call (.Name x p) (e::es) [] pos) (Ax sp dt)
 | ⟨_,i,s1⟩=>⟨_,ni (E:=E0) G.ok M N C hk J .nil yg i m U l,λb F S H O L Y Qd Q o R h q=>s1 b F S H O L Y _ _ o R h λvs D rs u s n ⟨Z,e1,i⟩=>by
  have dt:=n.dtL s e1;rw[aap,<- o];have es:(λa=>a∈([]:List Addr)\/False)=λ_=>False:=funext λa=>by simp
  refine⟨λ_=>False,Z.map OD.fz,[],λa z=>z.elim,λ_ _ _ z=>z,?_,aaQ,G.mono _ _ _ (λx ys j v H' B P y nB hB=>?_) i⟩
  ·rw[es];exact Ay (b:=⟨b.K,D,λ_=>False,λa=>a∈[]⟩) (FzA.of0 dt)
  ·obtain⟨d,j,T,I⟩:=j;subst j;cases y with
   | cons r t =>
    cases r with
    | fz r =>
     have g:=n.drops s;exact q v H' _ _ (Rel.sc ⟨g.wf,g.al,g.wff,g.wd.kept0 P⟩ (r.sc T)) I⟩
end
section
variable{P:Program}{w:World}{K:Waa}{mg:Str->Option Value}{base:Heap}
theorem bH:∀{vs:List V} {n:Nat} {ρ:DEnv},flat (vs.map some++List.replicate n none) ρ=flat (vs.map some) ρ
 | [],0,_=>rfl
 | [],n + 1,[]=>rfl
 | [],n + 1,o::ρ=>by
  rw[aaK,aaD,aaJ];have:flat (none::List.replicate n none) (o::ρ)=flat (List.replicate n none) ρ:=by cases o<;>rfl
  rw[this];have:=bH (vs:=[]) (n:=n) (ρ:=ρ);simpa [flat] using this
 | v::vs,n,[]=>by simp[flat]
 | v::vs,n,none::ρ=>by simp only[aal,aaG,bp];exact bH
 | v::vs,n,some x::ρ=>by simp only[aal,aaG,flat];rw[bH]
theorem g6:∀{vs:List V} {xs:List OD} {k:Nat},vs.length=xs.length->flat (vs.map some) (xs.map some++List.replicate k none)=vs.zip xs
 | [],[],0,_=>rfl
 | [],[],_ + 1,_=>rfl
 | v::vs,x::xs,k,e=>by simp only[aal,aaG,flat,abo];rw[g6 (by simpa using e)]
 | [],_::_,_,e=>by simp at e
 | _::_,[],_,e=>by simp at e
theorem g7:∀{vs:List V} {xs:List OD} {k:Nat},vs.length=xs.length->Wf (vs.map some++List.replicate k none) (xs.map some++List.replicate k none)
 | [],[],0,_=>trivial
 | [],[],k + 1,_=>by have:=g7 (vs:=[]) (xs:=[]) (k:=k) rfl;exact this
 | v::vs,x::xs,k,e=>g7 (xs:=xs) (by simpa using e)
 | [],_::_,_,e=>by simp at e
 | _::_,[],_,e=>by simp at e
def fR(N:Nat)(xs:List OD):DEnv:=xs.map some++List.replicate (N - xs.length) none
def ba:Nat->List Bool->List OD->DEnv->Option (List OD)
 | _,[],[],_=>some []
 | i,true::ios,_::xs,ρ=>match ρ[i]?.join with
  | some y=>match ba (i + 1) ios xs ρ with | some ys=>some (y::ys) | none=>none
  | none=>none
 | i,false::ios,.fz d::xs,ρ=>match ba (i + 1) ios xs ρ with | some ys=>some (.fz d::ys) | none=>none
 | _,_,_,_=>none
def WS(ios:List Bool):Nat->Prop:=λj=>ios[j]?=some true
def eQ:Nat->List Bool->List V->List V
 | i,true::ios,v::vs=>v::eQ (i + 1) ios vs
 | i,false::ios,_::vs=>eQ (i + 1) ios vs
 | _,_,_=>[]
def cO:Nat->List Bool->List OR
 | i,true::ios=>.rf i::cO (i + 1) ios
 | i,false::ios=>cO (i + 1) ios
 | _,[]=>[]
theorem jF:∀{ios:List Bool} {vs:List V} {i:Nat},ios.length=vs.length->(∀k v,vs[k]?=some v->σ[i + k]?=some (some v))->Al σ (eQ i ios vs) (cO i ios)
 | [],[],_,_,_=>trivial
 | true::ios,v::vs,i,e,h=>⟨h 0 v rfl,jF (ios:=ios) (by simpa using e) λk u a=>by have:=h (k + 1) u (by simpa using a);rwa [show i + 1 + k=i + (k + 1) by omega]⟩
 | false::ios,v::vs,i,e,h=>jF (i:=i + 1) (by simpa using e) λk u a=>by have:=h (k + 1) u (by simpa using a);rwa [show i + 1 + k=i + (k + 1) by omega]
 | [],_::_,_,e,_=>by simp at e
 | true::_,[],_,e,_=>by simp at e
 | false::_,[],_,e,_=>by simp at e
theorem jG:∀{ios:List Bool} {i:Nat} {W:Nat->Prop},(∀k,ios[k]?=some true->W (i + k))->NoRf W (cO i ios)
 | [],_,_,_=>λr a=>by simp[cO]at a
 | true::ios,i,W,h=>λr a=>by
  simp only[cO]at a;rcases aaa.mp a with rfl | a
  ·exact .inr ⟨i,h 0 rfl,rfl⟩
  ·exact jG (ios:=ios) (λk b=>by have:=h (k + 1) (by simpa using b);rwa [show i + 1 + k=i + (k + 1) by omega]) r a
 | false::ios,i,W,h=>λr a=>jG (i:=i + 1) (λk b=>by have:=h (k + 1) (by simpa using b);rwa [show i + 1 + k=i + (k + 1) by omega]) r a
theorem eR:∀{ios:List Bool} {vs:List V} {i:Nat},stk (eQ i ios vs) (cO i ios)=[]
 | [],[],_=>rfl
 | [],_::_,_=>rfl
 | true::ios,[],i=>by simp[eQ,cO,stk]
 | false::ios,[],i=>by have:eQ i (false::ios) ([]:List V)=[]:=rfl;rw[this];cases h:cO i (false::ios)<;>rfl
 | true::ios,v::vs,i=>eR (i:=i + 1)
 | false::ios,v::vs,i=>eR (i:=i + 1)
end
end
section
section
variable{P:Program}{w:World}{K:Waa}{mg:Str->Option Value}{base:Heap}{b:Bs}{σ:St}{H:Hp}
theorem Wd.addF(w:Wd b H L)(f:Fz b.K (λa=>b.C a\/b.S0 a) b.H0 v d):Wd b H ((v,.fz d)::L):=by
 obtain⟨A,h,g,e⟩:=w.out;refine⟨⟨A,Ows.cons (.fz (f.step (w.fr.weak λc z=>.inl (.inl z)) λc z=>?_)) h,g,e⟩,w.fr,w.s0,w.nt⟩;rcases z with z | z
 ·exact (e c z).elim .inr λz=>.inl (.inl z)
 ·exact .inl (.inr z)
theorem fS:∀{ios:List Bool} {xs:List OD} {i j:Nat} {ρ:DEnv},j < i->ba i ios xs (ρ.set j none)=ba i ios xs ρ
 | [],[],_,_,_,_=>rfl
 | true::ios,_::xs,i,j,ρ,h=>by simp only[ba];rw[aaX (by omega),fS (by omega)]
 | false::ios,.fz d::xs,i,j,ρ,h=>by simp only[ba];rw[fS (by omega)]
 | [],_::_,_,_,_,_=>rfl
 | true::_,[],_,_,_,_=>rfl
 | false::_,[],_,_,_,_=>rfl
 | false::_,.lst _::_,_,_,_,_=>rfl
 | false::_,.tup _::_,_,_,_,_=>rfl
 | false::_,.dic _ _::_,_,_,_,_=>rfl
 | false::_,.obj _ _ _::_,_,_,_,_=>rfl
 | false::_,.pin _ _ _::_,_,_,_,_=>rfl
 | false::_,.hole _::_,_,_,_,_=>rfl
theorem jH:∀{ios:List Bool} {vs:List V} {xs ys:List OD} {i:Nat} {ρ:DEnv} {L1:List (V × OD)},vs.length=xs.length->(∀(k:Nat) v d,vs[k]?=some v->xs[k]?=some (.fz d)->Fz b.K (λa=>b.C a\/b.S0 a) b.H0 v d)->ba i ios xs ρ=some ys ->
  Al σ (eQ i ios vs) (cO i ios)->Wf σ ρ->Wd b H (L1++flat σ ρ)->vs.length=ys.length/\∃R,Wd b H (L1++(vs.zip ys++R))
 | [],[],[],ys,i,ρ,L1,_,_,e,_,_,w=>by simp only[ba]at e;cases e;exact⟨rfl,_,w⟩
 | true::ios,v::vs,x::xs,ys,i,ρ,L1,el,hf,e,al,wf,w=>by
  simp only[ba]at e;split at e
  ·rename_i y n;split at e
   ·rename_i f g;cases e;have o:σ[i]?=some (some v):=al.1;have m:Wd b H ((L1++[(v,y)])++flat σ (ρ.set i none)):=w.perm (by
     rw[aac];exact (bt (join_some n) o).append_left _)
    obtain⟨h,R,c⟩:=jH (by simpa using el) (λk u d j l=>hf (k + 1) u d (by simpa using j) (by simpa using l)) (by rw[fS (by omega)];exact g) al.2 wf.off m;exact⟨by simp[h],R,by rw[aac]at c;exact c⟩
   ·cases e
  ·cases e
 | false::ios,v::vs,.fz d::xs,ys,i,ρ,L1,el,hf,e,al,wf,w=>by
  simp only[ba]at e;split at e
  ·rename_i f g;cases e;have m:Wd b H ((L1++[(v,.fz d)])++flat σ ρ):=(w.addF (hf 0 v d rfl rfl)).perm (by
    rw[aac];exact aaw.symm)
   obtain⟨h,R,c⟩:=jH (by simpa using el) (λk u d j l=>hf (k + 1) u d (by simpa using j) (by simpa using l)) g al wf m;exact⟨by simp[h],R,by rw[aac]at c;exact c⟩
  ·cases e
 | [],_::_,_::_,_,_,_,_,_,_,e,_,_,_=>by simp[ba]at e
 | true::_,[],[],_,_,_,_,_,_,e,_,_,_=>by simp[ba]at e
 | false::_,[],[],_,_,_,_,_,_,e,_,_,_=>by simp[ba]at e
 | false::_,_::_,.lst _::_,_,_,_,_,_,_,e,_,_,_=>by simp[ba]at e
 | false::_,_::_,.tup _::_,_,_,_,_,_,_,e,_,_,_=>by simp[ba]at e
 | false::_,_::_,.dic _ _::_,_,_,_,_,_,_,e,_,_,_=>by simp[ba]at e
 | false::_,_::_,.obj _ _ _::_,_,_,_,_,_,_,e,_,_,_=>by simp[ba]at e
 | false::_,_::_,.pin _ _ _::_,_,_,_,_,_,_,e,_,_,_=>by simp[ba]at e
 | false::_,_::_,.hole _::_,_,_,_,_,_,_,e,_,_,_=>by simp[ba]at e
 | _,[],_::_,_,_,_,_,e,_,_,_,_,_=>by simp at e
 | _,_::_,[],_,_,_,_,e,_,_,_,_,_=>by simp at e
theorem Ows.fzAt:∀{vs:List V} {xs:List OD} {A:List Addr} {k:Nat} {v:V} {d:PyData},Ows b S H vs xs A->vs[k]?=some v->xs[k]?=some (.fz d)->Fz b.K S H v d
 | _,_,_,0,_,_,.cons r _,e,e'=>by simp at e e';subst e e';cases r with | fz f=>exact f
 | _,_,_,k + 1,_,_,.cons _ t,e,e'=>Ows.fzAt (k:=k) t (by simpa using e) (by simpa using e')
 | _,_,_,_,_,_,.nil,e,_=>by simp at e
theorem Fun.okD{I:Stmt}(F:Fun K x qual I f fd)(S:FnScope N ps (aI I))(y:vO sp)(a4:ios.length=ps.length)(D:∀xs Q,sp xs Q->xs.length=ps.length)
  (o:∀(n:Value) (A:Around) (g:List Env) (s:Shared) (H:Hp) (E:XK),Room k (A.deeper (envOfC qual (aI I) s.heap.objs.size f n))->∀(xs:List OD) (Q:OD->List OD->Prop),sp xs Q ->
   ∃M,PDss (jk CX0 P w K mg base N qual (aI I) f n A g s H E).nox (WS ios) (bF I) M/\M { nx:=λX=>∃m,ba 0 ios xs X=some m/\Q (.fz .none) m,rt:=λx X=>∃m,ba 0 ios xs X=some m/\Q x m } (fR N.length xs)):FnD P w K mg base (k + 1) f fd ps sp:=by
 refine⟨F.ok S (λl H Q E h=>?_) (λn A g s H l Q E hr h=>?_),y⟩
 ·obtain⟨S,xs,A,_,_,q,_,h⟩:=h;rw[q.len];exact D _ _ h
 ·obtain⟨S',xs,T,al,nt,q,nA,h⟩:=h;obtain⟨M,⟨ts,U,s1⟩,hd⟩:=o n A g s H E hr xs _ h;refine⟨ts,U,?_⟩
  let b:Bs:=⟨K,H,S',λa=>a∈T⟩
  have L:=q.len;have a3:=D _ _ h;have w0:Wd b H (l.zip xs):=⟨⟨T,OwL.unzips q,nA,λa O=>.inr O⟩,Kp.refl _ _,λa z=>⟨(al a z).1,(al a z).2⟩,nt⟩
  have sg:∀(k:Nat) v,l[k]?=some v->(start N l)[0 + k]?=some (some v):=λk v e=>by have Y:=(aao.mp e).1;unfold start;rw[aaU,abY (by simpa using Y),aax,e];rfl
  have R:Rel b [] (start N l) H (fR N.length xs) (eQ 0 ios l) (cO 0 ios):=by unfold start fR;refine⟨by rw[L];exact g7 L,jF (by omega) sg,λf hf=>(by cases hf),?_⟩;rw[eR];show Wd b H ([]++(flat _ _++[]));rw[aaD,aap,bH,g6 L];exact w0
  have G:∀(j:St) (p:Hp) (i:DEnv) (v:V) (x:OD),Rel b [] j p i (v::eQ 0 ios l) (.val x::cO 0 ios)->(∃m,ba 0 ios xs i=some m/\HE K S' T l H Q x m)->Q v p:=λj p i v x u ⟨m,ey,O⟩=>by
   have w':Wd b p ([(v,x)]++flat j i):=by have:=u.wd;simp only[stk]at this;rw[eR]at this;simpa [ff] using this
   obtain⟨a1,Z,J⟩:=jH L (λk v d U h2=>(Ows.fzAt q U h2).sub λa z=>z) ey u.al u.wf w';have e1:[(v,x)]++(l.zip m++Z)=(v::l).zip (x::m)++Z:=rfl;rw[e1]at J;obtain⟨B0,h0,nd,a2⟩:=J.out;have a0:=J.nt' h0;obtain⟨B,B2,rfl,r,t⟩:=OwL.split' h0;refine O v p B J.fr (Ows.sub a0 (λc z=>z.imp (aaf _) id) (OwL.zips (by simp[a1]) r)) (aaz.mp nd).1 λa W=>a2 a (aaf _ W)
  refine s1 b [] (start N l) H _ _ _ _ _ rfl (jG λk Y=>?_) R hd ⟨λj p i u C=>?_,λ_ _ _ _ C=>C.elim,λ_ _ _ _ C=>C.elim,G⟩
  ·rw[aaU];exact Y
  ·exact G j p i .non _ (u.sc .non) C
end
end
section
def Gr:PyData->Str
 | .str x=>x
 | d=>d.shown
def Gs:PyData->Bool
 | .str _=>true
 | _=>false
def JA(d:PyData):Bool:=Gs d || (d.showable && !d.hasDict && decide (d.shown.length<=10000000) && decide (d.depth<=40))
section
variable{X:Cx}
def HJ(K:Waa):List V->Hp->VK->Prop:=λa H Q=>∃v d,a=[v]/\Dt K H v d/\JA d=true/\Q (.str (Gr d)) H
def JB:Int->List Int->Int
 | a,[]=>a
 | a,b::r=>JB (if b > a then b else a) r
section
variable{e st:Expr}{te:TE}{p2 pos:Pos}
def J2(K:Waa)(te:TE):TE:=λd H Q=>te d H λx b=>∃a c,x=.ref a/\SqL K b a c/\∀p,b p=none->Q (.ref p) (upd b p (.lst c.reverse))
end
end
end
section
open AutoSeq1 (wpAny_loadPart')
def Gu(K:Waa)(l:Addr):It :=
 ⟨λi H=>∃a x,SqT K H l a/\a[i]?=some x,
  λi H v b=>∃T x,(∀a,SqT K H l a->a[i]?=some x)/\H T=none/\v=.ref T/\b=upd H T (.tup [.int i,x]),
  λi H=>∃a,SqT K H l a/\a.length<=i⟩
section
variable{X:Cx}{a:Expr}{es:List Expr}{p pos:Pos}
def Gv(K:Waa)(e:TA):TI:=λf H R=>e f H λd b=>∃l c,d=[.ref l]/\((SqL K b l c/\R (E9 K l) b)\/(SqT K b l c/\R (Gu K l) b))
def Gw(t:DA):DI:=λf Q=>t f λe c=>∃d b,(frzL c e=some ([.list d],b)\/frzL c e=some ([.tuple d],b))/\Q (cD d) b
def HK(a b:DE):DE:=λf Q=>a f λx e=>b e λy c=>∃d es,C6 c x=some d/\C6 c y=some es/\d≠[]/\d.length + es.length<=1000000/\Q (.val (.fz (.tuple (d++es)))) c
end
end
section
open AutoSeq1 (wpAny_loadPart')
open MeetsSeq
theorem fT{M:Model}{A:Around}{E:Value->Shared->Prop}{s:Shared}{a:Type}(n:Nat)(f:Nat->a->Sem (ForInStep a))(I:Nat->a->Shared->Prop)(Q:a->Shared->Prop)
  (g:∀i b s,i < n->I i b s->wpAny M A (f i b) (λr k=>match r with | .yield d=>I (i + 1) d k | .done d=>Q d k) E s)
  (fin:∀b s,I n b s->Q b s) (b:a) (h:I 0 b s):wpAny M A (forIn [0:n] b f) Q E s:=by
 rw[Std.Legacy.Range.forIn_eq_forIn_range'];refine wpAny_forIn_list f (λl b s=>∃i,l=List.range' i (n - i)/\i<=n/\I i b s) Q ?_ ?_ _ b ⟨0,by simp[Std.Legacy.Range.size],aaH _,h⟩
 ·rintro x m b s ⟨i,e,q,j⟩;have c:i < n:=by
   by_cases p:i < n
   ·exact p
   ·rw[show n - i=0 by omega]at e;simp at e
  rw[show n - i=(n - (i + 1)) + 1 by omega,List.range'_succ]at e;obtain⟨rfl,rfl⟩:=List.cons.inj e;refine thn (g x b s c j) λr k o=>?_;cases r with
  | yield d=>exact⟨x + 1,rfl,c,o⟩
  | done d=>exact o
 ·rintro b s ⟨i,e,q,j⟩;have:n - i=0:=by have:=congrArg List.length e;simpa using this.symm
  have:i=n:=by omega
  subst this;exact fin b s j
theorem kP(l:Addr)(items:Array Value)(n:Nat)(dd:Option Addr)(B:Array (Option Value))(x:Value)(e:Value->Bool)(z:∀y,y∈items->EqGives y x (e y))(j:Nat)(G:j < items.size)
  (p:e items[j]=true) (k:∀m (D:m < items.size),m < j->e items[m]=false) :
  Meets (Builtin.«tuple.index» ⟨[.ref l,x],[]⟩)
   (λ_ R s=>s.heap.get? l=some { cls:=.type "tuple",dict:=dd,data:=.seq items n,slots:=B }/\R (.ok (.ret (.int j s.toks))) { s with toks:=s.toks + 1 }) :=
 .of_wp λc w A R s h=>by
  obtain⟨v,g,d,u,r⟩:=s;obtain⟨q,h⟩:=h
  wp_walk using wpAny_loadPart' q,fT _ _ (λi b o=>b.1=none/\o=⟨v,g,d,u,r⟩/\i<=j) _
  case g =>
   rintro i b o F ⟨t,rfl,f⟩;have a:i < items.size:=by omega
   rw[show items[i]?=some items[i] from Array.getElem?_eq_getElem a];refine wpAny_bind (z _ (Array.getElem_mem a) c w _ _ _ _ ?_);by_cases C:i=j
   ·subst C;rw[p]
    wp_walk
    exact⟨_,rfl,h⟩
   ·rw[k i a (by omega)]
    wp_walk
    exact⟨rfl,rfl,by omega⟩
  case fin =>rintro b o ⟨t,rfl,f⟩;omega
  case h=>exact⟨rfl,rfl,aaH _⟩
end
section
section
variable{X:Cx}{K:Waa}{o e:Expr}{da db:DE}{pos pos' apos cpos:Pos}
def yn(n:Int):Value->Bool
 | .int a _=>a == n
 | _=>false
theorem ql:MtR X "tuple.index" (λx vs H Q=>∃(l:Addr) (ns:List Int) (n:Int) (j:Nat),x=.ref l/\vs=[.int n]/\SqT X.K H l (ns.map V.int)/\ns[j]?=some n/\(∀m,m < j->ns[m]?≠some n)/\Q (.int j) H):=by
 intro L s σ H x vs v us Q I rx Z h;obtain⟨l,ns,n,j,rfl,rfl,U,M,C,q⟩:=h;cases rx;obtain⟨u,rfl,J⟩:=Z.one;obtain⟨t,rfl⟩:=J;obtain⟨c,r,T,_⟩:=I.tuple U;have N:c.length=ns.length:=by rw[<- r.length,aab]
 have d:∀m (f:m < c.length),∃a t',c[m]=.int a t'/\ns[m]?=some a:=λm f=>by
  have p:m < ns.length:=by omega
  obtain⟨u,hu,J⟩:=r.get (i:=m) (x:=.int ns[m]) (by rw[aax,aak p];rfl);obtain⟨t',rfl⟩:=J;refine⟨ns[m],t',?_,aak p⟩;have:=(aao.mp hu).2;exact this
 have k:j < c.length:=by have:=(aao.mp M).1;omega
 have G:yn n c.toArray[j]=true:=by obtain⟨a,t',B,g⟩:=d j k;rw[M]at g;cases g;show yn n c[j]=true;rw[B];simp[yn]
 have w:∀m (f:m < c.toArray.size),m < j->yn n c.toArray[m]=false:=λm f D=>by obtain⟨a,t',B,g⟩:=d m f;show yn n c[m]=false;rw[B];have:a≠n:=λz=>C m D (z ▸ g);simp[yn,this]
 have he:∀y,y∈c.toArray->MeetsSeq.EqGives y (.int n t) (yn n y):=λy W=>by obtain⟨m,f,rfl⟩:=List.getElem_of_mem (List.mem_toArray.mp W);obtain⟨a,t',B,g⟩:=d m f;rw[B];exact MeetsSeq.EqGives.int a n t' t
 obtain⟨⟨oc,O,dt,sl⟩,A,Y,S,P⟩:=T;cases Y;cases P;refine call_meets F.slot_tuple_index ⟨_,A,rfl⟩ F.entry_tuple_index (F.args_tuple_index_2 _ _) (kP l c.toArray S O sl (.int n t) (yn n) he j k G w) ⟨A,?_⟩;exact⟨.int j,H,I.kept (t':=s.toks + 1) λb o e=>e,⟨_,rfl⟩,q⟩
end
end
section
inductive Bo where | add | sub | mul | fdiv | mod | pow
inductive Co where | lt | le | gt | ge | eq | ne | inn | nin
inductive Bl where | len | abs | max | min | int | all
inductive Knd where | int | bool | str | list | tuple | seq
inductive Bn where | list | tuple | sorted
inductive Acc where | ix (k:Int) | key (j:Nat)
inductive Tg where | nm (i:Nat) | tp (ts:List Nat) | tn (i:Nat)(ts:List Nat) | sb (i:Nat)(k l:Int)
mutual
inductive E where
 | nm (i:Nat) | int (k:Int) | str (x:Str) | bl (b:Bool) | non | gc (g:Nat)
 | bop (o:Bo) (a b:E) | cat (a b:E) | rep (a b:E)
 | cmp (o:Co) (a b:E) | isn (neg:Bool) (a:E)
 | and (a b:E) | or (a b:E) | not (a:E) | neg (a:E) | ife (c a b:E)
 | tup (es:Es) | lst (es:Es) | ix (a b:E) | sll (a:E) (lo hi:Eo)
 | call (f:Nat) (es:Es) | callS (f:Nat) (es:Es) | blt (f:Bl) (es:Es) | bnw (f:Bn) (e:E) | isi (k:Knd) (a:E) | frz (a:E) | idx (a b:E) | dgt (i:Nat) (e:E) | pop (i:Nat) | dsp (ks:List (Str × Int)) (j:Nat)
 | pg (i:Nat) (ps:List Acc) | din (neg:Bool) (e:E) (i:Nat) (ps:List Acc)
 | comp (nt:Nat) (fr:List Nat) (it:It') (tg:Tg) (ifs:Eo) (elt:E)
inductive Es where | nil | cons (e:E)(es:Es)
inductive Eo where | none | some (e:E)
inductive It' where | seq (e:E) | rg1 (e:E) | rg2 (a b:E) | enm (e:E) | zip (a b:E)
end
mutual
inductive S' where
 | ex (e:E) | set (i:Nat) (e:E) | asg (t:Tg) (e:E) | par (is:List Nat) (es:Es) | aug (i:Nat) (o:Bo) (e:E) | agl (i:Nat) (e:E)
 | ret (e:E) | iff (c:E) (a b:Ss) | whl (c:E) (b:Ss) | fr (t:Tg) (it:It') (b:Ss) | cont
 | app (i:Nat) (e:E) | ext (i:Nat) (e:E) | ins (i:Nat) (k e:E) | sti (i:Nat) (k e:E) | sdk (i:Nat) (k e:E)
 | sdc (i nt:Nat) (fr:List Nat) (it:It') (tg:Tg) (ke ve:E)
inductive Ss where | nil | cons (s:S')(ss:Ss)
end
structure Fn where
 io:List Bool
 n:Nat
 body:Ss
structure Ct where
 io:Nat->List Bool
 call:Nat->List OD->Option (OD × List OD)
 mak:Nat->List OD->Option (OD × List OD)
 gv:Nat->PyData
 wf:Nat
def qK:OD->Option PyData | .fz d=>some d | _=>none
def kQ:OD->Option (List OD) | .lst xs=>some xs | _=>none
def Az:OD->Option (List Key × List OD) | .dic ks xs=>some (ks,xs) | _=>none
def J3:OD->Option (Str × List Str × List OD) | .obj c ns xs=>some (c,ns,xs) | _=>none
def HL(x:OD):Option (List OD):=match x with | .lst xs=>some xs | .tup xs=>some xs | _=>none
def eB:PyData->Option Int | .int i=>some i | _=>none
def Fc:PyData->Option Bool | .bool k=>some k | _=>none
def Fd:PyData->Option (List PyData) | .list ds=>some ds | _=>none
def sM:PyData->Option (List PyData) | .list ds=>some ds | .tuple ds=>some ds | _=>none
def Do:OR->Option (List OD) | .val x=>kQ x | _=>none
def gd(c:Prop)[Decidable c]:Option Unit:=if c then some () else none
def cT{a:Type}:List a->Option a | [x]=>some x | _=>none
def AA{a:Type}:List a->Option (a × a × a) | [x,y,z]=>some (x,y,z) | _=>none
def J4:PyData->Option (List PyData) | .tuple ds=>some ds | _=>none
def gq{a:Type}:List a->Option (a × a) | [x,y]=>some (x,y) | _=>none
def J5(w:OD × List OD):Option (OD × List OD):=(qK w.1).bind λd=>match d,w.2 with | .none,y::ys=>some (y,ys) | _,_=>none
def HM:Bo->Int->Int->Option Int
 | .add,i,j=>some (i + j)
 | .sub,i,j=>some (i - j)
 | .mul,i,j=>(gd ((-(2 ^ 64) < i/\i < 2 ^ 64)\/(-(2 ^ 64) < j/\j < 2 ^ 64))).bind λ_=>some (i * j)
 | .fdiv,i,j=>(gd (0 < j/\j < 1073741824)).bind λ_=>some (i / j)
 | .mod,i,j=>(gd (0 < j)).bind λ_=>some (i % j)
 | .pow,i,j=>(gd (0<=j/\j<=1000000/\i.natAbs < 2 ^ 64)).bind λ_=>some (i ^ j.toNat)
def uX(o:Bo)(x y:PyData):Option PyData:=(eB x).bind λi=>(eB y).bind λj=>(HM o i j).bind λk=>some (.int k)
def eqA(x y:PyData):Option Bool:=match pY x y with
 | some k=>some k
 | none=>if SeqAt.shaped x && SeqAt.shaped y then some (PyData.eqv x y) else none
def inA(x y:PyData):Option Bool:=(sM y).bind λa=>(gd (BR x=true)).bind λ_=>memD x a
def qm(o:Co)(x y:PyData):Option Bool:=match o with
 | .lt=>(eB x).bind λi=>(eB y).bind λj=>some (decide (i < j))
 | .le=>(eB x).bind λi=>(eB y).bind λj=>some (decide (i<=j))
 | .gt=>(eB x).bind λi=>(eB y).bind λj=>some (decide (j < i))
 | .ge=>(eB x).bind λi=>(eB y).bind λj=>some (decide (j<=i))
 | .eq=>eqA x y
 | .ne=>(eqA x y).bind λk=>some (!k)
 | .inn=>inA x y
 | .nin=>(inA x y).bind λk=>some (!k)
def sN:PyData->Option Bool
 | .none=>some false | .bool b=>some b | .int i=>some (i != 0)
 | .list ds=>some (!ds.isEmpty) | .tuple ds=>some (!ds.isEmpty)
 | _=>none
def Gx:List PyData->Int->Option Int
 | [],a=>some a
 | .int i::ds,a=>Gx ds (a + i)
 | _::_,_=>none
def uY:Knd->PyData->Bool
 | .int,.int _=>true | .int,.bool _=>true | .bool,.bool _=>true | .str,.str _=>true | .list,.list _=>true | .tuple,.tuple _=>true | .seq,.list _=>true | .seq,.tuple _=>true
 | _,_=>false
def g8:List PyData->Option (List Int)
 | []=>some []
 | d::ds=>(eB d).bind λi=>(g8 ds).bind λr=>some (i::r)
def unl(ns:List Int):Nat:=(firstMet (λi=>ns.getD i 0) ns.length).length
def J6(n:Int):Bool:=decide (-1000000000000<=n) && decide (n<=1000000000000)
def uZ(f:Bl)(ds:List PyData):Option PyData:=match f with
 | .len=>(cT ds).bind λd=>(jy d).bind λn=>some (.int n)
 | .abs=>(cT ds).bind λd=>(eB d).bind λi=>some (.int (if i < 0 then -i else i))
 | .max=>(gq ds).bind λz=>(eB z.1).bind λi=>(eB z.2).bind λj=>some (.int (if j > i then j else i))
 | .min=>(gq ds).bind λz=>(eB z.1).bind λi=>(eB z.2).bind λj=>some (.int (if j < i then j else i))
 | .int=>(cT ds).bind λd=>(toInt d).bind λi=>some (.int i)
 | .all=>(cT ds).bind λd=>(Fd d).bind λa=>(allB a).bind λb=>some (.bool (b.all id))
def insI(i:Int):List Int->List Int
 | []=>[i]
 | j::r=>if i<=j then i::j::r else j::insI i r
def sortI:List Int->List Int
 | []=>[]
 | i::r=>insI i (sortI r)
def keyOf:PyData->Option Key
 | .int i=>some (.inl i)
 | .str x=>some (.inr x)
 | _=>none
def dsL(k:Key):List (Str × Int)->Option Int
 | []=>none
 | z::r=>if (.inr z.1:Key)=k then some z.2 else dsL k r
def Gy:OR->Option (List PyData) | .val (.fz (.tuple ds))=>some ds | _=>none
def dgV(ks:List Key)(xs:List OD)(k:Key):Option PyData:=match ks.findIdx? (λq=>decide (q=k)) with
 | some j=>(xs[j]?).bind qK
 | none=>some .none
def accN(ρ:DEnv)(x:OD):Acc->Option Nat
 | .ix k=>(HL x).bind λxs=>ixN xs.length k
 | .key j=>(ρ[j]?.join).bind λy=>(qK y).bind λd=>(Az x).bind λq=>(keyOf d).bind λk=>q.1.findIdx? (λq=>decide (q=k))
def cA(ρ:DEnv)(i:Nat):List Acc->Option (OD × List Nat × OD)
 | []=>(ρ[i]?.join).bind λx=>some (x,[],x)
 | a::ps=>(cA ρ i ps).bind λp=>(accN ρ p.2.2 a).bind λk=>(p.2.2.kids[k]?).bind λz=>some (p.1,p.2.1++[k],z)
def unpA(x:OD):Option (List OD):=match unpT x with | some a=>some a | none=>unpL x
def Dp(a:List Nat)(x:OD)(ρ:DEnv):Option DEnv:=(unpA x).bind λb=>(gd (b.length=a.length/\∀i∈a,i < ρ.length)).bind λ_=>some (cZ a b ρ)
def bc:Tg->OD->DEnv->Option DEnv
 | .nm i,x,ρ=>(gd (i < ρ.length)).bind λ_=>some (ρ.set i (some x))
 | .tp ts,x,ρ=>Dp ts x ρ
 | .tn i ts,x,ρ=>(unpA x).bind λxs=>(gq xs).bind λz=>(gd (i < ρ.length)).bind λ_=>Dp ts z.2 (ρ.set i (some z.1))
 | .sb i k l,x,ρ=>(unpA x).bind λxs=>(gq xs).bind λz=>(ρ[i]?.join).bind λy=>(kQ y).bind λys=>(ixN ys.length k).bind λa=>(ixN ys.length l).bind λb=>some (ρ.set i (some (.lst ((ys.set a z.1).set b z.2))))
def bW(step:PyData->DEnv->Option (List PyData × DEnv)):List PyData->List PyData->DEnv->Option (List PyData × DEnv)
 | [],out,ρ=>some (out,ρ)
 | d::ds,out,ρ=>(step d ρ).bind λw=>bW step ds (out++w.1) w.2
def dU(step:List Key × List OD->PyData->DEnv->Option ((List Key × List OD) × DEnv)):List PyData->List Key × List OD->DEnv->Option ((List Key × List OD) × DEnv)
 | [],o,ρ=>some (o,ρ)
 | d::ds,o,ρ=>(step o d ρ).bind λw=>dU step ds w.1 w.2
inductive Fl where | nx | bk | ct | rt (x:OD)
def bb(step:PyData->DEnv->Option (Fl × DEnv)):List PyData->DEnv->Option (Fl × DEnv)
 | [],ρ=>some (.nx,ρ)
 | d::ds,ρ=>(step d ρ).bind λw=>match w.1 with
  | .nx=>bb step ds w.2
  | .ct=>bb step ds w.2
  | .bk=>some (.nx,w.2)
  | .rt x=>some (.rt x,w.2)
def gh(c:DEnv->Option (Bool × DEnv))(b:DEnv->Option (Fl × DEnv)):Nat->DEnv->Option (Fl × DEnv)
 | 0,_=>none
 | n + 1,ρ=>(c ρ).bind λx=>if x.1=true then (b x.2).bind λw=>match w.1 with
   | .nx=>gh c b n w.2
   | .ct=>gh c b n w.2
   | .bk=>some (.nx,w.2)
   | .rt x=>some (.rt x,w.2)
  else some (.nx,x.2)
def vt(f:DEnv->Option (OR × DEnv)):(DEnv->Option (OR × DEnv)) × (DEnv->Option (Bool × DEnv)):=(f,λa=>(f a).bind λx=>(au x.2 x.1).bind λd=>(sN d).bind λk=>some (k,x.2))
section
variable(C:Ct)
mutual
def cb:E->(DEnv->Option (OR × DEnv)) × (DEnv->Option (Bool × DEnv))
 | .nm i=>vt λρ=>match ρ[i]?.join with
  | some (.fz d)=>some (.val (.fz d),ρ)
  | some _=>some (.rf i,ρ)
  | none=>none
 | .int k=>vt λρ=>some (.val (.fz (.int k)),ρ)
 | .str x=>vt λρ=>some (.val (.fz (.str x)),ρ)
 | .bl b=>vt λρ=>some (.val (.fz (.bool b)),ρ)
 | .non=>vt λρ=>some (.val (.fz .none),ρ)
 | .gc g=>vt λρ=>some (.val (.fz (C.gv g)),ρ)
 | .bop o a b=>vt λρ=>((cb a).1 ρ).bind λx=>((cb b).1 x.2).bind λy=>(au y.2 x.1).bind λdx=>(au y.2 y.1).bind λdy=>(uX o dx dy).bind λd=>some (.val (.fz d),y.2)
 | .cat a b=>vt λρ=>((cb a).1 ρ).bind λx=>((cb b).1 x.2).bind λy=>(l7 y.2 x.1).bind λdx=>(l7 y.2 y.1).bind λdy=>(gd (dx.length + dy.length<=1000000)).bind λ_=>some (.val (.lst ((dx++dy).map OD.fz)),y.2)
 | .rep a b=>vt λρ=>((cb a).1 ρ).bind λx=>((cb b).1 x.2).bind λy=>(Do x.1).bind λxs=>(au y.2 y.1).bind λd=>(eB d).bind λk=>(p0 xs).bind λds=>(gd (-(2 ^ 62)<=k/\k < 2 ^ 62/\ds.length * k.toNat<=1000000)).bind λ_=>some (.val (.lst ((List.replicate k.toNat ds).flatten.map OD.fz)),y.2)
 | .cmp o a b=>vt λρ=>((cb a).1 ρ).bind λx=>((cb b).1 x.2).bind λy=>(au y.2 x.1).bind λdx=>(au y.2 y.1).bind λdy=>(qm o dx dy).bind λk=>some (.val (.fz (.bool k)),y.2)
 | .isn neg a=>vt λρ=>((cb a).1 ρ).bind λx=>(au x.2 x.1).bind λd=>some (.val (.fz (.bool (if neg then !isNn d else isNn d))),x.2)
 | .and a b=>(λρ=>((cb a).1 ρ).bind λx=>(au x.2 x.1).bind λd=>(Fc d).bind λk=>if k=true then (cb b).1 x.2 else some (.val (.fz (.bool false)),x.2),λρ=>((cb a).2 ρ).bind λx=>if x.1=true then (cb b).2 x.2 else some (false,x.2))
 | .or a b=>(λρ=>((cb a).1 ρ).bind λx=>(au x.2 x.1).bind λd=>(Fc d).bind λk=>if k=true then some (.val (.fz (.bool true)),x.2) else (cb b).1 x.2,λρ=>((cb a).2 ρ).bind λx=>if x.1=true then some (true,x.2) else (cb b).2 x.2)
 | .not a=>(λρ=>((cb a).1 ρ).bind λx=>(au x.2 x.1).bind λd=>(Fc d).bind λk=>some (.val (.fz (.bool (!k))),x.2),λρ=>((cb a).2 ρ).bind λx=>some (!x.1,x.2))
 | .neg a=>vt λρ=>((cb a).1 ρ).bind λx=>(au x.2 x.1).bind λd=>(eB d).bind λi=>some (.val (.fz (.int (-i))),x.2)
 | .ife c a b=>vt λρ=>((cb c).2 ρ).bind λx=>if x.1=true then (cb a).1 x.2 else (cb b).1 x.2
 | .tup es=>vt λρ=>(evs es ρ).bind λx=>(mapR own1 x.2 x.1).bind λz=>(gd (x.1.length<=1000000)).bind λ_=>some (.val (mkTup z.1),z.2)
 | .lst es=>vt λρ=>(evs es ρ).bind λx=>(mapR own1 x.2 x.1).bind λz=>(gd (x.1.length<=1000000)).bind λ_=>some (.val (.lst z.1),z.2)
 | .ix a b=>vt λρ=>((cb a).1 ρ).bind λx=>((cb b).1 x.2).bind λy=>(au y.2 y.1).bind λd=>(eB d).bind λi=>(bo y.2 x.1 i).bind λz=>some (.val z.1,z.2)
 | .sll a lo hi=>vt λρ=>((cb a).1 ρ).bind λx=>(BS lo x.2).bind λl=>(BS hi l.2).bind λu=>(l7 u.2 x.1).bind λds=>some (.val (.lst ((cutD ds l.1 u.1).map OD.fz)),u.2)
 | .call f es=>vt λρ=>(evs es ρ).bind λx=>(bB (C.io f) x.2 x.1).bind λz=>(C.call f z.1).bind λw=>some (.val w.1,i5 (C.io f) x.1 w.2 z.2)
 | .callS f es=>vt λρ=>(evs es ρ).bind λx=>(cX x.2 x.1).bind λds=>(C.call f (ds.map OD.fz)).bind λw=>(qK w.1).bind λd=>(gd (Aw d=true)).bind λ_=>some (.val (.fz d),x.2)
 | .blt f es=>vt λρ=>(evs es ρ).bind λx=>(cX x.2 x.1).bind λds=>(uZ f ds).bind λd=>some (.val (.fz d),x.2)
 | .bnw f e=>vt λρ=>((cb e).1 ρ).bind λx=>match f with
  | .list=>((cN x.2 x.1).bind seqOf).bind λds=>some (.val (.lst (ds.map OD.fz)),x.2)
  | .tuple=>((cN x.2 x.1).bind listOf).bind λds=>some (.val (.fz (.tuple ds)),x.2)
  | .sorted=>(au x.2 x.1).bind λd=>(Fd d).bind λds=>(g8 ds).bind λns=>(gd (ns.length < 64)).bind λ_=>some (.val (.lst ((sortI ns).map λi=>.fz (.int i))),x.2)
 | .isi k a=>vt λρ=>((cb a).1 ρ).bind λx=>(au x.2 x.1).bind λd=>some (.val (.fz (.bool (uY k d))),x.2)
 | .idx a b=>vt λρ=>((cb a).1 ρ).bind λx=>(Gy x.1).bind λds=>((cb b).1 x.2).bind λy=>(au y.2 y.1).bind λd=>(eB d).bind λn=>(g8 ds).bind λns=>(ns.findIdx? λm=>decide (m=n)).bind λj=>some (.val (.fz (.int j)),y.2)
 | .dgt i e=>vt λρ=>(ρ[i]?.join).bind λh=>(Az h).bind λ_=>((cb e).1 ρ).bind λy=>(au y.2 y.1).bind λd=>(keyOf d).bind λk=>(y.2[i]?.join).bind λs=>(Az s).bind λq=>(dgV q.1 q.2 k).bind λw=>some (.val (.fz w),y.2)
 | .pop i=>vt λρ=>(ρ[i]?.join).bind λh=>(kQ h).bind λxs=>(xs.head?).bind λz=>(qK z).bind λd=>some (.val (.fz d),ρ.set i (some (.lst xs.tail)))
 | .dsp ks j=>vt λρ=>(ρ[j]?.join).bind λx=>(qK x).bind λd=>(keyOf d).bind λk=>(dsL k ks).bind λn=>some (.val (.fz (.int n)),ρ)
 | .frz a=>vt λρ=>((cb a).1 ρ).bind λx=>(frz1 x.2 x.1).bind λz=>some (.val (.fz z.1),z.2)
 | .pg i ps=>vt λρ=>(cA ρ i ps).bind λp=>(qK p.2.2).bind λd=>some (.val (.fz d),ρ)
 | .din neg e i ps=>vt λρ=>((cb e).1 ρ).bind λx=>(au x.2 x.1).bind λdx=>(cA x.2 i ps).bind λp=>(keyOf dx).bind λk=>(Az p.2.2).bind λq=>some (.val (.fz (.bool (if neg then !(q.1.any λq=>decide (q=k)) else q.1.any λq=>decide (q=k)))),x.2)
 | .comp nt fr it tg ifs elt=>vt λρ=>(qo it ρ).bind λx=>(gd (x.1.length < 1000000)).bind λ_=>(cF x.2 fr).bind λz =>
   (bW (λd r=>(bc tg (.fz d) r).bind λρ1=>(Gz ifs ρ1).bind λk=>if k.1=true then ((cb elt).1 k.2).bind λy=>(frz1 y.2 y.1).bind λq=>some ([q.1],q.2) else some ([],k.2)) x.1 [] (List.replicate nt none++z.1)).bind λw =>
    some (.val (.lst (w.1.map OD.fz)),eP z.2 fr (w.2.drop nt))
def evs:Es->DEnv->Option (List OR × DEnv)
 | .nil,ρ=>some ([],ρ)
 | .cons e es,ρ=>((cb e).1 ρ).bind λx=>(evs es x.2).bind λy=>some (x.1::y.1,y.2)
def BS:Eo->DEnv->Option (Option Int × DEnv)
 | .none,ρ=>some (none,ρ)
 | .some e,ρ=>((cb e).1 ρ).bind λx=>(au x.2 x.1).bind λd=>(eB d).bind λi=>some (some i,x.2)
def Gz:Eo->DEnv->Option (Bool × DEnv)
 | .none,ρ=>some (true,ρ)
 | .some e,ρ=>(cb e).2 ρ
def qo:It'->DEnv->Option (List PyData × DEnv)
 | .seq e,ρ=>((cb e).1 ρ).bind λx=>(frz1 x.2 x.1).bind λz=>(sM z.1).bind λds=>some (ds,z.2)
 | .rg1 e,ρ=>((cb e).1 ρ).bind λx=>(au x.2 x.1).bind λd=>(eB d).bind λj=>(gd (-(2 ^ 62)<=j/\j < 2 ^ 62)).bind λ_=>some (bL 0 j.toNat,x.2)
 | .rg2 a b,ρ=>((cb a).1 ρ).bind λx=>((cb b).1 x.2).bind λy=>(au y.2 x.1).bind λd=>(eB d).bind λi=>(au y.2 y.1).bind λd'=>(eB d').bind λj=>(gd (-(2 ^ 62)<=i/\i < 2 ^ 62/\-(2 ^ 62)<=j/\j < 2 ^ 62)).bind λ_=>some (bL i (j - i).toNat,y.2)
 | .enm e,ρ=>((cb e).1 ρ).bind λx=>(frz1 x.2 x.1).bind λz=>(Fd z.1).bind λds=>some (cD ds,z.2)
 | .zip a b,ρ=>((cb a).1 ρ).bind λx=>((cb b).1 x.2).bind λy=>(frz1 y.2 x.1).bind λz=>(frz1 z.2 y.1).bind λw=>(sM z.1).bind λds=>(sM w.1).bind λes=>some (fP ds es,w.2)
end
abbrev ev(e:E)(ρ:DEnv):=(cb C e).1 ρ
abbrev bf(e:E)(ρ:DEnv):=(cb C e).2 ρ
end
example (C:Ct) (ρ:DEnv):ev C (.bop .add (.int 1) (.int 2)) ρ=some (.val (.fz (.int 3)),ρ):=rfl
example (C:Ct) (ρ:DEnv):bf C (.and (.bl true) (.not (.cmp .lt (.int 1) (.int 2)))) ρ=some (false,ρ):=rfl
end
section
theorem bnd{b c:Type}{o:Option b}{f:b->Option c}{x:c}(h:o.bind f=some x):∃a,o=some a/\f a=some x:=aaM.mp h
theorem bn2{α β γ:Type}{o:Option α}{g1:α->Option β}{f:α->β->Option γ}{r:γ}(h:(o.bind λa=>(g1 a).bind (f a))=some r):∃a b,o=some a/\g1 a=some b/\f a b=some r:=by obtain⟨a,p0,h⟩:=bnd h;obtain⟨b,p1,h⟩:=bnd h;exact⟨a,b,p0,p1,h⟩
theorem bn3{α β γ δ:Type}{o:Option α}{g1:α->Option β}{g2:α->β->Option γ}{f:α->β->γ->Option δ}{r:δ}(h:(o.bind λa=>(g1 a).bind λb=>(g2 a b).bind (f a b))=some r):∃a b c,o=some a/\g1 a=some b/\g2 a b=some c/\f a b c=some r:=by obtain⟨a,p0,h⟩:=bnd h;obtain⟨b,p1,h⟩:=bnd h;obtain⟨c,p2,h⟩:=bnd h;exact⟨a,b,c,p0,p1,p2,h⟩
theorem bn4{α β γ δ ε:Type}{o:Option α}{g1:α->Option β}{g2:α->β->Option γ}{g3:α->β->γ->Option δ}{f:α->β->γ->δ->Option ε}{r:ε}(h:(o.bind λa=>(g1 a).bind λb=>(g2 a b).bind λc=>(g3 a b c).bind (f a b c))=some r):∃a b c d,o=some a/\g1 a=some b/\g2 a b=some c/\g3 a b c=some d/\f a b c d=some r:=by obtain⟨a,p0,h⟩:=bnd h;obtain⟨b,p1,h⟩:=bnd h;obtain⟨c,p2,h⟩:=bnd h;obtain⟨d,p3,h⟩:=bnd h;exact⟨a,b,c,d,p0,p1,p2,p3,h⟩
theorem bn5{α β γ δ ε ζ:Type}{o:Option α}{g1:α->Option β}{g2:α->β->Option γ}{g3:α->β->γ->Option δ}{g4:α->β->γ->δ->Option ε}{f:α->β->γ->δ->ε->Option ζ}{r:ζ}(h:(o.bind λa=>(g1 a).bind λb=>(g2 a b).bind λc=>(g3 a b c).bind λd=>(g4 a b c d).bind (f a b c d))=some r):∃a b c d e,o=some a/\g1 a=some b/\g2 a b=some c/\g3 a b c=some d/\g4 a b c d=some e/\f a b c d e=some r:=by obtain⟨a,p0,h⟩:=bnd h;obtain⟨b,p1,h⟩:=bnd h;obtain⟨c,p2,h⟩:=bnd h;obtain⟨d,p3,h⟩:=bnd h;obtain⟨e,p4,h⟩:=bnd h;exact⟨a,b,c,d,e,p0,p1,p2,p3,p4,h⟩
theorem eC{x:OD}{d:PyData}(h:qK x=some d):x=.fz d:=by cases x<;>cases h;rfl
theorem bX{x:OD}{xs:List OD}(h:kQ x=some xs):x=.lst xs:=by cases x<;>cases h;rfl
theorem jI{x:OD}{z:List Key × List OD}(h:Az x=some z):x=.dic z.1 z.2:=by cases x<;>cases h;rfl
theorem AB{x:OD}{xs:List OD}(h:HL x=some xs):x=.lst xs\/x=.tup xs:=by cases x<;>cases h<;>first | exact .inl rfl | exact .inr rfl
theorem aP{d:PyData}{i:Int}(h:eB d=some i):d=.int i:=by cases d<;>cases h;rfl
theorem mj{d:PyData}{i:Bool}(h:Fc d=some i):d=.bool i:=by cases d<;>cases h;rfl
theorem mq{d:PyData}{i:List PyData}(h:Fd d=some i):d=.list i:=by cases d<;>cases h;rfl
theorem mr{d:PyData}{i:List PyData}(h:sM d=some i):d=.list i\/d=.tuple i:=by cases d<;>cases h<;>first | exact .inl rfl | exact .inr rfl
theorem mw{r:OR}{xs:List OD}(h:Do r=some xs):r=.val (.lst xs):=by
 cases r with
 | val x=>rw[bX h]
 | rf _=>cases h
theorem gd_ok{c:Prop}[Decidable c]{u:Unit}(h:gd c=some u):c:=by
 by_cases a:c
 ·exact a
 ·rw[gd,if_neg a]at h;cases h
theorem one1_ok{a:Type}{l:List a}{x:a}(h:cT l=some x):l=[x]:=by
 cases l with
 | nil=>cases h
 | cons y l=>cases l<;>cases h;rfl
theorem thr3_ok{a:Type}{l:List a}{x:a × a × a}(h:AA l=some x):l=[x.1,x.2.1,x.2.2]:=by
 cases l with
 | nil=>cases h
 | cons y l =>
  cases l with
  | nil=>cases h
  | cons z l =>
   cases l with
   | nil=>cases h
   | cons w l=>cases l<;>cases h;rfl
theorem two2_ok{a:Type}{l:List a}{x:a × a}(h:gq l=some x):l=[x.1,x.2]:=by
 cases l with
 | nil=>cases h
 | cons y l =>
  cases l with
  | nil=>cases h
  | cons z l=>cases l<;>cases h;rfl
section
variable(C:Ct)
mutual
def AD:E->DEnv->Option PyData
 | .nm i,ρ=>(ρ[i]?.join).bind qK
 | .int k,_=>some (.int k)
 | .str x,_=>some (.str x)
 | .gc g,_=>some (C.gv g)
 | .bop o a b,ρ=>match o with
  | .add=>(AD a ρ).bind λx=>(AD b ρ).bind λy=>uX .add x y
  | .sub=>(AD a ρ).bind λx=>(AD b ρ).bind λy=>uX .sub x y
  | _=>none
 | .ix a b,ρ=>(AD a ρ).bind λx=>(AD b ρ).bind λy=>(sM x).bind λds=>(eB y).bind λi=>atI ds i
 | .tup es,ρ=>(Dq es ρ).bind λds=>(gd (ds.length<=1000000)).bind λ_=>some (.tuple ds)
 | .pg i ps,ρ=>(cA ρ i ps).bind λp=>qK p.2.2
 | _,_=>none
def Dq:Es->DEnv->Option (List PyData)
 | .nil,_=>some []
 | .cons e es,ρ=>(AD e ρ).bind λx=>(Dq es ρ).bind λy=>some (x::y)
end
def sO(f:Str)(z:OD):List Str->List OD->List Str × List OD
 | n::ns,x::xs=>if n=f then (n::ns,z::xs) else ((n::(sO f z ns xs).1),(x::(sO f z ns xs).2))
 | _,_=>([f],[z])
def aZ(k:Key)(d:PyData)(ks:List Key)(xs:List OD):List Key × List OD :=
 if (ks.any λq=>decide (q=k))=true then (ks,List.zipWith (λq x=>if q=k then .fz d else x) ks xs) else (ks++[k],xs++[.fz d])
def wq:Bo->Int->PyData->Option Int
 | .add,a,.int k=>some (a + k)
 | .sub,a,.int k=>some (a - k)
 | _,_,_=>none
def sP(i:Nat)(ks:List Nat)(j:Nat)(u:V)(ρ a:DEnv):Prop:=∃x y,ρ[i]?.join=some x/\x.at ks=some (.hole u)/\ρ[j]?.join=some y/\j≠i/\a=(ρ.set j none).set i (some (OD.put y ks x))
def yo(g:V->Option (Fl × DEnv))(i:Nat)(ks:List Nat)(j:Nat)(z:Fl × DEnv):Prop:=∀u:V,∃a,g u=some (z.1,a)/\sP i ks j u a z.2
open Classical in
def AE(g:V->Option (Fl × DEnv))(i:Nat)(ks:List Nat)(j:Nat):Option (Fl × DEnv):=if h:∃z,yo g i ks j z then some (Classical.choose h) else none
abbrev HN(f:DEnv->Option (Fl × DEnv))(ρ:DEnv)(i:Nat)(p:OD × List Nat × OD)(xs:List OD)(j:Nat)(z:Fl × DEnv):Prop:=yo (λu=>f (ρ.set i (some (OD.put (.lst (xs++[.hole u])) p.2.1 p.1)))) i (p.2.1++[xs.length]) j z
def GA(f:DEnv->Option (Fl × DEnv))(ρ:DEnv)(i:Nat)(p:OD × List Nat × OD)(j:Nat):Option (Fl × DEnv):=(kQ p.2.2).bind λa=>(gd (a.length < 1000000/\j≠i/\(ρ[j]?.join).isSome)).bind λ_=>AE (λu=>f (ρ.set i (some (OD.put (.lst (a++[.hole u])) p.2.1 p.1)))) i (p.2.1++[a.length]) j
def dAct(c ve:E)(o:List Key × List OD)(ρ:DEnv):Option ((List Key × List OD) × DEnv):=(ev C c ρ).bind λx=>(ev C ve x.2).bind λy=>(au y.2 x.1).bind λa=>(keyOf a).bind λb=>(frz1 y.2 y.1).bind λz=>some (aZ b z.1 o.1 o.2,z.2)
def g9(c:Tg)(b ve:E)(o:List Key × List OD)(d:PyData)(ρ:DEnv):Option ((List Key × List OD) × DEnv):=(bc c (.fz d) ρ).bind λa=>dAct C b ve o a
mutual
def bC:S'->DEnv->Option (Fl × DEnv)
 | .ex e,ρ=>(ev C e ρ).bind λx=>some (.nx,x.2)
 | .set i e,ρ=>(ev C e ρ).bind λx=>(own1 x.2 x.1).bind λz=>(gd (i < z.2.length)).bind λ_=>some (.nx,z.2.set i (some z.1))
 | .asg t e,ρ=>(ev C e ρ).bind λx=>(own1 x.2 x.1).bind λz=>(bc t z.1 z.2).bind λρ1=>some (.nx,ρ1)
 | .par is es,ρ=>(evs C es ρ).bind λx=>(mapR own1 x.2 x.1).bind λz=>(gd (z.1.length=is.length/\∀i∈is,i < z.2.length)).bind λ_=>some (.nx,cZ is z.1 z.2)
 | .aug i o e,ρ=>(ρ[i]?.join).bind λf=>(qK f).bind λm=>(eB m).bind λa=>(ev C e ρ).bind λx=>(au x.2 x.1).bind λd=>(wq o a d).bind λr=>some (.nx,x.2.set i (some (.fz (.int r))))
 | .agl i e,ρ=>(ρ[i]?.join).bind λf=>(kQ f).bind λ_=>(ev C e ρ).bind λx=>(Do x.1).bind λys=>(x.2[i]?.join).bind λg=>(kQ g).bind λxs=>(gd (xs.length + ys.length<=1000000)).bind λ_=>some (.nx,x.2.set i (some (.lst (xs++ys))))
 | .ret e,ρ=>(ev C e ρ).bind λx=>(mv1 x.2 x.1).bind λz=>some (.rt z.1,z.2)
 | .iff c a b,ρ=>(bf C c ρ).bind λx=>if x.1=true then aK a x.2 else aK b x.2
 | .whl c b,ρ=>gh (bf C c) (aK b) C.wf ρ
 | .fr t it b,ρ=>(qo C it ρ).bind λx=>bb (λd h=>(bc t (.fz d) h).bind λρ1=>aK b ρ1) x.1 x.2
 | .cont,ρ=>some (.ct,ρ)
 | .app i e,ρ=>(ρ[i]?.join).bind λf=>(kQ f).bind λ_=>(ev C e ρ).bind λx=>(own1 x.2 x.1).bind λz=>(z.2[i]?.join).bind λg=>(kQ g).bind λxs=>(gd (xs.length < 1000000)).bind λ_=>some (.nx,z.2.set i (some (.lst (xs++[z.1]))))
 | .ext i e,ρ=>(ρ[i]?.join).bind λf=>(kQ f).bind λ_=>(ev C e ρ).bind λx=>(Do x.1).bind λys=>(x.2[i]?.join).bind λg=>(kQ g).bind λxs=>(gd (xs.length + ys.length<=1000000)).bind λ_=>some (.nx,x.2.set i (some (.lst (xs++ys))))
 | .ins i k e,ρ=>(ρ[i]?.join).bind λf=>(kQ f).bind λ_=>(ev C k ρ).bind λq=>(ev C e q.2).bind λx=>(au x.2 q.1).bind λn=>(eB n).bind λk=>(au x.2 x.1).bind λd=>(gd (Aw d=true)).bind λ_=>(x.2[i]?.join).bind λg=>(kQ g).bind λxs=>(gd (0<=k/\k<=xs.length/\xs.length < 100000)).bind λ_=>some (.nx,x.2.set i (some (.lst (xs.take k.toNat++.fz d::xs.drop k.toNat))))
 | .sti i k e,ρ=>(ev C e ρ).bind λx=>(own1 x.2 x.1).bind λz=>(z.2[i]?.join).bind λf=>(kQ f).bind λ_=>(ev C k z.2).bind λq=>(au q.2 q.1).bind λd=>(eB d).bind λk=>(q.2[i]?.join).bind λg=>(kQ g).bind λxs=>(ixN xs.length k).bind λj=>some (.nx,q.2.set i (some (.lst (xs.set j z.1))))
 | .sdk i k e,ρ=>(ev C e ρ).bind λx=>(frz1 x.2 x.1).bind λz=>(z.2[i]?.join).bind λf=>(Az f).bind λ_=>(ev C k z.2).bind λq=>(au q.2 q.1).bind λl=>(keyOf l).bind λkk=>(q.2[i]?.join).bind λg=>(Az g).bind λu=>(gd (u.2.length < 1000000)).bind λ_=>some (.nx,q.2.set i (some (.dic (aZ kk z.1 u.1 u.2).1 (aZ kk z.1 u.1 u.2).2)))
 | .sdc i nt fr it tg ke ve,ρ=>(qo C it ρ).bind λx=>(gd (x.1.length < 1000000)).bind λ_=>(cF x.2 fr).bind λz=>(dU (g9 C tg ke ve) x.1 ([],[]) (List.replicate nt none++z.1)).bind λw=>(gd (i < (eP z.2 fr (w.2.drop nt)).length)).bind λ_=>some (.nx,(eP z.2 fr (w.2.drop nt)).set i (some (.dic w.1.1 w.1.2)))
def aK:Ss->DEnv->Option (Fl × DEnv)
 | .nil,ρ=>some (.nx,ρ)
 | .cons s ss,ρ=>(bC s ρ).bind λx=>match x.1 with
  | .nx=>aK ss x.2
  | fl=>some (fl,x.2)
end
def wt(fn:Fn)(xs:List OD):Option (OD × List OD):=(aK C fn.body (fR fn.n xs)).bind λx=>match x.1 with
 | .nx=>(ba 0 fn.io xs x.2).bind λa=>some (.fz .none,a)
 | .rt o=>(ba 0 fn.io xs x.2).bind λa=>some (o,a)
 | _=>none
end
structure Pg where
 F:Nat->Option Fn
 gv:Nat->PyData
 wf:Nat
def Pg.io(p:Pg)(f:Nat):List Bool:=match p.F f with | some a=>a.io | none=>[]
def Pg.both(p:Pg):Nat->(Nat->List OD->Option (OD × List OD)) × (Nat->List OD->Option (OD × List OD))
 | 0=>(λ_ _=>none,λ_ _=>none)
 | n + 1=>(λf xs=>match p.F f with
  | some fn=>if xs.length=fn.io.length then wt ⟨p.io,(Pg.both p n).1,(Pg.both p n).2,p.gv,p.wf⟩ fn xs else none
  | none=>none,(Pg.both p n).1)
def Pg.call(p:Pg)(n f:Nat)(xs:List OD):Option (OD × List OD):=(p.both n).1 f xs
def Pg.mak(p:Pg)(n f:Nat)(xs:List OD):Option (OD × List OD):=(p.both n).2 f xs
abbrev Pg.ct(p:Pg)(n:Nat):Ct:=⟨p.io,p.call n,p.mak n,p.gv,p.wf⟩
theorem Pg.call_succ(p:Pg)(n f:Nat)(xs:List OD):p.call (n + 1) f xs=match p.F f with
  | some fn=>if xs.length=fn.io.length then wt (p.ct n) fn xs else none
  | none=>none:=rfl
end
section
def aD(C:Ct)(m:E):DE:=λa Q=>∃x,ev C m a=some x/\Q x.1 x.2
def hR(C:Ct)(m:E):DT:=λa Q=>∃x,bf C m a=some x/\Q x.1 x.2
def hU(C:Ct)(m:Es):DA:=λa Q=>∃x,evs C m a=some x/\Q x.1 x.2
def sQ(C:Ct)(m:Eo):DO:=λa Q=>∃x,BS C m a=some x/\Q x.1 x.2
def gu(C:Ct)(m:It'):DI:=λa Q=>∃x,qo C m a=some x/\Q x.1 x.2
section
variable{X:Cx}{e:Expr}{es:List Expr}
theorem PDe.imp:PDe X e d->(∀ρ Q,d' ρ Q->d ρ Q)->PDe X e d'
 | ⟨te,h,s⟩,f=>⟨te,h,λb F σ H ρ τ θ a Q c R g q=>s b F σ H ρ τ θ a Q c R (f _ _ g) q⟩
theorem PDt.imp:PDt X e d->(∀ρ Q,d' ρ Q->d ρ Q)->PDt X e d'
 | ⟨te,h,s⟩,f=>⟨te,h,λb F σ H ρ τ θ a Q c R g q=>s b F σ H ρ τ θ a Q c R (f _ _ g) q⟩
theorem PDw.imp:PDw X e d->(∀ρ Q,d' ρ Q->d ρ Q)->PDw X e d'
 | ⟨te,h,s⟩,f=>⟨te,h,λb F σ H ρ τ θ a Q c R g q=>s b F σ H ρ τ θ a Q c R (f _ _ g) q⟩
theorem PDa.imp:PDa X es d->(∀ρ Q,d' ρ Q->d ρ Q)->PDa X es d'
 | ⟨te,h,s⟩,f=>⟨te,h,λb F σ H ρ τ θ a Q c R g q=>s b F σ H ρ τ θ a Q c R (f _ _ g) q⟩
theorem PDi.imp:PDi X tg e d->(∀ρ Q,d' ρ Q->d ρ Q)->PDi X tg e d'
 | ⟨te,h,s⟩,f=>⟨te,h,λb F σ H ρ τ θ a Q c R g q=>s b F σ H ρ τ θ a Q c R (f _ _ g) q⟩
theorem PDo.imp:PDo X o d->(∀ρ Q,d' ρ Q->d ρ Q)->PDo X o d'
 | ⟨te,h,s⟩,f=>⟨te,h,λb F σ H ρ τ θ a Q c R g q=>s b F σ H ρ τ θ a Q c R (f _ _ g) q⟩
theorem SndR2.or{K:Waa}(h:SndR2 K r d)(h':SndR2 K r' d'):SndR2 K (λx y H Q=>r x y H Q\/r' x y H Q) (λx y Q=>d x y Q\/d' x y Q):=λH v u f b c Q a g z q=>z.imp (λz=>h H v u f b c Q a g z q) λz=>h' H v u f b c Q a g z q
theorem SndR2.imp{K:Waa}(h:SndR2 K r d)(f:∀x y Q,d' x y Q->d x y Q):SndR2 K r d':=λH v u g b c Q a i z q=>h H v u g b c Q a i (f _ _ _ z) q
end
def opOf:Bo->Operator
 | .add=>.Add | .sub=>.Sub | .mul=>.Mult | .fdiv=>.FloorDiv | .mod=>.Mod | .pow=>.Pow
def coOf:Co->CmpOp
 | .lt=>.Lt | .le=>.LtE | .gt=>.Gt | .ge=>.GtE | .eq=>.Eq | .ne=>.NotEq | .inn=>.In | .nin=>.NotIn
def JC(o:Bo):DR2:=λx y Q=>∃d,uX o x y=some d/\Q d
def JD(o:Co):DR2:=λx y Q=>∃k,qm o x y=some k/\Q (.bool k)
theorem dM(h:uX o x y=some d):∃i j k,x=.int i/\y=.int j/\HM o i j=some k/\d=.int k:=by obtain⟨i,j,k,c,a,b,h⟩:=bn3 h;cases h;exact⟨i,j,k,aP c,aP a,b,rfl⟩
section
variable{X:Cx}
theorem Dr(o:Bo):∃e,OpR X (binaryOp (opOf o)) e/\SndR2 X.K e (JC o):=by
 cases o with
 | add =>refine⟨_,zt,(rV λi j=>.int _).imp λx y Q c=>?_⟩;obtain⟨d,h,q⟩:=c;obtain⟨i,j,k,rfl,rfl,a,rfl⟩:=dM h;cases a;exact⟨i,j,rfl,rfl,q⟩
 | sub =>refine⟨_,zu,(rV λi j=>.int _).imp λx y Q c=>?_⟩;obtain⟨d,h,q⟩:=c;obtain⟨i,j,k,rfl,rfl,a,rfl⟩:=dM h;cases a;exact⟨i,j,rfl,rfl,q⟩
 | mul =>refine⟨_,zw,(vR λi j=>.int _).imp λx y Q c=>?_⟩;obtain⟨d,h,q⟩:=c;obtain⟨i,j,k,rfl,rfl,a,rfl⟩:=dM h;obtain⟨_,b,a⟩:=bnd a;cases a;have b:=gd_ok b;exact⟨i,j,rfl,rfl,b,q⟩
 | fdiv =>refine⟨_,vo,(vR λi j=>.int _).imp λx y Q c=>?_⟩;obtain⟨d,h,q⟩:=c;obtain⟨i,j,k,rfl,rfl,a,rfl⟩:=dM h;obtain⟨_,b,a⟩:=bnd a;cases a;have b:=gd_ok b;exact⟨i,j,rfl,rfl,b,q⟩
 | mod =>refine⟨_,zx,(vR λi j=>.int _).imp λx y Q c=>?_⟩;obtain⟨d,h,q⟩:=c;obtain⟨i,j,k,rfl,rfl,a,rfl⟩:=dM h;obtain⟨_,b,a⟩:=bnd a;cases a;have b:=gd_ok b;exact⟨i,j,rfl,rfl,b,q⟩
 | pow =>refine⟨_,zy,(vR λi j=>.int _).imp λx y Q c=>?_⟩;obtain⟨d,h,q⟩:=c;obtain⟨i,j,k,rfl,rfl,a,rfl⟩:=dM h;obtain⟨_,b,a⟩:=bnd a;cases a;have b:=gd_ok b;exact⟨i,j,rfl,rfl,b,q⟩
theorem nI(h:eqA x y=some k):pY x y=some k\/(SeqAt.shaped x=true/\SeqAt.shaped y=true/\k=PyData.eqv x y):=by
 unfold eqA at h;cases e:pY x y with
 | some d=>rw[e]at h;exact .inl h
 | none =>
  rw[e]at h;simp only at h;split at h
  ·rename_i c;cases h;obtain⟨a,b⟩:=abp.mp c;exact .inr ⟨a,b,rfl⟩
  ·cases h
theorem nJ(h:inA x y=some k):∃ds,(y=.list ds\/y=.tuple ds)/\BR x=true/\memD x ds=some k:=by obtain⟨ds,_,a,b,h⟩:=bn2 h;exact⟨ds,mr a,gd_ok b,h⟩
theorem yp(p:X.A.units + 64 < cLine)(o:Co):∃n,OpR X (compareOp (coOf o)) n/\SndR2 X.K n (JD o):=by
 have b:∀{x y:PyData} {k:Bool} {g:Int->Int->Bool},((eB x).bind λi=>(eB y).bind λj=>some (g i j))=some k->∃i j,x=.int i/\y=.int j/\k=g i j:=by intro x y k g h;obtain⟨i,j,s,r,h⟩:=bn2 h;cases h;exact⟨i,j,aP s,aP r,rfl⟩
 cases o with
 | lt =>refine⟨_,Cp,(vS ).imp λx y Q a=>?_⟩;obtain⟨k,h,q⟩:=a;obtain⟨i,j,rfl,rfl,rfl⟩:=b h;exact⟨i,j,rfl,rfl,q⟩
 | le =>refine⟨_,Cq,(vS ).imp λx y Q a=>?_⟩;obtain⟨k,h,q⟩:=a;obtain⟨i,j,rfl,rfl,rfl⟩:=b h;exact⟨i,j,rfl,rfl,q⟩
 | gt =>refine⟨_,Cr,(vS ).imp λx y Q a=>?_⟩;obtain⟨k,h,q⟩:=a;obtain⟨i,j,rfl,rfl,rfl⟩:=b h;exact⟨i,j,rfl,rfl,q⟩
 | ge =>refine⟨_,Cu,(vS ).imp λx y Q a=>?_⟩;obtain⟨k,h,q⟩:=a;obtain⟨i,j,rfl,rfl,rfl⟩:=b h;exact⟨i,j,rfl,rfl,q⟩
 | eq =>
  refine⟨_,op_eq.or (zM p),(sr_eq.or Aa).imp λx y Q a=>?_⟩;obtain⟨k,h,q⟩:=a;rcases nI h with h | ⟨c,d,rfl⟩
  ·exact .inl ⟨k,h,q⟩
  ·exact .inr ⟨c,d,q⟩
 | ne =>
  refine⟨_,op_ne.or (zN p),(sr_ne.or Ab).imp λx y Q a=>?_⟩;obtain⟨k,h,q⟩:=a;obtain⟨l,e,h⟩:=bnd h;cases h;rcases nI e with h | ⟨c,d,rfl⟩
  ·exact .inl ⟨l,h,q⟩
  ·exact .inr ⟨c,d,q⟩
 | inn =>refine⟨_,pF,(yl ).imp λx y Q a=>?_⟩;obtain⟨k,h,q⟩:=a;obtain⟨m,c,d,f⟩:=nJ h;exact⟨m,k,c,d,f,q⟩
 | nin =>refine⟨_,jn,(yl ).imp λx y Q a=>?_⟩;obtain⟨k,h,q⟩:=a;obtain⟨l,e,h⟩:=bnd h;cases h;obtain⟨m,c,d,f⟩:=nJ e;exact⟨m,l,c,d,f,q⟩
end
section
variable{X:Cx}{C:Ct}{a b c e:Expr}{es:List Expr}{ma mb mc:E}{mes:Es}{pos:Pos}
theorem Ds(p:PDe X a (aD C ma))(s:PDe X b (aD C mb)):PDe X (.BinOp a (opOf o) b pos) (aD C (.bop o ma mb)):=by obtain⟨w,t,m⟩:=Dr o;refine (CV t m p s).imp λy Q i=>?_;obtain⟨x,h,q⟩:=i;obtain⟨f,j,r,u,d,v,l,n,g,k,h⟩:=bn5 h;cases h;exact⟨f,v,j,l,r,u,n,g,d,k,q⟩
theorem Du(w:X.A.units + 64 < cLine)(i:behindInMarks (coOf o) b=false)(r:PDe X a (aD C ma))(t:PDe X b (aD C mb)):PDe X (.Compare a [coOf o] [b] pos) (aD C (.cmp o ma mb)):=by obtain⟨z,u,n⟩:=yp w o;refine (z9 u n i r t).imp λB Q j=>?_;obtain⟨x,h,q⟩:=j;obtain⟨f,k,s,v,d,y,m,p,g,l,h⟩:=bn5 h;cases h;exact⟨f,y,k,m,s,v,p,g,d,l,q⟩
theorem Dv(z:X.A.units + 64 < cLine)(i:behindInMarks (coOf o) b=false)(s:PDe X a (aD C ma))(u:PDe X b (aD C mb)):PDt X (.Compare a [coOf o] [b] pos) (hR C (.cmp o ma mb)):=by obtain⟨D,v,p⟩:=yp z o;refine (vV v p i s u).imp λF Q j=>?_;obtain⟨x,h,q⟩:=j;obtain⟨y,h,l⟩:=bnd h;obtain⟨f,k,t,w,d,B,n,r,g,m,h⟩:=bn5 h;cases h;cases l;exact⟨f,B,k,n,t,w,r,g,d,m,d,rfl,q⟩
end
end
section
def isStar:Expr->Bool
 | .Starred _ _=>true
 | _=>false
theorem av(h:isStar e=false):starEach (e::es) env=(false,eval e env)::starEach es env:=by cases e<;>first | rfl | cases h
theorem bQ:∀{es:List Expr},es.any isStar=false->(backTo pos (starEach es env)).any (·.1)=false
 | [],_=>rfl
 | e::es,h=>by rw[aaZ,acs]at h;rw[av h.1];show (false || (backTo pos (starEach es env)).any (·.1))=false;rw[bQ h.2];rfl
def plainT:Expr->Bool
 | .UnaryOp .Not _ _=>false
 | .BoolOp _ _ _=>false
 | .IfExp _ _ _ _=>false
 | .Compare _ _ _ _=>false
 | _=>true
theorem plainT_ok(h:plainT e=true):∀a,isTrue e env a=(do let v <- a;standAt e.pos;holding [v] (truthy v)):=by
 intro a;cases e with
 | UnaryOp b x p=>cases b<;>first | rfl | cases h
 | _=>first | rfl | cases h
section
variable{X:Cx}{C:Ct}{a b c e:Expr}{es:List Expr}{ma mb mc:E}{mes:Es}{pos p:Pos}{x:Str}{i:Nat}
theorem Dw:ev C (.nm i) ρ=(match ρ[i]?.join with | some (.fz d)=>some (.val (.fz d),ρ) | some _=>some (.rf i,ρ) | none=>none):=rfl
theorem GB (g:X.N[i]?=some x) (f:Vis X.env.scope x) (k:(x == ("__debug__":Str))=false) (d:(x == ("__classdict__":Str))=false):PDe X (.Name x pos) (aD C (.nm i)):=by
 refine (z8 g f k d).imp λl Q j=>?_;obtain⟨y,h,q⟩:=j;unfold dVar;rw[Dw]at h;cases e:l[i]?.join with
 | none=>rw[e]at h;cases h
 | some z=>rw[e]at h;cases z<;>(simp only at h;cases h;exact q)
theorem Dx{j pos}:PDe X (.Constant (.int k) j pos) (aD C (.int k)):=pd_int.imp λd Q ⟨y,h,q⟩=>by cases h;exact q
theorem Dy{j pos}:PDe X (.Constant (.str k) j pos) (aD C (.str k)):=pd_str.imp λd Q ⟨y,h,q⟩=>by cases h;exact q
theorem GC{j pos}:PDe X (.Constant (.bool k) j pos) (aD C (.bl k)):=pd_bl.imp λd Q ⟨y,h,q⟩=>by cases h;exact q
theorem Dz{j pos}:PDe X (.Constant .none j pos) (aD C .non):=pd_non.imp λd Q ⟨y,h,q⟩=>by cases h;exact q
theorem GD (f:Gl X x) (d:X.mg x=some u) (r:RelV v u) (s:∀S H,Fz X.K S H v (C.gv g)) (j:(x == ("__debug__":Str))=false):PDe X (.Name x pos) (aD C (.gc g)) :=
 (rT f d r s j).imp λk Q ⟨y,h,q⟩=>by cases h;exact q
theorem DB{j pos'}(k:PDe X a (aD C ma)):PDe X (.Compare a [if neg then .IsNot else .Is] [.Constant .none j pos'] pos) (aD C (.isn neg ma)):=by
 have f:∀g Q,aD C (.isn neg ma) g Q->pZ neg (aD C ma) g Q:=λg Q ⟨y,h,q⟩=>by obtain⟨l,d,n,m,h⟩:=bn2 h;cases h;exact⟨l,n,d,m,q⟩
 cases neg with
 | false=>exact (Ad k).imp f
 | true=>exact (vU k).imp f
theorem DD{j pos'}(k:PDe X a (aD C ma)):PDt X (.Compare a [if neg then .IsNot else .Is] [.Constant .none j pos'] pos) (hR C (.isn neg ma)):=by
 have f:∀g Q,hR C (.isn neg ma) g Q->gT (pZ neg (aD C ma)) g Q:=λg Q ⟨y,h,q⟩=>by obtain⟨z,h,m⟩:=bnd h;obtain⟨l,d,o,n,h⟩:=bn2 h;cases h;cases m;exact⟨l,o,d,n,_,rfl,q⟩
 cases neg with
 | false=>exact (vW k).imp f
 | true=>exact (rY k).imp f
theorem v_and(m:PDe X a (aD C ma))(o:PDe X (.BoolOp .And (b::es) pos) (aD C mb)):PDe X (.BoolOp .And (a::b::es) pos) (aD C (.and ma mb)):=by
 refine (Af m o).imp λr Q j=>?_;obtain⟨y,h,q⟩:=j;obtain⟨g,d,k,n,f,l,h⟩:=bn3 h;rw[mj l]at f;refine⟨g,n,k,f,?_⟩;cases k with
 | false=>rw[if_neg aae]at h ⊢;cases h;exact q
 | true=>rw[if_pos rfl]at h ⊢;exact⟨y,h,q⟩
theorem v_or(m:PDe X a (aD C ma))(o:PDe X (.BoolOp .Or (b::es) pos) (aD C mb)):PDe X (.BoolOp .Or (a::b::es) pos) (aD C (.or ma mb)):=by
 refine (C0 m o).imp λr Q j=>?_;obtain⟨y,h,q⟩:=j;obtain⟨g,d,k,n,f,l,h⟩:=bn3 h;rw[mj l]at f;refine⟨g,n,k,f,?_⟩;cases k with
 | false=>rw[if_neg aae]at h ⊢;exact⟨y,h,q⟩
 | true=>rw[if_pos rfl]at h ⊢;cases h;exact q
theorem v_not(m:PDe X a (aD C ma)):PDe X (.UnaryOp .Not a pos) (aD C (.not ma)):=by refine (Ag m).imp λo Q j=>?_;obtain⟨y,h,q⟩:=j;obtain⟨f,d,k,n,g,l,h⟩:=bn3 h;cases h;exact⟨f,n,k,by rw[g,mj l],q⟩
theorem DF(m:PDe X a (aD C ma)):PDe X (.UnaryOp .USub a pos) (aD C (.neg ma)):=by refine (Ae m).imp λo Q j=>?_;obtain⟨y,h,q⟩:=j;obtain⟨f,d,k,n,g,l,h⟩:=bn3 h;cases h;exact⟨f,n,d,g,k,aP l,q⟩
theorem DH(g:PDt X a (hR C ma))(l:PDw X (.BoolOp .And (b::es) pos) (hR C mb)):PDw X (.BoolOp .And (a::b::es) pos) (hR C (.and ma mb)):=by
 refine (vY g l).imp λm Q f=>?_;obtain⟨y,h,q⟩:=f;obtain⟨d,j,h⟩:=bnd h;refine⟨d,j,?_⟩;split at h
 ·rename_i k;rw[if_pos k];exact⟨y,h,q⟩
 ·rename_i k;rw[if_neg k];cases h;exact q
theorem GE(g:PDt X a (hR C ma))(l:PDw X (.BoolOp .Or (b::es) pos) (hR C mb)):PDw X (.BoolOp .Or (a::b::es) pos) (hR C (.or ma mb)):=by
 refine (Ah g l).imp λm Q f=>?_;obtain⟨y,h,q⟩:=f;obtain⟨d,j,h⟩:=bnd h;refine⟨d,j,?_⟩;split at h
 ·rename_i k;rw[if_pos k];cases h;exact q
 ·rename_i k;rw[if_neg k];exact⟨y,h,q⟩
theorem DJ(g:PDt X a (hR C ma)):PDt X (.UnaryOp .Not a pos) (hR C (.not ma)):=by refine (vZ g).imp λk Q f=>?_;obtain⟨y,h,q⟩:=f;obtain⟨d,j,h⟩:=bnd h;cases h;exact⟨d,j,q⟩
theorem DL(l:PDt X c (hR C mc))(g:PDe X a (aD C ma))(m:PDe X b (aD C mb)):PDe X (.IfExp c a b pos) (aD C (.ife mc ma mb)):=by
 refine (C3 l g m).imp λn Q f=>?_;obtain⟨y,h,q⟩:=f;obtain⟨d,j,h⟩:=bnd h;refine⟨d,j,?_⟩;split at h
 ·rename_i k;rw[if_pos k];exact⟨y,h,q⟩
 ·rename_i k;rw[if_neg k];exact⟨y,h,q⟩
theorem wu(h:Dt X.K H v d)(e:sN d=some k):zB X.K v H k:=by
 cases h with
 | non=>cases e;rfl
 | bl b=>cases e;rfl
 | int i=>cases e;rfl
 | str x=>simp[sN]at e
 | lst s t=>cases e;exact .inl ⟨_,s,by rw[DtAll.emp t]⟩
 | tup s t=>cases e;exact .inr (.inl ⟨_,s,by rw[DtAll.emp t]⟩)
theorem DM(o:bf C m=(vt (ev C m)).2)(B:plainT e=true):PDe X e (aD C m)->PDt X e (hR C m)
 | ⟨te,g,s1⟩=>⟨_,rl g (plainT_ok B),λb F σ H ρ τ θ G Q n R ⟨y,h,q⟩ k=>by
  have h':((ev C m ρ).bind λx=>(au x.2 x.1).bind λd=>(sN d).bind λk=>some (k,x.2))=some y:=by rw[<- h,o];rfl
  obtain⟨z,d,t,D,u,w,h'⟩:=bn3 h';cases h';refine s1 b F σ H ρ τ θ (λr f=>r=z.1/\f=z.2) _ n R ⟨z,D,rfl,rfl⟩ λv I r f j s=>?_;obtain⟨g,A⟩:=s;subst g A;have l:=j.dt u;rw[n]at l;exact⟨t,wu l w,k _ _ _ j.drop q⟩⟩
theorem eD:PDa X [] (hU C .nil):=pda_nil.imp λd Q ⟨y,h,q⟩=>by cases h;exact q
theorem bT(f:isStar e=false)(l:PDe X e (aD C ma))(n:PDa X es (hU C mes)):PDa X (e::es) (hU C (.cons ma mes)):=by refine (r6 (av f) l n).imp λo Q k=>?_;obtain⟨y,h,q⟩:=k;obtain⟨d,g,m,j,h⟩:=bn2 h;cases h;exact⟨d,m,g,j,q⟩
theorem DN{g}(l:PDa X es (hU C mes)):PDe X (.Tuple es g pos) (aD C (.tup mes)):=by refine (Ai C5 l).imp λn Q j=>?_;obtain⟨y,h,q⟩:=j;obtain⟨d,z,_,m,f,k,h⟩:=bn3 h;cases h;exact⟨d,m,z.1,z.2,f,gd_ok k,q⟩
theorem DP(j:PDa X es (hU C mes)):PDe X (.List es pos) (aD C (.lst mes)):=by refine (Aj C5 j).imp λm Q g=>?_;obtain⟨y,h,q⟩:=g;obtain⟨d,z,_,l,f,k,h⟩:=bn3 h;cases h;exact⟨d,l,z.1,z.2,f,gd_ok k,q⟩
def bU:Expr->Bool
 | .Slice _ _ _ _=>true
 | _=>false
theorem nK(h:bU b=false):PlainIx b:=λo i=>by cases b<;>first | rfl | cases h
theorem GF(t:bU b=false)(r:PDe X a (aD C ma))(s:PDe X b (aD C mb)):PDe X (.Subscript a b pos) (aD C (.ix ma mb)):=by refine (C7 (nK t) r s).imp λv Q j=>?_;obtain⟨y,h,q⟩:=j;obtain⟨f,l,d,k,z,u,n,o,m,g,h⟩:=bn5 h;cases h;exact⟨f,u,l,n,k,z.1,z.2,by rw[o,aP m],g,q⟩
theorem wx:PDo X none (sQ C .none):=pdo_none.imp λd Q ⟨y,h,q⟩=>by cases h;exact q
theorem wy(m:PDe X e (aD C ma)):PDo X (some e) (sQ C (.some ma)):=by refine (sk m).imp λo Q j=>?_;obtain⟨y,h,q⟩:=j;obtain⟨f,d,k,n,g,l,h⟩:=bn3 h;cases h;exact⟨f,n,k,by rw[g,aP l],q⟩
theorem DQ{lo d:Option Expr}(n:PDe X e (aD C ma))(o:PDo X lo (sQ C ml))(r:PDo X d (sQ C mh)):PDe X (.Subscript e (.Slice lo d none p2) pos) (aD C (.sll ma ml mh)):=by refine (An n o r).imp λv Q j=>?_;obtain⟨y,h,q⟩:=j;obtain⟨f,l,u,s,t,k,m,g,h⟩:=bn4 h;cases h;exact⟨f,t,l,k,u,m,s,g,q⟩
theorem DR(o:PDe X a (aD C ma))(t:PDe X b (aD C mb)):PDe X (.BinOp a .Add b pos) (aD C (.cat ma mb)):=by refine (Am o t).imp λu Q m=>?_;obtain⟨y,h,q⟩:=m;obtain⟨d,f,r,j,_,s,g,n,l,k,h⟩:=bn5 h;cases h;exact⟨d,s,f,g,r,j,n,l,gd_ok k,q⟩
theorem DU(g:PDe X a (aD C ma)):PDe X a (aD C (.frz ma)):=by obtain⟨o,h,s⟩:=g;refine⟨o,h,λb F A H t n B I Q w R ⟨y,h,q⟩ k=>?_⟩;obtain⟨f,z,D,m,h⟩:=bn2 h;cases h;refine s b F A H t n B (λr d=>r=f.1/\d=f.2) _ w R ⟨f,D,rfl,rfl⟩ λv G r d j l=>?_;obtain⟨g,u⟩:=l;subst g u;exact k v G _ _ (j.frz1 m) q
theorem AF (G:FnD X.prog X.w X.K X.mg X.base k fa fd ps (λxs Q=>∃w,C.call f xs=some w/\Q w.1 w.2)) (r:Room k X.A) (s:Gl X x) (l:X.mg x=some (.ref fa)) (hk:PySem.W.keepIn X.K (.ref fa)=true) (n:Binds X.K fd ps []) (g:(x == ("__debug__":Str))=false)
  (v:isStar e=false) (d:es.any isStar=false) (u:PDa X (e::es) (hU C mes)):PDe X (.Call (.Name x p) (e::es) [] pos) (aD C (.call f mes)):=by
 refine (wo (ios:=C.io f) G r s l hk n g (av v) (bQ d) u).imp λD Q m=>?_;obtain⟨y,h,q⟩:=m;obtain⟨j,z,w,B,o,t,h⟩:=bn3 h;cases h;exact⟨j,B,z.1,z.2,o,w,t,q⟩
theorem wz (G:FnD X.prog X.w X.K X.mg X.base k fa fd ps (λxs Q=>∃w,C.call f xs=some w/\Q w.1 w.2)) (u:Room k X.A) (v:Gl X x) (n:X.mg x=some (.ref fa)) (hk:PySem.W.keepIn X.K (.ref fa)=true) (r:Binds X.K fd ps []) (j:(x == ("__debug__":Str))=false)
  (D:isStar e=false) (g:es.any isStar=false) (B:PDa X (e::es) (hU C mes)):PDe X (.Call (.Name x p) (e::es) [] pos) (aD C (.callS f mes)):=by
 refine (sL G u v n hk r j (av D) (bQ g) B).imp λI Q o=>?_;obtain⟨y,h,q⟩:=o;obtain⟨l,F,w,d,_,H,t,z,m,s,h⟩:=bn5 h;cases h;exact⟨l,H,F,t,w,z,d,eC m,gd_ok s,q⟩
end
end
end L2
namespace PySem
open PySem.Spec
section
variable{prog:Program}{w:World}{A:Around}{E:Value->Shared->Prop}{s:Shared}
abbrev stN(led:Bool):Obj:={ cls:=.type "set",dict:=none,data:=.set #[] 0 (.fresh 0 0 led) }
set_option maxHeartbeats 3200000 in
end
end PySem
namespace L2
open PySem PySem.Spec PyProof.Rows
section
section
variable{X:Cx}{K:Waa}
theorem qp:bootBuiltins "sorted"=some (.builtin "sorted"):=by decide +kernel
def JE:DRn:=λc Q=>∃b a,c=[.list b]/\allB b=some a/\Q (.bool (a.any id))
theorem ints_vals:∀{ns:List Int} {us:List Value},Vals (ns.map V.int) us->IntsAre us ns
 | [],_,r=>by rw[aaK]at r;cases r;exact .nil
 | n::ns,_,r=>by
  rw[aal]at r;cases r with
  | cons r1 a=>obtain⟨t,rfl⟩:=r1;exact .cons n t (ints_vals a)
def wA(K:Waa):List V->Hp->VK->Prop:=λd H Q=>∃(p:Addr) (c:List Int),d=[.ref p]/\SqL K H p (c.map V.int)/\c.length < 64/\∀(b:List Int) (a:Addr),b.Perm c->b.Pairwise (·<=·)->H a=none->Q (.ref a) (upd H a (.lst (b.map V.int)))
theorem kR:CallR X (.builtin "sorted") (wA X.K):=by
 intro g s F H C D Q I r h;obtain⟨p,x,rfl,m,A,q⟩:=h;obtain⟨u,rfl,z⟩:=vals1 r;cases z;obtain⟨d,k,l,B⟩:=I.list m;have n:=ints_vals k;have i:d.length=x.length:=by have:=k.length;rw[aab]at this;exact this.symm
 refine sorted_ints l.isList n (by omega) λc f t j v=>?_;obtain⟨e,w⟩:=sortedAll_at s.heap d c;have G:64<=sizeLine:=by decide
 refine⟨.ref _,_,I.laid (t':=s.toks) (a:=s.heap.objs.size + 1) (o:=.lst (f.map V.int)) (λb u y=>sortedAll_old y) (abl _) ⟨?_,c.toList,e,vals_ints t,w⟩,rfl,q f _ j v (I.hok.fresh (abl _))⟩;rw[aab,j.length_eq];omega
end
def HP(T:String):PyData->Bool
 | .bool _=>T == "bool" || T == "int"
 | .int _=>T == "int"
 | .str _=>T == "str"
 | .list _=>T == "list"
 | .tuple _=>T == "tuple"
 | _=>false
inductive KindT:String->Prop
 | int:KindT "int" | bool:KindT "bool" | str:KindT "str" | list:KindT "list" | tuple:KindT "tuple"
theorem Dt.kind{K:Waa}{H:Hp}{v:V}{d:PyData}{T:String}(h:Dt K H v d)(k:KindT T):∃n,Ty K H v n/\PySem.W.kitOne K (.type n) (.type T)=some (HP T d):=by
 cases h with
 | non=>exact⟨_,.non,by cases k<;>first | exact kit_ni K | exact kit_nb K | exact kit_ns K | exact kit_nl K | exact kit_nt K⟩
 | bl b=>exact⟨_,.bl b,by cases k<;>first | exact kit_bi K | exact kit_same K _ | exact kit_bs K | exact kit_bl K | exact kit_bt K⟩
 | int i=>exact⟨_,.int i,by cases k<;>first | exact kit_same K _ | exact kit_ib K | exact kit_is K | exact kit_il K | exact kit_it K⟩
 | str x=>exact⟨_,.str x,by cases k<;>first | exact kit_same K _ | exact kit_si K | exact kit_sb K | exact kit_sl K | exact kit_st K⟩
 | lst s t=>exact⟨_,.lst s,by cases k<;>first | exact kit_same K _ | exact kit_li K | exact kit_lb K | exact kit_ls K | exact kit_lt K⟩
 | tup s t=>exact⟨_,.tup s,by cases k<;>first | exact kit_same K _ | exact kit_ti K | exact kit_tb K | exact kit_ts K | exact kit_tl K⟩
theorem nL{b c:Type}{us:List b}{ds:List c}(a:us.length=ds.length):∀(k:Nat),∀z∈(List.replicate k us).flatten.zip (List.replicate k ds).flatten,z∈us.zip ds
 | 0,z,h=>by simp at h
 | k + 1,z,h=>by rw[aaJ,aaJ,abe,abe,List.zip_append a]at h;exact (aan.mp h).elim id (nL a k z)
def JF(f:Bl):DRn:=λa Q=>∃d,uZ f a=some d/\Q d
theorem SndCB.imp{K:Waa}{a:List V->Hp->VK->Prop}{r b:DRn}(h:SndCB K a r)(f:∀ds Q,b ds Q->r ds Q):SndCB K a b:=λH d ds e Q c z q=>h H d ds e Q c (f _ _ z) q
theorem DtAll.ints'{K:Waa}{H:Hp}{vs:List V}{ns:List Int}(h:DtAll K H vs (ns.map PyData.int)):vs=ns.map V.int:=by
 induction ns generalizing vs with
 | nil=>cases h;rfl
 | cons n ns a=>cases h with | cons r t=>cases r;rw[aal,a t]
section
variable{X:Cx}{K:Waa}
theorem dInts_map:∀{ds:List PyData} {ns:List Int},g8 ds=some ns->ds=ns.map PyData.int
 | [],_,h=>by cases h;rfl
 | d::ds,ns,h=>by obtain⟨i,r,b,a,h⟩:=bn2 h;cases h;rw[aP b,dInts_map a,aal]
end
def AG:Bl->Str
 | .len=>"len" | .abs=>"abs" | .max=>"max" | .min=>"min" | .int=>"int" | .all=>"all"
def GG(x:Str):Bool:=decide (x≠"__name__") && !(x == ("__debug__":Str))
section
variable{X:Cx}{C:Ct}{a b c e:Expr}{es:List Expr}{ma mb mc:E}{mes:Es}{pos p p1 p2 p3:Pos}{x:Str}{i:Nat}
theorem DV{f:Bl}(B:X.calm=true)(s:Gl X (AG f))(r:X.mg (AG f)=none)(u:isStar e=false)(g:es.any isStar=false)(t:PDa X (e::es) (hU C mes)):PDe X (.Call (.Name (AG f) p) (e::es) [] pos) (aD C (.blt f mes)):=by
 have A:PDe X (.Call (.Name (AG f) p) (e::es) [] pos) (Fb (JF f) (hU C mes))->PDe X (.Call (.Name (AG f) p) (e::es) [] pos) (aD C (.blt f mes)):=λh=>h.imp λH Q ⟨y,h,q⟩=>by obtain⟨D,o,d,k,v,G,h⟩:=bn3 h;cases h;exact⟨D,k,o,v,d,G,q⟩
 refine A ?_;cases f with
 | len =>refine cY rn (sc_len.imp λo Q l=>?_) s r zO (by decide) (by decide) (av u) (bQ g) t;obtain⟨d,h,q⟩:=l;obtain⟨z,n,m,k,h⟩:=bn2 h;cases h;exact⟨z,n,one1_ok m,k,q⟩
 | abs =>refine cY rm (sc_abs.imp λo Q l=>?_) s r zQ (by decide) (by decide) (av u) (bQ g) t;obtain⟨d,h,q⟩:=l;obtain⟨z,i,m,k,h⟩:=bn2 h;cases h;exact⟨i,by rw[one1_ok m,aP k],q⟩
 | max =>refine cY (pw B) (sc_max.imp λo Q l=>?_) s r zR (by decide) (by decide) (av u) (bQ g) t;obtain⟨d,h,q⟩:=l;obtain⟨z,i,j,m,k,v,h⟩:=bn3 h;cases h;exact⟨i,j,by rw[two2_ok m,aP k,aP v],q⟩
 | min =>refine cY (pC B) (sc_min.imp λo Q l=>?_) s r zT (by decide) (by decide) (av u) (bQ g) t;obtain⟨d,h,q⟩:=l;obtain⟨z,i,j,m,k,v,h⟩:=bn3 h;cases h;exact⟨i,j,by rw[two2_ok m,aP k,aP v],q⟩
 | int =>refine si pD (sc_int.imp λo Q l=>?_) s r rK (by decide) (by decide) (av u) (bQ g) t;obtain⟨d,h,q⟩:=l;obtain⟨z,n,m,k,h⟩:=bn2 h;cases h;exact⟨z,n,one1_ok m,k,q⟩
 | all =>refine cY (rH B) (sc_all.imp λo Q l=>?_) s r zU (by decide) (by decide) (av u) (bQ g) t;obtain⟨d,h,q⟩:=l;obtain⟨w,z,n,m,F,k,h⟩:=bn3 h;cases h;exact⟨z,n,by rw[one1_ok m,mq F],k,q⟩
theorem AH (l:Gl X "list") (j:X.mg "list"=none) (f:isStar e=false) (m:PDe X e (aD C ma)):PDe X (.Call (.Name "list" p) [e] [] pos) (aD C (.bnw .list ma)):=by refine (qa l j jr (by decide) (by decide) (av f) rfl (bT f m eD)).imp λr Q k=>?_;obtain⟨y,h,q⟩:=k;obtain⟨d,n,o,g,h⟩:=bn2 h;cases h;exact⟨([d.1],d.2),by simp only[evs,o];rfl,d.1,n,rfl,g,q⟩
theorem wB (l:Gl X "tuple") (j:X.mg "tuple"=none) (f:isStar e=false) (m:PDe X e (aD C ma)):PDe X (.Call (.Name "tuple" p) [e] [] pos) (aD C (.bnw .tuple ma)):=by refine (sj l j gN (by decide) (by decide) (av f) rfl (bT f m eD)).imp λr Q k=>?_;obtain⟨y,h,q⟩:=k;obtain⟨d,n,o,g,h⟩:=bn2 h;cases h;exact⟨([d.1],d.2),by simp only[evs,o];rfl,d.1,n,rfl,g,q⟩
theorem insI_perm(i:Int):∀l,(insI i l).Perm (i::l)
 | []=>.refl _
 | j::r=>by
  unfold insI;split
  ·exact .refl _
  ·exact ((insI_perm i r).cons j).trans (List.Perm.swap _ _ _)
theorem kS(i:Int):∀{l:List Int},l.Pairwise (·<=·)->(insI i l).Pairwise (·<=·)
 | [],_=>by simp[insI]
 | j::r,h=>by
  obtain⟨g,m⟩:=abc.mp h;unfold insI;split
  ·rename_i d;exact abc.mpr ⟨λk f=>(aaa.mp f).elim (λe=>e ▸ d) λf=>Int.le_trans d (g k f),h⟩
  ·rename_i d;refine abc.mpr ⟨λk f=>?_,kS i m⟩;rcases aaa.mp ((insI_perm i r).mem_iff.mp f) with rfl | f
   ·omega
   ·exact g k f
theorem sortI_perm:∀l,(sortI l).Perm l
 | []=>.refl _
 | i::r=>(insI_perm i _).trans ((sortI_perm r).cons i)
theorem fU:∀l,(sortI l).Pairwise (·<=·)
 | []=>.nil
 | i::r=>kS i (fU r)
theorem kT:∀{l d:List Int},l.Perm d->l.Pairwise (·<=·)->d.Pairwise (·<=·)->l=d
 | [],d,p,_,_=>by have:=p.length_eq;cases d with | nil=>rfl | cons _ _=>simp at this
 | a::l,[],p,_,_=>by have:=p.length_eq;simp at this
 | a::l,b::d,p,h,h'=>by
  obtain⟨k,n⟩:=abc.mp h;obtain⟨j,m⟩:=abc.mp h';have e:a=b:=by
   have g:a∈b::d:=p.mem_iff.mp aag;have f:b∈a::l:=p.mem_iff.mpr aag;rcases aaa.mp g with e | g
   ·exact e
   ·rcases aaa.mp f with e | f
    ·exact e.symm
    ·have:=k b f;have:=j a g;omega
  subst e;rw[kT (List.Perm.cons_inv p) n m]
theorem sR (M:Gl X "sorted") (I:X.mg "sorted"=none) (B:isStar e=false) (n:PDe X e (aD C ma)):PDe X (.Call (.Name "sorted" p) [e] [] pos) (aD C (.bnw .sorted ma)):=by
 obtain⟨te,h,s⟩:=n;refine⟨_,eK kR M I qp (be h cz (av B)) (by decide) (by decide) (av B) rfl,λb F U H O L Y Qd Q A R ⟨y,h,q⟩ k=>?_⟩;obtain⟨j,d,ds,f,_,Z,z,D,N,l,h⟩:=bn5 h;cases h;have l:=gd_ok l;rw[mq D]at z;refine s b F U H O L Y (λr g=>r=j.1/\g=j.2) _ A R ⟨j,Z,rfl,rfl⟩ λv H' r g m J=>?_;obtain⟨n,P⟩:=J;subst n P;have T:=dInts_map N;subst T;have t:=m.dt z;rw[A]at t;cases t with
 | lst u G =>rw[DtAll.ints' G]at u;refine⟨_,f,rfl,u,l,λo a p1 p2 W=>?_⟩;have:o=sortI f:=kT (p1.trans (sortI_perm f).symm) p2 (fU f);subst this;refine k _ _ _ _ (m.drop.push ?_) q;have w:=m.drop.wd.adds (vs:=(sortI f).map V.int) (ds:=(sortI f).map PyData.int) λS _=>FzA.ints _;have:=Wd.newLst w (by simp) W;rw[aaR]at this;exact this
theorem hX {k:Knd} {T:String} (g:match k with | .int=>T="int" | .bool=>T="bool" | .str=>T="str" | .list=>T="list" | .tuple=>T="tuple" | .seq=>False) (Y:PE X b (tC (.ty T))) (P:Gl X "isinstance") (I:X.mg "isinstance"=none) (z:isStar a=false) (w:isStar b=false)
  (o:PDe X a (aD C ma)):PDe X (.Call (.Name "isinstance" p) [a,b] [] pos) (aD C (.isi k ma)):=by
 obtain⟨te,h,s⟩:=o;refine⟨_,eK (rJ T) P I dR (be h (be Y cz (av w)) (av z)) (by decide) (by decide) (av z) (bQ (by simp[w])),λb F Z H S O θ Qd Q B R ⟨y,h,q⟩ G=>?_⟩;obtain⟨l,d,e1,M,h⟩:=bn2 h;cases h;refine s b F Z H S O θ (λr j=>r=l.1/\j=l.2) _ B R ⟨l,e1,rfl,rfl⟩ λv m r j t J=>?_;obtain⟨o,U⟩:=J;subst o U;have u:=t.dt M;rw[B]at u;have f:∀(A:KindT T),HP T d=uY k d->∃x n b,[v,V.ty T]=[x,V.ty T]/\Ty X.K m x n/\PySem.W.kitOne X.K (.type n) (.type T)=some b/\Q (.bl b) m:=λA L=>by obtain⟨n,N,D⟩:=u.kind A;rw[L]at D;exact⟨v,n,_,rfl,N,D,G _ m _ _ (t.drop.sc (.bl _)) q⟩
 cases k with
 | int=>subst g;exact f .int (by cases d<;>rfl)
 | bool=>subst g;exact f .bool (by cases d<;>rfl)
 | str=>subst g;exact f .str (by cases d<;>rfl)
 | list=>subst g;exact f .list (by cases d<;>rfl)
 | tuple=>subst g;exact f .tuple (by cases d<;>rfl)
 | seq=>exact g.elim
theorem Dt.kind2{K:Waa}{H:Hp}{v:V}{d:PyData}(h:Dt K H v d):∃n,Ty K H v n/\PySem.W.kitAny K (.type n) [.type "list",.type "tuple"]=some (uY .seq d):=by
 cases h with
 | non=>exact⟨_,.non,dH K (kit_nl K) (kit_nt K)⟩
 | bl b=>exact⟨_,.bl b,dH K (kit_bl K) (kit_bt K)⟩
 | int i=>exact⟨_,.int i,dH K (kit_il K) (kit_it K)⟩
 | str x=>exact⟨_,.str x,dH K (kit_sl K) (kit_st K)⟩
 | lst s t=>exact⟨_,.lst s,gM K (.inl (kit_same K _))⟩
 | tup s t=>exact⟨_,.tup s,gM K (.inr ⟨kit_tl K,kit_same K _⟩)⟩
theorem AI {P} (W:PE X b (tC (.ty "list"))) (M:PE X c (tC (.ty "tuple"))) (S:Gl X "isinstance") (I:X.mg "isinstance"=none) (u:isStar a=false) (N:isStar b=false) (Z:isStar c=false)
  (m:PDe X a (aD C ma)):PDe X (.Call (.Name "isinstance" p) [a,.Tuple [b,c] P p1] [] pos) (aD C (.isi .seq ma)):=by
 obtain⟨te,h,s⟩:=m;refine⟨_,eK (pO "list" "tuple") S I dR (be h (be (rp (be W (be M cz (av Z)) (av N))) cz (av rfl)) (av u)) (by decide) (by decide) (av u) (bQ rfl),λb F A H T w D Qd Q z R ⟨y,h,q⟩ G=>?_⟩;obtain⟨f,d,e1,O,h⟩:=bn2 h;cases h;refine s b F A H T w D (λr g=>r=f.1/\g=f.2) _ z R ⟨f,e1,rfl,rfl⟩ λv H' r g j J=>?_;obtain⟨m,U⟩:=J;subst m U;refine⟨by show 2<=sizeLine;decide,λB Y=>?_⟩;have o:Rel b F A (upd H' B (.tup [.ty "list",.ty "tuple"])) f.2 (v::w) (f.1::D):=⟨j.wf,j.al,j.wff,j.wd.new Y⟩
 have t:=o.dt O;rw[z]at t;obtain⟨n,l,L⟩:=t.kind2;have k:=G (.bl (uY .seq d)) _ (.val (.fz (.bool (uY .seq d)))) _ (o.drop.sc (.bl _)) q;exact⟨v,_,_,B,rfl,aB,l,L,k⟩
end
end
section
def eS(t:Tg):DG:=λx b Q=>∃a,bc t x b=some a/\Q a
structure Sto (X:Cx)(W:Nat->Prop)(m:Nat)(i:Nat)(x:Str):Prop where
 hN:X.N[i]?=some x
 loc:Loc X.env.scope x
 fn:X.fn x=true\/X.env.scope.names.lookup x=some .local
 lt:i < m
 nw:¬ W i
section
variable{X:Cx}{W:Nat->Prop}{m:Nat}{C:Ct}{a b c e:Expr}{es:List Expr}{ma mb mc:E}{mes:Es}{pos p p1 p2 p3:Pos}{x:Str}{i:Nat}
theorem PDg.imp:PDg X W m e d->(∀x ρ Q,d' x ρ Q->d x ρ Q)->PDg X W m e d'
 | ⟨te,h,s⟩,f=>⟨te,h,λb F σ H ρ τ θ v x g Q j n R k q=>s b F σ H ρ τ θ v x g Q j n R (f _ _ _ k) q⟩
theorem PDgs.imp:PDgs X W m es d->(∀x ρ Q,d' x ρ Q->d x ρ Q)->PDgs X W m es d'
 | ⟨te,h,s⟩,f=>⟨te,h,λb F σ H ρ τ θ v x j Q k n g R l q=>s b F σ H ρ τ θ v x j Q k n g R (f _ _ _ l) q⟩
theorem PDg.or:PDg X W m e d->PDg X W m e d'->PDg X W m e (λx ρ Q=>d x ρ Q\/d' x ρ Q)
 | ⟨te,h,s⟩,⟨te',h',s'⟩=>⟨λv σ H Q=>te v σ H Q\/te' v σ H Q,λf s σ H v u Q I r z=>z.elim (h f s σ H v u Q I r) (h' f s σ H v u Q I r),λb F σ H ρ τ θ v x k Q j n R g q=>g.imp (λg=>s b F σ H ρ τ θ v x k Q j n R g q) λg=>s' b F σ H ρ τ θ v x k Q j n R g q⟩
theorem DW(f:X.N.Nodup)(s:Sto X W m i x):PDg X W m (.Name x pos) (eS (.nm i)):=by refine (kI s.nw f s.hN s.loc s.lt s.fn).imp λy k Q j=>?_;obtain⟨d,h,q⟩:=j;obtain⟨_,g,h⟩:=bnd h;cases h;exact⟨gd_ok g,q⟩
inductive Stos (X:Cx)(W:Nat->Prop)(m:Nat):List Nat->List Expr->Prop
 | nil:Stos X W m [] []
 | cons {i is x pos es}:Sto X W m i x->Stos X W m is es->Stos X W m (i::is) (.Name x pos::es)
theorem mx(h:X.N.Nodup):∀{f:List Nat} {es:List Expr},Stos X W m f es->PDgs X W m es (λxs ρ Q=>xs.length=f.length/\(∀i∈f,i < ρ.length)/\Q (cZ f xs ρ))
 | [],_,.nil=>pdgs_nil.imp λxs ρ Q ⟨d,g,q⟩=>by
   cases xs with
   | nil=>exact⟨rfl,q⟩
   | cons _ _=>simp at d
 | i::is,_,.cons s t=>(cC rfl (kI s.nw h s.hN s.loc s.lt s.fn) (mx h t)).imp λxs ρ Q ⟨d,g,q⟩=>by
   cases xs with
   | nil=>simp at d
   | cons z zs=>exact⟨z,zs,rfl,g i aag,by simpa using d,λj k=>by rw[abA];exact g j (aaj _ k),q⟩
theorem eT(h:Stos X W m ts es):(assignEach es X.env).length=ts.length/\(assignEach es X.env).findIdx? (·.1)=none:=by
 induction h with
 | nil=>exact⟨rfl,rfl⟩
 | @cons i is x pos es s t ih =>have e:assignEach (.Name x pos::es) X.env=(false,assign (.Name x pos) X.env)::assignEach es X.env:=rfl;rw[e];refine⟨by simp[ih.1],?_⟩;rw[abd];simp[ih.2]
theorem ia(h:unpA y=some xs):unpT y=some xs\/unpL y=some xs:=by
 unfold unpA at h;cases d:unpT y with
 | some f=>rw[d]at h;exact .inl h
 | none=>rw[d]at h;exact .inr h
theorem DX(l:X.calm=true)(g:X.N.Nodup)(h:Stos X W m ts es):PDg X W m (.Tuple es k pos) (eS (.tp ts)):=by
 refine ((jC l (eT h).1 (eT h).2 (mx g h)).or (jD l (eT h).1 (eT h).2 (mx g h))).imp λy r Q o=>?_;obtain⟨n,h,q⟩:=o;obtain⟨j,_,f,d,h⟩:=bn2 h;cases h;have d:=gd_ok d;rcases ia f with f | f
 ·exact .inl ⟨j,f,d.1,d.1,d.2,q⟩
 ·exact .inr ⟨j,f,d.1,d.1,d.2,q⟩
theorem GH(g:X.calm=true)(l:X.N.Nodup)(s:Sto X W m i x)(h:Stos X W m ts es):PDg X W m (.Tuple [.Name x p,.Tuple es k p2] k2 pos) (eS (.tn i ts)):=by
 have j:=cC (e:=.Name x p) (es:=[.Tuple es k p2]) rfl (DW l s) (cC rfl (DX g l h) pdgs_nil);refine ((jC g rfl rfl j).or (jD g rfl rfl j)).imp λy o Q u=>?_;obtain⟨f,h,q⟩:=u;obtain⟨v,z,_,d,r,t,h⟩:=bn3 h;rw[two2_ok r]at d;have n:jA (eS (.nm i)) (jA (eS (.tp ts)) dgNil) [z.1,z.2] o Q:=⟨z.1,[z.2],rfl,o.set i (some z.1),by show (gd _).bind _=_;rw[t];rfl,z.2,[],rfl,f,h,rfl,q⟩
 rcases ia d with d | d
 ·exact .inl ⟨_,d,rfl,n⟩
 ·exact .inr ⟨_,d,rfl,n⟩
theorem PI.or(h:PI X tg e t)(h':PI X tg e t'):PI X tg e (λσ H R=>t σ H R\/t' σ H R):=λd s σ H R I z=>z.elim (h d s σ H R I) (h' d s σ H R I)
theorem PDi.or:PDi X tg e d->PDi X tg e d'->PDi X tg e (λρ Q=>d ρ Q\/d' ρ Q)
 | ⟨te,h,s⟩,⟨te',h',s'⟩=>⟨_,PI.or h h',λb F σ H ρ τ θ g Q j R f q=>f.imp (λf=>s b F σ H ρ τ θ g Q j R f q) λf=>s' b F σ H ρ τ θ g Q j R f q⟩
theorem AJ(d:ev C ma ρ=some xa):evs C (.cons ma .nil) ρ=some ([xa.1],xa.2):=by show ((ev C ma ρ).bind _)=_;rw[d];rfl
theorem DY(d:ev C ma ρ=some xa)(f:ev C mb xa.2=some xb):evs C (.cons ma (.cons mb .nil)) ρ=some ([xa.1,xb.1],xb.2):=by show ((ev C ma ρ).bind _)=_;rw[d];show ((evs C (.cons mb .nil) xa.2).bind _)=_;rw[AJ f];rfl
theorem kU(e:au ρ r=some d):cX ρ [r]=some [d]:=by show ((au ρ r).bind _)=_;rw[e];rfl
theorem yq(e:au ρ r=some d)(f:au ρ r'=some d'):cX ρ [r,r']=some [d,d']:=by show ((au ρ r).bind _)=_;rw[e];show ((cX ρ [r']).map _)=_;rw[kU f];rfl
theorem yr(e:frz1 ρ r=some z)(h:z.1=d):frzL ρ [r]=some ([d],z.2):=by show ((frz1 ρ r).bind _)=_;rw[e,<- h];rfl
theorem DZ(e:frz1 ρ r=some z)(d:frz1 z.2 r'=some w):frzL ρ [r,r']=some ([z.1,w.1],w.2):=by show ((frz1 ρ r).bind _)=_;rw[e];show ((frzL z.2 [r']).map _)=_;rw[yr d rfl];rfl
theorem yt(h:sM d=some ds):∃l:Bool,Dm d=some (l,ds):=(mr h).elim (λh=>⟨true,h ▸ rfl⟩) λh=>⟨false,h ▸ rfl⟩
theorem D0(k:PDe X e (aD C ma)):PDi X tg e (gu C (.seq ma)):=by
 refine ((sx k).or (wc k)).imp λs Q o=>?_;obtain⟨y,h,q⟩:=o;obtain⟨g,z,r,l,j,f,h⟩:=bn3 h;obtain⟨d,n⟩:=z;cases h;rcases mr f with f | f<;>simp only at f<;>subst f
 ·exact .inl ⟨g,l,_,_,j,q⟩
 ·exact .inr ⟨g,l,_,_,j,q⟩
theorem D1 (r:Gl X "range") (n:X.mg "range"=none) (k:isStar a=false) (s:PDe X a (aD C ma)):PDi X tg (.Call (.Name "range" p) [a] [] pos) (gu C (.rg1 ma)):=by refine (l8 r n (av k) (bT k s eD)).imp λv Q o=>?_;obtain⟨y,h,q⟩:=o;obtain⟨g,d,j,_,u,l,t,f,h⟩:=bn4 h;cases h;have f:=gd_ok f;rw[aP t]at l;exact⟨([g.1],g.2),AJ u,j,kU l,f.1,f.2,q⟩
theorem D2 (w:Gl X "range") (u:X.mg "range"=none) (r:isStar a=false) (f:isStar b=false) (z:PDe X a (aD C ma)) (A:PDe X b (aD C mb)):PDi X tg (.Call (.Name "range" p) [a,b] [] pos) (gu C (.rg2 ma mb)):=by refine (l9 w u (by rw[av r,av f];rfl) (av f) (bT r z (bT f A eD))).imp λG Q v=>?_;obtain⟨y,h,q⟩:=v;obtain⟨s,l,d,i,F,D,g,n,t,o,h⟩:=bn5 h;obtain⟨j,_,B,k,h⟩:=bn2 h;cases h;rw[aP t]at n;rw[aP B]at o;have k:=gd_ok k;exact⟨([s.1,l.1],l.2),DY D g,i,j,yq n o,k,q⟩
theorem D3 {k} (o:Gl X "enumerate") (l:X.mg "enumerate"=none) (f:isStar a=false) (j:PDe X a (aD C ma)):PDi X (.Tuple es k tpos) (.Call (.Name "enumerate" p) [a] [] pos) (gu C (.enm ma)):=by refine (sy o l (av f) (bT f j eD)).imp λu Q n=>?_;obtain⟨y,h,q⟩:=n;obtain⟨d,z,r,t,g,s,h⟩:=bn3 h;cases h;exact⟨([d.1],d.2),AJ t,r,z.2,yr g (mq s),q⟩
theorem D4 {t} (u:Gl X "zip") (k:X.mg "zip"=none) (g:isStar a=false) (d:isStar b=false) (A:PDe X a (aD C ma)) (D:PDe X b (aD C mb)):PDi X (.Tuple es t tpos) (.Call (.Name "zip" p) [a,b] [] pos) (gu C (.zip ma mb)):=by refine (we u k (by rw[av g,av d];rfl) (av d) (bT g A (bT d D eD))).imp λL Q l=>?_;obtain⟨y,h,q⟩:=l;obtain⟨I,J,z,w,G,H,f,s,v,j,h⟩:=bn5 h;obtain⟨es,o,h⟩:=bnd h;cases h;obtain⟨F,r⟩:=yt j;obtain⟨B,n⟩:=yt o;exact⟨_,DY H f,_,_,F,B,G,es,w.2,DZ s v,r,n,q⟩
def cm(C:Ct)(j:Tg)(g:Eo)(f:E)(d:PyData)(ρ:DEnv):Option (List PyData × DEnv) :=
 (bc j (.fz d) ρ).bind λh=>(Gz C g h).bind λk=>if k.1=true then (ev C f k.2).bind λy=>(frz1 y.2 y.1).bind λq=>some ([q.1],q.2) else some ([],k.2)
def AK(C:Ct)(f:Eo)(d:E):DC:=λg Q=>∃w,((Gz C f g).bind λk=>if k.1=true then (ev C d k.2).bind λy=>(frz1 y.2 y.1).bind λq=>some (([q.1]:List PyData),q.2) else some ([],k.2))=some w/\Q w.1 w.2
theorem PDc.imp:PDc Y ifs elt d->(∀ρ Q,d' ρ Q->d ρ Q)->PDc Y ifs elt d'
 | ⟨te,h,s⟩,f=>⟨te,h,λb F σ H ρ vs rs D out j Q k g n R l q=>s b F σ H ρ vs rs D out j Q k g n R (f _ _ l) q⟩
theorem wC(f:PDe Y elt (aD C me)):PDc Y [] elt (AK C .none me):=(qj f).imp λj Q ⟨w,h,q⟩=>by have h:((ev C me j).bind λy=>(frz1 y.2 y.1).bind λq=>some (([q.1]:List PyData),q.2))=some w:=h;obtain⟨y,z,g,d,h⟩:=bn2 h;cases h;exact⟨y,g,z.1,z.2,d,q⟩
theorem AL(l:PDt Y c (hR C mc))(g:PDe Y elt (aD C me)):PDc Y [c] elt (AK C (.some mc) me):=(sI l g).imp λo Q ⟨w,h,q⟩=>by
 obtain⟨k,n,h⟩:=bnd h;refine⟨k,n,?_⟩;by_cases d:k.1=true
 ·rw[if_pos d]at h ⊢;obtain⟨y,z,j,f,h⟩:=bn2 h;cases h;exact⟨y,j,z.1,z.2,f,q⟩
 ·rw[if_neg d]at h ⊢;cases h;exact q
theorem sS(step:PyData->DEnv->Option (List PyData × DEnv))(ds:List PyData)(w:List PyData × DEnv)(k:Nat)(f:ds[k]?=some d)(h:bW step (ds.drop k) out ρ=some w):∃z,step d ρ=some z/\bW step (ds.drop (k + 1)) (out++z.1) z.2=some w:=by
 have g:=(aao.mp f).1;have e:ds.drop k=d::ds.drop (k + 1):=by rw[abq g,(aao.mp f).2]
 rw[e]at h;exact bnd h
theorem nM(C:Ct){j:Tg}:∀ρ Q,aD C (.comp nt fr mi j mif me) ρ Q->nH (gu C mi) nt fr (eS j) (AK C mif me) ρ Q:=λρ Q ⟨y,h,q⟩=>by
 obtain⟨x,_,z,w,B,t,v,A,h⟩:=bn4 h;cases h;refine⟨x,B,gd_ok t,z.1,z.2,v,λk f ρ=>bW (cm C j mif me) (x.1.drop k) f ρ=some w,A,λk d f ρ s g=>?_,λf ρ g=>?_⟩
 ·obtain⟨u,o,n⟩:=sS _ _ _ k s g;obtain⟨l,r,o⟩:=bnd o;exact⟨l,r,u,o,n⟩
 ·have g:bW (cm C j mif me) (x.1.drop x.1.length) f ρ=some w:=g;rw[aca]at g;cases g;exact q
theorem AM{d:Tg}(j:X.calm=true)(S:CompScope N nt fr X.N scope X.env.scope)(f:∀x,foldedSetIterable iter X.env x=pure x)(g:PDi X tg iter (gu C mi))(k:∀c:CC,PDg (dG X N scope c) Ff nt tg (eS d))(h:∀c:CC,PDc (dG X N scope c) ifs elt (AK C mif me)) :
  PDe X (.ListComp elt [⟨tg,iter,ifs,0⟩] scope pos) (aD C (.comp nt fr mi d mif me)):=(wm j S f g k h).imp (nM C)
theorem D5(f:PDe X a (aD C ma))(g:PDe X c (aD C mb)):PDe X (.BinOp a .Mult c pos) (aD C (.rep ma mb)):=by
 obtain⟨_,f,s1⟩:=f;obtain⟨_,g,s2⟩:=g;refine⟨_,rg zJ f g,λb F I H ρ N T Qd Q S R ⟨y,h,q⟩ k=>?_⟩;obtain⟨B,o,xs,dn,n,e1,e2,G,O,en,h⟩:=bn5 h;obtain⟨t,_,e3,j,h⟩:=bn2 h;cases h;have j:=gd_ok j;have G:=mw G;rw[aP en]at O;refine s1 b F I H ρ N T (λr d=>r=B.1/\d=B.2) _ S R ⟨B,e1,rfl,rfl⟩ λv Z r d R1 D=>?_;obtain⟨f,g⟩:=D;subst f g;refine s2 b F I Z _ _ _ (λr d=>r=o.1/\d=o.2) _ S R1 ⟨o,e2,rfl,rfl⟩ λu U r d M D=>?_;obtain⟨f,g⟩:=D;subst f g;have hk:=M.dt O;cases hk;have s:=M.drop;rw[G]at s;obtain⟨A,h0,nd,L⟩:=s.wd.out;have hx:=fzL_map e3;subst hx;cases h0 with
 | cons Y t0 =>
  cases Y with
  | @lst l us _ A' hH tt =>
   have P:=Ows.fzs tt;have w:Wd b U (us.zip (t.map OD.fz)++((V.ref l,OD.lst (t.map OD.fz))::(stk N T++(flat I o.2++ff F)))):=Wd.exp s.wd (Ows.cons (.lst hH tt) t0) nd L P;have J:=P.length;refine⟨l,n,us,rfl,rfl,hH,by omega,by omega,aat (by rw[J];exact j.2.2) (by decide),λpp hp=>k _ _ _ _ (Rel.drop2 (s.newLst w (by rw[len_rep,len_rep,J]) (λz j=>?_) hp)) q⟩;refine aaf _ (nL (by simpa using J) n.toNat z ?_);have e:(List.replicate n.toNat t).flatten.map OD.fz=(List.replicate n.toNat (t.map OD.fz)).flatten:=by rw[List.map_flatten,List.map_replicate]
   rw[e]at j;exact j
end
end
section
def D6(D:DEnds)(ρ:DEnv):Fl->Prop
 | .nx=>D.nx ρ | .bk=>D.bk ρ | .ct=>D.ct ρ | .rt x=>D.rt x ρ
def ib(C:Ct)(s:S'):DS:=λD a=>∃x,bC C s a=some x/\D6 D x.2 x.1
def kW(C:Ct)(s:Ss):DS:=λD a=>∃x,aK C s a=some x/\D6 D x.2 x.1
section
variable{b:Bs}{F:List Fr}{σ:St}{H H':Hp}{ρ:DEnv}{τ us:List V}{θ:List OR}{zs:List OD}{v u:V}{x y:OD}{i:Nat}{ks:List Nat}
theorem Rel.open(R:Rel b F σ H ρ (us++τ) (zs.map OR.val++θ))(a:us.length=zs.length)(e:ρ[i]?.join=some x):∃v,σ[i]?=some (some v)/\Wd b H (us.zip zs++((v,x)::(stk τ θ++(flat σ (ρ.set i none)++ff F)))):=by obtain⟨v,c,w⟩:=R.slot (join_some e);refine⟨v,c,w.perm ?_⟩;rw[aH (by simpa using a),cW a,aac];exact aaw.symm
theorem Rel.close(R:Rel b F σ H ρ τ θ)(ev:σ[i]?=some (some v))(w:Wd b H' ((v,x)::(stk τ θ++(flat σ (ρ.set i none)++ff F)))):Rel b F σ H' (ρ.set i (some x)) τ θ:=Rel.back R.wf R.al R.wff ev w
theorem Rel.rest(R:Rel b F σ H ρ (us++τ) (zs.map OR.val++θ))(a:us.length=zs.length):Rel b F σ H ρ τ θ:=R.drops (by simpa using a)
end
section
variable{X:Cx}{W:Nat->Prop}{m:Nat}{C:Ct}{a b c e:Expr}{es:List Expr}{sts s1 s2:List Stmt}{st:Stmt}{ma mb mc:E}{mes:Es}{ms:S'}{mss ma' mb':Ss}{pos p p1 p2 p3 pos':Pos}{x:Str}{i:Nat}
theorem PDs.imp:PDs X W st d->(∀D ρ,d' D ρ->d D ρ)->PDs X W st d'
 | ⟨te,h,s⟩,f=>⟨te,h,λb F σ H ρ τ θ j D g n R k E=>s b F σ H ρ τ θ j D g n R (f _ _ k) E⟩
theorem PDss.imp:PDss X W sts d->(∀D ρ,d' D ρ->d D ρ)->PDss X W sts d'
 | ⟨te,h,s⟩,f=>⟨te,h,λb F σ H ρ τ θ j D g n R k E=>s b F σ H ρ τ θ j D g n R (f _ _ k) E⟩
theorem AN:PDss X W [] (kW C .nil):=pdss_nil.imp λD d ⟨y,h,q⟩=>by cases h;exact q
theorem wD(j:PDs X W st (ib C ms))(k:PDss X W sts (kW C mss)):PDss X W (st::sts) (kW C (.cons ms mss)):=by
 refine (qb j k).imp λD o n=>?_;obtain⟨y,h,q⟩:=n;obtain⟨z,f,h⟩:=bnd h;obtain⟨l,g⟩:=z;refine⟨λd=>l=.nx/\d=g,λd ⟨j,k⟩=>?_,?_⟩
 ·subst j k;exact⟨y,h,q⟩
 ·cases l
  ·exact⟨_,f,rfl,rfl⟩
  ·cases h;exact⟨_,f,q⟩
  ·cases h;exact⟨_,f,q⟩
  ·cases h;exact⟨_,f,q⟩
theorem AO:PDs X W (.Continue pos) (ib C .cont):=pds_cont.imp λD d ⟨y,h,q⟩=>by cases h;exact q
def fV:Expr->Bool
 | .ListComp _ _ _ _=>true | .SetComp _ _ _ _=>true | .DictComp _ _ _ _ _=>true
 | _=>false
theorem jJ(h:fV e=false):swapsWith e t l env=pure false:=by cases e<;>first | rfl | cases h
theorem GI(d:fV e=false)(g:PDe X e (aD C ma)):PDs X W (.Expr e pos) (ib C (.ex ma)):=by refine (sq (jJ d) g).imp λD k f=>?_;obtain⟨y,h,q⟩:=f;obtain⟨z,j,h⟩:=bnd h;cases h;exact⟨z,j,q⟩
theorem D7(g:PDe X e (aD C ma)):PDs X W (.Return (some e) pos) (ib C (.ret ma)):=by refine (v8 g).imp λD k f=>?_;obtain⟨y,h,q⟩:=f;obtain⟨z,w,j,d,h⟩:=bn2 h;cases h;exact⟨z,j,w.1,w.2,d,q⟩
theorem GJ(f:PDt X c (hR C mc))(j:PDss X W s1 (kW C ma'))(l:PDss X W s2 (kW C mb')):PDs X W (.If c s1 s2 pos) (ib C (.iff mc ma' mb')):=by
 refine (Ao f j l).imp λD n g=>?_;obtain⟨y,h,q⟩:=g;obtain⟨z,k,h⟩:=bnd h;refine⟨z,k,?_⟩;by_cases d:z.1=true
 ·rw[if_pos d]at h ⊢;exact⟨y,h,q⟩
 ·rw[if_neg d]at h ⊢;exact⟨y,h,q⟩
theorem yu(f:X.N.Nodup)(s:Sto X W m i x)(d:swapsWith e (some (.Name x pos')) pos.line X.env=pure false)(l:PDe X e (aD C ma)):PDs X W (.Assign [.Name x pos'] e pos) (ib C (.set i ma)):=by refine (v9 s.nw f s.hN s.loc d s.fn l).imp λD o k=>?_;obtain⟨y,h,q⟩:=k;obtain⟨z,w,_,n,g,j,h⟩:=bn3 h;cases h;exact⟨z,n,w.1,w.2,g,gd_ok j,q⟩
theorem D8(f:swapsWithSole [tg] e pos.line X.env=pure false)(j:swappedStores [tg] e X.env=pure none)(r:isStar tg=false)(n:PDe X e (aD C ma))(s:PDg X W m tg (eS t)):PDs X W (.Assign [tg] e pos) (ib C (.asg t ma)):=by refine (wb f j (by cases tg<;>first | rfl | cases r) n s).imp λD u k=>?_;obtain⟨y,h,q⟩:=k;obtain⟨z,w,d,o,g,l,h⟩:=bn3 h;cases h;exact⟨z,o,w.1,w.2,g,d,l,q⟩
theorem wF(B:PassesOwn (model X.prog X.w) X.A X.env X.xe)(u:PDt X cc (hR C mc))(l:PDss X W sts (kW C mss)):PDs X W (.While cc sts [] pos) (ib C (.whl mc mss)):=by
 refine (qe B u l).imp λD r t=>?_;obtain⟨y,h,q⟩:=t;refine⟨λn r=>gh (bf C mc) (aK C mss) n r=some y,⟨C.wf,h⟩,λn r d=>?_⟩;cases n with
 | zero=>cases d
 | succ n =>
  obtain⟨z,F,d⟩:=bnd d;refine⟨z,F,?_⟩;by_cases s:z.1=true
  ·rw[if_pos s]at d ⊢;obtain⟨w,g,d⟩:=bnd d;obtain⟨k,j⟩:=w;refine⟨λf=>f=j/\(k=.nx\/k=.ct),λf ⟨l,v⟩=>?_,?_⟩
   ·subst l;refine⟨n,abm n,?_⟩;rcases v with rfl | rfl<;>exact d
   ·cases k with
    | nx=>exact⟨_,g,rfl,.inl rfl⟩
    | bk=>cases d;exact⟨_,g,q⟩
    | ct=>exact⟨_,g,rfl,.inr rfl⟩
    | rt o=>cases d;exact⟨_,g,q⟩
  ·rw[if_neg s]at d ⊢;cases d;exact q
theorem D9(hp:PassesOwn (model X.prog X.w) X.A X.env X.xe)(hc:X.calm=true)(hs:∀x,foldedSetIterable iter X.env x=pure x)(hi:PDi X tg iter (gu C mi))(hg:PDg X W m tg (eS t))(hb:PDss X W sts (kW C mss)):PDs X W (.For tg iter sts [] pos) (ib C (.fr t mi mss)):=by
 obtain⟨_,j,s1⟩:=hi;obtain⟨_,k,s2⟩:=hg;obtain⟨_,h3,s3⟩:=hb;refine⟨_,zp hp hc j k h3 hs,λb F Z H S M N Dd D hK n R ⟨y,h,q⟩ E=>?_⟩;obtain⟨x,e1,h⟩:=bnd h;refine s1 b F Z H S M N (λds f=>ds=x.1/\f=x.2) _ hK R ⟨x,e1,rfl,rfl⟩ λJ H1 ds l U Y T nr R1 it hZ=>?_;obtain⟨j,k⟩:=hZ;subst j k;refine⟨λi mm Z H=>mm=x.1.length - i/\i<=x.1.length/\∃S,Rel b F Z H S (U++M) (Y++N)/\bb (λd f=>(bc t (.fz d) f).bind λl=>aK C mss l) (x.1.drop i) S=some y,⟨_,rfl,aaH _,_,R1,h⟩,?_⟩;rintro i mm I H2 ⟨rfl,hi,L,R2,B⟩;obtain⟨go,O⟩:=it F I H2 L M N R2 i;by_cases u:i < x.1.length
 ·obtain⟨g1,g2⟩:=go u;have ed:x.1[i]?=some x.1[i]:=aak u;have ee:x.1.drop i=x.1[i]::x.1.drop (i + 1):=abq u;rw[ee]at B;obtain⟨w,e2,B⟩:=bnd B;obtain⟨P,e3,e2⟩:=bnd e2;obtain⟨Q,r⟩:=w;refine .inr ⟨g1,λg G=>∃f,Rel b F g G f (U++M) (Y++N)/\bb (λd f=>(bc t (.fz d) f).bind λl=>aK C mss l) (x.1.drop (i + 1)) f=some y,λg G ⟨f,s,w'⟩=>⟨_,by omega,rfl,u,f,s,w'⟩,λz H3 hy=>?_⟩;have R3:=g2 z H3 x.1[i] hy ed;refine s2 b F I H3 L (U++M) (Y++N) z _ (λf=>f=P) _ hK (NoRf.app nr.weak n) R3 ⟨P,e3,rfl⟩ λa0 H4 f R4 _ h4=>?_;subst h4;refine s3 b F a0 H4 _ (U++M) (Y++N) ⟨λf=>Q=.nx/\f=r,λo f=>Q=.rt o/\f=r,λf=>Q=.bk/\f=r,λf=>Q=.ct/\f=r⟩ _ hK (NoRf.app nr.weak n) R4 ⟨_,e2,by cases Q<;>exact⟨rfl,rfl⟩⟩ ⟨λg G f s ⟨j,k⟩=>?_,λg G f s ⟨j,k⟩=>?_,λg G f s ⟨j,k⟩=>?_,λg G f v o s ⟨j,k⟩=>?_⟩
  ·subst j k;exact⟨_,s,B⟩
  ·subst j k;cases B;exact E.nx g G _ (s.drops T) q
  ·subst j k;exact⟨_,s,B⟩
  ·subst j k;cases B;exact E.rt g G _ v o (Rel.drops (Rel.tor s T) T) q
 ·have e:i=x.1.length:=by omega
  subst e;rw[aca]at B;cases B;exact .inl ⟨O rfl,E.nx I H2 L (R2.drops T) q⟩
end
end
section
section
variable{prog:Program}{w:World}{A:Around}{E:Value->Shared->Prop}{s:Shared}
theorem kX{T d:String}(h:s.TypeIs a T)(k:s.TypeIs b T)
  (g:typeLookup (.type T) (dunderI "add")=pure (some (.builtin d))) (j:isSeqSlotId d=true) (c:fillsNumberSlot (.type T) "add"=pure false)
  (l:wpAny (model prog w) A (call (.builtin d) [a,b]) Q E s):wpAny (model prog w) A (inplaceOp .Add a b) Q E s:=by
 unfold inplaceOp;refine wpAny_holding ?_;have f:fillsInplaceSlot (.type T) "add" (Operator.Add == .Add)=pure false:=by unfold fillsInplaceSlot;show (typeLookup (.type T) (dunderI "add") >>= λi=>pure (i.isSome && !isSeqSlot i))=pure false;rw[g];show (pure (true && !isSeqSlotId d):Sem Bool)=_;rw[j];rfl
 have e:seqSlot? (.type T) (dunderI "add")=pure (some (.builtin d)):=PySem.seqSlot_of g j;refine wpAny_bind (wpAny_typeOf h (wpAny_bind (wpAny_of_eq f ?_)));show wpAny (model prog w) A (if false=true then _ else _) Q E s;rw[if_neg aae];refine wpAny_bind (binaryOp1_none h k c ?_);refine wpAny_bind (wpAny_of_eq e ?_);exact wpAny_bind (wpAny_rule l)
end
section
variable{X:Cx}{K:Waa}{e:Expr}{da:DE}{pos pos':Pos}{x:Str}{i:Nat}
def ipL:TIp:=λx y H Q=>∃l b a c,x=.ref l/\y=.ref b/\H l=some (.lst a)/\H b=some (.lst c)/\a.length + c.length<=sizeLine/\Q (.ref l) (upd H l (.lst (a++c)))
theorem wG:Ca X .Add ipL:=by
 intro g s L H x y v u Q I B m h;obtain⟨l,b,D,J,rfl,rfl,j,t,p,q⟩:=h;cases B;cases m;obtain⟨z,c,n,r,C,e⟩:=I.lstM j;obtain⟨G,a,w,o,A,k⟩:=I.lstM t;have f:c.toArray.size + a.toArray.size<=sizeLine:=by rw[aar,aar];omega
 have d:¬ (!c.toArray.isEmpty && Builtin.List.listTooLong (c.toArray.size + a.toArray.size))=true:=by rw[gG f,Bool.and_false];exact aae
 refine kX ⟨_,e,rfl⟩ ⟨_,k,rfl⟩ F.slot_list_iadd.lookup (by decide +kernel) noFill_list_add ?_;refine call_meets F.slot_list_iadd ⟨_,e,rfl⟩ F.entry_list_iadd (F.args_list_iadd_2 _ _)
  (AutoSeq1.list___iadd___list_list_0 l c.toArray n b a.toArray w d (by rw[aar];omega) (by omega)) ⟨e,k,?_⟩
 refine⟨.ref l,_,I.lset j e (by simp) (r.append o) ?_,rfl,q⟩;rw[aai];exact p
end
section
variable{X:Cx}{W:Nat->Prop}{m:Nat}{C:Ct}{a b c e:Expr}{es:List Expr}{sts s1 s2:List Stmt}{st:Stmt}{ma mb mc:E}{mes:Es}{ms:S'}{mss ma' mb':Ss}{pos p p1 p2 p3 pos' apos cpos:Pos}{x:Str}{i:Nat}
theorem Ea(hN:X.N.Nodup)(s:Sto X W m i x)(u:PDe X e (aD C ma)):PDs X W (.AugAssign (.Name x pos') (opOf o) e pos) (ib C (.aug i o ma)):=by
 have j:∀(f:Operator) (g:Int->Int->Int),Ca X f (FD g)->(∀a d r,wq o a d=some r->∃k,d=.int k/\r=g a k)->PDs X W (.AugAssign (.Name x pos') f e pos) (ib C (.aug i o ma)):=λf g ho hg=>by
  obtain⟨_,h,s1⟩:=u;refine⟨_,qX hN s.hN s.loc h ho s.fn,λb F P H A L Q Dd D M n R ⟨y,h,q⟩ E=>?_⟩;obtain⟨Z,d0,t,l,I,O,h⟩:=bn3 h;rw[eC I,aP O]at l
  ·obtain⟨z,dk,r,S,J,er,h⟩:=bn3 h;cases h;obtain⟨k,rfl,rfl⟩:=hg _ _ _ er;obtain⟨v,ev,w⟩:=R.slot (join_some l);have T:=w.dt rfl;cases T;have hi:i < A.length:=(aao.mp (join_some l)).1;refine⟨_,ev,s1 b F P H A L Q (λr G=>r=z.1/\G=z.2) _ M R ⟨z,S,rfl,rfl⟩ λv H1 r U B hZ=>?_⟩;obtain⟨u,h2⟩:=hZ;subst u h2;have hm:=B.dt J;cases hm;have Y:i < z.2.length:=by rw[<- B.wf.len,R.wf.len];exact hi
   exact⟨t,k,rfl,rfl,E.nx _ H1 _ ((B.drop.sc (.int (g t k))).store n Y s.nw) q⟩
 have nil:∀f,(∀a d,wq o a d=none)->PDs X W (.AugAssign (.Name x pos') f e pos) (ib C (.aug i o ma)):=λf hn=>by refine⟨_,qS,λb F P H A L Q Dd D M n R ⟨y,h,q⟩ E=>?_⟩;obtain⟨Z,d0,t,z,dk,l,I,O,S,J,h⟩:=bn5 h;rw[hn]at h;cases h
 cases o with
 | add=>exact j _ _ zj λa d r h=>by cases d<;>cases h;exact⟨_,rfl,rfl⟩
 | sub=>exact j _ _ zk λa d r h=>by cases d<;>cases h;exact⟨_,rfl,rfl⟩
 | _=>exact nil _ λa d=>rfl
theorem Wd.unpL0{b:Bs}(w:Wd b H ((v,.lst cs)::L)):∃a vs,v=.ref a/\H a=some (.lst vs)/\vs.length=cs.length/\Wd b H (vs.zip cs++L):=by
 obtain⟨l,g,j,d⟩:=w.out;have k:=w.nt' g;cases g with
 | @cons _ _ A _ _ B0 r t =>
  cases r with
  | @lst a vs _ B h1 h2 =>have f:∀c,(c∈B++B0\/b.S0 c)->(c∈a::B++B0\/b.S0 c):=λc z=>z.imp (λz=>by simp at z ⊢;exact .inr z) id;exact⟨a,vs,rfl,h1,h2.len,⟨⟨_,Ows.step (Kp.refl _ _) (λc z=>.inl (f c z)) k (λ_ _=>rfl) (OwL.join' (OwL.unzips h2) t),(aaA.mp j).2,λc h=>d c (aaj _ h)⟩,w.fr,w.s0,w.nt⟩⟩
theorem set_same{d:Type}{l:List d}{x:d}(h:l[i]?=some x):l.set i x=l:=bx h
theorem Eb(hN:X.N.Nodup)(s:Sto X W m i x)(f:PDe X e (aD C ma)):PDs X W (.AugAssign (.Name x pos') .Add e pos) (ib C (.agl i ma)):=by
 obtain⟨_,h,s1⟩:=f;refine⟨_,qX hN s.hN s.loc h wG s.fn,λb F j H ρ M T Dd D hK n R ⟨y,h,q⟩ E=>?_⟩;obtain⟨x0,a0,z,Q,x1,e0,f0,e1,o,O,h⟩:=bn5 h;obtain⟨xs,_,f1,L,h⟩:=bn2 h;cases h;have L:=gd_ok L;have o:=mw o;rw[bX f1]at O;obtain⟨v,k⟩:=R.wf.get (join_some e0);refine⟨v,k,s1 b F j H ρ M T (λr I=>r=z.1/\I=z.2) _ hK R ⟨z,e1,rfl,rfl⟩ λu H1 r Y B hZ=>?_⟩;obtain⟨f,t⟩:=hZ;subst f t;rw[o]at B;obtain⟨bd,G,rfl,hB,d,w2⟩:=Wd.unpL0 B.wd;have J:Rel b F j H1 z.2 (G++M) (Q.map OR.val++T):=Rel.spread (Rel.drop B) d w2;obtain⟨v',g,w⟩:=J.open d O;rw[k]at g;cases g;obtain⟨l,P,ch,U,hl,go⟩:=w.mutL (ks:=[]) d rfl;cases ch;refine⟨l,bd,P,G,rfl,rfl,U,hB,aat (by omega:_<=1000000) (by decide),?_⟩;show D.nx (j.set i (some (.ref l))) _;rw[set_same k];have Z:=go (P++G) (xs++Q) λS H A C nt f t nd=>⟨A++C,Ows.append f t,nd,λc hc=>aan.mp hc⟩
 exact E.nx j _ _ (Rel.close (J.rest d) k Z) q
end
end
section
section
variable{b:Bs}{S S':Addr->Prop}{H H1 H':Hp}{L L':List (V × OD)}{v u u' w w':V}{x y z z' y':OD}{d:PyData}{ks:List Nat}{k:Nat}
theorem Chn.det(h:Chn b H v x ks u y)(h':Chn b H v x ks u' y'):u=u'/\y=y':=by
 induction ks generalizing v x with
 | nil=>cases h;cases h';exact⟨rfl,rfl⟩
 | cons k ks j =>
  cases h with
  | cons g e =>
   cases h' with
   | cons a f =>obtain⟨i,c⟩:=Chd.det g a;subst i c;exact j e f
theorem Chn.snoc(h:Chn b H v x ks u y)(c:Chd b H u y k w z):Chn b H v x (ks++[k]) w z:=by
 induction ks generalizing v x with
 | nil=>cases h;exact .cons c .nil
 | cons k ks f=>cases h with | cons e a=>exact .cons e (f a)
theorem Chn.unsnoc(h:Chn b H v x (ks++[k]) w z):∃u y,Chn b H v x ks u y/\Chd b H u y k w z:=by
 induction ks generalizing v x with
 | nil=>cases h with | cons c t=>cases t;exact⟨_,_,.nil,c⟩
 | cons k ks g =>
  cases h with
  | cons e a =>obtain⟨u,y,f,i⟩:=g a;exact⟨u,y,.cons e f,i⟩
theorem OD.at_snoc:∀{ks:List Nat} {x:OD},x.at ks=some y->y.kids[k]?=some z->x.at (ks++[k])=some z
 | [],x,e,h=>by simp only[OD.at]at e;cases e;simp[OD.at,h]
 | j::ks,x,e,h=>by
  simp only[OD.at,aaG]at e ⊢;cases a:x.kids[j]? with
  | none=>rw[a]at e;cases e
  | some q=>rw[a]at e;exact OD.at_snoc e h
theorem setKid_self(h:x.kids[k]?=some z):OD.setKid k z x=x:=by cases x<;>simp only[OD.kids]at h<;>first | (simp at h;done) | (simp only[OD.setKid];rw[bx h])
theorem OD.put_self:∀{ks:List Nat} {x:OD},x.at ks=some y->OD.put y ks x=x
 | [],x,e=>by simp only[OD.at]at e;cases e;rfl
 | j::ks,x,e=>by
  simp only[OD.at,OD.put]at e ⊢;cases a:x.kids[j]? with
  | none=>rfl
  | some q =>rw[a]at e;simp only;rw[OD.put_self e];exact setKid_self a
theorem path_at:∀{ps:List Acc} {ρ:DEnv} {i:Nat} {p:OD × List Nat × OD},cA ρ i ps=some p->ρ[i]?.join=some p.1/\p.1.at p.2.1=some p.2.2
 | [],ρ,i,p,h=>by obtain⟨x,c,h⟩:=bnd h;cases h;exact⟨c,rfl⟩
 | a::ps,ρ,i,p,h=>by obtain⟨q,k,z,c,j,e,h⟩:=bn3 h;cases h;obtain⟨f,g⟩:=path_at c;exact⟨f,OD.at_snoc g e⟩
theorem Wd.way(w:Wd b H ((v,x)::L))(e:x.at ks=some y):∃u,Chn b H v x ks u y:=by
 obtain⟨g,f,i,a⟩:=w.out;cases f with
 | cons r t =>obtain⟨u,B,h,c,_⟩:=Ow.path r e;exact⟨u,c⟩
theorem Wd.kidAt(w:Wd b H ((v,x)::L))(e:x.at ks=some y)(ch:Chn b H v x ks u y)(f:y.kids[k]?=some z):∃q,Chd b H u y k q z:=by obtain⟨q,c⟩:=w.way (OD.at_snoc e f);obtain⟨u',y',g,i⟩:=Chn.unsnoc c;obtain⟨h,a⟩:=Chn.det ch g;subst h a;exact⟨q,i⟩
def Ext(H H':Hp):Prop:=∀a o,H a=some o->H' a=some o
theorem Ext.refl(H:Hp):Ext H H:=λ_ _ h=>h
theorem Ext.trans(h:Ext H H1)(h':Ext H1 H'):Ext H H':=λa o e=>h' a o (h a o e)
theorem Ext.upd(e:H p=none):Ext H (upd H p o):=λa q h=>by
 by_cases z:a=p
 ·subst z;rw[e]at h;cases h
 ·rw[upd_ne z];exact h
theorem Chd.ext(E:Ext H H')(h:Chd b H v x k w z):Chd b H' v x k w z:=by
 cases h with
 | lst f a e c=>exact .lst (E _ _ f) a e c
 | tup f a e c=>exact .tup (E _ _ f) a e c
 | dic f a g e c=>exact .dic (E _ _ f) a g e c
 | obj f a g e c=>exact .obj (E _ _ f) a g e c
theorem Chn.ext(E:Ext H H')(h:Chn b H v x ks u y):Chn b H' v x ks u y:=by
 induction ks generalizing v x with
 | nil=>cases h;exact .nil
 | cons k ks e=>cases h with | cons c a=>exact .cons (c.ext E) (e a)
end
def GK(K:Waa)(f:TE)(i:Nat)(ps:List Acc):Prop:=∀(b:Bs) (F:List Fr) (a:St) (H:Hp) (c:DEnv) (d:List V) (e:List OR) (Q:VK) (p:OD × List Nat × OD),b.K=K->Rel b F a H c d e->cA c i ps=some p->(∀v u,a[i]?=some (some v)->Chn b H v p.1 p.2.1 u p.2.2->Q u H)->f a H Q
inductive PDp (X:Cx)(e:Expr)(i:Nat)(ps:List Acc):Prop | mk (te:TE) (h:PE X e te) (s:GK X.K te i ps)
inductive PX (X:Cx)(e:Expr)(f:St->Option V):Prop | mk (te:TE) (h:PE X e te) (s:∀σ H (Q:VK) v,f σ=some v->Q v H->te σ H Q)
section
variable{X:Cx}{C:Ct}{a e e2:Expr}{es:List Expr}{ma mb:E}{mes:Es}{pos p p1 p2:Pos}{x:Str}{i j:Nat}{ps:List Acc}{k:Int}
theorem Ec:PX X (.Constant (.int k) j pos) (λ_=>some (.int k)):=⟨_,fK,λb H Q v e q=>by cases e;exact q⟩
theorem GL (d:X.N[i]?=some x) (c:Vis X.env.scope x) (f:(x == ("__debug__":Str))=false) (b:(x == ("__classdict__":Str))=false):PX X (.Name x pos) (λσ=>σ[i]?.join):=⟨_,bN d c f b,λσ H Q v e q=>⟨v,join_some e,q⟩⟩
theorem GM (l:X.N[i]?=some x) (f:Vis X.env.scope x) (g:(x == ("__debug__":Str))=false) (c:(x == ("__classdict__":Str))=false):PDp X (.Name x pos) i [] :=
 ⟨_,bN l f g c,λb F s H o n t Q p r R h q=>by
  obtain⟨y,m,h⟩:=bnd h;cases h;obtain⟨v,d⟩:=R.wf.get (join_some m);exact⟨v,d,q v v d .nil⟩⟩
theorem sT{b:Type}{xs:List b}{i:Int}{k:Nat}{y:b}(c:xs.length=n)(h:ixN n i=some k)(e:xs[k]?=some y):atI xs i=some y:=by subst c;unfold atI;rw[h];exact e
theorem Ed(N:PlainIx e2)(B:∀{b:Bs} {F:List Fr} {σ:St} {H:Hp} {ρ:DEnv} {τ:List V} {θ:List OR} {x:OD} {k:Nat},Rel b F σ H ρ τ θ->accN ρ x G=some k->∃n,f σ=some (.int n)/\((∃xs,x=.lst xs/\ixN xs.length n=some k)\/∃xs,x=.tup xs/\ixN xs.length n=some k)):PDp X e i ps->PX X e2 f->PDp X (.Subscript e e2 pos) i (G::ps)
 | ⟨te,h,s⟩,⟨_,l,s2⟩=>⟨_,yf rz h l N,λb F σ H ρ τ θ Q p M R c q=>by
  obtain⟨r,k,z,A,e2,I,c⟩:=bn3 c;cases c;refine s b F σ H ρ τ θ _ r M R A λv u t o=>?_;obtain⟨J,l⟩:=path_at A;obtain⟨P,d,w⟩:=R.slot (join_some J);rw[t]at d;cases d;obtain⟨g,y⟩:=w.kidAt l o I;obtain⟨n,D,L⟩:=B R e2;refine s2 σ H _ _ D ?_;obtain⟨S,O,T⟩:=r;simp only at *;rcases L with ⟨xs,rfl,m⟩ | ⟨xs,rfl,m⟩
  ·cases y with
   | @lst a vs _ _ _ _ f1 f2 f3 f4=>exact .inl ⟨a,vs,n,g,rfl,rfl,SqL.of f1,sT f2 m f3,q v g t (o.snoc (.lst f1 f2 f3 f4))⟩
  ·cases y with
   | @tup a vs _ _ _ _ f1 f2 f3 f4=>exact .inr (.inl ⟨a,vs,n,g,rfl,rfl,SqT.of f1,sT f2 m f3,q v g t (o.snoc (.tup f1 f2 f3 f4))⟩)⟩
theorem GN(f:PlainIx e2)(h:PDp X e i ps)(g:PX X e2 (λ_=>some (.int k))):PDp X (.Subscript e e2 pos) i (.ix k::ps) :=
 Ed f (λ{b F q H r m o x n} R c=>by
  obtain⟨d,l,c⟩:=bnd c;exact⟨k,rfl,(AB l).imp (λe=>⟨d,e,c⟩) λe=>⟨d,e,c⟩⟩) h g
theorem Rel.keyS{k:Key}(R:Rel b F σ H ρ τ θ)(e:ρ[j]?.join=some (.fz d))(hk:keyOf d=some k):σ[j]?.join=some (kV k):=by obtain⟨v,f,w⟩:=R.slot (join_some e);have c:=w.dt rfl;rw[f];cases d<;>cases hk<;>cases c<;>rfl
theorem jK{k:Key}:∀{ws:List (Key × V)} {n:Nat} {w:V},(ws.map (·.1)).findIdx? (λq=>decide (q=k))=some n->(ws[n]?).map (·.2)=some w->valV ws k=some w
 | [],_,_,e,_=>by simp at e
 | (g,q)::ws,n,w,e,h=>by
  rw[aal,abd]at e;by_cases b:g=k
  ·subst b;simp at e;subst e;simp at h;subst h;exact aU rfl
  ·simp[b]at e;obtain⟨c,f,e2⟩:=e;subst e2;have d:(ws.map (·.1)).findIdx? (λq=>decide (q=k))=some c:=by rw[List.findIdx?_map];exact f
   have:=jK d (by simpa using h);simp only[valV]at this ⊢;rw[aaP];simp only[b,decide_false];exact this
theorem Ee(P:X.A.units + 1 < cLine)(N:NoSl e2):PDp X e i ps->PX X e2 (λσ=>σ[j]?.join)->PDp X (.Subscript e e2 pos) i (.key j::ps)
 | ⟨te,h,s⟩,⟨_,g,s2⟩=>⟨_,nu P h g N,λb F σ H ρ τ θ Q p M R c q=>by
  obtain⟨r,k,z,t,e2,J,c⟩:=bn3 c;cases c;refine s b F σ H ρ τ θ _ r M R t λv u o n=>?_;obtain⟨L,g⟩:=path_at t;obtain⟨T,f,w⟩:=R.slot (join_some L);rw[o]at f;cases f;obtain⟨m,O⟩:=w.kidAt g n J;obtain⟨U,S,Y⟩:=r;simp only at *;obtain⟨y,d,W,G,B,I,l,D,e2⟩:=bn4 e2;rw[eC I]at B;refine s2 σ H _ _ (R.keyS B D) ?_;cases O with
  | @dic a ws _ _ _ _ _ f1 f2 f5 f3 f4 =>cases l;refine⟨a,m,rfl,?_,q v m o (n.snoc (.dic f1 f2 f5 f3 f4))⟩;have:=DGet.k (k:=G) f1;rw[jK (by rw[f2];exact e2) f3]at this;exact this
  | _=>cases l⟩
end
section
variable{b:Bs}{F:List Fr}{σ:St}{H H':Hp}{ρ:DEnv}{τ us:List V}{θ:List OR}{v u:V}{i:Nat}{ps:List Acc}{p:OD × List Nat × OD}{d:PyData}
theorem Rel.partX{x z:OD}{ks:List Nat}(R:Rel b F σ H ρ τ θ)(f:ρ[i]?.join=some x)(j:x.at ks=some z)(ev:σ[i]?=some (some v))(ch:Chn b H v x ks u z)(g:z.dat=some d):Rel b F σ H (ρ.set i (some (OD.put (.fz d) ks x))) (u::τ) (.val (.fz d)::θ):=by obtain⟨k,a,w⟩:=R.slot (join_some f);rw[ev]at a;cases a;obtain⟨l,c,e⟩:=w.frzAt j g;obtain⟨h,_⟩:=Chn.det ch c;subst h;exact Rel.back (τ:=u::τ) (θ:=.val (.fz d)::θ) R.wf R.al R.wff ev (e.perm (List.Perm.swap _ _ _))
theorem Rel.partZ{x:OD}{ks:List Nat}(R:Rel b F σ H ρ τ θ)(a:ρ[i]?.join=some x)(c:x.at ks=some (.fz d))(ev:σ[i]?=some (some v))(ch:Chn b H v x ks u (.fz d)):Rel b F σ H ρ (u::τ) (.val (.fz d)::θ):=by have:=R.partX a c ev ch (d:=d) rfl;rw[OD.put_self c,set_self (join_some a)]at this;exact this
theorem Rel.part(R:Rel b F σ H ρ τ θ)(e:cA ρ i ps=some p)(ev:σ[i]?=some (some v))(ch:Chn b H v p.1 p.2.1 u p.2.2)(a:p.2.2.dat=some d):Rel b F σ H (ρ.set i (some (OD.put (.fz d) p.2.1 p.1))) (u::τ) (.val (.fz d)::θ):=R.partX (path_at e).1 (path_at e).2 ev ch a
theorem Rel.partF(R:Rel b F σ H ρ τ θ)(e:cA ρ i ps=some p)(ev:σ[i]?=some (some v))(ch:Chn b H v p.1 p.2.1 u p.2.2)(a:p.2.2=.fz d):Rel b F σ H ρ (u::τ) (.val (.fz d)::θ):=by obtain⟨c,f⟩:=path_at e;have:=R.part e ev ch (by rw[a];rfl);rw[<- a,OD.put_self f,set_self (join_some c)]at this;rw[a]at this;exact this
end
end
section
section
variable{X:Cx}{C:Ct}{a e e2:Expr}{es:List Expr}{ma mb:E}{mes:Es}{pos p p1 p2:Pos}{x:Str}{i j:Nat}{ps:List Acc}{k:Int}
theorem GO:PDp X e i ps->PDe X e (aD C (.pg i ps))
 | ⟨te,h,s⟩=>⟨te,h,λb F σ H ρ τ θ n Q g R ⟨y,h,q⟩ k=>by
  obtain⟨r,c,h⟩:=bnd h;refine s b F σ H ρ τ θ _ r g R c λv u m l=>?_;obtain⟨d,f,h⟩:=bnd h;cases h;exact k u H _ _ (R.partF c m l (eC f)) q⟩
theorem wH(l:bf C m=(vt (ev C m)).2)(g:∀ρ x,ev C m ρ=some x->∃k,x.1=.val (.fz (.bool k))):∀ρ Q,hR C m ρ Q->gT (aD C m) ρ Q:=λρ Q ⟨y,h,q⟩=>by
 have b:((ev C m ρ).bind λx=>(au x.2 x.1).bind λd=>(sN d).bind λk=>some (k,x.2))=some y:=by rw[<- h,l];rfl
 obtain⟨z,c,b⟩:=bnd b;obtain⟨k,f⟩:=g ρ z c;rw[f]at b;cases b;exact⟨z,c,k,by rw[f];rfl,q⟩
theorem SndT.imp{K:Waa}(s:SndT K te d)(f:∀ρ Q,d' ρ Q->d ρ Q):SndT K te d':=λb F n H ρ g m c Q h R l q=>s b F n H ρ g m c Q h R (f _ _ l) q
theorem jL{k:Key}:∀{ws:List (Key × V)},(valV ws k).isSome=(ws.map (·.1)).any λq=>decide (q=k)
 | []=>rfl
 | (g,q)::ws=>by
  have c:=jL (k:=k) (ws:=ws);by_cases b:g=k
  ·subst b;rw[aU rfl];simp
  ·simp only[valV]at c ⊢;rw[aaP];simp only[b,decide_false,aal,aaZ,Bool.false_or];exact c
def AQ(b:Bool)(d c:TE):TE:=if b then nq d c else CN d c
theorem sU{c:Bool}(G:X.A.units + 1 < cLine)(t:behindInMarks (coOf (if c then .nin else .inn)) e=false):PDe X a (aD C ma)->PDp X e i ps->PDe X (.Compare a [coOf (if c then .nin else .inn)] [e] pos) (aD C (.din c ma i ps))/\PDt X (.Compare a [coOf (if c then .nin else .inn)] [e] pos) (hR C (.din c ma i ps))
 | ⟨ta,f,s1⟩,⟨te,h,s⟩=>by
  have hp:PE X (.Compare a [coOf (if c then .nin else .inn)] [e] pos) (AQ c ta te):=by
   cases c with
   | true=>exact jh (i4 G f h) t
   | false=>exact jh (rM G f h) t
  have I:PT X (.Compare a [coOf (if c then .nin else .inn)] [e] pos) (tB (AQ c ta te)):=by
   cases c with
   | true=>exact ji (i4 G f h) t
   | false=>exact ji (rM G f h) t
  have S:cS X.K (AQ c ta te) (aD C (.din c ma i ps)):=by
   refine λb F m H L J U Qd Q O R ⟨y,h,q⟩ k=>?_;obtain⟨z,dx,r,Z,uu,W,e1,e2,ek,B,h⟩:=bn5 h;have B:=jI B
   ·cases h;have go:∀v l T d,Rel b F m l d (v::J) (T::U)->(T=z.1/\d=z.2)->te m l λx Y=>∃a o,x=.ref a/\DGet Y a v o/\Q (.bl (if c then !o.isSome else o.isSome)) Y:=λv l T d n ⟨f,D⟩=>by
     subst f D;refine s b F m l _ _ _ _ r O n e2 λv' u ev ch=>?_;obtain⟨f,D⟩:=path_at e2;obtain⟨v2,g,w⟩:=n.slot (join_some f);rw[ev]at g;cases g;rw[B]at D ch;obtain⟨ad,ws,P,hH,M,hl,_⟩:=Wd.mutD (us:=[]) (zs:=[]) w rfl D;obtain⟨e5,_⟩:=Chn.det ch P;subst e5;have hv:=n.dt e1;have N:v=kV Z:=by cases dx<;>cases ek<;>cases hv<;>rfl
     subst N;refine⟨ad,_,rfl,DGet.k hH,?_⟩;rw[jL,M];exact k _ l _ _ (n.drop.sc (.bl _)) q
    cases c with
    | true=>exact s1 b F m H L J U (λr d=>r=z.1/\d=z.2) _ O R ⟨z,W,rfl,rfl⟩ go
    | false=>exact s1 b F m H L J U (λr d=>r=z.1/\d=z.2) _ O R ⟨z,W,rfl,rfl⟩ go
  refine⟨⟨_,hp,S⟩,⟨_,I,(l6 S).imp (wH rfl λL x h=>?_)⟩⟩;obtain⟨z,dx,r,Z,uu,W,e1,e2,ek,B,h⟩:=bn5 h;cases h;exact⟨_,rfl⟩
end
def GP(K:Waa)(i:TE)(f:DEnv->Option PyData):Prop:=∀(b:Bs) (F:List Fr) (c:St) (H:Hp) (a:DEnv) (g:List V) (h:List OR) (Q:VK) (d:PyData),b.K=K->Rel b F c H a g h->f a=some d->(∀v e,Ext H e->Rel b F c e a (v::g) (.val (.fz d)::h)->Q v e)->i c H Q
inductive PDq (X:Cx)(e:Expr)(f:DEnv->Option PyData):Prop | mk (te:TE) (h:PE X e te) (s:GP X.K te f)
def Ef(K:Waa)(k:TA)(f:DEnv->Option (List PyData)):Prop:=∀(b:Bs) (F:List Fr) (g:St) (H:Hp) (e:DEnv) (i:List V) (j:List OR) (Q:List V->Hp->Prop) (c:List PyData),b.K=K->Rel b F g H e i j->f e=some c->(∀a h,Ext H h->a.length=c.length->Rel b F g h e (a++i) (c.map (λd=>OR.val (.fz d))++j)->Q a h)->k g H Q
inductive PDqs (X:Cx)(es:List Expr)(f:DEnv->Option (List PyData)):Prop | mk (te:TA) (h:PA X es te) (s:Ef X.K te f)
section
variable{X:Cx}{C:Ct}{a e e2:Expr}{es:List Expr}{ma mb:E}{mes:Es}{pos p p1 p2:Pos}{x:Str}{i j:Nat}{ps:List Acc}{k:Int}
end
end
section
section
variable{b:Bs}{S:Addr->Prop}{H:Hp}{vs us:List V}{xs zs:List OD}{A B C:List Addr}{v:V}{z:OD}
theorem Ows.addA(nt:∀c xs,H c=some (.tup xs)->¬ S c)(d:Ows b S H vs xs A)(f:Ows b S H us zs C)(e:(A++C).Nodup):∃D,Ows b S H (vs++us) (xs++zs) D/\D.Nodup/\∀c∈D,c∈A\/c∈C:=⟨A++C,Ows.append d f,e,λc a=>aan.mp a⟩
theorem Ows.one(h:Ows b S H [v] [z] C):Ow b S H v z C:=by
 cases h with
 | cons r t=>cases t;rw[aap];exact r
theorem Ows.setA(g:j < xs.length)(i:Ows b S H vs xs A)(l:Ows b S H [v] [z] C)(k:(A++C).Nodup):∃D,Ows b S H (vs.set j v) (xs.set j z) D/\D.Nodup/\∀c∈D,c∈A\/c∈C:=by
 obtain⟨q,d,B,e,n,rfl,m,f⟩:=i.zip (aak g);refine⟨d++(C++e),f l.one λ_ h=>h,?_,λc a=>?_⟩
 ·have p:((d++(B++e))++C).Perm (B++(d++(C++e))):=by refine ((bK d B e).append_right C).trans ?_;rw[aac];refine abb B ?_;rw[aac];exact abb d aa1
  exact (aaz.mp (p.nodup_iff.mp k)).2.1
 ·simp only[aan]at a ⊢;rcases a with a | a | a
  ·exact .inl (.inl a)
  ·exact .inr a
  ·exact .inl (.inr (.inr a))
theorem nN(e:ws.length=xs.length):(putK ws k v).map (·.1)=(aZ k d (ws.map (·.1)) xs).1:=by
 unfold putK aZ;rw[List.any_map];have f:((λq=>decide (q=k)) ∘ λx:Key × V=>x.1)=λc=>decide (c.1=k):=rfl;rw[f];by_cases a:(ws.any λc=>decide (c.1=k))=true
 ·rw[if_pos a,if_pos a,aaR];refine acu λq _=>?_;simp only[Function.comp];split<;>rfl
 ·rw[if_neg a,if_neg a,aav];rfl
theorem kY(f:Fz b.K S H v d):∀{ws:List (Key × V)} {xs:List OD} {A:List Addr},Ows b S H (ws.map (·.2)) xs A->∃D,Ows b S H ((ws.map (λc=>if c.1=k then (c.1,v) else c)).map (·.2)) (List.zipWith (λq x=>if q=k then .fz d else x) (ws.map (·.1)) xs) D/\D.Sublist A
 | [],_,_,.nil=>⟨[],.nil,List.Sublist.refl _⟩
 | (g,q)::ws,x::xs,_,.cons (A:=A1) r t=>by
  obtain⟨D,e,h⟩:=kY f t;simp only[aal,acv];by_cases a:g=k
  ·rw[if_pos a,if_pos a];exact⟨[]++D,.cons (.fz f) e,(aaD D).symm ▸ h.trans (List.sublist_append_right _ _)⟩
  ·rw[if_neg a,if_neg a];exact⟨A1++D,.cons r e,(List.Sublist.refl A1).append h⟩
theorem kZ(j:Ows b S H (ws.map (·.2)) xs A)(n:Ows b S H [v] [.fz d] C)(p:(A++C).Nodup):∃D,Ows b S H ((putK ws k v).map (·.2)) (aZ k d (ws.map (·.1)) xs).2 D/\D.Nodup/\∀c∈D,c∈A\/c∈C:=by
 have h:Fz b.K S H v d:=by cases n with | cons r t=>cases r with | fz f=>exact f
 have i:=(aaz.mp p).1;unfold putK aZ;rw[List.any_map];have o:((λq=>decide (q=k)) ∘ λx:Key × V=>x.1)=λe=>decide (e.1=k):=rfl;rw[o];by_cases a:(ws.any λe=>decide (e.1=k))=true
 ·rw[if_pos a,if_pos a];obtain⟨D,m,l⟩:=kY h j;exact⟨D,m,l.nodup i,λc g=>.inl (l.subset g)⟩
 ·rw[if_neg a,if_neg a,aav];exact⟨A++[],Ows.append j (.cons (.fz h) .nil),by simpa using i,λc g=>.inl (by simpa using g)⟩
end
section
variable{X:Cx}{W:Nat->Prop}{m:Nat}{C:Ct}{a b c e e2 kx:Expr}{es:List Expr}{sts s1 s2:List Stmt}{st:Stmt}{ma mb mc mk':E}{mes:Es}{ms:S'}{mss ma' mb':Ss}{pos p p1 p2 p3 pos' apos cpos:Pos}{x:Str}{i j:Nat}{ps:List Acc}
theorem sV{o i:Expr}(h:bU i=false):∀v,assign (.Subscript o i pos) env v=(do
   let ov <- holding [v] (eval o env)
   let iv <- holding [v,ov] (eval i env)
   standAt pos
   holding [v,ov,iv] (setItem ov iv v)
   release [v,ov,iv] []):=by
 cases i<;>first | (intro _;rfl) | cases h
theorem sW{env:Env}(h:isStar e=false):((backTo cpos (starEach [e] env)).all (λx=>!x.1) && (backToKw cpos (keywordEach [] env)).all (λx=>x.1.isSome)
   && decide ([e].length + ([]:List Keyword).length + (if ([]:List Keyword).isEmpty then 0 else 1) < 30))=true:=by
 cases e<;>first | rfl | cases h
theorem Rel.cell{b:Bs}{τ:List V}{x:OD}(R:Rel b F σ H ρ τ θ)(k:ρ[i]?.join=some x)(q:x.at ks=some (.lst xs))(ev:σ[i]?=some (some v))(ch:Chn b H v x ks u (.lst xs)):∃l vs,u=.ref l/\H l=some (.lst vs):=by obtain⟨r,d,o⟩:=R.slot (join_some k);rw[ev]at d;cases d;obtain⟨n,h,g,f,_,_⟩:=Wd.mutL (us:=[]) (zs:=[]) o rfl q;exact⟨n,h,(Chn.det ch g).1,f⟩
theorem Rel.cell0{b:Bs}{F:List Fr}(R:Rel b F σ H ρ τ θ)(d:ρ[i]?.join=some (.lst xs)):∃v,σ[i]?=some (some v)/\∃l vs,v=.ref l/\H l=some (.lst vs):=by obtain⟨v,f⟩:=R.wf.get (join_some d);exact⟨v,f,R.cell d rfl f .nil⟩
theorem Rel.addAt{b:Bs}{x o:OD}{v d:V}(R:Rel b F σ H ρ (d::τ) (.val o::θ))(q:ρ[i]?.join=some x)(n:x.at ks=some (.lst xs))(ev:σ[i]?=some (some v))(ch:Chn b H v x ks (.ref l) (.lst xs))(B:xs.length < 1000000) :
  ∃vs,H l=some (.lst vs)/\vs.length < sizeLine/\Rel b F σ (upd H l (.lst (vs++[d]))) (ρ.set i (some (OD.put (.lst (xs++[o])) ks x))) τ θ:=by
 obtain⟨D,f,w⟩:=Rel.open (us:=[d]) (zs:=[o]) R rfl q;rw[ev]at f;cases f;obtain⟨G,vs,g,h,z,r⟩:=w.mutL rfl n;obtain⟨t,_⟩:=Chn.det ch g;cases t;exact⟨vs,h,aay (by omega) (by decide:1000001<=sizeLine),Rel.close (Rel.rest (us:=[d]) (zs:=[o]) R rfl) ev (r (vs++[d]) (xs++[o]) λS H A C k s y u=>Ows.addA k s y u)⟩
theorem Eg (hN:X.N[i]?=some x) (G:Vis X.env.scope x) (O:(x == ("__debug__":Str))=false) (f:(x == ("__classdict__":Str))=false) (d:(apos.endLine == cpos.line)=true) (k:isStar e=false) :
  PDe X e (aD C ma)->PDs X W (.Expr (.Call (.Attribute (.Name x pos') "append" apos) [e] [] cpos) pos) (ib C (.app i ma))
 | ⟨_,h,s⟩=>⟨_,gw (ku abH PySem.F.slot_list_append PySem.F.type_list_append iX (bN hN G O f) (be h cz (av k)) rfl (sW k) d (av k) (bQ rfl)) rfl,λb F σ H ρ τ θ Dd D hK n R ⟨y,h,q⟩ E=>by
  obtain⟨x0,a0,z,o,x1,u,P,e1,e2,A,h⟩:=bn5 h;obtain⟨xs,_,f1,Q,h⟩:=bn2 h;cases h;rw[bX P]at u;rw[bX f1]at A;obtain⟨v,B,w,g,rfl,t⟩:=R.cell0 u;refine⟨.ref w,B,.inl ⟨rfl,g,SqL.of t⟩,?_⟩;refine s b F σ H ρ τ θ (λr l=>r=z.1/\l=z.2) _ hK R ⟨z,e1,rfl,rfl⟩ λU H1 r J Z M=>?_;obtain⟨T,Y⟩:=M;subst T Y;obtain⟨vs,I,L,S⟩:=Rel.addAt (Z.own1 e2) A rfl B .nil (gd_ok Q);exact⟨w,vs,U,rfl,rfl,I,L,E.nx σ _ _ S q⟩⟩
theorem Eh (hN:X.N[i]?=some x) (hv:Vis X.env.scope x) (hd:(x == ("__debug__":Str))=false) (k:(x == ("__classdict__":Str))=false) (f:(apos.endLine == cpos.line)=true) (L:isStar e=false) :
  PDe X e (aD C ma)->PDs X W (.Expr (.Call (.Attribute (.Name x pos') "extend" apos) [e] [] cpos) pos) (ib C (.ext i ma))
 | ⟨_,h,s⟩=>⟨_,gw (ku abH PySem.F.slot_list_extend PySem.F.type_list_extend pH (bN hN hv hd k) (be h cz (av L)) rfl (sW L) f (av L) (bQ rfl)) rfl,λb F σ H ρ τ θ Dd D hK n R ⟨y,h,q⟩ E=>by
  obtain⟨x0,a1,z,ys,x1,T,f0,e1,o,Y,h⟩:=bn5 h;obtain⟨xs,_,f1,U,h⟩:=bn2 h;cases h;have U:=gd_ok U;have o:=mw o;rw[bX f0]at T;rw[bX f1]at Y;obtain⟨v,P,l0,J,rfl,O⟩:=R.cell0 T;refine⟨.ref l0,P,.inl ⟨rfl,J,SqL.of O⟩,?_⟩;refine s b F σ H ρ τ θ (λr M=>r=z.1/\M=z.2) _ hK R ⟨z,e1,rfl,rfl⟩ λu H1 r a0 G hZ=>?_;obtain⟨t,B⟩:=hZ;subst t B;rw[o]at G;obtain⟨bd,I,rfl,hB,d,w2⟩:=Wd.unpL0 G.wd;have Q:Rel b F σ H1 z.2 (I++τ) (ys.map OR.val++θ):=Rel.spread (Rel.drop G) d w2;obtain⟨v',g,w⟩:=Q.open d Y;rw[P]at g;cases g;obtain⟨l,Z,ch,hH,hl,go⟩:=w.mutL (ks:=[]) d rfl;cases ch;have w3:=go (Z++I) (xs++ys) λS H A C nt t B nd=>⟨A++C,Ows.append t B,nd,λc hc=>aan.mp hc⟩
  exact⟨l0,bd,Z,I,rfl,rfl,hH,hB,aat (by omega:_<=1000000) (by decide),E.nx σ _ _ (Rel.close (Q.rest d) P w3) q⟩⟩
theorem GQ(h:isStar e=false)(h':isStar e2=false):((backTo cpos (starEach [e,e2] env)).all (λx=>!x.1) && (backToKw cpos (keywordEach [] env)).all (λx=>x.1.isSome)
   && decide ([e,e2].length + ([]:List Keyword).length + (if ([]:List Keyword).isEmpty then 0 else 1) < 30))=true:=by
 rw[av h,av h'];rfl
theorem Ows.insAt{b:Bs}(f:Fz b.K S H v d):∀(k:Nat) {vs:List V} {xs:List OD} {A:List Addr},Ows b S H vs xs A->Ows b S H (vs.take k++v::vs.drop k) (xs.take k++.fz d::xs.drop k) A
 | 0,_,_,A,h=>.cons (A:=[]) (.fz f) h
 | _ + 1,_,_,_,.nil=>.cons (.fz f) .nil
 | k + 1,_,_,_,.cons r t=>.cons r (Ows.insAt f k t)
theorem Ei (hN:X.N[i]?=some x) (hv:Vis X.env.scope x) (hd:(x == ("__debug__":Str))=false) (M:(x == ("__classdict__":Str))=false) (o:(apos.endLine == cpos.line)=true) (Y:isStar kx=false) (f:isStar e=false) :
  PDe X kx (aD C mk')->PDe X e (aD C ma)->PDs X W (.Expr (.Call (.Attribute (.Name x pos') "insert" apos) [kx,e] [] cpos) pos) (ib C (.ins i mk' ma))
 | ⟨_,h0,s0⟩,⟨_,h,s⟩=>⟨_,gw (ku abH PySem.F.slot_list_insert PySem.F.type_list_insert pT (bN hN hv hd M) (be h0 (be h cz (av f)) (av Y)) rfl (GQ Y f) o (av Y) (bQ (by simp[f]))) rfl,λb F σ H ρ τ θ Dd D hK n R ⟨y,h,q⟩ E=>by
  obtain⟨x0,a2,I,z,dk,e0,f0,e1,e2,e3,h⟩:=bn5 h;obtain⟨k,d,_,x1,xs,e4,e5,P,eb,f1,h⟩:=bn5 h;obtain⟨_,t,h⟩:=bnd h;cases h;have t:=gd_ok t;have P:=gd_ok P;rw[bX f0]at e0;rw[bX f1]at eb;rw[aP e4]at e3;obtain⟨v,T,l0,O,rfl,Z⟩:=R.cell0 e0;refine⟨.ref l0,T,.inl ⟨rfl,O,SqL.of Z⟩,?_⟩;refine s0 b F σ H ρ τ θ (λr g=>r=I.1/\g=I.2) _ hK R ⟨I,e1,rfl,rfl⟩ λv0 H1 r a0 R1 U=>?_;obtain⟨G,L⟩:=U;subst G L;refine s b F σ H1 I.2 (v0::τ) (I.1::θ) (λr g=>r=z.1/\g=z.2) _ hK R1 ⟨z,e2,rfl,rfl⟩ λu H2 r a1 J U=>?_;obtain⟨G,L⟩:=U;subst G L;cases J.dt2 e3;have sc:Sc u d:=by have hh:=J.dt e5;cases hh<;>first | constructor | cases P
  obtain⟨v',B,w⟩:=Rel.open (us:=[]) (zs:=[]) J.drop.drop rfl eb;rw[T]at B;cases B;obtain⟨l,Q,ch,hH,hl,go⟩:=w.mutL (ks:=[]) rfl rfl;cases ch;have w3:=go (Q.take k.toNat++u::Q.drop k.toNat) (xs.take k.toNat++.fz d::xs.drop k.toNat) λS H A C nt G L nd=>⟨A,Ows.insAt sc.fz _ G,(aaz.mp nd).1,λc hc=>.inl hc⟩
  exact⟨l0,Q,k,u,rfl,rfl,hH,t.1,by rw[hl];exact t.2.1,by rw[hl];exact t.2.2,E.nx σ _ _ (Rel.close J.drop.drop T w3) q⟩⟩
theorem Rel.moved{b:Bs}{F:List Fr}(R:Rel b F σ H ρ τ θ)(e:ρ[j]?.join=some y):∃v,σ[j]?=some (some v)/\Rel b F σ H (ρ.set j none) (v::τ) (.val y::θ):=by
 obtain⟨v,f⟩:=R.wf.get (join_some e);have h:Rel b F σ H ρ (v::τ) (.rf j::θ):=⟨R.wf,⟨f,R.al⟩,R.wff,R.wd⟩
 obtain⟨_,_,w⟩:=R.slot (join_some e);rename_i g d;rw[f]at d;cases d;exact⟨v,f,⟨R.wf.off,R.al,R.wff,w⟩⟩
theorem Ej (hN:X.N[i]?=some x) (Z:Vis X.env.scope x) (hd:(x == ("__debug__":Str))=false) (B:(x == ("__classdict__":Str))=false) (J:bU kx=false) (hs:swapsWith e (some (.Subscript (.Name x pos') kx p2)) pos.line X.env=pure false) (hw:swappedStores [.Subscript (.Name x pos') kx p2] e X.env=pure none) :
  PDe X e (aD C ma)->PDe X kx (aD C mk')->PDs X W (.Assign [.Subscript (.Name x pos') kx p2] e pos) (ib C (.sti i mk' ma))
 | ⟨_,d,s1⟩,⟨_,f,s2⟩=>⟨_,qW d (qU (bN hN Z hd B) f set_list (sV J)) hs hw rfl,λb F σ H ρ τ θ Dd D U n R ⟨y,h,q⟩ E=>by
  obtain⟨z,o,e1,e2,h⟩:=bn2 h;refine s1 b F σ H ρ τ θ (λr g=>r=z.1/\g=z.2) _ U R ⟨z,e1,rfl,rfl⟩ λI H1 r a0 R1 u=>?_;obtain⟨d,f⟩:=u;subst d f;have O:=R1.own1 e2;obtain⟨x0,a2,t,dk,k,e0,f0,e3,P,fk,h⟩:=bn5 h;obtain⟨x1,xs,L,Y,f1,Q,h⟩:=bn3 h;rw[aP fk]at P;rw[bX f1]at Y
  ·obtain⟨v,M⟩:=O.wf.get (join_some e0);refine⟨v,M,s2 b F σ H1 _ _ _ (λr g=>r=t.1/\g=t.2) _ U O ⟨t,e3,rfl,rfl⟩ λv2 H2 r a1 G u=>?_⟩;obtain⟨d,f⟩:=u;subst d f
   ·cases h;have J:=G.dt P;cases J;obtain⟨v',s,w⟩:=Rel.open (us:=[I]) (zs:=[o.1]) G.drop rfl Y;rw[M]at s;cases s;obtain⟨l,T,ch,hH,hl,go⟩:=w.mutL (ks:=[]) rfl rfl;cases ch;refine⟨l,T,k,L,rfl,rfl,hH,by rw[hl];exact Q,?_⟩;exact E.nx σ _ _ (Rel.close (Rel.rest (us:=[I]) (zs:=[o.1]) G.drop rfl) M (go (T.set L I) (xs.set L o.1) λS H A C nt d f nd=>Ows.setA (se Q) d f nd)) q⟩
theorem yv {k:Int} {j:Nat} (G:X.N[i]?=some x) (o:Vis X.env.scope x) (t:(x == ("__debug__":Str))=false) (f:(x == ("__classdict__":Str))=false) (P:i < m):PDg X W m (.Subscript (.Name x pos') (.Constant (.int k) j p2) pos) (λy ρ Q=>∃xs a,ρ[i]?.join=some (.lst xs)/\ixN xs.length k=some a/\Q (ρ.set i (some (.lst (xs.set a y))))) :=
 ⟨_,qU (bN G o t f) fK set_list (sV rfl),λb F I H ρ U θ v y Z Q Y n R ⟨xs,a,L,g,q⟩ E=>by
  obtain⟨O,d,w⟩:=Rel.open (us:=[v]) (zs:=[y]) R rfl L;obtain⟨l,h,J,r,s,u⟩:=w.mutL (ks:=[]) rfl rfl;cases J;refine⟨_,d,l,h,k,a,rfl,rfl,r,by rw[s];exact g,?_⟩;exact E I _ _ (Rel.close (Rel.rest (us:=[v]) (zs:=[y]) R rfl) d (u (h.set a v) (xs.set a y) λS H A C M z D B=>Ows.setA (se g) z D B)) (λj T=>⟨rfl,aaX (by omega)⟩) q⟩
theorem GR {k l:Int} {j F:Nat} {n:Nat} {p3 A D v:Pos} (I:X.calm=true) (B:X.N[i]?=some x) (u:Vis X.env.scope x) (o:(x == ("__debug__":Str))=false) (s:(x == ("__classdict__":Str))=false) (w:i < m):PDg X W m (.Tuple [.Subscript (.Name x pos') (.Constant (.int k) j p2) p3,.Subscript (.Name x A) (.Constant (.int l) F D) v] n pos) (eS (.sb i k l)):=by
 have H:=cC (W:=W) (m:=m) rfl (yv (W:=W) (m:=m) (pos:=p3) (pos':=pos') (p2:=p2) (k:=k) (j:=j) B u o s w) (cC rfl (yv (W:=W) (m:=m) (pos:=v) (pos':=A) (p2:=D) (k:=l) (j:=F) B u o s w) pdgs_nil);refine ((jC (n:=2) I rfl rfl H).or (jD (n:=2) I rfl rfl H)).imp λy f Q M=>?_;obtain⟨S,h,q⟩:=M;obtain⟨d,z,T,G,a,g,e2,t,J,O,h⟩:=bn5 h;obtain⟨b,P,h⟩:=bnd h;cases h;rw[two2_ok e2]at g;rw[bX J]at t;have L:i < f.length:=aao.mp (join_some t) |>.1;have o:∃x r,[z.1,z.2]=x::r/\∃d a,f[i]?.join=some (.lst d)/\ixN d.length k=some a/\jA (λy f Q=>∃d a,f[i]?.join=some (.lst d)/\ixN d.length l=some a/\Q (f.set i (some (.lst (d.set a y))))) dgNil r (f.set i (some (.lst (d.set a x)))) Q:=by
  refine⟨z.1,[z.2],rfl,G,a,t,O,z.2,[],rfl,G.set a z.1,b,?_,by rw[abA];exact P,rfl,?_⟩
  ·rw[aaW L];rfl
  ·rw[List.set_set];exact q
 rcases ia g with g | g
 ·exact .inl ⟨_,g,rfl,o⟩
 ·exact .inr ⟨_,g,rfl,o⟩
theorem Ek (hu:X.A.units + 1 < cLine) (hN:X.N[i]?=some x) (hv:Vis X.env.scope x) (hd:(x == ("__debug__":Str))=false) (I:(x == ("__classdict__":Str))=false) (hs:swapsWith e (some (.Subscript (.Name x pos') kx p2)) pos.line X.env=pure false) :
  PDe X e (aD C ma)->PDe X kx (aD C mk')->PDs X W (.Assign [.Subscript (.Name x pos') kx p2] e pos) (ib C (.sdk i mk' ma))
 | ⟨_,d,s1⟩,⟨_,f,s2⟩=>⟨_,vH hu (bN hN hv hd I) f d hs,λb F σ H ρ τ θ Dd D Y n R ⟨y,h,q⟩ E=>by
  obtain⟨z,o,e1,e2,h⟩:=bn2 h;refine s1 b F σ H ρ τ θ (λr g=>r=z.1/\g=z.2) _ Y R ⟨z,e1,rfl,rfl⟩ λL H1 r a0 R1 B=>?_;obtain⟨d,f⟩:=B;subst d f;have P:=R1.frz1 e2;obtain⟨x0,_,t,kd,T,e0,f0,e3,e4,e5,h⟩:=bn5 h;obtain⟨x1,uu,_,Z,f1,G,h⟩:=bn3 h;have G:=gd_ok G;rw[jI f1]at Z
  ·obtain⟨v,O⟩:=P.wf.get (join_some e0);refine⟨v,O,s2 b F σ H1 _ _ _ (λr g=>r=t.1/\g=t.2) _ Y P ⟨t,e3,rfl,rfl⟩ λv2 H2 r a1 J B=>?_⟩;obtain⟨d,f⟩:=B;subst d f
   ··cases h
     have hk:=J.dt e4;have M:v2=kV T:=by cases kd<;>cases e5<;>cases hk<;>rfl
     subst M;obtain⟨v',u,w⟩:=Rel.open (us:=[L]) (zs:=[.fz o.1]) J.drop rfl Z;rw[O]at u;cases u;obtain⟨l,ws,ch,hH,s,Q,U⟩:=w.mutD (ks:=[]) rfl rfl;cases ch;obtain⟨ks,xs⟩:=uu;simp only at s Q q U G;subst s;refine⟨l,_,rfl,DPut.k hH (aay (by omega) (by decide:1000001<=sizeLine)),?_⟩;exact E.nx σ _ _ (Rel.close (Rel.rest (us:=[L]) (zs:=[.fz o.1]) J.drop rfl) O (U (putK ws T L) _ _ (nN Q) λS H A C nt d f nd=>kZ d f nd)) q⟩
theorem nO{K:Waa}{H:Hp}:∀{xs:List V} {ds:List PyData} {ns:List Int},DtAll K H xs ds->g8 ds=some ns->xs=ns.map V.int
 | [],_,ns,.nil,e=>by cases e;rfl
 | _::_,_::_,ns,.cons h t,e=>by obtain⟨i,r,d,e2,e⟩:=bn2 e;cases e;rw[aP d]at h;cases h;rw[nO t e2];rfl
theorem AR{r:OR}{ds:List PyData}(h:Gy r=some ds):r=.val (.fz (.tuple ds)):=by
 unfold Gy at h;split at h
 ·cases h;rfl
 ·cases h
theorem El{o1 I:Expr}{p3:Pos}(f:(apos.endLine == cpos.line)=true)(D:isStar e=false):PDe X (.Subscript o1 I p3) (aD C mk')->PDe X e (aD C ma)->PDe X (.Call (.Attribute (.Subscript o1 I p3) "index" apos) [e] [] cpos) (aD C (.idx mk' ma))
 | ⟨_,h1,s1⟩,⟨_,h2,s2⟩=>⟨_,ku PySem.F.plainAttrs_tuple PySem.F.slot_tuple_index PySem.F.type_tuple_index ql h1 (be h2 cz (av D)) rfl (sW D) f (av D) (bQ rfl),λb F σ H ρ τ θ Qd Q k R ⟨y,h,q⟩ kk=>by
  obtain⟨x,J,z,d,n,e1,e2,Y,G,T,h⟩:=bn5 h;obtain⟨ns,j,Z,M,h⟩:=bn2 h;cases h;refine s1 b F σ H ρ τ θ (λr g=>r=x.1/\g=x.2) _ k R ⟨x,e1,rfl,rfl⟩ λv S r N B s=>?_;obtain⟨A,w⟩:=s;subst A w;rw[AR e2]at B;have P:=B.dt (d:=.tuple J) rfl;cases P with
  | @tup a xs _ hq hall =>
   rw[k]at hq;refine⟨.inr (.inl ⟨rfl,_,hq⟩),?_⟩;refine s2 b F σ S _ _ _ (λr g=>r=z.1/\g=z.2) _ k B ⟨z,Y,rfl,rfl⟩ λu L r a0 l s=>?_;obtain⟨A,w⟩:=s;subst A w;rw[aP T]at G;have hu:=l.dt G;cases hu;have o:=l.drop.dt (d:=.tuple J) rfl;cases o with
   | @tup _ xs2 _ hq2 hall2 =>
    rw[k]at hq2;rw[nO hall2 Z]at hq2;obtain⟨U,p1,p2⟩:=List.findIdx?_eq_some_iff_getElem.mp M;refine⟨a,ns,n,j,rfl,rfl,hq2,?_,λm O t=>?_,kk _ L _ _ (l.drop.drop.sc (.int j)) q⟩
    ·rw[aak U,Daa p1]
    ·obtain⟨hl,t⟩:=aao.mp t;exact p2 m O (Dac t)⟩
theorem Em (T:X.A.units + 1 < cLine) (hN:X.N[i]?=some x) (hv:Vis X.env.scope x) (hd:(x == ("__debug__":Str))=false) (M:(x == ("__classdict__":Str))=false) (l:(apos.endLine == cpos.line)=true) (hs:isStar e=false):PDe X e (aD C ma)->PDe X (.Call (.Attribute (.Name x pos') "get" apos) [e] [] cpos) (aD C (.dgt i ma))
 | ⟨_,h,s⟩=>⟨_,rO T (bN hN hv hd M) h ⟨rfl,sW hs,l,by rw[av hs];rfl⟩,λb F σ H ρ τ θ Qd Q hK R ⟨y,h,q⟩ kk=>by
  obtain⟨x0,q0,z,d,k,a0,a1,e1,e2,e3,h⟩:=bn5 h;obtain⟨x1,Z,w,J,e5,t,h⟩:=bn3 h;cases h;rw[jI a1]at a0;rw[jI e5]at J;obtain⟨v,S,w0⟩:=R.slot (join_some a0);obtain⟨ad,ws,ch,hH,_⟩:=Wd.mutD (us:=[]) (zs:=[]) (ks:=[]) w0 rfl rfl;cases ch;refine⟨_,S,ad,rfl,.inl ⟨ws,.inl hH⟩,?_⟩;refine s b F σ H ρ τ θ (λr P=>r=z.1/\P=z.2) _ hK R ⟨z,e1,rfl,rfl⟩ λu U r a2 I hZ=>?_;obtain⟨g1,g2⟩:=hZ;subst g1 g2;obtain⟨v2,o,w2⟩:=I.slot (join_some J);rw[S]at o;cases o;obtain⟨a3,f,O,n,g,B,_⟩:=Wd.mutD (us:=[]) (zs:=[]) (ks:=[]) w2 rfl rfl;cases O;have T:=I.dt e2;have L:u=kV k:=by cases d<;>cases e3<;>cases T<;>rfl
  subst L;refine⟨_,DGet.k n,?_⟩;unfold dgV at t;cases G:Z.1.findIdx? (λq=>decide (q=k)) with
  | none =>
   rw[G]at t;cases t;have hn:valV f k=none:=by have:=jL (k:=k) (ws:=f);rw[g,List.findIdx?_eq_none_iff.mp G |> λz=>(List.any_eq_false.mpr λa ha=>by rw[z a ha];decide)]at this;exact Option.isSome_eq_false_iff.mp this |> Option.isNone_iff_eq_none.mp
   rw[hn];exact kk _ U _ _ (I.drop.sc .non) q
  | some j =>
   rw[G]at t;obtain⟨zz,D,e8⟩:=bnd t;rw[eC e8]at D;have hj:j < f.length:=by rw[B];exact (aao.mp D).1
   have Y:(f[j]?).map (·.2)=some f[j].2:=by rw[aak hj];rfl
   rw[jK (by rw[g];exact G) Y];exact kk _ U _ _ (Rel.partZ I.drop (ks:=[j]) J (by show (match Z.2[j]? with | some z=>OD.at [] z | none=>none)=_;rw[D];rfl) S (.cons (.dic n g B Y D) .nil)) q⟩
theorem En {k:Nat} (hN:X.N[i]?=some x) (J:Vis X.env.scope x) (P:(x == ("__debug__":Str))=false) (s:(x == ("__classdict__":Str))=false) (f:(apos.endLine == cpos.line)=true):PDe X (.Call (.Attribute (.Name x pos') "pop" apos) [.Constant (.int 0) k p2] [] cpos) (aD C (.pop i)) :=
 ⟨_,ku abH PySem.F.slot_list_pop PySem.F.type_list_pop rB (bN hN J P s) (be fK cz (av rfl)) rfl (sW rfl) f (av rfl) (bQ rfl),λb F σ H ρ τ θ Qd Q hK R ⟨y,h,q⟩ M=>by
  obtain⟨x0,B,z,d,o,e1,e2,U,h⟩:=bn4 h;cases h;rw[bX e1]at o;rw[eC U]at e2;cases B with
  | nil=>cases e2
  | cons z' B =>
   cases e2;obtain⟨v,n,w⟩:=R.slot (join_some o);obtain⟨G,cd⟩:=w.kidAt (ks:=[]) (k:=0) (z:=.fz d) rfl .nil rfl;cases cd with
   | @lst l vs _ _ _ _ f1 f2 f3 f4 =>
    have I:=R.partZ (ks:=[0]) o rfl n (.cons (.lst f1 f2 f3 f4) .nil);refine⟨_,n,.inl ⟨rfl,vs,SqL.of f1⟩,?_⟩;obtain⟨v2,g,O⟩:=Rel.open (us:=[]) (zs:=[]) I rfl o;rw[n]at g;cases g;obtain⟨l2,L,ch,D,hl,T⟩:=O.mutL (ks:=[]) rfl rfl;cases ch;rw[f1]at D;cases D;cases vs with
    | nil=>cases f3
    | cons u us =>
     cases f3;refine⟨l,G::us,0,0,G,rfl,rfl,f1,by decide,by decide,?_,rfl,?_⟩
     ·simp[seqIndex?]
     ·exact M _ _ _ _ (Rel.close (Rel.rest (us:=[]) (zs:=[]) I rfl) n (T us B λS H A C nt Y h2 Z=>by
       cases Y with
       | @cons _ _ A1 _ _ B1 r t=>exact⟨B1,t,(aaz.mp (aaz.mp Z).1).2.1,λc hc=>.inl (aad _ hc)⟩)) q⟩
inductive Dsp:List (Str × Int)->List (Option Expr)->List Expr->Prop
 | nil:Dsp [] [] []
 | cons {x n j k p p' ks es vs}:Dsp ks es vs->Dsp ((x,n)::ks) (some (.Constant (.str x) j p)::es) (.Constant (.int n) k p'::vs)
abbrev HQ(ks:List (Str × Int)):List (TE × TE):=ks.map λz=>(tC (.str z.1),tC (.int z.2))
abbrev dsK(ks:List (Str × Int)):List (Key × V):=ks.map λz=>(.inr z.1,.int z.2)
theorem Dsp.pps{pos:Pos}{ks:List (Str × Int)}{es:List (Option Expr)}{vs:List Expr}(h:Dsp ks es vs):CP X pos es vs (HQ ks):=by
 induction h with
 | nil=>exact vI
 | cons _ d=>exact rN qO fK d
theorem Dsp.all{ks:List (Str × Int)}{es:List (Option Expr)}{vs:List Expr}(h:Dsp ks es vs):es.all (·.isSome)=true/\es.length=vs.length/\es.length=ks.length:=by
 induction h with
 | nil=>exact⟨rfl,rfl,rfl⟩
 | cons _ d=>exact⟨by simp[d.1],by simp[d.2.1],by simp[d.2.2]⟩
theorem k4{σ:St}{H:Hp}:∀{ks:List (Str × Int)} {Q:List (V × V)->Hp->Prop},Q ((dsK ks).map λd=>(kV d.1,d.2)) H->jt (HQ ks) σ H Q
 | [],_,h=>h
 | _::ks,Q,h=>k4 (ks:=ks) h
theorem k5{k:Key}{n:Int}:∀{ks:List (Str × Int)} {acc:List (Key × V)},(ks.map (·.1)).Nodup->(∀z∈ks,valV acc (.inr z.1)=none)->(valV acc k=some (.int n)\/dsL k ks=some n)->valV (eA acc (dsK ks)) k=some (.int n)
 | [],acc,_,_,h=>by
  rcases h with h | h
  ·exact h
  ·cases h
 | z::ks,acc,nd,ha,h=>by
  rw[aal,aaA]at nd;refine k5 (ks:=ks) (acc:=putK acc (.inr z.1) (.int z.2)) nd.2 (λy d=>?_) ?_
  ·rw[kD,if_neg,ha y (aaj _ d)];intro e;exact nd.1 (aau.mpr ⟨y,d,abT e⟩)
  ·rw[kD];by_cases e:k=.inr z.1
   ·rw[if_pos e];rcases h with h | h
    ·rw[e,ha z aag]at h;cases h
    ·rw[dsL,if_pos e.symm]at h;cases h;exact .inl rfl
   ·rw[if_neg e];rcases h with h | h
    ·exact .inl h
    ·rw[dsL,if_neg (λz=>e z.symm)]at h;exact .inr h
theorem Ep {ks:List (Str × Int)} {es:List (Option Expr)} {vs:List Expr} {p3:Pos} (D:X.A.units + 1 < cLine) (u:es≠[]) (f:ks.length<=15) (w:(ks.map (·.1)).Nodup) (g:Dsp ks es vs) (z:X.N[i]?=some x) (r:Vis X.env.scope x) (t:(x == ("__debug__":Str))=false) (l:(x == ("__classdict__":Str))=false):PDe X (.Subscript (.Dict es vs p2) (.Name x pos') p3) (aD C (.dsp ks i)) :=
 ⟨_,nu D (vJ g.pps g.all.1 g.all.2.1 u (by rw[g.all.2.2];exact f)) (bN z r t l) (λ_ _=>rfl),λb F O H L J S P Q M R ⟨y,h,q⟩ s p B=>by
  obtain⟨I,d,k,n,o,G,e2,v,h⟩:=bn4 h;cases h;rw[eC G]at o;refine k4 ⟨aB,dsK ks,rfl,by rw[aab];exact f,?_⟩;refine⟨kV k,join_some (R.keyS o e2),p,.int n,rfl,?_,?_⟩
  ·have:=DGet.k (H:=upd (upd H p (.dK [])) p (.dK (eA [] (dsK ks)))) (k:=k) aB;rw[k5 w (λ_ _=>rfl) (.inr v)]at this;exact this
  ·rw[u6];exact s _ _ _ _ (Rel.sc ⟨R.wf,R.al,R.wff,R.wd.new B⟩ (.int n)) q⟩
end
end
section
section
variable{X:Cx}{C:Ct}{a e e2:Expr}{es:List Expr}{ma mb:E}{mes:Es}{pos p p1 p2 apos:Pos}{x:Str}{i j:Nat}{k n:Nat}{f:Addr}{fd:FuncData}{ps:List Str}{sp:DSp}{c m:Str}{ff:Nat}
def spC(g:List OD->Option (OD × List OD)):DSp:=λb Q=>∃w,g b=some w/\Q w.1 w.2
theorem sX(g:List OD->Option (OD × List OD)):vO (spC g):=λb P R h ⟨w,e,q⟩=>⟨w,e,h _ _ q⟩
end
end
section
def bE(e:PySem.Expr):Option (Str):=if h:e.ctorIdx=23 then some (@PySem.Expr.Name.elim (λ_=>Str) e h λx _=>x) else none
theorem asNm_ok{e:PySem.Expr}{z:Str}(h:bE e=some z):∃p,e=.Name z p:=by
 by_cases a:e.ctorIdx=23
 ·revert h;exact @PySem.Expr.Name.elim (λe=>bE e=some z->∃p,e=.Name z p) e a λx p h=>by cases h;exact⟨p,rfl⟩
 ·rw[bE,dif_neg a]at h;cases h
def ic(e:PySem.Expr):Option (Const):=if h:e.ctorIdx=19 then some (@PySem.Expr.Constant.elim (λ_=>Const) e h λc _ _=>c) else none
theorem eU{e:PySem.Expr}{z:Const}(h:ic e=some z):∃j p,e=.Constant z j p:=by
 by_cases a:e.ctorIdx=19
 ·revert h;exact @PySem.Expr.Constant.elim (λe=>ic e=some z->∃j p,e=.Constant z j p) e a λc j p h=>by cases h;exact⟨j,p,rfl⟩
 ·rw[ic,dif_neg a]at h;cases h
def nP(e:PySem.Expr):Option (Expr × Operator × Expr):=if h:e.ctorIdx=2 then some (@PySem.Expr.BinOp.elim (λ_=>Expr × Operator × Expr) e h λx o y _=>(x,o,y)) else none
theorem sY(h:nP e=some z):∃p,e=.BinOp z.1 z.2.1 z.2.2 p:=by
 by_cases a:e.ctorIdx=2
 ·revert h;exact @PySem.Expr.BinOp.elim (λe=>nP e=some z->∃p,e=.BinOp z.1 z.2.1 z.2.2 p) e a λx o y p h=>by cases h;exact⟨p,rfl⟩
 ·rw[nP,dif_neg a]at h;cases h
def nQ(e:PySem.Expr):Option (Expr × List CmpOp × List Expr):=if h:e.ctorIdx=15 then some (@PySem.Expr.Compare.elim (λ_=>Expr × List CmpOp × List Expr) e h λx b a _=>(x,b,a)) else none
theorem asCmp_ok(h:nQ e=some z):∃p,e=.Compare z.1 z.2.1 z.2.2 p:=by
 by_cases a:e.ctorIdx=15
 ·revert h;exact @PySem.Expr.Compare.elim (λe=>nQ e=some z->∃p,e=.Compare z.1 z.2.1 z.2.2 p) e a λx b c p h=>by cases h;exact⟨p,rfl⟩
 ·rw[nQ,dif_neg a]at h;cases h
def wI(e:PySem.Expr):Option (BoolOp × List Expr × Pos):=if h:e.ctorIdx=0 then some (@PySem.Expr.BoolOp.elim (λ_=>BoolOp × List Expr × Pos) e h λo a p=>(o,a,p)) else none
theorem wJ(h:wI e=some z):e=.BoolOp z.1 z.2.1 z.2.2:=by
 by_cases a:e.ctorIdx=0
 ·revert h;exact @PySem.Expr.BoolOp.elim (λe=>wI e=some z->e=.BoolOp z.1 z.2.1 z.2.2) e a λo b p h=>by cases h;exact rfl
 ·rw[wI,dif_neg a]at h;cases h
def qq(e:PySem.Expr):Option (UnaryOp × Expr):=if h:e.ctorIdx=3 then some (@PySem.Expr.UnaryOp.elim (λ_=>UnaryOp × Expr) e h λo x _=>(o,x)) else none
theorem nR{e:PySem.Expr}{z:UnaryOp × Expr}(h:qq e=some z):∃p,e=.UnaryOp z.1 z.2 p:=by
 by_cases a:e.ctorIdx=3
 ·revert h;exact @PySem.Expr.UnaryOp.elim (λe=>qq e=some z->∃p,e=.UnaryOp z.1 z.2 p) e a λo x p h=>by cases h;exact⟨p,rfl⟩
 ·rw[qq,dif_neg a]at h;cases h
def wK(e:PySem.Expr):Option (Expr × Expr × Expr):=if h:e.ctorIdx=5 then some (@PySem.Expr.IfExp.elim (λ_=>Expr × Expr × Expr) e h λc a b _=>(c,a,b)) else none
theorem wL(h:wK e=some z):∃p,e=.IfExp z.1 z.2.1 z.2.2 p:=by
 by_cases d:e.ctorIdx=5
 ·revert h;exact @PySem.Expr.IfExp.elim (λe=>wK e=some z->∃p,e=.IfExp z.1 z.2.1 z.2.2 p) e d λc a b p h=>by cases h;exact⟨p,rfl⟩
 ·rw[wK,dif_neg d]at h;cases h
def bY(e:PySem.Expr):Option (List Expr):=if h:e.ctorIdx=25 then some (@PySem.Expr.Tuple.elim (λ_=>List Expr) e h λa _ _=>a) else none
theorem asTup_ok(h:bY e=some z):∃k p,e=.Tuple z k p:=by
 by_cases a:e.ctorIdx=25
 ·revert h;exact @PySem.Expr.Tuple.elim (λe=>bY e=some z->∃k p,e=.Tuple z k p) e a λb k p h=>by cases h;exact⟨k,p,rfl⟩
 ·rw[bY,dif_neg a]at h;cases h
def nS(e:PySem.Expr):Option (List Expr):=if h:e.ctorIdx=24 then some (@PySem.Expr.List.elim (λ_=>List Expr) e h λa _=>a) else none
theorem sZ(h:nS e=some z):∃p,e=.List z p:=by
 by_cases a:e.ctorIdx=24
 ·revert h;exact @PySem.Expr.List.elim (λe=>nS e=some z->∃p,e=.List z p) e a λb p h=>by cases h;exact⟨p,rfl⟩
 ·rw[nS,dif_neg a]at h;cases h
def cv(e:PySem.Expr):Option (Expr × Expr):=if h:e.ctorIdx=21 then some (@PySem.Expr.Subscript.elim (λ_=>Expr × Expr) e h λx y _=>(x,y)) else none
theorem asSub_ok(h:cv e=some z):∃p,e=.Subscript z.1 z.2 p:=by
 by_cases a:e.ctorIdx=21
 ·revert h;exact @PySem.Expr.Subscript.elim (λe=>cv e=some z->∃p,e=.Subscript z.1 z.2 p) e a λx y p h=>by cases h;exact⟨p,rfl⟩
 ·rw[cv,dif_neg a]at h;cases h
def k6(e:PySem.Expr):Option (Option Expr × Option Expr × Option Expr):=if h:e.ctorIdx=26 then some (@PySem.Expr.Slice.elim (λ_=>Option Expr × Option Expr × Option Expr) e h λl a s _=>(l,a,s)) else none
theorem tf(h:k6 e=some z):∃p,e=.Slice z.1 z.2.1 z.2.2 p:=by
 by_cases a:e.ctorIdx=26
 ·revert h;exact @PySem.Expr.Slice.elim (λe=>k6 e=some z->∃p,e=.Slice z.1 z.2.1 z.2.2 p) e a λl b s p h=>by cases h;exact⟨p,rfl⟩
 ·rw[k6,dif_neg a]at h;cases h
def eE(e:PySem.Expr):Option (Expr × List Expr × List Keyword × Pos):=if h:e.ctorIdx=16 then some (@PySem.Expr.Call.elim (λ_=>Expr × List Expr × List Keyword × Pos) e h λf b a p=>(f,b,a,p)) else none
theorem dN(h:eE e=some z):e=.Call z.1 z.2.1 z.2.2.1 z.2.2.2:=by
 by_cases a:e.ctorIdx=16
 ·revert h;exact @PySem.Expr.Call.elim (λe=>eE e=some z->e=.Call z.1 z.2.1 z.2.2.1 z.2.2.2) e a λf c b p h=>by cases h;exact rfl
 ·rw[eE,dif_neg a]at h;cases h
def i6(e:PySem.Expr):Option (Expr × Str × Pos):=if h:e.ctorIdx=20 then some (@PySem.Expr.Attribute.elim (λ_=>Expr × Str × Pos) e h λo f p=>(o,f,p)) else none
theorem asAtt_ok(h:i6 e=some z):e=.Attribute z.1 z.2.1 z.2.2:=by
 by_cases a:e.ctorIdx=20
 ·revert h;exact @PySem.Expr.Attribute.elim (λe=>i6 e=some z->e=.Attribute z.1 z.2.1 z.2.2) e a λo f p h=>by cases h;exact rfl
 ·rw[i6,dif_neg a]at h;cases h
def k7(e:PySem.Expr):Option (List (Option Expr) × List Expr):=if h:e.ctorIdx=6 then some (@PySem.Expr.Dict.elim (λ_=>List (Option Expr) × List Expr) e h λa b _=>(a,b)) else none
theorem tj{e:PySem.Expr}{z:List (Option Expr) × List Expr}(h:k7 e=some z):∃p,e=.Dict z.1 z.2 p:=by
 by_cases a:e.ctorIdx=6
 ·revert h;exact @PySem.Expr.Dict.elim (λe=>k7 e=some z->∃p,e=.Dict z.1 z.2 p) e a λb c p h=>by cases h;exact⟨p,rfl⟩
 ·rw[k7,dif_neg a]at h;cases h
def my(e:PySem.Expr):Option (Expr × List Comprehension × Scope × Pos):=if h:e.ctorIdx=8 then some (@PySem.Expr.ListComp.elim (λ_=>Expr × List Comprehension × Scope × Pos) e h λx a s p=>(x,a,s,p)) else none
theorem nT(h:my e=some z):e=.ListComp z.1 z.2.1 z.2.2.1 z.2.2.2:=by
 by_cases a:e.ctorIdx=8
 ·revert h;exact @PySem.Expr.ListComp.elim (λe=>my e=some z->e=.ListComp z.1 z.2.1 z.2.2.1 z.2.2.2) e a λx b s p h=>by cases h;exact rfl
 ·rw[my,dif_neg a]at h;cases h
def GS:Const->Option Int | .int k=>some k | _=>none
def GT:Const->Option Str | .str k=>some k | _=>none
def GU:Const->Option Bool | .bool k=>some k | _=>none
def GV:Const->Bool | .none=>true | _=>false
def eV(e:Expr):Option Int:=(ic e).bind GS
def tm(e:Expr):Option Str:=(ic e).bind GT
def AS(e:Expr):Option Bool:=(ic e).bind GU
def tu(e:Expr):Bool:=(ic e).any GV
def HR(e:Expr):Bool:=(k7 e).any λz=>z.1.isEmpty && z.2.isEmpty
def isTup(e:Expr):Bool:=(bY e).isSome
theorem anyT{b:Type}{o:Option b}{p:b->Bool}(h:o.any p=true):∃a,o=some a/\p a=true:=by
 cases o with
 | none=>cases h
 | some a=>exact⟨a,rfl,h⟩
theorem ay2{α β:Type}{o:Option α}{g1:α->Option β}{f:α->β->Bool}(h:(o.any λa=>(g1 a).any (f a))=true):∃a b,o=some a/\g1 a=some b/\f a b=true:=by obtain⟨a,p0,h⟩:=anyT h;obtain⟨b,p1,h⟩:=anyT h;exact⟨a,b,p0,p1,h⟩
theorem ay3{α β γ:Type}{o:Option α}{g1:α->Option β}{g2:α->β->Option γ}{f:α->β->γ->Bool}(h:(o.any λa=>(g1 a).any λb=>(g2 a b).any (f a b))=true):∃a b c,o=some a/\g1 a=some b/\g2 a b=some c/\f a b c=true:=by obtain⟨a,p0,h⟩:=anyT h;obtain⟨b,p1,h⟩:=anyT h;obtain⟨c,p2,h⟩:=anyT h;exact⟨a,b,c,p0,p1,p2,h⟩
theorem ay4{α β γ δ:Type}{o:Option α}{g1:α->Option β}{g2:α->β->Option γ}{g3:α->β->γ->Option δ}{f:α->β->γ->δ->Bool}(h:(o.any λa=>(g1 a).any λb=>(g2 a b).any λc=>(g3 a b c).any (f a b c))=true):∃a b c d,o=some a/\g1 a=some b/\g2 a b=some c/\g3 a b c=some d/\f a b c d=true:=by obtain⟨a,p0,h⟩:=anyT h;obtain⟨b,p1,h⟩:=anyT h;obtain⟨c,p2,h⟩:=anyT h;obtain⟨d,p3,h⟩:=anyT h;exact⟨a,b,c,d,p0,p1,p2,p3,h⟩
theorem ay5{α β γ δ ε:Type}{o:Option α}{g1:α->Option β}{g2:α->β->Option γ}{g3:α->β->γ->Option δ}{g4:α->β->γ->δ->Option ε}{f:α->β->γ->δ->ε->Bool}(h:(o.any λa=>(g1 a).any λb=>(g2 a b).any λc=>(g3 a b c).any λd=>(g4 a b c d).any (f a b c d))=true):∃a b c d e,o=some a/\g1 a=some b/\g2 a b=some c/\g3 a b c=some d/\g4 a b c d=some e/\f a b c d e=true:=by obtain⟨a,p0,h⟩:=anyT h;obtain⟨b,p1,h⟩:=anyT h;obtain⟨c,p2,h⟩:=anyT h;obtain⟨d,p3,h⟩:=anyT h;obtain⟨e,p4,h⟩:=anyT h;exact⟨a,b,c,d,e,p0,p1,p2,p3,p4,h⟩
theorem an2{a b:Bool}(h:(a && b)=true):a=true/\b=true:=abp.mp h
section
variable{e:Expr}
theorem asInt_ok{k:Int}(h:eV e=some k):∃j p,e=.Constant (.int k) j p:=by obtain⟨c,a,h⟩:=bnd h;obtain⟨j,p,rfl⟩:=eU a;cases c<;>cases h;exact⟨j,p,rfl⟩
theorem asStr_ok(h:tm e=some k):∃j p,e=.Constant (.str k) j p:=by obtain⟨c,a,h⟩:=bnd h;obtain⟨j,p,rfl⟩:=eU a;cases c<;>cases h;exact⟨j,p,rfl⟩
theorem asBl_ok(h:AS e=some k):∃j p,e=.Constant (.bool k) j p:=by obtain⟨c,a,h⟩:=bnd h;obtain⟨j,p,rfl⟩:=eU a;cases c<;>cases h;exact⟨j,p,rfl⟩
theorem ie(h:tu e=true):∃j p,e=.Constant .none j p:=by obtain⟨c,a,h⟩:=anyT h;obtain⟨j,p,rfl⟩:=eU a;cases c<;>cases h;exact⟨j,p,rfl⟩
theorem eW(h:isTup e=true):∃xs k p,e=.Tuple xs k p:=by obtain⟨z,a⟩:=aa6.mp h;obtain⟨k,p,rfl⟩:=asTup_ok a;exact⟨z,k,p,rfl⟩
end
theorem an3(h:(a && b && c)=true):a=true/\b=true/\c=true:=⟨(an2 (an2 h).1).1,(an2 (an2 h).1).2,(an2 h).2⟩
theorem an4(h:(a && b && c && d)=true):a=true/\b=true/\c=true/\d=true:=⟨(an3 (an2 h).1).1,(an3 (an2 h).1).2.1,(an3 (an2 h).1).2.2,(an2 h).2⟩
theorem an5(h:(a && b && c && d && e)=true):a=true/\b=true/\c=true/\d=true/\e=true:=⟨(an4 (an2 h).1).1,(an4 (an2 h).1).2.1,(an4 (an2 h).1).2.2.1,(an4 (an2 h).1).2.2.2,(an2 h).2⟩
theorem cf(h:(!a)=true):a=false:=by cases a<;>first | rfl | cases h
def k8{a:Type}:List a->Option (a × List a) | x::xs=>some (x,xs) | _=>none
theorem con1_ok{a:Type}{l:List a}{x:a × List a}(h:k8 l=some x):l=x.1::x.2:=by cases l<;>cases h;rfl
structure Tb where
 fn:Nat->Option Str
 me:Nat->Option (Str × Str)
 mk':Nat->Option Str
 gc:Nat->Option Str
 nog:Str->Bool
 fld:Str->Str->Bool
structure Cy (t:Tb)(C:Ct)(X:Cx):Prop where
 calm:X.calm=true
 units:X.A.units + 64 < cLine
 guards:X.A.guards=some []
 hfn:∀j nm,t.fn j=some nm->∃k fa fd ps,FnD X.prog X.w X.K X.mg X.base k fa fd ps (spC (C.call j))/\Room k X.A/\X.mg nm=some (.ref fa)/\PySem.W.keepIn X.K (.ref fa)=true/\Binds X.K fd ps []
 hme:∀j c m,t.me j=some (c,m)->Cls X.K (aR X.K c)/\∃k fa fd ps,Meth X.K (aR X.K c) m fa/\FnD X.prog X.w X.K X.mg X.base k fa fd ps (spC (C.call j))/\Room k X.A/\Binds X.K fd ps []
 hmk:∀j c,t.mk' j=some c->∃k fa fd ps,Mk X.K (aR X.K c) fa/\FnD X.prog X.w X.K X.mg X.base k fa fd ps (spC (C.mak j))/\Room (k + 1) X.A/\X.mg c=some (.ref (aR X.K c))/\Binds X.K fd ps []
 hgc:∀g nm,t.gc g=some nm->∃v u,X.mg nm=some u/\RelV v u/\∀S H,Fz X.K S H v (C.gv g)
 hng:∀x,t.nog x=true->X.mg x=none
 hfl:∀c f,t.fld c f=true->Cls X.K (aR X.K c)/\fL X.K (aR X.K c) f
theorem Cy.comp(c:Cy t C X):Cy t C (dG X N sc q):=⟨c.calm,c.units,c.guards,c.hfn,c.hme,c.hmk,c.hgc,c.hng,c.hfl⟩
def sEq(x y:Str):Bool:=decide (x=y)
theorem bO(h:sEq x y=true):x=y:=Daa h
def kindB(sc:Scope)(x:Str)(k:NameKind):Bool:=decide (sc.names.lookup x=some k)
theorem aJ(h:kindB sc x k=true):sc.names.lookup x=some k:=Daa h
def AU(sc:Scope)(x:Str):Bool:=kindB sc x .local || kindB sc x .cell || kindB sc x .free
def wM(sc:Scope)(x:Str):Bool:=kindB sc x .local || kindB sc x .cell
theorem wN(h:AU sc x=true):Vis sc x:=by
 unfold AU at h;rw[abr,abr]at h;rcases h with (h | h) | h
 ·exact .inl (aJ h)
 ·exact .inr (.inl (aJ h))
 ·exact .inr (.inr (aJ h))
theorem nU(h:wM sc x=true):Loc sc x:=by
 unfold wM at h;rw[abr]at h;rcases h with h | h
 ·exact .inl (aJ h)
 ·exact .inr (aJ h)
def okN(x:Str):Bool:=!(x == ("__debug__":Str)) && !(x == ("__classdict__":Str))
def qr(N:List Str)(sc:Scope)(i:Nat)(x:Str):Bool:=decide (N[i]?=some x) && AU sc x && okN x
structure NmX (X:Cx)(i:Nat)(x:Str):Prop where
 n:X.N[i]?=some x
 v:Vis X.env.scope x
 d:(x == ("__debug__":Str))=false
 c:(x == ("__classdict__":Str))=false
theorem nmX_ok(h:qr X.N X.env.scope i x=true):NmX X i x:=by unfold qr okN at h;simp only[aaB,abI]at h;exact⟨Daa h.1.1,wN h.1.2,h.2.1,h.2.2⟩
def Er(N:List Str)(sc:Scope)(i:Nat)(e:Expr):Bool:=(bE e).any λx=>qr N sc i x
theorem mz{N:List Str}(h:Er N sc i e=true):∃x p,e=.Name x p/\qr N sc i x=true:=by obtain⟨x,a,h⟩:=anyT h;obtain⟨p,rfl⟩:=asNm_ok a;exact⟨x,p,rfl,h⟩
def BU(sc:Scope)(x:Str):Bool:=kindB sc x .globalImplicit && !(x == ("__debug__":Str))
theorem dm(h:BU X.env.scope x=true):Gl X x/\(x == ("__debug__":Str))=false:=by unfold BU at h;rw[aaB]at h;exact⟨aJ h.1,by simpa using h.2⟩
def tw(t:Tb)(sc:Scope)(x y:Str):Bool:=sEq x y && BU sc x && t.nog x
theorem blB_ok(c:Cy t C X)(h:tw t X.env.scope x y=true):x=y/\Gl X y/\X.mg y=none:=by unfold tw at h;simp only[aaB]at h;obtain⟨⟨b,d⟩,a⟩:=h;have:=bO b;subst this;exact⟨rfl,(dm d).1,c.hng _ a⟩
def GW(o:Bo)(a:Operator):Bool:=decide (a=opOf o)
theorem tz(h:GW o op=true):op=opOf o:=Daa h
def HS(o:Co)(a:CmpOp):Bool:=decide (a=coOf o)
theorem AV(h:HS o op=true):op=coOf o:=Daa h
def isSet:Expr->Bool
 | .Set _ _ _=>true
 | _=>false
theorem jM(a:CmpOp)(h:isSet e=false):behindInMarks a e=false:=by cases e<;>first | rfl | cases h
theorem jN(h:isSet e=false):∀x,foldedSetIterable e env x=pure x:=by cases e<;>first | (intro _;rfl) | cases h
def isCall:Expr->Bool
 | .Call _ _ _ _=>true
 | _=>false
def wO:UnaryOp->Bool | .USub=>true | _=>false
theorem nV{o:UnaryOp}(h:wO o=true):o=.USub:=by cases o<;>first | rfl | cases h
def HU(k:Int)(e:Expr):Bool:=((eV e).any λj=>decide (j=k)) || (qq e).any λz=>wO z.1 && (eV z.2).any λj=>decide (-j=k)
section
variable{X:Cx}{k:Int}{e:Expr}
theorem Et{j:Nat}{p a:Pos}:PX X (.UnaryOp .USub (.Constant (.int k) j p) a) (λ_=>some (.int (-k))):=⟨_,yc rh fK,λb H Q v e q=>by cases e;exact⟨k,rfl,q⟩⟩
theorem tD(h:HU k e=true):PX X e (λ_=>some (.int k))/\bU e=false:=by
 rcases Bool.or_eq_true_iff.mp h with h | h
 ·obtain⟨j,a,h⟩:=anyT h;obtain⟨_,_,rfl⟩:=asInt_ok a;have:=Daa h;subst this;exact⟨Ec,rfl⟩
 ·obtain⟨z,a,h⟩:=anyT h;obtain⟨p,rfl⟩:=nR a;obtain⟨j,d,c⟩:=anyT (an2 h).2;obtain⟨_,_,b⟩:=asInt_ok d;have:=Daa c;subst this;rw[nV (an2 h).1,b];exact⟨Et,rfl⟩
end
def k9(t:Tb)(N:List Str)(sc:Scope)(i:Nat):List Acc->Expr->Bool
 | []=>λe=>Er N sc i e
 | .ix k::ps=>λe=>(cv e).any λz=>HU k z.2 && k9 t N sc i ps z.1
 | .key j::ps=>λe=>(cv e).any λz=>Er N sc j z.2 && k9 t N sc i ps z.1
section
variable{t:Tb}{C:Ct}{X:Cx}{i j:Nat}{e:Expr}
theorem yw(h:Er X.N X.env.scope j e=true):PX X e (λσ=>σ[j]?.join)/\bU e=false:=by obtain⟨x,p,rfl,h⟩:=mz h;obtain⟨b,d,a,c⟩:=nmX_ok h;exact⟨GL b d a c,rfl⟩
theorem GX(h:bU e=false):NoSl e:=by cases e<;>first | exact λ_ _=>rfl | cases h
theorem eX(c:Cy t C X):∀(ps:List Acc) (e:Expr),k9 t X.N X.env.scope i ps e=true->PDp X e i ps
 | [],e,h=>by obtain⟨x,p,rfl,h⟩:=mz h;obtain⟨b,l,f,g⟩:=nmX_ok h;exact GM b l f g
 | .ix k::ps,e,h=>by obtain⟨z,b,k⟩:=anyT h;obtain⟨a,d⟩:=an2 k;obtain⟨p,rfl⟩:=asSub_ok b;exact GN (nK (tD (X:=X) a).2) (eX c ps _ d) (tD a).1
 | .key j::ps,e,h=>by obtain⟨z,b,k⟩:=anyT h;obtain⟨a,d⟩:=an2 k;obtain⟨p,rfl⟩:=asSub_ok b;exact Ee (by have:=c.units;omega) (GX (yw a).2) (eX c ps _ d) (yw a).1
end
def jO(a:Nat->Bool)(N:List Str)(sc:Scope)(fn:Bool)(m i:Nat)(x:Str):Bool:=decide (N[i]?=some x) && wM sc x && (fn || kindB sc x .local) && decide (i < m) && a i
def nW(a:Nat->Bool)(N:List Str)(sc:Scope)(fn:Bool)(m:Nat):List Nat->List Expr->Bool
 | []=>λes=>es.isEmpty
 | i::is=>λes=>(k8 es).any λz=>(bE z.1).any λx=>jO a N sc fn m i x && nW a N sc fn m is z.2
def tE(c:Nat->Bool)(N:List Str)(sc:Scope)(fn:Bool)(m:Nat):Tg->Expr->Bool
 | .nm i=>λe=>(bE e).any λx=>jO c N sc fn m i x
 | .tp ts=>λe=>(bY e).any λes=>nW c N sc fn m ts es
 | .tn i ts=>λe=>(bY e).any λes=>(gq es).any λw=>(bE w.1).any λx=>(bY w.2).any λes=>jO c N sc fn m i x && nW c N sc fn m ts es
 | .sb i k l=>λe=>(bY e).any λes=>(gq es).any λw=>(cv w.1).any λu=>(cv w.2).any λv=>(bE u.1).any λx=>(bE v.1).any λy=>(eV u.2).any λa=>(eV v.2).any λb=>decide (x=y) && decide (a=k) && decide (b=l) && qr N sc i x && decide (i < m)
section
variable{X:Cx}{W:Nat->Prop}{ok:Nat->Bool}{fn:Bool}{m:Nat}
theorem cJ{i:Nat}{x:Str}(a:fn=true->∀x,X.fn x=true)(c:∀i,ok i=true->¬ W i)(h:jO ok X.N X.env.scope fn m i x=true):Sto X W m i x:=by unfold jO at h;simp only[aaB,abr]at h;obtain⟨⟨⟨⟨d,g⟩,b⟩,e⟩,f⟩:=h;exact⟨Daa d,nU g,b.imp (λz=>a z x) aJ,Daa e,c i f⟩
theorem ig(a:fn=true->∀x,X.fn x=true)(b:∀i,ok i=true->¬ W i):∀(c:List Nat) (es:List Expr),nW ok X.N X.env.scope fn m c es=true->Stos X W m c es
 | [],es,h=>by
  cases es with
  | nil=>exact .nil
  | cons _ _=>cases h
 | i::is,es,h=>by obtain⟨z,x,e,f,k⟩:=ay2 h;obtain⟨p,d⟩:=asNm_ok f;rw[con1_ok e,d];exact .cons (cJ a b (an2 k).1) (ig a b is _ (an2 k).2)
theorem eY{n:Tg}{e:Expr}(z:X.calm=true)(s:X.N.Nodup)(f:fn=true->∀x,X.fn x=true)(g:∀i,ok i=true->¬ W i)(h:tE ok X.N X.env.scope fn m n e=true):PDg X W m e (eS n):=by
 cases n with
 | nm i =>obtain⟨x,d,k⟩:=anyT h;obtain⟨p,rfl⟩:=asNm_ok d;exact DW s (cJ f g k)
 | tp D =>obtain⟨A,d,k⟩:=anyT h;obtain⟨_,_,rfl⟩:=asTup_ok d;exact DX z s (ig f g _ _ k)
 | tn i D =>obtain⟨A,w,x,a0,d,r,t,o,k⟩:=ay4 h;obtain⟨_,_,rfl⟩:=asTup_ok d;obtain⟨_,q⟩:=asNm_ok t;obtain⟨_,_,j⟩:=asTup_ok o;rw[two2_ok r,q,j];exact GH z s (cJ f g (an2 k).1) (ig f g _ _ (an2 k).2)
 | sb i k l =>obtain⟨A,w,u,v,x,d,r,t,o,P,c⟩:=ay5 h;obtain⟨y,a,b,Z,I,M,c⟩:=ay3 c;obtain⟨c,J⟩:=an2 c;obtain⟨c,U⟩:=an2 c;obtain⟨c,F⟩:=an2 c;obtain⟨L,H⟩:=an2 c;obtain⟨_,_,rfl⟩:=asTup_ok d;obtain⟨_,q⟩:=asSub_ok t;obtain⟨_,j⟩:=asSub_ok o;obtain⟨_,G⟩:=asNm_ok P;obtain⟨_,O⟩:=asNm_ok Z;obtain⟨_,_,B⟩:=asInt_ok I;obtain⟨_,_,S⟩:=asInt_ok M;obtain⟨C,Y,T,Q⟩:=nmX_ok U;rw[two2_ok r,q,j,G,O,B,S,Daa H,Daa F,<- Daa L];exact GR z C Y T Q (Daa J)
end
def qt(sc a:Scope):Scope:={ sc with names:=sc.names.map λ(n,k)=>if (k == NameKind.free && a.kind == .function && a.names.lookup n == some .cell) then (n,NameKind.cell) else (n,k) }
def AW:Expr->List Str
 | .Name x _=>[x]
 | .Tuple [.Name x _,.Tuple es _ _] _ _=>x::es.filterMap fun | .Name x _=>some x | _=>none
 | .Tuple es _ _=>es.filterMap fun | .Name x _=>some x | _=>none
 | _=>[]
def tF(N:List Str)(nt:Nat)(b:List Str)(sc a:Scope):Nat->List Nat->Bool
 | _,[]=>true
 | i,j::fr=>(match N[nt + i]? with
  | some x=>decide (b[j]?=some x) && kindB a x .cell && kindB sc x .free
  | none=>false) && tF N nt b sc a (i + 1) fr
def nX(N:List Str)(nt:Nat)(fr:List Nat)(b:List Str)(sc a:Scope):Bool :=
 decide (sc.kind=.function) && sc.names.all (λx=>!decide (x.2=.cell)) && sc.names.all (λx=>!decide (x.2=.local) || kindB sc x.1 .local) && decide (N.length=nt + fr.length) && tF N nt b sc a 0 fr &&
  sc.names.all (λx=>!decide (x.2=.free) || (kindB a x.1 .cell && kindB sc x.1 .free))
theorem nY:∀{fr:List Nat} {a:Nat},tF N nt ON sc osc a fr=true->∀(i j:Nat),fr[i]?=some j->∃x,N[nt + (a + i)]?=some x/\ON[j]?=some x/\osc.names.lookup x=some .cell/\sc.names.lookup x=some .free
 | [],_,_,i,j,e=>by simp at e
 | j0::fr,a,h,0,j,e=>by
  simp at e;subst e;simp only[tF,aaB]at h;obtain⟨h,_⟩:=h;split at h
  ·rename_i x b;simp only[aaB]at h;exact⟨x,b,Daa h.1.1,aJ h.1.2,aJ h.2⟩
  ·cases h
 | j0::fr,a,h,i + 1,j,e=>by simp only[tF,aaB]at h;obtain⟨x,c,d⟩:=nY h.2 i j (by simpa using e);exact⟨x,by rw[show a + (i + 1)=a + 1 + i by omega];exact c,d⟩
theorem ij(h:nX N nt fr ON sc osc=true):CompScope N nt fr ON sc osc:=by
 unfold nX at h;simp only[aaB,abf,abr,abI,decide_eq_false_iff_not,decide_eq_true_eq]at h;obtain⟨⟨⟨⟨⟨f,k⟩,d⟩,g⟩,c⟩,b⟩:=h;refine⟨f,λx a=>k x a,λx a e=>?_,g,λi j e=>?_,λx a e=>?_,λx a e=>?_⟩
 ·exact (d x a).elim (λz=>absurd e z) aJ
 ·have:=nY c i j e;rwa [aaU]at this
 ·exact (b x a).elim (λz=>absurd e z) λz=>aJ z.1
 ·exact (b x a).elim (λz=>absurd e z) λz=>aJ z.2
end
section
abbrev Ck:=List Str->Scope->Expr->Bool
def fW(f:Ck):Ck × Ck:=(f,λN a e=>plainT e && f N a e)
def JG:Bn->Str
 | .list=>"list" | .tuple=>"tuple" | .sorted=>"sorted"
def JH:Knd->Str
 | .int=>"int" | .bool=>"bool" | .str=>"str" | .list=>"list" | .tuple=>"tuple" | .seq=>"list"
def wQ(e:Expr):Option (Str × List Expr):=(eE e).bind λz=>(bE z.1).bind λx=>if z.2.2.1.isEmpty then some (x,z.2.1) else none
theorem jP{z}(h:wQ e=some z):∃p a,e=.Call (.Name z.1 p) z.2 [] a:=by
 obtain⟨c,x,d,g,h⟩:=bn2 h;obtain⟨f,i,b,a⟩:=c;cases b with
 | cons _ _=>cases h
 | nil =>cases h;obtain⟨p,rfl⟩:=asNm_ok g;exact⟨p,a,dN d⟩
def wR(e:Expr):Option (Expr × CmpOp × Expr):=(nQ e).bind λz=>(cT z.2.1).bind λo=>(cT z.2.2).bind λy=>some (z.1,o,y)
theorem jQ{z}(h:wR e=some z):∃p,e=.Compare z.1 [z.2.1] [z.2.2] p:=by obtain⟨c,o,y,f,g,d,h⟩:=bn3 h;cases h;obtain⟨x,i,j⟩:=c;obtain⟨p,rfl⟩:=asCmp_ok f;have b:=one1_ok g;have a:=one1_ok d;simp only at b a;subst b a;exact⟨p,rfl⟩
def AX(a:Bool):CmpOp->Bool
 | .Is=>!a | .IsNot=>a | _=>false
theorem nZ(h:AX neg o=true):o=if neg then .IsNot else .Is:=by cases o<;>cases neg<;>first | rfl | cases h
def AY:BoolOp->Bool | .And=>true | _=>false
theorem n5(h:AY o=true):o=.And:=by cases o<;>first | rfl | cases h
def GY:BoolOp->Bool | .Or=>true | _=>false
theorem tG(h:GY o=true):o=.Or:=by cases o<;>first | rfl | cases h
def AZ:UnaryOp->Bool | .Not=>true | _=>false
theorem n6(h:AZ o=true):o=.Not:=by cases o<;>first | rfl | cases h
def A6:Operator->Bool | .Add=>true | _=>false
theorem n9(h:A6 o=true):o=.Add:=by cases o<;>first | rfl | cases h
def Eu:Operator->Bool | .Mult=>true | _=>false
theorem wU(h:Eu o=true):o=.Mult:=by cases o<;>first | rfl | cases h
def yx(e:Expr):Option (Expr × Option Expr × Option Expr):=(cv e).bind λz=>(k6 z.2).bind λs=>if s.2.2.isNone then some (z.1,s.1,s.2.1) else none
theorem tH{z}(h:yx e=some z):∃p a,e=.Subscript z.1 (.Slice z.2.1 z.2.2 none p) a:=by
 obtain⟨c,s,d,g,h⟩:=bn2 h;obtain⟨x,y⟩:=c;obtain⟨l,i,f⟩:=s;cases f with
 | some _=>cases h
 | none =>cases h;obtain⟨a,rfl⟩:=asSub_ok d;obtain⟨p,b⟩:=tf g;simp only at b;subst b;exact⟨p,a,rfl⟩
def HV(e:Expr):Option Expr:=(cv e).bind λz=>(k6 z.2).bind λs=>s.2.2.bind λa=>(qq a).bind λu=>(eV u.2).bind λk=>if (s.1.isNone && s.2.1.isNone && wO u.1 && decide (k=1))=true then some z.1 else none
def A7:List (Str × Int)->List (Option Expr)->List Expr->Bool
 | [],es,vs=>es.isEmpty && vs.isEmpty
 | z::ks,es,vs=>(k8 es).any λe=>(k8 vs).any λv=>e.1.any λk=>(tm k).any λx=>(eV v.1).any λn=>sEq x z.1 && decide (n=z.2) && A7 ks e.2 v.2
theorem oa:∀{ks:List (Str × Int)} {es:List (Option Expr)} {vs:List Expr},A7 ks es vs=true->Dsp ks es vs
 | [],es,vs,h=>by obtain⟨a,b⟩:=an2 h;rw[acb.mp a,acb.mp b];exact .nil
 | (x,n)::ks,es,vs,h=>by obtain⟨e,v,k,y,m,a,b,l,g,i,h⟩:=ay5 h;obtain⟨j,o,d⟩:=an3 h;obtain⟨_,_,c⟩:=asStr_ok g;obtain⟨_,_,f⟩:=asInt_ok i;rw[con1_ok a,con1_ok b,l,c,f,bO j,Daa o];exact .cons (oa d)
def Ew(e:Expr):Option (Expr × Str × List Expr × Pos × Pos):=(eE e).bind λz=>(i6 z.1).bind λa=>(cv a.1).bind λx=>if z.2.2.1.isEmpty then some (a.1,a.2.1,z.2.1,a.2.2,z.2.2.2) else none
theorem wV{e:Expr}{z}(h:Ew e=some z):∃o1 n p,z.1=.Subscript o1 n p/\e=.Call (.Attribute z.1 z.2.1 z.2.2.2.1) z.2.2.1 [] z.2.2.2.2:=by
 obtain⟨c,a,x,j,k,l,h⟩:=bn3 h;obtain⟨f,q,i,s⟩:=c;obtain⟨o,m,r⟩:=a;cases i with
 | cons _ _=>cases h
 | nil =>cases h;obtain⟨p,d⟩:=asSub_ok l;have b:=asAtt_ok k;have g:=dN j;simp only at g b d;exact⟨_,_,p,d,by rw[g,b]⟩
def wW(e:Expr):Option (Str × Str × List Expr × Pos × Pos):=(eE e).bind λz=>(i6 z.1).bind λa=>(bE a.1).bind λx=>if z.2.2.1.isEmpty then some (x,a.2.1,z.2.1,a.2.2,z.2.2.2) else none
theorem jR{z}(h:wW e=some z):∃p,e=.Call (.Attribute (.Name z.1 p) z.2.1 z.2.2.2.1) z.2.2.1 [] z.2.2.2.2:=by
 obtain⟨c,a,x,j,k,i,h⟩:=bn3 h;obtain⟨f,n,g,q⟩:=c;obtain⟨o,m,l⟩:=a;cases g with
 | cons _ _=>cases h
 | nil =>cases h;obtain⟨p,d⟩:=asNm_ok i;have b:=asAtt_ok k;simp only at b d;subst d;subst b;exact⟨p,dN j⟩
def wX(e:PySem.Expr):Option (Expr × Expr × List Comprehension × Scope × Pos):=if h:e.ctorIdx=10 then some (@PySem.Expr.DictComp.elim (λ_=>Expr × Expr × List Comprehension × Scope × Pos) e h λk x a s p=>(k,x,a,s,p)) else none
theorem wY(h:wX e=some z):e=.DictComp z.1 z.2.1 z.2.2.1 z.2.2.2.1 z.2.2.2.2:=by
 by_cases a:e.ctorIdx=10
 ·revert h;exact @PySem.Expr.DictComp.elim (λe=>wX e=some z->e=.DictComp z.1 z.2.1 z.2.2.1 z.2.2.2.1 z.2.2.2.2) e a λk x b s p h=>by cases h;exact rfl
 ·rw[wX,dif_neg a]at h;cases h
def yy(e:Expr):Option (Expr × Expr × Expr × Expr × List Expr × Scope × Pos):=(wX e).bind λz=>(cT z.2.2.1).bind λg=>if g.is_async=0 then some (z.1,z.2.1,g.target,g.iter,g.ifs,z.2.2.2.1,z.2.2.2.2) else none
theorem tI{z}(h:yy e=some z):e=.DictComp z.1 z.2.1 [⟨z.2.2.1,z.2.2.2.1,z.2.2.2.2.1,0⟩] z.2.2.2.2.2.1 z.2.2.2.2.2.2:=by
 obtain⟨c,g,f,i,h⟩:=bn2 h;obtain⟨k,x,l,j,p⟩:=c;obtain⟨n,m,o,d⟩:=g;simp only at h;by_cases a:d=0
 ·subst a;rw[if_pos rfl]at h;cases h;have b:=one1_ok i;simp only at b;rw[wY f,b]
 ·rw[if_neg a]at h;cases h
def yz(e:Expr):Option (Expr × Expr × Expr × List Expr × Scope × Pos):=(my e).bind λz=>(cT z.2.1).bind λg=>if g.is_async=0 then some (z.1,g.target,g.iter,g.ifs,z.2.2.1,z.2.2.2) else none
theorem lh{z}(h:yz e=some z):e=.ListComp z.1 [⟨z.2.1,z.2.2.1,z.2.2.2.1,0⟩] z.2.2.2.2.1 z.2.2.2.2.2:=by
 obtain⟨c,g,f,i,h⟩:=bn2 h;obtain⟨x,k,j,p⟩:=c;obtain⟨m,l,n,d⟩:=g;simp only at h;by_cases a:d=0
 ·subst a;rw[if_pos rfl]at h;cases h;have b:=one1_ok i;simp only at b;subst b;exact nT f
 ·rw[if_neg a]at h;cases h
end
section
section
variable(t:Tb)
def lj(o:Co)(f g:Ck):Ck:=λN a e=>(wR e).any λz=>HS o z.2.1 && !isSet z.2.2 && f N a z.1 && g N a z.2.2
def yA(a:Bool)(f:Ck):Ck:=λN b e=>(wR e).any λz=>AX a z.2.1 && tu z.2.2 && f N b z.1
def tJ(b:BoolOp->Bool)(f g:Ck):Ck:=λN a e=>(wI e).any λz=>b z.1 && ((k8 z.2.1).any λx=>(k8 x.2).any λy=>f N a x.1 && bif y.2.isEmpty then g N a y.1 else g N a (.BoolOp z.1 x.2 z.2.2))
def wZ(b:UnaryOp->Bool)(f:Ck):Ck:=λN a e=>(qq e).any λz=>b z.1 && f N a z.2
def og(b:Operator->Bool)(f g:Ck):Ck:=λN a e=>(nP e).any λz=>b z.2.1 && f N a z.1 && g N a z.2.2
def jS(p:Str->Bool)(f:List Str->Scope->List Expr->Bool):Ck:=λN a e=>(wQ e).any λz=>p z.1 && BU a z.1 && !z.2.isEmpty && !z.2.any isStar && f N a z.2
def jU(p:Str)(f:Ck):Ck:=λN a e=>(wQ e).any λz=>(cT z.2).any λx=>tw t a z.1 p && !isStar x && f N a x
def jV(p:Str)(f g:Ck):Ck:=λN a e=>(wQ e).any λz=>(gq z.2).any λx=>tw t a z.1 p && !isStar x.1 && !isStar x.2 && f N a x.1 && g N a x.2
def Ex(k:Knd):Ck:=λN a e=>match k with
 | .seq=>(bY e).any λz=>(gq z).any λw=>((bE w.1).any λu=>tw t a u "list") && (bE w.2).any λv=>tw t a v "tuple"
 | k=>(bE e).any λu=>tw t a u (JH k)
def HW(a k:Bool)(f:Ck):Ck:=λN b e=>(wR e).any λz=>AX a z.2.1 && f N b z.1 && (AS z.2.2).any λj=>decide (j=k)
mutual
def aT:E->Ck × Ck
 | .nm i=>fW λN sc e=>Er N sc i e
 | .int k=>fW λN sc e=>(eV e).any λj=>decide (j=k)
 | .str k=>fW λN sc e=>(tm e).any λj=>sEq j k
 | .bl k=>fW λN sc e=>(AS e).any λj=>decide (j=k)
 | .non=>fW λN sc e=>tu e
 | .gc g=>fW λN sc e=>(bE e).any λx=>decide (t.gc g=some x) && BU sc x
 | .bop o a b=>fW (og (GW o) (aT a).1 (aT b).1)
 | .cat a b=>fW (og A6 (aT a).1 (aT b).1)
 | .rep a b=>fW (og Eu (aT a).1 (aT b).1)
 | .cmp o a b=>(lj o (aT a).1 (aT b).1,lj o (aT a).1 (aT b).1)
 | .isn neg a=>(yA neg (aT a).1,yA neg (aT a).1)
 | .and a b=>(tJ AY (aT a).1 (aT b).1,tJ AY (aT a).2 (aT b).2)
 | .or a b=>(tJ GY (aT a).1 (aT b).1,tJ GY (aT a).2 (aT b).2)
 | .not a=>(wZ AZ (aT a).1,wZ AZ (aT a).2)
 | .neg a=>fW (wZ wO (aT a).1)
 | .ife c a b=>fW λN sc e=>(wK e).any λz=>(aT c).2 N sc z.1 && (aT a).1 N sc z.2.1 && (aT b).1 N sc z.2.2
 | .tup es=>fW λN sc e=>(bY e).any λxs=>ik es N sc xs
 | .lst es=>fW λN sc e=>(nS e).any λxs=>ik es N sc xs
 | .ix a b=>fW λN sc e=>(cv e).any λz=>!bU z.2 && (aT a).1 N sc z.1 && (aT b).1 N sc z.2
 | .sll a lo hi=>fW λN sc e=>(yx e).any λz=>(aT a).1 N sc z.1 && A8 lo N sc z.2.1 && A8 hi N sc z.2.2
 | .call f es=>fW (jS (λx=>decide (t.fn f=some x)) (ik es))
 | .callS f es=>fW (jS (λx=>decide (t.fn f=some x)) (ik es))
 | .blt f es=>fW (jS (λx=>sEq x (AG f) && t.nog x) (ik es))
 | .bnw f a=>fW (jU t (JG f) (aT a).1)
 | .isi k a=>fW (jV t "isinstance" (aT a).1 (Ex t k))
 | .idx a b=>fW λN sc e=>(Ew e).any λz=>(cT z.2.2.1).any λy=>sEq z.2.1 "index" && (z.2.2.2.1.endLine == z.2.2.2.2.line) && !isStar y && (aT a).1 N sc z.1 && (aT b).1 N sc y
 | .dgt i b=>fW λN sc e=>(wW e).any λz=>(cT z.2.2.1).any λy=>sEq z.2.1 "get" && qr N sc i z.1 && (z.2.2.2.1.endLine == z.2.2.2.2.line) && !isStar y && (aT b).1 N sc y
 | .pop i=>fW λN sc e=>(wW e).any λz=>(cT z.2.2.1).any λy=>(eV y).any λn=>sEq z.2.1 "pop" && qr N sc i z.1 && (z.2.2.2.1.endLine == z.2.2.2.2.line) && decide (n=0)
 | .dsp ks i=>fW λN sc e=>(cv e).any λz=>(k7 z.1).any λw=>(bE z.2).any λx=>qr N sc i x && A7 ks w.1 w.2 && !ks.isEmpty && decide (ks.length<=15) && decide (ks.map (·.1)).Nodup
 | .frz a=>fW (aT a).1
 | .pg i ps=>fW λN sc e=>k9 t N sc i ps e
 | .din neg a i ps=>(lj (if neg then .nin else .inn) (aT a).1 λN sc e=>k9 t N sc i ps e,lj (if neg then .nin else .inn) (aT a).1 λN sc e=>k9 t N sc i ps e)
 | .comp nt fr it tg ifs elt=>fW λN sc e=>(yz e).any λz=>(λd=>nX d nt fr N z.2.2.2.2.1 sc && decide d.Nodup && !isSet z.2.2.1 && w8 it N sc z.2.1 z.2.2.1 && (tE (λ_=>true) d (qt z.2.2.2.2.1 sc) false nt tg z.2.1 && Ey ifs d (qt z.2.2.2.2.1 sc) z.2.2.2.1 && (aT elt).1 d (qt z.2.2.2.2.1 sc) z.1)) (AW z.2.1++fr.filterMap λj=>N[j]?)
def ik:Es->List Str->Scope->List Expr->Bool
 | .nil=>λN sc xs=>xs.isEmpty
 | .cons a es=>λN sc xs=>(k8 xs).any λz=>!isStar z.1 && (aT a).1 N sc z.1 && ik es N sc z.2
def A8:Eo->List Str->Scope->Option Expr->Bool
 | .none=>λN sc o=>o.isNone
 | .some a=>λN sc o=>o.any λx=>(aT a).1 N sc x
def Ey:Eo->List Str->Scope->List Expr->Bool
 | .none=>λN sc o=>o.isEmpty
 | .some a=>λN sc o=>(cT o).any λx=>(aT a).2 N sc x
def w8:It'->List Str->Scope->Expr->Expr->Bool
 | .seq a=>λN sc g e=>(aT a).1 N sc e
 | .rg1 a=>λN sc g e=>jU t "range" (aT a).1 N sc e
 | .rg2 a b=>λN sc g e=>jV t "range" (aT a).1 (aT b).1 N sc e
 | .enm a=>λN sc g e=>isTup g && jU t "enumerate" (aT a).1 N sc e
 | .zip a b=>λN sc g e=>isTup g && jV t "zip" (aT a).1 (aT b).1 N sc e
end
end
def w9:Expr->Bool
 | .BoolOp _ _ _=>true
 | _=>false
structure EOk (t:Tb)(C:Ct)(m:E):Prop where
 v:∀X e,Cy t C X->(aT t m).1 X.N X.env.scope e=true->PDe X e (aD C m)
 w:∀X e,Cy t C X->w9 e=true->(aT t m).2 X.N X.env.scope e=true->PDw X e (hR C m)
 t:∀X e,Cy t C X->(aT t m).2 X.N X.env.scope e=true->PDt X e (hR C m)
section
variable{t:Tb}{C:Ct}{X:Cx}{e:Expr}
theorem oh(h:w9 e=true):∃o xs p,e=.BoolOp o xs p:=by cases e<;>first | exact⟨_,_,_,rfl⟩ | cases h
theorem aF{m:E}(b:(aT t m).2=λN sc e=>plainT e && (aT t m).1 N sc e)(f:bf C m=(vt (ev C m)).2)(a:∀X e,Cy t C X->(aT t m).1 X.N X.env.scope e=true->PDe X e (aD C m)):EOk t C m :=
 ⟨a,λX e c d h=>by
  rw[b]at h;obtain⟨o,g,p,rfl⟩:=oh d;exact absurd h aae,
  λX e c h=>by
  rw[b]at h;exact DM f (an2 h).1 (a X e c (an2 h).2)⟩
theorem jW{m:E}(d:∀(X:Cx) e,w9 e=true->(aT t m).2 X.N X.env.scope e=false)(b:∀X e,Cy t C X->(aT t m).1 X.N X.env.scope e=true->PDe X e (aD C m))(f:∀X e,Cy t C X->(aT t m).2 X.N X.env.scope e=true->PDt X e (hR C m)):EOk t C m :=
 ⟨b,λX e c a h=>absurd h (by rw[d X e a];exact aae),f⟩
theorem xc{f:Ck}{N:List Str}{sc:Scope}(a:w9 e=true)(h:∀o xs p,f N sc (.BoolOp o xs p)=false):f N sc e=false:=by obtain⟨o,xs,p,rfl⟩:=oh a;exact h o xs p
theorem ckBin_ok{b:Operator->Bool}{f g:Ck}{N:List Str}{sc:Scope}(h:og b f g N sc e=true):∃x o y p,e=.BinOp x o y p/\b o=true/\f N sc x=true/\g N sc y=true:=by obtain⟨z,a,h⟩:=anyT h;obtain⟨p,rfl⟩:=sY a;exact⟨_,_,_,p,rfl,an3 h⟩
theorem ckUn_ok{b:UnaryOp->Bool}{f:Ck}{N:List Str}{sc:Scope}(h:wZ b f N sc e=true):∃o x p,e=.UnaryOp o x p/\b o=true/\f N sc x=true:=by obtain⟨z,a,h⟩:=anyT h;obtain⟨p,rfl⟩:=nR a;exact⟨_,_,p,rfl,an2 h⟩
theorem eZ{o:Co}{f g:Ck}{N:List Str}{sc:Scope}(h:lj o f g N sc e=true):∃x y p,e=.Compare x [coOf o] [y] p/\isSet y=false/\f N sc x=true/\g N sc y=true:=by obtain⟨z,a,h⟩:=anyT h;obtain⟨p,rfl⟩:=jQ a;obtain⟨a,d,b,c⟩:=an4 h;exact⟨_,_,p,by rw[AV a],cf d,b,c⟩
theorem fX{p:Str->Bool}{f:List Str->Scope->List Expr->Bool}{N:List Str}{sc:Scope}(h:jS p f N sc e=true):∃x z zs q a,e=.Call (.Name x q) (z::zs) [] a/\p x=true/\BU sc x=true/\isStar z=false/\zs.any isStar=false/\f N sc (z::zs)=true:=by
 obtain⟨z,b,h⟩:=anyT h;obtain⟨q,a,rfl⟩:=jP b;obtain⟨b,k,d,g,j⟩:=an5 h;obtain⟨x,c⟩:=z;cases c with
 | nil=>cases d
 | cons y i =>have:=cf g;rw[aaZ,acs]at this;exact⟨x,y,i,q,a,rfl,b,k,this.1,this.2,j⟩
theorem fY{p:Str}{f:Ck}{N:List Str}{sc:Scope}(h:jU t p f N sc e=true):∃x z q a,e=.Call (.Name x q) [z] [] a/\tw t sc x p=true/\isStar z=false/\f N sc z=true:=by obtain⟨z,w,b,c,h⟩:=ay2 h;obtain⟨q,a,rfl⟩:=jP b;obtain⟨x,g⟩:=z;have:=one1_ok c;simp only at this;subst this;obtain⟨b,c,d⟩:=an3 h;exact⟨x,w,q,a,rfl,b,cf c,d⟩
theorem fZ{p:Str}{f g:Ck}{N:List Str}{sc:Scope}(h:jV t p f g N sc e=true):∃x z w q a,e=.Call (.Name x q) [z,w] [] a/\tw t sc x p=true/\isStar z=false/\isStar w=false/\f N sc z=true/\g N sc w=true:=by obtain⟨z,w,b,c,h⟩:=ay2 h;obtain⟨q,a,rfl⟩:=jP b;obtain⟨x,k⟩:=z;have:=two2_ok c;simp only at this;subst this;obtain⟨b,c,d,i,j⟩:=an5 h;exact⟨x,_,_,q,a,rfl,b,cf c,cf d,i,j⟩
theorem ckBo_ok{b:BoolOp->Bool}{f g:Ck}{N:List Str}{sc:Scope}(h:tJ b f g N sc e=true):∃o x y es p,e=.BoolOp o (x::y::es) p/\b o=true/\f N sc x=true/\((es=[]/\g N sc y=true)\/g N sc (.BoolOp o (y::es) p)=true):=by
 obtain⟨z,k,h⟩:=anyT h;have:=wJ k;subst this;obtain⟨i,h⟩:=an2 h;obtain⟨x,y,m,l,h⟩:=ay2 h;obtain⟨d,h⟩:=an2 h;obtain⟨o,q,p⟩:=z;obtain⟨x,n⟩:=x;obtain⟨y,es⟩:=y;have j:=con1_ok m;have c:=con1_ok l;simp only at j c;subst c;subst j;cases es with
 | nil=>exact⟨o,x,y,[],p,rfl,i,d,.inl ⟨rfl,h⟩⟩
 | cons a es=>exact⟨o,x,y,a::es,p,rfl,i,d,.inr h⟩
theorem mD {x:Str} {T:String} {p:Pos} (c:Gl X x) (b:X.mg x=none) (a:bootBuiltins x=some (.type T)) (f:x≠"__name__") (d:(x == ("__debug__":Str))=false):PE X (.Name x p) (tC (.ty T)):=vd c b a rfl f d
theorem A9 {z w:Expr} {x:Str} {q M:Pos} {k:Knd} {y:E} (c:Cy t C X) (H:tw t X.env.scope x "isinstance"=true) (j:isStar z=false) (f:Ex t k X.N X.env.scope w=true) (i:PDe X z (aD C y)):PDe X (.Call (.Name x q) [z,w] [] M) (aD C (.isi k y)):=by
 obtain⟨D,g,l⟩:=blB_ok c H;subst D;have d:∀{T:Str},((bE w).any λu=>tw t X.env.scope u T)=true->∃p,w=.Name T p/\Gl X T/\X.mg T=none:=λ{T} h=>by obtain⟨u,m,o⟩:=anyT h;obtain⟨p,rfl⟩:=asNm_ok m;obtain⟨n,a,b⟩:=blB_ok c o;subst n;exact⟨p,rfl,a,b⟩
 cases k with
 | int=>obtain⟨p,rfl,a,b⟩:=d f;exact hX (T:="int") rfl (mD a b rK (by decide) (by decide)) g l j rfl i
 | bool=>obtain⟨p,rfl,a,b⟩:=d f;exact hX (T:="bool") rfl (mD a b vF (by decide) (by decide)) g l j rfl i
 | str=>obtain⟨p,rfl,a,b⟩:=d f;exact hX (T:="str") rfl (mD a b zV (by decide) (by decide)) g l j rfl i
 | list=>obtain⟨p,rfl,a,b⟩:=d f;exact hX (T:="list") rfl (mD a b jr (by decide) (by decide)) g l j rfl i
 | tuple=>obtain⟨p,rfl,a,b⟩:=d f;exact hX (T:="tuple") rfl (mD a b gN (by decide) (by decide)) g l j rfl i
 | seq =>obtain⟨Z,B,m,o,f⟩:=ay2 f;obtain⟨J,A⟩:=an2 f;obtain⟨u,G,F⟩:=anyT J;obtain⟨v,Q,L⟩:=anyT A;obtain⟨k1,W,rfl⟩:=asTup_ok m;have:=two2_ok o;subst this;obtain⟨w1,U⟩:=B;obtain⟨Y,r⟩:=asNm_ok G;obtain⟨S,s⟩:=asNm_ok Q;simp only at r s;subst r s;obtain⟨n,a,b⟩:=blB_ok c F;obtain⟨O,I,P⟩:=blB_ok c L;subst n O;exact AI (mD a b jr (by decide) (by decide)) (mD I P gN (by decide) (by decide)) g l j rfl rfl i
mutual
theorem bh:∀m:E,EOk t C m
 | .nm i=>aF rfl rfl λX e c h=>by obtain⟨x,p,rfl,h⟩:=mz h;obtain⟨d,r,l,F⟩:=nmX_ok h;exact GB d r l F
 | .int k=>aF rfl rfl λX e c h=>by obtain⟨j,d,h⟩:=anyT h;obtain⟨_,_,rfl⟩:=asInt_ok d;have:=Daa h;subst this;exact Dx
 | .str k=>aF rfl rfl λX e c h=>by obtain⟨j,d,h⟩:=anyT h;obtain⟨_,_,rfl⟩:=asStr_ok d;have:=bO h;subst this;exact Dy
 | .bl k=>aF rfl rfl λX e c h=>by obtain⟨j,d,h⟩:=anyT h;obtain⟨_,_,rfl⟩:=asBl_ok d;have:=Daa h;subst this;exact GC
 | .non=>aF rfl rfl λX e c h=>by obtain⟨_,_,rfl⟩:=ie h;exact Dz
 | .gc g=>aF rfl rfl λX e c h=>by obtain⟨x,d,h⟩:=anyT h;obtain⟨_,rfl⟩:=asNm_ok d;obtain⟨v,u,O,J,L⟩:=c.hgc _ _ (Daa (an2 h).1);exact GD (dm (an2 h).2).1 O J L (dm (an2 h).2).2
 | .bop o a b=>aF rfl rfl λX e c h=>by obtain⟨x,o',y,p,rfl,d,r,l⟩:=ckBin_ok h;have:=tz d;subst this;exact Ds ((bh a).v X _ c r) ((bh b).v X _ c l)
 | .cat a b=>aF rfl rfl λX e c h=>by obtain⟨x,o',y,p,rfl,d,r,l⟩:=ckBin_ok h;have:=n9 d;subst this;exact DR ((bh a).v X _ c r) ((bh b).v X _ c l)
 | .rep a b=>aF rfl rfl λX e c h=>by obtain⟨x,o',y,p,rfl,d,r,l⟩:=ckBin_ok h;have:=wU d;subst this;exact D5 ((bh a).v X _ c r) ((bh b).v X _ c l)
 | .cmp o a b=>jW (λX e M=>xc (f:=(aT t (.cmp o a b)).2) M λ_ _ _=>rfl) (λX e c h=>by
  obtain⟨x,y,p,rfl,r,l,F⟩:=eZ h;exact Du c.units (jM _ r) ((bh a).v X _ c l) ((bh b).v X _ c F)) λX e c h=>by
  obtain⟨x,y,p,rfl,r,l,F⟩:=eZ h;exact Dv c.units (jM _ r) ((bh a).v X _ c l) ((bh b).v X _ c F)
 | .isn neg a=>jW (λX e M=>xc (f:=(aT t (.isn neg a)).2) M λ_ _ _=>rfl) (λX e c h=>by
  obtain⟨z,d,h⟩:=anyT h;obtain⟨p,rfl⟩:=jQ d;obtain⟨A,D,s⟩:=an3 h;obtain⟨_,_,T⟩:=ie D;rw[nZ A,T];exact DB ((bh a).v X _ c s)) λX e c h=>by
  obtain⟨z,d,h⟩:=anyT h;obtain⟨p,rfl⟩:=jQ d;obtain⟨A,D,s⟩:=an3 h;obtain⟨_,_,T⟩:=ie D;rw[nZ A,T];exact DD ((bh a).v X _ c s)
 | .and a b=>by
  have U:∀X e,Cy t C X->(aT t (.and a b)).2 X.N X.env.scope e=true->PDw X e (hR C (.and a b)):=λX e c h=>by
   obtain⟨o,x,y,G,p,rfl,d,r,l⟩:=ckBo_ok h;have:=n5 d;subst this;refine DH ((bh a).t X _ c r) ?_;rcases l with ⟨rfl,l⟩ | l
   ·exact rZ ((bh b).t X _ c l)
   ·exact (bh b).w X _ c rfl l
  refine⟨λX e c h=>?_,λX e c _ h=>U X e c h,λX e c h=>(U X e c h).pt⟩;obtain⟨o,x,y,G,p,rfl,d,r,l⟩:=ckBo_ok h;have:=n5 d;subst this;refine v_and ((bh a).v X _ c r) ?_;rcases l with ⟨rfl,l⟩ | l
  ·exact rW ((bh b).v X _ c l)
  ·exact (bh b).v X _ c l
 | .or a b=>by
  have U:∀X e,Cy t C X->(aT t (.or a b)).2 X.N X.env.scope e=true->PDw X e (hR C (.or a b)):=λX e c h=>by
   obtain⟨o,x,y,G,p,rfl,d,r,l⟩:=ckBo_ok h;have:=tG d;subst this;refine GE ((bh a).t X _ c r) ?_;rcases l with ⟨rfl,l⟩ | l
   ·exact vX ((bh b).t X _ c l)
   ·exact (bh b).w X _ c rfl l
  refine⟨λX e c h=>?_,λX e c _ h=>U X e c h,λX e c h=>(U X e c h).pt⟩;obtain⟨o,x,y,G,p,rfl,d,r,l⟩:=ckBo_ok h;have:=tG d;subst this;refine v_or ((bh a).v X _ c r) ?_;rcases l with ⟨rfl,l⟩ | l
  ·exact rW ((bh b).v X _ c l)
  ·exact (bh b).v X _ c l
 | .not a=>jW (λX e M=>xc (f:=(aT t (.not a)).2) M λ_ _ _=>rfl) (λX e c h=>by
  obtain⟨o,x,p,rfl,d,r⟩:=ckUn_ok h;have:=n6 d;subst this;exact v_not ((bh a).v X _ c r)) λX e c h=>by
  obtain⟨o,x,p,rfl,d,r⟩:=ckUn_ok h;have:=n6 d;subst this;exact DJ ((bh a).t X _ c r)
 | .neg a=>aF rfl rfl λX e c h=>by obtain⟨o,x,p,rfl,d,r⟩:=ckUn_ok h;have:=nV d;subst this;exact DF ((bh a).v X _ c r)
 | .ife z a b=>aF rfl rfl λX e c h=>by obtain⟨q,d,h⟩:=anyT h;obtain⟨p,rfl⟩:=wL d;obtain⟨A,D,s⟩:=an3 h;exact DL ((bh z).t X _ c A) ((bh a).v X _ c D) ((bh b).v X _ c s)
 | .tup G=>aF rfl rfl λX e c h=>by obtain⟨q,d,h⟩:=anyT h;obtain⟨_,_,rfl⟩:=asTup_ok d;exact DN (yC G X _ c h)
 | .lst G=>aF rfl rfl λX e c h=>by obtain⟨q,d,h⟩:=anyT h;obtain⟨_,rfl⟩:=sZ d;exact DP (yC G X _ c h)
 | .ix a b=>aF rfl rfl λX e c h=>by obtain⟨q,d,h⟩:=anyT h;obtain⟨_,rfl⟩:=asSub_ok d;obtain⟨A,D,s⟩:=an3 h;exact GF (cf A) ((bh a).v X _ c D) ((bh b).v X _ c s)
 | .sll a lo hi=>aF rfl rfl λX e c h=>by obtain⟨q,d,h⟩:=anyT h;obtain⟨_,_,rfl⟩:=tH d;obtain⟨A,D,s⟩:=an3 h;exact DQ ((bh a).v X _ c A) (HX lo X _ c D) (HX hi X _ c s)
 | .call f G=>aF rfl rfl λX e c h=>by obtain⟨x,z,zs,q,q',rfl,d,r,l,F,P⟩:=fX (p:=λx=>decide (t.fn f=some x)) (f:=ik t G) (N:=X.N) (sc:=X.env.scope) (e:=e) h;obtain⟨k,fa,fd,I,O,J,L,g4,g5⟩:=c.hfn _ _ (Daa d);exact AF O J (dm r).1 L g4 g5 (dm r).2 l F (yC G X _ c P)
 | .callS f G=>aF rfl rfl λX e c h=>by obtain⟨x,z,zs,q,q',rfl,d,r,l,F,P⟩:=fX (p:=λx=>decide (t.fn f=some x)) (f:=ik t G) (N:=X.N) (sc:=X.env.scope) (e:=e) h;obtain⟨k,fa,fd,I,O,J,L,g4,g5⟩:=c.hfn _ _ (Daa d);exact wz O J (dm r).1 L g4 g5 (dm r).2 l F (yC G X _ c P)
 | .blt f G=>aF rfl rfl λX e c h=>by obtain⟨x,z,zs,q,q',rfl,d,r,l,F,P⟩:=fX (p:=λx=>sEq x (AG f) && t.nog x) (f:=ik t G) (N:=X.N) (sc:=X.env.scope) (e:=e) h;have:=bO (an2 d).1;subst this;exact DV c.calm (dm r).1 (c.hng _ (an2 d).2) l F (yC G X _ c P)
 | .bnw f a=>aF rfl rfl λX e c h=>by
  obtain⟨x,z,q,q',rfl,d,r,l⟩:=fY h;obtain⟨O,J,L⟩:=blB_ok c d;subst O;cases f with
  | list=>exact AH J L r ((bh a).v X _ c l)
  | tuple=>exact wB J L r ((bh a).v X _ c l)
  | sorted=>exact sR J L r ((bh a).v X _ c l)
 | .isi k a=>aF rfl rfl λX e c h=>by obtain⟨x,z,w,q,q',rfl,d,r,l,F,P⟩:=fZ h;exact A9 c d r P ((bh a).v X _ c F)
 | .idx a b=>aF rfl rfl λX e c h=>by obtain⟨z,y,d,r,B⟩:=ay2 h;obtain⟨o1,o2,p,e1,rfl⟩:=wV d;obtain⟨A,D,s,H,Q⟩:=an5 B;rw[one1_ok r,bO A];rw[e1]at H ⊢;exact El D (cf s) ((bh a).v X _ c H) ((bh b).v X _ c Q)
 | .dgt i b=>aF rfl rfl λX e c h=>by obtain⟨z,y,d,r,B⟩:=ay2 h;obtain⟨p,rfl⟩:=jR d;obtain⟨A,D,s,H,Q⟩:=an5 B;obtain⟨S,Z,Y,W⟩:=nmX_ok D;rw[one1_ok r,bO A];exact Em (by have:=c.units;omega) S Z Y W s (cf H) ((bh b).v X _ c Q)
 | .pop i=>aF rfl rfl λX e c h=>by obtain⟨z,y,n,d,r,l,B⟩:=ay3 h;obtain⟨p,rfl⟩:=jR d;obtain⟨A,D,s,H⟩:=an4 B;obtain⟨S,Z,Y,W⟩:=nmX_ok D;obtain⟨_,_,e3⟩:=asInt_ok l;rw[one1_ok r,bO A,e3,Daa H];exact En S Z Y W s
 | .dsp ks i=>aF rfl rfl λX e c h=>by
  obtain⟨z,w,x,d,r,l,B⟩:=ay3 h;obtain⟨p,rfl⟩:=asSub_ok d;obtain⟨p1,T⟩:=tj r;obtain⟨p2,e3⟩:=asNm_ok l;obtain⟨A,D,s,H,Q⟩:=an5 B;obtain⟨S,Z,Y,W⟩:=nmX_ok A;have hD:=oa D;rw[T,e3];refine Ep (by have:=c.units;omega) (λz=>?_) (Daa H) (Daa Q) hD S Z Y W;have:=hD.all.2.2;rw[z]at this;cases ks with
  | nil=>cases s
  | cons _ _=>cases this
 | .frz a=>aF rfl rfl λX e c h=>DU ((bh a).v X _ c h)
 | .pg i I=>aF rfl rfl λX e c h=>GO (eX c I _ h)
 | .din neg a i I=>jW (λX e M=>xc (f:=(aT t (.din neg a i I)).2) M λ_ _ _=>rfl) (λX e c h=>by
  obtain⟨x,y,p,rfl,r,l,F⟩:=eZ (o:=if neg then .nin else .inn) (f:=(aT t a).1) (g:=λN sc e=>k9 t N sc i I e) (N:=X.N) (sc:=X.env.scope) (e:=e) h;exact (sU (by have:=c.units;omega) (jM _ r) ((bh a).v X _ c l) (eX c I _ F)).1) λX e c h=>by
  obtain⟨x,y,p,rfl,r,l,F⟩:=eZ (o:=if neg then .nin else .inn) (f:=(aT t a).1) (g:=λN sc e=>k9 t N sc i I e) (N:=X.N) (sc:=X.env.scope) (e:=e) h;exact (sU (by have:=c.units;omega) (jM _ r) ((bh a).v X _ c l) (eX c I _ F)).2
 | .comp nt fr it tg ifs elt=>aF rfl rfl λX e c h=>by obtain⟨z,d,h⟩:=anyT h;have:=lh d;subst this;obtain⟨A,D,s,H,Q⟩:=an5 h;obtain⟨b1,b2,b3⟩:=an3 Q;exact AM c.calm (ij A) (jN (cf s)) (Fe it X _ _ c H) (λq=>eY (X:=dG X _ z.2.2.2.2.1 q) (fn:=false) c.calm (Daa D) (λz=>by cases z) (λ_ _ z=>z) b1) λq=>HY ifs (dG X _ z.2.2.2.2.1 q) _ _ c.comp (bh elt) b2 b3
theorem yC:∀(m:Es) X xs,Cy t C X->ik t m X.N X.env.scope xs=true->PDa X xs (hU C m)
 | .nil,X,xs,c,h=>by
  cases xs with
  | nil=>exact eD
  | cons _ _=>cases h
 | .cons a es,X,xs,c,h=>by obtain⟨z,d,h⟩:=anyT h;have:=con1_ok d;subst this;obtain⟨b,g,f⟩:=an3 h;exact bT (cf b) ((bh a).v X _ c g) (yC es X _ c f)
theorem HX:∀(m:Eo) X o,Cy t C X->A8 t m X.N X.env.scope o=true->PDo X o (sQ C m)
 | .none,X,o,c,h=>by
  cases o with
  | none=>exact wx
  | some _=>cases h
 | .some a,X,o,c,h=>by obtain⟨z,b,h⟩:=anyT h;subst b;exact wy ((bh a).v X _ c h)
theorem HY:∀(m:Eo) {b:E} X fs x,Cy t C X->EOk t C b->Ey t m X.N X.env.scope fs=true->(aT t b).1 X.N X.env.scope x=true->PDc X fs x (AK C m b)
 | .none,b,X,fs,x,c,he,h,h'=>by
  cases fs with
  | nil=>exact wC (he.v X _ c h')
  | cons _ _=>cases h
 | .some a,b,X,fs,x,c,he,h,h'=>by obtain⟨z,d,h⟩:=anyT h;have:=one1_ok d;subst this;exact AL ((bh a).t X _ c h) (he.v X _ c h')
theorem Fe:∀(m:It') X g e,Cy t C X->w8 t m X.N X.env.scope g e=true->PDi X g e (gu C m)
 | .seq a,X,g,e,c,h=>D0 ((bh a).v X _ c h)
 | .rg1 a,X,g,e,c,h=>by obtain⟨x,z,q,u,rfl,i,j,l⟩:=fY h;obtain⟨f,d,n⟩:=blB_ok c i;subst f;exact D1 d n j ((bh a).v X _ c l)
 | .rg2 a b,X,g,e,c,h=>by obtain⟨x,z,w,q,u,rfl,i,j,l,r,s⟩:=fZ h;obtain⟨f,d,n⟩:=blB_ok c i;subst f;exact D2 d n j l ((bh a).v X _ c r) ((bh b).v X _ c s)
 | .enm a,X,g,e,c,h=>by obtain⟨o,h⟩:=an2 h;obtain⟨y,k,p,rfl⟩:=eW o;obtain⟨x,z,q,u,rfl,i,j,l⟩:=fY h;obtain⟨f,d,n⟩:=blB_ok c i;subst f;exact D3 d n j ((bh a).v X _ c l)
 | .zip a b,X,g,e,c,h=>by obtain⟨o,h⟩:=an2 h;obtain⟨y,k,p,rfl⟩:=eW o;obtain⟨x,z,w,q,u,rfl,i,j,l,r,s⟩:=fZ h;obtain⟨f,d,n⟩:=blB_ok c i;subst f;exact D4 d n j l ((bh a).v X _ c r) ((bh b).v X _ c s)
end
end
end
section
def bkS(sc:Scope):ScopeKind:=if sc.kind.isAnnotationScope then .function else sc.kind
def qu(a:List Expr)(sc:Scope):List Str:=a.filterMap fun
  | .Name id pos=>if sc.names.lookup id == some .local && pos.line == (a.head?.map (·.pos.line)).getD 0 then some id else none
  | _=>none
def Fg(ts vs:List Expr)(sc:Scope):Option (Option (List Str)) :=
 if !(ts.length == 2 || ts.length == 3) || vs.length != ts.length || bkS sc != .function then some none
 else if (vs.any fun | .Starred ..=>true | _=>false) then some none
 else if (qu ts sc).length != ts.length || (qu ts sc).eraseDups.length != (qu ts sc).length then some none
 else if vs.all (foldedForSure 8) then some none
 else if vs.all (constantsAlone 8) then none
 else some (some (qu ts sc))
theorem mF(h:Fg ts vs env.scope=some r):swappedStores [.Tuple ts k p] (.Tuple vs k2 p2) env=pure r:=by
 unfold Fg at h;unfold swappedStores;split at h
 ·rename_i e;cases h;show (if (!(ts.length == 2 || ts.length == 3) || vs.length != ts.length || env.blockKind != .function)=true then _ else _)=_;rw[if_pos (show (!(ts.length == 2 || ts.length == 3) || vs.length != ts.length || env.blockKind != .function)=true from e)]
 ·rename_i e;show (if (!(ts.length == 2 || ts.length == 3) || vs.length != ts.length || env.blockKind != .function)=true then _ else _)=_;rw[if_neg (show ¬ (!(ts.length == 2 || ts.length == 3) || vs.length != ts.length || env.blockKind != .function)=true from e)];split at h
  ·rename_i b;cases h;show (if (vs.any fun | .Starred ..=>true | _=>false)=true then _ else _)=_;rw[if_pos b]
  ·rename_i b;show (if (vs.any fun | .Starred ..=>true | _=>false)=true then _ else _)=_;rw[if_neg b];split at h
   ·rename_i c;cases h;show (if ((qu ts env.scope).length != ts.length || (qu ts env.scope).eraseDups.length != (qu ts env.scope).length)=true then _ else _)=_;rw[if_pos c]
   ·rename_i c;show (if ((qu ts env.scope).length != ts.length || (qu ts env.scope).eraseDups.length != (qu ts env.scope).length)=true then _ else _)=_;rw[if_neg c];split at h
    ·rename_i a;cases h;show (if vs.all (foldedForSure 8)=true then _ else _)=_;rw[if_pos a]
    ·rename_i a;show (if vs.all (foldedForSure 8)=true then _ else _)=_;rw[if_neg a];split at h
     ·cases h
     ·rename_i d;cases h;show (if vs.all (constantsAlone 8)=true then _ else _)=_;rw[if_neg d];rfl
def yD(b e:Expr)(sc:Scope):Bool:=(bY b).any λc=>(bY e).all λa=>decide (Fg c a sc=some none)
theorem tK(h:yD tg e env.scope=true):swappedStores [tg] e env=pure none:=by
 obtain⟨i,c,b⟩:=anyT h;clear h;obtain⟨k,p,rfl⟩:=asTup_ok c;cases a:bY e with
 | some f =>obtain⟨g,d,rfl⟩:=asTup_ok a;rw[a]at b;exact mF (Daa b)
 | none=>cases e<;>first | rfl | cases a
def swC(sc:Scope)(t:Str)(pos p:Pos)(s:Scope):Bool:=bkS sc == .function && sc.names.lookup t == some .local && pos.line == p.line && !(s.names.any λ(n,k)=>n == t && (k == .local || k == .cell))
theorem tL:swapsWith (.ListComp elt gs s p) (some (.Name t pos)) l env=pure (swC env.scope t pos p s):=rfl
inductive PDx (X:Cx)(i:Nat)(st:Stmt)(de:DE):Prop | mk (te:TE) (h:PS X st (qV te (kl i))) (s:cS X.K te de)
section
variable{X:Cx}{W:Nat->Prop}{m:Nat}{C:Ct}{e:Expr}{ma:E}{pos p p1 p2 p3 pos' spos py:Pos}{x y:Str}{i:Nat}{st:Stmt}
theorem PDx.imp:PDx X i st d->(∀ρ Q,d' ρ Q->d ρ Q)->PDx X i st d'
 | ⟨te,h,s⟩,f=>⟨te,h,λb F σ H ρ τ θ a Q c R g q=>s b F σ H ρ τ θ a Q c R (f _ _ g) q⟩
theorem Ez:PDx X i st (aD C ma)->PDx X i st (aD C (.frz ma))
 | ⟨te,h,s⟩=>⟨te,h,λb F σ H ρ τ θ t Q l R ⟨y,h,q⟩ k=>by
  obtain⟨z,w,n,f,h⟩:=bn2 h;cases h;refine s b F σ H ρ τ θ (λr a=>r=z.1/\a=z.2) _ l R ⟨z,n,rfl,rfl⟩ λv o r a c d=>?_;obtain⟨g,j⟩:=d;subst g j;exact k v o _ _ (c.frz1 f) q⟩
theorem Ba{d:Tg}(r:X.N.Nodup)(s:X.N[i]?=some y)(h:X.env.scope.names.lookup y=some .local)(u:X.calm=true)(S:CompScope N nt fr X.N scope X.env.scope)(t:∀x,foldedSetIterable iter X.env x=pure x)(l:PDi X tg iter (gu C mi))(o:∀c:CC,PDg (dG X N scope c) Ff nt tg (eS d))(n:∀c:CC,PDc (dG X N scope c) ifs elt (AK C mif me))
  (f:swapsWith (.ListComp elt [⟨tg,iter,ifs,0⟩] scope pos) (some (.Name y py)) spos.line X.env=pure true):PDx X i (.Assign [.Name y py] (.ListComp elt [⟨tg,iter,ifs,0⟩] scope pos) spos) (aD C (.comp nt fr mi d mif me)):=by
 have k:PDx X i (.Assign [.Name y py] (.ListComp elt [⟨tg,iter,ifs,0⟩] scope pos) spos) (nH (gu C mi) nt fr (eS d) (AK C mif me)):=by obtain⟨v,q,j⟩:=l;obtain⟨g,b⟩:=PDg.ex (Y:=λc=>dG X N scope c) (λ_=>rfl) o;obtain⟨w,a⟩:=PDc.ex (Y:=λc=>dG X N scope c) (λ_=>rfl) n;exact⟨_,vC r s h u S q (λc=>(b c).1) (λc D=>(a c).1 D) t f,kO j (λc=>(b c).2) λc=>(a c).2⟩
 exact k.imp (nM C)
theorem tM(j:¬ W i):PDx X i st (aD C ma)->PDs X W st (ib C (.set i ma))
 | ⟨_,h,s⟩=>⟨_,h,λb F σ H ρ τ θ A D t n R ⟨y,h,q⟩ E=>by
  obtain⟨z,o,_,u,f,g,h⟩:=bn3 h;cases h;refine s b F σ H ρ τ θ (λr a=>r=z.1/\a=z.2) _ t R ⟨z,u,rfl,rfl⟩ λv w r a c d=>?_;obtain⟨k,l⟩:=d;subst k l;exact E.nx _ w _ ((c.own1 f).store n (gd_ok g) j) q⟩
end
theorem Wd.closeAt(w:Wd b H ([u].zip [y]++((v,x)::L)))(e:x.at ks=some (.hole u)):Wd b H ((v,OD.put y ks x)::L):=by
 obtain⟨S,m,B,C,o,k,g,j,l,n,f,p,i⟩:=Wd.mutC w rfl e;cases k with
 | hole h =>subst h;exact i (λ_ _=>rfl) (λc d=>by cases d) (by simpa using j) (λc d=>.inr d) λq a _=>Ow.sub f a g.one
theorem Wd.hole(w:Wd b H L):Wd b H ((u,.hole u)::L):=by obtain⟨A,d,c,a⟩:=w.out;exact⟨⟨A,Ows.cons (.hole rfl) d,c,a⟩,w.fr,w.s0,w.nt⟩
theorem Rel.fill(R:Rel b F σ H ρ (u::τ) (.rf j::θ))(h:sP i ks j u ρ ρ'):Rel b F σ H ρ' τ θ:=by obtain⟨x,y,e,d,g,l,f⟩:=h;subst f;obtain⟨m,a,c⟩:=R.drop.moved g;have k:σ[j]?=some (some u):=R.al.1;rw[k]at a;cases a;obtain⟨v,a,w⟩:=Rel.open (us:=[u]) (zs:=[y]) c rfl (by rw[aaX l];exact e);exact Rel.close (Rel.rest (us:=[u]) (zs:=[y]) c rfl) a (w.closeAt d)
theorem PDe.ex{K:Waa}{Y:CC->Cx}(f:∀c,(Y c).K=K)(h:∀c,PDe (Y c) e d):∃g:CC->TE,∀c,PE (Y c) e (g c)/\cS K (g c) d :=
 ab9 (r:=λc g=>PE (Y c) e g/\cS K g d) λc=>(by obtain⟨i,b,a⟩:=h c;exact⟨i,b,f c ▸ a⟩)
theorem Dt.sc{K:Waa}(h:Dt K H v d)(e:Aw d=true):Sc v d:=by cases h<;>first | constructor | cases e
theorem Rel.growD(R:Rel b F σ H ρ (v::(vs++[.ref D])) (.val (.fz d)::(rs++[.val (.dic ks xs)])))(f:vs.length=rs.length) :
  ∃ws,H D=some (.dK ws)/\ws.length=xs.length/\Rel b F σ (upd H D (.dK (putK ws kk v))) ρ (vs++[.ref D]) (rs++[.val (.dic (aZ kk d ks xs).1 (aZ kk d ks xs).2)]):=by
 have e:=R.drop;have h:∀y:OD,stk (vs++[.ref D]) (rs++[.val y])=stk vs rs++[(.ref D,y)]:=λy=>by rw[aH f];rfl
 have w:Wd b H ((v,.fz d)::((stk vs rs++[(.ref D,.dic ks xs)])++(flat σ ρ++ff F))):=by have:=R.wd;simp only[stk]at this;rw[h]at this;exact this
 have i:Wd b H ([v].zip [OD.fz d]++((.ref D,.dic ks xs)::(stk vs rs++(flat σ ρ++ff F)))):=w.perm (by
  refine List.Perm.cons _ ?_;rw[aac];exact aaw)
 obtain⟨a,ws,p,o,c,g,j⟩:=i.mutD (ks:=[]) rfl rfl;cases p;subst c;refine⟨ws,o,g,e.wf,?_,e.wff,?_⟩
 ·obtain⟨n,_⟩:=(aY f).mp e.al;exact (aY f).mpr ⟨n,trivial⟩
 ·rw[h];refine (j (putK ws kk v) _ _ (nN (d:=d) g) λS H A C q k m l=>kZ k m l).perm ?_;rw[aac];exact aaw.symm
section
variable{X:Cx}{W:Nat->Prop}{C:Ct}{y:Str}{i nt:Nat}{fr:List Nat}{N:List Str}{scope:Scope}{kx vx iter tg:Expr}{pos py spos:Pos}{mi:It'}{mt:Tg}{mk' mv':E}
theorem tN(step:List Key × List OD->PyData->DEnv->Option ((List Key × List OD) × DEnv))(ds:List PyData)(w:(List Key × List OD) × DEnv)(k:Nat)(a:ds[k]?=some d)(h:dU step (ds.drop k) out ρ=some w):∃z,step out d ρ=some z/\dU step (ds.drop (k + 1)) z.1 z.2=some w:=by
 have b:=(aao.mp a).1;have e:ds.drop k=d::ds.drop (k + 1):=by rw[abq b,(aao.mp a).2]
 rw[e]at h;exact bnd h
theorem xf{K:Waa}{j g:TE}(t:cS K j (aD C mk'))(B:cS K g (aD C mv')):Dn (λz:List Key × List OD=>.dic z.1 z.2) (λz=>z.2.length) K (vL j g) (λo ρ Q=>∃w,dAct C mk' mv' o ρ=some w/\Q w.1 w.2):=by
 intro b F l H ρ vs rs D a Qd Q k Z v R h q;obtain⟨w,h,I⟩:=h;obtain⟨x,y,n,kk,T,e1,G,L,p,A,h⟩:=bn5 h;cases h;refine t b F l H ρ _ _ (λr c=>r=x.1/\c=x.2) _ k R ⟨x,e1,rfl,rfl⟩ λM u r m P d=>?_;obtain⟨rfl,rfl⟩:=d;refine B b F l u _ _ _ (λr c=>r=y.1/\c=y.2) _ k P ⟨y,G,rfl,rfl⟩ λv2 H2 r Y f d=>?_;obtain⟨rfl,rfl⟩:=d;have O:=f.dt2 L;have e:M=kV kk:=by cases n<;>cases p<;>cases O<;>rfl
 subst e;obtain⟨S,U,hl,J⟩:=Rel.growD (kk:=kk) (Rel.drop2 (f.frz1 A)) Z;have s:a.2.length < 1000000:=v;exact⟨_,⟨S,kk,U,rfl,aay (by omega) (by decide:1000001<=sizeLine),rfl⟩,q _ _ _ J (by
  show (aZ kk T.1 a.1 a.2).2.length<=a.2.length + 1;unfold aZ;split
  ·rw[acw];omega
  ·rw[aai];exact aah _) I⟩
theorem EA(hw:¬ W i)(hN:X.N.Nodup)(hy:X.N[i]?=some y)(T:X.env.scope.names.lookup y=some .local)(hc:X.calm=true)(S:CompScope N nt fr X.N scope X.env.scope)(hs:∀x,foldedSetIterable iter X.env x=pure x)
  (G:swapsWith (.DictComp kx vx [⟨tg,iter,[],0⟩] scope pos) (some (.Name y py)) spos.line X.env=pure true) (r:∀c:CC,(dG X N scope c).A.units + 1 < cLine) (v:PDi X tg iter (gu C mi)) (hg:∀c:CC,PDg (dG X N scope c) Ff nt tg (eS mt)) (hk:∀c:CC,PDe (dG X N scope c) kx (aD C mk')) (P:∀c:CC,PDe (dG X N scope c) vx (aD C mv')):PDs X W (.Assign [.Name y py] (.DictComp kx vx [⟨tg,iter,[],0⟩] scope pos) spos) (ib C (.sdc i nt fr mi mt mk' mv')):=by
 obtain⟨wi,h1,s1⟩:=v;obtain⟨g,p⟩:=PDg.ex (Y:=λc=>dG X N scope c) (λ_=>rfl) hg;obtain⟨tk,m⟩:=PDe.ex (Y:=λc=>dG X N scope c) (λ_=>rfl) hk;obtain⟨tv,l⟩:=PDe.ex (Y:=λc=>dG X N scope c) (λ_=>rfl) P;refine⟨_,rR hN hy T hc S h1 (λc=>(p c).1) (λc D=>lY (r c) (m c).1 (l c).1) hs G,λb F M H s τ θ Dd D L n R ⟨z,h,q⟩ E=>?_⟩;obtain⟨w,_,ca,o,_,e1,hz,e2,e3,v,h⟩:=bn5 h;cases h;refine s1 b F M H s τ θ (λO e=>O=w.1/\e=w.2) _ L R ⟨w,e1,rfl,rfl⟩ λJ I O j vs rs B nr R1 it hZ=>?_;obtain⟨rfl,rfl⟩:=hZ;refine kN (Q:=λx I=>D.nx (M.set i (some x)) I) (a0:=([],[])) (Iv:=λk a s=>dU (g9 C mt mk' mv') (w.1.drop k) a s=some o) (λw h=>w.newDic h) rfl (λc=>(p c).2) (λc=>xf (m c).2 (l c).2) L B nr R1 it (gd_ok hz) e2 e3 (λk d a s hd f=>by
  obtain⟨u,r,t⟩:=tN _ _ _ k hd f;obtain⟨j,U,r⟩:=bnd r;exact⟨j,U,u,r,t⟩) λH' D' a e Z f=>by
  have f:dU (g9 C mt mk' mv') (w.1.drop w.1.length) a e=some o:=f;rw[aca]at f;cases f;exact E.nx _ _ _ (Rel.store (Rel.drops (Rel.tor Z B) B) n (gd_ok v) hw) q
end
end
section
section
variable(t:Tb)
end
section
variable{t:Tb}{C:Ct}
end
def qw(e:PySem.Stmt):Option (Expr):=if h:e.ctorIdx=24 then some (@PySem.Stmt.Expr.elim (λ_=>Expr) e h λx _=>x) else none
theorem jX(h:qw e=some z):∃p,e=.Expr z p:=by
 by_cases a:e.ctorIdx=24
 ·revert h;exact @PySem.Stmt.Expr.elim (λe=>qw e=some z->∃p,e=.Expr z p) e a λx p h=>by cases h;exact⟨p,rfl⟩
 ·rw[qw,dif_neg a]at h;cases h
def xg(e:PySem.Stmt):Option (List Expr × Expr):=if h:e.ctorIdx=5 then some (@PySem.Stmt.Assign.elim (λ_=>List Expr × Expr) e h λa x _=>(a,x)) else none
theorem asAs_ok(h:xg e=some z):∃p,e=.Assign z.1 z.2 p:=by
 by_cases a:e.ctorIdx=5
 ·revert h;exact @PySem.Stmt.Assign.elim (λe=>xg e=some z->∃p,e=.Assign z.1 z.2 p) e a λb x p h=>by cases h;exact⟨p,rfl⟩
 ·rw[xg,dif_neg a]at h;cases h
def tO(e:PySem.Stmt):Option (Expr × Operator × Expr):=if h:e.ctorIdx=7 then some (@PySem.Stmt.AugAssign.elim (λ_=>Expr × Operator × Expr) e h λt o x _=>(t,o,x)) else none
theorem oi(h:tO e=some z):∃p,e=.AugAssign z.1 z.2.1 z.2.2 p:=by
 by_cases a:e.ctorIdx=7
 ·revert h;exact @PySem.Stmt.AugAssign.elim (λe=>tO e=some z->∃p,e=.AugAssign z.1 z.2.1 z.2.2 p) e a λt o x p h=>by cases h;exact⟨p,rfl⟩
 ·rw[tO,dif_neg a]at h;cases h
def xh(e:PySem.Stmt):Option (Option Expr):=if h:e.ctorIdx=3 then some (@PySem.Stmt.Return.elim (λ_=>Option Expr) e h λo _=>o) else none
theorem xi(h:xh e=some z):∃p,e=.Return z p:=by
 by_cases a:e.ctorIdx=3
 ·revert h;exact @PySem.Stmt.Return.elim (λe=>xh e=some z->∃p,e=.Return z p) e a λo p h=>by cases h;exact⟨p,rfl⟩
 ·rw[xh,dif_neg a]at h;cases h
def xj(e:PySem.Stmt):Option (Expr × List Stmt × List Stmt):=if h:e.ctorIdx=12 then some (@PySem.Stmt.If.elim (λ_=>Expr × List Stmt × List Stmt) e h λc a b _=>(c,a,b)) else none
theorem xk(h:xj e=some z):∃p,e=.If z.1 z.2.1 z.2.2 p:=by
 by_cases d:e.ctorIdx=12
 ·revert h;exact @PySem.Stmt.If.elim (λe=>xj e=some z->∃p,e=.If z.1 z.2.1 z.2.2 p) e d λc a b p h=>by cases h;exact⟨p,rfl⟩
 ·rw[xj,dif_neg d]at h;cases h
def xl(e:PySem.Stmt):Option (Expr × List Stmt × List Stmt):=if h:e.ctorIdx=11 then some (@PySem.Stmt.While.elim (λ_=>Expr × List Stmt × List Stmt) e h λc a b _=>(c,a,b)) else none
theorem xm(h:xl e=some z):∃p,e=.While z.1 z.2.1 z.2.2 p:=by
 by_cases d:e.ctorIdx=11
 ·revert h;exact @PySem.Stmt.While.elim (λe=>xl e=some z->∃p,e=.While z.1 z.2.1 z.2.2 p) e d λc a b p h=>by cases h;exact⟨p,rfl⟩
 ·rw[xl,dif_neg d]at h;cases h
def xo(e:PySem.Stmt):Option (Expr × Expr × List Stmt × List Stmt):=if h:e.ctorIdx=9 then some (@PySem.Stmt.For.elim (λ_=>Expr × Expr × List Stmt × List Stmt) e h λg i a b _=>(g,i,a,b)) else none
theorem xp(h:xo e=some z):∃p,e=.For z.1 z.2.1 z.2.2.1 z.2.2.2 p:=by
 by_cases c:e.ctorIdx=9
 ·revert h;exact @PySem.Stmt.For.elim (λe=>xo e=some z->∃p,e=.For z.1 z.2.1 z.2.2.1 z.2.2.2 p) e c λg i a b p h=>by cases h;exact⟨p,rfl⟩
 ·rw[xo,dif_neg c]at h;cases h
def EB(s:Stmt):Bool:=decide (s.ctorIdx=27)
theorem xq(h:EB s=true):∃p,s=.Continue p:=@Stmt.Continue.elim (λs=>∃p,s=.Continue p) s (Daa h) λp=>⟨p,rfl⟩
def JI(s:Stmt):Bool:=decide (s.ctorIdx=26)
def JJ(s:Stmt):Bool:=decide (s.ctorIdx=25)
def mH(s:Stmt):Option (Expr × Expr):=(xg s).bind λz=>(cT z.1).bind λt=>some (t,z.2)
theorem dO{z}(h:mH s=some z):∃p,s=.Assign [z.1] z.2 p:=by obtain⟨c,t,a,b,h⟩:=bn2 h;cases h;obtain⟨d,e⟩:=c;obtain⟨p,rfl⟩:=asAs_ok a;have:=one1_ok b;simp only at this;subst this;exact⟨p,rfl⟩
def Bb(a:Str)(s:Stmt):Option (Str × List Expr × Pos × Pos):=(qw s).bind λe=>(wW e).bind λz=>if sEq z.2.1 a then some (z.1,z.2.2) else none
theorem oj{z}(h:Bb m0 s=some z):∃p a,s=.Expr (.Call (.Attribute (.Name z.1 p) m0 z.2.2.1) z.2.1 [] z.2.2.2) a:=by
 obtain⟨e,c,d,f,h⟩:=bn2 h;cases b:sEq c.2.1 m0 with
 | false=>rw[b]at h;cases h
 | true =>rw[b]at h;cases h;obtain⟨p,rfl⟩:=jR f;obtain⟨a,rfl⟩:=jX d;rw[bO b];exact⟨p,a,rfl⟩
def yF(s:Stmt):Option (Expr × Expr × Pos × Pos):=(qw s).bind λe=>(eE e).bind λz=>(i6 z.1).bind λa=>(cT z.2.1).bind λx=>if z.2.2.1.isEmpty && sEq a.2.1 "append" then some (a.1,x,a.2.2,z.2.2.2) else none
theorem tP{z}(h:yF s=some z):∃p,s=.Expr (.Call (.Attribute z.1 "append" z.2.2.1) [z.2.1] [] z.2.2.2) p:=by
 obtain⟨e,c,a,x,k,n,r,l,h⟩:=bn4 h;obtain⟨f,t,d,q⟩:=c;obtain⟨o,m,u⟩:=a;cases b:(d.isEmpty && sEq m "append") with
 | false=>simp only[b]at h;cases h
 | true =>
  simp only[b]at h;cases h;have i:=asAtt_ok r;have g:=one1_ok l;have j:=bO (an2 b).2;cases d with
  | cons _ _=>cases b
  | nil =>simp only at i g;subst j;subst g;subst i;obtain⟨p,rfl⟩:=jX k;exact⟨p,by rw[dN n]⟩
def cmpE:E->Bool
 | .comp _ _ _ _ _ _=>true | .frz a=>(match a with | .comp _ _ _ _ _ _=>true | _=>false) | _=>false
def setB(t:Tb)(a:Nat->Bool)(N:List Str)(sc:Scope)(i:Nat)(m:E)(x:Str)(p:Pos)(e:Expr):Bool:=jO a N sc true N.length i x && (aT t m).1 N sc e && match my e with
 | some z=>!swC sc x p z.2.2.2 z.2.2.1 || cmpE m
 | none=>!fV e
def tQ(e:PySem.Expr):Option (Str × Pos):=if h:e.ctorIdx=23 then some (@PySem.Expr.Name.elim (λ_=>Str × Pos) e h λx p=>(x,p)) else none
theorem om(h:tQ e=some z):e=.Name z.1 z.2:=by
 by_cases a:e.ctorIdx=23
 ·revert h;exact @PySem.Expr.Name.elim (λe=>tQ e=some z->e=.Name z.1 z.2) e a λx p h=>by cases h;exact rfl
 ·rw[tQ,dif_neg a]at h;cases h
section
variable(t:Tb)
mutual
def EC(d:Nat->Bool):S'->List Str->Scope->Stmt->Bool
 | .ex m=>λN sc s=>(qw s).any λe=>!fV e && (aT t m).1 N sc e
 | .set i m=>λN sc s=>(mH s).any λz=>(tQ z.1).any λx=>setB t d N sc i m x.1 x.2 z.2
 | .asg g m=>λN sc s=>(mH s).any λz=>isTup z.1 && yD z.1 z.2 sc && (aT t m).1 N sc z.2 && tE d N sc true N.length g z.1
 | .par is ms=>λN sc s=>(mH s).any λz=>(bY z.1).any λf=>(bY z.2).any λvs=>ik t ms N sc vs && decide (Fg f vs sc=some (some (qu f sc))) && (match is with
  | [i,j]=>(gq f).any λw=>(gq vs).any λ_=>(bE w.1).any λx=>(bE w.2).any λy=>decide (qu f sc=[x,y]) && decide (i≠j) && (decide (N[i]?=some x) && decide (N[j]?=some y)) && (kindB sc x .local && kindB sc y .local) && (d i && d j)
  | [i,j,k]=>(AA f).any λw=>(AA vs).any λ_=>(bE w.1).any λx=>(bE w.2.1).any λy=>(bE w.2.2).any λz=>decide (qu f sc=[x,y,z]) && (decide (i≠j) && decide (i≠k) && decide (j≠k)) && (decide (N[i]?=some x) && decide (N[j]?=some y) && decide (N[k]?=some z)) && (kindB sc x .local && kindB sc y .local && kindB sc z .local) && (d i && d j && d k)
  | _=>false)
 | .aug i o m=>λN sc s=>(tO s).any λz=>(bE z.1).any λx=>GW o z.2.1 && jO d N sc true N.length i x && (aT t m).1 N sc z.2.2
 | .agl i m=>λN sc s=>(tO s).any λz=>(bE z.1).any λx=>A6 z.2.1 && jO d N sc true N.length i x && (aT t m).1 N sc z.2.2
 | .ret m=>λN sc s=>(xh s).any λo=>o.any λe=>(aT t m).1 N sc e
 | .iff c a b=>λN sc s=>(xj s).any λz=>(aT t c).2 N sc z.1 && ip d a N sc z.2.1 && ip d b N sc z.2.2
 | .whl c b=>λN sc s=>(xl s).any λz=>(aT t c).2 N sc z.1 && ip d b N sc z.2.1 && z.2.2.isEmpty
 | .fr g it b=>λN sc s=>(xo s).any λz=>!isSet z.2.1 && w8 t it N sc z.1 z.2.1 && tE d N sc true N.length g z.1 && ip d b N sc z.2.2.1 && z.2.2.2.isEmpty
 | .cont=>λN sc s=>EB s
 | .app i m=>λN sc s=>(yF s).any λz=>(bE z.1).any λx=>qr N sc i x && (z.2.2.1.endLine == z.2.2.2.line) && !isStar z.2.1 && (aT t m).1 N sc z.2.1
 | .ext i m=>λN sc s=>(Bb "extend" s).any λz=>(cT z.2.1).any λy=>qr N sc i z.1 && (z.2.2.1.endLine == z.2.2.2.line) && !isStar y && (aT t m).1 N sc y
 | .ins i k m=>λN sc s=>(Bb "insert" s).any λz=>(gq z.2.1).any λy=>qr N sc i z.1 && (z.2.2.1.endLine == z.2.2.2.line) && (!isStar y.1 && !isStar y.2) && (aT t k).1 N sc y.1 && (aT t m).1 N sc y.2
 | .sti i k m=>λN sc s=>(mH s).any λz=>(cv z.1).any λw=>(bE w.1).any λx=>qr N sc i x && !bU w.2 && !fV z.2 && (aT t m).1 N sc z.2 && (aT t k).1 N sc w.2
 | .sdk i k m=>λN sc s=>(mH s).any λz=>(cv z.1).any λw=>(bE w.1).any λx=>qr N sc i x && !fV z.2 && (aT t m).1 N sc z.2 && (aT t k).1 N sc w.2
 | .sdc i nt fr it tg ke ve=>λN sc s=>(mH s).any λz=>(tQ z.1).any λx=>(yy z.2).any λw=>(λh=>jO d N sc true N.length i x.1 && nX h nt fr N w.2.2.2.2.2.1 sc && !isSet w.2.2.2.1 && w8 t it N sc w.2.2.1 w.2.2.2.1 && swC sc x.1 x.2 w.2.2.2.2.2.2 w.2.2.2.2.2.1 && (decide h.Nodup && w.2.2.2.2.1.isEmpty && tE (λ_=>true) h (qt w.2.2.2.2.2.1 sc) false nt tg w.2.2.1 && (aT t ke).1 h (qt w.2.2.2.2.2.1 sc) w.1 && (aT t ve).1 h (qt w.2.2.2.2.2.1 sc) w.2.1)) (AW w.2.2.1++fr.filterMap λj=>N[j]?)
def ip(a:Nat->Bool):Ss->List Str->Scope->List Stmt->Bool
 | .nil=>λN sc s=>s.isEmpty
 | .cons m ms=>λN sc s=>(k8 s).any λz=>EC a m N sc z.1 && ip a ms N sc z.2
end
end
structure Cs (t:Tb)(C:Ct)(W:Nat->Prop)(ok:Nat->Bool)(X:Cx):Prop where
 c:Cy t C X
 nd:X.N.Nodup
 fn:∀x,X.fn x=true
 pass:PassesOwn (model X.prog X.w) X.A X.env X.xe
 hw:∀i,ok i=true->¬ W i
section
variable{t:Tb}{C:Ct}
theorem ED:swappedStores [.Subscript o i p] e env=pure none:=by cases e<;>rfl
theorem oo{b:Stmt}(h:PDs X W b (Ap is (hU C ms))):PDs X W b (ib C (.par is ms)):=h.imp λD e ⟨y,h,q⟩=>by obtain⟨z,o,_,d,c,a,h⟩:=bn3 h;have a:=gd_ok a;cases h;exact⟨z,d,o.1,o.2,c,a.1,a.2,q⟩
theorem tR(c:Cs t C W ok X){z}(r:my e=some z)(s:Sto X W X.N.length i x)(a:swC X.env.scope x p z.2.2.2 z.2.2.1=true)
  (h:(aT t (.comp nt fr it tg ifs el)).1 X.N X.env.scope e=true):PDx X i (.Assign [.Name x p] e pos) (aD C (.comp nt fr it tg ifs el)):=by
 have d:X.env.scope.names.lookup x=some .local:=by unfold swC at a;have:=(an4 a).2.1;simpa using this
 obtain⟨w,j,h⟩:=anyT h;have u:=lh j;subst u;cases r;obtain⟨k,m,g,f,o⟩:=an5 h;obtain⟨l,b,n⟩:=an3 o;exact Ba c.nd s.hN d c.c.calm (ij k) (jN (cf g)) (Fe it X _ _ c.c f) (λq=>eY c.c.calm (Daa m) (λz=>by cases z) (λ_ _ z=>z) l) (λq=>HY ifs (dG X _ w.2.2.2.2.1 q) _ _ c.c.comp (bh el) b n) (by rw[tL,a])
theorem xr(c:Cs t C W ok X)(h:setB t ok X.N X.env.scope i m x p e=true):PDs X W (.Assign [.Name x p] e pos) (ib C (.set i m)):=by
 obtain⟨q,g,b⟩:=an3 h;have s:=cJ (λ_=>c.fn) c.hw q;cases f:my e with
 | none =>rw[f]at b;exact yu c.nd s (jJ (cf b)) ((bh m).v X _ c.c g)
 | some z =>
  rw[f]at b;cases d:swC X.env.scope x p z.2.2.2 z.2.2.1 with
  | false =>have u:=nT f;exact yu c.nd s (by rw[u,tL,d]) ((bh m).v X _ c.c g)
  | true =>
   have b:(!swC X.env.scope x p z.2.2.2 z.2.2.1 || cmpE m)=true:=b;rw[d]at b;have b:cmpE m=true:=b;cases m with
   | comp r k n o j l=>exact tM s.nw (tR c f s d g)
   | frz a =>
    cases a with
    | comp r k n o j l=>exact tM s.nw (Ez (tR c f s d g))
    | _=>cases b
   | _=>cases b
mutual
theorem JK{W:Nat->Prop}{ok:Nat->Bool}:∀(m:S') X s,Cs t C W ok X->EC t ok m X.N X.env.scope s=true->PDs X W s (ib C m)
 | .ex m,X,s,c,h=>by obtain⟨e,f,d⟩:=anyT h;obtain⟨p,rfl⟩:=jX f;exact GI (cf (an2 d).1) ((bh m).v X _ c.c (an2 d).2)
 | .set i m,X,s,c,h=>by obtain⟨z,x,f,A,d⟩:=ay2 h;obtain⟨p,rfl⟩:=dO f;rw[om A];exact xr c d
 | .asg g m,X,s,c,h=>by
  obtain⟨z,f,d⟩:=anyT h;obtain⟨p,rfl⟩:=dO f;obtain⟨l,r,B,D⟩:=an4 d;refine D8 ?_ (tK r) ?_ ((bh m).v X _ c.c B) (eY c.c.calm c.nd (λ_=>c.fn) c.hw D)
  ·obtain⟨_,_,_,e⟩:=eW l;rw[e];cases z.2<;>rfl
  obtain⟨_,_,_,e⟩:=eW l;rw[e];rfl
 | .par is ms,X,s,c,h=>by
  obtain⟨z,ts,vs,f,A,P,d⟩:=ay3 h;obtain⟨p,rfl⟩:=dO f;obtain⟨z1,z2⟩:=z;obtain⟨k1,p1,e1⟩:=asTup_ok A;obtain⟨k2,p2,e2⟩:=asTup_ok P;simp only at e1 e2;subst e1 e2;obtain⟨l,n,d⟩:=an3 d;have L:=Daa n
  match is,d with
  | [i,j],d =>
   obtain⟨w,u,x,y,O,M,T,Q,d⟩:=ay4 d;have S:=two2_ok O;have Z:=two2_ok M;obtain⟨w1,w2⟩:=w;obtain⟨q1,U⟩:=asNm_ok T;obtain⟨q2,Y⟩:=asNm_ok Q;simp only at S Z U Y;subst U Y;subst S Z;obtain⟨c1,c2,c3,c4,c5⟩:=an5 d;rw[Daa c1]at L;refine oo (wa (λk H=>?_) c.c.calm c.nd (Daa (an2 c3).1) (Daa (an2 c3).2) (Daa c2) (aJ (an2 c4).1) (aJ (an2 c4).2) (mF L) rfl (yC ms X _ c.c l));rcases aaa.mp H with rfl | H
   ·exact c.hw _ (an2 c5).1
   ·rw[aaF.mp H];exact c.hw _ (an2 c5).2
  | [i,j,k],d =>
   obtain⟨w,u,x,y,z,O,M,T,Q,b5,d⟩:=ay5 d;have S:=thr3_ok O;have Z:=thr3_ok M;obtain⟨w1,w2,w3⟩:=w;obtain⟨q1,U⟩:=asNm_ok T;obtain⟨q2,Y⟩:=asNm_ok Q;obtain⟨q3,e7⟩:=asNm_ok b5;simp only at S Z U Y e7;subst U Y e7;subst S Z;obtain⟨c1,c2,c3,c4,c5⟩:=an5 d;obtain⟨d1,d2,d3⟩:=an3 c2;obtain⟨d4,d5,d6⟩:=an3 c3;obtain⟨d7,d8,d9⟩:=an3 c4;obtain⟨f1,f2,f3⟩:=an3 c5;rw[Daa c1]at L;refine oo (sr (λk H=>?_) c.c.calm c.nd (Daa d4) (Daa d5) (Daa d6) (Daa d1) (Daa d2) (Daa d3) (aJ d7) (aJ d8) (aJ d9) (mF L) rfl (yC ms X _ c.c l));rcases aaa.mp H with rfl | H
   ·exact c.hw _ f1
   ·rcases aaa.mp H with rfl | H
    ·exact c.hw _ f2
    ·rw[aaF.mp H];exact c.hw _ f3
  | [],d=>exact absurd d aae
  | [_],d=>exact absurd d aae
  | _::_::_::_::_,d=>exact absurd d aae
 | .aug i o m,X,s,c,h=>by obtain⟨z,x,f,A,d⟩:=ay2 h;obtain⟨p,rfl⟩:=oi f;obtain⟨q,e⟩:=asNm_ok A;obtain⟨l,n,r⟩:=an3 d;rw[e,tz l];exact Ea c.nd (cJ (λ_=>c.fn) c.hw n) ((bh m).v X _ c.c r)
 | .agl i m,X,s,c,h=>by obtain⟨z,x,f,A,d⟩:=ay2 h;obtain⟨p,rfl⟩:=oi f;obtain⟨q,e⟩:=asNm_ok A;obtain⟨l,n,r⟩:=an3 d;rw[e,n9 l];exact Eb c.nd (cJ (λ_=>c.fn) c.hw n) ((bh m).v X _ c.c r)
 | .ret m,X,s,c,h=>by obtain⟨o,e,f,A,d⟩:=ay2 h;obtain⟨p,rfl⟩:=xi f;subst A;exact D7 ((bh m).v X _ c.c d)
 | .iff z a b,X,s,c,h=>by obtain⟨q,f,d⟩:=anyT h;obtain⟨p,rfl⟩:=xk f;obtain⟨l,n,r⟩:=an3 d;exact GJ ((bh z).t X _ c.c l) (qx a X _ c n) (qx b X _ c r)
 | .whl z b,X,s,c,h=>by
  obtain⟨q,f,d⟩:=anyT h;obtain⟨p,rfl⟩:=xm f;obtain⟨l,n,r⟩:=an3 d;obtain⟨q1,q2,q3⟩:=q;cases q3 with
  | nil=>exact wF c.pass ((bh z).t X _ c.c l) (qx b X _ c n)
  | cons _ _=>cases r
 | .fr g it b,X,s,c,h=>by
  obtain⟨q,f,d⟩:=anyT h;obtain⟨p,rfl⟩:=xp f;obtain⟨l,n,r,B,D⟩:=an5 d;obtain⟨q1,q2,q3,q4⟩:=q;cases q4 with
  | nil=>exact D9 c.pass c.c.calm (jN (cf l)) (Fe it X _ _ c.c n) (eY c.c.calm c.nd (λ_=>c.fn) c.hw r) (qx b X _ c B)
  | cons _ _=>cases D
 | .cont,X,s,c,h=>by obtain⟨p,rfl⟩:=xq h;exact AO
 | .app i m,X,s,c,h=>by obtain⟨z,x,f,A,d⟩:=ay2 h;obtain⟨p,rfl⟩:=tP f;obtain⟨q,e⟩:=asNm_ok A;obtain⟨l,n,r,B⟩:=an4 d;obtain⟨F,J,I,G⟩:=nmX_ok l;rw[e];exact Eg F J I G n (cf r) ((bh m).v X _ c.c B)
 | .ext i m,X,s,c,h=>by obtain⟨z,y,f,A,d⟩:=ay2 h;obtain⟨p,p',rfl⟩:=oj f;obtain⟨l,n,r,B⟩:=an4 d;obtain⟨F,J,I,G⟩:=nmX_ok l;rw[one1_ok A];exact Eh F J I G n (cf r) ((bh m).v X _ c.c B)
 | .ins i k m,X,s,c,h=>by obtain⟨z,y,f,A,d⟩:=ay2 h;obtain⟨p,p',rfl⟩:=oj f;obtain⟨l,n,r,B,D⟩:=an5 d;obtain⟨O,M⟩:=an2 r;obtain⟨F,J,I,G⟩:=nmX_ok l;rw[two2_ok A];exact Ei F J I G n (cf O) (cf M) ((bh k).v X _ c.c B) ((bh m).v X _ c.c D)
 | .sti i k m,X,s,c,h=>by obtain⟨z,w,x,f,A,P,d⟩:=ay3 h;obtain⟨p,rfl⟩:=dO f;obtain⟨q,e⟩:=asSub_ok A;obtain⟨q',e'⟩:=asNm_ok P;obtain⟨l,n,r,B,D⟩:=an5 d;obtain⟨F,J,I,G⟩:=nmX_ok l;rw[e,e'];exact Ej F J I G (cf n) (jJ (cf r)) ED ((bh m).v X _ c.c B) ((bh k).v X _ c.c D)
 | .sdk i k m,X,s,c,h=>by obtain⟨z,w,x,f,A,P,d⟩:=ay3 h;obtain⟨p,rfl⟩:=dO f;obtain⟨q,e⟩:=asSub_ok A;obtain⟨q',e'⟩:=asNm_ok P;obtain⟨l,n,r,B⟩:=an4 d;obtain⟨F,J,I,G⟩:=nmX_ok l;rw[e,e'];exact Ek (by have:=c.c.units;omega) F J I G (jJ (cf n)) ((bh m).v X _ c.c r) ((bh k).v X _ c.c B)
 | .sdc i nt fr it tg ke ve,X,s,c,h=>by
  obtain⟨z,x,w,f,A,P,d⟩:=ay3 h;obtain⟨p,rfl⟩:=dO f;obtain⟨k0,k1⟩:=an2 d;obtain⟨l,n,r,B,D⟩:=an5 k0;obtain⟨O,M,T,Q,b5⟩:=an5 k1;have s:=cJ (W:=W) (λ_=>c.fn) c.hw l;have hl:X.env.scope.names.lookup x.1=some .local:=by unfold swC at D;have:=(an4 D).2.1;simpa using this
  rw[om A,tI P,acb.mp M];exact EA s.nw c.nd s.hN hl c.c.calm (ij n) (jN (cf r)) (by show pure (swC X.env.scope x.1 x.2 w.2.2.2.2.2.2 w.2.2.2.2.2.1)=_;rw[D]) (λq=>by have:=(c.c.comp (q:=q) (N:=AW w.2.2.1++fr.filterMap λj=>X.N[j]?) (sc:=w.2.2.2.2.2.1)).units;omega) (Fe it X _ _ c.c B) (λq=>eY (X:=dG X _ w.2.2.2.2.2.1 q) (fn:=false) c.c.calm (Daa O) (λz=>by cases z) (λ_ _ z=>z) T) (λq=>(bh ke).v (dG X _ w.2.2.2.2.2.1 q) _ c.c.comp Q) λq=>(bh ve).v (dG X _ w.2.2.2.2.2.1 q) _ c.c.comp b5
theorem qx{W:Nat->Prop}{a:Nat->Bool}:∀(m:Ss) X s,Cs t C W a X->ip t a m X.N X.env.scope s=true->PDss X W s (kW C m)
 | .nil,X,s,c,h=>by
  cases s with
  | nil=>exact AN
  | cons _ _=>cases h
 | .cons m ms,X,s,c,h=>by obtain⟨z,d,b⟩:=anyT h;have:=con1_ok d;subst this;exact wD (JK m X _ c (an2 b).1) (qx ms X _ c (an2 b).2)
end
end
end
section
structure Df where
 name:Str
 qual:Str
 st:Stmt
 ps:List Str
 N:List Str
 fn:Fn
def Bc(N ps:List Str)(sc:Scope):Bool:=decide (sc.kind=.function) && !sc.isCoroutine && !sc.isGenerator && decide N.Nodup && decide (N.take ps.length=ps) && ps.all (λx=>wM sc x) && sc.names.all λy=>!decide (y.2=.free)
theorem xu(h:Bc N ps sc=true):FnScope N ps sc:=by unfold Bc at h;simp only[aaB,abf,abI,decide_eq_true_eq,decide_eq_false_iff_not]at h;obtain⟨⟨⟨⟨⟨⟨f,i⟩,e⟩,g⟩,a⟩,b⟩,c⟩:=h;exact⟨f,i,e,g,a,λx d=>nU (b x d),c⟩
def mJ(ios:List Bool)(i:Nat):Bool:=!decide (ios[i]?=some true)
def xw(t:Tb)(d:Df):Bool:=Bc d.N d.ps (aI d.st) && decide (d.fn.io.length=d.ps.length) && decide (d.fn.n=d.N.length) && ip t (mJ d.fn.io) d.fn.body d.N (aI d.st) (bF d.st)
structure Md (K:Waa)(mg:Str->Option Value)(t:Tb)(p:Pg)(D:Nat->Option Df):Prop where
 df:∀j d,D j=some d->p.F j=some d.fn/\xw t d=true/\∃f fd,Fun K d.name d.qual d.st f fd/\Binds K fd d.ps [] /\
  (∀nm,t.fn j=some nm->mg nm=some (.ref f)/\PySem.W.keepIn K (.ref f)=true)/\(∀c m,t.me j=some (c,m)->Cls K (aR K c)/\Meth K (aR K c) m f)/\(∀c,t.mk' j=some c->Mk K (aR K c) f/\mg c=some (.ref (aR K c)))
 all:∀j,((t.fn j).isSome || (t.me j).isSome || (t.mk' j).isSome)=true->(D j).isSome=true
 gc:∀g nm,t.gc g=some nm->∃v u,mg nm=some u/\RelV v u/\∀S H,Fz K S H v (p.gv g)
 ng:∀x,t.nog x=true->mg x=none
 fl:∀c f,t.fld c f=true->Cls K (aR K c)/\fL K (aR K c) f
section
variable{P:Program}{w:World}{K:Waa}{mg:Str->Option Value}{base:Heap}{t:Tb}{p:Pg}{D:Nat->Option Df}
theorem ll(h:∀xs Q,¬ sp xs Q):FnD P w K mg base k f fd ps sp:=by have c:∀a H Q E,¬ toSp K sp a H Q E:=λa H Q E ⟨S,xs,A,_,_,_,_,z⟩=>h _ _ z;exact⟨⟨λa H Q E z=>(c _ _ _ _ z).elim,λA b s H d e a Q E _ _ _ _ z=>(c _ _ _ _ z).elim⟩,λxs P R _ z=>(h _ _ z).elim⟩
theorem lp(h:∀xs,g xs=none):∀xs Q,¬ spC g xs Q:=λxs Q ⟨w,e,_⟩=>by rw[h]at e;cases e
theorem Md.ok(M:Md K mg t p D):∀(n:Nat),(∀(j:Nat) (d:Df),D j=some d->∀(f:Addr) (r:FuncData),Fun K d.name d.qual d.st f r->FnD P w K mg base (n + 1) f r d.ps (spC (p.call n j))) /\
  (∀(j:Nat) (d:Df),D j=some d->∀(f:Addr) (r:FuncData),Fun K d.name d.qual d.st f r->FnD P w K mg base n f r d.ps (spC (p.mak n j)))
 | 0=>⟨λj d _ f r _=>ll (lp λ_=>rfl),λj d _ f r _=>ll (lp λ_=>rfl)⟩
 | n + 1=>by
  obtain⟨v,O⟩:=Md.ok M n;refine⟨λj d L f r F=>?_,λj d L f r F=>v j d L f r F⟩;obtain⟨Y,T,_⟩:=M.df j d L;unfold xw at T;simp only[aaB,decide_eq_true_eq]at T;obtain⟨⟨⟨g1,W⟩,g3⟩,g4⟩:=T;have S:=xu g1;refine F.okD S (sX _) W (λxs Q ⟨z,e,_⟩=>?_) λG A l s H E y xs Q ⟨z,e,q⟩=>?_
  ·rw[Pg.call_succ,Y]at e;simp only at e;split at e
   ·rename_i hl;rw[hl];exact W
   ·cases e
  ·have c:Cy t (p.ct n) (jk CX0 P w K mg base d.N d.qual (aI d.st) f G A l s H E).nox:=by
    refine⟨rfl,y.units,y.gd,λk X h=>?_,λk c m h=>?_,λk c h=>?_,M.gc,M.ng,M.fl⟩
    ·obtain⟨g,a⟩:=aa6.mp (M.all k (by rw[h];rfl));obtain⟨_,_,u,b,B,C,Z,_,_⟩:=M.df k g a;exact⟨n + 1,u,b,g.ps,v k g a u b B,y,(Z X h).1,(Z X h).2,C⟩
    ·obtain⟨g,a⟩:=aa6.mp (M.all k (by rw[h];simp));obtain⟨_,_,u,b,B,C,_,q2,_⟩:=M.df k g a;exact⟨(q2 c m h).1,n + 1,u,b,g.ps,(q2 c m h).2,v k g a u b B,y,C⟩
    ·obtain⟨g,a⟩:=aa6.mp (M.all k (by rw[h];simp));obtain⟨_,_,u,b,B,C,_,_,q3⟩:=M.df k g a;exact⟨n,u,b,g.ps,(q3 c h).1,O k g a u b B,y,(q3 c h).2,C⟩
   have cs:Cs t (p.ct n) (WS d.fn.io) (mJ d.fn.io) (jk CX0 P w K mg base d.N d.qual (aI d.st) f G A l s H E).nox :=
    ⟨c,S.nd,λ_=>rfl,PassesOwn.never,λi I z=>by
     unfold mJ at I;simp only[abI,decide_eq_false_iff_not]at I;exact I z⟩
   refine⟨_,qx d.fn.body _ _ cs g4,?_⟩;rw[Pg.call_succ,Y]at e;simp only at e;split at e
   ·unfold wt at e;obtain⟨x,e1,e⟩:=bnd e;rw[g3]at e1;refine⟨x,e1,?_⟩;obtain⟨fl,ρ⟩:=x;cases fl with
    | nx =>obtain⟨U,J,e⟩:=bnd e;cases e;exact⟨U,J,q⟩
    | rt o =>obtain⟨U,J,e⟩:=bnd e;cases e;exact⟨U,J,q⟩
    | bk=>cases e
    | ct=>cases e
   ·cases e
theorem Md.law(M:Md K mg t p D)(k:D j=some d)(F:Fun K d.name d.qual d.st f fd)
  (h:∀ns:List Int,ns.length<=63->∃ys,p.call n j [.fz (.list (ns.map PyData.int))]=some (.fz (.bool true),ys)) :
  FnOk P w K mg base CX0 (n + 1) f fd d.ps (λvs H Q _=>∃(a:Addr) (ns:List Int),vs=[.ref a]/\SqL K H a (ns.map V.int)/\ns.length<=63/\∀b,Q (.bl true) b):=by
 refine ((M.ok n).1 j d k f fd F).ok.imp λvs H Q E i=>?_;obtain⟨a,ns,rfl,l,e,q⟩:=i;obtain⟨ys,m⟩:=h ns e;refine⟨λ_=>False,[.fz (.list (ns.map PyData.int))],[],λa z=>z.elim,λ_ _ _ z=>z,Ows.cons (.fz ((Fz.of0 (.lst l (DtAll.ints ns))).sub λc z=>z.elim (λz=>by cases z) id)) .nil,aaQ,_,m,λv b B _ g _ _=>?_⟩;cases g with
 | cons r _ =>
  cases r with
  | fz f=>cases f;exact q b
end
end
section
inductive Kd where | fn | me (c:Str) | ini (c:Str)
def Kd.fn?(d:Df):Kd->Option Str | .fn=>some d.name | _=>none
def Kd.me?(d:Df):Kd->Option (Str × Str) | .me c=>some (c,d.name) | _=>none
def Kd.ini?:Kd->Option Str | .ini c=>some c | _=>none
structure Pl where
 ds:List (Df × Kd)
 cs:List (Str × PyData)
 nog:List Str
 fld:List (Str × Str)
def Pl.tb(P:Pl):Tb where
 fn j:=(P.ds[j]?).bind λz=>z.2.fn? z.1
 me j:=(P.ds[j]?).bind λz=>z.2.me? z.1
 mk' j:=(P.ds[j]?).bind λz=>z.2.ini?
 gc g:=(P.cs[g]?).map (·.1)
 nog x:=P.nog.any λy=>sEq x y
 fld c f:=P.fld.any λy=>sEq c y.1 && sEq f y.2
def Pl.pg(P:Pl):Pg where
 F j:=(P.ds[j]?).map (·.1.fn)
 gv g:=((P.cs[g]?).map (·.2)).getD .none
 wf:=100000
def Pl.D(P:Pl)(j:Nat):Option Df:=(P.ds[j]?).map (·.1)
def EE(K:Waa)(a:Str->Option Value)(d:Df)(f:Addr):Kd->Prop
 | .fn=>a d.name=some (.ref f)/\PySem.W.keepIn K (.ref f)=true
 | .me c=>Cls K (aR K c)/\Meth K (aR K c) d.name f
 | .ini c=>Mk K (aR K c) f/\a c=some (.ref (aR K c))
def yG(K:Waa)(b:Str->Option Value)(z:Df × Kd):Prop:=∃f a,Fun K z.1.name z.1.qual z.1.st f a/\Binds K a z.1.ps []/\EE K b z.1 f z.2
section
variable{K:Waa}{mg:Str->Option Value}{P:Pl}
theorem mp{c d:Type}{o:Option c}{f:c->d}{b:d}(h:o.map f=some b):∃a,o=some a/\f a=b:=by
 cases o with
 | none=>cases h
 | some a=>exact⟨a,rfl,aaC h⟩
theorem Pl.md(s:(P.ds.all λz=>xw P.tb z.1)=true)(A:∀z∈P.ds,yG K mg z)(G:∀z∈P.cs,∃v u,mg z.1=some u/\RelV v u/\∀S H,Fz K S H v z.2)(t:∀x∈P.nog,mg x=none)(w:∀z∈P.fld,Cls K (aR K z.1)/\fL K (aR K z.1) z.2):Md K mg P.tb P.pg P.D where
 df j d hj:=by
  obtain⟨z,b,l⟩:=mp hj;subst l;have o:=aaI b;obtain⟨f,C,B,I,i⟩:=A z o;refine⟨by show (P.ds[j]?).map _=_;rw[b];rfl,abf.mp s z o,f,C,B,I,λp a=>?_,λc m a=>?_,λc a=>?_⟩
  ·have a:((P.ds[j]?).bind λz=>z.2.fn? z.1)=some p:=a;rw[b]at a;obtain⟨d,k⟩:=z;cases k<;>cases a;exact i
  ·have a:((P.ds[j]?).bind λz=>z.2.me? z.1)=some (c,m):=a;rw[b]at a;obtain⟨d,k⟩:=z;cases k<;>cases a;exact i
  ·have a:((P.ds[j]?).bind λz=>z.2.ini?)=some c:=a;rw[b]at a;obtain⟨d,k⟩:=z;cases k<;>cases a;exact i
 all j h:=by
  show ((P.ds[j]?).map _).isSome=true;cases e:P.ds[j]? with
  | none =>have h:((((P.ds[j]?).bind λz=>z.2.fn? z.1).isSome || ((P.ds[j]?).bind λz=>z.2.me? z.1).isSome) || ((P.ds[j]?).bind λz=>z.2.ini?).isSome)=true:=h;rw[e]at h;cases h
  | some z=>rfl
 gc g p h:=by
  obtain⟨z,b,l⟩:=mp h;subst l;obtain⟨v,u,F,q,J⟩:=G z (aaI b);have r:P.pg.gv g=z.2:=by show ((P.cs[g]?).map _).getD _=_;rw[b];rfl
  rw[r];exact⟨v,u,F,q,J⟩
 ng x h:=by obtain⟨y,n,e⟩:=aaV.mp h;rw[bO e];exact t y n
 fl c f h:=by obtain⟨y,n,e⟩:=aaV.mp h;rw[bO (an2 e).1,bO (an2 e).2];exact w y n
end
end
end L2
namespace L2
open PySem
theorem bs{a b:Type}{o:Option a}{f:a->Option b}{x:a}{r:Option b}(h:o=some x)(k:f x=r):o.bind f=r:=by rw[h];exact k
theorem JL[Decidable c](h:c):gd c=some ():=if_pos h
theorem bg{a:Type}[Decidable c]{f:Unit->Option a}{r:Option a}(h:c)(k:f ()=r):(gd c).bind f=r:=bs (JL h) k
section
variable{C:Ct}{a b c e:E}{es:Es}{ρ ρ1 ρ2 ρ3:DEnv}{x y:OR}{dx dy d:PyData}{k k1:Bool}{i j f:Nat}{n:Int}{rs:List OR}{xs ys zs:List OD}{z w:OD}{ds:List PyData}{s:S'}{ss sa sb:Ss}{fl:Fl}{r:Option (Fl × DEnv)}{rv:Option (OR × DEnv)}{rt:Option (Bool × DEnv)}{ps:List Acc}
theorem ae{o:Bo}(m:ev C a ρ=some (x,ρ1))(p:ev C b ρ1=some (y,ρ2))(l:au ρ2 x=some dx)(g:au ρ2 y=some dy)(h:uX o dx dy=some d):ev C (.bop o a b) ρ=some (.val (.fz d),ρ2):=bs m (bs p (bs l (bs g (bs h rfl))))
theorem aq{o:Co}(m:ev C a ρ=some (x,ρ1))(p:ev C b ρ1=some (y,ρ2))(l:au ρ2 x=some dx)(g:au ρ2 y=some dy)(h:qm o dx dy=some k):ev C (.cmp o a b) ρ=some (.val (.fz (.bool k)),ρ2):=bs m (bs p (bs l (bs g (bs h rfl))))
theorem aN(m:ev C a ρ=some (x,ρ1))(l:ev C b ρ1=some (y,ρ2))(g:au ρ2 y=some (.int n))(h:bo ρ2 x n=some (z,ρ3)):ev C (.ix a b) ρ=some (.val z,ρ3):=bs m (bs l (bs g (bs rfl (bs h rfl))))
theorem ah(m:evs C es ρ=some (rs,ρ1))(h:bB (C.io f) ρ1 rs=some (xs,ρ2))(l:C.call f xs=some (w,ys))(g:i5 (C.io f) rs ys ρ2=ρ3):ev C (.call f es) ρ=some (.val w,ρ3):=bs m (bs h (bs l (by rw[<- g])))
theorem xx(m:evs C es ρ=some (rs,ρ1))(h:cX ρ1 rs=some ds)(l:C.call f (ds.map OD.fz)=some (.fz d,ys))(g:Aw d=true):ev C (.callS f es) ρ=some (.val (.fz d),ρ1):=bs m (bs h (bs l (bs rfl (bg g rfl))))
theorem xy(h:ev C (.callS f es) ρ=some (.val (.fz (.bool k)),ρ1)):bf C (.callS f es) ρ=some (k,ρ1):=bs h rfl
theorem ax(l:evs C es ρ=some (rs,ρ1))(g:Nat.ble rs.length 1000000=true)(h:mapR own1 ρ1 rs=some (zs,ρ2)):ev C (.lst es) ρ=some (.val (.lst zs),ρ2):=bs l (bs h (bg (Nat.ble_eq.mp g) rfl))
theorem dW(m:evs C es ρ=some (rs,ρ1))(g:Nat.ble rs.length 1000000=true)(h:mapR own1 ρ1 rs=some (zs,ρ2))(l:mkTup zs=z):ev C (.tup es) ρ=some (.val z,ρ2):=bs m (bs h (bg (Nat.ble_eq.mp g) (by rw[<- l])))
theorem af:evs C .nil ρ=some ([],ρ):=rfl
theorem aa(g:ev C e ρ=some (x,ρ1))(h:evs C es ρ1=some (rs,ρ2)):evs C (.cons e es) ρ=some (x::rs,ρ2):=bs g (bs h rfl)
theorem cP(h:bf C c ρ=some (true,ρ1))(k:ev C a ρ1=rv):ev C (.ife c a b) ρ=rv:=bs h k
theorem dr(h:bf C c ρ=some (false,ρ1))(k:ev C b ρ1=rv):ev C (.ife c a b) ρ=rv:=bs h k
theorem aG{g:Bl}(m:evs C es ρ=some (rs,ρ1))(h:cX ρ1 rs=some ds)(l:uZ g ds=some d):ev C (.blt g es) ρ=some (.val (.fz d),ρ1):=bs m (bs h (bs l rfl))
theorem xA(h:ev C e ρ=some (x,ρ1))(g:(cN ρ1 x).bind listOf=some ds):ev C (.bnw .tuple e) ρ=some (.val (.fz (.tuple ds)),ρ1):=bs h (bs g rfl)
theorem lq{ns:List Int}(l:ev C e ρ=some (x,ρ1))(m:au ρ1 x=some (.list ds))(h:g8 ds=some ns)(g:ns.length < 64):ev C (.bnw .sorted e) ρ=some (.val (.lst ((sortI ns).map λi=>.fz (.int i))),ρ1):=bs l (bs m (bs rfl (bs h (bg g rfl))))
theorem fb{dx dy:List PyData}(m:ev C a ρ=some (x,ρ1))(o:ev C b ρ1=some (y,ρ2))(l:l7 ρ2 x=some dx)(g:l7 ρ2 y=some dy)(h:dx.length + dy.length<=1000000):ev C (.cat a b) ρ=some (.val (.lst ((dx++dy).map OD.fz)),ρ2):=bs m (bs o (bs l (bs g (bg h rfl))))
theorem ao{o:Co}(h:ev C (.cmp o a b) ρ=some (.val (.fz (.bool k)),ρ1)):bf C (.cmp o a b) ρ=some (k,ρ1):=bs h rfl
theorem bz(h:ev C (.call f es) ρ=some (.val (.fz (.bool k)),ρ1)):bf C (.call f es) ρ=some (k,ρ1):=bs h rfl
theorem GZ(h:ev C (.ix a b) ρ=some (.val (.fz (.bool k)),ρ1)):bf C (.ix a b) ρ=some (k,ρ1):=bs h rfl
theorem mK(h:bf C a ρ=some (true,ρ1))(k:bf C b ρ1=rt):bf C (.and a b) ρ=rt:=bs h k
theorem tS(h:bf C a ρ=some (false,ρ1)):bf C (.and a b) ρ=some (false,ρ1):=bs h rfl
theorem i7(h:bf C a ρ=some (true,ρ1)):bf C (.or a b) ρ=some (true,ρ1):=bs h rfl
theorem dz(h:bf C a ρ=some (false,ρ1))(k:bf C b ρ1=rt):bf C (.or a b) ρ=rt:=bs h k
theorem Bd(h:bf C a ρ=some (k,ρ1)):bf C (.not a) ρ=some (!k,ρ1):=bs h rfl
theorem mL(h:ev C a ρ=some (.val (.fz (.bool true)),ρ1))(k:ev C b ρ1=rv):ev C (.and a b) ρ=rv:=bs h (bs rfl (bs rfl k))
theorem mM(h:ev C a ρ=some (.val (.fz (.bool false)),ρ1)):ev C (.and a b) ρ=some (.val (.fz (.bool false)),ρ1):=bs h rfl
theorem tT(h:ev C a ρ=some (.val (.fz (.bool true)),ρ1)):ev C (.or a b) ρ=some (.val (.fz (.bool true)),ρ1):=bs h rfl
theorem tU(h:ev C a ρ=some (.val (.fz (.bool false)),ρ1))(k:ev C b ρ1=rv):ev C (.or a b) ρ=rv:=bs h (bs rfl (bs rfl k))
theorem EF{p:OD × List Nat × OD}(h:cA ρ i ps=some p)(g:p.2.2=.fz d):ev C (.pg i ps) ρ=some (.val (.fz d),ρ):=bs h (bs (show qK p.2.2=some d by rw[g];rfl) rfl)
variable{p:OD × List Nat × OD}{cn fl':Str}{ns ns':List Str}{xs':List OD}
theorem ab(h:bC C s ρ=some (.nx,ρ1))(k:aK C ss ρ1=r):aK C (.cons s ss) ρ=r:=bs h k
theorem ar(h:bC C s ρ=some (.rt z,ρ1)):aK C (.cons s ss) ρ=some (.rt z,ρ1):=bs h rfl
theorem G0(h:bC C s ρ=some (.ct,ρ1)):aK C (.cons s ss) ρ=some (.ct,ρ1):=bs h rfl
theorem ag(h:ev C e ρ=some (x,ρ1))(l:own1 ρ1 x=some (z,ρ2))(m:Nat.blt i ρ2.length=true)(g:ρ2.set i (some z)=ρ3):bC C (.set i e) ρ=some (.nx,ρ3):=bs h (bs l (bg (Nat.blt_eq.mp m) (by rw[<- g])))
theorem f6{is:List Nat}(h:evs C es ρ=some (rs,ρ1))(o:mapR own1 ρ1 rs=some (zs,ρ2))(g:(zs.length == is.length && is.all λi=>Nat.blt i ρ2.length)=true)(m:cZ is zs ρ2=ρ3):bC C (.par is es) ρ=some (.nx,ρ3):=bs h (bs o (bg (by rw[aaB,abf]at g;exact⟨eq_of_beq g.1,λi l=>Nat.blt_eq.mp (g.2 i l)⟩) (by rw[<- m])))
theorem aj(h:ev C e ρ=some (x,ρ1))(g:mv1 ρ1 x=some (z,ρ2)):bC C (.ret e) ρ=some (.rt z,ρ2):=bs h (bs g rfl)
theorem aE(h:bf C c ρ=some (true,ρ1))(k:aK C sa ρ1=r):bC C (.iff c sa sb) ρ=r:=bs h k
theorem s_ifF(h:bf C c ρ=some (false,ρ1))(k:aK C sb ρ1=r):bC C (.iff c sa sb) ρ=r:=bs h k
theorem bP(q:ρ[i]?.join=some (.lst ys))(h:ev C e ρ=some (x,ρ1))(m:own1 ρ1 x=some (z,ρ2))(o:ρ2[i]?.join=some (.lst xs))(g:xs.length < 1000000)(l:ρ2.set i (some (.lst (xs++[z])))=ρ3):bC C (.app i e) ρ=some (.nx,ρ3):=bs q (bs rfl (bs h (bs m (bs o (bs rfl (bg g (by rw[<- l])))))))
theorem mN(h:ev C e ρ=some (x,ρ1))(l:own1 ρ1 x=some (z,ρ2))(t:ρ2[i]?.join=some (.lst ys))(hk:ev C ke ρ2=some (y,ρ3))(m:au ρ3 y=some (.int n))(o:ρ3[i]?.join=some (.lst xs))(q:ixN xs.length n=some jj)(g:ρ3.set i (some (.lst (xs.set jj z)))=ρ4):bC C (.sti i ke e) ρ=some (.nx,ρ4):=bs h (bs l (bs t (bs rfl (bs hk (bs m (bs rfl (bs o (bs rfl (bs q (by rw[<- g]))))))))))
theorem bR(h:qo C it ρ=some (ds,ρ1))(k:bb (λd g=>(bc t (.fz d) g).bind λρ1=>aK C ss ρ1) ds ρ1=r):bC C (.fr t it ss) ρ=r:=bs h k
theorem eF(h:ev C e ρ=some (x,ρ1))(g:au ρ1 x=some (.int n))(l:-(2 ^ 62)<=n/\n < 2 ^ 62):qo C (.rg1 e) ρ=some (bL 0 n.toNat,ρ1):=bs h (bs g (bs rfl (bg l rfl)))
theorem dA(h:ev C e ρ=some (x,ρ1))(l:frz1 ρ1 x=some (d,ρ2))(g:sM d=some ds):qo C (.seq e) ρ=some (ds,ρ2):=bs h (bs l (bs g rfl))
theorem eG(h:ev C e ρ=some (x,ρ1))(g:frz1 ρ1 x=some (.list ds,ρ2)):qo C (.enm e) ρ=some (cD ds,ρ2):=bs h (bs g (bs rfl rfl))
theorem mQ(h:ev C a ρ=some (x,ρ1))(h':ev C b ρ1=some (y,ρ2))(o:frz1 ρ2 x=some (dx,ρ3))(g:frz1 ρ3 y=some (dy,ρ4))(m:sM dx=some ds)(l:sM dy=some es'):qo C (.zip a b) ρ=some (fP ds es',ρ4):=bs h (bs h' (bs o (bs g (bs m (bs l rfl)))))
theorem dB(m:qo C it ρ=some (ds,ρ1))(o:ds.length < 1000000)(l:cF ρ1 fr=some zc)(g:bW (cm C tg ifs elt) ds [] (List.replicate nt none++zc.1)=some (out,ρ'))(h:eP zc.2 fr (ρ'.drop nt)=ρ2):ev C (.comp nt fr it tg ifs elt) ρ=some (.val (.lst (out.map OD.fz)),ρ2):=bs m (bg o (bs l (bs g (by rw[<- h]))))
theorem qy(g:bc tg (.fz d) ρ=some ρ1)(m:bf C ifs ρ1=some (true,ρ2))(h:ev C elt ρ2=some (x,ρ3))(l:frz1 ρ3 x=some (dx,ρ4)):cm C tg (.some ifs) elt d ρ=some ([dx],ρ4):=bs g (bs m (bs h (bs l rfl)))
theorem qz(g:bc tg (.fz d) ρ=some ρ1)(h:bf C ifs ρ1=some (false,ρ2)):cm C tg (.some ifs) elt d ρ=some ([],ρ2):=bs g (bs h rfl)
theorem EG(g:bc tg (.fz d) ρ=some ρ1)(h:ev C elt ρ1=some (x,ρ3))(l:frz1 ρ3 x=some (dx,ρ4)):cm C tg .none elt d ρ=some ([dx],ρ4):=bs g (bs rfl (bs h (bs l rfl)))
end
theorem qA{step:PyData->DEnv->Option (Fl × DEnv)}(P:List PyData->DEnv->Prop)(h:∀d ds ρ,P (d::ds) ρ->∃b a,step d ρ=some (b,a)/\(b=.nx\/b=.ct)/\P ds a):∀{ds:List PyData} {ρ:DEnv},P ds ρ->∃a,bb step ds ρ=some (.nx,a)/\P [] a:=by
 intro ds;induction ds with
 | nil=>exact λ{ρ} c=>⟨ρ,rfl,c⟩
 | cons d ds j =>
  intro ρ c;obtain⟨b,k,m,l,g⟩:=h d ds ρ c;obtain⟨e,i,f⟩:=j g;refine⟨e,bs m ?_,f⟩;rcases l with rfl | rfl
  ·exact i
  ·exact i
theorem ai{p:Pg}(a:p.F j=some fn)(b:xs.length=fn.io.length)(h:aK (p.ct n) fn.body (fR fn.n xs)=some (.rt r,ρ))(c:ba 0 fn.io xs ρ=some ys):p.call (n + 1) j xs=some (r,ys):=by rw[Pg.call_succ,a];show (if xs.length=fn.io.length then wt (p.ct n) fn xs else none)=_;rw[if_pos b];exact bs h (bs c rfl)
theorem oq(h:k < n):ixN n (k:Int)=some k:=by unfold ixN;rw[if_pos (by omega),if_pos (by omega)];rfl
theorem cQ{a:Type}{xs:List a}{k:Nat}{x:a}(h:xs[k]?=some x):atI xs (k:Int)=some x:=bs (oq (aao.mp h).1) h
theorem gz{b:Type}{xs:List b}{i:Int}(d:0<=i)(c:i < xs.length):∃x,x∈xs/\atI xs i=some x:=by
 have e:i=(i.toNat:Int):=by omega
 have a:i.toNat < xs.length:=by omega
 refine⟨xs[i.toNat],List.getElem_mem a,?_⟩;have:=cQ (aak a);rw[<- e]at this;exact this
section
variable{ρ:DEnv}{ds:List PyData}{d:PyData}{i:Int}{xs:List OD}{x:OD}
theorem a9(h:atI ds i=some d):bo ρ (.val (.fz (.list ds))) i=some (.fz d,ρ):=by simp only[bo,itemO,h]
theorem bq(h:atI ds i=some d):bo ρ (.val (.fz (.tuple ds))) i=some (.fz d,ρ):=by simp only[bo,itemO,h]
theorem f7(h:atI xs i=some x):bo ρ (.val (.lst xs)) i=some (x,ρ):=by simp only[bo,itemO,h]
end
end L2
namespace Np
open PySem L2
def top(i:Nat):Stmt:=PySem.Challenge.pw_nearpool_k28_rows_laid_into_cells.main.body.getD i (.Pass ⟨0,0,0,0⟩)
def HZ(j:Nat):Stmt->Stmt
 | .ClassDef _ _ _ body ..=>body.getD j (.Pass ⟨0,0,0,0⟩)
 | s=>s
abbrev een:S':=.set 17 (.pop 9)
abbrev eem:Es:=.cons (.nm 8) .nil
abbrev eel:Es:=.cons (.nm 9) .nil
abbrev eek:S':=.set 3 (.lst .nil)
abbrev eej:Es:=.cons (.nm 2) .nil
abbrev eei:Es:=.cons (.nm 7) .nil
abbrev eeh:Es:=.cons (.nm 6) .nil
abbrev eeg:S':=.set 5 (.lst .nil)
abbrev eef:Es:=.cons (.nm 0) .nil
abbrev eee:Es:=.cons (.nm 3) .nil
abbrev eed:Es:=.cons (.nm 1) .nil
abbrev G1:E:=.ix (.nm 4) (.nm 9)
abbrev G2:Es:=.cons (.int 2) .nil
abbrev eea:Es:=.cons (.int 0) .nil
abbrev G3:E:=.ix (.nm 0) (.nm 2)
abbrev ed8:E:=.ix (.nm 4) (.int 0)
abbrev Be:E:=.ix (.nm 0) (.nm 11)
abbrev ed6:E:=.ix (.nm 0) (.int 1)
abbrev ed5:E:=.ix (.nm 0) (.int 2)
abbrev ed4:E:=.ix (.nm 0) (.int 0)
abbrev H9:E:=.ix (.nm 10) (.int 0)
abbrev Ia:E:=.cat (.nm 11) (.nm 9)
abbrev Ib:E:=.cat (.nm 9) (.nm 11)
abbrev ed0:Es:=.cons (.lst .nil) .nil
abbrev edz:E:=.din false (.nm 6) 4 []
abbrev Ic:E:=.din false (.nm 7) 3 []
abbrev edx:E:=.cmp .eq (.nm 0) (.nm 1)
abbrev edw:E:=.cmp .eq (.nm 7) (.nm 6)
abbrev edv:Es:=.cons (.str "stop") .nil
abbrev edu:S':=.asg (.tp [3,4]) (.nm 2)
abbrev edt:E:=.cmp .nin (.nm 9) (.nm 1)
abbrev G4:E:=.cmp .nin (.nm 0) (.nm 1)
abbrev edr:E:=.cmp .eq (.nm 10) (.nm 8)
abbrev edq:E:=.cmp .nin (.nm 8) (.nm 6)
abbrev edp:E:=.cmp .nin (.nm 5) (.nm 3)
abbrev edo:E:=.cmp .eq (.nm 6) (.int 0)
abbrev edn:Ss:=.cons (.ret (.nm 3)) .nil
abbrev edm:Ss:=.cons (.ret (.nm 5)) .nil
abbrev edl:E:=.cmp .inn (.nm 2) (.nm 1)
abbrev edk:E:=.cmp .eq (.nm 11) (.int 0)
abbrev edj:E:=.cmp .eq (.nm 13) (.nm 11)
abbrev edi:E:=.cmp .ne (.nm 4) (.lst .nil)
abbrev edh:E:=.call 0 eef
abbrev edg:E:=.call 1 eed
abbrev edf:E:=.call 0 eed
abbrev ede:Ss:=.cons (.ret (.bl false)) .nil
abbrev edd:S':=.set 3 (.bnw .sorted (.nm 3))
abbrev G5:E:=.call 20 eed
abbrev edb:E:=.blt .len eel
abbrev eda:E:=.blt .abs eej
abbrev Fh:E:=.blt .len (.cons (.nm 5) .nil)
abbrev ec8:E:=.blt .len eej
abbrev ec7:E:=.blt .len eef
abbrev ec6:E:=.blt .len eed
abbrev G6:E:=.blt .len (.cons (.nm 10) .nil)
abbrev Ie:E:=.blt .len (.cons (.nm 14) .nil)
abbrev ec3:Es:=.cons G3 .nil
abbrev Ig:E:=.bnw .list (.ix (.nm 4) (.int 1))
abbrev Ih:E:=.bnw .list ed8
abbrev ec0:E:=.ix (.ix (.nm 1) (.nm 4)) (.int 2)
abbrev ecz:Es:=.cons (.nm 6) eei
abbrev ecy:Es:=.cons (.nm 7) eeh
abbrev ecx:Es:=.cons (.nm 0) eed
abbrev ecw:Es:=.cons (.nm 2) eee
abbrev Ii:E:=.ix Be (.int 2)
abbrev Ij:E:=.ix (.ix (.nm 3) (.nm 17)) (.int 1)
abbrev Ik:E:=.ix (.ix (.nm 0) (.nm 10)) (.int 2)
abbrev Im:E:=.ix (.ix (.nm 3) (.nm 11)) (.int 1)
abbrev ecr:S':=.set 3 (.call 18 eej)
abbrev ecq:Es:=.cons (.str "tell") eeh
abbrev ecp:E:=.cat (.nm 5) (.lst eei)
abbrev eco:E:=.ix (.ix (.nm 2) (.nm 0)) (.neg (.int 1))
abbrev G7:E:=.ix (.nm 7) (.ix (.nm 10) (.neg (.int 1)))
abbrev ecl:Es:=.cons (.call 17 eef) .nil
abbrev eck:E:=.bop .mul (.int 10) ed6
abbrev ecj:Es:=.cons (.str "go") (.cons (.str "nil") .nil)
abbrev eci:E:=.bop .mul (.int 100) ed6
abbrev ech:E:=.cmp .eq ed4 (.str "go")
abbrev ecg:E:=.call 20 (.cons Be .nil)
abbrev ecf:S':=.set 3 (.bnw .sorted (.cat (.nm 3) (.nm 4)))
abbrev Io:Es:=.cons (.str "go") edv
abbrev ecd:E:=.call 8 ecx
abbrev ecb:E:=.cmp .eq ed4 (.str "set")
abbrev eca:E:=.call 28 ecx
abbrev eb9:E:=.call 16 (.cons (.nm 0) G2)
abbrev eb8:E:=.call 16 (.cons (.nm 0) (.cons (.int 3) .nil))
abbrev eb7:E:=.call 16 (.cons (.nm 0) (.cons (.int 5) .nil))
abbrev eb6:E:=.call 16 (.cons (.nm 0) (.cons (.int 4) .nil))
abbrev Ip:Es:=.cons (.nm 5) (.cons (.bnw .tuple (.nm 9)) .nil)
abbrev eb4:E:=.cmp .lt (.nm 6) ec7
abbrev eb3:E:=.cmp .lt (.nm 7) ec7
abbrev Iq:Es:=.cons (.nm 3) (.cons (.nm 5) (.cons (.nm 4) .nil))
abbrev eb1:Es:=.cons (.nm 0) (.cons (.nm 1) eej)
abbrev eb0:Es:=.cons (.nm 0) (.cons (.nm 1) eee)
abbrev Ir:E:=.bop .add edb (.int 1)
abbrev G8:E:=.bop .sub (.int 100) edb
abbrev ebx:E:=.blt .int (.cons (.cmp .ne (.nm 2) (.lst .nil)) .nil)
abbrev ebw:S':=.set 4 (.call 23 ecw)
abbrev ebv:S':=.set 2 (.call 15 ecx)
abbrev ebu:E:=.cmp .nin ec0 (.nm 9)
abbrev ebt:E:=.ix (.nm 8) (.ix Be (.neg (.int 1)))
abbrev ebs:It':=.rg1 (.bop .add ec7 (.int 1))
abbrev ebr:S':=.app 7 (.tup Ip)
abbrev ebq:E:=.cmp .eq eb6 (.int 0)
abbrev ebp:E:=.cmp .eq (.call 16 (.cons (.nm 0) (.cons (.int 24) .nil))) (.int 0)
abbrev ebo:Es:=.cons (.bop .add (.int 7100) Ie) .nil
abbrev ebn:S':=.set 7 (.call 26 Iq)
abbrev ebm:E:=.call 16 (.cons (.nm 1) (.cons ec8 .nil))
abbrev ebl:E:=.blt .min (.cons (.int 8) (.cons ec7 .nil))
abbrev ebk:E:=.cmp .ne ec7 ec6
abbrev ebj:S':=.sdc 3 2 [] (.seq (.nm 2)) (.tp [0,1]) (.nm 0) ec6
abbrev ebi:E:=.call 24 (.cons (.nm 1) (.cons (.nm 3) (.cons (.nm 2) (.cons (.int 499) .nil))))
abbrev ebh:S':=.set 5 (.call 25 (.cons (.nm 2) (.cons (.nm 3) (.cons ed8 .nil))))
abbrev Iu:E:=.comp 2 [] (.enm (.nm 1)) (.tp [0,1]) (.some G5) (.nm 0)
abbrev ebf:E:=.cmp .inn H9 (.tup ecj)
abbrev ebe:S':=.set 4 ebi
abbrev ebd:E:=.and edr ebu
abbrev Iw:Es:=.cons Ih (.cons Ig .nil)
abbrev Iy:E:=.cmp .lt (.bop .add (.bop .add (.nm 3) Fh) (.int 1)) (.nm 4)
abbrev eba:S':=.agl 5 (.lst (.cons (.bop .fdiv (.nm 6) (.gc 2)) (.cons (.bop .mod (.nm 6) (.gc 2)) .nil)))
abbrev ea9:E:=.blt .int (.cons (.cmp .eq (.bop .mod G6 (.int 2)) (.int 0)) .nil)
abbrev ea8:E:=.cmp .inn (.ix Be (.int 0)) (.tup ecj)
abbrev Iz:E:=.or edq ebq
abbrev ea6:S':=.set 5 (.call 16 (.cons (.nm 0) (.cons (.bop .add ec6 (.int 1)) .nil)))
abbrev ea5:S':=.set 2 (.frz Iu)
abbrev IA:E:=.comp 1 [9] (.rg2 (.int 50000000) (.int 50000100)) (.nm 0) (.some G4) (.nm 0)
abbrev ea3:S':=.ext 10 (.lst (.cons (.bop .fdiv (.nm 15) (.int 10000)) (.cons (.bop .mod (.nm 15) (.int 10000)) .nil)))
abbrev ea2:E:=.bop .add ebx eb6
abbrev ea1:S':=.set 9 (.call 13 (.cons (.ix (.nm 6) (.int 0)) (.cons (.ix (.nm 6) (.int 1)) (.cons (.ix (.nm 6) (.int 2)) .nil))))
abbrev IB:E:=.comp 1 [0,3] (.seq (.nm 2)) (.nm 0) .none ebm
abbrev eaz:E:=.or (.cmp .gt (.nm 11) (.nm 3)) (.and (.cmp .eq H9 (.str "nil")) (.cmp .gt (.nm 11) (.int 99)))
abbrev eay:Es:=.cons (.bl false) (.cons (.cmp .eq (.call 16 (.cons (.nm 2) G2)) (.int 0)) (.cons (.bl true) .nil))
abbrev eax:Es:=.cons (.int 7001) (.cons (.bop .add (.ix (.nm 6) (.nm 12)) (.bop .mul (.int 2) Ie)) .nil)
abbrev eaw:E:=.cmp .nin (.ix (.ix (.nm 0) (.bop .sub (.nm 6) (.int 1))) (.int 0)) (.tup Io)
abbrev eav:E:=.cmp .nin (.ix (.ix (.nm 0) (.bop .sub (.nm 11) (.int 1))) (.int 0)) (.tup Io)
abbrev eau:Es:=.cons (.ix (.nm 6) (.nm 17)) (.cons (.idx Ij Ii) .nil)
abbrev eat:Es:=.cons (.ix (.nm 6) (.nm 11)) (.cons (.idx Im Ik) .nil)
abbrev eas:S':=.set 6 (.frz IB)
abbrev ear:S':=.iff Iy (.cons (.app 5 (.gc 9)) .nil) .nil
abbrev eaq:Ss:=.cons (.agl 5 (.call 11 (.cons (.nm 0) (.cons (.nm 6) (.cons (.pg 4 [.key 6]) (.cons Fh .nil)))))) .nil
abbrev eap:E:=.cmp .eq (.call 13 (.cons (.lst .nil) (.cons (.lst .nil) (.cons (.tup (.cons (.lst .nil) ed0)) .nil)))) (.lst .nil)
abbrev eao:E:=.rep (.lst (.cons (.int 7002) .nil)) ea9
abbrev ean:S':=.set 9 (.ix (.lst (.cons Ib (.cons Ia .nil))) eb9)
abbrev eam:S':=.ins 9 (.call 16 (.cons (.nm 0) (.cons Ir .nil))) ec0
abbrev eal:E:=.or (.not (.callS 28 (.cons (.nm 9) eei))) (.cmp .ne (.nm 6) (.tup Iq))
abbrev eak:Es:=.cons Be (.cons G6 (.cons (.cmp .inn (.nm 11) (.nm 1)) (.cons (.nm 18) (.cons (.nm 16) .nil))))
abbrev eaj:Ss:=.cons (.agl 5 (.call 6 (.cons (.ix (.nm 0) (.nm 6)) (.cons Fh (.cons (.cmp .inn (.nm 6) (.nm 1)) (.cons (.dgt 3 (.nm 6)) .nil)))))) .nil
abbrev eai:E:=.sll IA .none (.some G8)
abbrev eah:S':=.set 9 (.ife Iz (.lst ecl) (.lst .nil))
abbrev eag:S':=.set 6 (.tup (.cons (.bnw .list (.nm 3)) (.cons (.bnw .list (.nm 5)) (.cons (.tup Iw) .nil))))
abbrev eaf:E:=.blt .max (.cons (.bop .sub G7 G1) (.cons (.bop .sub G1 G7) .nil))
abbrev eae:S':=.iff ecd (.cons (.agl 5 (.lst (.cons (.gc 7) (.cons (.bop .add (.nm 4) (.bop .mul (.gc 18) ec8)) .nil)))) .nil) .nil
abbrev ead:S':=.set 11 eai
abbrev eac:Ss:=.cons (.iff eb4 (.cons (.app 3 (.nm 5)) (.cons (.set 5 (.bop .add (.nm 5) (.call 21 (.cons (.nm 0) (.cons (.nm 1) eeh))))) .nil)) .nil) .nil
abbrev eab:Ss:=.cons (.set 5 (.bop .sub (.bop .add (.nm 5) (.int 2)) (.bop .mod (.nm 5) (.int 2)))) (.cons (.app 4 (.nm 5)) (.cons (.set 5 (.bop .add (.nm 5) (.bop .mul (.int 2) (.blt .len eem)))) .nil))
abbrev eaa:S':=.iff Ic (.cons (.app 5 (.call 9 (.cons (.nm 0) ecy))) (.cons (.set 6 (.bop .add (.ix (.nm 5) (.neg (.int 1))) (.bop .mul (.gc 18) (.pg 3 [.key 7])))) .nil)) .nil
def iq:Fn:=⟨[false],1,(.cons (.ret (.and ecb (.cmp .gt ed5 (.gc 1)))) .nil)⟩
def i8:Fn:=⟨[false],1,(.cons (.ret (.or ech (.cmp .eq ed4 (.str "nil")))) .nil)⟩
def gi:Fn:=⟨[false],1,(.cons (.ret (.comp 2 [] (.enm (.nm 0)) (.tp [0,1]) (.some edf) (.nm 0))) .nil)⟩
def ir:Fn:=⟨[false],1,(.cons (.ret (.comp 2 [] (.enm (.nm 0)) (.tp [0,1]) (.some edg) (.nm 0))) .nil)⟩
def jY:Fn:=⟨[false],1,(.cons (.ret (.and (.cmp .ne ed4 (.str "go")) (.cmp .ne ed4 (.str "stop")))) .nil)⟩
def bA:Fn:=⟨[false,false,false,false],4,(.cons (.iff ech (.cons (.ret (.ife (.nm 2) (.lst (.cons (.gc 4) eee)) (.lst (.cons (.bop .sub (.bop .add (.gc 13) (.nm 3)) (.nm 1)) .nil)))) .nil) .nil) (.cons (.iff (.nm 2) (.cons (.ret (.lst (.cons (.bop .add (.gc 5) ed6) eee))) .nil) .nil) (.cons (.ret (.lst (.cons (.bop .sub (.bop .add (.bop .add (.gc 14) (.bop .mul (.gc 6) ed6)) (.nm 3)) (.nm 1)) .nil))) .nil)))⟩
def aS:Fn:=⟨[false,false,false,false],7,(.cons (.set 4 ed4) (.cons (.iff (.cmp .eq (.nm 4) (.str "stop")) (.cons (.ret (.lst (.cons (.gc 15) .nil))) .nil) .nil) (.cons (.iff (.or (.cmp .eq (.nm 4) (.str "go")) (.cmp .eq (.nm 4) (.str "nil"))) (.cons (.ret (.call 5 (.cons (.nm 0) (.cons (.nm 1) ecw)))) .nil) .nil) (.cons (.iff edh (.cons (.asg (.tp [5,6]) (.nm 3)) (.cons (.ret (.lst (.cons (.bop .add (.bop .add (.gc 0) eci) (.nm 6)) (.cons (.bop .sub (.bop .add (.gc 11) (.nm 5)) (.nm 1)) .nil)))) .nil)) .nil) (.cons (.iff (.cmp .eq (.nm 4) (.str "set")) (.cons (.ret (.lst (.cons (.bop .add (.bop .add (.gc 12) eci) ed5) .nil))) .nil) .nil) (.cons (.iff (.cmp .eq (.nm 4) (.str "sum")) (.cons (.ret (.lst (.cons (.bop .add (.bop .add (.gc 16) eck) ed5) .nil))) .nil) .nil) (.cons (.iff (.cmp .eq (.nm 4) (.str "less")) (.cons (.ret (.lst (.cons (.bop .add (.bop .add (.gc 3) eck) ed5) .nil))) .nil) .nil) (.cons (.ret (.lst (.cons (.bop .add (.gc 17) ed6) .nil))) .nil))))))))⟩
def dP:Fn:=⟨[false,false,false],3,(.cons (.ret (.ife (.or (.call 0 ec3) edl) (.int 2) (.int 1))) .nil)⟩
def eI:Fn:=⟨[false,false],2,(.cons (.ret (.or (.cmp .eq (.nm 1) (.int 0)) (.call 4 (.cons (.ix (.nm 0) (.bop .sub (.nm 1) (.int 1))) .nil)))) .nil)⟩
def cK:Fn:=⟨[false,false,false],3,(.cons (.iff ecd (.cons (.aug 2 .add (.gc 8)) .nil) .nil) (.cons (.ret (.bop .sub (.bop .add (.nm 2) (.int 2)) (.bop .mod (.nm 2) (.int 2)))) .nil))⟩
def F_placed:Fn:=⟨[false,false,false],8,(.cons ebj (.cons (.set 4 (.lst .nil)) (.cons eeg (.cons (.set 6 (.int 0)) (.cons (.fr (.nm 7) ebs (.cons eaa (.cons (.iff eb3 (.cons (.app 4 (.nm 6)) (.cons (.aug 6 .add (.call 7 (.cons (.nm 0) (.cons (.nm 1) eei)))) .nil)) .nil) .nil))) (.cons (.ret (.tup (.cons (.nm 4) (.cons (.nm 5) eeh)))) .nil))))))⟩
def fc:Fn:=⟨[false,false,false,false],7,(.cons (.set 4 (.call 9 eb0)) (.cons eeg (.cons eae (.cons ear (.cons (.app 5 (.bop .add (.gc 10) ec8)) (.cons (.fr (.nm 6) (.seq (.nm 2)) (.cons eba .nil)) edm))))))⟩
def iu:Fn:=⟨[false,false,false],12,(.cons edu (.cons (.asg (.tp [5,6,7]) (.call 10 eb0)) (.cons (.set 8 ecp) (.cons (.sdc 9 1 [8,0] (.seq (.call 3 eef)) (.nm 0) (.nm 0) (.ix (.nm 1) eco)) (.cons (.fr (.tp [10,11]) (.zip (.call 2 eef) (.nm 4)) (.cons (.sdk 9 (.nm 10) (.tup eat)) .nil)) (.cons (.ret (.nm 9)) .nil))))))⟩
def fe:Fn:=⟨[false,false,false],7,(.cons (.set 3 (.call 12 eb1)) (.cons (.sdc 4 2 [] (.seq (.ix (.nm 2) (.int 0))) (.tp [0,1]) (.nm 0) (.nm 1)) (.cons eeg (.cons (.fr (.nm 6) ebs (.cons (.iff edz eaq .nil) (.cons (.iff eb4 eaj .nil) .nil))) edm))))⟩
def f9:Fn:=⟨[false,false],2,(.cons (.ret (.ife (.cmp .lt (.nm 1) ec7) (.ix (.nm 0) (.nm 1)) (.int 0))) .nil)⟩
def tV:Fn:=⟨[false,false],3,(.cons (.set 2 (.call 14 ecx)) (.cons (.ret (.lst (.cons (.bop .mul eda (.blt .int (.cons (.cmp .ge eda (.bop .pow (.int 10) (.int 18))) .nil))) (.cons (.bop .mod (.bop .mul (.bop .add (.bop .add (.bop .mod (.nm 2) (.int 2147483647)) (.bop .mul (.int 7121) (.nm 1))) (.int 43)) (.int 48271)) (.int 2147483629)) eea)))) .nil))⟩
def mS:Fn:=⟨[true,false],4,(.cons (.iff (.cmp .gt ed4 (.int 0)) (.cons (.set 2 (.bop .mod ed4 (.nm 1))) (.cons (.sti 0 (.int 0) (.bop .fdiv ed4 (.nm 1))) (.cons (.ret (.nm 2)) .nil))) .nil) (.cons (.sti 0 (.int 2) (.bop .add ed5 (.int 1))) (.cons (.set 3 (.bop .mod (.bop .mul (.bop .add ed6 (.bop .mul (.int 39373) ed5)) (.bop .add (.int 48271) ed5)) (.int 2147483647))) (.cons (.sti 0 (.int 1) (.bop .mod (.bop .add (.bop .mul (.nm 3) (.bop .add (.bop .mod (.nm 3) (.int 40009)) (.int 7))) ed5) (.int 2147483629))) (.cons (.ret (.bop .mod (.bop .fdiv (.bop .mod (.bop .mul ed6 (.bop .add (.bop .mod ed6 (.int 1009)) (.int 3))) (.int 998244353)) (.int 7)) (.nm 1))) .nil)))))⟩
def ou:Fn:=⟨[true],3,(.cons (.set 1 eb6) (.cons (.set 2 (.bop .add (.int 100) (.call 16 (.cons (.nm 0) (.cons (.int 99999900) .nil))))) (.cons (.ret (.ix (.lst (.cons (.ix (.lst (.cons (.int 100) (.cons (.int 101) (.cons (.int 12345) (.cons (.int 10000) (.cons (.int 9999) .nil)))))) eb7) (.cons (.bop .add (.int 100) (.call 16 (.cons (.nm 0) (.cons (.int 6) .nil)))) (.cons (.nm 2) (.cons (.int 99999999) .nil))))) (.nm 1))) .nil)))⟩
def F_rows:Fn:=⟨[true],11,(.cons (.set 1 (.ife (.cmp .eq (.call 16 (.cons (.nm 0) (.cons (.int 8) .nil))) (.int 0)) (.bop .add (.int 20) (.call 16 (.cons (.nm 0) (.cons (.int 41) .nil)))) (.call 16 (.cons (.nm 0) (.cons (.int 11) .nil))))) (.cons (.set 2 (.ix (.lst (.cons (.int 2) (.cons (.int 5) (.cons (.int 9) .nil)))) eb8)) (.cons eek (.cons (.fr (.nm 4) (.rg1 (.nm 1)) (.cons (.par [5,6] (.cons (.call 16 (.cons (.nm 0) (.cons (.int 10) .nil))) (.cons eb7 .nil))) (.cons (.iff (.cmp .lt (.nm 5) (.nm 2)) (.cons (.app 3 (.tup (.cons (.str "set") (.cons (.nm 6) ecl)))) (.cons (.cont) .nil)) .nil) (.cons (.set 5 (.call 16 (.cons (.nm 0) (.cons (.int 9) .nil)))) (.cons (.par [7,8] (.cons eb7 (.cons (.call 16 (.cons (.nm 0) (.cons (.bop .add (.nm 1) (.int 1)) .nil))) .nil))) (.cons (.set 9 (.blt .max (.cons (.int 0) (.cons (.blt .min (.cons (.nm 1) (.cons (.bop .sub (.bop .add (.nm 4) (.call 16 (.cons (.nm 0) (.cons (.int 7) .nil)))) (.int 2)) .nil))) .nil)))) (.cons (.set 10 (.lst (.cons (.tup (.cons (.str "set") (.cons (.nm 6) (.cons (.call 16 (.cons (.nm 0) (.cons (.int 100) .nil))) .nil)))) (.cons (.tup (.cons (.str "sum") ecz)) (.cons (.tup (.cons (.str "less") ecz)) (.cons (.tup ecq) (.cons (.tup (.cons (.str "go") eel)) .nil))))))) (.cons (.set 10 (.cat (.nm 10) (.lst (.cons (.tup (.cons (.str "nil") (.cons (.nm 6) eel))) (.cons (.tup (.cons (.str "nil") (.cons (.nm 6) eem))) (.cons (.tup ecq) (.cons (.ix (.lst (.cons (.tup (.cons (.str "go") eem)) (.cons (.tup edv) .nil))) eb9) .nil))))))) (.cons (.app 3 (.ix (.nm 10) (.nm 5))) .nil))))))))) edn))))⟩
def ow:Fn:=⟨[true,false],4,(.cons (.set 2 eb8) (.cons (.set 3 (.comp 2 [] (.enm (.nm 1)) (.tp [0,1]) (.some (.cmp .inn (.ix (.nm 1) (.int 0)) (.tup ecj))) (.nm 0))) (.cons (.ret (.comp 1 [2,0] (.seq (.nm 3)) (.nm 0) (.some (.ix (.lst eay) (.nm 1))) (.nm 0))) .nil)))⟩
def fg:Fn:=⟨[false],1,(.cons (.ret (.and ecb (.cmp .gt ed5 (.int 99)))) .nil)⟩
def jZ:Fn:=⟨[false,false,false],3,(.cons (.ret (.ife (.or (.call 20 ec3) edl) (.int 2) (.int 1))) .nil)⟩
def iw:Fn:=⟨[false,false,false],9,(.cons (.par [3,4,5] (.cons (.lst .nil) (.cons (.lst .nil) eea))) (.cons (.fr (.nm 6) ebs (.cons (.fr (.tp [7,8]) (.seq (.nm 2)) (.cons (.iff edw (.cons (.set 5 (.bop .add (.nm 5) (.bop .mul (.int 2) (.blt .int (.cons (.or edo eaw) .nil))))) eab) .nil) .nil)) eac)) (.cons (.ret (.tup (.cons (.nm 3) (.cons (.nm 4) (.cons (.nm 5) .nil))))) .nil)))⟩
def F_any_plan:Fn:=⟨[true,false],12,(.cons ea5 (.cons eek (.cons (.fr (.nm 4) (.rg1 ea2) (.cons ea6 (.cons (.iff edp (.cons (.app 3 (.nm 5)) .nil) .nil) .nil))) (.cons edd (.cons eas (.cons (.set 7 (.lst .nil)) (.cons (.fr (.tp [8,5]) (.enm (.nm 3)) (.cons eah (.cons (.fr (.tp [4,10]) (.zip (.nm 2) (.nm 6)) (.cons (.iff ebd (.cons eam .nil) .nil) .nil)) (.cons (.iff ebp (.cons ead (.cons ean .nil)) .nil) (.cons ebr .nil))))) (.cons (.ret (.tup ecy)) .nil))))))))⟩
def F_too_short:Fn:=⟨[false,false,false,false],12,(.cons (.asg (.tp [4,5,6]) (.call 22 eb1)) (.cons (.par [7,8] (.cons (.cat (.nm 4) (.lst eeh)) ed0)) (.cons (.fr (.tp [9,10]) (.enm (.nm 0)) (.cons (.iff (.and ebf edt) (.cons (.set 11 eaf) (.cons (.iff eaz (.cons (.app 8 (.nm 9)) .nil) .nil) .nil)) .nil) .nil)) (.cons (.ret (.nm 8)) .nil))))⟩
def fh:Fn:=⟨[true,false,false],5,(.cons (.set 3 (.call 19 ecx)) (.cons ebe (.cons (.whl edi (.cons ecf (.cons ebe .nil))) edn)))⟩
def ox:Fn:=⟨[false,false,false],19,(.cons edu (.cons (.asg (.tp [5,6,7]) (.call 22 eb0)) (.cons (.par [8,9,10] (.cons ecp (.cons (.bnw .list (.nm 4)) ed0))) (.cons (.fr (.nm 11) ebs (.cons (.fr (.tn 12 [13,14]) (.enm (.nm 3)) (.cons (.iff edj (.cons (.iff (.or edk eav) (.cons (.ext 10 (.lst eax)) .nil) .nil) (.cons (.ext 10 (.cat eao (.lst ebo))) (.cons (.fr (.nm 15) (.seq (.nm 14)) (.cons ea3 .nil)) .nil))) .nil) .nil)) (.cons (.iff (.cmp .lt (.nm 11) ec7) (.cons (.set 16 (.non)) (.cons (.iff ecg (.cons een (.cons (.set 16 (.tup eau)) .nil)) .nil) (.cons (.set 18 (.ife ea8 ebt (.non))) (.cons (.ext 10 (.call 27 eak)) .nil)))) .nil) .nil))) (.cons (.ret (.nm 10)) .nil)))))⟩
def aw:Fn:=⟨[false,false,false,false,false],6,(.cons (.set 5 ed4) (.cons (.iff (.isn true (.nm 4)) (.cons (.ret (.lst (.cons (.bop .add (.bop .add (.int 5000) eci) (.ix (.nm 4) (.int 1))) (.cons (.bop .sub (.bop .add (.int 5000) ed8) (.nm 1)) .nil)))) .nil) .nil) (.cons (.iff (.cmp .eq (.nm 5) (.str "go")) (.cons (.ret (.ife (.nm 2) (.lst (.cons (.int 7000) eee)) (.lst (.cons (.bop .sub (.bop .add (.int 6500) (.nm 3)) (.nm 1)) .nil)))) .nil) .nil) (.cons (.iff (.cmp .eq (.nm 5) (.str "nil")) (.cons (.ret (.ife (.nm 2) (.lst (.cons (.bop .add (.int 9000) ed6) eee)) (.lst (.cons (.bop .sub (.bop .add (.bop .add (.int 8100) (.bop .mul (.int 200) ed6)) (.nm 3)) (.nm 1)) .nil)))) .nil) .nil) (.cons (.iff (.cmp .eq (.nm 5) (.str "set")) (.cons (.ret (.lst (.cons (.bop .add (.bop .add (.int 1000) eci) ed5) .nil))) .nil) .nil) (.cons (.iff (.cmp .eq (.nm 5) (.str "stop")) (.cons (.ret (.lst eea)) .nil) .nil) (.cons (.ret (.ife (.cmp .eq (.nm 5) (.str "tell")) (.lst (.cons (.bop .add (.int 4000) ed6) .nil)) (.lst (.cons (.bop .add (.bop .add (.dsp [("sum",2000),("less",3000)] 5) eck) ed5) .nil)))) .nil)))))))⟩
def mU:Fn:=⟨[false,false],2,(.cons (.iff (.isi .seq (.nm 1)) (.cons (.iff (.or (.cmp .ne (.isi .list (.nm 0)) (.isi .list (.nm 1))) (.cmp .ne (.isi .tuple (.nm 0)) (.isi .tuple (.nm 1)))) ede .nil) (.cons (.iff ebk ede .nil) (.cons (.ret (.blt .all (.cons (.comp 2 [] (.zip (.nm 0) (.nm 1)) (.tp [0,1]) .none eca) .nil))) .nil))) .nil) (.cons (.iff (.or (.isn false (.nm 1)) (.isi .str (.nm 1))) (.cons (.ret (.and edx (.cmp .eq (.isi .str (.nm 0)) (.isi .str (.nm 1))))) .nil) .nil) (.cons (.iff (.isi .bool (.nm 1)) (.cons (.ret (.and (.isi .bool (.nm 0)) edx)) .nil) .nil) (.cons (.ret (.and (.isi .int (.nm 0)) (.and (.not (.isi .bool (.nm 0))) edx))) .nil))))⟩
def F_law:Fn:=⟨[false],10,(.cons (.fr (.nm 1) (.rg1 (.bop .add (.int 1) ebl)) (.cons ebv (.cons ecr (.cons ebw (.cons ebh (.cons eag (.cons ebn (.cons (.fr (.nm 8) (.rg1 (.int 2)) (.cons ea1 (.cons (.iff eal ede .nil) (.cons (.app 9 (.int 0)) .nil)))) .nil)))))))) (.cons (.ret eap) .nil))⟩
def iy:Df:=⟨"is_great","is_great",top 2,["row"],["row"],iq⟩
def i9:Df:=⟨"is_jump","is_jump",top 3,["row"],["row"],i8⟩
def gj:Df:=⟨"greats_of","greats_of",top 4,["rows"],["rows"],gi⟩
def iz:Df:=⟨"jumps_of","jumps_of",top 5,["rows"],["rows"],ir⟩
def oy:Df:=⟨"falls","falls",top 6,["row"],["row"],jY⟩
def fj:Df:=⟨"jump_cells","jump_cells",top 24,["row","place","long","goal"],["row","place","long","goal"],bA⟩
def gk:Df:=⟨"row_cells","row_cells",top 25,["row","place","long","goal"],["row","place","long","goal","word","begin","at"],aS⟩
def ja:Df:=⟨"size_of","size_of",top 29,["rows","longs","at"],["rows","longs","at"],dP⟩
def iA:Df:=⟨"has_over","has_over",top 30,["rows","gap"],["rows","gap"],eI⟩
def fq:Df:=⟨"first_word","first_word",top 31,["rows","gap","place"],["rows","gap","place"],cK⟩
def lr:Df:=⟨"placed","placed",top 32,["rows","longs","pools"],["rows","longs","pools","words","places","begins","place","gap"],F_placed⟩
def fu:Df:=⟨"pool_cells","pool_cells",top 34,["rows","gap","numbers","place"],["rows","gap","numbers","place","begin","cells","number"],fc⟩
def iB:Df:=⟨"goals_of","goals_of",top 35,["rows","longs","plan"],["rows","longs","plan","pools","uses","places","begins","end","spots","goals","at","use"],iu⟩
def fv:Df:=⟨"laid_cells","laid_cells",top 36,["rows","longs","plan"],["rows","longs","plan","goals","words","cells","gap"],fe⟩
def jc:Df:=⟨"_law_cell_at","_law_cell_at",top 38,["_law_script","_law_k"],["_law_script","_law_k"],f9⟩
def tW:Df:=⟨"_law_tape","_law_tape",top 39,["_law_script","_law_k"],["_law_script","_law_k","_law_cell"],tV⟩
def tX:Df:=⟨"_law_take","_law_take",top 40,["_law_tape_here","_law_many"],["_law_tape_here","_law_many","_law_found","_law_once"],mS⟩
def oz:Df:=⟨"_law_great","_law_great",top 41,["_law_tape_here"],["_law_tape_here","_law_way","_law_any_one"],ou⟩
def tY:Df:=⟨"_law_rows","_law_rows",top 42,["_law_tape_here"],["_law_tape_here","_law_many","_law_share","_law_made_rows","_law_number","_law_way","_law_r","_law_s","_law_t","_law_near","_law_some"],F_rows⟩
def oA:Df:=⟨"_law_longs","_law_longs",top 43,["_law_tape_here","_law_rows_here"],["_law_tape_here","_law_rows_here","_law_share","_law_jumps"],ow⟩
def fA:Df:=⟨"_law_is_great","_law_is_great",top 44,["_law_row"],["_law_row"],fg⟩
def tZ:Df:=⟨"_law_size","_law_size",top 45,["_law_rows_here","_law_longs_here","_law_k"],["_law_rows_here","_law_longs_here","_law_k"],jZ⟩
def iC:Df:=⟨"_law_placed","_law_placed",top 46,["_law_rows_here","_law_longs_here","_law_pools"],["_law_rows_here","_law_longs_here","_law_pools","_law_places","_law_begins","_law_place","_law_gap","_law_at","_law_numbers"],iw⟩
def iD:Df:=⟨"_law_any_plan","_law_any_plan",top 47,["_law_tape_here","_law_rows_here"],["_law_tape_here","_law_rows_here","_law_greats","_law_gaps","_law_k","_law_gap","_law_uses","_law_pools","_law_at","_law_numbers","_law_use","_law_more"],F_any_plan⟩
def gm:Df:=⟨"_law_too_short","_law_too_short",top 48,["_law_rows_here","_law_longs_here","_law_pools","_law_hop"],["_law_rows_here","_law_longs_here","_law_pools","_law_hop","_law_places","_law_begins","_law_end","_law_goals","_law_found","_law_k","_law_row","_law_far"],F_too_short⟩
def fB:Df:=⟨"_law_good_longs","_law_good_longs",top 49,["_law_tape_here","_law_rows_here","_law_pools"],["_law_tape_here","_law_rows_here","_law_pools","_law_longs_here","_law_late"],fh⟩
def oB:Df:=⟨"_law_cells","_law_cells",top 50,["_law_rows_here","_law_longs_here","_law_plan"],["_law_rows_here","_law_longs_here","_law_plan","_law_pools","_law_uses","_law_places","_law_begins","_law_end","_law_goals","_law_reads","_law_cells_here","_law_gap","_law_at","_law_own","_law_numbers","_law_number","_law_word","_law_use","_law_goal"],ox⟩
def dX:Df:=⟨"_law_row_cells","_law_row_cells",top 51,["_law_row","_law_place","_law_far","_law_goal","_law_word"],["_law_row","_law_place","_law_far","_law_goal","_law_word","_law_name"],aw⟩
def t9:Df:=⟨"_law_same","_law_same",top 52,["_law_found","_law_due"],["_law_found","_law_due"],mU⟩
def D_law:Df:=⟨"law","law",top 53,["_law_script"],["_law_script","_law_k","_law_tape_here","_law_rows_here","_law_plan","_law_longs_here","_law_handed","_law_due","_law_turn","_law_found"],F_law⟩
def pl:Pl where
 ds:=[(iy,.fn),(i9,.fn),(gj,.fn),(iz,.fn),(oy,.fn),(fj,.fn),(gk,.fn),(ja,.fn),(iA,.fn),(fq,.fn),(lr,.fn),(fu,.fn),(iB,.fn),(fv,.fn),(jc,.fn),(tW,.fn),(tX,.fn),(oz,.fn),(tY,.fn),(oA,.fn),(fA,.fn),(tZ,.fn),(iC,.fn),(iD,.fn),(gm,.fn),(fB,.fn),(oB,.fn),(dX,.fn),(t9,.fn),(D_law,.fn)]
 cs:=[("GREAT",.int 5000),("GREATEST_SMALL",.int 99),("HALF_WORD",.int 10000),("LESS",.int 3000),("LONG_GO",.int 7000),("LONG_NIL",.int 9000),("NILS_OF_ONE",.int 200),("OVER",.int 7001),("OVER_CELLS",.int 2),("PAD",.int 7002),("POOL",.int 7100),("SAME_PLACE",.int 5000),("SET",.int 1000),("SHORT_GO",.int 6500),("SHORT_NIL",.int 8100),("STOP",.int 0),("SUM",.int 2000),("TELL",.int 4000),("WORD_CELLS",.int 2)]
 nog:=["abs","all","bool","enumerate","int","isinstance","len","list","max","min","range","sorted","str","tuple","zip"]
 fld:=[]
abbrev EH:Nat:=29
theorem EI:(pl.ds.all λz=>xw pl.tb z.1)=true:=by decide +kernel
abbrev It(i:Int):OD:=.fz (.int i)
abbrev Tp(a b c:Int):OD:=.lst [It a,It b,It c]
structure TpOk (b c:Int)(n:Nat):Prop where
 b0:0<=b
 b1:b < 2147483629
 c0:0<=c
 c1:c<=n
theorem dY{i j:Int}(h:(-(2 ^ 64) < i/\i < 2 ^ 64)\/(-(2 ^ 64) < j/\j < 2 ^ 64)):uX .mul (.int i) (.int j)=some (.int (i * j)):=bs rfl (bs rfl (bs (bg h rfl) rfl))
theorem bZ{i j:Int}(h:0 < j):uX .mod (.int i) (.int j)=some (.int (i % j)):=bs rfl (bs rfl (bs (bg h rfl) rfl))
theorem oC{i j:Int}(h:0 < j/\j < 1073741824):uX .fdiv (.int i) (.int j)=some (.int (i / j)):=bs rfl (bs rfl (bs (bg h rfl) rfl))
theorem EJ{x m:Int}(a:0 < m)(h:m<=2 ^ 64):-(2 ^ 64) < x % m/\x % m < 2 ^ 64:=by have b:=abt x (show m≠0 by omega);have c:=abu x a;omega
theorem up{m a k b:Nat}(h:m<=a)(e:Nat.ble (a + k) b=true):m + k<=b:=aat (acx h k) (acy e)
theorem JM{m k b:Nat}(e:Nat.ble k b=true):m + k<=m + b:=acd (acy e) m
theorem aL{n m:Nat}{a b c many:Int}(h:TpOk b c m)(o:m<=1000000)(d:0 < many)(k:many < 1073741824):∃x l g f,pl.pg.call (n + 1) 16 [Tp a b c,It many]=some (It x,[Tp l g f,It many])/\0<=x/\x < many/\TpOk g f (m + 1):=by
 have p:=h.b0;have i:=h.b1;have q:=h.c0;have j:=h.c1;by_cases e:0 < a
 ·refine⟨a % many,a / many,b,c,?_,abt _ (by omega),abu _ d,⟨h.b0,h.b1,h.c0,by omega⟩⟩;refine ai (fn:=mS) (ρ:=[some (Tp (a / many) b c),some (It many),some (It (a % many)),none]) rfl rfl ?_ rfl;refine ar (aE (ao (aq rfl rfl rfl rfl (show some (decide (0 < a))=some true by rw[Dac e]))) ?_);refine ab (ag (ae rfl rfl rfl rfl (bZ d)) rfl rfl rfl) ?_;refine ab (mN (ae rfl rfl rfl rfl (oC ⟨d,k⟩)) rfl rfl rfl rfl rfl rfl rfl) rfl
 ·exact⟨_,a,_,c + 1,ai (fn:=mS) rfl rfl (ab (s_ifF (ao (aq rfl rfl rfl rfl (show some (decide (0 < a))=some false by rw[Dab e]))) rfl) (ab (mN rfl rfl rfl rfl rfl rfl rfl rfl) (ab (ag (ae (ae (ae rfl (ae rfl rfl rfl rfl (dY (.inl (by decide)))) rfl rfl rfl) (ae rfl rfl rfl rfl rfl) rfl rfl (dY (.inr (by omega)))) rfl rfl rfl (bZ (by decide))) rfl rfl rfl) (ab (mN (ae (ae (ae rfl (ae (ae rfl rfl rfl rfl (bZ (by decide))) rfl rfl rfl rfl) rfl rfl (dY (.inl (EJ (by decide) (by decide))))) rfl rfl rfl rfl) rfl rfl rfl (bZ (by decide))) rfl rfl rfl rfl rfl rfl rfl) (ar (aj (ae (ae (ae (ae rfl (ae (ae rfl rfl rfl rfl (bZ (by decide))) rfl rfl rfl rfl) rfl rfl (dY (.inl (EJ (by decide) (by decide))))) rfl rfl rfl (bZ (by decide))) rfl rfl rfl (oC (by decide))) rfl rfl rfl (bZ d)) rfl)))))) rfl,abt _ (by omega),abu _ d,⟨abt _ (by decide),abu _ (by decide),by omega,by omega⟩⟩
theorem Bf{n:Nat}{ns:List Int}{k:Nat}:∃x,pl.pg.call (n + 1) 14 [.fz (.list (ns.map PyData.int)),It k]=some (It x,[.fz (.list (ns.map PyData.int)),It k]):=by
 by_cases b:(k:Int) < ns.length
 ·have a:k < ns.length:=by omega
  refine⟨ns[k],ai (fn:=f9) rfl rfl (ar (aj (cP (ao (aq rfl rfl rfl rfl (k:=true) ?_)) (aN rfl rfl rfl (a9 (cQ (x:=.int ns[k]) ?_)))) rfl)) rfl⟩
  ·show some (decide ((k:Int) < ((ns.map PyData.int).length:Nat)))=some true;rw[aab,Dac b]
  ·rw[aax,aak a];rfl
 ·refine⟨0,ai (fn:=f9) rfl rfl (ar (aj (dr (ao (aq rfl rfl rfl rfl (k:=false) ?_)) rfl) rfl)) rfl⟩;show some (decide ((k:Int) < ((ns.map PyData.int).length:Nat)))=some false;rw[aab,Dab b]
theorem Bg{n:Nat}{ns:List Int}{k:Nat}(hk:k<=8):∃a b,pl.pg.call (n + 2) 15 [.fz (.list (ns.map PyData.int)),It k]=some (Tp a b 0,[.fz (.list (ns.map PyData.int)),It k])/\TpOk b 0 0:=by obtain⟨x,c⟩:=Bf (n:=n) (ns:=ns) (k:=k);refine⟨_,_,ai (fn:=tV) rfl rfl (ab (ag (ah rfl rfl c rfl) rfl rfl rfl) (ar (aj (ax (aa (ae rfl (aG (aa (aq rfl (ae rfl rfl rfl rfl rfl) rfl rfl rfl) af) rfl rfl) rfl rfl (dY (.inr ?_))) (aa (ae (ae (ae (ae (ae rfl rfl rfl rfl (bZ (by decide))) (ae rfl rfl rfl rfl (dY (.inl (by decide)))) rfl rfl rfl) rfl rfl rfl rfl) rfl rfl rfl (dY (.inr (by decide)))) rfl rfl rfl (bZ (by decide))) (aa rfl af))) rfl rfl) rfl))) rfl,abt _ (by decide),abu _ (by decide),abJ _,abJ _⟩;exact (show ∀q:Bool,-(2 ^ 64) < (if q=true then (1:Int) else 0)/\(if q=true then (1:Int) else 0) < 2 ^ 64 by decide) _
theorem j2{ks:List Int}{i:Int}(c:0<=i)(b:i < ks.length):∃k,k∈ks/\atI (ks.map It) i=some (It k):=by obtain⟨x,a,e⟩:=gz (xs:=ks.map It) c (by rw[aab];exact b);obtain⟨k,d,rfl⟩:=aau.mp a;exact⟨k,d,e⟩
theorem TpOk.up{b c:Int}{m a:Nat}(h:TpOk b c m)(d:m<=a):TpOk b c a:=⟨h.b0,h.b1,h.c0,by have:=h.c1;omega⟩
theorem oD{n m:Nat}{a b c:Int}(h:TpOk b c m)(e:m<=900000):∃k G o l,pl.pg.call (n + 2) 17 [Tp a b c]=some (It k,[Tp G o l])/\(100<=k/\k<=99999999)/\TpOk o l (m + 4):=by
 obtain⟨w,H,b1,Y,T,F,L,p⟩:=aL (n:=n) (a:=a) (many:=4) h (up (k:=0) e rfl) (by decide) (by decide);obtain⟨s,M,U,X,y,O,S,z⟩:=aL (n:=n) (a:=H) (many:=99999900) p (up (k:=1) e rfl) (by decide) (by decide);obtain⟨Z,t,b3,W,B,i,f,C⟩:=aL (n:=n) (a:=M) (many:=5) z (up (k:=2) e rfl) (by decide) (by decide);obtain⟨D,r,u,N,q,J,I,Q⟩:=aL (n:=n) (a:=t) (many:=6) C (up (k:=3) e rfl) (by decide) (by decide);obtain⟨g,A,P⟩:=j2 (ks:=[100,101,12345,10000,9999]) i f;obtain⟨k,d,v⟩:=j2 (ks:=[g,100 + D,100 + s,99999999]) F L;refine⟨k,r,u,N,ai (fn:=ou) rfl rfl (ab (ag (ah rfl rfl T rfl) rfl rfl rfl) (ab (ag (ae rfl (ah rfl rfl y rfl) rfl rfl rfl) rfl rfl rfl) (ar (aj (aN (ax (aa (aN rfl (ah rfl rfl B rfl) rfl (f7 P)) (aa (ae rfl (ah rfl rfl q rfl) rfl rfl rfl) (aa rfl (aa rfl af)))) rfl rfl) rfl rfl (f7 v)) rfl)))) rfl,?_,Q⟩;have j:100<=g/\g<=99999999:=(show ∀x∈[100,101,12345,10000,9999],(100:Int)<=x/\x<=99999999 by decide) g A;rcases aaa.mp d with rfl | d
 ·exact j
 rcases aaa.mp d with rfl | d
 ·omega
 rcases aaa.mp d with rfl | d
 ·omega
 rw[aaF.mp d];decide
inductive R where | st (r k:Int) | ot (w:Str) (xs:List Int) (h:w≠"set"/\PyData.strOk w=true)
def R.num:R->Int | .st _ k=>k | .ot _ _ _=>0
inductive Rkd:Str->List Int->Prop
 | sum (a b:Int):Rkd "sum" [a,b]
 | less (a b:Int):Rkd "less" [a,b]
 | tell (a:Int):Rkd "tell" [a]
 | go (a:Int):Rkd "go" [a]
 | nil (a b:Int):Rkd "nil" [a,b]
 | stop:Rkd "stop" []
def R.ok:R->Prop | .st r k=>(0<=r/\r<=200)/\0<=k/\k<=99999999 | .ot w xs _=>Rkd w xs
abbrev Nb(rs:List R):Prop:=∀r∈rs,r.ok
theorem Nb.snoc{rs:List R}{r:R}(h:Nb rs)(b:r.ok):Nb (rs++[r]):=λx a=>by
 rcases aan.mp a with a | a
 ·exact h x a
 ·rw[aaF.mp a];exact b
abbrev mX(a b:Int):R:=.ot "sum" [a,b] (by decide +kernel)
abbrev iE(a b:Int):R:=.ot "less" [a,b] (by decide +kernel)
abbrev dD(a:Int):R:=.ot "tell" [a] (by decide +kernel)
abbrev xB(a:Int):R:=.ot "go" [a] (by decide +kernel)
abbrev j3(a b:Int):R:=.ot "nil" [a,b] (by decide +kernel)
abbrev EK:R:=.ot "stop" [] (by decide +kernel)
def R.d:R->PyData | .st r k=>.tuple [.str "set",.int r,.int k] | .ot w xs _=>.tuple (.str w::xs.map PyData.int)
def R.jm:R->Bool | .st _ _=>false | .ot w _ _=>decide (w="go") || decide (w="nil")
def R.tg:R->Int | .st _ _=>0 | .ot _ xs _=>xs.getLastD 0
abbrev Jok(N:Int)(r:R):Prop:=r.jm=true->0<=r.tg/\r.tg<=N/\∃ys,r.d=.tuple (ys++[.int r.tg])
abbrev Jb(N:Int)(rs:List R):Prop:=∀r∈rs,Jok N r
theorem Jb.snoc{N:Int}{rs:List R}{r:R}(h:Jb N rs)(b:Jok N r):Jb N (rs++[r]):=λx a=>by
 rcases aan.mp a with a | a
 ·exact h x a
 ·rw[aaF.mp a];exact b
theorem EL{N a:Int}(c:0<=a)(b:a<=N):Jok N (xB a):=λ_=>⟨c,b,[.str "go"],rfl⟩
theorem yH{N r a:Int}(c:0<=a)(b:a<=N):Jok N (j3 r a):=λ_=>⟨c,b,[.str "nil",.int r],rfl⟩
theorem mY{N:Int}{r:R}(h:r.jm=false):Jok N r:=λz=>by rw[h]at z;cases z
abbrev Rs(rs:List R):OD:=.lst (rs.map λr=>.fz r.d)
theorem yI{rs:List R}{i:Int}(f:0<=i)(c:i < rs.length):∃r,r∈rs/\atI (rs.map λr=>OD.fz r.d) i=some (.fz r.d):=by obtain⟨x,a,e⟩:=gz (xs:=rs.map λr=>OD.fz r.d) f (by rw[aab];exact c);obtain⟨r,b,rfl⟩:=aau.mp a;exact⟨r,b,e⟩
theorem xC{ρ:DEnv}{j:Nat}{rs:List R}{i:Int}{r:R}(h:ρ[j]?.join=some (Rs rs))(e:atI (rs.map λr=>OD.fz r.d) i=some (.fz r.d)):bo ρ (.rf j) i=some (.fz r.d,ρ):=by
 obtain⟨k,b,a⟩:=bnd e;have c:itemS (Rs rs) i=some (r.d,Rs rs):=by simp only[Rs,itemS,b,a,OD.dat];rw[bx a]
 simp only[bo,h,c];rw[set_self (join_some h)]
theorem oE{rs:List R}{r:R}:Rs (rs++[r])=.lst ((rs.map λr=>OD.fz r.d)++[.fz r.d]):=by rw[Rs,aav];rfl
theorem qB{n m:Nat}{a b c many share i:Int}{rs:List R}{o4 o5 o6 o7 o8 o9 o10:Option OD}(h:TpOk b c m)(s:m<=100000)(hl:rs.length<=1000)(m0:0<=many)(m1:many<=100) :
  ∃fl C,((bc (.nm 4) (.fz (.int i)) [some (Tp a b c),some (It many),some (It share),some (Rs rs),o4,o5,o6,o7,o8,o9,o10]).bind λρ1=>aK (pl.pg.ct (n + 2)) (match F_rows.body with | .cons _ (.cons _ (.cons _ (.cons (.fr _ _ b) _)))=>b | _=>.nil) ρ1)=some (fl,C)/\(fl=.nx\/fl=.ct)/\∃(r:R) (a' b' c':Int) (p4 p5 p6 p7 p8 p9 b0:Option OD),C=[some (Tp a' b' c'),some (It many),some (It share),some (Rs (rs++[r])),p4,p5,p6,p7,p8,p9,b0]/\(r.ok/\Jok many r)/\TpOk b' c' (m + 8):=by
 obtain⟨q,U,b1,c1,e1,d1,d3,t1⟩:=aL (n:=n + 1) (a:=a) (many:=10) h (up (k:=0) s rfl) (by decide) (by decide);obtain⟨e,B,L,M,e2,F,d0,t2⟩:=aL (n:=n + 1) (a:=U) (many:=5) t1 (up (k:=1) s rfl) (by decide) (by decide);by_cases hw:q < share
 ·obtain⟨g,v,x,y,O,g0,T⟩:=oD (n:=n) (a:=B) t2 (up (k:=2) s rfl);refine⟨.ct,_,bs rfl (ab (f6 (ρ3:=[some (Tp B L M),some (It many),some (It share),some (Rs rs),some (It i),some (It q),some (It e),o7,o8,o9,o10]) (aa (ah (ρ3:=[some (Tp U b1 c1),some (It many),some (It share),some (Rs rs),some (It i),o5,o6,o7,o8,o9,o10]) rfl rfl e1 rfl) (aa (ah (ρ3:=[some (Tp B L M),some (It many),some (It share),some (Rs rs),some (It i),o5,o6,o7,o8,o9,o10]) rfl rfl e2 rfl) af)) rfl rfl rfl) (G0 (aE (ao (aq rfl rfl rfl rfl (show some (decide (q < share))=some true by rw[Dac hw]))) (ab (bP (ρ3:=[some (Tp v x y),some (It many),some (It share),some (Rs (rs++[.st e g])),some (It i),some (It q),some (It e),o7,o8,o9,o10]) (xs:=rs.map λr=>.fz r.d) rfl (dW (z:=.fz (R.st e g).d) (aa rfl (aa rfl (aa (ah (ρ3:=[some (Tp v x y),some (It many),some (It share),some (Rs rs),some (It i),some (It q),some (It e),o7,o8,o9,o10]) rfl rfl O rfl) af))) rfl rfl rfl) rfl rfl (by rw[aab];omega) (by rw[oE];rfl)) rfl)))),.inr rfl,.st e g,v,x,y,some (It i),some (It q),some (It e),o7,o8,o9,o10,rfl,⟨⟨⟨F,by omega⟩,by omega,g0.2⟩,mY rfl⟩,T.up (JM (k:=6) rfl)⟩
 ·obtain⟨p,v,x,y,O,a0,P,T⟩:=aL (n:=n + 1) (a:=B) (many:=9) t2 (up (k:=2) s rfl) (by decide) (by decide);obtain⟨j,a4,b4,c4,e4,d7,d4,t4⟩:=aL (n:=n + 1) (a:=v) (many:=5) T (up (k:=3) s rfl) (by decide) (by decide);obtain⟨o,S,b5,c5,e5,G,D,t5⟩:=aL (n:=n + 1) (a:=a4) (many:=many + 1) t4 (up (k:=4) s rfl) (by omega) (by omega);obtain⟨N,W,b6,c6,e6,d2,d6,t6⟩:=aL (n:=n + 1) (a:=S) (many:=7) t5 (up (k:=5) s rfl) (by decide) (by decide);obtain⟨t,Z,b7,c7,e7,c0,d5,t7⟩:=aL (n:=n + 1) (a:=W) (many:=100) t6 (up (k:=6) s rfl) (by decide) (by decide);obtain⟨x8,J,H,I,e8,Y,Q,t8⟩:=aL (n:=n + 1) (a:=Z) (many:=2) t7 (up (k:=7) s rfl) (by decide) (by decide);obtain⟨A,w,e9⟩:=yI (rs:=[xB o,EK]) Y Q;obtain⟨l,u⟩:∃l:Int,l=(if (if i + N - 2 < many then i + N - 2 else many) > 0 then (if i + N - 2 < many then i + N - 2 else many) else 0):=⟨_,rfl⟩
  obtain⟨r,f,X⟩:=yI (rs:=[.st e t,mX e j,iE e j,dD e,xB l,j3 e l,j3 e o,dD e,A]) a0 P;have hb:r.ok:=by
   have n8:A.ok:=by
    rcases aaa.mp w with rfl | w
    ·exact Rkd.go _
    ·rw[aaF.mp w];exact Rkd.stop
   rcases aaa.mp f with rfl | f
   ·exact⟨⟨F,by omega⟩,c0,by omega⟩
   rcases aaa.mp f with rfl | f;exact Rkd.sum _ _;rcases aaa.mp f with rfl | f;exact Rkd.less _ _;rcases aaa.mp f with rfl | f;exact Rkd.tell _;rcases aaa.mp f with rfl | f;exact Rkd.go _;rcases aaa.mp f with rfl | f;exact Rkd.nil _ _;rcases aaa.mp f with rfl | f;exact Rkd.nil _ _;rcases aaa.mp f with rfl | f;exact Rkd.tell _;rw[aaF.mp f];exact n8
  have n0:0<=l:=by rw[u];split<;>omega
  have n1:l<=many:=by rw[u];split<;>(try split)<;>omega
  have hj:Jok many r:=by
   have n8:Jok many A:=by
    rcases aaa.mp w with rfl | w
    ·exact EL G (Int.lt_add_one_iff.mp D)
    ·rw[aaF.mp w];exact mY rfl
   rcases aaa.mp f with rfl | f;exact mY rfl;rcases aaa.mp f with rfl | f;exact mY rfl;rcases aaa.mp f with rfl | f;exact mY rfl;rcases aaa.mp f with rfl | f;exact mY rfl;rcases aaa.mp f with rfl | f;exact EL n0 n1;rcases aaa.mp f with rfl | f;exact yH n0 n1;rcases aaa.mp f with rfl | f;exact yH G (Int.lt_add_one_iff.mp D);rcases aaa.mp f with rfl | f;exact mY rfl;rw[aaF.mp f];exact n8
  refine⟨.nx,_,bs rfl (ab (f6 (ρ3:=[some (Tp B L M),some (It many),some (It share),some (Rs rs),some (It i),some (It q),some (It e),o7,o8,o9,o10]) (aa (ah (ρ3:=[some (Tp U b1 c1),some (It many),some (It share),some (Rs rs),some (It i),o5,o6,o7,o8,o9,o10]) rfl rfl e1 rfl) (aa (ah (ρ3:=[some (Tp B L M),some (It many),some (It share),some (Rs rs),some (It i),o5,o6,o7,o8,o9,o10]) rfl rfl e2 rfl) af)) rfl rfl rfl) (ab (s_ifF (ao (aq rfl rfl rfl rfl (show some (decide (q < share))=some false by rw[Dab hw]))) rfl) ?_)),.inl rfl,r,J,H,I,some (It i),some (It p),some (It e),some (It j),some (It o),some (It l),some (Rs [.st e t,mX e j,iE e j,dD e,xB l,j3 e l,j3 e o,dD e,A]),rfl,⟨hb,hj⟩,t8⟩;refine ab (ag (ρ3:=[some (Tp v x y),some (It many),some (It share),some (Rs rs),some (It i),some (It p),some (It e),o7,o8,o9,o10]) (ah (ρ3:=[some (Tp v x y),some (It many),some (It share),some (Rs rs),some (It i),some (It q),some (It e),o7,o8,o9,o10]) rfl rfl O rfl) rfl rfl rfl) ?_;refine ab (f6 (ρ3:=[some (Tp S b5 c5),some (It many),some (It share),some (Rs rs),some (It i),some (It p),some (It e),some (It j),some (It o),o9,o10]) (aa (ah (ρ3:=[some (Tp a4 b4 c4),some (It many),some (It share),some (Rs rs),some (It i),some (It p),some (It e),o7,o8,o9,o10]) rfl rfl e4 rfl) (aa (ah (ρ3:=[some (Tp S b5 c5),some (It many),some (It share),some (Rs rs),some (It i),some (It p),some (It e),o7,o8,o9,o10]) rfl rfl e5 rfl) af)) rfl rfl rfl) ?_;refine ab (ag (ρ3:=[some (Tp W b6 c6),some (It many),some (It share),some (Rs rs),some (It i),some (It p),some (It e),some (It j),some (It o),some (It l),o10]) (aG (aa rfl (aa (aG (aa rfl (aa (ae (ae rfl (ah (ρ3:=[some (Tp W b6 c6),some (It many),some (It share),some (Rs rs),some (It i),some (It p),some (It e),some (It j),some (It o),o9,o10]) rfl rfl e6 rfl) rfl rfl rfl) rfl rfl rfl rfl) af)) rfl rfl) af)) rfl (show _=some (PyData.int l) by rw[u];rfl)) rfl rfl rfl) ?_;refine ab (ag (ρ3:=[some (Tp Z b7 c7),some (It many),some (It share),some (Rs rs),some (It i),some (It p),some (It e),some (It j),some (It o),some (It l),some (Rs [.st e t,mX e j,iE e j,dD e,xB l])]) (ax (zs:=[.fz (R.st e t).d,.fz (mX e j).d,.fz (iE e j).d,.fz (dD e).d,.fz (xB l).d]) (aa (dW (z:=.fz (R.st e t).d) (aa rfl (aa rfl (aa (ah (ρ3:=[some (Tp Z b7 c7),some (It many),some (It share),some (Rs rs),some (It i),some (It p),some (It e),some (It j),some (It o),some (It l),o10]) rfl rfl e7 rfl) af))) rfl rfl rfl) (aa rfl (aa rfl (aa rfl (aa rfl af))))) rfl rfl) rfl rfl rfl) ?_;refine ab (ag (ρ3:=[some (Tp J H I),some (It many),some (It share),some (Rs rs),some (It i),some (It p),some (It e),some (It j),some (It o),some (It l),some (Rs [.st e t,mX e j,iE e j,dD e,xB l,j3 e l,j3 e o,dD e,A])]) (fb rfl (ax (aa rfl (aa rfl (aa rfl (aa (aN rfl (ah (ρ3:=[some (Tp J H I),some (It many),some (It share),some (Rs rs),some (It i),some (It p),some (It e),some (It j),some (It o),some (It l),some (Rs [.st e t,mX e j,iE e j,dD e,xB l])]) rfl rfl e8 rfl) rfl (f7 e9)) af)))) rfl rfl) rfl rfl (show 9<=1000000 by decide)) rfl rfl rfl) ?_;exact ab (bP (ρ3:=[some (Tp J H I),some (It many),some (It share),some (Rs (rs++[r])),some (It i),some (It p),some (It e),some (It j),some (It o),some (It l),some (Rs [.st e t,mX e j,iE e j,dD e,xB l,j3 e l,j3 e o,dD e,A])]) (xs:=rs.map λr=>.fz r.d) rfl (aN rfl rfl rfl (xC rfl X)) rfl rfl (by rw[aab];omega) (by rw[oE];rfl)) rfl
theorem qC{lo:Int}{n:Nat}:∀d∈bL lo n,∃i,d=.int i:=λd a=>by obtain⟨i,_,rfl⟩:=aau.mp a;exact⟨_,rfl⟩
theorem qD{n m:Nat}{a b c many sh:Int}(h:TpOk b c (m + 3))(D:m<=90000)(S:0<=many)(P:many<=60):∃(rs:List R) (q o l:Int) (o4 o5 o6 o7 o8 o9 o10:Option OD),bb (λd f=>(bc (.nm 4) (.fz d) f).bind λρ1=>aK (pl.pg.ct (n + 2)) (match F_rows.body with | .cons _ (.cons _ (.cons _ (.cons (.fr _ _ b) _)))=>b | _=>.nil) ρ1) (bL 0 many.toNat) [some (Tp a b c),some (It many),some (It sh),some (Rs []),none,none,none,none,none,none,none]=some (.nx,[some (Tp q o l),some (It many),some (It sh),some (Rs rs),o4,o5,o6,o7,o8,o9,o10])/\rs.length<=60/\(Nb rs/\Jb rs.length rs)/\TpOk o l (m + 500):=by
 have p:many.toNat<=60:=by omega
 have u:many<=100:=Int.le_trans P (by decide);obtain⟨f,G,rs,O,A,H,o4,o5,o6,o7,o8,o9,o10,rfl,g,_,k,I⟩:=qA (step:=λd f=>(bc (.nm 4) (.fz d) f).bind λρ1=>aK (pl.pg.ct (n + 2)) (match F_rows.body with | .cons _ (.cons _ (.cons _ (.cons (.fr _ _ b) _)))=>b | _=>.nil) ρ1)
  (λds ρ=>∃(rs:List R) (a b c:Int) (o4 o5 o6 o7 o8 o9 o10:Option OD),ρ=[some (Tp a b c),some (It many),some (It sh),some (Rs rs),o4,o5,o6,o7,o8,o9,o10]/\rs.length + ds.length=many.toNat/\(∀d∈ds,∃i,d=.int i)/\(Nb rs/\Jb many rs)/\TpOk b c (m + 3 + 8 * rs.length)) (λd ds ρ=>by
   rintro⟨rs,a,b,c,o4,o5,o6,o7,o8,o9,o10,rfl,g,w,k,t⟩;obtain⟨i,rfl⟩:=w _ aag;have j:rs.length<=60:=aat (Nat.le.intro g) p;obtain⟨C,f,e,z,r,q,o,l,L,M,F,N,J,Q,v,rfl,x,B⟩:=qB (n:=n) (share:=sh) (i:=i) (a:=a) (o4:=o4) (o5:=o5) (o6:=o6) (o7:=o7) (o8:=o8) (o9:=o9) (o10:=o10) t (aat (Nat.add_le_add (acx D 3) (acz 8 j)) (by decide)) (aat j (by decide):rs.length<=1000) S u;have y:(rs++[r]).length=rs.length + 1:=aai;exact⟨C,_,e,z,rs++[r],q,o,l,L,M,F,N,J,Q,v,rfl,by rw[y,Nat.add_right_comm];exact g,λd s=>w d (aaj _ s),⟨k.1.snoc x.1,k.2.snoc x.2⟩,B.up (by rw[y];exact aah _)⟩)
  (ds:=bL 0 many.toNat) (ρ:=[some (Tp a b c),some (It many),some (It sh),some (Rs []),none,none,none,none,none,none,none]) ⟨[],a,b,c,none,none,none,none,none,none,none,rfl,by rw[gZ,abE,aaU],qC,⟨(λr j=>absurd j aaq),(λr j=>absurd j aaq)⟩,h⟩
 have g:rs.length=many.toNat:=g;exact⟨rs,O,A,H,o4,o5,o6,o7,o8,o9,o10,G,g ▸ p,⟨k.1,(show (rs.length:Int)=many by omega) ▸ k.2⟩,I.up (aat (acd (acz 8 (g ▸ p)) (m + 3)) (acd (show 3 + 8 * 60<=500 by decide) m))⟩
theorem Bh{n m:Nat}{a b c:Int}(h:TpOk b c m)(p:m<=90000):∃(rs:List R) (H w u:Int),pl.pg.call (n + 3) 18 [Tp a b c]=some (Rs rs,[Tp H w u])/\rs.length<=60/\(Nb rs/\Jb rs.length rs)/\TpOk w u (m + 500):=by
 have x:∀(a b c many:Int),TpOk b c (m + 2)->0<=many->many<=60->∃(rs:List R) (H w u:Int) (G:DEnv),aK (pl.pg.ct (n + 2)) (match F_rows.body with | .cons _ ss=>ss | _=>.nil) [some (Tp a b c),some (It many),none,none,none,none,none,none,none,none,none]=some (.rt (Rs rs),some (Tp H w u)::G)/\rs.length<=60/\(Nb rs/\Jb rs.length rs)/\TpOk w u (m + 500):=by intro a b c many h Q P;obtain⟨z,f,j,i,A,t,q,y⟩:=aL (n:=n + 1) (a:=a) (many:=3) h (up (k:=2) p rfl) (by decide) (by decide);obtain⟨sh,_,O⟩:=j2 (ks:=[2,5,9]) t q;obtain⟨rs,g,d,e,T,U,W,X,Y,S,N,r,l,v,s⟩:=qD (n:=n) (a:=f) (sh:=sh) y p Q P;exact⟨rs,g,d,e,_,ab (ag (ρ3:=[some (Tp f j i),some (It many),some (It sh),none,none,none,none,none,none,none,none]) (aN rfl (ah (ρ3:=[some (Tp f j i),some (It many),none,none,none,none,none,none,none,none,none]) rfl rfl A rfl) rfl (f7 O)) rfl rfl rfl) (ab (ag (ρ3:=[some (Tp f j i),some (It many),some (It sh),some (Rs []),none,none,none,none,none,none,none]) rfl rfl rfl rfl) (ab (bR (eF rfl rfl (by omega)) r) (ar (aj rfl rfl)))),l,v,s⟩
 obtain⟨z,f,j,i,A,t,q,y⟩:=aL (n:=n + 1) (a:=a) (many:=8) h (up (k:=0) p rfl) (by decide) (by decide);by_cases M:z=0
 ·obtain⟨o,g,d,e,r,J,L,s⟩:=aL (n:=n + 1) (a:=f) (many:=41) y (up (k:=1) p rfl) (by decide) (by decide);obtain⟨rs,B,I,C,G,D,l,v,F⟩:=x g d e (20 + o) s (by omega) (by omega);exact⟨rs,B,I,C,ai (fn:=F_rows) rfl rfl (ab (ag (ρ3:=[some (Tp g d e),some (It (20 + o)),none,none,none,none,none,none,none,none,none]) (cP (ao (aq (ah (ρ3:=[some (Tp f j i),none,none,none,none,none,none,none,none,none,none]) rfl rfl A rfl) rfl rfl rfl (show some (decide (z=0))=some true by rw[Dac M]))) (ae rfl (ah (ρ3:=[some (Tp g d e),none,none,none,none,none,none,none,none,none,none]) rfl rfl r rfl) rfl rfl rfl)) rfl rfl rfl) D) rfl,l,v,F⟩
 ·obtain⟨o,g,d,e,r,J,L,s⟩:=aL (n:=n + 1) (a:=f) (many:=11) y (up (k:=1) p rfl) (by decide) (by decide);obtain⟨rs,B,I,C,G,D,l,v,F⟩:=x g d e o s (by omega) (by omega);exact⟨rs,B,I,C,ai (fn:=F_rows) rfl rfl (ab (ag (ρ3:=[some (Tp g d e),some (It o),none,none,none,none,none,none,none,none,none]) (dr (ao (aq (ah (ρ3:=[some (Tp f j i),none,none,none,none,none,none,none,none,none,none]) rfl rfl A rfl) rfl rfl rfl (show some (decide (z=0))=some false by rw[Dab M]))) (ah (ρ3:=[some (Tp g d e),none,none,none,none,none,none,none,none,none,none]) rfl rfl r rfl)) rfl rfl rfl) D) rfl,l,v,F⟩
def R.gr:R->Bool | .st _ k=>decide (99 < k) | .ot _ _ _=>false
abbrev Rd(r:R):OD:=.fz r.d
abbrev Rl(rs:List R):OD:=.fz (.list (rs.map R.d))
theorem br{a:Type}{x:a}{xs:List a}:atI (x::xs) 0=some x:=cQ (k:=0) rfl
theorem Bi{n:Nat}(r:R):pl.pg.call (n + 1) 0 [Rd r]=some (.fz (.bool r.gr),[Rd r]):=by
 cases r with
 | st r k=>rfl
 | ot w a h=>exact ai (fn:=iq) rfl rfl (ar (aj (mM (aq (aN rfl rfl rfl (bq br)) rfl rfl rfl (show some (decide (w="set"))=some false by rw[Dab h.1]))) rfl)) rfl
theorem uc{n:Nat}(r:R):pl.pg.call (n + 1) 20 [Rd r]=some (.fz (.bool r.gr),[Rd r]):=by
 cases r with
 | st r k=>rfl
 | ot w a h=>exact ai (fn:=fg) rfl rfl (ar (aj (mM (aq (aN rfl rfl rfl (bq br)) rfl rfl rfl (show some (decide (w="set"))=some false by rw[Dab h.1]))) rfl)) rfl
def R.wd:R->Str | .st _ _=>"set" | .ot w _ _=>w
def R.tl:R->List PyData | .st r k=>[.int r,.int k] | .ot _ xs _=>xs.map PyData.int
theorem dats_fz:∀ds:List PyData,OD.dats (ds.map OD.fz)=some ds
 | []=>rfl
 | d::ds=>by rw[aal,OD.dats,dats_fz ds];rfl
theorem cL(ds:List PyData):(OD.lst (ds.map OD.fz)).dat=some (.list ds):=by rw[OD.dat,dats_fz]
theorem cM{ρ a:DEnv}{j:Nat}{x:OD}{d:PyData}(h:ρ[j]?.join=some x)(c:x.dat=some d)(b:ρ.set j (some (.fz d))=a):frz1 ρ (.rf j)=some (d,a):=by simp only[frz1,h,Option.bind_some,c,abn,b]
theorem unca_nil{ρ a:DEnv}:eP ρ [] a=ρ:=by cases a with | nil=>rfl | cons o a=>cases o<;>rfl
theorem R.d_is(r:R):r.d=.tuple (.str r.wd::r.tl):=by cases r<;>rfl
abbrev Il(gs:List Int):OD:=.lst (gs.map It)
theorem cx(gs:List Int):(gs.map PyData.int).map OD.fz=gs.map It:=by rw[aaR];rfl
theorem aO(gs:List Int):(Il gs).dat=some (.list (gs.map PyData.int)):=by rw[Il,<- cx,cL]
theorem yJ(rs:List R):(rs.map R.d).map OD.fz=rs.map λr=>OD.fz r.d:=by rw[aaR];rfl
theorem fD{ρ:DEnv}{j:Nat}{gs:List Int}{i g:Int}(h:ρ[j]?.join=some (Il gs))(d:atI (gs.map It) i=some (It g)):bo ρ (.rf j) i=some (It g,ρ):=by
 obtain⟨k,b,a⟩:=bnd d;have c:itemS (Il gs) i=some (.int g,Il gs):=by simp only[Il,itemS,b,a,OD.dat];rw[bx a]
 simp only[bo,h,c];rw[set_self (join_some h)]
structure Cf where
 rows:List R
 longs:List Int
 r0:Int
 r1:Int
abbrev Lo(f:Cf):OD:=.fz (.list (f.longs.map PyData.int))
abbrev Re(f:Cf):OD:=.fz (.tuple [.int f.r0,.int f.r1])
def R.fal(r:R):Bool:=!decide (r.wd="go") && !decide (r.wd="stop")
def lJ(rs:List R):Nat->Bool
 | 0=>true
 | k + 1=>(rs[k]?).elim true R.fal
def fw(rs:List R)(k:Nat)(p:Int):Int:=let q:=if lJ rs k=true then p + 2 else p;q + 2 - q % 2
def sz(f:Cf)(k:Nat):Int:=if (f.rows[k]?).elim false R.gr=true\/(k:Int)∈f.longs then 2 else 1
theorem xD{n:Nat}(r:R):pl.pg.call (n + 1) 4 [Rd r]=some (.fz (.bool r.fal),[Rd r]):=by
 unfold R.fal;have a:∀x:Str,ev (pl.pg.ct n) (.cmp .ne ed4 (.str x)) [some (Rd r)]=some (.val (.fz (.bool (!decide (r.wd=x)))),[some (Rd r)]):=λx=>aq (aN rfl rfl rfl (by rw[R.d_is];exact bq br)) rfl rfl rfl rfl;cases b:(!decide (r.wd="go")) with
 | false=>exact ai (fn:=jY) rfl rfl (ar (aj (mM (by rw[<- b];exact a "go")) rfl)) rfl
 | true=>rw[abg];exact ai (fn:=jY) rfl rfl (ar (aj (mL (by rw[<- b];exact a "go") (a "stop")) rfl)) rfl
theorem cR{rs:List R}{k:Nat}{r:R}(h:rs[k]?=some r):atI (rs.map R.d) (k:Int)=some r.d:=cQ (by rw[aax,h];rfl)
theorem lu{x:Int}:∀{ls:List Int},memD (.int x) (ls.map PyData.int)=some (decide (x∈ls))
 | []=>by simp[memD]
 | y::ls=>by rw[aal,memD,lu (ls:=ls)];show some (decide (y=x) || decide (x∈ls))=_;rw[<- Bool.decide_or];congr 1;rw[decide_eq_decide,aaa];exact⟨λh=>h.imp Eq.symm id,λh=>h.imp Eq.symm id⟩
theorem EM{x:Int}{ls:List Int}:qm .inn (.int x) (.list (ls.map PyData.int))=some (decide (x∈ls)):=bs (f:=λa=>(gd (BR (PyData.int x)=true)).bind λ_=>memD (.int x) a) rfl (bg rfl lu)
theorem ud{x:Int}{ls:List Int}:qm .nin (.int x) (.list (ls.map PyData.int))=some (!decide (x∈ls)):=bs (EM (x:=x) (ls:=ls)) rfl
theorem Bj{n:Nat}{f:Cf}{k:Nat}{r:R}(h:f.rows[k]?=some r):pl.pg.call (n + 2) 7 [Rl f.rows,Lo f,It k]=some (It (sz f k),[Rl f.rows,Lo f,It k]):=by
 unfold sz;rw[h];have a:=ah (C:=pl.pg.ct (n + 1)) (f:=0) (es:=.cons G3 .nil) (ρ:=[some (Rl f.rows),some (Lo f),some (It k)]) (ρ3:=[some (Rl f.rows),some (Lo f),some (It k)]) (aa (aN rfl rfl rfl (a9 (cR h))) af) rfl (Bi r) rfl;cases d:r.gr with
 | true =>rw[d]at a;rw[if_pos (.inl d)];exact ai (fn:=dP) rfl rfl (ar (aj (cP (i7 (bz a)) rfl) rfl)) rfl
 | false =>
  rw[d]at a;have c:bf (pl.pg.ct (n + 1)) edl [some (Rl f.rows),some (Lo f),some (It k)]=some (decide ((k:Int)∈f.longs),[some (Rl f.rows),some (Lo f),some (It k)]):=ao (aq rfl rfl rfl rfl EM);cases b:decide ((k:Int)∈f.longs) with
  | true =>rw[b]at c;rw[if_pos (.inr (Daa b))];exact ai (fn:=dP) rfl rfl (ar (aj (cP (dz (bz a) c) rfl) rfl)) rfl
  | false =>rw[b]at c;rw[if_neg λz=>z.elim (λz=>absurd (d.symm.trans z) aae) λz=>of_decide_eq_false b z];exact ai (fn:=dP) rfl rfl (ar (aj (dr (dz (bz a) c) rfl) rfl)) rfl
theorem ue{n:Nat}{rs:List R}{k:Nat}(h:k<=rs.length):pl.pg.call (n + 2) 8 [Rl rs,It k]=some (.fz (.bool (lJ rs k)),[Rl rs,It k]):=by
 cases k with
 | zero=>exact ai (fn:=eI) rfl rfl (ar (aj (tT rfl) rfl)) rfl
 | succ k =>
  have a:=xD (n:=n) rs[k];have b:lJ rs (k + 1)=(rs[k]).fal:=by show (rs[k]?).elim true R.fal=_;rw[aak h];rfl
  rw[b];have c:((k + 1:Nat):Int) - 1=(k:Int):=by omega
  exact ai (fn:=eI) rfl rfl (ar (aj (tU (aq rfl rfl rfl rfl (show some (decide (((k + 1:Nat):Int)=0))=some false by rw[Dab (by omega)])) (ah (ρ3:=[some (Rl rs),some (It (k + 1:Nat))]) (aa (aN rfl rfl rfl (a9 (d:=(rs[k]).d) (by rw[c];exact cR (aak (by omega))))) af) rfl a rfl)) rfl)) rfl
theorem oF{n:Nat}{rs:List R}{k:Nat}{p:Int}(h:k<=rs.length):pl.pg.call (n + 3) 9 [Rl rs,It k,It p]=some (It (fw rs k p),[Rl rs,It k,It p]):=by
 unfold fw;have c:=ue (n:=n) h;have a:=ah (C:=pl.pg.ct (n + 2)) (f:=8) (es:=.cons (.nm 0) eed) (ρ:=[some (Rl rs),some (It k),some (It p)]) (ρ3:=[some (Rl rs),some (It k),some (It p)]) rfl rfl c rfl;cases b:lJ rs k with
 | true=>rw[b]at a;exact ai (fn:=cK) rfl rfl (ab (aE (bz a) (ab rfl rfl)) (ar (aj (ae rfl (ae rfl rfl rfl rfl (bZ (by decide))) rfl rfl rfl) rfl))) rfl
 | false=>rw[b]at a;exact ai (fn:=cK) rfl rfl (ab (s_ifF (bz a) rfl) (ar (aj (ae rfl (ae rfl rfl rfl rfl (bZ (by decide))) rfl rfl rfl) rfl))) rfl
def gIx:Int->List R->List Int
 | _,[]=>[]
 | i,r::rs=>if r.gr=true then i::gIx (i + 1) rs else gIx (i + 1) rs
theorem oG:∀{a b:List R} {i:Int},gIx i (a++b)=gIx i a++gIx (i + a.length) b
 | [],b,i=>by simp[gIx]
 | r::a,b,i=>by
  have e:i + 1 + (a.length:Int)=i + ((r::a).length:Nat):=by rw[aam];omega
  rw[aaG,gIx,gIx,oG (a:=a),e];split<;>rfl
theorem gIx_mem:∀{rs:List R} {i a:Int},a∈gIx i rs->∃(j:Nat) (r:R),a=i + j/\rs[j]?=some r/\r.gr=true
 | [],i,a,h=>absurd h aaq
 | r::rs,i,a,h=>by
  rw[gIx]at h;by_cases b:r.gr=true
  ·rw[if_pos b]at h;rcases aaa.mp h with rfl | h
   ·exact⟨0,r,by simp,rfl,b⟩
   ·obtain⟨j,q,e,c,d⟩:=gIx_mem h;exact⟨j + 1,q,by rw[e];omega,c,d⟩
  ·rw[if_neg b]at h;obtain⟨j,q,e,c,d⟩:=gIx_mem h;exact⟨j + 1,q,by rw[e];omega,c,d⟩
theorem gr_st{r:R}(h:r.gr=true):∃x k,r=.st x k:=by
 cases r with
 | st x k=>exact⟨x,k,rfl⟩
 | ot w a b=>cases h
theorem dQ:∀{rs:List R} {i:Int},(gIx i rs).length=(rs.filter R.gr).length
 | [],i=>rfl
 | r::rs,i=>by
  rw[gIx];by_cases a:r.gr=true
  ·rw[if_pos a,ace a,aam,aam,dQ]
  ·rw[if_neg a,acf a,dQ]
def enF:Int->List R->List PyData
 | _,[]=>[]
 | i,r::rs=>.tuple [.int i,r.d]::enF (i + 1) rs
theorem oH:∀{rs:List R} {i:Int} {j:Nat},(enF i rs)[j]?=(rs[j]?).map λr=>.tuple [.int (i + j),r.d]
 | [],_,_=>by simp[enF]
 | r::rs,i,0=>by simp[enF]
 | r::rs,i,j + 1=>by
  rw[enF,abK,abK,oH];congr 1;funext r;have e:i + 1 + (j:Int)=i + ((j + 1:Nat):Int):=by omega
  rw[e]
theorem fE(rs:List R):cD (rs.map R.d)=enF 0 rs:=by
 refine ab8 λj=>?_;rw[oH,abL];unfold cD;rw[aax,aab];by_cases a:j < rs.length
 ·rw[acA a,aak a];simp[aba,aax,aak a]
 ·rw[abM (by simpa using a),abM (by omega)];rfl
theorem j4{n:Nat}:∀{rs:List R} {i:Int} {out:List PyData} {o0 o1:Option OD},∃a,bW (cm (pl.pg.ct (n + 1)) (.tp [0,1]) (.some edf) (.nm 0)) (enF i rs) out [o0,o1]=some (out++(gIx i rs).map PyData.int,a)
 | [],i,out,o0,o1=>⟨[o0,o1],by rw[gIx,aaK,aap];rfl⟩
 | r::rs,i,out,o0,o1=>by
  have b:bf (pl.pg.ct (n + 1)) edf [some (It i),some (Rd r)]=some (r.gr,[some (It i),some (Rd r)]):=bz (ah (ρ3:=[some (It i),some (Rd r)]) rfl rfl (Bi r) rfl);rw[gIx];cases c:r.gr with
  | false =>rw[c]at b;obtain⟨a,e⟩:=j4 (n:=n) (rs:=rs) (i:=i + 1) (out:=out++[]) (o0:=some (It i)) (o1:=some (Rd r));refine⟨a,bs (x:=([],[some (It i),some (Rd r)])) (qz rfl b) ?_⟩;rw[if_neg aae,e,aap]
  | true =>rw[c]at b;obtain⟨a,e⟩:=j4 (n:=n) (rs:=rs) (i:=i + 1) (out:=out++[.int i]) (o0:=some (It i)) (o1:=some (Rd r));refine⟨a,bs (x:=([.int i],[some (It i),some (Rd r)])) (qy rfl b rfl rfl) ?_⟩;rw[if_pos rfl,e,aac];rfl
theorem uf{n:Nat}{rs:List R}(b:rs.length<=1000):pl.pg.call (n + 2) 2 [Rl rs]=some (Il (gIx 0 rs),[Rl rs]):=by obtain⟨a,e⟩:=j4 (n:=n) (rs:=rs) (i:=0) (out:=[]) (o0:=none) (o1:=none);rw[aaD,<- fE]at e;refine ai (fn:=gi) (ρ:=[some (Rl rs)]) rfl rfl (ar (aj (z:=Il (gIx 0 rs)) (dB (ρ2:=[some (Rl rs)]) (eG rfl rfl) (by rw[cE,aab];omega) rfl e unca_nil) (by rw[cx];rfl))) rfl
abbrev Po(q:Int × List Int):PyData:=.tuple [.int q.1,.tuple (q.2.map PyData.int)]
theorem aV{lo:Int}{n:Nat}:bL lo (n + 1)=.int lo::bL (lo + 1) n:=by
 unfold bL;rw[List.range_succ_eq_map,aal,aaR];congr 1
 ·simp
 ·refine acu λi _=>?_;show PyData.int (lo + ((i + 1:Nat):Int))=_;congr 1;omega
theorem cy{ns:List Int}{x:Int}:Il (ns++[x])=.lst (ns.map It++[It x]):=by rw[Il,aav];rfl
abbrev Pz:=List (Int × List Int)
structure Mc where
 ps:List Int
 bs:List Int
 pl:Int
def inn(f:Cf)(k:Nat)(s:Mc)(q:Int × List Int):Mc:=if q.1=(k:Int) then ⟨s.ps,s.bs++[fw f.rows k s.pl],fw f.rows k s.pl + 2 * q.2.length⟩ else s
def inner(f:Cf)(qs:List (Int × List Int))(k:Nat)(s:Mc):Mc:=qs.foldl (inn f k) s
def yK(f:Cf)(k:Nat)(s:Mc):Mc:=⟨s.ps++[s.pl],s.bs,s.pl + sz f k⟩
def mac(f:Cf)(qs:List (Int × List Int)):Nat->Mc
 | 0=>⟨[],[],0⟩
 | k + 1=>yK f k (inner f qs k (mac f qs k))
theorem b9{f:Cf}{k:Nat}:∀{qs:List (Int × List Int)} {s:Mc},(∀q∈qs,q.1≠(k:Int))->inner f qs k s=s
 | [],s,_=>rfl
 | q::qs,s,h=>by show inner f qs k (inn f k s q)=s;have e:inn f k s q=s:=if_neg (h q aag);rw[e];exact b9 λq a=>h q (aaj _ a)
theorem gb{f:Cf}{k:Nat}{a b:List (Int × List Int)}{s:Mc}:inner f (a++b) k s=inner f b k (inner f a k s):=List.foldl_append
theorem j5{f:Cf}{ps qs:List (Int × List Int)}:∀{k:Nat},(∀q∈qs,(k:Int)<=q.1)->mac f (ps++qs) k=mac f ps k
 | 0,_=>rfl
 | k + 1,h=>by
  have b:∀q∈qs,(k:Int)<=q.1:=λq a=>by have:=h q a;omega
  have c:∀q∈qs,q.1≠(k:Int):=λq a=>by have:=h q a;omega
  show yK f k (inner f (ps++qs) k (mac f (ps++qs) k))=yK f k (inner f ps k (mac f ps k));rw[j5 b,gb,b9 c]
theorem Bk{f:Cf}{k:Nat}{s:Mc}{q:Int × List Int}:(inn f k s q).ps=s.ps:=by unfold inn;split<;>rfl
theorem dE{f:Cf}{k:Nat}:∀{qs:List (Int × List Int)} {s:Mc},(inner f qs k s).ps=s.ps
 | [],s=>rfl
 | q::qs,s=>by show (inner f qs k (inn f k s q)).ps=_;rw[dE,Bk]
theorem gA{f:Cf}{qs:List (Int × List Int)}:∀{k:Nat},(mac f qs k).ps.length=k
 | 0=>rfl
 | k + 1=>by show ((inner f qs k (mac f qs k)).ps++[_]).length=_;rw[dE,aai,gA];rfl
theorem xE{n:Nat}{f:Cf}{k:Nat}{r:R}(h:f.rows[k]?=some r):pl.pg.call (n + 2) 21 [Rl f.rows,Lo f,It k]=some (It (sz f k),[Rl f.rows,Lo f,It k]):=by
 unfold sz;rw[h];have a:=ah (C:=pl.pg.ct (n + 1)) (f:=20) (es:=.cons G3 .nil) (ρ:=[some (Rl f.rows),some (Lo f),some (It k)]) (ρ3:=[some (Rl f.rows),some (Lo f),some (It k)]) (aa (aN rfl rfl rfl (a9 (cR h))) af) rfl (uc r) rfl;cases d:r.gr with
 | true =>rw[d]at a;rw[if_pos (.inl d)];exact ai (fn:=jZ) rfl rfl (ar (aj (cP (i7 (bz a)) rfl) rfl)) rfl
 | false =>
  rw[d]at a;have c:bf (pl.pg.ct (n + 1)) edl [some (Rl f.rows),some (Lo f),some (It k)]=some (decide ((k:Int)∈f.longs),[some (Rl f.rows),some (Lo f),some (It k)]):=ao (aq rfl rfl rfl rfl EM);cases b:decide ((k:Int)∈f.longs) with
  | true =>rw[b]at c;rw[if_pos (.inr (Daa b))];exact ai (fn:=jZ) rfl rfl (ar (aj (cP (dz (bz a) c) rfl) rfl)) rfl
  | false =>rw[b]at c;rw[if_neg λz=>z.elim (λz=>absurd (d.symm.trans z) aae) λz=>of_decide_eq_false b z];exact ai (fn:=jZ) rfl rfl (ar (aj (dr (dz (bz a) c) rfl) rfl)) rfl
theorem iF{f:Cf}{k:Nat}:∀{qs:Pz} {s:Mc},(inner f qs k s).bs.length=s.bs.length + qs.countP λq=>decide (q.1=(k:Int))
 | [],s=>rfl
 | q::qs,s=>by
  show (inner f qs k (inn f k s q)).bs.length=_;rw[iF,abN];unfold inn;by_cases h:q.1=(k:Int)
  ·rw[if_pos h,Dac h,if_pos rfl];show (s.bs++[_]).length + _=_;rw[aai,aaO];omega
  ·rw[if_neg h,Dab h,if_neg aae];omega
theorem iG{k:Nat}:∀{qs:Pz},(∀q∈qs,0<=q.1)->qs.countP (λq=>decide (q.1 < ((k + 1:Nat):Int)))=qs.countP (λq=>decide (q.1 < (k:Int))) + qs.countP λq=>decide (q.1=(k:Int))
 | [],_=>rfl
 | q::qs,h=>by rw[abN,abN,abN,iG λq a=>h q (aaj _ a)];simp only[decide_eq_true_eq];split<;>split<;>split<;>omega
theorem eJ{f:Cf}{qs:Pz}(h:∀q∈qs,0<=q.1):∀{k:Nat},(mac f qs k).bs.length=qs.countP λq=>decide (q.1 < (k:Int))
 | 0=>by show 0=_;rw[eq_comm,List.countP_eq_zero];intro q a z;have:=h q a;have:=Daa z;omega
 | k + 1=>by show (inner f qs k (mac f qs k)).bs.length=_;rw[iF,eJ h,iG h]
abbrev Pq(qs:Pz):OD:=.fz (.list (qs.map Po))
abbrev qE(f:Cf)(qs:Pz)(s:Mc)(k:Nat)(o7 o8:Option OD):DEnv:=[some (Rl f.rows),some (Lo f),some (Pq qs),some (Il s.ps),some (Il s.bs),some (It s.pl),some (It k),o7,o8]
abbrev G9:E:=.or edo eaw
theorem oI(r:R):qm .nin (.str r.wd) (.tuple [.str "go",.str "stop"])=some r.fal:=by show some (!(decide ("go"=r.wd) || (decide ("stop"=r.wd) || false)))=some (!decide (r.wd="go") && !decide (r.wd="stop"));rw[abz,Bool.not_or,decide_eq_decide.mpr (eq_comm (a:=Str.ofString "go")),decide_eq_decide.mpr (eq_comm (a:=Str.ofString "stop"))]
theorem Ha{n:Nat}{f:Cf}{qs:Pz}{s:Mc}{k:Nat}{o7 o8:Option OD}(h:k<=f.rows.length):ev (pl.pg.ct n) G9 (qE f qs s k o7 o8)=some (.val (.fz (.bool (lJ f.rows k))),qE f qs s k o7 o8):=by
 cases k with
 | zero=>exact tT rfl
 | succ k =>
  have b:((k + 1:Nat):Int) - 1=(k:Int):=by omega
  have a:lJ f.rows (k + 1)=(f.rows[k]).fal:=by show (f.rows[k]?).elim true R.fal=_;rw[aak h];rfl
  rw[a];exact tU (aq rfl rfl rfl rfl (show some (decide (((k + 1:Nat):Int)=0))=some false by rw[Dab (by omega)])) (aq (dx:=.str (f.rows[k]).wd) (dy:=.tuple [.str "go",.str "stop"]) (aN (aN rfl rfl rfl (a9 (d:=(f.rows[k]).d) (by rw[b];exact cR (aak (by omega))))) rfl rfl (by rw[R.d_is];exact bq br)) rfl rfl rfl (oI _))
abbrev Fi:Ss:=.cons (.iff edw (.cons (.set 5 (.bop .add (.nm 5) (.bop .mul (.int 2) (.blt .int (.cons G9 .nil))))) eab) .nil) .nil
abbrev Tn(q:Int × List Int):OD:=.fz (.tuple (q.2.map PyData.int))
abbrev qF(f:Cf)(qs:Pz)(s:Mc)(k:Nat)(q:Int × List Int):DEnv:=qE f qs s k (some (It q.1)) (some (Tn q))
theorem xF{n:Nat}{f:Cf}{qs:Pz}{s:Mc}{k:Nat}{q:Int × List Int}(h:k<=f.rows.length)(c:s.bs.length < 1000):aK (pl.pg.ct n) Fi (qF f qs s k q)=some (.nx,qF f qs (inn f k s q) k q):=by
 unfold inn;by_cases e:q.1=(k:Int)
 ·rw[if_pos e];have b:=Ha (n:=n) (qs:=qs) (s:=s) (o7:=some (It q.1)) (o8:=some (Tn q)) h;refine ab (aE (ao (aq rfl rfl rfl rfl (show some (decide (q.1=(k:Int)))=some true by rw[Dac e]))) ?_) rfl;have i:∀v,lJ f.rows k=v->bC (pl.pg.ct n) (.set 5 (.bop .add (.nm 5) (.bop .mul (.int 2) (.blt .int (.cons G9 .nil))))) (qF f qs s k q)=some (.nx,qF f qs ⟨s.ps,s.bs,if v=true then s.pl + 2 else s.pl⟩ k q):=λv g=>by
   rw[g]at b;cases v with
   | true=>exact ag (ae rfl (ae (dx:=.int 2) (dy:=.int 1) rfl (aG (aa b af) rfl rfl) rfl rfl rfl) rfl rfl rfl) rfl rfl rfl
   | false=>exact ag (ae (dx:=.int s.pl) (dy:=.int 0) (d:=.int s.pl) rfl (ae (dx:=.int 2) (dy:=.int 0) rfl (aG (aa b af) rfl rfl) rfl rfl rfl) rfl rfl (by show some (PyData.int (s.pl + 0))=_;rw[Int.add_zero])) rfl rfl rfl
  refine ab (i _ rfl) ?_;generalize hq:(if lJ f.rows k=true then s.pl + 2 else s.pl)=p;have a:fw f.rows k s.pl=p + 2 - p % 2:=by unfold fw;rw[hq]
  rw[a];refine ab (ag (ρ3:=qF f qs ⟨s.ps,s.bs,p + 2 - p % 2⟩ k q) (ae rfl (ae rfl rfl rfl rfl (bZ (by decide))) rfl rfl rfl) rfl rfl rfl) ?_;refine ab (bP (ρ3:=qF f qs ⟨s.ps,s.bs++[p + 2 - p % 2],p + 2 - p % 2⟩ k q) rfl rfl rfl rfl (by rw[aab];exact abC c (by decide)) (by show _=[some (Rl f.rows),some (Lo f),some (Pq qs),some (Il s.ps),some (Il (s.bs++[p + 2 - p % 2])),some (It (p + 2 - p % 2)),some (It k),some (It q.1),some (Tn q)];rw[cy];rfl)) ?_;exact ab (ag (ae rfl (ae (dx:=.int 2) (dy:=.int q.2.length) rfl (aG rfl rfl (by show some (PyData.int ((q.2.map PyData.int).length:Nat))=_;rw[aab])) rfl rfl (dY (.inl (by decide)))) rfl rfl rfl) rfl rfl rfl) rfl
 ·rw[if_neg e];exact ab (s_ifF (ao (aq rfl rfl rfl rfl (show some (decide (q.1=(k:Int)))=some false by rw[Dab e]))) rfl) rfl
abbrev IC(n:Nat)(d:PyData)(ρ':DEnv):Option (Fl × DEnv):=(bc (.tp [7,8]) (.fz d) ρ').bind λρ1=>aK (pl.pg.ct n) Fi ρ1
theorem oJ{n:Nat}{f:Cf}{qs:Pz}{k:Nat}(h:k<=f.rows.length):∀{rs:Pz} {s:Mc} {o7 o8:Option OD},s.bs.length + rs.length < 1000->∃a b,bb (IC n) (rs.map Po) (qE f qs s k o7 o8)=some (.nx,qE f qs (inner f rs k s) k a b)
 | [],s,o7,o8,_=>⟨o7,o8,rfl⟩
 | q::rs,s,o7,o8,hb=>by
  rw[aam]at hb;have e:IC n (Po q) (qE f qs s k o7 o8)=some (.nx,qF f qs (inn f k s q) k q):=bs (x:=qF f qs s k q) rfl (xF h (by omega));have c:(inn f k s q).bs.length + rs.length < 1000:=by
   unfold inn;split
   ·show (s.bs++[_]).length + _ < _;rw[aai,aaO];omega
   ·omega
  obtain⟨a,b,d⟩:=oJ (n:=n) (qs:=qs) h (rs:=rs) (s:=inn f k s q) (o7:=some (It q.1)) (o8:=some (Tn q)) c;exact⟨a,b,bs e d⟩
abbrev qG(f:Cf)(qs:Pz)(s:Mc)(o6 o7 o8:Option OD):DEnv:=[some (Rl f.rows),some (Lo f),some (Pq qs),some (Il s.ps),some (Il s.bs),some (It s.pl),o6,o7,o8]
abbrev JN:Ss:=.cons (.fr (.tp [7,8]) (.seq (.nm 2)) Fi) eac
abbrev ID(n:Nat)(d:PyData)(ρ':DEnv):Option (Fl × DEnv):=(bc (.nm 6) (.fz d) ρ').bind λρ1=>aK (pl.pg.ct n) JN ρ1
theorem yL{n:Nat}{f:Cf}{qs:Pz}{s:Mc}{k:Nat}{o7 o8:Option OD}:bf (pl.pg.ct n) eb4 (qE f qs s k o7 o8)=some (decide ((k:Int) < (f.rows.length:Int)),qE f qs s k o7 o8):=ao (aq (dx:=.int k) (dy:=.int f.rows.length) rfl (aG rfl rfl (by show some (PyData.int ((f.rows.map R.d).length:Nat))=_;rw[aab])) rfl rfl rfl)
theorem yM{n:Nat}{f:Cf}{qs:Pz}{s:Mc}{k:Nat}{o7 o8:Option OD}(h:k<=f.rows.length)(c:s.bs.length + qs.length < 1000):∃a b,bC (pl.pg.ct n) (.fr (.tp [7,8]) (.seq (.nm 2)) Fi) (qE f qs s k o7 o8)=some (.nx,qE f qs (inner f qs k s) k a b):=by obtain⟨a,b,e⟩:=oJ (n:=n) (qs:=qs) h (rs:=qs) (s:=s) (o7:=o7) (o8:=o8) c;exact⟨a,b,bR (dA (ρ2:=qE f qs s k o7 o8) rfl rfl rfl) e⟩
theorem xG{n:Nat}{f:Cf}{qs:Pz}{s:Mc}{k:Nat}{o6 o7 o8:Option OD}(h:k < f.rows.length)(i:s.bs.length + qs.length < 1000)(j:s.ps.length < 1000):∃d a b,ID (n + 2) (.int k) (qG f qs s o6 o7 o8)=some (.nx,qG f qs (yK f k (inner f qs k s)) d a b):=by
 obtain⟨a,b,e⟩:=yM (n:=n + 2) (qs:=qs) (s:=s) (o7:=o7) (o8:=o8) (aaS h) i;have c:(inner f qs k s).ps.length < 1000000:=by rw[dE];omega
 generalize inner f qs k s=t at e c;have g:=yL (n:=n + 2) (f:=f) (qs:=qs) (s:=t) (k:=k) (o7:=a) (o8:=b);rw[Dac (by omega)]at g;refine⟨some (It k),a,b,bs (x:=qE f qs s k o7 o8) rfl (ab e (ab (aE g (ab (bP (ρ3:=qE f qs ⟨t.ps++[t.pl],t.bs,t.pl⟩ k a b) rfl rfl rfl rfl (by rw[aab];exact c) ?_) (ab (ag (ρ3:=qE f qs (yK f k t) k a b) (ae rfl (ah (ρ3:=qE f qs ⟨t.ps++[t.pl],t.bs,t.pl⟩ k a b) rfl rfl (xE (n:=n) (aak h)) rfl) rfl rfl rfl) rfl rfl rfl) rfl))) rfl))⟩;show _=[some (Rl f.rows),some (Lo f),some (Pq qs),some (Il (t.ps++[t.pl])),some (Il t.bs),some (It t.pl),some (It k),a,b];rw[cy];rfl
theorem oK{n:Nat}{f:Cf}{qs:Pz}(i:∀q∈qs,0<=q.1)(t:qs.length<=300)(w:f.rows.length<=200):∀{m k:Nat} {o6 o7 o8:Option OD},k + m=f.rows.length->∃o d g,bb (ID (n + 2)) (bL k (m + 1)) (qG f qs (mac f qs k) o6 o7 o8)=some (.nx,qG f qs (inner f qs f.rows.length (mac f qs f.rows.length)) o d g)
 | 0,k,o6,o7,o8,h=>by
  obtain rfl:k=f.rows.length:=h;have j:(mac f qs f.rows.length).bs.length + qs.length < 1000:=by rw[eJ i];have:=abO (p:=λq:Int × List Int=>decide (q.1 < (f.rows.length:Int))) (l:=qs);omega
  obtain⟨d,g,e⟩:=yM (n:=n + 2) (qs:=qs) (s:=mac f qs f.rows.length) (o7:=o7) (o8:=o8) (aah _) j;have r:=yL (n:=n + 2) (f:=f) (qs:=qs) (s:=inner f qs f.rows.length (mac f qs f.rows.length)) (k:=f.rows.length) (o7:=d) (o8:=g);rw[Dab (by omega)]at r;refine⟨some (It f.rows.length),d,g,?_⟩;rw[aV];exact bs (bs (x:=qE f qs (mac f qs f.rows.length) f.rows.length o7 o8) rfl (ab e (ab (s_ifF r rfl) rfl))) rfl
 | m + 1,k,o6,o7,o8,h=>by
  have j:(mac f qs k).bs.length + qs.length < 1000:=by rw[eJ i];have:=abO (p:=λq:Int × List Int=>decide (q.1 < (k:Int))) (l:=qs);omega
  obtain⟨a,b,c,e⟩:=xG (n:=n) (qs:=qs) (s:=mac f qs k) (o6:=o6) (o7:=o7) (o8:=o8) (show k < f.rows.length by omega) j (by rw[gA];omega);obtain⟨u,y,v,z⟩:=oK (n:=n) i t w (m:=m) (k:=k + 1) (o6:=a) (o7:=b) (o8:=c) (by omega);refine⟨u,y,v,?_⟩;rw[aV];exact bs e z
abbrev Bm(s:Mc):OD:=.fz (.tuple [.list (s.ps.map PyData.int),.list (s.bs.map PyData.int),.int s.pl])
abbrev Dl(gs:List Int):OD:=.fz (.list (gs.map PyData.int))
theorem lx{n:Nat}{f:Cf}{qs:Pz}(j:∀q∈qs,0<=q.1)(h:qs.length<=300)(a:f.rows.length<=200):pl.pg.call (n + 3) 22 [Rl f.rows,Lo f,Pq qs]=some (Bm (inner f qs f.rows.length (mac f qs f.rows.length)),[Rl f.rows,Lo f,Pq qs]):=by
 obtain⟨o6,o7,o8,e⟩:=oK (n:=n) j h a (m:=f.rows.length) (k:=0) (o6:=none) (o7:=none) (o8:=none) (aaU _);generalize inner f qs f.rows.length (mac f qs f.rows.length)=s at e;have c:(((f.rows.length:Nat):Int) + 1).toNat=f.rows.length + 1:=by omega
 refine ai (fn:=iw) (ρ:=[some (Rl f.rows),some (Lo f),some (Pq qs),some (Dl s.ps),some (Dl s.bs),some (It s.pl),o6,o7,o8]) rfl rfl (ab (f6 (ρ3:=qG f qs ⟨[],[],0⟩ none none none) rfl rfl rfl rfl) (ab (bR (ρ1:=qG f qs ⟨[],[],0⟩ none none none) (eF (n:=(f.rows.length:Int) + 1) (ae (dx:=.int f.rows.length) (dy:=.int 1) (aG rfl rfl (by show some (PyData.int ((f.rows.map R.d).length:Nat))=_;rw[aab])) rfl rfl rfl rfl) rfl (by omega)) (by rw[c];exact e)) (ar (aj (z:=Bm s) (dW (rs:=[.rf 3,.rf 4,.val (It s.pl)]) (ρ1:=qG f qs s o6 o7 o8) (zs:=[Dl s.ps,Dl s.bs,It s.pl]) (ρ2:=[some (Rl f.rows),some (Lo f),some (Pq qs),some (Dl s.ps),some (Dl s.bs),some (It s.pl),o6,o7,o8]) rfl rfl ?_ rfl) rfl)))) rfl;have i:own1 (qG f qs s o6 o7 o8) (.rf 3)=some (Dl s.ps,[some (Rl f.rows),some (Lo f),some (Pq qs),some (Dl s.ps),some (Il s.bs),some (It s.pl),o6,o7,o8]):=by show (frz1 _ (.rf 3)).map _=_;rw[cM rfl (aO _) rfl];rfl
 have b:own1 [some (Rl f.rows),some (Lo f),some (Pq qs),some (Dl s.ps),some (Il s.bs),some (It s.pl),o6,o7,o8] (.rf 4)=some (Dl s.bs,[some (Rl f.rows),some (Lo f),some (Pq qs),some (Dl s.ps),some (Dl s.bs),some (It s.pl),o6,o7,o8]):=by show (frz1 _ (.rf 4)).map _=_;rw[cM rfl (aO _) rfl];rfl
 have g:mapR own1 [some (Rl f.rows),some (Lo f),some (Pq qs),some (Dl s.ps),some (Il s.bs),some (It s.pl),o6,o7,o8] [.rf 4,.val (It s.pl)]=some ([Dl s.bs,It s.pl],[some (Rl f.rows),some (Lo f),some (Pq qs),some (Dl s.ps),some (Dl s.bs),some (It s.pl),o6,o7,o8]):=bs b rfl;exact bs i (by show Option.map _ (mapR own1 _ _)=_;rw[g];rfl)
theorem EN{a:Type}{f:a->PyData}{l:List a}:jy (.list (l.map f))=some l.length:=by show some (l.map f).length=_;rw[aab]
theorem blen{a:Type}{f:a->PyData}{l:List a}:uZ .len [.list (l.map f)]=some (.int l.length):=by show (cT [PyData.list (l.map f)]).bind (λd=>(jy d).bind λn=>some (PyData.int n))=_;exact bs rfl (bs EN rfl)
theorem putK_new{us:List (Int × Int)}{a v:Int}(h:a ∉ us.map (·.1)):aZ (.inl a) (.int v) (us.map λu=>.inl u.1) (us.map λu=>It u.2)=((us++[(a,v)]).map λu=>.inl u.1,(us++[(a,v)]).map λu=>It u.2):=by
 have b:¬ ((us.map λu=>(Sum.inl u.1:Key)).any λq=>decide (q=.inl a))=true:=by intro d;obtain⟨q,c,e⟩:=aaV.mp d;obtain⟨u,f,rfl⟩:=aau.mp c;have:=Daa e;cases this;exact h (aau.mpr ⟨u,f,rfl⟩)
 unfold aZ;rw[if_neg b,aav,aav];rfl
theorem Bp{C:Ct}{i:Nat}{o:Bo}{e:E}{ρ ρ1 ρ2:DEnv}{a r:Int}{x:OR}{d:PyData}(c:ρ[i]?.join=some (It a))(f:ev C e ρ=some (x,ρ1))(h:au ρ1 x=some d)(b:wq o a d=some r)(g:ρ1.set i (some (It r))=ρ2):bC C (.aug i o e) ρ=some (.nx,ρ2):=bs c (bs rfl (bs rfl (bs f (bs h (bs b (by rw[<- g]))))))
theorem gf{C:Ct}{t:Tg}{e:E}{ρ ρ1 ρ2 ρ3:DEnv}{x:OR}{z:OD}(h:ev C e ρ=some (x,ρ1))(b:own1 ρ1 x=some (z,ρ2))(a:bc t z ρ2=some ρ3):bC C (.asg t e) ρ=some (.nx,ρ3):=bs h (bs b (bs a rfl))
theorem mZ{C:Ct}{i nt:Nat}{fr:List Nat}{it:It'}{a:Tg}{b ve:E}{ρ ρ1 ρ2 ρ3:DEnv}{ds:List PyData}{zc:DEnv × DEnv}{ks:List Key}{vs:List OD}(h:qo C it ρ=some (ds,ρ1))(d:ds.length < 1000000)(g:cF ρ1 fr=some zc)(c:dU (g9 C a b ve) ds ([],[]) (List.replicate nt none++zc.1)=some ((ks,vs),ρ2))(e:i < (eP zc.2 fr (ρ2.drop nt)).length)(f:(eP zc.2 fr (ρ2.drop nt)).set i (some (.dic ks vs))=ρ3):bC C (.sdc i nt fr it a b ve) ρ=some (.nx,ρ3):=bs h (bg d (bs g (bs c (bg e (by rw[<- f])))))
abbrev Qk(qs:Pz):List Key:=(qs.map λq=>(q.1,(q.2.length:Int))).map λu=>.inl u.1
abbrev Qv(qs:Pz):List OD:=(qs.map λq=>(q.1,(q.2.length:Int))).map λu=>It u.2
abbrev Qd(qs:Pz):OD:=.dic (Qk qs) (Qv qs)
theorem ug{C:Ct}:∀{qs ps:Pz} {o0 o1:Option OD},(ps++qs).Pairwise (λx y=>x.1 < y.1)->∃b a,dU (g9 C (.tp [0,1]) (.nm 0) ec6) (qs.map Po) (Qk ps,Qv ps) [o0,o1]=some ((Qk (ps++qs),Qv (ps++qs)),[b,a])
 | [],ps,o0,o1,_=>⟨o0,o1,by rw[aap];rfl⟩
 | q::qs,ps,o0,o1,h=>by
  have i:q.1 ∉ (ps.map λq=>(q.1,(q.2.length:Int))).map (·.1):=λz=>by obtain⟨u,j,e⟩:=aau.mp z;obtain⟨x,f,rfl⟩:=aau.mp j;have:=(abv.mp h).2.2 x f q aag;have e:x.1=q.1:=e;omega
  have e:=putK_new (v:=(q.2.length:Int)) i;obtain⟨b,a,c⟩:=ug (C:=C) (qs:=qs) (ps:=ps++[q]) (o0:=some (It q.1)) (o1:=some (Tn q)) (by rw[aac];exact h);rw[aac]at c;refine⟨b,a,bs (x:=((Qk (ps++[q]),Qv (ps++[q])),[some (It q.1),some (Tn q)])) ?_ c⟩;refine bs (x:=[some (It q.1),some (Tn q)]) rfl (bs rfl (bs (aG (d:=.int q.2.length) rfl rfl (by show some (PyData.int ((q.2.map PyData.int).length:Nat))=_;rw[aab])) (bs rfl (bs rfl (bs rfl ?_)))));have g:(ps++[q]).map (λq=>(q.1,(q.2.length:Int)))=ps.map (λq=>(q.1,(q.2.length:Int)))++[(q.1,(q.2.length:Int))]:=aav;show some (aZ (.inl q.1) (.int (q.2.length:Int)) (Qk ps) (Qv ps),[some (It q.1),some (Tn q)])=some ((List.map _ ((ps++[q]).map _),List.map _ ((ps++[q]).map _)),_);rw[g,e]
abbrev zP(f:Cf)(qs:Pz)(s:Mc)(o7:Option OD):DEnv:=[some (Rl f.rows),some (Lo f),some (Pq qs),some (Qd qs),some (Il s.ps),some (Il s.bs),some (It s.pl),o7]
abbrev zS:Ss:=match F_placed.body with | .cons _ (.cons _ (.cons _ (.cons _ (.cons (.fr _ _ b) _))))=>b | _=>.nil
theorem yN{n:Nat}{f:Cf}{qs:Pz}{s:Mc}{k:Nat}:bf (pl.pg.ct n) eb3 (zP f qs s (some (It k)))=some (decide ((k:Int) < (f.rows.length:Int)),zP f qs s (some (It k))):=ao (aq (dx:=.int k) (dy:=.int f.rows.length) rfl (aG rfl rfl blen) rfl rfl rfl)
theorem yO{n:Nat}{f:Cf}{qs:Pz}{s:Mc}{k:Nat}{b:Bool}(h:((Qk qs).any λq=>decide (q=.inl (k:Int)))=b):bf (pl.pg.ct n) Ic (zP f qs s (some (It k)))=some (b,zP f qs s (some (It k))):=by rw[<- h];rfl
theorem Qk_any{qs:Pz}{k:Nat}:((Qk qs).any λq=>decide (q=.inl (k:Int)))=true ↔ ∃q∈qs,q.1=(k:Int):=by
 rw[aaV];constructor
 ·rintro⟨x,b,e⟩;obtain⟨u,c,rfl⟩:=aau.mp b;obtain⟨q,a,rfl⟩:=aau.mp c;have:=Daa e;injection this with this;exact⟨q,a,this⟩
 ·rintro⟨q,a,e⟩;exact⟨.inl q.1,aau.mpr ⟨_,aau.mpr ⟨q,a,rfl⟩,rfl⟩,Dac (by rw[e])⟩
theorem xH{a b:Pz}{q:Int × List Int}{k:Nat}(h:∀x∈a,x.1≠(k:Int))(e:q.1=(k:Int)):(Qk (a++q::b)).findIdx? (λq=>decide (q=.inl (k:Int)))=some a.length:=by
 induction a with
 | nil=>exact (abd).trans (if_pos (Dac (show (Sum.inl q.1:Key)=.inl (k:Int) by rw[e])))
 | cons x a f =>have d:¬ (decide ((Sum.inl x.1:Key)=.inl (k:Int)))=true:=λz=>h x aag (by have:=Daa z;injection this);refine (abd).trans ((if_neg d).trans ?_);exact congrArg (Option.map λi=>i + 1) (f λy c=>h y (aaj _ c))
theorem EO{n:Nat}{f:Cf}{qs:Pz}{s:Mc}{k:Nat}(p:qs.Pairwise λx y=>x.1 < y.1)(hk:k<=f.rows.length)(A:s.bs.length < 1000){o:Ss}{r:Option (Fl × DEnv)}(K:aK (pl.pg.ct (n + 3)) o (zP f qs (inner f qs k s) (some (It k)))=r):aK (pl.pg.ct (n + 3)) (.cons eaa o) (zP f qs s (some (It k)))=r:=by
 by_cases h:∃q∈qs,q.1=(k:Int)
 ·have c:=yO (n:=n + 3) (f:=f) (s:=s) (Qk_any.mpr h);obtain⟨q,d,e⟩:=h;obtain⟨a,b,rfl⟩:=ab5 d;have m:∀x∈a,x.1≠(k:Int):=λx l=>by have:=(abv.mp p).2.2 x l q aag;omega
  have i:∀x∈b,x.1≠(k:Int):=λx l=>by have:=(abc.mp (abv.mp p).2.1).1 x l;omega
  have v:inner f (a++q::b) k s=⟨s.ps,s.bs++[fw f.rows k s.pl],fw f.rows k s.pl + 2 * q.2.length⟩:=by rw[gb,b9 m];show inner f b k (inn f k s q)=_;rw[b9 i];exact if_pos e
  have u:(Qv (a++q::b))[a.length]?=some (It q.2.length):=by rw[aax,aax,aa8 (aah _),abP];rfl
  have j:∀t:Mc,cA (zP f (a++q::b) t (some (It k))) 3 [.key 7]=some (Qd (a++q::b),[a.length],It q.2.length):=λt=>by refine bs (x:=(Qd (a++q::b),[],Qd (a++q::b))) rfl (bs (x:=a.length) ?_ (bs u rfl));exact bs rfl (bs rfl (bs rfl (bs rfl (xH m e))))
  rw[v]at K;refine ab (aE c (ab (bP (ρ3:=zP f (a++q::b) ⟨s.ps,s.bs++[fw f.rows k s.pl],s.pl⟩ (some (It k))) rfl (ah (ρ3:=zP f (a++q::b) s (some (It k))) rfl rfl (oF hk) rfl) rfl rfl (by rw[aab];omega) ?_) (ab (ag (ρ3:=zP f (a++q::b) ⟨s.ps,s.bs++[fw f.rows k s.pl],fw f.rows k s.pl + 2 * q.2.length⟩ (some (It k))) (ae (aN rfl rfl rfl (fD (gs:=s.bs++[fw f.rows k s.pl]) (g:=fw f.rows k s.pl) rfl ?_)) (ae (dx:=.int 2) rfl (EF (j _) rfl) rfl rfl (dY (.inl (by decide)))) rfl rfl rfl) rfl rfl rfl) rfl))) K
  ·show _=[some (Rl f.rows),some (Lo f),some (Pq (a++q::b)),some (Qd (a++q::b)),some (Il s.ps),some (Il (s.bs++[fw f.rows k s.pl])),some (It s.pl),some (It k)];rw[cy];rfl
  ·rw[aav];have w:ixN (s.bs.map It++[fw f.rows k s.pl].map It).length (-1)=some (s.bs.map It).length:=by unfold ixN;rw[if_neg (by decide),aai,aab,if_pos (by simp;omega)];congr 1;simp;omega
   exact bs w acB
 ·have c:=yO (n:=n + 3) (f:=f) (s:=s) (qs:=qs) (k:=k) (b:=false) (by rw[Bool.eq_false_iff];exact λz=>h (Qk_any.mp z));rw[b9 λq d e=>h ⟨q,d,e⟩]at K;exact ab (s_ifF c rfl) K
theorem ui{n:Nat}{f:Cf}{qs:Pz}(i:qs.Pairwise λx y=>x.1 < y.1)(b:∀q∈qs,0<=q.1)(u:qs.length<=300)(w:f.rows.length<=200):∀{m k:Nat} {o7:Option OD},k + m=f.rows.length->∃e,bb (λd g=>(bc (.nm 7) (.fz d) g).bind λρ1=>aK (pl.pg.ct (n + 3)) zS ρ1) (bL k (m + 1)) (zP f qs (mac f qs k) o7)=some (.nx,zP f qs (inner f qs f.rows.length (mac f qs f.rows.length)) e)
 | 0,k,o7,h=>by
  obtain rfl:k=f.rows.length:=h;have c:(mac f qs f.rows.length).bs.length < 1000:=by rw[eJ b];have:=abO (p:=λq:Int × List Int=>decide (q.1 < (f.rows.length:Int))) (l:=qs);omega
  have a:=yN (n:=n + 3) (f:=f) (qs:=qs) (s:=inner f qs f.rows.length (mac f qs f.rows.length)) (k:=f.rows.length);rw[Dab (by omega)]at a;refine⟨some (It f.rows.length),?_⟩;rw[aV];exact bs (bs (x:=zP f qs (mac f qs f.rows.length) (some (It f.rows.length))) rfl (EO i (aah _) c (ab (s_ifF a rfl) rfl))) rfl
 | m + 1,k,o7,h=>by
  have j:k < f.rows.length:=by omega
  have c:(mac f qs k).bs.length < 1000:=by rw[eJ b];have:=abO (p:=λq:Int × List Int=>decide (q.1 < (k:Int))) (l:=qs);omega
  have a:=yN (n:=n + 3) (f:=f) (qs:=qs) (s:=inner f qs k (mac f qs k)) (k:=k);rw[Dac (by omega)]at a;have z:mac f qs (k + 1)=yK f k (inner f qs k (mac f qs k)):=rfl;have t:(inner f qs k (mac f qs k)).ps.length < 1000000:=by rw[dE,gA];omega
  obtain⟨v,o⟩:=ui (n:=n) i b u w (m:=m) (k:=k + 1) (o7:=some (It k)) (by omega);rw[z]at o;refine⟨v,?_⟩;rw[aV];refine bs (x:=(Fl.nx,zP f qs (yK f k (inner f qs k (mac f qs k))) (some (It k)))) (bs (x:=zP f qs (mac f qs k) (some (It k))) rfl (EO i (aaS j) c ?_)) o;generalize inner f qs k (mac f qs k)=s at *;refine ab (aE a (ab (bP (ρ3:=zP f qs ⟨s.ps++[s.pl],s.bs,s.pl⟩ (some (It k))) rfl rfl rfl rfl (by rw[aab];exact t) ?_) (ab (Bp (r:=s.pl + sz f k) (ρ2:=zP f qs (yK f k s) (some (It k))) rfl (ah (ρ3:=zP f qs ⟨s.ps++[s.pl],s.bs,s.pl⟩ (some (It k))) rfl rfl (Bj (n:=n + 1) (aak j)) rfl) rfl rfl rfl) rfl))) rfl;show _=[some (Rl f.rows),some (Lo f),some (Pq qs),some (Qd qs),some (Il (s.ps++[s.pl])),some (Il s.bs),some (It s.pl),some (It k)];rw[cy];rfl
theorem xI{n:Nat}{f:Cf}{qs:Pz}(a:qs.Pairwise λx y=>x.1 < y.1)(h:∀q∈qs,0<=q.1)(g:qs.length<=300)(l:f.rows.length<=200):pl.pg.call (n + 4) 10 [Rl f.rows,Lo f,Pq qs]=some (Bm (inner f qs f.rows.length (mac f qs f.rows.length)),[Rl f.rows,Lo f,Pq qs]):=by
 obtain⟨o7,e⟩:=ui (n:=n) a h g l (m:=f.rows.length) (k:=0) (o7:=none) (aaU _);generalize inner f qs f.rows.length (mac f qs f.rows.length)=s at e;have b:(((f.rows.length:Nat):Int) + 1).toNat=f.rows.length + 1:=by omega
 obtain⟨p,r,d⟩:=ug (C:=pl.pg.ct (n + 3)) (qs:=qs) (ps:=[]) (o0:=none) (o1:=none) a;have c:bC (pl.pg.ct (n + 3)) ebj [some (Rl f.rows),some (Lo f),some (Pq qs),none,none,none,none,none]=some (.nx,[some (Rl f.rows),some (Lo f),some (Pq qs),some (Qd qs),none,none,none,none]):=mZ (zc:=([],[some (Rl f.rows),some (Lo f),some (Pq qs),none,none,none,none,none])) (dA (ds:=qs.map Po) (ρ2:=[some (Rl f.rows),some (Lo f),some (Pq qs),none,none,none,none,none]) rfl rfl rfl) (by rw[aab];omega) rfl d (by show 3 < 8;decide) rfl;refine ai (fn:=F_placed) (ρ:=[some (Rl f.rows),some (Lo f),some (Pq qs),some (Qd qs),some (Dl s.ps),some (Dl s.bs),some (It s.pl),o7]) rfl rfl (ab c (ab (ρ1:=[some (Rl f.rows),some (Lo f),some (Pq qs),some (Qd qs),some (.lst []),none,none,none]) rfl (ab (ρ1:=[some (Rl f.rows),some (Lo f),some (Pq qs),some (Qd qs),some (.lst []),some (.lst []),none,none]) rfl (ab (ρ1:=zP f qs ⟨[],[],0⟩ none) rfl (ab (bR (ρ1:=zP f qs ⟨[],[],0⟩ none) (eF (n:=(f.rows.length:Int) + 1) (ae (dx:=.int f.rows.length) (dy:=.int 1) (aG rfl rfl blen) rfl rfl rfl rfl) rfl (by omega)) (by rw[b];exact e)) (ar (aj (z:=Bm s) (dW (rs:=[.rf 4,.rf 5,.val (It s.pl)]) (ρ1:=zP f qs s o7) (zs:=[Dl s.ps,Dl s.bs,It s.pl]) (ρ2:=[some (Rl f.rows),some (Lo f),some (Pq qs),some (Qd qs),some (Dl s.ps),some (Dl s.bs),some (It s.pl),o7]) rfl rfl ?_ rfl) rfl))))))) rfl;have o:own1 (zP f qs s o7) (.rf 4)=some (Dl s.ps,[some (Rl f.rows),some (Lo f),some (Pq qs),some (Qd qs),some (Dl s.ps),some (Il s.bs),some (It s.pl),o7]):=by show (frz1 _ (.rf 4)).map _=_;rw[cM rfl (aO _) rfl];rfl
 have i:own1 [some (Rl f.rows),some (Lo f),some (Pq qs),some (Qd qs),some (Dl s.ps),some (Il s.bs),some (It s.pl),o7] (.rf 5)=some (Dl s.bs,[some (Rl f.rows),some (Lo f),some (Pq qs),some (Qd qs),some (Dl s.ps),some (Dl s.bs),some (It s.pl),o7]):=by show (frz1 _ (.rf 5)).map _=_;rw[cM rfl (aO _) rfl];rfl
 have j:mapR own1 [some (Rl f.rows),some (Lo f),some (Pq qs),some (Qd qs),some (Dl s.ps),some (Il s.bs),some (It s.pl),o7] [.rf 5,.val (It s.pl)]=some ([Dl s.bs,It s.pl],[some (Rl f.rows),some (Lo f),some (Pq qs),some (Qd qs),some (Dl s.ps),some (Dl s.bs),some (It s.pl),o7]):=bs i rfl;exact bs o (by show Option.map _ (mapR own1 _ _)=_;rw[j];rfl)
theorem uj{i j:Int}:qm .eq (.int i) (.int j)=some (decide (i=j)):=rfl
structure Pool (N:Nat)(q:Int × List Int):Prop where
 g0:0<=q.1
 g1:q.1<=N
 nb:∀x∈q.2,100<=x/\x < 100000000
 l0:1<=q.2.length
 l1:q.2.length<=100
 un:unl q.2=q.2.length
theorem Bq{C:Ct}{a:E}{lo b:Eo}{ρ ρ1 ρ2 ρ3:DEnv}{x:OR}{l u:Option Int}{ds:List PyData}(d:ev C a ρ=some (x,ρ1))(f:BS C lo ρ1=some (l,ρ2))(c:BS C b ρ2=some (u,ρ3))(e:l7 ρ3 x=some ds):ev C (.sll a lo b) ρ=some (.val (.lst ((cutD ds l u).map OD.fz)),ρ3):=bs d (bs f (bs c (bs e rfl)))
def qL(f:Cf)(a:Int):Int:=((f.rows[a.toNat]?).map R.num).getD 0
def j6(f:Cf)(qs:Pz)(z:Int × Int):Bool:=decide (qL f z.1∈((qs[z.2.toNat]?).map (·.2)).getD [])
structure Qok (f:Cf)(qs:Pz):Prop where
 ok:∀q∈qs,Pool f.rows.length q
 inc:qs.Pairwise λx y=>x.1 < y.1
abbrev Zp(z:Int × Int):PyData:=.tuple [.int z.1,.int z.2]
theorem iH:∀{gs us:List Int},fP (gs.map PyData.int) (us.map PyData.int)=(gs.zip us).map Zp
 | [],_=>rfl
 | _::_,[]=>rfl
 | a::as,b::bs=>by have:=iH (gs:=as) (us:=bs);unfold fP at this ⊢;rw[aal,aal,acv,abo,aal,this]
def Zok(f:Cf)(qs:Pz)(z:Int × Int):Prop:=z.1∈gIx 0 f.rows/\0<=z.2/\z.2 < qs.length
theorem Zok.row{f:Cf}{qs:Pz}{z:Int × Int}(h:Zok f qs z):∃(i:Nat) (x y:Int),z.1=i/\i < f.rows.length/\f.rows[i]?=some (.st x y)/\qL f z.1=y:=by
 obtain⟨j,r,e,a,c⟩:=gIx_mem h.1;obtain⟨x,y,rfl⟩:=gr_st c;have b:z.1=(j:Int):=by omega
 refine⟨j,x,y,b,(aao.mp a).1,a,?_⟩;unfold qL;rw[b,aaT,a];rfl
abbrev Fp(qs:Pz)(us:List Int):OD:=.fz (.tuple [.list (qs.map Po),.list (us.map PyData.int)])
theorem um:∀{w l:List Int},w.Nodup->(∀x∈w,x∈l)->w.length<=l.length
 | [],l,_,_=>aaH _
 | x::w,l,h,hs=>by obtain⟨c,d⟩:=aaA.mp h;have b:=hs x aag;have:=um (w:=w) (l:=l.erase x) d λy a=>(List.mem_erase_of_ne λe=>c (by rw[<- e];exact a)).mpr (hs y (aaj _ a));have f:=abQ b;rw[List.length_erase_of_mem b]at this;rw[aam];omega
theorem Br{w ns:List Int}(h:w.Nodup)(b:∀x∈w,x∈ns):w.length<=unl ns:=by refine um h λx f=>?_;have e:=PyProof.Rows.firstMet_any (λi=>ns.getD i 0) ns.length x;obtain⟨i,a,g⟩:=List.mem_iff_getElem.mp (b x f);have c:((List.range ns.length).map λi=>ns.getD i 0).any (· == x)=true:=aaV.mpr ⟨x,aau.mpr ⟨i,abU.mpr a,by simp[List.getD,a,g]⟩,by simp⟩;rw[c]at e;obtain⟨y,d,j⟩:=aaV.mp e;rw[<- eq_of_beq j];exact d
theorem Bt{ns:List Int}(h:ns.Nodup):unl ns=ns.length:=Nat.le_antisymm (PyProof.Rows.firstMet_length_le _ _) (Br h λ_ a=>a)
theorem fF:∀ns:List Int,g8 (ns.map PyData.int)=some ns
 | []=>rfl
 | n::ns=>bs rfl (bs (fF ns) rfl)
theorem iI{n:Nat}:∀{rs:List R} {i:Int} {out:List PyData} {o0 o1:Option OD},∃a,bW (cm (pl.pg.ct (n + 1)) (.tp [0,1]) (.some G5) (.nm 0)) (enF i rs) out [o0,o1]=some (out++(gIx i rs).map PyData.int,a)
 | [],i,out,o0,o1=>⟨[o0,o1],by rw[gIx,aaK,aap];rfl⟩
 | r::rs,i,out,o0,o1=>by
  have b:bf (pl.pg.ct (n + 1)) G5 [some (It i),some (Rd r)]=some (r.gr,[some (It i),some (Rd r)]):=bz (ah (ρ3:=[some (It i),some (Rd r)]) rfl rfl (uc r) rfl);rw[gIx];cases c:r.gr with
  | false =>rw[c]at b;obtain⟨a,e⟩:=iI (n:=n) (rs:=rs) (i:=i + 1) (out:=out++[]) (o0:=some (It i)) (o1:=some (Rd r));refine⟨a,bs (x:=([],[some (It i),some (Rd r)])) (qz rfl b) ?_⟩;rw[if_neg aae,e,aap]
  | true =>rw[c]at b;obtain⟨a,e⟩:=iI (n:=n) (rs:=rs) (i:=i + 1) (out:=out++[.int i]) (o0:=some (It i)) (o1:=some (Rd r));refine⟨a,bs (x:=([.int i],[some (It i),some (Rd r)])) (qy rfl b rfl rfl) ?_⟩;rw[if_pos rfl,e,aac];rfl
theorem lay_ints:∀ns:List Int,PyData.canLayAll0 (ns.map PyData.int)=true
 | []=>rfl
 | _::r=>by simp[PyData.canLayAll0,PyData.canLay0,lay_ints r]
theorem dF:∀ns:List Int,PyData.depthAll (ns.map PyData.int)=0
 | []=>rfl
 | _::r=>by simp[PyData.depthAll,PyData.depth,dF r]
theorem xJ(ns:List Int):qm .eq (.list (ns.map PyData.int)) (.list [])=some ns.isEmpty:=by
 have h:SeqAt.shaped (.list (ns.map PyData.int))=true:=by simp[SeqAt.shaped,PyData.canLay0,PyData.depth,lay_ints,dF]
 have a:SeqAt.shaped (.list [])=true:=by decide +kernel
 have:PyData.eqv (.list (ns.map PyData.int)) (.list [])=ns.isEmpty:=by cases ns<;>simp[PyData.eqv,PyData.eqvAll]
 show (if (SeqAt.shaped (.list (ns.map PyData.int)) && SeqAt.shaped (.list []))=true then some (PyData.eqv (.list (ns.map PyData.int)) (.list [])) else none)=_;rw[h,a,Bool.and_self,if_pos rfl,this]
theorem m3{ρ:DEnv}{j:Nat}{ds:List PyData}(h:ρ[j]?.join=some (.lst (ds.map OD.fz))):l7 ρ (.rf j)=some ds:=by show (ρ[j]?.join).bind listOf=_;rw[h];exact jx ds
theorem Bu{ρ:DEnv}{ds:List PyData}:l7 ρ (.val (.lst (ds.map OD.fz)))=some ds:=by show p0 (ds.map OD.fz)=_;exact jx ds
theorem uo{C:Ct}{a:E}{ρ ρ1 ρ2:DEnv}{x:OR}{d:PyData}(b:ev C a ρ=some (x,ρ1))(c:frz1 ρ1 x=some (d,ρ2)):ev C (.frz a) ρ=some (.val (.fz d),ρ2):=bs b (bs c rfl)
theorem Bv{C:Ct}{i:Nat}{a e:E}{ρ ρ1 ρ2 ρ3:DEnv}{y x:OR}{k:Int}{d:PyData}{xs ys:List OD}(c:ρ[i]?.join=some (.lst ys))(hk:ev C a ρ=some (y,ρ1))(m:ev C e ρ1=some (x,ρ2))(h:au ρ2 y=some (.int k))(j:au ρ2 x=some d)(l:Aw d=true)(g:ρ2[i]?.join=some (.lst xs))(b:0<=k/\k<=xs.length/\xs.length < 100000)(f:ρ2.set i (some (.lst (xs.take k.toNat++.fz d::xs.drop k.toNat)))=ρ3):bC C (.ins i a e) ρ=some (.nx,ρ3):=bs c (bs rfl (bs hk (bs m (bs h (bs rfl (bs j (bg l (bs g (bs rfl (bg b (by rw[<- f])))))))))))
theorem Bw{C:Ct}{a b:E}{ρ ρ1 ρ2:DEnv}{x y:OR}{i j:Int}(e:ev C a ρ=some (x,ρ1))(f:ev C b ρ1=some (y,ρ2))(d:au ρ2 x=some (.int i))(c:au ρ2 y=some (.int j))(h:-(2 ^ 62)<=i/\i < 2 ^ 62/\-(2 ^ 62)<=j/\j < 2 ^ 62):qo C (.rg2 a b) ρ=some (bL i (j - i).toNat,ρ2):=bs e (bs f (bs d (bs rfl (bs c (bs rfl (bg h rfl))))))
def j7(lo:Int)(n:Nat):List Int:=(List.range n).map λ(i:Nat)=>lo + (i:Int)
theorem By{lo:Int}{n:Nat}:bL lo n=(j7 lo n).map PyData.int:=by unfold bL j7;rw[aaR];rfl
theorem uq{lo:Int}{n:Nat}{x:Int}(h:x∈j7 lo n):lo<=x/\x < lo + n:=by obtain⟨i,a,rfl⟩:=aau.mp h;have:=abU.mp a;omega
theorem xK{lo:Int}{n:Nat}:(j7 lo n).Nodup:=by unfold j7 List.Nodup;rw[ab3];exact (List.nodup_range (n:=n)).imp λ{a b} h z=>h (by omega)
theorem iJ{C:Ct}{w:OD}{ns:List Int}(c:∀y:Int,bf C G4 [some (It y),some w]=some (!decide (y∈ns),[some (It y),some w])):∀{xs:List Int} {out:List PyData} {o:Option OD},∃a,bW (cm C (.nm 0) (.some G4) (.nm 0)) (xs.map PyData.int) out [o,some w]=some (out++(xs.filter λy=>!decide (y∈ns)).map PyData.int,[a,some w])
 | [],out,o=>⟨o,by show some (out,_)=some (out++[],_);rw[aap]⟩
 | x::xs,out,o=>by
  have t:=c x;cases b:!decide (x∈ns) with
  | true =>rw[b]at t;obtain⟨a,e⟩:=iJ c (xs:=xs) (out:=out++[.int x]) (o:=some (It x));refine⟨a,bs (x:=([.int x],[some (It x),some w])) (qy rfl t rfl rfl) ?_⟩;rw[ace (p:=λy=>!decide (y∈ns)) b,aal];rw[aac]at e;exact e
  | false =>rw[b]at t;obtain⟨a,e⟩:=iJ c (xs:=xs) (out:=out++[]) (o:=some (It x));refine⟨a,bs (x:=([],[some (It x),some w])) (qz rfl t) ?_⟩;rw[acf (p:=λy=>!decide (y∈ns)) (by rw[b];exact aae)];rw[aap]at e ⊢;exact e
theorem ur{ds:List PyData}{k:Nat}:cutD ds none (some (k:Int))=ds.take k:=by
 have a:HT.sIx ds.length 0 none=0:=rfl;have b:HT.sIx ds.length ds.length (some (k:Int))=min k ds.length:=by unfold HT.sIx;simp only;rw[if_neg (by omega)];rfl
 unfold cutD;rw[b,a,List.drop_zero,Nat.sub_zero];by_cases h:k<=ds.length
 ·rw[abF h]
 ·rw[Nat.min_eq_right (by omega),ab2 (aah _),ab2 (by omega)]
abbrev gE(t:OD)(rs:List R)(g gs:List Int)(o4 o5:Option OD):DEnv:=[some t,some (Rl rs),some (Dl g),some (Il gs),o4,o5,none,none,none,none,none,none]
abbrev gB:Ss:=match F_any_plan.body with | .cons _ (.cons _ (.cons (.fr _ _ b) _))=>b | _=>.nil
theorem iK{n:Nat}{rs:List R}{g:List Int}(M:rs.length<=200):∀{j i m:Nat} {a b c:Int} {gs:List Int} {o4 o5:Option OD},TpOk b c m->m + j<=100000->gs.length + j<=50->gs.Nodup->(∀x∈gs,0<=x/\x<=rs.length) ->
  ∃U P O f C H,bb (λd I=>(bc (.nm 4) (.fz d) I).bind λρ1=>aK (pl.pg.ct (n + 1)) gB ρ1) (bL i j) (gE (Tp a b c) rs g gs o4 o5)=some (.nx,gE (Tp U P O) rs g f C H)/\TpOk P O (m + j)/\f.length<=gs.length + j/\f.Nodup/\(∀x∈f,0<=x/\x<=rs.length)/\(0 < gs.length + j->0 < f.length)
 | 0,i,m,a,b,c,gs,o4,o5,h,_,_,nd,hb=>⟨a,b,c,gs,o4,o5,rfl,h,by omega,nd,hb,λz=>by omega⟩
 | j + 1,i,m,a,b,c,gs,o4,o5,h,hm,hl,nd,hb=>by
  obtain⟨x,k,o,l,Q,X,Y,J⟩:=aL (n:=n) (a:=a) (many:=(rs.length:Int) + 1) h (by omega) (by omega) (by omega);have W:(pl.pg.ct (n + 1)).call=pl.pg.call (n + 1):=rfl;rw[<- W]at Q;have L:bC (pl.pg.ct (n + 1)) ea6 (gE (Tp a b c) rs g gs (some (It i)) o5)=some (.nx,gE (Tp k o l) rs g gs (some (It i)) (some (It x))):=ag (ρ2:=gE (Tp k o l) rs g gs (some (It i)) o5) (ah (rs:=[.rf 0,.val (It ((rs.length:Int) + 1))]) (ρ1:=gE (Tp a b c) rs g gs (some (It i)) o5) (ρ3:=gE (Tp k o l) rs g gs (some (It i)) o5) (aa rfl (aa (ae (dx:=.int rs.length) (aG (rs:=[.val (Rl rs)]) rfl rfl blen) rfl rfl rfl rfl) af)) rfl Q rfl) rfl rfl rfl;have t:bf (pl.pg.ct (n + 1)) edp (gE (Tp k o l) rs g gs (some (It i)) (some (It x)))=some (!decide (x∈gs),gE (Tp k o l) rs g gs (some (It i)) (some (It x))):=ao (aq (dx:=.int x) (dy:=.list (gs.map PyData.int)) rfl rfl rfl (aO _) ud);by_cases u:x∈gs
  ·rw[Dac u]at t;obtain⟨G,v,A,f,D,F,w,B,N,q,s,p⟩:=iK (n:=n) M (g:=g) (j:=j) (i:=i + 1) (a:=k) (gs:=gs) (o4:=some (It i)) (o5:=some (It x)) J (by omega) (by omega) nd hb;refine⟨G,v,A,f,D,F,?_,B.up (by omega),by omega,q,s,λ_=>p (by have:=abQ u;omega)⟩;rw[aV];exact bs (x:=(Fl.nx,gE (Tp k o l) rs g gs (some (It i)) (some (It x)))) (bs (x:=gE (Tp a b c) rs g gs (some (It i)) o5) rfl (ab L (ab (s_ifF t rfl) rfl))) w
  ·rw[Dab u]at t;have T:bC (pl.pg.ct (n + 1)) (.app 3 (.nm 5)) (gE (Tp k o l) rs g gs (some (It i)) (some (It x)))=some (.nx,gE (Tp k o l) rs g (gs++[x]) (some (It i)) (some (It x))):=bP (xs:=gs.map It) (ρ2:=gE (Tp k o l) rs g gs (some (It i)) (some (It x))) rfl rfl rfl rfl (by rw[aab];omega) (by show _=[_,_,_,some (Il (gs++[x])),_,_,none,none,none,none,none,none];rw[cy];rfl);obtain⟨G,v,A,f,D,F,w,B,N,q,s,p⟩:=iK (n:=n) M (g:=g) (j:=j) (i:=i + 1) (a:=k) (gs:=gs++[x]) (o4:=some (It i)) (o5:=some (It x)) J (by omega) (by rw[aai,aaO];omega) (aaz.mpr ⟨nd,aaA.mpr ⟨aaq,aaQ⟩,λy r z S e=>u (by rw[aaF.mp S]at e;rw[<- e];exact r)⟩) (λy r=>by
    rcases aan.mp r with r | r
    ·exact hb y r
    ·rw[aaF.mp r];omega)
   rw[aai,aaO]at N p;refine⟨G,v,A,f,D,F,?_,B.up (by omega),by omega,q,s,λ_=>p (by omega)⟩;rw[aV];exact bs (x:=(Fl.nx,gE (Tp k o l) rs g (gs++[x]) (some (It i)) (some (It x)))) (bs (x:=gE (Tp a b c) rs g gs (some (It i)) o5) rfl (ab L (ab (aE t (ab T rfl)) rfl))) w
abbrev qM(qs:Pz):OD:=.lst ((qs.map Po).map OD.fz)
abbrev yE(t:OD)(f:Cf)(g gaps us:List Int)(qs:Pz)(at' gap:Int)(o9:Option OD)(o4 o10 o11:Option OD):DEnv:=[some t,some (Rl f.rows),some (Dl g),some (Dl gaps),o4,some (It gap),some (Dl us),some (qM qs),some (It at'),o9,o10,o11]
abbrev yB:Ss:=match F_any_plan.body with | .cons _ (.cons _ (.cons _ (.cons _ (.cons _ (.cons _ (.cons (.fr _ _ b) _))))))=>b | _=>.nil
abbrev nB:Ss:=match yB with | .cons _ (.cons (.fr _ _ b) _)=>b | _=>.nil
def yP(ns:List Int):Prop:=ns.Nodup/\∀x∈ns,100<=x/\x < 100000000
theorem uv{ns:List Int}{x:Int}{k:Nat}:(ns.take k++x::ns.drop k).Perm (x::ns):=by
 have:=aaw (a:=x) (l₁:=ns.take k) (l₂:=ns.drop k)
 rwa [acC]at this
theorem iL{n:Nat}{f:Cf}{g gaps us:List Int}{qs:Pz}{at' gap:Int}{o11:Option OD}(hf:Nb f.rows):∀{zs:List (Int × Int)} {m:Nat} {a b c:Int} {ns:List Int} {o4 o10:Option OD},(∀z∈zs,z.1∈gIx 0 f.rows)->TpOk b c m->m + zs.length<=200000->ns.length + zs.length<=1000->yP ns ->
  ∃a' P J l C u,bb (λd B=>(bc (.tp [4,10]) (.fz d) B).bind λρ1=>aK (pl.pg.ct (n + 1)) nB ρ1) (zs.map Zp) (yE (Tp a b c) f g gaps us qs at' gap (some (Il ns)) o4 o10 o11)=some (.nx,yE (Tp a' P J) f g gaps us qs at' gap (some (Il l)) C u o11)/\TpOk P J (m + zs.length)/\l.length<=ns.length + zs.length/\yP l/\(∀x∈ns,x∈l)/\∀z∈zs,z.2=at'->qL f z.1∈l
 | [],m,a,b,c,ns,o4,o10,_,h,_,_,hn=>⟨a,b,c,ns,o4,o10,rfl,h,by omega,hn,λx hx=>hx,λz F=>absurd F aaq⟩
 | z::zs,m,a,b,c,ns,o4,o10,F,h,hm,hl,hn=>by
  rw[aam]at hm hl;obtain⟨i,x,y,Y,hi,Z,v⟩:=Zok.row (f:=f) (qs:=[(0,[])]) (z:=(z.1,0)) ⟨F z aag,by show (0:Int)<=0;omega,by show (0:Int) < ((1:Nat):Int);omega⟩;have Y:z.1=(i:Int):=Y;have v:qL f z.1=y:=v;have a3:100<=y/\y < 100000000:=by
   have L:=hf _ (aaI Z);have U:R.gr (.st x y)=true:=by
    obtain⟨j,r,e,L,U⟩:=gIx_mem (F z aag);have:j=i:=by omega
    subst this;rw[Z]at L;cases L;exact U
   have U:=Daa U;have L:(0<=x/\x<=200)/\0<=y/\y<=99999999:=L;omega
  have A:∀{t X o10},ev (pl.pg.ct (n + 1)) ec0 (yE t f g gaps us qs at' gap X (some (It z.1)) o10 o11)=some (.val (It y),yE t f g gaps us qs at' gap X (some (It z.1)) o10 o11):=λ{t X o10}=>aN (aN rfl rfl rfl (a9 (by rw[Y];exact cR Z))) rfl rfl (bq (cQ (k:=2) rfl));have st:(bc (.tp [4,10]) (.fz (Zp z)) (yE (Tp a b c) f g gaps us qs at' gap (some (Il ns)) o4 o10 o11))=some (yE (Tp a b c) f g gaps us qs at' gap (some (Il ns)) (some (It z.1)) (some (It z.2)) o11):=rfl;have I:bf (pl.pg.ct (n + 1)) edr (yE (Tp a b c) f g gaps us qs at' gap (some (Il ns)) (some (It z.1)) (some (It z.2)) o11)=some (decide (z.2=at'),yE (Tp a b c) f g gaps us qs at' gap (some (Il ns)) (some (It z.1)) (some (It z.2)) o11):=ao (aq rfl rfl rfl rfl uj);have G:bf (pl.pg.ct (n + 1)) ebu (yE (Tp a b c) f g gaps us qs at' gap (some (Il ns)) (some (It z.1)) (some (It z.2)) o11)=some (!decide (y∈ns),yE (Tp a b c) f g gaps us qs at' gap (some (Il ns)) (some (It z.1)) (some (It z.2)) o11):=ao (aq (dx:=.int y) (dy:=.list (ns.map PyData.int)) A rfl rfl (aO _) ud);have s:bf (pl.pg.ct (n + 1)) ebd (yE (Tp a b c) f g gaps us qs at' gap (some (Il ns)) (some (It z.1)) (some (It z.2)) o11)=some (false,yE (Tp a b c) f g gaps us qs at' gap (some (Il ns)) (some (It z.1)) (some (It z.2)) o11)->(z.2=at'->y∈ns)->∃a' P J l C u,bb (λd B=>(bc (.tp [4,10]) (.fz d) B).bind λρ1=>aK (pl.pg.ct (n + 1)) nB ρ1) ((z::zs).map Zp) (yE (Tp a b c) f g gaps us qs at' gap (some (Il ns)) o4 o10 o11)=some (.nx,yE (Tp a' P J) f g gaps us qs at' gap (some (Il l)) C u o11)/\TpOk P J (m + (zs.length + 1))/\l.length<=ns.length + (zs.length + 1)/\yP l/\(∀x∈ns,x∈l)/\∀w∈z::zs,w.2=at'->qL f w.1∈l:=λt q=>by
   obtain⟨a2,b2,c2,l,p4,D,e2,G,l2,n2,M,z2⟩:=iL (n:=n) hf (g:=g) (gaps:=gaps) (us:=us) (qs:=qs) (at':=at') (gap:=gap) (o11:=o11) (zs:=zs) (a:=a) (ns:=ns) (o4:=some (It z.1)) (o10:=some (It z.2)) (λw p=>F w (aaj _ p)) h (by omega) (by omega) hn;refine⟨a2,b2,c2,l,p4,D,bs (x:=(Fl.nx,yE (Tp a b c) f g gaps us qs at' gap (some (Il ns)) (some (It z.1)) (some (It z.2)) o11)) (bs st (ab (s_ifF t rfl) rfl)) e2,G.up (by omega),by omega,n2,M,λw p T=>?_⟩;rcases aaa.mp p with rfl | p
   ·rw[v];exact M y (q T)
   ·exact z2 w p T
  by_cases ha:z.2=at'
  ·rw[Dac ha]at I;by_cases q:y∈ns
   ·rw[Dac q]at G;exact s (mK I G) λ_=>q
   ·rw[Dab q]at G;clear s;obtain⟨k,H,Q,O,e1,k0,k1,tk⟩:=aL (n:=n) (a:=a) (many:=(ns.length:Int) + 1) h (by omega) (by omega) (by omega);have ec:(pl.pg.ct (n + 1)).call=pl.pg.call (n + 1):=rfl;rw[<- ec]at e1;obtain⟨o,rfl⟩:∃o:Nat,k=o:=⟨k.toNat,by omega⟩
    have N:ev (pl.pg.ct (n + 1)) Ir (yE (Tp a b c) f g gaps us qs at' gap (some (Il ns)) (some (It z.1)) (some (It z.2)) o11)=some (.val (It ((ns.length:Int) + 1)),yE (Tp a b c) f g gaps us qs at' gap (some (Il ns)) (some (It z.1)) (some (It z.2)) o11):=ae (dx:=.int ns.length) (aG (rs:=[.rf 9]) (ds:=[.list (ns.map PyData.int)]) rfl (by show (au _ (.rf 9)).bind _=_;rw[show au (yE (Tp a b c) f g gaps us qs at' gap (some (Il ns)) (some (It z.1)) (some (It z.2)) o11) (.rf 9)=some (.list (ns.map PyData.int)) from aO ns];rfl) blen) rfl rfl rfl rfl;have s1:bC (pl.pg.ct (n + 1)) eam (yE (Tp a b c) f g gaps us qs at' gap (some (Il ns)) (some (It z.1)) (some (It z.2)) o11)=some (.nx,yE (Tp H Q O) f g gaps us qs at' gap (some (Il (ns.take o++y::ns.drop o))) (some (It z.1)) (some (It z.2)) o11):=Bv (k:=(o:Int)) (d:=.int y) (ys:=ns.map It) (xs:=ns.map It) (ρ1:=yE (Tp H Q O) f g gaps us qs at' gap (some (Il ns)) (some (It z.1)) (some (It z.2)) o11) (ρ2:=yE (Tp H Q O) f g gaps us qs at' gap (some (Il ns)) (some (It z.1)) (some (It z.2)) o11) rfl (ah (rs:=[.rf 0,.val (It ((ns.length:Int) + 1))]) (ρ1:=yE (Tp a b c) f g gaps us qs at' gap (some (Il ns)) (some (It z.1)) (some (It z.2)) o11) (ρ3:=yE (Tp H Q O) f g gaps us qs at' gap (some (Il ns)) (some (It z.1)) (some (It z.2)) o11) (aa rfl (aa N af)) rfl e1 rfl) A rfl rfl rfl rfl (by rw[aab];omega) (by
     have:(ns.map It).take (o:Int).toNat++It y::(ns.map It).drop (o:Int).toNat=(ns.take o++y::ns.drop o).map It:=by rw[aaT,aav,aal,ab6,List.map_drop]
     rw[this];rfl)
    have S:=uv (ns:=ns) (x:=y) (k:=o);have W:yP (ns.take o++y::ns.drop o):=⟨S.nodup_iff.mpr (aaA.mpr ⟨q,hn.1⟩),λw p=>by
     rcases aaa.mp (S.mem_iff.mp p) with rfl | p
     ·exact a3
     ·exact hn.2 w p⟩
    have a4:(ns.take o++y::ns.drop o).length=ns.length + 1:=by rw[S.length_eq,aam]
    obtain⟨a2,b2,c2,l,p4,D,e2,a0,l2,n2,M,z2⟩:=iL (n:=n) hf (g:=g) (gaps:=gaps) (us:=us) (qs:=qs) (at':=at') (gap:=gap) (o11:=o11) (zs:=zs) (a:=H) (ns:=ns.take o++y::ns.drop o) (o4:=some (It z.1)) (o10:=some (It z.2)) (λw p=>F w (aaj _ p)) tk (by omega) (by omega) W;refine⟨a2,b2,c2,l,p4,D,bs (x:=(Fl.nx,yE (Tp H Q O) f g gaps us qs at' gap (some (Il (ns.take o++y::ns.drop o))) (some (It z.1)) (some (It z.2)) o11)) (bs st (ab (aE (mK I G) (ab s1 rfl)) rfl)) e2,a0.up (by rw[aam];omega),by rw[aam];omega,n2,λw p=>M w (S.mem_iff.mpr (aaj _ p)),λw p T=>?_⟩;rcases aaa.mp p with rfl | p
    ·rw[v];exact M y (S.mem_iff.mpr aag)
    ·exact z2 w p T
  ·rw[Dab ha]at I;exact s (tS I) λe=>absurd e ha
theorem fill{n m:Nat}{f:Cf}{g gaps us:List Int}{qs:Pz}{at' gap:Int}{a b c:Int}{ns:List Int}{o4 o10 o11:Option OD}(h:TpOk b c m)(hm:m<=300000)(T:yP ns)(h0:0 < ns.length)(hl:ns.length<=100) :
  ∃a' b' c' A G,bC (pl.pg.ct (n + 1)) (match yB with | .cons _ (.cons _ (.cons s _))=>s | _=>.cont) (yE (Tp a b c) f g gaps us qs at' gap (some (Il ns)) o4 o10 o11)=some (.nx,yE (Tp a' b' c') f g gaps us qs at' gap (some (Il A)) o4 o10 G)/\TpOk b' c' (m + 2)/\yP A/\(∀x∈ns,x∈A)/\0 < A.length/\A.length<=100:=by
 obtain⟨x,p,r,q,e1,x0,x1,t1⟩:=aL (n:=n) (a:=a) (many:=24) h (by omega) (by decide) (by decide);obtain⟨y,O,I,M,e2,y0,y1,t2⟩:=aL (n:=n) (a:=p) (many:=2) t1 (by omega) (by decide) (by decide);have ec:(pl.pg.ct (n + 1)).call=pl.pg.call (n + 1):=rfl;rw[<- ec]at e1 e2;have t:bf (pl.pg.ct (n + 1)) ebp (yE (Tp a b c) f g gaps us qs at' gap (some (Il ns)) o4 o10 o11)=some (decide (x=0),yE (Tp p r q) f g gaps us qs at' gap (some (Il ns)) o4 o10 o11):=ao (aq (ah (ρ3:=yE (Tp p r q) f g gaps us qs at' gap (some (Il ns)) o4 o10 o11) rfl rfl e1 rfl) rfl rfl rfl uj);by_cases hx:x=0
 ·rw[Dac hx]at t;obtain⟨d,B⟩:∃d,d=((j7 50000000 100).filter λy=>!decide (y∈ns)).take (100 - ns.length):=⟨_,rfl⟩
  have P:∀z∈d,z∈j7 50000000 100/\z ∉ ns:=λz v=>by rw[B]at v;obtain⟨q1,q2⟩:=aa3.mp (acr v);exact⟨q1,by simpa using q2⟩
  have S:d.Nodup:=by rw[B];exact List.Sublist.nodup (List.take_sublist _ _) (List.Sublist.nodup List.filter_sublist xK)
  have a5:d.length<=100 - ns.length:=by rw[B,aaY];omega
  obtain⟨o',J⟩:=iJ (C:=pl.pg.ct (n + 1)) (w:=Il ns) (ns:=ns) (λy=>ao (aq (dx:=.int y) (dy:=.list (ns.map PyData.int)) rfl rfl rfl (aO _) ud)) (xs:=j7 50000000 100) (out:=[]) (o:=none);rw[aaD,<- By]at J;generalize hρ:yE (Tp p r q) f g gaps us qs at' gap (some (Il ns)) o4 o10 o11=ρ at t;have D:ev (pl.pg.ct (n + 1)) IA ρ=some (.val (.lst ((((j7 50000000 100).filter λy=>!decide (y∈ns)).map PyData.int).map OD.fz)),ρ):=dB (ds:=bL 50000000 100) (ρ1:=ρ) (ρ2:=ρ) (zc:=([some (Il ns)],ρ.set 9 none)) (Bw (i:=50000000) (j:=50000100) rfl rfl rfl rfl (by decide)) (by rw[gZ];decide) (by rw[<- hρ];rfl) J (by rw[<- hρ];rfl);have N:ev (pl.pg.ct (n + 1)) G8 ρ=some (.val (It ((100 - ns.length:Nat):Int)),ρ):=by have:ev (pl.pg.ct (n + 1)) edb ρ=some (.val (It ns.length),ρ):=aG (rs:=[.rf 9]) (ρ1:=ρ) (ds:=[.list (ns.map PyData.int)]) (by rw[<- hρ];rfl) (by show (au _ (.rf 9)).bind _=_;rw[show au ρ (.rf 9)=some (.list (ns.map PyData.int)) by rw[<- hρ];exact aO ns];rfl) blen;have e:=ae (o:=.sub) (C:=pl.pg.ct (n + 1)) (a:=.int 100) (ρ:=ρ) (dx:=.int 100) (dy:=.int ns.length) rfl this rfl rfl rfl;rw[e,show (100:Int) - (ns.length:Int)=((100 - ns.length:Nat):Int) by omega]
  have L:ev (pl.pg.ct (n + 1)) eai ρ=some (.val (.lst ((d.map PyData.int).map OD.fz)),ρ):=by have hv:BS (pl.pg.ct (n + 1)) (.some G8) ρ=some (some ((100 - ns.length:Nat):Int),ρ):=bs N rfl;have:=Bq (lo:=.none) (l:=none) (u:=some ((100 - ns.length:Nat):Int)) D rfl hv Bu;rw[ur,<- ab6,<- B]at this;exact this
  have Z:bC (pl.pg.ct (n + 1)) ead ρ=some (.nx,yE (Tp p r q) f g gaps us qs at' gap (some (Il ns)) o4 o10 (some (Il d))):=ag (ρ2:=ρ) (z:=Il d) L (by rw[cx];rfl) (by rw[<- hρ];rfl) (by rw[<- hρ];rfl);have H:∀{W:List Int},Il W=.lst ((W.map PyData.int).map OD.fz):=λ{W}=>by rw[cx]
  have r9:l7 (yE (Tp p r q) f g gaps us qs at' gap (some (Il ns)) o4 o10 (some (Il d))) (.rf 9)=some (ns.map PyData.int):=m3 (by show some (Il ns)=_;rw[H]);have F:l7 (yE (Tp p r q) f g gaps us qs at' gap (some (Il ns)) o4 o10 (some (Il d))) (.rf 11)=some (d.map PyData.int):=m3 (by show some (Il d)=_;rw[H]);have X:ev (pl.pg.ct (n + 1)) Ib (yE (Tp p r q) f g gaps us qs at' gap (some (Il ns)) o4 o10 (some (Il d)))=some (.val (Il (ns++d)),yE (Tp p r q) f g gaps us qs at' gap (some (Il ns)) o4 o10 (some (Il d))):=by have:=fb (C:=pl.pg.ct (n + 1)) (a:=.nm 9) (b:=.nm 11) (ρ:=yE (Tp p r q) f g gaps us qs at' gap (some (Il ns)) o4 o10 (some (Il d))) rfl rfl r9 F (by rw[aab,aab];omega);rw[<- aav,cx]at this;exact this
  have a3:ev (pl.pg.ct (n + 1)) Ia (yE (Tp p r q) f g gaps us qs at' gap (some (Il ns)) o4 o10 (some (Il d)))=some (.val (Il (d++ns)),yE (Tp p r q) f g gaps us qs at' gap (some (Il ns)) o4 o10 (some (Il d))):=by have:=fb (C:=pl.pg.ct (n + 1)) (a:=.nm 11) (b:=.nm 9) (ρ:=yE (Tp p r q) f g gaps us qs at' gap (some (Il ns)) o4 o10 (some (Il d))) rfl rfl F r9 (by rw[aab,aab];omega);rw[<- aav,cx]at this;exact this
  obtain⟨w,hw,ew⟩:=gz (xs:=[ns++d,d++ns]) y0 y1;have U:atI [Il (ns++d),Il (d++ns)] y=some (Il w):=by
   obtain⟨k,Y,a0⟩:=bnd ew;refine bs (x:=k) Y ?_;have:([ns++d,d++ns].map Il)[k]?=some (Il w):=by rw[aax,a0];rfl
   exact this
  have Q:w.Perm (ns++d):=by
   simp only[aaa,aaq,or_false]at hw;rcases hw with rfl | rfl
   ·exact List.Perm.refl _
   ·exact aa1
  have s9:bC (pl.pg.ct (n + 1)) ean (yE (Tp p r q) f g gaps us qs at' gap (some (Il ns)) o4 o10 (some (Il d)))=some (.nx,yE (Tp O I M) f g gaps us qs at' gap (some (Il w)) o4 o10 (some (Il d))):=ag (ρ2:=yE (Tp O I M) f g gaps us qs at' gap (some (Il ns)) o4 o10 (some (Il d))) (z:=Il w) (aN (x:=.val (.lst [Il (ns++d),Il (d++ns)])) (ρ1:=yE (Tp p r q) f g gaps us qs at' gap (some (Il ns)) o4 o10 (some (Il d))) (y:=.val (It y)) (ρ2:=yE (Tp O I M) f g gaps us qs at' gap (some (Il ns)) o4 o10 (some (Il d))) (ax (aa X (aa a3 af)) rfl rfl) (ah (ρ3:=yE (Tp O I M) f g gaps us qs at' gap (some (Il ns)) o4 o10 (some (Il d))) rfl rfl e2 rfl) rfl (f7 U)) rfl rfl rfl;have a4:w.length=ns.length + d.length:=by rw[Q.length_eq,aai]
  refine⟨O,I,M,w,some (Il d),aE t (ab Z (ab s9 rfl)),t2,⟨?_,λz v=>?_⟩,λz v=>Q.mem_iff.mpr (aaf _ v),by omega,by omega⟩
  ·exact Q.nodup_iff.mpr (aaz.mpr ⟨T.1,S,λz v u hu e=>(P u hu).2 (e ▸ v)⟩)
  ·rcases aan.mp (Q.mem_iff.mp v) with v | v
   ·exact T.2 z v
   ·have:=uq (P z v).1;omega
 ·rw[Dab hx]at t;exact⟨p,r,q,ns,o11,s_ifF t rfl,t1.up (by omega),T,λz v=>v,h0,hl⟩
def enN:Nat->List PyData->List PyData
 | _,[]=>[]
 | i,d::ds=>.tuple [.int i,d]::enN (i + 1) ds
theorem oM:∀{ds:List PyData} {i j:Nat},(enN i ds)[j]?=(ds[j]?).map λd=>.tuple [.int ((i + j:Nat):Int),d]
 | [],_,_=>rfl
 | d::ds,i,0=>rfl
 | d::ds,i,j + 1=>by rw[enN,abK,abK,oM,show i + 1 + j=i + (j + 1) by omega]
theorem oN(ds:List PyData):cD ds=enN 0 ds:=by
 apply ab8;intro j;rw[oM,cD,aax];by_cases a:j < ds.length
 ·rw[acA a,aak a];simp[aba,aak a]
 ·rw[abM (by simpa using a),abM (by omega)];rfl
theorem qH{n m:Nat}{f:Cf}{g gaps us:List Int}{qs:Pz}{i:Nat}{gap:Int}{a b c:Int}{o4 o5 o8 o9 o10 o11:Option OD}(hf:Nb f.rows)(hg:g=gIx 0 f.rows)(a0:g.length<=60)(a6:us.length=g.length)(s:0<=gap/\gap<=f.rows.length)(a7:qs.length<=100)(h:TpOk b c m)(hm:m<=100000) :
  ∃a' b' c' ns X F H,((bc (.tp [8,5]) (.fz (.tuple [.int i,.int gap])) [some (Tp a b c),some (Rl f.rows),some (Dl g),some (Dl gaps),o4,o5,some (Dl us),some (qM qs),o8,o9,o10,o11]).bind λρ1=>aK (pl.pg.ct (n + 2)) yB ρ1)=some (.nx,yE (Tp a' b' c') f g gaps us (qs++[(gap,ns)]) i gap (some (Il ns)) X F H)/\TpOk b' c' (m + 80)/\Pool f.rows.length (gap,ns)/\∀z∈g.zip us,z.2=(i:Int)->qL f z.1∈ns:=by
 have ec:(pl.pg.ct (n + 2)).call=pl.pg.call (n + 2):=rfl;have y:∃p o e ns,bC (pl.pg.ct (n + 2)) eah (yE (Tp a b c) f g gaps us qs i gap o9 o4 o10 o11)=some (.nx,yE (Tp p o e) f g gaps us qs i gap (some (Il ns)) o4 o10 o11)/\TpOk o e (m + 5)/\yP ns/\ns.length<=1/\(ns=[]->(i:Int)∈us):=by
  have v:bf (pl.pg.ct (n + 2)) edq (yE (Tp a b c) f g gaps us qs i gap o9 o4 o10 o11)=some (!decide ((i:Int)∈us),yE (Tp a b c) f g gaps us qs i gap o9 o4 o10 o11):=ao (aq (dx:=.int i) (dy:=.list (us.map PyData.int)) rfl rfl rfl rfl ud);have I:∀{p o e:Int} {Y:Nat},TpOk o e Y->Y<=m + 1->bf (pl.pg.ct (n + 2)) Iz (yE (Tp a b c) f g gaps us qs i gap o9 o4 o10 o11)=some (true,yE (Tp p o e) f g gaps us qs i gap o9 o4 o10 o11)->∃p o e ns,bC (pl.pg.ct (n + 2)) eah (yE (Tp a b c) f g gaps us qs i gap o9 o4 o10 o11)=some (.nx,yE (Tp p o e) f g gaps us qs i gap (some (Il ns)) o4 o10 o11)/\TpOk o e (m + 5)/\yP ns/\ns.length<=1/\(ns=[]->(i:Int)∈us):=λ{p o e Y} h1 hm' t=>by obtain⟨k,L,N,O,P,hk,r⟩:=oD (n:=n) (a:=p) h1 (by omega);rw[<- ec]at P;exact⟨L,N,O,[k],ag (ρ2:=yE (Tp L N O) f g gaps us qs i gap o9 o4 o10 o11) (z:=Il [k]) (cP t (ax (aa (ah (ρ3:=yE (Tp L N O) f g gaps us qs i gap o9 o4 o10 o11) rfl rfl P rfl) af) rfl rfl)) rfl rfl rfl,r.up (by omega),⟨aaA.mpr ⟨aaq,aaQ⟩,λx C=>by rw[aaF.mp C];omega⟩,aah _,λz=>by cases z⟩
  by_cases J:(i:Int)∈us
  ·rw[Dac J]at v;obtain⟨x,p,o,e,Q,x0,x1,tk⟩:=aL (n:=n + 1) (a:=a) (many:=4) h (by omega) (by decide) (by decide);rw[show n + 1 + 1=n + 2 by omega,<- ec]at Q;have r:bf (pl.pg.ct (n + 2)) ebq (yE (Tp a b c) f g gaps us qs i gap o9 o4 o10 o11)=some (decide (x=0),yE (Tp p o e) f g gaps us qs i gap o9 o4 o10 o11):=ao (aq (ah (ρ3:=yE (Tp p o e) f g gaps us qs i gap o9 o4 o10 o11) rfl rfl Q rfl) rfl rfl rfl uj);by_cases C:x=0
   ·rw[Dac C]at r;exact I tk (aah _) (dz v r)
   ·rw[Dab C]at r;exact⟨p,o,e,[],ag (ρ2:=yE (Tp p o e) f g gaps us qs i gap o9 o4 o10 o11) (z:=Il []) (dr (dz v r) rfl) rfl rfl rfl,tk.up (by omega),⟨aaQ,λx C=>absurd C aaq⟩,aaH _,λ_=>J⟩
  ·rw[Dab J]at v;exact I h (by omega) (i7 v)
 obtain⟨p,o,e,ns,Q,v,n1,l1,i1⟩:=y;obtain⟨L,N,O,M,u,j,P,r,l2,n2,s2,z2⟩:=iL (n:=n + 1) hf (g:=g) (gaps:=gaps) (us:=us) (qs:=qs) (at':=i) (gap:=gap) (o11:=o11) (zs:=g.zip us) (a:=p) (ns:=ns) (o4:=o4) (o10:=o10) (λz D=>by rw[<- hg];exact (aa5 (show (z.1,z.2)∈_ from D)).1) v (by rw[abR];omega) (by rw[abR];omega) n1;have a5:(g.zip us).length<=60:=by rw[abR];omega
 have Z:0 < M.length:=by
  cases ns with
  | cons x xs=>exact abQ (s2 x aag)
  | nil =>
   obtain⟨t,ht⟩:=List.getElem?_of_mem (i1 rfl);have a4:=(aao.mp ht).1;have T:=aak (l:=g) (i:=t) (by omega);have D:(g[t]'(by omega),(i:Int))∈g.zip us:=by refine aaI (i:=t) ?_;rw[abG];exact⟨T,ht⟩
   exact abQ (z2 _ D rfl)
 obtain⟨B,w,A,d,q,e3,t3,n3,s3,G,l3⟩:=fill (n:=n + 1) (f:=f) (g:=g) (gaps:=gaps) (us:=us) (qs:=qs) (at':=i) (gap:=gap) (a:=L) (ns:=M) (o4:=u) (o10:=j) (o11:=o11) r (by omega) n2 Z (by omega);have J:qo (pl.pg.ct (n + 2)) (.zip (.nm 2) (.nm 6)) (yE (Tp p o e) f g gaps us qs i gap (some (Il ns)) o4 o10 o11)=some ((g.zip us).map Zp,yE (Tp p o e) f g gaps us qs i gap (some (Il ns)) o4 o10 o11):=by rw[<- iH];exact mQ (dx:=.list (g.map PyData.int)) (dy:=.list (us.map PyData.int)) rfl rfl rfl rfl rfl rfl
 have W:∀{S:List Int},Il S=.lst ((S.map PyData.int).map OD.fz):=λ{S}=>by rw[cx]
 have U:ev (pl.pg.ct (n + 2)) (.tup Ip) (yE (Tp B w A) f g gaps us qs i gap (some (Il d)) u j q)=some (.val (.fz (Po (gap,d))),yE (Tp B w A) f g gaps us qs i gap (some (Il d)) u j q):=dW (rs:=[.val (It gap),.val (.fz (.tuple (d.map PyData.int)))]) (aa rfl (aa (xA (x:=.rf 9) (ρ1:=yE (Tp B w A) f g gaps us qs i gap (some (Il d)) u j q) rfl (m3 (by show some (Il d)=_;rw[W]))) af)) rfl rfl rfl;have s7:bC (pl.pg.ct (n + 2)) ebr (yE (Tp B w A) f g gaps us qs i gap (some (Il d)) u j q)=some (.nx,yE (Tp B w A) f g gaps us (qs++[(gap,d)]) i gap (some (Il d)) u j q):=bP (xs:=(qs.map Po).map OD.fz) (z:=.fz (Po (gap,d))) (ρ2:=yE (Tp B w A) f g gaps us qs i gap (some (Il d)) u j q) rfl U rfl rfl (by rw[aab,aab];omega) (by
  have:qM (qs++[(gap,d)])=.lst ((qs.map Po).map OD.fz++[.fz (Po (gap,d))]):=by rw[qM,aav,aav];rfl
  show _=[_,_,_,_,_,_,_,some (qM (qs++[(gap,d)])),_,_,_,_];rw[this];rfl)
 exact⟨B,w,A,d,u,j,q,bs (x:=yE (Tp a b c) f g gaps us qs i gap o9 o4 o10 o11) rfl (ab Q (ab (bR J P) (ab e3 (ab s7 rfl)))),t3.up (by omega),⟨s.1,s.2,n3.2,G,l3,Bt n3.1⟩,λz D he=>s3 _ (z2 z D he)⟩
theorem oO{n:Nat}{f:Cf}{g gaps us:List Int}(L:Nb f.rows)(M:g=gIx 0 f.rows)(j:g.length<=60)(p:us.length=g.length):∀{gs:List Int} {i m:Nat} {qs:Pz} {a b c:Int} {o4 o5 o8 o9 o10 o11:Option OD},(∀x∈gs,0<=x/\x<=f.rows.length)->qs.length + gs.length<=100->TpOk b c m->m + 80 * gs.length<=100000 ->
  ∃a' O N ps C F J r l k,bb (λd G=>(bc (.tp [8,5]) (.fz d) G).bind λρ1=>aK (pl.pg.ct (n + 2)) yB ρ1) (enN i (gs.map PyData.int)) [some (Tp a b c),some (Rl f.rows),some (Dl g),some (Dl gaps),o4,o5,some (Dl us),some (qM qs),o8,o9,o10,o11]=some (.nx,[some (Tp a' O N),some (Rl f.rows),some (Dl g),some (Dl gaps),C,F,some (Dl us),some (qM (qs++ps)),J,r,l,k])/\TpOk O N (m + 80 * gs.length)/\ps.map (·.1)=gs/\(∀q∈ps,Pool f.rows.length q)/\∀t q,ps[t]?=some q->∀z∈g.zip us,z.2=((i + t:Nat):Int)->qL f z.1∈q.2
 | [],i,m,qs,a,b,c,o4,o5,o8,o9,o10,o11,_,_,h,_=>⟨a,b,c,[],o4,o5,o8,o9,o10,o11,by rw[aap];rfl,h,rfl,λq e=>absurd e aaq,λt q e=>by cases e⟩
 | x::gs,i,m,qs,a,b,c,o4,o5,o8,o9,o10,o11,hx,hl,h,hm=>by
  rw[aam]at hl hm;obtain⟨a1,b1,c1,ns,p4,H,w,e1,S,P,W⟩:=qH (n:=n) (gaps:=gaps) (us:=us) (qs:=qs) (i:=i) (gap:=x) (a:=a) (o4:=o4) (o5:=o5) (o8:=o8) (o9:=o9) (o10:=o10) (o11:=o11) L M j p (hx x aag) (by omega) h (by omega);obtain⟨a2,Q,Y,ps,T,U,q8,q9,A,v,X,Z,s,u,D⟩:=oO (n:=n) L M j p (gs:=gs) (i:=i + 1) (qs:=qs++[(x,ns)]) (a:=a1) (o4:=p4) (o5:=some (It x)) (o8:=some (It i)) (o9:=some (Il ns)) (o10:=H) (o11:=w) (λy hy=>hx y (aaj _ hy)) (by rw[aai,aaO];omega) S (by omega);refine⟨a2,Q,Y,(x,ns)::ps,T,U,q8,q9,A,v,?_,Z.up (by rw[aam];omega),by rw[aal,s],λq e=>?_,λt q e=>?_⟩
  ·have o:=X;rw[aac]at o;exact bs e1 o
  ·rcases aaa.mp e with rfl | e
   ·exact P
   ·exact u q e
  ·cases t with
   | zero=>cases e;exact λz B I=>W z B I
   | succ t=>exact λz B I=>D t q e z B (by rw[I];congr 1;omega)
theorem oP(ns:List Int):qm .ne (.list (ns.map PyData.int)) (.list [])=some (!ns.isEmpty):=bs (xJ ns) rfl
theorem oQ{n:Nat}{G:List Int}(w:G.length<=100):∀{xs:List Int} {m:Nat} {a b c:Int} {out:List PyData} {o:Option OD},(xs≠[]->0 < G.length)->TpOk b c m->m + xs.length<=100000 ->
  ∃(us:List Int) (C q l:Int) (d:Option OD),bW (cm (pl.pg.ct (n + 1)) (.nm 0) .none ebm) (xs.map PyData.int) out [o,some (Tp a b c),some (Il G)]=some (out++us.map PyData.int,[d,some (Tp C q l),some (Il G)])/\us.length=xs.length/\(∀u∈us,0<=u/\u < G.length)/\TpOk q l (m + xs.length)
 | [],m,a,b,c,out,o,_,h,_=>⟨[],a,b,c,o,by rw[aaK,aap];rfl,rfl,λu J=>absurd J aaq,h⟩
 | x::xs,m,a,b,c,out,o,i,h,hm=>by
  rw[aam]at hm;have i:=i (by simp);obtain⟨u,f,p,k,r,H,I,v⟩:=aL (n:=n) (a:=a) (many:=(G.length:Int)) h (by omega) (by omega) (by omega);have D:(pl.pg.ct (n + 1)).call=pl.pg.call (n + 1):=rfl;rw[<- D]at r;have t:ev (pl.pg.ct (n + 1)) ec8 [some (It x),some (Tp a b c),some (Il G)]=some (.val (It G.length),[some (It x),some (Tp a b c),some (Il G)]):=aG (rs:=[.rf 2]) (ds:=[.list (G.map PyData.int)]) rfl (by show ((Il G).dat).bind _=_;rw[aO];rfl) blen;obtain⟨us,F,s,z,d,j,B,e,A⟩:=oQ (n:=n) w (xs:=xs) (a:=f) (out:=out++[.int u]) (o:=some (It x)) (λ_=>i) v (by omega);refine⟨u::us,F,s,z,d,bs (x:=([.int u],[some (It x),some (Tp f p k),some (Il G)])) (EG rfl (ah (rs:=[.rf 1,.val (It G.length)]) (ρ1:=[some (It x),some (Tp a b c),some (Il G)]) (ρ3:=[some (It x),some (Tp f p k),some (Il G)]) (aa rfl (aa t af)) rfl r rfl) rfl) ?_,by rw[aam,aam,B],λy g=>?_,A.up (by rw[aam];omega)⟩
  ·rw[aac]at j;exact j
  ·rcases aaa.mp g with rfl | g
   ·exact⟨H,I⟩
   ·exact e y g
theorem Bz{G:List Int}(c:G.Pairwise (·<=·))(d:G.Nodup):G.Pairwise (· < ·):=(c.and d).imp λ{a b} h=>by have:=h.1;have:=h.2;omega
theorem ER{n m:Nat}{f:Cf}{a b c:Int}(hf:Nb f.rows)(hN:f.rows.length<=60)(h:TpOk b c m)(hm:m<=90000) :
  ∃(qs:Pz) (us:List Int) (a' b' c':Int),pl.pg.call (n + 3) 23 [Tp a b c,Rl f.rows]=some (Fp qs us,[Tp a' b' c',Rl f.rows])/\TpOk b' c' (m + 1000)/\Qok f qs/\us.length=(gIx 0 f.rows).length/\(∀u∈us,0<=u/\u < qs.length)/\qs.length<=4/\∀z∈(gIx 0 f.rows).zip us,j6 f qs z=true:=by
 obtain⟨g,N⟩:∃g,g=gIx 0 f.rows:=⟨_,rfl⟩
 have S:g.length<=60:=by rw[N,dQ];exact aat (abh _ _) hN
 have ec:(pl.pg.ct (n + 2)).call=pl.pg.call (n + 2):=rfl;generalize hρ0:fR F_any_plan.n [Tp a b c,Rl f.rows]=ρ0;obtain⟨b0,eg⟩:=iI (n:=n + 1) (rs:=f.rows) (i:=0) (out:=[]) (o0:=none) (o1:=none);rw[aaD,<- N,<- fE]at eg;have W:ev (pl.pg.ct (n + 2)) Iu ρ0=some (.val (.lst ((g.map PyData.int).map OD.fz)),ρ0):=dB (ρ1:=ρ0) (zc:=([],ρ0)) (eG (x:=.val (Rl f.rows)) (ρ1:=ρ0) (by rw[<- hρ0];rfl) rfl) (by rw[cE,aab];omega) rfl eg unca_nil;have s2:bC (pl.pg.ct (n + 2)) ea5 ρ0=some (.nx,[some (Tp a b c),some (Rl f.rows),some (Dl g),none,none,none,none,none,none,none,none,none]):=ag (ρ2:=ρ0) (z:=Dl g) (uo (ρ2:=ρ0) (d:=.list (g.map PyData.int)) W (by show (OD.dat _).map _=_;rw[cL];rfl)) rfl (by rw[<- hρ0];rfl) (by rw[<- hρ0];rfl);have s3:bC (pl.pg.ct (n + 2)) eek [some (Tp a b c),some (Rl f.rows),some (Dl g),none,none,none,none,none,none,none,none,none]=some (.nx,gE (Tp a b c) f.rows g [] none none):=rfl;obtain⟨x,U,b1,c1,e1,x0,x1,t1⟩:=aL (n:=n + 1) (a:=a) (many:=4) h (by omega) (by decide) (by decide);rw[show n + 1 + 1=n + 2 by omega,<- ec]at e1;obtain⟨k,hk,v⟩:∃k:Nat,k<=1/\(g≠[]->0 < k)/\uZ .int [.bool (!g.isEmpty)]=some (.int k):=by
  cases g with
  | nil=>exact⟨0,by omega,λz=>absurd rfl z,rfl⟩
  | cons y ys=>exact⟨1,by omega,λ_=>by omega,rfl⟩
 have T:=v.1;have v:=v.2;obtain⟨D,rfl⟩:∃D:Nat,x=D:=⟨x.toNat,by omega⟩
 have er:ev (pl.pg.ct (n + 2)) ea2 (gE (Tp a b c) f.rows g [] none none)=some (.val (It ((k + D:Nat):Int)),gE (Tp U b1 c1) f.rows g [] none none):=by have q1:ev (pl.pg.ct (n + 2)) ebx (gE (Tp a b c) f.rows g [] none none)=some (.val (It k),gE (Tp a b c) f.rows g [] none none):=aG (rs:=[.val (.fz (.bool (!g.isEmpty)))]) (aa (aq (dx:=.list (g.map PyData.int)) (dy:=.list []) rfl rfl rfl rfl (oP g)) af) rfl v;exact ae (dx:=.int k) (dy:=.int D) q1 (ah (ρ3:=gE (Tp U b1 c1) f.rows g [] none none) rfl rfl e1 rfl) rfl rfl rfl
 obtain⟨p,q,r,gs,o4,o5,e2,t2,l2,nd,a8,C⟩:=iK (n:=n + 1) (rs:=f.rows) (g:=g) (by omega) (j:=k + D) (i:=0) (a:=U) (gs:=[]) (o4:=none) (o5:=none) t1 (by omega) (by show 0 + _<=_;omega) aaQ (λx X=>absurd X aaq);have l2:gs.length<=0 + (k + D):=l2;have C:0 < 0 + (k + D)->0 < gs.length:=C;have s4:bC (pl.pg.ct (n + 2)) (match F_any_plan.body with | .cons _ (.cons _ (.cons s _))=>s | _=>.cont) (gE (Tp a b c) f.rows g [] none none)=some (.nx,gE (Tp p q r) f.rows g gs o4 o5):=bR (eF er rfl (by omega)) e2;obtain⟨G,hG⟩:∃G,G=sortI gs:=⟨_,rfl⟩
 have pG:G.Perm gs:=by rw[hG];exact sortI_perm gs
 have sG:G.Pairwise (· < ·):=Bz (by rw[hG];exact fU gs) (pG.nodup_iff.mpr nd);have lG:G.length=gs.length:=pG.length_eq;have bG:∀x∈G,0<=x/\x<=f.rows.length:=λx X=>a8 x (pG.mem_iff.mp X);have s5:bC (pl.pg.ct (n + 2)) edd (gE (Tp p q r) f.rows g gs o4 o5)=some (.nx,gE (Tp p q r) f.rows g G o4 o5):=ag (ρ2:=gE (Tp p q r) f.rows g gs o4 o5) (z:=Il G) (lq (x:=.rf 3) (ρ1:=gE (Tp p q r) f.rows g gs o4 o5) (ds:=gs.map PyData.int) (ns:=gs) rfl (aO gs) (fF gs) (by omega)) (by rw[hG];rfl) rfl rfl;have gp:g≠[]->0 < G.length:=λa5=>by rw[lG];exact C (by have:=T a5;omega)
 obtain⟨us,w,A,B,o',e3,l3,bu,t3⟩:=oQ (n:=n + 1) (G:=G) (by omega) (xs:=g) (a:=p) (out:=[]) (o:=none) gp t2 (by omega);rw[aaD]at e3;have Y:ev (pl.pg.ct (n + 2)) IB (gE (Tp p q r) f.rows g G o4 o5)=some (.val (.lst ((us.map PyData.int).map OD.fz)),gE (Tp w A B) f.rows g G o4 o5):=dB (ρ1:=gE (Tp p q r) f.rows g G o4 o5) (zc:=([some (Tp p q r),some (Il G)],[none,some (Rl f.rows),some (Dl g),none,o4,o5,none,none,none,none,none,none])) (dA (x:=.val (Dl g)) rfl rfl rfl) (by rw[aab];omega) rfl e3 rfl;have s6:bC (pl.pg.ct (n + 2)) eas (gE (Tp p q r) f.rows g G o4 o5)=some (.nx,[some (Tp w A B),some (Rl f.rows),some (Dl g),some (Il G),o4,o5,some (Dl us),none,none,none,none,none]):=ag (ρ2:=gE (Tp w A B) f.rows g G o4 o5) (z:=Dl us) (uo (ρ2:=gE (Tp w A B) f.rows g G o4 o5) (d:=.list (us.map PyData.int)) Y (by show (OD.dat _).map _=_;rw[cL];rfl)) rfl rfl rfl;have s7:bC (pl.pg.ct (n + 2)) (.set 7 (.lst .nil)) [some (Tp w A B),some (Rl f.rows),some (Dl g),some (Il G),o4,o5,some (Dl us),none,none,none,none,none]=some (.nx,[some (Tp w A B),some (Rl f.rows),some (Dl g),some (Il G),o4,o5,some (Dl us),some (qM []),none,none,none,none]):=rfl;obtain⟨I,F,H,qs,P,M,J,Q,e,l,e4,t4,O,a0,Z⟩:=oO (n:=n) (f:=f) (g:=g) (gaps:=G) (us:=us) hf N S l3 (gs:=G) (i:=0) (qs:=[]) (a:=w) (o4:=o4) (o5:=o5) (o8:=none) (o9:=none) (o10:=none) (o11:=none) bG (by show 0 + _<=_;omega) t3 (by omega);rw[<- oN,aaD]at e4;have s8:bC (pl.pg.ct (n + 2)) (.fr (.tp [8,5]) (.enm (.nm 3)) yB) [some (Tp w A B),some (Rl f.rows),some (Dl g),some (Il G),o4,o5,some (Dl us),some (qM []),none,none,none,none]=_:=bR (eG (x:=.rf 3) (ρ2:=[some (Tp w A B),some (Rl f.rows),some (Dl g),some (Dl G),o4,o5,some (Dl us),some (qM []),none,none,none,none]) rfl (cM rfl (aO G) rfl)) e4;have a7:qs.length=G.length:=by rw[<- O,aab]
 have a6:ev (pl.pg.ct (n + 2)) (.tup ecy) [some (Tp I F H),some (Rl f.rows),some (Dl g),some (Dl G),P,M,some (Dl us),some (qM qs),J,Q,e,l]=some (.val (Fp qs us),[some (Tp I F H),some (Rl f.rows),some (Dl g),some (Dl G),P,M,some (Dl us),some (Pq qs),J,Q,e,l]):=dW (rs:=[.rf 7,.val (Dl us)]) (zs:=[Pq qs,Dl us]) (ρ2:=[some (Tp I F H),some (Rl f.rows),some (Dl g),some (Dl G),P,M,some (Dl us),some (Pq qs),J,Q,e,l]) rfl rfl (bs (x:=(Pq qs,[some (Tp I F H),some (Rl f.rows),some (Dl g),some (Dl G),P,M,some (Dl us),some (Pq qs),J,Q,e,l])) (by show (frz1 _ (.rf 7)).map _=_;rw[cM (x:=qM qs) (d:=.list (qs.map Po)) rfl (cL _) rfl];rfl) rfl) rfl;refine⟨qs,us,I,F,H,ai (fn:=F_any_plan) (ρ:=[some (Tp I F H),some (Rl f.rows),some (Dl g),some (Dl G),P,M,some (Dl us),some (Pq qs),J,Q,e,l]) rfl rfl (by rw[hρ0];exact ab s2 (ab s3 (ab s4 (ab s5 (ab s6 (ab s7 (ab s8 (ar (aj a6 rfl)))))))))  rfl,t4.up (by omega),⟨a0,?_⟩,by rw[l3,N],λu hu=>by rw[a7];exact bu u hu,by omega,λz hz=>?_⟩
 ·rw[<- O,ab3]at sG;exact sG
 ·obtain⟨u0,u1⟩:=bu z.2 (aa5 (show (z.1,z.2)∈_ from hz)).2;obtain⟨t,ht⟩:∃t:Nat,z.2=t:=⟨z.2.toNat,by omega⟩
  have L:t < qs.length:=by omega
  have:=Z t qs[t] (aak L) z (by rw[N];exact hz) (by rw[ht,aaU]);unfold j6;rw[ht,aaT,aak L];exact Dac this
theorem yQ(r:R):r.jm=(decide (r.wd="go") || decide (r.wd="nil")):=by cases r<;>rfl
theorem ES{C:Ct}{o:Co}{r:R}{x:Str}{k:Bool}{ρ:DEnv}{e:E}(a:ev C e ρ=some (.val (Rd r),ρ))(h:qm o (.str r.wd) (.str x)=some k):ev C (.cmp o (.ix e (.int 0)) (.str x)) ρ=some (.val (.fz (.bool k)),ρ):=aq (aN (z:=.fz (.str r.wd)) a rfl rfl (by show bo ρ (.val (.fz r.d)) 0=_;rw[R.d_is];exact bq br)) rfl rfl rfl h
theorem ET{n:Nat}(r:R):pl.pg.call (n + 1) 1 [Rd r]=some (.fz (.bool r.jm),[Rd r]):=by
 have c:∀x:Str,ev (pl.pg.ct n) (.cmp .eq ed4 (.str x)) [some (Rd r)]=some (.val (.fz (.bool (decide (r.wd=x)))),[some (Rd r)]):=λx=>ES rfl rfl;refine ai (fn:=i8) (ρ:=[some (Rd r)]) rfl rfl (ar (aj (z:=.fz (.bool r.jm)) (x:=.val (.fz (.bool r.jm))) ?_ rfl)) rfl;rw[yQ];have a:=c "go";cases b:decide (r.wd="go") with
 | true=>rw[b]at a;exact tT a
 | false=>rw[b]at a;exact tU a (c "nil")
def jIx:Int->List R->List Int
 | _,[]=>[]
 | i,r::rs=>if r.jm=true then i::jIx (i + 1) rs else jIx (i + 1) rs
theorem jIx_mem:∀{rs:List R} {i a:Int},a∈jIx i rs->∃(j:Nat) (r:R),a=i + j/\rs[j]?=some r/\r.jm=true
 | [],i,a,h=>absurd h aaq
 | r::rs,i,a,h=>by
  rw[jIx]at h;by_cases b:r.jm=true
  ·rw[if_pos b]at h;rcases aaa.mp h with rfl | h
   ·exact⟨0,r,by omega,rfl,b⟩
   ·obtain⟨j,q,e,c,d⟩:=jIx_mem h;exact⟨j + 1,q,by rw[e];omega,c,d⟩
  ·rw[if_neg b]at h;obtain⟨j,q,e,c,d⟩:=jIx_mem h;exact⟨j + 1,q,by rw[e];omega,c,d⟩
theorem fG:∀{rs:List R} {i:Int},(jIx i rs).length=(rs.filter R.jm).length
 | [],i=>rfl
 | r::rs,i=>by
  rw[jIx];by_cases a:r.jm=true
  ·rw[if_pos a,ace a,aam,aam,fG]
  ·rw[if_neg a,acf a,fG]
theorem j8{n:Nat}:∀{rs:List R} {i:Int} {out:List PyData} {o0 o1:Option OD},∃a,bW (cm (pl.pg.ct (n + 1)) (.tp [0,1]) (.some edg) (.nm 0)) (enF i rs) out [o0,o1]=some (out++(jIx i rs).map PyData.int,a)
 | [],i,out,o0,o1=>⟨[o0,o1],by rw[jIx,aaK,aap];rfl⟩
 | r::rs,i,out,o0,o1=>by
  have b:bf (pl.pg.ct (n + 1)) edg [some (It i),some (Rd r)]=some (r.jm,[some (It i),some (Rd r)]):=bz (ah (ρ3:=[some (It i),some (Rd r)]) rfl rfl (ET r) rfl);rw[jIx];cases c:r.jm with
  | false =>rw[c]at b;obtain⟨a,e⟩:=j8 (n:=n) (rs:=rs) (i:=i + 1) (out:=out++[]) (o0:=some (It i)) (o1:=some (Rd r));refine⟨a,bs (x:=([],[some (It i),some (Rd r)])) (qz rfl b) ?_⟩;rw[if_neg aae,e,aap]
  | true =>rw[c]at b;obtain⟨a,e⟩:=j8 (n:=n) (rs:=rs) (i:=i + 1) (out:=out++[.int i]) (o0:=some (It i)) (o1:=some (Rd r));refine⟨a,bs (x:=([.int i],[some (It i),some (Rd r)])) (qy rfl b rfl rfl) ?_⟩;rw[if_pos rfl,e,aac];rfl
theorem xM{n:Nat}{rs:List R}(b:rs.length<=1000):pl.pg.call (n + 2) 3 [Rl rs]=some (Il (jIx 0 rs),[Rl rs]):=by obtain⟨a,e⟩:=j8 (n:=n) (rs:=rs) (i:=0) (out:=[]) (o0:=none) (o1:=none);rw[aaD,<- fE]at e;refine ai (fn:=ir) (ρ:=[some (Rl rs)]) rfl rfl (ar (aj (z:=Il (jIx 0 rs)) (dB (ρ2:=[some (Rl rs)]) (eG rfl rfl) (by rw[cE,aab];omega) rfl e unca_nil) (by rw[cx];rfl))) rfl
def farN(r:R)(hop:Int):Int:=if r.wd="nil" then (if 99 < hop then 99 else hop) else hop
abbrev fin(f:Cf)(qs:Pz):Mc:=inner f qs f.rows.length (mac f qs f.rows.length)
theorem gC{f:Cf}{qs:Pz}:(fin f qs).ps.length=f.rows.length:=by rw[dE,gA]
def gol(s:Mc)(r:R)(k:Nat):Int:=(s.ps++[s.pl]).getD r.tg.toNat 0 - s.ps.getD k 0
def tq(f:Cf)(s:Mc)(hop a:Int):Bool:=(f.rows[a.toNat]?).elim false λr=>decide (farN r hop < if gol s r a.toNat < 0 then -(gol s r a.toNat) else gol s r a.toNat)
def iM(f:Cf)(qs:Pz)(hop:Int):List Int:=((jIx 0 f.rows).filter λa=>!decide (a∈f.longs)).filter (tq f (fin f qs) hop)
theorem atI_last{a:Type}{xs:List a}{x:a}:atI (xs++[x]) (-1)=some x:=by
 have e:ixN (xs++[x]).length (-1)=some xs.length:=by unfold ixN;rw[aai,aaO];rw[if_neg (by omega),if_pos (by omega)];congr 1;omega
 exact bs e acB
theorem atI_get{b:Type}{g:Int->b}{gs:List Int}{i:Int}(d:0<=i)(c:i < gs.length):atI (gs.map g) i=some (g (gs.getD i.toNat 0)):=by
 have e:i=(i.toNat:Int):=by omega
 have a:i.toNat < gs.length:=by omega
 rw[e];refine cQ ?_;rw[aax,aaT,aak a,aba,aak a];rfl
theorem BA{C:Ct}{r:R}{ρ:DEnv}{e:E}{N:Int}(b:ev C e ρ=some (.val (Rd r),ρ))(c:Jok N r)(a:r.jm=true):ev C (.ix e (.neg (.int 1))) ρ=some (.val (It r.tg),ρ):=by obtain⟨_,_,g,f⟩:=c a;exact aN b rfl rfl (by show bo ρ (.val (.fz r.d)) (-1)=_;rw[f];exact bq atI_last)
theorem m4{ps:List Int}{p:Int}:(OD.lst ((ps.map PyData.int++[PyData.int p]).map OD.fz))=Il (ps++[p]):=by have e:(ps++[p]).map PyData.int=ps.map PyData.int++[PyData.int p]:=aav;rw[Il,<- cx,e]
theorem EU{C:Ct}{a b:E}{ρ:DEnv}{x y:Bool}(c:bf C a ρ=some (x,ρ))(d:bf C b ρ=some (y,ρ)):bf C (.or a b) ρ=some (x || y,ρ):=by cases x with | true=>exact i7 c | false=>exact dz c d
theorem t_andB{C:Ct}{a b:E}{ρ:DEnv}{x y:Bool}(c:bf C a ρ=some (x,ρ))(d:bf C b ρ=some (y,ρ)):bf C (.and a b) ρ=some (x && y,ρ):=by cases x with | true=>exact mK c d | false=>exact tS c
theorem uw(r:R):qm .inn (.str r.wd) (.tuple [.str "go",.str "nil"])=some r.jm:=by rw[yQ];show some (decide ("go"=r.wd) || (decide ("nil"=r.wd) || false))=_;rw[abz,decide_eq_decide.mpr (eq_comm (a:=Str.ofString "go")),decide_eq_decide.mpr (eq_comm (a:=Str.ofString "nil"))]
theorem BB{r:R}{hop m:Int}:(decide (hop < m) || (decide (r.wd="nil") && decide (99 < m)))=decide (farN r hop < m):=by
 unfold farN;by_cases h:r.wd="nil"
 ·rw[Dac h,if_pos h,abg,<- Bool.decide_or];refine decide_eq_decide.mpr ?_;split<;>omega
 ·rw[Dab h,if_neg h,abX,abz]
abbrev lU(f:Cf)(qs:Pz)(s:Mc)(hop:Int)(out:List Int)(o9 o10 o11:Option OD):DEnv:=[some (Rl f.rows),some (Lo f),some (Pq qs),some (It hop),some (Dl s.ps),some (Dl s.bs),some (It s.pl),some (Il (s.ps++[s.pl])),some (Il out),o9,o10,o11]
abbrev lV:Ss:=match F_too_short.body with | .cons _ (.cons _ (.cons (.fr _ _ b) _))=>b | _=>.nil
def adds(f:Cf)(s:Mc)(hop:Int)(r:R)(k:Int):Bool:=r.jm && (!decide (k∈f.longs) && tq f s hop k)
theorem xN{n k:Nat}{f:Cf}{qs:Pz}{s:Mc}{hop:Int}{out:List Int}{r:R}{o11:Option OD}(v:Jb f.rows.length f.rows)(q:s.ps.length=f.rows.length)(h:f.rows[k]?=some r)(C:out.length<=1000):∃w,aK (pl.pg.ct n) lV (lU f qs s hop out (some (It k)) (some (Rd r)) o11)=some (.nx,lU f qs s hop (out++if adds f s hop r k=true then [(k:Int)] else []) (some (It k)) (some (Rd r)) w):=by
 have p:bf (pl.pg.ct n) ebf (lU f qs s hop out (some (It k)) (some (Rd r)) o11)=some (r.jm,lU f qs s hop out (some (It k)) (some (Rd r)) o11):=ao (aq (aN (z:=.fz (.str r.wd)) rfl rfl rfl (by rw[R.d_is];exact bq br)) rfl rfl rfl (uw r));have u:bf (pl.pg.ct n) edt (lU f qs s hop out (some (It k)) (some (Rd r)) o11)=some (!decide ((k:Int)∈f.longs),lU f qs s hop out (some (It k)) (some (Rd r)) o11):=ao (aq rfl rfl rfl rfl ud);have b:=t_andB p u;unfold adds;cases a:r.jm && !decide ((k:Int)∈f.longs) with
 | false =>rw[a]at b;rw[<- Bool.and_assoc,a,abX,if_neg aae,aap];exact⟨_,ab (s_ifF b rfl) rfl⟩
 | true =>
  rw[a]at b;rw[<- Bool.and_assoc,a,abg];obtain⟨g,_⟩:=abp.mp a;have j:=v r (aaI h);obtain⟨x,A,_⟩:=j g;have B:k < f.rows.length:=(aao.mp h).1;have l:ev (pl.pg.ct n) G7 (lU f qs s hop out (some (It k)) (some (Rd r)) o11)=some (.val (It ((s.ps++[s.pl]).getD r.tg.toNat 0)),lU f qs s hop out (some (It k)) (some (Rd r)) o11):=aN rfl (BA rfl j g) rfl (fD rfl (atI_get x (by rw[aai,q,aaO];omega)));have e:ev (pl.pg.ct n) G1 (lU f qs s hop out (some (It k)) (some (Rd r)) o11)=some (.val (It (s.ps.getD k 0)),lU f qs s hop out (some (It k)) (some (Rd r)) o11):=aN rfl rfl rfl (a9 (atI_get (i:=(k:Int)) (by omega) (by omega)));obtain⟨m,d⟩:∃m:Int,m=if gol s r k < 0 then -(gol s r k) else gol s r k:=⟨_,rfl⟩
  have y:ev (pl.pg.ct n) eaf (lU f qs s hop out (some (It k)) (some (Rd r)) o11)=some (.val (It m),lU f qs s hop out (some (It k)) (some (Rd r)) o11):=by refine aG (aa (ae l e rfl rfl rfl) (aa (ae e l rfl rfl rfl) af)) rfl ?_;show some (PyData.int (if s.ps.getD k 0 - (s.ps++[s.pl]).getD r.tg.toNat 0 > (s.ps++[s.pl]).getD r.tg.toNat 0 - s.ps.getD k 0 then s.ps.getD k 0 - (s.ps++[s.pl]).getD r.tg.toNat 0 else (s.ps++[s.pl]).getD r.tg.toNat 0 - s.ps.getD k 0))=some (.int m);rw[d];unfold gol;congr 2;split<;>split<;>omega
  have t:tq f s hop k=decide (farN r hop < m):=by unfold tq;rw[aaT,h,d];rfl
  have c:bf (pl.pg.ct n) eaz (lU f qs s hop out (some (It k)) (some (Rd r)) (some (It m)))=some (tq f s hop k,lU f qs s hop out (some (It k)) (some (Rd r)) (some (It m))):=by rw[t,<- BB];exact EU (ao (aq rfl rfl rfl rfl rfl)) (t_andB (ao (ES rfl rfl)) (ao (aq rfl rfl rfl rfl rfl)))
  refine⟨some (It m),ab (aE b (ab (ag (ρ3:=lU f qs s hop out (some (It k)) (some (Rd r)) (some (It m))) y rfl rfl rfl) ?_)) rfl⟩;cases o:tq f s hop k with
  | false=>rw[o]at c;rw[if_neg aae,aap];exact ab (s_ifF c rfl) rfl
  | true =>rw[o]at c;rw[if_pos rfl];refine ab (aE c (ab (bP (ρ3:=lU f qs s hop (out++[(k:Int)]) (some (It k)) (some (Rd r)) (some (It m))) rfl rfl rfl rfl (by rw[aab];omega) ?_) rfl)) rfl;unfold lU;rw[cy (ns:=out)];rfl
def tsL(f:Cf)(s:Mc)(hop:Int)(i:Int)(rs:List R):List Int:=((jIx i rs).filter λa=>!decide (a∈f.longs)).filter (tq f s hop)
theorem ux{f:Cf}{s:Mc}{hop i:Int}{r:R}{rs:List R}:tsL f s hop i (r::rs)=(if adds f s hop r i=true then [i] else [])++tsL f s hop (i + 1) rs:=by
 unfold tsL adds;rw[jIx];cases r.jm with
 | false=>rfl
 | true =>
  rw[if_pos rfl,abg,aa9];cases !decide (i∈f.longs) with
  | false=>rfl
  | true =>rw[if_pos rfl,abg,aa9];split<;>rfl
theorem oR{n:Nat}{f:Cf}{qs:Pz}{s:Mc}{hop:Int}(j:Jb f.rows.length f.rows)(i:s.ps.length=f.rows.length):∀{rs:List R} {k:Nat} {out:List Int} {o9 o10 o11:Option OD},f.rows.drop k=rs->out.length + rs.length<=1000->∃g b a,bb (λd c=>(bc (.tp [9,10]) (.fz d) c).bind λρ1=>aK (pl.pg.ct n) lV ρ1) (enF k rs) (lU f qs s hop out o9 o10 o11)=some (.nx,lU f qs s hop (out++tsL f s hop k rs) g b a)
 | [],k,out,o9,o10,o11,_,_=>⟨o9,o10,o11,by show some _=some _;rw[tsL,jIx,List.filter_nil,List.filter_nil,aap]⟩
 | r::rs,k,out,o9,o10,o11,h,hb=>by
  have q:f.rows[k]?=some r:=by rw[<- List.head?_drop,h];rfl
  have m:f.rows.drop (k + 1)=rs:=by rw[<- List.tail_drop,h];rfl
  rw[aam]at hb;obtain⟨p,e⟩:=xN (n:=n) (qs:=qs) (hop:=hop) (out:=out) (o11:=o11) j i q (by omega);have l:(out++if adds f s hop r k=true then [(k:Int)] else []).length<=out.length + 1:=by rw[aai];split<;>simp
  obtain⟨g,b,a,o⟩:=oR (n:=n) (qs:=qs) (hop:=hop) j i (rs:=rs) (k:=k + 1) (out:=out++if adds f s hop r k=true then [(k:Int)] else []) (o9:=some (It k)) (o10:=some (Rd r)) (o11:=p) m (by omega);refine⟨g,b,a,bs (bs (x:=lU f qs s hop out (some (It k)) (some (Rd r)) o11) rfl e) ?_⟩;rw[ux,<- aac];exact o
theorem uy{n:Nat}{f:Cf}{qs:Pz}{hop:Int}(o:∀q∈qs,0<=q.1)(m:qs.length<=300)(g:f.rows.length<=200)(j:Jb f.rows.length f.rows):pl.pg.call (n + 4) 24 [Rl f.rows,Lo f,Pq qs,It hop]=some (Il (iM f qs hop),[Rl f.rows,Lo f,Pq qs,It hop]):=by have c:pl.pg.call (n + 3) 22 [Rl f.rows,Lo f,Pq qs]=some (Bm (fin f qs),[Rl f.rows,Lo f,Pq qs]):=lx (n:=n) o m g;have d:=gC (f:=f) (qs:=qs);have h:iM f qs hop=tsL f (fin f qs) hop 0 f.rows:=rfl;rw[h];generalize fin f qs=s at *;have l:(pl.pg.ct (n + 3)).call=pl.pg.call (n + 3):=rfl;rw[<- l]at c;obtain⟨i,a,b,e⟩:=oR (n:=n + 3) (qs:=qs) (hop:=hop) j d (rs:=f.rows) (k:=0) (out:=[]) (o9:=none) (o10:=none) (o11:=none) rfl (by rw[abE];omega);rw[aaD]at e;refine ai (fn:=F_too_short) (ρ:=lU f qs s hop [] i a b |>.set 8 none) rfl rfl ?_ rfl;refine ab (gf (ρ3:=[some (Rl f.rows),some (Lo f),some (Pq qs),some (It hop),some (Dl s.ps),some (Dl s.bs),some (It s.pl),none,none,none,none,none]) (ah (ρ3:=[some (Rl f.rows),some (Lo f),some (Pq qs),some (It hop),none,none,none,none,none,none,none,none]) rfl rfl c rfl) rfl rfl) ?_;refine ab (f6 (ρ3:=lU f qs s hop [] none none none) (aa (fb rfl (ax (aa rfl af) rfl rfl) rfl rfl (by rw[aab,d];show _ + 1<=_;omega)) (aa rfl af)) rfl rfl (by rw[m4];rfl)) ?_;refine ab (bR (eG rfl rfl) (by rw[fE];exact e)) ?_;exact ar (aj rfl rfl)
theorem ly{i a:Int}:∀{l:List Int},a∈insI i l ↔ a=i\/a∈l
 | []=>by simp[insI]
 | j::r=>by
  rw[insI];split
  ·simp
  ·rw[aaa,ly,aaa];constructor<;>(intro h;rcases h with h | h | h<;>simp[h])
theorem sortI_mem{a:Int}:∀{l:List Int},a∈sortI l ↔ a∈l
 | []=>Iff.rfl
 | j::r=>by rw[sortI,ly,sortI_mem,aaa]
theorem lz{i:Int}:∀{l:List Int},(insI i l).length=l.length + 1
 | []=>rfl
 | j::r=>by
  rw[insI];split
  ·rfl
  ·rw[aam,lz];rfl
theorem jd:∀{l:List Int},(sortI l).length=l.length
 | []=>rfl
 | j::r=>by rw[sortI,lz,jd];rfl
def free(f:Cf):List Int:=(jIx 0 f.rows).filter λa=>!decide (a∈f.longs)
abbrev nx(f:Cf)(sh:List Int):Cf:=⟨f.rows,sortI (f.longs++sh),f.r0,f.r1⟩
theorem split_len{b:Type}{p:b->Bool}:∀{l:List b},(l.filter p).length + (l.filter λa=>!p a).length=l.length
 | []=>rfl
 | x::l=>by
  have:=split_len (p:=p) (l:=l);rw[aa9,aa9];cases p x with
  | true=>rw[if_pos rfl,if_neg (by decide),aam,aam];omega
  | false=>rw[if_neg (by decide),if_pos (by decide),aam,aam];omega
theorem xO{f:Cf}{qs:Pz}{hop:Int}:(free (nx f (iM f qs hop))).length + (iM f qs hop).length<=(free f).length:=by
 have d:iM f qs hop=(free f).filter (tq f (fin f qs) hop):=rfl;have j:=split_len (p:=tq f (fin f qs) hop) (l:=free f);have i:(free (nx f (iM f qs hop))).length<=((free f).filter λa=>!tq f (fin f qs) hop a).length:=by
  unfold free;rw[List.filter_filter,<- acD,<- acD];refine List.countP_mono_left λa g h=>?_;have b:a ∉ sortI (f.longs++iM f qs hop):=by simpa using h
  rw[sortI_mem,aan]at b;have c:a ∉ f.longs:=λz=>b (.inl z);rw[Dab c,Bool.not_false,Bool.and_true];cases e:tq f (fin f qs) hop a with
  | false=>rfl
  | true=>exact absurd (.inr (by rw[d];exact aa3.mpr ⟨aa3.mpr ⟨g,by rw[Dab c];rfl⟩,e⟩)) b
 rw[d]at i ⊢;omega
theorem xP{ios:List Bool}{ρ ρ1 ρ2:DEnv}{r:OR}{rs:List OR}{d:PyData}{xs:List OD}(h:frz1 ρ r=some (d,ρ1))(k:bB ios ρ1 rs=some (xs,ρ2)):bB (false::ios) ρ (r::rs)=some (.fz d::xs,ρ2):=by simp only[bB,h,k]
theorem xQ(ls:List Int):listOf (Il ls)=some (ls.map PyData.int):=by show p0 (ls.map It)=_;rw[<- cx];exact jx _
theorem EV{C:Ct}{a b:E}{ρ ρ1 ρ2:DEnv}{x y:OR}{xs ys:List Int}(g:ev C a ρ=some (x,ρ1))(i:ev C b ρ1=some (y,ρ2))(f:l7 ρ2 x=some (xs.map PyData.int))(e:l7 ρ2 y=some (ys.map PyData.int))(d:(xs++ys).length < 64):ev C (.bnw .sorted (.cat a b)) ρ=some (.val (Il (sortI (xs++ys))),ρ2):=by have c:=d;rw[aai]at c;have h:=fb g i f e (by rw[aab,aab];omega);rw[<- aav]at h;exact lq h (cL _) (fF _) d
theorem Hb{c:DEnv->Option (Bool × DEnv)}{b:DEnv->Option (Fl × DEnv)}{n:Nat}{ρ ρ1:DEnv}(h:c ρ=some (false,ρ1))(a:0 < n):gh c b n ρ=some (.nx,ρ1):=by
 cases n with
 | zero=>omega
 | succ n=>exact bs h rfl
theorem Hc{c:DEnv->Option (Bool × DEnv)}{b:DEnv->Option (Fl × DEnv)}{n:Nat}{ρ ρ1 ρ2:DEnv}{r:Option (Fl × DEnv)}(h:c ρ=some (true,ρ1))(a:b ρ1=some (.nx,ρ2))(k:gh c b n ρ2=r):gh c b (n + 1) ρ=r:=bs h (by rw[if_pos rfl];exact bs a k)
abbrev jT:E:=.cmp .inn (.ix (.nm 1) (.int 0)) (.tup ecj)
theorem j9{C:Ct}:∀{rs:List R} {i:Int} {out:List PyData} {o0 o1:Option OD},∃a,bW (cm C (.tp [0,1]) (.some jT) (.nm 0)) (enF i rs) out [o0,o1]=some (out++(jIx i rs).map PyData.int,a)
 | [],i,out,o0,o1=>⟨[o0,o1],by rw[jIx,aaK,aap];rfl⟩
 | r::rs,i,out,o0,o1=>by
  have b:bf C jT [some (It i),some (Rd r)]=some (r.jm,[some (It i),some (Rd r)]):=ao (aq (aN (z:=.fz (.str r.wd)) rfl rfl rfl (by rw[R.d_is];exact bq br)) rfl rfl rfl (uw r));rw[jIx];cases c:r.jm with
  | false =>rw[c]at b;obtain⟨a,e⟩:=j9 (C:=C) (rs:=rs) (i:=i + 1) (out:=out++[]) (o0:=some (It i)) (o1:=some (Rd r));refine⟨a,bs (x:=([],[some (It i),some (Rd r)])) (qz rfl b) ?_⟩;rw[if_neg aae,e,aap]
  | true =>rw[c]at b;obtain⟨a,e⟩:=j9 (C:=C) (rs:=rs) (i:=i + 1) (out:=out++[.int i]) (o0:=some (It i)) (o1:=some (Rd r));refine⟨a,bs (x:=([.int i],[some (It i),some (Rd r)])) (qy rfl b rfl rfl) ?_⟩;rw[if_pos rfl,e,aac];rfl
abbrev JO:E:=.ix (.lst eay) (.nm 1)
theorem ka{n:Nat}{sh:Int}(h:0<=sh)(i:sh < 3):∀{js:List Int} {m:Nat} {a b c:Int} {out:List PyData} {o:Option OD},TpOk b c m->m + js.length<=100000->∃(ls:List Int) (J D A:Int) (I:Option OD),bW (cm (pl.pg.ct (n + 1)) (.nm 0) (.some JO) (.nm 0)) (js.map PyData.int) out [o,some (It sh),some (Tp a b c)]=some (out++ls.map PyData.int,[I,some (It sh),some (Tp J D A)])/\ls.Sublist js/\TpOk D A (m + js.length)
 | [],m,a,b,c,out,o,t,_=>⟨[],a,b,c,o,by rw[aaK,aap];rfl,.slnil,t⟩
 | k::js,m,a,b,c,out,o,t,hm=>by
  rw[aam]at hm;obtain⟨H,d,u,r,N,L,G,z⟩:=aL (n:=n) (a:=a) (many:=2) t (by omega) (by decide) (by decide);obtain⟨y,B,M⟩:=gz (xs:=[OD.fz (.bool false),.fz (.bool (decide (H=0))),.fz (.bool true)]) h i;obtain⟨q,rfl⟩:∃q:Bool,y=.fz (.bool q):=by simp only[aaa,aaq,or_false]at B;rcases B with rfl | rfl | rfl<;>exact⟨_,rfl⟩
  have F:=GZ (C:=pl.pg.ct (n + 1)) (ρ:=[some (It k),some (It sh),some (Tp a b c)]) (aN (ax (aa rfl (aa (aq (ah (f:=16) (es:=.cons (.nm 2) G2) (ρ3:=[some (It k),some (It sh),some (Tp d u r)]) rfl rfl N rfl) (b:=.int 0) (o:=.eq) rfl rfl rfl rfl) (aa (e:=.bl true) rfl af)) (e:=.bl false)) rfl rfl) (b:=.nm 1) rfl rfl (f7 M));cases q with
  | false =>obtain⟨ls,w,g,l,v,j,s,p⟩:=ka (n:=n) h i (js:=js) (a:=d) (out:=out++[]) (o:=some (It k)) z (by omega);refine⟨ls,w,g,l,v,bs (x:=([],[some (It k),some (It sh),some (Tp d u r)])) (qz rfl F) ?_,s.cons _,p.up (by rw[aam];omega)⟩;rw[j,aap]
  | true =>obtain⟨ls,w,g,l,v,j,s,p⟩:=ka (n:=n) h i (js:=js) (a:=d) (out:=out++[.int k]) (o:=some (It k)) z (by omega);refine⟨k::ls,w,g,l,v,bs (x:=([.int k],[some (It k),some (It sh),some (Tp d u r)])) (qy rfl F rfl rfl) ?_,s.cons₂ _,p.up (by rw[aam];omega)⟩;rw[j,aac];rfl
theorem xR{n m:Nat}{a b c:Int}{rs:List R}(B:rs.length<=60)(h:TpOk b c m)(y:m<=90000):∃(ls:List Int) (D u t:Int),pl.pg.call (n + 2) 19 [Tp a b c,Rl rs]=some (Il ls,[Tp D u t,Rl rs])/\ls.Sublist (jIx 0 rs)/\TpOk u t (m + 100):=by
 have H:(jIx 0 rs).length<=60:=by rw[fG];exact aat (abh _ _) B
 obtain⟨e,d,g,f,G,l,j,x⟩:=aL (n:=n) (a:=a) (many:=3) h (up (k:=0) y rfl) (by decide) (by decide);obtain⟨w,q⟩:=j9 (C:=pl.pg.ct (n + 1)) (rs:=rs) (i:=0) (out:=[]) (o0:=none) (o1:=none);rw[aaD,<- fE]at q;obtain⟨ls,v,p,r,o,s,F,A⟩:=ka (n:=n) l j (js:=jIx 0 rs) (a:=d) (out:=[]) (o:=none) x (by omega);rw[aaD]at s;generalize jIx 0 rs=js at *;refine⟨ls,v,p,r,ai (fn:=ow) rfl rfl (ab (ag (ρ3:=[some (Tp d g f),some (Rl rs),some (It e),none]) (ah (ρ3:=[some (Tp d g f),some (Rl rs),none,none]) rfl rfl G rfl) rfl rfl rfl) (ab (ag (ρ3:=[some (Tp d g f),some (Rl rs),some (It e),some (.lst ((js.map PyData.int).map OD.fz))]) (dB (ρ2:=[some (Tp d g f),some (Rl rs),some (It e),none]) (eG rfl rfl) (by rw[cE,aab];omega) rfl q unca_nil) rfl rfl rfl) (ar (aj (z:=Il ls) (dB (ρ2:=[some (Tp v p r),some (Rl rs),some (It e),some (.fz (.list (js.map PyData.int)))]) (dA (ds:=js.map PyData.int) rfl (cM rfl (cL _) rfl) rfl) (by rw[aab];omega) rfl s rfl) (by rw[cx];rfl))))) rfl,F,A.up (by omega)⟩
theorem lA{rs:List R}{ls:List Int}{r0 r1:Int}(d:rs.length<=60)(h:ls.Sublist (jIx 0 rs)):ls.length + (free ⟨rs,ls,r0,r1⟩).length<=60:=by
 have f:=split_len (p:=λa:Int=>decide (a∈ls)) (l:=jIx 0 rs);have b:(ls.filter λa=>decide (a∈ls)).Sublist ((jIx 0 rs).filter λa=>decide (a∈ls)):=h.filter _;rw[List.filter_eq_self.mpr λa c=>Dac c]at b;have e:=b.length_le;have g:(jIx 0 rs).length<=60:=by rw[fG];exact aat (abh _ _) d
 show ls.length + ((jIx 0 rs).filter λa=>!decide (a∈ls)).length<=60;omega
abbrev gY(t:OD)(f:Cf)(qs:Pz)(x3:OD)(o4:Option OD):DEnv:=[some t,some (Rl f.rows),some (Pq qs),some x3,o4]
abbrev gQ:S':=.set 4 ebi
theorem yR{n:Nat}{t:OD}{f:Cf}{qs:Pz}{o4:Option OD}{b:Ss}{r:Option (Fl × DEnv)}(c:Qok f qs)(g:qs.length<=300)(i:f.rows.length<=60)(d:Jb f.rows.length f.rows)(k:aK (pl.pg.ct (n + 4)) b (gY t f qs (Lo f) (some (Il (iM f qs 499))))=r):aK (pl.pg.ct (n + 4)) (.cons gQ b) (gY t f qs (Il f.longs) o4)=r:=by have a:=uy (n:=n) (f:=f) (qs:=qs) (hop:=499) (λq h=>(c.ok q h).g0) g (by omega) d;have e:(pl.pg.ct (n + 4)).call=pl.pg.call (n + 4):=rfl;rw[<- e]at a;exact ab (ag (ρ3:=gY t f qs (Lo f) (some (Il (iM f qs 499)))) (ah (rs:=[.val (Rl f.rows),.rf 3,.val (Pq qs),.val (It 499)]) (ρ2:=gY t f qs (Lo f) o4) (ρ3:=gY t f qs (Lo f) o4) rfl (show bB [false,false,false,false] _ _=_ from xP rfl (xP (cM rfl (aO _) rfl) (xP rfl (xP rfl rfl)))) a rfl) rfl rfl rfl) k
abbrev gX:Ss:=.cons ecf (.cons gQ .nil)
theorem He{C:Ct}{ρ:DEnv}{i:Nat}{ls:List Int}(h:ev C (.nm i) ρ=some (.rf i,ρ))(a:ρ[i]?.join=some (Il ls)):bf C (.cmp .ne (.nm i) (.lst .nil)) ρ=some (!ls.isEmpty,ρ):=ao (aq h (ax af rfl rfl) (by show (ρ[i]?.join).bind OD.dat=_;rw[a];exact aO ls) rfl (oP ls))
theorem uz{n:Nat}{t:OD}{qs:Pz}:∀{m:Nat} {f:Cf} {fuel:Nat},(free f).length<=m->m < fuel->Qok f qs->qs.length<=300->f.rows.length<=60->Jb f.rows.length f.rows->f.longs.length + (free f).length<=60->(∀a∈f.longs,a∈jIx 0 f.rows)->∃(ls:List Int) (o:Option OD),(∀a∈ls,a∈jIx 0 f.rows)/\gh (bf (pl.pg.ct (n + 4)) edi) (aK (pl.pg.ct (n + 4)) gX) fuel (gY t f qs (Lo f) (some (Il (iM f qs 499))))=some (.nx,gY t f qs (.fz (.list (ls.map PyData.int))) o)
 | m,f,fuel,hm,hf,hQ,hq,hN,hJ,hb,hs=>by
  have b:=He (C:=pl.pg.ct (n + 4)) (ρ:=gY t f qs (Lo f) (some (Il (iM f qs 499)))) (i:=4) rfl rfl;by_cases h:iM f qs 499=[]
  ·rw[h]at b;exact⟨f.longs,_,hs,by rw[h];exact Hb b (by omega)⟩
  ·have c:(!(iM f qs 499).isEmpty)=true:=by cases e:iM f qs 499 with | nil=>exact absurd e h | cons _ _=>rfl
   rw[c]at b;have k:=xO (f:=f) (qs:=qs) (hop:=499);have l:0 < (iM f qs 499).length:=List.length_pos_iff.mpr h;cases m with
   | zero=>omega
   | succ m =>
    cases fuel with
    | zero=>omega
    | succ fuel =>
     have j:(nx f (iM f qs 499)).longs.length=f.longs.length + (iM f qs 499).length:=by show (sortI _).length=_;rw[jd,aai]
     obtain⟨ls,o,d,e⟩:=uz (n:=n) (t:=t) (qs:=qs) (m:=m) (f:=nx f (iM f qs 499)) (fuel:=fuel) (by omega) (by omega) ⟨hQ.ok,hQ.inc⟩ hq hN hJ (by omega) (λa g=>by
      rcases aan.mp (sortI_mem.mp g) with z | z
      ·exact hs a z
      ·exact (aa3.mp (aa3.mp z).1).1)
     exact⟨ls,o,d,Hc b (ab (ag (ρ3:=gY t (nx f (iM f qs 499)) qs (Il (nx f (iM f qs 499)).longs) (some (Il (iM f qs 499)))) (EV (xs:=f.longs) (ys:=iM f qs 499) rfl rfl rfl (xQ _) (by rw[aai];omega)) rfl rfl rfl) (yR (f:=nx f (iM f qs 499)) ⟨hQ.ok,hQ.inc⟩ hq hN hJ rfl)) e⟩
theorem BC{n m:Nat}{a b c:Int}{rs:List R}{qs:Pz}{r0 r1:Int}(s:∀ls,Qok ⟨rs,ls,r0,r1⟩ qs)(p:qs.length<=300)(d:rs.length<=60)(q:Jb rs.length rs)(h:TpOk b c m)(x:m<=90000):∃(ls:List Int) (z u r:Int),pl.pg.call (n + 5) 25 [Tp a b c,Rl rs,Pq qs]=some (.fz (.list (ls.map PyData.int)),[Tp z u r,Rl rs,Pq qs])/\(∀a∈ls,a∈jIx 0 rs)/\TpOk u r (m + 100):=by obtain⟨j,i,k,g,A,l,v⟩:=xR (n:=n + 2) (a:=a) d h x;obtain⟨ls,o,w,e⟩:=uz (n:=n) (t:=Tp i k g) (qs:=qs) (m:=60) (f:=⟨rs,j,r0,r1⟩) (fuel:=100000) (by have:=lA (r0:=r0) (r1:=r1) d l;exact aat (Nat.le_add_left _ _) this) (by decide) (s _) p d q (lA d l) (λa y=>l.subset y);refine⟨ls,i,k,g,ai (fn:=fh) (ρ:=gY (Tp i k g) ⟨rs,j,r0,r1⟩ qs (.fz (.list (ls.map PyData.int))) o) rfl rfl ?_ rfl,w,v⟩;refine ab (ag (ρ3:=gY (Tp i k g) ⟨rs,j,r0,r1⟩ qs (Il j) none) (ah (ρ3:=[some (Tp i k g),some (Rl rs),some (Pq qs),none,none]) rfl rfl A rfl) rfl rfl rfl) (yR (f:=⟨rs,j,r0,r1⟩) (s _) p d q ?_);exact ab (show bC _ (.whl edi gX) _=_ from e) (ar (aj rfl rfl))
def gI:PyData->Int | .int t=>t | _=>0
def IE:PyData->Int | .tuple (.int b::_)=>b | _=>0
def IF:PyData->Int | .tuple [_,.int i]=>i | _=>0
def cg(r:R)(p:Int)(lg:Bool)(g:PyData):List Int:=match r with
 | .st x n=>if 99 < n then [5000 + 100 * x + IF g,5000 + IE g - p] else [1000 + 100 * x + n]
 | .ot w xs _=>if w="go" then (if lg=true then [7000,gI g] else [6500 + gI g - p])
  else if w="nil" then (if lg=true then [9000 + xs.getD 0 0,gI g] else [8100 + 200 * xs.getD 0 0 + gI g - p])
  else if w="stop" then [0] else if w="tell" then [4000 + xs.getD 0 0]
  else if w="sum" then [2000 + 10 * xs.getD 0 0 + xs.getD 1 0] else [3000 + 10 * xs.getD 0 0 + xs.getD 1 0]
def Gok(r:R)(g:PyData):Prop:=if r.gr=true then ∃b i,g=.tuple [.int b,.int i] else if r.jm=true then ∃t,g=.int t else g=.none
theorem bM{k:Nat}{x:Int}(h:(k:Int) < 1000):uX .mul (.int (k:Int)) (.int x)=some (.int ((k:Int) * x)):=dY (.inl ⟨by omega,by omega⟩)
abbrev Hf(r:R)(p:Int)(lg:Bool)(g:PyData)(o4 o5 o6:Option OD):DEnv:=[some (Rd r),some (It p),some (.fz (.bool lg)),some (.fz g),o4,o5,o6]
theorem BD{n:Nat}{r:R}{p t:Int}{lg:Bool}(d:r.ok)(c:r.jm=true):pl.pg.call (n + 1) 5 [Rd r,It p,.fz (.bool lg),It t]=some (Il (cg r p lg (.int t)),[Rd r,It p,.fz (.bool lg),It t]):=by
 cases r with
 | st x k=>cases c
 | ot w e h =>
  cases d with
  | sum _ _=>cases c
  | less _ _=>cases c
  | tell _=>cases c
  | stop=>cases c
  | go a =>
   cases lg with
   | true=>exact ai (fn:=bA) rfl rfl (ar (aE rfl (ar (aj (cP rfl (ax (aa rfl (aa rfl af)) rfl rfl)) rfl)))) rfl
   | false=>exact ai (fn:=bA) rfl rfl (ar (aE rfl (ar (aj (dr rfl (ax (aa (ae (ae rfl rfl rfl rfl rfl) rfl rfl rfl rfl) af) rfl rfl)) rfl)))) rfl
  | nil a b =>
   cases lg with
   | true=>exact ai (fn:=bA) rfl rfl (ab (s_ifF rfl rfl) (ar (aE rfl (ar (aj (ax (aa (ae rfl rfl rfl rfl rfl) (aa rfl af)) rfl rfl) rfl))))) rfl
   | false=>exact ai (fn:=bA) rfl rfl (ab (s_ifF rfl rfl) (ab (s_ifF rfl rfl) (ar (aj (ax (aa (ae (ae (ae rfl (ae rfl rfl rfl rfl (bM (k:=200) (by decide))) rfl rfl rfl) rfl rfl rfl rfl) rfl rfl rfl rfl) af) rfl rfl) rfl)))) rfl
theorem BE{n:Nat}{r:R}{p:Int}{lg:Bool}{g:PyData}(o:r.ok)(d:Gok r g):pl.pg.call (n + 2) 6 [Rd r,It p,.fz (.bool lg),.fz g]=some (Il (cg r p lg g),[Rd r,It p,.fz (.bool lg),.fz g]):=by
 have c:∀{l q s:Option OD},bf (pl.pg.ct (n + 1)) edh (Hf r p lg g l q s)=some (r.gr,Hf r p lg g l q s):=bz (ah (ρ3:=Hf r p lg g _ _ _) rfl rfl (Bi r) rfl);cases r with
 | st x k =>
  by_cases h:99 < k
  ·have e:(R.st x k).gr=true:=Dac h;unfold Gok at d;rw[if_pos e]at d;obtain⟨b,i,rfl⟩:=d;rw[e]at c;have j:cg (R.st x k) p lg (.tuple [.int b,.int i])=[5000 + 100 * x + i,5000 + b - p]:=if_pos h;rw[j];exact ai (fn:=aS) rfl rfl (ab (ag rfl rfl rfl rfl) (ab (s_ifF rfl rfl) (ab (s_ifF rfl rfl) (ar (aE c (ab (gf rfl rfl rfl) (ar (aj (ax (aa (ae (ae rfl (ae rfl rfl rfl rfl (bM (k:=100) (by decide))) rfl rfl rfl) rfl rfl rfl rfl) (aa (ae (ae rfl rfl rfl rfl rfl) rfl rfl rfl rfl) af)) rfl rfl) rfl)))))))) rfl
  ·have e:(R.st x k).gr=false:=Dab h;rw[e]at c;have j:cg (R.st x k) p lg g=[1000 + 100 * x + k]:=if_neg h;rw[j];exact ai (fn:=aS) rfl rfl (ab (ag rfl rfl rfl rfl) (ab (s_ifF rfl rfl) (ab (s_ifF rfl rfl) (ab (s_ifF c rfl) (ar (aE rfl (ar (aj (ax (aa (ae (ae rfl (ae rfl rfl rfl rfl (bM (k:=100) (by decide))) rfl rfl rfl) rfl rfl rfl rfl) af) rfl rfl) rfl)))))))) rfl
 | ot w f h =>
  have e:(R.ot w f h).gr=false:=rfl;rw[e]at c;have u:(R.ot w f h).jm=true->(pl.pg.ct (n + 1)).call 5 [Rd (R.ot w f h),It p,.fz (.bool lg),.fz g]=some (Il (cg (R.ot w f h) p lg g),[Rd (R.ot w f h),It p,.fz (.bool lg),.fz g]):=λm=>by unfold Gok at d;rw[if_neg (by rw[e];decide),if_pos m]at d;obtain⟨t,rfl⟩:=d;exact BD o m
  cases o with
  | sum a b=>exact ai (fn:=aS) rfl rfl (ab (ag rfl rfl rfl rfl) (ab (s_ifF rfl rfl) (ab (s_ifF rfl rfl) (ab (s_ifF c rfl) (ab (s_ifF rfl rfl) (ar (aE rfl (ar (aj (ax (aa (ae (ae rfl (ae rfl rfl rfl rfl (bM (k:=10) (by decide))) rfl rfl rfl) rfl rfl rfl rfl) af) rfl rfl) rfl))))))))) rfl
  | less a b=>exact ai (fn:=aS) rfl rfl (ab (ag rfl rfl rfl rfl) (ab (s_ifF rfl rfl) (ab (s_ifF rfl rfl) (ab (s_ifF c rfl) (ab (s_ifF rfl rfl) (ab (s_ifF rfl rfl) (ar (aE rfl (ar (aj (ax (aa (ae (ae rfl (ae rfl rfl rfl rfl (bM (k:=10) (by decide))) rfl rfl rfl) rfl rfl rfl rfl) af) rfl rfl) rfl)))))))))) rfl
  | tell a=>exact ai (fn:=aS) rfl rfl (ab (ag rfl rfl rfl rfl) (ab (s_ifF rfl rfl) (ab (s_ifF rfl rfl) (ab (s_ifF c rfl) (ab (s_ifF rfl rfl) (ab (s_ifF rfl rfl) (ab (s_ifF rfl rfl) (ar (aj (ax (aa (ae rfl rfl rfl rfl rfl) af) rfl rfl) rfl))))))))) rfl
  | stop=>exact ai (fn:=aS) rfl rfl (ab (ag rfl rfl rfl rfl) (ar (aE rfl (ar (aj (ax (aa rfl af) rfl rfl) rfl))))) rfl
  | go a=>exact ai (fn:=aS) rfl rfl (ab (ag rfl rfl rfl rfl) (ab (s_ifF rfl rfl) (ar (aE (i7 rfl) (ar (aj (ah rfl rfl (u rfl) rfl) rfl)))))) rfl
  | nil a b=>exact ai (fn:=aS) rfl rfl (ab (ag rfl rfl rfl rfl) (ab (s_ifF rfl rfl) (ar (aE (dz rfl rfl) (ar (aj (ah rfl rfl (u rfl) rfl) rfl)))))) rfl
def gJ(r:R)(g:PyData):PyData:=if r.jm=true then g else .none
def gW(r:R)(g:PyData):PyData:=if r.gr=true then g else .none
theorem xS{n:Nat}{r:R}{p:Int}{lg:Bool}{g:PyData}(o:r.ok)(c:Gok r g):pl.pg.call (n + 1) 27 [Rd r,It p,.fz (.bool lg),.fz (gJ r g),.fz (gW r g)]=some (Il (cg r p lg g),[Rd r,It p,.fz (.bool lg),.fz (gJ r g),.fz (gW r g)]):=by
 cases r with
 | st x k =>
  have q:gJ (R.st x k) g=.none:=rfl;rw[q];by_cases h:99 < k
  ·have e:(R.st x k).gr=true:=Dac h;unfold Gok at c;rw[if_pos e]at c;obtain⟨b,i,rfl⟩:=c;have j:cg (R.st x k) p lg (.tuple [.int b,.int i])=[5000 + 100 * x + i,5000 + b - p]:=if_pos h;have f:gW (R.st x k) (.tuple [.int b,.int i])=.tuple [.int b,.int i]:=if_pos e;rw[j,f];exact ai (fn:=aw) rfl rfl (ab (ag rfl rfl rfl rfl) (ar (aE rfl (ar (aj (ax (aa (ae (ae rfl (ae rfl rfl rfl rfl (bM (k:=100) (by decide))) rfl rfl rfl) rfl rfl rfl rfl) (aa (ae (ae rfl rfl rfl rfl rfl) rfl rfl rfl rfl) af)) rfl rfl) rfl))))) rfl
  ·have e:(R.st x k).gr=false:=Dab h;have j:cg (R.st x k) p lg g=[1000 + 100 * x + k]:=if_neg h;have f:gW (R.st x k) g=.none:=if_neg (by rw[e];decide);rw[j,f];exact ai (fn:=aw) rfl rfl (ab (ag rfl rfl rfl rfl) (ab (s_ifF rfl rfl) (ab (s_ifF rfl rfl) (ab (s_ifF rfl rfl) (ar (aE rfl (ar (aj (ax (aa (ae (ae rfl (ae rfl rfl rfl rfl (bM (k:=100) (by decide))) rfl rfl rfl) rfl rfl rfl rfl) af) rfl rfl) rfl)))))))) rfl
 | ot w l h =>
  have f:gW (R.ot w l h) g=.none:=rfl;rw[f];have d:(R.ot w l h).jm=true->∃t,g=.int t:=λm=>by unfold Gok at c;rw[if_neg (λz=>by cases z),if_pos m]at c;exact c
  cases o with
  | sum a b=>exact ai (fn:=aw) rfl rfl (ab (ag rfl rfl rfl rfl) (ab (s_ifF rfl rfl) (ab (s_ifF rfl rfl) (ab (s_ifF rfl rfl) (ab (s_ifF rfl rfl) (ab (s_ifF rfl rfl) (ar (aj (dr rfl (ax (aa (ae (ae rfl (ae rfl rfl rfl rfl (bM (k:=10) (by decide))) rfl rfl rfl) rfl rfl rfl rfl) af) rfl rfl)) rfl)))))))) rfl
  | less a b=>exact ai (fn:=aw) rfl rfl (ab (ag rfl rfl rfl rfl) (ab (s_ifF rfl rfl) (ab (s_ifF rfl rfl) (ab (s_ifF rfl rfl) (ab (s_ifF rfl rfl) (ab (s_ifF rfl rfl) (ar (aj (dr rfl (ax (aa (ae (ae rfl (ae rfl rfl rfl rfl (bM (k:=10) (by decide))) rfl rfl rfl) rfl rfl rfl rfl) af) rfl rfl)) rfl)))))))) rfl
  | tell a=>exact ai (fn:=aw) rfl rfl (ab (ag rfl rfl rfl rfl) (ab (s_ifF rfl rfl) (ab (s_ifF rfl rfl) (ab (s_ifF rfl rfl) (ab (s_ifF rfl rfl) (ab (s_ifF rfl rfl) (ar (aj (cP rfl (ax (aa (ae rfl rfl rfl rfl rfl) af) rfl rfl)) rfl)))))))) rfl
  | stop=>exact ai (fn:=aw) rfl rfl (ab (ag rfl rfl rfl rfl) (ab (s_ifF rfl rfl) (ab (s_ifF rfl rfl) (ab (s_ifF rfl rfl) (ab (s_ifF rfl rfl) (ar (aE rfl (ar (aj (ax (aa rfl af) rfl rfl) rfl))))))))) rfl
  | go a =>
   obtain⟨t,rfl⟩:=d rfl;cases lg with
   | true=>exact ai (fn:=aw) rfl rfl (ab (ag rfl rfl rfl rfl) (ab (s_ifF rfl rfl) (ar (aE rfl (ar (aj (cP rfl (ax (aa rfl (aa rfl af)) rfl rfl)) rfl)))))) rfl
   | false=>exact ai (fn:=aw) rfl rfl (ab (ag rfl rfl rfl rfl) (ab (s_ifF rfl rfl) (ar (aE rfl (ar (aj (dr rfl (ax (aa (ae (ae rfl rfl rfl rfl rfl) rfl rfl rfl rfl) af) rfl rfl)) rfl)))))) rfl
  | nil a b =>
   obtain⟨t,rfl⟩:=d rfl;cases lg with
   | true=>exact ai (fn:=aw) rfl rfl (ab (ag rfl rfl rfl rfl) (ab (s_ifF rfl rfl) (ab (s_ifF rfl rfl) (ar (aE rfl (ar (aj (cP rfl (ax (aa (ae rfl rfl rfl rfl rfl) (aa rfl af)) rfl rfl)) rfl))))))) rfl
   | false=>exact ai (fn:=aw) rfl rfl (ab (ag rfl rfl rfl rfl) (ab (s_ifF rfl rfl) (ab (s_ifF rfl rfl) (ar (aE rfl (ar (aj (dr rfl (ax (aa (ae (ae (ae rfl (ae rfl rfl rfl rfl (bM (k:=200) (by decide))) rfl rfl rfl) rfl rfl rfl rfl) rfl rfl rfl rfl) af) rfl rfl)) rfl))))))) rfl
theorem xtI{C:Ct}{i:Nat}{e:E}{ρ ρ1 ρ2:DEnv}{zs xs ys:List Int}(j:ρ[i]?.join=some (Il zs))(h:ev C e ρ=some (.val (Il ys),ρ1))(g:ρ1[i]?.join=some (Il xs))(b:xs.length + ys.length<=1000000)(f:ρ1.set i (some (Il (xs++ys)))=ρ2):bC C (.ext i e) ρ=some (.nx,ρ2)/\bC C (.agl i e) ρ=some (.nx,ρ2):=by
 have a:(ρ[i]?.join).bind (λd=>(kQ d).bind λ_=>(ev C e ρ).bind λx=>(Do x.1).bind λys=>(x.2[i]?.join).bind λc=>(kQ c).bind λxs=>(gd (xs.length + ys.length<=1000000)).bind λ_=>some (Fl.nx,x.2.set i (some (.lst (xs++ys)))))=some (.nx,ρ2) :=
  bs j (bs rfl (bs h (bs rfl (bs g (bs rfl (bg (by rw[aab,aab];exact b) (by
   rw[<- f];show some (Fl.nx,ρ1.set i (some (OD.lst (xs.map It++ys.map It))))=some (Fl.nx,ρ1.set i (some (OD.lst ((xs++ys).map It))));rw[aav])))))))
 exact⟨a,a⟩
def xT(ws:List Int):List Int:=ws.flatMap λw=>[w / 10000,w % 10000]
def ovL(rs:List R)(k:Nat)(ws:List Int)(b:Int):List Int:=if lJ rs k=true then [7001,b + 2 * ws.length] else []
def padL(p:Int):List Int:=if p % 2=0 then [7002] else []
def poolC(rs:List R)(k:Nat)(ws:List Int)(p:Int):List Int:=ovL rs k ws (fw rs k p)++(padL (p + (ovL rs k ws (fw rs k p)).length)++((7100 + (ws.length:Int))::xT ws))
theorem kb:∀{ws:List Int},(xT ws).length=2 * ws.length
 | []=>rfl
 | w::ws=>by show ([w / 10000,w % 10000]++xT ws).length=_;rw[aai,kb];show 2 + 2 * ws.length=2 * (ws.length + 1);omega
theorem fH{rs:List R}{k:Nat}{ws:List Int}{b:Int}:(ovL rs k ws b).length=if lJ rs k=true then 2 else 0:=by unfold ovL;split<;>rfl
theorem uA{p:Int}:((padL p).length:Int)=1 - p % 2:=by
 unfold padL;split
 ·show (1:Int)=_;omega
 ·show (0:Int)=_;omega
theorem qI{rs:List R}{k:Nat}{ws:List Int}{p:Int}:p + (poolC rs k ws p).length=fw rs k p + 2 * ws.length:=by unfold poolC;rw[aai,aai,aam,kb];have h:=uA (p:=p + (ovL rs k ws (fw rs k p)).length);rw[fH]at h ⊢;unfold fw;simp only;split at h<;>rename_i a<;>simp only[a,if_pos,if_neg,acg,↓reduceIte]at *<;>push_cast at *<;>omega
abbrev Tn'(ws:List Int):OD:=.fz (.tuple (ws.map PyData.int))
theorem xU{ws:List Int}:uZ .len [.tuple (ws.map PyData.int)]=some (.int (ws.length:Int)):=by show some (PyData.int ((ws.map PyData.int).length:Nat))=_;rw[aab]
abbrev pcE(rs:List R)(k:Nat)(ws:List Int)(p:Int)(o4 o5 o6:Option OD):DEnv:=[some (Rl rs),some (It k),some (Tn' ws),some (It p),o4,o5,o6]
abbrev JP:Ss:=.cons eba .nil
theorem oS{n:Nat}{rs:List R}{k:Nat}{ws0:List Int}{p:Int}{o4:Option OD}:∀{ws xs:List Int} {o6:Option OD},xs.length + 2 * ws.length<=1000->∃b,bb (λd a=>(bc (.nm 6) (.fz d) a).bind λρ1=>aK (pl.pg.ct n) JP ρ1) (ws.map PyData.int) (pcE rs k ws0 p o4 (some (Il xs)) o6)=some (.nx,pcE rs k ws0 p o4 (some (Il (xs++xT ws))) b)
 | [],xs,o6,_=>⟨o6,by show some (Fl.nx,_)=some (Fl.nx,pcE rs k ws0 p o4 (some (Il (xs++[]))) o6);rw[aap]⟩
 | w::ws,xs,o6,h=>by rw[aam]at h;obtain⟨b,e⟩:=oS (n:=n) (rs:=rs) (k:=k) (ws0:=ws0) (p:=p) (o4:=o4) (ws:=ws) (xs:=xs++[w / 10000,w % 10000]) (o6:=some (It w)) (by rw[aai];show xs.length + 2 + _<=_;omega);refine⟨b,bs (bs (x:=pcE rs k ws0 p o4 (some (Il xs)) (some (It w))) rfl (ab (xtI (xs:=xs) (ys:=[w / 10000,w % 10000]) (ρ1:=pcE rs k ws0 p o4 (some (Il xs)) (some (It w))) (ρ2:=pcE rs k ws0 p o4 (some (Il (xs++[w / 10000,w % 10000]))) (some (It w))) rfl (ax (aa (ae rfl rfl rfl rfl (oC (j:=10000) (by decide))) (aa (ae rfl rfl rfl rfl (bZ (j:=10000) (by decide))) af)) rfl rfl) rfl (by show xs.length + 2<=_;omega) rfl).2 rfl)) (e.trans ?_)⟩;rw[aac];rfl
theorem xV{n k:Nat}{rs:List R}{ws:List Int}{p:Int}(hk:k<=rs.length)(t:ws.length<=100):pl.pg.call (n + 4) 11 [Rl rs,It k,Tn' ws,It p]=some (Il (poolC rs k ws p),[Rl rs,It k,Tn' ws,It p]):=by
 have e:=oF (n:=n) (p:=p) hk;have j:=ue (n:=n + 1) hk;have s:(pl.pg.ct (n + 3)).call=pl.pg.call (n + 3):=rfl;rw[<- s]at e j;unfold poolC;obtain⟨b,g⟩:∃b,b=fw rs k p:=⟨_,rfl⟩
 rw[<- g]at e ⊢;obtain⟨xs,c⟩:∃xs,xs=ovL rs k ws b:=⟨_,rfl⟩
 have v:xs.length<=2:=by rw[c,fH];split<;>omega
 have q:bC (pl.pg.ct (n + 3)) eae (pcE rs k ws p (some (It b)) (some (Il [])) none)=some (.nx,pcE rs k ws p (some (It b)) (some (Il xs)) none):=by
  have a:bf (pl.pg.ct (n + 3)) ecd (pcE rs k ws p (some (It b)) (some (Il [])) none)=some (lJ rs k,pcE rs k ws p (some (It b)) (some (Il [])) none):=bz (ah (ρ3:=pcE rs k ws p (some (It b)) (some (Il [])) none) rfl rfl j rfl);rw[c];unfold ovL;cases l:lJ rs k with
  | false=>rw[l]at a;exact s_ifF a rfl
  | true =>rw[l]at a;exact aE a (ab (xtI (xs:=[]) (ys:=[7001,b + 2 * ws.length]) rfl (ax (aa rfl (aa (ae rfl (ae rfl (aG rfl rfl xU) rfl rfl (bM (k:=2) (by decide))) rfl rfl rfl) af)) rfl rfl) rfl (by show 0 + 2<=1000000;decide) rfl).2 rfl)
 have r:bC (pl.pg.ct (n + 3)) ear (pcE rs k ws p (some (It b)) (some (Il xs)) none)=some (.nx,pcE rs k ws p (some (It b)) (some (Il (xs++padL (p + xs.length)))) none):=by
  have o:uZ .len [.list (xs.map PyData.int)]=some (.int (xs.length:Int)):=by show some (PyData.int ((xs.map PyData.int).length:Nat))=_;rw[aab]
  have d:bf (pl.pg.ct (n + 3)) Iy (pcE rs k ws p (some (It b)) (some (Il xs)) none)=some (decide (p + xs.length + 1 < b),pcE rs k ws p (some (It b)) (some (Il xs)) none):=ao (aq (ae (ae rfl (aG rfl (kU (aO xs)) o) rfl rfl rfl) rfl rfl rfl rfl) rfl rfl rfl rfl);have f:(p + xs.length + 1 < b) ↔ (p + xs.length) % 2=0:=by
   rw[c,fH,g];unfold fw;simp only;cases lJ rs k with
   | false=>simp only[acg,↓reduceIte];push_cast;omega
   | true=>simp only[↓reduceIte];push_cast;omega
  unfold padL;by_cases h:p + xs.length + 1 < b
  ·rw[Dac h]at d;rw[if_pos (f.mp h)];exact aE d (ab (bP (ρ3:=pcE rs k ws p (some (It b)) (some (Il (xs++[7002]))) none) rfl rfl rfl rfl (by rw[aab];omega) (by unfold pcE;rw[cy (ns:=xs)];rfl)) rfl)
  ·rw[Dab h]at d;rw[if_neg (λz=>h (f.mpr z)),aap];exact s_ifF d rfl
 have u:(padL (p + xs.length)).length<=1:=by unfold padL;split<;>simp
 rw[<- c];generalize padL (p + xs.length)=ys at *;obtain⟨o6,i⟩:=oS (n:=n + 3) (rs:=rs) (k:=k) (ws0:=ws) (p:=p) (o4:=some (It b)) (ws:=ws) (xs:=xs++ys++[7100 + (ws.length:Int)]) (o6:=none) (by rw[aai,aai];show _ + 1 + _<=_;omega);have m:xs++ys++[7100 + (ws.length:Int)]++xT ws=xs++(ys++((7100 + (ws.length:Int))::xT ws)):=by simp
 rw[m]at i;refine ai (fn:=fc) (ρ:=(pcE rs k ws p (some (It b)) (some (Il [])) o6).set 5 none) rfl rfl ?_ rfl;refine ab (ag (ρ3:=pcE rs k ws p (some (It b)) none none) (ah (ρ3:=pcE rs k ws p none none none) rfl rfl e rfl) rfl rfl rfl) ?_;refine ab (ag (ρ3:=pcE rs k ws p (some (It b)) (some (Il [])) none) (ax af rfl rfl) rfl rfl rfl) ?_;refine ab q (ab r (ab (bP (ρ3:=pcE rs k ws p (some (It b)) (some (Il (xs++ys++[7100 + (ws.length:Int)]))) none) rfl (ae rfl (aG rfl rfl xU) rfl rfl rfl) rfl rfl (by rw[aab,aai];omega) (by unfold pcE;rw[cy (ns:=xs++ys)];rfl)) ?_));exact ab (bR (dA rfl rfl rfl) i) (ar (aj rfl rfl))
abbrev dK(L:List (Int × PyData)):List Key:=L.map λz=>.inl z.1
abbrev dV(L:List (Int × PyData)):List OD:=L.map λz=>.fz z.2
abbrev Gd(L:List (Int × PyData)):OD:=.dic (dK L) (dV L)
theorem kc{L:List (Int × PyData)}{a:Int}{d:PyData}(h:a ∉ L.map (·.1)):aZ (.inl a) d (dK L) (dV L)=(dK (L++[(a,d)]),dV (L++[(a,d)])):=by
 have b:¬ ((dK L).any λq=>decide (q=.inl a))=true:=by intro f;obtain⟨q,c,e⟩:=aaV.mp f;obtain⟨u,g,rfl⟩:=aau.mp c;have:=abi (Daa e);exact h (aau.mpr ⟨u,g,this⟩)
 unfold aZ;rw[if_neg b];show _=((L++[(a,d)]).map (λz=>(Sum.inl z.1:Key)),(L++[(a,d)]).map λz=>OD.fz z.2);rw[aav,aav];rfl
theorem m5{a:Int}:∀{L:List (Int × PyData)},dgV (dK L) (dV L) (.inl a)=some (((L.find? λz=>decide (z.1=a)).map (·.2)).getD .none)
 | []=>rfl
 | z::L=>by
  have b:=m5 (a:=a) (L:=L);unfold dgV at b ⊢;rw[dK,dV,aal,aal,abd,aaP];by_cases h:z.1=a
  ·have c:decide ((Sum.inl z.1:Key)=.inl a)=true:=Dac (by rw[h]);rw[c,Dac h];rfl
  ·have c:decide ((Sum.inl z.1:Key)=.inl a)=false:=Dab λe=>h (abi e);rw[c,Dab h];simp only[acg,↓reduceIte];cases d:(dK L).findIdx? (λq=>decide (q=.inl a)) with
   | none=>rw[d]at b;exact b
   | some j=>rw[d]at b;exact b
theorem yS{L:List (Int × PyData)}{a:Int}{d:PyData}(b:(L.map (·.1)).Nodup)(h:(a,d)∈L):dgV (dK L) (dV L) (.inl a)=some d:=by
 rw[m5];congr 1;induction L with
 | nil=>cases h
 | cons z L f =>
  rw[aal,aaA]at b;rw[aaP];rcases aaa.mp h with rfl | h
  ·rw[Dac rfl];rfl
  ·have c:z.1≠a:=λe=>b.1 (by rw[e];exact aau.mpr ⟨_,h,rfl⟩);rw[Dab c];exact f b.2 h
theorem BF{L:List (Int × PyData)}{a:Int}(h:a ∉ L.map (·.1)):dgV (dK L) (dV L) (.inl a)=some .none:=by
 rw[m5,List.find?_eq_none.mpr λz b=>by
  rw[Dab λe:z.1=a=>h (aau.mpr ⟨z,b,e⟩)];decide]
 rfl
theorem uB{C:Ct}{ve:E}{g:Int->PyData}{ρ:DEnv}:∀{js:List Int} {L:List (Int × PyData)} {o:Option OD},(∀j∈js,ev C ve (some (It j)::ρ)=some (.val (.fz (g j)),some (It j)::ρ))->(L.map (·.1)++js).Nodup->∃b,dU (g9 C (.nm 0) (.nm 0) ve) (js.map PyData.int) (dK L,dV L) (o::ρ)=some ((dK (L++js.map λj=>(j,g j)),dV (L++js.map λj=>(j,g j))),b::ρ)
 | [],L,o,_,_=>⟨o,by show some ((dK L,dV L),_)=some ((dK (L++[]),dV (L++[])),_);rw[aap]⟩
 | j::js,L,o,h,nd=>by
  have d:j ∉ L.map (·.1):=λz=>(aaz.mp nd).2.2 j z j aag rfl;have a:((L++[(j,g j)]).map (·.1)++js).Nodup:=by rw[aav,aac];exact nd
  obtain⟨b,e⟩:=uB (js:=js) (L:=L++[(j,g j)]) (o:=some (It j)) (λk f=>h k (aaj _ f)) a;rw[aac]at e;have c:bc (.nm 0) (.fz (.int j)) (o::ρ)=some (some (It j)::ρ):=by unfold bc;exact bg (Nat.succ_pos _) rfl
  refine⟨b,bs (x:=((dK (L++[(j,g j)]),dV (L++[(j,g j)])),some (It j)::ρ)) (bs c (bs (x:=(.val (It j),some (It j)::ρ)) rfl (bs (h j aag) (bs (x:=.int j) rfl (bs (x:=.inl j) rfl (bs (x:=(g j,some (It j)::ρ)) rfl ?_)))))) e⟩;show some (aZ (.inl j) (g j) (dK L) (dV L),some (It j)::ρ)=_;rw[kc d]
abbrev wdL(qs:Pz):List (Int × PyData):=qs.map λq=>(q.1,.tuple (q.2.map PyData.int))
theorem uC{C:Ct}:∀{qs ps:Pz} {o0 o1:Option OD},(ps++qs).Pairwise (λx y=>x.1 < y.1)->∃b a,dU (g9 C (.tp [0,1]) (.nm 0) (.nm 1)) (qs.map Po) (dK (wdL ps),dV (wdL ps)) [o0,o1]=some ((dK (wdL (ps++qs)),dV (wdL (ps++qs))),[b,a])
 | [],ps,o0,o1,_=>⟨o0,o1,by rw[aap];rfl⟩
 | q::qs,ps,o0,o1,h=>by
  have g:q.1 ∉ (wdL ps).map (·.1):=λz=>by obtain⟨u,i,e⟩:=aau.mp z;obtain⟨x,d,rfl⟩:=aau.mp i;have:=(abv.mp h).2.2 x d q aag;have e:x.1=q.1:=e;omega
  obtain⟨b,a,c⟩:=uC (C:=C) (qs:=qs) (ps:=ps++[q]) (o0:=some (It q.1)) (o1:=some (Tn' q.2)) (by rw[aac];exact h);rw[aac]at c;refine⟨b,a,bs (x:=((dK (wdL (ps++[q])),dV (wdL (ps++[q]))),[some (It q.1),some (Tn' q.2)])) (bs (x:=[some (It q.1),some (Tn' q.2)]) rfl (bs rfl (bs rfl (bs rfl (bs rfl (bs rfl ?_)))))) c⟩;show some (aZ (.inl q.1) (.tuple (q.2.map PyData.int)) (dK (wdL ps)) (dV (wdL ps)),[some (It q.1),some (Tn' q.2)])=_;rw[kc g];have f:wdL (ps++[q])=wdL ps++[(q.1,.tuple (q.2.map PyData.int))]:=aav;rw[f]
theorem gIx_nodup:∀{rs:List R} {i:Int},(gIx i rs).Nodup
 | [],i=>aaQ
 | r::rs,i=>by
  rw[gIx];split
  ·refine aaA.mpr ⟨λh=>?_,gIx_nodup⟩;obtain⟨j,q,e,_⟩:=gIx_mem h;omega
  ·exact gIx_nodup
theorem jIx_nodup:∀{rs:List R} {i:Int},(jIx i rs).Nodup
 | [],i=>aaQ
 | r::rs,i=>by
  rw[jIx];split
  ·refine aaA.mpr ⟨λh=>?_,jIx_nodup⟩;obtain⟨j,q,e,_⟩:=jIx_mem h;omega
  ·exact jIx_nodup
theorem oT:∀{a b:List R} {i:Int},jIx i (a++b)=jIx i a++jIx (i + a.length) b
 | [],b,i=>by simp[jIx]
 | r::a,b,i=>by
  have e:i + 1 + (a.length:Int)=i + ((r::a).length:Nat):=by rw[aam];omega
  rw[aaG,jIx,jIx,oT (a:=a),e];split<;>rfl
theorem row_split{rs:List R}{k:Nat}{r:R}(h:rs[k]?=some r):rs=rs.take k++r::rs.drop (k + 1):=by obtain⟨a,e⟩:=aao.mp h;rw[<- e,<- abq a,acC]
theorem yT{r:R}(h:r.jm=true):r.gr=false:=by
 cases r with
 | st _ _=>cases h
 | ot _ _ _=>rfl
def BV(f:Cf)(a:Int):Int:=((f.rows[a.toNat]?).map R.tg).getD 0
def je(s:Mc)(t:Int):Int:=(s.ps++[s.pl]).getD t.toNat 0
def Hg(qs:Pz)(u n:Int):Int:=((((((qs[u.toNat]?).map (·.2)).getD []).findIdx? λm=>decide (m=n)).getD 0:Nat):Int)
def dZ(f:Cf)(qs:Pz)(z:Int × Int):PyData:=.tuple [.int ((fin f qs).bs.getD z.2.toNat 0),.int (Hg qs z.2 (qL f z.1))]
abbrev Lj(f:Cf)(qs:Pz):List (Int × PyData):=(jIx 0 f.rows).map λa=>(a,PyData.int (je (fin f qs) (BV f a)))
abbrev Lz(f:Cf)(qs:Pz)(zs:List (Int × Int)):List (Int × PyData):=zs.map λz=>(z.1,dZ f qs z)
abbrev Lg(f:Cf)(qs:Pz)(us:List Int):List (Int × PyData):=Lj f qs++Lz f qs ((gIx 0 f.rows).zip us)
def aW(f:Cf)(k:Nat):Nat:=((f.rows.take k).filter R.gr).length
def gdat(f:Cf)(qs:Pz)(us:List Int)(k:Nat)(r:R):PyData:=if r.gr=true then dZ f qs (k,us.getD (aW f k) 0) else if r.jm=true then .int (je (fin f qs) r.tg) else .none
theorem gIx_at{f:Cf}{k:Nat}{r:R}(h:f.rows[k]?=some r)(b:r.gr=true):(gIx 0 f.rows)[aW f k]?=some (k:Int):=by
 have c:k<=f.rows.length:=aaS (aao.mp h).1;have e:=row_split h;have a:gIx 0 f.rows=gIx 0 (f.rows.take k)++(k:Int)::gIx (k + 1) (f.rows.drop (k + 1)):=by
  conv=>lhs;rw[e]
  rw[oG,gIx,if_pos b,aaY,abF c,abL]
 rw[a];unfold aW;rw[<- dQ (rs:=f.rows.take k) (i:=0),aa8 (aah _),abP];rfl
theorem BG{f:Cf}{k:Nat}{r:R}(h:f.rows[k]?=some r)(a:r.jm=true):(k:Int)∈jIx 0 f.rows:=by have b:k<=f.rows.length:=aaS (aao.mp h).1;rw[row_split h,oT,jIx,if_pos a,aaY,abF b,abL];exact aad _ aag
theorem oU{f:Cf}{qs:Pz}{us:List Int}(a:us.length=(gIx 0 f.rows).length):(Lg f qs us).map (·.1)=jIx 0 f.rows++gIx 0 f.rows:=by
 rw[Lg,aav,aaR,aaR];congr 1
 ·exact List.map_id _
 ·show (((gIx 0 f.rows).zip us).map λz=>z.1)=_;exact List.map_fst_zip (by omega)
theorem jg_nodup{rs:List R}:(jIx 0 rs++gIx 0 rs).Nodup:=aaz.mpr ⟨jIx_nodup,gIx_nodup,λa h b f e=>by
 subst e;obtain⟨j,r,m,g,k⟩:=jIx_mem h;obtain⟨i,q,l,d,c⟩:=gIx_mem f;have:i=j:=by omega
 subst this;rw[g]at d;cases d;rw[yT k]at c;cases c⟩
theorem BH{f:Cf}{qs:Pz}{us:List Int}{k:Nat}{r:R}(g:us.length=(gIx 0 f.rows).length)(h:f.rows[k]?=some r):dgV (dK (Lg f qs us)) (dV (Lg f qs us)) (.inl (k:Int))=some (gdat f qs us k r):=by
 have j:((Lg f qs us).map (·.1)).Nodup:=by rw[oU g];exact jg_nodup
 unfold gdat;by_cases c:r.gr=true
 ·rw[if_pos c];have e:=gIx_at h c;have l:aW f k < us.length:=by rw[g];exact (aao.mp e).1
  refine yS j (aad _ (aau.mpr ⟨((k:Int),us.getD (aW f k) 0),?_,rfl⟩));refine aaI (i:=aW f k) ?_;rw[abG];exact⟨e,by rw[aba,aak l];rfl⟩
 ·rw[if_neg c];by_cases b:r.jm=true
  ·rw[if_pos b];refine yS j (aaf _ (aau.mpr ⟨(k:Int),BG h b,?_⟩));show ((k:Int),PyData.int (je (fin f qs) (BV f k)))=_;unfold BV;rw[aaT,h];rfl
  ·rw[if_neg b];refine BF λz=>?_;rw[oU g]at z;rcases aan.mp z with z | z
   ·obtain⟨i,q,m,a,d⟩:=jIx_mem z;have:i=k:=by omega
    subst this;rw[h]at a;cases a;exact b d
   ·obtain⟨i,q,m,a,d⟩:=gIx_mem z;have:i=k:=by omega
    subst this;rw[h]at a;cases a;exact c d
theorem gdat_ok{f:Cf}{qs:Pz}{us:List Int}{k:Nat}{r:R}:Gok r (gdat f qs us k r):=by
 unfold Gok gdat;by_cases b:r.gr=true
 ·rw[if_pos b,if_pos b];exact⟨_,_,rfl⟩
 ·rw[if_neg b,if_neg b];by_cases a:r.jm=true
  ·rw[if_pos a,if_pos a];exact⟨_,rfl⟩
  ·rw[if_neg a,if_neg a]
theorem iN{f:Cf}{k:Nat}:∀{qs:List (Int × List Int)} {s:Mc},∃t,(inner f qs k s).bs=s.bs++t
 | [],s=>⟨[],(aap _).symm⟩
 | q::qs,s=>by
  obtain⟨t,e⟩:=iN (f:=f) (k:=k) (qs:=qs) (s:=inn f k s q);show ∃t,(inner f qs k (inn f k s q)).bs=_;rw[e];unfold inn;split
  ·exact⟨_,aac _ _ _⟩
  ·exact⟨t,rfl⟩
theorem uD{f:Cf}{qs:List (Int × List Int)}{k:Nat}:∀{m:Nat},∃t,(mac f qs (k + m)).bs=(mac f qs k).bs++t
 | 0=>⟨[],(aap _).symm⟩
 | m + 1=>by obtain⟨t,e⟩:=uD (f:=f) (qs:=qs) (k:=k) (m:=m);obtain⟨u,a⟩:=iN (f:=f) (k:=k + m) (qs:=qs) (s:=mac f qs (k + m));exact⟨t++u,by show (inner f qs (k + m) (mac f qs (k + m))).bs=_;rw[a,e,aac]⟩
theorem uE{f:Cf}{ps rs:Pz}{d:Nat}{w:List Int}(g:∀q∈ps,0<=q.1)(b:∀q∈ps,q.1 < (d:Int))(c:∀q∈rs,(d:Int) < q.1):(inner f (ps++((d:Int),w)::rs) d (mac f (ps++((d:Int),w)::rs) d)).bs=(mac f ps d).bs++[fw f.rows d (mac f ps d).pl]/\(mac f ps d).bs.length=ps.length:=by
 refine⟨?_,?_⟩
 ·rw[j5 (ps:=ps) (λq a=>by
   rcases aaa.mp a with rfl | z
   ·exact abJ _
   ·exact Int.le_of_lt (c q z)),gb,b9 (qs:=ps) λq a e=>by have:=b q a;omega]
  show (inner f rs d (inn f d (mac f ps d) ((d:Int),w))).bs=_;rw[b9 λq a e=>by have:=c q a;omega];unfold inn;rw[if_pos rfl]
 ·rw[eJ g,acE];intro q a;exact Dac (b q a)
theorem uF{f:Cf}{qs:Pz}{d N:Nat}(h:d<=N):∃t,(inner f qs N (mac f qs N)).bs=(inner f qs d (mac f qs d)).bs++t:=by
 by_cases e:d=N
 ·subst e;exact⟨[],(aap _).symm⟩
 ·obtain⟨m,rfl⟩:∃m,N=d + 1 + m:=⟨N - d - 1,by omega⟩
  obtain⟨t,b⟩:=uD (f:=f) (qs:=qs) (k:=d + 1) (m:=m);obtain⟨u,a⟩:=iN (f:=f) (k:=d + 1 + m) (qs:=qs) (s:=mac f qs (d + 1 + m));exact⟨t++u,by rw[a,b,aac];rfl⟩
def plC(f:Cf)(k:Nat)(qs:Pz)(cs:List Int):List Int:=qs.foldl (λcs q=>if q.1=(k:Int) then cs++poolC f.rows k q.2 cs.length else cs) cs
def CC(f:Cf)(qs:Pz)(us:List Int):Nat->List Int
 | 0=>[]
 | k + 1=>plC f k qs (CC f qs us k)++(f.rows[k]?).elim [] λr=>cg r (plC f k qs (CC f qs us k)).length (decide ((k:Int)∈f.longs)) (gdat f qs us k r)
theorem uG{f:Cf}{k:Nat}:∀{qs:Pz} {cs:List Int} {s:Mc},(cs.length:Int)=s.pl->((plC f k qs cs).length:Int)=(inner f qs k s).pl
 | [],cs,s,h=>h
 | q::qs,cs,s,h=>by
  show ((plC f k qs (if q.1=(k:Int) then cs++poolC f.rows k q.2 cs.length else cs)).length:Int)=(inner f qs k (inn f k s q)).pl;refine uG ?_;unfold inn;split
  ·have:=qI (rs:=f.rows) (k:=k) (ws:=q.2) (p:=(cs.length:Int));rw[aai];show _=fw f.rows k s.pl + 2 * q.2.length;rw[<- h];omega
  ·exact h
theorem uH{r:R}{p:Int}{lg:Bool}{g:PyData}(e:r.ok)(c:lg=true->r.jm=true):(cg r p lg g).length=if r.gr=true\/lg=true then 2 else 1:=by
 cases r with
 | st x k =>
  have f:lg=false:=by cases lg with | false=>rfl | true=>cases c rfl
  subst f;by_cases h:99 < k
  ·have d:cg (R.st x k) p false g=[5000 + 100 * x + IF g,5000 + IE g - p]:=if_pos h;rw[d,if_pos (.inl (Dac h))];rfl
  ·have d:cg (R.st x k) p false g=[1000 + 100 * x + k]:=if_neg h;rw[d,if_neg (λz=>z.elim (λz=>h (Daa z)) aae)];rfl
 | ot w i j =>
  cases e with
  | go a=>cases lg<;>rfl
  | nil a b=>cases lg<;>rfl
  | sum a b=>cases lg with | false=>rfl | true=>cases c rfl
  | less a b=>cases lg with | false=>rfl | true=>cases c rfl
  | tell a=>cases lg with | false=>rfl | true=>cases c rfl
  | stop=>cases lg with | false=>rfl | true=>cases c rfl
structure Fok (f:Cf):Prop where
 ok:Nb f.rows
 jb:Jb f.rows.length f.rows
 lg:∀a∈f.longs,a∈jIx 0 f.rows
theorem Fok.jm{f:Cf}{k:Nat}{r:R}(F:Fok f)(h:f.rows[k]?=some r):decide ((k:Int)∈f.longs)=true->r.jm=true:=λz=>by
 obtain⟨i,q,c,a,b⟩:=jIx_mem (F.lg _ (Daa z));have:i=k:=by omega
 subst this;rw[h]at a;cases a;exact b
theorem uI{f:Cf}{qs:Pz}{us:List Int}(F:Fok f):∀{k:Nat},k<=f.rows.length->((CC f qs us k).length:Int)=(mac f qs k).pl
 | 0,_=>rfl
 | k + 1,h=>by
  have c:=uI (us:=us) F (k:=k) (qs:=qs) (by omega);have d:=uG (f:=f) (k:=k) (qs:=qs) c;obtain⟨r,a⟩:∃r,f.rows[k]?=some r:=⟨_,aak (by omega)⟩
  show ((plC f k qs (CC f qs us k)++(f.rows[k]?).elim [] λr=>cg r (plC f k qs (CC f qs us k)).length (decide ((k:Int)∈f.longs)) (gdat f qs us k r)).length:Int)=(inner f qs k (mac f qs k)).pl + sz f k;rw[a,aai];show (((plC f k qs (CC f qs us k)).length + (cg r (plC f k qs (CC f qs us k)).length (decide ((k:Int)∈f.longs)) (gdat f qs us k r)).length:Nat):Int)=_;rw[uH (F.ok r (aaI a)) (F.jm a)];unfold sz;rw[a];show _=_ + (if r.gr=true\/(k:Int)∈f.longs then (2:Int) else 1);by_cases b:r.gr=true\/(k:Int)∈f.longs
  ·rw[if_pos b,if_pos (b.imp id λz=>Dac z)];push_cast;omega
  ·rw[if_neg b,if_neg (λz=>b (z.imp id Daa))];push_cast;omega
theorem lC{f:Cf}{k:Nat}:∀{qs:Pz} {cs:List Int},(∀q∈qs,q.1≠(k:Int))->plC f k qs cs=cs
 | [],_,_=>rfl
 | q::qs,cs,h=>by show plC f k qs (if q.1=(k:Int) then _ else cs)=cs;rw[if_neg (h q aag)];exact lC λz a=>h z (aaj _ a)
theorem BI{f:Cf}{k:Nat}{ps qs:Pz}{cs:List Int}:plC f k (ps++qs) cs=plC f k qs (plC f k ps cs):=List.foldl_append
theorem fI{ps rs:Pz}{q:Int × List Int}(h:(ps++q::rs).Pairwise λx y=>x.1 < y.1):(∀x∈ps,x.1 < q.1)/\∀x∈rs,q.1 < x.1:=by obtain⟨_,c,b⟩:=abv.mp h;exact⟨λx a=>b x a q aag,(abc.mp c).1⟩
theorem EW{f:Cf}{k:Nat}{ps rs:Pz}{w cs:List Int}(h:(ps++((k:Int),w)::rs).Pairwise λx y=>x.1 < y.1):plC f k (ps++((k:Int),w)::rs) cs=cs++poolC f.rows k w cs.length:=by obtain⟨b,c⟩:=fI h;rw[BI,lC (qs:=ps) (cs:=cs) λq a e=>by have:=b q a;simp only at this;omega];show plC f k rs (if (k:Int)=(k:Int) then _ else cs)=_;rw[if_pos rfl,lC λq a e=>by have:=c q a;simp only at this;omega]
theorem EX{f:Cf}{k:Nat}{ps rs:Pz}{w:List Int}(g:∀q∈ps,0<=q.1)(hk:k<=f.rows.length)(h:(ps++((k:Int),w)::rs).Pairwise λx y=>x.1 < y.1):(fin f (ps++((k:Int),w)::rs)).bs.getD ps.length 0=fw f.rows k (mac f (ps++((k:Int),w)::rs) k).pl:=by
 obtain⟨j,b⟩:=fI h;obtain⟨l,a⟩:=uE (f:=f) (d:=k) (w:=w) g j b;obtain⟨t,i⟩:=uF (f:=f) (qs:=ps++((k:Int),w)::rs) hk;have c:mac f (ps++((k:Int),w)::rs) k=mac f ps k:=j5 (ps:=ps) λq e=>by
  rcases aaa.mp e with rfl | z
  ·exact abJ _
  ·exact Int.le_of_lt (b q z)
 show (inner f _ f.rows.length (mac f _ f.rows.length)).bs.getD ps.length 0=_;rw[i,l,c,aba,aac,aa8 (by rw[a];exact aah _),a,abP];rfl
theorem BJ{C:Ct}{i:Nat}{h e:E}{ρ:DEnv}{d c:PyData}{kk:Key}{ks a:List Key}{xs b:List OD}{ρ3:DEnv}(m:ev C e ρ=some (.val (.fz d),ρ))(g:ρ[i]?.join=some (.dic ks xs))(hk:ev C h ρ=some (.val (.fz c),ρ))(f:keyOf c=some kk)(j:xs.length < 1000000)(l:aZ kk d ks xs=(a,b))(k:ρ.set i (some (.dic a b))=ρ3):bC C (.sdk i h e) ρ=some (.nx,ρ3):=bs m (bs (x:=(d,ρ)) rfl (bs g (bs rfl (bs hk (bs (x:=c) rfl (bs f (bs g (bs rfl (bg j (by rw[l,<- k]))))))))))
theorem uJ{C:Ct}{a b:E}{ρ ρ1 ρ2:DEnv}{ns:List Int}{y:OR}{n:Int}{j:Nat}(e:ev C a ρ=some (.val (.fz (.tuple (ns.map PyData.int))),ρ1))(f:ev C b ρ1=some (y,ρ2))(d:au ρ2 y=some (.int n))(c:(ns.findIdx? λm=>decide (m=n))=some j):ev C (.idx a b) ρ=some (.val (.fz (.int j)),ρ2):=bs e (bs rfl (bs f (bs d (bs rfl (bs (fF ns) (bs c rfl))))))
theorem yU{qs:Pz}{u n:Int}{q:Int × List Int}(c:qs[u.toNat]?=some q)(b:n∈q.2):∃j:Nat,(q.2.findIdx? λm=>decide (m=n))=some j/\Hg qs u n=j:=by
 obtain⟨j,a⟩:∃j,(q.2.findIdx? λm=>decide (m=n))=some j:=aa6.mp (by
  rw[List.findIdx?_isSome];exact aaV.mpr ⟨n,b,Dac rfl⟩)
 refine⟨j,a,?_⟩;unfold Hg;rw[c];show (((q.2.findIdx? λm=>decide (m=n)).getD 0:Nat):Int)=j;rw[a];rfl
abbrev hE(f:Cf)(qs:Pz)(us:List Int)(s:Mc)(o9 o10 o11:Option OD):DEnv:=[some (Rl f.rows),some (Lo f),some (Fp qs us),some (Pq qs),some (Dl us),some (Dl s.ps),some (Dl s.bs),some (It s.pl),some (Il (s.ps++[s.pl])),o9,o10,o11]
abbrev hV:E:=.tup eat
abbrev hB:Ss:=.cons (.sdk 9 (.nm 10) hV) .nil
theorem mem_of{f:Cf}{qs:Pz}{z:Int × Int}(b:Zok f qs z)(c:j6 f qs z=true):∃q,qs[z.2.toNat]?=some q/\qL f z.1∈q.2:=by
 obtain⟨_,e,d⟩:=b;have a:z.2.toNat < qs.length:=by omega
 refine⟨qs[z.2.toNat],aak a,?_⟩;have:=Daa c;rw[aak a]at this;exact this
theorem Hh{n:Nat}{f:Cf}{qs:Pz}{us:List Int}{z:Int × Int}{o9:Option OD}(o:(fin f qs).bs.length=qs.length)(a:Zok f qs z)(h:j6 f qs z=true):ev (pl.pg.ct n) hV (hE f qs us (fin f qs) o9 (some (It z.1)) (some (It z.2)))=some (.val (.fz (dZ f qs z)),hE f qs us (fin f qs) o9 (some (It z.1)) (some (It z.2))):=by
 obtain⟨i,x,y,v,w,r,l⟩:=a.row;obtain⟨q,g,b⟩:=mem_of a h;obtain⟨j,p,s⟩:=yU g b;obtain⟨_,m,t⟩:=a;unfold dZ;rw[s];have c:ev (pl.pg.ct n) Im (hE f qs us (fin f qs) o9 (some (It z.1)) (some (It z.2)))=some (.val (.fz (.tuple (q.2.map PyData.int))),hE f qs us (fin f qs) o9 (some (It z.1)) (some (It z.2))):=by
  refine aN (aN rfl rfl rfl (a9 (d:=Po q) ?_)) rfl rfl (bq (cQ (k:=1) rfl));have e:z.2=(z.2.toNat:Int):=by omega
  rw[e];exact cQ (by rw[aax,g];rfl)
 have u:ev (pl.pg.ct n) Ik (hE f qs us (fin f qs) o9 (some (It z.1)) (some (It z.2)))=some (.val (It (qL f z.1)),hE f qs us (fin f qs) o9 (some (It z.1)) (some (It z.2))):=by rw[l];refine aN (aN rfl rfl rfl (a9 (d:=(R.st x y).d) ?_)) rfl rfl (bq (cQ (k:=2) rfl));rw[v];exact cR r
 exact dW (aa (aN rfl rfl rfl (a9 (atI_get m (by rw[o];exact t)))) (aa (uJ c u rfl p) af)) rfl rfl rfl
theorem oV{n:Nat}{f:Cf}{qs:Pz}{us:List Int}(i:(fin f qs).bs.length=qs.length):∀{zs:List (Int × Int)} {L:List (Int × PyData)} {o10 o11:Option OD},(∀z∈zs,Zok f qs z/\j6 f qs z=true)->(L.map (·.1)++zs.map (·.1)).Nodup->L.length + zs.length<=1000->∃b a,bb (λd g=>(bc (.tp [10,11]) (.fz d) g).bind λρ1=>aK (pl.pg.ct n) hB ρ1) (zs.map Zp) (hE f qs us (fin f qs) (some (Gd L)) o10 o11)=some (.nx,hE f qs us (fin f qs) (some (Gd (L++Lz f qs zs))) b a)
 | [],L,o10,o11,_,_,_=>⟨o10,o11,by show some (Fl.nx,_)=some (Fl.nx,hE f qs us (fin f qs) (some (Gd (L++[]))) o10 o11);rw[aap]⟩
 | z::zs,L,o10,o11,h,nd,hl=>by
  rw[aam]at hl;obtain⟨l,m⟩:=h z aag;have j:z.1 ∉ L.map (·.1):=λk=>(aaz.mp nd).2.2 z.1 k z.1 (by rw[aal];exact aag) rfl;have c:((L++[(z.1,dZ f qs z)]).map (·.1)++zs.map (·.1)).Nodup:=by rw[aav,aac];exact nd
  obtain⟨b,a,e⟩:=oV (n:=n) (us:=us) i (zs:=zs) (L:=L++[(z.1,dZ f qs z)]) (o10:=some (It z.1)) (o11:=some (It z.2)) (λy o=>h y (aaj _ o)) c (by rw[aai];show L.length + 1 + _<=_;omega);rw[aac]at e;exact⟨b,a,bs (bs (x:=hE f qs us (fin f qs) (some (Gd L)) (some (It z.1)) (some (It z.2))) rfl (ab (BJ (ρ3:=hE f qs us (fin f qs) (some (Gd (L++[(z.1,dZ f qs z)]))) (some (It z.1)) (some (It z.2))) (Hh i l m) rfl rfl rfl (by rw[aab];omega) (kc j) rfl) rfl)) e⟩
structure Uok (f:Cf)(qs:Pz)(us:List Int):Prop where
 ln:us.length=(gIx 0 f.rows).length
 bd:∀u∈us,0<=u/\u < qs.length
 mm:∀z∈(gIx 0 f.rows).zip us,j6 f qs z=true
theorem Uok.z{f:Cf}{qs:Pz}{us:List Int}(U:Uok f qs us){z:Int × Int}(a:z∈(gIx 0 f.rows).zip us):Zok f qs z/\j6 f qs z=true:=⟨⟨(aa5 a).1,U.bd _ (aa5 a).2⟩,U.mm z a⟩
theorem xW{n:Nat}{f:Cf}{qs:Pz}{us:List Int}(F:Fok f)(Q:Qok f qs)(U:Uok f qs us)(A:(fin f qs).bs.length=qs.length)(x:qs.length<=300)(t:f.rows.length<=60):pl.pg.call (n + 5) 12 [Rl f.rows,Lo f,Fp qs us]=some (Gd (Lg f qs us),[Rl f.rows,Lo f,Fp qs us]):=by
 have b:pl.pg.call (n + 4) 10 [Rl f.rows,Lo f,Pq qs]=some (Bm (fin f qs),[Rl f.rows,Lo f,Pq qs]):=xI (n:=n) Q.inc (λq h=>(Q.ok q h).g0) x (by omega);have p:=xM (n:=n + 2) (rs:=f.rows) (by omega);have l:=uf (n:=n + 2) (rs:=f.rows) (by omega);have H:(pl.pg.ct (n + 4)).call=pl.pg.call (n + 4):=rfl;rw[<- H]at b p l;have j:=gC (f:=f) (qs:=qs);have D:(jIx 0 f.rows).length<=60:=by rw[fG];exact aat (abh _ _) t
 have w:(gIx 0 f.rows).length<=60:=by rw[dQ];exact aat (abh _ _) t
 obtain⟨N,v⟩:=uB (C:=pl.pg.ct (n + 4)) (ve:=.ix (.nm 1) eco) (g:=λa=>.int (je (fin f qs) (BV f a))) (ρ:=[some (Il ((fin f qs).ps++[(fin f qs).pl])),some (Rl f.rows)]) (js:=jIx 0 f.rows) (L:=[]) (o:=none) (λa B=>by
  obtain⟨k,r,e,d,s⟩:=jIx_mem B;rw[abL]at e;subst e;have m:=F.jb r (aaI d);obtain⟨I,M,_⟩:=m s;have G:BV f (k:Int)=r.tg:=by unfold BV;rw[aaT,d];rfl
  rw[G];exact aN rfl (BA (aN rfl rfl rfl (a9 (cR d))) m s) rfl (fD rfl (atI_get I (by rw[aai,j,aaO];omega)))) (by rw[aaK,aaD];exact jIx_nodup)
 rw[aaD]at v;obtain⟨i,c,u⟩:=oV (n:=n + 4) (us:=us) A (zs:=(gIx 0 f.rows).zip us) (L:=Lj f qs) (o10:=none) (o11:=none) (λz y=>U.z y) (by
  have J:(Lj f qs).map (·.1)=jIx 0 f.rows:=by rw[aaR];exact List.map_id _
  rw[J,List.map_fst_zip (by have:=U.ln;omega)];exact jg_nodup) (by rw[aab,abR];omega)
 rw[<- iH]at u;refine ai (fn:=iu) (ρ:=(hE f qs us (fin f qs) none i c)) rfl rfl ?_ rfl;refine ab (gf (ρ3:=[some (Rl f.rows),some (Lo f),some (Fp qs us),some (Pq qs),some (Dl us),none,none,none,none,none,none,none]) rfl rfl rfl) ?_;refine ab (gf (ρ3:=[some (Rl f.rows),some (Lo f),some (Fp qs us),some (Pq qs),some (Dl us),some (Dl (fin f qs).ps),some (Dl (fin f qs).bs),some (It (fin f qs).pl),none,none,none,none]) (ah (ρ3:=[some (Rl f.rows),some (Lo f),some (Fp qs us),some (Pq qs),some (Dl us),none,none,none,none,none,none,none]) rfl rfl b rfl) rfl rfl) ?_;refine ab (ag (ρ3:=hE f qs us (fin f qs) none none none) (fb rfl (ax (aa rfl af) rfl rfl) rfl rfl (by rw[aab,j];show _ + 1<=_;omega)) rfl rfl (by rw[m4];rfl)) ?_;refine ab (mZ (ρ3:=hE f qs us (fin f qs) (some (Gd (Lj f qs))) none none) (dA (ah (ρ3:=hE f qs us (fin f qs) none none none) rfl rfl p rfl) (by show (Il _).dat.map _=_;rw[aO];rfl) rfl) (by rw[aab];omega) rfl v (by show 9 < 12;decide) rfl) ?_;refine ab (bR (mQ (dx:=.list ((gIx 0 f.rows).map PyData.int)) (dy:=.list (us.map PyData.int)) (ah (ρ3:=hE f qs us (fin f qs) (some (Gd (Lj f qs))) none none) rfl rfl l rfl) rfl (by show (Il _).dat.map _=_;rw[aO];rfl) rfl rfl rfl) u) ?_;exact ar (aj rfl rfl)
theorem lD{rs:List R}{k:Nat}{ws:List Int}{p:Int}(h:ws.length<=100):(poolC rs k ws p).length<=204:=by
 unfold poolC;have c:(ovL rs k ws (fw rs k p)).length<=2:=by rw[fH];split<;>omega
 have a:∀q,(padL q).length<=1:=λq=>by unfold padL;split<;>simp
 have b:=a (p + (ovL rs k ws (fw rs k p)).length);rw[aai,aai,aam,kb];omega
theorem lE{f:Cf}{k:Nat}:∀{qs:Pz} {cs:List Int},(∀q∈qs,q.2.length<=100)->(plC f k qs cs).length<=cs.length + 204 * qs.length
 | [],cs,_=>aah _
 | q::qs,cs,h=>by
  show (plC f k qs (if q.1=(k:Int) then cs++poolC f.rows k q.2 cs.length else cs)).length<=_;refine aat (lE λz a=>h z (aaj _ a)) ?_;rw[aam];split
  ·rw[aai];have:=lD (rs:=f.rows) (k:=k) (p:=(cs.length:Int)) (h q aag);omega
  ·omega
theorem kf{r:R}{p:Int}{lg:Bool}{g:PyData}:(cg r p lg g).length<=2:=by
 unfold cg;split
 ·split<;>simp
 ·repeat' split
  all_goals simp
theorem lF{f:Cf}{qs:Pz}{us:List Int}(h:∀q∈qs,q.2.length<=100)(a:qs.length<=4):∀{k:Nat},(CC f qs us k).length<=818 * k
 | 0=>aah _
 | k + 1=>by
  have c:=lF (f:=f) (us:=us) h a (k:=k);have d:=lE (f:=f) (k:=k) (cs:=CC f qs us k) h;show (plC f k qs (CC f qs us k)++_).length<=_;rw[aai];cases f.rows[k]? with
  | none=>show _ + 0<=_;omega
  | some r=>have b:=kf (r:=r) (p:=(plC f k qs (CC f qs us k)).length) (lg:=decide ((k:Int)∈f.longs)) (g:=gdat f qs us k r);show _ + (cg _ _ _ _).length<=_;omega
theorem BK{qs:Pz}{k:Nat}:((dK (wdL qs)).any λq=>decide (q=.inl (k:Int)))=decide (∃q∈qs,q.1=(k:Int)):=by
 by_cases h:∃q∈qs,q.1=(k:Int)
 ·rw[Dac h];obtain⟨q,a,e⟩:=h;exact aaV.mpr ⟨.inl q.1,aau.mpr ⟨_,aau.mpr ⟨q,a,rfl⟩,rfl⟩,Dac (by rw[e])⟩
 ·rw[Dab h];refine List.any_eq_false.mpr λx b=>?_;obtain⟨z,c,rfl⟩:=aau.mp b;obtain⟨q,a,rfl⟩:=aau.mp c;rw[Dab λe=>h ⟨q,a,abi e⟩];decide
theorem oW{k:Int}{w:List Int}{rs:Pz}:∀{ps:Pz},(∀q∈ps,q.1≠k)->(dK (wdL (ps++(k,w)::rs))).findIdx? (λq=>decide (q=.inl k))=some ps.length
 | [],_=>by show List.findIdx? _ (.inl k::dK (wdL rs))=_;rw[abd,Dac rfl];rfl
 | p::ps,h=>by show List.findIdx? _ (.inl p.1::dK (wdL (ps++(k,w)::rs)))=_;rw[abd,Dab λe=>h p aag (abi e),oW λq a=>h q (aaj _ a)];rfl
abbrev kE(f:Cf)(qs:Pz)(us:List Int)(cs:List Int)(o6:Option OD):DEnv:=[some (Rl f.rows),some (Lo f),some (Fp qs us),some (Gd (Lg f qs us)),some (Gd (wdL qs)),some (Il cs),o6]
theorem EY{C:Ct}{f:Cf}{ps rs:Pz}{us cs w:List Int}{k:Nat}(h:∀q∈ps,q.1≠(k:Int)):ev C (.pg 4 [.key 6]) (kE f (ps++((k:Int),w)::rs) us cs (some (It k)))=some (.val (Tn' w),kE f (ps++((k:Int),w)::rs) us cs (some (It k))):=by
 have a:accN (kE f (ps++((k:Int),w)::rs) us cs (some (It k))) (Gd (wdL (ps++((k:Int),w)::rs))) (.key 6)=some ps.length:=bs rfl (bs rfl (bs rfl (bs rfl (oW h))));have b:(Gd (wdL (ps++((k:Int),w)::rs))).kids[ps.length]?=some (Tn' w):=by show (dV (wdL (ps++((k:Int),w)::rs)))[ps.length]?=_;rw[dV,wdL,aaR,aax,aa8 (aah _),abP];rfl
 exact EF (p:=(Gd (wdL (ps++((k:Int),w)::rs)),[ps.length],Tn' w)) (bs (x:=(Gd (wdL (ps++((k:Int),w)::rs)),[],Gd (wdL (ps++((k:Int),w)::rs)))) rfl (bs a (bs b rfl))) rfl
theorem ilen{cs:List Int}:uZ .len [.list (cs.map PyData.int)]=some (.int (cs.length:Int)):=by show some (PyData.int ((cs.map PyData.int).length:Nat))=_;rw[aab]
theorem uK{C:Ct}{f:Cf}{qs:Pz}{us cs:List Int}{o6:Option OD}:ev C Fh (kE f qs us cs o6)=some (.val (It cs.length),kE f qs us cs o6):=aG (ρ1:=kE f qs us cs o6) (rs:=[.rf 5]) rfl (kU (ρ:=kE f qs us cs o6) (r:=.rf 5) (aO cs)) ilen
abbrev IG:S':=.iff edz eaq .nil
abbrev IH:S':=.iff eb4 eaj .nil
theorem yV{n k:Nat}{f:Cf}{qs:Pz}{us cs:List Int}(Q:Qok f qs)(hk:k<=f.rows.length)(r:cs.length<=100000)(d:qs.length<=4):bC (pl.pg.ct (n + 5)) IG (kE f qs us cs (some (It k)))=some (.nx,kE f qs us (plC f k qs cs) (some (It k))):=by
 have b:bf (pl.pg.ct (n + 5)) edz (kE f qs us cs (some (It k)))=some (decide (∃q∈qs,q.1=(k:Int)),kE f qs us cs (some (It k))):=by rw[<- BK];rfl
 by_cases h:∃q∈qs,q.1=(k:Int)
 ·rw[Dac h]at b;obtain⟨⟨l,w⟩,g,e⟩:=h;have e:l=(k:Int):=e;subst e;have i:w.length<=100:=(Q.ok _ g).l1;obtain⟨c,rs,rfl⟩:=ab5 g;rw[EW Q.inc];have j:∀q∈c,q.1≠(k:Int):=λq d e=>by have:=(fI Q.inc).1 q d;simp only at this;omega
  have a:=xV (n:=n + 1) (p:=(cs.length:Int)) hk i;have o:(pl.pg.ct (n + 5)).call=pl.pg.call (n + 5):=rfl;rw[<- o]at a;have m:=lD (rs:=f.rows) (k:=k) (p:=(cs.length:Int)) i;refine aE b (ab (xtI (zs:=cs) (xs:=cs) (ys:=poolC f.rows k w cs.length) (ρ1:=kE f (c++((k:Int),w)::rs) us cs (some (It k))) (ρ2:=kE f (c++((k:Int),w)::rs) us (cs++poolC f.rows k w cs.length) (some (It k))) rfl (ah (ρ3:=kE f (c++((k:Int),w)::rs) us cs (some (It k))) (aa rfl (aa rfl (aa (EY j) (aa uK af)))) rfl a rfl) rfl (by omega) rfl).2 rfl)
 ·rw[Dab h]at b;rw[lC λq d e=>h ⟨q,d,e⟩];exact s_ifF b rfl
theorem BL{C:Ct}{f:Cf}{qs:Pz}{us cs:List Int}{k:Nat}{d:PyData}(h:dgV (dK (Lg f qs us)) (dV (Lg f qs us)) (.inl (k:Int))=some d):ev C (.dgt 3 (.nm 6)) (kE f qs us cs (some (It k)))=some (.val (.fz d),kE f qs us cs (some (It k))):=bs h rfl
theorem EZ{n k:Nat}{f:Cf}{qs:Pz}{us cs:List Int}{r:R}(F:Fok f)(U:Uok f qs us)(a:f.rows[k]?=some r)(h:cs.length<=100000):bC (pl.pg.ct (n + 5)) IH (kE f qs us cs (some (It k)))=some (.nx,kE f qs us (cs++cg r cs.length (decide ((k:Int)∈f.longs)) (gdat f qs us k r)) (some (It k))):=by have i:k < f.rows.length:=(aao.mp a).1;have c:bf (pl.pg.ct (n + 5)) eb4 (kE f qs us cs (some (It k)))=some (true,kE f qs us cs (some (It k))):=ao (aq (dx:=.int k) (dy:=.int f.rows.length) rfl (aG rfl rfl blen) rfl rfl (show some (decide ((k:Int) < (f.rows.length:Int)))=some true by rw[Dac (by omega)]));have b:=BE (n:=n + 3) (r:=r) (p:=(cs.length:Int)) (lg:=decide ((k:Int)∈f.longs)) (g:=gdat f qs us k r) (F.ok r (aaI a)) gdat_ok;have d:(pl.pg.ct (n + 5)).call=pl.pg.call (n + 5):=rfl;rw[<- d]at b;have e:=kf (r:=r) (p:=(cs.length:Int)) (lg:=decide ((k:Int)∈f.longs)) (g:=gdat f qs us k r);exact aE c (ab (xtI (zs:=cs) (xs:=cs) (ρ1:=kE f qs us cs (some (It k))) (ρ2:=kE f qs us (cs++cg r cs.length (decide ((k:Int)∈f.longs)) (gdat f qs us k r)) (some (It k))) rfl (ah (ρ3:=kE f qs us cs (some (It k))) (aa (aN rfl rfl rfl (a9 (cR a))) (aa uK (aa (aq rfl rfl rfl rfl EM) (aa (BL (BH U.ln a)) af)))) rfl b rfl) rfl (by omega) rfl).2 rfl)
abbrev AC(f:Cf)(qs:Pz)(us:List Int):List Int:=plC f f.rows.length qs (CC f qs us f.rows.length)
theorem uL{n:Nat}{f:Cf}{qs:Pz}{us:List Int}(F:Fok f)(Q:Qok f qs)(U:Uok f qs us)(a:qs.length<=4)(o:f.rows.length<=60):∀{m k:Nat} {o6:Option OD},k + m=f.rows.length->∃c,bb (λd g=>(bc (.nm 6) (.fz d) g).bind λρ1=>aK (pl.pg.ct (n + 5)) (.cons IG (.cons IH .nil)) ρ1) (bL k (m + 1)) (kE f qs us (CC f qs us k) o6)=some (.nx,kE f qs us (AC f qs us) c)
 | 0,k,o6,h=>by
  have l:k=f.rows.length:=by omega
  subst l;have p:=lF (f:=f) (us:=us) (λq a=>(Q.ok q a).l1) a (k:=f.rows.length);have j:bf (pl.pg.ct (n + 5)) eb4 (kE f qs us (AC f qs us) (some (It f.rows.length)))=some (false,kE f qs us (AC f qs us) (some (It f.rows.length))):=ao (aq (dx:=.int f.rows.length) (dy:=.int f.rows.length) rfl (aG rfl rfl blen) rfl rfl (show some (decide ((f.rows.length:Int) < (f.rows.length:Int)))=some false by rw[Dab (by omega)]));rw[aV];exact⟨_,bs (bs (x:=kE f qs us (CC f qs us f.rows.length) (some (It f.rows.length))) rfl (ab (yV Q (aah _) (by omega) a) (ab (s_ifF j rfl) rfl))) rfl⟩
 | m + 1,k,o6,h=>by
  obtain⟨r,i⟩:∃r,f.rows[k]?=some r:=⟨_,aak (by omega)⟩
  have p:=lF (f:=f) (us:=us) (λq a=>(Q.ok q a).l1) a (k:=k);have s:=lE (f:=f) (k:=k) (qs:=qs) (cs:=CC f qs us k) λq a=>(Q.ok q a).l1;obtain⟨c,e⟩:=uL (n:=n) F Q U a o (m:=m) (k:=k + 1) (o6:=some (It k)) (by omega);have b:CC f qs us (k + 1)=plC f k qs (CC f qs us k)++cg r (plC f k qs (CC f qs us k)).length (decide ((k:Int)∈f.longs)) (gdat f qs us k r):=by show _++(f.rows[k]?).elim [] _=_;rw[i];rfl
  rw[b]at e;rw[aV];exact⟨c,bs (bs (x:=kE f qs us (CC f qs us k) (some (It k))) rfl (ab (yV Q (by omega) (by omega) a) (ab (EZ F U i (by omega)) rfl))) e⟩
theorem uM{n:Nat}{f:Cf}{qs:Pz}{us:List Int}(F:Fok f)(Q:Qok f qs)(U:Uok f qs us)(d:(fin f qs).bs.length=qs.length)(g:qs.length<=4)(b:f.rows.length<=60):pl.pg.call (n + 6) 13 [Rl f.rows,Lo f,Fp qs us]=some (Il (AC f qs us),[Rl f.rows,Lo f,Fp qs us]):=by
 have a:=xW (n:=n) F Q U d (by omega) b;have h:(pl.pg.ct (n + 5)).call=pl.pg.call (n + 5):=rfl;rw[<- h]at a;obtain⟨o0,o1,c⟩:=uC (C:=pl.pg.ct (n + 5)) (qs:=qs) (ps:=[]) (o0:=none) (o1:=none) Q.inc;obtain⟨o6,e⟩:=uL (n:=n) F Q U g b (m:=f.rows.length) (k:=0) (o6:=none) (aaU _);refine ai (fn:=fe) (ρ:=(kE f qs us (AC f qs us) o6).set 5 none) rfl rfl ?_ rfl;refine ab (ag (ρ3:=[some (Rl f.rows),some (Lo f),some (Fp qs us),some (Gd (Lg f qs us)),none,none,none]) (ah (ρ3:=[some (Rl f.rows),some (Lo f),some (Fp qs us),none,none,none,none]) rfl rfl a rfl) rfl rfl rfl) ?_;refine ab (mZ (ρ3:=[some (Rl f.rows),some (Lo f),some (Fp qs us),some (Gd (Lg f qs us)),some (Gd (wdL qs)),none,none]) (dA (aN rfl rfl rfl (bq br)) rfl rfl) (by rw[aab];omega) rfl c (by show 4 < 7;decide) rfl) ?_;refine ab (ag (ρ3:=kE f qs us [] none) (ax af rfl rfl) rfl rfl rfl) ?_;refine ab (bR (eF (n:=(f.rows.length:Int) + 1) (ae (dx:=.int f.rows.length) (dy:=.int 1) (aG rfl rfl blen) rfl rfl rfl rfl) rfl (by omega)) ?_) (ar (aj (ρ:=kE f qs us (AC f qs us) o6) (x:=.rf 5) (ρ1:=kE f qs us (AC f qs us) o6) rfl rfl));have i:((f.rows.length:Int) + 1).toNat=f.rows.length + 1:=by omega
 rw[i];exact e
structure T8 where
 a:Option OD
 b:Option OD
 c:Option OD
 d:Option OD
 e:Option OD
 g:Option OD
 h:Option OD
 i:Option OD
abbrev mE(f:Cf)(qs:Pz)(us:List Int)(s:Mc)(vs cs:List Int)(t:T8):DEnv:=[some (Rl f.rows),some (Lo f),some (Fp qs us),some (Pq qs),some (Dl us),some (Dl s.ps),some (Dl s.bs),some (It s.pl),some (Il (s.ps++[s.pl])),some (Il vs),some (Il cs),t.a,t.b,t.c,t.d,t.e,t.g,t.h,t.i]
abbrev mO:E:=.or edk eav
abbrev II:S':=.ext 10 (.lst eax)
abbrev IJ:E:=.cat eao (.lst ebo)
abbrev mW:Ss:=.cons ea3 .nil
abbrev mP:Ss:=.cons (.iff mO (.cons II .nil) .nil) (.cons (.ext 10 IJ) (.cons (.fr (.nm 15) (.seq (.nm 14)) mW) .nil))
abbrev mI:Ss:=.cons (.iff edj mP .nil) .nil
section
variable{C:Ct}{f:Cf}{qs:Pz}{us:List Int}{s:Mc}{vs:List Int}
theorem Hi{cs:List Int}{k:Nat}{b c d e g h i:Option OD}(hk:k<=f.rows.length):bf C mO (mE f qs us s vs cs ⟨some (It k),b,c,d,e,g,h,i⟩)=some (lJ f.rows k,mE f qs us s vs cs ⟨some (It k),b,c,d,e,g,h,i⟩):=by
 cases k with
 | zero=>exact i7 rfl
 | succ k =>
  have j:((k + 1:Nat):Int) - 1=(k:Int):=by omega
  have a:lJ f.rows (k + 1)=(f.rows[k]).fal:=by show (f.rows[k]?).elim true R.fal=_;rw[aak hk];rfl
  rw[a];exact dz (ao (aq rfl rfl rfl rfl (show some (decide (((k + 1:Nat):Int)=0))=some false by rw[Dab (by omega)]))) (ao (aq (dx:=.str (f.rows[k]).wd) (dy:=.tuple [.str "go",.str "stop"]) (aN (aN rfl rfl rfl (a9 (d:=(f.rows[k]).d) (by rw[j];exact cR (aak (by omega))))) rfl rfl (by rw[R.d_is];exact bq br)) rfl rfl rfl (oI _)))
theorem oX{cs:List Int}{t:T8}:ev C G6 (mE f qs us s vs cs t)=some (.val (It cs.length),mE f qs us s vs cs t):=aG (ρ1:=mE f qs us s vs cs t) (rs:=[.rf 10]) rfl (kU (ρ:=mE f qs us s vs cs t) (r:=.rf 10) (aO cs)) ilen
theorem uN{a b:E}{ρ ρ1 ρ2:DEnv}{xs:List OD}{y:OR}{k:Int}{ds:List PyData}(e:ev C a ρ=some (.val (.lst xs),ρ1))(h:ev C b ρ1=some (y,ρ2))(d:au ρ2 y=some (.int k))(c:p0 xs=some ds)(g:-(2 ^ 62)<=k/\k < 2 ^ 62/\ds.length * k.toNat<=1000000):ev C (.rep a b) ρ=some (.val (.lst ((List.replicate k.toNat ds).flatten.map OD.fz)),ρ2):=bs e (bs h (bs rfl (bs d (bs rfl (bs c (bg g rfl))))))
theorem Hj{cs w:List Int}{a b c e g h i:Option OD}:ev C IJ (mE f qs us s vs cs ⟨a,b,c,some (Tn' w),e,g,h,i⟩)=some (.val (Il (padL cs.length++[7100 + (w.length:Int)])),mE f qs us s vs cs ⟨a,b,c,some (Tn' w),e,g,h,i⟩):=by
 have k:ev C (.lst ebo) (mE f qs us s vs cs ⟨a,b,c,some (Tn' w),e,g,h,i⟩)=some (.val (Il [7100 + (w.length:Int)]),mE f qs us s vs cs ⟨a,b,c,some (Tn' w),e,g,h,i⟩):=ax (aa (ae rfl (aG rfl rfl xU) rfl rfl rfl) af) rfl rfl;have l:∀{z:Bool},decide ((cs.length:Int) % 2=0)=z->ev C ea9 (mE f qs us s vs cs ⟨a,b,c,some (Tn' w),e,g,h,i⟩)=some (.val (It (if z=true then 1 else 0)),mE f qs us s vs cs ⟨a,b,c,some (Tn' w),e,g,h,i⟩):=λ{z} hz=>by refine aG (ds:=[.bool z]) (aa (aq (ae oX rfl rfl rfl (bZ (j:=2) (by decide))) rfl rfl rfl (show some (decide ((cs.length:Int) % 2=0))=some z by rw[hz])) af) rfl ?_;cases z<;>rfl
 unfold padL;by_cases d:(cs.length:Int) % 2=0
 ·rw[if_pos d];exact fb (dx:=[.int 7002]) (dy:=[.int (7100 + (w.length:Int))]) (uN (ax (aa rfl af) rfl rfl) (l (Dac d)) rfl rfl (by decide)) k rfl rfl (by show 1 + 1<=1000000;decide)
 ·rw[if_neg d];exact fb (dx:=[]) (dy:=[.int (7100 + (w.length:Int))]) (uN (ax (aa rfl af) rfl rfl) (l (Dab d)) rfl rfl (by decide)) k rfl rfl (by show 0 + 1<=1000000;decide)
theorem oY{a b c d g h i:Option OD}:∀{ws cs:List Int} {e:Option OD},cs.length + 2 * ws.length<=100000->∃l,bb (λx m=>(bc (.nm 15) (.fz x) m).bind λρ1=>aK C mW ρ1) (ws.map PyData.int) (mE f qs us s vs cs ⟨a,b,c,d,e,g,h,i⟩)=some (.nx,mE f qs us s vs (cs++xT ws) ⟨a,b,c,d,l,g,h,i⟩)
 | [],cs,e,_=>⟨e,by show some (Fl.nx,_)=some (Fl.nx,mE f qs us s vs (cs++[]) ⟨a,b,c,d,e,g,h,i⟩);rw[aap]⟩
 | w::ws,cs,e,hl=>by rw[aam]at hl;obtain⟨l,k⟩:=oY (a:=a) (b:=b) (c:=c) (d:=d) (g:=g) (h:=h) (i:=i) (ws:=ws) (cs:=cs++[w / 10000,w % 10000]) (e:=some (It w)) (by rw[aai];show cs.length + 2 + _<=_;omega);refine⟨l,bs (bs (x:=mE f qs us s vs cs ⟨a,b,c,d,some (It w),g,h,i⟩) rfl (ab (xtI (xs:=cs) (ys:=[w / 10000,w % 10000]) (ρ1:=mE f qs us s vs cs ⟨a,b,c,d,some (It w),g,h,i⟩) (ρ2:=mE f qs us s vs (cs++[w / 10000,w % 10000]) ⟨a,b,c,d,some (It w),g,h,i⟩) rfl (ax (aa (ae rfl rfl rfl rfl (oC (j:=10000) (by decide))) (aa (ae rfl rfl rfl rfl (bZ (j:=10000) (by decide))) af)) rfl rfl) rfl (by show cs.length + 2<=_;omega) rfl).1 rfl)) (k.trans ?_)⟩;rw[aac];rfl
theorem BM{cs w:List Int}{k j:Nat}{c e g h i:Option OD}(hk:k<=f.rows.length)(A:w.length<=100)(F:cs.length<=90000)(z:j < s.bs.length)(r:s.bs.getD j 0=fw f.rows k cs.length):∃m,aK C mP (mE f qs us s vs cs ⟨some (It k),some (It j),c,some (Tn' w),e,g,h,i⟩)=some (.nx,mE f qs us s vs (cs++poolC f.rows k w cs.length) ⟨some (It k),some (It j),c,some (Tn' w),m,g,h,i⟩):=by
 have q:bC C (.iff mO (.cons II .nil) .nil) (mE f qs us s vs cs ⟨some (It k),some (It j),c,some (Tn' w),e,g,h,i⟩)=some (.nx,mE f qs us s vs (cs++ovL f.rows k w (fw f.rows k cs.length)) ⟨some (It k),some (It j),c,some (Tn' w),e,g,h,i⟩):=by
  have l:=Hi (C:=C) (qs:=qs) (us:=us) (s:=s) (vs:=vs) (cs:=cs) (b:=some (It j)) (c:=c) (d:=some (Tn' w)) (e:=e) (g:=g) (h:=h) (i:=i) hk;unfold ovL;cases n:lJ f.rows k with
  | false=>rw[n]at l;rw[if_neg aae,aap];exact s_ifF l rfl
  | true =>
   rw[n]at l;rw[if_pos rfl];have u:atI (s.bs.map PyData.int) (j:Int)=some (.int (fw f.rows k cs.length)):=by rw[<- r];exact atI_get (g:=PyData.int) (i:=(j:Int)) (by omega) (by omega)
   exact aE l (ab (xtI (xs:=cs) (ys:=[7001,fw f.rows k cs.length + 2 * w.length]) (ρ1:=mE f qs us s vs cs ⟨some (It k),some (It j),c,some (Tn' w),e,g,h,i⟩) rfl (ax (aa rfl (aa (ae (aN rfl rfl rfl (a9 u)) (ae rfl (aG rfl rfl xU) rfl rfl (bM (k:=2) (by decide))) rfl rfl rfl) af)) rfl rfl) rfl (by show cs.length + 2<=_;omega) rfl).1 rfl)
 have D:(ovL f.rows k w (fw f.rows k cs.length)).length<=2:=by rw[fH];split<;>omega
 have v:∀p,(padL p).length<=1:=λp=>by unfold padL;split<;>simp
 unfold poolC;generalize ovL f.rows k w (fw f.rows k cs.length)=xs at *;have t:((cs++xs).length:Int)=(cs.length:Int) + xs.length:=by rw[aai];omega
 have B:=v ((cs++xs).length:Int);have y:(cs++xs).length=cs.length + xs.length:=aai;obtain⟨m,x⟩:=oY (C:=C) (f:=f) (qs:=qs) (us:=us) (s:=s) (vs:=vs) (a:=some (It k)) (b:=some (It j)) (c:=c) (d:=some (Tn' w)) (g:=g) (h:=h) (i:=i) (ws:=w) (cs:=cs++xs++(padL ((cs++xs).length:Int)++[7100 + (w.length:Int)])) (e:=e) (by rw[aai,aai (as:=padL _)];show _ + (_ + 1) + _<=_;omega);refine⟨m,ab q (ab (xtI (xs:=cs++xs) (ys:=padL ((cs++xs).length:Int)++[7100 + (w.length:Int)]) (ρ1:=mE f qs us s vs (cs++xs) ⟨some (It k),some (It j),c,some (Tn' w),e,g,h,i⟩) (ρ2:=mE f qs us s vs (cs++xs++(padL ((cs++xs).length:Int)++[7100 + (w.length:Int)])) ⟨some (It k),some (It j),c,some (Tn' w),e,g,h,i⟩) rfl Hj rfl (by rw[aai (as:=padL _)];show _ + (_ + 1)<=_;omega) rfl).1 (ab (bR (dA rfl rfl rfl) x) ?_))⟩;rw[t];have o:cs++xs++(padL ((cs.length:Int) + xs.length)++[7100 + (w.length:Int)])++xT w=cs++(xs++(padL ((cs.length:Int) + xs.length)++((7100 + (w.length:Int))::xT w))):=by simp
 rw[o];rfl
theorem uO{cs:List Int}{k:Nat}{e g h i:Option OD}:∀{rs:Pz} {j:Nat} {b c d:Option OD},(∀q∈rs,q.1≠(k:Int))->∃l a d',bb (λx m=>(bc (.tn 12 [13,14]) (.fz x) m).bind λρ1=>aK C mI ρ1) (enN j (rs.map Po)) (mE f qs us s vs cs ⟨some (It k),b,c,d,e,g,h,i⟩)=some (.nx,mE f qs us s vs cs ⟨some (It k),l,a,d',e,g,h,i⟩)
 | [],j,b,c,d,_=>⟨b,c,d,rfl⟩
 | q::rs,j,b,c,d,hn=>by obtain⟨l,a,d',z⟩:=uO (cs:=cs) (e:=e) (g:=g) (h:=h) (i:=i) (rs:=rs) (j:=j + 1) (b:=some (It j)) (c:=some (It q.1)) (d:=some (Tn' q.2)) λx n=>hn x (aaj _ n);exact⟨l,a,d',bs (bs (x:=mE f qs us s vs cs ⟨some (It k),some (It j),some (It q.1),some (Tn' q.2),e,g,h,i⟩) rfl (ab (s_ifF (ao (aq rfl rfl rfl rfl (show some (decide (q.1=(k:Int)))=some false by rw[Dab (hn q aag)]))) rfl) rfl)) z⟩
theorem uP{cs:List Int}{k:Nat}{g h i:Option OD}(hk:k<=f.rows.length)(D:cs.length<=90000)(A:∀q∈qs,q.2.length<=100)(B:qs.Pairwise λx y=>x.1 < y.1)(o:s.bs.length=qs.length)(v:∀ps w rs,qs=ps++((k:Int),w)::rs->s.bs.getD ps.length 0=fw f.rows k cs.length):∀{rs ps:Pz} {b c d e:Option OD},qs=ps++rs->∃n m d' a,bb (λx r=>(bc (.tn 12 [13,14]) (.fz x) r).bind λρ1=>aK C mI ρ1) (enN ps.length (rs.map Po)) (mE f qs us s vs cs ⟨some (It k),b,c,d,e,g,h,i⟩)=some (.nx,mE f qs us s vs (plC f k rs cs) ⟨some (It k),n,m,d',a,g,h,i⟩)
 | [],ps,b,c,d,e,_=>⟨b,c,d,e,rfl⟩
 | q::rs,ps,b,c,d,e,eq=>by
  by_cases l:q.1=(k:Int)
  ·obtain⟨H,w⟩:=q;have l:H=(k:Int):=l;subst l;have p:=fI (eq ▸ B);have u:∀x∈rs,x.1≠(k:Int):=λx G=>by have:=p.2 x G;simp only at this;omega
   have J:ps.length < qs.length:=by rw[eq,aai,aam];omega
   obtain⟨a,I⟩:=BM (C:=C) (qs:=qs) (us:=us) (vs:=vs) (c:=some (It (k:Int))) (e:=e) (g:=g) (h:=h) (i:=i) hk (A ((k:Int),w) (by rw[eq];exact aad _ aag)) D (by omega) (v _ _ _ eq);obtain⟨n,m,d',F⟩:=uO (C:=C) (f:=f) (qs:=qs) (us:=us) (s:=s) (vs:=vs) (cs:=cs++poolC f.rows k w cs.length) (e:=a) (g:=g) (h:=h) (i:=i) (rs:=rs) (j:=ps.length + 1) (b:=some (It ps.length)) (c:=some (It k)) (d:=some (Tn' w)) u;have t:plC f k (((k:Int),w)::rs) cs=cs++poolC f.rows k w cs.length:=by show plC f k rs (if (k:Int)=(k:Int) then _ else _)=_;rw[if_pos rfl,lC u]
   rw[t];exact⟨n,m,d',a,bs (bs (x:=mE f qs us s vs cs ⟨some (It k),some (It ps.length),some (It k),some (Tn' w),e,g,h,i⟩) rfl (ab (aE (ao (aq rfl rfl rfl rfl (show some (decide ((k:Int)=(k:Int)))=some true by rw[Dac rfl]))) I) rfl)) F⟩
  ·obtain⟨n,m,d',a,z⟩:=uP (g:=g) (h:=h) (i:=i) hk D A B o v (rs:=rs) (ps:=ps++[q]) (b:=some (It ps.length)) (c:=some (It q.1)) (d:=some (Tn' q.2)) (e:=e) (by rw[eq,aac];rfl);rw[aai,aaO]at z;have t:plC f k (q::rs) cs=plC f k rs cs:=by show plC f k rs (if q.1=(k:Int) then _ else _)=_;rw[if_neg l]
   rw[t];exact⟨n,m,d',a,bs (bs (x:=mE f qs us s vs cs ⟨some (It k),some (It ps.length),some (It q.1),some (Tn' q.2),e,g,h,i⟩) rfl (ab (s_ifF (ao (aq rfl rfl rfl rfl (show some (decide (q.1=(k:Int)))=some false by rw[Dab l]))) rfl) rfl)) z⟩
end
abbrev mV:E:=.tup eau
abbrev mG:E:=.ife ea8 ebt (.non)
abbrev mC:E:=.call 27 eak
abbrev mR:Ss:=.cons (.set 16 (.non)) (.cons (.iff ecg (.cons een (.cons (.set 16 mV) .nil)) .nil) (.cons (.set 18 mG) (.cons (.ext 10 mC) .nil)))
abbrev mT:E:=.cmp .lt (.nm 11) ec7
abbrev mB:Ss:=.cons (.fr (.tn 12 [13,14]) (.enm (.nm 3)) mI) (.cons (.iff mT mR .nil) .nil)
theorem xX{f:Cf}{k:Nat}{r:R}(h:f.rows[k]?=some r):aW f (k + 1)=aW f k + if r.gr=true then 1 else 0:=by unfold aW;rw[List.take_add_one,h,List.filter_append,aai];show _ + ([r].filter R.gr).length=_;rw[aa9];split<;>rfl
theorem us_at{f:Cf}{qs:Pz}{us:List Int}{k:Nat}{r:R}(U:Uok f qs us)(h:f.rows[k]?=some r)(d:r.gr=true):∃u,us[aW f k]?=some u/\us.drop (aW f k)=u::us.drop (aW f k + 1)/\us.getD (aW f k) 0=u/\Zok f qs ((k:Int),u)/\j6 f qs ((k:Int),u)=true:=by
 have c:=gIx_at h d;have b:aW f k < us.length:=by rw[U.ln];exact (aao.mp c).1
 have a:=aak b;have e:((k:Int),us[aW f k])∈(gIx 0 f.rows).zip us:=aaI (i:=aW f k) (abG.mpr ⟨c,a⟩);have:=U.z e;exact⟨us[aW f k],a,abq b,by rw[aba,a];rfl,this.1,this.2⟩
section
variable{n:Nat}{f:Cf}{qs:Pz}{us:List Int}
theorem Hk{u:Int}{k:Nat}{vs cs:List Int}{b c d e g i:Option OD}(t:(fin f qs).bs.length=qs.length)(h:Zok f qs ((k:Int),u))(s:j6 f qs ((k:Int),u)=true):ev (pl.pg.ct n) mV (mE f qs us (fin f qs) vs cs ⟨some (It k),b,c,d,e,g,some (It u),i⟩)=some (.val (.fz (dZ f qs ((k:Int),u))),mE f qs us (fin f qs) vs cs ⟨some (It k),b,c,d,e,g,some (It u),i⟩):=by
 obtain⟨D,x,y,r,C,z,o⟩:=h.row;obtain⟨q,a,l⟩:=mem_of h s;obtain⟨j,v,w⟩:=yU a l;obtain⟨_,p,A⟩:=h;unfold dZ;rw[w];have m:ev (pl.pg.ct n) Ij (mE f qs us (fin f qs) vs cs ⟨some (It k),b,c,d,e,g,some (It u),i⟩)=some (.val (.fz (.tuple (q.2.map PyData.int))),mE f qs us (fin f qs) vs cs ⟨some (It k),b,c,d,e,g,some (It u),i⟩):=by
  refine aN (aN rfl rfl rfl (a9 (d:=Po q) ?_)) rfl rfl (bq (cQ (k:=1) rfl));have e:u=(u.toNat:Int):=by simp only at p;omega
  rw[e];exact cQ (by rw[aax];simp only at a;rw[a];rfl)
 have B:ev (pl.pg.ct n) Ii (mE f qs us (fin f qs) vs cs ⟨some (It k),b,c,d,e,g,some (It u),i⟩)=some (.val (It (qL f (k:Int))),mE f qs us (fin f qs) vs cs ⟨some (It k),b,c,d,e,g,some (It u),i⟩):=by simp only at o;rw[o];refine aN (aN rfl rfl rfl (a9 (d:=(R.st x y).d) ?_)) rfl rfl (bq (cQ (k:=2) rfl));simp only at r;rw[r];exact cR z
 exact dW (aa (aN rfl rfl rfl (a9 (atI_get p (by rw[t];exact A)))) (aa (uJ m B rfl v) af)) rfl rfl rfl
theorem Hl{k:Nat}{r:R}{s:Mc}{vs cs:List Int}{b c d e g h i:Option OD}(F:Fok f)(p:s.ps.length=f.rows.length)(m:f.rows[k]?=some r):ev (pl.pg.ct n) mG (mE f qs us s vs cs ⟨some (It k),b,c,d,e,g,h,i⟩)=some (.val (.fz (if r.jm=true then .int (je s r.tg) else .none)),mE f qs us s vs cs ⟨some (It k),b,c,d,e,g,h,i⟩):=by
 have o:ev (pl.pg.ct n) Be (mE f qs us s vs cs ⟨some (It k),b,c,d,e,g,h,i⟩)=some (.val (Rd r),mE f qs us s vs cs ⟨some (It k),b,c,d,e,g,h,i⟩):=aN rfl rfl rfl (a9 (cR m));have j:bf (pl.pg.ct n) ea8 (mE f qs us s vs cs ⟨some (It k),b,c,d,e,g,h,i⟩)=some (r.jm,mE f qs us s vs cs ⟨some (It k),b,c,d,e,g,h,i⟩):=ao (aq (dx:=.str r.wd) (dy:=.tuple [.str "go",.str "nil"]) (aN o rfl rfl (by show bo _ (.val (.fz r.d)) 0=_;rw[R.d_is];exact bq br)) rfl rfl rfl (uw r));by_cases a:r.jm=true
 ·rw[a]at j;rw[if_pos a];have l:=F.jb r (aaI m);obtain⟨q,t,_⟩:=l a;exact cP j (aN rfl (BA o l a) rfl (fD rfl (atI_get q (by rw[aai,p,aaO];omega))))
 ·rw[if_neg a];rw[Bool.eq_false_iff.mpr a]at j;exact dr j rfl
theorem E1{k:Nat}{r:R}:(if r.jm=true then PyData.int (je (fin f qs) r.tg) else .none)=gJ r (gdat f qs us k r):=by
 unfold gJ gdat;by_cases a:r.jm=true
 ·rw[if_pos a,if_pos a,if_neg (by rw[yT a];decide)]
 ·rw[if_neg a,if_neg a]
theorem E2{k:Nat}{r:R}{cs:List Int}{b c d e g h i:Option OD}(F:Fok f)(U:Uok f qs us)(w:(fin f qs).bs.length=qs.length)(l:f.rows[k]?=some r)(N:cs.length<=90000):∃g' h' H,aK (pl.pg.ct (n + 1)) mR (mE f qs us (fin f qs) (us.drop (aW f k)) cs ⟨some (It k),b,c,d,e,g,h,i⟩)=some (.nx,mE f qs us (fin f qs) (us.drop (aW f (k + 1))) (cs++cg r cs.length (decide ((k:Int)∈f.longs)) (gdat f qs us k r)) ⟨some (It k),b,c,d,e,g',h',H⟩):=by
 have M:k < f.rows.length:=(aao.mp l).1;have m:=xS (n:=n) (r:=r) (p:=(cs.length:Int)) (lg:=decide ((k:Int)∈f.longs)) (g:=gdat f qs us k r) (F.ok r (aaI l)) gdat_ok;have o:=uc (n:=n) r;have G:(pl.pg.ct (n + 1)).call=pl.pg.call (n + 1):=rfl;rw[<- G]at m o;have J:=kf (r:=r) (p:=(cs.length:Int)) (lg:=decide ((k:Int)∈f.longs)) (g:=gdat f qs us k r);have v:∀{vs:List Int} {t:T8},t.a=some (It k)->ev (pl.pg.ct (n + 1)) Be (mE f qs us (fin f qs) vs cs t)=some (.val (Rd r),mE f qs us (fin f qs) vs cs t):=λ{vs t} ht=>by obtain⟨_,_,_,_,_,_,_,_⟩:=t;cases ht;exact aN rfl rfl rfl (a9 (cR l))
 have j:bf (pl.pg.ct (n + 1)) ecg (mE f qs us (fin f qs) (us.drop (aW f k)) cs ⟨some (It k),b,c,d,e,some (.fz .none),h,i⟩)=some (r.gr,mE f qs us (fin f qs) (us.drop (aW f k)) cs ⟨some (It k),b,c,d,e,some (.fz .none),h,i⟩):=bz (ah (ρ3:=mE f qs us (fin f qs) (us.drop (aW f k)) cs ⟨some (It k),b,c,d,e,some (.fz .none),h,i⟩) (aa (v rfl) af) rfl o rfl);obtain⟨h',y⟩:∃h',bC (pl.pg.ct (n + 1)) (.iff ecg (.cons een (.cons (.set 16 mV) .nil)) .nil) (mE f qs us (fin f qs) (us.drop (aW f k)) cs ⟨some (It k),b,c,d,e,some (.fz .none),h,i⟩)=some (.nx,mE f qs us (fin f qs) (us.drop (aW f (k + 1))) cs ⟨some (It k),b,c,d,e,some (.fz (gW r (gdat f qs us k r))),h',i⟩):=by
  rw[xX l];unfold gW;cases s:r.gr with
  | false =>rw[s]at j;rw[if_neg aae,if_neg aae];exact⟨h,s_ifF j rfl⟩
  | true =>
   rw[s]at j;obtain⟨u,L,C,D,A,B⟩:=us_at U l s;have I:gdat f qs us k r=dZ f qs ((k:Int),u):=by unfold gdat;rw[if_pos s,D]
   rw[if_pos rfl,if_pos rfl,I];refine⟨some (It u),aE j (ab (ag (x:=.val (It u)) (z:=It u) (ρ1:=mE f qs us (fin f qs) (us.drop (aW f k + 1)) cs ⟨some (It k),b,c,d,e,some (.fz .none),h,i⟩) (ρ2:=mE f qs us (fin f qs) (us.drop (aW f k + 1)) cs ⟨some (It k),b,c,d,e,some (.fz .none),h,i⟩) (ρ3:=mE f qs us (fin f qs) (us.drop (aW f k + 1)) cs ⟨some (It k),b,c,d,e,some (.fz .none),some (It u),i⟩) ?_ rfl rfl rfl) (ab (ag (Hk w A B) rfl rfl rfl) rfl))⟩;rw[C];rfl
 have q:=Hl (n:=n + 1) (qs:=qs) (us:=us) (vs:=us.drop (aW f (k + 1))) (cs:=cs) (b:=b) (c:=c) (d:=d) (e:=e) (g:=some (.fz (gW r (gdat f qs us k r)))) (h:=h') (i:=i) F (gC (f:=f) (qs:=qs)) l;rw[E1 (us:=us) (k:=k)]at q;refine⟨some (.fz (gW r (gdat f qs us k r))),h',some (.fz (gJ r (gdat f qs us k r))),ab (ag (ρ3:=mE f qs us (fin f qs) (us.drop (aW f k)) cs ⟨some (It k),b,c,d,e,some (.fz .none),h,i⟩) rfl rfl rfl rfl) (ab y (ab (ag (ρ3:=mE f qs us (fin f qs) (us.drop (aW f (k + 1))) cs ⟨some (It k),b,c,d,e,some (.fz (gW r (gdat f qs us k r))),h',some (.fz (gJ r (gdat f qs us k r)))⟩) q rfl rfl rfl) (ab (xtI (zs:=cs) (xs:=cs) (ρ1:=mE f qs us (fin f qs) (us.drop (aW f (k + 1))) cs ⟨some (It k),b,c,d,e,some (.fz (gW r (gdat f qs us k r))),h',some (.fz (gJ r (gdat f qs us k r)))⟩) rfl (ah (ρ3:=mE f qs us (fin f qs) (us.drop (aW f (k + 1))) cs ⟨some (It k),b,c,d,e,some (.fz (gW r (gdat f qs us k r))),h',some (.fz (gJ r (gdat f qs us k r)))⟩) (aa (v rfl) (aa oX (aa (aq rfl rfl rfl rfl EM) (aa rfl (aa rfl af))))) rfl m rfl) rfl (by omega) rfl).1 rfl)))⟩
theorem oZ(F:Fok f)(Q:Qok f qs)(U:Uok f qs us)(x:(fin f qs).bs.length=qs.length)(a:qs.length<=4)(J:f.rows.length<=60):∀{m k:Nat} {t:T8},k + m=f.rows.length->∃vs t',bb (λd B=>(bc (.nm 11) (.fz d) B).bind λρ1=>aK (pl.pg.ct (n + 1)) mB ρ1) (bL k (m + 1)) (mE f qs us (fin f qs) (us.drop (aW f k)) (CC f qs us k) t)=some (.nx,mE f qs us (fin f qs) vs (AC f qs us) t')
 | m,k,t,A=>by
  have o:k<=f.rows.length:=by omega
  have P:=lF (f:=f) (us:=us) (λq a=>(Q.ok q a).l1) a (k:=k);have O:=lE (f:=f) (k:=k) (qs:=qs) (cs:=CC f qs us k) λq a=>(Q.ok q a).l1;obtain⟨p,l,j,u,z⟩:=uP (C:=pl.pg.ct (n + 1)) (f:=f) (qs:=qs) (us:=us) (s:=fin f qs) (vs:=us.drop (aW f k)) (cs:=CC f qs us k) (k:=k) (g:=t.g) (h:=t.h) (i:=t.i) o (by omega) (λq a=>(Q.ok q a).l1) Q.inc x (λps w rs e=>by
   subst e;rw[EX (λq a=>(Q.ok q (aaf _ a)).g0) o Q.inc,uI F o]) (rs:=qs) (ps:=[]) (b:=t.b) (c:=t.c) (d:=t.d) (e:=t.e) rfl
  have z:bb _ (enN 0 (qs.map Po)) _=_:=z;rw[<- oN]at z;have G:bC (pl.pg.ct (n + 1)) (.fr (.tn 12 [13,14]) (.enm (.nm 3)) mI) (mE f qs us (fin f qs) (us.drop (aW f k)) (CC f qs us k) ⟨some (It k),t.b,t.c,t.d,t.e,t.g,t.h,t.i⟩)=some (.nx,mE f qs us (fin f qs) (us.drop (aW f k)) (plC f k qs (CC f qs us k)) ⟨some (It k),p,l,j,u,t.g,t.h,t.i⟩):=bR (eG rfl rfl) z;cases m with
  | zero =>have A:k=f.rows.length:=A;subst A;have y:bf (pl.pg.ct (n + 1)) mT (mE f qs us (fin f qs) (us.drop (aW f f.rows.length)) (plC f f.rows.length qs (CC f qs us f.rows.length)) ⟨some (It f.rows.length),p,l,j,u,t.g,t.h,t.i⟩)=some (false,mE f qs us (fin f qs) (us.drop (aW f f.rows.length)) (plC f f.rows.length qs (CC f qs us f.rows.length)) ⟨some (It f.rows.length),p,l,j,u,t.g,t.h,t.i⟩):=ao (aq (dx:=.int f.rows.length) (dy:=.int f.rows.length) rfl (aG rfl rfl blen) rfl rfl (show some (decide ((f.rows.length:Int) < (f.rows.length:Int)))=some false by rw[Dab (by omega)]));rw[aV];exact⟨_,_,bs (bs rfl (ab G (ab (s_ifF y rfl) rfl))) rfl⟩
  | succ m =>
   obtain⟨r,H⟩:∃r,f.rows[k]?=some r:=⟨_,aak (by omega)⟩
   obtain⟨N,I,M,L⟩:=E2 (n:=n) (cs:=plC f k qs (CC f qs us k)) (b:=p) (c:=l) (d:=j) (e:=u) (g:=t.g) (h:=t.h) (i:=t.i) F U x H (by omega);obtain⟨vs,t',D⟩:=oZ F Q U x a J (m:=m) (k:=k + 1) (t:=⟨some (It k),p,l,j,u,N,I,M⟩) (by omega);have v:CC f qs us (k + 1)=plC f k qs (CC f qs us k)++cg r (plC f k qs (CC f qs us k)).length (decide ((k:Int)∈f.longs)) (gdat f qs us k r):=by show _++(f.rows[k]?).elim [] _=_;rw[H];rfl
   rw[v]at D;have y:bf (pl.pg.ct (n + 1)) mT (mE f qs us (fin f qs) (us.drop (aW f k)) (plC f k qs (CC f qs us k)) ⟨some (It k),p,l,j,u,t.g,t.h,t.i⟩)=some (true,mE f qs us (fin f qs) (us.drop (aW f k)) (plC f k qs (CC f qs us k)) ⟨some (It k),p,l,j,u,t.g,t.h,t.i⟩):=ao (aq (dx:=.int k) (dy:=.int f.rows.length) rfl (aG rfl rfl blen) rfl rfl (show some (decide ((k:Int) < (f.rows.length:Int)))=some true by rw[Dac (by omega)]));rw[aV];exact⟨vs,t',bs (bs rfl (ab G (ab (aE y L) rfl))) D⟩
theorem xY(F:Fok f)(Q:Qok f qs)(U:Uok f qs us)(o:(fin f qs).bs.length=qs.length)(j:qs.length<=4)(d:f.rows.length<=60):pl.pg.call (n + 4) 26 [Rl f.rows,Lo f,Fp qs us]=some (Il (AC f qs us),[Rl f.rows,Lo f,Fp qs us]):=by
 have a:pl.pg.call (n + 3) 22 [Rl f.rows,Lo f,Pq qs]=some (Bm (fin f qs),[Rl f.rows,Lo f,Pq qs]):=lx (n:=n) (λq h=>(Q.ok q h).g0) (by omega) (by omega);have r:(pl.pg.ct (n + 3)).call=pl.pg.call (n + 3):=rfl;rw[<- r]at a;have g:=gC (f:=f) (qs:=qs);have s:us.length<=60:=by rw[U.ln,dQ];exact aat (abh _ _) d
 obtain⟨c,b,e⟩:=oZ (n:=n + 2) F Q U o j d (m:=f.rows.length) (k:=0) (t:=⟨none,none,none,none,none,none,none,none⟩) (aaU _);refine ai (fn:=ox) (ρ:=(mE f qs us (fin f qs) c (AC f qs us) b).set 10 none) rfl rfl ?_ rfl;refine ab (gf (ρ3:=[some (Rl f.rows),some (Lo f),some (Fp qs us),some (Pq qs),some (Dl us),none,none,none,none,none,none,none,none,none,none,none,none,none,none]) rfl rfl rfl) ?_;refine ab (gf (ρ3:=[some (Rl f.rows),some (Lo f),some (Fp qs us),some (Pq qs),some (Dl us),some (Dl (fin f qs).ps),some (Dl (fin f qs).bs),some (It (fin f qs).pl),none,none,none,none,none,none,none,none,none,none,none]) (ah (ρ3:=[some (Rl f.rows),some (Lo f),some (Fp qs us),some (Pq qs),some (Dl us),none,none,none,none,none,none,none,none,none,none,none,none,none,none]) rfl rfl a rfl) rfl rfl) ?_;have p:∀{C:Ct} {ρ:DEnv},ev C (.nm 5) ρ=some (.val (Dl (fin f qs).ps),ρ)->ev C (.nm 7) ρ=some (.val (It (fin f qs).pl),ρ)->ev C ecp ρ=some (.val (Il ((fin f qs).ps++[(fin f qs).pl])),ρ):=λ{C ρ} h5 h7=>by rw[<- m4];refine fb h5 (ax (aa h7 af) rfl rfl) rfl rfl (by rw[aab,g];show _ + 1<=_;omega)
 have l:∀{C:Ct} {ρ:DEnv},ev C (.nm 4) ρ=some (.val (Dl us),ρ)->ev C (.bnw .list (.nm 4)) ρ=some (.val (Il us),ρ):=λ{C ρ} h4=>by show _=some (OR.val (OD.lst (us.map It)),ρ);rw[<- cx];exact bs h4 rfl
 refine ab (f6 (ρ3:=mE f qs us (fin f qs) us [] ⟨none,none,none,none,none,none,none,none⟩) (aa (p rfl rfl) (aa (l rfl) (aa (ax af rfl rfl) af))) rfl rfl rfl) ?_;refine ab (bR (eF (n:=(f.rows.length:Int) + 1) (ae (dx:=.int f.rows.length) (dy:=.int 1) (aG rfl rfl blen) rfl rfl rfl rfl) rfl (by omega)) ?_) (ar (aj (ρ:=mE f qs us (fin f qs) c (AC f qs us) b) (x:=.rf 10) (ρ1:=mE f qs us (fin f qs) c (AC f qs us) b) rfl rfl));have i:((f.rows.length:Int) + 1).toNat=f.rows.length + 1:=by omega
 rw[i];exact e
end
abbrev Sm(n:Nat)(d:PyData):Prop:=pl.pg.call (n + 1) 28 [.fz d,.fz d]=some (.fz (.bool true),[.fz d,.fz d])
theorem xZ{n:Nat}{a:Int}:Sm n (.int a):=by have h:ev (pl.pg.ct n) edx [some (It a),some (It a)]=some (.val (.fz (.bool true)),[some (It a),some (It a)]):=aq rfl rfl rfl rfl (show some (decide (a=a))=some true by rw[Dac rfl]);exact ai (fn:=mU) rfl rfl (ab (s_ifF rfl rfl) (ab (s_ifF rfl rfl) (ab (s_ifF rfl rfl) (ar (aj (mL rfl (mL rfl h)) rfl))))) rfl
theorem lH:∀m:Nat,allB (List.replicate m (.bool true))=some (List.replicate m true)
 | 0=>rfl
 | m + 1=>by rw[aaJ,allB,lH m];rfl
theorem x9{m:Nat}:uZ .all [.list (List.replicate m (.bool true))]=some (.bool true):=by show (allB (List.replicate m (.bool true))).bind _=_;rw[lH];show some (PyData.bool ((List.replicate m true).all id))=_;rw[List.all_replicate];simp
theorem uQ{ρ:DEnv}{ds:List PyData}:cX ρ [.val (.lst (ds.map OD.fz))]=some [.list ds]:=by have:au ρ (.val (.lst (ds.map OD.fz)))=some (.list ds):=cL ds;simp only[cX,this];rfl
theorem pb{n:Nat}:∀{ds out:List PyData} {o0 o1:Option OD},(∀d∈ds,Sm n d)->∃b a,bW (cm (pl.pg.ct (n + 1)) (.tp [0,1]) .none eca) (fP ds ds) out [o0,o1]=some (out++List.replicate ds.length (.bool true),[b,a])
 | [],out,o0,o1,_=>⟨o0,o1,by show some (out,_)=some (out++[],_);rw[aap]⟩
 | x::xs,out,o0,o1,h=>by obtain⟨f,c,e⟩:=pb (n:=n) (ds:=xs) (out:=out++[.bool true]) (o0:=some (.fz x)) (o1:=some (.fz x)) λd g=>h d (aaj _ g);refine⟨f,c,bs (x:=([.bool true],[some (.fz x),some (.fz x)])) (EG (x:=.val (.fz (.bool true))) rfl (ah (ρ3:=[some (.fz x),some (.fz x)]) rfl rfl (h x aag) rfl) rfl) ?_⟩;rw[aac]at e;exact e
theorem ya{n:Nat}{ds:List PyData}(p:ds.length<=100000)(h:∀d∈ds,Sm n d):Sm (n + 1) (.list ds)/\Sm (n + 1) (.tuple ds):=by
 obtain⟨o0,o1,e⟩:=pb (n:=n) (ds:=ds) (out:=[]) (o0:=none) (o1:=none) h;rw[aaD]at e;have j:(fP ds ds).length < 1000000:=by unfold fP;rw[acw];omega
 have a:∀x:PyData,sM x=some ds->jy x=some ds.length->uY .seq x=true->Sm (n + 1) x:=λx f l m=>by
  have o:=dB (C:=pl.pg.ct (n + 1)) (nt:=2) (fr:=[]) (it:=.zip (.nm 0) (.nm 1)) (ρ:=[some (.fz x),some (.fz x)]) (ρ1:=[some (.fz x),some (.fz x)]) (ρ2:=[some (.fz x),some (.fz x)]) (mQ (ρ3:=[some (.fz x),some (.fz x)]) rfl rfl rfl rfl f f) j rfl e unca_nil;have b:uZ .len [x]=some (.int ds.length):=by show (jy x).bind (λn=>some (PyData.int n))=_;rw[l];rfl
  have i:bf (pl.pg.ct (n + 1)) ebk [some (.fz x),some (.fz x)]=some (false,[some (.fz x),some (.fz x)]):=ao (aq (dx:=.int ds.length) (dy:=.int ds.length) (aG rfl rfl b) (aG rfl rfl b) rfl rfl (show some (!decide ((ds.length:Int)=ds.length))=some false by rw[Dac rfl];rfl));have c:∀k,bf (pl.pg.ct (n + 1)) (.cmp .ne (.isi k (.nm 0)) (.isi k (.nm 1))) [some (.fz x),some (.fz x)]=some (false,[some (.fz x),some (.fz x)]):=λk=>ao (aq (dx:=.bool (uY k x)) (dy:=.bool (uY k x)) rfl rfl rfl rfl (by cases uY k x<;>rfl));have g:bf (pl.pg.ct (n + 1)) (.isi .seq (.nm 1)) [some (.fz x),some (.fz x)]=some (true,[some (.fz x),some (.fz x)]):=by show some (uY .seq x,_)=_;rw[m]
  exact ai (fn:=mU) rfl rfl (ar (aE g (ab (s_ifF (dz (c .list) (c .tuple)) rfl) (ab (s_ifF i rfl) (ar (aj (aG (ds:=[.list (List.replicate ds.length (.bool true))]) (aa o af) uQ x9) rfl)))))) rfl
 exact⟨a _ rfl rfl rfl,a _ rfl rfl rfl⟩
theorem iO:∀rs:List R,PyData.canLayAll0 (rs.map R.d)=true
 | []=>rfl
 | .st _ _::r=>by
  have:PyData.strOk (Str.ofString "set")=true:=by decide +kernel
  simp[PyData.canLayAll0,PyData.canLay0,R.d,iO r,this]
 | .ot _ _ h::r=>by simp[PyData.canLayAll0,PyData.canLay0,R.d,lay_ints,iO r,h.2]
theorem iP:∀rs:List R,PyData.depthAll (rs.map R.d)<=1
 | []=>by simp[PyData.depthAll]
 | .st _ _::r=>by have:=iP r;simp[PyData.depthAll,PyData.depth,R.d,this]
 | .ot _ _ _::r=>by have:=iP r;simp[PyData.depthAll,PyData.depth,R.d,dF,this]
theorem qJ{f:Cf}{qs:Pz}(b:∀q∈qs,0<=q.1/\q.1<=f.rows.length):(fin f qs).bs.length=qs.length:=by have d:=eJ (f:=f) (qs:=qs) (λq a=>(b q a).1) (k:=f.rows.length);have e:=iF (f:=f) (k:=f.rows.length) (qs:=qs) (s:=mac f qs f.rows.length);have c:=iG (k:=f.rows.length) (qs:=qs) (λq a=>(b q a).1);rw[fin,e,d,<- c,acE];exact λq a=>Dac (by have:=(b q a).2;omega)
theorem Qok.bl{f:Cf}{qs:Pz}(h:Qok f qs):(fin f qs).bs.length=qs.length:=qJ λq a=>⟨(h.ok q a).g0,(h.ok q a).g1⟩
theorem jf:∀qs:Pz,PyData.canLayAll0 (qs.map Po)=true
 | []=>rfl
 | q::r=>by simp[PyData.canLayAll0,PyData.canLay0,lay_ints,jf r]
theorem dep_pools:∀qs:Pz,PyData.depthAll (qs.map Po)<=2
 | []=>by simp[PyData.depthAll]
 | q::r=>by have:=dep_pools r;simp[PyData.depthAll,PyData.depth,dF];omega
abbrev Hd(f:Cf)(qs:Pz)(us:List Int):PyData:=.tuple [.list (f.rows.map R.d),.list (f.longs.map PyData.int),.tuple [.list (qs.map Po),.list (us.map PyData.int)]]
theorem E3{f:Cf}{qs:Pz}{us:List Int}:qm .ne (Hd f qs us) (Hd f qs us)=some false:=by
 have c:=iP f.rows;have b:=dep_pools qs;have a:PyData.canLay0 (Hd f qs us)=true:=by simp[PyData.canLay0,PyData.canLayAll0,iO,lay_ints,jf]
 have h:SeqAt.shaped (Hd f qs us)=true:=by unfold SeqAt.shaped;rw[a,abg];refine Dac ?_;simp[PyData.depth,PyData.depthAll,dF];omega
 show (if (SeqAt.shaped (Hd f qs us) && SeqAt.shaped (Hd f qs us))=true then some (PyData.eqv (Hd f qs us) (Hd f qs us)) else none).bind _=_;rw[h,Bool.and_self,if_pos rfl,eqv_refl _ a];rfl
theorem eq_nil:qm .eq (.list []) (.list [])=some true:=by decide +kernel
theorem gD{C:Ct}{e:E}{ρ ρ1:DEnv}{x:OR}{ds:List PyData}(a:ev C e ρ=some (x,ρ1))(b:(cN ρ1 x).bind seqOf=some ds):ev C (.bnw .list e) ρ=some (.val (.lst (ds.map OD.fz)),ρ1):=bs a (bs b rfl)
theorem uR{rs:List R}:(Rs rs).dat=some (.list (rs.map R.d)):=by rw[Rs,<- yJ];exact cL _
abbrev wE(sc k t:OD)(f:Cf)(qs:Pz)(us:List Int)(x6 x7:OD)(o8 o9:Option OD):DEnv:=[some sc,some k,some t,some (Rl f.rows),some (Fp qs us),some (Lo f),some x6,some x7,o8,o9]
abbrev F0(qs:Pz)(us:List Int):OD:=.tup [.lst ((qs.map Po).map OD.fz),Il us]
abbrev H1(f:Cf)(qs:Pz)(us:List Int):OD:=.tup [Rl f.rows,Lo f,Fp qs us]
abbrev H0(f:Cf)(qs:Pz)(us:List Int):OD:=.tup [Rs f.rows,Il f.longs,F0 qs us]
theorem BN{qs:Pz}{us:List Int}:(F0 qs us).dat=some (.tuple [.list (qs.map Po),.list (us.map PyData.int)]):=by rw[F0,OD.dat,OD.dats,cL,OD.dats,aO];rfl
theorem BO{ρ:DEnv}{j:Nat}{xs:List OD}{k:Nat}{c:OD}{d:PyData}(h:ρ[j]?.join=some (.tup xs))(hk:xs[k]?=some c)(a:c.dat=some d):bo ρ (.rf j) (k:Int)=some (.fz d,ρ.set j (some (.tup (xs.set k (.fz d))))):=by have b:=(aao.mp hk).1;have e:ixN xs.length (k:Int)=some k:=oq b;simp only[bo,h,Option.bind_some,itemS,e,hk,a]
abbrev bI:Ss:=match F_law.body with | .cons (.fr _ _ (.cons _ (.cons _ (.cons _ (.cons _ (.cons _ (.cons _ (.cons (.fr _ _ b) _)))))))) _=>b | _=>.nil
theorem lI{n:Nat}{sc k t:OD}{f:Cf}{qs:Pz}{us:List Int}{x6:OD}{o8 o9:Option OD}(m:x6=H0 f qs us\/x6=H1 f qs us)(F:Fok f)(Q:Qok f qs)(U:Uok f qs us)(e:qs.length<=4)(B:f.rows.length<=60) :
  ∃i,aK (pl.pg.ct (n + 6)) bI (wE sc k t f qs us x6 (Il (AC f qs us)) o8 o9)=some (.nx,wE sc k t f qs us (H1 f qs us) (Il (AC f qs us)) o8 i):=by
 have u:=lF (f:=f) (us:=us) (λq e=>(Q.ok q e).l1) e (k:=f.rows.length);have C:=lE (f:=f) (k:=f.rows.length) (qs:=qs) (cs:=CC f qs us f.rows.length) λq e=>(Q.ok q e).l1;have A:(AC f qs us).length<=90000:=by show (plC _ _ _ _).length<=_;omega
 have l:(pl.pg.ct (n + 6)).call 28 ([PyData.list ((AC f qs us).map PyData.int),PyData.list ((AC f qs us).map PyData.int)].map OD.fz)=some (.fz (.bool true),[.fz (.list ((AC f qs us).map PyData.int)),.fz (.list ((AC f qs us).map PyData.int))]):=(ya (n:=n + 4) (ds:=(AC f qs us).map PyData.int) (by rw[aab];omega) λd o=>by
  obtain⟨a,_,rfl⟩:=aau.mp o;exact xZ).1
 have g:=uM (n:=n) F Q U Q.bl e B;have D:(pl.pg.ct (n + 6)).call=pl.pg.call (n + 6):=rfl;rw[<- D]at g;obtain⟨h,b,s,w,y⟩:∃h b,bo (wE sc k t f qs us x6 (Il (AC f qs us)) o8 o9) (.rf 6) 0=some (Rl f.rows,wE sc k t f qs us (.tup [Rl f.rows,h,b]) (Il (AC f qs us)) o8 o9)/\bo (wE sc k t f qs us (.tup [Rl f.rows,h,b]) (Il (AC f qs us)) o8 o9) (.rf 6) 1=some (Lo f,wE sc k t f qs us (.tup [Rl f.rows,Lo f,b]) (Il (AC f qs us)) o8 o9)/\bo (wE sc k t f qs us (.tup [Rl f.rows,Lo f,b]) (Il (AC f qs us)) o8 o9) (.rf 6) 2=some (Fp qs us,wE sc k t f qs us (H1 f qs us) (Il (AC f qs us)) o8 o9):=by
  rcases m with rfl | rfl
  ·exact⟨Il f.longs,F0 qs us,BO (ρ:=wE sc k t f qs us (H0 f qs us) (Il (AC f qs us)) o8 o9) (j:=6) (xs:=[Rs f.rows,Il f.longs,F0 qs us]) (k:=0) (c:=Rs f.rows) (d:=.list (f.rows.map R.d)) rfl rfl uR,BO (ρ:=wE sc k t f qs us (.tup [Rl f.rows,Il f.longs,F0 qs us]) (Il (AC f qs us)) o8 o9) (j:=6) (xs:=[Rl f.rows,Il f.longs,F0 qs us]) (k:=1) (c:=Il f.longs) (d:=.list (f.longs.map PyData.int)) rfl rfl (aO _),BO (ρ:=wE sc k t f qs us (.tup [Rl f.rows,Lo f,F0 qs us]) (Il (AC f qs us)) o8 o9) (j:=6) (xs:=[Rl f.rows,Lo f,F0 qs us]) (k:=2) (c:=F0 qs us) (d:=.tuple [.list (qs.map Po),.list (us.map PyData.int)]) rfl rfl BN⟩
  ·exact⟨Lo f,Fp qs us,rfl,rfl,rfl⟩
 generalize AC f qs us=cs at *;have r:bC (pl.pg.ct (n + 6)) ea1 (wE sc k t f qs us x6 (Il cs) o8 o9)=some (.nx,wE sc k t f qs us (H1 f qs us) (Il cs) o8 (some (Il cs))):=ag (z:=Il cs) (ρ2:=wE sc k t f qs us (H1 f qs us) (Il cs) o8 o9) (ah (rs:=[.val (Rl f.rows),.val (Lo f),.val (Fp qs us)]) (ρ1:=wE sc k t f qs us (H1 f qs us) (Il cs) o8 o9) (ρ2:=wE sc k t f qs us (H1 f qs us) (Il cs) o8 o9) (ρ3:=wE sc k t f qs us (H1 f qs us) (Il cs) o8 o9) (aa (aN (x:=.rf 6) (ρ1:=wE sc k t f qs us x6 (Il cs) o8 o9) (by rcases m with rfl | rfl<;>rfl) rfl rfl s) (aa (aN (x:=.rf 6) (ρ1:=wE sc k t f qs us (.tup [Rl f.rows,h,b]) (Il cs) o8 o9) rfl rfl rfl w) (aa (aN (x:=.rf 6) (ρ1:=wE sc k t f qs us (.tup [Rl f.rows,Lo f,b]) (Il cs) o8 o9) rfl rfl rfl y) af))) rfl g rfl) rfl rfl rfl;have v:bf (pl.pg.ct (n + 6)) eal (wE sc k t f qs us (H1 f qs us) (Il cs) o8 (some (Il cs)))=some (false,wE sc k t f qs us (H1 f qs us) (Il cs) o8 (some (Il cs))):=dz (Bd (k:=true) (xy (xx (rs:=[.rf 9,.rf 7]) (ρ1:=wE sc k t f qs us (H1 f qs us) (Il cs) o8 (some (Il cs))) rfl (yq (aO cs) (aO cs)) l rfl))) (ao (aq (dx:=Hd f qs us) (dy:=Hd f qs us) rfl rfl rfl rfl E3));have p:bC (pl.pg.ct (n + 6)) (.app 9 (.int 0)) (wE sc k t f qs us (H1 f qs us) (Il cs) o8 (some (Il cs)))=some (.nx,wE sc k t f qs us (H1 f qs us) (Il cs) o8 (some (.lst (cs.map It++[It 0])))):=bP rfl rfl rfl rfl (by rw[aab];omega) rfl;exact⟨_,ab r (ab (s_ifF v rfl) (ab p rfl))⟩
abbrev lB:Ss:=match F_law.body with | .cons (.fr _ _ b) _=>b | _=>.nil
theorem uS{m:Nat}{sc k:OD}{a b c:Int}{rs:List R}{o4 o5 o6 o7 o8 o9:Option OD}(o:rs.length<=60)(L:Nb rs)(N:Jb rs.length rs)(ht:TpOk b c m)(hm:m<=50000) :
  ∃w,aK (pl.pg.ct 7) (match lB with | .cons _ (.cons _ r)=>r | _=>.nil) [some sc,some k,some (Tp a b c),some (Rs rs),o4,o5,o6,o7,o8,o9]=some (.nx,w)/\∃p1 p2 P p4 p5 p6 p7 p8 B,w=[some sc,p1,p2,P,p4,p5,p6,p7,p8,B]:=by
 obtain⟨qs,g,p,v,s,y,S,Q,J,hu,l,u⟩:=ER (n:=4) (f:=⟨rs,[],0,0⟩) (a:=a) L o ht (by omega);obtain⟨G,j,h,i,A,H,t2⟩:=BC (n:=2) (a:=p) (qs:=qs) (r0:=0) (r1:=0) (λG=>⟨Q.ok,Q.inc⟩) (by omega) o N S (by omega);obtain⟨f,q⟩:∃f:Cf,f=⟨rs,G,0,0⟩:=⟨_,rfl⟩
 have F:Fok f:=by subst q;exact⟨L,N,H⟩
 have D:Qok f qs:=by subst q;exact⟨Q.ok,Q.inc⟩
 have U:Uok f qs g:=by subst q;exact⟨J,hu,u⟩
 have fr:f.rows=rs:=by rw[q]
 have W:f.longs=G:=by rw[q]
 have y:pl.pg.call 7 23 [Tp a b c,Rl rs]=some (Fp qs g,[Tp p v s,Rl rs]):=y;rw[<- fr]at y A o ⊢;rw[<- W]at A;have O:=xY (n:=3) F D U D.bl l o;obtain⟨B,l1⟩:=lI (n:=1) (sc:=sc) (k:=k) (t:=Tp j h i) (x6:=H0 f qs g) (o8:=some (It 0)) (o9:=o9) (.inl rfl) F D U l o;obtain⟨q9,l2⟩:=lI (n:=1) (sc:=sc) (k:=k) (t:=Tp j h i) (x6:=H1 f qs g) (o8:=some (It 1)) (o9:=B) (.inr rfl) F D U l o;generalize AC f qs g=cs at *;have I:(pl.pg.ct 7).call=pl.pg.call 7:=rfl;rw[<- I]at y;rw[show 2 + 5=7 from rfl,<- I]at A;rw[show 3 + 4=7 from rfl,<- I]at O;have s1:bC (pl.pg.ct 7) ebw [some sc,some k,some (Tp a b c),some (Rs f.rows),o4,o5,o6,o7,o8,o9]=some (.nx,[some sc,some k,some (Tp p v s),some (Rl f.rows),some (Fp qs g),o5,o6,o7,o8,o9]):=by have zr:frz1 [some sc,some k,none,some (Rs f.rows),o4,o5,o6,o7,o8,o9] (.rf 3)=some (.list (f.rows.map R.d),[some sc,some k,none,some (Rl f.rows),o4,o5,o6,o7,o8,o9]):=cM rfl uR rfl;refine ag (x:=.val (Fp qs g)) (z:=Fp qs g) (ρ1:=[some sc,some k,some (Tp p v s),some (Rl f.rows),o4,o5,o6,o7,o8,o9]) (ρ2:=[some sc,some k,some (Tp p v s),some (Rl f.rows),o4,o5,o6,o7,o8,o9]) (ah (rs:=[.rf 2,.rf 3]) (ρ1:=[some sc,some k,some (Tp a b c),some (Rs f.rows),o4,o5,o6,o7,o8,o9]) (ρ2:=[some sc,some k,none,some (Rl f.rows),o4,o5,o6,o7,o8,o9]) rfl ?_ y rfl) rfl rfl rfl;show bB [true,false] _ [.rf 2,.rf 3]=_;have zm:mv1 [some sc,some k,some (Tp a b c),some (Rs f.rows),o4,o5,o6,o7,o8,o9] (.rf 2)=some (Tp a b c,[some sc,some k,none,some (Rs f.rows),o4,o5,o6,o7,o8,o9]):=rfl;simp only[bB,zm,zr]
 have M:bC (pl.pg.ct 7) ebh [some sc,some k,some (Tp p v s),some (Rl f.rows),some (Fp qs g),o5,o6,o7,o8,o9]=some (.nx,[some sc,some k,some (Tp j h i),some (Rl f.rows),some (Fp qs g),some (Lo f),o6,o7,o8,o9]):=ag (x:=.val (Lo f)) (z:=Lo f) (ρ2:=[some sc,some k,some (Tp j h i),some (Rl f.rows),some (Fp qs g),o5,o6,o7,o8,o9]) (ah (rs:=[.rf 2,.val (Rl f.rows),.val (Pq qs)]) (ρ3:=[some sc,some k,some (Tp j h i),some (Rl f.rows),some (Fp qs g),o5,o6,o7,o8,o9]) rfl rfl A rfl) rfl rfl rfl;generalize hρ:[some sc,some k,some (Tp j h i),some (Rl f.rows),some (Fp qs g),some (Lo f),o6,o7,o8,o9]=ρ at M;have Z:bC (pl.pg.ct 7) eag ρ=some (.nx,[some sc,some k,some (Tp j h i),some (Rl f.rows),some (Fp qs g),some (Lo f),some (H0 f qs g),o7,o8,o9]):=by
  have w1:ev (pl.pg.ct 7) (.bnw .list (.nm 3)) ρ=some (.val (Rs f.rows),ρ):=by have:=gD (C:=pl.pg.ct 7) (e:=.nm 3) (ρ:=ρ) (ρ1:=ρ) (x:=.val (Rl f.rows)) (ds:=f.rows.map R.d) (by rw[<- hρ];rfl) rfl;rw[yJ]at this;exact this
  have X:ev (pl.pg.ct 7) (.bnw .list (.nm 5)) ρ=some (.val (Il f.longs),ρ):=by have:=gD (C:=pl.pg.ct 7) (e:=.nm 5) (ρ:=ρ) (ρ1:=ρ) (x:=.val (Lo f)) (ds:=f.longs.map PyData.int) (by rw[<- hρ];rfl) rfl;rw[cx]at this;exact this
  have T:ev (pl.pg.ct 7) Ih ρ=some (.val (.lst ((qs.map Po).map OD.fz)),ρ):=gD (x:=.val (Pq qs)) (by rw[<- hρ];rfl) rfl;have Y:ev (pl.pg.ct 7) Ig ρ=some (.val (Il g),ρ):=by have:=gD (C:=pl.pg.ct 7) (e:=.ix (.nm 4) (.int 1)) (ρ:=ρ) (ρ1:=ρ) (x:=.val (Dl g)) (ds:=g.map PyData.int) (by rw[<- hρ];rfl) rfl;rw[cx]at this;exact this
  have w5:ev (pl.pg.ct 7) (.tup Iw) ρ=some (.val (F0 qs g),ρ):=dW (rs:=[.val (.lst ((qs.map Po).map OD.fz)),.val (Il g)]) (zs:=[.lst ((qs.map Po).map OD.fz),Il g]) (aa T (aa Y af)) rfl rfl rfl;refine ag (x:=.val (H0 f qs g)) (z:=H0 f qs g) (ρ1:=ρ) (ρ2:=ρ) (dW (rs:=[.val (Rs f.rows),.val (Il f.longs),.val (F0 qs g)]) (zs:=[Rs f.rows,Il f.longs,F0 qs g]) (aa w1 (aa X (aa w5 af))) rfl rfl rfl) rfl (by rw[<- hρ];rfl) (by rw[<- hρ];rfl)
 have s4:bC (pl.pg.ct 7) ebn [some sc,some k,some (Tp j h i),some (Rl f.rows),some (Fp qs g),some (Lo f),some (H0 f qs g),o7,o8,o9]=some (.nx,wE sc k (Tp j h i) f qs g (H0 f qs g) (Il cs) o8 o9):=ag (x:=.val (Il cs)) (z:=Il cs) (ρ2:=[some sc,some k,some (Tp j h i),some (Rl f.rows),some (Fp qs g),some (Lo f),some (H0 f qs g),o7,o8,o9]) (ah (rs:=[.val (Rl f.rows),.val (Lo f),.val (Fp qs g)]) (ρ3:=[some sc,some k,some (Tp j h i),some (Rl f.rows),some (Fp qs g),some (Lo f),some (H0 f qs g),o7,o8,o9]) rfl rfl O rfl) rfl rfl rfl;have s5:bC (pl.pg.ct 7) (.fr (.nm 8) (.rg1 (.int 2)) bI) (wE sc k (Tp j h i) f qs g (H0 f qs g) (Il cs) o8 o9)=some (.nx,wE sc k (Tp j h i) f qs g (H1 f qs g) (Il cs) (some (It 1)) q9):=bR (ds:=[.int 0,.int 1]) rfl (bs (bs (x:=wE sc k (Tp j h i) f qs g (H0 f qs g) (Il cs) (some (It 0)) o9) rfl l1) (bs (bs (x:=wE sc k (Tp j h i) f qs g (H1 f qs g) (Il cs) (some (It 1)) B) rfl l2) rfl));exact⟨_,ab s1 (ab M (ab Z (ab s4 (ab s5 rfl)))),_,_,_,_,_,_,_,_,_,rfl⟩
theorem empty:pl.pg.call 7 13 [.fz (.list []),.fz (.list []),.fz (.tuple [.list [],.list []])]=some (Il [],[.fz (.list []),.fz (.list []),.fz (.tuple [.list [],.list []])]):=uM (n:=1) (f:=⟨[],[],0,0⟩) (qs:=[]) (us:=[]) ⟨λr h=>absurd h aaq,λr h=>absurd h aaq,λa h=>absurd h aaq⟩ ⟨λq h=>absurd h aaq,List.Pairwise.nil⟩ ⟨rfl,λq h=>absurd h aaq,λq h=>absurd h aaq⟩ rfl (aaH _) (aaH _)
theorem pure(ns:List Int)(W:ns.length<=63):∃ys,pl.pg.call 8 EH [.fz (.list (ns.map PyData.int))]=some (.fz (.bool true),ys):=by
 obtain⟨sc,y⟩:∃sc:OD,sc=.fz (.list (ns.map PyData.int)):=⟨_,rfl⟩
 have I:∀(i:Nat) (B g f o4 o5 o6 o7 o8 o9:Option OD),i<=8->∃c,((bc (.nm 1) (.fz (.int i)) [some sc,B,g,f,o4,o5,o6,o7,o8,o9]).bind λρ1=>aK (pl.pg.ct 7) lB ρ1)=some (.nx,c)/\∃o p j r s l u q v,c=[some sc,o,p,j,r,s,l,u,q,v]:=by intro i B g f o4 o5 o6 o7 o8 o9 Z;obtain⟨a,b,S,t⟩:=Bg (n:=5) (ns:=ns) Z;obtain⟨rs,L,Q,P,N,O,J,U⟩:=Bh (n:=4) (a:=a) t (aaH _);have M:(pl.pg.ct 7).call=pl.pg.call 7:=rfl;rw[show 5 + 2=7 from rfl,<- M,<- y]at S;rw[show 4 + 3=7 from rfl,<- M]at N;obtain⟨c,T,o,p,j,r,s,l,u,q,v,rfl⟩:=uS (sc:=sc) (k:=It i) (a:=L) (o4:=o4) (o5:=o5) (o6:=o6) (o7:=o7) (o8:=o8) (o9:=o9) O J.1 J.2 U (by decide);have X:bC (pl.pg.ct 7) ebv [some sc,some (It i),g,f,o4,o5,o6,o7,o8,o9]=some (.nx,[some sc,some (It i),some (Tp a b 0),f,o4,o5,o6,o7,o8,o9]):=ag (ρ2:=[some sc,some (It i),g,f,o4,o5,o6,o7,o8,o9]) (ah (rs:=[.val sc,.val (It i)]) (ρ1:=[some sc,some (It i),g,f,o4,o5,o6,o7,o8,o9]) (ρ2:=[some sc,some (It i),g,f,o4,o5,o6,o7,o8,o9]) (ρ3:=[some sc,some (It i),g,f,o4,o5,o6,o7,o8,o9]) (by rw[y];rfl) (by rw[y];rfl) S rfl) rfl rfl rfl;have Y:bC (pl.pg.ct 7) ecr [some sc,some (It i),some (Tp a b 0),f,o4,o5,o6,o7,o8,o9]=some (.nx,[some sc,some (It i),some (Tp L Q P),some (Rs rs),o4,o5,o6,o7,o8,o9]):=ag (ρ2:=[some sc,some (It i),some (Tp L Q P),f,o4,o5,o6,o7,o8,o9]) (z:=Rs rs) (ah (ρ3:=[some sc,some (It i),some (Tp L Q P),f,o4,o5,o6,o7,o8,o9]) rfl rfl N rfl) rfl rfl rfl;exact⟨_,bs (x:=[some sc,some (It i),g,f,o4,o5,o6,o7,o8,o9]) rfl (ab X (ab Y T)),_,_,_,_,_,_,_,_,_,rfl⟩
 have H:∀(m i:Nat) (B g f o4 o5 o6 o7 o8 o9:Option OD),i + m<=9->∃c,bb (λd c=>(bc (.nm 1) (.fz d) c).bind λρ1=>aK (pl.pg.ct 7) lB ρ1) (bL i m) [some sc,B,g,f,o4,o5,o6,o7,o8,o9]=some (.nx,c)/\∃o p j r s l u q v,c=[some sc,o,p,j,r,s,l,u,q,v]:=by
  intro m;induction m with
  | zero=>intro i B g f o4 o5 o6 o7 o8 o9 _;exact⟨_,rfl,_,_,_,_,_,_,_,_,_,rfl⟩
  | succ m ih =>intro i B g f o4 o5 o6 o7 o8 o9 h;obtain⟨ρ1,N,o,p,j,r,s,l,u,q,v,rfl⟩:=I i B g f o4 o5 o6 o7 o8 o9 (by omega);obtain⟨ρ2,e2,h2⟩:=ih (i + 1) o p j r s l u q v (by omega);refine⟨ρ2,?_,h2⟩;rw[aV];exact bs N e2
 obtain⟨A,C⟩:∃A:Int,A=if (ns.length:Int) < 8 then (ns.length:Int) else 8:=⟨_,rfl⟩
 have hb:0<=A/\A<=8:=by rw[C];split<;>omega
 obtain⟨c,e,o,p,j,r,s,l,u,q,v,rfl⟩:=H (1 + A).toNat 0 none none none none none none none none none (by omega);rw[y]at e;have G:ev (pl.pg.ct 7) ebl [some (.fz (.list (ns.map PyData.int))),none,none,none,none,none,none,none,none,none]=some (.val (It A),[some (.fz (.list (ns.map PyData.int))),none,none,none,none,none,none,none,none,none]):=aG (aa rfl (aa (aG rfl rfl blen) af)) rfl (by rw[C];rfl);have F:pl.pg.call 7 13 [.fz (.list []),.fz (.list []),.fz (.tuple [.list [],.list []])]=some (Il [],[.fz (.list []),.fz (.list []),.fz (.tuple [.list [],.list []])]):=empty;have M:(pl.pg.ct 7).call=pl.pg.call 7:=rfl;rw[<- M]at F;have D:ev (pl.pg.ct 7) eap [some (.fz (.list (ns.map PyData.int))),o,p,j,r,s,l,u,q,v]=some (.val (.fz (.bool true)),[some (.fz (.list (ns.map PyData.int))),o,p,j,r,s,l,u,q,v]):=aq (dx:=.list []) (dy:=.list []) (ah (w:=Il []) (ρ3:=[some (.fz (.list (ns.map PyData.int))),o,p,j,r,s,l,u,q,v]) rfl rfl F rfl) rfl rfl rfl eq_nil;exact⟨_,ai (fn:=F_law) rfl rfl (ab (bR (eF (n:=1 + A) (ae rfl G rfl rfl rfl) rfl (by omega)) e) (ar (aj D rfl))) rfl⟩
set_option maxHeartbeats 0
def lm:Str:="law_nearpool_k28_rows_laid_into_cells"
open PySem.W in
def vi(n:Int):Value:=.int n 0
def vr(a:Addr):Value:=.ref a
def vs(x:Str)(t:Nat):Value:=.str x t
def nt(P:Params)(k:Str)(t:Nat)(v:Value):DictEntry:=⟨PyData.keyHash P k,.str k t,v⟩
def fo(d:Df)(m:Str)(t c:Nat):Obj:=⟨.type "function",none,.func (PySem.W.fnOf d.name d.qual (cH d.st) (bF d.st) (aI d.st) .none .none .none (.str m t) none (.ref c) .none),List.toArray []⟩
def cq(vs:List Value):Obj:=⟨.type "code",none,.fields (List.toArray vs),List.toArray []⟩
def cu(n q:Str)(t l a r T:Nat):Obj:=cq [vs n t,vs q (t+1),vs "/claim/cut.py" (t+2),vi l,vi a,vi 0,vi 0,vi 3,vr r,.bool true,vi 181,vr (r+1),.none,vr (r+2),vr (r+3),vr (r+4),vi T,vi l,vs "/claim/cut.py" (T+1)]
def cw(n q:Str)(t l a r T:Nat):Obj:=cq [vs n t,vs q (t+1),vs "/claim/cut.py" (t+2),vi l,vi a,vi 0,vi 0,vi 3,vr r,.bool true,vi 181,vr (r+1),.none,.none,.none,vr (r+2),vi T,vi l,vs "/claim/cut.py" (T+1)]
def dq(es:List DictEntry):Obj:=⟨.type "dict",none,.dict (List.toArray es) 0,List.toArray []⟩
def KK(P:Params):Waa:=[(3,⟨(.type "dict"),none,(.dict (List.toArray [nt P "__name__" 165 (vs lm 346),nt P "__doc__" 166 .none,nt P "__package__" 167 .none,nt P "__loader__" 168 (.builtin "__main__.__loader__#opaque"),nt P "__spec__" 169 .none,nt P "__annotations__" 170 (vr 6),nt P "__builtins__" 171 (vr 4),nt P "__file__" 173 (vs "/claim/cut.py" 172),nt P "__cached__" 174 .none,nt P "GREATEST_SMALL" 190 (.int (99) 189),nt P "is_great" 197 (vr 21),nt P "is_jump" 204 (vr 28),nt P "greats_of" 210 (vr 33),nt P "jumps_of" 216 (vr 38),nt P "falls" 223 (vr 45),nt P "STOP" 227 (.int (0) 226),nt P "SET" 229 (.int (1000) 228),nt P "SUM" 231 (.int (2000) 230),nt P "LESS" 233 (.int (3000) 232),nt P "TELL" 235 (.int (4000) 234),nt P "GREAT" 237 (.int (5000) 236),nt P "SHORT_GO" 239 (.int (6500) 238),nt P "LONG_GO" 241 (.int (7000) 240),nt P "OVER" 243 (.int (7001) 242),nt P "PAD" 245 (.int (7002) 244),nt P "POOL" 247 (.int (7100) 246),nt P "SHORT_NIL" 249 (.int (8100) 248),nt P "LONG_NIL" 251 (.int (9000) 250),nt P "SAME_PLACE" 253 (.int (5000) 252),nt P "NILS_OF_ONE" 255 (.int (200) 254),nt P "HALF_WORD" 257 (.int (10000) 256),nt P "jump_cells" 267 (vr 52),nt P "row_cells" 280 (vr 59),nt P "OVER_CELLS" 284 (.int (2) 283),nt P "WORD_CELLS" 286 (.int (2) 285),nt P "size_of" 295 (vr 66),nt P "has_over" 303 (vr 73),nt P "first_word" 312 (vr 80),nt P "placed" 318 (vr 85),nt P "pool_cells" 333 (vr 92),nt P "goals_of" 339 (vr 97),nt P "laid_cells" 345 (vr 102),nt P "_law_cell_at" 355 (vr 109),nt P "_law_tape" 364 (vr 116),nt P "_law_take" 374 (vr 123),nt P "_law_great" 383 (vr 130),nt P "_law_rows" 400 (vr 137),nt P "_law_longs" 406 (vr 142),nt P "_law_is_great" 413 (vr 149),nt P "_law_size" 422 (vr 156),nt P "_law_placed" 437 (vr 163),nt P "_law_any_plan" 443 (vr 168),nt P "_law_too_short" 461 (vr 175),nt P "_law_good_longs" 472 (vr 182),nt P "_law_cells" 497 (vr 189),nt P "_law_row_cells" 509 (vr 196),nt P "_law_same" 515 (vr 201),nt P "law" 531 (vr 208)]) 58),List.toArray []⟩),
 (20,cu "is_great" "is_great" 191 3 1 15 195),
 (21,fo iy "nearpool.rows" 187 20),
 (27,cu "is_jump" "is_jump" 198 5 1 22 202),
 (28,fo i9 "nearpool.rows" 187 27),
 (32,cw "greats_of" "greats_of" 205 7 1 29 208),
 (33,fo gj "nearpool.rows" 187 32),
 (37,cw "jumps_of" "jumps_of" 211 9 1 34 214),
 (38,fo iz "nearpool.rows" 187 37),
 (44,cu "falls" "falls" 217 11 1 39 221),
 (45,fo oy "nearpool.rows" 187 44),
 (51,cu "jump_cells" "jump_cells" 258 30 4 46 265),
 (52,fo fj "nearpool.codes" 224 51),
 (58,cu "row_cells" "row_cells" 268 36 4 53 278),
 (59,fo gk "nearpool.codes" 224 58),
 (65,cu "size_of" "size_of" 287 55 3 60 293),
 (66,fo ja "nearpool.places" 281 65),
 (72,cu "has_over" "has_over" 296 57 2 67 301),
 (73,fo iA "nearpool.places" 281 72),
 (79,cu "first_word" "first_word" 304 59 3 74 310),
 (80,fo fq "nearpool.places" 281 79),
 (84,cw "placed" "placed" 313 63 3 81 316),
 (85,fo lr "nearpool.places" 281 84),
 (91,cu "pool_cells" "pool_cells" 321 77 4 86 331),
 (92,fo fu "nearpool.laying" 319 91),
 (96,cw "goals_of" "goals_of" 334 88 3 93 337),
 (97,fo iB "nearpool.laying" 319 96),
 (101,cw "laid_cells" "laid_cells" 340 96 3 98 343),
 (102,fo fv "nearpool.laying" 319 101),
 (108,cu "_law_cell_at" "_law_cell_at" 348 107 2 103 353),
 (109,fo jc lm 346 108),
 (115,cu "_law_tape" "_law_tape" 356 109 2 110 362),
 (116,fo tW lm 346 115),
 (122,cu "_law_take" "_law_take" 365 112 2 117 372),
 (123,fo tX lm 346 122),
 (129,cu "_law_great" "_law_great" 375 121 1 124 381),
 (130,fo oz lm 346 129),
 (136,cu "_law_rows" "_law_rows" 384 125 1 131 398),
 (137,fo tY lm 346 136),
 (141,cw "_law_longs" "_law_longs" 401 141 2 138 404),
 (142,fo oA lm 346 141),
 (148,cu "_law_is_great" "_law_is_great" 407 145 1 143 411),
 (149,fo fA lm 346 148),
 (155,cu "_law_size" "_law_size" 414 147 3 150 420),
 (156,fo tZ lm 346 155),
 (162,cu "_law_placed" "_law_placed" 423 149 3 157 435),
 (163,fo iC lm 346 162),
 (167,cw "_law_any_plan" "_law_any_plan" 438 162 2 164 441),
 (168,fo iD lm 346 167),
 (174,cu "_law_too_short" "_law_too_short" 444 182 4 169 459),
 (175,fo gm lm 346 174),
 (181,cu "_law_good_longs" "_law_good_longs" 462 191 3 176 470),
 (182,fo fB lm 346 181),
 (188,cu "_law_cells" "_law_cells" 473 198 3 183 495),
 (189,fo oB lm 346 188),
 (195,cu "_law_row_cells" "_law_row_cells" 498 218 5 190 507),
 (196,fo dX lm 346 195),
 (200,cw "_law_same" "_law_same" 510 231 2 197 513),
 (201,fo t9 lm 346 200),
 (207,cu "law" "law" 516 243 1 202 529),
 (208,fo D_law lm 346 207)]
def qv:Program:=PySem.W.view PySem.Challenge.pw_nearpool_k28_rows_laid_into_cells [1,2,3,4,5,6,8,9,10,11,12,13,14,15,16,17,18,19,20,21,22,23,24,25,27,28,29,30,31,32,34,35,36,38,39,40,41,42,43,44,45,46,47,48,49,50,51,52,53]
open PySem.W PyProof.Rows in
theorem yb{p q:Program}{loose:List Str}{Xt:Shared->Bool}{b:Type}{Yf:Shared->b}{Ya:World->b}{N:Nat}{c:Bool}(e:opening p=plainProg p.main.scope.names)(i:Nat.ble 600 N=true)(f:∀s,fenceModules? p s=some s)
  (h:∀(w:World) (a:OsState),(topFrom treeTable p w N ⟨boot_heap w.params,Array.mk [],boot_drawn,boot_toks,a⟩).map (λs=>(openSeen q loose (importedModules p.main.body) Xt c s,Yf s))=some (openGood q loose,Ya w)):LeftO p q loose Xt Yf Ya N c:=λw=>by
 obtain⟨⟨j,l,d,k,a⟩,m,g⟩:=aaL.mp (boot_open e i f w);obtain⟨rfl,rfl,rfl,rfl⟩:j=boot_heap w.params/\l=Array.mk []/\d=boot_drawn/\k=boot_toks:=by simpa using g
 unfold openEnds;rw[m];exact h w a
def hk:PySem.W.Hook:=PySem.W.kHook KK [3,20,21,27,28,32,33,37,38,44,45,51,52,58,59,65,66,72,73,79,80,84,85,91,92,96,97,101,102,108,109,115,116,122,123,129,130,136,137,141,142,148,149,155,156,162,163,167,168,174,175,181,182,188,189,195,196,200,201,207,208] (λ_=>by kernel_rfl)
abbrev xt(s:Shared):Bool:=PySem.W.xlAt qv [] s && PySem.W.recOk (PySem.W.RowW.records (PySem.Challenge.rw_nearpool_k28_rows_laid_into_cells).row.toRowW) s
theorem left:PySem.W.LeftO PySem.Challenge.pw_nearpool_k28_rows_laid_into_cells qv [] xt (PySem.W.Hook.obs hk) (PySem.W.Hook.val hk) 2440:=yb (by kernel_rfl) (by rfl) (λs=>by kernel_rfl) (λw a=>by kernel_rfl)
def dd:DefRec:=⟨"law",cH D_law.st,bF D_law.st,aI D_law.st,match D_law.st with | .FunctionDef _ _ _ _ _ _ _ _ _ p=>p | _=>⟨0,0,0,0⟩⟩
theorem said:(PySem.Challenge.rw_nearpool_k28_rows_laid_into_cells).wellSaid=true:=by kernel_rfl
def uT(K:Waa):L2.Sp:=λc H Q _=>∃(a:Addr) (b:List Int),c=[.ref a]/\SqL K H a (b.map V.int)/\b.length<=63/\∀d,Q (.bl true) d
def Fj:Option (Option Value)->Bool
 | some none=>true
 | _=>false
def BW(f:Nat):Option (Option Value)->Bool
 | some (some (.ref g))=>g == f
 | _=>false
def Hm:Option (Option Value)->Bool
 | some (some (.builtin s))=>decide (s="object.__setattr__")
 | _=>false
theorem uU{o:Option (Option Value)}(h:Fj o=true):o=some none:=by
 unfold Fj at h;split at h
 ·rfl
 ·cases h
theorem kg{f:Nat}{o:Option (Option Value)}(h:BW f o=true):o=some (some (.ref f)):=by
 unfold BW at h;split at h
 ·rw[beq_iff_eq.mp h]
 ·cases h
theorem BP{o:Option (Option Value)}(h:Hm o=true):o=some (some (.builtin "object.__setattr__")):=by
 unfold Hm at h;split at h
 ·rw[Daa h]
 ·cases h
open PySem.W in
def Hn(K:Frag)(C:Addr):Bool:=plainGet K C Str.empty && (hasDictIn K C && (plainOver K C && Hm (findIn K (.ref C) "__setattr__")))
theorem uV{K:Waa}{C:Addr}(h:Hn K C=true):Cls K C:=by obtain⟨b,h⟩:=an2 h;obtain⟨c,h⟩:=an2 h;obtain⟨a,h⟩:=an2 h;exact⟨b,c,a,BP h⟩
open PySem.W in
def JQ(K:Frag)(d:Df)(f c:Nat):Kd->Bool
 | .fn=>codeIn K (.ref c) d.qual && (keepIn K (.ref f) && BW f (nsIn K mainGlobals d.name))
 | .me x=>codeIn K (.ref c) d.qual && (keepIn K (.ref f) && (Hn K (aR K x) && (BW f (findIn K (.ref (aR K x)) d.name) && isFn K (.ref f))))
 | .ini x=>codeIn K (.ref c) d.qual && (keepIn K (.ref f) && (makesIn K (aR K x) && (BW f (findIn K (.ref (aR K x)) "__init__") && (isFn K (.ref f) && (keepIn K (.ref (aR K x)) && BW (aR K x) (nsIn K mainGlobals x))))))
theorem fk{K:Waa}{h:Heap}{n:Str->Option Value}(X:K.In h)(G:h.Ns mainGlobals n){d:Df}{i:Kd}(m:Str)(t c f:Nat)(l:K.lookup f=some (fo d m t c))(q:JQ K d f c i=true)
  (b:∀us:List Value,us.length=d.ps.length->bindArgs (PySem.W.fnOf d.name d.qual (cH d.st) (bF d.st) (aI d.st) .none .none .none (.str m t) none (.ref c) .none) ⟨us,[]⟩=Pure.pure (d.ps.zip us)):yG K n (d,i):=by
 cases i with
 | fn =>obtain⟨e,q⟩:=an2 q;obtain⟨a,g⟩:=an2 q;exact⟨f,_,jq l e a,.all b,abS X G (kg g),a⟩
 | me x =>obtain⟨e,q⟩:=an2 q;obtain⟨a,q⟩:=an2 q;obtain⟨g,q⟩:=an2 q;obtain⟨j,k⟩:=an2 q;exact⟨f,_,jq l e a,.all b,uV g,kg j,k,a⟩
 | ini x =>obtain⟨e,q⟩:=an2 q;obtain⟨a,q⟩:=an2 q;obtain⟨g,q⟩:=an2 q;obtain⟨j,q⟩:=an2 q;obtain⟨k,q⟩:=an2 q;obtain⟨p,o⟩:=an2 q;exact⟨f,_,jq l e a,.all b,⟨g,kg j,k,p⟩,abS X G (kg o)⟩
theorem fm{a:Type}{P:a->Prop}{x:a}{l:List a}(h:P x)(k:∀y∈l,P y):∀y∈x::l,P y:=List.forall_mem_cons.mpr ⟨h,k⟩
theorem fC{K:Waa}{h:Heap}{a:Str->Option Value}(X:K.In h)(G:h.Ns mainGlobals a){x:Str}{k:Int}(t:Nat)(e:PySem.W.nsIn K mainGlobals x=some (some (.int k t))):∃v u,a x=some u/\RelV v u/\∀S H,Fz K S H v (.int k):=⟨.int k,_,abS X G e,⟨_,rfl⟩,λ_ _=>.int _⟩
theorem b1{a:Type}{P:List a->Prop}(h:∀a0,P [a0])(l:List a)(e:l.length=1):P l:=by
 match l,e with
 | [a0],_=>exact h a0
theorem b2{b:Type}{P:List b->Prop}(h:∀a0 a,P [a0,a])(l:List b)(e:l.length=2):P l:=by
 match l,e with
 | [a0,a],_=>exact h a0 a
theorem b3{c:Type}{P:List c->Prop}(h:∀a0 a b,P [a0,a,b])(l:List c)(e:l.length=3):P l:=by
 match l,e with
 | [a0,a,b],_=>exact h a0 a b
theorem b4{d:Type}{P:List d->Prop}(h:∀a0 a b c,P [a0,a,b,c])(l:List d)(e:l.length=4):P l:=by
 match l,e with
 | [a0,a,b,c],_=>exact h a0 a b c
theorem b5{f:Type}{P:List f->Prop}(h:∀a0 a b d c,P [a0,a,b,d,c])(l:List f)(e:l.length=5):P l:=by
 match l,e with
 | [a0,a,b,d,c],_=>exact h a0 a b d c
theorem gives {w:World} {b:Str->Option Value} {g:Addr} {h:Heap} (X:(KK w.params).In h) (G:h.Ns mainGlobals b) (c:b "law"=some (.ref g)) :
  ∃f:FuncData,(∀(s:Shared) (v:Value),BindsTo s f ⟨[v],[]⟩ [("_law_script",v)])/\∀a:Heap,(KK w.params).In a->a.Ns mainGlobals b->FnOk (PySem.Challenge.rw_nearpool_k28_rows_laid_into_cells).prog w (KK w.params) b a CX0 9 g f ["_law_script"] (uT (KK w.params)):=by
 have M:Md (KK w.params) b pl.tb pl.pg pl.D:=Pl.md EI (fm (fk X G "nearpool.rows" 187 20 21 (by kernel_rfl) (by kernel_rfl) (b1 λ_=>rfl))
  (fm (fk X G "nearpool.rows" 187 27 28 (by kernel_rfl) (by kernel_rfl) (b1 λ_=>rfl))
  (fm (fk X G "nearpool.rows" 187 32 33 (by kernel_rfl) (by kernel_rfl) (b1 λ_=>rfl))
  (fm (fk X G "nearpool.rows" 187 37 38 (by kernel_rfl) (by kernel_rfl) (b1 λ_=>rfl))
  (fm (fk X G "nearpool.rows" 187 44 45 (by kernel_rfl) (by kernel_rfl) (b1 λ_=>rfl))
  (fm (fk X G "nearpool.codes" 224 51 52 (by kernel_rfl) (by kernel_rfl) (b4 λ_ _ _ _=>rfl))
  (fm (fk X G "nearpool.codes" 224 58 59 (by kernel_rfl) (by kernel_rfl) (b4 λ_ _ _ _=>rfl))
  (fm (fk X G "nearpool.places" 281 65 66 (by kernel_rfl) (by kernel_rfl) (b3 λ_ _ _=>rfl))
  (fm (fk X G "nearpool.places" 281 72 73 (by kernel_rfl) (by kernel_rfl) (b2 λ_ _=>rfl))
  (fm (fk X G "nearpool.places" 281 79 80 (by kernel_rfl) (by kernel_rfl) (b3 λ_ _ _=>rfl))
  (fm (fk X G "nearpool.places" 281 84 85 (by kernel_rfl) (by kernel_rfl) (b3 λ_ _ _=>rfl))
  (fm (fk X G "nearpool.laying" 319 91 92 (by kernel_rfl) (by kernel_rfl) (b4 λ_ _ _ _=>rfl))
  (fm (fk X G "nearpool.laying" 319 96 97 (by kernel_rfl) (by kernel_rfl) (b3 λ_ _ _=>rfl))
  (fm (fk X G "nearpool.laying" 319 101 102 (by kernel_rfl) (by kernel_rfl) (b3 λ_ _ _=>rfl))
  (fm (fk X G lm 346 108 109 (by kernel_rfl) (by kernel_rfl) (b2 λ_ _=>rfl))
  (fm (fk X G lm 346 115 116 (by kernel_rfl) (by kernel_rfl) (b2 λ_ _=>rfl))
  (fm (fk X G lm 346 122 123 (by kernel_rfl) (by kernel_rfl) (b2 λ_ _=>rfl))
  (fm (fk X G lm 346 129 130 (by kernel_rfl) (by kernel_rfl) (b1 λ_=>rfl))
  (fm (fk X G lm 346 136 137 (by kernel_rfl) (by kernel_rfl) (b1 λ_=>rfl))
  (fm (fk X G lm 346 141 142 (by kernel_rfl) (by kernel_rfl) (b2 λ_ _=>rfl))
  (fm (fk X G lm 346 148 149 (by kernel_rfl) (by kernel_rfl) (b1 λ_=>rfl))
  (fm (fk X G lm 346 155 156 (by kernel_rfl) (by kernel_rfl) (b3 λ_ _ _=>rfl))
  (fm (fk X G lm 346 162 163 (by kernel_rfl) (by kernel_rfl) (b3 λ_ _ _=>rfl))
  (fm (fk X G lm 346 167 168 (by kernel_rfl) (by kernel_rfl) (b2 λ_ _=>rfl))
  (fm (fk X G lm 346 174 175 (by kernel_rfl) (by kernel_rfl) (b4 λ_ _ _ _=>rfl))
  (fm (fk X G lm 346 181 182 (by kernel_rfl) (by kernel_rfl) (b3 λ_ _ _=>rfl))
  (fm (fk X G lm 346 188 189 (by kernel_rfl) (by kernel_rfl) (b3 λ_ _ _=>rfl))
  (fm (fk X G lm 346 195 196 (by kernel_rfl) (by kernel_rfl) (b5 λ_ _ _ _ _=>rfl))
  (fm (fk X G lm 346 200 201 (by kernel_rfl) (by kernel_rfl) (b2 λ_ _=>rfl))
  (fm (fk X G lm 346 207 208 (by kernel_rfl) (by kernel_rfl) (b1 λ_=>rfl))
  (λ_ h=>by cases h))))))))))))))))))))))))))))))) (fm (fC X G 236 (by kernel_rfl))
  (fm (fC X G 189 (by kernel_rfl))
  (fm (fC X G 256 (by kernel_rfl))
  (fm (fC X G 232 (by kernel_rfl))
  (fm (fC X G 240 (by kernel_rfl))
  (fm (fC X G 250 (by kernel_rfl))
  (fm (fC X G 254 (by kernel_rfl))
  (fm (fC X G 242 (by kernel_rfl))
  (fm (fC X G 283 (by kernel_rfl))
  (fm (fC X G 244 (by kernel_rfl))
  (fm (fC X G 246 (by kernel_rfl))
  (fm (fC X G 252 (by kernel_rfl))
  (fm (fC X G 228 (by kernel_rfl))
  (fm (fC X G 238 (by kernel_rfl))
  (fm (fC X G 248 (by kernel_rfl))
  (fm (fC X G 226 (by kernel_rfl))
  (fm (fC X G 230 (by kernel_rfl))
  (fm (fC X G 234 (by kernel_rfl))
  (fm (fC X G 285 (by kernel_rfl))
  (λ_ h=>by cases h))))))))))))))))))))
  (λx k=>PySem.W.mg_none_of X G (uU (abf.mp (by kernel_rfl:(pl.nog.all λx=>Fj (PySem.W.nsIn (KK w.params) mainGlobals x))=true) x k)))
  (λz i=>have q:=an2 (abf.mp (by kernel_rfl:(pl.fld.all λz=>Hn (KK w.params) (aR (KK w.params) z.1) && Fj (PySem.W.findIn (KK w.params) (.ref (aR (KK w.params) z.1)) z.2))=true) z i);⟨uV q.1,uU q.2⟩)
 have e:=c.symm.trans (abS X G (by kernel_rfl:PySem.W.nsIn (KK w.params) mainGlobals "law"=some (some (.ref 208))));cases e;have F:Fun (KK w.params) D_law.name D_law.qual D_law.st 208 _:=jq (by kernel_rfl:(KK w.params).lookup 208=some (fo D_law lm 346 207)) (by kernel_rfl) (by kernel_rfl);exact⟨_,λs v=>.of_eq rfl,λa _ _=>M.law (n:=8) (j:=EH) (d:=D_law) rfl F pure⟩
theorem walk{l:PySem.W.OpenLaw}{q:Program}{loose:List Str}{XP:(Str->Option Value)->Heap->Prop}{YP:World->Heap->Prop}{d:DefRec}{K:Params->Waa}(m:l.most=some 63)(e:d.params.defaults=[])
  (p:∀(w:World) (h:Heap),YP w h->(K w.params).In h)
  (F:∀(w:World) (c:Str->Option Value) (i:Addr) (h:Heap),(K w.params).In h->h.Ns mainGlobals c->c d.name=some (.ref i) ->
   ∃g:FuncData,(∀(s:Shared) (u:Value),BindsTo s g ⟨[u],[]⟩ [("_law_script",u)])/\∀b:Heap,(K w.params).In b->b.Ns mainGlobals c->FnOk l.prog w (K w.params) c b CX0 9 i g ["_law_script"] (uT (K w.params))) :
  PySem.W.WalkO q loose XP YP l.row.toRowW d [] (λf vs=>PySem.call f vs) :=
 L2.walk_of (n:=63) (k:=9) (x:="_law_script") (CX:=λ_=>CX0) (sp:=λw=>uT (K w.params)) m (by decide) e ⟨rfl,by decide,by decide,rfl⟩ p F (λ_ _ a r j _ o=>⟨a,r,rfl,o,j,λ_=>rfl⟩) λ_ _ _ _ _ z=>z
end Np
open PySem PySem.W PyProof.Rows
set_option maxRecDepth 100000 in
set_option maxHeartbeats 0 in
theorem PySem.Challenge.cw_nearpool_k28_rows_laid_into_cells_holds : PySem.Challenge.rw_nearpool_k28_rows_laid_into_cells.Holds := by
 w_on
 refine holds_law Np.said λa=>?_;refine holds_open (q:=Np.qv) (loose:=[]) (Xt:=Np.xt) (XP:=XL Np.qv []) (Yf:=Hook.obs Np.hk) (Ya:=Hook.val Np.hk) (YP:=Hook.says Np.hk) (N:=2440) (d:=Np.dd) (kwd:=[]) Np.left (Hook.of Np.hk) (Hook.keeps Np.hk) (λs e=>xl_of s (abp.mp e).1) XL.keeps (by kernel_rfl) (by kernel_rfl) (by kernel_rfl) (λs e=>recFacts_of (abp.mp e).2) (by rfl) a (by kernel_rfl) ⟨rfl,rfl,rfl,rfl,rfl,by decide +kernel⟩ ?hw ?hc
 case hw=>w_witness2
 case hc=>exact Np.walk (l:=PySem.Challenge.rw_nearpool_k28_rows_laid_into_cells) (K:=Np.KK) (d:=Np.dd) rfl (by kernel_rfl) (λw h Y=>kIn_of Y) (λw g f h c G b=>Np.gives c G b)
