import PyProof.Rows.All
import Wide.All
import OpenK.AllK
import Wide.FinOn
import Lean
import PyProof.EqAt
import PyProof.EqKinds
import PyProof.TupleCall
import PyProof.Draws
import PyProof.ZipIter
import PyProof.SeqI3
import PyProof.CallStr
import PyProof.StrHeap
import PyProof.ReprBulk
import PyProof.Rows.ListRangeD
import PyProof.EnumFor
import PyProof.EnumStmt
import PyProof.EnumMake
import PyProof.AutoListH
import PyProof.RangeFor
import PyProof.Rows.Range3
import KE.KUnpack
import PyProof.ReprRoads
import PyProof.ReprLen
import PyProof.FitsInt
import PyProof.DictCompW
import KE.KDictSum
import PyProof.NeKinds
import PyProof.SumWalk
import PySem.Challenge.RW_nearpool_k51_whole_no_run_into_a_pool
set_option compiler.extract_closed false
set_option genSizeOf false
set_option Elab.async false
set_option linter.all false
set_option maxRecDepth 100000
noncomputable section
def Daa:=@of_decide_eq_true
def Dab:=@decide_eq_false
def Dac:=@decide_eq_true
def Dad:=@of_decide_eq_false
abbrev Waa:=PySem.W.Frag
def aaa:=@List.length_map
def aab:=@List.mem_cons
def aac:=@List.append_assoc
def aad:=@Bool.false_ne_true
def aae:=@List.mem_append_right
def aaf:=@List.length_append
def aag:=@Nat.le_refl
def aah:=@List.mem_append_left
def aai:=@List.getElem?_eq_some_iff
def aaj:=@List.mem_cons_self
def aak:=@List.getElem?_eq_getElem
def aal:=@List.mem_cons_of_mem
def aam:=@List.mem_append
def aan:=@List.append_nil
def aao:=@List.length_cons
def aap:=@List.map_cons
def aaq:=@List.getElem?_map
def aar:=@List.not_mem_nil
def aas:=@Nat.ne_of_lt
def aat:=@Nat.le_trans
def aau:=@List.map_append
def aav:=@List.perm_middle
def aaw:=@List.size_toArray
def aax:=@List.mem_map
def aay:=@Nat.lt_of_lt_of_le
def aaz:=@List.mem_of_getElem?
def aaA:=@List.nodup_append
def aaB:=@Nat.zero_le
def aaC:=@Bool.and_eq_true
def aaD:=@List.nil_append
def aaE:=@Option.some.inj
def aaF:=@List.nodup_cons
def aaG:=@List.set_cons_succ
def aaH:=@List.mem_singleton
def aaI:=@List.length_singleton
def aaJ:=@List.cons_append
def aaK:=@Option.bind_eq_some_iff
def aaL:=@List.map_nil
def aaM:=@Option.map_eq_some_iff
def aaN:=@Ne.symm
def aaO:=@List.replicate_succ
def aaP:=@List.getD_eq_getElem?_getD
def aaQ:=@List.map_map
def aaR:=@Nat.le_of_lt
def aaS:=@List.getElem?_append_right
def aaT:=@Int.toNat_natCast
def aaU:=@List.find?_cons
def aaV:=@Nat.zero_add
def aaW:=@List.length_take
def aaX:=@List.getElem?_append_left
def aaY:=@List.any_cons
def aaZ:=@List.lookup_cons
def aa0:=@List.perm_append_comm
def aa1:=@List.nodup_nil
def aa2:=@Bool.and_eq_true_iff
def aa3:=@Nat.lt_irrefl
def aa4:=@List.mem_filter
def aa5:=@List.getElem?_set_self
def aa6:=@List.getElem?_set_ne
def aa7:=@Nat.ne_of_gt
def aa8:=@List.of_mem_zip
def aa9:=@PySem.mem_of_lookup
def aba:=@List.Perm.append_left
def abb:=@List.pairwise_cons
def abc:=@List.findIdx?_cons
def abd:=@List.any_eq_true
def abe:=@List.getElem?_eq_none
def abf:=@Nat.sub_self
def abg:=@List.getElem?_eq_none_iff
def abh:=@PyProof.Rows.callWith_type1
def abi:=@Option.isSome_iff_exists
def abj:=@List.length_set
def abk:=@List.flatten_cons
def abl:=@Nat.le_succ
def abm:=@Nat.lt_succ_self
def abn:=@Nat.le_add_right
def abo:=@List.filter_cons
def abp:=@Bool.or_eq_true
def abq:=@List.all_eq_true
def abr:=@List.getElem?_cons_succ
def abt:=@Sum.inl.inj
def abu:=@List.length_drop
def abv:=@List.zip_cons_cons
def abw:=@List.map_take
def abx:=@Int.emod_nonneg
def aby:=@Int.emod_lt_of_pos
def abz:=@Bool.true_and
def abA:=@List.pairwise_append
def abB:=@List.length_filter_le
def abC:=@List.set_comm
def abD:=@Bool.eq_iff_iff
def abE:=@List.length_replicate
def abF:=@Bool.or_false
def abG:=@Nat.lt_succ_of_lt
def abH:=@Nat.lt_trans
def abI:=@List.length_nil
def abJ:=@Nat.min_eq_left
def abK:=@List.getElem?_zip_eq_some
def abL:=@List.append_of_mem
def abM:=@List.ext_getElem?
def abN:=@List.drop_eq_getElem_cons
def abO:=@Bool.not_eq_true'
def abP:=@Bool.or_eq_true_iff
def abQ:=@Int.le_refl
def abR:=@Int.zero_add
def abS:=@List.countP_cons
def abT:=@List.countP_le_length
def abU:=@List.length_zip
def abV:=@PySem.W.mg_of
def abW:=@List.filterMap_cons
def abX:=@Array.length_toList
def abY:=@Bool.false_and
def abZ:=@List.forIn_cons
def ab0:=@Nat.add_sub_cancel_left
def ab1:=@Bool.false_or
def ab2:=@Option.isSome_map
def ab3:=@PySem.F.slot_dict_get
def ab4:=@List.take_of_length_le
def ab5:=@Int.le_trans
def ab6:=@List.set_cons_zero
def ab7:=@List.perm_append_comm_assoc
def ab8:=@Classical.axiomOfChoice
def ab9:=@Bool.or_eq_false_iff
def aca:=@List.drop_length
def acb:=@Nat.add_le_add_left
def acd:=@List.filter_cons_of_pos
def ace:=@List.filter_cons_of_neg
def acf:=@List.getElem?_range
def acg:=@List.length_pos_of_mem
def ach:=@List.take_append_drop
def aci:=@Bool.false_eq_true
def acj:=@Bool.or_true
def ack:=@PyProof.noPylong_small
def acl:=@PySem.W.cellsFrom_some
def acm:=@List.getElem?_replicate
def acn:=@Nat.add_left_cancel
def aco:=@PySem.F.entry_dict_get
def acp:=@PySem.F.args_dict_get_2
def acq:=@List.Perm.append_right
def acr:=@List.zip_eq_zipWith
def acs:=@List.mem_of_mem_take
def acu:=@List.map_congr_left
def acv:=@List.zipWith_cons_cons
def acw:=@PySem.F.plainAttrs_list
def acx:=@List.findIdx?_eq_some_iff_getElem
def acy:=@List.findIdx?_eq_none_iff
def acz:=@Nat.add_le_add_right
def acA:=@Nat.le_of_ble_eq_true
def acB:=@Nat.mul_le_mul_left
def acC:=@List.getElem?_concat_length
def acD:=@List.countP_eq_length_filter
def acE:=@List.countP_eq_length
namespace L2
open PySem PySem.Spec PyProof.Rows
section
abbrev Key:=Sum Int Str
def keyIs:Key->Value->Bool
 |.inl k,v=>Value.isInt k v
 |.inr x,v=>Value.isStrOf x v
def keyH(w:World):Key->Int
 |.inl k=>hashInt k
 |.inr x=>hashStr w x
theorem aT:∀{k:Key}{v:Value},keyIs k v=true->(∃i t,k=Sum.inl i/\v=Value.int i t)\/(∃x t,k=Sum.inr x/\v=Value.str x t)
 |.inl i,v,h=>by obtain⟨t,e⟩:=Value.isInt_shape h;exact .inl ⟨i,t,rfl,e⟩
 |.inr x,v,h=>by obtain⟨t,e⟩:=Value.isStrOf_shape h;exact .inr ⟨x,t,rfl,e⟩
theorem pL(i:Int)(t:Tok):keyIs (.inl i) (.int i t)=true:=by simp[keyIs,Value.isInt]
theorem pM(x:Str)(t:Tok):keyIs (.inr x) (.str x t)=true:=by simp[keyIs,Value.isStrOf]
theorem zD(a b:Int):decide ((Sum.inl a:Key)=Sum.inl b)=(a==b):=by
 by_cases e:a=b
 ·subst e;simp
 ·have h:¬ (Sum.inl a:Key)=Sum.inl b:=λq=>e (abt q);rw[Dab h];exact(beq_eq_false_iff_ne.mpr e).symm
theorem zE(a b:Str):decide ((Sum.inr a:Key)=Sum.inr b)=decide (a=b):=by
 by_cases e:a=b
 ·subst e;simp
 ·have h:¬ (Sum.inr a:Key)=Sum.inr b:=λq=>e (Sum.inr.inj q);rw[Dab h,Dab e]
theorem zF(a:Int)(b:Str):decide ((Sum.inl a:Key)=Sum.inr b)=false:=Dab (λq=>nomatch q)
theorem zG(a:Str)(b:Int):decide ((Sum.inr a:Key)=Sum.inl b)=false:=Dab (λq=>nomatch q)
def aI(prog:Program)(w:World):PySem.KeyKind prog w Key where
 is:=keyIs
 hash:=keyH w
 inj:=λv a b f d=>by
  rcases aT f with ⟨i,t,rfl,rfl⟩|⟨x,t,rfl,rfl⟩
  ·rcases aT d with ⟨j,u,rfl,e⟩|⟨y,u,rfl,e⟩
   ·injection e with e1 _;rw[e1]
   ·exact nomatch e
  ·rcases aT d with ⟨j,u,rfl,e⟩|⟨y,u,rfl,e⟩
   ·exact nomatch e
   ·injection e with e1 _;rw[e1]
 byValue:=λk v h=>by rcases aT h with ⟨i,t,rfl,rfl⟩|⟨x,t,rfl,rfl⟩<;>rfl
 pyHash:=λc h=>by
  rcases aT c with ⟨i,t,rfl,rfl⟩|⟨x,t,rfl,rfl⟩
  ·exact wpAny_pyHash_int h
  ·exact wpAny_pyHash_str h
 eqBool:=λg c h=>by
  rcases aT g with ⟨i,t,rfl,rfl⟩|⟨x,t,rfl,rfl⟩
  ·rcases aT c with ⟨j,u,rfl,rfl⟩|⟨y,u,rfl,rfl⟩
   ·rw[zD]at h;exact wpAny_eqBool_int h
   ·rw[zF]at h;exact SeqAt.EqAt.int_str i t y u _ _ _ _ h
  ·rcases aT c with ⟨j,u,rfl,rfl⟩|⟨y,u,rfl,rfl⟩
   ·rw[zG]at h;exact SeqAt.EqAt.str_int x t j u _ _ _ _ h
   ·rw[zE]at h;exact wpAny_eqBool_str h
 «strs»:=λk x t v h=>by
  rcases aT h with ⟨i,u,rfl,e⟩|⟨y,u,rfl,e⟩
  ·exact nomatch e
  ·injection e with e1 _;subst e1;cases v<;>rfl
theorem ki(prog:Program)(w:World)(i:Int)(t:Tok):(aI prog w).is (.inl i) (.int i t)=true:=pL i t
theorem mixKind_str(prog:Program)(w:World)(x:Str)(t:Tok):(aI prog w).is (.inr x) (.str x t)=true:=pM x t
end
section
inductive V where
 |non|bl (b:Bool)|int (i:Int)|str (x:Str)|byt (b:Array UInt8)|flt (b:UInt64)|ref (a:Addr)|ty (n:String)
 deriving DecidableEq
def RelV:V->Value->Prop
 |.non,u=>u=Value.none
 |.bl b,u=>u=Value.bool b
 |.int i,u=>∃t,u=Value.int i t
 |.str x,u=>∃t,u=Value.str x t
 |.byt b,u=>∃t,u=Value.bytes b t
 |.flt b,u=>∃t,u=Value.float b t
 |.ref a,u=>u=Value.ref a
 |.ty n,u=>u=Value.type n
abbrev Vals:List V->List Value->Prop:=Paired RelV
theorem Vals.length{xs:List V}{us:List Value}(r:Vals xs us):xs.length=us.length:=Paired.length r
theorem Vals.get:∀{xs:List V}{us:List Value}{i:Nat}{x:V},Vals xs us->xs[i]?=some x->∃u,us[i]?=some u/\RelV x u
 |_,_,_,_,.nil,e=>by simp at e
 |_,_,0,_,.cons r _,e=>by simp at e;subst e;exact⟨_,rfl,r⟩
 |_,_,i+1,x,.cons _ t,e=>by obtain⟨u,b,a⟩:=Vals.get (i:=i) (x:=x) t (by simpa using e);exact⟨u,by simpa using b,a⟩
theorem Vals.set(r:RelV x u):∀{xs:List V}{us:List Value} (i:Nat),Vals xs us->Vals (xs.set i x) (us.set i u)
 |_,_,_,.nil=>.nil
 |_,_,0,.cons _ t=>.cons r t
 |_,_,i+1,.cons q t=>.cons q (Vals.set r i t)
theorem Vals.append:∀{xs ys:List V}{us ws:List Value},Vals xs us->Vals ys ws->Vals (xs++ys) (us++ws)
 |_,_,_,_,.nil,s=>s
 |_,_,_,_,.cons r t,s=>.cons r (Vals.append t s)
theorem Vals.take:∀{xs:List V}{us:List Value} (n:Nat),Vals xs us->Vals (xs.take n) (us.take n)
 |_,_,0,_=>.nil
 |_,_,_+1,.nil=>.nil
 |_,_,n+1,.cons r t=>.cons r (Vals.take n t)
theorem Vals.drop:∀{xs:List V}{us:List Value} (n:Nat),Vals xs us->Vals (xs.drop n) (us.drop n)
 |_,_,0,r=>r
 |_,_,_+1,.nil=>.nil
 |_,_,n+1,.cons _ t=>Vals.drop n t
theorem Vals.none_of:∀{xs:List V}{us:List Value}{i:Nat},Vals xs us->xs[i]?=none->us[i]?=none:=λ{xs us i} r e=>by have b:=r.length;have a:xs.length<=i:=abg.mp e;exact abg.mpr (by omega)
def RelO:Option V->Option Value->Prop
 |some v,some u=>RelV v u
 |none,none=>True
 |_,_=>False
def KV{a:Type}:List (a×V)->List (a×Value)->Prop:=Paired λ(p:a×V) (q:a×Value)=>p.1=q.1/\RelV p.2 q.2
def kV:Key->V
 |.inl i=>.int i
 |.inr x=>.str x
inductive HO where
 |lst (xs:List V)
 |tup (xs:List V)
 |dK (kvs:List (Key×V))|dT (kvs:List (List Key×V))
 |set (S:Int->Bool) (n:Nat)
 |ins (C dx:Addr) (fs:List (Str×V))
 |own (x:Addr)
 |xd (fs:List (Str×V))
 |met (f x:Addr)
 |rng (lo hi:Int)
 |frz (o:Obj) (u:HO)
 |tbl (ps:Array Value)
 |ext (φ:Heap->Prop)
abbrev Hp:=Addr->Option HO
def upd(H:Hp)(a:Addr)(o:HO):Hp:=λb=>if b=a then some o else H b
theorem aN{H:Hp}:upd H a o a=some o:=by unfold upd;rw[if_pos rfl]
theorem upd_ne{H:Hp}(h:b≠a):upd H a o b=H b:=by unfold upd;rw[if_neg h]
theorem CS{H:Hp}(h:H a=some o)(h':H b=some u)(d:o≠u):a≠b:=by intro e;subst e;rw[h]at h';exact d (aaE h')
theorem aq{H:Hp}(h:H a=some o)(h':H b=none):a≠b:=by intro e;subst e;rw[h]at h';cases h'
section
variable(P:Program)(w:World)
def Gc(h:Heap)(a:Addr)(items:Array Value):Prop:=∃o,h.get? a=some o/\o.cls=.type "tuple"/\∃n,o.data=.seq items n/\o.dict=none
def ObjOk(H:Hp)(h:Heap)(a:Addr):HO->Prop
 |.lst xs=>xs.length<=sizeLine/\∃(b:List Value) (n:Nat),Vals xs b/\h.get? a=some { cls:=.type "list",data:=.seq b.toArray n }
 |.tup xs=>xs.length<=sizeLine/\∃b:List Value,Vals xs b/\Gc h a b.toArray
 |.dK kvs=>kvs.length<=sizeLine/\(a==sysModules)=false/\∃i,KV kvs i/\h.DictOf (aI P w) a i
 |.dT kvs=>kvs.length<=sizeLine/\(a==sysModules)=false/\∃xs:List (List Key×Addr×Value),
   Paired (λ(p:List Key×V) (q:List Key×Addr×Value)=>p.1=q.1/\H q.2.1=some (.tup (p.1.map kV))/\RelV p.2 q.2.2) kvs xs /\
   ∃o d j,h.get? a=some o/\o.ExactDict/\o.data=.dict d j/\d.toList=xs.map (entryOfKey (tupleKind (aI P w)))/\(xs.map (·.1)).Nodup
 |.set S n=>h.SetOf (intKind P w) a S n
 |.ins C dx fs=>H dx=some (.own a)/\fs.length<=1000/\dx≠a/\h.get? a=some (PySem.W.instObj C dx) /\
   ∃c,h.Ns1 dx c/\(∀f,RelO (fs.lookup f) (c f))/\PySem.Within c (fs.map (·.1))
 |.own _=>∃o,h.get? a=some o
 |.xd fs=>∃c,h.Ns1 a c/\∀f,RelO (fs.lookup f) (c f)
 |.rng lo hi=>∃t u v,h.get? a=some { cls:=.type "range",data:=.fields #[.int lo t,.int hi u,.int 1 v] }
 |.frz o u=>h.get? a=some o/\ObjOk H h a u
 |.tbl ps=>h.get? a=some { cls:=.none,data:=.fields ps }
 |.met f x=>h.get? a=some (PySem.W.methodObj (.ref f) (.ref x))
 |.ext φ=>φ h/\(∃o,h.get? a=some o)/\∀g e:Heap,φ g->(∀o,g.get? a=some o->e.get? a=some o)->φ e
def HOk(H:Hp)(h:Heap):Prop:=∀a o,H a=some o->ObjOk P w H h a o
end
section
variable{P:Program}{w:World}{H H':Hp}{h h':Heap}{a:Addr}{o:HO}
theorem ObjOk.lt(x:ObjOk P w H h a o):a<h.objs.size:=by
 cases o with
 |lst d=>obtain⟨_,_,_,_,e⟩:=x;exact Heap.lt_size e
 |tup d=>obtain⟨_,_,_,o,e,_⟩:=x;exact Heap.lt_size e
 |dK b=>obtain⟨_,_,_,_,o,_,_,e,_⟩:=x;exact Heap.lt_size e
 |dT b=>obtain⟨_,_,_,_,o,_,_,e,_⟩:=x;exact Heap.lt_size e
 |set S n=>obtain⟨o,_,_,_,e,_⟩:=x;exact Heap.lt_size e
 |ins C k c=>obtain⟨_,_,_,e,_⟩:=x;exact Heap.lt_size e
 |own y=>obtain⟨_,e⟩:=x;exact Heap.lt_size e
 |xd c=>obtain⟨_,⟨_,_,_,e,_⟩,_⟩:=x;exact Heap.lt_size e
 |rng l i=>obtain⟨_,_,_,e⟩:=x;exact Heap.lt_size e
 |frz j u=>obtain⟨e,_⟩:=x;exact Heap.lt_size e
 |tbl m=>exact Heap.lt_size (show h.get? a=some _ from x)
 |met f y=>exact Heap.lt_size (show h.get? a=some _ from x)
 |ext g=>obtain⟨_,⟨_,e⟩,_⟩:=x;exact Heap.lt_size e
theorem Paired.mapP{d c:Type}{F G:d->c->Prop}:∀{l₁:List d}{l₂:List c},Paired F l₁ l₂->(∀a b,F a b->G a b)->Paired G l₁ l₂
 |_,_,.nil,_=>.nil
 |_,_,.cons r t,f=>.cons (f _ _ r) (Paired.mapP t f)
theorem ObjOk.kv(x:ObjOk P w H h a o)(k:∀b u,(b=a\/H b=some (.own a))->h.get? b=some u->h'.get? b=some u)
  (I:∀b,H b=some (.own a)->H' b=some (.own a)) (G:∀b xs,H b=some (.tup xs)->H' b=some (.tup xs)):ObjOk P w H' h' a o:=by
 induction o with
 |lst xs=>obtain⟨z,l,n,r,e⟩:=x;exact⟨z,l,n,r,k _ _ (.inl rfl) e⟩
 |tup xs=>obtain⟨z,l,r,g,e,c⟩:=x;exact⟨z,l,r,g,k _ _ (.inl rfl) e,c⟩
 |dK s=>obtain⟨z,y,O,r,g,i,j,e,c⟩:=x;exact⟨z,y,O,r,g,i,j,k _ _ (.inl rfl) e,c⟩
 |dT s=>obtain⟨z,y,xs,r,g,i,j,e,c⟩:=x;exact⟨z,y,xs,Paired.mapP r λp q z=>⟨z.1,G _ _ z.2.1,z.2.2⟩,g,i,j,k _ _ (.inl rfl) e,c⟩
 |set S n=>obtain⟨g,i,j,t,e,c⟩:=x;exact⟨g,i,j,t,k _ _ (.inl rfl) e,c⟩
 |ins C U N=>obtain⟨d,z,L,e,A,⟨m,i,j,J,c⟩,r⟩:=x;exact⟨I _ d,z,L,k _ _ (.inl rfl) e,A,⟨m,i,j,k _ _ (.inr d) J,c⟩,r⟩
 |own y=>obtain⟨g,e⟩:=x;exact⟨g,k _ _ (.inl rfl) e⟩
 |xd N=>obtain⟨A,⟨m,i,j,e,c⟩,r⟩:=x;exact⟨A,⟨m,i,j,k _ _ (.inl rfl) e,c⟩,r⟩
 |rng Q T=>obtain⟨t,u,v,e⟩:=x;exact⟨t,u,v,k _ _ (.inl rfl) e⟩
 |frz g u M=>obtain⟨e,q⟩:=x;exact⟨k _ _ (.inl rfl) e,M q⟩
 |tbl D=>have e:h.get? a=some { cls:=.none,data:=.fields D }:=x;show h'.get? a=some { cls:=.none,data:=.fields D };exact k a _ (.inl rfl) e
 |met f y=>have e:h.get? a=some (PySem.W.methodObj (.ref f) (.ref y)):=x;show h'.get? a=some (PySem.W.methodObj (.ref f) (.ref y));exact k a _ (.inl rfl) e
 |ext X=>obtain⟨p,⟨o,e⟩,B⟩:=x;exact⟨B _ _ p λo q=>k _ _ (.inl rfl) q,⟨o,k _ _ (.inl rfl) e⟩,B⟩
theorem HOk.lt(x:HOk P w H h)(e:H a=some o):a<h.objs.size:=(x a o e).lt
theorem HOk.fresh(x:HOk P w H h)(e:h.objs.size<=a):H a=none:=by
 cases q:H a with
 |none=>rfl
 |some u=>exact absurd (aay (x.lt q) e) (aa3 _)
theorem HOk.kept(x:HOk P w H h)(k:∀b u,h.get? b=some u->h'.get? b=some u):HOk P w H h':=λa o e=>
 (x a o e).kv (λb u _ q=>k b u q) (λ_ q=>q) λ_ _ q=>q
theorem HOk.laid(x:HOk P w H h)(k:∀b u,h.get? b=some u->h'.get? b=some u)(i:h.objs.size<=a)(d:ObjOk P w (upd H a o) h' a o):HOk P w (upd H a o) h':=λb u e=>by
 have g:=x.fresh i;by_cases f:b=a
 ·subst f;rw[aN]at e;cases e;exact d
 ·rw[upd_ne f]at e;exact(x b u e).kv (λc v _ q=>k c v q) (λc q=>by rw[upd_ne (aq q g)];exact q) λc j q=>by rw[upd_ne (aq q g)];exact q
end
def Rd(H:Hp)(a:Addr)(u:HO):Prop:=H a=some u\/∃o,H a=some (.frz o u)
theorem Rd.of(h:H a=some u):Rd H a u:=.inl h
theorem Rd.ok{P:Program}{w:World}(r:Rd H a u)(x:HOk P w H h):ObjOk P w H h a u:=by
 rcases r with r|⟨o,r⟩
 ·exact x a u r
 ·obtain⟨_,q⟩:=x a _ r;exact q
def CT:Option HO->Prop
 |some (.lst _)=>True
 |some (.dK _)=>True
 |some (.dT _)=>True
 |some (.set _ _)=>True
 |some (.ins _ _ _)=>True
 |some (.ext _)=>True
 |_=>False
section
variable{P:Program}{w:World}{H:Hp}{h h':Heap}{x e:Addr}{o':HO}
theorem HOk.write(s:HOk P w H h)(g:CT (H x))(p:e=x\/H e=some (.own x))(k:∀b u,b≠e->h.get? b=some u->h'.get? b=some u)(n:∃u,h'.get? e=some u)
  (m:ObjOk P w (upd H x o') h' x o'):HOk P w (upd H x o') h':=λb u q=>by
 have d:∀c y,H c=some (.own y)->c≠x:=λc y r z=>by subst z;rw[r]at g;exact g
 have f:∀c l,H c=some (.tup l)->c≠x:=λc l r z=>by subst z;rw[r]at g;exact g
 by_cases j:b=x
 ·subst j;rw[aN]at q;cases q;exact m
 ·rw[upd_ne j]at q;by_cases a:b=e
  ·have o:H b=some (.own x):=by
    rcases p with z|z
    ·exact absurd (a.trans z) j
    ·rw[a];exact z
   rw[q]at o;cases o;obtain⟨v,t⟩:=n;exact⟨v,by rw[a];exact t⟩
  ·refine(s b u q).kv (λc v i r=>k c v ?_ r) (λc r=>by rw[upd_ne (d c b r)];exact r) λc l r=>by rw[upd_ne (f c l r)];exact r
   rcases i with rfl|i
   ·exact a
   ·rintro rfl;rcases p with z|z
    ·exact d c b i z
    ·rw[i]at z;cases z;exact j rfl
end
structure Un (fs ex:List Addr)(H H':Hp)(h h':Heap):Prop where
 keep:∀b o,h.get? b=some o->H b=none->b ∉ fs->b ∉ ex->h'.get? b=some o
 slot:∀b o,h.get? b=some o->H b=none->b∈fs->b ∉ ex->∃sl,h'.get? b=some { o with slots:=sl }
 free:∀b o,h.get? b=some o->H b=none->b ∉ ex->H' b=none
 there:∀b o,h.get? b=some o->b ∉ ex->∃o',h'.get? b=some o'
 tups:∀b xs,H b=some (.tup xs)->H' b=some (.tup xs)
 frzs:∀b o u,H b=some (.frz o u)->H' b=some (.frz o u)
 tbls:∀b ps,H b=some (.tbl ps)->∃more,H' b=some (.tbl (ps++more))
section
variable{fs fs' ex ex':List Addr}{H H1 H2:Hp}{h h1 h2 h':Heap}{a x e:Addr}{o:HO}
theorem Un.any(u:Un fs ex H H1 h h1){b:Addr}{c:Obj}(q:h.get? b=some c)(n:H b=none)(f:b ∉ ex):∃g,h1.get? b=some { c with slots:=g }:=by
 by_cases d:b∈fs
 ·exact u.slot b c q n d f
 ·exact⟨c.slots,u.keep b c q n d f⟩
theorem Un.trans(a:Un fs ex H H1 h h1)(b:Un fs ex H1 H2 h1 h2):Un fs ex H H2 h h2 where
 keep:=λc f q n j d=>b.keep c f (a.keep c f q n j d) (a.free c f q n d) j d
 slot:=λc f q n j d=>by obtain⟨t,g⟩:=a.slot c f q n j d;obtain⟨l,m⟩:=b.slot c _ g (a.free c f q n d) j d;exact⟨l,m⟩
 free:=λc f q n d=>by obtain⟨k,g⟩:=a.there c f q d;exact b.free c k g (a.free c f q n d) d
 there:=λc f q d=>by obtain⟨k,g⟩:=a.there c f q d;exact b.there c k g d
 tups:=λc i q=>b.tups c i (a.tups c i q)
 frzs:=λc f i q=>b.frzs c f i (a.frzs c f i q)
 tbls:=λc s q=>by obtain⟨p,g⟩:=a.tbls c s q;obtain⟨r,m⟩:=b.tbls c _ g;exact⟨p++r,by rw[m,Array.append_assoc]⟩
theorem Un.kept(k:∀b u,h.get? b=some u->h'.get? b=some u):Un fs ex H H h h':=
 ⟨λb c q _ _ _=>k b c q,λb c q _ _ _=>⟨c.slots,k b c q⟩,λ_ _ _ n _=>n,λb c q _=>⟨c,k b c q⟩,λ_ _ q=>q,λ_ _ _ q=>q,λ_ d q=>⟨#[],by rw[q];simp⟩⟩
theorem Un.refl:Un fs ex H H h h:=Un.kept λ_ _ q=>q
theorem Un.laid(k:∀b u,h.get? b=some u->h'.get? b=some u)(d:h.objs.size<=a)(c:H a=none):Un fs ex H (upd H a o) h h' where
 keep:=λb u q _ _ _=>k b u q
 slot:=λb u q _ _ _=>⟨u.slots,k b u q⟩
 free:=λb u q n _=>by rw[upd_ne (aas (aay (Heap.lt_size q) d))];exact n
 there:=λb u q _=>⟨u,k b u q⟩
 tups:=λb f q=>by rw[upd_ne (aq q c)];exact q
 frzs:=λb u f q=>by rw[upd_ne (aq q c)];exact q
 tbls:=λb g q=>⟨#[],by rw[upd_ne (aq q c),q];simp⟩
theorem Un.write(d:CT (H x))(l:e=x\/H e=some (.own x))(k:∀b u,b≠e->h.get? b=some u->h'.get? b=some u)(f:∃u,h'.get? e=some u):Un fs ex H (upd H x o) h h':=by
 have i:∀b,H b=none->b≠x:=λb n z=>by subst z;rw[n]at d;exact d
 have j:∀b,H b=none->b≠e:=λb n z=>by
  subst z;rcases l with r|r
  ·exact i b n r
  ·rw[n]at r;cases r
 have g:∀b u,H b=some u->¬ CT (some u)->b≠x:=λb u q m z=>by subst z;rw[q]at d;exact m d
 refine⟨λb u q n _ _=>k b u (j b n) q,λb u q n _ _=>⟨u.slots,k b u (j b n) q⟩,λb u q n _=>by rw[upd_ne (i b n)];exact n,λb u q _=>?_,
  λb p q=>by rw[upd_ne (g b _ q λz=>z)];exact q,λb u p q=>by rw[upd_ne (g b _ q λz=>z)];exact q,λb s q=>⟨#[],by rw[upd_ne (g b _ q λz=>z),q];simp⟩⟩
 by_cases c:b=e
 ·subst c;exact f
 ·exact⟨u,k b u c q⟩
theorem Un.mono(u:Un fs ex H H1 h h1)(i:∀b∈fs,b∈fs')(f:∀b∈ex,b∈ex'):Un fs' ex' H H1 h h1:=
 ⟨λb d q n g c=>u.keep b d q n (λz=>g (i b z)) λz=>c (f b z),λ_ _ q n _ c=>u.any q n λz=>c (f _ z),λb d q n c=>u.free b d q n λz=>c (f b z),λb d q c=>u.there b d q λz=>c (f b z),u.tups,u.frzs,u.tbls⟩
end
def trk(h:Heap)(H:Hp):List Addr:=(List.range h.objs.size).filter λa=>(H a).isSome
def jk(h:Heap)(H:Hp):Heap:=PySem.W.hideAll h (trk h H)
theorem pN(h:Heap)(H:Hp):(jk h H).objs.size=h.objs.size:=PySem.W.hideAll_size _ _
theorem hidT_get(e:h.get? b=some o)(n:H b=none):(jk h H).get? b=some o:=
 PySem.W.hideAll_get _ e λa=>by have q:(H b).isSome=true:=(aa4.mp a).2;rw[n]at q;simp at q
theorem vN(e:(jk h H).get? b=some o):h.get? b=some o/\H b=none:=by
 have a:h.get? b=some o:=PySem.W.of_hideAll (trk h H) e;refine⟨a,?_⟩;cases q:H b with
 |none=>rfl
 |some x=>have c:b∈trk h H:=aa4.mpr ⟨List.mem_range.mpr (Heap.lt_size a),by simp[q]⟩;have z:(jk h H).get? b=none:=PySem.W.hideAll_none (trk h H) c;rw[z]at e;cases e
def vO(g h:Heap)(L:Addr):List (Addr×Obj):=(List.range h.objs.size).filterMap λa=>if a=L\/(g.get? a).isSome=true then none else (h.get? a).map λo=>(a,o)
def rest(g h:Heap)(L d:Addr):List (Addr×Obj):=(vO g h L).filter λp=>decide (p.1≠d)
end
section
structure Mod (K:Waa)(mg:Str->Option Value)(base:Heap):Prop where
 kin:K.In base
 glob:base.Ns mainGlobals mg
 blt:∃mb,base.Ns builtinsNs mb/\∀x:Str,x≠"__name__"->mb x=bootBuiltins x
 nolimit:base.NoLimit
structure Cx where
 prog:Program
 w:World
 K:Waa
 mg:Str->Option Value
 base:Heap
 A:Around
 N:List Str
 s₀:Shared
 H₀:Hp
 env:Env
 outer:List Env
 stack:List Env
 ex:List Addr
 fn:Str->Bool
 calm:Bool
 pn:List (Addr×Obj)
 xe:Value->Shared->Prop
def rA(l:List Env):List Addr:=l.filterMap (·.frame)
abbrev Cx.fs(X:Cx):List Addr:=rA X.outer
def Vis(sc:Scope)(x:Str):Prop:=sc.names.lookup x=some .local\/sc.names.lookup x=some .cell\/sc.names.lookup x=some .free
def Loc(sc:Scope)(x:Str):Prop:=sc.names.lookup x=some .local\/sc.names.lookup x=some .cell
def Look(env:Env)(h:Heap)(m:Str->Option Value)(x:Str)(u:Value):Prop:=
 (env.kindOf x=some .local/\m x=some u)\/((env.kindOf x=some .cell\/env.kindOf x=some .free)/\∃c,env.cells.lookup x=some c/\h.IsCell c (some u))
structure Cx.Ok (X:Cx):Prop where
 mod:Mod X.K X.mg X.base
 kind:X.env.scope.kind=.function
 glob:X.env.globals=mainGlobals
 blt:X.env.builtins=builtinsNs
 above:X.s₀.heap.objs.size<=X.env.locals
 inj:∀x y c,X.env.cells.lookup x=some c->X.env.cells.lookup y=some c->x=y
 has:∀x,(X.env.kindOf x=some .cell\/X.env.kindOf x=some .free)->∃c,X.env.cells.lookup x=some c
 cab:∀x c,X.fn x=true->X.env.cells.lookup x=some c->X.s₀.heap.objs.size<=c
 hd:X.calm=true->X.A.handled=none
 frames:X.A.frames=some X.stack
 stk:X.stack=X.outer\/(X.stack=X.env::X.outer/\X.env.frame=some X.env.locals)
 exf:∀b∈X.ex,b≠X.env.locals/\∀x c,X.env.cells.lookup x=some c->c≠b
 bs:∀b o,X.base.get? b=some o->X.s₀.heap.get? b=some o/\X.H₀ b=none
 bsz:X.base.objs.size<=X.s₀.heap.objs.size
 noex:∀b o,X.base.get? b=some o->b ∉ X.ex
 exfs:∀b∈X.ex,b ∉ X.fs
 funs:X.s₀.heap.FunFrames X.base X.outer
 frf:∀b∈X.fs,X.H₀ b=none
structure Inv (X:Cx)(pins:List (Addr×Obj))(σ:List (Option V))(H:Hp)(s:Shared):Prop where
 ok:X.Ok
 os:s.os=X.s₀.os
 bare:AllBare s.gens
 base:Un X.fs X.ex X.H₀ H X.s₀.heap s.heap
 loc:∃m,s.heap.Ns X.env.locals m/\∀(i:Nat) (x:Str) (v:V),X.N[i]?=some x->σ[i]?=some (some v)->Vis X.env.scope x->∃u,RelV v u/\Look X.env s.heap m x u
 cell:∀x c,X.env.cells.lookup x=some c->∃v,s.heap.IsCell c v
 free:H X.env.locals=none
 freeC:∀x c,X.env.cells.lookup x=some c->H c=none
 pin:∀p∈X.pn++pins,s.heap.get? p.1=some p.2/\H p.1=none/\p.1≠X.env.locals/\p.1 ∉ X.fs/\∀v,p.2.data≠.cell v
 hok:HOk X.prog X.w H s.heap
 len:σ.length=X.N.length
section
variable{X:Cx}{pins:List (Addr×Obj)}{σ:List (Option V)}{H H':Hp}{s:Shared}{h':Heap}
theorem Cx.Ok.nofr(a:X.Ok)(e:X.base.get? b=some o):b ∉ X.fs:=λc=>by have:=(a.funs.mem c).1;rw[e]at this;cases this
theorem Inv.bs(I:Inv X pins σ H s):∀b o,X.base.get? b=some o->s.heap.get? b=some o/\H b=none:=λb o e=>
 ⟨I.base.keep b o (I.ok.bs b o e).1 (I.ok.bs b o e).2 (I.ok.nofr e) (I.ok.noex b o e),I.base.free b o (I.ok.bs b o e).1 (I.ok.bs b o e).2 (I.ok.noex b o e)⟩
theorem Inv.bk(I:Inv X pins σ H s):∀b o,X.base.get? b=some o->s.heap.get? b=some o:=λb o e=>(I.bs b o e).1
theorem Inv.mod(I:Inv X pins σ H s):Mod X.K X.mg X.base:=I.ok.mod
theorem Inv.kIn(I:Inv X pins σ H s):X.K.In s.heap:=I.ok.mod.kin.keeps I.bk
theorem Inv.nolimit(I:Inv X pins σ H s):s.heap.NoLimit:=I.ok.mod.nolimit.keeps I.bk
theorem Inv.fr(I:Inv X pins σ H s):∃m,Fr X.base X.env.locals s.heap m:=
 let ⟨m,a,_⟩:=I.loc
 ⟨m,a,I.bk,aat I.ok.bsz I.ok.above⟩
theorem Inv.lt(I:Inv X pins σ H s):X.env.locals<s.heap.objs.size:=let ⟨_,a,_⟩:=I.loc;a.lt
theorem Inv.sz(I:Inv X pins σ H s):X.s₀.heap.objs.size<=s.heap.objs.size:=aat I.ok.above (aaR I.lt)
theorem Inv.nofs(I:Inv X pins σ H s)(h:s.heap.objs.size<=a):a ∉ X.fs:=λb=>by obtain⟨_,o,c,_⟩:=I.ok.funs.mem b;exact absurd (aay (Heap.lt_size c) (aat I.sz h)) (aa3 _)
theorem Inv.cne(I:Inv X pins σ H s):∀x c,X.env.cells.lookup x=some c->c≠X.env.locals:=λx c e z=>by obtain⟨v,o,f,d⟩:=I.cell x c e;obtain⟨m,⟨i,g,h,a,b,_⟩,_⟩:=I.loc;rw[z,a]at f;cases f;rw[b]at d;cases d
theorem Inv.funs(I:Inv X pins σ H s):s.heap.FunFrames X.base X.outer:=by
 have d:∀(l:List Env),(∀b∈rA l,b∈X.fs)->X.s₀.heap.FunFrames X.base l->s.heap.FunFrames X.base l:=by
  intro l;induction l with
  |nil=>intro _ _;trivial
  |cons h r m=>intro g j;obtain⟨q,⟨L,o,c,p,i,k⟩,n⟩:=j;have a:L∈X.fs:=g L (by unfold rA;rw[abW,c];exact aaj);obtain⟨t,e⟩:=I.base.slot L o i (I.ok.frf L a) a λz=>I.ok.exfs L z a;exact⟨q,⟨L,_,c,p,e,k⟩,m (λb f=>g b (by unfold rA;rw[abW,c];exact aal _ f)) n⟩
 exact d X.outer (λ_ f=>f) I.ok.funs
theorem Inv.stack(I:Inv X pins σ H s):s.heap.FunFrames X.base X.stack:=by
 rcases I.ok.stk with e|⟨e,a⟩
 ·rw[e];exact I.funs
 ·rw[e];obtain⟨m,b,_⟩:=I.loc;refine .cons (by rw[I.ok.kind];decide) a b ?_ I.funs;exact Heap.get?_none_of_le (aat I.ok.bsz I.ok.above)
theorem Inv.pa(I:Inv X pins σ H s):∀b∈rA X.stack,b∈X.env.locals::X.fs:=λb a=>by
 rcases I.ok.stk with e|⟨e,c⟩
 ·rw[e]at a;exact aal _ a
 ·rw[e]at a;unfold rA at a;rw[abW,c]at a;exact a
theorem Inv.ry(I:Inv X pins σ H s):∀b∈rA X.stack,H b=none:=λb a=>by
 rcases aab.mp (I.pa b a) with e|a
 ·rw[e];exact I.free
 ·obtain⟨_,o,c,_⟩:=I.ok.funs.mem a;exact I.base.free b o c (I.ok.frf b a) λz=>I.ok.exfs b z a
theorem Inv.step{g':Array GenState}{t':Nat}{d':Drawn}{ch:List Addr}(I:Inv X pins σ H s)
  (h:∀b∈ch,(b∈X.ex\/X.s₀.heap.objs.size<=b)/\b≠X.env.locals/\(∀x c,X.env.cells.lookup x=some c->c≠b)/\∀p∈X.pn++pins,p.1≠b)
  (j:∀b o,b≠X.env.locals->b ∉ X.fs->b ∉ ch->s.heap.get? b=some o->H b=none->h'.get? b=some o)
  (A:∀b o,b≠X.env.locals->b∈X.fs->b ∉ ch->s.heap.get? b=some o->H b=none->∃U,h'.get? b=some { o with slots:=U }) (free:∀b o,b ∉ ch->s.heap.get? b=some o->H b=none->H' b=none)
  (C:∀b o,b ∉ ch->s.heap.get? b=some o->∃N,h'.get? b=some N)
  (J:∀b B,H b=some (.tup B)->H' b=some (.tup B)) (L:∀b o u,H b=some (.frz o u)->H' b=some (.frz o u)) (S:∀b T,H b=some (.tbl T)->∃O,H' b=some (.tbl (T++O)))
  (ns:∀m,s.heap.Ns X.env.locals m->h'.Ns X.env.locals m) (a0:HOk X.prog X.w H' h') (hg:AllBare g'):
  Inv X pins σ H' { s with heap:=h',gens:=g',drawn:=d',toks:=t' }:=by
 have Q:∀b o,X.s₀.heap.get? b=some o->b≠X.env.locals:=λb o e=>aas (aay (Heap.lt_size e) I.ok.above);have t:∀b o,X.s₀.heap.get? b=some o->b ∉ X.ex->b ∉ ch:=λb o e a D=>by
  rcases (h b D).1 with z|z
  ·exact a z
  ·exact absurd (aay (Heap.lt_size e) z) (aa3 _)
 have g:∀x c,X.env.cells.lookup x=some c->∀v,s.heap.IsCell c v->h'.IsCell c v:=λx c e v ⟨o,G,Z⟩=>by
  have f:c ∉ ch:=λz=>(h c z).2.2.1 x c e rfl;by_cases hc:c∈X.fs
  ·obtain⟨U,q⟩:=A c o (I.cne x c e) hc f G (I.freeC x c e);exact⟨_,q,Z⟩
  ·exact⟨o,j c o (I.cne x c e) hc f G (I.freeC x c e),Z⟩
 refine⟨I.ok,I.os,hg,⟨λb o e n D a=>?_,λb o e n D a=>?_,λb o e n a=>?_,λb o e a=>?_,λb B e=>J b B (I.base.tups b B e),λb o B e=>L b o B (I.base.frzs b o B e),λb T e=>?_⟩,?_,λx c e=>?_,?_,λx c e=>?_,λp hp=>?_,a0,I.len⟩
 ·exact j b o (Q b o e) D (t b o e a) (I.base.keep b o e n D a) (I.base.free b o e n a)
 ·obtain⟨U,y⟩:=I.base.slot b o e n D a;obtain⟨Y,M⟩:=A b _ (Q b o e) D (t b o e a) y (I.base.free b o e n a);exact⟨Y,M⟩
 ·obtain⟨N,y⟩:=I.base.there b o e a;exact free b N (t b o e a) y (I.base.free b o e n a)
 ·obtain⟨N,y⟩:=I.base.there b o e a;exact C b N (t b o e a) y
 ·obtain⟨m1,y⟩:=I.base.tbls b T e;obtain⟨m2,M⟩:=S b _ y;exact⟨m1++m2,by rw[M,Array.append_assoc]⟩
 ·obtain⟨m,hn,hl⟩:=I.loc;refine⟨m,ns m hn,λi x v y M e3=>?_⟩;obtain⟨u,r,l⟩:=hl i x v y M e3;refine⟨u,r,?_⟩;rcases l with l|⟨k,c,e,z⟩
  ·exact .inl l
  ·exact .inr ⟨k,c,e,g x c e _ z⟩
 ·obtain⟨v,z⟩:=I.cell x c e;exact⟨v,g x c e v z⟩
 ·obtain⟨m,⟨o,_,_,G,_⟩,_⟩:=I.loc;exact free _ o (λz=>(h _ z).2.1 rfl) G I.free
 ·obtain⟨v,o,G,Z⟩:=I.cell x c e;exact free c o (λz=>(h c z).2.2.1 x c e rfl) G (I.freeC x c e)
 ·obtain⟨e,n,ne,nf,d⟩:=I.pin p hp;have f:p.1 ∉ ch:=λz=>(h p.1 z).2.2.2 p hp rfl;exact⟨j p.1 p.2 ne nf f e n,free p.1 p.2 f e n,ne,nf,d⟩
theorem Inv.un{t':Nat}(I:Inv X pins σ H s)(u:Un X.fs [] H H' s.heap h')(g:HOk X.prog X.w H' h'):Inv X pins σ H' { s with heap:=h',toks:=t' }:=by
 obtain⟨m,⟨o,l,t,h,r⟩,_⟩:=id I.loc;obtain⟨p,j⟩:=u.any h I.free (by simp);exact I.step (ch:=[]) (λ_ z=>nomatch z) (λb o _ f _ e n=>u.keep b o e n f (by simp)) (λb o _ f _ e n=>u.slot b o e n f (by simp)) (λb o _ e n=>u.free b o e n (by simp)) (λb o _ e=>u.there b o e (by simp)) u.tups u.frzs u.tbls (λv k=>by
  obtain⟨q,d,c,a,i⟩:=k;rw[h]at a;cases a;exact⟨_,d,c,j,i⟩) g I.bare
theorem Inv.call{t':Nat}{d':Drawn}(I:Inv X pins σ H s)(u:Un (rA X.stack) ch H H' s.heap h')(j:HOk X.prog X.w H' h')(q:AllBare g')
  (f:∀b∈ch,(b∈X.ex\/X.s₀.heap.objs.size<=b)/\b≠X.env.locals/\(∀x c,X.env.cells.lookup x=some c->c≠b)/\∀p∈X.pn++pins,p.1≠b):
  Inv X pins σ H' { s with heap:=h',gens:=g',drawn:=d',toks:=t' }:=by
 obtain⟨m,⟨o,y,C,k,r⟩,_⟩:=id I.loc;obtain⟨A,h⟩:=u.any k I.free λz=>(f _ z).2.1 rfl;exact I.step f (λb o h v a e n=>u.keep b o e n (λz=>(aab.mp (I.pa b z)).elim h v) a) (λb o _ _ a e n=>u.any e n a) (λb o a e n=>u.free b o e n a) (λb o a e=>u.there b o e a) u.tups u.frzs u.tbls (λD t=>by
  obtain⟨B,i,g,d,l⟩:=t;rw[k]at d;cases d;exact⟨_,i,g,h,l⟩) j q
theorem Inv.turned{t':Nat}(I:Inv X pins σ H s)(k:∀b o,b≠it->s.heap.get? b=some o->h'.get? b=some o)(w:H it=none)(f:it≠X.env.locals)
  (t:it∈X.ex\/X.s₀.heap.objs.size<=it) (i:∀x c,X.env.cells.lookup x=some c->c≠it) (h:∀p∈X.pn++pins,p.1≠it):Inv X pins σ H { s with heap:=h',toks:=t' }:=by
 have d:∀b u,H b=some u->b≠it:=λb u e z=>by rw[z,w]at e;cases e
 refine I.step (ch:=[it]) (λb y=>?_) (λb o _ _ a e _=>k b o (λz=>a (by simp[z])) e) (λb o _ _ a e _=>⟨o.slots,k b o (λz=>a (by simp[z])) e⟩) (λ_ _ _ _ n=>n)
  (λb o a e=>⟨o,k b o (λz=>a (by simp[z])) e⟩) (λ_ _ e=>e) (λ_ _ _ e=>e) (λb B e=>⟨#[],by rw[e];simp⟩) (λm l=>?_) (λb u e=>?_) I.bare
 ·have e:b=it:=by simpa using y
  subst e;exact⟨t,f,i,h⟩
 ·obtain⟨o,g,A,j,r⟩:=l;exact⟨o,g,A,k _ o (aaN f) j,r⟩
 ·refine(I.hok b u e).kv (λc v a q=>k c v ?_ q) (λ_ q=>q) λ_ _ q=>q;rcases a with z|z
  ·rw[z];exact d b u e
  ·exact d c _ z
theorem Inv.tok(I:Inv X pins σ H s)(t:Nat):Inv X pins σ H { s with toks:=t }:=I.un (h':=s.heap) (t':=t) Un.refl I.hok
theorem Inv.kept{t':Nat}(I:Inv X pins σ H s)(k:∀b u,s.heap.get? b=some u->h'.get? b=some u):Inv X pins σ H { s with heap:=h',toks:=t' }:=I.un (Un.kept k) (I.hok.kept k)
theorem Inv.laid{a:Addr}{o:HO}{t':Nat}(I:Inv X pins σ H s)(k:∀b u,s.heap.get? b=some u->h'.get? b=some u)(c:s.heap.objs.size<=a)(d:ObjOk X.prog X.w (upd H a o) h' a o):
  Inv X pins σ (upd H a o) { s with heap:=h',toks:=t' }:=I.un (Un.laid k c (I.hok.fresh c)) (I.hok.laid k c d)
theorem Inv.write{t':Nat}(I:Inv X pins σ H s)(f:CT (H x))(d:e=x\/H e=some (.own x))(k:∀b u,b≠e->s.heap.get? b=some u->h'.get? b=some u)(a:∃u,h'.get? e=some u)
  (c:ObjOk X.prog X.w (upd H x o) h' x o):Inv X pins σ (upd H x o) { s with heap:=h',toks:=t' }:=I.un (Un.write f d k a) (I.hok.write f d k a c)
theorem Inv.weak(I:Inv X pins σ H s)(f:σ'.length=σ.length)(w:∀(i:Nat) v,σ'[i]?=some (some v)->σ[i]?=some (some v)):Inv X pins σ' H s:=
 ⟨I.ok,I.os,I.bare,I.base,let ⟨m,d,a⟩:=I.loc;⟨m,d,λi x v b e c=>a i x v b (w i v e) c⟩,I.cell,I.free,I.freeC,I.pin,I.hok,f.trans I.len⟩
theorem Inv.rr(I:Inv X pins σ H s)(h:∀p∈pins',s.heap.get? p.1=some p.2/\H p.1=none/\p.1≠X.env.locals/\p.1 ∉ X.fs/\∀v,p.2.data≠.cell v):Inv X pins' σ H s:=
 ⟨I.ok,I.os,I.bare,I.base,I.loc,I.cell,I.free,I.freeC,λp a=>(aam.mp a).elim (λz=>I.pin p (aah _ z)) (h p),I.hok,I.len⟩
theorem kj{N:List Str}(d:N.Nodup){i j:Nat}(a:N[i]?=some x)(b:N[j]?=some x):i=j:=by obtain⟨g,c⟩:=aai.mp a;obtain⟨f,e⟩:=aai.mp b;exact(List.getElem_inj d).mp (c.trans e.symm)
theorem fG{M:Model}{A:Around}{E:Value->Shared->Prop}(I:Inv X pins σ H s)(hN:X.N.Nodup)(hi:X.N[i]?=some x)(B:Loc X.env.scope x)(r:RelV v u)
  (h:∀s',Inv X pins (σ.set i (some v)) H s'->(∃a,Heap.SameBut a s.heap s'.heap/\(a=X.env.locals\/X.env.cells.lookup x=some a))->Q () s') (hf:X.fn x=true\/X.env.scope.names.lookup x=some .local:=by first|exact .inl rfl|exact .inr rfl|assumption):wpAny M A (storeName X.env x u) Q E s:=by
 obtain⟨m,hn,hl⟩:=id I.loc;have Y:(X.env.scope.kind==.class||(X.env.scope.kind==.module&&X.env.locals !=X.env.globals))=false:=by rw[I.ok.kind];rfl
 have J:i<σ.length:=by rw[I.len];exact(aai.mp hi).1
 have O:=I.cne;have l:∀{a:Addr}{h':Heap},(∃o,s.heap.get? a=some o/\H a=none)->Heap.SameBut a s.heap h'->HOk X.prog X.w H h':=λ{a h'} ha f b ob e=>by
  obtain⟨_,_,C⟩:=ha;refine(I.hok b ob e).kv (λc w' t q=>(f.2 c ?_).trans q) (λ_ q=>q) λ_ _ q=>q;rintro rfl;rcases t with rfl|t
  ·rw[C]at e;cases e
  ·rw[C]at t;cases t
 rcases B with G|G
 ·refine wpAny_storeName_local G hn (λh' a2 f=>?_) Y;obtain⟨oL,_,_,a3,_⟩:=id hn;refine h _ ⟨I.ok,I.os,I.bare,⟨λb o e n S B=>?_,λb o e n S B=>?_,I.base.free,λb o e B=>?_,I.base.tups,I.base.frzs,I.base.tbls⟩,⟨_,a2,λj y v' g D e3=>?_⟩,λy c e=>?_,I.free,I.freeC,λp hp=>?_,l ⟨oL,a3,I.free⟩ f,by simpa using I.len⟩ ⟨_,f,.inl rfl⟩
  ·exact(f.2 b (aas (aay (Heap.lt_size e) I.ok.above))).trans (I.base.keep b o e n S B)
  ·obtain⟨sl,g⟩:=I.base.slot b o e n S B;exact⟨sl,(f.2 b (aas (aay (Heap.lt_size e) I.ok.above))).trans g⟩
  ·obtain⟨o',g⟩:=I.base.there b o e B;exact⟨o',(f.2 b (aas (aay (Heap.lt_size e) I.ok.above))).trans g⟩
  ·by_cases L:j=i
   ·subst L;rw[hi]at g;cases g;rw[aa5 J]at D;cases D;exact⟨u,r,.inl ⟨G,by simp⟩⟩
   ·rw[aa6 (aaN L)]at D;obtain⟨u',r',q⟩:=hl j y v' g D e3;refine⟨u',r',?_⟩;rcases q with ⟨k,e⟩|⟨k,c,e,z⟩
    ·refine .inl ⟨k,?_⟩;have:y≠x:=λe=>L (kj hN g (e▸hi));simp[this,e]
    ·exact .inr ⟨k,c,e,z.sameBut f (O y c e)⟩
  ·obtain⟨w',z⟩:=I.cell y c e;exact⟨w',z.sameBut f (O y c e)⟩
  ·obtain⟨e,n,ne,nf,d⟩:=I.pin p hp;exact⟨(f.2 p.1 ne).trans e,n,ne,nf,d⟩
 ·have T:X.fn x=true:=by
   rcases hf with z|z
   ·exact z
   ·rw[z]at G;cases G
  obtain⟨c,t⟩:=I.ok.has x (.inl G);obtain⟨w',z⟩:=I.cell x c t;refine wpAny_storeName_cell I.ok.kind G t z (λh' Z f=>?_);obtain⟨oc,a1,a0⟩:=id z;refine h { s with heap:=h' } ⟨I.ok,I.os,I.bare,⟨λb o e n S B=>?_,λb o e n S B=>?_,I.base.free,λb o e B=>?_,I.base.tups,I.base.frzs,I.base.tbls⟩,⟨m,hn.sameBut f (aaN (O x c t)),λj y v' g D e3=>?_⟩,λy c' e=>?_,I.free,I.freeC,λp hp=>?_,l ⟨oc,a1,I.freeC x c t⟩ f,by simpa using I.len⟩ ⟨c,f,.inr t⟩
  ·exact(f.2 b (aas (aay (Heap.lt_size e) (I.ok.cab x c T t)))).trans (I.base.keep b o e n S B)
  ·obtain⟨sl,g⟩:=I.base.slot b o e n S B;exact⟨sl,(f.2 b (aas (aay (Heap.lt_size e) (I.ok.cab x c T t)))).trans g⟩
  ·obtain⟨o',g⟩:=I.base.there b o e B;exact⟨o',(f.2 b (aas (aay (Heap.lt_size e) (I.ok.cab x c T t)))).trans g⟩
  ·by_cases L:j=i
   ·subst L;rw[hi]at g;cases g;rw[aa5 J]at D;cases D;exact⟨u,r,.inr ⟨.inl G,c,t,Z⟩⟩
   ·rw[aa6 (aaN L)]at D;obtain⟨u',r',q⟩:=hl j y v' g D e3;refine⟨u',r',?_⟩;rcases q with q|⟨k,c',e,z'⟩
    ·exact .inl q
    ·refine .inr ⟨k,c',e,z'.sameBut f ?_⟩;rintro rfl;exact L (kj hN g (I.ok.inj _ _ _ e t▸hi))
  ·by_cases U:c'=c
   ·subst U;exact⟨_,Z⟩
   ·obtain⟨w2,z2⟩:=I.cell y c' e;exact⟨w2,z2.sameBut f U⟩
  ·obtain⟨e,n,ne,nf,d⟩:=I.pin p hp;refine⟨(f.2 p.1 ?_).trans e,n,ne,nf,d⟩;intro q;rw[q,a1]at e;have q':oc=p.2:=aaE e;exact d w' (by rw[<-q'];exact a0)
theorem bH{M:Model}{A:Around}{E:Value->Shared->Prop}(I:Inv X pins σ H s)(f:X.N.Nodup)(e:X.N[i]?=some x)(d:Loc X.env.scope x)(r:RelV v u)
  (h:∀a,Inv X pins (σ.set i (some v)) H a->Q () a) (b:X.fn x=true\/X.env.scope.names.lookup x=some .local:=by first|exact .inl rfl|exact .inr rfl|assumption):wpAny M A (storeName X.env x u) Q E s:=
 fG I f e d r (λa c _=>h a c) b
theorem Inv.call'(I:Inv X pins σ H s)(g:s'.os=s.os)(u:Un (rA X.stack) ch H H' s.heap s'.heap)(a:HOk X.prog X.w H' s'.heap)(f:AllBare s'.gens)
  (d:∀b∈ch,(b∈X.ex\/X.s₀.heap.objs.size<=b)/\b≠X.env.locals/\(∀x c,X.env.cells.lookup x=some c->c≠b)/\∀p∈X.pn++pins,p.1≠b):Inv X pins σ H' s':=by
 obtain⟨h',i,k,j,h⟩:=s';have e:h=s.os:=g;subst e;exact I.call u a f d
end
abbrev XK:=Value->Option Addr->Hp->Prop
abbrev St:=List (Option V)
abbrev VK:=V->Hp->Prop
abbrev TE:=St->Hp->VK->Prop
abbrev TT:=St->Hp->(Bool->Hp->Prop)->Prop
abbrev TA:=St->Hp->(List V->Hp->Prop)->Prop
structure Ends where
 nx:St->Hp->Prop
 rt:VK
 bk:St->Hp->Prop:=λ_ _=>False
 ct:St->Hp->Prop:=λ_ _=>False
abbrev TS:=Ends->St->Hp->Prop
def EP(X:Cx)(a:List (Addr×Obj))(σ:St)(Q:VK)(u:Value)(c:Shared):Prop:=∃v b,Inv X a σ b c/\RelV v u/\Q v b
def TP(X:Cx)(a:List (Addr×Obj))(σ:St)(Q:Bool->Hp->Prop)(b:Bool)(d:Shared):Prop:=∃c,Inv X a σ c d/\Q b c
def AP(X:Cx)(a:List (Addr×Obj))(σ:St)(Q:List V->Hp->Prop)(us:List Value)(d:Shared):Prop:=∃c b,Inv X a σ b d/\Vals c us/\Q c b
def SP(X:Cx)(b:List (Addr×Obj))(D:Ends)(f:Flow)(d:Shared):Prop:=
 match f with
 |.next=>∃a c,Inv X b a c d/\D.nx a c
 |.brk=>∃a c,Inv X b a c d/\D.bk a c
 |.cont=>∃a c,Inv X b a c d/\D.ct a c
 |.ret u=>∃v a c,Inv X b a c d/\RelV v u/\D.rt v c
def PE(X:Cx)(e:Expr)(t:TE):Prop:=
 ∀(a:List (Addr×Obj)) (s:Shared) (b:St) (H:Hp) (Q:VK),Inv X a b H s->t b H Q->wpAny (model X.prog X.w) X.A (eval e X.env) (EP X a b Q) X.xe s
def PT(X:Cx)(e:Expr)(t:TT):Prop:=
 ∀(a:List (Addr×Obj)) (s:Shared) (b:St) (H:Hp) (Q:Bool->Hp->Prop),Inv X a b H s->t b H Q->wpAny (model X.prog X.w) X.A (isTrue e X.env (eval e X.env)) (TP X a b Q) X.xe s
def PW(X:Cx)(e:Expr)(t:TT):Prop:=
 ∀(b:Sem Value) (a:List (Addr×Obj)) (s:Shared) (c:St) (H:Hp) (Q:Bool->Hp->Prop),Inv X a c H s->t c H Q->wpAny (model X.prog X.w) X.A (isTrue e X.env b) (TP X a c Q) X.xe s
theorem PW.pt(h:PW X e t):PT X e t:=h _
def PA(X:Cx)(es:List Expr)(t:TA):Prop:=
 ∀(c:Pos) (a:List (Addr×Obj)) (s:Shared) (b:St) (H:Hp) (Q:List V->Hp->Prop),Inv X a b H s->t b H Q->wpAny (model X.prog X.w) X.A (spliced (backTo c (starEach es X.env))) (AP X a b Q) X.xe s
def PS(X:Cx)(st:Stmt)(t:TS):Prop:=
 ∀(a:List (Addr×Obj)) (s:Shared) (b:St) (H:Hp) (D:Ends),Inv X a b H s->t D b H->wpAny (model X.prog X.w) X.A (exec st X.env) (SP X a D) X.xe s
def PSs(X:Cx)(st:List Stmt)(t:TS):Prop:=
 ∀(a:List (Addr×Obj)) (s:Shared) (b:St) (H:Hp) (D:Ends),Inv X a b H s->t D b H->wpAny (model X.prog X.w) X.A (execs st X.env) (SP X a D) X.xe s
theorem thn{b:Type}{t:Sem b}{Q c:b->Shared->Prop}{A:Around}(h:wpAny M A t Q E s)(d:∀a s,Q a s->c a s):wpAny M A t c E s:=wpAny_mono h d λ_ _ x=>x
end
section
section
variable{X:Cx}
def tVar(i:Nat):TE:=λa H Q=>∃v,a[i]?=some (some v)/\Q v H
def tC(v:V):TE:=λ_ H Q=>Q v H
theorem cP{g:Pos} (y:X.N[i]?=some x) (o:Vis X.env.scope x) (j:(x==("__debug__":Str))=false:=by decide) (k:(x==("__classdict__":Str))=false:=by decide):PE X (.Name x g) (tVar i):=by
 intro f s t H Q I h;obtain⟨v,e,h⟩:=h;obtain⟨m,w,p⟩:=I.loc;obtain⟨u,r,l⟩:=p i x v y e o;have b:EP X f t Q u s:=⟨v,H,I,r,h⟩
 rcases l with ⟨d,q⟩|⟨d,c,n,a⟩
 ·exact wpAny_Name (wpAny_loadName_local I.ok.kind d w q b) j
 ·rcases d with d|d
  ·exact wpAny_Name (wpAny_loadName_cell I.ok.kind d n a b) j
  ·exact wpAny_Name (wpAny_loadName_free I.ok.kind d n a b k) j
theorem lM{i j a}:PE X (.Constant (.int i) j a) (tC (.int i)):=λ_ _ _ H _ I h=>wpAny_Constant_int ⟨.int i,H,I.tok _,⟨_,rfl⟩,h⟩
theorem CU{b j a}:PE X (.Constant (.bool b) j a) (tC (.bl b)):=λ_ _ _ H _ I h=>Constant_bool ⟨.bl b,H,I,rfl,h⟩
theorem zH{j a}:PE X (.Constant .none j a) (tC .non):=λ_ _ _ H _ I h=>Constant_none ⟨.non,H,I,rfl,h⟩
theorem zI{x j a}:PE X (.Constant (.str x) j a) (tC (.str x)):=λ_ _ _ H _ I h=>Calls.Constant_str ⟨.str x,H,I.tok _,⟨_,rfl⟩,h⟩
def Gl(X:Cx)(x:Str):Prop:=X.env.kindOf x=some .globalImplicit
theorem m9{E:Value->Shared->Prop}{a:Pos}(I:Inv X pins σ H s)(d:Gl X x)(b:X.mg x=some u)(h:Q u s)
  (c:(x==("__debug__":Str))=false:=by decide):wpAny (model X.prog X.w) X.A (eval (.Name x a) X.env) Q E s:=
 Calls.Name_function_global I.ok.kind d (Calls.loadGlobal_global (by rw[I.ok.glob];exact I.mod.glob.keeps I.bk) b h) c
theorem eh{E:Value->Shared->Prop}{a:List (Addr×Obj)}{s:Shared}{b:Pos}(I:Inv X a σ H s)(f:Gl X x)(c:X.mg x=none)(i:bootBuiltins x=some u)(h:Q u s)
  (g:x≠"__name__":=by decide) (e:(x==("__debug__":Str))=false:=by decide):wpAny (model X.prog X.w) X.A (eval (.Name x b) X.env) Q E s:=by
 obtain⟨k,j,d⟩:=I.mod.blt;exact Calls.Name_function_global I.ok.kind f (Calls.loadGlobal_builtin (by rw[I.ok.glob];exact I.mod.glob.keeps I.bk) c (by rw[I.ok.blt];exact j.keeps I.bk) ((d x g).trans i) h) e
theorem vP{a:Pos} (d:Gl X x) (b:X.mg x=some u) (r:RelV v u) (c:(x==("__debug__":Str))=false:=by decide):PE X (.Name x a) (tC v):=
 λ_ _ _ H _ I h=>m9 I d b ⟨v,H,I,r,h⟩ c
def FU(e d:TE)(k:Int->Int->Hp->Prop):St->Hp->Prop:=λa H=>e a H λx b=>d a b λy c=>∃i j,x=.int i/\y=.int j/\k i j c
def Ju(d c:TE):TE:=λb H Q=>FU d c (λi j a=>Q (.int (i+j)) a) b H
def Jv(d c:TE):TE:=λb H Q=>FU d c (λi j a=>Q (.int (i-j)) a) b H
def Jw(d c:TE):TE:=λb H Q=>FU d c (λi j a=>(-(2^64)<i/\i<2^64)/\Q (.int (i*j)) a) b H
variable{a b:Expr}{ta tb:TE}{pos:Pos}
def PC(X:Cx)(g:CmpOp)(a b:Expr)(t:TE):Prop:=
 ∀(c:List (Addr×Obj)) (s:Shared) (f:St) (H:Hp) (Q:VK),Inv X c f H s->t f H Q ->
  wpAny (model X.prog X.w) X.A (eval a X.env) (λv d=>wpAny (model X.prog X.w) X.A (eval b X.env) (λu e=>wpAny (model X.prog X.w) X.A (compareOp g v u) (EP X c f Q) X.xe e) X.xe d) X.xe s
theorem nobehind(b:Expr)(h:op≠.In)(d:op≠.NotIn):behindInMarks op b=false:=by
 have c:(op==CmpOp.In)=false:=by cases op<;>first|rfl|exact absurd rfl h
 have e:(op==CmpOp.NotIn)=false:=by cases op<;>first|rfl|exact absurd rfl d
 cases b<;>simp[behindInMarks,c,e]
def pO(p:Int->Int->Bool)(ta tb:TE):TE:=λd H Q=>FU ta tb (λi j c=>Q (.bl (p i j)) c) d H
abbrev Kr:TE->TE->TE:=pO λi j=>decide (i<j)
abbrev Ks:TE->TE->TE:=pO λi j=>decide (i<=j)
abbrev Kt:TE->TE->TE:=pO λi j=>decide (j<i)
abbrev Ku:TE->TE->TE:=pO λi j=>decide (j<=i)
abbrev Jx:TE->TE->TE:=pO λi j=>decide (i=j)
abbrev Jy:TE->TE->TE:=pO λi j=>!decide (i=j)
def Ge(ta:TE):TE:=λd H Q=>ta d H λx c=>Q (.bl (decide (x=.non))) c
def CV(ta:TE):TE:=λd H Q=>ta d H λx c=>Q (.bl (!decide (x=.non))) c
theorem RelV.ri{x:V}{v:Value}(r:RelV x v):(v==Value.none)=decide (x=.non):=by
 cases x with
 |non=>cases r;rfl
 |bl _=>cases r;rfl
 |int _=>obtain⟨t,rfl⟩:=r;rfl
 |str _=>obtain⟨t,rfl⟩:=r;rfl
 |byt _=>obtain⟨t,rfl⟩:=r;rfl
 |flt _=>obtain⟨t,rfl⟩:=r;rfl
 |ref _=>cases r;rfl
 |ty _=>cases r;rfl
theorem rB{j c}(e:PE X a ta):PC X .Is a (.Constant .none j c) (Ge ta):=by intro d s i H Q I h;refine thn (e d s i H _ I h) λv n g=>?_;obtain⟨x,f,k,m,l⟩:=g;exact Constant_none (is_none_gen ⟨.bl _,f,k,by rw[m.ri];rfl,l⟩)
theorem nh{j c}(e:PE X a ta):PC X .IsNot a (.Constant .none j c) (CV ta):=by intro d s i H Q I h;refine thn (e d s i H _ I h) λv n g=>?_;obtain⟨x,f,k,m,l⟩:=g;exact Constant_none (isnot_none_gen ⟨.bl _,f,k,by rw[m.ri];rfl,l⟩)
def tB(t:TE):TT:=λe H Q=>t e H λx d=>∃c,x=.bl c/\Q c d
theorem jl(h:PC X op a b t)(f:behindInMarks op b=false:=by first|exact nobehind _ (by decide) (by decide)|rfl):PE X (.Compare a [op] [b] pos) t:=λc s d H Q I e=>wpAny_Compare1 (h c s d H Q I e) f
theorem jn{f:CmpOp}{t:TE}(h:PC X f a b t)(g:behindInMarks f b=false:=by first|exact nobehind _ (by decide) (by decide)|rfl):PT X (.Compare a [f] [b] pos) (tB t):=by intro e s p H Q I l;refine wpAny_isTrue_Compare1 (thn (h e s p H _ I l) λv y g=>thn g λu w i=>thn i λc r o=>?_) g;obtain⟨x,m,k,n,j⟩:=o;obtain⟨d,rfl,q⟩:=j;cases n;exact wpAny_truthy_bool ⟨m,k,q⟩
variable{tA tB':TT}{rest:List Expr}
def Gf(t u:TT):TT:=λe H Q=>t e H λc d=>if c=true then u e d Q else Q false d
def Jz(t u:TT):TT:=λe H Q=>t e H λc d=>if c=true then Q true d else u e d Q
def Gg(t:TT):TT:=λe H Q=>t e H λc d=>Q (!c) d
theorem vQ(f:PT X a tA):PW X (.BoolOp .And [a] pos) tA:=by
 intro j d s g H Q I h;refine isTrue_and (thn (f d s g H Q I h) λc i e=>?_);cases c with
 |true=>exact isTrue_and_nil e
 |false=>exact e
theorem zJ(f:PT X a tA):PW X (.BoolOp .Or [a] pos) tA:=by
 intro j d s g H Q I h;refine isTrue_or (thn (f d s g H Q I h) λc i e=>?_);cases c with
 |false=>exact isTrue_or_nil e
 |true=>exact e
theorem zK(j:PT X a tA)(k:PW X (.BoolOp .And (b::rest) pos) tB'):PW X (.BoolOp .And (a::b::rest) pos) (Gf tA tB'):=by
 intro n d s f H Q I h;refine isTrue_and (thn (j d s f H _ I h) λc l m=>?_);obtain⟨e,g,i⟩:=m;cases c with
 |true=>exact k n d l f e Q g i
 |false=>exact⟨e,g,i⟩
theorem CW(j:PT X a tA)(k:PW X (.BoolOp .Or (b::rest) pos) tB'):PW X (.BoolOp .Or (a::b::rest) pos) (Jz tA tB'):=by
 intro n d s f H Q I h;refine isTrue_or (thn (j d s f H _ I h) λc l m=>?_);obtain⟨e,g,i⟩:=m;cases c with
 |true=>exact⟨e,g,i⟩
 |false=>exact k n d l f e Q g i
theorem zL(e:PT X a tA):PT X (.UnaryOp .Not a pos) (Gg tA):=by intro d s g H Q I h;exact isTrue_not (e d s g H (λc f=>Q (!c) f) I h)
def CY(ta tb:TE):TE:=λe H Q=>ta e H λx d=>∃c,x=.bl c/\if c=true then tb e d Q else Q (.bl false) d
def Gh(ta tb:TE):TE:=λe H Q=>ta e H λx d=>∃c,x=.bl c/\if c=true then Q (.bl true) d else tb e d Q
def CZ(ta:TE):TE:=λe H Q=>ta e H λx d=>∃c,x=.bl c/\Q (.bl (!c)) d
theorem zM{d}(h:PE X a t):PE X (.BoolOp d [a] pos) t:=λc s e H Q I f=>BoolOp_one (h c s e H Q I f)
theorem zN(j:PE X a ta)(m:PE X (.BoolOp .And (b::rest) pos) tb):PE X (.BoolOp .And (a::b::rest) pos) (CY ta tb):=by
 intro d s i H Q I h;refine BoolOp_and (thn (j d s i H _ I h) λv n l=>?_);obtain⟨x,g,f,k,e⟩:=l;obtain⟨c,rfl,e⟩:=e;cases k;refine wpAny_truthy_bool ?_;cases c with
 |true=>exact m d n i g Q f e
 |false=>exact⟨.bl false,g,f,rfl,e⟩
theorem C0(j:PE X a ta)(m:PE X (.BoolOp .Or (b::rest) pos) tb):PE X (.BoolOp .Or (a::b::rest) pos) (Gh ta tb):=by
 intro d s i H Q I h;refine BoolOp_or (thn (j d s i H _ I h) λv n l=>?_);obtain⟨x,g,f,k,e⟩:=l;obtain⟨c,rfl,e⟩:=e;cases k;refine wpAny_truthy_bool ?_;cases c with
 |false=>exact m d n i g Q f e
 |true=>exact⟨.bl true,g,f,rfl,e⟩
theorem zO(f:PE X a ta):PE X (.UnaryOp .Not a pos) (CZ ta):=by intro d s j H Q I h;refine UnaryOp_ (thn (f d s j H _ I h) λv m i=>?_);obtain⟨x,g,k,l,e⟩:=i;obtain⟨c,rfl,e⟩:=e;cases l;exact not_of (wpAny_truthy_bool ⟨.bl (!c),g,k,rfl,e⟩)
def JA(t:TT)(ta tb:TE):TE:=λd H Q=>t d H λc e=>if c=true then ta d e Q else tb d e Q
theorem rC{c:Expr}(o:PT X c tA)(l:PE X a ta)(m:PE X b tb):PE X (.IfExp c a b pos) (JA tA ta tb):=by
 intro e s f H Q I h;refine wpAny_IfExp (thn (o e s f H _ I h) λd i n=>?_);obtain⟨g,j,k⟩:=n;cases d with
 |true=>exact l e i f g Q j k
 |false=>exact m e i f g Q j k
end
end
section
def SqL(K:Waa)(H:Hp)(a:Addr)(xs:List V):Prop:=
 Rd H a (.lst xs) \/
  ∃(o:Obj) (b:Array Value) (n:Nat),K.lookup a=some o/\o.cls=.type "list"/\o.dict=none/\o.data=.seq b n/\b.size<=sizeLine/\Vals xs b.toList
def SqT(K:Waa)(H:Hp)(a:Addr)(xs:List V):Prop:=
 Rd H a (.tup xs) \/
  ∃(o:Obj) (b:Array Value) (n:Nat),K.lookup a=some o/\o.cls=.type "tuple"/\o.dict=none/\o.data=.seq b n/\b.size<=sizeLine/\Vals xs b.toList
def Gi:Value->Option V
 |.none=>some .non
 |.bool b=>some (.bl b)
 |.int i _=>some (.int i)
 |.str x _=>some (.str x)
 |.bytes b _=>some (.byt b)
 |.float b _=>some (.flt b)
 |.ref a=>some (.ref a)
 |.type n=>some (.ty n)
 |_=>none
theorem RelV.abs(r:RelV x u):Gi u=some x:=by
 cases x with
 |non=>cases r;rfl
 |bl _=>cases r;rfl
 |int _=>obtain⟨t,rfl⟩:=r;rfl
 |str _=>obtain⟨t,rfl⟩:=r;rfl
 |byt _=>obtain⟨t,rfl⟩:=r;rfl
 |flt _=>obtain⟨t,rfl⟩:=r;rfl
 |ref _=>cases r;rfl
 |ty _=>cases r;rfl
theorem RelV.inj{x y:V}{u:Value}(r:RelV x u)(q:RelV y u):x=y:=aaE (r.abs.symm.trans q.abs)
theorem Vals.inj{xs ys:List V}{us:List Value}(h:Vals xs us)(h':Vals ys us):xs=ys:=by
 induction us generalizing xs ys with
 |nil=>cases h;cases h';rfl
 |cons u us c=>cases h with|cons r t=>cases h' with|cons a b=>rw[r.inj a,c t b]
section
variable{X:Cx}{pins:List (Addr×Obj)}{σ:St}{H:Hp}{s:Shared}{a:Addr}{xs ys:List V}
theorem SqL.of{K:Waa}(h:H a=some (.lst xs)):SqL K H a xs:=.inl (.inl h)
theorem SqT.of{K:Waa}(h:H a=some (.tup xs)):SqT K H a xs:=.inl (.inl h)
theorem Inv.list(I:Inv X pins σ H s)(h:SqL X.K H a xs):∃b:List Value,Vals xs b/\PlainL s.heap a b.toArray/\xs.length<=sizeLine:=by
 rcases h with h|⟨o,b,n,g,c,d,f,i,r⟩
 ·obtain⟨z,b,n,r,e⟩:=h.ok I.hok;exact⟨b,r,⟨_,n,e,rfl,rfl,rfl⟩,z⟩
 ·refine⟨b.toList,r,⟨o,n,I.kIn a o g,c,d,by simpa using f⟩,?_⟩;have e:=r.length;simp only[abX]at e;omega
theorem Inv.tuple(I:Inv X pins σ H s)(h:SqT X.K H a xs):∃b:List Value,Vals xs b/\IsTup s.heap a b.toArray/\xs.length<=sizeLine:=by
 rcases h with h|⟨o,b,n,i,f,_,g,j,r⟩
 ·obtain⟨z,b,r,o,e,c,n,d,_⟩:=h.ok I.hok;exact⟨b,r,⟨o,e,c,n,d⟩,z⟩
 ·refine⟨b.toList,r,⟨o,I.kIn a o i,f,n,by simpa using g⟩,?_⟩;have e:=r.length;simp only[abX]at e;omega
theorem Inv.ro(I:Inv X pins σ H s)(h:SqL X.K H a xs)(h':SqL X.K H a ys):xs=ys:=by
 obtain⟨c,r,⟨o,n,e,_,_,d⟩,_⟩:=I.list h;obtain⟨b,i,⟨k,j,f,_,_,g⟩,_⟩:=I.list h';rw[e]at f;cases f;rw[d]at g;injection g with d1 _;have:c=b:=by simpa using congrArg Array.toList d1
 subst this;exact r.inj i
theorem Inv.tupN(I:Inv X pins σ H s)(h:SqT X.K H a xs):∃o,s.heap.get? a=some o/\o.cls=.type "tuple"/\o.dict=none:=by
 rcases h with h|⟨o,g,n,i,b,f,k,j,r⟩
 ·obtain⟨_,_,_,o,e,c,_,_,d⟩:=h.ok I.hok;exact⟨o,e,c,d⟩
 ·exact⟨o,I.kIn a o i,b,f⟩
theorem Inv.tr(I:Inv X pins σ H s)(h:SqT X.K H a xs)(h':SqT X.K H a ys):xs=ys:=by
 obtain⟨c,r,⟨o,e,_,n,d⟩,_⟩:=I.tuple h;obtain⟨b,i,⟨k,f,_,j,g⟩,_⟩:=I.tuple h';rw[e]at f;cases f;rw[d]at g;injection g with d1 _;have:c=b:=by simpa using congrArg Array.toList d1
 subst this;exact r.inj i
end
abbrev Cx.fx(X:Cx)(E:Value->Shared->Prop):Cx:={ X with xe:=E }
abbrev Cx.vu(X:Cx):Cx:=X.fx λ_ _=>False
theorem Cx.Ok.fx{X:Cx}(a:X.Ok)(E:Value->Shared->Prop):(X.fx E).Ok:=
 ⟨a.mod,a.kind,a.glob,a.blt,a.above,a.inj,a.has,a.cab,a.hd,a.frames,a.stk,a.exf,a.bs,a.bsz,a.noex,a.exfs,a.funs,a.frf⟩
theorem Cx.Ok.dv{X:Cx}(a:(X.fx E).Ok):X.Ok:=
 ⟨a.mod,a.kind,a.glob,a.blt,a.above,a.inj,a.has,a.cab,a.hd,a.frames,a.stk,a.exf,a.bs,a.bsz,a.noex,a.exfs,a.funs,a.frf⟩
section
variable{X:Cx}{pins:List (Addr×Obj)}{σ:St}{H:Hp}{s:Shared}{E:Value->Shared->Prop}
theorem Inv.fx(I:Inv X pins σ H s)(E:Value->Shared->Prop):Inv (X.fx E) pins σ H s:=⟨I.ok.fx E,I.os,I.bare,I.base,I.loc,I.cell,I.free,I.freeC,I.pin,I.hok,I.len⟩
theorem Inv.dv(I:Inv (X.fx E) pins σ H s):Inv X pins σ H s:=⟨I.ok.dv,I.os,I.bare,I.base,I.loc,I.cell,I.free,I.freeC,I.pin,I.hok,I.len⟩
theorem SP.dv{D:Ends}(h:SP (X.fx E) pins D f s'):SP X pins D f s':=by
 cases f with
 |next=>obtain⟨a,b,I,q⟩:=h;exact⟨a,b,I.dv,q⟩
 |brk=>obtain⟨a,b,I,q⟩:=h;exact⟨a,b,I.dv,q⟩
 |cont=>obtain⟨a,b,I,q⟩:=h;exact⟨a,b,I.dv,q⟩
 |ret u=>obtain⟨v,a,b,I,r,q⟩:=h;exact⟨v,a,b,I.dv,r,q⟩
theorem PE.vu(h:PE X.vu e t):PE X e t:=λpins s σ H Q I c=>
 wpAny_mono (h pins s σ H Q (I.fx _) c) (λ_ _ ⟨v,b,a,r,q⟩=>⟨v,b,a.dv,r,q⟩) λ_ _ z=>False.elim z
theorem PT.vu(h:PT X.vu e t):PT X e t:=λpins s σ H Q I c=>
 wpAny_mono (h pins s σ H Q (I.fx _) c) (λ_ _ ⟨b,a,q⟩=>⟨b,a.dv,q⟩) λ_ _ z=>False.elim z
theorem PSs.vu{a:List Stmt}(h:PSs X.vu a t):PSs X a t:=λpins s σ H D I b=>
 wpAny_mono (h pins s σ H D (I.fx _) b) (λ_ _ q=>q.dv) λ_ _ z=>False.elim z
end
section
variable{X:Cx}{st:Stmt}{rest:List Stmt}{t u:TS}{e:Expr}{te:TE}{pos:Pos}
def tNext:TS:=λD a H=>D.nx a H
def Gj(t u:TS):TS:=λD a H=>t { D with nx:=u D } a H
theorem vR:PSs X [] tNext:=λ_ _ a H _ I h=>wpAny_execs_nil ⟨a,H,I,h⟩
theorem rD(g:PS X st t)(k:PSs X rest u):PSs X (st::rest) (Gj t u):=by
 intro a s j H D I h;refine wpAny_execs_cons (thn (g a s j H { D with nx:=u D } I h) λf i q=>?_);cases f with
 |next=>obtain⟨b,d,c,q⟩:=q;exact k a i b d D c q
 |ret v=>exact q
 |brk=>exact q
 |cont=>exact q
def Gk:TS:=λD a H=>D.bk a H
def tCont:TS:=λD a H=>D.ct a H
theorem kl:PS X (.Continue pos) tCont:=λ_ _ a H _ I h=>wpAny_Continue ⟨a,H,I,h⟩
theorem Inv.quiet{a:List (Addr×Obj)}{σ:St}(I:Inv X a σ H s):interactive X.env=false:=by simp[interactive,I.ok.kind]
def C1(te:TE):TS:=λD a H=>te a H λ_ b=>D.nx a b
theorem jo(d:PE X e te)(i:swapsWith e none pos.line X.env=pure false:=by rfl):PS X (.Expr e pos) (C1 te):=by intro a s b H D I h;exact wpAny_Expr_any (thn (d a s b H _ I h) λv j ⟨x,c,f,k,g⟩=>⟨b,c,f,g⟩) I.quiet i
def Gm(te:TE):TS:=λD a H=>te a H D.rt
theorem zQ(d:PE X e te):PS X (.Return (some e) pos) (Gm te):=by intro a s b H D I h;exact wpAny_Return_some (thn (d a s b H _ I h) λv j ⟨x,c,f,i,g⟩=>⟨x,b,c,f,i,g⟩)
def Ij:TS:=λD _ H=>D.rt .non H
def Gn(c:TT)(t u:TS):TS:=λD a H=>c a H λb d=>if b=true then t D a d else u D a d
theorem C2{c:Expr}{a b:List Stmt}{i:TT}(p:PT X c i)(n:PSs X a t)(q:PSs X b u):PS X (.If c a b pos) (Gn i t u):=by
 intro f s g H D I h;refine wpAny_If (thn (p f s g H _ I h) λd m o=>?_);obtain⟨l,j,k⟩:=o;cases d with
 |true=>exact n f m g l D j k
 |false=>exact q f m g l D j k
def tNever:TS:=λ_ _ _=>False
theorem rE:PS X st tNever:=λ_ _ _ _ _ _ h=>h.elim
end
abbrev TG:=V->St->Hp->(St->Hp->Prop)->Prop
abbrev TGs:=List V->St->Hp->(St->Hp->Prop)->Prop
def PG(X:Cx)(a:Expr)(t:TG):Prop:=
 ∀(b:List (Addr×Obj)) (s:Shared) (e:St) (H:Hp) (v:V) (u:Value) (Q:St->Hp->Prop),Inv X b e H s->RelV v u->t v e H Q ->
  wpAny (model X.prog X.w) X.A (assign a X.env u) (λ_ f=>∃c d,Inv X b c d f/\Q c d) X.xe s
def CL(X:Cx)(g:List Expr)(t:TGs):Prop:=
 ∀(a:List (Addr×Obj)) (s:Shared) (d:St) (H:Hp) (vs:List V) (e:List Value) (Q:St->Hp->Prop),Inv X a d H s->Vals vs e->t vs d H Q ->
  wpAny (model X.prog X.w) X.A (assignInOrder ((assignEach g X.env).map (·.2)) e) (λ_ f=>∃b c,Inv X a b c f/\Q b c) X.xe s
abbrev vS:=V->V->V->Hp->(Hp->Prop)->Prop
def PSet(X:Cx)(t:vS):Prop:=
 ∀(a:List (Addr×Obj)) (s:Shared) (d:St) (H:Hp) (o i v:V) (e b u:Value) (Q:Hp->Prop),Inv X a d H s->RelV o e->RelV i b->RelV v u->t o i v H Q ->
  wpAny (model X.prog X.w) X.A (setItem e b u) (λ_ f=>∃c,Inv X a d c f/\Q c) X.xe s
abbrev TIp:=V->V->Hp->VK->Prop
def C3(X:Cx)(c:Operator)(t:TIp):Prop:=
 ∀(a:List (Addr×Obj)) (s:Shared) (b:St) (H:Hp) (x y:V) (v u:Value) (Q:VK),Inv X a b H s->RelV x v->RelV y u->t x y H Q ->
  wpAny (model X.prog X.w) X.A (inplaceOp c v u) (EP X a b Q) X.xe s
section
variable{X:Cx}{pos:Pos}
def km(i:Nat):TG:=λv a H Q=>Q (a.set i (some v)) H
theorem vT(f:X.N.Nodup)(e:X.N[i]?=some x)(d:Loc X.env.scope x)(b:X.fn x=true\/X.env.scope.names.lookup x=some .local:=by first|exact .inl rfl|exact .inr rfl|assumption):PG X (.Name x pos) (km i):=by intro a s j H v u Q I r h;exact wpAny_assign_Name (bH I f e d r (λg c=>⟨_,H,c,h⟩) b)
def gNil:TGs:=λa b H Q=>a=[]/\Q b H
def C4(t:TG)(u:TGs):TGs:=λc d H Q=>∃v r,c=v::r/\t v d H λa b=>u r a b Q
theorem vU:CL X [] gNil:=by intro a s b H c d Q I r h;obtain⟨e,h⟩:=h;subst e;cases r;exact assignInOrder_nil ⟨b,H,I,h⟩
theorem rG{e:Expr}{es:List Expr}(k:PG X e t)(d:CL X es u)
  (l:(assignEach (e::es) X.env).map (·.2)=assign e X.env::(assignEach es X.env).map (·.2):=by rfl):CL X (e::es) (C4 t u):=by
 intro a s n H q w Q I r h;obtain⟨v,p,i,h⟩:=h;subst i;cases r with
 |cons r c=>rw[l];refine assignInOrder_cons (thn (k a s n H _ _ _ I r h) λ_ o m=>?_);obtain⟨b,j,f,g⟩:=m;exact d a o b j _ _ Q f c g
def Gp(K:Waa)(n:Nat)(t:TGs):TG:=λv c H Q=>∃a b,v=.ref a/\SqT K H a b/\b.length=n/\t b c H Q
theorem zR{k:Nat}(y:X.calm=true)(h:CL X es t)
  (z:(assignEach es X.env).length=n:=by rfl) (f:(assignEach es X.env).findIdx? (·.1)=none:=by rfl):PG X (.Tuple es k pos) (Gp X.K n t):=by
 intro c s g H v u Q I r d;obtain⟨a,B,w,l,q,d⟩:=d;subst w;cases r;obtain⟨A,i,m,C⟩:=I.tuple l;refine assign_Tuple_tuple (I.ok.hd y) m (by simp[z,<-q,i.length]) f λx j=>?_;have p:Inv X c g H { s with heap:=x }:=I.kept λb o e=>j b o (aas (Heap.lt_size e)) e;exact h c _ g H B _ Q p (by simpa using i) d
def Gq(f e:TE)(t:vS):TG:=λv a H Q=>f a H λo b=>e a b λi c=>t o i v c λd=>Q a d
theorem zT{o i:Expr}{g f:TE}{t:vS}(l:PE X o g)(C:PE X i f)(z:PSet X t)
  (n:∀v,assign (.Subscript o i pos) X.env v=(do
   let b <-holding [v] (eval o X.env)
   let c <-holding [v,b] (eval i X.env)
   standAt pos
   holding [v,b,c] (setItem b c v)
   release [v,b,c] []):=by intro _;rfl):PG X (.Subscript o i pos) (Gq g f t):=by
 intro a s e H v u Q I r h;rw[n];refine wpAny_bind (wpAny_holding (thn (l a s e H _ I h) λb M d=>?_));obtain⟨x,p,k,w,j⟩:=d;refine wpAny_bind (wpAny_holding (thn (C a M e p _ k j) λc A d=>?_));obtain⟨y,L,q,m,G⟩:=d;refine wpAny_bind (wpAny_standAt (wpAny_bind (wpAny_holding (thn (z a A e L x y v b c u _ q w m r G) λ_ N d=>?_))));obtain⟨B,D,J⟩:=d;exact wpAny_release ⟨e,B,D,J⟩
def rH(c:TE)(g:TG):TS:=λD a H=>c a H λx b=>g x a b D.nx
theorem rJ{b e:Expr}{c:TE}{g:TG}(m:PE X e c)(k:PG X b g)(o:swapsWithSole [b] e pos.line X.env=pure false:=by rfl)(j:swappedStores [b] e X.env=pure none:=by rfl)
  (p:(assignEach [b] X.env).map (·.2)=[assign b X.env]:=by rfl):PS X (.Assign [b] e pos) (rH c g):=by
 intro a s d H D I h;refine wpAny_Assign_stores (thn (m a s d H _ I h) λv t r=>?_) o j;obtain⟨x,l,i,n,f⟩:=r;rw[p];exact thn (k a t d l x v _ i n f) λ_ u q=>q
theorem zU{i:Nat}{x:Str}(q:X.N.Nodup)(o:X.N[i]?=some x)(b:Loc X.env.scope x)(g:PE X e te)(l:swapsWith e (some (.Name x pos')) pos.line X.env=pure false:=by rfl)(p:X.fn x=true\/X.env.scope.names.lookup x=some .local:=by first|exact .inl rfl|exact .inr rfl|assumption):
  PS X (.Assign [.Name x pos'] e pos) (rH te (km i)):=by
 intro a s n H D I h;refine wpAny_Assign_Name (thn (g a s n H _ I h) λv t m=>?_) l;obtain⟨y,f,c,k,d⟩:=m;exact bH c q o b k (λr j=>⟨_,f,j,d⟩) p
def Gr(i j:Nat)(d:TA):TS:=λD a H=>d a H λc b=>∃v w,c=[v,w]/\D.nx ((a.set i (some v)).set j (some w)) b
theorem zV{i j:Nat}{x y:Str}{t u d}(hc:X.calm=true)(L:X.N.Nodup)(hi:X.N[i]?=some x)(Z:X.N[j]?=some y)(l:i≠j)
  (z:X.env.scope.names.lookup x=some .local) (C:X.env.scope.names.lookup y=some .local) (S:PA X [a,b] ta)
  (O:swappedStores [.Tuple [.Name x px,.Name y py] t pt] (.Tuple [a,b] u d) X.env=pure (some [x,y]))
  (hs:swapsWithSole [.Tuple [.Name x px,.Name y py] t pt] (.Tuple [a,b] u d) pos.line X.env=pure false:=by rfl):
  PS X (.Assign [.Tuple [.Name x px,.Name y py] t pt] (.Tuple [a,b] u d) pos) (Gr i j ta):=by
 intro c s G H D I h;rw[exec_Assign_arm];refine wpAny_bind (wpAny_standAt ?_);rw[hs];refine wpAny_bind (wpAny_pure ?_);rw[if_neg (by decide)];refine wpAny_bind (Tuple_ (thn (S _ c s G H _ I h) λus k hZ=>?_));obtain⟨vs,B,M,Y,m⟩:=hZ;obtain⟨v,w,T,m⟩:=m;subst T;obtain⟨f,g,rfl,rv,n⟩:∃f g,us=[f,g]/\RelV v f/\RelV w g:=by
  cases Y with
  |cons p q=>
   cases q with
   |cons p' Q=>cases Q;exact⟨_,_,rfl,p,p'⟩
 refine wpAny_newObj_type ?_ (by show 2<=sizeLine;decide);have U:Inv X c G B { k with heap:=k.heap.push { cls:=.type "tuple",data:=.seq [f,g].toArray } }:=M.kept λb o e=>Heap.get?_push_of_some _ e;rw[O];refine wpAny_bind (wpAny_pure ?_);show wpAny (model X.prog X.w) X.A (do rule "assign.swapped-stores";let items <-unpackItems (.ref k.heap.objs.size) 2 none;assignInOrder [λv=>bindName X.env y v,λv=>bindName X.env x v] items.reverse;pure Flow.next) _ _ _;refine wpAny_bind (wpAny_rule (wpAny_bind (unpackItems_tuple (items:=#[f,g]) (I.ok.hd hc) (IsTup.new k.heap _) λh' r=>?_)));have I3:=U.kept (t':=k.toks) λb o e=>r b o (aas (Heap.lt_size e)) e;show wpAny _ _ (assignInOrder [λv=>bindName X.env y v,λv=>bindName X.env x v] [g,f] >>= λ_=>pure Flow.next) _ _ _;refine wpAny_bind (assignInOrder_cons (wpAny_bindName (bH I3 L Z (.inl C) n (λs2 I4=>?_) (.inr C))));refine assignInOrder_cons (wpAny_bindName (bH I4 L hi (.inl z) rv (λs3 J=>assignInOrder_nil (wpAny_pure ?_)) (.inr z)));rw[abC _ _ (aaN l)]at J;exact⟨_,B,J,m⟩
def Gs(i:Nat)(d:TE)(e:TIp):TS:=λD a H=>∃x,a[i]?=some (some x)/\d a H λy b=>e x y b λz c=>D.nx (a.set i (some z)) c
theorem rK{i:Nat}{x:Str}{j:Pos}(hN:X.N.Nodup)(B:X.N[i]?=some x)(o:Loc X.env.scope x)(Q:PE X e te)(J:C3 X op ti)(hf:X.fn x=true\/X.env.scope.names.lookup x=some .local:=by first|exact .inl rfl|exact .inr rfl|assumption):
  PS X (.AugAssign (.Name x j) op e pos) (Gs i te ti):=by
 intro a s t H D I h;obtain⟨v,O,h⟩:=h;obtain⟨m,hn,M⟩:=I.loc;have n:Vis X.env.scope x:=by rcases o with k|k;exact .inl k;exact .inr (.inl k)
 obtain⟨u,r,l⟩:=M i x v B O n;refine wpAny_AugAssign_Name ?_;have q:wpAny (model X.prog X.w) X.A (eval e X.env) (λw g=>wpAny (model X.prog X.w) X.A (inplaceOp op u w) (λr f=>wpAny (model X.prog X.w) X.A (storeName X.env x r) (λ_=>SP X a D .next) X.xe f) X.xe g) X.xe s:=by refine thn (Q a s t H _ I h) λw s1 p=>?_;obtain⟨y,S,C,Y,G⟩:=p;refine thn (J a s1 t S v y u w _ C r Y G) λz s2 p=>?_;obtain⟨zv,H2,U,L,q2⟩:=p;exact bH U hN B o L (λs3 I3=>⟨_,H2,I3,q2⟩) hf
 rcases l with ⟨b,T⟩|⟨b,c,Z,d⟩
 ·exact wpAny_loadName_local I.ok.kind b hn T q
 ·rcases b with b|b
  ·exact wpAny_loadName_cell I.ok.kind b Z d q
  ·rcases o with k|k
   ·have:X.env.scope.names.lookup x=some .free:=b;rw[k]at this;cases this
   ·have:X.env.scope.names.lookup x=some .free:=b;rw[k]at this;cases this
def Ik(f e j:TE)(b:V->V->Hp->VK->Prop)(d:TIp)(a:vS):TS:=λD c H=>f c H λo h=>e c h λi n=>b o i n λx l=>j c l λy m=>d x y m λz k=>a o i z k λg=>D.nx c g
def JB(X:Cx)(t:V->V->Hp->VK->Prop):Prop:=
 ∀(a:List (Addr×Obj)) (s:Shared) (c:St) (H:Hp) (o i:V) (d b:Value) (Q:VK),Inv X a c H s->RelV o d->RelV i b->t o i H Q ->
  wpAny (model X.prog X.w) X.A (getItem d b) (EP X a c Q) X.xe s
def Gu(f:Int->Int->Int):TIp:=λx y H Q=>∃i j,x=.int i/\y=.int j/\Q (.int (f i j)) H
theorem zW:C3 X .Add (Gu λi j=>i+j):=by intro a s f H x y v u Q I e b h;obtain⟨i,j,d,c,q⟩:=h;subst d;subst c;obtain⟨t,rfl⟩:=e;obtain⟨g,rfl⟩:=b;exact iadd_int ⟨.int _,H,I.tok _,⟨_,rfl⟩,q⟩
theorem zX:C3 X .Sub (Gu λi j=>i-j):=by intro a s f H x y v u Q I e b h;obtain⟨i,j,d,c,q⟩:=h;subst d;subst c;obtain⟨t,rfl⟩:=e;obtain⟨g,rfl⟩:=b;exact isub_int ⟨.int _,H,I.tok _,⟨_,rfl⟩,q⟩
end
section
variable{X:Cx}{pos:Pos}
def zY(c:TT)(h:TS):TS:=λD a H=>∃W:Nat->St->Hp->Prop,(∃m,W m a H)/\∀m a H,W m a H ->
 c a H λb e=>if b=true then ∃N:St->Hp->Prop,(∀d f,N d f->∃g,g<m/\W g d f)/\h { D with nx:=N,ct:=N,bk:=D.nx } a e else D.nx a e
theorem rL{c:Expr}{g:List Stmt}(z:PassesOwn (model X.prog X.w) X.A X.env X.xe)(S:PT X c tc)(Y:PSs X g tb):PS X (.While c g [] pos) (zY tc tb):=by
 intro a s Q H D I h;obtain⟨W,⟨T,J⟩,i⟩:=h;refine wpAny_While (codeAny_whileLoop (λn U=>∃k x,Inv X a k x U/\W n k x) ?_ T ⟨Q,H,I,J⟩);rintro n Z ⟨e,u,G,M⟩;refine wpAny_passesOwn z (thn (S a Z e u _ G (i n e u M)) λb L O=>?_);obtain⟨B,y,l⟩:=O;cases b with
 |true=>
  obtain⟨N,C,l⟩:=l;rw[if_pos rfl];refine wpAny_passesOwn z (thn (Y a L e B _ y l) λf s3 m=>?_);cases f with
  |next=>obtain⟨d,j,q,p⟩:=m;obtain⟨r,o,t⟩:=C d j p;exact⟨r,o,d,j,q,t⟩
  |cont=>obtain⟨d,j,q,p⟩:=m;obtain⟨r,o,t⟩:=C d j p;exact⟨r,o,d,j,q,t⟩
  |brk=>exact m
  |ret v=>exact m
 |false=>rw[if_neg aad];exact wpAny_execs_nil ⟨e,B,y,l⟩
end
structure It where
 go:Nat->Hp->Prop
 yld:Nat->Hp->V->Hp->Prop
 stop:Nat->Hp->Prop
def FpOk(X:Cx)(a:List (Addr×Obj))(H:Hp)(b:Addr):Prop:=
 H b=none/\b≠X.env.locals/\b ∉ X.fs/\(b∈X.ex\/X.s₀.heap.objs.size<=b)/\(∀x c,X.env.cells.lookup x=some c->c≠b)/\∀p∈X.pn++a,p.1≠b
theorem Inv.qd(I:Inv X pins σ H s)(a:s.heap.objs.size<=b)(f:H' b=none):FpOk X pins H' b:=by
 refine⟨f,aa7 (aay I.lt a),I.nofs a,.inr (aat I.sz a),λx c e z=>?_,λp d z=>?_⟩
 ·obtain⟨v,q⟩:=I.cell x c e;exact absurd (aay q.lt (by rw[z];exact a)) (aa3 _)
 ·exact absurd (aay (Heap.lt_size (I.pin p d).1) (by rw[z];exact a)) (aa3 _)
structure Turn (P:Program)(w:World)(K:Waa)(tg:Expr)(J:It)(fp:List Addr)(it:Addr)(tn:Nat->Heap->Prop):Prop where
 mem:it∈fp
 obj:∀i h,tn i h->∀b∈fp,∃o,h.get? b=some o/\∀v,o.data≠.cell v
 keep:∀i h h',tn i h->(∀b∈fp,∀o,h.get? b=some o->h'.get? b=some o)->tn i h'
 item:∀(X:Cx),X.prog=P->X.w=w->X.K=K->X.calm=true->∀(i:Nat) (pins:List (Addr×Obj)) (s:Shared) (σ:St) (H:Hp) (E:Value->Shared->Prop),Inv X pins σ H s->(∀b∈fp,FpOk X pins H b)->tn i s.heap->J.go i H ->
  wpAny (model P w) X.A (pyNext (.ref it)) (λr s1=>∃u,r=some u /\
   wpAny (model P w) X.A (letOwnedTupleGo tg (.ref it) u) (λ_ s2=>∃x H',Inv X pins σ H' s2/\RelV x u/\J.yld i H x H'/\tn (i+1) s2.heap/\∀b∈fp,H' b=none) E s1) E s
 done:∀(X:Cx),X.prog=P->X.w=w->X.K=K->X.calm=true->∀(i:Nat) (pins:List (Addr×Obj)) (s:Shared) (σ:St) (H:Hp) (E:Value->Shared->Prop),Inv X pins σ H s->(∀b∈fp,FpOk X pins H b)->tn i s.heap->J.stop i H ->
  wpAny (model P w) X.A (pyNext (.ref it)) (λr s1=>r=none/\Inv X pins σ H s1) E s
 self:∀(A:Around) (i:Nat) (s:Shared) (Q:Value->Shared->Prop) (E:Value->Shared->Prop),tn i s.heap->Q (.ref it) s->wpAny (model P w) A (pyIter (.ref it)) Q E s
abbrev TI:=St->Hp->(It->Hp->Prop)->Prop
def Im(X:Cx)(a:List (Addr×Obj))(σ:St)(i:Expr)(R:It->Hp->Prop)(d:Value)(g:Shared):Prop:=
 ∃(f:Addr) (h:List Addr) (e:Nat->Heap->Prop) (J:It) (c:Hp),d=.ref f/\Inv X a σ c g/\Turn X.prog X.w X.K i J h f e/\e 0 g.heap/\(∀b∈h,FpOk X a c b)/\R J c
def PI(X:Cx)(f b:Expr)(e:TI):Prop:=
 ∀(a:List (Addr×Obj)) (s:Shared) (c:St) (H:Hp) (R:It->Hp->Prop),Inv X a c H s->e c H R ->
  wpAny (model X.prog X.w) X.A (eval b X.env) (λv d=>wpAny (model X.prog X.w) X.A (pyIter v) (Im X a c f R) X.xe d) X.xe s
theorem ni(d:s.heap.get? it=some o)(b:o.cls=.type n)(c:o.data=.fields vs)
  (e:["enumerate","zip","dict_itemiterator","dict_reverseitemiterator","odict_iterator","itertools.zip_longest","itertools.pairwise"].contains n=false) (a:Q () s):wpAny M A (letOwnedTupleGo tg (.ref it) u) Q E s:=by
 unfold letOwnedTupleGo;cases tg<;>first
  |exact wpAny_pure a
  | (cases u<;>first
    |exact wpAny_pure a
    | (refine wpAny_bind (wpAny_load d ?_)
       rw[b,c];show wpAny M A (if (["enumerate","zip","dict_itemiterator","dict_reverseitemiterator","odict_iterator","itertools.zip_longest","itertools.pairwise"].contains n&&vs[0]?==some (rawInt _))=true then _ else _) Q E s;rw[if_neg (by intro h;rw[e,abY]at h;cases h)];exact wpAny_pure a))
def Gv(K:Waa)(a:Addr):It:=
 ⟨λi H=>∃b x,SqL K H a b/\b[i]?=some x,λi H x c=>c=H/\∀b,SqL K H a b->b[i]?=some x,λi H=>∃b,SqL K H a b/\b.length<=i⟩
def Gw(K:Waa)(a:Addr):It:=
 ⟨λi H=>∃b x,SqT K H a b/\b[i]?=some x,λi H x c=>c=H/\∀b,SqT K H a b->b[i]?=some x,λi H=>∃b,SqT K H a b/\b.length<=i⟩
def C5(lo:Int)(n:Nat):It:=⟨λi _=>i<n,λi H x a=>a=H/\x=.int (lo+i),λi _=>n<=i⟩
theorem pP{K:Waa}(a j:Addr):Turn P w K tg (Gv K a) [j] j (λi h=>h.IsListIter j a i) where
 mem:=by simp
 obj:=λi h f b l=>by
  have e:b=j:=by simpa using l
  subst e;obtain⟨o,e,c,d⟩:=f;exact⟨o,e,λv z=>by rw[d]at z;cases z⟩
 keep:=λi h G f k=>f.at λo e=>k j (by simp) o e
 item:=by intro X D A L S i g s Q H E I q f t;subst D A L;obtain⟨xs,x,n,r⟩:=t;obtain⟨J,M,p,Z⟩:=I.list n;obtain⟨u,hu,ru⟩:=M.get r;obtain⟨N,B,f2,O,y,C⟩:=q j (by simp);refine wpAny_pyNext_list_item f p.isList (by simpa using hu) λG m U=>?_;have Y:Inv X g Q H { s with heap:=G }:=I.turned (λb o l e=>(U.2 b l).trans e) N B O y C;obtain⟨o,e,c,d⟩:=id m;exact⟨u,rfl,ni e c d (by decide) ⟨x,H,Y,ru,⟨rfl,λys hy=>by rw[I.ro hy n];exact r⟩,m,λb l=>(q b l).1⟩⟩
 done:=by
  intro X D A L S i g s Q H E I q f t;subst D A L;obtain⟨xs,n,r⟩:=t;obtain⟨J,M,p,Z⟩:=I.list n;obtain⟨N,B,f2,O,y,C⟩:=q j (by simp);have hl:=M.length;exact wpAny_pyNext_list_end (I.ok.hd S) f p.isList (by simp;omega) λG T=>⟨rfl,I.turned (λb o l e=>T b o l e) N B O y C⟩
 self:=λ_ _ _ _ _ f h=>wpAny_pyIter_listiter f h
theorem lN{K:Waa}(a j:Addr):Turn P w K tg (Gw K a) [j] j (λi h=>h.IsTupleIter j a i) where
 mem:=by simp
 obj:=λi h f b m=>by
  have e:b=j:=by simpa using m
  subst e;obtain⟨o,e,c,d⟩:=f;exact⟨o,e,λv z=>by rw[d]at z;cases z⟩
 keep:=λi h J f k=>f.at λo e=>k j (by simp) o e
 item:=by intro X G B L S i g s Q H E I r f y;subst G B L;obtain⟨xs,x,q,t⟩:=y;obtain⟨l,M,p,Z⟩:=I.tuple q;obtain⟨u,hu,ru⟩:=M.get t;obtain⟨N,C,f2,O,A,D⟩:=r j (by simp);refine wpAny_pyNext_tuple_item f (show s.heap.IsTuple a l.toArray from p) (by simpa using hu) λJ n U=>?_;have Y:Inv X g Q H { s with heap:=J }:=I.turned (λb o m e=>(U.2 b m).trans e) N C O A D;obtain⟨o,e,c,d⟩:=id n;exact⟨u,rfl,ni e c d (by decide) ⟨x,H,Y,ru,⟨rfl,λys hy=>by rw[I.tr hy q];exact t⟩,n,λb m=>(r b m).1⟩⟩
 done:=by
  intro X G B L S i g s Q H E I r f y;subst G B L;obtain⟨xs,q,t⟩:=y;obtain⟨l,M,p,Z⟩:=I.tuple q;obtain⟨N,C,f2,O,A,D⟩:=r j (by simp);have hl:=M.length;exact wpAny_pyNext_tuple_end (I.ok.hd S) f (show s.heap.IsTuple a l.toArray from p) (by simp;omega) λJ T=>⟨rfl,I.turned (λb o m e=>T b o m e) N C O A D⟩
 self:=λ_ _ _ _ _ f h=>wpAny_pyIter_tupleiter f h
theorem lO{K:Waa}(c:Addr)(lo:Int)(n:Nat):Turn P w K tg (C5 lo n) [c] c (λi h=>IsRangeIter h c (lo+(i:Nat)*1) ((n:Int)-(i:Nat)) 1) where
 mem:=by simp
 obj:=λi h a b f=>by
  have e:b=c:=by simpa using f
  subst e;exact⟨_,a,λv z=>by
   have M:Data.fields _=Data.cell v:=z;cases M⟩
 keep:=λi h x a k=>k c (by simp) _ a
 item:=by intro X u p A y i d s D H E I j a l;subst u p A;obtain⟨B,q,Q,C,m,r⟩:=j c (by simp);have W:=Walks.range (prog:=X.prog) (w:=X.w) (I.ok.hd y) c lo 1 n;refine W.item i s _ _ l a λv x O L g N=>?_;obtain⟨t,rfl⟩:=L;have J:Inv X d D H { s with heap:=x,toks:=O }:=I.turned (λb o f e=>N b o (by simpa using f) e) B q C m r;refine⟨_,rfl,ni g rfl rfl (by decide) ⟨.int (lo+i),H,J,⟨t,?_⟩,⟨rfl,rfl⟩,g,λb f=>(j b f).1⟩⟩;rw[Int.mul_one]
 done:=by
  intro X u p A y i d s D H E I j a l;subst u p A;obtain⟨B,q,Q,C,m,r⟩:=j c (by simp);exact wpAny_pyNext_range_end (I.ok.hd y) a (by have:n<=i:=l;omega) λx G=>⟨rfl,I.turned (λb o f e=>G b o f e) B q C m r⟩
 self:=λ_ _ _ _ _ a h=>wpAny_pyIter_rangeiter a h
end
section
section
variable{X:Cx}{tg:Expr}
def C6(K:Waa)(e:TE):TI:=λc H R=>e c H λx b=>∃a,x=.ref a/\(∃d,SqL K b a d)/\R (Gv K a) b
def Gx(K:Waa)(e:TE):TI:=λc H R=>e c H λx b=>∃a,x=.ref a/\(∃d,SqT K b a d)/\R (Gw K a) b
theorem vV{l:Expr}{g:TE}(k:PE X l g):PI X tg l (C6 X.K g):=by
 intro c s t H R I h;refine thn (k c s t H _ I h) λv f r=>?_;obtain⟨x,m,d,n,j⟩:=r;obtain⟨a,e,⟨A,i⟩,q⟩:=j;subst e;cases n;obtain⟨u,z,p,y⟩:=d.list i;refine wpAny_pyIter_list p.isList ?_;refine⟨f.heap.objs.size,[f.heap.objs.size],_,_,m,rfl,d.kept (t':=f.toks) λb o e=>Heap.get?_push_of_some _ e,pP a _,⟨_,Heap.get?_push_size _ rfl,rfl,rfl⟩,λb w=>?_,q⟩;have e:b=f.heap.objs.size:=by simpa using w
 subst e;exact d.qd (aag _) (d.hok.fresh (aag _))
theorem zZ{l:Expr}{i:TE}(m:PE X l i):PI X tg l (Gx X.K i):=by
 intro d s u H R I h;refine thn (m d s u H _ I h) λv c t=>?_;obtain⟨x,n,f,r,k⟩:=t;obtain⟨a,e,⟨A,j⟩,q⟩:=k;subst e;cases r;obtain⟨g,z,p,y⟩:=f.tuple j;refine wpAny_pyIter_tuple (show c.heap.IsTuple a g.toArray from p) ?_;refine⟨c.heap.objs.size,[c.heap.objs.size],_,_,n,rfl,f.kept (t':=c.toks) λb o e=>Heap.get?_push_of_some _ e,lN a _,⟨_,Heap.get?_push_size _ rfl,rfl,rfl⟩,λb w=>?_,q⟩;have e:b=c.heap.objs.size:=by simpa using w
 subst e;exact f.qd (aag _) (f.hok.fresh (aag _))
theorem ko{R:It->Hp->Prop}{lo a:Int}{t u v:Tok}{d:Nat}(I:Inv X pins σ H s)(j:-(2^62)<=lo)(g:lo<2^62)(f:-(2^62)<=a)(k:a<2^62)
  (q:R (C5 lo (a-lo).toNat) H):wpAny (model X.prog X.w) X.A (pyIter (.ref s.heap.objs.size)) (Im X pins σ tg R) E { s with heap:=s.heap.push { cls:=.type "range",data:=.fields #[.int lo t,.int a u,.int 1 v] },toks:=d }:=by
 refine wpAny_pyIter_range (IsRange.new ..) (small_one j g f k) ?_;have c:Inv X pins σ H { s with heap:=s.heap.push { cls:=.type "range",data:=.fields #[.int lo t,.int a u,.int 1 v] },toks:=d }:=I.kept λb o e=>Heap.get?_push_of_some _ e;refine⟨(s.heap.push { cls:=.type "range",data:=.fields #[.int lo t,.int a u,.int 1 v] }).objs.size,[(s.heap.push { cls:=.type "range",data:=.fields #[.int lo t,.int a u,.int 1 v] }).objs.size],_,_,H,rfl,
  c.kept λb o e=>Heap.get?_push_of_some _ e,lO _ lo (a-lo).toNat,?_,λb l=>?_,q⟩
 ·have i:lo+((0:Nat):Int)*1=lo:=by simp
  have h:(((a-lo).toNat:Nat):Int)-((0:Nat):Int)=Builtin.Range.rangeSize lo a 1:=by rw[rangeSize_one];split<;>omega
  show IsRangeIter _ _ (lo+((0:Nat):Int)*1) ((((a-lo).toNat:Nat):Int)-((0:Nat):Int)) 1;rw[i,h];exact Heap.get?_push_size _ rfl
 ·have e:b=(s.heap.push { cls:=.type "range",data:=.fields #[.int lo t,.int a u,.int 1 v] }).objs.size:=by simpa using l
  subst e;exact c.qd (aag _) (c.hok.fresh (aag _))
def C7(d:TA):TI:=λc H R=>d c H λb a=>∃j:Int,b=[.int j]/\-(2^62)<=j/\j<2^62/\R (C5 0 j.toNat) a
def C8(d:TA):TI:=λc H R=>d c H λb a=>∃i j:Int,b=[.int i,.int j]/\(-(2^62)<=i/\i<2^62/\-(2^62)<=j/\j<2^62)/\R (C5 i (j-i).toNat) a
theorem pQ{a:Expr}{f:TA}{p b:Pos} (k:Gl X "range") (m:X.mg "range"=none) (l:PA X [a] f) (o:starEach [a] X.env=[(false,eval a X.env)]:=by rfl):PI X tg (.Call (.Name "range" p) [a] [] b) (C7 f):=by
 intro c s v H R I h;refine Call_ (eh I k m boot_range (abh (thn (l b c s v H _ I h) λA y u=>?_) o rfl));obtain⟨z,x,i,n,d⟩:=u;obtain⟨j,e,d,w,q⟩:=d;subst e;cases n with
 |cons r g=>cases g;obtain⟨t,rfl⟩:=r;exact call_range_1 (ko i (by omega) (by omega) d w (by simpa using q))
theorem pR{a b:Expr}{l:TA}{p c:Pos} (u:Gl X "range") (w:X.mg "range"=none) (v:PA X [a,b] l) (y:starEach [a,b] X.env=[(false,eval a X.env),(false,eval b X.env)]:=by rfl) (d:starEach [b] X.env=[(false,eval b X.env)]:=by rfl):
  PI X tg (.Call (.Name "range" p) [a,b] [] c) (C8 l):=by
 intro f s A H R I h;refine Call_ (eh I u w boot_range (abh (thn (v c f s A H _ I h) λG L z=>?_) (by rw[y,d]) (by rw[d];rfl)));obtain⟨M,D,o,x,k⟩:=z;obtain⟨i,j,e,⟨k,B,C,m⟩,q⟩:=k;subst e;cases x with
 |cons r g=>
  cases g with
  |cons n g=>cases g;obtain⟨t,rfl⟩:=r;obtain⟨J,rfl⟩:=n;exact call_range_2 (ko o k B C m q)
def Gy(j:TI)(g:TG)(k:TS):TS:=λD a H=>j a H λJ f=>∃W:Nat->Nat->St->Hp->Prop,(∃m,W 0 m a f)/\∀i m a H,W i m a H ->
 (J.stop i H/\D.nx a H)\/(J.go i H/\∃N:St->Hp->Prop,(∀c b,N c b->∃e,e<m/\W (i+1) e c b)/\∀x b,J.yld i H x b->g x a b λd h=>k { D with nx:=N,ct:=N,bk:=D.nx } d h)
def pinsAt(a:List Addr)(h:Heap):List (Addr×Obj):=a.filterMap λb=>(h.get? b).map λo=>(b,o)
theorem bB(a:b∈fp)(e:h.get? b=some o):(b,o)∈pinsAt fp h:=List.mem_filterMap.mpr ⟨b,a,by rw[e];rfl⟩
theorem pS(c:p∈pinsAt fp h):p.1∈fp/\h.get? p.1=some p.2:=by
 obtain⟨b,a,e⟩:=List.mem_filterMap.mp c;cases q:h.get? b with
 |none=>rw[q]at e;cases e
 |some o=>rw[q]at e;have d:(b,o)=p:=aaE e;subst d;exact⟨a,q⟩
theorem Inv.pinned(I:Inv X pins σ H s)(f:∀b∈fp,FpOk X pins H b)(j:∀b∈fp,∃o,s.heap.get? b=some o/\∀v,o.data≠.cell v):Inv X (pins++pinsAt fp s.heap) σ H s:=
 I.rr λp h=>(aam.mp h).elim (λz=>I.pin p (aae _ z)) λz=>by obtain⟨a,e⟩:=pS z;obtain⟨k,g,i,_⟩:=f p.1 a;obtain⟨o,c,d⟩:=j p.1 a;rw[e]at c;cases c;exact⟨e,k,g,i,d⟩
theorem Inv.et(I:Inv X (pins++pl) σ H s):Inv X pins σ H s:=I.rr λp a=>I.pin p (aae _ (aah _ a))
theorem z5{j:Expr}{C:List Stmt}{a3:Pos}(Q:PassesOwn (model X.prog X.w) X.A X.env X.xe)(hc:X.calm=true)(hi:PI X tg j wi)(hg:PG X tg g)(q:PSs X C tb)
  (hs:∀x,foldedSetIterable j X.env x=pure x:=by intro _;rfl):PS X (.For tg j C [] a3) (Gy wi g tb):=by
 intro c s σ H D I h;refine wpAny_For (thn (hi c s σ H _ I h) λv s1 h1=>thn h1 λa7 s2 h2=>?_) hs;obtain⟨it,U,tn,J,H2,e,I2,T,a4,f2,W,⟨m0,w0⟩,a0⟩:=h2;subst e;have y:∀{B:Hp},(∀b∈U,B b=none)->∀b∈U,FpOk X c B b:=λhn b q=>⟨hn b q,(f2 b q).2⟩
 refine codeAny_forLoop_any (λn s'=>∃i z B,Inv X c z B s'/\tn i s'.heap/\(∀b∈U,B b=none)/\W i n z B) ?_ m0 ⟨0,σ,H2,I2,a4,λb q=>(f2 b q).1,w0⟩;rintro n s3 ⟨i,t,H3,I3,a1,O,w3⟩;rcases a0 i n t H3 w3 with ⟨Y,qn⟩|⟨go,N,hN,S⟩
 ·refine wpAny_passesOwn Q (thn (T.done X rfl rfl rfl hc i c s3 t H3 X.xe I3 (y O) a1 Y) λr s4 M=>?_);obtain⟨hr,I4⟩:=M;subst hr;exact wpAny_execs_nil ⟨t,H3,I4,qn⟩
 ·refine wpAny_passesOwn Q (thn (T.item X rfl rfl rfl hc i c s3 t H3 X.xe I3 (y O) a1 go) λr s4 M=>?_);obtain⟨u,hr,h4⟩:=M;subst hr;refine wpAny_passesOwn Q (thn h4 λ_ s5 M=>?_);obtain⟨x,H5,I5,r5,y5,L,a2⟩:=M;have a5:=I5.pinned (y a2) (T.obj _ _ L);refine wpAny_passesOwn Q (thn (hg _ s5 t H5 x u _ a5 r5 (S x H5 y5)) λ_ s6 M=>?_);obtain⟨a6,H6,I6,q6⟩:=M;refine wpAny_passesOwn Q (thn (q _ s6 a6 H6 _ I6 q6) λf s7 G=>?_);have p:∀{a:St}{l:Hp},Inv X (c++pinsAt U s5.heap) a l s7->N a l->∃m,m<n/\∃i z B,Inv X c z B s7/\tn i s7.heap/\(∀b∈U,B b=none)/\W i m z B:=λ{a l} k Z=>by obtain⟨m',hm,w7⟩:=hN a l Z;refine⟨m',hm,i+1,a,l,k.et,T.keep _ _ _ L λb q o e=>(k.pin (b,o) (aae _ (aae _ (bB q e)))).1,λb q=>?_,w7⟩;obtain⟨o,e,d⟩:=T.obj _ _ L b q;exact(k.pin (b,o) (aae _ (aae _ (bB q e)))).2.1
  cases f with
  |next=>obtain⟨a,l,k,Z⟩:=G;exact p k Z
  |cont=>obtain⟨a,l,k,Z⟩:=G;exact p k Z
  |brk=>obtain⟨a,l,k,G⟩:=G;exact⟨a,l,k.et,G⟩
  |ret v=>obtain⟨x7,a,l,k,r7,G⟩:=G;exact⟨x7,a,l,k.et,r7,G⟩
end
end
section
abbrev R2:=V->V->Hp->VK->Prop
def OpR(X:Cx)(f:Value->Value->Sem Value)(r:R2):Prop:=
 ∀(a:List (Addr×Obj)) (s:Shared) (b:St) (H:Hp) (x y:V) (v u:Value) (Q:VK),Inv X a b H s->RelV x v->RelV y u->r x y H Q ->
  wpAny (model X.prog X.w) X.A (f v u) (EP X a b Q) X.xe s
def Gz(X:Cx)(f:Value->Sem Value)(r:V->Hp->VK->Prop):Prop:=
 ∀(a:List (Addr×Obj)) (s:Shared) (b:St) (H:Hp) (x:V) (v:Value) (Q:VK),Inv X a b H s->RelV x v->r x H Q ->
  wpAny (model X.prog X.w) X.A (f v) (EP X a b Q) X.xe s
def CallR(X:Cx)(f:Value)(r:List V->Hp->VK->Prop):Prop:=
 ∀(a:List (Addr×Obj)) (s:Shared) (b:St) (H:Hp) (c:List V) (d:List Value) (Q:VK),Inv X a b H s->Vals c d->r c H Q ->
  wpAny (model X.prog X.w) X.A (call f d) (EP X a b Q) X.xe s
def GA(X:Cx)(r:V->Hp->(Bool->Hp->Prop)->Prop):Prop:=
 ∀(a:List (Addr×Obj)) (s:Shared) (b:St) (H:Hp) (x:V) (v:Value) (Q:Bool->Hp->Prop),Inv X a b H s->RelV x v->r x H Q ->
  wpAny (model X.prog X.w) X.A (truthy v) (TP X a b Q) X.xe s
def C9(r:R2)(e d:TE):TE:=λa H Q=>e a H λx b=>d a b λy c=>r x y c Q
def JC(r:V->Hp->VK->Prop)(c:TE):TE:=λb H Q=>c b H λx a=>r x a Q
def rI(C:Int->Int->Prop)(g:Int->Int->V):R2:=λx y H Q=>∃i j,x=.int i/\y=.int j/\C i j/\Q (g i j) H
def vJ(g:Int->Int->V):R2:=λx y H Q=>∃i j,x=.int i/\y=.int j/\Q (g i j) H
def rU(g:Int->V):V->Hp->VK->Prop:=λx H Q=>∃i,x=.int i/\Q (g i) H
section
variable{X:Cx}{a b c:Expr}{ta tb tc:TE}{pos:Pos}
theorem z6(p:PE X a ta)(B:PE X b tb){d:List (Addr×Obj)}{s:Shared}{R:V->V->Hp->Prop}(I:Inv X d σ H s)
  (h:ta σ H λx k=>tb σ k λy e=>R x y e) {f:Value->Value->Sem Value}
  (z:∀v u j x y e,Inv X d σ e j->RelV x v->RelV y u->R x y e->wpAny (model X.prog X.w) X.A (f v u) Q X.xe j):
  wpAny (model X.prog X.w) X.A (eval a X.env) (λv i=>wpAny (model X.prog X.w) X.A (eval b X.env) (λu g=>wpAny (model X.prog X.w) X.A (f v u) Q X.xe g) X.xe i) X.xe s:=by
 refine thn (p d s σ H _ I h) λv C l=>?_;obtain⟨x,k,m,r,n⟩:=l;refine thn (B d C σ k _ m n) λu j l=>?_;obtain⟨y,e,q,o,t⟩:=l;exact z v u j x y e q r o t
theorem rM(e:OpR X (binaryOp op) r)(f:PE X a ta)(n:PE X b tb):PE X (.BinOp a op b pos) (C9 r ta tb):=by intro d s l H Q I h;exact wpAny_BinOp (z6 f n I h λv u k x y m i j g q=>e d k l m x y v u Q i j g q)
theorem yy{e:UnaryOp}(m:Gz X (unaryOp e) r)(g:PE X a ta):PE X (.UnaryOp e a pos) (JC r ta):=by intro d s f H Q I h;exact UnaryOp_ (thn (g d s f H _ I h) λv j ⟨x,i,k,n,l⟩=>m d j f i x v Q k n l)
theorem FV{f:Value->Value->Sem Value}{g:Int->Int->Int}
  (rule:∀(i j:Int) (t u:Tok) (s:Shared) (Q:Value->Shared->Prop) (E:Value->Shared->Prop),C i j->Q (.int (g i j) s.toks) { s with toks:=s.toks+1 }->wpAny (model X.prog X.w) X.A (f (.int i t) (.int j u)) Q E s):
  OpR X f (rI C λi j=>.int (g i j)):=by
 intro d s n H x y v u Q I k e h;obtain⟨i,j,rfl,rfl,m,q⟩:=h;obtain⟨t,rfl⟩:=k;obtain⟨l,rfl⟩:=e;exact rule i j t l s _ _ m ⟨.int (g i j),H,I.tok _,⟨_,rfl⟩,q⟩
theorem Da{f:Value->Value->Sem Value}{g:Int->Int->Int}
  (rule:∀(i j:Int) (t u:Tok) (s:Shared) (Q:Value->Shared->Prop) (E:Value->Shared->Prop),Q (.int (g i j) s.toks) { s with toks:=s.toks+1 }->wpAny (model X.prog X.w) X.A (f (.int i t) (.int j u)) Q E s):
  OpR X f (vJ λi j=>.int (g i j)):=by
 intro d s m H x y v u Q I k e h;obtain⟨i,j,rfl,rfl,q⟩:=h;obtain⟨t,rfl⟩:=k;obtain⟨l,rfl⟩:=e;exact rule i j t l s _ _ ⟨.int (g i j),H,I.tok _,⟨_,rfl⟩,q⟩
theorem vW{g:Int->Int->Bool}
  (rule:∀(i j:Int) (t u:Tok) (s:Shared) (Q:Value->Shared->Prop) (E:Value->Shared->Prop),Q (.bool (g i j)) s->wpAny (model X.prog X.w) X.A (f (.int i t) (.int j u)) Q E s):
  OpR X f (vJ λi j=>.bl (g i j)):=by
 intro d s m H x y v u Q I k e h;obtain⟨i,j,rfl,rfl,q⟩:=h;obtain⟨t,rfl⟩:=k;obtain⟨l,rfl⟩:=e;exact rule i j t l s _ _ ⟨.bl (g i j),H,I,rfl,q⟩
def Dc(i j:Int):Prop:=0<j/\j<1073741824
def Io(i j:Int):Prop:=j≠0/\j.natAbs<1073741824
def De(i j:Int):Prop:=0<=j/\j<=1000000/\i.natAbs<2^64
def CMul(i j:Int):Prop:=(-(2^64)<i/\i<2^64)\/(-(2^64)<j/\j<2^64)
theorem CMul.ok{i j:Int}(h:CMul i j):IntMulOk i j:=by
 rcases h with ⟨e,d⟩|⟨e,d⟩
 ·exact .of_left (intBits_le_64 e d)
 ·exact .of_right (intBits_le_64 e d)
theorem z7:OpR X (binaryOp .Add) (vJ λi j=>.int (i+j)):=Da λ_ _ _ _ _ _ _ q=>add_int q
theorem z8:OpR X (binaryOp .Sub) (vJ λi j=>.int (i-j)):=Da λ_ _ _ _ _ _ _ q=>sub_int q
theorem z9:OpR X (binaryOp .Mult) (rI CMul λi j=>.int (i*j)):=FV λ_ _ _ _ _ _ _ d q=>mul_int q d.ok
theorem vX:OpR X (binaryOp .FloorDiv) (rI Dc λi j=>.int (i/j)):=FV λi j _ _ _ _ _ d q=>by have f:(0:Int)<j:=d.1;have e:j<1073741824:=d.2;exact floordiv_int (by omega) (by rw[Int.fdiv_eq_ediv_of_nonneg i (by omega)];exact q) (.inl (ack (by omega)))
theorem Aa:OpR X (binaryOp .Mod) (rI (λ_ j=>0<j) λi j=>.int (i%j)):=FV λi j _ _ _ _ _ d q=>by have e:(0:Int)<j:=d;exact mod_int' (by omega) (by rw[Int.fmod_eq_emod_of_nonneg i (by omega)];exact q)
theorem Ab:OpR X (binaryOp .Pow) (rI De λi j=>.int (i^j.toNat)):=FV λ_ _ _ _ _ _ _ d q=>pow_int_small d.1 d.2.1 d.2.2 q
theorem JD{f:Value->Sem Value}{g:Int->Int}
  (rule:∀(i:Int) (t:Tok) (s:Shared) (Q:Value->Shared->Prop) (E:Value->Shared->Prop),Q (.int (g i) s.toks) { s with toks:=s.toks+1 }->wpAny (model X.prog X.w) X.A (f (.int i t)) Q E s):
  Gz X f (rU λi=>.int (g i)):=by
 intro d s j H x v Q I e h;obtain⟨i,rfl,q⟩:=h;obtain⟨t,rfl⟩:=e;exact rule i t s _ _ ⟨.int (g i),H,I.tok _,⟨_,rfl⟩,q⟩
theorem rN:Gz X (unaryOp .USub) (rU λi=>.int (-i)):=JD λ_ _ _ _ _ q=>neg_int q
end
def Ac:V->V->Bool
 |.non,.non=>true|.non,.int _=>true|.int _,.non=>true|.non,.bl _=>true|.bl _,.non=>true|.non,.str _=>true|.str _,.non=>true
 |.int _,.int _=>true|.bl _,.bl _=>true|.str _,.str _=>true|.byt _,.byt _=>true
 |.int _,.str _=>true|.str _,.int _=>true|.bl _,.str _=>true|.str _,.bl _=>true
 |_,_=>false
def rEq:R2:=λx y H Q=>Ac x y=true/\Q (.bl (decide (x=y))) H
def rNe:R2:=λx y H Q=>Ac x y=true/\Q (.bl (!decide (x=y))) H
theorem nj:decide (V.int i=V.int j)=(i==j):=by rw[abD];simp
theorem rO:decide (V.bl i=V.bl j)=(i==j):=by rw[abD];simp
theorem nk:decide (V.str i=V.str j)=(i==j):=by rw[abD];simp
theorem nq:decide (V.byt i=V.byt j)=(i.toList==j.toList):=by rw[abD];cases i;cases j;simp
section
variable{X:Cx}{a b c:Expr}{ta tb tc:TE}{pos:Pos}
theorem aA(I:Inv X pins σ H s)(q:Q (.bl k) H)(e:k=k'):EP X pins σ Q (.bool k') s:=by subst e;exact⟨.bl k,H,I,rfl,q⟩
theorem op_eq:OpR X (compareOp .Eq) rEq:=by
 intro k s l H x y v u Q I g d h;obtain⟨f,q⟩:=h;cases x with
 |non=>
  cases g;cases y with
  |non=>cases d;exact PySem.EqNone.eq_none_none (aA I q (by simp))
  |bl j=>cases d;exact PySem.EqNone.eq_none_bool (aA I q (by simp))
  |int j=>obtain⟨e,rfl⟩:=d;exact PySem.EqNone.eq_none_int (aA I q (by simp))
  |str j=>obtain⟨e,rfl⟩:=d;exact PySem.EqNone.eq_none_str (aA I q (by simp))
  |_=>exact absurd (show false=true from f) aad
 |bl i=>
  cases g;cases y with
  |non=>cases d;exact PySem.EqNone.eq_bool_none (aA I q (by simp))
  |bl j=>cases d;exact eq_bool (aA I q rO)
  |str j=>obtain⟨e,rfl⟩:=d;exact PySem.EqMixed.eq_bool_str (aA I q (by simp))
  |_=>exact absurd (show false=true from f) aad
 |int i=>
  obtain⟨t,rfl⟩:=g;cases y with
  |non=>cases d;exact PySem.EqNone.eq_int_none (aA I q (by simp))
  |int j=>obtain⟨e,rfl⟩:=d;exact eq_int (aA I q nj)
  |str j=>obtain⟨e,rfl⟩:=d;exact PySem.EqMixed.eq_int_str (aA I q (by simp))
  |_=>exact absurd (show false=true from f) aad
 |str i=>
  obtain⟨t,rfl⟩:=g;cases y with
  |non=>cases d;exact PySem.EqNone.eq_str_none (aA I q (by simp))
  |bl j=>cases d;exact PySem.EqMixed.eq_str_bool (aA I q (by simp))
  |int j=>obtain⟨e,rfl⟩:=d;exact PySem.EqMixed.eq_str_int (aA I q (by simp))
  |str j=>obtain⟨e,rfl⟩:=d;exact eq_str (aA I q nk)
  |_=>exact absurd (show false=true from f) aad
 |byt i=>
  obtain⟨t,rfl⟩:=g;cases y with
  |byt j=>obtain⟨e,rfl⟩:=d;exact PySem.W.eq_bytes (aA I q nq)
  |_=>exact absurd (show false=true from f) aad
 |_=>cases y<;>exact absurd (show false=true from f) aad
theorem op_ne:OpR X (compareOp .NotEq) rNe:=by
 intro k s l H x y v u Q I g d h;obtain⟨f,q⟩:=h;cases x with
 |non=>
  cases g;cases y with
  |non=>cases d;exact PySem.EqNone.ne_none_none (aA I q (by simp))
  |bl j=>cases d;exact PySem.EqNone.ne_none_bool (aA I q (by simp))
  |int j=>obtain⟨e,rfl⟩:=d;exact PySem.EqNone.ne_none_int (aA I q (by simp))
  |str j=>obtain⟨e,rfl⟩:=d;exact PySem.EqNone.ne_none_str (aA I q (by simp))
  |_=>exact absurd (show false=true from f) aad
 |bl i=>
  cases g;cases y with
  |non=>cases d;exact PySem.EqNone.ne_bool_none (aA I q (by simp))
  |bl j=>cases d;exact ne_bool (aA I q (congrArg not rO))
  |str j=>obtain⟨e,rfl⟩:=d;exact PySem.EqMixed.ne_bool_str (aA I q (by simp))
  |_=>exact absurd (show false=true from f) aad
 |int i=>
  obtain⟨t,rfl⟩:=g;cases y with
  |non=>cases d;exact PySem.EqNone.ne_int_none (aA I q (by simp))
  |int j=>obtain⟨e,rfl⟩:=d;exact ne_int (aA I q (congrArg not nj))
  |str j=>obtain⟨e,rfl⟩:=d;exact PySem.EqMixed.ne_int_str (aA I q (by simp))
  |_=>exact absurd (show false=true from f) aad
 |str i=>
  obtain⟨t,rfl⟩:=g;cases y with
  |non=>cases d;exact PySem.EqNone.ne_str_none (aA I q (by simp))
  |bl j=>cases d;exact PySem.EqMixed.ne_str_bool (aA I q (by simp))
  |int j=>obtain⟨e,rfl⟩:=d;exact PySem.EqMixed.ne_str_int (aA I q (by simp))
  |str j=>obtain⟨e,rfl⟩:=d;exact ne_str (aA I q (congrArg not nk))
  |_=>exact absurd (show false=true from f) aad
 |byt i=>
  obtain⟨t,rfl⟩:=g;cases y with
  |byt j=>obtain⟨e,rfl⟩:=d;exact PySem.W.ne_bytes (aA I q (congrArg not nq))
  |_=>exact absurd (show false=true from f) aad
 |_=>cases y<;>exact absurd (show false=true from f) aad
theorem Dg:OpR X (compareOp .Lt) (vJ λi j=>.bl (decide (i<j))):=vW λ_ _ _ _ _ _ _ q=>lt_int q
theorem Dh:OpR X (compareOp .LtE) (vJ λi j=>.bl (decide (i<=j))):=vW λ_ _ _ _ _ _ _ q=>le_int q
theorem Di:OpR X (compareOp .Gt) (vJ λi j=>.bl (decide (j<i))):=vW λ_ _ _ _ _ _ _ q=>gt_int q
theorem Dj:OpR X (compareOp .GtE) (vJ λi j=>.bl (decide (j<=i))):=vW λ_ _ _ _ _ _ _ q=>ge_int q
def isObj:HO->Bool
 |.lst _=>true
 |.ins _ _ _=>true
 |_=>false
theorem OpR.or(h:OpR X f r)(h':OpR X f r'):OpR X f (λx y H Q=>r x y H Q\/r' x y H Q):=by
 intro d s g H x y v u Q I i e q;rcases q with q|q
 ·exact h d s g H x y v u Q I i e q
 ·exact h' d s g H x y v u Q I i e q
theorem vY(e:OpR X (compareOp op) r)(f:PE X a ta)(o:PE X b tb)(i:behindInMarks op b=false):PE X (.Compare a [op] [b] pos) (C9 r ta tb):=by intro d s m H Q I h;exact wpAny_Compare1 (z6 f o I h λv u l x y n j k g q=>e d l m n x y v u Q j k g q) i
def rP(t:TE):TT:=λe H Q=>t e H λx d=>∃k,x=.bl k/\Q k d
theorem vZ{f:CmpOp}{r:R2}(m:OpR X (compareOp f) r)(o:PE X a ta)(L:PE X b tb)(q:behindInMarks f b=false):PT X (.Compare a [f] [b] pos) (rP (C9 r ta tb)):=by
 intro d s g H Q I h;refine wpAny_isTrue_Compare1 (thn (o d s g H _ I h) λv M ⟨x,p,j,w,l⟩=>thn (L d M g p _ j l) λu A ⟨y,J,t,n,D⟩=>
  thn (m d A g J x y v u _ t w n D) λc N ⟨z,B,C,i,k,e,G⟩=>?_) q
 subst e;cases i;exact wpAny_truthy_bool ⟨B,C,G⟩
def lP(r i:R2)(ta tb tc:TE):TE:=λd H Q=>ta d H λx f=>tb d f λy g=>r x y g λz e=>∃k,z=.bl k /\
 (if k=true then tc d e λh j=>i y h j Q else Q (.bl false) e)
theorem rQ{j g:CmpOp}{r m:R2}(C:OpR X (compareOp j) r)(l:OpR X (compareOp g) m)(D:PE X a ta)(hb:PE X b tb)(Y:PE X c tc)
  (M:lastMarks [j,g] [b,c]=false:=by with_unfolding_all rfl):PE X (.Compare a [j,g] [b,c] pos) (lP r m ta tb tc):=by
 intro f s i H Q I h;refine Compare_chain (thn (D f s i H _ I h) λv s1 ⟨x,G,A,S,B⟩=>chain_link (thn (hb f s1 i G _ A B) λu T ⟨y,H2,N,n,q2⟩=>
  thn (C f T i H2 x y v u _ N S n q2) λd O ⟨z,o,p,w,k,e,q⟩=>?_)) M
 subst e;cases w;refine wpAny_truthy_bool ?_;cases k with
 |false=>exact ite_ff ⟨.bl false,o,p,rfl,q⟩
 |true=>exact ite_tt (chain_last (thn (Y f O i o _ p q) λJ L ⟨U,Z,I4,r4,t⟩=>l f L i Z y U u J Q I4 n r4 t))
theorem rR{j g:CmpOp}{r m:R2}(C:OpR X (compareOp j) r)(l:OpR X (compareOp g) m)(J:PE X a ta)(hb:PE X b tb)(hc:PE X c tc)
  (O:lastMarks [j,g] [b,c]=false:=by with_unfolding_all rfl):PT X (.Compare a [j,g] [b,c] pos) (rP (lP r m ta tb tc)):=by
 intro f s i H Q I h;refine isTrue_chain (thn (J f s i H _ I h) λv s1 ⟨x,L,A,U,B⟩=>test_link (thn (hb f s1 i L _ A B) λu Z ⟨y,H2,S,n,q2⟩=>
  thn (C f Z i H2 x y v u _ S U n q2) λd T ⟨z,o,p,w,k,e,q⟩=>?_)) O
 subst e;cases w;refine wpAny_truthy_bool ?_;cases k with
 |false=>obtain⟨k',e',G⟩:=q;cases e';exact ite_ff ⟨o,p,G⟩
 |true=>refine ite_tt (test_last (thn (hc f T i o _ p q) λM N ⟨z',H4,I4,r4,t⟩=>thn (l f N i H4 y z' u M _ I4 n r4 t) λd' s5 hZ=>?_));obtain⟨z2,Y,I5,r5,k2,D,q5⟩:=hZ;subst D;cases r5;exact wpAny_truthy_bool ⟨Y,I5,q5⟩
def Ad(K:Waa)(x:V)(H:Hp)(k:Bool):Prop:=
 match x with
 |.non=>k=false
 |.bl b=>k=b
 |.int i=>k=(i !=0)
 |.str y=>y.length<=sizeLine/\k=((y.length:Int) !=0)
 |.byt y=>y.size<=sizeLine/\k=((y.size:Int) !=0)
 |.ref p=>(∃d,SqL K H p d/\k=!d.isEmpty)\/(∃d,SqT K H p d/\k=!d.isEmpty)\/∃e,H p=some (.dK e)/\k=!e.isEmpty
 |_=>False
theorem lQ{e:Type}{d:List (e×V)}{vs:List (e×Value)}(r:KV d vs):(!vs.isEmpty)=!d.isEmpty:=by cases r<;>rfl
theorem gD{xs:List V}{d:List Value}(r:Vals xs d):(!d.toArray.isEmpty)=!xs.isEmpty:=by cases r<;>simp
theorem line63:(sizeLine:Nat)<2^63:=by rw[sizeLine_eq];decide
theorem Ae:GA X (λx H Q=>∃k,Ad X.K x H k/\Q k H):=by
 intro B s L H x v Q I l h;obtain⟨k,e,q⟩:=h;have G:=line63;have J:sizeLine=16777216:=sizeLine_eq;cases x with
 |non=>cases l;have d:k=false:=e;subst d;exact truthy_none ⟨H,I,q⟩
 |bl b=>cases l;have d:k=b:=e;subst d;exact wpAny_truthy_bool ⟨H,I,q⟩
 |int i=>obtain⟨t,rfl⟩:=l;have d:k=(i !=0):=e;subst d;exact PySem.P.truthy_int ⟨H,I,q⟩
 |str y=>obtain⟨t,rfl⟩:=l;obtain⟨C,d⟩:y.length<=sizeLine/\k=((y.length:Int) !=0):=e;subst d;exact PySem.P.truthy_str (by omega) ⟨H,I.tok _,q⟩
 |byt y=>obtain⟨t,rfl⟩:=l;obtain⟨C,d⟩:y.size<=sizeLine/\k=((y.size:Int) !=0):=e;subst d;exact PySem.W.truthy_bytes (by omega) ⟨H,I.tok _,q⟩
 |ref p=>
  cases l;have d:(∃j,SqL X.K H p j/\k=!j.isEmpty)\/(∃j,SqT X.K H p j/\k=!j.isEmpty)\/∃f,H p=some (.dK f)/\k=!f.isEmpty:=e;rcases d with ⟨j,n,d⟩|⟨j,n,d⟩|⟨f,n,d⟩
  ·subst d;obtain⟨z,r,u,A⟩:=I.list n;have g:=r.length;exact wpAny_truthy_list u.isList (by simp only[aaw];omega) ⟨H,I.tok _,by rw[gD r];exact q⟩
  ·subst d;obtain⟨z,r,u,A⟩:=I.tuple n;have g:=r.length;exact truthy_tuple u (by simp only[aaw];omega) ⟨H,I.tok _,by rw[gD r];exact q⟩
  ·subst d;obtain⟨A,D,o,r,m⟩:f.length<=sizeLine/\(p==sysModules)=false/\∃o,KV f o/\s.heap.DictOf (aI X.prog X.w) p o:=I.hok p _ n;have g:f.length=o.length:=Paired.length r;exact wpAny_truthy_dict D m (by omega) ⟨H,I.tok _,by rw[lQ r];exact q⟩
 |_=>exact(show False from e).elim
theorem rS(j:PE X a ta)(m:∀d,isTrue a X.env d=(do let v <-d;standAt a.pos;holding [v] (truthy v))):
  PT X a (λσ H Q=>ta σ H λx f=>∃k,Ad X.K x f k/\Q k f):=by
 intro e s σ H Q I h;exact isTrue_plain (thn (j e s σ H _ I h) λv o ⟨x,l,i,n,g⟩=>Ae e o σ l x v Q i n g) (m _)
def Dk(b:Expr):Prop:=∀o i,subscripted b false o i=operate [o,i] (getItem o i)
theorem vals1(r:Vals [x] us):∃u,us=[u]/\RelV x u:=by
 cases r with
 |cons d e=>cases e;exact⟨_,rfl,d⟩
theorem vals2(r:Vals [x,y] us):∃u d,us=[u,d]/\RelV x u/\RelV y d:=by
 cases r with
 |cons h g=>
  cases g with
  |cons e f=>cases f;exact⟨_,_,rfl,h,e⟩
theorem rV:CallR X (.builtin "abs") (λxs H Q=>∃i,xs=[.int i]/\Q (.int (if i<0 then -i else i)) H):=by
 intro d s e H xs f Q I r h;obtain⟨i,rfl,q⟩:=h;obtain⟨u,rfl,t,rfl⟩:=vals1 r;exact call_abs_int λu g=>⟨.int (if i<0 then -i else i),H,I.tok _,⟨_,rfl⟩,q⟩
theorem pT(f:X.calm=true):CallR X (.builtin "max") (λxs H Q=>∃i j,xs=[.int i,.int j]/\Q (.int (if j>i then j else i)) H):=by
 intro e s m H xs p Q I r h;obtain⟨i,j,rfl,q⟩:=h;obtain⟨u,g,rfl,⟨t,rfl⟩,⟨n,rfl⟩⟩:=vals2 r;refine max_two_ints (I.ok.hd f) λl o k=>⟨_,H,I.kept k,?_,q⟩
 by_cases d:j>i
 ·rw[if_pos d,if_pos d];exact⟨_,rfl⟩
 ·rw[if_neg d,if_neg d];exact⟨_,rfl⟩
theorem pU(f:X.calm=true):CallR X (.builtin "min") (λxs H Q=>∃i j,xs=[.int i,.int j]/\Q (.int (if j<i then j else i)) H):=by
 intro e s m H xs p Q I r h;obtain⟨i,j,rfl,q⟩:=h;obtain⟨u,g,rfl,⟨t,rfl⟩,⟨n,rfl⟩⟩:=vals2 r;refine min_two_ints (I.ok.hd f) λl o k=>⟨_,H,I.kept k,?_,q⟩
 by_cases d:j<i
 ·rw[if_pos d,if_pos d];exact⟨_,rfl⟩
 ·rw[if_neg d,if_neg d];exact⟨_,rfl⟩
theorem pV:CallR X (.type "int") (λxs H Q=>(∃i,xs=[.int i]/\Q (.int i) H)\/∃k,xs=[.bl k]/\Q (.int (if k then 1 else 0)) H):=by
 intro d s f H xs g Q I r h;rcases h with ⟨i,rfl,q⟩|⟨k,rfl,q⟩
 ·obtain⟨u,rfl,t,rfl⟩:=vals1 r;exact call_int_int ⟨.int i,H,I,⟨_,rfl⟩,q⟩
 ·obtain⟨u,rfl,e⟩:=vals1 r;cases e;exact call_int_bool ⟨.int (if k then 1 else 0),H,I.tok _,⟨_,rfl⟩,q⟩
def Dm(K:Waa)(x:V)(H:Hp)(n:Nat):Prop:=
 match x with
 |.str y=>y.length<=sizeLine/\n=y.length
 |.byt y=>y.size<=sizeLine/\n=y.size
 |.ref p=>(∃d,SqL K H p d/\n=d.length)\/∃d,SqT K H p d/\n=d.length
 |_=>False
theorem rW:CallR X (.builtin "len") (λxs H Q=>∃x n,xs=[x]/\Dm X.K x H n/\Q (.int n) H):=by
 intro m s A H xs B Q I r h;obtain⟨x,n,rfl,e,q⟩:=h;obtain⟨u,rfl,k⟩:=vals1 r;have w:=line63;have z:sizeLine=16777216:=sizeLine_eq;cases x with
 |str y=>obtain⟨t,rfl⟩:=k;obtain⟨v,f⟩:y.length<=sizeLine/\n=y.length:=e;subst f;exact len_str (by omega) ⟨.int _,H,I.tok _,⟨_,rfl⟩,q⟩
 |byt y=>obtain⟨t,rfl⟩:=k;obtain⟨v,f⟩:y.size<=sizeLine/\n=y.size:=e;subst f;exact PySem.W.len_bytes (by omega) ⟨.int _,H,I.tok _,⟨_,rfl⟩,q⟩
 |ref p=>
  cases k;have f:(∃xs,SqL X.K H p xs/\n=xs.length)\/∃xs,SqT X.K H p xs/\n=xs.length:=e;rcases f with ⟨xs,g,f⟩|⟨xs,g,f⟩
  ·subst f;obtain⟨l,i,j,o⟩:=I.list g;have d:=i.length;exact Calls.call_len_list j.isList (by simp only[aaw];omega) ⟨.int xs.length,H,I.tok _,⟨_,by simp only[aaw];rw[d]⟩,q⟩
  ·subst f;obtain⟨l,i,j,o⟩:=I.tuple g;have d:=i.length;exact len_tuple j (by simp only[aaw];omega) ⟨.int xs.length,H,I.tok _,⟨_,by simp only[aaw];rw[d]⟩,q⟩
 |_=>exact(show False from e).elim
end
end
section
structure ObjM (h:Heap)(x dx C:Addr)(mA:Str->Option Value):Prop where
 obj:h.get? x=some (PySem.W.instObj C dx)
 ns:h.Ns1 dx mA
 ne:dx≠x
def Af(f:Str)(v:V):List (Str×V)->List (Str×V)
 |[]=>[(f,v)]
 | (g,x)::r=>if g=f then (g,v)::r else (g,x)::Af f v r
theorem RelO.some_of(r:RelO (some v) o):∃u,o=some u/\RelV v u:=by
 cases o with
 |none=>exact(show False from r).elim
 |some u=>exact⟨u,rfl,r⟩
theorem RelO.none_of(r:RelO none o):o=none:=by
 cases o with
 |none=>rfl
 |some u=>exact(show False from r).elim
structure Cls (K:Waa)(C:Addr):Prop where
 pg:PySem.W.plainGet K C Str.empty=true
 hd:PySem.W.hasDictIn K C=true
 po:PySem.W.plainOver K C=true
 sa:PySem.W.findIn K (.ref C) "__setattr__"=some (some (.builtin "object.__setattr__"))
theorem Cls.get{K:Waa}{C:Addr}(c:Cls K C)(f:Str):PySem.W.plainGet K C f=true:=c.pg
def fH(K:Waa)(C:Addr)(f:Str):Prop:=PySem.W.findIn K (.ref C) f=some none
structure Con (K:Waa)(C:Addr)(f:Str)(v:V)(u:Value):Prop where
 at_:PySem.W.findIn K (.ref C) f=some (some u)
 rel:RelV v u
 get:PySem.W.specialIn K u "__get__"=some none
 cp:PySem.W.copiedNames.contains f=false
structure Meth (K:Waa)(C:Addr)(m:Str)(f:Addr):Prop where
 at_:PySem.W.findIn K (.ref C) m=some (some (.ref f))
 fn:PySem.W.isFn K (.ref f)=true
 kp:PySem.W.keepIn K (.ref f)=true
def JE(K:Waa)(g:TE)(f:Str):TE:=λd H Q=>g d H λx c=>∃a C e b v,x=.ref a/\c a=some (.ins C e b)/\Cls K C/\fH K C f/\b.lookup f=some v/\Q v c
def JF(K:Waa)(g:TE)(f:Str):TE:=λd H Q=>g d H λx c=>∃a C e b v u,x=.ref a/\c a=some (.ins C e b)/\Cls K C/\Con K C f v u/\b.lookup f=none/\Q v c
def JG(K:Waa)(i h:TE)(f:Str):TS:=λD c H=>h c H λy g=>i c g λx d=>∃a C e b,x=.ref a/\d a=some (.ins C e b)/\Cls K C/\fH K C f/\b.length<1000 /\
 D.nx c (upd d a (.ins C e (Af f y b)))
def JH(X:Cx)(d:Operator)(c:V->V->Hp->VK->Prop):Prop:=
 ∀(a:List (Addr×Obj)) (s:Shared) (b:St) (H:Hp) (x y:V) (u v:Value) (Q:VK),Inv X a b H s->RelV x u->RelV y v->c x y H Q->wpAny (model X.prog X.w) X.A (inplaceOp d u v) (EP X a b Q) X.xe s
def FW(K:Waa)(i k:TE)(j:V->V->Hp->VK->Prop)(f:Str):TS:=λD d H=>i d H λx e=>∃a C l g v,x=.ref a/\e a=some (.ins C l g)/\Cls K C/\fH K C f/\g.lookup f=some v /\
 k d e λy m=>j v y m λz h=>∃c b,h a=some (.ins C c b)/\b.length<1000/\D.nx d (upd h a (.ins C c (Af f z b)))
section
variable{X:Cx}{o e value:Expr}{f:Str}{pos pos' tpos:Pos}{ta tv:TE}
def JI:V->V->Hp->VK->Prop:=λx y H Q=>∃i j,x=.int i/\y=.int j/\Q (.int (i+j)) H
def JJ:V->V->Hp->VK->Prop:=λx y H Q=>∃i j,x=.int i/\y=.int j/\Q (.int (i-j)) H
end
section
variable{X:Cx}{pins:List (Addr×Obj)}{σ:St}{H:Hp}{s:Shared}{A:Around}{E:Value->Shared->Prop}{Q:Value->Shared->Prop}{c:Value}{b:Bool}
inductive TyOf (K:Waa)(H:Hp):V->Value->Prop where
 |non:TyOf K H .non (.type "NoneType")
 |bl (x:Bool):TyOf K H (.bl x) (.type "bool")
 |int (i:Int):TyOf K H (.int i) (.type "int")
 |str (x:Str):TyOf K H (.str x) (.type "str")
 |flt (x:UInt64):TyOf K H (.flt x) (.type "float")
 |lst {a:Addr}{xs:List V} (e:H a=some (.lst xs)):TyOf K H (.ref a) (.type "list")
 |frz {a:Addr}{o:Obj}{xs:List V} (e:H a=some (.frz o (.lst xs))):TyOf K H (.ref a) (.type "list")
 |tup {a:Addr}{xs:List V} (e:H a=some (.tup xs)):TyOf K H (.ref a) (.type "tuple")
 |dK {a:Addr}{kvs:List (Key×V)} (e:H a=some (.dK kvs)):TyOf K H (.ref a) (.type "dict")
 |dT {a:Addr}{kvs:List (List Key×V)} (e:H a=some (.dT kvs)):TyOf K H (.ref a) (.type "dict")
 |ins {a C dx:Addr}{fs:List (Str×V)} (e:H a=some (.ins C dx fs)) (cl:Cls K C) (ha:PySem.W.findIn K (.ref C) "__class__"=some (some (.builtin "object.__class__")))
   (hn:PySem.W.specialIn K (.builtin "object.__class__") "__get__"=some (some (.builtin "getset_descriptor.__get__"))) (htk:PySem.W.takesIn K (.builtin "object.__class__")=some true)
   (hm:PySem.W.mroIn K C (.type "object")=some true):TyOf K H (.ref a) (.ref C)
end
end
section
structure Room (k:Nat)(A:Around):Prop where
 hd:A.handled=none
 dp:A.depth+3*k+5<recursionLimit
 un:A.units+16*k+200<cLine
 gd:A.guards=some []
theorem Room.mono(r:Room k A)(h:j<=k):Room j A:=⟨r.hd,by have:=r.dp;omega,by have:=r.un;omega,r.gd⟩
theorem Room.deeper(r:Room (k+1) A)(env:Env):Room k (A.deeper env):=
 ⟨r.hd,by have:=r.dp;show A.depth+1+3*k+5<_;omega,by have:=r.un;show A.units+3+16*k+200<_;omega,r.gd⟩
theorem Room.in1(r:Room (k+1) A):Room k A.in1:=
 ⟨r.hd,by have:=r.dp;show A.depth+3*k+5<_;omega,by have:=r.un;show A.units+1+16*k+200<_;omega,r.gd⟩
theorem lR{A:Around}:(A.under (.builtin "type.__call__" ⟨.ref C::us,kw⟩)).depth=A.depth+1:=by
 first|rfl|simp[Around.under,Code.weight,Code.isCreation,Code.isGuard,Code.isCaller,Code.frames,Code.isFrame,guardIds]
theorem lS{A:Around}:(A.under (.builtin "type.__call__" ⟨.ref C::us,kw⟩)).units=A.units+1:=by
 first|rfl|simp[Around.under,Code.cUnits,Code.frames,Code.isFrame]
theorem Room.make(r:Room (k+1) A)(C:Addr)(us:List Value)(a:List (Str×Value)):Room k (A.under (.builtin "type.__call__" ⟨.ref C::us,a⟩)):=
 ⟨r.hd,by have:=r.dp;rw[lR];omega,by have:=r.un;rw[lS];omega,by first|exact r.gd|simp[Around.under,Code.isGuard,guardIds,r.gd]⟩
theorem Room.depth(r:Room k A):A.depth<recursionLimit:=by have:=r.dp;omega
theorem Room.units{A:Around}(r:Room k A):A.units+64<cLine:=by have:=r.un;omega
def tNil:TA:=λ_ H Q=>Q [] H
def Dn(e:TE)(f:TA):TA:=λa H Q=>e a H λx b=>f a b λd c=>Q (x::d) c
section
variable{X:Cx}{e:Expr}{es:List Expr}{te:TE}{t:TA}{pos:Pos}
theorem gF:PA X [] tNil:=λ_ _ _ _ H Q I h=>Calls.spliced_nil ⟨[],H,I,.nil,h⟩
theorem dJ(g:PE X e te)(n:PA X es t)(l:starEach (e::es) X.env=(false,eval e X.env)::starEach es X.env:=by rfl):PA X (e::es) (Dn te t):=by
 intro pos a s b H Q I h;rw[l];show wpAny _ _ (spliced ((false,eval e X.env)::backTo pos (starEach es X.env))) _ _ s;refine Calls.spliced_cons (thn (g a s b H _ I h) λu q m=>?_);obtain⟨x,i,c,k,d⟩:=m;exact thn (n pos a q b i _ c d) λw v ⟨r,p,j,f,o⟩=>⟨x::r,p,j,.cons k f,o⟩
def GB(t:TA):TE:=λc H Q=>t c H λb a=>b.length<=sizeLine/\∀p,a p=none->Q (.ref p) (upd a p (.tup b))
def GC(t:TA):TE:=λc H Q=>t c H λb a=>b.length<=sizeLine/\∀p,a p=none->Q (.ref p) (upd a p (.lst b))
theorem Ag{j}(h:PA X es t):PE X (.Tuple es j pos) (GB t):=by intro a s i H Q I g;refine wpAny_Tuple_spliced (thn (h pos a s i H _ I g) λm c ⟨l,f,d,r,z,q⟩=>⟨by rw[<-r.length];exact z,?_⟩);have k:f c.heap.objs.size=none:=d.hok.fresh (aag _);refine⟨.ref c.heap.objs.size,upd f c.heap.objs.size (.tup l),d.laid (t':=c.toks) (λb u e=>Heap.get?_push_of_some _ e) (aag _) ?_,rfl,q _ k⟩;exact⟨z,m,r,⟨_,Heap.get?_push_size _ rfl,rfl,_,rfl,rfl⟩⟩
theorem Ah(h:PA X es t):PE X (.List es pos) (GC t):=by intro a s i H Q I g;refine wpAny_List_spliced (thn (h pos a s i H _ I g) λl c ⟨k,f,d,r,z,q⟩=>⟨by rw[<-r.length];exact z,?_⟩);have j:f c.heap.objs.size=none:=d.hok.fresh (aag _);refine⟨.ref c.heap.objs.size,upd f c.heap.objs.size (.lst k),d.laid (t':=c.toks) (λb u e=>Heap.get?_push_of_some _ e) (aag _) ?_,rfl,q _ j⟩;exact⟨z,l,0,r,Heap.get?_push_size _ rfl⟩
end
abbrev Sp:=List V->Hp->VK->XK->Prop
abbrev CXT:=List Env->Hp->Shared->XK->Value->Shared->Prop
structure Env0 (P:Program)(w:World)(K:Waa)(mg:Str->Option Value)(base:Heap)(A:Around)(outer:List Env)(s:Shared)(H:Hp):Prop where
 frames:A.frames=some outer
 mod:Mod K mg base
 bs:∀b o,base.get? b=some o->s.heap.get? b=some o/\H b=none
 bsz:base.objs.size<=s.heap.objs.size
 funs:s.heap.FunFrames base outer
 frf:∀b∈rA outer,H b=none
 hok:HOk P w H s.heap
 bare:AllBare s.gens
def CE(a:List Env)(P:Program)(w:World)(H:Hp)(s:Shared)(Q:VK)(u:Value)(b:Shared):Prop:=
 ∃v c,b.os=s.os/\AllBare b.gens/\Un (rA a) [] H c s.heap b.heap/\HOk P w c b.heap/\RelV v u/\Q v c
def CR(CX:CXT)(a:List Env)(P:Program)(w:World)(H:Hp)(s:Shared)(Q:VK)(E:XK)(r:Result)(b:Shared):Prop:=
 match r with
 |.ok (.ret u)=>CE a P w H s Q u b
 |.ok _=>False
 |.error e=>CX a H s E e b
structure FnOk (P:Program)(w:World)(K:Waa)(mg:Str->Option Value)(base:Heap)(CX:CXT)(k:Nat)(f:Addr)(fd:FuncData)(ps:List Str)(sp:Sp):Prop where
 len:∀vs H Q E,sp vs H Q E->vs.length=ps.length
 run:∀(A:Around) (outer:List Env) (s:Shared) (H:Hp) (args:Args) (us:List Value) (vs:List V) (Q:VK) (E:XK),Room k A->Env0 P w K mg base A outer s H->BindsTo s fd args (ps.zip us)->Vals vs us->sp vs H Q E ->
  codeAny (model P w) A (.call (.ref f) args) (CR CX outer P w H s Q E) s
theorem FnOk.mono{K:Waa}(F:FnOk P w K mg base CX j f fd ps sp)(h:j<=k):
  FnOk P w K mg base CX k f fd ps sp:=⟨F.len,λA a s H b e c Q E d=>F.run A a s H b e c Q E (d.mono h)⟩
theorem FnOk.imp{K:Waa}(F:FnOk P w K mg base CX k f fd ps sp)
  (h:∀vs H Q E,sp' vs H Q E->sp vs H Q E):FnOk P w K mg base CX k f fd ps sp':=
 ⟨λvs H Q E q=>F.len vs H Q E (h _ _ _ _ q),λA a s H b g vs Q E e c d i j=>F.run A a s H b g vs Q E e c d i (h _ _ _ _ j)⟩
theorem Env0.make{K:Waa}(e:Env0 P w K mg base A outer s H)(C:Addr)(us:List Value)(a:List (Str×Value)):
  Env0 P w K mg base (A.under (.builtin "type.__call__" ⟨.ref C::us,a⟩)) outer s H:=⟨by first|exact e.frames|(simpa[Around.under,Code.envs,Code.isFrame,pushEnvs] using e.frames),e.mod,e.bs,e.bsz,e.funs,e.frf,e.hok,e.bare⟩
theorem Env0.in1{K:Waa}(e:Env0 P w K mg base A outer s H):
  Env0 P w K mg base A.in1 outer s H:=⟨e.frames,e.mod,e.bs,e.bsz,e.funs,e.frf,e.hok,e.bare⟩
section
variable{X:Cx}{pins:List (Addr×Obj)}{σ:St}{H:Hp}{s s':Shared}
theorem Inv.env0(I:Inv X pins σ H s):Env0 X.prog X.w X.K X.mg X.base X.A X.stack s H:=
 ⟨I.ok.frames,I.ok.mod,I.bs,aat I.ok.bsz I.sz,I.stack,I.ry,I.hok,I.bare⟩
theorem Inv.after(I:Inv X pins σ H s)(h:CE X.stack X.prog X.w H s Q u s'):EP X pins σ Q u s':=by obtain⟨v,i,f,a,j,e,r,q⟩:=h;obtain⟨k,g,d,t,c⟩:=s';obtain rfl:c=s.os:=f;exact⟨v,i,I.call j e a (λb z=>absurd z (by simp)),r,q⟩
end
def yz(sp:Sp)(a:List V)(E:XK)(t:TA):TE:=λc H Q=>t c H λd b=>sp (d++a) b Q E
def Ip(C:Addr)(m:Str)(sp:Sp)(b:List V)(E:XK)(i:TE)(t:TA):TE:=λe H Q=>i e H λx d=>∃a h c,x=.ref a/\d a=some (.ins C h c)/\c.lookup m=none /\
 t e d λg f=>sp (x::(g++b)) f Q E
def Iq(C:Addr)(sp:Sp)(c:List V)(E:XK)(t:TA):TE:=λe H Q=>t e H λf b=>∀x a,b x=none->b a=none->a≠x ->
 sp (.ref x::(f++c)) (upd (upd b a (.own x)) x (.ins C a [])) (λv d=>v=.non/\Q (.ref x) d) E
def Binds(K:Waa)(b:FuncData)(ps:List Str)(ds:List Value):Prop:=
 ∀(s:Shared) (a:List Value),K.In s.heap->(a++ds).length=ps.length->BindsTo s b ⟨a,[]⟩ (ps.zip (a++ds))
theorem Binds.all{K:Waa}{a:FuncData}{ps:List Str}(h:∀us:List Value,us.length=ps.length->bindArgs a ⟨us,[]⟩=pure (ps.zip us)):Binds K a ps []:=λs us _ b=>by rw[aan]at b ⊢;exact .of_eq (h us b)
def Passes(CX:CXT)(X:Cx)(E:XK):Prop:=∀(a:List (Addr×Obj)) (c:St) (H:Hp) (s:Shared) (e:Value) (b:Shared),Inv X a c H s->CX X.stack H s E e b->X.xe e b
section
variable{X:Cx}{CX:CXT}{k:Nat}{f C:Addr}{fd:FuncData}{ps:List Str}{sp:Sp}{dvs:List V}{ds:List Value}{E:XK}{x m:Str}{p pos apos:Pos}{e o:Expr}{es:List Expr}{ta:TE}{t:TA}
theorem Ai(F:FnOk X.prog X.w X.K X.mg X.base CX k f fd ps sp)(j:Room k X.A)(g:Binds X.K fd ps ds)(l:Vals dvs ds)(d:Passes CX X E)
  (I:Inv X pins σ H s) (r:Vals vs us) (h:sp (vs++dvs) H Q E):wpAny (model X.prog X.w) X.A (call (.ref f) us) (EP X pins σ Q) X.xe s:=by
 have b:Vals (vs++dvs) (us++ds):=r.append l;have n:(us++ds).length=ps.length:=by rw[<-b.length];exact F.len _ _ _ _ h
 refine wpAny_call (codeAny_mono (F.run X.A X.stack s H ⟨us,[]⟩ (us++ds) (vs++dvs) Q E j I.env0 (g s us I.kIn n) b h) λr c a=>?_);cases r with
 |error e=>exact d pins σ H s e c I a
 |ok i=>
  cases i with
  |ret u=>exact I.after a
  |next=>exact False.elim a
  |brk=>exact False.elim a
  |cont=>exact False.elim a
theorem nu(F:FnOk X.prog X.w X.K X.mg X.base CX k f fd ps sp)(y:Room k X.A)(i:Gl X x)(n:X.mg x=some (.ref f))(hk:PySem.W.keepIn X.K (.ref f)=true)(z:Binds X.K fd ps ds)(u:Vals dvs ds)(g:Passes CX X E)
  (j:PA X (e::es) t) (c:(x==("__debug__":Str))=false:=by decide) (l:starEach (e::es) X.env=(false,eval e X.env)::starEach es X.env:=by rfl) (b:(backTo pos (starEach es X.env)).any (·.1)=false:=by rfl):
  PE X (.Call (.Name x p) (e::es) [] pos) (yz sp dvs E t):=by
 intro a s v H Q I h;refine wpAny_Call_Name_kw (m9 I i n ?_ c);refine PySem.W.callWith_K (h₀:=X.base) I.ok.mod.kin hk (thn (j pos a s v H _ I h) λJ D ⟨G,B,d,r,q⟩=>⟨d.kIn,?_⟩) l b;exact Ai F y z u g d r q
structure Mk (K:Waa)(C f:Addr):Prop where
 makes:PySem.W.makesIn K C=true
 init:PySem.W.findIn K (.ref C) "__init__"=some (some (.ref f))
 fn:PySem.W.isFn K (.ref f)=true
 kp:PySem.W.keepIn K (.ref C)=true
end
def PK(X:Cx)(b:List Keyword)(t:TA):Prop:=
 ∀(d:Pos) (a:List (Addr×Obj)) (s:Shared) (c:St) (H:Hp) (Q:List V->Hp->Prop),Inv X a c H s->t c H Q->wpAny (model X.prog X.w) X.A (evalAll ((backToKw d (keywordEach b X.env)).map (·.2))) (AP X a c Q) X.xe s
section
variable{X:Cx}{CX:CXT}{k:Nat}{f C:Addr}{fd:FuncData}{ps ks:List Str}{sp:Sp}{E:XK}{x m:Str}{p pos apos kpos:Pos}{e o:Expr}{es:List Expr}{kws:List Keyword}{te ta:TE}{t tk:TA}{nm:Option Str}
structure KBinds (K:Waa)(fd:FuncData)(ps ks:List Str)(g:List Value->List Value->List Value)(gV:List V->List V->List V):Prop where
 to:∀(s:Shared) (us ws:List Value),K.In s.heap->(g us ws).length=ps.length->BindsTo s fd ⟨us,ks.zip ws⟩ (ps.zip (g us ws))
 rel:∀{vs:List V}{us:List Value}{zs:List V}{ws:List Value},Vals vs us->Vals zs ws->Vals (gV vs zs) (g us ws)
def GD(sp:Sp)(g:List V->List V->List V)(E:XK)(t tk:TA):TE:=λa H Q=>t a H λd b=>tk a b λh c=>sp (g d h) c Q E
variable{g:List Value->List Value->List Value}{gV:List V->List V->List V}
end
structure FnScope (N P:List Str)(sc:Scope):Prop where
 kind:sc.kind=.function
 co:sc.isCoroutine=false
 gen:sc.isGenerator=false
 nd:N.Nodup
 pre:N.take P.length=P
 par:∀x∈P,sc.names.lookup x=some .local\/sc.names.lookup x=some .cell
 nofree:∀y∈sc.names,y.2≠.free
theorem iP{b:Str->Option NameKind}:∀{a:List (Str×Value)}{m:Str->Option Value},(∀v,(x,v) ∉ a)->bindL b a m x=m x
 |[],_,_=>rfl
 | (n,v)::r,m,h=>by
  unfold bindL;rw[iP λw c=>h w (aal _ c)];split
  ·have:x≠n:=by rintro rfl;exact h v aaj
   simp[this]
  ·rfl
theorem iQ{b:Str->Option NameKind}:∀{a:List (Str×Value)}{m:Str->Option Value},(∀v,(x,v) ∉ a)->bindC b a m x=m x
 |[],_,_=>rfl
 | (n,v)::r,m,h=>by
  unfold bindC;rw[iQ λw c=>h w (aal _ c)];split
  ·rfl
  ·have:x≠n:=by rintro rfl;exact h v aaj
   simp[this]
theorem iR{a:Str->Option NameKind}:∀{P:List Str}{vs:List Value}{i:Nat}{m:Str->Option Value},P.Nodup->P[i]?=some x->vs[i]?=some v->a x=some .local ->
  bindL a (P.zip vs) m x=some v
 |[],_,_,_,_,h,_,_=>by simp at h
 |_::_,[],_,_,_,_,h,_=>by simp at h
 |p::P,w::vs,0,m,nd,h1,h2,hk=>by simp at h1 h2;subst h1;subst h2;show bindL a ((p,w)::P.zip vs) m p=_;unfold bindL;rw[iP λv b=>(aaF.mp nd).1 (aa8 b).1,if_pos hk];simp
 |p::P,w::vs,i+1,m,nd,h1,h2,hk=>by show bindL a ((p,w)::P.zip vs) m x=_;unfold bindL;exact iR (i:=i) (aaF.mp nd).2 (by simpa using h1) (by simpa using h2) hk
theorem iS{a:Str->Option NameKind}:∀{P:List Str}{vs:List Value}{i:Nat}{m:Str->Option Value},P.Nodup->P[i]?=some x->vs[i]?=some v->a x≠some .local ->
  bindC a (P.zip vs) m x=some v
 |[],_,_,_,_,h,_,_=>by simp at h
 |_::_,[],_,_,_,_,h,_=>by simp at h
 |p::P,w::vs,0,m,nd,h1,h2,hk=>by simp at h1 h2;subst h1;subst h2;show bindC a ((p,w)::P.zip vs) m p=_;unfold bindC;rw[iQ λv b=>(aaF.mp nd).1 (aa8 b).1,if_neg hk];simp
 |p::P,w::vs,i+1,m,nd,h1,h2,hk=>by show bindC a ((p,w)::P.zip vs) m x=_;unfold bindC;exact iS (i:=i) (aaF.mp nd).2 (by simpa using h1) (by simpa using h2) hk
def start(N:List Str)(vs:List V):St:=vs.map some++List.replicate (N.length-vs.length) none
def jq(CX:CXT)(P:Program)(w:World)(K:Waa)(mg:Str->Option Value)(base:Heap)(N:List Str)(b:Str)(a:Scope)(f:Addr)(d:Value)(A:Around)(outer:List Env)(s:Shared)(H:Hp)(E:XK):Cx where
 prog:=P
 w:=w
 K:=K
 mg:=mg
 base:=base
 A:=A.deeper (envOfC b a s.heap.objs.size f d)
 N:=N
 s₀:=s
 H₀:=H
 env:=envOfC b a s.heap.objs.size f d
 outer:=outer
 stack:=envOfC b a s.heap.objs.size f d::outer
 ex:=[]
 calm:=true
 fn:=λ_=>true
 pn:=[]
 xe:=λe g=>wpAny (model P w) (A.deeper (envOfC b a s.heap.objs.size f d)) (leaving (envOfC b a s.heap.objs.size f d) e) (λ_ c=>CX outer H s E e c) (λh c=>CX outer H s E h c) g
theorem kq{sc:Scope}(h:sc.names.lookup x=some .cell):∃c,(cellsFrom n sc.names []).lookup x=some c:=by have q:=acl sc.names n [] (.inl h);exact abi.mp q
theorem pW{K:Waa}
  (S:FnScope N ps scope) (I:A.handled=none) (g:Env0 P w K mg base A outer s H) (M:vs.length=ps.length) (r:Vals vs us)
  (x:InCallC s s.heap.objs.size (bindL (envOfC qual scope s.heap.objs.size f cd).kindOf (ps.zip us) λ_=>none) (cellsFrom (s.heap.objs.size+1) scope.names []) (bindC (envOfC qual scope s.heap.objs.size f cd).kindOf (ps.zip us) λ_=>none) s1):
  Inv (jq CX P w K mg base N qual scope f cd A outer s H E) [] (start N vs) H s1:=by
 have G:ps.length<=N.length:=by have:=congrArg List.length S.pre;rw[aaW]at this;omega
 obtain⟨o,O,rfl,C⟩:=x.done;have j:∀b:Addr,b ∉ (jq CX P w K mg base N qual scope f cd A outer s H E).ex:=λb z=>absurd (show b∈([]:List Addr) from z) (by simp);refine⟨⟨g.mod,S.kind,rfl,rfl,aag _,λy z c o d=>?_,λy l=>?_,λy c _ h=>?_,λ_=>I,Around.frames_deeper g.frames,.inr ⟨rfl,rfl⟩,λb z=>absurd z (j b),g.bs,g.bsz,λb _ _=>j b,λb z=>absurd z (j b),g.funs,g.frf⟩,
  rfl,g.bare,Un.kept C,⟨_,x.toInCall.ns,λi y v o d L=>?_⟩,λy c h=>⟨_,x.cell y c h⟩,g.hok.fresh (aag _),λy c h=>?_,λp m=>absurd (show p∈([]:List (Addr×Obj)) from m) (by simp),g.hok.kept C,?_⟩
 ·exact name_of_addr x.apart (aa9 o) (aa9 d)
 ·have l:scope.names.lookup y=some .cell\/scope.names.lookup y=some .free:=l;rcases l with l|l
  ·exact kq l
  ·exact absurd rfl (S.nofree _ (aa9 l))
 ·exact aaR (x.above y c (aa9 h))
 ·have t:i<vs.length:=by
   unfold start at d;by_cases t:i<vs.length
   ·exact t
   ·rw[aaS (by simpa using t)]at d;rw[acm]at d;split at d<;>cases d
  have D:vs[i]?=some v:=by
   unfold start at d;rw[aaX (by simpa using t),aaq]at d;cases e:vs[i]? with
   |none=>rw[e]at d;cases d
   |some a=>rw[e]at d;cases d;rfl
  obtain⟨u,B,J⟩:=r.get D;have m:ps[i]?=some y:=by rw[<-S.pre,List.getElem?_take_of_lt (by omega)];exact o
  have n:ps.Nodup:=by rw[<-S.pre];exact S.nd.sublist (List.take_sublist _ _)
  refine⟨u,J,?_⟩;rcases S.par y (aaz m) with k|k
  ·exact .inl ⟨k,iR n m B k⟩
  ·obtain⟨c,e⟩:=kq k;refine .inr ⟨.inl k,c,e,?_⟩;have q:=x.cell y c e;rw[iS n m B (by show scope.names.lookup y≠_;rw[k];decide)]at q;exact q
 ·exact g.hok.fresh (aaR (x.above y c (aa9 h)))
 ·unfold start;show _=N.length;rw[aaf,aaa,abE];omega
theorem Do{K:Waa}{X kV l Y c ct oc:Value}{Z od:Option Addr}
  {D:Array (Option Value)}{N ps:List Str}{sp:Sp} (lk:K.lookup f=some ⟨oc,od,.func (PySem.W.fnOf name qual params body scope X kV l Y Z c ct),D⟩) (C:PySem.W.codeIn K c qual=true) (S:FnScope N ps scope)
  (p:∀vs H Q E,sp vs H Q E->vs.length=ps.length)
  (i:∀(A:Around) (a:List Env) (s:Shared) (H:Hp) (vs:List V) (Q:VK) (E:XK),Room k (A.deeper (envOfC qual scope s.heap.objs.size f c))->sp vs H Q E ->
   ∃t,PSs (jq CX P w K mg base N qual scope f c A a s H E) body t/\t { nx:=λ_ g=>Q .non g,rt:=Q } (start N vs) H):
  FnOk P w K mg base CX (k+1) f (PySem.W.fnOf name qual params body scope X kV l Y Z c ct) ps sp:=by
 refine⟨p,λA a s H U us vs Q E L B hb r z=>?_⟩;have hl:=p _ _ _ _ z;have T:K.In s.heap:=B.mod.kin.keeps λb o e=>(B.bs b o e).1;have G:s.heap.NoLimit:=B.mod.nolimit.keeps λb o e=>(B.bs b o e).1;have h:∀y∈ps.zip us,scope.names.lookup y.1=some .local\/(scope.names.lookup y.1=some .cell/\((cellsFrom (s.heap.objs.size+1) scope.names []).lookup y.1).isSome=true):=λ⟨n,v⟩ hy=>by
  rcases S.par n (aa8 hy).1 with q|q
  ·exact .inl q
  ·exact .inr ⟨q,acl _ _ _ (.inl q)⟩
 refine codeAny_call_function L.depth (T _ _ lk) rfl S.co S.gen rfl (PySem.W.codeRec_of T C) (hb _ _ _ _ ?_);refine wpAny_newFunctionEnv_cells S.kind h λa0 he s1 x=>?_;subst he;refine⟨G.keeps x.toInCall.keep,codeAny_func ?_⟩;obtain⟨t,ht,hq⟩:=i A a s H vs Q E (L.deeper _) z;have I:Inv (jq CX P w K mg base N qual scope f c A a s H E) [] (start N vs) H s1:=pW S L.hd B hl r x;refine wpAny_mono (ht [] s1 (start N vs) H _ I hq) (λfl O j=>?_) λe O j=>j;have m:∀{d:St}{g:Hp}{v:V}{u:Value},Inv (jq CX P w K mg base N qual scope f c A a s H E) [] d g O->RelV v u->Q v g->CE a P w H s Q u O:=
  λ{d g v u} J M q=>⟨v,g,J.os,J.bare,J.base,J.hok,M,q⟩
 cases fl with
 |ret u=>obtain⟨v,d,g,J,M,q⟩:=j;exact m J M q
 |next=>obtain⟨d,g,J,q⟩:=j;exact m (v:=V.non) (u:=Value.none) J rfl q
 |brk=>obtain⟨_,_,_,q⟩:=j;exact False.elim q
 |cont=>obtain⟨_,_,_,q⟩:=j;exact False.elim q
end
section
section
variable{X:Cx}{x:Str}{p pos:Pos}{e:Expr}{es:List Expr}{t:TA}{id T:String}{r:List V->Hp->VK->Prop}
def GE(r:List V->Hp->VK->Prop)(t:TA):TE:=λb H Q=>t b H λc a=>r c a Q
theorem kr(q:CallR X (.builtin id) r) (i:Gl X x) (n:X.mg x=none) (j:bootBuiltins x=some (.builtin id)) (k:PA X (e::es) t) (u:x≠"__name__":=by decide) (c:(x==("__debug__":Str))=false:=by decide)
  (m:starEach (e::es) X.env=(false,eval e X.env)::starEach es X.env:=by rfl) (b:(backTo pos (starEach es X.env)).any (·.1)=false:=by rfl):PE X (.Call (.Name x p) (e::es) [] pos) (GE r t):=by
 intro a s d H Q I h;refine wpAny_Call_Name_kw (eh I i n j ?_ u c);exact PyProof.Rows.callWith_builtin1 (thn (k pos a s d H _ I h) λy v ⟨w,l,g,o,f⟩=>q a v d l w y Q g o f) m b
theorem iT(q:CallR X (.type T) r) (i:Gl X x) (n:X.mg x=none) (j:bootBuiltins x=some (.type T)) (k:PA X (e::es) t) (u:x≠"__name__":=by decide) (c:(x==("__debug__":Str))=false:=by decide)
  (m:starEach (e::es) X.env=(false,eval e X.env)::starEach es X.env:=by rfl) (b:(backTo pos (starEach es X.env)).any (·.1)=false:=by rfl):PE X (.Call (.Name x p) (e::es) [] pos) (GE r t):=by
 intro a s d H Q I h;refine wpAny_Call_Name_kw (eh I i n j ?_ u c);exact abh (thn (k pos a s d H _ I h) λy v ⟨w,l,g,o,f⟩=>q a v d l w y Q g o f) m b
end
end
end L2
namespace HT
open PySem PyProof.Rows
def lexLt:List Int->List Int->Bool
 |[],[]=>false
 |[],_::_=>true
 |_::_,[]=>false
 |x::xs,y::ys=>if x=y then lexLt xs ys else decide (x<y)
section
variable{prog:Program}{w:World}{A:Around}{E:Value->Shared->Prop}{s:Shared}
def sIx(n d:Nat):Option Int->Nat
 |none=>d
 |some v=>if v<0 then (v+(n:Int)).toNat else min v.toNat n
end
end HT
namespace L2
open PySem PySem.Spec PyProof.Rows
section
abbrev TO:=St->Hp->(Option Int->Hp->Prop)->Prop
def PO(X:Cx)(e:Option Expr)(t:TO):Prop:=
 ∀(a:List (Addr×Obj)) (s:Shared) (b:St) (H:Hp) (Q:Option Int->Hp->Prop),Inv X a b H s->t b H Q ->
  wpAny (model X.prog X.w) X.A (evalPart e X.env) (λu d=>∃o c,Inv X a b c d/\IsPart u o/\Q o c) X.xe s
def tNoPart:TO:=λ_ H Q=>Q none H
def Dp(t:TE):TO:=λb H Q=>t b H λx a=>∃i,x=.int i/\Q (some i) a
section
variable{X:Cx}{e:Expr}{te:TE}{lo hi:Option Expr}{tl th:TO}{pos p2:Pos}
theorem v3:PO X none tNoPart:=by intro a s b H Q I h;rw[evalPart_none];exact wpAny_pure ⟨none,H,I,.none,h⟩
theorem v5(h:PE X e te):PO X (some e) (Dp te):=by intro a s k H Q I d;rw[evalPart_some];refine thn (h a s k H _ I d) λu l j=>?_;obtain⟨x,f,c,g,b⟩:=j;obtain⟨i,rfl,q⟩:=b;obtain⟨t,rfl⟩:=g;exact⟨some i,f,c,.int i t,q⟩
def SlR(X:Cx)(r:V->Option Int->Option Int->Hp->VK->Prop):Prop:=
 ∀(a:List (Addr×Obj)) (s:Shared) (d:St) (H:Hp) (x:V) (v f b:Value) (lo hi:Option Int) (c:Addr) (Q:VK),Inv X a d H s->RelV x v->s.heap.IsSliceOf c f b .none->IsPart f lo->IsPart b hi->r x lo hi H Q ->
  ∃T g,typeLookup (.type T) "__getitem__"=pure (some (.builtin g))/\s.TypeIs v T/\wpAny (model X.prog X.w) X.A (getItem v (.ref c)) (EP X a d Q) X.xe s
theorem SlR.or(h:SlR X r)(h':SlR X r'):SlR X (λx lo hi H Q=>r x lo hi H Q\/r' x lo hi H Q):=by
 intro a s i H x v f j lo hi b Q I d g c k q;rcases q with q|q
 ·exact h a s i H x v f j lo hi b Q I d g c k q
 ·exact h' a s i H x v f j lo hi b Q I d g c k q
def JK(r:V->Option Int->Option Int->Hp->VK->Prop)(te:TE)(tl th:TO):TE:=λa H Q=>te a H λx b=>tl a b λl c=>th a c λu d=>r x l u d Q
theorem rX{r:V->Option Int->Option Int->Hp->VK->Prop}(J:SlR X r)(y:PE X e te)(p:PO X lo tl)(N:PO X hi th):PE X (.Subscript e (.Slice lo hi none p2) pos) (JK r te tl th):=by intro a s d H Q I h;refine Subscript_ (thn (y a s d H _ I h) λv U i=>?_);obtain⟨x,t,n,C,m⟩:=i;refine wpAny_Slice (thn (p a U d t _ n m) λf G ⟨l,S,z,B,M⟩=>thn (N a G d S _ z M) λg c i=>?_);obtain⟨u,j,L,Z,O⟩:=i;rw[evalPart_none];refine wpAny_pure ?_;have Y:Inv X a d j { c with heap:=c.heap.push { cls:=.type "slice",data:=.fields #[f,g,.none] } }:=L.kept (t':=c.toks) λb ob q=>Heap.get?_push_of_some _ q;obtain⟨T,id,D,k,o⟩:=J a { c with heap:=c.heap.push { cls:=.type "slice",data:=.fields #[f,g,.none] } } d j x v f g l u c.heap.objs.size Q Y C (Heap.IsSliceOf.new ..) B Z O;show wpAny (model X.prog X.w) X.A (subscriptTail e (.Slice lo hi none p2) v (.ref c.heap.objs.size)) (EP X a d Q) X.xe { c with heap:=c.heap.push { cls:=.type "slice",data:=.fields #[f,g,.none] } };exact tail_any (ops:=[.ref c.heap.objs.size,v]) k D o (by with_unfolding_all rfl)
def v7(xs:List V)(lo hi:Option Int):List V:=(xs.drop (HT.sIx xs.length 0 lo)).take (HT.sIx xs.length xs.length hi-HT.sIx xs.length 0 lo)
theorem ku(xs:List V)(lo hi:Option Int):(v7 xs lo hi).length<=xs.length:=by unfold v7;rw[aaW,abu];omega
def JL(K:Waa):V->Option Int->Option Int->Hp->VK->Prop:=λx lo hi H Q=>∃a b,x=.ref a/\SqT K H a b /\
 ¬ (HT.sIx b.length 0 lo=0/\HT.sIx b.length b.length hi=b.length)/\∀p,H p=none->Q (.ref p) (upd H p (.tup (v7 b lo hi)))
def JM(K:Waa):R2:=λx y H Q=>∃a b d c,x=.ref a/\y=.ref b/\SqT K H a (d.map V.int)/\SqT K H b (c.map V.int)/\Q (.bl (HT.lexLt d c)) H
def Ir(K:Waa):R2:=λx y H Q=>∃a b d c,x=.ref a/\y=.ref b/\SqT K H a d/\SqT K H b c/\d≠[]/\d.length+c.length<=sizeLine /\
 (c=[]->Q (.ref a) H)/\(c≠[]->∀p,H p=none->Q (.ref p) (upd H p (.tup (d++c))))
end
end
section
def ixN(n:Nat)(i:Int):Option Nat:=if 0<=i then (if i<n then some i.toNat else none) else if -(n:Int)<=i then some (i+n).toNat else none
def atI{a:Type}(xs:List a)(i:Int):Option a:=(ixN xs.length i).bind λj=>xs[j]?
theorem ixN_seq(h:ixN n i=some j):seqIndex? i n=some j/\j<n/\-(n:Int)<=i/\i<n:=by
 unfold ixN at h;by_cases b:0<=i
 ·rw[if_pos b]at h;by_cases a:i<n
  ·rw[if_pos a]at h;have e:i.toNat=j:=aaE h;exact⟨by rw[seqIndex_of b a,e],by omega,by omega,a⟩
  ·rw[if_neg a]at h;cases h
 ·rw[if_neg b]at h;by_cases a:-(n:Int)<=i
  ·rw[if_pos a]at h;have e:(i+n).toNat=j:=aaE h;exact⟨by rw[seqIndex_neg (by omega) a,e],by omega,a,by omega⟩
  ·rw[if_neg a]at h;cases h
theorem atI_get{a:Type}{xs:List a}{i:Int}{v:a}(h:atI xs i=some v):∃j,seqIndex? i xs.length=some j/\xs[j]?=some v/\j<xs.length/\-(xs.length:Int)<=i/\i<xs.length:=by
 unfold atI at h;cases e:ixN xs.length i with
 |none=>rw[e]at h;cases h
 |some j=>rw[e]at h;obtain⟨f,d,c,b⟩:=ixN_seq e;exact⟨j,f,h,d,c,b⟩
theorem atI_last{a:Type}(xs:List a)(v:a):atI (xs++[v]) (-1)=some v:=by
 have b:(xs++[v]).length=xs.length+1:=by simp
 have e:ixN (xs++[v]).length (-1)=some xs.length:=by unfold ixN;rw[b,if_neg (by decide),if_pos (by omega)];congr 1;omega
 unfold atI;rw[e];show (xs++[v])[xs.length]?=some v;simp
def PlainIx(b:Expr):Prop:=∀o i,subscripted b false o i=operate [o,i] (getItem o i)
def IxR(X:Cx)(r:R2):Prop:=
 ∀(c a:Expr) (b:List (Addr×Obj)) (s:Shared) (d:St) (H:Hp) (x y:V) (v u:Value) (Q:VK),Inv X b d H s->RelV x v->RelV y u->r x y H Q ->
  subscripted a false v u=operate [v,u] (getItem v u)->wpAny (model X.prog X.w) X.A (subscriptTail c a v u) (EP X b d Q) X.xe s
def MtR(X:Cx)(id:String)(r:V->List V->Hp->VK->Prop):Prop:=
 ∀(a:List (Addr×Obj)) (s:Shared) (b:St) (H:Hp) (x:V) (c:List V) (v:Value) (d:List Value) (Q:VK),Inv X a b H s->RelV x v->Vals c d->r x c H Q ->
  wpAny (model X.prog X.w) X.A (call (.builtin id) (v::d)) (EP X a b Q) X.xe s
section
variable{X:Cx}{a b:Expr}{ta tb:TE}{pos:Pos}
theorem IxR.or(h:IxR X r)(h':IxR X r'):IxR X (λx y H Q=>r x y H Q\/r' x y H Q):=by
 intro d c e s g H x y v u Q I i f q j;rcases q with q|q
 ·exact h d c e s g H x y v u Q I i f q j
 ·exact h' d c e s g H x y v u Q I i f q j
theorem MtR.or{d:String}(h:MtR X d r)(h':MtR X d r'):MtR X d (λx xs H Q=>r x xs H Q\/r' x xs H Q):=by
 intro c s f H x xs v g Q I e i q;rcases q with q|q
 ·exact h c s f H x xs v g Q I e i q
 ·exact h' c s f H x xs v g Q I e i q
theorem yA(l:IxR X r)(d:PE X a ta)(n:PE X b tb)(i:PlainIx b):PE X (.Subscript a b pos) (C9 r ta tb):=by intro c s k H Q I h;exact Subscript_ (z6 d n I h λv u j x y m f g e q=>l a b c j k m x y v u Q f g e q (i _ _))
def Dq(K:Waa):R2:=λx y H Q=>∃p c i v,x=.ref p/\y=.int i/\SqL K H p c/\atI c i=some v/\Q v H
def Ds(K:Waa):R2:=λx y H Q=>∃p c i v,x=.ref p/\y=.int i/\SqT K H p c/\atI c i=some v/\Q v H
def rIxS:R2:=λx y H Q=>∃z i c,x=.str z/\y=.int i/\z.length<=sizeLine/\atI z.cps.toList i=some c/\Q (.str ⟨#[c]⟩) H
theorem ix_list:IxR X (Dq X.K):=by
 intro m f c s B H x y v u Q I N M h o;obtain⟨p,xs,i,z,rfl,rfl,D,L,q⟩:=h;cases N;obtain⟨t,rfl⟩:=M;obtain⟨n,r,k,Y⟩:=I.list D;obtain⟨j,e,G,U,S,O⟩:=atI_get L;obtain⟨w,A,g⟩:=r.get G;have J:=r.length;have Z:=line63;have d:EP X c B Q w s:=⟨z,H,I,g,q⟩
 by_cases C:0<=i
 ·have l:i.toNat=j:=by rw[seqIndex_of C O]at e;exact aaE e
  exact item_listR k.isList C (by omega) (by rw[l];simpa using A) d o
 ·have l:(i+(n.toArray.size:Int)).toNat=j:=by rw[seqIndex_neg (by omega) S]at e;rw[aaw,<-J];exact aaE e
  exact subscriptTail_builtinR (x:=w) k.isList.typeIs slot_list_getitem.lookup
   (wpAny_getItem_list_neg (Q:=λr T=>r=w/\EP X c B Q r T) k.isList (by omega) (by rw[aaw]<;>omega) (by omega) (by rw[l];simpa using A) ⟨rfl,d⟩) o
theorem ix_tup:IxR X (Ds X.K):=by
 intro g d c s l H x y v u Q I C B h D;obtain⟨p,Y,i,z,rfl,rfl,m,A,q⟩:=h;cases C;obtain⟨t,rfl⟩:=B;obtain⟨L,r,k,O⟩:=I.tuple m;obtain⟨j,G,n,N,U,S⟩:=atI_get A;obtain⟨w,J,e⟩:=r.get n;have o:=r.length;have T:=line63;have f:EP X c l Q w s:=⟨z,H,I,e,q⟩
 exact subscriptTail_builtinR (x:=w) k.typeIs slot_tuple_getitem.lookup
  (getItem_tuple (j:=j) (Q:=λr M=>r=w/\EP X c l Q r M) k (by omega) (by omega) (by rw[aaw,<-o];exact G) (by simpa using J) ⟨rfl,f⟩) D
theorem Aj:IxR X rIxS:=by
 intro e d g s G H x y v u Q I r p h w;obtain⟨z,i,c,rfl,rfl,D,o,q⟩:=h;obtain⟨t,rfl⟩:=r;obtain⟨J,rfl⟩:=p;obtain⟨j,f,k,C,B,A⟩:=atI_get o;have m:z.cps.toList.length=z.length:=by simp[Str.length]
 rw[m]at f B A;have L:=line63;exact tail_any (typeIs_str s z t) slot_str_getitem.lookup (getItem_str (c:=c) (by
  have n:decide (i < -(2^63:Int))=false:=Dab (by omega);have l:decide (i ≥ 2^63)=false:=Dab (by omega);rw[n,l,abF]) (by rw[f];simpa using k) ⟨.str ⟨#[c]⟩,H,I.tok _,⟨_,rfl⟩,q⟩) w
def JN(K:Waa):R2:=λx y H Q=>Dq K x y H Q\/Ds K x y H Q\/rIxS x y H Q
theorem rY:IxR X (JN X.K):=ix_list.or (ix_tup.or Aj)
theorem lT(c:List Value)(n j:Nat)(u:Value):Obj.mapSeq (·.setIfInBounds j u) { cls:=.type "list",data:=.seq c.toArray n }={ cls:=.type "list",data:=.seq (c.set j u).toArray n }:=by simp[Obj.mapSeq]
theorem Inv.lst{d:List (Addr×Obj)}{σ:St}(I:Inv X d σ H s)(h:H p=some (.lst xs)):
  ∃(c:List Value) (n:Nat),Vals xs c/\s.heap.get? p=some { cls:=.type "list",data:=.seq c.toArray n }/\xs.length<=sizeLine:=by
 obtain⟨z,c,n,r,e⟩:=I.hok p _ h;exact⟨c,n,r,e,z⟩
theorem Inv.lstUpd{xs ys:List V}{d c:List Value}{n g:Nat}{f:Obj->Obj}(I:Inv X pins σ H s)(h:H p=some (.lst xs))
  (j:s.heap.get? p=some { cls:=.type "list",data:=.seq d.toArray n }) (i:f { cls:=.type "list",data:=.seq d.toArray n }={ cls:=.type "list",data:=.seq c.toArray g }) (r:Vals ys c) (k:ys.length<=sizeLine) (t:Nat):
  Inv X pins σ (upd H p (.lst ys)) { s with heap:=s.heap.update p f,toks:=t }:=by
 have e:(s.heap.update p f).get? p=some { cls:=.type "list",data:=.seq c.toArray g }:=by rw[Heap.get?_update_self f j (by rw[i]<;>rfl),i]
 refine I.write (by rw[h];trivial) (.inl rfl) (λb u l q=>(Heap.get?_update_other _ _ (aaN l)).trans q) ⟨_,e⟩ ?_;exact⟨k,c,g,r,e⟩
def rSetL:V->V->V->Hp->(Hp->Prop)->Prop:=λo i v H Q=>∃p c k j,o=.ref p/\i=.int k/\H p=some (.lst c)/\ixN c.length k=some j/\Q (upd H p (.lst (c.set j v)))
theorem set_list:PSet X rSetL:=by
 intro d s D H o i v O M u Q I A L G h;obtain⟨p,J,k,j,rfl,rfl,x,C,q⟩:=h;cases A;obtain⟨t,rfl⟩:=L;obtain⟨c,n,r,f,B⟩:=I.lst x;obtain⟨e,N,m,z⟩:=ixN_seq C;have g:=r.length;have S:=line63;have w:Inv X d D (upd H p (.lst (J.set j v))) { s with heap:=s.heap.update p (Obj.mapSeq (·.setIfInBounds j u)) }:=
  I.lstUpd x f (lT c n j u) (r.set G j) (by rw[abj];exact B) s.toks
 by_cases y:0<=k
 ·have l:k.toNat=j:=by rw[seqIndex_of y z]at e;exact aaE e
  exact PySem.W.ki_setAt f y (by omega) (by rw[aaw,<-g];exact z) (by rw[l];exact⟨_,w,q⟩)
 ·have l:(k+(c.toArray.size:Int)).toNat=j:=by rw[seqIndex_neg (by omega) m]at e;rw[aaw,<-g];exact aaE e
  exact PySem.W.ki_setBack f (by omega) (by rw[aaw,<-g];exact m) (by omega) (by rw[l];exact⟨_,w,q⟩)
theorem jr(lo hi:Option Int)(n:Nat):(sliceBounds lo hi none n).1=((HT.sIx n 0 lo:Nat):Int)/\(sliceBounds lo hi none n).2.1=((HT.sIx n n hi:Nat):Int)/\(sliceBounds lo hi none n).2.2=1:=by
 refine⟨?_,?_,rfl⟩
 ·cases lo with
  |none=>simp[sliceBounds,HT.sIx]
  |some i=>
   simp only[sliceBounds,HT.sIx,Option.getD_none,show (1:Int)>0 by decide,if_true];by_cases h:i<0
   ·simp only[h,if_true]<;>omega
   ·simp only[h,if_false]<;>omega
 ·cases hi with
  |none=>simp[sliceBounds,HT.sIx]
  |some i=>
   simp only[sliceBounds,HT.sIx,Option.getD_none,show (1:Int)>0 by decide,if_true];by_cases h:i<0
   ·simp only[h,if_true]<;>omega
   ·simp only[h,if_false]<;>omega
theorem iK(c:List Value)(lo hi:Option Int):slicePick c.toArray lo hi none=((c.drop (HT.sIx c.length 0 lo)).take (HT.sIx c.length c.length hi-HT.sIx c.length 0 lo)).toArray:=by obtain⟨e,d,f⟩:=jr lo hi c.toArray.size;unfold slicePick;rw[e,d,f];simp only[sliceRange_one,pick_run,aaw]<;>rfl
def GF(K:Waa):V->Option Int->Option Int->Hp->VK->Prop:=λx e d H Q=>∃a c,x=.ref a/\SqL K H a c/\∀p,H p=none->Q (.ref p) (upd H p (.lst (v7 c e d)))
theorem v8:SlR X (GF X.K):=by intro i s y H x v w z e g t Q I m n l p h;obtain⟨a,d,rfl,j,q⟩:=h;cases m;obtain⟨o,r,f,k⟩:=I.list j;have c:=r.length;refine⟨"list",_,slot_list_getitem.lookup,f.isList.typeIs,?_⟩;refine wpAny_getItem_list_slice f.isList n l p .none (by simp) ?_ (by rw[aaw]<;>omega);rw[iK,<-c];refine⟨.ref s.heap.objs.size,_,I.laid (λb u q=>Heap.get?_push_of_some _ q) (aag _) ?_,rfl,q _ (I.hok.fresh (aag _))⟩;exact⟨aat (ku d e g) k,_,0,(r.drop (HT.sIx d.length 0 e)).take (HT.sIx d.length d.length g-HT.sIx d.length 0 e),Heap.get?_push_size _ rfl⟩
def cb:V->Bool
 |.non=>true
 |.bl _=>true
 |.int _=>true
 |.str _=>true
 |_=>false
def eqV:V->V->Bool
 |.non,.non=>true
 |.bl a,.bl b=>a==b
 |.bl a,.int b=>(if a then 1 else 0)==b
 |.int a,.bl b=>a==(if b then 1 else 0)
 |.int a,.int b=>a==b
 |.str a,.str b=>a==b
 |_,_=>false
theorem Ak(e:RelV y u)(c:RelV x v)(g:cb y=true)(f:cb x=true):SeqAt.EqAt A s u v (eqV y x):=by
 cases y with
 |non=>
  cases e;cases x with
  |non=>cases c;exact SeqAt.EqAt.same _
  |bl b=>cases c;exact SeqAt.EqAt.none_bool b
  |int b=>obtain⟨t,rfl⟩:=c;exact SeqAt.EqAt.none_int b t
  |str b=>obtain⟨t,rfl⟩:=c;exact SeqAt.EqAt.none_str b t
  |_=>exact absurd (show false=true from f) aad
 |bl a=>
  cases e;cases x with
  |non=>cases c;exact SeqAt.EqAt.bool_none a
  |bl b=>cases c;exact SeqAt.EqAt.bool_bool a b
  |int b=>obtain⟨t,rfl⟩:=c;exact SeqAt.EqAt.bool_int a b t
  |str b=>obtain⟨t,rfl⟩:=c;exact SeqAt.EqAt.bool_str a b t
  |_=>exact absurd (show false=true from f) aad
 |int a=>
  obtain⟨d,rfl⟩:=e;cases x with
  |non=>cases c;exact SeqAt.EqAt.int_none a d
  |bl b=>cases c;exact SeqAt.EqAt.int_bool a d b
  |int b=>obtain⟨t,rfl⟩:=c;exact SeqAt.EqAt.int_int a d b t
  |str b=>obtain⟨t,rfl⟩:=c;exact SeqAt.EqAt.int_str a d b t
  |_=>exact absurd (show false=true from f) aad
 |str a=>
  obtain⟨d,rfl⟩:=e;cases x with
  |non=>cases c;exact SeqAt.EqAt.str_none a d
  |bl b=>cases c;exact SeqAt.EqAt.str_bool a d b
  |int b=>obtain⟨t,rfl⟩:=c;exact SeqAt.EqAt.str_int a d b t
  |str b=>obtain⟨t,rfl⟩:=c;exact SeqAt.EqAt.str_str a d b t
  |_=>exact absurd (show false=true from f) aad
 |_=>exact absurd (show false=true from g) aad
def lW(x:V)(u:Value):Bool:=match u with
 |.none=>eqV .non x
 |.bool b=>eqV (.bl b) x
 |.int i _=>eqV (.int i) x
 |.str z _=>eqV (.str z) x
 |_=>false
theorem rZ(r:RelV y u)(f:cb y=true):lW x u=eqV y x:=by
 cases y with
 |non=>cases r;rfl
 |bl b=>cases r;rfl
 |int i=>obtain⟨t,rfl⟩:=r;rfl
 |str z=>obtain⟨t,rfl⟩:=r;rfl
 |_=>exact absurd (show false=true from f) aad
theorem eK:∀{xs:List V}{us:List Value},Vals xs us->xs.all cb=true->us.any (lW x)=xs.any λy=>eqV y x
 |_,_,.nil,_=>rfl
 |y::xs,u::us,.cons r t,f=>by rw[List.all_cons,aaC]at f;rw[aaY,aaY,rZ r f.1,eK t f.2]
theorem cQ(d:RelV x v)(e:cb x=true):∀{xs:List V}{us:List Value},Vals xs us->xs.all cb=true->∀u∈us,SeqAt.EqAt A s u v (lW x u)
 |_,_,.nil,_=>λu c=>by cases c
 |y::xs,u::us,.cons r t,f=>λg c=>by
  rw[List.all_cons,aaC]at f;rcases aab.mp c with rfl|c
  ·rw[rZ r f.1];exact Ak r d f.1 e
  ·exact cQ d e t f.2 g c
def inV(x:V)(xs:List V):Bool:=xs.any λy=>eqV y x
def GG(K:Waa)(d:Bool):R2:=λx y H Q=>∃p c,y=.ref p/\(SqL K H p c\/SqT K H p c)/\cb x=true/\c.all cb=true/\Q (.bl (if d then !inV x c else inV x c)) H
theorem pX:OpR X (compareOp .In) (GG X.K false):=by
 intro k s n H x y v u Q I j m h;obtain⟨p,o,rfl,d,i,e,q⟩:=h;cases m;rcases d with d|d
 ·obtain⟨c,r,g,l⟩:=I.list d;refine SeqAt.in_listAt (lW x) g.isList (λw f=>cQ j i r e w (by simpa using f)) ⟨.bl _,H,I,rfl,?_⟩;rw[show c.toArray.any (lW x)=c.any (lW x) by simp,eK r e];exact q
 ·obtain⟨c,r,g,l⟩:=I.tuple d;refine SeqAt.in_tupleAt (lW x) g (λw f=>cQ j i r e w (by simpa using f)) ⟨.bl _,H,I,rfl,?_⟩;rw[show c.toArray.any (lW x)=c.any (lW x) by simp,eK r e];exact q
theorem jt:OpR X (compareOp .NotIn) (GG X.K true):=by
 intro k s n H x y v u Q I j m h;obtain⟨p,o,rfl,d,i,e,q⟩:=h;cases m;rcases d with d|d
 ·obtain⟨c,r,g,l⟩:=I.list d;refine SeqAt.notIn_listAt (lW x) g.isList (λw f=>cQ j i r e w (by simpa using f)) ⟨.bl _,H,I,rfl,?_⟩;rw[show c.toArray.any (lW x)=c.any (lW x) by simp,eK r e];exact q
 ·obtain⟨c,r,g,l⟩:=I.tuple d;refine SeqAt.notIn_tupleAt (lW x) g (λw f=>cQ j i r e w (by simpa using f)) ⟨.bl _,H,I,rfl,?_⟩;rw[show c.toArray.any (lW x)=c.any (lW x) by simp,eK r e];exact q
theorem CallR.or(h:CallR X f r)(h':CallR X f r'):CallR X f (λxs H Q=>r xs H Q\/r' xs H Q):=by
 intro c s d H xs e Q I g q;rcases q with q|q
 ·exact h c s d H xs e Q I g q
 ·exact h' c s d H xs e Q I g q
theorem iL:CallR X (.type "tuple") (λxs H Q=>∃p ys,xs=[.ref p]/\((SqL X.K H p ys/\∀l,H l=none->Q (.ref l) (upd H l (.tup ys)))\/(SqT X.K H p ys/\Q (.ref p) H))):=by
 intro c s n H xs z Q I r h;obtain⟨p,ys,rfl,h⟩:=h;obtain⟨u,rfl,x⟩:=vals1 r;cases x;rcases h with ⟨i,q⟩|⟨i,q⟩
 ·obtain⟨d,g,j,m⟩:=I.list i;have t:=g.length;refine call_tuple_list j.isList (λf y=>?_) (by simp only[aaw]<;>omega);have k:Inv X c n H { s with heap:=f }:=I.kept y;have v:Inv X c n (upd H f.objs.size (.tup ys)) { s with heap:=f.push { cls:=.type "tuple",data:=.seq d.toArray } }:=
   k.laid (λb o e=>Heap.get?_push_of_some _ e) (aag _) (show ObjOk X.prog X.w _ _ _ (.tup ys) from ⟨m,d,g,⟨_,Heap.get?_push_size _ rfl,rfl,_,rfl,rfl⟩⟩)
  exact⟨.ref f.objs.size,_,v,rfl,q _ (k.hok.fresh (aag _))⟩
 ·obtain⟨d,g,j,m⟩:=I.tuple i;exact call_tuple_same j ⟨.ref p,H,I,rfl,q⟩
def GH(K:Waa)(T:String)(x:V)(H:Hp):Prop:=match x with
 |.str _=>T="str"
 |.int _=>T="int"
 |.ref p=>(T="list"/\∃d,SqL K H p d)\/(T="tuple"/\∃d,SqT K H p d) \/
   (T="dict"/\((∃c,H p=some (.dK c))\/∃c,H p=some (.dT c)))\/(T="set"/\∃S n,H p=some (.set S n))
 |_=>False
theorem Am{g:List (Addr×Obj)}{σ:St}(I:Inv X g σ H s)(r:RelV x v)(h:GH X.K T x H):
  s.TypeIs v T/\∀a,v=.ref a->∃l,s.heap.get? a=some l/\l.dict=none:=by
 cases x with
 |str z=>obtain⟨t,rfl⟩:=r;cases (show T="str" from h);exact⟨typeIs_str s z t,λ_ e=>nomatch e⟩
 |int i=>obtain⟨t,rfl⟩:=r;cases (show T="int" from h);exact⟨typeIs_int s i t,λ_ e=>nomatch e⟩
 |ref p=>
  cases r;rcases h with ⟨rfl,C,w⟩|⟨rfl,C,f⟩|⟨rfl,f⟩|⟨rfl,S,n,f⟩
  ·obtain⟨B,_,m,_⟩:=I.list w;refine⟨m.isList.typeIs,λa e=>?_⟩;cases e;obtain⟨o,n,e,c,A,_⟩:=m;exact⟨o,e,A⟩
  ·obtain⟨o,q,y,u⟩:=I.tupN f;refine⟨⟨o,q,y⟩,λa e=>?_⟩;cases e;exact⟨o,q,u⟩
  ·have z:∃o,s.heap.get? p=some o/\o.ExactDict:=by
    rcases f with ⟨k,f⟩|⟨k,f⟩
    ·obtain⟨_,_,_,_,o,_,_,e,d,_⟩:=I.hok p _ f;exact⟨o,e,d⟩
    ·obtain⟨_,_,_,_,o,_,_,e,d,_⟩:=I.hok p _ f;exact⟨o,e,d⟩
   obtain⟨o,e,d⟩:=z;refine⟨⟨o,e,d.1⟩,λa j=>?_⟩;cases j;exact⟨o,e,d.2.1⟩
  ·obtain⟨o,_,_,_,e,d,_⟩:=I.hok p _ f;refine⟨⟨o,e,d.1⟩,λa j=>?_⟩;cases j;exact⟨o,e,d.2.1⟩
 |_=>exact False.elim h
def JO(K:Waa)(T:String)(r:V->List V->Hp->VK->Prop)(e:TE):TE:=λd H Q=>e d H λx c=>GH K T x c/\r x [] c Q
def JP(K:Waa)(T:String)(r:V->List V->Hp->VK->Prop)(g:TE)(t:TA):TE:=λd H Q=>g d H λx c=>GH K T x c/\t d c λf e=>r x f e Q
variable{o e:Expr}{es:List Expr}{to:TE}{t:TA}{name:Str}{apos cpos:Pos}{T id:String}{r:V->List V->Hp->VK->Prop}
theorem r6(u:PlainAttrs T) (j:Slot T name id) (k:typeOf (.builtin id)=pure (.type "method_descriptor")) (D:MtR X id r) (z:PE X o to) (B:PA X (e::es) t)
  (g:attributeBase o name X.env (eval o X.env)=eval o X.env:=by rfl)
  (i:((backTo cpos (starEach (e::es) X.env)).all (λx=>!x.1)&&(backToKw cpos (keywordEach [] X.env)).all (λx=>x.1.isSome)
   && decide ((e::es).length+([]:List Keyword).length+(if ([]:List Keyword).isEmpty then 0 else 1)<30))=true:=by rfl)
  (f:(apos.endLine==cpos.line)=true:=by rfl) (J:starEach (e::es) X.env=(false,eval e X.env)::starEach es X.env:=by rfl) (d:(backTo cpos (starEach es X.env)).any (·.1)=false:=by rfl):
  PE X (.Call (.Attribute o name apos) (e::es) [] cpos) (JP X.K T r to t):=by
 intro c s l H Q I h;refine wpAny_Call_method_late g i f rfl (thn (z c s l H _ I h) λv U N=>?_);obtain⟨x,C,m,p,q,y⟩:=N;obtain⟨L,w⟩:=Am m p q;refine⟨T,id,u,j,k,L,w,?_⟩;have n:=B cpos c U l C _ m y;rw[J]at n ⊢;refine Calls.callWith_builtin (by show (false||(backTo cpos (starEach es X.env)).any (·.1))=false;rw[d]<;>rfl) (Calls.evalArgs_plain ?_);exact thn n λZ M ⟨Y,S,G,A,O⟩=>D c M l S x Y v Z Q G p A O
end
end
section
def Iu(X:Cx)(id:String)(r:V->List V->Hp->VK->Prop):Prop:=
 ∀(a:List (Addr×Obj)) (s:Shared) (b:St) (H:Hp) (x:V) (c:List V) (v:Value) (d:List Value) (Q:VK),Inv X a b H s->RelV x v->Vals c d->r x c H Q ->
  wpAny (model X.prog X.w) X.A (call (.builtin id) (v::d)) (EP X a b Q) X.xe s
theorem Vals.one(h:Vals [x] us):∃u,us=[u]/\RelV x u:=by
 cases h with|cons r t=>cases t;exact⟨_,rfl,r⟩
theorem Vals.two(h:Vals [x,y] us):∃u v,us=[u,v]/\RelV x u/\RelV y v:=by
 cases h with|cons r t=>cases t with|cons q t=>cases t;exact⟨_,_,rfl,r,q⟩
theorem Vals.zero:∀{us:List Value},Vals [] us->us=[]
 |_,.nil=>rfl
theorem Vals.dropLast(h:Vals xs us):Vals xs.dropLast us.dropLast:=by
 induction h with
 |nil=>exact .nil
 |cons r t a=>
  cases t with
  |nil=>exact .nil
  |cons q b=>exact .cons r a
theorem Vals.eraseIdx:∀{xs:List V}{us:List Value} (i:Nat),Vals xs us->Vals (xs.eraseIdx i) (us.eraseIdx i)
 |_,_,_,.nil=>.nil
 |_,_,0,.cons _ t=>t
 |_,_,i+1,.cons r t=>.cons r (Vals.eraseIdx i t)
theorem Vals.reverse(h:Vals xs us):Vals xs.reverse us.reverse:=by
 induction h with
 |nil=>exact .nil
 |cons r t a=>rw[List.reverse_cons,List.reverse_cons];exact Vals.append a (.cons r .nil)
theorem Vals.rep(h:Vals xs us):∀k:Nat,Vals (List.replicate k xs).flatten (List.replicate k us).flatten
 |0=>.nil
 |k+1=>by rw[aaO,aaO,abk,abk];exact Vals.append h (Vals.rep h k)
theorem foldl_rep(b:List Value):∀(k:Nat) (a:List Value),
  List.foldl (λc d=>c++d) a.toArray (List.replicate k b.toArray)=(a++(List.replicate k b).flatten).toArray
 |0,a=>by simp
 |k+1,a=>by
  have e:a.toArray++b.toArray=(a++b).toArray:=by simp
  have f:(a++b)++(List.replicate k b).flatten=a++(List.replicate (k+1) b).flatten:=by rw[aaO,abk,aac]
  rw[<-f,<-foldl_rep b k (a++b),<-e,aaO,List.foldl_cons]
section
variable{X:Cx}{pins:List (Addr×Obj)}{σ:St}{H:Hp}{s:Shared}{l b:Addr}{xs ys zs:List V}
theorem Inv.lset{c a:List Value}{n:Nat}{f:Array Value->Array Value}{t':Nat}(I:Inv X pins σ H s)(g:H l=some (.lst xs))
  (e:s.heap.get? l=some { cls:=.type "list",data:=.seq c.toArray n }) (d:f c.toArray=a.toArray) (k:Vals ys a) (h:ys.length<=sizeLine):
  Inv X pins σ (upd H l (.lst ys)) { s with heap:=s.heap.update l (Obj.mapSeq f),toks:=t' }:=by
 have q:=PySem.IsL.update e f;rw[d]at q;refine I.write (by rw[g];exact trivial) (.inl rfl) (λm u i j=>(Heap.get?_update_other s.heap (Obj.mapSeq f) (aaN i)).trans j) ⟨_,q⟩ ?_;exact⟨h,a,_,k,q⟩
theorem Inv.lnew{t':Nat}(I:Inv X pins σ H s)(c:Vals ys its)(a:ys.length<=sizeLine):
  Inv X pins σ (upd H s.heap.objs.size (.lst ys)) { s with heap:=s.heap.push { cls:=.type "list",data:=.seq its.toArray },toks:=t' }:=
 I.laid (λ_ _ q=>Heap.get?_push_of_some _ q) (aag _) ⟨a,its,0,c,Heap.get?_push_size _ rfl⟩
theorem Inv.fresh(I:Inv X pins σ H s):H s.heap.objs.size=none:=I.hok.fresh (aag _)
theorem Inv.vl(I:Inv X pins σ H s)(c:H l=some (.lst xs)):xs.length<=sizeLine/\∃(a:List Value) (n:Nat),Vals xs a/\xs.length=a.length/\s.heap.get? l=some { cls:=.type "list",data:=.seq a.toArray n }:=by obtain⟨z,a,n,r,e⟩:=I.hok l _ c;exact⟨z,a,n,r,r.length,e⟩
theorem ky(h:n<=sizeLine):Builtin.List.listTooLong n=false:=by unfold Builtin.List.listTooLong;exact Dab (by omega)
end
section
variable{X:Cx}
def rAppend:V->List V->Hp->VK->Prop:=λx b H Q=>∃l a y,x=.ref l/\b=[y]/\H l=some (.lst a)/\a.length<sizeLine/\Q .non (upd H l (.lst (a++[y])))
theorem iU:Iu X "list.append" rAppend:=by intro c s k H x m v p Q I d f h;obtain⟨l,o,y,rfl,rfl,b,j,q⟩:=h;cases d;obtain⟨u,rfl,g⟩:=f.one;obtain⟨z,a,n,r,i,e⟩:=I.vl b;refine call_meets F.slot_list_append ⟨_,e,rfl⟩ F.entry_list_append (F.args_list_append_2 _ _) (PySem.list_append l a.toArray n u (by rw[aaw];omega)) ⟨e,?_⟩;refine⟨.non,_,I.lset b e (by simp) (r.append (.cons g .nil)) ?_,rfl,q⟩;rw[aaf,aaI];omega
def FX:V->List V->Hp->VK->Prop:=λx d H Q=>∃l b a c,x=.ref l/\d=[.ref b]/\H l=some (.lst a)/\H b=some (.lst c)/\a.length+c.length<=sizeLine/\Q .non (upd H l (.lst (a++c)))
def JQ:V->List V->Hp->VK->Prop:=λx b H Q=>∃l a y,x=.ref l/\b=[]/\H l=some (.lst a)/\a[a.length-1]?=some y/\Q y (upd H l (.lst a.dropLast))
def GI:V->List V->Hp->VK->Prop:=λx b H Q=>∃l a i k y,x=.ref l/\b=[.int i]/\H l=some (.lst a)/\-(2^63)<=i/\i<2^63/\seqIndex? i a.length=some k/\a[k]?=some y/\Q y (upd H l (.lst (a.eraseIdx k)))
def Du:V->List V->Hp->VK->Prop:=λx b H Q=>∃l a,x=.ref l/\b=[]/\H l=some (.lst a)/\Q .non (upd H l (.lst a.reverse))
def GJ:V->List V->Hp->VK->Prop:=λx a H Q=>∃l b,x=.ref l/\a=[]/\H l=some (.lst b)/\Q .non (upd H l (.lst []))
def JR:R2:=λx y H Q=>∃l b a c,x=.ref l/\y=.ref b/\H l=some (.lst a)/\H b=some (.lst c)/\a.length+c.length<=sizeLine/\∀p,H p=none->Q (.ref p) (upd H p (.lst (a++c)))
def rRep:R2:=λx y H Q=>∃l k a,x=.ref l/\y=.int k/\H l=some (.lst a)/\-(2^63)<=k/\k<2^63/\a.length*k.toNat<=sizeLine /\
 ∀p,H p=none->Q (.ref p) (upd H p (.lst (List.replicate k.toNat a).flatten))
theorem len_rep{b:Type}(xs:List b)(k:Nat):(List.replicate k xs).flatten.length=k*xs.length:=by
 induction k with
 |zero=>simp
 |succ k a=>rw[aaO,abk,aaf,a,Nat.succ_mul,Nat.add_comm]
theorem An:OpR X (binaryOp .Mult) rRep:=by
 intro w s O H x y v u Q I D C h;obtain⟨l,k,S,rfl,rfl,J,G,A,p,q⟩:=h;cases D;obtain⟨t,rfl⟩:=C;obtain⟨z,b,n,r,B,e⟩:=I.vl J;have i:b.toArray.size*k.toNat<=sizeLine:=by rw[aaw,<-B];exact p
 have d:¬ b.toArray.size*k.toNat>(2^63-1)/8:=by
  have:(sizeLine:Nat)<=(2^63-1)/8:=by decide
  omega
 have f:¬ (!Builtin.List.listFitsIndex k)=true:=by rw[fitsIndex_both G A];exact aad
 have c:¬ Builtin.List.listTooLong (b.toArray.size*k.toNat)=true:=by rw[ky i];exact aad
 have g:List.foldl (λo j=>o++j) #[] (List.replicate (if b.toArray.isEmpty=true then 0 else k.toNat) b.toArray)=(List.replicate k.toNat b).flatten.toArray:=by
  have M:∀m:Nat,List.foldl (λo j=>o++j) #[] (List.replicate m b.toArray)=(List.replicate m b).flatten.toArray:=λm=>by have:=foldl_rep b m [];rw[aaD]at this;exact this
  rw[M];cases b with
  |nil=>simp
  |cons a N=>rw[if_neg (by simp)]
 refine wpAny_binaryOp_repeat_ref (by decide) ⟨_,e,rfl⟩ (λL=>typeIs_int L k t) noFill_list_mul F.fills_int_mul F.slot_int_rmul repeat_list F.slot_int_index.lookup
  (call_meets F.slot_int_rmul (typeIs_int s k t) F.entry_int_rmul (F.args_int_rmul_2 _ _) (int___rmul___int_list k t l b.toArray n)
   ⟨e,rfl,⟨_,e,rfl⟩,call_meets F.slot_list_mul ⟨_,e,rfl⟩ F.entry_list_mul (F.args_list_mul_2 _ _) (AutoListH.list___mul___list_int_3 l b.toArray n k t f d c) ⟨e,?_⟩⟩)
 rw[g];exact⟨.ref _,_,I.lnew (r.rep k.toNat) (by rw[len_rep,Nat.mul_comm];exact p),rfl,q _ I.fresh⟩
end
section
variable{prog:Program}{w:World}{A:Around}{E:Value->Shared->Prop}{s:Shared}
set_option maxRecDepth 100000 in
end
end
end L2
namespace Att
open PySem PySem.W PySem.Calls PyProof.Rows
theorem gk:∀(ns:List Int) (vs:List Value),WellAll P h vs (ns.map WData.int)->IntsAre vs ns:=by
 intro ns;induction ns with
 |nil=>intro vs w;rw[aaL]at w;cases w;exact .nil
 |cons n ns c=>
  intro vs w;rw[aap]at w;cases w with
  |cons a b=>cases a;exact .cons _ _ (c _ b)
theorem pY{l:OpenLaw}(v:l.most=some n)
  (b:l.row.toRowW.claim.pre args=true) (j:WellAll P h vals args):
  ∃a vs ns,vals=[Value.ref a]/\args=[WData.list (ns.map WData.int)]/\h.get? a=some { cls:=.type "list",data:=.seq vs.toArray }/\IntsAre vs ns/\ns.length<=n:=by
 have i:WShape.hasAll [] args [.list .int]=true:=(pre_splitW b).1;have k:l.pre.holds [] { args:=args }=true:=(pre_splitW b).2;obtain⟨d,r,rfl,t,o⟩:=hasAllW_cons i;obtain rfl:=hasAllW_nil o;obtain⟨x,rfl,m⟩:=hasW_list t;obtain⟨ns,rfl⟩:=items_int m;have c:ns.length<=n:=by
  unfold OpenLaw.pre at k;have g:(WTm.not (.lt (.lit (.int (n:Int))) (.len (.arg 0)))).holds [] { args:=[.list (ns.map .int)] }=true:=by have g:=(holds_andW k).1;rw[v]at g;exact g
  have f:=condW_of g (w_not (w_lt w_lit (w_len_list (w_arg rfl))));rw[aaa]at f;refine Nat.le_of_not_lt λq=>?_;have s:(n:Int)<((ns.length:Nat):Int):=by omega
  first
   | (rw[Dac s]at f;exact absurd f (by decide))
   | (simp at f;omega)
 cases j with
 |cons u w=>
  cases w;cases u with
  |list p e=>exact⟨_,_,ns,rfl,rfl,p,gk ns _ e,c⟩
theorem pZ(l:OpenLaw)(args:List WData):l.row.toRowW.claim.post args (.bool true) args=true:=
 postW_of
  (show WShape.has [] (.bool true) .bool=true by first|rfl|decide|simp[WShape.has,WShape.arms,WShape.armsAll])
  (show (WTm.eq .res (.lit (.bool true))).value [] { args:=args,res:=some (.bool true),after:=args }=some (.bool (true==true)) from w_eq_bool (w_res rfl) w_lit) rfl
theorem attach_call{l:OpenLaw}
  (U:l.most=some n) (u:d.params.defaults=[])
  (call:∀(w:World) (c b:Shared) (p t:Str->Option Value) (i:Addr) (o:Obj) (y m e:Value) (a:Addr) (vs:List Value) (ns:List Int),
   Ground q loose [] XP w c p t b.heap->YP w b.heap ->
   b.heap.get? i=some o->o.data=.func (docDef d.name d.params d.body d.scope y m e)->b.heap.CodeRec m d.name->p d.name=some (.ref i) ->
   b.heap.get? a=some { cls:=.type "list",data:=.seq vs.toArray }->IntsAre vs ns->ns.length<=n->b.gens=#[] ->
   codeAny (model l.prog w) callerA (.call (.ref i) ⟨[.ref a],[]⟩) (λr s=>r=.ok (.ret (.bool true))/\OldK b.heap s.heap/\s.os=b.os/\AllBare s.gens) b):
  WalkO q loose XP YP l.row.toRowW d [] (λf vs=>PySem.call f vs):=by
 intro w c b p t G Y i o y m e S X M Q x D v L B C as k A T z N;obtain rfl:S=.none:=Dflts.none D u;obtain rfl:X=.none:=Dflts.noKw D;obtain⟨a,vs,ns,rfl,rfl,h,g,j⟩:=pY U k z;refine enter_call (codeAny_mono (call w c b p t i o y m e a vs ns G Y M (fd_plain Q) x v h g j L) λr s I=>?_);obtain⟨rfl,J,H,Z⟩:=I;exact⟨.inl ⟨.bool true,.bool true,[],rfl,λ_=>rfl,.bool true,pZ l _,λ_=>⟨List.Pairwise.nil,λ_ O=>(nomatch O)⟩⟩,J,H,Z⟩
section
variable{prog:Program}{w:World}{A:Around}{E:Value->Shared->Prop}{s:Shared}{K:Frag}
def GK(h:Heap):Heap:={ h with objs:=#[] }
def ledger(h:Heap)(L d:Addr):List (Addr×Obj):=(List.range h.objs.size).filterMap λa=>if a=L\/a=d then none else (h.get? a).map λo=>(a,o)
end
end Att
namespace L2
open PySem PySem.Spec PyProof.Rows
section
theorem vals_ints:∀{vs:List Value}{ns:List Int},IntsAre vs ns->Vals (ns.map V.int) vs
 |_,_,.nil=>.nil
 |_,_,.cons n t h=>.cons ⟨t,rfl⟩ (vals_ints h)
def Ao(H:Hp):Prop:=∀b,H b=none\/∃o a,H b=some (.frz o (.lst a))
theorem sd{P:Program}{w:World}{K:Waa}{CX:CXT}{k:Nat}{Q a:Addr}{Z:FuncData}{sp:Sp}{vs:List Value}{ns:List Int}
  (Y:K.In s₁.heap) (A:s₁.heap.Ns mainGlobals mg) (f:s₁.heap.Ns builtinsNs mb) (O:∀x:Str,x≠"__name__"->mb x=bootBuiltins x) (t:s₁.heap.NoLimit) (hg:s₁.gens=#[])
  (M:s₁.heap.get? a=some { cls:=.type "list",data:=.seq vs.toArray }) (hi:IntsAre vs ns) (hl:ns.length<=sizeLine) (hr:Room k callerA)
  (F:∀g:Heap,K.In g->g.Ns mainGlobals mg->FnOk P w K mg g CX k Q Z [x] sp) (p:∀(s:Shared) (u:Value),BindsTo s Z ⟨[u],[]⟩ [(x,u)])
  (X:∀H:Hp,Ao H->SqL K H a (ns.map V.int)->sp [.ref a] H (λv _=>v=.bl true) λ_ _ _=>False)
  (S:∀H e i,CX [] H s₁ (λ_ _ _=>False) e i->False):
  codeAny (model P w) callerA (.call (.ref Q) ⟨[.ref a],[]⟩) (λr i=>r=.ok (.ret (.bool true))/\OldK s₁.heap i.heap/\i.os=s₁.os/\AllBare i.gens) s₁:=by
 have rv:=vals_ints hi;have G:=hi.length;have l:∀H:Hp,Ao H->SqL K H a (ns.map V.int)->HOk P w H s₁.heap->(∀b,H b≠none->b=a)->(H a≠none->K.lookup a=none) ->
   codeAny (model P w) callerA (.call (.ref Q) ⟨[.ref a],[]⟩) (λr i=>r=.ok (.ret (.bool true))/\OldK s₁.heap i.heap/\i.os=s₁.os/\AllBare i.gens) s₁:=by
  intro H hO hS J hA hK;have c:∀{b:Addr}{o:Obj},s₁.heap.get? b=some o->H b=none->(jk s₁.heap H).get? b=some o:=λe n=>hidT_get e n;have N:∀{b:Addr}{o:Obj}{y:Array DictEntry}{L:Nat},s₁.heap.get? b=some o->o.data=.dict y L->H b=none:=λ{b o y L} e d=>by
   cases q:H b with
   |none=>rfl
   |some u=>have U:b=a:=hA b (by rw[q];simp);subst U;rw[M]at e;cases e;have d':Data.seq vs.toArray _=Data.dict y L:=d;cases d'
  have j:∀{b:Addr}{m:Str->Option Value},s₁.heap.Ns b m->(jk s₁.heap H).Ns b m:=λ{b m} ⟨o,y,L,e,d,r⟩=>⟨o,y,L,c e (N e d),d,r⟩
  have B:K.In (jk s₁.heap H):=λb o e=>c (Y b o e) (by
   cases q:H b with
   |none=>rfl
   |some u=>
    have U:b=a:=hA b (by rw[q];simp);subst U;rw[hK (by rw[q];simp)]at e;cases e)
  have hM:Mod K mg (jk s₁.heap H):=⟨B,j A,⟨mb,j f,O⟩,let ⟨mc,h1,h2⟩:=t;⟨mc,j h1,h2⟩⟩
  have e0:Env0 P w K mg (jk s₁.heap H) callerA [] s₁ H:=⟨rfl,hM,λb o e=>vN e,Nat.le_of_eq (pN _ _),trivial,λb f=>absurd (show b∈([]:List Addr) from f) (by simp),J,.of_eq hg⟩
  refine codeAny_mono ((F _ B (j A)).run callerA [] s₁ H ⟨[.ref a],[]⟩ [.ref a] [.ref a] _ _ hr e0 (p s₁ (.ref a)) (.cons rfl .nil) (X H hO hS)) λr i h=>?_;cases r with
  |error e=>exact(S H e i h).elim
  |ok fl=>
   cases fl with
   |next=>exact False.elim h
   |brk=>exact False.elim h
   |cont=>exact False.elim h
   |ret u=>
    obtain⟨v,H',os,I,un,C,r',q⟩:=h;have q':v=.bl true:=q;subst q';obtain rfl:u=Value.bool true:=r';refine⟨rfl,OldK.of_keep λb o e=>?_,os,I⟩;cases q:H b with
    |none=>exact un.keep b o e q (by intro z;exact absurd (show b∈([]:List Addr) from z) (by simp)) (by simp)
    |some u=>
     rcases hO b with z|⟨ob,xs,z⟩
     ·rw[q]at z;cases z
     ·have z2:=un.frzs b ob _ z;obtain⟨e1,_⟩:=J b _ z;obtain⟨e2,_⟩:=C b _ z2;rw[e]at e1;cases e1;exact e2
 cases T:K.lookup a with
 |some o=>have e:=Y a o T;rw[M]at e;cases e;refine l (λ_=>none) (λ_=>.inl rfl) (.inr ⟨_,vs.toArray,_,T,rfl,rfl,rfl,by rw[aaw,G];exact hl,by simpa using rv⟩) (λb u z=>by have D:(none:Option HO)=some u:=z;cases D) (λb z=>absurd rfl z) λz=>absurd rfl z
 |none=>
  refine l (λb=>if b=a then some (.frz { cls:=.type "list",data:=.seq vs.toArray } (.lst (ns.map V.int))) else none) (λb=>?_) (.inl (.inr ⟨{ cls:=.type "list",data:=.seq vs.toArray },if_pos rfl⟩)) (λb u z=>?_) (λb z=>?_) λ_=>T
  ·by_cases f:b=a
   ·exact .inr ⟨_,_,if_pos f⟩
   ·exact .inl (if_neg f)
  ·by_cases f:b=a
   ·have D:=(if_pos f).symm.trans z;cases D;subst f;exact⟨M,by rw[aaa];exact hl,vs,_,rv,M⟩
   ·have D:=(if_neg f).symm.trans z;cases D
  ·by_cases f:b=a
   ·exact f
   ·exact absurd (if_neg f) z
end
section
abbrev Kv{K:Waa}{h:Heap}(_:K.In h):Waa:=K
theorem walk_of{l:PySem.W.OpenLaw}{K:Params->Waa}{CX:World->CXT}{sp:World->Sp}{x:Str}
  (X:l.most=some n) (C:n<=sizeLine) (y:d.params.defaults=[]) (U:Room k callerA)
  (N:∀(w:World) (h:Heap),YP w h->(K w.params).In h)
  (F:∀(w:World) (m:Str->Option Value) (t:Addr) (h:Heap),(K w.params).In h->h.Ns mainGlobals m->m d.name=some (.ref t) ->
   ∃z:FuncData,(∀(s:Shared) (u:Value),BindsTo s z ⟨[u],[]⟩ [(x,u)]) /\
    ∀c:Heap,(K w.params).In c->c.Ns mainGlobals m->FnOk l.prog w (K w.params) m c (CX w) k t z [x] (sp w))
  (I:∀(w:World) (H:Hp) (a:Addr) (ns:List Int),ns.length<=n->Ao H->SqL (K w.params) H a (ns.map V.int)->sp w [.ref a] H (λv _=>v=.bl true) λ_ _ _=>False)
  (B:∀(w:World) (H:Hp) (s:Shared) (e:Value) (D:Shared),CX w [] H s (λ_ _ _=>False) e D->False):
  PySem.W.WalkO q loose XP YP l.row.toRowW d [] (λf vs=>PySem.call f vs):=by
 refine Att.attach_call X y λw J r m mb t o pm cd O a vs ns G Y ho hd Q A p j i M=>?_;have L:=N w _ Y;obtain⟨z,hb,hF⟩:=F w m t _ L G.T.g A;exact sd L G.T.g G.T.b G.T.builtins G.T.nolimit M p j (aat i C) U hF hb (λH Z S=>I w H a ns i Z S) λH e D=>B w H r e D
end
section
def inClass(s:Stmt)(j:Nat):Stmt:=match s with
 |.ClassDef _ _ _ body _ _ _ _ _ _ _=>body.getD j (.Pass ⟨0,0,0,0⟩)
 |_=>.Pass ⟨0,0,0,0⟩
def cF(s:Stmt):Arguments:=match s with
 |.FunctionDef _ a _ _ _ _ _ _ _ _=>a
 |_=>{ posonlyargs:=[],args:=[],vararg:=none,kwonlyargs:=[],kw_defaults:=[],kwarg:=none,defaults:=[] }
def bD(s:Stmt):List Stmt:=match s with
 |.FunctionDef _ _ b _ _ _ _ _ _ _=>b
 |_=>[]
def aK(s:Stmt):Scope:=match s with
 |.FunctionDef _ _ _ _ _ _ sc _ _ _=>sc
 |_=>{ kind:=.function,names:=[],isGenerator:=false,isCoroutine:=false }
abbrev CX0:CXT:=λ_ _ _ _ _ _=>False
abbrev E0:XK:=λ_ _ _=>False
theorem yC:Passes CX0 X E0:=λ_ _ _ _ _ _ _ h=>h.elim
structure Fun (K:Waa)(x qual:Str)(st:Stmt)(f:Addr)(fd:FuncData):Prop where
 ex:∃(oc:Value) (od:Option Addr) (kV doc pm:Value) (an:Option Addr) (cdv ct:Value) (osl:Array (Option Value)),
  fd=PySem.W.fnOf x qual (cF st) (bD st) (aK st) .none kV doc pm an cdv ct/\K.lookup f=some ⟨oc,od,.func fd,osl⟩/\PySem.W.codeIn K cdv qual=true
 kp:PySem.W.keepIn K (.ref f)=true
section
variable{P:Program}{w:World}{K:Waa}{mg:Str->Option Value}{base:Heap}
theorem Fun.ok{x b:Str}{e:Stmt}(F:Fun K x b e f fd)(S:FnScope N ps (aK e))(i:∀vs H Q E,sp vs H Q E->vs.length=ps.length)
  (d:∀(c:Value) (A:Around) (a:List Env) (s:Shared) (H:Hp) (vs:List V) (Q:VK) (E:XK),Room k (A.deeper (envOfC b (aK e) s.heap.objs.size f c))->sp vs H Q E ->
   ∃t,PSs (jq CX0 P w K mg base N b (aK e) f c A a s H E).vu (bD e) t/\t { nx:=λ_ m=>Q .non m,rt:=Q } (start N vs) H):FnOk P w K mg base CX0 (k+1) f fd ps sp:=by
 obtain⟨u,r,z,l,v,y,c,B,o,rfl,n,g⟩:=F.ex;refine Do n g S i λA a s H vs Q E p j=>?_;obtain⟨t,h,q⟩:=d c A a s H vs Q E p j;exact⟨t,h.vu,q⟩
theorem Fun.binds{c:Stmt}(F:Fun K x qual c f fd)
  (h:∀(i b d:Value) (g:Option Addr) (a e:Value) (us:List Value),us.length=ps.length->bindArgs (PySem.W.fnOf x qual (cF c) (bD c) (aK c) .none i b d g a e) ⟨us,[]⟩=pure (ps.zip us)):Binds K fd ps []:=by
 obtain⟨n,l,i,b,d,g,a,e,k,rfl,m,j⟩:=F.ex;exact .all (h i b d g a e)
theorem ju{b:Stmt}{h d e a g:Value}(l:K.lookup f=some ⟨oc,od,.func (PySem.W.fnOf x qual (cF b) (bD b) (aK b) .none h d e an a g),osl⟩)
  (c:PySem.W.codeIn K a qual=true) (k:PySem.W.keepIn K (.ref f)=true):Fun K x qual b f (PySem.W.fnOf x qual (cF b) (bD b) (aK b) .none h d e an a g):=⟨⟨oc,od,h,d,e,an,a,g,osl,rfl,l,c⟩,k⟩
end
def Same(H a:Hp):Prop:=∀b o,H b=some o->a b=some o
theorem Same.refl(H:Hp):Same H H:=λ_ _ h=>h
theorem Same.trans(a:Same H H1)(b:Same H1 H2):Same H H2:=λc o h=>b c o (a c o h)
theorem Same.free{H a:Hp}(e:Same H a)(h:a l=Option.none):H l=Option.none:=by
 cases q:H l with
 |none=>rfl
 |some o=>rw[e l o q]at h;cases h
theorem Same.seq{K:Waa}(e:Same H H')(h:SqL K H a xs):SqL K H' a xs:=by
 rcases h with (h|⟨o,h⟩)|h
 ·exact .inl (.inl (e _ _ h))
 ·exact .inl (.inr ⟨o,e _ _ h⟩)
 ·exact .inr h
end
section
theorem lY:∀(f:List (Str×NameKind)) (g:List (Str×Addr)),(∀x∈f,x.2=.free->∃c,env.cells.lookup x.1=some c) ->
  (∀x c,g.lookup x=some c->env.cells.lookup x=some c) ->
  ∃j:List (Str×Addr),forIn f g (λ(x:Str×NameKind) (r:List (Str×Addr))=>match x with
    | (name,kind)=>(if kind==NameKind.free then do let c <-cellOf env name;pure (ForInStep.yield ((name,c)::r)) else pure (ForInStep.yield r):Sem (ForInStep (List (Str×Addr)))))=pure j /\
   (∀x c,j.lookup x=some c->env.cells.lookup x=some c)/\(∀x∈f,x.2=.free->∃c,j.lookup x.1=some c)/\(∀x c,g.lookup x=some c->∃l,j.lookup x=some l):=by
 intro f;induction f with
 |nil=>intro g _ m;exact⟨g,rfl,m,λ_ h=>(nomatch h),λx c h=>⟨c,h⟩⟩
 |cons p r v=>
  intro g u m;obtain⟨n,k⟩:=p;rw[abZ];have w:∀x∈r,x.2=.free->∃c,env.cells.lookup x.1=some c:=λx i=>u x (aal _ i);by_cases t:k=.free
  ·subst t;obtain⟨c,y⟩:=u (n,.free) aaj rfl;have q:cellOf env n=pure c:=by unfold cellOf;rw[show env.cells.lookup n=some c from y]
   have s:∀x l,((n,c)::g).lookup x=some l->env.cells.lookup x=some l:=λx l h=>by
    rw[aaZ]at h;cases i:x==n with
    |true=>rw[i]at h;cases h;rw[eq_of_beq i];exact y
    |false=>rw[i]at h;exact m x l h
   obtain⟨j,e,a,b,d⟩:=v ((n,c)::g) w s;refine⟨j,?_,a,λx i o=>?_,λx l h=>?_⟩
   ·show ((cellOf env n >>= λc=>pure (ForInStep.yield ((n,c)::g))) >>= _)=_;rw[q];exact e
   ·rcases aab.mp i with rfl|i
    ·exact d n c (by simp[aaZ])
    ·exact b x i o
   ·cases i:x==n with
    |true=>exact d x c (by rw[aaZ,i])
    |false=>exact d x l (by rw[aaZ,i];exact h)
  ·have z:(k==NameKind.free)=false:=by simpa using t
   obtain⟨j,e,a,b,d⟩:=v g w m;refine⟨j,?_,a,λx i o=>?_,d⟩
   ·show ((if (k==NameKind.free)=true then _ else _) >>= _)=_;rw[z];exact e
   ·rcases aab.mp i with rfl|i
    ·exact absurd o t
    ·exact b x i o
theorem gG(h:∀x∈scope.names,x.2=.free->∃c,env.cells.lookup x.1=some c):
  ∃d:List (Str×Addr),closureFor scope env=pure d/\(∀x c,d.lookup x=some c->env.cells.lookup x=some c)/\(∀x∈scope.names,x.2=.free->∃c,d.lookup x.1=some c):=by
 obtain⟨d,e,a,b,_⟩:=lY scope.names [] h (λ_ _ h=>nomatch h);refine⟨d,?_,a,b⟩;have q:closureFor scope env=(forIn scope.names ([]:List (Str×Addr)) (λ(x:Str×NameKind) (r:List (Str×Addr))=>match x with
    | (name,kind)=>(if kind==NameKind.free then do let c <-cellOf env name;pure (ForInStep.yield ((name,c)::r)) else pure (ForInStep.yield r):Sem (ForInStep (List (Str×Addr))))) >>= λr=>pure r):=rfl
 rw[q,e];rfl
def aY(X:Cx)(N:List Str)(a:Scope)(c:List (Str×Addr))(s:Shared)(H:Hp)(d:List Addr)(b:List (Addr×Obj)):Cx where
 prog:=X.prog
 w:=X.w
 K:=X.K
 mg:=X.mg
 base:=X.base
 A:=X.A
 N:=N
 s₀:=s
 H₀:=H
 env:=compEnvC a c s.heap.objs.size X.env
 outer:=X.stack
 stack:=X.stack
 ex:=d
 fn:=λ_=>false
 calm:=X.calm
 pn:=X.pn++b
 xe:=λ_ _=>False
structure CC where
 cl:List (Str×Addr)
 s:Shared
 H:Hp
 fp:List Addr
 pins:List (Addr×Obj)
abbrev dM(X:Cx)(N:List Str)(scope:Scope)(c:CC):Cx:=aY X N scope c.cl c.s c.H c.fp c.pins
def bq(nt:Nat)(a:List Nat)(σ:St):St:=List.replicate nt none++a.map λj=>(σ[j]?).join
structure CompScope (N:List Str)(nt:Nat)(fr:List Nat)(ON:List Str)(sc osc:Scope):Prop where
 kind:sc.kind=.function
 nocell:∀x∈sc.names,x.2≠.cell
 names:∀x∈sc.names,x.2=.local->sc.names.lookup x.1=some .local
 len:N.length=nt+fr.length
 out:∀(i:Nat) (j:Nat),fr[i]?=some j->∃x,N[nt+i]?=some x/\ON[j]?=some x/\osc.names.lookup x=some .cell/\sc.names.lookup x=some .free
 cells:∀x∈sc.names,x.2=.free->osc.names.lookup x.1=some .cell
 looks:∀x∈sc.names,x.2=.free->sc.names.lookup x.1=some .free
theorem bR{sc:Scope}{env:Env}:∀(a:List (Str×NameKind)) (x:Str) (k:NameKind),
  (a.map λ(n,k)=>if (k==NameKind.free&&env.scope.kind==.function&&env.kindOf n==some .cell) then (n,NameKind.cell) else (n,k)).lookup x=some k ->
  a.lookup x=some k\/(k=.cell/\a.lookup x=some .free)
 |[],_,_,h=>by simp at h
 | (n,k0)::r,x,k,h=>by
  have e:=bR (sc:=sc) (env:=env) r x k;rw[aap]at h;have b:List.lookup x ((if (k0==NameKind.free&&env.scope.kind==.function&&env.kindOf n==some .cell)=true then (n,NameKind.cell) else (n,k0))::(r.map λ(n,k)=>if (k==NameKind.free&&env.scope.kind==.function&&env.kindOf n==some .cell) then (n,NameKind.cell) else (n,k)))=some k:=h;by_cases d:(k0==NameKind.free&&env.scope.kind==.function&&env.kindOf n==some .cell)=true
  ·rw[if_pos d,aaZ]at b;rw[aaZ];cases c:x==n with
   |true=>
    rw[c]at b;cases b;rw[aaC,aaC]at d;have:k0=.free:=by simpa using d.1.1
    subst this;exact .inr ⟨rfl,rfl⟩
   |false=>rw[c]at b;exact e b
  ·rw[if_neg d,aaZ]at b;rw[aaZ];cases c:x==n with
   |true=>rw[c]at b;exact .inl b
   |false=>rw[c]at b;exact e b
theorem p0(I:Nat->Shared->Prop)
  (l:∀n s,I n s->wpAny (model prog w) A (pyNext it) (λr f=>match r with
   |none=>R (.ok .next) f
   |some v=>wpAny (model prog w) A (letOwnedTupleGo target it v) (λ_ a=>wpAny (model prog w) A (assign target env v) (λ_ a=>
     wpAny (model prog w) A (forIn ifs true λc r=>if r=true then do let k <-isTrue c env (eval c env);pure (ForInStep.yield k) else pure (ForInStep.yield r)) (λk d=>
      if k=true then wpAny (model prog w) A (eval elt env) (λx i=>
       wpAny (model prog w) A (call (.builtin "list.append") [acc,x]) (λ_ j=>∃m,m<n/\I m j) (λ_ _=>False) i) (λ_ _=>False) d
      else ∃m,m<n/\I m d) (λ_ _=>False) a) (λ_ _=>False) a) (λ_ _=>False) f) (λ_ _=>False) s)
  (n:Nat) (h:I n s):
  codeAny (model prog w) A (.compLoop (.ListComp elt [⟨target,iter,ifs,0⟩] scope pos) 0 it acc env) R s:=by
 refine codeAny_loop rfl I (λn s t=>?_) n h;show wpAny _ A ((compTurn (.ListComp elt [⟨target,iter,ifs,0⟩] scope pos) 0 it acc env).onRaise (λx=>do noteFrame x env;theTreesLotGoes x)) _ _ s;refine wpAny_noted ?_;rw[compTurn_list];refine wpAny_bind (wpAny_standAt (wpAny_bind (wpAny_mono (l n s t) (λr f b=>?_) λ_ _ e=>e.elim)));cases r with
 |none=>exact wpAny_pure b
 |some v=>
  refine wpAny_bind (wpAny_mono b (λ_ a b=>?_) λ_ _ e=>e.elim);refine wpAny_bind (wpAny_mono b (λ_ a p=>wpAny_bind (wpAny_mono p (λk d g=>?_) λ_ _ e=>e.elim)) λ_ _ e=>e.elim);cases k with
  |false=>exact wpAny_pure ⟨rfl,g⟩
  |true=>exact wpAny_bind (wpAny_bind (wpAny_mono g (λx i o=>wpAny_bind (wpAny_mono o (λ_ j q=>wpAny_pure (wpAny_pure ⟨rfl,q⟩)) λ_ _ e=>e.elim)) λ_ _ e=>e.elim))
section
variable{X:Cx}{tg elt iter:Expr}{ifs:List Expr}{scope:Scope}{pos:Pos}{N:List Str}{nt:Nat}{fr:List Nat}
theorem gH(S:CompScope N nt fr X.N scope X.env.scope)(I:Inv X pins σ H s)
  (C:∀b∈fp,FpOk X pins H b) (g:∀b∈fp,b<s.heap.objs.size)
  (a:∀x c,cl.lookup x=some c->X.env.cells.lookup x=some c) (J:∀x∈scope.names,x.2=.free->∃c,cl.lookup x.1=some c)
  (hk:∀b o,s.heap.get? b=some o->s4.heap.get? b=some o) (hn:∃m,s4.heap.Ns s.heap.objs.size m) (ho:s4.os=s.os) (hg:s4.gens=s.gens):
  Inv (aY X N scope cl s H fp pins) [] (bq nt fr σ) H s4:=by
 have hC:H s.heap.objs.size=none:=I.hok.fresh (aag _);have D:∀b o,s.heap.get? b=some o->b≠s.heap.objs.size:=λb o e=>aas (Heap.lt_size e);have kd:(aY X N scope cl s H fp pins).env.scope.kind=.function:=S.kind;have L:∀x,scope.names.lookup x=some .free->∃c,cl.lookup x=some c:=λx h=>J (x,.free) (aa9 h) rfl;refine⟨⟨I.ok.mod,kd,I.ok.glob,I.ok.blt,aag _,λx y c U f=>I.ok.inj x y c (a x c U) (a y c f),λx hx=>?_,λ_ _ h _=>absurd (show false=true from h) aad,I.ok.hd,I.ok.frames,.inl rfl,λb t=>⟨aas (g b t),λx c e=>(C b t).2.2.2.2.1 x c (a x c e)⟩,
  I.bs,aat I.ok.bsz I.sz,λb o e t=>?_,λb t hs=>?_,I.stack,I.ry⟩,ho,by rw[hg];exact I.bare,Un.kept hk,?_,λx c e=>?_,hC,λx c e=>I.freeC x c (a x c e),λp hp=>?_,I.hok.kept hk,?_⟩
 ·have T:(relabel scope X.env).names.lookup x=some .cell\/(relabel scope X.env).names.lookup x=some .free:=hx;rcases T with h|h
  ·rcases bR (sc:=scope) scope.names x _ h with q|⟨_,q⟩
   ·exact absurd rfl (S.nocell _ (aa9 q))
   ·exact L x q
  ·rcases bR (sc:=scope) scope.names x _ h with q|⟨q,_⟩
   ·exact L x q
   ·cases q
 ·rcases (C b t).2.2.2.1 with z|z
  ·exact I.ok.noex b o e z
  ·exact absurd (aay (Heap.lt_size e) (aat I.ok.bsz z)) (aa3 _)
 ·rcases aab.mp (I.pa b hs) with z|z
  ·exact(C b t).2.1 z
  ·exact(C b t).2.2.1 z
 ·obtain⟨m,hm⟩:=hn;refine⟨m,hm,λi x v U f h3=>?_⟩;obtain⟨m0,a0,M⟩:=I.loc;have hi:nt<=i:=by refine Nat.le_of_not_lt λg=>?_;unfold bq at f;rw[aaX (by simpa using g),acm]at f;rw[if_pos g]at f;cases f
  obtain⟨d,rfl⟩:∃d,i=nt+d:=⟨i-nt,by omega⟩
  unfold bq at f;rw[aaS (by simp),abE,ab0,aaq]at f;cases Z:fr[d]? with
  |none=>rw[Z]at f;cases f
  |some j=>
   rw[Z]at f;have k:(σ[j]?).join=some v:=aaE f;have G:σ[j]?=some (some v):=by
    cases e:σ[j]? with
    |none=>rw[e]at k;cases k
    |some q=>rw[e]at k;exact congrArg some k
   obtain⟨y,e1,e2,e3,e4⟩:=S.out d j Z;have w:N[nt+d]?=some x:=U;rw[e1]at w;cases w;obtain⟨u,ru,l⟩:=M j x v e2 G (.inr (.inl e3));refine⟨u,ru,?_⟩;rcases l with ⟨q,_⟩|⟨_,c,ec,z⟩
   ·have B:X.env.scope.names.lookup x=some .local:=q;rw[e3]at B;cases B
   ·obtain⟨Y,A⟩:=L x e4;have:Y=c:=by have:=a x Y A;rw[ec]at this;exact(aaE this).symm
    subst this;obtain⟨o,r,O⟩:=z;refine .inr ⟨?_,Y,A,⟨o,hk _ _ r,O⟩⟩;rcases h3 with q|q|q
    ·have B:(relabel scope X.env).names.lookup x=some .local:=q;rcases bR (sc:=scope) scope.names x _ B with z|⟨z,_⟩
     ·rw[e4]at z;cases z
     ·cases z
    ·exact .inl q
    ·exact .inr q
 ·obtain⟨v,o,r,O⟩:=I.cell x c (a x c e);exact⟨v,o,hk _ _ r,O⟩
 ·have Q:p∈X.pn++pins:=by
   rcases aam.mp hp with z|z
   ·exact z
   ·exact absurd z (by simp)
  obtain⟨e,n,ne,nf,d⟩:=I.pin p Q;refine⟨hk _ _ e,n,D _ _ e,λz=>?_,d⟩;rcases aab.mp (I.pa p.1 z) with q|q
  ·exact ne q
  ·exact nf q
 ·show (bq nt fr σ).length=N.length;unfold bq;rw[aaf,abE,aaa,S.len]
theorem se(I:Inv X pins σ H s)(L:∀b∈fp,FpOk X pins H b)
  (r:H D=none) (k:s.heap.objs.size<=D) (p:D<s3.heap.objs.size) (hk:∀b o,s.heap.get? b=some o->s3.heap.get? b=some o) (m:s3.os=s.os)
  (J:Inv (aY X N scope cl s3 (upd H D (.lst [])) fp pins) pins' σ' H1 s5) (l:Heap.SameBut s3.heap.objs.size s5.heap h'):
  Inv X pins σ H1 { s5 with heap:=h' }:=by
 have t:s.heap.objs.size<=s3.heap.objs.size:=aaR (Nat.lt_of_le_of_lt k p);have f:∀b,b<s.heap.objs.size->b≠D/\b≠s3.heap.objs.size:=λb d=>⟨aas (aay d k),aas (aay d t)⟩
 have h:∀b,b≠D->(upd H D (.lst [])) b=H b:=λb d=>upd_ne d;refine I.call' (ch:=fp) (J.os.trans m) ⟨λb o e n d g=>?_,λb o e n d g=>?_,λb o e n g=>?_,λb o e g=>?_,λb M e=>?_,λb o u e=>?_,λb G e=>?_⟩ ?_ J.bare λb d=>?_
 ·obtain⟨j,i⟩:=f b (Heap.lt_size e);exact(l.2 b i).trans (J.base.keep b o (hk b o e) ((h b j).trans n) d g)
 ·obtain⟨j,i⟩:=f b (Heap.lt_size e);obtain⟨w,q⟩:=J.base.slot b o (hk b o e) ((h b j).trans n) d g;exact⟨w,(l.2 b i).trans q⟩
 ·obtain⟨j,i⟩:=f b (Heap.lt_size e);exact J.base.free b o (hk b o e) ((h b j).trans n) g
 ·obtain⟨j,i⟩:=f b (Heap.lt_size e);obtain⟨y,q⟩:=J.base.there b o (hk b o e) g;exact⟨y,(l.2 b i).trans q⟩
 ·exact J.base.tups b M ((h b (aq e r)).trans e)
 ·exact J.base.frzs b o u ((h b (aq e r)).trans e)
 ·exact J.base.tbls b G ((h b (aq e r)).trans e)
 ·intro b u e;refine(J.hok b u e).kv (λc v C q=>(l.2 c ?_).trans q) (λ_ q=>q) λ_ _ q=>q;have a:H1 s3.heap.objs.size=none:=J.free;rintro rfl;rcases C with z|z
  ·rw[z]at a;rw[a]at e;cases e
  ·rw[a]at z;cases z
 ·obtain⟨S,A,Q,O,x,B⟩:=L b d;exact⟨O,A,x,B⟩
abbrev TC:=Addr->St->Hp->(Hp->Prop)->Prop
def nv(d:TE):TC:=λD c H Q=>d c H λy b=>∃a,b D=some (.lst a)/\a.length<sizeLine/\Q (upd b D (.lst (a++[y])))
def Dv(e:TT)(d:TE):TC:=λD c H Q=>e c H λb a=>if b=true then nv d D c a Q else Q a
def kz(n:TI)(nt:Nat)(fr:List Nat)(g:CC->TG)(k:CC->TC):TE:=λf H Q=>n f H λJ e=>∀(c:CC) D,e D=none->∃W:Nat->Nat->St->Hp->Prop,(∃m,W 0 m (bq nt fr f) (upd e D (.lst []))) /\
 ∀i m d a,W i m d a->(J.stop i a/\Q (.ref D) a)\/(J.go i a/\∀x h,J.yld i a x h->g c x d h λb l=>k c D b l λo=>∃j,j<m/\W (i+1) j b o)
def kA(Y:Cx)(D:Addr)(ifs:List Expr)(elt:Expr)(i:TC):Prop:=
 ∀(a:List (Addr×Obj)) (s:Shared) (g:St) (H:Hp) (Q:Hp->Prop),Inv Y a g H s->i D g H Q ->
  wpAny (model Y.prog Y.w) Y.A (forIn ifs true λc r=>if r=true then do let h <-isTrue c Y.env (eval c Y.env);pure (ForInStep.yield h) else pure (ForInStep.yield r)) (λh b=>
   if h=true then wpAny (model Y.prog Y.w) Y.A (eval elt Y.env) (λx e=>
    wpAny (model Y.prog Y.w) Y.A (call (.builtin "list.append") [.ref D,x]) (λ_ f=>∃d,Inv Y a g d f/\Q d) Y.xe e) Y.xe b
   else ∃d,Inv Y a g d b/\Q d) Y.xe s
theorem ny(f:PE Y elt te)(I:Inv Y pins σ H s)(h:nv te D σ H Q):
  wpAny (model Y.prog Y.w) Y.A (eval elt Y.env) (λx a=>
    wpAny (model Y.prog Y.w) Y.A (call (.builtin "list.append") [.ref D,x]) (λ_ b=>∃c,Inv Y pins σ c b/\Q c) Y.xe a) Y.xe s:=by
 refine thn (f pins s σ H _ I h) λu o l=>?_;obtain⟨y,e,d,k,i,p,g,q⟩:=l;refine thn (iU pins o σ e (.ref D) [y] (.ref D) [u] (λv c=>v=.non/\Q c) d rfl (.cons k .nil) ⟨D,i,y,rfl,rfl,p,g,rfl,q⟩) λv r ⟨z,n,j,_,_,m⟩=>⟨n,j,m⟩
theorem qa(b:PE Y elt te):kA Y D [] elt (nv te):=by intro a s c H Q I h;refine wpAny_tests_nil ?_;rw[if_pos rfl];exact ny b I h
theorem sf(k:PT Y c tt)(g:PE Y elt te):kA Y D [c] elt (Dv tt te):=by
 intro a s j H Q I h;refine wpAny_tests_one (thn (k a s j H _ I h) λb l i=>?_);obtain⟨f,e,d⟩:=i;cases b with
 |true=>rw[if_pos rfl]at d ⊢;exact ny g e d
 |false=>rw[if_neg aad]at d ⊢;exact⟨f,e,d⟩
theorem iV{a4:Option (Value->Sem Unit)}{Q0:Value->Shared->Prop}(hc:X.calm=true)(S:CompScope N nt fr X.N scope X.env.scope)(hi:PI X tg iter wi)
  (hg:∀c:CC,PG (dM X N scope c) tg (g c)) (ha:∀(c:CC) D,kA (dM X N scope c) D ifs elt (tc c))
  (I:Inv X pins σ H s) (h:kz wi nt fr g tc σ H Q) (c4:∀x∈scope.names,x.2=.free->X.env.kindOf x.1=some .cell)
  (fin:∀(D C:Addr) (s5:Shared) (H1:Hp),FpOk X pins H1 C->s5.heap.get? C≠none->C≠X.env.locals->(∃m,s5.heap.Ns C m)->(∀h',Heap.SameBut C s5.heap h'->Inv X pins σ H1 { s5 with heap:=h' })->Q (.ref D) H1 ->
   compPost (model X.prog X.w) X.A X.xe a4 Q0 (.ref D) C (.ok .next) s5)
  (hs:∀x,foldedSetIterable iter X.env x=pure x:=by intro _;rfl):
  wpAny (model X.prog X.w) X.A (comprehension (.ListComp elt [⟨tg,iter,ifs,0⟩] scope pos) scope X.env (firstIterPos [⟨tg,iter,ifs,0⟩] pos) (newList []) false (eval iter X.env) a4) Q0 X.xe s:=by
 have U:∀x∈scope.names,x.2=.free->∃c,X.env.cells.lookup x.1=some c:=λx hx hf=>I.ok.has x.1 (.inl (c4 x hx hf));obtain⟨v,c7,h1,h2⟩:=gG U;refine wpAny_comprehension_free rfl hs c7 S.kind S.names (thn (hi pins s σ H _ I h) λxv s1 hx=>thn hx λd3 a c2=>?_);obtain⟨it,j,tn,J,q,rfl,I2,T,b7,f2,hW⟩:=c2;have a3:∀b∈j,b<a.heap.objs.size:=λb f=>let ⟨o,e,_⟩:=T.obj 0 _ b7 b f;Heap.lt_size e
 refine wpAny_newObj_type (wpAny_newFunctionEnv S.nocell (by intro y hy;simp at hy) (λG l t=>?_) S.kind) (by show 0<=sizeLine;exact aaB _);have hD:q a.heap.objs.size=none:=I2.hok.fresh (aag _);have I3:Inv X pins σ (upd q a.heap.objs.size (.lst [])) { a with heap:=a.heap.push { cls:=.type "list",dict:=none,data:=.seq ([]:List Value).toArray } }:=I2.lnew .nil (aaB _);generalize hs3:({ a with heap:=a.heap.push { cls:=.type "list",dict:=none,data:=.seq ([]:List Value).toArray } }:Shared)=s3 at l t I3 ⊢;obtain⟨W,⟨m0,w0⟩,c0⟩:=hW ⟨v,s3,upd q a.heap.objs.size (.lst []),j,pins⟩ _ hD;have b5:∀b o,a.heap.get? b=some o->s3.heap.get? b=some o:=λb o e=>by rw[<-hs3];exact Heap.get?_push_of_some _ e
 have z3:s3.heap.objs.size=a.heap.objs.size+1:=by rw[<-hs3];exact Heap.size_push ..
 have c1:s3.os=a.os:=by rw[<-hs3]
 have f3:∀b∈j,FpOk X pins (upd q a.heap.objs.size (.lst [])) b:=λb f=>⟨by rw[upd_ne (aas (a3 b f))];exact(f2 b f).1,(f2 b f).2⟩
 have b8:∀b o,s3.heap.get? b=some o->G.get? b=some o:=λb o e=>t.extBut b o (aas (Heap.lt_size e)) (Heap.get?_push_of_some _ e);generalize hs4:({ s3 with heap:=G,toks:=s3.toks+([]:List (Str×Value)).length }:Shared)=s4;have a1:s4.heap=G:=by rw[<-hs4]
 have I4:Inv (aY X N scope v s3 (upd q a.heap.objs.size (.lst [])) j pins) [] (bq nt fr σ) (upd q a.heap.objs.size (.lst [])) s4:=
  gH S I3 f3 (λb f=>by rw[z3];exact abG (a3 b f)) h1 h2 (λb o e=>by rw[a1];exact b8 b o e) ⟨_,by rw[a1];exact l⟩ (by rw[<-hs4]) (by rw[<-hs4])
 have a8:tn 0 s4.heap:=T.keep 0 _ _ b7 λb f o e=>by rw[a1];exact b8 b o (b5 b o e)
 have a0:codeAny (model X.prog X.w) X.A (.compLoop (.ListComp elt [⟨tg,iter,ifs,0⟩] scope pos) 0 (.ref it) (.ref a.heap.objs.size) (compEnvC scope v s3.heap.objs.size X.env))
   (compPost (model X.prog X.w) X.A X.xe a4 Q0 (.ref a.heap.objs.size) s3.heap.objs.size) s4:=by
  have L:∀{k:Hp},(∀b∈j,k b=none)->∀b∈j,FpOk (aY X N scope v s3 (upd q a.heap.objs.size (.lst [])) j pins) [] k b:=λ{k} hn b f=>
   ⟨hn b f,aas (show b<s3.heap.objs.size by rw[z3];exact abG (a3 b f)),λz=>I4.ok.exfs b f z,.inl f,λx c e=>(f2 b f).2.2.2.2.1 x c (h1 x c e),λp hp=>(f2 b f).2.2.2.2.2 p (by
    rcases aam.mp hp with z|z
    ·exact z
    ·exact absurd z (by simp))⟩
  refine p0 (λn s'=>∃i M k,Inv (aY X N scope v s3 (upd q a.heap.objs.size (.lst [])) j pins) [] M k s'/\tn i s'.heap/\(∀b∈j,k b=none)/\W i n M k) ?_ m0
   ⟨0,_,_,I4,a8,λb f=>(f3 b f).1,w0⟩
  rintro n s5 ⟨i,Z,H5,I5,a6,a5,w5⟩;rcases c0 i n Z H5 w5 with ⟨b6,qn⟩|⟨go,b0⟩
  ·refine thn (T.done (aY X N scope v s3 (upd q a.heap.objs.size (.lst [])) j pins) rfl rfl rfl hc i [] s5 Z H5 (λ_ _=>False) I5 (L a5) a6 b6) λr s6 hZ=>?_;obtain⟨hr,I6⟩:=hZ;subst hr;obtain⟨m,hm,_⟩:=id I6.loc;refine fin _ _ s6 H5 (I2.qd (by rw[z3];exact abl _) I6.free) ?_ ?_ ⟨m,hm⟩ (λh' c3=>se I2 f2 hD (aag _) (by rw[z3];exact abm _) b5 c1 I6 c3) qn
   ·obtain⟨o,_,_,ho,_⟩:=hm;intro z;have a7:s6.heap.get? s3.heap.objs.size=some o:=ho;rw[z]at a7;cases a7
   ·exact aa7 (abH I2.lt (by rw[z3];exact abm _))
  ·refine thn (T.item (aY X N scope v s3 (upd q a.heap.objs.size (.lst [])) j pins) rfl rfl rfl hc i [] s5 Z H5 (λ_ _=>False) I5 (L a5) a6 go) λr s6 hZ=>?_;obtain⟨u,hr,h6⟩:=hZ;subst hr;refine thn h6 λ_ s7 hZ=>?_;obtain⟨x,H7,I7,r7,y7,a2,c6⟩:=hZ;have c5:=I7.pinned (L c6) (T.obj _ _ a2);refine thn (hg ⟨v,s3,upd q a.heap.objs.size (.lst []),j,pins⟩ _ s7 Z H7 x u _ c5 r7 (b0 x H7 y7)) λ_ s8 hZ=>?_;obtain⟨Y,H8,I8,q8⟩:=hZ;refine thn (ha ⟨v,s3,upd q a.heap.objs.size (.lst []),j,pins⟩ _ _ s8 Y H8 _ I8 q8) λok s9 h9=>?_;have B:∀{O:Shared},(∃k,Inv (aY X N scope v s3 (upd q a.heap.objs.size (.lst [])) j pins) ([]++pinsAt j s7.heap) Y k O/\∃m',m'<n/\W (i+1) m' Y k) ->
     ∃m,m<n/\∃i M k,Inv (aY X N scope v s3 (upd q a.heap.objs.size (.lst [])) j pins) [] M k O/\tn i O.heap/\(∀b∈j,k b=none)/\W i m M k:=λ{O} ⟨k,I',m',hm,w'⟩=>by
    refine⟨m',hm,i+1,Y,k,I'.et,T.keep _ _ _ a2 λb f o e=>(I'.pin (b,o) (aae _ (aae _ (bB f e)))).1,λb f=>?_,w'⟩;obtain⟨o,e,d⟩:=T.obj _ _ a2 b f;exact(I'.pin (b,o) (aae _ (aae _ (bB f e)))).2.1
   cases ok with
   |true=>rw[if_pos rfl]at h9 ⊢;exact thn h9 λy d1 d0=>thn d0 λ_ d2 c8=>B c8
   |false=>rw[if_neg aad]at h9 ⊢;exact B h9
 exact codeAny_compStart_list a0 (T.self X.A 0 s4 _ _ a8 a0)
theorem v9(p:X.calm=true)(S:CompScope N nt fr X.N scope X.env.scope)(o:PI X tg iter wi)
  (i:∀c:CC,PG (dM X N scope c) tg (g c)) (j:∀(c:CC) D,kA (dM X N scope c) D ifs elt (tc c))
  (l:∀x,foldedSetIterable iter X.env x=pure x:=by intro _;rfl):
  PE X (.ListComp elt [⟨tg,iter,ifs,0⟩] scope pos) (kz wi nt fr g tc):=by
 intro d s t H Q I h;rw[eval_ListComp];refine iV p S o i j I h (λx e r=>S.cells x e r) (λD C u k _ _ _ a f q=>?_) l;obtain⟨m,a⟩:=a;exact⟨m,a,λn b=>⟨.ref D,k,f n b,rfl,q⟩⟩
theorem wa{k d:Pos}(hN:X.N.Nodup)(Z:X.N[i]?=some y)(B:X.env.scope.names.lookup y=some .local)(hc:X.calm=true)(S:CompScope N nt fr X.N scope X.env.scope)(hi:PI X tg iter wi)
  (T:∀c:CC,PG (dM X N scope c) tg (g c)) (U:∀(c:CC) D,kA (dM X N scope c) D ifs elt (tc c))
  (Y:∀x,foldedSetIterable iter X.env x=pure x:=by intro _;rfl)
  (n:swapsWith (.ListComp elt [⟨tg,iter,ifs,0⟩] scope pos) (some (.Name y k)) d.line X.env=pure true:=by rfl):
  PS X (.Assign [.Name y k] (.ListComp elt [⟨tg,iter,ifs,0⟩] scope pos) d) (rH (kz wi nt fr g tc) (km i)):=by
 intro j s σ H D I h;rw[exec_Assign_Name_used _ _ _ _ n];refine wpAny_bind (wpAny_standAt (wpAny_bind ?_));show wpAny _ X.A (do let _ <-comprehension (.ListComp elt [⟨tg,iter,ifs,0⟩] scope pos) scope X.env _ (newList []) false (eval iter X.env) (some (assign (.Name y k) X.env))) _ _ s;refine wpAny_bind (wpAny_mono (iV hc S hi T U I h (λx M hf=>S.cells x M hf) (λJ C L G f hC _ t Q q=>?_) Y) (λ_ s' O=>wpAny_pure (wpAny_pure O)) λ_ _ e=>e);obtain⟨m,t⟩:=t;have I5:Inv X j σ G L:=Q L.heap ⟨rfl,λ_ _=>rfl⟩;show wpAny _ X.A (assign (.Name y k) X.env (.ref J)) _ _ _;refine wpAny_assign_Name (fG I5 hN Z (.inl B) (v:=.ref J) rfl (λs6 I6 p=>?_) (.inr B));obtain⟨a,r,u⟩:=p;have l:C≠a:=by
  rcases u with e|e
  ·rw[e];exact f.2.1
  ·exact λz=>f.2.2.2.2.1 _ _ e z.symm
 exact⟨m,t.sameBut r l,λh' w=>⟨_,G,I6.turned (λb o hb e=>(w.2 b hb).trans e) f.1 f.2.1 f.2.2.2.1 f.2.2.2.2.1 f.2.2.2.2.2,q⟩⟩
end
end
section
section
variable{prog:Program}{w:World}{A:Around}{E:Value->Shared->Prop}{s:Shared}
theorem eN{items}(a:s.heap.IsTupleIter it t i)
  (h:s.heap.IsTuple t items) (f:items[i]?=some x)
  (g:∀h',h'.IsTupleIter it t (i+1)->Heap.SameBut it s.heap h'->Q x { s with heap:=h' }):
  wpAny (model prog w) A (Builtin.SmallTypes.nextOf (.ref it)) Q E s:=by
 obtain⟨o,c,j,b⟩:=id a;obtain⟨k,d,_,l,e⟩:=h;unfold Builtin.SmallTypes.nextOf;refine wpAny_bind (wpAny_callSpecial?_slot a.typeIs F.slot_tuple_iterator_next
  (wpAny_call_entry F.slot_tuple_iterator_next a.typeIs F.entry_tuple_iterator_next ?_ (F.args_tuple_iterator_next_1 _)))
 show wpAny _ _ (field (.ref it) 0 >>= _) _ _ s;refine wpAny_bind (wpAny_field c b rfl ?_);show wpAny _ _ (if (Value.ref t==Value.none)=true then _ else _) _ _ s;rw[if_neg (show ¬ ((Value.ref t==Value.none)=true) from aad)];show wpAny _ _ (field (.ref it) 1 >>= _) _ _ s;refine wpAny_bind (wpAny_field c b rfl ?_);show wpAny _ _ (seqItems? (.ref t) >>= _) _ _ s;refine wpAny_bind (wpAny_seqItems d e ?_);simp only[aaT,f];refine wpAny_bind (wpAny_setField c b (by simp) (wpAny_pure ⟨x,rfl,wpAny_pure (g _ ?_ (Heap.SameBut.update ..))⟩));exact⟨_,Heap.get?_update_self _ c (Obj.isFreed_of_fields (Obj.data_mapFields b _)),(Obj.cls_mapFields ..).trans j,by
  rw[Obj.data_mapFields b];simp[rawInt]⟩
theorem fI{items}{Q:Value->Shared->Prop}(g:A.handled=none)
  (a:s.heap.IsTupleIter it t i) (j:s.heap.IsTuple t items) (h:items[i]?=none)
  (hE:∀h' e,Heap.ExtBut it s.heap h'->(∃o,h'.get? e=some o/\o.cls=.type "StopIteration")->E (.ref e) { s with heap:=h' }):
  wpAny (model prog w) A (Builtin.SmallTypes.nextOf (.ref it)) Q E s:=by
 obtain⟨o,f,l,d⟩:=id a;obtain⟨k,b,_,m,c⟩:=j;unfold Builtin.SmallTypes.nextOf;refine wpAny_bind (wpAny_callSpecial?_slot a.typeIs F.slot_tuple_iterator_next
  (wpAny_call_entry F.slot_tuple_iterator_next a.typeIs F.entry_tuple_iterator_next ?_ (F.args_tuple_iterator_next_1 _)))
 show wpAny _ _ (field (.ref it) 0 >>= _) _ _ s;refine wpAny_bind (wpAny_field f d rfl ?_);show wpAny _ _ (if (Value.ref t==Value.none)=true then _ else _) _ _ s;rw[if_neg (show ¬ ((Value.ref t==Value.none)=true) from aad)];show wpAny _ _ (field (.ref it) 1 >>= _) _ _ s;refine wpAny_bind (wpAny_field f d rfl ?_);show wpAny _ _ (seqItems? (.ref t) >>= _) _ _ s;refine wpAny_bind (wpAny_seqItems b c ?_);simp only[aaT,h];refine wpAny_bind (wpAny_rule (wpAny_bind (wpAny_setField f d (by simp) ?_)));show wpAny _ _ (newExc (.type "StopIteration") [] >>= _) _ _ _;refine wpAny_bind ?_;simp only[newExc,newTuple];refine wpAny_bind (wpAny_newObj_type ?_ (by size_fits));refine wpAny_bind (wpAny_of_eq (by first|rfl|(simp only[firstArgMember];rfl)) ?_);refine wpAny_newObj_type ?_ (by size_fits);simp only[raiseNew];refine wpAny_bind (wpAny_handled ?_)
 first|rw[show A.in1.handled=none from g]|rw[g]
 refine wpAny_bind (wpAny_pure (wpAny_throw ?_));exact hE _ _ (((Heap.SameBut.update ..).extBut.push _).push _) ⟨_,Heap.get?_push_size _ rfl,rfl⟩
end
inductive ZS where
 |lst (a:Addr) (xs:List V)
 |tup (a:Addr) (xs:List V)
 |str (z:Str)
def ZS.items:ZS->List V
 |.lst _ xs=>xs
 |.tup _ xs=>xs
 |.str z=>z.cps.toList.map λc=>.str ⟨#[c]⟩
def ZS.val:ZS->V
 |.lst a _=>.ref a
 |.tup a _=>.ref a
 |.str z=>.str z
def ZS.ok(K:Waa)(H:Hp):ZS->Prop
 |.lst a xs=>SqL K H a xs
 |.tup a xs=>SqT K H a xs
 |.str _=>True
structure Sub (prog:Program)(w:World)(A:Around)(i:Addr)(sl:List Addr)(src:Heap->Prop)(st:Nat->Heap->Prop)(vs:List V):Prop where
 sfr:∀h h',src h->(∀b∈sl,∀o,h.get? b=some o->h'.get? b=some o)->src h'
 ifr:∀k h h',st k h->(∀o,h.get? i=some o->h'.get? i=some o)->st k h'
 item:∀(k:Nat) (s:Shared) (x:V) (Q:Value->Shared->Prop) (E:Value->Shared->Prop),vs[k]?=some x->src s.heap->st k s.heap ->
  (∀v h' tk,RelV x v->st (k+1) h'->Heap.SameBut i s.heap h'->Q v { s with heap:=h',toks:=tk })->wpAny (model prog w) A (Builtin.SmallTypes.nextOf (.ref i)) Q E s
 done:∀(k:Nat) (s:Shared) (Q:Value->Shared->Prop) (E:Value->Shared->Prop),vs.length<=k->src s.heap->st k s.heap ->
  (∀h' e,Heap.ExtBut i s.heap h'->(∃o,h'.get? e=some o/\o.cls=.type "StopIteration")->E (.ref e) { s with heap:=h' })->wpAny (model prog w) A (Builtin.SmallTypes.nextOf (.ref i)) Q E s
theorem Sub.list(n:A.handled=none)(i l:Addr)(r:Vals xs its):
  Sub prog w A i [l] (λh=>h.IsList l its.toArray) (λk h=>h.IsListIter i l k) xs where
 sfr:=λh d x k=>x.at λo e=>k l (by simp) o e
 ifr:=λk h d x f=>x.at λo e=>f o e
 item:=λk s x Q E g c a m=>by obtain⟨u,q,t⟩:=r.get g;exact wpAny_nextOf_list_item a c (by simpa using q) λd b j=>m u d s.toks t b j
 done:=λk s Q E y c a p=>by have v:=r.length;exact wpAny_nextOf_list_end n a c (by simp;omega) p
theorem Sub.tuple(p:A.handled=none)(i l:Addr)(r:Vals xs its):
  Sub prog w A i [l] (λh=>h.IsTuple l its.toArray) (λk h=>h.IsTupleIter i l k) xs where
 sfr:=λh g ⟨o,e,c⟩ k=>⟨o,k l (by simp) o e,c⟩
 ifr:=λk h g ⟨o,e,c⟩ f=>⟨o,f o e,c⟩
 item:=λk s x Q E j d a n=>by obtain⟨u,t,v⟩:=r.get j;exact eN a d (by simpa using t) λg b m=>n u g s.toks v b m
 done:=λk s Q E z d a q=>by have y:=r.length;exact fI p a d (by simp;omega) q
theorem Sub.strs(q:A.handled=none)(i:Addr)(z:Str)(t:Tok):
  Sub prog w A i [] (λ_=>True) (λk h=>h.IsStrIter i (strIterType z) z t k) (z.cps.toList.map λc=>V.str ⟨#[c]⟩) where
 sfr:=λh j x k=>trivial
 ifr:=λk h j ⟨o,e,c⟩ f=>⟨o,f o e,c⟩
 item:=λk s x Q E d v a g=>by
  rw[aaq]at d;cases e:z.cps.toList[k]? with
  |none=>rw[e]at d;cases d
  |some c=>
   rw[e]at d;have p:V.str ⟨#[c]⟩=x:=aaE d;subst p;have l:z.cps[k]?=some c:=by rw[<-Array.getElem?_toList];exact e
   unfold strIterType at a g;split at a
   ·rename_i n;rw[if_pos n]at g;exact wpAny_nextOf_ascii_item a l λj b m=>g _ j _ ⟨_,rfl⟩ b m
   ·rename_i n;rw[if_neg n]at g;exact wpAny_nextOf_wide_item a l λj b m=>g _ j _ ⟨_,rfl⟩ b m
 done:=λk s Q E u v a r=>by
  have l:z.cps[k]?=none:=by rw[aaa,abX]at u;exact Array.getElem?_eq_none u
  unfold strIterType at a;split at a
  ·exact wpAny_nextOf_ascii_end q a l r
  ·exact wpAny_nextOf_wide_end q a l r
structure ZApart (z TI TO i1 i2:Addr)(sl1 sl2:List Addr):Prop where
 TIz:TI≠z
 TOz:TO≠z
 i1z:i1≠z
 i2z:i2≠z
 TITO:TI≠TO
 TIi1:TI≠i1
 TIi2:TI≠i2
 TOi1:TO≠i1
 TOi2:TO≠i2
 i12:i1≠i2
 s1:∀b∈sl1,b≠z/\b≠TO/\b≠i1/\b≠i2
 s2:∀b∈sl2,b≠z/\b≠TO/\b≠i1/\b≠i2
section
variable{prog:Program}{w:World}{A:Around}{E:Value->Shared->Prop}{s:Shared}
theorem qb{z O p T S:Addr}{Q:Value->Shared->Prop}(D:ZApart z O p T S sl1 sl2)
  (S1:Sub prog w A T sl1 src1 st1 xs) (S2:Sub prog w A S sl2 src2 st2 ys)
  (hz:IsZip s.heap z O p .none) (a7:IsPair s.heap O (.ref T) (.ref S)) (b8:IsPair s.heap p a b)
  (h1:st1 k s.heap) (h2:st2 k s.heap) (a8:src1 s.heap) (b5:src2 s.heap) (hx:xs[k]?=some x) (hy:ys[k]?=some y)
  (hQ:∀u v h' tk,RelV x u->RelV y v->IsZip h' z O p (rawInt s.heap.objs.size)->IsPair h' p u v->st1 (k+1) h'->st2 (k+1) h'->IsPair h' s.heap.objs.size u v->h'.objs.size=s.heap.objs.size+1 ->
   (∀c o,c≠z->c≠p->c≠T->c≠S->s.heap.get? c=some o->h'.get? c=some o)->Q (.ref s.heap.objs.size) { s with heap:=h',toks:=tk })
  (c5:T<s.heap.objs.size) (c0:S<s.heap.objs.size):
  wpAny (model prog w) A (Builtin.«zip.__next__» ⟨[.ref z],[]⟩) (λb6 s'=>∃v,b6=.done (.ret v)/\Q v s') E s:=by
 show wpAny _ _ (field (.ref z) 2 >>= _) _ _ _;refine wpAny_bind (wpAny_field hz rfl rfl ?_);show wpAny _ _ (field (.ref z) 3 >>= _) _ _ _;refine wpAny_bind (wpAny_field hz rfl rfl ?_);refine wpAny_bind (wpAny_seqItems a7 rfl ?_);show wpAny _ _ (Builtin.SmallTypes.ownedTupleIsFree (.ref z) >>= _) _ _ _;refine wpAny_bind ?_;unfold Builtin.SmallTypes.ownedTupleIsFree;refine wpAny_bind (wpAny_field hz rfl rfl (wpAny_pure ?_));simp only[if_true];refine wpAny_bind (wpAny_rule ?_);refine wpAny_bind (wpAny_field hz rfl rfl ?_);refine wpAny_bind (wpAny_setField_rec hz (by simp) λU C h=>?_);replace C:IsZip U z O p .ellipsis:=C;refine wpAny_bind ?_;simp only[List.zipIdx_cons,List.zipIdx_nil,abZ,List.forIn_nil];refine wpAny_bind (wpAny_bind (wpAny_onRaise ?_));show wpAny _ _ (Builtin.SmallTypes.nextOf (.ref T) >>= _) _ _ _;refine wpAny_bind (S1.item k _ x _ _ hx (S1.sfr _ _ a8 λb hb o e=>h.extBut b o (D.s1 b hb).1 e) (S1.ifr _ _ _ h1 λo e=>h.extBut _ o D.i1z e) λu M b7 ru a2 g=>wpAny_pure ?_);have g:Heap.SameBut T U M:=g;have H:IsPair M p a b:=g.extBut _ _ D.TOi1 (h.extBut _ _ D.TOz b8);refine wpAny_bind (wpAny_seqItems H rfl ?_);refine wpAny_bind (wpAny_updateSeq_pair H λI n f=>?_);replace n:IsPair I p u b:=n;have f:Heap.SameBut p M I:=f;refine wpAny_bind (wpAny_letGo (wpAny_pure ?_));refine wpAny_bind (wpAny_bind (wpAny_onRaise ?_));show wpAny _ _ (Builtin.SmallTypes.nextOf (.ref S) >>= _) _ _ _;refine wpAny_bind (S2.item k _ y _ _ hy (S2.sfr _ _ b5 λb hb o e=>f.extBut b o (D.s2 b hb).2.1 (g.extBut b o (D.s2 b hb).2.2.1 (h.extBut b o (D.s2 b hb).1 e)))
  (S2.ifr _ _ _ h2 λo e=>f.extBut _ o D.TOi2.symm (g.extBut _ o D.i12.symm (h.extBut _ o D.i2z e))) λv L b0 rv a3 j=>wpAny_pure ?_)
 have j:Heap.SameBut S I L:=j;have G:IsPair L p u b:=j.extBut _ _ D.TOi2 n;refine wpAny_bind (wpAny_seqItems G rfl ?_);refine wpAny_bind (wpAny_updateSeq_pair G λd l i=>?_);replace l:IsPair d p u v:=l;have i:Heap.SameBut p L d:=i;refine wpAny_bind (wpAny_letGo (wpAny_pure (wpAny_pure ?_)));refine wpAny_bind (wpAny_seqItems l rfl ?_);refine wpAny_bind (wpAny_newTuple ?_);have a5:d.objs.size=s.heap.objs.size:=by rw[i.1,j.1,f.1,g.1,h.1]
 have J:IsZip d z O p .ellipsis:=i.extBut _ _ D.TOz.symm (j.extBut _ _ D.i2z.symm (f.extBut _ _ D.TOz.symm (g.extBut _ _ D.i1z.symm C)));have Z:∀c o,c≠z->c≠p->c≠T->c≠S->s.heap.get? c=some o->d.get? c=some o:=λc o c1 c2 c3 c4 e=>
  i.extBut _ _ c2 (j.extBut _ _ c4 (f.extBut _ _ c2 (g.extBut _ _ c3 (h.extBut _ _ c1 e))))
 have Y:st1 (k+1) d:=S1.ifr _ _ _ a2 λo e=>i.extBut _ o D.TOi1.symm (j.extBut _ o D.i12 (f.extBut _ o D.TOi1.symm e));have a1:st2 (k+1) d:=S2.ifr _ _ _ a3 λo e=>i.extBut _ o D.TOi2.symm e;have X:z<d.objs.size:=Heap.lt_size J;show wpAny _ _ (Builtin.SmallTypes.ownedTupleHandOut (.ref z) (.ref d.objs.size) >>= _) _ _ _;refine wpAny_bind ?_;unfold Builtin.SmallTypes.ownedTupleHandOut;have a0:IsZip (d.push { cls:=.type "tuple",data:=.seq #[u,v] }) z O p .ellipsis:=Heap.get?_push_of_some _ J;refine wpAny_bind (wpAny_setField_rec a0 (by simp) λa6 B t=>?_);replace B:IsZip a6 z O p (rawInt d.objs.size):=B;refine wpAny_setField_rec B (by simp) λq m r=>?_;replace m:IsZip q z O p (rawInt d.objs.size):=m;have up:∀c o,c≠z->d.get? c=some o->q.get? c=some o:=λc o c1 e=>r.extBut _ _ c1 (t.extBut _ _ c1 (Heap.get?_push_of_some _ e));have N:IsPair q d.objs.size u v:=r.extBut _ _ (aa7 X) (t.extBut _ _ (aa7 X) (Heap.get?_push_size _ rfl));have a4:q.objs.size=d.objs.size+1:=by rw[r.1,t.1,Heap.size_push]
 rw[a5]at m N a4;refine wpAny_pure ⟨_,rfl,?_⟩;show Q (.ref d.objs.size) _;rw[a5];exact hQ u v q _ ru rv m (up _ _ D.TOz l) (S1.ifr _ _ _ Y λo e=>up _ o D.i1z e) (S2.ifr _ _ _ a1 λo e=>up _ o D.i2z e) N a4 λc o c1 c2 c3 c4 e=>up c o c1 (Z c o c1 c2 c3 c4 e)
theorem si{z I B G J:Addr}{Q:Fin->Shared->Prop}(D:ZApart z I B G J sl1 sl2)
  (T:Sub prog w A G sl1 src1 st1 xs) (S2:Sub prog w A J sl2 src2 st2 ys)
  (L:IsZip s.heap z I B .none) (X:IsPair s.heap I (.ref G) (.ref J)) (a3:IsPair s.heap B a b)
  (h1:st1 k s.heap) (h2:st2 k s.heap) (Z:src1 s.heap) (a0:src2 s.heap) (N:xs.length<=k\/ys.length<=k)
  (hE:∀h' tk e,(∀c o,c≠z->c≠B->c≠G->c≠J->s.heap.get? c=some o->h'.get? c=some o)->(∃o,h'.get? e=some o/\o.cls=.type "StopIteration")->E (.ref e) { s with heap:=h',toks:=tk }):
  wpAny (model prog w) A (Builtin.«zip.__next__» ⟨[.ref z],[]⟩) Q E s:=by
 show wpAny _ _ (field (.ref z) 2 >>= _) _ _ _;refine wpAny_bind (wpAny_field L rfl rfl ?_);show wpAny _ _ (field (.ref z) 3 >>= _) _ _ _;refine wpAny_bind (wpAny_field L rfl rfl ?_);refine wpAny_bind (wpAny_seqItems X rfl ?_);show wpAny _ _ (Builtin.SmallTypes.ownedTupleIsFree (.ref z) >>= _) _ _ _;refine wpAny_bind ?_;unfold Builtin.SmallTypes.ownedTupleIsFree;refine wpAny_bind (wpAny_field L rfl rfl (wpAny_pure ?_));simp only[if_true];refine wpAny_bind (wpAny_rule ?_);refine wpAny_bind (wpAny_field L rfl rfl ?_);refine wpAny_bind (wpAny_setField_rec L (by simp) λm l g=>?_);replace l:IsZip m z I B .ellipsis:=l;refine wpAny_bind ?_;simp only[List.zipIdx_cons,List.zipIdx_nil,abZ,List.forIn_nil];refine wpAny_bind (wpAny_bind (wpAny_onRaise ?_));show wpAny _ _ (Builtin.SmallTypes.nextOf (.ref G) >>= _) _ _ _;have l1:src1 m:=T.sfr _ _ Z λb S o e=>g.extBut b o (D.s1 b S).1 e;have t1:st1 k m:=T.ifr _ _ _ h1 λo e=>g.extBut _ o D.i1z e;by_cases Y:xs.length<=k
 ·refine wpAny_bind (T.done k _ _ _ Y l1 t1 λi e d he=>?_);have d:Heap.ExtBut G m i:=d;obtain⟨oe,n,t⟩:=he;have v:IsZip i z I B .ellipsis:=d _ _ D.i1z.symm l;have H:e≠z:=λx=>by subst x;rw[v]at n;cases n;simp at t
  refine wpAny_setField_rec v (by simp) λp _ f=>hE p _ e (λc o M _ c3 _ x=>f.extBut _ _ M (d _ _ c3 (g.extBut _ _ M x))) ⟨oe,f.extBut _ _ H n,t⟩
 ·have hy:ys.length<=k:=by rcases N with h|h;exact absurd h Y;exact h
  obtain⟨x,a1⟩:∃x,xs[k]?=some x:=⟨_,aak (Nat.lt_of_not_le Y)⟩
  refine wpAny_bind (T.item k _ x _ _ a1 l1 t1 λu i a2 ru a4 d=>wpAny_pure ?_);have d:Heap.SameBut G m i:=d;have q:IsPair i B a b:=d.extBut _ _ D.TOi1 (g.extBut _ _ D.TOz a3);refine wpAny_bind (wpAny_seqItems q rfl ?_);refine wpAny_bind (wpAny_updateSeq_pair q λp U f=>?_);have f:Heap.SameBut B i p:=f;refine wpAny_bind (wpAny_letGo (wpAny_pure ?_));refine wpAny_bind (wpAny_bind (wpAny_onRaise ?_));show wpAny _ _ (Builtin.SmallTypes.nextOf (.ref J) >>= _) _ _ _;refine wpAny_bind (S2.done k _ _ _ hy (S2.sfr _ _ a0 λb S o e=>f.extBut b o (D.s2 b S).2.1 (d.extBut b o (D.s2 b S).2.2.1 (g.extBut b o (D.s2 b S).1 e)))
   (S2.ifr _ _ _ h2 λo e=>f.extBut _ o D.TOi2.symm (d.extBut _ o D.i12.symm (g.extBut _ o D.i2z e))) λC e j he=>?_)
  have j:Heap.ExtBut J p C:=j;obtain⟨oe,n,t⟩:=he;have r:IsZip C z I B .ellipsis:=j _ _ D.i2z.symm (f.extBut _ _ D.TOz.symm (d.extBut _ _ D.i1z.symm l));have H:e≠z:=λx=>by subst x;rw[r]at n;cases n;simp at t
  refine wpAny_setField_rec r (by simp) λO _ y=>hE O _ e (λc o M c2 c3 c4 x=>y.extBut _ _ M (j _ _ c4 (f.extBut _ _ c2 (d.extBut _ _ c3 (g.extBut _ _ M x))))) ⟨oe,y.extBut _ _ H n,t⟩
theorem lZ{z g d f e:Addr}(D:ZApart z g d f e sl1 sl2)
  (C:Sub prog w A.in1 f sl1 src1 st1 xs) (O:Sub prog w A.in1 e sl2 src2 st2 ys)
  (q:IsZip s.heap z g d .none) (h:IsPair s.heap g (.ref f) (.ref e)) (p:IsPair s.heap d a b)
  (T:st1 k s.heap) (H:st2 k s.heap) (i:src1 s.heap) (l:src2 s.heap) (B:xs[k]?=some x) (U:ys[k]?=some y)
  (G:∀u v h' n,RelV x u->RelV y v->IsZip h' z g d (rawInt s.heap.objs.size)->IsPair h' d u v->st1 (k+1) h'->st2 (k+1) h'->IsPair h' s.heap.objs.size u v->h'.objs.size=s.heap.objs.size+1 ->
   (∀c o,c≠z->c≠d->c≠f->c≠e->s.heap.get? c=some o->h'.get? c=some o)->Q (some (.ref s.heap.objs.size)) { s with heap:=h',toks:=n })
  (m:f<s.heap.objs.size) (j:e<s.heap.objs.size):
  wpAny (model prog w) A (pyNext (.ref z)) Q E s:=by
 have r:s.TypeIs (.ref z) "zip":=⟨_,q,rfl⟩
 unfold pyNext;exact wpAny_bind (wpAny_attempt (wpAny_callSpecial?_slot r F.slot_zip_next
  (wpAny_call_entry F.slot_zip_next r F.entry_zip_next
   (qb D C O q h p T H i l B U (λu v h' n S I M X t N J Y L=>wpAny_pure (G u v h' n S I M X t N J Y L)) m j) (F.args_zip_next_1 _))))
theorem qc{z i h g f:Addr}(D:ZApart z i h g f sl1 sl2)
  (t:Sub prog w A.in1 g sl1 src1 st1 xs) (B:Sub prog w A.in1 f sl2 src2 st2 ys)
  (p:IsZip s.heap z i h .none) (j:IsPair s.heap i (.ref g) (.ref f)) (n:IsPair s.heap h a b)
  (C:st1 k s.heap) (v:st2 k s.heap) (l:src1 s.heap) (m:src2 s.heap) (d:xs.length<=k\/ys.length<=k)
  (u:∀h' r,(∀c o,c≠z->c≠h->c≠g->c≠f->s.heap.get? c=some o->h'.get? c=some o)->Q none { s with heap:=h',toks:=r }):wpAny (model prog w) A (pyNext (.ref z)) Q E s:=by
 have q:s.TypeIs (.ref z) "zip":=⟨_,p,rfl⟩
 unfold pyNext;refine wpAny_bind (wpAny_attempt (wpAny_callSpecial?_slot q F.slot_zip_next
  (wpAny_call_entry F.slot_zip_next q F.entry_zip_next (si D t B p j n C v l m d λh' r e H y=>?_) (F.args_zip_next_1 _))))
 obtain⟨o,x,G⟩:=y;refine wpAny_bind (wpAny_isInstance ⟨o,x,G⟩ isSubtype_stop ?_);exact wpAny_pure (u _ _ H)
end
end
section
def GL(K:Waa)(a b:ZS):It:=
 ⟨λi H=>a.ok K H/\b.ok K H/\i<a.items.length/\i<b.items.length,
  λi H v c=>∃T x y,a.items[i]?=some x/\b.items[i]?=some y/\H T=none/\v=.ref T/\c=upd H T (.tup [x,y]),
  λi H=>a.ok K H/\b.ok K H/\(a.items.length<=i\/b.items.length<=i)⟩
def ZS.x4:ZS->Value->Obj
 |.lst _ _,v=>{ cls:=.type "list_iterator",data:=.fields #[v,.int 0 0] }
 |.tup _ _,v=>{ cls:=.type "tuple_iterator",data:=.fields #[v,.int 0 0] }
 |.str z,v=>{ cls:=.type (strIterType z),data:=.fields #[v,.int 0 0] }
def ZS.st(a:ZS)(v:Value)(i:Addr)(k:Nat)(h:Heap):Prop:=match a,v with
 |.lst l _,_=>h.IsListIter i l k
 |.tup l _,_=>h.IsTupleIter i l k
 |.str z,.str _ t=>h.IsStrIter i (strIterType z) z t k
 |.str _,_=>False
def ZS.sl:ZS->List Addr
 |.lst l _=>[l]
 |.tup l _=>[l]
 |.str _=>[]
theorem ZS.nc{a:ZS}(x:a.st v i k h):∃o,h.get? i=some o/\∀c,o.data≠.cell c:=by
 cases a with
 |lst l b=>obtain⟨o,e,c,d⟩:=(show h.IsListIter i l k from x);exact⟨o,e,λv z=>by rw[d]at z;cases z⟩
 |tup l b=>obtain⟨o,e,c,d⟩:=(show h.IsTupleIter i l k from x);exact⟨o,e,λv z=>by rw[d]at z;cases z⟩
 |str z=>
  cases v with
  |str y t=>obtain⟨o,e,c,d⟩:=(show h.IsStrIter i (strIterType z) z t k from x);exact⟨o,e,λv z=>by rw[d]at z;cases z⟩
  |_=>exact False.elim x
theorem ZS.h8{a:ZS}(x:a.st v i k h)(f:∀o,h.get? i=some o->h'.get? i=some o):a.st v i k h':=by
 cases a with
 |lst l b=>obtain⟨o,e,c⟩:=(show h.IsListIter i l k from x);exact⟨o,f o e,c⟩
 |tup l b=>obtain⟨o,e,c⟩:=(show h.IsTupleIter i l k from x);exact⟨o,f o e,c⟩
 |str z=>
  cases v with
  |str y t=>obtain⟨o,e,c⟩:=(show h.IsStrIter i (strIterType z) z t k from x);exact⟨o,f o e,c⟩
  |_=>exact False.elim x
section
variable{X:Cx}{pins:List (Addr×Obj)}{σ:St}{H:Hp}{s:Shared}
theorem ZS.sub(a:ZS)(I:Inv X pins σ H s)(c:a.ok X.K H)(x:RelV a.val v)(A:Around)(k:A.handled=none)(i:Addr):
  ∃d:Heap->Prop,d s.heap/\Sub X.prog X.w A i a.sl d (a.st v i) a.items/\(∀b∈a.sl,∃o,s.heap.get? b=some o/\(H b≠none\/X.base.get? b=some o)):=by
 cases a with
 |lst l q=>
  have c:SqL X.K H l q:=c;obtain⟨m,r,p,u⟩:=I.list c;refine⟨_,p.isList,Sub.list k i l r,λb j=>?_⟩;have e:b=l:=by simpa[ZS.sl] using j
  subst e;rcases c with (h|⟨o,h⟩)|⟨o,f,n,g,_⟩
  ·obtain⟨_,_,_,_,e⟩:=I.hok _ _ h;exact⟨_,e,.inl (by rw[h];simp)⟩
  ·obtain⟨e,_⟩:=I.hok _ _ h;exact⟨_,e,.inl (by rw[h];simp)⟩
  ·exact⟨o,I.kIn _ _ g,.inr (I.ok.mod.kin _ _ g)⟩
 |tup l q=>
  have c:SqT X.K H l q:=c;obtain⟨m,r,p,u⟩:=I.tuple c;refine⟨_,p,Sub.tuple k i l r,λb j=>?_⟩;have e:b=l:=by simpa[ZS.sl] using j
  subst e;rcases c with (h|⟨o,h⟩)|⟨o,f,n,g,_⟩
  ·obtain⟨_,_,_,o,e,_⟩:=I.hok _ _ h;exact⟨_,e,.inl (by rw[h];simp)⟩
  ·obtain⟨e,_⟩:=I.hok _ _ h;exact⟨_,e,.inl (by rw[h];simp)⟩
  ·exact⟨o,I.kIn _ _ g,.inr (I.ok.mod.kin _ _ g)⟩
 |str z=>obtain⟨t,rfl⟩:=x;exact⟨_,trivial,Sub.strs k i z t,λb j=>by simp[ZS.sl]at j⟩
end
theorem aO{a:ZS}(I:Inv X pins σ H s)(f:FpOk X pins H b)(h:∀c∈a.sl,∃o,s.heap.get? c=some o/\(H c≠none\/X.base.get? c=some o)):∀c∈a.sl,c≠b:=by
 intro c d e;subst e;obtain⟨o,_,q⟩:=h c d;rcases q with q|q
 ·exact q f.1
 ·rcases f.2.2.2.1 with z|z
  ·exact I.ok.noex c o q z
  ·exact absurd (aay (Heap.lt_size q) (aat I.ok.bsz z)) (aa3 _)
structure ZRec (z TI TO i1 i2:Addr):Prop where
 TIz:TI≠z
 TOz:TO≠z
 i1z:i1≠z
 i2z:i2≠z
 TITO:TI≠TO
 TIi1:TI≠i1
 TIi2:TI≠i2
 TOi1:TO≠i1
 TOi2:TO≠i2
 i12:i1≠i2
theorem Inv.h7{t':Nat}{g:List Addr}(I:Inv X pins σ H s)(k:∀b o,b ∉ g->s.heap.get? b=some o->h'.get? b=some o)(f:∀b∈g,FpOk X pins H b)
  : Inv X pins σ H { s with heap:=h',toks:=t' }:=by
 have d:∀b u,H b=some u->b ∉ g:=λb u e z=>by rw[(f b z).1]at e;cases e
 refine I.step (λb w=>?_) (λb o _ _ a e _=>k b o a e) (λb o _ _ a e _=>⟨o.slots,k b o a e⟩) (λ_ _ _ _ n=>n)
  (λb o a e=>⟨o,k b o a e⟩) (λ_ _ e=>e) (λ_ _ _ e=>e) (λb B e=>⟨#[],by rw[e];simp⟩) (λm p=>?_) (λb u e=>?_) I.bare
 ·obtain⟨A,l,C,y,j,t⟩:=f b w;exact⟨y,l,j,t⟩
 ·obtain⟨o,h,x,i,r⟩:=p;exact⟨o,h,x,k _ o (λz=>(f _ z).2.1 rfl) i,r⟩
 ·refine(I.hok b u e).kv (λc v a q=>k c v ?_ q) (λ_ q=>q) λ_ _ q=>q;rcases a with z|z
  ·rw[z];exact d b u e
  ·exact d c _ z
theorem sj{P:Program}{w:World}{K:Waa}{es:List Expr}{x1}{a8:Pos}(a b:ZS)(va vb:Value)(ra:RelV a.val va)(rb:RelV b.val vb)(z TI TO i1 i2:Addr)(R:ZRec z TI TO i1 i2):
  Turn P w K (.Tuple es x1 a8) (GL K a b) [z,TI,TO,i1,i2] z
   (λi h=>IsZip h z TI TO .none/\IsPair h TI (.ref i1) (.ref i2)/\(∃p q,IsPair h TO p q)/\a.st va i1 i h/\b.st vb i2 i h) where
 mem:=by simp
 obj:=λi h ⟨C,G,⟨p,q,J⟩,M,L⟩ c d=>by
  simp only[aab,aar,or_false]at d;rcases d with rfl|rfl|rfl|rfl|rfl
  ·exact⟨_,C,λv z=>by cases z⟩
  ·exact⟨_,G,λv z=>by cases z⟩
  ·exact⟨_,J,λv z=>by cases z⟩
  ·exact ZS.nc M
  ·exact ZS.nc L
 keep:=λi h h' ⟨C,G,⟨p,q,J⟩,M,L⟩ k=>
  ⟨k z (by simp) _ C,k TI (by simp) _ G,⟨p,q,k TO (by simp) _ J⟩,ZS.h8 M (λo e=>k i1 (by simp) o e),ZS.h8 L (λo e=>k i2 (by simp) o e)⟩
 item:=by
  intro X hP hw hK d i B s σ H E I g ⟨C,G,⟨p,q,J⟩,M,L⟩ hg;subst hP hw hK;obtain⟨O,Q,la,lb⟩:=hg;have Y:X.A.in1.handled=none:=I.ok.hd d;obtain⟨a2,S,S1,l⟩:=a.sub I O ra X.A.in1 Y i1;obtain⟨a1,N,S2,j⟩:=b.sub I Q rb X.A.in1 Y i2;obtain⟨x,hx⟩:∃x,a.items[i]?=some x:=⟨_,aak la⟩
  obtain⟨y,hy⟩:∃y,b.items[i]?=some y:=⟨_,aak lb⟩
  have D:ZApart z TI TO i1 i2 a.sl b.sl:=⟨R.TIz,R.TOz,R.i1z,R.i2z,R.TITO,R.TIi1,R.TIi2,R.TOi1,R.TOi2,R.i12,
   λc d=>⟨aO I (g z (by simp)) l c d,aO I (g TO (by simp)) l c d,aO I (g i1 (by simp)) l c d,aO I (g i2 (by simp)) l c d⟩,
   λc d=>⟨aO I (g z (by simp)) j c d,aO I (g TO (by simp)) j c d,aO I (g i1 (by simp)) j c d,aO I (g i2 (by simp)) j c d⟩⟩
  have fl:∀c∈([z,TI,TO,i1,i2]:List Addr),c<s.heap.objs.size:=λc d=>by
   simp only[aab,aar,or_false]at d;rcases d with rfl|rfl|rfl|rfl|rfl
   ·exact Heap.lt_size C
   ·exact Heap.lt_size G
   ·exact Heap.lt_size J
   ·obtain⟨o,e,_⟩:=ZS.nc M;exact Heap.lt_size e
   ·obtain⟨o,e,_⟩:=ZS.nc L;exact Heap.lt_size e
  refine lZ D S1 S2 C G J M L S N hx hy (λu v h' tk ru rv b0 a0 a3 U hT b5 hk=>?_) (fl i1 (by simp)) (fl i2 (by simp));refine⟨.ref s.heap.objs.size,rfl,?_⟩;refine wpAny_letOwnedTupleGo_zip b0 λt Z f=>?_;have f:Heap.SameBut z h' t:=f;have k1:∀c o,c ∉ ([z,TI,TO,i1,i2]:List Addr)->s.heap.get? c=some o->t.get? c=some o:=λc o d e=>by simp only[aab,aar,or_false,not_or]at d;exact f.extBut _ _ d.1 (hk c o d.1 d.2.2.1 d.2.2.2.1 d.2.2.2.2 e)
  have T:H s.heap.objs.size=none:=I.hok.fresh (aag _);have I1:Inv X B σ H { s with heap:=t,toks:=tk }:=I.h7 k1 g;have a7:s.heap.objs.size≠z:=aa7 (fl z (by simp));have a5:IsPair t s.heap.objs.size u v:=f.extBut _ _ a7 hT;have I2:Inv X B σ (upd H s.heap.objs.size (.tup [x,y])) { s with heap:=t,toks:=tk }:=by
   refine I.step (g':=s.gens) (d':=s.drawn) (ch:=[z,TI,TO,i1,i2]) (λb hb=>?_) (λb o _ _ d e _=>k1 b o d e) (λb o _ _ d e _=>⟨o.slots,k1 b o d e⟩) (λb o d e n=>?_)
    (λb o d e=>⟨o,k1 b o d e⟩) (λb ys e=>?_) (λb o u e=>?_) (λb ps e=>⟨#[],?_⟩) (λm hm=>?_) (λb o e=>?_) I.bare
   ·obtain⟨f0,f1,f2,f3,f4,f5⟩:=g b hb;exact⟨f3,f1,f4,f5⟩
   ·rw[upd_ne (aas (Heap.lt_size e))];exact n
   ·rw[upd_ne (aq e T)];exact e
   ·rw[upd_ne (aq e T)];exact e
   ·rw[upd_ne (aq e T),e];simp
   ·obtain⟨o,a6,ep,ho,r⟩:=hm;exact⟨o,a6,ep,k1 _ o (λz=>(g _ z).2.1 rfl) ho,r⟩
   ·by_cases hb:b=s.heap.objs.size
    ·subst hb;rw[aN]at e;cases e;exact⟨(by show 2<=sizeLine;decide),[u,v],.cons ru (.cons rv .nil),⟨_,a5,rfl,_,rfl,rfl⟩⟩
    ·rw[upd_ne hb]at e;refine(I1.hok b o e).kv (λc v d q=>q) (λc q=>by rw[upd_ne (aq q T)];exact q) λc ys q=>by rw[upd_ne (aq q T)];exact q
  refine⟨.ref s.heap.objs.size,_,I2,rfl,⟨_,x,y,hx,hy,T,rfl,rfl⟩,⟨Z,?_,⟨u,v,f.extBut _ _ R.TOz a0⟩,ZS.h8 a3 (λo e=>f.extBut _ _ R.i1z e),ZS.h8 U (λo e=>f.extBut _ _ R.i2z e)⟩,λc d=>?_⟩
  ·exact f.extBut _ _ R.TIz (hk _ _ R.TIz R.TITO R.TIi1 R.TIi2 G)
  ·rw[upd_ne (aas (fl c d))];exact(g c d).1
 done:=by
  intro X hP hw hK d i B s σ H E I g ⟨C,G,⟨p,q,J⟩,M,L⟩ hg;subst hP hw hK;obtain⟨O,Q,a4⟩:=hg;have Y:X.A.in1.handled=none:=I.ok.hd d;obtain⟨a2,S,S1,l⟩:=a.sub I O ra X.A.in1 Y i1;obtain⟨a1,N,S2,j⟩:=b.sub I Q rb X.A.in1 Y i2;have D:ZApart z TI TO i1 i2 a.sl b.sl:=⟨R.TIz,R.TOz,R.i1z,R.i2z,R.TITO,R.TIi1,R.TIi2,R.TOi1,R.TOi2,R.i12,
   λc d=>⟨aO I (g z (by simp)) l c d,aO I (g TO (by simp)) l c d,aO I (g i1 (by simp)) l c d,aO I (g i2 (by simp)) l c d⟩,
   λc d=>⟨aO I (g z (by simp)) j c d,aO I (g TO (by simp)) j c d,aO I (g i1 (by simp)) j c d,aO I (g i2 (by simp)) j c d⟩⟩
  refine qc D S1 S2 C G J M L S N a4 λh' tk hk=>⟨rfl,I.h7 (λc o d e=>?_) g⟩
  simp only[aab,aar,or_false,not_or]at d;exact hk c o d.1 d.2.2.1 d.2.2.2.1 d.2.2.2.2 e
 self:=λ_ _ _ _ _ ⟨C,_⟩ h=>wpAny_pyIter_zip C h
theorem gJ(j m:Value)(o1 i:Obj)(c a:Heap->Prop)(p:∀h o,a h->a (h.push o))
  (v:∀(prog:Program) (w:World) (A:Around) (E:Value->Shared->Prop) (s:Shared) (Q:Value->Shared->Prop),c s.heap->Q (.ref s.heap.objs.size) { s with heap:=s.heap.push o1 }->wpAny (model prog w) A (pyIter j) Q E s)
  (t:∀(prog:Program) (w:World) (A:Around) (E:Value->Shared->Prop) (s:Shared) (Q:Value->Shared->Prop),a s.heap->Q (.ref s.heap.objs.size) { s with heap:=s.heap.push i }->wpAny (model prog w) A (pyIter m) Q E s):
  Meets (Builtin.«zip.__new__» ⟨[.type "zip",j,m],[]⟩) (λ_ R s=>c s.heap/\a s.heap /\
   R (.ok (.ret (.ref ((((s.heap.push o1).push i).push { cls:=.type "tuple",data:=.seq #[.ref s.heap.objs.size,.ref (s.heap.push o1).objs.size] }).push { cls:=.type "tuple",data:=.seq #[.none,.none] }).objs.size)))
    { s with heap:=((((s.heap.push o1).push i).push { cls:=.type "tuple",data:=.seq #[.ref s.heap.objs.size,.ref (s.heap.push o1).objs.size] }).push { cls:=.type "tuple",data:=.seq #[.none,.none] }).push { cls:=.type "zip",data:=.fields #[.none,.bool false,.bool false,.ref ((s.heap.push o1).push i).objs.size,.ref (((s.heap.push o1).push i).push { cls:=.type "tuple",data:=.seq #[.ref s.heap.objs.size,.ref (s.heap.push o1).objs.size] }).objs.size] } }):=
 .of_wp λprog w A R s h=>by
  obtain⟨b,g,d,e,f⟩:=s;obtain⟨k,n,h⟩:=h;have q:=sub_zip;have r:∀{A:Around}{E:Value->Shared->Prop}{Q:Value->Shared->Prop},Q (.ref b.objs.size) ⟨b.push o1,g,d,e,f⟩->wpAny (model prog w) A (pyIter j) Q E ⟨b,g,d,e,f⟩:=λl=>v _ _ _ _ ⟨b,g,d,e,f⟩ _ k l;have u:∀{A:Around}{E:Value->Shared->Prop}{Q:Value->Shared->Prop},Q (.ref (b.push o1).objs.size) ⟨(b.push o1).push i,g,d,e,f⟩->wpAny (model prog w) A (pyIter m) Q E ⟨b.push o1,g,d,e,f⟩:=λl=>t _ _ _ _ ⟨b.push o1,g,d,e,f⟩ _ (p _ _ n) l
  wp_walk using r,u
  exact⟨_,rfl,h⟩
end
section
theorem boot_zip:bootBuiltins "zip"=some (.type "zip"):=by decide +kernel
section
variable{X:Cx}
theorem ZS.iter(a:ZS)(I:Inv X pins σ H s)(f:a.ok X.K H)(d:RelV a.val v):
  ∃b:Heap->Prop,b s.heap/\(∀h o,b h->b (h.push o)) /\
   ∀(prog:Program) (w:World) (A:Around) (E:Value->Shared->Prop) (s:Shared) (Q:Value->Shared->Prop),b s.heap->Q (.ref s.heap.objs.size) { s with heap:=s.heap.push (a.x4 v) }->wpAny (model prog w) A (pyIter v) Q E s:=by
 cases a with
 |lst l e=>obtain⟨c,r,p,g⟩:=I.list (show SqL X.K H l e from f);cases d;exact⟨λh=>h.IsList l c.toArray,p.isList,λh o x=>x.push o,λprog w A E s Q h q=>wpAny_pyIter_list h q⟩
 |tup l e=>obtain⟨c,r,p,g⟩:=I.tuple (show SqT X.K H l e from f);cases d;exact⟨λh=>h.IsTuple l c.toArray,p,λh o x=>x.push o,λprog w A E s Q h q=>wpAny_pyIter_tuple h q⟩
 |str z=>obtain⟨t,rfl⟩:=d;exact⟨λ_=>True,trivial,λ_ _ _=>trivial,λprog w A E s Q _ q=>wpAny_pyIter_strU q⟩
theorem ZS.st0(a:ZS)(b:RelV a.val v)(e:h.get? i=some (a.x4 v)):a.st v i 0 h:=by
 cases a with
 |lst l c=>cases b;exact⟨_,e,rfl,rfl⟩
 |tup l c=>cases b;exact⟨_,e,rfl,rfl⟩
 |str z=>obtain⟨t,rfl⟩:=b;exact⟨_,e,rfl,rfl⟩
theorem kB(a:ZS)(v:Value):(a.x4 v).isFreed=false:=by cases a<;>rfl
def GM(K:Waa)(f:TA):TI:=λe H R=>f e H λd c=>∃a b:ZS,d=[a.val,b.val]/\a.ok K c/\b.ok K c/\R (GL K a b) c
theorem addNe(h:i≠j):(n+i:Addr)≠n+j:=λe=>h (acn e)
theorem addNe0(h:i≠0):(n+i:Addr)≠n:=λe=>h (acn e)
theorem Ap{es:List Expr}{x1}{n:Pos}{a b:Expr}{p k:Pos} (hg:Gl X "zip") (hm:X.mg "zip"=none) (ha:PA X [a,b] ta) (hs:starEach [a,b] X.env=[(false,eval a X.env),(false,eval b X.env)]:=by rfl) (l:starEach [b] X.env=[(false,eval b X.env)]:=by rfl):
  PI X (.Tuple es x1 n) (.Call (.Name "zip" p) [a,b] [] k) (GM X.K ta):=by
 intro f s Q H R I h;refine Call_ (eh I hg hm boot_zip (abh (thn (ha k f s Q H _ I h) λus d hZ=>?_) (by rw[hs,l]) (by rw[l];rfl)));obtain⟨vs,M,j,r1,q1⟩:=hZ;obtain⟨g,i,e,w,x,q⟩:=q1;subst e;obtain⟨m,v,rfl,D,C⟩:=r1.two;obtain⟨u,h1,_,p1⟩:=g.iter j w D;obtain⟨t,h2,y,p2⟩:=i.iter j x C;refine callType_new F.called_zip (by decide) (F.typeCall_zip_2 _ _) (F.newCall_zip_2 _ _) (λG=>F.args_object_init_3 G _ _) F.entry_zip_new
  (gJ m v (g.x4 m) (i.x4 v) u t y p1 p2) ⟨h1,h2,?_⟩
 generalize hA:d.heap.push (g.x4 m)=A1;generalize hB:A1.push (i.x4 v)=A2;generalize hC:A2.push { cls:=.type "tuple",data:=.seq #[.ref d.heap.objs.size,.ref A1.objs.size] }=A3;generalize hD:A3.push { cls:=.type "tuple",data:=.seq #[.none,.none] }=A4;generalize hE:A4.push { cls:=.type "zip",data:=.fields #[.none,.bool false,.bool false,.ref A2.objs.size,.ref A3.objs.size] }=A5;have B:A1.objs.size=d.heap.objs.size+1:=by rw[<-hA];exact Heap.size_push ..
 have A:A2.objs.size=d.heap.objs.size+2:=by rw[<-hB,Heap.size_push,B]
 have z:A3.objs.size=d.heap.objs.size+3:=by rw[<-hC,Heap.size_push,A]
 have T:A4.objs.size=d.heap.objs.size+4:=by rw[<-hD,Heap.size_push,z]
 have U:A5.get? A4.objs.size=some { cls:=.type "zip",data:=.fields #[.none,.bool false,.bool false,.ref A2.objs.size,.ref A3.objs.size] }:=by rw[<-hE];exact Heap.get?_push_size _ rfl
 have L:∀c o,A4.get? c=some o->A5.get? c=some o:=λc o e=>by rw[<-hE];exact Heap.get?_push_of_some _ e
 have N:∀c o,A3.get? c=some o->A5.get? c=some o:=λc o e=>L c o (by rw[<-hD];exact Heap.get?_push_of_some _ e);have J:∀c o,A2.get? c=some o->A5.get? c=some o:=λc o e=>N c o (by rw[<-hC];exact Heap.get?_push_of_some _ e);have O:∀c o,A1.get? c=some o->A5.get? c=some o:=λc o e=>J c o (by rw[<-hB];exact Heap.get?_push_of_some _ e);have Z:∀c o,d.heap.get? c=some o->A5.get? c=some o:=λc o e=>O c o (by rw[<-hA];exact Heap.get?_push_of_some _ e);have g4:A5.get? A3.objs.size=some { cls:=.type "tuple",data:=.seq #[.none,.none] }:=L _ _ (by rw[<-hD];exact Heap.get?_push_size _ rfl);have g3:A5.get? A2.objs.size=some { cls:=.type "tuple",data:=.seq #[.ref d.heap.objs.size,.ref A1.objs.size] }:=N _ _ (by rw[<-hC];exact Heap.get?_push_size _ rfl);have g2:A5.get? A1.objs.size=some (i.x4 v):=J _ _ (by rw[<-hB];exact Heap.get?_push_size _ (kB _ _));have g1:A5.get? d.heap.objs.size=some (g.x4 m):=O _ _ (by rw[<-hA];exact Heap.get?_push_size _ (kB _ _));refine⟨⟨_,U,rfl⟩,?_⟩;have Y:IsZip A5 A4.objs.size A2.objs.size A3.objs.size .none:=U;refine wpAny_pyIter_zip Y ?_;have R:ZRec A4.objs.size A2.objs.size A3.objs.size d.heap.objs.size A1.objs.size:=by rw[B,A,z,T];refine⟨?_,?_,?_,?_,?_,?_,?_,?_,?_,?_⟩<;>first|exact addNe (by decide)|exact addNe0 (by decide)|exact(addNe0 (by decide)).symm
 have I5:Inv X f Q M { d with heap:=A5 }:=j.kept Z;refine⟨A4.objs.size,[A4.objs.size,A2.objs.size,A3.objs.size,d.heap.objs.size,A1.objs.size],_,_,M,rfl,I5,sj g i m v D C _ _ _ _ _ R,
  ⟨Y,g3,⟨_,_,g4⟩,g.st0 D g1,i.st0 C g2⟩,λb S=>?_,q⟩
 have r:d.heap.objs.size<=b:=by simp only[aab,aar,or_false]at S;rcases S with rfl|rfl|rfl|rfl|rfl<;>first|exact aag _|(rw[T];exact abn _ _)|(rw[z];exact abn _ _)|(rw[A];exact abn _ _)|(rw[B];exact abn _ _)
 exact j.qd r (j.hok.fresh r)
end
section
variable{X:Cx}
def Kw(K:Waa)(H:Hp)(x:V)(n:String):Prop:=TyOf K H x (.type n)
end
end
section
mutual
inductive Dt (K:Waa)(H:Hp):V->PyData->Prop
 |non:Dt K H .non .none
 |bl (b:Bool):Dt K H (.bl b) (.bool b)
 |int (i:Int):Dt K H (.int i) (.int i)
 |str (x:Str):Dt K H (.str x) (.str x)
 |lst {a xs ds}:SqL K H a xs->DtAll K H xs ds->Dt K H (.ref a) (.list ds)
 |tup {a xs ds}:SqT K H a xs->DtAll K H xs ds->Dt K H (.ref a) (.tuple ds)
inductive DtAll (K:Waa)(H:Hp):List V->List PyData->Prop
 |nil:DtAll K H [] []
 |cons {x d xs ds}:Dt K H x d->DtAll K H xs ds->DtAll K H (x::xs) (d::ds)
end
theorem DtAll.length{K:Waa}(h:DtAll K H xs ds):xs.length=ds.length:=by
 induction xs generalizing ds with
 |nil=>cases h;rfl
 |cons v b a=>cases h with|cons _ t=>rw[aao,aao,a t]
theorem DtAll.get{K:Waa}{i:Nat}(h:DtAll K H xs ds)(e:ds[i]?=some d):∃x,xs[i]?=some x/\Dt K H x d:=by
 induction xs generalizing ds i with
 |nil=>cases h;cases i<;>cases e
 |cons v b a=>
  cases h with
  |cons r t=>
   cases i with
   |zero=>cases e;exact⟨_,rfl,r⟩
   |succ i=>exact a t e
theorem DtAll.append{K:Waa}(h:DtAll K H xs ds)(h':DtAll K H ys es):DtAll K H (xs++ys) (ds++es):=by
 induction xs generalizing ds with
 |nil=>cases h;exact h'
 |cons v b a=>cases h with|cons r t=>exact .cons r (a t)
theorem DtAll.ints{K:Waa}:∀(ns:List Int),DtAll K H (ns.map V.int) (ns.map PyData.int)
 |[]=>.nil
 |n::ns=>.cons (.int n) (DtAll.ints ns)
theorem Same.tupS{K:Waa}{H b:Hp}(e:Same H b)(h:SqT K H a xs):SqT K b a xs:=by
 rcases h with (h|⟨o,h⟩)|h
 ·exact .inl (.inl (e _ _ h))
 ·exact .inl (.inr ⟨o,e _ _ h⟩)
 ·exact .inr h
theorem Dt.ind{K:Waa}{P:V->PyData->Prop}{Q:List V->List PyData->Prop}(c:P .non .none)(l:∀b,P (.bl b) (.bool b))(f:∀i,P (.int i) (.int i))(g:∀x,P (.str x) (.str x))
  (k:∀{a xs ds},SqL K H a xs->Q xs ds->P (.ref a) (.list ds)) (e:∀{a xs ds},SqT K H a xs->Q xs ds->P (.ref a) (.tuple ds)) (nil:Q [] []) (cons:∀{x d xs ds},P x d->Q xs ds->Q (x::xs) (d::ds)):
  (∀{v d},Dt K H v d->P v d)/\∀{vs ds},DtAll K H vs ds->Q vs ds:=
 ⟨λh=>Dt.rec c l f g (λh _ i=>k h i) (λh _ i=>e h i) nil (λ_ _ i j=>cons i j) h,
  λh=>DtAll.rec c l f g (λh _ i=>k h i) (λh _ i=>e h i) nil (λ_ _ i j=>cons i j) h⟩
theorem Dt.x5{K:Waa}{H a:Hp}(s:Same H a):(∀{x:V}{d:PyData},Dt K H x d->Dt K a x d)/\∀{xs:List V}{ds:List PyData},DtAll K H xs ds->DtAll K a xs ds:=
 Dt.ind .non .bl .int .str (λh t=>.lst (s.seq h) t) (λh t=>.tup (s.tupS h) t) .nil (λr t=>.cons r t)
theorem Dt.mono{K:Waa}(s:Same H H')(h:Dt K H x d):Dt K H' x d:=(Dt.x5 s).1 h
theorem DtAll.mono{K:Waa}(s:Same H H')(h:DtAll K H xs ds):DtAll K H' xs ds:=(Dt.x5 s).2 h
section
variable{X:Cx}{pins:List (Addr×Obj)}{σ:St}{H:Hp}{s:Shared}
theorem Dt.vv(I:Inv X pins σ H s):(∀{x:V}{d:PyData},Dt X.K H x d->∀{u:Value},RelV x u->∃as,Reads s.heap u d as)/\∀{xs:List V}{ds:List PyData},DtAll X.K H xs ds->∀{us:List Value},Vals xs us->∃as,ReadsAll s.heap us ds as:=by
 refine Dt.ind (P:=λx d=>∀{u:Value},RelV x u->∃as,Reads s.heap u d as) ?_ ?_ ?_ ?_ ?_ ?_ ?_ ?_
 ·intro u r;cases r;exact⟨_,.none⟩
 ·intro b u r;cases r;exact⟨_,.bool b⟩
 ·intro i u r;obtain⟨t,rfl⟩:=r;exact⟨_,.int i t⟩
 ·intro x u r;obtain⟨t,rfl⟩:=r;exact⟨_,.str x t⟩
 ·intro a xs ds h i u r;cases r;obtain⟨g,k,⟨o,n,e,f,_,c⟩,_⟩:=I.list h;obtain⟨as,q⟩:=i k;exact⟨_,.list e f c (by simpa using q)⟩
 ·intro a xs ds h i u r;cases r;obtain⟨g,k,⟨o,e,f,n,c⟩,_⟩:=I.tuple h;obtain⟨as,q⟩:=i k;exact⟨_,.tuple e f c (by simpa using q)⟩
 ·intro us r;cases r;exact⟨_,.nil⟩
 ·intro x d xs ds i j us r;cases r with
  |cons m l=>obtain⟨as,q⟩:=i m;obtain⟨v,p⟩:=j l;exact⟨_,.cons q p⟩
theorem Dt.reads(I:Inv X pins σ H s)(h:Dt X.K H x d)(r:RelV x u):∃as,Reads s.heap u d as:=(Dt.vv I).1 h r
theorem DtAll.reads(I:Inv X pins σ H s)(h:DtAll X.K H xs ds)(r:Vals xs us):∃as,ReadsAll s.heap us ds as:=(Dt.vv I).2 h r
end
mutual
theorem eqv_refl:∀(d:PyData),d.canLay0=true->PyData.eqv d d=true
 |.none,_=>by simp[PyData.eqv]
 |.bool b,_=>by simp[PyData.eqv]
 |.int i,_=>by simp[PyData.eqv]
 |.str x,_=>by simp[PyData.eqv]
 |.list xs,h=>by simp only[PyData.eqv];exact eqvAll_refl xs (by simpa[PyData.canLay0] using h)
 |.tuple xs,h=>by simp only[PyData.eqv];exact eqvAll_refl xs (by simpa[PyData.canLay0] using h)
 |.dict _,h=>by simp[PyData.canLay0]at h
theorem eqvAll_refl:∀(ds:List PyData),PyData.canLayAll0 ds=true->PyData.eqvAll ds ds=true
 |[],_=>by simp[PyData.eqvAll]
 |d::ds,h=>by simp only[PyData.canLayAll0,aaC]at h;simp only[PyData.eqvAll,aaC];exact⟨eqv_refl d h.1,eqvAll_refl ds h.2⟩
end
section
variable{X:Cx}
def Dw(K:Waa):R2:=λx y H Q=>∃a b,Dt K H x a/\Dt K H y b/\SeqAt.shaped a=true/\SeqAt.shaped b=true/\Q (.bl (PyData.eqv a b)) H
def Dx(K:Waa):R2:=λx y H Q=>∃a b,Dt K H x a/\Dt K H y b/\SeqAt.shaped a=true/\SeqAt.shaped b=true/\Q (.bl (!PyData.eqv a b)) H
theorem Aq(i:X.A.units+64<cLine):OpR X (compareOp .Eq) (Dw X.K):=by intro a s o H x y v u Q I g d h;obtain⟨m,n,k,j,e,b,q⟩:=h;obtain⟨p,f⟩:=k.reads I g;obtain⟨l,c⟩:=j.reads I d;exact eq_dataH f c e b i ⟨.bl _,H,I,rfl,q⟩
theorem Ar(i:X.A.units+64<cLine):OpR X (compareOp .NotEq) (Dx X.K):=by intro a s o H x y v u Q I g d h;obtain⟨m,n,k,j,e,b,q⟩:=h;obtain⟨p,f⟩:=k.reads I g;obtain⟨l,c⟩:=j.reads I d;exact ne_dataH f c e b i ⟨.bl _,H,I,rfl,q⟩
theorem kit_same(K:Waa)(T:String):PySem.W.kitOne K (.type T) (.type T)=some true:=by unfold PySem.W.kitOne;rw[if_pos (by simp)]
theorem kit_lt(K:Waa):PySem.W.kitOne K (.type "list") (.type "tuple")=some false:=by kernel_rfl
theorem kit_tl(K:Waa):PySem.W.kitOne K (.type "tuple") (.type "list")=some false:=by kernel_rfl
theorem kit_bi(K:Waa):PySem.W.kitOne K (.type "bool") (.type "int")=some true:=by kernel_rfl
theorem kit_ib(K:Waa):PySem.W.kitOne K (.type "int") (.type "bool")=some false:=by kernel_rfl
theorem kit_il(K:Waa):PySem.W.kitOne K (.type "int") (.type "list")=some false:=by kernel_rfl
theorem kit_it(K:Waa):PySem.W.kitOne K (.type "int") (.type "tuple")=some false:=by kernel_rfl
theorem kit_is(K:Waa):PySem.W.kitOne K (.type "int") (.type "str")=some false:=by kernel_rfl
theorem kit_sl(K:Waa):PySem.W.kitOne K (.type "str") (.type "list")=some false:=by kernel_rfl
theorem kit_st(K:Waa):PySem.W.kitOne K (.type "str") (.type "tuple")=some false:=by kernel_rfl
theorem kit_si(K:Waa):PySem.W.kitOne K (.type "str") (.type "int")=some false:=by kernel_rfl
theorem kit_sb(K:Waa):PySem.W.kitOne K (.type "str") (.type "bool")=some false:=by kernel_rfl
theorem kit_bl(K:Waa):PySem.W.kitOne K (.type "bool") (.type "list")=some false:=by kernel_rfl
theorem kit_bt(K:Waa):PySem.W.kitOne K (.type "bool") (.type "tuple")=some false:=by kernel_rfl
theorem kit_bs(K:Waa):PySem.W.kitOne K (.type "bool") (.type "str")=some false:=by kernel_rfl
theorem kit_nl(K:Waa):PySem.W.kitOne K (.type "NoneType") (.type "list")=some false:=by kernel_rfl
theorem kit_nt(K:Waa):PySem.W.kitOne K (.type "NoneType") (.type "tuple")=some false:=by kernel_rfl
theorem kit_ns(K:Waa):PySem.W.kitOne K (.type "NoneType") (.type "str")=some false:=by kernel_rfl
theorem kit_ni(K:Waa):PySem.W.kitOne K (.type "NoneType") (.type "int")=some false:=by kernel_rfl
theorem kit_nb(K:Waa):PySem.W.kitOne K (.type "NoneType") (.type "bool")=some false:=by kernel_rfl
theorem kit_li(K:Waa):PySem.W.kitOne K (.type "list") (.type "int")=some false:=by kernel_rfl
theorem kit_ti(K:Waa):PySem.W.kitOne K (.type "tuple") (.type "int")=some false:=by kernel_rfl
theorem kit_ls(K:Waa):PySem.W.kitOne K (.type "list") (.type "str")=some false:=by kernel_rfl
theorem kit_ts(K:Waa):PySem.W.kitOne K (.type "tuple") (.type "str")=some false:=by kernel_rfl
theorem kit_lb(K:Waa):PySem.W.kitOne K (.type "list") (.type "bool")=some false:=by kernel_rfl
theorem kit_tb(K:Waa):PySem.W.kitOne K (.type "tuple") (.type "bool")=some false:=by kernel_rfl
inductive Ty (K:Waa)(H:Hp):V->String->Prop
 |non:Ty K H .non "NoneType"
 |bl (b:Bool):Ty K H (.bl b) "bool"
 |int (i:Int):Ty K H (.int i) "int"
 |str (x:Str):Ty K H (.str x) "str"
 |lst {a xs}:SqL K H a xs->Ty K H (.ref a) "list"
 |tup {a xs}:SqT K H a xs->Ty K H (.ref a) "tuple"
end
end
section
section
variable{X:Cx}{pos:Pos}
def Dy(i j k:Nat)(d:TA):TS:=λD a H=>d a H λc b=>∃v w u,c=[v,w,u]/\D.nx (((a.set i (some v)).set j (some w)).set k (some u)) b
theorem wb{Q S f}(hc:X.calm=true)(T:X.N.Nodup)(hi:X.N[i]?=some x)(hj:X.N[j]?=some y)(hk:X.N[k]?=some z)(t:i≠j)(M:i≠k)(C:j≠k)
  (U:X.env.scope.names.lookup x=some .local) (hy:X.env.scope.names.lookup y=some .local) (Y:X.env.scope.names.lookup z=some .local) (ha:PA X [a,b,c] ta)
  (hw:swappedStores [.Tuple [.Name x px,.Name y py,.Name z pz] Q pt] (.Tuple [a,b,c] S f) X.env=pure (some [x,y,z]))
  (hs:swapsWithSole [.Tuple [.Name x px,.Name y py,.Name z pz] Q pt] (.Tuple [a,b,c] S f) pos.line X.env=pure false:=by rfl):
  PS X (.Assign [.Tuple [.Name x px,.Name y py,.Name z pz] Q pt] (.Tuple [a,b,c] S f) pos) (Dy i j k ta):=by
 intro d s r H D I h;rw[exec_Assign_arm];refine wpAny_bind (wpAny_standAt ?_);rw[hs];refine wpAny_bind (wpAny_pure ?_);rw[if_neg (by decide)];refine wpAny_bind (Tuple_ (thn (ha _ d s r H _ I h) λus n ⟨vs,Z,I1,r1,G⟩=>?_));obtain⟨v,w,u,e1,G⟩:=G;subst e1;obtain⟨g,m,l,rfl,rv,L,ru⟩:∃g m l,us=[g,m,l]/\RelV v g/\RelV w m/\RelV u l:=by
  cases r1 with
  |cons p q=>
   cases q with
   |cons p' q'=>
    cases q' with
    |cons J B=>cases B;exact⟨_,_,_,rfl,p,p',J⟩
 refine wpAny_newObj_type ?_ (by show 3<=sizeLine;decide);have I2:Inv X d r Z { n with heap:=n.heap.push { cls:=.type "tuple",data:=.seq [g,m,l].toArray } }:=I1.kept λb o e=>Heap.get?_push_of_some _ e;rw[hw];refine wpAny_bind (wpAny_pure ?_);show wpAny (model X.prog X.w) X.A (do rule "assign.swapped-stores";let items <-unpackItems (.ref n.heap.objs.size) 3 none;assignInOrder [λv=>bindName X.env z v,λv=>bindName X.env y v,λv=>bindName X.env x v] items.reverse;pure Flow.next) _ _ _;refine wpAny_bind (wpAny_rule (wpAny_bind (unpackItems_tuple (items:=#[g,m,l]) (I.ok.hd hc) (IsTup.new n.heap _) λh' O=>?_)));have I3:=I2.kept (t':=n.toks) λb o e=>O b o (aas (Heap.lt_size e)) e;show wpAny _ _ (assignInOrder [λv=>bindName X.env z v,λv=>bindName X.env y v,λv=>bindName X.env x v] [l,m,g] >>= λ_=>pure Flow.next) _ _ _;refine wpAny_bind (assignInOrder_cons (wpAny_bindName (bH I3 T hk (.inl Y) ru (λs2 I4=>?_) (.inr Y))));refine assignInOrder_cons (wpAny_bindName (bH I4 T hj (.inl hy) L (λs3 I5=>?_) (.inr hy)));refine assignInOrder_cons (wpAny_bindName (bH I5 T hi (.inl U) rv (λs4 I6=>assignInOrder_nil (wpAny_pure ?_)) (.inr U)));have e:((r.set k (some u)).set j (some w)).set i (some v)=((r.set i (some v)).set j (some w)).set k (some u):=by rw[abC _ _ (aaN t),abC _ _ (aaN M),abC _ _ (aaN C)]
 rw[e]at I6;exact⟨_,Z,I6,G⟩
end
def Keep(S:List Addr)(H a:Hp):Prop:=∀b o,H b=some o->b ∉ S->a b=some o
theorem Keep.refl(S:List Addr)(H:Hp):Keep S H H:=λ_ _ h _=>h
theorem Keep.trans(a:Keep S H H1)(b:Keep S H1 H2):Keep S H H2:=λc o h n=>b c o (a c o h n) n
theorem Keep.new(a:Keep S H H1)(n:H1 p=none):Keep S H (upd H1 p o):=λc u h m=>by have q:=a c u h m;rw[upd_ne (aq q n)];exact q
theorem Keep.put(a:Keep S H H1)(n:p∈S\/H p=none):Keep S H (upd H1 p o):=λc u h m=>by
 have b:c≠p:=λe=>by
  subst e;rcases n with n|n
  ·exact m n
  ·rw[n]at h;cases h
 rw[upd_ne b];exact a c u h m
theorem Keep.at(a:Keep S H H')(h:H b=some o)(n:b ∉ S):H' b=some o:=a b o h n
theorem Keep.same(a:Keep [] H H'):Same H H':=λb o h=>a b o h (by simp)
theorem Keep.sub(a:Keep S H H')(h:∀b∈S,b∈T):Keep T H H':=λb o e n=>a b o e λz=>n (h b z)
theorem Keep.free(e:Keep S H H')(h:H' l=none)(n:l ∉ S):H l=none:=by
 cases q:H l with
 |none=>rfl
 |some o=>rw[e l o q n]at h;cases h
end
section
theorem As:bootBuiltins "len"=some (.builtin "len"):=by decide +kernel
theorem Au:bootBuiltins "abs"=some (.builtin "abs"):=by decide +kernel
theorem Av:bootBuiltins "max"=some (.builtin "max"):=by decide +kernel
theorem Aw:bootBuiltins "min"=some (.builtin "min"):=by decide +kernel
theorem Ax:bootBuiltins "int"=some (.type "int"):=by decide +kernel
theorem sk:bootBuiltins "tuple"=some (.type "tuple"):=by decide +kernel
def FY:Scope:={ kind:=.function,names:=[],isGenerator:=false,isCoroutine:=false }
def aC:Nat->Expr->List Scope
 |0,_=>[]
 |n+1,e=>match e with
  |.ListComp elt gs sc _=>sc::(match gs with|g::_=>aC n g.iter|[]=>[])++aC n elt
  |.DictComp k v gs sc _=>sc::(match gs with|g::_=>aC n g.iter|[]=>[])++aC n k++aC n v
  |.SetComp elt gs sc _=>sc::(match gs with|g::_=>aC n g.iter|[]=>[])++aC n elt
  |.Call f as _ _=>aC n f++as.flatMap (aC n)
  |.BoolOp _ as _=>as.flatMap (aC n)
  |.BinOp a _ b _=>aC n a++aC n b
  |.UnaryOp _ a _=>aC n a
  |.Compare a _ bs _=>aC n a++bs.flatMap (aC n)
  |.IfExp a b c _=>aC n a++aC n b++aC n c
  |.Attribute a _ _=>aC n a
  |.Subscript a b _=>aC n a++aC n b
  |.List as _=>as.flatMap (aC n)
  |.Tuple as _ _=>as.flatMap (aC n)
  |_=>[]
def gK:Nat->Stmt->List Scope
 |0,_=>[]
 |n+1,s=>match s with
  |.FunctionDef _ _ b _ _ _ _ _ _ _=>b.flatMap (gK n)
  |.Return (some e) _=>aC n e
  |.Expr e _=>aC n e
  |.Assign _ e _=>aC n e
  |.If c a b _=>aC n c++a.flatMap (gK n)++b.flatMap (gK n)
  |.While c a _ _=>aC n c++a.flatMap (gK n)
  |.For _ i a _ _=>aC n i++a.flatMap (gK n)
  |_=>[]
structure CompOk (N:List Str)(nt:Nat)(fr:List Nat)(ON:List Str)(sc osc:Scope):Prop where
 sc:CompScope N nt fr ON sc osc
 nd:N.Nodup
def Iw(N:List Str)(nt:Nat)(b:List Nat)(c:List Str)(sc a:Scope):Bool:=(List.range b.length).all λi=>match N[nt+i]?,(b[i]?).bind (c[·]?) with
 |some x,some y=>x==y&&a.names.lookup x==some .cell&&sc.names.lookup x==some .free
 |_,_=>false
section
variable{H:Hp}{Q:VK}{K:Waa}{x y v:V}{i j:Int}{p l:Addr}{xs:List V}
theorem l4(h:n<=1000000):n<=sizeLine:=aat h (by decide)
end
end
section
section
variable{X:Cx}
def Iy(d:TA):TE:=λc H Q=>d c H λb a=>∃j:Int,b=[.int j]/\0<=j/\j<=100000/\∀l,a l=none->Q (.ref l) (upd a l (.lst ((rangeInts 0 1 j.toNat).map V.int)))
end
end
section
section
variable{κ:Type}[DecidableEq κ]
def valV(a:List (κ×V))(k:κ):Option V:=(a.find? λb=>decide (b.1=k)).map (·.2)
def putK(a:List (κ×V))(k:κ)(v:V):List (κ×V):=
 if (a.any λb=>decide (b.1=k))=true then a.map (λb=>if b.1=k then (b.1,v) else b) else a++[(k,v)]
def kC(a:List (κ×V))(k:κ):List (κ×V):=a.filter λb=>decide (b.1≠k)
theorem cR{k:κ}(e:p.1=k):valV (p::r) k=some p.2:=by simp[valV,aaU,e]
theorem gL{k:κ}(e:¬ p.1=k):valV (p::r) k=valV r k:=by simp[valV,aaU,e]
theorem gM(k:κ):∀a:List (κ×V),(a.any λb=>decide (b.1=k))=(valV a k).isSome
 |[]=>rfl
 |p::r=>by
  rw[aaY];by_cases e:p.1=k
  ·simp only[cR e,Dac e,Bool.true_or,Option.isSome_some]
  ·rw[gL e,Dab e,ab1];exact gM k r
theorem cS(a:List (κ×V))(k:κ)(v:V):(putK a k v).length<=a.length+1:=by
 unfold putK;split
 ·rw[aaa];omega
 ·rw[aaf,aao,abI];omega
theorem putK_new{k:κ}(v:V)(h:valV kvs k=none):putK kvs k v=kvs++[(k,v)]:=by unfold putK;rw[gM,h];exact if_neg (by decide)
theorem RelO.dw(r:RelO o u):o.isSome=u.isSome:=by
 cases o with
 |none=>cases u with
  |none=>rfl
  |some _=>exact(show False from r).elim
 |some _=>cases u with
  |none=>exact(show False from r).elim
  |some _=>rfl
theorem RelO.getD(r:RelO o u)(a:RelV d d'):RelV (o.getD d) (u.getD d'):=by
 cases o with
 |none=>cases u with
  |none=>exact a
  |some _=>exact(show False from r).elim
 |some _=>cases u with
  |none=>exact(show False from r).elim
  |some _=>exact r
theorem KV.val(r:KV kvs vs)(k:κ):RelO (valV kvs k) (valueAt vs k):=by
 unfold KV at r;induction r with
 |nil=>exact True.intro
 |@cons p q ps qs h t ih=>
  obtain⟨c,d⟩:=h;by_cases e:p.1=k
  ·have a:q.1=k:=c.symm.trans e;have b:valueAt (q::qs) k=some q.2:=by simp[valueAt,aaU,a]
   rw[cR e,b];exact d
  ·have a:¬ q.1=k:=λz=>e (c.trans z);have b:valueAt (q::qs) k=valueAt qs k:=by simp[valueAt,aaU,a]
   rw[gL e,b];exact ih
theorem KV.any{vs:List (κ×Value)}(r:KV kvs vs)(k:κ):(kvs.any λa=>decide (a.1=k))=vs.any λa=>decide (a.1=k):=by
 unfold KV at r;induction r with
 |nil=>rfl
 |cons h t b=>rw[aaY,aaY,b,h.1]
theorem KV.repl(r:KV kvs vs)(k:κ)(c:RelV y u):
  KV (kvs.map λa=>if a.1=k then (a.1,y) else a) (vs.map λa=>if a.1=k then (a.1,u) else a):=by
 unfold KV at r ⊢;induction r with
 |nil=>exact .nil
 |@cons p q ps qs h t ih=>
  rw[aap,aap];refine .cons ?_ ih;obtain⟨b,d⟩:=h;by_cases e:p.1=k
  ·rw[if_pos e,if_pos (b.symm.trans e)];exact⟨b,c⟩
  ·rw[if_neg e,if_neg (λz=>e (b.trans z))];exact⟨b,d⟩
theorem KV.put(r:KV kvs vs)(k:κ)(a:RelV y u):KV (putK kvs k y) (stored vs k u):=by
 unfold putK stored;rw[r.any k];by_cases e:(vs.any λb=>decide (b.1=k))=true
 ·rw[if_pos e,if_pos e];exact r.repl k a
 ·rw[if_neg e,if_neg e];exact Paired.snoc r ⟨rfl,a⟩
theorem KV.drop(r:KV kvs vs)(k:κ):KV (kC kvs k) (without vs k):=by
 unfold KV at r ⊢;unfold kC without;induction r with
 |nil=>exact .nil
 |@cons p q ps qs h t ih=>
  obtain⟨c,f⟩:=h;rw[abo,abo];by_cases e:p.1=k
  ·have a:¬ decide (p.1≠k)=true:=by simp[e]
   have b:¬ decide (q.1≠k)=true:=by simp[c.symm.trans e]
   rw[if_neg a,if_neg b];exact ih
  ·have d:¬ q.1=k:=λz=>e (c.trans z);have a:decide (p.1≠k)=true:=by simp[e]
   have b:decide (q.1≠k)=true:=by simp[d]
   rw[if_pos a,if_pos b];exact .cons ⟨c,f⟩ ih
theorem KV.keys{vs:List (κ×Value)}(r:KV kvs vs):kvs.map (·.1)=vs.map (·.1):=by
 unfold KV at r;induction r with
 |nil=>rfl
 |cons h t a=>rw[aap,aap,a,h.1]
theorem KV.length{vs:List (κ×Value)}(r:KV kvs vs):kvs.length=vs.length:=Paired.length r
end
theorem gN(r:RelV (kV k) u):(aI P w).is k u=true:=by
 cases k with
 |inl i=>obtain⟨t,e⟩:=(show ∃t,u=Value.int i t from r);subst e;exact ki P w i t
 |inr x=>obtain⟨t,e⟩:=(show ∃t,u=Value.str x t from r);subst e;exact mixKind_str P w x t
theorem iW:∀{ks:List Key}{us:List Value},Vals (ks.map kV) us->ItemsAre (aI P w) ks us
 |[],_,r=>by rw[aaL]at r;cases r;exact .nil
 |k::ks,_,r=>by
  rw[aap]at r;cases r with
  |cons h t=>exact .cons (gN h) (iW t)
abbrev KT(H:Hp):List (List Key×V)->List (List Key×Addr×Value)->Prop:=Paired λp q=>p.1=q.1/\H q.2.1=some (.tup (p.1.map kV))/\RelV p.2 q.2.2
theorem KT.val(r:KT H kvs xs)(k:List Key):RelO (valV kvs k) ((atKey xs k).map (·.2)):=by
 induction r with
 |nil=>exact True.intro
 |@cons p q ps qs h t ih=>
  obtain⟨c,_,d⟩:=h;by_cases e:p.1=k
  ·have a:q.1=k:=c.symm.trans e;have b:atKey (q::qs) k=some q.2:=by simp[atKey,aaU,a]
   rw[cR e,b];exact d
  ·have a:¬ q.1=k:=λz=>e (c.trans z);have b:atKey (q::qs) k=atKey qs k:=by simp[atKey,aaU,a]
   rw[gL e,b];exact ih
theorem KT.repl(r:KT H kvs xs)(k:List Key)(d:RelV y u):
  KT H (kvs.map λb=>if b.1=k then (b.1,y) else b) (xs.map (putAt k u)):=by
 induction r with
 |nil=>exact .nil
 |@cons p q ps qs h t ih=>
  rw[aap,aap];refine .cons ?_ ih;obtain⟨a,c,f⟩:=h;unfold putAt;by_cases e:p.1=k
  ·rw[if_pos e,if_pos (a.symm.trans e)];exact⟨a,c,d⟩
  ·rw[if_neg e,if_neg (λz=>e (a.trans z))];exact⟨a,c,f⟩
theorem KT.put(r:KT H kvs xs)(k:List Key)(c:H b=some (.tup (k.map kV)))(a:RelV y u):
  KT H (putK kvs k y) (storedH xs k b u):=by
 have e:(kvs.any λd=>decide (d.1=k))=(atKey xs k).isSome:=by rw[gM,(r.val k).dw,ab2]
 unfold putK storedH;rw[e];by_cases q:(atKey xs k).isSome=true
 ·rw[if_pos q,if_pos q];exact r.repl k a
 ·rw[if_neg q,if_neg q];exact Paired.snoc r ⟨rfl,c,a⟩
theorem KT.keeps(r:KT H kvs xs)(a:∀b ys,H b=some (.tup ys)->H' b=some (.tup ys)):KT H' kvs xs:=
 Paired.mapP r λ_ _ z=>⟨z.1,a _ _ z.2.1,z.2.2⟩
section
variable{P:Program}{w:World}{H:Hp}{h:Heap}{a:Addr}
theorem yD(b:HOk P w H h)(e:Rd H a u):ObjOk P w H h a u:=e.ok b
theorem gO(b:HOk P w H h)(e:Rd H a (.dK kvs)):kvs.length<=sizeLine/\(a==sysModules)=false/\∃vs,KV kvs vs/\h.DictOf (aI P w) a vs:=
 show ObjOk P w H h a (.dK kvs) from yD b e
theorem yF(b:HOk P w H h)(e:H a=some (.dK kvs)):kvs.length<=sizeLine/\(a==sysModules)=false/\∃vs,KV kvs vs/\h.DictOf (aI P w) a vs:=gO b (.inl e)
theorem fJ(c:HOk P w H h)(e:H a=some (.tup (ks.map kV))):(tupleKind (aI P w)).is h ks a:=by
 obtain⟨_,b,r,o,g,f,n,d⟩:=(show ObjOk P w H h a (.tup (ks.map kV)) from c a _ e)
 exact⟨o,b.toArray,n,g,f,d.1,by simpa using iW r⟩
theorem gP(d:HOk P w H h)(e:Rd H a (.dT kvs)):kvs.length<=sizeLine/\(a==sysModules)=false /\
  ∃xs,KT H kvs xs/\h.DictOfH (tupleKind (aI P w)) a xs:=by
 obtain⟨z,y,xs,r,o,f,s,j,i,g,n,k⟩:=(show ObjOk P w H h a (.dT kvs) from yD d e)
 refine⟨z,y,xs,r,o,f,s,j,i,g,n,λx b=>?_,k⟩;have c:∀{l:List (List Key×V)}{m:List (List Key×Addr×Value)},KT H l m->∀x∈m,(tupleKind (aI P w)).is h x.1 x.2.1:=by
  intro l m q;induction q with
  |nil=>intro x b;exact nomatch b
  |@cons p q ps qs hq t ih=>
   intro x b;rcases aab.mp b with e|b
   ·subst e;exact fJ d (by rw[<-hq.1];exact hq.2.1)
   ·exact ih x b
 exact c r x b
theorem Dz(b:HOk P w H h)(e:H a=some (.dT kvs)):kvs.length<=sizeLine/\(a==sysModules)=false /\
  ∃xs,KT H kvs xs/\h.DictOfH (tupleKind (aI P w)) a xs:=gP b (.inl e)
end
def DGet(H:Hp)(a:Addr)(y:V)(r:Option V):Prop:=
 (∃c k,Rd H a (.dK c)/\y=kV k/\r=valV c k)\/∃c k b,Rd H a (.dT c)/\y=.ref b/\H b=some (.tup (k.map kV))/\r=valV c k
def DPut(H:Hp)(a:Addr)(y v:V)(d:Hp):Prop:=
 (∃c k,H a=some (.dK c)/\y=kV k/\c.length<sizeLine/\d=upd H a (.dK (putK c k v))) \/
 ∃c k b,H a=some (.dT c)/\y=.ref b/\H b=some (.tup (k.map kV))/\c.length<sizeLine/\d=upd H a (.dT (putK c k v))
theorem DGet.k{H:Hp}{a:Addr}{b:List (Key×V)}{k:Key}(e:H a=some (.dK b)):DGet H a (kV k) (valV b k):=.inl ⟨b,k,.inl e,rfl,rfl⟩
theorem DGet.t{H:Hp}{a b:Addr}{c:List (List Key×V)}{k:List Key}(e:H a=some (.dT c))(d:H b=some (.tup (k.map kV))):DGet H a (.ref b) (valV c k):=.inr ⟨c,k,b,.inl e,rfl,d,rfl⟩
theorem DPut.k{H:Hp}{a:Addr}{b:List (Key×V)}{k:Key}{v:V}(e:H a=some (.dK b))(c:b.length<sizeLine):DPut H a (kV k) v (upd H a (.dK (putK b k v))):=.inl ⟨b,k,e,rfl,c,rfl⟩
theorem DPut.t{H:Hp}{a b:Addr}{c:List (List Key×V)}{k:List Key}{v:V}(e:H a=some (.dT c))(d:H b=some (.tup (k.map kV)))(f:c.length<sizeLine):
  DPut H a (.ref b) v (upd H a (.dT (putK c k v))):=.inr ⟨c,k,b,e,rfl,d,f,rfl⟩
section
variable{X:Cx}{pins:List (Addr×Obj)}{σ:St}{H:Hp}{s:Shared}{a:Addr}{y v:V}{u r:Value}{o:Option V}{A:Around}{E:Value->Shared->Prop}
theorem Inv.big(I:Inv X pins σ H s):sysModules<s.heap.objs.size:=by have h:mainGlobals<s.heap.objs.size:=(I.mod.glob.keeps I.bk).lt;exact abH (by decide) h
theorem qe(G:A.units+1<cLine)(I:Inv X pins σ H s)(g:DGet H a y (some v))(t:RelV y u)(h:∀f x,Inv X pins σ H x->RelV v f->Q f x):
  wpAny (model X.prog X.w) A (getItem (.ref a) u) Q E s:=by
 rcases g with ⟨n,k,e,m,l⟩|⟨n,k,b,e,m,B,l⟩
 ·subst m;obtain⟨z,C,J,d,i⟩:=gO I.hok e;obtain⟨f,j,c⟩:=RelO.some_of (by rw[l];exact d.val k);exact wpAny_getItem_of (gN t) i.mapOf j (h f _ (I.tok _) c)
 ·subst m;cases (show u=Value.ref b from t);obtain⟨z,C,L,d,i⟩:=gP I.hok e;obtain⟨f,j,c⟩:=RelO.some_of (by rw[l];exact d.val k);obtain⟨p,D,q⟩:=aaM.mp j;refine wpAny_getItem_heap (tupleKind_room_in1 G) (fJ I.hok B) i D ?_;rw[q];exact h f _ (I.tok _) c
theorem GN(t:A.units+1<cLine)(I:Inv X pins σ H s)(g:DGet H a y o)(m:RelV y u)(h:∀n,Inv X pins σ H n->Q (.bool o.isSome) n):
  wpAny (model X.prog X.w) A (compareOp .In u (.ref a)) Q E s:=by
 rcases g with ⟨i,k,e,f,l⟩|⟨i,k,b,e,f,p,l⟩
 ·subst f;obtain⟨z,j,x,c,d⟩:=gO I.hok e;refine wpAny_in_of (gN m) j d.mapOf ?_;rw[<-(c.val k).dw,<-l];exact h _ (I.tok _)
 ·subst f;cases (show u=Value.ref b from m);obtain⟨z,j,B,c,d⟩:=gP I.hok e;refine wpAny_in_heap (tupleKind_room_in1 t) (fJ I.hok p) j d ?_;have q:=(c.val k).dw;rw[ab2]at q;rw[<-q,<-l];exact h _ (I.tok _)
theorem wc(t:A.units+1<cLine)(I:Inv X pins σ H s)(g:DGet H a y o)(m:RelV y u)(h:∀n,Inv X pins σ H n->Q (.bool (!o.isSome)) n):
  wpAny (model X.prog X.w) A (compareOp .NotIn u (.ref a)) Q E s:=by
 rcases g with ⟨i,k,e,f,l⟩|⟨i,k,b,e,f,p,l⟩
 ·subst f;obtain⟨z,j,x,c,d⟩:=gO I.hok e;refine wpAny_notIn_of (gN m) j d.mapOf ?_;rw[<-(c.val k).dw,<-l];exact h _ (I.tok _)
 ·subst f;cases (show u=Value.ref b from m);obtain⟨z,j,B,c,d⟩:=gP I.hok e;refine wpAny_notIn_heap (tupleKind_room_in1 t) (fJ I.hok p) j d ?_;have q:=(c.val k).dw;rw[ab2]at q;rw[<-q,<-l];exact h _ (I.tok _)
theorem jv{t':Nat}(I:Inv X pins σ H s)(f:CT (H a))(g:Heap.SameBut a s.heap h')(d:∃q,h'.get? a=some q)(c:ObjOk X.prog X.w (upd H a ob) h' a ob):
  Inv X pins σ (upd H a ob) { s with heap:=h',toks:=t' }:=
 I.write f (.inl rfl) (λb q e z=>(g.2 b e).trans z) d c
theorem sm(z:kvs.length<=sizeLine)(c:(a==sysModules)=false)(b:KV kvs vs)(dd:h'.DictOf (aI P w) a vs):
  ObjOk P w H' h' a (.dK kvs):=⟨z,c,vs,b,dd⟩
theorem qf(Z:A.units+1<cLine)(I:Inv X pins σ H s)(g:DPut H a y v H')(G:RelV y u)(L:RelV v r)(h:∀M,Inv X pins σ H' M->Q () M):
  wpAny (model X.prog X.w) A (setItem (.ref a) u r) Q E s:=by
 rcases g with ⟨d,k,e,t,l,n⟩|⟨d,k,b,e,t,C,l,n⟩
 ·subst t n;obtain⟨z,x,vs,f,m⟩:=yF I.hok e;have T:vs.length<=sizeLine:=by rw[<-f.length];exact z
  have p:(putK d k v).length<=sizeLine:=by have:=cS d k v;omega
  refine wpAny_setItem_pairs (gN G) m λJ i B=>h _ ?_;have U:∃q,J.get? a=some q:=let ⟨q,_,_,j,_⟩:=i;⟨q,j⟩
  exact jv I (by rw[e];exact True.intro) B U (sm p x (f.put k L) i)
 ·subst t n;cases (show u=Value.ref b from G);obtain⟨z,x,xs,f,m⟩:=Dz I.hok e;have T:xs.length<=sizeLine:=by rw[<-Paired.length f];exact z
  have p:(putK d k v).length<=sizeLine:=by have:=cS d k v;omega
  refine wpAny_setItem_heap (tupleKind_room_in1 Z) (fJ I.hok C) m λJ i B=>h _ ?_;obtain⟨q,N,ep,j,S,O,h4,_,Y⟩:=i;refine jv I (by rw[e];exact True.intro) B ⟨q,j⟩ ⟨p,x,_,(f.put k C L).keeps λc ys D=>?_,q,N,ep,j,S,O,h4,Y⟩;rw[upd_ne (CS D e (λz=>nomatch z))];exact D
end
def NoSl(i:Expr):Prop:=∀a b,subscripted i false a b=operate [a,b] (getItem a b)
theorem subD_of{T k:String}
  (m:typeLookup (.type T) "__getitem__"=pure (some (.builtin k))) (l:NoSl slice)
  (h:wpAny (model prog w) A (eval value env) (λo d=>wpAny (model prog w) A (eval slice env) (λi a=>a.TypeIs o T/\wpAny (model prog w) A (getItem o i) Q E a) E d) E s):
  wpAny (model prog w) A (eval (.Subscript value slice pos) env) Q E s:=by
 refine Subscript_ (wpAny_mono h (λo d g=>wpAny_mono g (λi a b=>?_) λ_ _ x=>x) λ_ _ x=>x);obtain⟨j,b⟩:=b;unfold subscriptTail;refine wpAny_bind ?_;rw[getitemInPython_of_ne j.not_modules];refine wpAny_bind (wpAny_specialOf j m ?_);have e:wpAny (model prog w) A (subscripted slice false o i) (λr c=>wpAny (model prog w) A (letTemporaryGo value o r >>= λ_=>pure r) Q E c) E a:=by rw[l o i];exact wpAny_operating (wpAny_mono b (λr c f=>wpAny_bind (wpAny_letTemporaryGo (wpAny_pure f))) λ_ _ x=>x)
 first
  |exact wpAny_pure (wpAny_bind e)
  |exact wpAny_bind (wpAny_pure (wpAny_bind e))
  |exact wpAny_bind e
theorem kD(I:Inv X pins σ H s)(g:DGet H a y o):s.TypeIs (.ref a) "dict":=by
 rcases g with ⟨d,k,e,_,_⟩|⟨d,k,b,e,_,_,_⟩
 ·obtain⟨_,_,f,_,c⟩:=gO I.hok e;exact c.typeIs
 ·obtain⟨_,_,h,_,c⟩:=gP I.hok e;exact c.typeIs
def DB(f e:TE):TE:=λc H Q=>f c H λx d=>e c d λy b=>∃a v,x=.ref a/\DGet b a y (some v)/\Q v b
def DD(e f:TE):TE:=λc H Q=>e c H λy d=>f c d λx b=>∃a o,x=.ref a/\DGet b a y o/\Q (.bl o.isSome) b
def nz(e f:TE):TE:=λc H Q=>e c H λy d=>f c d λx b=>∃a o,x=.ref a/\DGet b a y o/\Q (.bl (!o.isSome)) b
def DF(i e h:TE):TS:=λD b H=>h b H λv d=>i b d λx f=>e b f λy g=>∃a c,x=.ref a/\DPut g a y v c/\D.nx b c
def Iz(k f j:TE)(g:V->V->Hp->VK->Prop):TS:=λD b H=>k b H λx e=>f b e λy d=>∃a v,x=.ref a/\DGet d a y (some v) /\
 j b d λh i=>g v h i λz l=>∃c,DPut l a y z c/\D.nx b c
def IA(g f:TE):TS:=λD c H=>g c H λx e=>f c e λy d=>∃a b k,x=.ref a/\d a=some (.dK b)/\y=kV k/\(valV b k).isSome=true/\D.nx c (upd d a (.dK (kC b k)))
section
variable{X:Cx}{o i e value:Expr}{pos pos' tpos:Pos}{td ty tv:TE}
theorem we(C:X.A.units+1<cLine)(l:PE X o td)(t:PE X i ty)(q:NoSl i):PE X (.Subscript o i pos) (DB td ty):=by intro b s f H Q I h;refine subD_of PySem.F.slot_dict_getitem.lookup q (thn (l b s f H _ I h) λu G ⟨x,m,k,p,j⟩=>thn (t b G f m _ k j) λJ N r=>?_);obtain⟨y,D,d,n,a,v,z,g,B⟩:=r;subst z;obtain rfl:u=Value.ref a:=p;exact⟨kD d g,qe C d g n λL M w c=>⟨v,D,w,c,B⟩⟩
theorem so(z:X.A.units+1<cLine)(r:PE X i ty)(j:PE X o td):PC X .In i o (DD ty td):=by
 intro b s c H Q I h;refine thn (r b s c H _ I h) λD C ⟨y,k,f,l,d⟩=>thn (j b C c k _ f d) λu J q=>?_;obtain⟨x,B,m,p,a,n,v,g,w⟩:=q;subst v;obtain rfl:u=Value.ref a:=p;exact GN z m g l λG t=>⟨.bl n.isSome,B,t,rfl,w⟩
theorem iX(z:X.A.units+1<cLine)(r:PE X i ty)(j:PE X o td):PC X .NotIn i o (nz ty td):=by
 intro b s c H Q I h;refine thn (r b s c H _ I h) λD C ⟨y,k,f,l,d⟩=>thn (j b C c k _ f d) λu J q=>?_;obtain⟨x,B,m,p,a,n,v,g,w⟩:=q;subst v;obtain rfl:u=Value.ref a:=p;exact wc z m g l λG t=>⟨.bl (!n.isSome),B,t,rfl,w⟩
theorem wg(L:X.A.units+1<cLine)(j:PE X o td)(z:PE X i ty)(k:PE X value tv)(q:swapsWith value (some (.Subscript o i pos')) pos.line X.env=pure false):
  PS X (.Assign [.Subscript o i pos'] value pos) (DF td ty tv):=by
 intro b s c H D I h;refine wpAny_Assign_Subscript (thn (k b s c H _ I h) λr Q ⟨v,l,f,N,d⟩=>thn (j b Q c l _ f d) λu t ⟨x,O,n,p,J⟩=>thn (z b t c O _ n J) λT Y w=>?_) q;obtain⟨y,Z,B,m,a,C,G,g,M⟩:=w;subst G;obtain rfl:u=Value.ref a:=p;exact qf L B g m N λU S=>⟨c,C,S,M⟩
end
theorem sq(h:Heap)(a:sysModules<h.objs.size):ObjOk P w H (h.push { cls:=.type "dict",data:=.dict #[] }) h.objs.size (.dK []):=
 ⟨aaB _,beq_eq_false_iff_ne.mpr (aaN (aas a)),[],.nil,Heap.DictOf.new h⟩
def GO:TE:=λ_ H Q=>∀p,H p=none->Q (.ref p) (upd H p (.dK []))
def GP:TE:=λ_ H Q=>∀p,H p=none->Q (.ref p) (upd H p (.dT []))
def l5:List (TE×TE)->St->Hp->(List (V×V)->Hp->Prop)->Prop
 |[],_,H,Q=>Q [] H
 | (tk,tv)::r,σ,H,Q=>tk σ H λx a=>tv σ a λy b=>l5 r σ b λps c=>Q ((x,y)::ps) c
abbrev VV:List (V×V)->List (Value×Value)->Prop:=Paired λp q=>RelV p.1 q.1/\RelV p.2 q.2
def Kx(X:Cx)(f:Pos)(c:List (Option Expr))(a:List Expr)(d:List (TE×TE)):Prop:=
 ∀(b:List (Addr×Obj)) (s:Shared) (e:St) (H:Hp) (Q:List (V×V)->Hp->Prop),Inv X b e H s->l5 d e H Q ->
  wpAny (model X.prog X.w) X.A (evalPairs (pairTrees c a X.env f)) (λj i=>∃h g,Inv X b e g i/\VV h j/\Q h g) X.xe s
def Ay(b a:List (Key×V)):List (Key×V):=a.foldl (λc d=>putK c d.1 d.2) b
def IB(b:List (TE×TE)):TE:=λe H Q=>∀p,H p=none->l5 b e (upd H p (.dK [])) λf c=>c p=some (.dK [])/\∃a:List (Key×V),f=a.map (λd=>(kV d.1,d.2))/\a.length<=15/\Q (.ref p) (upd c p (.dK (Ay [] a)))
structure M1 (X:Cx)(o:Expr)(m:Str)(apos:Pos)(e:Expr)(cpos:Pos):Prop where
 base:attributeBase o m X.env (eval o X.env)=eval o X.env
 few:((backTo cpos (starEach [e] X.env)).all (λx=>!x.1)&&(backToKw cpos (keywordEach [] X.env)).all (λx=>x.1.isSome)
  && decide (([e]:List Expr).length+([]:List Keyword).length+(if ([]:List Keyword).isEmpty then 0 else 1)<30))=true
 line:(apos.endLine==cpos.line)=true
 trees:backTo cpos (starEach [e] X.env)=[(false,eval e X.env)]
structure M2 (X:Cx)(o:Expr)(m:Str)(apos:Pos)(e f:Expr)(cpos:Pos):Prop where
 base:attributeBase o m X.env (eval o X.env)=eval o X.env
 few:((backTo cpos (starEach [e,f] X.env)).all (λx=>!x.1)&&(backToKw cpos (keywordEach [] X.env)).all (λx=>x.1.isSome)
  && decide (([e,f]:List Expr).length+([]:List Keyword).length+(if ([]:List Keyword).isEmpty then 0 else 1)<30))=true
 line:(apos.endLine==cpos.line)=true
 trees:backTo cpos (starEach [e,f] X.env)=[(false,eval e X.env),(false,eval f X.env)]
def DH(H:Hp)(a:Addr):Prop:=(∃b,Rd H a (.dK b))\/∃b,Rd H a (.dT b)
theorem Az(I:Inv X pins σ H s)(d:DH H a):
  s.TypeIs (.ref a) "dict"/\(∀b,Value.ref a=.ref b->∃c,s.heap.get? b=some c/\c.dict=none)/\(a==sysModules)=false:=by
 rcases d with ⟨g,e⟩|⟨g,e⟩
 ·obtain⟨_,i,k,_,f⟩:=gO I.hok e;refine⟨f.typeIs,λb q=>?_,i⟩;cases q;obtain⟨c,_,_,j,h,_⟩:=f;exact⟨c,j,h.2.1⟩
 ·obtain⟨_,i,l,_,f⟩:=gP I.hok e;refine⟨f.typeIs,λb q=>?_,i⟩;cases q;obtain⟨c,_,_,j,h,_⟩:=f;exact⟨c,j,h.2.1⟩
section
variable{X:Cx}{pins:List (Addr×Obj)}{σ:St}{H:Hp}{s:Shared}{a:Addr}{y d:V}{u r:Value}{o:Option V}{A:Around}{E:Value->Shared->Prop}
theorem AA(v:A.units+1<cLine)(I:Inv X pins σ H s)(g:DGet H a y o)(p:RelV y u)(h:∀n q,Inv X pins σ H q->RelV (o.getD .non) n->Q n q):
  wpAny (model X.prog X.w) A (call (.builtin "dict.get") [.ref a,u]) Q E s:=by
 rcases g with ⟨j,k,e,i,l⟩|⟨j,k,b,e,i,t,l⟩
 ·subst i;obtain⟨z,m,B,c,f⟩:=gO I.hok e;refine call_meetsIn ab3 f.typeIs aco (acp _ _) (meets_dict_get (aI X.prog X.w) a (gN p) m) ⟨_,f.mapOf,h _ _ (I.tok _) ?_⟩;rw[l];exact(c.val k).getD rfl
 ·subst i;cases (show u=Value.ref b from p);obtain⟨z,m,x,c,f⟩:=gP I.hok e;refine call_meetsIn ab3 f.typeIs aco (acp _ _) (meetsH_dict_get (tupleKind (aI X.prog X.w)) a b m) ⟨tupleKind_room_in1 v,k,x,fJ I.hok t,f,h _ _ (I.tok _) ?_⟩;rw[l];exact(c.val k).getD rfl
end
def AB(f e:TE):TE:=λd H Q=>f d H λx b=>∃a,x=.ref a/\DH b a/\e d b λy c=>∃o,DGet c a y o/\Q (o.getD .non) c
def GQ(g e h:TE):TE:=λb H Q=>g b H λx c=>∃a,x=.ref a/\DH c a/\e b c λy f=>h b f λz d=>∃o,DGet d a y o/\Q (o.getD z) d
def GR(g f:TE):TE:=λe H Q=>g e H λx c=>∃a,x=.ref a/\DH c a/\f e c λy d=>∃b k v,d a=some (.dK b)/\y=kV k/\valV b k=some v/\Q v (upd d a (.dK (kC b k)))
def GS(h f i:TE):TE:=λd H Q=>h d H λx e=>∃a,x=.ref a/\DH e a/\f d e λy g=>i d g λz c=>∃b k,c a=some (.dK b)/\y=kV k /\
 (∀v,valV b k=some v->Q v (upd c a (.dK (kC b k))))/\(valV b k=none->Q z c)
section
variable{X:Cx}{o e f:Expr}{apos cpos:Pos}{td ty tx:TE}
theorem sr(G:X.A.units+1<cLine) (n:PE X o td) (q:PE X e ty) (m:M1 X o "get" apos e cpos):PE X (.Call (.Attribute o "get" apos) [e] [] cpos) (AB td ty):=by
 intro b s j H Q I h;refine wpAny_Call_method m.base m.few m.line PySem.F.plainAttrs_dict ab3 PySem.F.type_dict_get (thn (n b s j H _ I h) λu L w=>?_);obtain⟨x,p,i,v,a,B,d,l⟩:=w;subst B;obtain rfl:u=Value.ref a:=v;obtain⟨k,C,_⟩:=Az i d;refine⟨k,C,?_⟩;rw[m.trees];refine Calls.callWith_builtin rfl (Calls.evalArgs_plain (Calls.spliced_cons (thn (q b L j p _ i l) λM T ⟨y,J,t,r,O,g,D⟩=>Calls.spliced_nil ?_)));exact AA G t g r λN S z c=>⟨_,J,z,c,D⟩
end
end
end L2
namespace L2
open PySem PySem.Spec PyProof.Rows
section
def FZ(K:Waa)(l:Addr):It:=
 ⟨λi H=>∃a x,SqL K H l a/\a[i]?=some x,
  λi H v b=>∃T x,(∀a,SqL K H l a->a[i]?=some x)/\H T=none/\v=.ref T/\b=upd H T (.tup [.int i,x]),
  λi H=>∃a,SqL K H l a/\a.length<=i⟩
theorem qg{P:Program}{w:World}{K:Waa}{es:List Expr}{x1}{a0:Pos}(l e A:Addr)(J:e≠A):
  Turn P w K (.Tuple es x1 a0) (FZ K l) [e,A] e (λi h=>(∃g,IsEnum h e A (i:Int) g)/\h.IsListIter A l i) where
 mem:=by simp
 obj:=λi h ⟨⟨g,y⟩,B⟩ c a=>by
  simp only[aab,aar,or_false]at a;rcases a with rfl|rfl
  ·exact⟨_,y,λv z=>by cases z⟩
  ·obtain⟨o,e,c,d⟩:=B;exact⟨o,e,λv z=>by rw[d]at z;cases z⟩
 keep:=λi h Y ⟨⟨g,y⟩,B⟩ k=>⟨⟨g,k e (by simp) _ y⟩,B.at λo e=>k A (by simp) o e⟩
 item:=by
  intro X hP S hK a i t s σ H E I C ⟨⟨g,y⟩,B⟩ T;subst hP S hK;obtain⟨xs,x,O,Z⟩:=T;obtain⟨a2,rv,p,hz⟩:=I.list O;obtain⟨u,hu,ru⟩:=rv.get Z;have le:e<s.heap.objs.size:=Heap.lt_size y;have li:A<s.heap.objs.size:=by obtain⟨o,e',_⟩:=id B;exact Heap.lt_size e'
  refine wpAny_pyNext_enum_item y B p.isList (x:=u) (by simpa using hu) J λY a1 G hT a3 hk=>?_;refine⟨.ref s.heap.objs.size,rfl,?_⟩;refine wpAny_letOwnedTupleGo_enum a1 λj M f=>?_;have f:Heap.SameBut e Y j:=f;have L:∀c o,c ∉ ([e,A]:List Addr)->s.heap.get? c=some o->j.get? c=some o:=λc o a q=>by simp only[aab,aar,or_false,not_or]at a;exact f.extBut _ _ a.1 (hk c o a.1 a.2 q)
  have D:H s.heap.objs.size=none:=I.hok.fresh (aag _);have I1:Inv X t σ H { s with heap:=j,toks:=s.toks+1 }:=I.h7 L C;have N:IsPair j s.heap.objs.size (.int i s.toks) u:=f.extBut _ _ (aa7 le) hT;have I2:Inv X t σ (upd H s.heap.objs.size (.tup [.int i,x])) { s with heap:=j,toks:=s.toks+1 }:=by
   refine I.step (g':=s.gens) (d':=s.drawn) (ch:=[e,A]) (λb Q=>?_) (λb o _ _ a e _=>L b o a e) (λb o _ _ a e _=>⟨o.slots,L b o a e⟩) (λb o a e n=>?_)
    (λb o a e=>⟨o,L b o a e⟩) (λb ys e=>?_) (λb o u e=>?_) (λb ps e=>⟨#[],?_⟩) (λm hm=>?_) (λb o e=>?_) I.bare
   ·obtain⟨f0,f1,f2,f3,f4,f5⟩:=C b Q;exact⟨f3,f1,f4,f5⟩
   ·rw[upd_ne (aas (Heap.lt_size e))];exact n
   ·rw[upd_ne (aq e D)];exact e
   ·rw[upd_ne (aq e D)];exact e
   ·rw[upd_ne (aq e D),e];simp
   ·obtain⟨o,U,ep,ho,r⟩:=hm;exact⟨o,U,ep,L _ o (λz=>(C _ z).2.1 rfl) ho,r⟩
   ·by_cases Q:b=s.heap.objs.size
    ·subst Q;rw[aN]at e;cases e;exact⟨(by show 2<=sizeLine;decide),[.int i s.toks,u],.cons ⟨_,rfl⟩ (.cons ru .nil),⟨_,N,rfl,_,rfl,rfl⟩⟩
    ·rw[upd_ne Q]at e;refine(I1.hok b o e).kv (λc v a q=>q) (λc q=>by rw[upd_ne (aq q D)];exact q) λc ys q=>by rw[upd_ne (aq q D)];exact q
  refine⟨.ref s.heap.objs.size,_,I2,rfl,⟨_,x,λys hy=>by rw[I.ro hy O];exact Z,D,rfl,rfl⟩,⟨⟨u,by simpa using M⟩,G.at λo q=>f.extBut _ _ (aaN J) q⟩,λc a=>?_⟩;simp only[aab,aar,or_false]at a;rcases a with rfl|rfl
  ·rw[upd_ne (aas le)];exact(C _ (by simp)).1
  ·rw[upd_ne (aas li)];exact(C _ (by simp)).1
 done:=by
  intro X hP S hK a i t s σ H E I C ⟨⟨g,y⟩,B⟩ T;subst hP S hK;obtain⟨xs,O,Z⟩:=T;obtain⟨a2,rv,p,hz⟩:=I.list O;have hl:=rv.length;refine wpAny_pyNext_enum_end (I.ok.hd a) y B p.isList (by simp;omega) λY eb=>⟨rfl,I.h7 (t':=s.toks) (λc o a q=>?_) C⟩
  simp only[aab,aar,or_false,not_or]at a;exact eb c o a.2 q
 self:=λ_ _ _ _ _ ⟨⟨g,y⟩,_⟩ h=>wpAny_pyIter_enum y h
theorem qh:bootBuiltins "enumerate"=some (.type "enumerate"):=by decide +kernel
section
variable{X:Cx}
def DJ(K:Waa)(e:TA):TI:=λc H R=>e c H λb a=>∃l d,b=[.ref l]/\SqL K a l d/\R (FZ K l) a
theorem wk{es:List Expr}{J}{g:Pos}{a:Expr}{p f:Pos} (x:Gl X "enumerate") (z:X.mg "enumerate"=none) (y:PA X [a] ta) (C:starEach [a] X.env=[(false,eval a X.env)]:=by rfl):
  PI X (.Tuple es J g) (.Call (.Name "enumerate" p) [a] [] f) (DJ X.K ta):=by
 intro c s o H R I h;refine Call_ (eh I x z qh (abh (thn (y f c s o H _ I h) λY d G=>?_) C rfl));obtain⟨T,m,j,B,w⟩:=G;obtain⟨l,U,e,u,q⟩:=w;subst e;cases B with
 |cons r v=>
  cases v;cases r;obtain⟨M,S,A,Q⟩:=j.list u;refine call_enumerate_list A.isList λD n k O N=>?_;refine wpAny_pyIter_enum n ?_;have L:Inv X c o m { d with heap:=D }:=j.kept N;refine⟨d.heap.objs.size+1,[d.heap.objs.size+1,d.heap.objs.size],_,_,m,rfl,L,qg l _ _ (by show (_:Nat)≠_;omega),⟨⟨_,n⟩,k⟩,λb t=>?_,q⟩;have i:d.heap.objs.size<=b:=by
   simp only[aab,aar,or_false]at t;rcases t with rfl|rfl
   ·show d.heap.objs.size<=d.heap.objs.size+1;omega
   ·exact aag _
  exact j.qd i (j.hok.fresh i)
end
end
section
section
variable{X:Cx}
def rInsert:V->List V->Hp->VK->Prop:=λx b H Q=>∃l a k y,x=.ref l/\b=[.int k,y]/\H l=some (.lst a)/\0<=k/\k<=a.length/\a.length<100000/\Q .non (upd H l (.lst (a.take k.toNat++y::a.drop k.toNat)))
theorem qi:Iu X "list.insert" rInsert:=by
 intro d s A H x C v G Q I f i h;obtain⟨l,D,k,y,rfl,rfl,c,B,t,p,q⟩:=h;cases f;obtain⟨w,u,rfl,⟨g,rfl⟩,j⟩:=i.two;obtain⟨z,a,n,r,o,e⟩:=I.vl c;have b:=r.length;have m:100000<=sizeLine:=by decide
 refine call_meets F.slot_list_insert ⟨_,e,rfl⟩ F.entry_list_insert (F.args_list_insert_3 _ _ _) (AutoListH.list_insert_list_int_val_1 l a.toArray n k g u (by unfold Builtin.List.listFitsIndex;simp;omega) (by rw[aaw];omega)) ⟨e,?_⟩;refine⟨.non,_,I.lset c e ?_ ((r.take _).append (.cons j (r.drop _))) ?_,rfl,q⟩
 ·show (a.toArray.extract 0 (if k<0 then (k+(a.toArray.size:Int)).toNat else min k.toNat a.toArray.size)).push u++a.toArray.extract (if k<0 then (k+(a.toArray.size:Int)).toNat else min k.toNat a.toArray.size)=_;rw[if_neg (by omega),aaw,abJ (by omega)];apply Array.ext';simp[List.extract_eq_drop_take];exact ab4 (by rw[abu];exact aag _)
 ·rw[aaf,aao,aaW,abu];omega
end
end
section
def GT(lo c:Int)(n:Nat):It:=⟨λi _=>i<n,λi H x a=>a=H/\x=.int (lo+i*c),λi _=>n<=i⟩
theorem qj{K:Waa}(d:Addr)(lo c:Int)(n:Nat):Turn P w K tg (GT lo c n) [d] d (λi h=>IsRangeIter h d (lo+(i:Nat)*c) ((n:Int)-(i:Nat)) c) where
 mem:=by simp
 obj:=λi h a b g=>by
  have e:b=d:=by simpa using g
  subst e;exact⟨_,a,λv z=>by
   have N:Data.fields _=Data.cell v:=z;cases N⟩
 keep:=λi h y a k=>k d (by simp) _ a
 item:=by intro X x q B A i f s G H E I l a m;subst x q B;obtain⟨C,r,S,D,p,u⟩:=l d (by simp);have W:=Walks.range (prog:=X.prog) (w:=X.w) (I.ok.hd A) d lo c n;refine W.item i s _ _ m a λv y Q M j O=>?_;obtain⟨t,rfl⟩:=M;have L:Inv X f G H { s with heap:=y,toks:=Q }:=I.turned (λb o g e=>O b o (by simpa using g) e) C r D p u;exact⟨_,rfl,ni j rfl rfl (by decide) ⟨.int (lo+i*c),H,L,⟨t,rfl⟩,⟨rfl,rfl⟩,j,λb g=>(l b g).1⟩⟩
 done:=by
  intro X x q B A i f s G H E I l a m;subst x q B;obtain⟨C,r,S,D,p,u⟩:=l d (by simp);exact wpAny_pyNext_range_end (I.ok.hd A) a (by have:n<=i:=m;omega) λy J=>⟨rfl,I.turned (λb o g e=>J b o g e) C r D p u⟩
 self:=λ_ _ _ _ _ a h=>wpAny_pyIter_rangeiter a h
section
variable{X:Cx}{tg:Expr}
def DL(e:TA):TI:=λd H R=>e d H λb a=>∃(i j c:Int) (n:Nat),b=[.int i,.int j,.int c]/\(-1000000<=i/\i<=1000000/\-1000000<=j/\j<=1000000/\0<c/\c<=1000)/\Builtin.Range.rangeSize i j c=(n:Int)/\R (GT i c n) a
theorem l6(h:-1000000<=a)(j:a<=1000000)(g:-1000000<=b)(f:b<=1000000)(h5:0<c)(e:c<=1000):Builtin.Range.small a b c=true:=by
 have d:0<=(if a<b then (b-a-1)/c+1 else 0)/\(if a<b then (b-a-1)/c+1 else 0)<=3000000:=by
  split
  ·have i:0<=(b-a-1)/c:=Int.ediv_nonneg (by omega) (by omega);have k:(b-a-1)/c<=b-a-1:=Int.ediv_le_self _ (by omega);omega
  ·omega
 have l:(if a<b then (b-a-1)/c+1 else 0)*c<=3000000000/\0<=(if a<b then (b-a-1)/c+1 else 0)*c:=by generalize (if a<b then (b-a-1)/c+1 else 0)=n at *;exact⟨ab5 (Int.mul_le_mul d.2 e (by omega) (by omega)) (by decide),Int.mul_nonneg d.1 (by omega)⟩
 unfold Builtin.Range.small;unfold Builtin.Range.rangeSize;rw[if_pos h5];generalize (if a<b then (b-a-1)/c+1 else 0)=n at *;simp only[Builtin.Range.rangeFitsLong,aaC,abp,decide_eq_true_eq,beq_iff_eq,if_pos h5];omega
theorem qk{p u:Pos} (G:Gl X "range") (Q:X.mg "range"=none) (N:PA X [a,b,c] ta) (U:starEach [a,b,c] X.env=[(false,eval a X.env),(false,eval b X.env),(false,eval c X.env)]:=by rfl)
  (v:starEach [b,c] X.env=[(false,eval b X.env),(false,eval c X.env)]:=by rfl):
  PI X tg (.Call (.Name "range" p) [a,b,c] [] u) (DL ta):=by
 intro f s z H R I h;refine Call_ (eh I G Q boot_range (abh (thn (N u f s z H _ I h) λus l ⟨vs,y,C,S,D⟩=>?_) (by rw[U,v]) (by rw[v];rfl)));obtain⟨i,j,k,n,e,⟨Z,J,b3,A,T,L⟩,Y,q⟩:=D;subst e;cases S with
 |cons r m=>
  cases m with
  |cons B m=>
   cases m with
   |cons x m=>
    cases m;obtain⟨t,rfl⟩:=r;obtain⟨w,rfl⟩:=B;obtain⟨d,rfl⟩:=x;refine call_range_3 (by omega) ?_ (Or.inl (ack (by omega)));refine wpAny_pyIter_range (IsRange.new ..) (l6 Z J b3 A T L) ?_;have g:Inv X f z y { l with heap:=l.heap.push { cls:=.type "range",data:=.fields #[.int i t,.int j w,.int k d] },toks:=l.toks }:=C.kept λb o e=>Heap.get?_push_of_some _ e;refine⟨(l.heap.push { cls:=.type "range",data:=.fields #[.int i t,.int j w,.int k d] }).objs.size,[(l.heap.push { cls:=.type "range",data:=.fields #[.int i t,.int j w,.int k d] }).objs.size],_,_,y,rfl,
     g.kept λb o e=>Heap.get?_push_of_some _ e,qj _ i k n,?_,λb hb=>?_,q⟩
    ·have O:i+((0:Nat):Int)*k=i:=by simp
     have M:(n:Int)-((0:Nat):Int)=Builtin.Range.rangeSize i j k:=by rw[Y];simp
     show IsRangeIter _ _ (i+((0:Nat):Int)*k) ((n:Int)-((0:Nat):Int)) k;rw[O,M];exact Heap.get?_push_size _ rfl
    ·have e:b=(l.heap.push { cls:=.type "range",data:=.fields #[.int i t,.int j w,.int k d] }).objs.size:=by simpa using hb
     subst e;exact g.qd (aag _) (g.hok.fresh (aag _))
end
end
section
def yG(w:World)(e:DictEntry)(a:Str×Str):Prop:=e.hash=hashStr w a.1/\(∃t,e.key=.str a.1 t)/\∃t,e.val=.str a.2 t
def KDict(K:Waa)(w:World)(c:Addr)(a:List (Str×Str)):Prop:=
 ∃o b d,K.lookup c=some o/\o.ExactDict/\o.data=.dict b d/\Paired (yG w) b.toList a/\(a.map (·.1)).Nodup/\(c==sysModules)=false
def keysOf(a:List (Str×Str)):List (Key×V):=a.map λb=>(.inr b.1,.str b.2)
theorem ql{c:List (Str×Str)}(h:(c.map (·.1)).Nodup):(c.map λd=>(.inr d.1:Key)).Nodup:=by unfold List.Nodup at *;rw[List.pairwise_map]at *;exact h.imp λ{a b} q z=>q (Sum.inr.inj z)
theorem KDict.dict{K:Waa}(D:KDict K w c kvs)(X:K.In h):∃vs,KV (keysOf kvs) vs/\h.DictOf (aI P w) c vs:=by
 obtain⟨o,q,H,y,u,z,B,C,_⟩:=D;have d:∀{l:List DictEntry}{m:List (Str×Str)},Paired (yG w) l m->∃vs:List (Key×Value),KV (keysOf m) vs/\Pairs (aI P w) l vs/\vs.map (·.1)=m.map (λb=>(.inr b.1:Key))/\∀e∈l,∃k,(aI P w).is k e.key=true/\e.hash=(aI P w).hash k:=by
  intro l m r;induction r with
  |nil=>exact⟨[],.nil,.nil,rfl,λe a=>by cases a⟩
  |@cons e b l m h t ih=>
   obtain⟨vs,g,i,j,f⟩:=ih;obtain⟨A,⟨v,x⟩,⟨n,s⟩⟩:=h;have p:(aI P w).is (.inr b.1) e.key=true:=by rw[x];exact mixKind_str P w b.1 v
   refine⟨(.inr b.1,.str b.2 n)::vs,.cons ⟨rfl,⟨n,rfl⟩⟩ g,.cons p s i,by rw[aap,aap,j],λG a=>?_⟩;rcases aab.mp a with rfl|a
   ·exact⟨_,p,A⟩
   ·exact f G a
 obtain⟨vs,g,i,j,f⟩:=d B;refine⟨vs,g,o,q,H,X _ _ y,u,z,λe a=>f e (by simpa using a),i,?_⟩;rw[j];exact ql C
section
variable{X:Cx}{o i e:Expr}{pos:Pos}{ti:TE}{c:Addr}{kvs:List (Str×Str)}
def IC(kvs:List (Str×Str))(ti:TE):TE:=λb H Q=>ti b H λy a=>∃k v,y=.str k/\kvs.lookup k=some v/\Q (.str v) a
def JS(kvs:List (Str×Str))(ti:TE):TE:=λb H Q=>ti b H λy a=>∃k,y=.str k/\Q (.bl (kvs.lookup k).isSome) a
def ID(kvs:List (Str×Str))(ti:TE):TE:=λb H Q=>ti b H λy a=>∃k,y=.str k/\Q (.bl (!(kvs.lookup k).isSome)) a
def Fit(d:PyData)(n:Nat):Prop:=d.showable=true/\d.hasDict=false/\d.shown.length<=n
def IE(K:Waa):List V->Hp->VK->Prop:=λb H Q=>∃a d n,b=[.ref a]/\Dt K H (.ref a) d/\Fit d n/\n<=sizeLine/\d.depth<=40/\Q (.str d.shown) H
set_option exponentiation.threshold 2000 in
theorem Fit.le(h:Fit d n)(a:n<=m):Fit d m:=⟨h.1,h.2.1,aat h.2.2 a⟩
def GU(K:Waa)(n:Nat)(t:TGs):TG:=λv d H Q=>∃a b,v=.ref a/\SqL K H a b/\b.length=n/\t b d H Q
theorem AD{k:Nat}(L:X.calm=true)(h:CL X es t)
  (M:(assignEach es X.env).length=n:=by rfl) (j:(assignEach es X.env).findIdx? (·.1)=none:=by rfl):PG X (.Tuple es k pos) (GU X.K n t):=by
 intro d s l H v u Q I r g;obtain⟨a,N,A,w,z,g⟩:=g;subst A;cases r;obtain⟨f,m,⟨C,B,D,x,_,p⟩,O⟩:=I.list w;have G:s.heap.IsList a f.toArray:=⟨C,D,x,B,p⟩
 rw[assign_Tuple];refine wpAny_bind (wpAny_standAt ?_);unfold unpack;rw[show (assignEach es X.env).length=f.toArray.size by simp[M,<-z,m.length],j];refine wpAny_bind (wpAny_holding (PySem.W.kun_itemsOf (I.ok.hd L) G λJ q=>?_));have y:Inv X d l H { s with heap:=J }:=I.kept λb o e=>q b o (aas (Heap.lt_size e)) e;exact h d _ l H N _ Q y (by simpa using m) g
end
end
section
theorem l7(I:Nat->Shared->Prop)
  (p:∀n s,I n s->wpAny (model prog w) A (pyNext it) (λr f=>match r with
   |none=>R (.ok .next) f
   |some v=>wpAny (model prog w) A (letOwnedTupleGo target it v) (λ_ a=>wpAny (model prog w) A (assign target env v) (λ_ a=>
     wpAny (model prog w) A (forIn ifs true λc r=>if r=true then do let l <-isTrue c env (eval c env);pure (ForInStep.yield l) else pure (ForInStep.yield r)) (λl e=>
      if l=true then wpAny (model prog w) A (eval kx env) (λy i=>wpAny (model prog w) A (eval vx env) (λz k=>
       wpAny (model prog w) A (dictSet D y z) (λ_ j=>∃m,m<n/\I m j) (λ_ _=>False) k) (λ_ _=>False) i) (λ_ _=>False) e
      else ∃m,m<n/\I m e) (λ_ _=>False) a) (λ_ _=>False) a) (λ_ _=>False) f) (λ_ _=>False) s)
  (n:Nat) (h:I n s):
  codeAny (model prog w) A (.compLoop (.DictComp kx vx [⟨target,iter,ifs,0⟩] scope pos) 0 it (.ref D) env) R s:=by
 refine codeAny_loop rfl I (λn s B=>?_) n h;show wpAny _ A ((compTurn (.DictComp kx vx [⟨target,iter,ifs,0⟩] scope pos) 0 it (.ref D) env).onRaise (λx=>do noteFrame x env;theTreesLotGoes x)) _ _ s;refine wpAny_noted ?_;rw[compTurn_dict];refine wpAny_bind (wpAny_standAt (wpAny_bind (wpAny_mono (p n s B) (λr f b=>?_) λ_ _ d=>d.elim)));cases r with
 |none=>exact wpAny_pure b
 |some v=>
  refine wpAny_bind (wpAny_mono b (λ_ a b=>?_) λ_ _ d=>d.elim);refine wpAny_bind (wpAny_mono b (λ_ a t=>wpAny_bind (wpAny_mono t (λl e g=>?_) λ_ _ d=>d.elim)) λ_ _ d=>d.elim);cases l with
  |false=>exact wpAny_pure ⟨rfl,g⟩
  |true=>exact wpAny_bind (wpAny_bind (wpAny_mono g (λy i q=>wpAny_bind (wpAny_holding (wpAny_mono q (λz k u=>wpAny_bind (wpAny_standAt (wpAny_holding (wpAny_mono u (λ_ j o=>wpAny_pure ⟨rfl,o⟩) λ_ _ d=>d.elim)))) λ_ _ d=>d.elim))) λ_ _ d=>d.elim))
section
variable{X:Cx}{tg kx vx iter:Expr}{ifs:List Expr}{scope:Scope}{pos:Pos}{N:List Str}{nt:Nat}{fr:List Nat}
theorem qm(I:Inv X pins σ H s)(L:∀b∈fp,FpOk X pins H b)
  (r:H D=none) (k:s.heap.objs.size<=D) (p:D<s3.heap.objs.size) (hk:∀b o,s.heap.get? b=some o->s3.heap.get? b=some o) (m:s3.os=s.os)
  (J:Inv (aY X N scope cl s3 (upd H D (.dK [])) fp pins) pins' σ' H1 s5) (l:Heap.SameBut s3.heap.objs.size s5.heap h'):
  Inv X pins σ H1 { s5 with heap:=h' }:=by
 have t:s.heap.objs.size<=s3.heap.objs.size:=aaR (Nat.lt_of_le_of_lt k p);have f:∀b,b<s.heap.objs.size->b≠D/\b≠s3.heap.objs.size:=λb d=>⟨aas (aay d k),aas (aay d t)⟩
 have h:∀b,b≠D->(upd H D (.dK [])) b=H b:=λb d=>upd_ne d;refine I.call' (ch:=fp) (J.os.trans m) ⟨λb o e n d g=>?_,λb o e n d g=>?_,λb o e n g=>?_,λb o e g=>?_,λb M e=>?_,λb o u e=>?_,λb G e=>?_⟩ ?_ J.bare λb d=>?_
 ·obtain⟨j,i⟩:=f b (Heap.lt_size e);exact(l.2 b i).trans (J.base.keep b o (hk b o e) ((h b j).trans n) d g)
 ·obtain⟨j,i⟩:=f b (Heap.lt_size e);obtain⟨w,q⟩:=J.base.slot b o (hk b o e) ((h b j).trans n) d g;exact⟨w,(l.2 b i).trans q⟩
 ·obtain⟨j,i⟩:=f b (Heap.lt_size e);exact J.base.free b o (hk b o e) ((h b j).trans n) g
 ·obtain⟨j,i⟩:=f b (Heap.lt_size e);obtain⟨y,q⟩:=J.base.there b o (hk b o e) g;exact⟨y,(l.2 b i).trans q⟩
 ·exact J.base.tups b M ((h b (aq e r)).trans e)
 ·exact J.base.frzs b o u ((h b (aq e r)).trans e)
 ·exact J.base.tbls b G ((h b (aq e r)).trans e)
 ·intro b u e;refine(J.hok b u e).kv (λc v C q=>(l.2 c ?_).trans q) (λ_ q=>q) λ_ _ q=>q;have a:H1 s3.heap.objs.size=none:=J.free;rintro rfl;rcases C with z|z
  ·rw[z]at a;rw[a]at e;cases e
  ·rw[a]at z;cases z
 ·obtain⟨S,A,Q,O,x,B⟩:=L b d;exact⟨O,A,x,B⟩
def yH(H:Hp)(a:Addr)(y v:V)(c:Hp):Prop:=∃b k,H a=some (.dK b)/\y=kV k/\b.length<sizeLine/\c=upd H a (.dK (putK b k v))
def wm(f e:TE):TC:=λD b H Q=>f b H λk c=>e b c λv d=>∃a,yH d D k v a/\Q a
def GV(e:TT)(f d:TE):TC:=λD c H Q=>e c H λb a=>if b=true then wm f d D c a Q else Q a
def su(n:TI)(nt:Nat)(fr:List Nat)(g:CC->TG)(k:CC->TC):TE:=λf H Q=>n f H λJ e=>∀(c:CC) D,e D=none->∃W:Nat->Nat->St->Hp->Prop,(∃m,W 0 m (bq nt fr f) (upd e D (.dK []))) /\
 ∀i m d a,W i m d a->(J.stop i a/\Q (.ref D) a)\/(J.go i a/\∀x h,J.yld i a x h->g c x d h λb l=>k c D b l λo=>∃j,j<m/\W (i+1) j b o)
def sv(Y:Cx)(D:Addr)(ifs:List Expr)(kx vx:Expr)(j:TC):Prop:=
 ∀(a:List (Addr×Obj)) (s:Shared) (h:St) (H:Hp) (Q:Hp->Prop),Inv Y a h H s->j D h H Q ->
  wpAny (model Y.prog Y.w) Y.A (forIn ifs true λc r=>if r=true then do let i <-isTrue c Y.env (eval c Y.env);pure (ForInStep.yield i) else pure (ForInStep.yield r)) (λi b=>
   if i=true then wpAny (model Y.prog Y.w) Y.A (eval kx Y.env) (λk e=>wpAny (model Y.prog Y.w) Y.A (eval vx Y.env) (λl g=>
    wpAny (model Y.prog Y.w) Y.A (dictSet D k l) (λ_ f=>∃d,Inv Y a h d f/\Q d) Y.xe g) Y.xe e) Y.xe b
   else ∃d,Inv Y a h d b/\Q d) Y.xe s
theorem qo(L:A.units+1<cLine)(I:Inv X pins σ H s)(g:yH H a y v H')(t:RelV y u)(D:RelV v r)(h:∀f,Inv X pins σ H' f->Q () f):
  wpAny (model X.prog X.w) A (dictSet a u r) Q E s:=by
 obtain⟨b,k,e,o,l,m⟩:=g;subst o m;obtain⟨z,x,G,c,i⟩:=yF I.hok e;have J:G.length<=sizeLine:=by rw[<-c.length];exact z
 have n:(putK b k v).length<=sizeLine:=by have:=cS b k v;omega
 refine wpAny_dictSet_pairs (gN t) i λC d B=>h _ ?_;have p:∃q,C.get? a=some q:=let ⟨q,_,_,j,_⟩:=d;⟨q,j⟩
 exact jv I (by rw[e];exact True.intro) B p (sm n x (c.put k D) d)
theorem AE(t:Y.A.units+1<cLine)(hk:PE Y kx tk)(i:PE Y vx tv)(I:Inv Y pins σ H s)(h:wm tk tv D σ H Q):
  wpAny (model Y.prog Y.w) Y.A (eval kx Y.env) (λk a=>wpAny (model Y.prog Y.w) Y.A (eval vx Y.env) (λz c=>
    wpAny (model Y.prog Y.w) Y.A (dictSet D k z) (λ_ b=>∃d,Inv Y pins σ d b/\Q d) Y.xe c) Y.xe a) Y.xe s:=by
 refine thn (hk pins s σ H _ I h) λu x ⟨y,j,e,m,n⟩=>thn (i pins x σ j _ e n) λr C ⟨v,G,l,f,o,g,q⟩=>?_;exact qo t l g m f λB p=>⟨o,p,q⟩
theorem l8(b:Y.A.units+1<cLine)(hk:PE Y kx tk)(c:PE Y vx tv):sv Y D [] kx vx (wm tk tv):=by intro a s d H Q I h;refine wpAny_tests_nil ?_;rw[if_pos rfl];exact AE b hk c I h
theorem l9{a5:Option (Value->Sem Unit)}{Q0:Value->Shared->Prop}(hc:X.calm=true)(S:CompScope N nt fr X.N scope X.env.scope)(hi:PI X tg iter wi)
  (hg:∀c:CC,PG (dM X N scope c) tg (g c)) (ha:∀(c:CC) D,sv (dM X N scope c) D ifs kx vx (tc c))
  (I:Inv X pins σ H s) (h:su wi nt fr g tc σ H Q) (c5:∀x∈scope.names,x.2=.free->X.env.kindOf x.1=some .cell)
  (fin:∀(D C:Addr) (s5:Shared) (H1:Hp),FpOk X pins H1 C->s5.heap.get? C≠none->C≠X.env.locals->(∃m,s5.heap.Ns C m)->(∀h',Heap.SameBut C s5.heap h'->Inv X pins σ H1 { s5 with heap:=h' })->Q (.ref D) H1 ->
   compPost (model X.prog X.w) X.A X.xe a5 Q0 (.ref D) C (.ok .next) s5)
  (hs:∀x,foldedSetIterable iter X.env x=pure x:=by intro _;rfl):
  wpAny (model X.prog X.w) X.A (comprehension (.DictComp kx vx [⟨tg,iter,ifs,0⟩] scope pos) scope X.env (firstIterPos [⟨tg,iter,ifs,0⟩] pos) newDict false (eval iter X.env) a5) Q0 X.xe s:=by
 have Y:∀x∈scope.names,x.2=.free->∃c,X.env.cells.lookup x.1=some c:=λx hx hf=>I.ok.has x.1 (.inl (c5 x hx hf));obtain⟨B,d0,h1,h2⟩:=gG Y;refine wpAny_comprehension_free rfl hs d0 S.kind S.names (thn (hi pins s σ H _ I h) λxv s1 hx=>thn hx λd6 a c3=>?_);obtain⟨it,j,tn,J,t,rfl,I2,T,b8,f2,hW⟩:=c3;have a4:∀b∈j,b<a.heap.objs.size:=λb f=>let ⟨o,e,_⟩:=T.obj 0 _ b8 b f;Heap.lt_size e
 refine wpAny_newObj_type (wpAny_newFunctionEnv S.nocell (by intro y hy;simp at hy) (λL l v=>?_) S.kind) (by first|trivial|exact aaB _|decide);have hD:t a.heap.objs.size=none:=I2.hok.fresh (aag _);have I3:Inv X pins σ (upd t a.heap.objs.size (.dK [])) { a with heap:=a.heap.push { cls:=.type "dict",data:=.dict #[] } }:=I2.laid (λ_ _ q=>Heap.get?_push_of_some _ q) (aag _) (sq a.heap I2.big);generalize hs3:({ a with heap:=a.heap.push { cls:=.type "dict",data:=.dict #[] } }:Shared)=s3 at l v I3 ⊢;obtain⟨W,⟨m0,w0⟩,c1⟩:=hW ⟨B,s3,upd t a.heap.objs.size (.dK []),j,pins⟩ _ hD;have b6:∀b o,a.heap.get? b=some o->s3.heap.get? b=some o:=λb o e=>by rw[<-hs3];exact Heap.get?_push_of_some _ e
 have z3:s3.heap.objs.size=a.heap.objs.size+1:=by rw[<-hs3];exact Heap.size_push ..
 have c2:s3.os=a.os:=by rw[<-hs3]
 have f3:∀b∈j,FpOk X pins (upd t a.heap.objs.size (.dK [])) b:=λb f=>⟨by rw[upd_ne (aas (a4 b f))];exact(f2 b f).1,(f2 b f).2⟩
 have c0:∀b o,s3.heap.get? b=some o->L.get? b=some o:=λb o e=>v.extBut b o (aas (Heap.lt_size e)) (Heap.get?_push_of_some _ e);generalize hs4:({ s3 with heap:=L,toks:=s3.toks+([]:List (Str×Value)).length }:Shared)=s4;have a2:s4.heap=L:=by rw[<-hs4]
 have I4:Inv (aY X N scope B s3 (upd t a.heap.objs.size (.dK [])) j pins) [] (bq nt fr σ) (upd t a.heap.objs.size (.dK [])) s4:=
  gH S I3 f3 (λb f=>by rw[z3];exact abG (a4 b f)) h1 h2 (λb o e=>by rw[a2];exact c0 b o e) ⟨_,by rw[a2];exact l⟩ (by rw[<-hs4]) (by rw[<-hs4])
 have b0:tn 0 s4.heap:=T.keep 0 _ _ b8 λb f o e=>by rw[a2];exact c0 b o (b6 b o e)
 have a1:codeAny (model X.prog X.w) X.A (.compLoop (.DictComp kx vx [⟨tg,iter,ifs,0⟩] scope pos) 0 (.ref it) (.ref a.heap.objs.size) (compEnvC scope B s3.heap.objs.size X.env))
   (compPost (model X.prog X.w) X.A X.xe a5 Q0 (.ref a.heap.objs.size) s3.heap.objs.size) s4:=by
  have M:∀{k:Hp},(∀b∈j,k b=none)->∀b∈j,FpOk (aY X N scope B s3 (upd t a.heap.objs.size (.dK [])) j pins) [] k b:=λ{k} hn b f=>
   ⟨hn b f,aas (show b<s3.heap.objs.size by rw[z3];exact abG (a4 b f)),λz=>I4.ok.exfs b f z,.inl f,λx c e=>(f2 b f).2.2.2.2.1 x c (h1 x c e),λp hp=>(f2 b f).2.2.2.2.2 p (by
    rcases aam.mp hp with z|z
    ·exact z
    ·exact absurd z (by simp))⟩
  refine l7 (λn s'=>∃i O k,Inv (aY X N scope B s3 (upd t a.heap.objs.size (.dK [])) j pins) [] O k s'/\tn i s'.heap/\(∀b∈j,k b=none)/\W i n O k) ?_ m0
   ⟨0,_,_,I4,b0,λb f=>(f3 b f).1,w0⟩
  rintro n s5 ⟨i,a0,H5,I5,a7,a6,w5⟩;rcases c1 i n a0 H5 w5 with ⟨b7,qn⟩|⟨go,b5⟩
  ·refine thn (T.done (aY X N scope B s3 (upd t a.heap.objs.size (.dK [])) j pins) rfl rfl rfl hc i [] s5 a0 H5 (λ_ _=>False) I5 (M a6) a7 b7) λr s6 ⟨hr,I6⟩=>?_;subst hr;obtain⟨m,hm,_⟩:=id I6.loc;refine fin _ _ s6 H5 (I2.qd (by rw[z3];exact abl _) I6.free) ?_ ?_ ⟨m,hm⟩ (λh' c4=>qm I2 f2 hD (aag _) (by rw[z3];exact abm _) b6 c2 I6 c4) qn
   ·obtain⟨o,_,_,ho,_⟩:=hm;intro z;have a8:s6.heap.get? s3.heap.objs.size=some o:=ho;rw[z]at a8;cases a8
   ·exact aa7 (abH I2.lt (by rw[z3];exact abm _))
  ·refine thn (T.item (aY X N scope B s3 (upd t a.heap.objs.size (.dK [])) j pins) rfl rfl rfl hc i [] s5 a0 H5 (λ_ _=>False) I5 (M a6) a7 go) λr s6 ⟨u,hr,h6⟩=>?_;subst hr;refine thn h6 λ_ s7 ⟨x,H7,I7,r7,y7,a3,c8⟩=>?_;have c6:=I7.pinned (M c8) (T.obj _ _ a3);refine thn (hg ⟨B,s3,upd t a.heap.objs.size (.dK []),j,pins⟩ _ s7 a0 H7 x u _ c6 r7 (b5 x H7 y7)) λ_ s8 ⟨Z,H8,I8,q8⟩=>?_;refine thn (ha ⟨B,s3,upd t a.heap.objs.size (.dK []),j,pins⟩ _ _ s8 Z H8 _ I8 q8) λok s9 h9=>?_;have G:∀{U:Shared},(∃k,Inv (aY X N scope B s3 (upd t a.heap.objs.size (.dK [])) j pins) ([]++pinsAt j s7.heap) Z k U/\∃m',m'<n/\W (i+1) m' Z k) ->
     ∃m,m<n/\∃i O k,Inv (aY X N scope B s3 (upd t a.heap.objs.size (.dK [])) j pins) [] O k U/\tn i U.heap/\(∀b∈j,k b=none)/\W i m O k:=λ{U} ⟨k,I',m',hm,w'⟩=>by
    refine⟨m',hm,i+1,Z,k,I'.et,T.keep _ _ _ a3 λb f o e=>(I'.pin (b,o) (aae _ (aae _ (bB f e)))).1,λb f=>?_,w'⟩;obtain⟨o,e,d⟩:=T.obj _ _ a3 b f;exact(I'.pin (b,o) (aae _ (aae _ (bB f e)))).2.1
   cases ok with
   |true=>rw[if_pos rfl]at h9 ⊢;exact thn h9 λy d4 d2=>thn d2 λz d5 d1=>thn d1 λ_ d3 c7=>G c7
   |false=>rw[if_neg aad]at h9 ⊢;exact G h9
 exact codeAny_compStart_dict a1 (T.self X.A 0 s4 _ _ b0 a1)
theorem sy{k d:Pos}(hN:X.N.Nodup)(Z:X.N[i]?=some y)(B:X.env.scope.names.lookup y=some .local)(hc:X.calm=true)(S:CompScope N nt fr X.N scope X.env.scope)(hi:PI X tg iter wi)
  (T:∀c:CC,PG (dM X N scope c) tg (g c)) (U:∀(c:CC) D,sv (dM X N scope c) D ifs kx vx (tc c))
  (Y:∀x,foldedSetIterable iter X.env x=pure x:=by intro _;rfl)
  (n:swapsWith (.DictComp kx vx [⟨tg,iter,ifs,0⟩] scope pos) (some (.Name y k)) d.line X.env=pure true:=by rfl):
  PS X (.Assign [.Name y k] (.DictComp kx vx [⟨tg,iter,ifs,0⟩] scope pos) d) (rH (su wi nt fr g tc) (km i)):=by
 intro j s σ H D I h;rw[exec_Assign_Name_used _ _ _ _ n];refine wpAny_bind (wpAny_standAt (wpAny_bind ?_));show wpAny _ X.A (do let _ <-comprehension (.DictComp kx vx [⟨tg,iter,ifs,0⟩] scope pos) scope X.env _ newDict false (eval iter X.env) (some (assign (.Name y k) X.env))) _ _ s;refine wpAny_bind (wpAny_mono (l9 hc S hi T U I h (λx M hf=>S.cells x M hf) (λJ C L G f hC _ t Q q=>?_) Y) (λ_ s' O=>wpAny_pure (wpAny_pure O)) λ_ _ e=>e);obtain⟨m,t⟩:=t;have I5:Inv X j σ G L:=Q L.heap ⟨rfl,λ_ _=>rfl⟩;show wpAny _ X.A (assign (.Name y k) X.env (.ref J)) _ _ _;refine wpAny_assign_Name (fG I5 hN Z (.inl B) (v:=.ref J) rfl (λs6 I6 p=>?_) (.inr B));obtain⟨a,r,u⟩:=p;have l:C≠a:=by
  rcases u with e|e
  ·rw[e];exact f.2.1
  ·exact λz=>f.2.2.2.2.1 _ _ e z.symm
 exact⟨m,t.sameBut r l,λh' w=>⟨_,G,I6.turned (λb o hb e=>(w.2 b hb).trans e) f.1 f.2.1 f.2.2.2.1 f.2.2.2.2.1 f.2.2.2.2.2,q⟩⟩
end
end
end L2
set_option genInjectivity false
namespace L2
open PySem PySem.Spec PyProof.Rows
section
structure Kp (S:Addr->Prop)(H H':Hp):Prop where
 k:∀b o,H b=some o->¬ S b->H' b=some o
 n:∀b,H' b=none->H b=none
section
variable{S T S':Addr->Prop}{H H1 H' H2:Hp}{p:Addr}{o:HO}
theorem Kp.refl(S:Addr->Prop)(H:Hp):Kp S H H:=⟨λ_ _ h _=>h,λ_ h=>h⟩
theorem Kp.trans(a:Kp S H H1)(b:Kp S H1 H2):Kp S H H2:=⟨λc o h n=>b.k c o (a.k c o h n) n,λc h=>a.n c (b.n c h)⟩
theorem Kp.weak(a:Kp S H H')(h:∀b,S b->T b\/H b=none):Kp T H H':=⟨λb o e n=>a.k b o e λz=>(h b z).elim n λq=>(by rw[q]at e;cases e),a.n⟩
theorem Kp.put(a:S p\/H p=none):Kp S H (upd H p o):=by
 refine⟨λb u h n=>?_,λb h=>?_⟩
 ·have c:b≠p:=λe=>by
   subst e;rcases a with a|a
   ·exact n a
   ·rw[a]at h;cases h
  rw[upd_ne c];exact h
 ·by_cases e:b=p
  ·subst e;rw[aN]at h;cases h
  ·rw[upd_ne e]at h;exact h
theorem Kp.ne(a:Kp S H H')(h:H b≠none):H' b≠none:=λe=>h (a.n b e)
theorem Kp.keep(a:Kp (λ_=>False) H H'):Keep [] H H':=λb o h _=>a.k b o h (λz=>z)
def Bx(S:Addr->Prop)(F:Hp->Prop)(H:Hp):Prop:=∀H',Kp S H H'->F H'
theorem Bx.now{F:Hp->Prop}(h:Bx S F H):F H:=h H (Kp.refl _ _)
theorem Bx.step{F:Hp->Prop}(h:Bx S F H)(k:Kp S H H')(n:∀b,S' b->S b\/H b=none):Bx S' F H':=λH2 a=>
 h H2 ⟨λb o e c=>a.k b o (k.k b o e c) λz=>(n b z).elim c λq=>(by rw[q]at e;cases e),λb e=>k.n b (a.n b e)⟩
end
mutual
inductive Fz (K:Waa)(S:Addr->Prop)(H:Hp):V->PyData->Prop
 |non:Fz K S H .non .none
 |bl (b:Bool):Fz K S H (.bl b) (.bool b)
 |int (i:Int):Fz K S H (.int i) (.int i)
 |str (x:Str):Fz K S H (.str x) (.str x)
 |lst {a xs ds}:Bx S (λH=>SqL K H a xs) H->FzA K S H xs ds->Fz K S H (.ref a) (.list ds)
 |tup {a xs ds}:Bx S (λH=>SqT K H a xs) H->FzA K S H xs ds->Fz K S H (.ref a) (.tuple ds)
inductive FzA (K:Waa)(S:Addr->Prop)(H:Hp):List V->List PyData->Prop
 |nil:FzA K S H [] []
 |cons {x d xs ds}:Fz K S H x d->FzA K S H xs ds->FzA K S H (x::xs) (d::ds)
end
section
variable{K:Waa}{S T S':Addr->Prop}{H H1 H' H2:Hp}
theorem Fz.ind{P:V->PyData->Prop}{Q:List V->List PyData->Prop}(c:P .non .none)(l:∀b,P (.bl b) (.bool b))(f:∀i,P (.int i) (.int i))(g:∀x,P (.str x) (.str x))
  (k:∀{a xs ds},Bx S (λH=>SqL K H a xs) H->Q xs ds->P (.ref a) (.list ds)) (e:∀{a xs ds},Bx S (λH=>SqT K H a xs) H->Q xs ds->P (.ref a) (.tuple ds)) (nil:Q [] []) (cons:∀{x d xs ds},P x d->Q xs ds->Q (x::xs) (d::ds)):
  (∀{v d},Fz K S H v d->P v d)/\∀{vs ds},FzA K S H vs ds->Q vs ds:=
 ⟨λh=>Fz.rec c l f g (λh _ i=>k h i) (λh _ i=>e h i) nil (λ_ _ i j=>cons i j) h,
  λh=>FzA.rec c l f g (λh _ i=>k h i) (λh _ i=>e h i) nil (λ_ _ i j=>cons i j) h⟩
theorem Fz.mo(k:Kp S H H')(n:∀b,S' b->S b\/H b=none):(∀{v:V}{d:PyData},Fz K S H v d->Fz K S' H' v d)/\∀{vs:List V}{ds:List PyData},FzA K S H vs ds->FzA K S' H' vs ds:=
 Fz.ind .non .bl .int .str (λh t=>.lst (h.step k n) t) (λh t=>.tup (h.step k n) t) .nil (λr t=>.cons r t)
theorem Fz.step(k:Kp S H H')(n:∀b,S' b->S b\/H b=none){v:V}{d:PyData}(h:Fz K S H v d):Fz K S' H' v d:=(Fz.mo k n).1 h
theorem FzA.step(k:Kp S H H')(n:∀b,S' b->S b\/H b=none){vs:List V}{ds:List PyData}(h:FzA K S H vs ds):FzA K S' H' vs ds:=(Fz.mo k n).2 h
theorem Fz.dt_:(∀{v:V}{d:PyData},Fz K S H v d->Dt K H v d)/\∀{vs:List V}{ds:List PyData},FzA K S H vs ds->DtAll K H vs ds:=
 Fz.ind .non .bl .int .str (λh t=>.lst h.now t) (λh t=>.tup h.now t) .nil (λr t=>.cons r t)
theorem Fz.dt(h:Fz K S H v d):Dt K H v d:=Fz.dt_.1 h
theorem FzA.dt(h:FzA K S H vs ds):DtAll K H vs ds:=Fz.dt_.2 h
theorem Fz.of0(h:Dt K H v d):Fz K (λ_=>False) H v d:=
 Dt.rec .non .bl .int .str (λh _ t=>.lst (λH' k=>k.keep.same.seq h) t) (λh _ t=>.tup (λH' k=>k.keep.same.tupS h) t) .nil (λ_ _ r t=>.cons r t) h
theorem FzA.of0:∀{vs:List V}{ds:List PyData},DtAll K H vs ds->FzA K (λ_=>False) H vs ds:=by
 intro vs;induction vs with
 |nil=>intro ds h;cases h;exact .nil
 |cons v vs a=>intro ds h;cases h with|cons r t=>exact .cons (Fz.of0 r) (a t)
theorem Fz.sub(h:∀b,S' b->S b)(f:Fz K S H v d):Fz K S' H v d:=f.step (Kp.refl _ _) λb z=>.inl (h b z)
theorem FzA.sub(h:∀b,S' b->S b)(f:FzA K S H v d):FzA K S' H v d:=f.step (Kp.refl _ _) λb z=>.inl (h b z)
theorem FzA.length(h:FzA K S H vs ds):vs.length=ds.length:=by
 induction vs generalizing ds with
 |nil=>cases h;rfl
 |cons v vs a=>cases h with|cons _ t=>rw[aao,aao,a t]
theorem FzA.get{i:Nat}(h:FzA K S H vs ds)(e:ds[i]?=some d):∃v,vs[i]?=some v/\Fz K S H v d:=by
 induction vs generalizing ds i with
 |nil=>cases h;cases i<;>cases e
 |cons v vs a=>
  cases h with
  |cons r t=>
   cases i with
   |zero=>cases e;exact⟨_,rfl,r⟩
   |succ i=>exact a t e
theorem FzA.append(h:FzA K S H vs ds)(h':FzA K S H ws es):FzA K S H (vs++ws) (ds++es):=by
 induction vs generalizing ds with
 |nil=>cases h;exact h'
 |cons v vs a=>cases h with|cons r t=>exact .cons r (a t)
theorem FzA.take:∀(n:Nat) {vs:List V}{ds:List PyData},FzA K S H vs ds->FzA K S H (vs.take n) (ds.take n)
 |0,_,_,_=>.nil
 |_+1,_,_,.nil=>.nil
 |n+1,_,_,.cons r t=>.cons r (FzA.take n t)
theorem FzA.drop:∀(n:Nat) {vs:List V}{ds:List PyData},FzA K S H vs ds->FzA K S H (vs.drop n) (ds.drop n)
 |0,_,_,h=>h
 |_+1,_,_,.nil=>.nil
 |n+1,_,_,.cons _ t=>FzA.drop n t
theorem FzA.set(h:Fz K S H u d):∀(n:Nat) {vs:List V}{ds:List PyData},FzA K S H vs ds->FzA K S H (vs.set n u) (ds.set n d)
 |_,_,_,.nil=>.nil
 |0,_,_,.cons _ t=>.cons h t
 |n+1,_,_,.cons r t=>.cons r (FzA.set h n t)
theorem FzA.ints:∀(ns:List Int),FzA K S H (ns.map V.int) (ns.map PyData.int)
 |[]=>.nil
 |n::ns=>.cons (.int n) (FzA.ints ns)
theorem Fz.rd(h:Fz K S H v (.list ds)):∃a xs,v=.ref a/\Bx S (λH=>SqL K H a xs) H/\FzA K S H xs ds:=by
 cases h with|lst h t=>exact⟨_,_,rfl,h,t⟩
theorem Fz.r3(h:Fz K S H v (.tuple ds)):∃a xs,v=.ref a/\Bx S (λH=>SqT K H a xs) H/\FzA K S H xs ds:=by
 cases h with|tup h t=>exact⟨_,_,rfl,h,t⟩
theorem AF(h:H a=some (.lst xs))(n:¬ S a):Bx S (λH=>SqL K H a xs) H:=λ_ k=>SqL.of (k.k _ _ h n)
theorem sA(h:H a=some (.tup xs))(n:¬ S a):Bx S (λH=>SqT K H a xs) H:=λ_ k=>SqT.of (k.k _ _ h n)
end
inductive OD where
 |fz (d:PyData)|lst (xs:List OD)|tup (xs:List OD)|dic (ks:List Key) (xs:List OD)|obj (c:Str) (ns:List Str) (xs:List OD)|pin (l:Bool) (xs:List V) (ds:List PyData)|hole (v:V)
mutual
def OD.dat:OD->Option PyData
 |.fz d=>some d
 |.lst xs=>match OD.ej xs with|some ds=>some (.list ds)|none=>none
 |.tup xs=>match OD.ej xs with|some ds=>some (.tuple ds)|none=>none
 |.dic _ _=>none
 |.obj _ _ _=>none
 |.pin l _ ds=>some (if l then .list ds else .tuple ds)
 |.hole _=>none
def OD.ej:List OD->Option (List PyData)
 |[]=>some []
 |x::xs=>match x.dat with
  |some d=>match OD.ej xs with|some ds=>some (d::ds)|none=>none
  |none=>none
end
def aU(K:Waa)(c:Str):Addr:=match PySem.W.nsIn K mainGlobals c with|some (some (.ref C))=>C|_=>0
structure Bs where
 K:Waa
 H0:Hp
 S0:Addr->Prop
 C:Addr->Prop
mutual
inductive Ow (b:Bs)(S:Addr->Prop)(H:Hp):V->OD->List Addr->Prop
 |fz {v d}:Fz b.K S H v d->Ow b S H v (.fz d) []
 |lst {a vs xs A}:H a=some (.lst vs)->Ows b S H vs xs A->Ow b S H (.ref a) (.lst xs) (a::A)
 |tup {a vs xs A}:H a=some (.tup vs)->Ows b S H vs xs A->Ow b S H (.ref a) (.tup xs) A
 |dic {a ws ks vs xs A}:H a=some (.dK ws)->ws.map (·.1)=ks->ws.map (·.2)=vs->Ows b S H vs xs A->Ow b S H (.ref a) (.dic ks xs) (a::A)
 |obj {a dx c fs ns vs xs A}:H a=some (.ins (aU b.K c) dx fs)->H dx=some (.own a)->fs.map (·.1)=ns->fs.map (·.2)=vs->Ows b S H vs xs A->Ow b S H (.ref a) (.obj c ns xs) (a::dx::A)
 |pinL {a xs ds}:Bx S (λH=>SqL b.K H a xs) H->FzA b.K S H xs ds->Ow b S H (.ref a) (.pin true xs ds) []
 |pinT {a xs ds}:Bx S (λH=>SqT b.K H a xs) H->FzA b.K S H xs ds->Ow b S H (.ref a) (.pin false xs ds) []
 |hole {v u}:v=u->Ow b S H v (.hole u) []
inductive Ows (b:Bs)(S:Addr->Prop)(H:Hp):List V->List OD->List Addr->Prop
 |nil:Ows b S H [] [] []
 |cons {v x A vs xs B}:Ow b S H v x A->Ows b S H vs xs B->Ows b S H (v::vs) (x::xs) (A++B)
end
abbrev OwL(b:Bs)(S:Addr->Prop)(H:Hp)(L:List (V×OD))(A:List Addr):Prop:=Ows b S H (L.map (·.1)) (L.map (·.2)) A
def MutO:HO->Prop
 |.lst _=>True|.dK _=>True|.ins _ _ _=>True|.own _=>True
 |_=>False
section
variable{b:Bs}{S T S':Addr->Prop}{H H1 H' H2:Hp}
theorem Ows.len(h:Ows b S H vs xs A):vs.length=xs.length:=by
 induction vs generalizing xs A with
 |nil=>cases h;rfl
 |cons v vs a=>cases h with|cons _ t=>rw[aao,aao,a t]
theorem Ow.ind{P:V->OD->List Addr->Prop}{Q:List V->List OD->List Addr->Prop}(t:∀{v d},Fz b.K S H v d->P v (.fz d) [])(p:∀{a vs xs A},H a=some (.lst vs)->Q vs xs A->P (.ref a) (.lst xs) (a::A))(o:∀{a vs xs A},H a=some (.tup vs)->Q vs xs A->P (.ref a) (.tup xs) A)
  (n:∀{a ws ks vs xs A},H a=some (.dK ws)->ws.map (·.1)=ks->ws.map (·.2)=vs->Q vs xs A->P (.ref a) (.dic ks xs) (a::A)) (q:∀{a dx c s ns vs xs A},H a=some (.ins (aU b.K c) dx s)->H dx=some (.own a)->s.map (·.1)=ns->s.map (·.2)=vs->Q vs xs A->P (.ref a) (.obj c ns xs) (a::dx::A))
  (k:∀{a xs ds},Bx S (λH=>SqL b.K H a xs) H->FzA b.K S H xs ds->P (.ref a) (.pin true xs ds) []) (f:∀{a xs ds},Bx S (λH=>SqT b.K H a xs) H->FzA b.K S H xs ds->P (.ref a) (.pin false xs ds) []) (g:∀{v u},v=u->P v (.hole u) [])
  (nil:Q [] [] []) (cons:∀{v x A vs xs B},P v x A->Q vs xs B->Q (v::vs) (x::xs) (A++B)):(∀{v x A},Ow b S H v x A->P v x A)/\∀{vs xs A},Ows b S H vs xs A->Q vs xs A:=
 ⟨λh=>Ow.rec t (λe _ i=>p e i) (λe _ i=>o e i) (λe m l _ i=>n e m l i) (λe r m l _ i=>q e r m l i) k f g nil (λ_ _ i j=>cons i j) h,
  λh=>Ows.rec t (λe _ i=>p e i) (λe _ i=>o e i) (λe m l _ i=>n e m l i) (λe r m l _ i=>q e r m l i) k f g nil (λ_ _ i j=>cons i j) h⟩
theorem nF{P:Addr->Prop}(h:P a)(t:∀c∈A,P c):∀c∈a::A,P c:=λc d=>(aab.mp d).elim (λe=>e▸h) (t c)
theorem Ow.mu_:(∀{v:V}{x:OD}{A:List Addr},Ow b S H v x A->∀a∈A,∃o,H a=some o/\MutO o)/\∀{vs:List V}{xs:List OD}{A:List Addr},Ows b S H vs xs A->∀a∈A,∃o,H a=some o/\MutO o:=
 Ow.ind (λ_ _ h=>absurd h aar) (λe i=>nF ⟨_,e,trivial⟩ i) (λ_ i=>i) (λe _ _ i=>nF ⟨_,e,trivial⟩ i) (λe c _ _ i=>nF ⟨_,e,trivial⟩ (nF ⟨_,c,trivial⟩ i)) (λ_ _ _ h=>absurd h aar) (λ_ _ _ h=>absurd h aar) (λ_ _ h=>absurd h aar) (λ_ h=>absurd h aar) (λi j a h=>(aam.mp h).elim (i a) (j a))
theorem Ow.mu(h:Ow b S H v x A):∀a∈A,∃o,H a=some o/\MutO o:=Ow.mu_.1 h
theorem Ows.mu(h:Ows b S H vs xs A):∀a∈A,∃o,H a=some o/\MutO o:=Ow.mu_.2 h
theorem Ows.ne(h:Ows b S H vs xs A):∀a∈A,H a≠none:=λa c e=>by obtain⟨o,q,_⟩:=h.mu a c;rw[q]at e;cases e
theorem Ow.ne(h:Ow b S H v x A):∀a∈A,H a≠none:=λa c e=>by obtain⟨o,q,_⟩:=h.mu a c;rw[q]at e;cases e
theorem Ows.tl(h:Ows b S H vs xs A):∀a∈A,∀ys,H a≠some (.tup ys):=λa c ys e=>by obtain⟨o,q,m⟩:=h.mu a c;rw[q]at e;cases e;exact m
theorem Ow.tl(h:Ow b S H v x A):∀a∈A,∀ys,H a≠some (.tup ys):=λa c ys e=>by obtain⟨o,q,m⟩:=h.mu a c;rw[q]at e;cases e;exact m
theorem Ow.mo(c:b2.K=b.K)(k:Kp S H H')(n:∀b,S' b->S b\/H b=none)(m:∀a xs,H a=some (.tup xs)->¬ S a):(∀{v:V}{x:OD}{A:List Addr},Ow b S H v x A->(∀a∈A,H' a=H a)->Ow b2 S' H' v x A)/\∀{vs:List V}{xs:List OD}{A:List Addr},Ows b S H vs xs A->(∀a∈A,H' a=H a)->Ows b2 S' H' vs xs A:=
 Ow.ind (λf _=>.fz (c▸f.step k n)) (λe i s=>.lst ((s _ aaj).trans e) (i λa h=>s a (aal _ h))) (λe i s=>.tup (k.k _ _ e (m _ _ e)) (i s)) (λe g d i s=>.dic ((s _ aaj).trans e) g d (i λa h=>s a (aal _ h)))
  (λe l g d i s=>.obj (c▸(s _ aaj).trans e) ((s _ (aal _ aaj)).trans l) g d (i λa h=>s a (aal _ (aal _ h)))) (λh t _=>.pinL (c▸h.step k n) (c▸t.step k n)) (λh t _=>.pinT (c▸h.step k n) (c▸t.step k n)) (λe _=>.hole e) (λ_=>.nil) (λi j s=>.cons (i λa h=>s a (aah _ h)) (j λa h=>s a (aae _ h)))
theorem Ow.step(k:Kp S H H')(n:∀b,S' b->S b\/H b=none)(c:∀a xs,H a=some (.tup xs)->¬ S a){v:V}{x:OD}{A:List Addr}(s:∀a∈A,H' a=H a)(h:Ow b S H v x A):Ow b S' H' v x A:=(Ow.mo rfl k n c).1 h s
theorem Ows.step(k:Kp S H H')(n:∀b,S' b->S b\/H b=none)(c:∀a xs,H a=some (.tup xs)->¬ S a){vs:List V}{xs:List OD}{A:List Addr}(s:∀a∈A,H' a=H a)(h:Ows b S H vs xs A):Ows b S' H' vs xs A:=(Ow.mo rfl k n c).2 h s
theorem Ow.sub(d:∀a xs,H a=some (.tup xs)->¬ S a)(n:∀c,S' c->S c)(h:Ow b S H v x A):Ow b S' H v x A:=h.step (Kp.refl _ _) (λc z=>.inl (n c z)) d (λ_ _=>rfl)
theorem Ows.sub(d:∀a xs,H a=some (.tup xs)->¬ S a)(n:∀c,S' c->S c)(h:Ows b S H v x A):Ows b S' H v x A:=h.step (Kp.refl _ _) (λc z=>.inl (n c z)) d (λ_ _=>rfl)
theorem Ows.subB(d:b2.K=b.K)(e:∀a xs,H a=some (.tup xs)->¬ S a)(n:∀c,S' c->S c)(h:Ows b S H v x A):Ows b2 S' H v x A:=(Ow.mo d (Kp.refl _ _) (λc z=>.inl (n c z)) e).2 h λ_ _=>rfl
theorem wo(h:(OD.lst xs).dat=some d):∃ds,OD.ej xs=some ds/\d=.list ds:=by
 rw[OD.dat]at h;cases z:OD.ej xs with
 |none=>rw[z]at h;cases h
 |some ds=>rw[z]at h;cases h;exact⟨ds,rfl,rfl⟩
theorem wq(h:(OD.tup xs).dat=some d):∃ds,OD.ej xs=some ds/\d=.tuple ds:=by
 rw[OD.dat]at h;cases z:OD.ej xs with
 |none=>rw[z]at h;cases h
 |some ds=>rw[z]at h;cases h;exact⟨ds,rfl,rfl⟩
theorem qp(h:OD.ej (x::xs)=some es):∃d ds,x.dat=some d/\OD.ej xs=some ds/\es=d::ds:=by
 rw[OD.ej]at h;cases z:x.dat with
 |none=>rw[z]at h;cases h
 |some d=>
  cases a:OD.ej xs with
  |none=>rw[z,a]at h;cases h
  |some ds=>rw[z,a]at h;cases h;exact⟨d,ds,rfl,rfl,rfl⟩
theorem Ow.frz_(k:∀a,S' a->S a)(nt:∀a xs,H a=some (.tup xs)->¬ S a):(∀{v:V}{x:OD}{A:List Addr},Ow b S H v x A->∀d:PyData,(∀a∈A,¬ S' a)->x.dat=some d->Fz b.K S' H v d)/\∀{vs:List V}{xs:List OD}{A:List Addr},Ows b S H vs xs A->∀ds:List PyData,(∀a∈A,¬ S' a)->OD.ej xs=some ds->FzA b.K S' H vs ds:=by
 refine Ow.ind (P:=λv x A=>∀d:PyData,(∀a∈A,¬ S' a)->x.dat=some d->Fz b.K S' H v d) (Q:=λvs xs A=>∀ds:List PyData,(∀a∈A,¬ S' a)->OD.ej xs=some ds->FzA b.K S' H vs ds) ?_ ?_ ?_ (λ_ _ _ _ _ _ q=>?_) (λ_ _ _ _ _ _ _ q=>?_) ?_ ?_ (λ_ _ _ q=>?_) ?_ ?_
 ·intro v d f o _ q;cases q;exact f.sub k
 ·intro a vs xs A e i d g q;obtain⟨ds,z,rfl⟩:=wo q;exact .lst (AF e (g _ aaj)) (i ds (λa h=>g a (aal _ h)) z)
 ·intro a vs xs A e i d g q;obtain⟨ds,z,rfl⟩:=wq q;exact .tup (sA e λy=>nt _ _ e (k _ y)) (i ds g z)
 ·cases q
 ·cases q
 ·intro a xs ds h t d _ q;cases q;exact .lst (h.step (Kp.refl _ _) λc z=>.inl (k c z)) (t.sub k)
 ·intro a xs ds h t d _ q;cases q;exact .tup (h.step (Kp.refl _ _) λc z=>.inl (k c z)) (t.sub k)
 ·cases q
 ·intro ds _ q;cases q;exact .nil
 ·intro v x A vs xs B i j n g q;obtain⟨d,ds,m,l,rfl⟩:=qp q;exact .cons (i d (λa h=>g a (aah _ h)) m) (j ds (λa h=>g a (aae _ h)) l)
theorem Ow.frz(c:∀a,S' a->S a)(nt:∀a xs,H a=some (.tup xs)->¬ S a)(e:∀a∈A,¬ S' a)(h:Ow b S H v x A)(q:x.dat=some d):Fz b.K S' H v d:=(Ow.frz_ c nt).1 h d e q
theorem Ows.frz(c:∀a,S' a->S a)(nt:∀a xs,H a=some (.tup xs)->¬ S a)(d:∀a∈A,¬ S' a)(h:Ows b S H vs xs A)(q:OD.ej xs=some ds):FzA b.K S' H vs ds:=(Ow.frz_ c nt).2 h ds d q
theorem Ows.append(h:Ows b S H vs xs A)(h':Ows b S H us ys B):Ows b S H (vs++us) (xs++ys) (A++B):=by
 induction vs generalizing xs A with
 |nil=>cases h;exact h'
 |cons v vs a=>cases h with|cons r t=>rw[aac];exact .cons r (a t)
theorem Ows.split(e:vs.length=xs.length)(h:Ows b S H (vs++us) (xs++ys) A):∃c a,A=c++a/\Ows b S H vs xs c/\Ows b S H us ys a:=by
 induction vs generalizing xs A with
 |nil=>
  cases xs with
  |nil=>exact⟨[],A,rfl,.nil,h⟩
  |cons _ _=>cases e
 |cons v vs g=>
  cases xs with
  |nil=>cases e
  |cons x xs=>
   cases h with
   |cons r t=>obtain⟨c,a,rfl,f,d⟩:=g (Nat.succ.inj e) t;exact⟨_,a,(aac ..).symm,.cons r f,d⟩
theorem OwL.ft(h:OwL b S H (L1++L2) A):∃a c,A=a++c/\OwL b S H L1 a/\OwL b S H L2 c:=by unfold OwL at h;rw[aau,aau]at h;exact Ows.split (by simp) h
theorem OwL.il(c:OwL b S H L1 A1)(a:OwL b S H L2 A2):OwL b S H (L1++L2) (A1++A2):=by unfold OwL;rw[aau,aau];exact Ows.append c a
theorem OwL.perm(p:L.Perm L'):∀{A:List Addr},OwL b S H L A->∃e,OwL b S H L' e/\A.Perm e:=by
 induction p with
 |nil=>intro A h;exact⟨A,h,.refl _⟩
 |cons x _ i=>
  intro A h;cases h with
  |cons r t=>obtain⟨B,a,q⟩:=i t;exact⟨_,.cons r a,q.append_left _⟩
 |swap x y l=>
  intro A h;cases h with
  |cons r t=>
   cases t with
   |cons f j=>refine⟨_,.cons f (.cons r j),?_⟩;rw[<-aac,<-aac];exact aa0.append_right _
 |trans _ _ d c=>intro A h;obtain⟨B,g,m⟩:=d h;obtain⟨C,a,k⟩:=c g;exact⟨C,a,m.trans k⟩
theorem OwL.mem:∀{A:List Addr},OwL b S H L A->∀{x:V×OD},x∈L->∃B,Ow b S H x.1 x.2 B:=by
 induction L with
 |nil=>intro A h x a;cases a
 |cons y L c=>
  intro A h x a;cases h with
  |cons r t=>
   rcases aab.mp a with rfl|a
   ·exact⟨_,r⟩
   ·exact c t a
theorem Ows.zip(h:Ows b S H vs xs A)(e:xs[k]?=some x):∃v d B c,vs[k]?=some v/\A=d++(B++c)/\Ow b S H v x B /\
  ∀{S':Addr->Prop}{H':Hp}{u:V}{y:OD}{i:List Addr},Ow b S' H' u y i->(∀{v:V}{x:OD}{C:List Addr},(∀a∈C,a∈d\/a∈c)->Ow b S H v x C->Ow b S' H' v x C)->Ows b S' H' (vs.set k u) (xs.set k y) (d++(i++c)):=by
 induction vs generalizing xs A k with
 |nil=>cases h;cases k<;>cases e
 |cons v vs f=>
  cases h with
  |@cons _ x0 A _ xs B r t=>
   cases k with
   |zero=>
    cases e;refine⟨v,[],A,B,rfl,rfl,r,λ{S' H' u y i} h g=>Ows.cons (B:=B) h ?_⟩;have n:∀{vs:List V}{xs:List OD}{D:List Addr},(∀a∈D,a∈B)->Ows b S H vs xs D->Ows b S' H' vs xs D:=λ{vs xs D} s h=>by
     induction xs generalizing vs D with
     |nil=>cases h;exact .nil
     |cons x xs f=>cases h with|cons r t=>exact .cons (g (λa h=>.inr (s a (aah _ h))) r) (f (λa h=>s a (aae _ h)) t)
    exact n (λa h=>h) t
   |succ k=>obtain⟨q,d,m,c,o,l,j,p⟩:=f t e;subst l;refine⟨q,A++d,m,c,o,(aac ..).symm,j,λh g=>?_⟩;rw[aaG,aaG,aac];exact .cons (g (λa h=>.inl (aah _ h)) r) (p h λs h=>g (λa z=>(s a z).imp (aae _) id) h)
end
end
section
structure Wd (b:Bs)(H:Hp)(L:List (V×OD)):Prop where
 out:∃A,OwL b (λa=>a∈A\/b.S0 a) H L A/\A.Nodup/\∀a∈A,b.H0 a=none\/b.C a
 fr:Kp b.C b.H0 H
 s0:∀a,b.S0 a->b.H0 a≠none/\¬ b.C a
 nt:∀a xs,H a=some (.tup xs)->¬ b.S0 a
section
variable{b:Bs}{H H1 H':Hp}{L L':List (V×OD)}{v u:V}{x y:OD}{d:PyData}{ds:List PyData}{p a:Addr}
theorem Wd.q7(w:Wd b H L)(h:OwL b (λa=>a∈A\/b.S0 a) H L A):∀a xs,H a=some (.tup xs)->¬ (a∈A\/b.S0 a):=λa xs e z=>z.elim (λz=>Ows.tl h a z xs e) (w.nt a xs e)
theorem Wd.al(w:Wd b H L)(h:OwL b (λa=>a∈A\/b.S0 a) H L A)(e:H a=none):¬ (a∈A\/b.S0 a):=λz=>z.elim (λz=>Ows.ne h a z e) λz=>(w.s0 a z).1 (w.fr.n a e)
theorem Wd.dj(w:Wd b H L){A:List Addr}(c:∀a∈A,b.H0 a=none\/b.C a):∀a∈A,¬ b.S0 a:=λa e z=>(c a e).elim (w.s0 a z).1 (w.s0 a z).2
theorem Wd.perm(w:Wd b H L)(q:L.Perm L'):Wd b H L':=by obtain⟨A,h,j,e⟩:=w.out;obtain⟨k,i,f⟩:=OwL.perm q h;refine⟨⟨k,Ows.step (Kp.refl _ _) (λc z=>.inl (z.imp (f.mem_iff.mpr) id)) (w.q7 h) (λ_ _=>rfl) i,f.nodup_iff.mp j,λa g=>e a (f.mem_iff.mpr g)⟩,w.fr,w.s0,w.nt⟩
theorem Wd.drop(w:Wd b H ((v,x)::L)):Wd b H L:=by
 obtain⟨A,h,i,e⟩:=w.out;have g:=w.q7 h;cases h with
 |@cons _ _ A _ _ B r t=>exact⟨⟨B,Ows.step (Kp.refl _ _) (λc z=>.inl (z.imp (aae _) id)) g (λ_ _=>rfl) t,(aaA.mp i).2.1,λa f=>e a (aae _ f)⟩,w.fr,w.s0,w.nt⟩
theorem Wd.drops(w:Wd b H (L1++L2)):Wd b H L2:=by
 induction L1 with
 |nil=>exact w
 |cons z L1 c=>exact c (Wd.drop w)
theorem Wd.puts(w:Wd b H (L1++L))(h:∀(S:Addr->Prop) (A:List Addr),OwL b S H L1 A->A.Nodup->(∀a∈A,S a)->(∀a,H a=none->¬ S a)->(∀a xs,H a=some (.tup xs)->¬ S a) ->
  ∃f,OwL b (λa=>(S a/\a ∉ A)\/a∈f) H L2 f/\f.Nodup/\∀a∈f,a∈A):Wd b H (L2++L):=by
 obtain⟨M,n,C,g⟩:=w.out;have j:=w.q7 n;have I:=λ{a}=>w.al n (a:=a);have ds:=w.dj g;obtain⟨A,B,rfl,r,t⟩:=OwL.ft n;obtain⟨s,J,q⟩:=aaA.mp C;obtain⟨f,G,D,l⟩:=h _ A r s (λa z=>.inl (aah _ z)) (λa e=>I e) j;have i:∀c,(c∈f++B\/b.S0 c)->(c∈A++B\/b.S0 c):=λc z=>z.imp (λz=>(aam.mp z).elim (λz=>aah _ (l c z)) (aae _)) id;refine⟨⟨f++B,OwL.il (Ows.step (Kp.refl _ _) (λc z=>.inl ?_) (λa xs e z=>?_) (λ_ _=>rfl) G) (Ows.step (Kp.refl _ _) (λc z=>.inl (i c z)) j (λ_ _=>rfl) t),aaA.mpr ⟨D,J,λa m c k=>q a (l a m) c k⟩,λa m=>?_⟩,w.fr,w.s0,w.nt⟩
 ·by_cases k:c∈f
  ·exact .inr k
  ·refine .inl ⟨i c z,λo=>?_⟩;rcases z with z|z
   ·rcases aam.mp z with z|z
    ·exact k z
    ·exact q c o c z rfl
   ·exact ds c (aah _ o) z
 ·rcases z with z|z
  ·exact j a xs e z.1
  ·exact j a xs e (.inl (aah _ (l a z)))
 ·rcases aam.mp m with z|z
  ·exact g a (aah _ (l a z))
  ·exact g a (aae _ z)
theorem OwL.one(h:OwL b S H [(v,x)] A):Ow b S H v x A:=by
 cases h with
 |cons r t=>cases t;rw[aan];exact r
theorem OwL.of1(h:Ow b S H v x A):OwL b S H [(v,x)] A:=by have:=Ows.cons h (Ows.nil );rw[aan]at this;exact this
theorem Wd.frz(w:Wd b H ((v,x)::L))(e:x.dat=some d):Wd b H ((v,.fz d)::L):=by
 refine Wd.puts (L1:=[(v,x)]) w λS A h i j g f=>⟨[],OwL.of1 (.fz ?_),aa1,λa z=>by cases z⟩
 exact Ow.frz (λa z=>z.elim (·.1) (λz=>by cases z)) f (λa c z=>z.elim (λz=>z.2 c) (λz=>by cases z)) h.one e
theorem Wd.dt(w:Wd b H ((v,x)::L))(e:x.dat=some d):Dt b.K H v d:=by obtain⟨A,c,g,f⟩:=w.out;obtain⟨B,h⟩:=OwL.mem c (x:=(v,x)) (by simp);exact(Ow.frz (λa z=>z.elim) (w.q7 c) (λa _ z=>z) h e).dt
theorem Wd.z0(w:Wd b H L)(m:(v,x)∈L)(e:x.dat=some d):Dt b.K H v d:=by obtain⟨A,c,g,f⟩:=w.out;obtain⟨B,h⟩:=OwL.mem c m;exact(Ow.frz (λa z=>z.elim) (w.q7 c) (λa _ z=>z) h e).dt
def FrzIn(b:Bs)(S:Addr->Prop)(H:Hp)(L:List (V×OD)):Prop:=∀u e,(u,OD.fz e)∈L->Fz b.K S H u e
theorem OwL.uh(h:OwL b S H L A):FrzIn b S H L:=λu e m=>by obtain⟨B,q⟩:=OwL.mem h m;cases q with|fz f=>exact f
theorem FrzIn.all(h:FrzIn b S H L):∀{vs:List V}{ds:List PyData},vs.length=ds.length->(∀z∈vs.zip (ds.map OD.fz),z∈L)->FzA b.K S H vs ds
 |[],[],_,_=>.nil
 |v::vs,d::ds,e,m=>.cons (h v d (m _ (by simp))) (FrzIn.all h (by simpa using e) λz c=>m z (by simp[c]))
theorem Wd.add(w:Wd b H L)(h:∀S:Addr->Prop,(∀(x:V×OD),x∈L->∃A,Ow b S H x.1 x.2 A)->(∀a,H a=none->¬ S a)->(∀a xs,H a=some (.tup xs)->¬ S a)->Fz b.K S H v d):Wd b H ((v,.fz d)::L):=by obtain⟨A,c,i,f⟩:=w.out;exact⟨⟨A,Ows.cons (.fz (h _ (λx g=>OwL.mem c g) (λa e=>w.al c e) (w.q7 c))) c,i,f⟩,w.fr,w.s0,w.nt⟩
theorem Wd.adds(w:Wd b H L)(h:∀S:Addr->Prop,(∀(x:V×OD),x∈L->∃A,Ow b S H x.1 x.2 A)->FzA b.K S H vs ds):Wd b H (vs.zip (ds.map OD.fz)++L):=by
 obtain⟨A,e,g,c⟩:=w.out;have q:∀{vs:List V}{ds:List PyData},FzA b.K (λa=>a∈A\/b.S0 a) H vs ds->OwL b (λa=>a∈A\/b.S0 a) H (vs.zip (ds.map OD.fz)) []:=by
  intro vs;induction vs with
  |nil=>intro ds h;cases h;exact .nil
  |cons v vs i=>intro ds h;cases h with|cons r t=>exact Ows.cons (.fz r) (i t)
 exact⟨⟨A,OwL.il (q (h _ λx f=>OwL.mem e f)) e,g,c⟩,w.fr,w.s0,w.nt⟩
theorem Wd.dup(w:Wd b H ((v,.fz d)::L)):Wd b H ((v,.fz d)::(v,.fz d)::L):=w.add λS h _ _=>by obtain⟨A,q⟩:=h (v,.fz d) (by simp);cases q with|fz f=>exact f
inductive Sc:V->PyData->Prop
 |non:Sc .non .none
 |bl (b:Bool):Sc (.bl b) (.bool b)
 |int (i:Int):Sc (.int i) (.int i)
 |str (x:Str):Sc (.str x) (.str x)
theorem Sc.fz{K:Waa}(h:Sc v d):Fz K S H v d:=by cases h<;>constructor
theorem Wd.sc(w:Wd b H L)(h:Sc v d):Wd b H ((v,.fz d)::L):=w.add λS _ _ _=>h.fz
theorem Wd.new(w:Wd b H L)(f:H p=none):Wd b (upd H p o) L:=by
 obtain⟨A,h,l,g⟩:=w.out;have i:=w.al h f;refine⟨⟨A,Ows.step (Kp.put (.inr f)) (λc z=>.inl z) (w.q7 h) (λa j=>upd_ne λe=>i (.inl (e▸j))) h,l,g⟩,w.fr.trans (Kp.put (.inr f)),w.s0,λa k e z=>?_⟩;by_cases q:a=p
 ·subst q;exact i (.inr z)
 ·rw[upd_ne q]at e;exact w.nt a k e z
theorem Wd.newC(w:Wd b H L)(c:H p=none):b.H0 p=none:=w.fr.n p c
theorem jw:∀{vs:List V}{xs:List OD},vs.length=xs.length->(vs.zip xs).map (·.1)=vs
 |[],[],_=>rfl
 |_::_,_::_,e=>by rw[abv,aap,jw (by simpa using e)]
 |[],_::_,e=>by simp at e
 |_::_,[],e=>by simp at e
theorem jx:∀{vs:List V}{xs:List OD},vs.length=xs.length->(vs.zip xs).map (·.2)=xs
 |[],[],_=>rfl
 |_::_,_::_,e=>by rw[abv,aap,jx (by simpa using e)]
 |[],_::_,e=>by simp at e
 |_::_,[],e=>by simp at e
theorem OwL.u5(e:vs.length=xs.length)(h:OwL b S H (vs.zip xs) A):Ows b S H vs xs A:=by unfold OwL at h;rw[jw e,jx e]at h;exact h
theorem OwL.j2(h:Ows b S H vs xs A):OwL b S H (vs.zip xs) A:=by unfold OwL;rw[jw h.len,jx h.len];exact h
theorem Wd.j1(w:Wd b H L)(h:∀S,FrzIn b S H L->FzA b.K S H vs ds)(f:H p=none):Wd b (upd H p (.tup vs)) ((.ref p,.fz (.tuple ds))::L):=by obtain⟨A,g,n,j⟩:=w.out;have k:=w.al g f;have l:=h _ (OwL.uh g);have i:=w.new f (o:=.tup vs);refine⟨⟨A,Ows.cons (.fz (.tup (sA aN k) (l.step (Kp.put (.inr f)) λc z=>.inl z))) (Ows.step (Kp.put (.inr f)) (λc z=>.inl z) (w.q7 g) (λa m=>upd_ne λe=>k (.inl (e▸m))) g),n,j⟩,i.fr,i.s0,i.nt⟩
theorem Wd.wj(w:Wd b H (vs.zip xs++L))(e:vs.length=xs.length)(g:H p=none):Wd b (upd H p (.tup vs)) ((.ref p,.tup xs)::L):=by obtain⟨A,j,q,h⟩:=w.out;have n:=w.al j g;have l:=w.q7 j;have i:=w.new g (o:=.tup vs);have k:∀a∈A,upd H p (.tup vs) a=H a:=λa f=>upd_ne λe=>n (.inl (e▸f));obtain⟨t,s,rfl,r,m⟩:=OwL.ft j;refine⟨⟨t++s,Ows.cons (.tup aN (Ows.step (Kp.put (.inr g)) (λc z=>.inl z) l (λa f=>k a (aah _ f)) (OwL.u5 e r))) (Ows.step (Kp.put (.inr g)) (λc z=>.inl z) l (λa f=>k a (aae _ f)) m),q,h⟩,i.fr,i.s0,i.nt⟩
theorem Wd.eu(w:Wd b H (vs.zip xs++L))(e:vs.length=xs.length)(g:H p=none):Wd b (upd H p (.lst vs)) ((.ref p,.lst xs)::L):=by
 obtain⟨A,k,t,h⟩:=w.out;have r:=w.al k g;have q:=w.q7 k;have i:=w.new g (o:=.lst vs);have m:∀a∈A,upd H p (.lst vs) a=H a:=λa f=>upd_ne λe=>r (.inl (e▸f));obtain⟨l,j,rfl,B,s⟩:=OwL.ft k;have n:∀c,(c∈p::(l++j)\/b.S0 c)->(c∈l++j\/b.S0 c)\/H c=none:=λc z=>by
  rcases z with z|z
  ·rcases aab.mp z with rfl|z
   ·exact .inr g
   ·exact .inl (.inl z)
  ·exact .inl (.inr z)
 refine⟨⟨p::(l++j),Ows.cons (.lst aN (Ows.step (Kp.put (.inr g)) n q (λa f=>m a (aah _ f)) (OwL.u5 e B))) (Ows.step (Kp.put (.inr g)) n q (λa f=>m a (aae _ f)) s),aaF.mpr ⟨λz=>r (.inl z),t⟩,λa f=>?_⟩,i.fr,i.s0,i.nt⟩;rcases aab.mp f with rfl|f
 ·exact .inl (w.newC g)
 ·exact h a f
theorem Wd.newDic(w:Wd b H L)(g:H p=none):Wd b (upd H p (.dK [])) ((.ref p,.dic [] [])::L):=by
 obtain⟨A,i,m,j⟩:=w.out;have k:=w.al i g;have l:=w.q7 i;have h:=w.new g (o:=.dK []);have n:∀c,(c∈p::A\/b.S0 c)->(c∈A\/b.S0 c)\/H c=none:=λc z=>by
  rcases z with z|z
  ·rcases aab.mp z with rfl|z
   ·exact .inr g
   ·exact .inl (.inl z)
  ·exact .inl (.inr z)
 refine⟨⟨p::A,Ows.cons (A:=[p]) (.dic aN rfl rfl .nil) (Ows.step (Kp.put (.inr g)) n l (λa f=>upd_ne λe=>k (.inl (e▸f))) i),aaF.mpr ⟨λz=>k (.inl z),m⟩,λa f=>?_⟩,h.fr,h.s0,h.nt⟩;rcases aab.mp f with rfl|f
 ·exact .inl (w.newC g)
 ·exact j a f
end
def OD.kids:OD->List OD
 |.lst xs=>xs|.tup xs=>xs|.dic _ xs=>xs|.obj _ _ xs=>xs
 |_=>[]
def OD.eo(k:Nat)(y:OD):OD->OD
 |.lst xs=>.lst (xs.set k y)|.tup xs=>.tup (xs.set k y)|.dic ks xs=>.dic ks (xs.set k y)|.obj c ns xs=>.obj c ns (xs.set k y)
 |x=>x
def OD.at:List Nat->OD->Option OD
 |[],x=>some x
 |k::ks,x=>match x.kids[k]? with|some z=>OD.at ks z|none=>none
def OD.put(y:OD):List Nat->OD->OD
 |[],_=>y
 |k::ks,x=>match x.kids[k]? with|some z=>OD.eo k (OD.put y ks z) x|none=>x
inductive Chd (b:Bs)(H:Hp):V->OD->Nat->V->OD->Prop
 |lst {a vs xs k w z}:H a=some (.lst vs)->vs.length=xs.length->vs[k]?=some w->xs[k]?=some z->Chd b H (.ref a) (.lst xs) k w z
 |tup {a vs xs k w z}:H a=some (.tup vs)->vs.length=xs.length->vs[k]?=some w->xs[k]?=some z->Chd b H (.ref a) (.tup xs) k w z
 |dic {a ws ks xs k w z}:H a=some (.dK ws)->ws.map (·.1)=ks->ws.length=xs.length->(ws[k]?).map (·.2)=some w->xs[k]?=some z->Chd b H (.ref a) (.dic ks xs) k w z
 |obj {a dx c fs ns xs k w z}:H a=some (.ins (aU b.K c) dx fs)->fs.map (·.1)=ns->fs.length=xs.length->(fs[k]?).map (·.2)=some w->xs[k]?=some z->Chd b H (.ref a) (.obj c ns xs) k w z
inductive Chn (b:Bs)(H:Hp):V->OD->List Nat->V->OD->Prop
 |nil {v x}:Chn b H v x [] v x
 |cons {v x k w z ks u y}:Chd b H v x k w z->Chn b H w z ks u y->Chn b H v x (k::ks) u y
section
variable{b:Bs}{S S':Addr->Prop}{H H1 H':Hp}{L L':List (V×OD)}{v u:V}{x y:OD}{d:PyData}{ds:List PyData}{p a:Addr}
theorem bI{f:Type}(c B e:List f):(c++(B++e)).Perm (B++(c++e)):=by rw[<-aac,<-aac];exact aa0.append_right _
theorem br{c:Type}:∀{l:List c}{i:Nat}{x:c},l[i]?=some x->l.set i x=l
 |[],_,_,e=>by simp at e
 |_::_,0,_,e=>by simp at e;subst e;rfl
 |y::l,i+1,x,e=>by rw[aaG,br (by simpa using e)]
theorem Ow.kid(h:Ow b S H v x A)(e:x.kids[k]?=some z):∃w B C,Chd b H v x k w z/\Ow b S H w z B/\A.Perm (B++C) /\
  ∀{S':Addr->Prop}{H':Hp}{z':OD}{j:List Addr},Kp S H H'->(∀c,S' c->S c\/H c=none)->(∀a xs,H a=some (.tup xs)->¬ S a)->(∀a∈C,H' a=H a)->Ow b S' H' w z' j->∃r,Ow b S' H' v (OD.eo k z' x) r/\r.Perm (j++C):=by
 cases h with
 |fz _=>cases k<;>cases e
 |pinL _ _=>cases k<;>cases e
 |pinT _ _=>cases k<;>cases e
 |hole _=>cases k<;>cases e
 |@lst a vs xs A e1 t=>obtain⟨w,g,B,f,i,rfl,l,q⟩:=t.zip e;refine⟨w,B,a::(g++f),.lst e1 t.len i e,l,((bI g B f).cons a).trans aav.symm,λ{S' H' z' j} k n hs s h=>?_⟩;have:=q h λm h=>Ow.step k n hs (λa o=>s a (aal _ (aam.mpr (m a o)))) h;rw[br i]at this;exact⟨_,.lst ((s a aaj).trans e1) this,((bI g j f).cons a).trans aav.symm⟩
 |@tup a vs xs A e1 t=>obtain⟨w,g,B,f,i,rfl,l,q⟩:=t.zip e;refine⟨w,B,g++f,.tup e1 t.len i e,l,bI g B f,λ{S' H' z' j} k n hs s h=>?_⟩;have:=q h λm h=>Ow.step k n hs (λa o=>s a (aam.mpr (m a o))) h;rw[br i]at this;exact⟨_,.tup (k.k _ _ e1 (hs _ _ e1)) this,bI g j f⟩
 |@dic a ws ks vs xs A e1 h5 h6 t=>obtain⟨w,g,B,f,i,rfl,l,q⟩:=t.zip e;refine⟨w,B,a::(g++f),.dic e1 h5 (by rw[<-t.len,<-h6,aaa]) (by rw[<-h6]at i;simpa using i) e,l,((bI g B f).cons a).trans aav.symm,λ{S' H' z' j} k n hs s h=>?_⟩;have:=q h λm h=>Ow.step k n hs (λa o=>s a (aal _ (aam.mpr (m a o)))) h;rw[br i]at this;exact⟨_,.dic ((s a aaj).trans e1) h5 h6 this,((bI g j f).cons a).trans aav.symm⟩
 |@obj a dx c fs ns vs xs A e1 e2 h5 h6 t=>
  obtain⟨w,g,B,f,i,rfl,l,q⟩:=t.zip e;have D:∀B:List Addr,(a::dx::(g++(B++f))).Perm (B++(a::dx::(g++f))):=λB=>by refine(((bI g B f).cons dx).cons a).trans ?_;exact((aav ).symm.cons a).trans aav.symm
  refine⟨w,B,a::dx::(g++f),.obj e1 h5 (by rw[<-t.len,<-h6,aaa]) (by rw[<-h6]at i;simpa using i) e,l,D B,λ{S' H' z' j} k n hs s h=>?_⟩;have:=q h λm h=>Ow.step k n hs (λa o=>s a (aal _ (aal _ (aam.mpr (m a o))))) h;rw[br i]at this;exact⟨_,.obj ((s a aaj).trans e1) ((s dx (aal _ aaj)).trans e2) h5 h6 this,D j⟩
theorem Ow.path:∀{ks:List Nat}{v:V}{x:OD}{A:List Addr}{y:OD},Ow b S H v x A->x.at ks=some y->∃u B f,Chn b H v x ks u y/\Ow b S H u y B/\A.Perm (B++f) /\
  ∀{S':Addr->Prop}{H':Hp}{j:OD}{g:List Addr},Kp S H H'->(∀c,S' c->S c\/H c=none)->(∀a xs,H a=some (.tup xs)->¬ S a)->(∀a∈f,H' a=H a)->Ow b S' H' u j g->∃i,Ow b S' H' v (OD.put j ks x) i/\i.Perm (g++f)
 |[],v,x,A,y,h,e=>by simp only[OD.at]at e;cases e;exact⟨v,A,[],.nil,h,by simp,λ{S' H' j g} _ _ _ _ h=>⟨g,h,by simp⟩⟩
 |k::ks,v,x,A,y,h,e=>by
  simp only[OD.at]at e;cases l:x.kids[k]? with
  |none=>rw[l]at e;cases e
  |some z=>rw[l]at e;simp only at e;obtain⟨w,B,f,J,I,T,C⟩:=h.kid l;obtain⟨u,D,M,G,t,N,U⟩:=Ow.path I e;refine⟨u,D,M++f,.cons J G,t,T.trans (by rw[<-aac];exact N.append_right _),λ{S' H' j g} k' n hs s h=>?_⟩;obtain⟨X,o,q⟩:=U k' n hs (λa m=>s a (aah _ m)) h;obtain⟨O,Q,r⟩:=C k' n hs (λa m=>s a (aae _ m)) o;refine⟨O,?_,r.trans (by rw[<-aac];exact q.append_right _)⟩;simp only[OD.put,l];exact Q
end
end
section
section
variable{b:Bs}{S S':Addr->Prop}{H H1 H':Hp}{L L':List (V×OD)}{v u:V}{x y:OD}{d:PyData}{ds:List PyData}{p a:Addr}{us:List V}{zs:List OD}{ks:List Nat}
theorem Wd.wh(w:Wd b H (us.zip zs++((v,x)::L)))(el:us.length=zs.length)(e:x.at ks=some y):∃(S:Addr->Prop) (u:V) (B C:List Addr),Chn b H v x ks u y/\Ow b S H u y B/\Ows b S H us zs C/\(B++C).Nodup/\(∀c∈B,S c)/\(∀c,H c=none->¬ S c)/\(∀c xs,H c=some (.tup xs)->¬ S c)/\FrzIn b S H L /\
  ∀{H':Hp}{Q:OD}{D:List Addr},(∀c,c ∉ B->H' c=H c)->(∀c∈B,∃o,H' c=some o/\MutO o)->D.Nodup->(∀c∈D,c∈B\/c∈C)->(∀S':Addr->Prop,(∀c,S' c->S c)->(∀c∈B,S' c->c∈D)->Ow b S' H' u Q D)->Wd b H' ((v,OD.put Q ks x)::L):=by
 obtain⟨A0,Z,nd,m⟩:=w.out;have O:=w.q7 Z;have al:=λ{a}=>w.al Z (a:=a);obtain⟨C,A1,rfl,hz,h1⟩:=OwL.ft Z;cases h1 with
 |@cons _ _ A _ _ E r t=>
  obtain⟨u,B,J,ch,hy,pB,go⟩:=Ow.path r e;obtain⟨nC,a0,s⟩:=aaA.mp nd;obtain⟨nA,nE,l⟩:=aaA.mp a0;have U:=pB.nodup_iff.mp nA;obtain⟨nB,X,G⟩:=aaA.mp U;have f:∀c,c∈A ↔ c∈B\/c∈J:=λc=>by rw[pB.mem_iff,aam]
  refine⟨_,u,B,C,ch,hy,OwL.u5 el hz,aaA.mpr ⟨nB,nC,λc h M i e=>s M i c (aah _ ((f c).mpr (.inl h))) e.symm⟩,λc h=>.inl (aae _ (aah _ ((f c).mpr (.inl h)))),λc e=>al e,O,OwL.uh t,λ{H' Q D} hk hm nD sD hO=>?_⟩;have kp:Kp (λc=>c∈C++(A++E)\/b.S0 c) H H':=⟨λc o e n=>by
    rw[hk c λz=>n (.inl (aae _ (aah _ ((f c).mpr (.inl z)))))];exact e,λc e=>by
    by_cases z:c∈B
    ·obtain⟨o,q,_⟩:=hm c z;rw[q]at e;cases e
    ·rw[hk c z]at e;exact e⟩
  have j:∀c,(c∈(D++J)++E\/b.S0 c)->(c∈C++(A++E)\/b.S0 c):=λc z=>z.imp (λz=>by
   rcases aam.mp z with z|z
   ·rcases aam.mp z with z|z
    ·rcases sD c z with z|z
     ·exact aae _ (aah _ ((f c).mpr (.inl z)))
     ·exact aah _ z
    ·exact aae _ (aah _ ((f c).mpr (.inr z)))
   ·exact aae _ (aae _ z)) id
  obtain⟨N,hx,pA⟩:=go kp (λc z=>.inl (j c z)) O (λc h=>hk c λz=>G c z c h rfl) (hO _ j λc h z=>by
   rcases z with z|z
   ·rcases aam.mp z with z|z
    ·rcases aam.mp z with z|z
     ·exact z
     ·exact absurd rfl (G c h c z)
    ·exact absurd rfl (l c ((f c).mpr (.inl h)) c z)
   ·exact absurd z (w.dj m c (aae _ (aah _ ((f c).mpr (.inl h))))))
  have g:∀c,c∈N ↔ c∈D++J:=λc=>pA.mem_iff;have I:∀c xs,H' c=some (.tup xs)->¬ (c∈(D++J)++E\/b.S0 c):=λc xs e z=>by
   by_cases q:c∈B
   ·obtain⟨o,q1,q2⟩:=hm c q;rw[q1]at e;cases e;exact q2
   ·rw[hk c q]at e;exact O c xs e (j c z)
  have Y:∀c∈D,∀M∈J,c≠M:=λc h M i e=>by
   subst e;rcases sD c h with z|z
   ·exact G c z c i rfl
   ·exact s c z c (aah _ ((f c).mpr (.inr i))) rfl
  refine⟨⟨N++E,Ows.cons (Ow.sub I (λc z=>z.imp (λz=>(aam.mp z).elim (λz=>aah _ ((g c).mp z)) (aae _)) id) hx) (Ows.step kp (λc z=>.inl (j c (z.imp (λz=>(aam.mp z).elim (λz=>aah _ ((g c).mp z)) (aae _)) id))) O (λc h=>hk c λz=>l c ((f c).mpr (.inl z)) c h rfl) t),?_,λc h=>?_⟩,?_,w.s0,λc xs e z=>?_⟩
  ·refine aaA.mpr ⟨pA.nodup_iff.mpr (aaA.mpr ⟨nD,X,Y⟩),nE,λc h M i e=>?_⟩;subst e;rcases aam.mp ((g c).mp h) with z|z
   ·rcases sD c z with z|z
    ·exact l c ((f c).mpr (.inl z)) c i rfl
    ·exact s c z c (aae _ i) rfl
   ·exact l c ((f c).mpr (.inr z)) c i rfl
  ·have:c∈C++(A++E)\/b.S0 c:=j c (.inl ((aam.mp h).elim (λz=>aah _ ((g c).mp z)) (aae _)));have T:c∈C++(A++E):=by
    rcases aam.mp h with z|z
    ·rcases aam.mp ((g c).mp z) with z|z
     ·rcases sD c z with z|z
      ·exact aae _ (aah _ ((f c).mpr (.inl z)))
      ·exact aah _ z
     ·exact aae _ (aah _ ((f c).mpr (.inr z)))
    ·exact aae _ (aae _ z)
   exact m c T
  ·refine⟨λc o e n=>?_,λc e=>w.fr.n c (kp.n c e)⟩;rw[hk c λz=>?_]
   ·exact w.fr.k c o e n
   ·rcases m c (aae _ (aah _ ((f c).mpr (.inl z)))) with q|q
    ·rw[q]at e;cases e
    ·exact n q
  ·exact I c xs e (.inr z)
theorem Wd.sx(w:Wd b H (us.zip zs++((v,x)::L)))(Y:us.length=zs.length)(e:x.at ks=some (.lst xs)):∃a vs,Chn b H v x ks (.ref a) (.lst xs)/\H a=some (.lst vs)/\vs.length=xs.length /\
  ∀f i,(∀(S:Addr->Prop) (H:Hp) (A C:List Addr),(∀c xs,H c=some (.tup xs)->¬ S c)->Ows b S H vs xs A->Ows b S H us zs C->(A++C).Nodup->∃D,Ows b S H f i D/\D.Nodup/\∀c∈D,c∈A\/c∈C)->Wd b (upd H a (.lst f)) ((v,OD.put (.lst i) ks x)::L):=by
 obtain⟨S,u,B,C,ch,Q,N,O,T,al,j,fi,M⟩:=w.wh Y e;cases Q with
 |@lst a vs _ A e1 t=>
  refine⟨a,vs,ch,e1,t.len,λf i U=>?_⟩;obtain⟨k,s⟩:=aaF.mp (show (a::(A++C)).Nodup from O);have l:∀c,c≠a->upd H a (.lst f) c=H c:=λc n=>upd_ne n;have J:Kp S H (upd H a (.lst f)):=Kp.put (.inl (T a (by simp)));have r:∀S':Addr->Prop,(∀c,S' c->S c)->∃D,Ows b S' (upd H a (.lst f)) f i D/\D.Nodup/\∀c∈D,c∈A\/c∈C:=λS' h=>by
   refine U S' _ A C (λc xs e z=>?_) (Ows.step J (λc z=>.inl (h c z)) j (λc g=>l c λe=>k (e▸aah _ g)) t) (Ows.step J (λc z=>.inl (h c z)) j (λc g=>l c λe=>k (e▸aae _ g)) N) s;by_cases q:c=a
   ·subst q;rw[aN]at e;cases e
   ·rw[upd_ne q]at e;exact j c xs e (h c z)
  obtain⟨D,Z,X,I⟩:=r S λ_ z=>z;have G:∀c xs,upd H a (.lst f) c=some (.tup xs)->¬ S c:=λc xs e z=>by
   by_cases q:c=a
   ·subst q;rw[aN]at e;cases e
   ·rw[upd_ne q]at e;exact j c xs e z
  refine M (λc n=>l c λe=>n (by simp[e])) (λc g=>?_) (aaF.mpr ⟨λz=>k (by rcases I a z with z|z<;>simp[z]),X⟩) (λc g=>?_) λS' h _=>.lst aN (Ows.sub G h Z)
  ·rcases aab.mp g with rfl|g
   ·exact⟨_,aN,trivial⟩
   ·obtain⟨o,q,m⟩:=t.mu c g;exact⟨o,by rw[l c λe=>k (e▸aah _ g)];exact q,m⟩
  ·rcases aab.mp g with rfl|g
   ·exact .inl (by simp)
   ·exact(I c g).imp (aal _) id
theorem Wd.ub(w:Wd b H (us.zip zs++((v,x)::L)))(Z:us.length=zs.length)(e:x.at ks=some (.dic kk xs)):∃a ws,Chn b H v x ks (.ref a) (.dic kk xs)/\H a=some (.dK ws)/\ws.map (·.1)=kk/\ws.length=xs.length /\
  ∀f h i,f.map (·.1)=h->(∀(S:Addr->Prop) (H:Hp) (A C:List Addr),(∀c xs,H c=some (.tup xs)->¬ S c)->Ows b S H (ws.map (·.2)) xs A->Ows b S H us zs C->(A++C).Nodup->∃D,Ows b S H (f.map (·.2)) i D/\D.Nodup/\∀c∈D,c∈A\/c∈C)->Wd b (upd H a (.dK f)) ((v,OD.put (.dic h i) ks x)::L):=by
 obtain⟨S,u,B,C,ch,T,O,Q,U,al,r,fi,N⟩:=w.wh Z e;cases T with
 |@dic a ws _ vs _ A e1 h5 h6 t=>
  subst h6;refine⟨a,ws,ch,e1,h5,by have:=t.len;rwa [aaa]at this,λf h i I X=>?_⟩;obtain⟨k,s⟩:=aaF.mp (show (a::(A++C)).Nodup from Q);have l:∀c,c≠a->upd H a (.dK f) c=H c:=λc n=>upd_ne n;have M:Kp S H (upd H a (.dK f)):=Kp.put (.inl (U a (by simp)));have j:∀c xs,upd H a (.dK f) c=some (.tup xs)->¬ S c:=λc xs e z=>by
   by_cases q:c=a
   ·subst q;rw[aN]at e;cases e
   ·rw[upd_ne q]at e;exact r c xs e z
  obtain⟨D,hD,Y,J⟩:=X S _ A C j (Ows.step M (λc z=>.inl z) r (λc g=>l c λe=>k (e▸aah _ g)) t) (Ows.step M (λc z=>.inl z) r (λc g=>l c λe=>k (e▸aae _ g)) O) s;refine N (λc n=>l c λe=>n (by simp[e])) (λc g=>?_) (aaF.mpr ⟨λz=>k (by rcases J a z with z|z<;>simp[z]),Y⟩) (λc g=>?_) λS' G _=>.dic aN I rfl (Ows.sub j G hD)
  ·rcases aab.mp g with rfl|g
   ·exact⟨_,aN,trivial⟩
   ·obtain⟨o,q,m⟩:=t.mu c g;exact⟨o,by rw[l c λe=>k (e▸aah _ g)];exact q,m⟩
  ·rcases aab.mp g with rfl|g
   ·exact .inl (by simp)
   ·exact(J c g).imp (aal _) id
theorem Chd.det(h:Chd b H v x k w z)(h':Chd b H v x k w' z'):w=w'/\z=z':=by
 cases h with
 |lst g m j i=>cases h' with|lst c l f e=>rw[g]at c;cases c;rw[j]at f;cases f;rw[i]at e;cases e;exact⟨rfl,rfl⟩
 |tup g m j i=>cases h' with|tup c l f e=>rw[g]at c;cases c;rw[j]at f;cases f;rw[i]at e;cases e;exact⟨rfl,rfl⟩
 |dic g m o j i=>cases h' with|dic c l n f e=>rw[g]at c;cases c;rw[j]at f;cases f;rw[i]at e;cases e;exact⟨rfl,rfl⟩
 |obj g m o j i=>cases h' with|obj c l n f e=>rw[g]at c;cases c;rw[j]at f;cases f;rw[i]at e;cases e;exact⟨rfl,rfl⟩
theorem Chd.same(h:Chd b H v x k w z)(h':Chd b H v (OD.eo k y x) k w' y'):w=w':=by
 cases h with
 |lst f m g i=>cases h' with|lst c j e l=>rw[f]at c;cases c;rw[g]at e;cases e;rfl
 |tup f m g i=>cases h' with|tup c j e l=>rw[f]at c;cases c;rw[g]at e;cases e;rfl
 |dic f m o g i=>cases h' with|dic c j n e l=>rw[f]at c;cases c;rw[g]at e;cases e;rfl
 |obj f m o g i=>cases h' with|obj c j n e l=>rw[f]at c;cases c;rw[g]at e;cases e;rfl
theorem Chd.kid(h:Chd b H v x k w z):x.kids[k]?=some z:=by
 cases h with
 |lst _ _ _ e=>exact e
 |tup _ _ _ e=>exact e
 |dic _ _ _ _ e=>exact e
 |obj _ _ _ _ e=>exact e
theorem Chd.set(h:Chd b H v x k w z):(OD.eo k y x).kids[k]?=some y:=by
 cases h with
 |lst _ _ _ e=>exact aa5 (aai.mp e).1
 |tup _ _ _ e=>exact aa5 (aai.mp e).1
 |dic _ _ _ _ e=>exact aa5 (aai.mp e).1
 |obj _ _ _ _ e=>exact aa5 (aai.mp e).1
theorem Wd.uk(w:Wd b H ((v,x)::L))(e:x.at ks=some y)(Q:y.dat=some d):∃u,Chn b H v x ks u y/\Wd b H ((u,.fz d)::(v,OD.put (.fz d) ks x)::L):=by
 obtain⟨S,u,B,C,m,l,hz,nd,hS,al,r,fi,D⟩:=Wd.wh (us:=[]) (zs:=[]) w rfl e;have X:Wd b H ((v,OD.put (.fz d) ks x)::L):=D (λ_ _=>rfl) (λc i=>l.mu c i) aa1 (λc i=>by cases i) λS' g U=>.fz (Ow.frz g r (λa t z=>by cases U a t z) l Q);refine⟨u,m,X.add λj J G T=>?_⟩;obtain⟨A1,O⟩:=J (v,OD.put (.fz d) ks x) (by simp);have q:∀{ks:List Nat}{v u:V}{x:OD}{A:List Addr},Chn b H v x ks u y->Ow b j H v (OD.put (.fz d) ks x) A->Fz b.K j H u d:=λ{ks}=>by
  induction ks with
  |nil=>intro v u x A c o;cases c;simp only[OD.put]at o;cases o with|fz f=>exact f
  |cons k ks M=>
   intro v u x A c o;cases c with
   |cons h I=>have Y:=h.kid;simp only[OD.put,Y]at o;obtain⟨Z,B',A',N,s,_⟩:=o.kid h.set;have n:=h.same N;subst n;exact M I s
 exact q m O
end
end
section
abbrev DSp:=List OD->(OD->List OD->Prop)->Prop
def IF(K:Waa)(S:Addr->Prop)(A:List Addr)(vs:List V)(H:Hp)(Q:VK)(x:OD)(ys:List OD):Prop:=∀v b B,Kp (λa=>a∈A) H b ->
 Ows ⟨K,H,S,λa=>a∈A⟩ (λa=>a∈B\/S a) b (v::vs) (x::ys) B->B.Nodup->(∀a∈B,H a=none\/a∈A)->Q v b
def toSp(K:Waa)(sp:DSp):Sp:=λc H Q _=>∃(S:Addr->Prop) (b:List OD) (A:List Addr),(∀a,S a->H a≠none/\a ∉ A)/\(∀a b,H a=some (.tup b)->¬ S a) /\
 Ows ⟨K,H,S,λa=>a∈A⟩ (λa=>a∈A\/S a) H c b A/\A.Nodup/\sp b (IF K S A c H Q)
def wt(sp:DSp):Prop:=∀a (P R:OD->List OD->Prop),(∀x b,P x b->R x b)->sp a P->sp a R
section
variable{b:Bs}{H H':Hp}{L:List (V×OD)}{v:V}{x:OD}
theorem Wd.call(w:Wd b H (us.zip xs++L))(el:us.length=xs.length)(m:wt sp)
  (h:sp xs λx ys=>us.length=ys.length->∀v H',Wd b H' ((v,x)::(us.zip ys++L))->Q v H'):toSp b.K sp us H Q E:=by
 obtain⟨A0,G,U,f⟩:=w.out;have q:=w.q7 G;have u:=λ{a}=>w.al G (a:=a);obtain⟨A,j,rfl,Y,O⟩:=OwL.ft G;obtain⟨S,D,r⟩:=aaA.mp U;have p:=w.dj f;refine⟨λa=>a∈j\/b.S0 a,xs,A,λa z=>⟨λe=>u e (z.imp (aae _) id),λd=>?_⟩,λa xs e z=>q a xs e (z.imp (aae _) id),?_,S,m _ _ _ (λx ys N v H' B t J nB I=>?_) h⟩
 ·rcases z with z|z
  ·exact r a d a z rfl
  ·exact p a (aah _ d) z
 ·refine Ows.subB (b2:=⟨b.K,H,λa=>a∈j\/b.S0 a,λa=>a∈A⟩) (b:=b) rfl q (λc z=>?_) (OwL.u5 el Y);rcases z with z|z|z
  ·exact .inl (aah _ z)
  ·exact .inl (aae _ z)
  ·exact .inr z
 have C:us.length=ys.length:=by have:=J.len;simpa using this
 have g:∀a,a ∉ A->H a≠none->H' a=H a:=λa d i=>by
  cases e:H a with
  |none=>exact absurd e i
  |some o=>exact t.k a o e d
 have y:Kp (λa=>a∈A++j\/b.S0 a) H H':=t.weak λc s=>.inl (.inl (aah _ s));have X:∀c,(c∈B++j\/b.S0 c)->(c∈A++j\/b.S0 c)\/H c=none:=λc z=>by
  rcases z with z|z
  ·rcases aam.mp z with z|z
   ·exact(I c z).elim .inr λz=>.inl (.inl (aah _ z))
   ·exact .inl (.inl (aae _ z))
  ·exact .inl (.inr z)
 have l:∀a xs,H' a=some (.tup xs)->¬ (a∈B\/a∈j\/b.S0 a):=λa xs e z=>by
  rcases z with z|z
  ·exact J.tl a z xs e
  ·have d:a ∉ A:=λd=>by
    rcases z with z|z
    ·exact r a d a z rfl
    ·exact p a (aah _ d) z
   have Z:H a≠none:=λe=>u e (z.imp (aae _) id);rw[g a d Z]at e;exact q a xs e (z.imp (aae _) id)
 have T:((v,x)::(us.zip ys++L))=((v::us).zip (x::ys))++L:=rfl;refine N C v H' ?_;rw[T];refine⟨⟨B++j,OwL.il (OwL.j2 (Ows.subB (b2:=b) (b:=⟨b.K,H,λa=>a∈j\/b.S0 a,λa=>a∈A⟩) rfl l (λc z=>?_) J)) (Ows.step y X q (λa i=>g a (λd=>r a d a i rfl) λe=>u e (.inl (aae _ i))) O),aaA.mpr ⟨nB,D,λa i c s e=>?_⟩,λa i=>?_⟩,?_,w.s0,λa xs e z=>l a xs e (.inr (.inr z))⟩
 ·rcases z with z|z
  ·exact(aam.mp z).imp id .inl
  ·exact .inr (.inr z)
 ·subst e;rcases I a i with z|z
  ·exact u z (.inl (aae _ s))
  ·exact r a z a s rfl
 ·rcases aam.mp i with z|z
  ·rcases I a z with z|z
   ·exact .inl (w.newC z)
   ·exact f a (aah _ z)
  ·exact f a (aae _ z)
 ·refine⟨λc o e M=>t.k c o (w.fr.k c o e M) λd=>?_,λc e=>w.fr.n c (t.n c e)⟩;rcases f c (aah _ d) with z|z
  ·rw[z]at e;cases e
  ·exact M z
theorem Wd.pin(w:Wd b H ((v,.fz d)::L))(e:d=if l then .list ds else .tuple ds):∃xs,Wd b H ((v,.pin l xs ds)::L):=by
 obtain⟨j,i,h,c⟩:=w.out;cases i with
 |cons r t=>
  cases r with
  |fz r=>
   cases l with
   |true=>subst e;obtain⟨a,xs,rfl,g,f⟩:=r.rd;exact⟨xs,⟨⟨_,Ows.cons (.pinL g f) t,h,c⟩,w.fr,w.s0,w.nt⟩⟩
   |false=>subst e;obtain⟨a,xs,rfl,g,f⟩:=r.r3;exact⟨xs,⟨⟨_,Ows.cons (.pinT g f) t,h,c⟩,w.fr,w.s0,w.nt⟩⟩
theorem Wd.pinned(w:Wd b H L)(m:(v,OD.pin l xs ds)∈L):∃a,v=.ref a/\xs.length=ds.length/\(if l then SqL b.K H a xs else SqT b.K H a xs)/\Wd b H (xs.zip (ds.map OD.fz)++L):=by
 obtain⟨A,f,i,g⟩:=w.out;obtain⟨B,h⟩:=OwL.mem f m;have q:Wd b H (xs.zip (ds.map OD.fz)++L):=w.adds λS e=>by
  obtain⟨B,h⟩:=e _ m;cases h with
  |pinL _ t=>exact t
  |pinT _ t=>exact t
 cases h with
 |pinL d c=>exact⟨_,rfl,c.length,d.now,q⟩
 |pinT d c=>exact⟨_,rfl,c.length,d.now,q⟩
end
end
section
abbrev DEnv:=List (Option OD)
def flat:St->DEnv->List (V×OD)
 |some v::σ,some x::ρ=>(v,x)::flat σ ρ
 |_::σ,_::ρ=>flat σ ρ
 |_,_=>[]
def Wf:St->DEnv->Prop
 |[],[]=>True
 |_::σ,none::ρ=>Wf σ ρ
 |some _::σ,some _::ρ=>Wf σ ρ
 |_,_=>False
section
variable{σ:St}{ρ:DEnv}{i:Nat}{x y:OD}{v u:V}
theorem bf:flat (o::σ) (none::ρ)=flat σ ρ:=by cases o<;>rfl
theorem Wf.get:∀{σ:St}{ρ:DEnv}{i:Nat},Wf σ ρ->ρ[i]?=some (some x)->∃v,σ[i]?=some (some v)
 |[],[],_,_,e=>by simp at e
 |[],_::_,_,h,_=>by simp[Wf]at h
 |_::_,[],_,_,e=>by simp at e
 |some v::_,some _::_,0,_,_=>⟨v,rfl⟩
 |none::_,some _::_,_,h,_=>by simp[Wf]at h
 |o::_,none::_,0,_,e=>by simp at e
 |o::σ,none::ρ,i+1,h,e=>by obtain⟨v,q⟩:=Wf.get (ρ:=ρ) h (by simpa using e);exact⟨v,by simpa using q⟩
 |some _::σ,some _::ρ,i+1,h,e=>by obtain⟨v,q⟩:=Wf.get (ρ:=ρ) h (by simpa using e);exact⟨v,by simpa using q⟩
theorem Wf.len:∀{σ:St}{ρ:DEnv},Wf σ ρ->σ.length=ρ.length
 |[],[],_=>rfl
 |[],_::_,h=>by simp[Wf]at h
 |_::_,[],h=>by simp[Wf]at h
 |o::σ,none::ρ,h=>by simp[Wf.len (σ:=σ) h]
 |some _::σ,some _::ρ,h=>by simp[Wf.len (ρ:=ρ) h]
 |none::_,some _::_,h=>by simp[Wf]at h
theorem Wf.off:∀{σ:St}{ρ:DEnv}{i:Nat},Wf σ ρ->Wf σ (ρ.set i none)
 |[],[],_,_=>trivial
 |[],_::_,_,h=>by simp[Wf]at h
 |_::_,[],_,h=>by simp[Wf]at h
 |o::σ,none::ρ,0,h=>h
 |some _::σ,some _::ρ,0,h=>h
 |none::_,some _::_,_,h=>by simp[Wf]at h
 |o::σ,none::ρ,i+1,h=>Wf.off (σ:=σ) h
 |some _::σ,some _::ρ,i+1,h=>Wf.off (i:=i) h
theorem Wf.put:∀{σ:St}{ρ:DEnv}{i:Nat},Wf σ ρ->Wf (σ.set i (some v)) (ρ.set i (some x))
 |[],[],_,_=>trivial
 |[],_::_,_,h=>by simp[Wf]at h
 |_::_,[],_,h=>by simp[Wf]at h
 |o::σ,none::ρ,0,h=>h
 |some _::σ,some _::ρ,0,h=>h
 |none::_,some _::_,_,h=>by simp[Wf]at h
 |o::σ,none::ρ,i+1,h=>Wf.put (σ:=σ) h
 |some _::σ,some _::ρ,i+1,h=>Wf.put (i:=i) h
theorem bo:∀{σ:St}{ρ:DEnv}{i:Nat},ρ[i]?=some (some x)->σ[i]?=some (some v)->(flat σ ρ).Perm ((v,x)::flat σ (ρ.set i none))
 |[],_,_,_,e=>by simp at e
 |_::_,[],_,e,_=>by simp at e
 |some u::σ,some y::ρ,0,e,e'=>by simp at e e';subst e e';exact .refl _
 |none::_,_::_,0,_,e=>by simp at e
 |some _::_,none::_,0,e,_=>by simp at e
 |o::σ,none::ρ,i+1,e,e'=>by rw[aaG,bf,bf];exact bo (by simpa using e) (by simpa using e')
 |some u::σ,some y::ρ,i+1,e,e'=>by rw[aaG];exact((bo (σ:=σ) (by simpa using e) (by simpa using e')).cons _).trans (List.Perm.swap _ _ _)
 |none::σ,some y::ρ,i+1,e,e'=>by rw[aaG];exact bo (by simpa using e) (by simpa using e')
theorem cx:∀{σ:St}{ρ:DEnv}{i:Nat},i<ρ.length->σ.length=ρ.length->(flat (σ.set i (some v)) (ρ.set i (some x))).Perm ((v,x)::flat σ (ρ.set i none))
 |_,[],_,h,_=>by simp at h
 |[],_::_,_,_,h=>by simp at h
 |o::σ,y::ρ,0,_,_=>by rw[ab6,ab6,ab6,bf];exact .refl _
 |o::σ,none::ρ,i+1,h,h'=>by rw[aaG,aaG,aaG,bf,bf];exact cx (by simpa using h) (by simpa using h')
 |none::σ,some _::ρ,i+1,h,h'=>by rw[aaG,aaG,aaG];exact cx (σ:=σ) (by simpa using h) (by simpa using h')
 |some u::σ,some y::ρ,i+1,h,h'=>by rw[aaG,aaG,aaG];exact((cx (by simpa using h) (by simpa using h')).cons _).trans (List.Perm.swap _ _ _)
theorem set_self{a:Type}:∀{l:List a}{i:Nat}{x:a},l[i]?=some x->l.set i x=l
 |[],_,_,e=>by simp at e
 |_::_,0,_,e=>by simp at e;subst e;rfl
 |y::l,i+1,x,e=>by rw[aaG,set_self (by simpa using e)]
end
inductive OR where|val (x:OD)|rf (i:Nat)
def stk:List V->List OR->List (V×OD)
 |v::τ,.val x::θ=>(v,x)::stk τ θ
 |_::τ,.rf _::θ=>stk τ θ
 |_,_=>[]
def Al(σ:St):List V->List OR->Prop
 |[],[]=>True
 |_::τ,.val _::θ=>Al σ τ θ
 |v::τ,.rf i::θ=>σ[i]?=some (some v)/\Al σ τ θ
 |_,_=>False
structure Fr where
 σ:St
 ρ:DEnv
 τ:List V
 θ:List OR
def ff(F:List Fr):List (V×OD):=F.flatMap λf=>stk f.τ f.θ++flat f.σ f.ρ
structure Rel (b:Bs)(F:List Fr)(σ:St)(H:Hp)(ρ:DEnv)(τ:List V)(θ:List OR):Prop where
 wf:Wf σ ρ
 al:Al σ τ θ
 wff:∀f∈F,Wf f.σ f.ρ/\Al f.σ f.τ f.θ
 wd:Wd b H (stk τ θ++(flat σ ρ++ff F))
def au(ρ:DEnv):OR->Option PyData
 |.val x=>x.dat
 |.rf i=>(ρ[i]?.join).bind OD.dat
section
variable{b:Bs}{F:List Fr}{σ:St}{H H':Hp}{ρ ρ':DEnv}{τ vs:List V}{θ rs:List OR}{v u:V}{r:OR}{x y:OD}{d:PyData}{i:Nat}
theorem join_some{a:Type}{o:Option (Option a)}{x:a}(h:o.join=some x):o=some (some x):=by
 cases o with
 |none=>cases h
 |some o=>exact congrArg some h
theorem Al.len:∀{τ:List V}{θ:List OR},Al σ τ θ->τ.length=θ.length
 |[],[],_=>rfl
 |[],_::_,h=>by simp[Al]at h
 |_::_,[],h=>by simp[Al]at h
 |_::τ,.val _::θ,h=>by simp[Al.len (τ:=τ) h]
 |_::τ,.rf _::θ,h=>by simp[Al.len h.2]
theorem aJ:∀{vs τ:List V}{rs θ:List OR},vs.length=rs.length->stk (vs++τ) (rs++θ)=stk vs rs++stk τ θ
 |[],_,[],_,_=>rfl
 |_::vs,τ,.val _::rs,θ,e=>by simp only[aaJ,stk];rw[aJ (by simpa using e)]
 |_::vs,τ,.rf _::rs,θ,e=>by simp only[aaJ,stk];exact aJ (by simpa using e)
 |[],_,_::_,_,e=>by simp at e
 |_::_,_,[],_,e=>by simp at e
theorem aZ:∀{vs τ:List V}{rs θ:List OR},vs.length=rs.length->(Al σ (vs++τ) (rs++θ) ↔ Al σ vs rs/\Al σ τ θ)
 |[],_,[],_,_=>by simp[Al]
 |_::vs,τ,.val _::rs,θ,e=>by simp only[aaJ,Al];exact aZ (by simpa using e)
 |_::vs,τ,.rf _::rs,θ,e=>by simp only[aaJ,Al];rw[aZ (by simpa using e),and_assoc]
 |[],_,_::_,_,e=>by simp at e
 |_::_,_,[],_,e=>by simp at e
theorem Rel.rot(R:Rel b F σ H ρ (vs++v::τ) (rs++r::θ))(e:vs.length=rs.length):Rel b F σ H ρ (v::vs++τ) (r::rs++θ):=by
 obtain⟨f,g⟩:=(aZ e).mp R.al;have a:Al σ [v] [r]/\Al σ τ θ:=(aZ rfl).mp g;refine⟨R.wf,(aZ (vs:=[v]) (rs:=[r]) rfl).mpr ⟨a.1,(aZ e).mpr ⟨f,a.2⟩⟩,R.wff,R.wd.perm ?_⟩;refine acq _ ?_;have c:stk (v::vs++τ) (r::rs++θ)=stk [v] [r]++(stk vs rs++stk τ θ):=by rw[<-aJ e,<-aJ rfl];rfl
 have h:stk (vs++v::τ) (rs++r::θ)=stk vs rs++(stk [v] [r]++stk τ θ):=by rw[aJ e,<-aJ (rs:=[r]) rfl];rfl
 rw[c,h,<-aac,<-aac];exact aa0.append_right _
theorem Rel.z4(R:Rel b F σ H ρ (v::vs++τ) (r::rs++θ))(e:vs.length=rs.length):Rel b F σ H ρ (vs++v::τ) (rs++r::θ):=by
 obtain⟨c,g⟩:=(aZ (vs:=[v]) (rs:=[r]) rfl).mp R.al;obtain⟨f,h⟩:=(aZ e).mp g;refine⟨R.wf,(aZ e).mpr ⟨f,(aZ rfl).mpr ⟨c,h⟩⟩,R.wff,R.wd.perm ?_⟩;refine acq _ ?_;have a:stk (v::vs++τ) (r::rs++θ)=stk [v] [r]++(stk vs rs++stk τ θ):=by rw[<-aJ e,<-aJ rfl];rfl
 have j:stk (vs++v::τ) (rs++r::θ)=stk vs rs++(stk [v] [r]++stk τ θ):=by rw[aJ e,<-aJ (rs:=[r]) rfl];rfl
 rw[a,j,<-aac,<-aac];exact aa0.append_right _
theorem Rel.drop(R:Rel b F σ H ρ (v::τ) (r::θ)):Rel b F σ H ρ τ θ:=by
 cases r with
 |val x=>exact⟨R.wf,R.al,R.wff,R.wd.drop⟩
 |rf i=>exact⟨R.wf,R.al.2,R.wff,R.wd⟩
theorem Rel.drops(R:Rel b F σ H ρ (vs++τ) (rs++θ))(e:vs.length=rs.length):Rel b F σ H ρ τ θ:=by
 induction vs generalizing rs with
 |nil=>cases rs with
  |nil=>exact R
  |cons _ _=>simp at e
 |cons v vs a=>cases rs with
  |nil=>simp at e
  |cons r rs=>exact a (Rel.drop R) (by simpa using e)
theorem Rel.sc(R:Rel b F σ H ρ τ θ)(h:Sc v d):Rel b F σ H ρ (v::τ) (.val (.fz d)::θ):=⟨R.wf,R.al,R.wff,R.wd.sc h⟩
theorem Rel.slot(R:Rel b F σ H ρ τ θ)(e:ρ[i]?=some (some x)):∃v,σ[i]?=some (some v)/\Wd b H ((v,x)::(stk τ θ++(flat σ (ρ.set i none)++ff F))):=by obtain⟨v,a⟩:=R.wf.get e;refine⟨v,a,R.wd.perm ?_⟩;refine((bo e a).append_right _ |>.append_left _).trans ?_;exact aav
theorem Rel.u4(c:Wf σ ρ)(e:Al (σ.set i (some v)) τ θ)(a:∀f∈F,Wf f.σ f.ρ/\Al f.σ f.τ f.θ)(g:i<ρ.length)(w:Wd b H ((v,x)::(stk τ θ++(flat σ (ρ.set i none)++ff F)))):Rel b F (σ.set i (some v)) H (ρ.set i (some x)) τ θ:=by refine⟨c.put,e,a,w.perm ?_⟩;refine(aav.symm).trans ?_;exact((cx g c.len).symm.append_right _).append_left _
theorem Rel.back(c:Wf σ ρ)(g:Al σ τ θ)(a:∀f∈F,Wf f.σ f.ρ/\Al f.σ f.τ f.θ)(ev:σ[i]?=some (some v))(w:Wd b H ((v,x)::(stk τ θ++(flat σ (ρ.set i none)++ff F)))):Rel b F σ H (ρ.set i (some x)) τ θ:=by
 have h:i<ρ.length:=by rw[<-c.len];exact(aai.mp ev).1
 have e:σ.set i (some v)=σ:=set_self ev;have:=Rel.u4 c (by rw[e];exact g) a h w;rw[e]at this;exact this
theorem Rel.dt(R:Rel b F σ H ρ (v::τ) (r::θ))(e:au ρ r=some d):Dt b.K H v d:=by
 cases r with
 |val x=>exact R.wd.z0 (by simp[stk]) e
 |rf i=>
  simp only[au,aaK]at e;obtain⟨x,a,f⟩:=e;obtain⟨u,c,w⟩:=R.drop.slot (join_some a);have:v=u:=by have:=R.al.1;rw[c]at this;cases this;rfl
  subst this;exact w.z0 (aaj) f
theorem Rel.dt2(R:Rel b F σ H ρ (u::v::τ) (a::r::θ))(e:au ρ r=some d):Dt b.K H v d:=(R.drop).dt e
theorem Rel.frzS(R:Rel b F σ H ρ τ θ)(e:ρ[i]?=some (some x))(c:x.dat=some d):Rel b F σ H (ρ.set i (some (.fz d))) τ θ:=by obtain⟨v,a,w⟩:=R.slot e;exact Rel.back R.wf R.al R.wff a (w.frz c)
theorem Rel.dupS(R:Rel b F σ H ρ τ θ)(e:ρ[i]?=some (some (.fz d)))(ev:σ[i]?=some (some v)):Rel b F σ H ρ (v::τ) (.val (.fz d)::θ):=by obtain⟨u,a,w⟩:=R.slot e;rw[ev]at a;cases a;have f:=w.dup;have c:ρ.set i (some (.fz d))=ρ:=set_self e;have:=Rel.back (i:=i) (τ:=v::τ) (θ:=.val (.fz d)::θ) R.wf R.al R.wff ev (f.perm (List.Perm.swap _ _ _));rw[c]at this;exact this
def frz1(ρ:DEnv):OR->Option (PyData×DEnv)
 |.val x=>x.dat.map (·,ρ)
 |.rf i=>(ρ[i]?.join).bind λx=>x.dat.map λd=>(d,ρ.set i (some (.fz d)))
theorem Rel.frz1(R:Rel b F σ H ρ (v::τ) (r::θ))(e:frz1 ρ r=some (d,ρ')):Rel b F σ H ρ' (v::τ) (.val (.fz d)::θ):=by
 cases r with
 |val x=>simp only[L2.frz1,aaM]at e;obtain⟨h,a,c⟩:=e;cases c;exact⟨R.wf,R.al,R.wff,R.wd.frz a⟩
 |rf i=>simp only[L2.frz1,aaK,aaM]at e;obtain⟨x,a,h,c,f⟩:=e;cases f;have g:i<ρ.length:=(aai.mp (join_some a)).1;exact(R.drop.frzS (join_some a) c).dupS (by rw[aa5 g]) R.al.1
def frzL(ρ:DEnv):List OR->Option (List PyData×DEnv)
 |[]=>some ([],ρ)
 |r::rs=>(L2.frz1 ρ r).bind λz=>(frzL z.2 rs).map λy=>(z.1::y.1,y.2)
theorem jy:∀{vs:List V}{rs:List OR}{ρ ρ':DEnv}{ds:List PyData}{τ:List V}{θ:List OR},Rel b F σ H ρ (vs++τ) (rs++θ)->vs.length=rs.length->L2.frzL ρ rs=some (ds,ρ')->Rel b F σ H ρ' (vs++τ) (ds.map (λd=>OR.val (.fz d))++θ)/\vs.length=ds.length
 |[],[],_,_,_,_,_,R,_,e=>by simp only[L2.frzL]at e;cases e;exact⟨R,rfl⟩
 |v::vs,r::rs,ρ,ρ',ds,τ,θ,R,e,h=>by
  simp only[L2.frzL,aaK,aaM]at h;obtain⟨⟨d,ρ1⟩,k,⟨l,ρ2⟩,g,f⟩:=h;cases f;have m:Rel b F σ H ρ1 (v::(vs++τ)) (.val (.fz d)::(rs++θ)):=Rel.frz1 R k;have c:vs.length=rs.length:=by simpa using e
  obtain⟨j,a⟩:=jy (Rel.z4 m c) c g;exact⟨Rel.rot j (by rw[a,aaa]),by simp[a]⟩
 |[],_::_,_,_,_,_,_,_,e,_=>by simp at e
 |_::_,[],_,_,_,_,_,_,e,_=>by simp at e
end
end
section
section
variable{X:Cx}
def DM(K:Waa):R2:=λx y H Q=>∃l b a c,x=.ref l/\y=.ref b/\SqL K H l a/\SqL K H b c/\a.length+c.length<=sizeLine/\∀p,H p=none->Q (.ref p) (upd H p (.lst (a++c)))
theorem wu:OpR X (binaryOp .Add) (DM X.K):=by
 intro t s U H x y v u Q I B A h;obtain⟨l,b,Y,Z,rfl,rfl,D,C,N,q⟩:=h;cases B;cases A;obtain⟨d,r,⟨⟨c,w,M,z⟩,n,e,p,_,o⟩,_⟩:=I.list D;obtain⟨a,k,⟨⟨S,i,G,j⟩,J,m,f,_,g⟩,_⟩:=I.list C;have T:=r.length;have O:=k.length;simp only at p o f g;subst p o f g;refine concat_meets ⟨_,e,rfl⟩ ⟨_,m,rfl⟩ noFill_list_add seq_list_add PySem.F.slot_list_add PySem.F.entry_list_add (PySem.F.args_list_add_2 _ _) (list_addW l b d.toArray a.toArray n J w i z j (by rw[aaw,aaw];omega)) ⟨e,m,?_⟩;have L:d.toArray++a.toArray=(d++a).toArray:=by simp
 rw[L];exact⟨.ref _,_,I.lnew (r.append k) (by rw[aaf];omega),rfl,q _ I.fresh⟩
end
abbrev DK:=OR->DEnv->Prop
abbrev DE:=DEnv->DK->Prop
abbrev DT:=DEnv->(Bool->DEnv->Prop)->Prop
abbrev DA:=DEnv->(List OR->DEnv->Prop)->Prop
abbrev DR2:=PyData->PyData->(PyData->Prop)->Prop
abbrev DR1:=PyData->(PyData->Prop)->Prop
abbrev DRn:=List PyData->(PyData->Prop)->Prop
def bZ(K:Waa)(h:TE)(i:DE):Prop:=∀(b:Bs) (F:List Fr) (c:St) (H:Hp) (f:DEnv) (e:List V) (g:List OR) (Qd:DK) (Q:VK),b.K=K->Rel b F c H f e g->i f Qd->(∀v d r a,Rel b F c d a (v::e) (r::g)->Qd r a->Q v d)->h c H Q
def SndT(K:Waa)(h:TT)(i:DT):Prop:=∀(b:Bs) (F:List Fr) (c:St) (H:Hp) (f:DEnv) (e:List V) (g:List OR) (Qd:Bool->DEnv->Prop) (Q:Bool->Hp->Prop),b.K=K->Rel b F c H f e g->i f Qd->(∀k d a,Rel b F c d a e g->Qd k a->Q k d)->h c H Q
def AG(K:Waa)(j:TA)(k:DA):Prop:=∀(b:Bs) (F:List Fr) (d:St) (H:Hp) (h:DEnv) (g:List V) (i:List OR) (Qd:List OR->DEnv->Prop) (Q:List V->Hp->Prop),b.K=K->Rel b F d H h g i->k h Qd->(∀c f e a,c.length=e.length->Rel b F d f a (c++g) (e++i)->Qd e a->Q c f)->j d H Q
inductive PDe (X:Cx)(e:Expr)(de:DE):Prop|mk (te:TE) (h:PE X e te) (s:bZ X.K te de)
inductive PDt (X:Cx)(e:Expr)(de:DT):Prop|mk (te:TT) (h:PT X e te) (s:SndT X.K te de)
inductive PDw (X:Cx)(e:Expr)(de:DT):Prop|mk (te:TT) (h:PW X e te) (s:SndT X.K te de)
inductive PDa (X:Cx)(es:List Expr)(de:DA):Prop|mk (te:TA) (h:PA X es te) (s:AG X.K te de)
section
variable{X:Cx}{K:Waa}{a b c e:Expr}{es:List Expr}{da db dc:DE}{pos:Pos}{x:Str}{i:Nat}
def dVar(i:Nat):DE:=λf Q=>match f[i]?.join with
 |some (.fz d)=>Q (.val (.fz d)) f
 |some _=>Q (.rf i) f
 |none=>False
theorem wx:bZ K (tVar i) (dVar i):=by
 intro b F k H j o n m Q p R h q;unfold dVar at h;cases e:j[i]?.join with
 |none=>rw[e]at h;exact h.elim
 |some x=>
  rw[e]at h;have l:=join_some e;obtain⟨v,g⟩:=R.wf.get l;have f:m (.rf i) j->tVar i k H Q:=λh=>⟨v,g,q v H (.rf i) j ⟨R.wf,show Al k (v::o) (.rf i::n) from ⟨g,R.al⟩,R.wff,R.wd⟩ h⟩
  cases x with
  |fz d=>exact⟨v,g,q v H _ j (R.dupS l g) h⟩
  |_=>exact f h
theorem AH(f:X.N[i]?=some x) (h:Vis X.env.scope x) (g:(x==("__debug__":Str))=false:=by decide) (d:(x==("__classdict__":Str))=false:=by decide):PDe X (.Name x pos) (dVar i):=⟨_,cP f h g d,wx⟩
def dC(d:PyData):DE:=λf Q=>Q (.val (.fz d)) f
theorem nG(h:Sc v d):bZ K (tC v) (dC d):=λb F l H f k n m Q j R g q=>q v H _ f (R.sc h) g
theorem pd_int{i j pos}:PDe X (.Constant (.int i) j pos) (dC (.int i)):=⟨_,lM,nG (.int i)⟩
theorem pd_bl{k j pos}:PDe X (.Constant (.bool k) j pos) (dC (.bool k)):=⟨_,CU,nG (.bl k)⟩
theorem pd_non{j pos}:PDe X (.Constant .none j pos) (dC .none):=⟨_,zH,nG .non⟩
theorem pd_str{x j pos}:PDe X (.Constant (.str x) j pos) (dC (.str x)):=⟨_,zI,nG (.str x)⟩
theorem Rel.addK{b:Bs}(R:Rel b F σ H ρ τ θ)(h:∀S H,Fz b.K S H v d):Rel b F σ H ρ (v::τ) (.val (.fz d)::θ):=⟨R.wf,R.al,R.wff,R.wd.add λS _ _ _=>h S H⟩
theorem sC(k:Gl X x) (j:X.mg x=some u) (r:RelV v u) (s:∀S H,Fz X.K S H v d) (f:(x==("__debug__":Str))=false:=by decide):PDe X (.Name x pos) (dC d):=
 ⟨_,vP k j r f,λb F m H h l o n Q g R f q=>q v H _ h (R.addK (by rw[g];exact s)) f⟩
def SndR2(K:Waa)(h:R2)(r:DR2):Prop:=∀(H:Hp) (v u:V) (g f:PyData) (Qd:PyData->Prop) (Q:VK),Dt K H v g->Dt K H u f->r g f Qd->(∀w d,Sc w d->Qd d->Q w H)->h v u H Q
def iM(r:DR2)(a b:DE):DE:=λk Q=>a k λx g=>b g λy f=>∃j h,au f x=some j/\au f y=some h/\r j h λd=>Q (.val (.fz d)) f
theorem mf(J:SndR2 K r2 r)(s:bZ K ta da)(M:bZ K tb db):bZ K (C9 r2 ta tb) (iM r da db):=by intro b F k H I G B S Q f R h q;refine s b F k H I G B _ _ f R h λv z x g N C=>M b F k z g _ _ _ _ f N C λu l y D j o=>?_;obtain⟨L,n,t,p,m⟩:=o;exact J l v u L n _ _ (f▸j.dt2 t) (f▸j.dt p) m λw d O A=>q w l _ _ (j.drop.drop.sc O) A
theorem DN(f:OpR X (binaryOp op) r2)(d:SndR2 X.K r2 r):PDe X a da->PDe X b db->PDe X (.BinOp a op b pos) (iM r da db)
 |⟨_,h1,s1⟩,⟨_,h2,s2⟩=>⟨_,rM f h1 h2,mf d s1 s2⟩
def dI(C:Int->Int->Prop)(g:Int->Int->PyData):DR2:=λx y Q=>∃i j,x=.int i/\y=.int j/\C i j/\Q (g i j)
def yI(g:Int->Int->PyData):DR2:=λx y Q=>∃i j,x=.int i/\y=.int j/\Q (g i j)
theorem wy(h:∀i j,Sc (g i j) (g' i j)):SndR2 K (rI C g) (dI C g'):=by rintro H v u n l m Q k f ⟨i,j,rfl,rfl,c,d⟩ q;cases k;cases f;exact⟨i,j,rfl,rfl,c,q _ _ (h i j) d⟩
theorem sE(h:∀i j,Sc (g i j) (g' i j)):SndR2 K (vJ g) (yI g'):=by rintro H v u n l m Q k f ⟨i,j,rfl,rfl,d⟩ q;cases k;cases f;exact⟨i,j,rfl,rfl,q _ _ (h i j) d⟩
abbrev JT:DE->DE->DE:=iM (yI λi j=>.int (i+j))
abbrev JU:DE->DE->DE:=iM (yI λi j=>.int (i-j))
abbrev JV:DE->DE->DE:=iM (dI CMul λi j=>.int (i*j))
abbrev IG:DE->DE->DE:=iM (dI Dc λi j=>.int (i/j))
abbrev JW:DE->DE->DE:=iM (dI (λ_ j=>0<j) λi j=>.int (i%j))
abbrev JX:DE->DE->DE:=iM (dI De λi j=>.int (i^j.toNat))
theorem AI(g:OpR X (compareOp op) r2)(f:SndR2 X.K r2 r)(d:behindInMarks op b=false):PDe X a da->PDe X b db->PDe X (.Compare a [op] [b] pos) (iM r da db)
 |⟨_,h1,s1⟩,⟨_,h2,s2⟩=>⟨_,vY g h1 h2 d,mf f s1 s2⟩
abbrev Ky:DR2:=yI λi j=>.bool (decide (i<j))
abbrev Kz:DR2:=yI λi j=>.bool (decide (i<=j))
abbrev KA:DR2:=yI λi j=>.bool (decide (j<i))
abbrev KB:DR2:=yI λi j=>.bool (decide (j<=i))
theorem wz{g:Int->Int->Bool}:SndR2 K (vJ λi j=>.bl (g i j)) (yI λi j=>.bool (g i j)):=sE λ_ _=>.bl _
def qq:PyData->PyData->Option Bool
 |.int i,.int j=>some (decide (i=j))
 |.bool i,.bool j=>some (decide (i=j))
 |.str i,.str j=>some (decide (i=j))
 |.none,.none=>some true
 |.none,.int _=>some false|.int _,.none=>some false|.none,.str _=>some false|.str _,.none=>some false
 |.int _,.str _=>some false|.str _,.int _=>some false
 |_,_=>none
theorem nH(f:Dt K H v dx)(d:Dt K H u dy)(e:qq dx dy=some k):Ac v u=true/\decide (v=u)=k:=by cases f<;>cases d<;>cases e<;>refine⟨rfl,?_⟩<;>simp
def dEqS:DR2:=λx y Q=>∃k,qq x y=some k/\Q (.bool k)
def dNeS:DR2:=λx y Q=>∃k,qq x y=some k/\Q (.bool (!k))
theorem sr_eq:SndR2 K rEq dEqS:=by rintro H v u n l m Q h g ⟨k,e,d⟩ q;obtain⟨j,f⟩:=nH h g e;exact⟨j,by rw[f];exact q _ _ (.bl k) d⟩
theorem sr_ne:SndR2 K rNe dNeS:=by rintro H v u n l m Q h g ⟨k,e,d⟩ q;obtain⟨j,f⟩:=nH h g e;exact⟨j,by rw[f];exact q _ _ (.bl _) d⟩
def dEqD:DR2:=λx y Q=>SeqAt.shaped x=true/\SeqAt.shaped y=true/\Q (.bool (PyData.eqv x y))
def dNeD:DR2:=λx y Q=>SeqAt.shaped x=true/\SeqAt.shaped y=true/\Q (.bool (!PyData.eqv x y))
theorem AJ:SndR2 K (Dw K) dEqD:=λH v u j f m Q l k ⟨g,d,h⟩ q=>⟨j,f,l,k,g,d,q _ _ (.bl _) h⟩
theorem AK:SndR2 K (Dx K) dNeD:=λH v u j f m Q l k ⟨g,d,h⟩ q=>⟨j,f,l,k,g,d,q _ _ (.bl _) h⟩
def DP:PyData->PyData->Option Bool
 |.int i,.int j=>some (decide (i=j))
 |.str i,.str j=>some (decide (i=j))
 |.none,.none=>some true
 |.int _,.str _=>some false|.str _,.int _=>some false|.none,.int _=>some false|.int _,.none=>some false|.none,.str _=>some false|.str _,.none=>some false
 |_,_=>none
def memD(x:PyData):List PyData->Option Bool
 |[]=>some false
 |y::ys=>(DP y x).bind λk=>(memD x ys).map (k||·)
def CM:PyData->Bool
 |.int _=>true
 |.str _=>true
 |.none=>true
 |_=>false
def JY(d:Bool):DR2:=λx y Q=>∃f k,(y=.list f\/y=.tuple f)/\CM x=true/\memD x f=some k/\Q (.bool (if d then !k else k))
theorem wA{x y:PyData}(f:Dt K H v x)(d:Dt K H w y)(e:DP y x=some k):cb w=true/\eqV w v=k:=by cases f<;>cases d<;>cases e<;>exact⟨rfl,rfl⟩
theorem AL{x:PyData}(d:Dt K H v x)(f:CM x=true):cb v=true:=by cases d<;>first|rfl|cases f
theorem nI{x:PyData}(f:Dt K H v x)(m:CM x=true)(h:DtAll K H vs ds)(e:memD x ds=some k):cb v=true/\vs.all cb=true/\inV v vs=k:=by
 induction ds generalizing vs k with
 |nil=>cases h;cases e;exact⟨AL f m,rfl,rfl⟩
 |cons d ds s=>
  cases h with
  |@cons w _ vs _ r t=>
   obtain⟨u,g,e⟩:=aaK.mp e;obtain⟨y,p,rfl⟩:=aaM.mp e;obtain⟨q,o,l⟩:=s t p;obtain⟨j,n⟩:=wA f r g;refine⟨q,?_,?_⟩
   ·show (cb w&&vs.all cb)=true;rw[j,o];rfl
   ·show (eqV w v||inV v vs)=_;rw[n,l]
theorem yJ:SndR2 K (GG K neg) (JY neg):=by
 rintro H v u y r s Q m o ⟨w,k,p,j,n,l⟩ q;rcases p with rfl|rfl
 ·cases o with
  |lst h t=>obtain⟨g,f,d⟩:=nI m j t n;exact⟨_,_,rfl,.inl h,g,f,by rw[d];exact q _ _ (.bl _) l⟩
 ·cases o with
  |tup h t=>obtain⟨g,f,d⟩:=nI m j t n;exact⟨_,_,rfl,.inr h,g,f,by rw[d];exact q _ _ (.bl _) l⟩
def mj(r n:DR2)(da db dc:DE):DE:=λo Q=>da o λx j=>db j λy f=>∃m h,au f x=some m/\au f y=some h/\r m h λz=>∃k,z=.bool k /\
 if k=true then dc f λw g=>∃h l,au g y=some h/\au g w=some l/\n h l λd=>Q (.val (.fz d)) g else Q (.val (.fz (.bool false))) f
theorem iY(hr:SndR2 K r2 r)(s:SndR2 K r2' r')(L:bZ K ta da)(hb:bZ K tb db)(hc:bZ K tc dc):bZ K (lP r2 r2' ta tb tc) (mj r r' da db dc):=by
 intro b F p H Z Y T Qd Q g R h q;refine L b F p H Z Y T _ _ g R h λv N x m R1 U=>hb b F p N m _ _ _ _ g R1 U λu t y o j I=>?_;obtain⟨dx,D,M,J,C⟩:=I;refine hr t v u dx D _ _ (g▸j.dt2 M) (g▸j.dt J) C λw d A f=>?_;obtain⟨k,rfl,f⟩:=f;cases A;refine⟨k,rfl,?_⟩;cases k with
 |false=>rw[if_neg aad]at f ⊢;exact q _ t _ _ (j.drop.drop.sc (.bl _)) f
 |true=>rw[if_pos rfl]at f ⊢;refine hc b F p t o _ _ _ _ g j f λw B z a0 n h4=>?_;obtain⟨l,O,G,S,h5⟩:=h4;exact s B u w l O _ _ (g▸n.dt2 G) (g▸n.dt S) h5 λw d A f=>q w B _ _ (n.drop.drop.drop.sc A) f
theorem sF(j:OpR X (compareOp op) r2)(h:SndR2 X.K r2 r)(d:OpR X (compareOp op') r2')(f:SndR2 X.K r2' r')(g:lastMarks [op,op'] [b,c]=false:=by with_unfolding_all rfl):
  PDe X a da->PDe X b db->PDe X c dc->PDe X (.Compare a [op,op'] [b,c] pos) (mj r r' da db dc)
 |⟨_,h1,s1⟩,⟨_,h2,s2⟩,⟨_,h3,s3⟩=>⟨_,rQ j d h1 h2 h3 g,iY h f s1 s2 s3⟩
def isNn:PyData->Bool|.none=>true|_=>false
def qr(g:Bool)(a:DE):DE:=λh Q=>a h λx f=>∃d,au f x=some d/\Q (.val (.fz (.bool (if g then !isNn d else isNn d)))) f
theorem gn(h:Dt K H v d):decide (v=.non)=isNn d:=by cases h<;>simp[isNn]
theorem AM{j f}:PDe X a da->PDe X (.Compare a [.Is] [.Constant .none j f] pos) (qr false da)
 |⟨_,g,s1⟩=>⟨_,jl (rB g),λb F σ H ρ τ θ n Q m R h q=>s1 b F σ H ρ τ θ _ _ m R h λv l x ρ1 k ⟨d,e,g⟩=>by
  rw[gn (k.dt e)];exact q _ l _ _ (k.drop.sc (.bl _)) g⟩
theorem wB{j f}:PDe X a da->PDe X (.Compare a [.IsNot] [.Constant .none j f] pos) (qr true da)
 |⟨_,g,s1⟩=>⟨_,jl (nh g),λb F σ H ρ τ θ n Q m R h q=>s1 b F σ H ρ τ θ _ _ m R h λv l x ρ1 k ⟨d,e,g⟩=>by
  rw[gn (k.dt e)];exact q _ l _ _ (k.drop.sc (.bl _)) g⟩
def IH(K:Waa)(r1:V->Hp->VK->Prop)(r:DR1):Prop:=∀(H:Hp) (v:V) (f:PyData) (Qd:PyData->Prop) (Q:VK),Dt K H v f->r f Qd->(∀w d,Sc w d->Qd d->Q w H)->r1 v H Q
def JZ(r:DR1)(a:DE):DE:=λg Q=>a g λx f=>∃d,au f x=some d/\r d λz=>Q (.val (.fz z)) f
def GW:DR1:=λx Q=>∃i,x=.int i/\Q (.int (-i))
theorem AN:PDe X a da->PDe X (.UnaryOp .USub a pos) (JZ GW da)
 |⟨_,f,s1⟩=>⟨_,yy rN f,λb F σ H ρ τ θ m Q l R h q=>s1 b F σ H ρ τ θ _ _ l R h λv k x ρ1 g ⟨d,e,i,j,f⟩=>by
  subst j;cases g.dt e;exact⟨i,rfl,q _ k _ _ (g.drop.sc (.int _)) f⟩⟩
def DQ(a b:DE):DE:=λf Q=>a f λx d=>∃k,au d x=some (.bool k)/\if k=true then b d Q else Q (.val (.fz (.bool false))) d
def GX(a b:DE):DE:=λf Q=>a f λx d=>∃k,au d x=some (.bool k)/\if k=true then Q (.val (.fz (.bool true))) d else b d Q
def DR(a:DE):DE:=λf Q=>a f λx d=>∃k,au d x=some (.bool k)/\Q (.val (.fz (.bool (!k)))) d
theorem sH{d}:PDe X a da->PDe X (.BoolOp d [a] pos) da
 |⟨_,h1,s1⟩=>⟨_,zM h1,s1⟩
theorem AO:PDe X a da->PDe X (.BoolOp .And (b::es) pos) db->PDe X (.BoolOp .And (a::b::es) pos) (DQ da db)
 |⟨_,d,s1⟩,⟨_,h2,s2⟩=>⟨_,zN d h2,λb F σ H ρ τ θ l Q j R h q=>s1 b F σ H ρ τ θ _ _ j R h λv g x ρ1 f ⟨k,e,d⟩=>by
  cases f.dt e;refine⟨k,rfl,?_⟩;cases k with
  |false=>rw[if_neg aad]at d ⊢;exact q _ g _ _ (f.drop.sc (.bl _)) d
  |true=>rw[if_pos rfl]at d ⊢;exact s2 b F σ g ρ1 τ θ _ _ j f.drop d q⟩
theorem DU:PDe X a da->PDe X (.BoolOp .Or (b::es) pos) db->PDe X (.BoolOp .Or (a::b::es) pos) (GX da db)
 |⟨_,d,s1⟩,⟨_,h2,s2⟩=>⟨_,C0 d h2,λb F σ H ρ τ θ l Q j R h q=>s1 b F σ H ρ τ θ _ _ j R h λv g x ρ1 f ⟨k,e,d⟩=>by
  cases f.dt e;refine⟨k,rfl,?_⟩;cases k with
  |true=>rw[if_pos rfl]at d ⊢;exact q _ g _ _ (f.drop.sc (.bl _)) d
  |false=>rw[if_neg aad]at d ⊢;exact s2 b F σ g ρ1 τ θ _ _ j f.drop d q⟩
theorem AQ:PDe X a da->PDe X (.UnaryOp .Not a pos) (DR da)
 |⟨_,d,s1⟩=>⟨_,zO d,λb F σ H ρ τ θ l Q j R h q=>s1 b F σ H ρ τ θ _ _ j R h λv g x ρ1 f ⟨k,e,d⟩=>by
  cases f.dt e;exact⟨k,rfl,q _ g _ _ (f.drop.sc (.bl _)) d⟩⟩
def fZ(a:DE):DT:=λf Q=>a f λx d=>∃k,au d x=some (.bool k)/\Q k d
theorem kF(r:bZ K ta da):SndT K (rP ta) (fZ da):=λb F n H o m g s Q p R h q=>r b F n H o m g _ _ p R h λv f x j d ⟨k,e,l⟩=>by cases d.dt e;exact⟨k,rfl,q _ f _ d.drop l⟩
theorem mq(r:bZ K ta da):SndT K (tB ta) (fZ da):=λb F n H o m g s Q p R h q=>r b F n H o m g _ _ p R h λv f x j d ⟨k,e,l⟩=>by cases d.dt e;exact⟨k,rfl,q _ f _ d.drop l⟩
theorem wC(g:OpR X (compareOp op) r2)(f:SndR2 X.K r2 r)(d:behindInMarks op b=false):PDe X a da->PDe X b db->PDt X (.Compare a [op] [b] pos) (fZ (iM r da db))
 |⟨_,h1,s1⟩,⟨_,h2,s2⟩=>⟨_,vZ g h1 h2 d,kF (mf f s1 s2)⟩
theorem qt(j:OpR X (compareOp op) r2)(h:SndR2 X.K r2 r)(d:OpR X (compareOp op') r2')(f:SndR2 X.K r2' r')(g:lastMarks [op,op'] [b,c]=false:=by with_unfolding_all rfl):
  PDe X a da->PDe X b db->PDe X c dc->PDt X (.Compare a [op,op'] [b,c] pos) (fZ (mj r r' da db dc))
 |⟨_,h1,s1⟩,⟨_,h2,s2⟩,⟨_,h3,s3⟩=>⟨_,rR j d h1 h2 h3 g,kF (iY h f s1 s2 s3)⟩
theorem wD{j f}:PDe X a da->PDt X (.Compare a [.Is] [.Constant .none j f] pos) (fZ (qr false da))
 |⟨_,g,s1⟩=>⟨_,jn (rB g),mq (λb F σ H ρ τ θ n Q m R h q=>s1 b F σ H ρ τ θ _ _ m R h λv l x ρ1 k ⟨d,e,g⟩=>by
  rw[gn (k.dt e)];exact q _ l _ _ (k.drop.sc (.bl _)) g)⟩
theorem sI{j f}:PDe X a da->PDt X (.Compare a [.IsNot] [.Constant .none j f] pos) (fZ (qr true da))
 |⟨_,g,s1⟩=>⟨_,jn (nh g),mq (λb F σ H ρ τ θ n Q m R h q=>s1 b F σ H ρ τ θ _ _ m R h λv l x ρ1 k ⟨d,e,g⟩=>by
  rw[gn (k.dt e)];exact q _ l _ _ (k.drop.sc (.bl _)) g)⟩
def DV(t u:DT):DT:=λf Q=>t f λc d=>if c=true then u d Q else Q false d
def GY(t u:DT):DT:=λf Q=>t f λc d=>if c=true then Q true d else u d Q
def DW(t:DT):DT:=λf Q=>t f λc d=>Q (!c) d
variable{dt du:DT}
theorem PDw.pt:PDw X e dt->PDt X e dt
 |⟨_,h,s⟩=>⟨_,h.pt,s⟩
theorem sJ:PDt X a dt->PDw X (.BoolOp .And [a] pos) dt
 |⟨_,h,s⟩=>⟨_,vQ h,s⟩
theorem wF:PDt X a dt->PDw X (.BoolOp .Or [a] pos) dt
 |⟨_,h,s⟩=>⟨_,zJ h,s⟩
theorem wG:PDt X a dt->PDw X (.BoolOp .And (b::es) pos) du->PDw X (.BoolOp .And (a::b::es) pos) (DV dt du)
 |⟨_,d,s1⟩,⟨_,h2,s2⟩=>⟨_,zK d h2,λb F σ H ρ τ θ l Q g R h q=>s1 b F σ H ρ τ θ _ _ g R h λk f ρ1 j d=>by
  cases k with
  |false=>rw[if_neg aad]at d ⊢;exact q _ f _ j d
  |true=>rw[if_pos rfl]at d ⊢;exact s2 b F σ f ρ1 τ θ _ _ g j d q⟩
theorem AR:PDt X a dt->PDw X (.BoolOp .Or (b::es) pos) du->PDw X (.BoolOp .Or (a::b::es) pos) (GY dt du)
 |⟨_,d,s1⟩,⟨_,h2,s2⟩=>⟨_,CW d h2,λb F σ H ρ τ θ l Q g R h q=>s1 b F σ H ρ τ θ _ _ g R h λk f ρ1 j d=>by
  cases k with
  |true=>rw[if_pos rfl]at d ⊢;exact q _ f _ j d
  |false=>rw[if_neg aad]at d ⊢;exact s2 b F σ f ρ1 τ θ _ _ g j d q⟩
theorem wH:PDt X a dt->PDt X (.UnaryOp .Not a pos) (DW dt)
 |⟨_,h,s⟩=>⟨_,zL h,λb F σ H ρ τ θ l Q d R h q=>s b F σ H ρ τ θ _ _ d R h λk f ρ1 g j=>q _ f _ g j⟩
def J0(t:DT)(a b:DE):DE:=λf Q=>t f λc d=>if c=true then a d Q else b d Q
theorem DX:PDt X c dt->PDe X a da->PDe X b db->PDe X (.IfExp c a b pos) (J0 dt da db)
 |⟨_,h,s⟩,⟨_,d,s1⟩,⟨_,h2,s2⟩=>⟨_,rC h d h2,λb F σ H ρ τ θ l Q f R h q=>s b F σ H ρ τ θ _ _ f R h λk g ρ1 j d=>by
  cases k with
  |true=>rw[if_pos rfl]at d ⊢;exact s1 b F σ g ρ1 τ θ _ _ f j d q
  |false=>rw[if_neg aad]at d ⊢;exact s2 b F σ g ρ1 τ θ _ _ f j d q⟩
def GZ:PyData->Option Bool
 |.list ds=>some (!ds.isEmpty)
 |.tuple ds=>some (!ds.isEmpty)
 |.bool k=>some k
 |_=>none
def J1(a:DE):DT:=λg Q=>a g λx f=>∃d k,au f x=some d/\GZ d=some k/\Q k f
theorem DtAll.emp(h:DtAll K H xs ds):xs.isEmpty=ds.isEmpty:=by cases h<;>rfl
end
end
section
section
variable{X:Cx}{K:Waa}{a b c e:Expr}{es:List Expr}{da db dc:DE}{dt:DA}{pos:Pos}{x:Str}
def dNil:DA:=λd Q=>Q [] d
def DY(a:DE)(t:DA):DA:=λg Q=>a g λx f=>t f λh d=>Q (x::h) d
theorem pda_nil:PDa X [] dNil:=⟨_,gF,λb F i H d g k j Q f R h q=>q [] H [] d rfl R h⟩
theorem sL(p:starEach (e::es) X.env=(false,eval e X.env)::starEach es X.env:=by rfl):PDe X e da->PDa X es dt->PDa X (e::es) (DY da dt)
 |⟨_,g,s1⟩,⟨_,d,s2⟩=>⟨_,dJ g d p,λb F j H t s n A Q k R h q=>s1 b F j H t s n _ _ k R h λv m r f y g=>s2 b F j m f _ _ _ _ k y g λz w u i l o d=>
  q (v::z) w (r::u) i (by simp[l]) (Rel.rot o l) d⟩
end
def own1(ρ:DEnv):OR->Option (OD×DEnv)
 |.val x=>some (x,ρ)
 |.rf i=>(frz1 ρ (.rf i)).map λz=>(.fz z.1,z.2)
def mv1(ρ:DEnv):OR->Option (OD×DEnv)
 |.val x=>some (x,ρ)
 |.rf i=>(ρ[i]?.join).map λx=>(x,ρ.set i none)
def mapR(f:DEnv->OR->Option (OD×DEnv))(ρ:DEnv):List OR->Option (List OD×DEnv)
 |[]=>some ([],ρ)
 |r::rs=>(f ρ r).bind λz=>(mapR f z.2 rs).map λy=>(z.1::y.1,y.2)
def rq:List OD->Option (List PyData)
 |[]=>some []
 |.fz d::xs=>match rq xs with|some ds=>some (d::ds)|none=>none
 |_::_=>none
def mkTup(xs:List OD):OD:=match rq xs with
 |some a=>.fz (.tuple a)
 |none=>.tup xs
section
variable{b:Bs}{F:List Fr}{σ:St}{H H':Hp}{ρ ρ':DEnv}{τ vs:List V}{θ rs:List OR}{v u:V}{r:OR}{x y:OD}{d:PyData}{ds:List PyData}{i:Nat}{L:List (V×OD)}{p:Addr}
theorem Rel.own1(R:Rel b F σ H ρ (v::τ) (r::θ))(e:own1 ρ r=some (x,ρ')):Rel b F σ H ρ' (v::τ) (.val x::θ):=by
 cases r with
 |val x=>simp only[L2.own1]at e;cases e;exact R
 |rf i=>simp only[L2.own1,aaM]at e;obtain⟨⟨d,c⟩,a,f⟩:=e;cases f;exact R.frz1 a
theorem Rel.mv1(R:Rel b F σ H ρ (v::τ) (r::θ))(e:mv1 ρ r=some (x,ρ')):Rel b F σ H ρ' (v::τ) (.val x::θ):=by
 cases r with
 |val x=>simp only[L2.mv1]at e;cases e;exact R
 |rf i=>
  simp only[L2.mv1,aaM]at e;obtain⟨x,a,f⟩:=e;cases f;obtain⟨u,c,w⟩:=R.drop.slot (join_some a);have:v=u:=by have:=R.al.1;rw[c]at this;cases this;rfl
  subst this;exact⟨R.wf.off,R.drop.al,R.wff,w⟩
theorem eP{f:DEnv->OR->Option (OD×DEnv)}(c:∀{ρ ρ':DEnv}{τ:List V}{θ:List OR}{v:V}{r:OR}{x:OD},Rel b F σ H ρ (v::τ) (r::θ)->f ρ r=some (x,ρ')->Rel b F σ H ρ' (v::τ) (.val x::θ)):
  ∀{vs:List V}{rs:List OR}{ρ ρ':DEnv}{xs:List OD}{τ:List V}{θ:List OR},Rel b F σ H ρ (vs++τ) (rs++θ)->vs.length=rs.length->mapR f ρ rs=some (xs,ρ')->Rel b F σ H ρ' (vs++τ) (xs.map OR.val++θ)/\vs.length=xs.length
 |[],[],_,_,_,_,_,R,_,e=>by simp only[mapR]at e;cases e;exact⟨R,rfl⟩
 |v::vs,r::rs,ρ,ρ',ds,τ,θ,R,e,h=>by
  simp only[mapR,aaK,aaM]at h;obtain⟨⟨d,ρ1⟩,m,⟨n,ρ2⟩,k,j⟩:=h;cases j;have o:Rel b F σ H ρ1 (v::(vs++τ)) (.val d::(rs++θ)):=c R m;have g:vs.length=rs.length:=by simpa using e
  obtain⟨l,a⟩:=eP c (Rel.z4 (vs:=vs) (rs:=rs) o g) g k;exact⟨Rel.rot l (by rw[a,aaa]),by simp[a]⟩
 |[],_::_,_,_,_,_,_,_,e,_=>by simp at e
 |_::_,[],_,_,_,_,_,_,e,_=>by simp at e
theorem cT:∀{vs:List V}{xs:List OD},vs.length=xs.length->stk vs (xs.map OR.val)=vs.zip xs
 |[],[],_=>rfl
 |_::_,_::_,e=>by simp only[aap,stk,abv];rw[cT (by simpa using e)]
 |[],_::_,e=>by simp at e
 |_::_,[],e=>by simp at e
theorem Rel.vals{xs:List OD}(R:Rel b F σ H ρ (vs++τ) (xs.map OR.val++θ))(e:vs.length=xs.length):Wd b H (vs.zip xs++(stk τ θ++(flat σ ρ++ff F))):=by have w:=R.wd;rw[aJ (by rw[aaa];exact e),cT e,aac]at w;exact w
theorem Rel.push(R:Rel b F σ H ρ τ θ)(w:Wd b H' ((v,x)::(stk τ θ++(flat σ ρ++ff F)))):Rel b F σ H' ρ (v::τ) (.val x::θ):=⟨R.wf,R.al,R.wff,w⟩
theorem Wd.below{z:V×OD}{L1 L2:List (V×OD)}(w:Wd b H (z::(L1++L2))):Wd b H (z::L2):=Wd.drops (L1:=L1) (w.perm (aav.symm))
theorem fzL_map{xs:List OD}{ds:List PyData}(e:rq xs=some ds):xs=ds.map OD.fz:=by
 induction xs generalizing ds with
 |nil=>cases e;rfl
 |cons x xs a=>
  cases x with
  |fz d=>
   rw[rq]at e;cases h:rq xs with
   |none=>rw[h]at e;cases e
   |some ds=>rw[h]at e;cases e;rw[a h];rfl
  |_=>cases e
theorem jz:∀(ds:List PyData),rq (ds.map OD.fz)=some ds
 |[]=>rfl
 |d::ds=>by simp only[aap,rq,jz ds]
theorem dats_fz:∀(ds:List PyData),OD.ej (ds.map OD.fz)=some ds
 |[]=>rfl
 |d::ds=>by simp only[aap,OD.ej,OD.dat,dats_fz ds]
theorem sM{xs:List OD}(w:Wd b H (vs.zip xs++L))(c:vs.length=xs.length)(a:H p=none):Wd b (upd H p (.tup vs)) ((.ref p,mkTup xs)::L):=by
 unfold mkTup;cases h:rq xs with
 |some ds=>have f:=fzL_map h;subst f;refine Wd.below (L1:=vs.zip (ds.map OD.fz)) (w.j1 (λS g=>g.all (by simpa using c) λz e=>aah _ e) a)
 |none=>exact w.wj c a
end
section
variable{X:Cx}{K:Waa}{a b c e:Expr}{es:List Expr}{da db dc:DE}{dt:DA}{pos:Pos}{x:Str}
def G0(f:DEnv->OR->Option (OD×DEnv))(t:DA):DE:=λj Q=>t j λi g=>∃h d,mapR f g i=some (h,d)/\i.length<=1000000/\Q (.val (mkTup h)) d
def G1(f:DEnv->OR->Option (OD×DEnv))(t:DA):DE:=λj Q=>t j λi g=>∃h d,mapR f g i=some (h,d)/\i.length<=1000000/\Q (.val (.lst h)) d
structure Hand (f:DEnv->OR->Option (OD×DEnv)):Prop where
 ok:∀{b:Bs}{F:List Fr}{σ:St}{H:Hp}{ρ ρ':DEnv}{τ:List V}{θ:List OR}{v:V}{r:OR}{x:OD},Rel b F σ H ρ (v::τ) (r::θ)->f ρ r=some (x,ρ')->Rel b F σ H ρ' (v::τ) (.val x::θ)
theorem DZ:Hand own1:=⟨Rel.own1⟩
variable{f:DEnv->OR->Option (OD×DEnv)}
theorem AS{n}(o:Hand f):PDa X es dt->PDe X (.Tuple es n pos) (G0 f dt)
 |⟨_,g,s1⟩=>⟨_,Ag g,λb F σ H ρ τ θ t Q r R h q=>s1 b F σ H ρ τ θ _ _ r R h λvs u rs ρ1 j s ⟨xs,ρ2,l,k,g⟩=>⟨l4 (by rw[j];exact k),λp m=>by
  obtain⟨i,d⟩:=eP o.ok s j l;exact q _ _ _ _ ((i.drops (by rw[aaa];exact d)).push (sM (i.vals d) d m)) g⟩⟩
theorem AU(n:Hand f):PDa X es dt->PDe X (.List es pos) (G1 f dt)
 |⟨_,g,s1⟩=>⟨_,Ah g,λb F σ H ρ τ θ s Q o R h q=>s1 b F σ H ρ τ θ _ _ o R h λvs t rs ρ1 j r ⟨xs,ρ2,l,k,g⟩=>⟨l4 (by rw[j];exact k),λp m=>by
  obtain⟨i,d⟩:=eP n.ok r j l;exact q _ _ _ _ ((i.drops (by rw[aaa];exact d)).push ((i.vals d).eu d m)) g⟩⟩
end
def dY(ρ:DEnv):OR->Option OD
 |.val x=>some x
 |.rf i=>ρ[i]?.join
def listOf:OD->Option (List PyData)
 |.fz (.list ds)=>some ds
 |.lst xs=>rq xs
 |_=>none
def tupOf:OD->Option (List PyData)
 |.fz (.tuple ds)=>some ds
 |_=>none
def mr(ρ:DEnv)(r:OR):Option (List PyData):=(dY ρ r).bind listOf
def D0(ρ:DEnv)(r:OR):Option (List PyData):=(dY ρ r).bind tupOf
def itemO:OD->Int->Option OD
 |.fz (.list ds),i=>match atI ds i with|some d=>some (.fz d)|none=>none
 |.fz (.tuple ds),i=>match atI ds i with|some d=>some (.fz d)|none=>none
 |.lst xs,i=>atI xs i
 |.tup xs,i=>atI xs i
 |_,_=>none
def itemS:OD->Int->Option (PyData×OD)
 |.lst xs,i=>match ixN xs.length i with
  |some k=>match xs[k]? with
   |some c=>match c.dat with|some d=>some (d,.lst (xs.set k (.fz d)))|none=>none
   |none=>none
  |none=>none
 |.tup xs,i=>match ixN xs.length i with
  |some k=>match xs[k]? with
   |some c=>match c.dat with|some d=>some (d,.tup (xs.set k (.fz d)))|none=>none
   |none=>none
  |none=>none
 |_,_=>none
def bJ(ρ:DEnv)(r:OR)(i:Int):Option (OD×DEnv):=match r with
 |.val x=>match itemO x i with|some y=>some (y,ρ)|none=>none
 |.rf j=>match ρ[j]?.join with
  |some x=>match itemS x i with|some (d,y)=>some (.fz d,ρ.set j (some y))|none=>none
  |none=>none
section
variable{b:Bs}{F:List Fr}{σ:St}{H H':Hp}{ρ ρ':DEnv}{τ vs:List V}{θ rs:List OR}{v u:V}{r r':OR}{x y:OD}{d:PyData}{ds:List PyData}{i:Nat}{L:List (V×OD)}{p:Addr}
theorem gR{f c:Type}{xs:List f}{ys:List c}{i:Int}{y:c}(g:xs.length=ys.length)(h:atI ys i=some y):∃k x,ixN xs.length i=some k/\ys[k]?=some y/\xs[k]?=some x/\atI xs i=some x:=by unfold atI at h ⊢;rw[<-g]at h;simp only[aaK]at h;obtain⟨k,a,e⟩:=h;have j:k<ys.length:=(aai.mp e).1;refine⟨k,xs[k]'(by omega),a,e,aak _,?_⟩;rw[a];exact aak _
theorem cG{c a:Type}{xs:List c}{ys:List a}{k:Nat}{x:c}{y:a}(e:xs[k]?=some x)(f:ys[k]?=some y):(x,y)∈xs.zip ys:=by rw[List.mem_iff_getElem?];exact⟨k,by rw[abK];exact⟨e,f⟩⟩
theorem Wd.pick{z:V×OD}{Z:List (V×OD)}(w:Wd b H (Z++L))(m:z∈Z):Wd b H (z::L):=by obtain⟨a,c,rfl⟩:=abL m;refine Wd.below (L1:=a++c) (w.perm ?_);rw[aac,aac];exact aav
theorem AV{n k:Nat}{i:Int}(h:ixN n i=some k):k<n:=by
 unfold ixN at h;split at h
 ·split at h
  ·cases h;omega
  ·cases h
 ·split at h
  ·cases h;omega
  ·cases h
theorem Wd.rx{k:Nat}{z:OD}(w:Wd b H ((v,x)::L))(e:x.kids[k]?=some z):∃u,Chd b H v x k u z/\Wd b H ((u,z)::L):=by
 obtain⟨G,q,_,_⟩:=w.out;cases q with
 |cons r t=>obtain⟨u,B,n,c,_⟩:=r.kid e;refine⟨u,c,Wd.puts (L1:=[(v,x)]) (L2:=[(u,z)]) w λS A h m l I g=>?_⟩;obtain⟨j,B,n,o,C,f,_⟩:=(OwL.one h).kid e;have D:j=u:=(Chd.det o c).1;subst D;have a:∀c∈B,c∈A:=λc s=>f.mem_iff.mpr (aah _ s);exact⟨B,OwL.of1 (Ow.sub g (λc z=>z.elim (·.1) λz=>l c (a c z)) C),(aaA.mp (f.nodup_iff.mp m)).1,a⟩
theorem Fz.at{K:Waa}{S:Addr->Prop}{vs:List V}{ds:List PyData}{k:Nat}{v:V}{d:PyData}(h:FzA K S H vs ds)(e:vs[k]?=some v)(c:ds[k]?=some d):Fz K S H v d:=by obtain⟨u,a,f⟩:=h.get c;rw[e]at a;cases a;exact f
theorem Wd.itemF{i:Int}{l:Bool}(w:Wd b H ((v,.fz (if l then .list ds else .tuple ds))::L))(e:atI ds i=some d):∃p vs u,v=.ref p/\(SqL b.K H p vs\/SqT b.K H p vs)/\atI vs i=some u/\Wd b H ((u,.fz d)::L):=by
 obtain⟨c,m⟩:=Wd.pin w rfl;obtain⟨a,rfl,j,h,o⟩:=m.pinned aaj;obtain⟨k,u,_,n,g,f⟩:=gR j e;refine⟨a,c,u,rfl,?_,f,Wd.below (L1:=[(V.ref a,OD.pin l c ds)]) (o.pick (cG g (by rw[aaq,n];rfl)))⟩;cases l with
 |true=>exact .inl h
 |false=>exact .inr h
theorem Wd.itemO{i:Int}(w:Wd b H ((v,x)::L))(e:itemO x i=some y):∃p vs u,v=.ref p/\(SqL b.K H p vs\/SqT b.K H p vs)/\atI vs i=some u/\Wd b H ((u,y)::L):=by
 cases x with
 |fz d=>
  cases d with
  |list ds=>
   simp only[L2.itemO]at e;cases h:atI ds i with
   |none=>rw[h]at e;cases e
   |some d=>rw[h]at e;cases e;exact Wd.itemF (l:=true) w h
  |tuple ds=>
   simp only[L2.itemO]at e;cases h:atI ds i with
   |none=>rw[h]at e;cases e
   |some d=>rw[h]at e;cases e;exact Wd.itemF (l:=false) w h
  |_=>simp[L2.itemO]at e
 |lst xs=>
  simp only[L2.itemO]at e;obtain⟨k,_,f,a,_⟩:=gR (xs:=xs) rfl e;obtain⟨u,c,m⟩:=w.rx (k:=k) (z:=y) a;cases c with
  |lst g j n o=>exact⟨_,_,u,rfl,.inl (SqL.of g),by unfold atI;rw[j,f];exact n,m⟩
 |tup xs=>
  simp only[L2.itemO]at e;obtain⟨k,_,f,a,_⟩:=gR (xs:=xs) rfl e;obtain⟨u,c,m⟩:=w.rx (k:=k) (z:=y) a;cases c with
  |tup g j n o=>exact⟨_,_,u,rfl,.inr (SqT.of g),by unfold atI;rw[j,f];exact n,m⟩
 |dic _ _=>simp[L2.itemO]at e
 |obj _ _ _=>simp[L2.itemO]at e
 |pin _ _ _=>simp[L2.itemO]at e
 |hole _=>simp[L2.itemO]at e
theorem Wd.itemS{i:Int}(w:Wd b H ((v,x)::L))(e:itemS x i=some (d,y)):∃p vs u,v=.ref p/\(SqL b.K H p vs\/SqT b.K H p vs)/\atI vs i=some u/\Wd b H ((u,.fz d)::(v,y)::L):=by
 cases x with
 |fz d=>simp[L2.itemS]at e
 |lst z=>
  simp only[L2.itemS]at e;split at e
  ·rename_i k h;split at e
   ·rename_i c a;split at e
    ·rename_i s g;cases e;obtain⟨u,o,f⟩:=w.uk (ks:=[k]) (y:=c) (d:=d) (by simp[OD.at,OD.kids,a]) g;cases o with
     |cons m l=>
      cases l;cases m with
      |lst j n q t=>simp only[OD.put,OD.kids,a,OD.eo]at f;exact⟨_,_,u,rfl,.inl (SqL.of j),by unfold atI;rw[n,h];exact q,f⟩
    ·cases e
   ·cases e
  ·cases e
 |tup z=>
  simp only[L2.itemS]at e;split at e
  ·rename_i k h;split at e
   ·rename_i c a;split at e
    ·rename_i s g;cases e;obtain⟨u,o,f⟩:=w.uk (ks:=[k]) (y:=c) (d:=d) (by simp[OD.at,OD.kids,a]) g;cases o with
     |cons m l=>
      cases l;cases m with
      |tup j n q t=>simp only[OD.put,OD.kids,a,OD.eo]at f;exact⟨_,_,u,rfl,.inr (SqT.of j),by unfold atI;rw[n,h];exact q,f⟩
    ·cases e
   ·cases e
  ·cases e
 |dic _ _=>simp[L2.itemS]at e
 |obj _ _ _=>simp[L2.itemS]at e
 |pin _ _ _=>simp[L2.itemS]at e
 |hole _=>simp[L2.itemS]at e
end
section
variable{X:Cx}{K:Waa}{a b c e:Expr}{es:List Expr}{da db dc:DE}{dt:DA}{pos:Pos}{x:Str}
def J2(a b:DE):DE:=λh Q=>a h λx g=>b g λy d=>∃i z f,au d y=some (.int i)/\bJ d x i=some (z,f)/\Q (.val z) f
theorem D1(f:PlainIx b):PDe X a da->PDe X b db->PDe X (.Subscript a b pos) (J2 da db)
 |⟨_,A,s1⟩,⟨_,r,s2⟩=>⟨_,yA rY A r f,λb F σ H ρ τ θ U Q s R h q=>s1 b F σ H ρ τ θ _ _ s R h λv J x ρ1 N A=>s2 b F σ J ρ1 _ _ _ _ s N A λu B y ρ2 D ⟨i,z,ρ3,I,g,r⟩=>by
  have L:=D.dt I;cases L;have l:=D.drop;cases x with
  |val x=>
   simp only[bJ]at g;cases k:itemO x i with
   |none=>rw[k]at g;cases g
   |some G=>rw[k]at g;cases g;obtain⟨p,o,u,rfl,f,n,w⟩:=Wd.itemO l.wd k;have m:=q u B _ _ (l.drop.push w) r;rw[s]at f;exact f.elim (λf=>.inl ⟨p,o,i,u,rfl,rfl,f,n,m⟩) λf=>.inr (.inl ⟨p,o,i,u,rfl,rfl,f,n,m⟩)
  |rf j=>
   simp only[bJ]at g;cases k:ρ2[j]?.join with
   |none=>rw[k]at g;cases g
   |some x=>
    rw[k]at g;simp only at g;cases t:itemS x i with
    |none=>rw[t]at g;cases g
    |some G=>
     obtain⟨d,O⟩:=G;rw[t]at g;cases g;obtain⟨M,C,w⟩:=l.drop.slot (join_some k);have:v=M:=by have:=l.al.1;rw[C]at this;cases this;rfl
     subst this;obtain⟨p,o,u,rfl,f,n,T⟩:=Wd.itemS w t;have S:Rel b F σ B (ρ2.set j (some O)) (u::τ) (.val (.fz d)::θ):=Rel.back (τ:=u::τ) (θ:=.val (.fz d)::θ) l.wf l.drop.al l.wff C (T.perm (List.Perm.swap _ _ _));have m:=q u B _ _ S r;rw[s]at f;exact f.elim (λf=>.inl ⟨p,o,i,u,rfl,rfl,f,n,m⟩) λf=>.inr (.inl ⟨p,o,i,u,rfl,rfl,f,n,m⟩)⟩
variable{k:Nat}{f:Addr}{fd:FuncData}{ps:List Str}{sp:DSp}{p:Pos}
def KC:PyData->Bool
 |.none=>true|.bool _=>true|.int _=>true|.str _=>true
 |_=>false
def cU(ρ:DEnv):List OR->Option (List PyData)
 |[]=>some []
 |r::rs=>(au ρ r).bind λd=>(cU ρ rs).map (d::·)
theorem Rel.dtL{b:Bs}{F:List Fr}{σ:St}{H:Hp}{ρ:DEnv}:∀{vs:List V}{rs:List OR}{τ:List V}{θ:List OR}{ds:List PyData},Rel b F σ H ρ (vs++τ) (rs++θ)->vs.length=rs.length->cU ρ rs=some ds->DtAll b.K H vs ds
 |[],[],_,_,_,_,_,e=>by simp only[cU]at e;cases e;exact .nil
 |v::vs,r::rs,τ,θ,ds,R,el,e=>by simp only[cU,aaK,aaM]at e;obtain⟨d,g,h,i,rfl⟩:=e;exact .cons (Rel.dt R g) (Rel.dtL (Rel.drop R) (by simpa using el) i)
 |[],_::_,_,_,_,_,e,_=>by simp at e
 |_::_,[],_,_,_,_,e,_=>by simp at e
def SndCB(K:Waa)(h:List V->Hp->VK->Prop)(r:DRn):Prop:=∀(H:Hp) (vs:List V) (g:List PyData) (Qd:PyData->Prop) (Q:VK),DtAll K H vs g->r g Qd->(∀w d,Sc w d->Qd d->Q w H)->h vs H Q
def F0(r:DRn)(t:DA):DE:=λi Q=>t i λj g=>∃h,cU g j=some h/\r h λd=>Q (.val (.fz d)) g
theorem sN{g:List V->Hp->VK->Prop}{r:DRn}{n:TA}(C:SndCB K g r)(D:AG K n dt):bZ K (GE g n) (F0 r dt):=λb F A H B z t J Q j R h q=>D b F A H B z t _ _ j R h λG i L u m l ⟨y,o,v⟩=>
 C i G y _ _ (j▸l.dtL m o) v λw d I s=>q w i _ _ ((l.drops m).sc I) s
theorem eQ{i:List V->Hp->VK->Prop}{r:DRn}{h:String} (m:CallR X (.builtin h) i) (n:SndCB X.K i r) (o:Gl X x) (l:X.mg x=none) (s:bootBuiltins x=some (.builtin h)) (q:x≠"__name__":=by decide) (g:(x==("__debug__":Str))=false:=by decide)
  (j:starEach (e::es) X.env=(false,eval e X.env)::starEach es X.env:=by rfl) (d:(backTo pos (starEach es X.env)).any (·.1)=false:=by rfl):PDa X (e::es) dt->PDe X (.Call (.Name x p) (e::es) [] pos) (F0 r dt)
 |⟨_,h1,s1⟩=>⟨_,kr m o l s h1 q g j d,sN n s1⟩
theorem sO{i:List V->Hp->VK->Prop}{r:DRn}{h:String} (m:CallR X (.type h) i) (n:SndCB X.K i r) (o:Gl X x) (l:X.mg x=none) (s:bootBuiltins x=some (.type h)) (q:x≠"__name__":=by decide) (g:(x==("__debug__":Str))=false:=by decide)
  (j:starEach (e::es) X.env=(false,eval e X.env)::starEach es X.env:=by rfl) (d:(backTo pos (starEach es X.env)).any (·.1)=false:=by rfl):PDa X (e::es) dt->PDe X (.Call (.Name x p) (e::es) [] pos) (F0 r dt)
 |⟨_,h1,s1⟩=>⟨_,iT m o l s h1 q g j d,sN n s1⟩
def mw:PyData->Option Nat
 |.list ds=>some ds.length
 |.tuple ds=>some ds.length
 |_=>none
def dLen:DRn:=λg Q=>∃d n,g=[d]/\mw d=some n/\Q (.int n)
theorem sc_len:SndCB K (λxs H Q=>∃x n,xs=[x]/\Dm K x H n/\Q (.int n) H) dLen:=by
 rintro H j m l Q i ⟨d,n,rfl,e,g⟩ q;cases i with
 |cons h t=>
  cases t;refine⟨_,n,rfl,?_,q _ _ (.int _) g⟩;cases h with
  |lst s t=>simp only[mw]at e;cases e;exact .inl ⟨_,s,t.length.symm⟩
  |tup s t=>simp only[mw]at e;cases e;exact .inr ⟨_,s,t.length.symm⟩
  |_=>simp[mw]at e
def dAbs:DRn:=λd Q=>∃i,d=[.int i]/\Q (.int (if i<0 then -i else i))
theorem sc_abs:SndCB K (λxs H Q=>∃i,xs=[.int i]/\Q (.int (if i<0 then -i else i)) H) dAbs:=by rintro H j m l Q g ⟨i,rfl,d⟩ q;cases g with|cons h t=>cases t;cases h;exact⟨i,rfl,q _ _ (.int _) d⟩
def dMax:DRn:=λd Q=>∃i j,d=[.int i,.int j]/\Q (.int (if j>i then j else i))
theorem sc_max:SndCB K (λxs H Q=>∃i j,xs=[.int i,.int j]/\Q (.int (if j>i then j else i)) H) dMax:=by rintro H m o n Q l ⟨i,j,rfl,g⟩ q;cases l with|cons h t=>cases t with|cons d t=>cases t;cases h;cases d;exact⟨i,j,rfl,q _ _ (.int _) g⟩
def dMin:DRn:=λd Q=>∃i j,d=[.int i,.int j]/\Q (.int (if j<i then j else i))
theorem sc_min:SndCB K (λxs H Q=>∃i j,xs=[.int i,.int j]/\Q (.int (if j<i then j else i)) H) dMin:=by rintro H m o n Q l ⟨i,j,rfl,g⟩ q;cases l with|cons h t=>cases t with|cons d t=>cases t;cases h;cases d;exact⟨i,j,rfl,q _ _ (.int _) g⟩
def toInt:PyData->Option Int
 |.int i=>some i
 |.bool k=>some (if k then 1 else 0)
 |_=>none
def dInt:DRn:=λg Q=>∃d i,g=[d]/\toInt d=some i/\Q (.int i)
theorem sc_int:SndCB K (λxs H Q=>(∃i,xs=[.int i]/\Q (.int i) H)\/∃k,xs=[.bl k]/\Q (.int (if k then 1 else 0)) H) dInt:=by
 rintro H m o n Q l ⟨d,i,rfl,e,g⟩ q;cases l with
 |cons h t=>
  cases t;cases h with
  |int j=>simp only[toInt]at e;cases e;exact .inl ⟨_,rfl,q _ _ (.int _) g⟩
  |bl k=>simp only[toInt]at e;cases e;exact .inr ⟨_,rfl,q _ _ (.int _) g⟩
  |_=>simp[toInt]at e
def allB:List PyData->Option (List Bool)
 |[]=>some []
 |.bool k::ds=>(allB ds).map (k::·)
 |_::_=>none
def J3:DRn:=λg Q=>∃es d,g=[.list es]/\allB es=some d/\Q (.bool (d.all id))
def J4:PyData->String
 |.none=>"NoneType" |.bool _=>"bool" |.int _=>"int" |.str _=>"str" |.list _=>"list" |.tuple _=>"tuple" |.dict _=>"dict"
theorem Dt.ty{H:Hp}{v:V}{d:PyData}(h:Dt K H v d):Ty K H v (J4 d):=by
 cases h with
 |non=>exact .non
 |bl b=>exact .bl b
 |int i=>exact .int i
 |str x=>exact .str x
 |lst s _=>exact .lst s
 |tup s _=>exact .tup s
def J5(n T:String):Option Bool:=if n=T then some true else match n,T with
 | "bool","int"=>some true
 |_,_=>if n∈["NoneType","bool","int","str","list","tuple"]/\T∈["bool","int","str","list","tuple"] then some false else none
end
end
section
def seqOf(x:OD):Option (List PyData):=match listOf x with
 |some a=>some a
 |none=>tupOf x
section
variable{b:Bs}{F:List Fr}{σ:St}{H H':Hp}{ρ ρ':DEnv}{τ vs:List V}{θ rs:List OR}{v u:V}{r r':OR}{x y:OD}{d:PyData}{ds:List PyData}{i:Nat}{L:List (V×OD)}{p:Addr}
theorem Rel.mem(R:Rel b F σ H ρ (v::τ) (r::θ))(e:dY ρ r=some x):(v,x)∈stk (v::τ) (r::θ)++(flat σ ρ++ff F):=by
 cases r with
 |val y=>simp only[dY]at e;cases e;simp[stk]
 |rf i=>simp only[dY]at e;refine aae _ (aah _ ?_);exact(bo (join_some e) R.al.1).mem_iff.mpr aaj
theorem Rel.mem1(R:Rel b F σ H ρ (u::v::τ) (r'::r::θ))(e:dY ρ r=some x):(v,x)∈stk (u::v::τ) (r'::r::θ)++(flat σ ρ++ff F):=by
 have h:=R.drop.mem e;cases r' with
 |val y=>simp only[stk];exact aal _ h
 |rf i=>exact h
theorem Rel.mn(R:Rel b F σ H ρ (u::v::τ) (r'::r::θ)):Rel b F σ H ρ (u::τ) (r'::θ):=(Rel.rot (vs:=[u]) (rs:=[r']) R rfl).drop
theorem Ows.fzs(h:Ows b S H vs (ds.map OD.fz) A):FzA b.K S H vs ds:=by
 induction ds generalizing vs A with
 |nil=>cases h;exact .nil
 |cons d ds a=>cases h with|cons r t=>cases r with|fz f=>exact .cons f (a t)
theorem Wd.exp(w:Wd b H L)(f:OwL b (λa=>a∈A\/b.S0 a) H L A)(e:A.Nodup)(c:∀a∈A,b.H0 a=none\/b.C a)(h:FzA b.K (λa=>a∈A\/b.S0 a) H vs ds):Wd b H (vs.zip (ds.map OD.fz)++L):=by
 have q:∀{vs:List V}{ds:List PyData},FzA b.K (λa=>a∈A\/b.S0 a) H vs ds->OwL b (λa=>a∈A\/b.S0 a) H (vs.zip (ds.map OD.fz)) []:=by
  intro vs;induction vs with
  |nil=>intro ds h;cases h;exact .nil
  |cons v vs g=>intro ds h;cases h with|cons r t=>exact Ows.cons (.fz r) (g t)
 exact⟨⟨A,OwL.il (q h) f,e,c⟩,w.fr,w.s0,w.nt⟩
theorem Wd.ay(w:Wd b H L)(m:(v,x)∈L)(e:listOf x=some ds):∃a vs,v=.ref a/\vs.length=ds.length/\SqL b.K H a vs/\Wd b H (vs.zip (ds.map OD.fz)++L):=by
 obtain⟨A,j,k,g⟩:=w.out;obtain⟨B,h⟩:=OwL.mem j m;cases h with
 |@fz _ d f=>
  cases d with
  |list o=>simp only[listOf]at e;cases e;obtain⟨a,vs,rfl,n,c⟩:=f.rd;exact⟨a,vs,rfl,c.length,n.now,w.exp j k g c⟩
  |_=>simp[listOf]at e
 |@lst a vs xs A' e1 t=>simp only[listOf]at e;have l:=fzL_map e;subst l;have c:=Ows.fzs t;exact⟨a,vs,rfl,c.length,SqL.of e1,w.exp j k g c⟩
 |_=>simp[listOf]at e
theorem Wd.fy(w:Wd b H L)(m:(v,x)∈L)(e:tupOf x=some ds):∃a vs,v=.ref a/\vs.length=ds.length/\SqT b.K H a vs/\Wd b H (vs.zip (ds.map OD.fz)++L):=by
 obtain⟨A,j,k,c⟩:=w.out;obtain⟨B,h⟩:=OwL.mem j m;cases h with
 |@fz _ d f=>
  cases d with
  |tuple n=>simp only[tupOf]at e;cases e;obtain⟨a,vs,rfl,l,g⟩:=f.r3;exact⟨a,vs,rfl,g.length,l.now,w.exp j k c g⟩
  |_=>simp[tupOf]at e
 |_=>simp[tupOf]at e
theorem Wd.xc(w:Wd b H L)(m:(v,x)∈L)(e:seqOf x=some ds):∃a vs,v=.ref a/\vs.length=ds.length/\(SqL b.K H a vs\/SqT b.K H a vs)/\Wd b H (vs.zip (ds.map OD.fz)++L):=by
 unfold seqOf at e;cases h:listOf x with
 |some z=>rw[h]at e;cases e;obtain⟨a,vs,j,g,f,c⟩:=w.ay m h;exact⟨a,vs,j,g,.inl f,c⟩
 |none=>rw[h]at e;obtain⟨a,vs,j,g,f,c⟩:=w.fy m e;exact⟨a,vs,j,g,.inr f,c⟩
theorem Rel.eu(R:Rel b F σ H ρ τ θ){Z:List (V×OD)}(w:Wd b H (Z++(stk τ θ++(flat σ ρ++ff F))))(c:vs.length=ds.length)(m:∀z∈vs.zip (ds.map OD.fz),z∈Z++(stk τ θ++(flat σ ρ++ff F)))(f:H p=none):
  Rel b F σ (upd H p (.lst vs)) ρ (.ref p::τ) (.val (.lst (ds.map OD.fz))::θ):=by
 obtain⟨A,e,g,a⟩:=w.out;have h:=Wd.exp w e g a ((OwL.uh e).all c m);exact R.push (Wd.below (Wd.eu h (by simpa using c) f))
theorem Rel.j1(R:Rel b F σ H ρ τ θ){Z:List (V×OD)}(w:Wd b H (Z++(stk τ θ++(flat σ ρ++ff F))))(c:vs.length=ds.length)(m:∀z∈vs.zip (ds.map OD.fz),z∈Z++(stk τ θ++(flat σ ρ++ff F)))(a:H p=none):
  Rel b F σ (upd H p (.tup vs)) ρ (.ref p::τ) (.val (.fz (.tuple ds))::θ):=R.push (Wd.below (w.j1 (λS e=>e.all c m) a))
end
section
variable{X:Cx}{K:Waa}{a b c e:Expr}{es:List Expr}{da db dc:DE}{dt:DA}{pos p:Pos}{x:Str}
def F1(t:DA):DE:=λg Q=>t g λh d=>∃r f,h=[r]/\(dY d r).bind seqOf=some f/\Q (.val (.lst (f.map OD.fz))) d
def AW(t:DA):DE:=λg Q=>t g λh d=>∃r f,h=[r]/\(dY d r).bind listOf=some f/\Q (.val (.fz (.tuple f))) d
theorem sP(o:Gl X x) (D:X.mg x=none) (t:bootBuiltins x=some (.type "tuple")) (N:x≠"__name__":=by decide) (g:(x==("__debug__":Str))=false:=by decide)
  (A:starEach (e::es) X.env=(false,eval e X.env)::starEach es X.env:=by rfl) (d:(backTo pos (starEach es X.env)).any (·.1)=false:=by rfl):PDa X (e::es) dt->PDe X (.Call (.Name x p) (e::es) [] pos) (AW dt)
 |⟨_,f,s1⟩=>⟨_,iT iL o D t f N g A d,λb F L H M J G T Q m R h q=>s1 b F L H M J G _ _ m R h λO U Z I j i ⟨r,Y,y,s,f⟩=>by
  subst y;obtain⟨z,n,C⟩:=aaK.mp s
  match O,j with
  |[v],_=>
   obtain⟨a,S,rfl,j,k,w⟩:=i.wd.ay (i.mem n) C;rw[m]at k;exact⟨a,S,rfl,.inl ⟨k,λl u=>q _ _ _ _ (Rel.mn (i.j1 w j (λz B=>aah _ B) u)) f⟩⟩⟩
def G2(a b:DE):DE:=λh Q=>a h λx f=>b f λy d=>∃g es,mr d x=some g/\mr d y=some es/\g.length+es.length<=1000000/\Q (.val (.lst ((g++es).map OD.fz))) d
theorem wI{i g:Type}{xs d:List i}{ys f:List g}(h:xs.length=ys.length):(xs++d).zip (ys++f)=xs.zip ys++d.zip f:=List.zip_append h
theorem AX:PDe X a da->PDe X b db->PDe X (.BinOp a .Add b pos) (G2 da db)
 |⟨_,j,s1⟩,⟨_,i,s2⟩=>⟨_,rM wu j i,λb F σ H ρ τ θ O Q m R h q=>s1 b F σ H ρ τ θ _ _ m R h λv G x ρ1 L j=>s2 b F σ G ρ1 _ _ _ _ m L j λu S y ρ2 g ⟨ds,es,D,B,d,i⟩=>by
  obtain⟨T,t,I⟩:=aaK.mp D;obtain⟨N,J,s⟩:=aaK.mp B;obtain⟨a,M,rfl,r,o,w⟩:=g.wd.ay (g.mem1 t) I;obtain⟨c,A,rfl,k,f,n⟩:=w.ay (aae _ (g.mem J)) s;rw[<-aac]at n;rw[m]at o f;refine⟨a,c,M,A,rfl,rfl,o,f,l4 (by omega),λl C=>q _ _ _ _ (Rel.mn (Rel.mn (g.eu n (by simp[r,k]) (λz d=>?_) C))) i⟩;rw[aau,wI (by simpa using r)]at d;refine aah _ ?_;rcases aam.mp d with d|d
  ·exact aae _ d
  ·exact aah _ d⟩
def II(a b:DE):DE:=λh Q=>a h λx g=>b g λy d=>∃f es,D0 d x=some f/\D0 d y=some es/\f≠[]/\es≠[]/\f.length+es.length<=1000000/\Q (.val (.fz (.tuple (f++es)))) d
abbrev DO:=DEnv->(Option Int->DEnv->Prop)->Prop
def G3(K:Waa)(l:TO)(m:DO):Prop:=∀(b:Bs) (F:List Fr) (f:St) (H:Hp) (i:DEnv) (h:List V) (j:List OR) (Qd:Option Int->DEnv->Prop) (Q:Option Int->Hp->Prop),b.K=K->Rel b F f H i h j->m i Qd->(∀k g d,Rel b F f g d h j->Qd k d->Q k g)->l f H Q
inductive PDo (X:Cx)(e:Option Expr)(de:DO):Prop|mk (te:TO) (h:PO X e te) (s:G3 X.K te de)
def dNoPart:DO:=λd Q=>Q none d
def D2(a:DE):DO:=λf Q=>a f λx d=>∃i,au d x=some (.int i)/\Q (some i) d
theorem pdo_none:PDo X none dNoPart:=⟨_,v3,λb F i H d g k j Q f R h q=>q none H d R h⟩
theorem sQ:PDe X e da->PDo X (some e) (D2 da)
 |⟨_,d,s1⟩=>⟨_,v5 d,λb F σ H ρ τ θ k Q j R h q=>s1 b F σ H ρ τ θ _ _ j R h λv g x ρ1 f ⟨i,e,d⟩=>by
  cases f.dt e;exact⟨i,rfl,q _ g _ f.drop d⟩⟩
def cutD{d:Type}(xs:List d)(lo hi:Option Int):List d:=(xs.drop (HT.sIx xs.length 0 lo)).take (HT.sIx xs.length xs.length hi-HT.sIx xs.length 0 lo)
theorem wJ{vs:List V}{ds:List OD}(f:vs.length=ds.length)(lo hi:Option Int):∀z∈(cutD vs lo hi).zip (cutD ds lo hi),z∈vs.zip ds:=by intro z d;unfold cutD at d;rw[f,acr,<-List.take_zipWith,<-List.drop_zipWith,<-acr]at d;exact List.mem_of_mem_drop (acs d)
theorem sR{d g:Type}(f:d->g)(xs:List d)(lo hi:Option Int):cutD (xs.map f) lo hi=(cutD xs lo hi).map f:=by unfold cutD;rw[aaa,abw,List.map_drop]
theorem sS{f d:Type}{xs:List f}{ys:List d}(g:xs.length=ys.length)(lo hi:Option Int):(cutD xs lo hi).length=(cutD ys lo hi).length:=by unfold cutD;rw[aaW,abu,aaW,abu,g]
variable{lo hi:Option Expr}{dl dh:DO}{p2:Pos}
def G4(a:DE)(dl dh:DO):DE:=λi Q=>a i λx g=>dl g λl f=>dh f λu d=>∃h,mr d x=some h/\Q (.val (.lst ((cutD h l u).map OD.fz))) d
theorem AY:PDe X e da->PDo X lo dl->PDo X hi dh->PDe X (.Subscript e (.Slice lo hi none p2) pos) (G4 da dl dh)
 |⟨_,i,s1⟩,⟨_,g,s2⟩,⟨_,f,s3⟩=>⟨_,rX v8 i g f,λb F σ H ρ τ θ G Q d R h q=>s1 b F σ H ρ τ θ _ _ d R h λv t x ρ1 C i=>s2 b F σ t ρ1 _ _ _ _ d C i λl B ρ2 A g=>s3 b F σ B ρ2 _ _ _ _ d A g λu J ρ3 j ⟨ds,s,f⟩=>by
  obtain⟨L,o,y⟩:=aaK.mp s;obtain⟨a,D,rfl,n,m,w⟩:=j.wd.ay (j.mem o) y;rw[d]at m;refine⟨a,D,rfl,m,λI r=>q _ _ _ _ (Rel.mn (j.eu w (sS n l u) (λz k=>aah _ ?_) r)) f⟩;rw[<-sR]at k;exact wJ (by simpa using n) l u z k⟩
def J6(a:DE)(dl dh:DO):DE:=λi Q=>a i λx h=>dl h λl g=>dh g λu f=>∃d,D0 f x=some d/\¬ (HT.sIx d.length 0 l=0/\HT.sIx d.length d.length u=d.length)/\Q (.val (.fz (.tuple (cutD d l u)))) f
end
end
section
structure DEnds where
 nx:DEnv->Prop
 rt:OD->DEnv->Prop
 bk:DEnv->Prop:=λ_=>False
 ct:DEnv->Prop:=λ_=>False
abbrev DS:=DEnds->DEnv->Prop
def NoRf(W:Nat->Prop)(θ:List OR):Prop:=∀r∈θ,(∃x,r=.val x)\/∃j,W j/\r=.rf j
abbrev Ff:Nat->Prop:=λ_=>False
structure EndsOk (b:Bs)(F:List Fr)(τ:List V)(θ:List OR)(Dd:DEnds)(D:Ends):Prop where
 nx:∀σ H ρ,Rel b F σ H ρ τ θ->Dd.nx ρ->D.nx σ H
 bk:∀σ H ρ,Rel b F σ H ρ τ θ->Dd.bk ρ->D.bk σ H
 ct:∀σ H ρ,Rel b F σ H ρ τ θ->Dd.ct ρ->D.ct σ H
 rt:∀σ H ρ v x,Rel b F σ H ρ (v::τ) (.val x::θ)->Dd.rt x ρ->D.rt v H
def D3(K:Waa)(W:Nat->Prop)(g:TS)(ds:DS):Prop:=∀(b:Bs) (F:List Fr) (d:St) (H:Hp) (e:DEnv) (c:List V) (a:List OR) (f:DEnds) (D:Ends),b.K=K->NoRf W a->Rel b F d H e c a->ds f e->EndsOk b F c a f D->g D d H
inductive PDs (X:Cx)(W:Nat->Prop)(e:Stmt)(de:DS):Prop|mk (te:TS) (h:PS X e te) (s:D3 X.K W te de)
inductive PDss (X:Cx)(W:Nat->Prop)(e:List Stmt)(de:DS):Prop|mk (te:TS) (h:PSs X e te) (s:D3 X.K W te de)
section
variable{b:Bs}{F:List Fr}{σ σ':St}{H H':Hp}{ρ ρ':DEnv}{τ vs:List V}{θ rs:List OR}{v u:V}{r r':OR}{x y:OD}{d:PyData}{ds:List PyData}{i:Nat}{L:List (V×OD)}
variable{W:Nat->Prop}
theorem NoRf.al{o:Option V}(n:NoRf W θ)(k:¬ W i):∀{τ:List V},Al σ τ θ->Al (σ.set i o) τ θ:=by
 induction θ with
 |nil=>intro τ h;cases τ with
  |nil=>trivial
  |cons _ _=>exact h
 |cons r θ c=>
  intro τ h;cases τ with
  |nil=>cases r<;>exact h
  |cons v τ=>
   rcases n r aaj with ⟨x,rfl⟩|⟨j,f,rfl⟩
   ·exact c (λr a=>n r (aal _ a)) (τ:=τ) h
   ·refine⟨?_,c (λr a=>n r (aal _ a)) (τ:=τ) h.2⟩;have g:i≠j:=λe=>k (by rw[e];exact f);rw[aa6 g];exact h.1
theorem NoRf.al0(n:NoRf Ff θ):∀{τ:List V},Al σ τ θ->Al σ' τ θ:=by
 induction θ with
 |nil=>intro τ h;cases τ with
  |nil=>trivial
  |cons _ _=>exact h
 |cons r θ e=>
  intro τ h;rcases n r aaj with ⟨x,rfl⟩|⟨j,a,rfl⟩
  ·cases τ with
   |nil=>exact h
   |cons v τ=>exact e (λr c=>n r (aal _ c)) (τ:=τ) h
  ·exact a.elim
theorem NoRf.weak(n:NoRf Ff θ):NoRf W θ:=λr c=>(n r c).imp id λ⟨j,a,_⟩=>a.elim
theorem NoRf.cons(n:NoRf W θ):NoRf W (.val x::θ):=λr a=>(aab.mp a).elim (λe=>.inl ⟨x,e⟩) (n r)
theorem NoRf.app(a:NoRf W rs)(n:NoRf W θ):NoRf W (rs++θ):=λr c=>(aam.mp c).elim (a r) (n r)
theorem Wd.mv{L1 L2:List (V×OD)}(w:Wd b H (L1++(flat σ ρ++L2)))(f:Wf σ ρ)(i:Nat):Wd b H (L1++(flat σ (ρ.set i none)++L2)):=by
 cases e:ρ[i]?.join with
 |none=>
  have:ρ.set i none=ρ:=by
   cases h:ρ[i]? with
   |none=>exact List.set_eq_of_length_le (by simpa using h)
   |some o=>rw[h]at e;have:o=none:=e;subst this;exact set_self h
  rw[this];exact w
 |some x=>have a:=join_some e;obtain⟨v,c⟩:=f.get a;exact Wd.drop (w.perm ((((bo a c).append_right _).append_left _).trans aav))
theorem Rel.store(R:Rel b F σ H ρ (v::τ) (.val x::θ))(n:NoRf W θ)(a:i<ρ.length)(c:¬ W i):Rel b F (σ.set i (some v)) H (ρ.set i (some x)) τ θ:=by refine Rel.u4 R.wf (n.al c (Rel.drop R).al) R.wff a ?_;exact Wd.mv (L1:=(v,x)::stk τ θ) (ρ:=ρ) R.wd R.wf i
end
section
variable{X:Cx}{W:Nat->Prop}{K:Waa}{a b c e:Expr}{es:List Expr}{sts:List Stmt}{st:Stmt}{da db dc:DE}{dt:DA}{d1 d2:DS}{dT:DT}{pos p:Pos}{x:Str}
def dNext:DS:=λD d=>D.nx d
def G5(t u:DS):DS:=λD f=>∃M:DEnv->Prop,(∀d,M d->u D d)/\t { D with nx:=M } f
theorem pdss_nil:PDss X W [] dNext:=⟨_,vR,λb F d H f i k j D g n R h E=>E.nx d H f R h⟩
theorem qu:PDs X W st d1->PDss X W sts d2->PDss X W (st::sts) (G5 d1 d2)
 |⟨_,d,s1⟩,⟨_,h2,s2⟩=>⟨_,rD d h2,λb F σ H ρ τ θ k D g n R ⟨M,j,h⟩ E=>s1 b F σ H ρ τ θ _ _ g n R h
  ⟨λf i ρ1 l d=>s2 b F f i ρ1 τ θ k D g n l (j ρ1 d) E,E.bk,E.ct,E.rt⟩⟩
def dCont:DS:=λD d=>D.ct d
theorem pds_cont:PDs X W (.Continue pos) dCont:=⟨_,kl,λb F d H f i k j D g n R h E=>E.ct d H f R h⟩
def J7:DS:=λD d=>D.bk d
def D4(a:DE):DS:=λD f=>a f λ_ d=>D.nx d
theorem sT(k:swapsWith e none pos.line X.env=pure false:=by rfl):PDe X e da->PDs X W (.Expr e pos) (D4 da)
 |⟨_,h,s⟩=>⟨_,jo h k,λb F f H m l i t D o n R h E=>s b F f H m l i _ _ o R h λv g r d q j=>E.nx f g d q.drop j⟩
def G6(a:DE):DS:=λD g=>a g λr f=>∃x d,mv1 f r=some (x,d)/\D.rt x d
theorem wK:PDe X e da->PDs X W (.Return (some e) pos) (G6 da)
 |⟨_,h,s⟩=>⟨_,zQ h,λb F σ H ρ τ θ j D g n R h E=>s b F σ H ρ τ θ _ _ g R h λv d r ρ1 i ⟨x,ρ2,e,f⟩=>E.rt σ d ρ2 v x (i.mv1 e) f⟩
def IJ:DS:=λD d=>D.rt (.fz .none) d
def G7(c:DT)(t u:DS):DS:=λD f=>c f λk d=>if k=true then t D d else u D d
theorem AZ{g f:List Stmt}:PDt X c dT->PDss X W g d1->PDss X W f d2->PDs X W (.If c g f pos) (G7 dT d1 d2)
 |⟨_,h,s⟩,⟨_,d,g⟩,⟨_,h2,f⟩=>⟨_,C2 h d h2,λb F σ H ρ τ θ m D i n R h E=>s b F σ H ρ τ θ _ _ i R h λk j ρ1 l d=>by
  cases k with
  |true=>rw[if_pos rfl]at d ⊢;exact g b F σ j ρ1 τ θ _ _ i n l d E
  |false=>rw[if_neg aad]at d ⊢;exact f b F σ j ρ1 τ θ _ _ i n l d E⟩
def G8(i:Nat)(a:DE):DS:=λD g=>a g λr f=>∃x d,own1 f r=some (x,d)/\i<d.length/\D.nx (d.set i (some x))
theorem wL{i:Nat}{d:Pos}(j:¬ W i)(C:X.N.Nodup)(f:X.N[i]?=some x)(g:Loc X.env.scope x)(q:swapsWith e (some (.Name x d)) pos.line X.env=pure false:=by rfl)(z:X.fn x=true\/X.env.scope.names.lookup x=some .local:=by first|exact .inl rfl|exact .inr rfl|assumption):
  PDe X e da->PDs X W (.Assign [.Name x d] e pos) (G8 i da)
 |⟨_,h,s⟩=>⟨_,zU C f g h q z,λb F w H y u l G D A n R h E=>s b F w H y u l _ _ A R h λv k r m B ⟨x,t,e,f,o⟩=>E.nx _ k _ ((B.own1 e).store n f j) o⟩
def cV:List Nat->List OD->DEnv->DEnv
 |i::is,x::xs,ρ=>cV is xs (ρ.set i (some x))
 |_,_,ρ=>ρ
def A6(is:List Nat)(t:DA):DS:=λD h=>t h λj g=>∃f d,mapR own1 g j=some (f,d)/\f.length=is.length/\(∀i∈is,i<d.length)/\D.nx (cV is f d)
def jA:List Nat->List V->St->St
 |i::is,v::vs,σ=>jA is vs (σ.set i (some v))
 |_,_,σ=>σ
theorem Rel.storeAll{W:Nat->Prop}{b:Bs}{F:List Fr}{H:Hp}{τ:List V}{θ:List OR}:∀{is:List Nat}{vs:List V}{xs:List OD}{σ:St}{ρ:DEnv},Rel b F σ H ρ (vs++τ) (xs.map OR.val++θ)->NoRf W θ->vs.length=xs.length->xs.length=is.length->(∀i∈is,i<ρ.length)->(∀i∈is,¬ W i)->Rel b F (jA is vs σ) H (cV is xs ρ) τ θ
 |[],[],[],_,_,R,_,_,_,_,_=>R
 |i::is,v::vs,x::xs,σ,ρ,R,n,e1,e2,h,hw=>by have f:NoRf W (xs.map OR.val++θ):=NoRf.app (λr g=>by obtain⟨x,_,rfl⟩:=aax.mp g;exact .inl ⟨x,rfl⟩) n;show Rel b F (jA is vs (σ.set i (some v))) H (cV is xs (ρ.set i (some x))) τ θ;exact Rel.storeAll (Rel.store (τ:=vs++τ) (θ:=xs.map OR.val++θ) R f (h i aaj) (hw i aaj)) n (by simpa using e1) (by simpa using e2) (λj d=>by rw[abj];exact h j (aal _ d)) λj d=>hw j (aal _ d)
 |[],_::_,[],_,_,_,_,e,_,_,_=>by simp at e
 |[],_,_::_,_,_,_,_,_,e,_,_=>by simp at e
 |_::_,[],_::_,_,_,_,_,e,_,_,_=>by simp at e
 |_::_,_,[],_,_,_,_,_,e,_,_=>by simp at e
theorem len2{d:Type}{l:List d}(h:l.length=2):∃a b,l=[a,b]:=by
 match l,h with
 |[a,b],_=>exact⟨a,b,rfl⟩
theorem G9{d:Type}{l:List d}(h:l.length=3):∃a b c,l=[a,b,c]:=by
 match l,h with
 |[a,b,c],_=>exact⟨a,b,c,rfl⟩
theorem wM{i j:Nat}(hW:∀k∈[i,j],¬ W k){x y:Str}{m t l:Pos}{o r d}(Y:X.calm=true)(hN:X.N.Nodup)(q:X.N[i]?=some x)(J:X.N[j]?=some y)(g:i≠j)
  (z:X.env.scope.names.lookup x=some .local) (U:X.env.scope.names.lookup y=some .local)
  (A:swappedStores [.Tuple [.Name x m,.Name y t] o l] (.Tuple [a,b] r d) X.env=pure (some [x,y]))
  (M:swapsWithSole [.Tuple [.Name x m,.Name y t] o l] (.Tuple [a,b] r d) pos.line X.env=pure false:=by rfl):PDa X [a,b] dt->PDs X W (.Assign [.Tuple [.Name x m,.Name y t] o l] (.Tuple [a,b] r d) pos) (A6 [i,j] dt)
 |⟨_,h,s⟩=>⟨_,zV Y hN q J g z U h A M,λb F S H T Q C Dd D Z n R h E=>s b F S H T Q C _ _ Z R h λvs B rs G el R1 ⟨xs,O,e,f,q,L⟩=>by
  obtain⟨I,u⟩:=eP Rel.own1 R1 el e;obtain⟨v,w,rfl⟩:=len2 (u.trans f);exact⟨v,w,rfl,E.nx _ B _ (Rel.storeAll (is:=[i,j]) I n u f q hW) L⟩⟩
theorem sU{i j k:Nat}(hW:∀z∈[i,j,k],¬ W z){x y z:Str}{q C A m:Pos}{r B d}(hc:X.calm=true)(hN:X.N.Nodup)(t:X.N[i]?=some x)(T:X.N[j]?=some y)(hk:X.N[k]?=some z)(g:i≠j)(o:i≠k)(l:j≠k)
  (I:X.env.scope.names.lookup x=some .local) (hy:X.env.scope.names.lookup y=some .local) (M:X.env.scope.names.lookup z=some .local)
  (J:swappedStores [.Tuple [.Name x q,.Name y C,.Name z A] r m] (.Tuple [a,b,c] B d) X.env=pure (some [x,y,z]))
  (Y:swapsWithSole [.Tuple [.Name x q,.Name y C,.Name z A] r m] (.Tuple [a,b,c] B d) pos.line X.env=pure false:=by rfl):PDa X [a,b,c] dt->PDs X W (.Assign [.Tuple [.Name x q,.Name y C,.Name z A] r m] (.Tuple [a,b,c] B d) pos) (A6 [i,j,k] dt)
 |⟨_,h,s⟩=>⟨_,wb hc hN t T hk g o l I hy M h J Y,λb F σ H ρ τ O Dd D hK n R h E=>s b F σ H ρ τ O _ _ hK R h λvs L rs Q el R1 ⟨xs,Z,e,f,t,U⟩=>by
  obtain⟨S,G⟩:=eP Rel.own1 R1 el e;obtain⟨v,w,u,rfl⟩:=G9 (G.trans f);exact⟨v,w,u,rfl,E.nx _ L _ (Rel.storeAll (is:=[i,j,k]) S n G f t hW) U⟩⟩
abbrev DG:=OD->DEnv->(DEnv->Prop)->Prop
abbrev DGs:=List OD->DEnv->(DEnv->Prop)->Prop
def qw(K:Waa)(W:Nat->Prop)(m:Nat)(g:TG)(o:DG):Prop:=∀(b:Bs) (F:List Fr) (h:St) (H:Hp) (i:DEnv) (n:List V) (k:List OR) (v:V) (x:OD) (Qd:DEnv->Prop) (Q:St->Hp->Prop),b.K=K->NoRf W k->Rel b F h H i (v::n) (.val x::k)->o x i Qd->(∀f l d,Rel b F f l d n k->(∀j,m<=j->f[j]?=h[j]?/\d[j]?=i[j]?)->Qd d->Q f l)->g v h H Q
def D5(K:Waa)(W:Nat->Prop)(m:Nat)(g:TGs)(q:DGs):Prop:=∀(b:Bs) (F:List Fr) (h:St) (H:Hp) (i:DEnv) (o:List V) (l:List OR) (vs:List V) (k:List OD) (Qd:DEnv->Prop) (Q:St->Hp->Prop),b.K=K->NoRf W l->vs.length=k.length->Rel b F h H i (vs++o) (k.map OR.val++l)->q k i Qd->(∀f n d,Rel b F f n d o l->(∀j,m<=j->f[j]?=h[j]?/\d[j]?=i[j]?)->Qd d->Q f n)->g vs h H Q
inductive PDg (X:Cx)(W:Nat->Prop)(m:Nat)(e:Expr)(dg:DG):Prop|mk (te:TG) (h:PG X e te) (s:qw X.K W m te dg)
inductive PDgs (X:Cx)(W:Nat->Prop)(m:Nat)(e:List Expr)(dg:DGs):Prop|mk (te:TGs) (h:CL X e te) (s:D5 X.K W m te dg)
def A7(i:Nat):DG:=λx d Q=>i<d.length/\Q (d.set i (some x))
def dgNil:DGs:=λf d Q=>f=[]/\Q d
def A8(t:DG)(u:DGs):DGs:=λg f Q=>∃x r,g=x::r/\t x f λd=>u r d Q
def unpT:OD->Option (List OD)
 |.fz (.tuple ds)=>some (ds.map OD.fz)
 |.tup xs=>some xs
 |_=>none
def unpL:OD->Option (List OD)
 |.fz (.list ds)=>some (ds.map OD.fz)
 |.lst xs=>some xs
 |_=>none
def D6(n:Nat)(t:DGs):DG:=λx f Q=>∃d,unpT x=some d/\d.length=n/\t d f Q
def D7(n:Nat)(t:DGs):DG:=λx f Q=>∃d,unpL x=some d/\d.length=n/\t d f Q
variable{m:Nat}{dg:DG}{dgs:DGs}
theorem kG{i:Nat}(g:¬ W i)(l:X.N.Nodup)(d:X.N[i]?=some x)(f:Loc X.env.scope x)(o:i<m)(k:X.fn x=true\/X.env.scope.names.lookup x=some .local:=by first|exact .inl rfl|exact .inr rfl|assumption):PDg X W m (.Name x pos) (A7 i):=
 ⟨_,vT l d f k,λb F w H y u s v x r Q z n R ⟨d,h⟩ q=>q _ _ _ (R.store n d g) (λj t=>⟨aa6 (by omega),aa6 (by omega)⟩) h⟩
theorem pdgs_nil:PDgs X W m [] dgNil:=⟨_,vU,λb F o H r l i d t g Q s n f R ⟨e,h⟩ q=>by
 subst e;cases d with
 |nil=>exact⟨rfl,q _ _ _ R (λj k=>⟨rfl,rfl⟩) h⟩
 |cons _ _=>simp at f⟩
theorem qx(C:(assignEach (e::es) X.env).map (·.2)=assign e X.env::(assignEach es X.env).map (·.2):=by rfl):PDg X W m e dg->PDgs X W m es dgs->PDgs X W m (e::es) (A8 dg dgs)
 |⟨_,l,s1⟩,⟨_,g,s2⟩=>⟨_,rG l g C,λb F G H I t i d S N Q w n y R ⟨x,r,e,h⟩ q=>by
  subst e;cases d with
  |nil=>simp at y
  |cons v d=>
   have A:NoRf W (r.map OR.val++i):=NoRf.app (λr L=>by obtain⟨x,_,rfl⟩:=aax.mp L;exact .inl ⟨x,rfl⟩) n;exact⟨v,d,rfl,s1 b F G H I (d++t) (r.map OR.val++i) v x _ _ w A R h λo z k M s l=>s2 b F o z k t i d r _ _ w n (by simpa using y) M l λJ O D B u g=>
    q _ _ _ B (λj f=>⟨(u j f).1.trans (s j f).1,(u j f).2.trans (s j f).2⟩) g⟩⟩
theorem Wd.unpT{b:Bs}{H:Hp}{L:List (V×OD)}{v:V}{x:OD}{xs:List OD}(w:Wd b H ((v,x)::L))(e:unpT x=some xs):∃a vs,v=.ref a/\SqT b.K H a vs/\vs.length=xs.length/\Wd b H (vs.zip xs++L):=by
 cases x with
 |fz d=>cases d<;>simp only[L2.unpT]at e<;>cases e;obtain⟨a,vs,rfl,j,h,k⟩:=w.fy aaj (rfl:tupOf (.fz (.tuple _))=some _);exact⟨a,vs,rfl,h,by simpa using j,Wd.drop (k.perm aav)⟩
 |tup n=>
  simp only[L2.unpT]at e;cases e;obtain⟨l,i,g,f⟩:=w.out;cases i with
  |cons r t=>
   cases r with
   |@tup a vs _ A h1 h2=>exact⟨a,vs,rfl,SqT.of h1,h2.len,⟨⟨_,OwL.il (OwL.j2 h2) t,g,f⟩,w.fr,w.s0,w.nt⟩⟩
 |_=>simp[L2.unpT]at e
theorem Wd.unpL{b:Bs}{H:Hp}{L:List (V×OD)}{v:V}{x:OD}{xs:List OD}(w:Wd b H ((v,x)::L))(e:unpL x=some xs):∃a vs,v=.ref a/\SqL b.K H a vs/\vs.length=xs.length/\Wd b H (vs.zip xs++L):=by
 have g:∀{h:List PyData},listOf x=some h->xs=h.map OD.fz->∃a vs,v=.ref a/\SqL b.K H a vs/\vs.length=xs.length/\Wd b H (vs.zip xs++L):=λ{h} h1 h2=>by subst h2;obtain⟨a,vs,rfl,q,n,s⟩:=w.ay aaj h1;exact⟨a,vs,rfl,n,by simpa using q,Wd.drop (s.perm aav)⟩
 cases x with
 |fz d=>cases d<;>simp only[L2.unpL]at e<;>cases e;exact g rfl rfl
 |lst y=>
  simp only[L2.unpL]at e;cases e;obtain⟨u,j,l,f⟩:=w.out;have k:=w.q7 j;cases j with
  |@cons _ _ A _ _ B0 r t=>
   cases r with
   |@lst a vs _ B h1 h2=>have i:∀c,(c∈B++B0\/b.S0 c)->(c∈a::B++B0\/b.S0 c):=λc z=>z.imp (λz=>by simp at z ⊢;exact .inr z) id;exact⟨a,vs,rfl,SqL.of h1,h2.len,⟨⟨_,Ows.step (Kp.refl _ _) (λc z=>.inl (i c z)) k (λ_ _=>rfl) (OwL.il (OwL.j2 h2) t),(aaF.mp l).2,λc o=>f c (aal _ o)⟩,w.fr,w.s0,w.nt⟩⟩
 |_=>simp[L2.unpL]at e
theorem jB{σ:St}:∀{vs:List V}{xs:List OD},vs.length=xs.length->Al σ vs (xs.map OR.val)
 |[],[],_=>trivial
 |_::vs,_::xs,e=>jB (vs:=vs) (xs:=xs) (by simpa using e)
 |[],_::_,e=>by simp at e
 |_::_,[],e=>by simp at e
theorem Rel.spread{b:Bs}{F:List Fr}{σ:St}{H:Hp}{ρ:DEnv}{τ vs:List V}{θ:List OR}{xs:List OD}(R:Rel b F σ H ρ τ θ)(d:vs.length=xs.length)(w:Wd b H (vs.zip xs++(stk τ θ++(flat σ ρ++ff F)))):Rel b F σ H ρ (vs++τ) (xs.map OR.val++θ):=
 ⟨R.wf,(aZ (by simpa using d)).mpr ⟨jB d,R.al⟩,R.wff,by rw[aJ (by simpa using d),cT d,aac];exact w⟩
theorem wN{k:Nat}{n:Nat}(z:X.calm=true)(A:(assignEach es X.env).length=n:=by rfl)(d:(assignEach es X.env).findIdx? (·.1)=none:=by rfl):PDgs X W m es dgs->PDg X W m (.Tuple es k pos) (D6 n dgs)
 |⟨_,h,s⟩=>⟨_,zR z h A d,λb F u H y t r v x C Q i l R ⟨B,e,o,h⟩ q=>by
  obtain⟨a,j,rfl,g,f,w⟩:=Wd.unpT R.wd e;rw[i]at g;exact⟨a,j,rfl,g,f.trans o,s b F u H y t r j B _ _ i l f (R.drop.spread f w) h q⟩⟩
theorem wO{k:Nat}{n:Nat}(z:X.calm=true)(A:(assignEach es X.env).length=n:=by rfl)(d:(assignEach es X.env).findIdx? (·.1)=none:=by rfl):PDgs X W m es dgs->PDg X W m (.Tuple es k pos) (D7 n dgs)
 |⟨_,h,s⟩=>⟨_,AD z h A d,λb F u H y t r v x C Q i l R ⟨B,e,o,h⟩ q=>by
  obtain⟨a,j,rfl,g,f,w⟩:=Wd.unpL R.wd e;rw[i]at g;exact⟨a,j,rfl,g,f.trans o,s b F u H y t r j B _ _ i l f (R.drop.spread f w) h q⟩⟩
def Ha(a:DE)(g:DG):DS:=λD h=>a h λr f=>∃x d,own1 f r=some (x,d)/\g x d D.nx
theorem wQ{d:Expr}(z:swapsWithSole [d] e pos.line X.env=pure false:=by rfl)(s:swappedStores [d] e X.env=pure none:=by rfl)(C:(assignEach [d] X.env).map (·.2)=[assign d X.env]:=by rfl):PDe X e da->PDg X W m d dg->PDs X W (.Assign [d] e pos) (Ha da dg)
 |⟨_,g,s1⟩,⟨_,h2,s2⟩=>⟨_,rJ g h2 z s C,λb F o H B l k I D q n R h E=>s1 b F o H B l k _ _ q R h λv u r y G ⟨x,i,e,g⟩=>
  s2 b F o u i l k v x _ _ q n (G.own1 e) g λj w f t _ A=>E.nx j w f t A⟩
def A9(c:DT)(t:DS):DS:=λD g=>∃W:Nat->DEnv->Prop,(∃m,W m g)/\∀m g,W m g->c g λk f=>if k=true then ∃N:DEnv->Prop,(∀d,N d->∃h,h<m/\W h d)/\t { D with nx:=N,ct:=N,bk:=D.nx } f else D.nx f
theorem qy(C:PassesOwn (model X.prog X.w) X.A X.env X.xe):PDt X c dT->PDss X W sts d1->PDs X W (.While c sts [] pos) (A9 dT d1)
 |⟨_,h1,s1⟩,⟨_,i,s2⟩=>⟨_,rL C h1 i,λb F σ H ρ τ θ O D q n R ⟨W,⟨I,v⟩,step⟩ E=>by
  refine⟨λm σ H=>∃ρ,Rel b F σ H ρ τ θ/\W m ρ,⟨I,ρ,R,v⟩,?_⟩;rintro m h t ⟨ρ1,J,B⟩;refine s1 b F h t ρ1 τ θ _ _ q J (step m ρ1 B) λk r ρ2 o i=>?_;cases k with
  |false=>rw[if_neg aad]at i ⊢;exact E.nx h r ρ2 o i
  |true=>
   rw[if_pos rfl]at i ⊢;obtain⟨N,L,s⟩:=i;refine⟨λf j=>∃d,Rel b F f j d τ θ/\N d,λf j G=>?_,s2 b F h r ρ2 τ θ _ _ q n o s ⟨λf j d g l=>⟨d,g,l⟩,λf j d g l=>E.nx f j d g l,λf j d g l=>⟨d,g,l⟩,E.rt⟩⟩;obtain⟨d,g,z⟩:=G;obtain⟨M,y,u⟩:=L d z;exact⟨M,y,d,g,u⟩⟩
abbrev DI:=DEnv->(List PyData->DEnv->Prop)->Prop
def jC(b:Bs)(J:It)(vs:List V)(rs:List OR)(ds:List PyData):Prop:=∀(F:List Fr) (h:St) (H:Hp) (i:DEnv) (g:List V) (j:List OR),Rel b F h H i (vs++g) (rs++j)->∀k,
 (k<ds.length->J.go k H/\∀x f d,J.yld k H x f->ds[k]?=some d->Rel b F h f i (x::(vs++g)) (.val (.fz d)::(rs++j)))/\(k=ds.length->J.stop k H)
def D8(K:Waa)(o:TI)(q:DI):Prop:=∀(b:Bs) (F:List Fr) (h:St) (H:Hp) (k:DEnv) (j:List V) (l:List OR) (Qd:List PyData->DEnv->Prop) (Q:It->Hp->Prop),b.K=K->Rel b F h H k j l->q k Qd ->
 (∀J i n d g f,g.length=f.length->NoRf Ff f->Rel b F h i d (g++j) (f++l)->jC b J g f n->Qd n d->Q J i)->o h H Q
inductive PDi (X:Cx)(tg e:Expr)(di:DI):Prop|mk (te:TI) (h:PI X tg e te) (s:D8 X.K te di)
def J8(n:DI)(g:DG)(t:DS):DS:=λD f=>n f λl j=>∃h:Nat->DEnv->Prop,h 0 j/\(∀k d f,l[k]?=some d->h k f->g (.fz d) f λi=>t { D with nx:=h (k+1),ct:=h (k+1),bk:=D.nx } i)/\∀f,h l.length f->D.nx f
def bP(lo:Int)(n:Nat):List PyData:=(List.range n).map λ(i:Nat)=>PyData.int (lo+(i:Int))
theorem gS(lo:Int)(n:Nat):(bP lo n).length=n:=by simp[bP]
theorem sW{lo:Int}{n k:Nat}{d:PyData}(h:(bP lo n)[k]?=some d):k<n/\d=.int (lo+k):=by unfold bP at h;rw[aaq]at h;obtain⟨j,i,rfl⟩:=aaM.mp h;obtain⟨g,f⟩:=aai.mp i;simp at g f;subst f;exact⟨g,rfl⟩
theorem kH(b:Bs)(lo:Int)(n:Nat):jC b (C5 lo n) [] [] (bP lo n):=λF o H q j r R k=>by rw[gS];refine⟨λh=>⟨h,λx l d ⟨f,i⟩ g=>?_⟩,λe=>by subst e;exact aag _⟩;subst f i;rw[(sW g).2];exact Rel.sc R (.int _)
def D9(t:DA):DI:=λf Q=>t f λg d=>∃j,cU d g=some [.int j]/\-(2^62)<=j/\j<2^62/\Q (bP 0 j.toNat) d
theorem mx{C:Expr} (i:Gl X "range") (l:X.mg "range"=none) (v:starEach [a] X.env=[(false,eval a X.env)]:=by rfl):PDa X [a] dt->PDi X C (.Call (.Name "range" p) [a] [] pos) (D9 dt)
 |⟨_,h,s⟩=>⟨_,pQ i l h v,λb F z H A y o I Q G R h q=>s b F z H A y o _ _ G R h λL k J d g f ⟨j,e,D,w,u⟩=>by
  have n:=f.dtL g e;cases n with
  |cons r t=>cases t;cases r;exact⟨j,rfl,D,w,q _ k _ d [] [] rfl (λr B=>by cases B) (f.drops g) (kH b 0 _) u⟩⟩
def Ea(t:DA):DI:=λf Q=>t f λg d=>∃i j,cU d g=some [.int i,.int j]/\(-(2^62)<=i/\i<2^62/\-(2^62)<=j/\j<2^62)/\Q (bP i (j-i).toNat) d
theorem my{G:Expr} (n:Gl X "range") (u:X.mg "range"=none) (z:starEach [a,b] X.env=[(false,eval a X.env),(false,eval b X.env)]:=by rfl) (d:starEach [b] X.env=[(false,eval b X.env)]:=by rfl):PDa X [a,b] dt->PDi X G (.Call (.Name "range" p) [a,b] [] pos) (Ea dt)
 |⟨_,h,s⟩=>⟨_,pR n u h z d,λb F B H C A w L Q I R h q=>s b F B H C A w _ _ I R h λN o M f k g ⟨i,j,e,J,y⟩=>by
  have v:=g.dtL k e;cases v with
  |cons r t=>cases t with|cons l t=>cases t;cases r;cases l;exact⟨i,j,rfl,J,q _ o _ f [] [] rfl (λr D=>by cases D) (g.drops k) (kH b i _) y⟩⟩
theorem Rel.itemAt{b:Bs}{F:List Fr}{σ:St}{H:Hp}{ρ:DEnv}{τ:List V}{θ:List OR}{v:V}{x:OD}{ds:List PyData}{d:PyData}{k:Nat}(R:Rel b F σ H ρ τ θ)(m:(v,x)∈stk τ θ++(flat σ ρ++ff F))(e:seqOf x=some ds)(f:ds[k]?=some d):
  ∃a vs u,v=.ref a/\(SqL b.K H a vs\/SqT b.K H a vs)/\vs.length=ds.length/\vs[k]?=some u/\Rel b F σ H ρ (u::τ) (.val (.fz d)::θ):=by
 obtain⟨a,vs,rfl,h,i,w⟩:=R.wd.xc m e;have g:k<vs.length:=by rw[h];exact(aai.mp f).1
 refine⟨a,vs,vs[k],rfl,i,h,aak g,R.push (w.pick (cG (aak g) ?_))⟩;rw[aaq,f];rfl
theorem cW{v:V}{x:OD}{τ:List V}{θ:List OR}{L:List (V×OD)}:(v,x)∈stk ([v]++τ) ([OR.val x]++θ)++L:=by simp[stk]
theorem qz(b:Bs)(a:Addr)(ds:List PyData):jC b (Gv b.K a) [.ref a] [.val (.fz (.list ds))] ds:=λF D H G C z R k=>by
 obtain⟨B,l,e,N,n,_⟩:=R.wd.ay cW (rfl:listOf (.fz (.list ds))=some ds);cases e;refine⟨λh=>⟨⟨l,l[k]'(by omega),n,aak _⟩,λx L d ⟨r,q⟩ g=>?_⟩,λe=>⟨l,n,by omega⟩⟩;subst r;obtain⟨v,M,u,y,s,_,I,A⟩:=R.itemAt cW (rfl:seqOf (.fz (.list ds))=some ds) g;cases y;obtain⟨_,f,w,i,j,t⟩:=R.wd.ay cW (rfl:listOf (.fz (.list ds))=some ds);cases w;have J:k<f.length:=by rw[i];exact(aai.mp g).1
 have o:=q f j;refine Rel.push R (t.pick (cG o ?_));rw[aaq,g];rfl
theorem sX(b:Bs)(a:Addr)(ds:List PyData):jC b (Gw b.K a) [.ref a] [.val (.fz (.tuple ds))] ds:=λF r H s q n R k=>by obtain⟨o,f,e,u,g,w⟩:=R.wd.fy cW (rfl:tupOf (.fz (.tuple ds))=some ds);cases e;refine⟨λh=>⟨⟨f,f[k]'(by omega),g,aak _⟩,λx t d ⟨j,i⟩ l=>?_⟩,λe=>⟨f,g,by omega⟩⟩;subst j;refine Rel.push R (w.pick (cG (i f g) ?_));rw[aaq,l];rfl
def Hb(a:DE):DI:=λh Q=>a h λr f=>∃g d,frz1 f r=some (.list g,d)/\Q g d
theorem sY{l:Expr}:PDe X e da->PDi X l e (Hb da)
 |⟨_,h,s⟩=>⟨_,vV h,λb F σ H ρ τ θ t Q f R h q=>s b F σ H ρ τ θ _ _ f R h λv i r ρ1 n ⟨ds,ρ2,e,j⟩=>by
  have d:=n.frz1 e;obtain⟨a,o,rfl,u,g,_⟩:=d.wd.ay (d.mem rfl) (rfl:listOf (.fz (.list ds))=some ds);rw[f]at g;exact⟨a,rfl,⟨o,g⟩,f▸q _ i ds ρ2 [.ref a] [.val (.fz (.list ds))] rfl (λr k=>.inl ⟨_,aaH.mp k⟩) d (qz b a ds) j⟩⟩
def Hc(a:DE):DI:=λh Q=>a h λr f=>∃g d,frz1 f r=some (.tuple g,d)/\Q g d
theorem wR{l:Expr}:PDe X e da->PDi X l e (Hc da)
 |⟨_,h,s⟩=>⟨_,zZ h,λb F σ H ρ τ θ t Q f R h q=>s b F σ H ρ τ θ _ _ f R h λv i r ρ1 n ⟨ds,ρ2,e,j⟩=>by
  have d:=n.frz1 e;obtain⟨a,o,rfl,u,g,_⟩:=d.wd.fy (d.mem rfl) (rfl:tupOf (.fz (.tuple ds))=some ds);rw[f]at g;exact⟨a,rfl,⟨o,g⟩,f▸q _ i ds ρ2 [.ref a] [.val (.fz (.tuple ds))] rfl (λr k=>.inl ⟨_,aaH.mp k⟩) d (sX b a ds) j⟩⟩
end
end
section
section
variable{X:Cx}{K:Waa}{a b c e:Expr}{es:List Expr}{sts:List Stmt}{st:Stmt}{da db dc:DE}{dt:DA}{d1 d2:DS}{dT:DT}{pos p:Pos}{x:Str}
def cy(ds:List PyData):List PyData:=(List.range ds.length).map λ(i:Nat)=>PyData.tuple [.int (i:Int),ds.getD i .none]
theorem cz(ds:List PyData):(cy ds).length=ds.length:=by simp[cy]
theorem qA{k:Nat}(h:(cy ds)[k]?=some d):∃e,ds[k]?=some e/\d=.tuple [.int k,e]:=by unfold cy at h;rw[aaq]at h;obtain⟨j,i,rfl⟩:=aaM.mp h;obtain⟨f,g⟩:=aai.mp i;simp at f g;subst g;exact⟨ds[k],aak f,by rw[aaP,aak f];rfl⟩
theorem Rel.r8{b:Bs}{d e:PyData}{p:Addr}(R:Rel b F σ H ρ τ θ)(w:Wd b H (Z++(stk τ θ++(flat σ ρ++ff F))))(g:(v,OD.fz d)∈Z)(i:(u,OD.fz e)∈Z)(h:H p=none):
  Rel b F σ (upd H p (.tup [v,u])) ρ (.ref p::τ) (.val (.fz (.tuple [d,e]))::θ):=R.j1 w rfl (λz f=>by
   simp at f;rcases f with rfl|rfl
   ·exact aah _ g
   ·exact aah _ i) h
theorem qB(b:Bs)(a:Addr)(ds:List PyData):jC b (FZ b.K a) [.ref a] [.val (.fz (.list ds))] (cy ds):=λF u H v t r R k=>by obtain⟨s,f,e,A,g,w⟩:=R.wd.ay cW (rfl:listOf (.fz (.list ds))=some ds);cases e;rw[cz];refine⟨λh=>⟨⟨f,f[k]'(by omega),g,aak _⟩,λx z d ⟨T,y,m,o,l,j⟩ n=>?_⟩,λe=>⟨f,g,by omega⟩⟩;subst l j;obtain⟨q,i,rfl⟩:=qA n;refine Rel.r8 (Z:=(V.int k,OD.fz (.int k))::f.zip (ds.map OD.fz)) R (w.sc (.int _)) aaj (aal _ (cG (m f g) ?_)) o;rw[aaq,i];rfl
def Eb(t:DA):DI:=λh Q=>t h λi f=>∃g d,frzL f i=some ([.list g],d)/\Q (cy g) d
theorem sZ{D}{g:Pos} (u:Gl X "enumerate") (y:X.mg "enumerate"=none) (i:starEach [a] X.env=[(false,eval a X.env)]:=by rfl):PDa X [a] dt->PDi X (.Tuple es D g) (.Call (.Name "enumerate" p) [a] [] pos) (Eb dt)
 |⟨_,h,s⟩=>⟨_,wk u y h i,λb F o H C n m M Q k R h q=>s b F o H C n m _ _ k R h λJ l N z t I ⟨d,f,e,B⟩=>by
  obtain⟨A,w⟩:=jy I t e
  match J,w with
  |[v],_=>
   have j:Rel b F o l f (v::n) (.val (.fz (.list d))::m):=A;obtain⟨a,L,rfl,t,i,_⟩:=j.wd.ay (j.mem rfl) (rfl:listOf (.fz (.list d))=some d);rw[k]at i;exact⟨a,L,rfl,i,k▸q _ l _ f [.ref a] [.val (.fz (.list d))] rfl (λr G=>.inl ⟨_,aaH.mp G⟩) j (qB b a d) B⟩⟩
def iN(ds es:List PyData):List PyData:=List.zipWith (λd e=>PyData.tuple [d,e]) ds es
theorem tf{ds es:List PyData}{k:Nat}(h:(iN ds es)[k]?=some d):∃x y,ds[k]?=some x/\es[k]?=some y/\d=.tuple [x,y]:=by
 unfold iN at h;rw[List.getElem?_zipWith]at h;cases f:ds[k]? with
 |none=>rw[f]at h;simp at h
 |some x=>
  cases g:es[k]? with
  |none=>rw[f,g]at h;simp at h
  |some y=>rw[f,g]at h;exact⟨x,y,rfl,rfl,(aaE h).symm⟩
def Ec:PyData->Option (Bool×List PyData)
 |.list ds=>some (true,ds)
 |.tuple ds=>some (false,ds)
 |_=>none
def mz(l:Bool)(a:Addr)(xs:List V):ZS:=if l then .lst a xs else .tup a xs
theorem dN{a:Addr}(h:if l then SqL K H a xs else SqT K H a xs):(mz l a xs).ok K H:=by cases l<;>exact h
theorem kI(l:Bool)(a:Addr)(xs:List V):(mz l a xs).val=.ref a:=by cases l<;>rfl
theorem bT(l:Bool)(a:Addr)(xs:List V):(mz l a xs).items=xs:=by cases l<;>rfl
theorem tj(h:Ec d=some (l,ds)):d=if l then .list ds else .tuple ds:=by cases d<;>simp only[Ec]at h<;>cases h<;>rfl
theorem tm(b:Bs)(a c:Addr)(l g:Bool)(xs ys:List V)(ds es:List PyData):jC b (GL b.K (mz l a xs) (mz g c ys)) [.ref a,.ref c] [.val (.pin l xs ds),.val (.pin g ys es)] (iN ds es):=λF J H L G C R k=>by
 obtain⟨D,e,N,n,w⟩:=R.wd.pinned (v:=.ref a) (l:=l) (xs:=xs) (ds:=ds) (by simp[stk]);cases e;obtain⟨I,e,A,f,m⟩:=w.pinned (v:=.ref c) (l:=g) (xs:=ys) (ds:=es) (by simp[stk]);cases e;have B:(iN ds es).length=min ds.length es.length:=by simp[iN]
 rw[B];refine⟨λh=>⟨⟨dN n,dN f,by rw[bT];omega,by rw[bT];omega⟩,λx M d ⟨T,y,z,j,i,t,o,r⟩ s=>?_⟩,λe=>⟨dN n,dN f,by rw[bT,bT];omega⟩⟩;subst o r;rw[bT]at j i;obtain⟨d1,d2,u,q,rfl⟩:=tf s;rw[<-aac]at m;refine Rel.r8 R m (aae _ (cG j ?_)) (aah _ (cG i ?_)) t
 ·rw[aaq,u];rfl
 ·rw[aaq,q];rfl
def Hd(t:DA):DI:=λh Q=>t h λi f=>∃x y l k g es d,frzL f i=some ([x,y],d)/\Ec x=some (l,g)/\Ec y=some (k,es)/\Q (iN g es) d
theorem wU{U}{f:Pos} (I:Gl X "zip") (M:X.mg "zip"=none) (j:starEach [a,b] X.env=[(false,eval a X.env),(false,eval b X.env)]:=by rfl) (n:starEach [b] X.env=[(false,eval b X.env)]:=by rfl):PDa X [a,b] dt->PDi X (.Tuple es U f) (.Call (.Name "zip" p) [a,b] [] pos) (Hd dt)
 |⟨_,h,s⟩=>⟨_,Ap I M h j n,λb F A H T z o Qd Q B R h q=>s b F A H T z o _ _ B R h λvs m rs N el Z ⟨x,y,l,k,ds,es,d,e,Y,L,O⟩=>by
  obtain⟨D,J⟩:=jy Z el e;obtain⟨v,u,rfl⟩:=len2 J;have w:Wd b m ((v,.fz x)::(u,.fz y)::(stk z o++(flat A d++ff F))):=D.wd;have t:Rel b F A m d z o:=Rel.drops D rfl;obtain⟨xs,S⟩:=w.pin (tj Y);obtain⟨i,w2⟩:=(S.perm (List.Perm.swap _ _ _)).pin (tj L);have C:=w2.perm (List.Perm.swap _ _ _);obtain⟨a,rfl,_,j,_⟩:=C.pinned (v:=v) (l:=l) (xs:=xs) (ds:=ds) (by simp);obtain⟨c,rfl,_,g,_⟩:=C.pinned (v:=u) (l:=k) (xs:=i) (ds:=es) (by simp);rw[B]at j g;refine⟨mz l a xs,mz k c i,by rw[kI,kI],dN j,dN g,B▸q _ m _ d [.ref a,.ref c] [.val (.pin l xs ds),.val (.pin k i es)] rfl (λr G=>by simp at G;rcases G with rfl|rfl<;>exact .inl ⟨_,rfl⟩) ?_ (tm b a c l k xs i ds es) O⟩;exact⟨t.wf,t.al,t.wff,C⟩⟩
end
end
section
def cA:DEnv->List Nat->Option (DEnv×DEnv)
 |ρ,[]=>some ([],ρ)
 |ρ,j::js=>match ρ[j]?.join with
  |some (.fz d)=>match cA ρ js with|some z=>some (some (.fz d)::z.1,z.2)|none=>none
  |some x=>match cA (ρ.set j none) js with|some z=>some (some x::z.1,z.2)|none=>none
  |none=>none
def eR:DEnv->List Nat->DEnv->DEnv
 |ρ,j::js,some x::os=>eR (ρ.set j (some x)) js os
 |ρ,_::js,none::os=>eR ρ js os
 |ρ,_,_=>ρ
def capV(σ:St)(js:List Nat):St:=js.map λj=>(σ[j]?).join
section
variable{b:Bs}{F:List Fr}{σ σ':St}{H H':Hp}{τ vs:List V}{θ rs:List OR}{v u:V}{x y:OD}{d:PyData}{ds:List PyData}{i:Nat}{L:List (V×OD)}
theorem wV(h:o=some (some v)):o.join=some v:=by rw[h];rfl
theorem nJ:∀{js:List Nat}{ρ a ρ2:DEnv}{L1 L2:List (V×OD)},Wd b H (L1++(flat σ ρ++L2))->Wf σ ρ->cA ρ js=some (a,ρ2)->Wd b H (flat (capV σ js) a++(L1++(flat σ ρ2++L2)))/\Wf σ ρ2/\Wf (capV σ js) a
 |[],ρ,a,ρ2,L1,L2,w,wf,e=>by simp only[cA]at e;cases e;exact⟨w,wf,trivial⟩
 |j::js,ρ,a,ρ2,L1,L2,w,wf,e=>by
  cases h:ρ[j]?.join with
  |none=>simp[cA,h]at e
  |some x=>
   have m:=join_some h;obtain⟨v,n⟩:=wf.get m;have t:Wd b H ((v,x)::(L1++(flat σ (ρ.set j none)++L2))):=w.perm ((((bo m n).append_right _).append_left _).trans aav);have k:∀{y:OD}{c:DEnv}{z:DEnv×DEnv},Wd b H ((v,y)::(L1++(flat σ c++L2)))->Wf σ c->cA c js=some z->(some y::z.1,z.2)=(a,ρ2)->Wd b H (flat (capV σ (j::js)) a++(L1++(flat σ ρ2++L2)))/\Wf σ ρ2/\Wf (capV σ (j::js)) a:=λ{y c z} p wf1 g f=>by
    cases f;obtain⟨I,r,o⟩:=nJ (L1:=(v,y)::L1) p wf1 (show cA c js=some (z.1,z.2) from g);have C:capV σ (j::js)=some v::capV σ js:=by unfold capV;rw[aap,wV n]
    rw[C];exact⟨I.perm aav,r,o⟩
   have G:∀{z:DEnv×DEnv},cA (ρ.set j none) js=some z->(some x::z.1,z.2)=(a,ρ2)->Wd b H (flat (capV σ (j::js)) a++(L1++(flat σ ρ2++L2)))/\Wf σ ρ2/\Wf (capV σ (j::js)) a:=λ{z} g f=>k t wf.off g f;have l:∀{c:DEnv}{y:OD},(match cA c js with|some z=>some (some y::z.1,z.2)|none=>none)=some (a,ρ2)->∃z,cA c js=some z/\(some y::z.1,z.2)=(a,ρ2):=λ{c y} q=>by
    cases s:cA c js with
    |none=>rw[s]at q;cases q
    |some z=>rw[s]at q;exact⟨z,rfl,aaE q⟩
   cases x with
   |fz d=>simp only[cA,h]at e;obtain⟨z,g,f⟩:=l e;have p:=t.dup;have D:j<ρ.length:=(aai.mp m).1;have B:σ.set j (some v)=σ:=set_self n;have A:=cx (v:=v) (x:=.fz d) D wf.len;rw[B,set_self m]at A;exact k (p.perm (List.Perm.cons _ (aav.symm.trans ((A.symm.append_right _).append_left _)))) wf g f
   |_=>simp only[cA,h]at e;obtain⟨z,g,f⟩:=l e;exact G g f
theorem jD:∀{js:List Nat}{ρ a:DEnv}{L1 L2:List (V×OD)},Wd b H (L1++(flat (capV σ js) a++(flat σ ρ++L2)))->Wf σ ρ->Wf (capV σ js) a->Wd b H (L1++(flat σ (eR ρ js a)++L2))/\Wf σ (eR ρ js a)
 |[],ρ,a,L1,L2,w,wf,wf2=>by
  cases a with
  |nil=>exact⟨w,wf⟩
  |cons _ _=>simp[capV,Wf]at wf2
 |j::js,ρ,[],L1,L2,w,wf,wf2=>by simp[capV,Wf]at wf2
 |j::js,ρ,o::a,L1,L2,w,wf,wf2=>by
  have l:capV σ (j::js)=(σ[j]?).join::capV σ js:=rfl;rw[l]at w wf2;cases o with
  |none=>rw[bf]at w;exact jD (js:=js) w wf (by cases h:(σ[j]?).join<;>(rw[h]at wf2;exact wf2))
  |some x=>
   cases h:(σ[j]?).join with
   |none=>rw[h]at wf2;simp[Wf]at wf2
   |some v=>
    rw[h]at w wf2;have k:Wd b H ((v,x)::(L1++(flat (capV σ js) a++(flat σ ρ++L2)))):=w.perm (aav )
    ·have g:=join_some h;have n:j<ρ.length:=by rw[<-wf.len];exact(aai.mp g).1
     have e:σ.set j (some v)=σ:=set_self g;have f:=cx (v:=v) (x:=x) n wf.len;rw[e]at f;have c:Wf σ (ρ.set j (some x)):=by have:=wf.put (i:=j) (v:=v) (x:=x);rw[e]at this;exact this
     refine jD (ρ:=ρ.set j (some x)) ?_ c wf2;have m:Wd b H (((v,x)::L1++flat (capV σ js) a)++(flat σ (ρ.set j none)++L2)):=Wd.mv (by simpa using k) wf j;refine m.perm ?_;rw[<-aac L1];refine List.Perm.trans ?_ ((f.symm.append_right _).append_left _);simp only[aaJ];exact aav.symm
theorem Wf.drop:∀{n:Nat}{σ:St}{ρ:DEnv},Wf σ ρ->Wf (σ.drop n) (ρ.drop n)
 |0,_,_,h=>h
 |_+1,[],[],_=>trivial
 |_+1,[],_::_,h=>by simp[Wf]at h
 |_+1,_::_,[],h=>by simp[Wf]at h
 |n+1,o::σ,none::ρ,h=>Wf.drop (n:=n) h
 |n+1,some _::σ,some _::ρ,h=>Wf.drop (ρ:=ρ) h
 |_+1,none::_,some _::_,h=>by simp[Wf]at h
theorem fK:∀{n:Nat}{σ:St}{ρ:DEnv},Wf σ ρ->∃L,flat σ ρ=L++flat (σ.drop n) (ρ.drop n)
 |0,σ,ρ,_=>⟨[],rfl⟩
 |_+1,[],[],_=>⟨[],rfl⟩
 |_+1,[],_::_,h=>by simp[Wf]at h
 |_+1,_::_,[],h=>by simp[Wf]at h
 |n+1,o::σ,none::ρ,h=>by obtain⟨L,e⟩:=fK (ρ:=ρ) h;exact⟨L,by rw[bf];exact e⟩
 |n+1,some v::σ,some x::ρ,h=>by obtain⟨L,e⟩:=fK (ρ:=ρ) h;exact⟨(v,x)::L,by simp only[flat,aaJ,List.drop_succ_cons];rw[e]⟩
 |_+1,none::_,some _::_,h=>by simp[Wf]at h
theorem tu:flat (List.replicate n none++σ) (List.replicate n none++ρ)=flat σ ρ:=by
 induction n with
 |zero=>rfl
 |succ n a=>rw[aaO,aaO,aaJ,aaJ,bf,a]
theorem Ba(h:Wf σ ρ):Wf (List.replicate n none++σ) (List.replicate n none++ρ):=by
 induction n with
 |zero=>exact h
 |succ n a=>rw[aaO,aaO];exact a
theorem Rel.grow(R:Rel b F σ H ρ (v::(vs++[.ref D])) (.val (.fz d)::(rs++[.val (.lst (out.map OD.fz))])))(e:vs.length=rs.length):
  ∃ys,H D=some (.lst ys)/\ys.length=out.length/\Rel b F σ (upd H D (.lst (ys++[v]))) ρ (vs++[.ref D]) (rs++[.val (.lst ((out++[d]).map OD.fz))]):=by
 have f:=R.drop;have k:stk (vs++[.ref D]) (rs++[.val (.lst (out.map OD.fz))])=stk vs rs++[(.ref D,.lst (out.map OD.fz))]:=by rw[aJ e];rfl
 have w:Wd b H ((v,.fz d)::((stk vs rs++[(.ref D,.lst (out.map OD.fz))])++(flat σ ρ++ff F))):=by have:=R.wd;simp only[stk]at this;rw[k]at this;exact this
 have r:Wd b H ([v].zip [OD.fz d]++((.ref D,.lst (out.map OD.fz))::(stk vs rs++(flat σ ρ++ff F)))):=w.perm (by
  refine List.Perm.cons _ ?_;rw[aac];exact aav)
 obtain⟨a,ys,t,q,j,l⟩:=r.sx (ks:=[]) rfl rfl;cases t;refine⟨ys,q,by simpa using j,f.wf,?_,f.wff,?_⟩
 ·obtain⟨m,_⟩:=(aZ e).mp f.al;exact(aZ e).mpr ⟨m,trivial⟩
 ·have s:=l (ys++[v]) ((out++[d]).map OD.fz) λS H A C z o g n=>⟨A++C,by rw[aau];exact Ows.append o g,n,λc p=>aam.mp p⟩
  have h:stk (vs++[.ref D]) (rs++[.val (.lst ((out++[d]).map OD.fz))])=stk vs rs++[(.ref D,.lst ((out++[d]).map OD.fz))]:=by rw[aJ e];rfl
  rw[h];refine s.perm ?_;rw[aac];exact aav.symm
end
theorem Bb{a:Type}(A B C T F:List a):(A++(B++(C++(T++F)))).Perm (B++(A++((T++C)++F))):=by refine(ab7 A B _).trans (aba _ (aba _ ?_));rw[<-aac];exact aa0.append_right _
abbrev DC:=DEnv->(List PyData->DEnv->Prop)->Prop
def qC(K:Waa)(h:TC)(i:DC):Prop:=∀(b:Bs) (F:List Fr) (d:St) (H:Hp) (g:DEnv) (vs:List V) (e:List OR) (D:Addr) (a:List PyData) (Qd:List PyData->DEnv->Prop) (Q:Hp->Prop),b.K=K->vs.length=e.length->a.length<1000000->Rel b F d H g (vs++[.ref D]) (e++[.val (.lst (a.map OD.fz))])->i g Qd ->
 (∀f c o,Rel b F d f c (vs++[.ref D]) (e++[.val (.lst ((a++o).map OD.fz))])->o.length<=1->Qd o c->Q f)->h D d H Q
inductive PDc (Y:Cx)(ifs:List Expr)(elt:Expr)(dc:DC):Prop|mk (tc:TC) (h:∀D,kA Y D ifs elt tc) (s:qC Y.K tc dc)
section
variable{X Y:Cx}{K:Waa}{a b c e elt iter tg:Expr}{es ifs:List Expr}{da db:DE}{dT:DT}{pos p:Pos}{x:Str}
def tw(a:DE):DC:=λh Q=>a h λr g=>∃d f,frz1 g r=some (d,f)/\Q [d] f
theorem kJ(s:bZ K ta da):qC K (nv ta) (tw da):=λb F l H m G C D o y Q n u A R h q=>s b F l H m _ _ _ _ n R h λv B r g t ⟨d,k,e,i⟩=>by obtain⟨f,w,z,j⟩:=(t.frz1 e).grow u;exact⟨f,w,aay (by omega) (by decide:1000001<=sizeLine),q _ _ _ j (aag _) i⟩
theorem qD:PDe Y elt da->PDc Y [] elt (tw da)
 |⟨_,h,s⟩=>⟨_,λD=>qa h,kJ s⟩
def wW(t:DT)(a:DE):DC:=λf Q=>t f λk d=>if k=true then tw a d Q else Q [] d
theorem tz:PDt Y c dT->PDe Y elt da->PDc Y [c] elt (wW dT da)
 |⟨_,d,s1⟩,⟨_,h2,s2⟩=>⟨_,λD=>sf d h2,λb F σ H ρ vs rs D out m Q g l j R h q=>s1 b F σ H ρ _ _ _ _ g R h λk f ρ1 i d=>by
  cases k with
  |true=>rw[if_pos rfl]at d ⊢;exact kJ s2 b F σ f ρ1 vs rs D out _ _ g l j i d q
  |false=>rw[if_neg aad]at d ⊢;exact q f ρ1 [] (by rw[aan];exact i) (aaB _) d⟩
def nK(u:DI)(nt:Nat)(t:List Nat)(g:DG)(n:DC):DE:=λi Q=>u i λs q=>s.length<1000000/\∃h j,cA q t=some (h,j)/\∃m:Nat->List PyData->DEnv->Prop,m 0 [] (List.replicate nt none++h) /\
 (∀k d f i,s[k]?=some d->m k f i->g (.fz d) i λr=>n r λo l=>m (k+1) (f++o) l)/\∀f i,m s.length f i->Q (.val (.lst (f.map OD.fz))) (eR j t (i.drop nt))
theorem Bc{d:Type}(x:d)(S L P T C F:List d):(x::(S++((L++P)++((T++C)++F)))).Perm (L++((x::(S++T))++(P++(C++F)))):=by
 have e:x::(S++((L++P)++((T++C)++F)))=x::(S++(L++(P++(T++(C++F))))):=by simp only[aac]
 rw[e];refine List.Perm.trans ?_ aav.symm;refine List.Perm.cons _ ((ab7 S L _).trans (aba _ ?_));show (S++(P++(T++(C++F)))).Perm ((S++T)++(P++(C++F)));rw[aac];exact aba _ (ab7 P T _)
def Ed{f:Type}(g:f->OD)(i:f->Nat)(K:Waa)(n:TC)(da:f->DEnv->(f->DEnv->Prop)->Prop):Prop:=∀(b:Bs) (F:List Fr) (j:St) (H:Hp) (m:DEnv) (vs:List V) (k:List OR) (D:Addr) (d:f) (Qd:f->DEnv->Prop) (Q:Hp->Prop),b.K=K->vs.length=k.length->i d<1000000->Rel b F j H m (vs++[.ref D]) (k++[.val (g d)])->da d m Qd ->
 (∀l h o,Rel b F j l h (vs++[.ref D]) (k++[.val (g o)])->i o<=i d+1->Qd o h->Q l)->n D j H Q
def tCG(o0:HO)(J:It)(nt:Nat)(o:List Nat)(g:CC->TG)(n:CC->TC)(σ:St)(j:Hp)(Q:VK):Prop:=∀(c:CC) D,j D=none->∃W:Nat->Nat->St->Hp->Prop,(∃m,W 0 m (bq nt o σ) (upd j D o0)) /\
 ∀i m h d,W i m h d->(J.stop i d/\Q (.ref D) d)\/(J.go i d/\∀x k,J.yld i d x k->g c x h k λf q=>n c D f q λr=>∃l,l<m/\W (i+1) l f r)
theorem kK{v:Type}{l:v->OD}{Z:v->Nat}{a0:v}{da:v->DEnv->(v->DEnv->Prop)->Prop}(N:∀{b:Bs}{H:Hp}{L:List (V×OD)}{D:Addr},Wd b H L->H D=none->Wd b (upd H D o0) ((.ref D,l a0)::L))(l0:Z a0=0)(s2:∀c,qw K Ff nt (g c) dg)(s3:∀c,Ed l Z K (tc c) da){b:Bs}{Iv:Nat->v->DEnv->Prop}(hK:b.K=K)(t:vs.length=rs.length)(nr:NoRf Ff rs)
  (w:Rel b F σ H1 ρ1 (vs++τ) (rs++θ)) (it:jC b J vs rs ds) (a3:ds.length<1000000) (hc:cA ρ1 fr=some (inner,ρ2)) (i0:Iv 0 a0 (List.replicate nt none++inner)) (step:∀k d out ρ,ds[k]?=some d->Iv k out ρ->dg (.fz d) ρ λh=>da out h λo z=>Iv (k+1) o z)
  (q:∀s D out h,Rel b F σ s (eR ρ2 fr (h.drop nt)) (.ref D::(vs++τ)) (.val (l out)::(rs++θ))->Iv ds.length out h->Q (.ref D) s):tCG o0 J nt fr g tc σ H1 Q:=by
 intro cc D hD;have w1:Wd b H1 (stk vs rs++(flat σ ρ1++(stk τ θ++ff F))):=w.wd.perm (by
  rw[aJ t,aac];refine aba _ ?_;rw[<-aac,<-aac];exact aa0.append_right _)
 obtain⟨w2,C,I⟩:=nJ w1 w.wf hc;have al:=(aZ t).mp w.al;have w3:=N w2 hD;have R2:Rel b (⟨σ,ρ2,τ,θ⟩::F) (bq nt fr σ) (upd H1 D o0) (List.replicate nt none++inner) (vs++[.ref D]) (rs++[.val (l a0)]):=by
  refine⟨Ba I,(aZ t).mpr ⟨nr.al0 al.1,trivial⟩,λf U=>?_,?_⟩
  ·rcases aab.mp U with rfl|U
   ·exact⟨C,al.2⟩
   ·exact w.wff f U
  ·have ec:flat (bq nt fr σ) (List.replicate nt none++inner)=flat (capV σ fr) inner:=tu;rw[ec,aJ t];refine w3.perm ?_;have ef:ff (⟨σ,ρ2,τ,θ⟩::F)=(stk τ θ++flat σ ρ2)++ff F:=rfl;rw[ef];have M:stk [V.ref D] [OR.val (l a0)]=[(V.ref D,l a0)]:=rfl;rw[M];refine List.Perm.trans (List.Perm.cons _ (Bb (flat (capV σ fr) inner) (stk vs rs) (flat σ ρ2) (stk τ θ) (ff F))) ?_;rw[aac (stk vs rs)];exact aav.symm
 refine⟨λi m n s=>m=ds.length-i/\i<=ds.length/\(∀j,nt<=j->n[j]?=(bq nt fr σ)[j]?)/\∃out h,Z out<=i/\Rel b (⟨σ,ρ2,τ,θ⟩::F) n s h (vs++[.ref D]) (rs++[.val (l out)])/\Iv i out h,⟨_,rfl,aaB _,λ_ _=>rfl,a0,_,Nat.le_of_eq l0,R2,i0⟩,?_⟩;rintro i m n s ⟨rfl,hi,y,out,h,ho,G,iv⟩;obtain⟨go,B⟩:=it _ n s h [.ref D] [.val (l out)] G i;by_cases u:i<ds.length
 ·obtain⟨g1,g2⟩:=go u;refine .inr ⟨g1,λx H2 hy=>?_⟩;have A:ds[i]?=some ds[i]:=aak u;have nn:NoRf Ff (rs++[.val (l out)]):=NoRf.app nr λr hr=>.inl ⟨_,aaH.mp hr⟩;refine s2 cc b _ n H2 h _ _ x _ _ _ hK nn (g2 x H2 _ hy A) (step i _ out h A iv) λT H3 a2 R3 k3 h3=>?_;exact s3 cc b _ T H3 a2 vs rs D out _ _ hK t (by omega) R3 h3 λH4 S o R4 lo h4=>⟨_,by omega,rfl,u,λj hj=>(k3 j hj).1.trans (y j hj),o,S,by omega,R4,h4⟩
 ·have e:i=ds.length:=by omega
  subst e;refine .inl ⟨B rfl,q s D out h ?_ iv⟩;have A:n.drop nt=capV σ fr:=by apply abM;intro j;rw[List.getElem?_drop,y _ (by omega)];unfold bq capV;rw[aaS (by simp),abE,ab0]
  have w4:Wd b s ((.ref D,l out)::(stk vs rs++(flat n h++((stk τ θ++flat σ ρ2)++ff F)))):=G.wd.perm (by
   rw[aJ t];have M:stk [V.ref D] [OR.val (l out)]=[(V.ref D,l out)]:=rfl;rw[M,aac];exact aav)
  obtain⟨L0,eL⟩:=fK G.wf;rw[eL,A]at w4;have w5:Wd b s (((.ref D,l out)::stk (vs++τ) (rs++θ))++(flat (capV σ fr) (h.drop nt)++(flat σ ρ2++ff F))):=by refine Wd.drops (L1:=L0) (w4.perm ?_);rw[aJ t];exact Bc (.ref D,l out) (stk vs rs) L0 (flat (capV σ fr) (h.drop nt)) (stk τ θ) (flat σ ρ2) (ff F)
  have O:Wf (capV σ fr) (h.drop nt):=A▸G.wf.drop;obtain⟨w6,a1⟩:=jD w5 C O;exact⟨a1,w.al,w.wff,w6⟩
theorem qH{m:DC}(C:∀c,qw K Ff nt (g c) dg)(A:∀c,qC K (tc c) m){b:Bs}{F:List Fr}{Iv:Nat->List PyData->DEnv->Prop}(n:b.K=K)(r:vs.length=rs.length)(u:NoRf Ff rs)
  (I:Rel b F σ H1 ρ1 (vs++τ) (rs++θ)) (B:jC b J vs rs ds) (l:ds.length<1000000) (G:cA ρ1 fr=some (inner,ρ2)) (s:Iv 0 [] (List.replicate nt none++inner)) (step:∀k d out ρ,ds[k]?=some d->Iv k out ρ->dg (.fz d) ρ λf=>m f λo i=>Iv (k+1) (out++o) i)
  (q:∀j D out f,Rel b F σ j (eR ρ2 fr (f.drop nt)) (.ref D::(vs++τ)) (.val (.lst (out.map OD.fz))::(rs++θ))->Iv ds.length out f->Q (.ref D) j):kz (λ_ _ k=>k J H1) nt fr g tc σ H1 Q:=
 kK (da:=λout ρ Q=>m ρ λo f=>Q (out++o) f) (λw h=>Wd.eu w rfl h) rfl C (λc b F σ H ρ vs rs D out t Q n r z R h q=>A c b F σ H ρ vs rs D out (λo f=>t (out++o) f) Q n r z R h λj f o y L v=>q j f (out++o) y (by rw[aaf];omega) v) n r u I B l G s step q
theorem kL(N:D8 K wi di)(A:∀c,qw K Ff nt (g c) dg)(v:∀c,qC K (tc c) dc):bZ K (kz wi nt fr g tc) (nK di nt fr dg dc):=by intro b F I H L C w S Q n R h q;refine N b F I H L C w _ _ n R h λJ T Z y vs rs l s O z G=>?_;obtain⟨i,m,B,M,U,r,d,j⟩:=G;exact qH A v n l s O z i M r d λu D k f t o=>q _ u _ _ (Rel.drops (Rel.z4 t l) l) (j k f o)
end
end
section
section
variable{X:Cx}{K:Waa}{a b c e elt iter tg:Expr}{es ifs:List Expr}{da db dc':DE}{dt:DA}{dT:DT}{pos p:Pos}{x:Str}{N:List Str}{nt:Nat}{fr:List Nat}{scope:Scope}{di:DI}{dg:DG}{dc:DC}
theorem PDg.ex{Y:CC->Cx}(d:∀c,(Y c).K=K)(h:∀c,PDg (Y c) Ff m tg dg):∃g:CC->TG,∀c,PG (Y c) tg (g c)/\qw K Ff m (g c) dg:=
 ab8 (r:=λc g=>PG (Y c) tg g/\qw K Ff m g dg) λc=>(by obtain⟨i,j,f⟩:=h c;exact⟨i,j,d c▸f⟩)
theorem PDc.ex{Y:CC->Cx}(d:∀c,(Y c).K=K)(h:∀c,PDc (Y c) ifs elt dc):∃g:CC->TC,∀c,(∀D,kA (Y c) D ifs elt (g c))/\qC K (g c) dc:=
 ab8 (r:=λc g=>(∀D,kA (Y c) D ifs elt g)/\qC K g dc) λc=>(by obtain⟨i,j,f⟩:=h c;exact⟨i,j,d c▸f⟩)
theorem wX(k:X.calm=true)(S:CompScope N nt fr X.N scope X.env.scope)(l:∀x,foldedSetIterable iter X.env x=pure x:=by intro _;rfl)(j:PDi X tg iter di)(m:∀c:CC,PDg (dM X N scope c) Ff nt tg dg)(h:∀c:CC,PDc (dM X N scope c) ifs elt dc):
  PDe X (.ListComp elt [⟨tg,iter,ifs,0⟩] scope pos) (nK di nt fr dg dc):=by
 obtain⟨q,n,i⟩:=j;obtain⟨g,d⟩:=PDg.ex (K:=X.K) (Y:=λc=>dM X N scope c) (λ_=>rfl) m;obtain⟨o,f⟩:=PDc.ex (Y:=λc=>dM X N scope c) (λ_=>rfl) h;exact⟨_,v9 k S n (λc=>(d c).1) (λc D=>(f c).1 D) l,kL i (λc=>(d c).2) λc=>(f c).2⟩
end
def bt:List Bool->DEnv->List OR->Option (List OD×DEnv)
 |[],ρ,[]=>some ([],ρ)
 |true::ios,ρ,r::rs=>match mv1 ρ r with
  |some (x,ρ1)=>match bt ios ρ1 rs with|some (xs,ρ2)=>some (x::xs,ρ2)|none=>none
  |none=>none
 |false::ios,ρ,r::rs=>match frz1 ρ r with
  |some (d,ρ1)=>match bt ios ρ1 rs with|some (xs,ρ2)=>some (.fz d::xs,ρ2)|none=>none
  |none=>none
 |_,_,_=>none
def iZ:List Bool->List OR->List OD->DEnv->DEnv
 |true::ios,.rf j::rs,y::ys,ρ=>iZ ios rs ys (ρ.set j (some y))
 |_::ios,_::rs,_::ys,ρ=>iZ ios rs ys ρ
 |_,_,_,ρ=>ρ
section
variable{b:Bs}{F:List Fr}{σ:St}{H H':Hp}{ρ ρ':DEnv}{τ vs:List V}{θ rs:List OR}{v u:V}{r:OR}{x y:OD}{d:PyData}{i j:Nat}
theorem argsR_ok:∀{ios:List Bool}{vs:List V}{rs:List OR}{ρ ρ':DEnv}{xs:List OD}{τ:List V}{θ:List OR},Rel b F σ H ρ (vs++τ) (rs++θ)->vs.length=rs.length->bt ios ρ rs=some (xs,ρ')->Rel b F σ H ρ' (vs++τ) (xs.map OR.val++θ)/\vs.length=xs.length
 |[],[],[],_,_,_,_,_,R,_,e=>by simp only[bt]at e;cases e;exact⟨R,rfl⟩
 |true::ios,v::vs,r::rs,ρ,ρ',ds,τ,θ,R,e,h=>by
  simp only[bt]at h;split at h
  ·rename_i x ρ1 l;split at h
   ·rename_i xs ρ2 g;cases h;have f:Rel b F σ H ρ1 (v::(vs++τ)) (.val x::(rs++θ)):=Rel.mv1 R l;have a:vs.length=rs.length:=by simpa using e
    obtain⟨k,c⟩:=argsR_ok (Rel.z4 f a) a g;exact⟨Rel.rot k (by rw[c,aaa]),by simp[c]⟩
   ·cases h
  ·cases h
 |false::ios,v::vs,r::rs,ρ,ρ',ds,τ,θ,R,e,h=>by
  simp only[bt]at h;split at h
  ·rename_i x ρ1 l;split at h
   ·rename_i xs ρ2 g;cases h;have f:Rel b F σ H ρ1 (v::(vs++τ)) (.val (.fz x)::(rs++θ)):=Rel.frz1 R l;have a:vs.length=rs.length:=by simpa using e
    obtain⟨k,c⟩:=argsR_ok (Rel.z4 f a) a g;exact⟨Rel.rot k (by rw[c,aaa]),by simp[c]⟩
   ·cases h
  ·cases h
 |_,[],_::_,_,_,_,_,_,_,e,_=>by simp at e
 |_,_::_,[],_,_,_,_,_,_,e,_=>by simp at e
 |[],_::_,_::_,_,_,_,_,_,_,_,h=>by simp[bt]at h
 |true::_,[],[],_,_,_,_,_,_,_,h=>by simp[bt]at h
 |false::_,[],[],_,_,_,_,_,_,_,h=>by simp[bt]at h
theorem Rel.give(R:Rel b F σ H ρ (v::τ) (.val y::θ))(ev:σ[j]?=some (some v)):Rel b F σ H (ρ.set j (some y)) τ θ:=
 Rel.back R.wf (Rel.drop R).al R.wff ev (Wd.mv R.wd R.wf j)
theorem cB:∀{ios:List Bool}{vs:List V}{rs:List OR}{ys:List OD}{ρ:DEnv},Al σ vs rs->vs.length=ys.length->Rel b F σ H ρ (vs++τ) (ys.map OR.val++θ)->Rel b F σ H (iZ ios rs ys ρ) τ θ
 |ios,[],[],[],ρ,_,_,R=>by cases ios with|nil=>exact R|cons i ios=>cases i<;>exact R
 |[],v::vs,r::rs,y::ys,ρ,al,e,R=>by
  have a:Al σ vs rs:=by cases r with|val _=>exact al|rf _=>exact al.2
  have:=cB (ios:=[]) a (by simpa using e) (Rel.drop R);cases vs<;>cases rs<;>cases ys<;>exact this
 |true::ios,v::vs,.rf j::rs,y::ys,ρ,al,e,R=>cB (ys:=ys) al.2 (by simpa using e) (Rel.give R al.1)
 |true::ios,v::vs,.val x::rs,y::ys,ρ,al,e,R=>cB (ys:=ys) al (by simpa using e) (Rel.drop R)
 |false::ios,v::vs,.rf j::rs,y::ys,ρ,al,e,R=>cB (ys:=ys) al.2 (by simpa using e) (Rel.drop R)
 |false::ios,v::vs,.val x::rs,y::ys,ρ,al,e,R=>cB (ys:=ys) al (by simpa using e) (Rel.drop R)
 |_,[],_::_,_,_,al,_,_=>by simp[Al]at al
 |_,_::_,[],_,_,al,_,_=>by simp[Al]at al
 |_,[],_,_::_,_,_,e,_=>by simp at e
 |_,_::_,_,[],_,_,e,_=>by simp at e
end
structure FnD (P:Program)(w:World)(K:Waa)(mg:Str->Option Value)(base:Heap)(k:Nat)(f:Addr)(fd:FuncData)(ps:List Str)(sp:DSp):Prop where
 ok:FnOk P w K mg base CX0 k f fd ps (toSp K sp)
 mono:wt sp
section
variable{X:Cx}{K:Waa}{a b c e:Expr}{es:List Expr}{da db dc:DE}{dt:DA}{pos p:Pos}{x:Str}{k:Nat}{f:Addr}{fd:FuncData}{ps:List Str}{sp:DSp}
def yK(sp:DSp)(ios:List Bool)(t:DA):DE:=λl Q=>t l λi g=>∃h d,bt ios g i=some (h,d)/\sp h λx j=>Q (.val x) (iZ ios i j d)
theorem tD(G:FnD X.prog X.w X.K X.mg X.base k f fd ps sp)(M:AG X.K ta dt):bZ X.K (yz (toSp X.K sp) [] E0 ta) (yK sp ios dt):=λb F s H L n l O Q t R h q=>M b F s H L n l _ _ t R h λy S T D z u ⟨U,m,B,I⟩=>by
  obtain⟨r,g⟩:=argsR_ok u z B;have N:=((aZ z).mp u.al).1;have w:=r.vals g;rw[aan,<-t];refine w.call g G.mono (G.mono _ _ _ (λx o A d v i C=>q v i _ _ ?_ A) I);have J:Rel b F s i m (v::(y++n)) (.val x::(o.map OR.val++l)):=by have j:=r.drops (by simpa using g);refine⟨j.wf,(aZ (by simpa using d)).mpr ⟨jB d,j.al⟩,j.wff,?_⟩;show Wd b i ((v,x)::(stk (y++n) (o.map OR.val++l)++_));rw[aJ (by simpa using d),cT d,aac];exact C
  exact cB N d (Rel.z4 J (by simpa using d))
theorem wY{ios:List Bool} (G:FnD X.prog X.w X.K X.mg X.base k f fd ps sp) (l:Room k X.A) (m:Gl X x) (j:X.mg x=some (.ref f)) (hk:PySem.W.keepIn X.K (.ref f)=true) (i:Binds X.K fd ps []) (g:(x==("__debug__":Str))=false:=by decide)
  (h:starEach (e::es) X.env=(false,eval e X.env)::starEach es X.env:=by rfl) (d:(backTo pos (starEach es X.env)).any (·.1)=false:=by rfl):PDa X (e::es) dt->PDe X (.Call (.Name x p) (e::es) [] pos) (yK sp ios dt)
 |⟨_,h1,s1⟩=>⟨_,nu (E:=E0) G.ok l m j hk i .nil yC h1 g h d,tD G s1⟩
end
def Bd:PyData->Bool
 |.int _=>true
 |.bool _=>true
 |.str _=>true
 |.none=>true
 |_=>false
theorem Fz.sc{K:Waa}(h:Fz K S H v d)(e:Bd d=true):Sc v d:=by cases h<;>first|constructor|cases e
theorem Wd.kept0(w:Wd b H L)(k:Kp (λa=>a∈([]:List Addr)) H H'):Wd b H' L:=by
 obtain⟨A,h,p,f⟩:=w.out;have l:=w.q7 h;have j:∀a o,H a=some o->H' a=some o:=λa o e=>k.k a o e aar;have d:∀a,a∈A->H' a=H a:=λa m=>by
  cases e:H a with
  |none=>exact absurd e (Ows.ne h a m)
  |some o=>exact j a o e
 refine⟨⟨A,Ows.step (k.weak λc i=>absurd i aar) (λc z=>.inl z) l d h,p,f⟩,w.fr.trans (k.weak λc i=>absurd i aar),w.s0,λa r e z=>?_⟩;have q:=(w.s0 a z).1;cases g:H a with
 |none=>exact q (w.fr.n a g)
 |some o=>have:=j a o g;rw[e]at this;cases this;exact w.nt a r g z
section
variable{X:Cx}{K:Waa}{a b c e:Expr}{es:List Expr}{da db dc:DE}{dt:DA}{pos p:Pos}{x:Str}{k:Nat}{f:Addr}{fd:FuncData}{ps:List Str}{sp:DSp}
def Be(sp:DSp)(t:DA):DE:=λi Q=>t i λj g=>∃h,cU g j=some h/\sp (h.map OD.fz) λx _=>∃d,x=.fz d/\Bd d=true/\Q (.val (.fz d)) g
theorem Bf{b:Bs}:∀{vs:List V}{ds:List PyData},FzA b.K S H vs ds->Ows b S H vs (ds.map OD.fz) []:=by
 intro vs;induction vs with
 |nil=>intro ds h;cases h;exact .nil
 |cons v vs d=>intro ds h;cases h with|cons r t=>exact Ows.cons (.fz r) (d t)
theorem tF(G:FnD X.prog X.w X.K X.mg X.base k f fd ps sp) (Z:Room k X.A) (y:Gl X x) (L:X.mg x=some (.ref f)) (hk:PySem.W.keepIn X.K (.ref f)=true) (hb:Binds X.K fd ps []) (m:(x==("__debug__":Str))=false:=by decide)
  (I:starEach (e::es) X.env=(false,eval e X.env)::starEach es X.env:=by rfl) (j:(backTo pos (starEach es X.env)).any (·.1)=false:=by rfl):PDa X (e::es) dt->PDe X (.Call (.Name x p) (e::es) [] pos) (Be sp dt)
 |⟨_,l,s1⟩=>⟨_,nu (E:=E0) G.ok Z y L hk hb .nil yC l m I j,λb F U H Y T M Qd Q n R h q=>s1 b F U H Y T M _ _ n R h λvs D rs N s o ⟨O,C,l⟩=>by
  have dt:=o.dtL s C;rw[aan,<-n];have es:(λa=>a∈([]:List Addr)\/False)=λ_=>False:=funext λa=>by simp
  refine⟨λ_=>False,O.map OD.fz,[],λa z=>z.elim,λ_ _ _ z=>z,?_,aa1,G.mono _ _ _ (λx ys i v J B kp hO nB hB=>?_) l⟩
  ·rw[es];exact Bf (b:=⟨b.K,D,λ_=>False,λa=>a∈[]⟩) (FzA.of0 dt)
  ·obtain⟨d,i,S,u⟩:=i;subst i;cases hO with
   |cons r t=>
    cases r with
    |fz r=>
     have g:=o.drops s;exact q v J _ _ (Rel.sc ⟨g.wf,g.al,g.wff,g.wd.kept0 kp⟩ (r.sc S)) u⟩
end
section
variable{P:Program}{w:World}{K:Waa}{mg:Str->Option Value}{base:Heap}
theorem bE:∀{vs:List V}{n:Nat}{ρ:DEnv},flat (vs.map some++List.replicate n none) ρ=flat (vs.map some) ρ
 |[],0,_=>rfl
 |[],n+1,[]=>rfl
 |[],n+1,o::ρ=>by
  rw[aaL,aaD,aaO];have:flat (none::List.replicate n none) (o::ρ)=flat (List.replicate n none) ρ:=by cases o<;>rfl
  rw[this];have:=bE (vs:=[]) (n:=n) (ρ:=ρ);simpa[flat] using this
 |v::vs,n,[]=>by simp[flat]
 |v::vs,n,none::ρ=>by simp only[aap,aaJ,bf];exact bE
 |v::vs,n,some x::ρ=>by simp only[aap,aaJ,flat];rw[bE]
theorem gT:∀{vs:List V}{xs:List OD}{k:Nat},vs.length=xs.length->flat (vs.map some) (xs.map some++List.replicate k none)=vs.zip xs
 |[],[],0,_=>rfl
 |[],[],_+1,_=>rfl
 |v::vs,x::xs,k,e=>by simp only[aap,aaJ,flat,abv];rw[gT (by simpa using e)]
 |[],_::_,_,e=>by simp at e
 |_::_,[],_,e=>by simp at e
theorem gU:∀{vs:List V}{xs:List OD}{k:Nat},vs.length=xs.length->Wf (vs.map some++List.replicate k none) (xs.map some++List.replicate k none)
 |[],[],0,_=>trivial
 |[],[],k+1,_=>by have:=gU (vs:=[]) (xs:=[]) (k:=k) rfl;exact this
 |v::vs,x::xs,k,e=>gU (xs:=xs) (by simpa using e)
 |[],_::_,_,e=>by simp at e
 |_::_,[],_,e=>by simp at e
def eA(N:Nat)(xs:List OD):DEnv:=xs.map some++List.replicate (N-xs.length) none
def aW:Nat->List Bool->List OD->DEnv->Option (List OD)
 |_,[],[],_=>some []
 |i,true::ios,_::xs,ρ=>match ρ[i]?.join with
  |some y=>match aW (i+1) ios xs ρ with|some ys=>some (y::ys)|none=>none
  |none=>none
 |i,false::ios,.fz d::xs,ρ=>match aW (i+1) ios xs ρ with|some ys=>some (.fz d::ys)|none=>none
 |_,_,_,_=>none
def WS(ios:List Bool):Nat->Prop:=λj=>ios[j]?=some true
def eS:Nat->List Bool->List V->List V
 |i,true::ios,v::vs=>v::eS (i+1) ios vs
 |i,false::ios,_::vs=>eS (i+1) ios vs
 |_,_,_=>[]
def cM:Nat->List Bool->List OR
 |i,true::ios=>.rf i::cM (i+1) ios
 |i,false::ios=>cM (i+1) ios
 |_,[]=>[]
theorem jE:∀{ios:List Bool}{vs:List V}{i:Nat},ios.length=vs.length->(∀k v,vs[k]?=some v->σ[i+k]?=some (some v))->Al σ (eS i ios vs) (cM i ios)
 |[],[],_,_,_=>trivial
 |true::ios,v::vs,i,e,h=>⟨h 0 v rfl,jE (ios:=ios) (by simpa using e) λk u a=>by have:=h (k+1) u (by simpa using a);rwa [show i+1+k=i+(k+1) by omega]⟩
 |false::ios,v::vs,i,e,h=>jE (i:=i+1) (by simpa using e) λk u a=>by have:=h (k+1) u (by simpa using a);rwa [show i+1+k=i+(k+1) by omega]
 |[],_::_,_,e,_=>by simp at e
 |true::_,[],_,e,_=>by simp at e
 |false::_,[],_,e,_=>by simp at e
theorem jF:∀{ios:List Bool}{i:Nat}{W:Nat->Prop},(∀k,ios[k]?=some true->W (i+k))->NoRf W (cM i ios)
 |[],_,_,_=>λr a=>by simp[cM]at a
 |true::ios,i,W,h=>λr a=>by
  simp only[cM]at a;rcases aab.mp a with rfl|a
  ·exact .inr ⟨i,h 0 rfl,rfl⟩
  ·exact jF (ios:=ios) (λk b=>by have:=h (k+1) (by simpa using b);rwa [show i+1+k=i+(k+1) by omega]) r a
 |false::ios,i,W,h=>λr a=>jF (i:=i+1) (λk b=>by have:=h (k+1) (by simpa using b);rwa [show i+1+k=i+(k+1) by omega]) r a
theorem eT:∀{ios:List Bool}{vs:List V}{i:Nat},stk (eS i ios vs) (cM i ios)=[]
 |[],[],_=>rfl
 |[],_::_,_=>rfl
 |true::ios,[],i=>by simp[eS,cM,stk]
 |false::ios,[],i=>by have:eS i (false::ios) ([]:List V)=[]:=rfl;rw[this];cases h:cM i (false::ios)<;>rfl
 |true::ios,v::vs,i=>eT (i:=i+1)
 |false::ios,v::vs,i=>eT (i:=i+1)
end
end
section
section
variable{P:Program}{w:World}{K:Waa}{mg:Str->Option Value}{base:Heap}{b:Bs}{σ:St}{H:Hp}
theorem Wd.addF(w:Wd b H L)(f:Fz b.K (λa=>b.C a\/b.S0 a) b.H0 v d):Wd b H ((v,.fz d)::L):=by
 obtain⟨A,h,g,e⟩:=w.out;refine⟨⟨A,Ows.cons (.fz (f.step (w.fr.weak λc z=>.inl (.inl z)) λc z=>?_)) h,g,e⟩,w.fr,w.s0,w.nt⟩;rcases z with z|z
 ·exact(e c z).elim .inr λz=>.inl (.inl z)
 ·exact .inl (.inr z)
theorem fL:∀{ios:List Bool}{xs:List OD}{i j:Nat}{ρ:DEnv},j<i->aW i ios xs (ρ.set j none)=aW i ios xs ρ
 |[],[],_,_,_,_=>rfl
 |true::ios,_::xs,i,j,ρ,h=>by simp only[aW];rw[aa6 (by omega),fL (by omega)]
 |false::ios,.fz d::xs,i,j,ρ,h=>by simp only[aW];rw[fL (by omega)]
 |[],_::_,_,_,_,_=>rfl
 |true::_,[],_,_,_,_=>rfl
 |false::_,[],_,_,_,_=>rfl
 |false::_,.lst _::_,_,_,_,_=>rfl
 |false::_,.tup _::_,_,_,_,_=>rfl
 |false::_,.dic _ _::_,_,_,_,_=>rfl
 |false::_,.obj _ _ _::_,_,_,_,_=>rfl
 |false::_,.pin _ _ _::_,_,_,_,_=>rfl
 |false::_,.hole _::_,_,_,_,_=>rfl
theorem jG:∀{ios:List Bool}{vs:List V}{xs ys:List OD}{i:Nat}{ρ:DEnv}{L1:List (V×OD)},vs.length=xs.length->(∀(k:Nat) v d,vs[k]?=some v->xs[k]?=some (.fz d)->Fz b.K (λa=>b.C a\/b.S0 a) b.H0 v d)->aW i ios xs ρ=some ys ->
  Al σ (eS i ios vs) (cM i ios)->Wf σ ρ->Wd b H (L1++flat σ ρ)->vs.length=ys.length/\∃R,Wd b H (L1++(vs.zip ys++R))
 |[],[],[],ys,i,ρ,L1,_,_,e,_,_,w=>by simp only[aW]at e;cases e;exact⟨rfl,_,w⟩
 |true::ios,v::vs,x::xs,ys,i,ρ,L1,el,hf,e,al,wf,w=>by
  simp only[aW]at e;split at e
  ·rename_i y o;split at e
   ·rename_i m h;cases e;have n:σ[i]?=some (some v):=al.1;have l:Wd b H ((L1++[(v,y)])++flat σ (ρ.set i none)):=w.perm (by
     rw[aac];exact(bo (join_some o) n).append_left _)
    obtain⟨f,R,c⟩:=jG (by simpa using el) (λk u d j g=>hf (k+1) u d (by simpa using j) (by simpa using g)) (by rw[fL (by omega)];exact h) al.2 wf.off l;exact⟨by simp[f],R,by rw[aac]at c;exact c⟩
   ·cases e
  ·cases e
 |false::ios,v::vs,.fz d::xs,ys,i,ρ,L1,el,hf,e,al,wf,w=>by
  simp only[aW]at e;split at e
  ·rename_i m h;cases e;have l:Wd b H ((L1++[(v,.fz d)])++flat σ ρ):=(w.addF (hf 0 v d rfl rfl)).perm (by
    rw[aac];exact aav.symm)
   obtain⟨f,R,c⟩:=jG (by simpa using el) (λk u d j g=>hf (k+1) u d (by simpa using j) (by simpa using g)) h al wf l;exact⟨by simp[f],R,by rw[aac]at c;exact c⟩
  ·cases e
 |[],_::_,_::_,_,_,_,_,_,_,e,_,_,_=>by simp[aW]at e
 |true::_,[],[],_,_,_,_,_,_,e,_,_,_=>by simp[aW]at e
 |false::_,[],[],_,_,_,_,_,_,e,_,_,_=>by simp[aW]at e
 |false::_,_::_,.lst _::_,_,_,_,_,_,_,e,_,_,_=>by simp[aW]at e
 |false::_,_::_,.tup _::_,_,_,_,_,_,_,e,_,_,_=>by simp[aW]at e
 |false::_,_::_,.dic _ _::_,_,_,_,_,_,_,e,_,_,_=>by simp[aW]at e
 |false::_,_::_,.obj _ _ _::_,_,_,_,_,_,_,e,_,_,_=>by simp[aW]at e
 |false::_,_::_,.pin _ _ _::_,_,_,_,_,_,_,e,_,_,_=>by simp[aW]at e
 |false::_,_::_,.hole _::_,_,_,_,_,_,_,e,_,_,_=>by simp[aW]at e
 |_,[],_::_,_,_,_,_,e,_,_,_,_,_=>by simp at e
 |_,_::_,[],_,_,_,_,e,_,_,_,_,_=>by simp at e
theorem Ows.fzAt:∀{vs:List V}{xs:List OD}{A:List Addr}{k:Nat}{v:V}{d:PyData},Ows b S H vs xs A->vs[k]?=some v->xs[k]?=some (.fz d)->Fz b.K S H v d
 |_,_,_,0,_,_,.cons r _,e,e'=>by simp at e e';subst e e';cases r with|fz f=>exact f
 |_,_,_,k+1,_,_,.cons _ t,e,e'=>Ows.fzAt (k:=k) t (by simpa using e) (by simpa using e')
 |_,_,_,_,_,_,.nil,e,_=>by simp at e
theorem Fun.okD{u:Stmt}(F:Fun K x qual u f fd)(S:FnScope N ps (aK u))(C:wt sp)(a3:ios.length=ps.length)(G:∀xs Q,sp xs Q->xs.length=ps.length)
  (o:∀(n:Value) (A:Around) (g:List Env) (s:Shared) (H:Hp) (E:XK),Room k (A.deeper (envOfC qual (aK u) s.heap.objs.size f n))->∀(xs:List OD) (Q:OD->List OD->Prop),sp xs Q ->
   ∃U,PDss (jq CX0 P w K mg base N qual (aK u) f n A g s H E).vu (WS ios) (bD u) U/\U { nx:=λρ=>∃j,aW 0 ios xs ρ=some j/\Q (.fz .none) j,rt:=λx ρ=>∃j,aW 0 ios xs ρ=some j/\Q x j } (eA N.length xs)):FnD P w K mg base (k+1) f fd ps sp:=by
 refine⟨F.ok S (λl H Q E h=>?_) (λn A g s H l Q E hr h=>?_),C⟩
 ·obtain⟨S,xs,A,_,_,I,_,h⟩:=h;rw[I.len];exact G _ _ h
 ·obtain⟨S',xs,X,al,nt,I,nA,h⟩:=h;obtain⟨U,⟨ts,Y,s1⟩,hd⟩:=o n A g s H E hr xs _ h;refine⟨ts,Y,?_⟩
  let b:Bs:=⟨K,H,S',λa=>a∈X⟩
  have J:=I.len;have a2:=G _ _ h;have w0:Wd b H (l.zip xs):=⟨⟨X,OwL.j2 I,nA,λa T=>.inr T⟩,Kp.refl _ _,λa z=>⟨(al a z).1,(al a z).2⟩,nt⟩
  have sg:∀(k:Nat) v,l[k]?=some v->(start N l)[0+k]?=some (some v):=λk v e=>by have hk:=(aai.mp e).1;unfold start;rw[aaV,aaX (by simpa using hk),aaq,e];rfl
  have R:Rel b [] (start N l) H (eA N.length xs) (eS 0 ios l) (cM 0 ios):=by unfold start eA;refine⟨by rw[J];exact gU J,jE (by omega) sg,λf hf=>(by cases hf),?_⟩;rw[eT];show Wd b H ([]++(flat _ _++[]));rw[aaD,aan,bE,gT J];exact w0
  have y:∀(m:St) (p:Hp) (i:DEnv) (v:V) (x:OD),Rel b [] m p i (v::eS 0 ios l) (.val x::cM 0 ios)->(∃j,aW 0 ios xs i=some j/\IF K S' X l H Q x j)->Q v p:=λm p i v x q ⟨j,ey,T⟩=>by
   have w':Wd b p ([(v,x)]++flat m i):=by have:=q.wd;simp only[stk]at this;rw[eT]at this;simpa[ff] using this
   obtain⟨M,Z,L⟩:=jG J (λk v d Y h2=>(Ows.fzAt I Y h2).sub λa z=>z) ey q.al q.wf w';have e1:[(v,x)]++(l.zip j++Z)=(v::l).zip (x::j)++Z:=rfl;rw[e1]at L;obtain⟨B0,h0,nd,O⟩:=L.out;have a1:=L.q7 h0;obtain⟨B,B2,rfl,r,t⟩:=OwL.ft h0;refine T v p B L.fr (Ows.sub a1 (λc z=>z.imp (aah _) id) (OwL.u5 (by simp[M]) r)) (aaA.mp nd).1 λa a0=>O a (aah _ a0)
  refine s1 b [] (start N l) H _ _ _ _ _ rfl (jF λk hk=>?_) R hd ⟨λm p i q D=>?_,λ_ _ _ _ D=>D.elim,λ_ _ _ _ D=>D.elim,y⟩
  ·rw[aaV];exact hk
  ·exact y m p i .non _ (q.sc .non) D
end
end
section
def He:PyData->Str
 |.str x=>x
 |d=>d.shown
def Hf:PyData->Bool
 |.str _=>true
 |_=>false
def J9(d:PyData):Bool:=Hf d||(d.showable&&!d.hasDict&&decide (d.shown.length<=10000000)&&decide (d.depth<=40))
section
variable{X:Cx}
def IK(K:Waa):List V->Hp->VK->Prop:=λa H Q=>∃v d,a=[v]/\Dt K H v d/\J9 d=true/\Q (.str (He d)) H
def Ka:Int->List Int->Int
 |a,[]=>a
 |a,b::r=>Ka (if b>a then b else a) r
section
variable{e st:Expr}{te:TE}{p2 pos:Pos}
def KD(K:Waa)(te:TE):TE:=λd H Q=>te d H λx b=>∃a c,x=.ref a/\SqL K b a c/\∀p,b p=none->Q (.ref p) (upd b p (.lst c.reverse))
end
end
end
section
open AutoSeq1 (wpAny_loadPart')
def Hg(K:Waa)(l:Addr):It:=
 ⟨λi H=>∃a x,SqT K H l a/\a[i]?=some x,
  λi H v b=>∃T x,(∀a,SqT K H l a->a[i]?=some x)/\H T=none/\v=.ref T/\b=upd H T (.tup [.int i,x]),
  λi H=>∃a,SqT K H l a/\a.length<=i⟩
section
variable{X:Cx}{a:Expr}{es:List Expr}{p pos:Pos}
def Hh(K:Waa)(f:TA):TI:=λe H R=>f e H λd b=>∃l c,d=[.ref l]/\((SqL K b l c/\R (FZ K l) b)\/(SqT K b l c/\R (Hg K l) b))
def Hi(t:DA):DI:=λf Q=>t f λe c=>∃d b,(frzL c e=some ([.list d],b)\/frzL c e=some ([.tuple d],b))/\Q (cy d) b
def IL(a b:DE):DE:=λf Q=>a f λx e=>b e λy c=>∃d es,D0 c x=some d/\D0 c y=some es/\d≠[]/\d.length+es.length<=1000000/\Q (.val (.fz (.tuple (d++es)))) c
end
end
section
open AutoSeq1 (wpAny_loadPart')
open MeetsSeq
theorem fM{M:Model}{A:Around}{E:Value->Shared->Prop}{s:Shared}{a:Type}(n:Nat)(f:Nat->a->Sem (ForInStep a))(I:Nat->a->Shared->Prop)(Q:a->Shared->Prop)
  (d:∀i b s,i<n->I i b s->wpAny M A (f i b) (λr k=>match r with|.yield c=>I (i+1) c k|.done c=>Q c k) E s)
  (fin:∀b s,I n b s->Q b s) (b:a) (h:I 0 b s):wpAny M A (forIn [0:n] b f) Q E s:=by
 rw[Std.Legacy.Range.forIn_eq_forIn_range'];refine wpAny_forIn_list f (λl b s=>∃i,l=List.range' i (n-i)/\i<=n/\I i b s) Q ?_ ?_ _ b ⟨0,by simp[Std.Legacy.Range.size],aaB _,h⟩
 ·rintro x m b s ⟨i,e,p,j⟩;have g:i<n:=by
   by_cases q:i<n
   ·exact q
   ·rw[show n-i=0 by omega]at e;simp at e
  rw[show n-i=(n-(i+1))+1 by omega,List.range'_succ]at e;obtain⟨rfl,rfl⟩:=List.cons.inj e;refine thn (d x b s g j) λr k o=>?_;cases r with
  |yield c=>exact⟨x+1,rfl,g,o⟩
  |done c=>exact o
 ·rintro b s ⟨i,e,p,j⟩;have:n-i=0:=by have:=congrArg List.length e;simpa using this.symm
  have:i=n:=by omega
  subst this;exact fin b s j
theorem kM(l:Addr)(items:Array Value)(n:Nat)(dd:Option Addr)(q:Array (Option Value))(x:Value)(e:Value->Bool)(u:∀y,y∈items->EqGives y x (e y))(j:Nat)(G:j<items.size)
  (k:e items[j]=true) (o:∀m (D:m<items.size),m<j->e items[m]=false):
  Meets (Builtin.«tuple.index» ⟨[.ref l,x],[]⟩)
   (λ_ R s=>s.heap.get? l=some { cls:=.type "tuple",dict:=dd,data:=.seq items n,slots:=q }/\R (.ok (.ret (.int j s.toks))) { s with toks:=s.toks+1 }):=
 .of_wp λc w A R s h=>by
  obtain⟨v,g,d,z,B⟩:=s;obtain⟨r,h⟩:=h
  wp_walk using wpAny_loadPart' r,fM _ _ (λi b p=>b.1=none/\p=⟨v,g,d,z,B⟩/\i<=j) _
  ·rintro i b p H ⟨C,rfl,f⟩;have a:i<items.size:=by omega
   rw[show items[i]?=some items[i] from Array.getElem?_eq_getElem a];refine wpAny_bind (u _ (Array.getElem_mem a) c w _ _ _ _ ?_);by_cases t:i=j
   ·subst t;rw[k]
    wp_walk
    exact⟨_,rfl,h⟩
   ·rw[o i a (by omega)]
    wp_walk
    exact⟨rfl,rfl,by omega⟩
  ·rintro b p ⟨C,rfl,f⟩;omega
  ·exact⟨rfl,rfl,aaB _⟩
end
section
section
variable{X:Cx}{K:Waa}{o e:Expr}{da db:DE}{pos pos' apos cpos:Pos}
def yL(n:Int):Value->Bool
 |.int a _=>a==n
 |_=>false
theorem qI:MtR X "tuple.index" (λx vs H Q=>∃(l:Addr) (ns:List Int) (n:Int) (j:Nat),x=.ref l/\vs=[.int n]/\SqT X.K H l (ns.map V.int)/\ns[j]?=some n/\(∀m,m<j->ns[m]?≠some n)/\Q (.int j) H):=by
 intro N s σ H x vs v us Q I Z rv h;obtain⟨l,ns,n,j,rfl,rfl,hS,L,D,q⟩:=h;cases Z;obtain⟨u,rfl,J⟩:=rv.one;obtain⟨t,rfl⟩:=J;obtain⟨c,r,p1,_⟩:=I.tuple hS;have M:c.length=ns.length:=by rw[<-r.length,aaa]
 have d:∀m (f:m<c.length),∃a t',c[m]=.int a t'/\ns[m]?=some a:=λm f=>by
  have A:m<ns.length:=by omega
  obtain⟨u,hu,J⟩:=r.get (i:=m) (x:=.int ns[m]) (by rw[aaq,aak A];rfl);obtain⟨t',rfl⟩:=J;refine⟨ns[m],t',?_,aak A⟩;have:=(aai.mp hu).2;exact this
 have p:j<c.length:=by have:=(aai.mp L).1;omega
 have C:yL n c.toArray[j]=true:=by obtain⟨a,t',k,g⟩:=d j p;rw[L]at g;cases g;show yL n c[j]=true;rw[k];simp[yL]
 have B:∀m (f:m<c.toArray.size),m<j->yL n c.toArray[m]=false:=λm f G=>by obtain⟨a,t',k,g⟩:=d m f;show yL n c[m]=false;rw[k];have:a≠n:=λz=>D m G (z▸g);simp[yL,this]
 have Y:∀y,y∈c.toArray->MeetsSeq.EqGives y (.int n t) (yL n y):=λy hy=>by obtain⟨m,f,rfl⟩:=List.getElem_of_mem (List.mem_toArray.mp hy);obtain⟨a,t',k,g⟩:=d m f;rw[k];exact MeetsSeq.EqGives.int a n t' t
 obtain⟨⟨oc,O,dt,S⟩,w,T,U,ed⟩:=p1;cases T;cases ed;refine call_meets F.slot_tuple_index ⟨_,w,rfl⟩ F.entry_tuple_index (F.args_tuple_index_2 _ _) (kM l c.toArray U O S (.int n t) (yL n) Y j p C B) ⟨w,?_⟩;exact⟨.int j,H,I.kept (t':=s.toks+1) λb o e=>e,⟨_,rfl⟩,q⟩
end
end
section
def rn2(i j:Int):Nat:=((j-i+1)/2).toNat
theorem tG{a b:Int}(h:a<=b):Builtin.Range.rangeSize a b 2=(rn2 a b:Int):=by unfold Builtin.Range.rangeSize rn2;rw[if_pos (by decide)];split<;>omega
def mB(lo:Int)(n:Nat):List PyData:=(List.range n).map λ(i:Nat)=>PyData.int (lo+(i:Int)*2)
theorem kN(lo:Int)(n:Nat):(mB lo n).length=n:=by simp[mB]
theorem qJ(b:Bs)(lo:Int)(n:Nat):jC b (GT lo 2 n) [] [] (mB lo n):=λF p H q o m R k=>by rw[kN];refine⟨λh=>⟨h,λx r d ⟨i,g⟩ a=>?_⟩,λe=>by subst e;exact aag _⟩;subst i g;unfold mB at a;rw[aaq]at a;obtain⟨j,l,rfl⟩:=aaM.mp a;obtain⟨f,c⟩:=aai.mp l;simp at f c;subst c;exact Rel.sc R (.int _)
section
variable{X:Cx}{tg:Expr}{a b c:Expr}{p pos:Pos}
def Ee(t:DA):DI:=λe Q=>t e λf d=>∃i j,cU d f=some [.int i,.int j,.int 2]/\(0<=i/\i<=j/\j<=1000000)/\Q (mB i (rn2 i j)) d
theorem mC{g:DA} (n:Gl X "range") (u:X.mg "range"=none) (x:starEach [a,b,c] X.env=[(false,eval a X.env),(false,eval b X.env),(false,eval c X.env)]) (d:starEach [b,c] X.env=[(false,eval b X.env),(false,eval c X.env)]):PDa X [a,b,c] g->PDi X tg (.Call (.Name "range" p) [a,b,c] [] pos) (Ee g)
 |⟨_,h,s⟩=>⟨_,qk n u h x d,λb F σ H ρ τ θ B Q z R h q=>s b F σ H ρ τ θ _ _ z R h λvs o rs ρ1 l k ⟨i,j,e,A,w⟩=>by
  have v:=k.dtL l e;cases v with
  |cons r t=>cases t with|cons m t=>cases t with|cons f t=>cases t;cases r;cases m;cases f;exact⟨i,j,2,rn2 i j,rfl,by omega,tG A.2.1,q _ o _ ρ1 [] [] rfl (λr y=>by cases y) (k.drops l) (qJ b i _) w⟩⟩
end
end
section
inductive Bo where|add|sub|mul|fdiv|mod|pow
inductive Co where|lt|le|gt|ge|eq|ne|inn|nin
inductive Bl where|len|abs|max|min|int
inductive Knd where|int|bool|str|list|tuple|seq
inductive Bn where|tuple|sorted
inductive Acc where|ix (k:Int)|key (j:Nat)
inductive Tg where|nm (i:Nat)|tp (ts:List Nat)
mutual
inductive E where
 |nm (i:Nat)|int (k:Int)|str (x:Str)|bl (b:Bool)|non|gc (g:Nat)
 |bop (o:Bo) (a b:E)|cat (a b:E)|rep (a b:E)
 |cmp (o:Co) (a b:E)|cmp2 (o o':Co) (a b c:E)|isn (neg:Bool) (a:E)
 |and (a b:E)|or (a b:E)|not (a:E)|neg (a:E)|ife (c a b:E)
 |tup (es:Es)|lst (es:Es)|ix (a b:E)|sll (a:E) (lo hi:Eo)
 |call (f:Nat) (es:Es)|callS (f:Nat) (es:Es)|blt (f:Bl) (es:Es)|bnw (f:Bn) (e:E)|frz (a:E)|idx (a b:E)|dgt (i:Nat) (e:E)
 |pg (i:Nat) (ps:List Acc)|din (neg:Bool) (e:E) (i:Nat) (ps:List Acc)
 |comp (nt:Nat) (fr:List Nat) (it:It') (tg:Tg) (ifs:Eo) (elt:E)
inductive Es where|nil|cons (e:E)(es:Es)
inductive Eo where|none|some (e:E)
inductive It' where|seq (e:E)|rg1 (e:E)|rg2 (a b:E)|rg3 (a b:E)|enm (e:E)|zip (a b:E)
end
mutual
inductive S' where
 |ex (e:E)|set (i:Nat) (e:E)|asg (t:Tg) (e:E)|par (is:List Nat) (es:Es)|aug (i:Nat) (o:Bo) (e:E)|agl (i:Nat) (e:E)
 |ret (e:E)|iff (c:E) (a b:Ss)|whl (c:E) (b:Ss)|fr (t:Tg) (it:It') (b:Ss)|cont
 |app (i:Nat) (e:E)|ins (i:Nat) (k e:E)|sti (i:Nat) (k e:E)|sdk (i:Nat) (k e:E)
 |sdc (i nt:Nat) (fr:List Nat) (it:It') (tg:Tg) (ke ve:E)
inductive Ss where|nil|cons (s:S')(ss:Ss)
end
structure Fn where
 io:List Bool
 n:Nat
 body:Ss
structure Ct where
 io:Nat->List Bool
 call:Nat->List OD->Option (OD×List OD)
 mak:Nat->List OD->Option (OD×List OD)
 gv:Nat->PyData
 wf:Nat
def vK:OD->Option PyData|.fz d=>some d|_=>none
def qK:OD->Option (List OD)|.lst xs=>some xs|_=>none
def Bg:OD->Option (List Key×List OD)|.dic ks xs=>some (ks,xs)|_=>none
def KF:OD->Option (Str×List Str×List OD)|.obj c ns xs=>some (c,ns,xs)|_=>none
def IM(x:OD):Option (List OD):=match x with|.lst xs=>some xs|.tup xs=>some xs|_=>none
def dW:PyData->Option Int|.int i=>some i|_=>none
def F2:PyData->Option Bool|.bool k=>some k|_=>none
def Hj:PyData->Option (List PyData)|.list ds=>some ds|_=>none
def vL:PyData->Option (List PyData)|.list ds=>some ds|.tuple ds=>some ds|_=>none
def F3:OR->Option (List OD)|.val x=>qK x|_=>none
def gd(c:Prop)[Decidable c]:Option Unit:=if c then some () else none
def eB{a:Type}:List a->Option a|[x]=>some x|_=>none
def wZ{a:Type}:List a->Option (a×a×a)|[x,y,z]=>some (x,y,z)|_=>none
def KG:PyData->Option (List PyData)|.tuple ds=>some ds|_=>none
def jH{a:Type}:List a->Option (a×a)|[x,y]=>some (x,y)|_=>none
def KH(w:OD×List OD):Option (OD×List OD):=(vK w.1).bind λd=>match d,w.2 with|.none,y::ys=>some (y,ys)|_,_=>none
def IP:Bo->Int->Int->Option Int
 |.add,i,j=>some (i+j)
 |.sub,i,j=>some (i-j)
 |.mul,i,j=>(gd ((-(2^64)<i/\i<2^64)\/(-(2^64)<j/\j<2^64))).bind λ_=>some (i*j)
 |.fdiv,i,j=>(gd (0<j/\j<1073741824)).bind λ_=>some (i/j)
 |.mod,i,j=>(gd (0<j)).bind λ_=>some (i%j)
 |.pow,i,j=>(gd (0<=j/\j<=1000000/\i.natAbs<2^64)).bind λ_=>some (i^j.toNat)
def vM(o:Bo)(x y:PyData):Option PyData:=(dW x).bind λi=>(dW y).bind λj=>(IP o i j).bind λk=>some (.int k)
def eqA(x y:PyData):Option Bool:=match qq x y with
 |some k=>some k
 |none=>if SeqAt.shaped x&&SeqAt.shaped y then some (PyData.eqv x y) else none
def inA(x y:PyData):Option Bool:=(vL y).bind λa=>(gd (CM x=true)).bind λ_=>memD x a
def kO(o:Co)(x y:PyData):Option Bool:=match o with
 |.lt=>(dW x).bind λi=>(dW y).bind λj=>some (decide (i<j))
 |.le=>(dW x).bind λi=>(dW y).bind λj=>some (decide (i<=j))
 |.gt=>(dW x).bind λi=>(dW y).bind λj=>some (decide (j<i))
 |.ge=>(dW x).bind λi=>(dW y).bind λj=>some (decide (j<=i))
 |.eq=>eqA x y
 |.ne=>(eqA x y).bind λk=>some (!k)
 |.inn=>inA x y
 |.nin=>(inA x y).bind λk=>some (!k)
def tH:PyData->Option Bool
 |.none=>some false|.bool b=>some b|.int i=>some (i !=0)
 |.list ds=>some (!ds.isEmpty)|.tuple ds=>some (!ds.isEmpty)
 |_=>none
def Hk:List PyData->Int->Option Int
 |[],a=>some a
 |.int i::ds,a=>Hk ds (a+i)
 |_::_,_=>none
def gW:List PyData->Option (List Int)
 |[]=>some []
 |d::ds=>(dW d).bind λi=>(gW ds).bind λr=>some (i::r)
def KI(ns:List Int):Nat:=(firstMet (λi=>ns.getD i 0) ns.length).length
def KJ(n:Int):Bool:=decide (-1000000000000<=n)&&decide (n<=1000000000000)
def yM(f:Bl)(ds:List PyData):Option PyData:=match f with
 |.len=>(eB ds).bind λd=>(mw d).bind λn=>some (.int n)
 |.abs=>(eB ds).bind λd=>(dW d).bind λi=>some (.int (if i<0 then -i else i))
 |.max=>(jH ds).bind λz=>(dW z.1).bind λi=>(dW z.2).bind λj=>some (.int (if j>i then j else i))
 |.min=>(jH ds).bind λz=>(dW z.1).bind λi=>(dW z.2).bind λj=>some (.int (if j<i then j else i))
 |.int=>(eB ds).bind λd=>(toInt d).bind λi=>some (.int i)
def insI(i:Int):List Int->List Int
 |[]=>[i]
 |j::r=>if i<=j then i::j::r else j::insI i r
def sortI:List Int->List Int
 |[]=>[]
 |i::r=>insI i (sortI r)
def keyOf:PyData->Option Key
 |.int i=>some (.inl i)
 |.str x=>some (.inr x)
 |_=>none
def dsL(k:Key):List (Str×Int)->Option Int
 |[]=>none
 |z::r=>if (.inr z.1:Key)=k then some z.2 else dsL k r
def Hl:OR->Option (List PyData)|.val (.fz (.tuple ds))=>some ds|_=>none
def dgV(ks:List Key)(xs:List OD)(k:Key):Option PyData:=match ks.findIdx? (λq=>decide (q=k)) with
 |some j=>(xs[j]?).bind vK
 |none=>some .none
def accN(ρ:DEnv)(x:OD):Acc->Option Nat
 |.ix k=>(IM x).bind λxs=>ixN xs.length k
 |.key j=>(ρ[j]?.join).bind λy=>(vK y).bind λd=>(Bg x).bind λq=>(keyOf d).bind λk=>q.1.findIdx? (λq=>decide (q=k))
def ck(ρ:DEnv)(i:Nat):List Acc->Option (OD×List Nat×OD)
 |[]=>(ρ[i]?.join).bind λx=>some (x,[],x)
 |a::ps=>(ck ρ i ps).bind λp=>(accN ρ p.2.2 a).bind λk=>(p.2.2.kids[k]?).bind λz=>some (p.1,p.2.1++[k],z)
def unpA(x:OD):Option (List OD):=match unpT x with|some a=>some a|none=>unpL x
def Hm(a:List Nat)(x:OD)(ρ:DEnv):Option DEnv:=(unpA x).bind λb=>(gd (b.length=a.length/\∀i∈a,i<ρ.length)).bind λ_=>some (cV a b ρ)
def bc:Tg->OD->DEnv->Option DEnv
 |.nm i,x,ρ=>(gd (i<ρ.length)).bind λ_=>some (ρ.set i (some x))
 |.tp ts,x,ρ=>Hm ts x ρ
def bU(step:PyData->DEnv->Option (List PyData×DEnv)):List PyData->List PyData->DEnv->Option (List PyData×DEnv)
 |[],out,ρ=>some (out,ρ)
 |d::ds,out,ρ=>(step d ρ).bind λw=>bU step ds (out++w.1) w.2
def dZ(step:List Key×List OD->PyData->DEnv->Option ((List Key×List OD)×DEnv)):List PyData->List Key×List OD->DEnv->Option ((List Key×List OD)×DEnv)
 |[],o,ρ=>some (o,ρ)
 |d::ds,o,ρ=>(step o d ρ).bind λw=>dZ step ds w.1 w.2
inductive Fl where|nx|bk|ct|rt (x:OD)
def bp(step:PyData->DEnv->Option (Fl×DEnv)):List PyData->DEnv->Option (Fl×DEnv)
 |[],ρ=>some (.nx,ρ)
 |d::ds,ρ=>(step d ρ).bind λw=>match w.1 with
  |.nx=>bp step ds w.2
  |.ct=>bp step ds w.2
  |.bk=>some (.nx,w.2)
  |.rt x=>some (.rt x,w.2)
def cC(c:DEnv->Option (Bool×DEnv))(b:DEnv->Option (Fl×DEnv)):Nat->DEnv->Option (Fl×DEnv)
 |0,_=>none
 |n+1,ρ=>(c ρ).bind λx=>if x.1=true then (b x.2).bind λw=>match w.1 with
   |.nx=>cC c b n w.2
   |.ct=>cC c b n w.2
   |.bk=>some (.nx,w.2)
   |.rt x=>some (.rt x,w.2)
  else some (.nx,x.2)
def vt(f:DEnv->Option (OR×DEnv)):(DEnv->Option (OR×DEnv))×(DEnv->Option (Bool×DEnv)):=(f,λa=>(f a).bind λx=>(au x.2 x.1).bind λd=>(tH d).bind λk=>some (k,x.2))
section
variable(C:Ct)
mutual
def bQ:E->(DEnv->Option (OR×DEnv))×(DEnv->Option (Bool×DEnv))
 |.nm i=>vt λρ=>match ρ[i]?.join with
  |some (.fz d)=>some (.val (.fz d),ρ)
  |some _=>some (.rf i,ρ)
  |none=>none
 |.int k=>vt λρ=>some (.val (.fz (.int k)),ρ)
 |.str x=>vt λρ=>some (.val (.fz (.str x)),ρ)
 |.bl b=>vt λρ=>some (.val (.fz (.bool b)),ρ)
 |.non=>vt λρ=>some (.val (.fz .none),ρ)
 |.gc g=>vt λρ=>some (.val (.fz (C.gv g)),ρ)
 |.bop o a b=>vt λρ=>((bQ a).1 ρ).bind λx=>((bQ b).1 x.2).bind λy=>(au y.2 x.1).bind λdx=>(au y.2 y.1).bind λdy=>(vM o dx dy).bind λd=>some (.val (.fz d),y.2)
 |.cat a b=>vt λρ=>((bQ a).1 ρ).bind λx=>((bQ b).1 x.2).bind λy=>(mr y.2 x.1).bind λdx=>(mr y.2 y.1).bind λdy=>(gd (dx.length+dy.length<=1000000)).bind λ_=>some (.val (.lst ((dx++dy).map OD.fz)),y.2)
 |.rep a b=>vt λρ=>((bQ a).1 ρ).bind λx=>((bQ b).1 x.2).bind λy=>(F3 x.1).bind λxs=>(au y.2 y.1).bind λd=>(dW d).bind λk=>(rq xs).bind λds=>(gd (-(2^62)<=k/\k<2^62/\ds.length*k.toNat<=1000000)).bind λ_=>some (.val (.lst ((List.replicate k.toNat ds).flatten.map OD.fz)),y.2)
 |.cmp o a b=>vt λρ=>((bQ a).1 ρ).bind λx=>((bQ b).1 x.2).bind λy=>(au y.2 x.1).bind λdx=>(au y.2 y.1).bind λdy=>(kO o dx dy).bind λk=>some (.val (.fz (.bool k)),y.2)
 |.cmp2 o o' a b c=>vt λρ=>((bQ a).1 ρ).bind λx=>((bQ b).1 x.2).bind λy=>(au y.2 x.1).bind λdx=>(au y.2 y.1).bind λdy=>(kO o dx dy).bind λk=>if k=true then ((bQ c).1 y.2).bind λz=>(au z.2 y.1).bind λh=>(au z.2 z.1).bind λA=>(kO o' h A).bind λt=>some (.val (.fz (.bool t)),z.2) else some (.val (.fz (.bool false)),y.2)
 |.isn neg a=>vt λρ=>((bQ a).1 ρ).bind λx=>(au x.2 x.1).bind λd=>some (.val (.fz (.bool (if neg then !isNn d else isNn d))),x.2)
 |.and a b=>(λρ=>((bQ a).1 ρ).bind λx=>(au x.2 x.1).bind λd=>(F2 d).bind λk=>if k=true then (bQ b).1 x.2 else some (.val (.fz (.bool false)),x.2),λρ=>((bQ a).2 ρ).bind λx=>if x.1=true then (bQ b).2 x.2 else some (false,x.2))
 |.or a b=>(λρ=>((bQ a).1 ρ).bind λx=>(au x.2 x.1).bind λd=>(F2 d).bind λk=>if k=true then some (.val (.fz (.bool true)),x.2) else (bQ b).1 x.2,λρ=>((bQ a).2 ρ).bind λx=>if x.1=true then some (true,x.2) else (bQ b).2 x.2)
 |.not a=>(λρ=>((bQ a).1 ρ).bind λx=>(au x.2 x.1).bind λd=>(F2 d).bind λk=>some (.val (.fz (.bool (!k))),x.2),λρ=>((bQ a).2 ρ).bind λx=>some (!x.1,x.2))
 |.neg a=>vt λρ=>((bQ a).1 ρ).bind λx=>(au x.2 x.1).bind λd=>(dW d).bind λi=>some (.val (.fz (.int (-i))),x.2)
 |.ife c a b=>vt λρ=>((bQ c).2 ρ).bind λx=>if x.1=true then (bQ a).1 x.2 else (bQ b).1 x.2
 |.tup es=>vt λρ=>(evs es ρ).bind λx=>(mapR own1 x.2 x.1).bind λz=>(gd (x.1.length<=1000000)).bind λ_=>some (.val (mkTup z.1),z.2)
 |.lst es=>vt λρ=>(evs es ρ).bind λx=>(mapR own1 x.2 x.1).bind λz=>(gd (x.1.length<=1000000)).bind λ_=>some (.val (.lst z.1),z.2)
 |.ix a b=>vt λρ=>((bQ a).1 ρ).bind λx=>((bQ b).1 x.2).bind λy=>(au y.2 y.1).bind λd=>(dW d).bind λi=>(bJ y.2 x.1 i).bind λz=>some (.val z.1,z.2)
 |.sll a lo hi=>vt λρ=>((bQ a).1 ρ).bind λx=>(Bh lo x.2).bind λl=>(Bh hi l.2).bind λu=>(mr u.2 x.1).bind λds=>some (.val (.lst ((cutD ds l.1 u.1).map OD.fz)),u.2)
 |.call f es=>vt λρ=>(evs es ρ).bind λx=>(bt (C.io f) x.2 x.1).bind λz=>(C.call f z.1).bind λw=>some (.val w.1,iZ (C.io f) x.1 w.2 z.2)
 |.callS f es=>vt λρ=>(evs es ρ).bind λx=>(cU x.2 x.1).bind λds=>(C.call f (ds.map OD.fz)).bind λw=>(vK w.1).bind λd=>(gd (Bd d=true)).bind λ_=>some (.val (.fz d),x.2)
 |.blt f es=>vt λρ=>(evs es ρ).bind λx=>(cU x.2 x.1).bind λds=>(yM f ds).bind λd=>some (.val (.fz d),x.2)
 |.bnw f e=>vt λρ=>((bQ e).1 ρ).bind λx=>match f with
  |.tuple=>((dY x.2 x.1).bind listOf).bind λds=>some (.val (.fz (.tuple ds)),x.2)
  |.sorted=>(au x.2 x.1).bind λd=>(Hj d).bind λds=>(gW ds).bind λns=>(gd (ns.length<64)).bind λ_=>some (.val (.lst ((sortI ns).map λi=>.fz (.int i))),x.2)
 |.idx a b=>vt λρ=>((bQ a).1 ρ).bind λx=>(Hl x.1).bind λds=>((bQ b).1 x.2).bind λy=>(au y.2 y.1).bind λd=>(dW d).bind λn=>(gW ds).bind λns=>(ns.findIdx? λm=>decide (m=n)).bind λj=>some (.val (.fz (.int j)),y.2)
 |.dgt i e=>vt λρ=>(ρ[i]?.join).bind λs=>(Bg s).bind λ_=>((bQ e).1 ρ).bind λy=>(au y.2 y.1).bind λd=>(keyOf d).bind λk=>(y.2[i]?.join).bind λv=>(Bg v).bind λq=>(dgV q.1 q.2 k).bind λw=>some (.val (.fz w),y.2)
 |.frz a=>vt λρ=>((bQ a).1 ρ).bind λx=>(frz1 x.2 x.1).bind λz=>some (.val (.fz z.1),z.2)
 |.pg i ps=>vt λρ=>(ck ρ i ps).bind λp=>(vK p.2.2).bind λd=>some (.val (.fz d),ρ)
 |.din neg e i ps=>vt λρ=>((bQ e).1 ρ).bind λx=>(au x.2 x.1).bind λdx=>(ck x.2 i ps).bind λp=>(keyOf dx).bind λk=>(Bg p.2.2).bind λq=>some (.val (.fz (.bool (if neg then !(q.1.any λq=>decide (q=k)) else q.1.any λq=>decide (q=k)))),x.2)
 |.comp nt fr it tg ifs elt=>vt λρ=>(nL it ρ).bind λx=>(gd (x.1.length<1000000)).bind λ_=>(cA x.2 fr).bind λz=>
   (bU (λd r=>(bc tg (.fz d) r).bind λρ1=>(Hn ifs ρ1).bind λk=>if k.1=true then ((bQ elt).1 k.2).bind λy=>(frz1 y.2 y.1).bind λq=>some ([q.1],q.2) else some ([],k.2)) x.1 [] (List.replicate nt none++z.1)).bind λw=>
    some (.val (.lst (w.1.map OD.fz)),eR z.2 fr (w.2.drop nt))
def evs:Es->DEnv->Option (List OR×DEnv)
 |.nil,ρ=>some ([],ρ)
 |.cons e es,ρ=>((bQ e).1 ρ).bind λx=>(evs es x.2).bind λy=>some (x.1::y.1,y.2)
def Bh:Eo->DEnv->Option (Option Int×DEnv)
 |.none,ρ=>some (none,ρ)
 |.some e,ρ=>((bQ e).1 ρ).bind λx=>(au x.2 x.1).bind λd=>(dW d).bind λi=>some (some i,x.2)
def Hn:Eo->DEnv->Option (Bool×DEnv)
 |.none,ρ=>some (true,ρ)
 |.some e,ρ=>(bQ e).2 ρ
def nL:It'->DEnv->Option (List PyData×DEnv)
 |.seq e,ρ=>((bQ e).1 ρ).bind λx=>(frz1 x.2 x.1).bind λz=>(vL z.1).bind λds=>some (ds,z.2)
 |.rg1 e,ρ=>((bQ e).1 ρ).bind λx=>(au x.2 x.1).bind λd=>(dW d).bind λj=>(gd (-(2^62)<=j/\j<2^62)).bind λ_=>some (bP 0 j.toNat,x.2)
 |.rg2 a b,ρ=>((bQ a).1 ρ).bind λx=>((bQ b).1 x.2).bind λy=>(au y.2 x.1).bind λd=>(dW d).bind λi=>(au y.2 y.1).bind λd'=>(dW d').bind λj=>(gd (-(2^62)<=i/\i<2^62/\-(2^62)<=j/\j<2^62)).bind λ_=>some (bP i (j-i).toNat,y.2)
 |.rg3 a b,ρ=>((bQ a).1 ρ).bind λx=>((bQ b).1 x.2).bind λy=>(au y.2 x.1).bind λd=>(dW d).bind λi=>(au y.2 y.1).bind λd'=>(dW d').bind λj=>(gd (0<=i/\i<=j/\j<=1000000)).bind λ_=>some (mB i (rn2 i j),y.2)
 |.enm e,ρ=>((bQ e).1 ρ).bind λx=>(frz1 x.2 x.1).bind λz=>(Hj z.1).bind λds=>some (cy ds,z.2)
 |.zip a b,ρ=>((bQ a).1 ρ).bind λx=>((bQ b).1 x.2).bind λy=>(frz1 y.2 x.1).bind λz=>(frz1 z.2 y.1).bind λw=>(vL z.1).bind λds=>(vL w.1).bind λes=>some (iN ds es,w.2)
end
abbrev ev(e:E)(ρ:DEnv):=(bQ C e).1 ρ
abbrev aP(e:E)(ρ:DEnv):=(bQ C e).2 ρ
end
example (C:Ct) (ρ:DEnv):ev C (.bop .add (.int 1) (.int 2)) ρ=some (.val (.fz (.int 3)),ρ):=rfl
example (C:Ct) (ρ:DEnv):aP C (.and (.bl true) (.not (.cmp .lt (.int 1) (.int 2)))) ρ=some (false,ρ):=rfl
end
section
theorem bnd{c b:Type}{o:Option c}{f:c->Option b}{x:b}(h:o.bind f=some x):∃a,o=some a/\f a=some x:=aaK.mp h
theorem bn2{α β γ:Type}{o:Option α}{g1:α->Option β}{f:α->β->Option γ}{r:γ}(h:(o.bind λa=>(g1 a).bind (f a))=some r):∃a b,o=some a/\g1 a=some b/\f a b=some r:=by obtain⟨a,p0,h⟩:=bnd h;obtain⟨b,p1,h⟩:=bnd h;exact⟨a,b,p0,p1,h⟩
theorem bn3{α β γ δ:Type}{o:Option α}{g1:α->Option β}{g2:α->β->Option γ}{f:α->β->γ->Option δ}{r:δ}(h:(o.bind λa=>(g1 a).bind λb=>(g2 a b).bind (f a b))=some r):∃a b c,o=some a/\g1 a=some b/\g2 a b=some c/\f a b c=some r:=by obtain⟨a,p0,h⟩:=bnd h;obtain⟨b,p1,h⟩:=bnd h;obtain⟨c,p2,h⟩:=bnd h;exact⟨a,b,c,p0,p1,p2,h⟩
theorem bn4{α β γ δ ε:Type}{o:Option α}{g1:α->Option β}{g2:α->β->Option γ}{g3:α->β->γ->Option δ}{f:α->β->γ->δ->Option ε}{r:ε}(h:(o.bind λa=>(g1 a).bind λb=>(g2 a b).bind λc=>(g3 a b c).bind (f a b c))=some r):∃a b c d,o=some a/\g1 a=some b/\g2 a b=some c/\g3 a b c=some d/\f a b c d=some r:=by obtain⟨a,p0,h⟩:=bnd h;obtain⟨b,p1,h⟩:=bnd h;obtain⟨c,p2,h⟩:=bnd h;obtain⟨d,p3,h⟩:=bnd h;exact⟨a,b,c,d,p0,p1,p2,p3,h⟩
theorem bn5{α β γ δ ε ζ:Type}{o:Option α}{g1:α->Option β}{g2:α->β->Option γ}{g3:α->β->γ->Option δ}{g4:α->β->γ->δ->Option ε}{f:α->β->γ->δ->ε->Option ζ}{r:ζ}(h:(o.bind λa=>(g1 a).bind λb=>(g2 a b).bind λc=>(g3 a b c).bind λd=>(g4 a b c d).bind (f a b c d))=some r):∃a b c d e,o=some a/\g1 a=some b/\g2 a b=some c/\g3 a b c=some d/\g4 a b c d=some e/\f a b c d e=some r:=by obtain⟨a,p0,h⟩:=bnd h;obtain⟨b,p1,h⟩:=bnd h;obtain⟨c,p2,h⟩:=bnd h;obtain⟨d,p3,h⟩:=bnd h;obtain⟨e,p4,h⟩:=bnd h;exact⟨a,b,c,d,e,p0,p1,p2,p3,p4,h⟩
theorem gZ{x:OD}{d:PyData}(h:vK x=some d):x=.fz d:=by cases x<;>cases h;rfl
theorem eC{x:OD}{xs:List OD}(h:qK x=some xs):x=.lst xs:=by cases x<;>cases h;rfl
theorem jI{x:OD}{z:List Key×List OD}(h:Bg x=some z):x=.dic z.1 z.2:=by cases x<;>cases h;rfl
theorem Bi{x:OD}{xs:List OD}(h:IM x=some xs):x=.lst xs\/x=.tup xs:=by cases x<;>cases h<;>first|exact .inl rfl|exact .inr rfl
theorem aQ{d:PyData}{i:Int}(h:dW d=some i):d=.int i:=by cases d<;>cases h;rfl
theorem mD{d:PyData}{i:Bool}(h:F2 d=some i):d=.bool i:=by cases d<;>cases h;rfl
theorem tJ{d:PyData}{i:List PyData}(h:Hj d=some i):d=.list i:=by cases d<;>cases h;rfl
theorem mE{d:PyData}{i:List PyData}(h:vL d=some i):d=.list i\/d=.tuple i:=by cases d<;>cases h<;>first|exact .inl rfl|exact .inr rfl
theorem tK{r:OR}{xs:List OD}(h:F3 r=some xs):r=.val (.lst xs):=by
 cases r with
 |val x=>rw[eC h]
 |rf _=>cases h
theorem gd_ok{c:Prop}[Decidable c]{u:Unit}(h:gd c=some u):c:=by
 by_cases a:c
 ·exact a
 ·rw[gd,if_neg a]at h;cases h
theorem one1_ok{a:Type}{l:List a}{x:a}(h:eB l=some x):l=[x]:=by
 cases l with
 |nil=>cases h
 |cons y l=>cases l<;>cases h;rfl
theorem thr3_ok{a:Type}{l:List a}{x:a×a×a}(h:wZ l=some x):l=[x.1,x.2.1,x.2.2]:=by
 cases l with
 |nil=>cases h
 |cons y l=>
  cases l with
  |nil=>cases h
  |cons z l=>
   cases l with
   |nil=>cases h
   |cons w l=>cases l<;>cases h;rfl
theorem two2_ok{a:Type}{l:List a}{x:a×a}(h:jH l=some x):l=[x.1,x.2]:=by
 cases l with
 |nil=>cases h
 |cons y l=>
  cases l with
  |nil=>cases h
  |cons z l=>cases l<;>cases h;rfl
section
variable(C:Ct)
mutual
def Bj:E->DEnv->Option PyData
 |.nm i,ρ=>(ρ[i]?.join).bind vK
 |.int k,_=>some (.int k)
 |.str x,_=>some (.str x)
 |.gc g,_=>some (C.gv g)
 |.bop o a b,ρ=>match o with
  |.add=>(Bj a ρ).bind λx=>(Bj b ρ).bind λy=>vM .add x y
  |.sub=>(Bj a ρ).bind λx=>(Bj b ρ).bind λy=>vM .sub x y
  |_=>none
 |.ix a b,ρ=>(Bj a ρ).bind λx=>(Bj b ρ).bind λy=>(vL x).bind λds=>(dW y).bind λi=>atI ds i
 |.tup es,ρ=>(Ef es ρ).bind λds=>(gd (ds.length<=1000000)).bind λ_=>some (.tuple ds)
 |.pg i ps,ρ=>(ck ρ i ps).bind λp=>vK p.2.2
 |_,_=>none
def Ef:Es->DEnv->Option (List PyData)
 |.nil,_=>some []
 |.cons e es,ρ=>(Bj e ρ).bind λx=>(Ef es ρ).bind λy=>some (x::y)
end
def tL(f:Str)(z:OD):List Str->List OD->List Str×List OD
 |n::ns,x::xs=>if n=f then (n::ns,z::xs) else ((n::(tL f z ns xs).1),(x::(tL f z ns xs).2))
 |_,_=>([f],[z])
def a9(k:Key)(d:PyData)(ks:List Key)(xs:List OD):List Key×List OD:=
 if (ks.any λq=>decide (q=k))=true then (ks,List.zipWith (λq x=>if q=k then .fz d else x) ks xs) else (ks++[k],xs++[.fz d])
def w8:Bo->Int->PyData->Option Int
 |.add,a,.int k=>some (a+k)
 |.sub,a,.int k=>some (a-k)
 |_,_,_=>none
def tM(i:Nat)(ks:List Nat)(j:Nat)(u:V)(ρ a:DEnv):Prop:=∃x y,ρ[i]?.join=some x/\x.at ks=some (.hole u)/\ρ[j]?.join=some y/\j≠i/\a=(ρ.set j none).set i (some (OD.put y ks x))
def yN(g:V->Option (Fl×DEnv))(i:Nat)(ks:List Nat)(j:Nat)(z:Fl×DEnv):Prop:=∀u:V,∃a,g u=some (z.1,a)/\tM i ks j u a z.2
open Classical in
def Bk(g:V->Option (Fl×DEnv))(i:Nat)(ks:List Nat)(j:Nat):Option (Fl×DEnv):=if h:∃z,yN g i ks j z then some (Classical.choose h) else none
abbrev IQ(f:DEnv->Option (Fl×DEnv))(ρ:DEnv)(i:Nat)(p:OD×List Nat×OD)(xs:List OD)(j:Nat)(z:Fl×DEnv):Prop:=yN (λu=>f (ρ.set i (some (OD.put (.lst (xs++[.hole u])) p.2.1 p.1)))) i (p.2.1++[xs.length]) j z
def Ho(f:DEnv->Option (Fl×DEnv))(ρ:DEnv)(i:Nat)(p:OD×List Nat×OD)(j:Nat):Option (Fl×DEnv):=(qK p.2.2).bind λa=>(gd (a.length<1000000/\j≠i/\(ρ[j]?.join).isSome)).bind λ_=>Bk (λu=>f (ρ.set i (some (OD.put (.lst (a++[.hole u])) p.2.1 p.1)))) i (p.2.1++[a.length]) j
def dAct(c ve:E)(o:List Key×List OD)(ρ:DEnv):Option ((List Key×List OD)×DEnv):=(ev C c ρ).bind λx=>(ev C ve x.2).bind λy=>(au y.2 x.1).bind λa=>(keyOf a).bind λb=>(frz1 y.2 y.1).bind λz=>some (a9 b z.1 o.1 o.2,z.2)
def g6(b:Tg)(c ve:E)(o:List Key×List OD)(d:PyData)(ρ:DEnv):Option ((List Key×List OD)×DEnv):=(bc b (.fz d) ρ).bind λa=>dAct C c ve o a
mutual
def be:S'->DEnv->Option (Fl×DEnv)
 |.ex e,ρ=>(ev C e ρ).bind λx=>some (.nx,x.2)
 |.set i e,ρ=>(ev C e ρ).bind λx=>(own1 x.2 x.1).bind λz=>(gd (i<z.2.length)).bind λ_=>some (.nx,z.2.set i (some z.1))
 |.asg t e,ρ=>(ev C e ρ).bind λx=>(own1 x.2 x.1).bind λz=>(bc t z.1 z.2).bind λρ1=>some (.nx,ρ1)
 |.par is es,ρ=>(evs C es ρ).bind λx=>(mapR own1 x.2 x.1).bind λz=>(gd (z.1.length=is.length/\∀i∈is,i<z.2.length)).bind λ_=>some (.nx,cV is z.1 z.2)
 |.aug i o e,ρ=>(ρ[i]?.join).bind λf=>(vK f).bind λl=>(dW l).bind λa=>(ev C e ρ).bind λx=>(au x.2 x.1).bind λd=>(w8 o a d).bind λr=>some (.nx,x.2.set i (some (.fz (.int r))))
 |.agl i e,ρ=>(ρ[i]?.join).bind λf=>(qK f).bind λ_=>(ev C e ρ).bind λx=>(F3 x.1).bind λys=>(x.2[i]?.join).bind λg=>(qK g).bind λxs=>(gd (xs.length+ys.length<=1000000)).bind λ_=>some (.nx,x.2.set i (some (.lst (xs++ys))))
 |.ret e,ρ=>(ev C e ρ).bind λx=>(mv1 x.2 x.1).bind λz=>some (.rt z.1,z.2)
 |.iff c a b,ρ=>(aP C c ρ).bind λx=>if x.1=true then aD a x.2 else aD b x.2
 |.whl c b,ρ=>cC (aP C c) (aD b) C.wf ρ
 |.fr t it b,ρ=>(nL C it ρ).bind λx=>bp (λd h=>(bc t (.fz d) h).bind λρ1=>aD b ρ1) x.1 x.2
 |.cont,ρ=>some (.ct,ρ)
 |.app i e,ρ=>(ρ[i]?.join).bind λf=>(qK f).bind λ_=>(ev C e ρ).bind λx=>(own1 x.2 x.1).bind λz=>(z.2[i]?.join).bind λg=>(qK g).bind λxs=>(gd (xs.length<1000000)).bind λ_=>some (.nx,z.2.set i (some (.lst (xs++[z.1]))))
 |.ins i k e,ρ=>(ρ[i]?.join).bind λf=>(qK f).bind λ_=>(ev C k ρ).bind λq=>(ev C e q.2).bind λx=>(au x.2 q.1).bind λm=>(dW m).bind λk=>(au x.2 x.1).bind λd=>(gd (Bd d=true)).bind λ_=>(x.2[i]?.join).bind λg=>(qK g).bind λxs=>(gd (0<=k/\k<=xs.length/\xs.length<100000)).bind λ_=>some (.nx,x.2.set i (some (.lst (xs.take k.toNat++.fz d::xs.drop k.toNat))))
 |.sti i k e,ρ=>(ev C e ρ).bind λx=>(own1 x.2 x.1).bind λz=>(z.2[i]?.join).bind λf=>(qK f).bind λ_=>(ev C k z.2).bind λq=>(au q.2 q.1).bind λd=>(dW d).bind λk=>(q.2[i]?.join).bind λg=>(qK g).bind λxs=>(ixN xs.length k).bind λj=>some (.nx,q.2.set i (some (.lst (xs.set j z.1))))
 |.sdk i k e,ρ=>(ev C e ρ).bind λx=>(frz1 x.2 x.1).bind λz=>(z.2[i]?.join).bind λf=>(Bg f).bind λ_=>(ev C k z.2).bind λq=>(au q.2 q.1).bind λn=>(keyOf n).bind λkk=>(q.2[i]?.join).bind λg=>(Bg g).bind λu=>(gd (u.2.length<1000000)).bind λ_=>some (.nx,q.2.set i (some (.dic (a9 kk z.1 u.1 u.2).1 (a9 kk z.1 u.1 u.2).2)))
 |.sdc i nt fr it tg ke ve,ρ=>(nL C it ρ).bind λx=>(gd (x.1.length<1000000)).bind λ_=>(cA x.2 fr).bind λz=>(dZ (g6 C tg ke ve) x.1 ([],[]) (List.replicate nt none++z.1)).bind λw=>(gd (i<(eR z.2 fr (w.2.drop nt)).length)).bind λ_=>some (.nx,(eR z.2 fr (w.2.drop nt)).set i (some (.dic w.1.1 w.1.2)))
def aD:Ss->DEnv->Option (Fl×DEnv)
 |.nil,ρ=>some (.nx,ρ)
 |.cons s ss,ρ=>(be s ρ).bind λx=>match x.1 with
  |.nx=>aD ss x.2
  |fl=>some (fl,x.2)
end
def tN(fn:Fn)(xs:List OD):Option (OD×List OD):=(aD C fn.body (eA fn.n xs)).bind λx=>match x.1 with
 |.nx=>(aW 0 fn.io xs x.2).bind λa=>some (.fz .none,a)
 |.rt o=>(aW 0 fn.io xs x.2).bind λa=>some (o,a)
 |_=>none
end
structure Pg where
 F:Nat->Option Fn
 gv:Nat->PyData
 wf:Nat
def Pg.io(p:Pg)(f:Nat):List Bool:=match p.F f with|some a=>a.io|none=>[]
def Pg.both(p:Pg):Nat->(Nat->List OD->Option (OD×List OD))×(Nat->List OD->Option (OD×List OD))
 |0=>(λ_ _=>none,λ_ _=>none)
 |n+1=>(λf xs=>match p.F f with
  |some fn=>if xs.length=fn.io.length then tN ⟨p.io,(Pg.both p n).1,(Pg.both p n).2,p.gv,p.wf⟩ fn xs else none
  |none=>none,(Pg.both p n).1)
def Pg.call(p:Pg)(n f:Nat)(xs:List OD):Option (OD×List OD):=(p.both n).1 f xs
def Pg.mak(p:Pg)(n f:Nat)(xs:List OD):Option (OD×List OD):=(p.both n).2 f xs
abbrev Pg.ct(p:Pg)(n:Nat):Ct:=⟨p.io,p.call n,p.mak n,p.gv,p.wf⟩
theorem Pg.ez(p:Pg)(n f:Nat)(xs:List OD):p.call (n+1) f xs=match p.F f with
  |some fn=>if xs.length=fn.io.length then tN (p.ct n) fn xs else none
  |none=>none:=rfl
end
section
def aF(C:Ct)(m:E):DE:=λa Q=>∃x,ev C m a=some x/\Q x.1 x.2
def gq(C:Ct)(m:E):DT:=λa Q=>∃x,aP C m a=some x/\Q x.1 x.2
def g7(C:Ct)(m:Es):DA:=λa Q=>∃x,evs C m a=some x/\Q x.1 x.2
def tO(C:Ct)(m:Eo):DO:=λa Q=>∃x,Bh C m a=some x/\Q x.1 x.2
def fN(C:Ct)(m:It'):DI:=λa Q=>∃x,nL C m a=some x/\Q x.1 x.2
section
variable{X:Cx}{e:Expr}{es:List Expr}
theorem PDe.imp:PDe X e d->(∀ρ Q,d' ρ Q->d ρ Q)->PDe X e d'
 |⟨te,h,s⟩,f=>⟨te,h,λb F σ H ρ τ θ c Q a R g q=>s b F σ H ρ τ θ c Q a R (f _ _ g) q⟩
theorem PDt.imp:PDt X e d->(∀ρ Q,d' ρ Q->d ρ Q)->PDt X e d'
 |⟨te,h,s⟩,f=>⟨te,h,λb F σ H ρ τ θ c Q a R g q=>s b F σ H ρ τ θ c Q a R (f _ _ g) q⟩
theorem PDw.imp:PDw X e d->(∀ρ Q,d' ρ Q->d ρ Q)->PDw X e d'
 |⟨te,h,s⟩,f=>⟨te,h,λb F σ H ρ τ θ c Q a R g q=>s b F σ H ρ τ θ c Q a R (f _ _ g) q⟩
theorem PDa.imp:PDa X es d->(∀ρ Q,d' ρ Q->d ρ Q)->PDa X es d'
 |⟨te,h,s⟩,f=>⟨te,h,λb F σ H ρ τ θ c Q a R g q=>s b F σ H ρ τ θ c Q a R (f _ _ g) q⟩
theorem PDi.imp:PDi X tg e d->(∀ρ Q,d' ρ Q->d ρ Q)->PDi X tg e d'
 |⟨te,h,s⟩,f=>⟨te,h,λb F σ H ρ τ θ c Q a R g q=>s b F σ H ρ τ θ c Q a R (f _ _ g) q⟩
theorem PDo.imp:PDo X o d->(∀ρ Q,d' ρ Q->d ρ Q)->PDo X o d'
 |⟨te,h,s⟩,f=>⟨te,h,λb F σ H ρ τ θ c Q a R g q=>s b F σ H ρ τ θ c Q a R (f _ _ g) q⟩
theorem SndR2.or{K:Waa}(h:SndR2 K r d)(h':SndR2 K r' d'):SndR2 K (λx y H Q=>r x y H Q\/r' x y H Q) (λx y Q=>d x y Q\/d' x y Q):=λH v u c a b Q g f z q=>z.imp (λz=>h H v u c a b Q g f z q) λz=>h' H v u c a b Q g f z q
theorem SndR2.imp{K:Waa}(h:SndR2 K r d)(f:∀x y Q,d' x y Q->d x y Q):SndR2 K r d':=λH v u c a b Q i g z q=>h H v u c a b Q i g (f _ _ _ z) q
end
def opOf:Bo->Operator
 |.add=>.Add|.sub=>.Sub|.mul=>.Mult|.fdiv=>.FloorDiv|.mod=>.Mod|.pow=>.Pow
def coOf:Co->CmpOp
 |.lt=>.Lt|.le=>.LtE|.gt=>.Gt|.ge=>.GtE|.eq=>.Eq|.ne=>.NotEq|.inn=>.In|.nin=>.NotIn
def Kb(o:Bo):DR2:=λx y Q=>∃d,vM o x y=some d/\Q d
def Kc(o:Co):DR2:=λx y Q=>∃k,kO o x y=some k/\Q (.bool k)
theorem dO(h:vM o x y=some d):∃i j k,x=.int i/\y=.int j/\IP o i j=some k/\d=.int k:=by obtain⟨i,j,k,a,c,b,h⟩:=bn3 h;cases h;exact⟨i,j,k,aQ a,aQ c,b,rfl⟩
section
variable{X:Cx}
theorem Eg(o:Bo):∃e,OpR X (binaryOp (opOf o)) e/\SndR2 X.K e (Kb o):=by
 cases o with
 |add=>refine⟨_,z7,(sE λi j=>.int _).imp λx y Q c=>?_⟩;obtain⟨d,h,q⟩:=c;obtain⟨i,j,k,rfl,rfl,a,rfl⟩:=dO h;cases a;exact⟨i,j,rfl,rfl,q⟩
 |sub=>refine⟨_,z8,(sE λi j=>.int _).imp λx y Q c=>?_⟩;obtain⟨d,h,q⟩:=c;obtain⟨i,j,k,rfl,rfl,a,rfl⟩:=dO h;cases a;exact⟨i,j,rfl,rfl,q⟩
 |mul=>refine⟨_,z9,(wy λi j=>.int _).imp λx y Q c=>?_⟩;obtain⟨d,h,q⟩:=c;obtain⟨i,j,k,rfl,rfl,a,rfl⟩:=dO h;obtain⟨_,b,a⟩:=bnd a;cases a;have b:=gd_ok b;exact⟨i,j,rfl,rfl,b,q⟩
 |fdiv=>refine⟨_,vX,(wy λi j=>.int _).imp λx y Q c=>?_⟩;obtain⟨d,h,q⟩:=c;obtain⟨i,j,k,rfl,rfl,a,rfl⟩:=dO h;obtain⟨_,b,a⟩:=bnd a;cases a;have b:=gd_ok b;exact⟨i,j,rfl,rfl,b,q⟩
 |mod=>refine⟨_,Aa,(wy λi j=>.int _).imp λx y Q c=>?_⟩;obtain⟨d,h,q⟩:=c;obtain⟨i,j,k,rfl,rfl,a,rfl⟩:=dO h;obtain⟨_,b,a⟩:=bnd a;cases a;have b:=gd_ok b;exact⟨i,j,rfl,rfl,b,q⟩
 |pow=>refine⟨_,Ab,(wy λi j=>.int _).imp λx y Q c=>?_⟩;obtain⟨d,h,q⟩:=c;obtain⟨i,j,k,rfl,rfl,a,rfl⟩:=dO h;obtain⟨_,b,a⟩:=bnd a;cases a;have b:=gd_ok b;exact⟨i,j,rfl,rfl,b,q⟩
theorem nM(h:eqA x y=some k):qq x y=some k\/(SeqAt.shaped x=true/\SeqAt.shaped y=true/\k=PyData.eqv x y):=by
 unfold eqA at h;cases e:qq x y with
 |some d=>rw[e]at h;exact .inl h
 |none=>
  rw[e]at h;simp only at h;split at h
  ·rename_i c;cases h;obtain⟨a,b⟩:=aa2.mp c;exact .inr ⟨a,b,rfl⟩
  ·cases h
theorem nN(h:inA x y=some k):∃ds,(y=.list ds\/y=.tuple ds)/\CM x=true/\memD x ds=some k:=by obtain⟨ds,_,a,b,h⟩:=bn2 h;exact⟨ds,mE a,gd_ok b,h⟩
theorem i3(p:X.A.units+64<cLine)(o:Co):∃n,OpR X (compareOp (coOf o)) n/\SndR2 X.K n (Kc o):=by
 have b:∀{x y:PyData}{k:Bool}{g:Int->Int->Bool},((dW x).bind λi=>(dW y).bind λj=>some (g i j))=some k->∃i j,x=.int i/\y=.int j/\k=g i j:=by intro x y k g h;obtain⟨i,j,s,r,h⟩:=bn2 h;cases h;exact⟨i,j,aQ s,aQ r,rfl⟩
 cases o with
 |lt=>refine⟨_,Dg,(wz ).imp λx y Q a=>?_⟩;obtain⟨k,h,q⟩:=a;obtain⟨i,j,rfl,rfl,rfl⟩:=b h;exact⟨i,j,rfl,rfl,q⟩
 |le=>refine⟨_,Dh,(wz ).imp λx y Q a=>?_⟩;obtain⟨k,h,q⟩:=a;obtain⟨i,j,rfl,rfl,rfl⟩:=b h;exact⟨i,j,rfl,rfl,q⟩
 |gt=>refine⟨_,Di,(wz ).imp λx y Q a=>?_⟩;obtain⟨k,h,q⟩:=a;obtain⟨i,j,rfl,rfl,rfl⟩:=b h;exact⟨i,j,rfl,rfl,q⟩
 |ge=>refine⟨_,Dj,(wz ).imp λx y Q a=>?_⟩;obtain⟨k,h,q⟩:=a;obtain⟨i,j,rfl,rfl,rfl⟩:=b h;exact⟨i,j,rfl,rfl,q⟩
 |eq=>
  refine⟨_,op_eq.or (Aq p),(sr_eq.or AJ).imp λx y Q a=>?_⟩;obtain⟨k,h,q⟩:=a;rcases nM h with h|⟨d,c,rfl⟩
  ·exact .inl ⟨k,h,q⟩
  ·exact .inr ⟨d,c,q⟩
 |ne=>
  refine⟨_,op_ne.or (Ar p),(sr_ne.or AK).imp λx y Q a=>?_⟩;obtain⟨k,h,q⟩:=a;obtain⟨l,e,h⟩:=bnd h;cases h;rcases nM e with h|⟨d,c,rfl⟩
  ·exact .inl ⟨l,h,q⟩
  ·exact .inr ⟨d,c,q⟩
 |inn=>refine⟨_,pX,(yJ ).imp λx y Q a=>?_⟩;obtain⟨k,h,q⟩:=a;obtain⟨m,d,c,f⟩:=nN h;exact⟨m,k,d,c,f,q⟩
 |nin=>refine⟨_,jt,(yJ ).imp λx y Q a=>?_⟩;obtain⟨k,h,q⟩:=a;obtain⟨l,e,h⟩:=bnd h;cases h;obtain⟨m,d,c,f⟩:=nN e;exact⟨m,l,d,c,f,q⟩
end
section
variable{X:Cx}{C:Ct}{a b c e:Expr}{es:List Expr}{ma mb mc:E}{mes:Es}{pos:Pos}
theorem Eh(r:PDe X a (aF C ma))(i:PDe X b (aF C mb)):PDe X (.BinOp a (opOf o) b pos) (aF C (.bop o ma mb)):=by obtain⟨w,j,t⟩:=Eg o;refine(DN j t r i).imp λy Q s=>?_;obtain⟨x,h,q⟩:=s;obtain⟨p,n,u,f,d,l,k,g,m,v,h⟩:=bn5 h;cases h;exact⟨p,l,n,k,u,f,g,m,d,v,q⟩
theorem Ei(w:X.A.units+64<cLine)(n:behindInMarks (coOf o) b=false)(s:PDe X a (aF C ma))(i:PDe X b (aF C mb)):PDe X (.Compare a [coOf o] [b] pos) (aF C (.cmp o ma mb)):=by obtain⟨z,j,u⟩:=i3 w o;refine(AI j u n s i).imp λB Q t=>?_;obtain⟨x,h,q⟩:=t;obtain⟨r,p,v,f,d,l,k,g,m,y,h⟩:=bn5 h;cases h;exact⟨r,l,p,k,v,f,g,m,d,y,q⟩
theorem Ej(z:X.A.units+64<cLine)(n:behindInMarks (coOf o) b=false)(s:PDe X a (aF C ma))(i:PDe X b (aF C mb)):PDt X (.Compare a [coOf o] [b] pos) (gq C (.cmp o ma mb)):=by obtain⟨D,j,v⟩:=i3 z o;refine(wC j v n s i).imp λG Q u=>?_;obtain⟨x,h,q⟩:=u;obtain⟨y,h,t⟩:=bnd h;obtain⟨r,p,w,f,d,l,k,g,m,B,h⟩:=bn5 h;cases h;cases t;exact⟨r,l,p,k,w,f,g,m,d,B,d,rfl,q⟩
theorem Bm(i:X.A.units+64<cLine)(y:lastMarks [coOf o,coOf o'] [b,c]=false)(G:PDe X a (aF C ma))(p:PDe X b (aF C mb))(l:PDe X c (aF C mc)):PDe X (.Compare a [coOf o,coOf o'] [b,c] pos) (aF C (.cmp2 o o' ma mb mc)):=by
 obtain⟨T,r,J⟩:=i3 i o;obtain⟨N,f,g⟩:=i3 i o';refine(sF r J f g y G p l).imp λU Q I=>?_;obtain⟨x,h,q⟩:=I;obtain⟨D,z,L,m,k,t,s,n,w,S,h⟩:=bn5 h;refine⟨D,t,z,s,L,m,n,w,k,S,k,rfl,?_⟩;cases k with
 |false=>rw[if_neg aad]at h;cases h;rw[if_neg aad];exact q
 |true=>rw[if_pos rfl]at h ⊢;obtain⟨M,d,O,B,j,H,v,u,h⟩:=bn4 h;cases h;exact⟨M,j,d,O,H,v,B,u,q⟩
end
end
section
def isStar:Expr->Bool
 |.Starred _ _=>true
 |_=>false
theorem aL(h:isStar e=false):starEach (e::es) env=(false,eval e env)::starEach es env:=by cases e<;>first|rfl|cases h
theorem cX:∀{es:List Expr},es.any isStar=false->(backTo pos (starEach es env)).any (·.1)=false
 |[],_=>rfl
 |e::es,h=>by rw[aaY,ab9]at h;rw[aL h.1];show (false||(backTo pos (starEach es env)).any (·.1))=false;rw[cX h.2];rfl
def plainT:Expr->Bool
 |.UnaryOp .Not _ _=>false
 |.BoolOp _ _ _=>false
 |.IfExp _ _ _ _=>false
 |.Compare _ _ _ _=>false
 |_=>true
theorem plainT_ok(h:plainT e=true):∀a,isTrue e env a=(do let v <-a;standAt e.pos;holding [v] (truthy v)):=by
 intro a;cases e with
 |UnaryOp b x p=>cases b<;>first|rfl|cases h
 |_=>first|rfl|cases h
section
variable{X:Cx}{C:Ct}{a b c e:Expr}{es:List Expr}{ma mb mc:E}{mes:Es}{pos p:Pos}{x:Str}{i:Nat}
theorem Ek:ev C (.nm i) ρ=(match ρ[i]?.join with|some (.fz d)=>some (.val (.fz d),ρ)|some _=>some (.rf i,ρ)|none=>none):=rfl
theorem Hq(j:X.N[i]?=some x) (l:Vis X.env.scope x) (k:(x==("__debug__":Str))=false) (d:(x==("__classdict__":Str))=false):PDe X (.Name x pos) (aF C (.nm i)):=by
 refine(AH j l k d).imp λg Q f=>?_;obtain⟨y,h,q⟩:=f;unfold dVar;rw[Ek]at h;cases e:g[i]?.join with
 |none=>rw[e]at h;cases h
 |some z=>rw[e]at h;cases z<;>(simp only at h;cases h;exact q)
theorem yO{j pos}:PDe X (.Constant (.int k) j pos) (aF C (.int k)):=pd_int.imp λd Q ⟨y,h,q⟩=>by cases h;exact q
theorem El{j pos}:PDe X (.Constant (.str k) j pos) (aF C (.str k)):=pd_str.imp λd Q ⟨y,h,q⟩=>by cases h;exact q
theorem Hr{j pos}:PDe X (.Constant (.bool k) j pos) (aF C (.bl k)):=pd_bl.imp λd Q ⟨y,h,q⟩=>by cases h;exact q
theorem Em{j pos}:PDe X (.Constant .none j pos) (aF C .non):=pd_non.imp λd Q ⟨y,h,q⟩=>by cases h;exact q
theorem Hs(j:Gl X x) (d:X.mg x=some u) (r:RelV v u) (s:∀S H,Fz X.K S H v (C.gv g)) (f:(x==("__debug__":Str))=false):PDe X (.Name x pos) (aF C (.gc g)):=
 (sC j d r s f).imp λk Q ⟨y,h,q⟩=>by cases h;exact q
theorem En{j f}(l:PDe X a (aF C ma)):PDe X (.Compare a [if neg then .IsNot else .Is] [.Constant .none j f] pos) (aF C (.isn neg ma)):=by
 have g:∀k Q,aF C (.isn neg ma) k Q->qr neg (aF C ma) k Q:=λk Q ⟨y,h,q⟩=>by obtain⟨n,d,m,o,h⟩:=bn2 h;cases h;exact⟨n,m,d,o,q⟩
 cases neg with
 |false=>exact(AM l).imp g
 |true=>exact(wB l).imp g
theorem Ep{j f}(l:PDe X a (aF C ma)):PDt X (.Compare a [if neg then .IsNot else .Is] [.Constant .none j f] pos) (gq C (.isn neg ma)):=by
 have g:∀k Q,gq C (.isn neg ma) k Q->fZ (qr neg (aF C ma)) k Q:=λk Q ⟨y,h,q⟩=>by obtain⟨z,h,n⟩:=bnd h;obtain⟨o,d,m,r,h⟩:=bn2 h;cases h;cases n;exact⟨o,m,d,r,_,rfl,q⟩
 cases neg with
 |false=>exact(wD l).imp g
 |true=>exact(sI l).imp g
theorem v_and(o:PDe X a (aF C ma))(l:PDe X (.BoolOp .And (b::es) pos) (aF C mb)):PDe X (.BoolOp .And (a::b::es) pos) (aF C (.and ma mb)):=by
 refine(AO o l).imp λr Q j=>?_;obtain⟨y,h,q⟩:=j;obtain⟨n,d,k,g,f,m,h⟩:=bn3 h;rw[mD m]at f;refine⟨n,g,k,f,?_⟩;cases k with
 |false=>rw[if_neg aad]at h ⊢;cases h;exact q
 |true=>rw[if_pos rfl]at h ⊢;exact⟨y,h,q⟩
theorem v_or(o:PDe X a (aF C ma))(l:PDe X (.BoolOp .Or (b::es) pos) (aF C mb)):PDe X (.BoolOp .Or (a::b::es) pos) (aF C (.or ma mb)):=by
 refine(DU o l).imp λr Q j=>?_;obtain⟨y,h,q⟩:=j;obtain⟨n,d,k,g,f,m,h⟩:=bn3 h;rw[mD m]at f;refine⟨n,g,k,f,?_⟩;cases k with
 |false=>rw[if_neg aad]at h ⊢;exact⟨y,h,q⟩
 |true=>rw[if_pos rfl]at h ⊢;cases h;exact q
theorem v_not(n:PDe X a (aF C ma)):PDe X (.UnaryOp .Not a pos) (aF C (.not ma)):=by refine(AQ n).imp λo Q g=>?_;obtain⟨y,h,q⟩:=g;obtain⟨l,d,k,f,m,j,h⟩:=bn3 h;cases h;exact⟨l,f,k,by rw[m,mD j],q⟩
theorem Er(n:PDe X a (aF C ma)):PDe X (.UnaryOp .USub a pos) (aF C (.neg ma)):=by refine(AN n).imp λo Q g=>?_;obtain⟨y,h,q⟩:=g;obtain⟨l,d,k,f,m,j,h⟩:=bn3 h;cases h;exact⟨l,f,d,m,k,aQ j,q⟩
theorem Et(l:PDt X a (gq C ma))(g:PDw X (.BoolOp .And (b::es) pos) (gq C mb)):PDw X (.BoolOp .And (a::b::es) pos) (gq C (.and ma mb)):=by
 refine(wG l g).imp λm Q f=>?_;obtain⟨y,h,q⟩:=f;obtain⟨j,d,h⟩:=bnd h;refine⟨j,d,?_⟩;split at h
 ·rename_i k;rw[if_pos k];exact⟨y,h,q⟩
 ·rename_i k;rw[if_neg k];cases h;exact q
theorem Ht(l:PDt X a (gq C ma))(g:PDw X (.BoolOp .Or (b::es) pos) (gq C mb)):PDw X (.BoolOp .Or (a::b::es) pos) (gq C (.or ma mb)):=by
 refine(AR l g).imp λm Q f=>?_;obtain⟨y,h,q⟩:=f;obtain⟨j,d,h⟩:=bnd h;refine⟨j,d,?_⟩;split at h
 ·rename_i k;rw[if_pos k];cases h;exact q
 ·rename_i k;rw[if_neg k];exact⟨y,h,q⟩
theorem Eu(j:PDt X a (gq C ma)):PDt X (.UnaryOp .Not a pos) (gq C (.not ma)):=by refine(wH j).imp λk Q f=>?_;obtain⟨y,h,q⟩:=f;obtain⟨g,d,h⟩:=bnd h;cases h;exact⟨g,d,q⟩
theorem Ew(j:PDt X c (gq C mc))(m:PDe X a (aF C ma))(g:PDe X b (aF C mb)):PDe X (.IfExp c a b pos) (aF C (.ife mc ma mb)):=by
 refine(DX j m g).imp λn Q f=>?_;obtain⟨y,h,q⟩:=f;obtain⟨l,d,h⟩:=bnd h;refine⟨l,d,?_⟩;split at h
 ·rename_i k;rw[if_pos k];exact⟨y,h,q⟩
 ·rename_i k;rw[if_neg k];exact⟨y,h,q⟩
theorem w9(h:Dt X.K H v d)(e:tH d=some k):Ad X.K v H k:=by
 cases h with
 |non=>cases e;rfl
 |bl b=>cases e;rfl
 |int i=>cases e;rfl
 |str x=>simp[tH]at e
 |lst s t=>cases e;exact .inl ⟨_,s,by rw[DtAll.emp t]⟩
 |tup s t=>cases e;exact .inr (.inl ⟨_,s,by rw[DtAll.emp t]⟩)
theorem Ex(B:aP C m=(vt (ev C m)).2)(A:plainT e=true):PDe X e (aF C m)->PDt X e (gq C m)
 |⟨te,g,s1⟩=>⟨_,rS g (plainT_ok A),λb F σ H ρ τ θ G Q n R ⟨y,h,q⟩ k=>by
  have h':((ev C m ρ).bind λx=>(au x.2 x.1).bind λd=>(tH d).bind λk=>some (k,x.2))=some y:=by rw[<-h,B];rfl
  obtain⟨z,d,t,w,u,o,h'⟩:=bn3 h';cases h';refine s1 b F σ H ρ τ θ (λr f=>r=z.1/\f=z.2) _ n R ⟨z,w,rfl,rfl⟩ λv I r f j D=>?_;obtain⟨g,s⟩:=D;subst g s;have l:=j.dt u;rw[n]at l;exact⟨t,w9 l o,k _ _ _ j.drop q⟩⟩
theorem eD:PDa X [] (g7 C .nil):=pda_nil.imp λd Q ⟨y,h,q⟩=>by cases h;exact q
theorem bw(n:isStar e=false)(f:PDe X e (aF C ma))(j:PDa X es (g7 C mes)):PDa X (e::es) (g7 C (.cons ma mes)):=by refine(sL (aL n) f j).imp λo Q g=>?_;obtain⟨y,h,q⟩:=g;obtain⟨l,k,d,m,h⟩:=bn2 h;cases h;exact⟨l,d,k,m,q⟩
theorem Ey{g}(m:PDa X es (g7 C mes)):PDe X (.Tuple es g pos) (aF C (.tup mes)):=by refine(AS DZ m).imp λn Q f=>?_;obtain⟨y,h,q⟩:=f;obtain⟨j,z,_,d,l,k,h⟩:=bn3 h;cases h;exact⟨j,d,z.1,z.2,l,gd_ok k,q⟩
theorem Ez(l:PDa X es (g7 C mes)):PDe X (.List es pos) (aF C (.lst mes)):=by refine(AU DZ l).imp λm Q f=>?_;obtain⟨y,h,q⟩:=f;obtain⟨g,z,_,d,j,k,h⟩:=bn3 h;cases h;exact⟨g,d,z.1,z.2,j,gd_ok k,q⟩
def bS:Expr->Bool
 |.Slice _ _ _ _=>true
 |_=>false
theorem nO(h:bS b=false):PlainIx b:=λo i=>by cases b<;>first|rfl|cases h
theorem Hu(s:bS b=false)(r:PDe X a (aF C ma))(g:PDe X b (aF C mb)):PDe X (.Subscript a b pos) (aF C (.ix ma mb)):=by refine(D1 (nO s) r g).imp λv Q t=>?_;obtain⟨y,h,q⟩:=t;obtain⟨o,n,d,k,z,l,j,f,u,m,h⟩:=bn5 h;cases h;exact⟨o,l,n,j,k,z.1,z.2,by rw[f,aQ u],m,q⟩
theorem xf:PDo X none (tO C .none):=pdo_none.imp λd Q ⟨y,h,q⟩=>by cases h;exact q
theorem xg(n:PDe X e (aF C ma)):PDo X (some e) (tO C (.some ma)):=by refine(sQ n).imp λo Q g=>?_;obtain⟨y,h,q⟩:=g;obtain⟨l,d,k,f,m,j,h⟩:=bn3 h;cases h;exact⟨l,f,k,by rw[m,aQ j],q⟩
theorem EA{lo d:Option Expr}(r:PDe X e (aF C ma))(j:PDo X lo (tO C ml))(f:PDo X d (tO C mh)):PDe X (.Subscript e (.Slice lo d none p2) pos) (aF C (.sll ma ml mh)):=by refine(AY r j f).imp λv Q t=>?_;obtain⟨y,h,q⟩:=t;obtain⟨o,l,u,s,m,k,g,n,h⟩:=bn4 h;cases h;exact⟨o,m,l,k,u,g,s,n,q⟩
theorem EB(t:PDe X a (aF C ma))(l:PDe X b (aF C mb)):PDe X (.BinOp a .Add b pos) (aF C (.cat ma mb)):=by refine(AX t l).imp λu Q g=>?_;obtain⟨y,h,q⟩:=g;obtain⟨r,n,o,f,_,d,s,j,m,k,h⟩:=bn5 h;cases h;exact⟨r,d,n,s,o,f,j,m,gd_ok k,q⟩
theorem EC(g:PDe X a (aF C ma)):PDe X a (aF C (.frz ma)):=by obtain⟨t,h,s⟩:=g;refine⟨t,h,λb F B H D w u I Q G R ⟨y,h,q⟩ k=>?_⟩;obtain⟨f,z,n,m,h⟩:=bn2 h;cases h;refine s b F B H D w u (λr d=>r=f.1/\d=f.2) _ G R ⟨f,n,rfl,rfl⟩ λv o r d l A=>?_;obtain⟨g,j⟩:=A;subst g j;exact k v o _ _ (l.frz1 m) q
theorem Bp(G:FnD X.prog X.w X.K X.mg X.base k fa fd ps (λxs Q=>∃w,C.call f xs=some w/\Q w.1 w.2)) (v:Room k X.A) (l:Gl X x) (r:X.mg x=some (.ref fa)) (hk:PySem.W.keepIn X.K (.ref fa)=true) (B:Binds X.K fd ps []) (d:(x==("__debug__":Str))=false)
  (o:isStar e=false) (g:es.any isStar=false) (t:PDa X (e::es) (g7 C mes)):PDe X (.Call (.Name x p) (e::es) [] pos) (aF C (.call f mes)):=by
 refine(wY (ios:=C.io f) G v l r hk B d (aL o) (cX g) t).imp λD Q u=>?_;obtain⟨y,h,q⟩:=u;obtain⟨s,z,w,n,m,j,h⟩:=bn3 h;cases h;exact⟨s,n,z.1,z.2,m,w,j,q⟩
theorem xh(G:FnD X.prog X.w X.K X.mg X.base k fa fd ps (λxs Q=>∃w,C.call f xs=some w/\Q w.1 w.2)) (D:Room k X.A) (m:Gl X x) (t:X.mg x=some (.ref fa)) (hk:PySem.W.keepIn X.K (.ref fa)=true) (I:Binds X.K fd ps []) (g:(x==("__debug__":Str))=false)
  (r:isStar e=false) (j:es.any isStar=false) (v:PDa X (e::es) (g7 C mes)):PDe X (.Call (.Name x p) (e::es) [] pos) (aF C (.callS f mes)):=by
 refine(tF G D m t hk I g (aL r) (cX j) v).imp λJ Q B=>?_;obtain⟨y,h,q⟩:=B;obtain⟨u,z,w,d,_,o,n,l,s,H,h⟩:=bn5 h;cases h;exact⟨u,o,z,n,w,l,d,gZ s,gd_ok H,q⟩
end
end
end L2
namespace PySem
open PySem.Spec
section
variable{prog:Program}{w:World}{A:Around}{E:Value->Shared->Prop}{s:Shared}
abbrev stN(led:Bool):Obj:={ cls:=.type "set",dict:=none,data:=.set #[] 0 (.fresh 0 0 led) }
set_option maxHeartbeats 3200000 in
end
end PySem
namespace L2
open PySem PySem.Spec PyProof.Rows
section
section
variable{X:Cx}{K:Waa}
theorem qL:bootBuiltins "sorted"=some (.builtin "sorted"):=by decide +kernel
def Ke:DRn:=λc Q=>∃b a,c=[.list b]/\allB b=some a/\Q (.bool (a.any id))
theorem ints_vals:∀{ns:List Int}{us:List Value},Vals (ns.map V.int) us->IntsAre us ns
 |[],_,r=>by rw[aaL]at r;cases r;exact .nil
 |n::ns,_,r=>by
  rw[aap]at r;cases r with
  |cons r1 a=>obtain⟨t,rfl⟩:=r1;exact .cons n t (ints_vals a)
def xi(K:Waa):List V->Hp->VK->Prop:=λd H Q=>∃(p:Addr) (c:List Int),d=[.ref p]/\SqL K H p (c.map V.int)/\c.length<64/\∀(b:List Int) (a:Addr),b.Perm c->b.Pairwise (·<=·)->H a=none->Q (.ref a) (upd H a (.lst (b.map V.int)))
theorem kP:CallR X (.builtin "sorted") (xi X.K):=by
 intro k s D H G J Q I r h;obtain⟨p,x,rfl,m,B,q⟩:=h;obtain⟨u,rfl,v⟩:=vals1 r;cases v;obtain⟨d,g,t,C⟩:=I.list m;have z:=ints_vals g;have j:d.length=x.length:=by have:=g.length;rw[aaa]at this;exact this.symm
 refine sorted_ints t.isList z (by omega) λf c w i l=>?_;obtain⟨e,n⟩:=sortedAll_at s.heap d f;have A:64<=sizeLine:=by decide
 refine⟨.ref _,_,I.laid (t':=s.toks) (a:=s.heap.objs.size+1) (o:=.lst (c.map V.int)) (λb u y=>sortedAll_old y) (abl _) ⟨?_,f.toList,e,vals_ints w,n⟩,rfl,q c _ i l (I.hok.fresh (abl _))⟩;rw[aaa,i.length_eq];omega
end
def Kf(T:String):PyData->Bool
 |.bool _=>T == "bool" || T == "int"
 |.int _=>T == "int"
 |.str _=>T == "str"
 |.list _=>T == "list"
 |.tuple _=>T == "tuple"
 |_=>false
inductive KindT:String->Prop
 |int:KindT "int" |bool:KindT "bool" |str:KindT "str" |list:KindT "list" |tuple:KindT "tuple"
theorem Dt.kind{K:Waa}{H:Hp}{v:V}{d:PyData}{T:String}(h:Dt K H v d)(k:KindT T):∃n,Ty K H v n/\PySem.W.kitOne K (.type n) (.type T)=some (Kf T d):=by
 cases h with
 |non=>exact⟨_,.non,by cases k<;>first|exact kit_ni K|exact kit_nb K|exact kit_ns K|exact kit_nl K|exact kit_nt K⟩
 |bl b=>exact⟨_,.bl b,by cases k<;>first|exact kit_bi K|exact kit_same K _|exact kit_bs K|exact kit_bl K|exact kit_bt K⟩
 |int i=>exact⟨_,.int i,by cases k<;>first|exact kit_same K _|exact kit_ib K|exact kit_is K|exact kit_il K|exact kit_it K⟩
 |str x=>exact⟨_,.str x,by cases k<;>first|exact kit_same K _|exact kit_si K|exact kit_sb K|exact kit_sl K|exact kit_st K⟩
 |lst s t=>exact⟨_,.lst s,by cases k<;>first|exact kit_same K _|exact kit_li K|exact kit_lb K|exact kit_ls K|exact kit_lt K⟩
 |tup s t=>exact⟨_,.tup s,by cases k<;>first|exact kit_same K _|exact kit_ti K|exact kit_tb K|exact kit_ts K|exact kit_tl K⟩
theorem nP{c b:Type}{us:List c}{ds:List b}(a:us.length=ds.length):∀(k:Nat),∀z∈(List.replicate k us).flatten.zip (List.replicate k ds).flatten,z∈us.zip ds
 |0,z,h=>by simp at h
 |k+1,z,h=>by rw[aaO,aaO,abk,abk,List.zip_append a]at h;exact(aam.mp h).elim id (nP a k z)
def Kg(f:Bl):DRn:=λa Q=>∃d,yM f a=some d/\Q d
theorem SndCB.imp{K:Waa}{b:List V->Hp->VK->Prop}{r a:DRn}(h:SndCB K b r)(f:∀ds Q,a ds Q->r ds Q):SndCB K b a:=λH c ds d Q e z q=>h H c ds d Q e (f _ _ z) q
theorem DtAll.ints'{K:Waa}{H:Hp}{vs:List V}{ns:List Int}(h:DtAll K H vs (ns.map PyData.int)):vs=ns.map V.int:=by
 induction ns generalizing vs with
 |nil=>cases h;rfl
 |cons n ns a=>cases h with|cons r t=>cases r;rw[aap,a t]
section
variable{X:Cx}{K:Waa}
theorem dInts_map:∀{ds:List PyData}{ns:List Int},gW ds=some ns->ds=ns.map PyData.int
 |[],_,h=>by cases h;rfl
 |d::ds,ns,h=>by obtain⟨i,r,a,b,h⟩:=bn2 h;cases h;rw[aQ a,dInts_map b,aap]
end
def Bq:Bl->Str
 |.len=>"len" |.abs=>"abs" |.max=>"max" |.min=>"min" |.int=>"int"
def Hv(x:Str):Bool:=decide (x≠"__name__")&&!(x==("__debug__":Str))
section
variable{X:Cx}{C:Ct}{a b c e:Expr}{es:List Expr}{ma mb mc:E}{mes:Es}{pos p p1 p2 p3:Pos}{x:Str}{i:Nat}
theorem ED{f:Bl}(A:X.calm=true)(r:Gl X (Bq f))(u:X.mg (Bq f)=none)(t:isStar e=false)(k:es.any isStar=false)(v:PDa X (e::es) (g7 C mes)):PDe X (.Call (.Name (Bq f) p) (e::es) [] pos) (aF C (.blt f mes)):=by
 have w:PDe X (.Call (.Name (Bq f) p) (e::es) [] pos) (F0 (Kg f) (g7 C mes))->PDe X (.Call (.Name (Bq f) p) (e::es) [] pos) (aF C (.blt f mes)):=λh=>h.imp λG Q ⟨y,h,q⟩=>by obtain⟨D,o,d,g,s,B,h⟩:=bn3 h;cases h;exact⟨D,g,o,s,d,B,q⟩
 refine w ?_;cases f with
 |len=>refine eQ rW (sc_len.imp λo Q m=>?_) r u As (by decide) (by decide) (aL t) (cX k) v;obtain⟨d,h,q⟩:=m;obtain⟨z,n,l,g,h⟩:=bn2 h;cases h;exact⟨z,n,one1_ok l,g,q⟩
 |abs=>refine eQ rV (sc_abs.imp λo Q m=>?_) r u Au (by decide) (by decide) (aL t) (cX k) v;obtain⟨d,h,q⟩:=m;obtain⟨z,i,l,g,h⟩:=bn2 h;cases h;exact⟨i,by rw[one1_ok l,aQ g],q⟩
 |max=>refine eQ (pT A) (sc_max.imp λo Q m=>?_) r u Av (by decide) (by decide) (aL t) (cX k) v;obtain⟨d,h,q⟩:=m;obtain⟨z,i,j,l,g,s,h⟩:=bn3 h;cases h;exact⟨i,j,by rw[two2_ok l,aQ g,aQ s],q⟩
 |min=>refine eQ (pU A) (sc_min.imp λo Q m=>?_) r u Aw (by decide) (by decide) (aL t) (cX k) v;obtain⟨d,h,q⟩:=m;obtain⟨z,i,j,l,g,s,h⟩:=bn3 h;cases h;exact⟨i,j,by rw[two2_ok l,aQ g,aQ s],q⟩
 |int=>refine sO pV (sc_int.imp λo Q m=>?_) r u Ax (by decide) (by decide) (aL t) (cX k) v;obtain⟨d,h,q⟩:=m;obtain⟨z,n,l,g,h⟩:=bn2 h;cases h;exact⟨z,n,one1_ok l,g,q⟩
theorem xj(l:Gl X "tuple") (k:X.mg "tuple"=none) (f:isStar e=false) (n:PDe X e (aF C ma)):PDe X (.Call (.Name "tuple" p) [e] [] pos) (aF C (.bnw .tuple ma)):=by refine(sP l k sk (by decide) (by decide) (aL f) rfl (bw f n eD)).imp λr Q j=>?_;obtain⟨y,h,q⟩:=j;obtain⟨d,o,g,m,h⟩:=bn2 h;cases h;exact⟨([d.1],d.2),by simp only[evs,g];rfl,d.1,o,rfl,m,q⟩
theorem insI_perm(i:Int):∀l,(insI i l).Perm (i::l)
 |[]=>.refl _
 |j::r=>by
  unfold insI;split
  ·exact .refl _
  ·exact((insI_perm i r).cons j).trans (List.Perm.swap _ _ _)
theorem kQ(i:Int):∀{l:List Int},l.Pairwise (·<=·)->(insI i l).Pairwise (·<=·)
 |[],_=>by simp[insI]
 |j::r,h=>by
  obtain⟨g,m⟩:=abb.mp h;unfold insI;split
  ·rename_i d;exact abb.mpr ⟨λk f=>(aab.mp f).elim (λe=>e▸d) λf=>ab5 d (g k f),h⟩
  ·rename_i d;refine abb.mpr ⟨λk f=>?_,kQ i m⟩;rcases aab.mp ((insI_perm i r).mem_iff.mp f) with rfl|f
   ·omega
   ·exact g k f
theorem sortI_perm:∀l,(sortI l).Perm l
 |[]=>.refl _
 |i::r=>(insI_perm i _).trans ((sortI_perm r).cons i)
theorem fO:∀l,(sortI l).Pairwise (·<=·)
 |[]=>.nil
 |i::r=>kQ i (fO r)
theorem kR:∀{l d:List Int},l.Perm d->l.Pairwise (·<=·)->d.Pairwise (·<=·)->l=d
 |[],d,p,_,_=>by have:=p.length_eq;cases d with|nil=>rfl|cons _ _=>simp at this
 |a::l,[],p,_,_=>by have:=p.length_eq;simp at this
 |a::l,b::d,p,h,h'=>by
  obtain⟨n,m⟩:=abb.mp h;obtain⟨k,j⟩:=abb.mp h';have e:a=b:=by
   have f:a∈b::d:=p.mem_iff.mp aaj;have g:b∈a::l:=p.mem_iff.mpr aaj;rcases aab.mp f with e|f
   ·exact e
   ·rcases aab.mp g with e|g
    ·exact e.symm
    ·have:=n b g;have:=k a f;omega
  subst e;rw[kR (List.Perm.cons_inv p) m j]
theorem tP(L:Gl X "sorted") (O:X.mg "sorted"=none) (u:isStar e=false) (o:PDe X e (aF C ma)):PDe X (.Call (.Name "sorted" p) [e] [] pos) (aF C (.bnw .sorted ma)):=by
 obtain⟨te,h,s⟩:=o;refine⟨_,kr kP L O qL (dJ h gF (aL u)) (by decide) (by decide) (aL u) rfl,λb F σ H ρ U T Qd Q A R ⟨y,h,q⟩ k=>?_⟩;obtain⟨n,d,ds,f,_,M,t,N,G,l,h⟩:=bn5 h;cases h;have l:=gd_ok l;rw[tJ N]at t;refine s b F σ H ρ U T (λr g=>r=n.1/\g=n.2) _ A R ⟨n,M,rfl,rfl⟩ λv H' r g j Y=>?_;obtain⟨o,I⟩:=Y;subst o I;have D:=dInts_map G;subst D;have z:=j.dt t;rw[A]at z;cases z with
 |lst B J=>rw[DtAll.ints' J]at B;refine⟨_,f,rfl,B,l,λm a p1 p2 Z=>?_⟩;have:m=sortI f:=kR (p1.trans (sortI_perm f).symm) p2 (fO f);subst this;refine k _ _ _ _ (j.drop.push ?_) q;have w:=j.drop.wd.adds (vs:=(sortI f).map V.int) (ds:=(sortI f).map PyData.int) λS _=>FzA.ints _;have:=Wd.eu w (by simp) Z;rw[aaQ]at this;exact this
end
end
section
def iO(t:Tg):DG:=λx b Q=>∃a,bc t x b=some a/\Q a
structure Sto (X:Cx)(W:Nat->Prop)(m:Nat)(i:Nat)(x:Str):Prop where
 hN:X.N[i]?=some x
 loc:Loc X.env.scope x
 fn:X.fn x=true\/X.env.scope.names.lookup x=some .local
 lt:i<m
 nw:¬ W i
section
variable{X:Cx}{W:Nat->Prop}{m:Nat}{C:Ct}{a b c e:Expr}{es:List Expr}{ma mb mc:E}{mes:Es}{pos p p1 p2 p3:Pos}{x:Str}{i:Nat}
theorem PDg.imp:PDg X W m e d->(∀x ρ Q,d' x ρ Q->d x ρ Q)->PDg X W m e d'
 |⟨te,h,s⟩,f=>⟨te,h,λb F σ H ρ τ θ v x j Q g n R k q=>s b F σ H ρ τ θ v x j Q g n R (f _ _ _ k) q⟩
theorem PDgs.imp:PDgs X W m es d->(∀x ρ Q,d' x ρ Q->d x ρ Q)->PDgs X W m es d'
 |⟨te,h,s⟩,f=>⟨te,h,λb F σ H ρ τ θ v x j Q g n k R l q=>s b F σ H ρ τ θ v x j Q g n k R (f _ _ _ l) q⟩
theorem PDg.or:PDg X W m e d->PDg X W m e d'->PDg X W m e (λx ρ Q=>d x ρ Q\/d' x ρ Q)
 |⟨te,h,s⟩,⟨te',h',s'⟩=>⟨λv σ H Q=>te v σ H Q\/te' v σ H Q,λf s σ H v u Q I r z=>z.elim (h f s σ H v u Q I r) (h' f s σ H v u Q I r),λb F σ H ρ τ θ v x j Q k n R g q=>g.imp (λg=>s b F σ H ρ τ θ v x j Q k n R g q) λg=>s' b F σ H ρ τ θ v x j Q k n R g q⟩
theorem Hw(j:X.N.Nodup)(s:Sto X W m i x):PDg X W m (.Name x pos) (iO (.nm i)):=by refine(kG s.nw j s.hN s.loc s.lt s.fn).imp λy k Q d=>?_;obtain⟨g,h,q⟩:=d;obtain⟨_,f,h⟩:=bnd h;cases h;exact⟨gd_ok f,q⟩
inductive Stos (X:Cx)(W:Nat->Prop)(m:Nat):List Nat->List Expr->Prop
 |nil:Stos X W m [] []
 |cons {i is x pos es}:Sto X W m i x->Stos X W m is es->Stos X W m (i::is) (.Name x pos::es)
theorem mF(h:X.N.Nodup):∀{d:List Nat}{es:List Expr},Stos X W m d es->PDgs X W m es (λxs ρ Q=>xs.length=d.length/\(∀i∈d,i<ρ.length)/\Q (cV d xs ρ))
 |[],_,.nil=>pdgs_nil.imp λxs ρ Q ⟨f,g,q⟩=>by
   cases xs with
   |nil=>exact⟨rfl,q⟩
   |cons _ _=>simp at f
 |i::is,_,.cons s t=>(qx rfl (kG s.nw h s.hN s.loc s.lt s.fn) (mF h t)).imp λxs ρ Q ⟨f,g,q⟩=>by
   cases xs with
   |nil=>simp at f
   |cons z zs=>exact⟨z,zs,rfl,g i aaj,by simpa using f,λj k=>by rw[abj];exact g j (aal _ k),q⟩
theorem eU(h:Stos X W m ts es):(assignEach es X.env).length=ts.length/\(assignEach es X.env).findIdx? (·.1)=none:=by
 induction h with
 |nil=>exact⟨rfl,rfl⟩
 |@cons i is x pos es s t ih=>have e:assignEach (.Name x pos::es) X.env=(false,assign (.Name x pos) X.env)::assignEach es X.env:=rfl;rw[e];refine⟨by simp[ih.1],?_⟩;rw[abc];simp[ih.2]
theorem tQ(h:unpA y=some xs):unpT y=some xs\/unpL y=some xs:=by
 unfold unpA at h;cases d:unpT y with
 |some f=>rw[d]at h;exact .inl h
 |none=>rw[d]at h;exact .inr h
theorem Hx(j:X.calm=true)(l:X.N.Nodup)(h:Stos X W m ts es):PDg X W m (.Tuple es k pos) (iO (.tp ts)):=by
 refine((wN j (eU h).1 (eU h).2 (mF l h)).or (wO j (eU h).1 (eU h).2 (mF l h))).imp λy r Q n=>?_;obtain⟨o,h,q⟩:=n;obtain⟨g,_,f,d,h⟩:=bn2 h;cases h;have d:=gd_ok d;rcases tQ f with f|f
 ·exact .inl ⟨g,f,d.1,d.1,d.2,q⟩
 ·exact .inr ⟨g,f,d.1,d.1,d.2,q⟩
theorem PI.or(h:PI X tg e t)(h':PI X tg e t'):PI X tg e (λσ H R=>t σ H R\/t' σ H R):=λd s σ H R I z=>z.elim (h d s σ H R I) (h' d s σ H R I)
theorem PDi.or:PDi X tg e d->PDi X tg e d'->PDi X tg e (λρ Q=>d ρ Q\/d' ρ Q)
 |⟨te,h,s⟩,⟨te',h',s'⟩=>⟨_,PI.or h h',λb F σ H ρ τ θ j Q g R f q=>f.imp (λf=>s b F σ H ρ τ θ j Q g R f q) λf=>s' b F σ H ρ τ θ j Q g R f q⟩
theorem Br(d:ev C ma ρ=some xa):evs C (.cons ma .nil) ρ=some ([xa.1],xa.2):=by show ((ev C ma ρ).bind _)=_;rw[d];rfl
theorem EE(d:ev C ma ρ=some xa)(f:ev C mb xa.2=some xb):evs C (.cons ma (.cons mb .nil)) ρ=some ([xa.1,xb.1],xb.2):=by show ((ev C ma ρ).bind _)=_;rw[d];show ((evs C (.cons mb .nil) xa.2).bind _)=_;rw[Br f];rfl
theorem kS(e:au ρ r=some d):cU ρ [r]=some [d]:=by show ((au ρ r).bind _)=_;rw[e];rfl
theorem nQ(e:au ρ r=some d)(f:au ρ r'=some d'):cU ρ [r,r']=some [d,d']:=by show ((au ρ r).bind _)=_;rw[e];show ((cU ρ [r']).map _)=_;rw[kS f];rfl
theorem yP(e:frz1 ρ r=some z)(h:z.1=d):frzL ρ [r]=some ([d],z.2):=by show ((frz1 ρ r).bind _)=_;rw[e,<-h];rfl
theorem EF(e:frz1 ρ r=some z)(d:frz1 z.2 r'=some w):frzL ρ [r,r']=some ([z.1,w.1],w.2):=by show ((frz1 ρ r).bind _)=_;rw[e];show ((frzL z.2 [r']).map _)=_;rw[yP d rfl];rfl
theorem yQ(h:vL d=some ds):∃l:Bool,Ec d=some (l,ds):=(mE h).elim (λh=>⟨true,h▸rfl⟩) λh=>⟨false,h▸rfl⟩
theorem EG(l:PDe X e (aF C ma)):PDi X tg e (fN C (.seq ma)):=by
 refine((sY l).or (wR l)).imp λr Q n=>?_;obtain⟨y,h,q⟩:=n;obtain⟨j,z,s,g,k,f,h⟩:=bn3 h;obtain⟨d,o⟩:=z;cases h;rcases mE f with f|f<;>simp only at f<;>subst f
 ·exact .inl ⟨j,g,_,_,k,q⟩
 ·exact .inr ⟨j,g,_,_,k,q⟩
theorem EH(u:Gl X "range") (t:X.mg "range"=none) (l:isStar a=false) (o:PDe X a (aF C ma)):PDi X tg (.Call (.Name "range" p) [a] [] pos) (fN C (.rg1 ma)):=by refine(mx u t (aL l) (bw l o eD)).imp λv Q r=>?_;obtain⟨y,h,q⟩:=r;obtain⟨g,d,j,_,n,k,s,f,h⟩:=bn4 h;cases h;have f:=gd_ok f;rw[aQ s]at k;exact⟨([g.1],g.2),Br n,j,kS k,f.1,f.2,q⟩
theorem EI(t:Gl X "range") (v:X.mg "range"=none) (r:isStar a=false) (f:isStar b=false) (z:PDe X a (aF C ma)) (s:PDe X b (aF C mb)):PDi X tg (.Call (.Name "range" p) [a,b] [] pos) (fN C (.rg2 ma mb)):=by refine(my t v (by rw[aL r,aL f];rfl) (aL f) (bw r z (bw f s eD))).imp λH Q A=>?_;obtain⟨y,h,q⟩:=A;obtain⟨w,o,d,i,G,u,g,n,B,l,h⟩:=bn5 h;obtain⟨j,_,D,k,h⟩:=bn2 h;cases h;rw[aQ B]at n;rw[aQ D]at l;have k:=gd_ok k;exact⟨([w.1,o.1],o.2),EE u g,i,j,nQ n l,k,q⟩
theorem EJ{G:Expr}{c:Expr} (v:Gl X "range") (z:X.mg "range"=none) (s:isStar a=false) (k:isStar b=false) (g:isStar c=false) (B:PDe X a (aF C ma)) (u:PDe X b (aF C mb)) (t:PDe X c (aF C (.int 2))):PDi X G (.Call (.Name "range" p) [a,b,c] [] pos) (fN C (.rg3 ma mb)):=by
 refine(mC v z (by rw[aL s,aL k,aL g];rfl) (by rw[aL k,aL g];rfl) (bw s B (bw k u (bw g t eD)))).imp λL Q D=>?_;obtain⟨y,h,q⟩:=D;obtain⟨n,f,d,i,J,w,l,r,H,o,h⟩:=bn5 h;obtain⟨j,_,I,A,h⟩:=bn2 h;cases h;rw[aQ H]at r;rw[aQ I]at o;refine⟨([n.1,f.1,.val (.fz (.int 2))],f.2),?_,i,j,?_,gd_ok A,q⟩
 ·exact aaK.mpr ⟨n,w,aaK.mpr ⟨([f.1,.val (.fz (.int 2))],f.2),aaK.mpr ⟨f,l,rfl⟩,rfl⟩⟩
 ·show ((au f.2 n.1).bind _)=_;rw[r];show ((cU f.2 [f.1,.val (.fz (.int 2))]).map _)=_;rw[nQ o rfl];rfl
theorem EK{l} (r:Gl X "enumerate") (o:X.mg "enumerate"=none) (f:isStar a=false) (j:PDe X a (aF C ma)):PDi X (.Tuple es l tpos) (.Call (.Name "enumerate" p) [a] [] pos) (fN C (.enm ma)):=by refine(sZ r o (aL f) (bw f j eD)).imp λu Q k=>?_;obtain⟨y,h,q⟩:=k;obtain⟨d,z,t,g,s,n,h⟩:=bn3 h;cases h;exact⟨([d.1],d.2),Br g,t,z.2,yP s (tJ n),q⟩
theorem EL{H} (l:Gl X "zip") (u:X.mg "zip"=none) (g:isStar a=false) (d:isStar b=false) (A:PDe X a (aF C ma)) (k:PDe X b (aF C mb)):PDi X (.Tuple es H tpos) (.Call (.Name "zip" p) [a,b] [] pos) (fN C (.zip ma mb)):=by refine(wU l u (by rw[aL g,aL d];rfl) (aL d) (bw g A (bw d k eD))).imp λM Q G=>?_;obtain⟨y,h,q⟩:=G;obtain⟨L,J,z,w,B,o,f,n,j,t,h⟩:=bn5 h;obtain⟨es,I,h⟩:=bnd h;cases h;obtain⟨v,D⟩:=yQ t;obtain⟨r,s⟩:=yQ I;exact⟨_,EE o f,_,_,v,r,B,es,w.2,EF n j,D,s,q⟩
def cf(C:Ct)(h:Tg)(f:Eo)(elt:E)(d:PyData)(ρ:DEnv):Option (List PyData×DEnv):=
 (bc h (.fz d) ρ).bind λg=>(Hn C f g).bind λk=>if k.1=true then (ev C elt k.2).bind λy=>(frz1 y.2 y.1).bind λq=>some ([q.1],q.2) else some ([],k.2)
def Bt(C:Ct)(d:Eo)(elt:E):DC:=λf Q=>∃w,((Hn C d f).bind λk=>if k.1=true then (ev C elt k.2).bind λy=>(frz1 y.2 y.1).bind λq=>some (([q.1]:List PyData),q.2) else some ([],k.2))=some w/\Q w.1 w.2
theorem PDc.imp:PDc Y ifs elt d->(∀ρ Q,d' ρ Q->d ρ Q)->PDc Y ifs elt d'
 |⟨te,h,s⟩,f=>⟨te,h,λb F σ H ρ vs rs D out k Q g l j R n q=>s b F σ H ρ vs rs D out k Q g l j R (f _ _ n) q⟩
theorem xk(j:PDe Y elt (aF C me)):PDc Y [] elt (Bt C .none me):=(qD j).imp λf Q ⟨w,h,q⟩=>by have h:((ev C me f).bind λy=>(frz1 y.2 y.1).bind λq=>some (([q.1]:List PyData),q.2))=some w:=h;obtain⟨y,z,d,g,h⟩:=bn2 h;cases h;exact⟨y,d,z.1,z.2,g,q⟩
theorem Bu(j:PDt Y c (gq C mc))(n:PDe Y elt (aF C me)):PDc Y [c] elt (Bt C (.some mc) me):=(tz j n).imp λo Q ⟨w,h,q⟩=>by
 obtain⟨k,g,h⟩:=bnd h;refine⟨k,g,?_⟩;by_cases d:k.1=true
 ·rw[if_pos d]at h ⊢;obtain⟨y,z,f,l,h⟩:=bn2 h;cases h;exact⟨y,f,z.1,z.2,l,q⟩
 ·rw[if_neg d]at h ⊢;cases h;exact q
theorem tR(step:PyData->DEnv->Option (List PyData×DEnv))(ds:List PyData)(w:List PyData×DEnv)(k:Nat)(f:ds[k]?=some d)(h:bU step (ds.drop k) out ρ=some w):∃z,step d ρ=some z/\bU step (ds.drop (k+1)) (out++z.1) z.2=some w:=by
 have g:=(aai.mp f).1;have e:ds.drop k=d::ds.drop (k+1):=by rw[abN g,(aai.mp f).2]
 rw[e]at h;exact bnd h
theorem nR(C:Ct){j:Tg}:∀ρ Q,aF C (.comp nt fr mi j mif me) ρ Q->nK (fN C mi) nt fr (iO j) (Bt C mif me) ρ Q:=λρ Q ⟨y,h,q⟩=>by
 obtain⟨x,_,z,w,t,v,s,r,h⟩:=bn4 h;cases h;refine⟨x,t,gd_ok v,z.1,z.2,s,λk f ρ=>bU (cf C j mif me) (x.1.drop k) f ρ=some w,r,λk d f ρ B g=>?_,λf ρ g=>?_⟩
 ·obtain⟨u,o,n⟩:=tR _ _ _ k B g;obtain⟨l,A,o⟩:=bnd o;exact⟨l,A,u,o,n⟩
 ·have g:bU (cf C j mif me) (x.1.drop x.1.length) f ρ=some w:=g;rw[aca]at g;cases g;exact q
theorem Bv{d:Tg}(h:X.calm=true)(S:CompScope N nt fr X.N scope X.env.scope)(k:∀x,foldedSetIterable iter X.env x=pure x)(g:PDi X tg iter (fN C mi))(j:∀c:CC,PDg (dM X N scope c) Ff nt tg (iO d))(f:∀c:CC,PDc (dM X N scope c) ifs elt (Bt C mif me)):
  PDe X (.ListComp elt [⟨tg,iter,ifs,0⟩] scope pos) (aF C (.comp nt fr mi d mif me)):=(wX h S k g j f).imp (nR C)
theorem EM(g:PDe X a (aF C ma))(f:PDe X c (aF C mb)):PDe X (.BinOp a .Mult c pos) (aF C (.rep ma mb)):=by
 obtain⟨_,g,s1⟩:=g;obtain⟨_,f,s2⟩:=f;refine⟨_,rM An g f,λb F I H ρ T O Qd Q U R ⟨y,h,q⟩ k=>?_⟩;obtain⟨D,o,xs,dn,n,e1,e2,L,N,en,h⟩:=bn5 h;obtain⟨s,_,e3,j,h⟩:=bn2 h;cases h;have j:=gd_ok j;have L:=tK L;rw[aQ en]at N;refine s1 b F I H ρ T O (λr d=>r=D.1/\d=D.2) _ U R ⟨D,e1,rfl,rfl⟩ λv H1 r d R1 G=>?_;obtain⟨g,f⟩:=G;subst g f;refine s2 b F I H1 _ _ _ (λr d=>r=o.1/\d=o.2) _ U R1 ⟨o,e2,rfl,rfl⟩ λu H2 r d S G=>?_;obtain⟨g,f⟩:=G;subst g f;have hk:=S.dt N;cases hk;have t:=S.drop;rw[L]at t;obtain⟨A,h0,nd,B⟩:=t.wd.out;have Z:=fzL_map e3;subst Z;cases h0 with
 |cons Y t0=>
  cases Y with
  |@lst l us _ A' hH tt=>
   have M:=Ows.fzs tt;have w:Wd b H2 (us.zip (s.map OD.fz)++((V.ref l,OD.lst (s.map OD.fz))::(stk T O++(flat I o.2++ff F)))):=Wd.exp t.wd (Ows.cons (.lst hH tt) t0) nd B M;have J:=M.length;refine⟨l,n,us,rfl,rfl,hH,by omega,by omega,aat (by rw[J];exact j.2.2) (by decide),λpp hp=>k _ _ _ _ (Rel.mn (t.eu w (by rw[len_rep,len_rep,J]) (λz j=>?_) hp)) q⟩;refine aah _ (nP (by simpa using J) n.toNat z ?_);have e:(List.replicate n.toNat s).flatten.map OD.fz=(List.replicate n.toNat (s.map OD.fz)).flatten:=by rw[List.map_flatten,List.map_replicate]
   rw[e]at j;exact j
end
end
section
def EN(D:DEnds)(ρ:DEnv):Fl->Prop
 |.nx=>D.nx ρ|.bk=>D.bk ρ|.ct=>D.ct ρ|.rt x=>D.rt x ρ
def iJ(C:Ct)(s:S'):DS:=λD a=>∃x,be C s a=some x/\EN D x.2 x.1
def kT(C:Ct)(s:Ss):DS:=λD a=>∃x,aD C s a=some x/\EN D x.2 x.1
section
variable{b:Bs}{F:List Fr}{σ:St}{H H':Hp}{ρ:DEnv}{τ us:List V}{θ:List OR}{zs:List OD}{v u:V}{x y:OD}{i:Nat}{ks:List Nat}
theorem Rel.open(R:Rel b F σ H ρ (us++τ) (zs.map OR.val++θ))(a:us.length=zs.length)(e:ρ[i]?.join=some x):∃v,σ[i]?=some (some v)/\Wd b H (us.zip zs++((v,x)::(stk τ θ++(flat σ (ρ.set i none)++ff F)))):=by obtain⟨v,c,w⟩:=R.slot (join_some e);refine⟨v,c,w.perm ?_⟩;rw[aJ (by simpa using a),cT a,aac];exact aav.symm
theorem Rel.close(R:Rel b F σ H ρ τ θ)(ev:σ[i]?=some (some v))(w:Wd b H' ((v,x)::(stk τ θ++(flat σ (ρ.set i none)++ff F)))):Rel b F σ H' (ρ.set i (some x)) τ θ:=Rel.back R.wf R.al R.wff ev w
theorem Rel.rest(R:Rel b F σ H ρ (us++τ) (zs.map OR.val++θ))(a:us.length=zs.length):Rel b F σ H ρ τ θ:=R.drops (by simpa using a)
end
section
variable{X:Cx}{W:Nat->Prop}{m:Nat}{C:Ct}{a b c e:Expr}{es:List Expr}{sts s1 s2:List Stmt}{st:Stmt}{ma mb mc:E}{mes:Es}{ms:S'}{mss ma' mb':Ss}{pos p p1 p2 p3 pos':Pos}{x:Str}{i:Nat}
theorem PDs.imp:PDs X W st d->(∀D ρ,d' D ρ->d D ρ)->PDs X W st d'
 |⟨te,h,s⟩,f=>⟨te,h,λb F σ H ρ τ θ j D g n R k E=>s b F σ H ρ τ θ j D g n R (f _ _ k) E⟩
theorem PDss.imp:PDss X W sts d->(∀D ρ,d' D ρ->d D ρ)->PDss X W sts d'
 |⟨te,h,s⟩,f=>⟨te,h,λb F σ H ρ τ θ j D g n R k E=>s b F σ H ρ τ θ j D g n R (f _ _ k) E⟩
theorem Bw:PDss X W [] (kT C .nil):=pdss_nil.imp λD d ⟨y,h,q⟩=>by cases h;exact q
theorem xl(k:PDs X W st (iJ C ms))(g:PDss X W sts (kT C mss)):PDss X W (st::sts) (kT C (.cons ms mss)):=by
 refine(qu k g).imp λD o n=>?_;obtain⟨y,h,q⟩:=n;obtain⟨z,f,h⟩:=bnd h;obtain⟨l,j⟩:=z;refine⟨λd=>l=.nx/\d=j,λd ⟨k,g⟩=>?_,?_⟩
 ·subst k g;exact⟨y,h,q⟩
 ·cases l
  ·exact⟨_,f,rfl,rfl⟩
  ·cases h;exact⟨_,f,q⟩
  ·cases h;exact⟨_,f,q⟩
  ·cases h;exact⟨_,f,q⟩
theorem By:PDs X W (.Continue pos) (iJ C .cont):=pds_cont.imp λD d ⟨y,h,q⟩=>by cases h;exact q
def fP:Expr->Bool
 |.ListComp _ _ _ _=>true|.SetComp _ _ _ _=>true|.DictComp _ _ _ _ _=>true
 |_=>false
theorem jJ(h:fP e=false):swapsWith e t l env=pure false:=by cases e<;>first|rfl|cases h
theorem Hy(j:fP e=false)(f:PDe X e (aF C ma)):PDs X W (.Expr e pos) (iJ C (.ex ma)):=by refine(sT (jJ j) f).imp λD k g=>?_;obtain⟨y,h,q⟩:=g;obtain⟨z,d,h⟩:=bnd h;cases h;exact⟨z,d,q⟩
theorem EO(j:PDe X e (aF C ma)):PDs X W (.Return (some e) pos) (iJ C (.ret ma)):=by refine(wK j).imp λD k f=>?_;obtain⟨y,h,q⟩:=f;obtain⟨z,w,d,g,h⟩:=bn2 h;cases h;exact⟨z,d,w.1,w.2,g,q⟩
theorem Hz(k:PDt X c (gq C mc))(l:PDss X W s1 (kT C ma'))(j:PDss X W s2 (kT C mb')):PDs X W (.If c s1 s2 pos) (iJ C (.iff mc ma' mb')):=by
 refine(AZ k l j).imp λD n g=>?_;obtain⟨y,h,q⟩:=g;obtain⟨z,f,h⟩:=bnd h;refine⟨z,f,?_⟩;by_cases d:z.1=true
 ·rw[if_pos d]at h ⊢;exact⟨y,h,q⟩
 ·rw[if_neg d]at h ⊢;exact⟨y,h,q⟩
theorem yR(k:X.N.Nodup)(s:Sto X W m i x)(n:swapsWith e (some (.Name x pos')) pos.line X.env=pure false)(f:PDe X e (aF C ma)):PDs X W (.Assign [.Name x pos'] e pos) (iJ C (.set i ma)):=by refine(wL s.nw k s.hN s.loc n s.fn f).imp λD o g=>?_;obtain⟨y,h,q⟩:=g;obtain⟨z,w,_,d,l,j,h⟩:=bn3 h;cases h;exact⟨z,d,w.1,w.2,l,gd_ok j,q⟩
theorem ER(n:swapsWithSole [tg] e pos.line X.env=pure false)(o:swappedStores [tg] e X.env=pure none)(l:isStar tg=false)(s:PDe X e (aF C ma))(k:PDg X W m tg (iO t)):PDs X W (.Assign [tg] e pos) (iJ C (.asg t ma)):=by refine(wQ n o (by cases tg<;>first|rfl|cases l) s k).imp λD u g=>?_;obtain⟨y,h,q⟩:=g;obtain⟨z,w,d,f,r,j,h⟩:=bn3 h;cases h;exact⟨z,f,w.1,w.2,r,d,j,q⟩
theorem xm(v:PassesOwn (model X.prog X.w) X.A X.env X.xe)(G:PDt X cc (gq C mc))(k:PDss X W sts (kT C mss)):PDs X W (.While cc sts [] pos) (iJ C (.whl mc mss)):=by
 refine(qy v G k).imp λD l B=>?_;obtain⟨y,h,q⟩:=B;refine⟨λn l=>cC (aP C mc) (aD C mss) n l=some y,⟨C.wf,h⟩,λn l d=>?_⟩;cases n with
 |zero=>cases d
 |succ n=>
  obtain⟨z,u,d⟩:=bnd d;refine⟨z,u,?_⟩;by_cases s:z.1=true
  ·rw[if_pos s]at d ⊢;obtain⟨w,g,d⟩:=bnd d;obtain⟨r,j⟩:=w;refine⟨λf=>f=j/\(r=.nx\/r=.ct),λf ⟨k,t⟩=>?_,?_⟩
   ·subst k;refine⟨n,abm n,?_⟩;rcases t with rfl|rfl<;>exact d
   ·cases r with
    |nx=>exact⟨_,g,rfl,.inl rfl⟩
    |bk=>cases d;exact⟨_,g,q⟩
    |ct=>exact⟨_,g,rfl,.inr rfl⟩
    |rt o=>cases d;exact⟨_,g,q⟩
  ·rw[if_neg s]at d ⊢;cases d;exact q
theorem ES(hp:PassesOwn (model X.prog X.w) X.A X.env X.xe)(hc:X.calm=true)(hs:∀x,foldedSetIterable iter X.env x=pure x)(hi:PDi X tg iter (fN C mi))(hg:PDg X W m tg (iO t))(hb:PDss X W sts (kT C mss)):PDs X W (.For tg iter sts [] pos) (iJ C (.fr t mi mss)):=by
 obtain⟨_,j,s1⟩:=hi;obtain⟨_,k,s2⟩:=hg;obtain⟨_,h3,s3⟩:=hb;refine⟨_,z5 hp hc j k h3 hs,λb F σ H T N M Dd D hK n R ⟨y,h,q⟩ E=>?_⟩;obtain⟨x,e1,h⟩:=bnd h;refine s1 b F σ H T N M (λds f=>ds=x.1/\f=x.2) _ hK R ⟨x,e1,rfl,rfl⟩ λJ H1 ds r Z Y U nr R1 it hZ=>?_;obtain⟨j,k⟩:=hZ;subst j k;refine⟨λi mm σ H=>mm=x.1.length-i/\i<=x.1.length/\∃T,Rel b F σ H T (Z++N) (Y++M)/\bp (λd f=>(bc t (.fz d) f).bind λr=>aD C mss r) (x.1.drop i) T=some y,⟨_,rfl,aaB _,_,R1,h⟩,?_⟩;rintro i mm L H2 ⟨rfl,hi,I,R2,B⟩;obtain⟨go,O⟩:=it F L H2 I N M R2 i;by_cases u:i<x.1.length
 ·obtain⟨g1,g2⟩:=go u;have ed:x.1[i]?=some x.1[i]:=aak u;have ee:x.1.drop i=x.1[i]::x.1.drop (i+1):=abN u;rw[ee]at B;obtain⟨w,e2,B⟩:=bnd B;obtain⟨S,e3,e2⟩:=bnd e2;obtain⟨Q,s⟩:=w;refine .inr ⟨g1,λg G=>∃f,Rel b F g G f (Z++N) (Y++M)/\bp (λd f=>(bc t (.fz d) f).bind λr=>aD C mss r) (x.1.drop (i+1)) f=some y,λg G ⟨f,l,w'⟩=>⟨_,by omega,rfl,u,f,l,w'⟩,λz H3 hy=>?_⟩;have R3:=g2 z H3 x.1[i] hy ed;refine s2 b F L H3 I (Z++N) (Y++M) z _ (λf=>f=S) _ hK (NoRf.app nr.weak n) R3 ⟨S,e3,rfl⟩ λa0 H4 f R4 _ h4=>?_;subst h4;refine s3 b F a0 H4 _ (Z++N) (Y++M) ⟨λf=>Q=.nx/\f=s,λo f=>Q=.rt o/\f=s,λf=>Q=.bk/\f=s,λf=>Q=.ct/\f=s⟩ _ hK (NoRf.app nr.weak n) R4 ⟨_,e2,by cases Q<;>exact⟨rfl,rfl⟩⟩ ⟨λg G f l ⟨j,k⟩=>?_,λg G f l ⟨j,k⟩=>?_,λg G f l ⟨j,k⟩=>?_,λg G f v o l ⟨j,k⟩=>?_⟩
  ·subst j k;exact⟨_,l,B⟩
  ·subst j k;cases B;exact E.nx g G _ (l.drops U) q
  ·subst j k;exact⟨_,l,B⟩
  ·subst j k;cases B;exact E.rt g G _ v o (Rel.drops (Rel.z4 l U) U) q
 ·have e:i=x.1.length:=by omega
  subst e;rw[aca]at B;cases B;exact .inl ⟨O rfl,E.nx L H2 I (R2.drops U) q⟩
end
end
section
section
variable{prog:Program}{w:World}{A:Around}{E:Value->Shared->Prop}{s:Shared}
theorem kU{T d:String}(g:s.TypeIs a T)(k:s.TypeIs b T)
  (h:typeLookup (.type T) (dunderI "add")=pure (some (.builtin d))) (i:isSeqSlotId d=true) (c:fillsNumberSlot (.type T) "add"=pure false)
  (l:wpAny (model prog w) A (call (.builtin d) [a,b]) Q E s):wpAny (model prog w) A (inplaceOp .Add a b) Q E s:=by
 unfold inplaceOp;refine wpAny_holding ?_;have e:fillsInplaceSlot (.type T) "add" (Operator.Add==.Add)=pure false:=by unfold fillsInplaceSlot;show (typeLookup (.type T) (dunderI "add") >>= λj=>pure (j.isSome&&!isSeqSlot j))=pure false;rw[h];show (pure (true&&!isSeqSlotId d):Sem Bool)=_;rw[i];rfl
 have f:seqSlot? (.type T) (dunderI "add")=pure (some (.builtin d)):=PySem.seqSlot_of h i;refine wpAny_bind (wpAny_typeOf g (wpAny_bind (wpAny_of_eq e ?_)));show wpAny (model prog w) A (if false=true then _ else _) Q E s;rw[if_neg aad];refine wpAny_bind (binaryOp1_none g k c ?_);refine wpAny_bind (wpAny_of_eq f ?_);exact wpAny_bind (wpAny_rule l)
end
section
variable{X:Cx}{K:Waa}{e:Expr}{da:DE}{pos pos':Pos}{x:Str}{i:Nat}
def ipL:TIp:=λx y H Q=>∃l b a c,x=.ref l/\y=.ref b/\H l=some (.lst a)/\H b=some (.lst c)/\a.length+c.length<=sizeLine/\Q (.ref l) (upd H l (.lst (a++c)))
theorem xo:C3 X .Add ipL:=by
 intro k s D H x y v u Q I w t h;obtain⟨l,b,J,L,rfl,rfl,j,A,o,q⟩:=h;cases w;cases t;obtain⟨z,c,n,r,C,e⟩:=I.vl j;obtain⟨G,a,B,m,p,g⟩:=I.vl A;have f:c.toArray.size+a.toArray.size<=sizeLine:=by rw[aaw,aaw];omega
 have d:¬ (!c.toArray.isEmpty&&Builtin.List.listTooLong (c.toArray.size+a.toArray.size))=true:=by rw[ky f,Bool.and_false];exact aad
 refine kU ⟨_,e,rfl⟩ ⟨_,g,rfl⟩ F.slot_list_iadd.lookup (by decide +kernel) noFill_list_add ?_;refine call_meets F.slot_list_iadd ⟨_,e,rfl⟩ F.entry_list_iadd (F.args_list_iadd_2 _ _)
  (AutoSeq1.list___iadd___list_list_0 l c.toArray n b a.toArray B d (by rw[aaw];omega) (by omega)) ⟨e,g,?_⟩
 refine⟨.ref l,_,I.lset j e (by simp) (r.append m) ?_,rfl,q⟩;rw[aaf];exact o
end
section
variable{X:Cx}{W:Nat->Prop}{m:Nat}{C:Ct}{a b c e:Expr}{es:List Expr}{sts s1 s2:List Stmt}{st:Stmt}{ma mb mc:E}{mes:Es}{ms:S'}{mss ma' mb':Ss}{pos p p1 p2 p3 pos' apos cpos:Pos}{x:Str}{i:Nat}
theorem ET(hN:X.N.Nodup)(s:Sto X W m i x)(A:PDe X e (aF C ma)):PDs X W (.AugAssign (.Name x pos') (opOf o) e pos) (iJ C (.aug i o ma)):=by
 have j:∀(f:Operator) (g:Int->Int->Int),C3 X f (Gu g)->(∀a d r,w8 o a d=some r->∃k,d=.int k/\r=g a k)->PDs X W (.AugAssign (.Name x pos') f e pos) (iJ C (.aug i o ma)):=λf g ho Z=>by
  obtain⟨_,h,s1⟩:=A;refine⟨_,rK hN s.hN s.loc h ho s.fn,λb F S H B Q M Dd D T n R ⟨y,h,q⟩ E=>?_⟩;obtain⟨x0,d0,u,l,O,I,h⟩:=bn3 h;rw[gZ O,aQ I]at l
  ·obtain⟨z,dk,r,L,J,er,h⟩:=bn3 h;cases h;obtain⟨k,rfl,rfl⟩:=Z _ _ _ er;obtain⟨v,U,w⟩:=R.slot (join_some l);have hv:=w.dt rfl;cases hv;have hi:i<B.length:=(aai.mp (join_some l)).1;refine⟨_,U,s1 b F S H B Q M (λr t=>r=z.1/\t=z.2) _ T R ⟨z,L,rfl,rfl⟩ λv H1 r a0 G hZ=>?_⟩;obtain⟨A,Y⟩:=hZ;subst A Y;have hm:=G.dt J;cases hm;have hl:i<z.2.length:=by rw[<-G.wf.len,R.wf.len];exact hi
   exact⟨u,k,rfl,rfl,E.nx _ H1 _ ((G.drop.sc (.int (g u k))).store n hl s.nw) q⟩
 have nil:∀f,(∀a d,w8 o a d=none)->PDs X W (.AugAssign (.Name x pos') f e pos) (iJ C (.aug i o ma)):=λf hn=>by refine⟨_,rE,λb F S H B Q M Dd D T n R ⟨y,h,q⟩ E=>?_⟩;obtain⟨x0,d0,u,z,dk,l,O,I,L,J,h⟩:=bn5 h;rw[hn]at h;cases h
 cases o with
 |add=>exact j _ _ zW λa d r h=>by cases d<;>cases h;exact⟨_,rfl,rfl⟩
 |sub=>exact j _ _ zX λa d r h=>by cases d<;>cases h;exact⟨_,rfl,rfl⟩
 |_=>exact nil _ λa d=>rfl
theorem Wd.unpL0{b:Bs}(w:Wd b H ((v,.lst cs)::L)):∃a vs,v=.ref a/\H a=some (.lst vs)/\vs.length=cs.length/\Wd b H (vs.zip cs++L):=by
 obtain⟨l,g,j,f⟩:=w.out;have h:=w.q7 g;cases g with
 |@cons _ _ A _ _ B0 r t=>
  cases r with
  |@lst a vs _ B h1 h2=>have d:∀c,(c∈B++B0\/b.S0 c)->(c∈a::B++B0\/b.S0 c):=λc z=>z.imp (λz=>by simp at z ⊢;exact .inr z) id;exact⟨a,vs,rfl,h1,h2.len,⟨⟨_,Ows.step (Kp.refl _ _) (λc z=>.inl (d c z)) h (λ_ _=>rfl) (OwL.il (OwL.j2 h2) t),(aaF.mp j).2,λc k=>f c (aal _ k)⟩,w.fr,w.s0,w.nt⟩⟩
theorem set_same{d:Type}{l:List d}{x:d}(h:l[i]?=some x):l.set i x=l:=br h
theorem EU(hN:X.N.Nodup)(s:Sto X W m i x)(f:PDe X e (aF C ma)):PDs X W (.AugAssign (.Name x pos') .Add e pos) (iJ C (.agl i ma)):=by
 obtain⟨_,h,s1⟩:=f;refine⟨_,rK hN s.hN s.loc h xo s.fn,λb F k H ρ T O Dd D hK n R ⟨y,h,q⟩ E=>?_⟩;obtain⟨x0,Y,z,M,x1,e0,f0,Z,I,J,h⟩:=bn5 h;obtain⟨xs,_,f1,L,h⟩:=bn2 h;cases h;have L:=gd_ok L;have I:=tK I;rw[eC f1]at J;obtain⟨v,j⟩:=R.wf.get (join_some e0);refine⟨v,j,s1 b F k H ρ T O (λr t=>r=z.1/\t=z.2) _ hK R ⟨z,Z,rfl,rfl⟩ λu H1 r a0 B hZ=>?_⟩;obtain⟨f,o⟩:=hZ;subst f o;rw[I]at B;obtain⟨bd,G,rfl,hB,d,w2⟩:=Wd.unpL0 B.wd;have Q:Rel b F k H1 z.2 (G++T) (M.map OR.val++O):=Rel.spread (Rel.drop B) d w2;obtain⟨v',g,w⟩:=Q.open d J;rw[j]at g;cases g;obtain⟨l,U,ch,hH,hl,go⟩:=w.sx (ks:=[]) d rfl;cases ch;refine⟨l,bd,U,G,rfl,rfl,hH,hB,aat (by omega:_<=1000000) (by decide),?_⟩;show D.nx (k.set i (some (.ref l))) _;rw[set_same j];have w3:=go (U++G) (xs++M) λS H A C nt f o nd=>⟨A++C,Ows.append f o,nd,λc hc=>aam.mp hc⟩
 exact E.nx k _ _ (Rel.close (Q.rest d) j w3) q
end
end
section
section
variable{b:Bs}{S S':Addr->Prop}{H H1 H':Hp}{L L':List (V×OD)}{v u u' w w':V}{x y z z' y':OD}{d:PyData}{ks:List Nat}{k:Nat}
theorem Chn.det(h:Chn b H v x ks u y)(h':Chn b H v x ks u' y'):u=u'/\y=y':=by
 induction ks generalizing v x with
 |nil=>cases h;cases h';exact⟨rfl,rfl⟩
 |cons k ks j=>
  cases h with
  |cons f c=>
   cases h' with
   |cons i e=>obtain⟨a,g⟩:=Chd.det f i;subst a g;exact j c e
theorem Chn.snoc(h:Chn b H v x ks u y)(c:Chd b H u y k w z):Chn b H v x (ks++[k]) w z:=by
 induction ks generalizing v x with
 |nil=>cases h;exact .cons c .nil
 |cons k ks f=>cases h with|cons e a=>exact .cons e (f a)
theorem Chn.unsnoc(h:Chn b H v x (ks++[k]) w z):∃u y,Chn b H v x ks u y/\Chd b H u y k w z:=by
 induction ks generalizing v x with
 |nil=>cases h with|cons c t=>cases t;exact⟨_,_,.nil,c⟩
 |cons k ks i=>
  cases h with
  |cons f a=>obtain⟨u,y,g,e⟩:=i a;exact⟨u,y,.cons f g,e⟩
theorem OD.n7:∀{ks:List Nat}{x:OD},x.at ks=some y->y.kids[k]?=some z->x.at (ks++[k])=some z
 |[],x,e,h=>by simp only[OD.at]at e;cases e;simp[OD.at,h]
 |j::ks,x,e,h=>by
  simp only[OD.at,aaJ]at e ⊢;cases a:x.kids[j]? with
  |none=>rw[a]at e;cases e
  |some q=>rw[a]at e;exact OD.n7 e h
theorem setKid_self(h:x.kids[k]?=some z):OD.eo k z x=x:=by cases x<;>simp only[OD.kids]at h<;>first|(simp at h;done)|(simp only[OD.eo];rw[br h])
theorem OD.kn:∀{ks:List Nat}{x:OD},x.at ks=some y->OD.put y ks x=x
 |[],x,e=>by simp only[OD.at]at e;cases e;rfl
 |j::ks,x,e=>by
  simp only[OD.at,OD.put]at e ⊢;cases a:x.kids[j]? with
  |none=>rfl
  |some q=>rw[a]at e;simp only;rw[OD.kn e];exact setKid_self a
theorem path_at:∀{ps:List Acc}{ρ:DEnv}{i:Nat}{p:OD×List Nat×OD},ck ρ i ps=some p->ρ[i]?.join=some p.1/\p.1.at p.2.1=some p.2.2
 |[],ρ,i,p,h=>by obtain⟨x,c,h⟩:=bnd h;cases h;exact⟨c,rfl⟩
 |a::ps,ρ,i,p,h=>by obtain⟨q,k,z,c,j,e,h⟩:=bn3 h;cases h;obtain⟨g,f⟩:=path_at c;exact⟨g,OD.n7 f e⟩
theorem Wd.way(w:Wd b H ((v,x)::L))(e:x.at ks=some y):∃u,Chn b H v x ks u y:=by
 obtain⟨h,a,g,c⟩:=w.out;cases a with
 |cons r t=>obtain⟨u,B,i,f,_⟩:=Ow.path r e;exact⟨u,f⟩
theorem Wd.kidAt(w:Wd b H ((v,x)::L))(e:x.at ks=some y)(ch:Chn b H v x ks u y)(f:y.kids[k]?=some z):∃q,Chd b H u y k q z:=by obtain⟨q,c⟩:=w.way (OD.n7 e f);obtain⟨u',y',i,g⟩:=Chn.unsnoc c;obtain⟨a,h⟩:=Chn.det ch i;subst a h;exact⟨q,g⟩
def Ext(H H':Hp):Prop:=∀a o,H a=some o->H' a=some o
theorem Ext.refl(H:Hp):Ext H H:=λ_ _ h=>h
theorem Ext.trans(h:Ext H H1)(h':Ext H1 H'):Ext H H':=λa o e=>h' a o (h a o e)
theorem Ext.upd(e:H p=none):Ext H (upd H p o):=λa q h=>by
 by_cases z:a=p
 ·subst z;rw[e]at h;cases h
 ·rw[upd_ne z];exact h
theorem Chd.ext(E:Ext H H')(h:Chd b H v x k w z):Chd b H' v x k w z:=by
 cases h with
 |lst a f e c=>exact .lst (E _ _ a) f e c
 |tup a f e c=>exact .tup (E _ _ a) f e c
 |dic a f g e c=>exact .dic (E _ _ a) f g e c
 |obj a f g e c=>exact .obj (E _ _ a) f g e c
theorem Chn.ext(E:Ext H H')(h:Chn b H v x ks u y):Chn b H' v x ks u y:=by
 induction ks generalizing v x with
 |nil=>cases h;exact .nil
 |cons k ks e=>cases h with|cons c a=>exact .cons (c.ext E) (e a)
end
def HA(K:Waa)(e:TE)(i:Nat)(ps:List Acc):Prop:=∀(b:Bs) (F:List Fr) (a:St) (H:Hp) (c:DEnv) (d:List V) (f:List OR) (Q:VK) (p:OD×List Nat×OD),b.K=K->Rel b F a H c d f->ck c i ps=some p->(∀v u,a[i]?=some (some v)->Chn b H v p.1 p.2.1 u p.2.2->Q u H)->e a H Q
inductive PDp (X:Cx)(e:Expr)(i:Nat)(ps:List Acc):Prop|mk (te:TE) (h:PE X e te) (s:HA X.K te i ps)
inductive PX (X:Cx)(e:Expr)(f:St->Option V):Prop|mk (te:TE) (h:PE X e te) (s:∀σ H (Q:VK) v,f σ=some v->Q v H->te σ H Q)
section
variable{X:Cx}{C:Ct}{a e e2:Expr}{es:List Expr}{ma mb:E}{mes:Es}{pos p p1 p2:Pos}{x:Str}{i j:Nat}{ps:List Acc}{k:Int}
theorem EV:PX X (.Constant (.int k) j pos) (λ_=>some (.int k)):=⟨_,lM,λb H Q v e q=>by cases e;exact q⟩
theorem HB(c:X.N[i]?=some x) (f:Vis X.env.scope x) (d:(x==("__debug__":Str))=false) (b:(x==("__classdict__":Str))=false):PX X (.Name x pos) (λσ=>σ[i]?.join):=⟨_,cP c f d b,λσ H Q v e q=>⟨v,join_some e,q⟩⟩
theorem HC(m:X.N[i]?=some x) (f:Vis X.env.scope x) (l:(x==("__debug__":Str))=false) (c:(x==("__classdict__":Str))=false):PDp X (.Name x pos) i []:=
 ⟨_,cP m f l c,λb F r H s o n Q p t R h q=>by
  obtain⟨y,g,h⟩:=bnd h;cases h;obtain⟨v,d⟩:=R.wf.get (join_some g);exact⟨v,d,q v v d .nil⟩⟩
theorem tS{b:Type}{xs:List b}{i:Int}{k:Nat}{y:b}(c:xs.length=n)(h:ixN n i=some k)(e:xs[k]?=some y):atI xs i=some y:=by subst c;unfold atI;rw[h];exact e
theorem EW(I:PlainIx e2)(L:∀{b:Bs}{F:List Fr}{σ:St}{H:Hp}{ρ:DEnv}{τ:List V}{θ:List OR}{x:OD}{k:Nat},Rel b F σ H ρ τ θ->accN ρ x G=some k->∃n,f σ=some (.int n)/\((∃xs,x=.lst xs/\ixN xs.length n=some k)\/∃xs,x=.tup xs/\ixN xs.length n=some k)):PDp X e i ps->PX X e2 f->PDp X (.Subscript e e2 pos) i (G::ps)
 |⟨te,h,s⟩,⟨_,o,s2⟩=>⟨_,yA rY h o I,λb F σ H ρ τ θ Q p M R c q=>by
  obtain⟨r,k,z,A,e2,B,c⟩:=bn3 c;cases c;refine s b F σ H ρ τ θ _ r M R A λv u m t=>?_;obtain⟨J,o⟩:=path_at A;obtain⟨U,d,w⟩:=R.slot (join_some J);rw[m]at d;cases d;obtain⟨g,y⟩:=w.kidAt o t B;obtain⟨n,D,N⟩:=L R e2;refine s2 σ H _ _ D ?_;obtain⟨T,S,O⟩:=r;simp only at *;rcases N with ⟨xs,rfl,l⟩|⟨xs,rfl,l⟩
  ·cases y with
   |@lst a vs _ _ _ _ f1 f2 f3 f4=>exact .inl ⟨a,vs,n,g,rfl,rfl,SqL.of f1,tS f2 l f3,q v g m (t.snoc (.lst f1 f2 f3 f4))⟩
  ·cases y with
   |@tup a vs _ _ _ _ f1 f2 f3 f4=>exact .inr (.inl ⟨a,vs,n,g,rfl,rfl,SqT.of f1,tS f2 l f3,q v g m (t.snoc (.tup f1 f2 f3 f4))⟩)⟩
theorem HD(l:PlainIx e2)(h:PDp X e i ps)(g:PX X e2 (λ_=>some (.int k))):PDp X (.Subscript e e2 pos) i (.ix k::ps):=
 EW l (λ{b F o H q m r x n} R c=>by
  obtain⟨d,f,c⟩:=bnd c;exact⟨k,rfl,(Bi f).imp (λe=>⟨d,e,c⟩) λe=>⟨d,e,c⟩⟩) h g
theorem Rel.keyS{k:Key}(R:Rel b F σ H ρ τ θ)(e:ρ[j]?.join=some (.fz d))(hk:keyOf d=some k):σ[j]?.join=some (kV k):=by obtain⟨v,c,w⟩:=R.slot (join_some e);have f:=w.dt rfl;rw[c];cases d<;>cases hk<;>cases f<;>rfl
theorem jK{k:Key}:∀{ws:List (Key×V)}{n:Nat}{w:V},(ws.map (·.1)).findIdx? (λq=>decide (q=k))=some n->(ws[n]?).map (·.2)=some w->valV ws k=some w
 |[],_,_,e,_=>by simp at e
 | (g,q)::ws,n,w,e,h=>by
  rw[aap,abc]at e;by_cases b:g=k
  ·subst b;simp at e;subst e;simp at h;subst h;exact cR rfl
  ·simp[b]at e;obtain⟨f,c,e2⟩:=e;subst e2;have d:(ws.map (·.1)).findIdx? (λq=>decide (q=k))=some f:=by rw[List.findIdx?_map];exact c
   have:=jK d (by simpa using h);simp only[valV]at this ⊢;rw[aaU];simp only[b,decide_false];exact this
theorem EX(O:X.A.units+1<cLine)(J:NoSl e2):PDp X e i ps->PX X e2 (λσ=>σ[j]?.join)->PDp X (.Subscript e e2 pos) i (.key j::ps)
 |⟨te,h,s⟩,⟨_,g,s2⟩=>⟨_,we O h g J,λb F σ H ρ τ θ Q p S R c q=>by
  obtain⟨r,k,z,n,e2,G,c⟩:=bn3 c;cases c;refine s b F σ H ρ τ θ _ r S R n λv u l B=>?_;obtain⟨L,g⟩:=path_at n;obtain⟨Z,f,w⟩:=R.slot (join_some L);rw[l]at f;cases f;obtain⟨m,D⟩:=w.kidAt g B G;obtain⟨Y,U,T⟩:=r;simp only at *;obtain⟨y,d,uu,N,t,M,o,I,e2⟩:=bn4 e2;rw[gZ M]at t;refine s2 σ H _ _ (R.keyS t I) ?_;cases D with
  |@dic a ws _ _ _ _ _ f1 f2 f5 f3 f4=>cases o;refine⟨a,m,rfl,?_,q v m l (B.snoc (.dic f1 f2 f5 f3 f4))⟩;have:=DGet.k (k:=N) f1;rw[jK (by rw[f2];exact e2) f3]at this;exact this
  |_=>cases o⟩
end
section
variable{b:Bs}{F:List Fr}{σ:St}{H H':Hp}{ρ:DEnv}{τ us:List V}{θ:List OR}{v u:V}{i:Nat}{ps:List Acc}{p:OD×List Nat×OD}{d:PyData}
theorem Rel.y2{x z:OD}{ks:List Nat}(R:Rel b F σ H ρ τ θ)(j:ρ[i]?.join=some x)(f:x.at ks=some z)(ev:σ[i]?=some (some v))(ch:Chn b H v x ks u z)(g:z.dat=some d):Rel b F σ H (ρ.set i (some (OD.put (.fz d) ks x))) (u::τ) (.val (.fz d)::θ):=by obtain⟨k,a,w⟩:=R.slot (join_some j);rw[ev]at a;cases a;obtain⟨l,c,h⟩:=w.uk f g;obtain⟨e,_⟩:=Chn.det ch c;subst e;exact Rel.back (τ:=u::τ) (θ:=.val (.fz d)::θ) R.wf R.al R.wff ev (h.perm (List.Perm.swap _ _ _))
theorem Rel.partZ{x:OD}{ks:List Nat}(R:Rel b F σ H ρ τ θ)(a:ρ[i]?.join=some x)(c:x.at ks=some (.fz d))(ev:σ[i]?=some (some v))(ch:Chn b H v x ks u (.fz d)):Rel b F σ H ρ (u::τ) (.val (.fz d)::θ):=by have:=R.y2 a c ev ch (d:=d) rfl;rw[OD.kn c,set_self (join_some a)]at this;exact this
theorem Rel.part(R:Rel b F σ H ρ τ θ)(e:ck ρ i ps=some p)(ev:σ[i]?=some (some v))(ch:Chn b H v p.1 p.2.1 u p.2.2)(a:p.2.2.dat=some d):Rel b F σ H (ρ.set i (some (OD.put (.fz d) p.2.1 p.1))) (u::τ) (.val (.fz d)::θ):=R.y2 (path_at e).1 (path_at e).2 ev ch a
theorem Rel.partF(R:Rel b F σ H ρ τ θ)(e:ck ρ i ps=some p)(ev:σ[i]?=some (some v))(ch:Chn b H v p.1 p.2.1 u p.2.2)(a:p.2.2=.fz d):Rel b F σ H ρ (u::τ) (.val (.fz d)::θ):=by obtain⟨c,f⟩:=path_at e;have:=R.part e ev ch (by rw[a];rfl);rw[<-a,OD.kn f,set_self (join_some c)]at this;rw[a]at this;exact this
end
end
section
section
variable{X:Cx}{C:Ct}{a e e2:Expr}{es:List Expr}{ma mb:E}{mes:Es}{pos p p1 p2:Pos}{x:Str}{i j:Nat}{ps:List Acc}{k:Int}
theorem HE:PDp X e i ps->PDe X e (aF C (.pg i ps))
 |⟨te,h,s⟩=>⟨te,h,λb F σ H ρ τ θ n Q l R ⟨y,h,q⟩ k=>by
  obtain⟨r,c,h⟩:=bnd h;refine s b F σ H ρ τ θ _ r l R c λv u f m=>?_;obtain⟨d,g,h⟩:=bnd h;cases h;exact k u H _ _ (R.partF c f m (gZ g)) q⟩
theorem nS(l:aP C m=(vt (ev C m)).2)(g:∀ρ x,ev C m ρ=some x->∃k,x.1=.val (.fz (.bool k))):∀ρ Q,gq C m ρ Q->fZ (aF C m) ρ Q:=λρ Q ⟨y,h,q⟩=>by
 have b:((ev C m ρ).bind λx=>(au x.2 x.1).bind λd=>(tH d).bind λk=>some (k,x.2))=some y:=by rw[<-h,l];rfl
 obtain⟨z,c,b⟩:=bnd b;obtain⟨k,f⟩:=g ρ z c;rw[f]at b;cases b;exact⟨z,c,k,by rw[f];rfl,q⟩
theorem SndT.imp{K:Waa}(s:SndT K te d)(f:∀ρ Q,d' ρ Q->d ρ Q):SndT K te d':=λb F h H ρ g n l Q c R m q=>s b F h H ρ g n l Q c R (f _ _ m) q
theorem jL{k:Key}:∀{ws:List (Key×V)},(valV ws k).isSome=(ws.map (·.1)).any λq=>decide (q=k)
 |[]=>rfl
 | (g,q)::ws=>by
  have c:=jL (k:=k) (ws:=ws);by_cases b:g=k
  ·subst b;rw[cR rfl];simp
  ·simp only[valV]at c ⊢;rw[aaU];simp only[b,decide_false,aap,aaY,ab1];exact c
def Bz(b:Bool)(c d:TE):TE:=if b then nz c d else DD c d
theorem tT{c:Bool}(G:X.A.units+1<cLine)(B:behindInMarks (coOf (if c then .nin else .inn)) e=false):PDe X a (aF C ma)->PDp X e i ps->PDe X (.Compare a [coOf (if c then .nin else .inn)] [e] pos) (aF C (.din c ma i ps))/\PDt X (.Compare a [coOf (if c then .nin else .inn)] [e] pos) (gq C (.din c ma i ps))
 |⟨ta,f,s1⟩,⟨te,h,s⟩=>by
  have hp:PE X (.Compare a [coOf (if c then .nin else .inn)] [e] pos) (Bz c ta te):=by
   cases c with
   |true=>exact jl (iX G f h) B
   |false=>exact jl (so G f h) B
  have L:PT X (.Compare a [coOf (if c then .nin else .inn)] [e] pos) (tB (Bz c ta te)):=by
   cases c with
   |true=>exact jn (iX G f h) B
   |false=>exact jn (so G f h) B
  have S:bZ X.K (Bz c ta te) (aF C (.din c ma i ps)):=by
   refine λb F l H T O N Qd Q Y R ⟨y,h,q⟩ k=>?_;obtain⟨z,dx,r,kk,uu,Z,e1,e2,ek,D,h⟩:=bn5 h;have D:=jI D
   ·cases h;have go:∀v g I d,Rel b F l g d (v::O) (I::N)->(I=z.1/\d=z.2)->te l g λx H2=>∃a o,x=.ref a/\DGet H2 a v o/\Q (.bl (if c then !o.isSome else o.isSome)) H2:=λv g I d t ⟨f,n⟩=>by
     subst f n;refine s b F l g _ _ _ _ r Y t e2 λv' u ev ch=>?_;obtain⟨f,n⟩:=path_at e2;obtain⟨v2,m,w⟩:=t.slot (join_some f);rw[ev]at m;cases m;rw[D]at n ch;obtain⟨ad,ws,U,hH,J,hl,_⟩:=Wd.ub (us:=[]) (zs:=[]) w rfl n;obtain⟨e5,_⟩:=Chn.det ch U;subst e5;have hv:=t.dt e1;have M:v=kV kk:=by cases dx<;>cases ek<;>cases hv<;>rfl
     subst M;refine⟨ad,_,rfl,DGet.k hH,?_⟩;rw[jL,J];exact k _ g _ _ (t.drop.sc (.bl _)) q
    cases c with
    |true=>exact s1 b F l H T O N (λr d=>r=z.1/\d=z.2) _ Y R ⟨z,Z,rfl,rfl⟩ go
    |false=>exact s1 b F l H T O N (λr d=>r=z.1/\d=z.2) _ Y R ⟨z,Z,rfl,rfl⟩ go
  refine⟨⟨_,hp,S⟩,⟨_,L,(mq S).imp (nS rfl λT x h=>?_)⟩⟩;obtain⟨z,dx,r,kk,uu,Z,e1,e2,ek,D,h⟩:=bn5 h;cases h;exact⟨_,rfl⟩
end
def HF(K:Waa)(i:TE)(f:DEnv->Option PyData):Prop:=∀(b:Bs) (F:List Fr) (e:St) (H:Hp) (c:DEnv) (g:List V) (h:List OR) (Q:VK) (d:PyData),b.K=K->Rel b F e H c g h->f c=some d->(∀v a,Ext H a->Rel b F e a c (v::g) (.val (.fz d)::h)->Q v a)->i e H Q
inductive PDq (X:Cx)(e:Expr)(f:DEnv->Option PyData):Prop|mk (te:TE) (h:PE X e te) (s:HF X.K te f)
def EY(K:Waa)(k:TA)(f:DEnv->Option (List PyData)):Prop:=∀(b:Bs) (F:List Fr) (g:St) (H:Hp) (e:DEnv) (i:List V) (j:List OR) (Q:List V->Hp->Prop) (h:List PyData),b.K=K->Rel b F g H e i j->f e=some h->(∀c a,Ext H a->c.length=h.length->Rel b F g a e (c++i) (h.map (λd=>OR.val (.fz d))++j)->Q c a)->k g H Q
inductive PDqs (X:Cx)(es:List Expr)(f:DEnv->Option (List PyData)):Prop|mk (te:TA) (h:PA X es te) (s:EY X.K te f)
section
variable{X:Cx}{C:Ct}{a e e2:Expr}{es:List Expr}{ma mb:E}{mes:Es}{pos p p1 p2:Pos}{x:Str}{i j:Nat}{ps:List Acc}{k:Int}
end
end
section
section
variable{b:Bs}{S:Addr->Prop}{H:Hp}{vs us:List V}{xs zs:List OD}{A B C:List Addr}{v:V}{z:OD}
theorem Ows.addA(nt:∀c xs,H c=some (.tup xs)->¬ S c)(f:Ows b S H vs xs A)(a:Ows b S H us zs C)(d:(A++C).Nodup):∃D,Ows b S H (vs++us) (xs++zs) D/\D.Nodup/\∀c∈D,c∈A\/c∈C:=⟨A++C,Ows.append f a,d,λc e=>aam.mp e⟩
theorem Ows.one(h:Ows b S H [v] [z] C):Ow b S H v z C:=by
 cases h with
 |cons r t=>cases t;rw[aan];exact r
theorem Ows.setA(l:j<xs.length)(f:Ows b S H vs xs A)(i:Ows b S H [v] [z] C)(k:(A++C).Nodup):∃D,Ows b S H (vs.set j v) (xs.set j z) D/\D.Nodup/\∀c∈D,c∈A\/c∈C:=by
 obtain⟨q,d,B,e,m,rfl,n,g⟩:=f.zip (aak l);refine⟨d++(C++e),g i.one λ_ h=>h,?_,λc a=>?_⟩
 ·have p:((d++(B++e))++C).Perm (B++(d++(C++e))):=by refine((bI d B e).append_right C).trans ?_;rw[aac];refine aba B ?_;rw[aac];exact aba d aa0
  exact(aaA.mp (p.nodup_iff.mp k)).2.1
 ·simp only[aam]at a ⊢;rcases a with a|a|a
  ·exact .inl (.inl a)
  ·exact .inr a
  ·exact .inl (.inr (.inr a))
theorem nT(e:ws.length=xs.length):(putK ws k v).map (·.1)=(a9 k d (ws.map (·.1)) xs).1:=by
 unfold putK a9;rw[List.any_map];have f:((λq=>decide (q=k)) ∘ λx:Key×V=>x.1)=λc=>decide (c.1=k):=rfl;rw[f];by_cases a:(ws.any λc=>decide (c.1=k))=true
 ·rw[if_pos a,if_pos a,aaQ];refine acu λq _=>?_;simp only[Function.comp];split<;>rfl
 ·rw[if_neg a,if_neg a,aau];rfl
theorem kW(h:Fz b.K S H v d):∀{ws:List (Key×V)}{xs:List OD}{A:List Addr},Ows b S H (ws.map (·.2)) xs A->∃D,Ows b S H ((ws.map (λc=>if c.1=k then (c.1,v) else c)).map (·.2)) (List.zipWith (λq x=>if q=k then .fz d else x) (ws.map (·.1)) xs) D/\D.Sublist A
 |[],_,_,.nil=>⟨[],.nil,List.Sublist.refl _⟩
 | (g,q)::ws,x::xs,_,.cons (A:=A1) r t=>by
  obtain⟨D,f,e⟩:=kW h t;simp only[aap,acv];by_cases a:g=k
  ·rw[if_pos a,if_pos a];exact⟨[]++D,.cons (.fz h) f,(aaD D).symm▸e.trans (List.sublist_append_right _ _)⟩
  ·rw[if_neg a,if_neg a];exact⟨A1++D,.cons r f,(List.Sublist.refl A1).append e⟩
theorem kX(l:Ows b S H (ws.map (·.2)) xs A)(n:Ows b S H [v] [.fz d] C)(o:(A++C).Nodup):∃D,Ows b S H ((putK ws k v).map (·.2)) (a9 k d (ws.map (·.1)) xs).2 D/\D.Nodup/\∀c∈D,c∈A\/c∈C:=by
 have h:Fz b.K S H v d:=by cases n with|cons r t=>cases r with|fz f=>exact f
 have i:=(aaA.mp o).1;unfold putK a9;rw[List.any_map];have m:((λq=>decide (q=k)) ∘ λx:Key×V=>x.1)=λe=>decide (e.1=k):=rfl;rw[m];by_cases a:(ws.any λe=>decide (e.1=k))=true
 ·rw[if_pos a,if_pos a];obtain⟨D,p,j⟩:=kW h l;exact⟨D,p,j.nodup i,λc g=>.inl (j.subset g)⟩
 ·rw[if_neg a,if_neg a,aau];exact⟨A++[],Ows.append l (.cons (.fz h) .nil),by simpa using i,λc g=>.inl (by simpa using g)⟩
end
section
variable{X:Cx}{W:Nat->Prop}{m:Nat}{C:Ct}{a b c e e2 kx:Expr}{es:List Expr}{sts s1 s2:List Stmt}{st:Stmt}{ma mb mc mk':E}{mes:Es}{ms:S'}{mss ma' mb':Ss}{pos p p1 p2 p3 pos' apos cpos:Pos}{x:Str}{i j:Nat}{ps:List Acc}
theorem BA{o i:Expr}(h:bS i=false):∀v,assign (.Subscript o i pos) env v=(do
   let ov <-holding [v] (eval o env)
   let iv <-holding [v,ov] (eval i env)
   standAt pos
   holding [v,ov,iv] (setItem ov iv v)
   release [v,ov,iv] []):=by
 cases i<;>first|(intro _;rfl)|cases h
theorem BB{env:Env}(h:isStar e=false):((backTo cpos (starEach [e] env)).all (λx=>!x.1)&&(backToKw cpos (keywordEach [] env)).all (λx=>x.1.isSome)
   && decide ([e].length+([]:List Keyword).length+(if ([]:List Keyword).isEmpty then 0 else 1)<30))=true:=by
 cases e<;>first|rfl|cases h
theorem Rel.cell{b:Bs}{τ:List V}{x:OD}(R:Rel b F σ H ρ τ θ)(n:ρ[i]?.join=some x)(o:x.at ks=some (.lst xs))(ev:σ[i]?=some (some v))(ch:Chn b H v x ks u (.lst xs)):∃l vs,u=.ref l/\H l=some (.lst vs):=by obtain⟨r,d,q⟩:=R.slot (join_some n);rw[ev]at d;cases d;obtain⟨k,g,h,f,_,_⟩:=Wd.sx (us:=[]) (zs:=[]) q rfl o;exact⟨k,g,(Chn.det ch h).1,f⟩
theorem Rel.zb{b:Bs}{F:List Fr}(R:Rel b F σ H ρ τ θ)(d:ρ[i]?.join=some (.lst xs)):∃v,σ[i]?=some (some v)/\∃l vs,v=.ref l/\H l=some (.lst vs):=by obtain⟨v,f⟩:=R.wf.get (join_some d);exact⟨v,f,R.cell d rfl f .nil⟩
theorem Rel.addAt{b:Bs}{x o:OD}{v d:V}(R:Rel b F σ H ρ (d::τ) (.val o::θ))(u:ρ[i]?.join=some x)(r:x.at ks=some (.lst xs))(ev:σ[i]?=some (some v))(ch:Chn b H v x ks (.ref l) (.lst xs))(D:xs.length<1000000):
  ∃vs,H l=some (.lst vs)/\vs.length<sizeLine/\Rel b F σ (upd H l (.lst (vs++[d]))) (ρ.set i (some (OD.put (.lst (xs++[o])) ks x))) τ θ:=by
 obtain⟨G,f,w⟩:=Rel.open (us:=[d]) (zs:=[o]) R rfl u;rw[ev]at f;cases f;obtain⟨z,vs,g,y,B,q⟩:=w.sx rfl r;obtain⟨h,_⟩:=Chn.det ch g;cases h;exact⟨vs,y,aay (by omega) (by decide:1000001<=sizeLine),Rel.close (Rel.rest (us:=[d]) (zs:=[o]) R rfl) ev (q (vs++[d]) (xs++[o]) λS H A C k t n s=>Ows.addA k t n s)⟩
theorem EZ(hN:X.N[i]?=some x) (L:Vis X.env.scope x) (T:(x==("__debug__":Str))=false) (t:(x==("__classdict__":Str))=false) (d:(apos.endLine==cpos.line)=true) (l:isStar e=false):
  PDe X e (aF C ma)->PDs X W (.Expr (.Call (.Attribute (.Name x pos') "append" apos) [e] [] cpos) pos) (iJ C (.app i ma))
 |⟨_,h,s⟩=>⟨_,jo (r6 acw PySem.F.slot_list_append PySem.F.type_list_append iU (cP hN L T t) (dJ h gF (aL l)) rfl (BB l) d (aL l) (cX rfl)) rfl,λb F σ H ρ τ θ Dd D hK n R ⟨y,h,q⟩ E=>by
  obtain⟨x0,J,z,o,x1,B,f0,O,e2,A,h⟩:=bn5 h;obtain⟨xs,_,Q,S,h⟩:=bn2 h;cases h;rw[eC f0]at B;rw[eC Q]at A;obtain⟨v,w,u,k,rfl,g⟩:=R.zb B;refine⟨.ref u,w,.inl ⟨rfl,k,SqL.of g⟩,?_⟩;refine s b F σ H ρ τ θ (λr f=>r=z.1/\f=z.2) _ hK R ⟨z,O,rfl,rfl⟩ λG H1 r U R1 hZ=>?_;obtain⟨Y,I⟩:=hZ;subst Y I;obtain⟨vs,hH,M,Z⟩:=Rel.addAt (R1.own1 e2) A rfl w .nil (gd_ok S);exact⟨u,vs,G,rfl,rfl,hH,M,E.nx σ _ _ Z q⟩⟩
theorem HG(h:isStar e=false)(h':isStar e2=false):((backTo cpos (starEach [e,e2] env)).all (λx=>!x.1)&&(backToKw cpos (keywordEach [] env)).all (λx=>x.1.isSome)
   && decide ([e,e2].length+([]:List Keyword).length+(if ([]:List Keyword).isEmpty then 0 else 1)<30))=true:=by
 rw[aL h,aL h'];rfl
theorem Ows.za{b:Bs}(f:Fz b.K S H v d):∀(k:Nat) {vs:List V}{xs:List OD}{A:List Addr},Ows b S H vs xs A->Ows b S H (vs.take k++v::vs.drop k) (xs.take k++.fz d::xs.drop k) A
 |0,_,_,A,h=>.cons (A:=[]) (.fz f) h
 |_+1,_,_,_,.nil=>.cons (.fz f) .nil
 |k+1,_,_,_,.cons r t=>.cons r (Ows.za f k t)
theorem E1(hN:X.N[i]?=some x) (hv:Vis X.env.scope x) (hd:(x==("__debug__":Str))=false) (Q:(x==("__classdict__":Str))=false) (o:(apos.endLine==cpos.line)=true) (hs:isStar kx=false) (f:isStar e=false):
  PDe X kx (aF C mk')->PDe X e (aF C ma)->PDs X W (.Expr (.Call (.Attribute (.Name x pos') "insert" apos) [kx,e] [] cpos) pos) (iJ C (.ins i mk' ma))
 |⟨_,h0,s0⟩,⟨_,h,s⟩=>⟨_,jo (r6 acw PySem.F.slot_list_insert PySem.F.type_list_insert qi (cP hN hv hd Q) (dJ h0 (dJ h gF (aL f)) (aL hs)) rfl (HG hs f) o (aL hs) (cX (by simp[f]))) rfl,λb F σ H ρ τ θ Dd D hK n R ⟨y,h,q⟩ E=>by
  obtain⟨x0,a2,G,z,dk,e0,f0,e1,e2,e3,h⟩:=bn5 h;obtain⟨k,d,_,x1,xs,e4,e5,M,eb,f1,h⟩:=bn5 h;obtain⟨_,I,h⟩:=bnd h;cases h;have I:=gd_ok I;have M:=gd_ok M;rw[eC f0]at e0;rw[eC f1]at eb;rw[aQ e4]at e3;obtain⟨v,U,l0,O,rfl,Y⟩:=R.zb e0;refine⟨.ref l0,U,.inl ⟨rfl,O,SqL.of Y⟩,?_⟩;refine s0 b F σ H ρ τ θ (λr g=>r=G.1/\g=G.2) _ hK R ⟨G,e1,rfl,rfl⟩ λv0 H1 r a0 R1 T=>?_;obtain⟨t,J⟩:=T;subst t J;refine s b F σ H1 G.2 (v0::τ) (G.1::θ) (λr g=>r=z.1/\g=z.2) _ hK R1 ⟨z,e2,rfl,rfl⟩ λu H2 r a1 L T=>?_;obtain⟨t,J⟩:=T;subst t J;cases L.dt2 e3;have sc:Sc u d:=by have hh:=L.dt e5;cases hh<;>first|constructor|cases M
  obtain⟨v',B,w⟩:=Rel.open (us:=[]) (zs:=[]) L.drop.drop rfl eb;rw[U]at B;cases B;obtain⟨l,Z,ch,hH,hl,go⟩:=w.sx (ks:=[]) rfl rfl;cases ch;have w3:=go (Z.take k.toNat++u::Z.drop k.toNat) (xs.take k.toNat++.fz d::xs.drop k.toNat) λS H A C nt t J nd=>⟨A,Ows.za sc.fz _ t,(aaA.mp nd).1,λc hc=>.inl hc⟩
  exact⟨l0,Z,k,u,rfl,rfl,hH,I.1,by rw[hl];exact I.2.1,by rw[hl];exact I.2.2,E.nx σ _ _ (Rel.close L.drop.drop U w3) q⟩⟩
theorem Rel.moved{b:Bs}{F:List Fr}(R:Rel b F σ H ρ τ θ)(e:ρ[j]?.join=some y):∃v,σ[j]?=some (some v)/\Rel b F σ H (ρ.set j none) (v::τ) (.val y::θ):=by
 obtain⟨v,f⟩:=R.wf.get (join_some e);have g:Rel b F σ H ρ (v::τ) (.rf j::θ):=⟨R.wf,⟨f,R.al⟩,R.wff,R.wd⟩
 obtain⟨_,_,w⟩:=R.slot (join_some e);rename_i h d;rw[f]at d;cases d;exact⟨v,f,⟨R.wf.off,R.al,R.wff,w⟩⟩
theorem E2(hN:X.N[i]?=some x) (hv:Vis X.env.scope x) (hd:(x==("__debug__":Str))=false) (I:(x==("__classdict__":Str))=false) (L:bS kx=false) (hs:swapsWith e (some (.Subscript (.Name x pos') kx p2)) pos.line X.env=pure false) (hw:swappedStores [.Subscript (.Name x pos') kx p2] e X.env=pure none):
  PDe X e (aF C ma)->PDe X kx (aF C mk')->PDs X W (.Assign [.Subscript (.Name x pos') kx p2] e pos) (iJ C (.sti i mk' ma))
 |⟨_,g,s1⟩,⟨_,d,s2⟩=>⟨_,rJ g (zT (cP hN hv hd I) d set_list (BA L)) hs hw rfl,λb F σ H ρ τ θ Dd D Y n R ⟨y,h,q⟩ E=>by
  obtain⟨z,o,e1,e2,h⟩:=bn2 h;refine s1 b F σ H ρ τ θ (λr f=>r=z.1/\f=z.2) _ Y R ⟨z,e1,rfl,rfl⟩ λu H1 r a1 R1 J=>?_;obtain⟨g,d⟩:=J;subst g d;have Q:=R1.own1 e2;obtain⟨x0,a0,t,dk,k,e0,f0,e3,O,fk,h⟩:=bn5 h;obtain⟨x1,xs,M,T,f1,U,h⟩:=bn3 h;rw[aQ fk]at O;rw[eC f1]at T
  ·obtain⟨v,B⟩:=Q.wf.get (join_some e0);refine⟨v,B,s2 b F σ H1 _ _ _ (λr f=>r=t.1/\f=t.2) _ Y Q ⟨t,e3,rfl,rfl⟩ λv2 H2 r a2 G J=>?_⟩;obtain⟨g,d⟩:=J;subst g d
   ·cases h;have L:=G.dt O;cases L;obtain⟨v',s,w⟩:=Rel.open (us:=[u]) (zs:=[o.1]) G.drop rfl T;rw[B]at s;cases s;obtain⟨l,Z,ch,hH,hl,go⟩:=w.sx (ks:=[]) rfl rfl;cases ch;refine⟨l,Z,k,M,rfl,rfl,hH,by rw[hl];exact U,?_⟩;exact E.nx σ _ _ (Rel.close (Rel.rest (us:=[u]) (zs:=[o.1]) G.drop rfl) B (go (Z.set M u) (xs.set M o.1) λS H A C nt g d nd=>Ows.setA (AV U) g d nd)) q⟩
theorem E3(hu:X.A.units+1<cLine) (hN:X.N[i]?=some x) (hv:Vis X.env.scope x) (hd:(x==("__debug__":Str))=false) (L:(x==("__classdict__":Str))=false) (hs:swapsWith e (some (.Subscript (.Name x pos') kx p2)) pos.line X.env=pure false):
  PDe X e (aF C ma)->PDe X kx (aF C mk')->PDs X W (.Assign [.Subscript (.Name x pos') kx p2] e pos) (iJ C (.sdk i mk' ma))
 |⟨_,g,s1⟩,⟨_,d,s2⟩=>⟨_,wg hu (cP hN hv hd L) d g hs,λb F σ H ρ τ θ Dd D hK n R ⟨y,h,q⟩ E=>by
  obtain⟨z,o,e1,e2,h⟩:=bn2 h;refine s1 b F σ H ρ τ θ (λr f=>r=z.1/\f=z.2) _ hK R ⟨z,e1,rfl,rfl⟩ λB H1 r a0 R1 M=>?_;obtain⟨g,d⟩:=M;subst g d;have U:=R1.frz1 e2;obtain⟨x0,_,t,kd,Y,e0,f0,e3,e4,e5,h⟩:=bn5 h;obtain⟨x1,uu,_,Z,f1,I,h⟩:=bn3 h;have I:=gd_ok I;rw[jI f1]at Z
  ·obtain⟨v,G⟩:=U.wf.get (join_some e0);refine⟨v,G,s2 b F σ H1 _ _ _ (λr f=>r=t.1/\f=t.2) _ hK U ⟨t,e3,rfl,rfl⟩ λv2 H2 r a1 J M=>?_⟩;obtain⟨g,d⟩:=M;subst g d
   ··cases h
     have hk:=J.dt e4;have O:v2=kV Y:=by cases kd<;>cases e5<;>cases hk<;>rfl
     subst O;obtain⟨v',u,w⟩:=Rel.open (us:=[B]) (zs:=[.fz o.1]) J.drop rfl Z;rw[G]at u;cases u;obtain⟨l,ws,ch,hH,s,Q,T⟩:=w.ub (ks:=[]) rfl rfl;cases ch;obtain⟨ks,xs⟩:=uu;simp only at s Q q T I;subst s;refine⟨l,_,rfl,DPut.k hH (aay (by omega) (by decide:1000001<=sizeLine)),?_⟩;exact E.nx σ _ _ (Rel.close (Rel.rest (us:=[B]) (zs:=[.fz o.1]) J.drop rfl) G (T (putK ws Y B) _ _ (nT Q) λS H A C nt g d nd=>kX g d nd)) q⟩
theorem nU{K:Waa}{H:Hp}:∀{xs:List V}{ds:List PyData}{ns:List Int},DtAll K H xs ds->gW ds=some ns->xs=ns.map V.int
 |[],_,ns,.nil,e=>by cases e;rfl
 |_::_,_::_,ns,.cons h t,e=>by obtain⟨i,r,d,e2,e⟩:=bn2 e;cases e;rw[aQ d]at h;cases h;rw[nU t e2];rfl
theorem BC{r:OR}{ds:List PyData}(h:Hl r=some ds):r=.val (.fz (.tuple ds)):=by
 unfold Hl at h;split at h
 ·cases h;rfl
 ·cases h
theorem E4{o1 J:Expr}{p3:Pos}(g:(apos.endLine==cpos.line)=true)(w:isStar e=false):PDe X (.Subscript o1 J p3) (aF C mk')->PDe X e (aF C ma)->PDe X (.Call (.Attribute (.Subscript o1 J p3) "index" apos) [e] [] cpos) (aF C (.idx mk' ma))
 |⟨_,h1,s1⟩,⟨_,h2,s2⟩=>⟨_,r6 PySem.F.plainAttrs_tuple PySem.F.slot_tuple_index PySem.F.type_tuple_index qI h1 (dJ h2 gF (aL w)) rfl (BB w) g (aL w) (cX rfl),λb F σ H ρ τ θ Qd Q k R ⟨y,h,q⟩ kk=>by
  obtain⟨x,I,z,d,n,N,e2,M,G,e5,h⟩:=bn5 h;obtain⟨ns,j,L,e7,h⟩:=bn2 h;cases h;refine s1 b F σ H ρ τ θ (λr f=>r=x.1/\f=x.2) _ k R ⟨x,N,rfl,rfl⟩ λv O r U D B=>?_;obtain⟨A,s⟩:=B;subst A s;rw[BC e2]at D;have T:=D.dt (d:=.tuple I) rfl;cases T with
  |@tup a xs _ hq hall=>
   rw[k]at hq;refine⟨.inr (.inl ⟨rfl,_,hq⟩),?_⟩;refine s2 b F σ O _ _ _ (λr f=>r=z.1/\f=z.2) _ k D ⟨z,M,rfl,rfl⟩ λu H2 r Z t B=>?_;obtain⟨A,s⟩:=B;subst A s;rw[aQ e5]at G;have hu:=t.dt G;cases hu;have l:=t.drop.dt (d:=.tuple I) rfl;cases l with
   |@tup _ xs2 _ hq2 hall2=>
    rw[k]at hq2;rw[nU hall2 L]at hq2;obtain⟨Y,p1,p2⟩:=acx.mp e7;refine⟨a,ns,n,j,rfl,rfl,hq2,?_,λm S o=>?_,kk _ H2 _ _ (t.drop.drop.sc (.int j)) q⟩
    ·rw[aak Y,Daa p1]
    ·obtain⟨hl,o⟩:=aai.mp o;exact p2 m S (Dac o)⟩
theorem E5(U:X.A.units+1<cLine) (hN:X.N[i]?=some x) (hv:Vis X.env.scope x) (hd:(x==("__debug__":Str))=false) (S:(x==("__classdict__":Str))=false) (l:(apos.endLine==cpos.line)=true) (hs:isStar e=false):PDe X e (aF C ma)->PDe X (.Call (.Attribute (.Name x pos') "get" apos) [e] [] cpos) (aF C (.dgt i ma))
 |⟨_,h,s⟩=>⟨_,sr U (cP hN hv hd S) h ⟨rfl,BB hs,l,by rw[aL hs];rfl⟩,λb F σ H ρ τ θ Qd Q hK R ⟨y,h,q⟩ kk=>by
  obtain⟨x0,q0,z,d,k,a0,a1,e1,e2,e3,h⟩:=bn5 h;obtain⟨x1,Y,w,O,e5,n,h⟩:=bn3 h;cases h;rw[jI a1]at a0;rw[jI e5]at O;obtain⟨v,J,w0⟩:=R.slot (join_some a0);obtain⟨ad,ws,ch,hH,_⟩:=Wd.ub (us:=[]) (zs:=[]) (ks:=[]) w0 rfl rfl;cases ch;refine⟨_,J,ad,rfl,.inl ⟨ws,.inl hH⟩,?_⟩;refine s b F σ H ρ τ θ (λr M=>r=z.1/\M=z.2) _ hK R ⟨z,e1,rfl,rfl⟩ λu H1 r a2 I hZ=>?_;obtain⟨g1,g2⟩:=hZ;subst g1 g2;obtain⟨v2,B,w2⟩:=I.slot (join_some O);rw[J]at B;cases B;obtain⟨a3,f,L,t,g,o,_⟩:=Wd.ub (us:=[]) (zs:=[]) (ks:=[]) w2 rfl rfl;cases L;have U:=I.dt e2;have T:u=kV k:=by cases d<;>cases e3<;>cases U<;>rfl
  subst T;refine⟨_,DGet.k t,?_⟩;unfold dgV at n;cases G:Y.1.findIdx? (λq=>decide (q=k)) with
  |none=>
   rw[G]at n;cases n;have hn:valV f k=none:=by have:=jL (k:=k) (ws:=f);rw[g,acy.mp G |> λz=>(List.any_eq_false.mpr λa ha=>by rw[z a ha];decide)]at this;exact Option.isSome_eq_false_iff.mp this |> Option.isNone_iff_eq_none.mp
   rw[hn];exact kk _ H1 _ _ (I.drop.sc .non) q
  |some j=>
   rw[G]at n;obtain⟨zz,D,e8⟩:=bnd n;rw[gZ e8]at D;have hj:j<f.length:=by rw[o];exact(aai.mp D).1
   have Z:(f[j]?).map (·.2)=some f[j].2:=by rw[aak hj];rfl
   rw[jK (by rw[g];exact G) Z];exact kk _ H1 _ _ (Rel.partZ I.drop (ks:=[j]) O (by show (match Y.2[j]? with|some z=>OD.at [] z|none=>none)=_;rw[D];rfl) J (.cons (.dic t g o Z D) .nil)) q⟩
inductive Dsp:List (Str×Int)->List (Option Expr)->List Expr->Prop
 |nil:Dsp [] [] []
 |cons {x n j k p p' ks es vs}:Dsp ks es vs->Dsp ((x,n)::ks) (some (.Constant (.str x) j p)::es) (.Constant (.int n) k p'::vs)
abbrev KL(ks:List (Str×Int)):List (TE×TE):=ks.map λz=>(tC (.str z.1),tC (.int z.2))
abbrev KM(ks:List (Str×Int)):List (Key×V):=ks.map λz=>(.inr z.1,.int z.2)
theorem Dsp.all{ks:List (Str×Int)}{es:List (Option Expr)}{vs:List Expr}(h:Dsp ks es vs):es.all (·.isSome)=true/\es.length=vs.length/\es.length=ks.length:=by
 induction h with
 |nil=>exact⟨rfl,rfl,rfl⟩
 |cons _ d=>exact⟨by simp[d.1],by simp[d.2.1],by simp[d.2.2]⟩
end
end
section
section
variable{X:Cx}{C:Ct}{a e e2:Expr}{es:List Expr}{ma mb:E}{mes:Es}{pos p p1 p2 apos:Pos}{x:Str}{i j:Nat}{k n:Nat}{f:Addr}{fd:FuncData}{ps:List Str}{sp:DSp}{c m:Str}{ff:Nat}
def spC(g:List OD->Option (OD×List OD)):DSp:=λb Q=>∃w,g b=some w/\Q w.1 w.2
theorem tU(g:List OD->Option (OD×List OD)):wt (spC g):=λb P R h ⟨w,e,q⟩=>⟨w,e,h _ _ q⟩
end
end
section
def cH(e:PySem.Expr):Option (Str):=if h:e.ctorIdx=23 then some (@PySem.Expr.Name.elim (λ_=>Str) e h λx _=>x) else none
theorem asNm_ok{e:PySem.Expr}{z:Str}(h:cH e=some z):∃p,e=.Name z p:=by
 by_cases a:e.ctorIdx=23
 ·revert h;exact@PySem.Expr.Name.elim (λe=>cH e=some z->∃p,e=.Name z p) e a λx p h=>by cases h;exact⟨p,rfl⟩
 ·rw[cH,dif_neg a]at h;cases h
def g8(e:PySem.Expr):Option (Const):=if h:e.ctorIdx=19 then some (@PySem.Expr.Constant.elim (λ_=>Const) e h λc _ _=>c) else none
theorem eV{e:PySem.Expr}{z:Const}(h:g8 e=some z):∃j p,e=.Constant z j p:=by
 by_cases a:e.ctorIdx=19
 ·revert h;exact@PySem.Expr.Constant.elim (λe=>g8 e=some z->∃j p,e=.Constant z j p) e a λc j p h=>by cases h;exact⟨j,p,rfl⟩
 ·rw[g8,dif_neg a]at h;cases h
def nV(e:PySem.Expr):Option (Expr×Operator×Expr):=if h:e.ctorIdx=2 then some (@PySem.Expr.BinOp.elim (λ_=>Expr×Operator×Expr) e h λx o y _=>(x,o,y)) else none
theorem tV(h:nV e=some z):∃p,e=.BinOp z.1 z.2.1 z.2.2 p:=by
 by_cases a:e.ctorIdx=2
 ·revert h;exact@PySem.Expr.BinOp.elim (λe=>nV e=some z->∃p,e=.BinOp z.1 z.2.1 z.2.2 p) e a λx o y p h=>by cases h;exact⟨p,rfl⟩
 ·rw[nV,dif_neg a]at h;cases h
def kY(e:PySem.Expr):Option (Expr×List CmpOp×List Expr):=if h:e.ctorIdx=15 then some (@PySem.Expr.Compare.elim (λ_=>Expr×List CmpOp×List Expr) e h λx a b _=>(x,a,b)) else none
theorem asCmp_ok(h:kY e=some z):∃p,e=.Compare z.1 z.2.1 z.2.2 p:=by
 by_cases a:e.ctorIdx=15
 ·revert h;exact@PySem.Expr.Compare.elim (λe=>kY e=some z->∃p,e=.Compare z.1 z.2.1 z.2.2 p) e a λx b c p h=>by cases h;exact⟨p,rfl⟩
 ·rw[kY,dif_neg a]at h;cases h
def xp(e:PySem.Expr):Option (BoolOp×List Expr×Pos):=if h:e.ctorIdx=0 then some (@PySem.Expr.BoolOp.elim (λ_=>BoolOp×List Expr×Pos) e h λo a p=>(o,a,p)) else none
theorem xq(h:xp e=some z):e=.BoolOp z.1 z.2.1 z.2.2:=by
 by_cases a:e.ctorIdx=0
 ·revert h;exact@PySem.Expr.BoolOp.elim (λe=>xp e=some z->e=.BoolOp z.1 z.2.1 z.2.2) e a λo b p h=>by cases h;exact rfl
 ·rw[xp,dif_neg a]at h;cases h
def qM(e:PySem.Expr):Option (UnaryOp×Expr):=if h:e.ctorIdx=3 then some (@PySem.Expr.UnaryOp.elim (λ_=>UnaryOp×Expr) e h λo x _=>(o,x)) else none
theorem nW{e:PySem.Expr}{z:UnaryOp×Expr}(h:qM e=some z):∃p,e=.UnaryOp z.1 z.2 p:=by
 by_cases a:e.ctorIdx=3
 ·revert h;exact@PySem.Expr.UnaryOp.elim (λe=>qM e=some z->∃p,e=.UnaryOp z.1 z.2 p) e a λo x p h=>by cases h;exact⟨p,rfl⟩
 ·rw[qM,dif_neg a]at h;cases h
def xr(e:PySem.Expr):Option (Expr×Expr×Expr):=if h:e.ctorIdx=5 then some (@PySem.Expr.IfExp.elim (λ_=>Expr×Expr×Expr) e h λc a b _=>(c,a,b)) else none
theorem xu(h:xr e=some z):∃p,e=.IfExp z.1 z.2.1 z.2.2 p:=by
 by_cases d:e.ctorIdx=5
 ·revert h;exact@PySem.Expr.IfExp.elim (λe=>xr e=some z->∃p,e=.IfExp z.1 z.2.1 z.2.2 p) e d λc a b p h=>by cases h;exact⟨p,rfl⟩
 ·rw[xr,dif_neg d]at h;cases h
def cY(e:PySem.Expr):Option (List Expr):=if h:e.ctorIdx=25 then some (@PySem.Expr.Tuple.elim (λ_=>List Expr) e h λa _ _=>a) else none
theorem asTup_ok(h:cY e=some z):∃k p,e=.Tuple z k p:=by
 by_cases a:e.ctorIdx=25
 ·revert h;exact@PySem.Expr.Tuple.elim (λe=>cY e=some z->∃k p,e=.Tuple z k p) e a λb k p h=>by cases h;exact⟨k,p,rfl⟩
 ·rw[cY,dif_neg a]at h;cases h
def nX(e:PySem.Expr):Option (List Expr):=if h:e.ctorIdx=24 then some (@PySem.Expr.List.elim (λ_=>List Expr) e h λa _=>a) else none
theorem tX(h:nX e=some z):∃p,e=.List z p:=by
 by_cases a:e.ctorIdx=24
 ·revert h;exact@PySem.Expr.List.elim (λe=>nX e=some z->∃p,e=.List z p) e a λb p h=>by cases h;exact⟨p,rfl⟩
 ·rw[nX,dif_neg a]at h;cases h
def cZ(e:PySem.Expr):Option (Expr×Expr):=if h:e.ctorIdx=21 then some (@PySem.Expr.Subscript.elim (λ_=>Expr×Expr) e h λx y _=>(x,y)) else none
theorem asSub_ok(h:cZ e=some z):∃p,e=.Subscript z.1 z.2 p:=by
 by_cases a:e.ctorIdx=21
 ·revert h;exact@PySem.Expr.Subscript.elim (λe=>cZ e=some z->∃p,e=.Subscript z.1 z.2 p) e a λx y p h=>by cases h;exact⟨p,rfl⟩
 ·rw[cZ,dif_neg a]at h;cases h
def kZ(e:PySem.Expr):Option (Option Expr×Option Expr×Option Expr):=if h:e.ctorIdx=26 then some (@PySem.Expr.Slice.elim (λ_=>Option Expr×Option Expr×Option Expr) e h λl a s _=>(l,a,s)) else none
theorem tY(h:kZ e=some z):∃p,e=.Slice z.1 z.2.1 z.2.2 p:=by
 by_cases a:e.ctorIdx=26
 ·revert h;exact@PySem.Expr.Slice.elim (λe=>kZ e=some z->∃p,e=.Slice z.1 z.2.1 z.2.2 p) e a λl b s p h=>by cases h;exact⟨p,rfl⟩
 ·rw[kZ,dif_neg a]at h;cases h
def eE(e:PySem.Expr):Option (Expr×List Expr×List Keyword×Pos):=if h:e.ctorIdx=16 then some (@PySem.Expr.Call.elim (λ_=>Expr×List Expr×List Keyword×Pos) e h λf a b p=>(f,a,b,p)) else none
theorem dP(h:eE e=some z):e=.Call z.1 z.2.1 z.2.2.1 z.2.2.2:=by
 by_cases a:e.ctorIdx=16
 ·revert h;exact@PySem.Expr.Call.elim (λe=>eE e=some z->e=.Call z.1 z.2.1 z.2.2.1 z.2.2.2) e a λf b c p h=>by cases h;exact rfl
 ·rw[eE,dif_neg a]at h;cases h
def i4(e:PySem.Expr):Option (Expr×Str×Pos):=if h:e.ctorIdx=20 then some (@PySem.Expr.Attribute.elim (λ_=>Expr×Str×Pos) e h λo f p=>(o,f,p)) else none
theorem asAtt_ok(h:i4 e=some z):e=.Attribute z.1 z.2.1 z.2.2:=by
 by_cases a:e.ctorIdx=20
 ·revert h;exact@PySem.Expr.Attribute.elim (λe=>i4 e=some z->e=.Attribute z.1 z.2.1 z.2.2) e a λo f p h=>by cases h;exact rfl
 ·rw[i4,dif_neg a]at h;cases h
def E6(e:PySem.Expr):Option (List (Option Expr)×List Expr):=if h:e.ctorIdx=6 then some (@PySem.Expr.Dict.elim (λ_=>List (Option Expr)×List Expr) e h λa b _=>(a,b)) else none
def mG(e:PySem.Expr):Option (Expr×List Comprehension×Scope×Pos):=if h:e.ctorIdx=8 then some (@PySem.Expr.ListComp.elim (λ_=>Expr×List Comprehension×Scope×Pos) e h λx a s p=>(x,a,s,p)) else none
theorem nY(h:mG e=some z):e=.ListComp z.1 z.2.1 z.2.2.1 z.2.2.2:=by
 by_cases a:e.ctorIdx=8
 ·revert h;exact@PySem.Expr.ListComp.elim (λe=>mG e=some z->e=.ListComp z.1 z.2.1 z.2.2.1 z.2.2.2) e a λx b s p h=>by cases h;exact rfl
 ·rw[mG,dif_neg a]at h;cases h
def HH:Const->Option Int|.int k=>some k|_=>none
def HI:Const->Option Str|.str k=>some k|_=>none
def HJ:Const->Option Bool|.bool k=>some k|_=>none
def HK:Const->Bool|.none=>true|_=>false
def i5(e:Expr):Option Int:=(g8 e).bind HH
def yS(e:Expr):Option Str:=(g8 e).bind HI
def BD(e:Expr):Option Bool:=(g8 e).bind HJ
def tZ(e:Expr):Bool:=(g8 e).any HK
def IR(e:Expr):Bool:=(E6 e).any λz=>z.1.isEmpty&&z.2.isEmpty
def isTup(e:Expr):Bool:=(cY e).isSome
theorem anyT{b:Type}{o:Option b}{p:b->Bool}(h:o.any p=true):∃a,o=some a/\p a=true:=by
 cases o with
 |none=>cases h
 |some a=>exact⟨a,rfl,h⟩
theorem ay2{α β:Type}{o:Option α}{g1:α->Option β}{f:α->β->Bool}(h:(o.any λa=>(g1 a).any (f a))=true):∃a b,o=some a/\g1 a=some b/\f a b=true:=by obtain⟨a,p0,h⟩:=anyT h;obtain⟨b,p1,h⟩:=anyT h;exact⟨a,b,p0,p1,h⟩
theorem ay3{α β γ:Type}{o:Option α}{g1:α->Option β}{g2:α->β->Option γ}{f:α->β->γ->Bool}(h:(o.any λa=>(g1 a).any λb=>(g2 a b).any (f a b))=true):∃a b c,o=some a/\g1 a=some b/\g2 a b=some c/\f a b c=true:=by obtain⟨a,p0,h⟩:=anyT h;obtain⟨b,p1,h⟩:=anyT h;obtain⟨c,p2,h⟩:=anyT h;exact⟨a,b,c,p0,p1,p2,h⟩
theorem ay4{α β γ δ:Type}{o:Option α}{g1:α->Option β}{g2:α->β->Option γ}{g3:α->β->γ->Option δ}{f:α->β->γ->δ->Bool}(h:(o.any λa=>(g1 a).any λb=>(g2 a b).any λc=>(g3 a b c).any (f a b c))=true):∃a b c d,o=some a/\g1 a=some b/\g2 a b=some c/\g3 a b c=some d/\f a b c d=true:=by obtain⟨a,p0,h⟩:=anyT h;obtain⟨b,p1,h⟩:=anyT h;obtain⟨c,p2,h⟩:=anyT h;obtain⟨d,p3,h⟩:=anyT h;exact⟨a,b,c,d,p0,p1,p2,p3,h⟩
theorem ay5{α β γ δ ε:Type}{o:Option α}{g1:α->Option β}{g2:α->β->Option γ}{g3:α->β->γ->Option δ}{g4:α->β->γ->δ->Option ε}{f:α->β->γ->δ->ε->Bool}(h:(o.any λa=>(g1 a).any λb=>(g2 a b).any λc=>(g3 a b c).any λd=>(g4 a b c d).any (f a b c d))=true):∃a b c d e,o=some a/\g1 a=some b/\g2 a b=some c/\g3 a b c=some d/\g4 a b c d=some e/\f a b c d e=true:=by obtain⟨a,p0,h⟩:=anyT h;obtain⟨b,p1,h⟩:=anyT h;obtain⟨c,p2,h⟩:=anyT h;obtain⟨d,p3,h⟩:=anyT h;obtain⟨e,p4,h⟩:=anyT h;exact⟨a,b,c,d,e,p0,p1,p2,p3,p4,h⟩
theorem an2{a b:Bool}(h:(a&&b)=true):a=true/\b=true:=aa2.mp h
section
variable{e:Expr}
theorem asInt_ok{k:Int}(h:i5 e=some k):∃j p,e=.Constant (.int k) j p:=by obtain⟨c,a,h⟩:=bnd h;obtain⟨j,p,rfl⟩:=eV a;cases c<;>cases h;exact⟨j,p,rfl⟩
theorem asStr_ok(h:yS e=some k):∃j p,e=.Constant (.str k) j p:=by obtain⟨c,a,h⟩:=bnd h;obtain⟨j,p,rfl⟩:=eV a;cases c<;>cases h;exact⟨j,p,rfl⟩
theorem asBl_ok(h:BD e=some k):∃j p,e=.Constant (.bool k) j p:=by obtain⟨c,a,h⟩:=bnd h;obtain⟨j,p,rfl⟩:=eV a;cases c<;>cases h;exact⟨j,p,rfl⟩
theorem g9(h:tZ e=true):∃j p,e=.Constant .none j p:=by obtain⟨c,a,h⟩:=anyT h;obtain⟨j,p,rfl⟩:=eV a;cases c<;>cases h;exact⟨j,p,rfl⟩
theorem eW(h:isTup e=true):∃xs k p,e=.Tuple xs k p:=by obtain⟨z,a⟩:=abi.mp h;obtain⟨k,p,rfl⟩:=asTup_ok a;exact⟨z,k,p,rfl⟩
end
theorem an3(h:(a&&b&&c)=true):a=true/\b=true/\c=true:=⟨(an2 (an2 h).1).1,(an2 (an2 h).1).2,(an2 h).2⟩
theorem an4(h:(a&&b&&c&&d)=true):a=true/\b=true/\c=true/\d=true:=⟨(an3 (an2 h).1).1,(an3 (an2 h).1).2.1,(an3 (an2 h).1).2.2,(an2 h).2⟩
theorem an5(h:(a&&b&&c&&d&&e)=true):a=true/\b=true/\c=true/\d=true/\e=true:=⟨(an4 (an2 h).1).1,(an4 (an2 h).1).2.1,(an4 (an2 h).1).2.2.1,(an4 (an2 h).1).2.2.2,(an2 h).2⟩
theorem bK(h:(!a)=true):a=false:=by cases a<;>first|rfl|cases h
def qN{a:Type}:List a->Option (a×List a)|x::xs=>some (x,xs)|_=>none
theorem con1_ok{a:Type}{l:List a}{x:a×List a}(h:qN l=some x):l=x.1::x.2:=by cases l<;>cases h;rfl
structure Tb where
 fn:Nat->Option Str
 me:Nat->Option (Str×Str)
 mk':Nat->Option Str
 gc:Nat->Option Str
 nog:Str->Bool
 fld:Str->Str->Bool
structure Cy (t:Tb)(C:Ct)(X:Cx):Prop where
 calm:X.calm=true
 units:X.A.units+64<cLine
 guards:X.A.guards=some []
 hfn:∀j nm,t.fn j=some nm->∃k fa fd ps,FnD X.prog X.w X.K X.mg X.base k fa fd ps (spC (C.call j))/\Room k X.A/\X.mg nm=some (.ref fa)/\PySem.W.keepIn X.K (.ref fa)=true/\Binds X.K fd ps []
 hme:∀j c m,t.me j=some (c,m)->Cls X.K (aU X.K c)/\∃k fa fd ps,Meth X.K (aU X.K c) m fa/\FnD X.prog X.w X.K X.mg X.base k fa fd ps (spC (C.call j))/\Room k X.A/\Binds X.K fd ps []
 hmk:∀j c,t.mk' j=some c->∃k fa fd ps,Mk X.K (aU X.K c) fa/\FnD X.prog X.w X.K X.mg X.base k fa fd ps (spC (C.mak j))/\Room (k+1) X.A/\X.mg c=some (.ref (aU X.K c))/\Binds X.K fd ps []
 hgc:∀g nm,t.gc g=some nm->∃v u,X.mg nm=some u/\RelV v u/\∀S H,Fz X.K S H v (C.gv g)
 hng:∀x,t.nog x=true->X.mg x=none
 hfl:∀c f,t.fld c f=true->Cls X.K (aU X.K c)/\fH X.K (aU X.K c) f
theorem Cy.comp(c:Cy t C X):Cy t C (dM X N sc q):=⟨c.calm,c.units,c.guards,c.hfn,c.hme,c.hmk,c.hgc,c.hng,c.hfl⟩
def sEq(x y:Str):Bool:=decide (x=y)
theorem cm(h:sEq x y=true):x=y:=Daa h
def kindB(sc:Scope)(x:Str)(k:NameKind):Bool:=decide (sc.names.lookup x=some k)
theorem aM(h:kindB sc x k=true):sc.names.lookup x=some k:=Daa h
def BE(sc:Scope)(x:Str):Bool:=kindB sc x .local||kindB sc x .cell||kindB sc x .free
def xw(sc:Scope)(x:Str):Bool:=kindB sc x .local||kindB sc x .cell
theorem xx(h:BE sc x=true):Vis sc x:=by
 unfold BE at h;rw[abp,abp]at h;rcases h with (h|h)|h
 ·exact .inl (aM h)
 ·exact .inr (.inl (aM h))
 ·exact .inr (.inr (aM h))
theorem nZ(h:xw sc x=true):Loc sc x:=by
 unfold xw at h;rw[abp]at h;rcases h with h|h
 ·exact .inl (aM h)
 ·exact .inr (aM h)
def okN(x:Str):Bool:=!(x==("__debug__":Str))&&!(x==("__classdict__":Str))
def xy(N:List Str)(sc:Scope)(i:Nat)(x:Str):Bool:=decide (N[i]?=some x)&&BE sc x&&okN x
structure NmX (X:Cx)(i:Nat)(x:Str):Prop where
 n:X.N[i]?=some x
 v:Vis X.env.scope x
 d:(x==("__debug__":Str))=false
 c:(x==("__classdict__":Str))=false
theorem c9(h:xy X.N X.env.scope i x=true):NmX X i x:=by unfold xy okN at h;simp only[aaC,abO]at h;exact⟨Daa h.1.1,xx h.1.2,h.2.1,h.2.2⟩
def E7(N:List Str)(sc:Scope)(i:Nat)(e:Expr):Bool:=(cH e).any λx=>xy N sc i x
theorem mH{N:List Str}(h:E7 N sc i e=true):∃x p,e=.Name x p/\xy N sc i x=true:=by obtain⟨x,a,h⟩:=anyT h;obtain⟨p,rfl⟩:=asNm_ok a;exact⟨x,p,rfl,h⟩
def CN(sc:Scope)(x:Str):Bool:=kindB sc x .globalImplicit&&!(x==("__debug__":Str))
theorem dm(h:CN X.env.scope x=true):Gl X x/\(x==("__debug__":Str))=false:=by unfold CN at h;rw[aaC]at h;exact⟨aM h.1,by simpa using h.2⟩
def BF(t:Tb)(sc:Scope)(x y:Str):Bool:=sEq x y&&CN sc x&&t.nog x
theorem fQ(c:Cy t C X)(h:BF t X.env.scope x y=true):x=y/\Gl X y/\X.mg y=none:=by unfold BF at h;simp only[aaC]at h;obtain⟨⟨d,b⟩,a⟩:=h;have:=cm d;subst this;exact⟨rfl,(dm b).1,c.hng _ a⟩
def HL(o:Bo)(a:Operator):Bool:=decide (a=opOf o)
theorem t9(h:HL o op=true):op=opOf o:=Daa h
def F4(o:Co)(a:CmpOp):Bool:=decide (a=coOf o)
theorem hR(h:F4 o op=true):op=coOf o:=Daa h
def isSet:Expr->Bool
 |.Set _ _ _=>true
 |_=>false
theorem fR(a:CmpOp)(h:isSet e=false):behindInMarks a e=false:=by cases e<;>first|rfl|cases h
theorem jM(h:isSet e=false):∀x,foldedSetIterable e env x=pure x:=by cases e<;>first|(intro _;rfl)|cases h
def isCall:Expr->Bool
 |.Call _ _ _ _=>true
 |_=>false
def xA:UnaryOp->Bool|.USub=>true|_=>false
theorem n5{o:UnaryOp}(h:xA o=true):o=.USub:=by cases o<;>first|rfl|cases h
def IS(k:Int)(e:Expr):Bool:=((i5 e).any λj=>decide (j=k))||(qM e).any λz=>xA z.1&&(i5 z.2).any λj=>decide (-j=k)
section
variable{X:Cx}{k:Int}{e:Expr}
theorem E8{j:Nat}{p a:Pos}:PX X (.UnaryOp .USub (.Constant (.int k) j p) a) (λ_=>some (.int (-k))):=⟨_,yy rN lM,λb H Q v e q=>by cases e;exact⟨k,rfl,q⟩⟩
theorem uc(h:IS k e=true):PX X e (λ_=>some (.int k))/\bS e=false:=by
 rcases abP.mp h with h|h
 ·obtain⟨j,a,h⟩:=anyT h;obtain⟨_,_,rfl⟩:=asInt_ok a;have:=Daa h;subst this;exact⟨EV,rfl⟩
 ·obtain⟨z,a,h⟩:=anyT h;obtain⟨p,rfl⟩:=nW a;obtain⟨j,c,b⟩:=anyT (an2 h).2;obtain⟨_,_,d⟩:=asInt_ok c;have:=Daa b;subst this;rw[n5 (an2 h).1,d];exact⟨E8,rfl⟩
end
def k4(t:Tb)(N:List Str)(sc:Scope)(i:Nat):List Acc->Expr->Bool
 |[]=>λe=>E7 N sc i e
 |.ix k::ps=>λe=>(cZ e).any λz=>IS k z.2&&k4 t N sc i ps z.1
 |.key j::ps=>λe=>(cZ e).any λz=>E7 N sc j z.2&&k4 t N sc i ps z.1
section
variable{t:Tb}{C:Ct}{X:Cx}{i j:Nat}{e:Expr}
theorem yT(h:E7 X.N X.env.scope j e=true):PX X e (λσ=>σ[j]?.join)/\bS e=false:=by obtain⟨x,p,rfl,h⟩:=mH h;obtain⟨d,c,b,a⟩:=c9 h;exact⟨HB d c b a,rfl⟩
theorem HM(h:bS e=false):NoSl e:=by cases e<;>first|exact λ_ _=>rfl|cases h
theorem eX(c:Cy t C X):∀(ps:List Acc) (e:Expr),k4 t X.N X.env.scope i ps e=true->PDp X e i ps
 |[],e,h=>by obtain⟨x,p,rfl,h⟩:=mH h;obtain⟨b,l,g,f⟩:=c9 h;exact HC b l g f
 |.ix k::ps,e,h=>by obtain⟨z,b,k⟩:=anyT h;obtain⟨a,d⟩:=an2 k;obtain⟨p,rfl⟩:=asSub_ok b;exact HD (nO (uc (X:=X) a).2) (eX c ps _ d) (uc a).1
 |.key j::ps,e,h=>by obtain⟨z,b,k⟩:=anyT h;obtain⟨a,d⟩:=an2 k;obtain⟨p,rfl⟩:=asSub_ok b;exact EX (by have:=c.units;omega) (HM (yT a).2) (eX c ps _ d) (yT a).1
end
def k5(a:Nat->Bool)(N:List Str)(sc:Scope)(fn:Bool)(m i:Nat)(x:Str):Bool:=decide (N[i]?=some x)&&xw sc x&&(fn||kindB sc x .local)&&decide (i<m)&&a i
def ud(a:Nat->Bool)(N:List Str)(sc:Scope)(fn:Bool)(m:Nat):List Nat->List Expr->Bool
 |[]=>λes=>es.isEmpty
 |i::is=>λes=>(qN es).any λz=>(cH z.1).any λx=>k5 a N sc fn m i x&&ud a N sc fn m is z.2
def ue(a:Nat->Bool)(N:List Str)(sc:Scope)(fn:Bool)(m:Nat):Tg->Expr->Bool
 |.nm i=>λe=>(cH e).any λx=>k5 a N sc fn m i x
 |.tp ts=>λe=>(cY e).any λes=>ud a N sc fn m ts es
section
variable{X:Cx}{W:Nat->Prop}{ok:Nat->Bool}{fn:Bool}{m:Nat}
theorem dQ{i:Nat}{x:Str}(a:fn=true->∀x,X.fn x=true)(f:∀i,ok i=true->¬ W i)(h:k5 ok X.N X.env.scope fn m i x=true):Sto X W m i x:=by unfold k5 at h;simp only[aaC,abp]at h;obtain⟨⟨⟨⟨g,e⟩,c⟩,b⟩,d⟩:=h;exact⟨Daa g,nZ e,c.imp (λz=>a z x) aM,Daa b,f i d⟩
theorem k6(a:fn=true->∀x,X.fn x=true)(b:∀i,ok i=true->¬ W i):∀(c:List Nat) (es:List Expr),ud ok X.N X.env.scope fn m c es=true->Stos X W m c es
 |[],es,h=>by
  cases es with
  |nil=>exact .nil
  |cons _ _=>cases h
 |i::is,es,h=>by obtain⟨z,x,d,e,k⟩:=ay2 h;obtain⟨p,f⟩:=asNm_ok e;rw[con1_ok d,f];exact .cons (dQ a b (an2 k).1) (k6 a b is _ (an2 k).2)
theorem eY{b:Tg}{e:Expr}(g:X.calm=true)(d:X.N.Nodup)(c:fn=true->∀x,X.fn x=true)(f:∀i,ok i=true->¬ W i)(h:ue ok X.N X.env.scope fn m b e=true):PDg X W m e (iO b):=by
 cases b with
 |nm i=>obtain⟨x,a,k⟩:=anyT h;obtain⟨p,rfl⟩:=asNm_ok a;exact Hw d (dQ c f k)
 |tp l=>obtain⟨j,a,k⟩:=anyT h;obtain⟨_,_,rfl⟩:=asTup_ok a;exact Hx g d (k6 c f _ _ k)
end
def qO(sc a:Scope):Scope:={ sc with names:=sc.names.map λ(n,k)=>if (k==NameKind.free&&a.kind==.function&&a.names.lookup n==some .cell) then (n,NameKind.cell) else (n,k) }
def BG:Expr->List Str
 |.Name x _=>[x]
 |.Tuple [.Name x _,.Tuple es _ _] _ _=>x::es.filterMap fun|.Name x _=>some x|_=>none
 |.Tuple es _ _=>es.filterMap fun|.Name x _=>some x|_=>none
 |_=>[]
def uf(N:List Str)(nt:Nat)(b:List Str)(sc a:Scope):Nat->List Nat->Bool
 |_,[]=>true
 |i,j::fr=>(match N[nt+i]? with
  |some x=>decide (b[j]?=some x)&&kindB a x .cell&&kindB sc x .free
  |none=>false)&&uf N nt b sc a (i+1) fr
def n6(N:List Str)(nt:Nat)(b:List Nat)(c:List Str)(sc a:Scope):Bool:=
 decide (sc.kind=.function)&&sc.names.all (λx=>!decide (x.2=.cell))&&sc.names.all (λx=>!decide (x.2=.local)||kindB sc x.1 .local)&&decide (N.length=nt+b.length)&&uf N nt c sc a 0 b &&
  sc.names.all (λx=>!decide (x.2=.free)||(kindB a x.1 .cell&&kindB sc x.1 .free))
theorem n9:∀{b:List Nat}{a:Nat},uf N nt ON sc osc a b=true->∀(i j:Nat),b[i]?=some j->∃x,N[nt+(a+i)]?=some x/\ON[j]?=some x/\osc.names.lookup x=some .cell/\sc.names.lookup x=some .free
 |[],_,_,i,j,e=>by simp at e
 |j0::b,a,h,0,j,e=>by
  simp at e;subst e;simp only[uf,aaC]at h;obtain⟨h,_⟩:=h;split at h
  ·rename_i x d;simp only[aaC]at h;exact⟨x,d,Daa h.1.1,aM h.1.2,aM h.2⟩
  ·cases h
 |j0::b,a,h,i+1,j,e=>by simp only[uf,aaC]at h;obtain⟨x,f,c⟩:=n9 h.2 i j (by simpa using e);exact⟨x,by rw[show a+(i+1)=a+1+i by omega];exact f,c⟩
theorem hU(h:n6 N nt fr ON sc osc=true):CompScope N nt fr ON sc osc:=by
 unfold n6 at h;simp only[aaC,abq,abp,abO,decide_eq_false_iff_not,decide_eq_true_eq]at h;obtain⟨⟨⟨⟨⟨k,g⟩,d⟩,c⟩,f⟩,b⟩:=h;refine⟨k,λx a=>g x a,λx a e=>?_,c,λi j e=>?_,λx a e=>?_,λx a e=>?_⟩
 ·exact(d x a).elim (λz=>absurd e z) aM
 ·have:=n9 f i j e;rwa [aaV]at this
 ·exact(b x a).elim (λz=>absurd e z) λz=>aM z.1
 ·exact(b x a).elim (λz=>absurd e z) λz=>aM z.2
end
section
abbrev Ck:=List Str->Scope->Expr->Bool
def gu(f:Ck):Ck×Ck:=(f,λN a e=>plainT e&&f N a e)
def Kh:Bn->Str
 |.tuple=>"tuple" |.sorted=>"sorted"
def ug(e:Expr):Option (Str×List Expr):=(eE e).bind λz=>(cH z.1).bind λx=>if z.2.2.1.isEmpty then some (x,z.2.1) else none
theorem gw{z}(h:ug e=some z):∃p a,e=.Call (.Name z.1 p) z.2 [] a:=by
 obtain⟨c,x,g,b,h⟩:=bn2 h;obtain⟨f,i,d,a⟩:=c;cases d with
 |cons _ _=>cases h
 |nil=>cases h;obtain⟨p,rfl⟩:=asNm_ok b;exact⟨p,a,dP g⟩
def xB(e:Expr):Option (Expr×CmpOp×Expr):=(kY e).bind λz=>(eB z.2.1).bind λo=>(eB z.2.2).bind λy=>some (z.1,o,y)
theorem jN{z}(h:xB e=some z):∃p,e=.Compare z.1 [z.2.1] [z.2.2] p:=by obtain⟨c,o,y,f,g,d,h⟩:=bn3 h;cases h;obtain⟨x,i,j⟩:=c;obtain⟨p,rfl⟩:=asCmp_ok f;have a:=one1_ok g;have b:=one1_ok d;simp only at a b;subst a b;exact⟨p,rfl⟩
def cmp2(e:Expr):Option (Expr×(CmpOp×CmpOp)×(Expr×Expr)):=(kY e).bind λz=>(jH z.2.1).bind λo=>(jH z.2.2).bind λy=>some (z.1,o,y)
theorem oa{z}(h:cmp2 e=some z):∃p,e=.Compare z.1 [z.2.1.1,z.2.1.2] [z.2.2.1,z.2.2.2] p:=by obtain⟨c,o,y,f,g,d,h⟩:=bn3 h;cases h;obtain⟨x,i,j⟩:=c;obtain⟨p,rfl⟩:=asCmp_ok f;have a:=two2_ok g;have b:=two2_ok d;simp only at a b;subst a b;exact⟨p,rfl⟩
def BH(a:Bool):CmpOp->Bool
 |.Is=>!a|.IsNot=>a|_=>false
theorem og(h:BH neg o=true):o=if neg then .IsNot else .Is:=by cases o<;>cases neg<;>first|rfl|cases h
def BI:BoolOp->Bool|.And=>true|_=>false
theorem oh(h:BI o=true):o=.And:=by cases o<;>first|rfl|cases h
def HN:BoolOp->Bool|.Or=>true|_=>false
theorem ui(h:HN o=true):o=.Or:=by cases o<;>first|rfl|cases h
def BJ:UnaryOp->Bool|.Not=>true|_=>false
theorem oi(h:BJ o=true):o=.Not:=by cases o<;>first|rfl|cases h
def BK:Operator->Bool|.Add=>true|_=>false
theorem oj(h:BK o=true):o=.Add:=by cases o<;>first|rfl|cases h
def E9:Operator->Bool|.Mult=>true|_=>false
theorem xC(h:E9 o=true):o=.Mult:=by cases o<;>first|rfl|cases h
def yU(e:Expr):Option (Expr×Option Expr×Option Expr):=(cZ e).bind λz=>(kZ z.2).bind λs=>if s.2.2.isNone then some (z.1,s.1,s.2.1) else none
theorem uj{z}(h:yU e=some z):∃p a,e=.Subscript z.1 (.Slice z.2.1 z.2.2 none p) a:=by
 obtain⟨c,s,g,d,h⟩:=bn2 h;obtain⟨x,y⟩:=c;obtain⟨l,i,f⟩:=s;cases f with
 |some _=>cases h
 |none=>cases h;obtain⟨a,rfl⟩:=asSub_ok g;obtain⟨p,b⟩:=tY d;simp only at b;subst b;exact⟨p,a,rfl⟩
def IT(e:Expr):Option Expr:=(cZ e).bind λz=>(kZ z.2).bind λs=>s.2.2.bind λa=>(qM a).bind λu=>(i5 u.2).bind λk=>if (s.1.isNone&&s.2.1.isNone&&xA u.1&&decide (k=1))=true then some z.1 else none
def Fb(e:Expr):Option (Expr×Str×List Expr×Pos×Pos):=(eE e).bind λz=>(i4 z.1).bind λa=>(cZ a.1).bind λx=>if z.2.2.1.isEmpty then some (a.1,a.2.1,z.2.1,a.2.2,z.2.2.2) else none
theorem xD{e:Expr}{z}(h:Fb e=some z):∃o1 n p,z.1=.Subscript o1 n p/\e=.Call (.Attribute z.1 z.2.1 z.2.2.2.1) z.2.2.1 [] z.2.2.2.2:=by
 obtain⟨c,a,x,l,j,i,h⟩:=bn3 h;obtain⟨f,r,k,q⟩:=c;obtain⟨o,m,s⟩:=a;cases k with
 |cons _ _=>cases h
 |nil=>cases h;obtain⟨p,b⟩:=asSub_ok i;have d:=asAtt_ok j;have g:=dP l;simp only at g d b;exact⟨_,_,p,b,by rw[g,d]⟩
def BL(e:Expr):Option (Str×Str×List Expr×Pos×Pos):=(eE e).bind λz=>(i4 z.1).bind λa=>(cH a.1).bind λx=>if z.2.2.1.isEmpty then some (x,a.2.1,z.2.1,a.2.2,z.2.2.2) else none
theorem om{z}(h:BL e=some z):∃p,e=.Call (.Attribute (.Name z.1 p) z.2.1 z.2.2.2.1) z.2.2.1 [] z.2.2.2.2:=by
 obtain⟨c,a,x,i,j,g,h⟩:=bn3 h;obtain⟨f,n,k,l⟩:=c;obtain⟨o,m,q⟩:=a;cases k with
 |cons _ _=>cases h
 |nil=>cases h;obtain⟨p,b⟩:=asNm_ok g;have d:=asAtt_ok j;simp only at d b;subst b;subst d;exact⟨p,dP i⟩
def xE(e:PySem.Expr):Option (Expr×Expr×List Comprehension×Scope×Pos):=if h:e.ctorIdx=10 then some (@PySem.Expr.DictComp.elim (λ_=>Expr×Expr×List Comprehension×Scope×Pos) e h λk x a s p=>(k,x,a,s,p)) else none
theorem xF(h:xE e=some z):e=.DictComp z.1 z.2.1 z.2.2.1 z.2.2.2.1 z.2.2.2.2:=by
 by_cases a:e.ctorIdx=10
 ·revert h;exact@PySem.Expr.DictComp.elim (λe=>xE e=some z->e=.DictComp z.1 z.2.1 z.2.2.1 z.2.2.2.1 z.2.2.2.2) e a λk x b s p h=>by cases h;exact rfl
 ·rw[xE,dif_neg a]at h;cases h
def yV(e:Expr):Option (Expr×Expr×Expr×Expr×List Expr×Scope×Pos):=(xE e).bind λz=>(eB z.2.2.1).bind λg=>if g.is_async=0 then some (z.1,z.2.1,g.target,g.iter,g.ifs,z.2.2.2.1,z.2.2.2.2) else none
theorem um{z}(h:yV e=some z):e=.DictComp z.1 z.2.1 [⟨z.2.2.1,z.2.2.2.1,z.2.2.2.2.1,0⟩] z.2.2.2.2.2.1 z.2.2.2.2.2.2:=by
 obtain⟨c,g,d,f,h⟩:=bn2 h;obtain⟨k,x,m,o,p⟩:=c;obtain⟨n,l,j,i⟩:=g;simp only at h;by_cases b:i=0
 ·subst b;rw[if_pos rfl]at h;cases h;have a:=one1_ok f;simp only at a;rw[xF d,a]
 ·rw[if_neg b]at h;cases h
def yW(e:Expr):Option (Expr×Expr×Expr×List Expr×Scope×Pos):=(mG e).bind λz=>(eB z.2.1).bind λg=>if g.is_async=0 then some (z.1,g.target,g.iter,g.ifs,z.2.2.1,z.2.2.2) else none
theorem k7{z}(h:yW e=some z):e=.ListComp z.1 [⟨z.2.1,z.2.2.1,z.2.2.2.1,0⟩] z.2.2.2.2.1 z.2.2.2.2.2:=by
 obtain⟨c,g,d,f,h⟩:=bn2 h;obtain⟨x,l,n,p⟩:=c;obtain⟨m,k,j,i⟩:=g;simp only at h;by_cases b:i=0
 ·subst b;rw[if_pos rfl]at h;cases h;have a:=one1_ok f;simp only at a;subst a;exact nY d
 ·rw[if_neg b]at h;cases h
end
section
section
variable(t:Tb)
def k8(o:Co)(f g:Ck):Ck:=λN a e=>(xB e).any λz=>F4 o z.2.1&&!isSet z.2.2&&f N a z.1&&g N a z.2.2
def uo(o b:Co)(f g k:Ck):Ck:=λN a e=>(cmp2 e).any λz=>F4 o z.2.1.1&&F4 b z.2.1.2&&!isSet z.2.2.2&&(f N a z.1&&g N a z.2.2.1&&k N a z.2.2.2)
def yX(a:Bool)(f:Ck):Ck:=λN b e=>(xB e).any λz=>BH a z.2.1&&tZ z.2.2&&f N b z.1
def uq(b:BoolOp->Bool)(f g:Ck):Ck:=λN a e=>(xp e).any λz=>b z.1&&((qN z.2.1).any λx=>(qN x.2).any λy=>f N a x.1&&bif y.2.isEmpty then g N a y.1 else g N a (.BoolOp z.1 x.2 z.2.2))
def xG(b:UnaryOp->Bool)(f:Ck):Ck:=λN a e=>(qM e).any λz=>b z.1&&f N a z.2
def oo(b:Operator->Bool)(f g:Ck):Ck:=λN a e=>(nV e).any λz=>b z.2.1&&f N a z.1&&g N a z.2.2
def jO(p:Str->Bool)(f:List Str->Scope->List Expr->Bool):Ck:=λN a e=>(ug e).any λz=>p z.1&&CN a z.1&&!z.2.isEmpty&&!z.2.any isStar&&f N a z.2
def jP(p:Str)(f:Ck):Ck:=λN a e=>(ug e).any λz=>(eB z.2).any λx=>BF t a z.1 p&&!isStar x&&f N a x
def mI(p:Str)(f g:Ck):Ck:=λN a e=>(ug e).any λz=>(jH z.2).any λx=>BF t a z.1 p&&!isStar x.1&&!isStar x.2&&f N a x.1&&g N a x.2
def IU(a k:Bool)(f:Ck):Ck:=λN b e=>(xB e).any λz=>BH a z.2.1&&f N b z.1&&(BD z.2.2).any λj=>decide (j=k)
mutual
def aS:E->Ck×Ck
 |.nm i=>gu λN sc e=>E7 N sc i e
 |.int k=>gu λN sc e=>(i5 e).any λj=>decide (j=k)
 |.str k=>gu λN sc e=>(yS e).any λj=>sEq j k
 |.bl k=>gu λN sc e=>(BD e).any λj=>decide (j=k)
 |.non=>gu λN sc e=>tZ e
 |.gc g=>gu λN sc e=>(cH e).any λx=>decide (t.gc g=some x)&&CN sc x
 |.bop o a b=>gu (oo (HL o) (aS a).1 (aS b).1)
 |.cat a b=>gu (oo BK (aS a).1 (aS b).1)
 |.rep a b=>gu (oo E9 (aS a).1 (aS b).1)
 |.cmp o a b=>(k8 o (aS a).1 (aS b).1,k8 o (aS a).1 (aS b).1)
 |.cmp2 o o' a b c=>(uo o o' (aS a).1 (aS b).1 (aS c).1,uo o o' (aS a).1 (aS b).1 (aS c).1)
 |.isn neg a=>(yX neg (aS a).1,yX neg (aS a).1)
 |.and a b=>(uq BI (aS a).1 (aS b).1,uq BI (aS a).2 (aS b).2)
 |.or a b=>(uq HN (aS a).1 (aS b).1,uq HN (aS a).2 (aS b).2)
 |.not a=>(xG BJ (aS a).1,xG BJ (aS a).2)
 |.neg a=>gu (xG xA (aS a).1)
 |.ife c a b=>gu λN sc e=>(xr e).any λz=>(aS c).2 N sc z.1&&(aS a).1 N sc z.2.1&&(aS b).1 N sc z.2.2
 |.tup es=>gu λN sc e=>(cY e).any λxs=>hX es N sc xs
 |.lst es=>gu λN sc e=>(nX e).any λxs=>hX es N sc xs
 |.ix a b=>gu λN sc e=>(cZ e).any λz=>!bS z.2&&(aS a).1 N sc z.1&&(aS b).1 N sc z.2
 |.sll a lo hi=>gu λN sc e=>(yU e).any λz=>(aS a).1 N sc z.1&&BM lo N sc z.2.1&&BM hi N sc z.2.2
 |.call f es=>gu (jO (λx=>decide (t.fn f=some x)) (hX es))
 |.callS f es=>gu (jO (λx=>decide (t.fn f=some x)) (hX es))
 |.blt f es=>gu (jO (λx=>sEq x (Bq f)&&t.nog x) (hX es))
 |.bnw f a=>gu (jP t (Kh f) (aS a).1)
 |.idx a b=>gu λN sc e=>(Fb e).any λz=>(eB z.2.2.1).any λy=>sEq z.2.1 "index" && (z.2.2.2.1.endLine==z.2.2.2.2.line)&&!isStar y&&(aS a).1 N sc z.1&&(aS b).1 N sc y
 |.dgt i b=>gu λN sc e=>(BL e).any λz=>(eB z.2.2.1).any λy=>sEq z.2.1 "get" && xy N sc i z.1&&(z.2.2.2.1.endLine==z.2.2.2.2.line)&&!isStar y&&(aS b).1 N sc y
 |.frz a=>gu (aS a).1
 |.pg i ps=>gu λN sc e=>k4 t N sc i ps e
 |.din neg a i ps=>(k8 (if neg then .nin else .inn) (aS a).1 λN sc e=>k4 t N sc i ps e,k8 (if neg then .nin else .inn) (aS a).1 λN sc e=>k4 t N sc i ps e)
 |.comp nt fr it tg ifs elt=>gu λN sc e=>(yW e).any λz=>(λd=>n6 d nt fr N z.2.2.2.2.1 sc&&decide d.Nodup&&!isSet z.2.2.1&&xH it N sc z.2.1 z.2.2.1&&(ue (λ_=>true) d (qO z.2.2.2.2.1 sc) false nt tg z.2.1&&Fc ifs d (qO z.2.2.2.2.1 sc) z.2.2.2.1&&(aS elt).1 d (qO z.2.2.2.2.1 sc) z.1)) (BG z.2.1++fr.filterMap λj=>N[j]?)
def hX:Es->List Str->Scope->List Expr->Bool
 |.nil=>λN sc xs=>xs.isEmpty
 |.cons a es=>λN sc xs=>(qN xs).any λz=>!isStar z.1&&(aS a).1 N sc z.1&&hX es N sc z.2
def BM:Eo->List Str->Scope->Option Expr->Bool
 |.none=>λN sc o=>o.isNone
 |.some a=>λN sc o=>o.any λx=>(aS a).1 N sc x
def Fc:Eo->List Str->Scope->List Expr->Bool
 |.none=>λN sc o=>o.isEmpty
 |.some a=>λN sc o=>(eB o).any λx=>(aS a).2 N sc x
def xH:It'->List Str->Scope->Expr->Expr->Bool
 |.seq a=>λN sc g e=>(aS a).1 N sc e
 |.rg1 a=>λN sc g e=>jP t "range" (aS a).1 N sc e
 |.rg2 a b=>λN sc g e=>mI t "range" (aS a).1 (aS b).1 N sc e
 |.rg3 a b=>λN sc g e=>(ug e).any λz=>(wZ z.2).any λx=>BF t sc z.1 "range" && !isStar x.1&&!isStar x.2.1&&!isStar x.2.2&&(aS a).1 N sc x.1&&(aS b).1 N sc x.2.1&&(i5 x.2.2).any λj=>decide (j=2)
 |.enm a=>λN sc g e=>isTup g&&jP t "enumerate" (aS a).1 N sc e
 |.zip a b=>λN sc g e=>isTup g&&mI t "zip" (aS a).1 (aS b).1 N sc e
end
end
def xI:Expr->Bool
 |.BoolOp _ _ _=>true
 |_=>false
structure EOk (t:Tb)(C:Ct)(m:E):Prop where
 v:∀X e,Cy t C X->(aS t m).1 X.N X.env.scope e=true->PDe X e (aF C m)
 w:∀X e,Cy t C X->xI e=true->(aS t m).2 X.N X.env.scope e=true->PDw X e (gq C m)
 t:∀X e,Cy t C X->(aS t m).2 X.N X.env.scope e=true->PDt X e (gq C m)
section
variable{t:Tb}{C:Ct}{X:Cx}{e:Expr}
theorem oq(h:xI e=true):∃o xs p,e=.BoolOp o xs p:=by cases e<;>first|exact⟨_,_,_,rfl⟩|cases h
theorem aR{m:E}(a:(aS t m).2=λN sc e=>plainT e&&(aS t m).1 N sc e)(f:aP C m=(vt (ev C m)).2)(b:∀X e,Cy t C X->(aS t m).1 X.N X.env.scope e=true->PDe X e (aF C m)):EOk t C m:=
 ⟨b,λX e c d h=>by
  rw[a]at h;obtain⟨o,g,p,rfl⟩:=oq d;exact absurd h aad,
  λX e c h=>by
  rw[a]at h;exact Ex f (an2 h).1 (b X e c (an2 h).2)⟩
theorem ia{m:E}(d:∀(X:Cx) e,xI e=true->(aS t m).2 X.N X.env.scope e=false)(f:∀X e,Cy t C X->(aS t m).1 X.N X.env.scope e=true->PDe X e (aF C m))(b:∀X e,Cy t C X->(aS t m).2 X.N X.env.scope e=true->PDt X e (gq C m)):EOk t C m:=
 ⟨f,λX e c a h=>absurd h (by rw[d X e a];exact aad),b⟩
theorem ur{f:Ck}{N:List Str}{sc:Scope}(a:xI e=true)(h:∀o xs p,f N sc (.BoolOp o xs p)=false):f N sc e=false:=by obtain⟨o,xs,p,rfl⟩:=oq a;exact h o xs p
theorem ckBin_ok{b:Operator->Bool}{f g:Ck}{N:List Str}{sc:Scope}(h:oo b f g N sc e=true):∃x o y p,e=.BinOp x o y p/\b o=true/\f N sc x=true/\g N sc y=true:=by obtain⟨z,a,h⟩:=anyT h;obtain⟨p,rfl⟩:=tV a;exact⟨_,_,_,p,rfl,an3 h⟩
theorem ckUn_ok{b:UnaryOp->Bool}{f:Ck}{N:List Str}{sc:Scope}(h:xG b f N sc e=true):∃o x p,e=.UnaryOp o x p/\b o=true/\f N sc x=true:=by obtain⟨z,a,h⟩:=anyT h;obtain⟨p,rfl⟩:=nW a;exact⟨_,_,p,rfl,an2 h⟩
theorem eZ{o:Co}{f g:Ck}{N:List Str}{sc:Scope}(h:k8 o f g N sc e=true):∃x y p,e=.Compare x [coOf o] [y] p/\isSet y=false/\f N sc x=true/\g N sc y=true:=by obtain⟨z,a,h⟩:=anyT h;obtain⟨p,rfl⟩:=jN a;obtain⟨a,d,b,c⟩:=an4 h;exact⟨_,_,p,by rw[hR a],bK d,b,c⟩
theorem fS{p:Str->Bool}{f:List Str->Scope->List Expr->Bool}{N:List Str}{sc:Scope}(h:jO p f N sc e=true):∃x z zs q b,e=.Call (.Name x q) (z::zs) [] b/\p x=true/\CN sc x=true/\isStar z=false/\zs.any isStar=false/\f N sc (z::zs)=true:=by
 obtain⟨z,a,h⟩:=anyT h;obtain⟨q,b,rfl⟩:=gw a;obtain⟨a,j,c,d,i⟩:=an5 h;obtain⟨x,k⟩:=z;cases k with
 |nil=>cases c
 |cons y g=>have:=bK d;rw[aaY,ab9]at this;exact⟨x,y,g,q,b,rfl,a,j,this.1,this.2,i⟩
theorem fT{p:Str}{f:Ck}{N:List Str}{sc:Scope}(h:jP t p f N sc e=true):∃x z q c,e=.Call (.Name x q) [z] [] c/\BF t sc x p=true/\isStar z=false/\f N sc z=true:=by obtain⟨z,w,b,a,h⟩:=ay2 h;obtain⟨q,c,rfl⟩:=gw b;obtain⟨x,g⟩:=z;have:=one1_ok a;simp only at this;subst this;obtain⟨b,a,d⟩:=an3 h;exact⟨x,w,q,c,rfl,b,bK a,d⟩
theorem i6{p:Str}{f g:Ck}{N:List Str}{sc:Scope}(h:mI t p f g N sc e=true):∃x z w q c,e=.Call (.Name x q) [z,w] [] c/\BF t sc x p=true/\isStar z=false/\isStar w=false/\f N sc z=true/\g N sc w=true:=by obtain⟨z,w,b,a,h⟩:=ay2 h;obtain⟨q,c,rfl⟩:=gw b;obtain⟨x,k⟩:=z;have:=two2_ok a;simp only at this;subst this;obtain⟨b,a,d,i,j⟩:=an5 h;exact⟨x,_,_,q,c,rfl,b,bK a,bK d,i,j⟩
theorem ckBo_ok{b:BoolOp->Bool}{f g:Ck}{N:List Str}{sc:Scope}(h:uq b f g N sc e=true):∃o x y es p,e=.BoolOp o (x::y::es) p/\b o=true/\f N sc x=true/\((es=[]/\g N sc y=true)\/g N sc (.BoolOp o (y::es) p)=true):=by
 obtain⟨z,l,h⟩:=anyT h;have:=xq l;subst this;obtain⟨c,h⟩:=an2 h;obtain⟨x,y,k,m,h⟩:=ay2 h;obtain⟨j,h⟩:=an2 h;obtain⟨o,q,p⟩:=z;obtain⟨x,n⟩:=x;obtain⟨y,es⟩:=y;have i:=con1_ok k;have d:=con1_ok m;simp only at i d;subst d;subst i;cases es with
 |nil=>exact⟨o,x,y,[],p,rfl,c,j,.inl ⟨rfl,h⟩⟩
 |cons a es=>exact⟨o,x,y,a::es,p,rfl,c,j,.inr h⟩
theorem BN{a b c:Expr}{p i r:E}{j:Pos}{o f:Co}(N:X.A.units+64<cLine)(hm:lastMarks [coOf o,coOf f] [b,c]=false)(h1:PDe X a (aF C p))(Z:PDe X b (aF C i))(Y:PDe X c (aF C r)):PDt X (.Compare a [coOf o,coOf f] [b,c] j) (gq C (.cmp2 o f p i r)):=by
 obtain⟨r2,ho,hr⟩:=i3 N o;obtain⟨a0,l,n⟩:=i3 N f;refine(qt ho hr l n hm h1 Z Y).imp λL Q hq=>?_;obtain⟨x,h,S,g,q⟩:=nS (m:=.cmp2 o f p i r) rfl (λL x h=>by
  obtain⟨I,G,M,u,k,y,w,v,D,T,h⟩:=bn5 h;cases k with
  |false=>rw[if_neg aad]at h;cases h;exact⟨_,rfl⟩
  |true=>
   rw[if_pos rfl]at h;obtain⟨O,d,U,H,s,J,B,z,h⟩:=bn4 h;cases h;exact⟨_,rfl⟩) L Q hq
 obtain⟨I,G,M,u,k,y,w,v,D,T,h⟩:=bn5 h;refine⟨I,y,G,w,M,u,v,D,k,T,k,rfl,?_⟩;cases k with
 |false=>rw[if_neg aad]at h;cases h;rw[if_neg aad];exact⟨S,g,q⟩
 |true=>rw[if_pos rfl]at h ⊢;obtain⟨O,d,U,H,s,J,B,z,h⟩:=bn4 h;cases h;exact⟨O,s,d,U,J,B,H,z,S,g,q⟩
mutual
theorem ba:∀m:E,EOk t C m
 |.nm i=>aR rfl rfl λX e c h=>by obtain⟨x,p,rfl,h⟩:=mH h;obtain⟨l,r,n,G⟩:=c9 h;exact Hq l r n G
 |.int k=>aR rfl rfl λX e c h=>by obtain⟨j,l,h⟩:=anyT h;obtain⟨_,_,rfl⟩:=asInt_ok l;have:=Daa h;subst this;exact yO
 |.str k=>aR rfl rfl λX e c h=>by obtain⟨j,l,h⟩:=anyT h;obtain⟨_,_,rfl⟩:=asStr_ok l;have:=cm h;subst this;exact El
 |.bl k=>aR rfl rfl λX e c h=>by obtain⟨j,l,h⟩:=anyT h;obtain⟨_,_,rfl⟩:=asBl_ok l;have:=Daa h;subst this;exact Hr
 |.non=>aR rfl rfl λX e c h=>by obtain⟨_,_,rfl⟩:=g9 h;exact Em
 |.gc g=>aR rfl rfl λX e c h=>by obtain⟨x,l,h⟩:=anyT h;obtain⟨_,rfl⟩:=asNm_ok l;obtain⟨v,u,Q,L,M⟩:=c.hgc _ _ (Daa (an2 h).1);exact Hs (dm (an2 h).2).1 Q L M (dm (an2 h).2).2
 |.bop o a b=>aR rfl rfl λX e c h=>by obtain⟨x,o',y,p,rfl,l,r,n⟩:=ckBin_ok h;have:=t9 l;subst this;exact Eh ((ba a).v X _ c r) ((ba b).v X _ c n)
 |.cat a b=>aR rfl rfl λX e c h=>by obtain⟨x,o',y,p,rfl,l,r,n⟩:=ckBin_ok h;have:=oj l;subst this;exact EB ((ba a).v X _ c r) ((ba b).v X _ c n)
 |.rep a b=>aR rfl rfl λX e c h=>by obtain⟨x,o',y,p,rfl,l,r,n⟩:=ckBin_ok h;have:=xC l;subst this;exact EM ((ba a).v X _ c r) ((ba b).v X _ c n)
 |.cmp o a b=>ia (λX e J=>ur (f:=(aS t (.cmp o a b)).2) J λ_ _ _=>rfl) (λX e c h=>by
  obtain⟨x,y,p,rfl,r,n,G⟩:=eZ h;exact Ei c.units (fR _ r) ((ba a).v X _ c n) ((ba b).v X _ c G)) λX e c h=>by
  obtain⟨x,y,p,rfl,r,n,G⟩:=eZ h;exact Ej c.units (fR _ r) ((ba a).v X _ c n) ((ba b).v X _ c G)
 |.cmp2 o o' a b d=>ia (λX e J=>ur (f:=(aS t (.cmp2 o o' a b d)).2) J λ_ _ _=>rfl) (λX e c h=>by
  obtain⟨z,l,h⟩:=anyT h;obtain⟨p,rfl⟩:=oa l;obtain⟨A,B,s,H⟩:=an4 h;obtain⟨Z,T,b3⟩:=an3 H;rw[hR A,hR B];exact Bm c.units (fR _ (bK s)) ((ba a).v X _ c Z) ((ba b).v X _ c T) ((ba d).v X _ c b3)) λX e c h=>by
  obtain⟨z,l,h⟩:=anyT h;obtain⟨p,rfl⟩:=oa l;obtain⟨A,B,s,H⟩:=an4 h;obtain⟨Z,T,b3⟩:=an3 H;rw[hR A,hR B];exact BN c.units (fR _ (bK s)) ((ba a).v X _ c Z) ((ba b).v X _ c T) ((ba d).v X _ c b3)
 |.isn neg a=>ia (λX e J=>ur (f:=(aS t (.isn neg a)).2) J λ_ _ _=>rfl) (λX e c h=>by
  obtain⟨z,l,h⟩:=anyT h;obtain⟨p,rfl⟩:=jN l;obtain⟨A,B,s⟩:=an3 h;obtain⟨_,_,e2⟩:=g9 B;rw[og A,e2];exact En ((ba a).v X _ c s)) λX e c h=>by
  obtain⟨z,l,h⟩:=anyT h;obtain⟨p,rfl⟩:=jN l;obtain⟨A,B,s⟩:=an3 h;obtain⟨_,_,e2⟩:=g9 B;rw[og A,e2];exact Ep ((ba a).v X _ c s)
 |.and a b=>by
  have S:∀X e,Cy t C X->(aS t (.and a b)).2 X.N X.env.scope e=true->PDw X e (gq C (.and a b)):=λX e c h=>by
   obtain⟨o,x,y,D,p,rfl,l,r,n⟩:=ckBo_ok h;have:=oh l;subst this;refine Et ((ba a).t X _ c r) ?_;rcases n with ⟨rfl,n⟩|n
   ·exact sJ ((ba b).t X _ c n)
   ·exact(ba b).w X _ c rfl n
  refine⟨λX e c h=>?_,λX e c _ h=>S X e c h,λX e c h=>(S X e c h).pt⟩;obtain⟨o,x,y,D,p,rfl,l,r,n⟩:=ckBo_ok h;have:=oh l;subst this;refine v_and ((ba a).v X _ c r) ?_;rcases n with ⟨rfl,n⟩|n
  ·exact sH ((ba b).v X _ c n)
  ·exact(ba b).v X _ c n
 |.or a b=>by
  have S:∀X e,Cy t C X->(aS t (.or a b)).2 X.N X.env.scope e=true->PDw X e (gq C (.or a b)):=λX e c h=>by
   obtain⟨o,x,y,D,p,rfl,l,r,n⟩:=ckBo_ok h;have:=ui l;subst this;refine Ht ((ba a).t X _ c r) ?_;rcases n with ⟨rfl,n⟩|n
   ·exact wF ((ba b).t X _ c n)
   ·exact(ba b).w X _ c rfl n
  refine⟨λX e c h=>?_,λX e c _ h=>S X e c h,λX e c h=>(S X e c h).pt⟩;obtain⟨o,x,y,D,p,rfl,l,r,n⟩:=ckBo_ok h;have:=ui l;subst this;refine v_or ((ba a).v X _ c r) ?_;rcases n with ⟨rfl,n⟩|n
  ·exact sH ((ba b).v X _ c n)
  ·exact(ba b).v X _ c n
 |.not a=>ia (λX e J=>ur (f:=(aS t (.not a)).2) J λ_ _ _=>rfl) (λX e c h=>by
  obtain⟨o,x,p,rfl,l,r⟩:=ckUn_ok h;have:=oi l;subst this;exact v_not ((ba a).v X _ c r)) λX e c h=>by
  obtain⟨o,x,p,rfl,l,r⟩:=ckUn_ok h;have:=oi l;subst this;exact Eu ((ba a).t X _ c r)
 |.neg a=>aR rfl rfl λX e c h=>by obtain⟨o,x,p,rfl,l,r⟩:=ckUn_ok h;have:=n5 l;subst this;exact Er ((ba a).v X _ c r)
 |.ife z a b=>aR rfl rfl λX e c h=>by obtain⟨q,l,h⟩:=anyT h;obtain⟨p,rfl⟩:=xu l;obtain⟨A,B,s⟩:=an3 h;exact Ew ((ba z).t X _ c A) ((ba a).v X _ c B) ((ba b).v X _ c s)
 |.tup D=>aR rfl rfl λX e c h=>by obtain⟨q,l,h⟩:=anyT h;obtain⟨_,_,rfl⟩:=asTup_ok l;exact Ey (yY D X _ c h)
 |.lst D=>aR rfl rfl λX e c h=>by obtain⟨q,l,h⟩:=anyT h;obtain⟨_,rfl⟩:=tX l;exact Ez (yY D X _ c h)
 |.ix a b=>aR rfl rfl λX e c h=>by obtain⟨q,l,h⟩:=anyT h;obtain⟨_,rfl⟩:=asSub_ok l;obtain⟨A,B,s⟩:=an3 h;exact Hu (bK A) ((ba a).v X _ c B) ((ba b).v X _ c s)
 |.sll a lo hi=>aR rfl rfl λX e c h=>by obtain⟨q,l,h⟩:=anyT h;obtain⟨_,_,rfl⟩:=uj l;obtain⟨A,B,s⟩:=an3 h;exact EA ((ba a).v X _ c A) (IV lo X _ c B) (IV hi X _ c s)
 |.call f D=>aR rfl rfl λX e c h=>by obtain⟨x,z,zs,q,q',rfl,l,r,n,G,Y⟩:=fS (p:=λx=>decide (t.fn f=some x)) (f:=hX t D) (N:=X.N) (sc:=X.env.scope) (e:=e) h;obtain⟨k,fa,fd,I,Q,L,M,g4,g5⟩:=c.hfn _ _ (Daa l);exact Bp Q L (dm r).1 M g4 g5 (dm r).2 n G (yY D X _ c Y)
 |.callS f D=>aR rfl rfl λX e c h=>by obtain⟨x,z,zs,q,q',rfl,l,r,n,G,Y⟩:=fS (p:=λx=>decide (t.fn f=some x)) (f:=hX t D) (N:=X.N) (sc:=X.env.scope) (e:=e) h;obtain⟨k,fa,fd,I,Q,L,M,g4,g5⟩:=c.hfn _ _ (Daa l);exact xh Q L (dm r).1 M g4 g5 (dm r).2 n G (yY D X _ c Y)
 |.blt f D=>aR rfl rfl λX e c h=>by obtain⟨x,z,zs,q,q',rfl,l,r,n,G,Y⟩:=fS (p:=λx=>sEq x (Bq f)&&t.nog x) (f:=hX t D) (N:=X.N) (sc:=X.env.scope) (e:=e) h;have:=cm (an2 l).1;subst this;exact ED c.calm (dm r).1 (c.hng _ (an2 l).2) n G (yY D X _ c Y)
 |.bnw f a=>aR rfl rfl λX e c h=>by
  obtain⟨x,z,q,q',rfl,l,r,n⟩:=fT h;obtain⟨Q,L,M⟩:=fQ c l;subst Q;cases f with
  |tuple=>exact xj L M r ((ba a).v X _ c n)
  |sorted=>exact tP L M r ((ba a).v X _ c n)
 |.idx a b=>aR rfl rfl λX e c h=>by obtain⟨z,y,l,r,O⟩:=ay2 h;obtain⟨o1,o2,p,e1,rfl⟩:=xD l;obtain⟨A,B,s,H,U⟩:=an5 O;rw[one1_ok r,cm A];rw[e1]at H ⊢;exact E4 B (bK s) ((ba a).v X _ c H) ((ba b).v X _ c U)
 |.dgt i b=>aR rfl rfl λX e c h=>by obtain⟨z,y,l,r,O⟩:=ay2 h;obtain⟨p,rfl⟩:=om l;obtain⟨A,B,s,H,U⟩:=an5 O;obtain⟨n1,n2,n3,n4⟩:=c9 B;rw[one1_ok r,cm A];exact E5 (by have:=c.units;omega) n1 n2 n3 n4 s (bK H) ((ba b).v X _ c U)
 |.frz a=>aR rfl rfl λX e c h=>EC ((ba a).v X _ c h)
 |.pg i I=>aR rfl rfl λX e c h=>HE (eX c I _ h)
 |.din neg a i I=>ia (λX e J=>ur (f:=(aS t (.din neg a i I)).2) J λ_ _ _=>rfl) (λX e c h=>by
  obtain⟨x,y,p,rfl,r,n,G⟩:=eZ (o:=if neg then .nin else .inn) (f:=(aS t a).1) (g:=λN sc e=>k4 t N sc i I e) (N:=X.N) (sc:=X.env.scope) (e:=e) h;exact(tT (by have:=c.units;omega) (fR _ r) ((ba a).v X _ c n) (eX c I _ G)).1) λX e c h=>by
  obtain⟨x,y,p,rfl,r,n,G⟩:=eZ (o:=if neg then .nin else .inn) (f:=(aS t a).1) (g:=λN sc e=>k4 t N sc i I e) (N:=X.N) (sc:=X.env.scope) (e:=e) h;exact(tT (by have:=c.units;omega) (fR _ r) ((ba a).v X _ c n) (eX c I _ G)).2
 |.comp nt fr it tg ifs elt=>aR rfl rfl λX e c h=>by obtain⟨z,l,h⟩:=anyT h;have:=k7 l;subst this;obtain⟨A,B,s,H,U⟩:=an5 h;obtain⟨Z,T,b3⟩:=an3 U;exact Bv c.calm (hU A) (jM (bK s)) (F5 it X _ _ c H) (λq=>eY (X:=dM X _ z.2.2.2.2.1 q) (fn:=false) c.calm (Daa B) (λz=>by cases z) (λ_ _ z=>z) Z) λq=>IW ifs (dM X _ z.2.2.2.2.1 q) _ _ c.comp (ba elt) T b3
theorem yY:∀(m:Es) X xs,Cy t C X->hX t m X.N X.env.scope xs=true->PDa X xs (g7 C m)
 |.nil,X,xs,c,h=>by
  cases xs with
  |nil=>exact eD
  |cons _ _=>cases h
 |.cons a es,X,xs,c,h=>by obtain⟨z,g,h⟩:=anyT h;have:=con1_ok g;subst this;obtain⟨b,f,d⟩:=an3 h;exact bw (bK b) ((ba a).v X _ c f) (yY es X _ c d)
theorem IV:∀(m:Eo) X o,Cy t C X->BM t m X.N X.env.scope o=true->PDo X o (tO C m)
 |.none,X,o,c,h=>by
  cases o with
  |none=>exact xf
  |some _=>cases h
 |.some a,X,o,c,h=>by obtain⟨z,b,h⟩:=anyT h;subst b;exact xg ((ba a).v X _ c h)
theorem IW:∀(m:Eo) {elt:E} X fs x,Cy t C X->EOk t C elt->Fc t m X.N X.env.scope fs=true->(aS t elt).1 X.N X.env.scope x=true->PDc X fs x (Bt C m elt)
 |.none,elt,X,fs,x,c,he,h,h'=>by
  cases fs with
  |nil=>exact xk (he.v X _ c h')
  |cons _ _=>cases h
 |.some a,elt,X,fs,x,c,he,h,h'=>by obtain⟨z,b,h⟩:=anyT h;have:=one1_ok b;subst this;exact Bu ((ba a).t X _ c h) (he.v X _ c h')
theorem F5:∀(m:It') X g e,Cy t C X->xH t m X.N X.env.scope g e=true->PDi X g e (fN C m)
 |.seq a,X,g,e,c,h=>EG ((ba a).v X _ c h)
 |.rg1 a,X,g,e,c,h=>by obtain⟨x,z,q,u,rfl,l,f,d⟩:=fT h;obtain⟨n,i,o⟩:=fQ c l;subst n;exact EH i o f ((ba a).v X _ c d)
 |.rg2 a b,X,g,e,c,h=>by obtain⟨x,z,w,q,u,rfl,l,f,d,s,r⟩:=i6 h;obtain⟨n,i,o⟩:=fQ c l;subst n;exact EI i o f d ((ba a).v X _ c s) ((ba b).v X _ c r)
 |.rg3 a b,X,g,e,c,h=>by obtain⟨z,w,l,f,h⟩:=ay2 h;obtain⟨q,u,rfl⟩:=gw l;obtain⟨x,A⟩:=z;have:=thr3_ok f;simp only at this;subst this;obtain⟨h,H⟩:=an2 h;obtain⟨h,B⟩:=an2 h;obtain⟨d,s,r,L,J⟩:=an5 h;obtain⟨j,G,I⟩:=anyT H;obtain⟨_,_,D⟩:=asInt_ok G;have:=Daa I;subst this;obtain⟨n,i,o⟩:=fQ c d;subst n;exact EJ i o (bK s) (bK r) (bK L) ((ba a).v X _ c J) ((ba b).v X _ c B) (by rw[D];exact yO)
 |.enm a,X,g,e,c,h=>by obtain⟨y,h⟩:=an2 h;obtain⟨A,k,p,rfl⟩:=eW y;obtain⟨x,z,q,u,rfl,l,f,d⟩:=fT h;obtain⟨n,i,o⟩:=fQ c l;subst n;exact EK i o f ((ba a).v X _ c d)
 |.zip a b,X,g,e,c,h=>by obtain⟨y,h⟩:=an2 h;obtain⟨A,k,p,rfl⟩:=eW y;obtain⟨x,z,w,q,u,rfl,l,f,d,s,r⟩:=i6 h;obtain⟨n,i,o⟩:=fQ c l;subst n;exact EL i o f d ((ba a).v X _ c s) ((ba b).v X _ c r)
end
end
end
section
def bkS(sc:Scope):ScopeKind:=if sc.kind.isAnnotationScope then .function else sc.kind
def qP(a:List Expr)(sc:Scope):List Str:=a.filterMap fun
  |.Name id pos=>if sc.names.lookup id==some .local&&pos.line==(a.head?.map (·.pos.line)).getD 0 then some id else none
  |_=>none
def F6(ts vs:List Expr)(sc:Scope):Option (Option (List Str)):=
 if !(ts.length==2||ts.length==3)||vs.length !=ts.length||bkS sc !=.function then some none
 else if (vs.any fun|.Starred ..=>true|_=>false) then some none
 else if (qP ts sc).length !=ts.length||(qP ts sc).eraseDups.length !=(qP ts sc).length then some none
 else if vs.all (foldedForSure 8) then some none
 else if vs.all (constantsAlone 8) then none
 else some (some (qP ts sc))
theorem mJ(h:F6 ts vs env.scope=some r):swappedStores [.Tuple ts k p] (.Tuple vs k2 p2) env=pure r:=by
 unfold F6 at h;unfold swappedStores;split at h
 ·rename_i e;cases h;show (if (!(ts.length==2||ts.length==3)||vs.length !=ts.length||env.blockKind !=.function)=true then _ else _)=_;rw[if_pos (show (!(ts.length==2||ts.length==3)||vs.length !=ts.length||env.blockKind !=.function)=true from e)]
 ·rename_i e;show (if (!(ts.length==2||ts.length==3)||vs.length !=ts.length||env.blockKind !=.function)=true then _ else _)=_;rw[if_neg (show ¬ (!(ts.length==2||ts.length==3)||vs.length !=ts.length||env.blockKind !=.function)=true from e)];split at h
  ·rename_i b;cases h;show (if (vs.any fun|.Starred ..=>true|_=>false)=true then _ else _)=_;rw[if_pos b]
  ·rename_i b;show (if (vs.any fun|.Starred ..=>true|_=>false)=true then _ else _)=_;rw[if_neg b];split at h
   ·rename_i c;cases h;show (if ((qP ts env.scope).length !=ts.length||(qP ts env.scope).eraseDups.length !=(qP ts env.scope).length)=true then _ else _)=_;rw[if_pos c]
   ·rename_i c;show (if ((qP ts env.scope).length !=ts.length||(qP ts env.scope).eraseDups.length !=(qP ts env.scope).length)=true then _ else _)=_;rw[if_neg c];split at h
    ·rename_i a;cases h;show (if vs.all (foldedForSure 8)=true then _ else _)=_;rw[if_pos a]
    ·rename_i a;show (if vs.all (foldedForSure 8)=true then _ else _)=_;rw[if_neg a];split at h
     ·cases h
     ·rename_i d;cases h;show (if vs.all (constantsAlone 8)=true then _ else _)=_;rw[if_neg d];rfl
def yZ(b e:Expr)(sc:Scope):Bool:=(cY b).any λc=>(cY e).all λa=>decide (F6 c a sc=some none)
theorem uv(h:yZ tg e env.scope=true):swappedStores [tg] e env=pure none:=by
 obtain⟨g,c,b⟩:=anyT h;clear h;obtain⟨k,p,rfl⟩:=asTup_ok c;cases a:cY e with
 |some d=>obtain⟨i,f,rfl⟩:=asTup_ok a;rw[a]at b;exact mJ (Daa b)
 |none=>cases e<;>first|rfl|cases a
def swC(sc:Scope)(t:Str)(a p:Pos)(s:Scope):Bool:=bkS sc==.function&&sc.names.lookup t==some .local&&a.line==p.line&&!(s.names.any λ(n,k)=>n==t&&(k==.local||k==.cell))
theorem uw:swapsWith (.ListComp elt gs s p) (some (.Name t pos)) l env=pure (swC env.scope t pos p s):=rfl
inductive PDx (X:Cx)(i:Nat)(st:Stmt)(de:DE):Prop|mk (te:TE) (h:PS X st (rH te (km i))) (s:bZ X.K te de)
section
variable{X:Cx}{W:Nat->Prop}{m:Nat}{C:Ct}{e:Expr}{ma:E}{pos p p1 p2 p3 pos' spos py:Pos}{x y:Str}{i:Nat}{st:Stmt}
theorem PDx.imp:PDx X i st d->(∀ρ Q,d' ρ Q->d ρ Q)->PDx X i st d'
 |⟨te,h,s⟩,f=>⟨te,h,λb F σ H ρ τ θ c Q a R g q=>s b F σ H ρ τ θ c Q a R (f _ _ g) q⟩
theorem Fd:PDx X i st (aF C ma)->PDx X i st (aF C (.frz ma))
 |⟨te,h,s⟩=>⟨te,h,λb F σ H ρ τ θ t Q o R ⟨y,h,q⟩ k=>by
  obtain⟨z,w,g,f,h⟩:=bn2 h;cases h;refine s b F σ H ρ τ θ (λr a=>r=z.1/\a=z.2) _ o R ⟨z,g,rfl,rfl⟩ λv j r a d n=>?_;obtain⟨l,c⟩:=n;subst l c;exact k v j _ _ (d.frz1 f) q⟩
theorem BO{f:Tg}(u:X.N.Nodup)(o:X.N[i]?=some y)(j:X.env.scope.names.lookup y=some .local)(r:X.calm=true)(S:CompScope N nt fr X.N scope X.env.scope)(l:∀x,foldedSetIterable iter X.env x=pure x)(q:PDi X tg iter (fN C mi))(h:∀c:CC,PDg (dM X N scope c) Ff nt tg (iO f))(k:∀c:CC,PDc (dM X N scope c) ifs elt (Bt C mif me))
  (d:swapsWith (.ListComp elt [⟨tg,iter,ifs,0⟩] scope pos) (some (.Name y py)) spos.line X.env=pure true):PDx X i (.Assign [.Name y py] (.ListComp elt [⟨tg,iter,ifs,0⟩] scope pos) spos) (aF C (.comp nt fr mi f mif me)):=by
 have s:PDx X i (.Assign [.Name y py] (.ListComp elt [⟨tg,iter,ifs,0⟩] scope pos) spos) (nK (fN C mi) nt fr (iO f) (Bt C mif me)):=by obtain⟨w,n,t⟩:=q;obtain⟨g,a⟩:=PDg.ex (Y:=λc=>dM X N scope c) (λ_=>rfl) h;obtain⟨v,b⟩:=PDc.ex (Y:=λc=>dM X N scope c) (λ_=>rfl) k;exact⟨_,wa u o j r S n (λc=>(a c).1) (λc D=>(b c).1 D) l d,kL t (λc=>(a c).2) λc=>(b c).2⟩
 exact s.imp (nR C)
theorem ux(f:¬ W i):PDx X i st (aF C ma)->PDs X W st (iJ C (.set i ma))
 |⟨_,h,s⟩=>⟨_,h,λb F σ H ρ τ θ A D w n R ⟨y,h,q⟩ E=>by
  obtain⟨z,o,_,j,g,u,h⟩:=bn3 h;cases h;refine s b F σ H ρ τ θ (λr a=>r=z.1/\a=z.2) _ w R ⟨z,j,rfl,rfl⟩ λv k r a d t=>?_;obtain⟨l,c⟩:=t;subst l c;exact E.nx _ k _ ((d.own1 g).store n (gd_ok u) f) q⟩
end
theorem Wd.x2(w:Wd b H ([u].zip [y]++((v,x)::L)))(e:x.at ks=some (.hole u)):Wd b H ((v,OD.put y ks x)::L):=by
 obtain⟨S,o,B,C,q,j,h,i,m,n,f,p,g⟩:=Wd.wh w rfl e;cases j with
 |hole k=>subst k;exact g (λ_ _=>rfl) (λc d=>by cases d) (by simpa using i) (λc d=>.inr d) λl a _=>Ow.sub f a h.one
theorem Wd.hole(w:Wd b H L):Wd b H ((u,.hole u)::L):=by obtain⟨A,d,c,a⟩:=w.out;exact⟨⟨A,Ows.cons (.hole rfl) d,c,a⟩,w.fr,w.s0,w.nt⟩
theorem Rel.fill(R:Rel b F σ H ρ (u::τ) (.rf j::θ))(h:tM i ks j u ρ ρ'):Rel b F σ H ρ' τ θ:=by obtain⟨x,y,f,g,l,k,d⟩:=h;subst d;obtain⟨m,a,c⟩:=R.drop.moved l;have e:σ[j]?=some (some u):=R.al.1;rw[e]at a;cases a;obtain⟨v,a,w⟩:=Rel.open (us:=[u]) (zs:=[y]) c rfl (by rw[aa6 k];exact f);exact Rel.close (Rel.rest (us:=[u]) (zs:=[y]) c rfl) a (w.x2 g)
theorem PDe.ex{K:Waa}{Y:CC->Cx}(a:∀c,(Y c).K=K)(h:∀c,PDe (Y c) e d):∃g:CC->TE,∀c,PE (Y c) e (g c)/\bZ K (g c) d:=
 ab8 (r:=λc g=>PE (Y c) e g/\bZ K g d) λc=>(by obtain⟨f,i,b⟩:=h c;exact⟨f,i,a c▸b⟩)
theorem Dt.sc{K:Waa}(h:Dt K H v d)(e:Bd d=true):Sc v d:=by cases h<;>first|constructor|cases e
theorem Rel.growD(R:Rel b F σ H ρ (v::(vs++[.ref D])) (.val (.fz d)::(rs++[.val (.dic ks xs)])))(f:vs.length=rs.length):
  ∃ws,H D=some (.dK ws)/\ws.length=xs.length/\Rel b F σ (upd H D (.dK (putK ws kk v))) ρ (vs++[.ref D]) (rs++[.val (.dic (a9 kk d ks xs).1 (a9 kk d ks xs).2)]):=by
 have e:=R.drop;have h:∀y:OD,stk (vs++[.ref D]) (rs++[.val y])=stk vs rs++[(.ref D,y)]:=λy=>by rw[aJ f];rfl
 have w:Wd b H ((v,.fz d)::((stk vs rs++[(.ref D,.dic ks xs)])++(flat σ ρ++ff F))):=by have:=R.wd;simp only[stk]at this;rw[h]at this;exact this
 have o:Wd b H ([v].zip [OD.fz d]++((.ref D,.dic ks xs)::(stk vs rs++(flat σ ρ++ff F)))):=w.perm (by
  refine List.Perm.cons _ ?_;rw[aac];exact aav)
 obtain⟨a,ws,p,n,c,g,j⟩:=o.ub (ks:=[]) rfl rfl;cases p;subst c;refine⟨ws,n,g,e.wf,?_,e.wff,?_⟩
 ·obtain⟨k,_⟩:=(aZ f).mp e.al;exact(aZ f).mpr ⟨k,trivial⟩
 ·rw[h];refine(j (putK ws kk v) _ _ (nT (d:=d) g) λS H A C q m i l=>kX m i l).perm ?_;rw[aac];exact aav.symm
section
variable{X:Cx}{W:Nat->Prop}{C:Ct}{y:Str}{i nt:Nat}{fr:List Nat}{N:List Str}{scope:Scope}{kx vx iter tg:Expr}{pos py spos:Pos}{mi:It'}{mt:Tg}{mk' mv':E}
theorem uy(step:List Key×List OD->PyData->DEnv->Option ((List Key×List OD)×DEnv))(ds:List PyData)(w:(List Key×List OD)×DEnv)(k:Nat)(a:ds[k]?=some d)(h:dZ step (ds.drop k) out ρ=some w):∃z,step out d ρ=some z/\dZ step (ds.drop (k+1)) z.1 z.2=some w:=by
 have b:=(aai.mp a).1;have e:ds.drop k=d::ds.drop (k+1):=by rw[abN b,(aai.mp a).2]
 rw[e]at h;exact bnd h
theorem xJ{K:Waa}{k f:TE}(Y:bZ K k (aF C mk'))(L:bZ K f (aF C mv')):Ed (λz:List Key×List OD=>.dic z.1 z.2) (λz=>z.2.length) K (wm k f) (λo ρ Q=>∃w,dAct C mk' mv' o ρ=some w/\Q w.1 w.2):=by
 intro b F j H ρ vs rs D a Qd Q l el A R h q;obtain⟨w,h,s⟩:=h;obtain⟨x,y,U,kk,O,u,t,n,B,T,h⟩:=bn5 h;cases h;refine Y b F j H ρ _ _ (λr c=>r=x.1/\c=x.2) _ l R ⟨x,u,rfl,rfl⟩ λm v r I Z d=>?_;obtain⟨rfl,rfl⟩:=d;refine L b F j v _ _ _ (λr c=>r=y.1/\c=y.2) _ l Z ⟨y,t,rfl,rfl⟩ λv2 H2 r M g d=>?_;obtain⟨rfl,rfl⟩:=d;have S:=g.dt2 n;have e:m=kV kk:=by cases U<;>cases B<;>cases S<;>rfl
 subst e;obtain⟨p,hD,hl,J⟩:=Rel.growD (kk:=kk) (Rel.mn (g.frz1 T)) el;have G:a.2.length<1000000:=A;exact⟨_,⟨p,kk,hD,rfl,aay (by omega) (by decide:1000001<=sizeLine),rfl⟩,q _ _ _ J (by
  show (a9 kk O.1 a.1 a.2).2.length<=a.2.length+1;unfold a9;split
  ·rw[List.length_zipWith];omega
  ·rw[aaf];exact aag _) s⟩
theorem Fe(Z:¬ W i)(hN:X.N.Nodup)(hy:X.N[i]?=some y)(hl:X.env.scope.names.lookup y=some .local)(hc:X.calm=true)(S:CompScope N nt fr X.N scope X.env.scope)(hs:∀x,foldedSetIterable iter X.env x=pure x)
  (t:swapsWith (.DictComp kx vx [⟨tg,iter,[],0⟩] scope pos) (some (.Name y py)) spos.line X.env=pure true) (r:∀c:CC,(dM X N scope c).A.units+1<cLine) (B:PDi X tg iter (fN C mi)) (hg:∀c:CC,PDg (dM X N scope c) Ff nt tg (iO mt)) (hk:∀c:CC,PDe (dM X N scope c) kx (aF C mk')) (hv:∀c:CC,PDe (dM X N scope c) vx (aF C mv')):PDs X W (.Assign [.Name y py] (.DictComp kx vx [⟨tg,iter,[],0⟩] scope pos) spos) (iJ C (.sdc i nt fr mi mt mk' mv')):=by
 obtain⟨wi,h1,s1⟩:=B;obtain⟨g,l⟩:=PDg.ex (Y:=λc=>dM X N scope c) (λ_=>rfl) hg;obtain⟨tk,p⟩:=PDe.ex (Y:=λc=>dM X N scope c) (λ_=>rfl) hk;obtain⟨tv,j⟩:=PDe.ex (Y:=λc=>dM X N scope c) (λ_=>rfl) hv;refine⟨_,sy hN hy hl hc S h1 (λc=>(l c).1) (λc D=>l8 (r c) (p c).1 (j c).1) hs t,λb F M H s τ θ Dd D O n R ⟨z,h,q⟩ E=>?_⟩;obtain⟨w,_,ca,o,_,e1,hz,e2,T,B,h⟩:=bn5 h;cases h;refine s1 b F M H s τ θ (λL e=>L=w.1/\e=w.2) _ O R ⟨w,e1,rfl,rfl⟩ λJ I L m vs rs G U R1 it hZ=>?_;obtain⟨rfl,rfl⟩:=hZ;refine kK (Q:=λx I=>D.nx (M.set i (some x)) I) (a0:=([],[])) (Iv:=λk a s=>dZ (g6 C mt mk' mv') (w.1.drop k) a s=some o) (λw h=>w.newDic h) rfl (λc=>(l c).2) (λc=>xJ (p c).2 (j c).2) O G U R1 it (gd_ok hz) e2 T (λk d a s hd f=>by
  obtain⟨u,r,v⟩:=uy _ _ _ k hd f;obtain⟨m,e4,r⟩:=bnd r;exact⟨m,e4,u,r,v⟩) λH' D' a e R' f=>by
  have f:dZ (g6 C mt mk' mv') (w.1.drop w.1.length) a e=some o:=f;rw[aca]at f;cases f;exact E.nx _ _ _ (Rel.store (Rel.drops (Rel.z4 R' G) G) n (gd_ok B) Z) q
end
end
section
section
variable(t:Tb)
end
section
variable{t:Tb}{C:Ct}
end
def qQ(e:PySem.Stmt):Option (Expr):=if h:e.ctorIdx=24 then some (@PySem.Stmt.Expr.elim (λ_=>Expr) e h λx _=>x) else none
theorem jQ(h:qQ e=some z):∃p,e=.Expr z p:=by
 by_cases a:e.ctorIdx=24
 ·revert h;exact@PySem.Stmt.Expr.elim (λe=>qQ e=some z->∃p,e=.Expr z p) e a λx p h=>by cases h;exact⟨p,rfl⟩
 ·rw[qQ,dif_neg a]at h;cases h
def xK(e:PySem.Stmt):Option (List Expr×Expr):=if h:e.ctorIdx=5 then some (@PySem.Stmt.Assign.elim (λ_=>List Expr×Expr) e h λa x _=>(a,x)) else none
theorem asAs_ok(h:xK e=some z):∃p,e=.Assign z.1 z.2 p:=by
 by_cases a:e.ctorIdx=5
 ·revert h;exact@PySem.Stmt.Assign.elim (λe=>xK e=some z->∃p,e=.Assign z.1 z.2 p) e a λb x p h=>by cases h;exact⟨p,rfl⟩
 ·rw[xK,dif_neg a]at h;cases h
def uz(e:PySem.Stmt):Option (Expr×Operator×Expr):=if h:e.ctorIdx=7 then some (@PySem.Stmt.AugAssign.elim (λ_=>Expr×Operator×Expr) e h λt o x _=>(t,o,x)) else none
theorem ou(h:uz e=some z):∃p,e=.AugAssign z.1 z.2.1 z.2.2 p:=by
 by_cases a:e.ctorIdx=7
 ·revert h;exact@PySem.Stmt.AugAssign.elim (λe=>uz e=some z->∃p,e=.AugAssign z.1 z.2.1 z.2.2 p) e a λt o x p h=>by cases h;exact⟨p,rfl⟩
 ·rw[uz,dif_neg a]at h;cases h
def xM(e:PySem.Stmt):Option (Option Expr):=if h:e.ctorIdx=3 then some (@PySem.Stmt.Return.elim (λ_=>Option Expr) e h λo _=>o) else none
theorem xN(h:xM e=some z):∃p,e=.Return z p:=by
 by_cases a:e.ctorIdx=3
 ·revert h;exact@PySem.Stmt.Return.elim (λe=>xM e=some z->∃p,e=.Return z p) e a λo p h=>by cases h;exact⟨p,rfl⟩
 ·rw[xM,dif_neg a]at h;cases h
def xO(e:PySem.Stmt):Option (Expr×List Stmt×List Stmt):=if h:e.ctorIdx=12 then some (@PySem.Stmt.If.elim (λ_=>Expr×List Stmt×List Stmt) e h λc a b _=>(c,a,b)) else none
theorem xP(h:xO e=some z):∃p,e=.If z.1 z.2.1 z.2.2 p:=by
 by_cases d:e.ctorIdx=12
 ·revert h;exact@PySem.Stmt.If.elim (λe=>xO e=some z->∃p,e=.If z.1 z.2.1 z.2.2 p) e d λc a b p h=>by cases h;exact⟨p,rfl⟩
 ·rw[xO,dif_neg d]at h;cases h
def xQ(e:PySem.Stmt):Option (Expr×List Stmt×List Stmt):=if h:e.ctorIdx=11 then some (@PySem.Stmt.While.elim (λ_=>Expr×List Stmt×List Stmt) e h λc a b _=>(c,a,b)) else none
theorem xR(h:xQ e=some z):∃p,e=.While z.1 z.2.1 z.2.2 p:=by
 by_cases d:e.ctorIdx=11
 ·revert h;exact@PySem.Stmt.While.elim (λe=>xQ e=some z->∃p,e=.While z.1 z.2.1 z.2.2 p) e d λc a b p h=>by cases h;exact⟨p,rfl⟩
 ·rw[xQ,dif_neg d]at h;cases h
def xS(e:PySem.Stmt):Option (Expr×Expr×List Stmt×List Stmt):=if h:e.ctorIdx=9 then some (@PySem.Stmt.For.elim (λ_=>Expr×Expr×List Stmt×List Stmt) e h λg i a b _=>(g,i,a,b)) else none
theorem xT(h:xS e=some z):∃p,e=.For z.1 z.2.1 z.2.2.1 z.2.2.2 p:=by
 by_cases c:e.ctorIdx=9
 ·revert h;exact@PySem.Stmt.For.elim (λe=>xS e=some z->∃p,e=.For z.1 z.2.1 z.2.2.1 z.2.2.2 p) e c λg i a b p h=>by cases h;exact⟨p,rfl⟩
 ·rw[xS,dif_neg c]at h;cases h
def Fg(s:Stmt):Bool:=decide (s.ctorIdx=27)
theorem xU(h:Fg s=true):∃p,s=.Continue p:=@Stmt.Continue.elim (λs=>∃p,s=.Continue p) s (Daa h) λp=>⟨p,rfl⟩
def Ki(s:Stmt):Bool:=decide (s.ctorIdx=26)
def Kj(s:Stmt):Bool:=decide (s.ctorIdx=25)
def mK(s:Stmt):Option (Expr×Expr):=(xK s).bind λz=>(eB z.1).bind λt=>some (t,z.2)
theorem dR{z}(h:mK s=some z):∃p,s=.Assign [z.1] z.2 p:=by obtain⟨c,t,a,b,h⟩:=bn2 h;cases h;obtain⟨d,e⟩:=c;obtain⟨p,rfl⟩:=asAs_ok a;have:=one1_ok b;simp only at this;subst this;exact⟨p,rfl⟩
def Fh(a:Str)(s:Stmt):Option (Str×List Expr×Pos×Pos):=(qQ s).bind λe=>(BL e).bind λz=>if sEq z.2.1 a then some (z.1,z.2.2) else none
theorem xV{z}(h:Fh m0 s=some z):∃p a,s=.Expr (.Call (.Attribute (.Name z.1 p) m0 z.2.2.1) z.2.1 [] z.2.2.2) a:=by
 obtain⟨e,c,f,d,h⟩:=bn2 h;cases b:sEq c.2.1 m0 with
 |false=>rw[b]at h;cases h
 |true=>rw[b]at h;cases h;obtain⟨p,rfl⟩:=om d;obtain⟨a,rfl⟩:=jQ f;rw[cm b];exact⟨p,a,rfl⟩
def y3(s:Stmt):Option (Expr×Expr×Pos×Pos):=(qQ s).bind λe=>(eE e).bind λz=>(i4 z.1).bind λa=>(eB z.2.1).bind λx=>if z.2.2.1.isEmpty&&sEq a.2.1 "append" then some (a.1,x,a.2.2,z.2.2.2) else none
theorem uA{z}(h:y3 s=some z):∃p,s=.Expr (.Call (.Attribute z.1 "append" z.2.2.1) [z.2.1] [] z.2.2.2) p:=by
 obtain⟨e,c,a,x,l,k,j,r,h⟩:=bn4 h;obtain⟨f,t,i,q⟩:=c;obtain⟨o,m,u⟩:=a;cases b:(i.isEmpty&&sEq m "append") with
 |false=>simp only[b]at h;cases h
 |true=>
  simp only[b]at h;cases h;have d:=asAtt_ok j;have g:=one1_ok r;have n:=cm (an2 b).2;cases i with
  |cons _ _=>cases b
  |nil=>simp only at d g;subst n;subst g;subst d;obtain⟨p,rfl⟩:=jQ l;exact⟨p,by rw[dP k]⟩
def cmpE:E->Bool
 |.comp _ _ _ _ _ _=>true|.frz a=>(match a with|.comp _ _ _ _ _ _=>true|_=>false)|_=>false
def setB(t:Tb)(a:Nat->Bool)(N:List Str)(sc:Scope)(i:Nat)(m:E)(x:Str)(p:Pos)(e:Expr):Bool:=k5 a N sc true N.length i x&&(aS t m).1 N sc e&&match mG e with
 |some z=>!swC sc x p z.2.2.2 z.2.2.1||cmpE m
 |none=>!fP e
def uD(e:PySem.Expr):Option (Str×Pos):=if h:e.ctorIdx=23 then some (@PySem.Expr.Name.elim (λ_=>Str×Pos) e h λx p=>(x,p)) else none
theorem ow(h:uD e=some z):e=.Name z.1 z.2:=by
 by_cases a:e.ctorIdx=23
 ·revert h;exact@PySem.Expr.Name.elim (λe=>uD e=some z->e=.Name z.1 z.2) e a λx p h=>by cases h;exact rfl
 ·rw[uD,dif_neg a]at h;cases h
section
variable(t:Tb)
mutual
def Fi(d:Nat->Bool):S'->List Str->Scope->Stmt->Bool
 |.ex m=>λN sc s=>(qQ s).any λe=>!fP e&&(aS t m).1 N sc e
 |.set i m=>λN sc s=>(mK s).any λz=>(uD z.1).any λx=>setB t d N sc i m x.1 x.2 z.2
 |.asg g m=>λN sc s=>(mK s).any λz=>isTup z.1&&yZ z.1 z.2 sc&&(aS t m).1 N sc z.2&&ue d N sc true N.length g z.1
 |.par is ms=>λN sc s=>(mK s).any λz=>(cY z.1).any λf=>(cY z.2).any λvs=>hX t ms N sc vs&&decide (F6 f vs sc=some (some (qP f sc)))&&(match is with
  |[i,j]=>(jH f).any λw=>(jH vs).any λ_=>(cH w.1).any λx=>(cH w.2).any λy=>decide (qP f sc=[x,y])&&decide (i≠j)&&(decide (N[i]?=some x)&&decide (N[j]?=some y))&&(kindB sc x .local&&kindB sc y .local)&&(d i&&d j)
  |[i,j,k]=>(wZ f).any λw=>(wZ vs).any λ_=>(cH w.1).any λx=>(cH w.2.1).any λy=>(cH w.2.2).any λz=>decide (qP f sc=[x,y,z])&&(decide (i≠j)&&decide (i≠k)&&decide (j≠k))&&(decide (N[i]?=some x)&&decide (N[j]?=some y)&&decide (N[k]?=some z))&&(kindB sc x .local&&kindB sc y .local&&kindB sc z .local)&&(d i&&d j&&d k)
  |_=>false)
 |.aug i o m=>λN sc s=>(uz s).any λz=>(cH z.1).any λx=>HL o z.2.1&&k5 d N sc true N.length i x&&(aS t m).1 N sc z.2.2
 |.agl i m=>λN sc s=>(uz s).any λz=>(cH z.1).any λx=>BK z.2.1&&k5 d N sc true N.length i x&&(aS t m).1 N sc z.2.2
 |.ret m=>λN sc s=>(xM s).any λo=>o.any λe=>(aS t m).1 N sc e
 |.iff c a b=>λN sc s=>(xO s).any λz=>(aS t c).2 N sc z.1&&ib d a N sc z.2.1&&ib d b N sc z.2.2
 |.whl c b=>λN sc s=>(xQ s).any λz=>(aS t c).2 N sc z.1&&ib d b N sc z.2.1&&z.2.2.isEmpty
 |.fr g it b=>λN sc s=>(xS s).any λz=>!isSet z.2.1&&xH t it N sc z.1 z.2.1&&ue d N sc true N.length g z.1&&ib d b N sc z.2.2.1&&z.2.2.2.isEmpty
 |.cont=>λN sc s=>Fg s
 |.app i m=>λN sc s=>(y3 s).any λz=>(cH z.1).any λx=>xy N sc i x&&(z.2.2.1.endLine==z.2.2.2.line)&&!isStar z.2.1&&(aS t m).1 N sc z.2.1
 |.ins i k m=>λN sc s=>(Fh "insert" s).any λz=>(jH z.2.1).any λy=>xy N sc i z.1&&(z.2.2.1.endLine==z.2.2.2.line)&&(!isStar y.1&&!isStar y.2)&&(aS t k).1 N sc y.1&&(aS t m).1 N sc y.2
 |.sti i k m=>λN sc s=>(mK s).any λz=>(cZ z.1).any λw=>(cH w.1).any λx=>xy N sc i x&&!bS w.2&&!fP z.2&&(aS t m).1 N sc z.2&&(aS t k).1 N sc w.2
 |.sdk i k m=>λN sc s=>(mK s).any λz=>(cZ z.1).any λw=>(cH w.1).any λx=>xy N sc i x&&!fP z.2&&(aS t m).1 N sc z.2&&(aS t k).1 N sc w.2
 |.sdc i nt fr it tg ke ve=>λN sc s=>(mK s).any λz=>(uD z.1).any λx=>(yV z.2).any λw=>(λh=>k5 d N sc true N.length i x.1&&n6 h nt fr N w.2.2.2.2.2.1 sc&&!isSet w.2.2.2.1&&xH t it N sc w.2.2.1 w.2.2.2.1&&swC sc x.1 x.2 w.2.2.2.2.2.2 w.2.2.2.2.2.1&&(decide h.Nodup&&w.2.2.2.2.1.isEmpty&&ue (λ_=>true) h (qO w.2.2.2.2.2.1 sc) false nt tg w.2.2.1&&(aS t ke).1 h (qO w.2.2.2.2.2.1 sc) w.1&&(aS t ve).1 h (qO w.2.2.2.2.2.1 sc) w.2.1)) (BG w.2.2.1++fr.filterMap λj=>N[j]?)
def ib(a:Nat->Bool):Ss->List Str->Scope->List Stmt->Bool
 |.nil=>λN sc s=>s.isEmpty
 |.cons m ms=>λN sc s=>(qN s).any λz=>Fi a m N sc z.1&&ib a ms N sc z.2
end
end
structure Cs (t:Tb)(C:Ct)(W:Nat->Prop)(ok:Nat->Bool)(X:Cx):Prop where
 c:Cy t C X
 nd:X.N.Nodup
 fn:∀x,X.fn x=true
 pass:PassesOwn (model X.prog X.w) X.A X.env X.xe
 hw:∀i,ok i=true->¬ W i
section
variable{t:Tb}{C:Ct}
theorem Fj:swappedStores [.Subscript o i p] e env=pure none:=by cases e<;>rfl
theorem ox{b:Stmt}(h:PDs X W b (A6 is (g7 C ms))):PDs X W b (iJ C (.par is ms)):=h.imp λD e ⟨y,h,q⟩=>by obtain⟨z,o,_,c,d,a,h⟩:=bn3 h;have a:=gd_ok a;cases h;exact⟨z,c,o.1,o.2,d,a.1,a.2,q⟩
theorem uF(c:Cs t C W ok X){z}(l:mG e=some z)(s:Sto X W X.N.length i x)(a:swC X.env.scope x p z.2.2.2 z.2.2.1=true)
  (h:(aS t (.comp nt fr it tg ifs el)).1 X.N X.env.scope e=true):PDx X i (.Assign [.Name x p] e pos) (aF C (.comp nt fr it tg ifs el)):=by
 have g:X.env.scope.names.lookup x=some .local:=by unfold swC at a;have:=(an4 a).2.1;simpa using this
 obtain⟨w,n,h⟩:=anyT h;have j:=k7 n;subst j;cases l;obtain⟨k,r,b,m,f⟩:=an5 h;obtain⟨o,d,u⟩:=an3 f;exact BO c.nd s.hN g c.c.calm (hU k) (jM (bK b)) (F5 it X _ _ c.c m) (λq=>eY c.c.calm (Daa r) (λz=>by cases z) (λ_ _ z=>z) o) (λq=>IW ifs (dM X _ w.2.2.2.2.1 q) _ _ c.c.comp (ba el) d u) (by rw[uw,a])
theorem xW(c:Cs t C W ok X)(h:setB t ok X.N X.env.scope i m x p e=true):PDs X W (.Assign [.Name x p] e pos) (iJ C (.set i m)):=by
 obtain⟨u,g,b⟩:=an3 h;have s:=dQ (λ_=>c.fn) c.hw u;cases f:mG e with
 |none=>rw[f]at b;exact yR c.nd s (jJ (bK b)) ((ba m).v X _ c.c g)
 |some z=>
  rw[f]at b;cases d:swC X.env.scope x p z.2.2.2 z.2.2.1 with
  |false=>have l:=nY f;exact yR c.nd s (by rw[l,uw,d]) ((ba m).v X _ c.c g)
  |true=>
   have b:(!swC X.env.scope x p z.2.2.2 z.2.2.1||cmpE m)=true:=b;rw[d]at b;have b:cmpE m=true:=b;cases m with
   |comp o n k r j q=>exact ux s.nw (uF c f s d g)
   |frz a=>
    cases a with
    |comp o n k r j q=>exact ux s.nw (Fd (uF c f s d g))
    |_=>cases b
   |_=>cases b
mutual
theorem Kk{W:Nat->Prop}{ok:Nat->Bool}:∀(m:S') X s,Cs t C W ok X->Fi t ok m X.N X.env.scope s=true->PDs X W s (iJ C m)
 |.ex m,X,s,c,h=>by obtain⟨e,f,d⟩:=anyT h;obtain⟨p,rfl⟩:=jQ f;exact Hy (bK (an2 d).1) ((ba m).v X _ c.c (an2 d).2)
 |.set i m,X,s,c,h=>by obtain⟨z,x,f,A,d⟩:=ay2 h;obtain⟨p,rfl⟩:=dR f;rw[ow A];exact xW c d
 |.asg g m,X,s,c,h=>by
  obtain⟨z,f,d⟩:=anyT h;obtain⟨p,rfl⟩:=dR f;obtain⟨l,r,B,D⟩:=an4 d;refine ER ?_ (uv r) ?_ ((ba m).v X _ c.c B) (eY c.c.calm c.nd (λ_=>c.fn) c.hw D)
  ·obtain⟨_,_,_,e⟩:=eW l;rw[e];cases z.2<;>rfl
  obtain⟨_,_,_,e⟩:=eW l;rw[e];rfl
 |.par is ms,X,s,c,h=>by
  obtain⟨z,ts,vs,f,A,L,d⟩:=ay3 h;obtain⟨p,rfl⟩:=dR f;obtain⟨z1,z2⟩:=z;obtain⟨k1,p1,e1⟩:=asTup_ok A;obtain⟨k2,p2,e2⟩:=asTup_ok L;simp only at e1 e2;subst e1 e2;obtain⟨l,n,d⟩:=an3 d;have G:=Daa n
  match is,d with
  |[i,j],d=>
   obtain⟨w,u,x,y,S,M,b3,Y,d⟩:=ay4 d;have Z:=two2_ok S;have U:=two2_ok M;obtain⟨w1,w2⟩:=w;obtain⟨q1,e5⟩:=asNm_ok b3;obtain⟨q2,T⟩:=asNm_ok Y;simp only at Z U e5 T;subst e5 T;subst Z U;obtain⟨c1,c2,c3,c4,c5⟩:=an5 d;rw[Daa c1]at G;refine ox (wM (λk H=>?_) c.c.calm c.nd (Daa (an2 c3).1) (Daa (an2 c3).2) (Daa c2) (aM (an2 c4).1) (aM (an2 c4).2) (mJ G) rfl (yY ms X _ c.c l));rcases aab.mp H with rfl|H
   ·exact c.hw _ (an2 c5).1
   ·rw[aaH.mp H];exact c.hw _ (an2 c5).2
  |[i,j,k],d=>
   obtain⟨w,u,x,y,z,S,M,b3,Y,b5,d⟩:=ay5 d;have Z:=thr3_ok S;have U:=thr3_ok M;obtain⟨w1,w2,w3⟩:=w;obtain⟨q1,e5⟩:=asNm_ok b3;obtain⟨q2,T⟩:=asNm_ok Y;obtain⟨q3,e7⟩:=asNm_ok b5;simp only at Z U e5 T e7;subst e5 T e7;subst Z U;obtain⟨c1,c2,c3,c4,c5⟩:=an5 d;obtain⟨d1,d2,d3⟩:=an3 c2;obtain⟨d4,d5,d6⟩:=an3 c3;obtain⟨d7,d8,d9⟩:=an3 c4;obtain⟨f1,f2,f3⟩:=an3 c5;rw[Daa c1]at G;refine ox (sU (λk H=>?_) c.c.calm c.nd (Daa d4) (Daa d5) (Daa d6) (Daa d1) (Daa d2) (Daa d3) (aM d7) (aM d8) (aM d9) (mJ G) rfl (yY ms X _ c.c l));rcases aab.mp H with rfl|H
   ·exact c.hw _ f1
   ·rcases aab.mp H with rfl|H
    ·exact c.hw _ f2
    ·rw[aaH.mp H];exact c.hw _ f3
  |[],d=>exact absurd d aad
  |[_],d=>exact absurd d aad
  |_::_::_::_::_,d=>exact absurd d aad
 |.aug i o m,X,s,c,h=>by obtain⟨z,x,f,A,d⟩:=ay2 h;obtain⟨p,rfl⟩:=ou f;obtain⟨q,e⟩:=asNm_ok A;obtain⟨l,n,r⟩:=an3 d;rw[e,t9 l];exact ET c.nd (dQ (λ_=>c.fn) c.hw n) ((ba m).v X _ c.c r)
 |.agl i m,X,s,c,h=>by obtain⟨z,x,f,A,d⟩:=ay2 h;obtain⟨p,rfl⟩:=ou f;obtain⟨q,e⟩:=asNm_ok A;obtain⟨l,n,r⟩:=an3 d;rw[e,oj l];exact EU c.nd (dQ (λ_=>c.fn) c.hw n) ((ba m).v X _ c.c r)
 |.ret m,X,s,c,h=>by obtain⟨o,e,f,A,d⟩:=ay2 h;obtain⟨p,rfl⟩:=xN f;subst A;exact EO ((ba m).v X _ c.c d)
 |.iff z a b,X,s,c,h=>by obtain⟨q,f,d⟩:=anyT h;obtain⟨p,rfl⟩:=xP f;obtain⟨l,n,r⟩:=an3 d;exact Hz ((ba z).t X _ c.c l) (qR a X _ c n) (qR b X _ c r)
 |.whl z b,X,s,c,h=>by
  obtain⟨q,f,d⟩:=anyT h;obtain⟨p,rfl⟩:=xR f;obtain⟨l,n,r⟩:=an3 d;obtain⟨q1,q2,q3⟩:=q;cases q3 with
  |nil=>exact xm c.pass ((ba z).t X _ c.c l) (qR b X _ c n)
  |cons _ _=>cases r
 |.fr g it b,X,s,c,h=>by
  obtain⟨q,f,d⟩:=anyT h;obtain⟨p,rfl⟩:=xT f;obtain⟨l,n,r,B,D⟩:=an5 d;obtain⟨q1,q2,q3,q4⟩:=q;cases q4 with
  |nil=>exact ES c.pass c.c.calm (jM (bK l)) (F5 it X _ _ c.c n) (eY c.c.calm c.nd (λ_=>c.fn) c.hw r) (qR b X _ c B)
  |cons _ _=>cases D
 |.cont,X,s,c,h=>by obtain⟨p,rfl⟩:=xU h;exact By
 |.app i m,X,s,c,h=>by obtain⟨z,x,f,A,d⟩:=ay2 h;obtain⟨p,rfl⟩:=uA f;obtain⟨q,e⟩:=asNm_ok A;obtain⟨l,n,r,B⟩:=an4 d;obtain⟨J,I,Q,O⟩:=c9 l;rw[e];exact EZ J I Q O n (bK r) ((ba m).v X _ c.c B)
 |.ins i k m,X,s,c,h=>by obtain⟨z,y,f,A,d⟩:=ay2 h;obtain⟨p,p',rfl⟩:=xV f;obtain⟨l,n,r,B,D⟩:=an5 d;obtain⟨S,M⟩:=an2 r;obtain⟨J,I,Q,O⟩:=c9 l;rw[two2_ok A];exact E1 J I Q O n (bK S) (bK M) ((ba k).v X _ c.c B) ((ba m).v X _ c.c D)
 |.sti i k m,X,s,c,h=>by obtain⟨z,w,x,f,A,L,d⟩:=ay3 h;obtain⟨p,rfl⟩:=dR f;obtain⟨q,e⟩:=asSub_ok A;obtain⟨q',e'⟩:=asNm_ok L;obtain⟨l,n,r,B,D⟩:=an5 d;obtain⟨J,I,Q,O⟩:=c9 l;rw[e,e'];exact E2 J I Q O (bK n) (jJ (bK r)) Fj ((ba m).v X _ c.c B) ((ba k).v X _ c.c D)
 |.sdk i k m,X,s,c,h=>by obtain⟨z,w,x,f,A,L,d⟩:=ay3 h;obtain⟨p,rfl⟩:=dR f;obtain⟨q,e⟩:=asSub_ok A;obtain⟨q',e'⟩:=asNm_ok L;obtain⟨l,n,r,B⟩:=an4 d;obtain⟨J,I,Q,O⟩:=c9 l;rw[e,e'];exact E3 (by have:=c.c.units;omega) J I Q O (jJ (bK n)) ((ba m).v X _ c.c r) ((ba k).v X _ c.c B)
 |.sdc i nt fr it tg ke ve,X,s,c,h=>by
  obtain⟨z,x,w,f,A,L,d⟩:=ay3 h;obtain⟨p,rfl⟩:=dR f;obtain⟨k0,k1⟩:=an2 d;obtain⟨l,n,r,B,D⟩:=an5 k0;obtain⟨S,M,b3,Y,b5⟩:=an5 k1;have s:=dQ (W:=W) (λ_=>c.fn) c.hw l;have hl:X.env.scope.names.lookup x.1=some .local:=by unfold swC at D;have:=(an4 D).2.1;simpa using this
  rw[ow A,um L,List.isEmpty_iff.mp M];exact Fe s.nw c.nd s.hN hl c.c.calm (hU n) (jM (bK r)) (by show pure (swC X.env.scope x.1 x.2 w.2.2.2.2.2.2 w.2.2.2.2.2.1)=_;rw[D]) (λq=>by have:=(c.c.comp (q:=q) (N:=BG w.2.2.1++fr.filterMap λj=>X.N[j]?) (sc:=w.2.2.2.2.2.1)).units;omega) (F5 it X _ _ c.c B) (λq=>eY (X:=dM X _ w.2.2.2.2.2.1 q) (fn:=false) c.c.calm (Daa S) (λz=>by cases z) (λ_ _ z=>z) b3) (λq=>(ba ke).v (dM X _ w.2.2.2.2.2.1 q) _ c.c.comp Y) λq=>(ba ve).v (dM X _ w.2.2.2.2.2.1 q) _ c.c.comp b5
theorem qR{W:Nat->Prop}{a:Nat->Bool}:∀(m:Ss) X s,Cs t C W a X->ib t a m X.N X.env.scope s=true->PDss X W s (kT C m)
 |.nil,X,s,c,h=>by
  cases s with
  |nil=>exact Bw
  |cons _ _=>cases h
 |.cons m ms,X,s,c,h=>by obtain⟨z,d,b⟩:=anyT h;have:=con1_ok d;subst this;exact xl (Kk m X _ c (an2 b).1) (qR ms X _ c (an2 b).2)
end
end
end
section
structure Df where
 name:Str
 qual:Str
 st:Stmt
 ps:List Str
 N:List Str
 fn:Fn
def BP(N ps:List Str)(sc:Scope):Bool:=decide (sc.kind=.function)&&!sc.isCoroutine&&!sc.isGenerator&&decide N.Nodup&&decide (N.take ps.length=ps)&&ps.all (λx=>xw sc x)&&sc.names.all λy=>!decide (y.2=.free)
theorem xX(h:BP N ps sc=true):FnScope N ps sc:=by unfold BP at h;simp only[aaC,abq,abO,decide_eq_true_eq,decide_eq_false_iff_not]at h;obtain⟨⟨⟨⟨⟨⟨i,f⟩,c⟩,b⟩,e⟩,g⟩,a⟩:=h;exact⟨i,f,c,b,e,λx d=>nZ (g x d),a⟩
def mL(ios:List Bool)(i:Nat):Bool:=!decide (ios[i]?=some true)
def xY(t:Tb)(d:Df):Bool:=BP d.N d.ps (aK d.st)&&decide (d.fn.io.length=d.ps.length)&&decide (d.fn.n=d.N.length)&&ib t (mL d.fn.io) d.fn.body d.N (aK d.st) (bD d.st)
structure Md (K:Waa)(mg:Str->Option Value)(t:Tb)(p:Pg)(D:Nat->Option Df):Prop where
 df:∀j d,D j=some d->p.F j=some d.fn/\xY t d=true/\∃f fd,Fun K d.name d.qual d.st f fd/\Binds K fd d.ps [] /\
  (∀nm,t.fn j=some nm->mg nm=some (.ref f)/\PySem.W.keepIn K (.ref f)=true)/\(∀c m,t.me j=some (c,m)->Cls K (aU K c)/\Meth K (aU K c) m f)/\(∀c,t.mk' j=some c->Mk K (aU K c) f/\mg c=some (.ref (aU K c)))
 all:∀j,((t.fn j).isSome||(t.me j).isSome||(t.mk' j).isSome)=true->(D j).isSome=true
 gc:∀g nm,t.gc g=some nm->∃v u,mg nm=some u/\RelV v u/\∀S H,Fz K S H v (p.gv g)
 ng:∀x,t.nog x=true->mg x=none
 fl:∀c f,t.fld c f=true->Cls K (aU K c)/\fH K (aU K c) f
section
variable{P:Program}{w:World}{K:Waa}{mg:Str->Option Value}{base:Heap}{t:Tb}{p:Pg}{D:Nat->Option Df}
theorem k9(h:∀xs Q,¬ sp xs Q):FnD P w K mg base k f fd ps sp:=by have c:∀a H Q E,¬ toSp K sp a H Q E:=λa H Q E ⟨S,xs,A,_,_,_,_,z⟩=>h _ _ z;exact⟨⟨λa H Q E z=>(c _ _ _ _ z).elim,λA b s H d e a Q E _ _ _ _ z=>(c _ _ _ _ z).elim⟩,λxs P R _ z=>(h _ _ z).elim⟩
theorem lh(h:∀xs,g xs=none):∀xs Q,¬ spC g xs Q:=λxs Q ⟨w,e,_⟩=>by rw[h]at e;cases e
theorem Md.ok(M:Md K mg t p D):∀(n:Nat),(∀(j:Nat) (d:Df),D j=some d->∀(f:Addr) (r:FuncData),Fun K d.name d.qual d.st f r->FnD P w K mg base (n+1) f r d.ps (spC (p.call n j))) /\
  (∀(j:Nat) (d:Df),D j=some d->∀(f:Addr) (r:FuncData),Fun K d.name d.qual d.st f r->FnD P w K mg base n f r d.ps (spC (p.mak n j)))
 |0=>⟨λj d _ f r _=>k9 (lh λ_=>rfl),λj d _ f r _=>k9 (lh λ_=>rfl)⟩
 |n+1=>by
  obtain⟨v,U⟩:=Md.ok M n;refine⟨λj d O f r F=>?_,λj d O f r F=>v j d O f r F⟩;obtain⟨h1,I,_⟩:=M.df j d O;unfold xY at I;simp only[aaC,decide_eq_true_eq]at I;obtain⟨⟨⟨g1,Z⟩,g3⟩,g4⟩:=I;have S:=xX g1;refine F.okD S (tU _) Z (λxs Q ⟨z,e,_⟩=>?_) λy A g s H E B xs Q ⟨z,e,q⟩=>?_
  ·rw[Pg.ez,h1]at e;simp only at e;split at e
   ·rename_i hl;rw[hl];exact Z
   ·cases e
  ·have c:Cy t (p.ct n) (jq CX0 P w K mg base d.N d.qual (aK d.st) f y A g s H E).vu:=by
    refine⟨rfl,B.units,B.gd,λk nm h=>?_,λk c m h=>?_,λk c h=>?_,M.gc,M.ng,M.fl⟩
    ·obtain⟨l,b⟩:=abi.mp (M.all k (by rw[h];rfl));obtain⟨_,_,u,a,G,C,X,_,_⟩:=M.df k l b;exact⟨n+1,u,a,l.ps,v k l b u a G,B,(X nm h).1,(X nm h).2,C⟩
    ·obtain⟨l,b⟩:=abi.mp (M.all k (by rw[h];simp));obtain⟨_,_,u,a,G,C,_,q2,_⟩:=M.df k l b;exact⟨(q2 c m h).1,n+1,u,a,l.ps,(q2 c m h).2,v k l b u a G,B,C⟩
    ·obtain⟨l,b⟩:=abi.mp (M.all k (by rw[h];simp));obtain⟨_,_,u,a,G,C,_,_,q3⟩:=M.df k l b;exact⟨n,u,a,l.ps,(q3 c h).1,U k l b u a G,B,(q3 c h).2,C⟩
   have cs:Cs t (p.ct n) (WS d.fn.io) (mL d.fn.io) (jq CX0 P w K mg base d.N d.qual (aK d.st) f y A g s H E).vu:=
    ⟨c,S.nd,λ_=>rfl,PassesOwn.never,λi T z=>by
     unfold mL at T;simp only[abO,decide_eq_false_iff_not]at T;exact T z⟩
   refine⟨_,qR d.fn.body _ _ cs g4,?_⟩;rw[Pg.ez,h1]at e;simp only at e;split at e
   ·unfold tN at e;obtain⟨x,Y,e⟩:=bnd e;rw[g3]at Y;refine⟨x,Y,?_⟩;obtain⟨fl,ρ⟩:=x;cases fl with
    |nx=>obtain⟨L,J,e⟩:=bnd e;cases e;exact⟨L,J,q⟩
    |rt o=>obtain⟨L,J,e⟩:=bnd e;cases e;exact⟨L,J,q⟩
    |bk=>cases e
    |ct=>cases e
   ·cases e
theorem Md.law(M:Md K mg t p D)(i:D j=some d)(F:Fun K d.name d.qual d.st f fd)
  (h:∀ns:List Int,ns.length<=63->∃ys,p.call n j [.fz (.list (ns.map PyData.int))]=some (.fz (.bool true),ys)):
  FnOk P w K mg base CX0 (n+1) f fd d.ps (λvs H Q _=>∃(a:Addr) (ns:List Int),vs=[.ref a]/\SqL K H a (ns.map V.int)/\ns.length<=63/\∀b,Q (.bl true) b):=by
 refine((M.ok n).1 j d i f fd F).ok.imp λvs H Q E e=>?_;obtain⟨a,ns,rfl,l,g,q⟩:=e;obtain⟨ys,k⟩:=h ns g;refine⟨λ_=>False,[.fz (.list (ns.map PyData.int))],[],λa z=>z.elim,λ_ _ _ z=>z,Ows.cons (.fz ((Fz.of0 (.lst l (DtAll.ints ns))).sub λc z=>z.elim (λz=>by cases z) id)) .nil,aa1,_,k,λv b B _ m _ _=>?_⟩;cases m with
 |cons r _=>
  cases r with
  |fz f=>cases f;exact q b
end
end
section
inductive Kd where|fn|me (c:Str)|ini (c:Str)
def Kd.fn?(d:Df):Kd->Option Str|.fn=>some d.name|_=>none
def Kd.me?(d:Df):Kd->Option (Str×Str)|.me c=>some (c,d.name)|_=>none
def Kd.ini?:Kd->Option Str|.ini c=>some c|_=>none
structure Pl where
 ds:List (Df×Kd)
 cs:List (Str×PyData)
 nog:List Str
 fld:List (Str×Str)
def Pl.tb(P:Pl):Tb where
 fn j:=(P.ds[j]?).bind λz=>z.2.fn? z.1
 me j:=(P.ds[j]?).bind λz=>z.2.me? z.1
 mk' j:=(P.ds[j]?).bind λz=>z.2.ini?
 gc g:=(P.cs[g]?).map (·.1)
 nog x:=P.nog.any λy=>sEq x y
 fld c f:=P.fld.any λy=>sEq c y.1&&sEq f y.2
def Pl.pg(P:Pl):Pg where
 F j:=(P.ds[j]?).map (·.1.fn)
 gv g:=((P.cs[g]?).map (·.2)).getD .none
 wf:=100000
def Pl.D(P:Pl)(j:Nat):Option Df:=(P.ds[j]?).map (·.1)
def Fk(K:Waa)(a:Str->Option Value)(d:Df)(f:Addr):Kd->Prop
 |.fn=>a d.name=some (.ref f)/\PySem.W.keepIn K (.ref f)=true
 |.me c=>Cls K (aU K c)/\Meth K (aU K c) d.name f
 |.ini c=>Mk K (aU K c) f/\a c=some (.ref (aU K c))
def y4(K:Waa)(b:Str->Option Value)(z:Df×Kd):Prop:=∃f a,Fun K z.1.name z.1.qual z.1.st f a/\Binds K a z.1.ps []/\Fk K b z.1 f z.2
section
variable{K:Waa}{mg:Str->Option Value}{P:Pl}
theorem mp{d c:Type}{o:Option d}{f:d->c}{b:c}(h:o.map f=some b):∃a,o=some a/\f a=b:=by
 cases o with
 |none=>cases h
 |some a=>exact⟨a,rfl,aaE h⟩
theorem Pl.md(B:(P.ds.all λz=>xY P.tb z.1)=true)(s:∀z∈P.ds,y4 K mg z)(q:∀z∈P.cs,∃v u,mg z.1=some u/\RelV v u/\∀S H,Fz K S H v z.2)(G:∀x∈P.nog,mg x=none)(h5:∀z∈P.fld,Cls K (aU K z.1)/\fH K (aU K z.1) z.2):Md K mg P.tb P.pg P.D where
 df j d hj:=by
  obtain⟨z,b,l⟩:=mp hj;subst l;have o:=aaz b;obtain⟨f,w,A,I,i⟩:=s z o;refine⟨by show (P.ds[j]?).map _=_;rw[b];rfl,abq.mp B z o,f,w,A,I,λp a=>?_,λc m a=>?_,λc a=>?_⟩
  ·have a:((P.ds[j]?).bind λz=>z.2.fn? z.1)=some p:=a;rw[b]at a;obtain⟨d,k⟩:=z;cases k<;>cases a;exact i
  ·have a:((P.ds[j]?).bind λz=>z.2.me? z.1)=some (c,m):=a;rw[b]at a;obtain⟨d,k⟩:=z;cases k<;>cases a;exact i
  ·have a:((P.ds[j]?).bind λz=>z.2.ini?)=some c:=a;rw[b]at a;obtain⟨d,k⟩:=z;cases k<;>cases a;exact i
 all j h:=by
  show ((P.ds[j]?).map _).isSome=true;cases e:P.ds[j]? with
  |none=>have h:((((P.ds[j]?).bind λz=>z.2.fn? z.1).isSome||((P.ds[j]?).bind λz=>z.2.me? z.1).isSome)||((P.ds[j]?).bind λz=>z.2.ini?).isSome)=true:=h;rw[e]at h;cases h
  |some z=>rfl
 gc g p h:=by
  obtain⟨z,b,l⟩:=mp h;subst l;obtain⟨v,u,C,t,J⟩:=q z (aaz b);have r:P.pg.gv g=z.2:=by show ((P.cs[g]?).map _).getD _=_;rw[b];rfl
  rw[r];exact⟨v,u,C,t,J⟩
 ng x h:=by obtain⟨y,n,e⟩:=abd.mp h;rw[cm e];exact G y n
 fl c f h:=by obtain⟨y,n,e⟩:=abd.mp h;rw[cm (an2 e).1,cm (an2 e).2];exact h5 y n
end
end
end L2
namespace L2
open PySem
theorem bs{a b:Type}{o:Option a}{f:a->Option b}{x:a}{r:Option b}(h:o=some x)(k:f x=r):o.bind f=r:=by rw[h];exact k
theorem Kl[Decidable c](h:c):gd c=some ():=if_pos h
theorem bg{a:Type}[Decidable c]{f:Unit->Option a}{r:Option a}(h:c)(k:f ()=r):(gd c).bind f=r:=bs (Kl h) k
section
variable{C:Ct}{a b c e:E}{es:Es}{ρ ρ1 ρ2 ρ3:DEnv}{x y:OR}{dx dy d:PyData}{k k1:Bool}{i j f:Nat}{n:Int}{rs:List OR}{xs ys zs:List OD}{z w:OD}{ds:List PyData}{s:S'}{ss sa sb:Ss}{fl:Fl}{r:Option (Fl×DEnv)}{rv:Option (OR×DEnv)}{rt:Option (Bool×DEnv)}{ps:List Acc}
theorem ah{o:Bo}(p:ev C a ρ=some (x,ρ1))(m:ev C b ρ1=some (y,ρ2))(g:au ρ2 x=some dx)(l:au ρ2 y=some dy)(h:vM o dx dy=some d):ev C (.bop o a b) ρ=some (.val (.fz d),ρ2):=bs p (bs m (bs g (bs l (bs h rfl))))
theorem ao{o:Co}(p:ev C a ρ=some (x,ρ1))(m:ev C b ρ1=some (y,ρ2))(g:au ρ2 x=some dx)(l:au ρ2 y=some dy)(h:kO o dx dy=some k):ev C (.cmp o a b) ρ=some (.val (.fz (.bool k)),ρ2):=bs p (bs m (bs g (bs l (bs h rfl))))
theorem aw(m:ev C a ρ=some (x,ρ1))(g:ev C b ρ1=some (y,ρ2))(l:au ρ2 y=some (.int n))(h:bJ ρ2 x n=some (z,ρ3)):ev C (.ix a b) ρ=some (.val z,ρ3):=bs m (bs g (bs l (bs rfl (bs h rfl))))
theorem af(l:evs C es ρ=some (rs,ρ1))(g:bt (C.io f) ρ1 rs=some (xs,ρ2))(m:C.call f xs=some (w,ys))(h:iZ (C.io f) rs ys ρ2=ρ3):ev C (.call f es) ρ=some (.val w,ρ3):=bs l (bs g (bs m (by rw[<-h])))
theorem oy(l:evs C es ρ=some (rs,ρ1))(g:cU ρ1 rs=some ds)(m:C.call f (ds.map OD.fz)=some (.fz d,ys))(h:Bd d=true):ev C (.callS f es) ρ=some (.val (.fz d),ρ1):=bs l (bs g (bs m (bs rfl (bg h rfl))))
theorem oz(h:ev C (.callS f es) ρ=some (.val (.fz (.bool k)),ρ1)):aP C (.callS f es) ρ=some (k,ρ1):=bs h rfl
theorem bb(l:evs C es ρ=some (rs,ρ1))(h:Nat.ble rs.length 1000000=true)(g:mapR own1 ρ1 rs=some (zs,ρ2)):ev C (.lst es) ρ=some (.val (.lst zs),ρ2):=bs l (bs g (bg (Nat.ble_eq.mp h) rfl))
theorem bV(l:evs C es ρ=some (rs,ρ1))(h:Nat.ble rs.length 1000000=true)(g:mapR own1 ρ1 rs=some (zs,ρ2))(m:mkTup zs=z):ev C (.tup es) ρ=some (.val z,ρ2):=bs l (bs g (bg (Nat.ble_eq.mp h) (by rw[<-m])))
theorem aj:evs C .nil ρ=some ([],ρ):=rfl
theorem aa(h:ev C e ρ=some (x,ρ1))(g:evs C es ρ1=some (rs,ρ2)):evs C (.cons e es) ρ=some (x::rs,ρ2):=bs h (bs g rfl)
theorem cD(h:aP C c ρ=some (true,ρ1))(k:ev C a ρ1=rv):ev C (.ife c a b) ρ=rv:=bs h k
theorem bW(h:aP C c ρ=some (false,ρ1))(k:ev C b ρ1=rv):ev C (.ife c a b) ρ=rv:=bs h k
theorem aG{g:Bl}(l:evs C es ρ=some (rs,ρ1))(h:cU ρ1 rs=some ds)(m:yM g ds=some d):ev C (.blt g es) ρ=some (.val (.fz d),ρ1):=bs l (bs h (bs m rfl))
theorem oA(h:ev C e ρ=some (x,ρ1))(g:(dY ρ1 x).bind listOf=some ds):ev C (.bnw .tuple e) ρ=some (.val (.fz (.tuple ds)),ρ1):=bs h (bs g rfl)
theorem lj{ns:List Int}(m:ev C e ρ=some (x,ρ1))(h:au ρ1 x=some (.list ds))(g:gW ds=some ns)(l:ns.length<64):ev C (.bnw .sorted e) ρ=some (.val (.lst ((sortI ns).map λi=>.fz (.int i))),ρ1):=bs m (bs h (bs rfl (bs g (bg l rfl))))
theorem i7{dx dy:List PyData}(o:ev C a ρ=some (x,ρ1))(l:ev C b ρ1=some (y,ρ2))(g:mr ρ2 x=some dx)(h:mr ρ2 y=some dy)(m:dx.length+dy.length<=1000000):ev C (.cat a b) ρ=some (.val (.lst ((dx++dy).map OD.fz)),ρ2):=bs o (bs l (bs g (bs h (bg m rfl))))
theorem ar{o:Co}(h:ev C (.cmp o a b) ρ=some (.val (.fz (.bool k)),ρ1)):aP C (.cmp o a b) ρ=some (k,ρ1):=bs h rfl
theorem bC(h:ev C (.call f es) ρ=some (.val (.fz (.bool k)),ρ1)):aP C (.call f es) ρ=some (k,ρ1):=bs h rfl
theorem HP(h:ev C (.ix a b) ρ=some (.val (.fz (.bool k)),ρ1)):aP C (.ix a b) ρ=some (k,ρ1):=bs h rfl
theorem cv(h:aP C a ρ=some (true,ρ1))(k:aP C b ρ1=rt):aP C (.and a b) ρ=rt:=bs h k
theorem fU(h:aP C a ρ=some (false,ρ1)):aP C (.and a b) ρ=some (false,ρ1):=bs h rfl
theorem i8(h:aP C a ρ=some (true,ρ1)):aP C (.or a b) ρ=some (true,ρ1):=bs h rfl
theorem cg(h:aP C a ρ=some (false,ρ1))(k:aP C b ρ1=rt):aP C (.or a b) ρ=rt:=bs h k
theorem uG(h:aP C a ρ=some (k,ρ1)):aP C (.not a) ρ=some (!k,ρ1):=bs h rfl
theorem uH(h:ev C a ρ=some (.val (.fz (.bool true)),ρ1))(k:ev C b ρ1=rv):ev C (.and a b) ρ=rv:=bs h (bs rfl (bs rfl k))
theorem jR(h:ev C a ρ=some (.val (.fz (.bool false)),ρ1)):ev C (.and a b) ρ=some (.val (.fz (.bool false)),ρ1):=bs h rfl
theorem oB(h:ev C a ρ=some (.val (.fz (.bool true)),ρ1)):ev C (.or a b) ρ=some (.val (.fz (.bool true)),ρ1):=bs h rfl
theorem ll(h:ev C a ρ=some (.val (.fz (.bool false)),ρ1))(k:ev C b ρ1=rv):ev C (.or a b) ρ=rv:=bs h (bs rfl (bs rfl k))
theorem Fm{p:OD×List Nat×OD}(h:ck ρ i ps=some p)(g:p.2.2=.fz d):ev C (.pg i ps) ρ=some (.val (.fz d),ρ):=bs h (bs (show vK p.2.2=some d by rw[g];rfl) rfl)
variable{p:OD×List Nat×OD}{cn fl':Str}{ns ns':List Str}{xs':List OD}
theorem ab(h:be C s ρ=some (.nx,ρ1))(k:aD C ss ρ1=r):aD C (.cons s ss) ρ=r:=bs h k
theorem ak(h:be C s ρ=some (.rt z,ρ1)):aD C (.cons s ss) ρ=some (.rt z,ρ1):=bs h rfl
theorem HQ(h:be C s ρ=some (.ct,ρ1)):aD C (.cons s ss) ρ=some (.ct,ρ1):=bs h rfl
theorem ae(h:ev C e ρ=some (x,ρ1))(m:own1 ρ1 x=some (z,ρ2))(g:Nat.blt i ρ2.length=true)(l:ρ2.set i (some z)=ρ3):be C (.set i e) ρ=some (.nx,ρ3):=bs h (bs m (bg (Nat.blt_eq.mp g) (by rw[<-l])))
theorem eF{is:List Nat}(h:evs C es ρ=some (rs,ρ1))(o:mapR own1 ρ1 rs=some (zs,ρ2))(g:(zs.length==is.length&&is.all λi=>Nat.blt i ρ2.length)=true)(m:cV is zs ρ2=ρ3):be C (.par is es) ρ=some (.nx,ρ3):=bs h (bs o (bg (by rw[aaC,abq]at g;exact⟨eq_of_beq g.1,λi l=>Nat.blt_eq.mp (g.2 i l)⟩) (by rw[<-m])))
theorem y6(h:ev C e ρ=some (x,ρ1)):be C (.ex e) ρ=some (.nx,ρ1):=bs h rfl
theorem ag(h:ev C e ρ=some (x,ρ1))(g:mv1 ρ1 x=some (z,ρ2)):be C (.ret e) ρ=some (.rt z,ρ2):=bs h (bs g rfl)
theorem av(h:aP C c ρ=some (true,ρ1))(k:aD C sa ρ1=r):be C (.iff c sa sb) ρ=r:=bs h k
theorem s_ifF(h:aP C c ρ=some (false,ρ1))(k:aD C sb ρ1=r):be C (.iff c sa sb) ρ=r:=bs h k
theorem bx(g:ρ[i]?.join=some (.lst ys))(h:ev C e ρ=some (x,ρ1))(m:own1 ρ1 x=some (z,ρ2))(q:ρ2[i]?.join=some (.lst xs))(o:xs.length<1000000)(l:ρ2.set i (some (.lst (xs++[z])))=ρ3):be C (.app i e) ρ=some (.nx,ρ3):=bs g (bs rfl (bs h (bs m (bs q (bs rfl (bg o (by rw[<-l])))))))
theorem jS(h:ev C e ρ=some (x,ρ1))(o:own1 ρ1 x=some (z,ρ2))(g:ρ2[i]?.join=some (.lst ys))(hk:ev C ke ρ2=some (y,ρ3))(l:au ρ3 y=some (.int n))(t:ρ3[i]?.join=some (.lst xs))(q:ixN xs.length n=some jj)(m:ρ3.set i (some (.lst (xs.set jj z)))=ρ4):be C (.sti i ke e) ρ=some (.nx,ρ4):=bs h (bs o (bs g (bs rfl (bs hk (bs l (bs rfl (bs t (bs rfl (bs q (by rw[<-m]))))))))))
theorem cN(h:nL C it ρ=some (ds,ρ1))(k:bp (λd g=>(bc t (.fz d) g).bind λρ1=>aD C ss ρ1) ds ρ1=r):be C (.fr t it ss) ρ=r:=bs h k
theorem fV(h:ev C e ρ=some (x,ρ1))(g:au ρ1 x=some (.int n))(l:-(2^62)<=n/\n<2^62):nL C (.rg1 e) ρ=some (bP 0 n.toNat,ρ1):=bs h (bs g (bs rfl (bg l rfl)))
theorem dA(h:ev C e ρ=some (x,ρ1))(g:frz1 ρ1 x=some (d,ρ2))(l:vL d=some ds):nL C (.seq e) ρ=some (ds,ρ2):=bs h (bs g (bs l rfl))
theorem fW(h:ev C e ρ=some (x,ρ1))(g:frz1 ρ1 x=some (.list ds,ρ2)):nL C (.enm e) ρ=some (cy ds,ρ2):=bs h (bs g (bs rfl rfl))
theorem uI(h:ev C a ρ=some (x,ρ1))(h':ev C b ρ1=some (y,ρ2))(m:frz1 ρ2 x=some (dx,ρ3))(l:frz1 ρ3 y=some (dy,ρ4))(o:vL dx=some ds)(g:vL dy=some es'):nL C (.zip a b) ρ=some (iN ds es',ρ4):=bs h (bs h' (bs m (bs l (bs o (bs g rfl)))))
theorem cI(o:nL C it ρ=some (ds,ρ1))(g:ds.length<1000000)(h:cA ρ1 fr=some zc)(m:bU (cf C tg ifs elt) ds [] (List.replicate nt none++zc.1)=some (out,ρ'))(l:eR zc.2 fr (ρ'.drop nt)=ρ2):ev C (.comp nt fr it tg ifs elt) ρ=some (.val (.lst (out.map OD.fz)),ρ2):=bs o (bg g (bs h (bs m (by rw[<-l]))))
theorem qS(h:bc tg (.fz d) ρ=some ρ1)(l:aP C ifs ρ1=some (true,ρ2))(g:ev C elt ρ2=some (x,ρ3))(m:frz1 ρ3 x=some (dx,ρ4)):cf C tg (.some ifs) elt d ρ=some ([dx],ρ4):=bs h (bs l (bs g (bs m rfl)))
theorem qT(g:bc tg (.fz d) ρ=some ρ1)(h:aP C ifs ρ1=some (false,ρ2)):cf C tg (.some ifs) elt d ρ=some ([],ρ2):=bs g (bs h rfl)
theorem Fo(h:bc tg (.fz d) ρ=some ρ1)(g:ev C elt ρ1=some (x,ρ3))(l:frz1 ρ3 x=some (dx,ρ4)):cf C tg .none elt d ρ=some ([dx],ρ4):=bs h (bs rfl (bs g (bs l rfl)))
end
theorem qU{step:PyData->DEnv->Option (Fl×DEnv)}(P:List PyData->DEnv->Prop)(h:∀d ds ρ,P (d::ds) ρ->∃b a,step d ρ=some (b,a)/\(b=.nx\/b=.ct)/\P ds a):∀{ds:List PyData}{ρ:DEnv},P ds ρ->∃a,bp step ds ρ=some (.nx,a)/\P [] a:=by
 intro ds;induction ds with
 |nil=>exact λ{ρ} f=>⟨ρ,rfl,f⟩
 |cons d ds m=>
  intro ρ f;obtain⟨b,l,k,j,e⟩:=h d ds ρ f;obtain⟨c,i,g⟩:=m e;refine⟨c,bs k ?_,g⟩;rcases j with rfl|rfl
  ·exact i
  ·exact i
theorem ai{p:Pg}(a:p.F j=some fn)(c:xs.length=fn.io.length)(h:aD (p.ct n) fn.body (eA fn.n xs)=some (.rt r,ρ))(b:aW 0 fn.io xs ρ=some ys):p.call (n+1) j xs=some (r,ys):=by rw[Pg.ez,a];show (if xs.length=fn.io.length then tN (p.ct n) fn xs else none)=_;rw[if_pos c];exact bs h (bs b rfl)
theorem eG{p:Pg}(a:p.F j=some fn)(c:xs.length=fn.io.length)(h:aD (p.ct n) fn.body (eA fn.n xs)=some (.nx,ρ))(b:aW 0 fn.io xs ρ=some ys):p.call (n+1) j xs=some (.fz .none,ys):=by rw[Pg.ez,a];show (if xs.length=fn.io.length then tN (p.ct n) fn xs else none)=_;rw[if_pos c];exact bs h (bs b rfl)
theorem oC(h:k<n):ixN n (k:Int)=some k:=by unfold ixN;rw[if_pos (by omega),if_pos (by omega)];rfl
theorem bL{a:Type}{xs:List a}{k:Nat}{x:a}(h:xs[k]?=some x):atI xs (k:Int)=some x:=bs (oC (aai.mp h).1) h
theorem gx{b:Type}{xs:List b}{i:Int}(c:0<=i)(d:i<xs.length):∃x,x∈xs/\atI xs i=some x:=by
 have e:i=(i.toNat:Int):=by omega
 have a:i.toNat<xs.length:=by omega
 refine⟨xs[i.toNat],List.getElem_mem a,?_⟩;have:=bL (aak a);rw[<-e]at this;exact this
section
variable{ρ:DEnv}{ds:List PyData}{d:PyData}{i:Int}{xs:List OD}{x:OD}
theorem aV(h:atI ds i=some d):bJ ρ (.val (.fz (.list ds))) i=some (.fz d,ρ):=by simp only[bJ,itemO,h]
theorem ax(h:atI ds i=some d):bJ ρ (.val (.fz (.tuple ds))) i=some (.fz d,ρ):=by simp only[bJ,itemO,h]
theorem eI(h:atI xs i=some x):bJ ρ (.val (.lst xs)) i=some (x,ρ):=by simp only[bJ,itemO,h]
end
end L2
namespace Np
open PySem L2
def top(i:Nat):Stmt:=PySem.Challenge.pw_nearpool_k51_whole_no_run_into_a_pool.main.body.getD i (.Pass ⟨0,0,0,0⟩)
def IX(j:Nat):Stmt->Stmt
 |.ClassDef _ _ _ body ..=>body.getD j (.Pass ⟨0,0,0,0⟩)
 |s=>s
abbrev efh:Es:=.cons (.nm 8) .nil
abbrev efg:Es:=.cons (.nm 9) .nil
abbrev eff:Es:=.cons (.nm 7) .nil
abbrev efe:Es:=.cons (.nm 6) .nil
abbrev efd:S':=.set 5 (.lst .nil)
abbrev efc:Es:=.cons (.nm 5) .nil
abbrev efb:Es:=.cons (.nm 2) .nil
abbrev efa:Es:=.cons (.nm 4) .nil
abbrev ee9:S':=.set 4 (.lst .nil)
abbrev ee8:S':=.set 3 (.lst .nil)
abbrev ee7:Es:=.cons (.nm 0) .nil
abbrev ee6:Es:=.cons (.nm 3) .nil
abbrev ee5:Es:=.cons (.nm 1) .nil
abbrev HR:E:=.ix (.nm 4) (.nm 9)
abbrev HS:Es:=.cons (.int 2) .nil
abbrev HU:E:=.ix (.nm 0) (.nm 2)
abbrev ee1:Es:=.cons (.int 0) .nil
abbrev ee0:E:=.ix (.nm 0) (.nm 1)
abbrev eez:E:=.ix (.nm 2) (.int 0)
abbrev eey:E:=.ix (.nm 3) (.int 0)
abbrev eex:E:=.ix (.nm 0) (.int 1)
abbrev eew:E:=.ix (.nm 0) (.int 2)
abbrev eev:E:=.ix (.nm 0) (.int 0)
abbrev HV:E:=.ix (.nm 13) (.int 2)
abbrev IY:E:=.ix (.nm 12) (.int 2)
abbrev IZ:E:=.ix (.nm 10) (.int 0)
abbrev I0:E:=.cat (.nm 11) (.nm 9)
abbrev I9:E:=.cat (.nm 9) (.nm 11)
abbrev eep:Es:=.cons (.bl true) .nil
abbrev eeo:Es:=.cons (.bl false) .nil
abbrev een:E:=.din false (.nm 6) 4 []
abbrev Ja:E:=.din false (.nm 7) 3 []
abbrev eel:E:=.cmp .eq (.nm 7) (.nm 6)
abbrev eek:S':=.asg (.tp [7,8]) (.nm 6)
abbrev eej:S':=.asg (.tp [3,4]) (.nm 2)
abbrev eei:Ss:=.cons (.ret (.non)) .nil
abbrev eeh:Es:=.cons (.str "stop") .nil
abbrev eeg:E:=.cmp .nin (.nm 9) (.nm 1)
abbrev HW:E:=.cmp .nin (.nm 0) (.nm 1)
abbrev eee:E:=.cmp .eq (.nm 10) (.nm 8)
abbrev eed:E:=.cmp .nin (.nm 8) (.nm 6)
abbrev eec:E:=.cmp .nin (.nm 5) (.nm 3)
abbrev eeb:E:=.cmp .eq (.nm 6) (.int 0)
abbrev eea:Ss:=.cons (.ret (.nm 3)) .nil
abbrev ed9:Ss:=.cons (.ret (.nm 5)) .nil
abbrev ed8:E:=.cmp .inn (.nm 2) (.nm 1)
abbrev ed7:Ss:=.cons (.ret (.nm 2)) .nil
abbrev ed6:E:=.bop .sub (.nm 0) (.nm 2)
abbrev ed5:E:=.bop .sub (.nm 1) (.int 1)
abbrev ed4:E:=.bop .add (.nm 1) (.int 1)
abbrev ed3:E:=.bop .sub (.gc 19) (.gc 1)
abbrev ed2:E:=.cmp .ne (.nm 4) (.lst .nil)
abbrev ed1:S':=.set 6 (.ix (.nm 0) (.nm 5))
abbrev ed0:E:=.call 0 ee7
abbrev edz:E:=.call 1 ee5
abbrev edy:E:=.call 0 ee5
abbrev edx:Ss:=.cons (.ret (.bl false)) .nil
abbrev edw:S':=.set 3 (.bnw .sorted (.nm 3))
abbrev HX:E:=.call 33 ee5
abbrev edu:E:=.bop .mul (.int 100) (.gc 15)
abbrev edt:E:=.blt .len efg
abbrev eds:E:=.blt .abs efb
abbrev F7:E:=.blt .len efc
abbrev edq:E:=.blt .len efb
abbrev edp:E:=.blt .len ee5
abbrev edo:E:=.blt .len ee7
abbrev HY:E:=.blt .len (.cons (.nm 11) .nil)
abbrev edm:E:=.cmp .eq (.nm 10) (.str "going")
abbrev edl:Es:=.cons HU .nil
abbrev Jc:Es:=.cons (.ix (.nm 4) (.int 0)) .nil
abbrev edj:E:=.ix (.ix (.nm 1) (.nm 4)) (.int 2)
abbrev edi:Es:=.cons (.nm 6) efh
abbrev edh:Es:=.cons (.nm 6) eff
abbrev edg:Es:=.cons (.nm 7) efe
abbrev edf:E:=.ix (.nm 1) eew
abbrev ede:E:=.ix (.nm 1) eex
abbrev edd:Es:=.cons (.nm 0) ee5
abbrev edc:Es:=.cons (.nm 2) ee6
abbrev Jd:E:=.ix (.ix (.nm 0) (.nm 10)) (.int 2)
abbrev Je:E:=.ix (.ix (.nm 3) (.nm 11)) (.int 1)
abbrev ec9:E:=.ix eez (.int 0)
abbrev ec8:E:=.ix eey (.int 1)
abbrev ec7:Es:=.cons (.nm 1) eep
abbrev ec6:S':=.set 3 (.call 31 efb)
abbrev ec5:Es:=.cons ed4 .nil
abbrev ec4:E:=.bop .mul (.ix (.nm 1) (.nm 0)) (.gc 4)
abbrev ec3:Es:=.cons (.str "tell") efe
abbrev ec2:E:=.ix (.nm 1) (.bop .add (.nm 0) (.int 1))
abbrev ec1:E:=.ix (.ix (.nm 2) (.nm 0)) (.neg (.int 1))
abbrev ec0:Es:=.cons (.bop .mod (.nm 0) (.int 100)) .nil
abbrev HZ:E:=.ix (.nm 7) (.ix (.nm 10) (.neg (.int 1)))
abbrev ecy:Es:=.cons (.call 30 ee7) .nil
abbrev ecx:E:=.bop .mul (.int 10) eex
abbrev ecw:Es:=.cons (.str "go") (.cons (.str "nil") .nil)
abbrev ecv:E:=.bop .mul (.int 100) eex
abbrev ecu:E:=.cmp .eq eev (.str "go")
abbrev ect:S':=.set 3 (.bnw .sorted (.cat (.nm 3) (.nm 4)))
abbrev ecs:E:=.cmp .eq eev (.str "nil")
abbrev ecr:E:=.cmp .eq eev (.str "set")
abbrev ecq:E:=.call 21 edd
abbrev ecp:E:=.cmp .eq (.ix (.nm 7) (.int 0)) (.str "stop")
abbrev eco:E:=.cmp .eq (.ix (.nm 6) (.int 0)) (.str "stop")
abbrev ecn:E:=.blt .len (.cons HV .nil)
abbrev ecl:E:=.call 29 (.cons (.nm 0) HS)
abbrev eck:E:=.call 29 (.cons (.nm 0) (.cons (.int 3) .nil))
abbrev ecj:E:=.call 29 (.cons (.nm 0) (.cons (.int 5) .nil))
abbrev eci:E:=.call 29 (.cons (.nm 0) (.cons (.int 4) .nil))
abbrev Jf:E:=.callS 14 (.cons (.nm 7) efb)
abbrev ecg:E:=.cmp .ne eey (.str "great")
abbrev Jg:E:=.callS 14 (.cons (.nm 6) efb)
abbrev Jh:Es:=.cons (.nm 5) (.cons (.bnw .tuple (.nm 9)) .nil)
abbrev ecd:E:=.cmp .lt (.nm 6) edo
abbrev ecb:E:=.cmp .lt (.nm 7) edo
abbrev eca:E:=.cmp .eq (.nm 5) edo
abbrev eb9:E:=.cmp .lt (.blt .len efa) (.nm 1)
abbrev eb8:E:=.cmp .lt (.nm 5) edo
abbrev eb7:Es:=.cons (.nm 0) (.cons (.nm 1) efb)
abbrev eb6:Es:=.cons (.nm 0) (.cons (.nm 1) ee6)
abbrev Ji:E:=.bop .add edt (.int 1)
abbrev eb4:S':=.set 2 (.rep (.lst ee1) (.gc 15))
abbrev eb3:E:=.bop .add HY (.int 1)
abbrev H9:E:=.bop .sub (.int 100) edt
abbrev eb1:E:=.blt .int (.cons (.cmp .ne (.nm 2) (.lst .nil)) .nil)
abbrev eb0:S':=.set 4 (.call 36 edc)
abbrev ebz:S':=.set 2 (.call 28 edd)
abbrev eby:E:=.cmp .nin edj (.nm 9)
abbrev ebx:S':=.set 6 (.call 18 (.cons (.nm 0) efc))
abbrev ebw:S':=.set 2 (.call 12 edd)
abbrev ebv:S':=.set 12 (.call 19 edi)
abbrev ebu:It':=.rg1 (.bop .add edo (.int 1))
abbrev ebt:E:=.cmp .eq ec9 (.str "over")
abbrev Jj:E:=.comp 1 [7] (.seq (.nm 11)) (.nm 0) .none (.ix (.nm 1) (.nm 0))
abbrev ebr:S':=.app 7 (.tup Jh)
abbrev ebq:E:=.cmp .eq eci (.int 0)
abbrev ebp:E:=.cmp .eq (.call 29 (.cons (.nm 0) (.cons (.int 24) .nil))) (.int 0)
abbrev ebo:S':=.ex (.call 13 (.cons (.nm 7) edc))
abbrev ebn:S':=.ex (.call 13 (.cons (.nm 6) edc))
abbrev ebm:S':=.asg (.tp [9,10,11]) (.call 15 (.cons (.nm 3) efh))
abbrev ebl:S':=.set 6 (.call 26 (.cons (.nm 3) (.cons (.nm 5) efa)))
abbrev ebk:E:=.call 29 (.cons (.nm 1) (.cons edq .nil))
abbrev ebj:E:=.not (.cmp2 .le .lt (.int 0) (.nm 1) edo)
abbrev ebi:E:=.blt .min (.cons (.int 6) (.cons edo .nil))
abbrev ebh:S':=.set 13 (.call 19 (.cons (.nm 6) (.cons (.bop .add (.nm 8) (.int 1)) .nil)))
abbrev ebg:S':=.sdc 3 2 [] (.seq (.nm 2)) (.tp [0,1]) (.nm 0) edp
abbrev ebf:E:=.call 37 (.cons (.nm 1) (.cons (.nm 3) (.cons (.nm 2) (.cons (.int 499) .nil))))
abbrev ebe:S':=.set 5 (.call 38 (.cons (.nm 2) (.cons (.nm 3) Jc)))
abbrev Jk:E:=.comp 2 [] (.enm (.nm 1)) (.tp [0,1]) (.some HX) (.nm 0)
abbrev ebc:E:=.cmp .inn IZ (.tup ecw)
abbrev ebb:E:=.ife eca (.str "ended") (.str "going")
abbrev eba:Ss:=.cons (.ret (.tup (.cons (.nm 3) (.cons (.str "stopped") efa)))) .nil
abbrev ea9:S':=.set 4 ebf
abbrev ea8:E:=.and eee eby
abbrev Jl:E:=.cmp .lt (.bop .add (.bop .add (.nm 3) F7) (.int 1)) (.nm 4)
abbrev ea6:S':=.agl 5 (.lst (.cons (.bop .fdiv (.nm 6) (.gc 4)) (.cons (.bop .mod (.nm 6) (.gc 4)) .nil)))
abbrev ea5:S':=.set 7 (.ix (.call 35 (.cons (.nm 3) (.cons (.nm 5) Jc))) (.int 0))
abbrev Jm:E:=.or eed ebq
abbrev ea3:S':=.set 5 (.call 29 (.cons (.nm 0) (.cons (.bop .add edp (.int 1)) .nil)))
abbrev ea2:S':=.set 2 (.frz Jk)
abbrev Jn:E:=.comp 1 [9] (.rg2 (.int 50000000) (.int 50000100)) (.nm 0) (.some HW) (.nm 0)
abbrev ea0:E:=.cmp .eq ecn eb3
abbrev eaz:E:=.bop .add eb1 eci
abbrev Jo:E:=.comp 1 [0,3] (.seq (.nm 2)) (.nm 0) .none ebk
abbrev eax:E:=.or (.cmp .gt (.nm 11) (.nm 3)) (.and (.cmp .eq IZ (.str "nil")) (.cmp .gt (.nm 11) (.int 99)))
abbrev eaw:Es:=.cons (.bl false) (.cons (.cmp .eq (.call 29 (.cons (.nm 2) HS)) (.int 0)) eep)
abbrev eav:E:=.cmp .nin (.ix (.ix (.nm 0) (.bop .sub (.nm 6) (.int 1))) (.int 0)) (.tup (.cons (.str "go") eeh))
abbrev eau:S':=.set 5 (.ife Jg (.ix (.nm 6) (.neg (.int 1))) (.bop .add (.nm 5) (.int 1)))
abbrev eat:Es:=.cons (.ix (.nm 6) (.nm 11)) (.cons (.idx Je Jd) .nil)
abbrev eas:S':=.set 6 (.frz Jo)
abbrev ear:Ss:=.cons (.agl 5 (.call 24 (.cons (.nm 0) (.cons (.nm 6) (.cons (.pg 4 [.key 6]) (.cons F7 .nil)))))) .nil
abbrev eaq:S':=.iff Jl (.cons (.app 5 (.gc 13)) .nil) .nil
abbrev eap:S':=.set 9 (.ix (.lst (.cons I9 (.cons I0 .nil))) ecl)
abbrev eao:S':=.ins 9 (.call 29 (.cons (.nm 0) (.cons Ji .nil))) edj
abbrev ean:S':=.set 5 (.call 17 (.cons (.nm 0) (.cons (.ife Jf (.ix (.nm 7) (.neg (.int 2))) (.nm 8)) .nil)))
abbrev eam:E:=.or (.cmp .ne (.ix (.nm 12) (.int 1)) (.nm 10)) (.cmp .ne IY Jj)
abbrev eal:E:=.cmp .ne edm ea0
abbrev eak:Ss:=.cons (.agl 5 (.call 6 (.cons (.ix (.nm 0) (.nm 6)) (.cons F7 (.cons (.cmp .inn (.nm 6) (.nm 1)) (.cons (.dgt 3 (.nm 6)) .nil)))))) .nil
abbrev eaj:E:=.sll Jn .none (.some H9)
abbrev eai:S':=.set 9 (.ife Jm (.lst ecy) (.lst .nil))
abbrev eah:S':=.set 8 (.ix (.lst (.cons (.int 0) (.cons (.int 1) (.cons (.call 29 (.cons (.nm 2) (.cons (.int 20) .nil))) (.cons (.int 300) .nil))))) (.call 29 (.cons (.nm 2) (.cons (.int 4) .nil))))
abbrev eag:E:=.blt .max (.cons (.bop .sub HZ HR) (.cons (.bop .sub HR HZ) .nil))
abbrev eaf:S':=.set 11 eaj
abbrev eae:S':=.iff ecq (.cons (.agl 5 (.lst (.cons (.gc 11) (.cons (.bop .add (.nm 4) (.bop .mul (.gc 23) edq)) .nil)))) .nil) .nil
abbrev ead:Ss:=.cons (.iff ecd (.cons (.app 3 (.nm 5)) (.cons (.set 5 (.bop .add (.nm 5) (.call 34 (.cons (.nm 0) (.cons (.nm 1) efe))))) .nil)) .nil) .nil
abbrev eac:Ss:=.cons (.set 5 (.bop .sub (.bop .add (.nm 5) (.int 2)) (.bop .mod (.nm 5) (.int 2)))) (.cons (.app 4 (.nm 5)) (.cons (.set 5 (.bop .add (.nm 5) (.bop .mul (.int 2) (.blt .len efh)))) .nil))
abbrev eab:S':=.iff Ja (.cons (.app 5 (.call 22 (.cons (.nm 0) edg))) (.cons (.set 6 (.bop .add (.ix (.nm 5) (.neg (.int 1))) (.bop .mul (.gc 23) (.pg 3 [.key 7])))) .nil)) .nil
abbrev eaa:E:=.or (.cmp .ne (.sll HV .none (.some HY)) IY) (.cmp .gt ecn eb3)
def ic:Fn:=⟨[false],1,(.cons (.ret (.and ecr (.cmp .gt eew (.gc 3)))) .nil)⟩
def qV:Fn:=⟨[false],1,(.cons (.ret (.or ecu ecs)) .nil)⟩
def lp:Fn:=⟨[false],1,(.cons (.ret (.comp 2 [] (.enm (.nm 0)) (.tp [0,1]) (.some edy) (.nm 0))) .nil)⟩
def mM:Fn:=⟨[false],1,(.cons (.ret (.comp 2 [] (.enm (.nm 0)) (.tp [0,1]) (.some edz) (.nm 0))) .nil)⟩
def xZ:Fn:=⟨[false],1,(.cons (.ret (.and (.cmp .ne eev (.str "go")) (.cmp .ne eev (.str "stop")))) .nil)⟩
def jU:Fn:=⟨[false,false,false,false],4,(.cons (.iff ecu (.cons (.ret (.ife (.nm 2) (.lst (.cons (.gc 6) ee6)) (.lst (.cons (.bop .sub (.bop .add (.gc 18) (.nm 3)) (.nm 1)) .nil)))) .nil) .nil) (.cons (.iff (.nm 2) (.cons (.ret (.lst (.cons (.bop .add (.gc 7) eex) ee6))) .nil) .nil) (.cons (.ret (.lst (.cons (.bop .sub (.bop .add (.bop .add (.gc 19) (.bop .mul (.gc 9) eex)) (.nm 3)) (.nm 1)) .nil))) .nil)))⟩
def lq:Fn:=⟨[false,false,false,false],7,(.cons (.set 4 eev) (.cons (.iff (.cmp .eq (.nm 4) (.str "stop")) (.cons (.ret (.lst (.cons (.gc 20) .nil))) .nil) .nil) (.cons (.iff (.or (.cmp .eq (.nm 4) (.str "go")) (.cmp .eq (.nm 4) (.str "nil"))) (.cons (.ret (.call 5 (.cons (.nm 0) (.cons (.nm 1) edc)))) .nil) .nil) (.cons (.iff ed0 (.cons (.asg (.tp [5,6]) (.nm 3)) (.cons (.ret (.lst (.cons (.bop .add (.bop .add (.gc 2) ecv) (.nm 6)) (.cons (.bop .sub (.bop .add (.gc 16) (.nm 5)) (.nm 1)) .nil)))) .nil)) .nil) (.cons (.iff (.cmp .eq (.nm 4) (.str "set")) (.cons (.ret (.lst (.cons (.bop .add (.bop .add (.gc 17) ecv) eew) .nil))) .nil) .nil) (.cons (.iff (.cmp .eq (.nm 4) (.str "sum")) (.cons (.ret (.lst (.cons (.bop .add (.bop .add (.gc 21) ecx) eew) .nil))) .nil) .nil) (.cons (.iff (.cmp .eq (.nm 4) (.str "less")) (.cons (.ret (.lst (.cons (.bop .add (.bop .add (.gc 5) ecx) eew) .nil))) .nil) .nil) (.cons (.ret (.lst (.cons (.bop .add (.gc 22) eex) .nil))) .nil))))))))⟩
def lr:Fn:=⟨[false,false],4,(.cons (.par [2,3] (.cons (.bop .fdiv (.nm 1) (.int 10)) (.cons (.bop .mod (.nm 1) (.int 10)) .nil))) (.cons (.ret (.ife (.and (.cmp .lt (.nm 2) (.gc 15)) (.cmp .lt (.nm 3) (.gc 15))) (.tup (.cons (.nm 0) edc)) (.non))) .nil))⟩
def mN:Fn:=⟨[false,false],5,(.cons (.set 2 (.bop .sub ed3 (.int 1))) (.cons (.par [3,4] (.cons (.bop .fdiv ed6 (.gc 9)) (.cons (.bop .mod ed6 (.gc 9)) .nil))) (.cons (.ret (.ife (.cmp .gt (.nm 4) (.int 0)) (.tup (.cons (.str "nil") (.cons (.nm 3) (.cons (.bop .sub (.bop .sub (.bop .add (.nm 1) (.nm 4)) (.gc 1)) (.int 1)) eeo)))) (.non))) .nil)))⟩
def lu:Fn:=⟨[false,false],2,(.cons (.iff (.cmp .eq (.nm 0) (.gc 20)) (.cons (.ret (.tup eeh)) .nil) .nil) (.cons (.iff (.cmp2 .le .lt (.gc 17) (.nm 0) (.bop .add (.gc 17) edu)) (.cons (.ret (.tup (.cons (.str "set") (.cons (.bop .fdiv (.bop .sub (.nm 0) (.gc 17)) (.int 100)) ec0)))) .nil) .nil) (.cons (.iff (.cmp2 .le .lt (.gc 21) (.nm 0) (.gc 5)) (.cons (.ret (.call 7 (.cons (.str "sum") (.cons (.bop .sub (.nm 0) (.gc 21)) .nil)))) .nil) .nil) (.cons (.iff (.cmp2 .le .lt (.gc 5) (.nm 0) (.gc 22)) (.cons (.ret (.call 7 (.cons (.str "less") (.cons (.bop .sub (.nm 0) (.gc 5)) .nil)))) .nil) .nil) (.cons (.iff (.cmp2 .le .lt (.gc 22) (.nm 0) (.bop .add (.gc 22) (.gc 15))) (.cons (.ret (.tup (.cons (.str "tell") (.cons (.bop .sub (.nm 0) (.gc 22)) .nil)))) .nil) .nil) (.cons (.iff (.cmp .le (.blt .abs (.cons (.bop .sub (.nm 0) (.gc 18)) .nil)) (.gc 0)) (.cons (.ret (.tup (.cons (.str "go") (.cons (.bop .sub (.bop .add (.nm 1) (.nm 0)) (.gc 18)) eeo)))) .nil) .nil) (.cons (.iff (.cmp .eq (.nm 0) (.gc 13)) (.cons (.ret (.tup (.cons (.str "pad") .nil))) .nil) .nil) (.cons (.iff (.cmp2 .le .lt ed3 (.nm 0) (.gc 7)) (.cons (.ret (.call 8 edd)) .nil) .nil) eei))))))))⟩
def mO:Fn:=⟨[false,false,false],3,(.cons (.iff (.cmp2 .le .lt (.gc 2) (.nm 0) (.bop .add (.gc 2) edu)) (.cons (.ret (.tup (.cons (.str "great") (.cons (.bop .fdiv (.bop .sub (.nm 0) (.gc 2)) (.int 100)) (.cons (.bop .sub (.bop .add (.nm 2) (.nm 1)) (.gc 16)) ec0))))) .nil) .nil) (.cons (.iff (.cmp .eq (.nm 0) (.gc 6)) (.cons (.ret (.tup (.cons (.str "go") ec7))) .nil) .nil) (.cons (.iff (.cmp .eq (.nm 0) (.gc 11)) (.cons (.ret (.tup (.cons (.str "over") ee5))) .nil) .nil) (.cons (.iff (.cmp2 .le .lt (.gc 7) (.nm 0) (.bop .add (.gc 7) (.gc 15))) (.cons (.ret (.tup (.cons (.str "nil") (.cons (.bop .sub (.nm 0) (.gc 7)) ec7)))) .nil) .nil) eei))))⟩
def lx:Fn:=⟨[false,false],5,(.cons (.set 2 ed4) (.cons (.set 3 (.bop .add (.nm 2) (.bop .mul (.int 2) (.bop .sub ee0 (.gc 14))))) (.cons (.iff (.cmp .gt (.nm 3) edo) eei .nil) (.cons (.set 4 (.comp 1 [0] (.rg3 (.nm 2) (.nm 3)) (.nm 0) .none (.bop .add ec4 ec2))) (.cons (.ret (.tup (.cons (.tup (.cons (.str "pool") (.cons (.bnw .tuple (.nm 4)) .nil))) ee6))) .nil)))))⟩
abbrev ac:Str:="go"
abbrev am:Str:="nil"
abbrev ap:Str:="stop"
abbrev bi:Str:="place"
abbrev bm:Str:="set"
abbrev bn:Str:="rows"
abbrev bv:Str:="row"
abbrev ce:Str:="nearpool.codes"
abbrev ci:Str:="going"
abbrev cr:Str:="cells"
abbrev dL:Str:="tell"
abbrev em:Str:="pool"
abbrev eH:Str:="_law_tape_here"
abbrev eO:Str:="_law_rows_here"
abbrev ga:Str:="sum"
abbrev gl:Str:="great"
abbrev hG:Str:="less"
abbrev hI:Str:="_law_script"
abbrev hL:Str:="stopped"
abbrev hY:Str:="nearpool.rows"
abbrev ii:Str:="_law_k"
abbrev im:Str:="longs"
abbrev jp:Str:="gap"
abbrev kt:Str:="_law_longs_here"
abbrev lc:Str:="law"
abbrev lf:Str:="over"
abbrev lv:Str:="nearpool.machine"
abbrev lw:Str:="nearpool.places"
abbrev lX:Str:="ended"
abbrev na:Str:="cell"
abbrev nb:Str:="_law_pools"
abbrev nl:Str:="held"
abbrev np:Str:="nearpool.plainrun"
abbrev ol:Str:="nearpool.laying"
abbrev pc:Str:="is_great"
abbrev pi:Str:="is_jump"
abbrev pu:Str:="greats_of"
abbrev rc:Str:="jumps_of"
abbrev re:Str:="falls"
abbrev sn:Str:="jump_cells"
abbrev sw:Str:="row_cells"
abbrev sB:Str:="begin"
abbrev sK:Str:="pair_seen"
abbrev ul:Str:="nil_seen"
abbrev ut:Str:="lone_seen"
abbrev wl:Str:="two_seen"
abbrev wn:Str:="pool_seen"
abbrev wp:Str:="seen_at"
abbrev wr:Str:="carry_out"
abbrev wv:Str:="jumps_now"
abbrev ww:Str:="told_plainly"
abbrev wP:Str:="word_at"
abbrev wS:Str:="past_overs"
abbrev wT:Str:="row_at"
abbrev xz:Str:="size_of"
abbrev xL:Str:="has_over"
abbrev zn:Str:="first_word"
abbrev At:Str:="placed"
abbrev AT:Str:="pool_cells"
abbrev BT:Str:="goals_of"
abbrev Ch:Str:="laid_cells"
abbrev Db:Str:="_law_cell_at"
abbrev Ev:Str:="_law_tape"
abbrev EQ:Str:="_law_take"
abbrev Fa:Str:="_law_great"
abbrev Go:Str:="_law_rows"
abbrev Ix:Str:="_law_longs"
abbrev IN:Str:="_law_is_great"
abbrev KO:Str:="_law_size"
abbrev KP:Str:="_law_placed"
abbrev KQ:Str:="_law_any_plan"
abbrev KR:Str:="_law_too_short"
abbrev KS:Str:="_law_good_longs"
abbrev KU:Str:="/claim/cut.py"
abbrev KW:Str:="_law_found"
abbrev KX:Str:="_law_places"
def F_seen_at:Fn:=⟨[false,false],5,(.cons (.iff ebj eei .nil) (.cons (.set 2 ee0) (.cons (.iff (.cmp2 .lt .le (.gc 14) (.nm 2) (.bop .add (.gc 14) (.gc 8))) (.cons (.ret (.call 11 edd)) .nil) .nil) (.cons (.set 3 (.call 9 (.cons (.nm 2) ee5))) (.cons (.iff (.isn true (.nm 3)) (.cons (.ret (.tup (.cons (.nm 3) ec5))) .nil) .nil) (.cons (.iff (.cmp .eq ed4 edo) eei .nil) (.cons (.set 4 (.call 10 (.cons (.nm 2) (.cons (.ix (.nm 0) ed4) ee5)))) (.cons (.ret (.ife (.isn false (.nm 4)) (.non) (.tup (.cons (.nm 4) (.cons (.bop .add (.nm 1) (.int 2)) .nil))))) .nil))))))))⟩
def aX:Fn:=⟨[false,true,true],4,(.cons (.set 3 eev) (.cons (.iff (.cmp .eq (.nm 3) (.str bm)) (.cons (.sti 1 eex eew) .nil) (.cons (.iff (.cmp .eq (.nm 3) (.str ga)) (.cons (.sti 1 eex (.bop .mod (.bop .add ede edf) (.gc 10))) .nil) (.cons (.iff (.cmp .eq (.nm 3) (.str hG)) (.cons (.sti 1 eex (.bop .mod (.bop .sub ede edf) (.gc 10))) .nil) (.cons (.iff (.cmp .eq (.nm 3) (.str dL)) (.cons (.app 2 ede) .nil) .nil) .nil)) .nil)) .nil)) .nil))⟩
def cj:Fn:=⟨[false,false],2,(.cons (.ret (.or ecu (.and ecs (.cmp .eq ede (.int 0))))) .nil)⟩
def F_told_plainly:Fn:=⟨[false,false],7,(.cons eb4 (.cons ee8 (.cons ee9 (.cons (.set 5 (.int 0)) (.cons (.whl (.and eb8 eb9) (.cons ed1 (.cons (.app 4 (.nm 5)) (.cons (.iff eco eba .nil) (.cons ebn (.cons eau .nil)))))) (.cons (.ret (.tup (.cons (.nm 3) (.cons ebb efa)))) .nil))))))⟩
def qW:Fn:=⟨[false,false,false],4,(.cons (.set 3 (.call 12 (.cons (.nm 0) (.cons ed5 .nil)))) (.cons (.iff (.or (.isn false (.nm 3)) (.or (.cmp .ne (.ix eey (.int 0)) (.str em)) (.cmp .ge (.nm 2) (.blt .len (.cons ec8 .nil))))) eei .nil) (.cons (.ret (.ix ec8 (.nm 2))) .nil)))⟩
def F_past_overs:Fn:=⟨[false,false],3,(.cons ebw (.cons (.whl (.and (.isn true (.nm 2)) ebt) (.cons (.set 1 (.ix eez (.int 1))) (.cons ebw .nil))) (.cons (.ret (.nm 1)) .nil)))⟩
def F_row_at:Fn:=⟨[false,false],6,(.cons ebw (.cons (.iff (.or (.isn false (.nm 2)) (.or (.cmp .eq ec9 (.str "pad")) (.cmp .eq ec9 (.str em)))) eei .nil) (.cons eej (.cons (.iff ecg ed7 .nil) (.cons (.set 5 (.call 16 (.cons (.nm 0) (.cons (.ix (.nm 3) (.int 2)) (.cons (.ix (.nm 3) (.int 3)) .nil))))) (.cons (.ret (.ife (.isn false (.nm 5)) (.non) (.tup (.cons (.tup (.cons (.str bm) (.cons (.ix (.nm 3) (.int 1)) efc))) efa)))) .nil))))))⟩
def F_run:Fn:=⟨[false,false],9,(.cons eb4 (.cons ee8 (.cons ee9 (.cons (.set 5 (.call 17 (.cons (.nm 0) ee1))) (.cons ebx (.cons (.whl (.and (.isn true (.nm 6)) eb9) (.cons eek (.cons (.app 4 (.nm 5)) (.cons (.iff ecp eba .nil) (.cons ebo (.cons ean (.cons ebx .nil))))))) (.cons (.iff eca (.cons (.ret (.tup (.cons (.nm 3) (.cons (.str lX) efa)))) .nil) .nil) (.cons (.ret (.tup (.cons (.nm 3) (.cons (.ife (.isn false (.nm 6)) (.str "bad") (.str ci)) efa)))) .nil))))))))⟩
def qX:Fn:=⟨[false,false,false],3,(.cons (.ret (.ife (.or (.call 0 edl) ed8) (.int 2) (.int 1))) .nil)⟩
def mP:Fn:=⟨[false,false],2,(.cons (.ret (.or (.cmp .eq (.nm 1) (.int 0)) (.call 4 (.cons (.ix (.nm 0) ed5) .nil)))) .nil)⟩
def jV:Fn:=⟨[false,false,false],3,(.cons (.iff ecq (.cons (.aug 2 .add (.gc 12)) .nil) .nil) (.cons (.ret (.bop .sub (.bop .add (.nm 2) (.int 2)) (.bop .mod (.nm 2) (.int 2)))) .nil))⟩
def F_placed:Fn:=⟨[false,false,false],8,(.cons ebg (.cons ee9 (.cons efd (.cons (.set 6 (.int 0)) (.cons (.fr (.nm 7) ebu (.cons eab (.cons (.iff ecb (.cons (.app 4 (.nm 6)) (.cons (.aug 6 .add (.call 20 (.cons (.nm 0) (.cons (.nm 1) eff)))) .nil)) .nil) .nil))) (.cons (.ret (.tup (.cons (.nm 4) (.cons (.nm 5) efe)))) .nil))))))⟩
def jW:Fn:=⟨[false,false,false,false],7,(.cons (.set 4 (.call 22 eb6)) (.cons efd (.cons eae (.cons eaq (.cons (.app 5 (.bop .add (.gc 14) edq)) (.cons (.fr (.nm 6) (.seq (.nm 2)) (.cons ea6 .nil)) ed9))))))⟩
def mQ:Fn:=⟨[false,false,false],12,(.cons eej (.cons (.asg (.tp [5,6,7]) (.call 23 eb6)) (.cons (.set 8 (.cat (.nm 5) (.lst eff))) (.cons (.sdc 9 1 [8,0] (.seq (.call 3 ee7)) (.nm 0) (.nm 0) (.ix (.nm 1) ec1)) (.cons (.fr (.tp [10,11]) (.zip (.call 2 ee7) (.nm 4)) (.cons (.sdk 9 (.nm 10) (.tup eat)) .nil)) (.cons (.ret (.nm 9)) .nil))))))⟩
def jX:Fn:=⟨[false,false,false],7,(.cons (.set 3 (.call 25 eb7)) (.cons (.sdc 4 2 [] (.seq eez) (.tp [0,1]) (.nm 0) (.nm 1)) (.cons efd (.cons (.fr (.nm 6) ebu (.cons (.iff een ear .nil) (.cons (.iff ecd eak .nil) .nil))) ed9))))⟩
def fX:Fn:=⟨[false,false],2,(.cons (.ret (.ife (.cmp .lt (.nm 1) edo) ee0 (.int 0))) .nil)⟩
def uJ:Fn:=⟨[false,false],3,(.cons (.set 2 (.call 27 edd)) (.cons (.ret (.lst (.cons (.bop .mul eds (.blt .int (.cons (.cmp .ge eds (.bop .pow (.int 10) (.int 18))) .nil))) (.cons (.bop .mod (.bop .mul (.bop .add (.bop .add (.bop .mod (.nm 2) (.int 2147483647)) (.bop .mul (.int 7121) (.nm 1))) (.int 43)) (.int 48271)) (.int 2147483629)) ee1)))) .nil))⟩
def mR:Fn:=⟨[true,false],4,(.cons (.iff (.cmp .gt eev (.int 0)) (.cons (.set 2 (.bop .mod eev (.nm 1))) (.cons (.sti 0 (.int 0) (.bop .fdiv eev (.nm 1))) ed7)) .nil) (.cons (.sti 0 (.int 2) (.bop .add eew (.int 1))) (.cons (.set 3 (.bop .mod (.bop .mul (.bop .add eex (.bop .mul (.int 39373) eew)) (.bop .add (.int 48271) eew)) (.int 2147483647))) (.cons (.sti 0 (.int 1) (.bop .mod (.bop .add (.bop .mul (.nm 3) (.bop .add (.bop .mod (.nm 3) (.int 40009)) (.int 7))) eew) (.int 2147483629))) (.cons (.ret (.bop .mod (.bop .fdiv (.bop .mod (.bop .mul eex (.bop .add (.bop .mod eex (.int 1009)) (.int 3))) (.int 998244353)) (.int 7)) (.nm 1))) .nil)))))⟩
def oD:Fn:=⟨[true],3,(.cons (.set 1 eci) (.cons (.set 2 (.bop .add (.int 100) (.call 29 (.cons (.nm 0) (.cons (.int 99999900) .nil))))) (.cons (.ret (.ix (.lst (.cons (.ix (.lst (.cons (.int 100) (.cons (.int 101) (.cons (.int 12345) (.cons (.int 10000) (.cons (.int 9999) .nil)))))) ecj) (.cons (.bop .add (.int 100) (.call 29 (.cons (.nm 0) (.cons (.int 6) .nil)))) (.cons (.nm 2) (.cons (.int 99999999) .nil))))) (.nm 1))) .nil)))⟩
def F_rows:Fn:=⟨[true],11,(.cons (.set 1 (.ife (.cmp .eq (.call 29 (.cons (.nm 0) (.cons (.int 8) .nil))) (.int 0)) (.bop .add (.int 20) (.call 29 (.cons (.nm 0) (.cons (.int 41) .nil)))) (.call 29 (.cons (.nm 0) (.cons (.int 11) .nil))))) (.cons (.set 2 (.ix (.lst (.cons (.int 2) (.cons (.int 5) (.cons (.int 9) .nil)))) eck)) (.cons ee8 (.cons (.fr (.nm 4) (.rg1 (.nm 1)) (.cons (.par [5,6] (.cons (.call 29 (.cons (.nm 0) (.cons (.int 10) .nil))) (.cons ecj .nil))) (.cons (.iff (.cmp .lt (.nm 5) (.nm 2)) (.cons (.app 3 (.tup (.cons (.str bm) (.cons (.nm 6) ecy)))) (.cons (.cont) .nil)) .nil) (.cons (.set 5 (.call 29 (.cons (.nm 0) (.cons (.int 9) .nil)))) (.cons (.par [7,8] (.cons ecj (.cons (.call 29 (.cons (.nm 0) ec5)) .nil))) (.cons (.set 9 (.blt .max (.cons (.int 0) (.cons (.blt .min (.cons (.nm 1) (.cons (.bop .sub (.bop .add (.nm 4) (.call 29 (.cons (.nm 0) (.cons (.int 7) .nil)))) (.int 2)) .nil))) .nil)))) (.cons (.set 10 (.lst (.cons (.tup (.cons (.str bm) (.cons (.nm 6) (.cons (.call 29 (.cons (.nm 0) (.cons (.int 100) .nil))) .nil)))) (.cons (.tup (.cons (.str ga) edh)) (.cons (.tup (.cons (.str hG) edh)) (.cons (.tup ec3) (.cons (.tup (.cons (.str ac) efg)) .nil))))))) (.cons (.set 10 (.cat (.nm 10) (.lst (.cons (.tup (.cons (.str am) (.cons (.nm 6) efg))) (.cons (.tup (.cons (.str am) edi)) (.cons (.tup ec3) (.cons (.ix (.lst (.cons (.tup (.cons (.str ac) efh)) (.cons (.tup eeh) .nil))) ecl) .nil))))))) (.cons (.app 3 (.ix (.nm 10) (.nm 5))) .nil))))))))) eea))))⟩
def x9:Fn:=⟨[true,false],4,(.cons (.set 2 eck) (.cons (.set 3 (.comp 2 [] (.enm (.nm 1)) (.tp [0,1]) (.some (.cmp .inn (.ix (.nm 1) (.int 0)) (.tup ecw))) (.nm 0))) (.cons (.ret (.comp 1 [2,0] (.seq (.nm 3)) (.nm 0) (.some (.ix (.lst eaw) (.nm 1))) (.nm 0))) .nil)))⟩
def fb:Fn:=⟨[false],1,(.cons (.ret (.and ecr (.cmp .gt eew (.int 99)))) .nil)⟩
def BQ:Fn:=⟨[false,false,false],3,(.cons (.ret (.ife (.or (.call 33 edl) ed8) (.int 2) (.int 1))) .nil)⟩
def mS:Fn:=⟨[false,false,false],9,(.cons (.par [3,4,5] (.cons (.lst .nil) (.cons (.lst .nil) ee1))) (.cons (.fr (.nm 6) ebu (.cons (.fr (.tp [7,8]) (.seq (.nm 2)) (.cons (.iff eel (.cons (.set 5 (.bop .add (.nm 5) (.bop .mul (.int 2) (.blt .int (.cons (.or eeb eav) .nil))))) eac) .nil) .nil)) ead)) (.cons (.ret (.tup (.cons (.nm 3) (.cons (.nm 4) efc)))) .nil)))⟩
def F_any_plan:Fn:=⟨[true,false],12,(.cons ea2 (.cons ee8 (.cons (.fr (.nm 4) (.rg1 eaz) (.cons ea3 (.cons (.iff eec (.cons (.app 3 (.nm 5)) .nil) .nil) .nil))) (.cons edw (.cons eas (.cons (.set 7 (.lst .nil)) (.cons (.fr (.tp [8,5]) (.enm (.nm 3)) (.cons eai (.cons (.fr (.tp [4,10]) (.zip (.nm 2) (.nm 6)) (.cons (.iff ea8 (.cons eao .nil) .nil) .nil)) (.cons (.iff ebp (.cons eaf (.cons eap .nil)) .nil) (.cons ebr .nil))))) (.cons (.ret (.tup edg)) .nil))))))))⟩
def F_too_short:Fn:=⟨[false,false,false,false],12,(.cons (.asg (.tp [4,5,6]) (.call 35 eb7)) (.cons (.par [7,8] (.cons (.cat (.nm 4) (.lst efe)) (.cons (.lst .nil) .nil))) (.cons (.fr (.tp [9,10]) (.enm (.nm 0)) (.cons (.iff (.and ebc eeg) (.cons (.set 11 eag) (.cons (.iff eax (.cons (.app 8 (.nm 9)) .nil) .nil) .nil)) .nil) .nil)) (.cons (.ret (.nm 8)) .nil))))⟩
def jY:Fn:=⟨[true,false,false],5,(.cons (.set 3 (.call 32 edd)) (.cons ea9 (.cons (.whl ed2 (.cons ect (.cons ea9 .nil))) eea)))⟩
def F_law:Fn:=⟨[false],14,(.cons (.fr (.nm 1) (.rg1 (.bop .add (.int 1) ebi)) (.cons ebz (.cons ec6 (.cons eb0 (.cons ebe (.cons ebl (.cons ea5 (.cons eah (.cons ebm (.cons ebv (.cons (.iff eam edx .nil) (.cons ebh (.cons (.iff eaa edx .nil) (.cons (.iff eal edx .nil) .nil)))))))))))))) (.cons (.ret (.bl true)) .nil))⟩
def ie:Df:=⟨pc,pc,top 4,[bv],[bv],ic⟩
def i9:Df:=⟨pi,pi,top 5,[bv],[bv],qV⟩
def f6:Df:=⟨pu,pu,top 6,[bn],[bn],lp⟩
def ig:Df:=⟨rc,rc,top 7,[bn],[bn],mM⟩
def oE:Df:=⟨re,re,top 8,[bv],[bv],xZ⟩
def fc:Df:=⟨sn,sn,top 29,[bv,bi,"long","goal"],[bv,bi,"long","goal"],jU⟩
def f7:Df:=⟨sw,sw,top 30,[bv,bi,"long","goal"],[bv,bi,"long","goal","word",sB,"at"],lq⟩
def f9:Df:=⟨sK,sK,top 31,["word","rest"],["word","rest","one","other"],lr⟩
def ij:Df:=⟨ul,ul,top 32,[na,bi],[na,bi,"lowest","one","step"],mN⟩
def gb:Df:=⟨ut,ut,top 33,[na,bi],[na,bi],lu⟩
def ik:Df:=⟨wl,wl,top 34,[na,"second",bi],[na,"second",bi],mO⟩
def gf:Df:=⟨wn,wn,top 35,[cr,bi],[cr,bi,sB,"end","numbers"],lx⟩
def ja:Df:=⟨wp,wp,top 36,[cr,bi],[cr,bi,na,"lone","two"],F_seen_at⟩
def gg:Df:=⟨wr,wr,top 38,[bv,nl,"told"],[bv,nl,"told","word"],aX⟩
def gh:Df:=⟨wv,wv,top 39,[bv,nl],[bv,nl],cj⟩
def dB:Df:=⟨ww,ww,top 40,[bn,"most"],[bn,"most",nl,"told","went","at",bv],F_told_plainly⟩
def jc:Df:=⟨wP,wP,top 42,[cr,sB,"at"],[cr,sB,"at","seen"],qW⟩
def fe:Df:=⟨wS,wS,top 43,[cr,bi],[cr,bi,"seen"],F_past_overs⟩
def ly:Df:=⟨wT,wT,top 44,[cr,bi],[cr,bi,"seen",bv,"behind","number"],F_row_at⟩
def y8:Df:=⟨"run","run",top 45,[cr,"most"],[cr,"most",nl,"told","trace",bi,"found",bv,"behind"],F_run⟩
def jd:Df:=⟨xz,xz,top 49,[bn,im,"at"],[bn,im,"at"],qX⟩
def ip:Df:=⟨xL,xL,top 50,[bn,jp],[bn,jp],mP⟩
def fg:Df:=⟨zn,zn,top 51,[bn,jp,bi],[bn,jp,bi],jV⟩
def lz:Df:=⟨At,At,top 52,[bn,im,"pools"],[bn,im,"pools","words","places","begins",bi,jp],F_placed⟩
def fh:Df:=⟨AT,AT,top 54,[bn,jp,"numbers",bi],[bn,jp,"numbers",bi,sB,cr,"number"],jW⟩
def iq:Df:=⟨BT,BT,top 55,[bn,im,"plan"],[bn,im,"plan","pools","uses","places","begins","end","spots","goals","at","use"],mQ⟩
def fj:Df:=⟨Ch,Ch,top 56,[bn,im,"plan"],[bn,im,"plan","goals","words",cr,jp],jX⟩
def je:Df:=⟨Db,Db,top 58,[hI,ii],[hI,ii],fX⟩
def uK:Df:=⟨Ev,Ev,top 59,[hI,ii],[hI,ii,"_law_cell"],uJ⟩
def uL:Df:=⟨EQ,EQ,top 60,[eH,"_law_many"],[eH,"_law_many",KW,"_law_once"],mR⟩
def oF:Df:=⟨Fa,Fa,top 61,[eH],[eH,"_law_way","_law_any_one"],oD⟩
def uM:Df:=⟨Go,Go,top 62,[eH],[eH,"_law_many","_law_share","_law_made_rows","_law_number","_law_way","_law_r","_law_s","_law_t","_law_near","_law_some"],F_rows⟩
def oG:Df:=⟨Ix,Ix,top 63,[eH,eO],[eH,eO,"_law_share","_law_jumps"],x9⟩
def fq:Df:=⟨IN,IN,top 64,["_law_row"],["_law_row"],fb⟩
def uN:Df:=⟨KO,KO,top 65,[eO,kt,ii],[eO,kt,ii],BQ⟩
def ir:Df:=⟨KP,KP,top 66,[eO,kt,nb],[eO,kt,nb,KX,"_law_begins","_law_place","_law_gap","_law_at","_law_numbers"],mS⟩
def iu:Df:=⟨KQ,KQ,top 67,[eH,eO],[eH,eO,"_law_greats","_law_gaps",ii,"_law_gap","_law_uses",nb,"_law_at","_law_numbers","_law_use","_law_more"],F_any_plan⟩
def gi:Df:=⟨KR,KR,top 68,[eO,kt,nb,"_law_hop"],[eO,kt,nb,"_law_hop",KX,"_law_begins","_law_end","_law_goals",KW,ii,"_law_row","_law_far"],F_too_short⟩
def fu:Df:=⟨KS,KS,top 69,[eH,eO,nb],[eH,eO,nb,kt,"_law_late"],jY⟩
def D_law:Df:=⟨lc,lc,top 70,[hI],[hI,ii,eH,eO,"_law_plan",kt,"_law_cells",KX,"_law_most","_law_told","_law_end","_law_went",KW,"_law_more"],F_law⟩
def pl:Pl where
 ds:=[(ie,.fn),(i9,.fn),(f6,.fn),(ig,.fn),(oE,.fn),(fc,.fn),(f7,.fn),(f9,.fn),(ij,.fn),(gb,.fn),(ik,.fn),(gf,.fn),(ja,.fn),(gg,.fn),(gh,.fn),(dB,.fn),(jc,.fn),(fe,.fn),(ly,.fn),(y8,.fn),(jd,.fn),(ip,.fn),(fg,.fn),(lz,.fn),(fh,.fn),(iq,.fn),(fj,.fn),(je,.fn),(uK,.fn),(uL,.fn),(oF,.fn),(uM,.fn),(oG,.fn),(fq,.fn),(uN,.fn),(ir,.fn),(iu,.fn),(gi,.fn),(fu,.fn),(D_law,.fn)]
 cs:=[("FARTHEST_GO",.int 499),("FARTHEST_NIL",.int 99),("GREAT",.int 5000),("GREATEST_SMALL",.int 99),("HALF_WORD",.int 10000),("LESS",.int 3000),("LONG_GO",.int 7000),("LONG_NIL",.int 9000),("MOST_WORDS",.int 100),("NILS_OF_ONE",.int 200),("NUMBERS",.int 100000000),("OVER",.int 7001),("OVER_CELLS",.int 2),("PAD",.int 7002),("POOL",.int 7100),("REGISTERS",.int 5),("SAME_PLACE",.int 5000),("SET",.int 1000),("SHORT_GO",.int 6500),("SHORT_NIL",.int 8100),("STOP",.int 0),("SUM",.int 2000),("TELL",.int 4000),("WORD_CELLS",.int 2)]
 nog:=["abs","enumerate","int","len","max","min","range","sorted","tuple","zip"]
 fld:=[]
abbrev Fq:Nat:=39
theorem Fs:(pl.ds.all λz=>xY pl.tb z.1)=true:=by decide +kernel
abbrev It(i:Int):OD:=.fz (.int i)
abbrev KY(i:Int):Option OD:=some (It i)
abbrev Tp(a b c:Int):OD:=.lst [It a,It b,It c]
abbrev KZ(a b c:Int):Option OD:=some (Tp a b c)
structure TpOk (b c:Int)(n:Nat):Prop where
 b0:0<=b
 b1:b<2147483629
 c0:0<=c
 c1:c<=n
theorem dD{i j:Int}(h:(-(2^64)<i/\i<2^64)\/(-(2^64)<j/\j<2^64)):vM .mul (.int i) (.int j)=some (.int (i*j)):=bs rfl (bs rfl (bs (bg h rfl) rfl))
theorem bz{i j:Int}(h:0<j):vM .mod (.int i) (.int j)=some (.int (i%j)):=bs rfl (bs rfl (bs (bg h rfl) rfl))
theorem iw{i j:Int}(h:0<j/\j<1073741824):vM .fdiv (.int i) (.int j)=some (.int (i/j)):=bs rfl (bs rfl (bs (bg h rfl) rfl))
theorem Ft{x m:Int}(a:0<m)(h:m<=2^64):-(2^64)<x%m/\x%m<2^64:=by have c:=abx x (show m≠0 by omega);have b:=aby x a;omega
theorem up{m a k b:Nat}(h:m<=a)(e:Nat.ble (a+k) b=true):m+k<=b:=aat (acz h k) (acA e)
theorem Km{m k b:Nat}(e:Nat.ble k b=true):m+k<=m+b:=acb (acA e) m
theorem aH{n m:Nat}{a b c many:Int}(h:TpOk b c m)(o:m<=1000000)(d:0<many)(k:many<1073741824):∃x l e g,pl.pg.call (n+1) 29 [Tp a b c,It many]=some (It x,[Tp l e g,It many])/\0<=x/\x<many/\TpOk e g (m+1):=by
 have q:=h.b0;have i:=h.b1;have p:=h.c0;have j:=h.c1;by_cases f:0<a
 ·refine⟨a%many,a/many,b,c,?_,abx _ (by omega),aby _ d,⟨h.b0,h.b1,h.c0,by omega⟩⟩;refine ai (fn:=mR) (ρ:=[KZ (a/many) b c,KY many,KY (a%many),none]) rfl rfl ?_ rfl;refine ak (av (ar (ao rfl rfl rfl rfl (show some (decide (0<a))=some true by rw[Dac f]))) ?_);refine ab (ae (ah rfl rfl rfl rfl (bz d)) rfl rfl rfl) ?_;refine ab (jS (ah rfl rfl rfl rfl (iw ⟨d,k⟩)) rfl rfl rfl rfl rfl rfl rfl) rfl
 ·exact⟨_,a,_,c+1,ai (fn:=mR) rfl rfl (ab (s_ifF (ar (ao rfl rfl rfl rfl (show some (decide (0<a))=some false by rw[Dab f]))) rfl) (ab (jS rfl rfl rfl rfl rfl rfl rfl rfl) (ab (ae (ah (ah (ah rfl (ah rfl rfl rfl rfl (dD (.inl (by decide)))) rfl rfl rfl) (ah rfl rfl rfl rfl rfl) rfl rfl (dD (.inr (by omega)))) rfl rfl rfl (bz (by decide))) rfl rfl rfl) (ab (jS (ah (ah (ah rfl (ah (ah rfl rfl rfl rfl (bz (by decide))) rfl rfl rfl rfl) rfl rfl (dD (.inl (Ft (by decide) (by decide))))) rfl rfl rfl rfl) rfl rfl rfl (bz (by decide))) rfl rfl rfl rfl rfl rfl rfl) (ak (ag (ah (ah (ah (ah rfl (ah (ah rfl rfl rfl rfl (bz (by decide))) rfl rfl rfl rfl) rfl rfl (dD (.inl (Ft (by decide) (by decide))))) rfl rfl rfl (bz (by decide))) rfl rfl rfl (iw (by decide))) rfl rfl rfl (bz d)) rfl)))))) rfl,abx _ (by omega),aby _ d,⟨abx _ (by decide),aby _ (by decide),by omega,by omega⟩⟩
theorem BR{n:Nat}{ns:List Int}{k:Nat}:∃x,pl.pg.call (n+1) 27 [.fz (.list (ns.map PyData.int)),It k]=some (It x,[.fz (.list (ns.map PyData.int)),It k]):=by
 by_cases b:(k:Int)<ns.length
 ·have a:k<ns.length:=by omega
  refine⟨ns[k],ai (fn:=fX) rfl rfl (ak (ag (cD (ar (ao rfl rfl rfl rfl (k:=true) ?_)) (aw rfl rfl rfl (aV (bL (x:=.int ns[k]) ?_)))) rfl)) rfl⟩
  ·show some (decide ((k:Int)<((ns.map PyData.int).length:Nat)))=some true;rw[aaa,Dac b]
  ·rw[aaq,aak a];rfl
 ·refine⟨0,ai (fn:=fX) rfl rfl (ak (ag (bW (ar (ao rfl rfl rfl rfl (k:=false) ?_)) rfl) rfl)) rfl⟩;show some (decide ((k:Int)<((ns.map PyData.int).length:Nat)))=some false;rw[aaa,Dab b]
theorem BS{n:Nat}{ns:List Int}{k:Nat}(hk:k<=8):∃a b,pl.pg.call (n+2) 28 [.fz (.list (ns.map PyData.int)),It k]=some (Tp a b 0,[.fz (.list (ns.map PyData.int)),It k])/\TpOk b 0 0:=by obtain⟨x,c⟩:=BR (n:=n) (ns:=ns) (k:=k);refine⟨_,_,ai (fn:=uJ) rfl rfl (ab (ae (af rfl rfl c rfl) rfl rfl rfl) (ak (ag (bb (aa (ah rfl (aG (aa (ao rfl (ah rfl rfl rfl rfl rfl) rfl rfl rfl) aj) rfl rfl) rfl rfl (dD (.inr ?_))) (aa (ah (ah (ah (ah (ah rfl rfl rfl rfl (bz (by decide))) (ah rfl rfl rfl rfl (dD (.inl (by decide)))) rfl rfl rfl) rfl rfl rfl rfl) rfl rfl rfl (dD (.inr (by decide)))) rfl rfl rfl (bz (by decide))) (aa rfl aj))) rfl rfl) rfl))) rfl,abx _ (by decide),aby _ (by decide),abQ _,abQ _⟩;exact(show ∀q:Bool,-(2^64)<(if q=true then (1:Int) else 0)/\(if q=true then (1:Int) else 0)<2^64 by decide) _
theorem gy{ks:List Int}{i:Int}(b:0<=i)(c:i<ks.length):∃k,k∈ks/\atI (ks.map It) i=KY k:=by obtain⟨x,a,e⟩:=gx (xs:=ks.map It) b (by rw[aaa];exact c);obtain⟨k,d,rfl⟩:=aax.mp a;exact⟨k,d,e⟩
theorem TpOk.up{b c:Int}{m a:Nat}(h:TpOk b c m)(d:m<=a):TpOk b c a:=⟨h.b0,h.b1,h.c0,by have:=h.c1;omega⟩
theorem oH{n m:Nat}{a b c:Int}(h:TpOk b c m)(e:m<=900000):∃k N l o,pl.pg.call (n+2) 30 [Tp a b c]=some (It k,[Tp N l o])/\(100<=k/\k<=99999999)/\TpOk l o (m+4):=by
 obtain⟨w,C,b1,c1,B,H,O,t⟩:=aH (n:=n) (a:=a) (many:=4) h (up (k:=0) e rfl) (by decide) (by decide);obtain⟨y,U,Z,c2,z,T,Q,S⟩:=aH (n:=n) (a:=C) (many:=99999900) t (up (k:=1) e rfl) (by decide) (by decide);obtain⟨Y,q,b3,c3,u,f,j,X⟩:=aH (n:=n) (a:=U) (many:=5) S (up (k:=2) e rfl) (by decide) (by decide);obtain⟨A,J,r,M,I,D,p,L⟩:=aH (n:=n) (a:=q) (many:=6) X (up (k:=3) e rfl) (by decide) (by decide);obtain⟨g,v,G⟩:=gy (ks:=[100,101,12345,10000,9999]) f j;obtain⟨k,d,s⟩:=gy (ks:=[g,100+A,100+y,99999999]) H O;refine⟨k,J,r,M,ai (fn:=oD) rfl rfl (ab (ae (af rfl rfl B rfl) rfl rfl rfl) (ab (ae (ah rfl (af rfl rfl z rfl) rfl rfl rfl) rfl rfl rfl) (ak (ag (aw (bb (aa (aw rfl (af rfl rfl u rfl) rfl (eI G)) (aa (ah rfl (af rfl rfl I rfl) rfl rfl rfl) (aa rfl (aa rfl aj)))) rfl rfl) rfl rfl (eI s)) rfl)))) rfl,?_,L⟩;have i:100<=g/\g<=99999999:=(show ∀x∈[100,101,12345,10000,9999],(100:Int)<=x/\x<=99999999 by decide) g v;rcases aab.mp d with rfl|d
 ·exact i
 rcases aab.mp d with rfl|d
 ·omega
 rcases aab.mp d with rfl|d
 ·omega
 rw[aaH.mp d];decide
inductive R where|st (r k:Int)|ot (w:Str) (xs:List Int) (h:w≠bm/\PyData.strOk w=true)
def R.num:R->Int|.st _ k=>k|.ot _ _ _=>0
inductive Rkd:Str->List Int->Prop
 |sum (a b:Int) (h:(0<=a/\a<=4)/\0<=b/\b<=4):Rkd ga [a,b]
 |less (a b:Int) (h:(0<=a/\a<=4)/\0<=b/\b<=4):Rkd hG [a,b]
 |tell (a:Int) (h:0<=a/\a<=4):Rkd dL [a]
 |go (a:Int):Rkd ac [a]
 |nil (a b:Int) (h:0<=a/\a<=4):Rkd am [a,b]
 |stop:Rkd ap []
def R.ok:R->Prop|.st r k=>(0<=r/\r<=4)/\0<=k/\k<=99999999|.ot w xs _=>Rkd w xs
abbrev Nb(rs:List R):Prop:=∀r∈rs,r.ok
theorem Nb.snoc(h:Nb rs)(b:r.ok):Nb (rs++[r]):=λx a=>by
 rcases aam.mp a with a|a
 ·exact h x a
 ·rw[aaH.mp a];exact b
abbrev mT(a b:Int):R:=.ot ga [a,b] (by decide +kernel)
abbrev iy(a b:Int):R:=.ot hG [a,b] (by decide +kernel)
abbrev dE(a:Int):R:=.ot dL [a] (by decide +kernel)
abbrev ya(a:Int):R:=.ot ac [a] (by decide +kernel)
abbrev jZ(a b:Int):R:=.ot am [a,b] (by decide +kernel)
abbrev Fu:R:=.ot ap [] (by decide +kernel)
def R.d:R->PyData|.st r k=>.tuple [.str bm,.int r,.int k]|.ot w xs _=>.tuple (.str w::xs.map PyData.int)
def R.jm:R->Bool|.st _ _=>false|.ot w _ _=>decide (w=ac)||decide (w=am)
def R.tg:R->Int|.st _ _=>0|.ot _ xs _=>xs.getLastD 0
abbrev Jok(N:Int)(r:R):Prop:=r.jm=true->0<=r.tg/\r.tg<=N/\∃ys,r.d=.tuple (ys++[.int r.tg])
abbrev Jb(N:Int)(rs:List R):Prop:=∀r∈rs,Jok N r
theorem Jb.snoc(h:Jb N rs)(b:Jok N r):Jb N (rs++[r]):=λx a=>by
 rcases aam.mp a with a|a
 ·exact h x a
 ·rw[aaH.mp a];exact b
theorem Fv(b:0<=a)(c:a<=N):Jok N (ya a):=λ_=>⟨b,c,[.str ac],rfl⟩
theorem y9(b:0<=a)(c:a<=N):Jok N (jZ r a):=λ_=>⟨b,c,[.str am,.int r],rfl⟩
theorem mU(h:r.jm=false):Jok N r:=λz=>by rw[h]at z;cases z
abbrev Rs(rs:List R):OD:=.lst (rs.map λr=>.fz r.d)
abbrev La(rs:List R):Option OD:=some (Rs rs)
theorem zd{rs:List R}{i:Int}(b:0<=i)(f:i<rs.length):∃r,r∈rs/\atI (rs.map λr=>OD.fz r.d) i=some (.fz r.d):=by obtain⟨x,a,e⟩:=gx (xs:=rs.map λr=>OD.fz r.d) b (by rw[aaa];exact f);obtain⟨r,c,rfl⟩:=aax.mp a;exact⟨r,c,e⟩
theorem yb{r:R}(h:ρ[j]?.join=La rs)(e:atI (rs.map λr=>OD.fz r.d) i=some (.fz r.d)):bJ ρ (.rf j) i=some (.fz r.d,ρ):=by
 obtain⟨k,b,a⟩:=bnd e;have c:itemS (Rs rs) i=some (r.d,Rs rs):=by simp only[Rs,itemS,b,a,OD.dat];rw[br a]
 simp only[bJ,h,c];rw[set_self (join_some h)]
theorem oI:Rs (rs++[r])=.lst ((rs.map λr=>OD.fz r.d)++[.fz r.d]):=by rw[Rs,aau];rfl
abbrev Lm:=pl.pg.ct
theorem qY(h:TpOk b c m)(s:m<=100000)(hl:rs.length<=1000)(m0:0<=many)(m1:many<=100):
  ∃X B,((bc (.nm 4) (.fz (.int i)) [KZ a b c,KY many,KY share,La rs,o4,o5,o6,o7,o8,o9,o10]).bind λρ1=>aD (Lm (n+2)) (match F_rows.body with|.cons _ (.cons _ (.cons _ (.cons (.fr _ _ b) _)))=>b|_=>.nil) ρ1)=some (X,B)/\(X=.nx\/X=.ct)/\∃(r:R) (a' b' c':Int) (p4 p5 p6 p7 p8 p9 b0:Option OD),B=[KZ a' b' c',KY many,KY share,some (Rs (rs++[r])),p4,p5,p6,p7,p8,p9,b0]/\(r.ok/\Jok many r)/\TpOk b' c' (m+8):=by
 obtain⟨x,a1,b1,c1,e1,d1,d4,t1⟩:=aH (many:=10) h (up (k:=0) s rfl) (by decide) (by decide);obtain⟨e,a2,b2,c2,e2,o,d5,t2⟩:=aH (many:=5) t1 (up s rfl) (by decide) (by decide);by_cases hw:x<share
 ·obtain⟨g,J,M,L,Y,g0,Q⟩:=oH t2 (up (k:=2) s rfl);refine⟨.ct,_,bs rfl (ab (eF (aa (af rfl rfl e1 rfl) (aa (af rfl rfl e2 rfl) aj)) rfl rfl rfl) (HQ (av (ar (ao rfl rfl rfl rfl (show some (decide (x<share))=some true by rw[Dac hw]))) (ab (bx rfl (bV (aa rfl (aa rfl (aa (af rfl rfl Y rfl) aj))) rfl rfl rfl) rfl rfl (by rw[aaa];omega) (by rw[oI];rfl)) rfl)))),.inr rfl,.st e g,J,M,L,KY i,KY x,KY e,o7,o8,o9,o10,rfl,⟨⟨⟨o,by omega⟩,by omega,g0.2⟩,mU rfl⟩,Q.up (Km (k:=6) rfl)⟩
 ·obtain⟨q,J,M,L,Y,Z,T,Q⟩:=aH (many:=9) t2 (up (k:=2) s rfl) (by decide) (by decide);obtain⟨l,a4,b4,c4,e4,A,d3,t4⟩:=aH (many:=5) Q (up (k:=3) s rfl) (by decide) (by decide);obtain⟨p,O,b5,c5,e5,C,y,t5⟩:=aH (n:=n+1) (a:=a4) (many:=many+1) t4 (up (k:=4) s rfl) (by omega) (by omega);obtain⟨H,a6,b6,c6,e6,d2,d6,t6⟩:=aH (n:=n+1) (a:=O) (many:=7) t5 (up (k:=5) s rfl) (by decide) (by decide);obtain⟨t,S,b7,c7,e7,U,d0,t7⟩:=aH (n:=n+1) (a:=a6) (many:=100) t6 (up (k:=6) s rfl) (by decide) (by decide);obtain⟨x8,I,G,D,e8,a0,N,t8⟩:=aH (n:=n+1) (a:=S) (many:=2) t7 (up (k:=7) s rfl) (by decide) (by decide);obtain⟨v,w,e9⟩:=zd (rs:=[ya p,Fu]) a0 N;obtain⟨j,u⟩:∃j:Int,j=(if (if i+H-2<many then i+H-2 else many)>0 then (if i+H-2<many then i+H-2 else many) else 0):=⟨_,rfl⟩
  obtain⟨r,f,c0⟩:=zd (rs:=[.st e t,mT e l,iy e l,dE e,ya j,jZ e j,jZ e p,dE e,v]) Z T;have hb:r.ok:=by
   have n8:v.ok:=by
    rcases aab.mp w with rfl|w
    ·exact Rkd.go _
    ·rw[aaH.mp w];exact Rkd.stop
   rcases aab.mp f with rfl|f
   ·exact⟨⟨o,by omega⟩,U,by omega⟩
   rcases aab.mp f with rfl|f;exact Rkd.sum _ _ ⟨⟨o,by omega⟩,A,by omega⟩;rcases aab.mp f with rfl|f;exact Rkd.less _ _ ⟨⟨o,by omega⟩,A,by omega⟩;rcases aab.mp f with rfl|f;exact Rkd.tell _ ⟨o,by omega⟩;rcases aab.mp f with rfl|f;exact Rkd.go _;rcases aab.mp f with rfl|f;exact Rkd.nil _ _ ⟨o,by omega⟩;rcases aab.mp f with rfl|f;exact Rkd.nil _ _ ⟨o,by omega⟩;rcases aab.mp f with rfl|f;exact Rkd.tell _ ⟨o,by omega⟩;rw[aaH.mp f];exact n8
  have n0:0<=j:=by rw[u];split<;>omega
  have n1:j<=many:=by rw[u];split<;>(try split)<;>omega
  have hj:Jok many r:=by
   have n8:Jok many v:=by
    rcases aab.mp w with rfl|w
    ·exact Fv C (Int.lt_add_one_iff.mp y)
    ·rw[aaH.mp w];exact mU rfl
   rcases aab.mp f with rfl|f;exact mU rfl;rcases aab.mp f with rfl|f;exact mU rfl;rcases aab.mp f with rfl|f;exact mU rfl;rcases aab.mp f with rfl|f;exact mU rfl;rcases aab.mp f with rfl|f;exact Fv n0 n1;rcases aab.mp f with rfl|f;exact y9 n0 n1;rcases aab.mp f with rfl|f;exact y9 C (Int.lt_add_one_iff.mp y);rcases aab.mp f with rfl|f;exact mU rfl;rw[aaH.mp f];exact n8
  refine⟨.nx,_,bs rfl (ab (eF (ρ3:=[KZ a2 b2 c2,KY many,KY share,La rs,KY i,KY x,KY e,o7,o8,o9,o10]) (aa (af (ρ3:=[KZ a1 b1 c1,KY many,KY share,La rs,KY i,o5,o6,o7,o8,o9,o10]) rfl rfl e1 rfl) (aa (af (ρ3:=[KZ a2 b2 c2,KY many,KY share,La rs,KY i,o5,o6,o7,o8,o9,o10]) rfl rfl e2 rfl) aj)) rfl rfl rfl) (ab (s_ifF (ar (ao rfl rfl rfl rfl (show some (decide (x<share))=some false by rw[Dab hw]))) rfl) ?_)),.inl rfl,r,I,G,D,KY i,KY q,KY e,KY l,KY p,KY j,some (Rs [.st e t,mT e l,iy e l,dE e,ya j,jZ e j,jZ e p,dE e,v]),rfl,⟨hb,hj⟩,t8⟩;refine ab (ae (ρ3:=[KZ J M L,KY many,KY share,La rs,KY i,KY q,KY e,o7,o8,o9,o10]) (af (ρ3:=[KZ J M L,KY many,KY share,La rs,KY i,KY x,KY e,o7,o8,o9,o10]) rfl rfl Y rfl) rfl rfl rfl) ?_;refine ab (eF (ρ3:=[KZ O b5 c5,KY many,KY share,La rs,KY i,KY q,KY e,KY l,KY p,o9,o10]) (aa (af (ρ3:=[KZ a4 b4 c4,KY many,KY share,La rs,KY i,KY q,KY e,o7,o8,o9,o10]) rfl rfl e4 rfl) (aa (af (ρ3:=[KZ O b5 c5,KY many,KY share,La rs,KY i,KY q,KY e,o7,o8,o9,o10]) rfl rfl e5 rfl) aj)) rfl rfl rfl) ?_;refine ab (ae (ρ3:=[KZ a6 b6 c6,KY many,KY share,La rs,KY i,KY q,KY e,KY l,KY p,KY j,o10]) (aG (aa rfl (aa (aG (aa rfl (aa (ah (ah rfl (af (ρ3:=[KZ a6 b6 c6,KY many,KY share,La rs,KY i,KY q,KY e,KY l,KY p,o9,o10]) rfl rfl e6 rfl) rfl rfl rfl) rfl rfl rfl rfl) aj)) rfl rfl) aj)) rfl (show _=some (PyData.int j) by rw[u];rfl)) rfl rfl rfl) ?_;refine ab (ae (ρ3:=[KZ S b7 c7,KY many,KY share,La rs,KY i,KY q,KY e,KY l,KY p,KY j,some (Rs [.st e t,mT e l,iy e l,dE e,ya j])]) (bb (zs:=[.fz (R.st e t).d,.fz (mT e l).d,.fz (iy e l).d,.fz (dE e).d,.fz (ya j).d]) (aa (bV (z:=.fz (R.st e t).d) (aa rfl (aa rfl (aa (af (ρ3:=[KZ S b7 c7,KY many,KY share,La rs,KY i,KY q,KY e,KY l,KY p,KY j,o10]) rfl rfl e7 rfl) aj))) rfl rfl rfl) (aa rfl (aa rfl (aa rfl (aa rfl aj))))) rfl rfl) rfl rfl rfl) ?_;refine ab (ae (ρ3:=[KZ I G D,KY many,KY share,La rs,KY i,KY q,KY e,KY l,KY p,KY j,some (Rs [.st e t,mT e l,iy e l,dE e,ya j,jZ e j,jZ e p,dE e,v])]) (i7 rfl (bb (aa rfl (aa rfl (aa rfl (aa (aw rfl (af (ρ3:=[KZ I G D,KY many,KY share,La rs,KY i,KY q,KY e,KY l,KY p,KY j,some (Rs [.st e t,mT e l,iy e l,dE e,ya j])]) rfl rfl e8 rfl) rfl (eI e9)) aj)))) rfl rfl) rfl rfl (show 9<=1000000 by decide)) rfl rfl rfl) ?_;exact ab (bx (ρ3:=[KZ I G D,KY many,KY share,some (Rs (rs++[r])),KY i,KY q,KY e,KY l,KY p,KY j,some (Rs [.st e t,mT e l,iy e l,dE e,ya j,jZ e j,jZ e p,dE e,v])]) (xs:=rs.map λr=>.fz r.d) rfl (aw rfl rfl rfl (yb rfl c0)) rfl rfl (by rw[aaa];omega) (by rw[oI];rfl)) rfl
theorem qZ:∀d∈bP lo n,∃i,d=.int i:=λd a=>by obtain⟨i,_,rfl⟩:=aax.mp a;exact⟨_,rfl⟩
theorem rg(h:TpOk b c (m+3))(H:m<=90000)(N:0<=many)(Q:many<=60):∃(rs:List R) (s l o:Int) (o4 o5 o6 o7 o8 o9 o10:Option OD),bp (λd f=>(bc (.nm 4) (.fz d) f).bind λρ1=>aD (Lm (n+2)) (match F_rows.body with|.cons _ (.cons _ (.cons _ (.cons (.fr _ _ b) _)))=>b|_=>.nil) ρ1) (bP 0 many.toNat) [KZ a b c,KY many,KY sh,some (Rs []),none,none,none,none,none,none,none]=some (.nx,[KZ s l o,KY many,KY sh,La rs,o4,o5,o6,o7,o8,o9,o10])/\rs.length<=60/\(Nb rs/\Jb rs.length rs)/\TpOk l o (m+500):=by
 have q:many.toNat<=60:=by omega
 have p:many<=100:=ab5 Q (by decide);obtain⟨f,C,rs,T,B,D,o4,o5,o6,o7,o8,o9,o10,rfl,g,_,k,L⟩:=qU (step:=λd f=>(bc (.nm 4) (.fz d) f).bind λρ1=>aD (Lm (n+2)) (match F_rows.body with|.cons _ (.cons _ (.cons _ (.cons (.fr _ _ b) _)))=>b|_=>.nil) ρ1)
  (λds x=>∃(rs:List R) (a b c:Int) (o4 o5 o6 o7 o8 o9 o10:Option OD),x=[KZ a b c,KY many,KY sh,La rs,o4,o5,o6,o7,o8,o9,o10]/\rs.length+ds.length=many.toNat/\(∀d∈ds,∃i,d=.int i)/\(Nb rs/\Jb many rs)/\TpOk b c (m+3+8*rs.length)) (λd ds x=>by
   rintro⟨rs,a,b,c,o4,o5,o6,o7,o8,o9,o10,rfl,g,w,k,t⟩;obtain⟨i,rfl⟩:=w _ aaj;have j:rs.length<=60:=aat (Nat.le.intro g) q;obtain⟨U,f,e,O,r,s,l,o,A,G,X,M,S,J,u,rfl,y,I⟩:=qY t (aat (Nat.add_le_add (acz H 3) (acB 8 j)) (by decide)) (aat j (by decide):rs.length<=1000) N p;have z:(rs++[r]).length=rs.length+1:=aaf;exact⟨U,_,e,O,rs++[r],s,l,o,A,G,X,M,S,J,u,rfl,by rw[z,Nat.add_right_comm];exact g,λd v=>w d (aal _ v),⟨k.1.snoc y.1,k.2.snoc y.2⟩,I.up (by rw[z];exact aag _)⟩)
  (ds:=bP 0 many.toNat) ⟨[],a,b,c,none,none,none,none,none,none,none,rfl,by rw[gS,abI,aaV],qZ,⟨(λr j=>absurd j aar),(λr j=>absurd j aar)⟩,h⟩
 have g:rs.length=many.toNat:=g;exact⟨rs,T,B,D,o4,o5,o6,o7,o8,o9,o10,C,g▸q,⟨k.1,(show (rs.length:Int)=many by omega)▸k.2⟩,L.up (aat (acb (acB 8 (g▸q)) (m+3)) (acb (show 3+8*60<=500 by decide) m))⟩
theorem BU(h:TpOk b c m)(o:m<=90000):∃(rs:List R) (A i r:Int),pl.pg.call (n+3) 31 [Tp a b c]=some (Rs rs,[Tp A i r])/\rs.length<=60/\(Nb rs/\Jb rs.length rs)/\TpOk i r (m+500):=by
 have e:∀(a b c many:Int),TpOk b c (m+2)->0<=many->many<=60->∃(rs:List R) (A i r:Int) (B:DEnv),aD (Lm (n+2)) (match F_rows.body with|.cons _ ss=>ss|_=>.nil) [KZ a b c,KY many,none,none,none,none,none,none,none,none,none]=some (.rt (Rs rs),KZ A i r::B)/\rs.length<=60/\(Nb rs/\Jb rs.length rs)/\TpOk i r (m+500):=by intro a b c many h Q S;obtain⟨w,N,T,O,v,q,d,u⟩:=aH (many:=3) h (up o rfl) (by decide) (by decide);obtain⟨sh,_,L⟩:=gy (ks:=[2,5,9]) q d;obtain⟨rs,t,f,l,o4,Z,U,o7,Y,X,M,g,j,p,s⟩:=rg u o Q S;exact⟨rs,t,f,l,_,ab (ae (aw rfl (af rfl rfl v rfl) rfl (eI L)) rfl rfl rfl) (ab (ae rfl rfl rfl rfl) (ab (cN (fV rfl rfl (by omega)) g) (ak (ag rfl rfl)))),j,p,s⟩
 obtain⟨w,N,T,O,v,q,d,u⟩:=aH (many:=8) h (up (k:=0) o rfl) (by decide) (by decide);by_cases J:w=0
 ·obtain⟨z,t,f,l,g,D,C,s⟩:=aH (many:=41) u (up o rfl) (by decide) (by decide);obtain⟨rs,x,H,G,B,y,j,p,I⟩:=e t f l (20+z) s (by omega) (by omega);exact⟨rs,x,H,G,ai rfl rfl (ab (ae (cD (ar (ao (af rfl rfl v rfl) rfl rfl rfl (show some (decide (w=0))=some true by rw[Dac J]))) (ah rfl (af rfl rfl g rfl) rfl rfl rfl)) rfl rfl rfl) y) rfl,j,p,I⟩
 ·obtain⟨z,t,f,l,g,D,C,s⟩:=aH (many:=11) u (up o rfl) (by decide) (by decide);obtain⟨rs,x,H,G,B,y,j,p,I⟩:=e t f l z s (by omega) (by omega);exact⟨rs,x,H,G,ai rfl rfl (ab (ae (bW (ar (ao (af rfl rfl v rfl) rfl rfl rfl (show some (decide (w=0))=some false by rw[Dab J]))) (af rfl rfl g rfl)) rfl rfl rfl) y) rfl,j,p,I⟩
def R.gr:R->Bool|.st _ k=>decide (99<k)|.ot _ _ _=>false
abbrev Rd(r:R):OD:=.fz r.d
abbrev Lb(r:R):Option OD:=some (Rd r)
abbrev Rl(rs:List R):OD:=.fz (.list (rs.map R.d))
abbrev Lc(rs:List R):Option OD:=some (Rl rs)
theorem az{a:Type}{x:a}{xs:List a}:atI (x::xs) 0=some x:=bL (k:=0) rfl
theorem BV{n:Nat}(r:R):pl.pg.call (n+1) 0 [Rd r]=some (.fz (.bool r.gr),[Rd r]):=by
 cases r with
 |st r k=>rfl
 |ot w a h=>exact ai (fn:=ic) rfl rfl (ak (ag (jR (ao (aw rfl rfl rfl (ax az)) rfl rfl rfl (show some (decide (w=bm))=some false by rw[Dab h.1]))) rfl)) rfl
theorem ze{n:Nat}(r:R):pl.pg.call (n+1) 33 [Rd r]=some (.fz (.bool r.gr),[Rd r]):=by
 cases r with
 |st r k=>rfl
 |ot w a h=>exact ai (fn:=fb) rfl rfl (ak (ag (jR (ao (aw rfl rfl rfl (ax az)) rfl rfl rfl (show some (decide (w=bm))=some false by rw[Dab h.1]))) rfl)) rfl
def R.wd:R->Str|.st _ _=>bm |.ot w _ _=>w
def R.tl:R->List PyData|.st r k=>[.int r,.int k]|.ot _ xs _=>xs.map PyData.int
theorem dats_fz:∀ds:List PyData,OD.ej (ds.map OD.fz)=some ds
 |[]=>rfl
 |d::ds=>by rw[aap,OD.ej,dats_fz ds];rfl
theorem cJ(ds:List PyData):(OD.lst (ds.map OD.fz)).dat=some (.list ds):=by rw[OD.dat,dats_fz]
theorem bX{ρ a:DEnv}{j:Nat}{x:OD}{d:PyData}(h:ρ[j]?.join=some x)(c:x.dat=some d)(b:ρ.set j (some (.fz d))=a):frz1 ρ (.rf j)=some (d,a):=by simp only[frz1,h,Option.bind_some,c,Option.map_some,b]
theorem unca_nil{ρ a:DEnv}:eR ρ [] a=ρ:=by cases a with|nil=>rfl|cons o a=>cases o<;>rfl
theorem R.ua(r:R):r.d=.tuple (.str r.wd::r.tl):=by cases r<;>rfl
abbrev Il(gs:List Int):OD:=.lst (gs.map It)
abbrev Ld(gs:List Int):Option OD:=some (Il gs)
theorem cO(gs:List Int):(gs.map PyData.int).map OD.fz=gs.map It:=by rw[aaQ];rfl
theorem aB(gs:List Int):(Il gs).dat=some (.list (gs.map PyData.int)):=by rw[Il,<-cO,cJ]
theorem Fw(rs:List R):(rs.map R.d).map OD.fz=rs.map λr=>OD.fz r.d:=by rw[aaQ];rfl
theorem bN(h:ρ[j]?.join=Ld gs)(d:atI (gs.map It) i=KY g):bJ ρ (.rf j) i=some (It g,ρ):=by
 obtain⟨k,b,a⟩:=bnd d;have c:itemS (Il gs) i=some (.int g,Il gs):=by simp only[Il,itemS,b,a,OD.dat];rw[br a]
 simp only[bJ,h,c];rw[set_self (join_some h)]
structure Cf where
 rows:List R
 longs:List Int
 r0:Int
 r1:Int
abbrev Lo(f:Cf):OD:=.fz (.list (f.longs.map PyData.int))
abbrev Le(f:Cf):Option OD:=some (Lo f)
abbrev Re(f:Cf):OD:=.fz (.tuple [.int f.r0,.int f.r1])
def R.xn(r:R):Bool:=!decide (r.wd=ac)&&!decide (r.wd=ap)
def mV(rs:List R):Nat->Bool
 |0=>true
 |k+1=>(rs[k]?).elim true R.xn
def fw(rs:List R)(k:Nat)(p:Int):Int:=let q:=if mV rs k=true then p+2 else p;q+2-q%2
def sz(f:Cf)(k:Nat):Int:=if (f.rows[k]?).elim false R.gr=true\/(k:Int)∈f.longs then 2 else 1
theorem yc(r:R):pl.pg.call (n+1) 4 [Rd r]=some (.fz (.bool r.xn),[Rd r]):=by
 unfold R.xn;have a:∀x:Str,ev (Lm n) (.cmp .ne eev (.str x)) [Lb r]=some (.val (.fz (.bool (!decide (r.wd=x)))),[Lb r]):=λx=>ao (aw rfl rfl rfl (by rw[R.ua];exact ax az)) rfl rfl rfl rfl;cases b:(!decide (r.wd=ac)) with
 |false=>exact ai rfl rfl (ak (ag (jR (by rw[<-b];exact a ac)) rfl)) rfl
 |true=>rw[abz];exact ai rfl rfl (ak (ag (uH (by rw[<-b];exact a ac) (a ap)) rfl)) rfl
theorem fv{rs:List R}{k:Nat}(h:rs[k]?=some r):atI (rs.map R.d) (k:Int)=some r.d:=bL (by rw[aaq,h];rfl)
theorem lA:∀{ls:List Int},memD (.int x) (ls.map PyData.int)=some (decide (x∈ls))
 |[]=>by simp[memD]
 |y::ls=>by rw[aap,memD,lA (ls:=ls)];show some (decide (y=x)||decide (x∈ls))=_;rw[<-Bool.decide_or];congr 1;rw[decide_eq_decide,aab];exact⟨λh=>h.imp Eq.symm id,λh=>h.imp Eq.symm id⟩
theorem F8{ls:List Int}:kO .inn (.int x) (.list (ls.map PyData.int))=some (decide (x∈ls)):=bs (f:=λa=>(gd (CM (PyData.int x)=true)).bind λ_=>memD (.int x) a) rfl (bg rfl lA)
theorem uO{ls:List Int}:kO .nin (.int x) (.list (ls.map PyData.int))=some (!decide (x∈ls)):=bs (F8 ) rfl
theorem BW{k:Nat}(h:f.rows[k]?=some r):pl.pg.call (n+2) 20 [Rl f.rows,Lo f,It k]=some (It (sz f k),[Rl f.rows,Lo f,It k]):=by
 unfold sz;rw[h];have a:=af (C:=Lm (n+1)) (f:=0) (es:=.cons HU .nil) (ρ:=[Lc f.rows,Le f,KY k]) (aa (aw rfl rfl rfl (aV (fv h))) aj) rfl (BV r) rfl;cases c:r.gr with
 |true=>rw[c]at a;rw[if_pos (.inl c)];exact ai rfl rfl (ak (ag (cD (i8 (bC a)) rfl) rfl)) rfl
 |false=>
  rw[c]at a;have d:aP (Lm (n+1)) ed8 [Lc f.rows,Le f,KY k]=some (decide ((k:Int)∈f.longs),[Lc f.rows,Le f,KY k]):=ar (ao rfl rfl rfl rfl F8);cases b:decide ((k:Int)∈f.longs) with
  |true=>rw[b]at d;rw[if_pos (.inr (Daa b))];exact ai rfl rfl (ak (ag (cD (cg (bC a) d) rfl) rfl)) rfl
  |false=>rw[b]at d;rw[if_neg λz=>z.elim (λz=>absurd (c.symm.trans z) aad) λz=>Dad b z];exact ai rfl rfl (ak (ag (bW (cg (bC a) d) rfl) rfl)) rfl
theorem uP{k:Nat}(h:k<=rs.length):pl.pg.call (n+2) 21 [Rl rs,It k]=some (.fz (.bool (mV rs k)),[Rl rs,It k]):=by
 cases k with
 |zero=>exact ai rfl rfl (ak (ag (oB rfl) rfl)) rfl
 |succ k=>
  have b:=yc (n:=n) rs[k];have a:mV rs (k+1)=(rs[k]).xn:=by show (rs[k]?).elim true R.xn=_;rw[aak h];rfl
  rw[a];have c:((k+1:Nat):Int)-1=(k:Int):=by omega
  exact ai rfl rfl (ak (ag (ll (ao rfl rfl rfl rfl (show some (decide (((k+1:Nat):Int)=0))=some false by rw[Dab (by omega)])) (af (aa (aw rfl rfl rfl (aV (by rw[c];exact fv (aak (by omega))))) aj) rfl b rfl)) rfl)) rfl
theorem oJ{rs:List R}{k:Nat}(h:k<=rs.length):pl.pg.call (n+3) 22 [Rl rs,It k,It p]=some (It (fw rs k p),[Rl rs,It k,It p]):=by
 unfold fw;have c:=uP (n:=n) h;have a:=af (C:=Lm (n+2)) (f:=21) (es:=.cons (.nm 0) ee5) (ρ:=[Lc rs,KY k,KY p]) rfl rfl c rfl;cases b:mV rs k with
 |true=>rw[b]at a;exact ai rfl rfl (ab (av (bC a) (ab rfl rfl)) (ak (ag (ah rfl (ah rfl rfl rfl rfl (bz (by decide))) rfl rfl rfl) rfl))) rfl
 |false=>rw[b]at a;exact ai rfl rfl (ab (s_ifF (bC a) rfl) (ak (ag (ah rfl (ah rfl rfl rfl rfl (bz (by decide))) rfl rfl rfl) rfl))) rfl
def gIx:Int->List R->List Int
 |_,[]=>[]
 |i,r::rs=>if r.gr=true then i::gIx (i+1) rs else gIx (i+1) rs
theorem oK:∀{a b:List R}{i:Int},gIx i (a++b)=gIx i a++gIx (i+a.length) b
 |[],b,i=>by simp[gIx]
 |r::a,b,i=>by
  have e:i+1+(a.length:Int)=i+((r::a).length:Nat):=by rw[aao];omega
  rw[aaJ,gIx,gIx,oK ,e];split<;>rfl
theorem gIx_mem:∀{rs:List R}{i a:Int},a∈gIx i rs->∃(j:Nat) (r:R),a=i+j/\rs[j]?=some r/\r.gr=true
 |[],i,a,h=>absurd h aar
 |r::rs,i,a,h=>by
  rw[gIx]at h;by_cases c:r.gr=true
  ·rw[if_pos c]at h;rcases aab.mp h with rfl|h
   ·exact⟨0,r,by simp,rfl,c⟩
   ·obtain⟨j,q,e,d,b⟩:=gIx_mem h;exact⟨j+1,q,by rw[e];omega,d,b⟩
  ·rw[if_neg c]at h;obtain⟨j,q,e,d,b⟩:=gIx_mem h;exact⟨j+1,q,by rw[e];omega,d,b⟩
theorem gr_st{r:R}(h:r.gr=true):∃x k,r=.st x k:=by
 cases r with
 |st x k=>exact⟨x,k,rfl⟩
 |ot w a b=>cases h
theorem fA:∀{rs:List R}{i:Int},(gIx i rs).length=(rs.filter R.gr).length
 |[],i=>rfl
 |r::rs,i=>by
  rw[gIx];by_cases a:r.gr=true
  ·rw[if_pos a,acd a,aao,aao,fA]
  ·rw[if_neg a,ace a,fA]
def enF:Int->List R->List PyData
 |_,[]=>[]
 |i,r::rs=>.tuple [.int i,r.d]::enF (i+1) rs
theorem oM:∀{rs:List R}{i:Int}{j:Nat},(enF i rs)[j]?=(rs[j]?).map λr=>.tuple [.int (i+j),r.d]
 |[],_,_=>by simp[enF]
 |r::rs,i,0=>by simp[enF]
 |r::rs,i,j+1=>by
  rw[enF,abr,abr,oM];congr 1;funext r;have e:i+1+(j:Int)=i+((j+1:Nat):Int):=by omega
  rw[e]
theorem fB(rs:List R):cy (rs.map R.d)=enF 0 rs:=by
 refine abM λj=>?_;rw[oM,abR];unfold cy;rw[aaq,aaa];by_cases a:j<rs.length
 ·rw[acf a,aak a];simp[aaP,aaq,aak a]
 ·rw[abe (by simpa using a),abe (by omega)];rfl
theorem j3:∀{rs:List R}{i:Int}{out:List PyData}{o0 o1:Option OD},∃a,bU (cf (Lm (n+1)) (.tp [0,1]) (.some edy) (.nm 0)) (enF i rs) out [o0,o1]=some (out++(gIx i rs).map PyData.int,a)
 |[],i,out,o0,o1=>⟨[o0,o1],by rw[gIx,aaL,aan];rfl⟩
 |r::rs,i,out,o0,o1=>by
  have b:aP (Lm (n+1)) edy [KY i,Lb r]=some (r.gr,[KY i,Lb r]):=bC (af rfl rfl (BV r) rfl);rw[gIx];cases c:r.gr with
  |false=>rw[c]at b;obtain⟨a,e⟩:=j3;refine⟨a,bs (qT rfl b) ?_⟩;rw[if_neg aad,e,aan]
  |true=>rw[c]at b;obtain⟨a,e⟩:=j3;refine⟨a,bs (qS rfl b rfl rfl) ?_⟩;rw[if_pos rfl,e,aac];rfl
theorem uQ(b:rs.length<=1000):pl.pg.call (n+2) 2 [Rl rs]=some (Il (gIx 0 rs),[Rl rs]):=by obtain⟨a,e⟩:=j3;rw[aaD,<-fB]at e;refine ai rfl rfl (ak (ag (cI (fW rfl rfl) (by rw[cz,aaa];omega) rfl e unca_nil) (by rw[cO];rfl))) rfl
abbrev Po(q:Int×List Int):PyData:=.tuple [.int q.1,.tuple (q.2.map PyData.int)]
theorem bh:bP lo (n+1)=.int lo::bP (lo+1) n:=by
 unfold bP;rw[List.range_succ_eq_map,aap,aaQ];congr 1
 ·simp
 ·refine acu λi _=>?_;show PyData.int (lo+((i+1:Nat):Int))=_;congr 1;omega
theorem bF:Il (ns++[x])=.lst (ns.map It++[It x]):=by rw[Il,aau];rfl
abbrev Pz:=List (Int×List Int)
structure Mc where
 ps:List Int
 bs:List Int
 pl:Int
def inn(f:Cf)(k:Nat)(s:Mc)(q:Int×List Int):Mc:=if q.1=(k:Int) then ⟨s.ps,s.bs++[fw f.rows k s.pl],fw f.rows k s.pl+2*q.2.length⟩ else s
def inner(f:Cf)(qs:List (Int×List Int))(k:Nat)(s:Mc):Mc:=qs.foldl (inn f k) s
def BX(f:Cf)(k:Nat)(s:Mc):Mc:=⟨s.ps++[s.pl],s.bs,s.pl+sz f k⟩
def mac(f:Cf)(qs:List (Int×List Int)):Nat->Mc
 |0=>⟨[],[],0⟩
 |k+1=>BX f k (inner f qs k (mac f qs k))
theorem bY{k:Nat}:∀{qs:List (Int×List Int)}{s:Mc},(∀q∈qs,q.1≠(k:Int))->inner f qs k s=s
 |[],s,_=>rfl
 |q::qs,s,h=>by show inner f qs k (inn f k s q)=s;have e:inn f k s q=s:=if_neg (h q aaj);rw[e];exact bY λq a=>h q (aal _ a)
theorem fY:inner f (a++b) k s=inner f b k (inner f a k s):=List.foldl_append
theorem j4:∀{k:Nat},(∀q∈qs,(k:Int)<=q.1)->mac f (ps++qs) k=mac f ps k
 |0,_=>rfl
 |k+1,h=>by
  have c:∀q∈qs,(k:Int)<=q.1:=λq a=>by have:=h q a;omega
  have b:∀q∈qs,q.1≠(k:Int):=λq a=>by have:=h q a;omega
  show BX f k (inner f (ps++qs) k (mac f (ps++qs) k))=BX f k (inner f ps k (mac f ps k));rw[j4 c,fY,bY b]
theorem BY:(inn f k s q).ps=s.ps:=by unfold inn;split<;>rfl
theorem bO:∀{qs:List (Int×List Int)}{s:Mc},(inner f qs k s).ps=s.ps
 |[],s=>rfl
 |q::qs,s=>by show (inner f qs k (inn f k s q)).ps=_;rw[bO,BY]
theorem dS:∀{k:Nat},(mac f qs k).ps.length=k
 |0=>rfl
 |k+1=>by show ((inner f qs k (mac f qs k)).ps++[_]).length=_;rw[bO,aaf,dS];rfl
theorem oN:∀{m i:Nat},i<k->(mac f qs (k+m)).ps[i]?=(mac f qs k).ps[i]?
 |0,i,_=>rfl
 |m+1,i,h=>by show ((inner f qs (k+m) (mac f qs (k+m))).ps++[_])[i]?=_;rw[bO,aaX (by rw[dS];omega)];exact oN h
theorem yd{k:Nat}(h:f.rows[k]?=some r):pl.pg.call (n+2) 34 [Rl f.rows,Lo f,It k]=some (It (sz f k),[Rl f.rows,Lo f,It k]):=by
 unfold sz;rw[h];have a:=af (C:=Lm (n+1)) (f:=33) (es:=.cons HU .nil) (ρ:=[Lc f.rows,Le f,KY k]) (aa (aw rfl rfl rfl (aV (fv h))) aj) rfl (ze r) rfl;cases c:r.gr with
 |true=>rw[c]at a;rw[if_pos (.inl c)];exact ai rfl rfl (ak (ag (cD (i8 (bC a)) rfl) rfl)) rfl
 |false=>
  rw[c]at a;have d:aP (Lm (n+1)) ed8 [Lc f.rows,Le f,KY k]=some (decide ((k:Int)∈f.longs),[Lc f.rows,Le f,KY k]):=ar (ao rfl rfl rfl rfl F8);cases b:decide ((k:Int)∈f.longs) with
  |true=>rw[b]at d;rw[if_pos (.inr (Daa b))];exact ai rfl rfl (ak (ag (cD (cg (bC a) d) rfl) rfl)) rfl
  |false=>rw[b]at d;rw[if_neg λz=>z.elim (λz=>absurd (c.symm.trans z) aad) λz=>Dad b z];exact ai rfl rfl (ak (ag (bW (cg (bC a) d) rfl) rfl)) rfl
theorem iz:∀{qs:Pz}{s:Mc},(inner f qs k s).bs.length=s.bs.length+qs.countP λq=>decide (q.1=(k:Int))
 |[],s=>rfl
 |q::qs,s=>by
  show (inner f qs k (inn f k s q)).bs.length=_;rw[iz,abS];unfold inn;by_cases h:q.1=(k:Int)
  ·rw[if_pos h,Dac h,if_pos rfl];show (s.bs++[_]).length+_=_;rw[aaf,aaI];omega
  ·rw[if_neg h,Dab h,if_neg aad];omega
theorem iA:∀{qs:Pz},(∀q∈qs,0<=q.1)->qs.countP (λq=>decide (q.1<((k+1:Nat):Int)))=qs.countP (λq=>decide (q.1<(k:Int)))+qs.countP λq=>decide (q.1=(k:Int))
 |[],_=>rfl
 |q::qs,h=>by rw[abS,abS,abS,iA λq a=>h q (aal _ a)];simp only[decide_eq_true_eq];split<;>split<;>split<;>omega
theorem eJ(h:∀q∈qs,0<=q.1):∀{k:Nat},(mac f qs k).bs.length=qs.countP λq=>decide (q.1<(k:Int))
 |0=>by show 0=_;rw[eq_comm,List.countP_eq_zero];intro q a z;have:=h q a;have:=Daa z;omega
 |k+1=>by show (inner f qs k (mac f qs k)).bs.length=_;rw[iz,eJ h,iA h]
abbrev Pq(qs:Pz):OD:=.fz (.list (qs.map Po))
abbrev Lf(qs:Pz):Option OD:=some (Pq qs)
abbrev qE(f:Cf)(qs:Pz)(s:Mc)(k:Nat)(o7 o8:Option OD):DEnv:=[Lc f.rows,Le f,Lf qs,Ld s.ps,Ld s.bs,KY s.pl,KY k,o7,o8]
abbrev Ia:E:=.or eeb eav
theorem ye(r:R):kO .nin (.str r.wd) (.tuple [.str ac,.str ap])=some r.xn:=by show some (!(decide (ac=r.wd)||(decide (ap=r.wd)||false)))=some (!decide (r.wd=ac)&&!decide (r.wd=ap));rw[abF,Bool.not_or,decide_eq_decide.mpr (eq_comm ),decide_eq_decide.mpr (eq_comm (a:=Str.ofString "stop"))]
theorem Ib(h:k<=f.rows.length):ev (Lm n) Ia (qE f qs s k o7 o8)=some (.val (.fz (.bool (mV f.rows k))),qE f qs s k o7 o8):=by
 cases k with
 |zero=>exact oB rfl
 |succ k=>
  have a:((k+1:Nat):Int)-1=(k:Int):=by omega
  have b:mV f.rows (k+1)=(f.rows[k]).xn:=by show (f.rows[k]?).elim true R.xn=_;rw[aak h];rfl
  rw[b];exact ll (ao rfl rfl rfl rfl (show some (decide (((k+1:Nat):Int)=0))=some false by rw[Dab (by omega)])) (ao (aw (aw rfl rfl rfl (aV (by rw[a];exact fv (aak (by omega))))) rfl rfl (by rw[R.ua];exact ax az)) rfl rfl rfl (ye _))
abbrev F9:Ss:=.cons (.iff eel (.cons (.set 5 (.bop .add (.nm 5) (.bop .mul (.int 2) (.blt .int (.cons Ia .nil))))) eac) .nil) .nil
abbrev Tn(q:Int×List Int):OD:=.fz (.tuple (q.2.map PyData.int))
abbrev qF(f:Cf)(qs:Pz)(s:Mc)(k:Nat)(q:Int×List Int):DEnv:=qE f qs s k (KY q.1) (some (Tn q))
theorem yf(h:k<=f.rows.length)(c:s.bs.length<1000):aD (Lm n) F9 (qF f qs s k q)=some (.nx,qF f qs (inn f k s q) k q):=by
 unfold inn;by_cases e:q.1=(k:Int)
 ·rw[if_pos e];have b:=Ib (n:=n) (qs:=qs) (s:=s) (o7:=KY q.1) (o8:=some (Tn q)) h;refine ab (av (ar (ao rfl rfl rfl rfl (show some (decide (q.1=(k:Int)))=some true by rw[Dac e]))) ?_) rfl;have g:∀v,mV f.rows k=v->be (Lm n) (.set 5 (.bop .add (.nm 5) (.bop .mul (.int 2) (.blt .int (.cons Ia .nil))))) (qF f qs s k q)=some (.nx,qF f qs ⟨s.ps,s.bs,if v=true then s.pl+2 else s.pl⟩ k q):=λv i=>by
   rw[i]at b;cases v with
   |true=>exact ae (ah rfl (ah rfl (aG (aa b aj) rfl rfl) rfl rfl rfl) rfl rfl rfl) rfl rfl rfl
   |false=>exact ae (ah (d:=.int s.pl) rfl (ah rfl (aG (aa b aj) rfl rfl) rfl rfl rfl) rfl rfl (by show some (PyData.int (s.pl+0))=_;rw[Int.add_zero])) rfl rfl rfl
  refine ab (g _ rfl) ?_;generalize hq:(if mV f.rows k=true then s.pl+2 else s.pl)=p;have a:fw f.rows k s.pl=p+2-p%2:=by unfold fw;rw[hq]
  rw[a];refine ab (ae (ah rfl (ah rfl rfl rfl rfl (bz (by decide))) rfl rfl rfl) rfl rfl rfl) ?_;refine ab (bx rfl rfl rfl rfl (by rw[aaa];exact abH c (by decide)) (by show _=[Lc f.rows,Le f,Lf qs,Ld s.ps,some (Il (s.bs++[p+2-p%2])),KY (p+2-p%2),KY k,KY q.1,some (Tn q)];rw[bF];rfl)) ?_;exact ab (ae (ah rfl (ah rfl (aG rfl rfl (by show some (PyData.int ((q.2.map PyData.int).length:Nat))=_;rw[aaa])) rfl rfl (dD (.inl (by decide)))) rfl rfl rfl) rfl rfl rfl) rfl
 ·rw[if_neg e];exact ab (s_ifF (ar (ao rfl rfl rfl rfl (show some (decide (q.1=(k:Int)))=some false by rw[Dab e]))) rfl) rfl
abbrev Jp(n:Nat)(d:PyData)(ρ':DEnv):Option (Fl×DEnv):=(bc (.tp [7,8]) (.fz d) ρ').bind λρ1=>aD (Lm n) F9 ρ1
theorem oO(h:k<=f.rows.length):∀{rs:Pz}{s:Mc}{o7 o8:Option OD},s.bs.length+rs.length<1000->∃b a,bp (Jp n) (rs.map Po) (qE f qs s k o7 o8)=some (.nx,qE f qs (inner f rs k s) k b a)
 |[],s,o7,o8,_=>⟨o7,o8,rfl⟩
 |q::rs,s,o7,o8,hb=>by
  rw[aao]at hb;have e:Jp n (Po q) (qE f qs s k o7 o8)=some (.nx,qF f qs (inn f k s q) k q):=bs rfl (yf h (by omega));have c:(inn f k s q).bs.length+rs.length<1000:=by
   unfold inn;split
   ·show (s.bs++[_]).length+_<_;rw[aaf,aaI];omega
   ·omega
  obtain⟨b,a,d⟩:=oO h c;exact⟨b,a,bs e d⟩
abbrev qG(f:Cf)(qs:Pz)(s:Mc)(o6 o7 o8:Option OD):DEnv:=[Lc f.rows,Le f,Lf qs,Ld s.ps,Ld s.bs,KY s.pl,o6,o7,o8]
abbrev ouB:Ss:=.cons (.fr (.tp [7,8]) (.seq (.nm 2)) F9) ead
abbrev Jq(n:Nat)(d:PyData)(ρ':DEnv):Option (Fl×DEnv):=(bc (.nm 6) (.fz d) ρ').bind λρ1=>aD (Lm n) ouB ρ1
theorem zf:aP (Lm n) ecd (qE f qs s k o7 o8)=some (decide ((k:Int)<(f.rows.length:Int)),qE f qs s k o7 o8):=ar (ao rfl (aG rfl rfl (by show some (PyData.int ((f.rows.map R.d).length:Nat))=_;rw[aaa])) rfl rfl rfl)
theorem zg(h:k<=f.rows.length)(c:s.bs.length+qs.length<1000):∃b a,be (Lm n) (.fr (.tp [7,8]) (.seq (.nm 2)) F9) (qE f qs s k o7 o8)=some (.nx,qE f qs (inner f qs k s) k b a):=by obtain⟨b,a,e⟩:=oO h c;exact⟨b,a,cN (dA rfl rfl rfl) e⟩
theorem yg{k:Nat}(h:k<f.rows.length)(i:s.bs.length+qs.length<1000)(j:s.ps.length<1000):∃d b a,Jq (n+2) (.int k) (qG f qs s o6 o7 o8)=some (.nx,qG f qs (BX f k (inner f qs k s)) d b a):=by
 obtain⟨b,a,e⟩:=zg (aaR h) i;have c:(inner f qs k s).ps.length<1000000:=by rw[bO];omega
 generalize inner f qs k s=t at e c;have g:=zf (n:=n+2) (f:=f) (qs:=qs) (s:=t) (k:=k) (o7:=b) (o8:=a);rw[Dac (by omega)]at g;refine⟨KY k,b,a,bs rfl (ab e (ab (av g (ab (bx (ρ3:=qE f qs ⟨t.ps++[t.pl],t.bs,t.pl⟩ k b a) rfl rfl rfl rfl (by rw[aaa];exact c) ?_) (ab (ae (ah rfl (af rfl rfl (yd (aak h)) rfl) rfl rfl rfl) rfl rfl rfl) rfl))) rfl))⟩;show _=[Lc f.rows,Le f,Lf qs,some (Il (t.ps++[t.pl])),Ld t.bs,KY t.pl,KY k,b,a];rw[bF];rfl
theorem oP{f:Cf}{qs:Pz}(j:∀q∈qs,0<=q.1)(t:qs.length<=300)(y:f.rows.length<=200):∀{m k:Nat}{o6 o7 o8:Option OD},k+m=f.rows.length->∃i d g,bp (Jq (n+2)) (bP k (m+1)) (qG f qs (mac f qs k) o6 o7 o8)=some (.nx,qG f qs (inner f qs f.rows.length (mac f qs f.rows.length)) i d g)
 |0,k,o6,o7,o8,h=>by
  obtain rfl:k=f.rows.length:=h;have o:(mac f qs f.rows.length).bs.length+qs.length<1000:=by rw[eJ j];have:=abT (p:=λq:Int×List Int=>decide (q.1<(f.rows.length:Int))) (l:=qs);omega
  obtain⟨d,g,e⟩:=zg (aag _) o;have r:=zf (n:=n+2) (f:=f) (qs:=qs) (s:=inner f qs f.rows.length (mac f qs f.rows.length)) (k:=f.rows.length) (o7:=d) (o8:=g);rw[Dab (by omega)]at r;refine⟨KY f.rows.length,d,g,?_⟩;rw[bh];exact bs (bs rfl (ab e (ab (s_ifF r rfl) rfl))) rfl
 |m+1,k,o6,o7,o8,h=>by
  have o:(mac f qs k).bs.length+qs.length<1000:=by rw[eJ j];have:=abT (p:=λq:Int×List Int=>decide (q.1<(k:Int))) (l:=qs);omega
  obtain⟨a,b,c,e⟩:=yg (o7:=o7) (o8:=o8) (show k<f.rows.length by omega) o (by rw[dS];omega);obtain⟨v,u,w,x⟩:=oP (n:=n) j t y (m:=m) (k:=k+1) (o6:=a) (o7:=b) (o8:=c) (by omega);refine⟨v,u,w,?_⟩;rw[bh];exact bs e x
abbrev Ga(s:Mc):OD:=.fz (.tuple [.list (s.ps.map PyData.int),.list (s.bs.map PyData.int),.int s.pl])
abbrev Dl(gs:List Int):OD:=.fz (.list (gs.map PyData.int))
abbrev Lh(gs:List Int):Option OD:=some (Dl gs)
theorem c_placed(j:∀q∈qs,0<=q.1)(i:qs.length<=300)(k:f.rows.length<=200):pl.pg.call (n+3) 35 [Rl f.rows,Lo f,Pq qs]=some (Ga (inner f qs f.rows.length (mac f qs f.rows.length)),[Rl f.rows,Lo f,Pq qs]):=by
 obtain⟨a,c,b,e⟩:=oP j i k (aaV _);generalize inner f qs f.rows.length (mac f qs f.rows.length)=s at e;have m:(((f.rows.length:Nat):Int)+1).toNat=f.rows.length+1:=by omega
 refine ai rfl rfl (ab (eF rfl rfl rfl rfl) (ab (cN (fV (ah (aG rfl rfl (by show some (PyData.int ((f.rows.map R.d).length:Nat))=_;rw[aaa])) rfl rfl rfl rfl) rfl (by omega)) (by rw[m];exact e)) (ak (ag (bV (zs:=[Dl s.ps,Dl s.bs,It s.pl]) (ρ2:=[Lc f.rows,Le f,Lf qs,Lh s.ps,Lh s.bs,KY s.pl,a,c,b]) rfl rfl ?_ rfl) rfl)))) rfl;have g:own1 (qG f qs s a c b) (.rf 3)=some (Dl s.ps,[Lc f.rows,Le f,Lf qs,Lh s.ps,Ld s.bs,KY s.pl,a,c,b]):=by show (frz1 _ (.rf 3)).map _=_;rw[bX rfl (aB _) rfl];rfl
 have l:own1 [Lc f.rows,Le f,Lf qs,Lh s.ps,Ld s.bs,KY s.pl,a,c,b] (.rf 4)=some (Dl s.bs,[Lc f.rows,Le f,Lf qs,Lh s.ps,Lh s.bs,KY s.pl,a,c,b]):=by show (frz1 _ (.rf 4)).map _=_;rw[bX rfl (aB _) rfl];rfl
 have h:mapR own1 [Lc f.rows,Le f,Lf qs,Lh s.ps,Ld s.bs,KY s.pl,a,c,b] [.rf 4,.val (It s.pl)]=some ([Dl s.bs,It s.pl],[Lc f.rows,Le f,Lf qs,Lh s.ps,Lh s.bs,KY s.pl,a,c,b]):=bs l rfl;exact bs g (by show Option.map _ (mapR own1 _ _)=_;rw[h];rfl)
theorem Fx{a:Type}{f:a->PyData}{l:List a}:mw (.list (l.map f))=some l.length:=by show some (l.map f).length=_;rw[aaa]
theorem blen{a:Type}{f:a->PyData}{l:List a}:yM .len [.list (l.map f)]=some (.int l.length):=by show (eB [PyData.list (l.map f)]).bind (λd=>(mw d).bind λn=>some (PyData.int n))=_;exact bs rfl (bs Fx rfl)
theorem putK_new(h:a ∉ us.map (·.1)):a9 (.inl a) (.int v) (us.map λu=>.inl u.1) (us.map λu=>It u.2)=((us++[(a,v)]).map λu=>.inl u.1,(us++[(a,v)]).map λu=>It u.2):=by
 have d:¬ ((us.map λu=>(Sum.inl u.1:Key)).any λq=>decide (q=.inl a))=true:=by intro b;obtain⟨q,c,e⟩:=abd.mp b;obtain⟨u,f,rfl⟩:=aax.mp c;have:=Daa e;cases this;exact h (aax.mpr ⟨u,f,rfl⟩)
 unfold a9;rw[if_neg d,aau,aau];rfl
theorem BZ(g:ρ[i]?.join=KY a)(h:ev C e ρ=some (x,ρ1))(f:au ρ1 x=some d)(c:w8 o a d=some r)(b:ρ1.set i (KY r)=ρ2):be C (.aug i o e) ρ=some (.nx,ρ2):=bs g (bs rfl (bs rfl (bs h (bs f (bs c (by rw[<-b]))))))
theorem s_asgQ(h:ev C e ρ=some (x,ρ1))(b:own1 ρ1 x=some (z,ρ2))(a:bc t z ρ2=some ρ3):be C (.asg t e) ρ=some (.nx,ρ3):=bs h (bs b (bs a rfl))
theorem mW(h:nL C it ρ=some (ds,ρ1))(a:ds.length<1000000)(c:cA ρ1 fr=some zc)(d:dZ (g6 C tg ke ve) ds ([],[]) (List.replicate nt none++zc.1)=some ((ks,vs),ρ2))(b:i<(eR zc.2 fr (ρ2.drop nt)).length)(e:(eR zc.2 fr (ρ2.drop nt)).set i (some (.dic ks vs))=ρ3):be C (.sdc i nt fr it tg ke ve) ρ=some (.nx,ρ3):=bs h (bg a (bs c (bs d (bg b (by rw[<-e])))))
abbrev Qk(qs:Pz):List Key:=(qs.map λq=>(q.1,(q.2.length:Int))).map λu=>.inl u.1
abbrev Qv(qs:Pz):List OD:=(qs.map λq=>(q.1,(q.2.length:Int))).map λu=>It u.2
abbrev Qd(qs:Pz):OD:=.dic (Qk qs) (Qv qs)
abbrev Li(qs:Pz):Option OD:=some (Qd qs)
theorem uR:∀{qs ps:Pz}{o0 o1:Option OD},(ps++qs).Pairwise (λx y=>x.1<y.1)->∃a b,dZ (g6 C (.tp [0,1]) (.nm 0) edp) (qs.map Po) (Qk ps,Qv ps) [o0,o1]=some ((Qk (ps++qs),Qv (ps++qs)),[a,b])
 |[],ps,o0,o1,_=>⟨o0,o1,by rw[aan];rfl⟩
 |q::qs,ps,o0,o1,h=>by
  have g:q.1 ∉ (ps.map λq=>(q.1,(q.2.length:Int))).map (·.1):=λz=>by obtain⟨u,i,e⟩:=aax.mp z;obtain⟨x,f,rfl⟩:=aax.mp i;have:=(abA.mp h).2.2 x f q aaj;have e:x.1=q.1:=e;omega
  have e:=putK_new (v:=(q.2.length:Int)) g;obtain⟨a,b,c⟩:=uR (ps:=ps++[q]) (by rw[aac];exact h);rw[aac]at c;refine⟨a,b,bs (x:=((Qk (ps++[q]),Qv (ps++[q])),[KY q.1,some (Tn q)])) ?_ c⟩;refine bs rfl (bs rfl (bs (aG rfl rfl (by show some (PyData.int ((q.2.map PyData.int).length:Nat))=_;rw[aaa])) (bs rfl (bs rfl (bs rfl ?_)))));have d:(ps++[q]).map (λq=>(q.1,(q.2.length:Int)))=ps.map (λq=>(q.1,(q.2.length:Int)))++[(q.1,(q.2.length:Int))]:=aau;show some (a9 (.inl q.1) (.int (q.2.length:Int)) (Qk ps) (Qv ps),[KY q.1,some (Tn q)])=some ((List.map _ ((ps++[q]).map _),List.map _ ((ps++[q]).map _)),_);rw[d,e]
abbrev zP(f:Cf)(qs:Pz)(s:Mc)(o7:Option OD):DEnv:=[Lc f.rows,Le f,Lf qs,Li qs,Ld s.ps,Ld s.bs,KY s.pl,o7]
abbrev zS:Ss:=match F_placed.body with|.cons _ (.cons _ (.cons _ (.cons _ (.cons (.fr _ _ b) _))))=>b|_=>.nil
theorem zh:aP (Lm n) ecb (zP f qs s (KY k))=some (decide ((k:Int)<(f.rows.length:Int)),zP f qs s (KY k)):=ar (ao rfl (aG rfl rfl blen) rfl rfl rfl)
theorem zi(h:((Qk qs).any λq=>decide (q=.inl (k:Int)))=b):aP (Lm n) Ja (zP f qs s (KY k))=some (b,zP f qs s (KY k)):=by rw[<-h];rfl
theorem Qk_any:((Qk qs).any λq=>decide (q=.inl (k:Int)))=true ↔ ∃q∈qs,q.1=(k:Int):=by
 rw[abd];constructor
 ·rintro⟨x,b,e⟩;obtain⟨u,c,rfl⟩:=aax.mp b;obtain⟨q,a,rfl⟩:=aax.mp c;have:=Daa e;injection this with this;exact⟨q,a,this⟩
 ·rintro⟨q,a,e⟩;exact⟨.inl q.1,aax.mpr ⟨_,aax.mpr ⟨q,a,rfl⟩,rfl⟩,Dac (by rw[e])⟩
theorem yh(h:∀x∈a,x.1≠(k:Int))(e:q.1=(k:Int)):(Qk (a++q::b)).findIdx? (λq=>decide (q=.inl (k:Int)))=some a.length:=by
 induction a with
 |nil=>exact(abc).trans (if_pos (Dac (show (Sum.inl q.1:Key)=.inl (k:Int) by rw[e])))
 |cons x a f=>have c:¬ (decide ((Sum.inl x.1:Key)=.inl (k:Int)))=true:=λz=>h x aaj (by have:=Daa z;injection this);refine(abc).trans ((if_neg c).trans ?_);exact congrArg (Option.map λi=>i+1) (f λy d=>h y (aal _ d))
theorem Fy(m:qs.Pairwise λx y=>x.1<y.1)(hk:k<=f.rows.length)(v:s.bs.length<1000)(K:aD (Lm (n+3)) sb (zP f qs (inner f qs k s) (KY k))=r):aD (Lm (n+3)) (.cons eab sb) (zP f qs s (KY k))=r:=by
 by_cases h:∃q∈qs,q.1=(k:Int)
 ·have i:=zi (n:=n+3) (f:=f) (s:=s) (Qk_any.mpr h);obtain⟨q,d,e⟩:=h;obtain⟨a,b,rfl⟩:=abL d;have l:∀x∈a,x.1≠(k:Int):=λx c=>by have:=(abA.mp m).2.2 x c q aaj;omega
  have j:∀x∈b,x.1≠(k:Int):=λx c=>by have:=(abb.mp (abA.mp m).2.1).1 x c;omega
  have p:inner f (a++q::b) k s=⟨s.ps,s.bs++[fw f.rows k s.pl],fw f.rows k s.pl+2*q.2.length⟩:=by rw[fY,bY l];show inner f b k (inn f k s q)=_;rw[bY j];exact if_pos e
  have o:(Qv (a++q::b))[a.length]?=KY q.2.length:=by rw[aaq,aaq,aaS (aag _),abf];rfl
  have g:∀t:Mc,ck (zP f (a++q::b) t (KY k)) 3 [.key 7]=some (Qd (a++q::b),[a.length],It q.2.length):=λt=>by refine bs rfl (bs ?_ (bs o rfl));exact bs rfl (bs rfl (bs rfl (bs rfl (yh l e))))
  rw[p]at K;refine ab (av i (ab (bx (ρ3:=zP f (a++q::b) ⟨s.ps,s.bs++[fw f.rows k s.pl],s.pl⟩ (KY k)) rfl (af rfl rfl (oJ hk) rfl) rfl rfl (by rw[aaa];omega) ?_) (ab (ae (ah (aw rfl rfl rfl (bN rfl ?_)) (ah rfl (Fm (g _) rfl) rfl rfl (dD (.inl (by decide)))) rfl rfl rfl) rfl rfl rfl) rfl))) K
  ·show _=[Lc f.rows,Le f,some (Pq (a++q::b)),some (Qd (a++q::b)),Ld s.ps,some (Il (s.bs++[fw f.rows k s.pl])),KY s.pl,KY k];rw[bF];rfl
  ·rw[aau];have u:ixN (s.bs.map It++[fw f.rows k s.pl].map It).length (-1)=some (s.bs.map It).length:=by unfold ixN;rw[if_neg (by decide),aaf,aaa,if_pos (by simp;omega)];congr 1;simp;omega
   exact bs u acC
 ·have i:=zi (n:=n+3) (f:=f) (s:=s) (by rw[Bool.eq_false_iff];exact λz=>h (Qk_any.mp z));rw[bY λq d e=>h ⟨q,d,e⟩]at K;exact ab (s_ifF i rfl) K
theorem uS(e:qs.Pairwise λx y=>x.1<y.1)(g:∀q∈qs,0<=q.1)(t:qs.length<=300)(z:f.rows.length<=200):∀{m k:Nat}{o7:Option OD},k+m=f.rows.length->∃c,bp (λd b=>(bc (.nm 7) (.fz d) b).bind λρ1=>aD (Lm (n+3)) zS ρ1) (bP k (m+1)) (zP f qs (mac f qs k) o7)=some (.nx,zP f qs (inner f qs f.rows.length (mac f qs f.rows.length)) c)
 |0,k,o7,h=>by
  obtain rfl:k=f.rows.length:=h;have i:(mac f qs f.rows.length).bs.length<1000:=by rw[eJ g];have:=abT (p:=λq:Int×List Int=>decide (q.1<(f.rows.length:Int))) (l:=qs);omega
  have a:=zh (n:=n+3) (f:=f) (qs:=qs) (s:=inner f qs f.rows.length (mac f qs f.rows.length)) (k:=f.rows.length);rw[Dab (by omega)]at a;refine⟨KY f.rows.length,?_⟩;rw[bh];exact bs (bs rfl (Fy e (aag _) i (ab (s_ifF a rfl) rfl))) rfl
 |m+1,k,o7,h=>by
  have j:k<f.rows.length:=by omega
  have i:(mac f qs k).bs.length<1000:=by rw[eJ g];have:=abT (p:=λq:Int×List Int=>decide (q.1<(k:Int))) (l:=qs);omega
  have a:=zh (n:=n+3) (f:=f) (qs:=qs) (s:=inner f qs k (mac f qs k)) (k:=k);rw[Dac (by omega)]at a;have w:mac f qs (k+1)=BX f k (inner f qs k (mac f qs k)):=rfl;have v:(inner f qs k (mac f qs k)).ps.length<1000000:=by rw[bO,dS];omega
  obtain⟨u,o⟩:=uS e g t z (m:=m) (k:=k+1) (o7:=KY k) (by omega);rw[w]at o;refine⟨u,?_⟩;rw[bh];refine bs (x:=(Fl.nx,zP f qs (BX f k (inner f qs k (mac f qs k))) (KY k))) (bs (x:=zP f qs (mac f qs k) (KY k)) rfl (Fy e (aaR j) i ?_)) o;generalize inner f qs k (mac f qs k)=s at *;refine ab (av a (ab (bx (ρ3:=zP f qs ⟨s.ps++[s.pl],s.bs,s.pl⟩ (KY k)) rfl rfl rfl rfl (by rw[aaa];exact v) ?_) (ab (BZ (r:=s.pl+sz f k) (ρ2:=zP f qs (BX f k s) (KY k)) rfl (af (ρ3:=zP f qs ⟨s.ps++[s.pl],s.bs,s.pl⟩ (KY k)) rfl rfl (BW (n:=n+1) (aak j)) rfl) rfl rfl rfl) rfl))) rfl;show _=[Lc f.rows,Le f,Lf qs,Li qs,some (Il (s.ps++[s.pl])),Ld s.bs,KY s.pl,KY k];rw[bF];rfl
theorem yi(b:qs.Pairwise λx y=>x.1<y.1)(h:∀q∈qs,0<=q.1)(g:qs.length<=300)(i:f.rows.length<=200):pl.pg.call (n+4) 23 [Rl f.rows,Lo f,Pq qs]=some (Ga (inner f qs f.rows.length (mac f qs f.rows.length)),[Rl f.rows,Lo f,Pq qs]):=by
 obtain⟨a,e⟩:=uS b h g i (aaV _);generalize inner f qs f.rows.length (mac f qs f.rows.length)=s at e;have m:(((f.rows.length:Nat):Int)+1).toNat=f.rows.length+1:=by omega
 obtain⟨p,o,j⟩:=uR (ps:=[]) b;have k:be (Lm (n+3)) ebg [Lc f.rows,Le f,Lf qs,none,none,none,none,none]=some (.nx,[Lc f.rows,Le f,Lf qs,Li qs,none,none,none,none]):=mW (dA rfl rfl rfl) (by rw[aaa];omega) rfl j (by show 3<8;decide) rfl;refine ai rfl rfl (ab k (ab rfl (ab rfl (ab rfl (ab (cN (fV (ah (aG rfl rfl blen) rfl rfl rfl rfl) rfl (by omega)) (by rw[m];exact e)) (ak (ag (bV (zs:=[Dl s.ps,Dl s.bs,It s.pl]) (ρ2:=[Lc f.rows,Le f,Lf qs,Li qs,Lh s.ps,Lh s.bs,KY s.pl,a]) rfl rfl ?_ rfl) rfl))))))) rfl;have c:own1 (zP f qs s a) (.rf 4)=some (Dl s.ps,[Lc f.rows,Le f,Lf qs,Li qs,Lh s.ps,Ld s.bs,KY s.pl,a]):=by show (frz1 _ (.rf 4)).map _=_;rw[bX rfl (aB _) rfl];rfl
 have l:own1 [Lc f.rows,Le f,Lf qs,Li qs,Lh s.ps,Ld s.bs,KY s.pl,a] (.rf 5)=some (Dl s.bs,[Lc f.rows,Le f,Lf qs,Li qs,Lh s.ps,Lh s.bs,KY s.pl,a]):=by show (frz1 _ (.rf 5)).map _=_;rw[bX rfl (aB _) rfl];rfl
 have d:mapR own1 [Lc f.rows,Le f,Lf qs,Li qs,Lh s.ps,Ld s.bs,KY s.pl,a] [.rf 5,.val (It s.pl)]=some ([Dl s.bs,It s.pl],[Lc f.rows,Le f,Lf qs,Li qs,Lh s.ps,Lh s.bs,KY s.pl,a]):=bs l rfl;exact bs c (by show Option.map _ (mapR own1 _ _)=_;rw[d];rfl)
theorem uT{i j:Int}:kO .eq (.int i) (.int j)=some (decide (i=j)):=rfl
structure Pool (N:Nat)(q:Int×List Int):Prop where
 g0:0<=q.1
 g1:q.1<=N
 l0:1<=q.2.length
 l1:q.2.length<=100
theorem uU{C:Ct}{a:E}{lo b:Eo}{ρ ρ1 ρ2 ρ3:DEnv}{x:OR}{l u:Option Int}{ds:List PyData}(f:ev C a ρ=some (x,ρ1))(e:Bh C lo ρ1=some (l,ρ2))(c:Bh C b ρ2=some (u,ρ3))(d:mr ρ3 x=some ds):ev C (.sll a lo b) ρ=some (.val (.lst ((cutD ds l u).map OD.fz)),ρ3):=bs f (bs e (bs c (bs d rfl)))
def oQ(f:Cf)(a:Int):Int:=((f.rows[a.toNat]?).map R.num).getD 0
def mX(f:Cf)(qs:Pz)(z:Int×Int):Bool:=decide (oQ f z.1∈((qs[z.2.toNat]?).map (·.2)).getD [])
structure Qok (f:Cf)(qs:Pz):Prop where
 ok:∀q∈qs,Pool f.rows.length q
 inc:qs.Pairwise λx y=>x.1<y.1
abbrev Zp(z:Int×Int):PyData:=.tuple [.int z.1,.int z.2]
theorem iB:∀{gs us:List Int},iN (gs.map PyData.int) (us.map PyData.int)=(gs.zip us).map Zp
 |[],_=>rfl
 |_::_,[]=>rfl
 |a::as,b::bs=>by have:=iB (gs:=as) (us:=bs);unfold iN at this ⊢;rw[aap,aap,acv,abv,aap,this]
def Zok(f:Cf)(qs:Pz)(z:Int×Int):Prop:=z.1∈gIx 0 f.rows/\0<=z.2/\z.2<qs.length
theorem Zok.row{f:Cf}{qs:Pz}{z:Int×Int}(h:Zok f qs z):∃(i:Nat) (x y:Int),z.1=i/\i<f.rows.length/\f.rows[i]?=some (.st x y)/\oQ f z.1=y:=by
 obtain⟨j,r,e,a,c⟩:=gIx_mem h.1;obtain⟨x,y,rfl⟩:=gr_st c;have b:z.1=(j:Int):=by omega
 refine⟨j,x,y,b,(aai.mp a).1,a,?_⟩;unfold oQ;rw[b,aaT,a];rfl
abbrev Fp(qs:Pz)(us:List Int):OD:=.fz (.tuple [.list (qs.map Po),.list (us.map PyData.int)])
abbrev Lk(qs:Pz)(us:List Int):Option OD:=some (Fp qs us)
theorem fD:∀ns:List Int,gW (ns.map PyData.int)=some ns
 |[]=>rfl
 |n::ns=>bs rfl (bs (fD ns) rfl)
theorem iC{n:Nat}:∀{rs:List R}{i:Int}{out:List PyData}{o0 o1:Option OD},∃a,bU (cf (Lm (n+1)) (.tp [0,1]) (.some HX) (.nm 0)) (enF i rs) out [o0,o1]=some (out++(gIx i rs).map PyData.int,a)
 |[],i,out,o0,o1=>⟨[o0,o1],by rw[gIx,aaL,aan];rfl⟩
 |r::rs,i,out,o0,o1=>by
  have b:aP (Lm (n+1)) HX [KY i,Lb r]=some (r.gr,[KY i,Lb r]):=bC (af (ρ3:=[KY i,Lb r]) rfl rfl (ze r) rfl);rw[gIx];cases c:r.gr with
  |false=>rw[c]at b;obtain⟨a,e⟩:=iC (n:=n) (rs:=rs) (i:=i+1) (out:=out++[]) (o0:=KY i) (o1:=Lb r);refine⟨a,bs (x:=([],[KY i,Lb r])) (qT rfl b) ?_⟩;rw[if_neg aad,e,aan]
  |true=>rw[c]at b;obtain⟨a,e⟩:=iC (n:=n) (rs:=rs) (i:=i+1) (out:=out++[.int i]) (o0:=KY i) (o1:=Lb r);refine⟨a,bs (x:=([.int i],[KY i,Lb r])) (qS rfl b rfl rfl) ?_⟩;rw[if_pos rfl,e,aac];rfl
theorem lay_ints:∀ns:List Int,PyData.canLayAll0 (ns.map PyData.int)=true
 |[]=>rfl
 |_::r=>by simp[PyData.canLayAll0,PyData.canLay0,lay_ints r]
theorem iD:∀ns:List Int,PyData.depthAll (ns.map PyData.int)=0
 |[]=>rfl
 |_::r=>by simp[PyData.depthAll,PyData.depth,iD r]
theorem yj(ns:List Int):kO .eq (.list (ns.map PyData.int)) (.list [])=some ns.isEmpty:=by
 have h:SeqAt.shaped (.list (ns.map PyData.int))=true:=by simp[SeqAt.shaped,PyData.canLay0,PyData.depth,lay_ints,iD]
 have a:SeqAt.shaped (.list [])=true:=by decide +kernel
 have:PyData.eqv (.list (ns.map PyData.int)) (.list [])=ns.isEmpty:=by cases ns<;>simp[PyData.eqv,PyData.eqvAll]
 show (if (SeqAt.shaped (.list (ns.map PyData.int))&&SeqAt.shaped (.list []))=true then some (PyData.eqv (.list (ns.map PyData.int)) (.list [])) else none)=_;rw[h,a,Bool.and_self,if_pos rfl,this]
theorem mY{ρ:DEnv}{j:Nat}{ds:List PyData}(h:ρ[j]?.join=some (.lst (ds.map OD.fz))):mr ρ (.rf j)=some ds:=by show (ρ[j]?.join).bind listOf=_;rw[h];exact jz ds
theorem B3{ρ:DEnv}{ds:List PyData}:mr ρ (.val (.lst (ds.map OD.fz)))=some ds:=by show rq (ds.map OD.fz)=_;exact jz ds
theorem uV{C:Ct}{a:E}{ρ ρ1 ρ2:DEnv}{x:OR}{d:PyData}(c:ev C a ρ=some (x,ρ1))(b:frz1 ρ1 x=some (d,ρ2)):ev C (.frz a) ρ=some (.val (.fz d),ρ2):=bs c (bs b rfl)
theorem B4{C:Ct}{i:Nat}{a e:E}{ρ ρ1 ρ2 ρ3:DEnv}{y x:OR}{k:Int}{d:PyData}{xs ys:List OD}(l:ρ[i]?.join=some (.lst ys))(hk:ev C a ρ=some (y,ρ1))(f:ev C e ρ1=some (x,ρ2))(j:au ρ2 y=some (.int k))(b:au ρ2 x=some d)(h:Bd d=true)(g:ρ2[i]?.join=some (.lst xs))(c:0<=k/\k<=xs.length/\xs.length<100000)(m:ρ2.set i (some (.lst (xs.take k.toNat++.fz d::xs.drop k.toNat)))=ρ3):be C (.ins i a e) ρ=some (.nx,ρ3):=bs l (bs rfl (bs hk (bs f (bs j (bs rfl (bs b (bg h (bs g (bs rfl (bg c (by rw[<-m])))))))))))
theorem B5{C:Ct}{a b:E}{ρ ρ1 ρ2:DEnv}{x y:OR}{i j:Int}(f:ev C a ρ=some (x,ρ1))(e:ev C b ρ1=some (y,ρ2))(c:au ρ2 x=some (.int i))(d:au ρ2 y=some (.int j))(h:-(2^62)<=i/\i<2^62/\-(2^62)<=j/\j<2^62):nL C (.rg2 a b) ρ=some (bP i (j-i).toNat,ρ2):=bs f (bs e (bs c (bs rfl (bs d (bs rfl (bg h rfl))))))
def uX(lo:Int)(n:Nat):List Int:=(List.range n).map λ(i:Nat)=>lo+(i:Int)
theorem B6{lo:Int}{n:Nat}:bP lo n=(uX lo n).map PyData.int:=by unfold bP uX;rw[aaQ];rfl
theorem iE{C:Ct}{w:OD}{ns:List Int}(c:∀y:Int,aP C HW [KY y,some w]=some (!decide (y∈ns),[KY y,some w])):∀{xs:List Int}{out:List PyData}{o:Option OD},∃a,bU (cf C (.nm 0) (.some HW) (.nm 0)) (xs.map PyData.int) out [o,some w]=some (out++(xs.filter λy=>!decide (y∈ns)).map PyData.int,[a,some w])
 |[],out,o=>⟨o,by show some (out,_)=some (out++[],_);rw[aan]⟩
 |x::xs,out,o=>by
  have t:=c x;cases b:!decide (x∈ns) with
  |true=>rw[b]at t;obtain⟨a,e⟩:=iE c (xs:=xs) (out:=out++[.int x]) (o:=KY x);refine⟨a,bs (x:=([.int x],[KY x,some w])) (qS rfl t rfl rfl) ?_⟩;rw[acd (p:=λy=>!decide (y∈ns)) b,aap];rw[aac]at e;exact e
  |false=>rw[b]at t;obtain⟨a,e⟩:=iE c (xs:=xs) (out:=out++[]) (o:=KY x);refine⟨a,bs (x:=([],[KY x,some w])) (qT rfl t) ?_⟩;rw[ace (p:=λy=>!decide (y∈ns)) (by rw[b];exact aad)];rw[aan]at e ⊢;exact e
theorem lC{ds:List PyData}{k:Nat}:cutD ds none (some (k:Int))=ds.take k:=by
 have a:HT.sIx ds.length 0 none=0:=rfl;have b:HT.sIx ds.length ds.length (some (k:Int))=min k ds.length:=by unfold HT.sIx;simp only;rw[if_neg (by omega)];rfl
 unfold cutD;rw[b,a,List.drop_zero,Nat.sub_zero];by_cases h:k<=ds.length
 ·rw[abJ h]
 ·rw[Nat.min_eq_right (by omega),ab4 (aag _),ab4 (by omega)]
abbrev gE(t:OD)(rs:List R)(g gs:List Int)(o4 o5:Option OD):DEnv:=[some t,Lc rs,Lh g,Ld gs,o4,o5,none,none,none,none,none,none]
abbrev gB:Ss:=match F_any_plan.body with|.cons _ (.cons _ (.cons (.fr _ _ b) _))=>b|_=>.nil
theorem iF{n:Nat}{rs:List R}{g:List Int}(S:rs.length<=200):∀{j i m:Nat}{a b c:Int}{gs:List Int}{o4 o5:Option OD},TpOk b c m->m+j<=100000->gs.length+j<=50->gs.Nodup->(∀x∈gs,0<=x/\x<=rs.length) ->
  ∃Y M Q f C I,bp (λd A=>(bc (.nm 4) (.fz d) A).bind λρ1=>aD (Lm (n+1)) gB ρ1) (bP i j) (gE (Tp a b c) rs g gs o4 o5)=some (.nx,gE (Tp Y M Q) rs g f C I)/\TpOk M Q (m+j)/\f.length<=gs.length+j/\f.Nodup/\(∀x∈f,0<=x/\x<=rs.length)/\(0<gs.length+j->0<f.length)
 |0,i,m,a,b,c,gs,o4,o5,h,_,_,nd,hb=>⟨a,b,c,gs,o4,o5,rfl,h,by omega,nd,hb,λz=>by omega⟩
 |j+1,i,m,a,b,c,gs,o4,o5,h,hm,hl,nd,hb=>by
  obtain⟨x,k,o,l,N,x0,x1,L⟩:=aH (n:=n) (a:=a) (many:=(rs.length:Int)+1) h (by omega) (by omega) (by omega);have U:(Lm (n+1)).call=pl.pg.call (n+1):=rfl;rw[<-U]at N;have T:be (Lm (n+1)) ea3 (gE (Tp a b c) rs g gs (KY i) o5)=some (.nx,gE (Tp k o l) rs g gs (KY i) (KY x)):=ae (ρ2:=gE (Tp k o l) rs g gs (KY i) o5) (af (rs:=[.rf 0,.val (It ((rs.length:Int)+1))]) (ρ1:=gE (Tp a b c) rs g gs (KY i) o5) (ρ3:=gE (Tp k o l) rs g gs (KY i) o5) (aa rfl (aa (ah (dx:=.int rs.length) (aG (rs:=[.val (Rl rs)]) rfl rfl blen) rfl rfl rfl rfl) aj)) rfl N rfl) rfl rfl rfl;have t:aP (Lm (n+1)) eec (gE (Tp k o l) rs g gs (KY i) (KY x))=some (!decide (x∈gs),gE (Tp k o l) rs g gs (KY i) (KY x)):=ar (ao (dx:=.int x) (dy:=.list (gs.map PyData.int)) rfl rfl rfl (aB _) uO);by_cases u:x∈gs
  ·rw[Dac u]at t;obtain⟨J,w,D,f,v,G,B,H,O,q,s,p⟩:=iF (n:=n) S (g:=g) (j:=j) (i:=i+1) (a:=k) (gs:=gs) (o4:=KY i) (o5:=KY x) L (by omega) (by omega) nd hb;refine⟨J,w,D,f,v,G,?_,H.up (by omega),by omega,q,s,λ_=>p (by have:=acg u;omega)⟩;rw[bh];exact bs (x:=(Fl.nx,gE (Tp k o l) rs g gs (KY i) (KY x))) (bs (x:=gE (Tp a b c) rs g gs (KY i) o5) rfl (ab T (ab (s_ifF t rfl) rfl))) B
  ·rw[Dab u]at t;have Z:be (Lm (n+1)) (.app 3 (.nm 5)) (gE (Tp k o l) rs g gs (KY i) (KY x))=some (.nx,gE (Tp k o l) rs g (gs++[x]) (KY i) (KY x)):=bx (xs:=gs.map It) (ρ2:=gE (Tp k o l) rs g gs (KY i) (KY x)) rfl rfl rfl rfl (by rw[aaa];omega) (by show _=[_,_,_,some (Il (gs++[x])),_,_,none,none,none,none,none,none];rw[bF];rfl);obtain⟨J,w,D,f,v,G,B,H,O,q,s,p⟩:=iF (n:=n) S (g:=g) (j:=j) (i:=i+1) (a:=k) (gs:=gs++[x]) (o4:=KY i) (o5:=KY x) L (by omega) (by rw[aaf,aaI];omega) (aaA.mpr ⟨nd,aaF.mpr ⟨aar,aa1⟩,λy r z X e=>u (by rw[aaH.mp X]at e;rw[<-e];exact r)⟩) (λy r=>by
    rcases aam.mp r with r|r
    ·exact hb y r
    ·rw[aaH.mp r];omega)
   rw[aaf,aaI]at O p;refine⟨J,w,D,f,v,G,?_,H.up (by omega),by omega,q,s,λ_=>p (by omega)⟩;rw[bh];exact bs (x:=(Fl.nx,gE (Tp k o l) rs g (gs++[x]) (KY i) (KY x))) (bs (x:=gE (Tp a b c) rs g gs (KY i) o5) rfl (ab T (ab (av t (ab Z rfl)) rfl))) B
abbrev rz(qs:Pz):OD:=.lst ((qs.map Po).map OD.fz)
abbrev yE(t:OD)(f:Cf)(g gaps us:List Int)(qs:Pz)(at' gap:Int)(o9:Option OD)(o4 o10 o11:Option OD):DEnv:=[some t,Lc f.rows,Lh g,Lh gaps,o4,KY gap,Lh us,some (rz qs),KY at',o9,o10,o11]
abbrev yB:Ss:=match F_any_plan.body with|.cons _ (.cons _ (.cons _ (.cons _ (.cons _ (.cons _ (.cons (.fr _ _ b) _))))))=>b|_=>.nil
abbrev nB:Ss:=match yB with|.cons _ (.cons (.fr _ _ b) _)=>b|_=>.nil
abbrev zj(_:List Int):Prop:=True
theorem uY{ns:List Int}{x:Int}{k:Nat}:(ns.take k++x::ns.drop k).Perm (x::ns):=by
 have:=aav (a:=x) (l₁:=ns.take k) (l₂:=ns.drop k)
 rwa [ach]at this
theorem iG{n:Nat}{f:Cf}{g gaps us:List Int}{qs:Pz}{at' gap:Int}{o11:Option OD}(hf:Nb f.rows):∀{zs:List (Int×Int)}{m:Nat}{a b c:Int}{ns:List Int}{o4 o10:Option OD},(∀z∈zs,z.1∈gIx 0 f.rows)->TpOk b c m->m+zs.length<=200000->ns.length+zs.length<=1000->zj ns ->
  ∃a' S O l B u,bp (λd C=>(bc (.tp [4,10]) (.fz d) C).bind λρ1=>aD (Lm (n+1)) nB ρ1) (zs.map Zp) (yE (Tp a b c) f g gaps us qs at' gap (Ld ns) o4 o10 o11)=some (.nx,yE (Tp a' S O) f g gaps us qs at' gap (Ld l) B u o11)/\TpOk S O (m+zs.length)/\l.length<=ns.length+zs.length/\zj l/\(∀x∈ns,x∈l)/\∀z∈zs,z.2=at'->oQ f z.1∈l
 |[],m,a,b,c,ns,o4,o10,_,h,_,_,hn=>⟨a,b,c,ns,o4,o10,rfl,h,by omega,hn,λx hx=>hx,λz I=>absurd I aar⟩
 |z::zs,m,a,b,c,ns,o4,o10,I,h,hm,hl,hn=>by
  rw[aao]at hm hl;obtain⟨i,x,y,ei,hi,hr,v⟩:=Zok.row (f:=f) (qs:=[(0,[])]) (z:=(z.1,0)) ⟨I z aaj,by show (0:Int)<=0;omega,by show (0:Int)<((1:Nat):Int);omega⟩;have ei:z.1=(i:Int):=ei;have v:oQ f z.1=y:=v;have a5:100<=y/\y<100000000:=by
   have M:=hf _ (aaz hr);have U:R.gr (.st x y)=true:=by
    obtain⟨j,r,e,M,U⟩:=gIx_mem (I z aaj);have:j=i:=by omega
    subst this;rw[hr]at M;cases M;exact U
   have U:=Daa U;have M:(0<=x/\x<=4)/\0<=y/\y<=99999999:=M;omega
  have A:∀{t Y o10},ev (Lm (n+1)) edj (yE t f g gaps us qs at' gap Y (KY z.1) o10 o11)=some (.val (It y),yE t f g gaps us qs at' gap Y (KY z.1) o10 o11):=λ{t Y o10}=>aw (aw rfl rfl rfl (aV (by rw[ei];exact fv hr))) rfl rfl (ax (bL (k:=2) rfl));have st:(bc (.tp [4,10]) (.fz (Zp z)) (yE (Tp a b c) f g gaps us qs at' gap (Ld ns) o4 o10 o11))=some (yE (Tp a b c) f g gaps us qs at' gap (Ld ns) (KY z.1) (KY z.2) o11):=rfl;have J:aP (Lm (n+1)) eee (yE (Tp a b c) f g gaps us qs at' gap (Ld ns) (KY z.1) (KY z.2) o11)=some (decide (z.2=at'),yE (Tp a b c) f g gaps us qs at' gap (Ld ns) (KY z.1) (KY z.2) o11):=ar (ao rfl rfl rfl rfl uT);have H:aP (Lm (n+1)) eby (yE (Tp a b c) f g gaps us qs at' gap (Ld ns) (KY z.1) (KY z.2) o11)=some (!decide (y∈ns),yE (Tp a b c) f g gaps us qs at' gap (Ld ns) (KY z.1) (KY z.2) o11):=ar (ao (dx:=.int y) (dy:=.list (ns.map PyData.int)) A rfl rfl (aB _) uO);have s:aP (Lm (n+1)) ea8 (yE (Tp a b c) f g gaps us qs at' gap (Ld ns) (KY z.1) (KY z.2) o11)=some (false,yE (Tp a b c) f g gaps us qs at' gap (Ld ns) (KY z.1) (KY z.2) o11)->(z.2=at'->y∈ns)->∃a' S O l B u,bp (λd C=>(bc (.tp [4,10]) (.fz d) C).bind λρ1=>aD (Lm (n+1)) nB ρ1) ((z::zs).map Zp) (yE (Tp a b c) f g gaps us qs at' gap (Ld ns) o4 o10 o11)=some (.nx,yE (Tp a' S O) f g gaps us qs at' gap (Ld l) B u o11)/\TpOk S O (m+(zs.length+1))/\l.length<=ns.length+(zs.length+1)/\zj l/\(∀x∈ns,x∈l)/\∀w∈z::zs,w.2=at'->oQ f w.1∈l:=λt q=>by
   obtain⟨a2,b2,c2,l,Z,D,e2,H,l2,n2,N,z2⟩:=iG (n:=n) hf (g:=g) (gaps:=gaps) (us:=us) (qs:=qs) (at':=at') (gap:=gap) (o11:=o11) (zs:=zs) (a:=a) (ns:=ns) (o4:=KY z.1) (o10:=KY z.2) (λw p=>I w (aal _ p)) h (by omega) (by omega) hn;refine⟨a2,b2,c2,l,Z,D,bs (x:=(Fl.nx,yE (Tp a b c) f g gaps us qs at' gap (Ld ns) (KY z.1) (KY z.2) o11)) (bs st (ab (s_ifF t rfl) rfl)) e2,H.up (by omega),by omega,n2,N,λw p X=>?_⟩;rcases aab.mp p with rfl|p
   ·rw[v];exact N y (q X)
   ·exact z2 w p X
  by_cases ha:z.2=at'
  ·rw[Dac ha]at J;by_cases q:y∈ns
   ·rw[Dac q]at H;exact s (cv J H) λ_=>q
   ·rw[Dab q]at H;clear s;obtain⟨k,G,T,L,e1,k0,k1,tk⟩:=aH (n:=n) (a:=a) (many:=(ns.length:Int)+1) h (by omega) (by omega) (by omega);have ec:(Lm (n+1)).call=pl.pg.call (n+1):=rfl;rw[<-ec]at e1;obtain⟨o,rfl⟩:∃o:Nat,k=o:=⟨k.toNat,by omega⟩
    have Q:ev (Lm (n+1)) Ji (yE (Tp a b c) f g gaps us qs at' gap (Ld ns) (KY z.1) (KY z.2) o11)=some (.val (It ((ns.length:Int)+1)),yE (Tp a b c) f g gaps us qs at' gap (Ld ns) (KY z.1) (KY z.2) o11):=ah (dx:=.int ns.length) (aG (rs:=[.rf 9]) (ds:=[.list (ns.map PyData.int)]) rfl (by show (au _ (.rf 9)).bind _=_;rw[show au (yE (Tp a b c) f g gaps us qs at' gap (Ld ns) (KY z.1) (KY z.2) o11) (.rf 9)=some (.list (ns.map PyData.int)) from aB ns];rfl) blen) rfl rfl rfl rfl;have s1:be (Lm (n+1)) eao (yE (Tp a b c) f g gaps us qs at' gap (Ld ns) (KY z.1) (KY z.2) o11)=some (.nx,yE (Tp G T L) f g gaps us qs at' gap (some (Il (ns.take o++y::ns.drop o))) (KY z.1) (KY z.2) o11):=B4 (k:=(o:Int)) (d:=.int y) (ys:=ns.map It) (xs:=ns.map It) (ρ1:=yE (Tp G T L) f g gaps us qs at' gap (Ld ns) (KY z.1) (KY z.2) o11) (ρ2:=yE (Tp G T L) f g gaps us qs at' gap (Ld ns) (KY z.1) (KY z.2) o11) rfl (af (rs:=[.rf 0,.val (It ((ns.length:Int)+1))]) (ρ1:=yE (Tp a b c) f g gaps us qs at' gap (Ld ns) (KY z.1) (KY z.2) o11) (ρ3:=yE (Tp G T L) f g gaps us qs at' gap (Ld ns) (KY z.1) (KY z.2) o11) (aa rfl (aa Q aj)) rfl e1 rfl) A rfl rfl rfl rfl (by rw[aaa];omega) (by
     have:(ns.map It).take (o:Int).toNat++It y::(ns.map It).drop (o:Int).toNat=(ns.take o++y::ns.drop o).map It:=by rw[aaT,aau,aap,abw,List.map_drop]
     rw[this];rfl)
    have pm:=uY (ns:=ns) (x:=y) (k:=o);have a3:zj (ns.take o++y::ns.drop o):=trivial;have a4:(ns.take o++y::ns.drop o).length=ns.length+1:=by rw[pm.length_eq,aao]
    obtain⟨a2,b2,c2,l,Z,D,e2,a0,l2,n2,N,z2⟩:=iG (n:=n) hf (g:=g) (gaps:=gaps) (us:=us) (qs:=qs) (at':=at') (gap:=gap) (o11:=o11) (zs:=zs) (a:=G) (ns:=ns.take o++y::ns.drop o) (o4:=KY z.1) (o10:=KY z.2) (λw p=>I w (aal _ p)) tk (by omega) (by omega) a3;refine⟨a2,b2,c2,l,Z,D,bs (x:=(Fl.nx,yE (Tp G T L) f g gaps us qs at' gap (some (Il (ns.take o++y::ns.drop o))) (KY z.1) (KY z.2) o11)) (bs st (ab (av (cv J H) (ab s1 rfl)) rfl)) e2,a0.up (by rw[aao];omega),by rw[aao];omega,n2,λw p=>N w (pm.mem_iff.mpr (aal _ p)),λw p X=>?_⟩;rcases aab.mp p with rfl|p
    ·rw[v];exact N y (pm.mem_iff.mpr aaj)
    ·exact z2 w p X
  ·rw[Dab ha]at J;exact s (fU J) λe=>absurd e ha
theorem fill{n m:Nat}{f:Cf}{g gaps us:List Int}{qs:Pz}{at' gap:Int}{a b c:Int}{ns:List Int}{o4 o10 o11:Option OD}(h:TpOk b c m)(hm:m<=300000)(hn:zj ns)(h0:0<ns.length)(hl:ns.length<=100):
  ∃a' b' c' v J,be (Lm (n+1)) (match yB with|.cons _ (.cons _ (.cons s _))=>s|_=>.cont) (yE (Tp a b c) f g gaps us qs at' gap (Ld ns) o4 o10 o11)=some (.nx,yE (Tp a' b' c') f g gaps us qs at' gap (Ld v) o4 o10 J)/\TpOk b' c' (m+2)/\zj v/\(∀x∈ns,x∈v)/\0<v.length/\v.length<=100:=by
 obtain⟨x,p,r,q,e1,x0,x1,t1⟩:=aH (n:=n) (a:=a) (many:=24) h (by omega) (by decide) (by decide);obtain⟨y,O,D,I,e2,y0,y1,t2⟩:=aH (n:=n) (a:=p) (many:=2) t1 (by omega) (by decide) (by decide);have ec:(Lm (n+1)).call=pl.pg.call (n+1):=rfl;rw[<-ec]at e1 e2;have t:aP (Lm (n+1)) ebp (yE (Tp a b c) f g gaps us qs at' gap (Ld ns) o4 o10 o11)=some (decide (x=0),yE (Tp p r q) f g gaps us qs at' gap (Ld ns) o4 o10 o11):=ar (ao (af (ρ3:=yE (Tp p r q) f g gaps us qs at' gap (Ld ns) o4 o10 o11) rfl rfl e1 rfl) rfl rfl rfl uT);by_cases hx:x=0
 ·rw[Dac hx]at t;obtain⟨d,B⟩:∃d,d=((uX 50000000 100).filter λy=>!decide (y∈ns)).take (100-ns.length):=⟨_,rfl⟩
  have a3:d.length<=100-ns.length:=by rw[B,aaW];omega
  obtain⟨o',N⟩:=iE (C:=Lm (n+1)) (w:=Il ns) (ns:=ns) (λy=>ar (ao (dx:=.int y) (dy:=.list (ns.map PyData.int)) rfl rfl rfl (aB _) uO)) (xs:=uX 50000000 100) (out:=[]) (o:=none);rw[aaD,<-B6]at N;generalize hρ:yE (Tp p r q) f g gaps us qs at' gap (Ld ns) o4 o10 o11=ρ at t;have A:ev (Lm (n+1)) Jn ρ=some (.val (.lst ((((uX 50000000 100).filter λy=>!decide (y∈ns)).map PyData.int).map OD.fz)),ρ):=cI (ds:=bP 50000000 100) (ρ1:=ρ) (ρ2:=ρ) (zc:=([Ld ns],ρ.set 9 none)) (B5 (i:=50000000) (j:=50000100) rfl rfl rfl rfl (by decide)) (by rw[gS];decide) (by rw[<-hρ];rfl) N (by rw[<-hρ];rfl);have M:ev (Lm (n+1)) H9 ρ=some (.val (It ((100-ns.length:Nat):Int)),ρ):=by have:ev (Lm (n+1)) edt ρ=some (.val (It ns.length),ρ):=aG (rs:=[.rf 9]) (ρ1:=ρ) (ds:=[.list (ns.map PyData.int)]) (by rw[<-hρ];rfl) (by show (au _ (.rf 9)).bind _=_;rw[show au ρ (.rf 9)=some (.list (ns.map PyData.int)) by rw[<-hρ];exact aB ns];rfl) blen;have e:=ah (o:=.sub) (C:=Lm (n+1)) (a:=.int 100) (ρ:=ρ) (dx:=.int 100) (dy:=.int ns.length) rfl this rfl rfl rfl;rw[e,show (100:Int)-(ns.length:Int)=((100-ns.length:Nat):Int) by omega]
  have L:ev (Lm (n+1)) eaj ρ=some (.val (.lst ((d.map PyData.int).map OD.fz)),ρ):=by have hv:Bh (Lm (n+1)) (.some H9) ρ=some (some ((100-ns.length:Nat):Int),ρ):=bs M rfl;have:=uU (lo:=.none) (l:=none) (u:=some ((100-ns.length:Nat):Int)) A rfl hv B3;rw[lC,<-abw,<-B]at this;exact this
  have Z:be (Lm (n+1)) eaf ρ=some (.nx,yE (Tp p r q) f g gaps us qs at' gap (Ld ns) o4 o10 (Ld d)):=ae (ρ2:=ρ) (z:=Il d) L (by rw[cO];rfl) (by rw[<-hρ];rfl) (by rw[<-hρ];rfl);have H:∀{ls:List Int},Il ls=.lst ((ls.map PyData.int).map OD.fz):=λ{ls}=>by rw[cO]
  have r9:mr (yE (Tp p r q) f g gaps us qs at' gap (Ld ns) o4 o10 (Ld d)) (.rf 9)=some (ns.map PyData.int):=mY (by show some (Il ns)=_;rw[H]);have G:mr (yE (Tp p r q) f g gaps us qs at' gap (Ld ns) o4 o10 (Ld d)) (.rf 11)=some (d.map PyData.int):=mY (by show some (Il d)=_;rw[H]);have Y:ev (Lm (n+1)) I9 (yE (Tp p r q) f g gaps us qs at' gap (Ld ns) o4 o10 (Ld d))=some (.val (Il (ns++d)),yE (Tp p r q) f g gaps us qs at' gap (Ld ns) o4 o10 (Ld d)):=by have:=i7 (C:=Lm (n+1)) (a:=.nm 9) (b:=.nm 11) (ρ:=yE (Tp p r q) f g gaps us qs at' gap (Ld ns) o4 o10 (Ld d)) rfl rfl r9 G (by rw[aaa,aaa];omega);rw[<-aau,cO]at this;exact this
  have X:ev (Lm (n+1)) I0 (yE (Tp p r q) f g gaps us qs at' gap (Ld ns) o4 o10 (Ld d))=some (.val (Il (d++ns)),yE (Tp p r q) f g gaps us qs at' gap (Ld ns) o4 o10 (Ld d)):=by have:=i7 (C:=Lm (n+1)) (a:=.nm 11) (b:=.nm 9) (ρ:=yE (Tp p r q) f g gaps us qs at' gap (Ld ns) o4 o10 (Ld d)) rfl rfl G r9 (by rw[aaa,aaa];omega);rw[<-aau,cO]at this;exact this
  obtain⟨w,hw,ew⟩:=gx (xs:=[ns++d,d++ns]) y0 y1;have U:atI [Il (ns++d),Il (d++ns)] y=Ld w:=by
   obtain⟨k,S,Q⟩:=bnd ew;refine bs (x:=k) S ?_;have:([ns++d,d++ns].map Il)[k]?=Ld w:=by rw[aaq,Q];rfl
   exact this
  have hp:w.Perm (ns++d):=by
   simp only[aab,aar,or_false]at hw;rcases hw with rfl|rfl
   ·exact List.Perm.refl _
   ·exact aa0
  have s9:be (Lm (n+1)) eap (yE (Tp p r q) f g gaps us qs at' gap (Ld ns) o4 o10 (Ld d))=some (.nx,yE (Tp O D I) f g gaps us qs at' gap (Ld w) o4 o10 (Ld d)):=ae (ρ2:=yE (Tp O D I) f g gaps us qs at' gap (Ld ns) o4 o10 (Ld d)) (z:=Il w) (aw (x:=.val (.lst [Il (ns++d),Il (d++ns)])) (ρ1:=yE (Tp p r q) f g gaps us qs at' gap (Ld ns) o4 o10 (Ld d)) (y:=.val (It y)) (ρ2:=yE (Tp O D I) f g gaps us qs at' gap (Ld ns) o4 o10 (Ld d)) (bb (aa Y (aa X aj)) rfl rfl) (af (ρ3:=yE (Tp O D I) f g gaps us qs at' gap (Ld ns) o4 o10 (Ld d)) rfl rfl e2 rfl) rfl (eI U)) rfl rfl rfl;have a0:w.length=ns.length+d.length:=by rw[hp.length_eq,aaf]
  refine⟨O,D,I,w,Ld d,av t (ab Z (ab s9 rfl)),t2,trivial,λz T=>hp.mem_iff.mpr (aah _ T),by omega,by omega⟩
 ·rw[Dab hx]at t;exact⟨p,r,q,ns,o11,s_ifF t rfl,t1.up (by omega),hn,λz T=>T,h0,hl⟩
def enN:Nat->List PyData->List PyData
 |_,[]=>[]
 |i,d::ds=>.tuple [.int i,d]::enN (i+1) ds
theorem oR:∀{ds:List PyData}{i j:Nat},(enN i ds)[j]?=(ds[j]?).map λd=>.tuple [.int ((i+j:Nat):Int),d]
 |[],_,_=>rfl
 |d::ds,i,0=>rfl
 |d::ds,i,j+1=>by rw[enN,abr,abr,oR,show i+1+j=i+(j+1) by omega]
theorem yk(ds:List PyData):cy ds=enN 0 ds:=by
 apply abM;intro j;rw[oR,cy,aaq];by_cases a:j<ds.length
 ·rw[acf a,aak a];simp[aaP,aak a]
 ·rw[abe (by simpa using a),abe (by omega)];rfl
theorem rh{n m:Nat}{f:Cf}{g gaps us:List Int}{qs:Pz}{i:Nat}{gap:Int}{a b c:Int}{o4 o5 o8 o9 o10 o11:Option OD}(hf:Nb f.rows)(hg:g=gIx 0 f.rows)(a5:g.length<=60)(b0:us.length=g.length)(u:0<=gap/\gap<=f.rows.length)(a8:qs.length<=100)(h:TpOk b c m)(hm:m<=100000):
  ∃a' b' c' ns X H D,((bc (.tp [8,5]) (.fz (.tuple [.int i,.int gap])) [KZ a b c,Lc f.rows,Lh g,Lh gaps,o4,o5,Lh us,some (rz qs),o8,o9,o10,o11]).bind λρ1=>aD (Lm (n+2)) yB ρ1)=some (.nx,yE (Tp a' b' c') f g gaps us (qs++[(gap,ns)]) i gap (Ld ns) X H D)/\TpOk b' c' (m+80)/\Pool f.rows.length (gap,ns)/\∀z∈g.zip us,z.2=(i:Int)->oQ f z.1∈ns:=by
 have ec:(Lm (n+2)).call=pl.pg.call (n+2):=rfl;have w:∃p o e ns,be (Lm (n+2)) eai (yE (Tp a b c) f g gaps us qs i gap o9 o4 o10 o11)=some (.nx,yE (Tp p o e) f g gaps us qs i gap (Ld ns) o4 o10 o11)/\TpOk o e (m+5)/\zj ns/\ns.length<=1/\(ns=[]->(i:Int)∈us):=by
  have v:aP (Lm (n+2)) eed (yE (Tp a b c) f g gaps us qs i gap o9 o4 o10 o11)=some (!decide ((i:Int)∈us),yE (Tp a b c) f g gaps us qs i gap o9 o4 o10 o11):=ar (ao (dx:=.int i) (dy:=.list (us.map PyData.int)) rfl rfl rfl rfl uO);have C:∀{p o e:Int}{U:Nat},TpOk o e U->U<=m+1->aP (Lm (n+2)) Jm (yE (Tp a b c) f g gaps us qs i gap o9 o4 o10 o11)=some (true,yE (Tp p o e) f g gaps us qs i gap o9 o4 o10 o11)->∃p o e ns,be (Lm (n+2)) eai (yE (Tp a b c) f g gaps us qs i gap o9 o4 o10 o11)=some (.nx,yE (Tp p o e) f g gaps us qs i gap (Ld ns) o4 o10 o11)/\TpOk o e (m+5)/\zj ns/\ns.length<=1/\(ns=[]->(i:Int)∈us):=λ{p o e U} h1 hm' t=>by obtain⟨k,I,Q,S,N,hk,s⟩:=oH (n:=n) (a:=p) h1 (by omega);rw[<-ec]at N;exact⟨I,Q,S,[k],ae (ρ2:=yE (Tp I Q S) f g gaps us qs i gap o9 o4 o10 o11) (z:=Il [k]) (cD t (bb (aa (af (ρ3:=yE (Tp I Q S) f g gaps us qs i gap o9 o4 o10 o11) rfl rfl N rfl) aj) rfl rfl)) rfl rfl rfl,s.up (by omega),trivial,aag _,λz=>by cases z⟩
  by_cases G:(i:Int)∈us
  ·rw[Dac G]at v;obtain⟨x,p,o,e,O,x0,x1,tk⟩:=aH (n:=n+1) (a:=a) (many:=4) h (by omega) (by decide) (by decide);rw[show n+1+1=n+2 by omega,<-ec]at O;have s:aP (Lm (n+2)) ebq (yE (Tp a b c) f g gaps us qs i gap o9 o4 o10 o11)=some (decide (x=0),yE (Tp p o e) f g gaps us qs i gap o9 o4 o10 o11):=ar (ao (af (ρ3:=yE (Tp p o e) f g gaps us qs i gap o9 o4 o10 o11) rfl rfl O rfl) rfl rfl rfl uT);by_cases hx:x=0
   ·rw[Dac hx]at s;exact C tk (aag _) (cg v s)
   ·rw[Dab hx]at s;exact⟨p,o,e,[],ae (ρ2:=yE (Tp p o e) f g gaps us qs i gap o9 o4 o10 o11) (z:=Il []) (bW (cg v s) rfl) rfl rfl rfl,tk.up (by omega),trivial,aaB _,λ_=>G⟩
  ·rw[Dab G]at v;exact C h (by omega) (i8 v)
 obtain⟨p,o,e,ns,O,v,n1,l1,i1⟩:=w;obtain⟨I,Q,S,M,r,j,N,s,l2,n2,s2,z2⟩:=iG (n:=n+1) hf (g:=g) (gaps:=gaps) (us:=us) (qs:=qs) (at':=i) (gap:=gap) (o11:=o11) (zs:=g.zip us) (a:=p) (ns:=ns) (o4:=o4) (o10:=o10) (λz L=>by rw[<-hg];exact(aa8 (show (z.1,z.2)∈_ from L)).1) v (by rw[abU];omega) (by rw[abU];omega) n1;have a6:(g.zip us).length<=60:=by rw[abU];omega
 have a0:0<M.length:=by
  cases ns with
  |cons x xs=>exact acg (s2 x aaj)
  |nil=>
   obtain⟨t,ht⟩:=List.getElem?_of_mem (i1 rfl);have a7:=(aai.mp ht).1;have a4:=aak (l:=g) (i:=t) (by omega);have L:(g[t]'(by omega),(i:Int))∈g.zip us:=by refine aaz (i:=t) ?_;rw[abK];exact⟨a4,ht⟩
   exact acg (z2 _ L rfl)
 obtain⟨y,B,A,d,q,e3,t3,n3,s3,J,l3⟩:=fill (n:=n+1) (f:=f) (g:=g) (gaps:=gaps) (us:=us) (qs:=qs) (at':=i) (gap:=gap) (a:=I) (ns:=M) (o4:=r) (o10:=j) (o11:=o11) s (by omega) n2 a0 (by omega);have G:nL (Lm (n+2)) (.zip (.nm 2) (.nm 6)) (yE (Tp p o e) f g gaps us qs i gap (Ld ns) o4 o10 o11)=some ((g.zip us).map Zp,yE (Tp p o e) f g gaps us qs i gap (Ld ns) o4 o10 o11):=by rw[<-iB];exact uI (dx:=.list (g.map PyData.int)) (dy:=.list (us.map PyData.int)) rfl rfl rfl rfl rfl rfl
 have Y:∀{T:List Int},Il T=.lst ((T.map PyData.int).map OD.fz):=λ{T}=>by rw[cO]
 have Z:ev (Lm (n+2)) (.tup Jh) (yE (Tp y B A) f g gaps us qs i gap (Ld d) r j q)=some (.val (.fz (Po (gap,d))),yE (Tp y B A) f g gaps us qs i gap (Ld d) r j q):=bV (rs:=[.val (It gap),.val (.fz (.tuple (d.map PyData.int)))]) (aa rfl (aa (oA (x:=.rf 9) (ρ1:=yE (Tp y B A) f g gaps us qs i gap (Ld d) r j q) rfl (mY (by show some (Il d)=_;rw[Y]))) aj)) rfl rfl rfl;have s7:be (Lm (n+2)) ebr (yE (Tp y B A) f g gaps us qs i gap (Ld d) r j q)=some (.nx,yE (Tp y B A) f g gaps us (qs++[(gap,d)]) i gap (Ld d) r j q):=bx (xs:=(qs.map Po).map OD.fz) (z:=.fz (Po (gap,d))) (ρ2:=yE (Tp y B A) f g gaps us qs i gap (Ld d) r j q) rfl Z rfl rfl (by rw[aaa,aaa];omega) (by
  have:rz (qs++[(gap,d)])=.lst ((qs.map Po).map OD.fz++[.fz (Po (gap,d))]):=by rw[rz,aau,aau];rfl
  show _=[_,_,_,_,_,_,_,some (rz (qs++[(gap,d)])),_,_,_,_];rw[this];rfl)
 exact⟨y,B,A,d,r,j,q,bs (x:=yE (Tp a b c) f g gaps us qs i gap o9 o4 o10 o11) rfl (ab O (ab (cN G N) (ab e3 (ab s7 rfl)))),t3.up (by omega),⟨u.1,u.2,J,l3⟩,λz L he=>s3 _ (z2 z L he)⟩
theorem oS{n:Nat}{f:Cf}{g gaps us:List Int}(Q:Nb f.rows)(M:g=gIx 0 f.rows)(j:g.length<=60)(o:us.length=g.length):∀{gs:List Int}{i m:Nat}{qs:Pz}{a b c:Int}{o4 o5 o8 o9 o10 o11:Option OD},(∀x∈gs,0<=x/\x<=f.rows.length)->qs.length+gs.length<=100->TpOk b c m->m+80*gs.length<=100000 ->
  ∃a' N O ps w J G I p l,bp (λd v=>(bc (.tp [8,5]) (.fz d) v).bind λρ1=>aD (Lm (n+2)) yB ρ1) (enN i (gs.map PyData.int)) [KZ a b c,Lc f.rows,Lh g,Lh gaps,o4,o5,Lh us,some (rz qs),o8,o9,o10,o11]=some (.nx,[KZ a' N O,Lc f.rows,Lh g,Lh gaps,w,J,Lh us,some (rz (qs++ps)),G,I,p,l])/\TpOk N O (m+80*gs.length)/\ps.map (·.1)=gs/\(∀q∈ps,Pool f.rows.length q)/\∀t q,ps[t]?=some q->∀z∈g.zip us,z.2=((i+t:Nat):Int)->oQ f z.1∈q.2
 |[],i,m,qs,a,b,c,o4,o5,o8,o9,o10,o11,_,_,h,_=>⟨a,b,c,[],o4,o5,o8,o9,o10,o11,by rw[aan];rfl,h,rfl,λq e=>absurd e aar,λt q e=>by cases e⟩
 |x::gs,i,m,qs,a,b,c,o4,o5,o8,o9,o10,o11,hx,hl,h,hm=>by
  rw[aao]at hl hm;obtain⟨a1,b1,c1,ns,T,H,C,e1,U,P,hz⟩:=rh (n:=n) (gaps:=gaps) (us:=us) (qs:=qs) (i:=i) (gap:=x) (a:=a) (o4:=o4) (o5:=o5) (o8:=o8) (o9:=o9) (o10:=o10) (o11:=o11) Q M j o (hx x aaj) (by omega) h (by omega);obtain⟨a2,X,c2,ps,S,q5,Z,q9,s,D,Y,t2,r,L,B⟩:=oS (n:=n) Q M j o (gs:=gs) (i:=i+1) (qs:=qs++[(x,ns)]) (a:=a1) (o4:=T) (o5:=KY x) (o8:=KY i) (o9:=Ld ns) (o10:=H) (o11:=C) (λy hy=>hx y (aal _ hy)) (by rw[aaf,aaI];omega) U (by omega);refine⟨a2,X,c2,(x,ns)::ps,S,q5,Z,q9,s,D,?_,t2.up (by rw[aao];omega),by rw[aap,r],λq e=>?_,λt q e=>?_⟩
  ·have k:=Y;rw[aac]at k;exact bs e1 k
  ·rcases aab.mp e with rfl|e
   ·exact P
   ·exact L q e
  ·cases t with
   |zero=>cases e;exact λz u A=>hz z u A
   |succ t=>exact λz u A=>B t q e z u (by rw[A];congr 1;omega)
theorem oT(ns:List Int):kO .ne (.list (ns.map PyData.int)) (.list [])=some (!ns.isEmpty):=bs (yj ns) rfl
theorem oU(D:G.length<=100):∀{xs:List Int}{m:Nat}{a b c:Int}{out:List PyData}{o:Option OD},(xs≠[]->0<G.length)->TpOk b c m->m+xs.length<=100000 ->
  ∃(us:List Int) (z j l:Int) (e:Option OD),bU (cf (Lm (n+1)) (.nm 0) .none ebk) (xs.map PyData.int) out [o,KZ a b c,Ld G]=some (out++us.map PyData.int,[e,KZ z j l,Ld G])/\us.length=xs.length/\(∀u∈us,0<=u/\u<G.length)/\TpOk j l (m+xs.length)
 |[],m,a,b,c,out,o,_,h,_=>⟨[],a,b,c,o,by rw[aaL,aan];rfl,rfl,λu C=>absurd C aar,h⟩
 |x::xs,m,a,b,c,out,o,f,h,hm=>by
  rw[aao]at hm;have f:=f (by simp);obtain⟨u,I,L,J,k,A,p,q⟩:=aH (many:=(G.length:Int)) h (by omega) (by omega) (by omega);have r:(Lm (n+1)).call=pl.pg.call (n+1):=rfl;rw[<-r]at k;have t:ev (Lm (n+1)) edq [KY x,KZ a b c,Ld G]=some (.val (It G.length),[KY x,KZ a b c,Ld G]):=aG rfl (by show ((Il G).dat).bind _=_;rw[aB];rfl) blen;obtain⟨us,H,s,w,e,i,v,d,B⟩:=oU D (xs:=xs) (λ_=>f) q (by omega);refine⟨u::us,H,s,w,e,bs (Fo rfl (af (aa rfl (aa t aj)) rfl k rfl) rfl) ?_,by rw[aao,aao,v],λy g=>?_,B.up (by rw[aao];omega)⟩
  ·rw[aac]at i;exact i
  ·rcases aab.mp g with rfl|g
   ·exact⟨A,p⟩
   ·exact d y g
theorem B7{G:List Int}(d:G.Pairwise (·<=·))(c:G.Nodup):G.Pairwise (·<·):=(d.and c).imp λ{a b} h=>by have:=h.1;have:=h.2;omega
theorem FA(hf:Nb f.rows)(hN:f.rows.length<=60)(h:TpOk b c m)(hm:m<=90000):
  ∃(qs:Pz) (us:List Int) (a' b' c':Int),pl.pg.call (n+3) 36 [Tp a b c,Rl f.rows]=some (Fp qs us,[Tp a' b' c',Rl f.rows])/\TpOk b' c' (m+1000)/\Qok f qs/\us.length=(gIx 0 f.rows).length/\(∀u∈us,0<=u/\u<qs.length)/\qs.length<=4/\∀z∈(gIx 0 f.rows).zip us,mX f qs z=true:=by
 obtain⟨g,H⟩:∃g,g=gIx 0 f.rows:=⟨_,rfl⟩
 have T:g.length<=60:=by rw[H,fA];exact aat (abB _ _) hN
 have ec:(Lm (n+2)).call=pl.pg.call (n+2):=rfl;generalize hρ0:eA F_any_plan.n [Tp a b c,Rl f.rows]=ρ0;obtain⟨b6,eg⟩:=iC;rw[aaD,<-H,<-fB]at eg;have X:ev (Lm (n+2)) Jk ρ0=some (.val (.lst ((g.map PyData.int).map OD.fz)),ρ0):=cI (fW (ρ1:=ρ0) (by rw[<-hρ0];rfl) rfl) (by rw[cz,aaa];omega) rfl eg unca_nil;have s2:be (Lm (n+2)) ea2 ρ0=some (.nx,[KZ a b c,Lc f.rows,Lh g,none,none,none,none,none,none,none,none,none]):=ae (uV X (by show (OD.dat _).map _=_;rw[cJ];rfl)) rfl (by rw[<-hρ0];rfl) (by rw[<-hρ0];rfl);have s3:be (Lm (n+2)) ee8 [KZ a b c,Lc f.rows,Lh g,none,none,none,none,none,none,none,none,none]=some (.nx,gE (Tp a b c) f.rows g [] none none):=rfl;obtain⟨x,a1,b1,c1,e1,x0,x1,t1⟩:=aH (many:=4) h (by omega) (by decide) (by decide);rw[show n+1+1=n+2 by omega,<-ec]at e1;obtain⟨k,hk,o⟩:∃k:Nat,k<=1/\(g≠[]->0<k)/\yM .int [.bool (!g.isEmpty)]=some (.int k):=by
  cases g with
  |nil=>exact⟨0,by omega,λz=>absurd rfl z,rfl⟩
  |cons y ys=>exact⟨1,by omega,λ_=>by omega,rfl⟩
 have a8:=o.1;have o:=o.2;obtain⟨r,rfl⟩:∃r:Nat,x=r:=⟨x.toNat,by omega⟩
 have er:ev (Lm (n+2)) eaz (gE (Tp a b c) f.rows g [] none none)=some (.val (It ((k+r:Nat):Int)),gE (Tp a1 b1 c1) f.rows g [] none none):=by have q1:ev (Lm (n+2)) eb1 (gE (Tp a b c) f.rows g [] none none)=some (.val (It k),gE (Tp a b c) f.rows g [] none none):=aG (aa (ao rfl rfl rfl rfl (oT g)) aj) rfl o;exact ah q1 (af rfl rfl e1 rfl) rfl rfl rfl
 obtain⟨O,M,Q,gs,o4,o5,e2,t2,l2,nd,b5,p⟩:=iF (rs:=f.rows) (by omega) (j:=k+r) t1 (by omega) (by show 0+_<=_;omega) aa1 (λx Z=>absurd Z aar);have l2:gs.length<=0+(k+r):=l2;have p:0<0+(k+r)->0<gs.length:=p;have s4:be (Lm (n+2)) (match F_any_plan.body with|.cons _ (.cons _ (.cons s _))=>s|_=>.cont) (gE (Tp a b c) f.rows g [] none none)=some (.nx,gE (Tp O M Q) f.rows g gs o4 o5):=cN (fV er rfl (by omega)) e2;obtain⟨G,Y⟩:∃G,G=sortI gs:=⟨_,rfl⟩
 have pG:G.Perm gs:=by rw[Y];exact sortI_perm gs
 have sG:G.Pairwise (·<·):=B7 (by rw[Y];exact fO gs) (pG.nodup_iff.mpr nd);have lG:G.length=gs.length:=pG.length_eq;have bG:∀x∈G,0<=x/\x<=f.rows.length:=λx Z=>b5 x (pG.mem_iff.mp Z);have s5:be (Lm (n+2)) edw (gE (Tp O M Q) f.rows g gs o4 o5)=some (.nx,gE (Tp O M Q) f.rows g G o4 o5):=ae (z:=Il G) (lj rfl (aB gs) (fD gs) (by omega)) (by rw[Y];rfl) rfl rfl;have gp:g≠[]->0<G.length:=λa0=>by rw[lG];exact p (by have:=a8 a0;omega)
 obtain⟨us,q,C,B,o',e3,l3,bu,t3⟩:=oU (by omega) gp t2 (by omega);rw[aaD]at e3;have U:ev (Lm (n+2)) Jo (gE (Tp O M Q) f.rows g G o4 o5)=some (.val (.lst ((us.map PyData.int).map OD.fz)),gE (Tp q C B) f.rows g G o4 o5):=cI (dA rfl rfl rfl) (by rw[aaa];omega) rfl e3 rfl;have s6:be (Lm (n+2)) eas (gE (Tp O M Q) f.rows g G o4 o5)=some (.nx,[KZ q C B,Lc f.rows,Lh g,Ld G,o4,o5,Lh us,none,none,none,none,none]):=ae (uV U (by show (OD.dat _).map _=_;rw[cJ];rfl)) rfl rfl rfl;have s7:be (Lm (n+2)) (.set 7 (.lst .nil)) [KZ q C B,Lc f.rows,Lh g,Ld G,o4,o5,Lh us,none,none,none,none,none]=some (.nx,[KZ q C B,Lc f.rows,Lh g,Ld G,o4,o5,Lh us,some (rz []),none,none,none,none]):=rfl;obtain⟨v,A,w,qs,D,L,N,J,l,e,e4,t4,I,a7,a5⟩:=oS hf H T l3 (gs:=G) (i:=0) (qs:=[]) (a:=q) (o4:=o4) (o5:=o5) (o8:=none) (o9:=none) (o10:=none) (o11:=none) bG (by show 0+_<=_;omega) t3 (by omega);rw[<-yk,aaD]at e4;have s8:be (Lm (n+2)) (.fr (.tp [8,5]) (.enm (.nm 3)) yB) [KZ q C B,Lc f.rows,Lh g,Ld G,o4,o5,Lh us,some (rz []),none,none,none,none]=_:=cN (fW (x:=.rf 3) (ρ2:=[KZ q C B,Lc f.rows,Lh g,Lh G,o4,o5,Lh us,some (rz []),none,none,none,none]) rfl (bX rfl (aB G) rfl)) e4;have b0:qs.length=G.length:=by rw[<-I,aaa]
 have a6:ev (Lm (n+2)) (.tup edg) [KZ v A w,Lc f.rows,Lh g,Lh G,D,L,Lh us,some (rz qs),N,J,l,e]=some (.val (Fp qs us),[KZ v A w,Lc f.rows,Lh g,Lh G,D,L,Lh us,Lf qs,N,J,l,e]):=bV (rs:=[.rf 7,.val (Dl us)]) (zs:=[Pq qs,Dl us]) (ρ2:=[KZ v A w,Lc f.rows,Lh g,Lh G,D,L,Lh us,Lf qs,N,J,l,e]) rfl rfl (bs (x:=(Pq qs,[KZ v A w,Lc f.rows,Lh g,Lh G,D,L,Lh us,Lf qs,N,J,l,e])) (by show (frz1 _ (.rf 7)).map _=_;rw[bX (x:=rz qs) (d:=.list (qs.map Po)) rfl (cJ _) rfl];rfl) rfl) rfl;refine⟨qs,us,v,A,w,ai (fn:=F_any_plan) (ρ:=[KZ v A w,Lc f.rows,Lh g,Lh G,D,L,Lh us,Lf qs,N,J,l,e]) rfl rfl (by rw[hρ0];exact ab s2 (ab s3 (ab s4 (ab s5 (ab s6 (ab s7 (ab s8 (ak (ag a6 rfl)))))))))  rfl,t4.up (by omega),⟨a7,?_⟩,by rw[l3,H],λu hu=>by rw[b0];exact bu u hu,by omega,λz hz=>?_⟩
 ·rw[<-I,List.pairwise_map]at sG;exact sG
 ·obtain⟨u0,u1⟩:=bu z.2 (aa8 (show (z.1,z.2)∈_ from hz)).2;obtain⟨t,ht⟩:∃t:Nat,z.2=t:=⟨z.2.toNat,by omega⟩
  have S:t<qs.length:=by omega
  have:=a5 t qs[t] (aak S) z (by rw[H];exact hz) (by rw[ht,aaV]);unfold mX;rw[ht,aaT,aak S];exact Dac this
theorem zk(r:R):r.jm=(decide (r.wd=ac)||decide (r.wd=am)):=by cases r<;>rfl
theorem B8(a:ev C e ρ=some (.val (Rd r),ρ))(h:kO o (.str r.wd) (.str x)=some k):ev C (.cmp o (.ix e (.int 0)) (.str x)) ρ=some (.val (.fz (.bool k)),ρ):=ao (aw a rfl rfl (by show bJ ρ (.val (.fz r.d)) 0=_;rw[R.ua];exact ax az)) rfl rfl rfl h
theorem FB(r:R):pl.pg.call (n+1) 1 [Rd r]=some (.fz (.bool r.jm),[Rd r]):=by
 have c:∀x:Str,ev (Lm n) (.cmp .eq eev (.str x)) [Lb r]=some (.val (.fz (.bool (decide (r.wd=x)))),[Lb r]):=λx=>B8 rfl rfl;refine ai (ρ:=[Lb r]) rfl rfl (ak (ag (x:=.val (.fz (.bool r.jm))) ?_ rfl)) rfl;rw[zk];have a:=c ac;cases b:decide (r.wd=ac) with
 |true=>rw[b]at a;exact oB a
 |false=>rw[b]at a;exact ll a (c am)
def jIx:Int->List R->List Int
 |_,[]=>[]
 |i,r::rs=>if r.jm=true then i::jIx (i+1) rs else jIx (i+1) rs
theorem jIx_mem:∀{rs:List R}{i a:Int},a∈jIx i rs->∃(j:Nat) (r:R),a=i+j/\rs[j]?=some r/\r.jm=true
 |[],i,a,h=>absurd h aar
 |r::rs,i,a,h=>by
  rw[jIx]at h;by_cases c:r.jm=true
  ·rw[if_pos c]at h;rcases aab.mp h with rfl|h
   ·exact⟨0,r,by omega,rfl,c⟩
   ·obtain⟨j,q,e,d,b⟩:=jIx_mem h;exact⟨j+1,q,by rw[e];omega,d,b⟩
  ·rw[if_neg c]at h;obtain⟨j,q,e,d,b⟩:=jIx_mem h;exact⟨j+1,q,by rw[e];omega,d,b⟩
theorem fE:∀{rs:List R}{i:Int},(jIx i rs).length=(rs.filter R.jm).length
 |[],i=>rfl
 |r::rs,i=>by
  rw[jIx];by_cases a:r.jm=true
  ·rw[if_pos a,acd a,aao,aao,fE]
  ·rw[if_neg a,ace a,fE]
theorem j5:∀{rs:List R}{i:Int}{out:List PyData}{o0 o1:Option OD},∃a,bU (cf (Lm (n+1)) (.tp [0,1]) (.some edz) (.nm 0)) (enF i rs) out [o0,o1]=some (out++(jIx i rs).map PyData.int,a)
 |[],i,out,o0,o1=>⟨[o0,o1],by rw[jIx,aaL,aan];rfl⟩
 |r::rs,i,out,o0,o1=>by
  have b:aP (Lm (n+1)) edz [KY i,Lb r]=some (r.jm,[KY i,Lb r]):=bC (af rfl rfl (FB r) rfl);rw[jIx];cases c:r.jm with
  |false=>rw[c]at b;obtain⟨a,e⟩:=j5;refine⟨a,bs (qT rfl b) ?_⟩;rw[if_neg aad,e,aan]
  |true=>rw[c]at b;obtain⟨a,e⟩:=j5;refine⟨a,bs (qS rfl b rfl rfl) ?_⟩;rw[if_pos rfl,e,aac];rfl
theorem yl(b:rs.length<=1000):pl.pg.call (n+2) 3 [Rl rs]=some (Il (jIx 0 rs),[Rl rs]):=by obtain⟨a,e⟩:=j5;rw[aaD,<-fB]at e;refine ai rfl rfl (ak (ag (cI (fW rfl rfl) (by rw[cz,aaa];omega) rfl e unca_nil) (by rw[cO];rfl))) rfl
def farN(r:R)(hop:Int):Int:=if r.wd=am then (if 99<hop then 99 else hop) else hop
abbrev fin(f:Cf)(qs:Pz):Mc:=inner f qs f.rows.length (mac f qs f.rows.length)
theorem fF{f:Cf}{qs:Pz}:(fin f qs).ps.length=f.rows.length:=by rw[bO,dS]
def gol(s:Mc)(r:R)(k:Nat):Int:=(s.ps++[s.pl]).getD r.tg.toNat 0-s.ps.getD k 0
def tq(f:Cf)(s:Mc)(hop a:Int):Bool:=(f.rows[a.toNat]?).elim false λr=>decide (farN r hop<if gol s r a.toNat<0 then -(gol s r a.toNat) else gol s r a.toNat)
def gm(f:Cf)(qs:Pz)(hop:Int):List Int:=((jIx 0 f.rows).filter λa=>!decide (a∈f.longs)).filter (tq f (fin f qs) hop)
theorem atI_last{a:Type}{xs:List a}{x:a}:atI (xs++[x]) (-1)=some x:=by
 have e:ixN (xs++[x]).length (-1)=some xs.length:=by unfold ixN;rw[aaf,aaI];rw[if_neg (by omega),if_pos (by omega)];congr 1;omega
 exact bs e acC
theorem atI_get{b:Type}{g:Int->b}{gs:List Int}{i:Int}(c:0<=i)(d:i<gs.length):atI (gs.map g) i=some (g (gs.getD i.toNat 0)):=by
 have e:i=(i.toNat:Int):=by omega
 have a:i.toNat<gs.length:=by omega
 rw[e];refine bL ?_;rw[aaq,aaT,aak a,aaP,aak a];rfl
theorem B9{C:Ct}{r:R}{ρ:DEnv}{e:E}{N:Int}(a:ev C e ρ=some (.val (Rd r),ρ))(b:Jok N r)(f:r.jm=true):ev C (.ix e (.neg (.int 1))) ρ=some (.val (It r.tg),ρ):=by obtain⟨_,_,g,c⟩:=b f;exact aw a rfl rfl (by show bJ ρ (.val (.fz r.d)) (-1)=_;rw[c];exact ax atI_last)
theorem uZ{ps:List Int}{p:Int}:(OD.lst ((ps.map PyData.int++[PyData.int p]).map OD.fz))=Il (ps++[p]):=by have e:(ps++[p]).map PyData.int=ps.map PyData.int++[PyData.int p]:=aau;rw[Il,<-cO,e]
theorem FC(c:aP C a ρ=some (x,ρ))(d:aP C b ρ=some (y,ρ)):aP C (.or a b) ρ=some (x||y,ρ):=by cases x with|true=>exact i8 c|false=>exact cg c d
theorem t_andB(c:aP C a ρ=some (x,ρ))(d:aP C b ρ=some (y,ρ)):aP C (.and a b) ρ=some (x&&y,ρ):=by cases x with|true=>exact cv c d|false=>exact fU c
theorem zl(r:R):kO .inn (.str r.wd) (.tuple [.str ac,.str am])=some r.jm:=by rw[zk];show some (decide (ac=r.wd)||(decide (am=r.wd)||false))=_;rw[abF,decide_eq_decide.mpr (eq_comm ),decide_eq_decide.mpr (eq_comm (a:=Str.ofString "nil"))]
theorem Ca{r:R}:(decide (hop<m)||(decide (r.wd=am)&&decide (99<m)))=decide (farN r hop<m):=by
 unfold farN;by_cases h:r.wd=am
 ·rw[Dac h,if_pos h,abz,<-Bool.decide_or];refine decide_eq_decide.mpr ?_;split<;>omega
 ·rw[Dab h,if_neg h,abY,abF]
abbrev lU(f:Cf)(qs:Pz)(s:Mc)(hop:Int)(out:List Int)(o9 o10 o11:Option OD):DEnv:=[Lc f.rows,Le f,Lf qs,KY hop,Lh s.ps,Lh s.bs,KY s.pl,some (Il (s.ps++[s.pl])),Ld out,o9,o10,o11]
abbrev lV:Ss:=match F_too_short.body with|.cons _ (.cons _ (.cons (.fr _ _ b) _))=>b|_=>.nil
def adds(f:Cf)(s:Mc)(hop:Int)(r:R)(k:Int):Bool:=r.jm&&(!decide (k∈f.longs)&&tq f s hop k)
theorem ym{n k:Nat}(x:Jb f.rows.length f.rows)(v:s.ps.length=f.rows.length)(h:f.rows[k]?=some r)(y:out.length<=1000):∃u,aD (Lm n) lV (lU f qs s hop out (KY k) (Lb r) o11)=some (.nx,lU f qs s hop (out++if adds f s hop r k=true then [(k:Int)] else []) (KY k) (Lb r) u):=by
 have q:aP (Lm n) ebc (lU f qs s hop out (KY k) (Lb r) o11)=some (r.jm,lU f qs s hop out (KY k) (Lb r) o11):=ar (ao (aw rfl rfl rfl (by rw[R.ua];exact ax az)) rfl rfl rfl (zl r));have w:aP (Lm n) eeg (lU f qs s hop out (KY k) (Lb r) o11)=some (!decide ((k:Int)∈f.longs),lU f qs s hop out (KY k) (Lb r) o11):=ar (ao rfl rfl rfl rfl uO);have c:=t_andB q w;unfold adds;cases a:r.jm&&!decide ((k:Int)∈f.longs) with
 |false=>rw[a]at c;rw[<-Bool.and_assoc,a,abY,if_neg aad,aan];exact⟨_,ab (s_ifF c rfl) rfl⟩
 |true=>
  rw[a]at c;rw[<-Bool.and_assoc,a,abz];obtain⟨g,_⟩:=aa2.mp a;have i:=x r (aaz h);obtain⟨o,z,_⟩:=i g;have A:k<f.rows.length:=(aai.mp h).1;have d:ev (Lm n) HZ (lU f qs s hop out (KY k) (Lb r) o11)=some (.val (It ((s.ps++[s.pl]).getD r.tg.toNat 0)),lU f qs s hop out (KY k) (Lb r) o11):=aw rfl (B9 rfl i g) rfl (bN rfl (atI_get o (by rw[aaf,v,aaI];omega)));have l:ev (Lm n) HR (lU f qs s hop out (KY k) (Lb r) o11)=some (.val (It (s.ps.getD k 0)),lU f qs s hop out (KY k) (Lb r) o11):=aw rfl rfl rfl (aV (atI_get (by omega) (by omega)));obtain⟨m,e⟩:∃m:Int,m=if gol s r k<0 then -(gol s r k) else gol s r k:=⟨_,rfl⟩
  have p:ev (Lm n) eag (lU f qs s hop out (KY k) (Lb r) o11)=some (.val (It m),lU f qs s hop out (KY k) (Lb r) o11):=by refine aG (aa (ah d l rfl rfl rfl) (aa (ah l d rfl rfl rfl) aj)) rfl ?_;show some (PyData.int (if s.ps.getD k 0-(s.ps++[s.pl]).getD r.tg.toNat 0>(s.ps++[s.pl]).getD r.tg.toNat 0-s.ps.getD k 0 then s.ps.getD k 0-(s.ps++[s.pl]).getD r.tg.toNat 0 else (s.ps++[s.pl]).getD r.tg.toNat 0-s.ps.getD k 0))=some (.int m);rw[e];unfold gol;congr 2;split<;>split<;>omega
  have t:tq f s hop k=decide (farN r hop<m):=by unfold tq;rw[aaT,h,e];rfl
  have b:aP (Lm n) eax (lU f qs s hop out (KY k) (Lb r) (KY m))=some (tq f s hop k,lU f qs s hop out (KY k) (Lb r) (KY m)):=by rw[t,<-Ca];exact FC (ar (ao rfl rfl rfl rfl rfl)) (t_andB (ar (B8 rfl rfl)) (ar (ao rfl rfl rfl rfl rfl)))
  refine⟨KY m,ab (av c (ab (ae p rfl rfl rfl) ?_)) rfl⟩;cases j:tq f s hop k with
  |false=>rw[j]at b;rw[if_neg aad,aan];exact ab (s_ifF b rfl) rfl
  |true=>rw[j]at b;rw[if_pos rfl];refine ab (av b (ab (bx rfl rfl rfl rfl (by rw[aaa];omega) ?_) rfl)) rfl;unfold lU;rw[<-bF (ns:=out)];rfl
def tsL(f:Cf)(s:Mc)(hop:Int)(i:Int)(rs:List R):List Int:=((jIx i rs).filter λa=>!decide (a∈f.longs)).filter (tq f s hop)
theorem u6:tsL f s hop i (r::rs)=(if adds f s hop r i=true then [i] else [])++tsL f s hop (i+1) rs:=by
 unfold tsL adds;rw[jIx];cases r.jm with
 |false=>rfl
 |true=>
  rw[if_pos rfl,abz,abo];cases !decide (i∈f.longs) with
  |false=>rfl
  |true=>rw[if_pos rfl,abz,abo];split<;>rfl
theorem oV(l:Jb f.rows.length f.rows)(i:s.ps.length=f.rows.length):∀{rs:List R}{k:Nat}{out:List Int}{o9 o10 o11:Option OD},f.rows.drop k=rs->out.length+rs.length<=1000->∃g b a,bp (λd c=>(bc (.tp [9,10]) (.fz d) c).bind λρ1=>aD (Lm n) lV ρ1) (enF k rs) (lU f qs s hop out o9 o10 o11)=some (.nx,lU f qs s hop (out++tsL f s hop k rs) g b a)
 |[],k,out,o9,o10,o11,_,_=>⟨o9,o10,o11,by show some _=some _;rw[tsL,jIx,List.filter_nil,List.filter_nil,aan]⟩
 |r::rs,k,out,o9,o10,o11,h,hb=>by
  have p:f.rows[k]?=some r:=by rw[<-List.head?_drop,h];rfl
  have o:f.rows.drop (k+1)=rs:=by rw[<-List.tail_drop,h];rfl
  rw[aao]at hb;obtain⟨q,e⟩:=ym (out:=out) l i p (by omega);have j:(out++if adds f s hop r k=true then [(k:Int)] else []).length<=out.length+1:=by rw[aaf];split<;>simp
  obtain⟨g,b,a,m⟩:=oV l i (out:=out++if adds f s hop r k=true then [(k:Int)] else []) o (by omega);refine⟨g,b,a,bs (bs rfl e) ?_⟩;rw[u6,<-aac];exact m
theorem u7(j:∀q∈qs,0<=q.1)(h:qs.length<=300)(o:f.rows.length<=200)(g:Jb f.rows.length f.rows):pl.pg.call (n+4) 37 [Rl f.rows,Lo f,Pq qs,It hop]=some (Il (gm f qs hop),[Rl f.rows,Lo f,Pq qs,It hop]):=by have c:pl.pg.call (n+3) 35 [Rl f.rows,Lo f,Pq qs]=some (Ga (fin f qs),[Rl f.rows,Lo f,Pq qs]):=c_placed j h o;have d:=fF (f:=f) (qs:=qs);have i:gm f qs hop=tsL f (fin f qs) hop 0 f.rows:=rfl;rw[i];generalize fin f qs=s at *;have m:(Lm (n+3)).call=pl.pg.call (n+3):=rfl;rw[<-m]at c;obtain⟨l,b,a,e⟩:=oV (hop:=hop) g d (rs:=f.rows) (k:=0) rfl (by rw[abI];omega);rw[aaD]at e;refine ai (ρ:=lU f qs s hop [] l b a |>.set 8 none) rfl rfl ?_ rfl;refine ab (s_asgQ (af rfl rfl c rfl) rfl rfl) ?_;refine ab (eF (ρ3:=lU f qs s hop [] none none none) (aa (i7 rfl (bb (aa rfl aj) rfl rfl) rfl rfl (by rw[aaa,d];show _+1<=_;omega)) (aa rfl aj)) rfl rfl (by rw[uZ];rfl)) ?_;refine ab (cN (fW rfl rfl) (by rw[fB];exact e)) ?_;exact ak (ag rfl rfl)
theorem lD:∀{l:List Int},a∈insI i l ↔ a=i\/a∈l
 |[]=>by simp[insI]
 |j::r=>by
  rw[insI];split
  ·simp
  ·rw[aab,lD,aab];constructor<;>(intro h;rcases h with h|h|h<;>simp[h])
theorem sortI_mem:∀{l:List Int},a∈sortI l ↔ a∈l
 |[]=>Iff.rfl
 |j::r=>by rw[sortI,lD,sortI_mem,aab]
theorem lE:∀{l:List Int},(insI i l).length=l.length+1
 |[]=>rfl
 |j::r=>by
  rw[insI];split
  ·rfl
  ·rw[aao,lE];rfl
theorem jf:∀{l:List Int},(sortI l).length=l.length
 |[]=>rfl
 |j::r=>by rw[sortI,lE,jf];rfl
def free(f:Cf):List Int:=(jIx 0 f.rows).filter λa=>!decide (a∈f.longs)
abbrev nx(f:Cf)(sh:List Int):Cf:=⟨f.rows,sortI (f.longs++sh),f.r0,f.r1⟩
theorem split_len{b:Type}{p:b->Bool}:∀{l:List b},(l.filter p).length+(l.filter λa=>!p a).length=l.length
 |[]=>rfl
 |x::l=>by
  have:=split_len (p:=p) (l:=l);rw[abo,abo];cases p x with
  |true=>rw[if_pos rfl,if_neg (by decide),aao,aao];omega
  |false=>rw[if_neg (by decide),if_pos (by decide),aao,aao];omega
theorem yn:(free (nx f (gm f qs hop))).length+(gm f qs hop).length<=(free f).length:=by
 have d:gm f qs hop=(free f).filter (tq f (fin f qs) hop):=rfl;have j:=split_len (p:=tq f (fin f qs) hop) (l:=free f);have i:(free (nx f (gm f qs hop))).length<=((free f).filter λa=>!tq f (fin f qs) hop a).length:=by
  unfold free;rw[List.filter_filter,<-acD,<-acD];refine List.countP_mono_left λa g h=>?_;have b:a ∉ sortI (f.longs++gm f qs hop):=by simpa using h
  rw[sortI_mem,aam]at b;have c:a ∉ f.longs:=λz=>b (.inl z);rw[Dab c,Bool.not_false,Bool.and_true];cases e:tq f (fin f qs) hop a with
  |false=>rfl
  |true=>exact absurd (.inr (by rw[d];exact aa4.mpr ⟨aa4.mpr ⟨g,by rw[Dab c];rfl⟩,e⟩)) b
 rw[d]at i ⊢;omega
theorem rj(h:frz1 ρ r=some (d,ρ1))(k:bt ios ρ1 rs=some (xs,ρ2)):bt (false::ios) ρ (r::rs)=some (.fz d::xs,ρ2):=by simp only[bt,h,k]
theorem oW(ls:List Int):listOf (Il ls)=some (ls.map PyData.int):=by show rq (ls.map It)=_;rw[<-cO];exact jz _
theorem FD(i:ev C a ρ=some (x,ρ1))(g:ev C b ρ1=some (y,ρ2))(e:mr ρ2 x=some (xs.map PyData.int))(f:mr ρ2 y=some (ys.map PyData.int))(d:(xs++ys).length<64):ev C (.bnw .sorted (.cat a b)) ρ=some (.val (Il (sortI (xs++ys))),ρ2):=by have c:=d;rw[aaf]at c;have h:=i7 i g e f (by rw[aaa,aaa];omega);rw[<-aau]at h;exact lj h (cJ _) (fD _) d
theorem rk(h:c ρ=some (false,ρ1))(a:0<n):cC c b n ρ=some (.nx,ρ1):=by
 cases n with
 |zero=>omega
 |succ n=>exact bs h rfl
theorem yo(h:c ρ=some (true,ρ1))(a:b ρ1=some (.nx,ρ2))(k:cC c b n ρ2=r):cC c b (n+1) ρ=r:=bs h (by rw[if_pos rfl];exact bs a k)
abbrev jT:E:=.cmp .inn (.ix (.nm 1) (.int 0)) (.tup ecw)
theorem j6:∀{rs:List R}{i:Int}{out:List PyData}{o0 o1:Option OD},∃a,bU (cf C (.tp [0,1]) (.some jT) (.nm 0)) (enF i rs) out [o0,o1]=some (out++(jIx i rs).map PyData.int,a)
 |[],i,out,o0,o1=>⟨[o0,o1],by rw[jIx,aaL,aan];rfl⟩
 |r::rs,i,out,o0,o1=>by
  have b:aP C jT [KY i,Lb r]=some (r.jm,[KY i,Lb r]):=ar (ao (aw rfl rfl rfl (by rw[R.ua];exact ax az)) rfl rfl rfl (zl r));rw[jIx];cases c:r.jm with
  |false=>rw[c]at b;obtain⟨a,e⟩:=j6;refine⟨a,bs (qT rfl b) ?_⟩;rw[if_neg aad,e,aan]
  |true=>rw[c]at b;obtain⟨a,e⟩:=j6;refine⟨a,bs (qS rfl b rfl rfl) ?_⟩;rw[if_pos rfl,e,aac];rfl
abbrev Kn:E:=.ix (.lst eaw) (.nm 1)
theorem j7(l:0<=sh)(r:sh<3):∀{js:List Int}{m:Nat}{a b c:Int}{out:List PyData}{o:Option OD},TpOk b c m->m+js.length<=100000->∃(ls:List Int) (N z B:Int) (I:Option OD),bU (cf (Lm (n+1)) (.nm 0) (.some Kn) (.nm 0)) (js.map PyData.int) out [o,KY sh,KZ a b c]=some (out++ls.map PyData.int,[I,KY sh,KZ N z B])/\ls.Sublist js/\TpOk z B (m+js.length)
 |[],m,a,b,c,out,o,t,_=>⟨[],a,b,c,o,by rw[aaL,aan];rfl,.slnil,t⟩
 |k::js,m,a,b,c,out,o,t,hm=>by
  rw[aao]at hm;obtain⟨O,i,G,A,J,M,H,v⟩:=aH (many:=2) t (by omega) (by decide) (by decide);obtain⟨y,D,L⟩:=gx (xs:=[OD.fz (.bool false),.fz (.bool (decide (O=0))),.fz (.bool true)]) l r;obtain⟨q,rfl⟩:∃q:Bool,y=.fz (.bool q):=by simp only[aab,aar,or_false]at D;rcases D with rfl|rfl|rfl<;>exact⟨_,rfl⟩
  have w:=HP (C:=Lm (n+1)) (ρ:=[KY k,KY sh,KZ a b c]) (aw (bb (aa rfl (aa (ao (af (f:=29) (es:=.cons (.nm 2) HS) rfl rfl J rfl) (b:=.int 0) (o:=.eq) rfl rfl rfl rfl) (aa (e:=.bl true) rfl aj)) (e:=.bl false)) rfl rfl) (b:=.nm 1) rfl rfl (eI L));cases q with
  |false=>obtain⟨ls,s,g,j,u,h,d,p⟩:=j7 l r (js:=js) v (by omega);refine⟨ls,s,g,j,u,bs (x:=([],[KY k,KY sh,KZ i G A])) (qT rfl w) ?_,d.cons _,p.up (by rw[aao];omega)⟩;rw[h,aan]
  |true=>obtain⟨ls,s,g,j,u,h,d,p⟩:=j7 (n:=n) l r (js:=js) (a:=i) (out:=out++[.int k]) (o:=KY k) v (by omega);refine⟨k::ls,s,g,j,u,bs (x:=([.int k],[KY k,KY sh,KZ i G A])) (qS rfl w rfl rfl) ?_,d.cons₂ _,p.up (by rw[aao];omega)⟩;rw[h,aac];rfl
theorem yp(z:rs.length<=60)(h:TpOk b c m)(u:m<=90000):∃(ls:List Int) (x j p:Int),pl.pg.call (n+2) 32 [Tp a b c,Rl rs]=some (Il ls,[Tp x j p,Rl rs])/\ls.Sublist (jIx 0 rs)/\TpOk j p (m+100):=by
 have B:(jIx 0 rs).length<=60:=by rw[fE];exact aat (abB _ _) z
 obtain⟨y,t,G,D,s,e,d,r⟩:=aH (n:=n) (a:=a) (many:=3) h (up (k:=0) u rfl) (by decide) (by decide);obtain⟨v,i⟩:=j6 (C:=Lm (n+1)) (o0:=none) (o1:=none);rw[aaD,<-fB]at i;obtain⟨ls,q,g,l,o,f,w,A⟩:=j7 (n:=n) e d (js:=jIx 0 rs) (a:=t) (o:=none) r (by omega);rw[aaD]at f;generalize jIx 0 rs=js at *;refine⟨ls,q,g,l,ai rfl rfl (ab (ae (af rfl rfl s rfl) rfl rfl rfl) (ab (ae (cI (fW rfl rfl) (by rw[cz,aaa];omega) rfl i unca_nil) rfl rfl rfl) (ak (ag (cI (ρ2:=[KZ q g l,Lc rs,KY y,some (.fz (.list (js.map PyData.int)))]) (dA rfl (bX rfl (cJ _) rfl) rfl) (by rw[aaa];omega) rfl f rfl) (by rw[cO];rfl))))) rfl,w,A.up (by omega)⟩
theorem lF(d:rs.length<=60)(h:ls.Sublist (jIx 0 rs)):ls.length+(free ⟨rs,ls,r0,r1⟩).length<=60:=by
 have g:=split_len (p:=λa:Int=>decide (a∈ls)) (l:=jIx 0 rs);have b:(ls.filter λa=>decide (a∈ls)).Sublist ((jIx 0 rs).filter λa=>decide (a∈ls)):=h.filter _;rw[List.filter_eq_self.mpr λa c=>Dac c]at b;have f:=b.length_le;have e:(jIx 0 rs).length<=60:=by rw[fE];exact aat (abB _ _) d
 show ls.length+((jIx 0 rs).filter λa=>!decide (a∈ls)).length<=60;omega
abbrev gY(t:OD)(f:Cf)(qs:Pz)(x3:OD)(o4:Option OD):DEnv:=[some t,Lc f.rows,Lf qs,some x3,o4]
abbrev gQ:S':=.set 4 ebf
theorem zo(c:Qok f qs)(d:qs.length<=300)(g:f.rows.length<=60)(b:Jb f.rows.length f.rows)(k:aD (Lm (n+4)) ss (gY t f qs (Lo f) (Ld (gm f qs 499)))=r):aD (Lm (n+4)) (.cons gQ ss) (gY t f qs (Il f.longs) o4)=r:=by have a:=u7 (n:=n) (hop:=499) (λq h=>(c.ok q h).g0) d (by omega) b;have e:(Lm (n+4)).call=pl.pg.call (n+4):=rfl;rw[<-e]at a;exact ab (ae (af rfl (show bt [false,false,false,false] _ _=_ from rj rfl (rj (bX rfl (aB _) rfl) (rj rfl (rj rfl rfl)))) a rfl) rfl rfl rfl) k
abbrev gX:Ss:=.cons ect (.cons gQ .nil)
theorem Ic(h:ev C (.nm i) ρ=some (.rf i,ρ))(a:ρ[i]?.join=Ld ls):aP C (.cmp .ne (.nm i) (.lst .nil)) ρ=some (!ls.isEmpty,ρ):=ar (ao h (bb aj rfl rfl) (by show (ρ[i]?.join).bind OD.dat=_;rw[a];exact aB ls) rfl (oT ls))
theorem u9:∀{m:Nat}{f:Cf}{fuel:Nat},(free f).length<=m->m<fuel->Qok f qs->qs.length<=300->f.rows.length<=60->Jb f.rows.length f.rows->f.longs.length+(free f).length<=60->(∀a∈f.longs,a∈jIx 0 f.rows)->∃(ls:List Int) (o:Option OD),((∀a∈ls,a∈jIx 0 f.rows)/\gm ⟨f.rows,ls,f.r0,f.r1⟩ qs 499=[])/\cC (aP (Lm (n+4)) ed2) (aD (Lm (n+4)) gX) fuel (gY t f qs (Lo f) (Ld (gm f qs 499)))=some (.nx,gY t f qs (.fz (.list (ls.map PyData.int))) o)
 |m,f,fuel,hm,hf,hQ,hq,hN,hJ,hb,hs=>by
  have b:=Ic (C:=Lm (n+4)) (ρ:=gY t f qs (Lo f) (Ld (gm f qs 499))) (i:=4) rfl rfl;by_cases h:gm f qs 499=[]
  ·rw[h]at b;exact⟨f.longs,_,⟨hs,h⟩,by rw[h];exact rk b (by omega)⟩
  ·have d:(!(gm f qs 499).isEmpty)=true:=by cases e:gm f qs 499 with|nil=>exact absurd e h|cons _ _=>rfl
   rw[d]at b;have l:=yn (f:=f) (qs:=qs) (hop:=499);have j:0<(gm f qs 499).length:=List.length_pos_iff.mpr h;cases m with
   |zero=>omega
   |succ m=>
    cases fuel with
    |zero=>omega
    |succ fuel=>
     have k:(nx f (gm f qs 499)).longs.length=f.longs.length+(gm f qs 499).length:=by show (sortI _).length=_;rw[jf,aaf]
     obtain⟨ls,o,c,e⟩:=u9 (m:=m) (f:=nx f (gm f qs 499)) (fuel:=fuel) (by omega) (by omega) ⟨hQ.ok,hQ.inc⟩ hq hN hJ (by omega) (λa g=>by
      rcases aam.mp (sortI_mem.mp g) with z|z
      ·exact hs a z
      ·exact(aa4.mp (aa4.mp z).1).1)
     exact⟨ls,o,c,yo b (ab (ae (FD rfl rfl rfl (oW _) (by rw[aaf];omega)) rfl rfl rfl) (zo (f:=nx f (gm f qs 499)) ⟨hQ.ok,hQ.inc⟩ hq hN hJ rfl)) e⟩
theorem Cb(j:∀ls,Qok ⟨rs,ls,r0,r1⟩ qs)(k:qs.length<=300)(d:rs.length<=60)(t:Jb rs.length rs)(h:TpOk b c m)(y:m<=90000):∃(ls:List Int) (z l r:Int),pl.pg.call (n+5) 38 [Tp a b c,Rl rs,Pq qs]=some (.fz (.list (ls.map PyData.int)),[Tp z l r,Rl rs,Pq qs])/\((∀a∈ls,a∈jIx 0 rs)/\gm ⟨rs,ls,r0,r1⟩ qs 499=[])/\TpOk l r (m+100):=by obtain⟨i,p,s,q,w,g,u⟩:=yp d h y;obtain⟨ls,o,v,e⟩:=u9 (fuel:=100000) (by have:=lF (r0:=r0) (r1:=r1) d g;exact aat (Nat.le_add_left _ _) this) (by decide) (j _) k d t (lF d g) (λa x=>g.subset x);refine⟨ls,p,s,q,ai (ρ:=gY (Tp p s q) ⟨rs,i,r0,r1⟩ qs (.fz (.list (ls.map PyData.int))) o) rfl rfl ?_ rfl,v,u⟩;refine ab (ae (af rfl rfl w rfl) rfl rfl rfl) (zo (f:=⟨rs,i,r0,r1⟩) (j _) k d t ?_);exact ab (show be _ (.whl ed2 gX) _=_ from e) (ak (ag rfl rfl))
def gI:PyData->Int|.int t=>t|_=>0
def zp:PyData->Int|.tuple (.int b::_)=>b|_=>0
def vc:PyData->Int|.tuple [_,.int i]=>i|_=>0
def b9(r:R)(p:Int)(lg:Bool)(g:PyData):List Int:=match r with
 |.st x n=>if 99<n then [5000+100*x+vc g,5000+zp g-p] else [1000+100*x+n]
 |.ot w xs _=>if w=ac then (if lg=true then [7000,gI g] else [6500+gI g-p])
  else if w=am then (if lg=true then [9000+xs.getD 0 0,gI g] else [8100+200*xs.getD 0 0+gI g-p])
  else if w=ap then [0] else if w=dL then [4000+xs.getD 0 0]
  else if w=ga then [2000+10*xs.getD 0 0+xs.getD 1 0] else [3000+10*xs.getD 0 0+xs.getD 1 0]
def Gok(r:R)(g:PyData):Prop:=if r.gr=true then ∃b i,g=.tuple [.int b,.int i] else if r.jm=true then ∃t,g=.int t else g=.none
theorem bM{k:Nat}(h:(k:Int)<1000):vM .mul (.int (k:Int)) (.int x)=some (.int ((k:Int)*x)):=dD (.inl ⟨by omega,by omega⟩)
abbrev Jr(r:R)(p:Int)(lg:Bool)(g:PyData)(o4 o5 o6:Option OD):DEnv:=[Lb r,KY p,some (.fz (.bool lg)),some (.fz g),o4,o5,o6]
theorem Cc(d:r.ok)(c:r.jm=true):pl.pg.call (n+1) 5 [Rd r,It p,.fz (.bool lg),It t]=some (Il (b9 r p lg (.int t)),[Rd r,It p,.fz (.bool lg),It t]):=by
 cases r with
 |st x k=>cases c
 |ot w e h=>
  cases d with
  |sum _ _=>cases c
  |less _ _=>cases c
  |tell _=>cases c
  |stop=>cases c
  |go a=>
   cases lg with
   |true=>exact ai rfl rfl (ak (av rfl (ak (ag (cD rfl (bb (aa rfl (aa rfl aj)) rfl rfl)) rfl)))) rfl
   |false=>exact ai rfl rfl (ak (av rfl (ak (ag (bW rfl (bb (aa (ah (ah rfl rfl rfl rfl rfl) rfl rfl rfl rfl) aj) rfl rfl)) rfl)))) rfl
  |nil a b=>
   cases lg with
   |true=>exact ai rfl rfl (ab (s_ifF rfl rfl) (ak (av rfl (ak (ag (bb (aa (ah rfl rfl rfl rfl rfl) (aa rfl aj)) rfl rfl) rfl))))) rfl
   |false=>exact ai rfl rfl (ab (s_ifF rfl rfl) (ab (s_ifF rfl rfl) (ak (ag (bb (aa (ah (ah (ah rfl (ah rfl rfl rfl rfl (bM (by decide))) rfl rfl rfl) rfl rfl rfl rfl) rfl rfl rfl rfl) aj) rfl rfl) rfl)))) rfl
theorem Cd(q:r.ok)(d:Gok r g):pl.pg.call (n+2) 6 [Rd r,It p,.fz (.bool lg),.fz g]=some (Il (b9 r p lg g),[Rd r,It p,.fz (.bool lg),.fz g]):=by
 have c:∀{u m l:Option OD},aP (Lm (n+1)) ed0 (Jr r p lg g u m l)=some (r.gr,Jr r p lg g u m l):=bC (af rfl rfl (BV r) rfl);cases r with
 |st x k=>
  by_cases h:99<k
  ·have e:(R.st x k).gr=true:=Dac h;unfold Gok at d;rw[if_pos e]at d;obtain⟨b,i,rfl⟩:=d;rw[e]at c;have j:b9 (R.st x k) p lg (.tuple [.int b,.int i])=[5000+100*x+i,5000+b-p]:=if_pos h;rw[j];exact ai rfl rfl (ab (ae rfl rfl rfl rfl) (ab (s_ifF rfl rfl) (ab (s_ifF rfl rfl) (ak (av c (ab (s_asgQ rfl rfl rfl) (ak (ag (bb (aa (ah (ah rfl (ah rfl rfl rfl rfl (bM (by decide))) rfl rfl rfl) rfl rfl rfl rfl) (aa (ah (ah rfl rfl rfl rfl rfl) rfl rfl rfl rfl) aj)) rfl rfl) rfl)))))))) rfl
  ·have e:(R.st x k).gr=false:=Dab h;rw[e]at c;have j:b9 (R.st x k) p lg g=[1000+100*x+k]:=if_neg h;rw[j];exact ai rfl rfl (ab (ae rfl rfl rfl rfl) (ab (s_ifF rfl rfl) (ab (s_ifF rfl rfl) (ab (s_ifF c rfl) (ak (av rfl (ak (ag (bb (aa (ah (ah rfl (ah rfl rfl rfl rfl (bM (by decide))) rfl rfl rfl) rfl rfl rfl rfl) aj) rfl rfl) rfl)))))))) rfl
 |ot w f h=>
  have e:(R.ot w f h).gr=false:=rfl;rw[e]at c;have s:(R.ot w f h).jm=true->(Lm (n+1)).call 5 [Rd (R.ot w f h),It p,.fz (.bool lg),.fz g]=some (Il (b9 (R.ot w f h) p lg g),[Rd (R.ot w f h),It p,.fz (.bool lg),.fz g]):=λo=>by unfold Gok at d;rw[if_neg (by rw[e];decide),if_pos o]at d;obtain⟨t,rfl⟩:=d;exact Cc q o
  cases q with
  |sum a b=>exact ai rfl rfl (ab (ae rfl rfl rfl rfl) (ab (s_ifF rfl rfl) (ab (s_ifF rfl rfl) (ab (s_ifF c rfl) (ab (s_ifF rfl rfl) (ak (av rfl (ak (ag (bb (aa (ah (ah rfl (ah rfl rfl rfl rfl (bM (by decide))) rfl rfl rfl) rfl rfl rfl rfl) aj) rfl rfl) rfl))))))))) rfl
  |less a b=>exact ai rfl rfl (ab (ae rfl rfl rfl rfl) (ab (s_ifF rfl rfl) (ab (s_ifF rfl rfl) (ab (s_ifF c rfl) (ab (s_ifF rfl rfl) (ab (s_ifF rfl rfl) (ak (av rfl (ak (ag (bb (aa (ah (ah rfl (ah rfl rfl rfl rfl (bM (by decide))) rfl rfl rfl) rfl rfl rfl rfl) aj) rfl rfl) rfl)))))))))) rfl
  |tell a=>exact ai rfl rfl (ab (ae rfl rfl rfl rfl) (ab (s_ifF rfl rfl) (ab (s_ifF rfl rfl) (ab (s_ifF c rfl) (ab (s_ifF rfl rfl) (ab (s_ifF rfl rfl) (ab (s_ifF rfl rfl) (ak (ag (bb (aa (ah rfl rfl rfl rfl rfl) aj) rfl rfl) rfl))))))))) rfl
  |stop=>exact ai rfl rfl (ab (ae rfl rfl rfl rfl) (ak (av rfl (ak (ag (bb (aa rfl aj) rfl rfl) rfl))))) rfl
  |go a=>exact ai rfl rfl (ab (ae rfl rfl rfl rfl) (ab (s_ifF rfl rfl) (ak (av (i8 rfl) (ak (ag (af rfl rfl (s rfl) rfl) rfl)))))) rfl
  |nil a b=>exact ai rfl rfl (ab (ae rfl rfl rfl rfl) (ab (s_ifF rfl rfl) (ak (av (cg rfl rfl) (ak (ag (af rfl rfl (s rfl) rfl) rfl)))))) rfl
theorem xtI(d:ρ[i]?.join=Ld zs)(h:ev C e ρ=some (.val (Il ys),ρ1))(j:ρ1[i]?.join=Ld xs)(g:xs.length+ys.length<=1000000)(c:ρ1.set i (some (Il (xs++ys)))=ρ2):be C (.agl i e) ρ=some (.nx,ρ2)/\be C (.agl i e) ρ=some (.nx,ρ2):=by
 have a:(ρ[i]?.join).bind (λf=>(qK f).bind λ_=>(ev C e ρ).bind λx=>(F3 x.1).bind λys=>(x.2[i]?.join).bind λb=>(qK b).bind λxs=>(gd (xs.length+ys.length<=1000000)).bind λ_=>some (Fl.nx,x.2.set i (some (.lst (xs++ys)))))=some (.nx,ρ2):=
  bs d (bs rfl (bs h (bs rfl (bs j (bs rfl (bg (by rw[aaa,aaa];exact g) (by
   rw[<-c];show some (Fl.nx,ρ1.set i (some (OD.lst (xs.map It++ys.map It))))=some (Fl.nx,ρ1.set i (some (OD.lst ((xs++ys).map It))));rw[aau])))))))
 exact⟨a,a⟩
def hal(ws:List Int):List Int:=ws.flatMap λw=>[w/10000,w%10000]
def ovL(rs:List R)(k:Nat)(ws:List Int)(b:Int):List Int:=if mV rs k=true then [7001,b+2*ws.length] else []
def padL(p:Int):List Int:=if p%2=0 then [7002] else []
def poolC(rs:List R)(k:Nat)(ws:List Int)(p:Int):List Int:=ovL rs k ws (fw rs k p)++(padL (p+(ovL rs k ws (fw rs k p)).length)++((7100+(ws.length:Int))::hal ws))
theorem dU:∀{ws:List Int},(hal ws).length=2*ws.length
 |[]=>rfl
 |w::ws=>by show ([w/10000,w%10000]++hal ws).length=_;rw[aaf,dU];show 2+2*ws.length=2*(ws.length+1);omega
theorem gz:(ovL rs k ws b).length=if mV rs k=true then 2 else 0:=by unfold ovL;split<;>rfl
theorem vd:((padL p).length:Int)=1-p%2:=by
 unfold padL;split
 ·show (1:Int)=_;omega
 ·show (0:Int)=_;omega
theorem jg:p+(poolC rs k ws p).length=fw rs k p+2*ws.length:=by unfold poolC;rw[aaf,aaf,aao,dU];have h:=vd (p:=p+(ovL rs k ws (fw rs k p)).length);rw[gz]at h ⊢;unfold fw;simp only;split at h<;>rename_i a<;>simp only[a,if_pos,if_neg,aci,↓reduceIte]at *<;>push_cast at *<;>omega
abbrev Tn'(ws:List Int):OD:=.fz (.tuple (ws.map PyData.int))
theorem Ce{ws:List Int}:yM .len [.tuple (ws.map PyData.int)]=some (.int (ws.length:Int)):=by show some (PyData.int ((ws.map PyData.int).length:Nat))=_;rw[aaa]
abbrev pcE(rs:List R)(k:Nat)(ws:List Int)(p:Int)(o4 o5 o6:Option OD):DEnv:=[Lc rs,KY k,some (Tn' ws),KY p,o4,o5,o6]
abbrev Ko:Ss:=.cons ea6 .nil
theorem oX:∀{ws xs:List Int}{o6:Option OD},xs.length+2*ws.length<=1000->∃b,bp (λd a=>(bc (.nm 6) (.fz d) a).bind λρ1=>aD (Lm n) Ko ρ1) (ws.map PyData.int) (pcE rs k ws0 p o4 (Ld xs) o6)=some (.nx,pcE rs k ws0 p o4 (some (Il (xs++hal ws))) b)
 |[],xs,o6,_=>⟨o6,by show some (Fl.nx,_)=some (Fl.nx,pcE rs k ws0 p o4 (some (Il (xs++[]))) o6);rw[aan]⟩
 |w::ws,xs,o6,h=>by rw[aao]at h;obtain⟨b,e⟩:=oX (ws:=ws) (xs:=xs++[w/10000,w%10000]) (by rw[aaf];show xs.length+2+_<=_;omega);refine⟨b,bs (bs rfl (ab (xtI (ρ1:=pcE rs k ws0 p o4 (Ld xs) (KY w)) rfl (bb (aa (ah rfl rfl rfl rfl (iw (by decide))) (aa (ah rfl rfl rfl rfl (bz (by decide))) aj)) rfl rfl) rfl (by show xs.length+2<=_;omega) rfl).2 rfl)) (e.trans ?_)⟩;rw[aac];rfl
theorem yq{rs:List R}(hk:k<=rs.length)(u:ws.length<=100):pl.pg.call (n+4) 24 [Rl rs,It k,Tn' ws,It p]=some (Il (poolC rs k ws p),[Rl rs,It k,Tn' ws,It p]):=by
 have e:=oJ (n:=n) (p:=p) hk;have i:=uP (n:=n+1) hk;have o:(Lm (n+3)).call=pl.pg.call (n+3):=rfl;rw[<-o]at e i;unfold poolC;obtain⟨b,l⟩:∃b,b=fw rs k p:=⟨_,rfl⟩
 rw[<-l]at e ⊢;obtain⟨xs,a⟩:∃xs,xs=ovL rs k ws b:=⟨_,rfl⟩
 have w:xs.length<=2:=by rw[a,gz];split<;>omega
 have s:be (Lm (n+3)) eae (pcE rs k ws p (KY b) (some (Il [])) none)=some (.nx,pcE rs k ws p (KY b) (Ld xs) none):=by
  have d:aP (Lm (n+3)) ecq (pcE rs k ws p (KY b) (some (Il [])) none)=some (mV rs k,pcE rs k ws p (KY b) (some (Il [])) none):=bC (af rfl rfl i rfl);rw[a];unfold ovL;cases g:mV rs k with
  |false=>rw[g]at d;exact s_ifF d rfl
  |true=>rw[g]at d;exact av d (ab (xtI (ys:=[7001,b+2*ws.length]) rfl (bb (aa rfl (aa (ah rfl (ah rfl (aG rfl rfl Ce) rfl rfl (bM (by decide))) rfl rfl rfl) aj)) rfl rfl) rfl (by show 0+2<=1000000;decide) rfl).2 rfl)
 have r:be (Lm (n+3)) eaq (pcE rs k ws p (KY b) (Ld xs) none)=some (.nx,pcE rs k ws p (KY b) (some (Il (xs++padL (p+xs.length)))) none):=by
  have q:yM .len [.list (xs.map PyData.int)]=some (.int (xs.length:Int)):=by show some (PyData.int ((xs.map PyData.int).length:Nat))=_;rw[aaa]
  have c:aP (Lm (n+3)) Jl (pcE rs k ws p (KY b) (Ld xs) none)=some (decide (p+xs.length+1<b),pcE rs k ws p (KY b) (Ld xs) none):=ar (ao (ah (ah rfl (aG rfl (kS (aB xs)) q) rfl rfl rfl) rfl rfl rfl rfl) rfl rfl rfl rfl);have j:(p+xs.length+1<b) ↔ (p+xs.length)%2=0:=by
   rw[a,gz,l];unfold fw;simp only;cases mV rs k with
   |false=>simp only[aci,↓reduceIte];push_cast;omega
   |true=>simp only[↓reduceIte];push_cast;omega
  unfold padL;by_cases h:p+xs.length+1<b
  ·rw[Dac h]at c;rw[if_pos (j.mp h)];exact av c (ab (bx rfl rfl rfl rfl (by rw[aaa];omega) (by unfold pcE;rw[bF ];rfl)) rfl)
  ·rw[Dab h]at c;rw[if_neg (λz=>h (j.mpr z)),aan];exact s_ifF c rfl
 have v:(padL (p+xs.length)).length<=1:=by unfold padL;split<;>simp
 rw[<-a];generalize padL (p+xs.length)=ys at *;obtain⟨m,f⟩:=oX (ws:=ws) (xs:=xs++ys++[7100+(ws.length:Int)]) (by rw[aaf,aaf];show _+1+_<=_;omega);have t:xs++ys++[7100+(ws.length:Int)]++hal ws=xs++(ys++((7100+(ws.length:Int))::hal ws)):=by simp
 rw[t]at f;refine ai (ρ:=(pcE rs k ws p (KY b) (some (Il [])) m).set 5 none) rfl rfl ?_ rfl;refine ab (ae (af rfl rfl e rfl) rfl rfl rfl) ?_;refine ab (ae (bb aj rfl rfl) rfl rfl rfl) ?_;refine ab s (ab r (ab (bx (ρ3:=pcE rs k ws p (KY b) (some (Il (xs++ys++[7100+(ws.length:Int)]))) none) rfl (ah rfl (aG rfl rfl Ce) rfl rfl rfl) rfl rfl (by rw[aaa,aaf];omega) (by unfold pcE;rw[bF (ns:=xs++ys)];rfl)) ?_));exact ab (cN (dA rfl rfl rfl) f) (ak (ag rfl rfl))
abbrev dK(L:List (Int×PyData)):List Key:=L.map λz=>.inl z.1
abbrev dV(L:List (Int×PyData)):List OD:=L.map λz=>.fz z.2
abbrev Gd(L:List (Int×PyData)):OD:=.dic (dK L) (dV L)
theorem j8(h:a ∉ L.map (·.1)):a9 (.inl a) d (dK L) (dV L)=(dK (L++[(a,d)]),dV (L++[(a,d)])):=by
 have f:¬ ((dK L).any λq=>decide (q=.inl a))=true:=by intro b;obtain⟨q,c,e⟩:=abd.mp b;obtain⟨u,g,rfl⟩:=aax.mp c;have:=abt (Daa e);exact h (aax.mpr ⟨u,g,this⟩)
 unfold a9;rw[if_neg f];show _=((L++[(a,d)]).map (λz=>(Sum.inl z.1:Key)),(L++[(a,d)]).map λz=>OD.fz z.2);rw[aau,aau];rfl
theorem mZ:∀{L:List (Int×PyData)},dgV (dK L) (dV L) (.inl a)=some (((L.find? λz=>decide (z.1=a)).map (·.2)).getD .none)
 |[]=>rfl
 |z::L=>by
  have b:=mZ (a:=a) (L:=L);unfold dgV at b ⊢;rw[dK,dV,aap,aap,abc,aaU];by_cases h:z.1=a
  ·have c:decide ((Sum.inl z.1:Key)=.inl a)=true:=Dac (by rw[h]);rw[c,Dac h];rfl
  ·have c:decide ((Sum.inl z.1:Key)=.inl a)=false:=Dab λe=>h (abt e);rw[c,Dab h];simp only[aci,↓reduceIte];cases d:(dK L).findIdx? (λq=>decide (q=.inl a)) with
   |none=>rw[d]at b;exact b
   |some j=>rw[d]at b;exact b
theorem zq(b:(L.map (·.1)).Nodup)(h:(a,d)∈L):dgV (dK L) (dV L) (.inl a)=some d:=by
 rw[mZ];congr 1;induction L with
 |nil=>cases h
 |cons z L f=>
  rw[aap,aaF]at b;rw[aaU];rcases aab.mp h with rfl|h
  ·rw[Dac rfl];rfl
  ·have c:z.1≠a:=λe=>b.1 (by rw[e];exact aax.mpr ⟨_,h,rfl⟩);rw[Dab c];exact f b.2 h
theorem Cg(h:a ∉ L.map (·.1)):dgV (dK L) (dV L) (.inl a)=some .none:=by
 rw[mZ,List.find?_eq_none.mpr λz b=>by
  rw[Dab λe:z.1=a=>h (aax.mpr ⟨z,b,e⟩)];decide]
 rfl
theorem vf{g:Int->PyData}:∀{js:List Int}{L:List (Int×PyData)}{o:Option OD},(∀j∈js,ev C ve (KY j::ρ)=some (.val (.fz (g j)),KY j::ρ))->(L.map (·.1)++js).Nodup->∃a,dZ (g6 C (.nm 0) (.nm 0) ve) (js.map PyData.int) (dK L,dV L) (o::ρ)=some ((dK (L++js.map λj=>(j,g j)),dV (L++js.map λj=>(j,g j))),a::ρ)
 |[],L,o,_,_=>⟨o,by show some ((dK L,dV L),_)=some ((dK (L++[]),dV (L++[])),_);rw[aan]⟩
 |j::js,L,o,h,nd=>by
  have d:j ∉ L.map (·.1):=λz=>(aaA.mp nd).2.2 j z j aaj rfl;have b:((L++[(j,g j)]).map (·.1)++js).Nodup:=by rw[aau,aac];exact nd
  obtain⟨a,e⟩:=vf (λk f=>h k (aal _ f)) b;rw[aac]at e;have c:bc (.nm 0) (.fz (.int j)) (o::ρ)=some (KY j::ρ):=by unfold bc;exact bg (Nat.succ_pos _) rfl
  refine⟨a,bs (x:=((dK (L++[(j,g j)]),dV (L++[(j,g j)])),KY j::ρ)) (bs c (bs rfl (bs (h j aaj) (bs rfl (bs rfl (bs rfl ?_)))))) e⟩;show some (a9 (.inl j) (g j) (dK L) (dV L),KY j::ρ)=_;rw[j8 d]
abbrev wdL(qs:Pz):List (Int×PyData):=qs.map λq=>(q.1,.tuple (q.2.map PyData.int))
theorem vg:∀{qs ps:Pz}{o0 o1:Option OD},(ps++qs).Pairwise (λx y=>x.1<y.1)->∃a b,dZ (g6 C (.tp [0,1]) (.nm 0) (.nm 1)) (qs.map Po) (dK (wdL ps),dV (wdL ps)) [o0,o1]=some ((dK (wdL (ps++qs)),dV (wdL (ps++qs))),[a,b])
 |[],ps,o0,o1,_=>⟨o0,o1,by rw[aan];rfl⟩
 |q::qs,ps,o0,o1,h=>by
  have g:q.1 ∉ (wdL ps).map (·.1):=λz=>by obtain⟨u,i,e⟩:=aax.mp z;obtain⟨x,f,rfl⟩:=aax.mp i;have:=(abA.mp h).2.2 x f q aaj;have e:x.1=q.1:=e;omega
  obtain⟨a,b,c⟩:=vg (ps:=ps++[q]) (by rw[aac];exact h);rw[aac]at c;refine⟨a,b,bs (x:=((dK (wdL (ps++[q])),dV (wdL (ps++[q]))),[KY q.1,some (Tn' q.2)])) (bs rfl (bs rfl (bs rfl (bs rfl (bs rfl (bs rfl ?_)))))) c⟩;show some (a9 (.inl q.1) (.tuple (q.2.map PyData.int)) (dK (wdL ps)) (dV (wdL ps)),[KY q.1,some (Tn' q.2)])=_;rw[j8 g];have d:wdL (ps++[q])=wdL ps++[(q.1,.tuple (q.2.map PyData.int))]:=aau;rw[d]
theorem gIx_nodup:∀{rs:List R}{i:Int},(gIx i rs).Nodup
 |[],i=>aa1
 |r::rs,i=>by
  rw[gIx];split
  ·refine aaF.mpr ⟨λh=>?_,gIx_nodup⟩;obtain⟨j,q,e,_⟩:=gIx_mem h;omega
  ·exact gIx_nodup
theorem jIx_nodup:∀{rs:List R}{i:Int},(jIx i rs).Nodup
 |[],i=>aa1
 |r::rs,i=>by
  rw[jIx];split
  ·refine aaF.mpr ⟨λh=>?_,jIx_nodup⟩;obtain⟨j,q,e,_⟩:=jIx_mem h;omega
  ·exact jIx_nodup
theorem oY:∀{a b:List R}{i:Int},jIx i (a++b)=jIx i a++jIx (i+a.length) b
 |[],b,i=>by simp[jIx]
 |r::a,b,i=>by
  have e:i+1+(a.length:Int)=i+((r::a).length:Nat):=by rw[aao];omega
  rw[aaJ,jIx,jIx,oY ,e];split<;>rfl
theorem row_split(h:rs[k]?=some r):rs=rs.take k++r::rs.drop (k+1):=by obtain⟨a,e⟩:=aai.mp h;rw[<-e,<-abN a,ach]
theorem FE{r:R}(h:r.jm=true):r.gr=false:=by
 cases r with
 |st _ _=>cases h
 |ot _ _ _=>rfl
def CO(f:Cf)(a:Int):Int:=((f.rows[a.toNat]?).map R.tg).getD 0
def dF(s:Mc)(t:Int):Int:=(s.ps++[s.pl]).getD t.toNat 0
def CP(qs:Pz)(u n:Int):Int:=((((((qs[u.toNat]?).map (·.2)).getD []).findIdx? λm=>decide (m=n)).getD 0:Nat):Int)
def jh(f:Cf)(qs:Pz)(z:Int×Int):PyData:=.tuple [.int ((fin f qs).bs.getD z.2.toNat 0),.int (CP qs z.2 (oQ f z.1))]
abbrev Lj(f:Cf)(qs:Pz):List (Int×PyData):=(jIx 0 f.rows).map λa=>(a,PyData.int (dF (fin f qs) (CO f a)))
abbrev Lz(f:Cf)(qs:Pz)(zs:List (Int×Int)):List (Int×PyData):=zs.map λz=>(z.1,jh f qs z)
abbrev Lg(f:Cf)(qs:Pz)(us:List Int):List (Int×PyData):=Lj f qs++Lz f qs ((gIx 0 f.rows).zip us)
def j9(f:Cf)(k:Nat):Nat:=((f.rows.take k).filter R.gr).length
def gdat(f:Cf)(qs:Pz)(us:List Int)(k:Nat)(r:R):PyData:=if r.gr=true then jh f qs (k,us.getD (j9 f k) 0) else if r.jm=true then .int (dF (fin f qs) r.tg) else .none
theorem gIx_at(h:f.rows[k]?=some r)(a:r.gr=true):(gIx 0 f.rows)[j9 f k]?=some (k:Int):=by
 have c:k<=f.rows.length:=aaR (aai.mp h).1;have e:=row_split h;have b:gIx 0 f.rows=gIx 0 (f.rows.take k)++(k:Int)::gIx (k+1) (f.rows.drop (k+1)):=by
  conv=>lhs;rw[e]
  rw[oK,gIx,if_pos a,aaW,abJ c,abR]
 rw[b];unfold j9;rw[<-fA ,aaS (aag _),abf];rfl
theorem vh{f:Cf}{k:Nat}(h:f.rows[k]?=some r)(a:r.jm=true):(k:Int)∈jIx 0 f.rows:=by have b:k<=f.rows.length:=aaR (aai.mp h).1;rw[row_split h,oY,jIx,if_pos a,aaW,abJ b,abR];exact aae _ aaj
theorem oZ(a:us.length=(gIx 0 f.rows).length):(Lg f qs us).map (·.1)=jIx 0 f.rows++gIx 0 f.rows:=by
 rw[Lg,aau,aaQ,aaQ];congr 1
 ·exact List.map_id _
 ·show (((gIx 0 f.rows).zip us).map λz=>z.1)=_;exact List.map_fst_zip (by omega)
theorem jg_nodup{rs:List R}:(jIx 0 rs++gIx 0 rs).Nodup:=aaA.mpr ⟨jIx_nodup,gIx_nodup,λa f b g e=>by
 subst e;obtain⟨j,r,l,k,h⟩:=jIx_mem f;obtain⟨i,q,m,c,d⟩:=gIx_mem g;have:i=j:=by omega
 subst this;rw[k]at c;cases c;rw[FE h]at d;cases d⟩
theorem Ci{k:Nat}(d:us.length=(gIx 0 f.rows).length)(h:f.rows[k]?=some r):dgV (dK (Lg f qs us)) (dV (Lg f qs us)) (.inl (k:Int))=some (gdat f qs us k r):=by
 have j:((Lg f qs us).map (·.1)).Nodup:=by rw[oZ d];exact jg_nodup
 unfold gdat;by_cases b:r.gr=true
 ·rw[if_pos b];have e:=gIx_at h b;have m:j9 f k<us.length:=by rw[d];exact(aai.mp e).1
  refine zq j (aae _ (aax.mpr ⟨((k:Int),us.getD (j9 f k) 0),?_,rfl⟩));refine aaz (i:=j9 f k) ?_;rw[abK];exact⟨e,by rw[aaP,aak m];rfl⟩
 ·rw[if_neg b];by_cases c:r.jm=true
  ·rw[if_pos c];refine zq j (aah _ (aax.mpr ⟨(k:Int),vh h c,?_⟩));show ((k:Int),PyData.int (dF (fin f qs) (CO f k)))=_;unfold CO;rw[aaT,h];rfl
  ·rw[if_neg c];refine Cg λz=>?_;rw[oZ d]at z;rcases aam.mp z with z|z
   ·obtain⟨i,q,l,a,g⟩:=jIx_mem z;have:i=k:=by omega
    subst this;rw[h]at a;cases a;exact c g
   ·obtain⟨i,q,l,a,g⟩:=gIx_mem z;have:i=k:=by omega
    subst this;rw[h]at a;cases a;exact b g
theorem gdat_ok:Gok r (gdat f qs us k r):=by
 unfold Gok gdat;by_cases b:r.gr=true
 ·rw[if_pos b,if_pos b];exact⟨_,_,rfl⟩
 ·rw[if_neg b,if_neg b];by_cases a:r.jm=true
  ·rw[if_pos a,if_pos a];exact⟨_,rfl⟩
  ·rw[if_neg a,if_neg a]
theorem iH:∀{qs:List (Int×List Int)}{s:Mc},∃t,(inner f qs k s).bs=s.bs++t
 |[],s=>⟨[],(aan _).symm⟩
 |q::qs,s=>by
  obtain⟨t,e⟩:=iH;show ∃t,(inner f qs k (inn f k s q)).bs=_;rw[e];unfold inn;split
  ·exact⟨_,aac _ _ _⟩
  ·exact⟨t,rfl⟩
theorem vj:∀{m:Nat},∃t,(mac f qs (k+m)).bs=(mac f qs k).bs++t
 |0=>⟨[],(aan _).symm⟩
 |m+1=>by obtain⟨t,e⟩:=vj;obtain⟨u,a⟩:=iH;exact⟨t++u,by show (inner f qs (k+m) (mac f qs (k+m))).bs=_;rw[a,e,aac]⟩
theorem vk{d:Nat}(g:∀q∈ps,0<=q.1)(c:∀q∈ps,q.1<(d:Int))(b:∀q∈rs,(d:Int)<q.1):(inner f (ps++((d:Int),w)::rs) d (mac f (ps++((d:Int),w)::rs) d)).bs=(mac f ps d).bs++[fw f.rows d (mac f ps d).pl]/\(mac f ps d).bs.length=ps.length:=by
 refine⟨?_,?_⟩
 ·rw[j4 (λq a=>by
   rcases aab.mp a with rfl|z
   ·exact abQ _
   ·exact Int.le_of_lt (b q z)),fY,bY (qs:=ps) λq a e=>by have:=c q a;omega]
  show (inner f rs d (inn f d (mac f ps d) ((d:Int),w))).bs=_;rw[bY λq a e=>by have:=b q a;omega];unfold inn;rw[if_pos rfl]
 ·rw[eJ g,acE];intro q a;exact Dac (c q a)
theorem begin_is(h:d<=N):∃t,(inner f qs N (mac f qs N)).bs=(inner f qs d (mac f qs d)).bs++t:=by
 by_cases e:d=N
 ·subst e;exact⟨[],(aan _).symm⟩
 ·obtain⟨m,rfl⟩:∃m,N=d+1+m:=⟨N-d-1,by omega⟩
  obtain⟨t,a⟩:=vj;obtain⟨u,b⟩:=iH;exact⟨t++u,by rw[b,a,aac];rfl⟩
def cK(f:Cf)(k:Nat)(qs:Pz)(cs:List Int):List Int:=qs.foldl (λcs q=>if q.1=(k:Int) then cs++poolC f.rows k q.2 cs.length else cs) cs
def CC(f:Cf)(qs:Pz)(us:List Int):Nat->List Int
 |0=>[]
 |k+1=>cK f k qs (CC f qs us k)++(f.rows[k]?).elim [] λr=>b9 r (cK f k qs (CC f qs us k)).length (decide ((k:Int)∈f.longs)) (gdat f qs us k r)
theorem m3:∀{qs:Pz}{cs:List Int}{s:Mc},(cs.length:Int)=s.pl->((cK f k qs cs).length:Int)=(inner f qs k s).pl
 |[],cs,s,h=>h
 |q::qs,cs,s,h=>by
  show ((cK f k qs (if q.1=(k:Int) then cs++poolC f.rows k q.2 cs.length else cs)).length:Int)=(inner f qs k (inn f k s q)).pl;refine m3 ?_;unfold inn;split
  ·have:=jg (rs:=f.rows) (k:=k) (ws:=q.2) (p:=(cs.length:Int));rw[aaf];show _=fw f.rows k s.pl+2*q.2.length;rw[<-h];omega
  ·exact h
theorem lH(e:r.ok)(c:lg=true->r.jm=true):(b9 r p lg g).length=if r.gr=true\/lg=true then 2 else 1:=by
 cases r with
 |st x k=>
  have f:lg=false:=by cases lg with|false=>rfl|true=>cases c rfl
  subst f;by_cases h:99<k
  ·have d:b9 (R.st x k) p false g=[5000+100*x+vc g,5000+zp g-p]:=if_pos h;rw[d,if_pos (.inl (Dac h))];rfl
  ·have d:b9 (R.st x k) p false g=[1000+100*x+k]:=if_neg h;rw[d,if_neg (λz=>z.elim (λz=>h (Daa z)) aad)];rfl
 |ot w i j=>
  cases e with
  |go a=>cases lg<;>rfl
  |nil a b=>cases lg<;>rfl
  |sum a b=>cases lg with|false=>rfl|true=>cases c rfl
  |less a b=>cases lg with|false=>rfl|true=>cases c rfl
  |tell a=>cases lg with|false=>rfl|true=>cases c rfl
  |stop=>cases lg with|false=>rfl|true=>cases c rfl
structure Fok (f:Cf):Prop where
 ok:Nb f.rows
 jb:Jb f.rows.length f.rows
 lg:∀a∈f.longs,a∈jIx 0 f.rows
theorem Fok.jm{k:Nat}(F:Fok f)(h:f.rows[k]?=some r):decide ((k:Int)∈f.longs)=true->r.jm=true:=λz=>by
 obtain⟨i,q,c,a,b⟩:=jIx_mem (F.lg _ (Daa z));have:i=k:=by omega
 subst this;rw[h]at a;cases a;exact b
theorem m4(F:Fok f):∀{k:Nat},k<=f.rows.length->((CC f qs us k).length:Int)=(mac f qs k).pl
 |0,_=>rfl
 |k+1,h=>by
  have c:=m4 (us:=us) F (k:=k) (qs:=qs) (by omega);have d:=m3 (f:=f) (k:=k) (qs:=qs) c;obtain⟨r,a⟩:∃r,f.rows[k]?=some r:=⟨_,aak (by omega)⟩
  show ((cK f k qs (CC f qs us k)++(f.rows[k]?).elim [] λr=>b9 r (cK f k qs (CC f qs us k)).length (decide ((k:Int)∈f.longs)) (gdat f qs us k r)).length:Int)=(inner f qs k (mac f qs k)).pl+sz f k;rw[a,aaf];show (((cK f k qs (CC f qs us k)).length+(b9 r (cK f k qs (CC f qs us k)).length (decide ((k:Int)∈f.longs)) (gdat f qs us k r)).length:Nat):Int)=_;rw[lH (F.ok r (aaz a)) (F.jm a)];unfold sz;rw[a];show _=_+(if r.gr=true\/(k:Int)∈f.longs then (2:Int) else 1);by_cases b:r.gr=true\/(k:Int)∈f.longs
  ·rw[if_pos b,if_pos (b.imp id λz=>Dac z)];push_cast;omega
  ·rw[if_neg b,if_neg (λz=>b (z.imp id Daa))];push_cast;omega
theorem lI{k:Nat}:∀{qs:Pz}{cs:List Int},(∀q∈qs,q.1≠(k:Int))->cK f k qs cs=cs
 |[],_,_=>rfl
 |q::qs,cs,h=>by show cK f k qs (if q.1=(k:Int) then _ else cs)=cs;rw[if_neg (h q aaj)];exact lI λz a=>h z (aal _ a)
theorem Cj:cK f k (ps++qs) cs=cK f k qs (cK f k ps cs):=List.foldl_append
theorem iI{q:Int×List Int}(h:(ps++q::rs).Pairwise λx y=>x.1<y.1):(∀x∈ps,x.1<q.1)/\∀x∈rs,q.1<x.1:=by obtain⟨_,c,a⟩:=abA.mp h;exact⟨λx b=>a x b q aaj,(abb.mp c).1⟩
theorem zt{f:Cf}{k:Nat}(h:(ps++((k:Int),w)::rs).Pairwise λx y=>x.1<y.1):cK f k (ps++((k:Int),w)::rs) cs=cs++poolC f.rows k w cs.length:=by obtain⟨c,b⟩:=iI h;rw[Cj,lI (cs:=cs) λq a e=>by have:=c q a;simp only at this;omega];show cK f k rs (if (k:Int)=(k:Int) then _ else cs)=_;rw[if_pos rfl,lI λq a e=>by have:=b q a;simp only at this;omega]
theorem FF{k:Nat}(g:∀q∈ps,0<=q.1)(hk:k<=f.rows.length)(h:(ps++((k:Int),w)::rs).Pairwise λx y=>x.1<y.1):(fin f (ps++((k:Int),w)::rs)).bs.getD ps.length 0=fw f.rows k (mac f (ps++((k:Int),w)::rs) k).pl:=by
 obtain⟨j,a⟩:=iI h;obtain⟨c,b⟩:=vk g j a;obtain⟨t,e⟩:=begin_is hk;have d:mac f (ps++((k:Int),w)::rs) k=mac f ps k:=j4 λq i=>by
  rcases aab.mp i with rfl|z
  ·exact abQ _
  ·exact Int.le_of_lt (a q z)
 show (inner f _ f.rows.length (mac f _ f.rows.length)).bs.getD ps.length 0=_;rw[e,c,d,aaP,aac,aaS (by rw[b];exact aag _),b,abf];rfl
theorem Cm(c:ev C e ρ=some (.val (.fz d),ρ))(b:ρ[i]?.join=some (.dic ks xs))(hk:ev C ke ρ=some (.val (.fz kd),ρ))(a:keyOf kd=some kk)(h:xs.length<1000000)(f:a9 kk d ks xs=(ks',xs'))(g:ρ.set i (some (.dic ks' xs'))=ρ3):be C (.sdk i ke e) ρ=some (.nx,ρ3):=bs c (bs rfl (bs b (bs rfl (bs hk (bs rfl (bs a (bs b (bs rfl (bg h (by rw[f,<-g]))))))))))
theorem Cn{ns:List Int}(f:ev C a ρ=some (.val (.fz (.tuple (ns.map PyData.int))),ρ1))(c:ev C b ρ1=some (y,ρ2))(d:au ρ2 y=some (.int n))(e:(ns.findIdx? λm=>decide (m=n))=some j):ev C (.idx a b) ρ=some (.val (.fz (.int j)),ρ2):=bs f (bs rfl (bs c (bs d (bs rfl (bs (fD ns) (bs e rfl))))))
theorem FG(b:qs[u.toNat]?=some q)(c:n∈q.2):∃j:Nat,(q.2.findIdx? λm=>decide (m=n))=some j/\CP qs u n=j:=by
 obtain⟨j,a⟩:∃j,(q.2.findIdx? λm=>decide (m=n))=some j:=abi.mp (by
  rw[List.findIdx?_isSome];exact abd.mpr ⟨n,c,Dac rfl⟩)
 refine⟨j,a,?_⟩;unfold CP;rw[b];show (((q.2.findIdx? λm=>decide (m=n)).getD 0:Nat):Int)=j;rw[a];rfl
abbrev hE(f:Cf)(qs:Pz)(us:List Int)(s:Mc)(o9 o10 o11:Option OD):DEnv:=[Lc f.rows,Le f,Lk qs us,Lf qs,Lh us,Lh s.ps,Lh s.bs,KY s.pl,some (Il (s.ps++[s.pl])),o9,o10,o11]
abbrev hV:E:=.tup eat
abbrev hB:Ss:=.cons (.sdk 9 (.nm 10) hV) .nil
theorem mem_of(b:Zok f qs z)(c:mX f qs z=true):∃q,qs[z.2.toNat]?=some q/\oQ f z.1∈q.2:=by
 obtain⟨_,d,e⟩:=b;have a:z.2.toNat<qs.length:=by omega
 refine⟨qs[z.2.toNat],aak a,?_⟩;have:=Daa c;rw[aak a]at this;exact this
theorem Ie(u:(fin f qs).bs.length=qs.length)(a:Zok f qs z)(m:mX f qs z=true):ev (Lm n) hV (hE f qs us (fin f qs) o9 (KY z.1) (KY z.2))=some (.val (.fz (jh f qs z)),hE f qs us (fin f qs) o9 (KY z.1) (KY z.2)):=by
 obtain⟨i,x,y,k,v,r,t⟩:=a.row;obtain⟨q,g,b⟩:=mem_of a m;obtain⟨j,o,h⟩:=FG g b;obtain⟨_,s,p⟩:=a;unfold jh;rw[h];have c:ev (Lm n) Je (hE f qs us (fin f qs) o9 (KY z.1) (KY z.2))=some (.val (.fz (.tuple (q.2.map PyData.int))),hE f qs us (fin f qs) o9 (KY z.1) (KY z.2)):=by
  refine aw (aw rfl rfl rfl (aV (d:=Po q) ?_)) rfl rfl (ax (bL rfl));have e:z.2=(z.2.toNat:Int):=by omega
  rw[e];exact bL (by rw[aaq,g];rfl)
 have l:ev (Lm n) Jd (hE f qs us (fin f qs) o9 (KY z.1) (KY z.2))=some (.val (It (oQ f z.1)),hE f qs us (fin f qs) o9 (KY z.1) (KY z.2)):=by rw[t];refine aw (aw rfl rfl rfl (aV (d:=(R.st x y).d) ?_)) rfl rfl (ax (bL rfl));rw[k];exact fv r
 exact bV (aa (aw rfl rfl rfl (aV (atI_get s (by rw[u];exact p)))) (aa (Cn c l rfl o) aj)) rfl rfl rfl
theorem pb(i:(fin f qs).bs.length=qs.length):∀{zs:List (Int×Int)}{L:List (Int×PyData)}{o10 o11:Option OD},(∀z∈zs,Zok f qs z/\mX f qs z=true)->(L.map (·.1)++zs.map (·.1)).Nodup->L.length+zs.length<=1000->∃b a,bp (λd c=>(bc (.tp [10,11]) (.fz d) c).bind λρ1=>aD (Lm n) hB ρ1) (zs.map Zp) (hE f qs us (fin f qs) (some (Gd L)) o10 o11)=some (.nx,hE f qs us (fin f qs) (some (Gd (L++Lz f qs zs))) b a)
 |[],L,o10,o11,_,_,_=>⟨o10,o11,by show some (Fl.nx,_)=some (Fl.nx,hE f qs us (fin f qs) (some (Gd (L++[]))) o10 o11);rw[aan]⟩
 |z::zs,L,o10,o11,h,nd,hl=>by
  rw[aao]at hl;obtain⟨l,j⟩:=h z aaj;have o:z.1 ∉ L.map (·.1):=λk=>(aaA.mp nd).2.2 z.1 k z.1 (by rw[aap];exact aaj) rfl;have g:((L++[(z.1,jh f qs z)]).map (·.1)++zs.map (·.1)).Nodup:=by rw[aau,aac];exact nd
  obtain⟨b,a,e⟩:=pb i (λy m=>h y (aal _ m)) g (by rw[aaf];show L.length+1+_<=_;omega);rw[aac]at e;exact⟨b,a,bs (bs rfl (ab (Cm (Ie i l j) rfl rfl rfl (by rw[aaa];omega) (j8 o) rfl) rfl)) e⟩
structure Uok (f:Cf)(qs:Pz)(us:List Int):Prop where
 ln:us.length=(gIx 0 f.rows).length
 bd:∀u∈us,0<=u/\u<qs.length
 mm:∀z∈(gIx 0 f.rows).zip us,mX f qs z=true
theorem Uok.z{f:Cf}{qs:Pz}{us:List Int}(U:Uok f qs us){z:Int×Int}(a:z∈(gIx 0 f.rows).zip us):Zok f qs z/\mX f qs z=true:=⟨⟨(aa8 a).1,U.bd _ (aa8 a).2⟩,U.mm z a⟩
theorem yr(F:Fok f)(Q:Qok f qs)(U:Uok f qs us)(H:(fin f qs).bs.length=qs.length)(w:qs.length<=300)(u:f.rows.length<=60):pl.pg.call (n+5) 25 [Rl f.rows,Lo f,Fp qs us]=some (Gd (Lg f qs us),[Rl f.rows,Lo f,Fp qs us]):=by
 have b:pl.pg.call (n+4) 23 [Rl f.rows,Lo f,Pq qs]=some (Ga (fin f qs),[Rl f.rows,Lo f,Pq qs]):=yi Q.inc (λq h=>(Q.ok q h).g0) w (by omega);have j:=yl (n:=n+2) (rs:=f.rows) (by omega);have m:=uQ (n:=n+2) (rs:=f.rows) (by omega);have x:(Lm (n+4)).call=pl.pg.call (n+4):=rfl;rw[<-x]at b j m;have o:=fF (f:=f) (qs:=qs);have G:(jIx 0 f.rows).length<=60:=by rw[fE];exact aat (abB _ _) u
 have y:(gIx 0 f.rows).length<=60:=by rw[fA];exact aat (abB _ _) u
 obtain⟨L,p⟩:=vf (C:=Lm (n+4)) (ve:=.ix (.nm 1) ec1) (g:=λa=>.int (dF (fin f qs) (CO f a))) (ρ:=[some (Il ((fin f qs).ps++[(fin f qs).pl])),Lc f.rows]) (λa A=>by
  obtain⟨k,r,e,c,l⟩:=jIx_mem A;rw[abR]at e;subst e;have s:=F.jb r (aaz c);obtain⟨v,J,_⟩:=s l;have I:CO f (k:Int)=r.tg:=by unfold CO;rw[aaT,c];rfl
  rw[I];exact aw rfl (B9 (aw rfl rfl rfl (aV (fv c))) s l) rfl (bN rfl (atI_get v (by rw[aaf,o,aaI];omega)))) (by rw[aaL,aaD];exact jIx_nodup)
 rw[aaD]at p;obtain⟨i,d,t⟩:=pb H (zs:=(gIx 0 f.rows).zip us) (λz B=>U.z B) (by
  have D:(Lj f qs).map (·.1)=jIx 0 f.rows:=by rw[aaQ];exact List.map_id _
  rw[D,List.map_fst_zip (by have:=U.ln;omega)];exact jg_nodup) (by rw[aaa,abU];omega)
 rw[<-iB]at t;refine ai (ρ:=(hE f qs us (fin f qs) none i d)) rfl rfl ?_ rfl;refine ab (s_asgQ (ρ3:=[Lc f.rows,Le f,Lk qs us,Lf qs,Lh us,none,none,none,none,none,none,none]) rfl rfl rfl) ?_;refine ab (s_asgQ (ρ3:=[Lc f.rows,Le f,Lk qs us,Lf qs,Lh us,Lh (fin f qs).ps,Lh (fin f qs).bs,KY (fin f qs).pl,none,none,none,none]) (af (ρ3:=[Lc f.rows,Le f,Lk qs us,Lf qs,Lh us,none,none,none,none,none,none,none]) rfl rfl b rfl) rfl rfl) ?_;refine ab (ae (ρ3:=hE f qs us (fin f qs) none none none) (i7 rfl (bb (aa rfl aj) rfl rfl) rfl rfl (by rw[aaa,o];show _+1<=_;omega)) rfl rfl (by rw[uZ];rfl)) ?_;refine ab (mW (ρ3:=hE f qs us (fin f qs) (some (Gd (Lj f qs))) none none) (dA (af (ρ3:=hE f qs us (fin f qs) none none none) rfl rfl j rfl) (by show (Il _).dat.map _=_;rw[aB];rfl) rfl) (by rw[aaa];omega) rfl p (by show 9<12;decide) rfl) ?_;refine ab (cN (uI (dx:=.list ((gIx 0 f.rows).map PyData.int)) (dy:=.list (us.map PyData.int)) (af (ρ3:=hE f qs us (fin f qs) (some (Gd (Lj f qs))) none none) rfl rfl m rfl) rfl (by show (Il _).dat.map _=_;rw[aB];rfl) rfl rfl rfl) t) ?_;exact ak (ag rfl rfl)
theorem lJ(h:ws.length<=100):(poolC rs k ws p).length<=204:=by
 unfold poolC;have c:(ovL rs k ws (fw rs k p)).length<=2:=by rw[gz];split<;>omega
 have a:∀q,(padL q).length<=1:=λq=>by unfold padL;split<;>simp
 have b:=a (p+(ovL rs k ws (fw rs k p)).length);rw[aaf,aaf,aao,dU];omega
theorem pd:∀{qs:Pz}{cs:List Int},(∀q∈qs,q.2.length<=100)->(cK f k qs cs).length<=cs.length+204*qs.length
 |[],cs,_=>aag _
 |q::qs,cs,h=>by
  show (cK f k qs (if q.1=(k:Int) then cs++poolC f.rows k q.2 cs.length else cs)).length<=_;refine aat (pd λz a=>h z (aal _ a)) ?_;rw[aao];split
  ·rw[aaf];have:=lJ (rs:=f.rows) (k:=k) (p:=(cs.length:Int)) (h q aaj);omega
  ·omega
theorem pe:(b9 r p lg g).length<=2:=by
 unfold b9;split
 ·split<;>simp
 ·repeat' split
  all_goals simp
theorem zu(h:∀q∈qs,q.2.length<=100):∀{k:Nat},(CC f qs us k).length<=(204*qs.length+2)*k
 |0=>aag _
 |k+1=>by
  have c:=zu (f:=f) (us:=us) h (k:=k);have b:=pd (f:=f) (k:=k) (cs:=CC f qs us k) h;show (cK f k qs (CC f qs us k)++_).length<=_;rw[aaf,Nat.mul_succ];generalize (204*qs.length+2)*k=z at *;cases f.rows[k]? with
  |none=>show _+0<=_;omega
  |some r=>have a:=pe (r:=r) (p:=(cK f k qs (CC f qs us k)).length) (lg:=decide ((k:Int)∈f.longs)) (g:=gdat f qs us k r);show _+(b9 _ _ _ _).length<=_;omega
theorem m5(h:∀q∈qs,q.2.length<=100)(a:qs.length<=61)(hk:k<=60):(CC f qs us k).length<=750000:=aat (zu h) (aat (Nat.mul_le_mul (show 204*qs.length+2<=12446 by omega) hk) (by decide))
theorem Cp:((dK (wdL qs)).any λq=>decide (q=.inl (k:Int)))=decide (∃q∈qs,q.1=(k:Int)):=by
 by_cases h:∃q∈qs,q.1=(k:Int)
 ·rw[Dac h];obtain⟨q,a,e⟩:=h;exact abd.mpr ⟨.inl q.1,aax.mpr ⟨_,aax.mpr ⟨q,a,rfl⟩,rfl⟩,Dac (by rw[e])⟩
 ·rw[Dab h];refine List.any_eq_false.mpr λx c=>?_;obtain⟨z,b,rfl⟩:=aax.mp c;obtain⟨q,a,rfl⟩:=aax.mp b;rw[Dab λe=>h ⟨q,a,abt e⟩];decide
theorem pf:∀{ps:Pz},(∀q∈ps,q.1≠k)->(dK (wdL (ps++(k,w)::rs))).findIdx? (λq=>decide (q=.inl k))=some ps.length
 |[],_=>by show List.findIdx? _ (.inl k::dK (wdL rs))=_;rw[abc,Dac rfl];rfl
 |p::ps,h=>by show List.findIdx? _ (.inl p.1::dK (wdL (ps++(k,w)::rs)))=_;rw[abc,Dab λe=>h p aaj (abt e),pf λq a=>h q (aal _ a)];rfl
abbrev kE(f:Cf)(qs:Pz)(us:List Int)(cs:List Int)(o6:Option OD):DEnv:=[Lc f.rows,Le f,Lk qs us,some (Gd (Lg f qs us)),some (Gd (wdL qs)),Ld cs,o6]
theorem FH(h:∀q∈ps,q.1≠(k:Int)):ev C (.pg 4 [.key 6]) (kE f (ps++((k:Int),w)::rs) us cs (KY k))=some (.val (Tn' w),kE f (ps++((k:Int),w)::rs) us cs (KY k)):=by
 have b:accN (kE f (ps++((k:Int),w)::rs) us cs (KY k)) (Gd (wdL (ps++((k:Int),w)::rs))) (.key 6)=some ps.length:=bs rfl (bs rfl (bs rfl (bs rfl (pf h))));have a:(Gd (wdL (ps++((k:Int),w)::rs))).kids[ps.length]?=some (Tn' w):=by show (dV (wdL (ps++((k:Int),w)::rs)))[ps.length]?=_;rw[dV,wdL,aaQ,aaq,aaS (aag _),abf];rfl
 exact Fm (bs rfl (bs b (bs a rfl))) rfl
theorem ilen{cs:List Int}:yM .len [.list (cs.map PyData.int)]=some (.int (cs.length:Int)):=by show some (PyData.int ((cs.map PyData.int).length:Nat))=_;rw[aaa]
theorem vm:ev C F7 (kE f qs us cs o6)=some (.val (It cs.length),kE f qs us cs o6):=aG rfl (kS (aB cs)) ilen
abbrev Js:S':=.iff een ear .nil
abbrev Jt:S':=.iff ecd eak .nil
theorem zw(Q:Qok f qs)(hk:k<=f.rows.length)(r:cs.length<=900000)(c:qs.length<=61):be (Lm (n+5)) Js (kE f qs us cs (KY k))=some (.nx,kE f qs us (cK f k qs cs) (KY k)):=by
 have b:aP (Lm (n+5)) een (kE f qs us cs (KY k))=some (decide (∃q∈qs,q.1=(k:Int)),kE f qs us cs (KY k)):=by rw[<-Cp];rfl
 by_cases h:∃q∈qs,q.1=(k:Int)
 ·rw[Dac h]at b;obtain⟨⟨j,w⟩,d,e⟩:=h;have e:j=(k:Int):=e;subst e;have g:w.length<=100:=(Q.ok _ d).l1;obtain⟨o,rs,rfl⟩:=abL d;rw[zt Q.inc];have m:∀q∈o,q.1≠(k:Int):=λq c e=>by have:=(iI Q.inc).1 q c;simp only at this;omega
  have a:=yq (n:=n+1) (p:=(cs.length:Int)) hk g;have l:(Lm (n+5)).call=pl.pg.call (n+5):=rfl;rw[<-l]at a;have i:=lJ (rs:=f.rows) (k:=k) (p:=(cs.length:Int)) g;refine av b (ab (xtI rfl (af (aa rfl (aa rfl (aa (FH m) (aa vm aj)))) rfl a rfl) rfl (by omega) rfl).2 rfl)
 ·rw[Dab h]at b;rw[lI λq c e=>h ⟨q,c,e⟩];exact s_ifF b rfl
theorem Cq(h:dgV (dK (Lg f qs us)) (dV (Lg f qs us)) (.inl (k:Int))=some d):ev C (.dgt 3 (.nm 6)) (kE f qs us cs (KY k))=some (.val (.fz d),kE f qs us cs (KY k)):=bs h rfl
theorem FI{n k:Nat}(F:Fok f)(U:Uok f qs us)(a:f.rows[k]?=some r)(e:cs.length<=900000):be (Lm (n+5)) Jt (kE f qs us cs (KY k))=some (.nx,kE f qs us (cs++b9 r cs.length (decide ((k:Int)∈f.longs)) (gdat f qs us k r)) (KY k)):=by have i:k<f.rows.length:=(aai.mp a).1;have c:aP (Lm (n+5)) ecd (kE f qs us cs (KY k))=some (true,kE f qs us cs (KY k)):=ar (ao rfl (aG rfl rfl blen) rfl rfl (show some (decide ((k:Int)<(f.rows.length:Int)))=some true by rw[Dac (by omega)]));have b:=Cd (n:=n+3) (p:=(cs.length:Int)) (lg:=decide ((k:Int)∈f.longs)) (g:=gdat f qs us k r) (F.ok r (aaz a)) gdat_ok;have d:(Lm (n+5)).call=pl.pg.call (n+5):=rfl;rw[<-d]at b;have h:=pe (r:=r) (p:=(cs.length:Int)) (lg:=decide ((k:Int)∈f.longs)) (g:=gdat f qs us k r);exact av c (ab (xtI rfl (af (aa (aw rfl rfl rfl (aV (fv a))) (aa vm (aa (ao rfl rfl rfl rfl F8) (aa (Cq (Ci U.ln a)) aj)))) rfl b rfl) rfl (by omega) rfl).2 rfl)
abbrev AC(f:Cf)(qs:Pz)(us:List Int):List Int:=cK f f.rows.length qs (CC f qs us f.rows.length)
theorem vn(F:Fok f)(Q:Qok f qs)(U:Uok f qs us)(a:qs.length<=61)(j:f.rows.length<=60):∀{m k:Nat}{o6:Option OD},k+m=f.rows.length->∃c,bp (λd b=>(bc (.nm 6) (.fz d) b).bind λρ1=>aD (Lm (n+5)) (.cons Js (.cons Jt .nil)) ρ1) (bP k (m+1)) (kE f qs us (CC f qs us k) o6)=some (.nx,kE f qs us (AC f qs us) c)
 |0,k,o6,h=>by
  have p:k=f.rows.length:=by omega
  subst p;have l:=m5 (f:=f) (us:=us) (λq a=>(Q.ok q a).l1) a j;have o:aP (Lm (n+5)) ecd (kE f qs us (AC f qs us) (KY f.rows.length))=some (false,kE f qs us (AC f qs us) (KY f.rows.length)):=ar (ao rfl (aG rfl rfl blen) rfl rfl (show some (decide ((f.rows.length:Int)<(f.rows.length:Int)))=some false by rw[Dab (by omega)]));rw[bh];exact⟨_,bs (bs rfl (ab (zw Q (aag _) (by omega) a) (ab (s_ifF o rfl) rfl))) rfl⟩
 |m+1,k,o6,h=>by
  obtain⟨r,i⟩:∃r,f.rows[k]?=some r:=⟨_,aak (by omega)⟩
  have l:=m5 (f:=f) (us:=us) (λq a=>(Q.ok q a).l1) a (k:=k) (by omega);have s:=pd (f:=f) (k:=k) (cs:=CC f qs us k) λq a=>(Q.ok q a).l1;obtain⟨c,e⟩:=vn F Q U a j (m:=m) (k:=k+1) (by omega);have g:CC f qs us (k+1)=cK f k qs (CC f qs us k)++b9 r (cK f k qs (CC f qs us k)).length (decide ((k:Int)∈f.longs)) (gdat f qs us k r):=by show _++(f.rows[k]?).elim [] _=_;rw[i];rfl
  rw[g]at e;rw[bh];exact⟨c,bs (bs rfl (ab (zw Q (by omega) (by omega) a) (ab (FI F U i (by omega)) rfl))) e⟩
theorem Cr(F:Fok f)(Q:Qok f qs)(U:Uok f qs us)(d:(fin f qs).bs.length=qs.length)(g:qs.length<=61)(c:f.rows.length<=60):pl.pg.call (n+6) 26 [Rl f.rows,Lo f,Fp qs us]=some (Il (AC f qs us),[Rl f.rows,Lo f,Fp qs us]):=by
 have a:=yr (n:=n) F Q U d (by omega) c;have h:(Lm (n+5)).call=pl.pg.call (n+5):=rfl;rw[<-h]at a;obtain⟨k,l,j⟩:=vg (ps:=[]) Q.inc;obtain⟨b,e⟩:=vn F Q U g c (aaV _);refine ai (ρ:=(kE f qs us (AC f qs us) b).set 5 none) rfl rfl ?_ rfl;refine ab (ae (af rfl rfl a rfl) rfl rfl rfl) ?_;refine ab (mW (dA (aw rfl rfl rfl (ax az)) rfl rfl) (by rw[aaa];omega) rfl j (by show 4<7;decide) rfl) ?_;refine ab (ae (bb aj rfl rfl) rfl rfl rfl) ?_;refine ab (cN (fV (ah (aG rfl rfl blen) rfl rfl rfl rfl) rfl (by omega)) ?_) (ak (ag (ρ:=kE f qs us (AC f qs us) b) rfl rfl));have i:((f.rows.length:Int)+1).toNat=f.rows.length+1:=by omega
 rw[i];exact e
theorem ph(l:ev C a ρ=some (x,ρ1))(j:ev C b ρ1=some (y,ρ2))(h:au ρ2 x=some dx)(i:au ρ2 y=some dy)(hk:kO o dx dy=some true)(g:ev C c ρ2=some (z,ρ3))(d:au ρ3 y=some dy')(f:au ρ3 z=some dz)(e:kO o' dy' dz=some k):ev C (.cmp2 o o' a b c) ρ=some (.val (.fz (.bool k)),ρ3):=bs l (bs j (bs h (bs i (bs hk (bs g (bs d (bs f (bs e rfl))))))))
theorem pj(g:ev C a ρ=some (x,ρ1))(d:ev C b ρ1=some (y,ρ2))(e:au ρ2 x=some dx)(f:au ρ2 y=some dy)(hk:kO o dx dy=some false):ev C (.cmp2 o o' a b c) ρ=some (.val (.fz (.bool false)),ρ2):=bs g (bs d (bs e (bs f (bs hk rfl))))
theorem gA(h:ev C (.cmp2 o o' a b c) ρ=some (.val (.fz (.bool k)),ρ1)):aP C (.cmp2 o o' a b c) ρ=some (k,ρ1):=bs h rfl
section
variable{C:Ct}{a b c:E}{ρ:DEnv}{lo x hi:Int}
theorem bj(e:ev C a ρ=some (.val (It lo),ρ))(d:ev C b ρ=some (.val (It x),ρ))(f:ev C c ρ=some (.val (It hi),ρ)):aP C (.cmp2 .le .lt a b c) ρ=some (decide (lo<=x/\x<hi),ρ):=by
 by_cases h:lo<=x
 ·refine gA (ph e d rfl rfl (show some (decide (lo<=x))=some true by rw[Dac h]) f rfl rfl (show some (decide (x<hi))=_ from ?_));rw[decide_eq_decide.mpr (show (x<hi) ↔ (lo<=x/\x<hi) by omega)]
 ·rw[Dab (by omega)];exact gA (pj e d rfl rfl (show some (decide (lo<=x))=some false by rw[Dab h]))
theorem vo(e:ev C a ρ=some (.val (It lo),ρ))(d:ev C b ρ=some (.val (It x),ρ))(f:ev C c ρ=some (.val (It hi),ρ)):aP C (.cmp2 .lt .le a b c) ρ=some (decide (lo<x/\x<=hi),ρ):=by
 by_cases h:lo<x
 ·refine gA (ph e d rfl rfl (show some (decide (lo<x))=some true by rw[Dac h]) f rfl rfl (show some (decide (x<=hi))=_ from ?_));rw[decide_eq_decide.mpr (show (x<=hi) ↔ (lo<x/\x<=hi) by omega)]
 ·rw[Dab (by omega)];exact gA (pj e d rfl rfl (show some (decide (lo<x))=some false by rw[Dab h]))
theorem dG(e:ev C a ρ=some (.val (It x),ρ))(d:ev C b ρ=some (.val (It lo),ρ)):aP C (.cmp .eq a b) ρ=some (decide (x=lo),ρ):=ar (ao e d rfl rfl rfl)
theorem gj(e:ev C a ρ=some (.val (It x),ρ))(d:ev C b ρ=some (.val (It lo),ρ)):aP C (.cmp .lt a b) ρ=some (decide (x<lo),ρ):=ar (ao e d rfl rfl rfl)
theorem pk(e:ev C a ρ=some (.val (It x),ρ))(d:ev C b ρ=some (.val (It lo),ρ)):aP C (.cmp .gt a b) ρ=some (decide (lo<x),ρ):=ar (ao e d rfl rfl rfl)
theorem zx(e:ev C a ρ=some (.val (It x),ρ))(d:ev C b ρ=some (.val (It lo),ρ)):aP C (.cmp .le a b) ρ=some (decide (x<=lo),ρ):=ar (ao e d rfl rfl rfl)
theorem FJ(e:ev C a ρ=some (.val (It x),ρ))(d:ev C b ρ=some (.val (It lo),ρ)):aP C (.cmp .ge a b) ρ=some (decide (lo<=x),ρ):=ar (ao e d rfl rfl rfl)
theorem rT[Decidable P](h:aP C c ρ=some (decide P,ρ))(d:P):aP C c ρ=some (true,ρ):=by rw[h,Dac d]
theorem rF[Decidable P](h:aP C c ρ=some (decide P,ρ))(d:¬ P):aP C c ρ=some (false,ρ):=by rw[h,Dab d]
end
def pairD(w:Str)(k:Int):PyData:=if k/10<5/\k%10<5 then .tuple [.str w,.int (k/10),.int (k%10)] else .none
theorem vp:pl.pg.call (n+1) 7 [.fz (.str w),It k]=some (.fz (pairD w k),[.fz (.str w),It k]):=by
 refine ai (ρ:=[some (.fz (.str w)),KY k,KY (k/10),KY (k%10)]) rfl rfl ?_ rfl;refine ab (eF (aa (ah rfl rfl rfl rfl (iw (by decide))) (aa (ah rfl rfl rfl rfl (bz (by decide))) aj)) rfl rfl rfl) ?_;unfold pairD;by_cases h:k/10<5
 ·by_cases a:k%10<5
  ·rw[if_pos ⟨h,a⟩];exact ak (ag (cD (cv (rT (gj rfl rfl) h) (rT (gj rfl rfl) a)) rfl) rfl)
  ·rw[if_neg λz=>a z.2];exact ak (ag (bW (cv (rT (gj rfl rfl) h) (rF (gj rfl rfl) a)) rfl) rfl)
 ·rw[if_neg λz=>h z.1];exact ak (ag (bW (fU (rF (gj rfl rfl) h)) rfl) rfl)
def nilD(c p:Int):PyData:=if 0<(c-8000)%200 then .tuple [.str am,.int ((c-8000)/200),.int (p+(c-8000)%200-99-1),.bool false] else .none
theorem FK:pl.pg.call (n+1) 8 [It c,It p]=some (.fz (nilD c p),[It c,It p]):=by
 refine ai (ρ:=[KY c,KY p,KY 8000,KY ((c-8000)/200),KY ((c-8000)%200)]) rfl rfl ?_ rfl;refine ab (ae rfl rfl rfl rfl) (ab (eF (aa (ah rfl rfl rfl rfl (iw (by decide))) (aa (ah rfl rfl rfl rfl (bz (by decide))) aj)) rfl rfl rfl) ?_);unfold nilD;by_cases h:0<(c-8000)%200
 ·rw[if_pos h];exact ak (ag (cD (rT (pk rfl rfl) h) rfl) rfl)
 ·rw[if_neg h];exact ak (ag (bW (rF (pk rfl rfl) h) rfl) rfl)
def loneD(c p:Int):PyData:=
 if c=0 then .tuple [.str ap] else if 1000<=c/\c<1500 then .tuple [.str bm,.int ((c-1000)/100),.int (c%100)]
 else if 2000<=c/\c<3000 then pairD ga (c-2000) else if 3000<=c/\c<4000 then pairD hG (c-3000)
 else if 4000<=c/\c<4005 then .tuple [.str dL,.int (c-4000)] else if (if c-6500<0 then -(c-6500) else c-6500)<=499 then .tuple [.str ac,.int (p+c-6500),.bool false]
 else if c=7002 then .tuple [.str "pad"] else if 8001<=c/\c<9000 then nilD c p else .none
theorem Cu:pl.pg.call (n+2) 9 [It c,It p]=some (.fz (loneD c p),[It c,It p]):=by
 have a:(Lm (n+1)).call=pl.pg.call (n+1):=rfl;refine ai (ρ:=[KY c,KY p]) rfl rfl ?_ rfl;unfold loneD;by_cases h:c=0
 ·rw[if_pos h];exact ak (av (rT (dG rfl rfl) h) (ak (ag rfl rfl)))
 rw[if_neg h];refine ab (s_ifF (rF (dG rfl rfl) h) rfl) ?_;clear h;by_cases h:1000<=c/\c<1500
 ·rw[if_pos h];exact ak (av (rT (bj rfl rfl rfl) h) (ak (ag (bV (aa rfl (aa (ah rfl rfl rfl rfl (iw (by decide))) (aa (ah rfl rfl rfl rfl (bz (by decide))) aj))) rfl rfl rfl) rfl)))
 rw[if_neg h];refine ab (s_ifF (rF (bj rfl rfl rfl) h) rfl) ?_;clear h;by_cases h:2000<=c/\c<3000
 ·have e:=vp (n:=n) (w:=ga) (k:=c-2000);rw[<-a]at e;rw[if_pos h];exact ak (av (rT (bj rfl rfl rfl) h) (ak (ag (af rfl rfl e rfl) rfl)))
 rw[if_neg h];refine ab (s_ifF (rF (bj rfl rfl rfl) h) rfl) ?_;clear h;by_cases h:3000<=c/\c<4000
 ·have e:=vp (n:=n) (w:=hG) (k:=c-3000);rw[<-a]at e;rw[if_pos h];exact ak (av (rT (bj rfl rfl rfl) h) (ak (ag (af rfl rfl e rfl) rfl)))
 rw[if_neg h];refine ab (s_ifF (rF (bj rfl rfl rfl) h) rfl) ?_;clear h;by_cases h:4000<=c/\c<4005
 ·rw[if_pos h];exact ak (av (rT (bj rfl rfl rfl) h) (ak (ag rfl rfl)))
 rw[if_neg h];refine ab (s_ifF (rF (bj rfl rfl rfl) h) rfl) ?_;clear h;by_cases h:(if c-6500<0 then -(c-6500) else c-6500)<=499
 ·rw[if_pos h];exact ak (av (rT (zx rfl rfl) h) (ak (ag rfl rfl)))
 rw[if_neg h];refine ab (s_ifF (rF (zx rfl rfl) h) rfl) ?_;clear h;by_cases h:c=7002
 ·rw[if_pos h];exact ak (av (rT (dG rfl rfl) h) (ak (ag rfl rfl)))
 rw[if_neg h];refine ab (s_ifF (rF (dG rfl rfl) h) rfl) ?_;clear h;by_cases h:8001<=c/\c<9000
 ·have e:=FK (n:=n) (c:=c) (p:=p);rw[<-a]at e;rw[if_pos h];exact ak (av (rT (bj rfl rfl rfl) h) (ak (ag (af rfl rfl e rfl) rfl)))
 rw[if_neg h];exact ab (s_ifF (rF (bj rfl rfl rfl) h) rfl) (ak (ag rfl rfl))
def twoD(c s p:Int):PyData:=
 if 5000<=c/\c<5500 then .tuple [.str gl,.int ((c-5000)/100),.int (p+s-5000),.int (c%100)] else if c=7000 then .tuple [.str ac,.int s,.bool true]
 else if c=7001 then .tuple [.str lf,.int s] else if 9000<=c/\c<9005 then .tuple [.str am,.int (c-9000),.int s,.bool true] else .none
theorem FL:pl.pg.call (n+1) 10 [It c,It s,It p]=some (.fz (twoD c s p),[It c,It s,It p]):=by
 refine ai (ρ:=[KY c,KY s,KY p]) rfl rfl ?_ rfl;unfold twoD;by_cases h:5000<=c/\c<5500
 ·rw[if_pos h];exact ak (av (rT (bj rfl rfl rfl) h) (ak (ag (bV (aa rfl (aa (ah rfl rfl rfl rfl (iw (by decide))) (aa rfl (aa (ah rfl rfl rfl rfl (bz (by decide))) aj)))) rfl rfl rfl) rfl)))
 rw[if_neg h];refine ab (s_ifF (rF (bj rfl rfl rfl) h) rfl) ?_;clear h;by_cases h:c=7000
 ·rw[if_pos h];exact ak (av (rT (dG rfl rfl) h) (ak (ag rfl rfl)))
 rw[if_neg h];refine ab (s_ifF (rF (dG rfl rfl) h) rfl) ?_;clear h;by_cases h:c=7001
 ·rw[if_pos h];exact ak (av (rT (dG rfl rfl) h) (ak (ag rfl rfl)))
 rw[if_neg h];refine ab (s_ifF (rF (dG rfl rfl) h) rfl) ?_;clear h;by_cases h:9000<=c/\c<9005
 ·rw[if_pos h];exact ak (av (rT (bj rfl rfl rfl) h) (ak (ag rfl rfl)))
 rw[if_neg h];exact ab (s_ifF (rF (bj rfl rfl rfl) h) rfl) (ak (ag rfl rfl))
theorem m6{d:Type}{g h:d->PyData}:∀{as:List d}{out:List PyData}{o:Option OD},(∀a∈as,ev C elt (some (.fz (g a))::ρ)=some (.val (.fz (h a)),some (.fz (g a))::ρ))->∃c,bU (cf C (.nm 0) .none elt) (as.map g) out (o::ρ)=some (out++as.map h,c::ρ)
 |[],out,o,_=>⟨o,by rw[aaL,aaL,aan];rfl⟩
 |a::as,out,o,h2=>by
  have f:bc (.nm 0) (.fz (g a)) (o::ρ)=some (some (.fz (g a))::ρ):=by unfold bc;exact bg (Nat.succ_pos _) rfl
  obtain⟨c,e⟩:=m6 (λb i=>h2 b (aal _ i));refine⟨c,bs (Fo f (h2 a aaj) rfl) ?_⟩;rw[e,aac];rfl
def wds(cs:List Int)(b m:Nat):List Int:=(List.range m).map λj=>cs.getD (b+2*j) 0*10000+cs.getD (b+2*j+1) 0
theorem zy{cs:List Int}{k:Nat}(e:i=(k:Int))(h:k<cs.length):atI (cs.map PyData.int) i=some (.int (cs.getD k 0)):=by subst e;exact bL (by rw[aaq,aak h,aaP,aak h];rfl)
theorem Cv(d:ev C a ρ=some (.val (It i),ρ))(c:ev C b ρ=some (.val (It j),ρ))(h:0<=i/\i<=j/\j<=1000000):nL C (.rg3 a b) ρ=some (mB i (rn2 i j),ρ):=bs d (bs c (bs rfl (bs rfl (bs rfl (bs rfl (bg h rfl))))))
abbrev Sx(cs:List Int)(p:Nat)(d:PyData)(q:Nat):Prop:=∀n:Nat,pl.pg.call (n+3) 12 [Dl cs,It p]=some (.fz (.tuple [d,.int q]),[Dl cs,It p])
theorem Cw{n:Nat}{cs:List Int}{p m:Nat}(h:cs[p]?=some (7100+(m:Int)))(l:p+1+2*m<=cs.length)(q:cs.length<=900000):pl.pg.call (n+1) 11 [Dl cs,It p]=some (.fz (.tuple [.tuple [.str em,.tuple ((wds cs (p+1) m).map PyData.int)],.int ((p+1+2*m:Nat):Int)]),[Dl cs,It p]):=by
 have b:rn2 ((p+1:Nat):Int) ((p+1+2*m:Nat):Int)=m:=by unfold rn2;omega
 obtain⟨o,e⟩:=m6 (C:=Lm n) (elt:=.bop .add ec4 ec2) (g:=λi:Nat=>.int (((p+1:Nat):Int)+(i:Int)*2)) (ρ:=[Lh cs]) (as:=List.range m) λj a=>by have a:=List.mem_range.mp a;exact ah (ah (aw rfl rfl rfl (aV (zy (k:=p+1+2*j) (by push_cast;omega) (by omega)))) rfl rfl rfl (dD (.inr (by decide)))) (aw rfl rfl rfl (aV (zy (k:=p+1+2*j+1) (by push_cast;omega) (by omega)))) rfl rfl rfl
 rw[aaD]at e;have c:((List.range m).map λj=>PyData.int (cs.getD (p+1+2*j) 0*10000+cs.getD (p+1+2*j+1) 0))=(wds cs (p+1) m).map PyData.int:=by unfold wds;rw[aaQ];rfl
 rw[c]at e;generalize wds cs (p+1) m=ws at *;have f:7100+(m:Int)-7100=m:=by omega
 refine ai (ρ:=[Lh cs,KY p,KY (p+1:Nat),KY (p+1+2*m:Nat),Ld ws]) rfl rfl ?_ rfl;refine ab (ae rfl rfl rfl rfl) ?_;refine ab (ae (ρ3:=[Lh cs,KY p,KY (p+1:Nat),KY (p+1+2*m:Nat),none]) (ah rfl (ah rfl (ah (dx:=.int (7100+(m:Int))) (d:=.int (m:Int)) (aw rfl rfl rfl (aV (bL (by rw[aaq,h];rfl)))) rfl rfl rfl (show some (PyData.int (7100+(m:Int)-7100))=_ by rw[f])) rfl rfl (bM (k:=2) (by decide))) rfl rfl (show some (PyData.int (((p+1:Nat):Int)+2*(m:Int)))=_ by push_cast;rfl)) rfl rfl rfl) ?_;refine ab (s_ifF (rF (pk (x:=((p+1+2*m:Nat):Int)) (lo:=cs.length) rfl (aG rfl rfl blen)) (by omega)) rfl) ?_;refine ab (ae (ρ3:=[Lh cs,KY p,KY (p+1:Nat),KY (p+1+2*m:Nat),Ld ws]) (cI (ρ2:=[Lh cs,KY p,KY (p+1:Nat),KY (p+1+2*m:Nat),none]) (Cv rfl rfl (by omega)) (by rw[kN,b];omega) rfl (by rw[b];exact e) rfl) (z:=Il ws) (by rw[cO];rfl) rfl rfl) ?_;exact ak (ag (bV (aa (bV (aa rfl (aa (oA rfl (ds:=ws.map PyData.int) (oW ws)) aj)) rfl rfl rfl) (aa rfl aj)) rfl rfl rfl) rfl)
section
variable{n:Nat}{cs:List Int}{p:Nat}
theorem zA(a:p<cs.length):aP C ebj [Lh cs,KY p,o2,o3,o4]=some (false,[Lh cs,KY p,o2,o3,o4]):=uG (rT (bj rfl rfl (aG rfl rfl blen)) (by omega))
theorem lK:pl.pg.call (n+1) 12 [Dl cs,It cs.length]=some (.fz .none,[Dl cs,It cs.length]):=ai rfl rfl (ak (av (uG (rF (bj rfl rfl (aG rfl rfl blen)) (by omega))) (ak (ag rfl rfl)))) rfl
abbrev aE(cs:List Int)(p:Nat)(c:Int)(o3 o4:Option OD):DEnv:=[Lh cs,KY p,KY c,o3,o4]
theorem yt{m:Nat}(h:cs[p]?=some (7100+(m:Int)))(g:1<=m)(f:m<=100)(a:p+1+2*m<=cs.length)(d:cs.length<=900000):Sx cs p (.tuple [.str em,.tuple ((wds cs (p+1) m).map PyData.int)]) (p+1+2*m):=λn=>by have e:=Cw (n:=n+1) h a d;have c:(Lm (n+2)).call=pl.pg.call (n+2):=rfl;rw[<-c]at e;have b:p<cs.length:=(aai.mp h).1;exact ai (ρ:=aE cs p (7100+(m:Int)) none none) rfl rfl (ab (s_ifF (zA b) rfl) (ab (ae (aw rfl rfl rfl (aV (bL (by rw[aaq,h];rfl)))) rfl rfl rfl) (ak (av (rT (vo rfl rfl rfl) (by omega)) (ak (ag (af rfl rfl e rfl) rfl)))))) rfl
theorem vq(h:cs[p]?=some c)(b:¬ (7100<c/\c<=7200))(k:aD (Lm (n+2)) (match F_seen_at.body with|.cons _ (.cons _ (.cons _ (.cons _ s)))=>s|_=>.nil) (aE cs p c (some (.fz (loneD c p))) none)=some (.rt z,aE cs p c o3 o4)):pl.pg.call (n+3) 12 [Dl cs,It p]=some (z,[Dl cs,It p]):=by have e:=Cu (n:=n) (c:=c) (p:=p);have d:(Lm (n+2)).call=pl.pg.call (n+2):=rfl;rw[<-d]at e;have a:p<cs.length:=(aai.mp h).1;exact ai rfl rfl (ab (s_ifF (zA a) rfl) (ab (ae (aw rfl rfl rfl (aV (bL (by rw[aaq,h];rfl)))) rfl rfl rfl) (ab (s_ifF (rF (vo rfl rfl rfl) b) rfl) (ab (ae (af rfl rfl e rfl) rfl rfl rfl) k)))) rfl
theorem cL(h:cs[p]?=some c)(a:¬ (7100<c/\c<=7200))(b:loneD c p=.tuple ds):Sx cs p (.tuple ds) (p+1):=λn=>by refine vq (o3:=some (.fz (.tuple ds))) (o4:=none) h a ?_;rw[b];exact ak (av rfl (ak (ag rfl rfl)))
theorem ka(h:cs[p]?=some c)(h':cs[p+1]?=some s)(a:¬ (7100<c/\c<=7200))(f:loneD c p=.none)(b:twoD c s p=.tuple ds):Sx cs p (.tuple ds) (p+2):=λn=>by have e:=FL (n:=n+1) (c:=c) (s:=s) (p:=p);have d:(Lm (n+2)).call=pl.pg.call (n+2):=rfl;rw[<-d,b]at e;have g:p+1<cs.length:=(aai.mp h').1;refine vq (o3:=some (.fz .none)) (o4:=some (.fz (.tuple ds))) h a ?_;rw[f];exact ab (s_ifF rfl rfl) (ab (s_ifF (rF (dG rfl (aG rfl rfl blen)) (by omega)) rfl) (ab (ae (af (aa rfl (aa (aw rfl rfl rfl (aV (show atI (cs.map PyData.int) ((p+1:Nat):Int)=_ from bL (by rw[aaq,h'];rfl)))) (aa rfl aj))) rfl e rfl) rfl rfl rfl) (ak (ag (bW rfl rfl) rfl))))
end
def rth(r:R)(lg:Bool)(g:PyData):PyData:=match r with
 |.st x k=>if 99<k then .tuple [.str gl,.int x,.int (zp g),.int (vc g)] else .tuple [.str bm,.int x,.int k]
 |.ot w xs _=>if w=ac then .tuple [.str ac,.int (gI g),.bool lg] else if w=am then .tuple [.str am,.int (xs.getD 0 0),.int (gI g),.bool lg] else .tuple (.str w::xs.map PyData.int)
theorem pq(e:c=10*a+b)(d:0<=a/\a<=4)(f:0<=b/\b<=4):pairD w c=.tuple [.str w,.int a,.int b]:=by subst e;unfold pairD;rw[show (10*a+b)/10=a by omega,show (10*a+b)%10=b by omega,if_pos ⟨by omega,by omega⟩]
theorem Cz{p:Nat}(e:r.ok)(j:r.gr=true->0<=vc g/\vc g<=99)(l:r.jm=true->lg=false->-(farN r 499)<=gI g-p/\gI g-p<=farN r 499)(c:∀i x,(b9 r p lg g)[i]?=some x->cs[p+i]?=some x):Sx cs p (rth r lg g) (p+(b9 r p lg g).length):=by
 cases r with
 |st x k=>
  have q:=e.1;have n:=e.2;by_cases h:99<k
  ·have d:b9 (R.st x k) p lg g=[5000+100*x+vc g,5000+zp g-p]:=if_pos h;have f:rth (R.st x k) lg g=.tuple [.str gl,.int x,.int (zp g),.int (vc g)]:=if_pos h;have j:=j (Dac h);rw[d]at c ⊢;rw[f];refine ka (c 0 _ rfl) (c 1 _ rfl) (by omega) ?_ ?_
   ·unfold loneD;rw[if_neg (by omega),if_neg (by omega),if_neg (by omega),if_neg (by omega),if_neg (by omega),if_neg (by split<;>omega),if_neg (by omega),if_neg (by omega)]
   ·unfold twoD;rw[if_pos (by omega),show (5000+100*x+vc g-5000)/100=x by omega,show (5000+100*x+vc g)%100=vc g by omega,show (p:Int)+(5000+zp g-p)-5000=zp g by omega]
  ·have d:b9 (R.st x k) p lg g=[1000+100*x+k]:=if_neg h;have f:rth (R.st x k) lg g=.tuple [.str bm,.int x,.int k]:=if_neg h;rw[d]at c ⊢;rw[f];refine cL (c 0 _ rfl) (by omega) ?_;unfold loneD;rw[if_neg (by omega),if_pos (by omega),show (1000+100*x+k-1000)/100=x by omega,show (1000+100*x+k)%100=k by omega]
 |ot w s o=>
  cases e with
  |sum a b h=>refine cL (c 0 (2000+10*a+b) rfl) (by omega) ?_;unfold loneD;rw[if_neg (by omega),if_neg (by omega),if_pos (by omega),pq (by omega) h.1 h.2];rfl
  |less a b h=>refine cL (c 0 (3000+10*a+b) rfl) (by omega) ?_;unfold loneD;rw[if_neg (by omega),if_neg (by omega),if_neg (by omega),if_pos (by omega),pq (by omega) h.1 h.2];rfl
  |tell a h=>refine cL (c 0 (4000+a) rfl) (by omega) ?_;unfold loneD;rw[if_neg (by omega),if_neg (by omega),if_neg (by omega),if_neg (by omega),if_pos (by omega),show 4000+a-4000=a by omega];rfl
  |stop=>exact cL (c 0 _ rfl) (by decide) rfl
  |go a=>
   cases lg with
   |true=>exact ka (c 0 _ rfl) (c 1 _ rfl) (by decide) rfl rfl
   |false=>have m:-499<=gI g-p/\gI g-p<=499:=l rfl rfl;refine cL (c 0 (6500+gI g-p) rfl) (by omega) ?_;unfold loneD;rw[if_neg (by omega),if_neg (by omega),if_neg (by omega),if_neg (by omega),if_neg (by omega),if_pos (by split<;>omega),show (p:Int)+(6500+gI g-p)-6500=gI g by omega]
  |nil a b h=>
   cases lg with
   |true=>
    refine ka (c 0 (9000+a) rfl) (c 1 _ rfl) (by omega) ?_ ?_
    ·unfold loneD;rw[if_neg (by omega),if_neg (by omega),if_neg (by omega),if_neg (by omega),if_neg (by omega),if_neg (by split<;>omega),if_neg (by omega),if_neg (by omega)]
    ·unfold twoD;rw[if_neg (by omega),if_neg (by omega),if_neg (by omega),if_pos (by omega),show 9000+a-9000=a by omega];rfl
   |false=>have m:-99<=gI g-p/\gI g-p<=99:=l rfl rfl;refine cL (c 0 (8100+200*a+gI g-p) rfl) (by omega) ?_;unfold loneD nilD;rw[if_neg (by omega),if_neg (by omega),if_neg (by omega),if_neg (by omega),if_neg (by omega),if_neg (by split<;>omega),if_neg (by omega),if_pos (by omega),if_pos (by omega),show (8100+200*a+gI g-(p:Int)-8000)/200=a by omega,show (p:Int)+(8100+200*a+gI g-p-8000)%200-99-1=gI g by omega];rfl
theorem ji{X Y cs:List Int}(h:cs=X++Y)(a:Y[i]?=some x):cs[X.length+i]?=some x:=by rw[h,aaS (abn _ _),ab0];exact a
theorem hal_at:∀{ws:List Int}{j:Nat}{x:Int},ws[j]?=some x->(hal ws)[2*j]?=some (x/10000)/\(hal ws)[2*j+1]?=some (x%10000)
 |[],j,x,h=>by cases h
 |w::ws,0,x,h=>by cases h;exact⟨rfl,rfl⟩
 |w::ws,j+1,x,h=>hal_at (ws:=ws) h
theorem yu(h:cs=X++(c::(hal w++T))):wds cs (X.length+1) w.length=w:=by
 refine abM λj=>?_;unfold wds;rw[aaq];by_cases b:j<w.length
 ·have a:w[j]?=some w[j]:=aak b;obtain⟨d,g⟩:=hal_at a;have f:=ji (i:=2*j+1) h (by rw[abr,aaX (by rw[dU];omega)];exact d);have e:=ji (i:=2*j+1+1) h (by rw[abr,aaX (by rw[dU];omega)];exact g);rw[acf b,a];show some (cs.getD (X.length+1+2*j) 0*10000+cs.getD (X.length+1+2*j+1) 0)=_;rw[aaP,aaP,show X.length+1+2*j=X.length+(2*j+1) by omega,show X.length+(2*j+1)+1=X.length+(2*j+1+1) by omega,f,e];show some (w[j]/10000*10000+w[j]%10000)=_;congr 1;omega
 ·rw[abe (by rw[List.length_range];omega),abe (by omega)];rfl
theorem pv{k:Nat}(Q:Qok f (ps++((k:Int),w)::rs))(v:cs.length<=900000)(c:∃T,cs=cK f k (ps++((k:Int),w)::rs) L++T):∃b:Nat,((b:Int)=fw f.rows k L.length/\b+2*w.length=(cK f k (ps++((k:Int),w)::rs) L).length)/\1<=b/\Sx cs (b-1) (.tuple [.str em,.tuple (w.map PyData.int)]) (b+2*w.length)/\(mV f.rows k=true->Sx cs L.length (.tuple [.str lf,.int ((b+2*w.length:Nat):Int)]) (L.length+2)):=by
 have j:((k:Int),w)∈ps++((k:Int),w)::rs:=aae _ aaj;have h:1<=w.length:=(Q.ok _ j).l0;have t:w.length<=100:=(Q.ok _ j).l1;rw[zt Q.inc]at c ⊢;obtain⟨T,c⟩:=c;have o:=jg (rs:=f.rows) (k:=k) (ws:=w) (p:=(L.length:Int));have y:cs.length=L.length+(poolC f.rows k w L.length).length+T.length:=by rw[c,aaf,aaf]
 have d:(poolC f.rows k w L.length).length=(ovL f.rows k w (fw f.rows k L.length)).length+((padL ((L.length:Int)+(ovL f.rows k w (fw f.rows k L.length)).length)).length+(1+2*w.length)):=by unfold poolC;rw[aaf,aaf,aao,dU];omega
 have a:cs=L++(ovL f.rows k w (fw f.rows k L.length)++(padL ((L.length:Int)+(ovL f.rows k w (fw f.rows k L.length)).length)++((7100+(w.length:Int))::(hal w++T)))):=by rw[c];unfold poolC;simp only[aac,aaJ]
 obtain⟨O,q⟩:∃O,O=ovL f.rows k w (fw f.rows k L.length):=⟨_,rfl⟩
 obtain⟨D,A⟩:∃D,D=padL ((L.length:Int)+O.length):=⟨_,rfl⟩
 rw[<-q]at a d;rw[<-A]at a d;have g:cs=(L++O++D)++((7100+(w.length:Int))::(hal w++T)):=by rw[a,aac (L++O),aac]
 have z:(L++O++D).length=L.length+O.length+D.length:=by rw[aaf,aaf]
 have l:=ji (i:=0) g rfl;have n:=yu g;rw[z]at l n;have e:=yt l h t (by omega) v;rw[n]at e;refine⟨L.length+O.length+D.length+1,⟨by push_cast;omega,by rw[aaf];omega⟩,by omega,e,λu=>?_⟩;have r:O=[7001,fw f.rows k L.length+2*w.length]:=by rw[q];unfold ovL;rw[if_pos u]
 have s:cs[L.length]?=some 7001:=ji (i:=0) a (by rw[r];rfl);have m:cs[L.length+1]?=some (fw f.rows k L.length+2*w.length):=ji a (by rw[r];rfl);have x:fw f.rows k L.length+2*(w.length:Int)=((L.length+O.length+D.length+1+2*w.length:Nat):Int):=by push_cast;omega
 rw[x]at m;exact ka s m (by decide) rfl rfl
abbrev sV(d:PyData)(q:Nat):OD:=.fz (.tuple [d,.int q])
section
variable{n:Nat}{cs:List Int}{p:Nat}
theorem CA{b i q:Nat}{ws:List Int} (f:1<=b) (h:Sx cs (b-1) (.tuple [.str em,.tuple (ws.map PyData.int)]) q) (a:ws[i]?=some x):pl.pg.call (n+4) 16 [Dl cs,It b,It i]=some (It x,[Dl cs,It b,It i]):=by
 have e:=h n;have c:(Lm (n+3)).call=pl.pg.call (n+3):=rfl;rw[<-c,show ((b-1:Nat):Int)=(b:Int)-1 by omega]at e;have g:=(aai.mp a).1;have d:¬ ((ws.length:Int)<=(i:Int)):=by omega
 refine ai rfl rfl (ab (ae (af rfl rfl e rfl) rfl rfl rfl) (ab (s_ifF (cg rfl (cg rfl (rF (FJ rfl (aG rfl rfl Ce)) d))) rfl) (ak (ag (aw rfl rfl rfl (ax (bL (by rw[aaq,a];rfl)))) rfl)))) rfl
def FM(cs:List Int)(p:Nat):Prop:=p=cs.length\/∃w a q,w≠(lf:Str)/\Sx cs p (.tuple (.str w::a)) q
abbrev pB:Ss:=match F_past_overs.body with|.cons _ (.cons (.whl _ b) _)=>b|_=>.nil
abbrev pC:E:=.and (.isn true (.nm 2)) ebt
theorem past_w(h:FM cs p):∃y,pl.pg.call (n+3) 12 [Dl cs,It p]=some (y,[Dl cs,It p])/\own1 [Lh cs,KY p,none] (.val y)=some (y,[Lh cs,KY p,none])/\aP (Lm (n+3)) pC [Lh cs,KY p,some y]=some (false,[Lh cs,KY p,some y]):=by
 rcases h with rfl|⟨w,b,q,a,h⟩
 ·exact⟨_,lK ,rfl,fU rfl⟩
 ·refine⟨_,h n,rfl,cv rfl (ar (ao (aw (aw rfl rfl rfl (ax rfl)) rfl rfl (ax az)) rfl rfl rfl (show some (decide (w=(lf:Str)))=some false by rw[Dab a])))⟩
theorem pw(h:FM cs p):pl.pg.call (n+4) 17 [Dl cs,It p]=some (It p,[Dl cs,It p]):=by obtain⟨y,e,b,t⟩:=past_w h;have a:(Lm (n+3)).call=pl.pg.call (n+3):=rfl;rw[<-a]at e;exact ai rfl rfl (ab (ae (af rfl rfl e rfl) rfl rfl rfl) (ab (show be _ (.whl pC pB) _=_ from rk (n:=100000) t (by decide)) (ak (ag rfl rfl)))) rfl
theorem yv{y q:Nat} (h:Sx cs p (.tuple [.str lf,.int y]) q) (b:FM cs y):pl.pg.call (n+4) 17 [Dl cs,It p]=some (It y,[Dl cs,It p]):=by obtain⟨z,e,d,t⟩:=past_w b;have a:=h n;have c:(Lm (n+3)).call=pl.pg.call (n+3):=rfl;rw[<-c]at e a;refine ai rfl rfl (ab (ae (af rfl rfl a rfl) rfl rfl rfl) (ab (show be _ (.whl pC pB) _=_ from yo rfl (ab (ae rfl rfl rfl rfl) (ab (ae (af rfl rfl e rfl) rfl rfl rfl) rfl)) (rk t (by decide))) (ak (ag rfl rfl)))) rfl
abbrev wE(cs:List Int)(p:Nat)(o2 o3 o4 o5:Option OD):DEnv:=[Lh cs,KY p,o2,o3,o4,o5]
theorem CB:pl.pg.call (n+5) 18 [Dl cs,It cs.length]=some (.fz .none,[Dl cs,It cs.length]):=by have e:=lK (n:=n+3) (cs:=cs);have a:(Lm (n+4)).call=pl.pg.call (n+4):=rfl;rw[<-a]at e;exact ai rfl rfl (ab (ae (af rfl rfl e rfl) rfl rfl rfl) (ak (av (i8 rfl) (ak (ag rfl rfl))))) rfl
theorem pD(h:Sx cs p (.tuple (.str w::xs)) q) (d:w≠("pad":Str)) (b:w≠(em:Str)) (k:aD (Lm (n+4)) (match F_row_at.body with|.cons _ (.cons _ (.cons _ s))=>s|_=>.nil) (wE cs p (some (sV (.tuple (.str w::xs)) q)) (some (.fz (.tuple (.str w::xs)))) (KY q) none)=some (.rt z,wE cs p (some (sV (.tuple (.str w::xs)) q)) (some (.fz (.tuple (.str w::xs)))) (KY q) o5)):pl.pg.call (n+5) 18 [Dl cs,It p]=some (z,[Dl cs,It p]):=by have e:=h (n+1);have c:(Lm (n+4)).call=pl.pg.call (n+4):=rfl;rw[<-c]at e;have a:∀{v:Str},w≠v->aP (Lm (n+4)) (.cmp .eq ec9 (.str v)) (wE cs p (some (sV (.tuple (.str w::xs)) q)) none none none)=some (false,wE cs p (some (sV (.tuple (.str w::xs)) q)) none none none):=λ{v} hv=>ar (ao (aw (aw rfl rfl rfl (ax rfl)) rfl rfl (ax az)) rfl rfl rfl (show some (decide (w=v))=some false by rw[Dab hv]));exact ai rfl rfl (ab (ae (af rfl rfl e rfl) rfl rfl rfl) (ab (s_ifF (cg rfl (cg (a d) (a b))) rfl) (ab (s_asgQ rfl rfl rfl) k))) rfl
theorem pE:aP C ecg (wE cs p (some (sV (.tuple (.str w::xs)) q)) (some (.fz (.tuple (.str w::xs)))) (KY q) o5)=some (!decide (w=(gl:Str)),wE cs p (some (sV (.tuple (.str w::xs)) q)) (some (.fz (.tuple (.str w::xs)))) (KY q) o5):=ar (ao (aw rfl rfl rfl (ax az)) rfl rfl rfl rfl)
theorem CD(h:Sx cs p (.tuple (.str w::xs)) q) (c:w≠("pad":Str)) (b:w≠(em:Str)) (a:w≠(gl:Str)):pl.pg.call (n+5) 18 [Dl cs,It p]=some (sV (.tuple (.str w::xs)) q,[Dl cs,It p]):=by have t:=pE (cs:=cs) (p:=p) (q:=q) (w:=w) (xs:=xs) (C:=Lm (n+4)) (o5:=none);rw[Dab a]at t;exact pD h c b (ak (av t (ak (ag rfl rfl))))
theorem CF{b i q g:Nat}{ws:List Int} (h:Sx cs p (.tuple [.str gl,.int y,.int b,.int i]) q) (a:1<=b) (c:Sx cs (b-1) (.tuple [.str em,.tuple (ws.map PyData.int)]) g) (d:ws[i]?=some x):pl.pg.call (n+5) 18 [Dl cs,It p]=some (sV (.tuple [.str bm,.int y,.int x]) q,[Dl cs,It p]):=by have e:=CA (n:=n) a c d;have f:(Lm (n+4)).call=pl.pg.call (n+4):=rfl;rw[<-f]at e;have t:=pE (cs:=cs) (p:=p) (q:=q) (w:=gl) (xs:=[.int y,.int b,.int i]) (C:=Lm (n+4)) (o5:=none);rw[Dac rfl]at t;exact pD h (by decide +kernel) (by decide +kernel) (ab (s_ifF t rfl) (ab (ae (af rfl rfl e rfl) rfl rfl rfl) (ak (ag (bW rfl rfl) rfl))))
end
def bA:R->List Int->List Int
 |.st x k,h=>h.set x.toNat k
 |.ot w xs _,h=>if w=ga then h.set (xs.getD 0 0).toNat ((h.getD (xs.getD 0 0).toNat 0+h.getD (xs.getD 1 0).toNat 0)%100000000) else if w=hG then h.set (xs.getD 0 0).toNat ((h.getD (xs.getD 0 0).toNat 0-h.getD (xs.getD 1 0).toNat 0)%100000000) else h
def dX:R->List Int->List Int->List Int
 |.st _ _,_,t=>t
 |.ot w xs _,h,t=>if w=dL then t++[h.getD (xs.getD 0 0).toNat 0] else t
def zB:R->List Int->Bool
 |.st _ _,_=>false
 |.ot w xs _,h=>decide (w=ac)||(decide (w=am)&&decide (h.getD (xs.getD 0 0).toNat 0=0))
def Dr(r:R)(d:PyData):Prop:=d=r.d\/(r.jm=true/\∃a g,d=rth r a g)
theorem gC{r:R}{h:List Int}:(bA r h).length=h.length:=by
 cases r with
 |st x k=>exact abj
 |ot w a b=>
  show (if w=_ then _ else if w=_ then _ else h:List Int).length=_;split
  ·exact abj
  ·split
   ·exact abj
   ·rfl
theorem pF{r:R}{h t:List Int}:(dX r h t).length<=t.length+1:=by
 cases r with
 |st x k=>exact abl _
 |ot w a b=>
  show (if w=_ then _ else t:List Int).length<=_;split
  ·rw[aaf];exact aag _
  ·exact abl _
theorem FN{m:Nat}{x:Int}(a:0<=x)(b:x<m):ixN m x=some x.toNat:=by
 obtain⟨k,rfl⟩:∃k:Nat,x=k:=⟨x.toNat,by omega⟩
 exact oC (by omega)
theorem vw{h:List Int}{x:Int}(a:0<=x)(b:x<h.length):atI (h.map It) x=KY (h.getD x.toNat 0):=atI_get (g:=It) a b
theorem FO{h:List Int}{x:Int}(a:0<=x)(b:x<h.length):atI (h.map PyData.int) x=some (.int (h.getD x.toNat 0)):=atI_get (g:=PyData.int) a b
abbrev cE(d:PyData)(h t:List Int)(w:Str):DEnv:=[some (.fz d),Ld h,Ld t,some (.fz (.str w))]
theorem vy{C:Ct}{a e:E}{d:PyData}{h t:List Int}{w:Str}{x v:Int}(c:0<=x)(f:x<h.length)(b:ev C e (cE d h t w)=some (.val (It v),cE d h t w))(hk:ev C a (cE d h t w)=some (.val (It x),cE d h t w)):be C (.sti 1 a e) (cE d h t w)=some (.nx,cE d (h.set x.toNat v) t w):=by refine jS (ys:=h.map It) (xs:=h.map It) (jj:=x.toNat) b rfl rfl hk rfl rfl (by rw[aaa];exact FN c f) ?_;show [_,some (OD.lst ((h.map It).set x.toNat (It v))),_,_]=_;rw[<-List.map_set]
theorem pH{n:Nat}{r:R}{d:PyData}{h t:List Int}(l:r.ok)(c:Dr r d)(q:h.length=5)(p:t.length<=5000):pl.pg.call (n+1) 13 [.fz d,Il h,Il t]=some (.fz .none,[.fz d,Il (bA r h),Il (dX r h t)]):=by
 cases r with
 |st x k=>
  have c:d=(R.st x k).d:=c.elim id λz=>by cases z.1
  subst c;have m:=l.1;exact eG (fn:=aX) (ρ:=cE _ (h.set x.toNat k) t bm) rfl rfl (ab (ae (ρ3:=cE _ h t bm) rfl rfl rfl rfl) (ab (av rfl (ab (vy m.1 (by omega) rfl rfl) rfl)) rfl)) rfl
 |ot w xs i=>
  cases l with
  |sum a b f=>
   have c:d=(R.ot ga [a,b] i).d:=c.elim id λz=>by cases z.1
   subst c;refine eG (fn:=aX) (ρ:=cE _ (h.set a.toNat ((h.getD a.toNat 0+h.getD b.toNat 0)%100000000)) t ga) rfl rfl (ab (ae (ρ3:=cE _ h t ga) rfl rfl rfl rfl) (ab (s_ifF rfl (ab (av rfl (ab (vy (x:=a) f.1.1 (by omega) (ah (ah (aw (x:=.rf 1) rfl rfl rfl (bN rfl (vw f.1.1 (by omega)))) (aw (x:=.rf 1) rfl rfl rfl (bN rfl (vw f.2.1 (by omega)))) rfl rfl rfl) rfl rfl rfl (bz (j:=100000000) (by decide))) rfl) rfl)) rfl)) rfl)) rfl
  |less a b f=>
   have c:d=(R.ot hG [a,b] i).d:=c.elim id λz=>by cases z.1
   subst c;refine eG (fn:=aX) (ρ:=cE _ (h.set a.toNat ((h.getD a.toNat 0-h.getD b.toNat 0)%100000000)) t hG) rfl rfl (ab (ae (ρ3:=cE _ h t hG) rfl rfl rfl rfl) (ab (s_ifF rfl (ab (s_ifF rfl (ab (av rfl (ab (vy (x:=a) f.1.1 (by omega) (ah (ah (aw (x:=.rf 1) rfl rfl rfl (bN rfl (vw f.1.1 (by omega)))) (aw (x:=.rf 1) rfl rfl rfl (bN rfl (vw f.2.1 (by omega)))) rfl rfl rfl) rfl rfl rfl (bz (j:=100000000) (by decide))) rfl) rfl)) rfl)) rfl)) rfl)) rfl
  |tell a f=>
   have c:d=(R.ot dL [a] i).d:=c.elim id λz=>by cases z.1
   subst c;refine eG (fn:=aX) (ρ:=cE (R.ot dL [a] i).d h (t++[h.getD a.toNat 0]) dL) rfl rfl (ab (ae (ρ3:=cE _ h t dL) rfl rfl rfl rfl) (ab (s_ifF rfl (ab (s_ifF rfl (ab (s_ifF rfl (ab (av rfl (ab (bx (xs:=t.map It) (ρ1:=cE _ h t dL) (ρ2:=cE _ h t dL) rfl (aw (x:=.rf 1) rfl rfl rfl (bN rfl (vw f.1 (by omega)))) rfl rfl (by rw[aaa];omega) ?_) rfl)) rfl)) rfl)) rfl)) rfl)) rfl;show _=[_,_,some (Il (t++[h.getD a.toNat 0])),_];rw[bF];rfl
  |stop=>
   have c:d=(R.ot ap [] i).d:=c.elim id λz=>by cases z.1
   subst c;exact eG (fn:=aX) rfl rfl (ab (ae (ρ3:=cE _ h t ap) rfl rfl rfl rfl) (ab (s_ifF rfl (ab (s_ifF rfl (ab (s_ifF rfl (ab (s_ifF rfl rfl) rfl)) rfl)) rfl)) rfl)) rfl
  |go a=>
   have e:∀{xs:List PyData},pl.pg.call (n+1) 13 [.fz (.tuple (.str ac::xs)),Il h,Il t]=some (.fz .none,[.fz (.tuple (.str ac::xs)),Il h,Il t]):=λ{xs}=>eG (fn:=aX) rfl rfl (ab (ae (ρ3:=cE _ h t ac) (aw rfl rfl rfl (ax az)) rfl rfl rfl) (ab (s_ifF rfl (ab (s_ifF rfl (ab (s_ifF rfl (ab (s_ifF rfl rfl) rfl)) rfl)) rfl)) rfl)) rfl;rcases c with rfl|⟨_,o,g,rfl⟩
   ·exact e
   ·exact e
  |nil a b f=>
   have e:∀{xs:List PyData},pl.pg.call (n+1) 13 [.fz (.tuple (.str am::xs)),Il h,Il t]=some (.fz .none,[.fz (.tuple (.str am::xs)),Il h,Il t]):=λ{xs}=>eG (fn:=aX) rfl rfl (ab (ae (ρ3:=cE _ h t am) (aw rfl rfl rfl (ax az)) rfl rfl rfl) (ab (s_ifF rfl (ab (s_ifF rfl (ab (s_ifF rfl (ab (s_ifF rfl rfl) rfl)) rfl)) rfl)) rfl)) rfl;rcases c with rfl|⟨_,o,g,rfl⟩
   ·exact e
   ·exact e
theorem FP{n:Nat}{r:R}{d:PyData}{h:List Int}(m:r.ok)(f:Dr r d)(p:h.length=5):pl.pg.call (n+1) 14 ([d,.list (h.map PyData.int)].map OD.fz)=some (.fz (.bool (zB r h)),[.fz d,.fz (.list (h.map PyData.int))]):=by
 have i:∀{w:Str}{c:List PyData},w≠(ac:Str)->w≠(am:Str)->pl.pg.call (n+1) 14 [.fz (.tuple (.str w::c)),.fz (.list (h.map PyData.int))]=some (.fz (.bool false),[.fz (.tuple (.str w::c)),.fz (.list (h.map PyData.int))]):=λ{w c} h1 h2=>ai (fn:=cj) (ρ:=[some (.fz (.tuple (.str w::c))),some (.fz (.list (h.map PyData.int)))]) rfl rfl (ak (ag (ll (ao (dx:=.str w) (dy:=.str ac) (aw rfl rfl rfl (ax az)) rfl rfl rfl (show some (decide (w=(ac:Str)))=some false by rw[Dab h1])) (jR (ao (dx:=.str w) (dy:=.str am) (aw rfl rfl rfl (ax az)) rfl rfl rfl (show some (decide (w=(am:Str)))=some false by rw[Dab h2])))) rfl)) rfl;cases r with
 |st x k=>
  have f:d=(R.st x k).d:=f.elim id λz=>by cases z.1
  subst f;exact i (by decide +kernel) (by decide +kernel)
 |ot w c j=>
  cases m with
  |sum a b l=>
   obtain rfl:d=(R.ot ga [a,b] j).d:=f.elim id λz=>by cases z.1
   exact i (by decide +kernel) (by decide +kernel)
  |less a b l=>
   obtain rfl:d=(R.ot hG [a,b] j).d:=f.elim id λz=>by cases z.1
   exact i (by decide +kernel) (by decide +kernel)
  |tell a l=>
   obtain rfl:d=(R.ot dL [a] j).d:=f.elim id λz=>by cases z.1
   exact i (by decide +kernel) (by decide +kernel)
  |stop=>
   obtain rfl:d=(R.ot ap [] j).d:=f.elim id λz=>by cases z.1
   exact i (by decide +kernel) (by decide +kernel)
  |go a=>
   have e:∀{c:List PyData},pl.pg.call (n+1) 14 [.fz (.tuple (.str ac::c)),.fz (.list (h.map PyData.int))]=some (.fz (.bool true),[.fz (.tuple (.str ac::c)),.fz (.list (h.map PyData.int))]):=λ{c}=>ai (fn:=cj) rfl rfl (ak (ag (oB (ao (dx:=.str ac) (dy:=.str ac) (aw rfl rfl rfl (ax az)) rfl rfl rfl rfl)) rfl)) rfl;rcases f with rfl|⟨_,o,g,rfl⟩
   ·exact e
   ·exact e
  |nil a b l=>
   have e:∀{c:List PyData},pl.pg.call (n+1) 14 [.fz (.tuple (.str am::.int a::c)),.fz (.list (h.map PyData.int))]=some (.fz (.bool (decide (h.getD a.toNat 0=0))),[.fz (.tuple (.str am::.int a::c)),.fz (.list (h.map PyData.int))]):=λ{c}=>ai (fn:=cj) (ρ:=[some (.fz (.tuple (.str am::.int a::c))),some (.fz (.list (h.map PyData.int)))]) rfl rfl (ak (ag (ll (ao (dx:=.str am) (dy:=.str ac) (aw rfl rfl rfl (ax az)) rfl rfl rfl rfl) (uH (ao (dx:=.str am) (dy:=.str am) (aw rfl rfl rfl (ax az)) rfl rfl rfl rfl) (ao (dx:=.int (h.getD a.toNat 0)) (dy:=.int 0) (aw rfl (aw rfl rfl rfl (ax (bL (k:=1) rfl))) rfl (aV (FO l.1 (by omega)))) rfl rfl rfl rfl))) rfl)) rfl;rcases f with rfl|⟨_,o,g,rfl⟩
   ·exact e
   ·exact e
theorem FQ(h:c ρ=some (true,ρ1))(a:b ρ1=some (.rt x,ρ2)):cC c b (n+1) ρ=some (.rt x,ρ2):=bs h (by rw[if_pos rfl];exact bs a rfl)
def nxA(r:R)(h:List Int)(a:Nat):Nat:=if zB r h=true then r.tg.toNat else a+1
abbrev kg(rs:List R)(a:Nat):Str:=if a=rs.length then lX else ci
def pr(rs:List R):Nat->List Int->List Int->List Nat->Nat->List Int×Str×List Nat
 |0,_,t,w,a=>(t,kg rs a,w)
 |m+1,h,t,w,a=>match rs[a]? with
  |none=>(t,kg rs a,w)
  |some r=>if r.wd=ap then (t,hL,w++[a]) else pr rs m (bA r h) (dX r h t) (w++[a]) (nxA r (bA r h) a)
abbrev tI(P:Nat->Nat)(w:List Nat):List Int:=w.map λa=>((P a:Nat):Int)
abbrev RT(P:Nat->Nat)(z:List Int×Str×List Nat):OD:=.fz (.tuple [.list (z.1.map PyData.int),.str z.2.1,.list ((tI P z.2.2).map PyData.int)])
abbrev Ll(P:Nat->Nat)(z:List Int×Str×List Nat):Option OD:=some (RT P z)
theorem pI:Il (tI P (w++[a]))=.lst ((tI P w).map It++[It (P a)]):=by have:tI P (w++[a])=tI P w++[((P a:Nat):Int)]:=aau;rw[this,bF]
theorem vz(h:ev C (.nm i) ρ=some (.rf i,ρ))(a:ρ[i]?.join=Ld xs):ev C (.blt .len (.cons (.nm i) .nil)) ρ=some (.val (It xs.length),ρ):=aG (aa h aj) (kS (by show (ρ[i]?.join).bind OD.dat=_;rw[a];exact aB xs)) ilen
theorem dH(h:ρ[j]?.join=some x)(b:x.dat=some d)(a:ρ.set j (some (.fz d))=ρ'):own1 ρ (.rf j)=some (.fz d,ρ'):=by show (frz1 ρ (.rf j)).map _=_;rw[bX h b a];rfl
theorem yw(d:own1 ρ (.rf i)=some (x,ρ1))(a:own1 ρ1 (.rf j)=some (z,ρ2)):mapR own1 ρ [.rf i,.val y,.rf j]=some ([x,y,z],ρ2):=by
 have b:mapR own1 ρ1 [.rf j]=some ([z],ρ2):=by show (own1 ρ1 (.rf j)).bind _=_;rw[a];rfl
 have c:mapR own1 ρ1 [.val y,.rf j]=some ([y,z],ρ2):=by show (mapR own1 ρ1 [.rf j]).map _=_;rw[b];rfl
 show (own1 ρ (.rf i)).bind _=_;rw[d];show (mapR own1 ρ1 [.val y,.rf j]).map _=_;rw[c];rfl
abbrev tE(rs:List R)(M:Nat)(h t:List Int)(w:List Nat)(a:Nat)(o6:Option OD):DEnv:=[Lc rs,KY M,Ld h,Ld t,Ld (tI id w),KY a,o6]
abbrev tW:Ss:=match F_told_plainly.body with|.cons _ (.cons _ (.cons _ (.cons _ s)))=>s|_=>.nil
abbrev tB:Ss:=match tW with|.cons (.whl _ b) _=>b|_=>.nil
abbrev tC:E:=.and eb8 eb9
theorem rl{r:R}(q:Nb rs)(s:Jb rs.length rs)(p:rs[a]?=some r)(m:h.length=5)(y:t.length<=5000)(H:w.length<=5000):(r.wd=ap->∃j,aD (Lm (n+2)) tB (tE rs M h t w a o6)=some (.rt (RT id (t,hL,w++[a])),j))/\(r.wd≠ap->aD (Lm (n+2)) tB (tE rs M h t w a o6)=some (.nx,tE rs M (bA r h) (dX r h t) (w++[a]) (nxA r (bA r h) a) (Lb r))):=by
 have g:=aaz p;have u:be (Lm (n+2)) ed1 (tE rs M h t w a o6)=some (.nx,tE rs M h t w a (Lb r)):=ae (aw rfl rfl rfl (aV (fv p))) rfl rfl rfl;have o:be (Lm (n+2)) (.app 4 (.nm 5)) (tE rs M h t w a (Lb r))=some (.nx,tE rs M h t (w++[a]) a (Lb r)):=by refine bx rfl rfl rfl rfl (by rw[aaa,aaa];omega) ?_;show _=[_,_,_,_,some (Il (tI id (w++[a]))),_,_];rw[pI];rfl
 have i:aP (Lm (n+2)) eco (tE rs M h t (w++[a]) a (Lb r))=some (decide (r.wd=ap),tE rs M h t (w++[a]) a (Lb r)):=ar (B8 rfl rfl);refine⟨λl=>?_,λl=>?_⟩
 ·rw[Dac l]at i;exact⟨_,ab u (ab o (ak (av i (ak (ag (bV (aa rfl (aa rfl (aa rfl aj))) rfl (yw (dH rfl (aB t) rfl) (dH rfl (aB _) rfl)) rfl) rfl)))))⟩
 ·rw[Dab l]at i;have d:=pH (n:=n+1) (q r g) (.inl rfl) m y;have e:=FP (n:=n+1) (h:=bA r h) (q r g) (.inl rfl) (by rw[gC];exact m);have A:(Lm (n+2)).call=pl.pg.call (n+2):=rfl;rw[<-A]at d e;have B:be (Lm (n+2)) ebn (tE rs M h t (w++[a]) a (Lb r))=some (.nx,tE rs M (bA r h) (dX r h t) (w++[a]) a (Lb r)):=y6 (af rfl rfl d rfl);have f:aP (Lm (n+2)) Jg (tE rs M (bA r h) (dX r h t) (w++[a]) a (Lb r))=some (zB r (bA r h),tE rs M (bA r h) (dX r h t) (w++[a]) a (Lb r)):=oz (oy rfl (nQ rfl (aB _)) e rfl);have C:be (Lm (n+2)) eau (tE rs M (bA r h) (dX r h t) (w++[a]) a (Lb r))=some (.nx,tE rs M (bA r h) (dX r h t) (w++[a]) (nxA r (bA r h) a) (Lb r)):=by
   unfold nxA;cases b:zB r (bA r h) with
   |true=>
    rw[b]at f;have c:r.jm=true:=by
     cases r with
     |st x k=>cases b
     |ot v J I=>
      have b:(decide (v=ac)||(decide (v=am)&&_))=true:=b;show (decide (v=ac)||decide (v=am))=true;rcases abP.mp b with z|z
      ·rw[z];rfl
      ·rw[(aa2.mp z).1,acj]
    have G:=s r g c;have D:((r.tg.toNat:Nat):Int)=r.tg:=by omega
    rw[if_pos rfl];refine ae (cD f (B9 rfl (s r g) c)) rfl rfl ?_;show [_,_,_,_,_,KY r.tg,_]=[_,_,_,_,_,KY ((r.tg.toNat:Nat):Int),_];rw[D]
   |false=>rw[b]at f;rw[if_neg aad];exact ae (bW f rfl) rfl rfl rfl
  exact ab u (ab o (ab (s_ifF i rfl) (ab B (ab C rfl))))
theorem m7(e:Jb rs.length rs)(d:rs[a]?=some r):nxA r h a<=rs.length:=by
 have f:=(aai.mp d).1;unfold nxA;split
 ·rename_i b;have c:r.jm=true:=by
   cases r with
   |st x k=>cases b
   |ot v g i=>
    have b:(decide (v=ac)||(decide (v=am)&&_))=true:=b;show (decide (v=ac)||decide (v=am))=true;rcases abP.mp b with z|z
    ·rw[z];rfl
    ·rw[(aa2.mp z).1,acj]
  have:=e r (aaz d) c;omega
 ·omega
theorem rm(J:Nb rs)(v:Jb rs.length rs)(O:M<=1000):∀{m:Nat}{h t:List Int}{w:List Nat}{a fuel:Nat}{o6:Option OD},h.length=5->a<=rs.length->w.length+m=M->t.length<=w.length->m<fuel->∃b,(∃ρ1 x,cC (aP (Lm (n+2)) tC) (aD (Lm (n+2)) tB) fuel (tE rs M h t w a o6)=some x/\(match x.1 with|.nx=>aD (Lm (n+2)) (match tW with|.cons _ s=>s|_=>.nil) x.2|fl=>some (fl,x.2))=some (.rt (RT id (pr rs m h t w a)),b)/\ρ1=x.2):=by
 have o:∀{h t:List Int}{w:List Nat}{a:Nat}{o6:Option OD},aP (Lm (n+2)) eb8 (tE rs M h t w a o6)=some (decide ((a:Int)<(rs.length:Int)),tE rs M h t w a o6):=gj rfl (aG rfl rfl blen);have u:∀{h t:List Int}{w:List Nat}{a:Nat}{o6:Option OD},aP (Lm (n+2)) eb9 (tE rs M h t w a o6)=some (decide (((tI id w).length:Int)<(M:Int)),tE rs M h t w a o6):=gj (vz rfl rfl) rfl;have g:∀{h t:List Int}{w:List Nat}{a fuel:Nat}{o6:Option OD},(a=rs.length\/w.length=M)->0<fuel->∃b,(∃ρ1 x,cC (aP (Lm (n+2)) tC) (aD (Lm (n+2)) tB) fuel (tE rs M h t w a o6)=some x/\(match x.1 with|.nx=>aD (Lm (n+2)) (match tW with|.cons _ s=>s|_=>.nil) x.2|fl=>some (fl,x.2))=some (.rt (RT id (t,kg rs a,w)),b)/\ρ1=x.2):=by
  intro h t w a fuel o6 Q l;have i:aP (Lm (n+2)) tC (tE rs M h t w a o6)=some (false,tE rs M h t w a o6):=by
   by_cases c:(a:Int)<(rs.length:Int)
   ·exact cv (rT o c) (rF u (by rw[aaa];omega))
   ·exact fU (rF o c)
  have H:ev (Lm (n+2)) ebb (tE rs M h t w a o6)=some (.val (.fz (.str (kg rs a))),tE rs M h t w a o6):=by
   have q:aP (Lm (n+2)) eca (tE rs M h t w a o6)=some (decide ((a:Int)=(rs.length:Int)),tE rs M h t w a o6):=dG rfl (aG rfl rfl blen);by_cases c:a=rs.length
   ·rw[show kg rs a=lX from if_pos c];exact cD (rT q (by omega)) rfl
   ·rw[show kg rs a=ci from if_neg c];exact bW (rF q (by omega)) rfl
  exact⟨_,_,_,rk i l,ak (ag (bV (aa rfl (aa H (aa rfl aj))) rfl (yw (dH rfl (aB t) rfl) (dH rfl (aB _) rfl)) rfl) rfl),rfl⟩
 intro m;induction m with
 |zero=>intro h t w a fuel o6 p c A z l;exact g (.inr (by omega)) l
 |succ m I=>
  intro h t w a fuel o6 p c A z l;cases d:rs[a]? with
  |none=>
   have:rs.length<=a:=abg.mp d;have e:pr rs (m+1) h t w a=(t,kg rs a,w):=by rw[pr,d]
   rw[e];exact g (.inl (by omega)) (by omega)
  |some r=>
   have C:=(aai.mp d).1;have i:aP (Lm (n+2)) tC (tE rs M h t w a o6)=some (true,tE rs M h t w a o6):=cv (rT o (by omega)) (rT u (by rw[aaa];omega));obtain⟨G,L⟩:=rl J v d p (t:=t) (by omega) (w:=w) (by omega);obtain⟨fuel,rfl⟩:∃f,fuel=f+1:=⟨fuel-1,by omega⟩
   by_cases j:r.wd=ap
   ·obtain⟨b,k⟩:=G j;have e:pr rs (m+1) h t w a=(t,(hL:Str),w++[a]):=by rw[pr,d];exact if_pos j
    rw[e];exact⟨b,_,_,FQ i k,rfl,rfl⟩
   ·have e:pr rs (m+1) h t w a=pr rs m (bA r h) (dX r h t) (w++[a]) (nxA r (bA r h) a):=by rw[pr,d];exact if_neg j
    rw[e];have N:=pF (r:=r) (h:=h) (t:=t);obtain⟨b,ρ1,x,D,B,y⟩:=I (h:=bA r h) (t:=dX r h t) (w:=w++[a]) (fuel:=fuel) (by rw[gC];exact p) (m7 v d) (by rw[aaf,aaI];omega) (by rw[aaf,aaI];omega) (by omega);exact⟨b,ρ1,x,yo i (L j) D,B,y⟩
abbrev h5:List Int:=[0,0,0,0,0]
theorem CG{n M:Nat}(f:Nb rs)(c:Jb rs.length rs)(d:M<=1000):pl.pg.call (n+3) 15 [Rl rs,It M]=some (RT id (pr rs M h5 [] [] 0),[Rl rs,It M]):=by obtain⟨a,e,x,b,g,_⟩:=rm f c d (h:=h5) (t:=[]) (w:=[]) (fuel:=100000) rfl (aaB _) (aaV _) (aag _) (by omega);refine ai (ρ:=a) rfl rfl ?_ rfl;refine ab (ae rfl rfl rfl rfl) (ab (ae rfl rfl rfl rfl) (ab (ae rfl rfl rfl rfl) (ab (ae rfl rfl rfl rfl) ?_)));exact bs (show be _ (.whl tC tB) _=_ from b) g
structure Mrow (cs:List Int)(P:Nat->Nat)(a:Nat)(r:R)(d:PyData)(q:Nat):Prop where
 dr:Dr r d
 lt:P a<cs.length
 jm:r.jm=true->∃ys l,d=.tuple (ys++[.int (P r.tg.toNat),.bool l])
 at':∀n,pl.pg.call (n+5) 18 [Dl cs,It (P a)]=some (sV d q,[Dl cs,It (P a)])
 nx:r.wd≠ac->r.wd≠ap->∀n,pl.pg.call (n+4) 17 [Dl cs,It q]=some (It (P (a+1)),[Dl cs,It q])
structure Mh (cs:List Int)(rs:List R)(P:Nat->Nat):Prop where
 row:∀a r,rs[a]?=some r->∃d q,Mrow cs P a r d q
 fin:P rs.length=cs.length
 nov:∀a,a<=rs.length->∀n,pl.pg.call (n+4) 17 [Dl cs,It (P a)]=some (It (P a),[Dl cs,It (P a)])
 beg:∀n,pl.pg.call (n+4) 17 [Dl cs,It 0]=some (It (P 0),[Dl cs,It 0])
theorem Dr.nm{r:R}{d:PyData}(h:Dr r d):∃xs,d=.tuple (.str r.wd::xs):=by
 rcases h with rfl|⟨e,f,g,rfl⟩
 ·exact⟨_,R.ua r⟩
 ·cases r with
  |st x k=>cases e
  |ot w xs i=>
   show ∃c,(if w=_ then _ else if w=_ then _ else _)=PyData.tuple (.str w::c);by_cases b:w=ac
   ·rw[if_pos b,b];exact⟨_,rfl⟩
   ·rw[if_neg b];by_cases a:w=am
    ·rw[if_pos a,a];exact⟨_,rfl⟩
    ·rw[if_neg a];exact⟨_,rfl⟩
theorem jn_jm{r:R}{h:List Int}(a:zB r h=true):r.jm=true:=by
 cases r with
 |st x k=>cases a
 |ot v b c=>
  have a:(decide (v=ac)||(decide (v=am)&&_))=true:=a;show (decide (v=ac)||decide (v=am))=true;rcases abP.mp a with z|z
  ·rw[z];rfl
  ·rw[(aa2.mp z).1,acj]
theorem FR{r:R}{h:List Int}(a:zB r h=false):r.wd≠ac:=by
 cases r with
 |st x k=>exact(by decide +kernel:(bm:Str)≠ac)
 |ot v b c=>
  have a:(decide (v=ac)||(decide (v=am)&&_))=false:=a;exact λz=>by have z:v=ac:=z;rw[Dac z]at a;cases a
theorem rn{a:Type}{xs:List a}{x y:a}:atI (xs++[x,y]) (-2)=some x:=by
 have e:ixN (xs++[x,y]).length (-2)=some xs.length:=by unfold ixN;rw[aaf,show [x,y].length=2 from rfl,if_neg (by omega),if_pos (by omega)];congr 1;omega
 exact bs e (by rw[aaS (aag _),abf];rfl)
section
variable{n M:Nat}{cs:List Int}{rs:List R}{P:Nat->Nat}
def Ig(cs:List Int)(rs:List R)(P:Nat->Nat)(a:Nat)(fo:OD):Prop:=(a=rs.length/\fo=.fz .none)\/∃r d q,rs[a]?=some r/\Mrow cs P a r d q/\fo=sV d q
theorem Mh.fnd(m:Mh cs rs P){a:Nat}(e:a<=rs.length):∃c,Ig cs rs P a c/\∀n,pl.pg.call (n+5) 18 [Dl cs,It (P a)]=some (c,[Dl cs,It (P a)]):=by
 cases b:rs[a]? with
 |none=>
  have:a=rs.length:=by have:=abg.mp b;omega
  subst this;exact⟨_,.inl ⟨rfl,rfl⟩,λn=>by rw[m.fin];exact CB⟩
 |some r=>obtain⟨d,q,k⟩:=m.row a r b;exact⟨_,.inr ⟨r,d,q,b,k,rfl⟩,k.at'⟩
abbrev uE(cs:List Int)(P:Nat->Nat)(M:Nat)(h t:List Int)(w:List Nat)(a:Nat)(fo:OD)(o7 o8:Option OD):DEnv:=[Lh cs,KY M,Ld h,Ld t,Ld (tI P w),KY (P a),some fo,o7,o8]
abbrev uW:Ss:=match F_run.body with|.cons _ (.cons _ (.cons _ (.cons _ (.cons _ s))))=>s|_=>.nil
abbrev uB:Ss:=match uW with|.cons (.whl _ b) _=>b|_=>.nil
abbrev uC:E:=.and (.isn true (.nm 6)) eb9
abbrev KN(C:Ct):Prop:=True
theorem vA{h t:List Int}{w:List Nat}{a:Nat}{r:R}{d:PyData}{q:Nat}{o7 o8:Option OD}(m:Mh cs rs P)(C:Nb rs)(S:Jb rs.length rs)(O:rs[a]?=some r)(k:Mrow cs P a r d q)(A:h.length=5)(G:t.length<=5000)(U:w.length<=5000):(r.wd=ap->∃v,aD (Lm (n+5)) uB (uE cs P M h t w a (sV d q) o7 o8)=some (.rt (RT P (t,hL,w++[a])),v))/\(r.wd≠ap->∀c,(∀n,pl.pg.call (n+5) 18 [Dl cs,It (P (nxA r (bA r h) a))]=some (c,[Dl cs,It (P (nxA r (bA r h) a))]))->own1 (uE cs P M (bA r h) (dX r h t) (w++[a]) (nxA r (bA r h) a) (sV d q) (some (.fz d)) (KY q)) (.val c)=some (c,uE cs P M (bA r h) (dX r h t) (w++[a]) (nxA r (bA r h) a) (sV d q) (some (.fz d)) (KY q))->aD (Lm (n+5)) uB (uE cs P M h t w a (sV d q) o7 o8)=some (.nx,uE cs P M (bA r h) (dX r h t) (w++[a]) (nxA r (bA r h) a) c (some (.fz d)) (KY q))):=by
 have y:=aaz O;obtain⟨xs,N⟩:=k.dr.nm;have D:be (Lm (n+5)) eek (uE cs P M h t w a (sV d q) o7 o8)=some (.nx,uE cs P M h t w a (sV d q) (some (.fz d)) (KY q)):=s_asgQ rfl rfl rfl;have B:be (Lm (n+5)) (.app 4 (.nm 5)) (uE cs P M h t w a (sV d q) (some (.fz d)) (KY q))=some (.nx,uE cs P M h t (w++[a]) a (sV d q) (some (.fz d)) (KY q)):=by refine bx (xs:=(tI P w).map It) (ρ1:=uE cs P M h t w a (sV d q) (some (.fz d)) (KY q)) (ρ2:=uE cs P M h t w a (sV d q) (some (.fz d)) (KY q)) rfl rfl rfl rfl (by rw[aaa,aaa];omega) ?_;show _=[_,_,_,_,some (Il (tI P (w++[a]))),_,_,_,_];rw[pI];rfl
 have s:aP (Lm (n+5)) ecp (uE cs P M h t (w++[a]) a (sV d q) (some (.fz d)) (KY q))=some (decide (r.wd=ap),uE cs P M h t (w++[a]) a (sV d q) (some (.fz d)) (KY q)):=ar (ao (dx:=.str r.wd) (dy:=.str ap) (aw (x:=.val (.fz d)) rfl rfl rfl (by rw[N];exact ax az)) rfl rfl rfl rfl);refine⟨λp=>?_,λp c Q H=>?_⟩
 ·rw[Dac p]at s;exact⟨_,ab D (ab B (ak (av s (ak (ag (z:=RT P (t,hL,w++[a])) (bV (zs:=[.fz (.list (t.map PyData.int)),.fz (.str hL),.fz (.list ((tI P (w++[a])).map PyData.int))]) (ρ2:=[Lh cs,KY M,Ld h,some (.fz (.list (t.map PyData.int))),some (.fz (.list ((tI P (w++[a])).map PyData.int))),KY (P a),some (sV d q),some (.fz d),KY q]) (aa (x:=.rf 3) rfl (aa rfl (aa (x:=.rf 4) rfl aj))) rfl (yw (dH rfl (aB t) rfl) (dH rfl (aB _) rfl)) rfl) rfl)))))⟩
 ·rw[Dab p]at s;have g:=pH (n:=n+4) (C r y) k.dr A G;have i:=FP (n:=n+4) (h:=bA r h) (C r y) k.dr (by rw[gC];exact A);have e:=Q n;have u:(Lm (n+5)).call=pl.pg.call (n+5):=rfl;rw[<-u]at g i e;have J:be (Lm (n+5)) ebo (uE cs P M h t (w++[a]) a (sV d q) (some (.fz d)) (KY q))=some (.nx,uE cs P M (bA r h) (dX r h t) (w++[a]) a (sV d q) (some (.fz d)) (KY q)):=y6 (af (rs:=[.val (.fz d),.rf 2,.rf 3]) (ρ3:=uE cs P M (bA r h) (dX r h t) (w++[a]) a (sV d q) (some (.fz d)) (KY q)) rfl rfl g rfl);have j:aP (Lm (n+5)) Jf (uE cs P M (bA r h) (dX r h t) (w++[a]) a (sV d q) (some (.fz d)) (KY q))=some (zB r (bA r h),uE cs P M (bA r h) (dX r h t) (w++[a]) a (sV d q) (some (.fz d)) (KY q)):=oz (oy (rs:=[.val (.fz d),.rf 2]) rfl (nQ rfl (aB _)) i rfl);have T:be (Lm (n+5)) ean (uE cs P M (bA r h) (dX r h t) (w++[a]) a (sV d q) (some (.fz d)) (KY q))=some (.nx,uE cs P M (bA r h) (dX r h t) (w++[a]) (nxA r (bA r h) a) (sV d q) (some (.fz d)) (KY q)):=by
   unfold nxA;cases o:zB r (bA r h) with
   |true=>rw[o]at j;have f:=jn_jm o;have X:=S r y f;obtain⟨Y,l,I⟩:=k.jm f;have b:=m.nov r.tg.toNat (by omega) (n+1);rw[show n+1+4=n+5 from rfl,<-u]at b;rw[if_pos rfl];exact ae (af (ρ1:=uE cs P M (bA r h) (dX r h t) (w++[a]) a (sV d q) (some (.fz d)) (KY q)) (rs:=[.val (Dl cs),.val (It (P r.tg.toNat))]) (ρ3:=uE cs P M (bA r h) (dX r h t) (w++[a]) a (sV d q) (some (.fz d)) (KY q)) (aa rfl (aa (cD j (aw (x:=.val (.fz d)) rfl rfl rfl (by rw[I];exact ax rn))) aj)) rfl b rfl) rfl rfl rfl
   |false=>rw[o]at j;have b:=k.nx (FR o) p (n+1);rw[show n+1+4=n+5 from rfl,<-u]at b;rw[if_neg aad];exact ae (af (ρ1:=uE cs P M (bA r h) (dX r h t) (w++[a]) a (sV d q) (some (.fz d)) (KY q)) (rs:=[.val (Dl cs),.val (It q)]) (ρ3:=uE cs P M (bA r h) (dX r h t) (w++[a]) a (sV d q) (some (.fz d)) (KY q)) (aa rfl (aa (bW j rfl) aj)) rfl b rfl) rfl rfl rfl
  have L:be (Lm (n+5)) ebx (uE cs P M (bA r h) (dX r h t) (w++[a]) (nxA r (bA r h) a) (sV d q) (some (.fz d)) (KY q))=some (.nx,uE cs P M (bA r h) (dX r h t) (w++[a]) (nxA r (bA r h) a) c (some (.fz d)) (KY q)):=ae (af (ρ3:=uE cs P M (bA r h) (dX r h t) (w++[a]) (nxA r (bA r h) a) (sV d q) (some (.fz d)) (KY q)) rfl rfl e rfl) H rfl rfl;exact ab D (ab B (ab (s_ifF s rfl) (ab J (ab T (ab L rfl)))))
end
section
variable{n M:Nat}{cs:List Int}{rs:List R}{P:Nat->Nat}
theorem vB(K:Mh cs rs P)(U:Nb rs)(D:Jb rs.length rs)(hM:M<=1000):∀{m:Nat}{h t:List Int}{w:List Nat}{a fuel:Nat}{b:OD}{o7 o8:Option OD},Ig cs rs P a b->h.length=5->a<=rs.length->w.length+m=M->t.length<=w.length->m<fuel->∃c,(∃x,cC (aP (Lm (n+5)) uC) (aD (Lm (n+5)) uB) fuel (uE cs P M h t w a b o7 o8)=some x/\(match x.1 with|.nx=>aD (Lm (n+5)) (match uW with|.cons _ s=>s|_=>.nil) x.2|fl=>some (fl,x.2))=some (.rt (RT P (pr rs m h t w a)),c)):=by
 have C:∀{h t:List Int}{w:List Nat}{a:Nat}{b:OD}{o7 o8:Option OD},aP (Lm (n+5)) eb9 (uE cs P M h t w a b o7 o8)=some (decide (((tI P w).length:Int)<(M:Int)),uE cs P M h t w a b o7 o8):=gj (vz rfl rfl) rfl;have o:∀{h t:List Int}{w:List Nat}{a fuel:Nat}{b:OD}{o7 o8:Option OD},Ig cs rs P a b->(a=rs.length\/w.length=M)->0<fuel->∃c,(∃x,cC (aP (Lm (n+5)) uC) (aD (Lm (n+5)) uB) fuel (uE cs P M h t w a b o7 o8)=some x/\(match x.1 with|.nx=>aD (Lm (n+5)) (match uW with|.cons _ s=>s|_=>.nil) x.2|fl=>some (fl,x.2))=some (.rt (RT P (t,kg rs a,w)),c)):=by
  intro h t w a fuel b o7 o8 i hc l;have B:aP (Lm (n+5)) eca (uE cs P M h t w a b o7 o8)=some (decide ((P a:Int)=(cs.length:Int)),uE cs P M h t w a b o7 o8):=dG rfl (aG rfl rfl blen);have j:∀{e:E}{z:Str},ev (Lm (n+5)) e (uE cs P M h t w a b o7 o8)=some (.val (.fz (.str z)),uE cs P M h t w a b o7 o8)->be (Lm (n+5)) (.ret (.tup (.cons (.nm 3) (.cons e efa)))) (uE cs P M h t w a b o7 o8)=some (.rt (RT P (t,z,w)),[Lh cs,KY M,Ld h,some (.fz (.list (t.map PyData.int))),some (.fz (.list ((tI P w).map PyData.int))),KY (P a),some b,o7,o8]):=λ{e z} he=>ag (bV (aa rfl (aa he (aa rfl aj))) rfl (yw (dH rfl (aB t) rfl) (dH rfl (aB _) rfl)) rfl) rfl;rcases i with ⟨rfl,rfl⟩|⟨r,d,q,g,k,rfl⟩
  ·rw[show kg rs rs.length=lX from if_pos rfl];exact⟨_,_,rk (fU rfl) l,ak (av (rT B (by rw[K.fin])) (ak (j rfl)))⟩
  ·have J:=(aai.mp g).1;have S:=k.lt;rw[show kg rs a=ci from if_neg (by omega)];exact⟨_,_,rk (cv rfl (rF C (by rw[aaa];omega))) l,ab (s_ifF (rF B (by omega)) rfl) (ak (j (bW rfl rfl)))⟩
 intro m;induction m with
 |zero=>intro h t w a fuel b o7 o8 i u L H G l;exact o i (.inr (by omega)) l
 |succ m T=>
  intro h t w a fuel b o7 o8 i u L H G l;rcases id i with ⟨ea,_⟩|⟨r,d,q,g,k,rfl⟩
  ·have e:pr rs (m+1) h t w a=(t,kg rs a,w):=by rw[pr,abe (by omega)]
   rw[e];exact o i (.inl ea) (by omega)
  ·have y:aP (Lm (n+5)) uC (uE cs P M h t w a (sV d q) o7 o8)=some (true,uE cs P M h t w a (sV d q) o7 o8):=cv rfl (rT C (by rw[aaa];omega));obtain⟨Q,X⟩:=vA K U D g k u (t:=t) (by omega) (w:=w) (by omega);obtain⟨fuel,rfl⟩:∃f,fuel=f+1:=⟨fuel-1,by omega⟩
   by_cases p:r.wd=ap
   ·obtain⟨c,k⟩:=Q p;have e:pr rs (m+1) h t w a=(t,(hL:Str),w++[a]):=by rw[pr,g];exact if_pos p
    rw[e];exact⟨c,_,FQ y k,rfl⟩
   ·have e:pr rs (m+1) h t w a=pr rs m (bA r h) (dX r h t) (w++[a]) (nxA r (bA r h) a):=by rw[pr,g];exact if_neg p
    rw[e];have Y:=pF (r:=r) (h:=h) (t:=t);have A:=m7 (h:=bA r h) D g;obtain⟨v,N,Z⟩:=K.fnd A;obtain⟨c,x,O,I⟩:=T (h:=bA r h) (t:=dX r h t) (w:=w++[a]) (fuel:=fuel) N (by rw[gC];exact u) A (by rw[aaf,aaI];omega) (by rw[aaf,aaI];omega) (by omega);exact⟨c,x,yo y (X p v Z rfl) O,I⟩
theorem zC(K:Mh cs rs P)(k:Nb rs)(g:Jb rs.length rs)(i:M<=1000):pl.pg.call (n+6) 19 [Dl cs,It M]=some (RT P (pr rs M h5 [] [] 0),[Dl cs,It M]):=by obtain⟨m,f,j⟩:=K.fnd (aaB _);obtain⟨c,x,e,l⟩:=vB K k g i (h:=h5) (t:=[]) (w:=[]) (fuel:=100000) f rfl (aaB _) (aaV _) (aag _) (by omega);have b:=K.beg (n+1);have a:=j n;have d:(Lm (n+5)).call=pl.pg.call (n+5):=rfl;rw[show n+1+4=n+5 from rfl,<-d]at b;rw[<-d]at a;refine ai (ρ:=c) rfl rfl ?_ rfl;refine ab (ae rfl rfl rfl rfl) (ab (ae rfl rfl rfl rfl) (ab (ae rfl rfl rfl rfl) (ab (ae (af rfl rfl b rfl) rfl rfl rfl) (ab (ae (af rfl rfl a rfl) rfl rfl rfl) ?_))));exact bs (show be _ (.whl uC uB) _=_ from e) l
end
theorem m8(hk:k<f.rows.length):(fin f qs).ps[k]?=some (inner f qs k (mac f qs k)).pl:=by
 obtain⟨m,a⟩:∃m,f.rows.length=k+1+m:=⟨f.rows.length-(k+1),by omega⟩
 have b:(fin f qs).ps[k]?=(mac f qs (k+1)).ps[k]?:=by show (inner f qs f.rows.length (mac f qs f.rows.length)).ps[k]?=_;rw[bO,a];exact oN (abm k)
 rw[b];show ((inner f qs k (mac f qs k)).ps++[(inner f qs k (mac f qs k)).pl])[k]?=_;have c:(inner f qs k (mac f qs k)).ps.length=k:=by rw[bO,dS]
 rw[aaS (by omega),c,abf];rfl
theorem kb:∀{qs:Pz}{L:List Int},∃T,cK f k qs L=L++T
 |[],L=>⟨[],(aan _).symm⟩
 |q::qs,L=>by
  show ∃T,cK f k qs (if q.1=(k:Int) then L++poolC f.rows k q.2 L.length else L)=L++T;split
  ·obtain⟨T,e⟩:=kb;exact⟨_,by rw[e,aac]⟩
  ·exact kb
section
variable{f:Cf}{qs:Pz}{us:List Int}
abbrev Pp(f:Cf)(qs:Pz)(us:List Int)(k:Nat):Nat:=(cK f k qs (CC f qs us k)).length
theorem kc:∀{m k:Nat},k+m=f.rows.length->(∃T,AC f qs us=cK f k qs (CC f qs us k)++T)/\(∃T,AC f qs us=CC f qs us k++T)
 |0,k,h=>by have h:k=f.rows.length:=h;subst h;exact⟨⟨[],(aan _).symm⟩,kb⟩
 |m+1,k,h=>by
  obtain⟨_,T,e⟩:=kc (m:=m) (k:=k+1) (by omega);have d:∃T,AC f qs us=cK f k qs (CC f qs us k)++T:=⟨_,by rw[e];exact aac _ _ _⟩
  obtain⟨b,a⟩:=d;obtain⟨g,c⟩:=kb;exact⟨⟨b,a⟩,_,by rw[a,c,aac]⟩
theorem vC(F:Fok f)(hk:k<=f.rows.length):((Pp f qs us k:Nat):Int)=(inner f qs k (mac f qs k)).pl:=m3 (m4 F hk)
theorem CH(F:Fok f){t:Int}(a:0<=t)(b:t<=f.rows.length):dF (fin f qs) t=((Pp f qs us t.toNat:Nat):Int):=by
 rw[vC F (by omega)];unfold dF;rw[aaP];by_cases h:t.toNat<f.rows.length
 ·rw[aaX (by rw[fF];exact h),m8 h];rfl
 ·have e:t.toNat=f.rows.length:=by omega
  rw[e,aaS (by rw[fF];exact aag _),fF,abf];rfl
theorem CI{k:Nat}(F:Fok f)(h:gm f qs 499=[])(a:f.rows[k]?=some r)(g:r.jm=true)(hk:(k:Int) ∉ f.longs):-(farN r 499)<=dF (fin f qs) r.tg-((Pp f qs us k:Nat):Int)/\dF (fin f qs) r.tg-((Pp f qs us k:Nat):Int)<=farN r 499:=by
 have c:=(aai.mp a).1;have b:=List.filter_eq_nil_iff.mp h (k:Int) (aa4.mpr ⟨vh a g,by rw[Dab hk];rfl⟩);have e:tq f (fin f qs) 499 (k:Int)=decide (farN r 499<if gol (fin f qs) r k<0 then -(gol (fin f qs) r k) else gol (fin f qs) r k):=by unfold tq;rw[aaT,a];rfl
 rw[e,decide_eq_true_eq]at b;have d:gol (fin f qs) r k=dF (fin f qs) r.tg-((Pp f qs us k:Nat):Int):=by unfold gol;rw[vC F (aaR c),aaP (l:=(fin f qs).ps),m8 c];rfl
 rw[d]at b;split at b<;>omega
theorem lL(F:Fok f)(Q:Qok f qs)(U:Uok f qs us)(O:(AC f qs us).length<=900000)(J:f.rows[k]?=some (.st x y))(N:99<y):∃(b i q:Nat) (w:List Int),gdat f qs us k (.st x y)=.tuple [.int b,.int i]/\1<=b/\i<=99/\w[i]?=some y/\Sx (AC f qs us) (b-1) (.tuple [.str em,.tuple (w.map PyData.int)]) q:=by
 have g:(R.st x y).gr=true:=Dac N;have H:=gIx_at J g;have A:j9 f k<us.length:=by rw[U.ln];exact(aai.mp H).1
 obtain⟨u,C⟩:∃u,us[j9 f k]?=some u:=⟨_,aak A⟩
 have S:((k:Int),u)∈(gIx 0 f.rows).zip us:=aaz (by rw[abK];exact⟨H,C⟩);have Z:=U.bd u (aaz C);have o:=Daa (U.mm _ S);obtain⟨⟨M,w⟩,d⟩:∃q,qs[u.toNat]?=some q:=⟨_,aak (by omega)⟩
 have c:=aaz d;have L:oQ f (k:Int)=y:=by show ((f.rows[(k:Int).toNat]?).map R.num).getD 0=_;rw[aaT,J];rfl
 have o:y∈w:=by rw[d]at o;rw[<-L];exact o
 obtain⟨j,X⟩:∃j:Nat,M=j:=⟨M.toNat,by have:=(Q.ok _ c).g0;simp only at this;omega⟩
 subst X;have h:j<=f.rows.length:=by have:=(Q.ok _ c).g1;simp only at this;omega
 have a:qs=qs.take u.toNat++((j:Int),w)::qs.drop (u.toNat+1):=by obtain⟨t,e⟩:=aai.mp d;rw[<-e,List.getElem_cons_drop t,ach]
 have z:(qs.take u.toNat).length=u.toNat:=by rw[aaW];omega
 have l:(mac f qs j).pl=((CC f qs us j).length:Int):=(m4 F h).symm;obtain⟨i,I⟩:∃i,w.findIdx? (λm=>decide (m=y))=some i:=by
  cases e:w.findIdx? λm=>decide (m=y) with
  |some i=>exact⟨i,rfl⟩
  |none=>exact absurd (Dac rfl) (by have:=acy.mp e y o;rw[this];decide)
 obtain⟨v,r,_⟩:=acx.mp I;have G:w[i]?=some y:=by rw[aak v,Daa r]
 have s:w.length<=100:=(Q.ok _ c).l1;have T:=(kc (f:=f) (qs:=qs) (us:=us) (m:=f.rows.length-j) (k:=j) (by omega)).1;have n:=FF (λq d=>(Q.ok q (acs d)).g0) h (a▸Q.inc);rw[z,<-a,l]at n;obtain⟨b,⟨p,_⟩,B,D,_⟩:=pv (a▸Q) O (by rw[<-a];exact T);refine⟨b,i,_,w,?_,B,by omega,G,D⟩;have e:gdat f qs us k (.st x y)=jh f qs (k,us.getD (j9 f k) 0):=if_pos g;rw[e,aaP,C];show PyData.tuple [.int ((fin f qs).bs.getD u.toNat 0),.int (CP qs u (oQ f k))]=_;have Y:CP qs u (oQ f k)=(i:Int):=by unfold CP;rw[d,L];show (((w.findIdx? λm=>decide (m=y)).getD 0:Nat):Int)=_;rw[I];rfl
 rw[n,Y,p]
end
section
variable{f:Cf}{qs:Pz}{us:List Int}
theorem rth_nm(b:r.ok)(c:r.gr=false):∃xs,rth r lg g=.tuple (.str r.wd::xs)/\r.wd≠"pad"/\r.wd≠em/\r.wd≠gl/\r.wd≠lf:=by
 cases r with
 |st x k=>have h:¬ 99<k:=Dad c;show ∃a,rth (R.st x k) lg g=.tuple (.str bm::a)/\(bm:Str)≠"pad"/\(bm:Str)≠em/\(bm:Str)≠gl/\(bm:Str)≠lf;exact⟨[.int x,.int k],if_neg h,by decide +kernel,by decide +kernel,by decide +kernel,by decide +kernel⟩
 |ot w xs d=>show ∃a,rth (R.ot w xs d) lg g=.tuple (.str w::a)/\w≠"pad"/\w≠em/\w≠gl/\w≠lf;cases b<;>exact⟨_,rfl,by decide +kernel,by decide +kernel,by decide +kernel,by decide +kernel⟩
theorem row_sx(F:Fok f)(Q:Qok f qs)(U:Uok f qs us)(v:(AC f qs us).length<=900000)(u:gm f qs 499=[])(a:f.rows[k]?=some r):Sx (AC f qs us) (Pp f qs us k) (rth r (decide ((k:Int)∈f.longs)) (gdat f qs us k r)) (CC f qs us (k+1)).length/\Pp f qs us k<(AC f qs us).length:=by
 have B:k<f.rows.length:=(aai.mp a).1;have t:=F.ok r (aaz a);obtain⟨T,d⟩:=(kc (f:=f) (m:=f.rows.length-(k+1)) (k:=k+1) (by omega)).2;have l:CC f qs us (k+1)=cK f k qs (CC f qs us k)++b9 r (cK f k qs (CC f qs us k)).length (decide ((k:Int)∈f.longs)) (gdat f qs us k r):=by show _++(f.rows[k]?).elim [] _=_;rw[a];rfl
 have n:=lH (p:=(cK f k qs (CC f qs us k)).length) (g:=gdat f qs us k r) t (F.jm a);rw[l]at d ⊢;rw[aac]at d;have o:=congrArg List.length d;rw[aaf,aaf]at o;rw[aaf];refine⟨Cz t (λc=>?_) (λj h=>?_) λi x s=>ji d (by rw[aaX (aai.mp s).1];exact s),?_⟩
 ·cases r with
  |st x y=>obtain⟨b,i,q,w,e,_,A,_⟩:=lL F Q U v a (Daa c);rw[e];show 0<=(i:Int)/\(i:Int)<=99;omega
  |ot _ _ _=>cases c
 ·have c:¬ r.gr=true:=λz=>by cases r with|st _ _=>cases j|ot _ _ _=>cases z
  have e:gdat f qs us k r=.int (dF (fin f qs) r.tg):=by unfold gdat;rw[if_neg c,if_pos j]
  rw[e];exact CI F u a j (Dad h)
 ·have:1<=(b9 r (cK f k qs (CC f qs us k)).length (decide ((k:Int)∈f.longs)) (gdat f qs us k r)).length:=by rw[n];split<;>omega
  show (cK f k qs (CC f qs us k)).length<_;omega
theorem nov_P(F:Fok f)(Q:Qok f qs)(U:Uok f qs us)(j:(AC f qs us).length<=900000)(g:gm f qs 499=[])(hk:k<=f.rows.length):FM (AC f qs us) (Pp f qs us k):=by
 by_cases h:k=f.rows.length
 ·subst h;exact .inl rfl
 ·obtain⟨r,c⟩:∃r,f.rows[k]?=some r:=⟨_,aak (by omega)⟩
  have i:=F.ok r (aaz c);have a:=(row_sx F Q U j g c).1;cases b:r.gr with
  |false=>obtain⟨l,e,_,_,_,d⟩:=rth_nm i b;rw[e]at a;exact .inr ⟨_,_,_,d,a⟩
  |true=>
   cases r with
   |st x y=>have e:rth (R.st x y) (decide ((k:Int)∈f.longs)) (gdat f qs us k (.st x y))=.tuple (.str gl::[.int x,.int (zp (gdat f qs us k (.st x y))),.int (vc (gdat f qs us k (.st x y)))]):=if_pos (Daa b);rw[e]at a;exact .inr ⟨_,_,_,by decide +kernel,a⟩
   |ot _ _ _=>cases b
theorem FS(F:Fok f)(Q:Qok f qs)(U:Uok f qs us)(g:(AC f qs us).length<=900000)(j:gm f qs 499=[])(hk:k<=f.rows.length)(o:mV f.rows k=true):pl.pg.call (n+4) 17 [Dl (AC f qs us),It (CC f qs us k).length]=some (It (Pp f qs us k),[Dl (AC f qs us),It (CC f qs us k).length]):=by
 have d:=nov_P F Q U g j hk;by_cases h:∃q∈qs,q.1=(k:Int)
 ·obtain⟨⟨r,w⟩,p,e⟩:=h;have e:r=(k:Int):=e;subst e;obtain⟨u,t,a⟩:=abL p;obtain⟨b,⟨_,c⟩,_,_,s⟩:=pv (a▸Q) g (by rw[<-a];exact(kc (m:=f.rows.length-k) (by omega)).1);rw[<-a]at c;have i:=s o;rw[c]at i;exact yv i d
 ·have e:cK f k qs (CC f qs us k)=CC f qs us k:=lI λq l e=>h ⟨q,l,e⟩;have d:FM (AC f qs us) (cK f k qs (CC f qs us k)).length:=d;show _=some (It ((cK f k qs (CC f qs us k)).length:Nat),_);rw[e]at d ⊢;exact pw d
theorem mh_AC(F:Fok f)(Q:Qok f qs)(U:Uok f qs us)(h:(AC f qs us).length<=900000)(m:gm f qs 499=[]):Mh (AC f qs us) f.rows (Pp f qs us) where
 fin:=rfl
 nov:=λa v n=>pw (nov_P F Q U h m v)
 beg:=λn=>FS (k:=0) F Q U h m (aaB _) rfl
 row:=λa r g=>by
  have v:=(aai.mp g).1;have G:=F.ok r (aaz g);obtain⟨t,B⟩:=row_sx F Q U h m g;have A:r.wd≠ac->r.wd≠ap->∀n,pl.pg.call (n+4) 17 [Dl (AC f qs us),It (CC f qs us (a+1)).length]=some (It (Pp f qs us (a+1)),[Dl (AC f qs us),It (CC f qs us (a+1)).length]):=λu p n=>FS F Q U h m (by omega) (by
   show (f.rows[a]?).elim true R.xn=true;rw[g];show (!decide (r.wd=ac)&&!decide (r.wd=ap))=true;rw[Dab u,Dab p];rfl)
  cases d:r.gr with
  |true=>
   cases r with
   |ot _ _ _=>cases d
   |st x y=>
    obtain⟨b,i,q,w,e,o,O,s,L⟩:=lL F Q U h g (Daa d);have H:rth (R.st x y) (decide ((a:Int)∈f.longs)) (gdat f qs us a (.st x y))=.tuple [.str gl,.int x,.int b,.int i]:=by rw[e];exact if_pos (Daa d)
    rw[H]at t;exact⟨_,_,.inl rfl,B,λc=>(by cases c),λn=>CF t o L s,A⟩
  |false=>
   obtain⟨C,e,u,p,D,_⟩:=rth_nm G d;have j:=t;rw[e]at j;refine⟨rth r (decide ((a:Int)∈f.longs)) (gdat f qs us a r),_,?_,B,λc=>?_,λn=>by rw[e];exact CD j u p D,A⟩
   ·cases c:r.jm with
    |true=>exact .inr ⟨c,_,_,rfl⟩
    |false=>
     refine .inl ?_;cases r with
     |st x k=>exact if_neg (Dad d)
     |ot w C s=>have c:(decide (w=ac)||decide (w=am))=false:=c;obtain⟨J,M⟩:=ab9.mp c;show (if w=_ then _ else if w=_ then _ else _)=_;rw[if_neg (Dad J),if_neg (Dad M)];rfl
   ·have I:gdat f qs us a r=.int (dF (fin f qs) r.tg):=by unfold gdat;rw[if_neg (by rw[d];decide),if_pos c]
    have o:=F.jb r (aaz g) c;rw[I,CH F o.1 o.2.1];cases r with
    |st x k=>cases c
    |ot w C s=>
     show ∃N l,(if w=_ then _ else if w=_ then _ else _)=_;have c:(decide (w=ac)||decide (w=am))=true:=c;by_cases z:w=ac
     ·rw[if_pos z];exact⟨[.str ac],_,rfl⟩
     ·rw[Dab z,ab1]at c;rw[if_neg z,if_pos (Daa c)];exact⟨[.str am,.int _],_,rfl⟩
end
theorem rp(b:∀q∈qs,0<=q.1/\q.1<=f.rows.length):(fin f qs).bs.length=qs.length:=by have e:=eJ (f:=f) (λq a=>(b q a).1) (k:=f.rows.length);have d:=iz (f:=f) (k:=f.rows.length) (qs:=qs) (s:=mac f qs f.rows.length);have c:=iA (k:=f.rows.length) (λq a=>(b q a).1);rw[fin,d,e,<-c,acE];exact λq a=>Dac (by have:=(b q a).2;omega)
theorem Qok.bl(h:Qok f qs):(fin f qs).bs.length=qs.length:=rp λq a=>⟨(h.ok q a).g0,(h.ok q a).g1⟩
theorem CJ:(Rs rs).dat=some (.list (rs.map R.d)):=by rw[Rs,<-Fw];exact cJ _
theorem pJ(d:Jb rs.length rs):∀{m:Nat}{h t:List Int}{w:List Nat}{a:Nat},a<=rs.length->∃u,(pr rs (m+1) h t w a).2.2=(pr rs m h t w a).2.2++u/\u.length<=1/\((pr rs m h t w a).2.1=ci ↔ u.length=1)
 |0,h,t,w,a,ha=>by
  show ∃u,(match rs[a]? with|none=>_|some r=>_:List Int×Str×List Nat).2.2=w++u/\_/\(kg rs a=ci ↔ _);cases c:rs[a]? with
  |none=>
   have e:a=rs.length:=by have:=abg.mp c;omega
   refine⟨[],(aan _).symm,aaB _,?_⟩;rw[show kg rs a=lX from if_pos e];exact⟨λz=>absurd z (by decide +kernel),λz=>by cases z⟩
  |some r=>
   have g:=(aai.mp c).1;refine⟨[a],?_,aag _,?_⟩
   ·show (if r.wd=_ then _ else _:List Int×Str×List Nat).2.2=_;split<;>rfl
   ·rw[show kg rs a=ci from if_neg (by omega)];exact⟨λ_=>rfl,λ_=>rfl⟩
 |m+1,h,t,w,a,ha=>by
  cases c:rs[a]? with
  |none=>
   have e:a=rs.length:=by have:=abg.mp c;omega
   have b:∀m,pr rs (m+1) h t w a=(t,kg rs a,w):=λm=>by rw[pr,c]
   rw[b,b];refine⟨[],(aan _).symm,aaB _,?_⟩;rw[show kg rs a=lX from if_pos e];exact⟨λz=>absurd (show (lX:Str)=ci from z) (by decide +kernel),λz=>by cases z⟩
  |some r=>
   by_cases f:r.wd=ap
   ·have b:∀m,pr rs (m+1) h t w a=(t,(hL:Str),w++[a]):=λm=>by rw[pr,c];exact if_pos f
    rw[b,b];exact⟨[],(aan _).symm,aaB _,λz=>absurd (show (hL:Str)=ci from z) (by decide +kernel),λz=>by cases z⟩
   ·have b:∀m,pr rs (m+1) h t w a=pr rs m (bA r h) (dX r h t) (w++[a]) (nxA r (bA r h) a):=λm=>by rw[pr,c];exact if_neg f
    rw[b,b];exact pJ d (m7 d c)
theorem pr_lt:∀{m:Nat}{h t:List Int}{w:List Nat}{a:Nat},(∀b∈w,b<rs.length)->∀b∈(pr rs m h t w a).2.2,b<rs.length
 |0,h,t,w,a,hw=>hw
 |m+1,h,t,w,a,hw=>by
  cases d:rs[a]? with
  |none=>
   have e:pr rs (m+1) h t w a=(t,kg rs a,w):=by rw[pr,d]
   rw[e];exact hw
  |some r=>
   have f:=(aai.mp d).1;have c:∀b∈w++[a],b<rs.length:=λb i=>(aam.mp i).elim (hw b) λz=>by rw[aaH.mp z];exact f
   by_cases g:r.wd=ap
   ·have e:pr rs (m+1) h t w a=(t,(hL:Str),w++[a]):=by rw[pr,d];exact if_pos g
    rw[e];exact c
   ·have e:pr rs (m+1) h t w a=pr rs m (bA r h) (dX r h t) (w++[a]) (nxA r (bA r h) a):=by rw[pr,d];exact if_neg g
    rw[e];exact pr_lt c
theorem vD:∀{m:Nat}{h t:List Int}{w:List Nat}{a:Nat},(pr rs m h t w a).2.2.length<=w.length+m
 |0,h,t,w,a=>aag _
 |m+1,h,t,w,a=>by
  cases b:rs[a]? with
  |none=>
   have e:pr rs (m+1) h t w a=(t,kg rs a,w):=by rw[pr,b]
   rw[e];exact abn _ _
  |some r=>
   by_cases c:r.wd=ap
   ·have e:pr rs (m+1) h t w a=(t,(hL:Str),w++[a]):=by rw[pr,b];exact if_pos c
    rw[e];show (w++[a]).length<=_;rw[aaf,aaI];omega
   ·have e:pr rs (m+1) h t w a=pr rs m (bA r h) (dX r h t) (w++[a]) (nxA r (bA r h) a):=by rw[pr,b];exact if_neg c
    rw[e];have:=vD (rs:=rs) (m:=m) (h:=bA r h) (t:=dX r h t) (w:=w++[a]) (a:=nxA r (bA r h) a);rw[aaf,aaI]at this;omega
theorem pK(ns:List Int):kO .ne (.list (ns.map PyData.int)) (.list (ns.map PyData.int))=some false:=by
 have a:(PyData.list (ns.map PyData.int)).canLay0=true:=lay_ints ns;have h:SeqAt.shaped (.list (ns.map PyData.int))=true:=by simp[SeqAt.shaped,PyData.canLay0,PyData.depth,lay_ints,iD]
 show (if (SeqAt.shaped (.list (ns.map PyData.int))&&SeqAt.shaped (.list (ns.map PyData.int)))=true then some (PyData.eqv (.list (ns.map PyData.int)) (.list (ns.map PyData.int))) else none).bind _=_;rw[h,Bool.and_self,if_pos rfl,eqv_refl _ a];rfl
abbrev lB:Ss:=match F_law.body with|.cons (.fr _ _ b) _=>b|_=>.nil
theorem FT(h:ev C e ρ=some (.val (It i),ρ)):Bh C (.some e) ρ=some (some i,ρ):=bs h (bs rfl (bs rfl rfl))
abbrev kh(sc k t:OD)(f:Cf)(qs:Pz)(us:List Int)(x6:OD)(M:Nat)(z:List Int×Str×List Nat)(o12 o13:Option OD):DEnv:=[some sc,some k,some t,Lc f.rows,Lk qs us,Le f,some x6,Lh (fin f qs).ps,KY M,Lh z.1,some (.fz (.str z.2.1)),Lh (tI id z.2.2),o12,o13]
theorem vE{z z':List Int×Str×List Nat} (F:Fok f) (D:∀b∈z.2.2,b<f.rows.length) (y:z.2.2.length<=1000) (v:z'.2.2=z.2.2++u) (I:u.length<=1) (r:z.2.1=ci ↔ u.length=1):
  (∀{g:Option OD},aP C eam (kh sc k t f qs us x6 M z (Ll (Pp f qs us) z) g)=some (false,kh sc k t f qs us x6 M z (Ll (Pp f qs us) z) g)) /\
  aP C eaa (kh sc k t f qs us x6 M z (Ll (Pp f qs us) z) (Ll (Pp f qs us) z'))=some (false,kh sc k t f qs us x6 M z (Ll (Pp f qs us) z) (Ll (Pp f qs us) z')) /\
  aP C eal (kh sc k t f qs us x6 M z (Ll (Pp f qs us) z) (Ll (Pp f qs us) z'))=some (false,kh sc k t f qs us x6 M z (Ll (Pp f qs us) z) (Ll (Pp f qs us) z')):=by
 obtain⟨d,c,w⟩:=z;obtain⟨m,i,H⟩:=z';have v:H=w++u:=v;subst v;have y:w.length<=1000:=y;have j:∀{g:Option OD},ev C HY (kh sc k t f qs us x6 M (d,c,w) (Ll (Pp f qs us) (d,c,w)) g)=some (.val (It w.length),kh sc k t f qs us x6 M (d,c,w) (Ll (Pp f qs us) (d,c,w)) g):=λ{g}=>by have:=aG (C:=C) (es:=.cons (.nm 11) .nil) (ρ:=kh sc k t f qs us x6 M (d,c,w) (Ll (Pp f qs us) (d,c,w)) g) rfl rfl (blen );rw[aaa]at this;exact this
 have p:ev C ecn (kh sc k t f qs us x6 M (d,c,w) (Ll (Pp f qs us) (d,c,w)) (some (RT (Pp f qs us) (m,i,w++u))))=some (.val (It (w.length+u.length:Nat)),kh sc k t f qs us x6 M (d,c,w) (Ll (Pp f qs us) (d,c,w)) (some (RT (Pp f qs us) (m,i,w++u)))):=by have:=aG (C:=C) (es:=.cons HV .nil) (ρ:=kh sc k t f qs us x6 M (d,c,w) (Ll (Pp f qs us) (d,c,w)) (some (RT (Pp f qs us) (m,i,w++u)))) rfl rfl (blen );rw[aaa,aaf]at this;exact this
 refine⟨λ{g}=>?_,?_,?_⟩
 ·obtain⟨J,e⟩:=m6 (C:=C) (elt:=.ix (.nm 1) (.nm 0)) (h:=λa=>.int ((Pp f qs us a:Nat):Int)) (ρ:=[Lh (fin f qs).ps]) (as:=w) (out:=[]) (o:=none) λa G=>by have q:=D a G;exact aw rfl rfl rfl (aV (bL (k:=a) (by rw[aaq,m8 q,vC F (aaR q)];rfl)))
  rw[aaD]at e;have x:∀P:Nat->Nat,(tI P w).map PyData.int=w.map λa=>PyData.int ((P a:Nat):Int):=λP=>by rw[aaQ];rfl
  have i:ev C Jj (kh sc k t f qs us x6 M (d,c,w) (Ll (Pp f qs us) (d,c,w)) g)=some (.val (.lst (((tI (Pp f qs us) w).map PyData.int).map OD.fz)),kh sc k t f qs us x6 M (d,c,w) (Ll (Pp f qs us) (d,c,w)) g):=by rw[x (Pp f qs us)];exact cI (ds:=(tI id w).map PyData.int) (dA rfl rfl rfl) (by rw[aaa,aaa];omega) rfl (by rw[x id];exact e) rfl
  exact cg (ar (ao (dx:=.str c) (dy:=.str c) (aw rfl rfl rfl (ax rfl)) rfl rfl rfl (show some (!decide (c=c))=some false by rw[Dac rfl];rfl))) (ar (ao (dx:=.list ((tI (Pp f qs us) w).map PyData.int)) (dy:=.list ((tI (Pp f qs us) w).map PyData.int)) (aw rfl rfl rfl (ax rfl)) i rfl (cJ _) (pK _)))
 ·have B:cutD ((tI (Pp f qs us) (w++u)).map PyData.int) none (some (w.length:Int))=(tI (Pp f qs us) w).map PyData.int:=by rw[lC,<-abw,<-abw,List.take_left]
  exact cg (ar (ao (dx:=.list ((tI (Pp f qs us) w).map PyData.int)) (dy:=.list ((tI (Pp f qs us) w).map PyData.int)) (uU (l:=none) (u:=some (w.length:Int)) (ds:=(tI (Pp f qs us) (w++u)).map PyData.int) (aw rfl rfl rfl (ax rfl)) rfl (FT j) rfl) (aw rfl rfl rfl (ax rfl)) (by rw[B];exact cJ _) rfl (pK _))) (rF (pk p (ah j rfl rfl rfl rfl)) (by push_cast;omega))
 ·have n:ev C edm (kh sc k t f qs us x6 M (d,c,w) (Ll (Pp f qs us) (d,c,w)) (some (RT (Pp f qs us) (m,i,w++u))))=some (.val (.fz (.bool (decide (c=(ci:Str))))),kh sc k t f qs us x6 M (d,c,w) (Ll (Pp f qs us) (d,c,w)) (some (RT (Pp f qs us) (m,i,w++u)))):=ao (dx:=.str c) (dy:=.str ci) rfl rfl rfl rfl rfl;have s:ev C ea0 (kh sc k t f qs us x6 M (d,c,w) (Ll (Pp f qs us) (d,c,w)) (some (RT (Pp f qs us) (m,i,w++u))))=some (.val (.fz (.bool (decide (((w.length+u.length:Nat):Int)=(w.length:Int)+1)))),kh sc k t f qs us x6 M (d,c,w) (Ll (Pp f qs us) (d,c,w)) (some (RT (Pp f qs us) (m,i,w++u)))):=ao (dx:=.int (w.length+u.length:Nat)) (dy:=.int ((w.length:Int)+1)) p (ah j rfl rfl rfl rfl) rfl rfl rfl;have r:c=ci ↔ u.length=1:=r;have A:decide (c=(ci:Str))=decide (((w.length+u.length:Nat):Int)=(w.length:Int)+1):=decide_eq_decide.mpr (r.trans (by push_cast;omega));rw[A]at n;generalize decide (((w.length+u.length:Nat):Int)=(w.length:Int)+1)=b at *;exact ar (ao (dx:=.bool b) (dy:=.bool b) n s rfl rfl (show some (!decide (b=b))=some false by rw[Dac rfl];rfl))
theorem vF(O:rs.length<=60)(hn:Nb rs)(hj:Jb rs.length rs)(ht:TpOk b c m)(hm:m<=40000):
  ∃N,aD (Lm 7) (match lB with|.cons _ (.cons _ r)=>r|_=>.nil) [some sc,some k,KZ a b c,La rs,o4,o5,o6,o7,o8,o9,o10,o11,o12,o13]=some (.nx,some sc::N)/\N.length=13:=by
 obtain⟨qs,us,s,D,v,G,t1,Q,b0,hu,b5,L⟩:=FA (f:=⟨rs,[],0,0⟩) hn O ht (by omega);obtain⟨ls,l,j,o,p,⟨a0,H⟩,t2⟩:=Cb (λls=>⟨Q.ok,Q.inc⟩) (by omega) O hj t1 (by omega);obtain⟨x,a3,b3,c3,Z,x0,x1,t3⟩:=aH (many:=20) t2 (by omega) (by decide) (by decide);obtain⟨y,e,i,g,X,y0,y1,t4⟩:=aH (many:=4) t3 (by omega) (by decide) (by decide);obtain⟨M',I,eM⟩:=gy (ks:=[0,1,x,300]) y0 y1;obtain⟨M,rfl⟩:∃M:Nat,M'=M:=⟨M'.toNat,by simp only[aab,aar,or_false]at I;omega⟩
 have hM:M<=300:=by simp only[aab,aar,or_false]at I;omega
 obtain⟨f,B⟩:∃f:Cf,f=⟨rs,ls,0,0⟩:=⟨_,rfl⟩
 have F:Fok f:=by subst B;exact⟨hn,hj,a0⟩
 have A:Qok f qs:=by subst B;exact⟨Q.ok,Q.inc⟩
 have U:Uok f qs us:=by subst B;exact⟨b0,hu,L⟩
 have fr:f.rows=rs:=by rw[B]
 have fl:f.longs=ls:=by rw[B]
 rw[<-B]at H;rw[<-fr]at G p O ⊢;rw[<-fl]at p;have h1:=m5 (f:=f) (us:=us) (λq J=>(A.ok q J).l1) (by omega) O;have h2:=pd (f:=f) (k:=f.rows.length) (cs:=CC f qs us f.rows.length) λq J=>(A.ok q J).l1;have a8:(AC f qs us).length<=900000:=by show (cK _ _ _ _).length<=_;omega
 have K:=mh_AC F A U a8 H;have e5:=Cr (n:=1) F A U A.bl (by omega) O;have S:=c_placed (n:=4) (f:=f) (qs:=qs) (λq J=>(A.ok q J).g0) (by omega) (by omega);have e7:=CG (n:=4) (M:=M) F.ok F.jb (by omega);have Y:=zC (n:=1) (M:=M) K F.ok F.jb (by omega);have T:=zC (n:=1) (M:=M+1) K F.ok F.jb (by omega);obtain⟨u,u1,u2,u3⟩:=pJ (rs:=f.rows) F.jb (m:=M) (h:=h5) (t:=[]) (w:=[]) (a:=0) (aaB _);have a7:=pr_lt (rs:=f.rows) (m:=M) (h:=h5) (t:=[]) (w:=[]) (a:=0) λb hb=>absurd hb aar;have a5:=vD (rs:=f.rows) (m:=M) (h:=h5) (t:=[]) (w:=[]) (a:=0);rw[abI]at a5;generalize pr f.rows M h5 [] [] 0=z at *;generalize pr f.rows (M+1) h5 [] [] 0=z' at *;obtain⟨k1,k2,k3⟩:=vE (sc:=sc) (k:=k) (t:=Tp e i g) (x6:=Dl (AC f qs us)) (f:=f) (qs:=qs) (us:=us) (M:=M) (z:=z) (z':=z') (u:=u) F a7 (by omega) u1 u2 u3 (C:=Lm 7);have k1:=@k1 o13;generalize hP:Pp f qs us=P at *;generalize AC f qs us=cs at *;have ec:(Lm 7).call=pl.pg.call 7:=rfl;have G:pl.pg.call 7 36 [Tp a b c,Rl f.rows]=some (Fp qs us,[Tp s D v,Rl f.rows]):=G;have p:pl.pg.call 7 38 [Tp s D v,Rl f.rows,Pq qs]=some (Lo f,[Tp l j o,Rl f.rows,Pq qs]):=p;have Z:pl.pg.call 7 29 [Tp l j o,It 20]=some (It x,[Tp a3 b3 c3,It 20]):=Z;have X:pl.pg.call 7 29 [Tp a3 b3 c3,It 4]=some (It y,[Tp e i g,It 4]):=X;have e5:pl.pg.call 7 26 [Rl f.rows,Lo f,Fp qs us]=some (Il cs,[Rl f.rows,Lo f,Fp qs us]):=e5;have S:pl.pg.call 7 35 [Rl f.rows,Lo f,Pq qs]=some (.fz (.tuple [.list ((fin f qs).ps.map PyData.int),.list ((fin f qs).bs.map PyData.int),.int (fin f qs).pl]),[Rl f.rows,Lo f,Pq qs]):=S;have e7:pl.pg.call 7 15 [Rl f.rows,It M]=some (RT id z,[Rl f.rows,It M]):=e7;have Y:pl.pg.call 7 19 [Dl cs,It M]=some (RT P z,[Dl cs,It M]):=Y;have T:pl.pg.call 7 19 [Dl cs,It ((M+1:Nat):Int)]=some (RT P z',[Dl cs,It ((M+1:Nat):Int)]):=T;rw[<-ec]at G p Z X e5 S e7 Y T;have s3:be (Lm 7) eb0 [some sc,some k,KZ a b c,La f.rows,o4,o5,o6,o7,o8,o9,o10,o11,o12,o13]=some (.nx,[some sc,some k,KZ s D v,Lc f.rows,Lk qs us,o5,o6,o7,o8,o9,o10,o11,o12,o13]):=by have zr:frz1 [some sc,some k,none,La f.rows,o4,o5,o6,o7,o8,o9,o10,o11,o12,o13] (.rf 3)=some (.list (f.rows.map R.d),[some sc,some k,none,Lc f.rows,o4,o5,o6,o7,o8,o9,o10,o11,o12,o13]):=bX rfl CJ rfl;refine ae (x:=.val (Fp qs us)) (z:=Fp qs us) (ρ1:=[some sc,some k,KZ s D v,Lc f.rows,o4,o5,o6,o7,o8,o9,o10,o11,o12,o13]) (ρ2:=[some sc,some k,KZ s D v,Lc f.rows,o4,o5,o6,o7,o8,o9,o10,o11,o12,o13]) (af (rs:=[.rf 2,.rf 3]) (ρ1:=[some sc,some k,KZ a b c,La f.rows,o4,o5,o6,o7,o8,o9,o10,o11,o12,o13]) (ρ2:=[some sc,some k,none,Lc f.rows,o4,o5,o6,o7,o8,o9,o10,o11,o12,o13]) rfl ?_ G rfl) rfl rfl rfl;show bt [true,false] _ [.rf 2,.rf 3]=_;have zm:mv1 [some sc,some k,KZ a b c,La f.rows,o4,o5,o6,o7,o8,o9,o10,o11,o12,o13] (.rf 2)=some (Tp a b c,[some sc,some k,none,La f.rows,o4,o5,o6,o7,o8,o9,o10,o11,o12,o13]):=rfl;simp only[bt,zm,zr]
 have s4:be (Lm 7) ebe [some sc,some k,KZ s D v,Lc f.rows,Lk qs us,o5,o6,o7,o8,o9,o10,o11,o12,o13]=some (.nx,[some sc,some k,KZ l j o,Lc f.rows,Lk qs us,Le f,o6,o7,o8,o9,o10,o11,o12,o13]):=ae (ρ2:=[some sc,some k,KZ l j o,Lc f.rows,Lk qs us,o5,o6,o7,o8,o9,o10,o11,o12,o13]) (af (rs:=[.rf 2,.val (Rl f.rows),.val (Pq qs)]) (ρ3:=[some sc,some k,KZ l j o,Lc f.rows,Lk qs us,o5,o6,o7,o8,o9,o10,o11,o12,o13]) rfl rfl p rfl) rfl rfl rfl;have s5:be (Lm 7) ebl [some sc,some k,KZ l j o,Lc f.rows,Lk qs us,Le f,o6,o7,o8,o9,o10,o11,o12,o13]=some (.nx,[some sc,some k,KZ l j o,Lc f.rows,Lk qs us,Le f,Ld cs,o7,o8,o9,o10,o11,o12,o13]):=ae (ρ2:=[some sc,some k,KZ l j o,Lc f.rows,Lk qs us,Le f,o6,o7,o8,o9,o10,o11,o12,o13]) (af (rs:=[.val (Rl f.rows),.val (Lo f),.val (Fp qs us)]) (ρ3:=[some sc,some k,KZ l j o,Lc f.rows,Lk qs us,Le f,o6,o7,o8,o9,o10,o11,o12,o13]) rfl rfl e5 rfl) rfl rfl rfl;have s6:be (Lm 7) ea5 [some sc,some k,KZ l j o,Lc f.rows,Lk qs us,Le f,Ld cs,o7,o8,o9,o10,o11,o12,o13]=some (.nx,[some sc,some k,KZ l j o,Lc f.rows,Lk qs us,Le f,Ld cs,Lh (fin f qs).ps,o8,o9,o10,o11,o12,o13]):=ae (ρ2:=[some sc,some k,KZ l j o,Lc f.rows,Lk qs us,Le f,Ld cs,o7,o8,o9,o10,o11,o12,o13]) (aw (af (rs:=[.val (Rl f.rows),.val (Lo f),.val (Pq qs)]) (ρ3:=[some sc,some k,KZ l j o,Lc f.rows,Lk qs us,Le f,Ld cs,o7,o8,o9,o10,o11,o12,o13]) rfl rfl S rfl) rfl rfl (ax az)) rfl rfl rfl;have s7:be (Lm 7) eah [some sc,some k,KZ l j o,Lc f.rows,Lk qs us,Le f,Ld cs,Lh (fin f qs).ps,o8,o9,o10,o11,o12,o13]=some (.nx,[some sc,some k,KZ e i g,Lc f.rows,Lk qs us,Le f,Ld cs,Lh (fin f qs).ps,KY M,o9,o10,o11,o12,o13]):=ae (ρ2:=[some sc,some k,KZ e i g,Lc f.rows,Lk qs us,Le f,Ld cs,Lh (fin f qs).ps,o8,o9,o10,o11,o12,o13]) (aw (bb (zs:=[It 0,It 1,It x,It 300]) (aa rfl (aa rfl (aa (af (ρ3:=[some sc,some k,KZ a3 b3 c3,Lc f.rows,Lk qs us,Le f,Ld cs,Lh (fin f qs).ps,o8,o9,o10,o11,o12,o13]) rfl rfl Z rfl) (aa rfl aj)))) rfl rfl) (af (ρ3:=[some sc,some k,KZ e i g,Lc f.rows,Lk qs us,Le f,Ld cs,Lh (fin f qs).ps,o8,o9,o10,o11,o12,o13]) rfl rfl X rfl) rfl (eI eM)) rfl rfl rfl;have s8:be (Lm 7) ebm [some sc,some k,KZ e i g,Lc f.rows,Lk qs us,Le f,Ld cs,Lh (fin f qs).ps,KY M,o9,o10,o11,o12,o13]=some (.nx,[some sc,some k,KZ e i g,Lc f.rows,Lk qs us,Le f,Ld cs,Lh (fin f qs).ps,KY M,Lh z.1,some (.fz (.str z.2.1)),Lh (tI id z.2.2),o12,o13]):=s_asgQ (af (ρ3:=[some sc,some k,KZ e i g,Lc f.rows,Lk qs us,Le f,Ld cs,Lh (fin f qs).ps,KY M,o9,o10,o11,o12,o13]) rfl rfl e7 rfl) rfl rfl;have s9:be (Lm 7) ebv [some sc,some k,KZ e i g,Lc f.rows,Lk qs us,Le f,Ld cs,Lh (fin f qs).ps,KY M,Lh z.1,some (.fz (.str z.2.1)),Lh (tI id z.2.2),o12,o13]=some (.nx,[some sc,some k,KZ e i g,Lc f.rows,Lk qs us,Le f,Lh cs,Lh (fin f qs).ps,KY M,Lh z.1,some (.fz (.str z.2.1)),Lh (tI id z.2.2),Ll P z,o13]):=ae (ρ2:=[some sc,some k,KZ e i g,Lc f.rows,Lk qs us,Le f,Lh cs,Lh (fin f qs).ps,KY M,Lh z.1,some (.fz (.str z.2.1)),Lh (tI id z.2.2),o12,o13]) (af (rs:=[.rf 6,.val (It M)]) (ρ2:=[some sc,some k,KZ e i g,Lc f.rows,Lk qs us,Le f,Lh cs,Lh (fin f qs).ps,KY M,Lh z.1,some (.fz (.str z.2.1)),Lh (tI id z.2.2),o12,o13]) (ρ3:=[some sc,some k,KZ e i g,Lc f.rows,Lk qs us,Le f,Lh cs,Lh (fin f qs).ps,KY M,Lh z.1,some (.fz (.str z.2.1)),Lh (tI id z.2.2),o12,o13]) rfl (show bt [false,false] _ _=_ from rj (bX rfl (aB cs) rfl) (rj rfl rfl)) Y rfl) rfl rfl rfl;have a6:be (Lm 7) ebh [some sc,some k,KZ e i g,Lc f.rows,Lk qs us,Le f,Lh cs,Lh (fin f qs).ps,KY M,Lh z.1,some (.fz (.str z.2.1)),Lh (tI id z.2.2),Ll P z,o13]=some (.nx,[some sc,some k,KZ e i g,Lc f.rows,Lk qs us,Le f,Lh cs,Lh (fin f qs).ps,KY M,Lh z.1,some (.fz (.str z.2.1)),Lh (tI id z.2.2),Ll P z,Ll P z']):=ae (af (rs:=[.val (Dl cs),.val (It ((M+1:Nat):Int))]) (ρ3:=[some sc,some k,KZ e i g,Lc f.rows,Lk qs us,Le f,Lh cs,Lh (fin f qs).ps,KY M,Lh z.1,some (.fz (.str z.2.1)),Lh (tI id z.2.2),Ll P z,o13]) rfl rfl T rfl) rfl rfl rfl;exact⟨_,ab s3 (ab s4 (ab s5 (ab s6 (ab s7 (ab s8 (ab s9 (ab (s_ifF k1 rfl) (ab a6 (ab (s_ifF k2 rfl) (ab (s_ifF k3 rfl) rfl)))))))))),rfl⟩
theorem l13(h:ρ.length=13):∃o1 c o3 o4 o5 o6 o7 o8 o9 o10 o11 b a,ρ=[o1,c,o3,o4,o5,o6,o7,o8,o9,o10,o11,b,a]:=by
 match ρ,h with
 |[o1,c,o3,o4,o5,o6,o7,o8,o9,o10,o11,b,a],_=>exact⟨o1,c,o3,o4,o5,o6,o7,o8,o9,o10,o11,b,a,rfl⟩
theorem pure(ns:List Int)(Q:ns.length<=63):∃ys,pl.pg.call 8 Fq [.fz (.list (ns.map PyData.int))]=some (.fz (.bool true),ys):=by
 obtain⟨n,p⟩:∃n:OD,n=.fz (.list (ns.map PyData.int)):=⟨_,rfl⟩
 have A:∀(i:Nat) (o:DEnv),i<=8->o.length=13->∃c,((bc (.nm 1) (.fz (.int i)) (some n::o)).bind λg=>aD (Lm 7) lB g)=some (.nx,some n::c)/\c.length=13:=by intro i o hi q;obtain⟨o1,M,H,B,w,s,x,v,u,f,l,k,j,rfl⟩:=l13 q;obtain⟨a,b,N,t⟩:=BS hi;obtain⟨rs,T,b1,X,G,I,y,O⟩:=BU t (aaB _);have L:(Lm 7).call=pl.pg.call 7:=rfl;rw[show 5+2=7 from rfl,<-L,<-p]at N;rw[show 4+3=7 from rfl,<-L]at G;obtain⟨c,U,J⟩:=vF I y.1 y.2 O (by decide);have s1:be (Lm 7) ebz [some n,KY i,M,H,B,w,s,x,v,u,f,l,k,j]=some (.nx,[some n,KY i,KZ a b 0,H,B,w,s,x,v,u,f,l,k,j]):=ae (af (ρ2:=[some n,KY i,M,H,B,w,s,x,v,u,f,l,k,j]) (by rw[p];rfl) (by rw[p];rfl) N rfl) rfl rfl rfl;have s2:be (Lm 7) ec6 [some n,KY i,KZ a b 0,H,B,w,s,x,v,u,f,l,k,j]=some (.nx,[some n,KY i,KZ T b1 X,La rs,B,w,s,x,v,u,f,l,k,j]):=ae (af rfl rfl G rfl) rfl rfl rfl;exact⟨c,bs rfl (ab s1 (ab s2 U)),J⟩
 have D:∀(m i:Nat) (o:DEnv),i+m<=9->o.length=13->∃c,bp (λd c=>(bc (.nm 1) (.fz d) c).bind λg=>aD (Lm 7) lB g) (bP i m) (some n::o)=some (.nx,some n::c):=by
  intro m;induction m with
  |zero=>intro i o _ _;exact⟨o,rfl⟩
  |succ m Y=>intro i o h q;obtain⟨g,G,Z⟩:=A i o (by omega) q;obtain⟨ρ2,S⟩:=Y (i+1) g (by omega) Z;rw[bh];exact⟨ρ2,bs G S⟩
 obtain⟨r,C⟩:∃r:Int,r=if (ns.length:Int)<6 then (ns.length:Int) else 6:=⟨_,rfl⟩
 have hb:0<=r/\r<=6:=by rw[C];split<;>omega
 obtain⟨c,e⟩:=D (1+r).toNat 0 [none,none,none,none,none,none,none,none,none,none,none,none,none] (by omega) rfl;rw[p]at e;have z:ev (Lm 7) ebi [some (.fz (.list (ns.map PyData.int))),none,none,none,none,none,none,none,none,none,none,none,none,none]=some (.val (It r),[some (.fz (.list (ns.map PyData.int))),none,none,none,none,none,none,none,none,none,none,none,none,none]):=aG (aa rfl (aa (aG rfl rfl blen) aj)) rfl (by rw[C];rfl);exact⟨_,ai rfl rfl (ab (cN (fV (ah rfl z rfl rfl rfl) rfl (by omega)) e) (ak (ag rfl rfl))) rfl⟩
set_option maxHeartbeats 0
def lm:Str:="law_nearpool_k51_whole_no_run_into_a_pool"
open PySem.W in
def vi(n:Int):Value:=.int n 0
def vr(a:Addr):Value:=.ref a
def vs(x:Str)(t:Nat):Value:=.str x t
def nt(P:Params)(k:Str)(t:Nat)(v:Value):DictEntry:=⟨PyData.keyHash P k,.str k t,v⟩
def fo(d:Df)(m:Str)(t c:Nat):Obj:=⟨.type "function",none,.func (PySem.W.fnOf d.name d.qual (cF d.st) (bD d.st) (aK d.st) .none .none .none (.str m t) none (.ref c) .none),List.toArray []⟩
def cq(vs:List Value):Obj:=⟨.type "code",none,.fields (List.toArray vs),List.toArray []⟩
def cu(n q:Str)(t l a r T:Nat):Obj:=cq [vs n t,vs q (t+1),vs KU (t+2),vi l,vi a,vi 0,vi 0,vi 3,vr r,.bool true,vi 181,vr (r+1),.none,vr (r+2),vr (r+3),vr (r+4),vi T,vi l,vs KU (T+1)]
def cw(n q:Str)(t l a r T:Nat):Obj:=cq [vs n t,vs q (t+1),vs KU (t+2),vi l,vi a,vi 0,vi 0,vi 3,vr r,.bool true,vi 181,vr (r+1),.none,.none,.none,vr (r+2),vi T,vi l,vs KU (T+1)]
def dq(es:List DictEntry):Obj:=⟨.type "dict",none,.dict (List.toArray es) 0,List.toArray []⟩
def KK(P:Params):Waa:=[(3,⟨(.type "dict"),none,(.dict (List.toArray [nt P "__name__" 165 (vs lm 492),nt P "__doc__" 166 .none,nt P "__package__" 167 .none,nt P "__loader__" 168 (.builtin "__main__.__loader__#opaque"),nt P "__spec__" 169 .none,nt P "__annotations__" 170 (vr 6),nt P "__builtins__" 171 (vr 4),nt P "__file__" 173 (vs KU 172),nt P "__cached__" 174 .none,nt P "REGISTERS" 190 (.int (5) 189),nt P "NUMBERS" 192 (.int (100000000) 191),nt P "GREATEST_SMALL" 194 (.int (99) 193),nt P pc 201 (vr 21),nt P pi 208 (vr 28),nt P pu 214 (vr 33),nt P rc 220 (vr 38),nt P re 227 (vr 45),nt P "STOP" 231 (.int (0) 230),nt P "SET" 233 (.int (1000) 232),nt P "SUM" 235 (.int (2000) 234),nt P "LESS" 237 (.int (3000) 236),nt P "TELL" 239 (.int (4000) 238),nt P "GREAT" 241 (.int (5000) 240),nt P "SHORT_GO" 243 (.int (6500) 242),nt P "LONG_GO" 245 (.int (7000) 244),nt P "OVER" 247 (.int (7001) 246),nt P "PAD" 249 (.int (7002) 248),nt P "POOL" 251 (.int (7100) 250),nt P "SHORT_NIL" 253 (.int (8100) 252),nt P "LONG_NIL" 255 (.int (9000) 254),nt P "SAME_PLACE" 257 (.int (5000) 256),nt P "FARTHEST_GO" 259 (.int (499) 258),nt P "FARTHEST_NIL" 261 (.int (99) 260),nt P "NILS_OF_ONE" 263 (.int (200) 262),nt P "MOST_WORDS" 265 (.int (100) 264),nt P "HALF_WORD" 267 (.int (10000) 266),nt P sn 277 (vr 52),nt P sw 290 (vr 59),nt P sK 300 (vr 66),nt P ul 311 (vr 73),nt P ut 319 (vr 80),nt P wl 328 (vr 87),nt P wn 334 (vr 92),nt P wp 345 (vr 99),nt P wr 357 (vr 106),nt P wv 365 (vr 113),nt P ww 378 (vr 120),nt P wP 390 (vr 127),nt P wS 399 (vr 134),nt P wT 411 (vr 141),nt P "run" 426 (vr 148),nt P "OVER_CELLS" 430 (.int (2) 429),nt P "WORD_CELLS" 432 (.int (2) 431),nt P xz 441 (vr 155),nt P xL 449 (vr 162),nt P zn 458 (vr 169),nt P At 464 (vr 174),nt P AT 479 (vr 181),nt P BT 485 (vr 186),nt P Ch 491 (vr 191),nt P Db 501 (vr 198),nt P Ev 510 (vr 205),nt P EQ 520 (vr 212),nt P Fa 529 (vr 219),nt P Go 546 (vr 226),nt P Ix 552 (vr 231),nt P IN 559 (vr 238),nt P KO 568 (vr 245),nt P KP 583 (vr 252),nt P KQ 589 (vr 257),nt P KR 607 (vr 264),nt P KS 618 (vr 271),nt P lc 624 (vr 276)]) 73),List.toArray []⟩),
 (20,cu pc pc 195 5 1 15 199),
 (21,fo ie hY 187 20),
 (27,cu pi pi 202 7 1 22 206),
 (28,fo i9 hY 187 27),
 (32,cw pu pu 209 9 1 29 212),
 (33,fo f6 hY 187 32),
 (37,cw rc rc 215 11 1 34 218),
 (38,fo ig hY 187 37),
 (44,cu re re 221 13 1 39 225),
 (45,fo oE hY 187 44),
 (51,cu sn sn 268 35 4 46 275),
 (52,fo fc ce 228 51),
 (58,cu sw sw 278 41 4 53 288),
 (59,fo f7 ce 228 58),
 (65,cu sK sK 291 57 2 60 298),
 (66,fo f9 ce 228 65),
 (72,cu ul ul 301 60 2 67 309),
 (73,fo ij ce 228 72),
 (79,cu ut ut 312 64 2 74 317),
 (80,fo gb ce 228 79),
 (86,cu wl wl 320 82 3 81 326),
 (87,fo ik ce 228 86),
 (91,cw wn wn 329 92 2 88 332),
 (92,fo gf ce 228 91),
 (98,cu wp wp 335 99 2 93 343),
 (99,fo ja ce 228 98),
 (105,cu wr wr 348 113 3 100 355),
 (106,fo gg np 346 105),
 (112,cu wv wv 358 123 2 107 363),
 (113,fo gh np 346 112),
 (119,cu ww ww 366 125 2 114 376),
 (120,fo dB np 346 119),
 (126,cu wP wP 381 139 3 121 388),
 (127,fo jc lv 379 126),
 (133,cu wS wS 391 144 2 128 397),
 (134,fo fe lv 379 133),
 (140,cu wT wT 400 150 2 135 409),
 (141,fo ly lv 379 140),
 (147,cu "run" "run" 412 159 2 142 424),
 (148,fo y8 lv 379 147),
 (154,cu xz xz 433 179 3 149 439),
 (155,fo jd lw 427 154),
 (161,cu xL xL 442 181 2 156 447),
 (162,fo ip lw 427 161),
 (168,cu zn zn 450 183 3 163 456),
 (169,fo fg lw 427 168),
 (173,cw At At 459 187 3 170 462),
 (174,fo lz lw 427 173),
 (180,cu AT AT 467 201 4 175 477),
 (181,fo fh ol 465 180),
 (185,cw BT BT 480 212 3 182 483),
 (186,fo iq ol 465 185),
 (190,cw Ch Ch 486 220 3 187 489),
 (191,fo fj ol 465 190),
 (197,cu Db Db 494 231 2 192 499),
 (198,fo je lm 492 197),
 (204,cu Ev Ev 502 233 2 199 508),
 (205,fo uK lm 492 204),
 (211,cu EQ EQ 511 236 2 206 518),
 (212,fo uL lm 492 211),
 (218,cu Fa Fa 521 245 1 213 527),
 (219,fo oF lm 492 218),
 (225,cu Go Go 530 249 1 220 544),
 (226,fo uM lm 492 225),
 (230,cw Ix Ix 547 265 2 227 550),
 (231,fo oG lm 492 230),
 (237,cu IN IN 553 269 1 232 557),
 (238,fo fq lm 492 237),
 (244,cu KO KO 560 271 3 239 566),
 (245,fo uN lm 492 244),
 (251,cu KP KP 569 273 3 246 581),
 (252,fo ir lm 492 251),
 (256,cw KQ KQ 584 286 2 253 587),
 (257,fo iu lm 492 256),
 (263,cu KR KR 590 306 4 258 605),
 (264,fo gi lm 492 263),
 (270,cu KS KS 608 315 3 265 616),
 (271,fo fu lm 492 270),
 (275,cw lc lc 619 322 1 272 622),
 (276,fo D_law lm 492 275)]
def qv:Program:=PySem.W.view PySem.Challenge.pw_nearpool_k51_whole_no_run_into_a_pool [1,2,3,4,5,6,7,8,10,11,12,13,14,15,16,17,18,19,20,21,22,23,24,25,26,27,28,29,30,31,32,33,34,35,36,38,39,40,42,43,44,45,47,48,49,50,51,52,54,55,56,58,59,60,61,62,63,64,65,66,67,68,69,70]
open PySem.W PyProof.Rows in
theorem yx{p q:Program}{loose:List Str}{Xt:Shared->Bool}{c:Type}{Yf:Shared->c}{Ya:World->c}{N:Nat}{b:Bool}(e:opening p=plainProg p.main.scope.names)(m:Nat.ble 600 N=true)(f:∀s,fenceModules? p s=some s)
  (h:∀(w:World) (a:OsState),(topFrom treeTable p w N ⟨boot_heap w.params,Array.mk [],boot_drawn,boot_toks,a⟩).map (λs=>(openSeen q loose (importedModules p.main.body) Xt b s,Yf s))=some (openGood q loose,Ya w)):LeftO p q loose Xt Yf Ya N b:=λw=>by
 obtain⟨⟨j,l,d,k,a⟩,i,g⟩:=aaM.mp (boot_open e m f w);obtain⟨rfl,rfl,rfl,rfl⟩:j=boot_heap w.params/\l=Array.mk []/\d=boot_drawn/\k=boot_toks:=by simpa using g
 unfold openEnds;rw[i];exact h w a
def hk:PySem.W.Hook:=PySem.W.kHook KK [3,20,21,27,28,32,33,37,38,44,45,51,52,58,59,65,66,72,73,79,80,86,87,91,92,98,99,105,106,112,113,119,120,126,127,133,134,140,141,147,148,154,155,161,162,168,169,173,174,180,181,185,186,190,191,197,198,204,205,211,212,218,219,225,226,230,231,237,238,244,245,251,252,256,257,263,264,270,271,275,276] (λ_=>by kernel_rfl)
abbrev xt(s:Shared):Bool:=PySem.W.xlAt qv [] s&&PySem.W.recOk (PySem.W.RowW.records (PySem.Challenge.rw_nearpool_k51_whole_no_run_into_a_pool).row.toRowW) s
theorem left:PySem.W.LeftO PySem.Challenge.pw_nearpool_k51_whole_no_run_into_a_pool qv [] xt (PySem.W.Hook.obs hk) (PySem.W.Hook.val hk) 3160:=yx (by kernel_rfl) (by rfl) (λs=>by kernel_rfl) (λw a=>by kernel_rfl)
def dd:DefRec:=⟨lc,cF D_law.st,bD D_law.st,aK D_law.st,match D_law.st with|.FunctionDef _ _ _ _ _ _ _ _ _ p=>p|_=>⟨0,0,0,0⟩⟩
theorem said:(PySem.Challenge.rw_nearpool_k51_whole_no_run_into_a_pool).wellSaid=true:=by kernel_rfl
def vG(K:Waa):L2.Sp:=λd H Q _=>∃(a:Addr) (b:List Int),d=[.ref a]/\SqL K H a (b.map V.int)/\b.length<=63/\∀c,Q (.bl true) c
def Gb:Option (Option Value)->Bool
 |some none=>true
 |_=>false
def CQ(f:Nat):Option (Option Value)->Bool
 |some (some (.ref g))=>g==f
 |_=>false
def Ih:Option (Option Value)->Bool
 |some (some (.builtin s))=>decide (s="object.__setattr__")
 |_=>false
theorem vH{o:Option (Option Value)}(h:Gb o=true):o=some none:=by
 unfold Gb at h;split at h
 ·rfl
 ·cases h
theorem kf{f:Nat}{o:Option (Option Value)}(h:CQ f o=true):o=some (some (.ref f)):=by
 unfold CQ at h;split at h
 ·rw[beq_iff_eq.mp h]
 ·cases h
theorem CK{o:Option (Option Value)}(h:Ih o=true):o=some (some (.builtin "object.__setattr__")):=by
 unfold Ih at h;split at h
 ·rw[Daa h]
 ·cases h
open PySem.W in
def Ii(K:Frag)(C:Addr):Bool:=plainGet K C Str.empty&&(hasDictIn K C&&(plainOver K C&&Ih (findIn K (.ref C) "__setattr__")))
theorem vI{K:Waa}{C:Addr}(h:Ii K C=true):Cls K C:=by obtain⟨c,h⟩:=an2 h;obtain⟨b,h⟩:=an2 h;obtain⟨a,h⟩:=an2 h;exact⟨c,b,a,CK h⟩
open PySem.W in
def Kq(K:Frag)(d:Df)(f c:Nat):Kd->Bool
 |.fn=>codeIn K (.ref c) d.qual&&(keepIn K (.ref f)&&CQ f (nsIn K mainGlobals d.name))
 |.me x=>codeIn K (.ref c) d.qual&&(keepIn K (.ref f)&&(Ii K (aU K x)&&(CQ f (findIn K (.ref (aU K x)) d.name)&&isFn K (.ref f))))
 |.ini x=>codeIn K (.ref c) d.qual&&(keepIn K (.ref f)&&(makesIn K (aU K x)&&(CQ f (findIn K (.ref (aU K x)) "__init__")&&(isFn K (.ref f)&&(keepIn K (.ref (aU K x))&&CQ (aU K x) (nsIn K mainGlobals x))))))
theorem fk{K:Waa}{h:Heap}{n:Str->Option Value}(X:K.In h)(G:h.Ns mainGlobals n){d:Df}{j:Kd}(m:Str)(t c f:Nat)(l:K.lookup f=some (fo d m t c))(q:Kq K d f c j=true)
  (b:∀us:List Value,us.length=d.ps.length->bindArgs (PySem.W.fnOf d.name d.qual (cF d.st) (bD d.st) (aK d.st) .none .none .none (.str m t) none (.ref c) .none) ⟨us,[]⟩=Pure.pure (d.ps.zip us)):y4 K n (d,j):=by
 cases j with
 |fn=>obtain⟨g,q⟩:=an2 q;obtain⟨a,e⟩:=an2 q;exact⟨f,_,ju l g a,.all b,abV X G (kf e),a⟩
 |me x=>obtain⟨g,q⟩:=an2 q;obtain⟨a,q⟩:=an2 q;obtain⟨e,q⟩:=an2 q;obtain⟨k,i⟩:=an2 q;exact⟨f,_,ju l g a,.all b,vI e,kf k,i,a⟩
 |ini x=>obtain⟨g,q⟩:=an2 q;obtain⟨a,q⟩:=an2 q;obtain⟨e,q⟩:=an2 q;obtain⟨k,q⟩:=an2 q;obtain⟨i,q⟩:=an2 q;obtain⟨p,o⟩:=an2 q;exact⟨f,_,ju l g a,.all b,⟨e,kf k,i,p⟩,abV X G (kf o)⟩
theorem fm{a:Type}{P:a->Prop}{x:a}{l:List a}(h:P x)(k:∀y∈l,P y):∀y∈x::l,P y:=List.forall_mem_cons.mpr ⟨h,k⟩
theorem fC{K:Waa}{h:Heap}{a:Str->Option Value}(X:K.In h)(G:h.Ns mainGlobals a){x:Str}{k:Int}(t:Nat)(e:PySem.W.nsIn K mainGlobals x=some (some (.int k t))):∃v u,a x=some u/\RelV v u/\∀S H,Fz K S H v (.int k):=⟨.int k,_,abV X G e,⟨_,rfl⟩,λ_ _=>.int _⟩
theorem b1{a:Type}{P:List a->Prop}(h:∀a0,P [a0])(l:List a)(e:l.length=1):P l:=by
 match l,e with
 |[a0],_=>exact h a0
theorem b2{b:Type}{P:List b->Prop}(h:∀a0 a,P [a0,a])(l:List b)(e:l.length=2):P l:=by
 match l,e with
 |[a0,a],_=>exact h a0 a
theorem b3{c:Type}{P:List c->Prop}(h:∀a0 a b,P [a0,a,b])(l:List c)(e:l.length=3):P l:=by
 match l,e with
 |[a0,a,b],_=>exact h a0 a b
theorem b4{d:Type}{P:List d->Prop}(h:∀a0 a c b,P [a0,a,c,b])(l:List d)(e:l.length=4):P l:=by
 match l,e with
 |[a0,a,c,b],_=>exact h a0 a c b
theorem gives{w:World}{b:Str->Option Value}{g:Addr}{h:Heap} (X:(KK w.params).In h) (G:h.Ns mainGlobals b) (c:b lc=some (.ref g)):
  ∃f:FuncData,(∀(s:Shared) (v:Value),BindsTo s f ⟨[v],[]⟩ [(hI,v)])/\∀a:Heap,(KK w.params).In a->a.Ns mainGlobals b->FnOk (PySem.Challenge.rw_nearpool_k51_whole_no_run_into_a_pool).prog w (KK w.params) b a CX0 9 g f [hI] (vG (KK w.params)):=by
 have M:Md (KK w.params) b pl.tb pl.pg pl.D:=Pl.md Fs (fm (fk X G hY 187 20 21 (by kernel_rfl) (by kernel_rfl) (b1 λ_=>rfl))
  (fm (fk X G hY 187 27 28 (by kernel_rfl) (by kernel_rfl) (b1 λ_=>rfl))
  (fm (fk X G hY 187 32 33 (by kernel_rfl) (by kernel_rfl) (b1 λ_=>rfl))
  (fm (fk X G hY 187 37 38 (by kernel_rfl) (by kernel_rfl) (b1 λ_=>rfl))
  (fm (fk X G hY 187 44 45 (by kernel_rfl) (by kernel_rfl) (b1 λ_=>rfl))
  (fm (fk X G ce 228 51 52 (by kernel_rfl) (by kernel_rfl) (b4 λ_ _ _ _=>rfl))
  (fm (fk X G ce 228 58 59 (by kernel_rfl) (by kernel_rfl) (b4 λ_ _ _ _=>rfl))
  (fm (fk X G ce 228 65 66 (by kernel_rfl) (by kernel_rfl) (b2 λ_ _=>rfl))
  (fm (fk X G ce 228 72 73 (by kernel_rfl) (by kernel_rfl) (b2 λ_ _=>rfl))
  (fm (fk X G ce 228 79 80 (by kernel_rfl) (by kernel_rfl) (b2 λ_ _=>rfl))
  (fm (fk X G ce 228 86 87 (by kernel_rfl) (by kernel_rfl) (b3 λ_ _ _=>rfl))
  (fm (fk X G ce 228 91 92 (by kernel_rfl) (by kernel_rfl) (b2 λ_ _=>rfl))
  (fm (fk X G ce 228 98 99 (by kernel_rfl) (by kernel_rfl) (b2 λ_ _=>rfl))
  (fm (fk X G np 346 105 106 (by kernel_rfl) (by kernel_rfl) (b3 λ_ _ _=>rfl))
  (fm (fk X G np 346 112 113 (by kernel_rfl) (by kernel_rfl) (b2 λ_ _=>rfl))
  (fm (fk X G np 346 119 120 (by kernel_rfl) (by kernel_rfl) (b2 λ_ _=>rfl))
  (fm (fk X G lv 379 126 127 (by kernel_rfl) (by kernel_rfl) (b3 λ_ _ _=>rfl))
  (fm (fk X G lv 379 133 134 (by kernel_rfl) (by kernel_rfl) (b2 λ_ _=>rfl))
  (fm (fk X G lv 379 140 141 (by kernel_rfl) (by kernel_rfl) (b2 λ_ _=>rfl))
  (fm (fk X G lv 379 147 148 (by kernel_rfl) (by kernel_rfl) (b2 λ_ _=>rfl))
  (fm (fk X G lw 427 154 155 (by kernel_rfl) (by kernel_rfl) (b3 λ_ _ _=>rfl))
  (fm (fk X G lw 427 161 162 (by kernel_rfl) (by kernel_rfl) (b2 λ_ _=>rfl))
  (fm (fk X G lw 427 168 169 (by kernel_rfl) (by kernel_rfl) (b3 λ_ _ _=>rfl))
  (fm (fk X G lw 427 173 174 (by kernel_rfl) (by kernel_rfl) (b3 λ_ _ _=>rfl))
  (fm (fk X G ol 465 180 181 (by kernel_rfl) (by kernel_rfl) (b4 λ_ _ _ _=>rfl))
  (fm (fk X G ol 465 185 186 (by kernel_rfl) (by kernel_rfl) (b3 λ_ _ _=>rfl))
  (fm (fk X G ol 465 190 191 (by kernel_rfl) (by kernel_rfl) (b3 λ_ _ _=>rfl))
  (fm (fk X G lm 492 197 198 (by kernel_rfl) (by kernel_rfl) (b2 λ_ _=>rfl))
  (fm (fk X G lm 492 204 205 (by kernel_rfl) (by kernel_rfl) (b2 λ_ _=>rfl))
  (fm (fk X G lm 492 211 212 (by kernel_rfl) (by kernel_rfl) (b2 λ_ _=>rfl))
  (fm (fk X G lm 492 218 219 (by kernel_rfl) (by kernel_rfl) (b1 λ_=>rfl))
  (fm (fk X G lm 492 225 226 (by kernel_rfl) (by kernel_rfl) (b1 λ_=>rfl))
  (fm (fk X G lm 492 230 231 (by kernel_rfl) (by kernel_rfl) (b2 λ_ _=>rfl))
  (fm (fk X G lm 492 237 238 (by kernel_rfl) (by kernel_rfl) (b1 λ_=>rfl))
  (fm (fk X G lm 492 244 245 (by kernel_rfl) (by kernel_rfl) (b3 λ_ _ _=>rfl))
  (fm (fk X G lm 492 251 252 (by kernel_rfl) (by kernel_rfl) (b3 λ_ _ _=>rfl))
  (fm (fk X G lm 492 256 257 (by kernel_rfl) (by kernel_rfl) (b2 λ_ _=>rfl))
  (fm (fk X G lm 492 263 264 (by kernel_rfl) (by kernel_rfl) (b4 λ_ _ _ _=>rfl))
  (fm (fk X G lm 492 270 271 (by kernel_rfl) (by kernel_rfl) (b3 λ_ _ _=>rfl))
  (fm (fk X G lm 492 275 276 (by kernel_rfl) (by kernel_rfl) (b1 λ_=>rfl))
  (λ_ h=>by cases h))))))))))))))))))))))))))))))))))))))))) (fm (fC X G 258 (by kernel_rfl))
  (fm (fC X G 260 (by kernel_rfl))
  (fm (fC X G 240 (by kernel_rfl))
  (fm (fC X G 193 (by kernel_rfl))
  (fm (fC X G 266 (by kernel_rfl))
  (fm (fC X G 236 (by kernel_rfl))
  (fm (fC X G 244 (by kernel_rfl))
  (fm (fC X G 254 (by kernel_rfl))
  (fm (fC X G 264 (by kernel_rfl))
  (fm (fC X G 262 (by kernel_rfl))
  (fm (fC X G 191 (by kernel_rfl))
  (fm (fC X G 246 (by kernel_rfl))
  (fm (fC X G 429 (by kernel_rfl))
  (fm (fC X G 248 (by kernel_rfl))
  (fm (fC X G 250 (by kernel_rfl))
  (fm (fC X G 189 (by kernel_rfl))
  (fm (fC X G 256 (by kernel_rfl))
  (fm (fC X G 232 (by kernel_rfl))
  (fm (fC X G 242 (by kernel_rfl))
  (fm (fC X G 252 (by kernel_rfl))
  (fm (fC X G 230 (by kernel_rfl))
  (fm (fC X G 234 (by kernel_rfl))
  (fm (fC X G 238 (by kernel_rfl))
  (fm (fC X G 431 (by kernel_rfl))
  (λ_ h=>by cases h)))))))))))))))))))))))))
  (λx i=>PySem.W.mg_none_of X G (vH (abq.mp (by kernel_rfl:(pl.nog.all λx=>Gb (PySem.W.nsIn (KK w.params) mainGlobals x))=true) x i)))
  (λz k=>have q:=an2 (abq.mp (by kernel_rfl:(pl.fld.all λz=>Ii (KK w.params) (aU (KK w.params) z.1)&&Gb (PySem.W.findIn (KK w.params) (.ref (aU (KK w.params) z.1)) z.2))=true) z k);⟨vI q.1,vH q.2⟩)
 have e:=c.symm.trans (abV X G (by kernel_rfl:PySem.W.nsIn (KK w.params) mainGlobals lc=some (some (.ref 276))));cases e;have F:Fun (KK w.params) D_law.name D_law.qual D_law.st 276 _:=ju (by kernel_rfl:(KK w.params).lookup 276=some (fo D_law lm 492 275)) (by kernel_rfl) (by kernel_rfl);exact⟨_,λs v=>.of_eq rfl,λa _ _=>M.law (n:=8) (j:=Fq) (d:=D_law) rfl F pure⟩
theorem walk{l:PySem.W.OpenLaw}{q:Program}{loose:List Str}{XP:(Str->Option Value)->Heap->Prop}{YP:World->Heap->Prop}{d:DefRec}{K:Params->Waa}(r:l.most=some 63)(e:d.params.defaults=[])
  (j:∀(w:World) (h:Heap),YP w h->(K w.params).In h)
  (F:∀(w:World) (c:Str->Option Value) (i:Addr) (h:Heap),(K w.params).In h->h.Ns mainGlobals c->c d.name=some (.ref i) ->
   ∃g:FuncData,(∀(s:Shared) (u:Value),BindsTo s g ⟨[u],[]⟩ [(hI,u)])/\∀b:Heap,(K w.params).In b->b.Ns mainGlobals c->FnOk l.prog w (K w.params) c b CX0 9 i g [hI] (vG (K w.params))):
  PySem.W.WalkO q loose XP YP l.row.toRowW d [] (λf vs=>PySem.call f vs):=
 L2.walk_of (n:=63) (k:=9) (x:=hI) (CX:=λ_=>CX0) (sp:=λw=>vG (K w.params)) r (by decide) e ⟨rfl,by decide,by decide,rfl⟩ j F (λ_ _ a p m _ o=>⟨a,p,rfl,o,m,λ_=>rfl⟩) λ_ _ _ _ _ z=>z
end Np
open PySem PySem.W PyProof.Rows
set_option maxRecDepth 100000 in
set_option maxHeartbeats 0 in
theorem PySem.Challenge.cw_nearpool_k51_whole_no_run_into_a_pool_holds : PySem.Challenge.rw_nearpool_k51_whole_no_run_into_a_pool.Holds := by
 w_on
 refine holds_law Np.said λa=>?_;refine holds_open (q:=Np.qv) (loose:=[]) (Xt:=Np.xt) (XP:=XL Np.qv []) (Yf:=Hook.obs Np.hk) (Ya:=Hook.val Np.hk) (YP:=Hook.says Np.hk) (N:=3160) (d:=Np.dd) (kwd:=[]) Np.left (Hook.of Np.hk) (Hook.keeps Np.hk) (λs e=>xl_of s (aa2.mp e).1) XL.keeps (by kernel_rfl) (by kernel_rfl) (by kernel_rfl) (λs e=>recFacts_of (aa2.mp e).2) (by rfl) a (by kernel_rfl) ⟨rfl,rfl,rfl,rfl,rfl,by decide +kernel⟩ ?hw ?hc
 case hw=>w_witness2
 case hc=>exact Np.walk (l:=PySem.Challenge.rw_nearpool_k51_whole_no_run_into_a_pool) (K:=Np.KK) (d:=Np.dd) rfl (by kernel_rfl) (λw h Y=>kIn_of Y) (λw f g h c G b=>Np.gives c G b)
